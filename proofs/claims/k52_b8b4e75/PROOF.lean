import PyProof.Rows.All
import Wide.All
import OpenK.AllK
import Wide.FinOn
import Lean
import PyProof.EqAt
import PyProof.EqKinds
import PyProof.TupleCall
import PyProof.FactsAll.set
import PyProof.FactsAll.subtypes
import KE.KTupSum
import KE.KMinBuiltin
import PyProof.Draws
import PyProof.DictWalks
import PyProof.DictCompW
import PyProof.IsiH_tuple
import PyProof.FactsAll.zip
import KE.KDictOf
import PyProof.DictValues
import PySem.Challenge.RW_needledeck_k52_back_from_counts
set_option Elab.async false
set_option linter.all false
set_option maxRecDepth 100000
set_option maxHeartbeats 4000000
open Array renaming length_toList → Am, getD_eq_getD_getElem? → Cs, toList_append → Dx, getElem?_toList → Fh, getElem?_eq_some_iff → Hs, getElem?_eq_getElem → Ih, toList_push → Io, getElem?_eq_none → Mu, toList_extract → Oh, perm_iff_toList_perm → Qn, size_setIfInBounds → Ro, toList_reverse → Vl, size_map → Vm, forIn_toList → Yb, toList_setIfInBounds → gN
open Bool renaming false_ne_true → Bp, false_eq_true → Bw, and_eq_true → Fu, not_eq_true' → Kq, not_eq_false' → Qt, not_true → Sm, and_false → Wf
open Classical renaming byContradiction → Pr
open False renaming elim → Kw
open ForInStep renaming done → Cv, yield → El
open Int renaming toNat_natCast → Hg, ne_of_lt → aU
open LawfulBEq renaming eq_of_beq → Dz
open List renaming mem_cons_self → Ab, mem_cons_of_mem → Ad, length_map → Af, mem_append_right → Ag, mem_append_left → Ak, mem_singleton → Al, mem_cons → An, map_cons → Ao, size_toArray → Ar, getElem?_eq_some_iff → Av, mem_append → Aw, pairwise_cons → Bb, not_mem_nil → Bd, mem_of_getElem? → Be, length_append → Bf, map_append → Bh, getElem?_map → Bj, sublist_append_right → Bk, length_cons → Bm, append_assoc → Bt, getElem?_eq_getElem → Bx, replicate → Bz, lookup_cons → Cb, range → Cd, nodup_cons → Co, pairwise_append → Cr, sublist_cons_self → Cy, mem_map → Df, length_range → Dh, perm_middle → Dj, map_map → Dn, cons_append → Do, length_take → Du, nodup_nil → Dv, append_nil → Ec, perm_append_comm → Et, pairwise_singleton → Ey, take_length → Ff, take_append_drop → Fj, length_singleton → Fl, length → Ft, getElem?_append_right → Gh, replicate_succ → Gi, mem_iff_getElem → Gx, nodup_append → He, sum_cons → Hq, mem_replicate → Hu, length_replicate → Hx, length_nil → Ik, find?_cons → Il, take_sublist → Ip, map_set → Iq, flatten_cons → Ir, ext_getElem? → Iu, drop_sublist → Iv, getElem?_take_of_lt → Ja, map_congr_left → Jd, take_of_length_le → Jt, dropLast_concat_getLast → Jy, reverse_perm → Kn, getElem?_set → Ko, mem_range → Ky, pairwise_iff_getElem → Lh, getElem?_append_left → Li, extract_eq_take_drop → Lj, length_pos_iff → Lo, flatMap_append → Lp, filterMap_cons → Lq, zip_cons_cons → Mh, length_zipIdx → Mi, lookup → Mj, length_eq_zero_iff → Mk, zipIdx_cons → Nq, mem_flatMap → Nr, length_drop → Nt, any_cons → Of, length_zip → Po, length_set → Pp, forIn_cons → Pq, map_nil → Py, forIn_nil → Qq, filter_append → Qr, drop_eq_getElem_cons → Rm, mem_reverse → Sy, eraseIdx_cons_succ → Sz, append_eq_nil_iff → Ue, nil_append → Uz, pairwise_reverse → Vc, getElem?_reverse → Vd, mem_of_mem_drop → Vz, getElem?_set_ne → Wa, drop_zero → Wb, mem_map_of_mem → Xt, ne_nil_of_mem → Yz, mem_filterMap → Za, map_replicate → Zb, getElem?_drop → Zc, mapM_toArray → aC, flatMap_cons → aD, any_map → aE, any_eq_true → dG, perm_append_comm_assoc → gK, idxOf_lt_length_of_mem → gL, getD_eq_getElem?_getD → kC, length_erase_of_mem → oR, getElem?_cons_succ → oT, length_pos_of_mem → rL, getElem?_set_self → rM, drop_of_length_le → rN, mem_iff_getElem? → uF, map_eq_nil_iff → xN, filter_eq_self → xO
open List.Pairwise renaming nil → Ea, sublist → Je
open List.Perm renaming swap → Dk, refl → Hk, cons → Iy, append_left → Jo
open List.Sublist renaming refl → Ci, cons → Ve
open List.cons renaming inj → Ig
open Nat renaming le_refl → Aj, ne_of_lt → Bu, lt_of_lt_of_le → Cc, le_trans → Cg, zero_le → Di, lt_succ_of_lt → Fg, lt_irrefl → Fo, le_of_lt → Iw, not_lt_zero → Ka, zero_add → Mz, le_add_right → Oe, le_succ → Ox, ne_of_gt → Ql, lt_succ_self → Tb, mod_lt → Ux, lt_trans → Uy, succ_pos → aT, lt_succ_iff → gJ
open Ne renaming symm → Ln
open Option renaming map_some → Oo, none → Qv, isSome_iff_exists → Rl
open Option.some renaming inj → Bv
open Or renaming inl → Dw
open Prod.mk renaming injEq → Js
open PyProof.Rows renaming wpS_bind → Az, pendingOf → Bg, wpS_pure → Bi, SortSt → By, seqObj → Ej, wpS_forRange → Ep, slot_tuple_getitem → Es, IntsAre → Ez, callWith_type1 → Fi, wpS_mono → Hr, wpS_modify → Kj, failedOf → Mq, SortKind → Ms, get?_update_seq → Mx, wpS_get → Nw, envOfC → Sv, reverseSlice' → Uw, AllBare → Wm, sortedAll → aB, listUpdate_at → dD, firstOfTuple' → dF, size_push' → dM, listItems_at → gG, subscriptTail_builtinR → D0
open PyProof.Rows.F renaming plain_set_update_loop → Jx, entry_set_update_loop → Sk
open PySem renaming wpAny_bind → Aa, wpAny_pure → Ac, PyData → Ae, Shared → Ai, sizeLine → Aq, Program → Bl, starEach → Bn, wpAny_newObj_type → Ca, Around → Ce, SetTable → Cj, wpAny_holding → Ck, wpAny_call_entry → Cn, wpAny_mono → Cq, wpAny_callSpecial?_slot → Cu, foldedSetIterable → Cz, FuncData → Dc, mainGlobals → Dg, cellsFrom → Ek, rawInt → Er, wpAny_field → Ew, codeAny_builtin → Fw, IsPair → Gc, sysModules → Gm, wpAny_isInstance → Gy, DictEntry → Gz, codeAny → Hb, behindInMarks → Hd, sizeLine_eq → Hh, pyNext → Hi, backTo → Hj, letOwnedTupleGo → Ho, wpAny_typeOf → Hv, wpAny_standAt → Ib, wpAny_attempt → Ic, compareOp → Ie, wpAny_setField_rec → Ii, wpAny_seqItems → Ij, wpAny_of_eq → Jb, binaryOp → Jc, wpAny_comprehension_free → Ji, firstArgMember → Jw, wpAny_typeNameOfWhole_valiter → Kg, wpAny_typeNameOfWhole_keyiter → Kh, unsetMember → Ki, wpAny_rule → Kk, bootBuiltins → Kl, assignEach → Km, wpAny_truthy_bool → Le, wpAny_dictEntries → Lf, wpAny_setField → Lx, newFunctionEnv → Ly, wpAny_typeNameOf_valiter → Mn, wpAny_typeNameOf_keyiter → Mo, setField → Mp, attributeBase → Mr, wpAny_dictEpoch → Mw, tupleKind → Ng, swapsWith → Nh, wpAny_fieldsOf → Nx, holding → Ny, codeAny_mono → Nz, codeAny_compStart_list → Oa, assign → Oc, wpAny_notOrdered_dict → Pm, builtinLookup_eq_fast → Pn, plainId_quiet → Px, sliceBounds → Qj, NameKind → Qm, wpAny_passesOwn → Qu, wpAny_Call_Name_kw → Su, ZipApart → Sw, wpAny_storeSet_of → Ua, wpAny_pyIter_slot → Ub, getItem → Uc, Keyword → Ug, wpAny_newList → Uv, wpAny_askSetting → Vh, pickOrder → Vi, compEnvC → Vj, wpAny_nextOf_list_item → Wg, wpAny_load → Wh, standAt → Wi, intKind → Wj, entryOfKey → Wk, wpAny_loadPart' → Xp, typeLookup_type → Xq, codeAny_of_tree → Xr, wpAny_isOneOf_valiter → Xv, wpAny_updateSeq_pair → Zm, pyIter → Zn, keywordEach → Zo, isSubtype_type → Zp, isSubtype_stop → Zq, entryFor_alias → Zr, IsPart → Zs, wpAny_onRaise → dA, typeLookup → dI, tupleKind_room_in1 → dJ, setEntries → dN, call_meets → dO, wpAny_sequenceKey → gE, codeAny_loop → gH, wpAny_pyIter_zip → kF, noFill_tuple_add → kG, wpAny_pyNext_tuple_item → C5, wpAny_pyNext_tuple_end → C9, slot_list_getitem → GO
open PySem.Around renaming under_plainId → Fs
open PySem.Builtin renaming sorted → Xw
open PySem.Builtin.Dict renaming showsAll → Mb, updateFrom → aV
open PySem.Builtin.Dict_items renaming ownsTuple → Gk
open PySem.Builtin.Frozenset renaming addrOf → Eh, isAnySet → Jf, updateFrom → Ma, copyOf → Nk, baseOf → Wl, slot1 → Xu
open PySem.Builtin.List renaming listTooLong → Ku, listExtendWith → Ni, listLengthHint → Ya
open PySem.Builtin.Range renaming rangeSize → Kz
open PySem.Builtin.Slice renaming slicePlaces → Jz, sliceAdjust → Og, sliceApplied → Xz
open PySem.Builtin.SmallTypes renaming ownedTupleIsFree → Cw, nextOf → Dl, ownedTupleHandOut → Qs
open PySem.Builtin.Tuple renaming tupleExact → Gj, tupleItemsOf → Xx, tupleIsExact → Xy
open PySem.Calls renaming spliced_cons → Lz, callWith_builtin → Mt, call_function_entry → Qx, spliced_nil → Rn, evalArgs_plain → Vk, Name_function_global → gM
open PySem.F renaming slot_zip_next → We
open PySem.Heap renaming get?_push_of_some → Ah, get?_push_size → Ap, lt_size → Au, SameBut → Ct, get?_update_self → Eu, size_push → Fc, size_update → Lg, get?_none_of_le → Wc, ExtBut → Wd, get?_update_other → rO
open PySem.Heap.SameBut renaming update → Bo, refl → Oy
open PySem.NameKind renaming cell → Eb, free → En
open PySem.Obj renaming mapSeq → Eg, mapFields → Oq, data_mapFields → Qw
open PySem.PassesOwn renaming never → Ex
open PySem.PyData renaming int → Ax, depthAll → Bs, depth → Dy, tuple → Yy
open PySem.SeqAt renaming EqAt → Nj
open PySem.SetTable renaming below → Cm, bits → Da, sizeAbove → Dt, insertAt → Gv, turns → Hm, runEnd → Hw, laid → Jn, layClean → Qk, fill → Qp, insertAt_perm → kB
open PySem.SetTable.below renaming go → Ud
open PySem.SetTable.layClean renaming free → Kv
open PySem.SetTable.probe renaming go → Od
open PySem.Str renaming ofString → Dq
open PySem.Value renaming ref → Ay, none → Fp, type → Gd, int → Lb
open Sum renaming inl → Xs
open True renaming intro → Jr
set_option hygiene false
local macro_rules
|`(tactic|w_pre $h)=>match h.getId.toString with
 | "a"=>`(tactic|(
  obtain ⟨it,fp,tn,J,H2,e,I2,T,st2,f2,q2⟩:=h2
  subst e
  have fD:H2 s2.heap.objs.size=none:=I2.hok.fresh (Aj _)
  obtain ⟨W,⟨m0,w0⟩,turn⟩:=q2 s2.heap.objs.size fD
  refine Ca ?_
  have I3:Inv X pins σ (upd H2 s2.heap.objs.size (.lst [])) { s2 with heap:=s2.heap.push { cls:=.type "list",dict:=none,data:=.seq ([]:List Value).toArray } } :=
   I2.laid (t':=s2.toks) (λb u q=>Ah _ q) (Aj _) ⟨Di _,[],0,.nil,Ap _ rfl⟩
  have nfp:∀b∈fp,b≠s2.heap.objs.size:=λb hb z=>by
   obtain ⟨o,q,_⟩:=T.obj _ _ st2 b hb
   have:=Au q
   rw[z] at this
   exact absurd this (Fo _)
  have f3:∀b∈fp,Ml X pins (upd H2 s2.heap.objs.size (.lst [])) b:=λb hb=>⟨by rw[Dr (nfp b hb)]; exact (f2 b hb).1,(f2 b hb).2⟩
  generalize hS3:({ s2 with heap:=s2.heap.push { cls:=.type "list",dict:=none,data:=.seq ([]:List Value).toArray } }:Ai)=s3 at I3
  have st3:tn 0 s3.heap:=T.keep 0 _ _ st2 λb hb o q=>by rw[<- hS3]; exact Ah _ q
  have o3:∀b∈fp,∃o,s3.heap.get? b=some o:=λb hb=>let ⟨o,q,_⟩:=T.obj _ _ st3 b hb; ⟨o,q⟩
  show wpAny _ _ (Ly scope X.env.globals cl [] X.env.qual none .none (some X.env)) _ _ _
  refine Re C λh4 hns4 keep4 new4=>?_
  have I4:∀tk,Inv (Dm X scope cl (x::ys) fp s3 (upd H2 s2.heap.objs.size (.lst []))) [] (none::Ei σ js) (upd H2 s2.heap.objs.size (.lst [])) { s3 with heap:=h4,toks:=tk }:=λtk=>Ph (pre:=[x]) C I3 f3 o3 hns4 keep4 new4
  have st4:tn 0 h4:=T.keep 0 _ _ st3 λb hb o q=>keep4 b o q
  generalize hX':Dm X scope cl (x::ys) fp s3 (upd H2 s2.heap.objs.size (.lst []))=X' at I4
  have eP:X'.prog=X.prog:=by rw[<- hX']; rfl
  have eW:X'.w=X.w:=by rw[<- hX']; rfl
  have eK:X'.K=X.K:=by rw[<- hX']; rfl
  have eA:X'.A=X.A:=by rw[<- hX']; rfl
  have eC:X'.calm=true:=by rw[<- hX']; exact hc
  have stat:∀{H':Hp},(∀b∈fp,H' b=none)->∀b∈fp,Ml X' [] H' b:=λ{H'} hn b hb=>by
   have ok:=(I4 0).ok
   have hex:b∈X'.ex:=by rw[<- hX']; exact hb
   exact ⟨hn b hb,(ok.exf b hex).1,ok.exfs b hex,.inl hex,(ok.exf b hex).2,λp hp=>by rw[<- hX'] at hp; cases (show p∈([]:List (Addr×Obj)) from hp)⟩))
 | "b"=>`(tactic|(
  rcases turn i n H6 w6 with ⟨stop,qn⟩ | ⟨go,step⟩
  ·have hd:=T.done X' eP eW eK eC i [] s6 _ H6 (λ_ _=>False) I6 (stat fr6) st6 stop
   rw[eA] at hd
   refine Gb hd λr s7 ⟨hr,I7⟩=>?_
   subst hr
   obtain ⟨m7,hn7,_⟩:=I7.loc
   have hn7':s7.heap.Ns s3.heap.objs.size m7:=by rw[<- hX'] at hn7; exact hn7
   refine ⟨m7,hn7',λh8 hs8=>?_⟩
   have I7f:H6 s3.heap.objs.size=none:=by have:=I7.free; rw[<- hX'] at this; exact this
   have b7:Un (gC X.stack) fp (upd H2 s2.heap.objs.size (.lst [])) H6 s3.heap s7.heap:=by have:=I7.base; rw[<- hX'] at this; exact this
   have ne8:∀b o,s3.heap.get? b=some o->b≠s3.heap.objs.size:=λb o q=>Bu (Au q)
   have u8:Un (gC X.stack) fp (upd H2 s2.heap.objs.size (.lst [])) H6 s3.heap h8:=by
    refine ⟨λb o q n hb hx=>(hs8.2 b (ne8 b o q)).trans (b7.keep b o q n hb hx),λb o q n hb hx=>?_,b7.free,λb o q hx=>?_,b7.tups,b7.frzs,b7.tbls⟩
    ·obtain ⟨sl,z⟩:=b7.slot b o q n hb hx
     exact ⟨sl,(hs8.2 b (ne8 b o q)).trans z⟩
    ·obtain ⟨o',z⟩:=b7.there b o q hx
     exact ⟨o',(hs8.2 b (ne8 b o q)).trans z⟩
   have hok8:Vf X.prog X.w H6 h8:=λb ob e=>by
    have hk7:=I7.hok
    rw[eP,eW] at hk7
    refine (hk7 b ob e).stay (λc w' hcc q=>(hs8.2 c ?_).trans q) (λ_ q=>q) λ_ _ q=>q
    rintro rfl
    rcases hcc with rfl | hcc
    ·rw[I7f] at e; cases e
    ·rw[I7f] at hcc; cases hcc
   have os7:s7.os=s3.os:=by have:=I7.os; rw[<- hX'] at this; exact this
   exact ⟨.ref s2.heap.objs.size,H6,I3.call' (s':={ s7 with heap:=h8 }) (ch:=fp) os7 u8 hok8 I7.bare (λb hb=>⟨(f3 b hb).2.2.2.1,(f3 b hb).2.1,(f3 b hb).2.2.2.2.1,(f3 b hb).2.2.2.2.2⟩),rfl,qn⟩))
 | "c"=>`(tactic|(
  ·have hit:=T.item X' eP eW eK eC i [] s6 _ H6 (λ_ _=>False) I6 (stat fr6) st6 go
   rw[eA] at hit
   refine Gb hit λr s7 ⟨u,hr,h7⟩=>?_
   subst hr
   refine Gb h7 λ_ s8 ⟨y,H8,I8,r8,y8,st8,fr8⟩=>?_
   have I8':=I8.pinned (stat fr8) (T.obj _ _ st8)
   obtain ⟨N1,N2,hN1,hN2,hst⟩:=step y H8 y8
   have again:∀{H9:Hp} {s9:Ai} {m':Nat},Inv X' ([]++Pb fp s8.heap) (some y::Ei σ js) H9 s9->m'<n->W (i+1) m' H9->∃m,m<n/\∃i o H',Inv X' [] (o::Ei σ js) H' s9/\tn i s9.heap/\(∀b∈fp,H' b=none)/\W i m H':=λ{H9 s9 m'} I9 hm w9=>by
    refine ⟨m',hm,i+1,some y,H9,I9.unpinned,T.keep _ _ _ st8 λb hb o e=>(I9.pin (b,o) (Ag _ (Ag _ (Ga hb e)))).1,λb hb=>?_,w9⟩
    obtain ⟨o,e,_⟩:=T.obj _ _ st8 b hb
    exact (I9.pin (b,o) (Ag _ (Ag _ (Ga hb e)))).2.1
   subst hX'
   refine Gb (Me (i:=0) (x:=x) (pos:=px) C.nd rfl (Ol C.own) (Rp C.own) _ s8 _ H8 y u (λσ' H'=>σ'=some y::Ei σ js/\H'=H8) I8' r8 ⟨rfl,rfl⟩) λ_ s9 ⟨σ9,H9,I9,e9,e9'⟩=>?_
   subst e9 e9'
   refine Gb (ht fp s3 _ _ s9 _ _ _ I9 hst) λok s10 ⟨H10,I10,q10⟩=>?_
   cases ok with
   | false =>
    rw[if_neg Bp] at q10 ⊢
    obtain ⟨m',hm,w10⟩:=hN1 _ q10
    exact again I10 hm w10
   | true =>
    rw[if_pos rfl] at q10 ⊢
    refine Gb (he fp s3 _ _ s10 _ _ _ I10 q10) λz s11 ⟨vz,H11,I11,r11,q11⟩=>?_
    obtain ⟨acc,ha,hz,m',hm,w11⟩:=hN2 _ _ q11
    refine Gb (Ow _ s11 _ H11 (.ref s2.heap.objs.size) [vz] (.ref s2.heap.objs.size) [z] (λ_ H'=>H'=upd H11 s2.heap.objs.size (.lst (acc++[vz]))) I11 rfl (.cons r11 .nil) ⟨_,acc,vz,rfl,rfl,ha,hz,rfl⟩) λ_ s12 ⟨_,H12,I12,_,e12⟩=>?_
    subst e12
    exact again I12 hm w11))
 | "d"=>`(tactic|(
  intro pins s σ H Q I h
  rw[eval_ListComp]
  refine Ji (use:=none) rfl hs C.clos C.kind C.locs (Gb (hi pins s σ H _ I h) λv s1 h1=>Gb h1 λitv s2 h2=>?_)
  obtain ⟨it,fp,tn,J,H2,e,I2,T,st2,f2,q2⟩:=h2
  subst e
  have fD:H2 s2.heap.objs.size=none:=I2.hok.fresh (Aj _)
  obtain ⟨W,⟨m0,w0⟩,turn⟩:=q2 s2.heap.objs.size fD
  refine Ca ?_
  have I3:Inv X pins σ (upd H2 s2.heap.objs.size (.lst [])) { s2 with heap:=s2.heap.push { cls:=.type "list",dict:=none,data:=.seq ([]:List Value).toArray } } :=
   I2.laid (t':=s2.toks) (λb u q=>Ah _ q) (Aj _) ⟨Di _,[],0,.nil,Ap _ rfl⟩
  have nfp:∀b∈fp,b≠s2.heap.objs.size:=λb hb z=>by
   obtain ⟨o,q,_⟩:=T.obj _ _ st2 b hb
   have:=Au q
   rw[z] at this
   exact absurd this (Fo _)
  have f3:∀b∈fp,Ml X pins (upd H2 s2.heap.objs.size (.lst [])) b:=λb hb=>⟨by rw[Dr (nfp b hb)]; exact (f2 b hb).1,(f2 b hb).2⟩
  generalize hS3:({ s2 with heap:=s2.heap.push { cls:=.type "list",dict:=none,data:=.seq ([]:List Value).toArray } }:Ai)=s3 at I3
  have st3:tn 0 s3.heap:=T.keep 0 _ _ st2 λb hb o q=>by rw[<- hS3]; exact Ah _ q
  have o3:∀b∈fp,∃o,s3.heap.get? b=some o:=λb hb=>let ⟨o,q,_⟩:=T.obj _ _ st3 b hb; ⟨o,q⟩
  show wpAny _ _ (Ly scope X.env.globals cl [] X.env.qual none .none (some X.env)) _ _ _
  refine Re C λh4 hns4 keep4 new4=>?_))
 | "e"=>`(tactic|(
  ·unfold vs
   rw[Iq]
   apply Iu
   intro j
   rw[Ko]
   split
   ·rename_i hij
    subst hij
    rw[Bj,e2]
    split
    ·rfl
    ·rename_i hj
     rw[Af] at hj
     exact absurd (Av.mp e2).1 hj
   ·rfl
  ·unfold Sl at hS ⊢
   rw[Iq,hS]))
 | "f"=>`(tactic|(
  obtain ⟨oi,gi,ci,di⟩:=id hI
  obtain ⟨ob,gb,xb,db⟩:=id hE
  have tI:=hI.typeIs
  unfold Hi
  refine Aa (Ic (Cu (name:=Dq "__next__") tI PySem.F.slot_dict_valueiterator_next (Cn PySem.F.slot_dict_valueiterator_next tI PySem.F.entry_dict_valueiterator_next ?_ (PySem.F.args_dict_valueiterator_next_1 _))))
  refine Aa (Ac (Aa (Aa ?_)))
  first | refine Aa (Kg tI (Ac ?_)) | refine Aa (Mn tI (Ac ?_))
  refine Aa (Nx gi di ?_)
  simp only[show Gk "dict_valueiterator" = false by decide,Bw,if_false]
  show wpAny _ _ (ite ((Ay d == Fp)=true) _ _) _ _ s
  rw[if_neg (show ¬ (Ay d == Fp)=true from Bp)]
  refine Aa (Ac (Aa (Lf gb db ?_)))
  rw[if_neg (by simp)]
  refine Aa (Ac (Aa (Mw gb db ?_)))
  rw[if_neg (by simp)]
  refine Ac ?_))
 | "g"=>`(tactic|(
  obtain ⟨oi,gi,ci,di⟩:=id hI
  obtain ⟨ob,gb,xb,db⟩:=id hE
  have tI:=hI.typeIs
  refine Cu (name:=Dq "__next__") tI PySem.F.slot_dict_keyiterator_next (Cn PySem.F.slot_dict_keyiterator_next tI PySem.F.entry_dict_keyiterator_next ?_ (PySem.F.args_dict_keyiterator_next_1 _))
  refine Aa (Ac (Aa (Aa ?_)))
  first | refine Aa (Kh tI (Ac ?_)) | refine Aa (Mo tI (Ac ?_))
  refine Aa (Nx gi di ?_)
  simp only[show Gk "dict_keyiterator" = false by decide,Bw,if_false]
  show wpAny _ _ (ite ((Ay d == Fp)=true) _ _) _ _ s
  rw[if_neg (show ¬ (Ay d == Fp)=true from Bp)]
  refine Aa (Ac (Aa (Lf gb db ?_)))
  rw[if_neg (by simp)]
  refine Aa (Ac (Aa (Mw gb db ?_)))
  rw[if_neg (by simp)]
  refine Ac ?_))
 | "h"=>`(tactic|(
  ·rintro z c st4 _ _ ⟨rfl,g4,rn4,as4⟩
   refine Az (Nw ?_)
   by_cases hs1:(Bg st4).size > 1
   ·rw[if_pos hs1]
    obtain ⟨⟨a1,b1,older⟩,ho⟩ : ∃x,(Bg st4)[(Bg st4).size - 2]? = some x:=⟨(Bg st4)[(Bg st4).size - 2],by simp⟩
    rw[ho]
    dsimp only
    refine Qh (λ_=>Bi ⟨rfl,g4,rn4,as4⟩) (λ_=>?_)
    refine Az (jR C g4 h0 hlo rn4 (i:=(Bg st4).size - 2) (show (Bg st4).size - 2+1<(Bg st4).size by omega) λst5 g5 rn5 _ keep=>?_)
    refine Qh (λz=>absurd z (by decide)) (λ_=>?_)
    exact Bi ⟨rfl,g5,rn5,keep _ _ (Aj _) as4⟩
   ·rw[if_neg hs1]
    exact Bi ⟨rfl,g4,rn4,as4⟩))
 | "i"=>`(tactic|(
  obtain ⟨os,hos,hcs,hds⟩:=id hs
  have hTs:s.TypeIs (.ref sl) "slice" := ⟨os,hos,hcs⟩
  unfold Uc
  try with_reducible refine Ck ?_
  first | refine Aa (Ac ?_) | skip
  refine Aa (gE ht.typeIs (by decide) ?_)
  refine Aa (Cu (name:=Dq "__getitem__") ht.typeIs Es
   (Cn Es ht.typeIs entry_tuple_getitem ?_ (args_tuple_getitem _ _)))
  show wpAny _ _ (Xx (.ref t) >>= _) _ _ s
  refine Aa (tupleItemsOf_ ht ?_)
  refine Aa (Hv hTs ?_)
  rw[if_pos (by decide)]))
 | "j"=>`(tactic|(
  have h1:=h.2 _ (List.getLast_mem hne)
  by_cases e:w.getLast hne=n
  ·exact e
  ·exfalso
   have hd:=Jy hne
   rw[<- hd] at hn
   rcases Aw.mp hn with z | z
   ·have hp:=h.1
    rw[<- hd] at hp
    have:=(Cr.mp hp).2.2 _ z _ (Al.mpr rfl)
    omega
   ·exact e (Al.mp z).symm))
 | "k"=>`(tactic|(
  rw[eA] at hit
  refine Gb hit λr s7 ⟨u,hr,h7⟩=>?_
  subst hr
  refine Gb h7 λ_ s8 ⟨y,H8,I8,r8,y8,st8,fr8⟩=>?_
  have I8':=I8.pinned (stat fr8) (T.obj _ _ st8)
  obtain ⟨tp,w1,w2,ey,hsq,N1,N2,hN1,hN2,hst⟩:=step y H8 y8
  have again:∀{H9:Hp} {s9:Ai} {m':Nat},Inv X' ([]++Pb fp s8.heap) (some w1::some w2::Ei σ js) H9 s9->m'<n->W (i+1) m' H9->∃m,m<n/\∃i o o2 H',Inv X' [] (o::o2::Ei σ js) H' s9/\tn i s9.heap/\(∀b∈fp,H' b=none)/\W i m H':=λ{H9 s9 m'} I9 hm w9=>by
   refine ⟨m',hm,i+1,some w1,some w2,H9,I9.unpinned,T.keep _ _ _ st8 λb hb o e=>(I9.pin (b,o) (Ag _ (Ag _ (Ga hb e)))).1,λb hb=>?_,w9⟩
   obtain ⟨o,e,_⟩:=T.obj _ _ st8 b hb
   exact (I9.pin (b,o) (Ag _ (Ag _ (Ga hb e)))).2.1
  subst hX'))
 | "l"=>`(tactic|(
  show wpAny _ _ (bind (Mp (.ref it) 0 .none) _) _ _ s
  refine Aa (Lx gi di (by simp) ?_)
  show wpAny _ _ (bind (newExc (.type "StopIteration") []) _) _ _ _
  refine Aa ?_
  simp only[newTuple,newExc]
  refine Aa (Ca ?_ (by size_fits))
  refine Aa (m:=Jw _ _) (Jb (a:=Fp) (by first | rfl | (simp only[Jw]; rfl)) (Ca ?_ (by size_fits)))
  simp only[raiseNew]
  refine Aa (wpAny_handled ?_)
  first | rw[show A.in1.handled=none from hh] | rw[hh]
  refine Aa (Ac (wpAny_throw ?_))))
 | "m"=>`(tactic|(
  obtain ⟨hp,g,d,tk0,os⟩:=s
  show wpAny _ _ (bind (field (.ref z) 2) _) _ _ _
  refine Aa (Ew gz rfl (x:=.bool false) rfl ?_)
  show wpAny _ _ (bind (field (.ref z) 3) _) _ _ _
  refine Aa (Ew gz rfl (x:=.ref TI) rfl (Aa (Ij gI rfl ?_)))
  show wpAny _ _ (bind (Cw (.ref z)) _) _ _ _
  refine Aa ?_
  unfold Cw
  refine Aa (Ew gz rfl (x:=.none) rfl (Ac ?_))
  simp only[if_true]
  refine Aa (Kk (Aa (Ew gz rfl (x:=.ref TO) rfl (Aa (Ii gz (by simp) λh1 gz1 s1=>?_)))))))
 | "n"=>`(tactic|(
  have all:∀{l:List (List Jp×V)} {m:List (List Jp×Addr×Value)},KT H l m->∀x∈m,(Ng (Hn P w)).is h x.1 x.2.1:=by
   intro l m q
   induction q with
   | nil=>intro x hx; exact nomatch hx
   | @cons p q ps qs hq t ih =>
    intro x hx
    rcases An.mp hx with e | hx
    ·subst e
     exact Vy ok (by rw[<- hq.1]; exact hq.2.1)
    ·exact ih x hx
  exact all r x hx))
 | "o"=>`(tactic|(
  intro σ H Q h
  obtain ⟨H0,Y,S,T,δ,P,rfl,hS,hA,hd,k⟩:=h
  refine ⟨H0,Y,S,T,δ,_,rfl,hS,hA,hd,λm ds δ1 J hid S1 H1 e1 e2 hA1 it hz p1=>?_⟩
  obtain ⟨I,h0,hs,hf⟩:=p1
  rw[<- e1]
  intro D hD
  refine ⟨λi q H=>q=ds.length - i/\i<=ds.length/\∃acc n G,(b=true->G=[])/\At K H0 Y n (⟨some (.ref D),.acc acc,D::G⟩::(S1++(hid++T))) H/\acc.length<=i/\I i acc n,⟨ds.length,by simp,Di _,[],δ1.n,[],λ_=>rfl,hA1.accNew hD,Aj _,h0⟩,?_⟩
  rintro i q H ⟨rfl,hi,acc,n,G,hG,hA2,hl,hI⟩
  have hid_ok:∀e∈hid,Gr K H n e:=λe he=>hA2.ok e (Ad _ (Ag _ (Ak _ he)))
  by_cases hlt:i<ds.length))
 | "p"=>`(tactic|(
  intro σ H Q h
  obtain ⟨H0,Y,S,T,δ,P,rfl,hS,hA,hd,k⟩:=h
  refine ⟨H0,Y,S,T,δ,_,rfl,hS,hA,hd,λm ds δ1 J hid S1 H1 e1 e2 hA1 it hz p1=>?_⟩
  obtain ⟨I,h0,hs,hf⟩:=p1
  rw[<- e1]
  intro D hD
  refine ⟨λi q H=>q=ds.length - i/\i<=ds.length/\∃acc n G,(b=true->G=[])/\At K H0 Y n (⟨some (.ref D),.acc acc,D::G⟩::(S1++(hid++T))) H/\I i acc n,⟨ds.length,by simp,Di _,[],δ1.n,[],λ_=>rfl,hA1.accNew hD,h0⟩,?_⟩
  rintro i q H ⟨rfl,hi,acc,n,G,hG,hA2,hI⟩
  have hid_ok:∀e∈hid,Gr K H n e:=λe he=>hA2.ok e (Ad _ (Ag _ (Ak _ he)))
  by_cases hlt:i<ds.length))
 | "q"=>`(tactic|(
  unfold Builtin.«zip.__next__»
  refine Aa (Ac (Aa (Ew hz rfl (x:=.bool false) rfl (Aa (Ew hz rfl (x:=.ref TI) rfl (Aa (Ij hTI rfl ?_)))))))
  show wpAny _ _ (Cw (.ref z) >>= _) _ _ _
  refine Aa (Gb (cU (E:=E) hz ha) λbb s1 ⟨eb,g1,e1,hz1,hs1⟩=>?_)
  subst eb e1
  simp only[Bw,if_false]
  simp only[<- Yb,Pq,Qq]
  refine Aa (Aa (Aa (Ck ?_)))
  show wpAny _ _ (Dl (.ref i1) >>= _) _ _ _))
 | "r"=>`(tactic|(
  have : b≠D:=by
   rintro rfl
   rw[ha] at q
   cases q
   rcases z with z | z
   ·exact hF z
   ·rcases z with ⟨_,z⟩ | ⟨_,_,z⟩ <;> cases z
  rw[Dr this]
  exact q))
 | "s"=>`(tactic|(
  have : b≠a:=by
   rintro rfl
   rw[ha] at q
   cases q
   rcases z with z | z
   ·exact hF z
   ·rcases z with ⟨_,z⟩ | ⟨_,_,z⟩ <;> cases z
  rw[Dr this]
  exact q))
 | "t"=>`(tactic|(
  rintro scope rfl
  refine ⟨by rfl,.inl (by decide +kernel),by rfl,by decide +kernel,.inl rfl,λy c h=>?_,by rfl,by decide +kernel,rfl,λk y j e1 e2=>?_⟩
  ·have z:=Gw h
   simp only[An,Bd,or_false,Js] at z
   obtain ⟨rfl,rfl⟩:=z; rfl
  ·match k,e1,e2 with
   | 0,e1,e2=>cases e1; cases e2; exact ⟨rfl,rfl,by first | exact .inl rfl | exact .inr rfl⟩
   | k+1,e1,e2=>cases e1))
 | "u"=>`(tactic|(
  ·rw[hv] at z
   have w:=Ys (dt:=Ry) _ _ _ z
   unfold Ry at w
   dsimp only at w
   rw[if_pos rfl] at w
   exact w
  ·obtain ⟨xs,l1,l2,l3⟩:=hA10
   exact ⟨xs,l1,by omega,es.length - (i2+1),by omega,rfl,hlt2,acc2++[e],n',G',hG',l3,p⟩))
 | "v"=>`(tactic|(
  ·have nf:=h.free hD f hf
   refine ⟨λ_ a ha z=>?_,λ_ a ha z=>?_⟩
   ·rw[Al.mp ha] at z
    exact nf z
   ·rw[Al.mp z] at ha
    exact nf (Gs _ _ ha)
  ·rw[Al.mp ha]
   exact .inl (h.new0 hD)))
 | "w"=>`(tactic|(
  ·rw[Dr (Fn q n0)]
   exact h.same b o nx q
  ·rw[Dr (Fn q n0)]
   exact h.dom b o q
  ·obtain ⟨z,c,k,f,h1,h2⟩:=h.xd b hb
   refine ⟨z,c,k,f,(Dr ?_).trans h1,h2⟩
   rintro rfl
   exact z n0))
 | "x"=>`(tactic|(
  obtain ⟨es,hd,hE,hes,hent⟩:=pR I.hok ha
  obtain ⟨its2,rv2,p2,hz2⟩:=I.list hq2
  obtain ⟨hz,hTI,⟨o1,o2,hTO⟩,hi1,hi2⟩:=st
  have hh:X.A.in1.handled=none:=I.ok.hd hc
  have D1:=fP (prog:=X.prog) (w:=X.w) (A:=X.A.in1) hh i1 a na es es.size
  have D2:=Draws.list (prog:=X.prog) (w:=X.w) (A:=X.A.in1) hh i2 b nb its2.toArray
  have hl2:=rv2.length))
 | "y"=>`(tactic|(
  simp only[An,Bd,or_false] at hc
  rcases hc with rfl | rfl | rfl | rfl | rfl
  ·exact fr1 4
  ·exact fr1 2
  ·exact fr1 3
  ·exact fr1 0
  ·exact fr1 1))
 | "z"=>`(tactic|(
  ·have e:i=ds.length:=by omega
   subst e
   refine .inl ⟨it.stop H n hid_ok,k _ ⟨δ1.sl,n⟩ _ (D::G) S1 H e1 e2 ?_ (hf acc n hI)⟩
   have hA3:=hA2.accGetG hG
   have hA4:At K H0 Y n (⟨some (.ref D),.dat (Ss b) (.list acc),D::G⟩::(S1++T)) H:=hA3.sub (((Ci S1).append (Bk hid T)).cons₂ _)
   exact hA4.tomid))
 | "a0"=>`(tactic|(
  obtain ⟨⟨f,ho,hf⟩,S⟩:=st
  have T:s.TypeIs (.ref I) "set_iterator" := ⟨_,ho,rfl⟩
  unfold Hi
  refine Aa (Ic (Cu (name:=Dq "__next__") T Up (Cn Up T cG ?_ (fR _))))
  unfold Builtin.«set_iterator.__next__»
  refine Aa (m:=slotArgs "__next__" 0 ⟨[.ref I],[]⟩) (Jb (a:=(Ay I,[])) rfl ?_)))
 | "b0"=>`(tactic|(
  intro v σ H Q h
  obtain ⟨H0,Y,S,T,δ,x,F,P,rfl,hS,hA,hd,k⟩:=h
  show Q ((vs S).set i (some v)) H
  have fin:∀y,At K H0 Y δ.n (S++⟨some v,y,F⟩::T) H->P ⟨δ.sl.set i y,δ.n⟩->Q ((vs S).set i (some v)) H:=λy hA' p=>by
   rw[<- iX (x:=y) (F:=F)]
   exact k _ _ H (iT hS) hA'.store p))
 | "c0"=>`(tactic|(
  ·have z:=Gw h
   simp only[An,Bd,or_false,Js] at z
   obtain ⟨rfl,rfl⟩:=z; rfl
  ·match k,e1,e2 with
   | 0,e1,e2=>cases e1; cases e2; exact ⟨rfl,rfl,by first | exact .inl rfl | exact .inr rfl⟩
   | k+1,e1,e2=>cases e1))
 | "d0"=>`(tactic|(
  obtain ⟨c,kv,ks',e,ek,ha,rel,_⟩:=(Jg h Ab).dict_inv
  cases e
  obtain rfl:=Ju ek
  obtain ⟨b2,ys,G2,e2,hb2,rb2,_,_⟩:=(Jg h (Ad _ Ab)).list_inv
  cases e2
  have l2:=rb2.len))
 | "e0"=>`(tactic|(
  rw[q] at p
  subst ex
  have r:=Tn eu q λe he=>hA'.ok e (Ag _ (Ak _ he))
  have hl:=r.len
  have hz:ds.length<=Aq:=sz p.1
  refine ⟨by omega,λt ht=>?_⟩))
 | "f0"=>`(tactic|(
  refine ⟨?_,?_⟩
  ·rw[e]
   refine (Kn _).trans (h1.1.trans ?_)
   exact List.Perm.append (Kn _) (Kn _)
  ·rw[e]
   exact Vc.mpr h1.2))
 | "g0"=>`(tactic|(
  have l1:=(h ds R hp).1
  have l2:=Lu q
  rw[Af] at l2
  have l3:=congrArg Ft eu
  rw[Af,Af] at l3
  omega))
 | "h0"=>`(tactic|(
  simp only[Pq,Qq,Nq,List.zipIdx_nil]
  have g11:S1 i h1:=D1.frame _ _ _ g1 λb hb o q=>(s1.2 b (Gq ap.zf1 hb)).trans q
  have g21:S2 i h1:=D2.frame _ _ _ g2 λb hb o q=>(s1.2 b (Gq ap.zf2 hb)).trans q
  refine Aa (Aa (dA ?_))
  show wpAny _ _ (bind (Dl (.ref i1)) _) _ _ _))
 | "i0"=>`(tactic|(
  intro H0 X n S T x y v w F G H Q P hA hd k
  unfold jZ at hd
  split at hd
  ·exact ⟨_,_,(hA.told Fd).rd (Cg hd.1 (by decide)),(hA.told mem_mid).rd (Cg hd.2.1 (by decide)),hd.1,k _ _ [] H (hA.drop2.pushI (.bl _)) hd.2.2⟩
  ·exact hd.elim))
 | "j0"=>`(tactic|(
  intro pins s σ H x y v u Q I rx ry h
  obtain ⟨p,xs,d,ds,rfl,hq,hx,hs,hd,q⟩:=h
  cases ry
  have hu1:X.A.in1.units+Bs ds<cLine:=by have:=Yx X.A; omega
  rcases hq with hq | hq))
 | "k0"=>`(tactic|(
  ·have:=i8 q ok (N.length - ps.length) e he
   obtain ⟨v,x,F⟩:=e
   cases x with
   | drw=>exact absurd (hs _ he).2 (by show ¬ (true=false); decide)
   | _=>exact this))
 | "l0"=>`(tactic|(
  rw[eA] at hd
  refine Gb hd λr s7 ⟨hr,I7⟩=>?_
  subst hr
  obtain ⟨m7,hn7,_⟩:=I7.loc
  have hn7':s7.heap.Ns s3.heap.objs.size m7:=by rw[<- hX'] at hn7; exact hn7))
 | "m0"=>`(tactic|(
  intro X hP hw hK hc i pins s σ H E I hf st hg
  subst hP hw hK
  obtain ⟨xs,x,hq,hx⟩:=hg
  obtain ⟨its,rv,p,hz⟩:=I.list hq
  obtain ⟨u,hu,ru⟩:=rv.get hx))
 | "n0"=>`(tactic|(
  obtain ⟨j,h1,h2,h3,h4,h5⟩:=iZ he
  obtain ⟨w,ew,rw'⟩:=r.get h2
  have hl:=r.length
  have hn:=Yk
  have fin:EP X pins σ Q w s:=⟨z,H,I,rw',q⟩))
 | "o0"=>`(tactic|(
  obtain ⟨s',n',p'⟩:=y
  have q':s'=sb/\n'=nb/\p'=pb:=by simpa using h2
  obtain ⟨q1,q2,q3⟩:=q'
  subst q1 q2 q3
  obtain ⟨e',hn',hs',hr'⟩:=hr))
 | "p0"=>`(tactic|(
  obtain ⟨a,kv,e1,e0,ha,h1,h2⟩:=h.ok _ Ab
  have e1':some (V.ref D)=some (V.ref a):=e1
  cases e1'
  have rel:=C3 h1 h2
  have hs:=Bb.mp h.sep))
 | "q0"=>`(tactic|(
  intro pins s σ H R I h
  refine Gb (hl pins s σ H _ I h) λv s1 ⟨x,H1,I1,r1,q1⟩=>?_
  obtain ⟨a,e,⟨xs,hq⟩,q⟩:=q1
  subst e
  cases r1))
 | "r0"=>`(tactic|(
  obtain ⟨e,hn,hs,hr⟩:=h
  have q:s=sa/\n=na/\p=pa:=by simpa using h1
  obtain ⟨q1,q2,q3⟩:=q
  subst q1 q2 q3
  subst e))
 | "s0"=>`(tactic|(
  refine ⟨λ_ a ha z=>?_,λ_ a ha z=>?_⟩
  ·rw[Al.mp ha] at z
   exact nf z
  ·rw[Al.mp z] at ha
   exact nf (Gs _ _ ha)))
 | "t0"=>`(tactic|(
  obtain ⟨l1,hd⟩:=h ds R hp
  have l2:=Lu q
  rw[Af] at l2
  have l3:=congrArg Ft eu
  rw[Af,Af] at l3))
 | "u0"=>`(tactic|(
  ·by_cases hg:g > 1
   ·rw[if_pos hg]
    exact key _
   ·rw[if_neg hg]
    exact key _))
 | "v0"=>`(tactic|(
  rintro s5 rfl
  refine Vr (λn s'=>∃i o H',Inv X' [] (o::Ei σ js) H' s'/\tn i s'.heap/\(∀b∈fp,H' b=none)/\W i n H') ?_ m0
   ⟨0,none,_,I4 _,st4,λb hb=>(f3 b hb).1,w0⟩
  rintro n s6 ⟨i,o,H6,I6,st6,fr6,w6⟩))
 | "w0"=>`(tactic|(
  refine PE.imp (aM F hr hg hm hk hb .nil hx ha hdb he hpl) λσ H Q h=>?_
  obtain ⟨H0,Y,S,T,δ,P,rfl,hS,hA,hd,kk⟩:=h
  refine ⟨H0,Y,S,T,δ,_,rfl,hS,hA,hd,λxs δ' As us S' H' e1 e2 ex eu hA' p=>?_⟩
  subst ex))
 | "x0"=>`(tactic|(
  rcases hq with hq | hq
  ·refine .inl ?_
   cases m <;> first | rfl | exact hq
  ·exact .inr hq))
 | "y0"=>`(tactic|(
  simp only[Qj,HT.sIx,Option.getD_none,show (1:Int) > 0 by decide,if_true]
  by_cases h:i<0
  ·simp only[h,if_true] <;> omega
  ·simp only[h,if_false] <;> omega))
 | "z0"=>`(tactic|(
  have : 8<=Dt wanted:=by
   have key:∀k:Fin 256,decide (8<=Dt k.1)=true:=by decide +kernel
   exact of_decide_eq_true (key ⟨wanted,hw⟩)
  omega))
 | "a1"=>`(tactic|(
  ·refine (I.hok b u e).stay (λc v hc q=>k c v ?_ q) (λ_ q=>q) λ_ _ q=>q
   rcases hc with z | z
   ·rw[z]; exact nit b u e
   ·exact nit c _ z))
 | "b1"=>`(tactic|(
  obtain ⟨x1,x2⟩:=x
  obtain ⟨y1,y2⟩:=y
  simp only at ex ey
  subst ex ey))
 | "c1"=>`(tactic|(
  ·rintro c st' ⟨la,o,rfl,rfl,a1,a2,a3,b1⟩
   have : max 0 n=n:=by omega
   rw[this] at a2
   exact ⟨la,o,rfl,rfl,a1,a3,b1,.inl (by omega)⟩))
 | "d1"=>`(tactic|(
  intro value slice pins s σ H x y v u Q I rx ry h hs
  obtain ⟨p,xs,i,z,rfl,rfl,hq,he,q⟩:=h
  cases rx
  obtain ⟨t,rfl⟩:=ry))
 | "e1"=>`(tactic|(
  intro X hP hw hK hc i pins s σ H E I hf st hg
  subst hP hw hK
  obtain ⟨xs,hq,hx⟩:=hg
  obtain ⟨its,rv,p,hz⟩:=I.list hq))
 | "f1"=>`(tactic|(
  obtain ⟨mask,place,dummies,finger,led,moves,plain⟩:=t
  have hl':led=true:=hl
  have hp':plain=true:=hp
  subst hl' hp'))
 | "g1"=>`(tactic|(
  have hx:=y xs (Pe.of hb)
  obtain ⟨x',F',h1,h2,h3⟩:=rb.get (i:=i) (e:=ds[i]) (by simp [hi])
  rw[hx] at h1
  cases h1))
 | "h1"=>`(tactic|(
  ·unfold vs L2.start Jq
   rw[Bh,CF,eu,Qc,show us.length=ps.length by omega]
  ·unfold Sl args0 Jq
   rw[Bh,Xg q,Qc]))
 | "i1"=>`(tactic|(
  intro pins s σ H x y v u Q I rx ry h
  obtain ⟨i,j,rfl,rfl,q⟩:=h
  obtain ⟨t,rfl⟩:=rx
  obtain ⟨t',rfl⟩:=ry))
 | "j1"=>`(tactic|(
  have e:b=it:=by simpa using hb
  subst e
  obtain ⟨o,e,c,d⟩:=st
  exact ⟨o,e,λv z=>by rw[d] at z; cases z⟩))
 | "k1"=>`(tactic|(
  have z:=hA5.sub (Bk S2 _)
  refine z.perm ?_
  refine Dj.trans (Iy _ ?_)
  refine Dj.trans (Iy _ ?_)))
 | "l1"=>`(tactic|(
  refine Ac ?_
  show wpAny _ _ (bind (Mb d) _) _ _ s
  unfold Mb
  rw[if_neg (by rw[hd]; exact Bp)]))
 | "m1"=>`(tactic|(
  refine ⟨dd.typeIs,λb q=>?_,hd⟩
  cases q
  obtain ⟨ob,_,_,h1,h2,_⟩:=dd
  exact ⟨ob,h1,h2.2.1⟩))
 | "n1"=>`(tactic|(
  have e1':some (V.ref D)=some (V.ref a):=e1
  cases e1'
  have e0':D::G=D::G':=e0
  cases e0'))
 | "o1"=>`(tactic|(
  obtain ⟨ent,e2,e3⟩:=Ks hS e1
  have hm:ent∈S:=Be e2
  obtain ⟨u,x,F⟩:=ent
  subst e3))
 | "p1"=>`(tactic|(
  ·rw[Dr (Fn q nD)]
   exact h.same b o nx q
  ·rw[Dr (Fn q nD)]
   exact h.dom b o q))
 | "q1"=>`(tactic|(
  unfold dN
  refine Aa (Aa (Ha S (Ac ?_)))
  rw[if_neg (by simp)]
  simp only[Hg]))
 | "r1"=>`(tactic|(
  have l2:=Lu q
  rw[Af] at l2
  have l3:=congrArg Ft eu
  rw[Af,Af] at l3))
 | "s1"=>`(tactic|(
  subst e
  obtain ⟨u1,u2,rfl,ru1,ru2⟩:=vals2 r1
  cases ru1
  cases ru2))
 | "t1"=>`(tactic|(
  ·exact hr
  ·exact hr.elim
  ·exact hr.elim
  ·exact hr.elim))
 | "u1"=>`(tactic|(
  obtain ⟨H0,Y,S,T,δ,P,rfl,hS,hA,hd,k⟩:=h
  refine ⟨H0,Y,S,T,δ,_,rfl,hS,hA,hd,λx δ1 v F S1 H1 e1 e2 hA1 p1=>?_⟩
  split at p1))
 | "v1"=>`(tactic|(
  have ok:=(I4 0).ok
  have hex:b∈X'.ex:=by rw[<- hX']; exact hb
  exact ⟨hn b hb,(ok.exf b hex).1,ok.exfs b hex,.inl hex,(ok.exf b hex).2,λp hp=>by rw[<- hX'] at hp; cases (show p∈([]:List (Addr×Obj)) from hp)⟩))
 | "w1"=>`(tactic|(
  intro σ H Q h
  obtain ⟨H0,Y,S,T,δ,P,rfl,hS,hA,hd,k⟩:=h
  refine ⟨H0,Y,S,T,δ,_,rfl,hS,hA,hd,λx δ1 v F S1 H1 e1 e2 hA1 p1=>?_⟩))
 | "x1"=>`(tactic|(
  obtain ⟨z,hd,xs,rel,dd⟩:=kA I.hok (.inl e)
  have hz:xs.length<=Aq:=by rw[<- Paired.length rel]; exact z
  have hl:(Oj kvs k v).length<=Aq:=by have:=Qb kvs k v; omega))
 | "y1"=>`(tactic|(
  obtain ⟨H0,Y,S,T,δ,P,rfl,hS,hA,hd,k⟩:=h
  refine ⟨H0,Y,S,T,δ,_,rfl,hS,hA,hd,λxs δ' As us S' H' e1 e2 ex eu hA' p=>?_⟩
  split at p))
 | "z1"=>`(tactic|(
  refine Gb (g1 _ s8 _ H8 y u (λσ' H'=>σ'=some w1::some w2::Ei σ js/\H'=H8) I8' r8 ⟨tp,[w1,w2],ey,hsq,rfl,_,_,rfl,_,_,rfl,rfl,rfl,rfl⟩) λ_ s9 ⟨σ9,H9,I9,e9,e9'⟩=>?_
  subst e9 e9'
  refine Gb (ht fp s3 _ _ s9 _ _ _ I9 hst) λok s10 ⟨H10,I10,q10⟩=>?_))
 | "a2"=>`(tactic|(
  have tz:s.TypeIs (.ref z) "zip" := ⟨_,gz,rfl⟩
  unfold Hi
  refine Aa (Ic (Cu (name:=Dq "__next__") tz PySem.F.slot_zip_next (Cn PySem.F.slot_zip_next tz PySem.F.entry_zip_next ?_ (PySem.F.args_zip_next_1 _))))))
 | "b2"=>`(tactic|(
  ·exact ⟨ds.length - (i+1),by omega,rfl,hlt,acc,n',G,hG,hA7,by omega,p⟩
  ·obtain ⟨xs,g1,g2,g3⟩:=hA7
   exact ⟨xs,g1,by omega,ds.length - (i+1),by omega,rfl,hlt,acc++[e],n',G',hG',g3,by rw[Bf]; simp; omega,p⟩))
 | "c2"=>`(tactic|(
  have e1:(op == CmpOp.In)=false:=by cases op <;> first | rfl | exact absurd rfl h
  have e2:(op == CmpOp.NotIn)=false:=by cases op <;> first | rfl | exact absurd rfl h2
  cases b <;> simp [Hd,e1,e2]))
 | "d2"=>`(tactic|(
  refine ⟨by rw[Af,Af]; omega,.dat .sh (.int a),Tr ?_ rfl,Jk⟩
  show _=[DV.dat .sh (.int h),.dat .sh (.list ((Ed a++(Ed a).map (·++[(a:Int)])).map Br)),.dat .sh (.int a)]
  rw[Bh,Dn]))
 | "e2"=>`(tactic|(
  cases b with
  | true=>exact h1 rfl
  | false=>exact h2 rfl))
 | "f2"=>`(tactic|(
  refine Aa (Wg (h1.extBut hs1.extBut D.i1z) (hl1.extBut hs1.extBut D.l1z) hx λg2 q1 hs2=>Ac (Ac ?_))
  refine Aa (Aa (Ck ?_))
  show wpAny _ _ (Dl (.ref i2) >>= _) _ _ _))
 | "g2"=>`(tactic|(
  refine Gb (ha pins s σ H _ I h) λv s1 ⟨x,H1,I1,r1,q1⟩=>?_
  refine Gb (hb pins s1 σ H1 _ I1 q1) λu s2 ⟨y,H2,I2,r2,q2⟩=>?_
  exact hf v u s2 x y H2 I2 r1 r2 q2))
 | "h2"=>`(tactic|(
  rw[show S'++[(⟨some v,.dat .ow d,F'⟩ : Ent)]=S'++⟨some v,.dat .ow d,F'⟩::[] from rfl] at hA
  obtain ⟨u,e2,rd,nd,_⟩:=hA.ok _ mem_mid
  cases e2))
 | "i2"=>`(tactic|(
  obtain ⟨ent,e2,e3⟩:=Ks hS hi
  have hm:ent∈S:=Be e2
  obtain ⟨u,x,F⟩:=ent))
 | "j2"=>`(tactic|(
  obtain ⟨s1,d,F,h1,h2,h3⟩:=it.yld H n i x H' hid_ok hlt y
  obtain ⟨d1,d2,rfl,hst⟩:=hs i d acc n h1 hI
  obtain ⟨t,xs,rfl,ht,rt,_⟩:=h2.tup_inv))
 | "k2"=>`(tactic|(
  rintro i q H ⟨rfl,hi,acc,n,hA2,hl,hI⟩
  have hid_ok:∀e∈hid,Gr K H n e:=λe he=>hA2.ok e (Ad _ (Ag _ (Ak _ he)))
  by_cases hlt:i<ds.length))
 | "l2"=>`(tactic|(
  intro σ H Q h
  obtain ⟨H0,Y,S,T,δ,P,rfl,hS,hA,hd,k⟩:=h
  refine ⟨H0,Y,S,T,δ,_,rfl,hS,hA,hd,λm ds δ1 J hid S1 H1 e1 e2 hA1 it hz p1=>?_⟩))
 | "m2"=>`(tactic|(
  intro σ H Q h
  obtain ⟨H0,Y,S,T,δ,P,rfl,hS,hA,hd,k⟩:=h
  refine ⟨H0,Y,S,T,δ,_,rfl,hS,hA,hd,λxs δ' As us S' H' e1 e2 ex eu hA' p=>?_⟩))
 | "n2"=>`(tactic|(
  cases ne with
  | true=>exact k _ _ [] H (hA.drop2.pushI (.bl _)) hd.2.2
  | false=>exact k _ _ [] H (hA.drop2.pushI (.bl _)) hd.2.2))
 | "o2"=>`(tactic|(
  refine Az (Fz hy ?_)
  refine Az (Fz hx ?_)
  refine Az (oE C (kp1.kind.trans hk) (T.oq yy (Kf hy)) (T.op xx (Kf hx)) ?_)))
 | "p2"=>`(tactic|(
  intro X hP hw hK hc i pins s σ H E I hf st hg
  subst hP hw hK
  obtain ⟨f0,f1,f2,f3,f4,f5⟩:=hf it (by simp)))
 | "q2"=>`(tactic|(
  show wpAny _ A (load s.heap.objs.size >>= _) _ _ _
  refine Aa (Wh hS' ?_)
  exact Ac (h h' tk acc' hk hacc)))
 | "r2"=>`(tactic|(
  obtain ⟨⟨cls2,dd2,data2,sl2⟩,ho2,hc2,n2,hd2⟩:=id hb
  simp only at hc hd hc2 hd2
  subst hc hd hc2 hd2))
 | "s2"=>`(tactic|(
  intro pins s σ H x y v u Q I rx ry h
  obtain ⟨d,e,h1,h2,hd,q⟩:=h
  have hu':X.A.units<cLine:=by omega))
 | "t2"=>`(tactic|(
  ·rcases Aw.mp he with he | he
   ·exact hn e ((List.eraseIdx_sublist S i).subset he)
   ·exact hT e he))
 | "u2"=>`(tactic|(
  have e:b=s1.heap.objs.size:=by simpa using hb
  subst e
  exact I1.fpOk (Aj _) (I1.hok.fresh (Aj _))))
 | "v2"=>`(tactic|(
  refine Az (Us λst1 kp1=>?_)
  have kp':=kp.trans kp1
  have hk':kindOf st1=kd:=kp1.kind.trans hk))
 | "w2"=>`(tactic|(
  subst e3'
  obtain ⟨v,hv,rd,_⟩:=hA.ok _ (Ak _ hm)
  obtain ⟨a,xs,G,rfl,ha,ra,eF,hz⟩:=rd.list_inv))
 | "x2"=>`(tactic|(
  ·rcases hq with hq | hq
   ·cases m <;> first | cases hq; done | exact nomatch ha
   ·cases hq))
 | "y2"=>`(tactic|(
  rcases An.mp hc with z | z
  ·exact An.mpr (.inl z)
  ·exact An.mpr (.inr (hG.subset z))))
 | "z2"=>`(tactic|(
  obtain ⟨e1,e2⟩:=Ig r.key
  have e1:k=Ld u:=e1
  obtain ⟨r1,r2⟩:=RdFs.cons_nil r.val rfl))
 | "a3"=>`(tactic|(
  rw[Ar,l1] at h
  rw[hl,Nat.min_self,beq_self_eq_true,Bool.and_true,<- hl]
  exact h))
 | "b3"=>`(tactic|(
  obtain ⟨rfl,_⟩:=(hA.told mem_mid).int_inv
  have r:=hA.told Fd
  have hA':=hA.drop))
 | "c3"=>`(tactic|(
  cases ry
  obtain ⟨its,r1,p1,_⟩:=I.tuple ha
  obtain ⟨its2,r2,p2,_⟩:=I.tuple hb))
 | "d3"=>`(tactic|(
  rw[Cb,hy] at h'
  obtain ⟨q,e1,e2⟩:=ih h'
  exact ⟨q,by rw[Cb,hy]; exact e1,e2⟩))
 | "e3"=>`(tactic|(
  have e0:(ds.length == es.length)=false:=by simpa using hl
  rw[e0,Wf]
  exact h))
 | "f3"=>`(tactic|(
  rw[if_neg Bp] at q10 ⊢
  obtain ⟨m',hm,w10⟩:=hN1 _ q10
  exact again I10 hm w10))
 | "g3"=>`(tactic|(
  refine Fw Sk ?_
  rw[Fs Jx _]
  show wpAny _ A.in1 (Hi (.ref it) >>= _) _ _ s))
 | "h3"=>`(tactic|(
  subst e
  rw[<- RdVs.det I r rr2,RdVs.eqDs_self r]
  exact SeqAt.EqAt.same _))
 | "i3"=>`(tactic|(
  obtain ⟨b,xs,G,e,hb,rb,_,_⟩:=(Jg h Ab).list_inv
  cases e
  have hl:=rb.len))
 | "j3"=>`(tactic|(
  obtain ⟨ent,e2,e3⟩:=Ks hS hsl
  have hm:ent∈S:=Be e2
  obtain ⟨u,x,F⟩:=ent))
 | "k3"=>`(tactic|(
  refine Bb.mpr ⟨λz hz=>?_,h⟩
  rcases An.mp hz with rfl | hz
  ·exact hx))
 | "l3"=>`(tactic|(
  ·subst hn ha
   rw[Af,Ff]
   exact q))
 | "m3"=>`(tactic|(
  refine Fw Tj ?_
  rw[Fs Mg _]
  unfold Builtin.«dict.update.loop»))
 | "n3"=>`(tactic|(
  rcases Aw.mp hx with z | z
  ·exact bm x z
  ·rw[Al.mp z]; omega))
 | "o3"=>`(tactic|(
  refine ⟨z,c,k,f,(Dr ?_).trans h1,h2⟩
  rintro rfl
  exact z nD))
 | "p3"=>`(tactic|(
  refine ⟨⟨o,e,ex.1⟩,λa e2=>?_⟩
  cases e2
  exact ⟨o,e,ex.2.1⟩))
 | "q3"=>`(tactic|(
  unfold Mm
  by_cases z:v∈T
  ·rw[if_pos z,if_pos (Ak _ z)]))
 | "r3"=>`(tactic|(
  rcases h.new _ Ab D Ab with z | z
  ·exact z
  ·cases z.2))
 | "s3"=>`(tactic|(
  ·exact fin _ hA hd
  ·exact fin _ hA hd
  ·exact hd.elim))
 | "t3"=>`(tactic|(
  obtain ⟨v,x,F⟩:=f
  have hx':x=.dat m d:=hx
  subst hx'))
 | "u3"=>`(tactic|(
  ·rcases hp with hp | hp
   ·exact .inl hp
   ·cases hp))
 | "v3"=>`(tactic|(
  ·rcases hq with hq | hq
   ·exact .inl hq
   ·cases hq))
 | "w3"=>`(tactic|(
  have z:=hA5.mid
  refine z.perm ?_
  exact (Dj).cons _))
 | "x3"=>`(tactic|(
  obtain ⟨u,z,F⟩:=ent
  have s2':z=.drw:=s2
  subst s2'))
 | "y3"=>`(tactic|(
  rw[hi] at e1; cases e1
  rw[rM hiσ] at e2
  cases e2))
 | "z3"=>`(tactic|(
  obtain ⟨d,rfl,q⟩:=q1
  cases r1
  exact Le ⟨H1,I1,q⟩))
 | "a4"=>`(tactic|(
  unfold SetTable.road at hr
  split at hr
  ·cases hr))
 | "b4"=>`(tactic|(
  rcases hq with hq | hq
  ·exact .inl hq
  ·cases hq))
 | "c4"=>`(tactic|(
  refine PE.imp h λσ H Q h=>?_
  obtain ⟨H0,Y,S,T,δ,P,rfl,hS,hA,hd,k⟩:=h))
 | "d4"=>`(tactic|(
  rw[show its.toArray.any (Nv X.K H d)=its.any (Nv X.K H d) by simp,Qz I hs r]
  exact q))
 | "e4"=>`(tactic|(
  obtain ⟨s1,d,F,h1,h2,h3⟩:=it.yld H n i x H' hid_ok hlt y
  have hA3:At K H0 Y n ((⟨some (.ref D),.acc acc,D::G⟩::S1)++⟨some x,.dat m d,F⟩::(hid++T)) H':=At.item (S:=⟨some (.ref D),.acc acc,D::G⟩::S1) hA2 s1 h2 h3 it.md it.hd it.np))
 | "f4"=>`(tactic|(
  rintro scope rfl
  exact Nd.compScope0 (by rfl) (by decide +kernel) (by rfl) (by decide +kernel) (by rfl) (by rfl)))
 | "g4"=>`(tactic|(
  obtain ⟨H0,Y,S,T,δ,P,rfl,hS,hA,hd,k⟩:=h
  refine ⟨H0,Y,S,T,δ,_,rfl,hS,hA,hd,λx δ' v F S' H' e1 e2 hA' p=>?_⟩))
 | "h4"=>`(tactic|(
  obtain ⟨H0,Y,S,T,δ,P,rfl,hS,hA,hd,k⟩:=h
  refine ⟨H0,Y,S,T,δ,_,rfl,hS,hA,hd,λb δ' S' H' e1 e2 hA' p=>?_⟩))
 | "i4"=>`(tactic|(
  refine Aa (Cq h1 (λ_ s2 h2=>?_) λ_ _ z=>z.elim)
  refine Aa (Cq h2 (λ_ s3 h3=>?_) λ_ _ z=>z.elim)))
 | "j4"=>`(tactic|(
  refine sL (l:=L) (g:=Br) (js1:=[]) (js2:=[]) rfl rfl (λi acc m=>∃ms:List Int,acc=ms.map Ax/\m=n1+i/\ms.length=i/\∀x∈ms,-1000<=x/\x<=1000) ?_ ?_ ?_
  ·exact ⟨[],rfl,rfl,rfl,λ_ z=>(nomatch z)⟩))
 | "k4"=>`(tactic|(
  intro X hP hw hK hc i pins s σ H E I hf st hg
  subst hP hw hK))
 | "l4"=>`(tactic|(
  refine Zz (l:=Cd h.toNat) (g:=λi:Nat=>.int i) rfl (λi δ=>∃v:DV,δ=⟨[.dat .sh (.int h),.dat .sh (.list ((Ed i).map Br)),v],0⟩/\NP v) ?_ ?_ ?_
  ·exact ⟨_,rfl,Pz⟩))
 | "m4"=>`(tactic|(
  refine ⟨λH2=>∃m',m'<ds.length - i/\_,λy H3=>∃acc,H3 D=some (.lst acc)/\acc.length<Aq/\∃m',m'<ds.length - i/\_,λH2 q=>q,λy H3 q=>q,?_⟩
  rw[<- hv]))
 | "n4"=>`(tactic|(
  obtain ⟨u,rfl,ru⟩:=vals1 r
  cases ru))
 | "o4"=>`(tactic|(
  have I1:Inv X pins σ H { s with heap:=h' }:=I.turned (t':=s.toks) (λb o hb e=>(sb.2 b hb).trans e) f0 f1 f3 f4 f5
  obtain ⟨o,e,c,d⟩:=id st'))
 | "p4"=>`(tactic|(
  unfold aB sortedHeap
  have z1:((h.push (Ej "list" #[] 0)).update h.objs.size (Eg (·++vs.toArray))).objs.size=h.objs.size+1:=by rw[Lg,dM]))
 | "q4"=>`(tactic|(
  ·rw[(hs a ha).1] at hc; cases hc
  ·rw[(hs b hb').1] at hc; cases hc))
 | "r4"=>`(tactic|(
  subst e
  refine ⟨λi acc n=>n=δ1.n/\acc=((l.take i).filter p).map f,⟨rfl,by simp⟩,λi d acc n hd ⟨hn,ha⟩=>?_,λacc n ⟨hn,ha⟩=>?_⟩))
 | "s4"=>`(tactic|(
  cases ru
  have hu':A.units<cLine:=by omega))
 | "t4"=>`(tactic|(
  obtain ⟨H0,Y,S,T,δ,P,rfl,hS,hA,hd,k⟩:=h
  refine ⟨H0,Y,S,T,δ,_,rfl,hS,hA,hd,λxs δ' As us S' H' e1 e2 ex eu hA' p=>?_⟩))
 | "u4"=>`(tactic|(
  subst e
  refine .inl ⟨it2.stop H3 n2 hid2_ok,ds.length - (i+1),by omega,rfl,hlt,acc2,n2,G2,hG2,?_,gf acc2 n2 hI2⟩))
 | "v4"=>`(tactic|(
  have hlen:its.toArray.size=xs.length:=by rw[Ar]; exact r.length.symm
  refine ⟨"tuple",_,Es.lookup,ht.typeIs,?_⟩))
 | "w4"=>`(tactic|(
  obtain ⟨H0,Y,S,T,δ,P,rfl,hS,hA,hd,k⟩:=h
  refine ⟨H0,Y,S,T,δ,_,rfl,hS,hA,hd,λx δ1 v F S1 H1 e1 e2 hA1 p1=>?_⟩))
 | "x4"=>`(tactic|(
  obtain ⟨s2,d2,F2,k1,k2,k3⟩:=it2.yld H3 n2 i2 y2 H4 hid2_ok hlt2 yy
  obtain ⟨lz,st⟩:=gs i2 d2 acc2 n2 k1 hI2))
 | "y4"=>`(tactic|(
  have e:=Zt (xs:=arrOf st) (i:=i) (by rw[g.size]; exact hi)
  exact h0 _ ((Qn.mp g.perm).mem_iff.mp (Kf e))))
 | "z4"=>`(tactic|(
  obtain ⟨b,xs,e,hb,rb,_⟩:=(Jg h Ab).tup_inv
  cases e))
 | "a5"=>`(tactic|(
  show wpAny _ _ (bind (Mp (.ref it) 1 (Er ((i:Int)+1))) _) _ _ s
  refine Aa (Lx gi di (by simp) ?_)))
 | "b5"=>`(tactic|(
  ·exact .inl z
  ·cases z.2))
 | "c5"=>`(tactic|(
  obtain ⟨v,F,rfl,hA⟩:=Jh eu hA ex
  obtain ⟨a,xs,G,rfl,ha,ra,rfl,hz⟩:=(hA.told mem_mid).list_inv))
 | "d5"=>`(tactic|(
  simp only[show ¬ ((es.size:Int)<0) from by omega,Hg,if_false,Mu (Aj es.size)]
  refine Aa ?_))
 | "e5"=>`(tactic|(
  simp only[An,Bd,or_false,not_or] at hc
  exact q7 c o hc.1 hc.2.2.1 hc.2.2.2.1 hc.2.2.2.2 q))
 | "f5"=>`(tactic|(
  subst e
  refine .inl ⟨it.stop H n hid_ok,k _ ⟨δ1.sl,n⟩ _ [D] S1 H e1 e2 ?_ (hf acc n hI)⟩))
 | "g5"=>`(tactic|(
  obtain ⟨v,F,rfl,hA⟩:=Jh eu hA ex
  obtain ⟨a,xs,rfl,ha,ra,hz⟩:=(hA.told mem_mid).tup_inv))
 | "h5"=>`(tactic|(
  simp only[An,Bd,or_false,not_or] at hc
  exact q6 c o hc.1 hc.2.2.2.1 hc.2.2.2.2 q))
 | "i5"=>`(tactic|(
  have nd:SetTable.has t.dummies j=false:=by rw[x.dum]; rfl
  unfold SetTable.slot))
 | "j5"=>`(tactic|(
  refine Qx kind_sorted plain_sorted entry_sorted (args_sorted1 _) ?_
  unfold Xw))
 | "k5"=>`(tactic|(
  obtain ⟨ob,gb,xb,db⟩:=id hE
  have tD:s.TypeIs (.ref d) "dict" := ⟨ob,gb,xb.1⟩))
 | "l5"=>`(tactic|(
  obtain ⟨z,its,n,r,hl,e⟩:=I.lstM hH
  obtain ⟨z2,its2,n2,r2,hl2,e2⟩:=I.lstM hB))
 | "m5"=>`(tactic|(
  simp only[An,Bd,or_false] at hc
  rcases hc with rfl | rfl | rfl | rfl | rfl))
 | "n5"=>`(tactic|(
  simp only[show ¬ ((i:Int)<0) from by omega,Hg,if_false,hX]
  refine Aa ?_))
 | "o5"=>`(tactic|(
  have : some (V.ref b)=some (V.ref a):=(Bv g1).symm.trans hv
  cases this))
 | "p5"=>`(tactic|(
  obtain ⟨s1,s2⟩:=Bb.mp sd
  refine ⟨?_,?_,λo ho z hz=>?_,λo ho z hz=>?_⟩))
 | "q5"=>`(tactic|(
  obtain ⟨a,xs,G2,rfl,ha,ra,_,_⟩:=(hA.told Fd).list_inv
  have l1:=ra.len))
 | "r5"=>`(tactic|(
  have z:blt yk x=false:=by simpa only [Hf,if_true] using this
  exact z))
 | "s5"=>`(tactic|(
  obtain ⟨its1,rv1,p1,_⟩:=I.list q1
  obtain ⟨its2,rv2,p2,_⟩:=I.list q2))
 | "t5"=>`(tactic|(
  obtain ⟨v,x,F⟩:=e
  cases x <;> rfl))
 | "u5"=>`(tactic|(
  cases (show u=Ay b from ry)
  obtain ⟨z,hd,xs,rel,dd⟩:=tJ I.hok e))
 | "v5"=>`(tactic|(
  obtain ⟨f0,f1,f2,f3,f4,f5⟩:=hf it (by simp)
  have hl:=rv.length))
 | "w5"=>`(tactic|(
  have : i=j:=by omega
  subst this))
 | "x5"=>`(tactic|(
  obtain ⟨a,b,c,d⟩:=st
  rcases d with ⟨d,u,v,e⟩ | ⟨a',oa,fl,d,e⟩))
 | "y5"=>`(tactic|(
  ·obtain ⟨_,_,_,_,o,_,_,e,ex,_⟩:=I.hok p _ hk
   exact ⟨o,e,ex⟩))
 | "z5"=>`(tactic|(
  exfalso
  have : max 0 (p.size+q.size)=p.size+q.size:=by omega))
 | "a6"=>`(tactic|(
  subst ex
  obtain rfl:u=Ay a:=rx))
 | "b6"=>`(tactic|(
  intro pins s σ H Q I h
  refine Su (Si I hg hm hv ?_ hn hdb)))
 | "c6"=>`(tactic|(
  ·rintro c st1 ⟨kp1,r,Ht,rfl,hr⟩
   exact Bi (h r st1 kp1 hr)))
 | "d6"=>`(tactic|(
  obtain ⟨b,xs,G,e,hb,rb,rfl,_⟩:=(Jg h Ab).list_inv
  cases e))
 | "e6"=>`(tactic|(
  have e:l=r:=by omega
  subst e))
 | "f6"=>`(tactic|(
  ·rw[if_pos ho]
   exact Bi ⟨la,o,rfl,rfl,a1,a3,b1,.inl ho⟩))
 | "g6"=>`(tactic|(
  obtain ⟨its,ti,o,g,k,n,e⟩:=hH r Ab
  rw[Ao,List.mapM_cons]))
 | "h6"=>`(tactic|(
  obtain ⟨o',es',ep',ho',r'⟩:=hm
  rw[ho] at ho'; cases ho'))
 | "i6"=>`(tactic|(
  obtain ⟨b,xs,G,e,hb,rb,_,_⟩:=(Jg h Ab).list_inv
  cases e))
 | "j6"=>`(tactic|(
  have ty:s.TypeIs (.ref z) "zip" := ⟨_,hz,rfl⟩
  unfold Hi))
 | "k6"=>`(tactic|(
  obtain ⟨u',r',q⟩:=hl j y v' e1 e2 e3
  refine ⟨u',r',?_⟩))
 | "l6"=>`(tactic|(
  obtain ⟨q,hq,rfl⟩:=Df.mp hj
  obtain ⟨k,hk,ek⟩:=Za.mp hq))
 | "m6"=>`(tactic|(
  ·have : x≠n:=by rintro rfl; exact h v Ab
   simp [this]))
 | "n6"=>`(tactic|(
  ·rw[Gu q,Qr,Bh]; simp [hp]
  ·rw[Gu q,Qr,Bh]; simp [hp]))
 | "o6"=>`(tactic|(
  intro pins s σ H Q I h
  refine Su (sF I hg hm ?_ hdb)))
 | "p6"=>`(tactic|(
  obtain ⟨t',rfl⟩:=ru
  have hu':A.units<cLine:=by omega))
 | "q6"=>`(tactic|(
  obtain ⟨rfl,hi⟩:=Rf ha
  have l1:=Rt (n:=a) (by omega)))
 | "r6"=>`(tactic|(
  obtain ⟨l,b,xs,zs,rfl,rfl,hH,hB,hz,q⟩:=h
  cases rx))
 | "s6"=>`(tactic|(
  ·rw[(Hu.mp he).2]
   exact (rfl:([]:List Addr)=[])))
 | "t6"=>`(tactic|(
  rcases hA.new _ mem_mid a ha with z | z
  ·exact z))
 | "u6"=>`(tactic|(
  rcases b2 with b2 | ⟨b2,b3⟩
  ·exfalso; omega))
 | "v6"=>`(tactic|(
  obtain ⟨H0,Y,S,T,δ,P,rfl,hS,hT,hA,hd,k1,k2,k3,k4⟩:=h))
 | "w6"=>`(tactic|(
  intro pins s σ H Q I h))
 | "x6"=>`(tactic|(
  intro pins s σ H xs us Q I r h))
 | "y6"=>`(tactic|(
  intro H0 X n S T x y v w F G H Q P hA hd k))
 | "z6"=>`(tactic|(
  split at hd))
 | "a7"=>`(tactic|(
  intro H0 X n S T As us H Q P eu hA hd k))
 | "b7"=>`(tactic|(
  ·exact hd.elim))
 | "c7"=>`(tactic|(
  repeat (any_goals (first | assumption | wp_step))))
 | "d7"=>`(tactic|(
  rcases An.mp he with rfl | he))
 | "e7"=>`(tactic|(
  obtain ⟨rfl,_⟩:=(hA.told mem_mid).int_inv))
 | "f7"=>`(tactic|(
  refine Aa (Ib (Aa (Cq (turn n s hJ) (λr s1 h1=>?_) λ_ _ z=>z.elim)))))
 | "g7"=>`(tactic|(
  obtain ⟨H0,Y,S,T,δ,P,rfl,hS,hA,hd,k⟩:=h))
 | "h7"=>`(tactic|(
  obtain ⟨v,F,rfl,hA⟩:=Jh eu hA ex))
 | "i7"=>`(tactic|(
  refine F.ok S (λvs H Q E z=>?_) λcdv A outer s H us Q E hr z=>?_))
 | "j7"=>`(tactic|(
  rw[if_pos rfl]))
 | "k7"=>`(tactic|(
  intro pins s σ H x y v u Q I rx ry h))
 | "l7"=>`(tactic|(
  exact Oa (loop _ rfl) (T.self X.A 0 _ _ _ st4 (loop _ rfl))))
 | "m7"=>`(tactic|(
  intro pins s σ H D I h))
 | "n7"=>`(tactic|(
  by_cases hc:(k0 == En && env.scope.kind == .function && env.kindOf n == some .cell)=true))
 | "o7"=>`(tactic|(
  refine ⟨rfl,?_⟩))
 | "p7"=>`(tactic|(
  rw[if_neg Bp]))
 | "q7"=>`(tactic|(
  refine Az (Nw ?_)))
 | "r7"=>`(tactic|(
  cases (show u=Ay a from rx)))
 | "s7"=>`(tactic|(
  exact hs _ _ (by omega) (by omega) (by omega)))
 | "t7"=>`(tactic|(
  refine Call_ (Si I hg hm (u:=.type "zip") (by decide +kernel) (Fi (Gb (ha pos pins s σ H _ I h) λus s1 ⟨vs,H1,I1,r1,q1⟩=>?_) hs hp))))
 | "u7"=>`(tactic|(
  refine ⟨by rfl,.inl (by decide +kernel),by rfl,by decide +kernel,.inl rfl,λy c h=>?_,by rfl,by decide +kernel,rfl,λk y j e1 e2=>?_⟩))
 | "v7"=>`(tactic|(
  obtain ⟨t,rfl⟩:=rx))
 | "w7"=>`(tactic|(
  rcases Aw.mp he with he | he))
 | "x7"=>`(tactic|(
  refine Ji (use:=none) rfl hs C.clos C.kind C.locs (Gb (hi pins s σ H _ I h) λv s1 h1=>Gb h1 λitv s2 h2=>?_)))
 | "y7"=>`(tactic|(
  intro pins s σ H x v vl vu lo hi sl Q I rx hs pl pu h))
 | "z7"=>`(tactic|(
  rcases Aw.mp hx with z | z))
 | "a8"=>`(tactic|(
  refine Az (Fz hx ?_)))
 | "b8"=>`(tactic|(
  refine Az (Fz hy ?_)))
 | "c8"=>`(tactic|(
  ·exact p1.elim))
 | "d8"=>`(tactic|(
  obtain ⟨z,y,xs,r,o,es,ep,h1,h2,h3,h4,h5,h6⟩:=(show Hl P w H h a (.dT kvs) from B0 ok e)))
 | "e8"=>`(tactic|(
  obtain ⟨v,x,F⟩:=e))
 | "f8"=>`(tactic|(
  obtain rfl:=Ju ek))
 | "g8"=>`(tactic|(
  obtain ⟨rfl,_⟩:=(hA2.told mem_mid).int_inv))
 | "h8"=>`(tactic|(
  obtain ⟨H0,Y,S,T,δ,P,rfl,hS,hA,hd,kk⟩:=h))
 | "i8"=>`(tactic|(
  exact PySem.W.kia_one PySem.W.kitx_dict I.kIn ⟨o,h1,h2.1⟩ e (λz=>nomatch z) h))
 | "j8"=>`(tactic|(
  exact PySem.W.kia_one PySem.W.kitx_list I.kIn ⟨_,h1,rfl⟩ e (λz=>nomatch z) h))
 | "k8"=>`(tactic|(
  refine Aa (Ha S ?_)))
 | "l8"=>`(tactic|(
  obtain ⟨q,es,ep,hq,h2,h3,h4,_,h5⟩:=dd'))
 | "m8"=>`(tactic|(
  intro wh pins s σ H Q I h))
 | "n8"=>`(tactic|(
  refine ⟨H0,Y,S,T,δ,_,rfl,hS,hA,hd,λxs δ' As us S' H' e1 e2 ex eu hA' p=>?_⟩))
 | "o8"=>`(tactic|(
  by_cases hw:allOw (As.map Ent.x)=true))
 | "p8"=>`(tactic|(
  exact ⟨t,by rw[e]; congr 1; omega⟩))
 | "q8"=>`(tactic|(
  intro pins s σ H R I h))
 | "r8"=>`(tactic|(
  refine gH rfl J (λn s hJ=>?_) n h))
 | "s8"=>`(tactic|(
  refine ⟨λf hf=>?_,?_,λf hf=>?_,λb o nx q=>?_,λb o q=>?_,λb hb=>?_⟩))
 | "t8"=>`(tactic|(
  obtain ⟨rfl,hi⟩:=Rf ha))
 | "u8"=>`(tactic|(
  exact Rv I r rr2 r1 r2 (Yt (by simpa only [Dy] using hu)) j h1 h2))
 | "v8"=>`(tactic|(
  ·rw[(hs e he).1] at ha; cases ha))
 | "w8"=>`(tactic|(
  try with_reducible refine Ck ?_))
 | "x8"=>`(tactic|(
  exact ⟨xs,xs[i],Pe.of hb,by simp [show i<xs.length by omega]⟩))
 | "y8"=>`(tactic|(
  first | refine Aa (Kh tI (Ac ?_)) | refine Aa (Mo tI (Ac ?_))))
 | "z8"=>`(tactic|(
  first | refine Aa (Kg tI (Ac ?_)) | refine Aa (Mn tI (Ac ?_))))
 | "a9"=>`(tactic|(
  exact Aa (Cq h5 (λ_ s6 h6=>Ac (Ac ⟨rfl,h6⟩)) λ_ _ z=>z.elim)))
 | "b9"=>`(tactic|(
  refine Az (Um C R ok hk hm ?_)))
 | "c9"=>`(tactic|(
  obtain ⟨t',rfl⟩:=rx))
 | "d9"=>`(tactic|(
  obtain ⟨oc,od,kV,doc,pm,an,cdv,ct,osl,rfl,lk,hcd⟩:=F.ex))
 | "e9"=>`(tactic|(
  obtain ⟨rfl,_⟩:=ra.ints_inv))
 | "f9"=>`(tactic|(
  obtain ⟨u,rfl,rx⟩:=vals1 r))
 | "g9"=>`(tactic|(
  rw[if_neg (λz=>h1 (Dz z))]))
 | "h9"=>`(tactic|(
  obtain ⟨a,xs,rfl,ha,ra,_⟩:=(hA.told mem_mid).tup_inv))
 | "i9"=>`(tactic|(
  obtain ⟨rfl,rfl⟩:=Ue.mp hF))
 | "j9"=>`(tactic|(
  refine Aa (Ij gO2 rfl (Aa (Zm gO2 λh3 gO3 s3=>?_)))))
 | "k9"=>`(tactic|(
  rcases g with ⟨kvs,k,e,ey,l⟩ | ⟨kvs,k,b,e,ey,eb,l⟩))
 | "l9"=>`(tactic|(
  exact Bi ⟨kp,M1,by omega,by omega,n0,hn,by omega⟩))
 | "m9"=>`(tactic|(
  rcases turn i n H6 w6 with ⟨stop,qn⟩ | ⟨go,step⟩))
 | "n9"=>`(tactic|(
  refine h es2 ep2 t2 h2 (sb1.trans sb2) S2 λx=>?_))
 | "o9"=>`(tactic|(
  by_cases h2:(decide (ac<7) && decide (k<7))=true))
 | "p9"=>`(tactic|(
  rintro i2 q2 H3 ⟨rfl,hi2,acc2,n2,G2,hG2,hA7,hI2⟩))
 | "q9"=>`(tactic|(
  obtain ⟨x,hx⟩:=Ge (p:=p) (i:=t - 1) (by omega)))
 | "r9"=>`(tactic|(
  exact Az (Kj (Az (Nw (Bi (fin r st2 kp hr)))))))
 | "s9"=>`(tactic|(
  obtain ⟨xa,ea⟩:=Ge (p:=p) (i:=i+m) (by omega)))
 | "t9"=>`(tactic|(
  refine Qh (λz=>absurd z (by decide)) (λ_=>?_)))
 | "u9"=>`(tactic|(
  obtain ⟨H0,Y,S,T,As,δ,P,rfl,hS,eu,hA,hd,k⟩:=h))
 | "v9"=>`(tactic|(
  obtain ⟨f0,f1,f2,f3,f4,f5⟩:=hf it (by simp)))
 | "w9"=>`(tactic|(
  obtain ⟨ya,ea⟩:=Ge (p:=q) (i:=i) (by omega)))
 | "x9"=>`(tactic|(
  obtain ⟨xa,ea⟩:=Ge (p:=p) (i:=i) (by omega)))
 | "y9"=>`(tactic|(
  refine ⟨sE ne,L.map c,fM L c,λM hM hz=>?_⟩))
 | "z9"=>`(tactic|(
  obtain ⟨m,⟨o,es,ep,ho,r⟩,_⟩:=id I.loc))
 |_=>Lean.Macro.throwUnsupported
set_option hygiene true
namespace L2
open PySem PySem.Spec PyProof.Rows
abbrev Jp:=Sum Int Str
def fN:Jp->Value->Bool
 | .inl k,v=>Value.isInt k v
 | .inr x,v=>Value.isStrOf x v
def HG(w:World):Jp->Int
 | .inl k=>hashInt k
 | .inr x=>hashStr w x
theorem Hy:∀{k:Jp} {v:Value},fN k v=true->(∃i t,k=Xs i/\v=Lb i t)\/(∃x t,k=Sum.inr x/\v=Value.str x t)
 | .inl i,v,h=>by
  obtain ⟨t,e⟩:=Value.isInt_shape (k:=i) (v:=v) h
  exact .inl ⟨i,t,rfl,e⟩
 | .inr x,v,h=>by
  obtain ⟨t,e⟩:=Value.isStrOf_shape (x:=x) (v:=v) h
  exact .inr ⟨x,t,rfl,e⟩
theorem uZ(i:Int)(t:Tok):fN (.inl i) (.int i t)=true:=by simp [fN,Value.isInt]
theorem uG(x:Str)(t:Tok):fN (.inr x) (.str x t)=true:=by simp [fN,Value.isStrOf]
theorem CG(a b:Int):decide ((Xs a:Jp)=Xs b)=(a == b):=by
 by_cases e:a=b
 ·subst e; simp
 ·have h:¬ (Xs a:Jp)=Xs b:=λq=>e (Sum.inl.inj q)
  rw[decide_eq_false h]
  exact (beq_eq_false_iff_ne.mpr e).symm
theorem BF(a b:Str):decide ((Sum.inr a:Jp)=Sum.inr b)=decide (a=b):=by
 by_cases e:a=b
 ·subst e; simp
 ·have h:¬ (Sum.inr a:Jp)=Sum.inr b:=λq=>e (Sum.inr.inj q)
  rw[decide_eq_false h,decide_eq_false e]
theorem BE(a:Int)(b:Str):decide ((Xs a:Jp)=Sum.inr b)=false:=decide_eq_false (λq=>nomatch q)
theorem BZ(a:Str)(b:Int):decide ((Sum.inr a:Jp)=Xs b)=false:=decide_eq_false (λq=>nomatch q)
def Hn(prog:Bl)(w:World):PySem.KeyKind prog w Jp where
 is:=fN
 hash:=HG w
 inj:=λv a b ha hb=>by
  rcases Hy ha with ⟨i,t,rfl,rfl⟩ | ⟨x,t,rfl,rfl⟩
  ·rcases Hy hb with ⟨j,u,rfl,e⟩ | ⟨y,u,rfl,e⟩
   ·injection e with e1 _; rw[e1]
   ·exact nomatch e
  ·rcases Hy hb with ⟨j,u,rfl,e⟩ | ⟨y,u,rfl,e⟩
   ·exact nomatch e
   ·injection e with e1 _; rw[e1]
 byValue:=λk v h=>by
  rcases Hy h with ⟨i,t,rfl,rfl⟩ | ⟨x,t,rfl,rfl⟩ <;> rfl
 pyHash:=λhv h=>by
  rcases Hy hv with ⟨i,t,rfl,rfl⟩ | ⟨x,t,rfl,rfl⟩
  ·exact wpAny_pyHash_int h
  ·exact wpAny_pyHash_str h
 eqBool:=λhu hv h=>by
  rcases Hy hu with ⟨i,t,rfl,rfl⟩ | ⟨x,t,rfl,rfl⟩
  ·rcases Hy hv with ⟨j,u,rfl,rfl⟩ | ⟨y,u,rfl,rfl⟩
   ·rw[CG] at h; exact wpAny_eqBool_int h
   ·rw[BE] at h; exact SeqAt.EqAt.int_str i t y u _ _ _ _ h
  ·rcases Hy hv with ⟨j,u,rfl,rfl⟩ | ⟨y,u,rfl,rfl⟩
   ·rw[BZ] at h; exact SeqAt.EqAt.str_int x t j u _ _ _ _ h
   ·rw[BF] at h; exact wpAny_eqBool_str h
 «strs»:=λk x t v h=>by
  rcases Hy h with ⟨i,u,rfl,e⟩ | ⟨y,u,rfl,e⟩
  ·exact nomatch e
  ·injection e with e1 _
   subst e1
   cases v <;> rfl
theorem mR(prog:Bl)(w:World)(i:Int)(t:Tok):(Hn prog w).is (.inl i) (.int i t)=true:=uZ i t
theorem lG(prog:Bl)(w:World)(x:Str)(t:Tok):(Hn prog w).is (.inr x) (.str x t)=true:=uG x t
inductive V where
 | non | bl (b:Bool) | int (i:Int) | str (x:Str) | byt (b:Array UInt8) | flt (b:UInt64) | ref (a:Addr) | ty (n:String)
 deriving DecidableEq
def RelV:V->Value->Prop
 | .non,u=>u=Fp
 | .bl b,u=>u=Value.bool b
 | .int i,u=>∃t,u=Lb i t
 | .str x,u=>∃t,u=Value.str x t
 | .byt b,u=>∃t,u=Value.bytes b t
 | .flt b,u=>∃t,u=Value.float b t
 | .ref a,u=>u=Ay a
 | .ty n,u=>u=Gd n
abbrev Gf:List V->List Value->Prop:=Paired RelV
theorem Gf.length{xs:List V}{us:List Value}(r:Gf xs us):xs.length=us.length:=Paired.length r
theorem Gf.get:∀{xs:List V} {us:List Value} {i:Nat} {x:V},Gf xs us->xs[i]? = some x->∃u,us[i]? = some u/\RelV x u
 | _,_,_,_,.nil,e=>by simp at e
 | _,_,0,_,.cons r _,e=>by simp at e; subst e; exact ⟨_,rfl,r⟩
 | _,_,i+1,x,.cons _ t,e=>by
  obtain ⟨u,h1,h2⟩:=Gf.get (i:=i) (x:=x) t (by simpa using e)
  exact ⟨u,by simpa using h1,h2⟩
theorem Gf.set{x:V}{u:Value}(r:RelV x u):∀{xs:List V} {us:List Value} (i:Nat),Gf xs us->Gf (xs.set i x) (us.set i u)
 | _,_,_,.nil=>.nil
 | _,_,0,.cons _ t=>.cons r t
 | _,_,i+1,.cons q t=>.cons q (Gf.set r i t)
theorem Gf.append:∀{xs ys:List V} {us ws:List Value},Gf xs us->Gf ys ws->Gf (xs++ys) (us++ws)
 | _,_,_,_,.nil,s=>s
 | _,_,_,_,.cons r t,s=>.cons r (Gf.append t s)
theorem Gf.take:∀{xs:List V} {us:List Value} (n:Nat),Gf xs us->Gf (xs.take n) (us.take n)
 | _,_,0,_=>.nil
 | _,_,_+1,.nil=>.nil
 | _,_,n+1,.cons r t=>.cons r (Gf.take n t)
theorem Gf.drop:∀{xs:List V} {us:List Value} (n:Nat),Gf xs us->Gf (xs.drop n) (us.drop n)
 | _,_,0,r=>r
 | _,_,_+1,.nil=>.nil
 | _,_,n+1,.cons _ t=>Gf.drop n t
def mY:Option V->Option Value->Prop
 | some v,some u=>RelV v u
 | none,none=>True
 | _,_=>False
def KV{κ:Type}:List (κ×V)->List (κ×Value)->Prop:=Paired λ(p:κ×V) (q:κ×Value)=>p.1=q.1/\RelV p.2 q.2
def kV:Jp->V
 | .inl i=>.int i
 | .inr x=>.str x
inductive HO where
 /-- a list -/
 | lst (xs:List V)
 /-- a tuple (never changes) -/
 | tup (xs:List V)
 /-- a dict whose keys are ints and texts; one whose keys are tuples of ints and texts (the empty one is both) -/
 | dK (kvs:List (Jp×V)) | dT (kvs:List (List Jp×V))
 /-- a set of ints: its members,its size -/
 | set (S:Int->Bool) (n:Nat)
 /-- an instance of the class at C,its dict at dx,its attributes -/
 | ins (C dx:Addr) (fs:List (Str×V))
 /-- the dict of the instance at x -/
 | own (x:Addr)
 /-- the dict of an exception -/
 | xd (fs:List (Str×V))
 /-- a bound method,f of x -/
 | met (f x:Addr)
 /-- a range object lo,lo+1,.. below hi -/
 | rng (lo hi:Int)
 /-- a thing that is known to the object (the script; a dict while a loop walks it): read,never written while it is so -/
 | frz (o:Obj) (u:HO)
 /-- a code object's table -/
 | tbl (ps:Array Value)
 /-- any other thing,by what is true of its one object (a def of one's own: Wo a S n:=HO.ext λh=>..) -/
 | ext (φ:Heap->Prop)
abbrev Hp:=Addr->Option HO
def upd(H:Hp)(a:Addr)(o:HO):Hp:=λb=>if b=a then some o else H b
theorem Ds{H:Hp}{a:Addr}{o:HO}:upd H a o a=some o:=by unfold upd; rw[if_pos rfl]
theorem Dr{H:Hp}{a b:Addr}{o:HO}(h:b≠a):upd H a o b=H b:=by unfold upd; rw[if_neg h]
theorem yC{H:Hp}{a b:Addr}{o u:HO}(h:H a=some o)(h':H b=some u)(d:o≠u):a≠b:=by
 intro e; subst e; rw[h] at h'; exact d (Bv h')
theorem Fn{H:Hp}{a b:Addr}{o:HO}(h:H a=some o)(h':H b=none):a≠b:=by
 intro e; subst e; rw[h] at h'; cases h'
section
variable(P:Bl)(w:World)
def Hl(H:Hp)(h:Heap)(a:Addr):HO->Prop
 | .lst xs=>xs.length<=Aq/\∃(its:List Value) (n:Nat),Gf xs its/\h.get? a=some { cls:=.type "list",data:=.seq its.toArray n }
 | .tup xs=>xs.length<=Aq/\∃its:List Value,Gf xs its/\IsTup h a its.toArray
 | .dK kvs=>kvs.length<=Aq/\(a == Gm)=false/\∃vs,KV kvs vs/\h.DictOf (Hn P w) a vs
 | .dT kvs=>kvs.length<=Aq/\(a == Gm)=false/\∃xs:List (List Jp×Addr×Value),
   Paired (λ(p:List Jp×V) (q:List Jp×Addr×Value)=>p.1=q.1/\H q.2.1=some (.tup (p.1.map kV))/\RelV p.2 q.2.2) kvs xs /\
   ∃o es ep,h.get? a=some o/\o.ExactDict/\o.data=.dict es ep/\es.toList=xs.map (Wk (Ng (Hn P w)))/\(xs.map (·.1)).Nodup/\ep=es.size
 | .set S n=>h.SetOf (Wj P w) a S n
 | .ins C dx fs=>H dx=some (.own a)/\fs.length<=1000/\dx≠a/\h.get? a=some (PySem.W.instObj C dx) /\
   ∃mA,h.Ns1 dx mA/\(∀f,mY (fs.lookup f) (mA f))/\PySem.Within mA (fs.map (·.1))
 | .own _=>∃o,h.get? a=some o
 | .xd fs=>∃mA,h.Ns1 a mA/\∀f,mY (fs.lookup f) (mA f)
 | .rng lo hi=>∃t u v,h.get? a=some { cls:=.type "range",data:=.fields #[.int lo t,.int hi u,.int 1 v] }
 | .frz o u=>h.get? a=some o/\Hl H h a u
 | .tbl ps=>h.get? a=some { cls:=.none,data:=.fields ps }
 | .met f x=>h.get? a=some (PySem.W.methodObj (.ref f) (.ref x))
 | .ext φ=>φ h/\(∃o,h.get? a=some o)/\∀h1 h2:Heap,φ h1->(∀o,h1.get? a=some o->h2.get? a=some o)->φ h2
def Vf(H:Hp)(h:Heap):Prop:=∀a o,H a=some o->Hl P w H h a o
end
section
variable{P:Bl}{w:World}{H H':Hp}{h h':Heap}{a:Addr}{o:HO}
theorem Hl.lt(x:Hl P w H h a o):a<h.objs.size:=by
 cases o with
 | lst xs=>obtain ⟨_,_,_,_,e⟩:=x; exact Au e
 | tup xs=>obtain ⟨_,_,_,p⟩:=x; exact p.lt
 | dK kvs=>obtain ⟨_,_,_,_,o,_,_,e,_⟩:=x; exact Au e
 | dT kvs=>obtain ⟨_,_,_,_,o,_,_,e,_⟩:=x; exact Au e
 | set S n=>obtain ⟨o,_,_,_,e,_⟩:=x; exact Au e
 | ins C dx fs=>obtain ⟨_,_,_,e,_⟩:=x; exact Au e
 | own y=>obtain ⟨_,e⟩:=x; exact Au e
 | xd fs=>obtain ⟨_,⟨_,_,_,e,_⟩,_⟩:=x; exact Au e
 | rng lo hi=>obtain ⟨_,_,_,e⟩:=x; exact Au e
 | frz ob u=>obtain ⟨e,_⟩:=x; exact Au e
 | tbl ps=>exact Au (show h.get? a=some _ from x)
 | met f y=>exact Au (show h.get? a=some _ from x)
 | ext φ=>obtain ⟨_,⟨_,e⟩,_⟩:=x; exact Au e
theorem Paired.mapP{α β:Type}{F G:α->β->Prop}:∀{l₁:List α} {l₂:List β},Paired F l₁ l₂->(∀a b,F a b->G a b)->Paired G l₁ l₂
 | _,_,.nil,_=>.nil
 | _,_,.cons r t,f=>.cons (f _ _ r) (Paired.mapP t f)
theorem Hl.stay(x:Hl P w H h a o)(k:∀b u,(b=a\/H b=some (.own a))->h.get? b=some u->h'.get? b=some u)(ho:∀b,H b=some (.own a)->H' b=some (.own a))(ht:∀b xs,H b=some (.tup xs)->H' b=some (.tup xs)):Hl P w H' h' a o:=by
 induction o with
 | lst xs=>obtain ⟨z,its,n,r,e⟩:=x; exact ⟨z,its,n,r,k _ _ (.inl rfl) e⟩
 | tup xs=>obtain ⟨z,its,r,ob,e,c⟩:=x; exact ⟨z,its,r,ob,k _ _ (.inl rfl) e,c⟩
 | dK kvs=>obtain ⟨z,y,vs,r,ob,es,ep,e,c⟩:=x; exact ⟨z,y,vs,r,ob,es,ep,k _ _ (.inl rfl) e,c⟩
 | dT kvs =>
  obtain ⟨z,y,xs,r,ob,es,ep,e,c⟩:=x
  exact ⟨z,y,xs,Paired.mapP r λp q z=>⟨z.1,ht _ _ z.2.1,z.2.2⟩,ob,es,ep,k _ _ (.inl rfl) e,c⟩
 | set S n=>obtain ⟨ob,es,ep,t,e,c⟩:=x; exact ⟨ob,es,ep,t,k _ _ (.inl rfl) e,c⟩
 | ins C dx fs =>
  obtain ⟨d,z,ne,e,mA,⟨od,es,ep,e2,c⟩,r⟩:=x
  exact ⟨ho _ d,z,ne,k _ _ (.inl rfl) e,mA,⟨od,es,ep,k _ _ (.inr d) e2,c⟩,r⟩
 | own y=>obtain ⟨ob,e⟩:=x; exact ⟨ob,k _ _ (.inl rfl) e⟩
 | xd fs=>obtain ⟨mA,⟨od,es,ep,e,c⟩,r⟩:=x; exact ⟨mA,⟨od,es,ep,k _ _ (.inl rfl) e,c⟩,r⟩
 | rng lo hi=>obtain ⟨t,u,v,e⟩:=x; exact ⟨t,u,v,k _ _ (.inl rfl) e⟩
 | frz ob u ih=>obtain ⟨e,q⟩:=x; exact ⟨k _ _ (.inl rfl) e,ih q⟩
 | tbl ps =>
  have e:h.get? a=some { cls:=.none,data:=.fields ps }:=x
  show h'.get? a=some { cls:=.none,data:=.fields ps }
  exact k a _ (.inl rfl) e
 | met f y =>
  have e:h.get? a=some (PySem.W.methodObj (.ref f) (.ref y)):=x
  show h'.get? a=some (PySem.W.methodObj (.ref f) (.ref y))
  exact k a _ (.inl rfl) e
 | ext φ=>obtain ⟨p,⟨o,e⟩,st⟩:=x; exact ⟨st _ _ p λo q=>k _ _ (.inl rfl) q,⟨o,k _ _ (.inl rfl) e⟩,st⟩
theorem Vf.lt(x:Vf P w H h)(e:H a=some o):a<h.objs.size:=(x a o e).lt
theorem Vf.fresh(x:Vf P w H h)(e:h.objs.size<=a):H a=none:=by
 cases q:H a with
 | none=>rfl
 | some u=>exact absurd (Cc (x.lt q) e) (Fo _)
theorem Vf.kept(x:Vf P w H h)(k:∀b u,h.get? b=some u->h'.get? b=some u):Vf P w H h':=λa o e =>
 (x a o e).stay (λb u _ q=>k b u q) (λ_ q=>q) λ_ _ q=>q
theorem Vf.laid(x:Vf P w H h)(k:∀b u,h.get? b=some u->h'.get? b=some u)(hp:h.objs.size<=a)(new:Hl P w (upd H a o) h' a o):Vf P w (upd H a o) h':=λb u e=>by
 have hn:=x.fresh hp
 by_cases hb:b=a
 ·subst hb; rw[Ds] at e; cases e; exact new
 ·rw[Dr hb] at e
  exact (x b u e).stay (λc v _ q=>k c v q) (λc q=>by rw[Dr (Fn q hn)]; exact q) λc xs q=>by rw[Dr (Fn q hn)]; exact q
end
def Rd(H:Hp)(a:Addr)(u:HO):Prop:=H a=some u\/∃o,H a=some (.frz o u)
theorem Rd.ok{P:Bl}{w:World}{H:Hp}{h:Heap}{a:Addr}{u:HO}(r:Rd H a u)(x:Vf P w H h):Hl P w H h a u:=by
 rcases r with r | ⟨o,r⟩
 ·exact x a u r
 ·obtain ⟨_,q⟩:=x a _ r
  exact q
def FT:Option HO->Prop
 | some (.lst _)=>True
 | some (.dK _)=>True
 | some (.dT _)=>True
 | some (.set _ _)=>True
 | some (.ins _ _ _)=>True
 | some (.ext _)=>True
 | _=>False
section
variable{P:Bl}{w:World}{H:Hp}{h h':Heap}{x e:Addr}{o':HO}
theorem Vf.write(ok:Vf P w H h)(mu:FT (H x))(he:e=x\/H e=some (.own x))(k:∀b u,b≠e->h.get? b=some u->h'.get? b=some u)(heo:∃u,h'.get? e=some u)(new:Hl P w (upd H x o') h' x o'):Vf P w (upd H x o') h':=λb u q=>by
 have nown:∀c y,H c=some (.own y)->c≠x:=λc y r z=>by subst z; rw[r] at mu; exact mu
 have jA:∀c xs,H c=some (.tup xs)->c≠x:=λc xs r z=>by subst z; rw[r] at mu; exact mu
 by_cases hb:b=x
 ·subst hb; rw[Ds] at q; cases q; exact new
 ·rw[Dr hb] at q
  by_cases hbe:b=e
  ·have q':H b=some (.own x):=by
    rcases he with z | z
    ·exact absurd (hbe.trans z) hb
    ·rw[hbe]; exact z
   rw[q] at q'; cases q'
   obtain ⟨v,hv⟩:=heo
   exact ⟨v,by rw[hbe]; exact hv⟩
  ·refine (ok b u q).stay (λc v hc r=>k c v ?_ r) (λc r=>by rw[Dr (nown c b r)]; exact r) λc xs r=>by rw[Dr (jA c xs r)]; exact r
   rcases hc with rfl | hc
   ·exact hbe
   ·rintro rfl
    rcases he with z | z
    ·exact nown c b hc z
    ·rw[hc] at z; cases z; exact hb rfl
end
structure Un(fs ex:List Addr)(H H':Hp)(h h':Heap):Prop where
 keep:∀b o,h.get? b=some o->H b=none->b∉fs->b∉ex->h'.get? b=some o
 slot:∀b o,h.get? b=some o->H b=none->b∈fs->b∉ex->∃sl,h'.get? b=some { o with slots:=sl }
 free:∀b o,h.get? b=some o->H b=none->b∉ex->H' b=none
 there:∀b o,h.get? b=some o->b∉ex->∃o',h'.get? b=some o'
 tups:∀b xs,H b=some (.tup xs)->H' b=some (.tup xs)
 frzs:∀b o u,H b=some (.frz o u)->H' b=some (.frz o u)
 tbls:∀b ps,H b=some (.tbl ps)->∃more,H' b=some (.tbl (ps++more))
section
variable{fs fs' ex ex':List Addr}{H H1 H2:Hp}{h h1 h2 h':Heap}{a x e:Addr}{o:HO}
theorem Un.any(u:Un fs ex H H1 h h1){b:Addr}{ob:Obj}(q:h.get? b=some ob)(n:H b=none)(hx:b∉ex):∃sl,h1.get? b=some { ob with slots:=sl }:=by
 by_cases hb:b∈fs
 ·exact u.slot b ob q n hb hx
 ·exact ⟨ob.slots,u.keep b ob q n hb hx⟩
theorem Un.kept(k:∀b u,h.get? b=some u->h'.get? b=some u):Un fs ex H H h h' :=
 ⟨λb ob q _ _ _=>k b ob q,λb ob q _ _ _=>⟨ob.slots,k b ob q⟩,λ_ _ _ n _=>n,λb ob q _=>⟨ob,k b ob q⟩,λ_ _ q=>q,λ_ _ _ q=>q,λ_ ps q=>⟨#[],by rw[q]; simp⟩⟩
theorem Un.refl:Un fs ex H H h h:=Un.kept λ_ _ q=>q
theorem Un.laid(k:∀b u,h.get? b=some u->h'.get? b=some u)(hp:h.objs.size<=a)(hn:H a=none):Un fs ex H (upd H a o) h h' where
 keep:=λb u q _ _ _=>k b u q
 slot:=λb u q _ _ _=>⟨u.slots,k b u q⟩
 free:=λb u q n _=>by rw[Dr (Bu (Cc (Au q) hp))]; exact n
 there:=λb u q _=>⟨u,k b u q⟩
 tups:=λb xs q=>by rw[Dr (Fn q hn)]; exact q
 frzs:=λb u xs q=>by rw[Dr (Fn q hn)]; exact q
 tbls:=λb ps q=>⟨#[],by rw[Dr (Fn q hn),q]; simp⟩
theorem Un.write(mu:FT (H x))(he:e=x\/H e=some (.own x))(k:∀b u,b≠e->h.get? b=some u->h'.get? b=some u)(heo:∃u,h'.get? e=some u):Un fs ex H (upd H x o) h h':=by
 have hx:∀b,H b=none->b≠x:=λb n z=>by subst z; rw[n] at mu; exact mu
 have hb:∀b,H b=none->b≠e:=λb n z=>by
  subst z
  rcases he with r | r
  ·exact hx b n r
  ·rw[n] at r; cases r
 have hm:∀b u,H b=some u->¬ FT (some u)->b≠x:=λb u q nm z=>by subst z; rw[q] at mu; exact nm mu
 refine ⟨λb u q n _ _=>k b u (hb b n) q,λb u q n _ _=>⟨u.slots,k b u (hb b n) q⟩,λb u q n _=>by rw[Dr (hx b n)]; exact n,λb u q _=>?_,
  λb xs q=>by rw[Dr (hm b _ q λz=>z)]; exact q,λb u xs q=>by rw[Dr (hm b _ q λz=>z)]; exact q,λb ps q=>⟨#[],by rw[Dr (hm b _ q λz=>z),q]; simp⟩⟩
 by_cases hbe:b=e
 ·subst hbe; exact heo
 ·exact ⟨u,k b u hbe q⟩
end
def HB(h:Heap)(H:Hp):List Addr:=(Cd h.objs.size).filter λa=>(H a).isSome
def jE(h:Heap)(H:Hp):Heap:=PySem.W.hideAll h (HB h H)
theorem vW(h:Heap)(H:Hp):(jE h H).objs.size=h.objs.size:=PySem.W.hideAll_size _ _
theorem B1{h:Heap}{H:Hp}{b:Addr}{o:Obj}(e:h.get? b=some o)(n:H b=none):(jE h H).get? b=some o :=
 PySem.W.hideAll_get _ e λhm=>by
  have q:(H b).isSome=true:=(List.mem_filter.mp hm).2
  rw[n] at q; simp at q
theorem L1{h:Heap}{H:Hp}{b:Addr}{o:Obj}(e:(jE h H).get? b=some o):h.get? b=some o/\H b=none:=by
 have e':h.get? b=some o:=PySem.W.of_hideAll (HB h H) e
 refine ⟨e',?_⟩
 cases q:H b with
 | none=>rfl
 | some x =>
  have hm:b∈HB h H:=List.mem_filter.mpr ⟨Ky.mpr (Au e'),by simp [q]⟩
  have z:(jE h H).get? b=none:=PySem.W.hideAll_none (HB h H) hm
  rw[z] at e; cases e
def E4(g h:Heap)(L:Addr):List (Addr×Obj):=(Cd h.objs.size).filterMap λa=>if a=L\/(g.get? a).isSome=true then none else (h.get? a).map λo=>(a,o)
def Ht(g h:Heap)(L d:Addr):List (Addr×Obj):=(E4 g h L).filter λp=>decide (p.1≠d)
structure Mod(K:PySem.W.Frag)(mg:Str->Option Value)(base:Heap):Prop where
 kin:K.In base
 glob:base.Ns Dg mg
 blt:∃mb,base.Ns builtinsNs mb/\∀x:Str,x ≠ "__name__" -> mb x=Kl x
 nolimit:base.NoLimit
structure Cx where
 prog:Bl
 w:World
 K:PySem.W.Frag
 mg:Str->Option Value
 base:Heap
 A:Ce
 N:List Str
 s₀:Ai
 H₀:Hp
 env:Env
 outer:List Env
 stack:List Env
 ex:List Addr
 fn:Str->Bool
 calm:Bool
 pn:List (Addr×Obj)
 xe:Value->Ai->Prop
def gC(l:List Env):List Addr:=l.filterMap (·.frame)
abbrev Cx.fs(X:Cx):List Addr:=gC X.outer
def GV(sc:Scope)(x:Str):Prop:=sc.names.lookup x=some .local\/sc.names.lookup x=some .cell\/sc.names.lookup x=some .free
def Loc(sc:Scope)(x:Str):Prop:=sc.names.lookup x=some .local\/sc.names.lookup x=some .cell
def HR(env:Env)(h:Heap)(m:Str->Option Value)(x:Str)(u:Value):Prop :=
 (env.kindOf x=some .local/\m x=some u)\/((env.kindOf x=some .cell\/env.kindOf x=some .free)/\∃c,env.cells.lookup x=some c/\h.IsCell c (some u))
structure Cx.Ok(X:Cx):Prop where
 mod:Mod X.K X.mg X.base
 kind:X.env.scope.kind=.function
 glob:X.env.globals=Dg
 blt:X.env.builtins=builtinsNs
 above:X.s₀.heap.objs.size<=X.env.locals
 inj:∀x y c,X.env.cells.lookup x=some c->X.env.cells.lookup y=some c->x=y
 has:∀x,(X.env.kindOf x=some .cell\/X.env.kindOf x=some .free)->∃c,X.env.cells.lookup x=some c
 cab:∀x c,X.fn x=true->X.env.cells.lookup x=some c->X.s₀.heap.objs.size<=c
 hd:X.calm=true->X.A.handled=none
 frames:X.A.frames=some X.stack
 stk:X.stack=X.outer\/(X.stack=X.env::X.outer/\X.env.frame=some X.env.locals)
 exf:∀b∈X.ex,b≠X.env.locals/\∀x c,X.env.cells.lookup x=some c->c≠b
 bs:∀b o,X.base.get? b=some o->X.s₀.heap.get? b=some o/\X.H₀ b=none
 bsz:X.base.objs.size<=X.s₀.heap.objs.size
 noex:∀b o,X.base.get? b=some o->b∉X.ex
 exfs:∀b∈X.ex,b∉X.fs
 funs:X.s₀.heap.FunFrames X.base X.outer
 frf:∀b∈X.fs,X.H₀ b=none
structure Inv(X:Cx)(pins:List (Addr×Obj))(σ:List (Option V))(H:Hp)(s:Ai):Prop where
 ok:X.Ok
 os:s.os=X.s₀.os
 bare:Wm s.gens
 base:Un X.fs X.ex X.H₀ H X.s₀.heap s.heap
 loc:∃m,s.heap.Ns X.env.locals m/\∀(i:Nat) (x:Str) (v:V),X.N[i]? = some x->σ[i]? = some (some v)->GV X.env.scope x->∃u,RelV v u/\HR X.env s.heap m x u
 cell:∀x c,X.env.cells.lookup x=some c->∃v,s.heap.IsCell c v
 free:H X.env.locals=none
 freeC:∀x c,X.env.cells.lookup x=some c->H c=none
 pin:∀p∈X.pn++pins,s.heap.get? p.1=some p.2/\H p.1=none/\p.1≠X.env.locals/\p.1∉X.fs/\∀v,p.2.data≠.cell v
 hok:Vf X.prog X.w H s.heap
 len:σ.length=X.N.length
section
variable{X:Cx}{pins:List (Addr×Obj)}{σ:List (Option V)}{H H':Hp}{s:Ai}{h':Heap}
theorem Cx.Ok.nofr(ok:X.Ok){b:Addr}{o:Obj}(e:X.base.get? b=some o):b∉X.fs:=λhb=>by
 have:=(ok.funs.mem hb).1
 rw[e] at this; cases this
theorem Inv.bs(I:Inv X pins σ H s):∀b o,X.base.get? b=some o->s.heap.get? b=some o/\H b=none:=λb o e =>
 ⟨I.base.keep b o (I.ok.bs b o e).1 (I.ok.bs b o e).2 (I.ok.nofr e) (I.ok.noex b o e),I.base.free b o (I.ok.bs b o e).1 (I.ok.bs b o e).2 (I.ok.noex b o e)⟩
theorem Inv.bk(I:Inv X pins σ H s):∀b o,X.base.get? b=some o->s.heap.get? b=some o:=λb o e=>(I.bs b o e).1
theorem Inv.mod(I:Inv X pins σ H s):Mod X.K X.mg X.base:=I.ok.mod
theorem Inv.kIn(I:Inv X pins σ H s):X.K.In s.heap:=I.ok.mod.kin.keeps I.bk
theorem Inv.lt(I:Inv X pins σ H s):X.env.locals<s.heap.objs.size:=let ⟨_,hn,_⟩:=I.loc; hn.lt
theorem Inv.sz(I:Inv X pins σ H s):X.s₀.heap.objs.size<=s.heap.objs.size:=Cg I.ok.above (Iw I.lt)
theorem Inv.nofs(I:Inv X pins σ H s){a:Addr}(h:s.heap.objs.size<=a):a∉X.fs:=λhb=>by
 obtain ⟨_,o,ho,_⟩:=I.ok.funs.mem hb
 exact absurd (Cc (Au ho) (Cg I.sz h)) (Fo _)
theorem Inv.cne(I:Inv X pins σ H s):∀x c,X.env.cells.lookup x=some c->c≠X.env.locals:=λx c e z=>by
 obtain ⟨v,o,ho,hd⟩:=I.cell x c e
 obtain ⟨m,⟨o',es,ep,ho',hd',_⟩,_⟩:=I.loc
 rw[z,ho'] at ho; cases ho; rw[hd'] at hd; cases hd
theorem Inv.funs(I:Inv X pins σ H s):s.heap.FunFrames X.base X.outer:=by
 have all:∀(l:List Env),(∀b∈gC l,b∈X.fs)->X.s₀.heap.FunFrames X.base l->s.heap.FunFrames X.base l:=by
  intro l
  induction l with
  | nil=>intro _ _; trivial
  | cons env r ih =>
   intro hs hl
   obtain ⟨hk,⟨L,o,hf,hn,ho,hd⟩,hr⟩:=hl
   have hL:L∈X.fs:=hs L (by unfold gC; rw[Lq,hf]; exact Ab)
   obtain ⟨sl,e⟩:=I.base.slot L o ho (I.ok.frf L hL) hL λz=>I.ok.exfs L z hL
   exact ⟨hk,⟨L,_,hf,hn,e,hd⟩,ih (λb hb=>hs b (by unfold gC; rw[Lq,hf]; exact Ad _ hb)) hr⟩
 exact all X.outer (λ_ hb=>hb) I.ok.funs
theorem Inv.stack(I:Inv X pins σ H s):s.heap.FunFrames X.base X.stack:=by
 rcases I.ok.stk with e | ⟨e,hf⟩
 ·rw[e]; exact I.funs
 ·rw[e]
  obtain ⟨m,hn,_⟩:=I.loc
  refine .cons (by rw[I.ok.kind]; decide) hf hn ?_ I.funs
  exact Wc (Cg I.ok.bsz I.ok.above)
theorem Inv.stkSub(I:Inv X pins σ H s):∀b∈gC X.stack,b∈X.env.locals::X.fs:=λb hb=>by
 rcases I.ok.stk with e | ⟨e,hf⟩
 ·rw[e] at hb; exact Ad _ hb
 ·rw[e] at hb
  unfold gC at hb
  rw[Lq,hf] at hb
  exact hb
theorem Inv.stkFree(I:Inv X pins σ H s):∀b∈gC X.stack,H b=none:=λb hb=>by
 rcases An.mp (I.stkSub b hb) with e | hb
 ·rw[e]; exact I.free
 ·obtain ⟨_,o,ho,_⟩:=I.ok.funs.mem hb
  exact I.base.free b o ho (I.ok.frf b hb) λz=>I.ok.exfs b z hb
theorem Inv.step{g':Array GenState}{t':Nat}{d':Drawn}{ch:List Addr}(I:Inv X pins σ H s)(hch:∀b∈ch,(b∈X.ex\/X.s₀.heap.objs.size<=b)/\b≠X.env.locals/\(∀x c,X.env.cells.lookup x=some c->c≠b)/\∀p∈X.pn++pins,p.1≠b)(keep:∀b o,b≠X.env.locals->b∉X.fs->b∉ch->s.heap.get? b=some o->H b=none->h'.get? b=some o)(slot:∀b o,b≠X.env.locals->b∈X.fs->b∉ch->s.heap.get? b=some o->H b=none->∃sl,h'.get? b=some { o with slots:=sl })(free:∀b o,b∉ch->s.heap.get? b=some o->H b=none->H' b=none)(there:∀b o,b∉ch->s.heap.get? b=some o->∃o',h'.get? b=some o')(tups:∀b xs,H b=some (.tup xs)->H' b=some (.tup xs))(frzs:∀b o u,H b=some (.frz o u)->H' b=some (.frz o u))(tbls:∀b ps,H b=some (.tbl ps)->∃more,H' b=some (.tbl (ps++more)))(ns:∀m,s.heap.Ns X.env.locals m->h'.Ns X.env.locals m)(hok:Vf X.prog X.w H' h')(hg:Wm g'):Inv X pins σ H' { s with heap:=h',gens:=g',drawn:=d',toks:=t' }:=by
 have neL:∀b o,X.s₀.heap.get? b=some o->b≠X.env.locals:=λb o e=>Bu (Cc (Au e) I.ok.above)
 have neC:∀b o,X.s₀.heap.get? b=some o->b∉X.ex->b∉ch:=λb o e hx hb=>by
  rcases (hch b hb).1 with z | z
  ·exact hx z
  ·exact absurd (Cc (Au e) z) (Fo _)
 have cellK:∀x c,X.env.cells.lookup x=some c->∀v,s.heap.IsCell c v->h'.IsCell c v:=λx c e v ⟨o,ho,hd⟩=>by
  have nch:c∉ch:=λz=>(hch c z).2.2.1 x c e rfl
  by_cases hc:c∈X.fs
  ·obtain ⟨sl,q⟩:=slot c o (I.cne x c e) hc nch ho (I.freeC x c e)
   exact ⟨_,q,hd⟩
  ·exact ⟨o,keep c o (I.cne x c e) hc nch ho (I.freeC x c e),hd⟩
 refine ⟨I.ok,I.os,hg,⟨λb o e n hb hx=>?_,λb o e n hb hx=>?_,λb o e n hx=>?_,λb o e hx=>?_,λb xs e=>tups b xs (I.base.tups b xs e),λb o xs e=>frzs b o xs (I.base.frzs b o xs e),λb ps e=>?_⟩,?_,λx c e=>?_,?_,λx c e=>?_,λp hp=>?_,hok,I.len⟩
 ·exact keep b o (neL b o e) hb (neC b o e hx) (I.base.keep b o e n hb hx) (I.base.free b o e n hx)
 ·obtain ⟨sl,e1⟩:=I.base.slot b o e n hb hx
  obtain ⟨sl',e2⟩:=slot b _ (neL b o e) hb (neC b o e hx) e1 (I.base.free b o e n hx)
  exact ⟨sl',e2⟩
 ·obtain ⟨o',e1⟩:=I.base.there b o e hx
  exact free b o' (neC b o e hx) e1 (I.base.free b o e n hx)
 ·obtain ⟨o',e1⟩:=I.base.there b o e hx
  exact there b o' (neC b o e hx) e1
 ·obtain ⟨m1,e1⟩:=I.base.tbls b ps e
  obtain ⟨m2,e2⟩:=tbls b _ e1
  exact ⟨m1++m2,by rw[e2,Array.append_assoc]⟩
 ·obtain ⟨m,hn,hl⟩:=I.loc
  refine ⟨m,ns m hn,λi x v e1 e2 e3=>?_⟩
  obtain ⟨u,r,l⟩:=hl i x v e1 e2 e3
  refine ⟨u,r,?_⟩
  rcases l with l | ⟨k,c,e,z⟩
  ·exact .inl l
  ·exact .inr ⟨k,c,e,cellK x c e _ z⟩
 ·obtain ⟨v,z⟩:=I.cell x c e
  exact ⟨v,cellK x c e v z⟩
 ·obtain ⟨m,⟨o,_,_,ho,_⟩,_⟩:=I.loc
  exact free _ o (λz=>(hch _ z).2.1 rfl) ho I.free
 ·obtain ⟨v,o,ho,hd⟩:=I.cell x c e
  exact free c o (λz=>(hch c z).2.2.1 x c e rfl) ho (I.freeC x c e)
 ·obtain ⟨e,n,ne,nf,d⟩:=I.pin p hp
  have nch:p.1∉ch:=λz=>(hch p.1 z).2.2.2 p hp rfl
  exact ⟨keep p.1 p.2 ne nf nch e n,free p.1 p.2 nch e n,ne,nf,d⟩
theorem Inv.un{t':Nat}(I:Inv X pins σ H s)(u:Un X.fs [] H H' s.heap h')(hok:Vf X.prog X.w H' h'):Inv X pins σ H' { s with heap:=h',toks:=t' }:=by
 w_pre z9
 obtain ⟨sl,hL⟩:=u.any ho I.free (by simp)
 exact I.step (g':=s.gens) (d':=s.drawn) (ch:=[]) (λ_ z=>nomatch z) (λb o _ hb _ e n=>u.keep b o e n hb (by simp)) (λb o _ hb _ e n=>u.slot b o e n hb (by simp)) (λb o _ e n=>u.free b o e n (by simp)) (λb o _ e=>u.there b o e (by simp)) u.tups u.frzs u.tbls (λm' hm=>by
  w_pre h6
  exact ⟨_,es',ep',hL,r'⟩) hok I.bare
theorem Inv.call{g':Array GenState}{t':Nat}{d':Drawn}{ch:List Addr}(I:Inv X pins σ H s)(u:Un (gC X.stack) ch H H' s.heap h')(hok:Vf X.prog X.w H' h')(hg:Wm g')(hch:∀b∈ch,(b∈X.ex\/X.s₀.heap.objs.size<=b)/\b≠X.env.locals/\(∀x c,X.env.cells.lookup x=some c->c≠b)/\∀p∈X.pn++pins,p.1≠b):Inv X pins σ H' { s with heap:=h',gens:=g',drawn:=d',toks:=t' }:=by
 w_pre z9
 obtain ⟨sl,hL⟩:=u.any ho I.free λz=>(hch _ z).2.1 rfl
 exact I.step (ch:=ch) hch (λb o hL hb hc e n=>u.keep b o e n (λz=>(An.mp (I.stkSub b z)).elim hL hb) hc) (λb o _ _ hc e n=>u.any e n hc) (λb o hc e n=>u.free b o e n hc) (λb o hc e=>u.there b o e hc) u.tups u.frzs u.tbls (λm' hm=>by
  w_pre h6
  exact ⟨_,es',ep',hL,r'⟩) hok hg
theorem Inv.turned{t':Nat}{it:Addr}(I:Inv X pins σ H s)(k:∀b o,b≠it->s.heap.get? b=some o->h'.get? b=some o)(hn:H it=none)(hL:it≠X.env.locals)(h1:it∈X.ex\/X.s₀.heap.objs.size<=it)(h2:∀x c,X.env.cells.lookup x=some c->c≠it)(h3:∀p∈X.pn++pins,p.1≠it):Inv X pins σ H { s with heap:=h',toks:=t' }:=by
 have nit:∀b u,H b=some u->b≠it:=λb u e z=>by rw[z,hn] at e; cases e
 refine I.step (g':=s.gens) (d':=s.drawn) (ch:=[it]) (λb hb=>?_) (λb o _ _ hc e _=>k b o (λz=>hc (by simp [z])) e) (λb o _ _ hc e _=>⟨o.slots,k b o (λz=>hc (by simp [z])) e⟩) (λ_ _ _ _ n=>n)
  (λb o hc e=>⟨o,k b o (λz=>hc (by simp [z])) e⟩) (λ_ _ e=>e) (λ_ _ _ e=>e) (λb ps e=>⟨#[],by rw[e]; simp⟩) (λm hm=>?_) (λb u e=>?_) I.bare
 ·have e:b=it:=by simpa using hb
  subst e
  exact ⟨h1,hL,h2,h3⟩
 ·obtain ⟨o,es,ep,ho,r⟩:=hm
  exact ⟨o,es,ep,k _ o (Ln hL) ho,r⟩
 w_pre a1
theorem Inv.tok(I:Inv X pins σ H s)(t:Nat):Inv X pins σ H { s with toks:=t }:=I.un (h':=s.heap) (t':=t) Un.refl I.hok
theorem Inv.kept{t':Nat}(I:Inv X pins σ H s)(k:∀b u,s.heap.get? b=some u->h'.get? b=some u):Inv X pins σ H { s with heap:=h',toks:=t' }:=I.un (Un.kept k) (I.hok.kept k)
theorem Inv.laid{a:Addr}{o:HO}{t':Nat}(I:Inv X pins σ H s)(k:∀b u,s.heap.get? b=some u->h'.get? b=some u)(hp:s.heap.objs.size<=a)(new:Hl X.prog X.w (upd H a o) h' a o):Inv X pins σ (upd H a o) { s with heap:=h',toks:=t' }:=I.un (Un.laid k hp (I.hok.fresh hp)) (I.hok.laid k hp new)
theorem Inv.write{x e:Addr}{o:HO}{t':Nat}(I:Inv X pins σ H s)(mu:FT (H x))(he:e=x\/H e=some (.own x))(k:∀b u,b≠e->s.heap.get? b=some u->h'.get? b=some u)(heo:∃u,h'.get? e=some u)(new:Hl X.prog X.w (upd H x o) h' x o):Inv X pins σ (upd H x o) { s with heap:=h',toks:=t' }:=I.un (Un.write mu he k heo) (I.hok.write mu he k heo new)
theorem Inv.pins_of{pins':List (Addr×Obj)}(I:Inv X pins σ H s)(h:∀p∈pins',s.heap.get? p.1=some p.2/\H p.1=none/\p.1≠X.env.locals/\p.1∉X.fs/\∀v,p.2.data≠.cell v):Inv X pins' σ H s :=
 ⟨I.ok,I.os,I.bare,I.base,I.loc,I.cell,I.free,I.freeC,λp hp=>(Aw.mp hp).elim (λz=>I.pin p (Ak _ z)) (h p),I.hok,I.len⟩
theorem nZ{N:List Str}(hN:N.Nodup){i j:Nat}{x:Str}(a:N[i]? = some x)(b:N[j]? = some x):i=j:=by
 obtain ⟨h1,e1⟩:=Av.mp a
 obtain ⟨h2,e2⟩:=Av.mp b
 exact (List.getElem_inj hN).mp (e1.trans e2.symm)
theorem vM{M:Model}{A:Ce}{E:Value->Ai->Prop}{i:Nat}{x:Str}{v:V}{u:Value}{Q:Unit->Ai->Prop}(I:Inv X pins σ H s)(hN:X.N.Nodup)(hi:X.N[i]? = some x)(hx:Loc X.env.scope x)(r:RelV v u)(h:∀s',Inv X pins (σ.set i (some v)) H s'->(∃a,Ct a s.heap s'.heap/\(a=X.env.locals\/X.env.cells.lookup x=some a))->Q () s')(hf:X.fn x=true\/X.env.scope.names.lookup x=some .local:=by first | exact .inl rfl | exact .inr rfl | assumption):wpAny M A (storeName X.env x u) Q E s:=by
 obtain ⟨m,hn,hl⟩:=id I.loc
 have hcls:(X.env.scope.kind == .class || (X.env.scope.kind == .module && X.env.locals != X.env.globals))=false:=by rw[I.ok.kind]; rfl
 have hiσ:i<σ.length:=by rw[I.len]; exact (Av.mp hi).1
 have cne:=I.cne
 have tracked:∀{a:Addr} {h':Heap},(∃o,s.heap.get? a=some o/\H a=none)->Ct a s.heap h'->Vf X.prog X.w H h':=λ{a h'} ha hs b ob e=>by
  obtain ⟨_,_,hfree⟩:=ha
  refine (I.hok b ob e).stay (λc w' hc q=>(hs.2 c ?_).trans q) (λ_ q=>q) λ_ _ q=>q
  rintro rfl
  rcases hc with rfl | hc
  ·rw[hfree] at e; cases e
  ·rw[hfree] at hc; cases hc
 rcases hx with hk | hk
 ·refine wpAny_storeName_local hk hn (λh' hn' hs=>?_) hcls
  obtain ⟨oL,_,_,hoL,_⟩:=id hn
  refine h _ ⟨I.ok,I.os,I.bare,⟨λb o e n hb hx=>?_,λb o e n hb hx=>?_,I.base.free,λb o e hx=>?_,I.base.tups,I.base.frzs,I.base.tbls⟩,⟨_,hn',λj y v' e1 e2 e3=>?_⟩,λy c e=>?_,I.free,I.freeC,λp hp=>?_,tracked ⟨oL,hoL,I.free⟩ hs,by simpa using I.len⟩ ⟨_,hs,.inl rfl⟩
  ·exact (hs.2 b (Bu (Cc (Au e) I.ok.above))).trans (I.base.keep b o e n hb hx)
  ·obtain ⟨sl,e1⟩:=I.base.slot b o e n hb hx
   exact ⟨sl,(hs.2 b (Bu (Cc (Au e) I.ok.above))).trans e1⟩
  ·obtain ⟨o',e1⟩:=I.base.there b o e hx
   exact ⟨o',(hs.2 b (Bu (Cc (Au e) I.ok.above))).trans e1⟩
  ·by_cases hj:j=i
   ·subst hj
    w_pre y3
    exact ⟨u,r,.inl ⟨hk,by simp⟩⟩
   ·rw[Wa (Ln hj)] at e2
    w_pre k6
    rcases q with ⟨k,e⟩ | ⟨k,c,e,z⟩
    ·refine .inl ⟨k,?_⟩
     have : y≠x:=λe=>hj (nZ hN e1 (e▸hi))
     simp [this,e]
    ·exact .inr ⟨k,c,e,z.sameBut hs (cne y c e)⟩
  ·obtain ⟨w',z⟩:=I.cell y c e
   exact ⟨w',z.sameBut hs (cne y c e)⟩
  ·obtain ⟨e,n,ne,nf,d⟩:=I.pin p hp
   exact ⟨(hs.2 p.1 ne).trans e,n,ne,nf,d⟩
 ·have hfn:X.fn x=true:=by
   rcases hf with z | z
   ·exact z
   ·rw[z] at hk; cases hk
  obtain ⟨c,hc⟩:=I.ok.has x (.inl hk)
  obtain ⟨w',z⟩:=I.cell x c hc
  refine wpAny_storeName_cell I.ok.kind hk hc z (λh' hc' hs=>?_)
  obtain ⟨oc,hoc,hocd⟩:=id z
  refine h { s with heap:=h' } ⟨I.ok,I.os,I.bare,⟨λb o e n hb hx=>?_,λb o e n hb hx=>?_,I.base.free,λb o e hx=>?_,I.base.tups,I.base.frzs,I.base.tbls⟩,⟨m,hn.sameBut hs (Ln (cne x c hc)),λj y v' e1 e2 e3=>?_⟩,λy c' e=>?_,I.free,I.freeC,λp hp=>?_,tracked ⟨oc,hoc,I.freeC x c hc⟩ hs,by simpa using I.len⟩ ⟨c,hs,.inr hc⟩
  ·exact (hs.2 b (Bu (Cc (Au e) (I.ok.cab x c hfn hc)))).trans (I.base.keep b o e n hb hx)
  ·obtain ⟨sl,e1⟩:=I.base.slot b o e n hb hx
   exact ⟨sl,(hs.2 b (Bu (Cc (Au e) (I.ok.cab x c hfn hc)))).trans e1⟩
  ·obtain ⟨o',e1⟩:=I.base.there b o e hx
   exact ⟨o',(hs.2 b (Bu (Cc (Au e) (I.ok.cab x c hfn hc)))).trans e1⟩
  ·by_cases hj:j=i
   ·subst hj
    w_pre y3
    exact ⟨u,r,.inr ⟨.inl hk,c,hc,hc'⟩⟩
   ·rw[Wa (Ln hj)] at e2
    w_pre k6
    rcases q with q | ⟨k,c',e,z'⟩
    ·exact .inl q
    ·refine .inr ⟨k,c',e,z'.sameBut hs ?_⟩
     rintro rfl
     exact hj (nZ hN e1 (I.ok.inj _ _ _ e hc▸hi))
  ·by_cases hcc:c'=c
   ·subst hcc; exact ⟨_,hc'⟩
   ·obtain ⟨w2,z2⟩:=I.cell y c' e
    exact ⟨w2,z2.sameBut hs hcc⟩
  ·obtain ⟨e,n,ne,nf,d⟩:=I.pin p hp
   refine ⟨(hs.2 p.1 ?_).trans e,n,ne,nf,d⟩
   intro q
   rw[q,hoc] at e
   have q':oc=p.2:=Bv e
   exact d w' (by rw[<- q']; exact hocd)
theorem nQ{M:Model}{A:Ce}{E:Value->Ai->Prop}{i:Nat}{x:Str}{v:V}{u:Value}{Q:Unit->Ai->Prop}(I:Inv X pins σ H s)(hN:X.N.Nodup)(hi:X.N[i]? = some x)(hx:Loc X.env.scope x)(r:RelV v u)(h:∀s',Inv X pins (σ.set i (some v)) H s'->Q () s')(hf:X.fn x=true\/X.env.scope.names.lookup x=some .local:=by first | exact .inl rfl | exact .inr rfl | assumption):wpAny M A (storeName X.env x u) Q E s :=
 vM I hN hi hx r (λs' I' _=>h s' I') hf
theorem Inv.call'{s':Ai}{ch:List Addr}(I:Inv X pins σ H s)(ho:s'.os=s.os)(u:Un (gC X.stack) ch H H' s.heap s'.heap)(hok:Vf X.prog X.w H' s'.heap)(hg:Wm s'.gens)(hch:∀b∈ch,(b∈X.ex\/X.s₀.heap.objs.size<=b)/\b≠X.env.locals/\(∀x c,X.env.cells.lookup x=some c->c≠b)/\∀p∈X.pn++pins,p.1≠b):Inv X pins σ H' s':=by
 obtain ⟨h',g',d',t',o'⟩:=s'
 have e:o'=s.os:=ho
 subst e
 exact I.call (g':=g') (t':=t') (d':=d') u hok hg hch
end
abbrev XK:=Value->Option Addr->Hp->Prop
abbrev St:=List (Option V)
abbrev VK:=V->Hp->Prop
abbrev TE:=St->Hp->VK->Prop
abbrev TT:=St->Hp->(Bool->Hp->Prop)->Prop
abbrev TA:=St->Hp->(List V->Hp->Prop)->Prop
structure Ends where
 nx:St->Hp->Prop
 rt:VK
 bk:St->Hp->Prop:=λ_ _=>False
 ct:St->Hp->Prop:=λ_ _=>False
abbrev TS:=Ends->St->Hp->Prop
def EP(X:Cx)(pins:List (Addr×Obj))(σ:St)(Q:VK)(u:Value)(s':Ai):Prop:=∃v H',Inv X pins σ H' s'/\RelV v u/\Q v H'
def TP(X:Cx)(pins:List (Addr×Obj))(σ:St)(Q:Bool->Hp->Prop)(b:Bool)(s':Ai):Prop:=∃H',Inv X pins σ H' s'/\Q b H'
def AP(X:Cx)(pins:List (Addr×Obj))(σ:St)(Q:List V->Hp->Prop)(us:List Value)(s':Ai):Prop:=∃vs H',Inv X pins σ H' s'/\Gf vs us/\Q vs H'
def SP(X:Cx)(pins:List (Addr×Obj))(D:Ends)(f:Flow)(s':Ai):Prop :=
 match f with
 | .next=>∃σ' H',Inv X pins σ' H' s'/\D.nx σ' H'
 | .brk=>∃σ' H',Inv X pins σ' H' s'/\D.bk σ' H'
 | .cont=>∃σ' H',Inv X pins σ' H' s'/\D.ct σ' H'
 | .ret u=>∃v σ' H',Inv X pins σ' H' s'/\RelV v u/\D.rt v H'
def PE(X:Cx)(e:Expr)(t:TE):Prop :=
 ∀(pins:List (Addr×Obj)) (s:Ai) (σ:St) (H:Hp) (Q:VK),Inv X pins σ H s->t σ H Q->wpAny (model X.prog X.w) X.A (eval e X.env) (EP X pins σ Q) X.xe s
def PT(X:Cx)(e:Expr)(t:TT):Prop :=
 ∀(pins:List (Addr×Obj)) (s:Ai) (σ:St) (H:Hp) (Q:Bool->Hp->Prop),Inv X pins σ H s->t σ H Q->wpAny (model X.prog X.w) X.A (isTrue e X.env (eval e X.env)) (TP X pins σ Q) X.xe s
def PW(X:Cx)(e:Expr)(t:TT):Prop :=
 ∀(whole:Sem Value) (pins:List (Addr×Obj)) (s:Ai) (σ:St) (H:Hp) (Q:Bool->Hp->Prop),Inv X pins σ H s->t σ H Q->wpAny (model X.prog X.w) X.A (isTrue e X.env whole) (TP X pins σ Q) X.xe s
theorem PW.pt{X:Cx}{e:Expr}{t:TT}(h:PW X e t):PT X e t:=h _
def PA(X:Cx)(es:List Expr)(t:TA):Prop :=
 ∀(pos:Pos) (pins:List (Addr×Obj)) (s:Ai) (σ:St) (H:Hp) (Q:List V->Hp->Prop),Inv X pins σ H s->t σ H Q->wpAny (model X.prog X.w) X.A (spliced (Hj pos (Bn es X.env))) (AP X pins σ Q) X.xe s
def PS(X:Cx)(st:Stmt)(t:TS):Prop :=
 ∀(pins:List (Addr×Obj)) (s:Ai) (σ:St) (H:Hp) (D:Ends),Inv X pins σ H s->t D σ H->wpAny (model X.prog X.w) X.A (exec st X.env) (SP X pins D) X.xe s
def tQ(X:Cx)(st:List Stmt)(t:TS):Prop :=
 ∀(pins:List (Addr×Obj)) (s:Ai) (σ:St) (H:Hp) (D:Ends),Inv X pins σ H s->t D σ H->wpAny (model X.prog X.w) X.A (execs st X.env) (SP X pins D) X.xe s
theorem Gb{α:Type}{t:Sem α}{Q Q':α->Ai->Prop}{M:Model}{A:Ce}{E:Value->Ai->Prop}{s:Ai}(h:wpAny M A t Q E s)(hQ:∀a s,Q a s->Q' a s):wpAny M A t Q' E s:=Cq h hQ λ_ _ x=>x
section
variable{X:Cx}
theorem KA{a b:Expr}{ta tb:TE}(ha:PE X a ta)(hb:PE X b tb){pins:List (Addr×Obj)}{s:Ai}{σ:St}{H:Hp}{R:V->V->Hp->Prop}(I:Inv X pins σ H s)(h:ta σ H λx H1=>tb σ H1 λy H2=>R x y H2){α:Type}{Q:α->Ai->Prop}{f:Value->Value->Sem α}(hf:∀v u s2 x y H2,Inv X pins σ H2 s2->RelV x v->RelV y u->R x y H2->wpAny (model X.prog X.w) X.A (f v u) Q X.xe s2):wpAny (model X.prog X.w) X.A (eval a X.env) (λv s₁=>wpAny (model X.prog X.w) X.A (eval b X.env) (λu s₂=>wpAny (model X.prog X.w) X.A (f v u) Q X.xe s₂) X.xe s₁) X.xe s:=by
 w_pre g2
def dU(i:Nat):TE:=λσ H Q=>∃v,σ[i]? = some (some v)/\Q v H
def tC(v:V):TE:=λ_ H Q=>Q v H
theorem AG{i:Nat}{x:Str}{pos:Pos}(hN:X.N[i]? = some x)(hv:GV X.env.scope x)(hd:(x == ("__debug__" : Str))=false:=by decide)(hcd:(x == ("__classdict__" : Str))=false:=by decide):PE X (.Name x pos) (dU i):=by
 w_pre w6
 obtain ⟨v,e,h⟩:=h
 obtain ⟨m,hn,hl⟩:=I.loc
 obtain ⟨u,r,l⟩:=hl i x v hN e hv
 have fin:EP X pins σ Q u s:=⟨v,H,I,r,h⟩
 rcases l with ⟨hk,hm⟩ | ⟨hk,c,hc,hcell⟩
 ·exact wpAny_Name (wpAny_loadName_local I.ok.kind hk hn hm fin) hd
 ·rcases hk with hk | hk
  ·exact wpAny_Name (wpAny_loadName_cell I.ok.kind hk hc hcell fin) hd
  ·exact wpAny_Name (wpAny_loadName_free I.ok.kind hk hc hcell fin hcd) hd
theorem Fq{i j pos}:PE X (.Constant (.int i) j pos) (tC (.int i)):=λ_ _ _ H _ I h=>wpAny_Constant_int ⟨.int i,H,I.tok _,⟨_,rfl⟩,h⟩
theorem zN{b j pos}:PE X (.Constant (.bool b) j pos) (tC (.bl b)):=λ_ _ _ H _ I h=>Constant_bool ⟨.bl b,H,I,rfl,h⟩
theorem BL{j pos}:PE X (.Constant .none j pos) (tC .non):=λ_ _ _ H _ I h=>Constant_none ⟨.non,H,I,rfl,h⟩
theorem BV{x j pos}:PE X (.Constant (.str x) j pos) (tC (.str x)):=λ_ _ _ H _ I h=>Calls.Constant_str ⟨.str x,H,I.tok _,⟨_,rfl⟩,h⟩
def Gl(X:Cx)(x:Str):Prop:=X.env.kindOf x=some .globalImplicit
theorem sF{E:Value->Ai->Prop}{pins:List (Addr×Obj)}{s:Ai}{σ:St}{H:Hp}{x:Str}{u:Value}{pos:Pos}{Q:Value->Ai->Prop}(I:Inv X pins σ H s)(hg:Gl X x)(hm:X.mg x=some u)(h:Q u s)(hd:(x == ("__debug__" : Str))=false:=by decide):wpAny (model X.prog X.w) X.A (eval (.Name x pos) X.env) Q E s :=
 gM I.ok.kind hg (Calls.loadGlobal_global (by rw[I.ok.glob]; exact I.mod.glob.keeps I.bk) hm h) hd
theorem Si{E:Value->Ai->Prop}{pins:List (Addr×Obj)}{s:Ai}{σ:St}{H:Hp}{x:Str}{u:Value}{pos:Pos}{Q:Value->Ai->Prop}(I:Inv X pins σ H s)(hg:Gl X x)(hm:X.mg x=none)(hv:Kl x=some u)(h:Q u s)(hn:x ≠ "__name__" := by decide)(hd:(x == ("__debug__" : Str))=false:=by decide):wpAny (model X.prog X.w) X.A (eval (.Name x pos) X.env) Q E s:=by
 obtain ⟨mb,h1,h2⟩:=I.mod.blt
 exact gM I.ok.kind hg (Calls.loadGlobal_builtin (by rw[I.ok.glob]; exact I.mod.glob.keeps I.bk) hm (by rw[I.ok.blt]; exact h1.keeps I.bk) ((h2 x hn).trans hv) h) hd
theorem R4{x:Str}{v:V}{u:Value}{pos:Pos}(hg:Gl X x)(hm:X.mg x=none)(hv:Kl x=some u)(r:RelV v u)(hn:x ≠ "__name__" := by decide)(hd:(x == ("__debug__" : Str))=false:=by decide):PE X (.Name x pos) (tC v) :=
 λ_ _ _ H _ I h=>Si I hg hm hv ⟨v,H,I,r,h⟩ hn hd
variable{a b:Expr}{ta tb:TE}{pos:Pos}
def PC(X:Cx)(op:CmpOp)(a b:Expr)(t:TE):Prop :=
 ∀(pins:List (Addr×Obj)) (s:Ai) (σ:St) (H:Hp) (Q:VK),Inv X pins σ H s->t σ H Q ->
  wpAny (model X.prog X.w) X.A (eval a X.env) (λv s₁=>wpAny (model X.prog X.w) X.A (eval b X.env) (λu s₂=>wpAny (model X.prog X.w) X.A (Ie op v u) (EP X pins σ Q) X.xe s₂) X.xe s₁) X.xe s
theorem u6(b:Expr){op:CmpOp}(h:op≠.In)(h2:op≠.NotIn):Hd op b=false:=by
 w_pre c2
def tB(t:TE):TT:=λσ H Q=>t σ H λx H1=>∃c,x=.bl c/\Q c H1
theorem IC{op:CmpOp}{t:TE}(h:PC X op a b t)(h1:Hd op b=false:=by first | exact u6 _ (by decide) (by decide) | rfl):PT X (.Compare a [op] [b] pos) (tB t):=by
 intro pins s σ H Q I hw
 refine wpAny_isTrue_Compare1 (Gb (h pins s σ H _ I hw) λv s1 h1=>Gb h1 λu s2 h2=>Gb h2 λc s3 ⟨x,H1,I1,r1,q1⟩=>?_) h1
 w_pre z3
theorem u4{e:Expr}{t:TE}(h:PE X e t)(he:∀whole,isTrue e X.env whole=(do let v <- whole; Wi e.pos; Ny [v] (truthy v)):=by intro _; rfl):PT X e (tB t):=by
 intro pins s σ H Q I hw
 refine isTrue_plain (Gb (h pins s σ H _ I hw) λv s1 ⟨x,H1,I1,r1,q1⟩=>?_) (he _)
 w_pre z3
variable{tA tB':TT}{Ht:List Expr}
def IM(t u:TT):TT:=λσ H Q=>t σ H λc H1=>if c=true then u σ H1 Q else Q false H1
def JM(t u:TT):TT:=λσ H Q=>t σ H λc H1=>if c=true then Q true H1 else u σ H1 Q
def HY(t:TT):TT:=λσ H Q=>t σ H λc H1=>Q (!c) H1
theorem J4(ha:PT X a tA):PW X (.BoolOp .And [a] pos) tA:=by
 w_pre m8
 refine isTrue_and (Gb (ha pins s σ H Q I h) λc s1 e=>?_)
 cases c with
 | true=>exact isTrue_and_nil e
 | false=>exact e
theorem CB(ha:PT X a tA):PW X (.BoolOp .Or [a] pos) tA:=by
 w_pre m8
 refine isTrue_or (Gb (ha pins s σ H Q I h) λc s1 e=>?_)
 cases c with
 | false=>exact isTrue_or_nil e
 | true=>exact e
theorem CH(ha:PT X a tA)(hb:PW X (.BoolOp .And (b::Ht) pos) tB'):PW X (.BoolOp .And (a::b::Ht) pos) (IM tA tB'):=by
 w_pre m8
 refine isTrue_and (Gb (ha pins s σ H _ I h) λc s1 ⟨H1,I1,q1⟩=>?_)
 cases c with
 | true=>exact hb wh pins s1 σ H1 Q I1 q1
 | false=>exact ⟨H1,I1,q1⟩
theorem CV(ha:PT X a tA)(hb:PW X (.BoolOp .Or (b::Ht) pos) tB'):PW X (.BoolOp .Or (a::b::Ht) pos) (JM tA tB'):=by
 w_pre m8
 refine isTrue_or (Gb (ha pins s σ H _ I h) λc s1 ⟨H1,I1,q1⟩=>?_)
 cases c with
 | true=>exact ⟨H1,I1,q1⟩
 | false=>exact hb wh pins s1 σ H1 Q I1 q1
theorem AO(ha:PT X a tA):PT X (.UnaryOp .Not a pos) (HY tA):=by
 w_pre w6
 exact isTrue_not (ha pins s σ H (λc H1=>Q (!c) H1) I h)
def DQ(ta tb:TE):TE:=λσ H Q=>ta σ H λx H1=>∃c,x=.bl c/\if c=true then tb σ H1 Q else Q (.bl false) H1
theorem BS{op}{t:TE}(h:PE X a t):PE X (.BoolOp op [a] pos) t:=λpins s σ H Q I hw=>BoolOp_one (h pins s σ H Q I hw)
theorem BY(ha:PE X a ta)(hb:PE X (.BoolOp .And (b::Ht) pos) tb):PE X (.BoolOp .And (a::b::Ht) pos) (DQ ta tb):=by
 w_pre w6
 refine BoolOp_and (Gb (ha pins s σ H _ I h) λv s1 ⟨x,H1,I1,r1,q1⟩=>?_)
 obtain ⟨c,rfl,q1⟩:=q1
 cases r1
 refine Le ?_
 cases c with
 | true=>exact hb pins s1 σ H1 Q I1 q1
 | false=>exact ⟨.bl false,H1,I1,rfl,q1⟩
def JS(t:TT)(ta tb:TE):TE:=λσ H Q=>t σ H λc H1=>if c=true then ta σ H1 Q else tb σ H1 Q
theorem zU{c:Expr}(hc:PT X c tA)(ha:PE X a ta)(hb:PE X b tb):PE X (.IfExp c a b pos) (JS tA ta tb):=by
 w_pre w6
 refine wpAny_IfExp (Gb (hc pins s σ H _ I h) λd s1 ⟨H1,I1,q1⟩=>?_)
 cases d with
 | true=>exact ha pins s1 σ H1 Q I1 q1
 | false=>exact hb pins s1 σ H1 Q I1 q1
end
def Pe(K:PySem.W.Frag)(H:Hp)(a:Addr)(xs:List V):Prop :=
 Rd H a (.lst xs) \/
  ∃(o:Obj) (its:Array Value) (n:Nat),K.lookup a=some o/\o.cls=.type "list" /\ o.dict=none/\o.data=.seq its n/\its.size<=Aq/\Gf xs its.toList
def Ta(K:PySem.W.Frag)(H:Hp)(a:Addr)(xs:List V):Prop :=
 Rd H a (.tup xs) \/
  ∃(o:Obj) (its:Array Value) (n:Nat),K.lookup a=some o/\o.cls=.type "tuple" /\ o.data=.seq its n/\its.size<=Aq/\Gf xs its.toList
def IF:Value->Option V
 | .none=>some .non
 | .bool b=>some (.bl b)
 | .int i _=>some (.int i)
 | .str x _=>some (.str x)
 | .bytes b _=>some (.byt b)
 | .float b _=>some (.flt b)
 | .ref a=>some (.ref a)
 | .type n=>some (.ty n)
 | _=>none
theorem RelV.abs{x:V}{u:Value}(r:RelV x u):IF u=some x:=by
 cases x with
 | non=>cases r; rfl
 | bl _=>cases r; rfl
 | int _=>obtain ⟨t,rfl⟩:=r; rfl
 | str _=>obtain ⟨t,rfl⟩:=r; rfl
 | byt _=>obtain ⟨t,rfl⟩:=r; rfl
 | flt _=>obtain ⟨t,rfl⟩:=r; rfl
 | ref _=>cases r; rfl
 | ty _=>cases r; rfl
theorem RelV.inj{x y:V}{u:Value}(r:RelV x u)(q:RelV y u):x=y:=Bv (r.abs.symm.trans q.abs)
theorem Gf.inj:∀{xs ys:List V} {us:List Value},Gf xs us->Gf ys us->xs=ys
 | _,_,_,.nil,.nil=>rfl
 | _,_,_,.cons r t,.cons r' t'=>by rw[r.inj r',Gf.inj t t']
section
variable{X:Cx}{pins:List (Addr×Obj)}{σ:St}{H:Hp}{s:Ai}{a:Addr}{xs ys:List V}
theorem Pe.of{K:PySem.W.Frag}(h:H a=some (.lst xs)):Pe K H a xs:=.inl (.inl h)
theorem Ta.of{K:PySem.W.Frag}(h:H a=some (.tup xs)):Ta K H a xs:=.inl (.inl h)
theorem Inv.list(I:Inv X pins σ H s)(h:Pe X.K H a xs):∃its:List Value,Gf xs its/\PlainL s.heap a its.toArray/\xs.length<=Aq:=by
 rcases h with h | ⟨o,its,n,hk,hc,hd,hs,hz,r⟩
 ·obtain ⟨z,its,n,r,e⟩:=h.ok I.hok
  exact ⟨its,r,⟨_,n,e,rfl,rfl,rfl⟩,z⟩
 ·refine ⟨its.toList,r,⟨o,n,I.kIn a o hk,hc,hd,by simpa using hs⟩,?_⟩
  have e:=r.length
  simp only[Am] at e
  omega
theorem Inv.tuple(I:Inv X pins σ H s)(h:Ta X.K H a xs):∃its:List Value,Gf xs its/\IsTup s.heap a its.toArray/\xs.length<=Aq:=by
 rcases h with h | ⟨o,its,n,hk,hc,hs,hz,r⟩
 ·obtain ⟨z,its,r,p⟩:=h.ok I.hok
  exact ⟨its,r,p,z⟩
 ·refine ⟨its.toList,r,⟨o,I.kIn a o hk,hc,n,by simpa using hs⟩,?_⟩
  have e:=r.length
  simp only[Am] at e
  omega
theorem Inv.list_inj(I:Inv X pins σ H s)(h:Pe X.K H a xs)(h':Pe X.K H a ys):xs=ys:=by
 obtain ⟨its,r,⟨o,n,e,_,_,d⟩,_⟩:=I.list h
 obtain ⟨its',r',⟨o',n',e',_,_,d'⟩,_⟩:=I.list h'
 rw[e] at e'; cases e'
 rw[d] at d'
 injection d' with d1 _
 have : its=its':=by simpa using congrArg Array.toList d1
 subst this
 exact r.inj r'
theorem Inv.tuple_inj(I:Inv X pins σ H s)(h:Ta X.K H a xs)(h':Ta X.K H a ys):xs=ys:=by
 obtain ⟨its,r,⟨o,e,_,n,d⟩,_⟩:=I.tuple h
 obtain ⟨its',r',⟨o',e',_,n',d'⟩,_⟩:=I.tuple h'
 rw[e] at e'; cases e'
 rw[d] at d'
 injection d' with d1 _
 have : its=its':=by simpa using congrArg Array.toList d1
 subst this
 exact r.inj r'
end
abbrev Cx.wish(X:Cx)(E:Value->Ai->Prop):Cx:={ X with xe:=E }
abbrev Cx.nox(X:Cx):Cx:=X.wish λ_ _=>False
theorem Cx.Ok.wish{X:Cx}(ok:X.Ok)(E:Value->Ai->Prop):(X.wish E).Ok :=
 ⟨ok.mod,ok.kind,ok.glob,ok.blt,ok.above,ok.inj,ok.has,ok.cab,ok.hd,ok.frames,ok.stk,ok.exf,ok.bs,ok.bsz,ok.noex,ok.exfs,ok.funs,ok.frf⟩
theorem Cx.Ok.unwish{X:Cx}{E:Value->Ai->Prop}(ok:(X.wish E).Ok):X.Ok :=
 ⟨ok.mod,ok.kind,ok.glob,ok.blt,ok.above,ok.inj,ok.has,ok.cab,ok.hd,ok.frames,ok.stk,ok.exf,ok.bs,ok.bsz,ok.noex,ok.exfs,ok.funs,ok.frf⟩
section
variable{X:Cx}{pins:List (Addr×Obj)}{σ:St}{H:Hp}{s:Ai}{E:Value->Ai->Prop}
theorem Inv.wish(I:Inv X pins σ H s)(E:Value->Ai->Prop):Inv (X.wish E) pins σ H s:=⟨I.ok.wish E,I.os,I.bare,I.base,I.loc,I.cell,I.free,I.freeC,I.pin,I.hok,I.len⟩
theorem Inv.unwish(I:Inv (X.wish E) pins σ H s):Inv X pins σ H s:=⟨I.ok.unwish,I.os,I.bare,I.base,I.loc,I.cell,I.free,I.freeC,I.pin,I.hok,I.len⟩
theorem SP.unwish{D:Ends}{f:Flow}{s':Ai}(h:SP (X.wish E) pins D f s'):SP X pins D f s':=by
 cases f with
 | next=>obtain ⟨σ',H',I,q⟩:=h; exact ⟨σ',H',I.unwish,q⟩
 | brk=>obtain ⟨σ',H',I,q⟩:=h; exact ⟨σ',H',I.unwish,q⟩
 | cont=>obtain ⟨σ',H',I,q⟩:=h; exact ⟨σ',H',I.unwish,q⟩
 | ret u=>obtain ⟨v,σ',H',I,r,q⟩:=h; exact ⟨v,σ',H',I.unwish,r,q⟩
theorem tQ.nox{st:List Stmt}{t:TS}(h:tQ X.nox st t):tQ X st t:=λpins s σ H D I hw =>
 Cq (h pins s σ H D (I.wish _) hw) (λ_ _ q=>q.unwish) λ_ _ z=>Kw z
end
section
variable{X:Cx}{st:Stmt}{Ht:List Stmt}{t u:TS}{e:Expr}{te:TE}{pos:Pos}
def GI:TS:=λD σ H=>D.nx σ H
def HL(t u:TS):TS:=λD σ H=>t { D with nx:=u D } σ H
theorem jY:tQ X [] GI:=λ_ _ σ H _ I h=>wpAny_execs_nil ⟨σ,H,I,h⟩
theorem Mf(h1:PS X st t)(h2:tQ X Ht u):tQ X (st::Ht) (HL t u):=by
 w_pre m7
 refine wpAny_execs_cons (Gb (h1 pins s σ H { D with nx:=u D } I h) λf s1 q=>?_)
 cases f with
 | next =>
  obtain ⟨σ',H',I',q⟩:=q
  exact h2 pins s1 σ' H' D I' q
 | ret v=>exact q
 | brk=>exact q
 | cont=>exact q
theorem Uj(h1:PS X st t):tQ X [st] t:=by
 w_pre m7
 refine wpAny_execs_cons (Gb (h1 pins s σ H D I h) λf s1 q=>?_)
 cases f with
 | next=>exact wpAny_execs_nil q
 | ret v=>exact q
 | brk=>exact q
 | cont=>exact q
theorem Inv.quiet{pins:List (Addr×Obj)}{σ:St}{H:Hp}{s:Ai}(I:Inv X pins σ H s):interactive X.env=false:=by simp [interactive,I.ok.kind]
def EK(te:TE):TS:=λD σ H=>te σ H λ_ H1=>D.nx σ H1
theorem rQ(he:PE X e te)(hs:Nh e none pos.line X.env=pure false:=by rfl):PS X (.Expr e pos) (EK te):=by
 w_pre m7
 exact wpAny_Expr_any (Gb (he pins s σ H _ I h) λv s1 ⟨x,H1,I1,r1,q1⟩=>⟨σ,H1,I1,q1⟩) I.quiet hs
def IP(te:TE):TS:=λD σ H=>te σ H D.rt
theorem Yh(he:PE X e te):PS X (.Return (some e) pos) (IP te):=by
 w_pre m7
 exact wpAny_Return_some (Gb (he pins s σ H _ I h) λv s1 ⟨x,H1,I1,r1,q1⟩=>⟨x,σ,H1,I1,r1,q1⟩)
def II(c:TT)(t u:TS):TS:=λD σ H=>c σ H λb H1=>if b=true then t D σ H1 else u D σ H1
theorem yO{c:Expr}{a b:List Stmt}{tc:TT}(hc:PT X c tc)(ha:tQ X a t)(hb:tQ X b u):PS X (.If c a b pos) (II tc t u):=by
 w_pre m7
 refine wpAny_If (Gb (hc pins s σ H _ I h) λd s1 ⟨H1,I1,q1⟩=>?_)
 cases d with
 | true=>exact ha pins s1 σ H1 D I1 q1
 | false=>exact hb pins s1 σ H1 D I1 q1
end
abbrev TG:=V->St->Hp->(St->Hp->Prop)->Prop
abbrev K1:=List V->St->Hp->(St->Hp->Prop)->Prop
def PG(X:Cx)(target:Expr)(t:TG):Prop :=
 ∀(pins:List (Addr×Obj)) (s:Ai) (σ:St) (H:Hp) (v:V) (u:Value) (Q:St->Hp->Prop),Inv X pins σ H s->RelV v u->t v σ H Q ->
  wpAny (model X.prog X.w) X.A (Oc target X.env u) (λ_ s'=>∃σ' H',Inv X pins σ' H' s'/\Q σ' H') X.xe s
def BD(X:Cx)(ts:List Expr)(t:K1):Prop :=
 ∀(pins:List (Addr×Obj)) (s:Ai) (σ:St) (H:Hp) (vs:List V) (us:List Value) (Q:St->Hp->Prop),Inv X pins σ H s->Gf vs us->t vs σ H Q ->
  wpAny (model X.prog X.w) X.A (assignInOrder ((Km ts X.env).map (·.2)) us) (λ_ s'=>∃σ' H',Inv X pins σ' H' s'/\Q σ' H') X.xe s
abbrev AB:=V->V->V->Hp->(Hp->Prop)->Prop
def DJ(X:Cx)(t:AB):Prop :=
 ∀(pins:List (Addr×Obj)) (s:Ai) (σ:St) (H:Hp) (o i v:V) (ov iv u:Value) (Q:Hp->Prop),Inv X pins σ H s->RelV o ov->RelV i iv->RelV v u->t o i v H Q ->
  wpAny (model X.prog X.w) X.A (setItem ov iv u) (λ_ s'=>∃H',Inv X pins σ H' s'/\Q H') X.xe s
section
variable{X:Cx}{pos:Pos}
def Sr(i:Nat):TG:=λv σ H Q=>Q (σ.set i (some v)) H
theorem Me{i:Nat}{x:Str}(hN:X.N.Nodup)(hi:X.N[i]? = some x)(hx:Loc X.env.scope x)(hf:X.fn x=true\/X.env.scope.names.lookup x=some .local:=by first | exact .inl rfl | exact .inr rfl | assumption):PG X (.Name x pos) (Sr i):=by
 intro pins s σ H v u Q I r h
 exact wpAny_assign_Name (nQ I hN hi hx r (λs' I'=>⟨_,H,I',h⟩) hf)
def M9:K1:=λvs σ H Q=>vs=[]/\Q σ H
def cT(t:TG)(u:K1):K1:=λvs σ H Q=>∃v r,vs=v::r/\t v σ H λσ' H'=>u r σ' H' Q
theorem aH:BD X [] M9:=by
 intro pins s σ H vs us Q I r h
 obtain ⟨e,h⟩:=h
 subst e
 cases r
 exact assignInOrder_nil ⟨σ,H,I,h⟩
theorem Pf{e:Expr}{es:List Expr}{t:TG}{u:K1}(h1:PG X e t)(h2:BD X es u)(hs:(Km (e::es) X.env).map (·.2)=Oc e X.env::(Km es X.env).map (·.2):=by rfl):BD X (e::es) (cT t u):=by
 intro pins s σ H vs us Q I r h
 obtain ⟨v,vr,e1,h⟩:=h
 subst e1
 cases r with
 | cons r rr =>
  rw[hs]
  refine assignInOrder_cons (Gb (h1 pins s σ H _ _ _ I r h) λ_ s1 ⟨σ1,H1,I1,q1⟩=>?_)
  exact h2 pins s1 σ1 H1 _ _ Q I1 rr q1
def N5(K:PySem.W.Frag)(n:Nat)(t:K1):TG:=λv σ H Q=>∃a xs,v=.ref a/\Ta K H a xs/\xs.length=n/\t xs σ H Q
theorem jG{es:List Expr}{k:Nat}{t:K1}{n:Nat}(hc:X.calm=true)(h:BD X es t)(hn:(Km es X.env).length=n:=by rfl)(hst:(Km es X.env).findIdx? (·.1)=none:=by rfl):PG X (.Tuple es k pos) (N5 X.K n t):=by
 intro pins s σ H v u Q I r hw
 obtain ⟨a,xs,e1,hq,hl,hw⟩:=hw
 subst e1
 cases r
 obtain ⟨its,rv,ht,hz⟩:=I.tuple hq
 refine assign_Tuple_tuple (I.ok.hd hc) ht (by simp [hn,<- hl,rv.length]) hst λh' hx=>?_
 have I1:Inv X pins σ H { s with heap:=h' }:=I.kept (t':=s.toks) λb o e=>hx b o (Bu (Au e)) e
 exact h pins _ σ H xs _ Q I1 (by simpa using rv) hw
def IK(to ti:TE)(t:AB):TG:=λv σ H Q=>to σ H λo H1=>ti σ H1 λi H2=>t o i v H2 λH3=>Q σ H3
theorem rA{o i:Expr}{to ti:TE}{t:AB}(ho:PE X o to)(hi:PE X i ti)(hs:DJ X t)
  (ha:∀v,Oc (.Subscript o i pos) X.env v=(do
   let ov <- Ny [v] (eval o X.env)
   let iv <- Ny [v,ov] (eval i X.env)
   Wi pos
   Ny [v,ov,iv] (setItem ov iv v)
   release [v,ov,iv] []):=by intro _; rfl):PG X (.Subscript o i pos) (IK to ti t):=by
 intro pins s σ H v u Q I r h
 rw[ha]
 refine Aa (Ck (Gb (ho pins s σ H _ I h) λov s1 ⟨x,H1,I1,r1,q1⟩=>?_))
 refine Aa (Ck (Gb (hi pins s1 σ H1 _ I1 q1) λiv s2 ⟨y,H2,I2,r2,q2⟩=>?_))
 refine Aa (Ib (Aa (Ck (Gb (hs pins s2 σ H2 x y v ov iv u _ I2 r1 r2 r q2) λ_ s3 ⟨H3,I3,q3⟩=>?_))))
 exact wpAny_release ⟨σ,H3,I3,q3⟩
def R0(te:TE)(g:TG):TS:=λD σ H=>te σ H λx H1=>g x σ H1 D.nx
theorem qE{tg e:Expr}{te:TE}{g:TG}(he:PE X e te)(hg:PG X tg g)(hs:swapsWithSole [tg] e pos.line X.env=pure false:=by rfl)(hw:swappedStores [tg] e X.env=pure none:=by rfl)(h1:(Km [tg] X.env).map (·.2)=[Oc tg X.env]:=by rfl):PS X (.Assign [tg] e pos) (R0 te g):=by
 w_pre m7
 refine wpAny_Assign_stores (Gb (he pins s σ H _ I h) λv s1 ⟨x,H1,I1,r1,q1⟩=>?_) hs hw
 rw[h1]
 exact Gb (hg pins s1 σ H1 x v _ I1 r1 q1) λ_ s2 q=>q
theorem Yd{i:Nat}{x:Str}{e:Expr}{te:TE}{pos':Pos}(hN:X.N.Nodup)(hi:X.N[i]? = some x)(hx:Loc X.env.scope x)(he:PE X e te)(hs:Nh e (some (.Name x pos')) pos.line X.env=pure false:=by rfl)(hf:X.fn x=true\/X.env.scope.names.lookup x=some .local:=by first | exact .inl rfl | exact .inr rfl | assumption):PS X (.Assign [.Name x pos'] e pos) (R0 te (Sr i)):=by
 w_pre m7
 refine wpAny_Assign_Name (Gb (he pins s σ H _ I h) λv s1 ⟨y,H1,I1,r1,q1⟩=>?_) hs
 exact nQ I1 hN hi hx r1 (λs2 I2=>⟨_,H1,I2,q1⟩) hf
end
structure It where
 go:Nat->Hp->Prop
 yld:Nat->Hp->V->Hp->Prop
 stop:Nat->Hp->Prop
def Ml(X:Cx)(pins:List (Addr×Obj))(H:Hp)(b:Addr):Prop :=
 H b=none/\b≠X.env.locals/\b∉X.fs/\(b∈X.ex\/X.s₀.heap.objs.size<=b)/\(∀x c,X.env.cells.lookup x=some c->c≠b)/\∀p∈X.pn++pins,p.1≠b
theorem Inv.fpOk{X:Cx}{pins:List (Addr×Obj)}{σ:St}{H H':Hp}{s:Ai}{b:Addr}(I:Inv X pins σ H s)(hb:s.heap.objs.size<=b)(hn:H' b=none):Ml X pins H' b:=by
 refine ⟨hn,Ql (Cc I.lt hb),I.nofs hb,.inr (Cg I.sz hb),λx c e z=>?_,λp hp z=>?_⟩
 ·obtain ⟨v,q⟩:=I.cell x c e
  exact absurd (Cc q.lt (by rw[z]; exact hb)) (Fo _)
 ·exact absurd (Cc (Au (I.pin p hp).1) (by rw[z]; exact hb)) (Fo _)
structure Turn(P:Bl)(w:World)(K:PySem.W.Frag)(tg:Expr)(J:It)(fp:List Addr)(it:Addr)(tn:Nat->Heap->Prop):Prop where
 mem:it∈fp
 obj:∀i h,tn i h->∀b∈fp,∃o,h.get? b=some o/\∀v,o.data≠.cell v
 keep:∀i h h',tn i h->(∀b∈fp,∀o,h.get? b=some o->h'.get? b=some o)->tn i h'
 item:∀(X:Cx),X.prog=P->X.w=w->X.K=K->X.calm=true->∀(i:Nat) (pins:List (Addr×Obj)) (s:Ai) (σ:St) (H:Hp) (E:Value->Ai->Prop),Inv X pins σ H s->(∀b∈fp,Ml X pins H b)->tn i s.heap->J.go i H ->
  wpAny (model P w) X.A (Hi (.ref it)) (λr s1=>∃u,r=some u /\
   wpAny (model P w) X.A (Ho tg (.ref it) u) (λ_ s2=>∃x H',Inv X pins σ H' s2/\RelV x u/\J.yld i H x H'/\tn (i+1) s2.heap/\∀b∈fp,H' b=none) E s1) E s
 done:∀(X:Cx),X.prog=P->X.w=w->X.K=K->X.calm=true->∀(i:Nat) (pins:List (Addr×Obj)) (s:Ai) (σ:St) (H:Hp) (E:Value->Ai->Prop),Inv X pins σ H s->(∀b∈fp,Ml X pins H b)->tn i s.heap->J.stop i H ->
  wpAny (model P w) X.A (Hi (.ref it)) (λr s1=>r=none/\Inv X pins σ H s1) E s
 self:∀(A:Ce) (i:Nat) (s:Ai) (Q:Value->Ai->Prop) (E:Value->Ai->Prop),tn i s.heap->Q (.ref it) s->wpAny (model P w) A (Zn (.ref it)) Q E s
abbrev TI:=St->Hp->(It->Hp->Prop)->Prop
def IR(X:Cx)(pins:List (Addr×Obj))(σ:St)(tg:Expr)(R:It->Hp->Prop)(itv:Value)(s2:Ai):Prop :=
 ∃(it:Addr) (fp:List Addr) (tn:Nat->Heap->Prop) (J:It) (H':Hp),itv=.ref it/\Inv X pins σ H' s2/\Turn X.prog X.w X.K tg J fp it tn/\tn 0 s2.heap/\(∀b∈fp,Ml X pins H' b)/\R J H'
def PI(X:Cx)(tg iter:Expr)(wi:TI):Prop :=
 ∀(pins:List (Addr×Obj)) (s:Ai) (σ:St) (H:Hp) (R:It->Hp->Prop),Inv X pins σ H s->wi σ H R ->
  wpAny (model X.prog X.w) X.A (eval iter X.env) (λv s1=>wpAny (model X.prog X.w) X.A (Zn v) (IR X pins σ tg R) X.xe s1) X.xe s
theorem xQ{M:Model}{A:Ce}{E:Value->Ai->Prop}{s:Ai}{tg:Expr}{it:Addr}{u:Value}{o:Obj}{n:String}{vs:Array Value}{Q:Unit->Ai->Prop}(ho:s.heap.get? it=some o)(hc:o.cls=.type n)(hd:o.data=.fields vs)(hn:["enumerate", "zip", "dict_itemiterator", "dict_reverseitemiterator", "odict_iterator", "itertools.zip_longest", "itertools.pairwise"].contains n=false)(hQ:Q () s):wpAny M A (Ho tg (.ref it) u) Q E s:=by
  unfold Ho
  cases tg <;> first
    | exact Ac hQ
    | (cases u <;> first
        | exact Ac hQ
        | (refine Aa (Wh ho ?_)
           rw[hc,hd]
           show wpAny M A (if (["enumerate", "zip", "dict_itemiterator", "dict_reverseitemiterator", "odict_iterator", "itertools.zip_longest", "itertools.pairwise"].contains n && vs[0]? == some (Er _))=true then _ else _) Q E s
           rw[if_neg (by intro h; rw[hn,Bool.false_and] at h; cases h)]
           exact Ac hQ))
def IE(K:PySem.W.Frag)(a:Addr):It :=
 ⟨λi H=>∃xs x,Pe K H a xs/\xs[i]? = some x,λi H x H'=>H'=H/\∀xs,Pe K H a xs->xs[i]? = some x,λi H=>∃xs,Pe K H a xs/\xs.length<=i⟩
def ID(K:PySem.W.Frag)(a:Addr):It :=
 ⟨λi H=>∃xs x,Ta K H a xs/\xs[i]? = some x,λi H x H'=>H'=H/\∀xs,Ta K H a xs->xs[i]? = some x,λi H=>∃xs,Ta K H a xs/\xs.length<=i⟩
def ER(lo:Int)(n:Nat):It:=⟨λi _=>i<n,λi H x H'=>H'=H/\x=.int (lo+i),λi _=>n<=i⟩
theorem vV{P:Bl}{w:World}{K:PySem.W.Frag}{tg:Expr}(a it:Addr):Turn P w K tg (IE K a) [it] it (λi h=>h.IsListIter it a i) where
 mem:=by simp
 obj:=λi h st b hb=>by
  w_pre j1
 keep:=λi h h' st k=>st.at λo e=>k it (by simp) o e
 item:=by
  w_pre m0
  w_pre v9
  refine wpAny_pyNext_list_item st p.isList (x:=u) (by simpa using hu) λh' st' sb=>?_
  w_pre o4
  exact ⟨u,rfl,xQ (s:={ s with heap:=h' }) e c d (by decide) ⟨x,H,I1,ru,⟨rfl,λys hy=>by rw[I.list_inj hy hq]; exact hx⟩,st',λb hb=>(hf b hb).1⟩⟩
 done:=by
  w_pre e1
  w_pre v5
  exact wpAny_pyNext_list_end (I.ok.hd hc) st p.isList (by simp; omega) λh' eb=>⟨rfl,I.turned (t':=s.toks) (λb o hb e=>eb b o hb e) f0 f1 f3 f4 f5⟩
 self:=λ_ _ _ _ _ st h=>wpAny_pyIter_listiter st h
theorem pF{P:Bl}{w:World}{K:PySem.W.Frag}{tg:Expr}(a it:Addr):Turn P w K tg (ID K a) [it] it (λi h=>h.IsTupleIter it a i) where
 mem:=by simp
 obj:=λi h st b hb=>by
  w_pre j1
 keep:=λi h h' st k=>st.at λo e=>k it (by simp) o e
 item:=by
  w_pre k4
  obtain ⟨xs,x,hq,hx⟩:=hg
  obtain ⟨its,rv,p,hz⟩:=I.tuple hq
  obtain ⟨u,hu,ru⟩:=rv.get hx
  w_pre v9
  refine C5 st (show s.heap.IsTuple a its.toArray from p) (x:=u) (by simpa using hu) λh' st' sb=>?_
  w_pre o4
  exact ⟨u,rfl,xQ (s:={ s with heap:=h' }) e c d (by decide) ⟨x,H,I1,ru,⟨rfl,λys hy=>by rw[I.tuple_inj hy hq]; exact hx⟩,st',λb hb=>(hf b hb).1⟩⟩
 done:=by
  w_pre k4
  obtain ⟨xs,hq,hx⟩:=hg
  obtain ⟨its,rv,p,hz⟩:=I.tuple hq
  w_pre v5
  exact C9 (I.ok.hd hc) st (show s.heap.IsTuple a its.toArray from p) (by simp; omega) λh' eb=>⟨rfl,I.turned (t':=s.toks) (λb o hb e=>eb b o hb e) f0 f1 f3 f4 f5⟩
 self:=λ_ _ _ _ _ st h=>wpAny_pyIter_tupleiter st h
theorem qZ{P:Bl}{w:World}{K:PySem.W.Frag}{tg:Expr}(it:Addr)(lo:Int)(n:Nat):Turn P w K tg (ER lo n) [it] it (λi h=>IsRangeIter h it (lo+(i:Nat) * 1) ((n:Int) - (i:Nat)) 1) where
 mem:=by simp
 obj:=λi h st b hb=>by
  have e:b=it:=by simpa using hb
  subst e
  exact ⟨_,st,λv z=>by
   have z':Data.fields _=Data.cell v:=z
   cases z'⟩
 keep:=λi h h' st k=>k it (by simp) _ st
 item:=by
  w_pre p2
  have W:=Walks.range (prog:=X.prog) (w:=X.w) (I.ok.hd hc) it lo 1 n
  refine W.item i s _ _ hg st λv h' tk hv st' kk=>?_
  obtain ⟨t,rfl⟩:=hv
  have I1:Inv X pins σ H { s with heap:=h',toks:=tk }:=I.turned (λb o hb e=>kk b o (by simpa using hb) e) f0 f1 f3 f4 f5
  refine ⟨_,rfl,xQ (s:={ s with heap:=h',toks:=tk }) (n := "range_iterator") st' rfl rfl (by decide) ⟨.int (lo+i),H,I1,⟨t,?_⟩,⟨rfl,rfl⟩,st',λb hb=>(hf b hb).1⟩⟩
  rw[Int.mul_one]
 done:=by
  w_pre p2
  exact wpAny_pyNext_range_end (I.ok.hd hc) st (by have : n<=i:=hg; omega) λh' eb=>⟨rfl,I.turned (t':=s.toks) (λb o hb e=>eb b o hb e) f0 f1 f3 f4 f5⟩
 self:=λ_ _ _ _ _ st h=>wpAny_pyIter_rangeiter st h
section
variable{X:Cx}{tg:Expr}
def FH(K:PySem.W.Frag)(tl:TE):TI:=λσ H R=>tl σ H λx H1=>∃a,x=.ref a/\(∃xs,Pe K H1 a xs)/\R (IE K a) H1
def IL(K:PySem.W.Frag)(tl:TE):TI:=λσ H R=>tl σ H λx H1=>∃a,x=.ref a/\(∃xs,Ta K H1 a xs)/\R (ID K a) H1
theorem Q5{l:Expr}{tl:TE}(hl:PE X l tl):PI X tg l (FH X.K tl):=by
 w_pre q0
 obtain ⟨its,rv,p,hz⟩:=I1.list hq
 refine wpAny_pyIter_list p.isList ?_
 refine ⟨s1.heap.objs.size,[s1.heap.objs.size],_,_,H1,rfl,I1.kept (t':=s1.toks) λb o e=>Ah _ e,vV a _,⟨_,Ap _ rfl,rfl,rfl⟩,λb hb=>?_,q⟩
 w_pre u2
theorem BC{l:Expr}{tl:TE}(hl:PE X l tl):PI X tg l (IL X.K tl):=by
 w_pre q0
 obtain ⟨its,rv,p,hz⟩:=I1.tuple hq
 refine wpAny_pyIter_tuple (show s1.heap.IsTuple a its.toArray from p) ?_
 refine ⟨s1.heap.objs.size,[s1.heap.objs.size],_,_,H1,rfl,I1.kept (t':=s1.toks) λb o e=>Ah _ e,pF a _,⟨_,Ap _ rfl,rfl,rfl⟩,λb hb=>?_,q⟩
 w_pre u2
theorem i4{pins:List (Addr×Obj)}{σ:St}{H:Hp}{s:Ai}{R:It->Hp->Prop}{E:Value->Ai->Prop}{lo hi:Int}{t u v:Tok}{tk:Nat}(I:Inv X pins σ H s)(h1:-(2 ^ 62)<=lo)(h2:lo<2 ^ 62)(h3:-(2 ^ 62)<=hi)(h4:hi<2 ^ 62)(q:R (ER lo (hi - lo).toNat) H):wpAny (model X.prog X.w) X.A (Zn (.ref s.heap.objs.size)) (IR X pins σ tg R) E { s with heap:=s.heap.push { cls:=.type "range",data:=.fields #[.int lo t,.int hi u,.int 1 v] },toks:=tk }:=by
 refine wpAny_pyIter_range (IsRange.new ..) (small_one h1 h2 h3 h4) ?_
 have I1:Inv X pins σ H { s with heap:=s.heap.push { cls:=.type "range",data:=.fields #[.int lo t,.int hi u,.int 1 v] },toks:=tk }:=I.kept λb o e=>Ah _ e
 refine ⟨(s.heap.push { cls:=.type "range",data:=.fields #[.int lo t,.int hi u,.int 1 v] }).objs.size,[(s.heap.push { cls:=.type "range",data:=.fields #[.int lo t,.int hi u,.int 1 v] }).objs.size],_,_,H,rfl,
  I1.kept (t':=tk) λb o e=>Ah _ e,qZ _ lo (hi - lo).toNat,?_,λb hb=>?_,q⟩
 ·have e1:lo+((0:Nat):Int) * 1=lo:=by simp
  have e2:(((hi - lo).toNat:Nat):Int) - ((0:Nat):Int)=Kz lo hi 1:=by rw[rangeSize_one]; split <;> omega
  show IsRangeIter _ _ (lo+((0:Nat):Int) * 1) ((((hi - lo).toNat:Nat):Int) - ((0:Nat):Int)) 1
  rw[e1,e2]
  exact Ap _ rfl
 ·have e:b=(s.heap.push { cls:=.type "range",data:=.fields #[.int lo t,.int hi u,.int 1 v] }).objs.size:=by simpa using hb
  subst e
  exact I1.fpOk (Aj _) (I1.hok.fresh (Aj _))
def EH(ta:TA):TI:=λσ H R=>ta σ H λvs H1=>∃j:Int,vs=[.int j] /\ -(2 ^ 62)<=j/\j<2 ^ 62/\R (ER 0 j.toNat) H1
theorem vD{a:Expr}{ta:TA}{p pos:Pos}(hg:Gl X "range")(hm:X.mg "range" = none)(ha:PA X [a] ta)(hs:Bn [a] X.env=[(false,eval a X.env)]:=by rfl):PI X tg (.Call (.Name "range" p) [a] [] pos) (EH ta):=by
 w_pre q8
 refine Call_ (Si I hg hm boot_range (Fi (Gb (ha pos pins s σ H _ I h) λus s1 ⟨vs,H1,I1,r1,q1⟩=>?_) hs rfl))
 obtain ⟨j,e,q1,q2,q⟩:=q1
 subst e
 cases r1 with
 | cons r rr =>
  cases rr
  obtain ⟨t,rfl⟩:=r
  exact call_range_1 (i4 I1 (by omega) (by omega) q1 q2 (by simpa using q))
def HE(wi:TI)(g:TG)(tb:TS):TS:=λD σ H=>wi σ H λJ H1=>∃W:Nat->Nat->St->Hp->Prop,(∃m,W 0 m σ H1)/\∀i m σ H,W i m σ H ->
 (J.stop i H/\D.nx σ H)\/(J.go i H/\∃N:St->Hp->Prop,(∀σ' H',N σ' H'->∃m',m'<m/\W (i+1) m' σ' H')/\∀x H',J.yld i H x H'->g x σ H' λσ2 H2=>tb { D with nx:=N,ct:=N,bk:=D.nx } σ2 H2)
def Pb(fp:List Addr)(h:Heap):List (Addr×Obj):=fp.filterMap λb=>(h.get? b).map λo=>(b,o)
theorem Ga{fp:List Addr}{h:Heap}{b:Addr}{o:Obj}(hb:b∈fp)(e:h.get? b=some o):(b,o)∈Pb fp h:=List.mem_filterMap.mpr ⟨b,hb,by rw[e]; rfl⟩
theorem wX{fp:List Addr}{h:Heap}{p:Addr×Obj}(hp:p∈Pb fp h):p.1∈fp/\h.get? p.1=some p.2:=by
 obtain ⟨b,hb,e⟩:=Za.mp hp
 cases q:h.get? b with
 | none=>rw[q] at e; cases e
 | some o =>
  rw[q] at e
  have e':(b,o)=p:=Bv e
  subst e'
  exact ⟨hb,q⟩
theorem Inv.pinned{pins:List (Addr×Obj)}{σ:St}{H:Hp}{s:Ai}{fp:List Addr}(I:Inv X pins σ H s)(hf:∀b∈fp,Ml X pins H b)(ho:∀b∈fp,∃o,s.heap.get? b=some o/\∀v,o.data≠.cell v):Inv X (pins++Pb fp s.heap) σ H s :=
 I.pins_of λp hp=>(Aw.mp hp).elim (λz=>I.pin p (Ag _ z)) λz=>by
  obtain ⟨hb,e⟩:=wX z
  obtain ⟨f0,f1,f2,_⟩:=hf p.1 hb
  obtain ⟨o,e',d⟩:=ho p.1 hb
  rw[e] at e'; cases e'
  exact ⟨e,f0,f1,f2,d⟩
theorem Inv.unpinned{pins pl:List (Addr×Obj)}{σ:St}{H:Hp}{s:Ai}(I:Inv X (pins++pl) σ H s):Inv X pins σ H s:=I.pins_of λp hp=>I.pin p (Ag _ (Ak _ hp))
theorem AF{iter:Expr}{body:List Stmt}{wi:TI}{g:TG}{tb:TS}{pos:Pos}(hp:PassesOwn (model X.prog X.w) X.A X.env X.xe)(hc:X.calm=true)(hi:PI X tg iter wi)(hg:PG X tg g)(hb:tQ X body tb)(hs:∀x,Cz iter X.env x=pure x:=by intro _; rfl):PS X (.For tg iter body [] pos) (HE wi g tb):=by
 w_pre m7
 refine wpAny_For (Gb (hi pins s σ H _ I h) λv s1 h1=>Gb h1 λitv s2 h2=>?_) hs
 obtain ⟨it,fp,tn,J,H2,e,I2,T,st2,f2,W,⟨m0,w0⟩,turn⟩:=h2
 subst e
 -- what stays true of the iterator's objects through the loop
 have stat:∀{H':Hp},(∀b∈fp,H' b=none)->∀b∈fp,Ml X pins H' b:=λhn b hb=>⟨hn b hb,(f2 b hb).2⟩
 refine codeAny_forLoop_any (λn s'=>∃i σ' H',Inv X pins σ' H' s'/\tn i s'.heap/\(∀b∈fp,H' b=none)/\W i n σ' H') ?_ m0 ⟨0,σ,H2,I2,st2,λb hb=>(f2 b hb).1,w0⟩
 rintro n s3 ⟨i,σ3,H3,I3,st3,fr3,w3⟩
 rcases turn i n σ3 H3 w3 with ⟨stop,qn⟩ | ⟨go,N,hN,step⟩
 ·refine Qu hp (Gb (T.done X rfl rfl rfl hc i pins s3 σ3 H3 X.xe I3 (stat fr3) st3 stop) λr s4 ⟨hr,I4⟩=>?_)
  subst hr
  exact wpAny_execs_nil ⟨σ3,H3,I4,qn⟩
 ·refine Qu hp (Gb (T.item X rfl rfl rfl hc i pins s3 σ3 H3 X.xe I3 (stat fr3) st3 go) λr s4 ⟨u,hr,h4⟩=>?_)
  subst hr
  refine Qu hp (Gb h4 λ_ s5 ⟨x,H5,I5,r5,y5,st5,fr5⟩=>?_)
  have I5':=I5.pinned (stat fr5) (T.obj _ _ st5)
  refine Qu hp (Gb (hg _ s5 σ3 H5 x u _ I5' r5 (step x H5 y5)) λ_ s6 ⟨σ6,H6,I6,q6⟩=>?_)
  refine Qu hp (Gb (hb _ s6 σ6 H6 _ I6 q6) λf s7 q7=>?_)
  have again:∀{σ7:St} {H7:Hp},Inv X (pins++Pb fp s5.heap) σ7 H7 s7->N σ7 H7->∃m,m<n/\∃i σ' H',Inv X pins σ' H' s7/\tn i s7.heap/\(∀b∈fp,H' b=none)/\W i m σ' H':=λ{σ7 H7} I7 n7=>by
   obtain ⟨m',hm,w7⟩:=hN σ7 H7 n7
   refine ⟨m',hm,i+1,σ7,H7,I7.unpinned,T.keep _ _ _ st5 λb hb o e=>(I7.pin (b,o) (Ag _ (Ag _ (Ga hb e)))).1,λb hb=>?_,w7⟩
   obtain ⟨o,e,d⟩:=T.obj _ _ st5 b hb
   exact (I7.pin (b,o) (Ag _ (Ag _ (Ga hb e)))).2.1
  cases f with
  | next=>obtain ⟨σ7,H7,I7,n7⟩:=q7; exact again I7 n7
  | cont=>obtain ⟨σ7,H7,I7,n7⟩:=q7; exact again I7 n7
  | brk=>obtain ⟨σ7,H7,I7,q7⟩:=q7; exact ⟨σ7,H7,I7.unpinned,q7⟩
  | ret v=>obtain ⟨x7,σ7,H7,I7,r7,q7⟩:=q7; exact ⟨x7,σ7,H7,I7.unpinned,r7,q7⟩
end
abbrev R2:=V->V->Hp->VK->Prop
def Xe(X:Cx)(f:Value->Value->Sem Value)(r:R2):Prop :=
 ∀(pins:List (Addr×Obj)) (s:Ai) (σ:St) (H:Hp) (x y:V) (v u:Value) (Q:VK),Inv X pins σ H s->RelV x v->RelV y u->r x y H Q ->
  wpAny (model X.prog X.w) X.A (f v u) (EP X pins σ Q) X.xe s
def IH(X:Cx)(f:Value->Sem Value)(r:V->Hp->VK->Prop):Prop :=
 ∀(pins:List (Addr×Obj)) (s:Ai) (σ:St) (H:Hp) (x:V) (v:Value) (Q:VK),Inv X pins σ H s->RelV x v->r x H Q ->
  wpAny (model X.prog X.w) X.A (f v) (EP X pins σ Q) X.xe s
def Mc(X:Cx)(f:Value)(r:List V->Hp->VK->Prop):Prop :=
 ∀(pins:List (Addr×Obj)) (s:Ai) (σ:St) (H:Hp) (xs:List V) (us:List Value) (Q:VK),Inv X pins σ H s->Gf xs us->r xs H Q ->
  wpAny (model X.prog X.w) X.A (call f us) (EP X pins σ Q) X.xe s
def IQ(X:Cx)(r:V->Hp->(Bool->Hp->Prop)->Prop):Prop :=
 ∀(pins:List (Addr×Obj)) (s:Ai) (σ:St) (H:Hp) (x:V) (v:Value) (Q:Bool->Hp->Prop),Inv X pins σ H s->RelV x v->r x H Q ->
  wpAny (model X.prog X.w) X.A (truthy v) (TP X pins σ Q) X.xe s
def FI(r:R2)(ta tb:TE):TE:=λσ H Q=>ta σ H λx H1=>tb σ H1 λy H2=>r x y H2 Q
def JW(r:V->Hp->VK->Prop)(ta:TE):TE:=λσ H Q=>ta σ H λx H1=>r x H1 Q
def rI(C:Int->Int->Prop)(g:Int->Int->V):R2:=λx y H Q=>∃i j,x=.int i/\y=.int j/\C i j/\Q (g i j) H
def K4(g:Int->Int->V):R2:=λx y H Q=>∃i j,x=.int i/\y=.int j/\Q (g i j) H
def rU(g:Int->V):V->Hp->VK->Prop:=λx H Q=>∃i,x=.int i/\Q (g i) H
section
variable{X:Cx}{a b c:Expr}{ta tb tc:TE}{pos:Pos}
theorem Y3(ha:PE X a ta)(hb:PE X b tb){pins:List (Addr×Obj)}{s:Ai}{σ:St}{H:Hp}{R:V->V->Hp->Prop}(I:Inv X pins σ H s)(h:ta σ H λx H1=>tb σ H1 λy H2=>R x y H2){Q:Value->Ai->Prop}{f:Value->Value->Sem Value}(hf:∀v u s2 x y H2,Inv X pins σ H2 s2->RelV x v->RelV y u->R x y H2->wpAny (model X.prog X.w) X.A (f v u) Q X.xe s2):wpAny (model X.prog X.w) X.A (eval a X.env) (λv s₁=>wpAny (model X.prog X.w) X.A (eval b X.env) (λu s₂=>wpAny (model X.prog X.w) X.A (f v u) Q X.xe s₂) X.xe s₁) X.xe s:=by
 w_pre g2
theorem Jv{op:Operator}{r:R2}(ho:Xe X (Jc op) r)(ha:PE X a ta)(hb:PE X b tb):PE X (.BinOp a op b pos) (FI r ta tb):=by
 w_pre w6
 exact wpAny_BinOp (Y3 ha hb I h λv u s2 x y H2 I2 rx ry q=>ho pins s2 σ H2 x y v u Q I2 rx ry q)
theorem DP{op:UnaryOp}{r:V->Hp->VK->Prop}(ho:IH X (unaryOp op) r)(ha:PE X a ta):PE X (.UnaryOp op a pos) (JW r ta):=by
 w_pre w6
 exact UnaryOp_ (Gb (ha pins s σ H _ I h) λv s1 ⟨x,H1,I1,r1,q1⟩=>ho pins s1 σ H1 x v Q I1 r1 q1)
theorem EW{f:Value->Value->Sem Value}{C:Int->Int->Prop}{g:Int->Int->Int}(rule:∀(i j:Int) (t u:Tok) (s:Ai) (Q:Value->Ai->Prop) (E:Value->Ai->Prop),C i j->Q (.int (g i j) s.toks) { s with toks:=s.toks+1 }->wpAny (model X.prog X.w) X.A (f (.int i t) (.int j u)) Q E s):Xe X f (rI C λi j=>.int (g i j)):=by
 w_pre k7
 obtain ⟨i,j,rfl,rfl,hc,q⟩:=h
 w_pre v7
 obtain ⟨t',rfl⟩:=ry
 exact rule i j t t' s _ _ hc ⟨.int (g i j),H,I.tok _,⟨_,rfl⟩,q⟩
theorem EZ{f:Value->Value->Sem Value}{g:Int->Int->Int}(rule:∀(i j:Int) (t u:Tok) (s:Ai) (Q:Value->Ai->Prop) (E:Value->Ai->Prop),Q (.int (g i j) s.toks) { s with toks:=s.toks+1 }->wpAny (model X.prog X.w) X.A (f (.int i t) (.int j u)) Q E s):Xe X f (K4 λi j=>.int (g i j)):=by
 w_pre i1
 exact rule i j t t' s _ _ ⟨.int (g i j),H,I.tok _,⟨_,rfl⟩,q⟩
theorem Q6{f:Value->Value->Sem Value}{g:Int->Int->Bool}(rule:∀(i j:Int) (t u:Tok) (s:Ai) (Q:Value->Ai->Prop) (E:Value->Ai->Prop),Q (.bool (g i j)) s->wpAny (model X.prog X.w) X.A (f (.int i t) (.int j u)) Q E s):Xe X f (K4 λi j=>.bl (g i j)):=by
 w_pre i1
 exact rule i j t t' s _ _ ⟨.bl (g i j),H,I,rfl,q⟩
def X9(i j:Int):Prop:=0<j/\j<1073741824
def HM(i j:Int):Prop:=0<=j/\j<=1000000/\i.natAbs<2 ^ 64
def B3(i j:Int):Prop:=(-(2 ^ 64)<i/\i<2 ^ 64)\/(-(2 ^ 64)<j/\j<2 ^ 64)
theorem B3.ok{i j:Int}(h:B3 i j):IntMulOk i j:=by
 rcases h with ⟨h1,h2⟩ | ⟨h1,h2⟩
 ·exact .of_left (intBits_le_64 h1 h2)
 ·exact .of_right (intBits_le_64 h1 h2)
theorem bP:Xe X (Jc .Add) (K4 λi j=>.int (i+j)):=EZ λ_ _ _ _ _ _ _ q=>add_int q
theorem AD:Xe X (Jc .Sub) (K4 λi j=>.int (i - j)):=EZ λ_ _ _ _ _ _ _ q=>sub_int q
theorem Yf:Xe X (Jc .Mult) (rI B3 λi j=>.int (i * j)):=EW λ_ _ _ _ _ _ _ hc q=>mul_int q hc.ok
theorem jN:Xe X (Jc .FloorDiv) (rI X9 λi j=>.int (i / j)):=EW λi j _ _ _ _ _ hc q=>by
 have h1:(0:Int)<j:=hc.1
 have h2:j<1073741824:=hc.2
 exact floordiv_int (by omega) (by rw[Int.fdiv_eq_ediv_of_nonneg i (by omega)]; exact q) (.inl (PyProof.noPylong_small (by omega)))
theorem Vq:Xe X (Jc .Mod) (rI (λ_ j=>0<j) λi j=>.int (i % j)):=EW λi j _ _ _ _ _ hc q=>by
 have h1:(0:Int)<j:=hc
 exact mod_int' (by omega) (by rw[Int.fmod_eq_emod_of_nonneg i (by omega)]; exact q)
theorem gS:Xe X (Jc .Pow) (rI HM λi j=>.int (i ^ j.toNat)):=EW λ_ _ _ _ _ _ _ hc q=>pow_int_small hc.1 hc.2.1 hc.2.2 q
theorem JT{f:Value->Sem Value}{g:Int->Int}(rule:∀(i:Int) (t:Tok) (s:Ai) (Q:Value->Ai->Prop) (E:Value->Ai->Prop),Q (.int (g i) s.toks) { s with toks:=s.toks+1 }->wpAny (model X.prog X.w) X.A (f (.int i t)) Q E s):IH X f (rU λi=>.int (g i)):=by
 intro pins s σ H x v Q I rx h
 obtain ⟨i,rfl,q⟩:=h
 w_pre v7
 exact rule i t s _ _ ⟨.int (g i),H,I.tok _,⟨_,rfl⟩,q⟩
theorem Z2:IH X (unaryOp .USub) (rU λi=>.int (-i)):=JT λ_ _ _ _ _ q=>neg_int q
end
section
variable{X:Cx}{a b c:Expr}{ta tb tc:TE}{pos:Pos}
theorem U1:Xe X (Ie .Lt) (K4 λi j=>.bl (decide (i<j))):=Q6 λ_ _ _ _ _ _ _ q=>lt_int q
theorem fB:Xe X (Ie .LtE) (K4 λi j=>.bl (decide (i<=j))):=Q6 λ_ _ _ _ _ _ _ q=>le_int q
theorem FN:Xe X (Ie .Gt) (K4 λi j=>.bl (decide (j<i))):=Q6 λ_ _ _ _ _ _ _ q=>gt_int q
theorem ET:Xe X (Ie .GtE) (K4 λi j=>.bl (decide (j<=i))):=Q6 λ_ _ _ _ _ _ _ q=>ge_int q
theorem Vx(b:Expr){op:CmpOp}(h:op≠.In:=by decide)(h2:op≠.NotIn:=by decide):Hd op b=false:=by
 w_pre c2
theorem J1{op:CmpOp}{r:R2}(ho:Xe X (Ie op) r)(ha:PE X a ta)(hb:PE X b tb)(hm:Hd op b=false):PE X (.Compare a [op] [b] pos) (FI r ta tb):=by
 w_pre w6
 exact wpAny_Compare1 (Y3 ha hb I h λv u s2 x y H2 I2 rx ry q=>ho pins s2 σ H2 x y v u Q I2 rx ry q) hm
def EX(t:TE):TT:=λσ H Q=>t σ H λx H'=>∃k,x=.bl k/\Q k H'
theorem sI{op:CmpOp}{r:R2}(ho:Xe X (Ie op) r)(ha:PE X a ta)(hb:PE X b tb)(hm:Hd op b=false):PT X (.Compare a [op] [b] pos) (EX (FI r ta tb)):=by
 w_pre w6
 refine wpAny_isTrue_Compare1 (Gb (ha pins s σ H _ I h) λv s1 ⟨x,H1,I1,r1,q1⟩=>Gb (hb pins s1 σ H1 _ I1 q1) λu s2 ⟨y,H2,I2,r2,q2⟩ =>
  Gb (ho pins s2 σ H2 x y v u _ I2 r1 r2 q2) λc s3 ⟨z,H3,I3,r3,k,e,q3⟩=>?_) hm
 subst e
 cases r3
 exact Le ⟨H3,I3,q3⟩
def HV(K:PySem.W.Frag)(x:V)(H:Hp)(k:Bool):Prop :=
 match x with
 | .non=>k=false
 | .bl b=>k=b
 | .int i=>k=(i != 0)
 | .str y=>y.length<=Aq/\k=((y.length:Int) != 0)
 | .byt y=>y.size<=Aq/\k=((y.size:Int) != 0)
 | .ref p=>(∃xs,Pe K H p xs/\k = !xs.isEmpty)\/(∃xs,Ta K H p xs/\k = !xs.isEmpty)\/∃kvs,H p=some (.dK kvs)/\k = !kvs.isEmpty
 | _=>False
theorem pI{κ:Type}{kvs:List (κ×V)}{vs:List (κ×Value)}(r:KV kvs vs):(!vs.isEmpty) = !kvs.isEmpty:=by
 cases r <;> rfl
theorem bG{xs:List V}{its:List Value}(r:Gf xs its):(!its.toArray.isEmpty) = !xs.isEmpty:=by
 cases r <;> simp
theorem Yk:(Aq:Nat)<2 ^ 63:=by rw[Hh]; decide
theorem IB:IQ X (λx H Q=>∃k,HV X.K x H k/\Q k H):=by
 intro pins s σ H x v Q I rx h
 obtain ⟨k,e,q⟩:=h
 have hl:=Yk
 have hs:Aq=16777216:=Hh
 cases x with
 | non =>
  cases rx
  have e':k=false:=e
  subst e'
  exact truthy_none ⟨H,I,q⟩
 | bl b =>
  cases rx
  have e':k=b:=e
  subst e'
  exact Le ⟨H,I,q⟩
 | int i =>
  w_pre v7
  have e':k=(i != 0):=e
  subst e'
  exact PySem.P.truthy_int ⟨H,I,q⟩
 | str y =>
  w_pre v7
  obtain ⟨hy,e'⟩ : y.length<=Aq/\k=((y.length:Int) != 0):=e
  subst e'
  exact PySem.P.truthy_str (by omega) ⟨H,I.tok _,q⟩
 | byt y =>
  w_pre v7
  obtain ⟨hy,e'⟩ : y.size<=Aq/\k=((y.size:Int) != 0):=e
  subst e'
  exact PySem.W.truthy_bytes (by omega) ⟨H,I.tok _,q⟩
 | ref p =>
  cases rx
  have e':(∃xs,Pe X.K H p xs/\k = !xs.isEmpty)\/(∃xs,Ta X.K H p xs/\k = !xs.isEmpty)\/∃kvs,H p=some (.dK kvs)/\k = !kvs.isEmpty:=e
  rcases e' with ⟨xs,hx,e'⟩ | ⟨xs,hx,e'⟩ | ⟨kvs,hx,e'⟩
  ·subst e'
   obtain ⟨its,r,pl,hz⟩:=I.list hx
   have hlen:=r.length
   exact wpAny_truthy_list pl.isList (by simp only[Ar]; omega) ⟨H,I.tok _,by rw[bG r]; exact q⟩
  ·subst e'
   obtain ⟨its,r,pl,hz⟩:=I.tuple hx
   have hlen:=r.length
   exact truthy_tuple pl (by simp only[Ar]; omega) ⟨H,I.tok _,by rw[bG r]; exact q⟩
  ·subst e'
   obtain ⟨hz,hS,vs,r,m⟩ : kvs.length<=Aq/\(p == Gm)=false/\∃vs,KV kvs vs/\s.heap.DictOf (Hn X.prog X.w) p vs:=I.hok p _ hx
   have hlen:kvs.length=vs.length:=Paired.length r
   exact wpAny_truthy_dict hS m (by omega) ⟨H,I.tok _,by rw[pI r]; exact q⟩
 | _=>exact (show False from e).elim
theorem vals1{x:V}{us:List Value}(r:Gf [x] us):∃u,us=[u]/\RelV x u:=by
 cases r with
 | cons r1 r2=>cases r2; exact ⟨_,rfl,r1⟩
theorem vals2{x y:V}{us:List Value}(r:Gf [x,y] us):∃u w',us=[u,w']/\RelV x u/\RelV y w':=by
 cases r with
 | cons r1 r2 =>
  cases r2 with
  | cons r3 r4=>cases r4; exact ⟨_,_,rfl,r1,r3⟩
theorem vR(hc:X.calm=true):Mc X (.builtin "max") (λxs H Q=>∃i j,xs=[.int i,.int j]/\Q (.int (if j > i then j else i)) H):=by
 w_pre x6
 obtain ⟨i,j,rfl,q⟩:=h
 obtain ⟨u,w',rfl,⟨t,rfl⟩,⟨t',rfl⟩⟩:=vals2 r
 refine max_two_ints (I.ok.hd hc) λh' tk k=>⟨_,H,I.kept k,?_,q⟩
 by_cases hj:j > i
 ·rw[if_pos hj,if_pos hj]; exact ⟨_,rfl⟩
 ·rw[if_neg hj,if_neg hj]; exact ⟨_,rfl⟩
theorem eV:Mc X (.type "int") (λxs H Q=>(∃i,xs=[.int i]/\Q (.int i) H)\/∃k,xs=[.bl k]/\Q (.int (if k then 1 else 0)) H):=by
 w_pre x6
 rcases h with ⟨i,rfl,q⟩ | ⟨k,rfl,q⟩
 ·obtain ⟨u,rfl,t,rfl⟩:=vals1 r
  exact call_int_int ⟨.int i,H,I,⟨_,rfl⟩,q⟩
 ·obtain ⟨u,rfl,r1⟩:=vals1 r
  cases r1
  exact call_int_bool ⟨.int (if k then 1 else 0),H,I.tok _,⟨_,rfl⟩,q⟩
def FX(K:PySem.W.Frag)(x:V)(H:Hp)(n:Nat):Prop :=
 match x with
 | .str y=>y.length<=Aq/\n=y.length
 | .byt y=>y.size<=Aq/\n=y.size
 | .ref p=>(∃xs,Pe K H p xs/\n=xs.length)\/∃xs,Ta K H p xs/\n=xs.length
 | _=>False
theorem Tv:Mc X (.builtin "len") (λxs H Q=>∃x n,xs=[x]/\FX X.K x H n/\Q (.int n) H):=by
 w_pre x6
 obtain ⟨x,n,rfl,e,q⟩:=h
 w_pre f9
 have hl:=Yk
 have hs:Aq=16777216:=Hh
 cases x with
 | str y =>
  w_pre v7
  obtain ⟨hy,e'⟩ : y.length<=Aq/\n=y.length:=e
  subst e'
  exact len_str (by omega) ⟨.int _,H,I.tok _,⟨_,rfl⟩,q⟩
 | byt y =>
  w_pre v7
  obtain ⟨hy,e'⟩ : y.size<=Aq/\n=y.size:=e
  subst e'
  exact PySem.W.len_bytes (by omega) ⟨.int _,H,I.tok _,⟨_,rfl⟩,q⟩
 | ref p =>
  cases rx
  have e':(∃xs,Pe X.K H p xs/\n=xs.length)\/∃xs,Ta X.K H p xs/\n=xs.length:=e
  rcases e' with ⟨xs,hx,e'⟩ | ⟨xs,hx,e'⟩
  ·subst e'
   obtain ⟨its,r',pl,hz⟩:=I.list hx
   have hlen:=r'.length
   exact Calls.call_len_list pl.isList (by simp only[Ar]; omega) ⟨.int xs.length,H,I.tok _,⟨_,by simp only[Ar]; rw[hlen]⟩,q⟩
  ·subst e'
   obtain ⟨its,r',pl,hz⟩:=I.tuple hx
   have hlen:=r'.length
   exact len_tuple pl (by simp only[Ar]; omega) ⟨.int xs.length,H,I.tok _,⟨_,by simp only[Ar]; rw[hlen]⟩,q⟩
 | _=>exact (show False from e).elim
end
structure ObjM(h:Heap)(x dx C:Addr)(mA:Str->Option Value):Prop where
 obj:h.get? x=some (PySem.W.instObj C dx)
 ns:h.Ns1 dx mA
 ne:dx≠x
theorem uS{h:Heap}{dx:Addr}{mA:Str->Option Value}(n:h.Ns1 dx mA):∃od,h.get? dx=some od/\∀name,PySem.W.lookIn name od=some (mA name):=by
 obtain ⟨o,es,ep,ho,hd,hk,_,hm⟩:=n
 refine ⟨o,ho,λname=>?_⟩
 have e:=hm name
 unfold nsFind findBy at e
 rw[<- Array.find?_toList] at e
 unfold PySem.W.lookIn
 rw[hd]
 dsimp only
 split
 ·rename_i y q
  rw[q] at e
  exact congrArg some e
 ·rename_i q
  rw[q] at e
  have a:es.toList.any (·.refKey)=false:=by
   rw[List.any_eq_false]
   intro y hy
   obtain ⟨z,t,hkey⟩:=hk y (Array.mem_toList_iff.mp hy)
   simp [DictEntry.refKey,hkey]
  have a':¬ es.toList.any (·.refKey)=true:=by rw[a]; exact Bp
  rw[if_neg a']
  exact congrArg some e
theorem ObjM.look{h:Heap}{x dx C:Addr}{mA:Str->Option Value}(I:ObjM h x dx C mA):∃od,PySem.W.InstAt h x (PySem.W.instObj C dx) C (some od)/\∀name,PySem.W.lookIn name od=some (mA name) :=
 let ⟨od,ho,hl⟩:=uS I.ns
 ⟨od,⟨I.obj,rfl,rfl,ho⟩,hl⟩
theorem mY.some_of{v:V}{o:Option Value}(r:mY (some v) o):∃u,o=some u/\RelV v u:=by
 cases o with
 | none=>exact (show False from r).elim
 | some u=>exact ⟨u,rfl,r⟩
section
variable{P:Bl}{w:World}{H H':Hp}{h h':Heap}{a C dx:Addr}{fs fs':List (Str×V)}
theorem J5(hok:Vf P w H h)(e:H a=some (.ins C dx fs)):∃mA,ObjM h a dx C mA/\(∀f,mY (fs.lookup f) (mA f))/\PySem.Within mA (fs.map (·.1))/\fs.length<=1000/\H dx=some (.own a):=by
 obtain ⟨d,z,ne,ob,mA,n,r,q⟩:=(show Hl P w H h a (.ins C dx fs) from hok a _ e)
 exact ⟨mA,⟨ob,n,ne⟩,r,q,z,d⟩
end
structure Cls(K:PySem.W.Frag)(C:Addr):Prop where
 pg:PySem.W.plainGet K C Str.empty=true
 hd:PySem.W.hasDictIn K C=true
 po:PySem.W.plainOver K C=true
 sa:PySem.W.findIn K (.ref C) "__setattr__" = some (some (.builtin "object.__setattr__"))
theorem Cls.get{K:PySem.W.Frag}{C:Addr}(c:Cls K C)(f:Str):PySem.W.plainGet K C f=true:=c.pg
section
variable{X:Cx}{pins:List (Addr×Obj)}{σ:St}{H:Hp}{s:Ai}{A:Ce}{E:Value->Ai->Prop}{Q:Value->Ai->Prop}{c:Value}{b:Bool}
inductive TyOf (K:PySem.W.Frag) (H:Hp):V->Value->Prop where
 | non:TyOf K H .non (.type "NoneType")
 | bl (x:Bool):TyOf K H (.bl x) (.type "bool")
 | int (i:Int):TyOf K H (.int i) (.type "int")
 | str (x:Str):TyOf K H (.str x) (.type "str")
 | flt (x:UInt64):TyOf K H (.flt x) (.type "float")
 | lst {a:Addr} {xs:List V} (e:H a=some (.lst xs)):TyOf K H (.ref a) (.type "list")
 | frz {a:Addr} {o:Obj} {xs:List V} (e:H a=some (.frz o (.lst xs))):TyOf K H (.ref a) (.type "list")
 | tup {a:Addr} {xs:List V} (e:H a=some (.tup xs)):TyOf K H (.ref a) (.type "tuple")
 | dK {a:Addr} {kvs:List (Jp×V)} (e:H a=some (.dK kvs)):TyOf K H (.ref a) (.type "dict")
 | dT {a:Addr} {kvs:List (List Jp×V)} (e:H a=some (.dT kvs)):TyOf K H (.ref a) (.type "dict")
 | ins {a C dx:Addr} {fs:List (Str×V)} (e:H a=some (.ins C dx fs)) (cl:Cls K C) (ha:PySem.W.findIn K (.ref C) "__class__" = some (some (.builtin "object.__class__")))
   (hn:PySem.W.specialIn K (.builtin "object.__class__") "__get__" = some (some (.builtin "getset_descriptor.__get__"))) (htk:PySem.W.takesIn K (.builtin "object.__class__")=some true)
   (hm:PySem.W.mroIn K C (.type "object")=some true):TyOf K H (.ref a) (.ref C)
theorem vG{x:V}{u t:Value}(I:Inv X pins σ H s)(rx:RelV x u)(ty:TyOf X.K H x t)(e:PySem.W.kitOne X.K t c=some b)(h:∀tk,Q (.bool b) { s with toks:=tk }):wpAny (model X.prog X.w) A (call (.builtin "isinstance") [u,c]) Q E s:=by
 cases ty with
 | non=>cases (show u=Fp from rx); exact PySem.W.kia_one PySem.W.kitx_none I.kIn Jr e (λz=>nomatch z) h
 | bl y=>cases (show u=Value.bool y from rx); exact PySem.W.kia_one PySem.W.kitx_bool I.kIn Jr e (λz=>nomatch z) h
 | int i=>obtain ⟨t,q⟩:=(show ∃t,u=Lb i t from rx); cases q; exact PySem.W.kia_one PySem.W.kitx_int I.kIn Jr e (λz=>nomatch z) h
 | str y=>obtain ⟨t,q⟩:=(show ∃t,u=Value.str y t from rx); cases q; exact PySem.W.kia_one PySem.W.kitx_str I.kIn Jr e (λz=>nomatch z) h
 | flt y=>obtain ⟨t,q⟩:=(show ∃t,u=Value.float y t from rx); cases q; exact PySem.W.kia_one PySem.W.kitx_float I.kIn Jr e (λz=>nomatch z) h
 | @lst a xs ea =>
  w_pre r7
  obtain ⟨_,_,n,_,h1⟩:=(show Hl X.prog X.w H s.heap a (.lst xs) from I.hok a _ ea)
  w_pre j8
 | @frz a ob xs ea =>
  w_pre r7
  obtain ⟨_,_,_,n,_,h1⟩:=(show Hl X.prog X.w H s.heap a (.frz ob (.lst xs)) from I.hok a _ ea)
  w_pre j8
 | @tup a xs ea =>
  w_pre r7
  obtain ⟨_,_,_,p⟩:=(show Hl X.prog X.w H s.heap a (.tup xs) from I.hok a _ ea)
  obtain ⟨o,h1,h2,_⟩:=p
  exact PySem.W.kia_one PySem.W.kitx_tuple I.kIn ⟨o,h1,h2⟩ e (λz=>nomatch z) h
 | @dK a kvs ea =>
  w_pre r7
  obtain ⟨_,_,vs,_,p⟩:=(show Hl X.prog X.w H s.heap a (.dK kvs) from I.hok a _ ea)
  obtain ⟨o,es,ep,h1,h2,_⟩:=p
  w_pre i8
 | @dT a kvs ea =>
  w_pre r7
  obtain ⟨_,_,xs,_,o,es,ep,h1,h2,_⟩:=(show Hl X.prog X.w H s.heap a (.dT kvs) from I.hok a _ ea)
  w_pre i8
 | @ins a C dx fs ea cl ha hn htk hm =>
  w_pre r7
  obtain ⟨mA,O,_⟩:=J5 I.hok ea
  obtain ⟨od,J,_⟩:=O.look
  exact PySem.W.kia_one (PySem.W.kitx_own (cl.get _) cl.hd ha hn htk hm) I.kIn J e (λz=>nomatch z) h
end
structure Room(k:Nat)(A:Ce):Prop where
 hd:A.handled=none
 dp:A.depth+3 * k+5<recursionLimit
 un:A.units+16 * k+200<cLine
 gd:A.guards=some []
theorem Room.mono{j k:Nat}{A:Ce}(r:Room k A)(h:j<=k):Room j A:=⟨r.hd,by have:=r.dp; omega,by have:=r.un; omega,r.gd⟩
theorem Room.deeper{k:Nat}{A:Ce}(r:Room (k+1) A)(env:Env):Room k (A.deeper env) :=
 ⟨r.hd,by have:=r.dp; show A.depth+1+3 * k+5<_; omega,by have:=r.un; show A.units+3+16 * k+200<_; omega,r.gd⟩
theorem Room.depth{k:Nat}{A:Ce}(r:Room k A):A.depth<recursionLimit:=by have:=r.dp; omega
theorem Room.units{k:Nat}{A:Ce}(r:Room k A):A.units+64<cLine:=by have:=r.un; omega
def GK:TA:=λ_ H Q=>Q [] H
def CU(ta:TE)(tr:TA):TA:=λσ H Q=>ta σ H λx H1=>tr σ H1 λxs H2=>Q (x::xs) H2
section
variable{X:Cx}{e:Expr}{es:List Expr}{te:TE}{t:TA}{pos:Pos}
theorem Np:PA X [] GK:=λ_ _ _ _ H Q I h=>Rn ⟨[],H,I,.nil,h⟩
theorem Ia(ha:PE X e te)(hr:PA X es t)(hs:Bn (e::es) X.env=(false,eval e X.env)::Bn es X.env:=by rfl):PA X (e::es) (CU te t):=by
 intro pos pins s σ H Q I h
 rw[hs]
 show wpAny _ _ (spliced ((false,eval e X.env)::Hj pos (Bn es X.env))) _ _ s
 refine Lz (Gb (ha pins s σ H _ I h) λu s1 ⟨x,H1,I1,r1,q1⟩=>?_)
 exact Gb (hr pos pins s1 σ H1 _ I1 q1) λus s2 ⟨xs,H2,I2,r2,q2⟩=>⟨x::xs,H2,I2,.cons r1 r2,q2⟩
def HF(t:TA):TE:=λσ H Q=>t σ H λxs H1=>xs.length<=Aq/\∀p,H1 p=none->Q (.ref p) (upd H1 p (.tup xs))
def IG(t:TA):TE:=λσ H Q=>t σ H λxs H1=>xs.length<=Aq/\∀p,H1 p=none->Q (.ref p) (upd H1 p (.lst xs))
theorem AZ{x1}(h:PA X es t):PE X (.Tuple es x1 pos) (HF t):=by
 intro pins s σ H Q I hq
 refine wpAny_Tuple_spliced (Gb (h pos pins s σ H _ I hq) λus s1 ⟨xs,H1,I1,r,z,q⟩=>⟨by rw[<- r.length]; exact z,?_⟩)
 have hf:H1 s1.heap.objs.size=none:=I1.hok.fresh (Aj _)
 refine ⟨.ref s1.heap.objs.size,upd H1 s1.heap.objs.size (.tup xs),I1.laid (t':=s1.toks) (λb u e=>Ah _ e) (Aj _) ?_,rfl,q _ hf⟩
 exact ⟨z,us,r,⟨_,Ap _ rfl,rfl,_,rfl⟩⟩
theorem pL(h:PA X es t):PE X (.List es pos) (IG t):=by
 intro pins s σ H Q I hq
 refine wpAny_List_spliced (Gb (h pos pins s σ H _ I hq) λus s1 ⟨xs,H1,I1,r,z,q⟩=>⟨by rw[<- r.length]; exact z,?_⟩)
 have hf:H1 s1.heap.objs.size=none:=I1.hok.fresh (Aj _)
 refine ⟨.ref s1.heap.objs.size,upd H1 s1.heap.objs.size (.lst xs),I1.laid (t':=s1.toks) (λb u e=>Ah _ e) (Aj _) ?_,rfl,q _ hf⟩
 exact ⟨z,us,0,r,Ap _ rfl⟩
end
abbrev Sp:=List V->Hp->VK->XK->Prop
abbrev wA:=List Env->Hp->Ai->XK->Value->Ai->Prop
structure Env0(P:Bl)(w:World)(K:PySem.W.Frag)(mg:Str->Option Value)(base:Heap)(A:Ce)(outer:List Env)(s:Ai)(H:Hp):Prop where
 frames:A.frames=some outer
 mod:Mod K mg base
 bs:∀b o,base.get? b=some o->s.heap.get? b=some o/\H b=none
 bsz:base.objs.size<=s.heap.objs.size
 funs:s.heap.FunFrames base outer
 frf:∀b∈gC outer,H b=none
 hok:Vf P w H s.heap
 bare:Wm s.gens
def CE(outer:List Env)(P:Bl)(w:World)(H:Hp)(s:Ai)(Q:VK)(u:Value)(s':Ai):Prop :=
 ∃v H',s'.os=s.os/\Wm s'.gens/\Un (gC outer) [] H H' s.heap s'.heap/\Vf P w H' s'.heap/\RelV v u/\Q v H'
def CR(CX:wA)(outer:List Env)(P:Bl)(w:World)(H:Hp)(s:Ai)(Q:VK)(E:XK)(r:Result)(s':Ai):Prop :=
 match r with
 | .ok (.ret u)=>CE outer P w H s Q u s'
 | .ok _=>False
 | .error e=>CX outer H s E e s'
structure FnOk(P:Bl)(w:World)(K:PySem.W.Frag)(mg:Str->Option Value)(base:Heap)(CX:wA)(k:Nat)(f:Addr)(fd:Dc)(ps:List Str)(sp:Sp):Prop where
 len:∀vs H Q E,sp vs H Q E->vs.length=ps.length
 run:∀(A:Ce) (outer:List Env) (s:Ai) (H:Hp) (args:Args) (us:List Value) (vs:List V) (Q:VK) (E:XK),Room k A->Env0 P w K mg base A outer s H->BindsTo s fd args (ps.zip us)->Gf vs us->sp vs H Q E ->
  Hb (model P w) A (.call (.ref f) args) (CR CX outer P w H s Q E) s
theorem FnOk.imp{P:Bl}{w:World}{K:PySem.W.Frag}{mg:Str->Option Value}{base:Heap}{CX:wA}{k:Nat}{f:Addr}{fd:Dc}{ps:List Str}{sp sp':Sp}(F:FnOk P w K mg base CX k f fd ps sp)(h:∀vs H Q E,sp' vs H Q E->sp vs H Q E):FnOk P w K mg base CX k f fd ps sp' :=
 ⟨λvs H Q E q=>F.len vs H Q E (h _ _ _ _ q),λA outer s H args us vs Q E hr he hb hv hs=>F.run A outer s H args us vs Q E hr he hb hv (h _ _ _ _ hs)⟩
section
variable{X:Cx}{pins:List (Addr×Obj)}{σ:St}{H:Hp}{s s':Ai}
theorem Inv.env0(I:Inv X pins σ H s):Env0 X.prog X.w X.K X.mg X.base X.A X.stack s H :=
 ⟨I.ok.frames,I.ok.mod,I.bs,Cg I.ok.bsz I.sz,I.stack,I.stkFree,I.hok,I.bare⟩
theorem Inv.after{Q:VK}{u:Value}(I:Inv X pins σ H s)(h:CE X.stack X.prog X.w H s Q u s'):EP X pins σ Q u s':=by
 obtain ⟨v,H',os,bare,un,hok,r,q⟩:=h
 obtain ⟨hh,g,d,t,os'⟩:=s'
 obtain rfl:os'=s.os:=os
 exact ⟨v,H',I.call (h':=hh) (g':=g) (d':=d) (t':=t) (ch:=[]) un hok bare (λb z=>absurd z (by simp)),r,q⟩
end
def T7(sp:Sp)(dvs:List V)(E:XK)(t:TA):TE:=λσ H Q=>t σ H λvs H1=>sp (vs++dvs) H1 Q E
def Binds(K:PySem.W.Frag)(fd:Dc)(ps:List Str)(ds:List Value):Prop :=
 ∀(s:Ai) (us:List Value),K.In s.heap->(us++ds).length=ps.length->BindsTo s fd ⟨us,[]⟩ (ps.zip (us++ds))
theorem Binds.all{K:PySem.W.Frag}{fd:Dc}{ps:List Str}(h:∀us:List Value,us.length=ps.length->bindArgs fd ⟨us,[]⟩=pure (ps.zip us)):Binds K fd ps []:=λs us _ hl=>by
 rw[Ec] at hl ⊢
 exact .of_eq (h us hl)
def Rr(CX:wA)(X:Cx)(E:XK):Prop:=∀(pins:List (Addr×Obj)) (σ:St) (H:Hp) (s:Ai) (e:Value) (s':Ai),Inv X pins σ H s->CX X.stack H s E e s'->X.xe e s'
section
variable{X:Cx}{CX:wA}{k:Nat}{f C:Addr}{fd:Dc}{ps:List Str}{sp:Sp}{dvs:List V}{ds:List Value}{E:XK}{x m:Str}{p pos apos:Pos}{e o:Expr}{es:List Expr}{ta:TE}{t:TA}
theorem zT{pins:List (Addr×Obj)}{σ:St}{H:Hp}{s:Ai}{Q:VK}{us:List Value}{vs:List V}(F:FnOk X.prog X.w X.K X.mg X.base CX k f fd ps sp)(hr:Room k X.A)(hb:Binds X.K fd ps ds)(hd:Gf dvs ds)(hx:Rr CX X E)(I:Inv X pins σ H s)(r:Gf vs us)(h:sp (vs++dvs) H Q E):wpAny (model X.prog X.w) X.A (call (.ref f) us) (EP X pins σ Q) X.xe s:=by
 have r2:Gf (vs++dvs) (us++ds):=r.append hd
 have hl:(us++ds).length=ps.length:=by rw[<- r2.length]; exact F.len _ _ _ _ h
 refine wpAny_call (Nz (F.run X.A X.stack s H ⟨us,[]⟩ (us++ds) (vs++dvs) Q E hr I.env0 (hb s us I.kIn hl) r2 h) λr s' hq=>?_)
 cases r with
 | error e=>exact hx pins σ H s e s' I hq
 | ok fl =>
  cases fl with
  | ret u=>exact I.after hq
  | next=>exact Kw hq
  | brk=>exact Kw hq
  | cont=>exact Kw hq
theorem aM(F:FnOk X.prog X.w X.K X.mg X.base CX k f fd ps sp)(hr:Room k X.A)(hg:Gl X x)(hm:X.mg x=some (.ref f))(hk:PySem.W.keepIn X.K (.ref f)=true)(hb:Binds X.K fd ps ds)(hd:Gf dvs ds)(hx:Rr CX X E)(ha:PA X (e::es) t)(hdb:(x == ("__debug__" : Str))=false:=by decide)(he:Bn (e::es) X.env=(false,eval e X.env)::Bn es X.env:=by rfl)(hpl:(Hj pos (Bn es X.env)).any (·.1)=false:=by rfl):PE X (.Call (.Name x p) (e::es) [] pos) (T7 sp dvs E t):=by
 w_pre o6
 refine PySem.W.callWith_K (h₀:=X.base) I.ok.mod.kin hk (Gb (ha pos pins s σ H _ I h) λus s1 ⟨vs,H1,I1,r,q⟩=>⟨I1.kIn,?_⟩) he hpl
 exact zT F hr hb hd hx I1 r q
theorem u3(F:FnOk X.prog X.w X.K X.mg X.base CX k f fd ps sp)(hr:Room k X.A)(hg:Gl X x)(hm:X.mg x=some (.ref f))(hk:PySem.W.keepIn X.K (.ref f)=true)(hb:Binds X.K fd ps ds)(hd:Gf dvs ds)(hx:Rr CX X E)(hdb:(x == ("__debug__" : Str))=false:=by decide):PE X (.Call (.Name x p) [] [] pos) (T7 sp dvs E GK):=by
 w_pre o6
 exact PySem.W.callWith_K0 I.kIn hk (zT (us:=[]) F hr hb hd hx I .nil h)
end
structure FnScope(N P:List Str)(sc:Scope):Prop where
 kind:sc.kind=.function
 co:sc.isCoroutine=false
 gen:sc.isGenerator=false
 nd:N.Nodup
 pre:N.take P.length=P
 par:∀x∈P,sc.names.lookup x=some .local\/sc.names.lookup x=some .cell
 nofree:∀y∈sc.names,y.2≠.free
theorem fI{kindOf:Str->Option Qm}{x:Str}:∀{binds:List (Str×Value)} {m:Str->Option Value},(∀v,(x,v)∉binds)->bindL kindOf binds m x=m x
 | [],_,_=>rfl
 | (n,v)::r,m,h=>by
  unfold bindL
  rw[fI λw hw=>h w (Ad _ hw)]
  split
  w_pre m6
  ·rfl
theorem gB{kindOf:Str->Option Qm}{x:Str}:∀{binds:List (Str×Value)} {m:Str->Option Value},(∀v,(x,v)∉binds)->bindC kindOf binds m x=m x
 | [],_,_=>rfl
 | (n,v)::r,m,h=>by
  unfold bindC
  rw[gB λw hw=>h w (Ad _ hw)]
  split
  ·rfl
  w_pre m6
theorem fY{kindOf:Str->Option Qm}{x:Str}{v:Value}:∀{P:List Str} {vs:List Value} {i:Nat} {m:Str->Option Value},P.Nodup->P[i]? = some x->vs[i]? = some v->kindOf x=some .local->bindL kindOf (P.zip vs) m x=some v
 | [],_,_,_,_,h,_,_=>by simp at h
 | _::_,[],_,_,_,_,h,_=>by simp at h
 | p::P,w::vs,0,m,nd,h1,h2,hk=>by
  simp at h1 h2; subst h1; subst h2
  show bindL kindOf ((p,w)::P.zip vs) m p=_
  unfold bindL
  rw[fI λv hv=>(Co.mp nd).1 (List.of_mem_zip hv).1,if_pos hk]
  simp
 | p::P,w::vs,i+1,m,nd,h1,h2,hk=>by
  show bindL kindOf ((p,w)::P.zip vs) m x=_
  unfold bindL
  exact fY (i:=i) (Co.mp nd).2 (by simpa using h1) (by simpa using h2) hk
theorem fK{kindOf:Str->Option Qm}{x:Str}{v:Value}:∀{P:List Str} {vs:List Value} {i:Nat} {m:Str->Option Value},P.Nodup->P[i]? = some x->vs[i]? = some v->kindOf x≠some .local->bindC kindOf (P.zip vs) m x=some v
 | [],_,_,_,_,h,_,_=>by simp at h
 | _::_,[],_,_,_,_,h,_=>by simp at h
 | p::P,w::vs,0,m,nd,h1,h2,hk=>by
  simp at h1 h2; subst h1; subst h2
  show bindC kindOf ((p,w)::P.zip vs) m p=_
  unfold bindC
  rw[gB λv hv=>(Co.mp nd).1 (List.of_mem_zip hv).1,if_neg hk]
  simp
 | p::P,w::vs,i+1,m,nd,h1,h2,hk=>by
  show bindC kindOf ((p,w)::P.zip vs) m x=_
  unfold bindC
  exact fK (i:=i) (Co.mp nd).2 (by simpa using h1) (by simpa using h2) hk
def start(N:List Str)(vs:List V):St:=vs.map some++Bz (N.length - vs.length) none
def Qo(CX:wA)(P:Bl)(w:World)(K:PySem.W.Frag)(mg:Str->Option Value)(base:Heap)(N:List Str)(qual:Str)(scope:Scope)(f:Addr)(cd:Value)(A:Ce)(outer:List Env)(s:Ai)(H:Hp)(E:XK):Cx where
 prog:=P
 w:=w
 K:=K
 mg:=mg
 base:=base
 A:=A.deeper (Sv qual scope s.heap.objs.size f cd)
 N:=N
 s₀:=s
 H₀:=H
 env:=Sv qual scope s.heap.objs.size f cd
 outer:=outer
 stack:=Sv qual scope s.heap.objs.size f cd::outer
 ex:=[]
 calm:=true
 fn:=λ_=>true
 pn:=[]
 xe:=λe s'=>wpAny (model P w) (A.deeper (Sv qual scope s.heap.objs.size f cd)) (leaving (Sv qual scope s.heap.objs.size f cd) e) (λ_ s''=>CX outer H s E e s'') (λe' s''=>CX outer H s E e' s'') s'
theorem lH{sc:Scope}{n:Nat}{x:Str}(h:sc.names.lookup x=some .cell):∃c,(Ek n sc.names []).lookup x=some c:=by
 have q:=PySem.W.cellsFrom_some sc.names n [] (.inl h)
 exact Rl.mp q
theorem uK{CX:wA}{P:Bl}{w:World}{K:PySem.W.Frag}{mg:Str->Option Value}{base:Heap}{N ps:List Str}{qual:Str}{scope:Scope}{f:Addr}{cd:Value}{A:Ce}{outer:List Env}{s s1:Ai}{H:Hp}{E:XK}{us:List Value}{vs:List V}(S:FnScope N ps scope)(hd:A.handled=none)(e0:Env0 P w K mg base A outer s H)(hl:vs.length=ps.length)(r:Gf vs us)(x:InCallC s s.heap.objs.size (bindL (Sv qual scope s.heap.objs.size f cd).kindOf (ps.zip us) λ_=>none) (Ek (s.heap.objs.size+1) scope.names []) (bindC (Sv qual scope s.heap.objs.size f cd).kindOf (ps.zip us) λ_=>none) s1):Inv (Qo CX P w K mg base N qual scope f cd A outer s H E) [] (start N vs) H s1:=by
 have hpl:ps.length<=N.length:=by have:=congrArg Ft S.pre; rw[Du] at this; omega
 obtain ⟨h1,tk,rfl,hk⟩:=x.done
 have noA:∀b:Addr,b∉(Qo CX P w K mg base N qual scope f cd A outer s H E).ex:=λb z=>absurd (show b∈([]:List Addr) from z) (by simp)
 refine ⟨⟨e0.mod,S.kind,rfl,rfl,Aj _,λy z c h1 h2=>?_,λy hy=>?_,λy c _ h=>?_,λ_=>hd,Around.frames_deeper e0.frames,.inr ⟨rfl,rfl⟩,λb z=>absurd z (noA b),e0.bs,e0.bsz,λb _ _=>noA b,λb z=>absurd z (noA b),e0.funs,e0.frf⟩,
  rfl,e0.bare,Un.kept hk,⟨_,x.toInCall.ns,λi y v h1 h2 h3=>?_⟩,λy c h=>⟨_,x.cell y c h⟩,e0.hok.fresh (Aj _),λy c h=>?_,λp hp=>absurd (show p∈([]:List (Addr×Obj)) from hp) (by simp),e0.hok.kept hk,?_⟩
 ·exact name_of_addr x.apart (PySem.mem_of_lookup h1) (PySem.mem_of_lookup h2)
 ·have hy:scope.names.lookup y=some .cell\/scope.names.lookup y=some .free:=hy
  rcases hy with hy | hy
  ·exact lH hy
  ·exact absurd rfl (S.nofree _ (PySem.mem_of_lookup hy))
 ·exact Iw (x.above y c (PySem.mem_of_lookup h))
 ·have hi:i<vs.length:=by
   unfold start at h2
   by_cases hi:i<vs.length
   ·exact hi
   ·rw[Gh (by simpa using hi)] at h2
    rw[List.getElem?_replicate] at h2
    split at h2 <;> cases h2
  have ha:vs[i]? = some v:=by
   unfold start at h2
   rw[Li (by simpa using hi),Bj] at h2
   cases e:vs[i]? with
   | none=>rw[e] at h2; cases h2
   | some a=>rw[e] at h2; cases h2; rfl
  obtain ⟨u,hu,rv⟩:=r.get ha
  have hp:ps[i]? = some y:=by
   rw[<- S.pre,Ja (by omega)]; exact h1
  have ndP:ps.Nodup:=by rw[<- S.pre]; exact S.nd.sublist (Ip _ _)
  refine ⟨u,rv,?_⟩
  rcases S.par y (Be hp) with k | k
  ·exact .inl ⟨k,fY ndP hp hu k⟩
  ·obtain ⟨c,e⟩:=lH (n:=s.heap.objs.size+1) k
   refine .inr ⟨.inl k,c,e,?_⟩
   have q:=x.cell y c e
   rw[fK ndP hp hu (by show scope.names.lookup y≠_; rw[k]; decide)] at q
   exact q
 ·exact e0.hok.fresh (Iw (x.above y c (PySem.mem_of_lookup h)))
 ·unfold start
  show _=N.length
  rw[Bf,Af,Hx]
  omega
theorem EF{CX:wA}{P:Bl}{w:World}{K:PySem.W.Frag}{mg:Str->Option Value}{base:Heap}{k:Nat}{f:Addr}{name qual:Str}{params:Arguments}{body:List Stmt}{scope:Scope}{dV kV doc pm cdv ct oc:Value}{an od:Option Addr}{osl:Array (Option Value)}{N ps:List Str}{sp:Sp}(lk:K.lookup f=some ⟨oc,od,.func (PySem.W.fnOf name qual params body scope dV kV doc pm an cdv ct),osl⟩)(hcd:PySem.W.codeIn K cdv qual=true)(S:FnScope N ps scope)(len:∀vs H Q E,sp vs H Q E->vs.length=ps.length)(hbody:∀(A:Ce) (outer:List Env) (s:Ai) (H:Hp) (vs:List V) (Q:VK) (E:XK),Room k (A.deeper (Sv qual scope s.heap.objs.size f cdv))->sp vs H Q E->∃t,tQ (Qo CX P w K mg base N qual scope f cdv A outer s H E) body t/\t { nx:=λ_ H'=>Q .non H',rt:=Q } (start N vs) H):FnOk P w K mg base CX (k+1) f (PySem.W.fnOf name qual params body scope dV kV doc pm an cdv ct) ps sp:=by
 refine ⟨len,λA outer s H args us vs Q E hr e0 hb r hsp=>?_⟩
 have hl:=len _ _ _ _ hsp
 have KX:K.In s.heap:=e0.mod.kin.keeps λb o e=>(e0.bs b o e).1
 have lim:s.heap.NoLimit:=e0.mod.nolimit.keeps λb o e=>(e0.bs b o e).1
 have hkind:∀y∈ps.zip us,scope.names.lookup y.1=some .local\/(scope.names.lookup y.1=some .cell/\((Ek (s.heap.objs.size+1) scope.names []).lookup y.1).isSome=true):=λ⟨n,v⟩ hy=>by
  rcases S.par n (List.of_mem_zip hy).1 with q | q
  ·exact .inl q
  ·exact .inr ⟨q,PySem.W.cellsFrom_some _ _ _ (.inl q)⟩
 refine codeAny_call_function hr.depth (KX _ _ lk) rfl S.co S.gen rfl (PySem.W.codeRec_of KX hcd) (hb _ _ _ _ ?_)
 refine wpAny_newFunctionEnv_cells S.kind hkind λenv he s1 x=>?_
 subst he
 refine ⟨lim.keeps x.toInCall.keep,codeAny_func ?_⟩
 obtain ⟨t,ht,hq⟩:=hbody A outer s H vs Q E (hr.deeper _) hsp
 have I:Inv (Qo CX P w K mg base N qual scope f cdv A outer s H E) [] (start N vs) H s1:=uK S hr.hd e0 hl r x
 refine Cq (ht [] s1 (start N vs) H _ I hq) (λfl s' hs=>?_) λe s' hs=>hs
 have fin:∀{σ':St} {H':Hp} {v:V} {u:Value},Inv (Qo CX P w K mg base N qual scope f cdv A outer s H E) [] σ' H' s'->RelV v u->Q v H'->CE outer P w H s Q u s' :=
  λ{σ' H' v u} J rv q=>⟨v,H',J.os,J.bare,J.base,J.hok,rv,q⟩
 cases fl with
 | ret u =>
  obtain ⟨v,σ',H',J,rv,q⟩:=hs
  exact fin J rv q
 | next =>
  obtain ⟨σ',H',J,q⟩:=hs
  exact fin (v:=V.non) (u:=Fp) J rfl q
 | brk =>
  obtain ⟨_,_,_,q⟩:=hs
  exact Kw q
 | cont =>
  obtain ⟨_,_,_,q⟩:=hs
  exact Kw q
section
variable{X:Cx}{x:Str}{p pos:Pos}{e:Expr}{es:List Expr}{t:TA}{id T:String}{r:List V->Hp->VK->Prop}
def HP(r:List V->Hp->VK->Prop)(t:TA):TE:=λσ H Q=>t σ H λvs H1=>r vs H1 Q
theorem cA(hc:Mc X (.builtin id) r)(hg:Gl X x)(hm:X.mg x=none)(hv:Kl x=some (.builtin id))(ha:PA X (e::es) t)(hn:x ≠ "__name__" := by decide)(hdb:(x == ("__debug__" : Str))=false:=by decide)(he:Bn (e::es) X.env=(false,eval e X.env)::Bn es X.env:=by rfl)(hpl:(Hj pos (Bn es X.env)).any (·.1)=false:=by rfl):PE X (.Call (.Name x p) (e::es) [] pos) (HP r t):=by
 w_pre b6
 exact PyProof.Rows.callWith_builtin1 (Gb (ha pos pins s σ H _ I h) λus s1 ⟨vs,H1,I1,r1,q1⟩=>hc pins s1 σ H1 vs us Q I1 r1 q1) he hpl
theorem Mv(hc:Mc X (.type T) r)(hg:Gl X x)(hm:X.mg x=none)(hv:Kl x=some (.type T))(ha:PA X (e::es) t)(hn:x ≠ "__name__" := by decide)(hdb:(x == ("__debug__" : Str))=false:=by decide)(he:Bn (e::es) X.env=(false,eval e X.env)::Bn es X.env:=by rfl)(hpl:(Hj pos (Bn es X.env)).any (·.1)=false:=by rfl):PE X (.Call (.Name x p) (e::es) [] pos) (HP r t):=by
 w_pre b6
 exact Fi (Gb (ha pos pins s σ H _ I h) λus s1 ⟨vs,H1,I1,r1,q1⟩=>hc pins s1 σ H1 vs us Q I1 r1 q1) he hpl
end
end L2
namespace HT
open PySem PyProof.Rows
def lexLt:List Int->List Int->Bool
 | [],[]=>false
 | [],_::_=>true
 | _::_,[]=>false
 | x::xs,y::ys=>if x=y then lexLt xs ys else decide (x<y)
theorem lexLt_cons(x y:Int)(xs ys:List Int):lexLt (x::xs) (y::ys)=if x=y then lexLt xs ys else decide (x<y):=rfl
theorem lexLt_nil_nil:lexLt [] []=false:=rfl
theorem lexLt_nil_cons(y:Int)(ys:List Int):lexLt [] (y::ys)=true:=rfl
theorem lexLt_cons_nil(x:Int)(xs:List Int):lexLt (x::xs) []=false:=rfl
theorem j3(A:Ce)(s:Ai)(a:Int)(t:Tok)(c:Int)(u:Tok):∃e,Nj A s (.int a t) (.int c u) e/\(e=true↔a=c) :=
 ⟨(a == c),SeqAt.EqAt.int_int a t c u,by simp⟩
theorem yD(A:Ce)(s:Ai)(a:Int)(t:Tok)(c:Int)(u:Tok)(prog:Bl)(w:World)(E:Value->Ai->Prop)(Q:Value->Ai->Prop)(h:Q (.bool (decide (a<c))) s):wpAny (model prog w) A (richCompare .Lt (.int a t) (.int c u)) Q E s :=
 (PyProof.Rows.lt_int h:wpAny (model prog w) A (Ie .Lt (.int a t) (.int c u)) Q E s)
section
open PySem.SeqAt
open PySem.AutoSeq1 (wpAny_loadPart')
open PySem.MeetsSeq PySem.MeetsSeq2 PySem.MeetsSeq3
theorem tuple_lt_ints(l b:Addr)(items items2:Array Value)(n n2:Nat)(dd dd2:Option Addr)(sl sl2:Array (Option Value))(ns ms:List Int)(hi:Ez items.toList ns)(hj:Ez items2.toList ms):Meets (Builtin.«tuple.__lt__» ⟨[.ref l,.ref b],[]⟩) (λ_ R s=>s.heap.get? l=some { cls:=.type "tuple",dict:=dd,data:=.seq items n,slots:=sl }/\s.heap.get? b=some { cls:=.type "tuple",dict:=dd2,data:=.seq items2 n2,slots:=sl2 }/\R (.ok (.ret (.bool (lexLt ns ms)))) s) :=
 .of_wp λprog w A R s h=>by
  obtain ⟨hp,g,d,tk,os⟩:=s; obtain ⟨hl,hb,h⟩:=h
  have f2:=AutoSeq1.sub_tuple_tuple
  have z1:items.size=ns.length:=by rw[<- hi.length]; simp
  have z2:items2.size=ms.length:=by rw[<- hj.length]; simp
  wp_walk using Xp hl,Xp hb,wpAny_forIn_list _ (λHt b s'=>b.1=none/\s'=⟨hp,g,d,tk,os⟩/\∃(vs ws:List Value) (ns' ms':List Int),Ht=vs.zip ws /\
   Ez vs ns'/\Ez ws ms'/\ns'.length+items2.size=ms'.length+items.size/\R (.ok (.ret (.bool (lexLt ns' ms')))) ⟨hp,g,d,tk,os⟩) _
  case turn =>
   rintro ⟨y,x⟩ Ht b s' ⟨hb',rfl,vs,ws,ns',ms',hz,hvi,hwi,hlen,hR⟩
   cases hvi with
   | nil=>rw[List.zip_nil_left] at hz; cases hz
   | cons a t hvi' =>
    cases hwi with
    | nil=>rw[List.zip_nil_right] at hz; cases hz
    | cons c u hwi' =>
     rw[Mh] at hz
     injection hz with hyx hrest
     injection hyx with hy hx
     subst hy hx
     rw[lexLt_cons] at hR
     simp only[Bm] at hlen
     obtain ⟨e,he,hiff⟩:=j3 A.in1 ⟨hp,g,d,tk,os⟩ a t c u
     refine Aa (he prog w _ _ ?_)
     cases e with
     | true =>
      rw[if_pos (hiff.mp rfl)] at hR
      wp_walk
      exact ⟨rfl,rfl,_,_,_,_,hrest,hvi',hwi',by omega,hR⟩
     | false =>
      rw[if_neg (λq=>absurd (hiff.mpr q) Bp)] at hR
      have hri:=yD A.in1 ⟨hp,g,d,tk,os⟩ a t c u prog w
      wp_walk using hri
      exact ⟨_,rfl,by simpa using hR⟩
  case fin =>
   rintro ⟨b1,b2⟩ s' ⟨hb',rfl,vs,ws,ns',ms',hz,hvi,hwi,hlen,hR⟩
   simp only at hb'
   subst hb'
   have hv:lexLt ns' ms'=decide (items.size<items2.size):=by
    cases hvi with
    | nil =>
     cases hwi with
     | nil =>
      simp only[Ik] at hlen
      rw[lexLt_nil_nil]
      exact (decide_eq_false (by omega)).symm
     | cons c u hw =>
      simp only[Ik,Bm] at hlen
      rw[lexLt_nil_cons]
      exact (decide_eq_true (by omega)).symm
    | cons a t hv =>
     cases hwi with
     | nil =>
      simp only[Ik,Bm] at hlen
      rw[lexLt_cons_nil]
      exact (decide_eq_false (by omega)).symm
     | cons c u hw =>
      rw[Mh] at hz
      cases hz
   rw[hv] at hR
   wp_walk
   exact ⟨_,rfl,by simpa [Builtin.Tuple.tupleCompareSizes] using hR⟩
  case h =>
   exact ⟨rfl,rfl,items.toList,items2.toList,ns,ms,rfl,hi,hj,by omega,h⟩
end
section
variable{prog:Bl}{w:World}{A:Ce}{E:Value->Ai->Prop}{s:Ai}
theorem lt_tupInts{l b:Addr}{items items2:Array Value}{ns ms:List Int}{Q:Value->Ai->Prop}(hl:IsTup s.heap l items)(hb:IsTup s.heap b items2)(hi:Ez items.toList ns)(hj:Ez items2.toList ms)(hu:A.units<cLine)(h:Q (.bool (lexLt ns ms)) s):wpAny (model prog w) A (Ie .Lt (.ref l) (.ref b)) Q E s:=by
 obtain ⟨⟨cls,dd,data,sl⟩,ho,hc,n,hd⟩:=id hl
 w_pre r2
 exact richCompare_meets_room (op:=.Lt) ⟨_,ho,rfl⟩ ⟨_,ho2,rfl⟩ PySem.F.slot_tuple_lt PySem.F.entry_tuple_lt (PySem.F.args_tuple_lt_2 _ _) (tuple_lt_ints l b items items2 n n2 dd dd2 sl sl2 ns ms hi hj)
  ⟨ho,ho2,show Value.bool (lexLt ns ms)≠Value.notImplemented/\Q (.bool (lexLt ns ms)) s from ⟨(λx=>nomatch x),h⟩⟩ hu
theorem cat_tup{t b:Addr}{vs ws:List Value}{Q:Value->Ai->Prop}(ht:IsTup s.heap t vs.toArray)(hb:IsTup s.heap b ws.toArray)(hv:vs≠[])(h1:ws=[]->Q (.ref t) s)(h2:ws≠[]->Q (.ref s.heap.objs.size) { s with heap:=s.heap.push { cls:=.type "tuple",data:=.seq (vs++ws).toArray } })(hsz:vs.length+ws.length<=Aq):wpAny (model prog w) A (Jc .Add (.ref t) (.ref b)) Q E s:=by
 obtain ⟨⟨cls,dd,data,sl⟩,ho,hc,n,hd⟩:=id ht
 w_pre r2
 have e:vs.toArray++ws.toArray=(vs++ws).toArray:=by simp
 by_cases hw:ws=[]
 ·exact concat_meets ⟨_,ho,rfl⟩ ⟨_,ho2,rfl⟩ kG seq_tuple_add PySem.F.slot_tuple_add PySem.F.entry_tuple_add (PySem.F.args_tuple_add_2 _ _)
   (tuple_addW1 t b vs.toArray ws.toArray n n2 dd dd2 sl sl2 (by simpa using hv) (by simp [hw])) ⟨ho,ho2,h1 hw⟩
 ·refine concat_meets ⟨_,ho,rfl⟩ ⟨_,ho2,rfl⟩ kG seq_tuple_add PySem.F.slot_tuple_add PySem.F.entry_tuple_add (PySem.F.args_tuple_add_2 _ _)
   (tuple_addW2 t b vs.toArray ws.toArray n n2 dd dd2 sl sl2 (by simpa using hv) (by simpa using hw) (by rw[Ar,Ar]; exact hsz)) ⟨ho,ho2,?_⟩
  rw[e]
  exact h2 hw
def sIx(n d:Nat):Option Int->Nat
 | none=>d
 | some v=>if v<0 then (v+(n:Int)).toNat else min v.toNat n
theorem sIx_none(n d:Nat):sIx n d none=d:=rfl
theorem sIx_nat(n d k:Nat):sIx n d (some (k:Int))=min k n:=by
 show (if (k:Int)<0 then ((k:Int)+(n:Int)).toNat else min (k:Int).toNat n)=min k n
 rw[if_neg (by omega),Hg]
theorem X2(n d:Nat)(hd:d<=n)(o:Option Int):sIx n d o<=n:=by
 cases o with
 | none=>exact hd
 | some v =>
  show (if v<0 then (v+(n:Int)).toNat else min v.toNat n)<=n
  by_cases hv:v<0
  ·rw[if_pos hv]; omega
  ·rw[if_neg hv]; exact Nat.min_le_right _ _
theorem sO(v:Int)(n d:Nat):(if v<0 then max (v+(n:Int)) 0 else min v (n:Int))=((sIx n d (some v):Nat):Int):=by
 show (if v<0 then max (v+(n:Int)) 0 else min v (n:Int))=(((if v<0 then (v+(n:Int)).toNat else min v.toNat n):Nat):Int)
 by_cases hv:v<0
 ·simp only[if_pos hv]; omega
 ·simp only[if_neg hv]; omega
theorem qV(lo hi:Option Int)(n:Nat):Og lo hi 1 (n:Int)=(((sIx n 0 lo:Nat):Int),((sIx n n hi:Nat):Int)):=by
 have h1:¬ ((1:Int)<0):=by omega
 unfold Og
 simp only[h1,if_false]
 refine Prod.ext ?_ ?_
 ·cases lo with
  | none=>rfl
  | some v=>exact sO v n 0
 ·cases hi with
  | none=>rfl
  | some v=>exact sO v n n
theorem qS(i j:Nat):Jz (i:Int) (j:Int) 1=j - i:=by
 unfold Jz
 have h1:(1:Int) > 0:=by omega
 simp only[h1,if_true,Int.ediv_one]
 split <;> omega
theorem cX{v:Value}{o:Option Int}{Q:Option Int->Ai->Prop}(p:Zs v o)(h:Q o s):wpAny (model prog w) A (Builtin.Slice.slicePartIndex v) Q E s:=by
 cases p with
 | none=>exact slicePart_none h
 | int i t=>exact slicePart_int h
theorem sliceApplied_gen{sl:Addr}{vl vu:Value}{lo hi:Option Int}{n:Nat}{Q:Int×Int×Nat->Ai->Prop}(hs:s.heap.IsSliceOf sl vl vu .none)(pl:Zs vl lo)(pu:Zs vu hi)(h:Q (((sIx n 0 lo:Nat):Int),1,sIx n n hi - sIx n 0 lo) s):wpAny (model prog w) A (Xz (.ref sl) (pure (n:Int))) Q E s:=by
 obtain ⟨os,hos,hcs,hds⟩:=id hs
 unfold Xz Builtin.Slice.sliceFields
 refine Aa (Aa (Ew hos hds (x:=vl) rfl (Aa (Ew hos hds (x:=vu) rfl (Aa (Ew hos hds (x:=.none) rfl (Ac ?_)))))))
 refine Aa (slicePart_none ?_)
 show wpAny _ _ (if ((1:Int) == 0)=true then _ else _) _ _ s
 rw[if_neg (by decide)]
 refine Aa (cX pl (Aa (cX pu (Aa (Ac ?_)))))
 show wpAny _ _ (match Og lo hi 1 (n:Int) with | (lo,hi)=>pure (lo,(1:Int),Jz lo hi 1)) _ _ s
 rw[qV lo hi n]
 show wpAny _ _ (pure (((sIx n 0 lo:Nat):Int),(1:Int),Jz ((sIx n 0 lo:Nat):Int) ((sIx n n hi:Nat):Int) 1)) _ _ s
 rw[qS]
 exact Ac h
theorem B8(xs:Array Value)(i k:Nat):((Cd k).filterMap λ(m:Nat)=>xs[((i:Int)+(m:Int) * 1).toNat]?).toArray=((xs.toList.drop i).take k).toArray:=by
 have e:(λ(m:Nat)=>xs[((i:Int)+(m:Int) * 1).toNat]?)=λm=>xs[i+m]?:=by
  funext m
  have : ((i:Int)+(m:Int) * 1).toNat=i+m:=by omega
  rw[this]
 rw[e]
 have:=pick_run xs i k
 rw[List.filterMap_map] at this
 have e2:((λx=>xs[x]?) ∘ λx=>i+x)=λm=>xs[i+m]?:=rfl
 rw[e2] at this
 rw[this]
theorem getItem_tuple_cut{t sl:Addr}{items:Array Value}{vl vu:Value}{lo hi:Option Int}{Q:Value->Ai->Prop}(ht:IsTup s.heap t items)(hs:s.heap.IsSliceOf sl vl vu .none)(pl:Zs vl lo)(pu:Zs vu hi)(hw:¬ (sIx items.size 0 lo=0/\sIx items.size items.size hi=items.size))(h:Q (.ref s.heap.objs.size) { s with heap:=s.heap.push { cls:=.type "tuple",data:=.seq ((items.toList.drop (sIx items.size 0 lo)).take (sIx items.size items.size hi - sIx items.size 0 lo)).toArray } })(hsz:items.size<=Aq):wpAny (model prog w) A (Uc (.ref t) (.ref sl)) Q E s:=by
 have htake:sizeOk (.seq ((items.toList.drop (sIx items.size 0 lo)).take (sIx items.size items.size hi - sIx items.size 0 lo)).toArray):=by
  show ((items.toList.drop (sIx items.size 0 lo)).take (sIx items.size items.size hi - sIx items.size 0 lo)).toArray.size<=Aq
  rw[Ar,Du,Nt,Am]
  omega
 have hj:sIx items.size items.size hi<=items.size:=X2 _ _ (Aj _) hi
 w_pre i
 refine Aa (sliceApplied_gen hs pl pu ?_)
 have hno:¬ ((((sIx items.size 0 lo:Nat):Int) == 0 && (1:Int) == 1 && (sIx items.size items.size hi - sIx items.size 0 lo) == items.size)=true):=by
  intro q
  rw[Fu,Fu] at q
  have q1:((sIx items.size 0 lo:Nat):Int)=0:=Dz q.1.1
  have q2:sIx items.size items.size hi - sIx items.size 0 lo=items.size:=Dz q.2
  exact hw ⟨by omega,by omega⟩
 show wpAny _ _ (if (((sIx items.size 0 lo:Nat):Int) == 0 && (1:Int) == 1 && (sIx items.size items.size hi - sIx items.size 0 lo) == items.size)=true then _ else _) _ _ s
 rw[if_neg hno,B8]
 first
  | exact Aa (m:=Gj _) (Ca (Ac ⟨_,rfl,Ac h⟩) htake)
  | exact Aa (m:=Gj _) (Ca (Aa (Ac (Ac ⟨_,rfl,Ac h⟩))) htake)
  | exact Aa (Aa (m:=Gj _) (Ca (Ac (Ac ⟨_,rfl,Ac h⟩)) htake))
  | exact Aa (Aa (m:=Gj _) (Ca (Ac ⟨_,rfl,Ac h⟩) htake))
end
end HT
namespace L2
open PySem PySem.Spec PyProof.Rows
abbrev TO:=St->Hp->(Option Int->Hp->Prop)->Prop
def PO(X:Cx)(e:Option Expr)(t:TO):Prop :=
 ∀(pins:List (Addr×Obj)) (s:Ai) (σ:St) (H:Hp) (Q:Option Int->Hp->Prop),Inv X pins σ H s->t σ H Q ->
  wpAny (model X.prog X.w) X.A (evalPart e X.env) (λu s'=>∃o H',Inv X pins σ H' s'/\Zs u o/\Q o H') X.xe s
def O7:TO:=λ_ H Q=>Q none H
def FS(t:TE):TO:=λσ H Q=>t σ H λx H1=>∃i,x=.int i/\Q (some i) H1
theorem intsAre_of{ns:List Int}:∀{us:List Value},Gf (ns.map V.int) us->Ez us ns:=by
 induction ns with
 | nil=>intro us r; rw[Py] at r; cases r; exact .nil
 | cons n ns ih =>
  intro us r
  rw[Ao] at r
  cases r with
  | cons r1 r2 =>
   obtain ⟨t,e⟩:=r1
   subst e
   exact .cons n t (ih r2)
section
variable{X:Cx}{e:Expr}{te:TE}{lo hi:Option Expr}{tl th:TO}{pos p2:Pos}
theorem K2:PO X none O7:=by
 w_pre w6
 rw[evalPart_none]
 exact Ac ⟨none,H,I,.none,h⟩
theorem P0(h:PE X e te):PO X (some e) (FS te):=by
 intro pins s σ H Q I hw
 rw[evalPart_some]
 refine Gb (h pins s σ H _ I hw) λu s1 ⟨x,H1,I1,r1,q1⟩=>?_
 obtain ⟨i,rfl,q⟩:=q1
 obtain ⟨t,rfl⟩:=r1
 exact ⟨some i,H1,I1,.int i t,q⟩
def Y0(X:Cx)(r:V->Option Int->Option Int->Hp->VK->Prop):Prop :=
 ∀(pins:List (Addr×Obj)) (s:Ai) (σ:St) (H:Hp) (x:V) (v vl vu:Value) (lo hi:Option Int) (sl:Addr) (Q:VK),Inv X pins σ H s->RelV x v->s.heap.IsSliceOf sl vl vu .none->Zs vl lo->Zs vu hi->r x lo hi H Q ->
  ∃T id,dI (.type T) "__getitem__" = pure (some (.builtin id))/\s.TypeIs v T/\wpAny (model X.prog X.w) X.A (Uc v (.ref sl)) (EP X pins σ Q) X.xe s
theorem Y0.or{r r':V->Option Int->Option Int->Hp->VK->Prop}(h:Y0 X r)(h':Y0 X r'):Y0 X (λx lo hi H Q=>r x lo hi H Q\/r' x lo hi H Q):=by
 intro pins s σ H x v vl vu lo hi sl Q I rx hs pl pu q
 rcases q with q | q
 ·exact h pins s σ H x v vl vu lo hi sl Q I rx hs pl pu q
 ·exact h' pins s σ H x v vl vu lo hi sl Q I rx hs pl pu q
def JN(r:V->Option Int->Option Int->Hp->VK->Prop)(te:TE)(tl th:TO):TE:=λσ H Q=>te σ H λx H1=>tl σ H1 λl H2=>th σ H2 λu H3=>r x l u H3 Q
theorem oN{r:V->Option Int->Option Int->Hp->VK->Prop}(hr:Y0 X r)(he:PE X e te)(hl:PO X lo tl)(hu:PO X hi th):PE X (.Subscript e (.Slice lo hi none p2) pos) (JN r te tl th):=by
 w_pre w6
 refine Subscript_ (Gb (he pins s σ H _ I h) λv s1 ⟨x,H1,I1,r1,q1⟩=>?_)
 refine wpAny_Slice (Gb (hl pins s1 σ H1 _ I1 q1) λvl s2 ⟨l,H2,I2,pl,q2⟩=>Gb (hu pins s2 σ H2 _ I2 q2) λvu s3 ⟨u,H3,I3,pu,q3⟩=>?_)
 rw[evalPart_none]
 refine Ac ?_
 have I4:Inv X pins σ H3 { s3 with heap:=s3.heap.push { cls:=.type "slice",data:=.fields #[vl,vu,.none] } }:=I3.kept (t':=s3.toks) λb ob q=>Ah _ q
 obtain ⟨T,id,hT,ht,hg⟩:=hr pins { s3 with heap:=s3.heap.push { cls:=.type "slice",data:=.fields #[vl,vu,.none] } } σ H3 x v vl vu l u s3.heap.objs.size Q I4 r1 (Heap.IsSliceOf.new ..) pl pu q3
 show wpAny (model X.prog X.w) X.A (subscriptTail e (.Slice lo hi none p2) v (.ref s3.heap.objs.size)) (EP X pins σ Q) X.xe { s3 with heap:=s3.heap.push { cls:=.type "slice",data:=.fields #[vl,vu,.none] } }
 exact tail_any (ops:=[.ref s3.heap.objs.size,v]) ht hT hg (by with_unfolding_all rfl)
def bE(xs:List V)(lo hi:Option Int):List V:=(xs.drop (HT.sIx xs.length 0 lo)).take (HT.sIx xs.length xs.length hi - HT.sIx xs.length 0 lo)
theorem Zf(xs:List V)(lo hi:Option Int):(bE xs lo hi).length<=xs.length:=by
 unfold bE
 rw[Du,Nt]
 omega
def HS(K:PySem.W.Frag):V->Option Int->Option Int->Hp->VK->Prop:=λx lo hi H Q=>∃a xs,x=.ref a/\Ta K H a xs /\
 ¬ (HT.sIx xs.length 0 lo=0/\HT.sIx xs.length xs.length hi=xs.length)/\∀p,H p=none->Q (.ref p) (upd H p (.tup (bE xs lo hi)))
theorem AV:Y0 X (HS X.K):=by
 w_pre y7
 obtain ⟨a,xs,rfl,hx,hw,q⟩:=h
 cases rx
 obtain ⟨its,r,ht,hz⟩:=I.tuple hx
 w_pre v4
 refine HT.getItem_tuple_cut ht hs pl pu (by rw[hlen]; exact hw) ?_ (by rw[hlen]; exact hz)
 rw[hlen]
 refine ⟨.ref s.heap.objs.size,_,I.laid (t':=s.toks) (o:=.tup (bE xs lo hi)) (λb ob q=>Ah _ q) (Aj _) ?_,rfl,q _ (I.hok.fresh (Aj _))⟩
 exact ⟨Cg (Zf xs lo hi) hz,_,(r.drop (HT.sIx xs.length 0 lo)).take (HT.sIx xs.length xs.length hi - HT.sIx xs.length 0 lo),IsTup.new _ _⟩
def EU(K:PySem.W.Frag):R2:=λx y H Q=>∃a b xs ys,x=.ref a/\y=.ref b/\Ta K H a xs/\Ta K H b ys/\xs≠[]/\xs.length+ys.length<=Aq /\
 (ys=[]->Q (.ref a) H)/\(ys≠[]->∀p,H p=none->Q (.ref p) (upd H p (.tup (xs++ys))))
theorem Gf.nil_iff{xs:List V}{us:List Value}(r:Gf xs us):us=[]↔xs=[]:=by
 cases r with
 | nil=>simp
 | cons _ _=>simp
theorem F5:Xe X (Jc .Add) (EU X.K):=by
 w_pre k7
 obtain ⟨a,b,xs,ys,rfl,rfl,ha,hb,hx,hz,q1,q2⟩:=h
 cases rx
 w_pre c3
 refine HT.cat_tup p1 p2 (λz=>hx (r1.nil_iff.mp z)) (λz=>⟨.ref a,H,I,rfl,q1 (r2.nil_iff.mp z)⟩) (λz=>?_) (by rw[<- r1.length,<- r2.length]; exact hz)
 refine ⟨.ref s.heap.objs.size,_,I.laid (t':=s.toks) (o:=.tup (xs++ys)) (λb ob q=>Ah _ q) (Aj _) ?_,rfl,q2 (λw=>z (r2.nil_iff.mpr w)) _ (I.hok.fresh (Aj _))⟩
 exact ⟨by rw[Bf]; exact hz,_,r1.append r2,IsTup.new _ _⟩
end
def xM(n:Nat)(i:Int):Option Nat:=if 0<=i then (if i<n then some i.toNat else none) else if -(n:Int)<=i then some (i+n).toNat else none
def Vu{α:Type}(xs:List α)(i:Int):Option α:=(xM xs.length i).bind λj=>xs[j]?
theorem sZ{n:Nat}{i:Int}{j:Nat}(h:xM n i=some j):seqIndex? i n=some j/\j<n /\ -(n:Int)<=i/\i<n:=by
 unfold xM at h
 by_cases h0:0<=i
 ·rw[if_pos h0] at h
  by_cases h1:i<n
  ·rw[if_pos h1] at h
   have e:i.toNat=j:=Bv h
   exact ⟨by rw[seqIndex_of h0 h1,e],by omega,by omega,h1⟩
  ·rw[if_neg h1] at h; cases h
 ·rw[if_neg h0] at h
  by_cases h1:-(n:Int)<=i
  ·rw[if_pos h1] at h
   have e:(i+n).toNat=j:=Bv h
   exact ⟨by rw[seqIndex_neg (by omega) h1,e],by omega,h1,by omega⟩
  ·rw[if_neg h1] at h; cases h
theorem iZ{α:Type}{xs:List α}{i:Int}{v:α}(h:Vu xs i=some v):∃j,seqIndex? i xs.length=some j/\xs[j]? = some v/\j<xs.length /\ -(xs.length:Int)<=i/\i<xs.length:=by
 unfold Vu at h
 cases e:xM xs.length i with
 | none=>rw[e] at h; cases h
 | some j =>
  rw[e] at h
  obtain ⟨h1,h2,h3,h4⟩:=sZ e
  exact ⟨j,h1,h,h2,h3,h4⟩
theorem hV{α:Type}{xs:List α}{j:Nat}{v:α}(h:xs[j]? = some v):Vu xs (j:Int)=some v:=by
 have hj:j<xs.length:=(Av.mp h).1
 have e:xM xs.length (j:Int)=some j:=by
  unfold xM
  rw[if_pos (by omega),if_pos (by omega)]; simp
 unfold Vu; rw[e]; exact h
def iR(b:Expr):Prop:=∀o i,subscripted b false o i=operate [o,i] (Uc o i)
def Q0(X:Cx)(r:R2):Prop :=
 ∀(value slice:Expr) (pins:List (Addr×Obj)) (s:Ai) (σ:St) (H:Hp) (x y:V) (v u:Value) (Q:VK),Inv X pins σ H s->RelV x v->RelV y u->r x y H Q ->
  subscripted slice false v u=operate [v,u] (Uc v u)->wpAny (model X.prog X.w) X.A (subscriptTail value slice v u) (EP X pins σ Q) X.xe s
def JQ(X:Cx)(id:String)(r:V->List V->Hp->VK->Prop):Prop :=
 ∀(pins:List (Addr×Obj)) (s:Ai) (σ:St) (H:Hp) (x:V) (xs:List V) (v:Value) (us:List Value) (Q:VK),Inv X pins σ H s->RelV x v->Gf xs us->r x xs H Q ->
  wpAny (model X.prog X.w) X.A (call (.builtin id) (v::us)) (EP X pins σ Q) X.xe s
section
variable{X:Cx}{a b:Expr}{ta tb:TE}{pos:Pos}
theorem Q0.or{r r':R2}(h:Q0 X r)(h':Q0 X r'):Q0 X (λx y H Q=>r x y H Q\/r' x y H Q):=by
 intro value slice pins s σ H x y v u Q I rx ry q hs
 rcases q with q | q
 ·exact h value slice pins s σ H x y v u Q I rx ry q hs
 ·exact h' value slice pins s σ H x y v u Q I rx ry q hs
theorem Ze{r:R2}(hr:Q0 X r)(ha:PE X a ta)(hb:PE X b tb)(hs:iR b):PE X (.Subscript a b pos) (FI r ta tb):=by
 w_pre w6
 exact Subscript_ (Y3 ha hb I h λv u s2 x y H2 I2 rx ry q=>hr a b pins s2 σ H2 x y v u Q I2 rx ry q (hs _ _))
def GB(K:PySem.W.Frag):R2:=λx y H Q=>∃p xs i v,x=.ref p/\y=.int i/\Pe K H p xs/\Vu xs i=some v/\Q v H
def FV(K:PySem.W.Frag):R2:=λx y H Q=>∃p xs i v,x=.ref p/\y=.int i/\Ta K H p xs/\Vu xs i=some v/\Q v H
def CY:R2:=λx y H Q=>∃z i c,x=.str z/\y=.int i/\z.length<=Aq/\Vu z.cps.toList i=some c/\Q (.str ⟨#[c]⟩) H
theorem Ui:Q0 X (GB X.K):=by
 w_pre d1
 obtain ⟨its,r,pl,hz⟩:=I.list hq
 w_pre n0
 by_cases h0:0<=i
 ·have hj:i.toNat=j:=by
   rw[seqIndex_of h0 h5] at h1
   exact Bv h1
  exact item_listR pl.isList h0 (by omega) (by rw[hj]; simpa using ew) fin hs
 ·have hj:(i+(its.toArray.size:Int)).toNat=j:=by
   rw[seqIndex_neg (by omega) h4] at h1
   rw[Ar,<- hl]
   exact Bv h1
  exact D0 (x:=w) pl.isList.typeIs GO.lookup
   (wpAny_getItem_list_neg (Q:=λr s'=>r=w/\EP X pins σ Q r s') pl.isList (by omega) (by rw[Ar] <;> omega) (by omega) (by rw[hj]; simpa using ew) ⟨rfl,fin⟩) hs
theorem BI:Q0 X (FV X.K):=by
 w_pre d1
 obtain ⟨its,r,pl,hz⟩:=I.tuple hq
 w_pre n0
 exact D0 (x:=w) pl.typeIs slot_tuple_getitem.lookup
  (getItem_tuple (j:=j) (Q:=λr s'=>r=w/\EP X pins σ Q r s') pl (by omega) (by omega) (by rw[Ar,<- hl]; exact h1) (by simpa using ew) ⟨rfl,fin⟩) hs
theorem AS:Q0 X CY:=by
 intro value slice pins s σ H x y v u Q I rx ry h hs
 obtain ⟨z,i,c,rfl,rfl,hz,he,q⟩:=h
 w_pre v7
 obtain ⟨t',rfl⟩:=ry
 obtain ⟨j,h1,h2,h3,h4,h5⟩:=iZ he
 have hl:z.cps.toList.length=z.length:=by simp [Str.length]
 rw[hl] at h1 h4 h5
 have hn:=Yk
 exact tail_any (typeIs_str s z t) slot_str_getitem.lookup (getItem_str (c:=c) (by
  have e1:decide (i < -(2 ^ 63:Int))=false:=decide_eq_false (by omega)
  have e2:decide (i ≥ 2 ^ 63)=false:=decide_eq_false (by omega)
  rw[e1,e2,Bool.or_false]) (by rw[h1]; simpa using h2) ⟨.str ⟨#[c]⟩,H,I.tok _,⟨_,rfl⟩,q⟩) hs
def JE(K:PySem.W.Frag):R2:=λx y H Q=>GB K x y H Q\/FV K x y H Q\/CY x y H Q
theorem Z5:Q0 X (JE X.K):=Ui.or (BI.or AS)
theorem qH(its:List Value)(n j:Nat)(u:Value):Eg (·.setIfInBounds j u) { cls:=.type "list",data:=.seq its.toArray n }={ cls:=.type "list",data:=.seq (its.set j u).toArray n }:=by
 simp [Eg]
theorem Inv.lst{pins:List (Addr×Obj)}{σ:St}{H:Hp}{s:Ai}{p:Addr}{xs:List V}(I:Inv X pins σ H s)(h:H p=some (.lst xs)):∃(its:List Value) (n:Nat),Gf xs its/\s.heap.get? p=some { cls:=.type "list",data:=.seq its.toArray n }/\xs.length<=Aq:=by
 obtain ⟨z,its,n,r,e⟩:=I.hok p _ h
 exact ⟨its,n,r,e,z⟩
theorem Inv.lstUpd{pins:List (Addr×Obj)}{σ:St}{H:Hp}{s:Ai}{p:Addr}{xs ys:List V}{its its':List Value}{n n':Nat}{f:Obj->Obj}(I:Inv X pins σ H s)(h:H p=some (.lst xs))(ho:s.heap.get? p=some { cls:=.type "list",data:=.seq its.toArray n })(hf:f { cls:=.type "list",data:=.seq its.toArray n }={ cls:=.type "list",data:=.seq its'.toArray n' })(r:Gf ys its')(hz:ys.length<=Aq)(t:Nat):Inv X pins σ (upd H p (.lst ys)) { s with heap:=s.heap.update p f,toks:=t }:=by
 have e:(s.heap.update p f).get? p=some { cls:=.type "list",data:=.seq its'.toArray n' }:=by
  rw[Eu f ho (by rw[hf] <;> rfl),hf]
 refine I.write (x:=p) (e:=p) (by rw[h]; trivial) (.inl rfl) (λb u hb q=>(rO _ _ (Ln hb)).trans q) ⟨_,e⟩ ?_
 exact ⟨hz,its',n',r,e⟩
def U9:V->V->V->Hp->(Hp->Prop)->Prop:=λo i v H Q=>∃p xs k j,o=.ref p/\i=.int k/\H p=some (.lst xs)/\xM xs.length k=some j/\Q (upd H p (.lst (xs.set j v)))
theorem bR:DJ X U9:=by
 intro pins s σ H o i v ov iv u Q I ro ri rv h
 obtain ⟨p,xs,k,j,rfl,rfl,hp,hj,q⟩:=h
 cases ro
 obtain ⟨t,rfl⟩:=ri
 obtain ⟨its,n,r,ho,hz⟩:=I.lst hp
 obtain ⟨h1,h2,h3,h4⟩:=sZ hj
 have hl:=r.length
 have hn:=Yk
 have I':Inv X pins σ (upd H p (.lst (xs.set j v))) { s with heap:=s.heap.update p (Eg (·.setIfInBounds j u)) } :=
  I.lstUpd hp ho (qH its n j u) (r.set rv j) (by rw[Pp]; exact hz) s.toks
 by_cases h0:0<=k
 ·have hk:k.toNat=j:=by
   rw[seqIndex_of h0 h4] at h1
   exact Bv h1
  exact PySem.W.ki_setAt ho h0 (by omega) (by rw[Ar,<- hl]; exact h4) (by rw[hk]; exact ⟨_,I',q⟩)
 ·have hk:(k+(its.toArray.size:Int)).toNat=j:=by
   rw[seqIndex_neg (by omega) h3] at h1
   rw[Ar,<- hl]
   exact Bv h1
  exact PySem.W.ki_setBack ho (by omega) (by rw[Ar,<- hl]; exact h3) (by omega) (by rw[hk]; exact ⟨_,I',q⟩)
theorem jI(lo hi:Option Int)(n:Nat):(Qj lo hi none n).1=((HT.sIx n 0 lo:Nat):Int)/\(Qj lo hi none n).2.1=((HT.sIx n n hi:Nat):Int)/\(Qj lo hi none n).2.2=1:=by
 refine ⟨?_,?_,rfl⟩
 ·cases lo with
  | none=>simp [Qj,HT.sIx]
  | some i =>
   w_pre y0
 ·cases hi with
  | none=>simp [Qj,HT.sIx]
  | some i =>
   w_pre y0
theorem eI(its:List Value)(lo hi:Option Int):slicePick its.toArray lo hi none=((its.drop (HT.sIx its.length 0 lo)).take (HT.sIx its.length its.length hi - HT.sIx its.length 0 lo)).toArray:=by
 obtain ⟨h1,h2,h3⟩:=jI lo hi its.toArray.size
 unfold slicePick
 rw[h1,h2,h3]
 simp only[sliceRange_one,pick_run,Ar] <;> rfl
def BW(K:PySem.W.Frag):V->Option Int->Option Int->Hp->VK->Prop:=λx lo hi H Q=>∃a xs,x=.ref a/\Pe K H a xs/\∀p,H p=none->Q (.ref p) (upd H p (.lst (bE xs lo hi)))
theorem I0:Y0 X (BW X.K):=by
 w_pre y7
 obtain ⟨a,xs,rfl,hx,q⟩:=h
 cases rx
 obtain ⟨its,r,ht,hz⟩:=I.list hx
 have hlen:=r.length
 refine ⟨"list",_,GO.lookup,ht.isList.typeIs,?_⟩
 refine wpAny_getItem_list_slice ht.isList hs pl pu .none (by simp) ?_ (by rw[Ar] <;> omega)
 rw[eI,<- hlen]
 refine ⟨.ref s.heap.objs.size,_,I.laid (t':=s.toks) (o:=.lst (bE xs lo hi)) (λb ob q=>Ah _ q) (Aj _) ?_,rfl,q _ (I.hok.fresh (Aj _))⟩
 exact ⟨Cg (Zf xs lo hi) hz,_,0,(r.drop (HT.sIx xs.length 0 lo)).take (HT.sIx xs.length xs.length hi - HT.sIx xs.length 0 lo),Ap _ rfl⟩
theorem iK:Mc X (.type "list") (λxs H Q=>∃p ys,xs=[.ref p]/\(Pe X.K H p ys\/Ta X.K H p ys)/\∀l,H l=none->Q (.ref l) (upd H l (.lst ys))):=by
 w_pre x6
 obtain ⟨p,ys,rfl,hq,q⟩:=h
 w_pre f9
 cases rx
 have fin:∀(its:List Value),Gf ys its->ys.length<=Aq->∀(h':Heap) (c':Nat),(∀b o',s.heap.get? b=some o'->h'.get? b=some o') ->
   h'.get? s.heap.objs.size=some { cls:=.type "list",dict:=none,data:=.seq its.toArray c',slots:=#[] }->EP X pins σ Q (.ref s.heap.objs.size) { s with heap:=h' }:=λits r' hz h' c' kp e =>
  ⟨.ref s.heap.objs.size,_,I.laid (t':=s.toks) kp (Aj _) (show Hl X.prog X.w _ h' _ (.lst ys) from ⟨hz,its,c',r',e⟩),rfl,q _ (I.hok.fresh (Aj _))⟩
 rcases hq with hq | hq
 ·obtain ⟨its,r',pl,hz⟩:=I.list hq
  have hlen:=r'.length
  obtain ⟨o,ho,hc,n,hd⟩:=pl.isList
  exact call_list_seq p (.inl rfl) ho hc hd (λh' c' kp e=>fin its r' hz h' c' kp e) (by simp only[Ar] <;> omega)
 ·obtain ⟨its,r',pl,hz⟩:=I.tuple hq
  have hlen:=r'.length
  obtain ⟨o,ho,hc,n,hd⟩:=pl
  exact call_list_seq p (.inr rfl) ho hc hd (λh' c' kp e=>fin its r' hz h' c' kp e) (by simp only[Ar] <;> omega)
theorem Vg:Mc X (.type "tuple") (λxs H Q=>∃p ys,xs=[.ref p]/\((Pe X.K H p ys/\∀l,H l=none->Q (.ref l) (upd H l (.tup ys)))\/(Ta X.K H p ys/\Q (.ref p) H))):=by
 w_pre x6
 obtain ⟨p,ys,rfl,h⟩:=h
 w_pre f9
 cases rx
 rcases h with ⟨hq,q⟩ | ⟨hq,q⟩
 ·obtain ⟨its,r',pl,hz⟩:=I.list hq
  have hlen:=r'.length
  refine call_tuple_list pl.isList (λh' kp=>?_) (by simp only[Ar] <;> omega)
  have I1:Inv X pins σ H { s with heap:=h' }:=I.kept (t':=s.toks) kp
  have I2:Inv X pins σ (upd H h'.objs.size (.tup ys)) { s with heap:=h'.push { cls:=.type "tuple",data:=.seq its.toArray } } :=
   I1.laid (t':=s.toks) (λb o e=>Ah _ e) (Aj _) (show Hl X.prog X.w _ _ _ (.tup ys) from ⟨hz,its,r',IsTup.new _ _⟩)
  exact ⟨.ref h'.objs.size,_,I2,rfl,q _ (I1.hok.fresh (Aj _))⟩
 ·obtain ⟨its,r',pl,hz⟩:=I.tuple hq
  exact call_tuple_same pl ⟨.ref p,H,I,rfl,q⟩
def JC(K:PySem.W.Frag)(T:String)(x:V)(H:Hp):Prop:=match x with
 | .str _=>T = "str"
 | .int _=>T = "int"
 | .ref p=>(T = "list" /\ ∃xs,Pe K H p xs)\/(T = "tuple" /\ ∃o,K.lookup p=some o/\o.cls=.type "tuple" /\ o.dict=none) \/
   (T = "dict" /\ ((∃kvs,H p=some (.dK kvs))\/∃kvs,H p=some (.dT kvs)))\/(T = "set" /\ ∃S n,H p=some (.set S n))
 | _=>False
theorem BJ{pins:List (Addr×Obj)}{σ:St}{H:Hp}{s:Ai}{T:String}{x:V}{v:Value}(I:Inv X pins σ H s)(r:RelV x v)(ty:JC X.K T x H):s.TypeIs v T/\∀a,v=.ref a->∃ob,s.heap.get? a=some ob/\ob.dict=none:=by
 cases x with
 | str z =>
  obtain ⟨t,rfl⟩:=r
  cases (show T = "str" from ty)
  exact ⟨typeIs_str s z t,λ_ e=>nomatch e⟩
 | int i =>
  obtain ⟨t,rfl⟩:=r
  cases (show T = "int" from ty)
  exact ⟨typeIs_int s i t,λ_ e=>nomatch e⟩
 | ref p =>
  cases r
  rcases ty with ⟨rfl,xs,hq⟩ | ⟨rfl,o,hk,hc,hd⟩ | ⟨rfl,hk⟩ | ⟨rfl,S,n,hk⟩
  ·obtain ⟨its,_,pl,_⟩:=I.list hq
   refine ⟨pl.isList.typeIs,λa e=>?_⟩
   cases e
   obtain ⟨o,n,e,c,hd,_⟩:=pl
   exact ⟨o,e,hd⟩
  ·refine ⟨⟨o,I.kIn p o hk,hc⟩,λa e=>?_⟩
   cases e
   exact ⟨o,I.kIn _ o hk,hd⟩
  ·have z:∃o,s.heap.get? p=some o/\o.ExactDict:=by
    rcases hk with ⟨kvs,hk⟩ | ⟨kvs,hk⟩
    w_pre y5
    w_pre y5
   obtain ⟨o,e,ex⟩:=z
   w_pre p3
  ·obtain ⟨o,_,_,_,e,ex,_⟩:=I.hok p _ hk
   w_pre p3
 | _=>exact Kw ty
def JO(K:PySem.W.Frag)(T:String)(r:V->List V->Hp->VK->Prop)(to:TE)(t:TA):TE:=λσ H Q=>to σ H λx H1=>JC K T x H1/\t σ H1 λxs H2=>r x xs H2 Q
variable{o e:Expr}{es:List Expr}{to:TE}{t:TA}{name:Str}{apos cpos:Pos}{T id:String}{r:V->List V->Hp->VK->Prop}
theorem V2(pa:PlainAttrs T)(slot:Slot T name id)(hty:typeOf (.builtin id)=pure (.type "method_descriptor"))(hm:JQ X id r)(ho:PE X o to)(ha:PA X (e::es) t)
  (hbase:Mr o name X.env (eval o X.env)=eval o X.env:=by rfl)
  (hfew:((Hj cpos (Bn (e::es) X.env)).all (λx=>!x.1) && (backToKw cpos (Zo [] X.env)).all (λx=>x.1.isSome)
   && decide ((e::es).length+([]:List Ug).length+(if ([]:List Ug).isEmpty then 0 else 1)<30))=true:=by rfl)
  (hline:(apos.endLine == cpos.line)=true:=by rfl) (hs:Bn (e::es) X.env=(false,eval e X.env)::Bn es X.env:=by rfl) (hplain:(Hj cpos (Bn es X.env)).any (·.1)=false:=by rfl) :
  PE X (.Call (.Attribute o name apos) (e::es) [] cpos) (JO X.K T r to t):=by
 w_pre w6
 refine wpAny_Call_method_late hbase hfew hline rfl (Gb (ho pins s σ H _ I h) λv s1 ⟨x,H1,I1,r1,ty,q1⟩=>?_)
 obtain ⟨h1,h2⟩:=BJ I1 r1 ty
 refine ⟨T,id,pa,slot,hty,h1,h2,?_⟩
 have hA:=ha cpos pins s1 σ H1 _ I1 q1
 rw[hs] at hA ⊢
 refine Mt (by show (false || (Hj cpos (Bn es X.env)).any (·.1))=false; rw[hplain] <;> rfl) (Vk ?_)
 exact Gb hA λus s2 ⟨vs,H2,I2,r2,q2⟩=>hm pins s2 σ H2 x vs v us Q I2 r1 r2 q2
end
def IY(X:Cx)(id:String)(r:V->List V->Hp->VK->Prop):Prop :=
 ∀(pins:List (Addr×Obj)) (s:Ai) (σ:St) (H:Hp) (x:V) (xs:List V) (v:Value) (us:List Value) (Q:VK),Inv X pins σ H s->RelV x v->Gf xs us->r x xs H Q ->
  wpAny (model X.prog X.w) X.A (call (.builtin id) (v::us)) (EP X pins σ Q) X.xe s
theorem Gf.one:∀{x:V} {us:List Value},Gf [x] us->∃u,us=[u]/\RelV x u
 | _,_,.cons r .nil=>⟨_,rfl,r⟩
theorem Gf.rep{xs:List V}{us:List Value}(h:Gf xs us):∀k:Nat,Gf (Bz k xs).flatten (Bz k us).flatten
 | 0=>.nil
 | k+1=>by
  rw[Gi,Gi,Ir,Ir]
  exact Gf.append h (Gf.rep h k)
theorem foldl_rep(its:List Value):∀(k:Nat) (acc:List Value),List.foldl (λx1 x2=>x1++x2) acc.toArray (Bz k its.toArray)=(acc++(Bz k its).flatten).toArray
 | 0,acc=>by simp
 | k+1,acc=>by
  have e:acc.toArray++its.toArray=(acc++its).toArray:=by simp
  have e2:(acc++its)++(Bz k its).flatten=acc++(Bz (k+1) its).flatten:=by
   rw[Gi,Ir,Bt]
  rw[<- e2,<- foldl_rep its k (acc++its),<- e,Gi,List.foldl_cons]
section
variable{X:Cx}{pins:List (Addr×Obj)}{σ:St}{H:Hp}{s:Ai}{l b:Addr}{xs ys zs:List V}
theorem Inv.lset{its its':List Value}{n:Nat}{f:Array Value->Array Value}{t':Nat}(I:Inv X pins σ H s)(hH:H l=some (.lst xs))(e:s.heap.get? l=some { cls:=.type "list",data:=.seq its.toArray n })(hf:f its.toArray=its'.toArray)(hv:Gf ys its')(hz:ys.length<=Aq):Inv X pins σ (upd H l (.lst ys)) { s with heap:=s.heap.update l (Eg f),toks:=t' }:=by
 have q:=PySem.IsL.update e f
 rw[hf] at q
 refine I.write (x:=l) (e:=l) (by rw[hH]; exact trivial) (.inl rfl) (λb' u hb hu=>(rO s.heap (Eg f) (Ln hb)).trans hu) ⟨_,q⟩ ?_
 exact ⟨hz,its',_,hv,q⟩
theorem Inv.lnew{its:List Value}{t':Nat}(I:Inv X pins σ H s)(hv:Gf ys its)(hz:ys.length<=Aq):Inv X pins σ (upd H s.heap.objs.size (.lst ys)) { s with heap:=s.heap.push { cls:=.type "list",data:=.seq its.toArray },toks:=t' } :=
 I.laid (λ_ _ q=>Ah _ q) (Aj _) ⟨hz,its,0,hv,Ap _ rfl⟩
theorem Inv.fresh(I:Inv X pins σ H s):H s.heap.objs.size=none:=I.hok.fresh (Aj _)
theorem Inv.lstM(I:Inv X pins σ H s)(hH:H l=some (.lst xs)):xs.length<=Aq/\∃(its:List Value) (n:Nat),Gf xs its/\xs.length=its.length/\s.heap.get? l=some { cls:=.type "list",data:=.seq its.toArray n }:=by
 obtain ⟨z,its,n,r,e⟩:=I.hok l _ hH
 exact ⟨z,its,n,r,r.length,e⟩
theorem nP{n:Nat}(h:n<=Aq):Ku n=false:=by
 unfold Ku
 exact decide_eq_false (by omega)
end
section
variable{X:Cx}
def Q4:V->List V->Hp->VK->Prop:=λx vs H Q=>∃l xs y,x=.ref l/\vs=[y]/\H l=some (.lst xs)/\xs.length<Aq/\Q .non (upd H l (.lst (xs++[y])))
theorem Ow:IY X "list.append" Q4:=by
 intro pins s σ H x vs v us Q I rx rv h
 obtain ⟨l,xs,y,rfl,rfl,hH,hz,q⟩:=h
 cases rx
 obtain ⟨u,rfl,ru⟩:=rv.one
 obtain ⟨z,its,n,r,hl,e⟩:=I.lstM hH
 refine dO F.slot_list_append ⟨_,e,rfl⟩ F.entry_list_append (F.args_list_append_2 _ _) (PySem.list_append l its.toArray n u (by rw[Ar]; omega)) ⟨e,?_⟩
 refine ⟨.non,_,I.lset (its':=its++[u]) hH e (by simp) (r.append (.cons ru .nil)) ?_,rfl,q⟩
 rw[Bf,Fl]
 omega
def F8:V->List V->Hp->VK->Prop:=λx vs H Q=>∃l b xs zs,x=.ref l/\vs=[.ref b]/\H l=some (.lst xs)/\H b=some (.lst zs)/\xs.length+zs.length<=Aq/\Q .non (upd H l (.lst (xs++zs)))
theorem CO:IY X "list.extend" F8:=by
 intro pins s σ H x vs v us Q I rx rv h
 w_pre r6
 obtain ⟨u,rfl,ru⟩:=rv.one
 cases ru
 w_pre l5
 have hsz:its.toArray.size+its2.toArray.size<=Aq:=by rw[Ar,Ar]; omega
 have hlong:¬ (!its.toArray.isEmpty && Ku (its.toArray.size+its2.toArray.size))=true:=by
  rw[nP hsz,Wf]
  exact Bp
 refine dO F.slot_list_extend ⟨_,e,rfl⟩ F.entry_list_extend (F.args_list_extend_2 _ _)
  (AutoSeq1.list_extend_list_list_0 l its.toArray n b its2.toArray n2 hlong (by rw[Ar]; omega) (by omega)) ⟨e,e2,?_⟩
 refine ⟨.non,_,I.lset (its':=its++its2) hH e (by simp) (r.append r2) ?_,rfl,q⟩
 rw[Bf]
 omega
def EC:R2:=λx y H Q=>∃l b xs zs,x=.ref l/\y=.ref b/\H l=some (.lst xs)/\H b=some (.lst zs)/\xs.length+zs.length<=Aq/\∀p,H p=none->Q (.ref p) (upd H p (.lst (xs++zs)))
theorem AQ:Xe X (Jc .Add) EC:=by
 w_pre k7
 w_pre r6
 cases ry
 w_pre l5
 refine PySem.P.add_list e e2 ?_ (by rw[Ar,Ar]; omega)
 have ea:its.toArray++its2.toArray=(its++its2).toArray:=by simp
 rw[ea]
 exact ⟨.ref _,_,I.lnew (t':=s.toks) (r.append r2) (by rw[Bf]; omega),rfl,q _ I.fresh⟩
def EM:R2:=λx y H Q=>∃l k xs,x=.ref l/\y=.int k/\H l=some (.lst xs) /\ -(2 ^ 63)<=k/\k<2 ^ 63/\xs.length * k.toNat<=Aq /\
 ∀p,H p=none->Q (.ref p) (upd H p (.lst (Bz k.toNat xs).flatten))
theorem sS{α:Type}(xs:List α)(k:Nat):(Bz k xs).flatten.length=k * xs.length:=by
 induction k with
 | zero=>simp
 | succ k ih=>rw[Gi,Ir,Bf,ih,Nat.succ_mul,Nat.add_comm]
theorem X4:Xe X (Jc .Mult) EM:=by
 w_pre k7
 obtain ⟨l,k,xs,rfl,rfl,hH,h1,h2,hz,q⟩:=h
 cases rx
 obtain ⟨t,rfl⟩:=ry
 obtain ⟨z,its,n,r,hl,e⟩:=I.lstM hH
 have hlen:its.toArray.size * k.toNat<=Aq:=by rw[Ar,<- hl]; exact hz
 have hcap:¬ its.toArray.size * k.toNat > (2 ^ 63 - 1) / 8:=by
  have : (Aq:Nat)<=(2 ^ 63 - 1) / 8:=by decide
  omega
 have hfit:¬ (!Builtin.List.listFitsIndex k)=true:=by
  rw[fitsIndex_both h1 h2]
  exact Bp
 have hlong:¬ Ku (its.toArray.size * k.toNat)=true:=by
  rw[nP hlen]
  exact Bp
 have hnew:List.foldl (λx1 x2=>x1++x2) #[] (Bz (if its.toArray.isEmpty=true then 0 else k.toNat) its.toArray)=(Bz k.toNat its).flatten.toArray:=by
  have f0:∀m:Nat,List.foldl (λx1 x2=>x1++x2) #[] (Bz m its.toArray)=(Bz m its).flatten.toArray:=λm=>by
   have:=foldl_rep its m []
   rw[Uz] at this
   exact this
  rw[f0]
  cases its with
  | nil=>simp
  | cons a r'=>rw[if_neg (by simp)]
 refine wpAny_binaryOp_repeat_ref (T := "list") (U := "int") (by decide) ⟨_,e,rfl⟩ (λs'=>typeIs_int s' k t) noFill_list_mul F.fills_int_mul F.slot_int_rmul repeat_list F.slot_int_index.lookup
  (dO F.slot_int_rmul (typeIs_int s k t) F.entry_int_rmul (F.args_int_rmul_2 _ _) (int___rmul___int_list k t l its.toArray n)
   ⟨e,rfl,⟨_,e,rfl⟩,dO F.slot_list_mul ⟨_,e,rfl⟩ F.entry_list_mul (F.args_list_mul_2 _ _) (AutoListH.list___mul___list_int_3 l its.toArray n k t hfit hcap hlong) ⟨e,?_⟩⟩)
 rw[hnew]
 exact ⟨.ref _,_,I.lnew (t':=s.toks) (r.rep k.toNat) (by rw[sS,Nat.mul_comm]; exact hz),rfl,q _ I.fresh⟩
end
end L2
namespace Att
open PySem PySem.W PySem.Calls PyProof.Rows
theorem aA{P:Params}{h:Heap}:∀(ns:List Int) (vs:List Value),WellAll P h vs (ns.map WData.int)->Ez vs ns:=by
 intro ns
 induction ns with
 | nil =>
  intro vs w
  rw[Py] at w
  cases w
  exact .nil
 | cons n ns ih =>
  intro vs w
  rw[Ao] at w
  cases w with
  | cons a b =>
   cases a
   exact .cons _ _ (ih _ b)
theorem wV{l:OpenLaw}{n:Nat}(hn:l.most=some n){P:Params}{h:Heap}{args:List WData}{vals:List Value}(hpre:l.row.toRowW.claim.pre args=true)(hwl:WellAll P h vals args):∃a vs ns,vals=[Ay a]/\args=[WData.list (ns.map WData.int)]/\h.get? a=some { cls:=.type "list",data:=.seq vs.toArray }/\Ez vs ns/\ns.length<=n:=by
 have hsh:WShape.hasAll [] args [.list .int]=true:=(pre_splitW hpre).1
 have hc:l.pre.holds [] { args:=args }=true:=(pre_splitW hpre).2
 obtain ⟨d,r,rfl,h1,h2⟩:=hasAllW_cons hsh
 obtain rfl:=hasAllW_nil h2
 obtain ⟨xs,rfl,h3⟩:=hasW_list h1
 obtain ⟨ns,rfl⟩:=items_int h3
 have hlen:ns.length<=n:=by
  unfold OpenLaw.pre at hc
  have h4:(WTm.not (.lt (.lit (.int (n:Int))) (.len (.arg 0)))).holds [] { args:=[.list (ns.map .int)] }=true:=by
   have h4:=(holds_andW hc).1
   rw[hn] at h4
   exact h4
  have h5:=condW_of h4 (w_not (w_lt w_lit (w_len_list (w_arg rfl))))
  rw[Af] at h5
  refine Nat.le_of_not_lt λq=>?_
  have q':(n:Int)<((ns.length:Nat):Int):=by omega
  first
   | (rw[decide_eq_true q'] at h5; exact absurd h5 (by decide))
   | (simp at h5; omega)
 cases hwl with
 | cons w1 w2 =>
  cases w2
  cases w1 with
  | list ho hall=>exact ⟨_,_,ns,rfl,rfl,ho,aA ns _ hall,hlen⟩
theorem xE(l:OpenLaw)(args:List WData):l.row.toRowW.claim.post args (.bool true) args=true :=
 postW_of (r:=l.row.toRowW) (X:=(true == true))
  (show WShape.has [] (.bool true) .bool=true by first | rfl | decide | simp [WShape.has,WShape.arms,WShape.armsAll])
  (show (WTm.eq .res (.lit (.bool true))).value [] { args:=args,res:=some (.bool true),after:=args }=some (.bool (true == true)) from w_eq_bool (w_res rfl) w_lit) rfl
theorem attach_call{l:OpenLaw}{n:Nat}{q:Bl}{loose:List Str}{XP:(Str->Option Value)->Heap->Prop}{YP:World->Heap->Prop}{d:DefRec}(hn:l.most=some n)(hdf:d.params.defaults=[])(call:∀(w:World) (s₀ s₁:Ai) (mg mb:Str->Option Value) (fa:Addr) (o:Obj) (pm cd doc:Value) (a:Addr) (vs:List Value) (ns:List Int),Ground q loose [] XP w s₀ mg mb s₁.heap->YP w s₁.heap->s₁.heap.get? fa=some o->o.data=.func (docDef d.name d.params d.body d.scope pm cd doc)->s₁.heap.CodeRec cd d.name->mg d.name=some (.ref fa)->s₁.heap.get? a=some { cls:=.type "list",data:=.seq vs.toArray }->Ez vs ns->ns.length<=n->s₁.gens=#[]->Hb (model l.prog w) callerA (.call (.ref fa) ⟨[.ref a],[]⟩) (λr s'=>r=.ok (.ret (.bool true))/\OldK s₁.heap s'.heap/\s'.os=s₁.os/\Wm s'.gens) s₁):WalkO q loose XP YP l.row.toRowW d [] (λf vs=>PySem.call f vs):=by
 intro w s₀ s₁ mg mb G Y fa o pm cd doc dV kV ho hd hcd hD hmg hg args vals as hpre hlay hrd hwl hlo
 obtain rfl:dV=.none:=Dflts.none hD hdf
 obtain rfl:kV=.none:=Dflts.noKw hD
 obtain ⟨a,vs,ns,rfl,rfl,hobj,hints,hlen⟩:=wV hn hpre hwl
 refine enter_call (Nz (call w s₀ s₁ mg mb fa o pm cd doc a vs ns G Y ho (fd_plain hd) hcd hmg hobj hints hlen hg) λr s' hq=>?_)
 obtain ⟨rfl,h2,h3,h4⟩:=hq
 exact ⟨.inl ⟨.bool true,.bool true,[],rfl,λ_=>rfl,.bool true,xE l _,λ_=>⟨Ea,λ_ hm=>(nomatch hm)⟩⟩,h2,h3,h4⟩
end Att
namespace L2
open PySem PySem.Spec PyProof.Rows
theorem fA:∀{vs:List Value} {ns:List Int},Ez vs ns->Gf (ns.map V.int) vs
 | _,_,.nil=>.nil
 | _,_,.cons n t h=>.cons ⟨t,rfl⟩ (fA h)
def BK(H:Hp):Prop:=∀b,H b=none\/∃o xs,H b=some (.frz o (.lst xs))
def Qe(s:Stmt):Arguments:=match s with
 | .FunctionDef _ a _ _ _ _ _ _ _ _=>a
 | _=>{ posonlyargs:=[],args:=[],vararg:=none,kwonlyargs:=[],kw_defaults:=[],kwarg:=none,defaults:=[] }
def Kt(s:Stmt):List Stmt:=match s with
 | .FunctionDef _ _ b _ _ _ _ _ _ _=>b
 | _=>[]
def Cf(s:Stmt):Scope:=match s with
 | .FunctionDef _ _ _ _ _ _ sc _ _ _=>sc
 | _=>{ kind:=.function,names:=[],isGenerator:=false,isCoroutine:=false }
abbrev La:wA:=λ_ _ _ _ _ _=>False
abbrev E0:XK:=λ_ _ _=>False
theorem Jl{X:Cx}:Rr La X E0:=λ_ _ _ _ _ _ _ h=>h.elim
structure Fun(K:PySem.W.Frag)(x qual:Str)(st:Stmt)(f:Addr)(fd:Dc):Prop where
 ex:∃(oc:Value) (od:Option Addr) (kV doc pm:Value) (an:Option Addr) (cdv ct:Value) (osl:Array (Option Value)),
  fd=PySem.W.fnOf x qual (Qe st) (Kt st) (Cf st) .none kV doc pm an cdv ct/\K.lookup f=some ⟨oc,od,.func fd,osl⟩/\PySem.W.codeIn K cdv qual=true
 kp:PySem.W.keepIn K (.ref f)=true
section
variable{P:Bl}{w:World}{K:PySem.W.Frag}{mg:Str->Option Value}{base:Heap}
theorem Fun.ok{x qual:Str}{st:Stmt}{f:Addr}{fd:Dc}{N ps:List Str}{k:Nat}{sp:Sp}(F:Fun K x qual st f fd)(S:FnScope N ps (Cf st))(len:∀vs H Q E,sp vs H Q E->vs.length=ps.length)(hbody:∀(cdv:Value) (A:Ce) (outer:List Env) (s:Ai) (H:Hp) (vs:List V) (Q:VK) (E:XK),Room k (A.deeper (Sv qual (Cf st) s.heap.objs.size f cdv))->sp vs H Q E->∃t,tQ (Qo La P w K mg base N qual (Cf st) f cdv A outer s H E).nox (Kt st) t/\t { nx:=λ_ H'=>Q .non H',rt:=Q } (start N vs) H):FnOk P w K mg base La (k+1) f fd ps sp:=by
 w_pre d9
 refine EF lk hcd S len λA outer s H vs Q E hr hsp=>?_
 obtain ⟨t,h,q⟩:=hbody cdv A outer s H vs Q E hr hsp
 exact ⟨t,h.nox,q⟩
theorem Fun.binds{x qual:Str}{st:Stmt}{f:Addr}{fd:Dc}{ps:List Str}(F:Fun K x qual st f fd)(h:∀(kV doc pm:Value) (an:Option Addr) (cdv ct:Value) (us:List Value),us.length=ps.length->bindArgs (PySem.W.fnOf x qual (Qe st) (Kt st) (Cf st) .none kV doc pm an cdv ct) ⟨us,[]⟩=pure (ps.zip us)):Binds K fd ps []:=by
 w_pre d9
 exact .all (h kV doc pm an cdv ct)
theorem x5{x qual:Str}{st:Stmt}{f:Addr}{oc:Value}{od an:Option Addr}{osl:Array (Option Value)}{kV doc pm cdv ct:Value}(l:K.lookup f=some ⟨oc,od,.func (PySem.W.fnOf x qual (Qe st) (Kt st) (Cf st) .none kV doc pm an cdv ct),osl⟩)(c:PySem.W.codeIn K cdv qual=true)(k:PySem.W.keepIn K (.ref f)=true):Fun K x qual st f (PySem.W.fnOf x qual (Qe st) (Kt st) (Cf st) .none kV doc pm an cdv ct):=⟨⟨oc,od,kV,doc,pm,an,cdv,ct,osl,rfl,l,c⟩,k⟩
end
theorem fV{n:Nat}(h:n<=1000):n<Aq:=Nat.lt_of_le_of_lt h (by decide)
section
variable{X:Cx}
theorem pv(i:Nat){x:Str}{pos:Pos}(hN:X.N[i]? = some x:=by rfl)(hv:GV X.env.scope x:=by first | exact Dw rfl | exact Or.inr (Dw rfl) | exact Or.inr (Or.inr rfl))(hd:(x == ("__debug__" : Str))=false:=by decide)(hcd:(x == ("__classdict__" : Str))=false:=by decide):PE X (.Name x pos) (dU i):=AG hN hv hd hcd
end
theorem nX{A B:Prop}(h:B):if false=true then A else B:=by
 w_pre p7
 exact h
theorem lZ{A B:Prop}(h:A):if true=true then A else B:=by
 w_pre j7
 exact h
theorem EL{c A B:Prop}[Decidable c](h1:c->A)(h2:¬ c->B):if c then A else B:=by
 by_cases h:c
 ·rw[if_pos h]
  exact h1 h
 ·rw[if_neg h]
  exact h2 h
def Sx(H H':Hp):Prop:=∀b o,H b=some o->H' b=some o
theorem Sx.refl(H:Hp):Sx H H:=λ_ _ h=>h
theorem Sx.trans{H H1 H2:Hp}(a:Sx H H1)(b:Sx H1 H2):Sx H H2:=λc o h=>b c o (a c o h)
theorem Sx.free{H H':Hp}(e:Sx H H'){l:Addr}(h:H' l=Qv):H l=Qv:=by
 cases q:H l with
 | none=>rfl
 | some o =>
  rw[e l o q] at h
  cases h
end L2
namespace Nd
open PySem PySem.Spec PyProof.Rows L2
def Dm(X:Cx)(scope:Scope)(cl:List (Str×Addr))(N:List Str)(fp:List Addr)(s:Ai)(H:Hp):Cx where
 prog:=X.prog
 w:=X.w
 K:=X.K
 mg:=X.mg
 base:=X.base
 A:=X.A
 N:=N
 s₀:=s
 H₀:=H
 env:=Vj scope (Ek (s.heap.objs.size+1) scope.names cl) s.heap.objs.size X.env
 outer:=X.stack
 stack:=X.stack
 ex:=fp
 fn:=λy=>decide (scope.names.lookup y=some Eb)
 calm:=X.calm
 pn:=[]
 xe:=λ_ _=>False
section
variable{prog:Bl}{w:World}{A:Ce}{R:Result->Ai->Prop}{s:Ai}
theorem Vr{elt tg iter:Expr}{ifs:List Expr}{scope:Scope}{pos:Pos}{it acc:Value}{env:Env}(J:Nat->Ai->Prop) (turn:∀n s,J n s->wpAny (model prog w) A (Hi it) (λr s1=>match r with
    | none=>R (.ok .next) s1
    | some v=>wpAny (model prog w) A (Ho tg it v) (λ_ s2=>wpAny (model prog w) A (Oc tg env v) (λ_ s3 =>
      wpAny (model prog w) A (forIn ifs true λc r=>if r=true then (do
        let ok <- isTrue c env (eval c env)
        pure (El ok)) else pure (El r)) (λok s4 =>
       if ok=true then
        wpAny (model prog w) A (eval elt env) (λx s5=>wpAny (model prog w) A (call (.builtin "list.append") [acc,x]) (λ_ s6=>∃m,m<n/\J m s6) (λ_ _=>False) s5) (λ_ _=>False) s4
       else ∃m,m<n/\J m s4) (λ_ _=>False) s3) (λ_ _=>False) s2) (λ_ _=>False) s1) (λ_ _=>False) s)
  (n:Nat) (h:J n s):Hb (model prog w) A (.compLoop (.ListComp elt [⟨tg,iter,ifs,0⟩] scope pos) 0 it acc env) R s:=by
 w_pre r8
 show wpAny _ A (Sem.onRaise (compTurn (.ListComp elt [⟨tg,iter,ifs,0⟩] scope pos) 0 it acc env) (λx=>do noteFrame x env; theTreesLotGoes x)) _ _ s
 refine wpAny_noted ?_
 rw[compTurn_list]
 w_pre f7
 cases r with
 | none=>exact Ac h1
 | some v =>
  w_pre i4
  refine Aa (Cq h3 (λok s4 h4=>?_) λ_ _ z=>z.elim)
  cases ok with
  | false=>exact Ac ⟨rfl,h4⟩
  | true =>
   refine Aa (Aa (Cq h4 (λx s5 h5=>?_) λ_ _ z=>z.elim))
   w_pre a9
end
section
variable{X:Cx}{pins:List (Addr×Obj)}{σ:L2.St}{H:Hp}{s:Ai}{scope:Scope}{cl:List (Str×Addr)}{fp:List Addr}{N:List Str}
def bS(scope:Scope)(x:Str):Prop:=scope.names.lookup x=some .local\/scope.names.lookup x=some .cell
structure CompScope(X:Cx)(scope:Scope)(cl:List (Str×Addr))(x:Str)(ys:List Str)(js:List Nat):Prop where
 clos:closureFor scope X.env=pure cl
 oc:(∀y∈scope.names,y.2≠.cell)\/∃z:Str,(∀n,Ek n scope.names []=[(z,n)])/\scope.names.lookup z=some .cell/\∀y∈scope.names,y.2=.cell->y.1=z
 kind:scope.kind=.function
 locs:∀y∈scope.names,y.2=.local->scope.names.lookup y.1=some .local
 own:bS scope x
 sub:∀y c,cl.lookup y=some c->X.env.cells.lookup y=some c
 has_:(scope.names.all λy=>!(y.2 == En) || (cl.lookup y.1).isSome)=true
 nd:(x::ys).Nodup
 len:ys.length=js.length
 at_:∀(k:Nat) (y:Str) (j:Nat),ys[k]? = some y->js[k]? = some j->X.N[j]? = some y/\scope.names.lookup y=some .free/\(X.env.kindOf y=some .cell\/X.env.kindOf y=some .free)
theorem CompScope.has{x:Str}{ys:List Str}{js:List Nat}(C:CompScope X scope cl x ys js):∀y∈scope.names,y.2=.free->(cl.lookup y.1).isSome=true:=λy hy e=>by
 have h:=List.all_eq_true.mp C.has_ y hy
 rw[e] at h
 simpa using h
theorem Tz{env:Env}{y:Str}{k:Qm}:∀{names:List (Str×Qm)},
  (names.map λ(n,k)=>if (k == En && env.scope.kind == .function && env.kindOf n == some .cell) then (n,Eb) else (n,k)).lookup y=some k ->
  ∃k0,names.lookup y=some k0/\(k=k0\/(k0=.free/\k=.cell))
 | [],h=>by simp at h
 | (n,k0)::r,h=>by
  have ih:=@Tz env y k r
  rw[Ao] at h
  w_pre n7
  ·have h':Mj y ((n,Eb)::(r.map λ(n,k)=>if (k == En && env.scope.kind == .function && env.kindOf n == some .cell) then (n,Eb) else (n,k)))=some k:=by
    simpa [hc] using h
   cases hy:y == n with
   | true =>
    rw[Cb,hy] at h'
    have e:k=Eb:=by simpa using h'.symm
    refine ⟨k0,by rw[Cb,hy],.inr ⟨?_,e⟩⟩
    rw[Fu,Fu] at hc
    exact Dz hc.1.1
   | false =>
    w_pre d3
  ·have h':Mj y ((n,k0)::(r.map λ(n,k)=>if (k == En && env.scope.kind == .function && env.kindOf n == some .cell) then (n,Eb) else (n,k)))=some k:=by
    simpa [hc] using h
   cases hy:y == n with
   | true =>
    rw[Cb,hy] at h'
    exact ⟨k0,by rw[Cb,hy],.inl (by simpa using h'.symm)⟩
   | false =>
    w_pre d3
theorem Xb{env:Env}{y:Str}:∀{names:List (Str×Qm)},names.lookup y=some .free ->
  (names.map λ(n,k)=>if (k == En && env.scope.kind == .function && env.kindOf n == some .cell) then (n,Eb) else (n,k)).lookup y=some .cell \/
  (names.map λ(n,k)=>if (k == En && env.scope.kind == .function && env.kindOf n == some .cell) then (n,Eb) else (n,k)).lookup y=some .free
 | [],h=>by simp at h
 | (n,k0)::r,h=>by
  have ih:=@Xb env y r
  show Mj y ((if (k0 == En && env.scope.kind == .function && env.kindOf n == some .cell)=true then (n,Eb) else (n,k0))::_)=_\/Mj y ((if (k0 == En && env.scope.kind == .function && env.kindOf n == some .cell)=true then (n,Eb) else (n,k0))::_)=_
  w_pre n7
  ·rw[if_pos hc]
   cases hy:y == n with
   | true=>exact .inl (by rw[Cb,hy])
   | false =>
    rw[Cb,hy] at h
    simp only[Cb,hy]
    exact ih h
  ·rw[if_neg hc]
   cases hy:y == n with
   | true =>
    rw[Cb,hy] at h
    exact .inr (by rw[Cb,hy]; exact h)
   | false =>
    rw[Cb,hy] at h
    simp only[Cb,hy]
    exact ih h
theorem Gw{α β:Type}[BEq α][LawfulBEq α]{y:α}{k:β}:∀{l:List (α×β)},l.lookup y=some k->(y,k)∈l
 | [],h=>by simp at h
 | (n,v)::r,h=>by
  cases hy:y == n with
  | true =>
   rw[Cb,hy] at h
   have e:=Dz hy
   subst e
   have : v=k:=by simpa using h
   subst this
   exact Ab
  | false =>
   rw[Cb,hy] at h
   exact Ad _ (Gw h)
end
theorem iD{a c:Nat}(h:c<a)(e:c=a+1):False:=by omega
theorem Jm:∀(names:List (Str×Qm)) (n:Nat) (acc:List (Str×Addr)),Ek n names acc=Ek n names []++acc
 | [],_,_=>rfl
 | (x,k)::r,n,acc=>by
  unfold Ek
  by_cases h:(k == Eb)=true
  ·rw[if_pos h,if_pos h,Jm r _ ((x,n)::acc),Jm r _ [(x,n)],Bt]; rfl
  ·rw[if_neg h,if_neg h]; exact Jm r n acc
theorem Pj:∀(names:List (Str×Qm)) (n:Nat) (acc:List (Str×Addr)),(∀y∈names,y.2≠.cell)->Ek n names acc=acc
 | [],_,_,_=>rfl
 | (x,k)::r,n,acc,h=>by
  unfold Ek
  rw[if_neg (by have:=h (x,k) Ab; simpa using this)]
  exact Pj r n acc λy hy=>h y (Ad _ hy)
theorem Wy{env:Env}{y:Str}:∀{names:List (Str×Qm)},names.lookup y=some .cell->(names.map λ(n,k)=>if (k == En && env.scope.kind == .function && env.kindOf n == some .cell) then (n,Eb) else (n,k)).lookup y=some .cell
 | [],h=>by simp at h
 | (n,k0)::r,h=>by
  have ih:=@Wy env y r
  show Mj y ((if (k0 == En && env.scope.kind == .function && env.kindOf n == some .cell)=true then (n,Eb) else (n,k0))::_)=_
  w_pre n7
  ·rw[if_pos hc]
   cases hy:y == n with
   | true=>rw[Cb,hy]
   | false=>rw[Cb,hy] at h ⊢; exact ih h
  ·rw[if_neg hc]
   cases hy:y == n with
   | true=>rw[Cb,hy] at h ⊢; exact h
   | false=>rw[Cb,hy] at h ⊢; exact ih h
theorem Ol{env:Env}{scope:Scope}{x:Str}(o:bS scope x):Loc (relabel scope env) x:=o.imp lookup_relabel_local Wy
section
variable{X:Cx}{scope:Scope}{cl:List (Str×Addr)}{x y:Str}{ys:List Str}{js:List Nat}{n c:Nat}{N:List Str}{fp:List Addr}{s:Ai}{H:Hp}
theorem Rp(o:bS scope x):(Dm X scope cl N fp s H).fn x=true\/(Dm X scope cl N fp s H).env.scope.names.lookup x=some .local:=by
 rcases o with o | o
 ·exact .inr (lookup_relabel_local o)
 ·exact .inl (decide_eq_true o)
theorem CompScope.split(C:CompScope X scope cl x ys js)(h:(Ek n scope.names cl).lookup y=some c):cl.lookup y=some c\/(c=n/\Ek 0 scope.names []=[(y,0)]/\Ek n scope.names []=[(y,n)]/\scope.names.lookup y=some .cell):=by
 rcases C.oc with o | ⟨z,o1,o2,_⟩
 ·rw[Pj _ _ _ o] at h; exact .inl h
 ·rw[Jm,o1] at h
  have h2:Mj y ((z,n)::cl)=some c:=h
  rw[Cb] at h2
  cases e:y == z with
  | true =>
   rw[e] at h2
   have ec:c=n:=(Bv h2).symm
   have ey:=Dz e
   subst ey
   exact .inr ⟨ec,o1 0,o1 n,o2⟩
  | false=>rw[e] at h2; exact .inl h2
theorem CompScope.find(C:CompScope X scope cl x ys js)(h:cl.lookup y=some c)(hy:scope.names.lookup y=some .free):(Ek n scope.names cl).lookup y=some c:=by
 rcases C.oc with o | ⟨z,o1,o2,_⟩
 ·rw[Pj _ _ _ o]; exact h
 ·rw[Jm,o1]
  show Mj y ((z,n)::cl)=some c
  rw[Cb]
  cases e:y == z with
  | true=>rw[Dz e,o2] at hy; cases hy
  | false=>exact h
theorem CompScope.cellAt(C:CompScope X scope cl x ys js)(hy:(y,Eb)∈scope.names):(Ek n scope.names cl).lookup y=some n:=by
 rcases C.oc with o | ⟨z,o1,o2,o3⟩
 ·exact absurd rfl (o _ hy)
 ·have ez:y=z:=o3 _ hy rfl
  subst ez
  rw[Jm,o1]
  show Mj y ((y,n)::cl)=some n
  rw[Cb,beq_self_eq_true]
theorem Re{M:Model}{A:Ce}{E:Value->Ai->Prop}{Q:Env->Ai->Prop}(C:CompScope X scope cl x ys js)(hQ:∀h4,h4.Ns s.heap.objs.size (λ_=>none)->(∀b u,s.heap.get? b=some u->h4.get? b=some u)->(∀z n,Ek (s.heap.objs.size+1) scope.names []=[(z,n)]->h4.IsCell n none)->Q (newEnv scope s.heap.objs.size X.env.globals (Ek (s.heap.objs.size+1) scope.names cl) X.env.qual none .none (some X.env) builtinsNs) { s with heap:=h4,toks:=s.toks+([]:List (Str×Value)).length }):wpAny M A (Ly scope X.env.globals cl [] X.env.qual none .none (some X.env)) Q E s:=by
 simp only[Ly,Option.isSome_some,if_true]
 refine Aa (wpAny_alloc (Aa (wpAny_layCells _ (λx k cs=>by cases e:k == Eb <;> simp [e]) _ _ _ _ ?_)))
 have hsz:({ s with heap:=s.heap.push { cls:=.type "dict",data:=.dict #[] } }:Ai).heap.objs.size=s.heap.objs.size+1:=Fc ..
 rw[hsz]
 refine Aa (Ac (Ac (hQ _ ((Heap.Ns.new s.heap (.type "dict")).keeps (pushCells_keeps _ _)) (λb u e=>pushCells_keeps _ _ b u (Ah _ e)) λz n e=>?_)))
 have ok:=(cellsFrom_ok scope.names (s.heap.push { cls:=.type "dict",data:=.dict #[] }) 0 [] ⟨λ_ _ hm=>(nomatch hm),Ea⟩ (Di _)).empty z n
 rw[show (s.heap.push { cls:=.type "dict",data:=.dict #[] }).objs.size=s.heap.objs.size+1 from hsz,e] at ok
 exact (ok (Al.mpr rfl)).1
end
section
variable{X:Cx}{pins:List (Addr×Obj)}{σ:L2.St}{H:Hp}{s:Ai}{scope:Scope}{cl:List (Str×Addr)}{fp:List Addr}{N:List Str}
theorem L9{x:Str}{ys:List Str}{js:List Nat}(C:CompScope X scope cl x ys js)(I:Inv X pins σ H s)(hf:∀b∈fp,Ml X pins H b)(ho:∀b∈fp,∃o,s.heap.get? b=some o):(Dm X scope cl N fp s H).Ok where
 mod:=I.ok.mod
 kind:=C.kind
 glob:=I.ok.glob
 blt:=I.ok.blt
 above:=Aj _
 inj:=λy z c h1 h2=>by
  have lt:∀y,cl.lookup y=some c->c<s.heap.objs.size:=λy e=>let ⟨_,q⟩:=I.cell y c (C.sub y c e); q.lt
  rcases C.split h1 with h1 | ⟨e1,a1,_⟩
  ·rcases C.split h2 with h2 | ⟨e2,_⟩
   ·exact I.ok.inj y z c (C.sub y c h1) (C.sub z c h2)
   ·exact (iD (lt y h1) e2).elim
  ·rcases C.split h2 with h2 | ⟨e2,a2,_⟩
   ·exact (iD (lt z h2) e1).elim
   ·rw[a1] at a2
    simpa using a2
 has:=λy hy=>by
  have key:∀k,(k=Eb\/k=En)->(Vj scope cl s.heap.objs.size X.env).kindOf y=some k->∃c,(Ek (s.heap.objs.size+1) scope.names cl).lookup y=some c:=by
   intro k hk e
   obtain ⟨k0,e0,e1⟩:=Tz (names:=scope.names) (env:=X.env) (y:=y) (k:=k) e
   have m:=Gw e0
   by_cases hk0:k0=.cell
   ·exact ⟨_,C.cellAt (hk0▸m)⟩
   have hfree:k0=.free:=by
    rcases e1 with e1 | e1
    ·subst e1
     rcases hk with hk | hk
     ·exact absurd hk hk0
     ·exact hk
    ·exact e1.1
   obtain ⟨c,hc⟩:=Rl.mp (C.has _ m hfree)
   exact ⟨c,C.find hc (hfree▸e0)⟩
  rcases hy with hy | hy
  ·exact key _ (.inl rfl) hy
  ·exact key _ (.inr rfl) hy
 cab:=λy c h e=>by
  have h:scope.names.lookup y=some .cell:=of_decide_eq_true h
  have:=(C.cellAt (n:=s.heap.objs.size+1) (Gw h)).symm.trans e
  show s.heap.objs.size<=c
  have:=Bv this
  omega
 hd:=I.ok.hd
 frames:=I.ok.frames
 stk:=.inl rfl
 exf:=λb hb=>by
  obtain ⟨o,e⟩:=ho b hb
  refine ⟨Bu (Au e),λy c hc=>?_⟩
  rcases C.split hc with hc | ⟨hc,_⟩
  ·exact (hf b hb).2.2.2.2.1 y c (C.sub y c hc)
  ·exact λz=>iD (Au e) (z.symm.trans hc)
 bs:=I.bs
 bsz:=Cg I.ok.bsz I.sz
 noex:=λb o e hb=>by
  rcases (hf b hb).2.2.2.1 with z | z
  ·exact I.ok.noex b o e z
  ·exact absurd (Cc (Au (I.ok.bs b o e).1) z) (Fo _)
 exfs:=λb hb z=>by
  rcases An.mp (I.stkSub b z) with e | e
  ·exact (hf b hb).2.1 e
  ·exact (hf b hb).2.2.1 e
 funs:=I.stack
 frf:=I.stkFree
def Ei(σ:L2.St)(js:List Nat):L2.St:=js.map λj=>(σ[j]?).join
theorem Ph{x:Str}{pre ys:List Str}{js:List Nat}{h1:Heap}{tk:Nat}{m1:Str->Option Value}(C:CompScope X scope cl x ys js)(I:Inv X pins σ H s)(hf:∀b∈fp,Ml X pins H b)(ho:∀b∈fp,∃o,s.heap.get? b=some o)(hns:h1.Ns s.heap.objs.size m1)(keep:∀b u,s.heap.get? b=some u->h1.get? b=some u)(new:∀z n,Ek (s.heap.objs.size+1) scope.names []=[(z,n)]->h1.IsCell n none):Inv (Dm X scope cl (pre++ys) fp s H) [] (pre.map (λ_=>none)++Ei σ js) H { s with heap:=h1,toks:=tk }:=by
 have cellK:∀y c,cl.lookup y=some c->∃v,s.heap.IsCell c v/\h1.IsCell c v:=λy c e=>by
  obtain ⟨v,o,q,d⟩:=I.cell y c (C.sub y c e)
  exact ⟨v,⟨o,q,d⟩,o,keep c o q,d⟩
 refine ⟨L9 C I hf ho,rfl,I.bare,Un.kept keep,⟨m1,hns,λi y v e1 e2 _=>?_⟩,λy c e=>?_,I.hok.fresh (Aj _),λy c e=>?_,λp hp=>?_,I.hok.kept keep,?_⟩
 ·have e2:(pre.map (λ_=>(none:Option V))++Ei σ js)[i]? = some (some v):=e2
  have e1:(pre++ys)[i]? = some y:=e1
  by_cases hi:i<pre.length
  ·rw[Li (by rw[Af]; exact hi),Bj] at e2
   cases q:pre[i]? with
   | none=>rw[q] at e2; cases e2
   | some z=>rw[q] at e2; cases e2
  ·rw[Gh (by rw[Af]; omega),Af] at e2
   rw[Gh (by omega)] at e1
   have e1':=e1
   have e2':=e2
   generalize i - pre.length=k at e1' e2'
   unfold Ei at e2'
   rw[Bj] at e2'
   cases ej:js[k]? with
   | none=>rw[ej] at e2'; simp at e2'
   | some j =>
    rw[ej] at e2'
    have e3:(σ[j]?).join=some v:=by simpa using e2'
    have e4:σ[j]? = some (some v):=by
     cases q:σ[j]? with
     | none=>rw[q] at e3; simp at e3
     | some z=>rw[q] at e3; simp at e3; rw[e3]
    obtain ⟨a1,a2,a3⟩:=C.at_ k y j e1' ej
    obtain ⟨m0,_,hl⟩:=I.loc
    have vis:GV X.env.scope y:=a3.elim (λa3=>.inr (.inl a3)) λa3=>.inr (.inr a3)
    obtain ⟨u,r,l⟩:=hl j y v a1 e4 vis
    refine ⟨u,r,?_⟩
    rcases l with ⟨k1,_⟩ | ⟨_,c,hc,hv⟩
    ·rcases a3 with a3 | a3 <;> rw[k1] at a3 <;> cases a3
    ·obtain ⟨c',hc'⟩:=Rl.mp (C.has _ (Gw a2) rfl)
     have ec:c'=c:=by
      have:=C.sub y c' hc'
      rw[hc] at this
      exact (Bv this).symm
     subst ec
     obtain ⟨o,q,d⟩:=hv
     exact .inr ⟨Xb a2,c',C.find hc' a2,o,keep c' o q,d⟩
 ·rcases C.split e with e | ⟨e,_,e',_⟩
  ·obtain ⟨v,_,z⟩:=cellK y c e
   exact ⟨v,z⟩
  ·exact ⟨_,e▸new _ _ e'⟩
 ·rcases C.split e with e | ⟨e,_⟩
  ·exact I.freeC y c (C.sub y c e)
  ·exact I.hok.fresh (by omega)
 ·cases (show p∈([]:List (Addr×Obj)) from hp)
 ·show (pre.map (λ_=>(none:Option V))++Ei σ js).length=(pre++ys).length
  simp [Ei,C.len]
end
section
variable{X:Cx}
def GJ(J:It)(js:List Nat)(tc:TT)(te:TE)(σ:L2.St)(H1:Hp)(Q:VK):Prop:=∀D,H1 D=none->∃W:Nat->Nat->Hp->Prop,(∃m,W 0 m (upd H1 D (.lst [])))/\∀i m H,W i m H ->
 (J.stop i H/\Q (.ref D) H)\/(J.go i H/\∀x H',J.yld i H x H'->∃(N1:Hp->Prop) (N2:VK),(∀H2,N1 H2->∃m',m'<m/\W (i+1) m' H2) /\
  (∀y H3,N2 y H3->∃acc,H3 D=some (.lst acc)/\acc.length<Aq/\∃m',m'<m/\W (i+1) m' (upd H3 D (.lst (acc++[y])))) /\
  tc (some x::Ei σ js) H' λc H2=>if c=true then te (some x::Ei σ js) H2 N2 else N1 H2)
def lP(wi:TI)(js:List Nat)(tc:TT)(te:TE):TE:=λσ H Q=>wi σ H λJ H1=>GJ J js tc te σ H1 Q
def Ry:TT:=λ_ H Q=>Q true H
def qN(X:Cx)(ifs:List Expr)(t:TT):Prop :=
 ∀(pins:List (Addr×Obj)) (s:Ai) (σ:L2.St) (H:Hp) (Q:Bool->Hp->Prop),Inv X pins σ H s->t σ H Q ->
  wpAny (model X.prog X.w) X.A (forIn ifs true λc r=>if r=true then (do
   let ok <- isTrue c X.env (eval c X.env)
   pure (El ok)) else pure (El r)) (TP X pins σ Q) X.xe s
theorem yA:qN X [] Ry:=λpins s σ H Q I h=>wpAny_tests_nil ⟨H,I,h⟩
theorem R5{c:Expr}{t:TT}(h:PT X c t):qN X [c] t:=λpins s σ H Q I q=>wpAny_tests_one (h pins s σ H Q I q)
theorem tN{elt iter:Expr}{x:Str}{px pos:Pos}{ifs:List Expr}{scope:Scope}{cl:List (Str×Addr)}{ys:List Str}{js:List Nat}{wi:TI}{tc:TT}{te:TE}(C:CompScope X scope cl x ys js)(hc:X.calm=true)(hi:PI X (.Name x px) iter wi)(ht:∀fp s H,qN (Dm X scope cl (x::ys) fp s H) ifs tc)(he:∀fp s H,PE (Dm X scope cl (x::ys) fp s H) elt te)(hs:∀x,Cz iter X.env x=pure x:=by intro _; rfl):PE X (.ListComp elt [⟨.Name x px,iter,ifs,0⟩] scope pos) (lP wi js tc te):=by
 w_pre w6
 rw[eval_ListComp]
 w_pre x7
 w_pre a
 have loop:∀s5:Ai,s5={ s3 with heap:=h4,toks:=s3.toks+([]:List (Str×Value)).length } ->
   Hb (model X.prog X.w) X.A (.compLoop (.ListComp elt [⟨.Name x px,iter,ifs,0⟩] scope pos) 0 (.ref it) (.ref s2.heap.objs.size) (Vj scope (Ek (s3.heap.objs.size+1) scope.names cl) s3.heap.objs.size X.env))
    (compPost (model X.prog X.w) X.A X.xe none (EP X pins σ Q) (.ref s2.heap.objs.size) s3.heap.objs.size) s5:=by
  w_pre v0
  w_pre b
  w_pre c
 w_pre l7
end
theorem Fe{H:Hp}{p:Addr}(h:H p=none)(o:HO):Sx H (upd H p o):=λb u q=>by rw[Dr (Fn q h)]; exact q
theorem Gu{α:Type}{xs:List α}{i:Nat}{x:α}(h:xs[i]? = some x):xs.take (i+1)=xs.take i++[x]:=by
 rw[List.take_succ,h]; rfl
mutual
inductive RdV (K:PySem.W.Frag) (H:Hp):V->Ae->Prop
 | non:RdV K H .non .none
 | bl (b:Bool):RdV K H (.bl b) (.bool b)
 | int (i:Int):RdV K H (.int i) (.int i)
 | str (x:Str):RdV K H (.str x) (.str x)
 | lst {a:Addr} {xs:List V} {ds:List Ae}:Pe K H a xs->RdVs K H xs ds->RdV K H (.ref a) (.list ds)
 | tup {a:Addr} {xs:List V} {ds:List Ae}:Ta K H a xs->RdVs K H xs ds->RdV K H (.ref a) (.tuple ds)
inductive RdVs (K:PySem.W.Frag) (H:Hp):List V->List Ae->Prop
 | nil:RdVs K H [] []
 | cons {x:V} {d:Ae} {xs:List V} {ds:List Ae}:RdV K H x d->RdVs K H xs ds->RdVs K H (x::xs) (d::ds)
end
mutual
def FC(b:Nat):Ae->Prop
 | .none=>True
 | .bool _=>True
 | .int i=>i.natAbs<10 ^ b
 | .str x=>(reprText x).length<=b
 | .list xs=>gR b xs
 | .tuple xs=>gR b xs
 | .dict _=>False
def gR(b:Nat):List Ae->Prop
 | []=>True
 | x::xs=>FC b x/\gR b xs
end
mutual
def R9:Ae->Nat
 | .list xs=>cE xs+1
 | .tuple xs=>cE xs+1
 | _=>1
def cE:List Ae->Nat
 | []=>0
 | x::xs=>R9 x+cE xs
end
theorem pD(ns:List Int):Bs (ns.map Ax)=0:=by
 induction ns with
 | nil=>rfl
 | cons n ns ih=>simp only[Ao,Bs,Dy,ih,Nat.max_self]
theorem Zk{m:Nat}:∀{xs:List Ae},(∀x∈xs,x.depth<=m)->Bs xs<=m
 | [],_=>by simp [Bs]
 | x::xs,h=>by
  have h1:=h x (Ab ..)
  have h2:=Zk (xs:=xs) λy hy=>h y (Ad _ hy)
  simp only[Bs]
  omega
section
variable{X:Cx}{pins:List (Addr×Obj)}{σ:L2.St}{H:Hp}{s:Ai}{A:Ce}
theorem Yx(A:Ce):A.in1.units<=A.units+1:=by
 first | exact Aj _ | (simp [Around.in1]; done) | (unfold Around.in1; simp)
theorem mG:Mc X (.builtin "isinstance") (λxs H Q=>∃x n t b,xs=[x,.ty n]/\TyOf X.K H x t/\PySem.W.kitOne X.K t (.type n)=some b/\Q (.bl b) H):=by
 w_pre x6
 obtain ⟨x,n,t,b,rfl,ty,e,q⟩:=h
 obtain ⟨u,v,rfl,ru,rv⟩:=vals2 r
 cases rv
 exact vG I ru ty e λtk=>⟨.bl b,H,I.tok _,rfl,q⟩
end
section
variable{prog:Bl}{w:World}{A:Ce}{E:Value->Ai->Prop}{s:Ai}
theorem Vb{t sl:Addr}{items:Array Value}{vl vu:Value}{lo hi:Option Int}{Q:Value->Ai->Prop}(ht:IsTup s.heap t items)(hs:s.heap.IsSliceOf sl vl vu .none)(pl:Zs vl lo)(pu:Zs vu hi)(hw:HT.sIx items.size 0 lo=0/\HT.sIx items.size items.size hi=items.size)(h:Q (.ref t) s):wpAny (model prog w) A (Uc (.ref t) (.ref sl)) Q E s:=by
 w_pre i
 refine Aa (HT.sliceApplied_gen hs pl pu ?_)
 rw[hw.1,hw.2]
 have hyes:(((0:Nat):Int) == 0 && (1:Int) == 1 && (items.size - 0) == items.size)=true:=by simp
 show wpAny _ _ (if (((0:Nat):Int) == 0 && (1:Int) == 1 && (items.size - 0) == items.size)=true then _ else _) _ _ s
 rw[if_pos hyes]
 have hex:∀{R:Bool->Ai->Prop},R true s->wpAny (model prog w) A.in1 (Xy (.ref t)) R E s:=λ{R} hR=>by
  unfold Xy
  refine Aa (Hv ht.typeIs (Ac ?_))
  rw[beq_self_eq_true]
  exact hR
 refine Aa (hex ?_)
 w_pre j7
 exact Aa (Kk (Ac ⟨_,rfl,Ac h⟩))
end
mutual
def Ef:Ae->Ae->Bool
 | .none,.none=>true
 | .bool a,.bool b=>a == b
 | .bool a,.int b=>(if a then 1 else 0) == b
 | .int a,.bool b=>a == (if b then 1 else 0)
 | .int a,.int b=>a == b
 | .str a,.str b=>a == b
 | .list xs,.list ys=>Pl xs ys
 | .tuple xs,.tuple ys=>Pl xs ys
 | _,_=>false
def Pl:List Ae->List Ae->Bool
 | [],[]=>true
 | x::xs,y::ys=>Ef x y && Pl xs ys
 | _,_=>false
end
theorem Pg:∀ds es:List Ae,(((Cd (min ds.length es.length)).all λj=>Ef (ds.getD j .none) (es.getD j .none)) && ds.length == es.length)=Pl ds es
 | [],[]=>by simp [Pl]
 | [],_::_=>by simp [Pl]
 | _::_,[]=>by simp [Pl]
 | d::ds,e::es=>by
  have ih:=Pg ds es
  rw[Pl,<- ih]
  have h1:min (d::ds).length (e::es).length=min ds.length es.length+1:=by simp only[Bm]; omega
  rw[h1,List.range_succ_eq_map,List.all_cons,List.all_map]
  have h2:((d::ds).length == (e::es).length)=(ds.length == es.length):=by
   rw[Bool.eq_iff_iff]; simp
  rw[h2,Bool.and_assoc]
  rfl
section
variable{X:Cx}{pins:List (Addr×Obj)}{σ:L2.St}{H:Hp}{s:Ai}{K:PySem.W.Frag}
mutual
theorem RdV.eqD_self:∀{v:V} {d:Ae},RdV K H v d->Ef d d=true
 | _,_,.non=>by simp [Ef]
 | _,_,.bl b=>by simp [Ef]
 | _,_,.int i=>by simp [Ef]
 | _,_,.str x=>by simp [Ef]
 | _,_,.lst _ h=>by rw[Ef]; exact RdVs.eqDs_self h
 | _,_,.tup _ h=>by rw[Ef]; exact RdVs.eqDs_self h
theorem RdVs.eqDs_self:∀{vs:List V} {ds:List Ae},RdVs K H vs ds->Pl ds ds=true
 | _,_,.nil=>by simp [Pl]
 | _,_,.cons h t=>by rw[Pl,RdV.eqD_self h,RdVs.eqDs_self t]; rfl
end
theorem nW(I:Inv X pins σ H s){a:Addr}{xs ys:List V}(h1:Pe X.K H a xs)(h2:Ta X.K H a ys):False:=by
 obtain ⟨us,_,p1,_⟩:=I.list h1
 obtain ⟨vs,_,p2,_⟩:=I.tuple h2
 exact SeqAt.ne_of_list_tuple p1.isList p2 rfl
mutual
theorem RdV.det(I:Inv X pins σ H s):∀{v:V} {d e:Ae},RdV X.K H v d->RdV X.K H v e->d=e
 | _,_,_,.non,h=>by cases h; rfl
 | _,_,_,.bl b,h=>by cases h; rfl
 | _,_,_,.int i,h=>by cases h; rfl
 | _,_,_,.str x,h=>by cases h; rfl
 | _,_,_,.lst q r,h=>by
  cases h with
  | lst q' r' =>
   have e:=I.list_inj q q'
   subst e
   rw[RdVs.det I r r']
  | tup q' r'=>exact (nW I q q').elim
 | _,_,_,.tup q r,h=>by
  cases h with
  | lst q' r'=>exact (nW I q' q).elim
  | tup q' r' =>
   have e:=I.tuple_inj q q'
   subst e
   rw[RdVs.det I r r']
theorem RdVs.det(I:Inv X pins σ H s):∀{vs:List V} {ds es:List Ae},RdVs X.K H vs ds->RdVs X.K H vs es->ds=es
 | _,_,_,.nil,h=>by cases h; rfl
 | _,_,_,.cons r t,h=>by
  cases h with
  | cons r' t'=>rw[RdV.det I r r',RdVs.det I t t']
end
theorem RdVs.length:∀{vs:List V} {ds:List Ae},RdVs K H vs ds->vs.length=ds.length
 | _,_,.nil=>rfl
 | _,_,.cons _ t=>by rw[Bm,Bm,RdVs.length t]
theorem Yt{A:Ce}{n:Nat}(h:A.units+(n+1)<cLine):A.in1.units+n<cLine:=by
 have:=Yx A
 omega
theorem mZ{A:Ce}{a b:Addr}{us vs:List Value}{ds es:List Ae}(p1:PlainL s.heap a us.toArray)(p2:PlainL s.heap b vs.toArray)(l1:us.length=ds.length)(l2:vs.length=es.length)(hu:A.units<cLine)(he:∀j (h1:j<us.length) (h2:j<vs.length),Nj A.in1 s us[j] vs[j] (Ef (ds.getD j .none) (es.getD j .none))):SeqAt.RcAt A s (.ref a) (.ref b) (Pl ds es):=by
 rw[<- Pg]
 by_cases hl:ds.length=es.length
 ·have hs:us.toArray.size=vs.toArray.size:=by rw[Ar,Ar,l1,l2,hl]
  have h:=SeqAt.RcAt.lists (A:=A) (e:=λj=>Ef (ds.getD j .none) (es.getD j .none)) p1.isList p2.isList hs hu (λj h1 h2=>by simpa using he j (by simpa using h1) (by simpa using h2))
  w_pre a3
 ·have hs:(us.toArray.size != vs.toArray.size)=true:=by rw[Ar,Ar,l1,l2]; simpa using hl
  have h:=SeqAt.RcAt.lists_lengths (A:=A) p1.isList p2.isList hs hu
  w_pre e3
theorem eQ{A:Ce}{a b:Addr}{us vs:List Value}{ds es:List Ae}(p1:IsTup s.heap a us.toArray)(p2:IsTup s.heap b vs.toArray)(l1:us.length=ds.length)(l2:vs.length=es.length)(hu:A.units<cLine)(he:∀j (h1:j<us.length) (h2:j<vs.length),Nj A.in1 s us[j] vs[j] (Ef (ds.getD j .none) (es.getD j .none))):SeqAt.RcAt A s (.ref a) (.ref b) (Pl ds es):=by
 rw[<- Pg]
 have h:=SeqAt.RcAt.tuples (A:=A) (e:=λj=>Ef (ds.getD j .none) (es.getD j .none)) (show s.heap.IsTuple a us.toArray from p1) (show s.heap.IsTuple b vs.toArray from p2) hu (λj h1 h2=>by simpa using he j (by simpa using h1) (by simpa using h2))
 rw[Ar,Ar,l1,l2] at h
 exact h
mutual
theorem zE(I:Inv X pins σ H s):∀{A:Ce} {x y:V} {d e:Ae} {u v:Value},RdV X.K H x d->RdV X.K H y e->RelV x u->RelV y v->A.units+d.depth<cLine->Nj A s u v (Ef d e)
 | A,_,_,_,_,_,_,.non,h,ru,rv,hu=>by
  w_pre s4
  cases h with
  | non=>cases rv; rw[Ef]; exact SeqAt.EqAt.same _
  | bl b=>cases rv; rw[Ef]; exact SeqAt.EqAt.none_bool b; all_goals simp
  | int b=>obtain ⟨t,rfl⟩:=rv; rw[Ef]; exact SeqAt.EqAt.none_int b t; all_goals simp
  | str b=>obtain ⟨t,rfl⟩:=rv; rw[Ef]; exact SeqAt.EqAt.none_str b t; all_goals simp
  | lst q r=>cases rv; obtain ⟨us,_,p,_⟩:=I.list q; rw[Ef]; exact SeqAt.EqAt.none_list p.isList hu'; all_goals simp
  | tup q r=>cases rv; obtain ⟨us,_,p,_⟩:=I.tuple q; rw[Ef]; exact SeqAt.EqAt.none_tuple p hu'; all_goals simp
 | A,_,_,_,_,_,_,.bl a,h,ru,rv,hu=>by
  w_pre s4
  cases h with
  | non=>cases rv; rw[Ef]; exact SeqAt.EqAt.bool_none a; all_goals simp
  | bl b=>cases rv; rw[Ef]; exact SeqAt.EqAt.bool_bool a b
  | int b=>obtain ⟨t,rfl⟩:=rv; rw[Ef]; exact SeqAt.EqAt.bool_int a b t
  | str b=>obtain ⟨t,rfl⟩:=rv; rw[Ef]; exact SeqAt.EqAt.bool_str a b t; all_goals simp
  | lst q r=>cases rv; obtain ⟨us,_,p,_⟩:=I.list q; rw[Ef]; exact SeqAt.EqAt.bool_list a p.isList hu'; all_goals simp
  | tup q r=>cases rv; obtain ⟨us,_,p,_⟩:=I.tuple q; rw[Ef]; exact SeqAt.EqAt.bool_tuple a p hu'; all_goals simp
 | A,_,_,_,_,_,_,.int a,h,ru,rv,hu=>by
  w_pre p6
  cases h with
  | non=>cases rv; rw[Ef]; exact SeqAt.EqAt.int_none a t'; all_goals simp
  | bl b=>cases rv; rw[Ef]; exact SeqAt.EqAt.int_bool a t' b
  | int b=>obtain ⟨t,rfl⟩:=rv; rw[Ef]; exact SeqAt.EqAt.int_int a t' b t
  | str b=>obtain ⟨t,rfl⟩:=rv; rw[Ef]; exact SeqAt.EqAt.int_str a t' b t; all_goals simp
  | lst q r=>cases rv; obtain ⟨us,_,p,_⟩:=I.list q; rw[Ef]; exact SeqAt.EqAt.int_list a t' p.isList hu'; all_goals simp
  | tup q r=>cases rv; obtain ⟨us,_,p,_⟩:=I.tuple q; rw[Ef]; exact SeqAt.EqAt.int_tuple a t' p hu'; all_goals simp
 | A,_,_,_,_,_,_,.str a,h,ru,rv,hu=>by
  w_pre p6
  cases h with
  | non=>cases rv; rw[Ef]; exact SeqAt.EqAt.str_none a t'; all_goals simp
  | bl b=>cases rv; rw[Ef]; exact SeqAt.EqAt.str_bool a t' b; all_goals simp
  | int b=>obtain ⟨t,rfl⟩:=rv; rw[Ef]; exact SeqAt.EqAt.str_int a t' b t; all_goals simp
  | str b=>obtain ⟨t,rfl⟩:=rv; rw[Ef]; exact SeqAt.EqAt.str_str a t' b t
  | lst q r=>cases rv; obtain ⟨us,_,p,_⟩:=I.list q; rw[Ef]; exact SeqAt.EqAt.str_list a t' p.isList hu'; all_goals simp
  | tup q r=>cases rv; obtain ⟨us,_,p,_⟩:=I.tuple q; rw[Ef]; exact SeqAt.EqAt.str_tuple a t' p hu'; all_goals simp
 | A,_,_,_,_,_,_,@RdV.lst _ _ a xs ds q r,h,ru,rv,hu=>by
  w_pre s4
  obtain ⟨us,r1,p,_⟩:=I.list q
  cases h with
  | non=>cases rv; rw[Ef]; exact SeqAt.EqAt.list_none p.isList hu'; all_goals simp
  | bl b=>cases rv; rw[Ef]; exact SeqAt.EqAt.list_bool b p.isList hu'; all_goals simp
  | int b=>obtain ⟨t,rfl⟩:=rv; rw[Ef]; exact SeqAt.EqAt.list_int b t p.isList hu'; all_goals simp
  | str b=>obtain ⟨t,rfl⟩:=rv; rw[Ef]; exact SeqAt.EqAt.list_str b t p.isList hu'; all_goals simp
  | @lst b ys es q2 rr2 =>
   cases rv
   obtain ⟨vs,r2,p2,_⟩:=I.list q2
   rw[Ef]
   by_cases hab:a=b
   ·subst hab
    have e:=I.list_inj q q2
    w_pre h3
   ·refine SeqAt.EqAt.of_refs hab (mZ p p2 (r1.length.symm.trans r.length) (r2.length.symm.trans rr2.length) hu' λj h1 h2=>?_)
    w_pre u8
  | tup q2 rr2=>cases rv; obtain ⟨vs,_,p2,_⟩:=I.tuple q2; rw[Ef]; exact SeqAt.EqAt.list_tuple p.isList p2 hu'; all_goals simp
 | A,_,_,_,_,_,_,@RdV.tup _ _ a xs ds q r,h,ru,rv,hu=>by
  w_pre s4
  obtain ⟨us,r1,p,_⟩:=I.tuple q
  cases h with
  | non=>cases rv; rw[Ef]; exact SeqAt.EqAt.tuple_none p hu'; all_goals simp
  | bl b=>cases rv; rw[Ef]; exact SeqAt.EqAt.tuple_bool b p hu'; all_goals simp
  | int b=>obtain ⟨t,rfl⟩:=rv; rw[Ef]; exact SeqAt.EqAt.tuple_int b t p hu'; all_goals simp
  | str b=>obtain ⟨t,rfl⟩:=rv; rw[Ef]; exact SeqAt.EqAt.tuple_str b t p hu'; all_goals simp
  | lst q2 rr2=>cases rv; obtain ⟨vs,_,p2,_⟩:=I.list q2; rw[Ef]; exact SeqAt.EqAt.tuple_list p p2.isList hu'; all_goals simp
  | @tup b ys es q2 rr2 =>
   cases rv
   obtain ⟨vs,r2,p2,_⟩:=I.tuple q2
   rw[Ef]
   by_cases hab:a=b
   ·subst hab
    have e:=I.tuple_inj q q2
    w_pre h3
   ·refine SeqAt.EqAt.of_refs hab (eQ p p2 (r1.length.symm.trans r.length) (r2.length.symm.trans rr2.length) hu' λj h1 h2=>?_)
    w_pre u8
theorem Rv(I:Inv X pins σ H s):∀{A:Ce} {xs ys:List V} {ds es:List Ae} {us vs:List Value},RdVs X.K H xs ds->RdVs X.K H ys es->Gf xs us->Gf ys vs->A.units+Bs ds<cLine->∀j (h1:j<us.length) (h2:j<vs.length),Nj A s us[j] vs[j] (Ef (ds.getD j .none) (es.getD j .none))
 | _,_,_,_,_,_,_,.nil,_,r1,_,_=>λj h1 h2=>by cases r1; exact absurd h1 (Ka _)
 | A,_,_,_,_,_,_,@RdVs.cons _ _ x d xs ds r t,h,r1,r2,hu=>λj h1 h2=>by
  cases h with
  | nil=>cases r2; exact absurd h2 (Ka _)
  | cons r' t' =>
   cases r1 with
   | cons ra ta =>
    cases r2 with
    | cons rb tb =>
     have hm:A.units+d.depth<cLine/\A.units+Bs ds<cLine:=by
      simp only[Bs] at hu
      omega
     cases j with
     | zero=>simpa using zE I r r' ra rb hm.1
     | succ j=>simpa using Rv I t t' ta tb hm.2 j (by simpa using h1) (by simpa using h2)
end
end
section
variable{X:Cx}{pins:List (Addr×Obj)}{σ:L2.St}{H:Hp}{s:Ai}{K:PySem.W.Frag}
theorem wB{A:Ce}{a b:Addr}{us vs:List Value}{ds es:List Ae}(p1:PlainL s.heap a us.toArray)(p2:PlainL s.heap b vs.toArray)(l1:us.length=ds.length)(l2:vs.length=es.length)(hu:A.units<cLine)(he:∀j (h1:j<us.length) (h2:j<vs.length),Nj A.in1 s us[j] vs[j] (Ef (ds.getD j .none) (es.getD j .none))):SeqAt.RcNeAt A s (.ref a) (.ref b) (!Pl ds es):=by
 rw[<- Pg]
 by_cases hl:ds.length=es.length
 ·have hs:us.toArray.size=vs.toArray.size:=by rw[Ar,Ar,l1,l2,hl]
  have h:=SeqAt.RcNeAt.lists (A:=A) (e:=λj=>Ef (ds.getD j .none) (es.getD j .none)) p1.isList p2.isList hs hu (λj h1 h2=>by simpa using he j (by simpa using h1) (by simpa using h2))
  w_pre a3
 ·have hs:(us.toArray.size != vs.toArray.size)=true:=by rw[Ar,Ar,l1,l2]; simpa using hl
  have h:=SeqAt.RcNeAt.lists_lengths (A:=A) p1.isList p2.isList hs hu
  w_pre e3
theorem pN{A:Ce}{a b:Addr}{us vs:List Value}{ds es:List Ae}(p1:IsTup s.heap a us.toArray)(p2:IsTup s.heap b vs.toArray)(l1:us.length=ds.length)(l2:vs.length=es.length)(hu:A.units<cLine)(he:∀j (h1:j<us.length) (h2:j<vs.length),Nj A.in1 s us[j] vs[j] (Ef (ds.getD j .none) (es.getD j .none))):SeqAt.RcNeAt A s (.ref a) (.ref b) (!Pl ds es):=by
 rw[<- Pg]
 have h:=SeqAt.RcNeAt.tuples (A:=A) (e:=λj=>Ef (ds.getD j .none) (es.getD j .none)) (show s.heap.IsTuple a us.toArray from p1) (show s.heap.IsTuple b vs.toArray from p2) hu (λj h1 h2=>by simpa using he j (by simpa using h1) (by simpa using h2))
 rw[Ar,Ar,l1,l2] at h
 exact h
end
section
variable{X:Cx}
def EG(K:PySem.W.Frag):R2:=λx y H Q=>∃d e,RdV K H x d/\RdV K H y e/\d.depth<=60/\Q (.bl (Ef d e)) H
def FO(K:PySem.W.Frag):R2:=λx y H Q=>∃d e,RdV K H x d/\RdV K H y e/\d.depth<=60/\Q (.bl (!Ef d e)) H
theorem zP(hu:X.A.units+64<cLine):Xe X (Ie .Eq) (EG X.K):=by
 w_pre s2
 cases h1 with
 | non =>
  cases rx
  cases h2 with
  | non=>cases ry; rw[Ef] at q; exact SeqAt.RcAt.none_none _ _ _ _ ⟨.bl _,H,I,rfl,q⟩
  | bl b=>cases ry; rw[Ef] at q; exact SeqAt.RcAt.none_bool b _ _ _ _ ⟨.bl _,H,I,rfl,q⟩; all_goals simp
  | int b=>obtain ⟨t,rfl⟩:=ry; rw[Ef] at q; exact SeqAt.RcAt.none_int b t _ _ _ _ ⟨.bl _,H,I,rfl,q⟩; all_goals simp
  | str b=>obtain ⟨t,rfl⟩:=ry; rw[Ef] at q; exact SeqAt.RcAt.none_str b t _ _ _ _ ⟨.bl _,H,I,rfl,q⟩; all_goals simp
  | @lst b ys es q2 rr2=>cases ry; obtain ⟨vs,r2,p2,_⟩:=I.list q2; rw[Ef] at q; exact SeqAt.RcAt.none_list p2.isList hu' _ _ _ _ ⟨.bl _,H,I,rfl,q⟩; all_goals simp
  | @tup b ys es q2 rr2=>cases ry; obtain ⟨vs,r2,p2,_⟩:=I.tuple q2; rw[Ef] at q; exact SeqAt.RcAt.none_tuple p2 hu' _ _ _ _ ⟨.bl _,H,I,rfl,q⟩; all_goals simp
 | bl a =>
  cases rx
  cases h2 with
  | non=>cases ry; rw[Ef] at q; exact SeqAt.RcAt.bool_none a _ _ _ _ ⟨.bl _,H,I,rfl,q⟩; all_goals simp
  | bl b=>cases ry; rw[Ef] at q; exact SeqAt.RcAt.bool_bool a b _ _ _ _ ⟨.bl _,H,I,rfl,q⟩
  | int b=>obtain ⟨t,rfl⟩:=ry; rw[Ef] at q; exact SeqAt.RcAt.bool_int a b t _ _ _ _ ⟨.bl _,H,I,rfl,q⟩
  | str b=>obtain ⟨t,rfl⟩:=ry; rw[Ef] at q; exact SeqAt.RcAt.bool_str a b t _ _ _ _ ⟨.bl _,H,I,rfl,q⟩; all_goals simp
  | @lst b ys es q2 rr2=>cases ry; obtain ⟨vs,r2,p2,_⟩:=I.list q2; rw[Ef] at q; exact SeqAt.RcAt.bool_list a p2.isList hu' _ _ _ _ ⟨.bl _,H,I,rfl,q⟩; all_goals simp
  | @tup b ys es q2 rr2=>cases ry; obtain ⟨vs,r2,p2,_⟩:=I.tuple q2; rw[Ef] at q; exact SeqAt.RcAt.bool_tuple a p2 hu' _ _ _ _ ⟨.bl _,H,I,rfl,q⟩; all_goals simp
 | int a =>
  w_pre c9
  cases h2 with
  | non=>cases ry; rw[Ef] at q; exact SeqAt.RcAt.int_none a t' _ _ _ _ ⟨.bl _,H,I,rfl,q⟩; all_goals simp
  | bl b=>cases ry; rw[Ef] at q; exact SeqAt.RcAt.int_bool a t' b _ _ _ _ ⟨.bl _,H,I,rfl,q⟩
  | int b=>obtain ⟨t,rfl⟩:=ry; rw[Ef] at q; exact SeqAt.RcAt.int_int a t' b t _ _ _ _ ⟨.bl _,H,I,rfl,q⟩
  | str b=>obtain ⟨t,rfl⟩:=ry; rw[Ef] at q; exact SeqAt.RcAt.int_str a t' b t _ _ _ _ ⟨.bl _,H,I,rfl,q⟩; all_goals simp
  | @lst b ys es q2 rr2=>cases ry; obtain ⟨vs,r2,p2,_⟩:=I.list q2; rw[Ef] at q; exact SeqAt.RcAt.int_list a t' p2.isList hu' _ _ _ _ ⟨.bl _,H,I,rfl,q⟩; all_goals simp
  | @tup b ys es q2 rr2=>cases ry; obtain ⟨vs,r2,p2,_⟩:=I.tuple q2; rw[Ef] at q; exact SeqAt.RcAt.int_tuple a t' p2 hu' _ _ _ _ ⟨.bl _,H,I,rfl,q⟩; all_goals simp
 | str a =>
  w_pre c9
  cases h2 with
  | non=>cases ry; rw[Ef] at q; exact SeqAt.RcAt.str_none a t' _ _ _ _ ⟨.bl _,H,I,rfl,q⟩; all_goals simp
  | bl b=>cases ry; rw[Ef] at q; exact SeqAt.RcAt.str_bool a t' b _ _ _ _ ⟨.bl _,H,I,rfl,q⟩; all_goals simp
  | int b=>obtain ⟨t,rfl⟩:=ry; rw[Ef] at q; exact SeqAt.RcAt.str_int a t' b t _ _ _ _ ⟨.bl _,H,I,rfl,q⟩; all_goals simp
  | str b=>obtain ⟨t,rfl⟩:=ry; rw[Ef] at q; exact SeqAt.RcAt.str_str a t' b t _ _ _ _ ⟨.bl _,H,I,rfl,q⟩
  | @lst b ys es q2 rr2=>cases ry; obtain ⟨vs,r2,p2,_⟩:=I.list q2; rw[Ef] at q; exact SeqAt.RcAt.str_list a t' p2.isList hu' _ _ _ _ ⟨.bl _,H,I,rfl,q⟩; all_goals simp
  | @tup b ys es q2 rr2=>cases ry; obtain ⟨vs,r2,p2,_⟩:=I.tuple q2; rw[Ef] at q; exact SeqAt.RcAt.str_tuple a t' p2 hu' _ _ _ _ ⟨.bl _,H,I,rfl,q⟩; all_goals simp
 | @lst a xs ds qa r =>
  cases rx
  obtain ⟨us,r1,p,_⟩:=I.list qa
  cases h2 with
  | non=>cases ry; rw[Ef] at q; exact SeqAt.RcAt.list_none p.isList hu' _ _ _ _ ⟨.bl _,H,I,rfl,q⟩; all_goals simp
  | bl b=>cases ry; rw[Ef] at q; exact SeqAt.RcAt.list_bool b p.isList hu' _ _ _ _ ⟨.bl _,H,I,rfl,q⟩; all_goals simp
  | int b=>obtain ⟨t,rfl⟩:=ry; rw[Ef] at q; exact SeqAt.RcAt.list_int b t p.isList hu' _ _ _ _ ⟨.bl _,H,I,rfl,q⟩; all_goals simp
  | str b=>obtain ⟨t,rfl⟩:=ry; rw[Ef] at q; exact SeqAt.RcAt.list_str b t p.isList hu' _ _ _ _ ⟨.bl _,H,I,rfl,q⟩; all_goals simp
  | @lst b ys es q2 rr2=>cases ry; obtain ⟨vs,r2,p2,_⟩:=I.list q2; rw[Ef] at q; exact mZ p p2 (r1.length.symm.trans r.length) (r2.length.symm.trans rr2.length) hu' (λj h1 h2=>Rv I r rr2 r1 r2 (Yt (by simp only[Dy] at hd; omega)) j h1 h2) _ _ _ _ ⟨.bl _,H,I,rfl,q⟩
  | @tup b ys es q2 rr2=>cases ry; obtain ⟨vs,r2,p2,_⟩:=I.tuple q2; rw[Ef] at q; exact SeqAt.RcAt.list_tuple p.isList p2 hu' _ _ _ _ ⟨.bl _,H,I,rfl,q⟩; all_goals simp
 | @tup a xs ds qa r =>
  cases rx
  obtain ⟨us,r1,p,_⟩:=I.tuple qa
  cases h2 with
  | non=>cases ry; rw[Ef] at q; exact SeqAt.RcAt.tuple_none p hu' _ _ _ _ ⟨.bl _,H,I,rfl,q⟩; all_goals simp
  | bl b=>cases ry; rw[Ef] at q; exact SeqAt.RcAt.tuple_bool b p hu' _ _ _ _ ⟨.bl _,H,I,rfl,q⟩; all_goals simp
  | int b=>obtain ⟨t,rfl⟩:=ry; rw[Ef] at q; exact SeqAt.RcAt.tuple_int b t p hu' _ _ _ _ ⟨.bl _,H,I,rfl,q⟩; all_goals simp
  | str b=>obtain ⟨t,rfl⟩:=ry; rw[Ef] at q; exact SeqAt.RcAt.tuple_str b t p hu' _ _ _ _ ⟨.bl _,H,I,rfl,q⟩; all_goals simp
  | @lst b ys es q2 rr2=>cases ry; obtain ⟨vs,r2,p2,_⟩:=I.list q2; rw[Ef] at q; exact SeqAt.RcAt.tuple_list p p2.isList hu' _ _ _ _ ⟨.bl _,H,I,rfl,q⟩; all_goals simp
  | @tup b ys es q2 rr2=>cases ry; obtain ⟨vs,r2,p2,_⟩:=I.tuple q2; rw[Ef] at q; exact eQ p p2 (r1.length.symm.trans r.length) (r2.length.symm.trans rr2.length) hu' (λj h1 h2=>Rv I r rr2 r1 r2 (Yt (by simp only[Dy] at hd; omega)) j h1 h2) _ _ _ _ ⟨.bl _,H,I,rfl,q⟩
theorem Z3(hu:X.A.units+64<cLine):Xe X (Ie .NotEq) (FO X.K):=by
 w_pre s2
 cases h1 with
 | non =>
  cases rx
  cases h2 with
  | non=>cases ry; rw[Ef] at q; exact SeqAt.RcNeAt.none_none _ _ _ _ ⟨.bl _,H,I,rfl,q⟩
  | bl b=>cases ry; rw[Ef] at q; exact SeqAt.RcNeAt.none_bool b _ _ _ _ ⟨.bl _,H,I,rfl,q⟩; all_goals simp
  | int b=>obtain ⟨t,rfl⟩:=ry; rw[Ef] at q; exact SeqAt.RcNeAt.none_int b t _ _ _ _ ⟨.bl _,H,I,rfl,q⟩; all_goals simp
  | str b=>obtain ⟨t,rfl⟩:=ry; rw[Ef] at q; exact SeqAt.RcNeAt.none_str b t _ _ _ _ ⟨.bl _,H,I,rfl,q⟩; all_goals simp
  | @lst b ys es q2 rr2=>cases ry; obtain ⟨vs,r2,p2,_⟩:=I.list q2; rw[Ef] at q; exact SeqAt.RcNeAt.none_list p2.isList hu' _ _ _ _ ⟨.bl _,H,I,rfl,q⟩; all_goals simp
  | @tup b ys es q2 rr2=>cases ry; obtain ⟨vs,r2,p2,_⟩:=I.tuple q2; rw[Ef] at q; exact SeqAt.RcNeAt.none_tuple p2 hu' _ _ _ _ ⟨.bl _,H,I,rfl,q⟩; all_goals simp
 | bl a =>
  cases rx
  cases h2 with
  | non=>cases ry; rw[Ef] at q; exact SeqAt.RcNeAt.bool_none a _ _ _ _ ⟨.bl _,H,I,rfl,q⟩; all_goals simp
  | bl b=>cases ry; rw[Ef] at q; exact SeqAt.RcNeAt.bool_bool a b _ _ _ _ ⟨.bl _,H,I,rfl,q⟩
  | int b=>obtain ⟨t,rfl⟩:=ry; rw[Ef] at q; exact SeqAt.RcNeAt.bool_int a b t _ _ _ _ ⟨.bl _,H,I,rfl,q⟩
  | str b=>obtain ⟨t,rfl⟩:=ry; rw[Ef] at q; exact SeqAt.RcNeAt.bool_str a b t _ _ _ _ ⟨.bl _,H,I,rfl,q⟩; all_goals simp
  | @lst b ys es q2 rr2=>cases ry; obtain ⟨vs,r2,p2,_⟩:=I.list q2; rw[Ef] at q; exact SeqAt.RcNeAt.bool_list a p2.isList hu' _ _ _ _ ⟨.bl _,H,I,rfl,q⟩; all_goals simp
  | @tup b ys es q2 rr2=>cases ry; obtain ⟨vs,r2,p2,_⟩:=I.tuple q2; rw[Ef] at q; exact SeqAt.RcNeAt.bool_tuple a p2 hu' _ _ _ _ ⟨.bl _,H,I,rfl,q⟩; all_goals simp
 | int a =>
  w_pre c9
  cases h2 with
  | non=>cases ry; rw[Ef] at q; exact SeqAt.RcNeAt.int_none a t' _ _ _ _ ⟨.bl _,H,I,rfl,q⟩; all_goals simp
  | bl b=>cases ry; rw[Ef] at q; exact SeqAt.RcNeAt.int_bool a t' b _ _ _ _ ⟨.bl _,H,I,rfl,q⟩
  | int b=>obtain ⟨t,rfl⟩:=ry; rw[Ef] at q; exact SeqAt.RcNeAt.int_int a t' b t _ _ _ _ ⟨.bl _,H,I,rfl,q⟩
  | str b=>obtain ⟨t,rfl⟩:=ry; rw[Ef] at q; exact SeqAt.RcNeAt.int_str a t' b t _ _ _ _ ⟨.bl _,H,I,rfl,q⟩; all_goals simp
  | @lst b ys es q2 rr2=>cases ry; obtain ⟨vs,r2,p2,_⟩:=I.list q2; rw[Ef] at q; exact SeqAt.RcNeAt.int_list a t' p2.isList hu' _ _ _ _ ⟨.bl _,H,I,rfl,q⟩; all_goals simp
  | @tup b ys es q2 rr2=>cases ry; obtain ⟨vs,r2,p2,_⟩:=I.tuple q2; rw[Ef] at q; exact SeqAt.RcNeAt.int_tuple a t' p2 hu' _ _ _ _ ⟨.bl _,H,I,rfl,q⟩; all_goals simp
 | str a =>
  w_pre c9
  cases h2 with
  | non=>cases ry; rw[Ef] at q; exact SeqAt.RcNeAt.str_none a t' _ _ _ _ ⟨.bl _,H,I,rfl,q⟩; all_goals simp
  | bl b=>cases ry; rw[Ef] at q; exact SeqAt.RcNeAt.str_bool a t' b _ _ _ _ ⟨.bl _,H,I,rfl,q⟩; all_goals simp
  | int b=>obtain ⟨t,rfl⟩:=ry; rw[Ef] at q; exact SeqAt.RcNeAt.str_int a t' b t _ _ _ _ ⟨.bl _,H,I,rfl,q⟩; all_goals simp
  | str b=>obtain ⟨t,rfl⟩:=ry; rw[Ef] at q; exact SeqAt.RcNeAt.str_str a t' b t _ _ _ _ ⟨.bl _,H,I,rfl,q⟩
  | @lst b ys es q2 rr2=>cases ry; obtain ⟨vs,r2,p2,_⟩:=I.list q2; rw[Ef] at q; exact SeqAt.RcNeAt.str_list a t' p2.isList hu' _ _ _ _ ⟨.bl _,H,I,rfl,q⟩; all_goals simp
  | @tup b ys es q2 rr2=>cases ry; obtain ⟨vs,r2,p2,_⟩:=I.tuple q2; rw[Ef] at q; exact SeqAt.RcNeAt.str_tuple a t' p2 hu' _ _ _ _ ⟨.bl _,H,I,rfl,q⟩; all_goals simp
 | @lst a xs ds qa r =>
  cases rx
  obtain ⟨us,r1,p,_⟩:=I.list qa
  cases h2 with
  | non=>cases ry; rw[Ef] at q; exact SeqAt.RcNeAt.list_none p.isList hu' _ _ _ _ ⟨.bl _,H,I,rfl,q⟩; all_goals simp
  | bl b=>cases ry; rw[Ef] at q; exact SeqAt.RcNeAt.list_bool b p.isList hu' _ _ _ _ ⟨.bl _,H,I,rfl,q⟩; all_goals simp
  | int b=>obtain ⟨t,rfl⟩:=ry; rw[Ef] at q; exact SeqAt.RcNeAt.list_int b t p.isList hu' _ _ _ _ ⟨.bl _,H,I,rfl,q⟩; all_goals simp
  | str b=>obtain ⟨t,rfl⟩:=ry; rw[Ef] at q; exact SeqAt.RcNeAt.list_str b t p.isList hu' _ _ _ _ ⟨.bl _,H,I,rfl,q⟩; all_goals simp
  | @lst b ys es q2 rr2=>cases ry; obtain ⟨vs,r2,p2,_⟩:=I.list q2; rw[Ef] at q; exact wB p p2 (r1.length.symm.trans r.length) (r2.length.symm.trans rr2.length) hu' (λj h1 h2=>Rv I r rr2 r1 r2 (Yt (by simp only[Dy] at hd; omega)) j h1 h2) _ _ _ _ ⟨.bl _,H,I,rfl,q⟩
  | @tup b ys es q2 rr2=>cases ry; obtain ⟨vs,r2,p2,_⟩:=I.tuple q2; rw[Ef] at q; exact SeqAt.RcNeAt.list_tuple p.isList p2 hu' _ _ _ _ ⟨.bl _,H,I,rfl,q⟩; all_goals simp
 | @tup a xs ds qa r =>
  cases rx
  obtain ⟨us,r1,p,_⟩:=I.tuple qa
  cases h2 with
  | non=>cases ry; rw[Ef] at q; exact SeqAt.RcNeAt.tuple_none p hu' _ _ _ _ ⟨.bl _,H,I,rfl,q⟩; all_goals simp
  | bl b=>cases ry; rw[Ef] at q; exact SeqAt.RcNeAt.tuple_bool b p hu' _ _ _ _ ⟨.bl _,H,I,rfl,q⟩; all_goals simp
  | int b=>obtain ⟨t,rfl⟩:=ry; rw[Ef] at q; exact SeqAt.RcNeAt.tuple_int b t p hu' _ _ _ _ ⟨.bl _,H,I,rfl,q⟩; all_goals simp
  | str b=>obtain ⟨t,rfl⟩:=ry; rw[Ef] at q; exact SeqAt.RcNeAt.tuple_str b t p hu' _ _ _ _ ⟨.bl _,H,I,rfl,q⟩; all_goals simp
  | @lst b ys es q2 rr2=>cases ry; obtain ⟨vs,r2,p2,_⟩:=I.list q2; rw[Ef] at q; exact SeqAt.RcNeAt.tuple_list p p2.isList hu' _ _ _ _ ⟨.bl _,H,I,rfl,q⟩; all_goals simp
  | @tup b ys es q2 rr2=>cases ry; obtain ⟨vs,r2,p2,_⟩:=I.tuple q2; rw[Ef] at q; exact pN p p2 (r1.length.symm.trans r.length) (r2.length.symm.trans rr2.length) hu' (λj h1 h2=>Rv I r rr2 r1 r2 (Yt (by simp only[Dy] at hd; omega)) j h1 h2) _ _ _ _ ⟨.bl _,H,I,rfl,q⟩
theorem yR{z z':V}{v:Value}(h:RelV z v)(h':RelV z' v):z=z':=by
 cases z <;> cases z' <;> simp only[L2.RelV] at h h' <;> first | rfl | (subst h; cases h'; rfl) | (subst h; cases h'; done) | (obtain ⟨t,rfl⟩:=h; obtain ⟨t',e⟩:=h'; cases e; rfl) | (obtain ⟨t,rfl⟩:=h; obtain ⟨t',e⟩:=h'; cases e; done) | (obtain ⟨t,rfl⟩:=h; cases h'; done) | (subst h; obtain ⟨t',e⟩:=h'; cases e)
open Classical in
noncomputable def Nv(K:PySem.W.Frag)(H:Hp)(d:Ae)(v:Value):Bool:=if h:∃e z,RdV K H z e/\RelV z v then Ef h.choose d else false
theorem kK{pins:List (Addr×Obj)}{σ:L2.St}{H:Hp}{s:Ai}(I:Inv X pins σ H s){d e:Ae}{z:V}{v:Value}(h:RdV X.K H z e)(r:RelV z v):Nv X.K H d v=Ef e d:=by
 unfold Nv
 have hx:∃e z,RdV X.K H z e/\RelV z v:=⟨e,z,h,r⟩
 rw[dif_pos hx]
 obtain ⟨z',h',r'⟩:=hx.choose_spec
 have ez:=yR r' r
 subst ez
 rw[RdV.det I h' h]
theorem Qz{pins:List (Addr×Obj)}{σ:L2.St}{H:Hp}{s:Ai}(I:Inv X pins σ H s){d:Ae}:∀{xs:List V} {ds:List Ae} {us:List Value},RdVs X.K H xs ds->Gf xs us->us.any (Nv X.K H d)=ds.any λe=>Ef e d
 | _,_,_,.nil,r=>by cases r; rfl
 | _,_,_,.cons h t,r=>by
  cases r with
  | cons r1 r2=>rw[Of,Of,kK I h r1,Qz I t r2]
theorem Rk{pins:List (Addr×Obj)}{σ:L2.St}{H:Hp}{s:Ai}(I:Inv X pins σ H s){A:Ce}{x:V}{d:Ae}{u:Value}(hx:RdV X.K H x d)(rx:RelV x u):∀{xs:List V} {ds:List Ae} {us:List Value},RdVs X.K H xs ds->Gf xs us->A.units+Bs ds<cLine->∀v∈us,Nj A s v u (Nv X.K H d v)
 | _,_,_,.nil,r,_=>λv hv=>by cases r; cases hv
 | _,_,_,@RdVs.cons _ _ y e ys es h t,r,hu=>λv hv=>by
  have hm:A.units+e.depth<cLine/\A.units+Bs es<cLine:=by
   simp only[Bs] at hu
   omega
  cases r with
  | cons r1 r2 =>
   rcases An.mp hv with rfl | hv
   ·rw[kK I h r1]; exact zE I h hx r1 rx hm.1
   ·exact Rk I hx rx t r2 hm.2 v hv
def W9(K:PySem.W.Frag)(neg:Bool):R2:=λx y H Q=>∃p xs d ds,y=.ref p/\(Pe K H p xs\/Ta K H p xs)/\RdV K H x d/\RdVs K H xs ds/\Bs ds<=60/\Q (.bl (if neg then !(ds.any λe=>Ef e d) else ds.any λe=>Ef e d)) H
theorem AU(hu:X.A.units+64<cLine):Xe X (Ie .In) (W9 X.K false):=by
 w_pre j0
 ·obtain ⟨its,r,pl,hz⟩:=I.list hq
  refine SeqAt.in_listAt (Nv X.K H d) pl.isList (λw hw=>Rk I hx rx hs r hu1 w (by simpa using hw)) ⟨.bl _,H,I,rfl,?_⟩
  w_pre d4
 ·obtain ⟨its,r,pl,hz⟩:=I.tuple hq
  refine SeqAt.in_tupleAt (Nv X.K H d) pl (λw hw=>Rk I hx rx hs r hu1 w (by simpa using hw)) ⟨.bl _,H,I,rfl,?_⟩
  w_pre d4
theorem wR(hu:X.A.units+64<cLine):Xe X (Ie .NotIn) (W9 X.K true):=by
 w_pre j0
 ·obtain ⟨its,r,pl,hz⟩:=I.list hq
  refine SeqAt.notIn_listAt (Nv X.K H d) pl.isList (λw hw=>Rk I hx rx hs r hu1 w (by simpa using hw)) ⟨.bl _,H,I,rfl,?_⟩
  w_pre d4
 ·obtain ⟨its,r,pl,hz⟩:=I.tuple hq
  refine SeqAt.notIn_tupleAt (Nv X.K H d) pl (λw hw=>Rk I hx rx hs r hu1 w (by simpa using hw)) ⟨.bl _,H,I,rfl,?_⟩
  w_pre d4
end
def IJ(K:PySem.W.Frag)(a:Addr):It :=
 ⟨λi H=>∃xs x,Pe K H a xs/\xs[i]? = some x,λi H x H'=>∃p y,x=.ref p/\H p=none/\H'=upd H p (.tup [.int i,y])/\∀xs,Pe K H a xs->xs[i]? = some y,λi H=>∃xs,Pe K H a xs/\xs.length<=i⟩
section
variable{X:Cx}{pins:List (Addr×Obj)}{σ:L2.St}{H:Hp}{s:Ai}{h':Heap}
theorem Sh{t':Nat}{fp:List Addr}(I:Inv X pins σ H s)(k:∀b o,b∉fp->s.heap.get? b=some o->h'.get? b=some o)(hf:∀b∈fp,Ml X pins H b):Inv X pins σ H { s with heap:=h',toks:=t' }:=by
 have nit:∀b u,H b=some u->b∉fp:=λb u e z=>by rw[(hf b z).1] at e; cases e
 refine I.step (g':=s.gens) (d':=s.drawn) (ch:=fp) (λb hb=>?_) (λb o _ _ hc e _=>k b o hc e) (λb o _ _ hc e _=>⟨o.slots,k b o hc e⟩) (λ_ _ _ _ n=>n)
  (λb o hc e=>⟨o,k b o hc e⟩) (λ_ _ e=>e) (λ_ _ _ e=>e) (λb ps e=>⟨#[],by rw[e]; simp⟩) (λm hm=>?_) (λb u e=>?_) I.bare
 ·obtain ⟨_,f1,_,f3,f4,f5⟩:=hf b hb
  exact ⟨f3,f1,f4,f5⟩
 ·obtain ⟨o,es,ep,ho,r⟩:=hm
  exact ⟨o,es,ep,k _ o (λz=>(hf _ z).2.1 rfl) ho,r⟩
 w_pre a1
end
theorem vT{P:Bl}{w:World}{K:PySem.W.Frag}{elts:List Expr}{k:Nat}{pos:Pos}(a e it:Addr)(ne:e≠it):Turn P w K (.Tuple elts k pos) (IJ K a) [e,it] e (λi h=>(∃old,IsEnum h e it ((i:Nat):Int) old)/\h.IsListIter it a i) where
 mem:=Ab
 obj:=λi h st b hb=>by
  obtain ⟨⟨old,he⟩,o,e1,c,d⟩:=st
  rcases An.mp hb with z | z
  ·subst z
   exact ⟨_,he,λv z=>by cases z⟩
  ·rw[Al.mp z]
   exact ⟨o,e1,λv z=>by rw[d] at z; cases z⟩
 keep:=λi h h' st kp=>⟨let ⟨old,he⟩:=st.1; ⟨old,kp e Ab _ he⟩,st.2.at λo q=>kp it (Ad _ Ab) o q⟩
 item:=by
  w_pre m0
  obtain ⟨⟨old,he⟩,hit⟩:=st
  have el:e<s.heap.objs.size:=Au he
  have il:it<s.heap.objs.size:=by obtain ⟨_,q,_⟩:=hit; exact Au q
  refine wpAny_pyNext_enum_item he hit p.isList (x:=u) (by simpa using hu) ne λh1 ho hit1 hT hsz hk=>⟨_,rfl,wpAny_letOwnedTupleGo_enum ho λh2 he2 hs2=>?_⟩
  have hs2':Ct e h1 h2:=hs2
  -- the pair laid,then the iterators turned
  have I1:Inv X pins σ (upd H s.heap.objs.size (.tup [.int i,x])) { s with heap:=s.heap.push { cls:=.type "tuple",data:=.seq #[.int i s.toks,u] } } :=
   I.laid (t':=s.toks) (λb o q=>Ah _ q) (Aj _) ⟨by show 2<=Aq; decide,[.int i s.toks,u],.cons ⟨_,rfl⟩ (.cons ru .nil),_,Ap _ rfl,rfl,0,rfl⟩
  have nT:∀b∈[e,it],b≠s.heap.objs.size:=λb hb=>by
   rcases An.mp hb with z | z
   ·rw[z]; exact Bu el
   ·rw[Al.mp z]; exact Bu il
  have fr:∀b∈[e,it],(upd H s.heap.objs.size (.tup [.int i,x])) b=none:=λb hb=>by rw[Dr (nT b hb)]; exact (hf b hb).1
  refine ⟨.ref s.heap.objs.size,_,Sh (fp:=[e,it]) (s:={ s with heap:=s.heap.push { cls:=.type "tuple",data:=.seq #[.int i s.toks,u] } }) (h':=h2) (t':=s.toks+1) I1 (λb o hb q=>?_) (λb hb=>⟨fr b hb,(hf b hb).2⟩),rfl,⟨_,x,rfl,I.hok.fresh (Aj _),rfl,λys hy=>by rw[I.list_inj hy hq]; exact hx⟩,⟨⟨u,?_⟩,?_⟩,fr⟩
  ·have nbe:b≠e:=λz=>hb (by rw[z]; exact Ab)
   have nbi:b≠it:=λz=>hb (by rw[z]; exact Ad _ Ab)
   refine (hs2'.2 b nbe).trans ?_
   by_cases hbT:b=s.heap.objs.size
   ·subst hbT
    have q':=(Ap s.heap (o:={ cls:=.type "tuple",data:=.seq #[.int i s.toks,u] }) rfl).symm.trans q
    rw[hT]
    exact q'
   ·refine hk b o nbe nbi ?_
    have q0:(s.heap.push { cls:=.type "tuple",data:=.seq #[.int i s.toks,u] }).get? b=some o:=q
    rcases Heap.get?_push_cases q0 with z | z
    ·exact absurd z.1 hbT
    ·exact z
  ·have : ((i+1:Nat):Int)=(i:Int)+1:=by omega
   rw[this]
   exact he2
  ·exact hit1.at λo q=>(hs2'.2 it (Ln ne)).trans q
 done:=by
  w_pre e1
  obtain ⟨⟨old,he⟩,hit⟩:=st
  have hl:=rv.length
  exact wpAny_pyNext_enum_end (I.ok.hd hc) he hit p.isList (by simp; omega) λh1 eb=>⟨rfl,Sh (fp:=[e,it]) (t':=s.toks) I (λb o hb q=>eb b o (λz=>hb (by rw[z]; exact Ad _ Ab)) q) hf⟩
 self:=λ_ _ _ _ _ st h=>let ⟨_,he⟩:=st.1; wpAny_pyIter_enum he h
section
variable{X:Cx}
def FW(K:PySem.W.Frag)(ta:TA):TI:=λσ H R=>ta σ H λvs H1=>∃a,vs=[.ref a]/\(∃xs,Pe K H1 a xs)/\R (IJ K a) H1
theorem J3{elts:List Expr}{k:Nat}{tp:Pos}{a:Expr}{ta:TA}{p pos:Pos}(hg:Gl X "enumerate")(hm:X.mg "enumerate" = none)(ha:PA X [a] ta)(hs:Bn [a] X.env=[(false,eval a X.env)]:=by rfl):PI X (.Tuple elts k tp) (.Call (.Name "enumerate" p) [a] [] pos) (FW X.K ta):=by
 w_pre q8
 refine Call_ (Si I hg hm (u:=.type "enumerate") (by decide +kernel) (Fi (Gb (ha pos pins s σ H _ I h) λus s1 ⟨vs,H1,I1,r1,q1⟩=>?_) hs rfl))
 obtain ⟨l,e,⟨xs,hq⟩,q⟩:=q1
 subst e
 obtain ⟨u,rfl,ru⟩:=vals1 r1
 cases ru
 obtain ⟨its,rv,pl,hz⟩:=I1.list hq
 refine call_enumerate_list pl.isList λh2 he hit hsz hk=>wpAny_pyIter_enum he ?_
 have fr:∀b∈[s1.heap.objs.size+1,s1.heap.objs.size],Ml X pins H1 b:=λb hb=>by
  rcases An.mp hb with z | z
  ·rw[z]; exact I1.fpOk (Ox _) (I1.hok.fresh (Ox _))
  ·rw[Al.mp z]; exact I1.fpOk (Aj _) (I1.hok.fresh (Aj _))
 exact ⟨s1.heap.objs.size+1,[s1.heap.objs.size+1,s1.heap.objs.size],_,_,H1,rfl,I1.kept (t':=s1.toks) hk,vT l _ _ (Nat.succ_ne_self _),⟨⟨_,he⟩,hit⟩,fr,q⟩
end
section
variable{X:Cx}
def W8(K:PySem.W.Frag)(J:It)(js:List Nat)(tc:TT)(te:TE)(σ:L2.St)(H1:Hp)(Q:VK):Prop:=∀D,H1 D=none->∃W:Nat->Nat->Hp->Prop,(∃m,W 0 m (upd H1 D (.lst [])))/\∀i m H,W i m H ->
 (J.stop i H/\Q (.ref D) H)\/(J.go i H/\∀x H',J.yld i H x H'->∃(t:Addr) (w1 w2:V),x=.ref t/\Ta K H' t [w1,w2]/\∃(N1:Hp->Prop) (N2:VK),(∀H2,N1 H2->∃m',m'<m/\W (i+1) m' H2) /\
  (∀y H3,N2 y H3->∃acc,H3 D=some (.lst acc)/\acc.length<Aq/\∃m',m'<m/\W (i+1) m' (upd H3 D (.lst (acc++[y])))) /\
  tc (some w1::some w2::Ei σ js) H' λc H2=>if c=true then te (some w1::some w2::Ei σ js) H2 N2 else N1 H2)
def yZ(K:PySem.W.Frag)(wi:TI)(js:List Nat)(tc:TT)(te:TE):TE:=λσ H Q=>wi σ H λJ H1=>W8 K J js tc te σ H1 Q
theorem xU{elt iter:Expr}{x x2:Str}{px px2 pt pos:Pos}{kt:Nat}{ifs:List Expr}{scope:Scope}{cl:List (Str×Addr)}{ys:List Str}{js:List Nat}{wi:TI}{tc:TT}{te:TE}(C:CompScope X scope cl x ys js)(own2:bS scope x2)(nd2:(x::x2::ys).Nodup)(hc:X.calm=true)(hi:PI X (.Tuple [.Name x px,.Name x2 px2] kt pt) iter wi)(ht:∀fp s H,qN (Dm X scope cl (x::x2::ys) fp s H) ifs tc)(he:∀fp s H,PE (Dm X scope cl (x::x2::ys) fp s H) elt te)(hs:∀x,Cz iter X.env x=pure x:=by intro _; rfl):PE X (.ListComp elt [⟨.Tuple [.Name x px,.Name x2 px2] kt pt,iter,ifs,0⟩] scope pos) (yZ X.K wi js tc te):=by
 w_pre d
 have I4:∀tk,Inv (Dm X scope cl (x::x2::ys) fp s3 (upd H2 s2.heap.objs.size (.lst []))) [] (none::none::Ei σ js) (upd H2 s2.heap.objs.size (.lst [])) { s3 with heap:=h4,toks:=tk }:=λtk=>Ph (pre:=[x,x2]) C I3 f3 o3 hns4 keep4 new4
 have st4:tn 0 h4:=T.keep 0 _ _ st3 λb hb o q=>keep4 b o q
 generalize hX':Dm X scope cl (x::x2::ys) fp s3 (upd H2 s2.heap.objs.size (.lst []))=X' at I4
 have eP:X'.prog=X.prog:=by rw[<- hX']; rfl
 have eW:X'.w=X.w:=by rw[<- hX']; rfl
 have eK:X'.K=X.K:=by rw[<- hX']; rfl
 have eA:X'.A=X.A:=by rw[<- hX']; rfl
 have eC:X'.calm=true:=by rw[<- hX']; exact hc
 have stat:∀{H':Hp},(∀b∈fp,H' b=none)->∀b∈fp,Ml X' [] H' b:=λ{H'} hn b hb=>by
  w_pre v1
 have loop:∀s5:Ai,s5={ s3 with heap:=h4,toks:=s3.toks+([]:List (Str×Value)).length } ->
   Hb (model X.prog X.w) X.A (.compLoop (.ListComp elt [⟨.Tuple [.Name x px,.Name x2 px2] kt pt,iter,ifs,0⟩] scope pos) 0 (.ref it) (.ref s2.heap.objs.size) (Vj scope (Ek (s3.heap.objs.size+1) scope.names cl) s3.heap.objs.size X.env))
    (compPost (model X.prog X.w) X.A X.xe none (EP X pins σ Q) (.ref s2.heap.objs.size) s3.heap.objs.size) s5:=by
  rintro s5 rfl
  refine Vr (λn s'=>∃i o o2 H',Inv X' [] (o::o2::Ei σ js) H' s'/\tn i s'.heap/\(∀b∈fp,H' b=none)/\W i n H') ?_ m0
   ⟨0,none,none,_,I4 _,st4,λb hb=>(f3 b hb).1,w0⟩
  rintro n s6 ⟨i,o,o2,H6,I6,st6,fr6,w6⟩
  w_pre b
  ·have hit:=T.item X' eP eW eK eC i [] s6 _ H6 (λ_ _=>False) I6 (stat fr6) st6 go
   w_pre k
   have g1:PG (Dm X scope cl (x::x2::ys) fp s3 (upd H2 s2.heap.objs.size (.lst []))) (.Tuple [.Name x px,.Name x2 px2] kt pt) (N5 X.K 2 (cT (Sr 0) (cT (Sr 1) M9))) :=
    jG (X:=Dm X scope cl (x::x2::ys) fp s3 (upd H2 s2.heap.objs.size (.lst []))) hc (Pf (Me (i:=0) (x:=x) nd2 rfl (Ol C.own) (Rp C.own)) (Pf (Me (i:=1) (x:=x2) nd2 rfl (Ol own2) (Rp own2)) aH))
   w_pre z1
   cases ok with
   | false =>
    w_pre f3
   | true =>
    rw[if_pos rfl] at q10 ⊢
    refine Gb (he fp s3 _ _ s10 _ _ _ I10 q10) λz s11 ⟨vz,H11,I11,r11,q11⟩=>?_
    obtain ⟨acc,ha,hz,m',hm,w11⟩:=hN2 _ _ q11
    refine Gb (Ow _ s11 _ H11 (.ref s2.heap.objs.size) [vz] (.ref s2.heap.objs.size) [z] (λ_ H'=>H'=upd H11 s2.heap.objs.size (.lst (acc++[vz]))) I11 rfl (.cons r11 .nil) ⟨_,acc,vz,rfl,rfl,ha,hz,rfl⟩) λ_ s12 ⟨_,H12,I12,_,e12⟩=>?_
    subst e12
    exact again I12 hm w11
 w_pre l7
end
section
variable{X:Cx}
theorem O8{elt iter:Expr}{x y0:Str}{px py pos spos:Pos}{i0:Nat}{ifs:List Expr}{scope:Scope}{cl:List (Str×Addr)}{ys:List Str}{js:List Nat}{wi:TI}{tc:TT}{te:TE}(hN:X.N.Nodup)(hi0:X.N[i0]? = some y0)(hy0:X.env.scope.names.lookup y0=some .local)(C:CompScope X scope cl x ys js)(hc:X.calm=true)(hi:PI X (.Name x px) iter wi)(ht:∀fp s H,qN (Dm X scope cl (x::ys) fp s H) ifs tc)(he:∀fp s H,PE (Dm X scope cl (x::ys) fp s H) elt te)(hs:∀x,Cz iter X.env x=pure x:=by intro _; rfl)(hsw:Nh (.ListComp elt [⟨.Name x px,iter,ifs,0⟩] scope pos) (some (.Name y0 py)) spos.line X.env=pure true:=by rfl):PS X (.Assign [.Name y0 py] (.ListComp elt [⟨.Name x px,iter,ifs,0⟩] scope pos) spos) (R0 (lP wi js tc te) (Sr i0)):=by
 intro pins s σ H De I h
 have h:lP wi js tc te σ H λv H1=>De.nx (σ.set i0 (some v)) H1:=h
 rw[exec_Assign_Name_used _ _ _ _ hsw]
 refine Aa (Ib (Aa ?_))
 show wpAny _ X.A (do let _ <- comprehension (.ListComp elt [⟨.Name x px,iter,ifs,0⟩] scope pos) scope X.env _ (newList []) false (eval iter X.env) (some (Oc (.Name y0 py) X.env))) _ _ s
 refine Aa (Cq (Ji (use:=some (Oc (.Name y0 py) X.env)) (Q:=λ_ s'=>SP X pins De .next s') rfl hs C.clos C.kind C.locs (Gb (hi pins s σ H _ I h) λv s1 h1=>Gb h1 λitv s2 h2=>?_)) (λ_ s' hq=>Ac (Ac hq)) λ_ _ e=>e)
 w_pre a
 have loop:∀s5:Ai,s5={ s3 with heap:=h4,toks:=s3.toks+([]:List (Str×Value)).length } ->
   Hb (model X.prog X.w) X.A (.compLoop (.ListComp elt [⟨.Name x px,iter,ifs,0⟩] scope pos) 0 (.ref it) (.ref s2.heap.objs.size) (Vj scope (Ek (s3.heap.objs.size+1) scope.names cl) s3.heap.objs.size X.env))
    (compPost (model X.prog X.w) X.A X.xe (some (Oc (.Name y0 py) X.env)) (λ_ s'=>SP X pins De .next s') (.ref s2.heap.objs.size) s3.heap.objs.size) s5:=by
  w_pre v0
  w_pre m9
  ·have hd:=T.done X' eP eW eK eC i [] s6 _ H6 (λ_ _=>False) I6 (stat fr6) st6 stop
   w_pre l0
   have I7f:H6 s3.heap.objs.size=none:=by have:=I7.free; rw[<- hX'] at this; exact this
   have b7:Un (gC X.stack) fp (upd H2 s2.heap.objs.size (.lst [])) H6 s3.heap s7.heap:=by have:=I7.base; rw[<- hX'] at this; exact this
   have os7:s7.os=s3.os:=by have:=I7.os; rw[<- hX'] at this; exact this
   have hok7:Vf X.prog X.w H6 s7.heap:=by have:=I7.hok; rw[eP,eW] at this; exact this
   have J7:Inv X pins σ H6 s7:=I3.call' (s':=s7) (ch:=fp) os7 b7 hok7 I7.bare (λb hb=>⟨(f3 b hb).2.2.2.1,(f3 b hb).2.1,(f3 b hb).2.2.2.2.1,(f3 b hb).2.2.2.2.2⟩)
   have fC:Ml X pins H6 s3.heap.objs.size:=I3.fpOk (Aj _) I7f
   obtain ⟨oC,esC,epC,hoC,rC⟩:=id hn7'
   have J8:Inv X (pins++[(s3.heap.objs.size,oC)]) σ H6 s7:=J7.pins_of λp hp=>by
    rcases Aw.mp hp with z | z
    ·have q:=J7.pin p (Ag _ z)
     exact q
    ·rw[Al.mp z]
     exact ⟨hoC,I7f,fC.2.1,fC.2.2.1,λv hv=>by rw[rC.1] at hv; cases hv⟩
   refine Gb (Me (X:=X) (i:=i0) (x:=y0) (pos:=py) hN hi0 (.inl hy0) (.inr hy0) (pins++[(s3.heap.objs.size,oC)]) s7 σ H6 (.ref s2.heap.objs.size) (.ref s2.heap.objs.size) (λσ' H'=>σ'=σ.set i0 (some (.ref s2.heap.objs.size))/\H'=H6) J8 rfl ⟨rfl,rfl⟩) λ_ s9 ⟨σ9,H9,I9,e9,e9'⟩=>?_
   subst e9 e9'
   have hoC9:=(I9.pin (s3.heap.objs.size,oC) (Ag _ (Ag _ Ab))).1
   have I9':Inv X pins (σ.set i0 (some (.ref s2.heap.objs.size))) H9 s9:=I9.pins_of λp hp=>I9.pin p (Ag _ (Ak _ hp))
   refine ⟨m7,hn7'.at λo e=>by rw[hoC] at e; cases e; exact hoC9,λh10 hs10=>?_⟩
   exact ⟨_,H9,Sh (t':=s9.toks) (fp:=[s3.heap.objs.size]) I9' (λb o hb e=>(hs10.2 b (λz=>hb (by rw[z]; exact Ab))).trans e) (λb hb=>by rw[Al.mp hb]; exact fC),qn⟩
  w_pre c
 w_pre l7
end
end Nd
namespace Nd
open PySem L2
def V8(K:PySem.W.Frag):R2:=λx y H Q=>∃a b xs ys,x=.ref a/\y=.ref b/\Ta K H a xs/\Ta K H b ys/\xs.length+ys.length<=Aq/\(xs=[]->Q (.ref b) H)/\(ys=[]->Q (.ref a) H)/\(∀p,H p=none->Q (.ref p) (upd H p (.tup (xs++ys))))
open PyProof.Rows in
theorem L3{X:Cx}:Xe X (Jc .Add) (V8 X.K):=by
 w_pre k7
 obtain ⟨a,b,xs,ys,rfl,rfl,ha,hb,hz,q1,q3,q2⟩:=h
 by_cases hx:xs=[]
 ·cases rx
  w_pre c3
  have e1:its=[]:=r1.nil_iff.mpr hx
  subst e1
  obtain ⟨⟨c1,d1,dt1,sl1⟩,g1,k1,n1,e1⟩:=id p1
  obtain ⟨⟨c2,d2,dt2,sl2⟩,g2,k2,n2,e2⟩:=id p2
  simp only at k1 e1 k2 e2
  subst k1 e1 k2 e2
  exact concat_meets ⟨_,g1,rfl⟩ ⟨_,g2,rfl⟩ kG seq_tuple_add PySem.F.slot_tuple_add PySem.F.entry_tuple_add (PySem.F.args_tuple_add_2 _ _)
   (tuple_addW0 a b _ _ n1 n2 d1 d2 sl1 sl2 rfl) ⟨g1,g2,⟨.ref b,H,I,rfl,q1 hx⟩⟩
 ·exact F5 pins s σ H (.ref a) (.ref b) v u Q I rx ry ⟨a,b,xs,ys,rfl,rfl,ha,hb,hx,hz,q3,λ_=>q2⟩
theorem Yq:∀{l:List Int},l.Nodup->l.Pairwise (·<=·)->l.Pairwise (· < ·)
 | [],_,_=>.nil
 | a::l,n,p=>by
  obtain ⟨h1,q1⟩:=Bb.mp p
  obtain ⟨m1,n1⟩:=Co.mp n
  refine Bb.mpr ⟨λb hb=>?_,Yq n1 q1⟩
  have:=h1 b hb
  have : a≠b:=λz=>m1 (by rw[z]; exact hb)
  omega
end Nd
namespace Nd
open PySem PySem.Spec PyProof.Rows L2
end Nd
namespace Nd
open PySem L2
def JF(K:PySem.W.Frag):List V->Hp->VK->Prop:=λxs H Q=>∃x n t b,xs=[x,.ty n]/\TyOf K H x t/\PySem.W.kitOne K t (.type n)=some b/\Q (.bl b) H
theorem rD{X:Cx}:Mc X (.builtin "isinstance") (JF X.K):=mG
theorem X3{K:PySem.W.Frag}{T:String}:PySem.W.kitOne K (.type T) (.type T)=some true:=by
 unfold PySem.W.kitOne
 rw[if_pos (by simp)]
theorem compScope0{X:Cx}{scope:Scope}{x:Str}(clos:closureFor scope X.env=pure [])(nocell:∀y∈scope.names,y.2≠.cell)(kind:scope.kind=.function)(locs:∀y∈scope.names,y.2=.local->scope.names.lookup y.1=some .local)(own:scope.names.lookup x=some .local)(has_:(scope.names.all λy=>!(y.2 == En) || (([]:List (Str×Addr)).lookup y.1).isSome)=true):CompScope X scope [] x [] [] :=
 ⟨clos,.inl nocell,kind,locs,.inl own,λ_ _ h=>by simp at h,has_,Co.mpr ⟨Bd,Dv⟩,rfl,λk y j e1 _=>by simp at e1⟩
theorem sz{n:Nat}(h:n<=1000:=by first | decide | simp | (simp; omega)):n<=Aq:=Iw (fV h)
end Nd
namespace Nd
open PySem PySem.Spec PyProof.Rows L2
theorem AA{K:PySem.W.Frag}{T n:String}{b:Bool}(h1:(Gd T == Gd n)=false)(h2:PySem.W.kitMeta n=true)(h3:(fastBuiltinMro T).map (λx=>x.contains (Gd n))=some b):PySem.W.kitOne K (.type T) (.type n)=some b:=by
 unfold PySem.W.kitOne PySem.W.kitCls
 rw[h1,if_neg (by decide)]
 dsimp only
 rw[if_pos h2]
 exact h3
theorem yY:∀{vs:List Value} {ns:List Int},Ez vs ns->Gf (ns.map V.int) vs
 | _,_,.nil=>.nil
 | _,_,.cons n t h=>.cons ⟨t,rfl⟩ (yY h)
end Nd
namespace NdS
open PySem
theorem mP{mask finger moves:Nat}{led plain:Bool}{hs:Array Int}{t:Cj}{order:Array Nat}(h:Jn mask finger moves led plain hs=some (t,order)):t.led=led/\t.mask=mask/\t.plain=plain/\t.dummies=#[]:=by
 unfold Jn at h
 cases hl:Qk mask hs with
 | none=>rw[hl] at h; cases h
 | some owner =>
  rw[hl] at h
  cases h
  exact ⟨rfl,rfl,rfl,rfl⟩
def st(m i:Nat):Nat:=(i * 5+1) % m
def it(m:Nat):Nat->Nat->Nat
 | 0,i=>i
 | t+1,i=>it m t (st m i)
theorem iB(m:Nat):∀(a b i:Nat),it m (a+b) i=it m b (it m a i)
 | 0,b,i=>by rw[Mz]; rfl
 | a+1,b,i=>by rw[Nat.add_right_comm]; exact iB m a b (st m i)
def HA(m:Nat):Nat->Nat->List Nat
 | 0,_=>[]
 | f+1,i=>i::HA m f (st m i)
theorem iE{m:Nat}:∀{f i e:Nat},e∈HA m f i->∃t,t<f/\it m t i=e
 | 0,_,_,h=>by cases h
 | f+1,i,e,h=>by
  rcases An.mp h with z | z
  ·exact ⟨0,aT _,z.symm⟩
  ·obtain ⟨t,h1,h2⟩:=iE z
   exact ⟨t+1,Nat.succ_lt_succ h1,h2⟩
def Pk(m:Nat):Prop:=0<m/\it m m 0=0/\∀e,e<m->e∈HA m m 0
theorem Rh{m:Nat}(h0:0<m)(h1:(it m m 0 == 0)=true)(h2:((Cd m).all λe=>(HA m m 0).contains e)=true):Pk m :=
 ⟨h0,by simpa using h1,λe he=>by
  have:=List.all_eq_true.mp h2 e (Ky.mpr he)
  simpa using this⟩
theorem V1:Pk 8:=Rh (by decide) (by decide +kernel) (by decide +kernel)
theorem Y7:Pk 16:=Rh (by decide) (by decide +kernel) (by decide +kernel)
theorem AK:Pk 32:=Rh (by decide) (by decide +kernel) (by decide +kernel)
theorem Y6:Pk 64:=Rh (by decide) (by decide +kernel) (by decide +kernel)
theorem K5:Pk 128:=Rh (by decide) (by decide +kernel) (by decide +kernel)
theorem O4:Pk 256:=Rh (by decide) (by decide +kernel) (by decide +kernel)
theorem DH{m:Nat}(g:Pk m){i e:Nat}(hi:i<m)(he:e<m):∃t,t<m/\it m t i=e:=by
 obtain ⟨h0,h1,h2⟩:=g
 obtain ⟨a,ha,ea⟩:=iE (h2 i hi)
 obtain ⟨b,hb,eb⟩:=iE (h2 e he)
 by_cases hab:a<=b
 ·refine ⟨b - a,by omega,?_⟩
  rw[<- ea,<- iB,Nat.add_sub_cancel' hab]
  exact eb
 ·refine ⟨b+m - a,by omega,?_⟩
  rw[<- ea,<- iB,show a+(b+m - a)=m+b by omega,iB,h1]
  exact eb
def lp(m:Nat):Nat->Nat->Nat->Nat×Nat
 | 0,i,p=>(i,p)
 | t+1,i,p=>lp m t ((i * 5+1+p / 32) % m) (p / 32)
theorem xT(m:Nat):∀(a b i p:Nat),lp m (a+b) i p=lp m b (lp m a i p).1 (lp m a i p).2
 | 0,b,i,p=>by rw[Mz]; rfl
 | a+1,b,i,p=>by rw[Nat.add_right_comm]; exact xT m a b _ _
theorem rY(m:Nat):∀(t i:Nat),lp m t i 0=(it m t i,0)
 | 0,_=>rfl
 | t+1,i=>rY m t (st m i)
theorem oM{m:Nat}:∀(n i p:Nat),p<32 ^ n->(lp m n i p).2=0
 | 0,i,p,h=>by show p=0; simpa using h
 | n+1,i,p,h=>oM n _ _ (by rw[Nat.pow_succ] at h; exact Nat.div_lt_of_lt_mul (by omega))
theorem V0{m:Nat}(h0:0<m):∀(n i p:Nat),i<m->(lp m n i p).1<m
 | 0,i,p,h=>h
 | n+1,i,p,h=>V0 h0 n _ _ (Ux _ h0)
theorem oK{m:Nat}(g:Pk m){i p e:Nat}(hi:i<m)(hp:p<2 ^ 64)(he:e<m):∃t,t<m+14/\(lp m t i p).1=e:=by
 have h13:=oM (m:=m) 13 i p (Cc hp (by decide))
 obtain ⟨t,ht,e1⟩:=DH g (V0 g.1 13 i p hi) he
 refine ⟨13+t,by omega,?_⟩
 rw[xT,h13,rY]
 exact e1
theorem Yl(mask i:Nat):i<=Hw mask i:=by unfold Hw; split <;> omega
theorem eS{mask:Nat}{owner:Array (Option Nat)}:∀(fuel i p t:Nat),t<fuel->(owner.getD (lp (mask+1) t i p).1 (some 0)).isNone=true->∃j,Kv mask owner fuel i p=some j/\(owner.getD j (some 0)).isNone=true
 | 0,_,_,_,h,_=>absurd h (Ka _)
 | fuel+1,i,p,t,h,hn=>by
  unfold Kv
  split
  ·rename_i k hk
   exact ⟨i+k,rfl,by have:=List.find?_some hk; exact this⟩
  ·rename_i hk
   rw[List.find?_eq_none] at hk
   cases t with
   | zero =>
    have:=hk 0 (Ky.mpr (by have:=Yl mask i; omega))
    exact absurd hn (by simpa [lp] using this)
   | succ t =>
    exact eS fuel _ _ t (by omega) hn
theorem Vp{L:List (Option Nat)}:∀{j x:Nat},L[j]? = some none->((L.set j (some x)).filterMap id).Perm (x::L.filterMap id):=by
 induction L with
 | nil=>intro j x h; simp at h
 | cons a L ih =>
  intro j x h
  cases j with
  | zero =>
   simp at h
   subst h
   simp
  | succ j =>
   have h':L[j]? = some none:=by simpa using h
   have:=ih (x:=x) h'
   cases a with
   | none=>simpa using this
   | some b=>simpa using (Iy b this).trans (Dk x b _)
theorem xD{L:List (Option Nat)}:(L.filterMap id).length<L.length->∃j:Nat,L[j]? = some none:=by
 induction L with
 | nil=>intro h; simp at h
 | cons a L ih =>
  intro h
  cases a with
  | none=>exact ⟨0,rfl⟩
  | some b =>
   have : (L.filterMap id).length<L.length:=by simpa using h
   obtain ⟨j,hj⟩:=ih this
   exact ⟨j+1,by simpa using hj⟩
theorem sU(h:Int):Da h<2 ^ 64:=by
 unfold Da
 have h1:=Int.emod_nonneg h (show (2 ^ 64:Int)≠0 by decide)
 have h2:=Int.emod_lt_of_pos h (show (0:Int)<2 ^ 64 by decide)
 omega
def Z4(mask:Nat)(acc:Option (Array (Option Nat)×Nat))(h:Int):Option (Array (Option Nat)×Nat):=do
 let (owner,k) <- acc
 let j <- Kv mask owner (Hm mask) (Da h % (mask+1)) (Da h)
 pure (owner.setIfInBounds j (some k),k+1)
theorem lE{mask:Nat}(g:Pk (mask+1)):∀(hs:List Int) (owner:Array (Option Nat)) (n:Nat),owner.size=mask+1->(owner.toList.filterMap id).Perm (Cd n)->n+hs.length<=mask->∃owner':Array (Option Nat),hs.foldl (Z4 mask) (some (owner,n))=some (owner',n+hs.length)/\owner'.size=mask+1/\(owner'.toList.filterMap id).Perm (Cd (n+hs.length))
 | [],owner,n,h1,h2,_=>⟨owner,rfl,h1,h2⟩
 | h::hs,owner,n,h1,h2,h3=>by
  rw[Bm] at h3
  have len:(owner.toList.filterMap id).length=n:=by rw[h2.length_eq,Dh]
  obtain ⟨e,he⟩:=xD (L:=owner.toList) (by rw[len,Am]; omega)
  have he':e<mask+1:=by
   have:=(Av.mp he).1
   rw[Am] at this
   omega
  obtain ⟨t,ht,et⟩:=oK g (i:=Da h % (mask+1)) (p:=Da h) (e:=e) (Ux _ g.1) (sU h) he'
  have hn:(owner.getD (lp (mask+1) t (Da h % (mask+1)) (Da h)).1 (some 0)).isNone=true:=by
   rw[et,Cs,<- Fh,he]
   rfl
  obtain ⟨j,ej,hj⟩:=eS (mask:=mask) (owner:=owner) (Hm mask) _ _ t (by unfold Hm; omega) hn
  have hj':owner.toList[j]? = some none:=by
   rw[Cs,<- Fh] at hj
   cases q:owner.toList[j]? with
   | none=>rw[q] at hj; simp at hj
   | some v =>
    rw[q] at hj
    cases v with
    | none=>rfl
    | some v=>simp at hj
  have e1:Z4 mask (some (owner,n)) h=some (owner.setIfInBounds j (some n),n+1):=by
   show (do
    let j <- Kv mask owner (Hm mask) (Da h % (mask+1)) (Da h)
    pure (owner.setIfInBounds j (some n),n+1))=_
   rw[ej]
   rfl
  rw[List.foldl_cons,e1]
  have p1:((owner.setIfInBounds j (some n)).toList.filterMap id).Perm (Cd (n+1)):=by
   rw[gN]
   refine (Vp hj').trans ?_
   rw[List.range_succ]
   exact (Iy n h2).trans (Et (l₁:=[n]) (l₂:=Cd n))
  obtain ⟨o',q1,q2,q3⟩:=lE g hs (owner.setIfInBounds j (some n)) (n+1) (by rw[Ro]; exact h1) p1 (by omega)
  refine ⟨o',?_,q2,?_⟩
  ·rw[q1,Bm]
   congr 2
   omega
  ·rw[Bm,show n+(hs.length+1)=n+1+hs.length by omega]
   exact q3
theorem lR{mask:Nat}(g:Pk (mask+1))(hs:Array Int)(hl:hs.size<=mask):∃owner:Array (Option Nat),Qk mask hs=some owner/\owner.size=mask+1/\(owner.toList.filterMap id).Perm (Cd hs.size):=by
 have h0:((Array.replicate (mask+1) (none:Option Nat)).toList.filterMap id).Perm (Cd 0):=by
  rw[Array.toList_replicate]
  simp
 obtain ⟨o,h1,h2,h3⟩:=lE g hs.toList (Array.replicate (mask+1) none) 0 (by simp) h0 (by simpa using hl)
 rw[Am,Mz] at h1 h3
 refine ⟨o,?_,h2,h3⟩
 unfold Qk
 rw[<- Array.foldl_toList]
 show (hs.toList.foldl (Z4 mask) (some (Array.replicate (mask+1) none,0))).map (·.1)=some o
 rw[h1]
 rfl
theorem pE(owner:Array (Option Nat)):((Cd owner.size).filterMap λj=>(owner.getD j none).map λx=>(j,x)).map (·.2)=owner.toList.filterMap id:=by
 obtain ⟨L⟩:=owner
 simp only[Ar]
 have h:∀(L:List (Option Nat)) (pre:List (Option Nat)),((List.range' pre.length L.length).filterMap λj=>(((pre++L)[j]?).getD none).map λx=>(j,x)).map (·.2)=L.filterMap id:=by
  intro L
  induction L with
  | nil=>intro pre; rfl
  | cons a L ih =>
   intro pre
   rw[Bm,List.range'_succ,Lq]
   have e:((pre++a::L)[pre.length]?).getD none=a:=by simp
   have ih':=ih (pre++[a])
   rw[Bf,Fl,Bt,List.singleton_append] at ih'
   cases a with
   | none =>
    simp only[e,Option.map_none,List.filterMap_cons_none,id]
    exact ih'
   | some b =>
    simp only[e,Oo,Ao,List.filterMap_cons_some,id]
    rw[ih']
    simp
 have:=h L []
 rw[Ik,<- List.range_eq_range',Uz] at this
 rw[<- this]
 congr 1
 congr 1
 funext j
 rw[Cs]
 simp
theorem K9{mask finger moves:Nat}{led plain:Bool}(g:Pk (mask+1))(hs:Array Int)(hl:hs.size<=mask):∃(t:Cj) (order:Array Nat),Jn mask finger moves led plain hs=some (t,order)/\order.toList.Perm (Cd hs.size)/\t.fits hs.size=true/\t.led=led:=by
 obtain ⟨o,h1,h2,h3⟩:=lR g hs hl
 have e:Jn mask finger moves led plain hs=some ({ mask:=mask,place:=(((Cd (mask+1)).filterMap λj=>(o.getD j none).map λx=>(j,x)).map (·.1)).toArray,dummies:=#[],finger:=finger,led:=led,moves:=moves,plain:=plain },
   (((Cd (mask+1)).filterMap λj=>(o.getD j none).map λx=>(j,x)).map (·.2)).toArray):=by
  unfold Jn
  rw[h1]
  rfl
 have lo:=pE o
 rw[h2] at lo
 have len:((Cd (mask+1)).filterMap λj=>(o.getD j none).map λx=>(j,x)).length=hs.size:=by
  have:=congrArg Ft lo
  rw[Af,h3.length_eq,Dh] at this
  exact this
 refine ⟨_,_,e,by rw[List.toList_toArray,lo]; exact h3,?_,rfl⟩
 simp only[SetTable.fits,Qp,Ar,Af,len,Fu,beq_self_eq_true,true_and,decide_eq_true_eq]
 show hs.size+0<=mask
 omega
theorem pK{α:Type}(es:Array α){order:Array Nat}(p:order.toList.Perm (Cd es.size)):(order.filterMap (es[·]?)).toList.Perm es.toList/\(order.filterMap (es[·]?)).size=es.size:=by
 have e:(order.filterMap (es[·]?)).toList.Perm es.toList:=by
  rw[Array.toList_filterMap]
  have:=p.filterMap (es[·]?)
  rw[filterMap_getElem?_range] at this
  exact this
 exact ⟨e,by rw[<- Am,e.length_eq,Am]⟩
theorem Tf{n:Nat}(h:n<256):∃m,Dt n=m+1/\Pk (m+1)/\n<=m:=by
 have key:∀k:Fin 256,(Dt k.1 == 8 && decide (k.1<8)) || (Dt k.1 == 16 && decide (k.1<16)) || (Dt k.1 == 32 && decide (k.1<32)) || (Dt k.1 == 64 && decide (k.1<64)) || (Dt k.1 == 128 && decide (k.1<128)) || (Dt k.1 == 256 && decide (k.1<256))=true:=by decide +kernel
 have q:=key ⟨n,h⟩
 simp only[Bool.or_eq_true,Fu,beq_iff_eq,decide_eq_true_eq] at q
 rcases q with ((((q | q) | q) | q) | q) | q
 ·exact ⟨7,q.1,V1,by omega⟩
 ·exact ⟨15,q.1,Y7,by omega⟩
 ·exact ⟨31,q.1,AK,by omega⟩
 ·exact ⟨63,q.1,Y6,by omega⟩
 ·exact ⟨127,q.1,K5,by omega⟩
 ·exact ⟨255,q.1,O4,by omega⟩
abbrev jD(p:Array Nat):Prop:=p.toList.Pairwise (· < ·)
theorem Uh{p:Array Nat}(r:jD p){i j:Nat}(h:i<j)(hj:j<p.size):p[i]'(by omega)<p[j]:=by
 have:=Lh.mp r i j (by rw[Am]; omega) (by rw[Am]; exact hj) h
 simpa using this
structure Below(p:Array Nat)(j b:Nat):Prop where
 le:b<=p.size
 lo:∀i (h:i<p.size),i<b->p[i]<j
 hi:∀i (h:i<p.size),b<=i->j<=p[i]
theorem bF{p:Array Nat}{j:Nat}(r:jD p):∀(fuel lo hi:Nat),hi<=p.size->lo<=hi->hi - lo<=fuel->(∀i (h:i<p.size),i<lo->p[i]<j)->(∀i (h:i<p.size),hi<=i->j<=p[i])->Below p j (Ud p j fuel lo hi)
 | 0,lo,hi,h1,h2,h3,h4,h5=>by
  unfold Ud
  have e:lo=hi:=by omega
  exact ⟨by omega,λi h hl=>h4 i h hl,λi h hl=>h5 i h (by omega)⟩
 | fuel+1,lo,hi,h1,h2,h3,h4,h5=>by
  unfold Ud
  split
  ·rename_i hl
   have hm:(lo+hi) / 2<p.size:=by omega
   have e:p.getD ((lo+hi) / 2) j=p[(lo+hi) / 2]:=by simp [Array.getD,hm]
   dsimp only
   rw[e]
   split
   ·rename_i hc
    refine bF r fuel _ hi h1 (by omega) (by omega) (λi h hi'=>?_) h5
    by_cases z:i=(lo+hi) / 2
    ·subst z; exact hc
    ·exact Uy (Uh r (show i<(lo+hi) / 2 by omega) hm) hc
   ·rename_i hc
    refine bF r fuel lo _ (by omega) (by omega) (by omega) h4 (λi h hi'=>?_)
    by_cases z:i=(lo+hi) / 2
    ·subst z; omega
    ·exact Cg (by omega) (Iw (Uh r (show (lo+hi) / 2<i by omega) h))
  ·exact ⟨by omega,λi h hl=>h4 i h hl,λi h hl=>h5 i h (by omega)⟩
theorem Xm{p:Array Nat}(r:jD p)(j:Nat):Below p j (Cm p j) :=
 bF r _ _ _ (Aj _) (Di _) (by omega) (λi h hl=>absurd hl (Ka _)) (λi h hl=>absurd hl (by omega))
theorem Below.eq{p:Array Nat}{j b b':Nat}(x:Below p j b)(y:Below p j b'):b=b':=by
 rcases Nat.lt_trichotomy b b' with z | z | z
 ·have h:b<p.size:=Cc z y.le
  exact absurd (y.lo b h z) (Nat.not_lt.mpr (x.hi b h (Aj _)))
 ·exact z
 ·have h:b'<p.size:=Cc z x.le
  exact absurd (x.lo b' h z) (Nat.not_lt.mpr (y.hi b' h (Aj _)))
theorem mO{p:Array Nat}(r:jD p):Cm p 0=0 :=
 (Xm r 0).eq ⟨Di _,λi h hl=>absurd hl (Ka _),λi h _=>Di _⟩
theorem pJ{p:Array Nat}(r:jD p){i:Nat}(h:i<p.size):Cm p (p[i]+1)=i+1 :=
 (Xm r _).eq ⟨h,λk hk hl=>by
  by_cases z:k=i
  ·subst z; exact Tb _
  ·exact Fg (Uh r (show k<i by omega) h),λk hk hl=>Uh r (show i<k by omega) hk⟩
structure TabOk(n:Nat)(t:Cj):Prop where
 good:Pk (t.mask+1)
 dum:t.dummies=#[]
 plain:t.plain=true
 rise:jD t.place
 top:∀j∈t.place.toList,j<=t.mask
 size:t.place.size=n
structure Tab(n:Nat)(t:Cj):Prop extends TabOk n t where
 room:n * 5<t.mask * 3
theorem gX{t:Cj}{n:Nat}(x:Tab n t):n+1<=t.mask:=by have:=x.room; omega
theorem TabOk.fits{t:Cj}{n:Nat}(x:TabOk n t)(h:n<=t.mask):t.fits n=true:=by
 simp only[SetTable.fits,Qp,x.dum,x.size,Fu,beq_self_eq_true,true_and,decide_eq_true_eq]
 show n+0<=t.mask
 omega
theorem Tab.fits{t:Cj}{n:Nat}(x:Tab n t):t.fits n=true:=x.toTabOk.fits (by have:=gX x; omega)
theorem Vn{t:Cj}{n j:Nat}(x:TabOk n t):t.slot j=.empty↔j∉t.place.toList:=by
 w_pre i5
 dsimp only
 rw[nd]
 constructor
 ·intro h hm
  obtain ⟨i,hi,e⟩:=Gx.mp hm
  rw[Am] at hi
  have e':t.place[i]=j:=by simpa using e
  have b:Cm t.place j=i:=(Xm x.rise j).eq ⟨Iw hi,λk hk hl=>by rw[<- e']; exact Uh x.rise hl hi,λk hk hl=>by
   by_cases z:i=k
   ·subst z; exact Nat.le_of_eq e'.symm
   ·rw[<- e']; exact Iw (Uh x.rise (show i<k by omega) hk)⟩
  rw[b,Ih hi,e',if_pos (by simp)] at h
  cases h
 ·intro h
  rw[if_neg (λz=>h ?_)]
  ·rfl
  ·have z':t.place[Cm t.place j]? = some j:=by simpa using z
   have:=Array.mem_of_getElem? z'
   exact Array.mem_def.mp this
theorem bZ{t:Cj}{n j:Nat}(x:TabOk n t):t.slot j≠.dummy:=by
 w_pre i5
 dsimp only
 rw[nd]
 split
 ·intro h; cases h
 ·intro h; cases h
theorem eY{mask i:Nat}(h:i<=mask):Hw mask i<=mask:=by unfold Hw; split <;> omega
theorem Uq(mask i:Nat):Hw mask i - i<=9:=by unfold Hw; split <;> omega
theorem E9(mask i p:Nat):SetTable.leap mask i p=((i * 5+1+p / 32) % (mask+1),p / 32):=rfl
theorem bN{t:Cj}{n:Nat}{h:Int}(x:TabOk n t):∀(fuel u:Nat) (p:SetTable.Probe),p.more<=9->p.j+p.more<=t.mask->p.dummy=none->p.more+2+10 * u<=fuel->t.slot (lp (t.mask+1) (u+1) p.i p.perturb).1=.empty->∃j,Od t (λ_=>h+1) h fuel p=some (.empty j none)/\t.slot j=.empty/\j<=t.mask
 | 0,u,p,_,_,_,h3,_=>absurd h3 (by omega)
 | fuel+1,u,p,h1,h2,hd,h3,h4=>by
  unfold Od
  split
  ·rename_i hs
   exact ⟨p.j,by rw[hd],hs,by omega⟩
  ·rename_i hs
   exact absurd hs (bZ x)
  ·rw[if_neg (by simp; omega)]
   unfold SetTable.advance
   split
   ·rename_i hm
    exact bN x fuel u _ (by dsimp only; omega) (by dsimp only; omega) hd (by dsimp only; omega) h4
   ·rename_i hm
    rw[E9]
    dsimp only
    have hi:(p.i * 5+1+p.perturb / 32) % (t.mask+1)<=t.mask:=gJ.mp (Ux _ (aT _))
    cases u with
    | zero =>
     cases fuel with
     | zero=>omega
     | succ fuel =>
      unfold Od
      dsimp only
      have h4':t.slot ((p.i * 5+1+p.perturb / 32) % (t.mask+1))=.empty:=h4
      rw[h4']
      exact ⟨_,by rw[hd],h4',hi⟩
    | succ u =>
     refine bN x fuel u _ (Uq _ _) ?_ hd ?_ h4
     ·dsimp only
      have:=eY hi
      have:=Yl t.mask ((p.i * 5+1+p.perturb / 32) % (t.mask+1))
      omega
     ·dsimp only
      have:=Uq t.mask ((p.i * 5+1+p.perturb / 32) % (t.mask+1))
      omega
theorem yP:∀{l1 l2:List Nat},l1.Nodup->(∀e∈l1,e∈l2)->l1.length<=l2.length
 | [],_,_,_=>Di _
 | a::l1,l2,nd,h=>by
  have nd':=Co.mp nd
  have ha:=h a (Ab ..)
  have:=yP (l2:=l2.erase a) nd'.2 λe he=>(List.mem_erase_of_ne (show e≠a from λz=>nd'.1 (by rw[<- z]; exact he))).mpr (h e (Ad _ he))
  rw[oR ha] at this
  have p:0<l2.length:=rL ha
  rw[Bm]
  omega
theorem P6{m:Nat}{l:List Nat}(nd:l.Pairwise (· < ·))(h:l.length<m):∃e,e<m/\e∉l:=by
 refine Pr λz=>?_
 have all:∀e,e∈Cd m->e∈l:=λe he=>Pr λq=>z ⟨e,Ky.mp he,q⟩
 have:=yP List.nodup_range all
 rw[Dh] at this
 omega
theorem oP{t:Cj}{n:Nat}(x:Tab n t)(h:Int):∃j,t.freeSlot h=some (j,false)/\j∉t.place.toList/\j<=t.mask:=by
 have hm:=gX x
 obtain ⟨e,he,hn⟩:=P6 (m:=t.mask+1) x.rise (by rw[Am,x.size]; omega)
 obtain ⟨u,hu,eu⟩:=oK x.good (i:=Da h % (t.mask+1)) (p:=Da h) (e:=e) (Ux _ (aT _)) (sU h) he
 have hi:Da h % (t.mask+1)<=t.mask:=gJ.mp (Ux _ (aT _))
 have key:∃j,t.probe (λ_=>h+1) h (t.probeStart h)=some (.empty j none)/\t.slot j=.empty/\j<=t.mask:=by
  unfold SetTable.probe
  cases u with
  | zero =>
   have e0:t.slot (Da h % (t.mask+1))=.empty:=(Vn x.toTabOk).mpr (by rw[show Da h % (t.mask+1)=e from eu]; exact hn)
   obtain ⟨f,hf⟩ : ∃f,10 * Hm t.mask=f+1:=⟨10 * Hm t.mask - 1,by unfold Hm; omega⟩
   rw[hf]
   unfold Od
   have e0':t.slot (t.probeStart h).j=.empty:=e0
   rw[e0']
   exact ⟨_,rfl,e0',hi⟩
  | succ u =>
   refine bN x.toTabOk _ u (t.probeStart h) (Uq _ _) ?_ rfl ?_ ?_
   ·have:=eY hi
    have:=Yl t.mask (Da h % (t.mask+1))
    show Da h % (t.mask+1)+(Hw t.mask (Da h % (t.mask+1)) - Da h % (t.mask+1))<=t.mask
    omega
   ·have:=Uq t.mask (Da h % (t.mask+1))
    show Hw t.mask (Da h % (t.mask+1)) - Da h % (t.mask+1)+2+10 * u<=10 * Hm t.mask
    unfold Hm
    omega
   ·exact (Vn x.toTabOk).mpr (by rw[show (lp (t.mask+1) (u+1) (t.probeStart h).i (t.probeStart h).perturb).1=e from eu]; exact hn)
 obtain ⟨j,h1,h2,h3⟩:=key
 refine ⟨j,?_,(Vn x.toTabOk).mp h2,h3⟩
 unfold SetTable.freeSlot
 rw[h1]
 rfl
theorem mH{p:Array Nat}(r:jD p){j:Nat}(h:j∉p.toList):jD (Gv p (Cm p j) j):=by
  have b:=Xm r j
  show (Gv p (Cm p j) j).toList.Pairwise (· < ·)
  rw[SetTable.toList_insertAt]
  have r1:(p.toList.take (Cm p j)).Pairwise (· < ·):=r.sublist (Ip _ _)
  have r2:(p.toList.drop (Cm p j)).Pairwise (· < ·):=r.sublist (Iv _ _)
  have lo:∀e∈p.toList.take (Cm p j),e<j:=λe he=>by
    obtain ⟨i,hi,ei⟩:=List.mem_take_iff_getElem.mp he
    rw[Am] at hi
    have:=b.lo i (by omega) (by omega)
    rw[<- ei]
    simpa using this
  have hi:∀e∈p.toList.drop (Cm p j),j<e:=λe he=>by
    have hm:e∈p.toList:=Vz he
    obtain ⟨i,hi,ei⟩:=List.mem_drop_iff_getElem.mp he
    rw[Am] at hi
    have:=b.hi (i+Cm p j) (by omega) (by omega)
    have e1:j<=e:=by
      rw[<- ei]
      simpa [Nat.add_comm] using this
    exact Nat.lt_of_le_of_ne e1 λz=>h (by rw[z]; exact hm)
  simp only[List.pairwise_append,List.pairwise_cons,An,Aw]
  first
    | exact ⟨r1,⟨hi,r2⟩,λa ha c hc=>by
        rcases hc with z | z
        · rw[z]; exact lo a ha
        · exact Uy (lo a ha) (hi c z)⟩
    | (refine ⟨⟨r1,⟨by simp,Ea⟩,λa ha c hc=>?_⟩,r2,λa ha c hc=>?_⟩
       · have z:c=j:=by simpa using hc
         rw[z]; exact lo a ha
       · rcases ha with z | z | z
         · exact Uy (lo a z) (hi c hc)
         · rw[z]; exact hi c hc
         · cases z)
theorem BP{t:Cj}{es:Array (Int×Value)}(x:Tab es.size t)(h:Int)(v:Value):∃(es1:Array (Int×Value)) (t1:Cj),layNew t es h v=(es1,t1,false,false)/\es1.toList.Perm (es.toList++[(h,v)])/\es1.size=es.size+1/\TabOk es1.size t1/\t1.mask=t.mask/\t1.led=t.led:=by
 obtain ⟨j,h1,h2,h3⟩:=oP x h
 have hm:=gX x
 have perm:=kB es (Cm t.place j) (h,v)
 rw[Io] at perm
 have size:(Gv es (Cm t.place j) (h,v)).size=es.size+1:=by
  rw[<- Am,perm.length_eq,Bf,Am]
  rfl
 have p2:=kB t.place (Cm t.place j) j
 rw[Io] at p2
 have size2:(Gv t.place (Cm t.place j) j).size=es.size+1:=by
  rw[<- Am,p2.length_eq,Bf,Am,x.size]
  rfl
 have nd:SetTable.has t.dummies j=false:=by rw[x.dum]; rfl
 have ok:TabOk (es.size+1) { t with place:=Gv t.place (Cm t.place j) j } :=
  ⟨x.good,x.dum,x.plain,mH x.rise h2,λe he=>by
   rcases Aw.mp (p2.mem_iff.mp he) with z | z
   ·exact x.top e z
   ·rw[Al.mp z]; exact h3,size2⟩
 refine ⟨_,{ t with place:=Gv t.place (Cm t.place j) j },?_,perm,size,by rw[size]; exact ok,rfl,rfl⟩
 have f:({ t with place:=Gv t.place (Cm t.place j) j }:Cj).fits (Gv es (Cm t.place j) (h,v)).size=true:=by
  rw[size]
  exact ok.fits (by omega)
 unfold layNew
 rw[h1]
 simp only[SetTable.put,nd,Bw,if_false,SetTable.orStandIn,f,if_true,Sm]
theorem uQ{mask finger moves:Nat}{led plain:Bool}{hs:Array Int}{t:Cj}{order:Array Nat}(h:Jn mask finger moves led plain hs=some (t,order)):jD t.place/\(∀j∈t.place.toList,j<=mask):=by
 unfold Jn at h
 cases hl:Qk mask hs with
 | none=>rw[hl] at h; cases h
 | some owner =>
  rw[hl] at h
  cases h
  have sub:∀(l:List Nat),l.Pairwise (· < ·)->(((l.filterMap λj=>(owner.getD j none).map λx=>(j,x)).map (·.1)).Pairwise (· < ·))/\∀j∈((l.filterMap λj=>(owner.getD j none).map λx=>(j,x)).map (·.1)),j∈l:=by
   intro l hl
   have m:∀j∈((l.filterMap λj=>(owner.getD j none).map λx=>(j,x)).map (·.1)),j∈l:=λj hj=>by
    w_pre l6
    cases hg:owner.getD k none with
    | none=>rw[hg] at ek; cases ek
    | some v=>rw[hg] at ek; cases ek; exact hk
   refine ⟨?_,m⟩
   clear m
   induction l with
   | nil=>exact Ea
   | cons a l ih =>
    have hl':=Bb.mp hl
    have ih':=ih hl'.2
    rw[Lq]
    cases hg:owner.getD a none with
    | none=>simpa [hg] using ih'
    | some v =>
     simp only[Oo,Ao,List.pairwise_cons]
     refine ⟨λj hj=>?_,ih'⟩
     w_pre l6
     cases hg2:owner.getD k none with
     | none=>rw[hg2] at ek; cases ek
     | some v2=>rw[hg2] at ek; cases ek; exact hl'.1 k hk
  obtain ⟨s1,s2⟩:=sub (Cd (mask+1)) List.pairwise_lt_range
  exact ⟨s1,λj hj=>gJ.mp (Ky.mp (s2 j hj))⟩
theorem kM{mask finger moves:Nat}{led:Bool}(g:Pk (mask+1))(hs:Array Int)(hl:hs.size * 5<mask * 3):∃(t:Cj) (order:Array Nat),Jn mask finger moves led true hs=some (t,order)/\order.toList.Perm (Cd hs.size)/\Tab hs.size t/\t.led=led:=by
 obtain ⟨t,order,h1,h2,h3,h4⟩:=K9 (finger:=finger) (moves:=moves) (led:=led) (plain:=true) g hs (by omega)
 obtain ⟨l1,l2,l3,l4⟩:=mP h1
 obtain ⟨r1,r2⟩:=uQ h1
 have sz:t.place.size=hs.size:=by
  have:=h3
  simp only[SetTable.fits,Fu,beq_iff_eq] at this
  exact this.1
 exact ⟨t,order,h1,h2,⟨⟨by rw[l2]; exact g,l4,l3,r1,by rw[l2]; exact r2,sz⟩,by rw[l2]; exact hl⟩,l1⟩
theorem nR{t:Cj}{es:Array (Int×Value)}{wanted:Nat}(hp:t.plain=true)(hw:wanted<256)(h2:es.size * 2<=wanted):∃(t':Cj) (order:Array Nat),t.relaid (es.map (·.1)) wanted=some (t',order)/\order.toList.Perm (Cd es.size)/\Tab es.size t'/\t'.led=t.led:=by
 obtain ⟨m,e1,g,hm⟩:=Tf hw
 have sz:(es.map (·.1)).size=es.size:=Vm ..
 have m7:7<=m:=by
  w_pre z0
 obtain ⟨t',order,q1,q2,q3,q4⟩:=kM (mask:=m) (finger:=t.finger) (moves:=t.movedTo m) (led:=t.led) g (es.map (·.1)) (by rw[sz]; omega)
 rw[sz] at q2 q3
 refine ⟨t',order,?_,q2,q3,q4⟩
 unfold SetTable.relaid
 rw[e1,Nat.add_sub_cancel,hp]
 exact q1
theorem mW{t:Cj}{es:Array (Int×Value)}(hp:t.plain=true)(hn:es.size<64):∃(es':Array (Int×Value)) (t':Cj),relayAll t es (SetTable.grown es.size)=(es',t',false)/\es'.toList.Perm es.toList/\es'.size=es.size/\Tab es'.size t'/\t'.led=t.led:=by
 have gr:SetTable.grown es.size=es.size * 4:=by unfold SetTable.grown; rw[if_neg (by omega)]
 obtain ⟨t',order,q1,q2,q3,q4⟩:=nR (t:=t) (es:=es) (wanted:=es.size * 4) hp (by omega) (by omega)
 obtain ⟨p1,p2⟩:=pK es q2
 refine ⟨order.filterMap (es[·]?),t',?_,p1,p2,by rw[p2]; exact q3,q4⟩
 unfold relayAll
 rw[gr,q1]
 dsimp only
 have c:coversAll order es.size=true:=by
  unfold coversAll
  exact List.isPerm_iff.mpr q2
 have f:t'.fits (order.filterMap (es[·]?)).size=true:=by rw[p2]; exact q3.fits
 rw[c,f]
 rfl
abbrev bt(w:World):Bool:=w.params.followText "set-order"
def Nc:Int×Value->Int
 | (_,.int k _)=>k
 | _=>0
def Ww(e:Int×Value):Prop:=∃k tk,e=(hashInt k,Lb k tk)
abbrev keys(es:Array (Int×Value)):List Int:=es.toList.map Nc
abbrev Kx(es:Array (Int×Value))(ep:Nat)(t:Cj):Obj:={ cls:=.type "set",dict:=none,data:=.set es ep t }
structure SetS(w:World)(h:Heap)(a:Addr)(es:Array (Int×Value))(ep:Nat)(t:Cj):Prop where
 obj:h.get? a=some (Kx es ep t)
 ent:∀e∈es.toList,Ww e
 nd:(keys es).Nodup
 tab:Tab es.size t
 led:bt w=false->t.led=true
 few:es.size<64
theorem SetS.keep{w:World}{h h':Heap}{a:Addr}{es:Array (Int×Value)}{ep:Nat}{t:Cj}(S:SetS w h a es ep t)(k:∀o,h.get? a=some o->h'.get? a=some o):SetS w h' a es ep t :=
 ⟨k _ S.obj,S.ent,S.nd,S.tab,S.led,S.few⟩
def ins(k:Int)(l:List Int):List Int:=if k∈l then l else k::l
theorem T9{prog:Bl}{w:World}{h:Heap}{a:Addr}{es:Array (Int×Value)}{ep:Nat}{t:Cj}(S:SetS w h a es ep t):ElemsOf (Wj prog w) es.toList:=λe he=>by
 obtain ⟨k,tk,rfl⟩:=S.ent e he
 exact ⟨⟨k,intKind_is _ _ _ _,rfl⟩,rfl⟩
theorem zK{prog:Bl}{w:World}{e:Int×Value}(h:Ww e)(k:Int):(Wj prog w).is k e.2=true↔Nc e=k:=by
 obtain ⟨k',tk,rfl⟩:=h
 show Value.isInt k (.int k' tk)=true↔k'=k
 simp [Value.isInt]
 try exact eq_comm
theorem small{n:Nat}(h:n<64):n<=Aq:=by rw[Hh]; omega
theorem sJ{es:Array (Int×Value)}{ep:Nat}{t:Cj}(es':Array (Int×Value))(t':Cj):Obj.putSet es' t' (Kx es ep t)=Kx es' (ep+1) t':=putSet_of es' t' rfl
theorem aP{h:Heap}{a:Addr}{es:Array (Int×Value)}{ep:Nat}{t:Cj}(ho:h.get? a=some (Kx es ep t))(es':Array (Int×Value))(t':Cj):(h.update a (Obj.putSet es' t')).get? a=some (Kx es' (ep+1) t'):=by
 have:=Eu (Obj.putSet es' t') ho (by rw[sJ]; rfl)
 rw[sJ] at this
 exact this
section
variable{prog:Bl}{w:World}{A:Ce}{E:Value->Ai->Prop}{s:Ai}
theorem Ha{a:Addr}{es:Array (Int×Value)}{ep:Nat}{t:Cj}{Q:(Array (Int×Value)×Nat×Cj)->Ai->Prop}(S:SetS w s.heap a es ep t)(h:Q (es,ep,t) s):wpAny (model prog w) A (setState a) Q E s :=
 wpAny_setState_of S.obj rfl S.tab.fits h
theorem Yn{a:Addr}{es es':Array (Int×Value)}{ep:Nat}{t t':Cj}{Q:Unit->Ai->Prop}(S:SetS w s.heap a es ep t)(he:∀e∈es'.toList,Ww e)(nd:(keys es').Nodup)(tab:Tab es'.size t')(led:bt w=false->t'.led=true)(few:es'.size<64)(h:∀h',Ct a s.heap h'->SetS w h' a es' (ep+1) t'->Q () { s with heap:=h' }):wpAny (model prog w) A (storeSet a es' t') Q E s :=
 Ua S.obj rfl (h _ (Bo ..) ⟨aP S.obj es' t',he,nd,tab,led,few⟩) (small few)
theorem fZ{es:Array (Int×Value)}{k:Int}(he:∀e∈es.toList,Ww e):es.toList.findIdx? (λe=>(Wj prog w).is k e.2)=none↔k∉keys es:=by
 rw[List.findIdx?_eq_none_iff]
 constructor
 ·intro h hm
  obtain ⟨e,hm',rfl⟩:=Df.mp hm
  have:=h e hm'
  rw[(zK (he e hm') _).mpr rfl] at this
  cases this
 ·intro h e hm
  cases q:(Wj prog w).is k e.2 with
  | false=>rfl
  | true=>exact absurd (Df.mpr ⟨e,hm,(zK (he e hm) k).mp q⟩) h
theorem C1{a:Addr}{es:Array (Int×Value)}{ep:Nat}{t:Cj}{k:Int}{tk:Tok}{Q:Bool->Ai->Prop}(S:SetS w s.heap a es ep t)(hn:es.size<63)(h:∀b es' ep' t' h',Ct a s.heap h'->SetS w h' a es' ep' t'->(keys es').Perm (ins k (keys es))->Q b { s with heap:=h' }):wpAny (model prog w) A (setAddHashed a (.int k tk) (hashInt k)) Q E s:=by
 unfold setAddHashed setAddHashedIn
 refine Ck (Aa (Ha S ?_))
 dsimp only
 rw[byScan_of (knd:=Wj prog w) (x:=.int k tk) rfl (Uy S.few (by decide)) (T9 S),if_pos rfl]
 unfold setAddByScan
 refine Aa (Aa (Kk (Aa ?_)))
 refine wpAny_setScan_of (knd:=Wj prog w) (k:=k) (intKind_is _ _ _ _) S.obj rfl S.tab.fits (T9 S) ?_
 cases hr:es.toList.findIdx? (λe=>(Wj prog w).is k e.2) with
 | some j =>
  dsimp only
  have hk:k∈keys es:=Pr λz=>by
   rw[(fZ (prog:=prog) (w:=w) S.ent).mpr z] at hr
   cases hr
  refine Ac (Ac ?_)
  have:=h false es ep t s.heap (Oy a s.heap) S (by unfold ins; rw[if_pos hk])
  exact this
 | none =>
  dsimp only
  have hk:k∉keys es:=(fZ (prog:=prog) (w:=w) S.ent).mp hr
  obtain ⟨es1,t1,e1,p1,z1,ok1,m1,l1⟩:=BP S.tab (hashInt k) (.int k tk)
  rw[e1]
  dsimp only
  have ent1:∀e∈es1.toList,Ww e:=λe he=>by
   rcases Aw.mp (p1.mem_iff.mp he) with z | z
   ·exact S.ent e z
   ·rw[Al.mp z]; exact ⟨k,tk,rfl⟩
  have pk1:(keys es1).Perm (k::keys es):=by
   have:=p1.map Nc
   rw[Bh] at this
   exact this.trans Et
  have nd1:(keys es1).Nodup:=pk1.nodup_iff.mpr (Co.mpr ⟨hk,S.nd⟩)
  have few1:es1.size<64:=by omega
  have led1:bt w=false->t1.led=true:=λz=>by rw[l1]; exact S.led z
  refine Aa (m:=(pure ():Sem Unit)) (Ac ?_)
  rw[ok1.plain,if_pos rfl]
  refine Aa (m:=hashByValue 8 (.int k tk)) (Ac ?_)
  simp only[if_true]
  by_cases tf:t1.tooFull=true
  ·obtain ⟨es2,t2,e2,p2,z2,tab2,l2⟩:=mW (es:=es1) ok1.plain few1
   have ent2:∀e∈es2.toList,Ww e:=λe he=>ent1 e (p2.mem_iff.mp he)
   have pk2:(keys es2).Perm (k::keys es):=(p2.map Nc).trans pk1
   refine Aa (Ua S.obj rfl ?_ (small few1))
   rw[tf,if_pos (by decide),e2]
   dsimp only
   refine Aa (m:=(pure ():Sem Unit)) (Ac ?_)
   have o1:=aP S.obj es1 t1
   refine Aa (Ua o1 rfl (Ac ?_) (small (by omega)))
   dsimp only
   refine Ac (h true es2 (ep+1+1) t2 _ ((Bo s.heap a _).trans (Bo _ a _)) ⟨aP o1 es2 t2,ent2,pk2.nodup_iff.mpr (Co.mpr ⟨hk,S.nd⟩),tab2,λz=>by rw[l2,l1]; exact S.led z,by omega⟩ ?_)
   unfold ins
   rw[if_neg hk]
   exact pk2
  ·have room:es1.size * 5<t1.mask * 3:=by
    have : ¬ (t1.fill * 5 ≥ t1.mask * 3):=λz=>tf (by unfold SetTable.tooFull; exact decide_eq_true z)
    have e:t1.fill=es1.size:=by
     unfold Qp
     rw[ok1.dum,ok1.size]
     rfl
    omega
   refine Aa (Ua S.obj rfl ?_ (small few1))
   rw[Bool.not_eq_true] at tf
   rw[tf]
   simp only[Wf,Bw,if_false]
   refine Ac ?_
   dsimp only
   refine Ac (h true es1 (ep+1) t1 _ (Bo s.heap a _) ⟨aP S.obj es1 t1,ent1,nd1,⟨ok1,room⟩,led1,few1⟩ ?_)
   unfold ins
   rw[if_neg hk]
   exact pk1
end
theorem Ll{α:Type}:∀{l:List α} {i:Nat} (h:i<l.length),(l[i]::l.eraseIdx i).Perm l
 | [],_,h=>absurd h (Ka _)
 | a::l,0,h=>Hk _
 | a::l,i+1,h=>by
  have:=Ll (l:=l) (i:=i) (by simpa using h)
  exact (Dk a _ _).trans (Iy a this)
theorem tG{α:Type}(next:Nat->Nat):∀(fuel k:Nat) (left:List α) (out:Array α),left.length=fuel->(pickOrder.go next fuel k left out).toList.Perm (out.toList++left)
 | 0,k,left,out,h=>by
  unfold pickOrder.go
  have : left=[]:=List.eq_nil_of_length_eq_zero h
  subst this
  simp
 | fuel+1,k,left,out,h=>by
  unfold pickOrder.go
  have hi:next k % left.length<left.length:=Ux _ (by omega)
  rw[Bx hi]
  dsimp only
  refine (tG next fuel (k+1) _ _ (by rw[List.length_eraseIdx,if_pos hi]; omega)).trans ?_
  rw[Io,Bt]
  exact Jo _ (Ll hi)
theorem xH{α:Type}(next:Nat->Nat)(xs:Array α):(Vi next xs).toList.Perm xs.toList:=by
 unfold Vi
 simpa using tG next xs.size 0 xs.toList #[] (by simp)
section
variable{prog:Bl}{w:World}{A:Ce}{E:Value->Ai->Prop}{s:Ai}
theorem Rj{Q:Bool->Ai->Prop}(h:Q (bt w) s):wpAny (model prog w) A setsByText Q E s:=by
 unfold setsByText
 exact Aa (Vh (Ac h))
theorem sN{a:Addr}{es:Array (Int×Value)}{ep:Nat}{t:Cj}{Q:Array (Int×Value)->Ai->Prop}(S:SetS w s.heap a es ep t)(h:Q (if bt w then Vi (w.params.setOrder a ep) es else es) s):wpAny (model prog w) A (setWalk a) Q E s:=by
 unfold setWalk
 w_pre k8
 dsimp only
 refine Aa (Rj ?_)
 cases hb:bt w with
 | true =>
  rw[hb] at h
  rw[if_pos rfl] at h ⊢
  exact Aa (Vh (Ac h))
 | false =>
  have hl:=S.led hb
  have hp:=S.tab.plain
  rw[hb] at h
  w_pre f1
  exact Aa (m:=(pure ():Sem Unit)) (Ac (Ac h))
theorem fX{a:Addr}{es:Array (Int×Value)}{ep:Nat}:(if bt w then Vi (w.params.setOrder a ep) es else es).toList.Perm es.toList:=by
 cases bt w with
 | true=>exact xH _ _
 | false=>exact Hk _
theorem wU{a:Addr}{others:List Addr}{filled:Option Addr}{es:Array (Int×Value)}{ep:Nat}{t:Cj}{Q:Array (Int×Value)->Ai->Prop}(S:SetS w s.heap a es ep t)(h:Q (if bt w then Vi (w.params.setOrder a ep) es else es) s) :
  wpAny (model prog w) A (setWalkUnseen a others filled) Q E s:=by
 unfold setWalkUnseen
 w_pre k8
 dsimp only
 refine Aa (Rj ?_)
 have c:(bt w || (t.led && t.plain) || decide (es.size<=1))=true:=by
  cases hb:bt w with
  | true=>rfl
  | false=>rw[S.led hb,S.tab.plain]; rfl
 rw[if_pos c]
 exact sN S h
theorem vL{a:Addr}{es:Array (Int×Value)}{ep:Nat}{t:Cj}{wanted:Nat}{Q:Unit->Ai->Prop}(S:SetS w s.heap a es ep t)(hw:wanted<256)(h2:es.size * 2<=wanted)(h:∀es' t' h',Ct a s.heap h'->SetS w h' a es' (ep+1) t'->(keys es').Perm (keys es)->wanted<=t'.mask->7<=t'.mask->Q () { s with heap:=h' }):wpAny (model prog w) A (setRelay a wanted) Q E s:=by
 obtain ⟨t',order,q1,q2,q3,q4⟩:=nR (es:=es) S.tab.plain hw h2
 obtain ⟨p1,p2⟩:=pK es q2
 obtain ⟨m,e1,g,hm⟩:=Tf hw
 have mk:t'.mask=m:=by
  unfold SetTable.relaid at q1
  rw[(mP q1).2.1,e1]
  rfl
 have m7:7<=t'.mask:=by
  w_pre z0
 have sz:Dt wanted<=256:=by
  have key:∀k:Fin 256,decide (Dt k.1<=256)=true:=by decide +kernel
  exact of_decide_eq_true (key ⟨wanted,hw⟩)
 unfold setRelay
 w_pre k8
 dsimp only
 rw[if_neg (by rw[Hh]; omega),q1]
 refine Aa ?_
 show wpAny (model prog w) A (do
  if (order.filterMap (es[·]?)).size != es.size then unsupported "internal:set-table-lost-an-element"
  pure (order.filterMap (es[·]?),t')) _ _ _
 rw[if_neg (by rw[p2]; simp)]
 refine Ac ?_
 dsimp only
 refine Yn S (λe he=>S.ent e (p1.mem_iff.mp he)) ((p1.map Nc).nodup_iff.mpr S.nd) (by rw[p2]; exact q3) (λz=>by rw[q4]; exact S.led z) (by rw[p2]; exact S.few) λh' sb S'=>?_
 exact h _ _ h' sb S' (p1.map Nc) (by omega) m7
theorem wJ{es es':Array (Int×Value)}(p:(keys es').Perm (keys es)):es'.size=es.size:=by
 have:=p.length_eq
 rw[Af,Af,Am,Am] at this
 exact this
theorem K3{a:Addr}{es:Array (Int×Value)}{ep more:Nat}{t:Cj}{Q:Unit->Ai->Prop}(S:SetS w s.heap a es ep t)(hm:es.size+more<128)(h:∀es' ep' t' h',Ct a s.heap h'->SetS w h' a es' ep' t'->(keys es').Perm (keys es)->(es.size+more) * 5<t'.mask * 3->Q () { s with heap:=h' }):wpAny (model prog w) A (setRoomFor a more) Q E s:=by
 have fl:t.fill=es.size:=by
  unfold Qp
  rw[S.tab.dum,S.tab.size]
  rfl
 unfold setRoomFor
 w_pre k8
 dsimp only
 unfold SetTable.roomFor
 rw[fl,S.tab.size]
 by_cases c:(es.size+more) * 5 ≥ t.mask * 3
 ·rw[if_pos c]
  dsimp only
  refine vL S (by omega) (by omega) λes' t' h' sb S' p m1 m7=>h es' _ t' h' sb S' p ?_
  omega
 ·rw[if_neg c]
  dsimp only
  exact Ac (h es ep t s.heap (Oy _ _) S (Hk _) (by omega))
end
def Among(U:List Int)(l:List Int):Prop:=∀x∈l,x∈U
theorem len_leI:∀{l1 l2:List Int},l1.Nodup->(∀e∈l1,e∈l2)->l1.length<=l2.length
 | [],_,_,_=>Di _
 | a::l1,l2,nd,h=>by
  have nd':=Co.mp nd
  have ha:=h a (Ab ..)
  have:=len_leI (l2:=l2.erase a) nd'.2 λe he=>(List.mem_erase_of_ne (show e≠a from λz=>nd'.1 (by rw[<- z]; exact he))).mpr (h e (Ad _ he))
  rw[oR ha] at this
  have p:0<l2.length:=rL ha
  rw[Bm]
  omega
theorem Among.size{U:List Int}{es:Array (Int×Value)}(h:Among U (keys es))(nd:(keys es).Nodup):es.size<=U.length:=by
 have:=len_leI nd h
 rw[Af,Am] at this
 exact this
theorem tL{x k:Int}{l:List Int}:x∈ins k l↔x=k\/x∈l:=by
 unfold ins
 split
 ·rename_i h
  constructor
  ·exact .inr
  ·rintro (z | z)
   ·rw[z]; exact h
   ·exact z
 ·rw[An]
section
variable{prog:Bl}{w:World}{A:Ce}{E:Value->Ai->Prop}
theorem cV{U:List Int}(hU:U.length<=62){a o:Addr}(ao:a≠o){eo:Array (Int×Value)}{epo:Nat}{to:Cj}{each:Sem Unit}
  (hE:∀(s:Ai) (Q:Unit->Ai->Prop),SetS w s.heap o eo epo to->Q () s->wpAny (model prog w) A each Q E s) :
  ∀(l:List (Int×Value)) (s:Ai) (es:Array (Int×Value)) (ep:Nat) (t:Cj) (Q:Unit->Ai->Prop),(∀e∈l,Ww e)->Among U (l.map Nc)->Among U (keys es)->SetS w s.heap a es ep t->SetS w s.heap o eo epo to ->
   (∀es' ep' t' h',Ct a s.heap h'->SetS w h' a es' ep' t'->(∀x,x∈keys es'↔x∈keys es\/x∈l.map Nc)->Q () { s with heap:=h' }) ->
   wpAny (model prog w) A (forIn l PUnit.unit λ(x:Int×Value) _=>do
    let _ <- Ny [x.2] (setAddHashed a x.2 x.1)
    each
    if (<- setState o).2.1 != epo then unsupported "set.changed-during-merge"
    pure (El PUnit.unit)) Q E s
 | [],s,es,ep,t,Q,_,_,_,S,_,h=>by
  rw[Qq]
  exact Ac (h es ep t s.heap (Oy _ _) S (by simp))
 | e::l,s,es,ep,t,Q,he,hl,hk,S,So,h=>by
  obtain ⟨k,tk,rfl⟩:=he e (Ab ..)
  rw[Pq]
  have n1:=hk.size S.nd
  refine Aa (Aa (Ck (C1 S (by omega) λb es1 ep1 t1 h1 sb1 S1 p1=>?_)))
  have So1:SetS w h1 o eo epo to:=So.keep λob q=>(sb1.2 o (Ln ao)).trans q
  refine Aa (hE { s with heap:=h1 } _ So1 ?_)
  refine Aa (Ha (s:={ s with heap:=h1 }) So1 ?_)
  dsimp only
  rw[if_neg (by simp)]
  refine Ac ?_
  have m1:∀x,x∈keys es1↔x=k\/x∈keys es:=λx=>by rw[p1.mem_iff,tL]
  have hk1:Among U (keys es1):=λx hx=>by
   rcases (m1 x).mp hx with z | z
   ·rw[z]; exact hl k (Ab ..)
   ·exact hk x z
  refine cV hU ao hE l { s with heap:=h1 } es1 ep1 t1 Q (λe hm=>he e (Ad _ hm)) (λx hx=>hl x (Ad _ hx)) hk1 S1 So1 λes2 ep2 t2 h2 sb2 S2 m2=>?_
  w_pre n9
  rw[m2,m1,Ao,An]
  show (x=k\/x∈keys es)\/x∈l.map Nc↔x∈keys es\/x=k\/x∈l.map Nc
  constructor
  ·rintro ((z | z) | z)
   ·exact .inr (.inl z)
   ·exact .inl z
   ·exact .inr (.inr z)
  ·rintro (z | z | z)
   ·exact .inl (.inr z)
   ·exact .inl (.inl z)
   ·exact .inr z
end
section
variable{prog:Bl}{w:World}{A:Ce}{E:Value->Ai->Prop}{s:Ai}
theorem lY{U:List Int}(hU:U.length<=62){a o:Addr}(ao:a≠o){es eo:Array (Int×Value)}{ep epo:Nat}{t to:Cj}{each:Sem Unit}{Q:Unit->Ai->Prop}(hE:∀(s:Ai) (Q:Unit->Ai->Prop),SetS w s.heap o eo epo to->Q () s->wpAny (model prog w) A each Q E s)(S:SetS w s.heap a es ep t)(So:SetS w s.heap o eo epo to)(hk:Among U (keys es))(ho:Among U (keys eo))(h:∀es' ep' t' h',Ct a s.heap h'->SetS w h' a es' ep' t'->(∀x,x∈keys es'↔x∈keys es\/x∈keys eo)->Q () { s with heap:=h' }):wpAny (model prog w) A (setMerge a o each) Q E s:=by
 have n1:=hk.size S.nd
 have n2:=ho.size So.nd
 unfold setMerge
 rw[if_neg (by simpa using ao)]
 refine Aa (Ha So ?_)
 dsimp only
 by_cases em:eo.isEmpty=true
 ·rw[if_pos em]
  have : eo=#[]:=by simpa using em
  refine Ac (h es ep t s.heap (Oy _ _) S λx=>?_)
  rw[this]
  simp
 rw[if_neg em]
 refine Aa (K3 S (by omega) λes1 ep1 t1 h1 sb1 S1 p1 r1=>?_)
 have So1:SetS w h1 o eo epo to:=So.keep λob q=>(sb1.2 o (Ln ao)).trans q
 refine Aa (Ha (s:={ s with heap:=h1 }) S1 ?_)
 dsimp only
 have z1:=wJ p1
 have fl:t1.fill=es.size:=by
  unfold Qp
  rw[S1.tab.dum,S1.tab.size]
  exact z1
 have empty:t1.fill=0->∀x,x∉keys es:=λz x hx=>by
  have : es.size=0:=by omega
  have e:es=#[]:=Array.eq_empty_of_size_eq_zero this
  rw[e] at hx
  simp at hx
 cases hr:t1.road to with
 | slotForSlot =>
  w_pre a4
  ·rename_i hf
   have hf':t1.fill=0:=by simpa using hf
   split at hr
   ·rename_i hm
    simp only[Fu,beq_iff_eq] at hm
    refine Yn S1 So1.ent So1.nd (t':={ to with finger:=t1.finger,led:=t1.led && to.led,moves:=t1.moves,plain:=t1.plain && to.plain }) ⟨⟨So1.tab.good,So1.tab.dum,by show (t1.plain && to.plain)=true; rw[S1.tab.plain,So1.tab.plain]; rfl,So1.tab.rise,So1.tab.top,So1.tab.size⟩,So1.tab.room⟩
     (λz=>by show (t1.led && to.led)=true; rw[S1.led z,So1.led z]; rfl) So1.few λh2 sb2 S2=>?_
    refine h eo _ _ h2 (sb1.trans sb2) S2 λx=>⟨.inr,λz=>z.elim (λq=>absurd q (empty hf' x)) id⟩
   ·cases hr
 | clean =>
  have hf':t1.fill=0:=by
   w_pre a4
   ·rename_i hf
    simpa using hf
  have sz:(eo.map (·.1)).size=eo.size:=Vm ..
  obtain ⟨t2,order,q1,q2,q3,q4⟩:=kM (mask:=t1.mask) (finger:=t1.finger) (moves:=t1.moves) (led:=t1.led && to.led) S1.tab.good (eo.map (·.1)) (by rw[sz]; omega)
  rw[sz] at q2 q3
  obtain ⟨pk,ps⟩:=pK eo q2
  dsimp only
  have pl:(t1.plain && to.plain)=true:=by rw[S1.tab.plain,So1.tab.plain]; rfl
  rw[pl,q1]
  refine Aa ?_
  show wpAny (model prog w) A (do
   if (order.filterMap (eo[·]?)).size != eo.size then unsupported "internal:set-table-lost-an-element"
   pure (order.filterMap (eo[·]?),t2)) _ _ _
  rw[if_neg (by rw[ps]; simp)]
  refine Ac ?_
  dsimp only
  refine Yn S1 (λe he=>So1.ent e (pk.mem_iff.mp he)) ((pk.map Nc).nodup_iff.mpr So1.nd) (by rw[ps]; exact q3) (λz=>by rw[q4,S1.led z,So1.led z]; rfl) (by rw[ps]; exact So1.few) λh2 sb2 S2=>?_
  refine h _ _ _ h2 (sb1.trans sb2) S2 λx=>?_
  rw[(pk.map Nc).mem_iff]
  exact ⟨.inr,λz=>z.elim (λq=>absurd q (empty hf' x)) id⟩
 | oneByOne =>
  dsimp only
  refine Aa (wU (s:={ s with heap:=h1 }) So1 ?_)
  have wp:=fX (w:=w) (a:=o) (es:=eo) (ep:=epo)
  generalize (if bt w then Vi (w.params.setOrder o epo) eo else eo)=arr at wp
  rw[<- Yb]
  refine Aa (cV hU ao hE arr.toList { s with heap:=h1 } es1 ep1 t1 _ (λe he=>So1.ent e (wp.mem_iff.mp he)) (λx hx=>ho x ((wp.map Nc).mem_iff.mp hx)) (λx hx=>hk x (p1.mem_iff.mp hx)) S1 So1 λes2 ep2 t2 h2 sb2 S2 m2=>Ac ?_)
  w_pre n9
  rw[m2,p1.mem_iff,(wp.map Nc).mem_iff]
end
theorem jH:entryFor table "set.__or__" = some Builtin.«frozenset.__or__» :=
 Zr (id' := "frozenset.__or__") (by kernel_rfl) (by first | rfl | decide +kernel) (by decide +kernel) (by kernel_rfl)
theorem Qf:isSubtype (.type "set") (.type "set")=pure true:=by rw[Zp]; kernel_rfl
section
variable{prog:Bl}{w:World}{A:Ce}{E:Value->Ai->Prop}{s:Ai}
theorem SetS.ty{a:Addr}{es:Array (Int×Value)}{ep:Nat}{t:Cj}(S:SetS w s.heap a es ep t):s.TypeIs (.ref a) "set" := ⟨_,S.obj,rfl⟩
theorem fO{h:Heap}:SetS w (h.push (Kx #[] 0 (.fresh 0 0 (!bt w)))) h.objs.size #[] 0 (.fresh 0 0 (!bt w)) :=
 ⟨Ap _ rfl,(λe he=>by simp at he),Ea,⟨⟨V1,rfl,rfl,Ea,(λj hj=>by simp [SetTable.fresh] at hj),rfl⟩,by show 0 * 5<7 * 3; decide⟩,(λz=>by show (!bt w)=true; rw[z]; rfl),by decide⟩
theorem uO{Q:Value->Ai->Prop}(h:Q (.ref s.heap.objs.size) { s with heap:=s.heap.push (Kx #[] 0 (.fresh 0 0 (!bt w))) }):wpAny (model prog w) A (newSet (.type "set")) Q E s:=by
 unfold newSet
 refine Aa (Rj ?_)
 dsimp only
 simp only[newObj]
 exact Aa (wpAny_alloc (Ac h))
theorem Yr{a:Addr}{Q:Bool->Ai->Prop}(T:s.TypeIs (.ref a) "set")(h:Q true s):wpAny (model prog w) A (Jf (.ref a)) Q E s:=by
 unfold Jf
 exact Aa (Gy T Qf (Ac h))
theorem P7{a:Addr}{Q:Value->Ai->Prop}(T:s.TypeIs (.ref a) "set")(h:Q (.type "set") s):wpAny (model prog w) A (Wl a) Q E s:=by
 unfold Wl
 exact Aa (Gy T Qf (Ac h))
theorem uD{h h' h2:Heap}{a:Addr}(k:∀b o,h.get? b=some o->h'.get? b=some o)(n:h.get? a=none)(sb:Ct a h' h2):∀b o,h.get? b=some o->h2.get? b=some o:=λb o e =>
 (sb.2 b (λz=>by rw[z,n] at e; cases e)).trans (k b o e)
theorem P3{U:List Int}(hU:U.length<=62){a:Addr}{es:Array (Int×Value)}{ep:Nat}{t:Cj}{Q:Value->Ai->Prop}(S:SetS w s.heap a es ep t)(hk:Among U (keys es))(h:∀es' ep' t' h',(∀b o,s.heap.get? b=some o->h'.get? b=some o)->SetS w h' s.heap.objs.size es' ep' t'->(∀x,x∈keys es'↔x∈keys es)->Q (.ref s.heap.objs.size) { s with heap:=h' }):wpAny (model prog w) A (Nk a) Q E s:=by
 have lt:=Au S.obj
 have ne:s.heap.objs.size≠a:=Ql lt
 unfold Nk
 refine Aa (P7 S.ty (Aa (uO ?_)))
 refine Aa (m:=Eh (.ref s.heap.objs.size)) (Ac ?_)
 refine Aa (lY (s:={ s with heap:=s.heap.push (Kx #[] 0 (.fresh 0 0 (!bt w))) }) hU ne (each:=pure ()) (λs' Q' _ q=>Ac q) fO (S.keep λo q=>Ah _ q) (λx hx=>by simp at hx) hk λes' ep' t' h' sb S' m=>Ac ?_)
 exact h es' ep' t' h' (uD (λb o e=>Ah _ e) (Wc (Aj _)) sb) S' λx=>by rw[m]; simp
theorem GG{U:List Int}(hU:U.length<=62){a b:Addr}(ab:a≠b){ea eb:Array (Int×Value)}{epa epb:Nat}{ta tb:Cj}{Q:Value->Ai->Prop}(Sa:SetS w s.heap a ea epa ta)(Sb:SetS w s.heap b eb epb tb)(ka:Among U (keys ea))(kb:Among U (keys eb))(h:∀es' ep' t' h',(∀c o,s.heap.get? c=some o->h'.get? c=some o)->SetS w h' s.heap.objs.size es' ep' t'->(∀x,x∈keys es'↔x∈keys ea\/x∈keys eb)->Q (.ref s.heap.objs.size) { s with heap:=h' }):wpAny (model prog w) A (Jc .BitOr (.ref a) (.ref b)) Q E s:=by
 refine wpAny_binaryOp_same (id := "set.__or__") Sa.ty Sb.ty PySem.F.fills_set_or PySem.F.slot_set_or (Cn PySem.F.slot_set_or Sa.ty jH ?_ (PySem.F.args_set_or_2 _ _))
 show wpAny (model prog w) _ (do
  let (self,other) <- Xu "__or__" ⟨[.ref a,.ref b],[]⟩
  let (l,r):=(self,other)
  if !(<- Jf l <&&> Jf r) then rule s!"frozenset.{"__or__"}.declined"; return <- ret .notImplemented
  ret (<- (do
   let result <- Nk (<- Eh l)
   if r != .ref (<- Eh l) then Ny [result] (Ma s!"frozenset.{"__or__"}" (<- Eh result) r)
   return result))) _ _ _
 refine Aa (m:=Xu "__or__" ⟨[.ref a,.ref b],[]⟩) (Jb (a:=(Ay a,Ay b)) rfl ?_)
 dsimp only
 refine Aa (Aa (Yr Sa.ty ?_))
 refine Yr Sb.ty ?_
 simp only[Sm,Bw,if_false]
 refine Aa (Aa (m:=Eh (.ref a)) (Ac (Aa (P3 hU Sa ka λe1 p1 t1 h1 k1 S1 m1=>?_))))
 have ne:s.heap.objs.size≠b:=Ql (Au Sb.obj)
 have nr:s.heap.get? s.heap.objs.size=none:=Wc (Aj _)
 have Sb1:SetS w h1 b eb epb tb:=Sb.keep λo q=>k1 b o q
 refine Aa (m:=Eh (.ref a)) (Ac ?_)
 rw[if_pos (show (Ay b != Ay a)=true by simpa using Ln ab)]
 refine Aa (m:=Eh (.ref s.heap.objs.size)) (Ac (Aa (Ck ?_)))
 unfold Ma
 refine Aa (Yr (s:={ s with heap:=h1 }) (w:=w) Sb1.ty ?_)
 w_pre j7
 refine Aa (m:=Eh (.ref b)) (Ac ?_)
 unfold Builtin.Frozenset.merge setEpoch
 refine Aa (Aa (Ha (s:={ s with heap:=h1 }) Sb1 (Ac ?_)))
 refine lY (s:={ s with heap:=h1 }) hU ne (λs' Q' So' q'=>?_) S1 Sb1 (λx hx=>ka x ((m1 x).mp hx)) kb λe2 p2 t2 h2 sb2 S2 m2=>?_
 ·unfold Builtin.Frozenset.unchanged setEpoch
  refine Aa (Aa (Ha So' (Ac ?_)))
  dsimp only
  rw[if_neg (by simp)]
  exact Ac q'
 ·refine Ac (Ac ⟨_,rfl,(λz=>nomatch z),h e2 p2 t2 h2 (uD k1 nr sb2) S2 λx=>by rw[m2,m1]⟩)
end
end NdS
namespace NdS
open PySem PyProof.Rows
section
variable{prog:Bl}{w:World}{A:Ce}{R:Result->Ai->Prop}
theorem cC{U:List Int}(hU:U.length<=62){a it l:Addr}(n1:a≠it)(n2:a≠l)(n3:l≠it){items:Array Value}{ns:List Int}(hI:Ez items.toList ns)(hN:Among U ns)(hh:A.in1.handled=none):∀(k i:Nat) (s:Ai) (es:Array (Int×Value)) (ep:Nat) (t:Cj),items.size - i=k->i<=items.size->s.heap.IsTupleIter it l i->s.heap.IsTuple l items->SetS w s.heap a es ep t->Among U (keys es)->(∀es' ep' t' h' tk,(∀b o,b≠a->b≠it->s.heap.get? b=some o->h'.get? b=some o)->SetS w h' a es' ep' t'->(∀x,x∈keys es'↔x∈keys es\/x∈ns.drop i)->R (.ok (.ret .none)) { s with heap:=h',toks:=tk })->Hb (model prog w) A (.builtin "set.update.loop" ⟨[.ref a,.ref it],[]⟩) R s:=by
 have len:ns.length=items.size:=by rw[<- hI.length,Am]
 intro k
 induction k with
 | zero =>
  intro i s es ep t hk hi hit hl S hu hR
  have e:i=items.size:=by omega
  w_pre g3
  refine Aa (C9 hh hit hl (by rw[e]; simp) λh' x=>?_)
  refine Ac (hR es ep t h' s.toks (λb o _ q e=>x b o q e) (S.keep λo q=>x a o n1 q) λx=>?_)
  rw[e,<- len,List.drop_length]
  simp
 | succ k ih =>
  intro i s es ep t hk hi hit hl S hu hR
  have lt:i<items.size:=by omega
  have lt':i<ns.length:=by omega
  obtain ⟨tk,ev⟩:=IntsAre.int_at hI i items[i] (by simp [lt])
  have eg:ns.getD i 0=ns[i]:=by simp [List.getD,lt']
  rw[eg] at ev
  w_pre g3
  refine Aa (C5 hit hl (x:=items[i]) (by simp [lt]) λh1 hit1 sb1=>?_)
  rw[ev]
  show wpAny _ A.in1 (Ny [Lb ns[i] tk] (setAdd a (.int ns[i] tk)) >>= _) _ _ _
  refine Aa (Ck ?_)
  unfold setAdd
  refine Ck (Aa ((Wj prog w).pyHash (k:=ns[i]) (intKind_is _ _ _ _) ?_))
  have S1:SetS w h1 a es ep t:=S.keep λo q=>(sb1.2 a n1).trans q
  have z:=hu.size S1.nd
  refine C1 (s:={ s with heap:=h1,toks:=s.toks+1 }) S1 (by omega) λb es2 ep2 t2 h2 sb2 S2 p2=>?_
  have m2:∀x,x∈keys es2↔x=ns[i]\/x∈keys es:=λx=>by rw[p2.mem_iff,tL]
  refine Ac ⟨Px Jx _,?_⟩
  refine ih (i+1) { s with heap:=h2,toks:=s.toks+1 } es2 ep2 t2 (by omega) lt ?_ ?_ S2 (λx hx=>?_) λes3 ep3 t3 h3 tk3 k3 S3 m3=>?_
  ·obtain ⟨o,ho,r⟩:=hit1
   exact ⟨o,(sb2.2 it (Ln n1)).trans ho,r⟩
  ·obtain ⟨o,ho,r⟩:=hl
   exact ⟨o,(sb2.2 l (Ln n2)).trans ((sb1.2 l n3).trans ho),r⟩
  ·rcases (m2 x).mp hx with q | q
   ·rw[q]; exact hN _ (List.getElem_mem lt')
   ·exact hu x q
  ·refine hR es3 ep3 t3 h3 tk3 (λb o q1 q2 e=>k3 b o q1 q2 ((sb2.2 b q1).trans ((sb1.2 b q2).trans e))) S3 λx=>?_
   rw[m3,m2,Rm lt',An]
   constructor
   ·rintro ((q | q) | q)
    ·exact .inr (.inl q)
    ·exact .inl q
    ·exact .inr (.inr q)
   ·rintro (q | q | q)
    ·exact .inl (.inr q)
    ·exact .inl (.inl q)
    ·exact .inr q
end
section
variable{prog:Bl}{w:World}{A:Ce}{E:Value->Ai->Prop}{s:Ai}
theorem yM(v:Value){Q:Value->Ai->Prop}(h:Q (.ref s.heap.objs.size) { s with heap:=s.heap.push (Kx #[] 0 (.fresh 0 0 (!bt w))) }):Hb (model prog w) A (.call (.builtin "set.__new__") ⟨[.type "set",v],[]⟩) (wants Q E) s:=by
 have sub:=Qf
 obtain ⟨hp,g,d,tk,os⟩:=s
 refine Xr (show wpAny _ A.in1 (do checkBuiltinCall "set.__new__" ⟨[.type "set",v],[]⟩; again (.builtin "set.__new__" ⟨[.type "set",v],[]⟩)) _ _ _ from ?_)
 refine Aa (Jb (PySem.F.newCall_set_1 v) (Ac ⟨Px PySem.F.plain_set_new _,Fw PySem.F.entry_set_new ?_⟩))
 rw[Fs PySem.F.plain_set_new _]
 unfold Builtin.«set.__new__» Builtin.Frozenset.newClass
 dsimp only
 wp_walk
 refine Vh (Ac ?_)
 dsimp only
 simp only[newObj]
 exact Aa (wpAny_alloc (Ac (Ac h)))
theorem O5{U:List Int}(hU:U.length<=62){l:Addr}{items:Array Value}{ns:List Int}{Q:Value->Ai->Prop}(hh:A.handled=none)(hl:s.heap.IsTuple l items)(hI:Ez items.toList ns)(hN:Among U ns)(h:∀es ep t h' tk,(∀b o,s.heap.get? b=some o->h'.get? b=some o)->SetS w h' s.heap.objs.size es ep t->(∀x,x∈keys es↔x∈ns)->Q (.ref s.heap.objs.size) { s with heap:=h',toks:=tk }):wpAny (model prog w) A (call (.type "set") [.ref l]) Q E s:=by
 obtain ⟨c,tl,hmro⟩:=PySem.F.called_set.mro
 have hmade:=PySem.F.called_set.made
 have hsub:=PySem.F.called_set.sub
 have h1:=PySem.F.called_set.notType
 have h2:=PySem.F.called_set.canCreate
 have hct:=PySem.F.typeCall_set_1 (.ref l)
 refine wpAny_call (Xr (show wpAny _ _ (callAny (.type "set") _) _ _ _ from ?_))
 refine Ac ⟨Code.quiet_builtin _ (by decide +kernel),Fw PySem.F.entry_type_call ?_⟩
 rw[Around.under_plain (weight_type_call_type "set" [.ref l] []) rfl]
 w_pre c7
 refine Nz (yM (.ref l) (E:=E) (Q:=λv s1=>v=.ref s.heap.objs.size/\s1={ s with heap:=s.heap.push (Kx #[] 0 (.fresh 0 0 (!bt w))) }) ⟨rfl,rfl⟩) λr s1 hr=>?_
 rcases r with e | (_ | _ | _ | v)
 w_pre t1
 obtain ⟨rfl,rfl⟩:=hr
 have S0:=fO (w:=w) (h:=s.heap)
 have T0:Shared.TypeIs { s with heap:=s.heap.push (Kx #[] 0 (.fresh 0 0 (!bt w))) } (.ref s.heap.objs.size) "set" := ⟨_,S0.obj,rfl⟩
 have hli:=PySem.F.called_set.init.lookup
 have hbi:=PySem.F.called_set.init.bind (.ref s.heap.objs.size)
 w_pre c7
 refine Nz (codeAny_call_builtin (R:=wants (λr s2=>r=.none/\∃es ep t h' tk,s2={ s with heap:=h',toks:=tk }/\(∀b o,s.heap.get? b=some o->h'.get? b=some o)/\SetS w h' s.heap.objs.size es ep t/\∀x,x∈keys es↔x∈ns) E)
  PySem.F.called_set.init.plain PySem.F.entry_set_init (check_set_init_1 T0 ?_)) λr s2 hr=>?_
 ·obtain ⟨⟨oc,od,odt,osl⟩,ho,hc,n,hd⟩:=id hl
  have hc':oc=.type "tuple" := hc
  have hd':odt=.seq items n:=hd
  subst hc' hd'
  have ho':=Ah (Kx #[] 0 (.fresh 0 0 (!bt w))) ho
  have hl1:(s.heap.push (Kx #[] 0 (.fresh 0 0 (!bt w)))).IsTuple l items:=⟨_,ho',rfl,n,rfl⟩
  have f1:=PySem.F.sub_tuple_set
  have f2:=PySem.F.sub_tuple_frozenset
  have f3:(Gd "tuple" == Gd "dict")=false:=by decide
  have lt:=Au ho
  unfold Builtin.«set.__init__» noKeywords Ma
  generalize hPI:Zn=PI
  wp_walk
  subst hPI
  refine wpAny_pyIter_tuple hl1 (Aa (wpAny_runValue ?_))
  have sz:(s.heap.push (Kx #[] 0 (.fresh 0 0 (!bt w)))).objs.size=s.heap.objs.size+1:=Fc _ _
  have g1:((s.heap.push (Kx #[] 0 (.fresh 0 0 (!bt w)))).push { cls:=.type "tuple_iterator",data:=.fields #[.ref l,.int 0 0] }).get? (s.heap.push (Kx #[] 0 (.fresh 0 0 (!bt w)))).objs.size=some { cls:=.type "tuple_iterator",data:=.fields #[.ref l,.int 0 0] }:=Ap _ rfl
  refine cC hU (by rw[sz]; exact Bu (Tb _)) (Ql lt) (by rw[sz]; exact Bu (Fg lt)) hI hN (by simp [hh]) (items.size - 0) 0 _ #[] 0 (.fresh 0 0 (!bt w)) rfl (Di _) ⟨_,g1,rfl,rfl⟩ ⟨_,Ah _ ho',rfl,n,rfl⟩
   (S0.keep λo q=>Ah _ q) (λx hx=>by simp at hx) λes ep t h' tk k' S' m'=>?_
  refine Ac (Ac ⟨rfl,es,ep,t,h',tk,rfl,λb o e=>?_,S',λx=>?_⟩)
  ·have lb:=Au e
   exact k' b o (Bu lb) (by rw[sz]; exact Bu (Fg lb)) (Ah _ (Ah _ e))
  ·rw[m',Wb]
   simp
 ·rcases r with e | (_ | _ | _ | v)
  w_pre t1
  obtain ⟨rfl,es,ep,t,h',tk,rfl,k',S',m'⟩:=hr
  w_pre c7
  exact h es ep t h' tk k' S' m'
end
theorem Up:Slot "set_iterator" "__next__" "set_iterator.__next__" :=
 .of (owner := "set_iterator") (n := "__next__") (by rw[Xq,Pn]; kernel_rfl) (by decide +kernel) (by decide +kernel) (by decide +kernel) (by first | exact .inl (by decide +kernel) | exact .inr (by decide +kernel)) (by rw[Zp]; kernel_rfl)
theorem cG:entryFor table "set_iterator.__next__" = some Builtin.«set_iterator.__next__»:=entryFor_of_tree (by kernel_rfl)
theorem fR(a:Value):argsOk "set_iterator.__next__" ⟨[a],[]⟩:=by unfold argsOk; kernel_rfl
theorem qB:entryFor table "set.__iter__" = some Builtin.«frozenset.__iter__» :=
 Zr (id' := "frozenset.__iter__") (by kernel_rfl) (by first | rfl | decide +kernel) (by decide +kernel) (by kernel_rfl)
abbrev rT(f i:Nat)(a:Addr)(n ep:Nat):Obj:={ cls:=.type "set_iterator",data:=.fields #[Er f,Er i,.ref a,Er n,Er ep] }
def arrOf(w:World)(a:Addr)(ep:Nat)(es:Array (Int×Value)):Array (Int×Value):=if bt w then Vi (w.params.setOrder a ep) es else es
theorem yQ{w:World}{a:Addr}{ep:Nat}{es:Array (Int×Value)}:(arrOf w a ep es).toList.Perm es.toList:=fX
theorem Rb{w:World}{a:Addr}{ep:Nat}{es:Array (Int×Value)}:(arrOf w a ep es).size=es.size:=by
 have:=(yQ (w:=w) (a:=a) (ep:=ep) (es:=es)).length_eq
 rw[Am,Am] at this
 exact this
def nK(w:World)(I a:Addr)(es:Array (Int×Value))(ep:Nat)(t:Cj)(i:Nat)(h:Heap):Prop :=
 (∃f,h.get? I=some (rT f i a es.size ep)/\(bt w=false->Cm t.place f=i))/\SetS w h a es ep t
section
variable{prog:Bl}{w:World}{A:Ce}{E:Value->Ai->Prop}{s:Ai}
theorem O9{a:Addr}{es:Array (Int×Value)}{ep:Nat}{t:Cj}{Q:Value->Ai->Prop}(S:SetS w s.heap a es ep t)(h:Q (.ref s.heap.objs.size) { s with heap:=s.heap.push (rT 0 0 a es.size ep) }):wpAny (model prog w) A (Zn (.ref a)) Q E s:=by
 refine Ub S.ty PySem.F.slot_set_iter (Cn PySem.F.slot_set_iter S.ty qB ?_ (PySem.F.args_set_iter_1 _))
 unfold Builtin.«frozenset.__iter__»
 refine Aa (m:=Builtin.Frozenset.slot0 "__iter__" ⟨[.ref a],[]⟩) (Jb (a:=a) rfl ?_)
 unfold Builtin.Frozenset.sizeOf dN setDrawn setEpoch
 refine Aa (Aa (Aa (Ha S (Ac (Ac ?_)))))
 refine Aa (Aa (Ha S ?_))
 dsimp only
 refine Aa (Rj (Ac ?_))
 have hp:=S.tab.plain
 have tail:wpAny (model prog w) A.in1 (do
   let first <- (pure (Er 0):Sem Value)
   ret (<- newFields "set_iterator" [first,Er 0,.ref a,Er es.size,Er (<- (do return (<- setState a).2.1))])) (λfin s'=>∃v,fin=.done (.ret v)/\∃T' r,s'.TypeIs v T'/\dI (.type T') "__next__" = pure (some r)/\Q v s') E s:=by
  refine Aa (Ac ?_)
  refine Aa (Aa (Ha S (Ac ?_)))
  refine Aa (Ca (Ac ⟨_,rfl, "set_iterator",_,⟨_,Ap _ rfl,rfl⟩,Up.lookup,h⟩))
 obtain ⟨mask,place,dummies,finger,led,moves,plain⟩:=t
 have hp':plain=true:=hp
 subst hp'
 cases hb:bt w with
 | true=>exact tail
 | false=>exact tail
theorem bX{a:Addr}{es:Array (Int×Value)}{ep f i:Nat}{t:Cj}{Q:Option (Value×Nat)->Ai->Prop}(S:SetS w s.heap a es ep t)(hf:bt w=false->Cm t.place f=i)(h1:∀(hi:i<es.size) f',(bt w=false->Cm t.place f'=i+1)->Q (some (((arrOf w a ep es)[i]'(by rw[Rb]; exact hi)).2,f')) s)(h2:es.size<=i->Q none s):wpAny (model prog w) A (setNext a f i ep) Q E s:=by
 unfold setNext
 w_pre k8
 dsimp only
 refine Aa (Rj ?_)
 cases hb:bt w with
 | true =>
  rw[if_pos rfl,if_neg (by simp)]
  refine Aa (sN S (Ac ?_))
  show Q (((arrOf w a ep es)[i]?).map λe=>(e.2,f)) s
  by_cases hi:i<es.size
  ·rw[Ih (by rw[Rb]; exact hi)]
   exact h1 hi f (λz=>by rw[hb] at z; cases z)
  ·rw[Mu (by rw[Rb]; omega)]
   exact h2 (by omega)
 | false =>
  have hl:=S.led hb
  have hp:=S.tab.plain
  have tail:wpAny (model prog w) A (pure (match es[Cm t.place f]?,t.place[Cm t.place f]? with
    | some (_,x),some j=>some (x,j+1)
    | _,_=>none):Sem (Option (Value×Nat))) Q E s:=by
   rw[hf hb]
   by_cases hi:i<es.size
   ·have hi2:i<t.place.size:=by rw[S.tab.size]; exact hi
    rw[Ih hi,Ih hi2]
    refine Ac ?_
    have:=h1 hi (t.place[i]+1) (λ_=>pJ S.tab.rise hi2)
    have e:arrOf w a ep es=es:=by unfold arrOf; rw[hb]; rfl
    simp only[e] at this
    exact this
   ·rw[Mu (by omega)]
    exact Ac (h2 (by omega))
  w_pre f1
  exact Aa (m:=(pure ():Sem Unit)) (Ac tail)
theorem wC{I a:Addr}{es:Array (Int×Value)}{ep:Nat}{t:Cj}{i:Nat}{Q:Option Value->Ai->Prop}(st:nK w I a es ep t i s.heap)(ne:a≠I)(hi:i<es.size)(h:∀h',nK w I a es ep t (i+1) h'->Ct I s.heap h'->Q (some ((arrOf w a ep es)[i]'(by rw[Rb]; exact hi)).2) { s with heap:=h' }):wpAny (model prog w) A (Hi (.ref I)) Q E s:=by
 w_pre a0
 dsimp only
 refine Aa (Nx ho rfl ?_)
 show wpAny (model prog w) A.in1 (do
  if (((<- dN a).size:Nat):Int) != (es.size:Int) then
   rule "set_iterator.__next__.size-changed"
   Mp (.ref I) 3 (Er (-1))
   raiseError "RuntimeError" "Set changed size during iteration"
  match <- setNext a (f:Int).toNat (i:Int).toNat (ep:Int).toNat with
  | some (x,next) =>
   Mp (.ref I) 0 (Er next)
   Mp (.ref I) 1 (Er ((i:Int)+1))
   ret x
  | none=>Mp (.ref I) 2 .none; raiseNew (<- newExc (.type "StopIteration") [])) _ _ _
 w_pre q1
 refine Aa (bX S hf (λ_ f' hf'=>?_) (λz=>absurd hi (by omega)))
 dsimp only
 refine Aa (Lx ho rfl (by simp) ?_)
 have g1:(s.heap.update I (Oq (·.setIfInBounds 0 (Er f')))).get? I=some (rT f' i a es.size ep):=Eu _ ho rfl
 refine Aa (Lx g1 rfl (by simp) (Ac ⟨_,rfl,Ac (h _ ⟨⟨f',?_,hf'⟩,?_⟩ ((Bo ..).trans (Bo ..)))⟩))
 ·exact Eu _ g1 rfl
 ·refine S.keep λo q=>?_
  exact ((Bo _ _ _).2 a ne).trans (((Bo _ _ _).2 a ne).trans q)
theorem yH{I a:Addr}{es:Array (Int×Value)}{ep:Nat}{t:Cj}{Q:Option Value->Ai->Prop}(hh:A.handled=none)(st:nK w I a es ep t es.size s.heap)(h:∀h',Wd I s.heap h'->Q none { s with heap:=h' }):wpAny (model prog w) A (Hi (.ref I)) Q E s:=by
 w_pre a0
 dsimp only
 refine Aa (Nx ho rfl ?_)
 show wpAny (model prog w) A.in1 (do
  if (((<- dN a).size:Nat):Int) != (es.size:Int) then
   rule "set_iterator.__next__.size-changed"
   Mp (.ref I) 3 (Er (-1))
   raiseError "RuntimeError" "Set changed size during iteration"
  match <- setNext a (f:Int).toNat (es.size:Int).toNat (ep:Int).toNat with
  | some (x,next) =>
   Mp (.ref I) 0 (Er next)
   Mp (.ref I) 1 (Er ((es.size:Int)+1))
   ret x
  | none=>Mp (.ref I) 2 .none; raiseNew (<- newExc (.type "StopIteration") [])) _ _ _
 w_pre q1
 refine Aa (bX S hf (λz _ _=>absurd z (Fo _)) (λ_=>?_))
 dsimp only
 refine Aa (Lx ho rfl (by simp) (Aa ?_))
 simp only[newExc,newTuple]
 refine Aa (Ca ?_ (by size_fits))
 refine Aa (m:=Jw _ _) (Jb (a:=Fp) (by first | rfl | (simp only[Jw]; rfl)) (Ca ?_ (by size_fits)))
 simp only[raiseNew]
 refine Aa (wpAny_handled ?_)
 rw[show A.in1.handled=none from hh]
 refine Aa (Ac (wpAny_throw ?_))
 refine Aa (Gy (T := "StopIteration") (b:=true) ⟨_,Ap _ rfl,rfl⟩ Zq ?_)
 exact Ac (h _ (((Bo ..).extBut.push _).push _))
end
theorem fQ:Slot "set_iterator" "__iter__" "set_iterator.__iter__" :=
 .of (owner := "set_iterator") (n := "__iter__") (by rw[Xq,Pn]; kernel_rfl) (by decide +kernel) (by decide +kernel) (by decide +kernel) (by first | exact .inl (by decide +kernel) | exact .inr (by decide +kernel)) (by rw[Zp]; kernel_rfl)
theorem pO:entryFor table "set_iterator.__iter__" = some Builtin.«dict_keyiterator.__iter__» :=
 Zr (id' := "dict_keyiterator.__iter__") (by kernel_rfl) (by first | rfl | decide +kernel) (by decide +kernel) (by kernel_rfl)
theorem uY(a:Value):argsOk "set_iterator.__iter__" ⟨[a],[]⟩:=by unfold argsOk; kernel_rfl
section
variable{prog:Bl}{w:World}{A:Ce}{E:Value->Ai->Prop}{s:Ai}
theorem uH(hh:A.handled=none){I a:Addr}(ne:a≠I)(es:Array (Int×Value))(ep:Nat)(t:Cj):Walks prog w A I [I,a] [I] es.size (λi v=>∃e,(arrOf w a ep es)[i]? = some e/\v=e.2) (λi h=>nK w I a es ep t i h) where
 sub:=λb hb=>by simp at hb; simp [hb]
 frame:=λi h h' ⟨⟨f,ho,hf⟩,S⟩ hk=>⟨⟨f,hk I (by simp) _ ho,hf⟩,S.keep λo q=>hk a (by simp) o q⟩
 item:=λi s Q E hi st hQ=>wC st ne hi λh' st' sb=>hQ _ h' s.toks ⟨_,Ih (by rw[Rb]; exact hi),rfl⟩ st' λb o hb e=>(sb.2 b (λz=>hb (by simp [z]))).trans e
 done:=λs Q E st hQ=>yH hh st λh' x=>hQ h' s.toks λb o hb e=>x b o (λz=>hb (by simp [z])) e
 self:=λi s Q E st hQ=>by
  obtain ⟨⟨f,ho,hf⟩,S⟩:=st
  have T:s.TypeIs (.ref I) "set_iterator" := ⟨_,ho,rfl⟩
  refine Ub T fQ (Cn fQ T pO ?_ (uY _))
  exact Ac ⟨_,rfl, "set_iterator",_,T,Up.lookup,hQ⟩
theorem j6{r:Addr}{Q:Bool->Ai->Prop}(hT:s.TypeIs (.ref r) "set")(h:Q false s):wpAny (model prog w) A (Ya (.ref r)) Q E s:=by
 unfold Ya
 refine Aa (wpAny_specialOf hT PySem.F.slot_set_len.lookup ?_)
 generalize hid:("set.__len__" : String)=id0
 wp_delta
 rw[show splitId id0=some ("set", "__len__") from by subst hid; decide +kernel]
 subst hid
 refine Aa (Gy (T := "set") (b:=true) hT Qf ?_)
 refine wpAny_ite_split (λz=>absurd z (by decide)) (λ_=>wpAny_ite_split (λ_=>?_) (λz=>absurd (by decide +kernel) z))
 exact Aa (Hv hT (Ac h))
theorem R8(a:Addr)(es:Array (Int×Value))(ep:Nat)(t:Cj):PySem.W.KdlSrc prog w "set" a a es.size (λi v=>∃e,(arrOf w a ep es)[i]? = some e/\v=e.2) (λh=>SetS w h a es ep t) where
 type:=λs S=>S.ty
 there:=λh S=>⟨Au S.obj,Au S.obj⟩
 keep:=λh h' S k=>S.keep λo q=>k a (.inl rfl) o q
 notList:=by decide
 notTuple:=by decide
 hint:=λA E s Q S h=>j6 S.ty h
 iter:=λA s hh S=>by
  have lt:=Au S.obj
  refine ⟨rT 0 0 a es.size ep,λi h=>nK w s.heap.objs.size a es ep t i h,λE Q h=>O9 S h,?_,⟨⟨0,Ap _ rfl,λ_=>mO S.tab.rise⟩,S.keep λo q=>Ah _ q⟩⟩
  exact uH hh (Bu lt) es ep t
theorem dR{arr:Array (Int×Value)}(he:∀e∈arr.toList,Ww e){acc:Array Value}(h:ItemsOf (λi v=>∃e,arr[i]? = some e/\v=e.2) acc arr.size):Ez acc.toList (arr.toList.map Nc):=by
 have key:∀(l:List (Int×Value)) (vs:List Value),(∀e∈l,Ww e)->vs.length=l.length->(∀(j:Nat) v,vs[j]? = some v->∃e,l[j]? = some e/\v=e.2)->Ez vs (l.map Nc):=by
  intro l
  induction l with
  | nil =>
   intro vs _ hl _
   cases vs with
   | nil=>exact .nil
   | cons v vs=>cases hl
  | cons e l ih =>
   intro vs he hl hv
   cases vs with
   | nil=>cases hl
   | cons v vs =>
    obtain ⟨k,tk,rfl⟩:=he e (Ab ..)
    obtain ⟨e',h1,h2⟩:=hv 0 v rfl
    cases h1
    subst h2
    exact .cons k tk (ih vs (λe hm=>he e (Ad _ hm)) (by simpa using hl) λj u hj=>hv (j+1) u (by simpa using hj))
 refine key arr.toList acc.toList he (by rw[Am,Am]; exact h.1) λj v hj=>?_
 obtain ⟨e,h1,h2⟩:=h.2 j v (by rw[<- Fh]; exact hj)
 exact ⟨e,by rw[Fh]; exact h1,h2⟩
theorem qD{a:Addr}{es:Array (Int×Value)}{ep:Nat}{t:Cj}{Q:Value->Ai->Prop}(hh:A.handled=none)(S:SetS w s.heap a es ep t)(h:∀(p:Addr) (out:Array Value) (ns:List Int) (n:Nat) (h1 h':Heap) (tk:Nat),Ez out.toList ns->ns.Perm (keys es)->ns.Pairwise (·<=·)->(∀b o,s.heap.get? b=some o->h1.get? b=some o)->h1.objs.size<=p->(∀b o,h1.get? b=some o->h'.get? b=some o)->h'.get? p=some (Ej "list" out n)->Q (.ref p) { s with heap:=h',toks:=tk }):wpAny (model prog w) A (call (.builtin "sorted") [.ref a]) Q E s:=by
 w_pre j5
 refine Aa (m:=checkCount "sorted" 1 1 _) (Ac (Aa (PySem.W.kdu_collect (A:=A.in1) (R8 a es ep t) hh S (small S.few) λh1 tk acc k1 hacc=>?_)))
 have hacc':ItemsOf (λi v=>∃e,(arrOf w a ep es)[i]? = some e/\v=e.2) acc (arrOf w a ep es).size:=by rw[Rb]; exact hacc
 have hI:=dR (λe he=>S.ent e (yQ.mem_iff.mp he)) hacc'
 have len:acc.toList.length<64:=by rw[Am,hacc.1]; exact S.few
 refine Aa (Uv ?_ (Cg (Iw len) (by rw[Hh]; decide)))
 have g1:(h1.push (Ej "list" acc.toList.toArray 0)).get? h1.objs.size=some (Ej "list" acc.toList.toArray 0):=Ap _ rfl
 refine Aa (Ck (Cn slot_list_sort ⟨_,g1,rfl⟩ entry_list_sort (list_sort_tree (s:={ s with heap:=h1.push (Ej "list" acc.toList.toArray 0),toks:=tk }) g1 hI len λout ns' a1 a2 a3=>⟨_,rfl,?_⟩) (args_list_sort _)))
 refine Ac ⟨_,rfl,?_⟩
 have g2:=Mx g1 (λ_=>#[])
 have g3:=Ah (Ej "list" #[] 0) (Ah (Ej "tuple" acc.toList.toArray 0) g2)
 have g4:=Mx g3 (λ_=>out)
 refine h h1.objs.size out ns' _ h1 _ tk a1 (a2.trans (yQ.map Nc)) a3 k1 (Aj _) (λb o e=>?_) g4
 have nb:b≠h1.objs.size:=Bu (Au e)
 exact ((Bo _ _ _).2 b nb).trans (Ah _ (Ah _ (((Bo _ _ _).2 b nb).trans (Ah _ e))))
end
end NdS
namespace Nd
open PySem PySem.Spec PyProof.Rows L2 NdS
def A3(w:World)(a:Addr)(ks:List Int)(h:Heap):Prop:=∃es ep t,SetS w h a es ep t/\∀x,x∈keys es↔x∈ks
abbrev Wo(w:World)(a:Addr)(ks:List Int):HO:=.ext (A3 w a ks)
theorem sR{P:Bl}{w w':World}{H:Hp}{h:Heap}{a:Addr}{ks:List Int}(e:A3 w a ks h):Hl P w' H h a (Wo w a ks) :=
 ⟨e,let ⟨_,_,_,S,_⟩:=e; ⟨_,S.obj⟩,λh1 h2 ⟨es,ep,t,S,m⟩ k=>⟨es,ep,t,S.keep λo q=>k o q,m⟩⟩
theorem bV{P:Bl}{w:World}{H:Hp}{h:Heap}{a:Addr}{ks:List Int}(ok:Vf P w H h)(e:H a=some (Wo w a ks)):A3 w a ks h :=
 (show Hl P w H h a (Wo w a ks) from ok a _ e).1
section
variable{X:Cx}
def Z0(w:World)(K:PySem.W.Frag):List V->Hp->VK->Prop:=λxs H Q=>∃(a:Addr) (ns U:List Int),xs=[.ref a]/\Ta K H a (ns.map V.int)/\U.length<=62/\Among U ns/\∀p,H p=none->Q (.ref p) (upd H p (Wo w p ns))
theorem cS(hc:X.calm=true):Mc X (.type "set") (Z0 X.w X.K):=by
 w_pre x6
 obtain ⟨a,ns,U,rfl,hs,hU,hN,q⟩:=h
 w_pre n4
 obtain ⟨its,rv,⟨o,e,hcl,n,hd⟩,_⟩:=I.tuple hs
 refine O5 hU (I.ok.hd hc) ⟨o,e,hcl,n,hd⟩ (by simpa using intsAre_of rv) hN λes ep t h' tk k S m=>?_
 exact ⟨.ref s.heap.objs.size,_,I.laid k (Aj _) (sR ⟨es,ep,t,S,m⟩),rfl,q _ (I.hok.fresh (Aj _))⟩
def IZ(w:World):R2:=λx y H Q=>∃(a b:Addr) (ks ls U:List Int),x=.ref a/\y=.ref b/\a≠b/\H a=some (Wo w a ks)/\H b=some (Wo w b ls)/\U.length<=62/\Among U ks/\Among U ls/\∀p,H p=none->Q (.ref p) (upd H p (Wo w p (ks++ls)))
theorem A5:Xe X (Jc .BitOr) (IZ X.w):=by
 w_pre k7
 obtain ⟨a,b,ks,ls,U,rfl,rfl,ne,ha,hb,hU,h1,h2,q⟩:=h
 cases rx
 cases ry
 obtain ⟨ea,pa,ta,Sa,ma⟩:=bV I.hok ha
 obtain ⟨eb,pb,tb,Sb,mb⟩:=bV I.hok hb
 refine GG hU ne Sa Sb (λx hx=>h1 x ((ma x).mp hx)) (λx hx=>h2 x ((mb x).mp hx)) λes ep t h' k S m=>?_
 exact ⟨.ref s.heap.objs.size,_,I.laid (t':=s.toks) k (Aj _) (sR ⟨es,ep,t,S,λx=>by rw[m,ma,mb,Aw]⟩),rfl,q _ (I.hok.fresh (Aj _))⟩
theorem Wu:∀{vs:List Value} {ns:List Int},Ez vs ns->Gf (ns.map V.int) vs
 | _,_,.nil=>.nil
 | _,_,.cons n t h=>.cons ⟨t,rfl⟩ (Wu h)
def rX(w:World):List V->Hp->VK->Prop:=λxs H Q=>∃(a:Addr) (ks:List Int),xs=[.ref a]/\H a=some (Wo w a ks)/\∀(p:Addr) (ns:List Int),H p=none->ns.Nodup->ns.Pairwise (·<=·)->(∀x,x∈ns↔x∈ks)->Q (.ref p) (upd H p (.lst (ns.map V.int)))
theorem Xa(hc:X.calm=true):Mc X (.builtin "sorted") (rX X.w):=by
 w_pre x6
 obtain ⟨a,ks,rfl,ha,q⟩:=h
 w_pre n4
 obtain ⟨es,ep,t,S,m⟩:=bV I.hok ha
 refine qD (I.ok.hd hc) S λp out ns n h1 h' tk hi hp hs k1 hge k2 hg=>?_
 have I1:Inv X pins σ H { s with heap:=h1,toks:=tk }:=I.kept k1
 have nd:ns.Nodup:=hp.nodup_iff.mpr S.nd
 have hl:ns.length<64:=by
  rw[hp.length_eq,Af,Am]
  exact S.few
 refine ⟨.ref p,upd H p (.lst (ns.map V.int)),I1.laid (t':=tk) k2 hge ⟨by rw[Af,Hh]; omega,out.toList,n,Wu hi,by simpa using hg⟩,rfl,q p ns (I1.hok.fresh hge) nd hs λx=>by rw[hp.mem_iff,m]⟩
end
end Nd
namespace Nd
open PySem L2
def Zi(d:Addr)(H H':Hp):Prop:=∀b o,b≠d->H b=some o->H' b=some o
theorem Zi.trans{d:Addr}{H H1 H2:Hp}(a:Zi d H H1)(b:Zi d H1 H2):Zi d H H2:=λc o n h=>b c o n (a c o n h)
theorem Zi.upd{d:Addr}{H:Hp}{o:HO}:Zi d H (upd H d o):=λb o n h=>by rw[Dr n]; exact h
theorem Sx.tup{K:PySem.W.Frag}{H H':Hp}{a:Addr}{xs:List V}(e:Sx H H')(h:Ta K H a xs):Ta K H' a xs:=by
 rcases h with (h | ⟨o,h⟩) | h
 ·exact .inl (.inl (e _ _ h))
 ·exact .inl (.inr ⟨o,e _ _ h⟩)
 ·exact .inr h
theorem small{n:Nat}(h:n<=1000):n<=Aq:=Iw (fV h)
theorem kD{n:Nat}(h:n<=1000000):n<=Aq:=by rw[Hh]; omega
theorem gV(a b:Int)(h:0<b):0<=a % b/\a % b<b:=⟨Int.emod_nonneg _ (by omega),Int.emod_lt_of_pos _ h⟩
def Gp(h:Int)(ns:List Int):Prop:=ns.Pairwise (· < ·)/\∀x∈ns,0<=x/\x<h
theorem Gp.nil(h:Int):Gp h []:=⟨Ea,λx hx=>by cases hx⟩
theorem Gp.more{h:Int}{ns:List Int}(r:Gp h ns)(h0:0<=h):Gp (h+1) (ns++[h]) :=
 ⟨Cr.mpr ⟨r.1,Ey _ _,λa ha b hb=>by rw[Al.mp hb]; exact (r.2 a ha).2⟩,λx hx=>by
  w_pre z7
  ·have:=r.2 x z; omega
  ·have:=Al.mp z; omega⟩
theorem Gp.up{h h':Int}{ns:List Int}(r:Gp h ns)(l:h<=h'):Gp h' ns:=⟨r.1,λx hx=>by have:=r.2 x hx; omega⟩
def iH(H:Hp)(d:Addr)(c k:Int)(f:Bool):Prop:=H d=some (.lst [.int c,.int k,.bl f])
def yK:Sp:=λvs H Q _=>∃(d:Addr) (c k:Int) (f:Bool),vs=[.ref d]/\iH H d c k f/\0<=k/\k<=1000000/\∀(r c':Int) (H':Hp),iH H' d c' (k+1) f->Zi d H H'->Q (.int r) H'
def Br(ns:List Int):Ae:=.tuple (ns.map Ax)
theorem pV(ns:List Int):(Br ns).depth<=1:=by
 have : (Br ns).depth<=Bs (ns.map Ax)+1:=by simp [Br,Dy]
 rw[pD] at this
 exact this
def CQ:List Int:=(Cd 60).map λi:Nat=>(i:Int)
theorem Ws{x:Int}(h0:0<=x)(h1:x<60):x∈CQ:=Df.mpr ⟨x.toNat,Ky.mpr (by omega),by omega⟩
theorem E5(TD:List Ae):Ef (.list TD) (.list [])=TD.isEmpty:=by cases TD <;> simp [Ef,Pl]
theorem eT:∀{l1 l2:List Int},l1.Pairwise (· < ·)->l2.Pairwise (· < ·)->(∀x,x∈l1↔x∈l2)->l1=l2
 | [],[],_,_,_=>rfl
 | [],b::l,_,_,h=>by have:=(h b).mpr Ab; cases this
 | a::l,[],_,_,h=>by have:=(h a).mp Ab; cases this
 | a::l1,b::l2,p1,p2,h=>by
  obtain ⟨h1,q1⟩:=Bb.mp p1
  obtain ⟨h2,q2⟩:=Bb.mp p2
  have e:a=b:=by
   rcases An.mp ((h a).mp Ab) with z | z
   ·exact z
   ·rcases An.mp ((h b).mpr Ab) with y | y
    ·exact y.symm
    ·have:=h1 b y; have:=h2 a z; omega
  subst e
  rw[eT q1 q2 λx=>⟨λhx=>?_,λhx=>?_⟩]
  ·rcases An.mp ((h x).mp (Ad _ hx)) with z | z
   ·have:=h1 x hx; omega
   ·exact z
  ·rcases An.mp ((h x).mpr (Ad _ hx)) with z | z
   ·have:=h2 x hx; omega
   ·exact z
theorem rZ{ns:List Int}(r:Gp 60 ns):NdS.Among CQ ns:=λx hx=>Ws (r.2 x hx).1 (r.2 x hx).2
def U7(K:PySem.W.Frag):Sp:=λvs H Q _=>∃(a b:Addr) (ns ms:List Int),vs=[.ref a,.ref b]/\Ta K H a (ns.map V.int)/\Ta K H b (ms.map V.int)/\Gp 60 ns/\Gp 60 ms /\
 ∀(r:Addr) (ts:List Int) (H':Hp),H r=none->H' r=some (.tup (ts.map V.int))->ts.Nodup->ts.Pairwise (·<=·)->(∀x,x∈ts↔x∈ns++ms)->Sx H H'->Q (.ref r) H'
def order{α:Type}(a b:α)(l:List α):Option Bool->List α
 | none=>l
 | some true=>[a,b]
 | some false=>[b,a]
structure TD(K:PySem.W.Frag)(H:Hp)(x:V)(d:Ae)(n m:Nat):Prop where
 rd:RdV K H x d
 fits:FC 22 d
 nd:R9 d<=n
 dp:d.depth<=m
abbrev V6(K:PySem.W.Frag):List V->Hp->VK->Prop:=λxs H Q=>∃p ys,xs=[V.ref p]/\(Pe K H p ys\/Ta K H p ys)/\∀l,H l=none->Q (.ref l) (upd H l (.lst ys))
theorem M7{X:Cx}:Mc X (.type "list") (V6 X.K):=iK
abbrev T5(K:PySem.W.Frag):List V->Hp->VK->Prop:=λxs H Q=>∃p ys,xs=[V.ref p]/\((Pe K H p ys/\∀l,H l=none->Q (.ref l) (upd H l (.tup ys)))\/(Ta K H p ys/\Q (.ref p) H))
theorem bL{X:Cx}:Mc X (.type "tuple") (T5 X.K):=Vg
end Nd
namespace DL
open PySem L2 Nd
def KL(K:PySem.W.Frag)(H:Hp)(a:Addr)(xs:List V):Prop :=
 (∃o,H a=some (.frz o (.lst xs)))\/∃(its:Array Value) (n:Nat),K.lookup a=some { cls:=.type "list",data:=.seq its n }/\its.size<=Aq/\Gf xs its.toList
def lD:Nat->Ae
 | 0=>.none
 | n+1=>.tuple [lD n]
def Ov(ks:List (List Int×Ae)):List (Ae×Ae):=(lD 100,.none)::ks.map λp=>(Br p.1,p.2)
def Ld(w:List Int):List Jp:=w.map Xs
mutual
inductive RdF (K:PySem.W.Frag) (H:Hp):V->Ae->List Addr->Prop
 | non:RdF K H .non .none []
 | bl (b:Bool):RdF K H (.bl b) (.bool b) []
 | int (i:Int):RdF K H (.int i) (.int i) []
 | str (x:Str):RdF K H (.str x) (.str x) []
 | lst {a:Addr} {xs:List V} {ds:List Ae} {F:List Addr}:H a=some (.lst xs)->ds.length<=Aq->RdFs K H xs ds F->RdF K H (.ref a) (.list ds) (a::F)
 | tup {a:Addr} {xs:List V} {ds:List Ae} {F:List Addr}:H a=some (.tup xs)->ds.length<=Aq->RdFs K H xs ds F->RdF K H (.ref a) (.tuple ds) F
 | dic {a:Addr} {kv:List (List Jp×V)} {ks:List (List Int×Ae)}:H a=some (.dT kv)->kv.map (·.1)=ks.map (λp=>Ld p.1)->RdFs K H (kv.map (·.2)) (ks.map (·.2)) []->RdF K H (.ref a) (.dict (Ov ks)) [a]
inductive RdFs (K:PySem.W.Frag) (H:Hp):List V->List Ae->List Addr->Prop
 | nil:RdFs K H [] [] []
 | cons {x:V} {d:Ae} {xs:List V} {ds:List Ae} {F G:List Addr}:RdF K H x d F->RdFs K H xs ds G->RdFs K H (x::xs) (d::ds) (F++G)
end
def JR(o:HO):Prop:=(∃xs,o=.tup xs)\/∃ob u,o=.frz ob u
def Kp(F:List Addr)(H H':Hp):Prop:=∀b o,H b=some o->(b∈F\/JR o)->H' b=some o
theorem Kp.of{F:List Addr}{H H':Hp}(s:Sx H H'):Kp F H H':=λb o e _=>s b o e
theorem Kp.sub{F G:List Addr}{H H':Hp}(k:Kp F H H')(h:∀a∈G,a∈F):Kp G H H':=λb o e z=>k b o e (z.imp (h b) id)
section
variable{K:PySem.W.Frag}{H H':Hp}
theorem KL.kp{a:Addr}{xs:List V}{F:List Addr}(h:KL K H a xs)(k:Kp F H H'):KL K H' a xs:=by
 rcases h with ⟨o,h⟩ | h
 ·exact .inl ⟨o,k _ _ h (.inr (.inr ⟨_,_,rfl⟩))⟩
 ·exact .inr h
theorem KL.sq{a:Addr}{xs:List V}(h:KL K H a xs):Pe K H a xs:=by
 rcases h with ⟨o,h⟩ | ⟨its,n,h,hz,r⟩
 ·exact .inl (.inr ⟨o,h⟩)
 ·exact .inr ⟨_,its,n,h,rfl,rfl,rfl,hz,r⟩
mutual
theorem RdF.kp:∀{v:V} {d:Ae} {F:List Addr},RdF K H v d F->Kp F H H'->RdF K H' v d F
 | _,_,_,.non,_=>.non
 | _,_,_,.bl b,_=>.bl b
 | _,_,_,.int i,_=>.int i
 | _,_,_,.str x,_=>.str x
 | _,_,_,.lst h l hs,k=>.lst (k _ _ h (.inl Ab)) l (RdFs.kp hs (k.sub λ_ z=>Ad _ z))
 | _,_,_,.tup h l hs,k=>.tup (k _ _ h (.inr (.inl ⟨_,rfl⟩))) l (RdFs.kp hs k)
 | _,_,_,.dic h e hs,k=>.dic (k _ _ h (.inl Ab)) e (RdFs.kp hs (k.sub λ_ z=>nomatch z))
theorem RdFs.kp:∀{v:List V} {d:List Ae} {F:List Addr},RdFs K H v d F->Kp F H H'->RdFs K H' v d F
 | _,_,_,.nil,_=>.nil
 | _,_,_,.cons h hs,k=>.cons (RdF.kp h (k.sub λ_ z=>Ak _ z)) (RdFs.kp hs (k.sub λ_ z=>Ag _ z))
end
theorem Zh:∀n,(lD n).depth=n
 | 0=>by simp [lD,Dy]
 | n+1=>by
  have:=Zh n
  simp only[lD,Dy,Bs,this]
  omega
theorem zB{ks:List (List Int×Ae)}:100<=(PyData.dict (Ov ks)).depth:=by
 have:=Zh 100
 simp only[Ov,Dy,PyData.depthKv,this]
 omega
mutual
theorem RdF.rd:∀{v:V} {d:Ae} {F:List Addr},RdF K H v d F->d.depth<=90->RdV K H v d
 | _,_,_,.non,_=>.non
 | _,_,_,.bl b,_=>.bl b
 | _,_,_,.int i,_=>.int i
 | _,_,_,.str x,_=>.str x
 | _,_,_,.lst h l hs,z=>.lst (Pe.of h) (RdFs.rd hs (by simp only[Dy] at z; omega))
 | _,_,_,.tup h l hs,z=>.tup (Ta.of h) (RdFs.rd hs (by simp only[Dy] at z; omega))
 | _,_,_,.dic h e hs,z=>absurd (Cg zB z) (by decide)
theorem RdFs.rd:∀{v:List V} {d:List Ae} {F:List Addr},RdFs K H v d F->Bs d<=90->RdVs K H v d
 | _,_,_,.nil,_=>.nil
 | _,_,_,.cons h hs,z=>.cons (RdF.rd h (by simp only[Bs] at z; omega)) (RdFs.rd hs (by simp only[Bs] at z; omega))
end
mutual
theorem RdF.dom:∀{v:V} {d:Ae} {F:List Addr},RdF K H v d F->∀a∈F,∃o,H a=some o
 | _,_,_,.non,_,z=>nomatch z
 | _,_,_,.bl b,_,z=>nomatch z
 | _,_,_,.int i,_,z=>nomatch z
 | _,_,_,.str x,_,z=>nomatch z
 | _,_,_,.lst h l hs,b,z=>by
  rcases An.mp z with rfl | z
  ·exact ⟨_,h⟩
  ·exact RdFs.dom hs b z
 | _,_,_,.tup h l hs,b,z=>RdFs.dom hs b z
 | _,_,_,.dic h e hs,b,z=>⟨_,Al.mp z▸h⟩
theorem RdFs.dom:∀{v:List V} {d:List Ae} {F:List Addr},RdFs K H v d F->∀a∈F,∃o,H a=some o
 | _,_,_,.nil,_,z=>nomatch z
 | _,_,_,.cons h hs,b,z=>by
  rcases Aw.mp z with z | z
  ·exact RdF.dom h b z
  ·exact RdFs.dom hs b z
end
theorem RdFs.len:∀{v:List V} {d:List Ae} {F:List Addr},RdFs K H v d F->v.length=d.length
 | _,_,_,.nil=>rfl
 | _,_,_,.cons _ t=>by rw[Bm,Bm,RdFs.len t]
theorem RdFs.get:∀{v:List V} {d:List Ae} {F:List Addr} {i:Nat} {e:Ae},RdFs K H v d F->d[i]? = some e->∃x G,v[i]? = some x/\RdF K H x e G/\G.Sublist F
 | _,_,_,_,_,.nil,z=>by simp at z
 | _,_,_,0,_,.cons h _,z=>by
  simp at z
  subst z
  exact ⟨_,_,rfl,h,List.sublist_append_left _ _⟩
 | _,_,_,i+1,e,.cons _ t,z=>by
  obtain ⟨x,G,h1,h2,h3⟩:=RdFs.get (i:=i) (e:=e) t (by simpa using z)
  exact ⟨x,G,by simpa using h1,h2,h3.trans (Bk _ _)⟩
theorem RdFs.app:∀{v w:List V} {d e:List Ae} {F G:List Addr},RdFs K H v d F->RdFs K H w e G->RdFs K H (v++w) (d++e) (F++G)
 | _,_,_,_,_,_,.nil,h=>h
 | _,_,_,_,_,_,.cons a t,h=>by
  rw[Bt]
  exact .cons a (RdFs.app t h)
theorem RdFs.snoc{v:List V}{d:List Ae}{F G:List Addr}{x:V}{e:Ae}(t:RdFs K H v d F)(h:RdF K H x e G):RdFs K H (v++[x]) (d++[e]) (F++G):=by
 have:=t.app (.cons h .nil)
 rw[Ec] at this
 exact this
end
mutual
def imm:Ae->Bool
 | .list _=>false
 | .dict _=>false
 | .tuple xs=>Ee xs
 | _=>true
def Ee:List Ae->Bool
 | []=>true
 | x::xs=>imm x && Ee xs
end
theorem rE:∀{xs:List Ae},Ee xs=true↔∀x∈xs,imm x=true
 | []=>by simp [Ee]
 | x::xs=>by simp [Ee,rE (xs:=xs)]
theorem Vw{α:Type}{f:α->Ae}(h:∀a,imm (f a)=true)(l:List α):Ee (l.map f)=true:=rE.mpr λx hx=>by
 obtain ⟨a,_,rfl⟩:=Df.mp hx
 exact h a
theorem zL(ns:List Int):imm (Br ns)=true:=by
 unfold Br
 rw[imm]
 exact Vw (λ_=>by simp [imm]) ns
section
variable{K:PySem.W.Frag}{H H':Hp}
mutual
theorem RdF.imm:∀{v:V} {d:Ae} {F:List Addr},RdF K H v d F->DL.imm d=true->F=[]
 | _,_,_,.non,_=>rfl
 | _,_,_,.bl b,_=>rfl
 | _,_,_,.int i,_=>rfl
 | _,_,_,.str x,_=>rfl
 | _,_,_,.lst h l hs,k=>by simp [DL.imm] at k
 | _,_,_,.tup h l hs,k=>RdFs.imm hs (by simpa [DL.imm] using k)
 | _,_,_,.dic h e hs,k=>by simp [DL.imm] at k
theorem RdFs.imm:∀{v:List V} {d:List Ae} {F:List Addr},RdFs K H v d F->Ee d=true->F=[]
 | _,_,_,.nil,_=>rfl
 | _,_,_,.cons h hs,k=>by
  rw[Ee,Fu] at k
  rw[RdF.imm h k.1,RdFs.imm hs k.2]
  rfl
end
end
inductive Md where
 | pk | sh | tp | ow
 deriving DecidableEq
inductive DV where
 | un
 | dat (m:Md) (d:Ae)
 | drw
 | dT (kvs:List (List Jp×Ae))
 | val (v:V)
 | scr (ns:List Int)
 | acc (ds:List Ae)
 | grd (Hc:Hp)
 | tpl (xs:List V)
structure DS where
 sl:List DV
 n:Nat
structure Ent where
 v:Option V
 x:DV
 F:List Addr
def Pw:DV->Bool
 | .dat .pk _=>true
 | _=>false
def FG:DV->Bool
 | .drw=>true
 | _=>false
def AW:DV->Bool
 | .drw=>true
 | .acc _=>true
 | .dT _=>true
 | .grd _=>true
 | _=>false
def cells(e:Ent):List Addr:=match e.x with
 | .dat .ow _=>e.F
 | .dat .tp _=>e.F.take 1
 | .drw=>e.F
 | .dT _=>e.F
 | .acc _=>e.F.take 1
 | .grd _=>e.F
 | _=>[]
theorem Gs(e:Ent):∀a∈cells e,a∈e.F:=by
 w_pre e8
 intro a h
 cases x with
 | un=>exact nomatch h
 | val _=>exact nomatch h
 | scr _=>exact nomatch h
 | drw=>exact h
 | dT _=>exact h
 | grd _=>exact h
 | tpl _=>exact nomatch h
 | acc _=>exact (Ip _ _).subset h
 | dat m d =>
  cases m with
  | pk=>exact nomatch h
  | sh=>exact nomatch h
  | tp=>exact (Ip _ _).subset h
  | ow=>exact h
def Wv(e f:Ent):Prop:=((Pw f.x=false\/AW e.x=true)->∀a∈cells e,a∉f.F)/\((Pw e.x=false\/AW f.x=true)->∀a∈cells f,a∉e.F)
theorem Wv.symm{e f:Ent}(h:Wv e f):Wv f e:=⟨h.2,h.1⟩
def Gr(K:PySem.W.Frag)(H:Hp)(n:Nat)(e:Ent):Prop:=match e.x with
 | .un=>e.F=[]
 | .dat m d=>∃v,e.v=some v/\RdF K H v d e.F/\(m=.ow->e.F.Nodup)/\(m=.tp->∀a l,e.F=a::l->a∉l)
 | .drw=>∃dr c k f,e.v=some (.ref dr)/\e.F=[dr]/\iH H dr c k f/\0<=k/\k<=(n:Int)
 | .dT kvs=>∃a ks,e.v=some (.ref a)/\e.F=[a]/\H a=some (.dT ks)/\ks.map (·.1)=kvs.map (·.1)/\RdFs K H (ks.map (·.2)) (kvs.map (·.2)) []
 | .val v=>e.v=some v/\e.F=[]
 | .scr ns=>∃a,e.v=some (.ref a)/\e.F=[]/\KL K H a (ns.map V.int)/\ns.length<=63
 | .acc ds=>∃a xs G,e.v=some (.ref a)/\e.F=a::G/\H a=some (.lst xs)/\RdFs K H xs ds G/\ds.length<=Aq/\a∉G
 | .grd Hc=>∀a∈e.F,∃o,Hc a=some o/\H a=some o
 | .tpl xs=>∃t,e.v=some (.ref t)/\H t=some (.tup xs)/\e.F=[]
structure At(K:PySem.W.Frag)(H0:Hp)(X:Addr->Prop)(n:Nat)(E:List Ent)(H:Hp):Prop where
 ok:∀e∈E,Gr K H n e
 sep:E.Pairwise Wv
 new:∀e∈E,∀a∈cells e,H0 a=none\/(X a/\FG e.x=true)
 same:∀b o,¬ X b->H0 b=some o->H b=some o
 dom:∀b o,H0 b=some o->∃o',H b=some o'
 xd:∀b,X b->H0 b≠none/\∃c k f,iH H b c k f/\0<=k/\k<=(n:Int)
section
variable{K:PySem.W.Frag}{H0 H H':Hp}{X:Addr->Prop}{n n':Nat}{E E' S T:List Ent}{e f:Ent}
theorem At.perm(h:At K H0 X n E H)(p:E.Perm E'):At K H0 X n E' H :=
 ⟨λe he=>h.ok e (p.mem_iff.mpr he),(p.pairwise_iff λ{a b}=>Wv.symm).mp h.sep,λe he=>h.new e (p.mem_iff.mpr he),h.same,h.dom,h.xd⟩
theorem At.sub(h:At K H0 X n E H)(p:E'.Sublist E):At K H0 X n E' H :=
 ⟨λe he=>h.ok e (p.subset he),h.sep.sublist p,λe he=>h.new e (p.subset he),h.same,h.dom,h.xd⟩
theorem At.drop(h:At K H0 X n (S++e::T) H):At K H0 X n (S++T) H:=h.sub ((Ci S).append (Cy _ _))
theorem yB:(S++e::T).Perm (e::(S++T)):=Dj
theorem At.mid(h:At K H0 X n (S++e::T) H):At K H0 X n (e::(S++T)) H:=h.perm yB
theorem At.tomid(h:At K H0 X n (e::(S++T)) H):At K H0 X n (S++e::T) H:=h.perm yB.symm
theorem Gr.dom(h:Gr K H n e):∀a∈e.F,∃o,H a=some o:=by
 w_pre e8
 intro a ha
 cases x with
 | un=>rw[show F=[] from h] at ha; cases ha
 | val _=>rw[show F=[] from h.2] at ha; cases ha
 | scr _ =>
  obtain ⟨_,_,hF,_⟩:=h
  rw[show F=[] from hF] at ha; cases ha
 | dat m d =>
  obtain ⟨w,_,h,_⟩:=h
  obtain ⟨xs,z⟩:=h.dom a ha
  exact ⟨_,z⟩
 | drw =>
  obtain ⟨dr,c,k,f,_,hF,h,_⟩:=h
  rw[show F=[dr] from hF] at ha
  rw[Al.mp ha]
  exact ⟨_,h⟩
 | grd Hc =>
  obtain ⟨o,_,z⟩:=h a ha
  exact ⟨o,z⟩
 | tpl xs =>
  obtain ⟨_,_,_,hF⟩:=h
  rw[show F=[] from hF] at ha; cases ha
 | dT kvs =>
  obtain ⟨b,ks,_,hF,h,_⟩:=h
  rw[show F=[b] from hF] at ha
  rw[Al.mp ha]
  exact ⟨_,h⟩
 | acc ds =>
  obtain ⟨b,ks,G,_,hF,h,hr,_⟩:=h
  rw[show F=b::G from hF] at ha
  rcases An.mp ha with rfl | ha
  ·exact ⟨_,h⟩
  ·obtain ⟨xs,z⟩:=hr.dom a ha
   exact ⟨_,z⟩
theorem Gr.kp(h:Gr K H n e)(k:Kp e.F H H')(hn:n<=n'):Gr K H' n' e:=by
 w_pre e8
 cases x with
 | un=>exact h
 | val _=>exact h
 | scr _ =>
  obtain ⟨a,h1,h2,h3,h4⟩:=h
  exact ⟨a,h1,h2,h3.kp k,h4⟩
 | dat m d =>
  obtain ⟨w,h1,h2,h3⟩:=h
  exact ⟨w,h1,h2.kp k,h3⟩
 | drw =>
  obtain ⟨dr,c,kk,f,h1,hF,h2,h3,h4⟩:=h
  have hF':F=[dr]:=hF
  subst hF'
  exact ⟨dr,c,kk,f,h1,rfl,k _ _ h2 (.inl Ab),h3,by omega⟩
 | tpl xs =>
  obtain ⟨t,h1,h2,h3⟩:=h
  exact ⟨t,h1,k _ _ h2 (.inr (.inl ⟨_,rfl⟩)),h3⟩
 | grd Hc =>
  intro a ha
  obtain ⟨o,h1,h2⟩:=h a ha
  exact ⟨o,h1,k _ _ h2 (.inl ha)⟩
 | dT kvs =>
  obtain ⟨b,ks,h1,hF,h2,h3,h4⟩:=h
  have hF':F=[b]:=hF
  subst hF'
  exact ⟨b,ks,h1,rfl,k _ _ h2 (.inl Ab),h3,h4.kp (k.sub λ_ z=>nomatch z)⟩
 | acc ds =>
  obtain ⟨b,ks,G,h1,hF,h2,h3,h4⟩:=h
  have hF':F=b::G:=hF
  subst hF'
  exact ⟨b,ks,G,h1,rfl,k _ _ h2 (.inl Ab),h3.kp (k.sub λ_ z=>Ad _ z),h4⟩
theorem At.grow(h:At K H0 X n E H)(s:Sx H H')(hn:n<=n'):At K H0 X n' E H' :=
 ⟨λe he=>(h.ok e he).kp (Kp.of s) hn,h.sep,h.new,λb o nx e=>s _ _ (h.same b o nx e),λb o e=>let ⟨o',q⟩:=h.dom b o e; ⟨o',s _ _ q⟩,λb hb=>let ⟨z,c,k,f,h1,h2,h3⟩:=h.xd b hb; ⟨z,c,k,f,s _ _ h1,h2,by omega⟩⟩
theorem At.free(h:At K H0 X n E H){a:Addr}(ha:H a=none):∀e∈E,a∉e.F:=λe he z=>by
 obtain ⟨o,q⟩:=(h.ok e he).dom a z
 rw[ha] at q; cases q
theorem At.push(h:At K H0 X n E H)(ok:Gr K H n e)(sep:∀f∈E,Wv e f)(new:∀a∈cells e,H0 a=none\/(X a/\FG e.x=true)):At K H0 X n (e::E) H :=
 ⟨λg hg=>by
  rcases An.mp hg with rfl | hg
  ·exact ok
  ·exact h.ok g hg,Bb.mpr ⟨sep,h.sep⟩,λg hg=>by
  rcases An.mp hg with rfl | hg
  ·exact new
  ·exact h.new g hg,h.same,h.dom,h.xd⟩
theorem At.new0(h:At K H0 X n E H){p:Addr}(hp:H p=none):H0 p=none:=by
 cases q:H0 p with
 | none=>rfl
 | some o =>
  obtain ⟨o',z⟩:=h.dom p o q
  rw[hp] at z; cases z
theorem O2{v:Option V}{m:Md}{d:Ae}:Wv ⟨v,.dat m d,[]⟩ f:=by
 refine ⟨λ_ a ha=>?_,λ_ a _=>Bd⟩
 have:=Gs _ a ha
 cases this
theorem At.pushI(h:At K H0 X n (S++T) H){v:V}{m:Md}{d:Ae}(r:RdF K H v d []):At K H0 X n (S++⟨some v,.dat m d,[]⟩::T) H :=
 (h.push (e:=⟨some v,.dat m d,[]⟩) ⟨v,rfl,r,λ_=>Dv,λ_ a l z=>nomatch z⟩ (λf _=>O2) (λa ha=>nomatch Gs _ a ha)).tomid
def wk:Md->Md->Bool
 | _,.pk=>true
 | .pk,_=>false
 | _,.sh=>true
 | .sh,_=>false
 | _,.tp=>true
 | .tp,.ow=>false
 | .ow,.ow=>true
theorem nU{v:Option V}{m m':Md}{d:Ae}{F:List Addr}(w:wk m m'=true):∀a∈cells ⟨v,.dat m' d,F⟩,a∈cells ⟨v,.dat m d,F⟩:=by
 intro a ha
 cases m <;> cases m' <;> first | exact absurd w (by decide) | exact ha | exact absurd ha Bd | exact (Ip 1 F).subset ha
theorem wY{α:Type}{F:List α}(h:F.Nodup):∀a l,F=a::l->a∉l:=λa l e=>by
 subst e
 exact (Co.mp h).1
theorem Gr.wk{v:Option V}{m m':Md}{d:Ae}{F:List Addr}(w:wk m m'=true)(h:Gr K H n ⟨v,.dat m d,F⟩):Gr K H n ⟨v,.dat m' d,F⟩:=by
 obtain ⟨u,h1,h2,h3,h4⟩:=h
 refine ⟨u,h1,h2,λe=>?_,λe=>?_⟩
 ·subst e
  cases m <;> first | exact absurd w (by decide) | exact h3 rfl
 ·subst e
  cases m <;> first | exact absurd w (by decide) | exact h4 rfl | exact wY (h3 rfl)
theorem Wv.wk{v:Option V}{m m':Md}{d:Ae}{F:List Addr}(w:wk m m'=true)(h:Wv ⟨v,.dat m d,F⟩ f):Wv ⟨v,.dat m' d,F⟩ f:=by
 refine ⟨λhp a ha=>?_,λhp a ha=>?_⟩
 ·rcases hp with hp | hp
  ·exact h.1 (.inl hp) a (nU w a ha)
  ·cases hp
 ·rcases hp with hp | hp
  ·refine h.2 (.inl ?_) a ha
   cases m <;> cases m' <;> first | rfl | exact absurd w (by decide) | exact absurd hp (by show ¬ (true=false); decide)
  ·exact h.2 (.inr hp) a ha
theorem At.wk{v:Option V}{m m':Md}{d:Ae}{F:List Addr}(w:wk m m'=true)(h:At K H0 X n (⟨v,.dat m d,F⟩::E) H):At K H0 X n (⟨v,.dat m' d,F⟩::E) H:=by
 have hs:=Bb.mp h.sep
 refine (h.sub (Cy _ _)).push ((h.ok _ Ab).wk w) (λf hf=>(hs.1 f hf).wk w) λa ha=>?_
 rcases h.new _ Ab a (nU w a ha) with z | z
 w_pre b5
end
abbrev DE:=DS->(DV->DS->Prop)->Prop
abbrev DT:=DS->(Bool->DS->Prop)->Prop
abbrev DA:=DS->(List DV->DS->Prop)->Prop
structure DEnds where
 nx:DS->Prop
 rt:DV->DS->Prop
 bk:DS->Prop:=λ_=>False
 ct:DS->Prop:=λ_=>False
abbrev DB:=DEnds->DS->Prop
abbrev DG:=DV->DS->(DS->Prop)->Prop
abbrev C7:=List DV->DS->(DS->Prop)->Prop
def vs(S:List Ent):L2.St:=S.map Ent.v
def Sl(S:List Ent)(δ:DS):Prop:=S.map Ent.x=δ.sl
section
variable(K:PySem.W.Frag)
def LE(de:DE):TE:=λσ H Q=>∃(H0:Hp) (X:Addr->Prop) (S T:List Ent) (δ:DS) (P:DV->DS->Prop),vs S=σ/\Sl S δ/\At K H0 X δ.n (S++T) H/\de δ P /\
 ∀x δ' v F S' H',vs S'=σ->Sl S' δ'->At K H0 X δ'.n (S'++⟨some v,x,F⟩::T) H'->P x δ'->Q v H'
def LT(dt:DT):TT:=λσ H Q=>∃(H0:Hp) (X:Addr->Prop) (S T:List Ent) (δ:DS) (P:Bool->DS->Prop),vs S=σ/\Sl S δ/\At K H0 X δ.n (S++T) H/\dt δ P /\
 ∀b δ' S' H',vs S'=σ->Sl S' δ'->At K H0 X δ'.n (S'++T) H'->P b δ'->Q b H'
def LA(da:DA):TA:=λσ H Q=>∃(H0:Hp) (X:Addr->Prop) (S T:List Ent) (δ:DS) (P:List DV->DS->Prop),vs S=σ/\Sl S δ/\At K H0 X δ.n (S++T) H/\da δ P /\
 ∀xs δ' As us S' H',vs S'=σ->Sl S' δ'->As.map Ent.x=xs->As.map Ent.v=us.map some->At K H0 X δ'.n (S'++(As++T)) H'->P xs δ'->Q us H'
def LS(db:DB):TS:=λD σ H=>∃(H0:Hp) (X:Addr->Prop) (S T:List Ent) (δ:DS) (P:DEnds),vs S=σ/\Sl S δ/\(∀e∈T,Pw e.x=false)/\At K H0 X δ.n (S++T) H/\db P δ /\
 (∀δ' S' H',Sl S' δ'->At K H0 X δ'.n (S'++T) H'->P.nx δ'->D.nx (vs S') H') /\
 (∀x δ' v F S' H',Sl S' δ'->At K H0 X δ'.n (S'++⟨some v,x,F⟩::T) H'->P.rt x δ'->D.rt v H') /\
 (∀δ' S' H',Sl S' δ'->At K H0 X δ'.n (S'++T) H'->P.bk δ'->D.bk (vs S') H') /\
 (∀δ' S' H',Sl S' δ'->At K H0 X δ'.n (S'++T) H'->P.ct δ'->D.ct (vs S') H')
def LG(dg:DG):TG:=λv σ H Q=>∃(H0:Hp) (X:Addr->Prop) (S T:List Ent) (δ:DS) (x:DV) (F:List Addr) (P:DS->Prop),vs S=σ/\Sl S δ/\At K H0 X δ.n (S++⟨some v,x,F⟩::T) H/\dg x δ P /\
 ∀δ' S' H',Sl S' δ'->At K H0 X δ'.n (S'++T) H'->P δ'->Q (vs S') H'
def JP(dg:C7):K1:=λus σ H Q=>∃(H0:Hp) (X:Addr->Prop) (S T As:List Ent) (δ:DS) (P:DS->Prop),vs S=σ/\Sl S δ/\As.map Ent.v=us.map some/\At K H0 X δ.n (S++(As++T)) H/\dg (As.map Ent.x) δ P /\
 ∀δ' S' H',Sl S' δ'->At K H0 X δ'.n (S'++T) H'->P δ'->Q (vs S') H'
end
abbrev Fm(X:Cx)(e:Expr)(de:DE):Prop:=PE X e (LE X.K de)
abbrev lW(X:Cx)(e:Expr)(dt:DT):Prop:=PT X e (LT X.K dt)
abbrev CA(X:Cx)(e:Expr)(dt:DT):Prop:=PW X e (LT X.K dt)
abbrev oS(X:Cx)(es:List Expr)(da:DA):Prop:=PA X es (LA X.K da)
abbrev xJ(X:Cx)(st:Stmt)(db:DB):Prop:=PS X st (LS X.K db)
abbrev aY(X:Cx)(st:List Stmt)(db:DB):Prop:=tQ X st (LS X.K db)
abbrev GT(X:Cx)(tg:Expr)(dg:DG):Prop:=PG X tg (LG X.K dg)
abbrev G6(X:Cx)(tg:List Expr)(dg:C7):Prop:=BD X tg (JP X.K dg)
theorem PE.imp{X:Cx}{e:Expr}{t t':TE}(h:PE X e t)(k:∀σ H Q,t' σ H Q->t σ H Q):PE X e t':=λpins s σ H Q I q=>h pins s σ H Q I (k σ H Q q)
theorem PT.imp{X:Cx}{e:Expr}{t t':TT}(h:PT X e t)(k:∀σ H Q,t' σ H Q->t σ H Q):PT X e t':=λpins s σ H Q I q=>h pins s σ H Q I (k σ H Q q)
theorem PW.imp{X:Cx}{e:Expr}{t t':TT}(h:PW X e t)(k:∀σ H Q,t' σ H Q->t σ H Q):PW X e t':=λwh pins s σ H Q I q=>h wh pins s σ H Q I (k σ H Q q)
theorem PA.imp{X:Cx}{e:List Expr}{t t':TA}(h:PA X e t)(k:∀σ H Q,t' σ H Q->t σ H Q):PA X e t':=λpos pins s σ H Q I q=>h pos pins s σ H Q I (k σ H Q q)
theorem PG.imp{X:Cx}{e:Expr}{t t':TG}(h:PG X e t)(k:∀v σ H Q,t' v σ H Q->t v σ H Q):PG X e t':=λpins s σ H v u Q I r q=>h pins s σ H v u Q I r (k v σ H Q q)
theorem BD.imp{X:Cx}{e:List Expr}{t t':K1}(h:BD X e t)(k:∀v σ H Q,t' v σ H Q->t v σ H Q):BD X e t':=λpins s σ H v u Q I r q=>h pins s σ H v u Q I r (k v σ H Q q)
section
variable{K:PySem.W.Frag}{H:Hp}{v:V}{F:List Addr}
theorem RdF.int_inv{i:Int}(h:RdF K H v (.int i) F):v=.int i/\F=[]:=by cases h; exact ⟨rfl,rfl⟩
theorem RdF.bl_inv{i:Bool}(h:RdF K H v (.bool i) F):v=.bl i/\F=[]:=by cases h; exact ⟨rfl,rfl⟩
theorem RdF.str_inv{i:Str}(h:RdF K H v (.str i) F):v=.str i/\F=[]:=by cases h; exact ⟨rfl,rfl⟩
theorem RdF.list_inv{ds:List Ae}(h:RdF K H v (.list ds) F):∃a xs G,v=.ref a/\H a=some (.lst xs)/\RdFs K H xs ds G/\F=a::G/\ds.length<=Aq:=by
 cases h with
 | lst h l hs=>exact ⟨_,_,_,rfl,h,hs,rfl,l⟩
theorem RdF.tup_inv{ds:List Ae}(h:RdF K H v (.tuple ds) F):∃a xs,v=.ref a/\H a=some (.tup xs)/\RdFs K H xs ds F/\ds.length<=Aq:=by
 cases h with
 | tup h l hs=>exact ⟨_,_,rfl,h,hs,l⟩
end
section
variable{K:PySem.W.Frag}{H0 H H':Hp}{X:Addr->Prop}{n:Nat}{E S T:List Ent}{v:V}{m:Md}{d:Ae}{F:List Addr}
theorem At.told(h:At K H0 X n E H)(he:⟨some v,.dat m d,F⟩∈E):RdF K H v d F:=by
 obtain ⟨w,e1,h1,_⟩:=h.ok _ he
 cases e1
 exact h1
theorem mem_mid{e:Ent}:e∈S++e::T:=Ag _ Ab
theorem Fd{e f:Ent}:f∈S++e::f::T:=Ag _ (Ad _ Ab)
theorem At.drop2{e f:Ent}(h:At K H0 X n (S++e::f::T) H):At K H0 X n (S++T) H:=h.drop.drop
theorem At.dropL{As:List Ent}(h:At K H0 X n (S++(As++T)) H):At K H0 X n (S++T) H:=h.sub ((Ci S).append (Bk As T))
end
def kP:Md->Md
 | .ow=>.pk
 | .tp=>.pk
 | m=>m
def Z9(i:Nat):DE:=λδ P=>match δ.sl[i]? with
 | some (.dat m d)=>P (.dat (kP m) d) δ
 | _=>False
def dC(d:Ae):DE:=λδ P=>P (.dat .ow d) δ
theorem Ks{S:List Ent}{δ:DS}{i:Nat}{x:DV}(h:Sl S δ)(e:δ.sl[i]? = some x):∃ent,S[i]? = some ent/\ent.x=x:=by
 unfold Sl at h
 rw[<- h,Bj] at e
 cases q:S[i]? with
 | none=>rw[q] at e; cases e
 | some ent=>rw[q] at e; exact ⟨ent,rfl,Bv e⟩
theorem Nu{S:List Ent}{i:Nat}{e:Ent}(h:S[i]? = some e):(vs S)[i]? = some e.v:=by
 unfold vs
 rw[Bj,h]
 rfl
theorem At.look{K:PySem.W.Frag}{H0 H:Hp}{X:Addr->Prop}{n:Nat}{S T:List Ent}{u:Option V}{v:V}{m:Md}{d:Ae}{F:List Addr}(h:At K H0 X n (S++T) H)(he:⟨u,.dat m d,F⟩∈S)(hu:u=some v):At K H0 X n (S++⟨some v,.dat (kP m) d,F⟩::T) H:=by
 subst hu
 obtain ⟨S1,S2,rfl⟩:=List.append_of_mem he
 have hp:((S1++⟨some v,.dat m d,F⟩::S2)++T).Perm (⟨some v,.dat m d,F⟩::(S1++(S2++T))):=by
  rw[Bt,Do]
  exact Dj
 have h2:=h.perm hp
 have hs:=Bb.mp h2.sep
 refine (h.push (e:=⟨some v,.dat (kP m) d,F⟩) ?_ (λf hf=>?_) λa ha=>?_).tomid
 ·obtain ⟨w,e1,h1,_⟩:=h2.ok _ Ab
  refine ⟨w,e1,h1,λz=>?_,λz=>?_⟩ <;> cases m <;> cases z
 ·refine ⟨λ_ a ha=>?_,λhq a ha=>?_⟩
  ·cases m <;> exact nomatch ha
  ·rcases An.mp (hp.mem_iff.mp hf) with rfl | hf
   w_pre x2
   ·refine (hs.1 f hf).2 ?_ a ha
    w_pre x0
 ·cases m <;> exact nomatch ha
section
variable{X:Cx}{e:Expr}
theorem Bc{i:Nat}(h:PE X e (dU i)):Fm X e (Z9 i):=by
 w_pre c4
 unfold Z9 at hd
 w_pre z6
 ·rename_i m d e1
  w_pre o1
  obtain ⟨v,hv,_⟩:=hA.ok _ (Ak _ hm)
  refine ⟨v,by rw[Nu e2]; exact congrArg some hv,k _ δ v F S H rfl hS (hA.look hm hv) hd⟩
 w_pre b7
theorem rG{v:V}{d:Ae}(h:PE X e (tC v))(r:∀H,RdF X.K H v d []):Fm X e (dC d):=by
 w_pre c4
 exact k _ δ v [] S H rfl hS (hA.pushI (r H)) hd
theorem Cp{i j pos}:Fm X (.Constant (.int i) j pos) (dC (.int i)):=rG Fq λ_=>.int i
theorem A7{i j pos}:Fm X (.Constant (.bool i) j pos) (dC (.bool i)):=rG zN λ_=>.bl i
theorem cQ{i j pos}:Fm X (.Constant (.str i) j pos) (dC (.str i)):=rG BV λ_=>.str i
end
def GM(de:DE):DE:=λδ P=>de δ λx δ'=>match x with
 | .dat _ d=>imm d=true/\P (.dat .ow d) δ'
 | _=>False
theorem Sj{X:Cx}{e:Expr}{de:DE}(h:Fm X e de):Fm X e (GM de):=by
 w_pre c4
 refine ⟨H0,Y,S,T,δ,_,rfl,hS,hA,hd,λx δ' v F S' H' e1 e2 hA' p=>?_⟩
 cases x with
 | dat m d =>
  have r:=hA'.told mem_mid
  obtain rfl:=r.imm p.1
  exact k _ δ' v [] S' H' e1 e2 (hA'.drop.pushI r) p.2
 | _=>exact p.elim
def xP(i:Nat):DE:=λδ P=>match δ.sl[i]? with
 | some (.dat m d)=>P (.dat m d) ⟨δ.sl.set i .un,δ.n⟩
 | _=>False
theorem Th{α:Type}:∀{l:List α} {i:Nat} {x y:α},l[i]? = some x->(y::l).Perm (x::l.set i y)
 | [],i,x,y,h=>by simp at h
 | z::l,0,x,y,h=>by
  simp at h
  subst h
  exact Dk _ _ _
 | z::l,i+1,x,y,h=>by
  have ih:=Th (l:=l) (i:=i) (x:=x) (y:=y) (by simpa using h)
  rw[List.set_cons_succ]
  exact (Dk z y l).trans ((ih.cons z).trans (Dk x z _))
theorem iN{X:Cx}{e:Expr}{i:Nat}(h:PE X e (dU i)):Fm X e (xP i):=by
 w_pre c4
 unfold xP at hd
 w_pre z6
 ·rename_i m d e1
  w_pre o1
  obtain ⟨v,hv,hv2⟩:=hA.ok _ (Ak _ hm)
  have hv':u=some v:=hv
  subst hv'
  refine ⟨v,by rw[Nu e2],k _ _ v F (S.set i ⟨some v,.un,[]⟩) H ?_ ?_ ?_ hd⟩
  w_pre e
  ·have hp:=hA.push (e:=⟨some v,.un,[]⟩) (show Gr X.K H δ.n ⟨some v,.un,[]⟩ from rfl) (λf _=>⟨λ_ a ha=>(nomatch ha),λ_ a _=>Bd⟩) (λa ha=>(nomatch ha))
   have p1:(⟨some v,.un,[]⟩::(S++T)).Perm ((S.set i ⟨some v,.un,[]⟩)++⟨some v,.dat m d,F⟩::T):=by
    rw[<- Do]
    exact ((Th (y:=(⟨some v,.un,[]⟩ : Ent)) e2).append_right T).trans (by rw[Do]; exact List.perm_middle.symm)
   exact hp.perm p1
 w_pre b7
abbrev D2:=DV->DV->(DV->Prop)->Prop
def oY(K:PySem.W.Frag)(r:R2)(rd:D2):Prop:=∀(H0:Hp) (X:Addr->Prop) (n:Nat) (S T:List Ent) (x y:DV) (v w:V) (F G:List Addr) (H:Hp) (Q:VK) (P:DV->Prop),
 At K H0 X n (S++⟨some w,y,G⟩::⟨some v,x,F⟩::T) H->rd x y P->(∀z u F' H',At K H0 X n (S++⟨some u,z,F'⟩::T) H'->P z->Q u H')->r v w H Q
def aK(rd:D2)(da db:DE):DE:=λδ P=>da δ λx δ1=>db δ1 λy δ2=>rd x y λz=>P z δ2
theorem fB{K:PySem.W.Frag}{r:R2}{rd:D2}{da db:DE}(o:oY K r rd):∀σ H Q,LE K (aK rd da db) σ H Q->FI r (LE K da) (LE K db) σ H Q:=by
 w_pre w1
 refine ⟨H0,Y,S1,⟨some v,x,F⟩::T,δ1,_,e1,e2,hA1,p1,λy δ2 w G S2 H2 e3 e4 hA2 p2=>?_⟩
 exact o H0 Y δ2.n S2 T x y v w F G H2 Q _ hA2 p2 λz u F' H' hA3 p3=>k z δ2 u F' S2 H' e3 e4 hA3 p3
section
variable{X:Cx}{a b:Expr}{da db:DE}{pos:Pos}{r:R2}{rd:D2}
theorem Zg{op:Operator}(ho:Xe X (Jc op) r)(o:oY X.K r rd)(ha:Fm X a da)(hb:Fm X b db):Fm X (.BinOp a op b pos) (aK rd da db):=PE.imp (Jv ho ha hb) (fB o)
theorem pZ{op:CmpOp}(ho:Xe X (Ie op) r)(o:oY X.K r rd)(ha:Fm X a da)(hb:Fm X b db)(hm:Hd op b=false):Fm X (.Compare a [op] [b] pos) (aK rd da db):=PE.imp (J1 ho ha hb hm) (fB o)
theorem FB(ho:Q0 X r)(o:oY X.K r rd)(ha:Fm X a da)(hb:Fm X b db)(hs:iR b):Fm X (.Subscript a b pos) (aK rd da db):=PE.imp (Ze ho ha hb hs) (fB o)
end
def CN(C:Int->Int->Prop)(g:Int->Int->Ae):D2:=λx y P=>match x,y with
 | .dat _ (.int i),.dat _ (.int j)=>C i j/\P (.dat .ow (g i j))
 | _,_=>False
def qL(g:Int->Int->Ae):D2:=λx y P=>match x,y with
 | .dat _ (.int i),.dat _ (.int j)=>P (.dat .ow (g i j))
 | _,_=>False
section
variable{K:PySem.W.Frag}
theorem AX{C:Int->Int->Prop}{g:Int->Int->V}{g':Int->Int->Ae}(h:∀i j H,RdF K H (g i j) (g' i j) []):oY K (rI C g) (CN C g'):=by
 w_pre y6
 unfold CN at hd
 w_pre z6
 ·obtain ⟨rfl,_⟩:=(hA.told Fd).int_inv
  w_pre e7
  exact ⟨_,_,rfl,rfl,hd.1,k _ _ [] H (hA.drop2.pushI (h _ _ H)) hd.2⟩
 w_pre b7
theorem lV{g:Int->Int->V}{g':Int->Int->Ae}(h:∀i j H,RdF K H (g i j) (g' i j) []):oY K (K4 g) (qL g'):=by
 w_pre y6
 unfold qL at hd
 w_pre z6
 ·obtain ⟨rfl,_⟩:=(hA.told Fd).int_inv
  w_pre e7
  exact ⟨_,_,rfl,rfl,k _ _ [] H (hA.drop2.pushI (h _ _ H)) hd⟩
 w_pre b7
end
abbrev rdAdd:D2:=qL λi j=>.int (i+j)
abbrev rdSub:D2:=qL λi j=>.int (i - j)
abbrev rdMul:D2:=CN B3 λi j=>.int (i * j)
abbrev rdDiv:D2:=CN X9 λi j=>.int (i / j)
abbrev rdMod:D2:=CN (λ_ j=>0<j) λi j=>.int (i % j)
abbrev rdLt:D2:=qL λi j=>.bool (decide (i<j))
abbrev rdGt:D2:=qL λi j=>.bool (decide (j<i))
section
variable{X:Cx}{a b:Expr}{da db:DE}{pos:Pos}
theorem Yv(ha:Fm X a da)(hb:Fm X b db):Fm X (.BinOp a .Add b pos) (aK rdAdd da db):=Zg bP (lV λ_ _ _=>.int _) ha hb
theorem pT(ha:Fm X a da)(hb:Fm X b db):Fm X (.BinOp a .Sub b pos) (aK rdSub da db):=Zg AD (lV λ_ _ _=>.int _) ha hb
theorem yX(ha:Fm X a da)(hb:Fm X b db):Fm X (.BinOp a .Mult b pos) (aK rdMul da db):=Zg Yf (AX λ_ _ _=>.int _) ha hb
theorem Vo(ha:Fm X a da)(hb:Fm X b db):Fm X (.BinOp a .FloorDiv b pos) (aK rdDiv da db):=Zg jN (AX λ_ _ _=>.int _) ha hb
theorem Kd(ha:Fm X a da)(hb:Fm X b db):Fm X (.BinOp a .Mod b pos) (aK rdMod da db):=Zg Vq (AX λ_ _ _=>.int _) ha hb
theorem EE(ha:Fm X a da)(hb:Fm X b db):Fm X (.Compare a [.Lt] [b] pos) (aK rdLt da db):=pZ U1 (lV λ_ _ _=>.bl _) ha hb (Vx _)
theorem U4(ha:Fm X a da)(hb:Fm X b db):Fm X (.Compare a [.Gt] [b] pos) (aK rdGt da db):=pZ FN (lV λ_ _ _=>.bl _) ha hb (Vx _)
end
def jZ(ne:Bool):D2:=λx y P=>match x,y with
 | .dat _ d,.dat _ e=>d.depth<=60/\e.depth<=60/\P (.dat .ow (.bool (match ne with | true=>!Ef d e | false=>Ef d e)))
 | _,_=>False
def vB(ne:Bool):D2:=λx y P=>match x,y with
 | .dat _ d,.dat _ (.list es)=>Bs es<=60/\d.depth<=60/\P (.dat .ow (.bool (match ne with | true=>!(es.any λe=>Ef e d) | false=>es.any λe=>Ef e d)))
 | .dat _ d,.dat _ (.tuple es)=>Bs es<=60/\d.depth<=60/\P (.dat .ow (.bool (match ne with | true=>!(es.any λe=>Ef e d) | false=>es.any λe=>Ef e d)))
 | _,_=>False
section
variable{K:PySem.W.Frag}
theorem T4:oY K (EG K) (jZ false):=by
 w_pre i0
theorem FD:oY K (FO K) (jZ true):=by
 w_pre i0
theorem W3{ne:Bool}:oY K (W9 K ne) (vB ne):=by
 w_pre y6
 unfold vB at hd
 w_pre z6
 ·obtain ⟨a,xs,G',rfl,hq,hs,_,_⟩:=(hA.told mem_mid).list_inv
  refine ⟨a,xs,_,_,rfl,.inl (Pe.of hq),(hA.told Fd).rd (Cg hd.2.1 (by decide)),hs.rd (Cg hd.1 (by decide)),hd.1,?_⟩
  w_pre n2
 ·obtain ⟨a,xs,rfl,hq,hs,_⟩:=(hA.told mem_mid).tup_inv
  refine ⟨a,xs,_,_,rfl,.inr (Ta.of hq),(hA.told Fd).rd (Cg hd.2.1 (by decide)),hs.rd (Cg hd.1 (by decide)),hd.1,?_⟩
  w_pre n2
 w_pre b7
end
section
variable{X:Cx}{a b:Expr}{da db:DE}{pos:Pos}
theorem rW(hu:X.A.units+64<cLine)(ha:Fm X a da)(hb:Fm X b db):Fm X (.Compare a [.Eq] [b] pos) (aK (jZ false) da db):=pZ (zP hu) T4 ha hb (Vx _)
end
def Pv:Md->Md
 | .ow=>.ow
 | .tp=>.sh
 | m=>m
theorem At.part{K:PySem.W.Frag}{H0 H:Hp}{X:Addr->Prop}{n:Nat}{S T:List Ent}{v w:V}{m:Md}{d e:Ae}{F G:List Addr}(h:At K H0 X n (S++⟨some v,.dat m d,F⟩::T) H)(r:RdF K H w e G)(hG:G.Sublist F):At K H0 X n (S++⟨some w,.dat (Pv m) e,G⟩::T) H:=by
 have h2:=h.mid
 have hs:=Bb.mp h2.sep
 obtain ⟨v',e1,h1,hn,ht⟩:=h2.ok _ Ab
 have cs:∀a∈cells ⟨some w,.dat (Pv m) e,G⟩,a∈cells ⟨some v,.dat m d,F⟩:=λa ha=>by
  cases m with
  | ow=>exact hG.subset ha
  | tp=>exact nomatch ha
  | sh=>exact nomatch ha
  | pk=>exact nomatch ha
 refine (h.drop.push (e:=⟨some w,.dat (Pv m) e,G⟩) ⟨w,rfl,r,λz=>?_,λz=>?_⟩ (λf hf=>?_) λa ha=>?_).tomid
 ·cases m with
  | ow=>exact (hn rfl).sublist hG
  | _=>cases z
 ·cases m <;> cases z
 ·refine ⟨λhp a ha=>(hs.1 f hf).1 ?_ a (cs a ha),λhp a ha z=>(hs.1 f hf).2 ?_ a ha (hG.subset z)⟩
  w_pre u3
  ·rcases hp with hp | hp
   ·refine .inl ?_
    cases m <;> first | rfl | exact hp
   ·exact .inr hp
 ·rcases h2.new _ Ab a (cs a ha) with z | z
  w_pre b5
def xR:D2:=λx y P=>match x,y with
 | .dat m (.list ds),.dat _ (.int i)=>∃d,Vu ds i=some d/\P (.dat (Pv m) d)
 | .dat m (.tuple ds),.dat _ (.int i)=>∃d,Vu ds i=some d/\P (.dat (Pv m) d)
 | .dat _ (.str z),.dat _ (.int i)=>z.length<=Aq/\∃c,Vu z.cps.toList i=some c/\P (.dat .ow (.str ⟨#[c]⟩))
 | _,_=>False
theorem u5{K:PySem.W.Frag}{H:Hp}{xs:List V}{ds:List Ae}{F:List Addr}{i:Int}{d:Ae}(r:RdFs K H xs ds F)(h:Vu ds i=some d):∃x G,Vu xs i=some x/\RdF K H x d G/\G.Sublist F:=by
 unfold Vu at h ⊢
 rw[r.len]
 cases e:xM ds.length i with
 | none=>rw[e] at h; cases h
 | some j =>
  rw[e] at h
  exact r.get h
theorem GE{K:PySem.W.Frag}:oY K (JE K) xR:=by
 w_pre y6
 unfold xR at hd
 w_pre z6
 ·obtain ⟨d,hi,p⟩:=hd
  w_pre b3
  obtain ⟨a,xs,G0,rfl,hq,hs,hG,_⟩:=r.list_inv
  obtain ⟨x,G',h1,h2,h3⟩:=u5 hs hi
  subst hG
  exact .inl ⟨_,_,_,_,rfl,rfl,Pe.of hq,h1,k _ _ G' H (hA'.part h2 (h3.trans (Cy _ _))) p⟩
 ·obtain ⟨d,hi,p⟩:=hd
  w_pre b3
  obtain ⟨a,xs,rfl,hq,hs,_⟩:=r.tup_inv
  obtain ⟨x,G',h1,h2,h3⟩:=u5 hs hi
  exact .inr (.inl ⟨_,_,_,_,rfl,rfl,Ta.of hq,h1,k _ _ G' H (hA'.part h2 h3) p⟩)
 ·obtain ⟨hz,c,hi,p⟩:=hd
  w_pre e7
  obtain ⟨rfl,_⟩:=(hA.told Fd).str_inv
  exact .inr (.inr ⟨_,_,_,rfl,rfl,hz,hi,k _ _ [] H (hA.drop2.pushI (.str _)) p⟩)
 w_pre b7
theorem Lm{X:Cx}{a b:Expr}{da db:DE}{pos:Pos}(ha:Fm X a da)(hb:Fm X b db)(hs:iR b:=by intro _ _; rfl):Fm X (.Subscript a b pos) (aK xR da db):=FB Z5 GE ha hb hs
def tZ:Md->Md
 | .ow=>.ow
 | .pk=>.pk
 | _=>.tp
def Zj(i:Bool)(m:Md)(ds:List Ae)(P:DV->Prop):Prop:=match i with
 | true=>Ee ds=true/\P (.dat .ow (.list ds))
 | false=>P (.dat (tZ m) (.list ds))
def jA(i:Bool)(m:Md)(ds:List Ae)(P:DV->Prop):Prop:=match i with
 | true=>Ee ds=true/\P (.dat .ow (.tuple ds))
 | false=>P (.dat (Pv m) (.tuple ds))
section
variable{K:PySem.W.Frag}{H0 H:Hp}{X:Addr->Prop}{n:Nat}{S T:List Ent}{v w:V}{m:Md}{d e:Ae}{F G:List Addr}{p:Addr}{xs:List V}{ds:List Ae}{P:DV->Prop}{i:Bool}
theorem At.newI(h:At K H0 X n (S++T) H)(r:RdFs K H xs ds G)(hi:Ee ds=true)(hz:ds.length<=Aq)(hp:H p=none)(m:Md):At K H0 X n (S++⟨some (.ref p),.dat m (.list ds),[p]⟩::T) (upd H p (.lst xs)):=by
 obtain rfl:=r.imm hi
 have s1:=Fe hp (.lst xs)
 have h1:=h.grow (n':=n) s1 (Aj _)
 refine (h1.push (e:=⟨some (.ref p),.dat m (.list ds),[p]⟩) ⟨_,rfl,.lst Ds hz (r.kp (Kp.of s1)),λ_=>Co.mpr ⟨Bd,Dv⟩,λ_ a l z=>by cases z; exact Bd⟩ (λf hf=>?_) λa ha=>?_).tomid
 ·have nf:=h.free hp f hf
  refine ⟨λ_ a ha z=>?_,λ_ a ha z=>?_⟩
  ·have:=Gs _ a ha
   rw[Al.mp this] at z
   exact nf z
  ·rw[Al.mp z] at ha
   exact nf (Gs _ _ ha)
 ·have:=Gs _ a ha
  rw[Al.mp this]
  exact .inl (h.new0 hp)
theorem At.newL(h:At K H0 X n (S++⟨some v,.dat m d,F⟩::T) H)(r:RdFs K H xs ds G)(hG:G.Sublist F)(hz:ds.length<=Aq)(hp:H p=none)(q:Zj i m ds P):∃z F',At K H0 X n (S++⟨some (.ref p),z,F'⟩::T) (upd H p (.lst xs))/\P z:=by
 cases i with
 | true=>exact ⟨_,_,h.drop.newI r q.1 hz hp .ow,q.2⟩
 | false =>
  have q:P (.dat (tZ m) (.list ds)):=q
  refine ⟨_,p::G,?_,q⟩
  have s1:=Fe hp (.lst xs)
  have h2:=h.mid
  have hs:=Bb.mp h2.sep
  obtain ⟨v',e1,_,hn,_⟩:=h2.ok _ Ab
  have h1:=h.drop.grow (n':=n) s1 (Aj _)
  have npF:p∉F:=h2.free hp _ Ab
  have npG:p∉G:=λz=>npF (hG.subset z)
  have cs:∀a∈cells ⟨some (.ref p),.dat (tZ m) (.list ds),p::G⟩,a=p\/(a∈cells ⟨some v,.dat m d,F⟩):=λa ha=>by
   cases m with
   | ow =>
    rcases An.mp ha with z | z
    ·exact .inl z
    ·exact .inr (hG.subset z)
   | tp=>exact .inl (Al.mp ha)
   | sh=>exact .inl (Al.mp ha)
   | pk=>exact nomatch ha
  refine (h1.push (e:=⟨some (.ref p),.dat (tZ m) (.list ds),p::G⟩) ⟨_,rfl,.lst Ds hz (r.kp (Kp.of s1)),λz=>?_,λz a l e=>?_⟩ (λf hf=>?_) λa ha=>?_).tomid
  ·cases m with
   | ow=>exact Co.mpr ⟨npG,(hn rfl).sublist hG⟩
   | _=>cases z
  ·cases e
   exact npG
  ·have nf:=h2.free hp f (Ad _ hf)
   refine ⟨λhq a ha z=>?_,λhq a ha z=>?_⟩
   ·rcases cs a ha with rfl | hc
    ·exact nf z
    ·refine (hs.1 f hf).1 ?_ a hc z
     w_pre b4
   ·rcases An.mp z with rfl | z
    ·exact nf (Gs _ _ ha)
    ·refine (hs.1 f hf).2 ?_ a ha (hG.subset z)
     w_pre x0
  ·rcases cs a ha with rfl | hc
   ·exact .inl (h2.new0 hp)
   ·rcases h2.new _ Ab a hc with z | z
    w_pre b5
theorem At.newT(h:At K H0 X n (S++⟨some v,.dat m d,F⟩::T) H)(r:RdFs K H xs ds G)(hG:G.Sublist F)(hz:ds.length<=Aq)(hp:H p=none)(q:jA i m ds P):∃z F',At K H0 X n (S++⟨some (.ref p),z,F'⟩::T) (upd H p (.tup xs))/\P z:=by
 have s1:=Fe hp (.tup xs)
 have h1:=h.grow (n':=n) s1 (Aj _)
 cases i with
 | true =>
  obtain rfl:=r.imm q.1
  exact ⟨_,[],h1.drop.pushI (.tup Ds hz (r.kp (Kp.of s1))),q.2⟩
 | false=>exact ⟨_,G,h1.part (.tup Ds hz (r.kp (Kp.of s1))) hG,q⟩
theorem At.oldT{t:Addr}(h:At K H0 X n (S++⟨some v,.dat m d,F⟩::T) H)(r:RdFs K H xs ds G)(hG:G.Sublist F)(hz:ds.length<=Aq)(ht:H t=some (.tup xs))(q:jA i m ds P):∃z F',At K H0 X n (S++⟨some (.ref t),z,F'⟩::T) H/\P z:=by
 cases i with
 | true =>
  obtain rfl:=r.imm q.1
  exact ⟨_,[],h.drop.pushI (.tup ht hz r),q.2⟩
 | false=>exact ⟨_,G,h.part (.tup ht hz r) hG,q⟩
end
def AH:DA:=λδ P=>P [] δ
def U5(de:DE)(da:DA):DA:=λδ P=>de δ λx δ1=>da δ1 λxs δ2=>P (x::xs) δ2
section
variable{X:Cx}{e:Expr}{es:List Expr}{de:DE}{da:DA}
theorem Bq:oS X [] AH:=by
 refine PA.imp Np λσ H Q h=>?_
 w_pre g7
 exact k [] δ [] [] S H rfl hS rfl rfl hA hd
theorem Ba(ha:Fm X e de)(hr:oS X es da)(hs:Bn (e::es) X.env=(false,eval e X.env)::Bn es X.env:=by rfl):oS X (e::es) (U5 de da):=by
 refine PA.imp (Ia ha hr hs) λσ H Q h=>?_
 w_pre w4
 refine ⟨H0,Y,S1,⟨some v,x,F⟩::T,δ1,_,e1,e2,hA1,p1,λxs δ2 As us S2 H2 e3 e4 ex eu hA2 p2=>?_⟩
 refine k (x::xs) δ2 (⟨some v,x,F⟩::As) (v::us) S2 H2 e3 e4 (by rw[Ao,ex]) (by rw[Ao,Ao,eu]) (hA2.perm ((Hk S2).append ?_)) p2
 exact Dj
end
def allOw:List DV->Bool
 | []=>true
 | .dat .ow _::xs=>allOw xs
 | _=>false
def noPk:List DV->Bool
 | []=>true
 | .dat .pk _::_=>false
 | .dat _ _::xs=>noPk xs
 | _=>false
def datas:List DV->Option (List Ae)
 | []=>some []
 | .dat _ d::xs=>(datas xs).map (d::·)
 | _=>none
def pkMd(top:Md)(xs:List DV):Md:=if allOw xs=true then .ow else if noPk xs=true then top else .pk
section
variable{K:PySem.W.Frag}{H0 H:Hp}{X:Addr->Prop}{n:Nat}{S T As:List Ent}
theorem Tn:∀{As:List Ent} {us:List V} {ds:List Ae},As.map Ent.v=us.map some->datas (As.map Ent.x)=some ds->(∀e∈As,Gr K H n e)->RdFs K H us ds (As.flatMap Ent.F)
 | [],us,ds,e,h,_=>by
  cases us with
  | nil=>cases h; exact .nil
  | cons _ _=>cases e
 | ent::As,us,ds,e,h,ok=>by
  cases us with
  | nil=>cases e
  | cons u us =>
   rw[Ao,Ao] at e
   obtain ⟨e1,e2⟩:=Ig e
   obtain ⟨v,x,F⟩:=ent
   have e1':v=some u:=e1
   subst e1'
   rw[Ao] at h
   cases x with
   | dat m d =>
    rw[show datas (DV.dat m d::As.map Ent.x)=(datas (As.map Ent.x)).map (d::·) from rfl] at h
    cases q:datas (As.map Ent.x) with
    | none=>rw[q] at h; cases h
    | some es =>
     rw[q] at h
     cases h
     obtain ⟨w,ew,rw',_⟩:=ok _ Ab
     cases ew
     rw[aD]
     exact .cons rw' (Tn e2 q λf hf=>ok f (Ad _ hf))
   | _=>cases h
theorem Qy:∀{As:List Ent},allOw (As.map Ent.x)=true->∀e∈As,∃d,e.x=.dat .ow d
 | [],_,_,h=>nomatch h
 | ⟨v,x,F⟩::As,h,e,he=>by
  rw[Ao] at h
  have hx:(∃d,x=.dat .ow d)/\allOw (As.map Ent.x)=true:=by
   cases x with
   | dat m d=>cases m <;> first | exact ⟨⟨d,rfl⟩,h⟩ | cases h
   | _=>cases h
  w_pre d7
  ·exact hx.1
  ·exact Qy hx.2 e he
theorem lX:∀{As:List Ent},noPk (As.map Ent.x)=true->∀e∈As,Pw e.x=false
 | [],_,_,h=>nomatch h
 | ⟨v,x,F⟩::As,h,e,he=>by
  rw[Ao] at h
  have hx:Pw x=false/\noPk (As.map Ent.x)=true:=by
   cases x with
   | dat m d=>cases m <;> first | exact ⟨rfl,h⟩ | cases h
   | _=>cases h
  w_pre d7
  ·exact hx.1
  ·exact lX hx.2 e he
theorem bT:∀{As:List Ent},(∀e∈As,∃d,e.x=.dat .ow d)->(∀e∈As,Gr K H n e)->As.Pairwise Wv->(As.flatMap Ent.F).Nodup
 | [],_,_,_=>Dv
 | ent::As,ho,ok,hs=>by
  rw[aD]
  have hc:=Bb.mp hs
  obtain ⟨v,x,F⟩:=ent
  obtain ⟨d,hd⟩:=ho _ Ab
  have hd':x=.dat .ow d:=hd
  subst hd'
  obtain ⟨w,_,_,hn,_⟩:=ok _ Ab
  refine He.mpr ⟨hn rfl,bT (λe he=>ho e (Ad _ he)) (λe he=>ok e (Ad _ he)) hc.2,λa ha b hb z=>?_⟩
  subst z
  obtain ⟨f,hf,hb⟩:=Nr.mp hb
  obtain ⟨d',hd'⟩:=ho f (Ad _ hf)
  exact (hc.1 f hf).1 (.inl (by rw[hd']; rfl)) a ha hb
theorem At.pack{v:V}{d:Ae}{N:List Addr}{H':Hp}{top:Md}(h:At K H0 X n (S++(As++T)) H)(s:Sx H H')(hN:∀a∈N,H a=none)(ndN:N.Nodup)(htop:(top=.tp/\N.length=1)\/(top=.sh/\N=[]))(r:RdF K H' v d (N++As.flatMap Ent.F)):At K H0 X n (S++⟨some v,.dat (pkMd top (As.map Ent.x)) d,N++As.flatMap Ent.F⟩::T) H':=by
 have hp:(S++(As++T)).Perm (As++(S++T)):=by
  rw[<- Bt,<- Bt]
  exact Et.append_right T
 have h2:=h.perm hp
 have hs:=Cr.mp h2.sep
 have h1:=(h.dropL).grow (n':=n) s (Aj _)
 have nN:∀a∈N,∀f∈As++(S++T),a∉f.F:=λa ha f hf=>h2.free (hN a ha) f hf
 have nFlat:∀a∈N,a∉As.flatMap Ent.F:=λa ha z=>by
  obtain ⟨f,hf,z⟩:=Nr.mp z
  exact nN a ha f (Ak _ hf) z
 have cs:∀a∈cells ⟨some v,.dat (pkMd top (As.map Ent.x)) d,N++As.flatMap Ent.F⟩,a∈N\/(allOw (As.map Ent.x)=true/\∃f∈As,a∈cells f):=λa ha=>by
  unfold pkMd at ha
  w_pre o8
  ·rw[if_pos hw] at ha
   rcases Aw.mp ha with z | z
   ·exact .inl z
   ·obtain ⟨f,hf,z⟩:=Nr.mp z
    obtain ⟨d',hd'⟩:=Qy hw f hf
    refine .inr ⟨hw,f,hf,?_⟩
    unfold cells
    rw[hd']
    exact z
  ·rw[if_neg hw] at ha
   by_cases hk:noPk (As.map Ent.x)=true
   ·rw[if_pos hk] at ha
    rcases htop with ⟨rfl,h1⟩ | ⟨rfl,rfl⟩
    ·match N,h1,ha with
     | [b],_,ha=>exact .inl ha
    ·exact nomatch ha
   ·rw[if_neg hk] at ha
    exact nomatch ha
 refine (h1.push (e:=⟨some v,.dat (pkMd top (As.map Ent.x)) d,N++As.flatMap Ent.F⟩) ⟨_,rfl,r,λz=>?_,λz a l e=>?_⟩ (λf hf=>?_) λa ha=>?_).tomid
 ·have hw:allOw (As.map Ent.x)=true:=by
   unfold pkMd at z
   w_pre o8
   ·exact hw
   ·rw[if_neg hw] at z
    split at z
    ·rcases htop with ⟨rfl,_⟩ | ⟨rfl,_⟩ <;> cases z
    ·cases z
  refine He.mpr ⟨ndN,bT (Qy hw) (λe he=>h2.ok e (Ak _ he)) hs.1,λa ha b hb e=>?_⟩
  subst e
  exact nFlat a ha hb
 ·have ht:top=.tp:=by
   unfold pkMd at z
   split at z
   ·cases z
   ·split at z
    ·exact z
    ·cases z
  subst ht
  rcases htop with ⟨_,h1⟩ | ⟨h1,_⟩
  ·match N,h1,e,nFlat with
   | [b],_,e,nFlat =>
    cases e
    exact nFlat a Ab
  ·cases h1
 ·have hf':f∈As++(S++T):=Ag _ hf
  refine ⟨λhq a ha z=>?_,λhq a ha z=>?_⟩
  ·rcases cs a ha with hn | ⟨_,g,hg,hc⟩
   ·exact nN a hn f hf' z
   ·refine (hs.2.2 g hg f hf).1 ?_ a hc z
    w_pre b4
  ·rcases Aw.mp z with z | z
   ·exact nN a z f hf' (Gs _ _ ha)
   ·obtain ⟨g,hg,z⟩:=Nr.mp z
    refine (hs.2.2 g hg f hf).2 ?_ a ha z
    rcases hq with hq | hq
    ·refine .inl ?_
     have hq':Pw (.dat (pkMd top (As.map Ent.x)) d)=false:=hq
     unfold pkMd at hq'
     w_pre o8
     ·obtain ⟨d',hd'⟩:=Qy hw g hg
      rw[hd']
      rfl
     ·rw[if_neg hw] at hq'
      by_cases hk:noPk (As.map Ent.x)=true
      ·exact lX hk g hg
      ·rw[if_neg hk] at hq'
       cases hq'
    ·exact .inr hq
 ·rcases cs a ha with hn | ⟨_,g,hg,hc⟩
  ·exact .inl (h2.new0 (hN a hn))
  ·rcases h2.new g (Ak _ hg) a hc with z | z
   ·exact .inl z
   ·obtain ⟨d',hd'⟩:=Qy (by assumption) g hg
    rw[hd'] at z
    cases z.2
end
def FY(da:DA):DE:=λδ P=>da δ λxs δ'=>match datas xs with
 | some ds=>ds.length<=1000/\P (.dat (pkMd .sh xs) (.tuple ds)) δ'
 | none=>False
def CW(da:DA):DE:=λδ P=>da δ λxs δ'=>match datas xs with
 | some ds=>ds.length<=1000/\P (.dat (pkMd .tp xs) (.list ds)) δ'
 | none=>False
section
variable{X:Cx}{es:List Expr}{da:DA}{pos:Pos}
theorem Sg{x1}(h:oS X es da):Fm X (.Tuple es x1 pos) (FY da):=by
 refine PE.imp (AZ h) λσ H Q h=>?_
 w_pre t4
 cases q:datas xs with
 | none=>rw[q] at p; exact p.elim
 | some ds =>
  w_pre e0
  have s1:=Fe ht (.tup us)
  exact k _ δ' _ _ S' _ e1 e2 (hA'.pack (N:=[]) s1 (λ_ z=>nomatch z) Dv (.inr ⟨rfl,rfl⟩) (.tup Ds hz (r.kp (Kp.of s1)))) p.2
theorem Lk(h:oS X es da):Fm X (.List es pos) (CW da):=by
 refine PE.imp (pL h) λσ H Q h=>?_
 w_pre t4
 cases q:datas xs with
 | none=>rw[q] at p; exact p.elim
 | some ds =>
  w_pre e0
  have s1:=Fe ht (.lst us)
  exact k _ δ' _ _ S' _ e1 e2 (hA'.pack (N:=[t]) s1 (λa z=>by rw[Al.mp z]; exact ht) (Co.mpr ⟨Bd,Dv⟩) (.inl ⟨rfl,rfl⟩) (.lst Ds hz (r.kp (Kp.of s1)))) p.2
end
end DL
namespace Nd
open PySem PySem.Spec PyProof.Rows L2
section
variable{X:Cx}
def S6:V->Option Int->Option Int->Hp->VK->Prop:=λx lo hi H Q=>∃a xs,x=.ref a/\H a=some (.tup xs)/\∀p H',H' p=some (.tup (bE xs lo hi))->Sx H H'->Q (.ref p) H'
theorem E2:Y0 X S6:=by
 w_pre y7
 obtain ⟨a,xs,rfl,hx',q⟩:=h
 have hx:Ta X.K H a xs:=Ta.of hx'
 cases rx
 by_cases hw:HT.sIx xs.length 0 lo=0/\HT.sIx xs.length xs.length hi=xs.length
 ·obtain ⟨its,r,ht,hz⟩:=I.tuple hx
  w_pre v4
  refine Vb ht hs pl pu (by rw[hlen]; exact hw) ⟨.ref a,H,I,rfl,q a H ?_ (Sx.refl _)⟩
  unfold bE
  rw[hw.1,hw.2,Wb,Nat.sub_zero,Ff]
  exact hx'
 ·exact AV pins s σ H (.ref a) (.ref a) vl vu lo hi sl Q I rfl hs pl pu ⟨a,xs,rfl,hx,hw,λp np=>q p _ Ds (Fe np _)⟩
end
end Nd
namespace Ts
open PySem PyProof.Rows
def Ur:Bool->Keyed->Array Keyed->Nat->Nat->Nat->StateT By Sem (Option Nat):=sortPriv% PySem.Builtin.gallop
structure Cmp(prog:Bl)(w:World)(A:Ce)(s:Ai)(kd:Ms)(Ok:Keyed->Prop)(blt:Keyed->Keyed->Bool):Prop where
 run:∀(x y:Keyed) (Q:Bool->Ai->Prop) (E:Value->Ai->Prop),Ok x->Ok y->Q (blt x y) s->wpAny (model prog w) A (keyLt' kd x.1 y.1) Q E s
 irr:∀x,blt x x=false
 tr:∀x y z,blt x y=true->blt y z=true->blt x z=true
 neg:∀x y z,blt x z=true->blt x y=true\/blt y z=true
def le(blt:Keyed->Keyed->Bool)(x y:Keyed):Prop:=blt y x=false
section
variable{prog:Bl}{w:World}{A:Ce}{s:Ai}{kd:Ms}{Ok:Keyed->Prop}{blt:Keyed->Keyed->Bool}
theorem Cmp.refl(C:Cmp prog w A s kd Ok blt)(x:Keyed):le blt x x:=C.irr x
theorem Cmp.ofLt(C:Cmp prog w A s kd Ok blt){x y:Keyed}(h:blt x y=true):le blt x y:=by
 unfold le
 cases q:blt y x with
 | false=>rfl
 | true=>have:=C.tr _ _ _ h q; rw[C.irr] at this; cases this
theorem Cmp.trans(C:Cmp prog w A s kd Ok blt){x y z:Keyed}(h1:le blt x y)(h2:le blt y z):le blt x z:=by
 unfold le at *
 cases q:blt z x with
 | false=>rfl
 | true =>
  rcases C.neg _ y _ q with h | h
  ·rw[h2] at h; cases h
  ·rw[h1] at h; cases h
theorem Cmp.ltLe(C:Cmp prog w A s kd Ok blt){x y z:Keyed}(h1:blt x y=true)(h2:le blt y z):blt x z=true:=by
 unfold le at h2
 rcases C.neg _ z _ h1 with h | h
 ·exact h
 ·rw[h2] at h; cases h
theorem Cmp.leLt(C:Cmp prog w A s kd Ok blt){x y z:Keyed}(h1:le blt x y)(h2:blt y z=true):blt x z=true:=by
 unfold le at h1
 rcases C.neg _ x _ h2 with h | h
 ·rw[h1] at h; cases h
 ·exact h
variable{E:Value->Ai->Prop}
structure Kept(st st':By):Prop where
 kind:kindOf st'=kindOf st
 arr:arrOf st'=arrOf st
 pend:Bg st'=Bg st
 fail:Mq st'=Mq st
theorem Kept.refl(st:By):Kept st st:=⟨rfl,rfl,rfl,rfl⟩
theorem Kept.trans{a b c:By}(h:Kept a b)(k:Kept b c):Kept a c:=⟨k.kind.trans h.kind,k.arr.trans h.arr,k.pend.trans h.pend,k.fail.trans h.fail⟩
theorem oE(C:Cmp prog w A s kd Ok blt){st:By}{x y:Keyed}{Q:Option Bool->By->Prop}(hk:kindOf st=kd)(ox:Ok x)(oy:Ok y)(h:Q (some (blt x y)) st):wpS (model prog w) A E s (lt' x y) Q st:=by
 rw[lt'_eq]
 w_pre q7
 rw[hk]
 exact Az (wpS_lift (Ic (C.run x y _ _ ox oy ⟨rfl,Bi h⟩)))
theorem Fz{st:By}{xs:Array Keyed}{i:Nat}{p:Keyed}{Q:Keyed->By->Prop}(h:xs[i]? = some p)(q:Q p st):wpS (model prog w) A E s (elem' xs i) Q st:=by
 rw[elem'_eq,h]
 exact Bi q
def Uk(left:Bool)(key:Keyed)(arr:Array Keyed)(base i:Nat):StateT By Sem (Option Bool):=do
 let x <- elem' arr (base+i)
 if left then lt' x key else return (<- lt' key x).map (!·)
def sV(left:Bool)(key:Keyed)(arr:Array Keyed)(base n lo0 hi0:Nat):StateT By Sem (Option Nat):=do
 let mut lo:=lo0
 let mut hi:=hi0
 for _ in [0:n] do
  if lo ≥ hi then break
  let mid:=lo+(hi - lo) / 2
  let some up <- Uk left key arr base mid | return none
  if up then lo:=mid+1 else hi:=mid
 return some hi
theorem qJ(left:Bool)(key:Keyed)(arr:Array Keyed)(base n hint:Nat):Ur left key arr base n hint=(do
  let some right <- Uk left key arr base hint | return none
  let mut last:=0
  let mut ofs:=1
  if right then
   let top:=n - hint
   for _ in [0:n] do
    if ofs ≥ top then break
    let some up <- Uk left key arr base (hint+ofs) | return none
    if !up then break
    last:=ofs
    ofs:=2 * ofs+1
   sV left key arr base n (hint+last+1) (hint+min ofs top)
  else
   let top:=hint+1
   for _ in [0:n] do
    if ofs ≥ top then break
    let some got <- Uk left key arr base (hint - ofs) | return none
    if got then break
    last:=ofs
    ofs:=2 * ofs+1
   sV left key arr base n (hint+1 - min ofs top) (hint - last)):=rfl
def Hf(blt:Keyed->Keyed->Bool)(left:Bool)(key x:Keyed):Bool:=if left then blt x key else !blt key x
structure Row(Ok:Keyed->Prop)(arr:Array Keyed)(base n:Nat)(el:Nat->Keyed):Prop where
 at_:∀i,i<n->arr[base+i]? = some (el i)
 ok:∀i,i<n->Ok (el i)
theorem Um(C:Cmp prog w A s kd Ok blt){st:By}{left:Bool}{key:Keyed}{arr:Array Keyed}{base n i:Nat}{el:Nat->Keyed}(R:Row Ok arr base n el)(ok:Ok key)(hk:kindOf st=kd)(hi:i<n){Q:Option Bool->By->Prop}(h:Q (some (Hf blt left key (el i))) st):wpS (model prog w) A E s (Uk left key arr base i) Q st:=by
 unfold Uk
 refine Az (Fz (R.at_ i hi) ?_)
 cases left with
 | true =>
  w_pre j7
  exact oE C hk (R.ok i hi) ok h
 | false =>
  w_pre p7
  exact Az (oE C hk ok (R.ok i hi) (Bi h))
theorem sH(C:Cmp prog w A s kd Ok blt){st:By}{left:Bool}{key:Keyed}{arr:Array Keyed}{base n lo hi:Nat}{el:Nat->Keyed}(R:Row Ok arr base n el)(ok:Ok key)(hk:kindOf st=kd)(mono:∀i j,i<=j->j<n->Hf blt left key (el j)=true->Hf blt left key (el i)=true)(h1:lo<=hi)(h2:hi<=n)(t1:∀i,i<lo->Hf blt left key (el i)=true)(t2:∀i,hi<=i->i<n->Hf blt left key (el i)=false){Q:Option Nat->By->Prop}(h:∀k,k<=n->(∀i,i<k->Hf blt left key (el i)=true)->(∀i,k<=i->i<n->Hf blt left key (el i)=false)->Q (some k) st):wpS (model prog w) A E s (sV left key arr base n lo hi) Q st:=by
 unfold sV
 refine Az (Hr (Ep (I:=λx c st'=>∃l r,c=(none,l,r)/\st'=st/\l<=r/\r<=n/\r - l+x<=n/\(∀i,i<l->Hf blt left key (el i)=true)/\(∀i,r<=i->i<n->Hf blt left key (el i)=false))
  (Q:=λc st'=>∃r,c=(none,r,r)/\st'=st/\r<=n/\(∀i,i<r->Hf blt left key (el i)=true)/\(∀i,r<=i->i<n->Hf blt left key (el i)=false)) ?_ ?_ ⟨lo,hi,rfl,rfl,h1,h2,by omega,t1,t2⟩) ?_)
 ·rintro x c st' _ hx ⟨l,r,rfl,rfl,a1,a2,a3,b1,b2⟩
  dsimp only
  by_cases hlr:l ≥ r
  ·rw[if_pos hlr]
   w_pre e6
   exact Bi ⟨l,rfl,rfl,a2,b1,b2⟩
  ·rw[if_neg hlr]
   have hm:l+(r - l) / 2<n:=by omega
   w_pre b9
   dsimp only
   cases hb:Hf blt left key (el (l+(r - l) / 2)) with
   | true =>
    w_pre j7
    exact Bi ⟨l+(r - l) / 2+1,r,rfl,rfl,by omega,a2,by omega,λi hi=>mono i _ (by omega) hm hb,b2⟩
   | false =>
    w_pre p7
    refine Bi ⟨l,l+(r - l) / 2,rfl,rfl,by omega,by omega,by omega,b1,λi hi hn=>?_⟩
    cases q:Hf blt left key (el i) with
    | false=>rfl
    | true=>rw[mono _ i hi hn q] at hb; cases hb
 ·rintro c st' ⟨l,r,rfl,rfl,a1,a2,a3,b1,b2⟩
  have e:l=r:=by
   have : max 0 n=n:=by omega
   rw[this] at a3
   omega
  subst e
  exact ⟨l,rfl,rfl,a2,b1,b2⟩
 ·rintro c st' ⟨r,rfl,rfl,a2,b1,b2⟩
  exact Bi (h r a2 b1 b2)
theorem Ou(C:Cmp prog w A s kd Ok blt){st:By}{left:Bool}{key:Keyed}{arr:Array Keyed}{base n hint:Nat}{el:Nat->Keyed}(R:Row Ok arr base n el)(ok:Ok key)(hk:kindOf st=kd)(hh:hint<n)(mono:∀i j,i<=j->j<n->Hf blt left key (el j)=true->Hf blt left key (el i)=true){Q:Option Nat->By->Prop}(h:∀k,k<=n->(∀i,i<k->Hf blt left key (el i)=true)->(∀i,k<=i->i<n->Hf blt left key (el i)=false)->Q (some k) st):wpS (model prog w) A E s (Ur left key arr base n hint) Q st:=by
 have anti:∀i j,i<=j->j<n->Hf blt left key (el i)=false->Hf blt left key (el j)=false:=λi j hij hj q=>by
  cases z:Hf blt left key (el j) with
  | false=>rfl
  | true=>rw[mono i j hij hj z] at q; cases q
 rw[qJ]
 refine Az (Um C R ok hk hh ?_)
 dsimp only
 cases hb:Hf blt left key (el hint) with
 | true =>
  w_pre j7
  refine Az (Hr (Ep (I:=λx c st'=>∃la o,c=(none,la,o)/\st'=st/\la<o/\x+1<=o/\hint+la<n/\Hf blt left key (el (hint+la))=true)
   (Q:=λc st'=>∃la o,c=(none,la,o)/\st'=st/\la<o/\hint+la<n/\Hf blt left key (el (hint+la))=true/\(o ≥ n - hint\/(hint+o<n/\Hf blt left key (el (hint+o))=false))) ?_ ?_
   ⟨0,1,rfl,rfl,by omega,by omega,by omega,hb⟩) ?_)
  ·rintro x c st' _ hx ⟨la,o,rfl,rfl,a1,a2,a3,b1⟩
   dsimp only
   by_cases ho:o ≥ n - hint
   w_pre f6
   ·rw[if_neg ho]
    have hm:hint+o<n:=by omega
    w_pre b9
    dsimp only
    cases hb2:Hf blt left key (el (hint+o)) with
    | true =>
     simp only[Sm,Bw,if_false]
     exact Bi ⟨o,2 * o+1,rfl,rfl,by omega,by omega,hm,hb2⟩
    | false =>
     simp only[Bool.not_false,if_true]
     exact Bi ⟨la,o,rfl,rfl,a1,a3,b1,.inr ⟨hm,hb2⟩⟩
  w_pre c1
  ·rintro c st' ⟨la,o,rfl,rfl,a1,a3,b1,b2⟩
   dsimp only
   refine sH C R ok hk mono (by omega) (by omega) (λi hi=>mono i _ (by omega) a3 b1) (λi hi hn=>?_) h
   w_pre u6
   ·exact anti _ i (by omega) hn b3
 | false =>
  w_pre p7
  refine Az (Hr (Ep (I:=λx c st'=>∃la o,c=(none,la,o)/\st'=st/\la<o/\x+1<=o/\la<=hint/\Hf blt left key (el (hint - la))=false)
   (Q:=λc st'=>∃la o,c=(none,la,o)/\st'=st/\la<o/\la<=hint/\Hf blt left key (el (hint - la))=false/\(o ≥ hint+1\/(o<=hint/\Hf blt left key (el (hint - o))=true))) ?_ ?_
   ⟨0,1,rfl,rfl,by omega,by omega,by omega,hb⟩) ?_)
  ·rintro x c st' _ hx ⟨la,o,rfl,rfl,a1,a2,a3,b1⟩
   dsimp only
   by_cases ho:o ≥ hint+1
   w_pre f6
   ·rw[if_neg ho]
    have hm:hint - o<n:=by omega
    w_pre b9
    dsimp only
    cases hb2:Hf blt left key (el (hint - o)) with
    | true =>
     w_pre j7
     exact Bi ⟨la,o,rfl,rfl,a1,a3,b1,.inr ⟨by omega,hb2⟩⟩
    | false =>
     w_pre p7
     exact Bi ⟨o,2 * o+1,rfl,rfl,by omega,by omega,by omega,hb2⟩
  w_pre c1
  ·rintro c st' ⟨la,o,rfl,rfl,a1,a3,b1,b2⟩
   dsimp only
   refine sH C R ok hk mono (by omega) (by omega) (λi hi=>?_) (λi hi hn=>anti _ i hi hn b1) h
   w_pre u6
   ·exact mono i _ (by omega) (by omega) b3
end
structure MI{α:Type}(R:α->α->Prop)(xs ys out:List α)(i j:Nat):Prop where
 perm:out.Perm (xs.take i++ys.take j)
 srt:out.Pairwise R
 lx:∀o∈out,∀z∈xs.drop i,R o z
 ly:∀o∈out,∀z∈ys.drop j,R o z
section
variable{α:Type}{R:α->α->Prop}{xs ys out:List α}{i j:Nat}
theorem fF{l:List α}{n:Nat}{a:α}(h:l[n]? = some a):l.drop n=a::l.drop (n+1):=by
 obtain ⟨hn,e⟩:=Av.mp h
 rw[Rm hn,e]
theorem take_snoc{l:List α}{n:Nat}{a:α}(h:l[n]? = some a):l.take (n+1)=l.take n++[a]:=by
 rw[List.take_succ,h]; rfl
theorem MI.pushY(M:MI R xs ys out i j)(sy:ys.Pairwise R){y:α}(hy:ys[j]? = some y)(hx:∀z∈xs.drop i,R y z):MI R xs ys (out++[y]) i (j+1):=by
 have dy:=fF hy
 have sd:(y::ys.drop (j+1)).Pairwise R:=by rw[<- dy]; exact Je (Iv _ _) sy
 w_pre p5
 ·rw[take_snoc hy,<- Bt]
  exact M.perm.append_right _
 ·refine Cr.mpr ⟨M.srt,Ey _ _,λo ho z hz=>?_⟩
  have e:z=y:=by simpa using hz
  rw[e]
  exact M.ly o ho y (by rw[dy]; exact Ab)
 ·rcases Aw.mp ho with ho | ho
  ·exact M.lx o ho z hz
  ·have e:o=y:=by simpa using ho
   rw[e]; exact hx z hz
 ·rcases Aw.mp ho with ho | ho
  ·exact M.ly o ho z (by rw[dy]; exact Ad _ hz)
  ·have e:o=y:=by simpa using ho
   rw[e]; exact s1 z hz
theorem MI.pushX(M:MI R xs ys out i j)(sx:xs.Pairwise R){x:α}(hx:xs[i]? = some x)(hy:∀z∈ys.drop j,R x z):MI R xs ys (out++[x]) (i+1) j:=by
 have dx:=fF hx
 have sd:(x::xs.drop (i+1)).Pairwise R:=by rw[<- dx]; exact Je (Iv _ _) sx
 w_pre p5
 ·rw[take_snoc hx]
  have p1:(out++[x]).Perm ((xs.take i++ys.take j)++[x]):=M.perm.append_right _
  refine p1.trans ?_
  rw[Bt,Bt]
  exact Jo _ Et
 ·refine Cr.mpr ⟨M.srt,Ey _ _,λo ho z hz=>?_⟩
  have e:z=x:=by simpa using hz
  rw[e]
  exact M.lx o ho x (by rw[dx]; exact Ab)
 ·rcases Aw.mp ho with ho | ho
  ·exact M.lx o ho z (by rw[dx]; exact Ad _ hz)
  ·have e:o=x:=by simpa using ho
   rw[e]; exact s1 z hz
 ·rcases Aw.mp ho with ho | ho
  ·exact M.ly o ho z hz
  ·have e:o=x:=by simpa using ho
   rw[e]; exact hy z hz
theorem Tu{l:List α}{n k:Nat}{a:α}(h:l[n+k]? = some a):(l.drop n).take (k+1)=(l.drop n).take k++[a]:=take_snoc (by rw[Zc]; exact h)
theorem MI.blockX(M:MI R xs ys out i j)(sx:xs.Pairwise R):∀k,i+k<=xs.length->(∀m,m<k->∀x,xs[i+m]? = some x->∀z∈ys.drop j,R x z)->MI R xs ys (out++(xs.drop i).take k) (i+k) j
 | 0,_,_=>by simpa using M
 | k+1,hk,h=>by
  have ih:=MI.blockX M sx k (by omega) λm hm=>h m (by omega)
  obtain ⟨x,hx⟩ : ∃x,xs[i+k]? = some x:=⟨xs[i+k],by simp⟩
  rw[Tu hx,<- Bt]
  exact ih.pushX sx hx (h k (by omega) x hx)
theorem MI.blockY(M:MI R xs ys out i j)(sy:ys.Pairwise R):∀k,j+k<=ys.length->(∀m,m<k->∀y,ys[j+m]? = some y->∀z∈xs.drop i,R y z)->MI R xs ys (out++(ys.drop j).take k) i (j+k)
 | 0,_,_=>by simpa using M
 | k+1,hk,h=>by
  have ih:=MI.blockY M sy k (by omega) λm hm=>h m (by omega)
  obtain ⟨y,hy⟩ : ∃y,ys[j+k]? = some y:=⟨ys[j+k],by simp⟩
  rw[Tu hy,<- Bt]
  exact ih.pushY sy hy (h k (by omega) y hy)
theorem MI.endX(M:MI R xs ys out i j)(sx:xs.Pairwise R)(hj:ys.length<=j):(out++xs.drop i++ys.drop j).Perm (xs++ys)/\(out++xs.drop i++ys.drop j).Pairwise R:=by
 rw[List.drop_eq_nil_of_le hj,Ec]
 constructor
 ·have p1:(out++xs.drop i).Perm ((xs.take i++ys.take j)++xs.drop i):=M.perm.append_right _
  refine p1.trans ?_
  rw[Jt hj]
  have p2:(xs.take i++ys++xs.drop i).Perm (xs.take i++(xs.drop i++ys)):=by
   rw[Bt]
   exact Jo _ Et
  refine p2.trans ?_
  rw[<- Bt,Fj]
 ·exact Cr.mpr ⟨M.srt,Je (Iv _ _) sx,M.lx⟩
theorem MI.endYX(M:MI R xs ys out i j)(sx:xs.Pairwise R)(sy:ys.Pairwise R)(h:∀y∈ys.drop j,∀x∈xs.drop i,R y x):(out++ys.drop j++xs.drop i).Perm (xs++ys)/\(out++ys.drop j++xs.drop i).Pairwise R:=by
 constructor
 ·have p1:(out++(ys.drop j++xs.drop i)).Perm ((xs.take i++ys.take j)++(ys.drop j++xs.drop i)):=M.perm.append_right _
  rw[Bt]
  refine p1.trans ?_
  rw[Bt,<- Bt (ys.take j),Fj]
  have p2:(xs.take i++(ys++xs.drop i)).Perm (xs.take i++(xs.drop i++ys)):=Jo _ Et
  refine p2.trans ?_
  rw[<- Bt,Fj]
 ·refine Cr.mpr ⟨Cr.mpr ⟨M.srt,Je (Iv _ _) sy,M.ly⟩,Je (Iv _ _) sx,λa ha b hb=>?_⟩
  rcases Aw.mp ha with ha | ha
  ·exact M.lx a ha b hb
  ·exact h a ha b hb
end
def lI:Array Keyed->Array Keyed->StateT By Sem (Array Keyed):=sortPriv% PySem.Builtin.mergeLo
def aI:Nat->StateT By Sem Unit:=sortPriv% PySem.Builtin.setMinGallop
abbrev W7(st:By)(g:Nat):By:=SortSt.mk' (kindOf st) (arrOf st) (Bg st) g (Mq st)
theorem pB(g:Nat):aI g=modify λst=>W7 st g:=rfl
theorem aF(p:Array Keyed)(i:Nat):(p.extract i p.size).toList=p.toList.drop i:=by
 rw[Oh,Lj,Jt]
 rw[Nt,Am]
 exact Aj _
theorem Xi(p:Array Keyed)(i k:Nat):(p.extract i (i+k)).toList=(p.toList.drop i).take k:=by
 rw[Oh,Lj,Nat.add_sub_cancel_left]
abbrev dn(p q out:Array Keyed)(i j:Nat):Array Keyed:=out++p.extract i p.size++q.extract j q.size
abbrev lst(p q out:Array Keyed)(i j:Nat):Array Keyed:=out++q.extract j q.size++p.extract i p.size
theorem L5(p q out:Array Keyed)(i j:Nat):(dn p q out i j).toList=out.toList++p.toList.drop i++q.toList.drop j:=by
 rw[Dx,Dx,aF,aF]
theorem xY(p q out:Array Keyed)(i j:Nat):(lst p q out i j).toList=out.toList++q.toList.drop j++p.toList.drop i:=by
 rw[Dx,Dx,aF,aF]
abbrev K6:=Option (Array Keyed)×Array Keyed×Nat×Nat×Nat×Nat×Nat
def K7(p q out:Array Keyed)(i j g ac k:Nat):StateT By Sem (ForInStep K6):=do
 let x <- elem' p i
 if (i+1+1 == p.size)=true then pure (Cv (some (lst p q (out.push x) (i+1) j),out.push x,i+1,j,g,ac,k))
 else if (decide (ac<7) && decide (k<7))=true then pure (Cv (none,out.push x,i+1,j,g,ac,k))
 else pure (El (none,out.push x,i+1,j,g,ac,k))
def Q7(p q out:Array Keyed)(i j g ac bc:Nat):StateT By Sem (ForInStep K6):=do
 let y <- elem' q j
 if (j+1 == q.size)=true then pure (Cv (some (dn p q (out.push y) i (j+1)),out.push y,i,j+1,g,ac,bc))
 else do
  let x <- elem' p i
  let some k <- Ur true x q (j+1) (q.size - (j+1)) 0 | pure (Cv (some (dn p q (out.push y) i (j+1)),out.push y,i,j+1,g,ac,bc))
  if k > 0 then
   if (j+1+k == q.size)=true then pure (Cv (some (dn p q (out.push y++q.extract (j+1) (j+1+k)) i (j+1+k)),out.push y++q.extract (j+1) (j+1+k),i,j+1+k,g,ac,k))
   else K7 p q (out.push y++q.extract (j+1) (j+1+k)) i (j+1+k) g ac k
  else K7 p q (out.push y) i (j+1) g ac k
def AL(p q out:Array Keyed)(i j g ac bc:Nat):StateT By Sem (ForInStep K6):=do
 aI g
 let y <- elem' q j
 let some k <- Ur false y p i (p.size - i) 0 | pure (Cv (some (dn p q out i j),out,i,j,g,ac,bc))
 if k > 0 then
  if (i+k+1 == p.size)=true then pure (Cv (some (lst p q (out++p.extract i (i+k)) (i+k) j),out++p.extract i (i+k),i+k,j,g,k,bc))
  else if (i+k == p.size)=true then pure (Cv (some (dn p q (out++p.extract i (i+k)) (i+k) j),out++p.extract i (i+k),i+k,j,g,k,bc))
  else Q7 p q (out++p.extract i (i+k)) (i+k) j g k bc
 else Q7 p q out i j g k bc
section
variable{prog:Bl}{w:World}{A:Ce}{s:Ai}{kd:Ms}{Ok:Keyed->Prop}{blt:Keyed->Keyed->Bool}{E:Value->Ai->Prop}
theorem Uu{st:By}{x:String}{Q:Unit->By->Prop}(h:Q () st):wpS (model prog w) A E s (liftM (rule x):StateT By Sem Unit) Q st:=wpS_lift (Kk ⟨rfl,h⟩)
theorem Us{st:By}{g:Nat}{Q:Unit->By->Prop}(h:∀st',Kept st st'->Q () st'):wpS (model prog w) A E s (aI g) Q st:=by
 rw[pB]
 exact Kj (h _ ⟨rfl,rfl,rfl,rfl⟩)
structure Two(Ok:Keyed->Prop)(blt:Keyed->Keyed->Bool)(p q:Array Keyed)(x0 y0 xl:Keyed):Prop where
 op:∀x∈p.toList,Ok x
 oq:∀x∈q.toList,Ok x
 sp:p.toList.Pairwise (le blt)
 sq:q.toList.Pairwise (le blt)
 hx0:p[0]? = some x0
 hy0:q[0]? = some y0
 hxl:p[p.size - 1]? = some xl
 first:blt y0 x0=true
 last:∀y∈q.toList,blt y xl=true
abbrev qX(blt:Keyed->Keyed->Bool)(p q r:Array Keyed):Prop:=r.toList.Perm (p.toList++q.toList)/\r.toList.Pairwise (le blt)
theorem Em{p:Array Keyed}{i:Nat}{x:Keyed}(h:p[i]? = some x):p.toList[i]? = some x:=by simpa using h
theorem Ge{p:Array Keyed}{i:Nat}(h:i<p.size):∃x,p[i]? = some x:=⟨p[i],by simp [h]⟩
theorem Kf{p:Array Keyed}{i:Nat}{x:Keyed}(h:p[i]? = some x):x∈p.toList:=Be (Em h)
theorem mB{α:Type}{l:List α}{i:Nat}{z:α}(h:z∈l.drop i):∃k,l[i+k]? = some z:=by
 obtain ⟨k,hk,e⟩:=Gx.mp h
 exact ⟨k,by rw[<- Zc,Bx hk,e]⟩
theorem Lr(C:Cmp prog w A s kd Ok blt){l:List Keyed}(sl:l.Pairwise (le blt)){i j:Nat}{x y:Keyed}(hij:i<=j)(hx:l[i]? = some x)(hy:l[j]? = some y):le blt x y:=by
 by_cases e:i=j
 ·subst e
  rw[hx] at hy
  cases hy
  exact C.refl x
 ·obtain ⟨hi,ex⟩:=Av.mp hx
  obtain ⟨hj,ey⟩:=Av.mp hy
  have:=Lh.mp sl i j hi hj (by omega)
  rw[ex,ey] at this
  exact this
theorem Qa(C:Cmp prog w A s kd Ok blt){l:List Keyed}(sl:l.Pairwise (le blt)){i:Nat}{x y:Keyed}(hx:l[i]? = some x)(h:le blt y x):∀z∈l.drop i,le blt y z:=λz hz=>by
 obtain ⟨k,hk⟩:=mB hz
 exact C.trans h (Lr C sl (Oe i k) hx hk)
abbrev LI(blt:Keyed->Keyed->Bool)(p q out:Array Keyed)(i j:Nat):Prop:=MI (le blt) p.toList q.toList out.toList i j
theorem Ot(out:Array Keyed)(x:Keyed):(out.push x).toList=out.toList++[x]:=by simp
theorem Two.last_end(C:Cmp prog w A s kd Ok blt){p q out:Array Keyed}{x0 y0 xl:Keyed}(T:Two Ok blt p q x0 y0 xl){i j:Nat}(M:LI blt p q out i j)(hi:i+1=p.size):qX blt p q (lst p q out i j):=by
 have h:=M.endYX T.sp T.sq (λy hy x hx=>?_)
 ·rw[<- xY] at h
  exact h
 ·obtain ⟨k,hk⟩:=mB hx
  have : k=0:=by
   have:=(Av.mp hk).1
   rw[Am] at this
   omega
  subst this
  have e:x=xl:=by
   have:=Em T.hxl
   rw[show p.size - 1=i+0 by omega,hk] at this
   exact Bv this
  rw[e]
  exact C.ofLt (T.last y (Vz hy))
theorem Two.done_end{p q out:Array Keyed}{x0 y0 xl:Keyed}(T:Two Ok blt p q x0 y0 xl){i j:Nat}(M:LI blt p q out i j)(hj:q.size<=j):qX blt p q (dn p q out i j):=by
 have h:=M.endX T.sp (by rw[Am]; exact hj)
 rw[<- L5] at h
 exact h
def DX(blt:Keyed->Keyed->Bool)(p q:Array Keyed)(st:By)(n:Nat)(r:ForInStep K6)(st':By):Prop:=Kept st st'/\match r with
 | .done (some r,_)=>qX blt p q r
 | .done (none,out,i,j,_)=>LI blt p q out i j/\i+1<p.size/\j<q.size/\n<i+j
 | .yield (none,out,i,j,_)=>LI blt p q out i j/\i+1<p.size/\j<q.size/\n<i+j
 | .yield (some _,_)=>False
theorem tS(C:Cmp prog w A s kd Ok blt){p q out:Array Keyed}{x0 y0 xl:Keyed}(T:Two Ok blt p q x0 y0 xl){i j g ac k n:Nat}{st0 st:By}(kp:Kept st0 st)(M:LI blt p q out i j)(hi:i+1<p.size)(hj:j<q.size)(hn:n<=i+j){x:Keyed}(hx:p[i]? = some x)(hq:∀z∈q.toList.drop j,le blt x z):wpS (model prog w) A E s (K7 p q out i j g ac k) (DX blt p q st0 n) st:=by
 unfold K7
 w_pre a8
 have M1:LI blt p q (out.push x) (i+1) j:=by
  have:=M.pushX T.sp (Em hx) hq
  rw[<- Ot] at this
  exact this
 by_cases h1:i+1+1=p.size
 ·rw[if_pos (by rw[h1]; exact beq_self_eq_true _)]
  exact Bi ⟨kp,T.last_end C M1 h1⟩
 ·rw[if_neg (λz=>h1 (Dz z))]
  w_pre o9
  ·rw[if_pos h2]
   exact Bi ⟨kp,M1,by omega,hj,by omega⟩
  ·rw[if_neg h2]
   exact Bi ⟨kp,M1,by omega,hj,by omega⟩
theorem tU(C:Cmp prog w A s kd Ok blt){p q out:Array Keyed}{x0 y0 xl:Keyed}(T:Two Ok blt p q x0 y0 xl){i j g ac bc n:Nat}{st0 st:By}(kp:Kept st0 st)(hk:kindOf st=kd)(M:LI blt p q out i j)(hi:i+1<p.size)(hj:j<q.size)(hn:n<=i+j){x y:Keyed}(hx:p[i]? = some x)(hy:q[j]? = some y)(hyx:blt y x=true):wpS (model prog w) A E s (Q7 p q out i j g ac bc) (DX blt p q st0 n) st:=by
 unfold Q7
 w_pre b8
 have M1:LI blt p q (out.push y) i (j+1):=by
  have:=M.pushY T.sq (Em hy) (Qa C T.sp (Em hx) (C.ofLt hyx))
  rw[<- Ot] at this
  exact this
 by_cases h1:j+1=q.size
 ·rw[if_pos (by rw[h1]; exact beq_self_eq_true _)]
  exact Bi ⟨kp,T.done_end M1 (by omega)⟩
 ·rw[if_neg (λz=>h1 (Dz z))]
  w_pre a8
  have R:Row Ok q (j+1) (q.size - (j+1)) (λm=>q.getD (j+1+m) y):=⟨λm hm=>?_,λm hm=>?_⟩
  ·refine Az (Ou C R (T.op x (Kf hx)) hk (by omega) (λa b hab hb q1=>?_) λk hk1 t1 t2=>?_)
   ·obtain ⟨ya,ea⟩:=Ge (p:=q) (i:=j+1+a) (by omega)
    obtain ⟨yb,eb⟩:=Ge (p:=q) (i:=j+1+b) (by omega)
    have ga:q.getD (j+1+a) y=ya:=by simp [Cs,ea]
    have gb:q.getD (j+1+b) y=yb:=by simp [Cs,eb]
    simp only[ga,gb,Hf,if_true] at q1 ⊢
    exact C.leLt (Lr C T.sq (by omega) (Em ea) (Em eb)) q1
   ·dsimp only
    have val:∀m yy,q[j+1+m]? = some yy->q.getD (j+1+m) y=yy:=λm yy e=>by simp [Cs,e]
    have M2:LI blt p q (out.push y++q.extract (j+1) (j+1+k)) i (j+1+k):=by
     have:=M1.blockY T.sq k (by rw[Am]; omega) (λm hm yy ey=>by
      have ey':q[j+1+m]? = some yy:=by simpa using ey
      have:=t1 m hm
      rw[val m yy ey'] at this
      simp only[Hf,if_true] at this
      exact Qa C T.sp (Em hx) (C.ofLt this))
     rw[<- Xi,<- Dx] at this
     exact this
    by_cases h2:k > 0
    ·rw[if_pos h2]
     by_cases h3:j+1+k=q.size
     ·rw[if_pos (by rw[h3]; exact beq_self_eq_true _)]
      exact Bi ⟨kp,T.done_end M2 (by omega)⟩
     ·rw[if_neg (λz=>h3 (Dz z))]
      obtain ⟨yk,ek⟩:=Ge (p:=q) (i:=j+1+k) (by omega)
      refine tS C T kp M2 hi (by omega) (by omega) hx (Qa C T.sq (Em ek) ?_)
      have:=t2 k (Aj _) (by omega)
      rw[val k yk ek] at this
      w_pre r5
    ·rw[if_neg h2]
     have hk0:k=0:=by omega
     subst hk0
     obtain ⟨yk,ek⟩:=Ge (p:=q) (i:=j+1) (by omega)
     refine tS C T kp M1 hi (by omega) (by omega) hx (Qa C T.sq (Em ek) ?_)
     have:=t2 0 (Aj _) (by omega)
     rw[val 0 yk ek] at this
     w_pre r5
  ·obtain ⟨ya,ea⟩:=Ge (p:=q) (i:=j+1+m) (by omega)
   rw[ea]
   simp [Cs,ea]
  ·obtain ⟨ya,ea⟩:=Ge (p:=q) (i:=j+1+m) (by omega)
   have : q.getD (j+1+m) y=ya:=by simp [Cs,ea]
   rw[this]
   exact T.oq ya (Kf ea)
theorem G9(C:Cmp prog w A s kd Ok blt){p q out:Array Keyed}{x0 y0 xl:Keyed}(T:Two Ok blt p q x0 y0 xl){i j g ac bc n:Nat}{st0 st:By}(kp:Kept st0 st)(hk:kindOf st=kd)(M:LI blt p q out i j)(hi:i+1<p.size)(hj:j<q.size)(hn:n<=i+j):wpS (model prog w) A E s (AL p q out i j g ac bc) (DX blt p q st0 n) st:=by
 unfold AL
 w_pre v2
 obtain ⟨y,hy⟩:=Ge (p:=q) hj
 w_pre b8
 have val:∀m xx,p[i+m]? = some xx->p.getD (i+m) y=xx:=λm xx e=>by simp [Cs,e]
 have R:Row Ok p i (p.size - i) (λm=>p.getD (i+m) y):=⟨λm hm=>by
  w_pre s9
  rw[val m xa ea,ea],λm hm=>by
  w_pre s9
  show Ok (p.getD (i+m) y)
  rw[val m xa ea]
  exact T.op xa (Kf ea)⟩
 refine Az (Ou C R (T.oq y (Kf hy)) hk' (by omega) (λa b hab hb q1=>?_) λk hk1 t1 t2=>?_)
 ·obtain ⟨xa,ea⟩:=Ge (p:=p) (i:=i+a) (by omega)
  obtain ⟨xb,eb⟩:=Ge (p:=p) (i:=i+b) (by omega)
  simp only[val a xa ea,val b xb eb,Hf,Bw,if_false,Kq] at q1 ⊢
  exact C.trans (Lr C T.sp (by omega) (Em ea) (Em eb)) q1
 ·dsimp only
  -- the last one is beyond y: so k does not reach it
  have hkl:i+k+1<=p.size:=by
   rcases Nat.lt_or_ge (i+k) p.size with z | z
   ·omega
   ·exfalso
    have:=t1 (p.size - 1 - i) (by omega)
    have e:p[i+(p.size - 1 - i)]? = some xl:=by
     rw[show i+(p.size - 1 - i)=p.size - 1 by omega]
     exact T.hxl
    rw[val _ xl e] at this
    simp only[Hf,Bw,if_false,T.last y (Kf hy),Sm] at this
  have M1:LI blt p q (out++p.extract i (i+k)) (i+k) j:=by
   have:=M.blockX T.sp k (by rw[Am]; omega) (λm hm xx ex=>by
    have ex':p[i+m]? = some xx:=by simpa using ex
    have:=t1 m hm
    rw[val m xx ex'] at this
    simp only[Hf,Bw,if_false,Kq] at this
    exact Qa C T.sq (Em hy) this)
   rw[<- Xi,<- Dx] at this
   exact this
  obtain ⟨xk,ek⟩:=Ge (p:=p) (i:=i+k) (by omega)
  have hyx:blt y xk=true:=by
   have:=t2 k (Aj _) (by omega)
   rw[val k xk ek] at this
   simpa only [Hf,Bw,if_false,Qt] using this
  by_cases h2:k > 0
  ·rw[if_pos h2]
   by_cases h3:i+k+1=p.size
   ·rw[if_pos (by rw[h3]; exact beq_self_eq_true _)]
    exact Bi ⟨kp',T.last_end C M1 h3⟩
   ·rw[if_neg (λz=>h3 (Dz z)),if_neg (λz=>by have:=Dz z; omega)]
    exact tU C T kp' hk' M1 (by omega) hj (by omega) ek hy hyx
  ·rw[if_neg h2]
   have hk0:k=0:=by omega
   subst hk0
   exact tU C T kp' hk' M hi hj hn ek hy hyx
theorem qO(C:Cmp prog w A s kd Ok blt){p q:Array Keyed}{x0 y0 xl:Keyed}(T:Two Ok blt p q x0 y0 xl){st:By}(hk:kindOf st=kd){Q:Array Keyed->By->Prop}(h:∀r st',Kept st st'->qX blt p q r->Q r st'):wpS (model prog w) A E s (lI p q) Q st:=by
 have p0:0<p.size:=by
  have:=(Hs.mp T.hx0).1
  exact this
 have q0:0<q.size:=by
  have:=(Hs.mp T.hy0).1
  exact this
 have M0:LI blt p q #[y0] 0 1:=by
  have m:LI blt p q #[] 0 0:=⟨by simp,by simp,λo ho=>by simp at ho,λo ho=>by simp at ho⟩
  have:=m.pushY T.sq (Em T.hy0) (Qa C T.sp (Em T.hx0) (C.ofLt T.first))
  simpa using this
 unfold lI
 refine Az (Uu ?_)
 refine Az (Fz T.hy0 ?_)
 dsimp only
 by_cases h1:1=q.size
 ·rw[if_pos (by rw[<- h1]; rfl)]
  exact Bi (h _ _ (Kept.refl _) (T.done_end M0 (by omega)))
 w_pre g9
 by_cases h2:0+1=p.size
 ·rw[if_pos (by rw[<- h2]; rfl)]
  exact Bi (h _ _ (Kept.refl _) (T.last_end C M0 (by omega)))
 rw[if_neg (λz=>h2 (Dz z))]
 w_pre q7
 refine Az (Hr (Ep
  (I:=λx c st'=>Kept st st'/\∃out i j g,c=(none,out,i,j,g)/\LI blt p q out i j/\i+1<p.size/\j<q.size/\x+1<=i+j)
  (Q:=λc st'=>Kept st st'/\∃r Ht,c=(some r,Ht)/\qX blt p q r) ?_ ?_ ⟨Kept.refl _,_,0,1,_,rfl,M0,by omega,by omega,by omega⟩) ?_)
 ·rintro x c st1 _ hx ⟨kp1,out,i,j,g,rfl,M,hi,hj,hn⟩
  dsimp only
  -- one by one
  refine Az (Hr (Ep
   (I:=λ_ c st'=>st'=st1/\∃out i j ac bc,c=(none,out,i,j,ac,bc)/\LI blt p q out i j/\i+1<p.size/\j<q.size/\x+1<=i+j)
   (Q:=λc st'=>st'=st1/\((∃r Ht,c=(some r,Ht)/\qX blt p q r)\/∃out i j ac bc,c=(none,out,i,j,ac,bc)/\LI blt p q out i j/\i+1<p.size/\j<q.size/\x+1<=i+j)) ?_ ?_ ⟨rfl,out,i,j,0,0,rfl,M,hi,hj,hn⟩) ?_)
  ·rintro z c st2 _ hz ⟨rfl,out,i,j,ac,bc,rfl,M,hi,hj,hn⟩
   dsimp only
   obtain ⟨yy,hy⟩:=Ge (p:=q) hj
   obtain ⟨xx,hx⟩:=Ge (p:=p) (i:=i) (by omega)
   w_pre o2
   dsimp only
   cases hb:blt yy xx with
   | true =>
    w_pre j7
    w_pre b8
    have M1:LI blt p q (out.push yy) i (j+1):=by
     have:=M.pushY T.sq (Em hy) (Qa C T.sp (Em hx) (C.ofLt hb))
     rw[<- Ot] at this
     exact this
    by_cases e1:j+1=q.size
    ·rw[if_pos (by rw[e1]; exact beq_self_eq_true _)]
     exact Bi ⟨rfl,.inl ⟨_,_,rfl,T.done_end M1 (by omega)⟩⟩
    ·rw[if_neg (λz=>e1 (Dz z))]
     split
     ·exact Bi ⟨rfl,.inr ⟨_,_,_,_,_,rfl,M1,hi,by omega,by omega⟩⟩
     ·exact Bi ⟨rfl,_,_,_,_,_,rfl,M1,hi,by omega,by omega⟩
   | false =>
    w_pre p7
    w_pre a8
    have M1:LI blt p q (out.push xx) (i+1) j:=by
     have:=M.pushX T.sp (Em hx) (Qa C T.sq (Em hy) hb)
     rw[<- Ot] at this
     exact this
    by_cases e1:i+1+1=p.size
    ·rw[if_pos (by rw[e1]; exact beq_self_eq_true _)]
     exact Bi ⟨rfl,.inl ⟨_,_,rfl,T.last_end C M1 (by omega)⟩⟩
    ·rw[if_neg (λz=>e1 (Dz z))]
     split
     ·exact Bi ⟨rfl,.inr ⟨_,_,_,_,_,rfl,M1,by omega,hj,by omega⟩⟩
     ·exact Bi ⟨rfl,_,_,_,_,_,rfl,M1,by omega,hj,by omega⟩
  ·rintro c st2 ⟨rfl,out,i,j,ac,bc,rfl,M⟩
   exact ⟨rfl,.inr ⟨out,i,j,ac,bc,rfl,M⟩⟩
  ·rintro c st2 ⟨rfl,hc⟩
   rcases hc with ⟨r,Ht,rfl,hr⟩ | ⟨out,i,j,ac,bc,rfl,M,hi,hj,hn⟩
   ·exact Bi ⟨kp1,r,_,rfl,hr⟩
   ·dsimp only
    refine Az (Uu ?_)
    -- the gallop
    refine Az (Hr (Ep
     (I:=λy c st'=>Kept st st'/\∃out i j g ac bc,c=(none,out,i,j,g,ac,bc)/\LI blt p q out i j/\i+1<p.size/\j<q.size/\(if y=0 then x+1<=i+j else x+2<=i+j))
     (Q:=λc st'=>Kept st st'/\((∃r Ht,c=(some r,Ht)/\qX blt p q r)\/∃out i j g ac bc,c=(none,out,i,j,g,ac,bc)/\LI blt p q out i j/\i+1<p.size/\j<q.size/\x+2<=i+j)) ?_ ?_
     ⟨kp1,out,i,j,_,ac,bc,rfl,M,hi,hj,by rw[if_pos rfl]; exact hn⟩) ?_)
    ·rintro y c st3 _ hy ⟨kp3,out,i,j,g,ac,bc,rfl,M,hi,hj,hn⟩
     have hn':x+1<=i+j:=by split at hn <;> omega
     have key:∀g',wpS (model prog w) A E s (AL p q out i j g' ac bc) (DX blt p q st (x+1)) st3:=λg'=>G9 C T kp3 (kp3.kind.trans hk) M hi hj hn'
     dsimp only
     refine Hr (?_:wpS (model prog w) A E s _ (DX blt p q st (x+1)) st3) λr st4 hr=>?_
     w_pre u0
     ·obtain ⟨kp4,hr⟩:=hr
      match r,hr with
      | .done (some r,Ht),hr=>exact ⟨kp4,.inl ⟨r,Ht,rfl,hr⟩⟩
      | .done (none,out,i,j,g,ac,bc),hr=>exact ⟨kp4,.inr ⟨out,i,j,g,ac,bc,rfl,hr.1,hr.2.1,hr.2.2.1,by have:=hr.2.2.2; omega⟩⟩
      | .yield (none,out,i,j,g,ac,bc),hr=>exact ⟨kp4,out,i,j,g,ac,bc,rfl,hr.1,hr.2.1,hr.2.2.1,by rw[if_neg (by omega)]; have:=hr.2.2.2; omega⟩
    ·rintro c st3 ⟨kp3,out,i,j,g,ac,bc,rfl,M,hi,hj,hn⟩
     rw[if_neg (by omega)] at hn
     exact ⟨kp3,.inr ⟨out,i,j,g,ac,bc,rfl,M,hi,hj,hn⟩⟩
    ·rintro c st3 ⟨kp3,hc⟩
     rcases hc with ⟨r,Ht,rfl,hr⟩ | ⟨out,i,j,g,ac,bc,rfl,M,hi,hj,hn⟩
     ·exact Bi ⟨kp3,r,_,rfl,hr⟩
     ·dsimp only
      refine Az (Us λst4 kp4=>?_)
      exact Bi ⟨kp3.trans kp4,out,i,j,_,rfl,M,hi,hj,by omega⟩
 ·rintro c st1 ⟨kp1,out,i,j,g,rfl,M,hi,hj,hn⟩
  w_pre z5
  rw[this] at hn
  omega
 w_pre c6
end
def kQ:Array Keyed->Array Keyed->StateT By Sem (Array Keyed):=sortPriv% PySem.Builtin.mergeHi
abbrev BG(p q out:Array Keyed)(m n:Nat):Array Keyed:=p.extract 0 m++q.extract 0 n++out.reverse
abbrev GS(p q out:Array Keyed)(m n:Nat):Array Keyed:=q.extract 0 n++p.extract 0 m++out.reverse
abbrev Q1:=Option (Array Keyed)×Nat×Nat×Array Keyed×Nat×Nat×Nat
def M6(p q out:Array Keyed)(m n g ac k:Nat):StateT By Sem (ForInStep Q1):=do
 let x <- elem' p (m - 1)
 if (m - 1 == 0)=true then pure (Cv (some (BG p q (out.push x) (m - 1) n),m - 1,n,out.push x,g,ac,k))
 else if (decide (ac<7) && decide (k<7))=true then pure (Cv (none,m - 1,n,out.push x,g,ac,k))
 else pure (El (none,m - 1,n,out.push x,g,ac,k))
def P9(p q out:Array Keyed)(m n g ac bc:Nat):StateT By Sem (ForInStep Q1):=do
 let y <- elem' q (n - 1)
 if (n - 1 == 1)=true then pure (Cv (some (GS p q (out.push y) m (n - 1)),m,n - 1,out.push y,g,ac,bc))
 else do
  let x <- elem' p (m - 1)
  let some t <- Ur true x q 0 (n - 1) (n - 1 - 1) | pure (Cv (some (BG p q (out.push y) m (n - 1)),m,n - 1,out.push y,g,ac,bc))
  if n - 1 - t > 0 then
   if (t == 1)=true then pure (Cv (some (GS p q (out.push y++(q.extract t (n - 1)).reverse) m t),m,t,out.push y++(q.extract t (n - 1)).reverse,g,ac,n - 1 - t))
   else if (t == 0)=true then pure (Cv (some (BG p q (out.push y++(q.extract t (n - 1)).reverse) m t),m,t,out.push y++(q.extract t (n - 1)).reverse,g,ac,n - 1 - t))
   else M6 p q (out.push y++(q.extract t (n - 1)).reverse) m t g ac (n - 1 - t)
  else M6 p q (out.push y) m (n - 1) g ac (n - 1 - t)
def BH(p q out:Array Keyed)(m n g ac bc:Nat):StateT By Sem (ForInStep Q1):=do
 aI g
 let y <- elem' q (n - 1)
 let some t <- Ur false y p 0 m (m - 1) | pure (Cv (some (BG p q out m n),m,n,out,g,ac,bc))
 if m - t > 0 then
  if (t == 0)=true then pure (Cv (some (BG p q (out++(p.extract t m).reverse) t n),t,n,out++(p.extract t m).reverse,g,m - t,bc))
  else P9 p q (out++(p.extract t m).reverse) t n g (m - t) bc
 else P9 p q out m n g (m - t) bc
section
variable{α:Type}{R:α->α->Prop}{xs ys out:List α}{i j:Nat}
theorem MI.swap(M:MI R xs ys out i j):MI R ys xs out j i:=⟨M.perm.trans Et,M.srt,M.ly,M.lx⟩
theorem MI.endXY(M:MI R xs ys out i j)(sx:xs.Pairwise R)(sy:ys.Pairwise R)(h:∀x∈xs.drop i,∀y∈ys.drop j,R x y):(out++xs.drop i++ys.drop j).Perm (xs++ys)/\(out++xs.drop i++ys.drop j).Pairwise R:=by
 have:=M.swap.endYX sy sx h
 exact ⟨this.1.trans Et,this.2⟩
end
abbrev ge(blt:Keyed->Keyed->Bool)(x y:Keyed):Prop:=le blt y x
abbrev HI(blt:Keyed->Keyed->Bool)(p q out:Array Keyed)(m n:Nat):Prop:=MI (ge blt) p.toList.reverse q.toList.reverse out.toList (p.size - m) (q.size - n)
theorem Kb(p:Array Keyed){m:Nat}(h:m<=p.size):p.toList.reverse.drop (p.size - m)=(p.toList.take m).reverse:=by
 rw[List.drop_reverse,Am]
 congr 2
 omega
theorem C4{p:Array Keyed}{m:Nat}{x:Keyed}(h0:0<m)(h:m<=p.size)(e:p[m - 1]? = some x):p.toList.reverse[p.size - m]? = some x:=by
 rw[Vd (by rw[Am]; omega),Am,show p.size - 1 - (p.size - m)=m - 1 by omega]
 exact Em e
theorem R6(p:Array Keyed)(m:Nat):(p.extract 0 m).toList=p.toList.take m:=by
 rw[Oh,Lj,Wb,Nat.sub_zero]
theorem EA(p:Array Keyed){t m:Nat}(h1:t<=m)(h2:m<=p.size):(p.extract t m).reverse.toList=(p.toList.reverse.drop (p.size - m)).take (m - t):=by
 rw[Kb p h2,List.take_reverse,Vl,Oh,Lj,Du,Am,List.drop_take]
 congr 2
 ·omega
 ·congr 1
  omega
section
variable{prog:Bl}{w:World}{A:Ce}{s:Ai}{kd:Ms}{Ok:Keyed->Prop}{blt:Keyed->Keyed->Bool}{E:Value->Ai->Prop}
theorem Kc{l:List Keyed}(h:l.Pairwise (le blt)):l.reverse.Pairwise (ge blt):=Vc.mpr h
theorem Two.dn_end{p q out:Array Keyed}{x0 y0 xl:Keyed}(T:Two Ok blt p q x0 y0 xl){m n:Nat}(M:HI blt p q out m n)(hm:m<=p.size)(hn:n<=q.size)(h:m=0\/n=0):qX blt p q (BG p q out m n):=by
 have h1:=M.endYX (Kc T.sp) (Kc T.sq) (λy hy x hx=>by
  rw[Kb p hm] at hx
  rw[Kb q hn] at hy
  rcases h with h | h
  ·subst h; simp at hx
  ·subst h; simp at hy)
 rw[Kb p hm,Kb q hn] at h1
 have e:(BG p q out m n).toList=(out.toList++(q.toList.take n).reverse++(p.toList.take m).reverse).reverse:=by
  rw[Dx,Dx,R6,R6,Vl]
  simp
 w_pre f0
theorem Two.fs_end(C:Cmp prog w A s kd Ok blt){p q out:Array Keyed}{x0 y0 xl:Keyed}(T:Two Ok blt p q x0 y0 xl){m n:Nat}(M:HI blt p q out m n)(hm:m<=p.size)(hn:n=1)(hq:1<=q.size):qX blt p q (GS p q out m n):=by
 subst hn
 have h1:=M.endXY (Kc T.sp) (Kc T.sq) (λx hx y hy=>by
  rw[Kb p hm] at hx
  rw[Kb q hq] at hy
  have ey:y=y0:=by
   have : y∈q.toList.take 1:=Sy.mp hy
   obtain ⟨k,hk,e⟩:=Gx.mp this
   have hk0:k=0:=by
    rw[Du] at hk
    omega
   subst hk0
   have e2:q.toList[0]? = some y:=by
    rw[<- e,<- Bx hk,Ja (by omega)]
   rw[Em T.hy0] at e2
   exact (Bv e2).symm
  rw[ey]
  have hx':x∈p.toList:=List.mem_of_mem_take (Sy.mp hx)
  obtain ⟨k,hk,e⟩:=Gx.mp hx'
  have e2:p.toList[k]? = some x:=by rw[<- e,Bx hk]
  exact C.trans (C.ofLt T.first) (Lr C T.sp (Di k) (Em T.hx0) e2))
 rw[Kb p hm,Kb q hq] at h1
 have e:(GS p q out m 1).toList=(out.toList++(p.toList.take m).reverse++(q.toList.take 1).reverse).reverse:=by
  rw[Dx,Dx,R6,R6,Vl]
  simp
 w_pre f0
theorem Ut(C:Cmp prog w A s kd Ok blt){p:Array Keyed}(sp:p.toList.Pairwise (le blt)){m:Nat}{x y:Keyed}(h0:0<m)(hm:m<=p.size)(hx:p[m - 1]? = some x)(h:le blt x y):∀z∈p.toList.reverse.drop (p.size - m),ge blt y z:=λz hz=>by
 rw[Kb p hm] at hz
 obtain ⟨k,hk,e⟩:=Gx.mp (Sy.mp hz)
 have e2:p.toList[k]? = some z:=by
  rw[Du] at hk
  rw[<- e,<- Bx (by rw[Du]; exact hk),Ja (by omega)]
 rw[Du] at hk
 exact C.trans (Lr C sp (by omega) e2 (Em hx)) h
theorem HI.pushX(C:Cmp prog w A s kd Ok blt){p q out:Array Keyed}{x0 y0 xl:Keyed}(T:Two Ok blt p q x0 y0 xl){m n:Nat}(M:HI blt p q out m n)(h0:0<m)(hm:m<=p.size){x:Keyed}(hx:p[m - 1]? = some x)(h:∀z∈q.toList.reverse.drop (q.size - n),ge blt x z):HI blt p q (out.push x) (m - 1) n:=by
 have:=MI.pushX M (Kc T.sp) (C4 h0 hm hx) h
 rw[<- Ot,show p.size - m+1=p.size - (m - 1) by omega] at this
 exact this
theorem HI.pushY(C:Cmp prog w A s kd Ok blt){p q out:Array Keyed}{x0 y0 xl:Keyed}(T:Two Ok blt p q x0 y0 xl){m n:Nat}(M:HI blt p q out m n)(h0:0<n)(hn:n<=q.size){y:Keyed}(hy:q[n - 1]? = some y)(h:∀z∈p.toList.reverse.drop (p.size - m),ge blt y z):HI blt p q (out.push y) m (n - 1):=by
 have:=MI.pushY M (Kc T.sq) (C4 h0 hn hy) h
 rw[<- Ot,show q.size - n+1=q.size - (n - 1) by omega] at this
 exact this
def CT(blt:Keyed->Keyed->Bool)(p q:Array Keyed)(st:By)(b:Nat)(r:ForInStep Q1)(st':By):Prop:=Kept st st'/\match r with
 | .done (some r,_)=>qX blt p q r
 | .done (none,m,n,out,_)=>HI blt p q out m n/\0<m/\m<=p.size/\1<n/\n<=q.size/\m+n<b
 | .yield (none,m,n,out,_)=>HI blt p q out m n/\0<m/\m<=p.size/\1<n/\n<=q.size/\m+n<b
 | .yield (some _,_)=>False
theorem sY(C:Cmp prog w A s kd Ok blt){p q out:Array Keyed}{x0 y0 xl:Keyed}(T:Two Ok blt p q x0 y0 xl){m n g ac k b:Nat}{st0 st:By}(kp:Kept st0 st)(M:HI blt p q out m n)(m0:0<m)(hm:m<=p.size)(n0:1<n)(hn:n<=q.size)(hb:m+n<=b){x:Keyed}(hx:p[m - 1]? = some x)(hq:∀z∈q.toList.reverse.drop (q.size - n),ge blt x z):wpS (model prog w) A E s (M6 p q out m n g ac k) (CT blt p q st0 b) st:=by
 unfold M6
 w_pre a8
 have M1:=HI.pushX C T M m0 hm hx hq
 by_cases h1:m - 1=0
 ·rw[if_pos (by rw[h1]; rfl)]
  exact Bi ⟨kp,T.dn_end M1 (by omega) hn (.inl h1)⟩
 ·rw[if_neg (λz=>h1 (Dz z))]
  w_pre o9
  ·rw[if_pos h2]
   w_pre l9
  ·rw[if_neg h2]
   w_pre l9
theorem sW(C:Cmp prog w A s kd Ok blt){p q out:Array Keyed}{x0 y0 xl:Keyed}(T:Two Ok blt p q x0 y0 xl){m n g ac bc b:Nat}{st0 st:By}(kp:Kept st0 st)(hk:kindOf st=kd)(M:HI blt p q out m n)(m0:0<m)(hm:m<=p.size)(n0:1<n)(hn:n<=q.size)(hb:m+n<=b){x y:Keyed}(hx:p[m - 1]? = some x)(hy:q[n - 1]? = some y)(hxy:le blt x y):wpS (model prog w) A E s (P9 p q out m n g ac bc) (CT blt p q st0 b) st:=by
 unfold P9
 w_pre b8
 have M1:=HI.pushY C T M (by omega) hn hy (Ut C T.sp m0 hm hx hxy)
 by_cases h1:n - 1=1
 ·rw[if_pos (by rw[h1]; rfl)]
  exact Bi ⟨kp,T.fs_end C M1 hm h1 (by omega)⟩
 w_pre g9
 w_pre a8
 have val:∀i yy,q[i]? = some yy->q.getD (0+i) y=yy:=λi yy e=>by rw[Mz]; simp [Cs,e]
 have R:Row Ok q 0 (n - 1) (λi=>q.getD (0+i) y):=⟨λi hi=>by
  w_pre w9
  rw[val i ya ea,Mz,ea],λi hi=>by
  w_pre w9
  show Ok (q.getD (0+i) y)
  rw[val i ya ea]
  exact T.oq ya (Kf ea)⟩
 refine Az (Ou C R (T.op x (Kf hx)) hk (by omega) (λa c hab hc q1=>?_) λt ht t1 t2=>?_)
 ·obtain ⟨ya,ea⟩:=Ge (p:=q) (i:=a) (by omega)
  obtain ⟨yc,ec⟩:=Ge (p:=q) (i:=c) (by omega)
  simp only[val a ya ea,val c yc ec,Hf,if_true] at q1 ⊢
  exact C.leLt (Lr C T.sq hab (Em ea) (Em ec)) q1
 dsimp only
 have M2:HI blt p q (out.push y++(q.extract t (n - 1)).reverse) m t:=by
  have:=MI.blockY M1 (Kc T.sq) (n - 1 - t) (by rw[List.length_reverse,Am]; omega) (λi hi yy ey=>by
   have e1:q[n - 1 - i - 1]? = some yy:=by
    rw[Vd (by rw[Am]; omega),Am,show q.size - 1 - (q.size - (n - 1)+i)=n - 1 - i - 1 by omega] at ey
    simpa using ey
   have:=t2 (n - 1 - i - 1) (by omega) (by omega)
   rw[val _ yy e1] at this
   have z:blt yy x=false:=by simpa only [Hf,if_true] using this
   exact Ut C T.sp m0 hm hx z)
  rw[<- EA q (by omega) (by omega),<- Dx,show q.size - (n - 1)+(n - 1 - t)=q.size - t by omega] at this
  exact this
 -- what is left of q is below x
 have below:∀z∈q.toList.reverse.drop (q.size - t),ge blt x z:=λz hz=>by
  rw[Kb q (by omega)] at hz
  obtain ⟨k,hk',e⟩:=Gx.mp (Sy.mp hz)
  rw[Du] at hk'
  have e2:q.toList[k]? = some z:=by
   rw[<- e,<- Bx (by rw[Du]; exact hk'),Ja (by omega)]
  have e3:q[k]? = some z:=by simpa using e2
  have:=t1 k (by omega)
  rw[val k z e3] at this
  exact C.ofLt (by simpa only [Hf,if_true] using this)
 by_cases h2:n - 1 - t > 0
 ·rw[if_pos h2]
  by_cases h3:t=1
  ·rw[if_pos (by rw[h3]; rfl)]
   exact Bi ⟨kp,T.fs_end C M2 hm h3 (by omega)⟩
  ·rw[if_neg (λz=>h3 (Dz z))]
   by_cases h4:t=0
   ·rw[if_pos (by rw[h4]; rfl)]
    exact Bi ⟨kp,T.dn_end M2 hm (by omega) (.inr h4)⟩
   ·rw[if_neg (λz=>h4 (Dz z))]
    exact sY C T kp M2 m0 hm (by omega) (by omega) (by omega) hx below
 ·rw[if_neg h2]
  have et:t=n - 1:=by omega
  rw[et] at below
  exact sY C T kp M1 m0 hm (by omega) (by omega) (by omega) hx below
theorem R3(C:Cmp prog w A s kd Ok blt){p q out:Array Keyed}{x0 y0 xl:Keyed}(T:Two Ok blt p q x0 y0 xl){m n g ac bc b:Nat}{st0 st:By}(kp:Kept st0 st)(hk:kindOf st=kd)(M:HI blt p q out m n)(m0:0<m)(hm:m<=p.size)(n0:1<n)(hn:n<=q.size)(hb:m+n<=b):wpS (model prog w) A E s (BH p q out m n g ac bc) (CT blt p q st0 b) st:=by
 unfold BH
 w_pre v2
 obtain ⟨y,hy⟩:=Ge (p:=q) (i:=n - 1) (by omega)
 w_pre b8
 have val:∀i xx,p[i]? = some xx->p.getD (0+i) y=xx:=λi xx e=>by rw[Mz]; simp [Cs,e]
 have R:Row Ok p 0 m (λi=>p.getD (0+i) y):=⟨λi hi=>by
  w_pre x9
  rw[val i xa ea,Mz,ea],λi hi=>by
  w_pre x9
  show Ok (p.getD (0+i) y)
  rw[val i xa ea]
  exact T.op xa (Kf ea)⟩
 refine Az (Ou C R (T.oq y (Kf hy)) hk' (by omega) (λa c hab hc q1=>?_) λt ht t1 t2=>?_)
 ·obtain ⟨xa,ea⟩:=Ge (p:=p) (i:=a) (by omega)
  obtain ⟨xc,ec⟩:=Ge (p:=p) (i:=c) (by omega)
  simp only[val a xa ea,val c xc ec,Hf,Bw,if_false,Kq] at q1 ⊢
  exact C.trans (Lr C T.sp hab (Em ea) (Em ec)) q1
 dsimp only
 have M1:HI blt p q (out++(p.extract t m).reverse) t n:=by
  have:=MI.blockX M (Kc T.sp) (m - t) (by rw[List.length_reverse,Am]; omega) (λi hi xx ex=>by
   have e1:p[m - i - 1]? = some xx:=by
    rw[Vd (by rw[Am]; omega),Am,show p.size - 1 - (p.size - m+i)=m - i - 1 by omega] at ex
    simpa using ex
   have:=t2 (m - i - 1) (by omega) (by omega)
   rw[val _ xx e1] at this
   have z:blt y xx=true:=by simpa only [Hf,Bw,if_false,Qt] using this
   exact Ut C T.sq (by omega) hn hy (C.ofLt z))
  rw[<- EA p (by omega) hm,<- Dx,show p.size - m+(m - t)=p.size - t by omega] at this
  exact this
 have below:∀x,0<t->p[t - 1]? = some x->le blt x y:=λx h0 hx=>by
  have:=t1 (t - 1) (by omega)
  rw[val _ x hx] at this
  have z:blt y x=false:=by simpa only [Hf,Bw,if_false,Kq] using this
  exact z
 by_cases h2:m - t > 0
 ·rw[if_pos h2]
  by_cases h3:t=0
  ·rw[if_pos (by rw[h3]; rfl)]
   exact Bi ⟨kp',T.dn_end M1 (by omega) hn (.inl h3)⟩
  ·rw[if_neg (λz=>h3 (Dz z))]
   w_pre q9
   exact sW C T kp' hk' M1 (by omega) (by omega) n0 hn (by omega) hx hy (below x (by omega) hx)
 ·rw[if_neg h2]
  have et:t=m:=by omega
  subst et
  w_pre q9
  exact sW C T kp' hk' M m0 hm n0 hn hb hx hy (below x m0 hx)
theorem qY(C:Cmp prog w A s kd Ok blt){p q:Array Keyed}{x0 y0 xl:Keyed}(T:Two Ok blt p q x0 y0 xl){st:By}(hk:kindOf st=kd){Q:Array Keyed->By->Prop}(h:∀r st',Kept st st'->qX blt p q r->Q r st'):wpS (model prog w) A E s (kQ p q) Q st:=by
 have p0:0<p.size:=(Hs.mp T.hx0).1
 have q0:0<q.size:=(Hs.mp T.hy0).1
 obtain ⟨yl,hyl⟩:=Ge (p:=q) (i:=q.size - 1) (by omega)
 have M0:HI blt p q #[xl] (p.size - 1) q.size:=by
  have m:HI blt p q #[] p.size q.size:=⟨by simp,by simp,λo ho=>by simp at ho,λo ho=>by simp at ho⟩
  have:=HI.pushX C T m p0 (Aj _) T.hxl (Ut C T.sq q0 (Aj _) hyl (C.ofLt (T.last yl (Kf hyl))))
  simpa using this
 unfold kQ
 refine Az (Uu ?_)
 refine Az (Fz T.hxl ?_)
 dsimp only
 by_cases h1:p.size - 1=0
 ·rw[if_pos (by rw[h1]; rfl)]
  exact Bi (h _ _ (Kept.refl _) (T.dn_end M0 (by omega) (by omega) (.inl h1)))
 w_pre g9
 by_cases h2:q.size=1
 ·rw[if_pos (by rw[h2]; rfl)]
  exact Bi (h _ _ (Kept.refl _) (T.fs_end C M0 (by omega) h2 (by omega)))
 rw[if_neg (λz=>h2 (Dz z))]
 w_pre q7
 refine Az (Hr (Ep
  (I:=λx c st'=>Kept st st'/\∃m n out g,c=(none,m,n,out,g)/\HI blt p q out m n/\0<m/\m<=p.size/\1<n/\n<=q.size/\m+n+x+1<=p.size+q.size)
  (Q:=λc st'=>Kept st st'/\∃r Ht,c=(some r,Ht)/\qX blt p q r) ?_ ?_ ⟨Kept.refl _,_,_,_,_,rfl,M0,by omega,by omega,by omega,by omega,by omega⟩) ?_)
 ·rintro x c st1 _ hx ⟨kp1,m,n,out,g,rfl,M,m0,hm,n0,hn,hb⟩
  dsimp only
  -- one by one
  refine Az (Hr (Ep
   (I:=λ_ c st'=>st'=st1/\∃m n out ac bc,c=(none,m,n,out,ac,bc)/\HI blt p q out m n/\0<m/\m<=p.size/\1<n/\n<=q.size/\m+n+x+1<=p.size+q.size)
   (Q:=λc st'=>st'=st1/\((∃r Ht,c=(some r,Ht)/\qX blt p q r)\/∃m n out ac bc,c=(none,m,n,out,ac,bc)/\HI blt p q out m n/\0<m/\m<=p.size/\1<n/\n<=q.size/\m+n+x+1<=p.size+q.size)) ?_ ?_ ⟨rfl,m,n,out,0,0,rfl,M,m0,hm,n0,hn,hb⟩) ?_)
  ·rintro z c st2 _ hz ⟨rfl,m,n,out,ac,bc,rfl,M,m0,hm,n0,hn,hb⟩
   dsimp only
   obtain ⟨yy,hy⟩:=Ge (p:=q) (i:=n - 1) (by omega)
   obtain ⟨xx,hx⟩:=Ge (p:=p) (i:=m - 1) (by omega)
   w_pre o2
   dsimp only
   cases hlt:blt yy xx with
   | true =>
    w_pre j7
    w_pre a8
    have M1:=HI.pushX C T M m0 hm hx (Ut C T.sq (by omega) hn hy (C.ofLt hlt))
    by_cases e1:m - 1=0
    ·rw[if_pos (by rw[e1]; rfl)]
     exact Bi ⟨rfl,.inl ⟨_,_,rfl,T.dn_end M1 (by omega) hn (.inl e1)⟩⟩
    ·rw[if_neg (λz=>e1 (Dz z))]
     split
     ·exact Bi ⟨rfl,.inr ⟨_,_,_,_,_,rfl,M1,by omega,by omega,n0,hn,by omega⟩⟩
     ·exact Bi ⟨rfl,_,_,_,_,_,rfl,M1,by omega,by omega,n0,hn,by omega⟩
   | false =>
    w_pre p7
    w_pre b8
    have M1:=HI.pushY C T M (by omega) hn hy (Ut C T.sp m0 hm hx hlt)
    by_cases e1:n - 1=1
    ·rw[if_pos (by rw[e1]; rfl)]
     exact Bi ⟨rfl,.inl ⟨_,_,rfl,T.fs_end C M1 hm e1 (by omega)⟩⟩
    ·rw[if_neg (λz=>e1 (Dz z))]
     split
     ·exact Bi ⟨rfl,.inr ⟨_,_,_,_,_,rfl,M1,m0,hm,by omega,by omega,by omega⟩⟩
     ·exact Bi ⟨rfl,_,_,_,_,_,rfl,M1,m0,hm,by omega,by omega,by omega⟩
  ·rintro c st2 ⟨rfl,m,n,out,ac,bc,rfl,M⟩
   exact ⟨rfl,.inr ⟨m,n,out,ac,bc,rfl,M⟩⟩
  ·rintro c st2 ⟨rfl,hc⟩
   rcases hc with ⟨r,Ht,rfl,hr⟩ | ⟨m,n,out,ac,bc,rfl,M,m0,hm,n0,hn,hb⟩
   ·exact Bi ⟨kp1,r,_,rfl,hr⟩
   ·dsimp only
    refine Az (Uu ?_)
    -- the gallop
    refine Az (Hr (Ep
     (I:=λy c st'=>Kept st st'/\∃m n out g ac bc,c=(none,m,n,out,g,ac,bc)/\HI blt p q out m n/\0<m/\m<=p.size/\1<n/\n<=q.size/\(if y=0 then m+n+x+1<=p.size+q.size else m+n+x+2<=p.size+q.size))
     (Q:=λc st'=>Kept st st'/\((∃r Ht,c=(some r,Ht)/\qX blt p q r)\/∃m n out g ac bc,c=(none,m,n,out,g,ac,bc)/\HI blt p q out m n/\0<m/\m<=p.size/\1<n/\n<=q.size/\m+n+x+2<=p.size+q.size)) ?_ ?_
     ⟨kp1,m,n,out,_,ac,bc,rfl,M,m0,hm,n0,hn,by rw[if_pos rfl]; exact hb⟩) ?_)
    ·rintro y c st3 _ hy ⟨kp3,m,n,out,g,ac,bc,rfl,M,m0,hm,n0,hn,hb⟩
     have hb':m+n+x+1<=p.size+q.size:=by split at hb <;> omega
     have key:∀g',wpS (model prog w) A E s (BH p q out m n g' ac bc) (CT blt p q st (m+n)) st3:=λg'=>R3 C T kp3 (kp3.kind.trans hk) M m0 hm n0 hn (Aj _)
     dsimp only
     refine Hr (?_:wpS (model prog w) A E s _ (CT blt p q st (m+n)) st3) λr st4 hr=>?_
     w_pre u0
     ·obtain ⟨kp4,hr⟩:=hr
      match r,hr with
      | .done (some r,Ht),hr=>exact ⟨kp4,.inl ⟨r,Ht,rfl,hr⟩⟩
      | .done (none,m',n',out',g',ac',bc'),hr=>exact ⟨kp4,.inr ⟨m',n',out',g',ac',bc',rfl,hr.1,hr.2.1,hr.2.2.1,hr.2.2.2.1,hr.2.2.2.2.1,by have:=hr.2.2.2.2.2; omega⟩⟩
      | .yield (none,m',n',out',g',ac',bc'),hr=>exact ⟨kp4,m',n',out',g',ac',bc',rfl,hr.1,hr.2.1,hr.2.2.1,hr.2.2.2.1,hr.2.2.2.2.1,by rw[if_neg (by omega)]; have:=hr.2.2.2.2.2; omega⟩
    ·rintro c st3 ⟨kp3,m,n,out,g,ac,bc,rfl,M,m0,hm,n0,hn,hb⟩
     rw[if_neg (by omega)] at hb
     exact ⟨kp3,.inr ⟨m,n,out,g,ac,bc,rfl,M,m0,hm,n0,hn,hb⟩⟩
    ·rintro c st3 ⟨kp3,hc⟩
     rcases hc with ⟨r,Ht,rfl,hr⟩ | ⟨m,n,out,g,ac,bc,rfl,M,m0,hm,n0,hn,hb⟩
     ·exact Bi ⟨kp3,r,_,rfl,hr⟩
     ·dsimp only
      refine Az (Us λst4 kp4=>?_)
      exact Bi ⟨kp3.trans kp4,m,n,out,_,rfl,M,m0,hm,n0,hn,by omega⟩
 ·rintro c st1 ⟨kp1,m,n,out,g,rfl,M,m0,hm,n0,hn,hb⟩
  w_pre z5
  rw[this] at hb
  omega
 w_pre c6
end
def fT:Nat->Nat->StateT By Sem (Option Nat):=sortPriv% PySem.Builtin.countRun
def Zl:Nat->Nat->Nat->StateT By Sem Bool:=sortPriv% PySem.Builtin.binarySort
def X(xs:Array Keyed)(i:Nat):Keyed:=xs[i]?.getD (Fp,Fp)
theorem Zt{xs:Array Keyed}{i:Nat}(h:i<xs.size):xs[i]? = some (X xs i):=by
 unfold X
 rw[getElem?_pos xs i h]
 rfl
theorem Rx{xs ys:Array Keyed}{i j:Nat}(h:xs[i]? = ys[j]?):X xs i=X ys j:=by unfold X; rw[h]
theorem Tq{xs:Array Keyed}{i j:Nat}(hj:j<=xs.size)(k:Nat):X (mirror xs i j ((j - i) / 2)) k=if i<=k/\k<j then X xs (i+j - 1 - k) else X xs k:=by
 have e:=getElem?_mirror_all (i:=i) hj k
 by_cases h:i<=k/\k<j
 ·rw[if_pos h] at e ⊢; exact Rx e
 ·rw[if_neg h] at e ⊢; exact Rx e
theorem j8{xs:Array Keyed}{src d:Nat}(hs:src<xs.size)(hd:d<=src)(k:Nat):X (bubble xs src d) k=if k=src - d then X xs src else if src - d<k/\k<=src then X xs (k - 1) else X xs k:=by
 have e:=getElem?_bubble hs d hd k
 by_cases h1:k=src - d
 ·rw[if_pos h1] at e ⊢; exact Rx e
 ·rw[if_neg h1] at e ⊢
  by_cases h2:src - d<k/\k<=src
  ·rw[if_pos h2] at e ⊢; exact Rx e
  ·rw[if_neg h2] at e ⊢; exact Rx e
def To(blt:Keyed->Keyed->Bool)(xs:Array Keyed)(a b:Nat):Prop:=∀i j,a<=i->i<=j->j<b->le blt (X xs i) (X xs j)
def xK(blt:Keyed->Keyed->Bool)(xs:Array Keyed)(a b:Nat):Prop:=∀i j,a<=i->i<=j->j<b->le blt (X xs j) (X xs i)
structure Good(kd:Ms)(a₀:Array Keyed)(pend:Array (Nat×Nat×Nat))(st:By):Prop where
 kind:kindOf st=kd
 fail:Mq st=none
 perm:(arrOf st).Perm a₀
 pd:Bg st=pend
def kE(xs ys:Array Keyed)(a b:Nat):Prop:=∀i,(i<a\/b<=i)->X ys i=X xs i
theorem kE.refl(xs:Array Keyed)(a b:Nat):kE xs xs a b:=λ_ _=>rfl
theorem kE.trans{xs ys zs:Array Keyed}{a b:Nat}(h:kE xs ys a b)(k:kE ys zs a b):kE xs zs a b:=λi hi=>(k i hi).trans (h i hi)
section
variable{prog:Bl}{w:World}{A:Ce}{s:Ai}{kd:Ms}{Ok:Keyed->Prop}{blt:Keyed->Keyed->Bool}{E:Value->Ai->Prop}{a₀:Array Keyed}{pend:Array (Nat×Nat×Nat)}
theorem Good.size{st:By}(g:Good kd a₀ pend st):(arrOf st).size=a₀.size:=g.perm.size_eq
theorem Good.okX{st:By}(g:Good kd a₀ pend st)(h0:∀x∈a₀.toList,Ok x){i:Nat}(hi:i<a₀.size):Ok (X (arrOf st) i):=by
 w_pre y4
theorem Good.set{st:By}(g:Good kd a₀ pend st){xs:Array Keyed}(h:xs.Perm (arrOf st)):Good kd a₀ pend (setArr st xs):=⟨g.kind,g.fail,h.trans g.perm,g.pd⟩
theorem Xo(C:Cmp prog w A s kd Ok blt){st:By}(g:Good kd a₀ pend st)(h0:∀x∈a₀.toList,Ok x){i j:Nat}(hi:i<a₀.size)(hj:j<a₀.size){Q:Option Bool->By->Prop}(h:Q (some (blt (X (arrOf st) i) (X (arrOf st) j))) st):wpS (model prog w) A E s (ltAt' i j) Q st:=by
 rw[ltAt'_eq]
 w_pre q7
 refine Az (Fz (Zt (by rw[g.size]; exact hi)) ?_)
 refine Az (Fz (Zt (by rw[g.size]; exact hj)) ?_)
 exact oE C g.kind (g.okX h0 hi) (g.okX h0 hj) h
theorem Ru{st:By}{i j:Nat}{Q:Unit->By->Prop}(h:Q () (setArr st (mirror (arrOf st) i j ((j - i) / 2)))):wpS (model prog w) A E s (Uw i j) Q st:=by
 rw[reverseSlice'_eq]
 exact Kj h
def DR(lo a b:Nat):StateT By Sem (Option (Option Nat)×Nat) :=
 forIn [a:b] ((none,a):Option (Option Nat)×Nat) λ_ c=>do
  let some dP <- ltAt' (lo+c.2) (lo+c.2 - 1) | pure (Cv (some none,c.2))
  if dP=true then pure (Cv (none,c.2)) else pure (El (none,c.2+1))
theorem o6(C:Cmp prog w A s kd Ok blt){st:By}(g:Good kd a₀ pend st)(h0:∀x∈a₀.toList,Ok x){lo a b:Nat}(hb:lo+b<=a₀.size)(ha:1<=a)(hab:a<=b)(h1:To blt (arrOf st) lo (lo+a)){Q:Option (Option Nat)×Nat->By->Prop}(h:∀n,a<=n->n<=b->To blt (arrOf st) lo (lo+n)->(n=b\/blt (X (arrOf st) (lo+n)) (X (arrOf st) (lo+n - 1))=true)->Q (none,n) st):wpS (model prog w) A E s (DR lo a b) Q st:=by
 unfold DR
 refine Ep (I:=λx c st'=>st'=st/\c=(none,x)/\To blt (arrOf st) lo (lo+x)) ?_ ?_ ⟨rfl,rfl,h1⟩
 ·rintro x c st' hx1 hx2 ⟨rfl,rfl,hs⟩
  dsimp only
  refine Az (Xo C g h0 (by omega) (by omega) ?_)
  dsimp only
  cases hl:blt (X (arrOf st') (lo+x)) (X (arrOf st') (lo+x - 1)) with
  | true =>
   w_pre j7
   exact Bi (h x hx1 (by omega) hs (.inr hl))
  | false =>
   w_pre p7
   refine Bi ⟨rfl,rfl,λi j hi hij hj=>?_⟩
   by_cases hjx:j<lo+x
   ·exact hs i j hi hij hjx
   ·have ej:j=lo+x:=by omega
    subst ej
    by_cases hi':i=lo+x
    ·subst hi'; exact C.refl _
    ·exact C.trans (hs i (lo+x - 1) hi (by omega) (by omega)) hl
 ·rintro c st' ⟨rfl,rfl,hs⟩
  rw[show max a b=b by omega] at hs ⊢
  exact h b hab (Aj _) hs (.inl rfl)
theorem rH{xs:Array Keyed}{lo n:Nat}(hn:lo+n<=xs.size)(h:xK blt xs lo (lo+n)):To blt (mirror xs lo (lo+n) ((lo+n - lo) / 2)) lo (lo+n):=λi j hi hij hj=>by
 rw[Tq hn,Tq hn,if_pos (by omega),if_pos (by omega)]
 exact h _ _ (by omega) (by omega) (by omega)
theorem Yj{xs:Array Keyed}{lo n b e:Nat}(hn:lo+n<=xs.size)(he:e<=lo+n)(hb:lo<=b)(h:xK blt xs lo (lo+n))(eqv:∀i j,b<=i->i<e->b<=j->j<e->le blt (X xs i) (X xs j)):xK blt (mirror xs b e ((e - b) / 2)) lo (lo+n):=λi j hi hij hj=>by
 rw[Tq (by omega),Tq (by omega)]
 by_cases h1:b<=j/\j<e
 ·rw[if_pos h1]
  by_cases h2:b<=i/\i<e
  ·rw[if_pos h2]
   exact eqv _ _ (by omega) (by omega) (by omega) (by omega)
  ·rw[if_neg h2]
   exact h _ _ hi (by omega) (by omega)
 ·rw[if_neg h1]
  by_cases h2:b<=i/\i<e
  ·rw[if_pos h2]
   exact h _ _ (by omega) (by omega) (by omega)
  ·rw[if_neg h2]
   exact h i j hi hij hj
theorem Se{xs:Array Keyed}{a b i j:Nat}(h1:a<=i)(h2:j<=b)(h3:j<=xs.size):kE xs (mirror xs i j ((j - i) / 2)) a b:=λk hk=>by
 rw[Tq h3,if_neg (by omega)]
def i7(lo n b:Nat):StateT By Sem (Option Nat):=do
 Uw lo (lo+n)
 let mut m:=n
 for _ in [n:b] do
  let some dP <- ltAt' (lo+m) (lo+m - 1) | return none
  if dP then break
  m:=m+1
 return some m
theorem tH(C:Cmp prog w A s kd Ok blt){st:By}(g:Good kd a₀ pend st)(h0:∀x∈a₀.toList,Ok x){lo n b:Nat}(hb:lo+b<=a₀.size)(hn:1<=n)(hnb:n<=b)(h1:xK blt (arrOf st) lo (lo+n)){Q:Option Nat->By->Prop}(h:∀m st',Good kd a₀ pend st'->1<=m->m<=b->To blt (arrOf st') lo (lo+m)->kE (arrOf st) (arrOf st') lo (lo+b)->Q (some m) st'):wpS (model prog w) A E s (i7 lo n b) Q st:=by
 unfold i7
 have hsz:lo+n<=(arrOf st).size:=by rw[g.size]; omega
 refine Az (Ru ?_)
 have g':Good kd a₀ pend (setArr st (mirror (arrOf st) lo (lo+n) ((lo+n - lo) / 2))):=g.set (mirror_perm _ _ _ _)
 refine Az (o6 C g' h0 hb hn hnb (rH hsz h1) λm hm1 hm2 hs _=>?_)
 exact Bi (h m _ g' (by omega) hm2 hs (Se (Aj _) (by omega) hsz))
abbrev Z1:=Option (Option Nat)×Nat×Nat
def EO(lo a b:Nat):StateT By Sem Z1 :=
 forIn [a:b] ((none,a,0):Z1) λ_ c=>do
  let some dP <- ltAt' (lo+c.2.1) (lo+c.2.1 - 1) | pure (Cv (some none,c.2.1,c.2.2))
  if dP=true then
   if c.2.2 > 0 then do
    Uw (lo+c.2.1 - (c.2.2+1)) (lo+c.2.1)
    pure (El (none,c.2.1+1,0))
   else pure (El (none,c.2.1+1,0))
  else do
   let some more <- ltAt' (lo+c.2.1 - 1) (lo+c.2.1) | pure (Cv (some none,c.2.1,c.2.2))
   if more=true then pure (Cv (none,c.2.1,c.2.2)) else pure (El (none,c.2.1+1,c.2.2+1))
def N9(blt:Keyed->Keyed->Bool)(xs:Array Keyed)(lo n e:Nat):Prop:=e+1<=n/\∀i j,lo+n - (e+1)<=i->i<lo+n->lo+n - (e+1)<=j->j<lo+n->le blt (X xs i) (X xs j)
theorem yW(C:Cmp prog w A s kd Ok blt){xs:Array Keyed}{lo n:Nat}(h:1<=n):N9 blt xs lo n 0:=⟨by omega,λi j i1 i2 j1 j2=>by
 have e:i=j:=by omega
 subst e
 exact C.refl _⟩
theorem Xl(C:Cmp prog w A s kd Ok blt){xs:Array Keyed}{lo n:Nat}(hn:1<=n)(h:xK blt xs lo (lo+n))(hl:le blt (X xs (lo+n)) (X xs (lo+n - 1))):xK blt xs lo (lo+(n+1)):=λi j hi hij hj=>by
 by_cases hjx:j<lo+n
 ·exact h i j hi hij hjx
 ·have ej:j=lo+n:=by omega
  subst ej
  by_cases hi':i=lo+n
  ·subst hi'; exact C.refl _
  ·exact C.trans hl (h i (lo+n - 1) hi (by omega) (by omega))
theorem J9(C:Cmp prog w A s kd Ok blt){st:By}(g:Good kd a₀ pend st)(h0:∀x∈a₀.toList,Ok x){lo a b:Nat}(hb:lo+b<=a₀.size)(ha:1<=a)(hab:a<=b)(h1:xK blt (arrOf st) lo (lo+a)){Q:Z1->By->Prop}(h:∀n e st',Good kd a₀ pend st'->a<=n->n<=b->xK blt (arrOf st') lo (lo+n)->N9 blt (arrOf st') lo n e->kE (arrOf st) (arrOf st') lo (lo+b)->Q (none,n,e) st'):wpS (model prog w) A E s (EO lo a b) Q st:=by
 unfold EO
 refine Ep (I:=λx c st'=>∃e,c=(none,x,e)/\Good kd a₀ pend st'/\xK blt (arrOf st') lo (lo+x)/\N9 blt (arrOf st') lo x e/\kE (arrOf st) (arrOf st') lo (lo+b)) ?_ ?_
  ⟨0,rfl,g,h1,yW C ha,kE.refl _ _ _⟩
 ·rintro x c st' hx1 hx2 ⟨e,rfl,g',hs,lk,ou⟩
  have hsz:(arrOf st').size=a₀.size:=g'.size
  dsimp only
  refine Az (Xo C g' h0 (by omega) (by omega) ?_)
  dsimp only
  cases hl:blt (X (arrOf st') (lo+x)) (X (arrOf st') (lo+x - 1)) with
  | true =>
   w_pre j7
   have d1:=Xl C (by omega) hs (C.ofLt hl)
   have one:∀ys:Array Keyed,N9 blt ys lo (x+1) 0:=λys=>⟨by omega,λi j i1 i2 j1 j2=>by
    w_pre w5
    exact C.refl _⟩
   by_cases he:e > 0
   ·rw[if_pos he]
    refine Az (Ru ?_)
    refine Bi ⟨0,rfl,g'.set (mirror_perm _ _ _ _),?_,one _,ou.trans (Se (by have:=lk.1; omega) (by omega) (by omega))⟩
    exact Yj (by omega) (by omega) (by have:=lk.1; omega) d1 λi j i1 i2 j1 j2=>lk.2 i j i1 i2 j1 j2
   ·rw[if_neg he]
    exact Bi ⟨0,rfl,g',d1,one _,ou⟩
  | false =>
   w_pre p7
   refine Az (Xo C g' h0 (by omega) (by omega) ?_)
   dsimp only
   cases hm:blt (X (arrOf st') (lo+x - 1)) (X (arrOf st') (lo+x)) with
   | true =>
    w_pre j7
    exact Bi (h x e st' g' hx1 (by omega) hs lk ou)
   | false =>
    w_pre p7
    refine Bi ⟨e+1,rfl,g',Xl C (by omega) hs hm,⟨by have:=lk.1; omega,λi j i1 i2 j1 j2=>?_⟩,ou⟩
    have l1:le blt (X (arrOf st') (lo+x - 1)) (X (arrOf st') (lo+x)):=hl
    have l2:le blt (X (arrOf st') (lo+x)) (X (arrOf st') (lo+x - 1)):=hm
    by_cases ei:i=lo+x
    ·by_cases ej:j=lo+x
     ·rw[ei,ej]; exact C.refl _
     ·rw[ei]
      exact C.trans l2 (lk.2 (lo+x - 1) j (by omega) (by omega) (by omega) (by omega))
    ·by_cases ej:j=lo+x
     ·rw[ej]
      exact C.trans (lk.2 i (lo+x - 1) (by omega) (by omega) (by omega) (by omega)) l1
     ·exact lk.2 i j (by omega) (by omega) (by omega) (by omega)
 ·rintro c st' ⟨e,rfl,g',hs,lk,ou⟩
  rw[show max a b=b by omega] at hs lk ⊢
  exact h b e st' g' hab (Aj _) hs lk ou
def U0(lo n b:Nat):StateT By Sem (Option Nat):=do
 liftM (rule "list.sort.descending-run")
 let mut m:=n+1
 let mut e:=0
 for _ in [m:b] do
  let some dP <- ltAt' (lo+m) (lo+m - 1) | return none
  if dP then
   if e > 0 then Uw (lo+m - (e+1)) (lo+m)
   e:=0
  else
   let some more <- ltAt' (lo+m - 1) (lo+m) | return none
   if more then break
   e:=e+1
  m:=m+1
 if e > 0 then Uw (lo+m - (e+1)) (lo+m)
 i7 lo m b
theorem uB(C:Cmp prog w A s kd Ok blt){st:By}(g:Good kd a₀ pend st)(h0:∀x∈a₀.toList,Ok x){lo n b:Nat}(hb:lo+b<=a₀.size)(hnb:n+1<=b)(h1:xK blt (arrOf st) lo (lo+(n+1))){Q:Option Nat->By->Prop}(h:∀m st',Good kd a₀ pend st'->1<=m->m<=b->To blt (arrOf st') lo (lo+m)->kE (arrOf st) (arrOf st') lo (lo+b)->Q (some m) st'):wpS (model prog w) A E s (U0 lo n b) Q st:=by
 unfold U0
 refine Az (Uu ?_)
 refine Az (J9 C g h0 hb (by omega) hnb h1 λk e st1 g1 k1 k2 d1 lk ou=>?_)
 dsimp only
 have hsz:(arrOf st1).size=a₀.size:=g1.size
 by_cases he:e > 0
 ·rw[if_pos he]
  refine Az (Ru ?_)
  refine tH C (g1.set (mirror_perm _ _ _ _)) h0 hb (by omega) k2 (Yj (by omega) (by omega) (by have:=lk.1; omega) d1 λi j i1 i2 j1 j2=>lk.2 i j i1 i2 j1 j2) λm st2 g2 m1 m2 as ou2=>?_
  exact h m st2 g2 m1 m2 as ((ou.trans (Se (by have:=lk.1; omega) (by omega) (by omega))).trans ou2)
 ·rw[if_neg he]
  exact tH C g1 h0 hb (by omega) k2 d1 λm st2 g2 m1 m2 as ou2=>h m st2 g2 m1 m2 as (ou.trans ou2)
theorem n6(C:Cmp prog w A s kd Ok blt){st:By}(g:Good kd a₀ pend st)(h0:∀x∈a₀.toList,Ok x){lo b:Nat}(hb:lo+b<=a₀.size)(b1:1<=b){Q:Option Nat->By->Prop}(h:∀m st',Good kd a₀ pend st'->1<=m->m<=b->To blt (arrOf st') lo (lo+m)->kE (arrOf st) (arrOf st') lo (lo+b)->Q (some m) st'):wpS (model prog w) A E s (fT lo b) Q st:=by
 unfold fT
 have hsz:(arrOf st).size=a₀.size:=g.size
 refine Az (o6 C g h0 hb (Aj _) b1 (λi j i1 i2 j1=>by
  w_pre w5
  exact C.refl _) λn n1 n2 hs hor=>?_)
 dsimp only
 by_cases e:n=b
 ·rw[if_pos (by rw[e]; exact beq_self_eq_true _)]
  exact Bi (h n st g n1 n2 hs (kE.refl _ _ _))
 rw[if_neg (λz=>e (Dz z))]
 have hlt:blt (X (arrOf st) (lo+n)) (X (arrOf st) (lo+n - 1))=true:=hor.resolve_left e
 by_cases hg:n > 1
 ·rw[if_pos hg]
  refine Az (Xo C g h0 (by omega) (by omega) ?_)
  dsimp only
  cases hr:blt (X (arrOf st) lo) (X (arrOf st) (lo+n - 1)) with
  | true =>
   w_pre j7
   exact Bi (h n st g n1 n2 hs (kE.refl _ _ _))
  | false =>
   w_pre p7
   refine Az (Ru ?_)
   -- all of it are alike
   have like:∀i j,lo<=i->i<lo+n->lo<=j->j<lo+n->le blt (X (arrOf st) i) (X (arrOf st) j):=λi j i1 i2 j1 j2 =>
    C.trans (hs i (lo+n - 1) i1 (by omega) (by omega)) (C.trans hr (hs lo j (Aj _) j1 j2))
   have d1:xK blt (arrOf st) lo (lo+(n+1)):=Xl C n1 (λi j i1 i2 j1=>like j i (by omega) j1 i1 (by omega)) (C.ofLt hlt)
   exact uB C (g.set (mirror_perm _ _ _ _)) h0 hb (by omega) (Yj (by omega) (by omega) (Aj _) d1 like) λm st2 g2 m1 m2 as ou2=>h m st2 g2 m1 m2 as ((Se (Aj _) (by omega) (by omega)).trans ou2)
 ·rw[if_neg hg]
  have en:n=1:=by omega
  subst en
  have d1:xK blt (arrOf st) lo (lo+(1+1)):=Xl C (Aj _) (λi j i1 i2 j1=>by
   w_pre w5
   exact C.refl _) (C.ofLt hlt)
  exact uB C g h0 hb (by omega) d1 h
end
def Wr:Nat->StateT By Sem Bool:=sortPriv% PySem.Builtin.mergeAt
section
variable{prog:Bl}{w:World}{A:Ce}{s:Ai}{kd:Ms}{Ok:Keyed->Prop}{blt:Keyed->Keyed->Bool}{E:Value->Ai->Prop}{a₀:Array Keyed}{pend:Array (Nat×Nat×Nat)}
theorem nM{st:By}{i j:Nat}{Q:Unit->By->Prop}(h:Q () (setArr st (bubble (arrOf st) i (i - j)))):wpS (model prog w) A E s (moveDown' i j) Q st:=by
 rw[moveDown'_eq]
 exact Kj h
theorem wG(C:Cmp prog w A s kd Ok blt){st:By}(g:Good kd a₀ pend st)(h0:∀x∈a₀.toList,Ok x){lo n ok:Nat}(hb:lo+n<=a₀.size)(h1:To blt (arrOf st) lo (lo+ok))(hok:ok<=n){Q:Bool->By->Prop}(h:∀st',Good kd a₀ pend st'->To blt (arrOf st') lo (lo+n)->kE (arrOf st) (arrOf st') lo (lo+n)->Q true st'):wpS (model prog w) A E s (Zl lo n ok) Q st:=by
 unfold Zl
 refine Az (Hr (Ep
  (I:=λk c st'=>c=(none,())/\Good kd a₀ pend st'/\To blt (arrOf st') lo (lo+k)/\kE (arrOf st) (arrOf st') lo (lo+n))
  (Q:=λc st'=>c=(none,())/\Good kd a₀ pend st'/\To blt (arrOf st') lo (lo+n)/\kE (arrOf st) (arrOf st') lo (lo+n)) ?_ ?_ ⟨rfl,g,?_,kE.refl _ _ _⟩) ?_)
 ·rintro k c st1 hk1 hk2 ⟨rfl,g1,hs,ou⟩
  have hsz:(arrOf st1).size=a₀.size:=g1.size
  dsimp only
  refine Az (Hr (Ep
   (I:=λy c st'=>st'=st1/\∃l r,c=(none,l,r)/\l<=r/\r<=k/\r - l+y<=k/\(∀i,i<l->le blt (X (arrOf st1) (lo+i)) (X (arrOf st1) (lo+k)))/\(∀i,r<=i->i<k->blt (X (arrOf st1) (lo+k)) (X (arrOf st1) (lo+i))=true))
   (Q:=λc st'=>st'=st1/\∃l,c=(none,l,l)/\l<=k/\(∀i,i<l->le blt (X (arrOf st1) (lo+i)) (X (arrOf st1) (lo+k)))/\(∀i,l<=i->i<k->blt (X (arrOf st1) (lo+k)) (X (arrOf st1) (lo+i))=true)) ?_ ?_
   ⟨rfl,0,k,rfl,by omega,by omega,by omega,λi hi=>by omega,λi h1 h2=>by omega⟩) ?_)
  ·rintro y c st2 _ hy ⟨rfl,l,r,rfl,a1,a2,a3,b1,b2⟩
   dsimp only
   by_cases hlr:l ≥ r
   ·rw[if_pos hlr]
    w_pre e6
    exact Bi ⟨rfl,l,rfl,a2,b1,b2⟩
   ·rw[if_neg hlr]
    refine Az (Xo C g1 h0 (by omega) (by omega) ?_)
    dsimp only
    cases hl:blt (X (arrOf st2) (lo+k)) (X (arrOf st2) (lo+(l+r) / 2)) with
    | true =>
     w_pre j7
     exact Bi ⟨rfl,l,(l+r) / 2,rfl,by omega,by omega,by omega,b1,λi i1 i2=>C.ltLe hl (hs _ _ (by omega) (by omega) (by omega))⟩
    | false =>
     w_pre p7
     exact Bi ⟨rfl,(l+r) / 2+1,r,rfl,by omega,a2,by omega,λi hi=>C.trans (hs _ _ (by omega) (by omega) (by omega)) hl,b2⟩
  ·rintro c st2 ⟨rfl,l,r,rfl,a1,a2,a3,b1,b2⟩
   have : max 0 k=k:=by omega
   rw[this] at a3
   w_pre e6
   exact ⟨rfl,l,rfl,a2,b1,b2⟩
  ·rintro c st2 ⟨rfl,l,rfl,a2,b1,b2⟩
   dsimp only
   refine Az (nM ?_)
   have xb:=λi=>j8 (xs:=arrOf st2) (src:=lo+k) (d:=lo+k - (lo+l)) (by omega) (by omega) i
   have ed:lo+k - (lo+k - (lo+l))=lo+l:=by omega
   refine Bi ⟨rfl,g1.set (bubble_perm _ _ _),λi j i1 i2 j1=>?_,ou.trans λi hi=>?_⟩
   ·show le blt (X (bubble (arrOf st2) (lo+k) (lo+k - (lo+l))) i) (X (bubble (arrOf st2) (lo+k) (lo+k - (lo+l))) j)
    rw[xb,xb,ed]
    by_cases e1:i=lo+l
    ·rw[if_pos e1]
     by_cases e2:j=lo+l
     ·rw[if_pos e2]; exact C.refl _
     ·rw[if_neg e2]
      by_cases e3:lo+l<j/\j<=lo+k
      ·rw[if_pos e3]
       have:=b2 (j - 1 - lo) (by omega) (by omega)
       rw[show lo+(j - 1 - lo)=j - 1 by omega] at this
       exact C.ofLt this
      ·exfalso; omega
    ·rw[if_neg e1]
     by_cases e2:j=lo+l
     ·rw[if_pos e2,if_neg (by omega)]
      have:=b1 (i - lo) (by omega)
      rw[show lo+(i - lo)=i by omega] at this
      exact this
     ·rw[if_neg e2]
      by_cases e3:lo+l<i/\i<=lo+k
      ·rw[if_pos e3,if_pos (by omega)]
       w_pre s7
      ·rw[if_neg e3]
       by_cases e4:lo+l<j/\j<=lo+k
       ·rw[if_pos e4]
        w_pre s7
       ·rw[if_neg e4]
        w_pre s7
   ·show X (bubble (arrOf st2) (lo+k) (lo+k - (lo+l))) i=X (arrOf st2) i
    rw[xb,ed,if_neg (by omega),if_neg (by omega)]
 ·rintro c st1 ⟨rfl,g1,hs,ou⟩
  refine ⟨rfl,g1,λi j i1 i2 j1=>hs i j i1 i2 (by omega),ou⟩
 ·intro i j i1 i2 j1
  by_cases e:i=j
  ·subst e; exact C.refl _
  ·exact h1 i j i1 i2 (by omega)
 ·rintro c st1 ⟨rfl,g1,hs,ou⟩
  exact Bi (h st1 g1 hs ou)
end
abbrev Pd(xs:Array Keyed)(b:Nat)(l:List (Keyed×Nat)):Array Keyed:=l.foldl (λa x=>match x with | (p,j)=>a.setIfInBounds (b+j) p) xs
theorem cJ(b:Nat):∀(l:List Keyed) (o:Nat) (xs:Array Keyed),b+o+l.length<=xs.size->(Pd xs b (l.zipIdx o)).size=xs.size/\∀i:Nat,(Pd xs b (l.zipIdx o))[i]? = if b+o<=i/\i<b+o+l.length then l[i - (b+o)]? else xs[i]?
 | [],o,xs,_=>⟨rfl,λi=>by rw[if_neg (by rw[Ik]; omega)]; rfl⟩
 | x::l,o,xs,h=>by
  rw[Bm] at h
  have ih:=cJ b l (o+1) (xs.setIfInBounds (b+o) x) (by rw[Ro]; omega)
  have e:Pd xs b ((x::l).zipIdx o)=Pd (xs.setIfInBounds (b+o) x) b (l.zipIdx (o+1)):=by
   rw[Nq]
   rfl
  rw[e]
  refine ⟨ih.1.trans (Ro),λi=>?_⟩
  rw[ih.2 i,Bm]
  by_cases h1:b+(o+1)<=i/\i<b+(o+1)+l.length
  ·rw[if_pos h1,if_pos (by omega)]
   rw[show i - (b+o)=(i - (b+(o+1)))+1 by omega,oT]
  ·rw[if_neg h1]
   by_cases h2:i=b+o
   ·subst h2
    rw[if_pos (by omega),Array.getElem?_setIfInBounds_self_of_lt (by omega),Nat.sub_self]
    rfl
   ·rw[if_neg (by omega),Array.getElem?_setIfInBounds_ne (by omega)]
theorem qC{xs m:Array Keyed}{b n:Nat}(hb:b+n<=xs.size)(hn:m.size=n)(hp:m.toList.Perm ((xs.toList.drop b).take n)):(Pd xs b m.toList.zipIdx).Perm xs:=by
 have ha:=cJ b m.toList 0 xs (by rw[Am]; omega)
 have e:(Pd xs b m.toList.zipIdx).toList=xs.toList.take b++(m.toList++xs.toList.drop (b+n)):=by
  apply Iu
  intro i
  have h1:=ha.2 i
  rw[Am,hn] at h1
  have h2:(Pd xs b m.toList.zipIdx).toList[i]? = (Pd xs b m.toList.zipIdx)[i]?:=by simp
  rw[h2,h1]
  have lt:(xs.toList.take b).length=b:=by rw[Du,Am]; omega
  by_cases c1:i<b
  ·rw[if_neg (by omega),Li (by omega),Ja c1]
   simp
  ·rw[Gh (by omega),lt]
   by_cases c2:i<b+n
   ·rw[if_pos (by omega),Li (by rw[Am]; omega)]
    congr 1
   ·rw[if_neg (by omega),Gh (by rw[Am]; omega),Zc,Am]
    rw[show b+n+(i - b - m.size)=i by omega]
    simp
 refine Array.perm_iff_toList_perm.mpr ?_
 rw[e]
 have e2:xs.toList=xs.toList.take b++((xs.toList.drop b).take n++xs.toList.drop (b+n)):=by
  conv=>lhs; rw[<- Fj b xs.toList]
  congr 1
  conv=>lhs; rw[<- Fj n (xs.toList.drop b)]
  rw[List.drop_drop]
 conv=>rhs; rw[e2]
 exact Jo _ (List.Perm.append_right _ hp)
theorem Yg{xs:Array Keyed}{a n:Nat}(h:a+n<=xs.size){i:Nat}(hi:i<n):(xs.extract a (a+n))[i]? = some (X xs (a+i)):=by
 rw[Array.getElem?_extract,if_pos (by omega)]
 exact Zt (by omega)
theorem Ti{xs:Array Keyed}{a n:Nat}(h:a+n<=xs.size):(xs.extract a (a+n)).size=n:=by
 rw[Array.size_extract]
 omega
theorem Wt{xs:Array Keyed}{a n:Nat}(h:a+n<=xs.size){x:Keyed}(hx:x∈(xs.extract a (a+n)).toList):∃i,i<n/\x=X xs (a+i):=by
 obtain ⟨i,hi,e⟩:=Gx.mp hx
 rw[Am,Ti h] at hi
 refine ⟨i,hi,?_⟩
 have h1:=Yg h hi
 have h2:(xs.extract a (a+n)).toList[i]? = some x:=by rw[<- e,<- Bx]
 rw[Fh,h1] at h2
 exact (Bv h2).symm
section
variable{prog:Bl}{w:World}{A:Ce}{s:Ai}{kd:Ms}{Ok:Keyed->Prop}{blt:Keyed->Keyed->Bool}{E:Value->Ai->Prop}{a₀:Array Keyed}{pend:Array (Nat×Nat×Nat)}
theorem cP(C:Cmp prog w A s kd Ok blt){xs:Array Keyed}{a n c d:Nat}(h:a+n<=xs.size)(hs:To blt xs c d)(h1:c<=a)(h2:a+n<=d):(xs.extract a (a+n)).toList.Pairwise (le blt):=by
 rw[Lh]
 intro i j hi hj hij
 rw[Am,Ti h] at hi hj
 have e1:(xs.extract a (a+n)).toList[i]? = some (X xs (a+i)):=by rw[Fh]; exact Yg h hi
 have e2:(xs.extract a (a+n)).toList[j]? = some (X xs (a+j)):=by rw[Fh]; exact Yg h hj
 obtain ⟨_,f1⟩:=Av.mp e1
 obtain ⟨_,f2⟩:=Av.mp e2
 rw[f1,f2]
 w_pre s7
theorem nO(C:Cmp prog w A s kd Ok blt){xs:Array Keyed}{a b c:Nat}(hab:a<b)(h1:To blt xs a b)(h2:To blt xs b c)(h:le blt (X xs (b - 1)) (X xs b)):To blt xs a c:=λi j i1 i2 j1=>by
 by_cases e1:j<b
 ·exact h1 i j i1 i2 e1
 ·by_cases e2:b<=i
  ·exact h2 i j e2 i2 j1
  ·exact C.trans (h1 i (b - 1) i1 (by omega) (by omega)) (C.trans h (h2 b j (Aj _) (by omega) j1))
structure Good0(kd:Ms)(a₀:Array Keyed)(st:By):Prop where
 kind:kindOf st=kd
 fail:Mq st=none
 perm:(arrOf st).Perm a₀
theorem Good0.size{st:By}(g:Good0 kd a₀ st):(arrOf st).size=a₀.size:=g.perm.size_eq
theorem Good0.okX{st:By}(g:Good0 kd a₀ st)(h0:∀x∈a₀.toList,Ok x){i:Nat}(hi:i<a₀.size):Ok (X (arrOf st) i):=by
 w_pre y4
theorem A0{st:By}(g:Good0 kd a₀ st)(h0:∀x∈a₀.toList,Ok x){b n:Nat}(h:b+n<=a₀.size):Row Ok (arrOf st) b n (λi=>X (arrOf st) (b+i)) :=
 ⟨λi hi=>Zt (by rw[g.size]; omega),λi hi=>g.okX h0 (by omega)⟩
theorem BQ{st st':By}{Q:Unit->By->Prop}(h:Q () st'):wpS (model prog w) A E s (set st':StateT By Sem Unit) Q st:=by
 unfold wpS
 rw[StateT.run_set]
 exact Ac ⟨rfl,h⟩
theorem qI(C:Cmp prog w A s kd Ok blt){st:By}(g:Good0 kd a₀ st)(h0:∀x∈a₀.toList,Ok x){i sa na pa sb nb pb:Nat}(hi:(Bg st)[i]? = some (sa,na,pa))(hj:(Bg st)[i+1]? = some (sb,nb,pb))(e1:sb=sa+na)(n1:1<=na)(n2:1<=nb)(hz:sb+nb<=a₀.size)(s1:To blt (arrOf st) sa sb)(s2:To blt (arrOf st) sb (sb+nb)){Q:Bool->By->Prop}(h:∀st',Good0 kd a₀ st'->Bg st'=((Bg st).setIfInBounds i (sa,na+nb,pa)).eraseIdxIfInBounds (i+1)->To blt (arrOf st') sa (sb+nb)->kE (arrOf st) (arrOf st') sa (sb+nb)->Q true st'):wpS (model prog w) A E s (Wr i) Q st:=by
 have hsz:(arrOf st).size=a₀.size:=g.size
 unfold Wr
 w_pre q7
 rw[hi,hj]
 dsimp only
 refine Az (BQ ?_)
 refine Az (Fz (Zt (xs:=arrOf st) (i:=sb) (by rw[hsz]; omega)) ?_)
 show wpS (model prog w) A E s _ _ (SortSt.mk' (kindOf st) (arrOf st) (((Bg st).setIfInBounds i (sa,na+nb,pa)).eraseIdxIfInBounds (i+1)) (gallopOf st) (Mq st))
 generalize hst1:SortSt.mk' (kindOf st) (arrOf st) (((Bg st).setIfInBounds i (sa,na+nb,pa)).eraseIdxIfInBounds (i+1)) (gallopOf st) (Mq st)=st1
 have k1:kindOf st1=kd:=by rw[<- hst1]; exact g.kind
 have ar1:arrOf st1=arrOf st:=by rw[<- hst1]
 have pd1:Bg st1=((Bg st).setIfInBounds i (sa,na+nb,pa)).eraseIdxIfInBounds (i+1):=by rw[<- hst1]
 have fl1:Mq st1=none:=by rw[<- hst1]; exact g.fail
 have g1:Good0 kd a₀ st1:=⟨k1,fl1,by rw[ar1]; exact g.perm⟩
 have same:Good0 kd a₀ st1->To blt (arrOf st) sa (sb+nb)->Q true st1:=λgg as=>h st1 gg pd1 (by rw[ar1]; exact as) (by rw[ar1]; exact kE.refl _ _ _)
 refine Az (Ou C (hint:=0) (n:=na) (A0 g h0 (b:=sa) (n:=na) (by omega)) (g.okX h0 (i:=sb) (by omega)) k1 (by omega) (λa c hac hc q1=>?_) λk kn t1 t2=>?_)
 ·simp only[Hf,Bw,if_false,Kq] at q1 ⊢
  exact C.trans (s1 _ _ (by omega) (by omega) (by omega)) q1
 dsimp only
 have f1:∀m,m<k->le blt (X (arrOf st) (sa+m)) (X (arrOf st) sb):=λm hm=>by
  have:=t1 m hm
  have z:blt (X (arrOf st) sb) (X (arrOf st) (sa+m))=false:=by simpa only [Hf,Bw,if_false,Kq] using this
  exact z
 by_cases c1:na - k=0
 ·rw[if_pos (by rw[c1]; rfl)]
  refine Bi (same g1 (nO C (by omega) s1 s2 ?_))
  have:=f1 (na - 1) (by omega)
  rw[show sa+(na - 1)=sb - 1 by omega] at this
  exact this
 rw[if_neg (λz=>c1 (Dz z))]
 have f2:blt (X (arrOf st) sb) (X (arrOf st) (sa+k))=true:=by
  have:=t2 k (Aj _) (by omega)
  simpa only [Hf,Bw,if_false,Qt] using this
 have el:sa+k+(na - k) - 1=sb - 1:=by omega
 rw[el]
 refine Az (Fz (Zt (xs:=arrOf st) (i:=sb - 1) (by rw[hsz]; omega)) ?_)
 refine Az (Ou C (hint:=nb - 1) (n:=nb) (A0 g h0 (b:=sb) (n:=nb) (by omega)) (g.okX h0 (i:=sb - 1) (by omega)) k1 (by omega) (λa c hac hc q1=>?_) λl ln u1 u2=>?_)
 ·simp only[Hf,if_true] at q1 ⊢
  exact C.leLt (s2 _ _ (by omega) (by omega) (by omega)) q1
 dsimp only
 have f3:∀m,m<l->blt (X (arrOf st) (sb+m)) (X (arrOf st) (sb - 1))=true:=λm hm=>by
  have:=u1 m hm
  simpa only [Hf,if_true] using this
 have f4:∀m,l<=m->m<nb->le blt (X (arrOf st) (sb - 1)) (X (arrOf st) (sb+m)):=λm h1 h2=>by
  have:=u2 m h1 h2
  have z:blt (X (arrOf st) (sb+m)) (X (arrOf st) (sb - 1))=false:=by simpa only [Hf,if_true] using this
  exact z
 by_cases c2:l=0
 ·rw[if_pos (by rw[c2]; rfl)]
  subst c2
  exact Bi (same g1 (nO C (by omega) s1 s2 (f4 0 (Aj _) (by omega))))
 rw[if_neg (λz=>c2 (Dz z))]
 have ep:(arrOf st).extract (sa+k) sb=(arrOf st).extract (sa+k) (sa+k+(na - k)):=by rw[show sa+k+(na - k)=sb by omega]
 rw[ep]
 have hp:sa+k+(na - k)<=(arrOf st).size:=by omega
 have hq:sb+l<=(arrOf st).size:=by omega
 have T:Two Ok blt ((arrOf st).extract (sa+k) (sa+k+(na - k))) ((arrOf st).extract sb (sb+l)) (X (arrOf st) (sa+k)) (X (arrOf st) sb) (X (arrOf st) (sb - 1)):=by
  refine ⟨λx hx=>?_,λx hx=>?_,cP C hp s1 (by omega) (by omega),cP C hq s2 (by omega) (by omega),?_,?_,?_,f2,λy hy=>?_⟩
  ·obtain ⟨m,hm,rfl⟩:=Wt hp hx
   exact g.okX h0 (by omega)
  ·obtain ⟨m,hm,rfl⟩:=Wt hq hx
   exact g.okX h0 (by omega)
  ·exact Yg hp (by omega)
  ·exact Yg hq (by omega)
  ·rw[Ti hp,Yg hp (by omega),show sa+k+(na - k - 1)=sb - 1 by omega]
  ·obtain ⟨m,hm,rfl⟩:=Wt hq hy
   exact f3 m hm
 -- qR the merge
 have fin:∀(r:Array Keyed) (st2:By),Kept st1 st2->qX blt ((arrOf st).extract (sa+k) (sa+k+(na - k))) ((arrOf st).extract sb (sb+l)) r ->
   Q (Mq (setArr st2 (Pd (arrOf st2) (sa+k) r.toList.zipIdx))).isNone (setArr st2 (Pd (arrOf st2) (sa+k) r.toList.zipIdx)):=by
  intro r st2 kp hr
  have ar2:arrOf st2=arrOf st:=kp.arr.trans ar1
  have fl2:Mq st2=none:=kp.fail.trans fl1
  have rsz:r.size=na - k+l:=by
   have:=hr.1.length_eq
   rw[Bf,Am,Am,Am,Ti hp,Ti hq] at this
   exact this
  have seg:((arrOf st).toList.drop (sa+k)).take (na - k+l)=((arrOf st).extract (sa+k) (sa+k+(na - k))).toList++((arrOf st).extract sb (sb+l)).toList:=by
   rw[Xi,Xi,List.take_add,List.drop_drop,show sa+k+(na - k)=sb by omega]
  have pa':=cJ (sa+k) r.toList 0 (arrOf st) (by rw[Am]; omega)
  have xat:∀m,X (Pd (arrOf st) (sa+k) r.toList.zipIdx) m=if sa+k<=m/\m<sb+l then X r (m - (sa+k)) else X (arrOf st) m:=λm=>by
   have:=pa'.2 m
   rw[Am,rsz,Nat.add_zero] at this
   by_cases hm:sa+k<=m/\m<sb+l
   ·rw[if_pos hm]
    rw[if_pos (by omega)] at this
    refine Rx (this.trans ?_)
    simp
   ·rw[if_neg hm]
    rw[if_neg (by omega)] at this
    exact Rx this
  -- each thing of the merged is one of the two runs'
  have from2:∀m,m<na - k+l->(∃c,sa+k<=c/\c<sb/\X r m=X (arrOf st) c)\/(∃c,sb<=c/\c<sb+l/\X r m=X (arrOf st) c):=λm hm=>by
   have hx:=Kf (Zt (xs:=r) (i:=m) (by omega))
   rcases Aw.mp (hr.1.mem_iff.mp hx) with z | z
   ·obtain ⟨c,hc,e⟩:=Wt hp z
    exact .inl ⟨sa+k+c,by omega,by omega,e⟩
   ·obtain ⟨c,hc,e⟩:=Wt hq z
    exact .inr ⟨sb+c,by omega,by omega,e⟩
  have rs:∀m n,m<=n->n<na - k+l->le blt (X r m) (X r n):=λm n hmn hn=>Lr C hr.2 hmn (Em (Zt (by omega))) (Em (Zt (by omega)))
  have e3:Mq (setArr st2 (Pd (arrOf st2) (sa+k) r.toList.zipIdx))=none:=fl2
  rw[e3]
  refine h _ ⟨kp.kind.trans k1,e3,?_⟩ (kp.pend.trans pd1) ?_ ?_
  ·show (Pd (arrOf st2) (sa+k) r.toList.zipIdx).Perm a₀
   rw[ar2]
   refine (qC (by omega) rsz ?_).trans g.perm
   rw[seg]
   exact hr.1
  ·show To blt (Pd (arrOf st2) (sa+k) r.toList.zipIdx) sa (sb+nb)
   rw[ar2]
   intro c d c1 cd d1
   rw[xat,xat]
   by_cases zc:sa+k<=c/\c<sb+l
   ·rw[if_pos zc]
    by_cases zd:sa+k<=d/\d<sb+l
    ·rw[if_pos zd]
     exact rs _ _ (by omega) (by omega)
    ·rw[if_neg zd]
     rcases from2 (c - (sa+k)) (by omega) with ⟨b,b1,b2,e⟩ | ⟨b,b1,b2,e⟩
     ·rw[e]
      refine C.trans (s1 b (sb - 1) (by omega) (by omega) (by omega)) ?_
      have:=f4 (d - sb) (by omega) (by omega)
      rw[show sb+(d - sb)=d by omega] at this
      exact this
     ·rw[e]
      exact s2 b d b1 (by omega) (by omega)
   ·rw[if_neg zc]
    by_cases zd:sa+k<=d/\d<sb+l
    ·rw[if_pos zd]
     rcases from2 (d - (sa+k)) (by omega) with ⟨b,b1,b2,e⟩ | ⟨b,b1,b2,e⟩
     ·rw[e]
      exact s1 c b c1 (by omega) b2
     ·rw[e]
      have:=f1 (c - sa) (by omega)
      rw[show sa+(c - sa)=c by omega] at this
      exact C.trans this (s2 sb b (Aj _) b1 (by omega))
    ·rw[if_neg zd]
     by_cases y1:d<sb
     ·exact s1 c d c1 cd y1
     ·by_cases y2:sb<=c
      ·exact s2 c d y2 cd d1
      ·have:=f1 (c - sa) (by omega)
       rw[show sa+(c - sa)=c by omega] at this
       exact C.trans this (s2 sb d (Aj _) (by omega) d1)
  ·show kE (arrOf st) (Pd (arrOf st2) (sa+k) r.toList.zipIdx) sa (sb+nb)
   rw[ar2]
   intro m hm
   rw[xat,if_neg (by omega)]
 by_cases c3:na - k<=l
 ·rw[if_pos c3]
  refine Az (qO C T k1 λr st2 kp hr=>?_)
  w_pre r9
 ·rw[if_neg c3]
  refine Az (qY C T k1 λr st2 kp hr=>?_)
  w_pre r9
end
def fE:StateT By Sem Unit:=sortPriv% PySem.Builtin.sortRuns
def Runs(blt:Keyed->Keyed->Bool)(xs:Array Keyed):List (Nat×Nat×Nat)->Nat->Nat->Prop
 | [],a,b=>a=b
 | (s,n,_)::r,a,b=>s=a/\1<=n/\To blt xs a (a+n)/\Runs blt xs r (a+n) b
variable{blt:Keyed->Keyed->Bool}
theorem Runs.len{xs:Array Keyed}:∀{l:List (Nat×Nat×Nat)} {a b:Nat},Runs blt xs l a b->a+l.length<=b
 | [],a,b,h=>by
  have e:a=b:=h
  rw[Ik]
  omega
 | (s,n,p)::r,a,b,h=>by
  have:=Runs.len h.2.2.2
  have:=h.2.1
  rw[Bm]
  omega
theorem To.out{xs ys:Array Keyed}{a b c d:Nat}(h:To blt xs a b)(o:kE xs ys c d)(e:b<=c\/d<=a):To blt ys a b:=λi j i1 i2 j1=>by
 rw[o i (by omega),o j (by omega)]
 exact h i j i1 i2 j1
theorem Runs.out{xs ys:Array Keyed}{c d:Nat}(o:kE xs ys c d):∀{l:List (Nat×Nat×Nat)} {a b:Nat},(b<=c\/d<=a)->Runs blt xs l a b->Runs blt ys l a b
 | [],_,_,_,h=>h
 | (s,n,p)::r,a,b,e,h=>by
  have hl:=Runs.len h.2.2.2
  exact ⟨h.1,h.2.1,h.2.2.1.out o (by omega),Runs.out o (by omega) h.2.2.2⟩
theorem Runs.push{xs:Array Keyed}{m q:Nat}(hm:1<=m):∀{l:List (Nat×Nat×Nat)} {a b:Nat},Runs blt xs l a b->To blt xs b (b+m)->Runs blt xs (l++[(b,m,q)]) a (b+m)
 | [],a,b,h,hs=>by
  have e:a=b:=h
  subst e
  exact ⟨rfl,hm,hs,rfl⟩
 | (s,n,p)::r,a,b,h,hs=>⟨h.1,h.2.1,h.2.2.1,Runs.push hm h.2.2.2 hs⟩
theorem Runs.power{xs:Array Keyed}{pw:Nat}:∀{l:List (Nat×Nat×Nat)} {a b:Nat} (k:Nat),Runs blt xs l a b->Runs blt xs (l.modify k λx=>(x.1,x.2.1,pw)) a b
 | [],_,_,k,h=>by simpa using h
 | (s,n,p)::r,a,b,0,h=>by
  rw[List.modify_zero_cons]
  exact h
 | (s,n,p)::r,a,b,k+1,h=>by
  rw[List.modify_succ_cons]
  exact ⟨h.1,h.2.1,h.2.2.1,Runs.power k h.2.2.2⟩
theorem Runs.two{xs:Array Keyed}:∀{l:List (Nat×Nat×Nat)} {a b i sa na pa sb nb pb:Nat},Runs blt xs l a b->l[i]? = some (sa,na,pa)->l[i+1]? = some (sb,nb,pb)->sb=sa+na/\1<=na/\1<=nb/\a<=sa/\sb+nb<=b/\To blt xs sa sb/\To blt xs sb (sb+nb)
 | [],_,_,_,_,_,_,_,_,_,_,h,_=>by simp at h
 | (s,n,p)::r,a,b,0,sa,na,pa,sb,nb,pb,h,h1,h2=>by
  w_pre r0
  cases r with
  | nil=>simp at h2
  | cons y r' =>
   w_pre o0
   have:=Runs.len hr'
   exact ⟨e',hn,hn',Aj _,by omega,by rw[e']; exact hs,by rw[e']; exact hs'⟩
 | (s,n,p)::r,a,b,i+1,sa,na,pa,sb,nb,pb,h,h1,h2=>by
  have:=Runs.two h.2.2.2 (by simpa using h1) (by simpa using h2)
  exact ⟨this.1,this.2.1,this.2.2.1,by have:=this.2.2.2.1; have:=h.2.1; omega,this.2.2.2.2.1,this.2.2.2.2.2⟩
theorem Runs.merge{xs ys:Array Keyed}:∀{l:List (Nat×Nat×Nat)} {a b i sa na pa sb nb pb:Nat},Runs blt xs l a b->l[i]? = some (sa,na,pa)->l[i+1]? = some (sb,nb,pb)->kE xs ys sa (sb+nb)->To blt ys sa (sb+nb)->Runs blt ys ((l.set i (sa,na+nb,pa)).eraseIdx (i+1)) a b
 | [],_,_,_,_,_,_,_,_,_,_,h,_,_,_=>by simp at h
 | (s,n,p)::r,a,b,0,sa,na,pa,sb,nb,pb,h,h1,h2,o,as=>by
  have tw:=Runs.two h h1 h2
  w_pre r0
  cases r with
  | nil=>simp at h2
  | cons y r' =>
   w_pre o0
   rw[List.set_cons_zero,Sz,List.eraseIdx_cons_zero]
   refine ⟨rfl,by omega,?_,?_⟩
   ·rw[show s+(n+n')=s'+n' by omega]
    exact as
   ·rw[show s+(n+n')=s+n+n' by omega]
    exact Runs.out o (.inr (by omega)) hr'
 | (s,n,p)::r,a,b,i+1,sa,na,pa,sb,nb,pb,h,h1,h2,o,as=>by
  have tw:=Runs.two (i:=i) h.2.2.2 (by simpa using h1) (by simpa using h2)
  rw[List.set_cons_succ,Sz]
  exact ⟨h.1,h.2.1,h.2.2.1.out o (.inl tw.2.2.2.1),Runs.merge h.2.2.2 (by simpa using h1) (by simpa using h2) o as⟩
theorem fS(P:Array (Nat×Nat×Nat))(i:Nat)(v:Nat×Nat×Nat):((P.setIfInBounds i v).eraseIdxIfInBounds (i+1)).toList=(P.toList.set i v).eraseIdx (i+1):=by
 rw[Array.toList_eraseIdxIfInBounds,gN]
section
variable{prog:Bl}{w:World}{A:Ce}{s:Ai}{kd:Ms}{Ok:Keyed->Prop}{E:Value->Ai->Prop}{a₀:Array Keyed}
theorem Qh{α:Type}{c:Prop}[Decidable c]{p q:StateT By Sem α}{Q:α->By->Prop}{st:By}(h1:c->wpS (model prog w) A E s p Q st)(h2:¬ c->wpS (model prog w) A E s q Q st):wpS (model prog w) A E s (if c then p else q) Q st:=by
 by_cases h:c
 ·rw[if_pos h]; exact h1 h
 ·rw[if_neg h]; exact h2 h
theorem jR(C:Cmp prog w A s kd Ok blt){st:By}(g:Good0 kd a₀ st)(h0:∀x∈a₀.toList,Ok x){lo i:Nat}(hlo:lo<=a₀.size)(rn:Runs blt (arrOf st) (Bg st).toList 0 lo)(hi:i+1<(Bg st).size){Q:Bool->By->Prop}(h:∀st',Good0 kd a₀ st'->Runs blt (arrOf st') (Bg st').toList 0 lo->(Bg st').size+1=(Bg st).size->(∀c d,lo<=c->To blt (arrOf st) c d->To blt (arrOf st') c d)->Q true st'):wpS (model prog w) A E s (Wr i) Q st:=by
 obtain ⟨⟨sa,na,pa⟩,ha⟩ : ∃x,(Bg st)[i]? = some x:=⟨(Bg st)[i],by simp⟩
 obtain ⟨⟨sb,nb,pb⟩,hb⟩ : ∃x,(Bg st)[i+1]? = some x:=⟨(Bg st)[i+1],by simp⟩
 have la:(Bg st).toList[i]? = some (sa,na,pa):=by simpa using ha
 have lb:(Bg st).toList[i+1]? = some (sb,nb,pb):=by simpa using hb
 obtain ⟨t1,t2,t3,t4,t5,t6,t7⟩:=rn.two la lb
 refine qI C g h0 ha hb t1 t2 t3 (by omega) t6 t7 λst' g' pd as ou=>?_
 refine h st' g' ?_ ?_ λc d hc hs=>hs.out ou (.inr (by omega))
 ·rw[pd,fS]
  exact rn.merge la lb ou as
 ·have : (Bg st').toList.length+1=(Bg st).toList.length:=by
   rw[pd,fS,List.length_eraseIdx,Pp,Am,if_pos hi]
   omega
  simpa using this
theorem N6{st:By}(g:Good0 kd a₀ st):Good kd a₀ (Bg st) st:=⟨g.kind,g.fail,g.perm,rfl⟩
theorem nH{st:By}{p:Array (Nat×Nat×Nat)}(g:Good kd a₀ p st):Good0 kd a₀ st:=⟨g.kind,g.fail,g.perm⟩
theorem uJ(C:Cmp prog w A s kd Ok blt){st:By}(g:Good0 kd a₀ st)(h0:∀x∈a₀.toList,Ok x)(hp:Bg st=#[])(hz:1<=a₀.size){Q:Unit->By->Prop}(h:∀st',Good0 kd a₀ st'->To blt (arrOf st') 0 a₀.size->Q () st'):wpS (model prog w) A E s fE Q st:=by
 unfold fE
 w_pre q7
 have hsz:(arrOf st).size=a₀.size:=g.size
 dsimp only
 rw[hsz]
 generalize (sortPriv% PySem.Builtin.minRun) a₀.size a₀.size 0=mr
 refine Az (Hr (Ep
  (I:=λx c st'=>∃lo,c=(none,lo)/\Good0 kd a₀ st'/\Runs blt (arrOf st') (Bg st').toList 0 lo/\lo<=a₀.size/\x<=lo)
  (Q:=λc st'=>c=(none,a₀.size)/\Good0 kd a₀ st'/\Runs blt (arrOf st') (Bg st').toList 0 a₀.size) ?_ ?_ ⟨0,rfl,g,by rw[hp]; exact rfl,by omega,by omega⟩) ?_)
 ·rintro x c st1 _ hx ⟨lo,rfl,g1,rn,hlo,hxl⟩
  dsimp only
  by_cases hge:lo ≥ a₀.size
  ·rw[if_pos hge]
   have e:lo=a₀.size:=by omega
   subst e
   exact Bi ⟨rfl,g1,rn⟩
  rw[if_neg hge]
  refine Az (n6 C (N6 g1) h0 (lo:=lo) (b:=a₀.size - lo) (by omega) (by omega) λm st2 g2 m1 m2 as ou=>?_)
  dsimp only
  have rn2:Runs blt (arrOf st2) (Bg st2).toList 0 lo:=by
   rw[g2.pd]
   exact rn.out ou (.inl (Aj _))
  have g2':=nH g2
  clear rn g1
  refine Qh (λhmin=>?_) (λhmin=>?_)
  ·refine Az (Uu ?_)
   refine Az (wG C g2 h0 (lo:=lo) (n:=min (a₀.size - lo) mr) (ok:=m) (by omega) as (by omega) λst3 g3 as3 ou3=>?_)
   w_pre t9
   have n1:1<=min (a₀.size - lo) mr:=by omega
   have n2:lo+min (a₀.size - lo) mr<=a₀.size:=by omega
   have rn3:Runs blt (arrOf st3) (Bg st3).toList 0 lo:=by
    rw[g3.pd,<- g2.pd]
    exact rn2.out ou3 (.inl (Aj _))
   have g3':=nH g3
   generalize min (a₀.size - lo) mr=n at as3 n1 n2
   clear g2 g2' rn2 as ou ou3 g3 m1 m2 hmin
   w_pre q7
   cases hb:(Bg st3).back? with
   | none =>
    dsimp only
    refine Az (Kj ?_)
    refine Bi ⟨lo+n,rfl,⟨g3'.kind,g3'.fail,g3'.perm⟩,?_,n2,by omega⟩
    show Runs blt (arrOf st3) ((Bg st3).push (lo,n,0)).toList 0 (lo+n)
    rw[Io]
    exact rn3.push n1 as3
   | some y =>
    obtain ⟨s1,l1,p1⟩:=y
    dsimp only
    refine Az (Hr (Ep
     (I:=λ_ c st'=>c=(none,())/\Good0 kd a₀ st'/\Runs blt (arrOf st') (Bg st').toList 0 lo/\To blt (arrOf st') lo (lo+n))
     (Q:=λc st'=>c=(none,())/\Good0 kd a₀ st'/\Runs blt (arrOf st') (Bg st').toList 0 lo/\To blt (arrOf st') lo (lo+n)) ?_ (λ_ _ z=>z) ⟨rfl,g3',rn3,as3⟩) ?_)
    w_pre h
    ·rintro c st4 ⟨rfl,g4,rn4,as4⟩
     dsimp only
     refine Az (Kj ?_)
     refine Az (Kj ?_)
     refine Bi ⟨lo+n,rfl,⟨g4.kind,g4.fail,g4.perm⟩,?_,n2,by omega⟩
     show Runs blt (arrOf st4) (((Bg st4).modify ((Bg st4).size - 1) _).push (lo,n,0)).toList 0 (lo+n)
     rw[Io,Array.toList_modify]
     exact (rn4.power _).push n1 as4
  ·have n2:lo+m<=a₀.size:=by omega
   w_pre q7
   cases hb:(Bg st2).back? with
   | none =>
    dsimp only
    refine Az (Kj ?_)
    refine Bi ⟨lo+m,rfl,⟨g2'.kind,g2'.fail,g2'.perm⟩,?_,n2,by omega⟩
    show Runs blt (arrOf st2) ((Bg st2).push (lo,m,0)).toList 0 (lo+m)
    rw[Io]
    exact rn2.push m1 as
   | some y =>
    obtain ⟨s1,l1,p1⟩:=y
    dsimp only
    refine Az (Hr (Ep
     (I:=λ_ c st'=>c=(none,())/\Good0 kd a₀ st'/\Runs blt (arrOf st') (Bg st').toList 0 lo/\To blt (arrOf st') lo (lo+m))
     (Q:=λc st'=>c=(none,())/\Good0 kd a₀ st'/\Runs blt (arrOf st') (Bg st').toList 0 lo/\To blt (arrOf st') lo (lo+m)) ?_ (λ_ _ z=>z) ⟨rfl,g2',rn2,as⟩) ?_)
    w_pre h
    ·rintro c st4 ⟨rfl,g4,rn4,as4⟩
     dsimp only
     refine Az (Kj ?_)
     refine Az (Kj ?_)
     refine Bi ⟨lo+m,rfl,⟨g4.kind,g4.fail,g4.perm⟩,?_,n2,by omega⟩
     show Runs blt (arrOf st4) (((Bg st4).modify ((Bg st4).size - 1) _).push (lo,m,0)).toList 0 (lo+m)
     rw[Io,Array.toList_modify]
     exact (rn4.power _).push m1 as4
 ·rintro c st1 ⟨lo,rfl,g1,rn,hlo,hxl⟩
  have : max 0 a₀.size=a₀.size:=by omega
  rw[this] at hxl
  have e:lo=a₀.size:=by omega
  subst e
  exact ⟨rfl,g1,rn⟩
 ·rintro c st1 ⟨rfl,g1,rn⟩
  dsimp only
  have len0:=Runs.len rn
  rw[Am] at len0
  refine Az (Hr (Ep
   (I:=λx c st'=>c=(none,())/\Good0 kd a₀ st'/\Runs blt (arrOf st') (Bg st').toList 0 a₀.size/\((Bg st').size<=1\/(Bg st').size+x<=a₀.size))
   (Q:=λc st'=>c=(none,())/\Good0 kd a₀ st'/\Runs blt (arrOf st') (Bg st').toList 0 a₀.size/\(Bg st').size<=1) ?_ ?_ ⟨rfl,g1,rn,.inr (by omega)⟩) ?_)
  ·rintro x c st2 _ hx ⟨rfl,g2,rn2,hs⟩
   w_pre q7
   refine Qh (λh1=>Bi ⟨rfl,g2,rn2,h1⟩) (λh1=>?_)
   have h1':¬ (Bg st2).size<=1:=h1
   generalize hB:Option.any _ _=bb
   have key:∀i,i+1<(Bg st2).size->wpS (model prog w) A E s (Wr i) (λr st3=>r=true/\Good0 kd a₀ st3/\Runs blt (arrOf st3) (Bg st3).toList 0 a₀.size/\(Bg st3).size+1=(Bg st2).size) st2 :=
    λi hi=>jR C g2 h0 (Aj _) rn2 hi λst3 g3 rn3 sz _=>⟨rfl,g3,rn3,sz⟩
   refine Az (Hr (key _ ?_) λr st3 ⟨er,g3,rn3,sz⟩=>?_)
   ·cases bb with
    | true=>show (Bg st2).size - 2 - 1+1<(Bg st2).size; omega
    | false=>show (Bg st2).size - 2+1<(Bg st2).size; omega
   subst er
   w_pre t9
   exact Bi ⟨rfl,g3,rn3,.inr (by omega)⟩
  ·rintro c st2 ⟨rfl,g2,rn2,hs⟩
   have : max 0 a₀.size=a₀.size:=by omega
   rw[this] at hs
   exact ⟨rfl,g2,rn2,by omega⟩
  ·rintro c st2 ⟨rfl,g2,rn2,hs⟩
   dsimp only
   refine Bi (h st2 g2 ?_)
   generalize hl:(Bg st2).toList=l at rn2
   have hll:l.length<=1:=by rw[<- hl,Am]; exact hs
   match l,rn2,hll with
   | [],rn2,_ =>
    have e:0=a₀.size:=rn2
    omega
   | [(s1,n1,p1)],rn2,_ =>
    obtain ⟨_,_,as,e⟩:=rn2
    have e':0+n1=a₀.size:=e
    rw[e'] at as
    exact as
end
end Ts
namespace Ts
open PySem PyProof.Rows L2
theorem aS:∀l:List Int,HT.lexLt l l=false
 | []=>rfl
 | x::r=>by rw[HT.lexLt_cons,if_pos rfl]; exact aS r
theorem bO:∀{a b c:List Int},HT.lexLt a b=true->HT.lexLt b c=true->HT.lexLt a c=true
 | [],[],_,h,_=>by rw[HT.lexLt_nil_nil] at h; cases h
 | [],_::_,[],_,h=>by rw[HT.lexLt_cons_nil] at h; cases h
 | [],_::_,_::_,_,_=>HT.lexLt_nil_cons _ _
 | _::_,[],_,h,_=>by rw[HT.lexLt_cons_nil] at h; cases h
 | _::_,_::_,[],_,h=>by rw[HT.lexLt_cons_nil] at h; cases h
 | x::a,y::b,z::c,h1,h2=>by
  rw[HT.lexLt_cons] at h1 h2 ⊢
  by_cases e1:x=y
  ·subst e1
   rw[if_pos rfl] at h1
   by_cases e2:x=z
   ·subst e2
    rw[if_pos rfl] at h2 ⊢
    exact bO h1 h2
   ·rw[if_neg e2] at h2 ⊢
    exact h2
  ·rw[if_neg e1] at h1
   have l1:x<y:=of_decide_eq_true h1
   by_cases e2:y=z
   ·subst e2
    rw[if_neg e1]
    exact h1
   ·rw[if_neg e2] at h2
    have l2:y<z:=of_decide_eq_true h2
    rw[if_neg (by omega)]
    exact decide_eq_true (by omega)
theorem jC:∀{a b:List Int},HT.lexLt a b=false->HT.lexLt b a=false->a=b
 | [],[],_,_=>rfl
 | [],_::_,h,_=>by rw[HT.lexLt_nil_cons] at h; cases h
 | _::_,[],_,h=>by rw[HT.lexLt_nil_cons] at h; cases h
 | x::a,y::b,h1,h2=>by
  rw[HT.lexLt_cons] at h1 h2
  by_cases e:x=y
  ·subst e
   rw[if_pos rfl] at h1 h2
   rw[jC h1 h2]
  ·rw[if_neg e] at h1
   rw[if_neg (Ln e)] at h2
   have l1:=of_decide_eq_false h1
   have l2:=of_decide_eq_false h2
   omega
theorem jV{a b c:List Int}(h:HT.lexLt a c=true):HT.lexLt a b=true\/HT.lexLt b c=true:=by
 cases h1:HT.lexLt a b with
 | true=>exact .inl rfl
 | false =>
  cases h2:HT.lexLt b a with
  | true=>exact .inr (bO h2 h)
  | false =>
   rw[<- jC h1 h2]
   exact .inr h
def IW(c:Addr->List Int)(x:Keyed):List Int:=match x.1 with
 | .ref a=>c a
 | _=>[]
def JY(c:Addr->List Int)(x y:Keyed):Bool:=HT.lexLt (IW c x) (IW c y)
def O1(c:Addr->List Int)(rs:List Addr)(h:Heap):Prop:=∀r∈rs,∃its:List Value,Ez its (c r)/\IsTup h r its.toArray
section
variable{prog:Bl}{w:World}{A:Ce}{E:Value->Ai->Prop}{s:Ai}{c:Addr->List Int}{rs:List Addr}
theorem uI(hH:O1 c rs s.heap)(hu:A.units<cLine){a b:Addr}(ha:a∈rs)(hb:b∈rs){Q:Bool->Ai->Prop}(h:Q (HT.lexLt (c a) (c b)) s):wpAny (model prog w) A (oneLt' true (.ref a) (.ref b)) Q E s:=by
 obtain ⟨i1,t1,⟨c1,d1,dt1,sl1⟩,g1,k1,n1,e1⟩:=hH a ha
 obtain ⟨i2,t2,⟨c2,d2,dt2,sl2⟩,g2,k2,n2,e2⟩:=hH b hb
 simp only at k1 e1 k2 e2
 subst k1 e1 k2 e2
 rw[oneLt'_eq]
 simp only[if_true]
 refine Aa (wpAny_cRoomFor hu (Aa (wpAny_callSpecialIfBound?_slot ⟨_,g1,rfl⟩ PySem.F.slot_tuple_lt ?_)))
 refine dO PySem.F.slot_tuple_lt ⟨_,g1,rfl⟩ PySem.F.entry_tuple_lt (PySem.F.args_tuple_lt_2 _ _) (HT.tuple_lt_ints a b _ _ n1 n2 d1 d2 sl1 sl2 (c a) (c b) (by simpa using t1) (by simpa using t2)) ⟨g1,g2,?_⟩
 exact Le h
theorem F9(hH:O1 c rs s.heap)(hu:A.units<cLine):Cmp prog w A s oneType' (λx=>∃r∈rs,x.1=.ref r) (JY c) where
 run:=λx y Q E ⟨r,hr,ex⟩ ⟨r',hr',ey⟩ h=>by
  w_pre b1
  rw[keyLt'_oneType]
  exact uI hH hu hr hr' h
 irr:=λx=>aS _
 tr:=λx y z h1 h2=>bO h1 h2
 neg:=λx y z h=>jV h
theorem Vv:∀{l:List Addr} {Q:List (Option Value)->Ai->Prop},(∀r∈l,∃its:List Value,Ez its (c r)/\IsTup s.heap r its.toArray)->(∀fs:List (Option Value),fs.length=l.length->(∀(i:Nat) (r:Addr),l[i]? = some r->∃f,fs[i]? = some f/\(f.isSome=true↔c r≠[]))->Q fs s)->wpAny (model prog w) A ((l.map Ay).mapM dF) Q E s
 | [],Q,_,h=>by
  rw[Py,List.mapM_nil]
  exact Ac (h [] rfl λi r e=>by simp at e)
 | r::l,Q,hH,h=>by
  w_pre g6
  have one:∀{R:Option Value->Ai->Prop},R its.toArray[0]? s->wpAny (model prog w) A (dF (.ref r)) R E s:=λ{R} hR=>by
   unfold dF
   refine Aa (Hv (T := "tuple") ⟨o,g,k⟩ ?_)
   rw[if_neg (by simp)]
   exact Aa (gG g e (Ac hR))
  refine Aa (one (Aa (Vv (λr' hr'=>hH r' (Ad _ hr')) λfs hl hf=>Ac (h _ (by rw[Bm,Bm,hl]) λi r' er=>?_))))
  cases i with
  | zero =>
   have e':r=r':=by simpa using er
   subst e'
   refine ⟨_,rfl,?_⟩
   have hlen:=ti.length
   cases its with
   | nil =>
    cases hc:c r with
    | nil=>simp
    | cons _ _=>rw[hc] at hlen; simp at hlen
   | cons a b =>
    cases hc:c r with
    | nil=>rw[hc] at hlen; simp at hlen
    | cons _ _=>simp
  | succ i =>
   obtain ⟨f,h1,h2⟩:=hf i r' (by simpa using er)
   exact ⟨f,by simpa using h1,h2⟩
theorem fJ:∀{l:List Addr} {Q:List Value->Ai->Prop},(∀r∈l,∃its:List Value,Ez its (c r)/\IsTup s.heap r its.toArray)->Q (l.map λ_=>Gd "tuple") s->wpAny (model prog w) A ((l.map Ay).mapM typeOf) Q E s
 | [],Q,_,h=>by
  rw[Py,List.mapM_nil]
  exact Ac h
 | r::l,Q,hH,h=>by
  w_pre g6
  exact Aa (Hv (T := "tuple") ⟨o,g,k⟩ (Aa (fJ (λr' hr'=>hH r' (Ad _ hr')) (Ac h))))
theorem q9{r:Addr}{l:List Addr}(hH:O1 c (r::l) s.heap)(h0:c r=[]){Q:Ms->Ai->Prop}(h:Q oneType' s):wpAny (model prog w) A (keyKind' ((r::l).map Ay).toArray) Q E s:=by
 rw[keyKind'_eq,aC]
 refine Aa ?_
 show wpAny (model prog w) A (List.toArray <$> ((r::l).map Ay).mapM dF) _ E s
 rw[map_eq_pure_bind]
 refine Aa (Vv hH λfs hl hf=>Ac ?_)
 obtain ⟨f,h1,h2⟩:=hf 0 r rfl
 have fn:f=none:=by
  cases f with
  | none=>rfl
  | some v=>exact absurd h0 (h2.mp rfl)
 subst fn
 have na:¬ (fs.toArray.all λx=>x.isSome)=true:=by
  intro z
  have:=Array.all_eq_true'.mp z none (by
   have:=Be h1
   simpa using this)
  simp at this
 have n0:¬ (fs.toArray[0]?.bind id).isSome=true:=by
  rw[List.getElem?_toArray,h1]
  simp
 rw[if_neg na,if_neg n0,oneTypeOnly'_eq,aC]
 refine Aa (Aa ?_)
 show wpAny (model prog w) A (List.toArray <$> ((r::l).map Ay).mapM typeOf) _ E s
 rw[map_eq_pure_bind]
 refine Aa (fJ hH (Ac ?_))
 have e0:((r::l).map λ_=>Gd "tuple").toArray[0]? = some (Gd "tuple"):=by simp
 have ea:(((r::l).map λ_=>Gd "tuple").toArray.all λx=>x == Gd "tuple")=true:=by
  simp only[List.all_toArray,List.all_map,List.all_eq_true]
  intro _ _
  rfl
 rw[e0]
 dsimp only
 rw[ea,if_pos rfl]
 exact Ac (Ac h)
end
theorem fG:∀{rs:List Addr} {us:List Value},Gf (rs.map V.ref) us->us=rs.map Ay
 | [],_,r=>by cases r; rfl
 | a::l,_,r=>by
  rw[Ao] at r
  cases r with
  | cons r1 r2 =>
   cases r1
   rw[fG r2]
   rfl
theorem fU:∀rs:List Addr,Gf (rs.map V.ref) (rs.map Ay)
 | []=>.nil
 | _::l=>.cons rfl (fU l)
section
variable{prog:Bl}{w:World}{A:Ce}{E:Value->Ai->Prop}{s:Ai}{c:Addr->List Int}{rs:List Addr}
theorem Zy{h:Heap}{vs:List Value}{out:Array Value}{b:Addr}{o:Obj}(e:h.get? b=some o):(aB h vs out).get? b=some o:=by
 have lt:=Au e
 w_pre p4
 have n1:b≠h.objs.size+1:=Bu (Fg lt)
 refine ((Bo _ _ _).2 b n1).trans (Ah _ (Ah _ (((Bo _ _ _).2 b n1).trans (Ah _ ?_))))
 exact ((Bo _ _ _).2 b (Bu lt)).trans (Ah _ e)
theorem eN{h:Heap}{vs:List Value}{out:Array Value}:∃n,(aB h vs out).get? (h.objs.size+1)=some (Ej "list" out n):=by
 w_pre p4
 have g1:(((h.push (Ej "list" #[] 0)).update h.objs.size (Eg (·++vs.toArray))).push (Ej "list" vs.toArray 0)).get? (h.objs.size+1)=some (Ej "list" vs.toArray 0):=by
  rw[<- z1]
  exact Ap _ rfl
 have g2:=Mx g1 (λ_=>#[])
 have g3:=Ah (Ej "list" #[] 0) (Ah (Ej "tuple" vs.toArray 0) g2)
 exact ⟨_,Mx g3 (λ_=>out)⟩
end
def FF{κ:Type}(c:Addr->κ)(d0:κ)(x:Keyed):κ:=match x.1 with
 | .ref a=>c a
 | _=>d0
def IV{κ:Type}(c:Addr->κ)(d0:κ)(lt_:κ->κ->Bool)(x y:Keyed):Bool:=lt_ (FF c d0 x) (FF c d0 y)
def pH{κ:Type}(prog:Bl)(w:World)(A:Ce)(s:Ai)(rs:List Addr)(c:Addr->κ)(d0:κ)(lt_:κ->κ->Bool):Prop :=
 ∃kd,(∀(R:Ms->Ai->Prop) (E:Value->Ai->Prop),R kd s->wpAny (model prog w) A (keyKind' (rs.map Ay).toArray) R E s)/\Cmp prog w A s kd (λx=>∃r∈rs,x.1=.ref r) (IV c d0 lt_)
section
variable{prog:Bl}{w:World}{A:Ce}{E:Value->Ai->Prop}{s:Ai}{κ:Type}{c:Addr->κ}{d0:κ}{lt_:κ->κ->Bool}{rs:List Addr}
theorem pY{a:Addr}{n:Nat}{P:Fin->Ai->Prop}(hl:s.heap.get? a=some (Ej "list" (rs.map Ay).toArray n))(hC:∀h':Heap,(∀b o,b≠a->s.heap.get? b=some o->h'.get? b=some o)->2<=rs.length->pH prog w A { s with heap:=h' } rs c d0 lt_)(hz:rs.length<=Aq)(h:∀rs':List Addr,rs'.Perm rs->rs'.Pairwise (λx y=>lt_ (c y) (c x)=false)->P (.done (.ret .none)) { s with heap:=sortedHeap s.heap a (rs.map Ay) (rs'.map Ay).toArray }):wpAny (model prog w) A (Builtin.«list.sort» ⟨[.ref a],[]⟩) P E s:=by
 have lt:=Au hl
 have hsz:(rs.map Ay).toArray.size=rs.length:=by simp
 rw[list_sort_plain]
 refine Aa (gG hl rfl (Aa (dD hl rfl ?_ (by rw[hsz]; exact hz))))
 obtain ⟨ep,hl1⟩ : ∃ep,(s.heap.update a (Eg λ_=>#[])).get? a=some (Ej "list" #[] ep):=⟨_,Mx hl (λ_=>#[])⟩
 refine Aa (seqEpoch_at hl1 rfl (Aa (wpAny_newTuple (Aa (Uv (Ck ?_)) ))))
 have hl2:(((s.heap.update a (Eg λ_=>#[])).push (Ej "tuple" (rs.map Ay).toArray 0)).push (Ej "list" #[] 0)).get? a=some (Ej "list" #[] ep):=by
  rw[Heap.get?_push_ne _ _ _ (by rw[dM,Lg]; exact Bu (Fg lt)),
   Heap.get?_push_ne _ _ _ (by rw[Lg]; exact Bu lt)]
  exact hl1
 have kept:∀b o,b≠a->s.heap.get? b=some o->(((s.heap.update a (Eg λ_=>#[])).push (Ej "tuple" (rs.map Ay).toArray 0)).push (Ej "list" #[] 0)).get? b=some o:=λb o hb e=>by
  refine Ah _ (Ah _ ?_)
  exact ((Bo s.heap a _).2 b hb).trans e
 show wpAny (model prog w) A _ P E { s with heap:=((s.heap.update a (Eg λ_=>#[])).push (Ej "tuple" (rs.map Ay).toArray 0)).push (Ej "list" #[] 0) }
 dsimp only
 -- what is left qR the runs
 have fin:∀(out:Array Value) (rs':List Addr),out=(rs'.map Ay).toArray->rs'.Perm rs->rs'.Pairwise (λx y=>lt_ (c y) (c x)=false) ->
   P (.done (.ret .none)) { s with heap:=sortedHeap s.heap a (rs.map Ay) out }:=λout rs' e p1 p2=>by rw[e]; exact h rs' p1 p2
 by_cases h2:(rs.map Ay).toArray.size<2
 ·rw[if_pos h2,if_pos h2]
  refine Aa (Ac ?_)
  rw[StateT.run_pure]
  refine Aa (Ac (Aa (seqEpoch_at hl2 rfl (Aa (dD hl2 rfl ?_ (by simp) ?_)))))
  ·simp only[bne_self_eq_false,Bw,if_false]
   refine Ac (fin _ rs ?_ (Hk _) ?_)
   ·show Array.map (λx=>x.2) ((rs.map Ay).toArray.zip (rs.map Ay).toArray)=_
    apply Array.ext'
    simp [List.map_snd_zip]
   ·rw[hsz] at h2
    match rs,h2 with
    | [],_=>exact Ea
    | [_],_=>exact Ey _ _
    | _::_::_,h2=>simp only[Bm] at h2; omega
  ·show (Array.map (λx:Keyed=>x.2) ((rs.map Ay).toArray.zip (rs.map Ay).toArray)).size<=Aq+1
   rw[Vm,Array.size_zip,hsz]
   omega
 ·rw[if_neg h2,if_neg h2]
  rw[hsz] at h2
  obtain ⟨kd,hk,C⟩:=hC (((s.heap.update a (Eg λ_=>#[])).push (Ej "tuple" (rs.map Ay).toArray 0)).push (Ej "list" #[] 0)) kept (by omega)
  refine Aa (hk _ _ ?_)
  have a0:(pairsOf (rs.map Ay)).size=rs.length:=by rw[pairsOf_size,Af]
  refine Aa (Cq (uJ C (a₀:=pairsOf (rs.map Ay)) (st:=SortSt.mk' kd ((rs.map Ay).toArray.zip (rs.map Ay).toArray) #[] 7 none) (E:=E)
   (Q:=λ_ st'=>Good0 kd (pairsOf (rs.map Ay)) st'/\To (IV c d0 lt_) (arrOf st') 0 (pairsOf (rs.map Ay)).size)
   ⟨rfl,rfl,Array.Perm.refl _⟩ (λx hx=>?_) rfl (by rw[a0]; omega) λst' g as=>⟨g,as⟩) ?_ λ_ _ z=>z)
  ·rw[pairsOf_toList] at hx
   obtain ⟨_,hm⟩:=mem_zip_self hx
   obtain ⟨r,hr,e⟩:=Df.mp hm
   exact ⟨r,hr,e.symm⟩
  ·rintro ⟨⟨⟩,st'⟩ s' ⟨rfl,g,as⟩
   dsimp only
   -- the things of the new order
   have pl:(arrOf st').toList.Perm ((rs.map Ay).zip (rs.map Ay)):=by rw[<- pairsOf_toList]; exact Qn.mp g.perm
   have each:∀x∈(arrOf st').toList,∃r∈rs,x=(Ay r,Ay r):=λx hx=>by
    obtain ⟨e,hm⟩:=mem_zip_self (pl.mem_iff.mp hx)
    obtain ⟨r,hr,e2⟩:=Df.mp hm
    refine ⟨r,hr,?_⟩
    obtain ⟨x1,x2⟩:=x
    simp only at e e2
    rw[<- e,e2]
   have ex:∀l:List Keyed,(∀x∈l,∃r∈rs,x=(Ay r,Ay r))->∃rs':List Addr,l=rs'.map λr=>(Ay r,Ay r):=by
    intro l
    induction l with
    | nil=>intro _; exact ⟨[],rfl⟩
    | cons x l ih =>
     intro hx
     obtain ⟨r,_,e⟩:=hx x Ab
     obtain ⟨rs',e'⟩:=ih λy hy=>hx y (Ad _ hy)
     exact ⟨r::rs',by rw[Ao,e,e']⟩
   obtain ⟨rs',ers⟩:=ex _ each
   have zz:(rs.map Ay).zip (rs.map Ay)=rs.map λr=>(Ay r,Ay r):=by
    rw[List.zip_map',]
   rw[ers,zz] at pl
   have inj:∀x:Keyed,∃a:Addr,True:=λ_=>⟨0,trivial⟩
   have pr:rs'.Perm rs:=by
    have:=pl.map (λx:Keyed=>match x.1 with | .ref a=>a | _=>0)
    rw[Dn,Dn] at this
    simpa [Function.comp_def] using this
   have so:rs'.Pairwise (λx y=>lt_ (c y) (c x)=false):=by
    rw[Lh]
    intro i j hi hj hij
    have ls:(arrOf st').size=rs'.length:=by
     have:=congrArg Ft ers
     rw[Am,Af] at this
     exact this
    have xe:∀k (hk:k<rs'.length),X (arrOf st') k=(Ay rs'[k],Ay rs'[k]):=λk hk=>by
     have e1:=Em (Zt (xs:=arrOf st') (i:=k) (by omega))
     rw[ers,Bj,Bx hk] at e1
     exact (Bv e1).symm
    have:=as i j (Di _) (by omega) (by rw[a0,<- pr.length_eq]; exact hj)
    rw[xe i hi,xe j hj] at this
    exact this
   refine Aa (seqEpoch_at hl2 rfl (Aa (dD hl2 rfl ?_ (by simp) ?_)))
   ·have fl:Mq st'=none:=g.fail
    rw[fl]
    simp only[bne_self_eq_false,Bw,if_false]
    refine Ac (fin _ rs' ?_ pr so)
    apply Array.ext'
    rw[Array.toList_map,ers,Dn]
    rfl
   ·show (Array.map (λx:Keyed=>x.2) (arrOf st')).size<=Aq+1
    rw[Vm,g.size,a0]
    omega
theorem jQ{l:Addr}{Q:Value->Ai->Prop}(hl:s.heap.IsList l (rs.map Ay).toArray)(hC:∀(A':Ce) (h':Heap),A'.units<=A.units+2->A'.handled=A.handled->(∀b o,s.heap.get? b=some o->h'.get? b=some o)->2<=rs.length->pH prog w A' { s with heap:=h' } rs c d0 lt_)(hz:rs.length<=Aq)(h:∀rs':List Addr,rs'.Perm rs->rs'.Pairwise (λx y=>lt_ (c y) (c x)=false)->Q (.ref (s.heap.objs.size+1)) { s with heap:=aB s.heap (rs.map Ay) (rs'.map Ay).toArray }):wpAny (model prog w) A (call (.builtin "sorted") [.ref l]) Q E s:=by
 refine Qx (by exact kind_sorted) plain_sorted entry_sorted (args_sorted1 _) ?_
 unfold Xw
 refine Aa (m:=checkCount "sorted" 1 1 _) (Ac (Aa (collect_list hl (Aa (Uv ?_)) (by rw[Af]; exact hz))))
 have z1:((s.heap.push (Ej "list" #[] 0)).update s.heap.objs.size (Eg (·++(rs.map Ay).toArray))).objs.size=s.heap.objs.size+1:=by rw[Lg,dM]
 have g1:(((s.heap.push (Ej "list" #[] 0)).update s.heap.objs.size (Eg (·++(rs.map Ay).toArray))).push (Ej "list" (rs.map Ay).toArray 0)).get? (s.heap.objs.size+1)=some (Ej "list" (rs.map Ay).toArray 0):=by
  rw[<- z1]
  exact Ap _ rfl
 have kept:∀b o,s.heap.get? b=some o->(((s.heap.push (Ej "list" #[] 0)).update s.heap.objs.size (Eg (·++(rs.map Ay).toArray))).push (Ej "list" (rs.map Ay).toArray 0)).get? b=some o:=λb o e=>by
  refine Ah _ (((Bo _ _ _).2 b (Bu (Au e))).trans (Ah _ e))
 show wpAny _ _ _ _ _ { s with heap:=((s.heap.push (Ej "list" #[] 0)).update s.heap.objs.size (Eg (·++(rs.map Ay).toArray))).push (Ej "list" (rs.map Ay).toArray 0) }
 rw[z1]
 refine Aa (Ck (Cn slot_list_sort ⟨_,g1,rfl⟩ entry_list_sort (pY g1 (λh' hk h2=>hC _ h' ?_ ?_ (λb o e=>hk b o (Bu (Fg (Au e))) (kept b o e)) h2) hz λrs' p1 p2=>⟨_,rfl,?_⟩) (args_list_sort _)))
 ·first | exact Aj _ | (show A.units+1<=A.units+2; omega) | (show A.units<=A.units+2; omega)
 ·rfl
 ·exact Ac ⟨_,rfl,h rs' p1 p2⟩
end
section
variable{prog:Bl}{w:World}{A:Ce}{E:Value->Ai->Prop}{s:Ai}{c:Addr->List Int}{rs:List Addr}
theorem L7{b:Bool}{x y:Int}{t u:Tok}{Q:Bool->Ai->Prop}(h:Q (decide (x<y)) s):wpAny (model prog w) A (oneLt' b (.int x t) (.int y u)) Q E s:=by
 cases b with
 | true=>exact oneLt_int h
 | false=>exact PySem.W.kat_one _ _ (lt_int h)
theorem mC{b:Bool}{Q:Bool->Ai->Prop}:∀{xs ys:List Value} {ns ms:List Int} (i:Nat),Ez xs ns->Ez ys ms->Q (HT.lexLt ns ms) s->PySem.W.KatLex prog w A b (decide (xs.length<ys.length)) Q (xs.zip ys) i s
 | _,_,_,_,i,.nil,.nil,h=>h
 | _,_,_,_,i,.nil,.cons m u k,h=>h
 | _,_,_,_,i,.cons n t k,.nil,h=>h
 | _,_,_,_,i,.cons (vs:=xs) n t k,.cons (vs:=ys) m u k2,h=>by
  rw[Mh]
  refine PySem.W.kat_cons (wpAny_eqBool_int ?_)
  rw[HT.lexLt_cons] at h
  cases hnm:(n == m) with
  | true =>
   have e:n=m:=by simpa using hnm
   rw[if_pos e] at h
   refine PySem.W.kat_yes ?_
   have : decide ((Lb n t::xs).length<(Lb m u::ys).length)=decide (xs.length<ys.length):=by simp
   rw[this]
   exact mC (i+1) k k2 h
  | false =>
   have e:¬ n=m:=by simpa using hnm
   rw[if_neg e] at h
   exact PySem.W.kat_no (L7 h)
theorem bU:∀{l:List Addr},(∀r∈l,∃its:List Value,Ez its (c r)/\IsTup s.heap r its.toArray)->(∀r∈l,c r≠[])->∃fs:List Value,PySem.W.KatTups s.heap (l.map Ay) fs/\fs.length=l.length/\∀v∈fs,∃i t,v=.int i t
 | [],_,_=>⟨[],.nil,rfl,λ_ h=>(nomatch h)⟩
 | r::l,hH,hn=>by
  obtain ⟨fs,h1,h2,h3⟩:=bU (λr' hr'=>hH r' (Ad _ hr')) (λr' hr'=>hn r' (Ad _ hr'))
  obtain ⟨its,ti,o,g,k,n,e⟩:=hH r Ab
  have hne:=hn r Ab
  match its,ti with
  | [],ti=>cases hc:c r with
   | nil=>exact absurd hc hne
   | cons _ _=>rw[hc] at ti; cases ti
  | v::its,ti =>
   have : ∃i t,v=.int i t:=by
    revert ti
    generalize c r=cr
    intro ti
    cases ti with
    | cons m t k=>exact ⟨_,_,rfl⟩
   refine ⟨v::fs,PySem.W.KatTups.cons g k e (by simp) h1,by rw[Bm,Bm,h2],λx hx=>?_⟩
   rcases An.mp hx with rfl | hx
   ·exact this
   ·exact h3 x hx
theorem mN(hH:O1 c rs s.heap)(hu:A.units<cLine)(h2:2<=rs.length):pH prog w A s rs c [] HT.lexLt:=by
 obtain ⟨r,l,rfl⟩ : ∃r l,rs=r::l:=by
  cases rs with
  | nil=>simp at h2
  | cons r l=>exact ⟨r,l,rfl⟩
 by_cases h0:c r=[]
 ·exact ⟨oneType',λR E h=>q9 hH h0 h,F9 hH hu⟩
 by_cases hall:∀r'∈r::l,c r'≠[]
 ·obtain ⟨fs,f1,f2,f3⟩:=bU hH hall
  refine ⟨tuples' true,λR E h=>?_,?_⟩
  ·refine PySem.W.kat_kind (T:=.type "int") f1 (by rw[f2]; simp) (λv hv=>?_) (by decide) h
   obtain ⟨i,t,rfl⟩:=f3 v hv
   exact .now
  ·refine ⟨λx y Q E ⟨r1,hr1,ex⟩ ⟨r2,hr2,ey⟩ h=>?_,λx=>aS _,λx y z=>bO,λx y z=>jV⟩
   w_pre b1
   obtain ⟨i1,t1,o1,g1,k1,n1,e1⟩:=hH r1 hr1
   obtain ⟨i2,t2,o2,g2,k2,n2,e2⟩:=hH r2 hr2
   refine PySem.W.kat_lt g1 e1 g2 e2 ?_
   have e:(decide (i1.toArray.size<i2.toArray.size))=decide (i1.length<i2.length):=by simp
   rw[e]
   exact mC 0 t1 t2 h
 ·refine ⟨general',λR E h=>?_,?_⟩
  ·rw[kat_kind_eq,aC,map_eq_pure_bind]
   refine Aa (Aa (Vv hH λfs hl hf=>Ac ?_))
   have na:¬ (fs.toArray.all λx=>x.isSome)=true:=by
    intro z
    refine hall λr' hr'=>?_
    obtain ⟨i,hi⟩:=List.getElem?_of_mem hr'
    obtain ⟨f,q1,q2⟩:=hf i r' hi
    refine q2.mp ?_
    exact Array.all_eq_true'.mp z f (by have:=Be q1; simpa using this)
   obtain ⟨f,q1,q2⟩:=hf 0 r rfl
   have n0:(fs.toArray[0]?.bind id).isSome=true:=by
    rw[List.getElem?_toArray,q1]
    simpa using q2.mpr h0
   rw[if_neg na,if_pos n0]
   exact Ac h
  ·refine ⟨λx y Q E ⟨r1,hr1,ex⟩ ⟨r2,hr2,ey⟩ h=>?_,λx=>aS _,λx y z=>bO,λx y z=>jV⟩
   w_pre b1
   obtain ⟨i1,t1,p1⟩:=hH r1 hr1
   obtain ⟨i2,t2,p2⟩:=hH r2 hr2
   show wpAny (model prog w) A (oneLt' false (.ref r1) (.ref r2)) Q E s
   exact PySem.W.kat_one _ _ (HT.lt_tupInts p1 p2 (show Ez i1.toArray.toList (c r1) by simpa using t1) (show Ez i2.toArray.toList (c r2) by simpa using t2) hu h)
end
section
variable{X:Cx}
def rSortI(K:PySem.W.Frag):List V->Hp->VK->Prop:=λxs H Q=>∃(a:Addr) (rs:List Addr) (c:Addr->List Int),xs=[.ref a]/\Pe K H a (rs.map V.ref)/\(∀r∈rs,Ta K H r ((c r).map V.int)) /\
  ∀(p:Addr) (rs':List Addr),H p=none->rs'.Perm rs->rs'.Pairwise (λx y=>HT.lexLt (c y) (c x)=false)->Q (.ref p) (upd H p (.lst (rs'.map V.ref)))
theorem call_sortedI(hu:X.A.units+64<cLine):Mc X (.builtin "sorted") (rSortI X.K):=by
 w_pre x6
 obtain ⟨a,rs,c,rfl,hl,hc,q⟩:=h
 w_pre n4
 obtain ⟨its,rv,pl,hz⟩:=I.list hl
 have e:=fG rv
 subst e
 rw[Af] at hz
 refine jQ (c:=c) (d0:=[]) (lt_:=HT.lexLt) pl.isList (λA' h' hA _ hk h2=>mN (λr hr=>?_) (by omega) h2) hz λrs' p1 p2=>?_
 ·obtain ⟨ti,t1,⟨o,g,k⟩,_⟩:=I.tuple (hc r hr)
  exact ⟨ti,intsAre_of t1,o,hk _ _ g,k⟩
 ·obtain ⟨n,hn⟩:=eN (h:=s.heap) (vs:=rs.map Ay) (out:=(rs'.map Ay).toArray)
  refine ⟨.ref (s.heap.objs.size+1),upd H (s.heap.objs.size+1) (.lst (rs'.map V.ref)),I.laid (t':=s.toks) (λb o e=>Zy e) (Ox _) ⟨?_,_,n,fU rs',hn⟩,rfl,q _ rs' (I.hok.fresh (Ox _)) p1 p2⟩
  rw[Af,p1.length_eq]
  exact hz
end
end Ts
namespace DL
open PySem L2 Nd
def Pu{α:Type}(xs:List α)(lo hi:Option Int):List α:=(xs.drop (HT.sIx xs.length 0 lo)).take (HT.sIx xs.length xs.length hi - HT.sIx xs.length 0 lo)
theorem kW{α β:Type}(f:α->β)(xs:List α)(lo hi:Option Int):Pu (xs.map f) lo hi=(Pu xs lo hi).map f:=by
 unfold Pu
 rw[Af,List.map_take,List.map_drop]
theorem cO{α:Type}(xs:List α)(lo hi:Option Int):(Pu xs lo hi).Sublist xs:=(Ip _ _).trans (Iv _ _)
theorem vN{α:Type}(xs:List α)(k:Nat):Pu xs none (some (k:Int))=xs.take k:=by
 unfold Pu
 rw[HT.sIx_none,HT.sIx_nat,Wb,Nat.sub_zero]
 by_cases h:k<=xs.length
 ·rw[Nat.min_eq_left h]
 ·rw[Nat.min_eq_right (by omega),Ff,Jt (by omega)]
section
variable{K:PySem.W.Frag}{H:Hp}
theorem RdFs.drop:∀(n:Nat) {xs:List V} {ds:List Ae} {F:List Addr},RdFs K H xs ds F->∃G,RdFs K H (xs.drop n) (ds.drop n) G/\G.Sublist F
 | 0,_,_,F,h=>⟨F,h,Ci _⟩
 | n+1,_,_,_,.nil=>⟨[],.nil,Ci _⟩
 | n+1,_,_,_,.cons _ t=>by
  obtain ⟨G,h1,h2⟩:=RdFs.drop n t
  exact ⟨G,h1,h2.trans (Bk _ _)⟩
theorem RdFs.take:∀(n:Nat) {xs:List V} {ds:List Ae} {F:List Addr},RdFs K H xs ds F->∃G,RdFs K H (xs.take n) (ds.take n) G/\G.Sublist F
 | 0,_,_,F,h=>⟨[],.nil,List.nil_sublist _⟩
 | n+1,_,_,_,.nil=>⟨[],.nil,Ci _⟩
 | n+1,_,_,_,.cons a t=>by
  obtain ⟨G,h1,h2⟩:=RdFs.take n t
  exact ⟨_,.cons a h1,(Ci _).append h2⟩
theorem RdFs.cut{xs:List V}{ds:List Ae}{F:List Addr}(h:RdFs K H xs ds F)(lo hi:Option Int):∃G,RdFs K H (bE xs lo hi) (Pu ds lo hi) G/\G.Sublist F:=by
 unfold bE Pu
 rw[h.len]
 obtain ⟨G,h1,h2⟩:=h.drop (HT.sIx ds.length 0 lo)
 obtain ⟨G',h3,h4⟩:=h1.take (HT.sIx ds.length ds.length hi - HT.sIx ds.length 0 lo)
 exact ⟨G',h3,h4.trans h2⟩
theorem RdFs.rep{xs:List V}{ds:List Ae}(h:RdFs K H xs ds []):∀k:Nat,RdFs K H (Bz k xs).flatten (Bz k ds).flatten []
 | 0=>.nil
 | k+1=>by
  rw[Gi,Gi,Ir,Ir]
  exact h.app (RdFs.rep h k)
theorem RdFs.ints:∀ns:List Int,RdFs K H (ns.map V.int) (ns.map Ax) []
 | []=>.nil
 | n::ns=>RdFs.cons (F:=[]) (.int n) (RdFs.ints ns)
theorem RdFs.ints_inv:∀{ns:List Int} {xs:List V} {F:List Addr},RdFs K H xs (ns.map Ax) F->xs=ns.map V.int/\F=[]
 | [],_,_,h=>by cases h; exact ⟨rfl,rfl⟩
 | n::ns,_,_,h=>by
  rw[Ao] at h
  cases h with
  | cons a t =>
   obtain ⟨rfl,rfl⟩:=a.int_inv
   obtain ⟨rfl,rfl⟩:=RdFs.ints_inv t
   exact ⟨rfl,rfl⟩
end
theorem bA{a b:List Ae}:Ee (a++b)=(Ee a && Ee b):=by
 induction a with
 | nil=>simp [Ee]
 | cons x a ih=>simp [Ee,ih,Bool.and_assoc]
theorem Nf(ns:List Int):Ee (ns.map Ax)=true:=Vw (λ_=>by simp [imm]) ns
def tE:D2:=λx y P=>match x,y with
 | .dat _ (.list ds),.dat _ (.list es)=>Ee ds=true/\Ee es=true/\ds.length+es.length<=1000000/\P (.dat .ow (.list (ds++es)))
 | _,_=>False
def jT:D2:=λx y P=>match x,y with
 | .dat _ (.tuple ds),.dat _ (.tuple es)=>Ee ds=true/\Ee es=true/\ds.length+es.length<=1000000/\P (.dat .ow (.tuple (ds++es)))
 | _,_=>False
def tO:D2:=λx y P=>match x,y with
 | .dat _ (.list ds),.dat _ (.int k)=>Ee ds=true /\ -1000000<=k/\k<=1000000/\ds.length * k.toNat<=1000000/\P (.dat .ow (.list (Bz k.toNat ds).flatten))
 | _,_=>False
section
variable{K:PySem.W.Frag}
theorem CK:oY K EC tE:=by
 w_pre y6
 unfold tE at hd
 w_pre z6
 ·obtain ⟨i1,i2,hz,p⟩:=hd
  obtain ⟨b,ys,G1,rfl,hb,rb,_,_⟩:=(hA.told mem_mid).list_inv
  w_pre q5
  have l2:=rb.len
  refine ⟨a,b,xs,ys,rfl,rfl,ha,hb,kD (by omega),λq hq=>?_⟩
  exact k _ _ _ _ (hA.drop2.newI (ra.app rb) (by rw[bA,i1,i2]; rfl) (by rw[Bf]; exact kD (by omega)) hq .ow) p
 w_pre b7
theorem W6:oY K EM tO:=by
 w_pre y6
 unfold tO at hd
 w_pre z6
 ·obtain ⟨i1,k0,k1,hz,p⟩:=hd
  w_pre e7
  w_pre q5
  obtain rfl:=ra.imm i1
  rename_i j
  refine ⟨a,_,xs,rfl,rfl,ha,by omega,by omega,kD (by rw[l1]; exact hz),λq hq=>?_⟩
  refine k _ _ _ _ (hA.drop2.newI (ra.rep _) ?_ (by rw[sS,Nat.mul_comm]; exact kD hz) hq .ow) p
  refine rE.mpr λz hz'=>?_
  obtain ⟨l,hl,hz'⟩:=List.mem_flatten.mp hz'
  rw[(Hu.mp hl).2] at hz'
  exact rE.mp i1 z hz'
 w_pre b7
theorem P8:oY K (V8 K) jT:=by
 w_pre y6
 unfold jT at hd
 w_pre z6
 ·obtain ⟨i1,i2,hz,p⟩:=hd
  obtain ⟨b,ys,rfl,hb,rb,zb⟩:=(hA.told mem_mid).tup_inv
  obtain ⟨a,xs,rfl,ha,ra,za⟩:=(hA.told Fd).tup_inv
  have l1:=ra.len
  have l2:=rb.len
  obtain rfl:=ra.imm i1
  obtain rfl:=rb.imm i2
  refine ⟨a,b,xs,ys,rfl,rfl,Ta.of ha,Ta.of hb,kD (by omega),λe=>?_,λe=>?_,λq hq=>?_⟩
  ·subst e
   obtain rfl:=Mk.mp (l1.symm.trans rfl)
   exact k _ _ [] _ (hA.drop2.pushI (.tup hb zb rb)) p
  ·subst e
   obtain rfl:=Mk.mp (l2.symm.trans rfl)
   rw[Ec] at p
   exact k _ _ [] _ (hA.drop2.pushI (.tup ha za ra)) p
  ·have s1:=Fe hq (.tup (xs++ys))
   exact k _ _ [] _ ((hA.drop2.grow s1 (Aj _)).pushI (.tup Ds (by rw[Bf]; exact kD (by omega)) ((ra.app rb).kp (Kp.of s1)))) p
 w_pre b7
end
section
variable{X:Cx}{a b:Expr}{da db:DE}{pos:Pos}
theorem bY(ha:Fm X a da)(hb:Fm X b db):Fm X (.BinOp a .Add b pos) (aK tE da db):=Zg AQ CK ha hb
theorem aQ(ha:Fm X a da)(hb:Fm X b db):Fm X (.BinOp a .Add b pos) (aK jT da db):=Zg L3 P8 ha hb
theorem BN(ha:Fm X a da)(hb:Fm X b db):Fm X (.BinOp a .Mult b pos) (aK tO da db):=Zg X4 W6 ha hb
end
abbrev DO:=DS->(Option Int->DS->Prop)->Prop
def LO(K:PySem.W.Frag)(do_:DO):TO:=λσ H Q=>∃(H0:Hp) (X:Addr->Prop) (S T:List Ent) (δ:DS) (P:Option Int->DS->Prop),vs S=σ/\Sl S δ/\At K H0 X δ.n (S++T) H/\do_ δ P /\
 ∀o δ' S' H',vs S'=σ->Sl S' δ'->At K H0 X δ'.n (S'++T) H'->P o δ'->Q o H'
abbrev CL(X:Cx)(e:Option Expr)(d:DO):Prop:=PO X e (LO X.K d)
theorem PO.imp{X:Cx}{e:Option Expr}{t t':TO}(h:PO X e t)(k:∀σ H Q,t' σ H Q->t σ H Q):PO X e t':=λpins s σ H Q I q=>h pins s σ H Q I (k σ H Q q)
def tK:DO:=λδ P=>P none δ
def V3(de:DE):DO:=λδ P=>de δ λx δ'=>match x with
 | .dat _ (.int i)=>P (some i) δ'
 | _=>False
section
variable{X:Cx}{e:Expr}{de:DE}{lo hi:Option Expr}{dl dh:DO}{pos p2:Pos}
theorem nE:CL X none tK:=by
 refine PO.imp K2 λσ H Q h=>?_
 w_pre g7
 exact k _ δ S H rfl hS hA hd
theorem lC(h:Fm X e de):CL X (some e) (V3 de):=by
 refine PO.imp (P0 h) λσ H Q h=>?_
 w_pre g4
 split at p
 ·obtain ⟨rfl,_⟩:=(hA'.told mem_mid).int_inv
  exact ⟨_,rfl,k _ δ' S' H' e1 e2 hA'.drop p⟩
 ·exact p.elim
def IT(i:Bool)(de:DE)(dl dh:DO):DE:=λδ P=>de δ λx δ1=>dl δ1 λl δ2=>dh δ2 λh δ3=>match x with
 | .dat m (.list ds)=>Zj i m (Pu ds l h) λz=>P z δ3
 | .dat m (.tuple ds)=>jA i m (Pu ds l h) λz=>P z δ3
 | _=>False
def IA(K:PySem.W.Frag):V->Option Int->Option Int->Hp->VK->Prop:=λx lo hi H Q=>BW K x lo hi H Q\/S6 x lo hi H Q
theorem j4{i:Bool}(he:Fm X e de)(hl:CL X lo dl)(hh:CL X hi dh):Fm X (.Subscript e (.Slice lo hi none p2) pos) (IT i de dl dh):=by
 refine PE.imp (oN (r:=IA X.K) (I0.or E2) he hl hh) λσ H Q h=>?_
 w_pre w4
 refine ⟨H0,Y,S1,⟨some v,x,F⟩::T,δ1,_,e1,e2,hA1,p1,λl δ2 S2 H2 e3 e4 hA2 p2=>?_⟩
 refine ⟨H0,Y,S2,⟨some v,x,F⟩::T,δ2,_,e3,e4,hA2,p2,λh δ3 S3 H3 e5 e6 hA3 p3=>?_⟩
 split at p3
 ·obtain ⟨a,xs,G,rfl,ha,ra,rfl,hz⟩:=(hA3.told mem_mid).list_inv
  refine .inl ⟨a,xs,rfl,Pe.of ha,λp hp=>?_⟩
  obtain ⟨G',h1,h2⟩:=ra.cut l h
  obtain ⟨z,F',hA4,p4⟩:=hA3.newL h1 (h2.trans (Cy _ _)) (Cg (cO _ _ _).length_le hz) hp p3
  exact k z δ3 _ F' S3 _ e5 e6 hA4 p4
 ·obtain ⟨a,xs,rfl,ha,ra,hz⟩:=(hA3.told mem_mid).tup_inv
  refine .inr ⟨a,xs,rfl,ha,λp H' hp s1=>?_⟩
  obtain ⟨G',h1,h2⟩:=ra.cut l h
  obtain ⟨z,F',hA4,p4⟩:=(hA3.grow s1 (Aj _)).oldT (h1.kp (Kp.of s1)) h2 (Cg (cO _ _ _).length_le hz) hp p3
  exact k z δ3 _ F' S3 _ e5 e6 hA4 p4
 ·exact p3.elim
end
end DL
namespace NdS
open PySem PyProof.Rows
end NdS
namespace Nd
open PySem PySem.Spec PyProof.Rows L2 NdS
def U9(w:World)(K:PySem.W.Frag):List V->Hp->VK->Prop:=λxs H Q=>∃(a:Addr) (ns U:List Int),xs=[.ref a]/\Pe K H a (ns.map V.int)/\U.length<=62/\Among U ns/\∀p,H p=none->Q (.ref p) (upd H p (Wo w p ns))
end Nd
namespace DL
open PySem L2 Nd
def oB(x:Int):List Int->List Int
 | []=>[x]
 | y::l=>if x<y then x::y::l else if x=y then y::l else y::oB x l
def On(ns:List Int):List Int:=ns.foldr oB []
theorem kJ{x z:Int}:∀{l:List Int},z∈oB x l↔z=x\/z∈l
 | []=>by simp [oB]
 | y::l=>by
  unfold oB
  split
  ·simp
  ·split
   ·rename_i h1 h2
    subst h2
    simp
   ·simp only[An,kJ (l:=l)]
    constructor
    ·rintro (h | h | h) <;> simp [h]
    ·rintro (h | h | h) <;> simp [h]
theorem fH{x:Int}:∀{l:List Int},l.Pairwise (· < ·)->(oB x l).Pairwise (· < ·)
 | [],_=>Ey _ _
 | y::l,h=>by
  obtain ⟨h1,h2⟩:=Bb.mp h
  unfold oB
  split
  ·rename_i hx
   w_pre k3
   ·exact Int.lt_trans hx (h1 z hz)
  ·split
   ·exact h
   ·refine Bb.mpr ⟨λz hz=>?_,fH h2⟩
    rcases kJ.mp hz with rfl | hz
    ·omega
    ·exact h1 z hz
theorem Ri:∀ns:List Int,(On ns).Pairwise (· < ·)
 | []=>Ea
 | n::ns=>fH (Ri ns)
theorem bW{x:Int}:∀{ns:List Int},x∈On ns↔x∈ns
 | []=>Iff.rfl
 | n::ns=>by
  rw[show On (n::ns)=oB n (On ns) from rfl,kJ,bW (ns:=ns),An]
theorem iO{l ns:List Int}(h:l.Pairwise (· < ·))(m:∀x,x∈l↔x∈ns):l=On ns:=eT h (Ri ns) λx=>(m x).trans bW.symm
theorem E8{l:List Int}(h:l.Pairwise (· < ·)):On l=l:=(iO h λ_=>Iff.rfl).symm
theorem cD:∀{l m:List Int},l.Perm m->l.Pairwise (·<=·)->m.Pairwise (·<=·)->l=m
 | [],m,p,_,_=>(List.nil_perm.mp p).symm
 | a::l,[],p,_,_=>(List.perm_nil.mp p)
 | a::l,b::m,p,h1,h2=>by
  obtain ⟨q1,r1⟩:=Bb.mp h1
  obtain ⟨q2,r2⟩:=Bb.mp h2
  have e:a=b:=by
   rcases An.mp (p.mem_iff.mp Ab) with z | z
   ·exact z
   ·rcases An.mp (p.mem_iff.mpr Ab) with y | y
    ·exact y.symm
    ·have:=q2 a z; have:=q1 b y; omega
  subst e
  rw[cD (List.perm_cons _ |>.mp p) r1 r2]
def vA(x:Int):List Int->List Int
 | []=>[x]
 | y::l=>if x<=y then x::y::l else y::vA x l
def cB(ns:List Int):List Int:=ns.foldr vA []
theorem vF{x:Int}:∀{l:List Int},(vA x l).Perm (x::l)
 | []=>Hk _
 | y::l=>by
  unfold vA
  split
  ·exact Hk _
  ·exact ((vF (l:=l)).cons y).trans (Dk _ _ _)
theorem Vt:∀ns:List Int,(cB ns).Perm ns
 | []=>Hk _
 | n::ns=>vF.trans ((Vt ns).cons n)
theorem tF{x:Int}:∀{l:List Int},l.Pairwise (·<=·)->(vA x l).Pairwise (·<=·)
 | [],_=>Ey _ _
 | y::l,h=>by
  obtain ⟨h1,h2⟩:=Bb.mp h
  unfold vA
  split
  ·rename_i hx
   w_pre k3
   ·exact Int.le_trans hx (h1 z hz)
  ·refine Bb.mpr ⟨λz hz=>?_,tF h2⟩
   rcases An.mp (vF.mem_iff.mp hz) with rfl | hz
   ·omega
   ·exact h1 z hz
theorem oG:∀ns:List Int,(cB ns).Pairwise (·<=·)
 | []=>Ea
 | n::ns=>tF (oG ns)
theorem oQ{l ns:List Int}(p:l.Perm ns)(h:l.Pairwise (·<=·)):l=cB ns:=cD (p.trans (Vt ns).symm) h (oG ns)
theorem vO(ns:List Int):(cB ns).length=ns.length:=(Vt ns).length_eq
abbrev DC:=List DV->(DV->Prop)->Prop
def Tt(K:PySem.W.Frag)(r:List V->Hp->VK->Prop)(rd:DC):Prop:=∀(H0:Hp) (X:Addr->Prop) (n:Nat) (S T As:List Ent) (us:List V) (H:Hp) (Q:VK) (P:DV->Prop),
 As.map Ent.v=us.map some->At K H0 X n (S++(As++T)) H->rd (As.map Ent.x) P->(∀z u F' H',At K H0 X n (S++⟨some u,z,F'⟩::T) H'->P z->Q u H')->r us H Q
def GP(rd:DC)(da:DA):DE:=λδ P=>da δ λxs δ1=>rd xs λz=>P z δ1
section
variable{X:Cx}{x:Str}{p pos:Pos}{e:Expr}{es:List Expr}{da:DA}{id T:String}{r:List V->Hp->VK->Prop}{rd:DC}
theorem W5{K:PySem.W.Frag}(o:Tt K r rd):∀σ H Q,LE K (GP rd da) σ H Q->HP r (LA K da) σ H Q:=by
 w_pre m2
 subst ex
 exact o H0 Y δ'.n S' T As us H' Q _ eu hA' p λz u F' H'' hA3 p3=>k z δ' u F' S' H'' e1 e2 hA3 p3
theorem Jj(hc:Mc X (.builtin id) r)(o:Tt X.K r rd)(hg:Gl X x)(hm:X.mg x=none)(hv:Kl x=some (.builtin id))(ha:oS X (e::es) da)(hn:x ≠ "__name__" := by decide)(hdb:(x == ("__debug__" : Str))=false:=by decide)(he:Bn (e::es) X.env=(false,eval e X.env)::Bn es X.env:=by rfl)(hpl:(Hj pos (Bn es X.env)).any (·.1)=false:=by rfl):Fm X (.Call (.Name x p) (e::es) [] pos) (GP rd da) :=
 PE.imp (cA hc hg hm hv ha hn hdb he hpl) (W5 o)
theorem Os(hc:Mc X (.type T) r)(o:Tt X.K r rd)(hg:Gl X x)(hm:X.mg x=none)(hv:Kl x=some (.type T))(ha:oS X (e::es) da)(hn:x ≠ "__name__" := by decide)(hdb:(x == ("__debug__" : Str))=false:=by decide)(he:Bn (e::es) X.env=(false,eval e X.env)::Bn es X.env:=by rfl)(hpl:(Hj pos (Bn es X.env)).any (·.1)=false:=by rfl):Fm X (.Call (.Name x p) (e::es) [] pos) (GP rd da) :=
 PE.imp (Mv hc hg hm hv ha hn hdb he hpl) (W5 o)
end
theorem X7{α β:Type}{f:α->β}{l:List α}{x:β}(h:l.map f=[x]):∃a,l=[a]/\f a=x:=by
 cases l with
 | nil=>cases h
 | cons a t =>
  obtain ⟨h1,h2⟩:=Ig h
  exact ⟨a,by rw[xN.mp h2],h1⟩
theorem DU{α β:Type}{f:α->β}{l:List α}{x y:β}(h:l.map f=[x,y]):∃a b,l=[a,b]/\f a=x/\f b=y:=by
 cases l with
 | nil=>cases h
 | cons a t =>
  obtain ⟨h1,h2⟩:=Ig h
  obtain ⟨b,rfl,h3⟩:=X7 h2
  exact ⟨a,b,rfl,h1,h3⟩
theorem Jh{K:PySem.W.Frag}{H0 H:Hp}{X:Addr->Prop}{n:Nat}{S T As:List Ent}{us:List V}{x:DV}(eu:As.map Ent.v=us.map some)(hA:At K H0 X n (S++(As++T)) H)(ex:As.map Ent.x=[x]):∃v F,us=[v]/\At K H0 X n (S++⟨some v,x,F⟩::T) H:=by
 obtain ⟨⟨v,y,F⟩,rfl,h1⟩:=X7 ex
 obtain ⟨u,rfl,h2⟩:=X7 eu.symm
 have h1':y=x:=h1
 have h2':some u=v:=h2
 subst h1' h2'
 exact ⟨u,F,rfl,hA⟩
theorem Xf{K:PySem.W.Frag}{H0 H:Hp}{X:Addr->Prop}{n:Nat}{S T As:List Ent}{us:List V}{x y:DV}(eu:As.map Ent.v=us.map some)(hA:At K H0 X n (S++(As++T)) H)(ex:As.map Ent.x=[x,y]):∃v F w G,us=[v,w]/\At K H0 X n (S++⟨some v,x,F⟩::⟨some w,y,G⟩::T) H:=by
 obtain ⟨⟨v,x',F⟩,⟨w,y',G⟩,rfl,h1,h2⟩:=DU ex
 obtain ⟨u,u',rfl,h3,h4⟩:=DU eu.symm
 have h1':x'=x:=h1
 have h2':y'=y:=h2
 have h3':some u=v:=h3
 have h4':some u'=w:=h4
 subst h1' h2' h3' h4'
 exact ⟨u,F,u',G,rfl,hA⟩
def sT:DC:=λxs P=>match xs with
 | [.dat _ (.list ds)]=>P (.dat .ow (.int ds.length))
 | [.dat _ (.tuple ds)]=>P (.dat .ow (.int ds.length))
 | [.dat _ (.str z)]=>z.length<=1000000/\P (.dat .ow (.int z.length))
 | _=>False
def oW(i:Bool):DC:=λxs P=>match xs with
 | [.dat m (.list ds)]=>Zj i m ds P
 | [.dat m (.tuple ds)]=>Zj i m ds P
 | _=>False
def iA(i:Bool):DC:=λxs P=>match xs with
 | [.dat m (.list ds)]=>jA i m ds P
 | [.dat m (.tuple ds)]=>P (.dat m (.tuple ds))
 | _=>False
def p8:DC:=λxs P=>match xs with
 | [.dat _ (.int i)]=>P (.dat .ow (.int i))
 | [.dat _ (.bool b)]=>P (.dat .ow (.int (if b=true then 1 else 0)))
 | _=>False
def rJ:DC:=λxs P=>match xs with
 | [.dat _ (.int i),.dat _ (.int j)]=>P (.dat .ow (.int (if j > i then j else i)))
 | _=>False
def C6:Ae->String
 | .none => "NoneType"
 | .bool _ => "bool"
 | .int _ => "int"
 | .str _ => "str"
 | .list _ => "list"
 | .tuple _ => "tuple"
 | .dict _ => "dict"
def jW(d:Ae)(n:String):Bool:=C6 d == n || (C6 d == "bool" && n == "int")
def zO:DC:=λxs P=>match xs with
 | [.dat _ d,.val (.ty n)]=>(n = "int" \/ n = "bool" \/ n = "str" \/ n = "list" \/ n = "tuple")/\P (.dat .ow (.bool (jW d n)))
 | _=>False
section
variable{K:PySem.W.Frag}
theorem bQ:Tt K (λxs H Q=>∃x n,xs=[x]/\FX K x H n/\Q (.int n) H) sT:=by
 w_pre a7
 unfold sT at hd
 w_pre z6
 ·rename_i ex
  w_pre h7
  obtain ⟨a,xs,G,rfl,ha,ra,_,_⟩:=(hA.told mem_mid).list_inv
  exact ⟨_,_,rfl,.inl ⟨xs,Pe.of ha,ra.len.symm⟩,k _ _ [] H (hA.drop.pushI (.int _)) hd⟩
 ·rename_i ex
  w_pre h7
  w_pre h9
  exact ⟨_,_,rfl,.inr ⟨xs,Ta.of ha,ra.len.symm⟩,k _ _ [] H (hA.drop.pushI (.int _)) hd⟩
 ·rename_i ex
  w_pre h7
  obtain ⟨rfl,_⟩:=(hA.told mem_mid).str_inv
  exact ⟨_,_,rfl,⟨kD hd.1,rfl⟩,k _ _ [] H (hA.drop.pushI (.int _)) hd.2⟩
 w_pre b7
theorem G4{i:Bool}:Tt K (V6 K) (oW i):=by
 w_pre a7
 unfold oW at hd
 w_pre z6
 ·rename_i ex
  w_pre c5
  refine ⟨a,xs,rfl,.inl (Pe.of ha),λl hl=>?_⟩
  obtain ⟨z,F',h1,h2⟩:=hA.newL ra (Cy _ _) hz hl hd
  exact k _ _ _ _ h1 h2
 ·rename_i ex
  w_pre g5
  refine ⟨a,xs,rfl,.inr (Ta.of ha),λl hl=>?_⟩
  obtain ⟨z,F',h1,h2⟩:=hA.newL ra (Ci _) hz hl hd
  exact k _ _ _ _ h1 h2
 w_pre b7
theorem cM{i:Bool}:Tt K (T5 K) (iA i):=by
 w_pre a7
 unfold iA at hd
 w_pre z6
 ·rename_i ex
  w_pre c5
  refine ⟨a,xs,rfl,.inl ⟨Pe.of ha,λl hl=>?_⟩⟩
  obtain ⟨z,F',h1,h2⟩:=hA.newT ra (Cy _ _) hz hl hd
  exact k _ _ _ _ h1 h2
 ·rename_i ex
  w_pre g5
  exact ⟨a,xs,rfl,.inr ⟨Ta.of ha,k _ _ F H hA hd⟩⟩
 w_pre b7
theorem zI:Tt K (λxs H Q=>(∃i,xs=[V.int i]/\Q (.int i) H)\/∃k,xs=[V.bl k]/\Q (.int (if k then 1 else 0)) H) p8:=by
 w_pre a7
 unfold p8 at hd
 w_pre z6
 ·rename_i ex
  w_pre h7
  w_pre e7
  exact .inl ⟨_,rfl,k _ _ [] H (hA.drop.pushI (.int _)) hd⟩
 ·rename_i ex
  w_pre h7
  obtain ⟨rfl,_⟩:=(hA.told mem_mid).bl_inv
  exact .inr ⟨_,rfl,k _ _ [] H (hA.drop.pushI (.int _)) hd⟩
 w_pre b7
theorem Q8:Tt K (λxs H Q=>∃i j,xs=[V.int i,V.int j]/\Q (.int (if j > i then j else i)) H) rJ:=by
 w_pre a7
 unfold rJ at hd
 w_pre z6
 ·rename_i ex
  obtain ⟨v,F,w,G,rfl,hA⟩:=Xf eu hA ex
  w_pre e7
  obtain ⟨rfl,_⟩:=(hA.told Fd).int_inv
  exact ⟨_,_,rfl,k _ _ [] H (hA.drop2.pushI (.int _)) hd⟩
 w_pre b7
theorem M3{T n:String}{b:Bool}(h1:(Gd T == Gd n)=false)(h2:PySem.W.kitMeta n=true)(h3:(fastBuiltinMro T).map (λx=>x.contains (Gd n))=some b):PySem.W.kitOne K (.type T) (.type n)=some b:=AA h1 h2 h3
theorem E6{d:Ae}{n:String}(hn:n = "int" \/ n = "bool" \/ n = "str" \/ n = "list" \/ n = "tuple"):PySem.W.kitOne K (.type (C6 d)) (.type n)=some (jW d n):=by
 have main:∀T:String,(T = "NoneType" \/ T = "bool" \/ T = "int" \/ T = "str" \/ T = "list" \/ T = "tuple" \/ T = "dict")->PySem.W.kitOne K (.type T) (.type n)=some (T == n || (T == "bool" && n == "int")):=by
  intro T hT
  rcases hT with rfl | rfl | rfl | rfl | rfl | rfl | rfl <;> rcases hn with rfl | rfl | rfl | rfl | rfl <;> first | exact X3 | exact M3 (by decide +kernel) (by decide +kernel) (by decide +kernel)
 unfold jW
 refine main _ ?_
 cases d <;> simp [C6]
theorem pG:Tt K (JF K) zO:=by
 w_pre a7
 unfold zO at hd
 w_pre z6
 ·rename_i ex
  obtain ⟨v,F,w,G,rfl,hA⟩:=Xf eu hA ex
  have hw:w=.ty _:=Bv (hA.ok _ Fd).1
  subst hw
  have r:=hA.told mem_mid
  refine ⟨v,_,.type (C6 _),_,rfl,?_,E6 hd.1,k _ _ [] H (hA.drop2.pushI (.bl _)) hd.2⟩
  ·cases r with
   | non=>exact .non
   | bl b=>exact .bl b
   | int i=>exact .int i
   | str x=>exact .str x
   | lst h l hs=>exact .lst h
   | tup h l hs=>exact .tup h
   | dic h e hs=>exact .dT h
 w_pre b7
end
def dV(v:V):DE:=λδ P=>P (.val v) δ
section
variable{X:Cx}{e:Expr}
theorem Z8{v:V}(h:PE X e (tC v)):Fm X e (dV v):=by
 w_pre c4
 exact k _ δ v [] S H rfl hS ((hA.push (e:=⟨some v,.val v,[]⟩) ⟨rfl,rfl⟩ (λf _=>⟨λ_ a ha=>(nomatch ha),λ_ a _=>Bd⟩) (λa ha=>(nomatch ha))).tomid) hd
theorem B4{x:Str}{n:String}{pos:Pos}(hg:Gl X x)(hm:X.mg x=none)(hv:Kl x=some (.type n))(hn:x ≠ "__name__" := by decide)(hd:(x == ("__debug__" : Str))=false:=by decide):Fm X (.Name x pos) (dV (.ty n)):=Z8 (R4 hg hm hv rfl hn hd)
end
theorem kY{ns:List Int}(h:∀x∈ns,0<=x/\x<60):(On ns).length<=60 :=
 Cg (NdS.len_leI ((Ri ns).imp λ{x y} h=>aU h) λe he=>Ws (h e (bW.mp he)).1 (h e (bW.mp he)).2) (by decide)
end DL
namespace Nd
open PySem PySem.Spec PyProof.Rows L2
theorem xB(I l1 l2:Nat)(h1:l1<I)(h2:l2<I):Sw (I+4) (I+2) (I+3) I (I+1) l1 l2:=by
 constructor <;> (intro e; have e':(_:Nat)=_:=e; omega)
end Nd
namespace Nd
open PySem PySem.Spec PyProof.Rows L2
open AutoSeq1 (wpAny_loadPart')
end Nd
namespace DL
open PySem L2 Nd
def dB(de:DE):DT:=λδ P=>de δ λx δ'=>match x with
 | .dat _ (.bool b)=>P b δ'
 | _=>False
def U6(dt:DT):DT:=λδ P=>dt δ λb δ'=>P (!b) δ'
def S7(dt du:DT):DT:=λδ P=>dt δ λb δ'=>match b with
 | true=>du δ' P
 | false=>P false δ'
def DY(dt du:DT):DT:=λδ P=>dt δ λb δ'=>match b with
 | true=>P true δ'
 | false=>du δ' P
def EY(da db:DE):DE:=λδ P=>da δ λx δ'=>match x with
 | .dat _ (.bool true)=>db δ' P
 | .dat _ (.bool false)=>P (.dat .ow (.bool false)) δ'
 | _=>False
def GC(dt:DT)(da db:DE):DE:=λδ P=>dt δ λb δ'=>match b with
 | true=>da δ' P
 | false=>db δ' P
def DD(de:DE):DE:=λδ P=>de δ λx δ'=>match x with
 | .dat _ (.int i)=>P (.dat .ow (.int (-i))) δ'
 | _=>False
section
variable{K:PySem.W.Frag}{de:DE}
theorem FQ:∀σ H Q,LT K (dB de) σ H Q->LE K de σ H λx H'=>∃k,x=.bl k/\Q k H':=by
 intro σ H Q h
 w_pre u1
 ·obtain ⟨rfl,_⟩:=(hA1.told mem_mid).bl_inv
  exact ⟨_,rfl,k _ δ1 S1 H1 e1 e2 hA1.drop p1⟩
 w_pre c8
end
section
variable{X:Cx}{a b c e:Expr}{da db de:DE}{dt du:DT}{pos:Pos}{Ht:List Expr}
theorem oV(h:Fm X e de)(he:∀whole,isTrue e X.env whole=(do let v <- whole; Wi e.pos; Ny [v] (truthy v)):=by intro _; rfl):lW X e (dB de):=PT.imp (u4 h he) FQ
theorem bC{op:CmpOp}{r:R2}{rd:D2}(ho:Xe X (Ie op) r)(o:oY X.K r rd)(ha:Fm X a da)(hb:Fm X b db)(hm:Hd op b=false):lW X (.Compare a [op] [b] pos) (dB (aK rd da db)):=by
 refine PT.imp (sI ho ha hb hm) λσ H Q h=>?_
 exact fB o _ _ _ (FQ σ H Q h)
theorem S9(ha:Fm X a da)(hb:Fm X b db):lW X (.Compare a [.Lt] [b] pos) (dB (aK rdLt da db)):=bC U1 (lV λ_ _ _=>.bl _) ha hb (Vx _)
theorem aW(hu:X.A.units+64<cLine)(ha:Fm X a da)(hb:Fm X b db):lW X (.Compare a [.Eq] [b] pos) (dB (aK (jZ false) da db)):=bC (zP hu) T4 ha hb (Vx _)
theorem rS(hu:X.A.units+64<cLine)(ha:Fm X a da)(hb:Fm X b db):lW X (.Compare a [.NotEq] [b] pos) (dB (aK (jZ true) da db)):=bC (Z3 hu) FD ha hb (Vx _)
theorem FU(hu:X.A.units+64<cLine)(ha:Fm X a da)(hb:Fm X b db)(hm:Hd .In b=false:=by with_unfolding_all rfl):lW X (.Compare a [.In] [b] pos) (dB (aK (vB false) da db)):=bC (AU hu) W3 ha hb hm
theorem mI(hu:X.A.units+64<cLine)(ha:Fm X a da)(hb:Fm X b db)(hm:Hd .NotIn b=false:=by with_unfolding_all rfl):lW X (.Compare a [.NotIn] [b] pos) (dB (aK (vB true) da db)):=bC (wR hu) W3 ha hb hm
theorem yS(h:lW X a dt):lW X (.UnaryOp .Not a pos) (U6 dt):=by
 refine PT.imp (AO h) λσ H Q h=>?_
 w_pre g7
 exact ⟨H0,Y,S,T,δ,_,rfl,hS,hA,hd,λb δ' S' H' e1 e2 hA' p=>k _ δ' S' H' e1 e2 hA' p⟩
theorem tY(h:lW X a dt):CA X (.BoolOp .And [a] pos) dt:=J4 h
theorem o4(h:lW X a dt):CA X (.BoolOp .Or [a] pos) dt:=CB h
theorem zX(h:lW X a dt)(hb:CA X (.BoolOp .And (b::Ht) pos) du):CA X (.BoolOp .And (a::b::Ht) pos) (S7 dt du):=by
 refine PW.imp (CH h hb) λσ H Q h=>?_
 w_pre h4
 cases b with
 | true=>exact lZ ⟨H0,Y,S',T,δ',P,e1,e2,hA',p,k⟩
 | false=>exact nX (k _ δ' S' H' e1 e2 hA' p)
theorem U3(h:lW X a dt)(hb:CA X (.BoolOp .Or (b::Ht) pos) du):CA X (.BoolOp .Or (a::b::Ht) pos) (DY dt du):=by
 refine PW.imp (CV h hb) λσ H Q h=>?_
 w_pre h4
 cases b with
 | true=>exact lZ (k _ δ' S' H' e1 e2 hA' p)
 | false=>exact nX ⟨H0,Y,S',T,δ',P,e1,e2,hA',p,k⟩
theorem L6(h:CA X a dt):lW X a dt:=PW.pt h
theorem i3{op}(h:Fm X a da):Fm X (.BoolOp op [a] pos) da:=BS h
theorem iQ(h:Fm X a da)(hb:Fm X (.BoolOp .And (b::Ht) pos) db):Fm X (.BoolOp .And (a::b::Ht) pos) (EY da db):=by
 refine PE.imp (BY h hb) λσ H Q h=>?_
 w_pre u1
 ·obtain ⟨rfl,_⟩:=(hA1.told mem_mid).bl_inv
  exact ⟨_,rfl,lZ ⟨H0,Y,S1,T,δ1,P,e1,e2,hA1.drop,p1,k⟩⟩
 ·obtain ⟨rfl,_⟩:=(hA1.told mem_mid).bl_inv
  exact ⟨_,rfl,nX (k _ δ1 _ [] S1 H1 e1 e2 (hA1.drop.pushI (.bl _)) p1)⟩
 w_pre c8
theorem qW(h:Fm X a da):Fm X (.UnaryOp .USub a pos) (DD da):=by
 refine PE.imp (DP Z2 h) λσ H Q h=>?_
 w_pre u1
 ·obtain ⟨rfl,_⟩:=(hA1.told mem_mid).int_inv
  exact ⟨_,rfl,k _ δ1 _ [] S1 H1 e1 e2 (hA1.drop.pushI (.int _)) p1⟩
 w_pre c8
theorem BX(hc:lW X c dt)(ha:Fm X a da)(hb:Fm X b db):Fm X (.IfExp c a b pos) (GC dt da db):=by
 refine PE.imp (zU hc ha hb) λσ H Q h=>?_
 w_pre h4
 cases b with
 | true=>exact lZ ⟨H0,Y,S',T,δ',P,e1,e2,hA',p,k⟩
 | false=>exact nX ⟨H0,Y,S',T,δ',P,e1,e2,hA',p,k⟩
end
theorem PS.impD{X:Cx}{st:Stmt}{t t':TS}(h:PS X st t)(k:∀D σ H,t' D σ H->t D σ H):PS X st t':=λpins s σ H D I q=>h pins s σ H D I (k D σ H q)
theorem tQ.impD{X:Cx}{st:List Stmt}{t t':TS}(h:tQ X st t)(k:∀D σ H,t' D σ H->t D σ H):tQ X st t':=λpins s σ H D I q=>h pins s σ H D I (k D σ H q)
def W1:DB:=λD δ=>D.nx δ
def CZ(t u:DB):DB:=λD δ=>t { D with nx:=λδ'=>u D δ' } δ
def EN(de:DE):DB:=λD δ=>de δ D.rt
def JH(dt:DT)(t u:DB):DB:=λD δ=>dt δ λb δ'=>match b with
 | true=>t D δ'
 | false=>u D δ'
def zD(de:DE)(dg:DG):DB:=λD δ=>de δ λx δ'=>dg x δ' D.nx
section
variable{X:Cx}{st:Stmt}{e tg c:Expr}{t u:DB}{Ht:List Stmt}{de:DE}{dg:DG}{dt:DT}{pos:Pos}
theorem Nn:aY X [] W1:=by
 refine tQ.impD jY λD σ H h=>?_
 w_pre v6
 exact k1 δ S H hS hA hd
theorem Dd(h1:xJ X st t)(h2:aY X Ht u):aY X (st::Ht) (CZ t u):=by
 refine tQ.impD (Mf h1 h2) λD σ H h=>?_
 w_pre v6
 exact ⟨H0,Y,S,T,δ,_,rfl,hS,hT,hA,hd,λδ' S' H' e2 hA' p=>⟨H0,Y,S',T,δ',P,rfl,e2,hT,hA',p,k1,k2,k3,k4⟩,k2,k3,k4⟩
theorem Eo(h1:xJ X st t):aY X [st] t:=Uj h1
theorem Iz(he:Fm X e de):xJ X (.Return (some e) pos) (EN de):=by
 refine PS.impD (Yh he) λD σ H h=>?_
 w_pre v6
 exact ⟨H0,Y,S,T,δ,_,rfl,hS,hA,hd,λx δ' v F S' H' e1 e2 hA' p=>k2 x δ' v F S' H' e2 hA' p⟩
theorem Sn{a b:List Stmt}(hc:lW X c dt)(ha:aY X a t)(hb:aY X b u):xJ X (.If c a b pos) (JH dt t u):=by
 refine PS.impD (yO hc ha hb) λD σ H h=>?_
 w_pre v6
 refine ⟨H0,Y,S,T,δ,_,rfl,hS,hA,hd,λb δ' S' H' e1 e2 hA' p=>?_⟩
 cases b with
 | true=>exact lZ ⟨H0,Y,S',T,δ',P,e1,e2,hT,hA',p,k1,k2,k3,k4⟩
 | false=>exact nX ⟨H0,Y,S',T,δ',P,e1,e2,hT,hA',p,k1,k2,k3,k4⟩
theorem qT{K:PySem.W.Frag}{te:TE}{g:TG}(h1:∀σ H Q,LE K de σ H Q->te σ H Q)(h2:∀v σ H Q,LG K dg v σ H Q->g v σ H Q):∀D σ H,LS K (zD de dg) D σ H->R0 te g D σ H:=by
 intro D σ H h
 w_pre v6
 refine h1 _ _ _ ⟨H0,Y,S,T,δ,_,rfl,hS,hA,hd,λx δ' v F S' H' e1 e2 hA' p=>?_⟩
 exact h2 _ _ _ _ ⟨H0,Y,S',T,δ',x,F,P.nx,e1,e2,hA',p,λδ2 S2 H2 e3 hA2 q=>k1 δ2 S2 H2 e3 hA2 q⟩
end
def Tc(i:Nat):DG:=λx δ P=>match x with
 | .dat .pk _=>False
 | .dat _ d=>P ⟨δ.sl.set i (.dat .sh d),δ.n⟩
 | .val v=>P ⟨δ.sl.set i (.val v),δ.n⟩
 | .drw=>P ⟨δ.sl.set i .drw,δ.n⟩
 | .dT kvs=>P ⟨δ.sl.set i (.dT kvs),δ.n⟩
 | _=>False
def gD(i:Nat):DG:=λx δ P=>match x with
 | .dat .ow d=>P ⟨δ.sl.set i (.dat .ow d),δ.n⟩
 | .dat .tp d=>P ⟨δ.sl.set i (.dat .tp d),δ.n⟩
 | _=>False
theorem At.store{K:PySem.W.Frag}{H0 H:Hp}{X:Addr->Prop}{n:Nat}{S T:List Ent}{e:Ent}{i:Nat}(h:At K H0 X n (S++e::T) H):At K H0 X n (S.set i e++T) H:=by
 by_cases hi:i<S.length
 ·have hx:S[i]? = some S[i]:=by simp [hi]
  have p:(S++e::T).Perm (S[i]::(S.set i e++T)):=by
   refine Dj.trans ?_
   rw[<- Do,<- Do]
   exact (Th hx).append_right T
  exact (h.perm p).sub (Cy _ _)
 ·rw[List.set_eq_of_length_le (by omega)]
  exact h.drop
theorem iX{S:List Ent}{i:Nat}{v:V}{x:DV}{F:List Addr}:vs (S.set i ⟨some v,x,F⟩)=(vs S).set i (some v):=by
 unfold vs
 rw[Iq]
theorem iT{S:List Ent}{δ:DS}{i n:Nat}{v:V}{x:DV}{F:List Addr}(h:Sl S δ):Sl (S.set i ⟨some v,x,F⟩) ⟨δ.sl.set i x,n⟩:=by
 unfold Sl at h ⊢
 rw[Iq,h]
theorem jO{K:PySem.W.Frag}{i:Nat}:∀v σ H Q,LG K (Tc i) v σ H Q->Sr i v σ H Q:=by
 w_pre b0
 unfold Tc at hd
 w_pre z6
 w_pre b7
 ·rename_i m d hm
  refine fin _ ?_ hd
  refine (hA.mid.wk ?_).tomid
  cases m <;> first | rfl | exact (hm rfl).elim
 ·exact fin _ hA hd
 w_pre s3
theorem i9{K:PySem.W.Frag}{i:Nat}:∀v σ H Q,LG K (gD i) v σ H Q->Sr i v σ H Q:=by
 w_pre b0
 unfold gD at hd
 w_pre z6
 w_pre s3
section
variable{X:Cx}{pos:Pos}
theorem Kr{i:Nat}{x:Str}(hN:X.N.Nodup)(hi:X.N[i]? = some x)(hx:Loc X.env.scope x)(hf:X.fn x=true\/X.env.scope.names.lookup x=some .local:=by first | exact .inl rfl | exact .inr rfl | assumption):GT X (.Name x pos) (Tc i):=PG.imp (Me hN hi hx hf) jO
theorem Gg{i:Nat}{x:Str}{e:Expr}{de:DE}{pos':Pos}(hN:X.N.Nodup)(hi:X.N[i]? = some x)(hx:Loc X.env.scope x)(he:Fm X e de)(hs:Nh e (some (.Name x pos')) pos.line X.env=pure false:=by rfl)(hf:X.fn x=true\/X.env.scope.names.lookup x=some .local:=by first | exact .inl rfl | exact .inr rfl | assumption):xJ X (.Assign [.Name x pos'] e pos) (zD de (Tc i)):=PS.impD (Yd hN hi hx he hs hf) (qT (λ_ _ _ h=>h) jO)
theorem aR{i:Nat}{x:Str}{e:Expr}{de:DE}{pos':Pos}(hN:X.N.Nodup)(hi:X.N[i]? = some x)(hx:Loc X.env.scope x)(he:Fm X e de)(hs:Nh e (some (.Name x pos')) pos.line X.env=pure false:=by rfl)(hf:X.fn x=true\/X.env.scope.names.lookup x=some .local:=by first | exact .inl rfl | exact .inr rfl | assumption):xJ X (.Assign [.Name x pos'] e pos) (zD de (gD i)):=PS.impD (Yd hN hi hx he hs hf) (qT (λ_ _ _ h=>h) i9)
end
def zG:C7:=λxs δ P=>match xs with
 | []=>P δ
 | _=>False
def rR(g:DG)(gs:C7):C7:=λxs δ P=>match xs with
 | x::r=>g x δ λδ'=>gs r δ' P
 | []=>False
def yL(n:Nat)(gs:C7):DG:=λx δ P=>match x with
 | .dat m (.tuple ds)=>ds.length=n/\gs (ds.map λd=>.dat (Pv m) d) δ P
 | _=>False
theorem At.unpack{K:PySem.W.Frag}{H0 H:Hp}{X:Addr->Prop}{n:Nat}{m:Md}:∀{us:List V} {ds:List Ae} {F:List Addr} {E:List Ent},RdFs K H us ds F->(m=.ow->F.Nodup)->(∀f∈E,Wv ⟨none,.dat (Pv m) .none,F⟩ f)->(∀a∈cells ⟨none,.dat (Pv m) .none,F⟩,H0 a=none)->At K H0 X n E H->∃As:List Ent,As.map Ent.v=us.map some/\As.map Ent.x=ds.map (λd=>.dat (Pv m) d)/\(∀e∈As,∀a∈e.F,a∈F)/\At K H0 X n (As++E) H
 | _,_,_,_,.nil,_,_,_,h=>⟨[],rfl,rfl,λ_ z=>(nomatch z),h⟩
 | _,_,_,E,.cons (x:=x) (d:=d) (F:=F1) (G:=G1) a t,hn,hs,hnew,h=>by
  have cs:∀{G:List Addr} {u:Option V} {d':Ae},(∀b∈G,b∈F1++G1)->∀b∈cells ⟨u,.dat (Pv m) d',G⟩,b∈cells ⟨none,.dat (Pv m) .none,F1++G1⟩:=λ{G u d'} hG b hb=>by
   cases m with
   | ow=>exact hG b hb
   | _=>exact nomatch hb
  have sub:∀{G:List Addr} {u:Option V} {d':Ae} {f:Ent},(∀b∈G,b∈F1++G1)->Wv ⟨none,.dat (Pv m) .none,F1++G1⟩ f->Wv ⟨u,.dat (Pv m) d',G⟩ f:=λ{G u d' f} hG q=>by
   refine ⟨λhp b hb=>q.1 ?_ b (cs hG b hb),λhp b hb z=>q.2 ?_ b hb (hG b z)⟩
   w_pre u3
   ·rcases hp with hp | hp
    ·refine .inl ?_
     cases m <;> exact hp
    ·exact .inr hp
  obtain ⟨As,h1,h2,h3,h4⟩:=At.unpack (m:=m) t (λz=>(He.mp (hn z)).2.1) (λf hf=>sub (λb hb=>Ag _ hb) (hs f hf)) (λb hb=>hnew b (cs (λb hb=>Ag _ hb) b hb)) h
  refine ⟨⟨some x,.dat (Pv m) d,F1⟩::As,by rw[Ao,Ao,h1],by rw[Ao,Ao,h2],λe he b hb=>?_,?_⟩
  ·rcases An.mp he with rfl | he
   ·exact Ak _ hb
   ·exact Ag _ (h3 e he b hb)
  ·refine h4.push ⟨x,rfl,a,λz=>?_,λz=>?_⟩ (λf hf=>?_) λb hb=>.inl (hnew b (cs (λb hb=>Ak _ hb) b hb))
   ·cases m with
    | ow=>exact (He.mp (hn rfl)).1
    | _=>cases z
   ·cases m <;> cases z
   ·rcases Aw.mp hf with hf | hf
    ·have hx:f.x∈As.map Ent.x:=Df.mpr ⟨f,hf,rfl⟩
     rw[h2] at hx
     obtain ⟨d',_,ed⟩:=Df.mp hx
     refine ⟨λhp b hb z=>?_,λhp b hb z=>?_⟩
     ·cases m with
      | ow=>exact (He.mp (hn rfl)).2.2 b hb b (h3 f hf b z) rfl
      | _=>exact nomatch hb
     ·cases m with
      | ow=>exact (He.mp (hn rfl)).2.2 b z b (h3 f hf b (Gs _ _ hb)) rfl
      | _ =>
       unfold cells at hb
       rw[<- ed] at hb
       exact nomatch hb
    ·exact sub (λb hb=>Ak _ hb) (hs f hf)
section
variable{X:Cx}{pos:Pos}
theorem Q3:G6 X [] zG:=by
 refine BD.imp aH λus σ H Q h=>?_
 w_pre u9
 match As,hA,hd,eu with
 | [],hA,hd,eu =>
  cases us with
  | nil=>exact ⟨rfl,k δ S H hS hA hd⟩
  | cons _ _=>cases eu
 | _::_,hA,hd,eu=>exact hd.elim
theorem oD{e:Expr}{es:List Expr}{g:DG}{gs:C7}(h1:GT X e g)(h2:G6 X es gs)(hs:(Km (e::es) X.env).map (·.2)=Oc e X.env::(Km es X.env).map (·.2):=by rfl):G6 X (e::es) (rR g gs):=by
 refine BD.imp (Pf h1 h2 hs) λus σ H Q h=>?_
 w_pre u9
 match As,hA,hd,eu with
 | [],hA,hd,eu=>exact hd.elim
 | ⟨v,x,F⟩::As,hA,hd,eu =>
  cases us with
  | nil=>cases eu
  | cons u us =>
   rw[Ao,Ao] at eu
   obtain ⟨e1,e2⟩:=Ig eu
   have e1':v=some u:=e1
   subst e1'
   refine ⟨u,us,rfl,H0,Y,S,As++T,δ,x,F,_,rfl,hS,hA,hd,λδ' S' H' e3 hA' p=>?_⟩
   exact ⟨H0,Y,S',T,As,δ',P,rfl,e3,e2,hA',p,k⟩
theorem Z7{es:List Expr}{kk:Nat}{gs:C7}{n:Nat}(hc:X.calm=true)(h:G6 X es gs)(hn:(Km es X.env).length=n:=by rfl)(hst:(Km es X.env).findIdx? (·.1)=none:=by rfl):GT X (.Tuple es kk pos) (yL n gs):=by
 refine PG.imp (jG hc h hn hst) λv σ H Q h=>?_
 obtain ⟨H0,Y,S,T,δ,x,F,P,rfl,hS,hA,hd,k⟩:=h
 unfold yL at hd
 w_pre z6
 ·rename_i m ds
  obtain ⟨a,xs,rfl,ha,ra,hz⟩:=(hA.told mem_mid).tup_inv
  have hm:=hA.mid
  have hp:=Bb.mp hm.sep
  obtain ⟨w,_,_,hnd,_⟩:=hm.ok _ Ab
  have cs:∀b∈cells ⟨none,.dat (Pv m) .none,F⟩,b∈cells ⟨some (.ref a),.dat m (.tuple ds),F⟩:=λb hb=>by
   cases m with
   | ow=>exact hb
   | _=>exact nomatch hb
  obtain ⟨As,h1,h2,h3,h4⟩:=At.unpack (m:=m) (E:=S++T) ra hnd (λf hf=>by
   refine ⟨λhq b hb=>(hp.1 f hf).1 ?_ b (cs b hb),λhq b hb=>(hp.1 f hf).2 ?_ b hb⟩
   w_pre v3
   ·rcases hq with hq | hq
    ·refine .inl ?_
     cases m <;> first | rfl | exact hq
    ·exact .inr hq) (λb hb=>by
   rcases hm.new _ Ab b (cs b hb) with z | z
   ·exact z
   ·cases z.2) hA.drop
  refine ⟨a,xs,rfl,Ta.of ha,by rw[ra.len]; exact hd.1,H0,Y,S,T,As,δ,P,rfl,hS,h1,h4.perm ?_,by rw[h2]; exact hd.2,k⟩
  rw[<- Bt,<- Bt]
  exact Et.append_right T
 w_pre b7
end
theorem qP{K:PySem.W.Frag}{H0 H:Hp}{X:Addr->Prop}{n:Nat}{E:List Ent}(h:At K H0 X n E H):∀{e f:Ent},e∈E->f∈E->e=f\/Wv e f:=by
 have main:∀{E:List Ent},E.Pairwise Wv->∀{e f:Ent},e∈E->f∈E->e=f\/Wv e f:=by
  intro E
  induction E with
  | nil=>intro _ e f he; cases he
  | cons g E ih =>
   intro hp e f he hf
   have hc:=Bb.mp hp
   rcases An.mp he with he | he
   ·subst he
    rcases An.mp hf with hf | hf
    ·exact .inl hf.symm
    ·exact .inr (hc.1 f hf)
   ·rcases An.mp hf with hf | hf
    ·rw[hf]
     exact .inr (hc.1 e he).symm
    ·exact ih hc.2 he hf
 intro e f he hf
 exact main h.sep he hf
abbrev DI:=DS->(Md->List Ae->DS->Prop)->Prop
structure IterOk(K:PySem.W.Frag)(J:It)(hid:List Ent)(m:Md)(ds:List Ae):Prop where
 md:m=.sh\/m=.pk
 hd:∀e∈hid,cells e=[]
 np:m=.sh->∀e∈hid,Pw e.x=false
 go:∀H n i,(∀e∈hid,Gr K H n e)->i<ds.length->J.go i H
 yld:∀H n i x H',(∀e∈hid,Gr K H n e)->i<ds.length->J.yld i H x H'->Sx H H'/\∃d F,ds[i]? = some d/\RdF K H' x d F/\∀a∈F,∃e∈hid,a∈e.F
 stop:∀H n,(∀e∈hid,Gr K H n e)->J.stop ds.length H
def LI(K:PySem.W.Frag)(di:DI):TI:=λσ H R=>∃(H0:Hp) (X:Addr->Prop) (S T:List Ent) (δ:DS) (P:Md->List Ae->DS->Prop),vs S=σ/\Sl S δ/\At K H0 X δ.n (S++T) H/\di δ P /\
 ∀m ds δ' J hid S' H',vs S'=σ->Sl S' δ'->At K H0 X δ'.n (S'++(hid++T)) H'->IterOk K J hid m ds->ds.length<=Aq->P m ds δ'->R J H'
abbrev vZ(X:Cx)(tg iter:Expr)(di:DI):Prop:=PI X tg iter (LI X.K di)
theorem PI.imp{X:Cx}{tg e:Expr}{t t':TI}(h:PI X tg e t)(k:∀σ H Q,t' σ H Q->t σ H Q):PI X tg e t':=λpins s σ H Q I q=>h pins s σ H Q I (k σ H Q q)
def Ke:Md->Md
 | .pk=>.pk
 | _=>.sh
theorem Xd(m:Md):wk m (Ke m)=true:=by cases m <;> rfl
theorem At.item{K:PySem.W.Frag}{H0 H H':Hp}{X:Addr->Prop}{n:Nat}{S T hid:List Ent}{m:Md}{v:V}{d:Ae}{F:List Addr}(h:At K H0 X n (S++(hid++T)) H)(s:Sx H H')(r:RdF K H' v d F)(hF:∀a∈F,∃e∈hid,a∈e.F)(md:m=.sh\/m=.pk)(hh:∀e∈hid,cells e=[])(np:m=.sh->∀e∈hid,Pw e.x=false):At K H0 X n (S++⟨some v,.dat m d,F⟩::(hid++T)) H':=by
 have h1:=h.grow (n':=n) s (Aj _)
 have c0:∀a,a∉cells ⟨some v,.dat m d,F⟩:=λa ha=>by
  rcases md with rfl | rfl <;> exact nomatch ha
 refine (h1.push (e:=⟨some v,.dat m d,F⟩) ⟨v,rfl,r,λz=>?_,λz=>?_⟩ (λf hf=>⟨λ_ a ha=>absurd ha (c0 a),λhq a ha z=>?_⟩) λa ha=>absurd ha (c0 a)).tomid
 ·rcases md with rfl | rfl <;> cases z
 ·rcases md with rfl | rfl <;> cases z
 ·obtain ⟨e,he,ze⟩:=hF a z
  have he':e∈S++(hid++T):=Ag _ (Ak _ he)
  rcases qP h he' hf with rfl | q
  ·rw[hh e he] at ha
   cases ha
  ·refine q.2 ?_ a ha ze
   rcases hq with hq | hq
   ·refine .inl (np ?_ e he)
    rcases md with rfl | rfl
    ·rfl
    ·cases hq
   ·exact .inr hq
def IS(de:DE):DI:=λδ P=>de δ λx δ'=>match x with
 | .dat m (.list ds)=>P (Ke m) ds δ'
 | .dat m (.tuple ds)=>P (Ke m) ds δ'
 | _=>False
def mQ(da:DA):DI:=λδ P=>da δ λxs δ'=>match xs with
 | [.dat _ (.int j)]=>-1000000<=j/\j<=1000000/\P .sh ((Cd j.toNat).map λi:Nat=>.int i) δ'
 | _=>False
def x8(da:DA):DI:=λδ P=>da δ λxs δ'=>match xs with
 | [.dat m (.list ds)]=>P (Ke m) (ds.zipIdx.map λp=>.tuple [.int p.2,p.1]) δ'
 | _=>False
def GU(da:DA):DI:=λδ P=>da δ λxs δ'=>match xs with
 | [.dat m (.tuple ds)]=>P (Ke m) (ds.zipIdx.map λp=>.tuple [.int p.2,p.1]) δ'
 | _=>False
def mdZip:Md->Md->Md
 | .pk,_=>.pk
 | _,.pk=>.pk
 | _,_=>.sh
section
variable{K:PySem.W.Frag}
theorem Jg{H:Hp}{n:Nat}{v:V}{m:Md}{d:Ae}{F:List Addr}{hid:List Ent}(h:∀e∈hid,Gr K H n e)(he:⟨some v,.dat m d,F⟩∈hid):RdF K H v d F:=by
 obtain ⟨w,e1,h1,_⟩:=h _ he
 cases e1
 exact h1
theorem bK{v:Option V}{m:Md}{d:Ae}{F:List Addr}:cells ⟨v,.dat (Ke m) d,F⟩=[]:=by cases m <;> rfl
theorem qG{v:Option V}{m:Md}{d:Ae}{F:List Addr}:∀e∈[(⟨v,.dat (Ke m) d,F⟩ : Ent)],cells e=[]:=λe he=>by
 rw[Al.mp he]
 exact bK
theorem xV{v:Option V}{m:Md}{d:Ae}{F:List Addr}:Ke m=.sh->∀e∈[(⟨v,.dat (Ke m) d,F⟩ : Ent)],Pw e.x=false:=λz e he=>by
 rw[Al.mp he]
 show Pw (.dat (Ke m) d)=false
 rw[z]
 rfl
theorem jK(m:Md):Ke m=.sh\/Ke m=.pk:=by cases m <;> simp [Ke]
theorem uN{a:Addr}{m:Md}{ds:List Ae}{F:List Addr}:IterOk K (IE K a) [⟨some (.ref a),.dat (Ke m) (.list ds),F⟩] (Ke m) ds where
 md:=jK m
 hd:=qG
 np:=xV
 go:=λH n i h hi=>by
  w_pre i3
  w_pre x8
 yld:=λH n i x H' h hi y=>by
  w_pre d6
  obtain ⟨rfl,y⟩:=y
  w_pre g1
  exact ⟨Sx.refl _,ds[i],F',by simp [hi],h2,λc hc=>⟨_,Ab,Ad _ (h3.subset hc)⟩⟩
 stop:=λH n h=>by
  w_pre i6
  exact ⟨xs,Pe.of hb,by rw[rb.len]; exact Aj _⟩
theorem u0{a:Addr}{m:Md}{ds:List Ae}{F:List Addr}:IterOk K (ID K a) [⟨some (.ref a),.dat (Ke m) (.tuple ds),F⟩] (Ke m) ds where
 md:=jK m
 hd:=qG
 np:=xV
 go:=λH n i h hi=>by
  w_pre z4
  have hl:=rb.len
  exact ⟨xs,xs[i],Ta.of hb,by simp [show i<xs.length by omega]⟩
 yld:=λH n i x H' h hi y=>by
  w_pre z4
  obtain ⟨rfl,y⟩:=y
  have hx:=y xs (Ta.of hb)
  obtain ⟨x',F',h1,h2,h3⟩:=rb.get (i:=i) (e:=ds[i]) (by simp [hi])
  rw[hx] at h1
  cases h1
  exact ⟨Sx.refl _,ds[i],F',by simp [hi],h2,λc hc=>⟨_,Ab,h3.subset hc⟩⟩
 stop:=λH n h=>by
  w_pre z4
  exact ⟨xs,Ta.of hb,by rw[rb.len]; exact Aj _⟩
theorem qF{lo:Int}{n:Nat}:IterOk K (ER lo n) [] .sh ((Cd n).map λi:Nat=>.int (lo+i)) where
 md:=.inl rfl
 hd:=λ_ z=>nomatch z
 np:=λ_ _ z=>nomatch z
 go:=λH k i h hi=>by
  show i<n
  simpa using hi
 yld:=λH k i x H' h hi y=>by
  obtain ⟨rfl,rfl⟩:=y
  rw[Af,Dh] at hi
  exact ⟨Sx.refl _,.int (lo+i),[],by simp [hi],.int _,λ_ z=>nomatch z⟩
 stop:=λH k h=>by simp [ER]
theorem uL{a:Addr}{m:Md}{ds:List Ae}{F:List Addr}:IterOk K (IJ K a) [⟨some (.ref a),.dat (Ke m) (.list ds),F⟩] (Ke m) (ds.zipIdx.map λp=>.tuple [.int p.2,p.1]) where
 md:=jK m
 hd:=qG
 np:=xV
 go:=λH n i h hi=>by
  w_pre i3
  rw[Af,Mi] at hi
  w_pre x8
 yld:=λH n i x H' h hi y=>by
  w_pre d6
  rw[Af,Mi] at hi
  obtain ⟨t,z,rfl,nt,rfl,y⟩:=y
  w_pre g1
  have s1:=Fe nt (.tup [.int i,z])
  refine ⟨s1,.tuple [.int i,ds[i]],F',by simp [hi],.tup Ds (by simp [Hh]) ?_,λc hc=>⟨_,Ab,Ad _ (h3.subset hc)⟩⟩
  have:=RdFs.cons (F:=[]) (.int (i:Int)) (RdFs.cons (h2.kp (Kp.of s1)) RdFs.nil)
  rw[Ec] at this
  exact this
 stop:=λH n h=>by
  w_pre i6
  exact ⟨xs,Pe.of hb,by rw[Af,Mi,rb.len]; exact Aj _⟩
end
section
variable{X:Cx}{tg e:Expr}{de:DE}{di:DI}
def dL(de:DE):DI:=λδ P=>de δ λx δ'=>match x with
 | .dat m (.list ds)=>P (Ke m) ds δ'
 | _=>False
def IX(de:DE):DI:=λδ P=>de δ λx δ'=>match x with
 | .dat m (.tuple ds)=>P (Ke m) ds δ'
 | _=>False
theorem C8(h:Fm X e de):vZ X tg e (dL de):=by
 refine PI.imp (Q5 h) λσ H R h=>?_
 w_pre u1
 ·obtain ⟨a,xs,G,rfl,ha,ra,rfl,hz⟩:=(hA1.told mem_mid).list_inv
  exact ⟨a,rfl,⟨xs,Pe.of ha⟩,k _ _ δ1 _ [_] S1 H1 e1 e2 ((hA1.mid.wk (Xd _)).tomid) uN hz p1⟩
 w_pre c8
theorem JI(h:Fm X e de):vZ X tg e (IX de):=by
 refine PI.imp (BC h) λσ H R h=>?_
 w_pre u1
 ·obtain ⟨a,xs,rfl,ha,ra,hz⟩:=(hA1.told mem_mid).tup_inv
  exact ⟨a,rfl,⟨xs,Ta.of ha⟩,k _ _ δ1 _ [_] S1 H1 e1 e2 ((hA1.mid.wk (Xd _)).tomid) u0 hz p1⟩
 w_pre c8
variable{es:List Expr}{da:DA}{a b:Expr}{p pos tp:Pos}{elts:List Expr}{kt:Nat}
theorem Lw(hg:Gl X "range")(hm:X.mg "range" = none)(ha:oS X [a] da)(hs:Bn [a] X.env=[(false,eval a X.env)]:=by rfl):vZ X tg (.Call (.Name "range" p) [a] [] pos) (mQ da):=by
 refine PI.imp (vD hg hm ha hs) λσ H R h=>?_
 w_pre y1
 ·obtain ⟨v,F,rfl,hA2⟩:=Jh eu hA' ex
  w_pre g8
  obtain ⟨j0,j1,pp⟩:=p
  refine ⟨_,rfl,by omega,by omega,k _ _ δ' _ [] S' H' e1 e2 hA2.drop qF (by rw[Af,Dh]; exact kD (by omega)) ?_⟩
  simpa using pp
 ·exact p.elim
theorem M5(hg:Gl X "enumerate")(hm:X.mg "enumerate" = none)(ha:oS X [a] da)(hs:Bn [a] X.env=[(false,eval a X.env)]:=by rfl):vZ X (.Tuple elts kt tp) (.Call (.Name "enumerate" p) [a] [] pos) (x8 da):=by
 refine PI.imp (J3 hg hm ha hs) λσ H R h=>?_
 w_pre y1
 ·obtain ⟨v,F,rfl,hA2⟩:=Jh eu hA' ex
  obtain ⟨a,xs,G,rfl,ha,ra,rfl,hz⟩:=(hA2.told mem_mid).list_inv
  exact ⟨a,rfl,⟨xs,Pe.of ha⟩,k _ _ δ' _ [_] S' H' e1 e2 ((hA2.mid.wk (Xd _)).tomid) uL (by rw[Af,Mi]; exact hz) p⟩
 ·exact p.elim
end
def DK(di:DI)(dg:DG)(db:DB):DB:=λD δ=>di δ λm ds δ1=>m=.sh/\∃I:Nat->DS->Prop,I 0 δ1 /\
 (∀i d δ',ds[i]? = some d->I i δ'->dg (.dat .sh d) δ' λδ2=>db { D with nx:=I (i+1),ct:=I (i+1),bk:=D.nx } δ2)/\∀δ',I ds.length δ'->D.nx δ'
section
variable{X:Cx}{tg iter:Expr}{di:DI}{dg:DG}{db:DB}{body:List Stmt}{pos:Pos}
theorem At.dropH{K:PySem.W.Frag}{H0 H:Hp}{X:Addr->Prop}{n:Nat}{S T hid:List Ent}{e:Ent}(h:At K H0 X n (S++e::(hid++T)) H):At K H0 X n (S++e::T) H:=h.sub ((Ci S).append ((Bk hid T).cons₂ e))
theorem Nm(hp:PassesOwn (model X.prog X.w) X.A X.env X.xe)(hc:X.calm=true)(hi:vZ X tg iter di)(hg:GT X tg dg)(hb:aY X body db)(hs:∀x,Cz iter X.env x=pure x:=by intro _; rfl):xJ X (.For tg iter body [] pos) (DK di dg db):=by
 refine PS.impD (AF hp hc hi hg hb hs) λD σ H h=>?_
 w_pre v6
 refine ⟨H0,Y,S,T,δ,_,rfl,hS,hA,hd,λm ds δ1 J hid S1 H1 e1 e2 hA1 it hz p1=>?_⟩
 obtain ⟨rfl,I,h0,hs,hf⟩:=p1
 rw[<- e1]
 have hT':∀e∈hid++T,Pw e.x=false:=λe he=>by
  w_pre w7
  ·exact it.np rfl e he
  ·exact hT e he
 refine ⟨λi q σ H=>q=ds.length - i/\i<=ds.length/\∃S δ,vs S=σ/\Sl S δ/\At X.K H0 Y δ.n (S++(hid++T)) H/\I i δ,⟨ds.length,by simp,Di _,S1,δ1,rfl,e2,hA1,h0⟩,?_⟩
 rintro i q σ H ⟨rfl,hi,S2,δ2,rfl,e3,hA2,hI⟩
 have hid_ok:∀e∈hid,Gr X.K H δ2.n e:=λe he=>hA2.ok e (Ag _ (Ak _ he))
 by_cases hlt:i<ds.length
 ·refine .inr ⟨it.go H δ2.n i hid_ok hlt,λσ' H'=>∃S δ,vs S=σ'/\Sl S δ/\At X.K H0 Y δ.n (S++(hid++T)) H'/\I (i+1) δ,λσ' H' q=>⟨ds.length - (i+1),by omega,rfl,hlt,q⟩,λx H' y=>?_⟩
  obtain ⟨s1,d,F,h1,h2,h3⟩:=it.yld H δ2.n i x H' hid_ok hlt y
  refine ⟨H0,Y,S2,hid++T,δ2,.dat .sh d,F,_,rfl,e3,hA2.item s1 h2 h3 it.md it.hd it.np,hs i d δ2 h1 hI,λδ3 S3 H3 e4 hA3 p3=>?_⟩
  refine ⟨H0,Y,S3,hid++T,δ3,_,rfl,e4,hT',hA3,p3,λδ4 S4 H4 e5 hA4 p4=>⟨S4,δ4,rfl,e5,hA4,p4⟩,λx δ4 v F S4 H4 e5 hA4 p4=>k2 x δ4 v F S4 H4 e5 hA4.dropH p4,
   λδ4 S4 H4 e5 hA4 p4=>k1 δ4 S4 H4 e5 hA4.dropL p4,λδ4 S4 H4 e5 hA4 p4=>⟨S4,δ4,rfl,e5,hA4,p4⟩⟩
 ·have e:i=ds.length:=by omega
  subst e
  exact .inl ⟨it.stop H δ2.n hid_ok,k1 δ2 S2 H e3 hA2.dropL (hf δ2 hI)⟩
end
end DL
namespace Nd
open PySem PySem.Spec PyProof.Rows L2
theorem eM(elt t1 i1 t2 i2:Expr)(scope:Scope)(pos:Pos)(it acc:Value)(env:Env) :
  compTurn (.ListComp elt [⟨t1,i1,[],0⟩,⟨t2,i2,[],0⟩] scope pos) 0 it acc env=(do
   Wi i1.pos
   match <- Hi it with
   | none=>pure (.done .next)
   | some v =>
    Ho t1 it v
    Oc t1 env v
    let x <- eval i2 env
    Wi i2.pos
    let x <- Cz i2 env x
    let it2 <- Ny [x] (Zn x)
    let _ <- runOwn (.compStart (.ListComp elt [⟨t1,i1,[],0⟩,⟨t2,i2,[],0⟩] scope pos) 1 it2 acc env) env
    again (.compLoop (.ListComp elt [⟨t1,i1,[],0⟩,⟨t2,i2,[],0⟩] scope pos) 0 it acc env)):=by rfl
theorem eB(elt t1 i1 t2 i2:Expr)(scope:Scope)(pos:Pos)(it acc:Value)(env:Env) :
  compTurn (.ListComp elt [⟨t1,i1,[],0⟩,⟨t2,i2,[],0⟩] scope pos) 1 it acc env=(do
   Wi i2.pos
   match <- Hi it with
   | none=>pure (.done .next)
   | some v =>
    Ho t2 it v
    Oc t2 env v
    (do let _ <- call (.builtin "list.append") [acc,<- eval elt env])
    again (.compLoop (.ListComp elt [⟨t1,i1,[],0⟩,⟨t2,i2,[],0⟩] scope pos) 1 it acc env)):=by rfl
section
variable{prog:Bl}{w:World}{A:Ce}{R:Result->Ai->Prop}{s:Ai}
theorem dS{elt:Expr}{g:Comprehension}{t2 i2:Expr}{scope:Scope}{pos:Pos}{it acc:Value}{env:Env}(h0:Hb (model prog w) A (.compLoop (.ListComp elt [g,⟨t2,i2,[],0⟩] scope pos) 1 it acc env) R s)(h:wpAny (model prog w) A (Zn it) (λit' s'=>Hb (model prog w) A (.compLoop (.ListComp elt [g,⟨t2,i2,[],0⟩] scope pos) 1 it' acc env) R s') (λ_ _=>False) s):Hb (model prog w) A (.compStart (.ListComp elt [g,⟨t2,i2,[],0⟩] scope pos) 1 it acc env) R s:=by
 refine Xr ?_
 show wpAny _ _ ((compStart (.ListComp elt [g,⟨t2,i2,[],0⟩] scope pos) 1 it acc env).onRaise (λx=>do noteFrame x env; Wi theWindowsPlace)) _ _ s
 refine wpAny_notedAt ?_
 unfold compStart
 show wpAny _ _ (ask >>= _) _ _ s
 refine Aa (Vh (wpAny_ite ?_))
 split
 ·first
   | exact Aa (Ac (Ac (And.intro rfl h0)))
   | exact Ac (And.intro rfl h0)
 ·first
   | exact Aa (Kk (Aa (Ib (Aa (Cq h (λit' s' h'=>Ac (And.intro rfl h')) λ_ _ x=>x.elim)))))
   | (refine Aa (Kk ?_); show wpAny _ _ (Wi i2.pos >>= _) _ _ s; exact Aa (Ib (Aa (Cq h (λit' s' h'=>Ac (And.intro rfl h')) λ_ _ x=>x.elim))))
theorem mF{elt t1 i1 t2 i2:Expr}{scope:Scope}{pos:Pos}{it acc:Value}{env:Env}(hs2:∀x,Cz i2 env x=pure x)(J:Nat->Ai->Prop) (turn:∀n s,J n s->wpAny (model prog w) A (Hi it) (λr s1=>match r with
    | none=>R (.ok .next) s1
    | some v=>wpAny (model prog w) A (Ho t1 it v) (λ_ s2=>wpAny (model prog w) A (Oc t1 env v) (λ_ s3 =>
      wpAny (model prog w) A (eval i2 env) (λx s4=>wpAny (model prog w) A (Zn x) (λit2 s5 =>
       Hb (model prog w) A (.compStart (.ListComp elt [⟨t1,i1,[],0⟩,⟨t2,i2,[],0⟩] scope pos) 1 it2 acc env) (λr s6=>match r with | .ok _=>∃m,m<n/\J m s6 | .error _=>False) s5) (λ_ _=>False) s4) (λ_ _=>False) s3) (λ_ _=>False) s2) (λ_ _=>False) s1) (λ_ _=>False) s)
  (n:Nat) (h:J n s):Hb (model prog w) A (.compLoop (.ListComp elt [⟨t1,i1,[],0⟩,⟨t2,i2,[],0⟩] scope pos) 0 it acc env) R s:=by
 w_pre r8
 show wpAny _ A (Sem.onRaise (compTurn (.ListComp elt [⟨t1,i1,[],0⟩,⟨t2,i2,[],0⟩] scope pos) 0 it acc env) (λx=>do noteFrame x env; theTreesLotGoes x)) _ _ s
 refine wpAny_noted ?_
 rw[eM]
 w_pre f7
 cases r with
 | none=>exact Ac h1
 | some v =>
  w_pre i4
  refine Aa (Cq h3 (λx s4 h4=>?_) λ_ _ z=>z.elim)
  refine Aa (Ib (Aa (Jb (hs2 x) (Aa (Ck (Cq h4 (λit2 s5 h5=>?_) λ_ _ z=>z.elim))))))
  refine Aa (wpAny_runOwn ?_)
  refine Nz h5 λr s6 h6=>?_
  cases r with
  | ok f=>exact Ac ⟨rfl,h6⟩
  | error e=>exact h6.elim
theorem kR{elt t1 i1 t2 i2:Expr}{scope:Scope}{pos:Pos}{it acc:Value}{env:Env}(J:Nat->Ai->Prop) (turn:∀n s,J n s->wpAny (model prog w) A (Hi it) (λr s1=>match r with
    | none=>R (.ok .next) s1
    | some v=>wpAny (model prog w) A (Ho t2 it v) (λ_ s2=>wpAny (model prog w) A (Oc t2 env v) (λ_ s3 =>
      wpAny (model prog w) A (eval elt env) (λx s5=>wpAny (model prog w) A (call (.builtin "list.append") [acc,x]) (λ_ s6=>∃m,m<n/\J m s6) (λ_ _=>False) s5) (λ_ _=>False) s3) (λ_ _=>False) s2) (λ_ _=>False) s1) (λ_ _=>False) s)
  (n:Nat) (h:J n s):Hb (model prog w) A (.compLoop (.ListComp elt [⟨t1,i1,[],0⟩,⟨t2,i2,[],0⟩] scope pos) 1 it acc env) R s:=by
 w_pre r8
 show wpAny _ A (Sem.onRaise (compTurn (.ListComp elt [⟨t1,i1,[],0⟩,⟨t2,i2,[],0⟩] scope pos) 1 it acc env) (λx=>do noteFrame x env; theTreesLotGoes x)) _ _ s
 refine wpAny_noted ?_
 rw[eB]
 w_pre f7
 cases r with
 | none=>exact Ac h1
 | some v =>
  w_pre i4
  refine Aa (Aa (Cq h3 (λx s5 h5=>?_) λ_ _ z=>z.elim))
  w_pre a9
end
section
variable{X:Cx}
def AN(J:It)(js:List Nat)(wi2:TI)(te:TE)(σ:L2.St)(H1:Hp)(Q:VK):Prop:=∀D,H1 D=none->∃W:Nat->Nat->Hp->Prop,(∃m,W 0 m (upd H1 D (.lst [])))/\∀i m H,W i m H ->
 (J.stop i H/\Q (.ref D) H)\/(J.go i H/\∀x H',J.yld i H x H'->∀o:Option V,wi2 (some x::o::Ei σ js) H' λJ2 H2=>∃W2:Nat->Nat->Hp->Prop,(∃m2,W2 0 m2 H2)/\∀i2 m2 H3,W2 i2 m2 H3 ->
  (J2.stop i2 H3/\∃m',m'<m/\W (i+1) m' H3)\/(J2.go i2 H3/\∀y H4,J2.yld i2 H3 y H4->te (some x::some y::Ei σ js) H4 λz H5=>∃acc,H5 D=some (.lst acc)/\acc.length<Aq/\∃m2',m2'<m2/\W2 (i2+1) m2' (upd H5 D (.lst (acc++[z])))))
def X6(wi:TI)(js:List Nat)(wi2:TI)(te:TE):TE:=λσ H Q=>wi σ H λJ H1=>AN J js wi2 te σ H1 Q
end
end Nd
namespace DL
open PySem L2 Nd
def al(e:Ent):Ent:=match e.x with
 | .dat m d=>⟨e.v,.dat (kP m) d,e.F⟩
 | .val _=>e
 | .scr _=>e
 | _=>⟨e.v,.un,[]⟩
def alD:DV->DV
 | .dat m d=>.dat (kP m) d
 | .val v=>.val v
 | .scr ns=>.scr ns
 | _=>.un
def o7(S:List Ent)(j:Nat):Ent:=match S[j]? with
 | some e=>al e
 | none=>⟨none,.un,[]⟩
def Va(S:List Ent)(js:List Nat):List Ent:=js.map (o7 S)
def frD1(sl:List DV)(j:Nat):DV:=match sl[j]? with
 | some x=>alD x
 | none=>.un
def frD(sl:List DV)(js:List Nat):List DV:=js.map (frD1 sl)
theorem HK(e:Ent):(al e).v=e.v:=by
 w_pre t5
theorem HN(e:Ent):(al e).x=alD e.x:=by
 w_pre t5
theorem cI(S:List Ent)(js:List Nat):vs (Va S js)=Ei (vs S) js:=by
 unfold vs Va Ei
 rw[Dn]
 refine Jd λj _=>?_
 rw[Bj]
 simp only[Function.comp,o7]
 cases S[j]? with
 | none=>rfl
 | some e=>exact HK e
theorem bH{S:List Ent}{δ:DS}(h:Sl S δ)(js:List Nat):(Va S js).map Ent.x=frD δ.sl js:=by
 unfold Sl at h
 unfold Va frD
 rw[Dn]
 refine Jd λj _=>?_
 simp only[Function.comp,o7,frD1]
 rw[<- h,Bj]
 cases S[j]? with
 | none=>rfl
 | some e=>exact HN e
section
variable{K:PySem.W.Frag}{H0 H H':Hp}{X:Addr->Prop}{n:Nat}{E S T:List Ent}
theorem oO(e:Ent):cells (al e)=[]:=by
 w_pre e8
 cases x with
 | dat m d=>cases m <;> rfl
 | _=>rfl
theorem At.view1(h:At K H0 X n E H){e:Ent}(he:e∈E):At K H0 X n (al e::E) H:=by
 refine h.push ?_ (λf hf=>⟨λ_ a ha=>(by rw[oO] at ha; cases ha),λhq a ha z=>?_⟩) λa ha=>(by rw[oO] at ha; cases ha)
 ·have:=h.ok e he
  w_pre e8
  cases x with
  | dat m d =>
   obtain ⟨w,h1,h2,_⟩:=this
   exact ⟨w,h1,h2,λz=>(by cases m <;> cases z),λz=>(by cases m <;> cases z)⟩
  | val v=>exact this
  | scr ns=>exact this
  | _=>exact (rfl:([]:List Addr)=[])
 ·obtain ⟨v,x,F⟩:=e
  cases x with
  | dat m d =>
   rcases qP h he hf with rfl | q
   w_pre x2
   ·refine q.2 ?_ a ha z
    w_pre x0
  | val v =>
   rw[show F=[] from (h.ok _ he).2] at z
   cases z
  | scr ns =>
   obtain ⟨_,_,hF,_⟩:=h.ok _ he
   rw[show F=[] from hF] at z
   cases z
  | _=>exact nomatch z
theorem At.blank(h:At K H0 X n E H){v:Option V}:At K H0 X n (⟨v,.un,[]⟩::E) H :=
 h.push (rfl:([]:List Addr)=[]) (λf _=>⟨λ_ a ha=>(nomatch ha),λ_ a _=>Bd⟩) (λa ha=>(nomatch ha))
theorem At.view(h:At K H0 X n E H)(hS:∀e∈S,e∈E):∀js:List Nat,At K H0 X n (Va S js++E) H
 | []=>h
 | j::js=>by
  have ih:=At.view h hS js
  show At K H0 X n (o7 S j::(Va S js++E)) H
  unfold o7
  cases e:S[j]? with
  | none=>exact ih.blank
  | some x=>exact ih.view1 (Ag _ (hS x (Be e)))
theorem At.accNew(h:At K H0 X n E H){D:Addr}(hD:H D=Qv):At K H0 X n (⟨some (.ref D),.acc [],[D]⟩::E) (upd H D (.lst [])):=by
 have s1:=Fe hD (.lst [])
 refine (h.grow (n':=n) s1 (Aj _)).push ⟨D,[],[],rfl,rfl,Ds,.nil,Di _,Bd⟩ (λf hf=>?_) λa ha=>?_
 w_pre v
theorem At.accPutG{D:Addr}{ds:List Ae}{v:V}{m:Md}{e:Ae}{F G:List Addr}(h:At K H0 X n (⟨some (.ref D),.acc ds,D::G⟩::⟨some v,.dat m e,F⟩::E) H)(hm:m≠.pk)(hz:ds.length+1<=Aq):∃xs,H D=some (.lst xs)/\xs.length=ds.length/\At K H0 X n (⟨some (.ref D),.acc (ds++[e]),D::(G++F)⟩::E) (upd H D (.lst (xs++[v]))):=by
 obtain ⟨a,xs,G',e1,e0,ha,ra,_,nG⟩:=h.ok _ Ab
 w_pre n1
 have r:RdF K H v e F:=h.told (Ad _ Ab)
 have hs:=Bb.mp h.sep
 have hs2:=Bb.mp hs.2
 have h1:=(h.sub (Cy _ _)).sub (Cy _ _)
 have npk:Pw (.dat m e)=false:=by cases m <;> first | rfl | exact absurd rfl hm
 have nF:D∉F:=(hs.1 _ Ab).1 (.inr rfl) D Ab
 have kp:∀{F:List Addr},D∉F->Kp F H (upd H D (.lst (xs++[v]))):=λ{F} hF b o q z=>by
  w_pre r
 have nD:H0 D=Qv:=by
  w_pre r3
 refine ⟨xs,ha,ra.len,?_⟩
 w_pre s8
 rotate_right
 ·obtain ⟨z,c,k,f,h1,h2⟩:=h.xd b hb
  w_pre o3
 ·rcases An.mp hf with rfl | hf
  ·exact ⟨D,xs++[v],G++F,rfl,rfl,Ds,(ra.kp (kp nG)).snoc (r.kp (kp nF)),by rw[Bf]; exact hz,λz=>(Aw.mp z).elim nG nF⟩
  ·exact (h1.ok f hf).kp (kp ((hs.1 f (Ad _ hf)).1 (.inr rfl) D Ab)) (Aj _)
 ·refine Bb.mpr ⟨λf hf=>⟨λhq a ha'=>(hs.1 f (Ad _ hf)).1 (.inr rfl) a ha',λhq a ha' z=>?_⟩,hs2.2⟩
  have z1:=(hs.1 f (Ad _ hf)).2 (.inl rfl) a ha'
  rcases An.mp z with z | z
  ·exact z1 (z▸Ab)
  ·rcases Aw.mp z with z | z
   ·exact z1 (Ad _ z)
   ·exact (hs2.1 f hf).2 (.inl npk) a ha' z
 ·rcases An.mp hf with rfl | hf
  ·intro a ha'
   rw[Al.mp ha']
   exact .inl nD
  ·exact h1.new f hf
 w_pre p1
theorem At.accPut{D:Addr}{ds:List Ae}{v:V}{e:Ae}(h:At K H0 X n (⟨some (.ref D),.acc ds,[D]⟩::E) H)(r:RdF K H v e [])(hz:ds.length+1<=Aq):∃xs,H D=some (.lst xs)/\xs.length=ds.length/\At K H0 X n (⟨some (.ref D),.acc (ds++[e]),[D]⟩::E) (upd H D (.lst (xs++[v]))) :=
 At.accPutG (m:=.ow) (At.pushI (S:=[⟨some (.ref D),.acc ds,[D]⟩]) h r) (by decide) hz
def Ss:Bool->Md
 | true=>.ow
 | false=>.tp
theorem At.accGetG{D:Addr}{ds:List Ae}{b:Bool}{G:List Addr}(h:At K H0 X n (⟨some (.ref D),.acc ds,D::G⟩::E) H)(hb:b=true->G=[]):At K H0 X n (⟨some (.ref D),.dat (Ss b) (.list ds),D::G⟩::E) H:=by
 obtain ⟨a,xs,G',e1,e0,ha,ra,hz,nG⟩:=h.ok _ Ab
 w_pre n1
 have hs:=Bb.mp h.sep
 have cs:∀a∈cells ⟨some (.ref D),.dat (Ss b) (.list ds),D::G⟩,a=D:=λa ha'=>by
  cases b with
  | true=>rw[hb rfl] at ha'; exact Al.mp ha'
  | false=>exact Al.mp ha'
 refine (h.sub (Cy _ _)).push ⟨_,rfl,.lst ha hz ra,λz=>?_,λ_ a l e=>?_⟩ (λf hf=>⟨λhq a ha'=>?_,λhq a ha'=>(hs.1 f hf).2 (.inl rfl) a ha'⟩) λa ha'=>?_
 ·cases b with
  | true=>rw[hb rfl]; exact Co.mpr ⟨Bd,Dv⟩
  | false=>cases z
 ·have e:D::G=a::l:=e
  cases e
  exact nG
 ·rw[cs a ha']
  exact (hs.1 f hf).1 (.inr rfl) D Ab
 ·rw[cs a ha']
  rcases h.new _ Ab D Ab with z | z
  w_pre b5
theorem At.accGet{D:Addr}{ds:List Ae}(h:At K H0 X n (⟨some (.ref D),.acc ds,[D]⟩::E) H):At K H0 X n (⟨some (.ref D),.dat .ow (.list ds),[D]⟩::E) H:=At.accGetG (b:=true) h λ_=>rfl
end
def My:DT:=λδ P=>P true δ
def AI(b:Bool)(m:Md)(e:Ae):Prop:=match b with
 | true=>imm e=true
 | false=>m≠.pk
def Ls(b:Bool)(dc:DT)(de:DE)(δ:DS)(yes:Ae->Nat->Prop)(no:Nat->Prop):Prop:=dc δ λc δ2=>match c with
 | true=>de δ2 λy δ3=>match y with
  | .dat m e=>AI b m e/\yes e δ3.n
  | _=>False
 | false=>no δ2.n
def p7(b:Bool)(di:DI)(js:List Nat)(dc:DT)(de:DE):DE:=λδ P=>di δ λm ds δ1=>∃I:Nat->List Ae->Nat->Prop,I 0 [] δ1.n /\
 (∀i d acc n,ds[i]? = some d->I i acc n->Ls b dc de ⟨.dat m d::frD δ1.sl js,n⟩ (λe n'=>I (i+1) (acc++[e]) n') (λn'=>I (i+1) acc n')) /\
 ∀acc n,I ds.length acc n->P (.dat (Ss b) (.list acc)) ⟨δ1.sl,n⟩
def tP(b:Bool)(di:DI)(js:List Nat)(dc:DT)(de:DE):DE:=λδ P=>di δ λm ds δ1=>∃I:Nat->List Ae->Nat->Prop,I 0 [] δ1.n /\
 (∀i d acc n,ds[i]? = some d->I i acc n->∃d1 d2,d=.tuple [d1,d2]/\Ls b dc de ⟨.dat m d1::.dat m d2::frD δ1.sl js,n⟩ (λe n'=>I (i+1) (acc++[e]) n') (λn'=>I (i+1) acc n')) /\
 ∀acc n,I ds.length acc n->P (.dat (Ss b) (.list acc)) ⟨δ1.sl,n⟩
def Oz:DT->DE->DS->(Ae->Nat->Prop)->(Nat->Prop)->Prop:=Ls true
def x3:DI->List Nat->DT->DE->DE:=p7 true
def u9:DI->List Nat->DT->DE->DE:=tP true
section
variable{K:PySem.W.Frag}{H0 H H':Hp}{Y:Addr->Prop}{n:Nat}{E S T:List Ent}
theorem Xj{b:Bool}{dc:DT}{de:DE}{δ:DS}{yes:Ae->Nat->Prop}{no:Nat->Prop}{D:Addr}{G:List Addr}{acc:List Ae}{N1:Hp->Prop}{N2:VK}(hS:Sl S δ)(hb:b=true->G=[])(hA:At K H0 Y δ.n (S++⟨some (.ref D),.acc acc,D::G⟩::T) H)(h:Ls b dc de δ yes no)(hz:acc.length+1<=Aq)(k1:∀n' H',At K H0 Y n' (⟨some (.ref D),.acc acc,D::G⟩::T) H'->no n'->N1 H')(k2:∀e n' v H' G',(b=true->G'=[])->(∃xs,H' D=some (.lst xs)/\xs.length=acc.length/\At K H0 Y n' (⟨some (.ref D),.acc (acc++[e]),D::G'⟩::T) (upd H' D (.lst (xs++[v]))))->yes e n'->N2 v H'):LT K dc (vs S) H λc H2=>if c=true then LE K de (vs S) H2 N2 else N1 H2:=by
 refine ⟨H0,Y,S,⟨some (.ref D),.acc acc,D::G⟩::T,δ,_,rfl,hS,hA,h,λc δ2 S2 H2 e1 e2 hA2 p2=>?_⟩
 cases c with
 | false=>exact nX (k1 _ _ (hA2.sub (Bk _ _)) p2)
 | true =>
  refine lZ ⟨H0,Y,S2,⟨some (.ref D),.acc acc,D::G⟩::T,δ2,_,e1,e2,hA2,p2,λy δ3 v F S3 H3 e3 e4 hA3 p3=>?_⟩
  split at p3
  ·rename_i m e
   have r:=hA3.told mem_mid
   cases b with
   | true =>
    obtain rfl:=r.imm p3.1
    obtain rfl:=hb rfl
    exact k2 _ _ _ _ [] (λ_=>rfl) ((hA3.drop.sub (Bk _ _)).accPut r hz) p3.2
   | false =>
    have hA4:At K H0 Y δ3.n (⟨some v,.dat m e,F⟩::⟨some (.ref D),.acc acc,D::G⟩::T) H3:=hA3.sub (Bk _ _)
    exact k2 _ _ _ _ (G++F) (λz=>nomatch z) ((hA4.perm (Dk _ _ _)).accPutG p3.1 hz) p3.2
  ·exact p3.elim
theorem Ys{dt:TT}:∀σ H Q,LT K My σ H Q->Ry σ H Q:=by
 intro σ H Q h
 w_pre g7
 exact k true δ S H rfl hS hA hd
theorem qN.imp{X:Cx}{e:List Expr}{t t':TT}(h:qN X e t)(k:∀σ H Q,t' σ H Q->t σ H Q):qN X e t':=λpins s σ H Q I q=>h pins s σ H Q I (k σ H Q q)
theorem sG{b:Bool}{di:DI}{js:List Nat}{dc:DT}{de:DE}:∀σ H Q,LE K (p7 b di js dc de) σ H Q->lP (LI K di) js (LT K dc) (LE K de) σ H Q:=by
 w_pre o
 ·refine .inr ⟨it.go H n i hid_ok hlt,λx H' y=>?_⟩
  w_pre e4
  have hA4:=hA3.mid
  have hA5:=At.view (S:=S1) hA4 (λe he=>Ad _ (Ak _ (Ad _ he))) js
  have hA6:At K H0 Y n ((⟨some x,.dat m d,F⟩::Va S1 js)++⟨some (.ref D),.acc acc,D::G⟩::(S1++(hid++T))) H':=hA5.mid
  have hS6:Sl (⟨some x,.dat m d,F⟩::Va S1 js) ⟨.dat m d::frD δ1.sl js,n⟩:=by
   unfold Sl
   rw[Ao,bH e2]
  have hv:vs (⟨some x,.dat m d,F⟩::Va S1 js)=some x::Ei (vs S1) js:=by
   rw[<- cI]
   rfl
  w_pre m4
  refine Xj hS6 hG hA6 (hs i d acc n h1 hI) (by omega) (λn' H2 hA7 p=>?_) (λe n' v H2 G' hG' hA7 p=>?_)
  w_pre b2
 w_pre z
theorem A9{b:Bool}{di:DI}{js:List Nat}{dc:DT}{de:DE}:∀σ H Q,LE K (tP b di js dc de) σ H Q->yZ K (LI K di) js (LT K dc) (LE K de) σ H Q:=by
 w_pre o
 ·refine .inr ⟨it.go H n i hid_ok hlt,λx H' y=>?_⟩
  w_pre j2
  cases rt with
  | @cons w1 _ xs _ F1 _ r1 rt =>
   cases rt with
   | @cons w2 _ xs _ F2 G r2 rt =>
    cases rt
    have hA3:At K H0 Y n ((⟨some (.ref D),.acc acc,D::G⟩::S1)++⟨some w1,.dat m d1,F1⟩::(hid++T)) H':=At.item (S:=⟨some (.ref D),.acc acc,D::G⟩::S1) hA2 s1 r1 (λa ha=>h3 a (Ak _ ha)) it.md it.hd it.np
    have hA3':At K H0 Y n ((⟨some w1,.dat m d1,F1⟩::⟨some (.ref D),.acc acc,D::G⟩::S1)++(hid++T)) H':=hA3.mid
    have hA3'':At K H0 Y n ((⟨some w1,.dat m d1,F1⟩::⟨some (.ref D),.acc acc,D::G⟩::S1)++⟨some w2,.dat m d2,F2⟩::(hid++T)) H':=At.item hA3' (Sx.refl _) r2 (λa ha=>h3 a (Ag _ (Ak _ ha))) it.md it.hd it.np
    have hA4:At K H0 Y n (⟨some w1,.dat m d1,F1⟩::⟨some w2,.dat m d2,F2⟩::⟨some (.ref D),.acc acc,D::G⟩::(S1++(hid++T))) H':=hA3''.mid.perm (Dk _ _ _)
    have hA5:=At.view (S:=S1) hA4 (λe he=>Ad _ (Ad _ (Ad _ (Ak _ he)))) js
    have hA6:At K H0 Y n ((⟨some w1,.dat m d1,F1⟩::⟨some w2,.dat m d2,F2⟩::Va S1 js)++⟨some (.ref D),.acc acc,D::G⟩::(S1++(hid++T))) H':=by
     w_pre w3
    have hS6:Sl (⟨some w1,.dat m d1,F1⟩::⟨some w2,.dat m d2,F2⟩::Va S1 js) ⟨.dat m d1::.dat m d2::frD δ1.sl js,n⟩:=by
     unfold Sl
     rw[Ao,Ao,bH e2]
    have hv:vs (⟨some w1,.dat m d1,F1⟩::⟨some w2,.dat m d2,F2⟩::Va S1 js)=some w1::some w2::Ei (vs S1) js:=by
     rw[<- cI]
     rfl
    refine ⟨t,w1,w2,rfl,Ta.of ht,λH2=>∃m',m'<ds.length - i/\_,λy H3=>∃acc,H3 D=some (.lst acc)/\acc.length<Aq/\∃m',m'<ds.length - i/\_,λH2 q=>q,λy H3 q=>q,?_⟩
    rw[<- hv]
    refine Xj hS6 hG hA6 hst (by omega) (λn' H2 hA7 p=>?_) (λe n' v H2 G' hG' hA7 p=>?_)
    w_pre b2
 w_pre z
end
section
variable{X:Cx}{elt iter c:Expr}{x x2 y0:Str}{px px2 pt py pos spos:Pos}{kt i0:Nat}{ifs:List Expr}{scope:Scope}{cl:List (Str×Addr)}{ys:List Str}{js:List Nat}{di:DI}{dc:DT}{de:DE}
theorem Na:qN X [] (LT X.K My):=qN.imp yA (Ys (dt:=Ry))
theorem uA(h:lW X c dc):qN X [c] (LT X.K dc):=R5 h
theorem Xn(C:CompScope X scope cl x ys js)(hc:X.calm=true)(hi:vZ X (.Name x px) iter di)(ht:∀fp s H,qN (Dm X scope cl (x::ys) fp s H) ifs (LT X.K dc))(he:∀fp s H,Fm (Dm X scope cl (x::ys) fp s H) elt de)(hs:∀x,Cz iter X.env x=pure x:=by intro _; rfl):Fm X (.ListComp elt [⟨.Name x px,iter,ifs,0⟩] scope pos) (x3 di js dc de):=PE.imp (tN C hc hi ht he hs) sG
theorem A8(C:CompScope X scope cl x ys js)(own2:bS scope x2)(nd2:(x::x2::ys).Nodup)(hc:X.calm=true)(hi:vZ X (.Tuple [.Name x px,.Name x2 px2] kt pt) iter di)(ht:∀fp s H,qN (Dm X scope cl (x::x2::ys) fp s H) ifs (LT X.K dc))(he:∀fp s H,Fm (Dm X scope cl (x::x2::ys) fp s H) elt de)(hs:∀x,Cz iter X.env x=pure x:=by intro _; rfl):Fm X (.ListComp elt [⟨.Tuple [.Name x px,.Name x2 px2] kt pt,iter,ifs,0⟩] scope pos) (u9 di js dc de):=PE.imp (xU C own2 nd2 hc hi ht he hs) A9
def HW(o:Bool)(i:Nat):DG:=match o with
 | true=>gD i
 | false=>Tc i
theorem HQ{K:PySem.W.Frag}{o:Bool}{i:Nat}:∀v σ H Q,LG K (HW o i) v σ H Q->Sr i v σ H Q:=by
 cases o with
 | true=>exact i9
 | false=>exact jO
theorem L0{o:Bool}(hN:X.N.Nodup)(hi0:X.N[i0]? = some y0)(hy0:X.env.scope.names.lookup y0=some .local)(C:CompScope X scope cl x ys js)(hc:X.calm=true)(hi:vZ X (.Name x px) iter di)(ht:∀fp s H,qN (Dm X scope cl (x::ys) fp s H) ifs (LT X.K dc))(he:∀fp s H,Fm (Dm X scope cl (x::ys) fp s H) elt de)(hs:∀x,Cz iter X.env x=pure x:=by intro _; rfl)(hsw:Nh (.ListComp elt [⟨.Name x px,iter,ifs,0⟩] scope pos) (some (.Name y0 py)) spos.line X.env=pure true:=by rfl):xJ X (.Assign [.Name y0 py] (.ListComp elt [⟨.Name x px,iter,ifs,0⟩] scope pos) spos) (zD (x3 di js dc de) (HW o i0)):=PS.impD (O8 hN hi0 hy0 C hc hi ht he hs hsw) (qT sG HQ)
end
end DL
namespace DL
open PySem PySem.Spec PyProof.Rows L2 Nd
section
variable{K:PySem.W.Frag}{H0 H H':Hp}{X:Addr->Prop}{n n':Nat}{E S T:List Ent}
theorem At.pushF(h:At K H0 X n E H){v:V}{d:Ae}{F:List Addr}(r:RdF K H v d F)(nd:F.Nodup)(fr:∀a∈F,∀f∈E,a∉f.F)(f0:∀a∈F,H0 a=none):At K H0 X n (⟨some v,.dat .ow d,F⟩::E) H:=by
 refine h.push ⟨v,rfl,r,λ_=>nd,λz=>nomatch z⟩ (λf hf=>⟨λ_ a ha z=>fr a ha f hf z,λ_ a ha z=>fr a z f hf (Gs _ _ ha)⟩) λa ha=>.inl (f0 a ha)
theorem At.drawn(h:At K H0 X n E H){e:Ent}{dr:Addr}(he:e∈E)(hx:e.x=.drw)(hv:e.v=some (.ref dr))(s:Zi dr H H')(hd:∃c k f,iH H' dr c k f/\0<=k/\k<=(n':Int))(hn:n<=n'):At K H0 X n' E H':=by
 w_pre e8
 have hx':x=.drw:=hx
 subst hx'
 obtain ⟨dr',c0,k0,f0,hv',hF,hd0,_⟩:=h.ok _ he
 have e1:some (V.ref dr)=some (V.ref dr'):=hv.symm.trans hv'
 cases e1
 have hF':F=[dr]:=hF
 subst hF'
 refine ⟨λf hf=>?_,h.sep,h.new,λb o nx q=>?_,λb o q=>?_,λb hb=>?_⟩
 rotate_right
 ·obtain ⟨z,c,k,f,h1,h2,h3⟩:=h.xd b hb
  by_cases hbd:b=dr
  ·subst hbd
   exact ⟨z,hd⟩
  ·exact ⟨z,c,k,f,s _ _ hbd h1,h2,by omega⟩
 ·rcases qP h he hf with rfl | q
  ·obtain ⟨c,k,fl,h1,h2,h3⟩:=hd
   exact ⟨dr,c,k,fl,hv',rfl,h1,h2,h3⟩
  ·have nf:dr∉f.F:=q.1 (.inr rfl) dr Ab
   refine (h.ok f hf).kp (λb o eb z=>?_) hn
   by_cases hb:b=dr
   ·subst hb
    rcases z with z | z
    ·exact absurd z nf
    ·have hd0':H b=some (.lst _):=hd0
     rw[eb] at hd0'
     cases hd0'
     rcases z with ⟨_,z⟩ | ⟨_,_,z⟩ <;> cases z
   ·exact s b o hb eb
 ·have hb:b≠dr:=by
   rintro rfl
   rcases h.new _ he b Ab with z | z
   ·rw[z] at q; cases q
   ·exact nx z.1
  exact s b o hb (h.same b o nx q)
 ·by_cases hb:b=dr
  ·subst hb
   obtain ⟨c,k,fl,h1,_⟩:=hd
   exact ⟨_,h1⟩
  ·obtain ⟨o',z⟩:=h.dom b o q
   exact ⟨o',s b o' hb z⟩
end
abbrev PF:=List Ae->(Ae->Prop)->Prop
abbrev DF:=List Ae->Nat->(Ae->Nat->Prop)->Prop
def bJ(K:PySem.W.Frag)(pf:PF):Sp:=λus H Q _=>∃(As:List Ent) (n:Nat) (ds:List Ae) (R:Ae->Prop),As.map Ent.v=us.map some/\(∀e∈As,Gr K H n e)/\datas (As.map Ent.x)=some ds/\pf ds R /\
 ∀v d F H',R d->RdF K H' v d F->F.Nodup->(∀a∈F,H a=none)->Sx H H'->Q v H'
def rF(K:PySem.W.Frag)(df:DF):Sp:=λus H Q _=>∃(dr:Addr) (ws:List V) (As:List Ent) (n:Nat) (ds:List Ae) (R:Ae->Nat->Prop),us=.ref dr::ws/\As.map Ent.v=ws.map some/\(∀e∈As,Gr K H n e)/\(∀e∈As,dr∉e.F)/\(∃c k f,iH H dr c k f/\0<=k/\k<=(n:Int))/\datas (As.map Ent.x)=some ds/\df ds n R /\
 ∀v d F n' H',n<=n'->R d n'->RdF K H' v d F->F.Nodup->(∀a∈F,H a=none)->(∃c k f,iH H' dr c k f/\0<=k/\k<=(n':Int))->Zi dr H H'->Q v H'
def zF(pf:PF)(da:DA):DE:=λδ P=>da δ λxs δ1=>match datas xs with
 | some ds=>pf ds λd=>P (.dat .ow d) δ1
 | none=>False
def qM(i:Nat)(df:DF)(da:DA):DE:=λδ P=>match δ.sl[i]? with
 | some .drw=>da δ λxs δ1=>match δ1.sl[i]? with
  | some .drw=>match datas xs with
   | some ds=>df ds δ1.n λd n'=>P (.dat .ow d) ⟨δ1.sl,n'⟩
   | none=>False
  | _=>False
 | _=>False
section
variable{X:Cx}{CX:wA}{k:Nat}{f:Addr}{fd:Dc}{ps:List Str}{pf:PF}{df:DF}{E:XK}{x:Str}{p pos:Pos}{e e0:Expr}{es:List Expr}{da:DA}
theorem Om(F:FnOk X.prog X.w X.K X.mg X.base CX k f fd ps (bJ X.K pf))(hr:Room k X.A)(hg:Gl X x)(hm:X.mg x=some (.ref f))(hk:PySem.W.keepIn X.K (.ref f)=true)(hb:Binds X.K fd ps [])(hx:Rr CX X E)(ha:oS X (e::es) da)(hdb:(x == ("__debug__" : Str))=false:=by decide)(he:Bn (e::es) X.env=(false,eval e X.env)::Bn es X.env:=by rfl)(hpl:(Hj pos (Bn es X.env)).any (·.1)=false:=by rfl):Fm X (.Call (.Name x p) (e::es) [] pos) (zF pf da):=by
 w_pre w0
 cases q:datas (As.map Ent.x) with
 | none=>rw[q] at p; exact p.elim
 | some ds =>
  rw[q] at p
  rw[Ec]
  refine ⟨As,δ'.n,ds,_,eu,λe he=>hA'.ok e (Ag _ (Ak _ he)),q,p,λv d F H'' r rd nd fr s=>?_⟩
  exact kk _ δ' v F S' H'' e1 e2 (((hA'.dropL.grow s (Aj _)).pushF rd nd (λa ha=>hA'.dropL.free (fr a ha)) (λa ha=>hA'.new0 (fr a ha))).tomid) r
theorem FP(F:FnOk X.prog X.w X.K X.mg X.base CX k f fd ps (bJ X.K pf))(hr:Room k X.A)(hg:Gl X x)(hm:X.mg x=some (.ref f))(hk:PySem.W.keepIn X.K (.ref f)=true)(hb:Binds X.K fd ps [])(hx:Rr CX X E)(hdb:(x == ("__debug__" : Str))=false:=by decide):Fm X (.Call (.Name x p) [] [] pos) (zF pf AH):=by
 refine PE.imp (u3 F hr hg hm hk hb .nil hx hdb) λσ H Q h=>?_
 w_pre h8
 show bJ X.K pf [] H Q E
 refine ⟨[],δ.n,[],_,rfl,λe he=>(nomatch he),rfl,hd,λv d F H'' r rd nd fr s=>?_⟩
 exact kk _ δ v F S H'' rfl hS (((hA.grow s (Aj _)).pushF rd nd (λa ha=>hA.free (fr a ha)) (λa ha=>hA.new0 (fr a ha))).tomid) r
theorem Hz{i:Nat}(F:FnOk X.prog X.w X.K X.mg X.base CX k f fd ps (rF X.K df))(hr:Room k X.A)(hg:Gl X x)(hm:X.mg x=some (.ref f))(hk:PySem.W.keepIn X.K (.ref f)=true)(hb:Binds X.K fd ps [])(hx:Rr CX X E)(h0:PE X e0 (dU i))(ha:oS X es da)(hdb:(x == ("__debug__" : Str))=false:=by decide)(he:Bn (e0::es) X.env=(false,eval e0 X.env)::Bn es X.env:=by rfl)(hpl:(Hj pos (Bn es X.env)).any (·.1)=false:=by rfl):Fm X (.Call (.Name x p) (e0::es) [] pos) (qM i df da):=by
 refine PE.imp (aM F hr hg hm hk hb .nil hx (Ia h0 ha he) hdb he hpl) λσ H Q h=>?_
 w_pre h8
 unfold qM at hd
 w_pre z6
 case h_2=>exact hd.elim
 rename_i hsl0
 have main:∀w,(vs S)[i]? = some (some w)->LA X.K da (vs S) H λxs H2=>rF X.K df ((w::xs)++[]) H2 Q E:=λw hw=>by
  w_pre n8
  subst ex
  split at p
  ·rename_i hsl
   obtain ⟨ent,s1,s2⟩:=Ks e2 hsl
   have hm':ent∈S':=Be s1
   have hv:ent.v=some w:=by
    have:=Nu s1
    rw[e1,hw] at this
    exact (Bv this).symm
   w_pre x3
   have hE:(⟨u,.drw,F⟩ : Ent)∈S'++(As++T):=Ak _ hm'
   obtain ⟨dr,c0,k0,f0,hv0,hF0,hd0,hk0,hk1⟩:=hA'.ok _ hE
   have ew:some w=some (V.ref dr):=hv.symm.trans hv0
   cases ew
   have hF':F=[dr]:=hF0
   subst hF'
   cases q:datas (As.map Ent.x) with
   | none=>rw[q] at p; exact p.elim
   | some ds =>
    rw[q] at p
    rw[Ec]
    refine ⟨dr,us,As,δ'.n,ds,_,rfl,eu,λe he=>hA'.ok e (Ag _ (Ak _ he)),λe he=>?_,⟨c0,k0,f0,hd0,hk0,hk1⟩,q,p,λv d F n' H'' hn r rd nd fr hdr s=>?_⟩
    ·rcases Cr.mp hA'.sep with ⟨_,_,hp⟩
     exact (hp _ hm' e (Ak _ he)).1 (.inr rfl) dr Ab
    ·have hA2:=hA'.dropL.drawn (Ak _ hm') rfl hv s hdr hn
     exact kk _ ⟨δ'.sl,n'⟩ v F S' H'' e1 e2 ((hA2.pushF rd nd (λa ha=>hA'.dropL.free (fr a ha)) (λa ha=>hA'.new0 (fr a ha))).tomid) r
  ·exact p.elim
 obtain ⟨ent,s1,s2⟩:=Ks hS hsl0
 have hm':ent∈S:=Be s1
 w_pre x3
 obtain ⟨dr,c0,k0,f0,hv0,_⟩:=hA.ok _ (Ak _ hm')
 have hw:(vs S)[i]? = some (some (.ref dr)):=(Nu s1).trans (congrArg some hv0)
 exact ⟨_,hw,main _ hw⟩
def Xh:Sp:=λvs H Q _=>∃c:Int,vs=[.int c]/\∀(p:Addr) (c':Int) (f:Bool) (H':Hp),H p=none->iH H' p c' 0 f->Sx H H'->Q (.ref p) H'
def r0(da:DA):DE:=λδ P=>da δ λxs δ1=>match xs with
 | [.dat _ (.int _)]=>P .drw δ1
 | _=>False
theorem xX(F:FnOk X.prog X.w X.K X.mg X.base CX k f fd ps Xh)(hr:Room k X.A)(hg:Gl X x)(hm:X.mg x=some (.ref f))(hk:PySem.W.keepIn X.K (.ref f)=true)(hb:Binds X.K fd ps [])(hx:Rr CX X E)(ha:oS X (e::es) da)(hdb:(x == ("__debug__" : Str))=false:=by decide)(he:Bn (e::es) X.env=(false,eval e X.env)::Bn es X.env:=by rfl)(hpl:(Hj pos (Bn es X.env)).any (·.1)=false:=by rfl):Fm X (.Call (.Name x p) (e::es) [] pos) (r0 da):=by
 refine PE.imp (aM F hr hg hm hk hb .nil hx ha hdb he hpl) λσ H Q h=>?_
 w_pre h8
 w_pre n8
 split at p
 ·obtain ⟨v,F,rfl,hA2⟩:=Jh eu hA' ex
  w_pre g8
  refine ⟨_,rfl,λq c' fl H'' nq hdr s=>?_⟩
  have h3:=hA2.drop.grow (n':=δ'.n) s (Aj _)
  refine kk _ δ' _ [q] S' H'' e1 e2 ((h3.push (e:=⟨some (.ref q),.drw,[q]⟩) ⟨q,_,0,fl,rfl,rfl,hdr,by decide,by omega⟩ (λf hf=>?_) λa ha=>?_).tomid) p
  ·have nf:=hA2.drop.free nq f hf
   w_pre s0
  ·rw[Al.mp ha]
   exact .inl (hA2.new0 nq)
 ·exact p.elim
end
def args0(ds:List Ae)(k:Nat):List DV:=ds.map (λd=>.dat .sh d)++Bz k .un
def eD(e:Ent):Ent:=match e.x with
 | .dat _ d=>⟨e.v,.dat .sh d,e.F⟩
 | _=>e
theorem Lu:∀{xs:List DV} {ds:List Ae},datas xs=some ds->xs.length=ds.length
 | [],ds,h=>by cases h; rfl
 | x::xs,ds,h=>by
  cases x with
  | dat m d =>
   cases q:datas xs with
   | none=>simp [datas,q] at h
   | some es =>
    simp [datas,q] at h
    subst h
    rw[Bm,Bm,Lu q]
  | _=>cases h
theorem Xg:∀{As:List Ent} {ds:List Ae},datas (As.map Ent.x)=some ds->(As.map eD).map Ent.x=ds.map (λd=>.dat .sh d)
 | [],ds,h=>by cases h; rfl
 | ⟨v,x,F⟩::As,ds,h=>by
  rw[Ao] at h
  cases x with
  | dat m d =>
   cases q:datas (As.map Ent.x) with
   | none=>simp [datas,q] at h
   | some es =>
    simp [datas,q] at h
    subst h
    rw[Ao,Ao,Ao,Xg q]
    rfl
  | _=>cases h
theorem Yw:∀{As:List Ent} {ds:List Ae},datas (As.map Ent.x)=some ds->∀e∈As,∃m d,e.x=.dat m d
 | [],ds,h,e,he=>nomatch he
 | ⟨v,x,F⟩::As,ds,h,e,he=>by
  rw[Ao] at h
  cases x with
  | dat m d =>
   cases q:datas (As.map Ent.x) with
   | none=>simp [datas,q] at h
   | some es =>
    w_pre d7
    ·exact ⟨m,d,rfl⟩
    ·exact Yw q e he
  | _=>cases h
theorem CF(As:List Ent):(As.map eD).map Ent.v=As.map Ent.v:=by
 rw[Dn]
 refine Jd λe _=>?_
 w_pre t5
def Jq(k:Nat):List Ent:=Bz k ⟨none,.un,[]⟩
theorem iG{As:List Ent}{ds:List Ae}(q:datas (As.map Ent.x)=some ds)(k:Nat):∀e∈As.map eD++Jq k,cells e=[]/\AW e.x=false:=λe he=>by
 w_pre w7
 ·obtain ⟨f,hf,rfl⟩:=Df.mp he
  obtain ⟨m,d,hx⟩:=Yw q f hf
  w_pre t3
  exact ⟨rfl,rfl⟩
 ·rw[(Hu.mp he).2]
  exact ⟨rfl,rfl⟩
theorem Tw{α:Type}{R:α->α->Prop}:∀{l:List α},(∀a∈l,∀b∈l,R a b)->l.Pairwise R
 | [],_=>Ea
 | a::l,h=>Bb.mpr ⟨λb hb=>h a Ab b (Ad _ hb),Tw λx hx y hy=>h x (Ad _ hx) y (Ad _ hy)⟩
theorem i8{K:PySem.W.Frag}{H:Hp}{n:Nat}{As:List Ent}{ds:List Ae}(q:datas (As.map Ent.x)=some ds)(ok:∀e∈As,Gr K H n e)(k:Nat):∀e∈As.map eD++Jq k,Gr K H n e:=λe he=>by
 w_pre w7
 ·obtain ⟨f,hf,rfl⟩:=Df.mp he
  obtain ⟨m,d,hx⟩:=Yw q f hf
  have o:=ok f hf
  w_pre t3
  obtain ⟨w,h1,h2,_⟩:=o
  exact ⟨w,h1,h2,λz=>(nomatch z),λz=>(nomatch z)⟩
 w_pre s6
theorem Qc{α β:Type}(f:α->β)(k:Nat)(a:α):(Bz k a).map f=Bz k (f a):=by
 rw[Zb]
def retE(R:Ae->Prop):DEnds where
 nx:=λ_=>R .none
 rt:=λx _=>∃d,x=.dat .ow d/\R d
def retW(n:Nat)(R:Ae->Nat->Prop):DEnds where
 nx:=λδ=>n<=δ.n/\R .none δ.n
 rt:=λx δ=>n<=δ.n/\∃d,x=.dat .ow d/\R d δ.n
section
variable{P:Bl}{w:World}{K:PySem.W.Frag}{mg:Str->Option Value}{base:Heap}
theorem Qi{x qual:Str}{st:Stmt}{f:Addr}{fd:Dc}{N ps:List Str}{k:Nat}{pf:PF}{db:DB}(F:Fun K x qual st f fd)(S:FnScope N ps (Cf st))(hb:∀(cdv:Value) (A:Ce) (outer:List Env) (s:Ai) (H:Hp) (E:XK),Room k (A.deeper (Sv qual (Cf st) s.heap.objs.size f cdv))->aY (Qo La P w K mg base N qual (Cf st) f cdv A outer s H E).nox (Kt st) db)(h:∀ds R,pf ds R->ds.length=ps.length/\db (retE R) ⟨args0 ds (N.length - ps.length),0⟩):FnOk P w K mg base La (k+1) f fd ps (bJ K pf):=by
 w_pre i7
 ·obtain ⟨As,n,ds,R,eu,ok,q,hp,_⟩:=z
  w_pre g0
 ·obtain ⟨As,n,ds,R,eu,ok,q,hp,k1⟩:=z
  w_pre t0
  refine ⟨_,hb cdv A outer s H E hr,H,λ_=>False,As.map eD++Jq (N.length - ps.length),[],⟨args0 ds (N.length - ps.length),0⟩,retE R,?_,?_,λ_ z=>(nomatch z),?_,hd,λδ' S' H' e1 hA p=>?_,λx δ' v F' S' H' e1 hA p=>?_,λ_ _ _ _ _ p=>p.elim,λ_ _ _ _ _ p=>p.elim⟩
  w_pre h1
  ·rw[Ec]
   have hs:=iG q (N.length - ps.length)
   refine ⟨λe he=>?_,Tw λa ha b hb'=>⟨λhq c hc=>?_,λhq c hc=>?_⟩,λe he a ha=>?_,λb o _ e=>e,λb o e=>⟨o,e⟩,λb hb=>hb.elim⟩
   w_pre k0
   w_pre q4
   w_pre v8
  ·exact k1 .non .none [] H' p .non Dv (λ_ z=>(nomatch z)) λb o e=>hA.same b o (λz=>z) e
  ·obtain ⟨d,rfl,r⟩:=p
   w_pre h2
   refine k1 v d F' H' r rd (nd rfl) (λa ha=>?_) λb o e=>hA.same b o (λz=>z) e
   w_pre t6
   ·exact z.1.elim
theorem jM{x qual:Str}{st:Stmt}{f:Addr}{fd:Dc}{N ps:List Str}{p0:Str}{k:Nat}{df:DF}{db:DB}(F:Fun K x qual st f fd)(S:FnScope N (p0::ps) (Cf st))(hb:∀(cdv:Value) (A:Ce) (outer:List Env) (s:Ai) (H:Hp) (E:XK),Room k (A.deeper (Sv qual (Cf st) s.heap.objs.size f cdv))->aY (Qo La P w K mg base N qual (Cf st) f cdv A outer s H E).nox (Kt st) db)(h:∀ds n R,df ds n R->ds.length=ps.length/\db (retW n R) ⟨.drw::args0 ds (N.length - (p0::ps).length),n⟩):FnOk P w K mg base La (k+1) f fd (p0::ps) (rF K df):=by
 w_pre i7
 ·obtain ⟨dr,ws,As,n,ds,R,rfl,eu,ok,nd,hdr,q,hp,_⟩:=z
  have l1:=(h ds n R hp).1
  w_pre r1
  rw[Bm,Bm]
  omega
 ·obtain ⟨dr,ws,As,n,ds,R,rfl,eu,ok,ndr,hdr,q,hp,k1⟩:=z
  obtain ⟨l1,hd⟩:=h ds n R hp
  w_pre r1
  -- what the end tells of the draws: they stand in an old cell
  have ends:∀{E':List Ent} {n':Nat} {H':Hp},At K H (·=dr) n' E' H'->∀b o,b≠dr->H b=some o->H' b=some o:=λhA b o nb e=>hA.same b o nb e
  refine ⟨_,hb cdv A outer s H E hr,H,(·=dr),⟨some (.ref dr),.drw,[dr]⟩::(As.map eD++Jq (N.length - (p0::ps).length)),[],⟨.drw::args0 ds (N.length - (p0::ps).length),n⟩,retW n R,?_,?_,λ_ z=>(nomatch z),?_,hd,λδ' S' H' e1 hA p=>?_,λx δ' v F' S' H' e1 hA p=>?_,λ_ _ _ _ _ p=>p.elim,λ_ _ _ _ _ p=>p.elim⟩
  ·unfold vs L2.start Jq
   rw[Ao,Bh,CF,eu,Qc,Bm,Bm,show ws.length=ps.length by omega]
   rfl
  ·unfold Sl args0 Jq
   rw[Ao,Bh,Xg q,Qc]
  ·rw[Ec]
   have hs:=iG q (N.length - (p0::ps).length)
   have hsub:∀e∈As.map eD++Jq (N.length - (p0::ps).length),dr∉e.F:=λe he=>by
    w_pre w7
    ·obtain ⟨f,hf,rfl⟩:=Df.mp he
     obtain ⟨v,x,F⟩:=f
     have:=ndr _ hf
     cases x <;> exact this
    ·rw[(Hu.mp he).2]
     exact Bd
   refine ⟨λe he=>?_,Bb.mpr ⟨λb hb'=>⟨λhq c hc=>?_,λhq c hc=>?_⟩,Tw λa ha b hb'=>⟨λhq c hc=>?_,λhq c hc=>?_⟩⟩,λe he a ha=>?_,λb o _ e=>e,λb o e=>⟨o,e⟩,λb hb=>?_⟩
   rotate_right
   ·subst hb
    obtain ⟨c,kk,fl,z1,z2⟩:=hdr
    exact ⟨λz=>(by rw[show H b=some _ from z1] at z; cases z),c,kk,fl,z1,z2⟩
   ·rcases An.mp he with rfl | he
    ·obtain ⟨c,kk,fl,z1,z2,z3⟩:=hdr
     exact ⟨dr,c,kk,fl,rfl,rfl,z1,z2,z3⟩
    ·exact i8 q ok _ e he
   ·rw[Al.mp hc]
    exact hsub b hb'
   ·rw[(hs b hb').1] at hc; cases hc
   w_pre q4
   ·rcases An.mp he with rfl | he
    ·rw[Al.mp ha]
     exact .inr ⟨rfl,rfl⟩
    w_pre v8
  ·exact k1 .non .none [] δ'.n H' p.1 p.2 .non Dv (λ_ z=>(nomatch z)) (hA.xd dr rfl).2 (ends hA)
  ·obtain ⟨hn,d,rfl,r⟩:=p
   w_pre h2
   refine k1 v d F' δ'.n H' hn r rd (nd rfl) (λa ha=>?_) (hA.xd dr rfl).2 (ends hA)
   w_pre t6
   ·cases z.2
end
end DL
namespace L2
open PySem PySem.Spec PyProof.Rows
theorem uU{P:Bl}{w:World}{K:PySem.W.Frag}{mg mb:Str->Option Value}{CX:wA}{k:Nat}{fa a:Addr}{fd:Dc}{x:Str}{sp:Sp}{s₁:Ai}{vs:List Value}{ns:List Int}(KX:K.In s₁.heap)(hns:s₁.heap.Ns Dg mg)(hb:s₁.heap.Ns builtinsNs mb)(hbb:∀x:Str,x ≠ "__name__" -> mb x=Kl x)(hlim:s₁.heap.NoLimit)(hg:s₁.gens=#[])(ha:s₁.heap.get? a=some { cls:=.type "list",data:=.seq vs.toArray })(hi:Ez vs ns)(hl:ns.length<=Aq)(hr:Room k callerA)(F:∀base:Heap,K.In base->base.Ns Dg mg->FnOk P w K mg base CX k fa fd [x] sp)(hbind:∀(s:Ai) (u:Value),BindsTo s fd ⟨[u],[]⟩ [(x,u)])(hsp:∀H:Hp,BK H->DL.KL K H a (ns.map V.int)->sp [.ref a] H (λv _=>v=.bl true) λ_ _ _=>False)(hCX:∀H e s',CX [] H s₁ (λ_ _ _=>False) e s'->False):Hb (model P w) callerA (.call (.ref fa) ⟨[.ref a],[]⟩) (λr s'=>r=.ok (.ret (.bool true))/\OldK s₁.heap s'.heap/\s'.os=s₁.os/\Wm s'.gens) s₁:=by
 have rv:=fA hi
 have lenV:=hi.length
 -- from an abstract heap in which nothing but the script may be tracked
 have core:∀H:Hp,BK H->DL.KL K H a (ns.map V.int)->Vf P w H s₁.heap->(∀b,H b≠none->b=a)->(H a≠none->K.lookup a=none) ->
   Hb (model P w) callerA (.call (.ref fa) ⟨[.ref a],[]⟩) (λr s'=>r=.ok (.ret (.bool true))/\OldK s₁.heap s'.heap/\s'.os=s₁.os/\Wm s'.gens) s₁:=by
  intro H hO hS hok hA hK
  have base_of:∀{b:Addr} {o:Obj},s₁.heap.get? b=some o->H b=none->(jE s₁.heap H).get? b=some o:=λe n=>B1 e n
  have noA:∀{b:Addr} {o:Obj} {es:Array Gz} {ep:Nat},s₁.heap.get? b=some o->o.data=.dict es ep->H b=none:=λ{b o es ep} e d=>by
   cases q:H b with
   | none=>rfl
   | some u =>
    have e':b=a:=hA b (by rw[q]; simp)
    subst e'
    rw[ha] at e; cases e
    have d':Data.seq vs.toArray _=Data.dict es ep:=d
    cases d'
  have nsK:∀{b:Addr} {m:Str->Option Value},s₁.heap.Ns b m->(jE s₁.heap H).Ns b m:=λ{b m} ⟨o,es,ep,e,d,r⟩=>⟨o,es,ep,base_of e (noA e d),d,r⟩
  have hKb:K.In (jE s₁.heap H):=λb o e=>base_of (KX b o e) (by
   cases q:H b with
   | none=>rfl
   | some u =>
    have e':b=a:=hA b (by rw[q]; simp)
    subst e'
    rw[hK (by rw[q]; simp)] at e; cases e)
  have hM:Mod K mg (jE s₁.heap H):=⟨hKb,nsK hns,⟨mb,nsK hb,hbb⟩,let ⟨mc,h1,h2⟩:=hlim; ⟨mc,nsK h1,h2⟩⟩
  have e0:Env0 P w K mg (jE s₁.heap H) callerA [] s₁ H:=⟨rfl,hM,λb o e=>L1 e,Nat.le_of_eq (vW _ _),trivial,λb hb=>absurd (show b∈([]:List Addr) from hb) (by simp),hok,.of_eq hg⟩
  refine Nz ((F _ hKb (nsK hns)).run callerA [] s₁ H ⟨[.ref a],[]⟩ [.ref a] [.ref a] _ _ hr e0 (hbind s₁ (.ref a)) (.cons rfl .nil) (hsp H hO hS)) λr s' h=>?_
  cases r with
  | error e=>exact (hCX H e s' h).elim
  | ok fl =>
   cases fl with
   | next=>exact Kw h
   | brk=>exact Kw h
   | cont=>exact Kw h
   | ret u =>
    obtain ⟨v,H',os,bare,un,hok',r',q⟩:=h
    have q':v=.bl true:=q
    subst q'
    obtain rfl:u=Value.bool true:=r'
    refine ⟨rfl,OldK.of_keep λb o e=>?_,os,bare⟩
    cases q:H b with
    | none=>exact un.keep b o e q (by intro z; exact absurd (show b∈([]:List Addr) from z) (by simp)) (by simp)
    | some u =>
     rcases hO b with z | ⟨ob,xs,z⟩
     ·rw[q] at z; cases z
     ·have z2:=un.frzs b ob _ z
      obtain ⟨e1,_⟩:=hok b _ z
      obtain ⟨e2,_⟩:=hok' b _ z2
      rw[e] at e1; cases e1
      exact e2
 cases hk:K.lookup a with
 | some o =>
  -- the script is one of the module's own objects
  have e:=KX a o hk
  rw[ha] at e
  cases e
  refine core (λ_=>none) (λ_=>.inl rfl) (.inr ⟨vs.toArray,_,hk,by rw[Ar,lenV]; exact hl,by simpa using rv⟩) (λb u z=>by have z':(none:Option HO)=some u:=z; cases z') (λb z=>absurd rfl z) λz=>absurd rfl z
 | none =>
  refine core (λb=>if b=a then some (.frz { cls:=.type "list",data:=.seq vs.toArray } (.lst (ns.map V.int))) else none) (λb=>?_) (.inl ⟨{ cls:=.type "list",data:=.seq vs.toArray },if_pos rfl⟩) (λb u z=>?_) (λb z=>?_) λ_=>hk
  ·by_cases hb:b=a
   ·exact .inr ⟨_,_,if_pos hb⟩
   ·exact .inl (if_neg hb)
  ·by_cases hb:b=a
   ·have z':=(if_pos hb).symm.trans z
    cases z'
    subst hb
    exact ⟨ha,by rw[Af]; exact hl,vs,_,rv,ha⟩
   ·have z':=(if_neg hb).symm.trans z
    cases z'
  ·by_cases hb:b=a
   ·exact hb
   ·exact absurd (if_neg hb) z
theorem walk_ofD{l:PySem.W.OpenLaw}{n k:Nat}{q:Bl}{loose:List Str}{XP:(Str->Option Value)->Heap->Prop}{YP:World->Heap->Prop}{d:DefRec}{K:Params->PySem.W.Frag}{CX:World->wA}{sp:World->Sp}{x:Str}(hn:l.most=some n)(hn2:n<=Aq)(hdf:d.params.defaults=[])(hr:Room k callerA)(hY:∀(w:World) (h:Heap),YP w h->(K w.params).In h)(F:∀(w:World) (mg:Str->Option Value) (fa:Addr) (h:Heap),(K w.params).In h->h.Ns Dg mg->mg d.name=some (.ref fa)->∃fd:Dc,(∀(s:Ai) (u:Value),BindsTo s fd ⟨[u],[]⟩ [(x,u)])/\∀base:Heap,(K w.params).In base->base.Ns Dg mg->FnOk l.prog w (K w.params) mg base (CX w) k fa fd [x] (sp w))(hsp:∀(w:World) (H:Hp) (a:Addr) (ns:List Int),ns.length<=n->BK H->DL.KL (K w.params) H a (ns.map V.int)->sp w [.ref a] H (λv _=>v=.bl true) λ_ _ _=>False)(hCX:∀(w:World) (H:Hp) (s:Ai) (e:Value) (s':Ai),CX w [] H s (λ_ _ _=>False) e s'->False):PySem.W.WalkO q loose XP YP l.row.toRowW d [] (λf vs=>PySem.call f vs):=by
 refine Att.attach_call hn hdf λw s₀ s₁ mg mb fa o pm cd doc a vs ns G Y ho hd hcd hmg hobj hints hlen hg=>?_
 have KX:=hY w _ Y
 obtain ⟨fd,hb,hF⟩:=F w mg fa _ KX G.T.g hmg
 exact uU KX G.T.g G.T.b G.T.builtins G.T.nolimit hg hobj hints (Cg hlen hn2) hr hF hb (λH hO hS=>hsp w H a ns hlen hO hS) λH e s'=>hCX w H s₁ e s'
end L2
namespace DL
open PySem PySem.Spec PyProof.Rows L2 Nd
def npk:List DV->Bool
 | []=>true
 | .dat .pk _::_=>false
 | _::xs=>npk xs
theorem jF:∀{S:List Ent} {sl:List DV},S.map Ent.x=sl->npk sl=true->∀e∈S,Pw e.x=false
 | [],_,_,_,e,he=>nomatch he
 | ⟨v,x,F⟩::S,_,h,hn,e,he=>by
  subst h
  rw[Ao] at hn
  have : Pw x=false/\npk (S.map Ent.x)=true:=by
   cases x with
   | dat m d=>cases m <;> first | exact ⟨rfl,hn⟩ | cases hn
   | _=>exact ⟨rfl,hn⟩
  w_pre d7
  ·exact this.1
  ·exact jF rfl this.2 e he
def own1:Md->Bool
 | .ow=>true
 | .tp=>true
 | _=>false
section
variable{K:PySem.W.Frag}{H0 H:Hp}{X:Addr->Prop}{n:Nat}{E:List Ent}
theorem At.write{v:Option V}{m:Md}{ds es:List Ae}{a:Addr}{F G:List Addr}{ys:List V}(h:At K H0 X n (⟨v,.dat m (.list ds),a::F⟩::E) H)(ho:own1 m=true)(hv:v=some (.ref a))(np:∀e∈E,Pw e.x=false)(r:RdFs K H ys es G)(hG:G.Sublist F)(hz:es.length<=Aq):At K H0 X n (⟨v,.dat m (.list es),a::G⟩::E) (upd H a (.lst ys)):=by
 obtain ⟨w,e1,rd,hn,ht⟩:=h.ok _ Ab
 obtain ⟨b,xs,G0,e2,ha,ra,eF,_⟩:=rd.list_inv
 have eF':a::F=b::G0:=eF
 cases eF'
 have hs:=Bb.mp h.sep
 have naF:a∉F:=by
  cases m with
  | ow=>exact (Co.mp (hn rfl)).1
  | tp=>exact ht rfl a F rfl
  | sh=>cases ho
  | pk=>cases ho
 have ca:a∈cells ⟨v,.dat m (.list ds),a::F⟩:=by
  cases m <;> first | exact Ab | cases ho
 have kp:∀{F':List Addr},a∉F'->Kp F' H (upd H a (.lst ys)):=λ{F'} hF b o q z=>by
  w_pre s
 have n0:H0 a=none:=by
  rcases h.new _ Ab a ca with z | z
  ·exact z
  ·cases z.2
 have cs:∀c∈cells ⟨v,.dat m (.list es),a::G⟩,c∈cells ⟨v,.dat m (.list ds),a::F⟩:=λc hc=>by
  cases m with
  | ow =>
   w_pre y2
  | tp=>exact hc
  | sh=>cases ho
  | pk=>cases ho
 have hsub:∀c∈a::G,c∈a::F:=λc hc=>by
  w_pre y2
 have naG:a∉G:=λz=>naF (hG.subset z)
 w_pre s8
 ·rcases An.mp hf with rfl | hf
  ·refine ⟨.ref a,hv,.lst Ds hz (r.kp (kp naG)),λz=>?_,λz c l e=>?_⟩
   ·exact Co.mpr ⟨naG,(Co.mp (hn z)).2.sublist hG⟩
   ·cases e
    exact naG
  ·exact (h.ok f (Ad _ hf)).kp (kp ((hs.1 f hf).1 (.inl (np f hf)) a ca)) (Aj _)
 ·refine Bb.mpr ⟨λf hf=>⟨λhq c hc=>(hs.1 f hf).1 (.inl (np f hf)) c (cs c hc),λhq c hc z=>(hs.1 f hf).2 (.inl ?_) c hc (hsub c z)⟩,hs.2⟩
  cases m <;> first | rfl | cases ho
 ·rcases An.mp hf with rfl | hf
  ·exact λc hc=>h.new _ Ab c (cs c hc)
  ·exact h.new f (Ad _ hf)
 w_pre w
end
theorem Ll{α:Type}:∀{l:List α} {i:Nat} {x:α},l[i]? = some x->l.Perm (x::l.eraseIdx i)
 | [],i,x,h=>by simp at h
 | z::l,0,x,h=>by
  simp at h
  subst h
  exact Hk _
 | z::l,i+1,x,h=>by
  have ih:=Ll (l:=l) (i:=i) (x:=x) (by simpa using h)
  rw[Sz]
  exact (ih.cons z).trans (Dk x z _)
theorem eU{α:Type}{l:List α}{i:Nat}{x y:α}(h:l[i]? = some x):(l.set i y).Perm (y::l.eraseIdx i):=by
 have hlt:=(Av.mp h).1
 have q:=Ll (l:=l.set i y) (i:=i) (x:=y) (by rw[Ko]; simp [hlt])
 rw[List.eraseIdx_set_eq] at q
 exact q
theorem bD{K:PySem.W.Frag}{H0 H:Hp}{X:Addr->Prop}{S T:List Ent}{δ:DS}{i:Nat}{m:Md}{ds es:List Ae}(hS:Sl S δ)(hT:∀e∈T,Pw e.x=false)(hA:At K H0 X δ.n (S++T) H)(hi:δ.sl[i]? = some (.dat m (.list ds)))(ho:own1 m=true)(np:npk δ.sl=true):∃a xs G,(vs S)[i]? = some (some (.ref a))/\H a=some (.lst xs)/\RdFs K H xs ds G/\ds.length<=Aq/\∀ys G',RdFs K H ys es G'->G'.Sublist G->es.length<=Aq->∃S',vs S'=vs S/\Sl S' ⟨δ.sl.set i (.dat m (.list es)),δ.n⟩/\At K H0 X δ.n (S'++T) (upd H a (.lst ys)):=by
 w_pre i2
 have e3':x=.dat m (.list ds):=e3
 w_pre w2
 have eF':F=a::G:=eF
 subst eF'
 refine ⟨a,xs,G,by rw[Nu e2]; exact congrArg some hv,ha,ra,hz,λys G' r hG hz'=>?_⟩
 have hn:=jF hS np
 have pm:(S++T).Perm (⟨u,.dat m (.list ds),a::G⟩::(S.eraseIdx i++T)):=by
  exact (Ll e2).append_right T
 have h1:=(hA.perm pm).write (es:=es) (ys:=ys) ho hv (λe he=>?_) r hG hz'
 ·refine ⟨S.set i ⟨u,.dat m (.list es),a::G'⟩,?_,?_,h1.perm ?_⟩
  w_pre e
  ·exact ((eU e2).append_right T).symm
 w_pre t2
def iW(i:Nat)(de:DE):DB:=λD δ=>match δ.sl[i]? with
 | some (.dat _ (.list _))=>de δ λy δ1=>match δ1.sl[i]?,y with
  | some (.dat m (.list ds)),.dat _ e=>own1 m=true/\npk δ1.sl=true/\imm e=true/\ds.length<1000000/\D.nx ⟨δ1.sl.set i (.dat m (.list (ds++[e]))),δ1.n⟩
  | _,_=>False
 | _=>False
section
variable{X:Cx}{o e:Expr}{de:DE}{apos cpos pos:Pos}{i:Nat}
theorem gA(ho:PE X o (dU i))(he:Fm X e de)(hbase:Mr o "append" X.env (eval o X.env)=eval o X.env:=by rfl)
  (hfew:((Hj cpos (Bn [e] X.env)).all (λx=>!x.1) && (backToKw cpos (Zo [] X.env)).all (λx=>x.1.isSome)
   && decide (([e]:List Expr).length+([]:List Ug).length+(if ([]:List Ug).isEmpty then 0 else 1)<30))=true:=by rfl)
  (hline:(apos.endLine == cpos.line)=true:=by rfl) (hs:Bn [e] X.env=(false,eval e X.env)::Bn [] X.env:=by rfl) (hplain:(Hj cpos (Bn [] X.env)).any (·.1)=false:=by rfl)
  (hsw:Nh (.Call (.Attribute o "append" apos) [e] [] cpos) none pos.line X.env=pure false:=by rfl) :
  xJ X (.Expr (.Call (.Attribute o "append" apos) [e] [] cpos) pos) (iW i de):=by
 refine PS.impD (rQ (V2 PySem.F.plainAttrs_list PySem.F.slot_list_append PySem.F.type_list_append Ow ho (Ia he Np hs) hbase hfew hline hs hplain) hsw) λD σ H h=>?_
 w_pre v6
 unfold iW at hd
 w_pre z6
 case h_2=>exact hd.elim
 rename_i m0 ds0 hsl
 w_pre j3
 have e3':x=.dat m0 (.list ds0):=e3
 w_pre w2
 refine ⟨.ref a,by rw[Nu e2]; exact congrArg some hv,.inl ⟨rfl,xs,Pe.of ha⟩,H0,Y,S,T,δ,_,rfl,hS,hA,hd,λy δ1 w F1 S1 H1 e4 e5 hA1 p1=>?_⟩
 split at p1
 ·rename_i m ds m' e' hsl1
  obtain ⟨p1,p2,p3,p4,p5⟩:=p1
  have r:=hA1.told mem_mid
  obtain rfl:=r.imm p3
  obtain ⟨b,xs1,G1,g1,g2,g3,g4,g5⟩:=bD (es:=ds++[e']) e5 hT hA1.drop hsl1 p1 p2
  rw[e4,Nu e2] at g1
  w_pre o5
  obtain ⟨S2,h1,h2,h3⟩:=g5 (xs1++[w]) (G1++[]) (g3.snoc r) (by rw[Ec]; exact Ci _) (by rw[Bf]; exact kD (by simp; omega))
  have hl:=g3.len
  refine ⟨a,xs1,w,rfl,rfl,g2,Cc (by omega) (kD (n:=1000000) (Aj _)),?_⟩
  rw[<- e4,<- h1]
  exact k1 ⟨_,_⟩ S2 _ h2 h3 p5
 w_pre c8
end
def V7(i:Nat)(dk de:DE):DB:=λD δ=>de δ λy δ1=>match δ1.sl[i]? with
 | some (.dat _ (.list _))=>dk δ1 λz δ2=>match δ2.sl[i]?,y,z with
  | some (.dat m (.list ds)),.dat _ e,.dat _ (.int k)=>own1 m=true/\npk δ2.sl=true/\imm e=true/\Ee ds=true/\∃j,xM ds.length k=some j/\D.nx ⟨δ2.sl.set i (.dat m (.list (ds.set j e))),δ2.n⟩
  | _,_,_=>False
 | _=>False
theorem RdFs.setI{K:PySem.W.Frag}{H:Hp}:∀{xs:List V} {ds:List Ae} {j:Nat} {v:V} {e:Ae},RdFs K H xs ds []->RdF K H v e []->RdFs K H (xs.set j v) (ds.set j e) []:=by
 have main:∀{xs:List V} {ds:List Ae} {F:List Addr} {j:Nat} {v:V} {e:Ae},RdFs K H xs ds F->F=[]->RdF K H v e []->RdFs K H (xs.set j v) (ds.set j e) []:=by
  intro xs ds F j v e h
  induction j generalizing xs ds F with
  | zero =>
   intro hF r
   cases h with
   | nil=>exact .nil
   | cons a t =>
    w_pre i9
    exact RdFs.cons (F:=[]) r t
  | succ j ih =>
   intro hF r
   cases h with
   | nil=>exact .nil
   | cons a t =>
    w_pre i9
    exact RdFs.cons (F:=[]) a (ih t rfl r)
 intro xs ds j v e h r
 exact main h rfl r
section
variable{X:Cx}{o ie e:Expr}{de dk:DE}{pos spos:Pos}{i:Nat}
theorem J0(ho:PE X o (dU i))(hk:Fm X ie dk)(he:Fm X e de)
  (ha:∀v,Oc (.Subscript o ie spos) X.env v=(do
   let ov <- Ny [v] (eval o X.env)
   let iv <- Ny [v,ov] (eval ie X.env)
   Wi spos
   Ny [v,ov,iv] (setItem ov iv v)
   release [v,ov,iv] []):=by intro _; rfl)
  (hs:swapsWithSole [.Subscript o ie spos] e pos.line X.env=pure false:=by rfl) (hw:swappedStores [.Subscript o ie spos] e X.env=pure none:=by rfl)
  (h1:(Km [.Subscript o ie spos] X.env).map (·.2)=[Oc (.Subscript o ie spos) X.env]:=by rfl):xJ X (.Assign [.Subscript o ie spos] e pos) (V7 i dk de):=by
 refine PS.impD (qE he (rA ho hk bR ha) hs hw h1) λD σ H h=>?_
 w_pre v6
 refine ⟨H0,Y,S,T,δ,_,rfl,hS,hA,hd,λy δ1 w F1 S1 H1 e4 e5 hA1 p1=>?_⟩
 split at p1
 case h_2=>exact p1.elim
 rename_i m0 ds0 hsl
 obtain ⟨ent,e2,e3⟩:=Ks e5 hsl
 have hm:ent∈S1:=Be e2
 obtain ⟨u,x,F⟩:=ent
 have e3':x=.dat m0 (.list ds0):=e3
 subst e3'
 obtain ⟨v,hv,rd,_⟩:=hA1.ok _ (Ak _ hm)
 obtain ⟨a,xs,G,rfl,ha,ra,eF,hz⟩:=rd.list_inv
 refine ⟨.ref a,by rw[<- e4,Nu e2]; exact congrArg some hv,H0,Y,S1,⟨some w,y,F1⟩::T,δ1,_,e4,e5,hA1,p1,λz δ2 w2 F2 S2 H2 e6 e7 hA2 p2=>?_⟩
 split at p2
 ·rename_i m ds m' e' m'' k hsl2
  obtain ⟨q1,q2,q3,q4,j,q5,q6⟩:=p2
  w_pre g8
  have r:=hA2.told Fd
  obtain rfl:=r.imm q3
  obtain ⟨b,xs1,G1,g1,g2,g3,g4,g5⟩:=bD (es:=ds.set j e') e7 hT hA2.drop2 hsl2 q1 q2
  rw[e6,<- e4,Nu e2] at g1
  w_pre o5
  obtain rfl:=g3.imm q4
  obtain ⟨S3,h1,h2,h3⟩:=g5 (xs1.set j w) [] (g3.setI r) (Ci _) (by rw[Pp]; exact g4)
  refine ⟨a,xs1,k,j,rfl,rfl,g2,by rw[g3.len]; exact q5,?_⟩
  rw[<- e6,<- h1]
  exact k1 ⟨_,_⟩ S3 _ h2 h3 q6
 ·exact p2.elim
end
def spLawD(K:PySem.W.Frag):Sp:=λus H Q _=>∃(a:Addr) (ns:List Int),us=[.ref a]/\KL K H a (ns.map V.int)/\ns.length<=63/\∀H',Q (.bl true) H'
def retL:DEnds where
 nx:=λ_=>False
 rt:=λx _=>∃m,x=.dat m (.bool true)
section
variable{P:Bl}{w:World}{K:PySem.W.Frag}{mg:Str->Option Value}{base:Heap}
theorem X8{x qual p0:Str}{st:Stmt}{f:Addr}{fd:Dc}{N:List Str}{k:Nat}{db:DB}(F:Fun K x qual st f fd)(S:FnScope N [p0] (Cf st))(hb:∀(cdv:Value) (A:Ce) (outer:List Env) (s:Ai) (H:Hp) (E:XK),Room k (A.deeper (Sv qual (Cf st) s.heap.objs.size f cdv))->aY (Qo La P w K mg base N qual (Cf st) f cdv A outer s H E).nox (Kt st) db)(h:∀ns:List Int,ns.length<=63->db retL ⟨.scr ns::Bz (N.length - 1) .un,0⟩):FnOk P w K mg base La (k+1) f fd [p0] (spLawD K):=by
 w_pre i7
 ·obtain ⟨a,ns,rfl,_⟩:=z
  rfl
 ·obtain ⟨a,ns,rfl,hK,h63,k1⟩:=z
  refine ⟨_,hb cdv A outer s H E hr,H,λ_=>False,⟨some (.ref a),.scr ns,[]⟩::Jq (N.length - 1),[],⟨.scr ns::Bz (N.length - 1) .un,0⟩,retL,?_,?_,λ_ z=>(nomatch z),?_,h ns h63,λδ' S' H' e1 hA p=>p.elim,λx δ' v F' S' H' e1 hA p=>?_,λ_ _ _ _ _ p=>p.elim,λ_ _ _ _ _ p=>p.elim⟩
  ·unfold vs L2.start Jq
   rw[Ao,Qc]
   rfl
  ·unfold Sl Jq
   rw[Ao,Qc]
  ·rw[Ec]
   have hc:∀e∈(⟨some (.ref a),.scr ns,[]⟩::Jq (N.length - 1):List Ent),cells e=[]:=λe he=>by
    w_pre d7
    ·rfl
    ·rw[(Hu.mp he).2]
     rfl
   refine ⟨λe he=>?_,Tw λa ha b hb'=>⟨λhq c z=>?_,λhq c z=>?_⟩,λe he a ha=>?_,λb o _ e=>e,λb o e=>⟨o,e⟩,λb hb=>hb.elim⟩
   ·rcases An.mp he with rfl | he
    ·exact ⟨a,rfl,rfl,hK,h63⟩
    w_pre s6
   ·rw[hc a ha] at z; cases z
   ·rw[hc b hb'] at z; cases z
   ·rw[hc e he] at ha; cases ha
  ·obtain ⟨m,rfl⟩:=p
   rw[show S'++[(⟨some v,.dat m (.bool true),F'⟩ : Ent)]=S'++⟨some v,.dat m (.bool true),F'⟩::[] from rfl] at hA
   obtain ⟨rfl,_⟩:=(hA.told mem_mid).bl_inv
   exact k1 H'
end
def pQ(i:Nat)(dl dh:DO):DE:=λδ P=>match δ.sl[i]? with
 | some (.scr ns)=>dl δ λl δ2=>dh δ2 λh δ3=>P (.dat .ow (.list ((Pu ns l h).map Ax))) δ3
 | _=>False
def GR(i:Nat)(de:DE):DE:=λδ P=>match δ.sl[i]? with
 | some (.scr ns)=>de δ λy δ1=>match y with
  | .dat _ (.list es)=>Ee es=true/\ns.length+es.length<=1000000/\P (.dat .ow (.list (ns.map Ax++es))) δ1
  | _=>False
 | _=>False
section
variable{X:Cx}{e b:Expr}{de:DE}{lo hi:Option Expr}{dl dh:DO}{pos p2:Pos}{i:Nat}
theorem X5{K:PySem.W.Frag}{H0 H:Hp}{Y:Addr->Prop}{S T:List Ent}{δ:DS}{ns:List Int}(hS:Sl S δ)(hA:At K H0 Y δ.n (S++T) H)(hi:δ.sl[i]? = some (.scr ns)):∃a,(vs S)[i]? = some (some (.ref a))/\(⟨some (.ref a),.scr ns,[]⟩ : Ent)∈S/\KL K H a (ns.map V.int)/\ns.length<=63:=by
 w_pre i2
 have e3':x=.scr ns:=e3
 subst e3'
 obtain ⟨a,h1,h2,h3⟩:=hA.ok _ (Ak _ hm)
 have h1':u=some (.ref a):=h1
 have h2':F=[]:=h2
 subst h1' h2'
 exact ⟨a,by rw[Nu e2],hm,h3⟩
theorem C0(he:PE X e (dU i))(hl:CL X lo dl)(hh:CL X hi dh):Fm X (.Subscript e (.Slice lo hi none p2) pos) (pQ i dl dh):=by
 refine PE.imp (oN (r:=BW X.K) I0 he hl hh) λσ H Q h=>?_
 w_pre g7
 unfold pQ at hd
 w_pre z6
 case h_2=>exact hd.elim
 rename_i ns hsl
 obtain ⟨a,ha,hm,hK,h63⟩:=X5 hS hA hsl
 have hA0:At X.K H0 Y δ.n (S++⟨some (.ref a),.scr ns,[]⟩::T) H:=(At.view1 hA (Ak _ hm)).tomid
 refine ⟨.ref a,ha,H0,Y,S,⟨some (.ref a),.scr ns,[]⟩::T,δ,_,rfl,hS,hA0,hd,λl δ2 S2 H2 e3 e4 hA2 p2=>?_⟩
 refine ⟨H0,Y,S2,⟨some (.ref a),.scr ns,[]⟩::T,δ2,_,e3,e4,hA2,p2,λh δ3 S3 H3 e5 e6 hA3 p3=>?_⟩
 obtain ⟨a',h1,_,hK3,_⟩:=hA3.ok _ mem_mid
 cases h1
 refine ⟨a,_,rfl,hK3.sq,λp hp=>?_⟩
 have : bE (ns.map V.int) l h=(Pu ns l h).map V.int:=by
  rw[<- kW]; rfl
 rw[this]
 refine k _ δ3 _ _ S3 _ e5 e6 (hA3.drop.newI (RdFs.ints _) (Nf _) ?_ hp .ow) p3
 rw[Af]
 have l1:=(cO ns l h).length_le
 exact sz (by omega)
end
def Rg(p:Nat)(dc:DT)(de:DE)(δ:DS)(yes:Ae->Nat->Prop)(no:Nat->Prop):Prop:=dc δ λb δ2=>match b with
 | true=>de δ2 λy δ3=>match y with
  | .dat _ e=>imm e=true/\δ3.sl[p]? = some .drw/\yes e δ3.n
  | _=>False
 | false=>δ2.sl[p]? = some .drw/\no δ2.n
def pU(di:DI)(js1:List Nat)(j0:Nat)(js2:List Nat)(dc:DT)(de:DE):DE:=λδ P=>di δ λm ds δ1=>δ1.sl[j0]? = some .drw/\∃I:Nat->List Ae->Nat->Prop,I 0 [] δ1.n /\
 (∀i d acc n,ds[i]? = some d->I i acc n->Rg (js1.length+1) dc de ⟨.dat m d::(frD (δ1.sl.set j0 .un) js1++.drw::frD (δ1.sl.set j0 .un) js2),n⟩ (λe n'=>I (i+1) (acc++[e]) n') (λn'=>I (i+1) acc n')) /\
 ∀acc n,I ds.length acc n->P (.dat .ow (.list acc)) ⟨δ1.sl,n⟩
section
variable{K:PySem.W.Frag}{H0 H H':Hp}{Y:Addr->Prop}{n n':Nat}{E S T:List Ent}
theorem At.re(h:At K H0 Y n E H)(ok:∀e∈E,Gr K H' n' e)(s:∀b o,¬ Y b->H0 b=some o->H' b=some o)(dm:∀b o,H0 b=some o->∃o',H' b=some o')(xd:∀b,Y b->H0 b≠none/\∃c k f,iH H' b c k f/\0<=k/\k<=(n':Int)):At K H0 Y n' E H':=⟨ok,h.sep,h.new,s,dm,xd⟩
theorem i5{S':List Ent}{δ:DS}{p:Nat}{dr:Addr}(hA:At K H0 Y n E H)(hE:∀e∈S',e∈E)(hS:Sl S' δ)(hp:δ.sl[p]? = some .drw)(hv:(vs S')[p]? = some (some (.ref dr))):Gr K H n ⟨some (.ref dr),.drw,[dr]⟩:=by
 obtain ⟨ent,e2,e3⟩:=Ks hS hp
 have hm:ent∈S':=Be e2
 rw[Nu e2] at hv
 obtain ⟨u,x,F⟩:=ent
 have e3':x=.drw:=e3
 subst e3'
 have hu:u=some (.ref dr):=Bv hv
 subst hu
 obtain ⟨dr',c,k,f,h1,h2,h3⟩:=hA.ok _ (hE _ hm)
 have h1':some (V.ref dr)=some (V.ref dr'):=h1
 cases h1'
 exact ⟨dr,c,k,f,rfl,rfl,h3⟩
theorem yN{p:Nat}{dr:Addr}{dc:DT}{de:DE}{δ:DS}{yes:Ae->Nat->Prop}{no:Nat->Prop}{D:Addr}{acc:List Ae}{N1:Hp->Prop}{N2:VK}(hS:Sl S δ)(hA:At K H0 Y δ.n (S++⟨some (.ref D),.acc acc,[D]⟩::T) H)(hp:(vs S)[p]? = some (some (.ref dr)))(h:Rg p dc de δ yes no)(k1:∀n' H',At K H0 Y n' (⟨some (.ref D),.acc acc,[D]⟩::T) H'->Gr K H' n' ⟨some (.ref dr),.drw,[dr]⟩->no n'->N1 H')(k2:∀e n' v H',At K H0 Y n' (⟨some (.ref D),.acc acc,[D]⟩::T) H'->Gr K H' n' ⟨some (.ref dr),.drw,[dr]⟩->RdF K H' v e []->yes e n'->N2 v H'):LT K dc (vs S) H λc H2=>if c=true then LE K de (vs S) H2 N2 else N1 H2:=by
 refine ⟨H0,Y,S,⟨some (.ref D),.acc acc,[D]⟩::T,δ,_,rfl,hS,hA,h,λb δ2 S2 H2 e1 e2 hA2 p2=>?_⟩
 cases b with
 | false=>exact nX (k1 _ _ (hA2.sub (Bk _ _)) (i5 hA2 (λe he=>Ak _ he) e2 p2.1 (by rw[e1]; exact hp)) p2.2)
 | true =>
  refine lZ ⟨H0,Y,S2,⟨some (.ref D),.acc acc,[D]⟩::T,δ2,_,e1,e2,hA2,p2,λy δ3 v F S3 H3 e3 e4 hA3 p3=>?_⟩
  split at p3
  ·have r:=hA3.told mem_mid
   obtain rfl:=r.imm p3.1
   exact k2 _ _ _ _ (hA3.drop.sub (Bk _ _)) (i5 hA3 (λe he=>Ak _ he) e4 p3.2.1 (by rw[e3]; exact hp)) r p3.2.2
  ·exact p3.elim
theorem t9{di:DI}{js1 js2:List Nat}{j0:Nat}{dc:DT}{de:DE}:∀σ H Q,LE K (pU di js1 j0 js2 dc de) σ H Q->lP (LI K di) (js1++j0::js2) (LT K dc) (LE K de) σ H Q:=by
 w_pre l2
 obtain ⟨hj,I,h0,hs,hf⟩:=p1
 rw[<- e1]
 obtain ⟨ent,s1,s2⟩:=Ks e2 hj
 have hm':ent∈S1:=Be s1
 obtain ⟨u,x,F0⟩:=ent
 have s2':x=.drw:=s2
 subst s2'
 obtain ⟨dr,_,_,_,hv0,hF0,_⟩:=hA1.ok _ (Ak _ hm')
 have hv0':u=some (.ref dr):=hv0
 have hF0':F0=[dr]:=hF0
 subst hv0' hF0'
 intro D hD
 refine ⟨λi q H=>q=ds.length - i/\i<=ds.length/\∃acc n,At K H0 Y n (⟨some (.ref D),.acc acc,[D]⟩::(S1++(hid++T))) H/\acc.length<=i/\I i acc n,⟨ds.length,by simp,Di _,[],δ1.n,hA1.accNew hD,Aj _,h0⟩,?_⟩
 w_pre k2
 ·refine .inr ⟨it.go H n i hid_ok hlt,λx H' y=>?_⟩
  obtain ⟨s1',d,F,h1,h2,h3⟩:=it.yld H n i x H' hid_ok hlt y
  have hA3:At K H0 Y n ((⟨some (.ref D),.acc acc,[D]⟩::S1)++⟨some x,.dat m d,F⟩::(hid++T)) H':=At.item (S:=⟨some (.ref D),.acc acc,[D]⟩::S1) hA2 s1' h2 h3 it.md it.hd it.np
  -- the draws are taken out of their slot
  have hA4:At K H0 Y n (⟨some (.ref dr),.drw,[dr]⟩::⟨some x,.dat m d,F⟩::⟨some (.ref D),.acc acc,[D]⟩::(S1.set j0 ⟨some (.ref dr),.un,[]⟩++(hid++T))) H':=by
   have q:=hA3.mid.blank (v:=some (.ref dr))
   refine q.perm ?_
   have pS:(⟨some (.ref dr),.un,[]⟩::S1:List Ent).Perm (⟨some (.ref dr),.drw,[dr]⟩::S1.set j0 ⟨some (.ref dr),.un,[]⟩):=Th s1
   have p2:=pS.append_right (hid++T)
   -- un::x::D::S1.. ~ x::D::un::S1..
   have a1:((⟨some (.ref dr),.un,[]⟩ : Ent)::⟨some x,.dat m d,F⟩::((⟨some (.ref D),.acc acc,[D]⟩::S1)++(hid++T))).Perm (⟨some x,.dat m d,F⟩::⟨some (.ref D),.acc acc,[D]⟩::⟨some (.ref dr),.un,[]⟩::(S1++(hid++T))) :=
    (Dk _ _ _).trans ((Dk _ _ _).cons _)
   have a2:((⟨some x,.dat m d,F⟩ : Ent)::⟨some (.ref D),.acc acc,[D]⟩::⟨some (.ref dr),.drw,[dr]⟩::(S1.set j0 ⟨some (.ref dr),.un,[]⟩++(hid++T))).Perm (⟨some (.ref dr),.drw,[dr]⟩::⟨some x,.dat m d,F⟩::⟨some (.ref D),.acc acc,[D]⟩::(S1.set j0 ⟨some (.ref dr),.un,[]⟩++(hid++T))) :=
    ((Dk _ _ _).cons _).trans (Dk _ _ _)
   exact a1.trans (((p2.cons _).cons _).trans a2)
  have e2':Sl (S1.set j0 ⟨some (.ref dr),.un,[]⟩) ⟨δ1.sl.set j0 .un,n⟩:=iT e2
  have vS:vs (S1.set j0 ⟨some (.ref dr),.un,[]⟩)=vs S1:=by
   rw[iX]
   apply Iu
   intro j
   rw[Ko]
   split
   ·rename_i hij
    subst hij
    rw[Nu s1]
    split
    ·rfl
    ·rename_i hj'
     unfold vs at hj'
     rw[Af] at hj'
     exact absurd (Av.mp s1).1 hj'
   ·rfl
  have hsub:∀e∈S1.set j0 ⟨some (.ref dr),.un,[]⟩,e∈(⟨some (.ref dr),.drw,[dr]⟩::⟨some x,.dat m d,F⟩::⟨some (.ref D),.acc acc,[D]⟩::(S1.set j0 ⟨some (.ref dr),.un,[]⟩++(hid++T)):List Ent):=λe he=>Ad _ (Ad _ (Ad _ (Ak _ he)))
  have hA5:=At.view (S:=S1.set j0 ⟨some (.ref dr),.un,[]⟩) hA4 hsub js2
  have hA5':=At.view (S:=S1.set j0 ⟨some (.ref dr),.un,[]⟩) hA5 (λe he=>Ag _ (hsub e he)) js1
  have hA6:At K H0 Y n ((⟨some x,.dat m d,F⟩::(Va (S1.set j0 ⟨some (.ref dr),.un,[]⟩) js1++⟨some (.ref dr),.drw,[dr]⟩::Va (S1.set j0 ⟨some (.ref dr),.un,[]⟩) js2))++⟨some (.ref D),.acc acc,[D]⟩::(S1.set j0 ⟨some (.ref dr),.un,[]⟩++(hid++T))) H':=by
   refine hA5'.perm ?_
   generalize Va (S1.set j0 ⟨some (.ref dr),.un,[]⟩) js1=A1
   generalize Va (S1.set j0 ⟨some (.ref dr),.un,[]⟩) js2=A2
   generalize (⟨some (.ref D),.acc acc,[D]⟩::(S1.set j0 ⟨some (.ref dr),.un,[]⟩++(hid++T)):List Ent)=R
   have b1:(A2++((⟨some (.ref dr),.drw,[dr]⟩ : Ent)::⟨some x,.dat m d,F⟩::R)).Perm ((⟨some x,.dat m d,F⟩ : Ent)::⟨some (.ref dr),.drw,[dr]⟩::(A2++R)) :=
    (Dj.trans ((Dj).cons _)).trans (Dk _ _ _)
   have b2:=b1.append_left A1
   refine b2.trans (Dj.trans ?_)
   rw[Do,Bt,Do]
  have hS6:Sl (⟨some x,.dat m d,F⟩::(Va (S1.set j0 ⟨some (.ref dr),.un,[]⟩) js1++⟨some (.ref dr),.drw,[dr]⟩::Va (S1.set j0 ⟨some (.ref dr),.un,[]⟩) js2)) ⟨.dat m d::(frD (δ1.sl.set j0 .un) js1++.drw::frD (δ1.sl.set j0 .un) js2),n⟩:=by
   unfold Sl
   rw[Ao,Bh,Ao,bH e2',bH e2']
  have hv:vs (⟨some x,.dat m d,F⟩::(Va (S1.set j0 ⟨some (.ref dr),.un,[]⟩) js1++⟨some (.ref dr),.drw,[dr]⟩::Va (S1.set j0 ⟨some (.ref dr),.un,[]⟩) js2))=some x::Ei (vs S1) (js1++j0::js2):=by
   have f1:=cI (S1.set j0 ⟨some (.ref dr),.un,[]⟩) js1
   have f2:=cI (S1.set j0 ⟨some (.ref dr),.un,[]⟩) js2
   rw[vS] at f1 f2
   unfold vs at f1 f2 ⊢
   rw[Ao,Bh,Ao,f1,f2]
   unfold Ei
   rw[Bh,Ao,Bj,s1]
   rfl
  have hp6:(vs (⟨some x,.dat m d,F⟩::(Va (S1.set j0 ⟨some (.ref dr),.un,[]⟩) js1++⟨some (.ref dr),.drw,[dr]⟩::Va (S1.set j0 ⟨some (.ref dr),.un,[]⟩) js2)))[js1.length+1]? = some (some (.ref dr)):=by
   unfold vs
   rw[Ao,oT,Bh,Gh (by rw[Af]; unfold Va; rw[Af]; exact Aj _)]
   rw[Af]
   unfold Va
   rw[Af,Nat.sub_self]
   rfl
  -- back to the outer names
  have back:∀{n':Nat} {H2:Hp},At K H0 Y n' (⟨some (.ref D),.acc acc,[D]⟩::(S1.set j0 ⟨some (.ref dr),.un,[]⟩++(hid++T))) H2->Gr K H2 n' ⟨some (.ref dr),.drw,[dr]⟩->At K H0 Y n' (⟨some (.ref D),.acc acc,[D]⟩::(S1++(hid++T))) H2:=λ{n' H2} hB hd'=>by
   refine hA2.re (λe he=>?_) hB.same hB.dom hB.xd
   w_pre d7
   ·exact hB.ok _ Ab
   ·rcases Aw.mp he with he | he
    ·obtain ⟨j,hj1⟩:=List.getElem?_of_mem he
     by_cases hjj:j=j0
     ·subst hjj
      rw[s1] at hj1
      cases hj1
      exact hd'
     ·refine hB.ok e (Ad _ (Ak _ (Be (i:=j) ?_)))
      rw[Wa (Ln hjj)]
      exact hj1
    ·exact hB.ok e (Ad _ (Ag _ he))
  w_pre m4
  refine yN hS6 hA6 hp6 (hs i d acc n h1 hI) (λn' H2 hA7 hd7 p=>?_) (λe n' v H2 hA7 hd7 r7 p=>?_)
  ·exact ⟨ds.length - (i+1),by omega,rfl,hlt,acc,n',back hA7 hd7,by omega,p⟩
  ·obtain ⟨xs,g1,g2,g3⟩:=(back hA7 hd7).accPut r7 (by omega)
   exact ⟨xs,g1,by omega,ds.length - (i+1),by omega,rfl,hlt,acc++[e],n',g3,by rw[Bf]; simp; omega,p⟩
 ·have e:i=ds.length:=by omega
  w_pre f5
  have hA3:=hA2.accGet
  have hA4:At K H0 Y n (⟨some (.ref D),.dat .ow (.list acc),[D]⟩::(S1++T)) H:=hA3.sub (((Ci S1).append (Bk hid T)).cons₂ _)
  exact hA4.tomid
end
section
variable{X:Cx}{elt iter c:Expr}{x y0:Str}{px py pos spos:Pos}{i0:Nat}{ifs:List Expr}{scope:Scope}{cl:List (Str×Addr)}{ys:List Str}{js1 js2:List Nat}{j0:Nat}{di:DI}{dc:DT}{de:DE}
theorem nS(C:CompScope X scope cl x ys (js1++j0::js2))(hc:X.calm=true)(hi:vZ X (.Name x px) iter di)(ht:∀fp s H,qN (Dm X scope cl (x::ys) fp s H) ifs (LT X.K dc))(he:∀fp s H,Fm (Dm X scope cl (x::ys) fp s H) elt de)(hs:∀x,Cz iter X.env x=pure x:=by intro _; rfl):Fm X (.ListComp elt [⟨.Name x px,iter,ifs,0⟩] scope pos) (pU di js1 j0 js2 dc de):=PE.imp (tN C hc hi ht he hs) t9
end
def DM(i j:Int):Prop:=0<=j/\(Builtin.Int.intBits i:Int) * j<=2 ^ 27
theorem F7{X:Cx}:Xe X (Jc .Pow) (rI DM λi j=>.int (i ^ j.toNat)):=EW λ_ _ _ _ _ _ _ hc q=>pow_int hc.1 hc.2 q
def Yo:DF:=λds n R=>ds=[]/\n<=100000/\∀r:Int,R (.int r) (n+1)
theorem J6{P:Bl}{w:World}{K:PySem.W.Frag}{mg:Str->Option Value}{base:Heap}{k:Nat}{f:Addr}{fd:Dc}{ps:List Str}(F:FnOk P w K mg base La k f fd ps yK):FnOk P w K mg base La k f fd ps (rF K Yo):=by
 refine F.imp λus H Q E h=>?_
 obtain ⟨dr,ws,As,n,ds,R,rfl,eu,ok,nd,⟨c,kk,fl,hdr,h0,h1⟩,q,hp,k1⟩:=h
 obtain ⟨rfl,hn,hR⟩:=hp
 have hAs:As=[]:=by
  have:=Lu q
  rw[Af] at this
  exact Mk.mp this
 subst hAs
 have hws:ws=[]:=by
  cases ws with
  | nil=>rfl
  | cons _ _=>cases eu
 subst hws
 refine ⟨dr,c,kk,fl,rfl,hdr,h0,by omega,λr c' H' hd' s=>?_⟩
 exact k1 (.int r) (.int r) [] (n+1) H' (by omega) (hR r) (.int r) Dv (λ_ z=>(nomatch z)) ⟨c',kk+1,fl,hd',by omega,by omega⟩ s
def yE:PF:=λds R=>∃a b:List Int,ds=[Br a,Br b]/\Gp 60 a/\Gp 60 b/\R (Br (On (a++b)))
theorem bI{ns:List Int}(r:Gp 60 ns):ns.length<=60:=Cg (NdS.len_leI (r.1.imp λ{x y} h=>aU h) λe he=>Ws (r.2 e he).1 (r.2 e he).2) (by decide)
theorem lN{K:PySem.W.Frag}{H:Hp}{v:V}{F:List Addr}{ns:List Int}(r:RdF K H v (Br ns) F):∃a,v=.ref a/\H a=some (.tup (ns.map V.int)):=by
 obtain ⟨a,xs,rfl,ha,ra,_⟩:=RdF.tup_inv (ds:=ns.map Ax) r
 w_pre e9
 exact ⟨a,rfl,ha⟩
theorem G8{K:PySem.W.Frag}{H:Hp}{a:Addr}{ns:List Int}(h:H a=some (.tup (ns.map V.int)))(l:ns.length<=1000000):RdF K H (.ref a) (Br ns) []:=.tup h (by rw[Af]; exact kD l) (RdFs.ints ns)
theorem yG{K:PySem.W.Frag}{H:Hp}{n:Nat}{As:List Ent}{us:List V}{d1 d2:Ae}(eu:As.map Ent.v=us.map some)(ok:∀e∈As,Gr K H n e)(q:datas (As.map Ent.x)=some [d1,d2]):∃v1 v2 F1 F2,us=[v1,v2]/\RdF K H v1 d1 F1/\RdF K H v2 d2 F2:=by
 have r:=Tn eu q ok
 generalize As.flatMap Ent.F=G0 at r
 cases r with
 | cons a t =>
  cases t with
  | cons b t =>
   cases t
   exact ⟨_,_,_,_,rfl,a,b⟩
section
variable{P:Bl}{w:World}{K:PySem.W.Frag}{mg:Str->Option Value}{base:Heap}{k:Nat}{f:Addr}{fd:Dc}{ps:List Str}
theorem BB(F:FnOk P w K mg base La k f fd ps (U7 K)):FnOk P w K mg base La k f fd ps (bJ K yE):=by
 refine F.imp λus H Q E h=>?_
 obtain ⟨As,n,ds,R,eu,ok,q,hp,k1⟩:=h
 obtain ⟨a,b,rfl,ra,rb,hR⟩:=hp
 obtain ⟨v1,v2,F1,F2,rfl,r1,r2⟩:=yG eu ok q
 obtain ⟨p1,rfl,h1⟩:=lN r1
 obtain ⟨p2,rfl,h2⟩:=lN r2
 refine ⟨p1,p2,a,b,rfl,Ta.of h1,Ta.of h2,ra,rb,λr ts H' nr er nd pw mem s=>?_⟩
 have e:ts=On (a++b):=iO (Yq nd pw) mem
 subst e
 refine k1 (.ref r) _ [] H' hR (G8 er ?_) Dv (λ_ z=>(nomatch z)) s
 have:=kY (ns:=a++b) (λx hx=>by
  w_pre z7
  ·exact ra.2 x z
  ·exact rb.2 x z)
 omega
end
end DL
namespace Nd
open PySem PySem.Spec PyProof.Rows L2
end Nd
namespace DL
open PySem PySem.Spec PyProof.Rows L2 Nd
end DL
namespace Nd
open PySem PySem.Spec PyProof.Rows
section
variable{prog:Bl}{w:World}{κ:Type}[DecidableEq κ](knd:HeapKind prog w κ)
def DictE(h:Heap)(d:Addr)(xs:List (κ×Addr×Value)):Prop :=
 ∃(o:Obj) (es:Array Gz) (ep:Nat),h.get? d=some o/\o.ExactDict/\o.data=.dict es ep/\es.toList=xs.map (Wk knd)/\(∀x∈xs,knd.is h x.1 x.2.1)/\(xs.map (·.1)).Nodup/\ep=es.size
variable{knd}
theorem DictE.of{h:Heap}{d:Addr}{xs:List (κ×Addr×Value)}(x:DictE knd h d xs):h.DictOfH knd d xs:=let ⟨o,es,ep,a,b,c,e,f,g,_⟩:=x; ⟨o,es,ep,a,b,c,e,f,g⟩
variable{A:Ce}{E:Value->Ai->Prop}{s:Ai}{d a:Addr}{xs:List (κ×Addr×Value)}{k:κ}{v:Value}
theorem wW{xs:List (κ×Addr×Value)}{k:κ}{a:Addr}{v:Value}(hn:(xs.map (·.1)).Nodup)(hk:k∉xs.map (·.1)):((xs++[(k,a,v)]).map (·.1)).Nodup:=by
 rw[Bh,List.nodup_append]
 refine ⟨hn,by simp,λx hx y hy e=>hk ?_⟩
 rw[Ao,Py,Al] at hy
 have hy:y=k:=hy
 rw[<- hy,<- e]
 exact hx
theorem yJ{o:Obj}{es:Array Gz}{ep:Nat}{h:Heap}(ho:h.get? d=some o)(hc:o.ExactDict)(hd:o.data=.dict es ep)(he:es.toList=xs.map (Wk knd))(his:∀x∈xs,knd.is h x.1 x.2.1)(hn:(xs.map (·.1)).Nodup)(hep:ep=es.size)(hkey:knd.is h k a)(ha:atKey xs k=none)(hk:k∉xs.map (·.1)):DictE knd (h.update d (Obj.mapDictKeys λes=>es.push ⟨knd.hash k,.ref a,v⟩)) d (storedH xs k a v):=by
 rw[storedH_new ha]
 refine ⟨_,_,ep+1,Eu _ ho (Obj.isFreed_of_dict (Obj.data_mapDictKeys hd _)),hc.mapDictKeys _,Obj.data_mapDictKeys hd _,by simp [he,Wk],λx hx=>?_,wW hn hk,by rw[hep,Array.size_push]⟩
 w_pre z7
 ·exact knd.keeps (his x z) ho hd (Bo ..)
 ·rw[Al.mp z]
  exact knd.keeps hkey ho hd (Bo ..)
theorem cW{Q:Unit->Ai->Prop}(hu:knd.room A)(hkey:knd.is s.heap k a)(hm:DictE knd s.heap d xs)(q:∀h',DictE knd h' d (storedH xs k a v)->Ct d s.heap h'->Q () { s with heap:=h',toks:=s.toks+knd.draws k })(hz:xs.length<=Aq):wpAny (model prog w) A (dictSet d (.ref a) v) Q E s:=by
 obtain ⟨o,es,ep,ho,hc,hd,he,his,hn,hep⟩:=hm
 unfold dictSet
 w_pre w8
 refine Aa (knd.pyHash hu hkey ?_)
 unfold dictSetHashed
 w_pre w8
 refine Aa (wpAny_dictFind_heap (s:={ s with toks:=s.toks+knd.draws k }) hu hkey ho hd he his hn (λno=>?_) λj p hj=>?_)
 ·exact Aa (Kk (wpAny_updateDictKeys (hz:=by have e:=size_of_entries he; omega) (s:={ s with toks:=s.toks+knd.draws k }) ho hd (q _ (yJ ho hc hd he his hn hep hkey (atKey_none_of_get no) (not_mem_keys_of_get no)) (Bo ..))))
 ·refine Aa (Kk (Aa (wpAny_updateDict (s:={ s with toks:=s.toks+knd.draws k }) ho hd (wpAny_point (q _ ?_ (Bo ..))))))
  rw[storedH_old (atKey_of_get hn hj)]
  refine ⟨_,_,ep,Eu _ ho (Obj.isFreed_of_dict (Obj.data_mapDict hd _)),hc.mapDict _,Obj.data_mapDict hd _,?_,λx hx=>?_,by rw[keys_map_putAt]; exact hn,by rw[hep]; simp⟩
  ·have e1:=modify_map_putAt (Wk knd) (λe:Gz=>{ e with val:=v }) k v (λ_ _=>rfl) hn hj
   rw[<- he] at e1
   obtain ⟨l⟩:=es
   simpa using e1
  ·obtain ⟨y,hy,rfl⟩:=Df.mp hx
   unfold putAt
   split <;> exact knd.keeps (his y hy) ho hd (Bo ..)
theorem setItemE{Q:Unit->Ai->Prop}(hu:knd.room A.in1)(hkey:knd.is s.heap k a)(hm:DictE knd s.heap d xs)(q:∀h',DictE knd h' d (storedH xs k a v)->Ct d s.heap h'->Q () { s with heap:=h',toks:=s.toks+knd.draws k })(hz:xs.length<=Aq):wpAny (model prog w) A (setItem (.ref d) (.ref a) v) Q E s:=by
 have tD:=hm.of.typeIs
 unfold setItem
 w_pre w8
 refine Aa (gE tD (by decide) ?_)
 refine Aa (Cu (name:=Dq "__setitem__") tD slot_dict_setitem (Cn slot_dict_setitem tD entry_dict_setitem ?_ (args_dict_setitem _ _ _)))
 show wpAny _ _ (bind (Builtin.Dict.notOrdered "__setitem__" ⟨[.ref d,.ref a,v],[]⟩) _) _ _ s
 refine Aa (Pm tD ?_)
 show wpAny _ _ (bind (dictSet d (.ref a) v) _) _ _ s
 exact Aa (cW hu hkey hm (λh' a b=>Ac ⟨.none,rfl,Ac (q h' a b)⟩) hz)
end
end Nd
namespace L2
open PySem PySem.Spec PyProof.Rows
section
variable{κ:Type}[DecidableEq κ]
def Yp(kvs:List (κ×V))(k:κ):Option V:=(kvs.find? λkv=>decide (kv.1=k)).map (·.2)
def Oj(kvs:List (κ×V))(k:κ)(v:V):List (κ×V) :=
 if (kvs.any λkv=>decide (kv.1=k))=true then kvs.map (λkv=>if kv.1=k then (kv.1,v) else kv) else kvs++[(k,v)]
theorem Wz{p:κ×V}{r:List (κ×V)}{k:κ}(e:p.1=k):Yp (p::r) k=some p.2:=by simp [Yp,Il,e]
theorem Xk{p:κ×V}{r:List (κ×V)}{k:κ}(e:¬ p.1=k):Yp (p::r) k=Yp r k:=by simp [Yp,Il,e]
theorem lO(k:κ):∀kvs:List (κ×V),(kvs.any λkv=>decide (kv.1=k))=(Yp kvs k).isSome
 | []=>rfl
 | p::r=>by
  rw[Of]
  by_cases e:p.1=k
  ·simp only[Wz e,decide_eq_true e,Bool.true_or,Option.isSome_some]
  ·rw[Xk e,decide_eq_false e,Bool.false_or]; exact lO k r
theorem Qb(kvs:List (κ×V))(k:κ)(v:V):(Oj kvs k v).length<=kvs.length+1:=by
 unfold Oj
 split
 ·rw[Af]; omega
 ·rw[Bf,Bm,Ik]; omega
theorem mY.isSome_eq{o:Option V}{u:Option Value}(r:mY o u):o.isSome=u.isSome:=by
 cases o with
 | none=>cases u with
  | none=>rfl
  | some _=>exact (show False from r).elim
 | some _=>cases u with
  | none=>exact (show False from r).elim
  | some _=>rfl
theorem mY.getD{o:Option V}{u:Option Value}{d:V}{d':Value}(r:mY o u)(rd:RelV d d'):RelV (o.getD d) (u.getD d'):=by
 cases o with
 | none=>cases u with
  | none=>exact rd
  | some _=>exact (show False from r).elim
 | some _=>cases u with
  | none=>exact (show False from r).elim
  | some _=>exact r
theorem KV.val{kvs:List (κ×V)}{vs:List (κ×Value)}(r:KV kvs vs)(k:κ):mY (Yp kvs k) (valueAt vs k):=by
 unfold KV at r
 induction r with
 | nil=>exact Jr
 | @cons p q ps qs h t ih =>
  obtain ⟨h1,h2⟩:=h
  by_cases e:p.1=k
  ·have e':q.1=k:=h1.symm.trans e
   have b:valueAt (q::qs) k=some q.2:=by simp [valueAt,Il,e']
   rw[Wz e,b]; exact h2
  ·have e':¬ q.1=k:=λz=>e (h1.trans z)
   have b:valueAt (q::qs) k=valueAt qs k:=by simp [valueAt,Il,e']
   rw[Xk e,b]; exact ih
theorem KV.any{kvs:List (κ×V)}{vs:List (κ×Value)}(r:KV kvs vs)(k:κ):(kvs.any λkv=>decide (kv.1=k))=vs.any λkv=>decide (kv.1=k):=by
 unfold KV at r
 induction r with
 | nil=>rfl
 | cons h t ih=>rw[Of,Of,ih,h.1]
theorem KV.repl{kvs:List (κ×V)}{vs:List (κ×Value)}(r:KV kvs vs)(k:κ){y:V}{u:Value}(ry:RelV y u):KV (kvs.map λkv=>if kv.1=k then (kv.1,y) else kv) (vs.map λkv=>if kv.1=k then (kv.1,u) else kv):=by
 unfold KV at r ⊢
 induction r with
 | nil=>exact .nil
 | @cons p q ps qs h t ih =>
  rw[Ao,Ao]
  refine .cons ?_ ih
  obtain ⟨h1,h2⟩:=h
  by_cases e:p.1=k
  ·rw[if_pos e,if_pos (h1.symm.trans e)]; exact ⟨h1,ry⟩
  ·rw[if_neg e,if_neg (λz=>e (h1.trans z))]; exact ⟨h1,h2⟩
theorem KV.put{kvs:List (κ×V)}{vs:List (κ×Value)}(r:KV kvs vs)(k:κ){y:V}{u:Value}(ry:RelV y u):KV (Oj kvs k y) (stored vs k u):=by
 unfold Oj stored
 rw[r.any k]
 by_cases e:(vs.any λkv=>decide (kv.1=k))=true
 ·rw[if_pos e,if_pos e]; exact r.repl k ry
 ·rw[if_neg e,if_neg e]; exact Paired.snoc r ⟨rfl,ry⟩
theorem KV.length{kvs:List (κ×V)}{vs:List (κ×Value)}(r:KV kvs vs):kvs.length=vs.length:=Paired.length r
end
theorem rV{P:Bl}{w:World}{k:Jp}{u:Value}(r:RelV (kV k) u):(Hn P w).is k u=true:=by
 cases k with
 | inl i=>obtain ⟨t,e⟩:=(show ∃t,u=Lb i t from r); subst e; exact mR P w i t
 | inr x=>obtain ⟨t,e⟩:=(show ∃t,u=Value.str x t from r); subst e; exact lG P w x t
theorem eZ{P:Bl}{w:World}:∀{ks:List Jp} {us:List Value},Gf (ks.map kV) us->ItemsAre (Hn P w) ks us
 | [],_,r=>by rw[Py] at r; cases r; exact .nil
 | k::ks,_,r=>by
  rw[Ao] at r
  cases r with
  | cons h t=>exact .cons (rV h) (eZ t)
abbrev KT(H:Hp):List (List Jp×V)->List (List Jp×Addr×Value)->Prop:=Paired λp q=>p.1=q.1/\H q.2.1=some (.tup (p.1.map kV))/\RelV p.2 q.2.2
theorem KT.val{H:Hp}{kvs:List (List Jp×V)}{xs:List (List Jp×Addr×Value)}(r:KT H kvs xs)(k:List Jp):mY (Yp kvs k) ((atKey xs k).map (·.2)):=by
 induction r with
 | nil=>exact Jr
 | @cons p q ps qs h t ih =>
  obtain ⟨h1,_,h2⟩:=h
  by_cases e:p.1=k
  ·have e':q.1=k:=h1.symm.trans e
   have b:atKey (q::qs) k=some q.2:=by simp [atKey,Il,e']
   rw[Wz e,b]; exact h2
  ·have e':¬ q.1=k:=λz=>e (h1.trans z)
   have b:atKey (q::qs) k=atKey qs k:=by simp [atKey,Il,e']
   rw[Xk e,b]; exact ih
theorem KT.repl{H:Hp}{kvs:List (List Jp×V)}{xs:List (List Jp×Addr×Value)}(r:KT H kvs xs)(k:List Jp){y:V}{u:Value}(ry:RelV y u):KT H (kvs.map λkv=>if kv.1=k then (kv.1,y) else kv) (xs.map (putAt k u)):=by
 induction r with
 | nil=>exact .nil
 | @cons p q ps qs h t ih =>
  rw[Ao,Ao]
  refine .cons ?_ ih
  obtain ⟨h1,h2,h3⟩:=h
  unfold putAt
  by_cases e:p.1=k
  ·rw[if_pos e,if_pos (h1.symm.trans e)]; exact ⟨h1,h2,ry⟩
  ·rw[if_neg e,if_neg (λz=>e (h1.trans z))]; exact ⟨h1,h2,h3⟩
theorem KT.put{H:Hp}{kvs:List (List Jp×V)}{xs:List (List Jp×Addr×Value)}(r:KT H kvs xs)(k:List Jp){b:Addr}{y:V}{u:Value}(hb:H b=some (.tup (k.map kV)))(ry:RelV y u):KT H (Oj kvs k y) (storedH xs k b u):=by
 have e:(kvs.any λkv=>decide (kv.1=k))=(atKey xs k).isSome:=by
  rw[lO,(r.val k).isSome_eq,Option.isSome_map]
 unfold Oj storedH
 rw[e]
 by_cases q:(atKey xs k).isSome=true
 ·rw[if_pos q,if_pos q]; exact r.repl k ry
 ·rw[if_neg q,if_neg q]; exact Paired.snoc r ⟨rfl,hb,ry⟩
theorem KT.keeps{H H':Hp}{kvs:List (List Jp×V)}{xs:List (List Jp×Addr×Value)}(r:KT H kvs xs)(ht:∀b ys,H b=some (.tup ys)->H' b=some (.tup ys)):KT H' kvs xs :=
 Paired.mapP r λ_ _ z=>⟨z.1,ht _ _ z.2.1,z.2.2⟩
section
variable{P:Bl}{w:World}{H:Hp}{h:Heap}{a:Addr}
theorem B0{u:HO}(ok:Vf P w H h)(e:Rd H a u):Hl P w H h a u:=e.ok ok
theorem mV{kvs:List (Jp×V)}(ok:Vf P w H h)(e:Rd H a (.dK kvs)):kvs.length<=Aq/\(a == Gm)=false/\∃vs,KV kvs vs/\h.DictOf (Hn P w) a vs :=
 show Hl P w H h a (.dK kvs) from B0 ok e
theorem EJ{kvs:List (Jp×V)}(ok:Vf P w H h)(e:H a=some (.dK kvs)):kvs.length<=Aq/\(a == Gm)=false/\∃vs,KV kvs vs/\h.DictOf (Hn P w) a vs:=mV ok (.inl e)
theorem Vy{ks:List Jp}(ok:Vf P w H h)(e:H a=some (.tup (ks.map kV))):(Ng (Hn P w)).is h ks a:=by
 obtain ⟨_,its,r,o,h1,h2,n,h3⟩:=(show Hl P w H h a (.tup (ks.map kV)) from ok a _ e)
 exact ⟨o,its.toArray,n,h1,h2,h3,by simpa using eZ r⟩
theorem tJ{kvs:List (List Jp×V)}(ok:Vf P w H h)(e:Rd H a (.dT kvs)):kvs.length<=Aq/\(a == Gm)=false/\∃xs,KT H kvs xs/\h.DictOfH (Ng (Hn P w)) a xs:=by
 w_pre d8
 refine ⟨z,y,xs,r,o,es,ep,h1,h2,h3,h4,λx hx=>?_,h5⟩
 w_pre n
theorem kA{kvs:List (List Jp×V)}(ok:Vf P w H h)(e:Rd H a (.dT kvs)):kvs.length<=Aq/\(a == Gm)=false/\∃xs,KT H kvs xs/\Nd.DictE (Ng (Hn P w)) h a xs:=by
 w_pre d8
 refine ⟨z,y,xs,r,o,es,ep,h1,h2,h3,h4,λx hx=>?_,h5,h6⟩
 w_pre n
end
def pP(H:Hp)(a:Addr)(y:V)(r:Option V):Prop :=
 (∃kvs k,Rd H a (.dK kvs)/\y=kV k/\r=Yp kvs k)\/∃kvs k b,Rd H a (.dT kvs)/\y=.ref b/\H b=some (.tup (k.map kV))/\r=Yp kvs k
def CC(H:Hp)(a:Addr)(y v:V)(H':Hp):Prop :=
 (∃kvs k,H a=some (.dK kvs)/\y=kV k/\kvs.length<Aq/\H'=upd H a (.dK (Oj kvs k v))) \/
 ∃kvs k b,H a=some (.dT kvs)/\y=.ref b/\H b=some (.tup (k.map kV))/\kvs.length<Aq/\H'=upd H a (.dT (Oj kvs k v))
theorem pP.t{H:Hp}{a b:Addr}{kvs:List (List Jp×V)}{k:List Jp}(e:H a=some (.dT kvs))(eb:H b=some (.tup (k.map kV))):pP H a (.ref b) (Yp kvs k):=.inr ⟨kvs,k,b,.inl e,rfl,eb,rfl⟩
theorem CC.t{H:Hp}{a b:Addr}{kvs:List (List Jp×V)}{k:List Jp}{v:V}(e:H a=some (.dT kvs))(eb:H b=some (.tup (k.map kV)))(hl:kvs.length<Aq):CC H a (.ref b) v (upd H a (.dT (Oj kvs k v))):=.inr ⟨kvs,k,b,e,rfl,eb,hl,rfl⟩
section
variable{X:Cx}{pins:List (Addr×Obj)}{σ:St}{H:Hp}{s:Ai}{a:Addr}{y v:V}{u r:Value}{o:Option V}{A:Ce}{E:Value->Ai->Prop}
theorem Inv.big(I:Inv X pins σ H s):Gm<s.heap.objs.size:=by
 have h:Dg<s.heap.objs.size:=(I.mod.glob.keeps I.bk).lt
 exact Uy (by decide) h
theorem vX{Q:Value->Ai->Prop}(hu:A.units+1<cLine)(I:Inv X pins σ H s)(g:pP H a y (some v))(ry:RelV y u)(h:∀w' s',Inv X pins σ H s'->RelV v w'->Q w' s'):wpAny (model X.prog X.w) A (Uc (.ref a) u) Q E s:=by
 w_pre k9
 ·subst ey
  obtain ⟨z,hd,vs,rel,dd⟩:=mV I.hok e
  obtain ⟨w',hw,rw'⟩:=mY.some_of (v:=v) (o:=valueAt vs k) (by rw[l]; exact rel.val k)
  exact wpAny_getItem_of (rV ry) dd.mapOf hw (h w' _ (I.tok _) rw')
 ·subst ey
  w_pre u5
  obtain ⟨w',hw,rw'⟩:=mY.some_of (v:=v) (o:=(atKey xs k).map (·.2)) (by rw[l]; exact rel.val k)
  obtain ⟨p,hp,hp2⟩:=Option.map_eq_some_iff.mp hw
  refine wpAny_getItem_heap (dJ hu) (Vy I.hok eb) dd hp ?_
  rw[hp2]
  exact h w' _ (I.tok _) rw'
theorem aO{h':Heap}{t':Nat}{ob:HO}(I:Inv X pins σ H s)(mu:FT (H a))(hs:Ct a s.heap h')(he:∃q,h'.get? a=some q)(new:Hl X.prog X.w (upd H a ob) h' a ob):Inv X pins σ (upd H a ob) { s with heap:=h',toks:=t' } :=
 I.write (x:=a) (e:=a) mu (.inl rfl) (λb q hb z=>(hs.2 b hb).trans z) he new
theorem AR{P:Bl}{w:World}{H':Hp}{h':Heap}{kvs:List (Jp×V)}{vs:List (Jp×Value)}(z:kvs.length<=Aq)(hd:(a == Gm)=false)(rel:KV kvs vs)(dd:h'.DictOf (Hn P w) a vs):Hl P w H' h' a (.dK kvs):=⟨z,hd,vs,rel,dd⟩
theorem vI{H':Hp}{Q:Unit->Ai->Prop}(hu:A.units+1<cLine)(I:Inv X pins σ H s)(g:CC H a y v H')(ry:RelV y u)(rv:RelV v r)(h:∀s',Inv X pins σ H' s'->Q () s'):wpAny (model X.prog X.w) A (setItem (.ref a) u r) Q E s:=by
 rcases g with ⟨kvs,k,e,ey,l,eH⟩ | ⟨kvs,k,b,e,ey,eb,l,eH⟩
 ·subst ey eH
  obtain ⟨z,hd,vs,rel,dd⟩:=EJ I.hok e
  have hz:vs.length<=Aq:=by rw[<- rel.length]; exact z
  have hl:(Oj kvs k v).length<=Aq:=by have:=Qb kvs k v; omega
  refine wpAny_setItem_pairs (hsz:=hz) (rV ry) dd λh' dd' hs=>h _ ?_
  have he:∃q,h'.get? a=some q:=let ⟨q,_,_,hq,_⟩:=dd'; ⟨q,hq⟩
  exact aO I (by rw[e]; exact Jr) hs he (AR hl hd (rel.put k rv) dd')
 ·subst ey eH
  cases (show u=Ay b from ry)
  w_pre x1
  refine Nd.setItemE (hz:=hz) (dJ hu) (Vy I.hok eb) dd λh' dd' hs=>h _ ?_
  w_pre l8
  refine aO I (by rw[e]; exact Jr) hs ⟨q,hq⟩ ⟨hl,hd,_,(rel.put k eb rv).keeps λc ys ec=>?_,q,es,ep,hq,h2,h3,h4,h5⟩
  rw[Dr (yC ec e (λz=>nomatch z))]
  exact ec
end
def Y4(i:Expr):Prop:=∀ov iv,subscripted i false ov iv=operate [ov,iv] (Uc ov iv)
theorem O3{prog:Bl}{w:World}{A:Ce}{E:Value->Ai->Prop}{s:Ai}{env:Env}{value slice:Expr}{pos:Pos}{T id:String}{Q:Value->Ai->Prop}(hl:dI (.type T) "__getitem__" = pure (some (.builtin id)))(hs:Y4 slice)(h:wpAny (model prog w) A (eval value env) (λo s₁=>wpAny (model prog w) A (eval slice env) (λi s₂=>s₂.TypeIs o T/\wpAny (model prog w) A (Uc o i) Q E s₂) E s₁) E s):wpAny (model prog w) A (eval (.Subscript value slice pos) env) Q E s:=by
 refine Subscript_ (Cq h (λo s₁ h₁=>Cq h₁ (λi s₂ h₂=>?_) λ_ _ x=>x) λ_ _ x=>x)
 obtain ⟨hT,h₂⟩:=h₂
 unfold subscriptTail
 refine Aa ?_
 rw[getitemInPython_of_ne hT.not_modules]
 refine Aa (wpAny_specialOf hT hl ?_)
 have fin:wpAny (model prog w) A (subscripted slice false o i) (λr s₃=>wpAny (model prog w) A (letTemporaryGo value o r >>= λ_=>pure r) Q E s₃) E s₂:=by
  rw[hs o i]
  exact wpAny_operating (Cq h₂ (λr s₃ h₃=>Aa (wpAny_letTemporaryGo (Ac h₃))) λ_ _ x=>x)
 first
  | exact Ac (Aa fin)
  | exact Aa (Ac (Aa fin))
  | exact Aa fin
theorem kN{X:Cx}{pins:List (Addr×Obj)}{σ:St}{H:Hp}{s:Ai}{a:Addr}{y:V}{o:Option V}(I:Inv X pins σ H s)(g:pP H a y o):s.TypeIs (.ref a) "dict" := by
 rcases g with ⟨kvs,k,e,_,_⟩ | ⟨kvs,k,b,e,_,_,_⟩
 ·obtain ⟨_,_,vs,_,dd⟩:=mV I.hok e
  exact dd.typeIs
 ·obtain ⟨_,_,xs,_,dd⟩:=tJ I.hok e
  exact dd.typeIs
def GA(td ty:TE):TE:=λσ H Q=>td σ H λx H1=>ty σ H1 λy H2=>∃a v,x=.ref a/\pP H2 a y (some v)/\Q v H2
def FJ(td ty tv:TE):TS:=λD σ H=>tv σ H λv H1=>td σ H1 λx H2=>ty σ H2 λy H3=>∃a H4,x=.ref a/\CC H3 a y v H4/\D.nx σ H4
section
variable{X:Cx}{o i e value:Expr}{pos pos' tpos:Pos}{td ty tv:TE}
theorem N3(hu:X.A.units+1<cLine)(ho:PE X o td)(hi:PE X i ty)(hs:Y4 i):PE X (.Subscript o i pos) (GA td ty):=by
 w_pre w6
 refine O3 PySem.F.slot_dict_getitem.lookup hs (Gb (ho pins s σ H _ I h) λu s1 ⟨x,H1,I1,rx,q1⟩=>Gb (hi pins s1 σ H1 _ I1 q1) λiv s2 ⟨y,H2,I2,ry,a,v,ex,g,q2⟩=>?_)
 w_pre a6
 exact ⟨kN I2 g,vX hu I2 g ry λw' s3 I3 rw'=>⟨v,H2,I3,rw',q2⟩⟩
theorem R1(hu:X.A.units+1<cLine)(ho:PE X o td)(hi:PE X i ty)(hv:PE X value tv)(hs:Nh value (some (.Subscript o i pos')) pos.line X.env=pure false):PS X (.Assign [.Subscript o i pos'] value pos) (FJ td ty tv):=by
 w_pre m7
 refine wpAny_Assign_Subscript (Gb (hv pins s σ H _ I h) λr s1 ⟨v,H1,I1,rv,q1⟩=>Gb (ho pins s1 σ H1 _ I1 q1) λu s2 ⟨x,H2,I2,rx,q2⟩=>Gb (hi pins s2 σ H2 _ I2 q2) λiv s3 ⟨y,H3,I3,ry,a,H4,ex,g,q3⟩=>?_) hs
 w_pre a6
 exact vI hu I3 g ry rv λs4 I4=>⟨σ,H4,I4,q3⟩
end
theorem lM{P:Bl}{w:World}{H:Hp}(h:Heap)(hb:Gm<h.objs.size):Hl P w H (h.push { cls:=.type "dict",data:=.dict #[] }) h.objs.size (.dT []) :=
 ⟨Di _,beq_eq_false_iff_ne.mpr (Ln (Bu hb)),[],.nil,_,#[],0,Ap _ rfl,⟨rfl,rfl,rfl⟩,rfl,rfl,Dv,rfl⟩
structure M1(X:Cx)(o:Expr)(m:Str)(apos:Pos)(e:Expr)(cpos:Pos):Prop where
 base:Mr o m X.env (eval o X.env)=eval o X.env
 few:((Hj cpos (Bn [e] X.env)).all (λx=>!x.1) && (backToKw cpos (Zo [] X.env)).all (λx=>x.1.isSome)
  && decide (([e]:List Expr).length+([]:List Ug).length+(if ([]:List Ug).isEmpty then 0 else 1)<30))=true
 line:(apos.endLine == cpos.line)=true
 trees:Hj cpos (Bn [e] X.env)=[(false,eval e X.env)]
structure M2(X:Cx)(o:Expr)(m:Str)(apos:Pos)(e f:Expr)(cpos:Pos):Prop where
 base:Mr o m X.env (eval o X.env)=eval o X.env
 few:((Hj cpos (Bn [e,f] X.env)).all (λx=>!x.1) && (backToKw cpos (Zo [] X.env)).all (λx=>x.1.isSome)
  && decide (([e,f]:List Expr).length+([]:List Ug).length+(if ([]:List Ug).isEmpty then 0 else 1)<30))=true
 line:(apos.endLine == cpos.line)=true
 trees:Hj cpos (Bn [e,f] X.env)=[(false,eval e X.env),(false,eval f X.env)]
def JB(H:Hp)(a:Addr):Prop:=(∃kvs,Rd H a (.dK kvs))\/∃kvs,Rd H a (.dT kvs)
theorem B6{X:Cx}{pins:List (Addr×Obj)}{σ:St}{H:Hp}{s:Ai}{a:Addr}(I:Inv X pins σ H s)(d:JB H a):s.TypeIs (.ref a) "dict" /\ (∀b,Ay a=.ref b->∃ob,s.heap.get? b=some ob/\ob.dict=none)/\(a == Gm)=false:=by
 rcases d with ⟨kvs,e⟩ | ⟨kvs,e⟩
 ·obtain ⟨_,hd,vs,_,dd⟩:=mV I.hok e
  w_pre m1
 ·obtain ⟨_,hd,xs,_,dd⟩:=tJ I.hok e
  w_pre m1
section
variable{X:Cx}{pins:List (Addr×Obj)}{σ:St}{H:Hp}{s:Ai}{a:Addr}{y d:V}{u r:Value}{o:Option V}{A:Ce}{E:Value->Ai->Prop}
theorem AJ{Q:Value->Ai->Prop}(hu:A.units+1<cLine)(I:Inv X pins σ H s)(g:pP H a y o)(ry:RelV y u)(rd:RelV d r)(h:∀w' s',Inv X pins σ H s'->RelV (o.getD d) w'->Q w' s'):wpAny (model X.prog X.w) A (call (.builtin "dict.get") [.ref a,u,r]) Q E s:=by
 w_pre k9
 ·subst ey
  obtain ⟨z,hd,vs,rel,dd⟩:=mV I.hok e
  refine call_meetsIn PySem.F.slot_dict_get dd.typeIs PySem.F.entry_dict_get (PySem.F.args_dict_get_3 _ _ _) (meets_dict_get_default (Hn X.prog X.w) a (rV ry) hd r) ⟨_,dd.mapOf,h _ _ (I.tok _) ?_⟩
  rw[l]
  exact (rel.val k).getD rd
 ·subst ey
  w_pre u5
  refine call_meetsIn PySem.F.slot_dict_get dd.typeIs PySem.F.entry_dict_get (PySem.F.args_dict_get_3 _ _ _) (meetsH_dict_get_default (Ng (Hn X.prog X.w)) a b hd r) ⟨dJ hu,k,xs,Vy I.hok eb,dd,h _ _ (I.tok _) ?_⟩
  rw[l]
  exact (rel.val k).getD rd
end
def r9(td ty tx:TE):TE:=λσ H Q=>td σ H λx H1=>∃a,x=.ref a/\JB H1 a/\ty σ H1 λy H2=>tx σ H2 λz H3=>∃o,pP H3 a y o/\Q (o.getD z) H3
section
variable{X:Cx}{o e f:Expr}{apos cpos:Pos}{td ty tx:TE}
theorem B2(hu:X.A.units+1<cLine)(ho:PE X o td)(he:PE X e ty)(hf:PE X f tx)(m:M2 X o "get" apos e f cpos):PE X (.Call (.Attribute o "get" apos) [e,f] [] cpos) (r9 td ty tx):=by
 w_pre w6
 refine wpAny_Call_method m.base m.few m.line PySem.F.plainAttrs_dict PySem.F.slot_dict_get PySem.F.type_dict_get (Gb (ho pins s σ H _ I h) λu s1 ⟨x,H1,I1,rx,a,ex,d,q1⟩=>?_)
 w_pre a6
 obtain ⟨t1,t2,_⟩:=B6 I1 d
 refine ⟨t1,t2,?_⟩
 rw[m.trees]
 refine Mt rfl (Vk (Lz (Gb (he pins s1 σ H1 _ I1 q1) λiv s2 ⟨y,H2,I2,ry,q2⟩ =>
  Lz (Gb (hf pins s2 σ H2 _ I2 q2) λfv s3 ⟨z,H3,I3,rz,ov,g,q3⟩=>Rn ?_))))
 exact AJ hu I3 g ry rz λw' s4 I4 rw'=>⟨_,H3,I4,rw',q3⟩
end
end L2
namespace Nd
open PySem PySem.Spec PyProof.Rows L2
end Nd
namespace DL
open PySem PySem.Spec PyProof.Rows L2 Nd
def Wn(ks:List (List Int×Ae))(w:List Int):Option Ae:=(ks.find? λp=>decide (p.1=w)).map (·.2)
def Rc(ks:List (List Int×Ae))(w:List Int)(d:Ae):List (List Int×Ae) :=
 if (ks.any λp=>decide (p.1=w))=true then ks.map (λp=>if p.1=w then (p.1,d) else p) else ks++[(w,d)]
theorem aN{α β:Type}{f:α->β}(hf:∀a b,f a=f b->a=b):∀{l m:List α},l.map f=m.map f->l=m
 | [],[],_=>rfl
 | [],_::_,h=>by cases h
 | _::_,[],h=>by cases h
 | a::l,b::m,h=>by
  obtain ⟨h1,h2⟩:=Ig h
  rw[hf a b h1,aN hf h2]
theorem Tg{a b:List Int}(h:Br a=Br b):a=b:=aN (λx y e=>by cases e; rfl) (PyData.tuple.inj h)
theorem Ju{a b:List (List Int×Ae)}(h:Ov a=Ov b):a=b:=aN (λx y e=>by
 obtain ⟨e1,e2⟩:=Prod.mk.inj e
 exact Prod.ext (Tg e1) e2) (Ig h).2
theorem aZ{a b:List Int}(h:Ld a=Ld b):a=b:=aN (λx y e=>by cases e; rfl) h
theorem iU(w:List Int):(Ld w).map kV=w.map V.int:=by
 unfold Ld
 rw[Dn]
 rfl
section
variable{K:PySem.W.Frag}{H H':Hp}
structure DRel(K:PySem.W.Frag)(H:Hp)(kv:List (List Jp×V))(ks:List (List Int×Ae)):Prop where
 key:kv.map (·.1)=ks.map λp=>Ld p.1
 val:RdFs K H (kv.map (·.2)) (ks.map (·.2)) []
theorem RdF.dict_inv{v:V}{X:List (Ae×Ae)}{F:List Addr}(h:RdF K H v (.dict X) F):∃a kv ks,v=.ref a/\X=Ov ks/\H a=some (.dT kv)/\DRel K H kv ks/\F=[a]:=by
 cases h with
 | dic h e hs=>exact ⟨_,_,_,rfl,rfl,h,⟨e,hs⟩,rfl⟩
theorem RdFs.cons_nil{x:V}{d:Ae}{xs:List V}{ds:List Ae}{F:List Addr}(h:RdFs K H (x::xs) (d::ds) F)(hF:F=[]):RdF K H x d []/\RdFs K H xs ds []:=by
 cases h with
 | cons a t =>
  w_pre i9
  exact ⟨a,t⟩
theorem Ra{kv:List (List Jp×V)}{ks:List (List Int×Ae)}(r:DRel K H kv ks):kv.length=ks.length:=by
 have:=congrArg Ft r.key
 simpa using this
theorem cY(w:List Int):∀{kv:List (List Jp×V)} {ks:List (List Int×Ae)},DRel K H kv ks->(Yp kv (Ld w)=none/\Wn ks w=none)\/∃v d,Yp kv (Ld w)=some v/\Wn ks w=some d/\RdF K H v d []
 | [],[],_=>.inl ⟨rfl,rfl⟩
 | [],_::_,r=>by cases r.key
 | _::_,[],r=>by cases r.key
 | (k,v)::kv,(u,d)::ks,r=>by
  w_pre z2
  by_cases h:u=w
  ·subst h e1
   refine .inr ⟨v,d,Wz rfl,by simp [Wn],r1⟩
  ·have hk:¬ k=Ld w:=λz=>h (aZ (e1.symm.trans z))
   rw[Xk hk,show Wn ((u,d)::ks) w=Wn ks w by simp [Wn,h]]
   exact cY w ⟨e2,r2⟩
theorem x9(w:List Int){kv:List (List Jp×V)}{ks:List (List Int×Ae)}(r:DRel K H kv ks):(kv.any λp=>decide (p.1=Ld w))=(ks.any λp=>decide (p.1=w)):=by
 have h1:(kv.any λp=>decide (p.1=Ld w))=((kv.map (·.1)).any λk=>decide (k=Ld w)):=by rw[aE]; rfl
 rw[h1,r.key,aE]
 congr 1
 funext p
 exact decide_eq_decide.mpr ⟨λz=>aZ z,λz=>by show Ld p.1=Ld w; rw[z]⟩
theorem eO(w:List Int){v:V}{d:Ae}(rv:RdF K H v d []):∀{kv:List (List Jp×V)} {ks:List (List Int×Ae)},DRel K H kv ks->DRel K H (kv.map λp=>if p.1=Ld w then (p.1,v) else p) (ks.map λp=>if p.1=w then (p.1,d) else p)
 | [],[],r=>r
 | [],_::_,r=>by cases r.key
 | _::_,[],r=>by cases r.key
 | (k,v')::kv,(u,d')::ks,r=>by
  w_pre z2
  have ih:=eO w rv (kv:=kv) (ks:=ks) ⟨e2,r2⟩
  rw[Ao,Ao]
  by_cases h:u=w
  ·rw[if_pos (show k=Ld w by rw[e1,h]),if_pos h]
   exact ⟨by rw[Ao,Ao,ih.key]; exact congrArg (·::_) e1,RdFs.cons (F:=[]) (G:=[]) rv ih.val⟩
  ·have hk:¬ k=Ld w:=λz=>h (aZ (e1.symm.trans z))
   rw[if_neg (show ¬ (k,v').1=Ld w from hk),if_neg (show ¬ (u,d').1=w from h)]
   exact ⟨by rw[Ao,Ao,ih.key]; exact congrArg (·::_) e1,RdFs.cons (F:=[]) (G:=[]) r1 ih.val⟩
theorem nB(w:List Int){v:V}{d:Ae}(rv:RdF K H v d []){kv:List (List Jp×V)}{ks:List (List Int×Ae)}(r:DRel K H kv ks):DRel K H (Oj kv (Ld w) v) (Rc ks w d):=by
 unfold Oj Rc
 rw[x9 w r]
 split
 ·exact eO w rv r
 ·refine ⟨by rw[Bh,Bh,r.key]; rfl,?_⟩
  rw[Bh,Bh]
  exact r.val.snoc rv
theorem DRel.kp{kv:List (List Jp×V)}{ks:List (List Int×Ae)}(r:DRel K H kv ks)(k:Kp [] H H'):DRel K H' kv ks:=⟨r.key,r.val.kp k⟩
end
def FA:R2:=λx y H Q=>∃a v,x=.ref a/\pP H a y (some v)/\Q v H
def iL:D2:=λx y P=>match x,y with
 | .dat _ (.dict X),.dat _ k=>∃ks w d,X=Ov ks/\k=Br w/\Wn ks w=some d/\P (.dat .ow d)
 | _,_=>False
section
variable{K:PySem.W.Frag}
theorem Ul{H:Hp}{v:V}{w:List Int}{F:List Addr}(r:RdF K H v (Br w) F):∃b,v=.ref b/\H b=some (.tup ((Ld w).map kV)):=by
 obtain ⟨b,xs,rfl,hb,rb,_⟩:=r.tup_inv
 obtain ⟨rfl,_⟩:=rb.ints_inv
 exact ⟨b,rfl,by rw[iU]; exact hb⟩
theorem E3:oY K FA iL:=by
 w_pre y6
 unfold iL at hd
 w_pre z6
 ·obtain ⟨ks,u,d,rfl,rfl,hg,p⟩:=hd
  obtain ⟨b,rfl,hb⟩:=Ul (hA.told mem_mid)
  obtain ⟨a,kv,ks',rfl,ek,ha,rel,_⟩:=(hA.told Fd).dict_inv
  w_pre f8
  rcases cY u rel with ⟨_,z⟩ | ⟨v',d',h1,h2,h3⟩
  ·rw[z] at hg; cases hg
  ·rw[h2] at hg; cases hg
   exact ⟨a,v',rfl,h1▸pP.t ha hb,k _ _ [] H (hA.drop2.pushI h3) p⟩
 w_pre b7
end
section
variable{X:Cx}{a b:Expr}{da db:DE}{pos:Pos}
theorem GZ{n:Nat}(hu:n+64<cLine):n+1<cLine:=by omega
theorem aG(hu:X.A.units+64<cLine)(ha:Fm X a da)(hb:Fm X b db)(hs:Y4 b:=by intro _ _; rfl):Fm X (.Subscript a b pos) (aK iL da db):=PE.imp (N3 (GZ hu) ha hb hs) (fB E3)
end
theorem At.newD{K:PySem.W.Frag}{H0 H:Hp}{X:Addr->Prop}{n:Nat}{S T:List Ent}{p:Addr}(h:At K H0 X n (S++T) H)(hp:H p=none):At K H0 X n (S++⟨some (.ref p),.dat .ow (.dict (Ov [])),[p]⟩::T) (upd H p (.dT [])):=by
 have s1:=Fe hp (.dT [])
 refine ((h.grow (n':=n) s1 (Aj _)).push (e:=⟨some (.ref p),.dat .ow (.dict (Ov [])),[p]⟩) ⟨_,rfl,.dic Ds rfl .nil,λ_=>Co.mpr ⟨Bd,Dv⟩,λz=>nomatch z⟩ (λf hf=>?_) λa ha=>?_).tomid
 ·have nf:=h.free hp f hf
  w_pre s0
 ·rw[Al.mp ha]
  exact .inl (h.new0 hp)
theorem At.writeD{K:PySem.W.Frag}{H0 H:Hp}{X:Addr->Prop}{n:Nat}{E:List Ent}{v:Option V}{ks ks':List (List Int×Ae)}{a:Addr}{kv':List (List Jp×V)}(h:At K H0 X n (⟨v,.dat .ow (.dict (Ov ks)),[a]⟩::E) H)(hv:v=some (.ref a))(np:∀e∈E,Pw e.x=false)(r:DRel K H kv' ks'):At K H0 X n (⟨v,.dat .ow (.dict (Ov ks')),[a]⟩::E) (upd H a (.dT kv')):=by
 obtain ⟨w,e1,rd,hn,ht⟩:=h.ok _ Ab
 obtain ⟨b,kv,ks0,e2,ek,ha,_,eF⟩:=rd.dict_inv
 have eF':[a]=[b]:=eF
 cases eF'
 have hs:=Bb.mp h.sep
 have kp:∀{F':List Addr},a∉F'->Kp F' H (upd H a (.dT kv')):=λ{F'} hF b o q z=>by
  w_pre s
 have n0:H0 a=none:=by
  rcases h.new _ Ab a Ab with z | z
  ·exact z
  ·cases z.2
 refine ⟨λf hf=>?_,Bb.mpr ⟨λf hf=>⟨λhq c hc=>(hs.1 f hf).1 (.inl (np f hf)) c hc,λhq c hc=>(hs.1 f hf).2 (.inl rfl) c hc⟩,hs.2⟩,λf hf=>?_,λb o nx q=>?_,λb o q=>?_,λb hb=>?_⟩
 ·rcases An.mp hf with rfl | hf
  ·exact ⟨.ref a,hv,.dic Ds r.key (r.val.kp (kp Bd)),λ_=>Co.mpr ⟨Bd,Dv⟩,λz=>nomatch z⟩
  ·exact (h.ok f (Ad _ hf)).kp (kp ((hs.1 f hf).1 (.inl (np f hf)) a Ab)) (Aj _)
 ·rcases An.mp hf with rfl | hf
  ·exact λc hc=>h.new _ Ab c hc
  ·exact h.new f (Ad _ hf)
 w_pre w
theorem lF{K:PySem.W.Frag}{H0 H:Hp}{X:Addr->Prop}{S T:List Ent}{δ:DS}{i:Nat}{ks ks':List (List Int×Ae)}(hS:Sl S δ)(hT:∀e∈T,Pw e.x=false)(hA:At K H0 X δ.n (S++T) H)(hi:δ.sl[i]? = some (.dat .ow (.dict (Ov ks))))(np:npk δ.sl=true):∃a kv,(vs S)[i]? = some (some (.ref a))/\H a=some (.dT kv)/\DRel K H kv ks/\∀kv',DRel K H kv' ks'->∃S',vs S'=vs S/\Sl S' ⟨δ.sl.set i (.dat .ow (.dict (Ov ks'))),δ.n⟩/\At K H0 X δ.n (S'++T) (upd H a (.dT kv')):=by
 w_pre i2
 have e3':x=.dat .ow (.dict (Ov ks)):=e3
 subst e3'
 obtain ⟨v,hv,rd,_⟩:=hA.ok _ (Ak _ hm)
 obtain ⟨a,kv,ks0,rfl,ek,ha,rel,eF⟩:=rd.dict_inv
 w_pre f8
 have eF':F=[a]:=eF
 subst eF'
 refine ⟨a,kv,by rw[Nu e2]; exact congrArg some hv,ha,rel,λkv' r=>?_⟩
 have hn:=jF hS np
 have h1:=(hA.perm ((Ll e2).append_right T)).writeD (ks':=ks') (kv':=kv') hv (λe he=>?_) r
 ·refine ⟨S.set i ⟨u,.dat .ow (.dict (Ov ks')),[a]⟩,?_,?_,h1.perm ((eU e2).append_right T).symm⟩
  w_pre e
 w_pre t2
def dputB(i:Nat)(y z:DV)(δ:DS)(D:DEnds):Prop:=match δ.sl[i]?,y,z with
 | some (.dat .ow (.dict X)),.dat _ e,.dat _ k=>npk δ.sl=true/\imm e=true/\∃ks w,X=Ov ks/\k=Br w/\ks.length<1000000/\D.nx ⟨δ.sl.set i (.dat .ow (.dict (Ov (Rc ks w e)))),δ.n⟩
 | _,_,_=>False
def isDct:Option DV->Bool
 | some (.dat _ (.dict _))=>true
 | _=>false
def S8(i:Nat)(dk de:DE):DB:=λD δ=>de δ λy δ1=>isDct δ1.sl[i]? = true/\dk δ1 λz δ2=>dputB i y z δ2 D
section
variable{X:Cx}{o i e:Expr}{dk de:DE}{apos cpos pos pos':Pos}{n:Nat}
theorem i6{K:PySem.W.Frag}{H0 H:Hp}{Y:Addr->Prop}{S T:List Ent}{δ:DS}(hS:Sl S δ)(hA:At K H0 Y δ.n (S++T) H)(hi:isDct δ.sl[n]? = true):∃a kv,(vs S)[n]? = some (some (.ref a))/\H a=some (.dT kv):=by
 cases q:δ.sl[n]? with
 | none=>rw[q] at hi; cases hi
 | some x =>
  rw[q] at hi
  obtain ⟨ent,e2,e3⟩:=Ks hS q
  obtain ⟨u,y,F⟩:=ent
  have e3':y=x:=e3
  subst e3'
  have hm:(⟨u,y,F⟩ : Ent)∈S:=Be e2
  match y,hi with
  | .dat m (.dict X),_ =>
   obtain ⟨v,hv,rd,_⟩:=hA.ok _ (Ak _ hm)
   obtain ⟨a,kv,ks,rfl,_,ha,_⟩:=rd.dict_inv
   exact ⟨a,kv,by rw[Nu e2]; exact congrArg some hv,ha⟩
theorem G5(hu:X.A.units+64<cLine)(ho:PE X o (dU n))(hi:Fm X i dk)(he:Fm X e de)(hs:Nh e (some (.Subscript o i pos')) pos.line X.env=pure false:=by rfl):xJ X (.Assign [.Subscript o i pos'] e pos) (S8 n dk de):=by
 refine PS.impD (R1 (GZ hu) ho hi he hs) λD σ H h=>?_
 w_pre v6
 refine ⟨H0,Y,S,T,δ,_,rfl,hS,hA,hd,λy δ1 v F S1 H1 e1 e2 hA1 p1=>?_⟩
 obtain ⟨p1,p2⟩:=p1
 obtain ⟨a,kv,hv,ha⟩:=i6 e2 hA1.drop p1
 rw[e1] at hv
 refine ⟨.ref a,hv,H0,Y,S1,⟨some v,y,F⟩::T,δ1,_,e1,e2,hA1,p2,λz δ2 w G S2 H2 e3 e4 hA2 p3=>?_⟩
 unfold dputB at p3
 split at p3
 ·rename_i X0 m1 d m2 k hsl
  obtain ⟨p3,p4,ks,u,rfl,rfl,p5,p6⟩:=p3
  obtain ⟨b,rfl,hb⟩:=Ul (hA2.told mem_mid)
  have r:=hA2.told Fd
  obtain rfl:=r.imm p4
  obtain ⟨a',kv',g1,g2,g3,g4⟩:=lF (ks':=Rc ks u d) e4 hT hA2.drop2 hsl p3
  rw[e3,hv] at g1
  cases g1
  obtain ⟨S3,h1,h2,h3⟩:=g4 (Oj kv' (Ld u) v) (nB u r g3)
  refine ⟨a,_,rfl,CC.t g2 hb (by rw[Ra g3]; exact Cc p5 (kD (n:=1000000) (Aj _))),?_⟩
  rw[<- e3,<- h1]
  exact k1 ⟨_,_⟩ S3 _ h2 h3 p6
 ·exact p3.elim
end
def S5:V->Int
 | .int i=>i
 | _=>0
def T6(H:Hp)(r:Addr):List Int:=match H r with
 | some (.tup xs)=>xs.map S5
 | _=>[]
theorem Z6{H:Hp}{r:Addr}{w:List Int}(h:H r=some (.tup (w.map V.int))):T6 H r=w:=by
 unfold T6
 rw[h]
 show (w.map V.int).map S5=w
 rw[Dn]
 exact List.map_id' w
section
variable{K:PySem.W.Frag}{H:Hp}
theorem oJ:∀{ws:List (List Int)} {xs:List V} {ds:List Ae} {G:List Addr},RdFs K H xs ds G->ds=ws.map Br->∃rs:List Addr,xs=rs.map V.ref/\ws=rs.map (T6 H)/\G=[]/\(∀r∈rs,H r=some (.tup ((T6 H r).map V.int)))/\∀r∈rs,RdF K H (.ref r) (Br (T6 H r)) []
 | [],_,_,_,h,e=>by
  subst e
  cases h
  exact ⟨[],rfl,rfl,rfl,(λ_ z=>nomatch z),(λ_ z=>nomatch z)⟩
 | w::ws,_,_,_,h,e=>by
  cases h with
  | nil=>cases e
  | cons a t =>
   obtain ⟨e1,e2⟩:=Ig e
   obtain ⟨rs,rfl,rfl,rfl,h1,h2⟩:=oJ t e2
   subst e1
   obtain ⟨r,rfl,hr⟩:=Ul a
   rw[iU] at hr
   have ew:=Z6 hr
   obtain rfl:=a.imm (show imm (Br w)=true from Nf w)
   refine ⟨r::rs,rfl,by rw[Ao,ew],rfl,λx hx=>?_,λx hx=>?_⟩
   ·rcases An.mp hx with rfl | hx
    ·rw[ew]; exact hr
    ·exact h1 x hx
   ·rcases An.mp hx with rfl | hx
    ·rw[ew]; exact a
    ·exact h2 x hx
theorem cH:∀{rs:List Addr},(∀r∈rs,RdF K H (.ref r) (Br (T6 H r)) [])->RdFs K H (rs.map V.ref) ((rs.map (T6 H)).map Br) []
 | [],_=>.nil
 | r::rs,h=>RdFs.cons (F:=[]) (G:=[]) (h r (Ab ..)) (cH λx hx=>h x (Ad _ hx))
theorem Pc:∀L:List (List Int),Ee (L.map Br)=true
 | []=>rfl
 | w::L=>by
  show (imm (Br w) && Ee (L.map Br))=true
  rw[Pc L,show imm (Br w)=true from Nf w]; rfl
def jX:DC:=λxs P=>match xs with
 | [.dat _ (.list ds)]=>∃ws:List (List Int),ds=ws.map Br/\∀L:List (List Int),L.Perm ws->L.Pairwise (λx y=>HT.lexLt y x=false)->P (.dat .ow (.list (L.map Br)))
 | _=>False
theorem kT:Tt K (Ts.rSortI K) jX:=by
 w_pre a7
 unfold jX at hd
 w_pre z6
 ·rename_i ex
  w_pre h7
  obtain ⟨ws,rfl,h1⟩:=hd
  obtain ⟨a,xs,G,rfl,ha,ra,rfl,hz⟩:=(hA.told mem_mid).list_inv
  obtain ⟨rs,rfl,rfl,rfl,c1,c2⟩:=oJ ra rfl
  refine ⟨a,rs,T6 H,rfl,Pe.of ha,λr hr=>Ta.of (c1 r hr),λq rs' nq pe pw=>?_⟩
  refine k _ _ _ _ (hA.drop.newI (cH λr hr=>c2 r (pe.mem_iff.mp hr)) (Pc _) (by rw[Af,Af,pe.length_eq]; simpa using hz) nq .ow) (h1 _ (pe.map _) (List.pairwise_map.mpr pw))
 w_pre b7
end
end DL
namespace Nd
open PySem PySem.Spec PyProof.Rows L2
def Td(h:Heap)(d:Addr)(es:Array Gz)(ep:Nat):Prop:=∃ob,h.get? d=some ob/\ob.ExactDict/\ob.data=.dict es ep
theorem Td.at{h h':Heap}{d:Addr}{es:Array Gz}{ep:Nat}(x:Td h d es ep)(k:∀o,h.get? d=some o->h'.get? d=some o):Td h' d es ep:=let ⟨ob,e,r⟩:=x; ⟨ob,k ob e,r⟩
section
variable{prog:Bl}{w:World}{A:Ce}{E:Value->Ai->Prop}{s:Ai}{it d:Addr}{es:Array Gz}{i ep:Nat}
theorem gQ{Q:Option Value->Ai->Prop}{x:Gz}(hI:s.heap.IsKeyIter it d i es.size ep)(hE:Td s.heap d es ep)(hX:es[i]? = some x)(k:∀h',h'.IsKeyIter it d (i+1) es.size ep->Ct it s.heap h'->Q (some x.key) { s with heap:=h' }):wpAny (model prog w) A (callSpecial? (.ref it) (Dq "__next__")) Q E s:=by
 w_pre g
 obtain ⟨hl,ex⟩:=Hs.mp hX
 w_pre n5
 w_pre y8
 refine Aa (wpAny_isOneOf_keyiter tI ?_)
 w_pre a5
 have nI:(s.heap.update it (Oq (·.setIfInBounds 1 (Er ((i:Int)+1))))).IsKeyIter it d (i+1) es.size ep :=
  ⟨_,Eu _ gi (Obj.isFreed_of_fields (Qw di _)),(Obj.cls_mapFields ..).trans ci,by rw[Qw di]; simp [Er]⟩
 refine Aa (Ck (Aa (wpAny_isOneOf_keyiter (s:={ s with heap:=s.heap.update it (Oq (·.setIfInBounds 1 (Er ((i:Int)+1)))) }) nI.typeIs ?_)))
 show wpAny _ _ (pure x.key) _ _ _
 exact Ac (Ac ⟨_,rfl,k _ nI (Bo ..)⟩)
theorem vP{Q:Option Value->Ai->Prop}(hh:A.handled=none)(hI:s.heap.IsKeyIter it d es.size es.size ep)(hE:Td s.heap d es ep)(k:∀h' e,Wd it s.heap h'->(∃o,h'.get? e=some o/\o.cls=.type "StopIteration")->E (.ref e) { s with heap:=h' }):wpAny (model prog w) A (callSpecial? (.ref it) (Dq "__next__")) Q E s:=by
 w_pre g
 w_pre d5
 w_pre y8
 w_pre l
 exact k _ _ (((Bo ..).extBut.push _).push _) ⟨_,Ap _ rfl,rfl⟩
theorem wO{Q:Value->Ai->Prop}(hd:(d == Gm)=false)(hE:Td s.heap d es ep)(k:Q (.ref s.heap.objs.size) { s with heap:=s.heap.push { cls:=.type "dict_keyiterator",data:=.fields #[.ref d,.int 0 0,.int es.size 0,.int ep 0] } }):wpAny (model prog w) A (Zn (.ref d)) Q E s:=by
 w_pre k5
 refine Ub tD PySem.F.slot_dict_iter (Cn PySem.F.slot_dict_iter tD PySem.F.entry_dict_iter ?_ (PySem.F.args_dict_iter_1 _))
 unfold Builtin.«dict.__iter__» Builtin.Dict.dictSlotNone
 refine Aa (Aa (Pm tD ?_))
 show wpAny _ _ (pure (.ref d:Value)) _ _ s
 w_pre l1
 refine Aa (Ac (Aa (Lf gb db (Aa (Mw gb db ?_)))))
 refine Aa (Ca (Ac ⟨_,rfl, "dict_keyiterator",_,⟨_,Ap _ rfl,rfl⟩,PySem.F.slot_dict_keyiterator_next.lookup,?_⟩))
 exact k
end
theorem fP{prog:Bl}{w:World}{A:Ce}(hh:A.handled=none)(it d:Addr)(hne:d≠it)(es:Array Gz)(ep:Nat):Draws prog w A it [it,d] es.size (λi v=>∃x,es[i]? = some x/\v=x.key) (λi h=>h.IsKeyIter it d i es.size ep/\Td h d es ep) where
 live:=λ_ _ st=>let ⟨o,ho,_⟩:=st.1; ⟨o,ho⟩
 frame:=λ_ _ _ st hk=>⟨st.1.at λo e=>hk it (by simp) o e,st.2.at λo e=>hk d (by simp) o e⟩
 item:=λi s Q E hi st hQ=>by
  unfold Dl
  refine Aa (gQ st.1 st.2 (x:=es[i]) (by simp [hi]) λh' hI hs=>Ac ?_)
  exact hQ _ h' s.toks ⟨_,by simp [hi],rfl⟩ ⟨hI,st.2.at λo e=>(hs.2 d hne).trans e⟩ hs
 done:=λs Q E st hE=>by
  unfold Dl
  exact Aa (vP hh st.1 st.2 hE)
structure ZApart(z TI TO i1 i2:Addr)(f1 f2:List Addr):Prop where
 tiz:TI≠z
 toz:TO≠z
 z1:i1≠z
 z2:i2≠z
 tito:TI≠TO
 ti1:TI≠i1
 ti2:TI≠i2
 to1:TO≠i1
 to2:TO≠i2
 i12:i1≠i2
 zf1:z∉f1
 zf2:z∉f2
 of1:TO∉f1
 of2:TO∉f2
 if1:i2∉f1
 if2:i1∉f2
section
variable{prog:Bl}{w:World}{A:Ce}{E:Value->Ai->Prop}{s:Ai}{z TI TO i1 i2:Addr}{f1 f2:List Addr}{n1 n2 i:Nat}{P1 P2:Nat->Value->Prop}{S1 S2:Nat->Heap->Prop}
theorem Gq{a b:Addr}{f:List Addr}(h:a∉f)(hb:b∈f):b≠a:=λe=>h (e▸hb)
theorem wF{a b:Value}{Q:Value->Ai->Prop}(D1:Draws prog w A i1 f1 n1 P1 S1)(D2:Draws prog w A i2 f2 n2 P2 S2)(ap:ZApart z TI TO i1 i2 f1 f2)(gz:IsZip s.heap z TI TO .none)(gI:Gc s.heap TI (.ref i1) (.ref i2))(gO:Gc s.heap TO a b)(g1:S1 i s.heap)(g2:S2 i s.heap)(l1:i<n1)(l2:i<n2)(k:∀x y h' tk,P1 i x->P2 i y->IsZip h' z TI TO (Er s.heap.objs.size)->Gc h' TO x y->S1 (i+1) h'->S2 (i+1) h'->Gc h' s.heap.objs.size x y->h'.objs.size=s.heap.objs.size+1->(∀c o,c≠z->c≠TO->c≠i1->c≠i2->s.heap.get? c=some o->h'.get? c=some o)->Q (.ref s.heap.objs.size) { s with heap:=h',toks:=tk }):wpAny (model prog w) A (Builtin.«zip.__next__» ⟨[.ref z],[]⟩) (λfin s'=>∃v,fin=.done (.ret v)/\Q v s') E s:=by
 w_pre m
 replace gz1:IsZip h1 z TI TO .ellipsis:=gz1
 replace s1:Ct z hp h1:=s1
 refine Aa ?_
 w_pre h0
 refine Aa (D1.item i _ _ _ l1 g11 λx h2 tk1 px g12 s2=>Ac ?_)
 replace s2:Ct i1 h1 h2:=s2
 have gO2:Gc h2 TO a b:=(s2.2 TO ap.to1).trans ((s1.2 TO ap.toz).trans gO)
 w_pre j9
 replace gO3:Gc h3 TO x b:=gO3
 replace s3:Ct TO h2 h3:=s3
 refine Aa (wpAny_letGo (Ac ?_))
 have g23:S2 i h3:=D2.frame _ _ _ g21 λb hb o q=>(s3.2 b (Gq ap.of2 hb)).trans ((s2.2 b (Gq ap.if2 hb)).trans q)
 refine Aa (Aa (dA ?_))
 show wpAny _ _ (bind (Dl (.ref i2)) _) _ _ _
 refine Aa (D2.item i _ _ _ l2 g23 λy h4 tk2 py g24 s4=>Ac ?_)
 replace s4:Ct i2 h3 h4:=s4
 have gO4:Gc h4 TO x b:=(s4.2 TO ap.to2).trans gO3
 refine Aa (Ij gO4 rfl (Aa (Zm gO4 λh5 gO5 s5=>?_)))
 replace gO5:Gc h5 TO x y:=gO5
 replace s5:Ct TO h4 h5:=s5
 refine Aa (wpAny_letGo (Ac (Ac ?_)))
 refine Aa (Ij gO5 rfl (Aa (wpAny_newTuple ?_)))
 have sz:h5.objs.size=hp.objs.size:=by rw[s5.1,s4.1,s3.1,s2.1,s1.1]
 have gz5:IsZip h5 z TI TO .ellipsis:=(s5.2 z ap.toz.symm).trans ((s4.2 z ap.z2.symm).trans ((s3.2 z ap.toz.symm).trans ((s2.2 z ap.z1.symm).trans gz1)))
 have k5:∀c o,c≠z->c≠TO->c≠i1->c≠i2->hp.get? c=some o->h5.get? c=some o:=λc o c1 c2 c3 c4 e =>
  (s5.2 c c2).trans ((s4.2 c c4).trans ((s3.2 c c2).trans ((s2.2 c c3).trans ((s1.2 c c1).trans e))))
 have g15:S1 (i+1) h5:=D1.frame _ _ _ g12 λb hb o q=>(s5.2 b (Gq ap.of1 hb)).trans ((s4.2 b (Gq ap.if1 hb)).trans ((s3.2 b (Gq ap.of1 hb)).trans q))
 have g25:S2 (i+1) h5:=D2.frame _ _ _ g24 λb hb o q=>(s5.2 b (Gq ap.of2 hb)).trans q
 have zl:z<h5.objs.size:=Au gz5
 show wpAny _ _ (bind (Qs (.ref z) (.ref h5.objs.size)) _) _ _ _
 refine Aa ?_
 unfold Qs
 have gz6:IsZip (h5.push { cls:=.type "tuple",data:=.seq #[x,y] }) z TI TO .ellipsis:=Ah _ gz5
 refine Aa (Ii gz6 (by simp) λh7 gz7 s7=>?_)
 replace gz7:IsZip h7 z TI TO (Er h5.objs.size):=gz7
 refine Ii gz7 (by simp) λh8 gz8 s8=>?_
 replace gz8:IsZip h8 z TI TO (Er h5.objs.size):=gz8
 have up:∀c o,c≠z->h5.get? c=some o->h8.get? c=some o:=λc o c1 e=>(s8.2 c c1).trans ((s7.2 c c1).trans (Ah _ e))
 have gT:Gc h8 h5.objs.size x y:=(s8.2 _ (Ql zl)).trans ((s7.2 _ (Ql zl)).trans (Ap _ rfl))
 have z8:h8.objs.size=h5.objs.size+1:=by rw[s8.1,s7.1,Fc]
 rw[sz] at gz8 gT z8
 refine Ac ⟨_,rfl,?_⟩
 show Q (.ref h5.objs.size) _
 rw[sz]
 exact k x y h8 tk2 px py gz8 (up _ _ ap.toz gO5) (D1.frame _ _ _ g15 λb hb o q=>up b o (Gq ap.zf1 hb) q) (D2.frame _ _ _ g25 λb hb o q=>up b o (Gq ap.zf2 hb) q) gT z8 λc o c1 c2 c3 c4 e=>up c o c1 (k5 c o c1 c2 c3 c4 e)
theorem w5{a b:Value}{Q:Fin->Ai->Prop}(D1:Draws prog w A i1 f1 n1 P1 S1)(D2:Draws prog w A i2 f2 n2 P2 S2)(ap:ZApart z TI TO i1 i2 f1 f2)(gz:IsZip s.heap z TI TO .none)(gI:Gc s.heap TI (.ref i1) (.ref i2))(gO:Gc s.heap TO a b)(g1:S1 i s.heap)(g2:S2 i s.heap)(hn:i=n1\/(i<n1/\i=n2))(k:∀h' e tk,(∀c o,c≠z->c≠TO->c≠i1->c≠i2->s.heap.get? c=some o->h'.get? c=some o)->(∃o,h'.get? e=some o/\o.cls=.type "StopIteration")->E (.ref e) { s with heap:=h',toks:=tk }):wpAny (model prog w) A (Builtin.«zip.__next__» ⟨[.ref z],[]⟩) Q E s:=by
 w_pre m
 replace gz1:IsZip h1 z TI TO .ellipsis:=gz1
 replace s1:Ct z hp h1:=s1
 refine Aa ?_
 w_pre h0
 rcases hn with rfl | ⟨l1,rfl⟩
 ·refine Aa (D1.done _ _ _ g11 λh2 e x2 he=>?_)
  obtain ⟨oe,ge,ce⟩:=he
  replace x2:Wd i1 h1 h2:=x2
  have gz2:IsZip h2 z TI TO .ellipsis:=x2 _ _ ap.z1.symm gz1
  have ez:e≠z:=λx=>by subst x; rw[gz2] at ge; cases ge; simp at ce
  exact Ii gz2 (by simp) λh3 _ s3=>k h3 e _ (λc o c1 _ c3 _ x=>(s3.2 c c1).trans (x2 _ _ c3 ((s1.2 c c1).trans x))) ⟨oe,(s3.2 e ez).trans ge,ce⟩
 ·refine Aa (D1.item _ _ _ _ l1 g11 λx h2 tk1 px g12 s2=>Ac ?_)
  replace s2:Ct i1 h1 h2:=s2
  have gO2:Gc h2 TO a b:=(s2.2 TO ap.to1).trans ((s1.2 TO ap.toz).trans gO)
  w_pre j9
  replace s3:Ct TO h2 h3:=s3
  refine Aa (wpAny_letGo (Ac (Aa (Aa (dA ?_)))))
  have g23:S2 i h3:=D2.frame _ _ _ g21 λb hb o q=>(s3.2 b (Gq ap.of2 hb)).trans ((s2.2 b (Gq ap.if2 hb)).trans q)
  show wpAny _ _ (bind (Dl (.ref i2)) _) _ _ _
  refine Aa (D2.done _ _ _ g23 λh4 e x4 he=>?_)
  obtain ⟨oe,ge,ce⟩:=he
  replace x4:Wd i2 h3 h4:=x4
  have gz4:IsZip h4 z TI TO .ellipsis:=x4 _ _ ap.z2.symm ((s3.2 z ap.toz.symm).trans ((s2.2 z ap.z1.symm).trans gz1))
  have ez:e≠z:=λx=>by subst x; rw[gz4] at ge; cases ge; simp at ce
  exact Ii gz4 (by simp) λh5 _ s5=>k h5 e _ (λc o c1 c2 c3 c4 x=>(s5.2 c c1).trans (x4 _ _ c4 ((s3.2 c c2).trans ((s2.2 c c3).trans ((s1.2 c c1).trans x))))) ⟨oe,(s5.2 e ez).trans ge,ce⟩
theorem vQ{a b:Value}{Q:Option Value->Ai->Prop}(D1:Draws prog w A.in1 i1 f1 n1 P1 S1)(D2:Draws prog w A.in1 i2 f2 n2 P2 S2)(ap:ZApart z TI TO i1 i2 f1 f2)(gz:IsZip s.heap z TI TO .none)(gI:Gc s.heap TI (.ref i1) (.ref i2))(gO:Gc s.heap TO a b)(g1:S1 i s.heap)(g2:S2 i s.heap)(l1:i<n1)(l2:i<n2)(k:∀x y h' tk,P1 i x->P2 i y->IsZip h' z TI TO (Er s.heap.objs.size)->Gc h' TO x y->S1 (i+1) h'->S2 (i+1) h'->Gc h' s.heap.objs.size x y->h'.objs.size=s.heap.objs.size+1->(∀c o,c≠z->c≠TO->c≠i1->c≠i2->s.heap.get? c=some o->h'.get? c=some o)->Q (some (.ref s.heap.objs.size)) { s with heap:=h',toks:=tk }):wpAny (model prog w) A (Hi (.ref z)) Q E s:=by
 w_pre a2
 exact wF D1 D2 ap gz gI gO g1 g2 l1 l2 λx y h' tk p1 p2 a1 a2 a3 a4 a5 a6 a7=>Ac (k x y h' tk p1 p2 a1 a2 a3 a4 a5 a6 a7)
theorem vK{a b:Value}{Q:Option Value->Ai->Prop}(D1:Draws prog w A.in1 i1 f1 n1 P1 S1)(D2:Draws prog w A.in1 i2 f2 n2 P2 S2)(ap:ZApart z TI TO i1 i2 f1 f2)(gz:IsZip s.heap z TI TO .none)(gI:Gc s.heap TI (.ref i1) (.ref i2))(gO:Gc s.heap TO a b)(g1:S1 i s.heap)(g2:S2 i s.heap)(hn:i=n1\/(i<n1/\i=n2))(k:∀h' tk,(∀c o,c≠z->c≠TO->c≠i1->c≠i2->s.heap.get? c=some o->h'.get? c=some o)->Q none { s with heap:=h',toks:=tk }):wpAny (model prog w) A (Hi (.ref z)) Q E s:=by
 w_pre a2
 refine w5 D1 D2 ap gz gI gO g1 g2 hn λh' e tk x ⟨o,ho,hc⟩=>?_
 exact Aa (Gy (T := "StopIteration") (b:=true) ⟨o,ho,hc⟩ Zq (Ac (k h' tk x)))
end
abbrev GD(h:Heap)(d:Addr)(n ep:Nat):Heap:=h.push { cls:=.type "dict_keyiterator",data:=.fields #[.ref d,.int 0 0,.int n 0,.int ep 0] }
abbrev HC(h:Heap)(d:Addr)(n ep:Nat)(l:Addr):Heap:=(GD h d n ep).push { cls:=.type "list_iterator",data:=.fields #[.ref l,.int 0 0] }
abbrev GX(h:Heap)(d:Addr)(n ep:Nat)(l:Addr):Heap:=(HC h d n ep l).push { cls:=.type "tuple",data:=.seq #[.ref h.objs.size,.ref (GD h d n ep).objs.size] }
abbrev GQ(h:Heap)(d:Addr)(n ep:Nat)(l:Addr):Heap:=(GX h d n ep l).push { cls:=.type "tuple",data:=.seq #[.none,.none] }
abbrev CM(h:Heap)(d:Addr)(n ep:Nat)(l:Addr):Heap:=(GQ h d n ep l).push { cls:=.type "zip",data:=.fields #[.none,.bool false,.bool false,.ref (HC h d n ep l).objs.size,.ref (GX h d n ep l).objs.size] }
theorem oA(d l:Addr)(es:Array Gz)(ep:Nat)(ys:Array Value)(hd:(d == Gm)=false):Meets (Builtin.«zip.__new__» ⟨[.type "zip",.ref d,.ref l],[]⟩) (λ_ R s=>Td s.heap d es ep/\s.heap.IsList l ys/\R (.ok (.ret (.ref (GQ s.heap d es.size ep l).objs.size))) { s with heap:=CM s.heap d es.size ep l }) :=
 .of_wp λprog w A R s h=>by
  obtain ⟨hp,g,dd,tk,os⟩:=s
  obtain ⟨hE,hL,q⟩:=h
  have hsub:=sub_zip
  have h1:Td (Shared.heap ⟨hp,g,dd,tk,os⟩) d es ep:=hE
  have h2:Heap.IsList (Shared.heap ⟨GD hp d es.size ep,g,dd,tk,os⟩) l ys:=Heap.IsList.push hL _
  wp_walk using wO hd h1,wpAny_pyIter_list h2
  exact ⟨_,rfl,q⟩
section
variable{prog:Bl}{w:World}{A:Ce}{E:Value->Ai->Prop}{s:Ai}
theorem qA{d l:Addr}{es:Array Gz}{ep:Nat}{ys:Array Value}{Q:Value->Ai->Prop}(hd:(d == Gm)=false)(hE:Td s.heap d es ep)(hL:s.heap.IsList l ys)(k:∀h',IsZip h' (s.heap.objs.size+4) (s.heap.objs.size+2) (s.heap.objs.size+3) .none->Gc h' (s.heap.objs.size+2) (.ref s.heap.objs.size) (.ref (s.heap.objs.size+1))->Gc h' (s.heap.objs.size+3) .none .none->h'.IsKeyIter s.heap.objs.size d 0 es.size ep->h'.IsListIter (s.heap.objs.size+1) l 0->(∀c o,s.heap.get? c=some o->h'.get? c=some o)->Q (.ref (s.heap.objs.size+4)) { s with heap:=h' }):wpAny (model prog w) A (call (.type "zip") [.ref d,.ref l]) Q E s:=by
 refine callType_new PySem.F.called_zip (by decide) (PySem.F.typeCall_zip_2 _ _) (PySem.F.newCall_zip_2 _ _) (λobj=>PySem.F.args_object_init_3 obj _ _) PySem.F.entry_zip_new (oA d l es ep ys hd) ⟨hE,hL,?_⟩
 have e1:(GD s.heap d es.size ep).objs.size=s.heap.objs.size+1:=Fc ..
 have e2:(HC s.heap d es.size ep l).objs.size=s.heap.objs.size+2:=by rw[Fc,e1]
 have e3:(GX s.heap d es.size ep l).objs.size=s.heap.objs.size+3:=by rw[Fc,e2]
 have e4:(GQ s.heap d es.size ep l).objs.size=s.heap.objs.size+4:=by rw[Fc,e3]
 have p1:∀{h:Heap} {a:Addr} {u:Obj} (o:Obj),h.get? a=some u->(h.push o).get? a=some u:=λo e=>Ah _ e
 have g5:(CM s.heap d es.size ep l).get? (GQ s.heap d es.size ep l).objs.size=some _:=Ap _ rfl
 have g4:(CM s.heap d es.size ep l).get? (GX s.heap d es.size ep l).objs.size=some _:=p1 _ (Ap _ rfl)
 have g3:(CM s.heap d es.size ep l).get? (HC s.heap d es.size ep l).objs.size=some _:=p1 _ (p1 _ (Ap _ rfl))
 have g2:(CM s.heap d es.size ep l).get? (GD s.heap d es.size ep).objs.size=some _:=p1 _ (p1 _ (p1 _ (Ap _ rfl)))
 have g1:(CM s.heap d es.size ep l).get? s.heap.objs.size=some _:=p1 _ (p1 _ (p1 _ (p1 _ (Ap _ rfl))))
 show _/\_
 rw[e2,e3,e4] at g5
 rw[e1,e2] at g3
 rw[e3] at g4
 rw[e1] at g2
 rw[e4]
 exact ⟨⟨_,g5,rfl⟩,k _ g5 g3 g4 ⟨_,g1,rfl,rfl⟩ ⟨_,g2,rfl,rfl⟩ λc o x=>p1 _ (p1 _ (p1 _ (p1 _ (p1 _ x))))⟩
end
theorem pR{P:Bl}{w:World}{H:Hp}{h:Heap}{a:Addr}{kvs:List (List Jp×V)}(ok:Vf P w H h)(e:H a=some (.dT kvs)):∃(es:Array Gz),(a == Gm)=false/\Td h a es kvs.length/\es.size=kvs.length/\∀(i:Nat) (x:Gz),es[i]? = some x->∃k b v,kvs[i]? = some (k,v)/\x.key=.ref b/\H b=some (.tup (k.map kV))/\k.length<=Aq:=by
 obtain ⟨_,hd,xs,rel,o,es,ep,h1,h2,h3,h4,_,hep⟩:=(show Hl P w H h a (.dT kvs) from ok a _ e)
 have hl:es.size=kvs.length:=by
  have:=congrArg Ft h4
  rw[Af,<- Paired.length rel] at this
  simpa using this
 refine ⟨es,hd,⟨o,h1,h2,by rw[h3,hep,hl]⟩,hl,λi x hx=>?_⟩
 have hx':es.toList[i]? = some x:=by rw[Fh]; exact hx
 rw[h4,Bj] at hx'
 cases q:xs[i]? with
 | none=>rw[q] at hx'; cases hx'
 | some y =>
  rw[q] at hx'
  cases hx'
  have go:∀{kvs:List (List Jp×V)} {xs:List (List Jp×Addr×Value)} {i:Nat},Paired (λ(p:List Jp×V) (q:List Jp×Addr×Value)=>p.1=q.1/\H q.2.1=some (.tup (p.1.map kV))/\RelV p.2 q.2.2) kvs xs->xs[i]? = some y->∃p,kvs[i]? = some p/\H y.2.1=some (.tup (p.1.map kV)):=by
   intro kvs xs i r
   induction r generalizing i with
   | nil=>intro z; simp at z
   | cons hp _ ih =>
    intro z
    cases i with
    | zero=>simp at z; subst z; exact ⟨_,rfl,hp.2.1⟩
    | succ j=>exact ih (by simpa using z)
  obtain ⟨p,hp1,hp2⟩:=go rel q
  refine ⟨p.1,y.2.1,p.2,hp1,rfl,hp2,?_⟩
  have:=(show Hl P w H h y.2.1 (.tup (p.1.map kV)) from ok _ _ hp2).1
  rwa [Af] at this
def CD(K:PySem.W.Frag)(a b:Addr)(n:Nat):It :=
  ⟨λi H=>∃kv ys y,H a=some (.dT kv)/\kv.length=n/\Pe K H b ys/\i<n/\ys[i]? = some y,
   λi H x H'=>∃p t k v u,x=.ref p/\H p=none/\H'=upd H p (.tup [.ref t,u])/\(∀kv,H a=some (.dT kv)->kv[i]? = some (k,v))/\H t=some (.tup (k.map kV))/\k.length<=Aq/\∀ys,Pe K H b ys->ys[i]? = some u,
   λi H=>∃kv ys,H a=some (.dT kv)/\kv.length=n/\Pe K H b ys/\(i=n\/(i<n/\i=ys.length))⟩
theorem xG{P:Bl}{w:World}{K:PySem.W.Frag}{elts:List Expr}{k:Nat}{pos:Pos}{n:Nat}(a b z TI TO i1 i2:Addr)(ap:ZApart z TI TO i1 i2 [i1,a] [i2,b])(na:a≠i1)(nb:b≠i2):Turn P w K (.Tuple elts k pos) (CD K a b n) [z,TI,TO,i1,i2] z (λi h=>IsZip h z TI TO .none/\Gc h TI (.ref i1) (.ref i2)/\(∃u v,Gc h TO u v)/\h.IsKeyIter i1 a i n n/\h.IsListIter i2 b i) where
 mem:=Ab
 obj:=λi h st c hc=>by
  obtain ⟨hz,hTI,⟨u,v,hTO⟩,⟨o1,e1,c1,d1⟩,⟨o2,e2,c2,d2⟩⟩:=st
  w_pre m5
  ·exact ⟨_,hz,λv z=>by cases z⟩
  ·exact ⟨_,hTI,λv z=>by cases z⟩
  ·exact ⟨_,hTO,λv z=>by cases z⟩
  ·exact ⟨o1,e1,λv z=>by rw[d1] at z; cases z⟩
  ·exact ⟨o2,e2,λv z=>by rw[d2] at z; cases z⟩
 keep:=λi h h' st kp=>by
  obtain ⟨hz,hTI,⟨u,v,hTO⟩,h1,h2⟩:=st
  exact ⟨kp z (by simp) _ hz,kp TI (by simp) _ hTI,⟨u,v,kp TO (by simp) _ hTO⟩,h1.at λo q=>kp i1 (by simp) o q,h2.at λo q=>kp i2 (by simp) o q⟩
 item:=by
  w_pre k4
  obtain ⟨kv,ys,y,ha,rfl,hq2,hx,hy⟩:=hg
  w_pre x
  have ly:i<its2.length:=by
   have:=(Av.mp hy).1
   omega
  have zl:z<s.heap.objs.size:=Au hz
  have TIl:TI<s.heap.objs.size:=Au hTI
  have TOl:TO<s.heap.objs.size:=Au hTO
  have i1l:i1<s.heap.objs.size:=by obtain ⟨_,q,_⟩:=hi1; exact Au q
  have i2l:i2<s.heap.objs.size:=by obtain ⟨_,q,_⟩:=hi2; exact Au q
  refine vQ D1 D2 ap hz hTI hTO ⟨by rw[hes]; exact hi1,by rw[hes]; exact hE⟩ ⟨hi2,p2.isList⟩ (by omega) (by simpa using ly) λu1 u2 h1 tk q1 q2 a1 a2 a3 a4 a5 a6 hk=>⟨_,rfl,wpAny_letOwnedTupleGo_zip (s:={ s with heap:=h1,toks:=tk }) a1 λh2 he2 hs2=>?_⟩
  have hs2':Ct z h1 h2:=hs2
  obtain ⟨x1,ex1,rfl⟩:=q1
  obtain ⟨kk,bb,vv,ek,eb,hb,hkl⟩:=hent i x1 ex1
  rw[eb] at a2 a5
  have q2':its2[i]? = some u2:=by simpa using q2
  obtain ⟨u2',hu2,ru2⟩:=rv2.get hy
  rw[q2'] at hu2
  cases hu2
  have I1:Inv X pins σ (upd H s.heap.objs.size (.tup [.ref bb,y])) { s with heap:=s.heap.push { cls:=.type "tuple",data:=.seq #[.ref bb,u2] } } :=
   I.laid (t':=s.toks) (λb o q=>Ah _ q) (Aj _) ⟨by show 2<=Aq; decide,[.ref bb,u2],.cons rfl (.cons ru2 .nil),_,Ap _ rfl,rfl,0,rfl⟩
  have nT:∀c∈[z,TI,TO,i1,i2],c≠s.heap.objs.size:=λc hc=>by
   simp only[An,Bd,or_false] at hc
   rcases hc with rfl | rfl | rfl | rfl | rfl <;> exact Bu (by assumption)
  have fr:∀c∈[z,TI,TO,i1,i2],(upd H s.heap.objs.size (.tup [.ref bb,y])) c=none:=λc hc=>by rw[Dr (nT c hc)]; exact (hf c hc).1
  refine ⟨.ref s.heap.objs.size,_,Sh (fp:=[z,TI,TO,i1,i2]) (s:={ s with heap:=s.heap.push { cls:=.type "tuple",data:=.seq #[.ref bb,u2] } }) (h':=h2) (t':=tk) I1 (λc o hc q=>?_) (λc hc=>⟨fr c hc,(hf c hc).2⟩),rfl,⟨_,bb,kk,vv,y,rfl,I.hok.fresh (Aj _),rfl,(λkv' h'=>by rw[ha] at h'; cases h'; exact ek),hb,hkl,λzs hzs=>by rw[I.list_inj hzs hq2]; exact hy⟩,⟨he2,?_,⟨.ref bb,u2,?_⟩,?_,?_⟩,fr⟩
  ·simp only[An,Bd,or_false,not_or] at hc
   refine (hs2'.2 c hc.1).trans ?_
   by_cases hbT:c=s.heap.objs.size
   ·subst hbT
    have q':=(Ap s.heap (o:={ cls:=.type "tuple",data:=.seq #[.ref bb,u2] }) rfl).symm.trans q
    rw[show h1.get? s.heap.objs.size=_ from a5]
    exact q'
   ·refine hk c o hc.1 hc.2.2.1 hc.2.2.2.1 hc.2.2.2.2 ?_
    have q0:(s.heap.push { cls:=.type "tuple",data:=.seq #[.ref bb,u2] }).get? c=some o:=q
    rcases Heap.get?_push_cases q0 with zz | zz
    ·exact absurd zz.1 hbT
    ·exact zz
  ·exact (hs2'.2 TI ap.tiz).trans (hk TI _ ap.tiz ap.tito ap.ti1 ap.ti2 hTI)
  ·exact (hs2'.2 TO ap.toz).trans a2
  ·rw[hes] at a3
   exact a3.1.at λo q=>(hs2'.2 i1 ap.z1).trans q
  ·exact a4.1.at λo q=>(hs2'.2 i2 ap.z2).trans q
 done:=by
  w_pre k4
  obtain ⟨kv,ys,ha,rfl,hq2,hx⟩:=hg
  w_pre x
  refine vK D1 D2 ap hz hTI hTO ⟨by rw[hes]; exact hi1,by rw[hes]; exact hE⟩ ⟨hi2,p2.isList⟩ ?_ λh1 tk hk=>⟨rfl,Sh (fp:=[z,TI,TO,i1,i2]) (t':=tk) I (λc o hc q=>?_) hf⟩
  ·rw[hes,Ar]
   omega
  ·simp only[An,Bd,or_false,not_or] at hc
   exact hk c o hc.1 hc.2.2.1 hc.2.2.2.1 hc.2.2.2.2 q
 self:=λ_ _ _ _ _ st h=>kF st.1 h
theorem CJ(I a b:Nat)(h1:a<I)(h2:b<I):ZApart (I+4) (I+2) (I+3) I (I+1) [I,a] [I+1,b]:=by
 constructor <;> (first | (intro e; have e':(_:Nat)=_:=e; omega) | (intro e; simp only[An,Bd,or_false] at e; rcases e with e | e <;> (have e':(_:Nat)=_:=e; omega)))
section
variable{X:Cx}
def EI(K:PySem.W.Frag)(ta:TA):TI:=λσ H R=>ta σ H λvs H1=>∃a b kv,vs=[.ref a,.ref b]/\H1 a=some (.dT kv)/\(∃ys,Pe K H1 b ys)/\R (CD K a b kv.length) H1
theorem O0{elts:List Expr}{k:Nat}{tp:Pos}{a b:Expr}{ta:TA}{p pos:Pos}(hg:Gl X "zip")(hm:X.mg "zip" = none)(ha:PA X [a,b] ta)(hs:Bn [a,b] X.env=(false,eval a X.env)::Bn [b] X.env:=by rfl)(hp:(Hj pos (Bn [b] X.env)).any (·.1)=false:=by rfl):PI X (.Tuple elts k tp) (.Call (.Name "zip" p) [a,b] [] pos) (EI X.K ta):=by
 w_pre q8
 w_pre t7
 obtain ⟨l1,l2,kv,e,hq1,⟨ys,hq2⟩,q⟩:=q1
 w_pre s1
 obtain ⟨es,hd,hE,hes,hent⟩:=pR I1.hok hq1
 obtain ⟨its2,rv2,pl2,hz2⟩:=I1.list hq2
 have hlt1:l1<s1.heap.objs.size:=let ⟨o,q,_⟩:=hE; Au q
 have hlt2:l2<s1.heap.objs.size:=let ⟨o,q,_⟩:=pl2.isList; Au q
 refine qA hd hE pl2.isList λh2 hz hTI hTO hi1 hi2 hk=>kF hz ?_
 have fr1:∀n,Ml X pins H1 (s1.heap.objs.size+n):=λn=>I1.fpOk (Oe _ _) (I1.hok.fresh (Oe _ _))
 have fr:∀c∈[s1.heap.objs.size+4,s1.heap.objs.size+2,s1.heap.objs.size+3,s1.heap.objs.size,s1.heap.objs.size+1],Ml X pins H1 c:=λc hc=>by
  w_pre y
 rw[hes] at hi1
 exact ⟨s1.heap.objs.size+4,_,_,_,H1,rfl,I1.kept (t':=s1.toks) hk,xG l1 l2 _ _ _ _ _ (CJ _ _ _ hlt1 hlt2) (Bu hlt1) (Bu (Fg hlt2)),⟨hz,hTI,⟨_,_,hTO⟩,hi1,hi2⟩,fr,q⟩
end
section
variable{prog:Bl}{w:World}{A:Ce}{R:Result->Ai->Prop}{s:Ai}
theorem mU{kx vx tg iter:Expr}{ifs:List Expr}{scope:Scope}{pos:Pos}{it:Value}{D:Addr}{env:Env}(J:Nat->Ai->Prop) (turn:∀n s,J n s->wpAny (model prog w) A (Hi it) (λr s1=>match r with
    | none=>R (.ok .next) s1
    | some v=>wpAny (model prog w) A (Ho tg it v) (λ_ s2=>wpAny (model prog w) A (Oc tg env v) (λ_ s3 =>
      wpAny (model prog w) A (forIn ifs true λc r=>if r=true then (do
        let ok <- isTrue c env (eval c env)
        pure (El ok)) else pure (El r)) (λok s4 =>
       if ok=true then
        wpAny (model prog w) A (eval kx env) (λk s5=>wpAny (model prog w) A (eval vx env) (λy s6=>wpAny (model prog w) A (dictSet D k y) (λ_ s7=>∃m,m<n/\J m s7) (λ_ _=>False) s6) (λ_ _=>False) s5) (λ_ _=>False) s4
       else ∃m,m<n/\J m s4) (λ_ _=>False) s3) (λ_ _=>False) s2) (λ_ _=>False) s1) (λ_ _=>False) s)
  (n:Nat) (h:J n s):Hb (model prog w) A (.compLoop (.DictComp kx vx [⟨tg,iter,ifs,0⟩] scope pos) 0 it (.ref D) env) R s:=by
 refine gH rfl J (λn s hJ=>wpAny_noted ?_) n h
 rw[compTurn_dict]
 w_pre f7
 cases r with
 | none=>exact Ac h1
 | some v =>
  refine Aa (Cq h1 (λ_ s2 h2=>Aa (Cq h2 (λ_ s3 h3=>Aa (Cq h3 (λok s4 h4=>?_) λ_ _ z=>z.elim)) λ_ _ z=>z.elim)) λ_ _ z=>z.elim)
  cases ok with
  | false=>exact Ac ⟨rfl,h4⟩
  | true =>
   refine Aa (Aa (Cq h4 (λk s5 h5=>Aa (Ck (Cq h5 (λy s6 h6=>?_) λ_ _ z=>z.elim))) λ_ _ z=>z.elim))
   exact Aa (Ib (Ck (Cq h6 (λ_ s7 h7=>Ac ⟨rfl,h7⟩) λ_ _ z=>z.elim)))
end
section
variable{X:Cx}{pins:List (Addr×Obj)}{σ:L2.St}{H:Hp}{s:Ai}{a b:Addr}{v:V}{r:Value}{A:Ce}{E:Value->Ai->Prop}{kvs:List (List Jp×V)}{k:List Jp}
theorem vJ{Q:Unit->Ai->Prop}(hu:A.units+1<cLine)(I:Inv X pins σ H s)(e:H a=some (.dT kvs))(eb:H b=some (.tup (k.map kV)))(l:kvs.length<Aq)(rv:RelV v r)(h:∀s',Inv X pins σ (upd H a (.dT (Oj kvs k v))) s'->Q () s'):wpAny (model X.prog X.w) A (dictSet a (.ref b) r) Q E s:=by
 w_pre x1
 refine cW (hz:=hz) (show (Ng _).room A from Nat.lt_of_succ_lt hu) (Vy I.hok eb) dd λh' dd' hs=>h _ ?_
 w_pre l8
 refine aO I (by rw[e]; exact Jr) hs ⟨q,hq⟩ ⟨hl,hd,_,(rel.put k eb rv).keeps λc ys ec=>(Dr (yC ec e (λz=>nomatch z))).trans ec,q,es,ep,hq,h2,h3,h4,h5⟩
end
section
variable{X:Cx}
def M4(K:PySem.W.Frag)(J:It)(js:List Nat)(tc:TT)(tk tv:TE)(σ:L2.St)(H1:Hp)(Q:VK):Prop:=∀D,H1 D=none->∃W:Nat->Nat->Hp->Prop,(∃m,W 0 m (upd H1 D (.dT [])))/\∀i m H,W i m H ->
 (J.stop i H/\Q (.ref D) H)\/(J.go i H/\∀x H',J.yld i H x H'->∃(t:Addr) (w1 w2:V),x=.ref t/\Ta K H' t [w1,w2]/\∃(N1:Hp->Prop) (N2:V->VK),(∀H2,N1 H2->∃m',m'<m/\W (i+1) m' H2) /\
  (∀kv vv H3,N2 kv vv H3->∃kvs k b,H3 D=some (.dT kvs)/\kv=.ref b/\H3 b=some (.tup (k.map kV))/\kvs.length<Aq/\∃m',m'<m/\W (i+1) m' (upd H3 D (.dT (Oj kvs k vv)))) /\
  tc (some w1::some w2::Ei σ js) H' λc H2=>if c=true then tk (some w1::some w2::Ei σ js) H2 (λkv H3=>tv (some w1::some w2::Ei σ js) H3 (N2 kv)) else N1 H2)
def tM(K:PySem.W.Frag)(wi:TI)(js:List Nat)(tc:TT)(tk tv:TE):TE:=λσ H Q=>wi σ H λJ H1=>M4 K J js tc tk tv σ H1 Q
theorem vC{kx vx iter:Expr}{x x2:Str}{px px2 pt pos:Pos}{kt:Nat}{ifs:List Expr}{scope:Scope}{cl:List (Str×Addr)}{ys:List Str}{js:List Nat}{wi:TI}{tc:TT}{tk tv:TE}(C:CompScope X scope cl x ys js)(own2:bS scope x2)(nd2:(x::x2::ys).Nodup)(hc:X.calm=true)(hu:X.A.units+1<cLine)(hi:PI X (.Tuple [.Name x px,.Name x2 px2] kt pt) iter wi)(ht:∀fp s H,qN (Dm X scope cl (x::x2::ys) fp s H) ifs tc)(hk:∀fp s H,PE (Dm X scope cl (x::x2::ys) fp s H) kx tk)(hv:∀fp s H,PE (Dm X scope cl (x::x2::ys) fp s H) vx tv)(hs:∀x,Cz iter X.env x=pure x:=by intro _; rfl):PE X (.DictComp kx vx [⟨.Tuple [.Name x px,.Name x2 px2] kt pt,iter,ifs,0⟩] scope pos) (tM X.K wi js tc tk tv):=by
 w_pre w6
 rw[arm_eval_DictComp]
 show wpAny _ _ (comprehension _ scope X.env _ newDict false (eval iter X.env) none) _ _ s
 w_pre x7
 obtain ⟨it,fp,tn,J,H2,e,I2,T,st2,f2,q2⟩:=h2
 subst e
 have fD:H2 s2.heap.objs.size=none:=I2.hok.fresh (Aj _)
 obtain ⟨W,⟨m0,w0⟩,turn⟩:=q2 s2.heap.objs.size fD
 refine Ca ?_
 have I3:Inv X pins σ (upd H2 s2.heap.objs.size (.dT [])) { s2 with heap:=s2.heap.push { cls:=.type "dict",data:=.dict #[] } } :=
  I2.laid (t':=s2.toks) (λb u q=>Ah _ q) (Aj _) (lM s2.heap I2.big)
 have nfp:∀b∈fp,b≠s2.heap.objs.size:=λb hb z=>by
  obtain ⟨o,q,_⟩:=T.obj _ _ st2 b hb
  have:=Au q
  rw[z] at this
  exact absurd this (Fo _)
 have f3:∀b∈fp,Ml X pins (upd H2 s2.heap.objs.size (.dT [])) b:=λb hb=>⟨by rw[Dr (nfp b hb)]; exact (f2 b hb).1,(f2 b hb).2⟩
 generalize hS3:({ s2 with heap:=s2.heap.push { cls:=.type "dict",data:=.dict #[] } }:Ai)=s3 at I3
 have st3:tn 0 s3.heap:=T.keep 0 _ _ st2 λb hb o q=>by rw[<- hS3]; exact Ah _ q
 have o3:∀b∈fp,∃o,s3.heap.get? b=some o:=λb hb=>let ⟨o,q,_⟩:=T.obj _ _ st3 b hb; ⟨o,q⟩
 show wpAny _ _ (Ly scope X.env.globals cl [] X.env.qual none .none (some X.env)) _ _ _
 refine Re C λh4 hns4 keep4 new4=>?_
 have I4:∀tk,Inv (Dm X scope cl (x::x2::ys) fp s3 (upd H2 s2.heap.objs.size (.dT []))) [] (none::none::Ei σ js) (upd H2 s2.heap.objs.size (.dT [])) { s3 with heap:=h4,toks:=tk }:=λtk=>Ph (pre:=[x,x2]) C I3 f3 o3 hns4 keep4 new4
 have st4:tn 0 h4:=T.keep 0 _ _ st3 λb hb o q=>keep4 b o q
 generalize hX':Dm X scope cl (x::x2::ys) fp s3 (upd H2 s2.heap.objs.size (.dT []))=X' at I4
 have eP:X'.prog=X.prog:=by rw[<- hX']; rfl
 have eW:X'.w=X.w:=by rw[<- hX']; rfl
 have eK:X'.K=X.K:=by rw[<- hX']; rfl
 have eA:X'.A=X.A:=by rw[<- hX']; rfl
 have eC:X'.calm=true:=by rw[<- hX']; exact hc
 have stat:∀{H':Hp},(∀b∈fp,H' b=none)->∀b∈fp,Ml X' [] H' b:=λ{H'} hn b hb=>by
  w_pre v1
 have loop:∀s5:Ai,s5={ s3 with heap:=h4,toks:=s3.toks+([]:List (Str×Value)).length } ->
   Hb (model X.prog X.w) X.A (.compLoop (.DictComp kx vx [⟨.Tuple [.Name x px,.Name x2 px2] kt pt,iter,ifs,0⟩] scope pos) 0 (.ref it) (.ref s2.heap.objs.size) (Vj scope (Ek (s3.heap.objs.size+1) scope.names cl) s3.heap.objs.size X.env))
    (compPost (model X.prog X.w) X.A X.xe none (EP X pins σ Q) (.ref s2.heap.objs.size) s3.heap.objs.size) s5:=by
  rintro s5 rfl
  refine mU (λn s'=>∃i o o2 H',Inv X' [] (o::o2::Ei σ js) H' s'/\tn i s'.heap/\(∀b∈fp,H' b=none)/\W i n H') ?_ m0
   ⟨0,none,none,_,I4 _,st4,λb hb=>(f3 b hb).1,w0⟩
  rintro n s6 ⟨i,o,o2,H6,I6,st6,fr6,w6⟩
  w_pre m9
  ·have hd:=T.done X' eP eW eK eC i [] s6 _ H6 (λ_ _=>False) I6 (stat fr6) st6 stop
   w_pre l0
   refine ⟨m7,hn7',λh8 hs8=>?_⟩
   have I7f:H6 s3.heap.objs.size=none:=by have:=I7.free; rw[<- hX'] at this; exact this
   have b7:Un (gC X.stack) fp (upd H2 s2.heap.objs.size (.dT [])) H6 s3.heap s7.heap:=by have:=I7.base; rw[<- hX'] at this; exact this
   have ne8:∀b o,s3.heap.get? b=some o->b≠s3.heap.objs.size:=λb o q=>Bu (Au q)
   have u8:Un (gC X.stack) fp (upd H2 s2.heap.objs.size (.dT [])) H6 s3.heap h8:=by
    refine ⟨λb o q n hb hx=>(hs8.2 b (ne8 b o q)).trans (b7.keep b o q n hb hx),λb o q n hb hx=>?_,b7.free,λb o q hx=>?_,b7.tups,b7.frzs,b7.tbls⟩
    ·obtain ⟨sl,z⟩:=b7.slot b o q n hb hx
     exact ⟨sl,(hs8.2 b (ne8 b o q)).trans z⟩
    ·obtain ⟨o',z⟩:=b7.there b o q hx
     exact ⟨o',(hs8.2 b (ne8 b o q)).trans z⟩
   have hok8:Vf X.prog X.w H6 h8:=λb ob e=>by
    have hk7:=I7.hok
    rw[eP,eW] at hk7
    refine (hk7 b ob e).stay (λc w' hcc q=>(hs8.2 c ?_).trans q) (λ_ q=>q) λ_ _ q=>q
    rintro rfl
    rcases hcc with rfl | hcc
    ·rw[I7f] at e; cases e
    ·rw[I7f] at hcc; cases hcc
   have os7:s7.os=s3.os:=by have:=I7.os; rw[<- hX'] at this; exact this
   exact ⟨.ref s2.heap.objs.size,H6,I3.call' (s':={ s7 with heap:=h8 }) (ch:=fp) os7 u8 hok8 I7.bare (λb hb=>⟨(f3 b hb).2.2.2.1,(f3 b hb).2.1,(f3 b hb).2.2.2.2.1,(f3 b hb).2.2.2.2.2⟩),rfl,qn⟩
  ·have hit:=T.item X' eP eW eK eC i [] s6 _ H6 (λ_ _=>False) I6 (stat fr6) st6 go
   w_pre k
   have g1:PG (Dm X scope cl (x::x2::ys) fp s3 (upd H2 s2.heap.objs.size (.dT []))) (.Tuple [.Name x px,.Name x2 px2] kt pt) (N5 X.K 2 (cT (Sr 0) (cT (Sr 1) M9))) :=
    jG (X:=Dm X scope cl (x::x2::ys) fp s3 (upd H2 s2.heap.objs.size (.dT []))) hc (Pf (Me (i:=0) (x:=x) nd2 rfl (Ol C.own) (Rp C.own)) (Pf (Me (i:=1) (x:=x2) nd2 rfl (Ol own2) (Rp own2)) aH))
   w_pre z1
   cases ok with
   | false =>
    w_pre f3
   | true =>
    rw[if_pos rfl] at q10 ⊢
    refine Gb (hk fp s3 _ _ s10 _ _ _ I10 q10) λzk s11 ⟨vk,H11,I11,r11,q11⟩=>?_
    refine Gb (hv fp s3 _ _ s11 _ _ _ I11 q11) λzv s12 ⟨vv,H12,I12,r12,q12⟩=>?_
    obtain ⟨kvs,kk,b,ha,eb,hb,hz,m',hm,w12⟩:=hN2 _ _ _ q12
    subst eb
    cases (show zk=Ay b from r11)
    exact vJ (X:=Dm X scope cl (x::x2::ys) fp s3 (upd H2 s2.heap.objs.size (.dT []))) (A:=X.A) hu I12 ha hb hz r12 λs13 I13=>again I13 hm w12
 exact codeAny_compStart_dict (loop _ rfl) (T.self X.A 0 _ _ _ st4 (loop _ rfl))
end
end Nd
namespace DL
open PySem PySem.Spec PyProof.Rows L2 Nd
section
variable{K:PySem.W.Frag}
theorem Y2{H:Hp}{kv:List (List Jp×V)}{ks:List (List Int×Ae)}{i:Nat}{k:List Jp}{v:V}(r:DRel K H kv ks)(h:kv[i]? = some (k,v)):∃w d,ks[i]? = some (w,d)/\k=Ld w:=by
 have e:=congrArg (λl=>l[i]?) r.key
 simp only[Bj,h,Oo] at e
 cases q:ks[i]? with
 | none=>rw[q] at e; cases e
 | some p=>rw[q] at e; exact ⟨p.1,p.2,rfl,Bv e⟩
theorem N0{H:Hp}{t:Addr}{w:List Int}(h:H t=some (.tup ((Ld w).map kV)))(hl:(Ld w).length<=Aq):RdF K H (.ref t) (Br w) []:=by
 rw[iU] at h
 refine .tup h ?_ (RdFs.ints w)
 unfold Ld at hl
 rw[Af] at hl ⊢
 exact hl
theorem xI{a b:Addr}{m m':Md}{ks:List (List Int×Ae)}{es:List Ae}{F G:List Addr}:IterOk K (CD K a b ks.length) [⟨some (.ref a),.dat (Ke m) (.dict (Ov ks)),F⟩,⟨some (.ref b),.dat (Ke m') (.list es),G⟩] (mdZip m m') ((ks.zip es).map λp=>.tuple [Br p.1.1,p.2]) where
 md:=by cases m <;> cases m' <;> simp [mdZip]
 hd:=λe he=>by
  w_pre d7
  ·exact bK
  ·rw[Al.mp he]
   exact bK
 np:=λz e he=>by
  w_pre d7
  ·cases m <;> cases m' <;> first | rfl | cases z
  ·rw[Al.mp he]
   cases m <;> cases m' <;> first | rfl | cases z
 go:=λH n i h hi=>by
  w_pre d0
  rw[Af,Po] at hi
  exact ⟨kv,ys,ys[i],ha,Ra rel,Pe.of hb2,by omega,by simp [show i<ys.length by omega]⟩
 yld:=λH n i x H' h hi y=>by
  obtain ⟨c,kv,ks',e,ek,ha,rel,_⟩:=(Jg h Ab).dict_inv
  cases e
  w_pre f8
  obtain ⟨b2,ys,G2,e2,hb2,rb2,rfl,_⟩:=(Jg h (Ad _ Ab)).list_inv
  cases e2
  rw[Af,Po] at hi
  obtain ⟨p,t,k,v,u,rfl,np,rfl,y1,y2,y3,y4⟩:=y
  obtain ⟨w,d,e1,rfl⟩:=Y2 rel (y1 kv ha)
  have hx2:=y4 ys (Pe.of hb2)
  obtain ⟨x2,F2,h21,h22,h23⟩:=rb2.get (i:=i) (e:=es[i]) (by simp [show i<es.length by omega])
  rw[hx2] at h21
  cases h21
  have s1:=Fe np (.tup [.ref t,u])
  refine ⟨s1,.tuple [Br w,es[i]],F2,?_,.tup Ds (by simp [Hh]) ?_,λc hc=>⟨_,Ad _ Ab,Ad _ (h23.subset hc)⟩⟩
  ·rw[Bj,show (ks.zip es)[i]? = some ((w,d),es[i]) from List.getElem?_zip_eq_some.mpr ⟨e1,by simp [show i<es.length by omega]⟩]
   rfl
  ·have:=RdFs.cons ((N0 (K:=K) y2 y3).kp (Kp.of s1)) (RdFs.cons (h22.kp (Kp.of s1)) RdFs.nil)
   rw[Ec] at this
   exact this
 stop:=λH n h=>by
  w_pre d0
  refine ⟨kv,ys,ha,Ra rel,Pe.of hb2,?_⟩
  rw[Af,Po]
  omega
end
def HX(de:DE):DI:=λδ P=>de δ λx δ'=>match x with
 | .dat m (.dict X)=>∃ks,X=Ov ks/\ks.length<=1000000/\P (Ke m) (ks.map λp=>Br p.1) δ'
 | _=>False
def n9(da:DA):DI:=λδ P=>da δ λxs δ'=>match xs with
 | [.dat m (.dict X),.dat m' (.list es)]=>∃ks,X=Ov ks/\P (mdZip m m') ((ks.zip es).map λp=>.tuple [Br p.1.1,p.2]) δ'
 | _=>False
section
variable{X:Cx}{tg e a b:Expr}{de:DE}{da:DA}{elts:List Expr}{k:Nat}{tp p pos:Pos}
theorem jU(hg:Gl X "zip")(hm:X.mg "zip" = none)(h:oS X [a,b] da)(hs:Bn [a,b] X.env=(false,eval a X.env)::Bn [b] X.env:=by rfl)(hp:(Hj pos (Bn [b] X.env)).any (·.1)=false:=by rfl):vZ X (.Tuple elts k tp) (.Call (.Name "zip" p) [a,b] [] pos) (n9 da):=by
 refine PI.imp (O0 hg hm h hs hp) λσ H R h=>?_
 w_pre g7
 refine ⟨H0,Y,S,T,δ,_,rfl,hS,hA,hd,λxs δ1 As us S1 H1 e1 e2 ex eu hA1 p1=>?_⟩
 split at p1
 ·rename_i m X' m' es
  obtain ⟨ks,rfl,p1⟩:=p1
  obtain ⟨v1,F1,v2,F2,rfl,hA2⟩:=Xf eu hA1 ex
  obtain ⟨a,kv,ks',rfl,ek,ha,rel,_⟩:=(hA2.told mem_mid).dict_inv
  w_pre f8
  obtain ⟨b,ys,G,rfl,hb,rb,rfl,hz⟩:=(hA2.told Fd).list_inv
  refine ⟨a,b,kv,rfl,ha,⟨ys,Pe.of hb⟩,?_⟩
  rw[Ra rel]
  have q1:=(hA2.mid.wk (Xd _)).tomid
  have q2:At X.K H0 Y δ1.n ((S1++[⟨some (.ref a),.dat (Ke m) (.dict (Ov ks)),F1⟩])++⟨some (.ref b),.dat m' (.list es),b::G⟩::T) H1:=by rw[Bt]; exact q1
  have q3:=(q2.mid.wk (Xd _)).tomid
  rw[Bt] at q3
  exact k _ _ δ1 _ [_,_] S1 H1 e1 e2 q3 xI (by rw[Af,Po]; exact Cg (Nat.min_le_right _ _) hz) p1
 w_pre c8
end
def dH(ks:List (List Int×Ae)):List (List Jp×Ae):=ks.map λp=>(Ld p.1,p.2)
section
variable{K:PySem.W.Frag}{H0 H H':Hp}{X:Addr->Prop}{n:Nat}{E S T:List Ent}
theorem C3{kv:List (List Jp×V)}{ks:List (List Int×Ae)}(h1:kv.map (·.1)=(dH ks).map (·.1))(h2:RdFs K H (kv.map (·.2)) ((dH ks).map (·.2)) []):DRel K H kv ks:=by
 unfold dH at h1 h2
 rw[Dn] at h1 h2
 exact ⟨h1,h2⟩
theorem Y9{kv:List (List Jp×V)}{ks:List (List Int×Ae)}(r:DRel K H kv ks):kv.map (·.1)=(dH ks).map (·.1)/\RdFs K H (kv.map (·.2)) ((dH ks).map (·.2)) []:=by
 unfold dH
 rw[Dn,Dn]
 exact ⟨r.key,r.val⟩
theorem At.dNew(h:At K H0 X n E H){D:Addr}(hD:H D=Qv):At K H0 X n (⟨some (.ref D),.dT (dH []),[D]⟩::E) (upd H D (.dT [])):=by
 have s1:=Fe hD (.dT [])
 refine (h.grow (n':=n) s1 (Aj _)).push ⟨D,[],rfl,rfl,Ds,rfl,.nil⟩ (λf hf=>?_) λa ha=>?_
 w_pre v
theorem At.dPut{D:Addr}{ks:List (List Int×Ae)}{w:List Int}{v:V}{e:Ae}(h:At K H0 X n (⟨some (.ref D),.dT (dH ks),[D]⟩::E) H)(r:RdF K H v e []):∃kv,H D=some (.dT kv)/\kv.length=ks.length/\At K H0 X n (⟨some (.ref D),.dT (dH (Rc ks w e)),[D]⟩::E) (upd H D (.dT (Oj kv (Ld w) v))):=by
 w_pre p0
 have hE:=h.sub (Cy _ _)
 have kp:∀{F:List Addr},D∉F->Kp F H (upd H D (.dT (Oj kv (Ld w) v))):=λ{F} hF b o q z=>by
  w_pre r
 have nD:H0 D=Qv:=by
  w_pre r3
 have rel':=(nB w r rel).kp (kp Bd)
 obtain ⟨g1,g2⟩:=Y9 rel'
 refine ⟨kv,ha,Ra rel,?_⟩
 refine ⟨λf hf=>?_,Bb.mpr ⟨λf hf=>⟨λhq a ha'=>(hs.1 f hf).1 hq a ha',λhq a ha'=>(hs.1 f hf).2 (hq.imp id id) a ha'⟩,hs.2⟩,λf hf=>?_,λb o nx q=>?_,λb o q=>?_,λb hb=>?_⟩
 rotate_right
 ·obtain ⟨z,c,k,f,h1,h2⟩:=h.xd b hb
  w_pre o3
 ·rcases An.mp hf with rfl | hf
  ·exact ⟨D,_,rfl,rfl,Ds,g1,g2⟩
  ·exact (hE.ok f hf).kp (kp ((hs.1 f hf).1 (.inr rfl) D Ab)) (Aj _)
 ·rcases An.mp hf with rfl | hf
  ·intro a ha'
   rw[Al.mp ha']
   exact .inl nD
  ·exact hE.new f hf
 w_pre p1
theorem At.dGot{D:Addr}{ks:List (List Int×Ae)}(h:At K H0 X n (⟨some (.ref D),.dT (dH ks),[D]⟩::E) H):At K H0 X n (⟨some (.ref D),.dat .ow (.dict (Ov ks)),[D]⟩::E) H:=by
 w_pre p0
 refine (h.sub (Cy _ _)).push ⟨_,rfl,.dic ha rel.key rel.val,λ_=>Co.mpr ⟨Bd,Dv⟩,λz=>nomatch z⟩ (λf hf=>⟨λhq a ha'=>(hs.1 f hf).1 (.inr rfl) a ha',λhq a ha'=>(hs.1 f hf).2 (.inl rfl) a ha'⟩) λa ha'=>?_
 rcases h.new _ Ab a ha' with z | z
 w_pre b5
end
def lS(yes:List Int->Ae->Nat->Prop)(y z:DV)(δ:DS):Prop:=match y,z with
 | .dat _ k,.dat _ e=>∃w,k=Br w/\imm e=true/\yes w e δ.n
 | _,_=>False
def gP(dc:DT)(dk dv:DE)(δ:DS)(yes:List Int->Ae->Nat->Prop)(no:Nat->Prop):Prop:=dc δ λc δ2=>match c with
 | true=>dk δ2 λy δ3=>dv δ3 λz δ4=>lS yes y z δ4
 | false=>no δ2.n
def jS(di:DI)(js:List Nat)(dc:DT)(dk dv:DE):DE:=λδ P=>di δ λm ds δ1=>ds.length<=1000000/\∃I:Nat->List (List Int×Ae)->Nat->Prop,I 0 [] δ1.n /\
 (∀i d acc n,ds[i]? = some d->I i acc n->∃d1 d2,d=.tuple [d1,d2]/\gP dc dk dv ⟨.dat m d1::.dat m d2::frD δ1.sl js,n⟩ (λw e n'=>I (i+1) (Rc acc w e) n') (λn'=>I (i+1) acc n')) /\
 ∀acc n,I ds.length acc n->P (.dat .ow (.dict (Ov acc))) ⟨δ1.sl,n⟩
theorem mM(ks:List (List Int×Ae))(w:List Int)(d:Ae):(Rc ks w d).length<=ks.length+1:=by
 unfold Rc
 split
 ·rw[Af]; omega
 ·rw[Bf]; simp
section
variable{K:PySem.W.Frag}{H0 H H':Hp}{Y:Addr->Prop}{n:Nat}{E S T:List Ent}
theorem uV{di:DI}{js:List Nat}{dc:DT}{dk dv:DE}:∀σ H Q,LE K (jS di js dc dk dv) σ H Q->tM K (LI K di) js (LT K dc) (LE K dk) (LE K dv) σ H Q:=by
 w_pre l2
 obtain ⟨hz1,I,h0,hs,hf⟩:=p1
 have hz2:=kD (n:=1000000) (Aj _)
 rw[<- e1]
 intro D hD
 refine ⟨λi q H=>q=ds.length - i/\i<=ds.length/\∃acc n,At K H0 Y n (⟨some (.ref D),.dT (dH acc),[D]⟩::(S1++(hid++T))) H/\acc.length<=i/\I i acc n,⟨ds.length,by simp,Di _,[],δ1.n,hA1.dNew hD,Aj _,h0⟩,?_⟩
 w_pre k2
 ·refine .inr ⟨it.go H n i hid_ok hlt,λx H' y=>?_⟩
  w_pre j2
  cases rt with
  | @cons w1 _ xs _ F1 _ r1 rt =>
   cases rt with
   | @cons w2 _ xs _ F2 G r2 rt =>
    cases rt
    have hA3:At K H0 Y n ((⟨some (.ref D),.dT (dH acc),[D]⟩::S1)++⟨some w1,.dat m d1,F1⟩::(hid++T)) H':=At.item (S:=⟨some (.ref D),.dT (dH acc),[D]⟩::S1) hA2 s1 r1 (λa ha=>h3 a (Ak _ ha)) it.md it.hd it.np
    have hA3':At K H0 Y n ((⟨some w1,.dat m d1,F1⟩::⟨some (.ref D),.dT (dH acc),[D]⟩::S1)++(hid++T)) H':=hA3.mid
    have hA3'':At K H0 Y n ((⟨some w1,.dat m d1,F1⟩::⟨some (.ref D),.dT (dH acc),[D]⟩::S1)++⟨some w2,.dat m d2,F2⟩::(hid++T)) H':=At.item hA3' (Sx.refl _) r2 (λa ha=>h3 a (Ag _ (Ak _ ha))) it.md it.hd it.np
    have hA4:At K H0 Y n (⟨some w1,.dat m d1,F1⟩::⟨some w2,.dat m d2,F2⟩::⟨some (.ref D),.dT (dH acc),[D]⟩::(S1++(hid++T))) H':=hA3''.mid.perm (Dk _ _ _)
    have hA5:=At.view (S:=S1) hA4 (λe he=>Ad _ (Ad _ (Ad _ (Ak _ he)))) js
    have hA6:At K H0 Y n ((⟨some w1,.dat m d1,F1⟩::⟨some w2,.dat m d2,F2⟩::Va S1 js)++⟨some (.ref D),.dT (dH acc),[D]⟩::(S1++(hid++T))) H':=by
     w_pre w3
    have hS6:Sl (⟨some w1,.dat m d1,F1⟩::⟨some w2,.dat m d2,F2⟩::Va S1 js) ⟨.dat m d1::.dat m d2::frD δ1.sl js,n⟩:=by
     unfold Sl
     rw[Ao,Ao,bH e2]
    have hv:vs (⟨some w1,.dat m d1,F1⟩::⟨some w2,.dat m d2,F2⟩::Va S1 js)=some w1::some w2::Ei (vs S1) js:=by
     rw[<- cI]
     rfl
    refine ⟨t,w1,w2,rfl,Ta.of ht,λH2=>∃m',m'<ds.length - i/\_,λkx vx H3=>∃(kvs:List (List Jp×V)) (k:List Jp) (b:Addr),H3 D=some (.dT kvs)/\kx=.ref b/\H3 b=some (.tup (k.map kV))/\kvs.length<Aq/\∃m',m'<ds.length - i/\_,λH2 q=>q,λkx vx H3 q=>q,?_⟩
    rw[<- hv]
    refine ⟨H0,Y,_,⟨some (.ref D),.dT (dH acc),[D]⟩::(S1++(hid++T)),_,_,rfl,hS6,hA6,hst,λc δ2 S2 H2 f1 f2 hA7 p2=>?_⟩
    cases c with
    | false=>exact nX ⟨ds.length - (i+1),by omega,rfl,hlt,acc,δ2.n,hA7.sub (Bk _ _),by omega,p2⟩
    | true =>
     refine lZ ⟨H0,Y,S2,⟨some (.ref D),.dT (dH acc),[D]⟩::(S1++(hid++T)),δ2,_,f1,f2,hA7,p2,λyk δ3 vk Fk S3 H3 f3 f4 hA8 p3=>?_⟩
     refine ⟨H0,Y,S3,⟨some vk,yk,Fk⟩::⟨some (.ref D),.dT (dH acc),[D]⟩::(S1++(hid++T)),δ3,_,f3,f4,hA8,p3,λyv δ4 vv Fv S4 H4 f5 f6 hA9 p4=>?_⟩
     unfold lS at p4
     split at p4
     ·rename_i mk dk0 mv dv0
      obtain ⟨w,rfl,im,p5⟩:=p4
      obtain ⟨b,rfl,hb⟩:=Ul (hA9.told Fd)
      have r:=hA9.told mem_mid
      obtain rfl:=r.imm im
      have hA10:At K H0 Y δ4.n (⟨some (.ref D),.dT (dH acc),[D]⟩::(S1++(hid++T))) H4:=hA9.drop2.sub (Bk _ _)
      obtain ⟨kv,g1,g2,g3⟩:=hA10.dPut (w:=w) r
      have:=mM acc w dv0
      exact ⟨kv,Ld w,b,g1,rfl,hb,by omega,ds.length - (i+1),by omega,rfl,hlt,Rc acc w dv0,δ4.n,g3,by omega,p5⟩
     ·exact p4.elim
 ·have e:i=ds.length:=by omega
  w_pre f5
  have hA4:At K H0 Y n (⟨some (.ref D),.dat .ow (.dict (Ov acc)),[D]⟩::(S1++T)) H:=hA2.dGot.sub (((Ci S1).append (Bk hid T)).cons₂ _)
  exact hA4.tomid
end
section
variable{X:Cx}{kx vx iter:Expr}{x x2:Str}{px px2 pt pos:Pos}{kt:Nat}{ifs:List Expr}{scope:Scope}{cl:List (Str×Addr)}{ys:List Str}{js:List Nat}{di:DI}{dc:DT}{dk dv:DE}
theorem uT(hu:X.A.units+64<cLine)(C:CompScope X scope cl x ys js)(own2:bS scope x2)(nd2:(x::x2::ys).Nodup)(hc:X.calm=true)(hi:vZ X (.Tuple [.Name x px,.Name x2 px2] kt pt) iter di)(ht:∀fp s H,qN (Dm X scope cl (x::x2::ys) fp s H) ifs (LT X.K dc))(hk:∀fp s H,Fm (Dm X scope cl (x::x2::ys) fp s H) kx dk)(hv:∀fp s H,Fm (Dm X scope cl (x::x2::ys) fp s H) vx dv)(hs:∀x,Cz iter X.env x=pure x:=by intro _; rfl):Fm X (.DictComp kx vx [⟨.Tuple [.Name x px,.Name x2 px2] kt pt,iter,ifs,0⟩] scope pos) (jS di js dc dk dv):=PE.imp (vC C own2 nd2 hc (GZ hu) hi ht hk hv hs) uV
end
end DL
namespace Nd
open PySem PySem.Spec PySem.Calls PyProof.Rows PyProof.V L2
def FM(r:Addr)(j:Int)(h:Heap):Prop:=∃t u v,IsRange h r 0 j 1 t u v
abbrev zY(r:Addr)(j:Int):HO:=.ext (FM r j)
section
variable{prog:Bl}{w:World}{A:Ce}{E:Value->Ai->Prop}{s:Ai}
theorem eL{R:List Value->Ai->Prop}{r:Addr}{a b c:Int}{t u v:Tok}{n:Nat}(hh:A.handled=none)(hr:IsRange s.heap r a b c t u v)(hsmall:Builtin.Range.small a b c=true)(hn:Kz a b c=n)(hlen:n<=2 ^ 24)(h:∀(h':Heap) (tk:Nat) (acc:Array Value),(∀b o,s.heap.get? b=some o->h'.get? b=some o)->ItemsOf (λi v=>∃t,v=.int (a+i * c) t) acc n->R acc.toList { s with heap:=h',toks:=tk }):wpAny (model prog w) A (collect (.ref r)) R E s:=by
 unfold collect
 refine Aa (wpAny_runValue (Fw PyProof.Rows.entry_proto_collect' ?_))
 rw[Fs PySem.F.plain_proto_collect _]
 show wpAny _ A.in1 (newList [] >>= λl=>again (.builtin "list.__iadd__" ⟨[l,.ref r],[]⟩)) _ _ s
 refine Aa (Ca ?_)
 refine Ac ⟨Px PySem.F.plain_list_iadd _,Fw PyProof.Rows.entry_list_iadd' ?_⟩
 rw[Fs PySem.F.plain_list_iadd _]
 have hS₁:(s.heap.push { cls:=.type "list",data:=.seq ([]:List Value).toArray }).get? s.heap.objs.size=some { cls:=.type "list",data:=.seq #[] }:=Ap _ rfl
 show wpAny _ A.in1 (Ni (.ref s.heap.objs.size) (.ref r) (.ref s.heap.objs.size)) _ _ _
 have key:=wpAny_extend_range (prog:=prog) (w:=w) (A:=A) (s:={ s with heap:=s.heap.push { cls:=.type "list",data:=.seq ([]:List Value).toArray } })
  (R:=λ(q:Result) (s':Ai)=>∃(h':Heap) (tk:Nat) (acc':Array Value) (c':Nat),q=.ok (.ret (.ref s.heap.objs.size))/\s'={ s with heap:=h',toks:=tk } /\
   (∀b o,s.heap.get? b=some o->h'.get? b=some o)/\h'.get? s.heap.objs.size=some { cls:=.type "list",dict:=none,data:=.seq acc' c',slots:=#[] }/\ItemsOf (λi v=>∃t,v=.int (a+i * c) t) acc' n)
  hh (Ah _ hr) hsmall hn hlen s.heap.objs.size (.ref s.heap.objs.size) 0 hS₁
  (λh' tk acc' c' hk hS' hacc=>⟨h',tk,acc',c',rfl,rfl,λb o e=>hk b o (Bu (Au e)) (Ah _ e),hS',hacc⟩)
 refine Cq key (λfin s' x=>?_) λe s' x=>?_
 ·cases fin with
  | done f =>
   obtain ⟨h',tk,acc',c',e,rfl,hk,hS',hacc⟩:=x
   cases e
   w_pre q2
  | again c₁ =>
   refine ⟨x.1,Nz x.2 λq s₂ y=>?_⟩
   obtain ⟨h',tk,acc',c',rfl,rfl,hk,hS',hacc⟩:=y
   w_pre q2
 ·obtain ⟨_,_,_,_,e',_⟩:=x
  cases e'
theorem Yi{Q₁:Value->Ai->Prop}{r:Addr}{a b c:Int}{t u v:Tok}{n:Nat}(hh:A.handled=none)(hr:IsRange s.heap r a b c t u v)(hsmall:Builtin.Range.small a b c=true)(hn:Kz a b c=n)(hlen:n<=1000)(h:∀(h':Heap) (tk:Nat) (acc:Array Value),(∀b o,s.heap.get? b=some o->h'.get? b=some o)->ItemsOf (λi v=>∃t,v=.int (a+i * c) t) acc n->Q₁ (.ref h'.objs.size) { s with heap:=h'.push { cls:=.type "tuple",data:=.seq acc },toks:=tk }):Hb (model prog w) A (.call (.builtin "tuple.__new__") ⟨[.type "tuple",.ref r],[]⟩) (wants Q₁ E) s:=by
 refine Xr ?_
 show wpAny _ A.in1 (do checkBuiltinCall "tuple.__new__" ⟨[.type "tuple",.ref r],[]⟩; again (.builtin "tuple.__new__" ⟨[.type "tuple",.ref r],[]⟩)) _ _ s
 refine Aa (Jb (F.newCall_tuple_1 _) (Ac ⟨Px F.plain_tuple_new _,Fw F.entry_tuple_new ?_⟩))
 rw[Fs F.plain_tuple_new _]
 have hsub:=sub_tuple_self
 have hinit:=init_tuple_lookup
 have hmh:=madeHere_tuple
 have hTI:s.TypeIs (.ref r) "range" := ⟨_,hr,rfl⟩
 have hh1:A.in1.handled=none:=hh
 wp_walk using Hv hTI,eL hh1 hr hsmall hn (by omega)
 intro h' tk acc hm hacc
 show wpAny _ _ (Gj acc.toList.toArray >>= λv=>ret v) _ _ _
 unfold Gj
 refine Aa (Ca ?_ (by show acc.toList.toArray.size<=Aq; simp only[Array.toArray_toList]; rw[hacc.1,Hh]; omega))
 refine Ac ?_
 have e:acc.toList.toArray=acc:=by simp
 rw[e]
 exact h h' tk acc hm hacc
end
theorem dY:∀{n:Nat} {acc:Array Value},acc.size=n->(∀(i:Nat) v,acc[i]? = some v->∃t,v=Lb (i:Int) t)->Ez acc.toList ((Cd n).map λk:Nat=>(k:Int)):=by
 intro n acc hs h
 have gen:∀(l:List Value) (m:Nat),(∀(i:Nat) v,l[i]? = some v->∃t,v=Lb ((m+i:Nat):Int) t)->Ez l ((List.range' m l.length).map λk:Nat=>(k:Int)):=by
  intro l
  induction l with
  | nil=>intro m _; exact .nil
  | cons x l ih =>
   intro m hx
   obtain ⟨t,e⟩:=hx 0 x rfl
   have:=ih (m+1) λi v hv=>by
    obtain ⟨t,e⟩:=hx (i+1) v hv
    w_pre p8
   rw[Bm,List.range'_succ,Ao]
   rw[e]
   exact .cons _ t this
 have:=gen acc.toList 0 λi v hv=>by
  obtain ⟨t,e⟩:=h i v (by simpa using hv)
  w_pre p8
 rw[List.range_eq_range']
 have e:acc.toList.length=n:=by simpa using hs
 rw[e] at this
 exact this
section
variable{X:Cx}
def FE:List V->Hp->VK->Prop:=λxs H Q=>∃j:Int,xs=[.int j]/\∀r,H r=none->Q (.ref r) (upd H r (zY r j))
theorem kH:Mc X (.type "range") FE:=by
 w_pre x6
 obtain ⟨j,rfl,q⟩:=h
 obtain ⟨u,rfl,t,rfl⟩:=vals1 r
 refine call_range_1 ⟨.ref s.heap.objs.size,_,I.laid (a:=s.heap.objs.size) (o:=zY s.heap.objs.size j) (t':=s.toks+1+1) (λb o e=>Ah _ e) (Aj _) ?_,rfl,q _ (I.hok.fresh (Aj _))⟩
 refine ⟨⟨_,_,_,Ap _ rfl⟩,⟨_,Ap _ rfl⟩,λh1 h2 ⟨t,u,v,e⟩ k=>⟨t,u,v,k _ e⟩⟩
def EB:List V->Hp->VK->Prop:=λxs H Q=>∃(r:Addr) (j:Int),xs=[.ref r]/\H r=some (zY r j)/\0<=j/\j<=1000/\∀l,H l=none->Q (.ref l) (upd H l (.tup (((Cd j.toNat).map λn:Nat=>(n:Int)).map V.int)))
theorem kI(hc:X.calm=true):Mc X (.type "tuple") EB:=by
 w_pre x6
 obtain ⟨p,j,rfl,hp,j0,j1,q⟩:=h
 w_pre n4
 obtain ⟨⟨t,u,v,hr⟩,_,_⟩:=(show Hl X.prog X.w H s.heap p (zY p j) from I.hok p _ hp)
 have hn:Kz 0 j 1=((j.toNat:Nat):Int):=by rw[rangeSize_one]; split <;> omega
 refine callType_codes (Q₁:=λobj s₁=>s₁.TypeIs obj "tuple" /\ EP X pins σ Q obj s₁) F.called_tuple (F.typeCall_tuple_1 _) F.entry_object_init
  (Yi (prog:=X.prog) (w:=X.w) (E:=X.xe) (Q₁:=λobj s₁=>s₁.TypeIs obj "tuple" /\ EP X pins σ Q obj s₁) (A:=X.A.in1) (show X.A.in1.handled=none from I.ok.hd hc) hr (small_one (by omega) (by omega) (by omega) (by omega)) hn (by omega) λh' tk acc hk hacc=>⟨⟨_,Ap _ rfl,rfl⟩,?_⟩) λobj s₁ h₁=>?_
 ·have I1:Inv X pins σ H { s with heap:=h',toks:=tk }:=I.kept hk
  have hv:Gf (((Cd j.toNat).map λn:Nat=>(n:Int)).map V.int) acc.toList:=by
   refine yY (dY ?_ ?_)
   ·exact hacc.1
   ·intro i v hv
    obtain ⟨t,e⟩:=hacc.2 i v hv
    w_pre p8
  refine ⟨.ref h'.objs.size,_,I1.laid (a:=h'.objs.size) (o:=.tup (((Cd j.toNat).map λn:Nat=>(n:Int)).map V.int)) (t':=tk) (λb o e=>Ah _ e) (Aj _) ⟨?_,acc.toList,hv,?_⟩,rfl,q _ (I1.hok.fresh (Aj _))⟩
  ·rw[Af,Af,Dh]; exact sz (by omega)
  ·have e:acc=acc.toList.toArray:=by simp
   rw[e]
   exact IsTup.new _ _
 ·exact ⟨h₁.1,F.args_object_init_2 obj _,object_init_meets F.called_tuple.init.lookup F.called_tuple.made (by decide) X.prog X.w X.A.in1 _ s₁ ⟨h₁.1,rfl,h₁.2⟩⟩
end
end Nd
namespace DL
open PySem PySem.Spec PyProof.Rows L2 Nd
def HD(K:PySem.W.Frag)(pf:PF):Sp:=λus H Q _=>∃(As:List Ent) (n:Nat) (ds:List Ae) (R:Ae->Prop) (C:List Addr),As.map Ent.v=us.map some/\(∀e∈As,Gr K H n e)/\datas (As.map Ent.x)=some ds/\pf ds R/\(∀a∈C,H a≠none/\∀e∈As,a∉e.F) /\
 ∀v d F H',R d->RdF K H' v d F->(∀a∈F,a∉C)->Sx H H'->Q v H'
def retA(R:Ae->Prop):DEnds where
 nx:=λ_=>R .none
 rt:=λx _=>∃m d,x=.dat m d/\m≠.pk/\R d
section
variable{K:PySem.W.Frag}{H0 H H':Hp}{X:Addr->Prop}{n:Nat}{E S T:List Ent}
theorem At.pushS(h:At K H0 X n E H){v:V}{d:Ae}{F:List Addr}(r:RdF K H v d F)(fr:∀f∈E,∀a∈cells f,a∉F):At K H0 X n (⟨some v,.dat .sh d,F⟩::E) H :=
 h.push ⟨v,rfl,r,λz=>(nomatch z),λz=>(nomatch z)⟩ (λf hf=>⟨λ_ a ha=>(nomatch ha),λ_ a ha=>fr f hf a ha⟩) λa ha=>(nomatch ha)
end
section
variable{P:Bl}{w:World}{K:PySem.W.Frag}{mg:Str->Option Value}{base:Heap}
theorem HJ{As:List Ent}{k:Nat}:∀e∈As.map eD++Jq k,∀a∈e.F,∃f∈As,a∈f.F:=λe he a ha=>by
 w_pre w7
 ·obtain ⟨f,hf,rfl⟩:=Df.mp he
  refine ⟨f,hf,?_⟩
  obtain ⟨v,x,F⟩:=f
  cases x <;> exact ha
 ·rw[(Hu.mp he).2] at ha
  exact nomatch ha
theorem A4{x qual:Str}{st:Stmt}{f:Addr}{fd:Dc}{N ps:List Str}{k:Nat}{pf:PF}{db:DB}(F:Fun K x qual st f fd)(S:FnScope N ps (Cf st))(hb:∀(cdv:Value) (A:Ce) (outer:List Env) (s:Ai) (H:Hp) (E:XK),Room k (A.deeper (Sv qual (Cf st) s.heap.objs.size f cdv))->aY (Qo La P w K mg base N qual (Cf st) f cdv A outer s H E).nox (Kt st) db)(h:∀ds R,pf ds R->ds.length=ps.length/\db (retA R) ⟨args0 ds (N.length - ps.length),0⟩):FnOk P w K mg base La (k+1) f fd ps (HD K pf):=by
 w_pre i7
 ·obtain ⟨As,n,ds,R,C,eu,ok,q,hp,_⟩:=z
  w_pre g0
 ·obtain ⟨As,n,ds,R,C,eu,ok,q,hp,hG,k1⟩:=z
  w_pre t0
  let H0:Hp:=λa=>open Classical in if a∈C then none else H a
  have h0n:∀{a},a∈C->H0 a=none:=λz=>if_pos z
  have h0s:∀{a},a∉C->H0 a=H a:=λz=>if_neg z
  -- what holds at the end
  have ends:∀{E':List Ent} {n':Nat} {H':Hp},At K H0 (λ_=>False) n' (E'++[⟨none,.grd H,C⟩]) H'->Sx H H':=λ{E' n' H'} hA b o e=>by
   by_cases hb:b∈C
   ·obtain ⟨o',g1,g2⟩:=hA.ok _ (Ag _ Ab) b hb
    rw[e] at g1
    cases g1
    exact g2
   ·exact hA.same b o (λz=>z) (by rw[h0s hb]; exact e)
  refine ⟨_,hb cdv A outer s H E hr,H0,λ_=>False,As.map eD++Jq (N.length - ps.length),[⟨none,.grd H,C⟩],⟨args0 ds (N.length - ps.length),0⟩,retA R,?_,?_,λe z=>?_,?_,hd,λδ' S' H' e1 hA p=>?_,λx δ' v F' S' H' e1 hA p=>?_,λ_ _ _ _ _ p=>p.elim,λ_ _ _ _ _ p=>p.elim⟩
  w_pre h1
  ·rw[Al.mp z]; rfl
  ·have hs:=iG q (N.length - ps.length)
   have hF:=HJ (As:=As) (k:=N.length - ps.length)
   have gF:∀e∈As.map eD++Jq (N.length - ps.length),∀a∈C,a∉e.F:=λe he a ha z=>by
    obtain ⟨f,hf,zf⟩:=hF e he a z
    exact (hG _ ha).2 f hf zf
   refine ⟨λe he=>?_,Cr.mpr ⟨Tw λa ha b hb'=>⟨λhq c hc=>?_,λhq c hc=>?_⟩,Ey _ _,λa ha b hb'=>⟨λhq c hc=>?_,λhq c hc=>?_⟩⟩,λe he a ha=>?_,λb o _ e=>?_,λb o e=>?_,λb hb=>hb.elim⟩
   ·rcases Aw.mp he with he | he
    w_pre k0
    ·rw[Al.mp he]
     intro a ha
     have:=(hG _ ha).1
     cases q:H a with
     | none=>exact absurd q this
     | some o=>exact ⟨o,by first | rfl | exact q,by first | rfl | exact q⟩
   w_pre q4
   ·rw[(hs a ha).1] at hc; cases hc
   ·rw[Al.mp hb'] at hc
    exact gF a ha c hc
   ·rcases Aw.mp he with he | he
    w_pre v8
    ·rw[Al.mp he] at ha
     exact .inl (h0n ha)
   ·by_cases hb:b∈C
    ·rw[h0n hb] at e; cases e
    ·rw[h0s hb] at e; exact e
   ·by_cases hb:b∈C
    ·rw[h0n hb] at e; cases e
    ·rw[h0s hb] at e; exact ⟨o,e⟩
  ·exact k1 .non .none [] H' p .non (λ_ z=>(nomatch z)) (ends hA)
  ·obtain ⟨m,d,rfl,hm,r⟩:=p
   obtain ⟨u,e2,rd,_⟩:=hA.ok _ mem_mid
   cases e2
   have hA2:At K H0 (λ_=>False) δ'.n ((S'++[⟨some v,.dat m d,F'⟩])++[⟨none,.grd H,C⟩]) H':=by rw[Bt]; exact hA
   refine k1 v d F' H' r rd (λa ha=>?_) (ends hA2)
   have sp:=(Cr.mp hA2.sep).2.2 _ (Ag _ Ab) _ Ab
   exact λz=>sp.2 (.inr rfl) a z ha
end
def B5(pf:PF)(da:DA):DE:=λδ P=>da δ λxs δ1=>noPk xs=true/\match datas xs with
 | some ds=>pf ds λd=>P (.dat .sh d) δ1
 | none=>False
theorem mD:∀{As:List Ent},noPk (As.map Ent.x)=true->∀e∈As,Pw e.x=false
 | [],_,e,he=>nomatch he
 | ⟨v,x,F⟩::As,h,e,he=>by
  rw[Ao] at h
  have hh:Pw x=false/\noPk (As.map Ent.x)=true:=by
   cases x with
   | dat m d=>cases m <;> first | exact ⟨rfl,h⟩ | (simp [noPk] at h)
   | _=>exact ⟨rfl,by simpa [noPk] using h⟩
  w_pre d7
  ·exact hh.1
  ·exact mD hh.2 e he
section
variable{X:Cx}{CX:wA}{k:Nat}{f:Addr}{fd:Dc}{ps:List Str}{pf:PF}{E:XK}{x:Str}{p pos:Pos}{e:Expr}{es:List Expr}{da:DA}
theorem o8(F:FnOk X.prog X.w X.K X.mg X.base CX k f fd ps (HD X.K pf))(hr:Room k X.A)(hg:Gl X x)(hm:X.mg x=some (.ref f))(hk:PySem.W.keepIn X.K (.ref f)=true)(hb:Binds X.K fd ps [])(hx:Rr CX X E)(ha:oS X (e::es) da)(hdb:(x == ("__debug__" : Str))=false:=by decide)(he:Bn (e::es) X.env=(false,eval e X.env)::Bn es X.env:=by rfl)(hpl:(Hj pos (Bn es X.env)).any (·.1)=false:=by rfl):Fm X (.Call (.Name x p) (e::es) [] pos) (B5 pf da):=by
 w_pre w0
 obtain ⟨np,p⟩:=p
 cases q:datas (As.map Ent.x) with
 | none=>rw[q] at p; exact p.elim
 | some ds =>
  rw[q] at p
  rw[Ec]
  have hAs:=mD np
  have hE:=hA'.dropL
  refine ⟨As,δ'.n,ds,_,(S'++T).flatMap cells,eu,λe he=>hA'.ok e (Ag _ (Ak _ he)),q,p,λa ha=>?_,λv d F H'' r rd fr s=>?_⟩
  ·obtain ⟨g,hg1,hg2⟩:=Nr.mp ha
   refine ⟨λz=>?_,λe he=>?_⟩
   ·obtain ⟨o,q⟩:=(hE.ok g hg1).dom a (Gs _ _ hg2)
    rw[z] at q; cases q
   ·rcases Cr.mp hA'.sep with ⟨_,hp2,hp⟩
    rcases Aw.mp hg1 with hg1 | hg1
    ·exact (hp g hg1 e (Ak _ he)).1 (.inl (hAs e he)) a hg2
    ·exact ((Cr.mp hp2).2.2 e he g hg1).2 (.inl (hAs e he)) a hg2
  ·refine kk _ δ' v F S' H'' e1 e2 (((hE.grow s (Aj _)).pushS rd λf hf a ha z=>fr a z (List.mem_flatMap.mpr ⟨f,hf,ha⟩)).tomid) r
end
def GH(da:DA):DE:=λδ P=>da δ λxs δ1=>match xs with
 | [.dat _ (.tuple ds)]=>∃ns:List Int,ds=ns.map Ax/\(∀x∈ns,0<=x/\x<60)/\P (.dat .ow (.list ((On ns).map Ax))) δ1
 | _=>False
section
variable{X:Cx}{p p2 pos pos2:Pos}{e:Expr}{da:DA}
theorem BU(hc:X.calm=true)(hg:Gl X "sorted")(hm:X.mg "sorted" = none)(hg2:Gl X "set")(hm2:X.mg "set" = none)(ha:oS X [e] da)(he:Bn [e] X.env=[(false,eval e X.env)]:=by rfl)(he2:Bn [.Call (.Name "set" p2) [e] [] pos2] X.env=[(false,eval (.Call (.Name "set" p2) [e] [] pos2) X.env)]:=by rfl):Fm X (.Call (.Name "sorted" p) [.Call (.Name "set" p2) [e] [] pos2] [] pos) (GH da):=by
 refine PE.imp (cA (Xa hc) hg hm (by decide +kernel) (Ia (Mv (cS hc) hg2 hm2 (by decide +kernel) ha (by decide) (by decide) he rfl) Np he2) (by decide) (by decide) he2 rfl) λσ H Q h=>?_
 w_pre y1
 ·obtain ⟨v,F,rfl,hA2⟩:=Jh eu hA' ex
  obtain ⟨ns,rfl,hb,pp⟩:=p
  obtain ⟨a,xs,rfl,ha,ra,hz⟩:=(hA2.told mem_mid).tup_inv
  w_pre e9
  refine ⟨a,ns,CQ,rfl,Ta.of ha,by decide,λx hx=>Ws (hb x hx).1 (hb x hx).2,λq hq=>?_⟩
  refine ⟨q,ns,rfl,Ds,λr us nr nd pw mem=>?_⟩
  rw[iO (Yq nd pw) mem]
  have s1:=Fe hq (Wo X.w q ns)
  exact k _ δ' _ _ S' _ e1 e2 ((hA2.drop.grow s1 (Aj _)).newI (RdFs.ints _) (Nf _) (by rw[Af]; exact sz (by have:=kY hb; omega)) nr .ow) pp
 ·exact p.elim
end
def Pa(j:Nat):List Int:=(Cd j).map λn:Nat=>(n:Int)
def GW(x:DV)(δ:DS)(P:DV->DS->Prop):Prop:=match x with
 | .dat _ (.int j)=>0<=j/\j<=1000/\P (.dat .ow (Br (Pa j.toNat))) δ
 | _=>False
def JG(de:DE):DE:=λδ P=>de δ λx δ1=>GW x δ1 P
section
variable{X:Cx}{p p2 pos pos2:Pos}{e:Expr}{de:DE}
theorem wN(hc:X.calm=true)(hg:Gl X "tuple")(hm:X.mg "tuple" = none)(hg2:Gl X "range")(hm2:X.mg "range" = none)(ha:Fm X e de)(he:Bn [e] X.env=[(false,eval e X.env)]:=by rfl)(he2:Bn [.Call (.Name "range" p2) [e] [] pos2] X.env=[(false,eval (.Call (.Name "range" p2) [e] [] pos2) X.env)]:=by rfl):Fm X (.Call (.Name "tuple" p) [.Call (.Name "range" p2) [e] [] pos2] [] pos) (JG de):=by
 refine PE.imp (Mv (kI hc) hg hm (by decide +kernel) (Ia (Mv kH hg2 hm2 (by decide +kernel) (Ia ha Np he) (by decide) (by decide) he rfl) Np he2) (by decide) (by decide) he2 rfl) λσ H Q h=>?_
 w_pre g4
 unfold GW at p
 split at p
 ·rename_i m j
  obtain ⟨j0,j1,p⟩:=p
  obtain ⟨rfl,_⟩:=(hA'.told mem_mid).int_inv
  refine ⟨j,rfl,λr nr=>⟨r,j,rfl,Ds,j0,j1,λl nl=>?_⟩⟩
  have s1:=Fe nr (zY r j)
  have s2:=Fe nl (.tup ((Pa j.toNat).map V.int))
  refine k _ δ' _ _ S' _ e1 e2 (((hA'.drop.grow s1 (Aj _)).grow s2 (Aj _)).pushI (RdF.tup Ds ?_ (RdFs.ints _))) p
  rw[Af]
  unfold Pa
  rw[Af,Dh]
  exact kD (by omega)
 ·exact p.elim
end
abbrev PX:=List Ae->(Ae->Prop)->(Addr->Prop)->Prop
end DL
namespace Nd
open PySem PySem.Spec PyProof.Rows L2
section
variable{X:Cx}
def BO(K:PySem.W.Frag)(J:It)(js:List Nat)(wi2:TI)(te:TE)(σ:L2.St)(H1:Hp)(Q:VK):Prop:=∀D,H1 D=none->∃W:Nat->Nat->Hp->Prop,(∃m,W 0 m (upd H1 D (.lst [])))/\∀i m H,W i m H ->
 (J.stop i H/\Q (.ref D) H)\/(J.go i H/\∀x H',J.yld i H x H'->∃(t:Addr) (w1 w2:V),x=.ref t/\Ta K H' t [w1,w2]/\∀o:Option V,wi2 (some w1::some w2::o::Ei σ js) H' λJ2 H2=>∃W2:Nat->Nat->Hp->Prop,(∃m2,W2 0 m2 H2)/\∀i2 m2 H3,W2 i2 m2 H3 ->
  (J2.stop i2 H3/\∃m',m'<m/\W (i+1) m' H3)\/(J2.go i2 H3/\∀y H4,J2.yld i2 H3 y H4->te (some w1::some w2::some y::Ei σ js) H4 λz H5=>∃acc,H5 D=some (.lst acc)/\acc.length<Aq/\∃m2',m2'<m2/\W2 (i2+1) m2' (upd H5 D (.lst (acc++[z])))))
def p9(K:PySem.W.Frag)(wi:TI)(js:List Nat)(wi2:TI)(te:TE):TE:=λσ H Q=>wi σ H λJ H1=>BO K J js wi2 te σ H1 Q
theorem xZ{elt iter iter2:Expr}{x xb x2:Str}{px pxb px2 pt pos:Pos}{kt:Nat}{scope:Scope}{cl:List (Str×Addr)}{ys:List Str}{js:List Nat}{wi wi2:TI}{te:TE}(C:CompScope X scope cl x ys js)(ownb:bS scope xb)(own2:bS scope x2)(nd2:(x::xb::x2::ys).Nodup)(hc:X.calm=true)(hi:PI X (.Tuple [.Name x px,.Name xb pxb] kt pt) iter wi)(hi2:∀fp s H,PI (Dm X scope cl (x::xb::x2::ys) fp s H) (.Name x2 px2) iter2 wi2)(he:∀fp s H,PE (Dm X scope cl (x::xb::x2::ys) fp s H) elt te)(hs:∀x,Cz iter X.env x=pure x:=by intro _; rfl)(hs2:∀fp s H v,Cz iter2 (Dm X scope cl (x::xb::x2::ys) fp s H).env v=pure v:=by intro _ _ _ _; rfl):PE X (.ListComp elt [⟨.Tuple [.Name x px,.Name xb pxb] kt pt,iter,[],0⟩,⟨.Name x2 px2,iter2,[],0⟩] scope pos) (p9 X.K wi js wi2 te):=by
 w_pre d
 have I4:∀tk,Inv (Dm X scope cl (x::xb::x2::ys) fp s3 (upd H2 s2.heap.objs.size (.lst []))) [] (none::none::none::Ei σ js) (upd H2 s2.heap.objs.size (.lst [])) { s3 with heap:=h4,toks:=tk }:=λtk=>Ph (pre:=[x,xb,x2]) C I3 f3 o3 hns4 keep4 new4
 have st4:tn 0 h4:=T.keep 0 _ _ st3 λb hb o q=>keep4 b o q
 generalize hX':Dm X scope cl (x::xb::x2::ys) fp s3 (upd H2 s2.heap.objs.size (.lst []))=X' at I4
 have eP:X'.prog=X.prog:=by rw[<- hX']; rfl
 have eW:X'.w=X.w:=by rw[<- hX']; rfl
 have eK:X'.K=X.K:=by rw[<- hX']; rfl
 have eA:X'.A=X.A:=by rw[<- hX']; rfl
 have eC:X'.calm=true:=by rw[<- hX']; exact hc
 have stat:∀{H':Hp},(∀b∈fp,H' b=none)->∀b∈fp,Ml X' [] H' b:=λ{H'} hn b hb=>by
  w_pre v1
 have loop:∀s5:Ai,s5={ s3 with heap:=h4,toks:=s3.toks+([]:List (Str×Value)).length } ->
   Hb (model X.prog X.w) X.A (.compLoop (.ListComp elt [⟨.Tuple [.Name x px,.Name xb pxb] kt pt,iter,[],0⟩,⟨.Name x2 px2,iter2,[],0⟩] scope pos) 0 (.ref it) (.ref s2.heap.objs.size) (Vj scope (Ek (s3.heap.objs.size+1) scope.names cl) s3.heap.objs.size X.env))
    (compPost (model X.prog X.w) X.A X.xe none (EP X pins σ Q) (.ref s2.heap.objs.size) s3.heap.objs.size) s5:=by
  rintro s5 rfl
  refine mF (λv=>hs2 fp s3 (upd H2 s2.heap.objs.size (.lst [])) v) (λn s'=>∃i o ob o2 H',Inv X' [] (o::ob::o2::Ei σ js) H' s'/\tn i s'.heap/\(∀b∈fp,H' b=none)/\W i n H') ?_ m0
   ⟨0,none,none,none,_,I4 _,st4,λb hb=>(f3 b hb).1,w0⟩
  rintro n s6 ⟨i,o,ob,o2,H6,I6,st6,fr6,w6⟩
  w_pre b
  ·have hit:=T.item X' eP eW eK eC i [] s6 _ H6 (λ_ _=>False) I6 (stat fr6) st6 go
   rw[eA] at hit
   refine Gb hit λr s7 ⟨u,hr,h7⟩=>?_
   subst hr
   refine Gb h7 λ_ s8 ⟨y,H8,I8,r8,y8,st8,fr8⟩=>?_
   have I8':=I8.pinned (stat fr8) (T.obj _ _ st8)
   obtain ⟨tp,w1,w2,ey,hsq,stp0⟩:=step y H8 y8
   have stp:=stp0 o2
   have again:∀{H9:Hp} {s9:Ai} {m':Nat} {o9:Option V},Inv X' ([]++Pb fp s8.heap) (some w1::some w2::o9::Ei σ js) H9 s9->m'<n->W (i+1) m' H9->∃m,m<n/\∃i o ob o2 H',Inv X' [] (o::ob::o2::Ei σ js) H' s9/\tn i s9.heap/\(∀b∈fp,H' b=none)/\W i m H':=λ{H9 s9 m' o9} I9 hm w9=>by
    refine ⟨m',hm,i+1,some w1,some w2,o9,H9,I9.unpinned,T.keep _ _ _ st8 λb hb o e=>(I9.pin (b,o) (Ag _ (Ag _ (Ga hb e)))).1,λb hb=>?_,w9⟩
    obtain ⟨o,e,_⟩:=T.obj _ _ st8 b hb
    exact (I9.pin (b,o) (Ag _ (Ag _ (Ga hb e)))).2.1
   subst hX'
   have g1:PG (Dm X scope cl (x::xb::x2::ys) fp s3 (upd H2 s2.heap.objs.size (.lst []))) (.Tuple [.Name x px,.Name xb pxb] kt pt) (N5 X.K 2 (cT (Sr 0) (cT (Sr 1) M9))) :=
    jG (X:=Dm X scope cl (x::xb::x2::ys) fp s3 (upd H2 s2.heap.objs.size (.lst []))) hc (Pf (Me (i:=0) (x:=x) nd2 rfl (Ol C.own) (Rp C.own)) (Pf (Me (i:=1) (x:=xb) nd2 rfl (Ol ownb) (Rp ownb)) aH))
   refine Gb (g1 _ s8 _ H8 y u (λσ' H'=>σ'=some w1::some w2::o2::Ei σ js/\H'=H8) I8' r8 ⟨tp,[w1,w2],ey,hsq,rfl,_,_,rfl,_,_,rfl,rfl,rfl,rfl⟩) λ_ s9 ⟨σ9,H9,I9,e9,e9'⟩=>?_
   subst e9 e9'
   refine Gb (hi2 fp s3 _ _ s9 _ _ _ I9 stp) λv2 s10 h10=>Gb h10 λitv2 s11 h11=>?_
   obtain ⟨it2,fp2,tn2,J2,H11,e11,I11,T2,st11,f11,W2,⟨m20,w20⟩,turn2⟩:=h11
   subst e11
   have stat2:∀{H':Hp},(∀b∈fp2,H' b=none)->∀b∈fp2,Ml (Dm X scope cl (x::xb::x2::ys) fp s3 (upd H2 s2.heap.objs.size (.lst []))) ([]++Pb fp s8.heap) H' b:=λhn b hb=>⟨hn b hb,(f11 b hb).2⟩
   have loop2:Hb (model X.prog X.w) X.A (.compLoop (.ListComp elt [⟨.Tuple [.Name x px,.Name xb pxb] kt pt,iter,[],0⟩,⟨.Name x2 px2,iter2,[],0⟩] scope pos) 1 (.ref it2) (.ref s2.heap.objs.size) (Vj scope (Ek (s3.heap.objs.size+1) scope.names cl) s3.heap.objs.size X.env))
     (λr s6=>match r with | .ok _=>∃m,m<n/\∃i o ob o2 H',Inv (Dm X scope cl (x::xb::x2::ys) fp s3 (upd H2 s2.heap.objs.size (.lst []))) [] (o::ob::o2::Ei σ js) H' s6/\tn i s6.heap/\(∀b∈fp,H' b=none)/\W i m H' | .error _=>False) s11:=by
    refine kR (λn2 s'=>∃i2 o2 H',Inv (Dm X scope cl (x::xb::x2::ys) fp s3 (upd H2 s2.heap.objs.size (.lst []))) ([]++Pb fp s8.heap) (some w1::some w2::o2::Ei σ js) H' s'/\tn2 i2 s'.heap/\(∀b∈fp2,H' b=none)/\W2 i2 n2 H') ?_ m20
     ⟨0,o2,H11,I11,st11,λb hb=>(f11 b hb).1,w20⟩
    rintro n2 s12 ⟨i2,p2,H12,I12,st12,fr12,w12⟩
    rcases turn2 i2 n2 H12 w12 with ⟨stop2,m',hm',w'⟩ | ⟨go2,step2⟩
    ·have hd:=T2.done _ rfl rfl rfl hc i2 _ s12 _ H12 (λ_ _=>False) I12 (stat2 fr12) st12 stop2
     refine Gb hd λr s13 ⟨hr,I13⟩=>?_
     subst hr
     exact again I13 hm' w'
    ·have hit2:=T2.item _ rfl rfl rfl hc i2 _ s12 _ H12 (λ_ _=>False) I12 (stat2 fr12) st12 go2
     refine Gb hit2 λr s13 ⟨u2,hr,h13⟩=>?_
     subst hr
     refine Gb h13 λ_ s14 ⟨z,H14,I14,r14,y14,st14,fr14⟩=>?_
     have I14':=I14.pinned (stat2 fr14) (T2.obj _ _ st14)
     refine Gb (Me (i:=2) (x:=x2) (pos:=px2) nd2 rfl (Ol own2) (Rp own2) _ s14 _ H14 z u2 (λσ' H'=>σ'=some w1::some w2::some z::Ei σ js/\H'=H14) I14' r14 ⟨rfl,rfl⟩) λ_ s15 ⟨σ15,H15,I15,e15,e15'⟩=>?_
     subst e15 e15'
     refine Gb (he fp s3 _ _ s15 _ _ _ I15 (step2 z H15 y14)) λzv s16 ⟨vz,H16,I16,r16,q16⟩=>?_
     obtain ⟨acc,ha,hz,m2',hm2,w16⟩:=q16
     refine Gb (Ow _ s16 _ H16 (.ref s2.heap.objs.size) [vz] (.ref s2.heap.objs.size) [zv] (λ_ H'=>H'=upd H16 s2.heap.objs.size (.lst (acc++[vz]))) I16 rfl (.cons r16 .nil) ⟨_,acc,vz,rfl,rfl,ha,hz,rfl⟩) λ_ s17 ⟨_,H17,I17,_,e17⟩=>?_
     subst e17
     refine ⟨m2',hm2,i2+1,some z,_,I17.unpinned,T2.keep _ _ _ st14 λb hb o e=>(I17.pin (b,o) (Ag _ (Ag _ (Ga hb e)))).1,λb hb=>?_,w16⟩
     obtain ⟨o,e,_⟩:=T2.obj _ _ st14 b hb
     exact (I17.pin (b,o) (Ag _ (Ag _ (Ga hb e)))).2.1
   exact dS loop2 (T2.self X.A 0 _ _ _ st11 loop2)
 w_pre l7
end
end Nd
namespace DL
open PySem PySem.Spec PyProof.Rows L2 Nd
def Y1(b:Bool)(di:DI)(js:List Nat)(di2:DI)(de:DE):DE:=λδ P=>di δ λm ds δ1=>∃I:Nat->List Ae->Nat->Prop,I 0 [] δ1.n /\
 (∀i d acc n,ds[i]? = some d->I i acc n->di2 ⟨.dat m d::.un::frD δ1.sl js,n⟩ λm2 es δ2=>∃I2:Nat->List Ae->Nat->Prop,I2 0 acc δ2.n /\
  (∀i2 e acc' n',es[i2]? = some e->I2 i2 acc' n'->acc'.length+1<=Aq/\Ls b My de ⟨.dat m d::.dat m2 e::frD δ1.sl js,n'⟩ (λz n2=>I2 (i2+1) (acc'++[z]) n2) (λ_=>False)) /\
  ∀acc' n',I2 es.length acc' n'->I (i+1) acc' n') /\
 ∀acc n,I ds.length acc n->P (.dat (Ss b) (.list acc)) ⟨δ1.sl,n⟩
def pC(b:Bool)(di:DI)(js:List Nat)(di2:DI)(de:DE):DE:=λδ P=>di δ λm ds δ1=>∃I:Nat->List Ae->Nat->Prop,I 0 [] δ1.n /\
 (∀i d acc n,ds[i]? = some d->I i acc n->∃d1 d2,d=.tuple [d1,d2]/\di2 ⟨.dat m d1::.dat m d2::.un::frD δ1.sl js,n⟩ λm2 es δ2=>∃I2:Nat->List Ae->Nat->Prop,I2 0 acc δ2.n /\
  (∀i2 e acc' n',es[i2]? = some e->I2 i2 acc' n'->acc'.length+1<=Aq/\Ls b My de ⟨.dat m d1::.dat m d2::.dat m2 e::frD δ1.sl js,n'⟩ (λz n2=>I2 (i2+1) (acc'++[z]) n2) (λ_=>False)) /\
  ∀acc' n',I2 es.length acc' n'->I (i+1) acc' n') /\
 ∀acc n,I ds.length acc n->P (.dat (Ss b) (.list acc)) ⟨δ1.sl,n⟩
theorem gU{v:Option V}{m:Md}{d:Ae}{F:List Addr}(h:m=.sh\/m=.pk):al ⟨v,.dat m d,F⟩=⟨v,.dat m d,F⟩:=by
 rcases h with rfl | rfl <;> rfl
section
variable{K:PySem.W.Frag}
theorem FR{b:Bool}{di di2:DI}{js:List Nat}{de:DE}:∀σ H Q,LE K (Y1 b di js di2 de) σ H Q->X6 (LI K di) js (LI K di2) (LE K de) σ H Q:=by
 w_pre p
 ·refine .inr ⟨it.go H n i hid_ok hlt,λx H' y o=>?_⟩
  w_pre e4
  have hA4:At K H0 Y n (⟨some (.ref D),.acc acc,D::G⟩::⟨some x,.dat m d,F⟩::(S1++(hid++T))) H':=(hA3.mid).perm (Dk _ _ _)
  have view:∀{n:Nat} {H:Hp} {e0:Ent} {hid2:List Ent} (o2:Ent),At K H0 Y n (o2::e0::⟨some x,.dat m d,F⟩::(S1++hid2)) H->At K H0 Y n ((⟨some x,.dat m d,F⟩::o2::Va S1 js)++e0::⟨some x,.dat m d,F⟩::(S1++hid2)) H:=λ{n H e0 hid2} o2 h=>by
   have g1:=At.view (S:=S1) h (λe he=>Ad _ (Ad _ (Ad _ (Ak _ he)))) js
   have g2:=g1.view1 (e:=⟨some x,.dat m d,F⟩) (Ag _ (Ad _ (Ad _ Ab)))
   rw[gU it.md] at g2
   refine g2.perm ?_
   rw[Do,Do]
   exact (Dj).cons _
  have hS6:∀(o2:Ent) (n:Nat),Sl (⟨some x,.dat m d,F⟩::o2::Va S1 js) ⟨.dat m d::o2.x::frD δ1.sl js,n⟩:=λo2 n=>by
   unfold Sl
   rw[Ao,Ao,bH e2]
  have hv:∀(o2:Ent),vs (⟨some x,.dat m d,F⟩::o2::Va S1 js)=some x::o2.v::Ei (vs S1) js:=λo2=>by
   rw[<- cI]
   rfl
  have hB:=view (hid2:=hid++T) ⟨o,.un,[]⟩ hA4.blank
  refine ⟨H0,Y,_,_,⟨.dat m d::.un::frD δ1.sl js,n⟩,_,hv ⟨o,.un,[]⟩,hS6 ⟨o,.un,[]⟩ n,hB,hs i d acc n h1 hI,λm2 es δ2 J2 hid2 S2 H2 f1 f2 hA5 it2 hz2 p2=>?_⟩
  obtain ⟨I2,g0,gs,gf⟩:=p2
  have hA6:At K H0 Y δ2.n (⟨some (.ref D),.acc acc,D::G⟩::(⟨some x,.dat m d,F⟩::(S1++(hid2++(hid++T))))) H2:=by
   w_pre k1
   exact gK _ _ _
  refine ⟨λi2 q2 H=>q2=es.length - i2/\i2<=es.length/\∃acc n G,(b=true->G=[])/\At K H0 Y n (⟨some (.ref D),.acc acc,D::G⟩::(⟨some x,.dat m d,F⟩::(S1++(hid2++(hid++T))))) H/\I2 i2 acc n,⟨es.length,by simp,Di _,acc,δ2.n,G,hG,hA6,g0⟩,?_⟩
  w_pre p9
  have hid2_ok:∀e∈hid2,Gr K H3 n2 e:=λe he=>hA7.ok e (Ad _ (Ad _ (Ag _ (Ak _ he))))
  by_cases hlt2:i2<es.length
  ·refine .inr ⟨it2.go H3 n2 i2 hid2_ok hlt2,λy2 H4 yy=>?_⟩
   w_pre x4
   have hA8:At K H0 Y n2 ((⟨some (.ref D),.acc acc2,D::G2⟩::⟨some x,.dat m d,F⟩::S1)++⟨some y2,.dat m2 d2,F2⟩::(hid2++(hid++T))) H4:=At.item (S:=⟨some (.ref D),.acc acc2,D::G2⟩::⟨some x,.dat m d,F⟩::S1) hA7 s2 k2 k3 it2.md it2.hd it2.np
   have hA9:=view (hid2:=hid2++(hid++T)) ⟨some y2,.dat m2 d2,F2⟩ hA8.mid
   have z:=Xj (dc:=My) (N1:=λ_=>False) (N2:=λv H5=>∃acc,H5 D=some (.lst acc)/\acc.length<Aq/\∃m2',m2'<es.length - i2/\(m2'=es.length - (i2+1)/\i2+1<=es.length/\∃acc3 n G,(b=true->G=[])/\At K H0 Y n (⟨some (.ref D),.acc acc3,D::G⟩::(⟨some x,.dat m d,F⟩::(S1++(hid2++(hid++T))))) (upd H5 D (.lst (acc++[v])))/\I2 (i2+1) acc3 n)) (hS6 ⟨some y2,.dat m2 d2,F2⟩ n2) hG2 hA9 st lz (λ_ _ _ z=>z) (λe n' v H5 G' hG' hA10 p=>?_)
   w_pre u
  ·have e:i2=es.length:=by omega
   w_pre u4
   refine hA7.sub (List.Sublist.cons₂ _ (Ve _ ?_))
   exact (Ci S1).append (Bk hid2 _)
 w_pre z
theorem zW{b:Bool}{di di2:DI}{js:List Nat}{de:DE}:∀σ H Q,LE K (pC b di js di2 de) σ H Q->p9 K (LI K di) js (LI K di2) (LE K de) σ H Q:=by
 w_pre p
 ·refine .inr ⟨it.go H n i hid_ok hlt,λx H' y=>?_⟩
  obtain ⟨s1,d,F,h1,h2,h3⟩:=it.yld H n i x H' hid_ok hlt y
  obtain ⟨d1,d2',rfl,hst⟩:=hs i d acc n h1 hI
  obtain ⟨tt,xs0,rfl,ht,rt,_⟩:=h2.tup_inv
  cases rt with
  | @cons w1 _ xs1 _ F1 _ r1 rt =>
  cases rt with
  | @cons w2 _ xs2 _ Fb G0 r2 rt =>
  cases rt
  refine ⟨tt,w1,w2,rfl,Ta.of ht,λo=>?_⟩
  have hA3:At K H0 Y n ((⟨some (.ref D),.acc acc,D::G⟩::S1)++⟨some w1,.dat m d1,F1⟩::(hid++T)) H':=At.item (S:=⟨some (.ref D),.acc acc,D::G⟩::S1) hA2 s1 r1 (λa ha=>h3 a (Ak _ ha)) it.md it.hd it.np
  have hA3':At K H0 Y n ((⟨some w1,.dat m d1,F1⟩::⟨some (.ref D),.acc acc,D::G⟩::S1)++(hid++T)) H':=hA3.mid
  have hA3'':At K H0 Y n ((⟨some w1,.dat m d1,F1⟩::⟨some (.ref D),.acc acc,D::G⟩::S1)++⟨some w2,.dat m d2',Fb⟩::(hid++T)) H':=At.item hA3' (Sx.refl _) r2 (λa ha=>h3 a (Ag _ (Ak _ ha))) it.md it.hd it.np
  have hA4:At K H0 Y n (⟨some (.ref D),.acc acc,D::G⟩::⟨some w1,.dat m d1,F1⟩::⟨some w2,.dat m d2',Fb⟩::(S1++(hid++T))) H':=(hA3''.mid).perm (((Dk _ _ _).trans ((Dk _ _ _).cons _)).trans (Dk _ _ _))
  have view:∀{n:Nat} {H:Hp} {e0:Ent} {hid2:List Ent} (o2:Ent),At K H0 Y n (o2::e0::⟨some w1,.dat m d1,F1⟩::⟨some w2,.dat m d2',Fb⟩::(S1++hid2)) H->At K H0 Y n ((⟨some w1,.dat m d1,F1⟩::⟨some w2,.dat m d2',Fb⟩::o2::Va S1 js)++e0::⟨some w1,.dat m d1,F1⟩::⟨some w2,.dat m d2',Fb⟩::(S1++hid2)) H:=λ{n H e0 hid2} o2 h=>by
   have g1:=At.view (S:=S1) h (λe he=>Ad _ (Ad _ (Ad _ (Ad _ (Ak _ he))))) js
   have g2:=g1.view1 (e:=⟨some w2,.dat m d2',Fb⟩) (Ag _ (Ad _ (Ad _ (Ad _ Ab))))
   rw[gU it.md] at g2
   have g3:=g2.view1 (e:=⟨some w1,.dat m d1,F1⟩) (Ad _ (Ag _ (Ad _ (Ad _ Ab))))
   rw[gU it.md] at g3
   refine g3.perm ?_
   rw[Do,Do,Do]
   exact ((Dj).cons _).cons _
  have hS6:∀(o2:Ent) (n:Nat),Sl (⟨some w1,.dat m d1,F1⟩::⟨some w2,.dat m d2',Fb⟩::o2::Va S1 js) ⟨.dat m d1::.dat m d2'::o2.x::frD δ1.sl js,n⟩:=λo2 n=>by
   unfold Sl
   rw[Ao,Ao,Ao,bH e2]
  have hv:∀(o2:Ent),vs (⟨some w1,.dat m d1,F1⟩::⟨some w2,.dat m d2',Fb⟩::o2::Va S1 js)=some w1::some w2::o2.v::Ei (vs S1) js:=λo2=>by
   rw[<- cI]
   rfl
  have hB:=view (hid2:=hid++T) ⟨o,.un,[]⟩ hA4.blank
  refine ⟨H0,Y,_,_,⟨.dat m d1::.dat m d2'::.un::frD δ1.sl js,n⟩,_,hv ⟨o,.un,[]⟩,hS6 ⟨o,.un,[]⟩ n,hB,hst,λm2 es δ2 J2 hid2 S2 H2 f1 f2 hA5 it2 hz2 p2=>?_⟩
  obtain ⟨I2,g0,gs,gf⟩:=p2
  have hA6:At K H0 Y δ2.n (⟨some (.ref D),.acc acc,D::G⟩::(⟨some w1,.dat m d1,F1⟩::⟨some w2,.dat m d2',Fb⟩::(S1++(hid2++(hid++T))))) H2:=by
   w_pre k1
   refine Dj.trans (Iy _ ?_)
   exact gK _ _ _
  refine ⟨λi2 q2 H=>q2=es.length - i2/\i2<=es.length/\∃acc n G,(b=true->G=[])/\At K H0 Y n (⟨some (.ref D),.acc acc,D::G⟩::(⟨some w1,.dat m d1,F1⟩::⟨some w2,.dat m d2',Fb⟩::(S1++(hid2++(hid++T))))) H/\I2 i2 acc n,⟨es.length,by simp,Di _,acc,δ2.n,G,hG,hA6,g0⟩,?_⟩
  w_pre p9
  have hid2_ok:∀e∈hid2,Gr K H3 n2 e:=λe he=>hA7.ok e (Ad _ (Ad _ (Ad _ (Ag _ (Ak _ he)))))
  by_cases hlt2:i2<es.length
  ·refine .inr ⟨it2.go H3 n2 i2 hid2_ok hlt2,λy2 H4 yy=>?_⟩
   w_pre x4
   have hA8:At K H0 Y n2 ((⟨some (.ref D),.acc acc2,D::G2⟩::⟨some w1,.dat m d1,F1⟩::⟨some w2,.dat m d2',Fb⟩::S1)++⟨some y2,.dat m2 d2,F2⟩::(hid2++(hid++T))) H4:=At.item (S:=⟨some (.ref D),.acc acc2,D::G2⟩::⟨some w1,.dat m d1,F1⟩::⟨some w2,.dat m d2',Fb⟩::S1) hA7 s2 k2 k3 it2.md it2.hd it2.np
   have hA9:=view (hid2:=hid2++(hid++T)) ⟨some y2,.dat m2 d2,F2⟩ hA8.mid
   have z:=Xj (dc:=My) (N1:=λ_=>False) (N2:=λv H5=>∃acc,H5 D=some (.lst acc)/\acc.length<Aq/\∃m2',m2'<es.length - i2/\(m2'=es.length - (i2+1)/\i2+1<=es.length/\∃acc3 n G,(b=true->G=[])/\At K H0 Y n (⟨some (.ref D),.acc acc3,D::G⟩::(⟨some w1,.dat m d1,F1⟩::⟨some w2,.dat m d2',Fb⟩::(S1++(hid2++(hid++T))))) (upd H5 D (.lst (acc++[v])))/\I2 (i2+1) acc3 n)) (hS6 ⟨some y2,.dat m2 d2,F2⟩ n2) hG2 hA9 st lz (λ_ _ _ z=>z) (λe n' v H5 G' hG' hA10 p=>?_)
   w_pre u
  ·have e:i2=es.length:=by omega
   w_pre u4
   refine hA7.sub (List.Sublist.cons₂ _ (Ve _ (Ve _ ?_)))
   exact (Ci S1).append (Bk hid2 _)
 w_pre z
end
section
variable{X:Cx}{elt iter iter2:Expr}{x xb x2 y0:Str}{px pxb px2 pt py pos spos:Pos}{kt:Nat}{scope:Scope}{cl:List (Str×Addr)}{ys:List Str}{js:List Nat}{di di2:DI}{de:DE}
theorem u7{b:Bool}(C:CompScope X scope cl x ys js)(ownb:bS scope xb)(own2:bS scope x2)(nd2:(x::xb::x2::ys).Nodup)(hc:X.calm=true)(hi:vZ X (.Tuple [.Name x px,.Name xb pxb] kt pt) iter di)(hi2:∀fp s H,vZ (Dm X scope cl (x::xb::x2::ys) fp s H) (.Name x2 px2) iter2 di2)(he:∀fp s H,Fm (Dm X scope cl (x::xb::x2::ys) fp s H) elt de)(hs:∀x,Cz iter X.env x=pure x:=by intro _; rfl)(hs2:∀fp s H v,Cz iter2 (Dm X scope cl (x::xb::x2::ys) fp s H).env v=pure v:=by intro _ _ _ _; rfl):Fm X (.ListComp elt [⟨.Tuple [.Name x px,.Name xb pxb] kt pt,iter,[],0⟩,⟨.Name x2 px2,iter2,[],0⟩] scope pos) (pC b di js di2 de):=PE.imp (xZ C ownb own2 nd2 hc hi hi2 he hs hs2) zW
end
def Y5(b:Bool)(de:DE)(pre post:List DV)(acc:List Ae)(fin:List Ae->Nat->Prop)(m2:Md)(es:List Ae)(δ2:DS):Prop:=∃I2:Nat->List Ae->Nat->Prop,I2 0 acc δ2.n /\
 (∀i2 e acc' n',es[i2]? = some e->I2 i2 acc' n'->acc'.length+1<=Aq/\Ls b My de ⟨pre++.dat m2 e::post,n'⟩ (λz n2=>I2 (i2+1) (acc'++[z]) n2) (λ_=>False)) /\
 ∀acc' n',I2 es.length acc' n'->fin acc' n'
def FZ(b:Bool)(js:List Nat)(di2:DI)(de:DE)(P:DV->DS->Prop)(m:Md)(ds:List Ae)(δ1:DS):Prop:=∃I:Nat->List Ae->Nat->Prop,I 0 [] δ1.n /\
 (∀i d acc n,ds[i]? = some d->I i acc n->∃d1 d2,d=.tuple [d1,d2]/\di2 ⟨.dat m d1::.dat m d2::.un::frD δ1.sl js,n⟩ (Y5 b de [.dat m d1,.dat m d2] (frD δ1.sl js) acc (I (i+1)))) /\
 ∀acc n,I ds.length acc n->P (.dat (Ss b) (.list acc)) ⟨δ1.sl,n⟩
section
variable{b:Bool}{js:List Nat}{di di2:DI}{de:DE}{P:DV->DS->Prop}{δ δ1 δ2:DS}{m m2:Md}{ds es:List Ae}
theorem HH{β:Type}{l:List β}{g:β->Ae}{pre post:List DV}{acc:List Ae}{fin:List Ae->Nat->Prop}(e:es=l.map g)(f:β->Ae)(hz:acc.length+l.length<=Aq)(hs:∀y∈l,∀yes:Ae->Nat->Prop,yes (f y) δ2.n->Ls b My de ⟨pre++.dat m2 (g y)::post,δ2.n⟩ yes (λ_=>False))(hf:fin (acc++l.map f) δ2.n):Y5 b de pre post acc fin m2 es δ2:=by
 subst e
 refine ⟨λi a n=>a=acc++(l.take i).map f/\n=δ2.n,⟨by simp,rfl⟩,?_,?_⟩
 ·rintro i d _ _ hd ⟨rfl,rfl⟩
  rw[Bj] at hd
  cases hy:l[i]? with
  | none=>rw[hy] at hd; cases hd
  | some y =>
   rw[hy] at hd
   obtain rfl:g y=d:=Bv hd
   have hi:=(Av.mp hy).1
   refine ⟨?_,hs y (Be hy) _ ⟨?_,rfl⟩⟩
   ·rw[Bf,Af,Du]
    omega
   ·rw[Gu hy,Bh,Bt]
    rfl
 ·rintro _ _ ⟨rfl,rfl⟩
  rw[Af,Ff]
  exact hf
theorem lQ{α β:Type}(r:α->List β){l:List α}{i:Nat}{a:α}(h:l[i]? = some a):((l.take i).flatMap r).length+(r a).length<=(l.flatMap r).length:=by
 have e:l.take (i+1)=l.take i++[a]:=Gu h
 have : ((l.take (i+1)).flatMap r).length<=(l.flatMap r).length:=by
  conv=>rhs; rw[<- Fj (i+1) l,Lp,Bf]
  omega
 rw[e,Lp,Bf] at this
 simpa using this
theorem GL{α:Type}{l:List α}{g1 g2:α->Ae}(e:ds=l.map λa=>.tuple [g1 a,g2 a])(r:α->List Ae)(hz:(l.flatMap r).length<=Aq)(hs:∀a∈l,∀(acc:List Ae) (fin:List Ae->Nat->Prop),acc.length+(r a).length<=Aq->fin (acc++r a) δ1.n->di2 ⟨.dat m (g1 a)::.dat m (g2 a)::.un::frD δ1.sl js,δ1.n⟩ (Y5 b de [.dat m (g1 a),.dat m (g2 a)] (frD δ1.sl js) acc fin))(hP:P (.dat (Ss b) (.list (l.flatMap r))) ⟨δ1.sl,δ1.n⟩):FZ b js di2 de P m ds δ1:=by
 subst e
 refine ⟨λi a n=>a=(l.take i).flatMap r/\n=δ1.n,⟨by simp,rfl⟩,?_,?_⟩
 ·rintro i d _ _ hd ⟨rfl,rfl⟩
  rw[Bj] at hd
  cases hy:l[i]? with
  | none=>rw[hy] at hd; cases hd
  | some y =>
   rw[hy] at hd
   obtain rfl:Yy [g1 y,g2 y]=d:=Bv hd
   refine ⟨g1 y,g2 y,rfl,hs y (Be hy) _ _ (Cg (lQ r hy) hz) ⟨?_,rfl⟩⟩
   rw[Gu hy,Lp]
   simp
 ·rintro _ _ ⟨rfl,rfl⟩
  rw[Af,Ff]
  exact hP
end
def sP(i:Nat)(ds:List Ae)(k:Nat)(c y:Ae)(δ:DS)(D:DEnds):Prop:=match y with
 | .list es=>npk (δ.sl.set i .un)=true/\imm c=true/\es.length<1000000/\D.nx ⟨δ.sl.set i (.dat .ow (.tuple (ds.set k (.list (es++[c]))))),δ.n⟩
 | _=>False
def n8(i k:Nat)(c:Ae):DB:=λD δ=>match δ.sl[i]? with
 | some (.dat .ow (.tuple ds))=>∃y,ds[k]? = some y/\sP i ds k c y δ D
 | _=>False
theorem kS:∀l:List Ae,datas (l.map λd=>DV.dat .ow d)=some l
 | []=>rfl
 | d::l=>by
  rw[Ao,datas,kS l]
  rfl
theorem oF:∀l:List Ae,allOw (l.map λd=>DV.dat .ow d)=true
 | []=>rfl
 | d::l=>by
  rw[Ao,allOw]
  exact oF l
section
variable{X:Cx}{o e:Expr}{apos cpos pos ip sp:Pos}{j:Nat}{i k:Nat}{c:Ae}{w:V}
theorem K8(ho:PE X o (dU i))(he:PE X e (tC w))(hr:∀H,RdF X.K H w c [])
  (hbase:Mr (.Subscript o (.Constant (.int (k:Int)) j ip) sp) "append" X.env (eval (.Subscript o (.Constant (.int (k:Int)) j ip) sp) X.env)=eval (.Subscript o (.Constant (.int (k:Int)) j ip) sp) X.env:=by rfl)
  (hfew:((Hj cpos (Bn [e] X.env)).all (λx=>!x.1) && (backToKw cpos (Zo [] X.env)).all (λx=>x.1.isSome)
   && decide (([e]:List Expr).length+([]:List Ug).length+(if ([]:List Ug).isEmpty then 0 else 1)<30))=true:=by rfl)
  (hline:(apos.endLine == cpos.line)=true:=by rfl) (hs:Bn [e] X.env=(false,eval e X.env)::Bn [] X.env:=by rfl) (hplain:(Hj cpos (Bn [] X.env)).any (·.1)=false:=by rfl)
  (hsw:Nh (.Call (.Attribute (.Subscript o (.Constant (.int (k:Int)) j ip) sp) "append" apos) [e] [] cpos) none pos.line X.env=pure false:=by rfl) :
  xJ X (.Expr (.Call (.Attribute (.Subscript o (.Constant (.int (k:Int)) j ip) sp) "append" apos) [e] [] cpos) pos) (n8 i k c):=by
 refine PS.impD (rQ (V2 PySem.F.plainAttrs_list PySem.F.slot_list_append PySem.F.type_list_append Ow (Ze BI ho Fq (λ_ _=>rfl)) (Ia he Np hs) hbase hfew hline hs hplain) hsw) λD σ H h=>?_
 w_pre v6
 unfold n8 at hd
 w_pre z6
 case h_2=>exact hd.elim
 rename_i ds hsl
 obtain ⟨y,hy,hd⟩:=hd
 unfold sP at hd
 w_pre z6
 case h_2=>exact hd.elim
 rename_i es
 obtain ⟨hn,hc,hz,hD⟩:=hd
 w_pre j3
 have e3':x=.dat .ow (.tuple ds):=e3
 subst e3'
 obtain ⟨v,hv,rd,nd,_⟩:=hA.ok _ (Ak _ hm)
 have hv':u=some v:=hv
 subst hv'
 obtain ⟨t,xs,rfl,ht,ra,lz⟩:=rd.tup_inv
 -- the slot out of its row
 have p1:((⟨some (.ref t),.un,[]⟩ : Ent)::(S++T)).Perm (⟨some (.ref t),.dat .ow (.tuple ds),F⟩::(S.set i ⟨some (.ref t),.un,[]⟩++T)):=by
  rw[<- Do]
  exact (Th (y:=(⟨some (.ref t),.un,[]⟩ : Ent)) e2).append_right T
 have hA1:=(hA.blank (v:=some (.ref t))).perm p1
 generalize hS':S.set i ⟨some (.ref t),.un,[]⟩=S' at hA1
 have hp:=Bb.mp hA1.sep
 obtain ⟨As,a1,a2,a3,a4⟩:=At.unpack (m:=.ow) (E:=S'++T) ra (λ_=>nd rfl) (λf hf=>by
  refine ⟨λhq b hb=>(hp.1 f hf).1 ?_ b hb,λhq b hb=>(hp.1 f hf).2 ?_ b hb⟩
  w_pre v3
  ·rcases hq with hq | hq
   ·exact .inl hq
   ·exact .inr hq) (λb hb=>by
  rcases hA1.new _ Ab b hb with z | z
  ·exact z
  ·cases z.2) (hA1.sub (Cy _ _))
 -- the item
 have lA:As.length=ds.length:=by have:=congrArg Ft a2; simpa using this
 have hk:k<As.length:=by rw[lA]; exact (Av.mp hy).1
 have eA:As=As.take k++As[k]::As.drop (k+1):=by rw[<- Rm hk,Fj]
 have kx:As[k].x=.dat .ow (.list es):=by
  have:=congrArg (·[k]?) a2
  simp only[Bj,hy,Bx hk,Oo] at this
  exact Bv this
 generalize hE:As[k]=E at eA kx
 obtain ⟨v1,x1,F1⟩:=E
 have kx':x1=.dat .ow (.list es):=kx
 subst kx'
 obtain ⟨v2,hv2,rd2,_⟩:=a4.ok ⟨v1,.dat .ow (.list es),F1⟩ (Ak _ (by rw[eA]; exact mem_mid))
 have hv2':v1=some v2:=hv2
 subst hv2'
 obtain ⟨a,ys,G,rfl,ha,ry,rfl,lz2⟩:=rd2.list_inv
 have kv:xs[k]? = some (.ref a):=by
  have:=congrArg (·[k]?) a1
  simp only[Bj,Bx hk,hE,Oo] at this
  cases q:xs[k]? with
  | none=>rw[q] at this; cases this
  | some z =>
   rw[q] at this
   exact congrArg some (Bv (Bv this)).symm
 refine ⟨.ref t,by rw[Nu e2],t,xs,(k:Int),.ref a,rfl,rfl,Ta.of ht,hV kv,.inl ⟨rfl,ys,Pe.of ha⟩,a,ys,w,rfl,rfl,ha,Cc (by rw[ry.len]; omega) (kD (n:=1000000) (Aj _)),?_⟩
 have npS:∀f∈S',Pw f.x=false:=jF (sl:=δ.sl.set i .un) (by rw[<- hS',Iq,hS]) hn
 have q1:(As++(S'++T)).Perm (⟨some (.ref a),.dat .ow (.list es),a::G⟩::((As.take k++As.drop (k+1))++(S'++T))):=by
  conv=>lhs; rw[eA]
  rw[<- Do]
  exact (Dj).append_right _
 have npA:∀f∈As,Pw f.x=false:=λf hf=>by
  have:=Xt (f:=Ent.x) hf
  rw[a2] at this
  obtain ⟨d,_,z⟩:=Df.mp this
  rw[<- z]
  rfl
 have h1:=(a4.perm q1).write (es:=es++[c]) (ys:=ys++[w]) (G:=G++[]) rfl rfl (λf hf=>by
  rcases Aw.mp hf with hf | hf
  ·rcases Aw.mp hf with hf | hf
   ·exact npA f (List.mem_of_mem_take hf)
   ·exact npA f (Vz hf)
  ·rcases Aw.mp hf with hf | hf
   ·exact npS f hf
   ·exact hT f hf) (ry.snoc (hr H)) (by rw[Ec]; exact Ci _) (by rw[Bf]; exact kD (by simp; omega))
 have q2:((⟨some (.ref a),.dat .ow (.list (es++[c])),a::(G++[])⟩ : Ent)::((As.take k++As.drop (k+1))++(S'++T))).Perm ([]++((As.take k++⟨some (.ref a),.dat .ow (.list (es++[c])),a::(G++[])⟩::As.drop (k+1))++(S'++T))):=by
  rw[<- Do,Uz]
  exact (List.perm_middle.symm).append_right _
 have h2:=h1.perm q2
 generalize hAs:As.take k++(⟨some (.ref a),.dat .ow (.list (es++[c])),a::(G++[])⟩ : Ent)::As.drop (k+1)=As' at h2
 have b1:As'.map Ent.v=xs.map some:=by
  rw[<- hAs,<- a1]
  conv=>rhs; rw[eA]
  rw[Bh,Bh,Ao,Ao]
 have b2:As'.map Ent.x=(ds.set k (.list (es++[c]))).map λd=>DV.dat .ow d:=by
  rw[<- hAs,Bh,Ao,List.map_take,List.map_drop,a2,<- List.map_take,<- List.map_drop]
  rw[List.set_eq_take_append_cons_drop,if_pos (by rw[<- lA]; exact hk),Bh,Ao]
  rfl
 have r2:=Tn b1 (by rw[b2]; exact kS _) λf hf=>h2.ok f (Ag _ (Ak _ hf))
 have ht2:(upd H a (.lst (ys++[w]))) t=some (.tup xs):=by
  rw[Dr (λz=>by rw[z,ha] at ht; cases ht)]
  exact ht
 have h3:=h2.pack (N:=[]) (top:=.sh) (Sx.refl _) (λ_ z=>(nomatch z)) Dv (.inr ⟨rfl,rfl⟩) (.tup (F:=As'.flatMap Ent.F) ht2 (by rw[Pp]; exact lz) r2)
 rw[show pkMd .sh (As'.map Ent.x)=.ow by unfold pkMd; rw[b2,oF,if_pos rfl]] at h3
 have h4:At X.K H0 Y δ.n (S'++⟨some (.ref t),.dat .ow (.tuple (ds.set k (.list (es++[c])))),[]++As'.flatMap Ent.F⟩::T) (upd H a (.lst (ys++[w]))):=h3.tomid
 have h5:=h4.store (i:=i)
 rw[<- hS',List.set_set] at h5
 have h6:=k1 ⟨δ.sl.set i (.dat .ow (.tuple (ds.set k (.list (es++[c]))))),δ.n⟩ _ _ (iT hS) h5 hD
 have e9:(vs S).set i (some (.ref t))=vs S:=by
  apply Iu
  intro j2
  rw[Ko]
  split
  ·rename_i hij
   subst hij
   rw[Nu e2]
   split
   ·rfl
   ·rename_i hj
    unfold vs at hj
    rw[Af] at hj
    exact absurd (Av.mp e2).1 hj
  ·rfl
 rw[iX,e9] at h6
 exact h6
end
end DL
namespace Nd
open PySem PySem.Spec PyProof.Rows L2
abbrev ZF(h:Heap)(z TI TO:Addr)(f0 f1:Value):Prop:=h.get? z=some { cls:=.type "zip",dict:=none,data:=.fields #[f0,f1,.bool false,.ref TI,.ref TO],slots:=#[] }
section
variable{prog:Bl}{w:World}{A:Ce}{E:Value->Ai->Prop}{s:Ai}
theorem mL{a:Addr}{o:Obj}{Q:Option Obj->Ai->Prop}(ho:s.heap.get? a=some o)(h:Q (some o) s):wpAny (model prog w) A (loadIfAlive a) Q E s:=λΓ p _=>by
 unfold loadIfAlive
 rw[Sem.wp_loadIfAlive,ho]
 exact (Sem.wp_pure ..)▸h
theorem cU{z TI TO a:Addr}{oa:Obj}{fl:Bool}(hz:ZF s.heap z TI TO (Er (a:Int)) (.bool fl))(ha:s.heap.get? a=some oa):wpAny (model prog w) A (Cw (.ref z)) (λb s'=>b=false/\∃h',s'={ s with heap:=h' }/\ZF h' z TI TO (Er (a:Int)) (.bool true)/\Ct z s.heap h') E s:=by
 unfold Cw
 refine Aa (Ew hz rfl (x:=Er (a:Int)) rfl ?_)
 show wpAny _ _ (loadIfAlive ((a:Int).toNat) >>= _) _ _ _
 refine Aa (mL (a:=(a:Int).toNat) (o:=oa) (by rw[Hg]; exact ha) ?_)
 simp only[Option.isNone_some,Bw,if_false]
 refine Aa (Ew hz rfl (x:=.bool fl) rfl ?_)
 cases fl with
 | false =>
  rw[if_pos (by decide)]
  exact Aa (Ii hz (by simp) λg1 hz1 hs1=>Ac ⟨rfl,g1,rfl,hz1,hs1⟩)
 | true =>
  rw[if_neg (by decide)]
  exact Ac ⟨rfl,s.heap,rfl,hz,⟨rfl,λ_ _=>rfl⟩⟩
theorem xF{z TI TO i1 i2 l1 l2 a:Addr}{oa:Obj}{fl:Bool}{k1 k2:Nat}{xs ys:Array Value}{x y:Value}{Q:Value->Ai->Prop}(D:Sw z TI TO i1 i2 l1 l2)(hz:ZF s.heap z TI TO (Er (a:Int)) (.bool fl))(ha:s.heap.get? a=some oa)(hTI:Gc s.heap TI (.ref i1) (.ref i2))(h1:s.heap.IsListIter i1 l1 k1)(h2:s.heap.IsListIter i2 l2 k2)(hl1:s.heap.IsList l1 xs)(hl2:s.heap.IsList l2 ys)(hx:xs[k1]? = some x)(hy:ys[k2]? = some y)(hQ:∀h',ZF h' z TI TO (Er (a:Int)) (.bool true)->h'.IsListIter i1 l1 (k1+1)->h'.IsListIter i2 l2 (k2+1)->Gc h' s.heap.objs.size x y->h'.objs.size=s.heap.objs.size+1->(∀c o,c≠z->c≠i1->c≠i2->s.heap.get? c=some o->h'.get? c=some o)->Q (.ref s.heap.objs.size) { s with heap:=h' }):wpAny (model prog w) A (Builtin.«zip.__next__» ⟨[.ref z],[]⟩) (λfin s'=>∃v,fin=.done (.ret v)/\Q v s') E s:=by
 w_pre q
 w_pre f2
 refine Aa (Wg ((h2.extBut hs1.extBut D.i2z).extBut hs2.extBut D.i12.symm) ((hl2.extBut hs1.extBut D.l2z).extBut hs2.extBut D.l2i1) hy λg3 q2 hs3=>Ac (Ac (Ac ?_)))
 show wpAny _ _ (newTuple [x,y] >>= _) _ _ _
 refine Aa (wpAny_newTuple ?_)
 have sz:g3.objs.size=s.heap.objs.size:=by rw[hs3.1,hs2.1,hs1.1]
 have up:∀c o,c≠z->c≠i1->c≠i2->s.heap.get? c=some o->g3.get? c=some o:=λc o c1 c2 c3 e=>hs3.extBut _ _ c3 (hs2.extBut _ _ c2 (hs1.extBut _ _ c1 e))
 have hz3:ZF g3 z TI TO (Er (a:Int)) (.bool true):=hs3.extBut _ _ D.i2z.symm (hs2.extBut _ _ D.i1z.symm hz1)
 have fin:=hQ (g3.push { cls:=.type "tuple",data:=.seq #[x,y] }) (Ah _ hz3) ((q1.extBut hs3.extBut D.i12).at λo e=>Ah _ e) (q2.at λo e=>Ah _ e) (by rw[<- sz]; exact Ap _ rfl) (by rw[Fc,sz]) (λc o c1 c2 c3 e=>Ah _ (up c o c1 c2 c3 e))
 refine Ac ⟨_,rfl,?_⟩
 rw[<- sz] at fin
 exact fin
theorem dX{z TI TO i1 i2 l1 l2 a:Addr}{oa:Obj}{fl:Bool}{k1 k2:Nat}{xs ys:Array Value}{Q:PySem.Fin->Ai->Prop}(hh:A.handled=none)(D:Sw z TI TO i1 i2 l1 l2)(hz:ZF s.heap z TI TO (Er (a:Int)) (.bool fl))(ha:s.heap.get? a=some oa)(hTI:Gc s.heap TI (.ref i1) (.ref i2))(h1:s.heap.IsListIter i1 l1 k1)(h2:s.heap.IsListIter i2 l2 k2)(hl1:s.heap.IsList l1 xs)(hl2:s.heap.IsList l2 ys)(hend:xs[k1]? = none\/ys[k2]? = none)(hE:∀h' e,(∀c o,c≠z->c≠i1->c≠i2->s.heap.get? c=some o->h'.get? c=some o)->(∃o,h'.get? e=some o/\o.cls=.type "StopIteration")->E (.ref e) { s with heap:=h' }):wpAny (model prog w) A (Builtin.«zip.__next__» ⟨[.ref z],[]⟩) Q E s:=by
 w_pre q
 cases hx:xs[k1]? with
 | none =>
  refine Aa (wpAny_nextOf_list_end hh (h1.extBut hs1.extBut D.i1z) (hl1.extBut hs1.extBut D.l1z) hx λg2 e hs2 he=>?_)
  exact hE g2 e (λc o c1 c2 _ q=>hs2 _ _ c2 (hs1.extBut _ _ c1 q)) he
 | some x =>
  have hy:ys[k2]? = none:=hend.resolve_left λq=>by rw[hx] at q; cases q
  w_pre f2
  refine Aa (wpAny_nextOf_list_end hh ((h2.extBut hs1.extBut D.i2z).extBut hs2.extBut D.i12.symm) ((hl2.extBut hs1.extBut D.l2z).extBut hs2.extBut D.l2i1) hy λg3 e hs3 he=>?_)
  exact hE g3 e (λc o c1 c2 c3 q=>hs3 _ _ c3 (hs2.extBut _ _ c2 (hs1.extBut _ _ c1 q))) he
theorem oZ{z TI TO i1 i2 l1 l2 a:Addr}{oa:Obj}{fl:Bool}{k1 k2:Nat}{xs ys:Array Value}{x y:Value}{Q:Option Value->Ai->Prop}(D:Sw z TI TO i1 i2 l1 l2)(hz:ZF s.heap z TI TO (Er (a:Int)) (.bool fl))(ha:s.heap.get? a=some oa)(hTI:Gc s.heap TI (.ref i1) (.ref i2))(h1:s.heap.IsListIter i1 l1 k1)(h2:s.heap.IsListIter i2 l2 k2)(hl1:s.heap.IsList l1 xs)(hl2:s.heap.IsList l2 ys)(hx:xs[k1]? = some x)(hy:ys[k2]? = some y)(hQ:∀h',ZF h' z TI TO (Er (a:Int)) (.bool true)->h'.IsListIter i1 l1 (k1+1)->h'.IsListIter i2 l2 (k2+1)->Gc h' s.heap.objs.size x y->h'.objs.size=s.heap.objs.size+1->(∀c o,c≠z->c≠i1->c≠i2->s.heap.get? c=some o->h'.get? c=some o)->Q (some (.ref s.heap.objs.size)) { s with heap:=h' }):wpAny (model prog w) A (Hi (.ref z)) Q E s:=by
 w_pre j6
 refine Aa (Ic (Cu (name:=Dq "__next__") ty We (Cn We ty F.entry_zip_next (xF D hz ha hTI h1 h2 hl1 hl2 hx hy λg' b1 b2 b3 b4 b5 b6=>Ac (hQ g' b1 b2 b3 b4 b5 b6)) (F.args_zip_next_1 _))))
theorem aX{z TI TO i1 i2 l1 l2 a:Addr}{oa:Obj}{fl:Bool}{k1 k2:Nat}{xs ys:Array Value}{Q:Option Value->Ai->Prop}(hh:A.handled=none)(D:Sw z TI TO i1 i2 l1 l2)(hz:ZF s.heap z TI TO (Er (a:Int)) (.bool fl))(ha:s.heap.get? a=some oa)(hTI:Gc s.heap TI (.ref i1) (.ref i2))(h1:s.heap.IsListIter i1 l1 k1)(h2:s.heap.IsListIter i2 l2 k2)(hl1:s.heap.IsList l1 xs)(hl2:s.heap.IsList l2 ys)(hend:xs[k1]? = none\/ys[k2]? = none)(hQ:∀h',(∀c o,c≠z->c≠i1->c≠i2->s.heap.get? c=some o->h'.get? c=some o)->Q none { s with heap:=h' }):wpAny (model prog w) A (Hi (.ref z)) Q E s:=by
 w_pre j6
 refine Aa (Ic (Cu (name:=Dq "__next__") ty We (Cn We ty F.entry_zip_next (dX hh D hz ha hTI h1 h2 hl1 hl2 hend λg' e kp he=>?_) (F.args_zip_next_1 _))))
 obtain ⟨o,ho,hc⟩:=he
 exact Aa (Gy (T := "StopIteration") (b:=true) ⟨o,ho,hc⟩ Zq (Ac (hQ _ kp)))
end
end Nd
namespace Nd
open PySem PySem.Spec
theorem jJ:entryFor table "zip.__getattribute__" = some Builtin.«object.__getattribute__» :=
 Zr (id' := "object.__getattribute__") (by kernel_rfl) (by first | rfl | decide +kernel) (by decide +kernel) (by kernel_rfl)
theorem mK:dI (.type "zip") "keys" = pure none:=by rw[Xq,Pn]; kernel_rfl
section
variable{prog:Bl}{w:World}{A:Ce}{E:Value->Ai->Prop}{h:Heap}{g:Array GenState}{d:Drawn}{t:Nat}{os:OsState}{a:Addr}{fs:Array Value}
theorem bM:isSubtype (.type "AttributeError") (.type "AttributeError")=pure true:=by rw[Zp]; kernel_rfl
theorem pM(args:List Value):Jw (.type "AttributeError") args=pure Fp:=by
 have h:((Manifest.find? "AttributeError").elim false λt=>t.mro.contains "StopIteration" || t.mro.contains "SystemExit")=false:=by decide +kernel
 simp only[Jw,h]
 rfl
theorem qU{α:Type}{name msg:Str}{v:Value}{Q:α->Ai->Prop}(hh:A.handled=none)(hm:msg.length<=Aq)(hE:∀h' t' e,(∀c o,h.get? c=some o->h'.get? c=some o)->t<=t'->(∃o,h'.get? e=some o/\o.cls=.type "AttributeError")->E (.ref e) ⟨h',g,d,t',os⟩):wpAny (model prog w) A (raiseAttrError v name msg:Sem α) Q E ⟨h,g,d,t,os⟩:=by
 unfold raiseAttrError newExc newTuple
 refine Aa (wpAny_mkStr' ?_ hm)
 refine Aa (Aa (Ca ?_ (by show (1:Nat)<=Aq; decide)))
 refine Aa (Jb (pM _) (Ca ?_))
 generalize hh1:h.push { cls:=.type "tuple",data:=.seq [Value.str msg t].toArray }=h1
 have k1:∀c o,h.get? c=some o->h1.get? c=some o:=λc o q=>by rw[<- hh1]; exact Ah _ q
 have g0:(h1.push { cls:=.type "AttributeError",data:=.fields #[.ref h.objs.size,.none,.none,.none,.bool false,.none,Ki,Ki] }).get? h1.objs.size=some { cls:=.type "AttributeError",data:=.fields #[.ref h.objs.size,.none,.none,.none,.bool false,.none,Ki,Ki] }:=Ap _ rfl
 show wpAny _ _ _ _ _ ⟨h1.push { cls:=.type "AttributeError",data:=.fields #[.ref h.objs.size,.none,.none,.none,.bool false,.none,Ki,Ki] },g,d,t+1,os⟩
 have k2:∀c o,h1.get? c=some o->(h1.push { cls:=.type "AttributeError",data:=.fields #[.ref h.objs.size,.none,.none,.none,.bool false,.none,Ki,Ki] }).get? c=some o:=λc o q=>Ah _ q
 have k3:∀c o,h1.get? c=some o->c≠h1.objs.size:=λc o q=>Bu (Au q)
 generalize h1.push { cls:=.type "AttributeError",data:=.fields #[.ref h.objs.size,.none,.none,.none,.bool false,.none,Ki,Ki] }=h2 at g0 k2 ⊢
 refine Aa (wpAny_mkText ?_)
 refine Aa ?_
 unfold noteAttr
 show wpAny _ _ (lacksNameAndObj (.ref h1.objs.size) >>= _) _ _ _
 refine Aa ?_
 unfold lacksNameAndObj
 have ty:(⟨h2,g,d,t+1+1,os⟩ : Ai).TypeIs (.ref h1.objs.size) "AttributeError" := ⟨_,g0,rfl⟩
 refine Aa (Gy ty bM ?_)
 simp only[Sm,Bw,if_false]
 refine Aa (Wh g0 ?_)
 show wpAny _ _ (pure true) _ _ _
 refine Ac ?_
 simp only[if_true]
 refine Aa (Kk ?_)
 refine Aa (Hv ty ?_)
 show wpAny _ _ (layMembers h1.objs.size 6 _) _ _ _
 unfold layMembers
 refine Aa (Wh g0 ?_)
 refine wpAny_update g0 ?_
 refine wpAny_raiseNew_none hh (hE _ _ _ (λc o q=>?_) (by show t<=t+1+1; omega) ⟨_,Eu _ g0 rfl,rfl⟩)
 exact Heap.get?_update_of_ne _ (k3 c o (k1 c o q)).symm (k2 c o (k1 c o q))
theorem rB{tk:Tok}{Q:PySem.Fin->Ai->Prop}(hh:A.handled=none)(hx:h.get? a=some { cls:=.type "zip",dict:=none,data:=.fields fs,slots:=#[] })(hE:∀h' t' e,(∀c o,h.get? c=some o->h'.get? c=some o)->t<=t'->(∃o,h'.get? e=some o/\o.cls=.type "AttributeError")->E (.ref e) ⟨h',g,d,t',os⟩):wpAny (model prog w) A (Builtin.«object.__getattribute__» ⟨[.ref a,.str "keys" tk],[]⟩) Q E ⟨h,g,d,t,os⟩:=by
 have hT:(⟨h,g,d,t,os⟩ : Ai).TypeIs (.ref a) "zip" := ⟨_,hx,rfl⟩
 have f4:=mK
 w_pre c7
 exact qU hh (by decide +kernel) hE
theorem uP{tk:Tok}{R:Result->Ai->Prop}(hh:A.handled=none)(hx:h.get? a=some { cls:=.type "zip",dict:=none,data:=.fields fs,slots:=#[] })(hE:∀h' t' e,(∀c o,h.get? c=some o->h'.get? c=some o)->t<=t'->(∃o,h'.get? e=some o/\o.cls=.type "AttributeError")->R (.error (.ref e)) ⟨h',g,d,t',os⟩):Hb (model prog w) A (.call (.builtin "zip.__getattribute__") ⟨[.ref a,.str "keys" tk],[]⟩) R ⟨h,g,d,t,os⟩ :=
 codeAny_call_builtin F.slot_zip_getattribute.plain jJ (F.slot_zip_getattribute.check _ _ _ _ _ _ _ _ (show (⟨h,g,d,t,os⟩ : Ai).TypeIs (.ref a) "zip" from ⟨_,hx,rfl⟩) (F.args_zip_getattribute_2 _ _) (rB hh hx hE))
theorem vY:dI (.type "zip") "__getattr__" = pure none:=by rw[Xq,Pn]; kernel_rfl
theorem N7{tk:Tok}{Q:Value->Ai->Prop}(hh:A.handled=none)(hx:h.get? a=some { cls:=.type "zip",dict:=none,data:=.fields fs,slots:=#[] })(hE:∀h' t' e,(∀c o,h.get? c=some o->h'.get? c=some o)->t<=t'->(∃o,h'.get? e=some o/\o.cls=.type "AttributeError")->E (.ref e) ⟨h',g,d,t',os⟩):wpAny (model prog w) A (getAttrBy (.ref a) (.str "keys" tk) false) Q E ⟨h,g,d,t,os⟩:=by
 have hT:(⟨h,g,d,t,os⟩ : Ai).TypeIs (.ref a) "zip" := ⟨_,hx,rfl⟩
 have f2:=F.slot_zip_getattribute.lookup
 have f3:=F.slot_zip_getattribute.bind (.ref a)
 have f5:=vY
 w_pre c7
 refine uP hh hx λh' t' e kp lt he=>?_
 obtain ⟨o,ho,hc⟩:=he
 have ty:(⟨h',g,d,t',os⟩ : Ai).TypeIs (.ref e) "AttributeError" := ⟨_,ho,hc⟩
 have f6:=bM
 have fin:=hE h' t' e kp lt ⟨o,ho,hc⟩
 w_pre c7
theorem wH{Q:Option Value->Ai->Prop}(hh:A.handled=none)(hx:h.get? a=some { cls:=.type "zip",dict:=none,data:=.fields fs,slots:=#[] })(hQ:∀h' t',(∀c o,h.get? c=some o->h'.get? c=some o)->t<=t'->Q none ⟨h',g,d,t',os⟩):wpAny (model prog w) A (getAttr? (.ref a) "keys") Q E ⟨h,g,d,t,os⟩:=by
 unfold getAttr? getAttrBy?
 refine Aa (wpAny_mkText (Aa (Ic (N7 hh hx λh' t' e kp lt he=>?_))))
 obtain ⟨o,ho,hc⟩:=he
 exact Aa (Gy (T := "AttributeError") (b:=true) ⟨o,ho,hc⟩ bM (Ac (hQ _ _ kp (Nat.le_of_succ_le lt))))
end
end Nd
namespace Nd
open PySem PySem.Spec PyProof.Rows L2
theorem Tj:entryFor table "dict.update.loop" = some Builtin.«dict.update.loop»:=entryFor_of_tree (by kernel_rfl)
theorem Mg:plainId "dict.update.loop" = true:=by decide +kernel
def BA(h:Heap)(z TI TO i1 i2 l1 l2:Addr)(k:Nat):Prop:=Gc h TI (.ref i1) (.ref i2)/\h.IsListIter i1 l1 k/\h.IsListIter i2 l2 k /\
 ((IsZip h z TI TO .none/\∃u v,Gc h TO u v)\/∃(a:Addr) (oa:Obj) (fl:Bool),ZF h z TI TO (Er (Int.ofNat a)) (.bool fl)/\h.get? a=some oa)
theorem BA.keep{h h':Heap}{z TI TO i1 i2 l1 l2 D:Addr}{k:Nat}(st:BA h z TI TO i1 i2 l1 l2 k)(hs:∀c,c≠D->h'.get? c=h.get? c)(hD:∃o,h'.get? D=some o)(n:∀c∈[z,TI,TO,i1,i2],c≠D):BA h' z TI TO i1 i2 l1 l2 k:=by
 obtain ⟨a,b,c,d⟩:=st
 have n1:=n z (by simp)
 have n2:=n TI (by simp)
 have n3:=n TO (by simp)
 have n4:=n i1 (by simp)
 have n5:=n i2 (by simp)
 refine ⟨(hs TI n2).trans a,b.at λo q=>(hs i1 n4).trans q,c.at λo q=>(hs i2 n5).trans q,?_⟩
 rcases d with ⟨d,u,v,e⟩ | ⟨a,oa,fl,d,e⟩
 ·exact .inl ⟨(hs z n1).trans d,u,v,(hs TO n3).trans e⟩
 ·refine .inr ?_
  by_cases q:a=D
  ·obtain ⟨o,ho⟩:=hD
   exact ⟨a,o,fl,(hs z n1).trans d,by rw[q]; exact ho⟩
  ·exact ⟨a,oa,fl,(hs z n1).trans d,(hs a q).trans e⟩
section
variable{prog:Bl}{w:World}{A:Ce}{E:Value->Ai->Prop}{s:Ai}{z TI TO i1 i2 l1 l2:Addr}{k:Nat}{xs ys:Array Value}{x y:Value}{Q:Option Value->Ai->Prop}
theorem x6(D:Sw z TI TO i1 i2 l1 l2)(st:BA s.heap z TI TO i1 i2 l1 l2 k)(hl1:s.heap.IsList l1 xs)(hl2:s.heap.IsList l2 ys)(hx:xs[k]? = some x)(hy:ys[k]? = some y)(hQ:∀h',BA h' z TI TO i1 i2 l1 l2 (k+1)->Gc h' s.heap.objs.size x y->(∀c o,c∉[z,TI,TO,i1,i2]->s.heap.get? c=some o->h'.get? c=some o)->Q (some (.ref s.heap.objs.size)) { s with heap:=h' }):wpAny (model prog w) A (Hi (.ref z)) Q E s:=by
 w_pre x5
 ·refine wpAny_pyNext_zip_item D d a e b c hl1 hl2 hx hy λh' q1 q2 q3 q4 q5 q6 q7=>hQ h' ⟨q7 TI _ D.TIz D.TITO D.TIi1 D.TIi2 a,q3,q4,.inr ⟨_,_,false,q1,q5⟩⟩ q5 λc o hc q=>?_
  w_pre e5
 ·refine oZ D d e a b c hl1 hl2 hx hy λh' q1 q2 q3 q4 q5 q6=>?_
  have up:∀c o,c∉[z,TI,TO,i1,i2]->s.heap.get? c=some o->h'.get? c=some o:=λc o hc q=>by
   w_pre h5
  refine hQ h' ⟨q6 TI _ D.TIz D.TIi1 D.TIi2 a,q2,q3,.inr ?_⟩ q4 up
  by_cases g1:a'=z
  ·subst g1
   exact ⟨a',_,true,q1,q1⟩
  by_cases g2:a'=i1
  ·subst g2
   obtain ⟨o,q,_⟩:=q2
   exact ⟨a',o,true,q1,q⟩
  by_cases g3:a'=i2
  ·subst g3
   obtain ⟨o,q,_⟩:=q3
   exact ⟨a',o,true,q1,q⟩
  exact ⟨a',oa,true,q1,q6 a' _ g1 g2 g3 e⟩
theorem L4(hh:A.handled=none)(D:Sw z TI TO i1 i2 l1 l2)(st:BA s.heap z TI TO i1 i2 l1 l2 k)(hl1:s.heap.IsList l1 xs)(hl2:s.heap.IsList l2 ys)(he:xs[k]? = none\/ys[k]? = none)(hQ:∀h',(∀c o,c∉[z,TI,TO,i1,i2]->s.heap.get? c=some o->h'.get? c=some o)->Q none { s with heap:=h' }):wpAny (model prog w) A (Hi (.ref z)) Q E s:=by
 w_pre x5
 ·refine wpAny_pyNext_zip_end hh D d a e b c hl1 hl2 he λh' q7=>hQ h' λc o hc q=>?_
  w_pre e5
 ·refine aX hh D d e a b c hl1 hl2 he λh' q6=>hQ h' λc o hc q=>?_
  w_pre h5
end
section
variable{X:Cx}{pins:List (Addr×Obj)}{σ:L2.St}{H:Hp}{s:Ai}{a b:Addr}{v:V}{r:Value}{A:Ce}{E:Value->Ai->Prop}{kvs:List (List Jp×V)}{k:List Jp}
theorem pA{Q:Unit->Ai->Prop}(hu:A.units+1<cLine)(I:Inv X pins σ H s)(e:H a=some (.dT kvs))(eb:H b=some (.tup (k.map kV)))(l:kvs.length<Aq)(rv:RelV v r)(h:∀s',Inv X pins σ (upd H a (.dT (Oj kvs k v))) s'->(∀c,c≠a->s'.heap.get? c=s.heap.get? c)->(∃o,s'.heap.get? a=some o)->Q () s'):wpAny (model X.prog X.w) A (dictSet a (.ref b) r) Q E s:=by
 w_pre x1
 refine cW (hz:=hz) (show (Ng _).room A from Nat.lt_of_succ_lt hu) (Vy I.hok eb) dd λh' dd' hs=>?_
 w_pre l8
 exact h _ (aO I (by rw[e]; exact Jr) hs ⟨q,hq⟩ ⟨hl,hd,_,(rel.put k eb rv).keeps λc ys ec=>(Dr (yC ec e (λz=>nomatch z))).trans ec,q,es,ep,hq,h2,h3,h4,h5⟩) (λc hc=>hs.2 c hc) ⟨q,hq⟩
theorem cC{R:Result->Ai->Prop}{z TI TO i1 i2 l1 l2 D:Addr}{xs ys:List V}(hh:A.handled=none)(hu:A.units+2<cLine)(Z:Sw z TI TO i1 i2 l1 l2)(W:Nat->Hp->Prop)(hW:∀i H x y,xs[i]? = some x->ys[i]? = some y->W i H->Pe X.K H l1 xs/\Pe X.K H l2 ys/\∃kvs k p,H D=some (.dT kvs)/\x=.ref p/\H p=some (.tup (k.map kV))/\kvs.length<Aq/\W (i+1) (upd H D (.dT (Oj kvs k y))))(hE:∀H,W (min xs.length ys.length) H->Pe X.K H l1 xs/\Pe X.K H l2 ys)(hR:∀H s',W (min xs.length ys.length) H->Inv X pins σ H s'->R (.ok (.ret .none)) s'):∀n i s H,n=min xs.length ys.length - i->i<=min xs.length ys.length->Inv X pins σ H s->BA s.heap z TI TO i1 i2 l1 l2 i->(∀c∈[z,TI,TO,i1,i2],Ml X pins H c)->W i H->Hb (model X.prog X.w) A (.builtin "dict.update.loop" ⟨[.ref D,.ref z,Er (i:Int),.none],[]⟩) R s:=by
 intro n
 induction n with
 | zero =>
  intro i s H hn hi I st hf w0
  have e:i=min xs.length ys.length:=by omega
  subst e
  obtain ⟨q1,q2⟩:=hE H w0
  w_pre s5
  have hl1:=rv1.length
  have hl2:=rv2.length
  w_pre m3
  refine Aa (L4 (A:=A.in1) hh Z st p1.isList p2.isList ?_ λh' kp=>?_)
  ·by_cases q:xs.length<=min xs.length ys.length
   ·exact .inl (by simp; omega)
   ·exact .inr (by simp; omega)
  have I':=Sh (t':=s.toks) I kp hf
  show wpAny _ _ (Builtin.Dict.addKeywords D [] >>= _) _ _ _
  exact Aa (Ac (Ac (hR _ _ w0 I')))
 | succ n ih =>
  intro i s H hn hi I st hf w0
  have l1:i<xs.length:=by omega
  have l2:i<ys.length:=by omega
  obtain ⟨q1,q2,kvs,k,p,hD,ex,hp,hz,w1⟩:=hW i H _ _ (Bx l1) (Bx l2) w0
  w_pre s5
  obtain ⟨u1,hu1,ru1⟩:=rv1.get (Bx l1)
  obtain ⟨u2,hu2,ru2⟩:=rv2.get (Bx l2)
  rw[ex] at ru1
  cases (show u1=Ay p from ru1)
  w_pre m3
  refine Aa (x6 (A:=A.in1) Z st p1.isList p2.isList (x:=.ref p) (y:=u2) (by simpa using hu1) (by simpa using hu2) λh' st' hpr kp=>?_)
  have I':=Sh (t':=s.toks) I kp hf
  have nD:∀c∈[z,TI,TO,i1,i2],c≠D:=λc hc e=>by
   have:=(hf c hc).1
   rw[e,hD] at this
   cases this
  refine Aa (Ck ?_)
  refine Aa (wpAny_tryCatch ?_)
  unfold Builtin.Dict.pairItems
  have ty:({ s with heap:=h' }:Ai).TypeIs (.ref s.heap.objs.size) "tuple" := ⟨_,hpr,rfl⟩
  refine Aa (Hv ty ?_)
  rw[if_pos (by decide)]
  refine Aa (Ij hpr rfl (Ac ?_))
  show wpAny _ _ (Ny [.ref p,u2] (dictSet D (.ref p) u2)) _ _ _
  refine Ck (pA (A:=A.in1) hu I' hD hp hz ru2 λs2 I2 k2 o2=>?_)
  refine Ac ⟨Px Mg _,?_⟩
  have g:=ih (i+1) s2 _ (by omega) (by omega) I2 (st'.keep k2 o2 nD) (λc hc=>⟨by rw[Dr (nD c hc)]; exact (hf c hc).1,(hf c hc).2⟩) w1
  rw[show ((i+1:Nat):Int)=(i:Int)+1 by omega] at g
  exact g
theorem kZ{Q:Value->Ai->Prop}{z TI TO i1 i2 l1 l2:Addr}{xs ys:List V}{s:Ai}{H1:Hp}(hh:A.handled=none)(hu:A.units+8<cLine)(Z:Sw z TI TO i1 i2 l1 l2)(I:Inv X pins σ H1 s)(hz:IsZip s.heap z TI TO .none)(hTI:Gc s.heap TI (.ref i1) (.ref i2))(hTO:∃u v,Gc s.heap TO u v)(h1:s.heap.IsListIter i1 l1 0)(h2:s.heap.IsListIter i2 l2 0)(hf:∀c∈[z,TI,TO,i1,i2],Ml X pins H1 c)(hq:∀D,H1 D=none->∃W:Nat->Hp->Prop,W 0 (upd H1 D (.dT []))/\(∀i H x y,xs[i]? = some x->ys[i]? = some y->W i H->Pe X.K H l1 xs/\Pe X.K H l2 ys/\∃kvs k p,H D=some (.dT kvs)/\x=.ref p/\H p=some (.tup (k.map kV))/\kvs.length<Aq/\W (i+1) (upd H D (.dT (Oj kvs k y))))/\∀H,W (min xs.length ys.length) H->Pe X.K H l1 xs/\Pe X.K H l2 ys/\∀s',Inv X pins σ H s'->Q (.ref D) s'):wpAny (model X.prog X.w) A (call (.type "dict") [.ref z]) Q E s:=by
 refine callType_codes (Q₁:=λobj s₁=>obj=.ref s.heap.objs.size/\s₁={ s with heap:=s.heap.push { cls:=.type "dict",data:=.dict #[] } }) F.kt_called_dict (F.kt_typeCall_dict_1 _) F.entry_dict_init (kt_code_dict_new _ ⟨rfl,rfl⟩) ?_
 rintro obj s₁ ⟨rfl,rfl⟩
 have fD:H1 s.heap.objs.size=none:=I.hok.fresh (Aj _)
 obtain ⟨W,w0,hW,hE⟩:=hq s.heap.objs.size fD
 have C6:({ s with heap:=s.heap.push { cls:=.type "dict",data:=.dict #[] } }:Ai).TypeIs (.ref s.heap.objs.size) "dict" := ⟨_,Ap _ rfl,rfl⟩
 have I3:Inv X pins σ (upd H1 s.heap.objs.size (.dT [])) { s with heap:=s.heap.push { cls:=.type "dict",data:=.dict #[] } } :=
  I.laid (t':=s.toks) (λb u q=>Ah _ q) (Aj _) (lM s.heap I.big)
 have z3:IsZip (s.heap.push { cls:=.type "dict",data:=.dict #[] }) z TI TO .none:=Ah _ hz
 have tyz:({ s with heap:=s.heap.push { cls:=.type "dict",data:=.dict #[] } }:Ai).TypeIs (.ref z) "zip" := ⟨_,z3,rfl⟩
 refine ⟨C6,F.args_dict_init_2 _ _,?_⟩
 unfold Builtin.«dict.__init__»
 refine Aa ?_
 unfold Builtin.Dict.selfAndRest
 refine Aa (Pm C6 ?_)
 show wpAny _ _ (pure (s.heap.objs.size,[Ay z])) _ _ _
 refine Ac ?_
 show wpAny _ _ (aV "dict.__init__" s.heap.objs.size (.ref z) [] .none) _ _ _
 unfold aV
 refine Aa (Hv tyz ?_)
 rw[if_pos (by decide)]
 refine Aa (wH (A:=A.in1.in1) hh z3 λh4 t4 kp4 _=>?_)
 simp only[Option.isNone_none,if_true]
 refine Aa (Kk ?_)
 have z4:IsZip h4 z TI TO .none:=kp4 _ _ z3
 refine Aa (kF z4 ?_)
 have I4:=I3.kept (h':=h4) (t':=t4) kp4
 have up:∀c o,s.heap.get? c=some o->h4.get? c=some o:=λc o q=>kp4 c o (Ah _ q)
 obtain ⟨u,v,hTO⟩:=hTO
 have st4:BA h4 z TI TO i1 i2 l1 l2 0:=⟨up _ _ hTI,h1.at λo q=>up _ _ q,h2.at λo q=>up _ _ q,.inl ⟨z4,u,v,up _ _ hTO⟩⟩
 have nz:∀c∈[z,TI,TO,i1,i2],c≠s.heap.objs.size:=λc hc=>by
  obtain ⟨o1,e1,_⟩:=h1
  obtain ⟨o2,e2,_⟩:=h2
  w_pre m5
  ·exact Bu (Au hz)
  ·exact Bu (Au hTI)
  ·exact Bu (Au hTO)
  ·exact Bu (Au e1)
  ·exact Bu (Au e2)
 refine Ac ⟨Px Mg _,?_⟩
 exact cC (A:=A.in1) hh (Nat.lt_of_le_of_lt (Iw (show A.in1.units+2<A.units+8 from by show A.units+1+2<A.units+8; omega)) hu) Z W hW (λH w=>⟨(hE H w).1,(hE H w).2.1⟩) (λH s' w I'=>⟨rfl,(hE H w).2.2 s' I'⟩) _ 0 _ _ rfl (Di _) I4 st4 (λc hc=>⟨by rw[Dr (nz c hc)]; exact (hf c hc).1,(hf c hc).2⟩) w0
end
section
variable{X:Cx}
def yT(K:PySem.W.Frag)(ta:TA):TE:=λσ H Q=>ta σ H λvs H1=>∃l1 l2 xs ys,vs=[.ref l1,.ref l2]/\Pe K H1 l1 xs/\Pe K H1 l2 ys/\∀D,H1 D=none->∃W:Nat->Hp->Prop,W 0 (upd H1 D (.dT [])) /\
   (∀i H x y,xs[i]? = some x->ys[i]? = some y->W i H->Pe K H l1 xs/\Pe K H l2 ys/\∃kvs k p,H D=some (.dT kvs)/\x=.ref p/\H p=some (.tup (k.map kV))/\kvs.length<Aq/\W (i+1) (upd H D (.dT (Oj kvs k y)))) /\
   ∀H,W (min xs.length ys.length) H->Pe K H l1 xs/\Pe K H l2 ys/\Q (.ref D) H
theorem A6{a b:Expr}{ta:TA}{p p2 pos pos2:Pos}(hgd:Gl X "dict")(hmd:X.mg "dict" = none)(hg:Gl X "zip")(hm:X.mg "zip" = none)(hc:X.calm=true)(hu:X.A.units+64<cLine)(ha:PA X [a,b] ta)(hs:Bn [a,b] X.env=(false,eval a X.env)::Bn [b] X.env:=by rfl)(hp:(Hj pos (Bn [b] X.env)).any (·.1)=false:=by rfl):PE X (.Call (.Name "dict" p2) [.Call (.Name "zip" p) [a,b] [] pos] [] pos2) (yT X.K ta):=by
 w_pre q8
 refine Call_ (Si I hgd hmd (u:=.type "dict") (by decide +kernel) (Fi ?_ rfl rfl))
 show wpAny _ _ (spliced ((false,eval (.Call (.Name "zip" p) [a,b] [] pos) X.env)::Hj pos2 (Bn [] X.env))) _ _ s
 refine Lz ?_
 w_pre t7
 obtain ⟨l1,l2,xs,ys,e,hq1,hq2,q⟩:=q1
 w_pre s1
 obtain ⟨its1,rv1,pl1,hz1⟩:=I1.list hq1
 obtain ⟨its2,rv2,pl2,hz2⟩:=I1.list hq2
 have hlt1:l1<s1.heap.objs.size:=let ⟨o,q,_⟩:=pl1.isList; Au q
 have hlt2:l2<s1.heap.objs.size:=let ⟨o,q,_⟩:=pl2.isList; Au q
 refine call_zip_2 pl1.isList pl2.isList λh2 hz hTI hTO hi1 hi2 hsz hk=>?_
 have fr1:∀n,Ml X pins H1 (s1.heap.objs.size+n):=λn=>I1.fpOk (Oe _ _) (I1.hok.fresh (Oe _ _))
 have fr:∀c∈[s1.heap.objs.size+4,s1.heap.objs.size+2,s1.heap.objs.size+3,s1.heap.objs.size,s1.heap.objs.size+1],Ml X pins H1 c:=λc hc=>by
  w_pre y
 refine Rn ?_
 refine kZ (xs:=xs) (ys:=ys) (I.ok.hd hc) (by omega) (xB _ _ _ hlt1 hlt2) (I1.kept (t':=s1.toks) hk) hz hTI ⟨_,_,hTO⟩ hi1 hi2 fr λD hD=>?_
 obtain ⟨W,w0,hW,hE⟩:=q D hD
 exact ⟨W,w0,hW,λH w=>⟨(hE H w).1,(hE H w).2.1,λs' I'=>⟨.ref D,H,I',rfl,(hE H w).2.2⟩⟩⟩
end
end Nd
namespace DL
open PySem PySem.Spec PyProof.Rows L2 Nd
def Sq(acc:List (List Int×Ae))(l:List (List Int×Ae)):List (List Int×Ae):=l.foldl (λa p=>Rc a p.1 p.2) acc
def iI(xs:List DV)(δ:DS)(P:DV->DS->Prop):Prop:=match xs with
 | [.dat _ (.list ds),.dat _ (.list es)]=>ds.length<=1000000/\Ee es=true/\∃ws:List (List Int),ds=ws.map Br/\P (.dat .ow (.dict (Ov (Sq [] (ws.zip es))))) δ
 | _=>False
def pX(da:DA):DE:=λδ P=>da δ λxs δ'=>iI xs δ' P
theorem fL:∀(l:List (List Int×Ae)) (acc:List (List Int×Ae)),(Sq acc l).length<=acc.length+l.length
 | [],acc=>Aj _
 | p::l,acc=>by
  have h1:=fL l (Rc acc p.1 p.2)
  have h2:=mM acc p.1 p.2
  show (Sq (Rc acc p.1 p.2) l).length<=_
  rw[Bm]
  omega
theorem oU{ws:List (List Int)}{es:List Ae}{i:Nat}{w:List Int}{e:Ae}(h1:ws[i]? = some w)(h2:es[i]? = some e):Sq [] ((ws.zip es).take (i+1))=Rc (Sq [] ((ws.zip es).take i)) w e:=by
 have hz:(ws.zip es)[i]? = some (w,e):=by
  rw[List.getElem?_zip_eq_some]
  exact ⟨h1,h2⟩
 rw[List.take_add_one,hz]
 unfold Sq
 rw[List.foldl_append]
 rfl
section
variable{X:Cx}{a b:Expr}{da:DA}{p p2 pos pos2:Pos}
theorem h9{K:PySem.W.Frag}:∀σ H Q,LE K (pX da) σ H Q->yT K (LA K da) σ H Q:=by
 w_pre m2
 unfold iI at p
 split at p
 ·rename_i m ds m' es
  obtain ⟨hl,im,ws,rfl,pk⟩:=p
  obtain ⟨v,F,w,G,rfl,hA2⟩:=Xf eu hA' ex
  obtain ⟨a,xs,G1,rfl,ha,ra,rfl,hz⟩:=(hA2.told mem_mid).list_inv
  obtain ⟨b,ys,G2,rfl,hb,rb,rfl,hz2⟩:=(hA2.told Fd).list_inv
  refine ⟨a,b,xs,ys,rfl,Pe.of ha,Pe.of hb,λD hD=>?_⟩
  have hz3:=kD (n:=1000000) (Aj _)
  have nDa:a≠D:=λz=>by rw[z,hD] at ha; cases ha
  have nDb:b≠D:=λz=>by rw[z,hD] at hb; cases hb
  have l1:ws.length=xs.length:=by have:=ra.len; rw[Af] at this; exact this.symm
  have l2:=rb.len
  refine ⟨λi H=>H a=some (.lst xs)/\H b=some (.lst ys)/\At K H0 Y δ'.n (⟨some (.ref D),.dT (dH (Sq [] ((ws.zip es).take i))),[D]⟩::(S'++(⟨some (.ref a),.dat m (.list (ws.map Br)),a::G1⟩::⟨some (.ref b),.dat m' (.list es),b::G2⟩::T))) H,⟨?_,?_,?_⟩,?_,?_⟩
  ·rw[Dr nDa]; exact ha
  ·rw[Dr nDb]; exact hb
  ·exact hA2.dNew hD
  ·rintro i H x y hx hy ⟨h1,h2,hA3⟩
   have li:=(Av.mp hx).1
   have li2:=(Av.mp hy).1
   obtain ⟨a2,xs2,F2,ea,ha2,ra2,_,_⟩:=(hA3.told (Ad _ mem_mid)).list_inv
   cases ea
   rw[h1] at ha2
   cases ha2
   obtain ⟨b2,ys2,F3,eb,hb2,rb2,_,_⟩:=(hA3.told (Ad _ Fd)).list_inv
   cases eb
   rw[h2] at hb2
   cases hb2
   have e1:ws[i]? = some (ws[i]'(by omega)):=Bx _
   have e2:es[i]? = some (es[i]'(by omega)):=Bx _
   obtain ⟨x',Fx,g1,g2,_⟩:=ra2.get (by rw[Bj,e1]; rfl)
   rw[hx] at g1
   cases g1
   obtain ⟨p,rfl,hp⟩:=Ul g2
   obtain ⟨y',Fy,g3,g4,_⟩:=rb2.get e2
   rw[hy] at g3
   cases g3
   obtain rfl:=g4.imm (rE.mp im _ (Be e2))
   obtain ⟨kv,q1,q2,q3⟩:=hA3.dPut (w:=ws[i]'(by omega)) g4
   refine ⟨Pe.of h1,Pe.of h2,kv,Ld _,p,q1,rfl,hp,?_,?_,?_,?_⟩
   ·have:=fL ((ws.zip es).take i) []
    rw[Du] at this
    rw[Af] at hl
    rw[q2]
    show _<Aq
    have h0:([]:List (List Int×Ae)).length=0:=rfl
    omega
   ·rw[Dr nDa]; exact h1
   ·rw[Dr nDb]; exact h2
   ·rw[oU e1 e2]
    exact q3
  ·rintro H ⟨h1,h2,hA3⟩
   refine ⟨Pe.of h1,Pe.of h2,k _ δ' _ [D] S' H e1 e2 ?_ pk⟩
   have et:(ws.zip es).take (min xs.length ys.length)=ws.zip es:=Jt (by rw[Po]; omega)
   rw[et] at hA3
   have hA4:=hA3.dGot
   exact (hA4.sub (((Ci S').append ((Ci T).cons _ |>.cons _)).cons₂ _)).tomid
 ·exact p.elim
theorem xS(hu:X.A.units+64<cLine)(hgd:Gl X "dict")(hmd:X.mg "dict" = none)(hg:Gl X "zip")(hm:X.mg "zip" = none)(hc:X.calm=true)(ha:oS X [a,b] da)(hs:Bn [a,b] X.env=(false,eval a X.env)::Bn [b] X.env:=by rfl)(hp:(Hj pos (Bn [b] X.env)).any (·.1)=false:=by rfl):Fm X (.Call (.Name "dict" p2) [.Call (.Name "zip" p) [a,b] [] pos] [] pos2) (pX da):=PE.imp (A6 hgd hmd hg hm hc hu ha hs hp) h9
end
end DL
namespace Nd
open PySem PySem.Spec PyProof.Rows L2
section
variable{prog:Bl}{w:World}{A:Ce}{E:Value->Ai->Prop}{s:Ai}{it d:Addr}{es:Array Gz}{i ep:Nat}
theorem uM{Q:Option Value->Ai->Prop}{x:Gz}(hI:s.heap.IsValIter it d i es.size ep)(hE:Td s.heap d es ep)(hX:es[i]? = some x)(k:∀h',h'.IsValIter it d (i+1) es.size ep->Ct it s.heap h'->Q (some x.val) { s with heap:=h' }):wpAny (model prog w) A (Hi (.ref it)) Q E s:=by
 w_pre f
 w_pre n5
 w_pre z8
 refine Aa (Xv tI ?_)
 w_pre a5
 have nI:(s.heap.update it (Oq (·.setIfInBounds 1 (Er ((i:Int)+1))))).IsValIter it d (i+1) es.size ep :=
  ⟨_,Eu _ gi (Obj.isFreed_of_fields (Qw di _)),(Obj.cls_mapFields ..).trans ci,by rw[Qw di]; simp [Er]⟩
 refine Aa (Ck (Aa (Xv (s:={ s with heap:=s.heap.update it (Oq (·.setIfInBounds 1 (Er ((i:Int)+1)))) }) nI.typeIs (Aa (Xv (s:={ s with heap:=s.heap.update it (Oq (·.setIfInBounds 1 (Er ((i:Int)+1)))) }) nI.typeIs ?_)))))
 show wpAny _ _ (pure x.val) _ _ _
 exact Ac (Ac ⟨_,rfl,Ac (k _ nI (Bo ..))⟩)
theorem B9{Q:Option Value->Ai->Prop}(hh:A.handled=none)(hI:s.heap.IsValIter it d es.size es.size ep)(hE:Td s.heap d es ep)(k:∀h',Wd it s.heap h'->Q none { s with heap:=h' }):wpAny (model prog w) A (Hi (.ref it)) Q E s:=by
 w_pre f
 w_pre d5
 w_pre z8
 w_pre l
 refine Aa (Gy (T := "StopIteration") (b:=true) ⟨_,Ap _ rfl,rfl⟩ Zq (Ac (k _ (((Bo ..).extBut.push _).push _))))
theorem wZ{v:Addr}{Q:Value->Ai->Prop}(hv:s.heap.IsValuesView v d)(hE:Td s.heap d es ep)(k:Q (.ref s.heap.objs.size) { s with heap:=s.heap.push { cls:=.type "dict_valueiterator",data:=.fields #[.ref d,.int 0 0,.int es.size 0,.int ep 0] } }):wpAny (model prog w) A (Zn (.ref v)) Q E s:=by
 obtain ⟨ov,hov,hcv,hdv⟩:=id hv
 obtain ⟨ob,gb,xb,db⟩:=id hE
 refine Ub hv.typeIs PySem.F.slot_dict_values_iter (Cn PySem.F.slot_dict_values_iter hv.typeIs PySem.F.entry_dict_values_iter ?_ (PySem.F.args_dict_values_iter_1 _))
 unfold Builtin.«dict_values.__iter__»
 refine Aa (Ac (Aa ?_))
 unfold Builtin.Dict_items.dictOf
 refine Aa (Ew hov hdv (x:=.ref d) rfl (Ac (Aa ?_)))
 unfold Builtin.Dict_items.newIterator
 refine Aa (Lf gb db (Aa (Mw gb db ?_)))
 simp only[show Gk "dict_valueiterator" = false by decide,Bw,if_false]
 refine Ca (Ac ⟨_,rfl, "dict_valueiterator",_,⟨_,Ap _ rfl,rfl⟩,PySem.F.slot_dict_valueiterator_next.lookup,?_⟩)
 exact k
theorem uX{Q:Value->Ai->Prop}(hd:(d == Gm)=false)(hE:Td s.heap d es ep)(k:Q (.ref s.heap.objs.size) { s with heap:=s.heap.push { cls:=.type "dict_values",data:=.fields #[.ref d] } }):wpAny (model prog w) A (call (.builtin "dict.values") [.ref d]) Q E s:=by
 w_pre k5
 refine Cn PySem.F.slot_dict_values tD PySem.F.entry_dict_values ?_ (PySem.F.args_dict_values_1 _)
 refine Aa ?_
 unfold Builtin.Dict.noArgs
 refine Aa (Pm tD ?_)
 show wpAny _ _ (pure d) _ _ s
 w_pre l1
 exact Aa (Ac (Aa (Ca (Ac ⟨_,rfl,k⟩))))
end
theorem Y8{prog:Bl}{w:World}{A:Ce}(hh:A.handled=none)(it d:Addr)(hne:d≠it)(es:Array Gz)(ep:Nat):Walks prog w A it [it,d] [it] es.size (λi v=>∃x,es[i]? = some x/\v=x.val) (λi h=>h.IsValIter it d i es.size ep/\Td h d es ep) where
 sub:=λb hb=>by simp at hb; simp [hb]
 frame:=λ_ _ _ st hk=>⟨let ⟨o,e,r⟩:=st.1; ⟨o,hk it (by simp) o e,r⟩,st.2.at λo e=>hk d (by simp) o e⟩
 item:=λi s Q E hi st hQ=>by
  refine uM st.1 st.2 (x:=es[i]) (by simp [hi]) λh' hI hs=>?_
  exact hQ _ h' s.toks ⟨_,by simp [hi],rfl⟩ ⟨hI,st.2.at λo e=>(hs.2 d hne).trans e⟩ λb o hb e=>hs.extBut b o (λh=>hb (by simp [h])) e
 done:=λs Q E st hQ=>B9 hh st.1 st.2 λh' he'=>hQ h' s.toks λb o hb e=>he' b o (λh=>hb (by simp [h])) e
 self:=λ_ _ _ _ st hQ=>wpAny_pyIter_valiter st.1 hQ
section
variable{X:Cx}
theorem fW{α β:Type}{R:α->β->Prop}:∀{xs:List α} {ys:List β} {i:Nat} {y:β},Paired R xs ys->ys[i]? = some y->∃x,xs[i]? = some x/\R x y
 | _,_,0,y,.cons r _,h=>⟨_,rfl,by cases h; exact r⟩
 | _,_,i+1,y,.cons _ rs,h=>fW (i:=i) rs h
def W4(to:TE):TE:=λσ H Q=>to σ H λx H1=>∃a kvs,x=.ref a/\H1 a=some (.dT kvs)/\kvs≠[]/\∃f:List Int,kvs.map (·.2)=f.map V.int/\∀M∈f,(∀z∈f,M<=z)->Q (.int M) H1
theorem L8{o:Expr}{to:TE}{p apos cpos pos:Pos}(hg:Gl X "min")(hm:X.mg "min" = none)(hc:X.calm=true)(ho:PE X o to)(hbase:Mr o "values" X.env (eval o X.env)=eval o X.env:=by rfl)(hline:(apos.endLine == cpos.line)=true:=by rfl):PE X (.Call (.Name "min" p) [.Call (.Attribute o "values" apos) [] [] cpos] [] pos) (W4 to):=by
 w_pre w6
 refine Call_ (Si I hg hm (u:=.builtin "min") (by decide +kernel) (Mt rfl (Vk ?_)))
 show wpAny _ _ (spliced ((false,eval (.Call (.Attribute o "values" apos) [] [] cpos) X.env)::Hj pos (Bn [] X.env))) _ _ s
 refine Lz ?_
 refine wpAny_Call_method0_late hbase hline (Gb (ho pins s σ H _ I h) λv s1 ⟨x,H1,I1,r1,a,kvs,ex,ha,ne,f,ef,q⟩=>?_)
 subst ex
 obtain rfl:v=Ay a:=r1
 obtain ⟨t1,t2,hsys⟩:=B6 I1 (.inr ⟨kvs,.inl ha⟩)
 obtain ⟨hz,_,xs,rel,ob,es,ep,g1,g2,g3,g4,_⟩:=kA I1.hok (.inl ha)
 have dE:Td s1.heap a es ep:=⟨ob,g1,g2,g3⟩
 refine ⟨_,_,PySem.F.plainAttrs_dict,PySem.F.slot_dict_values,PySem.F.type_dict_values,t1,t2,Mt rfl (PySem.evalArgs_none (uX hsys dE (Rn ?_)))⟩
 have lt:=Au g1
 have dE2:Td (s1.heap.push { cls:=.type "dict_values",data:=.fields #[.ref a] }) a es ep:=dE.at λo q=>Ah _ q
 have el:es.size=kvs.length:=by
  have:=congrArg Ft g4
  rw[Af,<- Paired.length rel] at this
  simpa using this
 have fl:f.length=kvs.length:=by
  have:=congrArg Ft ef
  simpa using this.symm
 have nz:0<kvs.length:=Lo.mpr ne
 have val:∀(i:Nat) (v:Value),(∃x:Gz,es[i]? = some x/\v=x.val)->∃t,v=Lb (f.getD i 0) t:=by
  rintro i v ⟨x,hx,rfl⟩
  have hx':(xs.map (Wk (Ng (Hn X.prog X.w))))[i]? = some x:=by rw[<- g4]; simpa using hx
  rw[Bj] at hx'
  cases hy:xs[i]? with
  | none=>rw[hy] at hx'; cases hx'
  | some y =>
   rw[hy] at hx'
   cases hx'
   obtain ⟨z,e1,_,_,e3⟩:=fW rel hy
   have e4:(kvs.map (·.2))[i]? = some z.2:=by rw[Bj,e1]; rfl
   rw[ef,Bj] at e4
   cases hn:f[i]? with
   | none=>rw[hn] at e4; cases e4
   | some n =>
    rw[hn] at e4
    have e5:V.int n=z.2:=Bv e4
    rw[<- e5] at e3
    obtain ⟨t,e6⟩:=e3
    refine ⟨t,?_⟩
    rw[kC,hn]
    exact e6
 refine call_min_walk (wZ (A:=X.A.in1) ⟨_,Ap _ rfl,rfl,rfl⟩ dE2 ⟨_,_,_,_,_,_,_,rfl,Y8 (A:=X.A.in1) (I.ok.hd hc) _ a ?_ es ep,⟨⟨_,Ap _ rfl,rfl,rfl⟩,dE2.at λo q=>Ah _ q⟩,?_,by omega,CmpOf.ints_lt (λi=>f.getD i 0) val,λv h' tk hP hk=>?_⟩)
 ·rw[Fc]; exact Bu (Fg lt)
 ·intro b hb
  simp only[An,Bd,or_false] at hb
  show b<((s1.heap.push _).push _).objs.size
  rw[Fc,Fc]
  rcases hb with rfl | rfl
  ·show (s1.heap.push _).objs.size<_
   rw[Fc]
   exact Tb _
  ·exact Fg (Fg lt)
 ·obtain ⟨t,rfl⟩:=val _ _ hP
  obtain ⟨b1,b2⟩:=argBest_lt (λi=>f.getD i 0) (es.size - 1)
  have kp:∀b o,s1.heap.get? b=some o->h'.get? b=some o:=λb o e=>by
   have hlt:=Au e
   refine hk b o ?_ (Ah _ (Ah _ e))
   intro hb
   rw[Al.mp hb] at hlt
   have sz:(s1.heap.push { cls:=.type "dict_values",data:=.fields #[.ref a] }).objs.size=s1.heap.objs.size+1:=Fc ..
   have hlt':(s1.heap.push { cls:=.type "dict_values",data:=.fields #[.ref a] }).objs.size<s1.heap.objs.size:=hlt
   rw[sz] at hlt'
   exact absurd hlt' (Nat.not_lt.mpr (Ox _))
  refine ⟨.int _,H1,I1.kept kp,⟨t,rfl⟩,q _ (getD_mem (by omega)) λz hz'=>?_⟩
  obtain ⟨j,hj,rfl⟩:=mem_getD hz'
  exact b2 j (by omega)
end
end Nd
namespace DL
open PySem PySem.Spec PyProof.Rows L2 Nd
def sD(x:DV)(δ:DS)(P:DV->DS->Prop):Prop:=match x with
 | .dat _ (.dict X)=>∃(ks:List (List Int×Ae)) (f:List Int),X=Ov ks/\ks≠[]/\ks.map (·.2)=f.map Ax/\∀M∈f,(∀z∈f,M<=z)->P (.dat .ow (.int M)) δ
 | _=>False
def yF(de:DE):DE:=λδ P=>de δ λx δ'=>sD x δ' P
def tW(x y z:DV)(δ:DS)(P:DV->DS->Prop):Prop:=match x,y,z with
 | .dat _ (.dict X),.dat _ k,.dat _ e=>∃(ks:List (List Int×Ae)) (w:List Int),X=Ov ks/\k=Br w/\imm e=true/\P (.dat .ow ((Wn ks w).getD e)) δ
 | _,_,_=>False
def yU:DV->Bool
 | .dat _ (.dict _)=>true
 | _=>false
def yI(da dk dz:DE):DE:=λδ P=>da δ λx δ1=>yU x=true/\dk δ1 λy δ2=>dz δ2 λz δ3=>tW x y z δ3 P
section
variable{K:PySem.W.Frag}
theorem F6{de:DE}:∀σ H Q,LE K (yF de) σ H Q->W4 (LE K de) σ H Q:=by
 w_pre w1
 unfold sD at p1
 split at p1
 ·obtain ⟨ks,f,rfl,ne,ef,p⟩:=p1
  obtain ⟨a,kv,ks',rfl,ek,ha,rel,_⟩:=(hA1.told mem_mid).dict_inv
  w_pre f8
  have rv:=rel.val
  rw[ef] at rv
  obtain ⟨e3,_⟩:=rv.ints_inv
  refine ⟨a,kv,rfl,ha,λz=>ne ?_,f,e3,λM hM hz=>k _ δ1 _ [] S1 H1 e1 e2 (hA1.drop.pushI (.int _)) (p M hM hz)⟩
  have:=Ra rel
  rw[z] at this
  exact Mk.mp this.symm
 w_pre c8
theorem M8{da dk dz:DE}:∀σ H Q,LE K (yI da dk dz) σ H Q->r9 (LE K da) (LE K dk) (LE K dz) σ H Q:=by
 w_pre w1
 obtain ⟨hx,p1⟩:=p1
 match x,hx with
 | .dat m (.dict X),_ =>
  obtain ⟨a,kv,ks',rfl,rfl,ha,rel,_⟩:=(hA1.told mem_mid).dict_inv
  refine ⟨a,rfl,.inr ⟨kv,.inl ha⟩,H0,Y,S1,_::T,δ1,_,e1,e2,hA1,p1,λy δ2 v2 F2 S2 H2 e3 e4 hA2 p2=>?_⟩
  refine ⟨H0,Y,S2,_::_::T,δ2,_,e3,e4,hA2,p2,λz δ3 v3 F3 S3 H3 e5 e6 hA3 p3=>?_⟩
  unfold tW at p3
  split at p3
  ·rename_i hx'
   obtain ⟨ks,w,ek,rfl,im,p⟩:=p3
   have m3:∀{e f g:Ent},g∈S3++e::f::g::T:=λ{e f g}=>Ag _ (Ad _ (Ad _ Ab))
   obtain ⟨a',kv',ks2,ea,ek2,ha',rel',_⟩:=(hA3.told m3).dict_inv
   cases ea
   cases hx'
   obtain rfl:=Ju ek2
   w_pre f8
   obtain ⟨b,rfl,hb⟩:=Ul (hA3.told Fd)
   have r:=hA3.told mem_mid
   obtain rfl:=r.imm im
   refine ⟨_,pP.t ha' hb,?_⟩
   rcases cY w rel' with ⟨h1,h2⟩ | ⟨v',d',h1,h2,h3⟩
   ·rw[h1]
    rw[h2] at p
    exact k _ δ3 _ [] S3 H3 e5 e6 (hA3.drop2.drop.pushI r) p
   ·rw[h1]
    rw[h2] at p
    exact k _ δ3 _ [] S3 H3 e5 e6 (hA3.drop2.drop.pushI h3) p
  ·exact p3.elim
end
section
variable{X:Cx}{o e f:Expr}{de dk dz:DE}{p apos cpos pos:Pos}
theorem G3(hg:Gl X "min")(hm:X.mg "min" = none)(hc:X.calm=true)(ho:Fm X o de)(hbase:Mr o "values" X.env (eval o X.env)=eval o X.env:=by rfl)(hline:(apos.endLine == cpos.line)=true:=by rfl):Fm X (.Call (.Name "min" p) [.Call (.Attribute o "values" apos) [] [] cpos] [] pos) (yF de):=PE.imp (L8 hg hm hc ho hbase hline) F6
theorem R7(hu:X.A.units+64<cLine)(ho:Fm X o de)(he:Fm X e dk)(hf:Fm X f dz)(m:M2 X o "get" apos e f cpos):Fm X (.Call (.Attribute o "get" apos) [e,f] [] cpos) (yI de dk dz):=PE.imp (B2 (GZ hu) ho he hf m) M8
end
end DL
namespace Nd
open PySem PySem.Spec PyProof.Rows L2
section
variable{prog:Bl}{w:World}{A:Ce}{E:Value->Ai->Prop}{s:Ai}
theorem kO{l:Addr}{o:Obj}{n:Nat}{vs:List Value}{Q:List Value->Ai->Prop}(ho:s.heap.get? l=some o)(hc:o.cls=.type "tuple")(hd:o.data=.seq vs.toArray n)(h:Q vs { s with heap:=(s.heap.push (Ej "list" #[] 0)).update s.heap.objs.size (Eg (·++vs.toArray)) })(hsz:vs.length<=Aq):wpAny (model prog w) A (collect (.ref l)) Q E s:=by
 unfold collect
 refine Aa (wpAny_runValue (Fw entry_proto_collect' ?_))
 show wpAny _ _ (bind (newList []) λq=>again (.builtin "list.__iadd__" ⟨[q,.ref l],[]⟩)) _ _ s
 refine Aa (Uv (Ac ⟨Code.quiet_builtin _ (by decide +kernel),Fw entry_list_iadd' ?_⟩))
 show wpAny _ _ (Ni (.ref s.heap.objs.size) (.ref l) (.ref s.heap.objs.size)) _ _ { s with heap:=s.heap.push (Ej "list" #[] 0) }
 unfold Ni
 have g:(s.heap.push (Ej "list" #[] 0)).get? l=some o:=Ah _ ho
 refine Aa (Hv (T := "tuple") ⟨o,g,hc⟩ ?_)
 rw[if_pos (by rw[show (Gd "tuple" == Gd "tuple")=true from rfl,Bool.or_true])]
 refine Aa (gG g hd (Aa (gG (xs:=#[]) (n:=0) (Ap _ rfl) rfl ?_)))
 rw[if_neg (by simp)]
 refine Aa (dD (xs:=#[]) (n:=0) (Ap _ rfl) rfl (Ac ?_) (Di _) (by show (#[]++vs.toArray).size<=Aq+1; simp only[Array.size_append,Ar,Ik]; omega))
 have g2:((s.heap.push (Ej "list" #[] 0)).update s.heap.objs.size (Eg (·++vs.toArray))).get? s.heap.objs.size=some _:=Mx (Ap _ rfl) _
 refine Aa (Wh g2 ?_)
 show wpAny _ _ (pure ((#[]:Array Value)++vs.toArray).toList) Q E _
 rw[show ((#[]:Array Value)++vs.toArray).toList=vs by simp]
 exact Ac h
theorem rK{l:Addr}{o:Obj}{n:Nat}{vs:List Value}{ns:List Int}{Q:Value->Ai->Prop}(ho:s.heap.get? l=some o)(hc:o.cls=.type "tuple")(hd:o.data=.seq vs.toArray n)(hI:Ez vs ns)(h64:vs.length<64)(h:∀(out:Array Value) (ms:List Int),Ez out.toList ms->ms.Perm ns->ms.Pairwise (·<=·)->Q (.ref (s.heap.objs.size+1)) { s with heap:=aB s.heap vs out }):wpAny (model prog w) A (call (.builtin "sorted") [.ref l]) Q E s:=by
 w_pre j5
 refine Aa (m:=checkCount "sorted" 1 1 _) (Ac (Aa (kO ho hc hd (Aa (Uv ?_)) (by rw[Hh]; omega))))
 have z:((s.heap.push (Ej "list" #[] 0)).update s.heap.objs.size (Eg (·++vs.toArray))).objs.size=s.heap.objs.size+1:=by
  rw[Lg,dM]
 have g:(((s.heap.push (Ej "list" #[] 0)).update s.heap.objs.size (Eg (·++vs.toArray))).push (Ej "list" vs.toArray 0)).get? (s.heap.objs.size+1)=some (Ej "list" vs.toArray 0):=by
  rw[<- z]; exact Ap _ rfl
 show wpAny _ _ _ _ _ { s with heap:=((s.heap.push (Ej "list" #[] 0)).update s.heap.objs.size (Eg (·++vs.toArray))).push (Ej "list" vs.toArray 0) }
 rw[z]
 refine Aa (Ck (Cn slot_list_sort ⟨_,g,rfl⟩ entry_list_sort (list_sort_tree g hI h64 λout ms a1 a2 a3=>⟨_,rfl,?_⟩) (args_list_sort _)))
 exact Ac ⟨_,rfl,h out ms a1 a2 a3⟩
end
section
variable{X:Cx}
def mJ(K:PySem.W.Frag):List V->Hp->VK->Prop:=λxs H Q=>∃(a:Addr) (ns:List Int),xs=[.ref a]/\H a=some (.tup (ns.map V.int))/\ns.length<64 /\
 ∀(p:Addr) (ms:List Int),H p=none->ms.Perm ns->ms.Pairwise (·<=·)->Q (.ref p) (upd H p (.lst (ms.map V.int)))
theorem gZ:Mc X (.builtin "sorted") (mJ X.K):=by
 w_pre x6
 obtain ⟨a,ns,rfl,hs,hl,q⟩:=h
 w_pre n4
 obtain ⟨_,its,rv,o,ho,hc,n,hd⟩:=I.hok a _ hs
 have len:its.length<64:=by rw[<- rv.length,Af]; exact hl
 refine rK ho hc hd (intsAre_of rv) len λout ms a1 a2 a3=>?_
 obtain ⟨e,he⟩:=sortedAll_at s.heap its out
 have ml:ms.length<64:=by rw[a2.length_eq]; exact hl
 exact ⟨.ref (s.heap.objs.size+1),_,I.laid (t':=s.toks) (o:=.lst (ms.map V.int)) (λ_ _=>sortedAll_old) (Ox _) ⟨by rw[Af,Hh]; omega,out.toList,e,yY a1,by simpa using he⟩,rfl,q _ ms (I.hok.fresh (Ox _)) a2 a3⟩
end
end Nd
namespace DL
open PySem PySem.Spec PyProof.Rows L2 Nd
def jL:DC:=λxs P=>match xs with
 | [.dat _ (.tuple ds)]=>∃ns:List Int,ds=ns.map Ax/\ns.length<64/\P (.dat .ow (.list ((cB ns).map Ax)))
 | _=>False
theorem zQ{K:PySem.W.Frag}:Tt K (mJ K) jL:=by
 w_pre a7
 unfold jL at hd
 w_pre z6
 ·rename_i ex
  w_pre h7
  obtain ⟨ns,rfl,h0,h1⟩:=hd
  w_pre h9
  w_pre e9
  refine ⟨a,ns,rfl,ha,h0,λq us nq pe pw=>?_⟩
  rw[oQ pe pw]
  exact k _ _ _ _ (hA.drop.newI (RdFs.ints _) (Nf _) (by rw[Af,vO]; exact sz (by omega)) nq .ow) h1
 w_pre b7
def CP(t u:DB)(D:DEnds)(b:Bool)(δ:DS):Prop:=match b with
 | true=>t D δ
 | false=>u D δ
def DN(x:DV)(δ:DS)(P:DV->DS->Prop):Prop:=match x with
 | .dat _ d=>imm d=true/\P (.dat .ow d) δ
 | _=>False
def JX(i:Nat)(s:Option DV)(δ:DS)(P:DV->DS->Prop):Prop:=match s with
 | some (.dat .pk _)=>False
 | some (.dat _ d)=>P (.dat .sh d) ⟨δ.sl.set i (.dat .sh d),δ.n⟩
 | _=>False
def tupB(xs:List DV)(δ:DS)(P:DV->DS->Prop):Prop:=match datas xs with
 | some ds=>ds.length<=1000/\P (.dat (pkMd .sh xs) (.tuple ds)) δ
 | none=>False
def lstB(xs:List DV)(δ:DS)(P:DV->DS->Prop):Prop:=match datas xs with
 | some ds=>ds.length<=1000/\P (.dat (pkMd .tp xs) (.list ds)) δ
 | none=>False
def T3(x:DV)(δ:DS)(P:Option Int->DS->Prop):Prop:=match x with
 | .dat _ (.int i)=>P (some i) δ
 | _=>False
def JA(i:Bool)(x:DV)(l h:Option Int)(δ:DS)(P:DV->DS->Prop):Prop:=match x with
 | .dat m (.list ds)=>Zj i m (Pu ds l h) λz=>P z δ
 | .dat m (.tuple ds)=>jA i m (Pu ds l h) λz=>P z δ
 | _=>False
def JZ(xs:List DV)(δ:DS)(P:DV->DS->Prop):Prop:=match xs with
 | [.dat _ (.list ds)]=>∃ns:List Int,ds=ns.map Ax/\(∀x∈ns,0<=x/\x<60)/\P (.dat .ow (.list ((On ns).map Ax))) δ
 | [.dat _ (.tuple ds)]=>∃ns:List Int,ds=ns.map Ax/\(∀x∈ns,0<=x/\x<60)/\P (.dat .ow (.list ((On ns).map Ax))) δ
 | _=>False
def bB(x:DV)(δ:DS)(P:Bool->DS->Prop):Prop:=match x with
 | .dat _ (.bool b)=>P b δ
 | _=>False
def K0(du:DT)(b:Bool)(δ:DS)(P:Bool->DS->Prop):Prop:=match b with
 | true=>du δ P
 | false=>P false δ
def JJ(du:DT)(b:Bool)(δ:DS)(P:Bool->DS->Prop):Prop:=match b with
 | true=>P true δ
 | false=>du δ P
def GF(db:DE)(x:DV)(δ:DS)(P:DV->DS->Prop):Prop:=match x with
 | .dat _ (.bool true)=>db δ P
 | .dat _ (.bool false)=>P (.dat .ow (.bool false)) δ
 | _=>False
def IU(da db:DE)(b:Bool)(δ:DS)(P:DV->DS->Prop):Prop:=match b with
 | true=>da δ P
 | false=>db δ P
def ED(x:DV)(δ:DS)(P:DV->DS->Prop):Prop:=match x with
 | .dat _ (.int i)=>P (.dat .ow (.int (-i))) δ
 | _=>False
def lB(x:DV)(δ:DS)(P:Md->List Ae->DS->Prop):Prop:=match x with
 | .dat m (.list ds)=>P (Ke m) ds δ
 | _=>False
def JK(x:DV)(δ:DS)(P:Md->List Ae->DS->Prop):Prop:=match x with
 | .dat m (.tuple ds)=>P (Ke m) ds δ
 | _=>False
def T1(xs:List DV)(δ:DS)(P:Md->List Ae->DS->Prop):Prop:=match xs with
 | [.dat _ (.int j)]=>-1000000<=j/\j<=1000000/\P .sh ((Cd j.toNat).map λi:Nat=>.int i) δ
 | _=>False
def V9(xs:List DV)(δ:DS)(P:Md->List Ae->DS->Prop):Prop:=match xs with
 | [.dat m (.list ds)]=>P (Ke m) (ds.zipIdx.map λp=>.tuple [.int p.2,p.1]) δ
 | _=>False
def HZ(xs:List DV)(δ:DS)(P:Md->List Ae->DS->Prop):Prop:=match xs with
 | [.dat m (.tuple ds)]=>P (Ke m) (ds.zipIdx.map λp=>.tuple [.int p.2,p.1]) δ
 | _=>False
def DZ(dg:DG)(db:DB)(D:DEnds)(m:Md)(ds:List Ae)(δ1:DS):Prop:=m=.sh/\∃I:Nat->DS->Prop,I 0 δ1 /\
 (∀i d δ',ds[i]? = some d->I i δ'->dg (.dat .sh d) δ' λδ2=>db { D with nx:=I (i+1),ct:=I (i+1),bk:=D.nx } δ2)/\∀δ',I ds.length δ'->D.nx δ'
def C2(js:List Nat)(dc:DT)(de:DE)(P:DV->DS->Prop)(m:Md)(ds:List Ae)(δ1:DS):Prop:=∃I:Nat->List Ae->Nat->Prop,I 0 [] δ1.n /\
 (∀i d acc n,ds[i]? = some d->I i acc n->Oz dc de ⟨.dat m d::frD δ1.sl js,n⟩ (λe n'=>I (i+1) (acc++[e]) n') (λn'=>I (i+1) acc n')) /\
 ∀acc n,I ds.length acc n->P (.dat .ow (.list acc)) ⟨δ1.sl,n⟩
def zH(js:List Nat)(dc:DT)(de:DE)(P:DV->DS->Prop)(m:Md)(ds:List Ae)(δ1:DS):Prop:=∃I:Nat->List Ae->Nat->Prop,I 0 [] δ1.n /\
 (∀i d acc n,ds[i]? = some d->I i acc n->∃d1 d2,d=.tuple [d1,d2]/\Oz dc de ⟨.dat m d1::.dat m d2::frD δ1.sl js,n⟩ (λe n'=>I (i+1) (acc++[e]) n') (λn'=>I (i+1) acc n')) /\
 ∀acc n,I ds.length acc n->P (.dat .ow (.list acc)) ⟨δ1.sl,n⟩
def yV(js1:List Nat)(j0:Nat)(js2:List Nat)(dc:DT)(de:DE)(P:DV->DS->Prop)(m:Md)(ds:List Ae)(δ1:DS):Prop:=δ1.sl[j0]? = some .drw/\∃I:Nat->List Ae->Nat->Prop,I 0 [] δ1.n /\
 (∀i d acc n,ds[i]? = some d->I i acc n->Rg (js1.length+1) dc de ⟨.dat m d::(frD (δ1.sl.set j0 .un) js1++.drw::frD (δ1.sl.set j0 .un) js2),n⟩ (λe n'=>I (i+1) (acc++[e]) n') (λn'=>I (i+1) acc n')) /\
 ∀acc n,I ds.length acc n->P (.dat .ow (.list acc)) ⟨δ1.sl,n⟩
def P4(yes:Ae->Nat->Prop)(y:DV)(δ:DS):Prop:=match y with
 | .dat _ e=>imm e=true/\yes e δ.n
 | _=>False
def zJ(de:DE)(yes:Ae->Nat->Prop)(no:Nat->Prop)(b:Bool)(δ:DS):Prop:=match b with
 | true=>de δ λy δ3=>P4 yes y δ3
 | false=>no δ.n
def xW(p:Nat)(yes:Ae->Nat->Prop)(y:DV)(δ:DS):Prop:=match y with
 | .dat _ e=>imm e=true/\δ.sl[p]? = some .drw/\yes e δ.n
 | _=>False
def zR(p:Nat)(de:DE)(yes:Ae->Nat->Prop)(no:Nat->Prop)(b:Bool)(δ:DS):Prop:=match b with
 | true=>de δ λy δ3=>xW p yes y δ3
 | false=>δ.sl[p]? = some .drw/\no δ.n
def callB(pf:PF)(xs:List DV)(δ:DS)(P:DV->DS->Prop):Prop:=match datas xs with
 | some ds=>pf ds λd=>P (.dat .ow d) δ
 | none=>False
def callBW(i:Nat)(df:DF)(xs:List DV)(δ:DS)(P:DV->DS->Prop):Prop:=match δ.sl[i]? with
 | some .drw=>match datas xs with
  | some ds=>df ds δ.n λd n'=>P (.dat .ow d) ⟨δ.sl,n'⟩
  | none=>False
 | _=>False
def j7(xs:List DV)(δ:DS)(P:DV->DS->Prop):Prop:=match xs with
 | [.dat _ (.int _)]=>P .drw δ
 | _=>False
def appB(i:Nat)(y:DV)(δ:DS)(D:DEnds):Prop:=match δ.sl[i]?,y with
 | some (.dat m (.list ds)),.dat _ e=>own1 m=true/\npk δ.sl=true/\imm e=true/\ds.length<1000000/\D.nx ⟨δ.sl.set i (.dat m (.list (ds++[e]))),δ.n⟩
 | _,_=>False
def setB(i:Nat)(y z:DV)(δ:DS)(D:DEnds):Prop:=match δ.sl[i]?,y,z with
 | some (.dat m (.list ds)),.dat _ e,.dat _ (.int k)=>own1 m=true/\npk δ.sl=true/\imm e=true/\Ee ds=true/\∃j,xM ds.length k=some j/\D.nx ⟨δ.sl.set i (.dat m (.list (ds.set j e))),δ.n⟩
 | _,_,_=>False
def callAB(pf:PF)(xs:List DV)(δ:DS)(P:DV->DS->Prop):Prop:=match datas xs with
 | some ds=>pf ds λd=>P (.dat .sh d) δ
 | none=>False
def DW(xs:List DV)(δ:DS)(P:DV->DS->Prop):Prop:=match xs with
 | [.dat _ (.tuple ds)]=>∃ns:List Int,ds=ns.map Ax/\(∀x∈ns,0<=x/\x<60)/\P (.dat .ow (.list ((On ns).map Ax))) δ
 | _=>False
def JL(x:DV)(δ:DS)(P:Md->List Ae->DS->Prop):Prop:=match x with
 | .dat m (.dict X)=>∃ks,X=Ov ks/\ks.length<=1000000/\P (Ke m) (ks.map λp=>Br p.1) δ
 | _=>False
def U2(xs:List DV)(δ:DS)(P:Md->List Ae->DS->Prop):Prop:=match xs with
 | [.dat m (.dict X),.dat m' (.list es)]=>∃ks,X=Ov ks/\P (mdZip m m') ((ks.zip es).map λp=>.tuple [Br p.1.1,p.2]) δ
 | _=>False
def JD(dk dv:DE)(yes:List Int->Ae->Nat->Prop)(no:Nat->Prop)(c:Bool)(δ:DS):Prop:=match c with
 | true=>dk δ λy δ3=>dv δ3 λz δ4=>lS yes y z δ4
 | false=>no δ.n
def sX(js:List Nat)(dc:DT)(dk dv:DE)(P:DV->DS->Prop)(m:Md)(ds:List Ae)(δ1:DS):Prop:=ds.length<=1000000/\∃I:Nat->List (List Int×Ae)->Nat->Prop,I 0 [] δ1.n /\
 (∀i d acc n,ds[i]? = some d->I i acc n->∃d1 d2,d=.tuple [d1,d2]/\gP dc dk dv ⟨.dat m d1::.dat m d2::frD δ1.sl js,n⟩ (λw e n'=>I (i+1) (Rc acc w e) n') (λn'=>I (i+1) acc n')) /\
 ∀acc n,I ds.length acc n->P (.dat .ow (.dict (Ov acc))) ⟨δ1.sl,n⟩
theorem e_seq{t u:DB}{D:DEnds}{δ:DS}:CZ t u D δ=(t { D with nx:=λδ'=>u D δ' } δ):=rfl
theorem e_skip{D:DEnds}{δ:DS}:W1 D δ=(D.nx δ):=rfl
theorem e_ret{de:DE}{D:DEnds}{δ:DS}:EN de D δ=(de δ D.rt):=rfl
theorem e_if{dt:DT}{t u:DB}{D:DEnds}{δ:DS}:JH dt t u D δ=(dt δ (CP t u D)):=rfl
theorem e_asg{de:DE}{dg:DG}{D:DEnds}{δ:DS}:zD de dg D δ=(de δ λx δ'=>dg x δ' D.nx):=rfl
theorem e_name{i:Nat}{m:Md}{d:Ae}{δ:DS}{Q:DS->Prop}:Tc i (.dat .ow d) δ Q=(Q ⟨δ.sl.set i (.dat .sh d),δ.n⟩):=rfl
theorem e_name2{i:Nat}{m:Md}{d:Ae}{δ:DS}{Q:DS->Prop}:Tc i (.dat .sh d) δ Q=(Q ⟨δ.sl.set i (.dat .sh d),δ.n⟩):=rfl
theorem e_name4{i:Nat}{δ:DS}{Q:DS->Prop}:Tc i .drw δ Q=(Q ⟨δ.sl.set i .drw,δ.n⟩):=rfl
theorem e_own{i:Nat}{d:Ae}{δ:DS}{Q:DS->Prop}:gD i (.dat .ow d) δ Q=(Q ⟨δ.sl.set i (.dat .ow d),δ.n⟩):=rfl
theorem e_nT{i:Nat}{x:DV}{δ:DS}{Q:DS->Prop}:HW true i x δ Q=(gD i x δ Q):=rfl
theorem e_gtup{n:Nat}{gs:C7}{m:Md}{ds:List Ae}{δ:DS}{Q:DS->Prop}:yL n gs (.dat m (.tuple ds)) δ Q=(ds.length=n/\gs (ds.map λd=>.dat (Pv m) d) δ Q):=rfl
theorem e_gsn{δ:DS}{Q:DS->Prop}:zG [] δ Q=(Q δ):=rfl
theorem e_gsc{g:DG}{gs:C7}{x:DV}{r:List DV}{δ:DS}{Q:DS->Prop}:rR g gs (x::r) δ Q=(g x δ λδ'=>gs r δ' Q):=rfl
theorem e_op{rd:D2}{da db:DE}{δ:DS}{P:DV->DS->Prop}:aK rd da db δ P=(da δ λx δ1=>db δ1 λy δ2=>rd x y λz=>P z δ2):=rfl
theorem e_var{i:Nat}{δ:DS}{P:DV->DS->Prop}:Z9 i δ P=(match δ.sl[i]? with | some (.dat m d)=>P (.dat (kP m) d) δ | _=>False):=rfl
theorem e_c{d:Ae}{δ:DS}{P:DV->DS->Prop}:dC d δ P=(P (.dat .ow d) δ):=rfl
theorem e_imm{de:DE}{δ:DS}{P:DV->DS->Prop}:GM de δ P=(de δ λx δ'=>DN x δ' P):=rfl
theorem e_immB{m:Md}{d:Ae}{δ:DS}{P:DV->DS->Prop}:DN (.dat m d) δ P=(imm d=true/\P (.dat .ow d) δ):=rfl
theorem e_take{i:Nat}{δ:DS}{P:DV->DS->Prop}:xP i δ P=(match δ.sl[i]? with | some (.dat m d)=>P (.dat m d) ⟨δ.sl.set i .un,δ.n⟩ | _=>False):=rfl
theorem e_I{C:Int->Int->Prop}{g:Int->Int->Ae}{i j:Int}{m m':Md}{P:DV->Prop}:CN C g (.dat m (.int i)) (.dat m' (.int j)) P=(C i j/\P (.dat .ow (g i j))):=rfl
theorem e_I0{g:Int->Int->Ae}{i j:Int}{m m':Md}{P:DV->Prop}:qL g (.dat m (.int i)) (.dat m' (.int j)) P=(P (.dat .ow (g i j))):=rfl
theorem e_eqF{d e:Ae}{m m':Md}{P:DV->Prop}:jZ false (.dat m d) (.dat m' e) P=(d.depth<=60/\e.depth<=60/\P (.dat .ow (.bool (Ef d e)))):=rfl
theorem e_eqT{d e:Ae}{m m':Md}{P:DV->Prop}:jZ true (.dat m d) (.dat m' e) P=(d.depth<=60/\e.depth<=60/\P (.dat .ow (.bool (!Ef d e)))):=rfl
theorem e_inFt_w1{nes:List Int}{d:Ae}{es:List Ae}{m m':Md}{P:DV->Prop}:vB false (.dat m d) (.dat m' (Br nes)) P=(Bs (nes.map Ax)<=60/\d.depth<=60/\P (.dat .ow (.bool ((nes.map Ax).any λe=>Ef e d)))):=rfl
theorem e_inTt_w1{nes:List Int}{d:Ae}{es:List Ae}{m m':Md}{P:DV->Prop}:vB true (.dat m d) (.dat m' (Br nes)) P=(Bs (nes.map Ax)<=60/\d.depth<=60/\P (.dat .ow (.bool (!((nes.map Ax).any λe=>Ef e d))))):=rfl
theorem e_ixl{ds:List Ae}{i:Int}{m m':Md}{P:DV->Prop}:xR (.dat m (.list ds)) (.dat m' (.int i)) P=(∃d,Vu ds i=some d/\P (.dat (Pv m) d)):=rfl
theorem e_ixt{ds:List Ae}{i:Int}{m m':Md}{P:DV->Prop}:xR (.dat m (.tuple ds)) (.dat m' (.int i)) P=(∃d,Vu ds i=some d/\P (.dat (Pv m) d)):=rfl
theorem e_cat{ds es:List Ae}{m m':Md}{P:DV->Prop}:tE (.dat m (.list ds)) (.dat m' (.list es)) P=(Ee ds=true/\Ee es=true/\ds.length+es.length<=1000000/\P (.dat .ow (.list (ds++es)))):=rfl
theorem e_catT_w1{nds:List Int}{ds es:List Ae}{m m':Md}{P:DV->Prop}:jT (.dat m (Br nds)) (.dat m' (.tuple es)) P=(Ee (nds.map Ax)=true/\Ee es=true/\(nds.map Ax).length+es.length<=1000000/\P (.dat .ow (.tuple ((nds.map Ax)++es)))):=rfl
theorem e_rep{ds:List Ae}{k:Int}{m m':Md}{P:DV->Prop}:tO (.dat m (.list ds)) (.dat m' (.int k)) P=(Ee ds=true /\ -1000000<=k/\k<=1000000/\ds.length * k.toNat<=1000000/\P (.dat .ow (.list (Bz k.toNat ds).flatten))):=rfl
theorem e_nlT{m:Md}{ds:List Ae}{P:DV->Prop}:Zj true m ds P=(Ee ds=true/\P (.dat .ow (.list ds))):=rfl
theorem e_ntT{m:Md}{ds:List Ae}{P:DV->Prop}:jA true m ds P=(Ee ds=true/\P (.dat .ow (.tuple ds))):=rfl
theorem e_pkOfsh  : kP .sh=(Md.sh):=rfl
theorem e_pkOfow  : kP .ow=(Md.pk):=rfl
theorem e_mdInpk  : Pv .pk=(Md.pk):=rfl
theorem e_mdInsh  : Pv .sh=(Md.sh):=rfl
theorem e_mdInow  : Pv .ow=(Md.ow):=rfl
theorem e_mdItsh  : Ke .sh=(Md.sh):=rfl
theorem e_mdItow  : Ke .ow=(Md.sh):=rfl
theorem e_nil{δ:DS}{P:List DV->DS->Prop}:AH δ P=(P [] δ):=rfl
theorem e_cons{de:DE}{da:DA}{δ:DS}{P:List DV->DS->Prop}:U5 de da δ P=(de δ λx δ1=>da δ1 λxs δ2=>P (x::xs) δ2):=rfl
theorem e_tup{da:DA}{δ:DS}{P:DV->DS->Prop}:FY da δ P=(da δ λxs δ'=>tupB xs δ' P):=rfl
theorem e_lst{da:DA}{δ:DS}{P:DV->DS->Prop}:CW da δ P=(da δ λxs δ'=>lstB xs δ' P):=rfl
theorem e_noPart{δ:DS}{P:Option Int->DS->Prop}:tK δ P=(P none δ):=rfl
theorem e_part{de:DE}{δ:DS}{P:Option Int->DS->Prop}:V3 de δ P=(de δ λx δ'=>T3 x δ' P):=rfl
theorem e_partB{m:Md}{i:Int}{δ:DS}{P:Option Int->DS->Prop}:T3 (.dat m (.int i)) δ P=(P (some i) δ):=rfl
theorem e_sl{i:Bool}{de:DE}{dl dh:DO}{δ:DS}{P:DV->DS->Prop}:IT i de dl dh δ P=(de δ λx δ1=>dl δ1 λl δ2=>dh δ2 λh δ3=>JA i x l h δ3 P):=rfl
theorem e_slBl{i:Bool}{m:Md}{ds:List Ae}{l h:Option Int}{δ:DS}{P:DV->DS->Prop}:JA i (.dat m (.list ds)) l h δ P=(Zj i m (Pu ds l h) λz=>P z δ):=rfl
theorem e_cb{rd:DC}{da:DA}{δ:DS}{P:DV->DS->Prop}:GP rd da δ P=(da δ λxs δ1=>rd xs λz=>P z δ1):=rfl
theorem e_lenl{ds:List Ae}{m m':Md}{P:DV->Prop}:sT [.dat m (.list ds)] P=(P (.dat .ow (.int ds.length))):=rfl
theorem e_lent{ds:List Ae}{m m':Md}{P:DV->Prop}:sT [.dat m (.tuple ds)] P=(P (.dat .ow (.int ds.length))):=rfl
theorem e_listl{i:Bool}{ds:List Ae}{m m':Md}{P:DV->Prop}:oW i [.dat m (.list ds)] P=(Zj i m ds P):=rfl
theorem e_tuplel{i:Bool}{ds:List Ae}{m m':Md}{P:DV->Prop}:iA i [.dat m (.list ds)] P=(jA i m ds P):=rfl
theorem e_intb{i:Bool}{m m':Md}{P:DV->Prop}:p8 [.dat m (.bool i)] P=(P (.dat .ow (.int (if i=true then 1 else 0)))):=rfl
theorem e_max2{i j:Int}{m m':Md}{P:DV->Prop}:rJ [.dat m (.int i),.dat m' (.int j)] P=(P (.dat .ow (.int (if j > i then j else i)))):=rfl
theorem e_sortT{ds:List Ae}{m m':Md}{P:DV->Prop}:jL [.dat m (.tuple ds)] P=(∃ns:List Int,ds=ns.map Ax/\ns.length<64/\P (.dat .ow (.list ((cB ns).map Ax)))):=rfl
theorem e_isi{d:Ae}{n:String}{m m':Md}{P:DV->Prop}:zO [.dat m d,.val (.ty n)] P=((n = "int" \/ n = "bool" \/ n = "str" \/ n = "list" \/ n = "tuple")/\P (.dat .ow (.bool (jW d n)))):=rfl
theorem e_v{v:V}{δ:DS}{P:DV->DS->Prop}:dV v δ P=(P (.val v) δ):=rfl
theorem e_b{de:DE}{δ:DS}{P:Bool->DS->Prop}:dB de δ P=(de δ λx δ'=>bB x δ' P):=rfl
theorem e_bB{m:Md}{b:Bool}{δ:DS}{P:Bool->DS->Prop}:bB (.dat m (.bool b)) δ P=(P b δ):=rfl
theorem e_notT{dt:DT}{δ:DS}{P:Bool->DS->Prop}:U6 dt δ P=(dt δ λb δ'=>P (!b) δ'):=rfl
theorem e_andT{dt du:DT}{δ:DS}{P:Bool->DS->Prop}:S7 dt du δ P=(dt δ λb δ'=>K0 du b δ' P):=rfl
theorem e_orT{dt du:DT}{δ:DS}{P:Bool->DS->Prop}:DY dt du δ P=(dt δ λb δ'=>JJ du b δ' P):=rfl
theorem e_orTf{du:DT}{δ:DS}{P:Bool->DS->Prop}:JJ du false δ P=(du δ P):=rfl
theorem e_and{da db:DE}{δ:DS}{P:DV->DS->Prop}:EY da db δ P=(da δ λx δ'=>GF db x δ' P):=rfl
theorem e_andt{db:DE}{m:Md}{δ:DS}{P:DV->DS->Prop}:GF db (.dat m (.bool true)) δ P=(db δ P):=rfl
theorem e_ifE{dt:DT}{da db:DE}{δ:DS}{P:DV->DS->Prop}:GC dt da db δ P=(dt δ λb δ'=>IU da db b δ' P):=rfl
theorem e_neg{de:DE}{δ:DS}{P:DV->DS->Prop}:DD de δ P=(de δ λx δ'=>ED x δ' P):=rfl
theorem e_negB{m:Md}{i:Int}{δ:DS}{P:DV->DS->Prop}:ED (.dat m (.int i)) δ P=(P (.dat .ow (.int (-i))) δ):=rfl
theorem e_dL{de:DE}{δ:DS}{P:Md->List Ae->DS->Prop}:dL de δ P=(de δ λx δ'=>lB x δ' P):=rfl
theorem e_dTp{de:DE}{δ:DS}{P:Md->List Ae->DS->Prop}:IX de δ P=(de δ λx δ'=>JK x δ' P):=rfl
theorem e_lB{m:Md}{ds:List Ae}{δ:DS}{P:Md->List Ae->DS->Prop}:lB (.dat m (.list ds)) δ P=(P (Ke m) ds δ):=rfl
theorem e_tpB_w1{nds:List Int}{m:Md}{ds:List Ae}{δ:DS}{P:Md->List Ae->DS->Prop}:JK (.dat m (Br nds)) δ P=(P (Ke m) (nds.map Ax) δ):=rfl
theorem e_range1{da:DA}{δ:DS}{P:Md->List Ae->DS->Prop}:mQ da δ P=(da δ λxs δ'=>T1 xs δ' P):=rfl
theorem e_rng1B{m:Md}{j:Int}{δ:DS}{P:Md->List Ae->DS->Prop}:T1 [.dat m (.int j)] δ P=(-1000000<=j/\j<=1000000/\P .sh ((Cd j.toNat).map λi:Nat=>.int i) δ):=rfl
theorem e_enum{da:DA}{δ:DS}{P:Md->List Ae->DS->Prop}:x8 da δ P=(da δ λxs δ'=>V9 xs δ' P):=rfl
theorem e_enumB{m:Md}{ds:List Ae}{δ:DS}{P:Md->List Ae->DS->Prop}:V9 [.dat m (.list ds)] δ P=(P (Ke m) (ds.zipIdx.map λp=>.tuple [.int p.2,p.1]) δ):=rfl
theorem e_for{di:DI}{dg:DG}{db:DB}{D:DEnds}{δ:DS}:DK di dg db D δ=(di δ (DZ dg db D)):=rfl
theorem e_comp{di:DI}{js:List Nat}{dc:DT}{de:DE}{δ:DS}{P:DV->DS->Prop}:x3 di js dc de δ P=(di δ (C2 js dc de P)):=rfl
theorem e_comp2{di:DI}{js:List Nat}{dc:DT}{de:DE}{δ:DS}{P:DV->DS->Prop}:u9 di js dc de δ P=(di δ (zH js dc de P)):=rfl
theorem e_compD{di:DI}{js1 js2:List Nat}{j0:Nat}{dc:DT}{de:DE}{δ:DS}{P:DV->DS->Prop}:pU di js1 j0 js2 dc de δ P=(di δ (yV js1 j0 js2 dc de P)):=rfl
theorem e_noTest{δ:DS}{P:Bool->DS->Prop}:My δ P=(P true δ):=rfl
theorem e_step{dc:DT}{de:DE}{δ:DS}{yes:Ae->Nat->Prop}{no:Nat->Prop}:Oz dc de δ yes no=(dc δ λb δ2=>zJ de yes no b δ2):=rfl
theorem e_stepT{de:DE}{δ:DS}{yes:Ae->Nat->Prop}{no:Nat->Prop}:zJ de yes no true δ=(de δ λy δ3=>P4 yes y δ3):=rfl
theorem e_yesB{m:Md}{e:Ae}{δ:DS}{yes:Ae->Nat->Prop}:P4 yes (.dat m e) δ=(imm e=true/\yes e δ.n):=rfl
theorem e_stepD{p:Nat}{dc:DT}{de:DE}{δ:DS}{yes:Ae->Nat->Prop}{no:Nat->Prop}:Rg p dc de δ yes no=(dc δ λb δ2=>zR p de yes no b δ2):=rfl
theorem e_stepDT{p:Nat}{de:DE}{δ:DS}{yes:Ae->Nat->Prop}{no:Nat->Prop}:zR p de yes no true δ=(de δ λy δ3=>xW p yes y δ3):=rfl
theorem e_yesBD{p:Nat}{m:Md}{e:Ae}{δ:DS}{yes:Ae->Nat->Prop}:xW p yes (.dat m e) δ=(imm e=true/\δ.sl[p]? = some .drw/\yes e δ.n):=rfl
theorem e_call{pf:PF}{da:DA}{δ:DS}{P:DV->DS->Prop}:zF pf da δ P=(da δ λxs δ1=>callB pf xs δ1 P):=rfl
theorem e_callW{i:Nat}{df:DF}{da:DA}{δ:DS}{P:DV->DS->Prop}:qM i df da δ P=(match δ.sl[i]? with | some .drw=>da δ λxs δ1=>callBW i df xs δ1 P | _=>False):=rfl
theorem e_draws{da:DA}{δ:DS}{P:DV->DS->Prop}:r0 da δ P=(da δ λxs δ1=>j7 xs δ1 P):=rfl
theorem e_drawsB{m:Md}{i:Int}{δ:DS}{P:DV->DS->Prop}:j7 [.dat m (.int i)] δ P=(P .drw δ):=rfl
theorem e_append{i:Nat}{de:DE}{D:DEnds}{δ:DS}:iW i de D δ=(match δ.sl[i]? with | some (.dat _ (.list _))=>de δ λy δ1=>appB i y δ1 D | _=>False):=rfl
theorem e_setI{i:Nat}{dk de:DE}{D:DEnds}{δ:DS}:V7 i dk de D δ=(de δ λy δ1=>match δ1.sl[i]? with | some (.dat _ (.list _))=>dk δ1 λz δ2=>setB i y z δ2 D | _=>False):=rfl
theorem e_scrSl{i:Nat}{dl dh:DO}{δ:DS}{P:DV->DS->Prop}:pQ i dl dh δ P=(match δ.sl[i]? with | some (.scr ns)=>dl δ λl δ2=>dh δ2 λh δ3=>P (.dat .ow (.list ((Pu ns l h).map Ax))) δ3 | _=>False):=rfl
theorem e_sortW{m:Md}{ds:List Ae}{P:DV->Prop}:jX [.dat m (.list ds)] P=(∃ws:List (List Int),ds=ws.map Br/\∀L:List (List Int),L.Perm ws->L.Pairwise (λx y=>HT.lexLt y x=false)->P (.dat .ow (.list (L.map Br)))):=rfl
theorem e_dput{i:Nat}{dk de:DE}{D:DEnds}{δ:DS}:S8 i dk de D δ=(de δ λy δ1=>isDct δ1.sl[i]? = true/\dk δ1 λz δ2=>dputB i y z δ2 D):=rfl
theorem e_zipD{da:DA}{δ:DS}{P:Md->List Ae->DS->Prop}:n9 da δ P=(da δ λxs δ'=>U2 xs δ' P):=rfl
theorem e_zipDB{m m':Md}{X:List (Ae×Ae)}{es:List Ae}{δ:DS}{P:Md->List Ae->DS->Prop}:U2 [.dat m (.dict X),.dat m' (.list es)] δ P=(∃ks,X=Ov ks/\P (mdZip m m') ((ks.zip es).map λp=>.tuple [Br p.1.1,p.2]) δ):=rfl
theorem e_dcomp2{di:DI}{js:List Nat}{dc:DT}{dk dv:DE}{δ:DS}{P:DV->DS->Prop}:jS di js dc dk dv δ P=(di δ (sX js dc dk dv P)):=rfl
theorem e_dcStep{dc:DT}{dk dv:DE}{δ:DS}{yes:List Int->Ae->Nat->Prop}{no:Nat->Prop}:gP dc dk dv δ yes no=(dc δ λc δ2=>JD dk dv yes no c δ2):=rfl
theorem e_dcBT{dk dv:DE}{δ:DS}{yes:List Int->Ae->Nat->Prop}{no:Nat->Prop}:JD dk dv yes no true δ=(dk δ λy δ3=>dv δ3 λz δ4=>lS yes y z δ4):=rfl
theorem e_dcYes{m m':Md}{k e:Ae}{δ:DS}{yes:List Int->Ae->Nat->Prop}:lS yes (.dat m k) (.dat m' e) δ=(∃w,k=Br w/\imm e=true/\yes w e δ.n):=rfl
theorem e_appI{i k:Nat}{c:Ae}{D:DEnds}{δ:DS}:n8 i k c D δ=(match δ.sl[i]? with | some (.dat .ow (.tuple ds))=>∃y,ds[k]? = some y/\sP i ds k c y δ D | _=>False):=rfl
theorem e_appIB{i k:Nat}{ds es:List Ae}{c:Ae}{D:DEnds}{δ:DS}:sP i ds k c (.list es) δ D=(npk (δ.sl.set i .un)=true/\imm c=true/\es.length<1000000/\D.nx ⟨δ.sl.set i (.dat .ow (.tuple (ds.set k (.list (es++[c]))))),δ.n⟩):=rfl
theorem e_dictZ{da:DA}{δ:DS}{P:DV->DS->Prop}:pX da δ P=(da δ λxs δ'=>iI xs δ' P):=rfl
theorem e_dictZB{m m':Md}{ds es:List Ae}{δ:DS}{P:DV->DS->Prop}:iI [.dat m (.list ds),.dat m' (.list es)] δ P=(ds.length<=1000000/\Ee es=true/\∃ws:List (List Int),ds=ws.map Br/\P (.dat .ow (.dict (Ov (Sq [] (ws.zip es))))) δ):=rfl
theorem e_minV{de:DE}{δ:DS}{P:DV->DS->Prop}:yF de δ P=(de δ λx δ'=>sD x δ' P):=rfl
theorem e_getD{da dk dz:DE}{δ:DS}{P:DV->DS->Prop}:yI da dk dz δ P=(da δ λx δ1=>yU x=true/\dk δ1 λy δ2=>dz δ2 λz δ3=>tW x y z δ3 P):=rfl
theorem e_isDc2{m:Md}{X:List (Ae×Ae)}:yU (.dat m (.dict X))=(true):=rfl
theorem e_compP{b:Bool}{di di2:DI}{js:List Nat}{de:DE}{δ:DS}{P:DV->DS->Prop}:pC b di js di2 de δ P=(di δ λm ds δ1=>FZ b js di2 de P m ds δ1):=rfl
theorem e_callA{pf:PF}{da:DA}{δ:DS}{P:DV->DS->Prop}:B5 pf da δ P=(da δ λxs δ1=>noPk xs=true/\callAB pf xs δ1 P):=rfl
theorem e_ssT{da:DA}{δ:DS}{P:DV->DS->Prop}:GH da δ P=(da δ λxs δ1=>DW xs δ1 P):=rfl
theorem e_ssTt{m:Md}{ds:List Ae}{δ:DS}{P:DV->DS->Prop}:DW [.dat m (.tuple ds)] δ P=(∃ns:List Int,ds=ns.map Ax/\(∀x∈ns,0<=x/\x<60)/\P (.dat .ow (.list ((On ns).map Ax))) δ):=rfl
theorem e_tr{de:DE}{δ:DS}{P:DV->DS->Prop}:JG de δ P=(de δ λx δ1=>GW x δ1 P):=rfl
theorem e_trB{m:Md}{j:Int}{δ:DS}{P:DV->DS->Prop}:GW (.dat m (.int j)) δ P=(0<=j/\j<=1000/\P (.dat .ow (Br (Pa j.toNat))) δ):=rfl
section
variable{t u:DB}{D:DEnds}{δ δ1:DS}
theorem Zz{α:Type}{dg:DG}{db:DB}{ds:List Ae}{l:List α}{g:α->Ae}(e:ds=l.map g)(I:Nat->DS->Prop)(h0:I 0 δ1)(hs:∀i a δ',l[i]? = some a->I i δ'->dg (.dat .sh (g a)) δ' λδ2=>db { D with nx:=I (i+1),ct:=I (i+1),bk:=D.nx } δ2)(hf:∀δ',I l.length δ'->D.nx δ'):DZ dg db D .sh ds δ1:=by
 subst e
 refine ⟨rfl,I,h0,λi d δ' hd hI=>?_,λδ' h=>hf δ' (by rw[Af] at h; exact h)⟩
 rw[Bj] at hd
 cases q:l[i]? with
 | none=>rw[q] at hd; cases hd
 | some a=>rw[q] at hd; cases hd; exact hs i a δ' q hI
end
section
variable{js:List Nat}{dc:DT}{de:DE}{P:DV->DS->Prop}{m:Md}{ds:List Ae}{δ1:DS}{α:Type}
theorem zC{l:List α}{g:α->Ae}(e:ds=l.map g)(p:α->Bool)(f:α->Ae)(h:∀a∈l,∀(yes:Ae->Nat->Prop) (no:Nat->Prop),(p a=true->yes (f a) δ1.n)->(p a=false->no δ1.n)->Oz dc de ⟨.dat m (g a)::frD δ1.sl js,δ1.n⟩ yes no)(q:P (.dat .ow (.list ((l.filter p).map f))) δ1):C2 js dc de P m ds δ1:=by
 w_pre r4
 ·subst hn ha
  rw[Bj] at hd
  cases q:l[i]? with
  | none=>rw[q] at hd; cases hd
  | some a =>
   rw[q] at hd
   cases hd
   refine h a (Be q) _ _ (λhp=>⟨rfl,?_⟩) (λhp=>⟨rfl,?_⟩)
   w_pre n6
 w_pre l3
theorem tX{l:List α}{g:α->Ae}(e:ds=l.map g)(f:α->Ae)(h:∀a∈l,∀(yes:Ae->Nat->Prop) (no:Nat->Prop),yes (f a) δ1.n->Oz dc de ⟨.dat m (g a)::frD δ1.sl js,δ1.n⟩ yes no)(q:P (.dat .ow (.list (l.map f))) δ1):C2 js dc de P m ds δ1:=by
 refine zC e (λ_=>true) f (λa ha yes no hy _=>h a ha yes no (hy rfl)) ?_
 rw[xO.mpr λ_ _=>rfl]
 exact q
theorem BM{l:List α}{g1 g2:α->Ae}(e:ds=l.map λa=>.tuple [g1 a,g2 a])(p:α->Bool)(f:α->Ae)(h:∀a∈l,∀(yes:Ae->Nat->Prop) (no:Nat->Prop),(p a=true->yes (f a) δ1.n)->(p a=false->no δ1.n)->Oz dc de ⟨.dat m (g1 a)::.dat m (g2 a)::frD δ1.sl js,δ1.n⟩ yes no)(q:P (.dat .ow (.list ((l.filter p).map f))) δ1):zH js dc de P m ds δ1:=by
 w_pre r4
 ·subst hn ha
  rw[Bj] at hd
  cases q:l[i]? with
  | none=>rw[q] at hd; cases hd
  | some a =>
   rw[q] at hd
   cases hd
   refine ⟨_,_,rfl,h a (Be q) _ _ (λhp=>⟨rfl,?_⟩) (λhp=>⟨rfl,?_⟩)⟩
   w_pre n6
 w_pre l3
theorem sL{js1 js2:List Nat}{j0:Nat}{l:List α}{g:α->Ae}(e:ds=l.map g)(hj:δ1.sl[j0]? = some .drw)(I:Nat->List Ae->Nat->Prop)(h0:I 0 [] δ1.n)(h:∀i a acc n,l[i]? = some a->I i acc n->Rg (js1.length+1) dc de ⟨.dat m (g a)::(frD (δ1.sl.set j0 .un) js1++.drw::frD (δ1.sl.set j0 .un) js2),n⟩ (λe n'=>I (i+1) (acc++[e]) n') (λn'=>I (i+1) acc n'))(q:∀acc n,I l.length acc n->P (.dat .ow (.list acc)) ⟨δ1.sl,n⟩):yV js1 j0 js2 dc de P m ds δ1:=by
 subst e
 refine ⟨hj,I,h0,λi d acc n hd hI=>?_,λacc n hI=>q acc n (by rw[Af] at hI; exact hI)⟩
 rw[Bj] at hd
 cases q:l[i]? with
 | none=>rw[q] at hd; cases hd
 | some a=>rw[q] at hd; cases hd; exact h i a acc n q hI
end
theorem Zd{t u:DB}{D:DEnds}{b:Bool}{δ:DS}(h1:b=true->t D δ)(h2:b=false->u D δ):CP t u D b δ:=by
 w_pre e2
theorem GN{da db:DE}{b:Bool}{δ:DS}{P:DV->DS->Prop}(h1:b=true->da δ P)(h2:b=false->db δ P):IU da db b δ P:=by
 w_pre e2
theorem j9{du:DT}{b:Bool}{δ:DS}{P:Bool->DS->Prop}(h1:b=true->du δ P)(h2:b=false->P false δ):K0 du b δ P:=by
 w_pre e2
theorem uE{de:DE}{yes:Ae->Nat->Prop}{no:Nat->Prop}{b:Bool}{δ:DS}(h1:b=true->de δ λy δ3=>P4 yes y δ3)(h2:b=false->no δ.n):zJ de yes no b δ:=by
 w_pre e2
class Im (d:Ae):Prop where
 h:imm d=true
class ImA (ds:List Ae):Prop where
 h:Ee ds=true
theorem im{d:Ae}[h:Im d]:imm d=true:=h.h
instance {i:Int}:Im (.int i):=⟨by simp [imm]⟩
instance {i:Bool}:Im (.bool i):=⟨by simp [imm]⟩
instance {i:Str}:Im (.str i):=⟨by simp [imm]⟩
instance:Im .none:=⟨by simp [imm]⟩
instance {ds:List Ae} [h:ImA ds]:Im (.tuple ds):=⟨by rw[imm]; exact h.h⟩
instance {ns:List Int}:Im (Br ns):=⟨zL ns⟩
instance:ImA []:=⟨by simp [Ee]⟩
instance {d:Ae} {ds:List Ae} [h:Im d] [t:ImA ds]:ImA (d::ds):=⟨by rw[Ee,h.h,t.h]; rfl⟩
instance {α:Type} {f:α->Ae} {l:List α} [h:∀a,Im (f a)]:ImA (l.map f):=⟨Vw (λa=>(h a).h) l⟩
instance {a b:List Ae} [h:ImA a] [k:ImA b]:ImA (a++b):=⟨by rw[bA,h.h,k.h]; rfl⟩
class Dp (d:Ae) (k:outParam Nat):Prop where
 h:d.depth<=k
class DpA (ds:List Ae) (k:outParam Nat):Prop where
 h:Bs ds<=k
theorem dp{d:Ae}{k:Nat}[h:Dp d k](hk:k<=60:=by decide):d.depth<=60:=Cg h.h hk
instance {i:Int}:Dp (.int i) 0:=⟨by simp [Dy]⟩
instance {i:Bool}:Dp (.bool i) 0:=⟨by simp [Dy]⟩
instance {i:Str}:Dp (.str i) 0:=⟨by simp [Dy]⟩
instance:Dp .none 0:=⟨by simp [Dy]⟩
instance {ds:List Ae} {k:Nat} [h:DpA ds k]:Dp (.tuple ds) (k+1):=⟨by have:=h.h; simp only[Dy]; omega⟩
instance {ds:List Ae} {k:Nat} [h:DpA ds k]:Dp (.list ds) (k+1):=⟨by have:=h.h; simp only[Dy]; omega⟩
instance {ns:List Int}:Dp (Br ns) 1:=⟨pV ns⟩
instance:DpA [] 0:=⟨by simp [Bs]⟩
instance {d:Ae} {ds:List Ae} {k j:Nat} [h:Dp d k] [t:DpA ds j]:DpA (d::ds) (k+j):=⟨by have:=h.h; have:=t.h; simp only[Bs]; omega⟩
instance {α:Type} {f:α->Ae} {l:List α} {k:Nat} [h:∀a,Dp (f a) k]:DpA (l.map f) k:=⟨Zk λx hx=>by
 obtain ⟨a,_,rfl⟩:=Df.mp hx
 exact (h a).h⟩
theorem iY{a b:List Ae}:Bs (a++b)<=Bs a+Bs b:=by
 induction a with
 | nil=>simp [Bs]
 | cons x a ih=>simp only[Do,Bs]; omega
instance {a b:List Ae} {k j:Nat} [h:DpA a k] [t:DpA b j]:DpA (a++b) (k+j):=⟨by have:=h.h; have:=t.h; have:=iY (a:=a) (b:=b); omega⟩
theorem eqD_str(i j:Str):Ef (.str i) (.str j)=(i == j):=by simp [Ef]
theorem nY(a b:List Ae):Ef (.list a) (.list b)=Pl a b:=by simp [Ef]
theorem Q9(a b:List Ae):Ef (.tuple a) (.tuple b)=Pl a b:=by simp [Ef]
theorem Wq{α:Type}[DecidableEq α]{f:α->Ae}(h:∀a b,Ef (f a) (f b)=decide (a=b)):∀l m:List α,Pl (l.map f) (m.map f)=decide (l=m)
 | [],[]=>by simp [Pl]
 | [],_::_=>by simp [Pl]
 | _::_,[]=>by simp [Pl]
 | a::l,b::m=>by simp [Pl,h,Wq h l m]
theorem eqD_intd(i j:Int):Ef (.int i) (.int j)=decide (i=j):=by simp [Ef]; rfl
theorem zZ(a b:List Int):Ef (Br a) (Br b)=decide (a=b):=by
 unfold Br
 rw[Q9,Wq eqD_intd]
def wordsD(ws:List (List Int)):Ae:=.list (ws.map Br)
instance {ws:List (List Int)}:Dp (wordsD ws) 2:=⟨(inferInstance:Dp (.list (ws.map Br)) 2).h⟩
theorem wI(a b:List (List Int)):Ef (wordsD a) (wordsD b)=decide (a=b):=by
 unfold wordsD
 rw[nY,Wq zZ]
def sM(ns:List Int):Ae:=.list (ns.map Ax)
instance {ns:List Int}:Dp (sM ns) 1:=⟨(inferInstance:Dp (.list (ns.map Ax)) 1).h⟩
theorem zM(a b:List Int):Ef (sM a) (sM b)=decide (a=b):=by
 unfold sM
 rw[nY,Wq eqD_intd]
theorem any_int(ns:List Int)(i:Int):((ns.map Ax).any λe=>Ef e (.int i))=decide (i∈ns):=by
 rw[aE]
 induction ns with
 | nil=>rfl
 | cons n ns ih =>
  rw[Of,ih]
  simp only[Function.comp,eqD_intd,An]
  by_cases h:n=i
  ·subst h; simp
  ·have : ¬ i=n:=λz=>h z.symm
   simp [h,this]
theorem O6{α β:Type}(f:α->β)(l:List α):(l.map f).zipIdx=l.zipIdx.map λp=>(f p.1,p.2):=by
 rw[List.zipIdx_map]
 rfl
theorem uC{α β:Type}(f:α->β)(l:List α)(i:Int):Vu (l.map f) i=(Vu l i).map f:=by
 unfold Vu
 rw[Af]
 cases xM l.length i with
 | none=>rfl
 | some j=>simp
theorem cK{α:Type}{l:List α}{i:Int}(h0:0<=i)(h1:i<l.length):∃a,l[i.toNat]? = some a/\Vu l i=some a/\a∈l:=by
 have hk:i.toNat<l.length:=by omega
 refine ⟨l[i.toNat],by simp [hk],?_,List.getElem_mem hk⟩
 have q:Vu l ((i.toNat:Nat):Int)=some l[i.toNat]:=hV (by simp [hk])
 rwa [show ((i.toNat:Nat):Int)=i by omega] at q
theorem im_e{d:Ae}[h:Im d]:(imm d=true)=True:=eq_true h.h
theorem ima_e{ds:List Ae}[h:ImA ds]:(Ee ds=true)=True:=eq_true h.h
theorem dp_e{d:Ae}{k:Nat}[h:Dp d k](hk:k<=60):(d.depth<=60)=True:=eq_true (Cg h.h hk)
theorem dpa_e{ds:List Ae}{k:Nat}[h:DpA ds k](hk:k<=60):(Bs ds<=60)=True:=eq_true (Cg h.h hk)
theorem AC(a b:List (List Int)):Ef (.list (a.map Br)) (.list (b.map Br))=decide (a=b):=wI a b
theorem eqD_li(a b:List Int):Ef (.list (a.map Ax)) (.list (b.map Ax))=decide (a=b):=zM a b
theorem eqD_l0(a:List Ae):Ef (.list a) (.list [])=a.isEmpty:=E5 a
theorem ow_e{d:Ae}{R:Ae->Prop}:(∃e,DV.dat .ow d=.dat .ow e/\R e)=R d:=by
 apply propext
 constructor
 ·rintro ⟨e,h,r⟩; cases h; exact r
 ·intro r; exact ⟨d,rfl,r⟩
theorem tt_e{m:Md}{b:Bool}:(∃m',DV.dat m (.bool b)=.dat m' (.bool true))=(b=true):=by
 apply propext
 constructor
 ·rintro ⟨e,h⟩; cases h; rfl
 ·intro r; subst r; exact ⟨m,rfl⟩
theorem cdiv_e{i j:Int}:X9 i j=(0<j/\j<1073741824):=rfl
theorem Tr{sl sl':List DV}{n n':Nat}(h:sl=sl')(h':n=n'):(⟨sl,n⟩ : DS)=⟨sl',n'⟩:=by subst h h'; rfl
theorem Rf{j i a:Nat}(h:(Cd j)[i]? = some a):a=i/\i<j:=by
 obtain ⟨h1,h2⟩:=Av.mp h
 rw[Dh] at h1
 rw[List.getElem_range] at h2
 exact ⟨h2.symm,h1⟩
def NP(v:DV):Prop:=∀l,npk (v::l)=npk l
theorem Pz:NP .un:=λ_=>rfl
theorem Jk{d:Ae}:NP (.dat .sh d):=λ_=>rfl
theorem W0{d:Ae}:NP (.dat .ow d):=λ_=>rfl
theorem AY:NP .drw:=λ_=>rfl
theorem U8{t u:DB}{D:DEnds}(X:(Bool->DS->Prop)->Prop)(J:DS->Prop)(h:∀N:DS->Prop,(∀δ',J δ'->N δ')->X (CP t u { D with nx:=N }))(k:∀δ',J δ'->D.nx δ'):X (CP t u D):=h D.nx k
theorem EV{α:Type}(x y:α)(b:Bool):Vu [x,y] (if b=true then 1 else 0)=some (if b=true then y else x):=by cases b <;> rfl
theorem fold_w(w:List Int):Yy (List.map Ax w)=Br w:=rfl
theorem BR:∀x∈([]:List DV),NP x:=λ_ z=>nomatch z
theorem isi_li(ds:List Ae):jW (.list ds) "list" = true:=by simp [jW,C6]
theorem isi_tt(ds:List Ae):jW (.tuple ds) "tuple" = true:=by simp [jW,C6]
theorem isi_wt(w:List Int):jW (Br w) "tuple" = true:=isi_tt _
theorem vU{ws:List (List Int)}{i:Int}(h0:0<=i)(h1:i<ws.length):∃w∈ws,Vu (ws.map Br) i=some (Br w):=by
 obtain ⟨w,_,e2,e3⟩:=cK (l:=ws) h0 h1
 exact ⟨w,e3,by rw[uC,e2]; rfl⟩
theorem ES{ns:List Int}(k:Nat):(Pu ns none (some (k:Int))).length<=k:=by
 rw[vN,Du]
 exact Nat.min_le_left _ _
theorem ifB_lt{t u:DB}{D:DEnds}{δ:DS}:CP t u D true δ=t D δ:=rfl
theorem ifB_lf{t u:DB}{D:DEnds}{δ:DS}:CP t u D false δ=u D δ:=rfl
theorem str_self(s:Str):(s == s)=true:=by simp
theorem T8{α:Type}{l:List α}{i:Nat}{a:α}(h:l[i]? = some a):Vu l (i:Int)=some a:=by
 obtain ⟨b,e1,e2,_⟩:=cK (l:=l) (i:=(i:Int)) (by omega) (by have:=(Av.mp h).1; omega)
 rw[e2,<- e1,<- h]; rfl
theorem atI_0{α:Type}(x:α)(l:List α):Vu (x::l) 0=some x:=T8 (i:=0) rfl
theorem atI_1{α:Type}(x y:α)(l:List α):Vu (x::y::l) 1=some y:=T8 (i:=1) rfl
theorem some_e{α:Type}{a:α}{R:α->Prop}:(∃d,some a=some d/\R d)=R a:=propext ⟨λ⟨_,e,h⟩=>by cases e; exact h,λh=>⟨a,rfl,h⟩⟩
theorem st_never_deck:(Dq "never" == Dq "deck")=false:=by decide +kernel
theorem dk_e{ks:List (List Int×Ae)}{w:List Int}{Q:List (List Int×Ae)->List Int->Prop}:(∃ks' w',Ov ks=Ov ks'/\Br w=Br w'/\Q ks' w')=Q ks w:=propext ⟨λ⟨ks',w',e1,e2,h⟩=>by cases Ju e1; cases Tg e2; exact h,λh=>⟨ks,w,rfl,rfl,h⟩⟩
theorem dget_e{ks:List (List Int×Ae)}{w:List Int}{m m':Md}{P:DV->Prop}:iL (.dat m (.dict (Ov ks))) (.dat m' (Br w)) P=∃d,Wn ks w=some d/\P (.dat .ow d):=propext ⟨λ⟨ks',w',d,e1,e2,h⟩=>by cases Ju e1; cases Tg e2; exact ⟨d,h⟩,λ⟨d,h⟩=>⟨ks,w,d,rfl,rfl,h⟩⟩
theorem minV_e{ks:List (List Int×Ae)}{m:Md}{δ:DS}{P:DV->DS->Prop}:sD (.dat m (.dict (Ov ks))) δ P=(ks≠[]/\∃f:List Int,ks.map (·.2)=f.map Ax/\∀M∈f,(∀z∈f,M<=z)->P (.dat .ow (.int M)) δ):=propext ⟨λ⟨ks',f,e1,h⟩=>by cases Ju e1; exact ⟨h.1,f,h.2⟩,λ⟨a,f,h⟩=>⟨ks,f,rfl,a,h⟩⟩
theorem getD_e{ks:List (List Int×Ae)}{w:List Int}{e:Ae}{m m' m2:Md}{δ:DS}{P:DV->DS->Prop}:tW (.dat m (.dict (Ov ks))) (.dat m' (Br w)) (.dat m2 e) δ P=(imm e=true/\P (.dat .ow ((Wn ks w).getD e)) δ):=propext ⟨λ⟨ks',w',e1,e2,h⟩=>by cases Ju e1; cases Tg e2; exact h,λh=>⟨ks,w,rfl,rfl,h⟩⟩
theorem wd_e{k:List Int}{R:List Int->Prop}:(∃w,Br k=Br w/\R w)=R k:=by
 apply propext
 constructor
 ·rintro ⟨w,h,r⟩; rw[Tg h]; exact r
 ·intro r; exact ⟨k,rfl,r⟩
theorem G7{js:List Nat}{dc:DT}{dk dv:DE}{P:DV->DS->Prop}{m:Md}{ds:List Ae}{δ1:DS}{α:Type}{l:List α}{g1 g2:α->Ae}(e:ds=l.map λa=>.tuple [g1 a,g2 a])(hl:l.length<=1000000)(kf:α->List Int)(vf:α->Ae)(nd:(l.map kf).Nodup)(h:∀a∈l,∀(yes:List Int->Ae->Nat->Prop) (no:Nat->Prop),yes (kf a) (vf a) δ1.n->gP dc dk dv ⟨.dat m (g1 a)::.dat m (g2 a)::frD δ1.sl js,δ1.n⟩ yes no)(q:P (.dat .ow (.dict (Ov (l.map λa=>(kf a,vf a))))) δ1):sX js dc dk dv P m ds δ1:=by
 subst e
 refine ⟨by rw[Af]; exact hl,λi acc n=>n=δ1.n/\acc=(l.take i).map λa=>(kf a,vf a),⟨rfl,by simp⟩,λi d acc n hd ⟨hn,ha⟩=>?_,λacc n ⟨hn,ha⟩=>?_⟩
 ·subst hn ha
  rw[Bj] at hd
  cases q:l[i]? with
  | none=>rw[q] at hd; cases hd
  | some a =>
   rw[q] at hd
   cases hd
   refine ⟨_,_,rfl,h a (Be q) _ _ ⟨rfl,?_⟩⟩
   rw[Gu q,Bh]
   unfold Rc
   rw[if_neg]
   ·rfl
   ·rw[aE,dG]
    rintro ⟨x,hx,hxe⟩
    have hxe:kf x=kf a:=of_decide_eq_true hxe
    obtain ⟨hi,hqa⟩:=Av.mp q
    obtain ⟨j,hj⟩:=uF.mp hx
    have hj':=(Av.mp hj).1
    rw[Du] at hj'
    rw[List.getElem?_take,if_pos (by omega)] at hj
    have z:=(List.getElem?_inj (l:=l.map kf) (i:=j) (j:=i) (by rw[Af]; omega) nd).mp (by rw[Bj,Bj,hj,q]; exact congrArg some hxe)
    omega
 w_pre l3
theorem dkv_e{ks:List (List Int×Ae)}{R:List (List Int×Ae)->Prop}:(∃ks',Ov ks=Ov ks'/\R ks')=R ks:=propext ⟨λ⟨ks',e,h⟩=>by cases Ju e; exact h,λh=>⟨ks,rfl,h⟩⟩
theorem retA_sh{d:Ae}{R:Ae->Prop}:(∃m d',DV.dat .sh d=.dat m d'/\m≠.pk/\R d')=R d:=propext ⟨λ⟨m,d',e,_,h⟩=>by cases e; exact h,λh=>⟨_,_,rfl,by decide,h⟩⟩
end DL
namespace K52
open PySem L2 Nd DL
def top(i:Nat):Stmt:=PySem.Challenge.pw_needledeck_k52_back_from_counts.main.body.getD i (.Pass ⟨0,0,0,0⟩)
abbrev Sd:Stmt:=top 1
abbrev Qg:Stmt:=top 2
abbrev Rz:Stmt:=top 4
abbrev Wx:Stmt:=top 5
abbrev Tx:Stmt:=top 6
abbrev Uo:Stmt:=top 7
abbrev jP:Stmt:=top 9
abbrev sQ:Stmt:=top 10
abbrev Oi:Stmt:=top 11
abbrev Qd:Stmt:=top 12
abbrev Rq:Stmt:=top 13
abbrev Tp:Stmt:=top 15
abbrev Pi:Stmt:=top 16
abbrev Gn:Stmt:=top 17
abbrev Sf:Stmt:=top 18
abbrev iF:Stmt:=top 19
section
variable{P:Bl}{w:World}{K:PySem.W.Frag}{mg:Str->Option Value}{base:Heap}
theorem JU:FnScope ["_law_cell"] ["_law_cell"] (Cf jP):=⟨rfl,rfl,rfl,by decide +kernel,rfl,by decide +kernel,by decide +kernel⟩
theorem zA{f:Addr}{fd:Dc}(F:Fun K "_law_draws" "_law_draws" jP f fd):FnOk P w K mg base La 1 f fd ["_law_cell"] Xh:=by
 refine F.ok JU (λvs H Q E h=>?_) (λcdv A outer s H vs Q E hr h=>?_)
 ·obtain ⟨c,rfl,_⟩:=h
  rfl
 obtain ⟨c,rfl,q⟩:=h
 refine ⟨_,Mf (yO (sI ET (pv 0) (Jv gS Fq Fq) (Vx _)) (Uj (Yh (pL (Ia (Jv Vq (pv 0) (Jv F7 (Jv gS Fq Fq) Fq)) (Ia Fq (Ia zN Np)))))) jY)
  (Uj (Yh (pL (Ia (Jv Vq (pv 0) Fq) (Ia Fq (Ia zN Np)))))),?_⟩
 refine ⟨_,rfl,10,18,rfl,rfl,⟨by decide,by decide,by decide⟩,_,_,rfl,rfl,_,rfl,EL (λ_=>?_) (λ_=>?_)⟩
 ·refine ⟨_,rfl,10,60,rfl,rfl,⟨by decide,by decide,by decide⟩,_,16,rfl,rfl,⟨by decide,by show (Builtin.Int.intBits (10 ^ (60:Int).toNat):Int) * 16<=2 ^ 27; decide +kernel⟩,_,_,rfl,rfl,(by show (0:Int)<(10 ^ (60:Int).toNat) ^ (16:Int).toNat; decide +kernel),(by show 3<=Aq; decide),λp hp=>?_⟩
  exact q p _ _ _ hp Ds (Fe hp _)
 ·refine ⟨_,rfl,_,_,rfl,rfl,(by show (0:Int)<1000003; decide),(by show 3<=Aq; decide),λp hp=>?_⟩
  exact q p _ _ _ hp Ds (Fe hp _)
theorem JV:FnScope ["_law_draws_here", "_law_k", "_law_number"] ["_law_draws_here"] (Cf sQ):=⟨rfl,rfl,rfl,by decide +kernel,rfl,by decide +kernel,by decide +kernel⟩
theorem E1{f:Addr}{fd:Dc}(F:Fun K "_law_next" "_law_next" sQ f fd):FnOk P w K mg base La 1 f fd ["_law_draws_here"] yK:=by
 refine F.ok JV (λvs H Q E h=>?_) (λcdv A outer s H vs Q E hr h=>?_)
 ·obtain ⟨d,c,k,fl,rfl,_⟩:=h
  rfl
 obtain ⟨d,c,k,fl,rfl,hd,h0,h1,q⟩:=h
 refine ⟨_,Mf (qE (Jv bP (Ze Ui (pv 0) Fq (λ_ _=>rfl)) Fq) (rA (pv 0) Fq bR))
  (Mf (yO (u4 (Ze Ui (pv 0) Fq (λ_ _=>rfl)))
   (Mf (Yd (i:=2) JV.nd rfl (Dw rfl) (Jv Vq (Ze Ui (pv 0) Fq (λ_ _=>rfl)) (Jv gS Fq Fq)))
    (Mf (qE (Jv jN (Ze Ui (pv 0) Fq (λ_ _=>rfl)) (Jv gS Fq Fq)) (rA (pv 0) Fq bR))
    (Uj (Yh (pv 2))))) jY)
  (Mf (Yd (i:=1) JV.nd rfl (Dw rfl) (Ze Ui (pv 0) Fq (λ_ _=>rfl)))
  (Mf (Yd (i:=2) JV.nd rfl (Dw rfl) (Jv Vq (Jv Yf (Jv bP (Jv bP (Ze Ui (pv 0) Fq (λ_ _=>rfl)) (Jv Yf (Jv Yf (pv 1) (pv 1)) Fq)) (pv 1)) Fq) Fq))
  (Mf (Yd (i:=2) JV.nd rfl (Dw rfl) (Jv Vq (Jv Yf (pv 2) (pv 2)) Fq))
  (Uj (Yh (Jv jN (Jv Vq (Jv Yf (pv 2) (Jv bP (pv 2) Fq)) Fq) Fq))))))),?_⟩
 -- draws[1]=draws[1]+1
 refine ⟨_,rfl,d,_,1,_,rfl,rfl,Pe.of hd,rfl,_,_,rfl,rfl,_,rfl,d,_,1,1,rfl,rfl,hd,rfl,?_⟩
 have e1:(upd H d (.lst ([V.int c,V.int k,V.bl fl].set 1 (V.int (k+1))))) d=some (.lst [.int c,.int (k+1),.bl fl]):=Ds
 generalize hH1:upd H d (.lst ([V.int c,V.int k,V.bl fl].set 1 (V.int (k+1))))=H1 at e1
 have s1:Zi d H H1:=by rw[<- hH1]; exact Zi.upd
 refine ⟨_,rfl,d,_,2,_,rfl,rfl,Pe.of e1,rfl,_,rfl,?_⟩
 refine EL (λ_=>?_) (λ_=>?_)
 ·refine ⟨_,rfl,d,_,0,_,rfl,rfl,Pe.of e1,rfl,10,6,rfl,rfl,⟨by decide,by decide,by decide⟩,_,_,rfl,rfl,(by show (0:Int)<10 ^ (6:Int).toNat; decide),?_⟩
  refine ⟨_,rfl,d,_,0,_,rfl,rfl,Pe.of e1,rfl,10,6,rfl,rfl,⟨by decide,by decide,by decide⟩,_,_,rfl,rfl,⟨by decide,by decide⟩,_,rfl,d,_,0,0,rfl,rfl,e1,rfl,_,rfl,?_⟩
  exact q _ _ _ Ds (s1.trans Zi.upd)
 ·refine ⟨_,rfl,d,_,1,_,rfl,rfl,Pe.of e1,rfl,?_⟩
  have b1:=gV ((c+(k+1) * (k+1) * 7919+(k+1)) * 48271) 2147483629 (by decide)
  refine ⟨_,rfl,d,_,0,_,rfl,rfl,Pe.of e1,rfl,_,rfl,_,rfl,_,_,rfl,rfl,.inl ⟨by omega,by omega⟩,_,_,rfl,rfl,.inr ⟨by decide,by decide⟩,_,_,rfl,rfl,_,rfl,_,_,rfl,rfl,
   _,_,rfl,rfl,.inr ⟨by decide,by decide⟩,_,_,rfl,rfl,(by show (0:Int)<2147483629; decide),?_⟩
  generalize ((c+(k+1) * (k+1) * 7919+(k+1)) * 48271) % 2147483629=x at b1
  have b2:=gV (x * x) 2147483587 (by decide)
  refine ⟨_,rfl,_,rfl,_,_,rfl,rfl,.inl ⟨by omega,by omega⟩,_,_,rfl,rfl,(by show (0:Int)<2147483587; decide),?_⟩
  generalize (x * x) % 2147483587=y at b2
  refine ⟨_,rfl,_,rfl,_,_,rfl,rfl,_,_,rfl,rfl,.inl ⟨by omega,by omega⟩,_,_,rfl,rfl,(by show (0:Int)<2147483579; decide),_,_,rfl,rfl,⟨by decide,by decide⟩,?_⟩
  exact q _ _ _ e1 s1
theorem vH{f:Addr}{fd:Dc}(F:Fun K "_law_draws" "_law_draws" jP f fd):FnOk P w K mg base La 1 f fd ["_law_cell"] Xh:=zA F
theorem zS{f:Addr}{fd:Dc}(F:Fun K "_law_next" "_law_next" sQ f fd):FnOk P w K mg base La 1 f fd ["_law_draws_here"] (rF K Yo):=J6 (E1 F)
end
end K52
namespace DL
open PySem L2 Nd
def sub(a b:List Int):Bool:=a.all λi=>decide (i∈b)
def dP(a b:List Int):List Int:=a.filter λi=>decide (i∉b)
theorem N8{a b:List Int}:sub a b=true↔∀i∈a,i∈b:=by
 unfold sub
 simp [List.all_eq_true]
theorem w8{a b:List Int}:dP a b=[]↔sub a b=true:=by
 unfold dP
 rw[List.filter_eq_nil_iff,N8]
 simp
theorem j5{h:Int}{a:List Int}(r:Gp h a):a.Nodup:=r.1.imp λ{x y} h=>aU h
theorem uW{a:List Int}(nd:a.Nodup)(h:∀x∈a,0<=x/\x<60):a.length<=60:=Cg (NdS.len_leI nd λe he=>Ws (h e he).1 (h e he).2) (by decide)
theorem Nl(a:Int){b:Int}(h:0<b):0<=a % b/\a % b<b:=gV a b h
end DL
namespace Nd
open PySem L2 Ts
def Ed:Nat->List (List Int)
 | 0=>[[]]
 | n+1=>Ed n++(Ed n).map (·++[(n:Int)])
theorem cN:∀n,(Ed n).length=2 ^ n
 | 0=>rfl
 | n+1=>by
  show (Ed n++(Ed n).map (·++[(n:Int)])).length=2 ^ (n+1)
  rw[Bf,Af,cN n,Nat.pow_succ]
  omega
theorem Rt{n:Nat}(h:n<=10):(Ed n).length<=1024:=by
 rw[cN]
 exact Nat.pow_le_pow_right (by decide) h
theorem Nb:∀n,∀w∈Ed n,w.length<=n
 | 0,w,h=>by
  have : w=[]:=by simpa [Ed] using h
  rw[this]
  exact Aj _
 | n+1,w,h=>by
  rcases Aw.mp (show w∈Ed n++(Ed n).map (·++[(n:Int)]) from h) with h | h
  ·exact Nat.le_succ_of_le (Nb n w h)
  ·obtain ⟨v,hv,e⟩:=Df.mp h
   rw[<- e,Bf,Fl]
   exact Nat.succ_le_succ (Nb n v hv)
def Ord(l:List (List Int)):Prop:=l.Pairwise λx y=>HT.lexLt y x=false
theorem mX:∀{l m:List (List Int)},l.Perm m->Ord l->Ord m->l=m
 | [],m,p,_,_=>(List.Perm.nil_eq p)
 | x::l,[],p,_,_=>by
  have:=p.length_eq
  simp at this
 | x::l,y::m,p,h1,h2=>by
  obtain ⟨a1,a2⟩:=Bb.mp h1
  obtain ⟨b1,b2⟩:=Bb.mp h2
  have e:x=y:=by
   have mx:x∈y::m:=p.mem_iff.mp Ab
   have my:y∈x::l:=p.mem_iff.mpr Ab
   rcases An.mp mx with e | mx
   ·exact e
   ·rcases An.mp my with e | my
    ·exact e.symm
    ·exact jC (b1 x mx) (a1 y my) |>.symm▸rfl
  subst e
  rw[mX ((List.perm_cons x).mp p) a2 b2]
end Nd
namespace Nd
open PySem L2
def ch:Nat->Nat->Nat
 | _,0=>1
 | 0,_+1=>0
 | n+1,k+1=>ch n k+ch n (k+1)
theorem tT(n k:Nat):ch (n+1) (k+1)=ch n k+ch n (k+1):=rfl
theorem cF:∀{n k:Nat},n<k->ch n k=0
 | 0,0,h=>absurd h (Fo _)
 | 0,k+1,_=>rfl
 | n+1,0,h=>absurd h (Ka _)
 | n+1,k+1,h=>by rw[tT,cF (by omega:n<k),cF (by omega:n<k+1)]
theorem F4:∀n:Nat,ch n n=1
 | 0=>rfl
 | n+1=>by rw[tT,F4 n,cF (Tb n)]
def cw:Nat->Int->Nat->List (List Int)
 | _,_,0=>[[]]
 | 0,_,_+1=>[]
 | d+1,p,m+1=>(cw d (p+1) m).map (p::·)++cw d (p+1) (m+1)
def qR(top:Int):Nat->List Int->Nat
 | _,[]=>0
 | m,x::w=>ch (top - 1 - x).toNat m+qR top (m - 1) w
theorem cR:∀{n:Nat} {w:List Int},w∈Ed n↔Gp n w
 | 0,w=>by
  show w∈[[]]↔_
  rw[Al]
  constructor
  ·rintro rfl; exact Gp.nil _
  ·rintro ⟨_,h⟩
   match w with
   | []=>rfl
   | x::w=>have:=h x Ab; omega
 | n+1,w=>by
  show w∈Ed n++(Ed n).map (·++[(n:Int)])↔_
  rw[Aw,List.mem_map,cR]
  constructor
  ·rintro (h | ⟨v,hv,rfl⟩)
   ·exact h.up (by omega)
   ·have:=(cR.mp hv).more (by omega)
    exact this.up (by omega)
  ·intro h
   by_cases hn:(n:Int)∈w
   ·refine .inr ⟨w.dropLast,cR.mpr ?_,?_⟩
    ·have hne:w≠[]:=λz=>by rw[z] at hn; cases hn
     have hl:w.getLast hne=n:=by
      w_pre j
     have hd:=Jy hne
     have hp:=h.1
     rw[<- hd,hl] at hp
     obtain ⟨p1,_,p3⟩:=Cr.mp hp
     exact ⟨p1,λx hx=>⟨(h.2 x (List.dropLast_subset w hx)).1,p3 x hx _ (Al.mpr rfl)⟩⟩
    ·have hne:w≠[]:=λz=>by rw[z] at hn; cases hn
     have hl:w.getLast hne=n:=by
      w_pre j
     rw[<- hl]
     exact Jy hne
   ·refine .inl ⟨h.1,λx hx=>?_⟩
    have:=h.2 x hx
    have : x≠n:=λz=>hn (by rw[<- z]; exact hx)
    omega
theorem Rw:∀n:Nat,(Ed n).Nodup
 | 0=>Co.mpr ⟨Bd,Dv⟩
 | n+1=>by
  show (Ed n++(Ed n).map (·++[(n:Int)])).Nodup
  refine He.mpr ⟨Rw n,?_,λx hx y hy e=>?_⟩
  ·exact List.Pairwise.map _ (λa b h e=>h (List.append_cancel_right e)) (Rw n)
  ·subst e
   obtain ⟨v,_,rfl⟩:=Df.mp hy
   have:=(cR.mp hx).2 n (Ag _ (Al.mpr rfl))
   omega
end Nd
namespace DL
open PySem L2 Nd
def aJ:PF:=λds R=>∃h:Int,ds=[.int h]/\0<=h/\h<=10/\∀L:List (List Int),L.Perm (Ed h.toNat)->Ord L->R (wordsD L)
theorem Ym{L:List (List Int)}{n:Nat}(hn:n<=10)(p:L.Perm (Ed n)):L.length<=1024/\∀w∈L,Gp n w/\w.length<=10:=⟨by rw[p.length_eq]; exact Rt hn,λw hw=>⟨cR.mp (p.mem_iff.mp hw),Cg (Nb n w (p.mem_iff.mp hw)) hn⟩⟩
def zV(L:List (List Int)):List (List Int×Ae):=L.zipIdx.map λp=>(p.1,.int (p.2:Int))
def wQ(L:List (List Int)):Ae:=.dict (Ov (zV L))
def Yc(L:List (List Int))(f:List Int->Int):Ae:=.list ((L.map f).map Ax)
instance {L:List (List Int)} {f:List Int->Int}:Dp (Yc L f) 1:=⟨(inferInstance:Dp (.list ((L.map f).map Ax)) 1).h⟩
theorem nV{w:List Int}:∀{L:List (List Int)} (k:Nat),w∈L->∃i:Nat,L[i]? = some w/\(((L.zipIdx k).map λp=>(p.1,Ax (p.2:Int))).find? λp=>decide (p.1=w))=some (w,.int ((i+k:Nat):Int))
 | [],_,h=>nomatch h
 | x::L,k,h=>by
  rw[Nq,Ao,Il]
  by_cases e:x=w
  ·subst e
   exact ⟨0,rfl,by simp⟩
  ·obtain ⟨i,h1,h2⟩:=nV (k+1) ((An.mp h).resolve_left λz=>e z.symm)
   refine ⟨i+1,by simpa using h1,?_⟩
   have e':decide (x=w)=false:=decide_eq_false e
   simp only[e',h2]
   congr 3
   omega
theorem Q2{L:List (List Int)}{w:List Int}(h:w∈L):∃i:Nat,L[i]? = some w/\Wn (zV L) w=some (.int (i:Int)):=by
 obtain ⟨i,h1,h2⟩:=nV 0 h
 refine ⟨i,h1,?_⟩
 unfold Wn zV
 rw[h2]
 rfl
theorem tR{f:List Int->Ae}:∀(L:List (List Int)) (k:Nat),((((L.zipIdx k).map λp=>(p.1,Ax (p.2:Int)))).zip (L.map f)).map (λp=>Yy [Br p.1.1,p.2])=L.map λw=>.tuple [Br w,f w]
 | [],_=>rfl
 | x::L,k=>by
  rw[Nq,Ao,Ao,Mh,Ao,Ao,tR L (k+1)]
theorem iJ(L:List (List Int))(f:List Int->Int):(((zV L).zip ((L.map f).map Ax)).map λp=>Yy [Br p.1.1,p.2])=L.map λw=>.tuple [Br w,.int (f w)]:=by
 rw[Dn]
 exact tR (f:=λw=>.int (f w)) L 0
theorem CI{L:List (List Int)}{f:List Int->Int}{i:Nat}{w:List Int}(h:L[i]? = some w):Vu ((L.map f).map Ax) (i:Int)=some (.int (f w)):=hV (by rw[Bj,Bj,h]; rfl)
theorem AM{L:List (List Int)}(nd:L.Nodup){ns:List Int}(hl:ns.length=L.length):∃f,ns=L.map f:=by
 refine ⟨λw=>ns.getD (L.idxOf w) 0,?_⟩
 apply Iu
 intro j
 rw[Bj]
 cases q:L[j]? with
 | none =>
  rw[List.getElem?_eq_none_iff] at q
  exact List.getElem?_eq_none_iff.mpr (by omega)
 | some v =>
  obtain ⟨hj,hv⟩:=Av.mp q
  have hm:v∈L:=Be q
  have hi:L.idxOf v=j:=by
   have e1:L[L.idxOf v]? = some v:=by
    rw[Bx (gL hm)]
    exact congrArg some (List.getElem_idxOf _)
   exact (List.getElem?_inj (l:=L) (i:=L.idxOf v) (j:=j) (gL hm) nd).mp (by rw[e1,q])
  show ns[j]? = some (ns.getD (L.idxOf v) 0)
  rw[hi,kC,Bx (by omega)]
  rfl
def Xc(p t:Int)(f:List Int->Int)(w:List Int):Int:=if p∈w then f w else f w+t * f (On (w++[p]))
def tV:PF:=λds R=>∃h:Int,ds=[.int h]/\0<=h/\h<=10/\∀L:List (List Int),L.Perm (Ed h.toNat)->Ord L->R (wQ L)
def V5:PF:=λds R=>∃(n:Nat) (L:List (List Int)) (f:List Int->Int) (p t:Int),ds=[Yc L f,wQ L,.int p,.int t]/\n<=10/\L.Perm (Ed n)/\0<=p/\p<n/\(t=1\/t = -1)/\R (Yc L (Xc p t f))
def pW(deck:List (List Int))(w:List Int):Int:=(deck.countP λc=>sub w c:Nat)
theorem Te{L:List (List Int)}{n:Nat}(p:L.Perm (Ed n)):L.Nodup:=p.nodup_iff.mpr (Rw n)
theorem Yu{L:List (List Int)}{n:Nat}(p:L.Perm (Ed n)){w:List Int}:w∈L↔Gp n w:=p.mem_iff.trans cR
theorem Vs{n:Int}{w:List Int}{p:Int}(r:Gp n w)(p0:0<=p)(p1:p<n):Gp n (On (w++[p])):=⟨Ri _,λx hx=>by
 rcases Aw.mp (bW.mp hx) with z | z
 ·exact r.2 x z
 ·rw[Al.mp z]; exact ⟨p0,p1⟩⟩
theorem GY{w:List Int}{p i:Int}:i∈On (w++[p])↔i∈w\/i=p:=by
 rw[bW,Aw,Al]
def Lv(Q:List Int)(f:List Int->Int):List Int->Int:=Q.foldl (λf q=>Xc q (-1) f) f
theorem Ye(Q:List Int)(q:Int)(f:List Int->Int):Lv (Q++[q]) f=Xc q (-1) (Lv Q f):=by
 unfold Lv
 rw[List.foldl_append]
 rfl
def kX:PF:=λds R=>∃(n:Nat) (L:List (List Int)) (f:List Int->Int) (Q:List Int),ds=[wQ L,Yc L f,Br Q]/\n<=10/\L.Perm (Ed n)/\(∀q∈Q,0<=q/\q<n)/\R (Yc L (Lv Q f))
end DL
namespace DL
open PySem PySem.Spec PyProof.Rows L2 Nd
def Pt(L:List (List Int))(f:List Int->Int):List (List Int×Ae):=L.map λw=>(w,.int (f w))
theorem nJ:∀(L:List (List Int)) (es:List Ae) (acc:List (List Int×Ae)),L.length=es.length->L.Nodup->(∀w∈L,∀p∈acc,p.1≠w)->Sq acc (L.zip es)=acc++L.zip es
 | [],es,acc,_,_,_=>by simp [Sq]
 | w::L,[],acc,h,_,_=>by cases h
 | w::L,e::es,acc,h,nd,hn=>by
  have hp:Rc acc w e=acc++[(w,e)]:=by
   unfold Rc
   rw[if_neg]
   rw[dG]
   rintro ⟨p,hp,z⟩
   exact hn w Ab p hp (of_decide_eq_true z)
  have nd':=Co.mp nd
  show Sq (Rc acc w e) (L.zip es)=_
  rw[hp,nJ L es _ (Nat.succ.inj h) nd'.2 λv hv p hp=>?_]
  ·rw[Bt]; rfl
  ·rcases Aw.mp hp with z | z
   ·exact hn v (Ad _ hv) p z
   ·rw[Al.mp z]
    rintro rfl
    exact nd'.1 hv
theorem nC:∀(L:List (List Int)) (f:List Int->Int),L.zip ((L.map f).map Ax)=Pt L f
 | [],f=>rfl
 | w::L,f=>by
  have ih:=nC L f
  unfold Pt at ih ⊢
  rw[Ao,Ao,Mh,ih]
  rfl
theorem e8{L:List (List Int)}(nd:L.Nodup)(f:List Int->Int):Sq [] (L.zip ((L.map f).map Ax))=Pt L f:=by
 rw[nJ L _ [] (by rw[Af,Af]) nd λ_ _ p hp=>(nomatch hp),Uz,nC]
theorem Wp{w:List Int}{f:List Int->Int}:∀{L:List (List Int)},w∈L->Wn (Pt L f) w=some (.int (f w))
 | [],h=>(nomatch h)
 | v::L,h=>by
  unfold Wn Pt
  rw[Ao,Il]
  by_cases e:v=w
  ·subst e
   rw[show decide ((v,Ax (f v)).1=v)=true from decide_eq_true rfl]
   rfl
  ·rw[show decide ((v,Ax (f v)).1=w)=false from decide_eq_false e]
   have ih:=Wp (f:=f) (List.mem_of_ne_of_mem (λz=>e z.symm) h)
   exact ih
theorem E7{L:List (List Int)}{w:List Int}{f:List Int->Int}(h:w∈L)(z:Int):Rc (Pt L f) w (.int z)=Pt L λv=>if v=w then z else f v:=by
 unfold Rc
 rw[if_pos]
 ·unfold Pt
  rw[Dn]
  refine Jd λv _=>?_
  show (if v=w then (v,Ax z) else (v,Ax (f v)))=(v,Ax (if v=w then z else f v))
  split <;> rfl
 ·rw[dG]
  exact ⟨(w,.int (f w)),Df.mpr ⟨w,h,rfl⟩,decide_eq_true rfl⟩
theorem qQ{L:List (List Int)}{f g:List Int->Int}(h:∀w∈L,f w=g w):Pt L f=Pt L g:=by
 unfold Pt
 refine Jd λw hw=>?_
 rw[h w hw]
theorem sE{L:List (List Int)}{f:List Int->Int}(h:L≠[]):Pt L f≠[]:=by
 unfold Pt
 intro z
 exact h (xN.mp z)
theorem fM(L:List (List Int))(f:List Int->Int):(Pt L f).map (·.2)=(L.map f).map Ax:=by
 unfold Pt
 rw[Dn,Dn]
 rfl
def Mm(p:Int)(g:List Int->Int)(T:List (List Int))(w:List Int):Int:=if w∈T then Xc p (-1) g w else g w
theorem P5{p:Int}{g:List Int->Int}{T:List (List Int)}{w:List Int}(h:p∈w):Mm p g T w=g w:=by
 unfold Mm Xc
 rw[if_pos h,ite_self]
theorem sum_map_add{α:Type}(f g:α->Int):∀l:List α,(l.map λx=>f x+g x).sum=(l.map f).sum+(l.map g).sum
 | []=>rfl
 | a::l=>by rw[Ao,Ao,Ao,Hq,Hq,Hq,sum_map_add f g l]; omega
theorem eR(n:Nat):Pa (n+1)=Pa n++[(n:Int)]:=by
 unfold Pa
 rw[List.range_succ,Bh]
 rfl
theorem N4(n:Nat)(g:List Int->Int):((Ed (n+1)).map (Xc n (-1) g)).sum=((Ed n).map g).sum:=by
 have e:Ed (n+1)=Ed n++(Ed n).map (λw=>w++[(n:Int)]):=rfl
 rw[e,Bh,List.sum_append,Dn,<- sum_map_add]
 congr 1
 refine Jd λw hw=>?_
 have r:=cR.mp hw
 have n1:(n:Int)∉w:=λz=>by have:=r.2 _ z; omega
 have n2:(n:Int)∈w++[(n:Int)]:=Ag _ Ab
 have r2:Gp ((n:Int)+1) (w++[(n:Int)]):=r.more (by omega)
 show Xc n (-1) g w+Xc n (-1) g (w++[(n:Int)])=g w
 unfold Xc
 rw[if_neg n1,if_pos n2,E8 r2.1]
 omega
theorem kU(f:List Int->Int):∀n:Nat,((Ed n).map (Lv (Pa n) f)).sum=f []
 | 0=>by show f []+0=f []; omega
 | n+1=>by rw[eR,Ye,N4,kU f n]
theorem q8{l m:List Int}(h:l.Perm m):l.sum=m.sum:=by
 induction h with
 | nil=>rfl
 | cons x _ ih=>rw[Hq,Hq,ih]
 | swap x y l=>rw[Hq,Hq,Hq,Hq]; omega
 | trans _ _ a b=>exact a.trans b
end DL
namespace K52
open PySem L2 Nd DL
local macro_rules | `(tactic| array_get_dec) => do
  let ids:=(("e_seq e_skip e_ret e_if e_asg e_name e_name2 e_name4 e_own e_nT e_gtup e_gsn e_gsc e_op e_var e_c e_imm e_immB e_take e_I e_I0 e_eqF e_eqT e_inFt_w1 e_inTt_w1 e_ixl e_ixt e_cat e_catT_w1 e_rep e_nlT e_ntT e_pkOfsh e_pkOfow e_mdInpk e_mdInsh e_mdInow e_mdItsh e_mdItow e_nil e_cons e_tup e_lst e_noPart e_part e_partB e_sl e_slBl e_cb e_lenl e_lent e_listl e_tuplel e_intb e_max2 e_sortT e_isi e_v e_b e_bB e_notT e_andT e_orT e_orTf e_and e_andt e_ifE e_neg e_negB e_dL e_dTp e_lB e_tpB_w1 e_range1 e_rng1B e_enum e_enumB e_for e_comp e_comp2 e_compD e_noTest e_step e_stepT e_yesB e_stepD e_stepDT e_yesBD e_call e_callW e_draws e_drawsB e_append e_setI e_scrSl e_sortW e_dput e_zipD e_zipDB e_dcomp2 e_dcStep e_dcBT e_dcYes e_appI e_appIB e_dictZ e_dictZB e_minV e_getD e_isDc2 e_compP e_callA e_ssT e_ssTt e_tr e_trB minV_e getD_e callAB retA retA_sh wd_e dkv_e isDct dputB dk_e dget_e wordsD callB callBW tupB lstB datas pkMd allOw noPk appB setB own1 npk retE retW retL args0 frD frD1 alD List.map_cons List.map_nil List.replicate List.getElem?_cons_zero List.getElem?_cons_succ List.set_cons_zero List.set_cons_succ List.cons_append List.nil_append Option.map_some List.length_cons List.length_nil List.append_nil rdAdd rdSub rdMul rdDiv rdMod rdLt rdGt if_true mdZip Nat.reduceAdd Nat.reduceSub Nat.reduceLeDiff true_and im_e ima_e dp_e dpa_e any_int eqD_intd eqD_str eqD_li eqD_l0 ow_e tt_e cdiv_e Int.reduceLT Int.reduceLE Int.reduceNeg and_self Int.reduceToNat fold_w isi_li isi_tt isi_wt Bool.not_true decide_true String.reduceEq or_true true_or ifB_lt ifB_lf str_self Int.cast_ofNat_Int atI_0 atI_1 some_e st_never_deck" : String).splitOn " ").toArray.map λ(x:String)=>Lean.mkIdent x.toName
  `(tactic| try simp only [$[$ids:ident],*])
section
variable{P:Bl}{w:World}{K:PySem.W.Frag}{mg:Str->Option Value}{base:Heap}
theorem HU:FnScope ["one", "other"] ["one", "other"] (Cf Sd):=⟨rfl,rfl,rfl,by decide +kernel,rfl,by decide +kernel,by decide +kernel⟩
theorem lU{f:Addr}{fd:Dc}(F:Fun K "together" "together" Sd f fd)(mT:mg "tuple" = none)(mS:mg "sorted" = none)(mE:mg "set" = none):FnOk P w K mg base La 1 f fd ["one", "other"] (U7 K):=by
 refine F.ok HU (λvs H Q E h=>?_) (λcdv A outer s H vs Q E hr h=>?_)
 ·obtain ⟨a,b,ns,ms,rfl,_⟩:=h
  rfl
 obtain ⟨a,b,ns,ms,rfl,hA,hB,rn,rm,q⟩:=h
 refine ⟨_,Uj (Yh (Mv Vg rfl mT (by decide +kernel) (Ia (cA (r:=rX w) (Xa rfl) rfl mS (by decide +kernel) (Ia
  (Jv (r:=IZ w) A5 (Mv (r:=Z0 w K) (cS rfl) rfl mE (by decide +kernel) (Ia (pv 0) Np)) (Mv (r:=Z0 w K) (cS rfl) rfl mE (by decide +kernel) (Ia (pv 1) Np))) Np)) Np))),?_⟩
 refine ⟨_,rfl,a,ns,CQ,rfl,hA,(by show CQ.length<=62; decide),rZ rn,λp1 n1=>?_⟩
 have s1:=Fe n1 (Wo w p1 ns)
 refine ⟨_,rfl,b,ms,CQ,rfl,Sx.tup s1 hB,(by show CQ.length<=62; decide),rZ rm,λp2 n2=>?_⟩
 have s2:=Fe n2 (Wo w p2 ms)
 refine ⟨p1,p2,ns,ms,CQ,rfl,rfl,Fn Ds n2,s2 _ _ Ds,Ds,(by show CQ.length<=62; decide),rZ rn,rZ rm,λp3 n3=>?_⟩
 have s3:=Fe n3 (Wo w p3 (ns++ms))
 refine ⟨p3,_,rfl,Ds,λp4 ts n4 nd pw mem=>?_⟩
 have s4:=Fe n4 (.lst (ts.map V.int))
 refine ⟨p4,_,rfl,.inl ⟨Pe.of Ds,λp5 n5=>?_⟩⟩
 have s5:=Fe n5 (.tup (ts.map V.int))
 have sA:=((s1.trans s2).trans (s3.trans s4))
 exact q p5 ts _ (sA.free n5) Ds nd pw mem (sA.trans s5)
theorem iP{f:Addr}{fd:Dc}(F:Fun K "together" "together" Sd f fd)(mT:mg "tuple" = none)(mS:mg "sorted" = none)(mE:mg "set" = none):FnOk P w K mg base La 1 f fd ["one", "other"] (bJ K yE):=BB (lU F mT mS mE)
theorem iV:FnScope ["holes", "words", "place"] ["holes"] (Cf Qg):=⟨rfl,rfl,rfl,by decide +kernel,rfl,by decide +kernel,by decide +kernel⟩
theorem gY{f   : Addr}{fd  : Dc}(F:Fun K "all_words" "all_words" Qg f fd)(mz_range:mg "range" = none)(mz_sorted:mg "sorted" = none):FnOk P w K mg base La 1 f fd ["holes"] (bJ K (aJ)):=by
 refine' Qi (k:=0) F iV (λcdv A outer s H E hr=>?hb) ?h
 case hb =>
  have hu64:=hr.units
  have CS1:∀{scope:Scope} (h:scope={ kind:=.function,names:=[(".0",.local),("word",.local),("place",.free)],isGenerator:=false,isCoroutine:=false }),
    CompScope (Qo La P w K mg base ["holes", "words", "place"] "all_words" (Cf Qg) f cdv A outer s H E).nox scope [("place",s.heap.objs.size+1)] "word" ["place"] [2]:=by
   w_pre t
  exact Dd (Gg (i:=1) iV.nd rfl (Dw rfl) (Lk (Ba (Sg Bq) Bq)))
   (Dd (Nm Ex rfl (Lw rfl mz_range (Ba (Bc (pv 0)) Bq)) (Kr (i:=2) iV.nd rfl (Or.inr rfl))
   (Eo (Gg (i:=1) iV.nd rfl (Dw rfl) (bY (Bc (pv 1)) (Xn (CS1 rfl) rfl (C8 (Bc (pv 1))) (λ_ _ _=>Na) (λ_ _ _=>aQ (Bc (pv 0)) (Sg (Ba (Sj (Bc (pv 1))) Bq))))))))
   (Eo (Iz (Jj (Ts.call_sortedI hu64) kT rfl mz_sorted (by decide +kernel) (Ba (Bc (pv 1)) Bq)))))
 case h =>
  rintro ds R ⟨h,rfl,h0,h10,hR⟩
  w_pre o7
  array_get_dec
  refine ⟨by omega,by omega,?_⟩
  w_pre l4
  ·rintro i a _ ha ⟨v,rfl,hv⟩
   w_pre q6
   array_get_dec
   refine tX (l:=Ed a) (g:=Br) rfl (λw=>Br (w++[(a:Int)])) (λw hw yes no hy=>?_) ?_
   ·have lw:=Nb a w hw
    array_get_dec
    refine ⟨by rw[Af]; omega,?_⟩
    unfold Br at hy
    rw[Bh] at hy
    exact hy
   ·array_get_dec
    w_pre d2
    rfl
  ·rintro _ ⟨v,rfl,hv⟩
   rw[Dh]
   array_get_dec
   exact ⟨_,rfl,λL pe pw=>hR L pe pw⟩
theorem eJ:FnScope ["_law_holes", "_law_found", "_law_place"] ["_law_holes"] (Cf Oi):=⟨rfl,rfl,rfl,by decide +kernel,rfl,by decide +kernel,by decide +kernel⟩
theorem dQ{f   : Addr}{fd  : Dc}(F:Fun K "_law_words" "_law_words" Oi f fd)(mz_range:mg "range" = none)(mz_sorted:mg "sorted" = none):FnOk P w K mg base La 1 f fd ["_law_holes"] (bJ K (aJ)):=by
 refine' Qi (k:=0) F eJ (λcdv A outer s H E hr=>?hb) ?h
 case hb =>
  have hu64:=hr.units
  have CS1:∀{scope:Scope} (h:scope={ kind:=.function,names:=[(".0",.local),("_law_word",.local),("_law_place",.free)],isGenerator:=false,isCoroutine:=false }),
    CompScope (Qo La P w K mg base ["_law_holes", "_law_found", "_law_place"] "_law_words" (Cf Oi) f cdv A outer s H E).nox scope [("_law_place",s.heap.objs.size+1)] "_law_word" ["_law_place"] [2]:=by
   w_pre t
  exact Dd (Gg (i:=1) eJ.nd rfl (Dw rfl) (Lk (Ba (Sg Bq) Bq)))
   (Dd (Nm Ex rfl (Lw rfl mz_range (Ba (Bc (pv 0)) Bq)) (Kr (i:=2) eJ.nd rfl (Or.inr rfl))
   (Eo (Gg (i:=1) eJ.nd rfl (Dw rfl) (bY (Bc (pv 1)) (Xn (CS1 rfl) rfl (C8 (Bc (pv 1))) (λ_ _ _=>Na) (λ_ _ _=>aQ (Bc (pv 0)) (Sg (Ba (Sj (Bc (pv 1))) Bq))))))))
   (Eo (Iz (Jj (Ts.call_sortedI hu64) kT rfl mz_sorted (by decide +kernel) (Ba (Bc (pv 1)) Bq)))))
 case h =>
  rintro ds R ⟨h,rfl,h0,h10,hR⟩
  w_pre o7
  array_get_dec
  refine ⟨by omega,by omega,?_⟩
  w_pre l4
  ·rintro i a _ ha ⟨v,rfl,hv⟩
   w_pre q6
   array_get_dec
   refine tX (l:=Ed a) (g:=Br) rfl (λw=>Br (w++[(a:Int)])) (λw hw yes no hy=>?_) ?_
   ·have lw:=Nb a w hw
    array_get_dec
    refine ⟨by rw[Af]; omega,?_⟩
    unfold Br at hy
    rw[Bh] at hy
    exact hy
   ·array_get_dec
    w_pre d2
    rfl
  ·rintro _ ⟨v,rfl,hv⟩
   rw[Dh]
   array_get_dec
   exact ⟨_,rfl,λL pe pw=>hR L pe pw⟩
end
def sC:DF:=λds n R=>∃h:Int,ds=[.int h]/\0<h/\h<=60/\n<=90000/\∀ns,Gp h ns->R (Br ns) (n+1)
def B7:DF:=λds n R=>∃h m:Int,ds=[.int h,.int m]/\0<h/\h<=10/\0<=m/\m<=60/\n<=50000/\∀(deck:List (List Int)) n',n<=n'->n'<=n+200->deck.length<=60->(∀c∈deck,Gp h c)->R (.list (deck.map Br)) n'
def t8:PF:=λds R=>∃a b:List Int,ds=[Br a,Br b]/\R (.bool (sub a b))
section
variable{P:Bl}{w:World}{K:PySem.W.Frag}{mg:Str->Option Value}{base:Heap}
theorem eG:FnScope ["_law_draws_here", "_law_holes", "_law_pick", "_law_told", "_law_place"] ["_law_draws_here", "_law_holes"] (Cf Rq):=⟨rfl,rfl,rfl,by decide +kernel,rfl,by decide +kernel,by decide +kernel⟩
theorem dW{f f_L_next  : Addr}{fd d_L_next:Dc}(F:Fun K "_law_small" "_law_small" Rq f fd)(G_L_next:FnOk P w K mg base La 1 f_L_next d_L_next ["_law_draws_here"] (rF K Yo))(b_L_next:Binds K d_L_next ["_law_draws_here"] [])(k_L_next:PySem.W.keepIn K (.ref f_L_next)=true)(m_L_next:mg "_law_next" = some (.ref f_L_next))(mz_range:mg "range" = none)(mz_tuple:mg "tuple" = none):FnOk P w K mg base La 2 f fd ["_law_draws_here", "_law_holes"] (rF K (sC)):=by
 refine' jM (k:=1) F eG (λcdv A outer s H E hr=>?hb) ?h
 case hb =>
  have hr1:Room 1 _:=hr.mono (by decide)
  have hu64:=hr.units
  exact Dd (Gg (i:=2) eG.nd rfl (Dw rfl) (Hz G_L_next hr1 rfl m_L_next k_L_next b_L_next Jl (pv 0) Bq))
   (Dd (aR (i:=3) eG.nd rfl (Dw rfl) (Lk Bq))
   (Dd (Nm Ex rfl (Lw rfl mz_range (Ba (Bc (pv 1)) Bq)) (Kr (i:=4) eG.nd rfl (Dw rfl))
   (Dd (Sn (aW hu64 (Kd (Bc (pv 2)) Cp) Cp)
    (Eo (gA (pv 3) (Bc (pv 4)))) Nn)
    (Eo (Gg (i:=2) eG.nd rfl (Dw rfl) (Vo (Bc (pv 2)) Cp)))))
   (Eo (Iz (Os bL (cM (i:=true)) rfl mz_tuple (by decide +kernel) (Ba (Bc (pv 3)) Bq))))))
 case h =>
  rintro ds n R ⟨h,rfl,h0,h1,hn,hR⟩
  w_pre o7
  array_get_dec
  refine ⟨rfl,by omega,λr1=>?_⟩
  array_get_dec
  refine ⟨by omega,by omega,?_⟩
  refine Zz (l:=Cd h.toNat) (g:=λi:Nat=>.int i) rfl (λi δ=>∃(p:Int) (ns:List Int) (v:DV),δ=⟨[.drw,.dat .sh (.int h),.dat .sh (.int p),.dat .ow (.list (ns.map Ax)),v],n+1⟩/\Gp i ns/\NP v) ?_ ?_ ?_
  ·exact ⟨_,[],_,rfl,Gp.nil _,Pz⟩
  ·rintro i a _ ha ⟨p,ns,v,rfl,hr,hv⟩
   w_pre t8
   have l60:=uW (j5 hr) (λx hx=>by have:=hr.2 x hx; omega)
   array_get_dec
   refine Zd (λhb=>?_) (λhb=>?_)
   ·array_get_dec
    refine ⟨by rw[Af]; omega,?_⟩
    refine ⟨_,ns++[(a:Int)],_,Tr (by rw[Bh]; rfl) rfl,hr.more (by omega),Jk⟩
   ·array_get_dec
    exact ⟨_,ns,_,rfl,hr.up (by omega),Jk⟩
  ·rintro _ ⟨p,ns,v,rfl,hr,hv⟩
   rw[Dh] at hr
   array_get_dec
   exact ⟨by omega,hR ns (by rwa [show ((h.toNat:Nat):Int)=h by omega] at hr)⟩
theorem jB:FnScope ["_law_one", "_law_other"] ["_law_one", "_law_other"] (Cf Qd):=⟨rfl,rfl,rfl,by decide +kernel,rfl,by decide +kernel,by decide +kernel⟩
theorem iC{f   : Addr}{fd  : Dc}(F:Fun K "_law_lies" "_law_lies" Qd f fd):FnOk P w K mg base La 1 f fd ["_law_one", "_law_other"] (bJ K (t8)):=by
 refine' Qi (k:=0) F jB (λcdv A outer s H E hr=>?hb) ?h
 case hb =>
  have hu64:=hr.units
  have CS1:∀{scope:Scope} (h:scope={ kind:=.function,names:=[(".0",.local),("_law_place",.local),("_law_other",.free)],isGenerator:=false,isCoroutine:=false }),
    CompScope (Qo La P w K mg base ["_law_one", "_law_other"] "_law_lies" (Cf Qd) f cdv A outer s H E).nox scope [("_law_other",s.heap.objs.size+1)] "_law_place" ["_law_other"] [1]:=by
   w_pre t
  exact Eo (Iz (rW hu64 (Xn (CS1 rfl) rfl (JI (Bc (pv 0))) (λ_ _ _=>uA (mI hu64 (Bc (pv 0)) (Bc (pv 1)))) (λ_ _ _=>Bc (pv 0))) (Lk Bq)))
 case h =>
  rintro ds R ⟨a,b,rfl,hR⟩
  w_pre o7
  array_get_dec
  refine zC (l:=a) (g:=Ax) rfl (λi=>decide (i∉b)) (λi=>.int i) (λi _ yes no hy hn=>?_) ?_
  ·array_get_dec
   refine uE (λh=>?_) (λh=>?_)
   ·array_get_dec
    exact hy (by simpa using h)
   ·exact hn (by simpa using h)
  ·array_get_dec
   have e:((a.filter λi=>decide (i∉b)).map Ax).isEmpty=sub a b:=by
    rw[Bool.eq_iff_iff,List.isEmpty_iff,List.map_eq_nil_iff]
    exact w8
   rw[e]
   exact hR
theorem iS:FnScope ["_law_draws_here", "_law_holes", "_law_limit", "_law_deck_here", "_law_k", "_law_card", "_law_pick", "_law_place"] ["_law_draws_here", "_law_holes", "_law_limit"] (Cf Tp):=⟨rfl,rfl,rfl,by decide +kernel,rfl,by decide +kernel,by decide +kernel⟩
theorem gW{f f_L_next f_L_small  : Addr}{fd d_L_next d_L_small:Dc}(F:Fun K "_law_deck" "_law_deck" Tp f fd)(G_L_next:FnOk P w K mg base La 1 f_L_next d_L_next ["_law_draws_here"] (rF K Yo))(b_L_next:Binds K d_L_next ["_law_draws_here"] [])(k_L_next:PySem.W.keepIn K (.ref f_L_next)=true)(m_L_next:mg "_law_next" = some (.ref f_L_next))(G_L_small:FnOk P w K mg base La 2 f_L_small d_L_small ["_law_draws_here", "_law_holes"] (rF K (sC)))(b_L_small:Binds K d_L_small ["_law_draws_here", "_law_holes"] [])(k_L_small:PySem.W.keepIn K (.ref f_L_small)=true)(m_L_small:mg "_law_small" = some (.ref f_L_small))(mz_range:mg "range" = none)(mz_len:mg "len" = none)(mz_sorted:mg "sorted" = none)(mz_set:mg "set" = none)(mz_tuple:mg "tuple" = none):FnOk P w K mg base La 3 f fd ["_law_draws_here", "_law_holes", "_law_limit"] (rF K (B7)):=by
 refine' jM (k:=2) F iS (λcdv A outer s H E hr=>?hb) ?h
 case hb =>
  have hr1:Room 1 _:=hr.mono (by decide)
  have hr2:Room 2 _:=hr.mono (by decide)
  have hu64:=hr.units
  exact Dd (aR (i:=3) iS.nd rfl (Dw rfl) (Lk Bq))
   (Dd (Nm Ex rfl (Lw rfl mz_range (Ba (Kd (Hz G_L_next hr1 rfl m_L_next k_L_next b_L_next Jl (pv 0) Bq) (Yv (Bc (pv 2)) Cp)) Bq)) (Kr (i:=4) iS.nd rfl (Dw rfl))
   (Dd (Gg (i:=5) iS.nd rfl (Dw rfl) (Hz G_L_small hr2 rfl m_L_small k_L_small b_L_small Jl (pv 0) (Ba (Bc (pv 1)) Bq)))
    (Dd (Gg (i:=6) iS.nd rfl (Dw rfl) (Hz G_L_next hr1 rfl m_L_next k_L_next b_L_next Jl (pv 0) Bq))
    (Dd (Sn (L6 (zX (rS hu64 (Bc (pv 3)) (Lk Bq)) (tY (aW hu64 (Kd (Bc (pv 6)) Cp) Cp))))
    (Eo (Gg (i:=5) iS.nd rfl (Dw rfl) (Sj (Lm (Bc (pv 3)) (Kd (Vo (Bc (pv 6)) Cp) (Jj Tv bQ rfl mz_len (by decide +kernel) (Ba (Bc (pv 3)) Bq))))))) Nn)
    (Dd (Sn (L6 (zX (rS hu64 (Bc (pv 3)) (Lk Bq)) (tY (aW hu64 (Kd (Bc (pv 6)) Cp) Cp))))
    (Dd (Gg (i:=5) iS.nd rfl (Dw rfl) (Sj (Lm (Bc (pv 3)) (Kd (Vo (Bc (pv 6)) Cp) (Jj Tv bQ rfl mz_len (by decide +kernel) (Ba (Bc (pv 3)) Bq))))))
     (Dd (Gg (i:=7) iS.nd rfl (Dw rfl) (Kd (Vo (Bc (pv 6)) Cp) (Bc (pv 1))))
     (Eo (Gg (i:=5) iS.nd rfl (Dw rfl) (Os bL (cM (i:=true)) rfl mz_tuple (by decide +kernel) (Ba (BU rfl rfl mz_sorted rfl mz_set (Ba (aQ (Bc (pv 5)) (Sg (Ba (Sj (Bc (pv 7))) Bq))) Bq)) Bq)))))) Nn)
    (Eo (gA (pv 3) (Bc (pv 5)))))))))
   (Eo (Iz (iN (pv 3)))))
 case h =>
  rintro ds n R ⟨h,m,rfl,h0,h1,m0,m1,hn,hR⟩
  w_pre o7
  array_get_dec
  refine ⟨rfl,by omega,λr1=>?_⟩
  array_get_dec
  have bm:=Nl r1 (b:=m+1) (by omega)
  refine ⟨by omega,by omega,by omega,?_⟩
  refine Zz (l:=Cd (r1 % (m+1)).toNat) (g:=λi:Nat=>.int i) rfl (λi δ=>∃(deck:List (List Int)) (v4 v5 v6 v7:DV) (n':Nat),δ=⟨[.drw,.dat .sh (.int h),.dat .sh (.int m),.dat .ow (.list (deck.map Br)),v4,v5,v6,v7],n'⟩/\n'=n+1+2 * i/\deck.length=i/\(∀c∈deck,Gp h c)/\NP v4/\NP v5/\NP v6/\NP v7) ?_ ?_ ?_
  ·exact ⟨[],_,_,_,_,_,rfl,rfl,rfl,λ_ z=>(nomatch z),Pz,Pz,Pz,Pz⟩
  ·rintro i a _ ha ⟨deck,v4,v5,v6,v7,n1,rfl,k1,ld,hd,hv4,hv5,hv6,hv7⟩
   w_pre t8
   array_get_dec
   refine ⟨h,rfl,h0,by omega,by omega,λw rw_=>?_⟩
   array_get_dec
   refine ⟨rfl,by omega,λr2=>?_⟩
   array_get_dec
   have pick:∀q:Int,deck≠[]->∃c∈deck,Vu (deck.map Br) (q % ((deck.map Br).length:Int))=some (Br c):=λq hne=>by
    have hl:0<deck.length:=Lo.mpr hne
    have bl:=Nl q (b:=((deck.map Br).length:Int)) (by rw[Af]; omega)
    rw[Af] at bl ⊢
    exact vU bl.1 bl.2
   refine U8 (λP=>K0 _ _ _ P) (λδ=>∃(c:List Int),δ=⟨[.drw,.dat .sh (.int h),.dat .sh (.int m),.dat .ow (.list (deck.map Br)),.dat .sh (.int a),.dat .sh (Br c),.dat .sh (.int r2),v7],n1+1+1⟩/\Gp h c) (λN hN=>?_) ?_
   ·refine j9 (λhb=>?_) (λhb=>?_)
    ·have hne:deck≠[]:=λz=>by rw[z] at hb; cases hb
     array_get_dec
     refine Zd (λhb2=>?_) (λhb2=>?_)
     ·obtain ⟨c,hc,e⟩:=pick (r2 / 3) hne
      have hl:0<deck.length:=Lo.mpr hne
      array_get_dec
      rw[e]
      refine ⟨by rw[Af]; omega,Br c,rfl,?_⟩
      try array_get_dec
      exact hN _ ⟨c,rfl,hd c hc⟩
     ·array_get_dec
      exact hN _ ⟨w,rfl,rw_⟩
    ·array_get_dec
     exact hN _ ⟨w,rfl,rw_⟩
   ·rintro _ ⟨c,rfl,rc⟩
    array_get_dec
    refine U8 (λP=>K0 _ _ _ P) (λδ=>∃(c:List Int) (v7:DV),δ=⟨[.drw,.dat .sh (.int h),.dat .sh (.int m),.dat .ow (.list (deck.map Br)),.dat .sh (.int a),.dat .sh (Br c),.dat .sh (.int r2),v7],n1+1+1⟩/\Gp h c/\NP v7) (λN hN=>?_) ?_
    ·refine j9 (λhb=>?_) (λhb=>?_)
     ·have hne:deck≠[]:=λz=>by rw[z] at hb; cases hb
      array_get_dec
      refine Zd (λhb2=>?_) (λhb2=>?_)
      ·obtain ⟨c2,hc2,e⟩:=pick (r2 / 3) hne
       have hl:0<deck.length:=Lo.mpr hne
       have bh:=Nl (r2 / 300) h0
       have r2c:=hd c2 hc2
       have l60:=bI (r2c.up (show h<=60 by omega))
       array_get_dec
       rw[e]
       refine ⟨by rw[Af]; omega,Br c2,rfl,?_⟩
       array_get_dec
       refine ⟨by omega,by rw[Af]; omega,c2++[r2 / 300 % h],by rw[Bh]; rfl,λx hx=>?_,?_⟩
       ·rcases Aw.mp hx with z | z
        ·have:=r2c.2 x z; omega
        ·rw[Al.mp z]; omega
       ·try array_get_dec
        exact hN _ ⟨_,_,rfl,Vs r2c bh.1 bh.2,Jk⟩
      ·array_get_dec
       exact hN _ ⟨c,_,rfl,rc,hv7⟩
     ·array_get_dec
      exact hN _ ⟨c,_,rfl,rc,hv7⟩
    ·clear hv7
     rintro _ ⟨c,v7,rfl,rc,hv7⟩
     array_get_dec
     refine ⟨by simp [npk,hv7 _],by rw[Af]; omega,?_⟩
     refine ⟨deck++[c],_,_,_,_,_,Tr (by rw[Bh]; rfl) rfl,by omega,by rw[Bf,Fl]; omega,λx hx=>?_,Jk,Jk,Jk,hv7⟩
     w_pre z7
     ·exact hd x z
     ·rw[Al.mp z]; exact rc
  ·rintro _ ⟨deck,v4,v5,v6,v7,n1,rfl,k1,ld,hd,hv4,hv5,hv6,hv7⟩
   rw[Dh] at k1 ld
   array_get_dec
   exact ⟨by omega,hR deck _ (by omega) (by omega) (by omega) hd⟩
theorem nA:FnScope ["holes"] ["holes"] (Cf Rz):=⟨rfl,rfl,rfl,by decide +kernel,rfl,by decide +kernel,by decide +kernel⟩
theorem oI{f f_all_words  : Addr}{fd d_all_words:Dc}(F:Fun K "order_of" "order_of" Rz f fd)(G_all_words:FnOk P w K mg base La 1 f_all_words d_all_words ["holes"] (bJ K (aJ)))(b_all_words:Binds K d_all_words ["holes"] [])(k_all_words:PySem.W.keepIn K (.ref f_all_words)=true)(m_all_words:mg "all_words" = some (.ref f_all_words))(mz_enumerate:mg "enumerate" = none):FnOk P w K mg base La 2 f fd ["holes"] (bJ K (tV)):=by
 refine' Qi (k:=1) F nA (λcdv A outer s H E hr=>?hb) ?h
 case hb =>
  have hr1:Room 1 _:=hr.mono (by decide)
  have hu64:=hr.units
  have CS1:∀{scope:Scope} (h:scope={ kind:=.function,names:=[(".0",.local),("number",.local),("word",.local)],isGenerator:=false,isCoroutine:=false }),
    CompScope (Qo La P w K mg base ["holes"] "order_of" (Cf Rz) f cdv A outer s H E).nox scope [] "number" [] []:=by
   w_pre f4
  exact Eo (Iz (uT hu64 (CS1 rfl) (.inl rfl) (by decide +kernel) rfl (M5 rfl mz_enumerate (Ba (Om G_all_words hr1 rfl m_all_words k_all_words b_all_words Jl (Ba (Bc (pv 0)) Bq)) Bq)) (λ_ _ _=>Na) (λ_ _ _=>Bc (pv 1)) (λ_ _ _=>Bc (pv 0))))
 case h =>
  rintro ds R ⟨h,rfl,h0,h10,hR⟩
  w_pre o7
  array_get_dec
  refine ⟨h,rfl,h0,h10,λL pe po=>?_⟩
  have nd:=Te pe
  have ll:=(Ym (n:=h.toNat) (by omega) pe).1
  array_get_dec
  refine G7 (l:=L.zipIdx) (g1:=λp=>.int p.2) (g2:=λp=>Br p.1) (by rw[O6,Dn]; rfl) (by rw[Mi]; omega) (λp=>p.1) (λp=>.int p.2) (by rw[List.zipIdx_map_fst]; exact nd) (λp _ yes no hy=>?_) ?_
  ·array_get_dec
   exact hy
  ·array_get_dec
   exact hR L pe po
theorem xC:FnScope ["numbers", "order", "place", "times"] ["numbers", "order", "place", "times"] (Cf Wx):=⟨rfl,rfl,rfl,by decide +kernel,rfl,by decide +kernel,by decide +kernel⟩
theorem vE{f f_together  : Addr}{fd d_together:Dc}(F:Fun K "put_to" "put_to" Wx f fd)(G_together:FnOk P w K mg base La 1 f_together d_together ["one", "other"] (bJ K yE))(b_together:Binds K d_together ["one", "other"] [])(k_together:PySem.W.keepIn K (.ref f_together)=true)(m_together:mg "together" = some (.ref f_together))(mz_zip:mg "zip" = none):FnOk P w K mg base La 2 f fd ["numbers", "order", "place", "times"] (bJ K (V5)):=by
 refine' Qi (k:=1) F xC (λcdv A outer s H E hr=>?hb) ?h
 case hb =>
  have hr1:Room 1 _:=hr.mono (by decide)
  have hu64:=hr.units
  have CS1:∀{scope:Scope} (h:scope={ kind:=.function,names:=[(".0",.local),("word",.local),("number",.local),("together",.globalImplicit),("numbers",.free),("order",.free),("place",.free),("times",.free)],isGenerator:=false,isCoroutine:=false }),
    CompScope (Qo La P w K mg base ["numbers", "order", "place", "times"] "put_to" (Cf Wx) f cdv A outer s H E).nox scope [("times",s.heap.objs.size+4),("place",s.heap.objs.size+3),("order",s.heap.objs.size+2),("numbers",s.heap.objs.size+1)] "word" ["numbers", "order", "place", "times"] [0,1,2,3]:=by
   rintro scope rfl
   w_pre u7
   ·have z:=Gw h
    simp only[An,Bd,or_false,Js] at z
    rcases z with ⟨rfl,rfl⟩ | ⟨rfl,rfl⟩ | ⟨rfl,rfl⟩ | ⟨rfl,rfl⟩ <;> rfl
   ·match k,e1,e2 with
    | 0,e1,e2=>cases e1; cases e2; exact ⟨rfl,rfl,by first | exact .inl rfl | exact .inr rfl⟩
    | 1,e1,e2=>cases e1; cases e2; exact ⟨rfl,rfl,by first | exact .inl rfl | exact .inr rfl⟩
    | 2,e1,e2=>cases e1; cases e2; exact ⟨rfl,rfl,by first | exact .inl rfl | exact .inr rfl⟩
    | 3,e1,e2=>cases e1; cases e2; exact ⟨rfl,rfl,by first | exact .inl rfl | exact .inr rfl⟩
    | k+4,e1,e2=>cases e1
  exact Eo (Iz (A8 (CS1 rfl) (.inl rfl) (by decide +kernel) rfl (jU rfl mz_zip (Ba (Bc (pv 1)) (Ba (Bc (pv 0)) Bq))) (λ_ _ _=>Na) (λ_ _ _=>BX (FU hu64 (Bc (pv 4)) (Bc (pv 0))) (Bc (pv 1)) (Yv (Bc (pv 1)) (yX (Bc (pv 5)) (Lm (Bc (pv 2)) (aG hu64 (Bc (pv 3)) (Om G_together hr1 rfl m_together k_together b_together Jl (Ba (Bc (pv 0)) (Ba (Sg (Ba (Sj (Bc (pv 4))) Bq)) Bq))))))))))
 case h =>
  rintro ds R ⟨n,L,f,p,t,rfl,hn,pe,p0,p1,ht,hR⟩
  w_pre o7
  have hm:=λw=>(Yu (w:=w) pe)
  unfold Yc wQ
  array_get_dec
  rw[iJ]
  refine BM (l:=L) (g1:=Br) (g2:=λw=>.int (f w)) rfl (λ_=>true) (λw=>.int (Xc p t f w)) (λw hw yes no hy _=>?_) ?_
  ·have hy:=hy rfl
   have rw_:=(hm w).mp hw
   unfold Xc at hy
   array_get_dec
   refine GN (λh=>?_) (λh=>?_)
   ·array_get_dec
    rw[if_pos (of_decide_eq_true h)] at hy
    exact hy
   ·rw[if_neg (of_decide_eq_false h)] at hy
    have rp:=Vs rw_ p0 p1
    obtain ⟨i,e1,e2⟩:=Q2 ((hm _).mpr rp)
    have e3:=CI (f:=f) e1
    array_get_dec
    refine ⟨w,[p],rfl,rw_.up (by omega),⟨Ey _ _,λx hx=>by rw[Al.mp hx]; omega⟩,?_⟩
    array_get_dec
    refine ⟨_,e2,?_⟩
    array_get_dec
    refine ⟨_,e3,?_⟩
    have ct:B3 t (f (On (w++[p]))):=by rcases ht with rfl | rfl <;> exact .inl ⟨by decide,by decide⟩
    array_get_dec
    exact ⟨ct,hy⟩
  ·rw[xO.mpr λ_ _=>rfl]
   array_get_dec
   unfold Yc at hR
   rw[Dn] at hR
   exact hR
theorem iM:FnScope ["order", "numbers", "places", "told", "place"] ["order", "numbers", "places"] (Cf Tx):=⟨rfl,rfl,rfl,by decide +kernel,rfl,by decide +kernel,by decide +kernel⟩
theorem hZ{f f_put_to  : Addr}{fd d_put_to:Dc}(F:Fun K "parted_by" "parted_by" Tx f fd)(G_put_to:FnOk P w K mg base La 2 f_put_to d_put_to ["numbers", "order", "place", "times"] (bJ K (V5)))(b_put_to:Binds K d_put_to ["numbers", "order", "place", "times"] [])(k_put_to:PySem.W.keepIn K (.ref f_put_to)=true)(m_put_to:mg "put_to" = some (.ref f_put_to)):FnOk P w K mg base La 3 f fd ["order", "numbers", "places"] (HD K (kX)):=by
 refine' A4 (k:=2) F iM (λcdv A outer s H E hr=>?hb) ?h
 case hb =>
  have hr1:Room 1 _:=hr.mono (by decide)
  have hr2:Room 2 _:=hr.mono (by decide)
  have hu64:=hr.units
  exact Dd (Gg (i:=3) iM.nd rfl (Dw rfl) (Bc (pv 1)))
   (Dd (Nm Ex rfl (JI (Bc (pv 2))) (Kr (i:=4) iM.nd rfl (Dw rfl))
   (Eo (Gg (i:=3) iM.nd rfl (Dw rfl) (Om G_put_to hr2 rfl m_put_to k_put_to b_put_to Jl (Ba (Bc (pv 3)) (Ba (Bc (pv 0)) (Ba (Bc (pv 4)) (Ba (qW Cp) Bq))))))))
   (Eo (Iz (Bc (pv 3)))))
 case h =>
  rintro ds R ⟨n,L,f,Q,rfl,hn,pe,hQ,hR⟩
  w_pre o7
  array_get_dec
  refine Zz (l:=Q) (g:=Ax) rfl (λi δ=>∃(v4:DV),δ=⟨[.dat .sh (wQ L),.dat .sh (Yc L f),.dat .sh (Br Q),.dat .sh (Yc L (Lv (Q.take i) f)),v4],0⟩/\NP v4) ?_ ?_ ?_
  ·exact ⟨_,rfl,Pz⟩
  ·rintro i q _ hq ⟨v4,rfl,hv4⟩
   have bq:=hQ q (Be hq)
   array_get_dec
   refine ⟨n,L,Lv (Q.take i) f,q,-1,rfl,hn,pe,bq.1,bq.2,.inr rfl,?_⟩
   try array_get_dec
   refine ⟨.dat .sh (.int q),Tr ?_ rfl,Jk⟩
   rw[Gu hq,Ye]
  ·rintro _ ⟨v4,rfl,hv4⟩
   rw[Ff]
   array_get_dec
   exact hR
end
def Lc(L:List (List Int))(c:List Int->Int):List Ae:=L.flatMap λw=>Bz (c w).toNat (Br w)
def lT:PF:=λds R=>∃(h:Int) (L:List (List Int)) (f:List Int->Int),ds=[.int h,Yc L f]/\0<=h/\h<=10/\L.Perm (Ed h.toNat)/\Ord L /\
 ((∀w∈L,0<=Lv (Pa h.toNat) f w)->(Lc L (Lv (Pa h.toNat) f)).length<=10000/\R (.tuple [.str (Dq "deck"),.list (Lc L (Lv (Pa h.toNat) f))])) /\
 ∀w∈L,Lv (Pa h.toNat) f w<0->R (.tuple [.str (Dq "never"),Br w])
section
variable{P:Bl}{w:World}{K:PySem.W.Frag}{mg:Str->Option Value}{base:Heap}
theorem oX:FnScope ["holes", "numbers", "order", "many", "word", "cards"] ["holes", "numbers"] (Cf Uo):=⟨rfl,rfl,rfl,by decide +kernel,rfl,by decide +kernel,by decide +kernel⟩
theorem qK{f f_order_of f_parted_by  : Addr}{fd d_order_of d_parted_by:Dc}(F:Fun K "deck_of" "deck_of" Uo f fd)(G_order_of:FnOk P w K mg base La 2 f_order_of d_order_of ["holes"] (bJ K (tV)))(b_order_of:Binds K d_order_of ["holes"] [])(k_order_of:PySem.W.keepIn K (.ref f_order_of)=true)(m_order_of:mg "order_of" = some (.ref f_order_of))(G_parted_by:FnOk P w K mg base La 3 f_parted_by d_parted_by ["order", "numbers", "places"] (HD K (kX)))(b_parted_by:Binds K d_parted_by ["order", "numbers", "places"] [])(k_parted_by:PySem.W.keepIn K (.ref f_parted_by)=true)(m_parted_by:mg "parted_by" = some (.ref f_parted_by))(mz_tuple:mg "tuple" = none)(mz_range:mg "range" = none)(mz_zip:mg "zip" = none):FnOk P w K mg base La 4 f fd ["holes", "numbers"] (bJ K (lT)):=by
 refine' Qi (k:=3) F oX (λcdv A outer s H E hr=>?hb) ?h
 case hb =>
  have hr1:Room 1 _:=hr.mono (by decide)
  have hr2:Room 2 _:=hr.mono (by decide)
  have hr3:Room 3 _:=hr.mono (by decide)
  have hu64:=hr.units
  have CS1:∀{scope:Scope} (h:scope={ kind:=.function,names:=[(".0",.local),("word",.local),("cards",.local),("card",.local),("range",.globalImplicit)],isGenerator:=false,isCoroutine:=false }),
    CompScope (Qo La P w K mg base ["holes", "numbers", "order", "many", "word", "cards"] "deck_of" (Cf Uo) f cdv A outer s H E).nox scope [] "word" [] []:=by
   w_pre f4
  exact Dd (Gg (i:=2) oX.nd rfl (Dw rfl) (Om G_order_of hr2 rfl m_order_of k_order_of b_order_of Jl (Ba (Bc (pv 0)) Bq)))
   (Dd (Gg (i:=3) oX.nd rfl (Dw rfl) (o8 G_parted_by hr3 rfl m_parted_by k_parted_by b_parted_by Jl (Ba (Bc (pv 2)) (Ba (Bc (pv 1)) (Ba (wN rfl rfl mz_tuple rfl mz_range (Bc (pv 0))) Bq)))))
   (Dd (Nm Ex rfl (jU rfl mz_zip (Ba (Bc (pv 2)) (Ba (Bc (pv 3)) Bq))) (Z7 (n:=2) rfl (oD (Kr (i:=4) oX.nd rfl (Dw rfl)) (oD (Kr (i:=5) oX.nd rfl (Dw rfl)) Q3)))
   (Eo (Sn (S9 (Bc (pv 5)) Cp)
    (Eo (Iz (Sg (Ba cQ (Ba (Sj (Bc (pv 4))) Bq))))) Nn)))
   (Eo (Iz (Sg (Ba cQ (Ba (u7 (b:=true) (CS1 rfl) (.inl rfl) (.inl rfl) (by decide +kernel) rfl (jU rfl mz_zip (Ba (Bc (pv 2)) (Ba (Bc (pv 3)) Bq))) (λ_ _ _=>Lw rfl mz_range (Ba (Bc (pv 1)) Bq)) (λ_ _ _=>Bc (pv 0))) Bq)))))))
 case h =>
  rintro ds R ⟨h,L,f,rfl,h0,h10,pe,po,hD,hN⟩
  w_pre o7
  have en:((h.toNat:Nat):Int)=h:=by omega
  array_get_dec
  refine ⟨h,rfl,h0,h10,λL' pe' po'=>?_⟩
  obtain rfl:L'=L:=mX (pe'.trans pe.symm) po' po
  array_get_dec
  refine ⟨h0,by omega,?_⟩
  array_get_dec
  refine ⟨h.toNat,L',f,Pa h.toNat,rfl,by omega,pe,λq hq=>?_,?_⟩
  ·unfold Pa at hq
   obtain ⟨k,hk,rfl⟩:=Df.mp hq
   have:=Ky.mp hk
   omega
  generalize Lv (Pa h.toNat) f=c at hD hN
  unfold wQ Yc
  array_get_dec
  rw[iJ]
  refine Zz (l:=L') (g:=λw=>.tuple [Br w,.int (c w)]) rfl (λi δ=>∃(v4 v5:DV),δ=⟨[.dat .sh (.int h),.dat .sh (.list ((L'.map f).map Ax)),.dat .sh (.dict (Ov (zV L'))),.dat .sh (.list ((L'.map c).map Ax)),v4,v5],0⟩/\∀w∈L'.take i,0<=c w) ?_ ?_ ?_
  ·exact ⟨_,_,rfl,λ_ z=>(nomatch z)⟩
  ·rintro i w _ hw ⟨v4,v5,rfl,hg⟩
   array_get_dec
   refine Zd (λhb=>?_) (λhb=>?_)
   ·array_get_dec
    exact hN w (Be hw) (of_decide_eq_true hb)
   ·array_get_dec
    refine ⟨_,_,rfl,λx hx=>?_⟩
    rw[Gu hw] at hx
    w_pre z7
    ·exact hg x z
    ·rw[Al.mp z]
     have:=of_decide_eq_false hb
     omega
  ·rintro _ ⟨v4,v5,rfl,hg⟩
   rw[Ff] at hg
   obtain ⟨hl,hR⟩:=hD hg
   array_get_dec
   rw[iJ]
   refine GL (l:=L') (g1:=Br) (g2:=λw=>.int (c w)) rfl (λw=>Bz (c w).toNat (Br w)) (kD (Cg hl (by decide))) (λw hw acc fin hz hf=>?_) ?_
   ·have c0:=hg w hw
    have c1:(c w).toNat<=10000:=by
     obtain ⟨i,hi⟩:=uF.mp hw
     have:=lQ (λw=>Bz (c w).toNat (Br w)) hi
     rw[Hx] at this
     unfold Lc at hl
     omega
    array_get_dec
    refine ⟨by omega,by omega,HH (l:=Cd (c w).toNat) (g:=λi:Nat=>.int i) rfl (λ_=>Br w) (by rw[Dh]; rw[Hx] at hz; exact hz) (λy hy yes hyes=>?_) ?_⟩
    ·show Oz My _ _ _ _
     array_get_dec
     exact hyes
    ·rw[List.map_const',Dh]
     exact hf
   ·array_get_dec
    exact ⟨_,rfl,hR⟩
end
def CS(L:List (List Int)):Ae:=.list (L.map Br)
def oH:PF:=λds R=>∃(h:Int) (L:List (List Int)) (f:List Int->Int),ds=[CS L,Yc L f,.int h]/\0<=h/\h<=10/\L.Perm (Ed h.toNat)/\R (.dict (Ov (Pt L (Lv (Pa h.toNat) f))))
theorem uR{n:Int}{w:List Int}{p:Int}(r:Gp n w)(hp:p∉w):cB (w++[p])=On (w++[p]):=by
 have pl:(On (w++[p])).Pairwise (· < ·):=Ri _
 have n1:(On (w++[p])).Nodup:=pl.imp λh=>aU h
 have n2:(w++[p]).Nodup:=He.mpr ⟨j5 r,by simp,λa ha b hb=>by rw[Al.mp hb]; rintro rfl; exact hp ha⟩
 exact (oQ ((List.perm_ext_iff_of_nodup n1 n2).mpr λa=>bW) (pl.imp λh=>Int.le_of_lt h)).symm
theorem w4{α:Type}{L:List α}{j:Nat}{w:α}(nd:L.Nodup)(h:L[j]? = some w):w∉L.take j:=by
 have n:=nd.sublist (Ip (j+1) L)
 rw[Gu h,List.nodup_append] at n
 exact λz=>n.2.2 w z w Ab rfl
theorem wD{p:Int}{g:List Int->Int}{T:List (List Int)}{w:List Int}(hw:w∉T)(hp:p∉w):(λv=>if v=w then Mm p g T w - Mm p g T (On (w++[p])) else Mm p g T v)=Mm p g (T++[w]):=by
 funext v
 by_cases e:v=w
 ·subst e
  rw[if_pos rfl,P5 (w:=On (v++[p])) (GY.mpr (.inr rfl))]
  unfold Mm
  rw[if_neg hw,if_pos (Ag _ Ab)]
  unfold Xc
  rw[if_neg hp]
  omega
 ·rw[if_neg e]
  w_pre q3
  ·rw[if_neg z,if_neg λq=>(Aw.mp q).elim z λq=>e (Al.mp q)]
theorem xA{p:Int}{g:List Int->Int}{T:List (List Int)}{w:List Int}(hp:p∈w):Mm p g T=Mm p g (T++[w]):=by
 funext v
 w_pre q3
 ·rw[if_neg z]
  by_cases e:v=w
  ·subst e
   rw[if_pos (Ag _ Ab)]
   unfold Xc
   rw[if_pos hp]
  ·rw[if_neg λq=>(Aw.mp q).elim z λq=>e (Al.mp q)]
section
variable{P:Bl}{w:World}{K:PySem.W.Frag}{mg:Str->Option Value}{base:Heap}
theorem Zu:FnScope ["_law_words_here", "_law_numbers_here", "_law_holes", "_law_told", "_law_place", "_law_word"] ["_law_words_here", "_law_numbers_here", "_law_holes"] (Cf Pi):=⟨rfl,rfl,rfl,by decide +kernel,rfl,by decide +kernel,by decide +kernel⟩
theorem Zx{f   : Addr}{fd  : Dc}(F:Fun K "_law_just_so" "_law_just_so" Pi f fd)(mz_dict:mg "dict" = none)(mz_zip:mg "zip" = none)(mz_range:mg "range" = none)(mz_sorted:mg "sorted" = none)(mz_tuple:mg "tuple" = none):FnOk P w K mg base La 1 f fd ["_law_words_here", "_law_numbers_here", "_law_holes"] (bJ K (oH)):=by
 refine' Qi (k:=0) F Zu (λcdv A outer s H E hr=>?hb) ?h
 case hb =>
  have hu64:=hr.units
  exact Dd (aR (i:=3) Zu.nd rfl (Dw rfl) (xS hu64 rfl mz_dict rfl mz_zip rfl (Ba (Bc (pv 0)) (Ba (Bc (pv 1)) Bq))))
   (Dd (Nm Ex rfl (Lw rfl mz_range (Ba (Bc (pv 2)) Bq)) (Kr (i:=4) Zu.nd rfl (Dw rfl))
   (Eo (Nm Ex rfl (C8 (Bc (pv 0))) (Kr (i:=5) Zu.nd rfl (Dw rfl))
    (Eo (Sn (mI hu64 (Bc (pv 4)) (Bc (pv 5)))
     (Eo (G5 hu64 (pv 3) (Bc (pv 5)) (pT (aG hu64 (Bc (pv 3)) (Bc (pv 5))) (aG hu64 (Bc (pv 3)) (Os bL (cM (i:=true)) rfl mz_tuple (by decide +kernel) (Ba (Jj gZ zQ rfl mz_sorted (by decide +kernel) (Ba (aQ (Bc (pv 5)) (Sg (Ba (Sj (Bc (pv 4))) Bq))) Bq)) Bq)))))) Nn)))))
   (Eo (Iz (iN (pv 3)))))
 case h =>
  rintro ds R ⟨h,L,f,rfl,h0,h10,pe,hR⟩
  w_pre o7
  have nd:=Te pe
  have ll:=(Ym (n:=h.toNat) (by omega) pe).1
  have hm:=λw=>(Yu (w:=w) pe)
  unfold CS Yc
  array_get_dec
  refine ⟨by rw[Af]; omega,L,rfl,by omega,by omega,?_⟩
  rw[e8 nd f]
  refine Zz (l:=Cd h.toNat) (g:=λi:Nat=>.int i) rfl (λi δ=>∃(v4 v5:DV),δ=⟨[.dat .sh (.list (L.map Br)),.dat .sh (.list ((L.map f).map Ax)),.dat .sh (.int h),.dat .ow (.dict (Ov (Pt L (Lv (Pa i) f)))),v4,v5],0⟩/\NP v4/\NP v5) ?_ ?_ ?_
  ·exact ⟨_,_,rfl,Pz,Pz⟩
  ·rintro i a _ ha ⟨v4,v5,rfl,hv4,hv5⟩
   w_pre t8
   array_get_dec
   rw[eR,Ye]
   generalize Lv (Pa a) f=g
   refine Zz (l:=L) (g:=Br) rfl (λj δ=>∃(v5:DV),δ=⟨[.dat .sh (.list (L.map Br)),.dat .sh (.list ((L.map f).map Ax)),.dat .sh (.int h),.dat .ow (.dict (Ov (Pt L (Mm a g (L.take j))))),.dat .sh (.int a),v5],0⟩/\NP v5) ?_ ?_ ?_
   ·refine ⟨_,Tr ?_ rfl,hv5⟩
    rw[show Mm (a:Int) g (L.take 0)=g by funext v; unfold Mm; rw[if_neg (λz=>nomatch z)]]
   ·clear hv5
    rintro j w _ hw ⟨v5,rfl,hv5⟩
    have wL:=Be hw
    have rw_:=(hm w).mp wL
    have rp:(a:Int)∉w->Gp (h.toNat:Int) (On (w++[(a:Int)])):=λ_=>Vs rw_ (by omega) (by omega)
    have lw:=bI (rw_.up (show ((h.toNat:Nat):Int)<=60 by omega))
    have nw:w∉L.take j:=w4 nd hw
    have e1:=Wp (f:=Mm a g (L.take j)) wL
    array_get_dec
    refine Zd (λhb=>?_) (λhb=>?_)
    ·have hn:(a:Int)∉w:=λz=>by rw[decide_eq_true z] at hb; cases hb
     have e2:=Wp (f:=Mm a g (L.take j)) ((hm _).mpr (rp hn))
     array_get_dec
     refine ⟨_,e1,by rw[Af]; omega,w++[(a:Int)],by rw[Bh]; rfl,by rw[Bf,Fl]; omega,_,by rw[uR rw_ hn]; exact e2,?_⟩
     array_get_dec
     refine ⟨by unfold Pt; rw[Af]; omega,?_⟩
     refine ⟨.dat .sh (Br w),Tr ?_ rfl,Jk⟩
     rw[E7 wL,wD nw hn,Gu hw]
    ·have hn:(a:Int)∈w:=of_decide_eq_true (by rw[Qt] at hb; exact hb)
     array_get_dec
     refine ⟨.dat .sh (Br w),Tr ?_ rfl,Jk⟩
     rw[Gu hw,<- xA hn]
   ·clear hv5
    rintro _ ⟨v5,rfl,hv5⟩
    rw[Ff]
    refine ⟨.dat .sh (.int a),v5,Tr ?_ rfl,Jk,hv5⟩
    rw[qQ (f:=Mm a g L) (g:=Xc a (-1) g) λw hw=>by unfold Mm; rw[if_pos hw]]
  ·rintro _ ⟨v4,v5,rfl,hv4,hv5⟩
   rw[Dh]
   array_get_dec
   exact hR
end
def V4(L:List (List Int))(c:List Int->Int):List (List Int):=L.flatMap λw=>Bz (c w).toNat w
theorem lJ(L:List (List Int))(c:List Int->Int):Lc L c=(V4 L c).map Br:=by
 unfold Lc V4
 rw[List.map_flatMap]
 congr 1
 funext w
 rw[Zb]
theorem lK{α:Type}(a:α):∀n:Nat,(Bz n [a]).flatten=Bz n a
 | 0=>rfl
 | n+1=>by rw[Gi,Ir,lK a n]; rfl
def FK(L:List (List Int))(c:List Int->Int)(t:Ae):Prop:=(∃w∈L,c w<0/\t=.tuple [.str (Dq "never"),Br w])\/((∀w∈L,0<=c w)/\(Lc L c).length<=10000/\t=.tuple [.str (Dq "deck"),.list (Lc L c)])
def rP:PF:=λds R=>∃(L:List (List Int)) (c:List Int->Int) (t:Ae),ds=[CS L,t,.dict (Ov (Pt L c))]/\L≠[]/\L.length<=1024/\FK L c t/\R (.bool true)
section
variable{P:Bl}{w:World}{K:PySem.W.Frag}{mg:Str->Option Value}{base:Heap}
theorem eE:FnScope ["_law_words_here", "_law_told", "_law_just_so_here", "_law_due", "_law_word"] ["_law_words_here", "_law_told", "_law_just_so_here"] (Cf Sf):=⟨rfl,rfl,rfl,by decide +kernel,rfl,by decide +kernel,by decide +kernel⟩
theorem dZ{f   : Addr}{fd  : Dc}(F:Fun K "_law_right" "_law_right" Sf f fd)(mz_len:mg "len" = none)(mz_tuple:mg "tuple" = none)(mz_isinstance:mg "isinstance" = none)(mz_min:mg "min" = none)(mz_list:mg "list" = none):FnOk P w K mg base La 1 f fd ["_law_words_here", "_law_told", "_law_just_so_here"] (bJ K (rP)):=by
 refine' Qi (k:=0) F eE (λcdv A outer s H E hr=>?hb) ?h
 case hb =>
  have hu64:=hr.units
  exact Dd (Sn (L6 (U3 (yS (oV (Jj rD pG rfl mz_isinstance (by decide +kernel) (Ba (Bc (pv 1)) (Ba (B4 (n := "tuple") rfl mz_tuple (by decide +kernel)) Bq))))) (o4 (rS hu64 (Jj Tv bQ rfl mz_len (by decide +kernel) (Ba (Bc (pv 1)) Bq)) Cp))))
   (Eo (Iz A7)) Nn)
   (Dd (Sn (S9 (G3 rfl mz_min rfl (Bc (pv 2))) Cp)
   (Eo (Iz (iQ (rW hu64 (Lm (Bc (pv 1)) Cp) cQ) (iQ (Jj rD pG rfl mz_isinstance (by decide +kernel) (Ba (Lm (Bc (pv 1)) Cp) (Ba (B4 (n := "tuple") rfl mz_tuple (by decide +kernel)) Bq))) (i3 (EE (R7 hu64 (Bc (pv 2)) (Lm (Bc (pv 1)) Cp) Cp ⟨rfl,rfl,rfl,rfl⟩) Cp)))))) Nn)
   (Dd (Gg (i:=3) eE.nd rfl (Dw rfl) (Lk Bq))
   (Dd (Nm Ex rfl (C8 (Bc (pv 0))) (Kr (i:=4) eE.nd rfl (Dw rfl))
   (Eo (Gg (i:=3) eE.nd rfl (Dw rfl) (bY (Bc (pv 3)) (BN (Lk (Ba (Sj (Bc (pv 4))) Bq)) (aG hu64 (Bc (pv 2)) (Bc (pv 4))))))))
   (Eo (Iz (iQ (rW hu64 (Lm (Bc (pv 1)) Cp) cQ) (iQ (Jj rD pG rfl mz_isinstance (by decide +kernel) (Ba (Lm (Bc (pv 1)) Cp) (Ba (B4 (n := "list") rfl mz_list (by decide +kernel)) Bq))) (i3 (rW hu64 (Lm (Bc (pv 1)) Cp) (Bc (pv 3)))))))))))
 case h =>
  rintro ds R ⟨L,c,t,rfl,ne,ll,ht,hR⟩
  w_pre o7
  unfold CS
  rcases ht with ⟨w,wL,cw,rfl⟩ | ⟨hc,hl,rfl⟩
  ·array_get_dec
   w_pre y9
   array_get_dec
   have : M<0:=Int.lt_of_le_of_lt (hz _ (Xt wL)) cw
   have e1:=Wp (f:=c) wL
   rw[decide_eq_true this]
   array_get_dec
   rw[e1]
   show ∃d,DV.dat .ow (.bool (decide (c w<0)))=.dat .ow d/\R d
   refine ⟨_,rfl,?_⟩
   rw[decide_eq_true cw]
   exact hR
  ·array_get_dec
   w_pre y9
   array_get_dec
   obtain ⟨wM,hwM,rfl⟩:=Df.mp hM
   rw[decide_eq_false (Int.not_lt.mpr (hc wM hwM))]
   array_get_dec
   refine Zz (l:=L) (g:=Br) rfl (λi δ=>∃v4:DV,δ=⟨[.dat .sh (.list (L.map Br)),.dat .sh (.tuple [.str (Dq "deck"),.list (Lc L c)]),.dat .sh (.dict (Ov (Pt L c))),.dat .sh (.list (Lc (L.take i) c)),v4],0⟩/\NP v4) ?_ ?_ ?_
   ·exact ⟨_,rfl,Pz⟩
   ·rintro i w _ hw ⟨v4,rfl,hv4⟩
    have wL:=Be hw
    have e1:=Wp (f:=c) wL
    have c0:=hc w wL
    have em:Lc (L.take (i+1)) c=Lc (L.take i) c++Bz (c w).toNat (Br w):=by
     unfold Lc
     rw[Gu hw,Lp]
     simp
    have ls:(Lc (L.take (i+1)) c).length<=(Lc L c).length:=by
     have:=congrArg Ft (show Lc (L.take (i+1)++L.drop (i+1)) c=Lc (L.take (i+1)) c++Lc (L.drop (i+1)) c by unfold Lc; rw[Lp])
     rw[Fj,Bf] at this
     omega
    array_get_dec
    refine ⟨_,e1,?_⟩
    rw[em,Bf,Hx] at ls
    array_get_dec
    rw[lK]
    refine ⟨by omega,by omega,by omega,by rw[lJ]; exact Pc _,by rw[<- Zb]; exact Pc _,by rw[Hx]; omega,.dat .sh (Br w),Tr ?_ rfl,Jk⟩
    rw[em]
   ·rintro _ ⟨v4,rfl,hv4⟩
    rw[Ff]
    array_get_dec
    rw[lJ]
    refine ⟨dp,dp,?_⟩
    rw[AC,decide_eq_true rfl]
    exact hR
end
theorem wK{α:Type}(xs:List α)(k:Nat):Pu xs (some (k:Int)) none=xs.drop k:=by
 unfold Pu
 rw[HT.sIx_none,HT.sIx_nat]
 by_cases h:k<=xs.length
 ·rw[Nat.min_eq_left h,Jt (by rw[Nt]; exact Aj _)]
 ·rw[Nat.min_eq_right (by omega),rN (by omega),rN (by omega),List.take_nil]
def eX:DF:=λds n R=>∃(L deck:List (List Int)),ds=[CS L,.list (deck.map Br)]/\L≠[]/\L.length<=1024/\deck.length<=60/\n<=50000/\∀(ns:List Int) n',n<=n'->n'<=n+2000->ns.length=L.length->(∀x∈ns,-1000<=x/\x<=1000)->R (.list (ns.map Ax)) n'
section
variable{P:Bl}{w:World}{K:PySem.W.Frag}{mg:Str->Option Value}{base:Heap}
theorem Zw:FnScope ["_law_draws_here", "_law_words_here", "_law_deck_here", "_law_due", "_law_way", "_law_turn", "_law_at"] ["_law_draws_here", "_law_words_here", "_law_deck_here"] (Cf Gn):=⟨rfl,rfl,rfl,by decide +kernel,rfl,by decide +kernel,by decide +kernel⟩
theorem Zv{f f_L_next f_L_lies  : Addr}{fd d_L_next d_L_lies:Dc}(F:Fun K "_law_numbers" "_law_numbers" Gn f fd)(G_L_next:FnOk P w K mg base La 1 f_L_next d_L_next ["_law_draws_here"] (rF K Yo))(b_L_next:Binds K d_L_next ["_law_draws_here"] [])(k_L_next:PySem.W.keepIn K (.ref f_L_next)=true)(m_L_next:mg "_law_next" = some (.ref f_L_next))(G_L_lies:FnOk P w K mg base La 1 f_L_lies d_L_lies ["_law_one", "_law_other"] (bJ K (t8)))(b_L_lies:Binds K d_L_lies ["_law_one", "_law_other"] [])(k_L_lies:PySem.W.keepIn K (.ref f_L_lies)=true)(m_L_lies:mg "_law_lies" = some (.ref f_L_lies))(mz_len:mg "len" = none)(mz_range:mg "range" = none)(mz_int:mg "int" = none):FnOk P w K mg base La 2 f fd ["_law_draws_here", "_law_words_here", "_law_deck_here"] (rF K (eX)):=by
 refine' jM (k:=1) F Zw (λcdv A outer s H E hr=>?hb) ?h
 case hb =>
  have hr1:Room 1 _:=hr.mono (by decide)
  have hu64:=hr.units
  have CS1:∀{scope:Scope} (h:scope={ kind:=.function,names:=[(".0",.local),("_law_word",.cell),("len",.globalImplicit),("_law_deck_here",.free)],isGenerator:=false,isCoroutine:=false }),
    CompScope (Qo La P w K mg base ["_law_draws_here", "_law_words_here", "_law_deck_here", "_law_due", "_law_way", "_law_turn", "_law_at"] "_law_numbers" (Cf Gn) f cdv A outer s H E).nox scope [("_law_deck_here",s.heap.objs.size+2)] "_law_word" ["_law_deck_here"] [2]:=by
   rintro scope rfl
   refine ⟨by rfl,.inr ⟨"_law_word",λ_=>rfl,rfl,by decide +kernel⟩,by rfl,by decide +kernel,.inr rfl,λy c h=>?_,by rfl,by decide +kernel,rfl,λk y j e1 e2=>?_⟩
   w_pre c0
  have CS2:∀{scope:Scope} (h:scope={ kind:=.function,names:=[(".0",.local),("_law_card",.local),("_law_lies",.globalImplicit),("_law_word",.free)],isGenerator:=false,isCoroutine:=false }) (fp0:List Addr) (s0:Ai) (H0:Hp),
    CompScope (Dm (Qo La P w K mg base ["_law_draws_here", "_law_words_here", "_law_deck_here", "_law_due", "_law_way", "_law_turn", "_law_at"] "_law_numbers" (Cf Gn) f cdv A outer s H E).nox { kind:=.function,names:=[(".0",.local),("_law_word",.cell),("len",.globalImplicit),("_law_deck_here",.free)],isGenerator:=false,isCoroutine:=false } [("_law_deck_here",s.heap.objs.size+2)] ["_law_word", "_law_deck_here"] fp0 s0 H0) scope [("_law_word",s0.heap.objs.size+1)] "_law_card" ["_law_word"] [0]:=by
   rintro scope rfl fp0 s0 H0
   w_pre u7
   w_pre c0
  have CS3:∀{scope:Scope} (h:scope={ kind:=.function,names:=[(".0",.local),("_law_word",.local),("_law_next",.globalImplicit),("_law_draws_here",.free)],isGenerator:=false,isCoroutine:=false }),
    CompScope (Qo La P w K mg base ["_law_draws_here", "_law_words_here", "_law_deck_here", "_law_due", "_law_way", "_law_turn", "_law_at"] "_law_numbers" (Cf Gn) f cdv A outer s H E).nox scope [("_law_draws_here",s.heap.objs.size+1)] "_law_word" ["_law_draws_here"] [0]:=by
   w_pre t
  have CS4:∀{scope:Scope} (h:scope={ kind:=.function,names:=[(".0",.local),("_law_word",.local),("_law_next",.globalImplicit),("_law_draws_here",.free)],isGenerator:=false,isCoroutine:=false }),
    CompScope (Qo La P w K mg base ["_law_draws_here", "_law_words_here", "_law_deck_here", "_law_due", "_law_way", "_law_turn", "_law_at"] "_law_numbers" (Cf Gn) f cdv A outer s H E).nox scope [("_law_draws_here",s.heap.objs.size+1)] "_law_word" ["_law_draws_here"] [0]:=by
   w_pre t
  have CS5:∀{scope:Scope} (h:scope={ kind:=.function,names:=[(".0",.local),("_law_word",.local)],isGenerator:=false,isCoroutine:=false }),
    CompScope (Qo La P w K mg base ["_law_draws_here", "_law_words_here", "_law_deck_here", "_law_due", "_law_way", "_law_turn", "_law_at"] "_law_numbers" (Cf Gn) f cdv A outer s H E).nox scope [] "_law_word" [] []:=by
   w_pre f4
  exact Dd (L0 (o:=true) (i0:=3) Zw.nd rfl rfl (CS1 rfl) rfl (C8 (Bc (pv 1))) (λ_ _ _=>Na) (λ_ _ _=>Jj Tv bQ rfl mz_len (by decide +kernel) (Ba (Xn (CS2 rfl _ _ _) rfl (C8 (Bc (pv 1))) (λ_ _ _=>uA (oV (Om G_L_lies hr1 rfl m_L_lies k_L_lies b_L_lies Jl (Ba (Bc (pv 1)) (Ba (Bc (pv 0)) Bq))))) (λ_ _ _=>Bc (pv 0))) Bq)))
   (Dd (Gg (i:=4) Zw.nd rfl (Dw rfl) (Kd (Hz G_L_next hr1 rfl m_L_next k_L_next b_L_next Jl (pv 0) Bq) Cp))
   (Dd (Nm Ex rfl (Lw rfl mz_range (Ba (Lm (Lk (Ba Cp (Ba Cp (Ba Cp (Ba Cp (Ba Cp (Ba Cp (Ba Cp (Ba Cp (Ba Cp Bq)))))))))) (Bc (pv 4))) Bq)) (Kr (i:=5) Zw.nd rfl (Dw rfl))
   (Dd (Gg (i:=6) Zw.nd rfl (Dw rfl) (yX (Kd (Hz G_L_next hr1 rfl m_L_next k_L_next b_L_next Jl (pv 0) Bq) (Jj Tv bQ rfl mz_len (by decide +kernel) (Ba (Bc (pv 1)) Bq))) (Os eV zI rfl mz_int (by decide +kernel) (Ba (U4 (Kd (Hz G_L_next hr1 rfl m_L_next k_L_next b_L_next Jl (pv 0) Bq) Cp) Cp) Bq))))
    (Eo (J0 (pv 3) (Bc (pv 6)) (Yv (Lm (Bc (pv 3)) (Bc (pv 6))) (Lm (Lk (Ba Cp (Ba (qW Cp) (Ba Cp (Ba (qW Cp) Bq))))) (Kd (Hz G_L_next hr1 rfl m_L_next k_L_next b_L_next Jl (pv 0) Bq) Cp)))))))
   (Dd (Sn (aW hu64 (Bc (pv 4)) Cp)
   (Eo (Iz (nS (js1:=[]) (j0:=0) (js2:=[]) (CS3 rfl) rfl (C8 (Bc (pv 1))) (λ_ _ _=>Na) (λ_ _ _=>pT (Kd (Hz G_L_next hr1 rfl m_L_next k_L_next b_L_next Jl (pv 1) Bq) Cp) Cp)))) Nn)
   (Dd (Sn (aW hu64 (Bc (pv 4)) Cp)
   (Eo (Iz (nS (js1:=[]) (j0:=0) (js2:=[]) (CS4 rfl) rfl (C8 (Bc (pv 1))) (λ_ _ _=>Na) (λ_ _ _=>Vo (Kd (Hz G_L_next hr1 rfl m_L_next k_L_next b_L_next Jl (pv 1) Bq) Cp) Cp)))) Nn)
   (Dd (Sn (aW hu64 (Bc (pv 4)) Cp)
   (Eo (Iz (bY (Lk (Ba (Yv Cp (Kd (Hz G_L_next hr1 rfl m_L_next k_L_next b_L_next Jl (pv 0) Bq) Cp)) Bq)) (Xn (CS5 rfl) rfl (C8 (j4 (i:=true) (Bc (pv 1)) (lC Cp) nE)) (λ_ _ _=>Na) (λ_ _ _=>Cp))))) Nn)
   (Eo (Iz (iN (pv 3)))))))))
 case h =>
  rintro ds n R ⟨L,deck,rfl,ne,ll,ld,hn,hR⟩
  w_pre o7
  unfold CS
  have lp:0<L.length:=Lo.mpr ne
  array_get_dec
  refine tX (l:=L) (g:=Br) rfl (λw=>.int (pW deck w)) (λw hw yes no hy=>?_) ?_
  ·array_get_dec
   refine zC (l:=deck) (g:=Br) rfl (λc=>sub w c) Br (λc hc yes' no' hy' hn'=>?_) ?_
   ·array_get_dec
    refine ⟨w,c,rfl,?_⟩
    refine uE (λhb=>?_) (λhb=>?_)
    ·array_get_dec
     exact hy' hb
    ·exact hn' hb
   ·array_get_dec
    rw[Af,<- List.countP_eq_length_filter]
    exact hy
  rw[show L.map (λw=>Ax (pW deck w))=(L.map (pW deck)).map Ax by rw[Dn]; rfl]
  have b0:∀x∈L.map (pW deck),-100<=x/\x<=100:=λx hx=>by
   obtain ⟨w,_,rfl⟩:=Df.mp hx
   unfold pW
   have:=List.countP_le_length (p:=λc=>sub w c) (l:=deck)
   omega
  have l0:(L.map (pW deck)).length=L.length:=Af ..
  generalize L.map (pW deck)=ns0 at b0 l0
  array_get_dec
  refine ⟨rfl,by omega,λr1=>?_⟩
  array_get_dec
  have b9:=Nl r1 (b:=9) (by decide)
  obtain ⟨k,ek,k0,k2⟩ : ∃k:Int,Vu [Ax 0,.int 0,.int 1,.int 1,.int 1,.int 2,.int 0,.int 0,.int 0] (r1 % 9)=some (.int k)/\0<=k/\k<=2:=by
   have : r1 % 9=0\/r1 % 9=1\/r1 % 9=2\/r1 % 9=3\/r1 % 9=4\/r1 % 9=5\/r1 % 9=6\/r1 % 9=7\/r1 % 9=8:=by omega
   rcases this with z | z | z | z | z | z | z | z | z <;> rw[z] <;> exact ⟨_,rfl,by decide,by decide⟩
  generalize r1 % 9=way at b9 ek
  refine ⟨_,ek,?_⟩
  array_get_dec
  refine ⟨by omega,by omega,?_⟩
  refine Zz (l:=Cd k.toNat) (g:=λi:Nat=>.int i) rfl (λi δ=>∃(ns:List Int) (v5 v6:DV) (n':Nat),δ=⟨[.drw,.dat .sh (.list (L.map Br)),.dat .sh (.list (deck.map Br)),.dat .ow (.list (ns.map Ax)),.dat .sh (.int way),v5,v6],n'⟩/\n'=n+1+3 * i/\ns.length=L.length/\(∀x∈ns,-100 - 2 * (i:Int)<=x/\x<=100+2 * (i:Int))/\NP v5/\NP v6) ?_ ?_ ?_
  ·exact ⟨ns0,_,_,_,rfl,rfl,l0,λx hx=>by have:=b0 x hx; omega,Pz,Pz⟩
  ·rintro i a _ ha ⟨ns,v5,v6,n1,rfl,k1,ln,bn,hv5,hv6⟩
   w_pre t8
   array_get_dec
   refine ⟨rfl,by omega,λr2=>?_⟩
   array_get_dec
   refine ⟨by rw[Af]; omega,rfl,by omega,λr3=>?_⟩
   have bl:=Nl r2 (b:=((L.map Br).length:Int)) (by rw[Af]; omega)
   rw[Af] at bl ⊢
   array_get_dec
   have cm:B3 (r2 % (L.length:Int)) (if decide (0<r3 % 4)=true then 1 else 0):=by
    cases decide (0<r3 % 4)
    ·exact .inr ⟨by decide,by decide⟩
    ·exact .inr ⟨by decide,by decide⟩
   obtain ⟨q,eq,q0,q1⟩ : ∃q:Int,(r2 % (L.length:Int) * if decide (0<r3 % 4)=true then 1 else 0)=q/\0<=q/\q<L.length:=by
    cases decide (0<r3 % 4)
    ·exact ⟨0,Int.mul_zero _,by omega,by omega⟩
    ·exact ⟨r2 % (L.length:Int),Int.mul_one _,by omega,by omega⟩
   rw[eq]
   obtain ⟨x,e1,e2,xm⟩:=cK (l:=ns) (i:=q) q0 (by omega)
   have bx:=bn x xm
   refine ⟨cm,.int x,by rw[uC,e2]; rfl,rfl,by omega,λr4=>?_⟩
   array_get_dec
   have b4:=Nl r4 (b:=4) (by decide)
   obtain ⟨z,ez,z0,z1⟩ : ∃z:Int,Vu [Ax 1,.int (-1),.int 2,.int (-2)] (r4 % 4)=some (.int z) /\ -2<=z/\z<=2:=by
    have : r4 % 4=0\/r4 % 4=1\/r4 % 4=2\/r4 % 4=3:=by omega
    rcases this with z | z | z | z <;> rw[z] <;> exact ⟨_,rfl,by decide,by decide⟩
   refine ⟨_,ez,?_⟩
   array_get_dec
   refine ⟨q.toNat,by unfold xM; rw[if_pos q0,if_pos (by rw[Af]; omega)],?_⟩
   refine ⟨ns.set q.toNat (x+z),.dat .sh (.int a),.dat .sh (.int q),n1+1+1+1,Tr (by rw[Iq]) rfl,by omega,by rw[Pp]; exact ln,λy hy=>?_,Jk,Jk⟩
   rcases List.mem_or_eq_of_mem_set hy with m | m
   ·have:=bn y m; omega
   ·rw[m]; omega
  ·rintro _ ⟨ns,v5,v6,n1,rfl,k1,ln,bn,hv5,hv6⟩
   rw[Dh] at k1 bn
   array_get_dec
   refine Zd (λhb=>?_) (λhb=>?_)
   ·array_get_dec
    w_pre j4
    ·rintro i w acc m hw ⟨ms,rfl,rfl,lm,bm⟩
     have hi:=(Av.mp hw).1
     array_get_dec
     refine ⟨rfl,by omega,λr5=>?_⟩
     array_get_dec
     have b5:=Nl r5 (b:=121) (by decide)
     refine ⟨ms++[r5 % 121 - 60],by rw[Bh]; rfl,by omega,by rw[Bf,Fl,lm],λx hx=>?_⟩
     w_pre n3
    ·rintro acc m ⟨ms,rfl,rfl,lm,bm⟩
     array_get_dec
     exact ⟨by omega,hR ms _ (by omega) (by omega) lm bm⟩
   ·array_get_dec
    refine Zd (λhb=>?_) (λhb=>?_)
    ·array_get_dec
     w_pre j4
     ·rintro i w acc m hw ⟨ms,rfl,rfl,lm,bm⟩
      have hi:=(Av.mp hw).1
      array_get_dec
      refine ⟨rfl,by omega,λr5=>?_⟩
      array_get_dec
      have b5:=Nl r5 (b:=3) (by decide)
      refine ⟨ms++[r5 % 3 / 2],by rw[Bh]; rfl,by omega,by rw[Bf,Fl,lm],λx hx=>?_⟩
      w_pre n3
     ·rintro acc m ⟨ms,rfl,rfl,lm,bm⟩
      array_get_dec
      exact ⟨by omega,hR ms _ (by omega) (by omega) lm bm⟩
    ·array_get_dec
     refine Zd (λhb=>?_) (λhb=>?_)
     ·array_get_dec
      refine ⟨rfl,by omega,λr6=>?_⟩
      array_get_dec
      have b6:=Nl r6 (b:=20) (by decide)
      rw[show Pu (L.map Br) (some 1) none=(L.drop 1).map Br by rw[kW]; exact congrArg _ (wK L 1)]
      refine ⟨Pc _,tX (l:=L.drop 1) (g:=Br) rfl (λ_=>.int 0) (λw hw yes no hy=>?_) ?_⟩
      ·array_get_dec
       exact hy
      ·rw[show (L.drop 1).map (λ_=>Ax 0)=((L.drop 1).map λ_=>(0:Int)).map Ax by rw[Dn]; rfl]
       array_get_dec
       have ld1:(L.drop 1).length=L.length - 1:=Nt
       have e0:Ax (41+r6 % 20)::((L.drop 1).map λ_=>(0:Int)).map Ax=((41+r6 % 20)::(L.drop 1).map λ_=>(0:Int)).map Ax:=rfl
       rw[e0]
       refine ⟨by rw[Af,Af]; omega,by omega,hR _ _ (by omega) (by omega) (by rw[Bm,Af]; omega) λx hx=>?_⟩
       rcases An.mp hx with z | z
       ·rw[z]; omega
       ·obtain ⟨_,_,rfl⟩:=Df.mp z
        omega
     ·array_get_dec
      exact ⟨by omega,hR ns _ (by omega) (by omega) ln λx hx=>by have:=bn x hx; omega⟩
end
theorem o5{L:List (List Int)}{c:List Int->Int}:(∀w∈L,0<=c w)->((Lc L c).length:Int)=(L.map c).sum:=by
 unfold Lc
 induction L with
 | nil=>intro _; rfl
 | cons w L ih =>
  intro h
  rw[aD,Bf,Hx,Ao,Hq,<- ih λv hv=>h v (Ad _ hv)]
  have:=h w Ab
  omega
theorem cZ{L:List (List Int)}{f:List Int->Int}{n:Nat}(p:L.Perm (Ed n))(h:∀w∈L,0<=Lv (Pa n) f w)(b:f []<=10000):(Lc L (Lv (Pa n) f)).length<=10000:=by
 have e:=o5 h
 rw[q8 (p.map _),kU f n] at e
 omega
section
variable{P:Bl}{w:World}{K:PySem.W.Frag}{mg:Str->Option Value}{base:Heap}
theorem AE:FnScope ["_law_script", "_law_cell", "_law_draws_here", "_law_pick", "_law_holes", "_law_words_here", "_law_deck_here", "_law_numbers_here", "_law_just_so_here", "_law_handed", "_law_turn", "_law_told"] ["_law_script"] (Cf iF):=⟨rfl,rfl,rfl,by decide +kernel,rfl,by decide +kernel,by decide +kernel⟩
theorem X1{f f_deck_of f_L_draws f_L_next f_L_words f_L_deck f_L_just_so f_L_numbers f_L_right  : Addr}{fd d_deck_of d_L_draws d_L_next d_L_words d_L_deck d_L_just_so d_L_numbers d_L_right:Dc}(F:Fun K "law" "law" iF f fd)(G_deck_of:FnOk P w K mg base La 4 f_deck_of d_deck_of ["holes", "numbers"] (bJ K (lT)))(b_deck_of:Binds K d_deck_of ["holes", "numbers"] [])(k_deck_of:PySem.W.keepIn K (.ref f_deck_of)=true)(m_deck_of:mg "deck_of" = some (.ref f_deck_of))(G_L_draws:FnOk P w K mg base La 1 f_L_draws d_L_draws ["_law_cell"] (Xh))(b_L_draws:Binds K d_L_draws ["_law_cell"] [])(k_L_draws:PySem.W.keepIn K (.ref f_L_draws)=true)(m_L_draws:mg "_law_draws" = some (.ref f_L_draws))(G_L_next:FnOk P w K mg base La 1 f_L_next d_L_next ["_law_draws_here"] (rF K Yo))(b_L_next:Binds K d_L_next ["_law_draws_here"] [])(k_L_next:PySem.W.keepIn K (.ref f_L_next)=true)(m_L_next:mg "_law_next" = some (.ref f_L_next))(G_L_words:FnOk P w K mg base La 1 f_L_words d_L_words ["_law_holes"] (bJ K (aJ)))(b_L_words:Binds K d_L_words ["_law_holes"] [])(k_L_words:PySem.W.keepIn K (.ref f_L_words)=true)(m_L_words:mg "_law_words" = some (.ref f_L_words))(G_L_deck:FnOk P w K mg base La 3 f_L_deck d_L_deck ["_law_draws_here", "_law_holes", "_law_limit"] (rF K (B7)))(b_L_deck:Binds K d_L_deck ["_law_draws_here", "_law_holes", "_law_limit"] [])(k_L_deck:PySem.W.keepIn K (.ref f_L_deck)=true)(m_L_deck:mg "_law_deck" = some (.ref f_L_deck))(G_L_just_so:FnOk P w K mg base La 1 f_L_just_so d_L_just_so ["_law_words_here", "_law_numbers_here", "_law_holes"] (bJ K (oH)))(b_L_just_so:Binds K d_L_just_so ["_law_words_here", "_law_numbers_here", "_law_holes"] [])(k_L_just_so:PySem.W.keepIn K (.ref f_L_just_so)=true)(m_L_just_so:mg "_law_just_so" = some (.ref f_L_just_so))(G_L_numbers:FnOk P w K mg base La 2 f_L_numbers d_L_numbers ["_law_draws_here", "_law_words_here", "_law_deck_here"] (rF K (eX)))(b_L_numbers:Binds K d_L_numbers ["_law_draws_here", "_law_words_here", "_law_deck_here"] [])(k_L_numbers:PySem.W.keepIn K (.ref f_L_numbers)=true)(m_L_numbers:mg "_law_numbers" = some (.ref f_L_numbers))(G_L_right:FnOk P w K mg base La 1 f_L_right d_L_right ["_law_words_here", "_law_told", "_law_just_so_here"] (bJ K (rP)))(b_L_right:Binds K d_L_right ["_law_words_here", "_law_told", "_law_just_so_here"] [])(k_L_right:PySem.W.keepIn K (.ref f_L_right)=true)(m_L_right:mg "_law_right" = some (.ref f_L_right))(mz_max:mg "max" = none)(mz_int:mg "int" = none)(mz_list:mg "list" = none)(mz_range:mg "range" = none):FnOk P w K mg base La 5 f fd ["_law_script"] (spLawD K):=by
 refine' X8 (k:=4) F AE (λcdv A outer s H E hr=>?hb) ?h
 case hb =>
  have hr1:Room 1 _:=hr.mono (by decide)
  have hr2:Room 2 _:=hr.mono (by decide)
  have hr3:Room 3 _:=hr.mono (by decide)
  have hr4:Room 4 _:=hr.mono (by decide)
  have hu64:=hr.units
  exact Dd (Nm Ex rfl (C8 (bY (C0 (pv 0) nE (lC Cp)) (Lk (Ba Cp Bq)))) (Kr (i:=1) AE.nd rfl (Dw rfl))
   (Dd (Gg (i:=2) AE.nd rfl (Dw rfl) (xX G_L_draws hr1 rfl m_L_draws k_L_draws b_L_draws Jl (Ba (Bc (pv 1)) Bq)))
    (Dd (Gg (i:=3) AE.nd rfl (Dw rfl) (Hz G_L_next hr1 rfl m_L_next k_L_next b_L_next Jl (pv 2) Bq))
    (Dd (Gg (i:=4) AE.nd rfl (Dw rfl) (Lm (Lk (Ba (Yv Cp (Kd (Vo (Bc (pv 3)) Cp) Cp)) (Ba Cp (Ba (Yv Cp (Kd (Vo (Bc (pv 3)) Cp) Cp)) Bq)))) (Jj (vR rfl) Q8 rfl mz_max (by decide +kernel) (Ba Cp (Ba (pT (Kd (Bc (pv 3)) Cp) Cp) Bq)))))
    (Dd (Gg (i:=5) AE.nd rfl (Dw rfl) (Om G_L_words hr1 rfl m_L_words k_L_words b_L_words Jl (Ba (Bc (pv 4)) Bq)))
    (Dd (Gg (i:=6) AE.nd rfl (Dw rfl) (Hz G_L_deck hr3 rfl m_L_deck k_L_deck b_L_deck Jl (pv 2) (Ba (Bc (pv 4)) (Ba (Lm (Lk (Ba Cp (Ba Cp Bq))) (Os eV zI rfl mz_int (by decide +kernel) (Ba (U4 (Bc (pv 4)) Cp) Bq))) Bq))))
    (Dd (Gg (i:=7) AE.nd rfl (Dw rfl) (Hz G_L_numbers hr2 rfl m_L_numbers k_L_numbers b_L_numbers Jl (pv 2) (Ba (Bc (pv 5)) (Ba (Bc (pv 6)) Bq))))
    (Dd (Gg (i:=8) AE.nd rfl (Dw rfl) (Om G_L_just_so hr1 rfl m_L_just_so k_L_just_so b_L_just_so Jl (Ba (Bc (pv 5)) (Ba (Bc (pv 7)) (Ba (Bc (pv 4)) Bq)))))
    (Dd (Gg (i:=9) AE.nd rfl (Dw rfl) (Os M7 (G4 (i:=true)) rfl mz_list (by decide +kernel) (Ba (Bc (pv 7)) Bq)))
    (Eo (Nm Ex rfl (Lw rfl mz_range (Ba Cp Bq)) (Kr (i:=10) AE.nd rfl (Dw rfl))
    (Dd (aR (i:=11) AE.nd rfl (Dw rfl) (Om G_deck_of hr4 rfl m_deck_of k_deck_of b_deck_of Jl (Ba (Bc (pv 4)) (Ba (Bc (pv 9)) Bq))))
     (Dd (Sn (L6 (U3 (rS hu64 (Bc (pv 9)) (Bc (pv 7))) (o4 (yS (oV (Om G_L_right hr1 rfl m_L_right k_L_right b_L_right Jl (Ba (Bc (pv 5)) (Ba (Bc (pv 11)) (Ba (Bc (pv 8)) Bq)))))))))
     (Eo (Iz A7)) Nn)
     (Eo (Sn (aW hu64 (Lm (Bc (pv 11)) Cp) cQ)
     (Eo (K8 (k:=1) (pv 11) BL (λ_=>.non))) Nn)))))))))))))))
   (Eo (Iz A7))
 case h =>
  intro ns h63
  array_get_dec
  have lc:(Pu ns none (some 3)).length<=3:=ES 3
  refine ⟨by rw[Af]; omega,?_⟩
  refine Zz (l:=Pu ns none (some 3)++[0]) (g:=Ax) (by rw[Bh]; rfl) (λi δ=>∃(l:List DV) (n':Nat),δ=⟨.scr ns::l,n'⟩/\l.length=11/\(∀v∈l,NP v)/\n'<=3000 * i) ?_ ?_ ?_
  ·exact ⟨_,_,rfl,rfl,by simp [Pz],by omega⟩
  ·rintro i c _ hc ⟨l,n0,rfl,hl,hv,hn⟩
   have hi:i<4:=by
    have:=(Av.mp hc).1
    rw[Bf,Fl] at this
    omega
   match l,hl with
   | [v1,v2,v3,v4,v5,v6,v7,v8,v9,v10,v11],_ =>
   simp only[List.forall_mem_cons] at hv
   obtain ⟨hv1,hv2,hv3,hv4,hv5,hv6,hv7,hv8,hv9,hv10,hv11,-⟩:=hv
   array_get_dec
   refine ⟨rfl,by omega,λr1=>?_⟩
   array_get_dec
   obtain ⟨h,eh,h0,h1⟩ : ∃h:Int,Vu [Ax (1+r1 / 8 % 5),.int 7,.int (8+r1 / 8 % 3)] (if r1 % 8 - 5 > 0 then r1 % 8 - 5 else 0)=some (.int h)/\0<h/\h<=10:=by
    have b5:=Nl (r1 / 8) (b:=5) (by decide)
    have b3:=Nl (r1 / 8) (b:=3) (by decide)
    have b8:=Nl r1 (b:=8) (by decide)
    by_cases z:r1 % 8 - 5 > 0
    ·rw[if_pos z]
     rcases (show r1 % 8 - 5=1\/r1 % 8 - 5=2 by omega) with q | q <;> rw[q]
     ·exact ⟨7,rfl,by decide,by decide⟩
     ·exact ⟨8+r1 / 8 % 3,rfl,by omega,by omega⟩
    ·rw[if_neg z]
     exact ⟨1+r1 / 8 % 5,rfl,by omega,by omega⟩
   refine ⟨_,eh,h,rfl,by omega,h1,λL pe po=>?_⟩
   have nd:=Te pe
   have ll:=(Ym (n:=h.toNat) (by omega) pe).1
   have nL:[]∈L:=(Yu pe).mpr ⟨Ea,λ_ z=>(nomatch z)⟩
   array_get_dec
   obtain ⟨m,em,m0,m1⟩ : ∃m:Int,Vu [Ax 40,.int 12] (if decide (5<h)=true then 1 else 0)=some (.int m)/\0<=m/\m<=60:=by
    rw[EV]
    cases decide (5<h)
    ·exact ⟨40,rfl,by decide,by decide⟩
    ·exact ⟨12,rfl,by decide,by decide⟩
   refine ⟨_,em,h,m,rfl,h0,h1,m0,m1,by omega,λdeck n1 k1 k2 ld hd=>?_⟩
   refine ⟨L,deck,rfl,Yz nL,ll,ld,by omega,λms n2 k3 k4 lm bm=>?_⟩
   obtain ⟨f,rfl⟩:=AM nd lm
   have f0:f []<=10000:=by have:=bm _ (Xt nL); omega
   refine ⟨h,L,f,rfl,by omega,h1,pe,?_⟩
   array_get_dec
   refine Zz (l:=Cd 3) (g:=λi:Nat=>.int i) rfl (λi δ=>∃(v10 v11:DV),δ=⟨[.scr ns,.dat .sh (.int c),.drw,.dat .sh (.int r1),.dat .sh (.int h),.dat .sh (.list (L.map Br)),.dat .sh (.list (deck.map Br)),.dat .sh (.list ((L.map f).map Ax)),.dat .sh (.dict (Ov (Pt L (Lv (Pa h.toNat) f)))),.dat .sh (.list ((L.map f).map Ax)),v10,v11],n2⟩/\NP v10/\NP v11) ?_ ?_ ?_
   ·exact ⟨_,_,rfl,hv10,hv11⟩
   ·clear hv10 hv11
    rintro j a _ ha ⟨v10,v11,rfl,hv10,hv11⟩
    array_get_dec
    refine ⟨h,L,f,rfl,by omega,h1,pe,po,λhall=>⟨cZ pe hall f0,?_⟩,λw hw hneg=>?_⟩
    ·have hs:=cZ pe hall f0
     array_get_dec
     refine ⟨L,Lv (Pa h.toNat) f,_,rfl,Yz nL,ll,.inr ⟨hall,hs,rfl⟩,?_⟩
     array_get_dec
     exact ⟨by omega,_,_,rfl,Jk,W0⟩
    ·array_get_dec
     refine ⟨L,Lv (Pa h.toNat) f,_,rfl,Yz nL,ll,.inl ⟨w,hw,hneg,rfl⟩,?_⟩
     array_get_dec
     exact ⟨_,_,rfl,Jk,W0⟩
   ·rintro _ ⟨v10,v11,rfl,hv10,hv11⟩
    exact ⟨_,_,rfl,rfl,by simp only[List.forall_mem_cons]; exact ⟨Jk,AY,Jk,Jk,Jk,Jk,Jk,Jk,Jk,hv10,hv11,BR⟩,by omega⟩
  ·rintro _ ⟨l,n0,rfl,hl,hv,hn⟩
   array_get_dec
end
structure Def(K:PySem.W.Frag)(x:Str)(st:Stmt)(f:Addr)(fd:Dc):Prop where
 nm:PySem.W.nsIn K Dg x=some (some (.ref f))
 fn:Fun K x x st f fd
theorem def_mk{K:PySem.W.Frag}{x:Str}{st:Stmt}{f:Addr}{od an:Option Addr}{sl:Array (Option Value)}{oc kV dc pm cd ct:Value}(a:PySem.W.nsIn K Dg x=some (some (.ref f)))(l:K.lookup f=some ⟨oc,od,.func (PySem.W.fnOf x x (Qe st) (Kt st) (Cf st) .none kV dc pm an cd ct),sl⟩)(c:PySem.W.codeIn K cd x=true)(k:PySem.W.keepIn K (.ref f)=true):Def K x st f (PySem.W.fnOf x x (Qe st) (Kt st) (Cf st) .none kV dc pm an cd ct):=⟨a,x5 l c k⟩
theorem all_mk{l:PySem.W.OpenLaw}{w:World}{K:PySem.W.Frag}{h:Heap}{mg:Str->Option Value}{fa f1 f2 f3 f4 f5 f6 f7 f8 f9 f10 f11 f12 f13 f14 f15 f16:Addr}{d1 d2 d3 d4 d5 d6 d7 d8 d9 d10 d11 d12 d13 d14 d15:Dc}(X:K.In h)(G:h.Ns Dg mg)(hfa:mg "law" = some (.ref fa)){od an:Option Addr}{sl:Array (Option Value)}{oc kV dc pm cd ct:Value}(D1:Def K "_law_draws" jP f1 d1)(D2:Def K "_law_next" sQ f2 d2)(D3:Def K "together" Sd f3 d3)(D4:Def K "all_words" Qg f4 d4)(D5:Def K "_law_words" Oi f5 d5)(D6:Def K "_law_small" Rq f6 d6)(D7:Def K "_law_lies" Qd f7 d7)(D8:Def K "_law_deck" Tp f8 d8)(D9:Def K "order_of" Rz f9 d9)(D10:Def K "put_to" Wx f10 d10)(D11:Def K "parted_by" Tx f11 d11)(D12:Def K "deck_of" Uo f12 d12)(D13:Def K "_law_just_so" Pi f13 d13)(D14:Def K "_law_right" Sf f14 d14)(D15:Def K "_law_numbers" Gn f15 d15)(aL:PySem.W.nsIn K Dg "law" = some (some (.ref f16)))(lL:K.lookup f16=some ⟨oc,od,.func (PySem.W.fnOf "law" "law" (Qe iF) (Kt iF) (Cf iF) .none kV dc pm an cd ct),sl⟩)(cL:PySem.W.codeIn K cd "law" = true)(kL:PySem.W.keepIn K (.ref f16)=true)(z1:PySem.W.nsIn K Dg "tuple" = some none)(z2:PySem.W.nsIn K Dg "sorted" = some none)(z3:PySem.W.nsIn K Dg "set" = some none)(z4:PySem.W.nsIn K Dg "range" = some none)(z5:PySem.W.nsIn K Dg "len" = some none)(z6:PySem.W.nsIn K Dg "enumerate" = some none)(z7:PySem.W.nsIn K Dg "zip" = some none)(z8:PySem.W.nsIn K Dg "dict" = some none)(z9:PySem.W.nsIn K Dg "isinstance" = some none)(z10:PySem.W.nsIn K Dg "min" = some none)(z11:PySem.W.nsIn K Dg "list" = some none)(z12:PySem.W.nsIn K Dg "int" = some none)(z13:PySem.W.nsIn K Dg "max" = some none):∃fd:Dc,(∀(s:Ai) (v:Value),BindsTo s fd ⟨[v],[]⟩ [("_law_script",v)])/\∀base:Heap,K.In base->base.Ns Dg mg->FnOk l.prog w K mg base La 5 fa fd ["_law_script"] (DL.spLawD K):=by
 have e:=hfa.symm.trans (PySem.W.mg_of X G aL)
 cases e
 have FL:=x5 (st:=iF) lL cL kL
 have b1:=D1.fn.binds (ps:=["_law_cell"]) λ_ _ _ _ _ _ us hl=>match us,hl with | [_],_=>rfl
 have b2:=D2.fn.binds (ps:=["_law_draws_here"]) λ_ _ _ _ _ _ us hl=>match us,hl with | [_],_=>rfl
 have b3:=D3.fn.binds (ps:=["one", "other"]) λ_ _ _ _ _ _ us hl=>match us,hl with | [_,_],_=>rfl
 have b4:=D4.fn.binds (ps:=["holes"]) λ_ _ _ _ _ _ us hl=>match us,hl with | [_],_=>rfl
 have b5:=D5.fn.binds (ps:=["_law_holes"]) λ_ _ _ _ _ _ us hl=>match us,hl with | [_],_=>rfl
 have b6:=D6.fn.binds (ps:=["_law_draws_here", "_law_holes"]) λ_ _ _ _ _ _ us hl=>match us,hl with | [_,_],_=>rfl
 have b7:=D7.fn.binds (ps:=["_law_one", "_law_other"]) λ_ _ _ _ _ _ us hl=>match us,hl with | [_,_],_=>rfl
 have b8:=D8.fn.binds (ps:=["_law_draws_here", "_law_holes", "_law_limit"]) λ_ _ _ _ _ _ us hl=>match us,hl with | [_,_,_],_=>rfl
 have b9:=D9.fn.binds (ps:=["holes"]) λ_ _ _ _ _ _ us hl=>match us,hl with | [_],_=>rfl
 have b10:=D10.fn.binds (ps:=["numbers", "order", "place", "times"]) λ_ _ _ _ _ _ us hl=>match us,hl with | [_,_,_,_],_=>rfl
 have b11:=D11.fn.binds (ps:=["order", "numbers", "places"]) λ_ _ _ _ _ _ us hl=>match us,hl with | [_,_,_],_=>rfl
 have b12:=D12.fn.binds (ps:=["holes", "numbers"]) λ_ _ _ _ _ _ us hl=>match us,hl with | [_,_],_=>rfl
 have b13:=D13.fn.binds (ps:=["_law_words_here", "_law_numbers_here", "_law_holes"]) λ_ _ _ _ _ _ us hl=>match us,hl with | [_,_,_],_=>rfl
 have b14:=D14.fn.binds (ps:=["_law_words_here", "_law_told", "_law_just_so_here"]) λ_ _ _ _ _ _ us hl=>match us,hl with | [_,_,_],_=>rfl
 have b15:=D15.fn.binds (ps:=["_law_draws_here", "_law_words_here", "_law_deck_here"]) λ_ _ _ _ _ _ us hl=>match us,hl with | [_,_,_],_=>rfl
 have m1:=PySem.W.mg_of X G D1.nm
 have m2:=PySem.W.mg_of X G D2.nm
 have m3:=PySem.W.mg_of X G D3.nm
 have m4:=PySem.W.mg_of X G D4.nm
 have m5:=PySem.W.mg_of X G D5.nm
 have m6:=PySem.W.mg_of X G D6.nm
 have m7:=PySem.W.mg_of X G D7.nm
 have m8:=PySem.W.mg_of X G D8.nm
 have m9:=PySem.W.mg_of X G D9.nm
 have m10:=PySem.W.mg_of X G D10.nm
 have m11:=PySem.W.mg_of X G D11.nm
 have m12:=PySem.W.mg_of X G D12.nm
 have m13:=PySem.W.mg_of X G D13.nm
 have m14:=PySem.W.mg_of X G D14.nm
 have m15:=PySem.W.mg_of X G D15.nm
 have y1:=PySem.W.mg_none_of X G z1
 have y2:=PySem.W.mg_none_of X G z2
 have y3:=PySem.W.mg_none_of X G z3
 have y4:=PySem.W.mg_none_of X G z4
 have y5:=PySem.W.mg_none_of X G z5
 have y6:=PySem.W.mg_none_of X G z6
 have y7:=PySem.W.mg_none_of X G z7
 have y8:=PySem.W.mg_none_of X G z8
 have y9:=PySem.W.mg_none_of X G z9
 have y10:=PySem.W.mg_none_of X G z10
 have y11:=PySem.W.mg_none_of X G z11
 have y12:=PySem.W.mg_none_of X G z12
 have y13:=PySem.W.mg_none_of X G z13
 refine ⟨PySem.W.fnOf "law" "law" (Qe iF) (Kt iF) (Cf iF) .none kV dc pm an cd ct,λs v=>.of_eq rfl,λbase _ _=>?_⟩
 have g1:=vH (P:=l.prog) (w:=w) (mg:=mg) (base:=base) D1.fn
 have g2:=zS (P:=l.prog) (w:=w) (mg:=mg) (base:=base) D2.fn
 have g3:=iP (P:=l.prog) (w:=w) (mg:=mg) (base:=base) D3.fn y1 y2 y3
 have g4:=gY (P:=l.prog) (w:=w) (mg:=mg) (base:=base) D4.fn y4 y2
 have g5:=dQ (P:=l.prog) (w:=w) (mg:=mg) (base:=base) D5.fn y4 y2
 have g6:=dW (P:=l.prog) (w:=w) (mg:=mg) (base:=base) D6.fn g2 b2 D2.fn.kp m2 y4 y1
 have g7:=iC (P:=l.prog) (w:=w) (mg:=mg) (base:=base) D7.fn
 have g8:=gW (P:=l.prog) (w:=w) (mg:=mg) (base:=base) D8.fn g2 b2 D2.fn.kp m2 g6 b6 D6.fn.kp m6 y4 y5 y2 y3 y1
 have g9:=oI (P:=l.prog) (w:=w) (mg:=mg) (base:=base) D9.fn g4 b4 D4.fn.kp m4 y6
 have g10:=vE (P:=l.prog) (w:=w) (mg:=mg) (base:=base) D10.fn g3 b3 D3.fn.kp m3 y7
 have g11:=hZ (P:=l.prog) (w:=w) (mg:=mg) (base:=base) D11.fn g10 b10 D10.fn.kp m10
 have g12:=qK (P:=l.prog) (w:=w) (mg:=mg) (base:=base) D12.fn g9 b9 D9.fn.kp m9 g11 b11 D11.fn.kp m11 y1 y4 y7
 have g13:=Zx (P:=l.prog) (w:=w) (mg:=mg) (base:=base) D13.fn y8 y7 y4 y2 y1
 have g14:=dZ (P:=l.prog) (w:=w) (mg:=mg) (base:=base) D14.fn y5 y1 y9 y10 y11
 have g15:=Zv (P:=l.prog) (w:=w) (mg:=mg) (base:=base) D15.fn g2 b2 D2.fn.kp m2 g7 b7 D7.fn.kp m7 y5 y4 y12
 exact X1 FL g12 b12 D12.fn.kp m12 g1 b1 D1.fn.kp m1 g2 b2 D2.fn.kp m2 g5 b5 D5.fn.kp m5 g8 b8 D8.fn.kp m8 g13 b13 D13.fn.kp m13 g15 b15 D15.fn.kp m15 g14 b14 D14.fn.kp m14 y13 y12 y11 y4
theorem walk{l:PySem.W.OpenLaw}{q:Bl}{loose:List Str}{XP:(Str->Option Value)->Heap->Prop}{YP:World->Heap->Prop}{d:DefRec}{K:Params->PySem.W.Frag}(hn:l.most=some 63)(hdf:d.params.defaults=[])(hY:∀(w:World) (h:Heap),YP w h->(K w.params).In h)(F:∀(w:World) (mg:Str->Option Value) (fa:Addr) (h:Heap),(K w.params).In h->h.Ns Dg mg->mg d.name=some (.ref fa)->∃fd:Dc,(∀(s:Ai) (u:Value),BindsTo s fd ⟨[u],[]⟩ [("_law_script",u)])/\∀base:Heap,(K w.params).In base->base.Ns Dg mg->FnOk l.prog w (K w.params) mg base La 5 fa fd ["_law_script"] (DL.spLawD (K w.params))):PySem.W.WalkO q loose XP YP l.row.toRowW d [] (λf vs=>PySem.call f vs) :=
 L2.walk_ofD (n:=63) (k:=5) (x := "_law_script") (CX:=λ_=>La) (sp:=λw=>DL.spLawD (K w.params)) hn (by decide) hdf ⟨rfl,by decide,by decide,rfl⟩ hY F (λ_ _ a ns hl _ hS=>⟨a,ns,rfl,hS,hl,λ_=>rfl⟩) λ_ _ _ _ _ z=>z
end K52
open PySem PySem.W PyProof.Rows
set_option maxRecDepth 100000 in
set_option maxHeartbeats 0 in
theorem PySem.Challenge.cw_needledeck_k52_back_from_counts_holds : PySem.Challenge.rw_needledeck_k52_back_from_counts.Holds := by
 w_on; o_law; k_head; (case hw=>w_witness2)
 k_fill
 refine K52.walk (l:=PySem.Challenge.rw_needledeck_k52_back_from_counts) rfl rfl (λw h Y=>PySem.W.kIn_of Y) ?F
 case F =>
  intro w mg fa h KX G hmg
  refine' K52.all_mk KX G hmg (K52.def_mk ?a1 ?l1 ?c1 ?k1) (K52.def_mk ?a2 ?l2 ?c2 ?k2) (K52.def_mk ?a3 ?l3 ?c3 ?k3) (K52.def_mk ?a4 ?l4 ?c4 ?k4) (K52.def_mk ?a5 ?l5 ?c5 ?k5) (K52.def_mk ?a6 ?l6 ?c6 ?k6) (K52.def_mk ?a7 ?l7 ?c7 ?k7) (K52.def_mk ?a8 ?l8 ?c8 ?k8) (K52.def_mk ?a9 ?l9 ?c9 ?k9) (K52.def_mk ?a10 ?l10 ?c10 ?k10) (K52.def_mk ?a11 ?l11 ?c11 ?k11) (K52.def_mk ?a12 ?l12 ?c12 ?k12) (K52.def_mk ?a13 ?l13 ?c13 ?k13) (K52.def_mk ?a14 ?l14 ?c14 ?k14) (K52.def_mk ?a15 ?l15 ?c15 ?k15) ?aL ?lL ?cL ?kL ?z1 ?z2 ?z3 ?z4 ?z5 ?z6 ?z7 ?z8 ?z9 ?z10 ?z11 ?z12 ?z13
  (case a1=>k_is); (case l1=>k_is); (case c1=>k_is); (case k1=>k_is)
  (case a2=>k_is); (case l2=>k_is); (case c2=>k_is); (case k2=>k_is)
  (case a3=>k_is); (case l3=>k_is); (case c3=>k_is); (case k3=>k_is)
  (case a4=>k_is); (case l4=>k_is); (case c4=>k_is); (case k4=>k_is)
  (case a5=>k_is); (case l5=>k_is); (case c5=>k_is); (case k5=>k_is)
  (case a6=>k_is); (case l6=>k_is); (case c6=>k_is); (case k6=>k_is)
  (case a7=>k_is); (case l7=>k_is); (case c7=>k_is); (case k7=>k_is)
  (case a8=>k_is); (case l8=>k_is); (case c8=>k_is); (case k8=>k_is)
  (case a9=>k_is); (case l9=>k_is); (case c9=>k_is); (case k9=>k_is)
  (case a10=>k_is); (case l10=>k_is); (case c10=>k_is); (case k10=>k_is)
  (case a11=>k_is); (case l11=>k_is); (case c11=>k_is); (case k11=>k_is)
  (case a12=>k_is); (case l12=>k_is); (case c12=>k_is); (case k12=>k_is)
  (case a13=>k_is); (case l13=>k_is); (case c13=>k_is); (case k13=>k_is)
  (case a14=>k_is); (case l14=>k_is); (case c14=>k_is); (case k14=>k_is)
  (case a15=>k_is); (case l15=>k_is); (case c15=>k_is); (case k15=>k_is)
  (case aL=>k_is); (case lL=>k_is); (case cL=>k_is); (case kL=>k_is)
  (case z1=>k_is); (case z2=>k_is); (case z3=>k_is); (case z4=>k_is); (case z5=>k_is); (case z6=>k_is); (case z7=>k_is); (case z8=>k_is); (case z9=>k_is); (case z10=>k_is); (case z11=>k_is); (case z12=>k_is); (case z13=>k_is)