import PyProof.Rows.All
import Wide.All
import OpenK.AllK
import Wide.FinOn
import Lean
import PyProof.EqAt
import PyProof.EqKinds
import PyProof.TupleCall
import PyProof.FactsAll.set
import PyProof.FactsAll.subtypes
import KE.KTupSum
import KE.KMinBuiltin
import PyProof.Draws
import PyProof.DictWalks
import PyProof.DictCompW
import PyProof.IsiH_tuple
import PyProof.FactsAll.zip
import KE.KDictOf
import PyProof.DictValues
import PySem.Challenge.RW_needledeck_k54_whole_counts_there_and_ba
set_option Elab.async false
set_option linter.all false
set_option maxRecDepth 100000
set_option maxHeartbeats 4000000
open Array renaming length_toList → Am, getD_eq_getD_getElem? → Cz, toList_append → Dy, getElem?_toList → Ft, getElem?_eq_some_iff → Ic, getElem?_eq_getElem → Iq, toList_push → Iz, toList_extract → Ov, perm_iff_toList_perm → Qw, size_setIfInBounds → Rv, getElem?_eq_none → Tp, toList_reverse → Wl, size_map → Wm, forIn_toList → Zk, toList_setIfInBounds → jB
open Bool renaming false_ne_true → Bs, false_eq_true → Bz, and_eq_true → Ed, not_eq_true' → Kx, eq_iff_iff → Pv, not_true → Sx, and_false → Xg, not_eq_false' → aP
open Classical renaming byContradiction → Qb
open False renaming elim → Le
open ForInStep renaming done → Df, yield → Et
open Int renaming toNat_natCast → Ee
open LawfulBEq renaming eq_of_beq → Ef
open List renaming mem_cons_self → Ab, mem_cons_of_mem → Ac, length_map → Ad, mem_append_right → Ah, mem_cons → Ak, mem_singleton → Al, mem_append_left → Ao, map_cons → Ap, size_toArray → Av, getElem?_eq_some_iff → Ax, not_mem_nil → Az, mem_append → Bc, pairwise_cons → Bd, getElem?_map → Bg, length_cons → Bl, length_append → Bn, map_append → Bo, mem_of_getElem? → Bq, getElem?_eq_getElem → Bt, sublist_append_right → Bu, append_assoc → Bw, replicate → By, range → Cc, lookup_cons → Ce, nodup_cons → Cm, length_range → Cq, map_map → Cr, pairwise_append → Cw, length_take → Cy, mem_map → Dc, sublist_cons_self → Dm, perm_middle → Eb, append_nil → Ec, perm_append_comm → El, nodup_nil → Ep, take_length → Ey, pairwise_singleton → Fi, length_zipIdx → Fl, cons_append → Fn, take_append_drop → Fw, mem_range → Fz, mem_iff_getElem → Gh, take_of_length_le → Gu, replicate_succ → Gv, take_sublist → Hm, nodup_append → Hn, length_zip → Hr, dropLast_concat_getLast → Hs, zip_cons_cons → Ig, mem_replicate → Ih, getElem?_append_right → Ii, mem_filter → Iw, find?_cons → Iy, length → Ja, flatten_cons → Jb, drop_sublist → Jc, getElem?_take_of_lt → Jh, length_nil → Kj, length_singleton → Kt, reverse_perm → Kw, zipIdx_cons → Ll, length_drop → Lm, pairwise_iff_getElem → Lp, getElem?_append_left → Lq, extract_eq_take_drop → Lr, filterMap_cons → Lv, eq_of_mem_replicate → Mc, filter_append → Mq, lookup → Mr, length_eq_zero_iff → Ms, flatMap_cons → Nj, drop_zero → Nk, countP_congr → Nl, mem_flatMap → Oi, forIn_cons → Pu, map_congr_left → Py, length_pos_iff → Pz, filter_eq_self → Qa, map_set → Qf, map_nil → Qg, getD_eq_getElem?_getD → Qy, forIn_nil → Qz, getElem?_set → Rt, ext_getElem? → Ru, mem_reverse → Ti, eraseIdx_cons_succ → Tj, countP_cons → Tn, all_eq_true → To, append_eq_nil_iff → Ux, pairwise_reverse → Wa, length_replicate → Wb, getElem?_reverse → Wc, flatMap_append → Zc, any_cons → Zf, mem_filterMap → aM, getElem?_drop → aN, countP_append → aO, mapM_toArray → bN, getElem?_inj → bO, foldl_append → bP, any_map → bQ, all_map → bR, eraseIdx_eq_take_drop_succ → cE, getElem_mem → fE, perm_append_comm_assoc → iZ, getElem?_zip_eq_some → mF, drop_eq_getElem_cons → mG, length_erase_of_mem → qL, length_pos_of_mem → tL, getElem?_set_self → tM, drop_of_length_le → tN, drop_eq_nil_of_le → tO, mem_iff_getElem? → vZ, countP_eq_length → wA, map_eq_nil_iff → zH
open List.Pairwise renaming nil → Ej, sublist → Jq
open List.Perm renaming swap → Ek, refl → Gi, cons → Je, append_left → Jy
open List.Sublist renaming refl → Co, cons → We
open List.cons renaming inj → Ht
open Nat renaming le_refl → Aj, ne_of_lt → Bm, le_trans → Cb, lt_of_lt_of_le → Cj, zero_le → Dq, lt_irrefl → Fc, lt_succ_of_lt → Hq, le_of_lt → Jd, le_add_right → Ju, not_lt_zero → Kl, le_succ → Mu, zero_add → Nt, ne_of_gt → Qu, pow_succ → Vv, mod_lt → Vw, lt_trans → Vx, pow_le_pow_right → Xk, succ_pos → cD, min_eq_right → fK, lt_succ_self → fL, lt_succ_iff → iY
open Ne renaming symm → Lu
open Option renaming none → Re, isSome_iff_exists → Rp
open Option.some renaming inj → Ca
open Or renaming inl → Dr, inr → Zb
open Prod.mk renaming injEq → Fo
open PyProof.Rows renaming wpS_bind → Ba, pendingOf → Bh, wpS_pure → Bi, SortSt → Bx, callWith_type1 → Dz, wpS_forRange → Ex, slot_tuple_getitem → Ez, IntsAre → Fp, seqObj → Gn, wpS_mono → Ib, wpS_modify → Ku, failedOf → My, SortKind → Mz, wpS_get → Oo, get?_update_seq → Rc, envOfC → Td, reverseSlice' → Vt, AllBare → Xm, firstOfTuple' → fB, subscriptTail_builtinR → L1
open PyProof.Rows.F renaming plain_set_update_loop → Ki, entry_set_update_loop → Sw
open PySem renaming wpAny_bind → Aa, wpAny_pure → Ae, PyData → Af, Shared → Ai, sizeLine → Ay, starEach → Bj, Program → Bk, wpAny_newObj_type → Cg, Around → Ci, SetTable → Cn, FuncData → Cs, wpAny_holding → Ct, wpAny_mono → Cu, foldedSetIterable → Da, wpAny_callSpecial?_slot → Dd, wpAny_call_entry → Dj, mainGlobals → Dl, wpAny_field → Ei, cellsFrom → En, rawInt → Ff, IsPair → Ga, sizeLine_eq → Gp, behindInMarks → Gy, wpAny_seqItems → Gz, codeAny → Hb, sysModules → Hg, backTo → Hh, wpAny_standAt → Hk, wpAny_comprehension_free → Hl, letOwnedTupleGo → Hz, codeAny_builtin → Ia, wpAny_isInstance → Ip, wpAny_setField_rec → Iv, pyNext → Ji, wpAny_loadPart' → Jk, compareOp → Jl, wpAny_typeOf → Jm, wpAny_truthy_bool → Jn, wpAny_of_eq → Jo, binaryOp → Jp, wpAny_rule → Jt, newFunctionEnv → Ke, firstArgMember → Kf, DictEntry → Kg, wpAny_typeNameOfWhole_keyiter → Kr, unsetMember → Ks, codeAny_compStart_list → Kv, wpAny_attempt → Lh, wpAny_setField → Ma, assignEach → Mb, wpAny_typeNameOf_keyiter → Mx, wpAny_pyIter_tuple → Nq, assign → Nr, swapsWith → Oa, codeAny_mono → Oq, bootBuiltins → Os, builtinLookup_eq_fast → Pt, wpAny_pyIter_zip → Pw, tupleKind → Px, plainId_quiet → Qd, holding → Qe, sliceBounds → Qq, setField → Qr, ZipApart → Qs, NameKind → Qv, wpAny_passesOwn → Rb, getItem → Rr, wpAny_Call_Name_kw → Tc, compEnvC → Te, wpAny_storeSet_of → Ut, wpAny_pyIter_enum → Uu, wpAny_dictEntries → Uv, Keyword → Uy, attributeBase → Vu, wpAny_askSetting → Wj, pickOrder → Wk, wpAny_nextOf_list_item → Xh, intKind → Xi, call_meets → Xj, typeLookup_type → Yy, codeAny_of_tree → Yz, wpAny_updateSeq_pair → bA, wpAny_fieldsOf → bC, keywordEach → bD, isSubtype_type → bE, entryFor_alias → bF, IsPart → bG, standAt → bM, wpAny_onRaise → fA, wpAny_load → fG, typeLookup → fH, setEntries → fI, entryOfKey → fJ, wpAny_pyIter_slot → iV, wpAny_pyIter_list → iW, codeAny_loop → iX, noFill_tuple_add → mD, wpAny_letOwnedTupleGo_enum → vY, wpAny_letOwnedTupleGo_zip → zE, wpAny_pyNext_tuple_item → K7, wpAny_pyNext_tuple_end → L0, slot_list_getitem → II
open PySem.Around renaming under_plainId → Ge
open PySem.Builtin.Dict renaming updateFrom → cF
open PySem.Builtin.Dict_items renaming ownsTuple → Uz
open PySem.Builtin.Frozenset renaming addrOf → Er, isAnySet → Jr, updateFrom → Mf, copyOf → Oe, baseOf → Xl, slot1 → Zd
open PySem.Builtin.List renaming listTooLong → Lb, listFitsIndex → Ol, listLengthHint → Zj
open PySem.Builtin.Range renaming rangeSize → Lj
open PySem.Builtin.Slice renaming slicePlaces → Kk, sliceAdjust → Ou, sliceApplied → Zi
open PySem.Builtin.SmallTypes renaming nextOf → Cf, ownedTupleIsFree → Dg, ownedTupleHandOut → Ra
open PySem.Builtin.Tuple renaming tupleExact → Gw, tupleItemsOf → Zg, tupleIsExact → Zh
open PySem.Calls renaming call_function_entry → Rg, Name_function_global → jA
open PySem.F renaming slot_zip_next → Xf
open PySem.Heap renaming get?_push_of_some → Ag, lt_size → Ar, get?_push_size → Au, SameBut → Cv, get?_update_self → Fe, size_push → Hf, size_update → Oj, get?_push_cases → Oz, get?_none_of_le → Xd, ExtBut → Xe, get?_update_other → tP
open PySem.Heap.SameBut renaming update → Bp, refl → Pe
open PySem.NameKind renaming cell → Eo, free → Ew
open PySem.Obj renaming mapSeq → Gf, data_mapFields → Rf
open PySem.PassesOwn renaming never → Es
open PySem.PyData renaming int → Aw, depthAll → Br, depth → Ea, tuple → Li
open PySem.SeqAt renaming EqAt → Od
open PySem.SetTable renaming below → Cp, bits → Di, sizeAbove → Dv, insertAt → He, turns → Hw, runEnd → Ik, laid → Jx, layClean → Qt, fill → Qx, insertAt_perm → lZ
open PySem.SetTable.below renaming go → Uw
open PySem.SetTable.layClean renaming free → Ld
open PySem.SetTable.probe renaming go → Ot
open PySem.Str renaming ofString → Ds
open PySem.Value renaming ref → Be, none → Gq, type → Me, int → Oc
open Sum renaming inl → Za
set_option hygiene false
local macro_rules
|`(tactic|w_pre $h)=>match h.getId.toString with
 | "a"=>`(tactic|(
  obtain ⟨it,fp,tn,J,H2,e,I2,T,st2,f2,q2⟩:=h2
  subst e
  have fD:H2 s2.heap.objs.size=none:=I2.hok.fresh (Aj _)
  obtain ⟨W,⟨m0,w0⟩,turn⟩:=q2 s2.heap.objs.size fD
  refine Cg ?_
  have I3:Inv X pins σ (upd H2 s2.heap.objs.size (.lst [])) { s2 with heap:=s2.heap.push { cls:=.type "list",dict:=none,data:=.seq ([]:List Value).toArray } } :=
   I2.laid (t':=s2.toks) (λb u q=>Ag _ q) (Aj _) ⟨Dq _,[],0,.nil,Au _ rfl⟩
  have nfp:∀b∈fp,b≠s2.heap.objs.size:=λb hb z=>by
   obtain ⟨o,q,_⟩:=T.obj _ _ st2 b hb
   have:=Ar q
   rw[z] at this
   exact absurd this (Fc _)
  have f3:∀b∈fp,La X pins (upd H2 s2.heap.objs.size (.lst [])) b:=λb hb=>⟨by rw[Dw (nfp b hb)]; exact (f2 b hb).1,(f2 b hb).2⟩
  generalize hS3:({ s2 with heap:=s2.heap.push { cls:=.type "list",dict:=none,data:=.seq ([]:List Value).toArray } }:Ai)=s3 at I3
  have Qn:tn 0 s3.heap:=T.keep 0 _ _ st2 λb hb o q=>by rw[<- hS3]; exact Ag _ q
  have o3:∀b∈fp,∃o,s3.heap.get? b=some o:=λb hb=>let ⟨o,q,_⟩:=T.obj _ _ Qn b hb; ⟨o,q⟩
  show wpAny _ _ (Ke scope X.env.globals cl [] X.env.qual none .none (some X.env)) _ _ _
  refine Pd C λh4 hns4 keep4 new4=>?_
  have I4:∀tk,Inv (Dh X scope cl (x::x2::ys) fp s3 (upd H2 s2.heap.objs.size (.lst []))) [] (none::none::Eh σ js) (upd H2 s2.heap.objs.size (.lst [])) { s3 with heap:=h4,toks:=tk }:=λtk=>Nb (pre:=[x,x2]) C I3 f3 o3 hns4 keep4 new4
  have st4:tn 0 h4:=T.keep 0 _ _ Qn λb hb o q=>keep4 b o q
  generalize hX':Dh X scope cl (x::x2::ys) fp s3 (upd H2 s2.heap.objs.size (.lst []))=X' at I4
  have eP:X'.prog=X.prog:=by rw[<- hX']; rfl
  have eW:X'.w=X.w:=by rw[<- hX']; rfl
  have eK:X'.K=X.K:=by rw[<- hX']; rfl
  have eA:X'.A=X.A:=by rw[<- hX']; rfl
  have eC:X'.calm=true:=by rw[<- hX']; exact hc
  have stat:∀{H':Hp},(∀b∈fp,H' b=none)->∀b∈fp,La X' [] H' b:=λ{H'} hn b hb=>by
   have ok:=(I4 0).ok
   have hex:b∈X'.ex:=by rw[<- hX']; exact hb
   exact ⟨hn b hb,(ok.exf b hex).1,ok.exfs b hex,.inl hex,(ok.exf b hex).2,λp hp=>by rw[<- hX'] at hp; cases (show p∈([]:List (Addr×Obj)) from hp)⟩))
 | "b"=>`(tactic|(
  obtain ⟨it,fp,tn,J,H2,e,I2,T,st2,f2,q2⟩:=h2
  subst e
  have fD:H2 s2.heap.objs.size=none:=I2.hok.fresh (Aj _)
  obtain ⟨W,⟨m0,w0⟩,turn⟩:=q2 s2.heap.objs.size fD
  refine Cg ?_
  have I3:Inv X pins σ (upd H2 s2.heap.objs.size (.lst [])) { s2 with heap:=s2.heap.push { cls:=.type "list",dict:=none,data:=.seq ([]:List Value).toArray } } :=
   I2.laid (t':=s2.toks) (λb u q=>Ag _ q) (Aj _) ⟨Dq _,[],0,.nil,Au _ rfl⟩
  have nfp:∀b∈fp,b≠s2.heap.objs.size:=λb hb z=>by
   obtain ⟨o,q,_⟩:=T.obj _ _ st2 b hb
   have:=Ar q
   rw[z] at this
   exact absurd this (Fc _)
  have f3:∀b∈fp,La X pins (upd H2 s2.heap.objs.size (.lst [])) b:=λb hb=>⟨by rw[Dw (nfp b hb)]; exact (f2 b hb).1,(f2 b hb).2⟩
  generalize hS3:({ s2 with heap:=s2.heap.push { cls:=.type "list",dict:=none,data:=.seq ([]:List Value).toArray } }:Ai)=s3 at I3
  have Qn:tn 0 s3.heap:=T.keep 0 _ _ st2 λb hb o q=>by rw[<- hS3]; exact Ag _ q
  have o3:∀b∈fp,∃o,s3.heap.get? b=some o:=λb hb=>let ⟨o,q,_⟩:=T.obj _ _ Qn b hb; ⟨o,q⟩
  show wpAny _ _ (Ke scope X.env.globals cl [] X.env.qual none .none (some X.env)) _ _ _
  refine Pd C λh4 hns4 keep4 new4=>?_
  have I4:∀tk,Inv (Dh X scope cl (x::ys) fp s3 (upd H2 s2.heap.objs.size (.lst []))) [] (none::Eh σ js) (upd H2 s2.heap.objs.size (.lst [])) { s3 with heap:=h4,toks:=tk }:=λtk=>Nb (pre:=[x]) C I3 f3 o3 hns4 keep4 new4
  have st4:tn 0 h4:=T.keep 0 _ _ Qn λb hb o q=>keep4 b o q
  generalize hX':Dh X scope cl (x::ys) fp s3 (upd H2 s2.heap.objs.size (.lst []))=X' at I4
  have eP:X'.prog=X.prog:=by rw[<- hX']; rfl
  have eW:X'.w=X.w:=by rw[<- hX']; rfl
  have eK:X'.K=X.K:=by rw[<- hX']; rfl
  have eA:X'.A=X.A:=by rw[<- hX']; rfl
  have eC:X'.calm=true:=by rw[<- hX']; exact hc
  have stat:∀{H':Hp},(∀b∈fp,H' b=none)->∀b∈fp,La X' [] H' b:=λ{H'} hn b hb=>by
   have ok:=(I4 0).ok
   have hex:b∈X'.ex:=by rw[<- hX']; exact hb
   exact ⟨hn b hb,(ok.exf b hex).1,ok.exfs b hex,.inl hex,(ok.exf b hex).2,λp hp=>by rw[<- hX'] at hp; cases (show p∈([]:List (Addr×Obj)) from hp)⟩))
 | "c"=>`(tactic|(
  ·have hit:=T.item X' eP eW eK eC i [] s6 _ H6 (λ_ _=>False) I6 (stat fr6) st6 go
   rw[eA] at hit
   refine Fq hit λr s7 ⟨u,hr,h7⟩=>?_
   subst hr
   refine Fq h7 λ_ s8 ⟨y,H8,I8,r8,y8,st8,fr8⟩=>?_
   have I8':=I8.pinned (stat fr8) (T.obj _ _ st8)
   obtain ⟨tp,w1,w2,ey,hsq,N1,N2,hN1,hN2,hst⟩:=step y H8 y8
   have again:∀{H9:Hp} {s9:Ai} {m':Nat},Inv X' ([]++Of fp s8.heap) (some w1::some w2::Eh σ js) H9 s9->m'<n->W (i+1) m' H9->∃m,m<n/\∃i o o2 H',Inv X' [] (o::o2::Eh σ js) H' s9/\tn i s9.heap/\(∀b∈fp,H' b=none)/\W i m H':=λ{H9 s9 m'} I9 hm w9=>by
    refine ⟨m',hm,i+1,some w1,some w2,H9,I9.unpinned,T.keep _ _ _ st8 λb hb o e=>(I9.pin (b,o) (Ah _ (Ah _ (Fm hb e)))).1,λb hb=>?_,w9⟩
    obtain ⟨o,e,_⟩:=T.obj _ _ st8 b hb
    exact (I9.pin (b,o) (Ah _ (Ah _ (Fm hb e)))).2.1
   subst hX'
   have g1:PG (Dh X scope cl (x::x2::ys) fp s3 (upd H2 s2.heap.objs.size (.lst []))) (.Tuple [.Name x px,.Name x2 px2] kt pt) (o4 X.K 2 (Yl (Pj 0) (Yl (Pj 1) r9))) :=
    cW (X:=Dh X scope cl (x::x2::ys) fp s3 (upd H2 s2.heap.objs.size (.lst []))) hc (Mk (Kc (i:=0) (x:=x) nd2 rfl (Mn C.own) (Pf C.own)) (Mk (Kc (i:=1) (x:=x2) nd2 rfl (Mn own2) (Pf own2)) Ys))
   refine Fq (g1 _ s8 _ H8 y u (λσ' H'=>σ'=some w1::some w2::Eh σ js/\H'=H8) I8' r8 ⟨tp,[w1,w2],ey,hsq,rfl,_,_,rfl,_,_,rfl,rfl,rfl,rfl⟩) λ_ s9 ⟨σ9,H9,I9,e9,e9'⟩=>?_
   subst e9 e9'
   refine Fq (ht fp s3 _ _ s9 _ _ _ I9 hst) λok s10 ⟨H10,I10,q10⟩=>?_
   cases ok with
   | false =>
    rw[if_neg Bs] at q10 ⊢
    obtain ⟨m',hm,w10⟩:=hN1 _ q10
    exact again I10 hm w10
   | true =>
    rw[if_pos rfl] at q10 ⊢
    refine Fq (he fp s3 _ _ s10 _ _ _ I10 q10) λz s11 ⟨vz,H11,I11,r11,q11⟩=>?_
    obtain ⟨acc,ha,hz,m',hm,w11⟩:=hN2 _ _ q11
    refine Fq (Pc _ s11 _ H11 (.ref s2.heap.objs.size) [vz] (.ref s2.heap.objs.size) [z] (λ_ H'=>H'=upd H11 s2.heap.objs.size (.lst (acc++[vz]))) I11 rfl (.cons r11 .nil) ⟨_,acc,vz,rfl,rfl,ha,hz,rfl⟩) λ_ s12 ⟨_,H12,I12,_,e12⟩=>?_
    subst e12
    exact again I12 hm w11))
 | "d"=>`(tactic|(
  rcases turn i n H6 w6 with ⟨stop,qn⟩ | ⟨go,step⟩
  ·have hd:=T.done X' eP eW eK eC i [] s6 _ H6 (λ_ _=>False) I6 (stat fr6) st6 stop
   rw[eA] at hd
   refine Fq hd λr s7 ⟨hr,I7⟩=>?_
   subst hr
   obtain ⟨m7,hn7,_⟩:=I7.loc
   have hn7':s7.heap.Ns s3.heap.objs.size m7:=by rw[<- hX'] at hn7; exact hn7
   refine ⟨m7,hn7',λh8 hs8=>?_⟩
   have I7f:H6 s3.heap.objs.size=none:=by have:=I7.free; rw[<- hX'] at this; exact this
   have b7:Un (gG X.stack) fp (upd H2 s2.heap.objs.size (.lst [])) H6 s3.heap s7.heap:=by have:=I7.base; rw[<- hX'] at this; exact this
   have ne8:∀b o,s3.heap.get? b=some o->b≠s3.heap.objs.size:=λb o q=>Bm (Ar q)
   have u8:Un (gG X.stack) fp (upd H2 s2.heap.objs.size (.lst [])) H6 s3.heap h8:=by
    refine ⟨λb o q n hb hx=>(hs8.2 b (ne8 b o q)).trans (b7.keep b o q n hb hx),λb o q n hb hx=>?_,b7.free,λb o q hx=>?_,b7.tups,b7.frzs,b7.tbls⟩
    ·obtain ⟨sl,z⟩:=b7.slot b o q n hb hx
     exact ⟨sl,(hs8.2 b (ne8 b o q)).trans z⟩
    ·obtain ⟨o',z⟩:=b7.there b o q hx
     exact ⟨o',(hs8.2 b (ne8 b o q)).trans z⟩
   have hok8:Wi X.prog X.w H6 h8:=λb ob e=>by
    have hk7:=I7.hok
    rw[eP,eW] at hk7
    refine (hk7 b ob e).stay (λc w' hcc q=>(hs8.2 c ?_).trans q) (λ_ q=>q) λ_ _ q=>q
    rintro rfl
    rcases hcc with rfl | hcc
    ·rw[I7f] at e; cases e
    ·rw[I7f] at hcc; cases hcc
   have os7:s7.os=s3.os:=by have:=I7.os; rw[<- hX'] at this; exact this
   exact ⟨.ref s2.heap.objs.size,H6,I3.call' (s':={ s7 with heap:=h8 }) (ch:=fp) os7 u8 hok8 I7.bare (λb hb=>⟨(f3 b hb).2.2.2.1,(f3 b hb).2.1,(f3 b hb).2.2.2.2.1,(f3 b hb).2.2.2.2.2⟩),rfl,qn⟩))
 | "e"=>`(tactic|(
  ·have hit:=T.item X' eP eW eK eC i [] s6 _ H6 (λ_ _=>False) I6 (stat fr6) st6 go
   rw[eA] at hit
   refine Fq hit λr s7 ⟨u,hr,h7⟩=>?_
   subst hr
   refine Fq h7 λ_ s8 ⟨y,H8,I8,r8,y8,st8,fr8⟩=>?_
   have I8':=I8.pinned (stat fr8) (T.obj _ _ st8)
   obtain ⟨N1,N2,hN1,hN2,hst⟩:=step y H8 y8
   have again:∀{H9:Hp} {s9:Ai} {m':Nat},Inv X' ([]++Of fp s8.heap) (some y::Eh σ js) H9 s9->m'<n->W (i+1) m' H9->∃m,m<n/\∃i o H',Inv X' [] (o::Eh σ js) H' s9/\tn i s9.heap/\(∀b∈fp,H' b=none)/\W i m H':=λ{H9 s9 m'} I9 hm w9=>by
    refine ⟨m',hm,i+1,some y,H9,I9.unpinned,T.keep _ _ _ st8 λb hb o e=>(I9.pin (b,o) (Ah _ (Ah _ (Fm hb e)))).1,λb hb=>?_,w9⟩
    obtain ⟨o,e,_⟩:=T.obj _ _ st8 b hb
    exact (I9.pin (b,o) (Ah _ (Ah _ (Fm hb e)))).2.1
   subst hX'
   refine Fq (Kc (i:=0) (x:=x) (pos:=px) C.nd rfl (Mn C.own) (Pf C.own) _ s8 _ H8 y u (λσ' H'=>σ'=some y::Eh σ js/\H'=H8) I8' r8 ⟨rfl,rfl⟩) λ_ s9 ⟨σ9,H9,I9,e9,e9'⟩=>?_
   subst e9 e9'
   refine Fq (ht fp s3 _ _ s9 _ _ _ I9 hst) λok s10 ⟨H10,I10,q10⟩=>?_
   cases ok with
   | false =>
    rw[if_neg Bs] at q10 ⊢
    obtain ⟨m',hm,w10⟩:=hN1 _ q10
    exact again I10 hm w10
   | true =>
    rw[if_pos rfl] at q10 ⊢
    refine Fq (he fp s3 _ _ s10 _ _ _ I10 q10) λz s11 ⟨vz,H11,I11,r11,q11⟩=>?_
    obtain ⟨acc,ha,hz,m',hm,w11⟩:=hN2 _ _ q11
    refine Fq (Pc _ s11 _ H11 (.ref s2.heap.objs.size) [vz] (.ref s2.heap.objs.size) [z] (λ_ H'=>H'=upd H11 s2.heap.objs.size (.lst (acc++[vz]))) I11 rfl (.cons r11 .nil) ⟨_,acc,vz,rfl,rfl,ha,hz,rfl⟩) λ_ s12 ⟨_,H12,I12,_,e12⟩=>?_
    subst e12
    exact again I12 hm w11))
 | "f"=>`(tactic|(
  rcases turn i n H6 w6 with ⟨stop,qn⟩ | ⟨go,step⟩
  ·have hd:=T.done X' eP eW eK eC i [] s6 _ H6 (λ_ _=>False) I6 (stat fr6) st6 stop
   rw[eA] at hd
   refine Fq hd λr s7 ⟨hr,I7⟩=>?_
   subst hr
   obtain ⟨m7,hn7,_⟩:=I7.loc
   have hn7':s7.heap.Ns s3.heap.objs.size m7:=by rw[<- hX'] at hn7; exact hn7
   have I7f:H6 s3.heap.objs.size=none:=by have:=I7.free; rw[<- hX'] at this; exact this
   have b7:Un (gG X.stack) fp (upd H2 s2.heap.objs.size (.lst [])) H6 s3.heap s7.heap:=by have:=I7.base; rw[<- hX'] at this; exact this
   have os7:s7.os=s3.os:=by have:=I7.os; rw[<- hX'] at this; exact this
   have hok7:Wi X.prog X.w H6 s7.heap:=by have:=I7.hok; rw[eP,eW] at this; exact this
   have J7:Inv X pins σ H6 s7:=I3.call' (s':=s7) (ch:=fp) os7 b7 hok7 I7.bare (λb hb=>⟨(f3 b hb).2.2.2.1,(f3 b hb).2.1,(f3 b hb).2.2.2.2.1,(f3 b hb).2.2.2.2.2⟩)
   have fC:La X pins H6 s3.heap.objs.size:=I3.fpOk (Aj _) I7f
   obtain ⟨oC,esC,epC,hoC,rC⟩:=id hn7'
   have J8:Inv X (pins++[(s3.heap.objs.size,oC)]) σ H6 s7:=J7.pins_of λp hp=>by
    rcases Bc.mp hp with z | z
    ·have q:=J7.pin p (Ah _ z)
     exact q
    ·rw[Al.mp z]
     exact ⟨hoC,I7f,fC.2.1,fC.2.2.1,λv hv=>by rw[rC.1] at hv; cases hv⟩
   refine Fq (Kc (X:=X) (i:=i0) (x:=y0) (pos:=py) hN hi0 (.inl hy0) (.inr hy0) (pins++[(s3.heap.objs.size,oC)]) s7 σ H6 (.ref s2.heap.objs.size) (.ref s2.heap.objs.size) (λσ' H'=>σ'=σ.set i0 (some (.ref s2.heap.objs.size))/\H'=H6) J8 rfl ⟨rfl,rfl⟩) λ_ s9 ⟨σ9,H9,I9,e9,e9'⟩=>?_
   subst e9 e9'
   have hoC9:=(I9.pin (s3.heap.objs.size,oC) (Ah _ (Ah _ Ab))).1
   have I9':Inv X pins (σ.set i0 (some (.ref s2.heap.objs.size))) H9 s9:=I9.pins_of λp hp=>I9.pin p (Ah _ (Ao _ hp))
   refine ⟨m7,hn7'.at λo e=>by rw[hoC] at e; cases e; exact hoC9,λh10 hs10=>?_⟩
   exact ⟨_,H9,Ln (t':=s9.toks) (fp:=[s3.heap.objs.size]) I9' (λb o hb e=>(hs10.2 b (λz=>hb (by rw[z]; exact Ab))).trans e) (λb hb=>by rw[Al.mp hb]; exact fC),qn⟩))
 | "g"=>`(tactic|(
  ·unfold vs
   rw[Qf]
   apply Ru
   intro j
   rw[Rt]
   split
   ·rename_i hij
    subst hij
    rw[Bg,e2]
    split
    ·rfl
    ·rename_i hj
     rw[Ad] at hj
     exact absurd (Ax.mp e2).1 hj
   ·rfl
  ·unfold Sl at hS ⊢
   rw[Qf,hS]))
 | "h"=>`(tactic|(
  obtain ⟨oi,gi,ci,di⟩:=id hI
  obtain ⟨ob,gb,xb,db⟩:=id hE
  have tI:=hI.typeIs
  refine Dd (name:=Ds "__next__") tI PySem.F.slot_dict_keyiterator_next (Dj PySem.F.slot_dict_keyiterator_next tI PySem.F.entry_dict_keyiterator_next ?_ (PySem.F.args_dict_keyiterator_next_1 _))
  refine Aa (Ae (Aa (Aa ?_)))
  first | refine Aa (Kr tI (Ae ?_)) | refine Aa (Mx tI (Ae ?_))
  refine Aa (bC gi di ?_)
  simp only[show Uz "dict_keyiterator" = false by decide,Bz,if_false]
  show wpAny _ _ (ite ((Be d == Gq)=true) _ _) _ _ s
  rw[if_neg (show ¬ (Be d == Gq)=true from Bs)]
  refine Aa (Ae (Aa (Uv gb db ?_)))
  rw[if_neg (by simp)]
  refine Aa (Ae (Aa (wpAny_dictEpoch gb db ?_)))
  rw[if_neg (by simp)]
  refine Ae ?_))
 | "i"=>`(tactic|(
  obtain ⟨o,ho,hc,hd⟩:=id hit
  obtain ⟨ol,hol,_,nl,hdl⟩:=ht
  unfold Cf
  refine Aa (Dd (name:=Ds "__next__") hit.typeIs PySem.F.slot_tuple_iterator_next
   (Dj PySem.F.slot_tuple_iterator_next hit.typeIs PySem.F.entry_tuple_iterator_next ?_ (PySem.F.args_tuple_iterator_next_1 _)))
  show wpAny _ _ (field (.ref it) 0 >>= _) _ _ s
  refine Aa (Ei ho hd (x:=.ref t) rfl ?_)
  show wpAny _ _ (if (Be t == Gq)=true then _ else _) _ _ s
  rw[if_neg (show ¬ ((Be t == Gq)=true) from Bs)]
  show wpAny _ _ (field (.ref it) 1 >>= _) _ _ s
  refine Aa (Ei ho hd (x:=.int i 0) rfl ?_)
  show wpAny _ _ (seqItems? (.ref t) >>= _) _ _ s
  refine Aa (Gz hol hdl ?_)
  simp only[Ee,hx]))
 | "j"=>`(tactic|(
  ·rintro z c st4 _ _ ⟨rfl,g4,rn4,as4⟩
   refine Ba (Oo ?_)
   by_cases hs1:(Bh st4).size > 1
   ·rw[if_pos hs1]
    obtain ⟨⟨a1,b1,older⟩,ho⟩ : ∃x,(Bh st4)[(Bh st4).size - 2]? = some x:=⟨(Bh st4)[(Bh st4).size - 2],by simp⟩
    rw[ho]
    dsimp only
    refine Qk (λ_=>Bi ⟨rfl,g4,rn4,as4⟩) (λ_=>?_)
    refine Ba (lW C g4 h0 hlo rn4 (i:=(Bh st4).size - 2) (show (Bh st4).size - 2+1<(Bh st4).size by omega) λst5 g5 rn5 _ keep=>?_)
    refine Qk (λz=>absurd z (by decide)) (λ_=>?_)
    exact Bi ⟨rfl,g5,rn5,keep _ _ (Aj _) as4⟩
   ·rw[if_neg hs1]
    exact Bi ⟨rfl,g4,rn4,as4⟩))
 | "k"=>`(tactic|(
  obtain ⟨os,hos,hcs,hds⟩:=id hs
  have hTs:s.TypeIs (.ref sl) "slice" := ⟨os,hos,hcs⟩
  unfold Rr
  try with_reducible refine Ct ?_
  first | refine Aa (Ae ?_) | skip
  refine Aa (wpAny_sequenceKey ht.typeIs (by decide) ?_)
  refine Aa (Dd (name:=Ds "__getitem__") ht.typeIs Ez
   (Dj Ez ht.typeIs entry_tuple_getitem ?_ (args_tuple_getitem _ _)))
  show wpAny _ _ (Zg (.ref t) >>= _) _ _ s
  refine Aa (tupleItemsOf_ ht ?_)
  refine Aa (Jm hTs ?_)
  rw[if_pos (by decide)]))
 | "l"=>`(tactic|(
  have h1:=h.2 _ (List.getLast_mem hne)
  by_cases e:w.getLast hne=n
  ·exact e
  ·exfalso
   have hd:=Hs hne
   rw[<- hd] at hn
   rcases Bc.mp hn with z | z
   ·have hp:=h.1
    rw[<- hd] at hp
    have:=(Cw.mp hp).2.2 _ z _ (Al.mpr rfl)
    omega
   ·exact e (Al.mp z).symm))
 | "m"=>`(tactic|(
  obtain ⟨hp,g,d,tk0,os⟩:=s
  show wpAny _ _ (bind (field (.ref z) 2) _) _ _ _
  refine Aa (Ei gz rfl (x:=.bool false) rfl ?_)
  show wpAny _ _ (bind (field (.ref z) 3) _) _ _ _
  refine Aa (Ei gz rfl (x:=.ref TI) rfl (Aa (Gz gI rfl ?_)))
  show wpAny _ _ (bind (Dg (.ref z)) _) _ _ _
  refine Aa ?_
  unfold Dg
  refine Aa (Ei gz rfl (x:=.none) rfl (Ae ?_))
  simp only[if_true]
  refine Aa (Jt (Aa (Ei gz rfl (x:=.ref TO) rfl (Aa (Iv gz (by simp) λh1 gz1 s1=>?_)))))))
 | "n"=>`(tactic|(
  have all:∀{l:List (List Lc×V)} {m:List (List Lc×Addr×Value)},KT H l m->∀x∈m,(Px (Kd P w)).is h x.1 x.2.1:=by
   intro l m q
   induction q with
   | nil=>intro x hx; exact nomatch hx
   | @cons p q ps qs hq t ih =>
    intro x hx
    rcases Ak.mp hx with e | hx
    ·subst e
     exact cT ok (by rw[<- hq.1]; exact hq.2.1)
    ·exact ih x hx
  exact all r x hx))
 | "o"=>`(tactic|(
  intro σ H Q h
  obtain ⟨H0,Y,S,T,δ,P,rfl,hS,hA,hd,k⟩:=h
  refine ⟨H0,Y,S,T,δ,_,rfl,hS,hA,hd,λm ds δ1 J hid S1 H1 e1 e2 hA1 it hz p1=>?_⟩
  obtain ⟨I,h0,hs,hf⟩:=p1
  rw[<- e1]
  intro D hD
  refine ⟨λi q H=>q=ds.length - i/\i<=ds.length/\∃acc n G,(b=true->G=[])/\At K H0 Y n (⟨some (.ref D),.acc acc,D::G⟩::(S1++(hid++T))) H/\acc.length<=i/\I i acc n,⟨ds.length,by simp,Dq _,[],δ1.n,[],λ_=>rfl,hA1.accNew hD,Aj _,h0⟩,?_⟩
  rintro i q H ⟨rfl,hi,acc,n,G,hG,hA2,hl,hI⟩
  have hid_ok:∀e∈hid,Iu K H n e:=λe he=>hA2.ok e (Ac _ (Ah _ (Ao _ he)))
  by_cases hlt:i<ds.length))
 | "p"=>`(tactic|(
  intro σ H Q h
  obtain ⟨H0,Y,S,T,δ,P,rfl,hS,hA,hd,k⟩:=h
  refine ⟨H0,Y,S,T,δ,_,rfl,hS,hA,hd,λm ds δ1 J hid S1 H1 e1 e2 hA1 it hz p1=>?_⟩
  obtain ⟨I,h0,hs,hf⟩:=p1
  rw[<- e1]
  intro D hD
  refine ⟨λi q H=>q=ds.length - i/\i<=ds.length/\∃acc n G,(b=true->G=[])/\At K H0 Y n (⟨some (.ref D),.acc acc,D::G⟩::(S1++(hid++T))) H/\I i acc n,⟨ds.length,by simp,Dq _,[],δ1.n,[],λ_=>rfl,hA1.accNew hD,h0⟩,?_⟩
  rintro i q H ⟨rfl,hi,acc,n,G,hG,hA2,hI⟩
  have hid_ok:∀e∈hid,Iu K H n e:=λe he=>hA2.ok e (Ac _ (Ah _ (Ao _ he)))
  by_cases hlt:i<ds.length))
 | "q"=>`(tactic|(
  unfold Builtin.«zip.__next__»
  refine Aa (Ae (Aa (Ei hz rfl (x:=.bool false) rfl (Aa (Ei hz rfl (x:=.ref TI) rfl (Aa (Gz hTI rfl ?_)))))))
  show wpAny _ _ (Dg (.ref z) >>= _) _ _ _
  refine Aa (Fq (cI (E:=E) hz ha) λbb s1 ⟨eb,g1,e1,hz1,hs1⟩=>?_)
  subst eb e1
  simp only[Bz,if_false]
  simp only[<- Zk,Pu,Qz]
  refine Aa (Aa (Aa (Ct ?_)))
  show wpAny _ _ (Cf (.ref i1) >>= _) _ _ _))
 | "r"=>`(tactic|(
  have : b≠D:=by
   rintro rfl
   rw[ha] at q
   cases q
   rcases z with z | z
   ·exact hF z
   ·rcases z with ⟨_,z⟩ | ⟨_,_,z⟩ <;> cases z
  rw[Dw this]
  exact q))
 | "s"=>`(tactic|(
  rintro scope rfl
  refine ⟨by rfl,.inl (by decide +kernel),by rfl,by decide +kernel,.inl rfl,λy c h=>?_,by rfl,by decide +kernel,rfl,λk y j e1 e2=>?_⟩
  ·have z:=Fh h
   simp only[Ak,Az,or_false,Fo] at z
   obtain ⟨rfl,rfl⟩:=z; rfl
  ·match k,e1,e2 with
   | 0,e1,e2=>cases e1; cases e2; exact ⟨rfl,rfl,by first | exact .inl rfl | exact .inr rfl⟩
   | k+1,e1,e2=>cases e1))
 | "t"=>`(tactic|(
  rintro scope rfl fp0 s0 H0
  refine ⟨by rfl,.inl (by decide +kernel),by rfl,by decide +kernel,.inl rfl,λy c h=>?_,by rfl,by decide +kernel,rfl,λk y j e1 e2=>?_⟩
  ·have z:=Fh h
   simp only[Ak,Az,or_false,Fo] at z
   obtain ⟨rfl,rfl⟩:=z; rfl
  ·match k,e1,e2 with
   | 0,e1,e2=>cases e1; cases e2; exact ⟨rfl,rfl,by first | exact .inl rfl | exact .inr rfl⟩
   | k+1,e1,e2=>cases e1))
 | "u"=>`(tactic|(
  obtain ⟨hz,hTI,⟨u,v,hTO⟩,⟨o1,e1,c1,d1⟩,⟨o2,e2,c2,d2⟩⟩:=st
  simp only[Ak,Az,or_false] at hc
  rcases hc with rfl | rfl | rfl | rfl | rfl
  ·exact ⟨_,hz,λv z=>by cases z⟩
  ·exact ⟨_,hTI,λv z=>by cases z⟩
  ·exact ⟨_,hTO,λv z=>by cases z⟩
  ·exact ⟨o1,e1,λv z=>by rw[d1] at z; cases z⟩
  ·exact ⟨o2,e2,λv z=>by rw[d2] at z; cases z⟩))
 | "v"=>`(tactic|(
  subst e
  obtain ⟨u1,u2,rfl,ru1,ru2⟩:=vals2 r1
  cases ru1
  cases ru2
  obtain ⟨its1,rv1,pl1,hz1⟩:=I1.list hq1
  obtain ⟨its2,rv2,pl2,hz2⟩:=I1.list hq2
  have hlt1:l1<s1.heap.objs.size:=let ⟨o,q,_⟩:=pl1.isList; Ar q
  have hlt2:l2<s1.heap.objs.size:=let ⟨o,q,_⟩:=pl2.isList; Ar q))
 | "w"=>`(tactic|(
  rename_i m0 ds0 hsl
  obtain ⟨ent,e2,e3⟩:=Nm hS hsl
  have hm:ent∈S:=Bq e2
  obtain ⟨u,x,F⟩:=ent
  have e3':x=.dat m0 (.list ds0):=e3
  subst e3'
  obtain ⟨v,hv,rd,_⟩:=hA.ok _ (Ao _ hm)
  obtain ⟨a,xs,G,rfl,ha,ra,eF,hz⟩:=rd.list_inv))
 | "x"=>`(tactic|(
  ·rw[hv] at z
   have w:=aK (dt:=Sr) _ _ _ z
   unfold Sr at w
   dsimp only at w
   rw[if_pos rfl] at w
   exact w
  ·obtain ⟨xs,l1,l2,l3⟩:=hA10
   exact ⟨xs,l1,by omega,es.length - (i2+1),by omega,rfl,hlt2,acc2++[e],n',G',hG',l3,p⟩))
 | "y"=>`(tactic|(
  ·have nf:=h.free hD f hf
   refine ⟨λ_ a ha z=>?_,λ_ a ha z=>?_⟩
   ·rw[Al.mp ha] at z
    exact nf z
   ·rw[Al.mp z] at ha
    exact nf (Hu _ _ ha)
  ·rw[Al.mp ha]
   exact .inl (h.new0 hD)))
 | "z"=>`(tactic|(
  obtain ⟨es,hd,hE,hes,hent⟩:=sQ I.hok ha
  obtain ⟨its2,rv2,p2,hz2⟩:=I.list hq2
  obtain ⟨hz,hTI,⟨o1,o2,hTO⟩,hi1,hi2⟩:=st
  have hh:X.A.in1.handled=none:=I.ok.hd hc
  have D1:=gL (prog:=X.prog) (w:=X.w) (A:=X.A.in1) hh i1 a na es es.size
  have D2:=Draws.list (prog:=X.prog) (w:=X.w) (A:=X.A.in1) hh i2 b nb its2.toArray
  have hl2:=rv2.length))
 | "a0"=>`(tactic|(
  simp only[Ak,Az,or_false] at hc
  rcases hc with rfl | rfl | rfl | rfl | rfl
  ·exact fr1 4
  ·exact fr1 2
  ·exact fr1 3
  ·exact fr1 0
  ·exact fr1 1))
 | "b0"=>`(tactic|(
  ·have e:i=ds.length:=by omega
   subst e
   refine .inl ⟨it.stop H n hid_ok,k _ ⟨δ1.sl,n⟩ _ (D::G) S1 H e1 e2 ?_ (hf acc n hI)⟩
   have hA3:=hA2.accGetG hG
   have hA4:At K H0 Y n (⟨some (.ref D),.dat (Ta b) (.list acc),D::G⟩::(S1++T)) H:=hA3.sub (((Co S1).append (Bu hid T)).cons₂ _)
   exact hA4.tomid))
 | "c0"=>`(tactic|(
  refine Hl (use:=none) rfl hs C.clos C.kind C.locs (Fq (hi pins s σ H _ I h) λv s1 h1=>Fq h1 λitv s2 h2=>?_)
  obtain ⟨it,fp,tn,J,H2,e,I2,T,st2,f2,q2⟩:=h2
  subst e
  have fD:H2 s2.heap.objs.size=none:=I2.hok.fresh (Aj _)
  obtain ⟨W,⟨m0,w0⟩,turn⟩:=q2 s2.heap.objs.size fD
  refine Cg ?_))
 | "d0"=>`(tactic|(
  obtain ⟨⟨f,ho,hf⟩,S⟩:=st
  have T:s.TypeIs (.ref I) "set_iterator" := ⟨_,ho,rfl⟩
  unfold Ji
  refine Aa (Lh (Dd (name:=Ds "__next__") T Vp (Dj Vp T dA ?_ (gR _))))
  unfold Builtin.«set_iterator.__next__»
  refine Aa (m:=slotArgs "__next__" 0 ⟨[.ref I],[]⟩) (Jo (a:=(Be I,[])) rfl ?_)))
 | "e0"=>`(tactic|(
  intro v σ H Q h
  obtain ⟨H0,Y,S,T,δ,x,F,P,rfl,hS,hA,hd,k⟩:=h
  show Q ((vs S).set i (some v)) H
  have fin:∀y,At K H0 Y δ.n (S++⟨some v,y,F⟩::T) H->P ⟨δ.sl.set i y,δ.n⟩->Q ((vs S).set i (some v)) H:=λy hA' p=>by
   rw[<- A2 (x:=y) (F:=F)]
   exact k _ _ H (r0 hS) hA'.store p))
 | "f0"=>`(tactic|(
  intro pins s σ H R I h
  refine Call_ (Ss I hg hm (u:=.type "enumerate") (by decide +kernel) (Dz (Fq (ha pos pins s σ H _ I h) λus s1 ⟨vs,H1,I1,r1,q1⟩=>?_) hs rfl))
  obtain ⟨l,e,⟨xs,hq⟩,q⟩:=q1
  subst e
  obtain ⟨u,rfl,ru⟩:=vals1 r1
  cases ru))
 | "g0"=>`(tactic|(
  obtain ⟨b1,xs,G1,e1,hb1,rb1,_,_⟩:=(Gc h Ab).list_inv
  obtain ⟨b2,ys,G2,e2,hb2,rb2,_,_⟩:=(Gc h (Ac _ Ab)).list_inv
  cases e1
  cases e2
  have l1:=rb1.len
  have l2:=rb2.len))
 | "h0"=>`(tactic|(
  obtain ⟨c,kv,ks',e,ek,ha,rel,_⟩:=(Gc h Ab).dict_inv
  cases e
  obtain rfl:=Oy ek
  obtain ⟨b2,ys,G2,e2,hb2,rb2,_,_⟩:=(Gc h (Ac _ Ab)).list_inv
  cases e2
  have l2:=rb2.len))
 | "i0"=>`(tactic|(
  obtain ⟨⟨old,he⟩,o,e1,c,d⟩:=st
  rcases Ak.mp hb with z | z
  ·subst z
   exact ⟨_,he,λv z=>by cases z⟩
  ·rw[Al.mp z]
   exact ⟨o,e1,λv z=>by rw[d] at z; cases z⟩))
 | "j0"=>`(tactic|(
  rw[q] at p
  subst ex
  have r:=Yw eu q λe he=>hA'.ok e (Ah _ (Ao _ he))
  have hl:=r.len
  have hz:ds.length<=Ay:=sz p.1
  refine ⟨by omega,λt ht=>?_⟩))
 | "k0"=>`(tactic|(
  refine ⟨?_,?_⟩
  ·rw[e]
   refine (Kw _).trans (h1.1.trans ?_)
   exact List.Perm.append (Kw _) (Kw _)
  ·rw[e]
   exact Wa.mpr h1.2))
 | "l0"=>`(tactic|(
  have l1:=(h ds R hp).1
  have l2:=Lw q
  rw[Ad] at l2
  have l3:=congrArg Ja eu
  rw[Ad,Ad] at l3
  omega))
 | "m0"=>`(tactic|(
  simp only[Pu,Qz,Ll,List.zipIdx_nil]
  have g11:S1 i h1:=D1.frame _ _ _ g1 λb hb o q=>(s1.2 b (Hd ap.zf1 hb)).trans q
  have g21:S2 i h1:=D2.frame _ _ _ g2 λb hb o q=>(s1.2 b (Hd ap.zf2 hb)).trans q
  refine Aa (Aa (fA ?_))
  show wpAny _ _ (bind (Cf (.ref i1)) _) _ _ _))
 | "n0"=>`(tactic|(
  intro H0 X n S T x y v w F G H Q P hA hd k
  unfold jX at hd
  split at hd
  ·exact ⟨_,_,(hA.told Gb).rd (Cb hd.1 (by decide)),(hA.told mem_mid).rd (Cb hd.2.1 (by decide)),hd.1,k _ _ [] H (hA.drop2.pushI (.bl _)) hd.2.2⟩
  ·exact hd.elim))
 | "o0"=>`(tactic|(
  intro pins s σ H x y v u Q I rx ry h
  obtain ⟨p,xs,d,ds,rfl,hq,hx,hs,hd,q⟩:=h
  cases ry
  have hu1:X.A.in1.units+Br ds<cLine:=by have:=aI X.A; omega
  rcases hq with hq | hq))
 | "p0"=>`(tactic|(
  ·have:=zZ q ok (N.length - ps.length) e he
   obtain ⟨v,x,F⟩:=e
   cases x with
   | drw=>exact absurd (hs _ he).2 (by show ¬ (true=false); decide)
   | _=>exact this))
 | "q0"=>`(tactic|(
  rw[eA] at hit
  refine Fq hit λr s7 ⟨u,hr,h7⟩=>?_
  subst hr
  refine Fq h7 λ_ s8 ⟨y,H8,I8,r8,y8,st8,fr8⟩=>?_
  have I8':=I8.pinned (stat fr8) (T.obj _ _ st8)))
 | "r0"=>`(tactic|(
  intro X hP hw hK hc i pins s σ H E I hf st hg
  subst hP hw hK
  obtain ⟨xs,x,hq,hx⟩:=hg
  obtain ⟨its,rv,p,hz⟩:=I.tuple hq
  obtain ⟨u,hu,ru⟩:=rv.get hx))
 | "s0"=>`(tactic|(
  intro X hP hw hK hc i pins s σ H E I hf st hg
  subst hP hw hK
  obtain ⟨xs,x,hq,hx⟩:=hg
  obtain ⟨its,rv,p,hz⟩:=I.list hq
  obtain ⟨u,hu,ru⟩:=rv.get hx))
 | "t0"=>`(tactic|(
  obtain ⟨j,h1,h2,h3,h4,h5⟩:=kN he
  obtain ⟨w,ew,rw'⟩:=r.get h2
  have hl:=r.length
  have hn:=Wo
  have fin:EP X pins σ Q w s:=⟨z,H,I,rw',q⟩))
 | "u0"=>`(tactic|(
  obtain ⟨s',n',p'⟩:=y
  have q':s'=sb/\n'=nb/\p'=pb:=by simpa using h2
  obtain ⟨q1,q2,q3⟩:=q'
  subst q1 q2 q3
  obtain ⟨e',hn',hs',hr'⟩:=hr))
 | "v0"=>`(tactic|(
  obtain ⟨a,kv,e1,e0,ha,h1,h2⟩:=h.ok _ Ab
  have e1':some (V.ref D)=some (V.ref a):=e1
  cases e1'
  have rel:=F8 h1 h2
  have hs:=Bd.mp h.sep))
 | "w0"=>`(tactic|(
  intro pins s σ H R I h
  refine Fq (hl pins s σ H _ I h) λv s1 ⟨x,H1,I1,r1,q1⟩=>?_
  obtain ⟨a,e,⟨xs,hq⟩,q⟩:=q1
  subst e
  cases r1))
 | "x0"=>`(tactic|(
  obtain ⟨e,hn,hs,hr⟩:=h
  have q:s=sa/\n=na/\p=pa:=by simpa using h1
  obtain ⟨q1,q2,q3⟩:=q
  subst q1 q2 q3
  subst e))
 | "y0"=>`(tactic|(
  refine ⟨rfl,?_⟩
  have h0:=d.h0
  have h1:=d.h1
  have ld:=d.ld
  have en:((h.toNat:Nat):Int)=h:=by omega))
 | "z0"=>`(tactic|(
  obtain ⟨l1,hd⟩:=h ds R hp
  have l2:=Lw q
  rw[Ad] at l2
  have l3:=congrArg Ja eu
  rw[Ad,Ad] at l3))
 | "a1"=>`(tactic|(
  ·by_cases hg:g > 1
   ·rw[if_pos hg]
    exact key _
   ·rw[if_neg hg]
    exact key _))
 | "b1"=>`(tactic|(
  have Qn:tn 0 s3.heap:=T.keep 0 _ _ st2 λb hb o q=>by rw[<- hS3]; exact Ag _ q
  have o3:∀b∈fp,∃o,s3.heap.get? b=some o:=λb hb=>let ⟨o,q,_⟩:=T.obj _ _ Qn b hb; ⟨o,q⟩
  show wpAny _ _ (Ke scope X.env.globals cl [] X.env.qual none .none (some X.env)) _ _ _
  refine Pd C λh4 hns4 keep4 new4=>?_))
 | "c1"=>`(tactic|(
  rintro s5 rfl
  refine Sg (λn s'=>∃i o o2 H',Inv X' [] (o::o2::Eh σ js) H' s'/\tn i s'.heap/\(∀b∈fp,H' b=none)/\W i n H') ?_ m0
   ⟨0,none,none,_,I4 _,st4,λb hb=>(f3 b hb).1,w0⟩
  rintro n s6 ⟨i,o,o2,H6,I6,st6,fr6,w6⟩))
 | "d1"=>`(tactic|(
  rintro s5 rfl
  refine Sg (λn s'=>∃i o H',Inv X' [] (o::Eh σ js) H' s'/\tn i s'.heap/\(∀b∈fp,H' b=none)/\W i n H') ?_ m0
   ⟨0,none,_,I4 _,st4,λb hb=>(f3 b hb).1,w0⟩
  rintro n s6 ⟨i,o,H6,I6,st6,fr6,w6⟩))
 | "e1"=>`(tactic|(
  refine PE.imp (bX F hr hg hm hk hb .nil hx ha hdb he hpl) λσ H Q h=>?_
  obtain ⟨H0,Y,S,T,δ,P,rfl,hS,hA,hd,kk⟩:=h
  refine ⟨H0,Y,S,T,δ,_,rfl,hS,hA,hd,λxs δ' As us S' H' e1 e2 ex eu hA' p=>?_⟩
  subst ex))
 | "f1"=>`(tactic|(
  refine Aa (Cg ?_ (by size_fits))
  refine Aa (m:=Kf _ _) (Jo (a:=Gq) (by first | rfl | (simp only[Kf]; rfl)) (Cg ?_ (by size_fits)))
  simp only[raiseNew]
  refine Aa (wpAny_handled ?_)))
 | "g1"=>`(tactic|(
  rcases hq with hq | hq
  ·refine .inl ?_
   cases m <;> first | rfl | exact hq
  ·exact .inr hq))
 | "h1"=>`(tactic|(
  simp only[Qq,HT.sIx,Option.getD_none,show (1:Int) > 0 by decide,if_true]
  by_cases h:i<0
  ·simp only[h,if_true] <;> omega
  ·simp only[h,if_false] <;> omega))
 | "i1"=>`(tactic|(
  rcases Ak.mp he with rfl | he
  ·cases m <;> cases m' <;> first | rfl | cases z
  ·rw[Al.mp he]
   cases m <;> cases m' <;> first | rfl | cases z))
 | "j1"=>`(tactic|(
  have : 8<=Dv wanted:=by
   have key:∀k:Fin 256,decide (8<=Dv k.1)=true:=by decide +kernel
   exact of_decide_eq_true (key ⟨wanted,hw⟩)
  omega))
 | "k1"=>`(tactic|(
  ·refine (I.hok b u e).stay (λc v hc q=>k c v ?_ q) (λ_ q=>q) λ_ _ q=>q
   rcases hc with z | z
   ·rw[z]; exact nit b u e
   ·exact nit c _ z))
 | "l1"=>`(tactic|(
  obtain ⟨x1,x2⟩:=x
  obtain ⟨y1,y2⟩:=y
  simp only at ex ey
  subst ex ey))
 | "m1"=>`(tactic|(
  ·rintro c st' ⟨la,o,rfl,rfl,a1,a2,a3,b1⟩
   have : max 0 n=n:=by omega
   rw[this] at a2
   exact ⟨la,o,rfl,rfl,a1,a3,b1,.inl (by omega)⟩))
 | "n1"=>`(tactic|(
  obtain ⟨x',F',h1,h2,h3⟩:=rb.get (i:=i) (e:=ds[i]) (by simp [hi])
  rw[hx] at h1
  cases h1
  have s1:=Fg nt (.tup [.int i,z])))
 | "o1"=>`(tactic|(
  intro value slice pins s σ H x y v u Q I rx ry h hs
  obtain ⟨p,xs,i,z,rfl,rfl,hq,he,q⟩:=h
  cases rx
  obtain ⟨t,rfl⟩:=ry))
 | "p1"=>`(tactic|(
  intro X hP hw hK hc i pins s σ H E I hf st hg
  subst hP hw hK
  obtain ⟨xs,hq,hx⟩:=hg
  obtain ⟨its,rv,p,hz⟩:=I.tuple hq))
 | "q1"=>`(tactic|(
  intro X hP hw hK hc i pins s σ H E I hf st hg
  subst hP hw hK
  obtain ⟨xs,hq,hx⟩:=hg
  obtain ⟨its,rv,p,hz⟩:=I.list hq))
 | "r1"=>`(tactic|(
  obtain ⟨mask,place,dummies,finger,led,moves,plain⟩:=t
  have hl':led=true:=hl
  have hp':plain=true:=hp
  subst hl' hp'))
 | "s1"=>`(tactic|(
  ·unfold vs L2.start Jz
   rw[Bo,BF,eu,Qh,show us.length=ps.length by omega]
  ·unfold Sl args0 Jz
   rw[Bo,Yq q,Qh]))
 | "t1"=>`(tactic|(
  intro pins s σ H x y v u Q I rx ry h
  obtain ⟨i,j,rfl,rfl,q⟩:=h
  obtain ⟨t,rfl⟩:=rx
  obtain ⟨t',rfl⟩:=ry))
 | "u1"=>`(tactic|(
  have e:b=it:=by simpa using hb
  subst e
  obtain ⟨o,e,c,d⟩:=st
  exact ⟨o,e,λv z=>by rw[d] at z; cases z⟩))
 | "v1"=>`(tactic|(
  have z:=hA5.sub (Bu S2 _)
  refine z.perm ?_
  refine Eb.trans (Je _ ?_)
  refine Eb.trans (Je _ ?_)))
 | "w1"=>`(tactic|(
  have e1':some (V.ref D)=some (V.ref a):=e1
  cases e1'
  have e0':D::G=D::G':=e0
  cases e0'))
 | "x1"=>`(tactic|(
  obtain ⟨ent,e2,e3⟩:=Nm hS e1
  have hm:ent∈S:=Bq e2
  obtain ⟨u,x,F⟩:=ent
  subst e3))
 | "y1"=>`(tactic|(
  ·rw[Dw (Gx q nD)]
   exact h.same b o nx q
  ·rw[Dw (Gx q nD)]
   exact h.dom b o q))
 | "z1"=>`(tactic|(
  unfold fI
  refine Aa (Aa (Hj S (Ae ?_)))
  rw[if_neg (by simp)]
  simp only[Ee]))
 | "a2"=>`(tactic|(
  have l2:=Lw q
  rw[Ad] at l2
  have l3:=congrArg Ja eu
  rw[Ad,Ad] at l3))
 | "b2"=>`(tactic|(
  rcases Ak.mp he with rfl | he
  ·exact Tv
  ·rw[Al.mp he]
   exact Tv))
 | "c2"=>`(tactic|(
  ·exact hr
  ·exact hr.elim
  ·exact hr.elim
  ·exact hr.elim))
 | "d2"=>`(tactic|(
  obtain ⟨H0,Y,S,T,δ,P,rfl,hS,hA,hd,k⟩:=h
  refine ⟨H0,Y,S,T,δ,_,rfl,hS,hA,hd,λxs δ' As us S' H' e1 e2 ex eu hA' p=>?_⟩
  split at p))
 | "e2"=>`(tactic|(
  obtain ⟨H0,Y,S,T,δ,P,rfl,hS,hA,hd,k⟩:=h
  refine ⟨H0,Y,S,T,δ,_,rfl,hS,hA,hd,λx δ1 v F S1 H1 e1 e2 hA1 p1=>?_⟩
  split at p1))
 | "f2"=>`(tactic|(
  have tz:s.TypeIs (.ref z) "zip" := ⟨_,gz,rfl⟩
  unfold Ji
  refine Aa (Lh (Dd (name:=Ds "__next__") tz PySem.F.slot_zip_next (Dj PySem.F.slot_zip_next tz PySem.F.entry_zip_next ?_ (PySem.F.args_zip_next_1 _))))))
 | "g2"=>`(tactic|(
  have ok:=(I4 0).ok
  have hex:b∈X'.ex:=by rw[<- hX']; exact hb
  exact ⟨hn b hb,(ok.exf b hex).1,ok.exfs b hex,.inl hex,(ok.exf b hex).2,λp hp=>by rw[<- hX'] at hp; cases (show p∈([]:List (Addr×Obj)) from hp)⟩))
 | "h2"=>`(tactic|(
  ·exact ⟨ds.length - (i+1),by omega,rfl,hlt,acc,n',G,hG,hA7,by omega,p⟩
  ·obtain ⟨xs,g1,g2,g3⟩:=hA7
   exact ⟨xs,g1,by omega,ds.length - (i+1),by omega,rfl,hlt,acc++[e],n',G',hG',g3,by rw[Bn]; simp; omega,p⟩))
 | "i2"=>`(tactic|(
  have e1:(op == CmpOp.In)=false:=by cases op <;> first | rfl | exact absurd rfl h
  have e2:(op == CmpOp.NotIn)=false:=by cases op <;> first | rfl | exact absurd rfl h2
  cases b <;> simp [Gy,e1,e2]))
 | "j2"=>`(tactic|(
  refine ⟨by rw[Ad,Ad]; omega,.dat .sh (.int a),Wf ?_ rfl,Ir⟩
  show _=[DV.dat .sh (.int h),.dat .sh (.list ((Fd a++(Fd a).map (·++[(a:Int)])).map Bf)),.dat .sh (.int a)]
  rw[Bo,Cr]))
 | "k2"=>`(tactic|(
  cases b with
  | true=>exact h1 rfl
  | false=>exact h2 rfl))
 | "l2"=>`(tactic|(
  refine Aa (Xh (h1.extBut hs1.extBut D.i1z) (hl1.extBut hs1.extBut D.l1z) hx λg2 q1 hs2=>Ae (Ae ?_))
  refine Aa (Aa (Ct ?_))
  show wpAny _ _ (Cf (.ref i2) >>= _) _ _ _))
 | "m2"=>`(tactic|(
  obtain ⟨z,hd,xs,rel,dd⟩:=J4 I.hok (.inl e)
  have hz:xs.length<=Ay:=by rw[<- Paired.length rel]; exact z
  have hl:(Vz kvs k v).length<=Ay:=by have:=aX kvs k v; omega))
 | "n2"=>`(tactic|(
  refine Fq (ha pins s σ H _ I h) λv s1 ⟨x,H1,I1,r1,q1⟩=>?_
  refine Fq (hb pins s1 σ H1 _ I1 q1) λu s2 ⟨y,H2,I2,r2,q2⟩=>?_
  exact hf v u s2 x y H2 I2 r1 r2 q2))
 | "o2"=>`(tactic|(
  intro pins s σ H Q I h
  rw[eval_ListComp]
  refine Hl (use:=none) rfl hs C.clos C.kind C.locs (Fq (hi pins s σ H _ I h) λv s1 h1=>Fq h1 λitv s2 h2=>?_)))
 | "p2"=>`(tactic|(
  rw[show S'++[(⟨some v,.dat .ow d,F'⟩ : Ent)]=S'++⟨some v,.dat .ow d,F'⟩::[] from rfl] at hA
  obtain ⟨u,e2,rd,nd,_⟩:=hA.ok _ mem_mid
  cases e2))
 | "q2"=>`(tactic|(
  obtain ⟨s1,d,F,h1,h2,h3⟩:=it.yld H n i x H' hid_ok hlt y
  obtain ⟨d1,d2,rfl,hst⟩:=hs i d acc n h1 hI
  obtain ⟨t,xs,rfl,ht,rt,_⟩:=h2.tup_inv))
 | "r2"=>`(tactic|(
  rcases Ak.mp hb with z | z
  ·rw[z]; exact I1.fpOk (Mu _) (I1.hok.fresh (Mu _))
  ·rw[Al.mp z]; exact I1.fpOk (Aj _) (I1.hok.fresh (Aj _))))
 | "s2"=>`(tactic|(
  intro σ H Q h
  obtain ⟨H0,Y,S,T,δ,P,rfl,hS,hA,hd,k⟩:=h
  refine ⟨H0,Y,S,T,δ,_,rfl,hS,hA,hd,λxs δ' As us S' H' e1 e2 ex eu hA' p=>?_⟩))
 | "t2"=>`(tactic|(
  cases ne with
  | true=>exact k _ _ [] H (hA.drop2.pushI (.bl _)) hd.2.2
  | false=>exact k _ _ [] H (hA.drop2.pushI (.bl _)) hd.2.2))
 | "u2"=>`(tactic|(
  obtain ⟨⟨old,he⟩,hit⟩:=st
  have el:e<s.heap.objs.size:=Ar he
  have il:it<s.heap.objs.size:=by obtain ⟨_,q,_⟩:=hit; exact Ar q))
 | "v2"=>`(tactic|(
  refine Ba (Gk hy ?_)
  refine Ba (Gk hx ?_)
  refine Ba (oU C (kp1.kind.trans hk) (T.oq yy (Km hy)) (T.op xx (Km hx)) ?_)))
 | "w2"=>`(tactic|(
  have nbi:b≠it:=λz=>hb (by rw[z]; exact Ac _ Ab)
  refine (hs2'.2 b nbe).trans ?_
  by_cases hbT:b=s.heap.objs.size))
 | "x2"=>`(tactic|(
  intro X hP hw hK hc i pins s σ H E I hf st hg
  subst hP hw hK
  obtain ⟨f0,f1,f2,f3,f4,f5⟩:=hf it (by simp)))
 | "y2"=>`(tactic|(
  show wpAny _ A (load s.heap.objs.size >>= _) _ _ _
  refine Aa (fG hS' ?_)
  exact Ae (h h' tk acc' hk hacc)))
 | "z2"=>`(tactic|(
  obtain ⟨⟨cls2,dd2,data2,sl2⟩,ho2,hc2,n2,hd2⟩:=id hb
  simp only at hc hd hc2 hd2
  subst hc hd hc2 hd2))
 | "a3"=>`(tactic|(
  intro pins s σ H x y v u Q I rx ry h
  obtain ⟨d,e,h1,h2,hd,q⟩:=h
  have hu':X.A.units<cLine:=by omega))
 | "b3"=>`(tactic|(
  have e:b=s1.heap.objs.size:=by simpa using hb
  subst e
  exact I1.fpOk (Aj _) (I1.hok.fresh (Aj _))))
 | "c3"=>`(tactic|(
  refine Ba (Ve λst1 kp1=>?_)
  have kp':=kp.trans kp1
  have hk':kindOf st1=kd:=kp1.kind.trans hk))
 | "d3"=>`(tactic|(
  ·rcases hq with hq | hq
   ·cases m <;> first | cases hq; done | exact nomatch ha
   ·cases hq))
 | "e3"=>`(tactic|(
  obtain ⟨x',F',h1,h2,h3⟩:=rb.get (i:=i) (e:=ds[i]) (by simp [hi])
  rw[hx] at h1
  cases h1))
 | "f3"=>`(tactic|(
  rcases Ak.mp hc with z | z
  ·exact Ak.mpr (.inl z)
  ·exact Ak.mpr (.inr (hG.subset z))))
 | "g3"=>`(tactic|(
  obtain ⟨e1,e2⟩:=Ht r.key
  have e1:k=Ls u:=e1
  obtain ⟨r1,r2⟩:=RdFs.cons_nil r.val rfl))
 | "h3"=>`(tactic|(
  rw[Av,l1] at h
  rw[hl,Nat.min_self,beq_self_eq_true,Bool.and_true,<- hl]
  exact h))
 | "i3"=>`(tactic|(
  obtain ⟨rfl,_⟩:=(hA.told mem_mid).int_inv
  have r:=hA.told Gb
  have hA':=hA.drop))
 | "j3"=>`(tactic|(
  cases ry
  obtain ⟨its,r1,p1,_⟩:=I.tuple ha
  obtain ⟨its2,r2,p2,_⟩:=I.tuple hb))
 | "k3"=>`(tactic|(
  rw[Ce,hy] at h'
  obtain ⟨q,e1,e2⟩:=ih h'
  exact ⟨q,by rw[Ce,hy]; exact e1,e2⟩))
 | "l3"=>`(tactic|(
  have e0:(ds.length == es.length)=false:=by simpa using hl
  rw[e0,Xg]
  exact h))
 | "m3"=>`(tactic|(
  refine Ia Sw ?_
  rw[Ge Ki _]
  show wpAny _ A.in1 (Ji (.ref it) >>= _) _ _ s))
 | "n3"=>`(tactic|(
  subst e
  rw[<- RdVs.det I r rr2,RdVs.eqDs_self r]
  exact SeqAt.EqAt.same _))
 | "o3"=>`(tactic|(
  rcases Ak.mp hb with z | z
  ·rw[z]; exact Bm el
  ·rw[Al.mp z]; exact Bm il))
 | "p3"=>`(tactic|(
  obtain ⟨b,xs,G,e,hb,rb,_,_⟩:=(Gc h Ab).list_inv
  cases e
  have hl:=rb.len))
 | "q3"=>`(tactic|(
  obtain ⟨ent,e2,e3⟩:=Nm hS hi
  have hm:ent∈S:=Bq e2
  obtain ⟨u,x,F⟩:=ent))
 | "r3"=>`(tactic|(
  refine Bd.mpr ⟨λz hz=>?_,h⟩
  rcases Ak.mp hz with rfl | hz
  ·exact hx))
 | "s3"=>`(tactic|(
  obtain ⟨b,xs,e,hb,rb,_⟩:=(Gc h Ab).tup_inv
  cases e
  have hl:=rb.len))
 | "t3"=>`(tactic|(
  ·have : ((i+1:Nat):Int)=(i:Int)+1:=by omega
   rw[this]
   exact he2))
 | "u3"=>`(tactic|(
  ·subst hn ha
   rw[Ad,Ey]
   exact q))
 | "v3"=>`(tactic|(
  refine Ia Ug ?_
  rw[Ge Mo _]
  unfold Builtin.«dict.update.loop»))
 | "w3"=>`(tactic|(
  rcases Oz q0 with zz | zz
  ·exact absurd zz.1 hbT
  ·exact zz))
 | "x3"=>`(tactic|(
  refine ⟨z,c,k,f,(Dw ?_).trans h1,h2⟩
  rintro rfl
  exact z nD))
 | "y3"=>`(tactic|(
  refine ⟨⟨o,e,ex.1⟩,λa e2=>?_⟩
  cases e2
  exact ⟨o,e,ex.2.1⟩))
 | "z3"=>`(tactic|(
  rcases Oz q0 with z | z
  ·exact absurd z.1 hbT
  ·exact z))
 | "a4"=>`(tactic|(
  rcases h.new _ Ab D Ab with z | z
  ·exact z
  ·cases z.2))
 | "b4"=>`(tactic|(
  ·exact fin _ hA hd
  ·exact fin _ hA hd
  ·exact hd.elim))
 | "c4"=>`(tactic|(
  cases e
  rw[Ad,Fl] at hi
  obtain ⟨t,z,rfl,nt,rfl,y⟩:=y))
 | "d4"=>`(tactic|(
  obtain ⟨v,x,F⟩:=f
  have hx':x=.dat m d:=hx
  subst hx'))
 | "e4"=>`(tactic|(
  ·rcases hp with hp | hp
   ·exact .inl hp
   ·cases hp))
 | "f4"=>`(tactic|(
  have z:=hA5.mid
  refine z.perm ?_
  exact (Eb).cons _))
 | "g4"=>`(tactic|(
  obtain ⟨u,z,F⟩:=ent
  have s2':z=.drw:=s2
  subst s2'))
 | "h4"=>`(tactic|(
  rw[hi] at e1; cases e1
  rw[tM hiσ] at e2
  cases e2))
 | "i4"=>`(tactic|(
  obtain ⟨d,rfl,q⟩:=q1
  cases r1
  exact Jn ⟨H1,I1,q⟩))
 | "j4"=>`(tactic|(
  unfold SetTable.road at hr
  split at hr
  ·cases hr))
 | "k4"=>`(tactic|(
  rcases hq with hq | hq
  ·exact .inl hq
  ·cases hq))
 | "l4"=>`(tactic|(
  rintro scope rfl
  exact Nd.compScope0 (by rfl) (by decide +kernel) (by rfl) (by decide +kernel) (by rfl) (by rfl)))
 | "m4"=>`(tactic|(
  rw[show its.toArray.any (Om X.K H d)=its.any (Om X.K H d) by simp,Rm I hs r]
  exact q))
 | "n4"=>`(tactic|(
  obtain ⟨s1,d,F,h1,h2,h3⟩:=it.yld H n i x H' hid_ok hlt y
  have hA3:At K H0 Y n ((⟨some (.ref D),.acc acc,D::G⟩::S1)++⟨some x,.dat m d,F⟩::(hid++T)) H':=At.item (S:=⟨some (.ref D),.acc acc,D::G⟩::S1) hA2 s1 h2 h3 it.md it.hd it.np))
 | "o4"=>`(tactic|(
  obtain ⟨H0,Y,S,T,δ,P,rfl,hS,hA,hd,k⟩:=h
  refine ⟨H0,Y,S,T,δ,_,rfl,hS,hA,hd,λx δ1 v F S1 H1 e1 e2 hA1 p1=>?_⟩))
 | "p4"=>`(tactic|(
  obtain ⟨H0,Y,S,T,δ,P,rfl,hS,hA,hd,k⟩:=h
  refine ⟨H0,Y,S,T,δ,_,rfl,hS,hA,hd,λx δ' v F S' H' e1 e2 hA' p=>?_⟩))
 | "q4"=>`(tactic|(
  obtain ⟨u,rfl,ru⟩:=vals1 r
  cases ru))
 | "r4"=>`(tactic|(
  refine PE.imp h λσ H Q h=>?_
  obtain ⟨H0,Y,S,T,δ,P,rfl,hS,hA,hd,k⟩:=h))
 | "s4"=>`(tactic|(
  obtain ⟨H0,Y,S,T,δ,P,rfl,hS,hA,hd,k⟩:=h
  refine ⟨H0,Y,S,T,δ,_,rfl,hS,hA,hd,λb δ' S' H' e1 e2 hA' p=>?_⟩))
 | "t4"=>`(tactic|(
  refine Aa (Cu h1 (λ_ s2 h2=>?_) λ_ _ z=>z.elim)
  refine Aa (Cu h2 (λ_ s3 h3=>?_) λ_ _ z=>z.elim)))
 | "u4"=>`(tactic|(
  intro X hP hw hK hc i pins s σ H E I hf st hg
  subst hP hw hK))
 | "v4"=>`(tactic|(
  obtain ⟨hz,hTI,⟨u,v,hTO⟩,h1,h2⟩:=st
  exact ⟨kp z (by simp) _ hz,kp TI (by simp) _ hTI,⟨u,v,kp TO (by simp) _ hTO⟩,h1.at λo q=>kp i1 (by simp) o q,h2.at λo q=>kp i2 (by simp) o q⟩))
 | "w4"=>`(tactic|(
  refine Zx (l:=Cc h.toNat) (g:=λi:Nat=>.int i) rfl (λi δ=>∃v:DV,δ=⟨[.dat .sh (.int h),.dat .sh (.list ((Fd i).map Bf)),v],0⟩/\NP v) ?_ ?_ ?_
  ·exact ⟨_,rfl,Mv⟩))
 | "x4"=>`(tactic|(
  intro pins s σ H R I h
  refine Call_ (Ss I hg hm (u:=.type "zip") (by decide +kernel) (Dz (Fq (ha pos pins s σ H _ I h) λus s1 ⟨vs,H1,I1,r1,q1⟩=>?_) hs hp))))
 | "y4"=>`(tactic|(
  unfold sortedAll sortedHeap
  have z1:((h.push (Gn "list" #[] 0)).update h.objs.size (Gf (·++vs.toArray))).objs.size=h.objs.size+1:=by rw[Oj,size_push']))
 | "z4"=>`(tactic|(
  rintro scope rfl
  refine ⟨by rfl,.inl (by decide +kernel),by rfl,by decide +kernel,.inl rfl,λy c h=>?_,by rfl,by decide +kernel,rfl,λk y j e1 e2=>?_⟩))
 | "a5"=>`(tactic|(
  have I1:Inv X pins σ H { s with heap:=h' }:=I.turned (t':=s.toks) (λb o hb e=>(sb.2 b hb).trans e) f0 f1 f3 f4 f5
  obtain ⟨o,e,c,d⟩:=id st'))
 | "b5"=>`(tactic|(
  ·rw[(hs a ha).1] at hc; cases hc
  ·rw[(hs b hb').1] at hc; cases hc))
 | "c5"=>`(tactic|(
  subst e
  refine ⟨λi acc n=>n=δ1.n/\acc=((l.take i).filter p).map f,⟨rfl,by simp⟩,λi d acc n hd ⟨hn,ha⟩=>?_,λacc n ⟨hn,ha⟩=>?_⟩))
 | "d5"=>`(tactic|(
  cases ru
  have hu':A.units<cLine:=by omega))
 | "e5"=>`(tactic|(
  obtain ⟨a,xs,G1,rfl,ha,ra,rfl,hz⟩:=(hA2.told mem_mid).list_inv
  obtain ⟨b,ys,G2,rfl,hb,rb,rfl,hz2⟩:=(hA2.told Gb).list_inv))
 | "f5"=>`(tactic|(
  obtain ⟨H0,Y,S,T,δ,P,rfl,hS,hA,hd,k⟩:=h
  refine ⟨H0,Y,S,T,δ,_,rfl,hS,hA,hd,λxs δ' As us S' H' e1 e2 ex eu hA' p=>?_⟩))
 | "g5"=>`(tactic|(
  subst e
  refine .inl ⟨it2.stop H3 n2 hid2_ok,ds.length - (i+1),by omega,rfl,hlt,acc2,n2,G2,hG2,?_,gf acc2 n2 hI2⟩))
 | "h5"=>`(tactic|(
  have hlen:its.toArray.size=xs.length:=by rw[Av]; exact r.length.symm
  refine ⟨"tuple",_,Ez.lookup,ht.typeIs,?_⟩))
 | "i5"=>`(tactic|(
  intro σ H Q h
  obtain ⟨H0,Y,S,T,δ,P,rfl,hS,hA,hd,k⟩:=h))
 | "j5"=>`(tactic|(
  obtain ⟨s2,d2,F2,k1,k2,k3⟩:=it2.yld H3 n2 i2 y2 H4 hid2_ok hlt2 yy
  obtain ⟨lz,st⟩:=gs i2 d2 acc2 n2 k1 hI2))
 | "k5"=>`(tactic|(
  have e:=bI (xs:=arrOf st) (i:=i) (by rw[g.size]; exact hi)
  exact h0 _ ((Qw.mp g.perm).mem_iff.mp (Km e))))
 | "l5"=>`(tactic|(
  simp only[Ak,Az,or_false] at hc
  rcases hc with rfl | rfl | rfl | rfl | rfl <;> exact Bm (by assumption)))
 | "m5"=>`(tactic|(
  obtain ⟨b,xs,e,hb,rb,_⟩:=(Gc h Ab).tup_inv
  cases e))
 | "n5"=>`(tactic|(
  ·exact .inl z
  ·cases z.2))
 | "o5"=>`(tactic|(
  obtain ⟨v,F,rfl,hA⟩:=Hx eu hA ex
  obtain ⟨a,xs,G,rfl,ha,ra,rfl,hz⟩:=(hA.told mem_mid).list_inv))
 | "p5"=>`(tactic|(
  ·simp only[Ak,Az,or_false,not_or] at hc
   exact hk c o hc.1 hc.2.2.1 hc.2.2.2.1 hc.2.2.2.2 q))
 | "q5"=>`(tactic|(
  simp only[Ak,Az,or_false,not_or] at hc
  exact q7 c o hc.1 hc.2.2.1 hc.2.2.2.1 hc.2.2.2.2 q))
 | "r5"=>`(tactic|(
  obtain ⟨v,F,rfl,hA⟩:=Hx eu hA ex
  obtain ⟨a,xs,rfl,ha,ra,hz⟩:=(hA.told mem_mid).tup_inv))
 | "s5"=>`(tactic|(
  ·wp_walk using Jk hl,Nq hL
   exact ⟨_,rfl,h⟩))
 | "t5"=>`(tactic|(
  first | rw[show A.in1.handled=none from hh] | rw[hh]
  refine Aa (Ae (wpAny_throw ?_))))
 | "u5"=>`(tactic|(
  obtain ⟨o,e,_⟩:=T.obj _ _ st8 b hb
  exact (I9.pin (b,o) (Ah _ (Ah _ (Fm hb e)))).2.1))
 | "v5"=>`(tactic|(
  simp only[Ak,Az,or_false,not_or] at hc
  exact q6 c o hc.1 hc.2.2.2.1 hc.2.2.2.2 q))
 | "w5"=>`(tactic|(
  refine and_congr_right λ_=>forall_congr' λi=>imp_congr_right λhi=>?_
  constructor))
 | "x5"=>`(tactic|(
  have nd:SetTable.has t.dummies j=false:=by rw[x.dum]; rfl
  unfold SetTable.slot))
 | "y5"=>`(tactic|(
  refine ⟨by rw[Ad]; omega,.dat .sh (Bf c),?_,Ir⟩
  rw[d1,d2,show Tg w c=_ from h]))
 | "z5"=>`(tactic|(
  obtain ⟨z,its,n,r,hl,e⟩:=I.lstM hH
  obtain ⟨z2,its2,n2,r2,hl2,e2⟩:=I.lstM hB))
 | "a6"=>`(tactic|(
  refine Aa ?_
  first | refine Aa (Kr tI (Ae ?_)) | refine Aa (Mx tI (Ae ?_))))
 | "b6"=>`(tactic|(
  obtain ⟨its1,rv1,p1,hz1⟩:=I.list hq1
  obtain ⟨its2,rv2,p2,hz2⟩:=I.list hq2))
 | "c6"=>`(tactic|(
  have : some (V.ref b)=some (V.ref a):=(Ca g1).symm.trans hv
  cases this))
 | "d6"=>`(tactic|(
  obtain ⟨s1,s2⟩:=Bd.mp sd
  refine ⟨?_,?_,λo ho z hz=>?_,λo ho z hz=>?_⟩))
 | "e6"=>`(tactic|(
  obtain ⟨a,xs,G2,rfl,ha,ra,_,_⟩:=(hA.told Gb).list_inv
  have l1:=ra.len))
 | "f6"=>`(tactic|(
  have z:blt yk x=false:=by simpa only [Ho,if_true] using this
  exact z))
 | "g6"=>`(tactic|(
  obtain ⟨its1,rv1,p1,_⟩:=I.list q1
  obtain ⟨its2,rv2,p2,_⟩:=I.list q2))
 | "h6"=>`(tactic|(
  obtain ⟨v,x,F⟩:=e
  cases x <;> rfl))
 | "i6"=>`(tactic|(
  refine (hs2'.2 c hc.1).trans ?_
  by_cases hbT:c=s.heap.objs.size))
 | "j6"=>`(tactic|(
  obtain ⟨f0,f1,f2,f3,f4,f5⟩:=hf it (by simp)
  have hl:=rv.length))
 | "k6"=>`(tactic|(
  have : i=j:=by omega
  subst this))
 | "l6"=>`(tactic|(
  obtain ⟨a,b,c,d⟩:=st
  rcases d with ⟨d,u,v,e⟩ | ⟨a',oa,fl,d,e⟩))
 | "m6"=>`(tactic|(
  ·obtain ⟨_,_,_,_,o,_,_,e,ex,_⟩:=I.hok p _ hk
   exact ⟨o,e,ex⟩))
 | "n6"=>`(tactic|(
  rw[exec_Assign_Name_used _ _ _ _ hsw]
  refine Aa (Hk (Aa ?_))))
 | "o6"=>`(tactic|(
  exfalso
  have : max 0 (p.size+q.size)=p.size+q.size:=by omega))
 | "p6"=>`(tactic|(
  obtain rfl:L'=L:=Ko (pe'.trans d.pe.symm) po' d.po
  unfold Kh))
 | "q6"=>`(tactic|(
  intro pins s σ H Q I h
  refine Tc (Ss I hg hm hv ?_ hn hdb)))
 | "r6"=>`(tactic|(
  ·rintro c st1 ⟨kp1,r,Ie,rfl,hr⟩
   exact Bi (h r st1 kp1 hr)))
 | "s6"=>`(tactic|(
  ·exact .inl (by simp; omega)
  ·exact .inr (by simp; omega)))
 | "t6"=>`(tactic|(
  have e:l=r:=by omega
  subst e))
 | "u6"=>`(tactic|(
  ·rw[if_pos ho]
   exact Bi ⟨la,o,rfl,rfl,a1,a3,b1,.inl ho⟩))
 | "v6"=>`(tactic|(
  obtain ⟨its,ti,o,g,k,n,e⟩:=hH r Ab
  rw[Ap,List.mapM_cons]))
 | "w6"=>`(tactic|(
  obtain ⟨o',es',ep',ho',r'⟩:=hm
  rw[ho] at ho'; cases ho'))
 | "x6"=>`(tactic|(
  obtain ⟨b,xs,G,e,hb,rb,_,_⟩:=(Gc h Ab).list_inv
  cases e))
 | "y6"=>`(tactic|(
  have ty:s.TypeIs (.ref z) "zip" := ⟨_,hz,rfl⟩
  unfold Ji))
 | "z6"=>`(tactic|(
  refine ⟨rfl,?_⟩
  have en:((h.toNat:Nat):Int)=h:=by omega))
 | "a7"=>`(tactic|(
  obtain ⟨u',r',q⟩:=hl j y v' e1 e2 e3
  refine ⟨u',r',?_⟩))
 | "b7"=>`(tactic|(
  obtain ⟨q,hq,rfl⟩:=Dc.mp hj
  obtain ⟨k,hk,ek⟩:=aM.mp hq))
 | "c7"=>`(tactic|(
  congr 1
  refine Nl λc hc=>?_))
 | "d7"=>`(tactic|(
  ·have : x≠n:=by rintro rfl; exact h v Ab
   simp [this]))
 | "e7"=>`(tactic|(
  ·rw[Ij q,Mq,Bo]; simp [hp]
  ·rw[Ij q,Mq,Bo]; simp [hp]))
 | "f7"=>`(tactic|(
  intro pins s σ H Q I h
  refine Tc (vR I hg hm ?_ hdb)))
 | "g7"=>`(tactic|(
  obtain ⟨t',rfl⟩:=ru
  have hu':A.units<cLine:=by omega))
 | "h7"=>`(tactic|(
  rw[show h1.get? s.heap.objs.size=_ from a5]
  exact q'))
 | "i7"=>`(tactic|(
  obtain ⟨rfl,hi⟩:=Po ha
  have l1:=Se (n:=a) (by omega)))
 | "j7"=>`(tactic|(
  obtain ⟨l,b,xs,zs,rfl,rfl,hH,hB,hz,q⟩:=h
  cases rx))
 | "k7"=>`(tactic|(
  ·rw[(Ih.mp he).2]
   exact (rfl:([]:List Addr)=[])))
 | "l7"=>`(tactic|(
  rcases hA.new _ mem_mid a ha with z | z
  ·exact z))
 | "m7"=>`(tactic|(
  refine ⟨L4,Gg deck,Gg other,rfl,ll,?_⟩
  rw[<- uB]))
 | "n7"=>`(tactic|(
  by_cases h:k<=xs.length
  ·rw[Nat.min_eq_left h]))
 | "o7"=>`(tactic|(
  obtain ⟨⟨old,he⟩,hit⟩:=st
  have hl:=rv.length))
 | "p7"=>`(tactic|(
  rcases b2 with b2 | ⟨b2,b3⟩
  ·exfalso; omega))
 | "q7"=>`(tactic|(
  obtain ⟨H0,Y,S,T,δ,P,rfl,hS,hT,hA,hd,k1,k2,k3,k4⟩:=h))
 | "r7"=>`(tactic|(
  intro pins s σ H xs us Q I r h))
 | "s7"=>`(tactic|(
  intro H0 X n S T As us H Q P eu hA hd k))
 | "t7"=>`(tactic|(
  intro pins s σ H Q I h))
 | "u7"=>`(tactic|(
  intro H0 X n S T x y v w F G H Q P hA hd k))
 | "v7"=>`(tactic|(
  ·exact hd.elim))
 | "w7"=>`(tactic|(
  split at hd))
 | "x7"=>`(tactic|(
  obtain ⟨v,F,rfl,hA⟩:=Hx eu hA ex))
 | "y7"=>`(tactic|(
  repeat (any_goals (first | assumption | wp_step))))
 | "z7"=>`(tactic|(
  exact Kv (loop _ rfl) (T.self X.A 0 _ _ _ st4 (loop _ rfl))))
 | "a8"=>`(tactic|(
  constructor))
 | "b8"=>`(tactic|(
  refine ⟨rfl,?_⟩))
 | "c8"=>`(tactic|(
  refine Aa (Cu (Hl (use:=some (Nr (.Name y0 py) X.env)) (Q:=λ_ s'=>SP X pins De .next s') rfl hs C.clos C.kind C.locs (Fq (hi pins s σ H _ I h) λv s1 h1=>Fq h1 λitv s2 h2=>?_)) (λ_ s' hq=>Ae (Ae hq)) λ_ _ e=>e)))
 | "d8"=>`(tactic|(
  obtain ⟨rfl,_⟩:=(hA.told mem_mid).int_inv))
 | "e8"=>`(tactic|(
  refine Aa (Hk (Aa (Cu (turn n s hJ) (λr s1 h1=>?_) λ_ _ z=>z.elim)))))
 | "f8"=>`(tactic|(
  refine F.ok S (λvs H Q E z=>?_) λcdv A outer s H us Q E hr z=>?_))
 | "g8"=>`(tactic|(
  rw[if_pos rfl]))
 | "h8"=>`(tactic|(
  intro pins s σ H x y v u Q I rx ry h))
 | "i8"=>`(tactic|(
  intro pins s σ H D I h))
 | "j8"=>`(tactic|(
  by_cases hc:(k0 == Ew && env.scope.kind == .function && env.kindOf n == some .cell)=true))
 | "k8"=>`(tactic|(
  obtain ⟨H0,Y,S,T,δ,P,rfl,hS,hA,hd,k⟩:=h))
 | "l8"=>`(tactic|(
  rcases Ak.mp he with rfl | he))
 | "m8"=>`(tactic|(
  rw[if_neg Bs]))
 | "n8"=>`(tactic|(
  refine Ba (Oo ?_)))
 | "o8"=>`(tactic|(
  exact hs _ _ (by omega) (by omega) (by omega)))
 | "p8"=>`(tactic|(
  ·exact .inl z))
 | "q8"=>`(tactic|(
  obtain ⟨t,rfl⟩:=rx))
 | "r8"=>`(tactic|(
  obtain ⟨a,xs,G,rfl,ha,ra,rfl,hz⟩:=(hA.told mem_mid).list_inv))
 | "s8"=>`(tactic|(
  ·exact p.elim))
 | "t8"=>`(tactic|(
  rcases Bc.mp he with he | he))
 | "u8"=>`(tactic|(
  intro pins s σ H x v vl vu lo hi sl Q I rx hs pl pu h))
 | "v8"=>`(tactic|(
  rcases Bc.mp hx with z | z))
 | "w8"=>`(tactic|(
  refine Ba (Gk hx ?_)))
 | "x8"=>`(tactic|(
  refine Ba (Gk hy ?_)))
 | "y8"=>`(tactic|(
  ·exact p1.elim))
 | "z8"=>`(tactic|(
  obtain ⟨x2,F2,h21,h22,h23⟩:=rb2.get (i:=i) (e:=es[i]) (by simp [show i<es.length by omega])))
 | "a9"=>`(tactic|(
  ·exact .inr (by omega)))
 | "b9"=>`(tactic|(
  obtain ⟨rfl,hi⟩:=Po ha))
 | "c9"=>`(tactic|(
  obtain ⟨z,y,xs,r,o,es,ep,h1,h2,h3,h4,h5,h6⟩:=(show Kb P w H h a (.dT kvs) from e8 ok e)))
 | "d9"=>`(tactic|(
  obtain ⟨v,x,F⟩:=e))
 | "e9"=>`(tactic|(
  obtain ⟨rfl,_⟩:=(hA2.told mem_mid).int_inv))
 | "f9"=>`(tactic|(
  obtain ⟨H0,Y,S,T,δ,P,rfl,hS,hA,hd,kk⟩:=h))
 | "g9"=>`(tactic|(
  refine ⟨H0,Y,S,T,δ,_,rfl,hS,hA,hd,λm ds δ1 J hid S1 H1 e1 e2 hA1 it hz p1=>?_⟩))
 | "h9"=>`(tactic|(
  intro pins s σ H x vs v us Q I rx rv h))
 | "i9"=>`(tactic|(
  refine Aa (Hj S ?_)))
 | "j9"=>`(tactic|(
  intro wh pins s σ H Q I h))
 | "k9"=>`(tactic|(
  refine ⟨H0,Y,S,T,δ,_,rfl,hS,hA,hd,λxs δ' As us S' H' e1 e2 ex eu hA' p=>?_⟩))
 | "l9"=>`(tactic|(
  by_cases hw:allOw (As.map Ent.x)=true))
 | "m9"=>`(tactic|(
  obtain ⟨z,its,n,r,hl,e⟩:=I.lstM hH))
 | "n9"=>`(tactic|(
  exact ⟨t,by rw[e]; congr 1; omega⟩))
 | "o9"=>`(tactic|(
  refine iX rfl J (λn s hJ=>?_) n h))
 | "p9"=>`(tactic|(
  refine ⟨λf hf=>?_,?_,λf hf=>?_,λb o nx q=>?_,λb o q=>?_,λb hb=>?_⟩))
 | "q9"=>`(tactic|(
  exact Si I r rr2 r1 r2 (Zl (by simpa only [Ea] using hu)) j h1 h2))
 | "r9"=>`(tactic|(
  ·rw[(hs e he).1] at ha; cases ha))
 | "s9"=>`(tactic|(
  exact ⟨xs,xs[i],Mp.of hb,by simp [show i<xs.length by omega]⟩))
 | "t9"=>`(tactic|(
  exact ⟨xs,xs[i],Rq.of hb,by simp [show i<xs.length by omega]⟩))
 | "u9"=>`(tactic|(
  obtain ⟨b2,ys,G2,e2,hb2,rb2,rfl,_⟩:=(Gc h (Ac _ Ab)).list_inv))
 | "v9"=>`(tactic|(
  exact Aa (Cu h5 (λ_ s6 h6=>Ae (Ae ⟨rfl,h6⟩)) λ_ _ z=>z.elim)))
 | "w9"=>`(tactic|(
  refine Ba (Vi C R ok hk hm ?_)))
 | "x9"=>`(tactic|(
  obtain ⟨t',rfl⟩:=rx))
 | "y9"=>`(tactic|(
  obtain ⟨oc,od,kV,doc,pm,an,cdv,ct,osl,rfl,lk,hcd⟩:=F.ex))
 | "z9"=>`(tactic|(
  exact ⟨c.map (kW T),by rw[Cr]; rfl,by rw[Ad]; omega,hy⟩))
 | "a10"=>`(tactic|(
  obtain ⟨rfl,_⟩:=ra.ints_inv))
 | "b10"=>`(tactic|(
  obtain ⟨a,xs,rfl,ha,ra,hz⟩:=(hA2.told mem_mid).tup_inv))
 | "c10"=>`(tactic|(
  obtain ⟨u,rfl,rx⟩:=vals1 r))
 | "d10"=>`(tactic|(
  rw[if_neg (λz=>h1 (Ef z))]))
 | "e10"=>`(tactic|(
  obtain ⟨rfl,rfl⟩:=Ux.mp hF))
 | "f10"=>`(tactic|(
  refine Aa (Gz gO2 rfl (Aa (bA gO2 λh3 gO3 s3=>?_)))))
 | "g10"=>`(tactic|(
  exact Bi ⟨kp,M1,by omega,by omega,n0,hn,by omega⟩))
 | "h10"=>`(tactic|(
  obtain ⟨b,xs,G,e,hb,rb,rfl,_⟩:=(Gc h Ab).list_inv))
 | "i10"=>`(tactic|(
  refine h es2 ep2 t2 h2 (sb1.trans sb2) S2 λx=>?_))
 | "j10"=>`(tactic|(
  by_cases h2:(decide (ac<7) && decide (k<7))=true))
 | "k10"=>`(tactic|(
  rintro i2 q2 H3 ⟨rfl,hi2,acc2,n2,G2,hG2,hA7,hI2⟩))
 | "l10"=>`(tactic|(
  obtain ⟨x,hx⟩:=Gs (p:=p) (i:=t - 1) (by omega)))
 | "m10"=>`(tactic|(
  exact Ba (Ku (Ba (Oo (Bi (fin r st2 kp hr)))))))
 | "n10"=>`(tactic|(
  obtain rfl:L'=L:=Ko (pe'.trans pe.symm) po' po))
 | "o10"=>`(tactic|(
  obtain ⟨xa,ea⟩:=Gs (p:=p) (i:=i+m) (by omega)))
 | "p10"=>`(tactic|(
  refine Qk (λz=>absurd z (by decide)) (λ_=>?_)))
 | "q10"=>`(tactic|(
  obtain ⟨H0,Y,S,T,As,δ,P,rfl,hS,eu,hA,hd,k⟩:=h))
 | "r10"=>`(tactic|(
  obtain ⟨f0,f1,f2,f3,f4,f5⟩:=hf it (by simp)))
 | "s10"=>`(tactic|(
  obtain ⟨ya,ea⟩:=Gs (p:=q) (i:=i) (by omega)))
 | "t10"=>`(tactic|(
  obtain ⟨xa,ea⟩:=Gs (p:=p) (i:=i) (by omega)))
 | "u10"=>`(tactic|(
  obtain ⟨hz,hTI,⟨o1,o2,hTO⟩,hi1,hi2⟩:=st))
 | "v10"=>`(tactic|(
  obtain ⟨m,⟨o,es,ep,ho,r⟩,_⟩:=id I.loc))
 |_=>Lean.Macro.throwUnsupported
set_option hygiene true
namespace L2
open PySem PySem.Spec PyProof.Rows
abbrev Lc:=Sum Int Str
def iH:Lc->Value->Bool
 | .inl k,v=>Value.isInt k v
 | .inr x,v=>Value.isStrOf x v
def JK(w:World):Lc->Int
 | .inl k=>hashInt k
 | .inr x=>hashStr w x
theorem Io:∀{k:Lc} {v:Value},iH k v=true->(∃i t,k=Za i/\v=Oc i t)\/(∃x t,k=Sum.inr x/\v=Value.str x t)
 | .inl i,v,h=>by
  obtain ⟨t,e⟩:=Value.isInt_shape (k:=i) (v:=v) h
  exact .inl ⟨i,t,rfl,e⟩
 | .inr x,v,h=>by
  obtain ⟨t,e⟩:=Value.isStrOf_shape (x:=x) (v:=v) h
  exact .inr ⟨x,t,rfl,e⟩
theorem xJ(i:Int)(t:Tok):iH (.inl i) (.int i t)=true:=by simp [iH,Value.isInt]
theorem wU(x:Str)(t:Tok):iH (.inr x) (.str x t)=true:=by simp [iH,Value.isStrOf]
theorem BP(a b:Int):decide ((Za a:Lc)=Za b)=(a == b):=by
 by_cases e:a=b
 ·subst e; simp
 ·have h:¬ (Za a:Lc)=Za b:=λq=>e (Sum.inl.inj q)
  rw[decide_eq_false h]
  exact (beq_eq_false_iff_ne.mpr e).symm
theorem AD(a b:Str):decide ((Sum.inr a:Lc)=Sum.inr b)=decide (a=b):=by
 by_cases e:a=b
 ·subst e; simp
 ·have h:¬ (Sum.inr a:Lc)=Sum.inr b:=λq=>e (Sum.inr.inj q)
  rw[decide_eq_false h,decide_eq_false e]
theorem AF(a:Int)(b:Str):decide ((Za a:Lc)=Sum.inr b)=false:=decide_eq_false (λq=>nomatch q)
theorem AL(a:Str)(b:Int):decide ((Sum.inr a:Lc)=Za b)=false:=decide_eq_false (λq=>nomatch q)
def Kd(prog:Bk)(w:World):PySem.KeyKind prog w Lc where
 is:=iH
 hash:=JK w
 inj:=λv a b ha hb=>by
  rcases Io ha with ⟨i,t,rfl,rfl⟩ | ⟨x,t,rfl,rfl⟩
  ·rcases Io hb with ⟨j,u,rfl,e⟩ | ⟨y,u,rfl,e⟩
   ·injection e with e1 _; rw[e1]
   ·exact nomatch e
  ·rcases Io hb with ⟨j,u,rfl,e⟩ | ⟨y,u,rfl,e⟩
   ·exact nomatch e
   ·injection e with e1 _; rw[e1]
 byValue:=λk v h=>by
  rcases Io h with ⟨i,t,rfl,rfl⟩ | ⟨x,t,rfl,rfl⟩ <;> rfl
 pyHash:=λhv h=>by
  rcases Io hv with ⟨i,t,rfl,rfl⟩ | ⟨x,t,rfl,rfl⟩
  ·exact wpAny_pyHash_int h
  ·exact wpAny_pyHash_str h
 eqBool:=λhu hv h=>by
  rcases Io hu with ⟨i,t,rfl,rfl⟩ | ⟨x,t,rfl,rfl⟩
  ·rcases Io hv with ⟨j,u,rfl,rfl⟩ | ⟨y,u,rfl,rfl⟩
   ·rw[BP] at h; exact wpAny_eqBool_int h
   ·rw[AF] at h; exact SeqAt.EqAt.int_str i t y u _ _ _ _ h
  ·rcases Io hv with ⟨j,u,rfl,rfl⟩ | ⟨y,u,rfl,rfl⟩
   ·rw[AL] at h; exact SeqAt.EqAt.str_int x t j u _ _ _ _ h
   ·rw[AD] at h; exact wpAny_eqBool_str h
 «strs»:=λk x t v h=>by
  rcases Io h with ⟨i,u,rfl,e⟩ | ⟨y,u,rfl,e⟩
  ·exact nomatch e
  ·injection e with e1 _
   subst e1
   cases v <;> rfl
theorem oH(prog:Bk)(w:World)(i:Int)(t:Tok):(Kd prog w).is (.inl i) (.int i t)=true:=xJ i t
theorem qD(prog:Bk)(w:World)(x:Str)(t:Tok):(Kd prog w).is (.inr x) (.str x t)=true:=wU x t
inductive V where
 | non | bl (b:Bool) | int (i:Int) | str (x:Str) | byt (b:Array UInt8) | flt (b:UInt64) | ref (a:Addr) | ty (n:String)
 deriving DecidableEq
def RelV:V->Value->Prop
 | .non,u=>u=Gq
 | .bl b,u=>u=Value.bool b
 | .int i,u=>∃t,u=Oc i t
 | .str x,u=>∃t,u=Value.str x t
 | .byt b,u=>∃t,u=Value.bytes b t
 | .flt b,u=>∃t,u=Value.float b t
 | .ref a,u=>u=Be a
 | .ty n,u=>u=Me n
abbrev Gj:List V->List Value->Prop:=Paired RelV
theorem Gj.length{xs:List V}{us:List Value}(r:Gj xs us):xs.length=us.length:=Paired.length r
theorem Gj.get:∀{xs:List V} {us:List Value} {i:Nat} {x:V},Gj xs us->xs[i]? = some x->∃u,us[i]? = some u/\RelV x u
 | _,_,_,_,.nil,e=>by simp at e
 | _,_,0,_,.cons r _,e=>by simp at e; subst e; exact ⟨_,rfl,r⟩
 | _,_,i+1,x,.cons _ t,e=>by
  obtain ⟨u,h1,h2⟩:=Gj.get (i:=i) (x:=x) t (by simpa using e)
  exact ⟨u,by simpa using h1,h2⟩
theorem Gj.set{x:V}{u:Value}(r:RelV x u):∀{xs:List V} {us:List Value} (i:Nat),Gj xs us->Gj (xs.set i x) (us.set i u)
 | _,_,_,.nil=>.nil
 | _,_,0,.cons _ t=>.cons r t
 | _,_,i+1,.cons q t=>.cons q (Gj.set r i t)
theorem Gj.append:∀{xs ys:List V} {us ws:List Value},Gj xs us->Gj ys ws->Gj (xs++ys) (us++ws)
 | _,_,_,_,.nil,s=>s
 | _,_,_,_,.cons r t,s=>.cons r (Gj.append t s)
theorem Gj.take:∀{xs:List V} {us:List Value} (n:Nat),Gj xs us->Gj (xs.take n) (us.take n)
 | _,_,0,_=>.nil
 | _,_,_+1,.nil=>.nil
 | _,_,n+1,.cons r t=>.cons r (Gj.take n t)
theorem Gj.drop:∀{xs:List V} {us:List Value} (n:Nat),Gj xs us->Gj (xs.drop n) (us.drop n)
 | _,_,0,r=>r
 | _,_,_+1,.nil=>.nil
 | _,_,n+1,.cons _ t=>Gj.drop n t
def xT:Option V->Option Value->Prop
 | some v,some u=>RelV v u
 | none,none=>True
 | _,_=>False
def KV{κ:Type}:List (κ×V)->List (κ×Value)->Prop:=Paired λ(p:κ×V) (q:κ×Value)=>p.1=q.1/\RelV p.2 q.2
def kV:Lc->V
 | .inl i=>.int i
 | .inr x=>.str x
inductive HO where
 /-- a list -/
 | lst (xs:List V)
 /-- a tuple (never changes) -/
 | tup (xs:List V)
 /-- a dict whose keys are ints and texts; one whose keys are tuples of ints and texts (the empty one is both) -/
 | dK (kvs:List (Lc×V)) | dT (kvs:List (List Lc×V))
 /-- a set of ints: its members,its size -/
 | set (S:Int->Bool) (n:Nat)
 /-- an instance of the class at C,its dict at dx,its attributes -/
 | ins (C dx:Addr) (fs:List (Str×V))
 /-- the dict of the instance at x -/
 | own (x:Addr)
 /-- the dict of an exception -/
 | xd (fs:List (Str×V))
 /-- a bound method,f of x -/
 | met (f x:Addr)
 /-- a range object lo,lo+1,.. below hi -/
 | rng (lo hi:Int)
 /-- a thing that is known to the object (the script; a dict while a loop walks it): read,never written while it is so -/
 | frz (o:Obj) (u:HO)
 /-- a code object's table -/
 | tbl (ps:Array Value)
 /-- any other thing,by what is true of its one object (a def of one's own: Yb a S n:=HO.ext λh=>..) -/
 | ext (φ:Heap->Prop)
abbrev Hp:=Addr->Option HO
def upd(H:Hp)(a:Addr)(o:HO):Hp:=λb=>if b=a then some o else H b
theorem Du{H:Hp}{a:Addr}{o:HO}:upd H a o a=some o:=by unfold upd; rw[if_pos rfl]
theorem Dw{H:Hp}{a b:Addr}{o:HO}(h:b≠a):upd H a o b=H b:=by unfold upd; rw[if_neg h]
theorem X4{H:Hp}{a b:Addr}{o u:HO}(h:H a=some o)(h':H b=some u)(d:o≠u):a≠b:=by
 intro e; subst e; rw[h] at h'; exact d (Ca h')
theorem Gx{H:Hp}{a b:Addr}{o:HO}(h:H a=some o)(h':H b=none):a≠b:=by
 intro e; subst e; rw[h] at h'; cases h'
section
variable(P:Bk)(w:World)
def Kb(H:Hp)(h:Heap)(a:Addr):HO->Prop
 | .lst xs=>xs.length<=Ay/\∃(its:List Value) (n:Nat),Gj xs its/\h.get? a=some { cls:=.type "list",data:=.seq its.toArray n }
 | .tup xs=>xs.length<=Ay/\∃its:List Value,Gj xs its/\IsTup h a its.toArray
 | .dK kvs=>kvs.length<=Ay/\(a == Hg)=false/\∃vs,KV kvs vs/\h.DictOf (Kd P w) a vs
 | .dT kvs=>kvs.length<=Ay/\(a == Hg)=false/\∃xs:List (List Lc×Addr×Value),
   Paired (λ(p:List Lc×V) (q:List Lc×Addr×Value)=>p.1=q.1/\H q.2.1=some (.tup (p.1.map kV))/\RelV p.2 q.2.2) kvs xs /\
   ∃o es ep,h.get? a=some o/\o.ExactDict/\o.data=.dict es ep/\es.toList=xs.map (fJ (Px (Kd P w)))/\(xs.map (·.1)).Nodup/\ep=es.size
 | .set S n=>h.SetOf (Xi P w) a S n
 | .ins C dx fs=>H dx=some (.own a)/\fs.length<=1000/\dx≠a/\h.get? a=some (PySem.W.instObj C dx) /\
   ∃mA,h.Ns1 dx mA/\(∀f,xT (fs.lookup f) (mA f))/\PySem.Within mA (fs.map (·.1))
 | .own _=>∃o,h.get? a=some o
 | .xd fs=>∃mA,h.Ns1 a mA/\∀f,xT (fs.lookup f) (mA f)
 | .rng lo hi=>∃t u v,h.get? a=some { cls:=.type "range",data:=.fields #[.int lo t,.int hi u,.int 1 v] }
 | .frz o u=>h.get? a=some o/\Kb H h a u
 | .tbl ps=>h.get? a=some { cls:=.none,data:=.fields ps }
 | .met f x=>h.get? a=some (PySem.W.methodObj (.ref f) (.ref x))
 | .ext φ=>φ h/\(∃o,h.get? a=some o)/\∀h1 h2:Heap,φ h1->(∀o,h1.get? a=some o->h2.get? a=some o)->φ h2
def Wi(H:Hp)(h:Heap):Prop:=∀a o,H a=some o->Kb P w H h a o
end
section
variable{P:Bk}{w:World}{H H':Hp}{h h':Heap}{a:Addr}{o:HO}
theorem Kb.lt(x:Kb P w H h a o):a<h.objs.size:=by
 cases o with
 | lst xs=>obtain ⟨_,_,_,_,e⟩:=x; exact Ar e
 | tup xs=>obtain ⟨_,_,_,p⟩:=x; exact p.lt
 | dK kvs=>obtain ⟨_,_,_,_,o,_,_,e,_⟩:=x; exact Ar e
 | dT kvs=>obtain ⟨_,_,_,_,o,_,_,e,_⟩:=x; exact Ar e
 | set S n=>obtain ⟨o,_,_,_,e,_⟩:=x; exact Ar e
 | ins C dx fs=>obtain ⟨_,_,_,e,_⟩:=x; exact Ar e
 | own y=>obtain ⟨_,e⟩:=x; exact Ar e
 | xd fs=>obtain ⟨_,⟨_,_,_,e,_⟩,_⟩:=x; exact Ar e
 | rng lo hi=>obtain ⟨_,_,_,e⟩:=x; exact Ar e
 | frz ob u=>obtain ⟨e,_⟩:=x; exact Ar e
 | tbl ps=>exact Ar (show h.get? a=some _ from x)
 | met f y=>exact Ar (show h.get? a=some _ from x)
 | ext φ=>obtain ⟨_,⟨_,e⟩,_⟩:=x; exact Ar e
theorem Paired.mapP{α β:Type}{F G:α->β->Prop}:∀{l₁:List α} {l₂:List β},Paired F l₁ l₂->(∀a b,F a b->G a b)->Paired G l₁ l₂
 | _,_,.nil,_=>.nil
 | _,_,.cons r t,f=>.cons (f _ _ r) (Paired.mapP t f)
theorem Kb.stay(x:Kb P w H h a o)(k:∀b u,(b=a\/H b=some (.own a))->h.get? b=some u->h'.get? b=some u)(ho:∀b,H b=some (.own a)->H' b=some (.own a))(ht:∀b xs,H b=some (.tup xs)->H' b=some (.tup xs)):Kb P w H' h' a o:=by
 induction o with
 | lst xs=>obtain ⟨z,its,n,r,e⟩:=x; exact ⟨z,its,n,r,k _ _ (.inl rfl) e⟩
 | tup xs=>obtain ⟨z,its,r,ob,e,c⟩:=x; exact ⟨z,its,r,ob,k _ _ (.inl rfl) e,c⟩
 | dK kvs=>obtain ⟨z,y,vs,r,ob,es,ep,e,c⟩:=x; exact ⟨z,y,vs,r,ob,es,ep,k _ _ (.inl rfl) e,c⟩
 | dT kvs =>
  obtain ⟨z,y,xs,r,ob,es,ep,e,c⟩:=x
  exact ⟨z,y,xs,Paired.mapP r λp q z=>⟨z.1,ht _ _ z.2.1,z.2.2⟩,ob,es,ep,k _ _ (.inl rfl) e,c⟩
 | set S n=>obtain ⟨ob,es,ep,t,e,c⟩:=x; exact ⟨ob,es,ep,t,k _ _ (.inl rfl) e,c⟩
 | ins C dx fs =>
  obtain ⟨d,z,ne,e,mA,⟨od,es,ep,e2,c⟩,r⟩:=x
  exact ⟨ho _ d,z,ne,k _ _ (.inl rfl) e,mA,⟨od,es,ep,k _ _ (.inr d) e2,c⟩,r⟩
 | own y=>obtain ⟨ob,e⟩:=x; exact ⟨ob,k _ _ (.inl rfl) e⟩
 | xd fs=>obtain ⟨mA,⟨od,es,ep,e,c⟩,r⟩:=x; exact ⟨mA,⟨od,es,ep,k _ _ (.inl rfl) e,c⟩,r⟩
 | rng lo hi=>obtain ⟨t,u,v,e⟩:=x; exact ⟨t,u,v,k _ _ (.inl rfl) e⟩
 | frz ob u ih=>obtain ⟨e,q⟩:=x; exact ⟨k _ _ (.inl rfl) e,ih q⟩
 | tbl ps =>
  have e:h.get? a=some { cls:=.none,data:=.fields ps }:=x
  show h'.get? a=some { cls:=.none,data:=.fields ps }
  exact k a _ (.inl rfl) e
 | met f y =>
  have e:h.get? a=some (PySem.W.methodObj (.ref f) (.ref y)):=x
  show h'.get? a=some (PySem.W.methodObj (.ref f) (.ref y))
  exact k a _ (.inl rfl) e
 | ext φ=>obtain ⟨p,⟨o,e⟩,st⟩:=x; exact ⟨st _ _ p λo q=>k _ _ (.inl rfl) q,⟨o,k _ _ (.inl rfl) e⟩,st⟩
theorem Wi.lt(x:Wi P w H h)(e:H a=some o):a<h.objs.size:=(x a o e).lt
theorem Wi.fresh(x:Wi P w H h)(e:h.objs.size<=a):H a=none:=by
 cases q:H a with
 | none=>rfl
 | some u=>exact absurd (Cj (x.lt q) e) (Fc _)
theorem Wi.kept(x:Wi P w H h)(k:∀b u,h.get? b=some u->h'.get? b=some u):Wi P w H h':=λa o e =>
 (x a o e).stay (λb u _ q=>k b u q) (λ_ q=>q) λ_ _ q=>q
theorem Wi.laid(x:Wi P w H h)(k:∀b u,h.get? b=some u->h'.get? b=some u)(hp:h.objs.size<=a)(new:Kb P w (upd H a o) h' a o):Wi P w (upd H a o) h':=λb u e=>by
 have hn:=x.fresh hp
 by_cases hb:b=a
 ·subst hb; rw[Du] at e; cases e; exact new
 ·rw[Dw hb] at e
  exact (x b u e).stay (λc v _ q=>k c v q) (λc q=>by rw[Dw (Gx q hn)]; exact q) λc xs q=>by rw[Dw (Gx q hn)]; exact q
end
def Rd(H:Hp)(a:Addr)(u:HO):Prop:=H a=some u\/∃o,H a=some (.frz o u)
theorem Rd.ok{P:Bk}{w:World}{H:Hp}{h:Heap}{a:Addr}{u:HO}(r:Rd H a u)(x:Wi P w H h):Kb P w H h a u:=by
 rcases r with r | ⟨o,r⟩
 ·exact x a u r
 ·obtain ⟨_,q⟩:=x a _ r
  exact q
def GM:Option HO->Prop
 | some (.lst _)=>True
 | some (.dK _)=>True
 | some (.dT _)=>True
 | some (.set _ _)=>True
 | some (.ins _ _ _)=>True
 | some (.ext _)=>True
 | _=>False
section
variable{P:Bk}{w:World}{H:Hp}{h h':Heap}{x e:Addr}{o':HO}
theorem Wi.write(ok:Wi P w H h)(mu:GM (H x))(he:e=x\/H e=some (.own x))(k:∀b u,b≠e->h.get? b=some u->h'.get? b=some u)(heo:∃u,h'.get? e=some u)(new:Kb P w (upd H x o') h' x o'):Wi P w (upd H x o') h':=λb u q=>by
 have nown:∀c y,H c=some (.own y)->c≠x:=λc y r z=>by subst z; rw[r] at mu; exact mu
 have gJ:∀c xs,H c=some (.tup xs)->c≠x:=λc xs r z=>by subst z; rw[r] at mu; exact mu
 by_cases hb:b=x
 ·subst hb; rw[Du] at q; cases q; exact new
 ·rw[Dw hb] at q
  by_cases hbe:b=e
  ·have q':H b=some (.own x):=by
    rcases he with z | z
    ·exact absurd (hbe.trans z) hb
    ·rw[hbe]; exact z
   rw[q] at q'; cases q'
   obtain ⟨v,hv⟩:=heo
   exact ⟨v,by rw[hbe]; exact hv⟩
  ·refine (ok b u q).stay (λc v hc r=>k c v ?_ r) (λc r=>by rw[Dw (nown c b r)]; exact r) λc xs r=>by rw[Dw (gJ c xs r)]; exact r
   rcases hc with rfl | hc
   ·exact hbe
   ·rintro rfl
    rcases he with z | z
    ·exact nown c b hc z
    ·rw[hc] at z; cases z; exact hb rfl
end
structure Un(fs ex:List Addr)(H H':Hp)(h h':Heap):Prop where
 keep:∀b o,h.get? b=some o->H b=none->b∉fs->b∉ex->h'.get? b=some o
 slot:∀b o,h.get? b=some o->H b=none->b∈fs->b∉ex->∃sl,h'.get? b=some { o with slots:=sl }
 free:∀b o,h.get? b=some o->H b=none->b∉ex->H' b=none
 there:∀b o,h.get? b=some o->b∉ex->∃o',h'.get? b=some o'
 tups:∀b xs,H b=some (.tup xs)->H' b=some (.tup xs)
 frzs:∀b o u,H b=some (.frz o u)->H' b=some (.frz o u)
 tbls:∀b ps,H b=some (.tbl ps)->∃more,H' b=some (.tbl (ps++more))
section
variable{fs fs' ex ex':List Addr}{H H1 H2:Hp}{h h1 h2 h':Heap}{a x e:Addr}{o:HO}
theorem Un.any(u:Un fs ex H H1 h h1){b:Addr}{ob:Obj}(q:h.get? b=some ob)(n:H b=none)(hx:b∉ex):∃sl,h1.get? b=some { ob with slots:=sl }:=by
 by_cases hb:b∈fs
 ·exact u.slot b ob q n hb hx
 ·exact ⟨ob.slots,u.keep b ob q n hb hx⟩
theorem Un.kept(k:∀b u,h.get? b=some u->h'.get? b=some u):Un fs ex H H h h' :=
 ⟨λb ob q _ _ _=>k b ob q,λb ob q _ _ _=>⟨ob.slots,k b ob q⟩,λ_ _ _ n _=>n,λb ob q _=>⟨ob,k b ob q⟩,λ_ _ q=>q,λ_ _ _ q=>q,λ_ ps q=>⟨#[],by rw[q]; simp⟩⟩
theorem Un.refl:Un fs ex H H h h:=Un.kept λ_ _ q=>q
theorem Un.laid(k:∀b u,h.get? b=some u->h'.get? b=some u)(hp:h.objs.size<=a)(hn:H a=none):Un fs ex H (upd H a o) h h' where
 keep:=λb u q _ _ _=>k b u q
 slot:=λb u q _ _ _=>⟨u.slots,k b u q⟩
 free:=λb u q n _=>by rw[Dw (Bm (Cj (Ar q) hp))]; exact n
 there:=λb u q _=>⟨u,k b u q⟩
 tups:=λb xs q=>by rw[Dw (Gx q hn)]; exact q
 frzs:=λb u xs q=>by rw[Dw (Gx q hn)]; exact q
 tbls:=λb ps q=>⟨#[],by rw[Dw (Gx q hn),q]; simp⟩
theorem Un.write(mu:GM (H x))(he:e=x\/H e=some (.own x))(k:∀b u,b≠e->h.get? b=some u->h'.get? b=some u)(heo:∃u,h'.get? e=some u):Un fs ex H (upd H x o) h h':=by
 have hx:∀b,H b=none->b≠x:=λb n z=>by subst z; rw[n] at mu; exact mu
 have hb:∀b,H b=none->b≠e:=λb n z=>by
  subst z
  rcases he with r | r
  ·exact hx b n r
  ·rw[n] at r; cases r
 have hm:∀b u,H b=some u->¬ GM (some u)->b≠x:=λb u q nm z=>by subst z; rw[q] at mu; exact nm mu
 refine ⟨λb u q n _ _=>k b u (hb b n) q,λb u q n _ _=>⟨u.slots,k b u (hb b n) q⟩,λb u q n _=>by rw[Dw (hx b n)]; exact n,λb u q _=>?_,
  λb xs q=>by rw[Dw (hm b _ q λz=>z)]; exact q,λb u xs q=>by rw[Dw (hm b _ q λz=>z)]; exact q,λb ps q=>⟨#[],by rw[Dw (hm b _ q λz=>z),q]; simp⟩⟩
 by_cases hbe:b=e
 ·subst hbe; exact heo
 ·exact ⟨u,k b u hbe q⟩
end
def IV(h:Heap)(H:Hp):List Addr:=(Cc h.objs.size).filter λa=>(H a).isSome
def lH(h:Heap)(H:Hp):Heap:=PySem.W.hideAll h (IV h H)
theorem yE(h:Heap)(H:Hp):(lH h H).objs.size=h.objs.size:=PySem.W.hideAll_size _ _
theorem D0{h:Heap}{H:Hp}{b:Addr}{o:Obj}(e:h.get? b=some o)(n:H b=none):(lH h H).get? b=some o :=
 PySem.W.hideAll_get _ e λhm=>by
  have q:(H b).isSome=true:=(Iw.mp hm).2
  rw[n] at q; simp at q
theorem S8{h:Heap}{H:Hp}{b:Addr}{o:Obj}(e:(lH h H).get? b=some o):h.get? b=some o/\H b=none:=by
 have e':h.get? b=some o:=PySem.W.of_hideAll (IV h H) e
 refine ⟨e',?_⟩
 cases q:H b with
 | none=>rfl
 | some x =>
  have hm:b∈IV h H:=Iw.mpr ⟨Fz.mpr (Ar e'),by simp [q]⟩
  have z:(lH h H).get? b=none:=PySem.W.hideAll_none (IV h H) hm
  rw[z] at e; cases e
def T8(g h:Heap)(L:Addr):List (Addr×Obj):=(Cc h.objs.size).filterMap λa=>if a=L\/(g.get? a).isSome=true then none else (h.get? a).map λo=>(a,o)
def Ie(g h:Heap)(L d:Addr):List (Addr×Obj):=(T8 g h L).filter λp=>decide (p.1≠d)
structure Mod(K:PySem.W.Frag)(mg:Str->Option Value)(base:Heap):Prop where
 kin:K.In base
 glob:base.Ns Dl mg
 blt:∃mb,base.Ns builtinsNs mb/\∀x:Str,x ≠ "__name__" -> mb x=Os x
 nolimit:base.NoLimit
structure Cx where
 prog:Bk
 w:World
 K:PySem.W.Frag
 mg:Str->Option Value
 base:Heap
 A:Ci
 N:List Str
 s₀:Ai
 H₀:Hp
 env:Env
 outer:List Env
 stack:List Env
 ex:List Addr
 fn:Str->Bool
 calm:Bool
 pn:List (Addr×Obj)
 xe:Value->Ai->Prop
def gG(l:List Env):List Addr:=l.filterMap (·.frame)
abbrev Cx.fs(X:Cx):List Addr:=gG X.outer
def IU(sc:Scope)(x:Str):Prop:=sc.names.lookup x=some .local\/sc.names.lookup x=some .cell\/sc.names.lookup x=some .free
def Loc(sc:Scope)(x:Str):Prop:=sc.names.lookup x=some .local\/sc.names.lookup x=some .cell
def KD(env:Env)(h:Heap)(m:Str->Option Value)(x:Str)(u:Value):Prop :=
 (env.kindOf x=some .local/\m x=some u)\/((env.kindOf x=some .cell\/env.kindOf x=some .free)/\∃c,env.cells.lookup x=some c/\h.IsCell c (some u))
structure Cx.Ok(X:Cx):Prop where
 mod:Mod X.K X.mg X.base
 kind:X.env.scope.kind=.function
 glob:X.env.globals=Dl
 blt:X.env.builtins=builtinsNs
 above:X.s₀.heap.objs.size<=X.env.locals
 inj:∀x y c,X.env.cells.lookup x=some c->X.env.cells.lookup y=some c->x=y
 has:∀x,(X.env.kindOf x=some .cell\/X.env.kindOf x=some .free)->∃c,X.env.cells.lookup x=some c
 cab:∀x c,X.fn x=true->X.env.cells.lookup x=some c->X.s₀.heap.objs.size<=c
 hd:X.calm=true->X.A.handled=none
 frames:X.A.frames=some X.stack
 stk:X.stack=X.outer\/(X.stack=X.env::X.outer/\X.env.frame=some X.env.locals)
 exf:∀b∈X.ex,b≠X.env.locals/\∀x c,X.env.cells.lookup x=some c->c≠b
 bs:∀b o,X.base.get? b=some o->X.s₀.heap.get? b=some o/\X.H₀ b=none
 bsz:X.base.objs.size<=X.s₀.heap.objs.size
 noex:∀b o,X.base.get? b=some o->b∉X.ex
 exfs:∀b∈X.ex,b∉X.fs
 funs:X.s₀.heap.FunFrames X.base X.outer
 frf:∀b∈X.fs,X.H₀ b=none
structure Inv(X:Cx)(pins:List (Addr×Obj))(σ:List (Option V))(H:Hp)(s:Ai):Prop where
 ok:X.Ok
 os:s.os=X.s₀.os
 bare:Xm s.gens
 base:Un X.fs X.ex X.H₀ H X.s₀.heap s.heap
 loc:∃m,s.heap.Ns X.env.locals m/\∀(i:Nat) (x:Str) (v:V),X.N[i]? = some x->σ[i]? = some (some v)->IU X.env.scope x->∃u,RelV v u/\KD X.env s.heap m x u
 cell:∀x c,X.env.cells.lookup x=some c->∃v,s.heap.IsCell c v
 free:H X.env.locals=none
 freeC:∀x c,X.env.cells.lookup x=some c->H c=none
 pin:∀p∈X.pn++pins,s.heap.get? p.1=some p.2/\H p.1=none/\p.1≠X.env.locals/\p.1∉X.fs/\∀v,p.2.data≠.cell v
 hok:Wi X.prog X.w H s.heap
 len:σ.length=X.N.length
section
variable{X:Cx}{pins:List (Addr×Obj)}{σ:List (Option V)}{H H':Hp}{s:Ai}{h':Heap}
theorem Cx.Ok.nofr(ok:X.Ok){b:Addr}{o:Obj}(e:X.base.get? b=some o):b∉X.fs:=λhb=>by
 have:=(ok.funs.mem hb).1
 rw[e] at this; cases this
theorem Inv.bs(I:Inv X pins σ H s):∀b o,X.base.get? b=some o->s.heap.get? b=some o/\H b=none:=λb o e =>
 ⟨I.base.keep b o (I.ok.bs b o e).1 (I.ok.bs b o e).2 (I.ok.nofr e) (I.ok.noex b o e),I.base.free b o (I.ok.bs b o e).1 (I.ok.bs b o e).2 (I.ok.noex b o e)⟩
theorem Inv.bk(I:Inv X pins σ H s):∀b o,X.base.get? b=some o->s.heap.get? b=some o:=λb o e=>(I.bs b o e).1
theorem Inv.mod(I:Inv X pins σ H s):Mod X.K X.mg X.base:=I.ok.mod
theorem Inv.kIn(I:Inv X pins σ H s):X.K.In s.heap:=I.ok.mod.kin.keeps I.bk
theorem Inv.lt(I:Inv X pins σ H s):X.env.locals<s.heap.objs.size:=let ⟨_,hn,_⟩:=I.loc; hn.lt
theorem Inv.sz(I:Inv X pins σ H s):X.s₀.heap.objs.size<=s.heap.objs.size:=Cb I.ok.above (Jd I.lt)
theorem Inv.nofs(I:Inv X pins σ H s){a:Addr}(h:s.heap.objs.size<=a):a∉X.fs:=λhb=>by
 obtain ⟨_,o,ho,_⟩:=I.ok.funs.mem hb
 exact absurd (Cj (Ar ho) (Cb I.sz h)) (Fc _)
theorem Inv.cne(I:Inv X pins σ H s):∀x c,X.env.cells.lookup x=some c->c≠X.env.locals:=λx c e z=>by
 obtain ⟨v,o,ho,hd⟩:=I.cell x c e
 obtain ⟨m,⟨o',es,ep,ho',hd',_⟩,_⟩:=I.loc
 rw[z,ho'] at ho; cases ho; rw[hd'] at hd; cases hd
theorem Inv.funs(I:Inv X pins σ H s):s.heap.FunFrames X.base X.outer:=by
 have all:∀(l:List Env),(∀b∈gG l,b∈X.fs)->X.s₀.heap.FunFrames X.base l->s.heap.FunFrames X.base l:=by
  intro l
  induction l with
  | nil=>intro _ _; trivial
  | cons env r ih =>
   intro hs hl
   obtain ⟨hk,⟨L,o,hf,hn,ho,hd⟩,hr⟩:=hl
   have hL:L∈X.fs:=hs L (by unfold gG; rw[Lv,hf]; exact Ab)
   obtain ⟨sl,e⟩:=I.base.slot L o ho (I.ok.frf L hL) hL λz=>I.ok.exfs L z hL
   exact ⟨hk,⟨L,_,hf,hn,e,hd⟩,ih (λb hb=>hs b (by unfold gG; rw[Lv,hf]; exact Ac _ hb)) hr⟩
 exact all X.outer (λ_ hb=>hb) I.ok.funs
theorem Inv.stack(I:Inv X pins σ H s):s.heap.FunFrames X.base X.stack:=by
 rcases I.ok.stk with e | ⟨e,hf⟩
 ·rw[e]; exact I.funs
 ·rw[e]
  obtain ⟨m,hn,_⟩:=I.loc
  refine .cons (by rw[I.ok.kind]; decide) hf hn ?_ I.funs
  exact Xd (Cb I.ok.bsz I.ok.above)
theorem Inv.stkSub(I:Inv X pins σ H s):∀b∈gG X.stack,b∈X.env.locals::X.fs:=λb hb=>by
 rcases I.ok.stk with e | ⟨e,hf⟩
 ·rw[e] at hb; exact Ac _ hb
 ·rw[e] at hb
  unfold gG at hb
  rw[Lv,hf] at hb
  exact hb
theorem Inv.stkFree(I:Inv X pins σ H s):∀b∈gG X.stack,H b=none:=λb hb=>by
 rcases Ak.mp (I.stkSub b hb) with e | hb
 ·rw[e]; exact I.free
 ·obtain ⟨_,o,ho,_⟩:=I.ok.funs.mem hb
  exact I.base.free b o ho (I.ok.frf b hb) λz=>I.ok.exfs b z hb
theorem Inv.step{g':Array GenState}{t':Nat}{d':Drawn}{ch:List Addr}(I:Inv X pins σ H s)(hch:∀b∈ch,(b∈X.ex\/X.s₀.heap.objs.size<=b)/\b≠X.env.locals/\(∀x c,X.env.cells.lookup x=some c->c≠b)/\∀p∈X.pn++pins,p.1≠b)(keep:∀b o,b≠X.env.locals->b∉X.fs->b∉ch->s.heap.get? b=some o->H b=none->h'.get? b=some o)(slot:∀b o,b≠X.env.locals->b∈X.fs->b∉ch->s.heap.get? b=some o->H b=none->∃sl,h'.get? b=some { o with slots:=sl })(free:∀b o,b∉ch->s.heap.get? b=some o->H b=none->H' b=none)(there:∀b o,b∉ch->s.heap.get? b=some o->∃o',h'.get? b=some o')(tups:∀b xs,H b=some (.tup xs)->H' b=some (.tup xs))(frzs:∀b o u,H b=some (.frz o u)->H' b=some (.frz o u))(tbls:∀b ps,H b=some (.tbl ps)->∃more,H' b=some (.tbl (ps++more)))(ns:∀m,s.heap.Ns X.env.locals m->h'.Ns X.env.locals m)(hok:Wi X.prog X.w H' h')(hg:Xm g'):Inv X pins σ H' { s with heap:=h',gens:=g',drawn:=d',toks:=t' }:=by
 have neL:∀b o,X.s₀.heap.get? b=some o->b≠X.env.locals:=λb o e=>Bm (Cj (Ar e) I.ok.above)
 have neC:∀b o,X.s₀.heap.get? b=some o->b∉X.ex->b∉ch:=λb o e hx hb=>by
  rcases (hch b hb).1 with z | z
  ·exact hx z
  ·exact absurd (Cj (Ar e) z) (Fc _)
 have cellK:∀x c,X.env.cells.lookup x=some c->∀v,s.heap.IsCell c v->h'.IsCell c v:=λx c e v ⟨o,ho,hd⟩=>by
  have nch:c∉ch:=λz=>(hch c z).2.2.1 x c e rfl
  by_cases hc:c∈X.fs
  ·obtain ⟨sl,q⟩:=slot c o (I.cne x c e) hc nch ho (I.freeC x c e)
   exact ⟨_,q,hd⟩
  ·exact ⟨o,keep c o (I.cne x c e) hc nch ho (I.freeC x c e),hd⟩
 refine ⟨I.ok,I.os,hg,⟨λb o e n hb hx=>?_,λb o e n hb hx=>?_,λb o e n hx=>?_,λb o e hx=>?_,λb xs e=>tups b xs (I.base.tups b xs e),λb o xs e=>frzs b o xs (I.base.frzs b o xs e),λb ps e=>?_⟩,?_,λx c e=>?_,?_,λx c e=>?_,λp hp=>?_,hok,I.len⟩
 ·exact keep b o (neL b o e) hb (neC b o e hx) (I.base.keep b o e n hb hx) (I.base.free b o e n hx)
 ·obtain ⟨sl,e1⟩:=I.base.slot b o e n hb hx
  obtain ⟨sl',e2⟩:=slot b _ (neL b o e) hb (neC b o e hx) e1 (I.base.free b o e n hx)
  exact ⟨sl',e2⟩
 ·obtain ⟨o',e1⟩:=I.base.there b o e hx
  exact free b o' (neC b o e hx) e1 (I.base.free b o e n hx)
 ·obtain ⟨o',e1⟩:=I.base.there b o e hx
  exact there b o' (neC b o e hx) e1
 ·obtain ⟨m1,e1⟩:=I.base.tbls b ps e
  obtain ⟨m2,e2⟩:=tbls b _ e1
  exact ⟨m1++m2,by rw[e2,Array.append_assoc]⟩
 ·obtain ⟨m,hn,hl⟩:=I.loc
  refine ⟨m,ns m hn,λi x v e1 e2 e3=>?_⟩
  obtain ⟨u,r,l⟩:=hl i x v e1 e2 e3
  refine ⟨u,r,?_⟩
  rcases l with l | ⟨k,c,e,z⟩
  ·exact .inl l
  ·exact .inr ⟨k,c,e,cellK x c e _ z⟩
 ·obtain ⟨v,z⟩:=I.cell x c e
  exact ⟨v,cellK x c e v z⟩
 ·obtain ⟨m,⟨o,_,_,ho,_⟩,_⟩:=I.loc
  exact free _ o (λz=>(hch _ z).2.1 rfl) ho I.free
 ·obtain ⟨v,o,ho,hd⟩:=I.cell x c e
  exact free c o (λz=>(hch c z).2.2.1 x c e rfl) ho (I.freeC x c e)
 ·obtain ⟨e,n,ne,nf,d⟩:=I.pin p hp
  have nch:p.1∉ch:=λz=>(hch p.1 z).2.2.2 p hp rfl
  exact ⟨keep p.1 p.2 ne nf nch e n,free p.1 p.2 nch e n,ne,nf,d⟩
theorem Inv.un{t':Nat}(I:Inv X pins σ H s)(u:Un X.fs [] H H' s.heap h')(hok:Wi X.prog X.w H' h'):Inv X pins σ H' { s with heap:=h',toks:=t' }:=by
 w_pre v10
 obtain ⟨sl,hL⟩:=u.any ho I.free (by simp)
 exact I.step (g':=s.gens) (d':=s.drawn) (ch:=[]) (λ_ z=>nomatch z) (λb o _ hb _ e n=>u.keep b o e n hb (by simp)) (λb o _ hb _ e n=>u.slot b o e n hb (by simp)) (λb o _ e n=>u.free b o e n (by simp)) (λb o _ e=>u.there b o e (by simp)) u.tups u.frzs u.tbls (λm' hm=>by
  w_pre w6
  exact ⟨_,es',ep',hL,r'⟩) hok I.bare
theorem Inv.call{g':Array GenState}{t':Nat}{d':Drawn}{ch:List Addr}(I:Inv X pins σ H s)(u:Un (gG X.stack) ch H H' s.heap h')(hok:Wi X.prog X.w H' h')(hg:Xm g')(hch:∀b∈ch,(b∈X.ex\/X.s₀.heap.objs.size<=b)/\b≠X.env.locals/\(∀x c,X.env.cells.lookup x=some c->c≠b)/\∀p∈X.pn++pins,p.1≠b):Inv X pins σ H' { s with heap:=h',gens:=g',drawn:=d',toks:=t' }:=by
 w_pre v10
 obtain ⟨sl,hL⟩:=u.any ho I.free λz=>(hch _ z).2.1 rfl
 exact I.step (ch:=ch) hch (λb o hL hb hc e n=>u.keep b o e n (λz=>(Ak.mp (I.stkSub b z)).elim hL hb) hc) (λb o _ _ hc e n=>u.any e n hc) (λb o hc e n=>u.free b o e n hc) (λb o hc e=>u.there b o e hc) u.tups u.frzs u.tbls (λm' hm=>by
  w_pre w6
  exact ⟨_,es',ep',hL,r'⟩) hok hg
theorem Inv.turned{t':Nat}{it:Addr}(I:Inv X pins σ H s)(k:∀b o,b≠it->s.heap.get? b=some o->h'.get? b=some o)(hn:H it=none)(hL:it≠X.env.locals)(h1:it∈X.ex\/X.s₀.heap.objs.size<=it)(h2:∀x c,X.env.cells.lookup x=some c->c≠it)(h3:∀p∈X.pn++pins,p.1≠it):Inv X pins σ H { s with heap:=h',toks:=t' }:=by
 have nit:∀b u,H b=some u->b≠it:=λb u e z=>by rw[z,hn] at e; cases e
 refine I.step (g':=s.gens) (d':=s.drawn) (ch:=[it]) (λb hb=>?_) (λb o _ _ hc e _=>k b o (λz=>hc (by simp [z])) e) (λb o _ _ hc e _=>⟨o.slots,k b o (λz=>hc (by simp [z])) e⟩) (λ_ _ _ _ n=>n)
  (λb o hc e=>⟨o,k b o (λz=>hc (by simp [z])) e⟩) (λ_ _ e=>e) (λ_ _ _ e=>e) (λb ps e=>⟨#[],by rw[e]; simp⟩) (λm hm=>?_) (λb u e=>?_) I.bare
 ·have e:b=it:=by simpa using hb
  subst e
  exact ⟨h1,hL,h2,h3⟩
 ·obtain ⟨o,es,ep,ho,r⟩:=hm
  exact ⟨o,es,ep,k _ o (Lu hL) ho,r⟩
 w_pre k1
theorem Inv.tok(I:Inv X pins σ H s)(t:Nat):Inv X pins σ H { s with toks:=t }:=I.un (h':=s.heap) (t':=t) Un.refl I.hok
theorem Inv.kept{t':Nat}(I:Inv X pins σ H s)(k:∀b u,s.heap.get? b=some u->h'.get? b=some u):Inv X pins σ H { s with heap:=h',toks:=t' }:=I.un (Un.kept k) (I.hok.kept k)
theorem Inv.laid{a:Addr}{o:HO}{t':Nat}(I:Inv X pins σ H s)(k:∀b u,s.heap.get? b=some u->h'.get? b=some u)(hp:s.heap.objs.size<=a)(new:Kb X.prog X.w (upd H a o) h' a o):Inv X pins σ (upd H a o) { s with heap:=h',toks:=t' }:=I.un (Un.laid k hp (I.hok.fresh hp)) (I.hok.laid k hp new)
theorem Inv.write{x e:Addr}{o:HO}{t':Nat}(I:Inv X pins σ H s)(mu:GM (H x))(he:e=x\/H e=some (.own x))(k:∀b u,b≠e->s.heap.get? b=some u->h'.get? b=some u)(heo:∃u,h'.get? e=some u)(new:Kb X.prog X.w (upd H x o) h' x o):Inv X pins σ (upd H x o) { s with heap:=h',toks:=t' }:=I.un (Un.write mu he k heo) (I.hok.write mu he k heo new)
theorem Inv.pins_of{pins':List (Addr×Obj)}(I:Inv X pins σ H s)(h:∀p∈pins',s.heap.get? p.1=some p.2/\H p.1=none/\p.1≠X.env.locals/\p.1∉X.fs/\∀v,p.2.data≠.cell v):Inv X pins' σ H s :=
 ⟨I.ok,I.os,I.bare,I.base,I.loc,I.cell,I.free,I.freeC,λp hp=>(Bc.mp hp).elim (λz=>I.pin p (Ao _ z)) (h p),I.hok,I.len⟩
theorem qF{N:List Str}(hN:N.Nodup){i j:Nat}{x:Str}(a:N[i]? = some x)(b:N[j]? = some x):i=j:=by
 obtain ⟨h1,e1⟩:=Ax.mp a
 obtain ⟨h2,e2⟩:=Ax.mp b
 exact (List.getElem_inj hN).mp (e1.trans e2.symm)
theorem zD{M:Model}{A:Ci}{E:Value->Ai->Prop}{i:Nat}{x:Str}{v:V}{u:Value}{Q:Unit->Ai->Prop}(I:Inv X pins σ H s)(hN:X.N.Nodup)(hi:X.N[i]? = some x)(hx:Loc X.env.scope x)(r:RelV v u)(h:∀s',Inv X pins (σ.set i (some v)) H s'->(∃a,Cv a s.heap s'.heap/\(a=X.env.locals\/X.env.cells.lookup x=some a))->Q () s')(hf:X.fn x=true\/X.env.scope.names.lookup x=some .local:=by first | exact .inl rfl | exact .inr rfl | assumption):wpAny M A (storeName X.env x u) Q E s:=by
 obtain ⟨m,hn,hl⟩:=id I.loc
 have hcls:(X.env.scope.kind == .class || (X.env.scope.kind == .module && X.env.locals != X.env.globals))=false:=by rw[I.ok.kind]; rfl
 have hiσ:i<σ.length:=by rw[I.len]; exact (Ax.mp hi).1
 have cne:=I.cne
 have tracked:∀{a:Addr} {h':Heap},(∃o,s.heap.get? a=some o/\H a=none)->Cv a s.heap h'->Wi X.prog X.w H h':=λ{a h'} ha hs b ob e=>by
  obtain ⟨_,_,hfree⟩:=ha
  refine (I.hok b ob e).stay (λc w' hc q=>(hs.2 c ?_).trans q) (λ_ q=>q) λ_ _ q=>q
  rintro rfl
  rcases hc with rfl | hc
  ·rw[hfree] at e; cases e
  ·rw[hfree] at hc; cases hc
 rcases hx with hk | hk
 ·refine wpAny_storeName_local hk hn (λh' hn' hs=>?_) hcls
  obtain ⟨oL,_,_,hoL,_⟩:=id hn
  refine h _ ⟨I.ok,I.os,I.bare,⟨λb o e n hb hx=>?_,λb o e n hb hx=>?_,I.base.free,λb o e hx=>?_,I.base.tups,I.base.frzs,I.base.tbls⟩,⟨_,hn',λj y v' e1 e2 e3=>?_⟩,λy c e=>?_,I.free,I.freeC,λp hp=>?_,tracked ⟨oL,hoL,I.free⟩ hs,by simpa using I.len⟩ ⟨_,hs,.inl rfl⟩
  ·exact (hs.2 b (Bm (Cj (Ar e) I.ok.above))).trans (I.base.keep b o e n hb hx)
  ·obtain ⟨sl,e1⟩:=I.base.slot b o e n hb hx
   exact ⟨sl,(hs.2 b (Bm (Cj (Ar e) I.ok.above))).trans e1⟩
  ·obtain ⟨o',e1⟩:=I.base.there b o e hx
   exact ⟨o',(hs.2 b (Bm (Cj (Ar e) I.ok.above))).trans e1⟩
  ·by_cases hj:j=i
   ·subst hj
    w_pre h4
    exact ⟨u,r,.inl ⟨hk,by simp⟩⟩
   ·rw[List.getElem?_set_ne (Lu hj)] at e2
    w_pre a7
    rcases q with ⟨k,e⟩ | ⟨k,c,e,z⟩
    ·refine .inl ⟨k,?_⟩
     have : y≠x:=λe=>hj (qF hN e1 (e▸hi))
     simp [this,e]
    ·exact .inr ⟨k,c,e,z.sameBut hs (cne y c e)⟩
  ·obtain ⟨w',z⟩:=I.cell y c e
   exact ⟨w',z.sameBut hs (cne y c e)⟩
  ·obtain ⟨e,n,ne,nf,d⟩:=I.pin p hp
   exact ⟨(hs.2 p.1 ne).trans e,n,ne,nf,d⟩
 ·have hfn:X.fn x=true:=by
   rcases hf with z | z
   ·exact z
   ·rw[z] at hk; cases hk
  obtain ⟨c,hc⟩:=I.ok.has x (.inl hk)
  obtain ⟨w',z⟩:=I.cell x c hc
  refine wpAny_storeName_cell I.ok.kind hk hc z (λh' hc' hs=>?_)
  obtain ⟨oc,hoc,hocd⟩:=id z
  refine h { s with heap:=h' } ⟨I.ok,I.os,I.bare,⟨λb o e n hb hx=>?_,λb o e n hb hx=>?_,I.base.free,λb o e hx=>?_,I.base.tups,I.base.frzs,I.base.tbls⟩,⟨m,hn.sameBut hs (Lu (cne x c hc)),λj y v' e1 e2 e3=>?_⟩,λy c' e=>?_,I.free,I.freeC,λp hp=>?_,tracked ⟨oc,hoc,I.freeC x c hc⟩ hs,by simpa using I.len⟩ ⟨c,hs,.inr hc⟩
  ·exact (hs.2 b (Bm (Cj (Ar e) (I.ok.cab x c hfn hc)))).trans (I.base.keep b o e n hb hx)
  ·obtain ⟨sl,e1⟩:=I.base.slot b o e n hb hx
   exact ⟨sl,(hs.2 b (Bm (Cj (Ar e) (I.ok.cab x c hfn hc)))).trans e1⟩
  ·obtain ⟨o',e1⟩:=I.base.there b o e hx
   exact ⟨o',(hs.2 b (Bm (Cj (Ar e) (I.ok.cab x c hfn hc)))).trans e1⟩
  ·by_cases hj:j=i
   ·subst hj
    w_pre h4
    exact ⟨u,r,.inr ⟨.inl hk,c,hc,hc'⟩⟩
   ·rw[List.getElem?_set_ne (Lu hj)] at e2
    w_pre a7
    rcases q with q | ⟨k,c',e,z'⟩
    ·exact .inl q
    ·refine .inr ⟨k,c',e,z'.sameBut hs ?_⟩
     rintro rfl
     exact hj (qF hN e1 (I.ok.inj _ _ _ e hc▸hi))
  ·by_cases hcc:c'=c
   ·subst hcc; exact ⟨_,hc'⟩
   ·obtain ⟨w2,z2⟩:=I.cell y c' e
    exact ⟨w2,z2.sameBut hs hcc⟩
  ·obtain ⟨e,n,ne,nf,d⟩:=I.pin p hp
   refine ⟨(hs.2 p.1 ?_).trans e,n,ne,nf,d⟩
   intro q
   rw[q,hoc] at e
   have q':oc=p.2:=Ca e
   exact d w' (by rw[<- q']; exact hocd)
theorem mY{M:Model}{A:Ci}{E:Value->Ai->Prop}{i:Nat}{x:Str}{v:V}{u:Value}{Q:Unit->Ai->Prop}(I:Inv X pins σ H s)(hN:X.N.Nodup)(hi:X.N[i]? = some x)(hx:Loc X.env.scope x)(r:RelV v u)(h:∀s',Inv X pins (σ.set i (some v)) H s'->Q () s')(hf:X.fn x=true\/X.env.scope.names.lookup x=some .local:=by first | exact .inl rfl | exact .inr rfl | assumption):wpAny M A (storeName X.env x u) Q E s :=
 zD I hN hi hx r (λs' I' _=>h s' I') hf
theorem Inv.call'{s':Ai}{ch:List Addr}(I:Inv X pins σ H s)(ho:s'.os=s.os)(u:Un (gG X.stack) ch H H' s.heap s'.heap)(hok:Wi X.prog X.w H' s'.heap)(hg:Xm s'.gens)(hch:∀b∈ch,(b∈X.ex\/X.s₀.heap.objs.size<=b)/\b≠X.env.locals/\(∀x c,X.env.cells.lookup x=some c->c≠b)/\∀p∈X.pn++pins,p.1≠b):Inv X pins σ H' s':=by
 obtain ⟨h',g',d',t',o'⟩:=s'
 have e:o'=s.os:=ho
 subst e
 exact I.call (g':=g') (t':=t') (d':=d') u hok hg hch
end
abbrev XK:=Value->Option Addr->Hp->Prop
abbrev St:=List (Option V)
abbrev VK:=V->Hp->Prop
abbrev TE:=St->Hp->VK->Prop
abbrev TT:=St->Hp->(Bool->Hp->Prop)->Prop
abbrev TA:=St->Hp->(List V->Hp->Prop)->Prop
structure Ends where
 nx:St->Hp->Prop
 rt:VK
 bk:St->Hp->Prop:=λ_ _=>False
 ct:St->Hp->Prop:=λ_ _=>False
abbrev TS:=Ends->St->Hp->Prop
def EP(X:Cx)(pins:List (Addr×Obj))(σ:St)(Q:VK)(u:Value)(s':Ai):Prop:=∃v H',Inv X pins σ H' s'/\RelV v u/\Q v H'
def TP(X:Cx)(pins:List (Addr×Obj))(σ:St)(Q:Bool->Hp->Prop)(b:Bool)(s':Ai):Prop:=∃H',Inv X pins σ H' s'/\Q b H'
def AP(X:Cx)(pins:List (Addr×Obj))(σ:St)(Q:List V->Hp->Prop)(us:List Value)(s':Ai):Prop:=∃vs H',Inv X pins σ H' s'/\Gj vs us/\Q vs H'
def SP(X:Cx)(pins:List (Addr×Obj))(D:Ends)(f:Flow)(s':Ai):Prop :=
 match f with
 | .next=>∃σ' H',Inv X pins σ' H' s'/\D.nx σ' H'
 | .brk=>∃σ' H',Inv X pins σ' H' s'/\D.bk σ' H'
 | .cont=>∃σ' H',Inv X pins σ' H' s'/\D.ct σ' H'
 | .ret u=>∃v σ' H',Inv X pins σ' H' s'/\RelV v u/\D.rt v H'
def PE(X:Cx)(e:Expr)(t:TE):Prop :=
 ∀(pins:List (Addr×Obj)) (s:Ai) (σ:St) (H:Hp) (Q:VK),Inv X pins σ H s->t σ H Q->wpAny (model X.prog X.w) X.A (eval e X.env) (EP X pins σ Q) X.xe s
def PT(X:Cx)(e:Expr)(t:TT):Prop :=
 ∀(pins:List (Addr×Obj)) (s:Ai) (σ:St) (H:Hp) (Q:Bool->Hp->Prop),Inv X pins σ H s->t σ H Q->wpAny (model X.prog X.w) X.A (isTrue e X.env (eval e X.env)) (TP X pins σ Q) X.xe s
def PW(X:Cx)(e:Expr)(t:TT):Prop :=
 ∀(whole:Sem Value) (pins:List (Addr×Obj)) (s:Ai) (σ:St) (H:Hp) (Q:Bool->Hp->Prop),Inv X pins σ H s->t σ H Q->wpAny (model X.prog X.w) X.A (isTrue e X.env whole) (TP X pins σ Q) X.xe s
theorem PW.pt{X:Cx}{e:Expr}{t:TT}(h:PW X e t):PT X e t:=h _
def PA(X:Cx)(es:List Expr)(t:TA):Prop :=
 ∀(pos:Pos) (pins:List (Addr×Obj)) (s:Ai) (σ:St) (H:Hp) (Q:List V->Hp->Prop),Inv X pins σ H s->t σ H Q->wpAny (model X.prog X.w) X.A (spliced (Hh pos (Bj es X.env))) (AP X pins σ Q) X.xe s
def PS(X:Cx)(st:Stmt)(t:TS):Prop :=
 ∀(pins:List (Addr×Obj)) (s:Ai) (σ:St) (H:Hp) (D:Ends),Inv X pins σ H s->t D σ H->wpAny (model X.prog X.w) X.A (exec st X.env) (SP X pins D) X.xe s
def vW(X:Cx)(st:List Stmt)(t:TS):Prop :=
 ∀(pins:List (Addr×Obj)) (s:Ai) (σ:St) (H:Hp) (D:Ends),Inv X pins σ H s->t D σ H->wpAny (model X.prog X.w) X.A (execs st X.env) (SP X pins D) X.xe s
theorem Fq{α:Type}{t:Sem α}{Q Q':α->Ai->Prop}{M:Model}{A:Ci}{E:Value->Ai->Prop}{s:Ai}(h:wpAny M A t Q E s)(hQ:∀a s,Q a s->Q' a s):wpAny M A t Q' E s:=Cu h hQ λ_ _ x=>x
section
variable{X:Cx}
theorem MG{a b:Expr}{ta tb:TE}(ha:PE X a ta)(hb:PE X b tb){pins:List (Addr×Obj)}{s:Ai}{σ:St}{H:Hp}{R:V->V->Hp->Prop}(I:Inv X pins σ H s)(h:ta σ H λx H1=>tb σ H1 λy H2=>R x y H2){α:Type}{Q:α->Ai->Prop}{f:Value->Value->Sem α}(hf:∀v u s2 x y H2,Inv X pins σ H2 s2->RelV x v->RelV y u->R x y H2->wpAny (model X.prog X.w) X.A (f v u) Q X.xe s2):wpAny (model X.prog X.w) X.A (eval a X.env) (λv s₁=>wpAny (model X.prog X.w) X.A (eval b X.env) (λu s₂=>wpAny (model X.prog X.w) X.A (f v u) Q X.xe s₂) X.xe s₁) X.xe s:=by
 w_pre n2
def kH(i:Nat):TE:=λσ H Q=>∃v,σ[i]? = some (some v)/\Q v H
def tC(v:V):TE:=λ_ H Q=>Q v H
theorem AM{i:Nat}{x:Str}{pos:Pos}(hN:X.N[i]? = some x)(hv:IU X.env.scope x)(hd:(x == ("__debug__" : Str))=false:=by decide)(hcd:(x == ("__classdict__" : Str))=false:=by decide):PE X (.Name x pos) (kH i):=by
 w_pre t7
 obtain ⟨v,e,h⟩:=h
 obtain ⟨m,hn,hl⟩:=I.loc
 obtain ⟨u,r,l⟩:=hl i x v hN e hv
 have fin:EP X pins σ Q u s:=⟨v,H,I,r,h⟩
 rcases l with ⟨hk,hm⟩ | ⟨hk,c,hc,hcell⟩
 ·exact wpAny_Name (wpAny_loadName_local I.ok.kind hk hn hm fin) hd
 ·rcases hk with hk | hk
  ·exact wpAny_Name (wpAny_loadName_cell I.ok.kind hk hc hcell fin) hd
  ·exact wpAny_Name (wpAny_loadName_free I.ok.kind hk hc hcell fin hcd) hd
theorem Gm{i j pos}:PE X (.Constant (.int i) j pos) (tC (.int i)):=λ_ _ _ H _ I h=>wpAny_Constant_int ⟨.int i,H,I.tok _,⟨_,rfl⟩,h⟩
theorem C4{b j pos}:PE X (.Constant (.bool b) j pos) (tC (.bl b)):=λ_ _ _ H _ I h=>Constant_bool ⟨.bl b,H,I,rfl,h⟩
theorem AO{x j pos}:PE X (.Constant (.str x) j pos) (tC (.str x)):=λ_ _ _ H _ I h=>Calls.Constant_str ⟨.str x,H,I.tok _,⟨_,rfl⟩,h⟩
def Gl(X:Cx)(x:Str):Prop:=X.env.kindOf x=some .globalImplicit
theorem vR{E:Value->Ai->Prop}{pins:List (Addr×Obj)}{s:Ai}{σ:St}{H:Hp}{x:Str}{u:Value}{pos:Pos}{Q:Value->Ai->Prop}(I:Inv X pins σ H s)(hg:Gl X x)(hm:X.mg x=some u)(h:Q u s)(hd:(x == ("__debug__" : Str))=false:=by decide):wpAny (model X.prog X.w) X.A (eval (.Name x pos) X.env) Q E s :=
 jA I.ok.kind hg (Calls.loadGlobal_global (by rw[I.ok.glob]; exact I.mod.glob.keeps I.bk) hm h) hd
theorem Ss{E:Value->Ai->Prop}{pins:List (Addr×Obj)}{s:Ai}{σ:St}{H:Hp}{x:Str}{u:Value}{pos:Pos}{Q:Value->Ai->Prop}(I:Inv X pins σ H s)(hg:Gl X x)(hm:X.mg x=none)(hv:Os x=some u)(h:Q u s)(hn:x ≠ "__name__" := by decide)(hd:(x == ("__debug__" : Str))=false:=by decide):wpAny (model X.prog X.w) X.A (eval (.Name x pos) X.env) Q E s:=by
 obtain ⟨mb,h1,h2⟩:=I.mod.blt
 exact jA I.ok.kind hg (Calls.loadGlobal_builtin (by rw[I.ok.glob]; exact I.mod.glob.keeps I.bk) hm (by rw[I.ok.blt]; exact h1.keeps I.bk) ((h2 x hn).trans hv) h) hd
variable{a b:Expr}{ta tb:TE}{pos:Pos}
def PC(X:Cx)(op:CmpOp)(a b:Expr)(t:TE):Prop :=
 ∀(pins:List (Addr×Obj)) (s:Ai) (σ:St) (H:Hp) (Q:VK),Inv X pins σ H s->t σ H Q ->
  wpAny (model X.prog X.w) X.A (eval a X.env) (λv s₁=>wpAny (model X.prog X.w) X.A (eval b X.env) (λu s₂=>wpAny (model X.prog X.w) X.A (Jl op v u) (EP X pins σ Q) X.xe s₂) X.xe s₁) X.xe s
theorem J1(b:Expr){op:CmpOp}(h:op≠.In)(h2:op≠.NotIn):Gy op b=false:=by
 w_pre i2
def tB(t:TE):TT:=λσ H Q=>t σ H λx H1=>∃c,x=.bl c/\Q c H1
theorem KF{op:CmpOp}{t:TE}(h:PC X op a b t)(h1:Gy op b=false:=by first | exact J1 _ (by decide) (by decide) | rfl):PT X (.Compare a [op] [b] pos) (tB t):=by
 intro pins s σ H Q I hw
 refine wpAny_isTrue_Compare1 (Fq (h pins s σ H _ I hw) λv s1 h1=>Fq h1 λu s2 h2=>Fq h2 λc s3 ⟨x,H1,I1,r1,q1⟩=>?_) h1
 w_pre i4
theorem C7{e:Expr}{t:TE}(h:PE X e t)(he:∀whole,isTrue e X.env whole=(do let v <- whole; bM e.pos; Qe [v] (truthy v)):=by intro _; rfl):PT X e (tB t):=by
 intro pins s σ H Q I hw
 refine isTrue_plain (Fq (h pins s σ H _ I hw) λv s1 ⟨x,H1,I1,r1,q1⟩=>?_) (he _)
 w_pre i4
variable{tA tB':TT}{Ie:List Expr}
def JP(t u:TT):TT:=λσ H Q=>t σ H λc H1=>if c=true then u σ H1 Q else Q false H1
def MB(t u:TT):TT:=λσ H Q=>t σ H λc H1=>if c=true then Q true H1 else u σ H1 Q
def KB(t:TT):TT:=λσ H Q=>t σ H λc H1=>Q (!c) H1
theorem V2(ha:PT X a tA):PW X (.BoolOp .And [a] pos) tA:=by
 w_pre j9
 refine isTrue_and (Fq (ha pins s σ H Q I h) λc s1 e=>?_)
 cases c with
 | true=>exact isTrue_and_nil e
 | false=>exact e
theorem AV(ha:PT X a tA):PW X (.BoolOp .Or [a] pos) tA:=by
 w_pre j9
 refine isTrue_or (Fq (ha pins s σ H Q I h) λc s1 e=>?_)
 cases c with
 | false=>exact isTrue_or_nil e
 | true=>exact e
theorem DJ(ha:PT X a tA)(hb:PW X (.BoolOp .And (b::Ie) pos) tB'):PW X (.BoolOp .And (a::b::Ie) pos) (JP tA tB'):=by
 w_pre j9
 refine isTrue_and (Fq (ha pins s σ H _ I h) λc s1 ⟨H1,I1,q1⟩=>?_)
 cases c with
 | true=>exact hb wh pins s1 σ H1 Q I1 q1
 | false=>exact ⟨H1,I1,q1⟩
theorem GQ(ha:PT X a tA)(hb:PW X (.BoolOp .Or (b::Ie) pos) tB'):PW X (.BoolOp .Or (a::b::Ie) pos) (MB tA tB'):=by
 w_pre j9
 refine isTrue_or (Fq (ha pins s σ H _ I h) λc s1 ⟨H1,I1,q1⟩=>?_)
 cases c with
 | true=>exact ⟨H1,I1,q1⟩
 | false=>exact hb wh pins s1 σ H1 Q I1 q1
theorem DZ(ha:PT X a tA):PT X (.UnaryOp .Not a pos) (KB tA):=by
 w_pre t7
 exact isTrue_not (ha pins s σ H (λc H1=>Q (!c) H1) I h)
def GF(ta tb:TE):TE:=λσ H Q=>ta σ H λx H1=>∃c,x=.bl c/\if c=true then tb σ H1 Q else Q (.bl false) H1
theorem DN{op}{t:TE}(h:PE X a t):PE X (.BoolOp op [a] pos) t:=λpins s σ H Q I hw=>BoolOp_one (h pins s σ H Q I hw)
theorem AN(ha:PE X a ta)(hb:PE X (.BoolOp .And (b::Ie) pos) tb):PE X (.BoolOp .And (a::b::Ie) pos) (GF ta tb):=by
 w_pre t7
 refine BoolOp_and (Fq (ha pins s σ H _ I h) λv s1 ⟨x,H1,I1,r1,q1⟩=>?_)
 obtain ⟨c,rfl,q1⟩:=q1
 cases r1
 refine Jn ?_
 cases c with
 | true=>exact hb pins s1 σ H1 Q I1 q1
 | false=>exact ⟨.bl false,H1,I1,rfl,q1⟩
def LM(t:TT)(ta tb:TE):TE:=λσ H Q=>t σ H λc H1=>if c=true then ta σ H1 Q else tb σ H1 Q
theorem j3{c:Expr}(hc:PT X c tA)(ha:PE X a ta)(hb:PE X b tb):PE X (.IfExp c a b pos) (LM tA ta tb):=by
 w_pre t7
 refine wpAny_IfExp (Fq (hc pins s σ H _ I h) λd s1 ⟨H1,I1,q1⟩=>?_)
 cases d with
 | true=>exact ha pins s1 σ H1 Q I1 q1
 | false=>exact hb pins s1 σ H1 Q I1 q1
end
def Mp(K:PySem.W.Frag)(H:Hp)(a:Addr)(xs:List V):Prop :=
 Rd H a (.lst xs) \/
  ∃(o:Obj) (its:Array Value) (n:Nat),K.lookup a=some o/\o.cls=.type "list" /\ o.dict=none/\o.data=.seq its n/\its.size<=Ay/\Gj xs its.toList
def Rq(K:PySem.W.Frag)(H:Hp)(a:Addr)(xs:List V):Prop :=
 Rd H a (.tup xs) \/
  ∃(o:Obj) (its:Array Value) (n:Nat),K.lookup a=some o/\o.cls=.type "tuple" /\ o.data=.seq its n/\its.size<=Ay/\Gj xs its.toList
def KA:Value->Option V
 | .none=>some .non
 | .bool b=>some (.bl b)
 | .int i _=>some (.int i)
 | .str x _=>some (.str x)
 | .bytes b _=>some (.byt b)
 | .float b _=>some (.flt b)
 | .ref a=>some (.ref a)
 | .type n=>some (.ty n)
 | _=>none
theorem RelV.abs{x:V}{u:Value}(r:RelV x u):KA u=some x:=by
 cases x with
 | non=>cases r; rfl
 | bl _=>cases r; rfl
 | int _=>obtain ⟨t,rfl⟩:=r; rfl
 | str _=>obtain ⟨t,rfl⟩:=r; rfl
 | byt _=>obtain ⟨t,rfl⟩:=r; rfl
 | flt _=>obtain ⟨t,rfl⟩:=r; rfl
 | ref _=>cases r; rfl
 | ty _=>cases r; rfl
theorem RelV.inj{x y:V}{u:Value}(r:RelV x u)(q:RelV y u):x=y:=Ca (r.abs.symm.trans q.abs)
theorem Gj.inj:∀{xs ys:List V} {us:List Value},Gj xs us->Gj ys us->xs=ys
 | _,_,_,.nil,.nil=>rfl
 | _,_,_,.cons r t,.cons r' t'=>by rw[r.inj r',Gj.inj t t']
section
variable{X:Cx}{pins:List (Addr×Obj)}{σ:St}{H:Hp}{s:Ai}{a:Addr}{xs ys:List V}
theorem Mp.of{K:PySem.W.Frag}(h:H a=some (.lst xs)):Mp K H a xs:=.inl (.inl h)
theorem Rq.of{K:PySem.W.Frag}(h:H a=some (.tup xs)):Rq K H a xs:=.inl (.inl h)
theorem Inv.list(I:Inv X pins σ H s)(h:Mp X.K H a xs):∃its:List Value,Gj xs its/\PlainL s.heap a its.toArray/\xs.length<=Ay:=by
 rcases h with h | ⟨o,its,n,hk,hc,hd,hs,hz,r⟩
 ·obtain ⟨z,its,n,r,e⟩:=h.ok I.hok
  exact ⟨its,r,⟨_,n,e,rfl,rfl,rfl⟩,z⟩
 ·refine ⟨its.toList,r,⟨o,n,I.kIn a o hk,hc,hd,by simpa using hs⟩,?_⟩
  have e:=r.length
  simp only[Am] at e
  omega
theorem Inv.tuple(I:Inv X pins σ H s)(h:Rq X.K H a xs):∃its:List Value,Gj xs its/\IsTup s.heap a its.toArray/\xs.length<=Ay:=by
 rcases h with h | ⟨o,its,n,hk,hc,hs,hz,r⟩
 ·obtain ⟨z,its,r,p⟩:=h.ok I.hok
  exact ⟨its,r,p,z⟩
 ·refine ⟨its.toList,r,⟨o,I.kIn a o hk,hc,n,by simpa using hs⟩,?_⟩
  have e:=r.length
  simp only[Am] at e
  omega
theorem Inv.list_inj(I:Inv X pins σ H s)(h:Mp X.K H a xs)(h':Mp X.K H a ys):xs=ys:=by
 obtain ⟨its,r,⟨o,n,e,_,_,d⟩,_⟩:=I.list h
 obtain ⟨its',r',⟨o',n',e',_,_,d'⟩,_⟩:=I.list h'
 rw[e] at e'; cases e'
 rw[d] at d'
 injection d' with d1 _
 have : its=its':=by simpa using congrArg Array.toList d1
 subst this
 exact r.inj r'
theorem Inv.tuple_inj(I:Inv X pins σ H s)(h:Rq X.K H a xs)(h':Rq X.K H a ys):xs=ys:=by
 obtain ⟨its,r,⟨o,e,_,n,d⟩,_⟩:=I.tuple h
 obtain ⟨its',r',⟨o',e',_,n',d'⟩,_⟩:=I.tuple h'
 rw[e] at e'; cases e'
 rw[d] at d'
 injection d' with d1 _
 have : its=its':=by simpa using congrArg Array.toList d1
 subst this
 exact r.inj r'
end
abbrev Cx.wish(X:Cx)(E:Value->Ai->Prop):Cx:={ X with xe:=E }
abbrev Cx.nox(X:Cx):Cx:=X.wish λ_ _=>False
theorem Cx.Ok.wish{X:Cx}(ok:X.Ok)(E:Value->Ai->Prop):(X.wish E).Ok :=
 ⟨ok.mod,ok.kind,ok.glob,ok.blt,ok.above,ok.inj,ok.has,ok.cab,ok.hd,ok.frames,ok.stk,ok.exf,ok.bs,ok.bsz,ok.noex,ok.exfs,ok.funs,ok.frf⟩
theorem Cx.Ok.unwish{X:Cx}{E:Value->Ai->Prop}(ok:(X.wish E).Ok):X.Ok :=
 ⟨ok.mod,ok.kind,ok.glob,ok.blt,ok.above,ok.inj,ok.has,ok.cab,ok.hd,ok.frames,ok.stk,ok.exf,ok.bs,ok.bsz,ok.noex,ok.exfs,ok.funs,ok.frf⟩
section
variable{X:Cx}{pins:List (Addr×Obj)}{σ:St}{H:Hp}{s:Ai}{E:Value->Ai->Prop}
theorem Inv.wish(I:Inv X pins σ H s)(E:Value->Ai->Prop):Inv (X.wish E) pins σ H s:=⟨I.ok.wish E,I.os,I.bare,I.base,I.loc,I.cell,I.free,I.freeC,I.pin,I.hok,I.len⟩
theorem Inv.unwish(I:Inv (X.wish E) pins σ H s):Inv X pins σ H s:=⟨I.ok.unwish,I.os,I.bare,I.base,I.loc,I.cell,I.free,I.freeC,I.pin,I.hok,I.len⟩
theorem SP.unwish{D:Ends}{f:Flow}{s':Ai}(h:SP (X.wish E) pins D f s'):SP X pins D f s':=by
 cases f with
 | next=>obtain ⟨σ',H',I,q⟩:=h; exact ⟨σ',H',I.unwish,q⟩
 | brk=>obtain ⟨σ',H',I,q⟩:=h; exact ⟨σ',H',I.unwish,q⟩
 | cont=>obtain ⟨σ',H',I,q⟩:=h; exact ⟨σ',H',I.unwish,q⟩
 | ret u=>obtain ⟨v,σ',H',I,r,q⟩:=h; exact ⟨v,σ',H',I.unwish,r,q⟩
theorem vW.nox{st:List Stmt}{t:TS}(h:vW X.nox st t):vW X st t:=λpins s σ H D I hw =>
 Cu (h pins s σ H D (I.wish _) hw) (λ_ _ q=>q.unwish) λ_ _ z=>Le z
end
section
variable{X:Cx}{st:Stmt}{Ie:List Stmt}{t u:TS}{e:Expr}{te:TE}{pos:Pos}
def GN:TS:=λD σ H=>D.nx σ H
def IZ(t u:TS):TS:=λD σ H=>t { D with nx:=u D } σ H
theorem lV:vW X [] GN:=λ_ _ σ H _ I h=>wpAny_execs_nil ⟨σ,H,I,h⟩
theorem Mg(h1:PS X st t)(h2:vW X Ie u):vW X (st::Ie) (IZ t u):=by
 w_pre i8
 refine wpAny_execs_cons (Fq (h1 pins s σ H { D with nx:=u D } I h) λf s1 q=>?_)
 cases f with
 | next =>
  obtain ⟨σ',H',I',q⟩:=q
  exact h2 pins s1 σ' H' D I' q
 | ret v=>exact q
 | brk=>exact q
 | cont=>exact q
theorem Vn(h1:PS X st t):vW X [st] t:=by
 w_pre i8
 refine wpAny_execs_cons (Fq (h1 pins s σ H D I h) λf s1 q=>?_)
 cases f with
 | next=>exact wpAny_execs_nil q
 | ret v=>exact q
 | brk=>exact q
 | cont=>exact q
theorem Inv.quiet{pins:List (Addr×Obj)}{σ:St}{H:Hp}{s:Ai}(I:Inv X pins σ H s):interactive X.env=false:=by simp [interactive,I.ok.kind]
def HM(te:TE):TS:=λD σ H=>te σ H λ_ H1=>D.nx σ H1
theorem tT(he:PE X e te)(hs:Oa e none pos.line X.env=pure false:=by rfl):PS X (.Expr e pos) (HM te):=by
 w_pre i8
 exact wpAny_Expr_any (Fq (he pins s σ H _ I h) λv s1 ⟨x,H1,I1,r1,q1⟩=>⟨σ,H1,I1,q1⟩) I.quiet hs
def JH(te:TE):TS:=λD σ H=>te σ H D.rt
theorem Zu(he:PE X e te):PS X (.Return (some e) pos) (JH te):=by
 w_pre i8
 exact wpAny_Return_some (Fq (he pins s σ H _ I h) λv s1 ⟨x,H1,I1,r1,q1⟩=>⟨x,σ,H1,I1,r1,q1⟩)
def KG(c:TT)(t u:TS):TS:=λD σ H=>c σ H λb H1=>if b=true then t D σ H1 else u D σ H1
theorem n6{c:Expr}{a b:List Stmt}{tc:TT}(hc:PT X c tc)(ha:vW X a t)(hb:vW X b u):PS X (.If c a b pos) (KG tc t u):=by
 w_pre i8
 refine wpAny_If (Fq (hc pins s σ H _ I h) λd s1 ⟨H1,I1,q1⟩=>?_)
 cases d with
 | true=>exact ha pins s1 σ H1 D I1 q1
 | false=>exact hb pins s1 σ H1 D I1 q1
end
abbrev TG:=V->St->Hp->(St->Hp->Prop)->Prop
abbrev U2:=List V->St->Hp->(St->Hp->Prop)->Prop
def PG(X:Cx)(target:Expr)(t:TG):Prop :=
 ∀(pins:List (Addr×Obj)) (s:Ai) (σ:St) (H:Hp) (v:V) (u:Value) (Q:St->Hp->Prop),Inv X pins σ H s->RelV v u->t v σ H Q ->
  wpAny (model X.prog X.w) X.A (Nr target X.env u) (λ_ s'=>∃σ' H',Inv X pins σ' H' s'/\Q σ' H') X.xe s
def AZ(X:Cx)(ts:List Expr)(t:U2):Prop :=
 ∀(pins:List (Addr×Obj)) (s:Ai) (σ:St) (H:Hp) (vs:List V) (us:List Value) (Q:St->Hp->Prop),Inv X pins σ H s->Gj vs us->t vs σ H Q ->
  wpAny (model X.prog X.w) X.A (assignInOrder ((Mb ts X.env).map (·.2)) us) (λ_ s'=>∃σ' H',Inv X pins σ' H' s'/\Q σ' H') X.xe s
abbrev E5:=V->V->V->Hp->(Hp->Prop)->Prop
def BA(X:Cx)(t:E5):Prop :=
 ∀(pins:List (Addr×Obj)) (s:Ai) (σ:St) (H:Hp) (o i v:V) (ov iv u:Value) (Q:Hp->Prop),Inv X pins σ H s->RelV o ov->RelV i iv->RelV v u->t o i v H Q ->
  wpAny (model X.prog X.w) X.A (setItem ov iv u) (λ_ s'=>∃H',Inv X pins σ H' s'/\Q H') X.xe s
abbrev IS:=V->V->Hp->VK->Prop
def KQ(X:Cx)(op:Operator)(t:IS):Prop :=
 ∀(pins:List (Addr×Obj)) (s:Ai) (σ:St) (H:Hp) (x y:V) (v u:Value) (Q:VK),Inv X pins σ H s->RelV x v->RelV y u->t x y H Q ->
  wpAny (model X.prog X.w) X.A (inplaceOp op v u) (EP X pins σ Q) X.xe s
section
variable{X:Cx}{pos:Pos}
def Pj(i:Nat):TG:=λv σ H Q=>Q (σ.set i (some v)) H
theorem Kc{i:Nat}{x:Str}(hN:X.N.Nodup)(hi:X.N[i]? = some x)(hx:Loc X.env.scope x)(hf:X.fn x=true\/X.env.scope.names.lookup x=some .local:=by first | exact .inl rfl | exact .inr rfl | assumption):PG X (.Name x pos) (Pj i):=by
 intro pins s σ H v u Q I r h
 exact wpAny_assign_Name (mY I hN hi hx r (λs' I'=>⟨_,H,I',h⟩) hf)
def r9:U2:=λvs σ H Q=>vs=[]/\Q σ H
def Yl(t:TG)(u:U2):U2:=λvs σ H Q=>∃v r,vs=v::r/\t v σ H λσ' H'=>u r σ' H' Q
theorem Ys:AZ X [] r9:=by
 intro pins s σ H vs us Q I r h
 obtain ⟨e,h⟩:=h
 subst e
 cases r
 exact assignInOrder_nil ⟨σ,H,I,h⟩
theorem Mk{e:Expr}{es:List Expr}{t:TG}{u:U2}(h1:PG X e t)(h2:AZ X es u)(hs:(Mb (e::es) X.env).map (·.2)=Nr e X.env::(Mb es X.env).map (·.2):=by rfl):AZ X (e::es) (Yl t u):=by
 intro pins s σ H vs us Q I r h
 obtain ⟨v,vr,e1,h⟩:=h
 subst e1
 cases r with
 | cons r rr =>
  rw[hs]
  refine assignInOrder_cons (Fq (h1 pins s σ H _ _ _ I r h) λ_ s1 ⟨σ1,H1,I1,q1⟩=>?_)
  exact h2 pins s1 σ1 H1 _ _ Q I1 rr q1
def o4(K:PySem.W.Frag)(n:Nat)(t:U2):TG:=λv σ H Q=>∃a xs,v=.ref a/\Rq K H a xs/\xs.length=n/\t xs σ H Q
theorem cW{es:List Expr}{k:Nat}{t:U2}{n:Nat}(hc:X.calm=true)(h:AZ X es t)(hn:(Mb es X.env).length=n:=by rfl)(hst:(Mb es X.env).findIdx? (·.1)=none:=by rfl):PG X (.Tuple es k pos) (o4 X.K n t):=by
 intro pins s σ H v u Q I r hw
 obtain ⟨a,xs,e1,hq,hl,hw⟩:=hw
 subst e1
 cases r
 obtain ⟨its,rv,ht,hz⟩:=I.tuple hq
 refine assign_Tuple_tuple (I.ok.hd hc) ht (by simp [hn,<- hl,rv.length]) hst λh' hx=>?_
 have I1:Inv X pins σ H { s with heap:=h' }:=I.kept (t':=s.toks) λb o e=>hx b o (Bm (Ar e)) e
 exact h pins _ σ H xs _ Q I1 (by simpa using rv) hw
def IY(to ti:TE)(t:E5):TG:=λv σ H Q=>to σ H λo H1=>ti σ H1 λi H2=>t o i v H2 λH3=>Q σ H3
theorem zL{o i:Expr}{to ti:TE}{t:E5}(ho:PE X o to)(hi:PE X i ti)(hs:BA X t)
  (ha:∀v,Nr (.Subscript o i pos) X.env v=(do
   let ov <- Qe [v] (eval o X.env)
   let iv <- Qe [v,ov] (eval i X.env)
   bM pos
   Qe [v,ov,iv] (setItem ov iv v)
   release [v,ov,iv] []):=by intro _; rfl):PG X (.Subscript o i pos) (IY to ti t):=by
 intro pins s σ H v u Q I r h
 rw[ha]
 refine Aa (Ct (Fq (ho pins s σ H _ I h) λov s1 ⟨x,H1,I1,r1,q1⟩=>?_))
 refine Aa (Ct (Fq (hi pins s1 σ H1 _ I1 q1) λiv s2 ⟨y,H2,I2,r2,q2⟩=>?_))
 refine Aa (Hk (Aa (Ct (Fq (hs pins s2 σ H2 x y v ov iv u _ I2 r1 r2 r q2) λ_ s3 ⟨H3,I3,q3⟩=>?_))))
 exact wpAny_release ⟨σ,H3,I3,q3⟩
def E6(te:TE)(g:TG):TS:=λD σ H=>te σ H λx H1=>g x σ H1 D.nx
theorem C9{tg e:Expr}{te:TE}{g:TG}(he:PE X e te)(hg:PG X tg g)(hs:swapsWithSole [tg] e pos.line X.env=pure false:=by rfl)(hw:swappedStores [tg] e X.env=pure none:=by rfl)(h1:(Mb [tg] X.env).map (·.2)=[Nr tg X.env]:=by rfl):PS X (.Assign [tg] e pos) (E6 te g):=by
 w_pre i8
 refine wpAny_Assign_stores (Fq (he pins s σ H _ I h) λv s1 ⟨x,H1,I1,r1,q1⟩=>?_) hs hw
 rw[h1]
 exact Fq (hg pins s1 σ H1 x v _ I1 r1 q1) λ_ s2 q=>q
theorem aG{i:Nat}{x:Str}{e:Expr}{te:TE}{pos':Pos}(hN:X.N.Nodup)(hi:X.N[i]? = some x)(hx:Loc X.env.scope x)(he:PE X e te)(hs:Oa e (some (.Name x pos')) pos.line X.env=pure false:=by rfl)(hf:X.fn x=true\/X.env.scope.names.lookup x=some .local:=by first | exact .inl rfl | exact .inr rfl | assumption):PS X (.Assign [.Name x pos'] e pos) (E6 te (Pj i)):=by
 w_pre i8
 refine wpAny_Assign_Name (Fq (he pins s σ H _ I h) λv s1 ⟨y,H1,I1,r1,q1⟩=>?_) hs
 exact mY I1 hN hi hx r1 (λs2 I2=>⟨_,H1,I2,q1⟩) hf
def GZ(to ti te:TE)(tget:V->V->Hp->VK->Prop)(tip:IS)(tset:E5):TS:=λD σ H=>to σ H λo H1=>ti σ H1 λi H2=>tget o i H2 λx H3=>te σ H3 λy H4=>tip x y H4 λz H5=>tset o i z H5 λH6=>D.nx σ H6
def GK(X:Cx)(t:V->V->Hp->VK->Prop):Prop :=
 ∀(pins:List (Addr×Obj)) (s:Ai) (σ:St) (H:Hp) (o i:V) (ov iv:Value) (Q:VK),Inv X pins σ H s->RelV o ov->RelV i iv->t o i H Q ->
  wpAny (model X.prog X.w) X.A (Rr ov iv) (EP X pins σ Q) X.xe s
theorem S6{o i e:Expr}{to ti te:TE}{tget:V->V->Hp->VK->Prop}{tip:IS}{tset:E5}{op:Operator}{tpos:Pos}(ho:PE X o to)(hi:PE X i ti)(hg:GK X tget)(he:PE X e te)(hp:KQ X op tip)(hs:BA X tset)(ha:∀ov iv new,augStore i ov iv new=(do Qe [new,ov,iv] (setItem ov iv new); release [new,ov,iv] []; pure .next):=by intros; rfl):PS X (.AugAssign (.Subscript o i tpos) op e pos) (GZ to ti te tget tip tset):=by
 w_pre i8
 refine wpAny_AugAssign_SubscriptAny (Fq (ho pins s σ H _ I h) λov s1 ⟨x1,H1,I1,r1,q1⟩=>?_) ha
 refine Fq (hi pins s1 σ H1 _ I1 q1) λiv s2 ⟨x2,H2,I2,r2,q2⟩=>?_
 refine Fq (hg pins s2 σ H2 x1 x2 ov iv _ I2 r1 r2 q2) λold s3 ⟨x3,H3,I3,r3,q3⟩=>?_
 refine Fq (he pins s3 σ H3 _ I3 q3) λv s4 ⟨x4,H4,I4,r4,q4⟩=>?_
 refine Fq (hp pins s4 σ H4 x3 x4 old v _ I4 r3 r4 q4) λnew s5 ⟨x5,H5,I5,r5,q5⟩=>?_
 exact Fq (hs pins s5 σ H5 x1 x2 x5 ov iv new _ I5 r1 r2 r5 q5) λ_ s6 ⟨H6,I6,q6⟩=>⟨σ,H6,I6,q6⟩
def ME(f:Int->Int->Int):IS:=λx y H Q=>∃i j,x=.int i/\y=.int j/\Q (.int (f i j)) H
theorem AR:KQ X .Add (ME λi j=>i+j):=by
 intro pins s σ H x y v u Q I r1 r2 h
 obtain ⟨i,j,e1,e2,q⟩:=h
 subst e1; subst e2
 obtain ⟨t,rfl⟩:=r1
 obtain ⟨t',rfl⟩:=r2
 exact iadd_int ⟨.int _,H,I.tok _,⟨_,rfl⟩,q⟩
end
structure It where
 go:Nat->Hp->Prop
 yld:Nat->Hp->V->Hp->Prop
 stop:Nat->Hp->Prop
def La(X:Cx)(pins:List (Addr×Obj))(H:Hp)(b:Addr):Prop :=
 H b=none/\b≠X.env.locals/\b∉X.fs/\(b∈X.ex\/X.s₀.heap.objs.size<=b)/\(∀x c,X.env.cells.lookup x=some c->c≠b)/\∀p∈X.pn++pins,p.1≠b
theorem Inv.fpOk{X:Cx}{pins:List (Addr×Obj)}{σ:St}{H H':Hp}{s:Ai}{b:Addr}(I:Inv X pins σ H s)(hb:s.heap.objs.size<=b)(hn:H' b=none):La X pins H' b:=by
 refine ⟨hn,Qu (Cj I.lt hb),I.nofs hb,.inr (Cb I.sz hb),λx c e z=>?_,λp hp z=>?_⟩
 ·obtain ⟨v,q⟩:=I.cell x c e
  exact absurd (Cj q.lt (by rw[z]; exact hb)) (Fc _)
 ·exact absurd (Cj (Ar (I.pin p hp).1) (by rw[z]; exact hb)) (Fc _)
structure Turn(P:Bk)(w:World)(K:PySem.W.Frag)(tg:Expr)(J:It)(fp:List Addr)(it:Addr)(tn:Nat->Heap->Prop):Prop where
 mem:it∈fp
 obj:∀i h,tn i h->∀b∈fp,∃o,h.get? b=some o/\∀v,o.data≠.cell v
 keep:∀i h h',tn i h->(∀b∈fp,∀o,h.get? b=some o->h'.get? b=some o)->tn i h'
 item:∀(X:Cx),X.prog=P->X.w=w->X.K=K->X.calm=true->∀(i:Nat) (pins:List (Addr×Obj)) (s:Ai) (σ:St) (H:Hp) (E:Value->Ai->Prop),Inv X pins σ H s->(∀b∈fp,La X pins H b)->tn i s.heap->J.go i H ->
  wpAny (model P w) X.A (Ji (.ref it)) (λr s1=>∃u,r=some u /\
   wpAny (model P w) X.A (Hz tg (.ref it) u) (λ_ s2=>∃x H',Inv X pins σ H' s2/\RelV x u/\J.yld i H x H'/\tn (i+1) s2.heap/\∀b∈fp,H' b=none) E s1) E s
 done:∀(X:Cx),X.prog=P->X.w=w->X.K=K->X.calm=true->∀(i:Nat) (pins:List (Addr×Obj)) (s:Ai) (σ:St) (H:Hp) (E:Value->Ai->Prop),Inv X pins σ H s->(∀b∈fp,La X pins H b)->tn i s.heap->J.stop i H ->
  wpAny (model P w) X.A (Ji (.ref it)) (λr s1=>r=none/\Inv X pins σ H s1) E s
 self:∀(A:Ci) (i:Nat) (s:Ai) (Q:Value->Ai->Prop) (E:Value->Ai->Prop),tn i s.heap->Q (.ref it) s->wpAny (model P w) A (pyIter (.ref it)) Q E s
abbrev TI:=St->Hp->(It->Hp->Prop)->Prop
def KS(X:Cx)(pins:List (Addr×Obj))(σ:St)(tg:Expr)(R:It->Hp->Prop)(itv:Value)(s2:Ai):Prop :=
 ∃(it:Addr) (fp:List Addr) (tn:Nat->Heap->Prop) (J:It) (H':Hp),itv=.ref it/\Inv X pins σ H' s2/\Turn X.prog X.w X.K tg J fp it tn/\tn 0 s2.heap/\(∀b∈fp,La X pins H' b)/\R J H'
def PI(X:Cx)(tg iter:Expr)(wi:TI):Prop :=
 ∀(pins:List (Addr×Obj)) (s:Ai) (σ:St) (H:Hp) (R:It->Hp->Prop),Inv X pins σ H s->wi σ H R ->
  wpAny (model X.prog X.w) X.A (eval iter X.env) (λv s1=>wpAny (model X.prog X.w) X.A (pyIter v) (KS X pins σ tg R) X.xe s1) X.xe s
theorem A4{M:Model}{A:Ci}{E:Value->Ai->Prop}{s:Ai}{tg:Expr}{it:Addr}{u:Value}{o:Obj}{n:String}{vs:Array Value}{Q:Unit->Ai->Prop}(ho:s.heap.get? it=some o)(hc:o.cls=.type n)(hd:o.data=.fields vs)(hn:["enumerate", "zip", "dict_itemiterator", "dict_reverseitemiterator", "odict_iterator", "itertools.zip_longest", "itertools.pairwise"].contains n=false)(hQ:Q () s):wpAny M A (Hz tg (.ref it) u) Q E s:=by
  unfold Hz
  cases tg <;> first
    | exact Ae hQ
    | (cases u <;> first
        | exact Ae hQ
        | (refine Aa (fG ho ?_)
           rw[hc,hd]
           show wpAny M A (if (["enumerate", "zip", "dict_itemiterator", "dict_reverseitemiterator", "odict_iterator", "itertools.zip_longest", "itertools.pairwise"].contains n && vs[0]? == some (Ff _))=true then _ else _) Q E s
           rw[if_neg (by intro h; rw[hn,Bool.false_and] at h; cases h)]
           exact Ae hQ))
def JO(K:PySem.W.Frag)(a:Addr):It :=
 ⟨λi H=>∃xs x,Mp K H a xs/\xs[i]? = some x,λi H x H'=>H'=H/\∀xs,Mp K H a xs->xs[i]? = some x,λi H=>∃xs,Mp K H a xs/\xs.length<=i⟩
def JL(K:PySem.W.Frag)(a:Addr):It :=
 ⟨λi H=>∃xs x,Rq K H a xs/\xs[i]? = some x,λi H x H'=>H'=H/\∀xs,Rq K H a xs->xs[i]? = some x,λi H=>∃xs,Rq K H a xs/\xs.length<=i⟩
def GV(lo:Int)(n:Nat):It:=⟨λi _=>i<n,λi H x H'=>H'=H/\x=.int (lo+i),λi _=>n<=i⟩
theorem yF{P:Bk}{w:World}{K:PySem.W.Frag}{tg:Expr}(a it:Addr):Turn P w K tg (JO K a) [it] it (λi h=>h.IsListIter it a i) where
 mem:=by simp
 obj:=λi h st b hb=>by
  w_pre u1
 keep:=λi h h' st k=>st.at λo e=>k it (by simp) o e
 item:=by
  w_pre s0
  w_pre r10
  refine wpAny_pyNext_list_item st p.isList (x:=u) (by simpa using hu) λh' st' sb=>?_
  w_pre a5
  exact ⟨u,rfl,A4 (s:={ s with heap:=h' }) e c d (by decide) ⟨x,H,I1,ru,⟨rfl,λys hy=>by rw[I.list_inj hy hq]; exact hx⟩,st',λb hb=>(hf b hb).1⟩⟩
 done:=by
  w_pre q1
  w_pre j6
  exact wpAny_pyNext_list_end (I.ok.hd hc) st p.isList (by simp; omega) λh' eb=>⟨rfl,I.turned (t':=s.toks) (λb o hb e=>eb b o hb e) f0 f1 f3 f4 f5⟩
 self:=λ_ _ _ _ _ st h=>wpAny_pyIter_listiter st h
theorem rW{P:Bk}{w:World}{K:PySem.W.Frag}{tg:Expr}(a it:Addr):Turn P w K tg (JL K a) [it] it (λi h=>h.IsTupleIter it a i) where
 mem:=by simp
 obj:=λi h st b hb=>by
  w_pre u1
 keep:=λi h h' st k=>st.at λo e=>k it (by simp) o e
 item:=by
  w_pre r0
  w_pre r10
  refine K7 st (show s.heap.IsTuple a its.toArray from p) (x:=u) (by simpa using hu) λh' st' sb=>?_
  w_pre a5
  exact ⟨u,rfl,A4 (s:={ s with heap:=h' }) e c d (by decide) ⟨x,H,I1,ru,⟨rfl,λys hy=>by rw[I.tuple_inj hy hq]; exact hx⟩,st',λb hb=>(hf b hb).1⟩⟩
 done:=by
  w_pre p1
  w_pre j6
  exact L0 (I.ok.hd hc) st (show s.heap.IsTuple a its.toArray from p) (by simp; omega) λh' eb=>⟨rfl,I.turned (t':=s.toks) (λb o hb e=>eb b o hb e) f0 f1 f3 f4 f5⟩
 self:=λ_ _ _ _ _ st h=>wpAny_pyIter_tupleiter st h
theorem qW{P:Bk}{w:World}{K:PySem.W.Frag}{tg:Expr}(it:Addr)(lo:Int)(n:Nat):Turn P w K tg (GV lo n) [it] it (λi h=>IsRangeIter h it (lo+(i:Nat) * 1) ((n:Int) - (i:Nat)) 1) where
 mem:=by simp
 obj:=λi h st b hb=>by
  have e:b=it:=by simpa using hb
  subst e
  exact ⟨_,st,λv z=>by
   have z':Data.fields _=Data.cell v:=z
   cases z'⟩
 keep:=λi h h' st k=>k it (by simp) _ st
 item:=by
  w_pre x2
  have W:=Walks.range (prog:=X.prog) (w:=X.w) (I.ok.hd hc) it lo 1 n
  refine W.item i s _ _ hg st λv h' tk hv st' kk=>?_
  obtain ⟨t,rfl⟩:=hv
  have I1:Inv X pins σ H { s with heap:=h',toks:=tk }:=I.turned (λb o hb e=>kk b o (by simpa using hb) e) f0 f1 f3 f4 f5
  refine ⟨_,rfl,A4 (s:={ s with heap:=h',toks:=tk }) (n := "range_iterator") st' rfl rfl (by decide) ⟨.int (lo+i),H,I1,⟨t,?_⟩,⟨rfl,rfl⟩,st',λb hb=>(hf b hb).1⟩⟩
  rw[Int.mul_one]
 done:=by
  w_pre x2
  exact wpAny_pyNext_range_end (I.ok.hd hc) st (by have : n<=i:=hg; omega) λh' eb=>⟨rfl,I.turned (t':=s.toks) (λb o hb e=>eb b o hb e) f0 f1 f3 f4 f5⟩
 self:=λ_ _ _ _ _ st h=>wpAny_pyIter_rangeiter st h
section
variable{X:Cx}{tg:Expr}
def GS(K:PySem.W.Frag)(tl:TE):TI:=λσ H R=>tl σ H λx H1=>∃a,x=.ref a/\(∃xs,Mp K H1 a xs)/\R (JO K a) H1
def JG(K:PySem.W.Frag)(tl:TE):TI:=λσ H R=>tl σ H λx H1=>∃a,x=.ref a/\(∃xs,Rq K H1 a xs)/\R (JL K a) H1
theorem R9{l:Expr}{tl:TE}(hl:PE X l tl):PI X tg l (GS X.K tl):=by
 w_pre w0
 obtain ⟨its,rv,p,hz⟩:=I1.list hq
 refine iW p.isList ?_
 refine ⟨s1.heap.objs.size,[s1.heap.objs.size],_,_,H1,rfl,I1.kept (t':=s1.toks) λb o e=>Ag _ e,yF a _,⟨_,Au _ rfl,rfl,rfl⟩,λb hb=>?_,q⟩
 w_pre b3
theorem EF{l:Expr}{tl:TE}(hl:PE X l tl):PI X tg l (JG X.K tl):=by
 w_pre w0
 obtain ⟨its,rv,p,hz⟩:=I1.tuple hq
 refine Nq (show s1.heap.IsTuple a its.toArray from p) ?_
 refine ⟨s1.heap.objs.size,[s1.heap.objs.size],_,_,H1,rfl,I1.kept (t':=s1.toks) λb o e=>Ag _ e,rW a _,⟨_,Au _ rfl,rfl,rfl⟩,λb hb=>?_,q⟩
 w_pre b3
theorem x6{pins:List (Addr×Obj)}{σ:St}{H:Hp}{s:Ai}{R:It->Hp->Prop}{E:Value->Ai->Prop}{lo hi:Int}{t u v:Tok}{tk:Nat}(I:Inv X pins σ H s)(h1:-(2 ^ 62)<=lo)(h2:lo<2 ^ 62)(h3:-(2 ^ 62)<=hi)(h4:hi<2 ^ 62)(q:R (GV lo (hi - lo).toNat) H):wpAny (model X.prog X.w) X.A (pyIter (.ref s.heap.objs.size)) (KS X pins σ tg R) E { s with heap:=s.heap.push { cls:=.type "range",data:=.fields #[.int lo t,.int hi u,.int 1 v] },toks:=tk }:=by
 refine wpAny_pyIter_range (IsRange.new ..) (small_one h1 h2 h3 h4) ?_
 have I1:Inv X pins σ H { s with heap:=s.heap.push { cls:=.type "range",data:=.fields #[.int lo t,.int hi u,.int 1 v] },toks:=tk }:=I.kept λb o e=>Ag _ e
 refine ⟨(s.heap.push { cls:=.type "range",data:=.fields #[.int lo t,.int hi u,.int 1 v] }).objs.size,[(s.heap.push { cls:=.type "range",data:=.fields #[.int lo t,.int hi u,.int 1 v] }).objs.size],_,_,H,rfl,
  I1.kept (t':=tk) λb o e=>Ag _ e,qW _ lo (hi - lo).toNat,?_,λb hb=>?_,q⟩
 ·have e1:lo+((0:Nat):Int) * 1=lo:=by simp
  have e2:(((hi - lo).toNat:Nat):Int) - ((0:Nat):Int)=Lj lo hi 1:=by rw[rangeSize_one]; split <;> omega
  show IsRangeIter _ _ (lo+((0:Nat):Int) * 1) ((((hi - lo).toNat:Nat):Int) - ((0:Nat):Int)) 1
  rw[e1,e2]
  exact Au _ rfl
 ·have e:b=(s.heap.push { cls:=.type "range",data:=.fields #[.int lo t,.int hi u,.int 1 v] }).objs.size:=by simpa using hb
  subst e
  exact I1.fpOk (Aj _) (I1.hok.fresh (Aj _))
def FH(ta:TA):TI:=λσ H R=>ta σ H λvs H1=>∃j:Int,vs=[.int j] /\ -(2 ^ 62)<=j/\j<2 ^ 62/\R (GV 0 j.toNat) H1
theorem wD{a:Expr}{ta:TA}{p pos:Pos}(hg:Gl X "range")(hm:X.mg "range" = none)(ha:PA X [a] ta)(hs:Bj [a] X.env=[(false,eval a X.env)]:=by rfl):PI X tg (.Call (.Name "range" p) [a] [] pos) (FH ta):=by
 intro pins s σ H R I h
 refine Call_ (Ss I hg hm boot_range (Dz (Fq (ha pos pins s σ H _ I h) λus s1 ⟨vs,H1,I1,r1,q1⟩=>?_) hs rfl))
 obtain ⟨j,e,q1,q2,q⟩:=q1
 subst e
 cases r1 with
 | cons r rr =>
  cases rr
  obtain ⟨t,rfl⟩:=r
  exact call_range_1 (x6 I1 (by omega) (by omega) q1 q2 (by simpa using q))
def JW(wi:TI)(g:TG)(tb:TS):TS:=λD σ H=>wi σ H λJ H1=>∃W:Nat->Nat->St->Hp->Prop,(∃m,W 0 m σ H1)/\∀i m σ H,W i m σ H ->
 (J.stop i H/\D.nx σ H)\/(J.go i H/\∃N:St->Hp->Prop,(∀σ' H',N σ' H'->∃m',m'<m/\W (i+1) m' σ' H')/\∀x H',J.yld i H x H'->g x σ H' λσ2 H2=>tb { D with nx:=N,ct:=N,bk:=D.nx } σ2 H2)
def Of(fp:List Addr)(h:Heap):List (Addr×Obj):=fp.filterMap λb=>(h.get? b).map λo=>(b,o)
theorem Fm{fp:List Addr}{h:Heap}{b:Addr}{o:Obj}(hb:b∈fp)(e:h.get? b=some o):(b,o)∈Of fp h:=List.mem_filterMap.mpr ⟨b,hb,by rw[e]; rfl⟩
theorem wH{fp:List Addr}{h:Heap}{p:Addr×Obj}(hp:p∈Of fp h):p.1∈fp/\h.get? p.1=some p.2:=by
 obtain ⟨b,hb,e⟩:=aM.mp hp
 cases q:h.get? b with
 | none=>rw[q] at e; cases e
 | some o =>
  rw[q] at e
  have e':(b,o)=p:=Ca e
  subst e'
  exact ⟨hb,q⟩
theorem Inv.pinned{pins:List (Addr×Obj)}{σ:St}{H:Hp}{s:Ai}{fp:List Addr}(I:Inv X pins σ H s)(hf:∀b∈fp,La X pins H b)(ho:∀b∈fp,∃o,s.heap.get? b=some o/\∀v,o.data≠.cell v):Inv X (pins++Of fp s.heap) σ H s :=
 I.pins_of λp hp=>(Bc.mp hp).elim (λz=>I.pin p (Ah _ z)) λz=>by
  obtain ⟨hb,e⟩:=wH z
  obtain ⟨f0,f1,f2,_⟩:=hf p.1 hb
  obtain ⟨o,e',d⟩:=ho p.1 hb
  rw[e] at e'; cases e'
  exact ⟨e,f0,f1,f2,d⟩
theorem Inv.unpinned{pins pl:List (Addr×Obj)}{σ:St}{H:Hp}{s:Ai}(I:Inv X (pins++pl) σ H s):Inv X pins σ H s:=I.pins_of λp hp=>I.pin p (Ah _ (Ao _ hp))
theorem AA{iter:Expr}{body:List Stmt}{wi:TI}{g:TG}{tb:TS}{pos:Pos}(hp:PassesOwn (model X.prog X.w) X.A X.env X.xe)(hc:X.calm=true)(hi:PI X tg iter wi)(hg:PG X tg g)(hb:vW X body tb)(hs:∀x,Da iter X.env x=pure x:=by intro _; rfl):PS X (.For tg iter body [] pos) (JW wi g tb):=by
 w_pre i8
 refine wpAny_For (Fq (hi pins s σ H _ I h) λv s1 h1=>Fq h1 λitv s2 h2=>?_) hs
 obtain ⟨it,fp,tn,J,H2,e,I2,T,st2,f2,W,⟨m0,w0⟩,turn⟩:=h2
 subst e
 -- what stays true of the iterator's objects through the loop
 have stat:∀{H':Hp},(∀b∈fp,H' b=none)->∀b∈fp,La X pins H' b:=λhn b hb=>⟨hn b hb,(f2 b hb).2⟩
 refine codeAny_forLoop_any (λn s'=>∃i σ' H',Inv X pins σ' H' s'/\tn i s'.heap/\(∀b∈fp,H' b=none)/\W i n σ' H') ?_ m0 ⟨0,σ,H2,I2,st2,λb hb=>(f2 b hb).1,w0⟩
 rintro n s3 ⟨i,σ3,H3,I3,Qn,fr3,w3⟩
 rcases turn i n σ3 H3 w3 with ⟨stop,qn⟩ | ⟨go,N,hN,step⟩
 ·refine Rb hp (Fq (T.done X rfl rfl rfl hc i pins s3 σ3 H3 X.xe I3 (stat fr3) Qn stop) λr s4 ⟨hr,I4⟩=>?_)
  subst hr
  exact wpAny_execs_nil ⟨σ3,H3,I4,qn⟩
 ·refine Rb hp (Fq (T.item X rfl rfl rfl hc i pins s3 σ3 H3 X.xe I3 (stat fr3) Qn go) λr s4 ⟨u,hr,h4⟩=>?_)
  subst hr
  refine Rb hp (Fq h4 λ_ s5 ⟨x,H5,I5,r5,y5,st5,fr5⟩=>?_)
  have I5':=I5.pinned (stat fr5) (T.obj _ _ st5)
  refine Rb hp (Fq (hg _ s5 σ3 H5 x u _ I5' r5 (step x H5 y5)) λ_ s6 ⟨σ6,H6,I6,q6⟩=>?_)
  refine Rb hp (Fq (hb _ s6 σ6 H6 _ I6 q6) λf s7 q7=>?_)
  have again:∀{σ7:St} {H7:Hp},Inv X (pins++Of fp s5.heap) σ7 H7 s7->N σ7 H7->∃m,m<n/\∃i σ' H',Inv X pins σ' H' s7/\tn i s7.heap/\(∀b∈fp,H' b=none)/\W i m σ' H':=λ{σ7 H7} I7 n7=>by
   obtain ⟨m',hm,w7⟩:=hN σ7 H7 n7
   refine ⟨m',hm,i+1,σ7,H7,I7.unpinned,T.keep _ _ _ st5 λb hb o e=>(I7.pin (b,o) (Ah _ (Ah _ (Fm hb e)))).1,λb hb=>?_,w7⟩
   obtain ⟨o,e,d⟩:=T.obj _ _ st5 b hb
   exact (I7.pin (b,o) (Ah _ (Ah _ (Fm hb e)))).2.1
  cases f with
  | next=>obtain ⟨σ7,H7,I7,n7⟩:=q7; exact again I7 n7
  | cont=>obtain ⟨σ7,H7,I7,n7⟩:=q7; exact again I7 n7
  | brk=>obtain ⟨σ7,H7,I7,q7⟩:=q7; exact ⟨σ7,H7,I7.unpinned,q7⟩
  | ret v=>obtain ⟨x7,σ7,H7,I7,r7,q7⟩:=q7; exact ⟨x7,σ7,H7,I7.unpinned,r7,q7⟩
end
abbrev R2:=V->V->Hp->VK->Prop
def Ze(X:Cx)(f:Value->Value->Sem Value)(r:R2):Prop :=
 ∀(pins:List (Addr×Obj)) (s:Ai) (σ:St) (H:Hp) (x y:V) (v u:Value) (Q:VK),Inv X pins σ H s->RelV x v->RelV y u->r x y H Q ->
  wpAny (model X.prog X.w) X.A (f v u) (EP X pins σ Q) X.xe s
def KI(X:Cx)(f:Value->Sem Value)(r:V->Hp->VK->Prop):Prop :=
 ∀(pins:List (Addr×Obj)) (s:Ai) (σ:St) (H:Hp) (x:V) (v:Value) (Q:VK),Inv X pins σ H s->RelV x v->r x H Q ->
  wpAny (model X.prog X.w) X.A (f v) (EP X pins σ Q) X.xe s
def Mh(X:Cx)(f:Value)(r:List V->Hp->VK->Prop):Prop :=
 ∀(pins:List (Addr×Obj)) (s:Ai) (σ:St) (H:Hp) (xs:List V) (us:List Value) (Q:VK),Inv X pins σ H s->Gj xs us->r xs H Q ->
  wpAny (model X.prog X.w) X.A (call f us) (EP X pins σ Q) X.xe s
def JB(X:Cx)(r:V->Hp->(Bool->Hp->Prop)->Prop):Prop :=
 ∀(pins:List (Addr×Obj)) (s:Ai) (σ:St) (H:Hp) (x:V) (v:Value) (Q:Bool->Hp->Prop),Inv X pins σ H s->RelV x v->r x H Q ->
  wpAny (model X.prog X.w) X.A (truthy v) (TP X pins σ Q) X.xe s
def IH(r:R2)(ta tb:TE):TE:=λσ H Q=>ta σ H λx H1=>tb σ H1 λy H2=>r x y H2 Q
def MC(r:V->Hp->VK->Prop)(ta:TE):TE:=λσ H Q=>ta σ H λx H1=>r x H1 Q
def rI(C:Int->Int->Prop)(g:Int->Int->V):R2:=λx y H Q=>∃i j,x=.int i/\y=.int j/\C i j/\Q (g i j) H
def W3(g:Int->Int->V):R2:=λx y H Q=>∃i j,x=.int i/\y=.int j/\Q (g i j) H
def rU(g:Int->V):V->Hp->VK->Prop:=λx H Q=>∃i,x=.int i/\Q (g i) H
section
variable{X:Cx}{a b c:Expr}{ta tb tc:TE}{pos:Pos}
theorem DQ(ha:PE X a ta)(hb:PE X b tb){pins:List (Addr×Obj)}{s:Ai}{σ:St}{H:Hp}{R:V->V->Hp->Prop}(I:Inv X pins σ H s)(h:ta σ H λx H1=>tb σ H1 λy H2=>R x y H2){Q:Value->Ai->Prop}{f:Value->Value->Sem Value}(hf:∀v u s2 x y H2,Inv X pins σ H2 s2->RelV x v->RelV y u->R x y H2->wpAny (model X.prog X.w) X.A (f v u) Q X.xe s2):wpAny (model X.prog X.w) X.A (eval a X.env) (λv s₁=>wpAny (model X.prog X.w) X.A (eval b X.env) (λu s₂=>wpAny (model X.prog X.w) X.A (f v u) Q X.xe s₂) X.xe s₁) X.xe s:=by
 w_pre n2
theorem Ka{op:Operator}{r:R2}(ho:Ze X (Jp op) r)(ha:PE X a ta)(hb:PE X b tb):PE X (.BinOp a op b pos) (IH r ta tb):=by
 w_pre t7
 exact wpAny_BinOp (DQ ha hb I h λv u s2 x y H2 I2 rx ry q=>ho pins s2 σ H2 x y v u Q I2 rx ry q)
theorem GY{op:UnaryOp}{r:V->Hp->VK->Prop}(ho:KI X (unaryOp op) r)(ha:PE X a ta):PE X (.UnaryOp op a pos) (MC r ta):=by
 w_pre t7
 exact UnaryOp_ (Fq (ha pins s σ H _ I h) λv s1 ⟨x,H1,I1,r1,q1⟩=>ho pins s1 σ H1 x v Q I1 r1 q1)
theorem HB{f:Value->Value->Sem Value}{C:Int->Int->Prop}{g:Int->Int->Int}(rule:∀(i j:Int) (t u:Tok) (s:Ai) (Q:Value->Ai->Prop) (E:Value->Ai->Prop),C i j->Q (.int (g i j) s.toks) { s with toks:=s.toks+1 }->wpAny (model X.prog X.w) X.A (f (.int i t) (.int j u)) Q E s):Ze X f (rI C λi j=>.int (g i j)):=by
 w_pre h8
 obtain ⟨i,j,rfl,rfl,hc,q⟩:=h
 w_pre q8
 obtain ⟨t',rfl⟩:=ry
 exact rule i j t t' s _ _ hc ⟨.int (g i j),H,I.tok _,⟨_,rfl⟩,q⟩
theorem FD{f:Value->Value->Sem Value}{g:Int->Int->Int}(rule:∀(i j:Int) (t u:Tok) (s:Ai) (Q:Value->Ai->Prop) (E:Value->Ai->Prop),Q (.int (g i j) s.toks) { s with toks:=s.toks+1 }->wpAny (model X.prog X.w) X.A (f (.int i t) (.int j u)) Q E s):Ze X f (W3 λi j=>.int (g i j)):=by
 w_pre t1
 exact rule i j t t' s _ _ ⟨.int (g i j),H,I.tok _,⟨_,rfl⟩,q⟩
theorem CD{f:Value->Value->Sem Value}{g:Int->Int->Bool}(rule:∀(i j:Int) (t u:Tok) (s:Ai) (Q:Value->Ai->Prop) (E:Value->Ai->Prop),Q (.bool (g i j)) s->wpAny (model X.prog X.w) X.A (f (.int i t) (.int j u)) Q E s):Ze X f (W3 λi j=>.bl (g i j)):=by
 w_pre t1
 exact rule i j t t' s _ _ ⟨.bl (g i j),H,I,rfl,q⟩
def CM(i j:Int):Prop:=0<j/\j<1073741824
def KC(i j:Int):Prop:=0<=j/\j<=1000000/\i.natAbs<2 ^ 64
def N0(i j:Int):Prop:=(-(2 ^ 64)<i/\i<2 ^ 64)\/(-(2 ^ 64)<j/\j<2 ^ 64)
theorem N0.ok{i j:Int}(h:N0 i j):IntMulOk i j:=by
 rcases h with ⟨h1,h2⟩ | ⟨h1,h2⟩
 ·exact .of_left (intBits_le_64 h1 h2)
 ·exact .of_right (intBits_le_64 h1 h2)
theorem eT:Ze X (Jp .Add) (W3 λi j=>.int (i+j)):=FD λ_ _ _ _ _ _ _ q=>add_int q
theorem EC:Ze X (Jp .Sub) (W3 λi j=>.int (i - j)):=FD λ_ _ _ _ _ _ _ q=>sub_int q
theorem Zo:Ze X (Jp .Mult) (rI N0 λi j=>.int (i * j)):=HB λ_ _ _ _ _ _ _ hc q=>mul_int q hc.ok
theorem jS:Ze X (Jp .FloorDiv) (rI CM λi j=>.int (i / j)):=HB λi j _ _ _ _ _ hc q=>by
 have h1:(0:Int)<j:=hc.1
 have h2:j<1073741824:=hc.2
 exact floordiv_int (by omega) (by rw[Int.fdiv_eq_ediv_of_nonneg i (by omega)]; exact q) (.inl (PyProof.noPylong_small (by omega)))
theorem Xb:Ze X (Jp .Mod) (rI (λ_ j=>0<j) λi j=>.int (i % j)):=HB λi j _ _ _ _ _ hc q=>by
 have h1:(0:Int)<j:=hc
 exact mod_int' (by omega) (by rw[Int.fmod_eq_emod_of_nonneg i (by omega)]; exact q)
theorem kX:Ze X (Jp .Pow) (rI KC λi j=>.int (i ^ j.toNat)):=HB λ_ _ _ _ _ _ _ hc q=>pow_int_small hc.1 hc.2.1 hc.2.2 q
theorem MD{f:Value->Sem Value}{g:Int->Int}(rule:∀(i:Int) (t:Tok) (s:Ai) (Q:Value->Ai->Prop) (E:Value->Ai->Prop),Q (.int (g i) s.toks) { s with toks:=s.toks+1 }->wpAny (model X.prog X.w) X.A (f (.int i t)) Q E s):KI X f (rU λi=>.int (g i)):=by
 intro pins s σ H x v Q I rx h
 obtain ⟨i,rfl,q⟩:=h
 w_pre q8
 exact rule i t s _ _ ⟨.int (g i),H,I.tok _,⟨_,rfl⟩,q⟩
theorem AW:KI X (unaryOp .USub) (rU λi=>.int (-i)):=MD λ_ _ _ _ _ q=>neg_int q
end
section
variable{X:Cx}{a b c:Expr}{ta tb tc:TE}{pos:Pos}
theorem GL:Ze X (Jl .Lt) (W3 λi j=>.bl (decide (i<j))):=CD λ_ _ _ _ _ _ _ q=>lt_int q
theorem iU:Ze X (Jl .LtE) (W3 λi j=>.bl (decide (i<=j))):=CD λ_ _ _ _ _ _ _ q=>le_int q
theorem GR:Ze X (Jl .GtE) (W3 λi j=>.bl (decide (j<=i))):=CD λ_ _ _ _ _ _ _ q=>ge_int q
theorem eG(b:Expr){op:CmpOp}(h:op≠.In:=by decide)(h2:op≠.NotIn:=by decide):Gy op b=false:=by
 w_pre i2
theorem T4{op:CmpOp}{r:R2}(ho:Ze X (Jl op) r)(ha:PE X a ta)(hb:PE X b tb)(hm:Gy op b=false):PE X (.Compare a [op] [b] pos) (IH r ta tb):=by
 w_pre t7
 exact wpAny_Compare1 (DQ ha hb I h λv u s2 x y H2 I2 rx ry q=>ho pins s2 σ H2 x y v u Q I2 rx ry q) hm
def HL(t:TE):TT:=λσ H Q=>t σ H λx H'=>∃k,x=.bl k/\Q k H'
theorem uJ{op:CmpOp}{r:R2}(ho:Ze X (Jl op) r)(ha:PE X a ta)(hb:PE X b tb)(hm:Gy op b=false):PT X (.Compare a [op] [b] pos) (HL (IH r ta tb)):=by
 w_pre t7
 refine wpAny_isTrue_Compare1 (Fq (ha pins s σ H _ I h) λv s1 ⟨x,H1,I1,r1,q1⟩=>Fq (hb pins s1 σ H1 _ I1 q1) λu s2 ⟨y,H2,I2,r2,q2⟩ =>
  Fq (ho pins s2 σ H2 x y v u _ I2 r1 r2 q2) λc s3 ⟨z,H3,I3,r3,k,e,q3⟩=>?_) hm
 subst e
 cases r3
 exact Jn ⟨H3,I3,q3⟩
def JE(K:PySem.W.Frag)(x:V)(H:Hp)(k:Bool):Prop :=
 match x with
 | .non=>k=false
 | .bl b=>k=b
 | .int i=>k=(i != 0)
 | .str y=>y.length<=Ay/\k=((y.length:Int) != 0)
 | .byt y=>y.size<=Ay/\k=((y.size:Int) != 0)
 | .ref p=>(∃xs,Mp K H p xs/\k = !xs.isEmpty)\/(∃xs,Rq K H p xs/\k = !xs.isEmpty)\/∃kvs,H p=some (.dK kvs)/\k = !kvs.isEmpty
 | _=>False
theorem rV{κ:Type}{kvs:List (κ×V)}{vs:List (κ×Value)}(r:KV kvs vs):(!vs.isEmpty) = !kvs.isEmpty:=by
 cases r <;> rfl
theorem dW{xs:List V}{its:List Value}(r:Gj xs its):(!its.toArray.isEmpty) = !xs.isEmpty:=by
 cases r <;> simp
theorem Wo:(Ay:Nat)<2 ^ 63:=by rw[Gp]; decide
theorem KH:JB X (λx H Q=>∃k,JE X.K x H k/\Q k H):=by
 intro pins s σ H x v Q I rx h
 obtain ⟨k,e,q⟩:=h
 have hl:=Wo
 have hs:Ay=16777216:=Gp
 cases x with
 | non =>
  cases rx
  have e':k=false:=e
  subst e'
  exact truthy_none ⟨H,I,q⟩
 | bl b =>
  cases rx
  have e':k=b:=e
  subst e'
  exact Jn ⟨H,I,q⟩
 | int i =>
  w_pre q8
  have e':k=(i != 0):=e
  subst e'
  exact PySem.P.truthy_int ⟨H,I,q⟩
 | str y =>
  w_pre q8
  obtain ⟨hy,e'⟩ : y.length<=Ay/\k=((y.length:Int) != 0):=e
  subst e'
  exact PySem.P.truthy_str (by omega) ⟨H,I.tok _,q⟩
 | byt y =>
  w_pre q8
  obtain ⟨hy,e'⟩ : y.size<=Ay/\k=((y.size:Int) != 0):=e
  subst e'
  exact PySem.W.truthy_bytes (by omega) ⟨H,I.tok _,q⟩
 | ref p =>
  cases rx
  have e':(∃xs,Mp X.K H p xs/\k = !xs.isEmpty)\/(∃xs,Rq X.K H p xs/\k = !xs.isEmpty)\/∃kvs,H p=some (.dK kvs)/\k = !kvs.isEmpty:=e
  rcases e' with ⟨xs,hx,e'⟩ | ⟨xs,hx,e'⟩ | ⟨kvs,hx,e'⟩
  ·subst e'
   obtain ⟨its,r,pl,hz⟩:=I.list hx
   have hlen:=r.length
   exact wpAny_truthy_list pl.isList (by simp only[Av]; omega) ⟨H,I.tok _,by rw[dW r]; exact q⟩
  ·subst e'
   obtain ⟨its,r,pl,hz⟩:=I.tuple hx
   have hlen:=r.length
   exact truthy_tuple pl (by simp only[Av]; omega) ⟨H,I.tok _,by rw[dW r]; exact q⟩
  ·subst e'
   obtain ⟨hz,hS,vs,r,m⟩ : kvs.length<=Ay/\(p == Hg)=false/\∃vs,KV kvs vs/\s.heap.DictOf (Kd X.prog X.w) p vs:=I.hok p _ hx
   have hlen:kvs.length=vs.length:=Paired.length r
   exact wpAny_truthy_dict hS m (by omega) ⟨H,I.tok _,by rw[rV r]; exact q⟩
 | _=>exact (show False from e).elim
theorem vals1{x:V}{us:List Value}(r:Gj [x] us):∃u,us=[u]/\RelV x u:=by
 cases r with
 | cons r1 r2=>cases r2; exact ⟨_,rfl,r1⟩
theorem vals2{x y:V}{us:List Value}(r:Gj [x,y] us):∃u w',us=[u,w']/\RelV x u/\RelV y w':=by
 cases r with
 | cons r1 r2 =>
  cases r2 with
  | cons r3 r4=>cases r4; exact ⟨_,_,rfl,r1,r3⟩
theorem xN(hc:X.calm=true):Mh X (.builtin "min") (λxs H Q=>∃i j,xs=[.int i,.int j]/\Q (.int (if j<i then j else i)) H):=by
 w_pre r7
 obtain ⟨i,j,rfl,q⟩:=h
 obtain ⟨u,w',rfl,⟨t,rfl⟩,⟨t',rfl⟩⟩:=vals2 r
 refine min_two_ints (I.ok.hd hc) λh' tk k=>⟨_,H,I.kept k,?_,q⟩
 by_cases hj:j<i
 ·rw[if_pos hj,if_pos hj]; exact ⟨_,rfl⟩
 ·rw[if_neg hj,if_neg hj]; exact ⟨_,rfl⟩
theorem gY:Mh X (.type "int") (λxs H Q=>(∃i,xs=[.int i]/\Q (.int i) H)\/∃k,xs=[.bl k]/\Q (.int (if k then 1 else 0)) H):=by
 w_pre r7
 rcases h with ⟨i,rfl,q⟩ | ⟨k,rfl,q⟩
 ·obtain ⟨u,rfl,t,rfl⟩:=vals1 r
  exact call_int_int ⟨.int i,H,I,⟨_,rfl⟩,q⟩
 ·obtain ⟨u,rfl,r1⟩:=vals1 r
  cases r1
  exact call_int_bool ⟨.int (if k then 1 else 0),H,I.tok _,⟨_,rfl⟩,q⟩
def FW(K:PySem.W.Frag)(x:V)(H:Hp)(n:Nat):Prop :=
 match x with
 | .str y=>y.length<=Ay/\n=y.length
 | .byt y=>y.size<=Ay/\n=y.size
 | .ref p=>(∃xs,Mp K H p xs/\n=xs.length)\/∃xs,Rq K H p xs/\n=xs.length
 | _=>False
theorem Nw:Mh X (.builtin "len") (λxs H Q=>∃x n,xs=[x]/\FW X.K x H n/\Q (.int n) H):=by
 w_pre r7
 obtain ⟨x,n,rfl,e,q⟩:=h
 w_pre c10
 have hl:=Wo
 have hs:Ay=16777216:=Gp
 cases x with
 | str y =>
  w_pre q8
  obtain ⟨hy,e'⟩ : y.length<=Ay/\n=y.length:=e
  subst e'
  exact len_str (by omega) ⟨.int _,H,I.tok _,⟨_,rfl⟩,q⟩
 | byt y =>
  w_pre q8
  obtain ⟨hy,e'⟩ : y.size<=Ay/\n=y.size:=e
  subst e'
  exact PySem.W.len_bytes (by omega) ⟨.int _,H,I.tok _,⟨_,rfl⟩,q⟩
 | ref p =>
  cases rx
  have e':(∃xs,Mp X.K H p xs/\n=xs.length)\/∃xs,Rq X.K H p xs/\n=xs.length:=e
  rcases e' with ⟨xs,hx,e'⟩ | ⟨xs,hx,e'⟩
  ·subst e'
   obtain ⟨its,r',pl,hz⟩:=I.list hx
   have hlen:=r'.length
   exact Calls.call_len_list pl.isList (by simp only[Av]; omega) ⟨.int xs.length,H,I.tok _,⟨_,by simp only[Av]; rw[hlen]⟩,q⟩
  ·subst e'
   obtain ⟨its,r',pl,hz⟩:=I.tuple hx
   have hlen:=r'.length
   exact len_tuple pl (by simp only[Av]; omega) ⟨.int xs.length,H,I.tok _,⟨_,by simp only[Av]; rw[hlen]⟩,q⟩
 | _=>exact (show False from e).elim
end
theorem xT.some_of{v:V}{o:Option Value}(r:xT (some v) o):∃u,o=some u/\RelV v u:=by
 cases o with
 | none=>exact (show False from r).elim
 | some u=>exact ⟨u,rfl,r⟩
structure Room(k:Nat)(A:Ci):Prop where
 hd:A.handled=none
 dp:A.depth+3 * k+5<recursionLimit
 un:A.units+16 * k+200<cLine
 gd:A.guards=some []
theorem Room.mono{j k:Nat}{A:Ci}(r:Room k A)(h:j<=k):Room j A:=⟨r.hd,by have:=r.dp; omega,by have:=r.un; omega,r.gd⟩
theorem Room.deeper{k:Nat}{A:Ci}(r:Room (k+1) A)(env:Env):Room k (A.deeper env) :=
 ⟨r.hd,by have:=r.dp; show A.depth+1+3 * k+5<_; omega,by have:=r.un; show A.units+3+16 * k+200<_; omega,r.gd⟩
theorem Room.depth{k:Nat}{A:Ci}(r:Room k A):A.depth<recursionLimit:=by have:=r.dp; omega
theorem Room.units{k:Nat}{A:Ci}(r:Room k A):A.units+64<cLine:=by have:=r.un; omega
def FN:TA:=λ_ H Q=>Q [] H
def GB(ta:TE)(tr:TA):TA:=λσ H Q=>ta σ H λx H1=>tr σ H1 λxs H2=>Q (x::xs) H2
section
variable{X:Cx}{e:Expr}{es:List Expr}{te:TE}{t:TA}{pos:Pos}
theorem Oh:PA X [] FN:=λ_ _ _ _ H Q I h=>Calls.spliced_nil ⟨[],H,I,.nil,h⟩
theorem Hy(ha:PE X e te)(hr:PA X es t)(hs:Bj (e::es) X.env=(false,eval e X.env)::Bj es X.env:=by rfl):PA X (e::es) (GB te t):=by
 intro pos pins s σ H Q I h
 rw[hs]
 show wpAny _ _ (spliced ((false,eval e X.env)::Hh pos (Bj es X.env))) _ _ s
 refine Calls.spliced_cons (Fq (ha pins s σ H _ I h) λu s1 ⟨x,H1,I1,r1,q1⟩=>?_)
 exact Fq (hr pos pins s1 σ H1 _ I1 q1) λus s2 ⟨xs,H2,I2,r2,q2⟩=>⟨x::xs,H2,I2,.cons r1 r2,q2⟩
def JZ(t:TA):TE:=λσ H Q=>t σ H λxs H1=>xs.length<=Ay/\∀p,H1 p=none->Q (.ref p) (upd H1 p (.tup xs))
def KJ(t:TA):TE:=λσ H Q=>t σ H λxs H1=>xs.length<=Ay/\∀p,H1 p=none->Q (.ref p) (upd H1 p (.lst xs))
theorem Z9{x1}(h:PA X es t):PE X (.Tuple es x1 pos) (JZ t):=by
 intro pins s σ H Q I hq
 refine wpAny_Tuple_spliced (Fq (h pos pins s σ H _ I hq) λus s1 ⟨xs,H1,I1,r,z,q⟩=>⟨by rw[<- r.length]; exact z,?_⟩)
 have hf:H1 s1.heap.objs.size=none:=I1.hok.fresh (Aj _)
 refine ⟨.ref s1.heap.objs.size,upd H1 s1.heap.objs.size (.tup xs),I1.laid (t':=s1.toks) (λb u e=>Ag _ e) (Aj _) ?_,rfl,q _ hf⟩
 exact ⟨z,us,r,⟨_,Au _ rfl,rfl,_,rfl⟩⟩
theorem qU(h:PA X es t):PE X (.List es pos) (KJ t):=by
 intro pins s σ H Q I hq
 refine wpAny_List_spliced (Fq (h pos pins s σ H _ I hq) λus s1 ⟨xs,H1,I1,r,z,q⟩=>⟨by rw[<- r.length]; exact z,?_⟩)
 have hf:H1 s1.heap.objs.size=none:=I1.hok.fresh (Aj _)
 refine ⟨.ref s1.heap.objs.size,upd H1 s1.heap.objs.size (.lst xs),I1.laid (t':=s1.toks) (λb u e=>Ag _ e) (Aj _) ?_,rfl,q _ hf⟩
 exact ⟨z,us,0,r,Au _ rfl⟩
end
abbrev Sp:=List V->Hp->VK->XK->Prop
abbrev yO:=List Env->Hp->Ai->XK->Value->Ai->Prop
structure Env0(P:Bk)(w:World)(K:PySem.W.Frag)(mg:Str->Option Value)(base:Heap)(A:Ci)(outer:List Env)(s:Ai)(H:Hp):Prop where
 frames:A.frames=some outer
 mod:Mod K mg base
 bs:∀b o,base.get? b=some o->s.heap.get? b=some o/\H b=none
 bsz:base.objs.size<=s.heap.objs.size
 funs:s.heap.FunFrames base outer
 frf:∀b∈gG outer,H b=none
 hok:Wi P w H s.heap
 bare:Xm s.gens
def CE(outer:List Env)(P:Bk)(w:World)(H:Hp)(s:Ai)(Q:VK)(u:Value)(s':Ai):Prop :=
 ∃v H',s'.os=s.os/\Xm s'.gens/\Un (gG outer) [] H H' s.heap s'.heap/\Wi P w H' s'.heap/\RelV v u/\Q v H'
def CR(CX:yO)(outer:List Env)(P:Bk)(w:World)(H:Hp)(s:Ai)(Q:VK)(E:XK)(r:Result)(s':Ai):Prop :=
 match r with
 | .ok (.ret u)=>CE outer P w H s Q u s'
 | .ok _=>False
 | .error e=>CX outer H s E e s'
structure FnOk(P:Bk)(w:World)(K:PySem.W.Frag)(mg:Str->Option Value)(base:Heap)(CX:yO)(k:Nat)(f:Addr)(fd:Cs)(ps:List Str)(sp:Sp):Prop where
 len:∀vs H Q E,sp vs H Q E->vs.length=ps.length
 run:∀(A:Ci) (outer:List Env) (s:Ai) (H:Hp) (args:Args) (us:List Value) (vs:List V) (Q:VK) (E:XK),Room k A->Env0 P w K mg base A outer s H->BindsTo s fd args (ps.zip us)->Gj vs us->sp vs H Q E ->
  Hb (model P w) A (.call (.ref f) args) (CR CX outer P w H s Q E) s
theorem FnOk.imp{P:Bk}{w:World}{K:PySem.W.Frag}{mg:Str->Option Value}{base:Heap}{CX:yO}{k:Nat}{f:Addr}{fd:Cs}{ps:List Str}{sp sp':Sp}(F:FnOk P w K mg base CX k f fd ps sp)(h:∀vs H Q E,sp' vs H Q E->sp vs H Q E):FnOk P w K mg base CX k f fd ps sp' :=
 ⟨λvs H Q E q=>F.len vs H Q E (h _ _ _ _ q),λA outer s H args us vs Q E hr he hb hv hs=>F.run A outer s H args us vs Q E hr he hb hv (h _ _ _ _ hs)⟩
section
variable{X:Cx}{pins:List (Addr×Obj)}{σ:St}{H:Hp}{s s':Ai}
theorem Inv.env0(I:Inv X pins σ H s):Env0 X.prog X.w X.K X.mg X.base X.A X.stack s H :=
 ⟨I.ok.frames,I.ok.mod,I.bs,Cb I.ok.bsz I.sz,I.stack,I.stkFree,I.hok,I.bare⟩
theorem Inv.after{Q:VK}{u:Value}(I:Inv X pins σ H s)(h:CE X.stack X.prog X.w H s Q u s'):EP X pins σ Q u s':=by
 obtain ⟨v,H',os,bare,un,hok,r,q⟩:=h
 obtain ⟨hh,g,d,t,os'⟩:=s'
 obtain rfl:os'=s.os:=os
 exact ⟨v,H',I.call (h':=hh) (g':=g) (d':=d) (t':=t) (ch:=[]) un hok bare (λb z=>absurd z (by simp)),r,q⟩
end
def Z8(sp:Sp)(dvs:List V)(E:XK)(t:TA):TE:=λσ H Q=>t σ H λvs H1=>sp (vs++dvs) H1 Q E
def Binds(K:PySem.W.Frag)(fd:Cs)(ps:List Str)(ds:List Value):Prop :=
 ∀(s:Ai) (us:List Value),K.In s.heap->(us++ds).length=ps.length->BindsTo s fd ⟨us,[]⟩ (ps.zip (us++ds))
theorem Binds.all{K:PySem.W.Frag}{fd:Cs}{ps:List Str}(h:∀us:List Value,us.length=ps.length->bindArgs fd ⟨us,[]⟩=pure (ps.zip us)):Binds K fd ps []:=λs us _ hl=>by
 rw[Ec] at hl ⊢
 exact .of_eq (h us hl)
def Sf(CX:yO)(X:Cx)(E:XK):Prop:=∀(pins:List (Addr×Obj)) (σ:St) (H:Hp) (s:Ai) (e:Value) (s':Ai),Inv X pins σ H s->CX X.stack H s E e s'->X.xe e s'
section
variable{X:Cx}{CX:yO}{k:Nat}{f C:Addr}{fd:Cs}{ps:List Str}{sp:Sp}{dvs:List V}{ds:List Value}{E:XK}{x m:Str}{p pos apos:Pos}{e o:Expr}{es:List Expr}{ta:TE}{t:TA}
theorem zN{pins:List (Addr×Obj)}{σ:St}{H:Hp}{s:Ai}{Q:VK}{us:List Value}{vs:List V}(F:FnOk X.prog X.w X.K X.mg X.base CX k f fd ps sp)(hr:Room k X.A)(hb:Binds X.K fd ps ds)(hd:Gj dvs ds)(hx:Sf CX X E)(I:Inv X pins σ H s)(r:Gj vs us)(h:sp (vs++dvs) H Q E):wpAny (model X.prog X.w) X.A (call (.ref f) us) (EP X pins σ Q) X.xe s:=by
 have r2:Gj (vs++dvs) (us++ds):=r.append hd
 have hl:(us++ds).length=ps.length:=by rw[<- r2.length]; exact F.len _ _ _ _ h
 refine wpAny_call (Oq (F.run X.A X.stack s H ⟨us,[]⟩ (us++ds) (vs++dvs) Q E hr I.env0 (hb s us I.kIn hl) r2 h) λr s' hq=>?_)
 cases r with
 | error e=>exact hx pins σ H s e s' I hq
 | ok fl =>
  cases fl with
  | ret u=>exact I.after hq
  | next=>exact Le hq
  | brk=>exact Le hq
  | cont=>exact Le hq
theorem bX(F:FnOk X.prog X.w X.K X.mg X.base CX k f fd ps sp)(hr:Room k X.A)(hg:Gl X x)(hm:X.mg x=some (.ref f))(hk:PySem.W.keepIn X.K (.ref f)=true)(hb:Binds X.K fd ps ds)(hd:Gj dvs ds)(hx:Sf CX X E)(ha:PA X (e::es) t)(hdb:(x == ("__debug__" : Str))=false:=by decide)(he:Bj (e::es) X.env=(false,eval e X.env)::Bj es X.env:=by rfl)(hpl:(Hh pos (Bj es X.env)).any (·.1)=false:=by rfl):PE X (.Call (.Name x p) (e::es) [] pos) (Z8 sp dvs E t):=by
 w_pre f7
 refine PySem.W.callWith_K (h₀:=X.base) I.ok.mod.kin hk (Fq (ha pos pins s σ H _ I h) λus s1 ⟨vs,H1,I1,r,q⟩=>⟨I1.kIn,?_⟩) he hpl
 exact zN F hr hb hd hx I1 r q
theorem q9(F:FnOk X.prog X.w X.K X.mg X.base CX k f fd ps sp)(hr:Room k X.A)(hg:Gl X x)(hm:X.mg x=some (.ref f))(hk:PySem.W.keepIn X.K (.ref f)=true)(hb:Binds X.K fd ps ds)(hd:Gj dvs ds)(hx:Sf CX X E)(hdb:(x == ("__debug__" : Str))=false:=by decide):PE X (.Call (.Name x p) [] [] pos) (Z8 sp dvs E FN):=by
 w_pre f7
 exact PySem.W.callWith_K0 I.kIn hk (zN (us:=[]) F hr hb hd hx I .nil h)
end
structure FnScope(N P:List Str)(sc:Scope):Prop where
 kind:sc.kind=.function
 co:sc.isCoroutine=false
 gen:sc.isGenerator=false
 nd:N.Nodup
 pre:N.take P.length=P
 par:∀x∈P,sc.names.lookup x=some .local\/sc.names.lookup x=some .cell
 nofree:∀y∈sc.names,y.2≠.free
theorem gK{kindOf:Str->Option Qv}{x:Str}:∀{binds:List (Str×Value)} {m:Str->Option Value},(∀v,(x,v)∉binds)->bindL kindOf binds m x=m x
 | [],_,_=>rfl
 | (n,v)::r,m,h=>by
  unfold bindL
  rw[gK λw hw=>h w (Ac _ hw)]
  split
  w_pre d7
  ·rfl
theorem iQ{kindOf:Str->Option Qv}{x:Str}:∀{binds:List (Str×Value)} {m:Str->Option Value},(∀v,(x,v)∉binds)->bindC kindOf binds m x=m x
 | [],_,_=>rfl
 | (n,v)::r,m,h=>by
  unfold bindC
  rw[iQ λw hw=>h w (Ac _ hw)]
  split
  ·rfl
  w_pre d7
theorem gN{kindOf:Str->Option Qv}{x:Str}{v:Value}:∀{P:List Str} {vs:List Value} {i:Nat} {m:Str->Option Value},P.Nodup->P[i]? = some x->vs[i]? = some v->kindOf x=some .local->bindL kindOf (P.zip vs) m x=some v
 | [],_,_,_,_,h,_,_=>by simp at h
 | _::_,[],_,_,_,_,h,_=>by simp at h
 | p::P,w::vs,0,m,nd,h1,h2,hk=>by
  simp at h1 h2; subst h1; subst h2
  show bindL kindOf ((p,w)::P.zip vs) m p=_
  unfold bindL
  rw[gK λv hv=>(Cm.mp nd).1 (List.of_mem_zip hv).1,if_pos hk]
  simp
 | p::P,w::vs,i+1,m,nd,h1,h2,hk=>by
  show bindL kindOf ((p,w)::P.zip vs) m x=_
  unfold bindL
  exact gN (i:=i) (Cm.mp nd).2 (by simpa using h1) (by simpa using h2) hk
theorem iB{kindOf:Str->Option Qv}{x:Str}{v:Value}:∀{P:List Str} {vs:List Value} {i:Nat} {m:Str->Option Value},P.Nodup->P[i]? = some x->vs[i]? = some v->kindOf x≠some .local->bindC kindOf (P.zip vs) m x=some v
 | [],_,_,_,_,h,_,_=>by simp at h
 | _::_,[],_,_,_,_,h,_=>by simp at h
 | p::P,w::vs,0,m,nd,h1,h2,hk=>by
  simp at h1 h2; subst h1; subst h2
  show bindC kindOf ((p,w)::P.zip vs) m p=_
  unfold bindC
  rw[iQ λv hv=>(Cm.mp nd).1 (List.of_mem_zip hv).1,if_neg hk]
  simp
 | p::P,w::vs,i+1,m,nd,h1,h2,hk=>by
  show bindC kindOf ((p,w)::P.zip vs) m x=_
  unfold bindC
  exact iB (i:=i) (Cm.mp nd).2 (by simpa using h1) (by simpa using h2) hk
def start(N:List Str)(vs:List V):St:=vs.map some++By (N.length - vs.length) none
def Nc(CX:yO)(P:Bk)(w:World)(K:PySem.W.Frag)(mg:Str->Option Value)(base:Heap)(N:List Str)(qual:Str)(scope:Scope)(f:Addr)(cd:Value)(A:Ci)(outer:List Env)(s:Ai)(H:Hp)(E:XK):Cx where
 prog:=P
 w:=w
 K:=K
 mg:=mg
 base:=base
 A:=A.deeper (Td qual scope s.heap.objs.size f cd)
 N:=N
 s₀:=s
 H₀:=H
 env:=Td qual scope s.heap.objs.size f cd
 outer:=outer
 stack:=Td qual scope s.heap.objs.size f cd::outer
 ex:=[]
 calm:=true
 fn:=λ_=>true
 pn:=[]
 xe:=λe s'=>wpAny (model P w) (A.deeper (Td qual scope s.heap.objs.size f cd)) (leaving (Td qual scope s.heap.objs.size f cd) e) (λ_ s''=>CX outer H s E e s'') (λe' s''=>CX outer H s E e' s'') s'
theorem oY{sc:Scope}{n:Nat}{x:Str}(h:sc.names.lookup x=some .cell):∃c,(En n sc.names []).lookup x=some c:=by
 have q:=PySem.W.cellsFrom_some sc.names n [] (.inl h)
 exact Rp.mp q
theorem yD{CX:yO}{P:Bk}{w:World}{K:PySem.W.Frag}{mg:Str->Option Value}{base:Heap}{N ps:List Str}{qual:Str}{scope:Scope}{f:Addr}{cd:Value}{A:Ci}{outer:List Env}{s s1:Ai}{H:Hp}{E:XK}{us:List Value}{vs:List V}(S:FnScope N ps scope)(hd:A.handled=none)(e0:Env0 P w K mg base A outer s H)(hl:vs.length=ps.length)(r:Gj vs us)(x:InCallC s s.heap.objs.size (bindL (Td qual scope s.heap.objs.size f cd).kindOf (ps.zip us) λ_=>none) (En (s.heap.objs.size+1) scope.names []) (bindC (Td qual scope s.heap.objs.size f cd).kindOf (ps.zip us) λ_=>none) s1):Inv (Nc CX P w K mg base N qual scope f cd A outer s H E) [] (start N vs) H s1:=by
 have hpl:ps.length<=N.length:=by have:=congrArg Ja S.pre; rw[Cy] at this; omega
 obtain ⟨h1,tk,rfl,hk⟩:=x.done
 have noA:∀b:Addr,b∉(Nc CX P w K mg base N qual scope f cd A outer s H E).ex:=λb z=>absurd (show b∈([]:List Addr) from z) (by simp)
 refine ⟨⟨e0.mod,S.kind,rfl,rfl,Aj _,λy z c h1 h2=>?_,λy hy=>?_,λy c _ h=>?_,λ_=>hd,Around.frames_deeper e0.frames,.inr ⟨rfl,rfl⟩,λb z=>absurd z (noA b),e0.bs,e0.bsz,λb _ _=>noA b,λb z=>absurd z (noA b),e0.funs,e0.frf⟩,
  rfl,e0.bare,Un.kept hk,⟨_,x.toInCall.ns,λi y v h1 h2 h3=>?_⟩,λy c h=>⟨_,x.cell y c h⟩,e0.hok.fresh (Aj _),λy c h=>?_,λp hp=>absurd (show p∈([]:List (Addr×Obj)) from hp) (by simp),e0.hok.kept hk,?_⟩
 ·exact name_of_addr x.apart (PySem.mem_of_lookup h1) (PySem.mem_of_lookup h2)
 ·have hy:scope.names.lookup y=some .cell\/scope.names.lookup y=some .free:=hy
  rcases hy with hy | hy
  ·exact oY hy
  ·exact absurd rfl (S.nofree _ (PySem.mem_of_lookup hy))
 ·exact Jd (x.above y c (PySem.mem_of_lookup h))
 ·have hi:i<vs.length:=by
   unfold start at h2
   by_cases hi:i<vs.length
   ·exact hi
   ·rw[Ii (by simpa using hi)] at h2
    rw[List.getElem?_replicate] at h2
    split at h2 <;> cases h2
  have ha:vs[i]? = some v:=by
   unfold start at h2
   rw[Lq (by simpa using hi),Bg] at h2
   cases e:vs[i]? with
   | none=>rw[e] at h2; cases h2
   | some a=>rw[e] at h2; cases h2; rfl
  obtain ⟨u,hu,rv⟩:=r.get ha
  have hp:ps[i]? = some y:=by
   rw[<- S.pre,Jh (by omega)]; exact h1
  have ndP:ps.Nodup:=by rw[<- S.pre]; exact S.nd.sublist (Hm _ _)
  refine ⟨u,rv,?_⟩
  rcases S.par y (Bq hp) with k | k
  ·exact .inl ⟨k,gN ndP hp hu k⟩
  ·obtain ⟨c,e⟩:=oY (n:=s.heap.objs.size+1) k
   refine .inr ⟨.inl k,c,e,?_⟩
   have q:=x.cell y c e
   rw[iB ndP hp hu (by show scope.names.lookup y≠_; rw[k]; decide)] at q
   exact q
 ·exact e0.hok.fresh (Jd (x.above y c (PySem.mem_of_lookup h)))
 ·unfold start
  show _=N.length
  rw[Bn,Ad,Wb]
  omega
theorem GT{CX:yO}{P:Bk}{w:World}{K:PySem.W.Frag}{mg:Str->Option Value}{base:Heap}{k:Nat}{f:Addr}{name qual:Str}{params:Arguments}{body:List Stmt}{scope:Scope}{dV kV doc pm cdv ct oc:Value}{an od:Option Addr}{osl:Array (Option Value)}{N ps:List Str}{sp:Sp}(lk:K.lookup f=some ⟨oc,od,.func (PySem.W.fnOf name qual params body scope dV kV doc pm an cdv ct),osl⟩)(hcd:PySem.W.codeIn K cdv qual=true)(S:FnScope N ps scope)(len:∀vs H Q E,sp vs H Q E->vs.length=ps.length)(hbody:∀(A:Ci) (outer:List Env) (s:Ai) (H:Hp) (vs:List V) (Q:VK) (E:XK),Room k (A.deeper (Td qual scope s.heap.objs.size f cdv))->sp vs H Q E->∃t,vW (Nc CX P w K mg base N qual scope f cdv A outer s H E) body t/\t { nx:=λ_ H'=>Q .non H',rt:=Q } (start N vs) H):FnOk P w K mg base CX (k+1) f (PySem.W.fnOf name qual params body scope dV kV doc pm an cdv ct) ps sp:=by
 refine ⟨len,λA outer s H args us vs Q E hr e0 hb r hsp=>?_⟩
 have hl:=len _ _ _ _ hsp
 have KX:K.In s.heap:=e0.mod.kin.keeps λb o e=>(e0.bs b o e).1
 have lim:s.heap.NoLimit:=e0.mod.nolimit.keeps λb o e=>(e0.bs b o e).1
 have hkind:∀y∈ps.zip us,scope.names.lookup y.1=some .local\/(scope.names.lookup y.1=some .cell/\((En (s.heap.objs.size+1) scope.names []).lookup y.1).isSome=true):=λ⟨n,v⟩ hy=>by
  rcases S.par n (List.of_mem_zip hy).1 with q | q
  ·exact .inl q
  ·exact .inr ⟨q,PySem.W.cellsFrom_some _ _ _ (.inl q)⟩
 refine codeAny_call_function hr.depth (KX _ _ lk) rfl S.co S.gen rfl (PySem.W.codeRec_of KX hcd) (hb _ _ _ _ ?_)
 refine wpAny_newFunctionEnv_cells S.kind hkind λenv he s1 x=>?_
 subst he
 refine ⟨lim.keeps x.toInCall.keep,codeAny_func ?_⟩
 obtain ⟨t,ht,hq⟩:=hbody A outer s H vs Q E (hr.deeper _) hsp
 have I:Inv (Nc CX P w K mg base N qual scope f cdv A outer s H E) [] (start N vs) H s1:=yD S hr.hd e0 hl r x
 refine Cu (ht [] s1 (start N vs) H _ I hq) (λfl s' hs=>?_) λe s' hs=>hs
 have fin:∀{σ':St} {H':Hp} {v:V} {u:Value},Inv (Nc CX P w K mg base N qual scope f cdv A outer s H E) [] σ' H' s'->RelV v u->Q v H'->CE outer P w H s Q u s' :=
  λ{σ' H' v u} J rv q=>⟨v,H',J.os,J.bare,J.base,J.hok,rv,q⟩
 cases fl with
 | ret u =>
  obtain ⟨v,σ',H',J,rv,q⟩:=hs
  exact fin J rv q
 | next =>
  obtain ⟨σ',H',J,q⟩:=hs
  exact fin (v:=V.non) (u:=Gq) J rfl q
 | brk =>
  obtain ⟨_,_,_,q⟩:=hs
  exact Le q
 | cont =>
  obtain ⟨_,_,_,q⟩:=hs
  exact Le q
section
variable{X:Cx}{x:Str}{p pos:Pos}{e:Expr}{es:List Expr}{t:TA}{id T:String}{r:List V->Hp->VK->Prop}
def IX(r:List V->Hp->VK->Prop)(t:TA):TE:=λσ H Q=>t σ H λvs H1=>r vs H1 Q
theorem eI(hc:Mh X (.builtin id) r)(hg:Gl X x)(hm:X.mg x=none)(hv:Os x=some (.builtin id))(ha:PA X (e::es) t)(hn:x ≠ "__name__" := by decide)(hdb:(x == ("__debug__" : Str))=false:=by decide)(he:Bj (e::es) X.env=(false,eval e X.env)::Bj es X.env:=by rfl)(hpl:(Hh pos (Bj es X.env)).any (·.1)=false:=by rfl):PE X (.Call (.Name x p) (e::es) [] pos) (IX r t):=by
 w_pre q6
 exact PyProof.Rows.callWith_builtin1 (Fq (ha pos pins s σ H _ I h) λus s1 ⟨vs,H1,I1,r1,q1⟩=>hc pins s1 σ H1 vs us Q I1 r1 q1) he hpl
theorem Nh(hc:Mh X (.type T) r)(hg:Gl X x)(hm:X.mg x=none)(hv:Os x=some (.type T))(ha:PA X (e::es) t)(hn:x ≠ "__name__" := by decide)(hdb:(x == ("__debug__" : Str))=false:=by decide)(he:Bj (e::es) X.env=(false,eval e X.env)::Bj es X.env:=by rfl)(hpl:(Hh pos (Bj es X.env)).any (·.1)=false:=by rfl):PE X (.Call (.Name x p) (e::es) [] pos) (IX r t):=by
 w_pre q6
 exact Dz (Fq (ha pos pins s σ H _ I h) λus s1 ⟨vs,H1,I1,r1,q1⟩=>hc pins s1 σ H1 vs us Q I1 r1 q1) he hpl
end
end L2
namespace HT
open PySem PyProof.Rows
def lexLt:List Int->List Int->Bool
 | [],[]=>false
 | [],_::_=>true
 | _::_,[]=>false
 | x::xs,y::ys=>if x=y then lexLt xs ys else decide (x<y)
theorem lexLt_cons(x y:Int)(xs ys:List Int):lexLt (x::xs) (y::ys)=if x=y then lexLt xs ys else decide (x<y):=rfl
theorem lexLt_nil_nil:lexLt [] []=false:=rfl
theorem lexLt_nil_cons(y:Int)(ys:List Int):lexLt [] (y::ys)=true:=rfl
theorem lexLt_cons_nil(x:Int)(xs:List Int):lexLt (x::xs) []=false:=rfl
theorem zM(A:Ci)(s:Ai)(a:Int)(t:Tok)(c:Int)(u:Tok):∃e,Od A s (.int a t) (.int c u) e/\(e=true↔a=c) :=
 ⟨(a == c),SeqAt.EqAt.int_int a t c u,by simp⟩
theorem j8(A:Ci)(s:Ai)(a:Int)(t:Tok)(c:Int)(u:Tok)(prog:Bk)(w:World)(E:Value->Ai->Prop)(Q:Value->Ai->Prop)(h:Q (.bool (decide (a<c))) s):wpAny (model prog w) A (richCompare .Lt (.int a t) (.int c u)) Q E s :=
 (PyProof.Rows.lt_int h:wpAny (model prog w) A (Jl .Lt (.int a t) (.int c u)) Q E s)
section
open PySem.SeqAt
open PySem.AutoSeq1 (wpAny_loadPart')
open PySem.MeetsSeq PySem.MeetsSeq2 PySem.MeetsSeq3
theorem tuple_lt_ints(l b:Addr)(items items2:Array Value)(n n2:Nat)(dd dd2:Option Addr)(sl sl2:Array (Option Value))(ns ms:List Int)(hi:Fp items.toList ns)(hj:Fp items2.toList ms):Meets (Builtin.«tuple.__lt__» ⟨[.ref l,.ref b],[]⟩) (λ_ R s=>s.heap.get? l=some { cls:=.type "tuple",dict:=dd,data:=.seq items n,slots:=sl }/\s.heap.get? b=some { cls:=.type "tuple",dict:=dd2,data:=.seq items2 n2,slots:=sl2 }/\R (.ok (.ret (.bool (lexLt ns ms)))) s) :=
 .of_wp λprog w A R s h=>by
  obtain ⟨hp,g,d,tk,os⟩:=s; obtain ⟨hl,hb,h⟩:=h
  have f2:=AutoSeq1.sub_tuple_tuple
  have z1:items.size=ns.length:=by rw[<- hi.length]; simp
  have z2:items2.size=ms.length:=by rw[<- hj.length]; simp
  wp_walk using Jk hl,Jk hb,wpAny_forIn_list _ (λIe b s'=>b.1=none/\s'=⟨hp,g,d,tk,os⟩/\∃(vs ws:List Value) (ns' ms':List Int),Ie=vs.zip ws /\
   Fp vs ns'/\Fp ws ms'/\ns'.length+items2.size=ms'.length+items.size/\R (.ok (.ret (.bool (lexLt ns' ms')))) ⟨hp,g,d,tk,os⟩) _
  case turn =>
   rintro ⟨y,x⟩ Ie b s' ⟨hb',rfl,vs,ws,ns',ms',hz,hvi,hwi,hlen,hR⟩
   cases hvi with
   | nil=>rw[List.zip_nil_left] at hz; cases hz
   | cons a t hvi' =>
    cases hwi with
    | nil=>rw[List.zip_nil_right] at hz; cases hz
    | cons c u hwi' =>
     rw[Ig] at hz
     injection hz with hyx hrest
     injection hyx with hy hx
     subst hy hx
     rw[lexLt_cons] at hR
     simp only[Bl] at hlen
     obtain ⟨e,he,hiff⟩:=zM A.in1 ⟨hp,g,d,tk,os⟩ a t c u
     refine Aa (he prog w _ _ ?_)
     cases e with
     | true =>
      rw[if_pos (hiff.mp rfl)] at hR
      wp_walk
      exact ⟨rfl,rfl,_,_,_,_,hrest,hvi',hwi',by omega,hR⟩
     | false =>
      rw[if_neg (λq=>absurd (hiff.mpr q) Bs)] at hR
      have hri:=j8 A.in1 ⟨hp,g,d,tk,os⟩ a t c u prog w
      wp_walk using hri
      exact ⟨_,rfl,by simpa using hR⟩
  case fin =>
   rintro ⟨b1,b2⟩ s' ⟨hb',rfl,vs,ws,ns',ms',hz,hvi,hwi,hlen,hR⟩
   simp only at hb'
   subst hb'
   have hv:lexLt ns' ms'=decide (items.size<items2.size):=by
    cases hvi with
    | nil =>
     cases hwi with
     | nil =>
      simp only[Kj] at hlen
      rw[lexLt_nil_nil]
      exact (decide_eq_false (by omega)).symm
     | cons c u hw =>
      simp only[Kj,Bl] at hlen
      rw[lexLt_nil_cons]
      exact (decide_eq_true (by omega)).symm
    | cons a t hv =>
     cases hwi with
     | nil =>
      simp only[Kj,Bl] at hlen
      rw[lexLt_cons_nil]
      exact (decide_eq_false (by omega)).symm
     | cons c u hw =>
      rw[Ig] at hz
      cases hz
   rw[hv] at hR
   wp_walk
   exact ⟨_,rfl,by simpa [Builtin.Tuple.tupleCompareSizes] using hR⟩
  case h =>
   exact ⟨rfl,rfl,items.toList,items2.toList,ns,ms,rfl,hi,hj,by omega,h⟩
end
section
variable{prog:Bk}{w:World}{A:Ci}{E:Value->Ai->Prop}{s:Ai}
theorem lt_tupInts{l b:Addr}{items items2:Array Value}{ns ms:List Int}{Q:Value->Ai->Prop}(hl:IsTup s.heap l items)(hb:IsTup s.heap b items2)(hi:Fp items.toList ns)(hj:Fp items2.toList ms)(hu:A.units<cLine)(h:Q (.bool (lexLt ns ms)) s):wpAny (model prog w) A (Jl .Lt (.ref l) (.ref b)) Q E s:=by
 obtain ⟨⟨cls,dd,data,sl⟩,ho,hc,n,hd⟩:=id hl
 w_pre z2
 exact richCompare_meets_room (op:=.Lt) ⟨_,ho,rfl⟩ ⟨_,ho2,rfl⟩ PySem.F.slot_tuple_lt PySem.F.entry_tuple_lt (PySem.F.args_tuple_lt_2 _ _) (tuple_lt_ints l b items items2 n n2 dd dd2 sl sl2 ns ms hi hj)
  ⟨ho,ho2,show Value.bool (lexLt ns ms)≠Value.notImplemented/\Q (.bool (lexLt ns ms)) s from ⟨(λx=>nomatch x),h⟩⟩ hu
theorem cat_tup{t b:Addr}{vs ws:List Value}{Q:Value->Ai->Prop}(ht:IsTup s.heap t vs.toArray)(hb:IsTup s.heap b ws.toArray)(hv:vs≠[])(h1:ws=[]->Q (.ref t) s)(h2:ws≠[]->Q (.ref s.heap.objs.size) { s with heap:=s.heap.push { cls:=.type "tuple",data:=.seq (vs++ws).toArray } })(hsz:vs.length+ws.length<=Ay):wpAny (model prog w) A (Jp .Add (.ref t) (.ref b)) Q E s:=by
 obtain ⟨⟨cls,dd,data,sl⟩,ho,hc,n,hd⟩:=id ht
 w_pre z2
 have e:vs.toArray++ws.toArray=(vs++ws).toArray:=by simp
 by_cases hw:ws=[]
 ·exact concat_meets ⟨_,ho,rfl⟩ ⟨_,ho2,rfl⟩ mD seq_tuple_add PySem.F.slot_tuple_add PySem.F.entry_tuple_add (PySem.F.args_tuple_add_2 _ _)
   (tuple_addW1 t b vs.toArray ws.toArray n n2 dd dd2 sl sl2 (by simpa using hv) (by simp [hw])) ⟨ho,ho2,h1 hw⟩
 ·refine concat_meets ⟨_,ho,rfl⟩ ⟨_,ho2,rfl⟩ mD seq_tuple_add PySem.F.slot_tuple_add PySem.F.entry_tuple_add (PySem.F.args_tuple_add_2 _ _)
   (tuple_addW2 t b vs.toArray ws.toArray n n2 dd dd2 sl sl2 (by simpa using hv) (by simpa using hw) (by rw[Av,Av]; exact hsz)) ⟨ho,ho2,?_⟩
  rw[e]
  exact h2 hw
def sIx(n d:Nat):Option Int->Nat
 | none=>d
 | some v=>if v<0 then (v+(n:Int)).toNat else min v.toNat n
theorem sIx_none(n d:Nat):sIx n d none=d:=rfl
theorem sIx_nat(n d k:Nat):sIx n d (some (k:Int))=min k n:=by
 show (if (k:Int)<0 then ((k:Int)+(n:Int)).toNat else min (k:Int).toNat n)=min k n
 rw[if_neg (by omega),Ee]
theorem BZ(n d:Nat)(hd:d<=n)(o:Option Int):sIx n d o<=n:=by
 cases o with
 | none=>exact hd
 | some v =>
  show (if v<0 then (v+(n:Int)).toNat else min v.toNat n)<=n
  by_cases hv:v<0
  ·rw[if_pos hv]; omega
  ·rw[if_neg hv]; exact Nat.min_le_right _ _
theorem tZ(v:Int)(n d:Nat):(if v<0 then max (v+(n:Int)) 0 else min v (n:Int))=((sIx n d (some v):Nat):Int):=by
 show (if v<0 then max (v+(n:Int)) 0 else min v (n:Int))=(((if v<0 then (v+(n:Int)).toNat else min v.toNat n):Nat):Int)
 by_cases hv:v<0
 ·simp only[if_pos hv]; omega
 ·simp only[if_neg hv]; omega
theorem sG(lo hi:Option Int)(n:Nat):Ou lo hi 1 (n:Int)=(((sIx n 0 lo:Nat):Int),((sIx n n hi:Nat):Int)):=by
 have h1:¬ ((1:Int)<0):=by omega
 unfold Ou
 simp only[h1,if_false]
 refine Prod.ext ?_ ?_
 ·cases lo with
  | none=>rfl
  | some v=>exact tZ v n 0
 ·cases hi with
  | none=>rfl
  | some v=>exact tZ v n n
theorem sD(i j:Nat):Kk (i:Int) (j:Int) 1=j - i:=by
 unfold Kk
 have h1:(1:Int) > 0:=by omega
 simp only[h1,if_true,Int.ediv_one]
 split <;> omega
theorem dI{v:Value}{o:Option Int}{Q:Option Int->Ai->Prop}(p:bG v o)(h:Q o s):wpAny (model prog w) A (Builtin.Slice.slicePartIndex v) Q E s:=by
 cases p with
 | none=>exact slicePart_none h
 | int i t=>exact slicePart_int h
theorem sliceApplied_gen{sl:Addr}{vl vu:Value}{lo hi:Option Int}{n:Nat}{Q:Int×Int×Nat->Ai->Prop}(hs:s.heap.IsSliceOf sl vl vu .none)(pl:bG vl lo)(pu:bG vu hi)(h:Q (((sIx n 0 lo:Nat):Int),1,sIx n n hi - sIx n 0 lo) s):wpAny (model prog w) A (Zi (.ref sl) (pure (n:Int))) Q E s:=by
 obtain ⟨os,hos,hcs,hds⟩:=id hs
 unfold Zi Builtin.Slice.sliceFields
 refine Aa (Aa (Ei hos hds (x:=vl) rfl (Aa (Ei hos hds (x:=vu) rfl (Aa (Ei hos hds (x:=.none) rfl (Ae ?_)))))))
 refine Aa (slicePart_none ?_)
 show wpAny _ _ (if ((1:Int) == 0)=true then _ else _) _ _ s
 rw[if_neg (by decide)]
 refine Aa (dI pl (Aa (dI pu (Aa (Ae ?_)))))
 show wpAny _ _ (match Ou lo hi 1 (n:Int) with | (lo,hi)=>pure (lo,(1:Int),Kk lo hi 1)) _ _ s
 rw[sG lo hi n]
 show wpAny _ _ (pure (((sIx n 0 lo:Nat):Int),(1:Int),Kk ((sIx n 0 lo:Nat):Int) ((sIx n n hi:Nat):Int) 1)) _ _ s
 rw[sD]
 exact Ae h
theorem x9(xs:Array Value)(i k:Nat):((Cc k).filterMap λ(m:Nat)=>xs[((i:Int)+(m:Int) * 1).toNat]?).toArray=((xs.toList.drop i).take k).toArray:=by
 have e:(λ(m:Nat)=>xs[((i:Int)+(m:Int) * 1).toNat]?)=λm=>xs[i+m]?:=by
  funext m
  have : ((i:Int)+(m:Int) * 1).toNat=i+m:=by omega
  rw[this]
 rw[e]
 have:=pick_run xs i k
 rw[List.filterMap_map] at this
 have e2:((λx=>xs[x]?) ∘ λx=>i+x)=λm=>xs[i+m]?:=rfl
 rw[e2] at this
 rw[this]
theorem getItem_tuple_cut{t sl:Addr}{items:Array Value}{vl vu:Value}{lo hi:Option Int}{Q:Value->Ai->Prop}(ht:IsTup s.heap t items)(hs:s.heap.IsSliceOf sl vl vu .none)(pl:bG vl lo)(pu:bG vu hi)(hw:¬ (sIx items.size 0 lo=0/\sIx items.size items.size hi=items.size))(h:Q (.ref s.heap.objs.size) { s with heap:=s.heap.push { cls:=.type "tuple",data:=.seq ((items.toList.drop (sIx items.size 0 lo)).take (sIx items.size items.size hi - sIx items.size 0 lo)).toArray } })(hsz:items.size<=Ay):wpAny (model prog w) A (Rr (.ref t) (.ref sl)) Q E s:=by
 have htake:sizeOk (.seq ((items.toList.drop (sIx items.size 0 lo)).take (sIx items.size items.size hi - sIx items.size 0 lo)).toArray):=by
  show ((items.toList.drop (sIx items.size 0 lo)).take (sIx items.size items.size hi - sIx items.size 0 lo)).toArray.size<=Ay
  rw[Av,Cy,Lm,Am]
  omega
 have hj:sIx items.size items.size hi<=items.size:=BZ _ _ (Aj _) hi
 w_pre k
 refine Aa (sliceApplied_gen hs pl pu ?_)
 have hno:¬ ((((sIx items.size 0 lo:Nat):Int) == 0 && (1:Int) == 1 && (sIx items.size items.size hi - sIx items.size 0 lo) == items.size)=true):=by
  intro q
  rw[Ed,Ed] at q
  have q1:((sIx items.size 0 lo:Nat):Int)=0:=Ef q.1.1
  have q2:sIx items.size items.size hi - sIx items.size 0 lo=items.size:=Ef q.2
  exact hw ⟨by omega,by omega⟩
 show wpAny _ _ (if (((sIx items.size 0 lo:Nat):Int) == 0 && (1:Int) == 1 && (sIx items.size items.size hi - sIx items.size 0 lo) == items.size)=true then _ else _) _ _ s
 rw[if_neg hno,x9]
 first
  | exact Aa (m:=Gw _) (Cg (Ae ⟨_,rfl,Ae h⟩) htake)
  | exact Aa (m:=Gw _) (Cg (Aa (Ae (Ae ⟨_,rfl,Ae h⟩))) htake)
  | exact Aa (Aa (m:=Gw _) (Cg (Ae (Ae ⟨_,rfl,Ae h⟩)) htake))
  | exact Aa (Aa (m:=Gw _) (Cg (Ae ⟨_,rfl,Ae h⟩) htake))
end
end HT
namespace L2
open PySem PySem.Spec PyProof.Rows
abbrev TO:=St->Hp->(Option Int->Hp->Prop)->Prop
def PO(X:Cx)(e:Option Expr)(t:TO):Prop :=
 ∀(pins:List (Addr×Obj)) (s:Ai) (σ:St) (H:Hp) (Q:Option Int->Hp->Prop),Inv X pins σ H s->t σ H Q ->
  wpAny (model X.prog X.w) X.A (evalPart e X.env) (λu s'=>∃o H',Inv X pins σ H' s'/\bG u o/\Q o H') X.xe s
def P3:TO:=λ_ H Q=>Q none H
def HC(t:TE):TO:=λσ H Q=>t σ H λx H1=>∃i,x=.int i/\Q (some i) H1
theorem intsAre_of{ns:List Int}:∀{us:List Value},Gj (ns.map V.int) us->Fp us ns:=by
 induction ns with
 | nil=>intro us r; rw[Qg] at r; cases r; exact .nil
 | cons n ns ih =>
  intro us r
  rw[Ap] at r
  cases r with
  | cons r1 r2 =>
   obtain ⟨t,e⟩:=r1
   subst e
   exact .cons n t (ih r2)
section
variable{X:Cx}{e:Expr}{te:TE}{lo hi:Option Expr}{tl th:TO}{pos p2:Pos}
theorem L9:PO X none P3:=by
 w_pre t7
 rw[evalPart_none]
 exact Ae ⟨none,H,I,.none,h⟩
theorem Q5(h:PE X e te):PO X (some e) (HC te):=by
 intro pins s σ H Q I hw
 rw[evalPart_some]
 refine Fq (h pins s σ H _ I hw) λu s1 ⟨x,H1,I1,r1,q1⟩=>?_
 obtain ⟨i,rfl,q⟩:=q1
 obtain ⟨t,rfl⟩:=r1
 exact ⟨some i,H1,I1,.int i t,q⟩
def BE(X:Cx)(r:V->Option Int->Option Int->Hp->VK->Prop):Prop :=
 ∀(pins:List (Addr×Obj)) (s:Ai) (σ:St) (H:Hp) (x:V) (v vl vu:Value) (lo hi:Option Int) (sl:Addr) (Q:VK),Inv X pins σ H s->RelV x v->s.heap.IsSliceOf sl vl vu .none->bG vl lo->bG vu hi->r x lo hi H Q ->
  ∃T id,fH (.type T) "__getitem__" = pure (some (.builtin id))/\s.TypeIs v T/\wpAny (model X.prog X.w) X.A (Rr v (.ref sl)) (EP X pins σ Q) X.xe s
theorem BE.or{r r':V->Option Int->Option Int->Hp->VK->Prop}(h:BE X r)(h':BE X r'):BE X (λx lo hi H Q=>r x lo hi H Q\/r' x lo hi H Q):=by
 intro pins s σ H x v vl vu lo hi sl Q I rx hs pl pu q
 rcases q with q | q
 ·exact h pins s σ H x v vl vu lo hi sl Q I rx hs pl pu q
 ·exact h' pins s σ H x v vl vu lo hi sl Q I rx hs pl pu q
def LU(r:V->Option Int->Option Int->Hp->VK->Prop)(te:TE)(tl th:TO):TE:=λσ H Q=>te σ H λx H1=>tl σ H1 λl H2=>th σ H2 λu H3=>r x l u H3 Q
theorem nA{r:V->Option Int->Option Int->Hp->VK->Prop}(hr:BE X r)(he:PE X e te)(hl:PO X lo tl)(hu:PO X hi th):PE X (.Subscript e (.Slice lo hi none p2) pos) (LU r te tl th):=by
 w_pre t7
 refine Subscript_ (Fq (he pins s σ H _ I h) λv s1 ⟨x,H1,I1,r1,q1⟩=>?_)
 refine wpAny_Slice (Fq (hl pins s1 σ H1 _ I1 q1) λvl s2 ⟨l,H2,I2,pl,q2⟩=>Fq (hu pins s2 σ H2 _ I2 q2) λvu s3 ⟨u,H3,I3,pu,q3⟩=>?_)
 rw[evalPart_none]
 refine Ae ?_
 have I4:Inv X pins σ H3 { s3 with heap:=s3.heap.push { cls:=.type "slice",data:=.fields #[vl,vu,.none] } }:=I3.kept (t':=s3.toks) λb ob q=>Ag _ q
 obtain ⟨T,id,hT,ht,hg⟩:=hr pins { s3 with heap:=s3.heap.push { cls:=.type "slice",data:=.fields #[vl,vu,.none] } } σ H3 x v vl vu l u s3.heap.objs.size Q I4 r1 (Heap.IsSliceOf.new ..) pl pu q3
 show wpAny (model X.prog X.w) X.A (subscriptTail e (.Slice lo hi none p2) v (.ref s3.heap.objs.size)) (EP X pins σ Q) X.xe { s3 with heap:=s3.heap.push { cls:=.type "slice",data:=.fields #[vl,vu,.none] } }
 exact tail_any (ops:=[.ref s3.heap.objs.size,v]) ht hT hg (by with_unfolding_all rfl)
def cP(xs:List V)(lo hi:Option Int):List V:=(xs.drop (HT.sIx xs.length 0 lo)).take (HT.sIx xs.length xs.length hi - HT.sIx xs.length 0 lo)
theorem aY(xs:List V)(lo hi:Option Int):(cP xs lo hi).length<=xs.length:=by
 unfold cP
 rw[Cy,Lm]
 omega
def KM(K:PySem.W.Frag):V->Option Int->Option Int->Hp->VK->Prop:=λx lo hi H Q=>∃a xs,x=.ref a/\Rq K H a xs /\
 ¬ (HT.sIx xs.length 0 lo=0/\HT.sIx xs.length xs.length hi=xs.length)/\∀p,H p=none->Q (.ref p) (upd H p (.tup (cP xs lo hi)))
theorem AQ:BE X (KM X.K):=by
 w_pre u8
 obtain ⟨a,xs,rfl,hx,hw,q⟩:=h
 cases rx
 obtain ⟨its,r,ht,hz⟩:=I.tuple hx
 w_pre h5
 refine HT.getItem_tuple_cut ht hs pl pu (by rw[hlen]; exact hw) ?_ (by rw[hlen]; exact hz)
 rw[hlen]
 refine ⟨.ref s.heap.objs.size,_,I.laid (t':=s.toks) (o:=.tup (cP xs lo hi)) (λb ob q=>Ag _ q) (Aj _) ?_,rfl,q _ (I.hok.fresh (Aj _))⟩
 exact ⟨Cb (aY xs lo hi) hz,_,(r.drop (HT.sIx xs.length 0 lo)).take (HT.sIx xs.length xs.length hi - HT.sIx xs.length 0 lo),IsTup.new _ _⟩
def FA(K:PySem.W.Frag):R2:=λx y H Q=>∃a b xs ys,x=.ref a/\y=.ref b/\Rq K H a xs/\Rq K H b ys/\xs≠[]/\xs.length+ys.length<=Ay /\
 (ys=[]->Q (.ref a) H)/\(ys≠[]->∀p,H p=none->Q (.ref p) (upd H p (.tup (xs++ys))))
theorem Gj.nil_iff{xs:List V}{us:List Value}(r:Gj xs us):us=[]↔xs=[]:=by
 cases r with
 | nil=>simp
 | cons _ _=>simp
theorem Q1:Ze X (Jp .Add) (FA X.K):=by
 w_pre h8
 obtain ⟨a,b,xs,ys,rfl,rfl,ha,hb,hx,hz,q1,q2⟩:=h
 cases rx
 w_pre j3
 refine HT.cat_tup p1 p2 (λz=>hx (r1.nil_iff.mp z)) (λz=>⟨.ref a,H,I,rfl,q1 (r2.nil_iff.mp z)⟩) (λz=>?_) (by rw[<- r1.length,<- r2.length]; exact hz)
 refine ⟨.ref s.heap.objs.size,_,I.laid (t':=s.toks) (o:=.tup (xs++ys)) (λb ob q=>Ag _ q) (Aj _) ?_,rfl,q2 (λw=>z (r2.nil_iff.mpr w)) _ (I.hok.fresh (Aj _))⟩
 exact ⟨by rw[Bn]; exact hz,_,r1.append r2,IsTup.new _ _⟩
end
def K8(n:Nat)(i:Int):Option Nat:=if 0<=i then (if i<n then some i.toNat else none) else if -(n:Int)<=i then some (i+n).toNat else none
def Wq{α:Type}(xs:List α)(i:Int):Option α:=(K8 xs.length i).bind λj=>xs[j]?
theorem vF{n:Nat}{i:Int}{j:Nat}(h:K8 n i=some j):seqIndex? i n=some j/\j<n /\ -(n:Int)<=i/\i<n:=by
 unfold K8 at h
 by_cases h0:0<=i
 ·rw[if_pos h0] at h
  by_cases h1:i<n
  ·rw[if_pos h1] at h
   have e:i.toNat=j:=Ca h
   exact ⟨by rw[seqIndex_of h0 h1,e],by omega,by omega,h1⟩
  ·rw[if_neg h1] at h; cases h
 ·rw[if_neg h0] at h
  by_cases h1:-(n:Int)<=i
  ·rw[if_pos h1] at h
   have e:(i+n).toNat=j:=Ca h
   exact ⟨by rw[seqIndex_neg (by omega) h1,e],by omega,h1,by omega⟩
  ·rw[if_neg h1] at h; cases h
theorem kN{α:Type}{xs:List α}{i:Int}{v:α}(h:Wq xs i=some v):∃j,seqIndex? i xs.length=some j/\xs[j]? = some v/\j<xs.length /\ -(xs.length:Int)<=i/\i<xs.length:=by
 unfold Wq at h
 cases e:K8 xs.length i with
 | none=>rw[e] at h; cases h
 | some j =>
  rw[e] at h
  obtain ⟨h1,h2,h3,h4⟩:=vF e
  exact ⟨j,h1,h,h2,h3,h4⟩
theorem vK{α:Type}{xs:List α}{j:Nat}{v:α}(h:xs[j]? = some v):Wq xs (j:Int)=some v:=by
 have hj:j<xs.length:=(Ax.mp h).1
 have e:K8 xs.length (j:Int)=some j:=by
  unfold K8
  rw[if_pos (by omega),if_pos (by omega)]; simp
 unfold Wq; rw[e]; exact h
def kE(b:Expr):Prop:=∀o i,subscripted b false o i=operate [o,i] (Rr o i)
def M6(X:Cx)(r:R2):Prop :=
 ∀(value slice:Expr) (pins:List (Addr×Obj)) (s:Ai) (σ:St) (H:Hp) (x y:V) (v u:Value) (Q:VK),Inv X pins σ H s->RelV x v->RelV y u->r x y H Q ->
  subscripted slice false v u=operate [v,u] (Rr v u)->wpAny (model X.prog X.w) X.A (subscriptTail value slice v u) (EP X pins σ Q) X.xe s
def LN(X:Cx)(id:String)(r:V->List V->Hp->VK->Prop):Prop :=
 ∀(pins:List (Addr×Obj)) (s:Ai) (σ:St) (H:Hp) (x:V) (xs:List V) (v:Value) (us:List Value) (Q:VK),Inv X pins σ H s->RelV x v->Gj xs us->r x xs H Q ->
  wpAny (model X.prog X.w) X.A (call (.builtin id) (v::us)) (EP X pins σ Q) X.xe s
section
variable{X:Cx}{a b:Expr}{ta tb:TE}{pos:Pos}
theorem M6.or{r r':R2}(h:M6 X r)(h':M6 X r'):M6 X (λx y H Q=>r x y H Q\/r' x y H Q):=by
 intro value slice pins s σ H x y v u Q I rx ry q hs
 rcases q with q | q
 ·exact h value slice pins s σ H x y v u Q I rx ry q hs
 ·exact h' value slice pins s σ H x y v u Q I rx ry q hs
theorem eQ{r:R2}(hr:M6 X r)(ha:PE X a ta)(hb:PE X b tb)(hs:kE b):PE X (.Subscript a b pos) (IH r ta tb):=by
 w_pre t7
 exact Subscript_ (DQ ha hb I h λv u s2 x y H2 I2 rx ry q=>hr a b pins s2 σ H2 x y v u Q I2 rx ry q (hs _ _))
def EZ(K:PySem.W.Frag):R2:=λx y H Q=>∃p xs i v,x=.ref p/\y=.int i/\Mp K H p xs/\Wq xs i=some v/\Q v H
def ES(K:PySem.W.Frag):R2:=λx y H Q=>∃p xs i v,x=.ref p/\y=.int i/\Rq K H p xs/\Wq xs i=some v/\Q v H
def GC:R2:=λx y H Q=>∃z i c,x=.str z/\y=.int i/\z.length<=Ay/\Wq z.cps.toList i=some c/\Q (.str ⟨#[c]⟩) H
theorem Vs:M6 X (EZ X.K):=by
 w_pre o1
 obtain ⟨its,r,pl,hz⟩:=I.list hq
 w_pre t0
 by_cases h0:0<=i
 ·have hj:i.toNat=j:=by
   rw[seqIndex_of h0 h5] at h1
   exact Ca h1
  exact item_listR pl.isList h0 (by omega) (by rw[hj]; simpa using ew) fin hs
 ·have hj:(i+(its.toArray.size:Int)).toNat=j:=by
   rw[seqIndex_neg (by omega) h4] at h1
   rw[Av,<- hl]
   exact Ca h1
  exact L1 (x:=w) pl.isList.typeIs II.lookup
   (wpAny_getItem_list_neg (Q:=λr s'=>r=w/\EP X pins σ Q r s') pl.isList (by omega) (by rw[Av] <;> omega) (by omega) (by rw[hj]; simpa using ew) ⟨rfl,fin⟩) hs
theorem JD:M6 X (ES X.K):=by
 w_pre o1
 obtain ⟨its,r,pl,hz⟩:=I.tuple hq
 w_pre t0
 exact L1 (x:=w) pl.typeIs slot_tuple_getitem.lookup
  (getItem_tuple (j:=j) (Q:=λr s'=>r=w/\EP X pins σ Q r s') pl (by omega) (by omega) (by rw[Av,<- hl]; exact h1) (by simpa using ew) ⟨rfl,fin⟩) hs
theorem AG:M6 X GC:=by
 intro value slice pins s σ H x y v u Q I rx ry h hs
 obtain ⟨z,i,c,rfl,rfl,hz,he,q⟩:=h
 w_pre q8
 obtain ⟨t',rfl⟩:=ry
 obtain ⟨j,h1,h2,h3,h4,h5⟩:=kN he
 have hl:z.cps.toList.length=z.length:=by simp [Str.length]
 rw[hl] at h1 h4 h5
 have hn:=Wo
 exact tail_any (typeIs_str s z t) slot_str_getitem.lookup (getItem_str (c:=c) (by
  have e1:decide (i < -(2 ^ 63:Int))=false:=decide_eq_false (by omega)
  have e2:decide (i ≥ 2 ^ 63)=false:=decide_eq_false (by omega)
  rw[e1,e2,Bool.or_false]) (by rw[h1]; simpa using h2) ⟨.str ⟨#[c]⟩,H,I.tok _,⟨_,rfl⟩,q⟩) hs
def KR(K:PySem.W.Frag):R2:=λx y H Q=>EZ K x y H Q\/ES K x y H Q\/GC x y H Q
theorem BM:M6 X (KR X.K):=Vs.or (JD.or AG)
theorem sE(its:List Value)(n j:Nat)(u:Value):Gf (·.setIfInBounds j u) { cls:=.type "list",data:=.seq its.toArray n }={ cls:=.type "list",data:=.seq (its.set j u).toArray n }:=by
 simp [Gf]
theorem Inv.lst{pins:List (Addr×Obj)}{σ:St}{H:Hp}{s:Ai}{p:Addr}{xs:List V}(I:Inv X pins σ H s)(h:H p=some (.lst xs)):∃(its:List Value) (n:Nat),Gj xs its/\s.heap.get? p=some { cls:=.type "list",data:=.seq its.toArray n }/\xs.length<=Ay:=by
 obtain ⟨z,its,n,r,e⟩:=I.hok p _ h
 exact ⟨its,n,r,e,z⟩
theorem Inv.lstUpd{pins:List (Addr×Obj)}{σ:St}{H:Hp}{s:Ai}{p:Addr}{xs ys:List V}{its its':List Value}{n n':Nat}{f:Obj->Obj}(I:Inv X pins σ H s)(h:H p=some (.lst xs))(ho:s.heap.get? p=some { cls:=.type "list",data:=.seq its.toArray n })(hf:f { cls:=.type "list",data:=.seq its.toArray n }={ cls:=.type "list",data:=.seq its'.toArray n' })(r:Gj ys its')(hz:ys.length<=Ay)(t:Nat):Inv X pins σ (upd H p (.lst ys)) { s with heap:=s.heap.update p f,toks:=t }:=by
 have e:(s.heap.update p f).get? p=some { cls:=.type "list",data:=.seq its'.toArray n' }:=by
  rw[Fe f ho (by rw[hf] <;> rfl),hf]
 refine I.write (x:=p) (e:=p) (by rw[h]; trivial) (.inl rfl) (λb u hb q=>(tP _ _ (Lu hb)).trans q) ⟨_,e⟩ ?_
 exact ⟨hz,its',n',r,e⟩
def Y5:V->V->V->Hp->(Hp->Prop)->Prop:=λo i v H Q=>∃p xs k j,o=.ref p/\i=.int k/\H p=some (.lst xs)/\K8 xs.length k=some j/\Q (upd H p (.lst (xs.set j v)))
theorem cV:BA X Y5:=by
 intro pins s σ H o i v ov iv u Q I ro ri rv h
 obtain ⟨p,xs,k,j,rfl,rfl,hp,hj,q⟩:=h
 cases ro
 obtain ⟨t,rfl⟩:=ri
 obtain ⟨its,n,r,ho,hz⟩:=I.lst hp
 obtain ⟨h1,h2,h3,h4⟩:=vF hj
 have hl:=r.length
 have hn:=Wo
 have I':Inv X pins σ (upd H p (.lst (xs.set j v))) { s with heap:=s.heap.update p (Gf (·.setIfInBounds j u)) } :=
  I.lstUpd hp ho (sE its n j u) (r.set rv j) (by rw[List.length_set]; exact hz) s.toks
 by_cases h0:0<=k
 ·have hk:k.toNat=j:=by
   rw[seqIndex_of h0 h4] at h1
   exact Ca h1
  exact PySem.W.ki_setAt ho h0 (by omega) (by rw[Av,<- hl]; exact h4) (by rw[hk]; exact ⟨_,I',q⟩)
 ·have hk:(k+(its.toArray.size:Int)).toNat=j:=by
   rw[seqIndex_neg (by omega) h3] at h1
   rw[Av,<- hl]
   exact Ca h1
  exact PySem.W.ki_setBack ho (by omega) (by rw[Av,<- hl]; exact h3) (by omega) (by rw[hk]; exact ⟨_,I',q⟩)
theorem kM(lo hi:Option Int)(n:Nat):(Qq lo hi none n).1=((HT.sIx n 0 lo:Nat):Int)/\(Qq lo hi none n).2.1=((HT.sIx n n hi:Nat):Int)/\(Qq lo hi none n).2.2=1:=by
 refine ⟨?_,?_,rfl⟩
 ·cases lo with
  | none=>simp [Qq,HT.sIx]
  | some i =>
   w_pre h1
 ·cases hi with
  | none=>simp [Qq,HT.sIx]
  | some i =>
   w_pre h1
theorem gH(its:List Value)(lo hi:Option Int):slicePick its.toArray lo hi none=((its.drop (HT.sIx its.length 0 lo)).take (HT.sIx its.length its.length hi - HT.sIx its.length 0 lo)).toArray:=by
 obtain ⟨h1,h2,h3⟩:=kM lo hi its.toArray.size
 unfold slicePick
 rw[h1,h2,h3]
 simp only[sliceRange_one,pick_run,Av] <;> rfl
def CY(K:PySem.W.Frag):V->Option Int->Option Int->Hp->VK->Prop:=λx lo hi H Q=>∃a xs,x=.ref a/\Mp K H a xs/\∀p,H p=none->Q (.ref p) (upd H p (.lst (cP xs lo hi)))
theorem O2:BE X (CY X.K):=by
 w_pre u8
 obtain ⟨a,xs,rfl,hx,q⟩:=h
 cases rx
 obtain ⟨its,r,ht,hz⟩:=I.list hx
 have hlen:=r.length
 refine ⟨"list",_,II.lookup,ht.isList.typeIs,?_⟩
 refine wpAny_getItem_list_slice ht.isList hs pl pu .none (by simp) ?_ (by rw[Av] <;> omega)
 rw[gH,<- hlen]
 refine ⟨.ref s.heap.objs.size,_,I.laid (t':=s.toks) (o:=.lst (cP xs lo hi)) (λb ob q=>Ag _ q) (Aj _) ?_,rfl,q _ (I.hok.fresh (Aj _))⟩
 exact ⟨Cb (aY xs lo hi) hz,_,0,(r.drop (HT.sIx xs.length 0 lo)).take (HT.sIx xs.length xs.length hi - HT.sIx xs.length 0 lo),Au _ rfl⟩
theorem kJ:Mh X (.type "list") (λxs H Q=>∃p ys,xs=[.ref p]/\(Mp X.K H p ys\/Rq X.K H p ys)/\∀l,H l=none->Q (.ref l) (upd H l (.lst ys))):=by
 w_pre r7
 obtain ⟨p,ys,rfl,hq,q⟩:=h
 w_pre c10
 cases rx
 have fin:∀(its:List Value),Gj ys its->ys.length<=Ay->∀(h':Heap) (c':Nat),(∀b o',s.heap.get? b=some o'->h'.get? b=some o') ->
   h'.get? s.heap.objs.size=some { cls:=.type "list",dict:=none,data:=.seq its.toArray c',slots:=#[] }->EP X pins σ Q (.ref s.heap.objs.size) { s with heap:=h' }:=λits r' hz h' c' kp e =>
  ⟨.ref s.heap.objs.size,_,I.laid (t':=s.toks) kp (Aj _) (show Kb X.prog X.w _ h' _ (.lst ys) from ⟨hz,its,c',r',e⟩),rfl,q _ (I.hok.fresh (Aj _))⟩
 rcases hq with hq | hq
 ·obtain ⟨its,r',pl,hz⟩:=I.list hq
  have hlen:=r'.length
  obtain ⟨o,ho,hc,n,hd⟩:=pl.isList
  exact call_list_seq p (.inl rfl) ho hc hd (λh' c' kp e=>fin its r' hz h' c' kp e) (by simp only[Av] <;> omega)
 ·obtain ⟨its,r',pl,hz⟩:=I.tuple hq
  have hlen:=r'.length
  obtain ⟨o,ho,hc,n,hd⟩:=pl
  exact call_list_seq p (.inr rfl) ho hc hd (λh' c' kp e=>fin its r' hz h' c' kp e) (by simp only[Av] <;> omega)
theorem Wg:Mh X (.type "tuple") (λxs H Q=>∃p ys,xs=[.ref p]/\((Mp X.K H p ys/\∀l,H l=none->Q (.ref l) (upd H l (.tup ys)))\/(Rq X.K H p ys/\Q (.ref p) H))):=by
 w_pre r7
 obtain ⟨p,ys,rfl,h⟩:=h
 w_pre c10
 cases rx
 rcases h with ⟨hq,q⟩ | ⟨hq,q⟩
 ·obtain ⟨its,r',pl,hz⟩:=I.list hq
  have hlen:=r'.length
  refine call_tuple_list pl.isList (λh' kp=>?_) (by simp only[Av] <;> omega)
  have I1:Inv X pins σ H { s with heap:=h' }:=I.kept (t':=s.toks) kp
  have I2:Inv X pins σ (upd H h'.objs.size (.tup ys)) { s with heap:=h'.push { cls:=.type "tuple",data:=.seq its.toArray } } :=
   I1.laid (t':=s.toks) (λb o e=>Ag _ e) (Aj _) (show Kb X.prog X.w _ _ _ (.tup ys) from ⟨hz,its,r',IsTup.new _ _⟩)
  exact ⟨.ref h'.objs.size,_,I2,rfl,q _ (I1.hok.fresh (Aj _))⟩
 ·obtain ⟨its,r',pl,hz⟩:=I.tuple hq
  exact call_tuple_same pl ⟨.ref p,H,I,rfl,q⟩
def LJ(K:PySem.W.Frag)(T:String)(x:V)(H:Hp):Prop:=match x with
 | .str _=>T = "str"
 | .int _=>T = "int"
 | .ref p=>(T = "list" /\ ∃xs,Mp K H p xs)\/(T = "tuple" /\ ∃o,K.lookup p=some o/\o.cls=.type "tuple" /\ o.dict=none) \/
   (T = "dict" /\ ((∃kvs,H p=some (.dK kvs))\/∃kvs,H p=some (.dT kvs)))\/(T = "set" /\ ∃S n,H p=some (.set S n))
 | _=>False
theorem BR{pins:List (Addr×Obj)}{σ:St}{H:Hp}{s:Ai}{T:String}{x:V}{v:Value}(I:Inv X pins σ H s)(r:RelV x v)(ty:LJ X.K T x H):s.TypeIs v T/\∀a,v=.ref a->∃ob,s.heap.get? a=some ob/\ob.dict=none:=by
 cases x with
 | str z =>
  obtain ⟨t,rfl⟩:=r
  cases (show T = "str" from ty)
  exact ⟨typeIs_str s z t,λ_ e=>nomatch e⟩
 | int i =>
  obtain ⟨t,rfl⟩:=r
  cases (show T = "int" from ty)
  exact ⟨typeIs_int s i t,λ_ e=>nomatch e⟩
 | ref p =>
  cases r
  rcases ty with ⟨rfl,xs,hq⟩ | ⟨rfl,o,hk,hc,hd⟩ | ⟨rfl,hk⟩ | ⟨rfl,S,n,hk⟩
  ·obtain ⟨its,_,pl,_⟩:=I.list hq
   refine ⟨pl.isList.typeIs,λa e=>?_⟩
   cases e
   obtain ⟨o,n,e,c,hd,_⟩:=pl
   exact ⟨o,e,hd⟩
  ·refine ⟨⟨o,I.kIn p o hk,hc⟩,λa e=>?_⟩
   cases e
   exact ⟨o,I.kIn _ o hk,hd⟩
  ·have z:∃o,s.heap.get? p=some o/\o.ExactDict:=by
    rcases hk with ⟨kvs,hk⟩ | ⟨kvs,hk⟩
    w_pre m6
    w_pre m6
   obtain ⟨o,e,ex⟩:=z
   w_pre y3
  ·obtain ⟨o,_,_,_,e,ex,_⟩:=I.hok p _ hk
   w_pre y3
 | _=>exact Le ty
def LP(K:PySem.W.Frag)(T:String)(r:V->List V->Hp->VK->Prop)(to:TE)(t:TA):TE:=λσ H Q=>to σ H λx H1=>LJ K T x H1/\t σ H1 λxs H2=>r x xs H2 Q
variable{o e:Expr}{es:List Expr}{to:TE}{t:TA}{name:Str}{apos cpos:Pos}{T id:String}{r:V->List V->Hp->VK->Prop}
theorem Z1(pa:PlainAttrs T)(slot:Slot T name id)(hty:typeOf (.builtin id)=pure (.type "method_descriptor"))(hm:LN X id r)(ho:PE X o to)(ha:PA X (e::es) t)
  (hbase:Vu o name X.env (eval o X.env)=eval o X.env:=by rfl)
  (hfew:((Hh cpos (Bj (e::es) X.env)).all (λx=>!x.1) && (backToKw cpos (bD [] X.env)).all (λx=>x.1.isSome)
   && decide ((e::es).length+([]:List Uy).length+(if ([]:List Uy).isEmpty then 0 else 1)<30))=true:=by rfl)
  (hline:(apos.endLine == cpos.line)=true:=by rfl) (hs:Bj (e::es) X.env=(false,eval e X.env)::Bj es X.env:=by rfl) (hplain:(Hh cpos (Bj es X.env)).any (·.1)=false:=by rfl) :
  PE X (.Call (.Attribute o name apos) (e::es) [] cpos) (LP X.K T r to t):=by
 w_pre t7
 refine wpAny_Call_method_late hbase hfew hline rfl (Fq (ho pins s σ H _ I h) λv s1 ⟨x,H1,I1,r1,ty,q1⟩=>?_)
 obtain ⟨h1,h2⟩:=BR I1 r1 ty
 refine ⟨T,id,pa,slot,hty,h1,h2,?_⟩
 have hA:=ha cpos pins s1 σ H1 _ I1 q1
 rw[hs] at hA ⊢
 refine Calls.callWith_builtin (by show (false || (Hh cpos (Bj es X.env)).any (·.1))=false; rw[hplain] <;> rfl) (Calls.evalArgs_plain ?_)
 exact Fq hA λus s2 ⟨vs,H2,I2,r2,q2⟩=>hm pins s2 σ H2 x vs v us Q I2 r1 r2 q2
end
def JS(X:Cx)(id:String)(r:V->List V->Hp->VK->Prop):Prop :=
 ∀(pins:List (Addr×Obj)) (s:Ai) (σ:St) (H:Hp) (x:V) (xs:List V) (v:Value) (us:List Value) (Q:VK),Inv X pins σ H s->RelV x v->Gj xs us->r x xs H Q ->
  wpAny (model X.prog X.w) X.A (call (.builtin id) (v::us)) (EP X pins σ Q) X.xe s
theorem Gj.one:∀{x:V} {us:List Value},Gj [x] us->∃u,us=[u]/\RelV x u
 | _,_,.cons r .nil=>⟨_,rfl,r⟩
theorem Gj.two{x y:V}{us:List Value}(h:Gj [x,y] us):∃u v,us=[u,v]/\RelV x u/\RelV y v:=by
 cases h with
 | cons r t =>
  cases t with
  | cons q t =>
   cases t
   exact ⟨_,_,rfl,r,q⟩
theorem Gj.rep{xs:List V}{us:List Value}(h:Gj xs us):∀k:Nat,Gj (By k xs).flatten (By k us).flatten
 | 0=>.nil
 | k+1=>by
  rw[Gv,Gv,Jb,Jb]
  exact Gj.append h (Gj.rep h k)
theorem foldl_rep(its:List Value):∀(k:Nat) (acc:List Value),List.foldl (λx1 x2=>x1++x2) acc.toArray (By k its.toArray)=(acc++(By k its).flatten).toArray
 | 0,acc=>by simp
 | k+1,acc=>by
  have e:acc.toArray++its.toArray=(acc++its).toArray:=by simp
  have e2:(acc++its)++(By k its).flatten=acc++(By (k+1) its).flatten:=by
   rw[Gv,Jb,Bw]
  rw[<- e2,<- foldl_rep its k (acc++its),<- e,Gv,List.foldl_cons]
section
variable{X:Cx}{pins:List (Addr×Obj)}{σ:St}{H:Hp}{s:Ai}{l b:Addr}{xs ys zs:List V}
theorem Inv.lset{its its':List Value}{n:Nat}{f:Array Value->Array Value}{t':Nat}(I:Inv X pins σ H s)(hH:H l=some (.lst xs))(e:s.heap.get? l=some { cls:=.type "list",data:=.seq its.toArray n })(hf:f its.toArray=its'.toArray)(hv:Gj ys its')(hz:ys.length<=Ay):Inv X pins σ (upd H l (.lst ys)) { s with heap:=s.heap.update l (Gf f),toks:=t' }:=by
 have q:=PySem.IsL.update e f
 rw[hf] at q
 refine I.write (x:=l) (e:=l) (by rw[hH]; exact trivial) (.inl rfl) (λb' u hb hu=>(tP s.heap (Gf f) (Lu hb)).trans hu) ⟨_,q⟩ ?_
 exact ⟨hz,its',_,hv,q⟩
theorem Inv.lnew{its:List Value}{t':Nat}(I:Inv X pins σ H s)(hv:Gj ys its)(hz:ys.length<=Ay):Inv X pins σ (upd H s.heap.objs.size (.lst ys)) { s with heap:=s.heap.push { cls:=.type "list",data:=.seq its.toArray },toks:=t' } :=
 I.laid (λ_ _ q=>Ag _ q) (Aj _) ⟨hz,its,0,hv,Au _ rfl⟩
theorem Inv.fresh(I:Inv X pins σ H s):H s.heap.objs.size=none:=I.hok.fresh (Aj _)
theorem Inv.lstM(I:Inv X pins σ H s)(hH:H l=some (.lst xs)):xs.length<=Ay/\∃(its:List Value) (n:Nat),Gj xs its/\xs.length=its.length/\s.heap.get? l=some { cls:=.type "list",data:=.seq its.toArray n }:=by
 obtain ⟨z,its,n,r,e⟩:=I.hok l _ hH
 exact ⟨z,its,n,r,r.length,e⟩
theorem qK{n:Nat}(h:n<=Ay):Lb n=false:=by
 unfold Lb
 exact decide_eq_false (by omega)
end
section
variable{X:Cx}
def N8:V->List V->Hp->VK->Prop:=λx vs H Q=>∃l xs y,x=.ref l/\vs=[y]/\H l=some (.lst xs)/\xs.length<Ay/\Q .non (upd H l (.lst (xs++[y])))
theorem Pc:JS X "list.append" N8:=by
 w_pre h9
 obtain ⟨l,xs,y,rfl,rfl,hH,hz,q⟩:=h
 cases rx
 obtain ⟨u,rfl,ru⟩:=rv.one
 w_pre m9
 refine Xj F.slot_list_append ⟨_,e,rfl⟩ F.entry_list_append (F.args_list_append_2 _ _) (PySem.list_append l its.toArray n u (by rw[Av]; omega)) ⟨e,?_⟩
 refine ⟨.non,_,I.lset (its':=its++[u]) hH e (by simp) (r.append (.cons ru .nil)) ?_,rfl,q⟩
 rw[Bn,Kt]
 omega
def N3:V->List V->Hp->VK->Prop:=λx vs H Q=>∃l b xs zs,x=.ref l/\vs=[.ref b]/\H l=some (.lst xs)/\H b=some (.lst zs)/\xs.length+zs.length<=Ay/\Q .non (upd H l (.lst (xs++zs)))
theorem EN:JS X "list.extend" N3:=by
 w_pre h9
 w_pre j7
 obtain ⟨u,rfl,ru⟩:=rv.one
 cases ru
 w_pre z5
 have hsz:its.toArray.size+its2.toArray.size<=Ay:=by rw[Av,Av]; omega
 have hlong:¬ (!its.toArray.isEmpty && Lb (its.toArray.size+its2.toArray.size))=true:=by
  rw[qK hsz,Xg]
  exact Bs
 refine Xj F.slot_list_extend ⟨_,e,rfl⟩ F.entry_list_extend (F.args_list_extend_2 _ _)
  (AutoSeq1.list_extend_list_list_0 l its.toArray n b its2.toArray n2 hlong (by rw[Av]; omega) (by omega)) ⟨e,e2,?_⟩
 refine ⟨.non,_,I.lset (its':=its++its2) hH e (by simp) (r.append r2) ?_,rfl,q⟩
 rw[Bn]
 omega
def FQ:R2:=λx y H Q=>∃l b xs zs,x=.ref l/\y=.ref b/\H l=some (.lst xs)/\H b=some (.lst zs)/\xs.length+zs.length<=Ay/\∀p,H p=none->Q (.ref p) (upd H p (.lst (xs++zs)))
theorem CN:Ze X (Jp .Add) FQ:=by
 w_pre h8
 w_pre j7
 cases ry
 w_pre z5
 refine PySem.P.add_list e e2 ?_ (by rw[Av,Av]; omega)
 have ea:its.toArray++its2.toArray=(its++its2).toArray:=by simp
 rw[ea]
 exact ⟨.ref _,_,I.lnew (t':=s.toks) (r.append r2) (by rw[Bn]; omega),rfl,q _ I.fresh⟩
def FT:R2:=λx y H Q=>∃l k xs,x=.ref l/\y=.int k/\H l=some (.lst xs) /\ -(2 ^ 63)<=k/\k<2 ^ 63/\xs.length * k.toNat<=Ay /\
 ∀p,H p=none->Q (.ref p) (upd H p (.lst (By k.toNat xs).flatten))
theorem vT{α:Type}(xs:List α)(k:Nat):(By k xs).flatten.length=k * xs.length:=by
 induction k with
 | zero=>simp
 | succ k ih=>rw[Gv,Jb,Bn,ih,Nat.succ_mul,Nat.add_comm]
theorem EH:Ze X (Jp .Mult) FT:=by
 w_pre h8
 obtain ⟨l,k,xs,rfl,rfl,hH,h1,h2,hz,q⟩:=h
 cases rx
 obtain ⟨t,rfl⟩:=ry
 w_pre m9
 have hlen:its.toArray.size * k.toNat<=Ay:=by rw[Av,<- hl]; exact hz
 have hcap:¬ its.toArray.size * k.toNat > (2 ^ 63 - 1) / 8:=by
  have : (Ay:Nat)<=(2 ^ 63 - 1) / 8:=by decide
  omega
 have hfit:¬ (!Ol k)=true:=by
  rw[fitsIndex_both h1 h2]
  exact Bs
 have hlong:¬ Lb (its.toArray.size * k.toNat)=true:=by
  rw[qK hlen]
  exact Bs
 have hnew:List.foldl (λx1 x2=>x1++x2) #[] (By (if its.toArray.isEmpty=true then 0 else k.toNat) its.toArray)=(By k.toNat its).flatten.toArray:=by
  have f0:∀m:Nat,List.foldl (λx1 x2=>x1++x2) #[] (By m its.toArray)=(By m its).flatten.toArray:=λm=>by
   have:=foldl_rep its m []
   rw[List.nil_append] at this
   exact this
  rw[f0]
  cases its with
  | nil=>simp
  | cons a r'=>rw[if_neg (by simp)]
 refine wpAny_binaryOp_repeat_ref (T := "list") (U := "int") (by decide) ⟨_,e,rfl⟩ (λs'=>typeIs_int s' k t) noFill_list_mul F.fills_int_mul F.slot_int_rmul repeat_list F.slot_int_index.lookup
  (Xj F.slot_int_rmul (typeIs_int s k t) F.entry_int_rmul (F.args_int_rmul_2 _ _) (int___rmul___int_list k t l its.toArray n)
   ⟨e,rfl,⟨_,e,rfl⟩,Xj F.slot_list_mul ⟨_,e,rfl⟩ F.entry_list_mul (F.args_list_mul_2 _ _) (AutoListH.list___mul___list_int_3 l its.toArray n k t hfit hcap hlong) ⟨e,?_⟩⟩)
 rw[hnew]
 exact ⟨.ref _,_,I.lnew (t':=s.toks) (r.rep k.toNat) (by rw[vT,Nat.mul_comm]; exact hz),rfl,q _ I.fresh⟩
end
end L2
namespace Att
open PySem PySem.W PySem.Calls PyProof.Rows
theorem bH{P:Params}{h:Heap}:∀(ns:List Int) (vs:List Value),WellAll P h vs (ns.map WData.int)->Fp vs ns:=by
 intro ns
 induction ns with
 | nil =>
  intro vs w
  rw[Qg] at w
  cases w
  exact .nil
 | cons n ns ih =>
  intro vs w
  rw[Ap] at w
  cases w with
  | cons a b =>
   cases a
   exact .cons _ _ (ih _ b)
theorem wY{l:OpenLaw}{n:Nat}(hn:l.most=some n){P:Params}{h:Heap}{args:List WData}{vals:List Value}(hpre:l.row.toRowW.claim.pre args=true)(hwl:WellAll P h vals args):∃a vs ns,vals=[Be a]/\args=[WData.list (ns.map WData.int)]/\h.get? a=some { cls:=.type "list",data:=.seq vs.toArray }/\Fp vs ns/\ns.length<=n:=by
 have hsh:WShape.hasAll [] args [.list .int]=true:=(pre_splitW hpre).1
 have hc:l.pre.holds [] { args:=args }=true:=(pre_splitW hpre).2
 obtain ⟨d,r,rfl,h1,h2⟩:=hasAllW_cons hsh
 obtain rfl:=hasAllW_nil h2
 obtain ⟨xs,rfl,h3⟩:=hasW_list h1
 obtain ⟨ns,rfl⟩:=items_int h3
 have hlen:ns.length<=n:=by
  unfold OpenLaw.pre at hc
  have h4:(WTm.not (.lt (.lit (.int (n:Int))) (.len (.arg 0)))).holds [] { args:=[.list (ns.map .int)] }=true:=by
   have h4:=(holds_andW hc).1
   rw[hn] at h4
   exact h4
  have h5:=condW_of h4 (w_not (w_lt w_lit (w_len_list (w_arg rfl))))
  rw[Ad] at h5
  refine Nat.le_of_not_lt λq=>?_
  have q':(n:Int)<((ns.length:Nat):Int):=by omega
  first
   | (rw[decide_eq_true q'] at h5; exact absurd h5 (by decide))
   | (simp at h5; omega)
 cases hwl with
 | cons w1 w2 =>
  cases w2
  cases w1 with
  | list ho hall=>exact ⟨_,_,ns,rfl,rfl,ho,bH ns _ hall,hlen⟩
theorem wQ(l:OpenLaw)(args:List WData):l.row.toRowW.claim.post args (.bool true) args=true :=
 postW_of (r:=l.row.toRowW) (X:=(true == true))
  (show WShape.has [] (.bool true) .bool=true by first | rfl | decide | simp [WShape.has,WShape.arms,WShape.armsAll])
  (show (WTm.eq .res (.lit (.bool true))).value [] { args:=args,res:=some (.bool true),after:=args }=some (.bool (true == true)) from w_eq_bool (w_res rfl) w_lit) rfl
theorem attach_call{l:OpenLaw}{n:Nat}{q:Bk}{loose:List Str}{XP:(Str->Option Value)->Heap->Prop}{YP:World->Heap->Prop}{d:DefRec}(hn:l.most=some n)(hdf:d.params.defaults=[])(call:∀(w:World) (s₀ s₁:Ai) (mg mb:Str->Option Value) (fa:Addr) (o:Obj) (pm cd doc:Value) (a:Addr) (vs:List Value) (ns:List Int),Ground q loose [] XP w s₀ mg mb s₁.heap->YP w s₁.heap->s₁.heap.get? fa=some o->o.data=.func (docDef d.name d.params d.body d.scope pm cd doc)->s₁.heap.CodeRec cd d.name->mg d.name=some (.ref fa)->s₁.heap.get? a=some { cls:=.type "list",data:=.seq vs.toArray }->Fp vs ns->ns.length<=n->s₁.gens=#[]->Hb (model l.prog w) callerA (.call (.ref fa) ⟨[.ref a],[]⟩) (λr s'=>r=.ok (.ret (.bool true))/\OldK s₁.heap s'.heap/\s'.os=s₁.os/\Xm s'.gens) s₁):WalkO q loose XP YP l.row.toRowW d [] (λf vs=>PySem.call f vs):=by
 intro w s₀ s₁ mg mb G Y fa o pm cd doc dV kV ho hd hcd hD hmg hg args vals as hpre hlay hrd hwl hlo
 obtain rfl:dV=.none:=Dflts.none hD hdf
 obtain rfl:kV=.none:=Dflts.noKw hD
 obtain ⟨a,vs,ns,rfl,rfl,hobj,hints,hlen⟩:=wY hn hpre hwl
 refine enter_call (Oq (call w s₀ s₁ mg mb fa o pm cd doc a vs ns G Y ho (fd_plain hd) hcd hmg hobj hints hlen hg) λr s' hq=>?_)
 obtain ⟨rfl,h2,h3,h4⟩:=hq
 exact ⟨.inl ⟨.bool true,.bool true,[],rfl,λ_=>rfl,.bool true,wQ l _,λ_=>⟨Ej,λ_ hm=>(nomatch hm)⟩⟩,h2,h3,h4⟩
end Att
namespace L2
open PySem PySem.Spec PyProof.Rows
theorem gQ:∀{vs:List Value} {ns:List Int},Fp vs ns->Gj (ns.map V.int) vs
 | _,_,.nil=>.nil
 | _,_,.cons n t h=>.cons ⟨t,rfl⟩ (gQ h)
def AJ(H:Hp):Prop:=∀b,H b=none\/∃o xs,H b=some (.frz o (.lst xs))
def Qj(s:Stmt):Arguments:=match s with
 | .FunctionDef _ a _ _ _ _ _ _ _ _=>a
 | _=>{ posonlyargs:=[],args:=[],vararg:=none,kwonlyargs:=[],kw_defaults:=[],kwarg:=none,defaults:=[] }
def Ky(s:Stmt):List Stmt:=match s with
 | .FunctionDef _ _ b _ _ _ _ _ _ _=>b
 | _=>[]
def Bv(s:Stmt):Scope:=match s with
 | .FunctionDef _ _ _ _ _ _ sc _ _ _=>sc
 | _=>{ kind:=.function,names:=[],isGenerator:=false,isCoroutine:=false }
abbrev Hv:yO:=λ_ _ _ _ _ _=>False
abbrev E0:XK:=λ_ _ _=>False
theorem Fu{X:Cx}:Sf Hv X E0:=λ_ _ _ _ _ _ _ h=>h.elim
structure Fun(K:PySem.W.Frag)(x qual:Str)(st:Stmt)(f:Addr)(fd:Cs):Prop where
 ex:∃(oc:Value) (od:Option Addr) (kV doc pm:Value) (an:Option Addr) (cdv ct:Value) (osl:Array (Option Value)),
  fd=PySem.W.fnOf x qual (Qj st) (Ky st) (Bv st) .none kV doc pm an cdv ct/\K.lookup f=some ⟨oc,od,.func fd,osl⟩/\PySem.W.codeIn K cdv qual=true
 kp:PySem.W.keepIn K (.ref f)=true
section
variable{P:Bk}{w:World}{K:PySem.W.Frag}{mg:Str->Option Value}{base:Heap}
theorem Fun.ok{x qual:Str}{st:Stmt}{f:Addr}{fd:Cs}{N ps:List Str}{k:Nat}{sp:Sp}(F:Fun K x qual st f fd)(S:FnScope N ps (Bv st))(len:∀vs H Q E,sp vs H Q E->vs.length=ps.length)(hbody:∀(cdv:Value) (A:Ci) (outer:List Env) (s:Ai) (H:Hp) (vs:List V) (Q:VK) (E:XK),Room k (A.deeper (Td qual (Bv st) s.heap.objs.size f cdv))->sp vs H Q E->∃t,vW (Nc Hv P w K mg base N qual (Bv st) f cdv A outer s H E).nox (Ky st) t/\t { nx:=λ_ H'=>Q .non H',rt:=Q } (start N vs) H):FnOk P w K mg base Hv (k+1) f fd ps sp:=by
 w_pre y9
 refine GT lk hcd S len λA outer s H vs Q E hr hsp=>?_
 obtain ⟨t,h,q⟩:=hbody cdv A outer s H vs Q E hr hsp
 exact ⟨t,h.nox,q⟩
theorem Fun.binds{x qual:Str}{st:Stmt}{f:Addr}{fd:Cs}{ps:List Str}(F:Fun K x qual st f fd)(h:∀(kV doc pm:Value) (an:Option Addr) (cdv ct:Value) (us:List Value),us.length=ps.length->bindArgs (PySem.W.fnOf x qual (Qj st) (Ky st) (Bv st) .none kV doc pm an cdv ct) ⟨us,[]⟩=pure (ps.zip us)):Binds K fd ps []:=by
 w_pre y9
 exact .all (h kV doc pm an cdv ct)
theorem E8{x qual:Str}{st:Stmt}{f:Addr}{oc:Value}{od an:Option Addr}{osl:Array (Option Value)}{kV doc pm cdv ct:Value}(l:K.lookup f=some ⟨oc,od,.func (PySem.W.fnOf x qual (Qj st) (Ky st) (Bv st) .none kV doc pm an cdv ct),osl⟩)(c:PySem.W.codeIn K cdv qual=true)(k:PySem.W.keepIn K (.ref f)=true):Fun K x qual st f (PySem.W.fnOf x qual (Qj st) (Ky st) (Bv st) .none kV doc pm an cdv ct):=⟨⟨oc,od,kV,doc,pm,an,cdv,ct,osl,rfl,l,c⟩,k⟩
end
theorem iE{n:Nat}(h:n<=1000):n<Ay:=Nat.lt_of_le_of_lt h (by decide)
section
variable{X:Cx}
theorem pv(i:Nat){x:Str}{pos:Pos}(hN:X.N[i]? = some x:=by rfl)(hv:IU X.env.scope x:=by first | exact Dr rfl | exact Zb (Dr rfl) | exact Zb (Zb rfl))(hd:(x == ("__debug__" : Str))=false:=by decide)(hcd:(x == ("__classdict__" : Str))=false:=by decide):PE X (.Name x pos) (kH i):=AM hN hv hd hcd
end
theorem sH{A B:Prop}(h:B):if false=true then A else B:=by
 w_pre m8
 exact h
theorem tH{A B:Prop}(h:A):if true=true then A else B:=by
 w_pre g8
 exact h
theorem FB{c A B:Prop}[Decidable c](h1:c->A)(h2:¬ c->B):if c then A else B:=by
 by_cases h:c
 ·rw[if_pos h]
  exact h1 h
 ·rw[if_neg h]
  exact h2 h
def Th(H H':Hp):Prop:=∀b o,H b=some o->H' b=some o
theorem Th.refl(H:Hp):Th H H:=λ_ _ h=>h
theorem Th.trans{H H1 H2:Hp}(a:Th H H1)(b:Th H1 H2):Th H H2:=λc o h=>b c o (a c o h)
theorem Th.free{H H':Hp}(e:Th H H'){l:Addr}(h:H' l=Re):H l=Re:=by
 cases q:H l with
 | none=>rfl
 | some o =>
  rw[e l o q] at h
  cases h
end L2
namespace Nd
open PySem PySem.Spec PyProof.Rows L2
def Dh(X:Cx)(scope:Scope)(cl:List (Str×Addr))(N:List Str)(fp:List Addr)(s:Ai)(H:Hp):Cx where
 prog:=X.prog
 w:=X.w
 K:=X.K
 mg:=X.mg
 base:=X.base
 A:=X.A
 N:=N
 s₀:=s
 H₀:=H
 env:=Te scope (En (s.heap.objs.size+1) scope.names cl) s.heap.objs.size X.env
 outer:=X.stack
 stack:=X.stack
 ex:=fp
 fn:=λy=>decide (scope.names.lookup y=some Eo)
 calm:=X.calm
 pn:=[]
 xe:=λ_ _=>False
section
variable{prog:Bk}{w:World}{A:Ci}{R:Result->Ai->Prop}{s:Ai}
theorem Sg{elt tg iter:Expr}{ifs:List Expr}{scope:Scope}{pos:Pos}{it acc:Value}{env:Env}(J:Nat->Ai->Prop) (turn:∀n s,J n s->wpAny (model prog w) A (Ji it) (λr s1=>match r with
    | none=>R (.ok .next) s1
    | some v=>wpAny (model prog w) A (Hz tg it v) (λ_ s2=>wpAny (model prog w) A (Nr tg env v) (λ_ s3 =>
      wpAny (model prog w) A (forIn ifs true λc r=>if r=true then (do
        let ok <- isTrue c env (eval c env)
        pure (Et ok)) else pure (Et r)) (λok s4 =>
       if ok=true then
        wpAny (model prog w) A (eval elt env) (λx s5=>wpAny (model prog w) A (call (.builtin "list.append") [acc,x]) (λ_ s6=>∃m,m<n/\J m s6) (λ_ _=>False) s5) (λ_ _=>False) s4
       else ∃m,m<n/\J m s4) (λ_ _=>False) s3) (λ_ _=>False) s2) (λ_ _=>False) s1) (λ_ _=>False) s)
  (n:Nat) (h:J n s):Hb (model prog w) A (.compLoop (.ListComp elt [⟨tg,iter,ifs,0⟩] scope pos) 0 it acc env) R s:=by
 w_pre o9
 show wpAny _ A (Sem.onRaise (compTurn (.ListComp elt [⟨tg,iter,ifs,0⟩] scope pos) 0 it acc env) (λx=>do noteFrame x env; theTreesLotGoes x)) _ _ s
 refine wpAny_noted ?_
 rw[compTurn_list]
 w_pre e8
 cases r with
 | none=>exact Ae h1
 | some v =>
  w_pre t4
  refine Aa (Cu h3 (λok s4 h4=>?_) λ_ _ z=>z.elim)
  cases ok with
  | false=>exact Ae ⟨rfl,h4⟩
  | true =>
   refine Aa (Aa (Cu h4 (λx s5 h5=>?_) λ_ _ z=>z.elim))
   w_pre v9
end
section
variable{X:Cx}{pins:List (Addr×Obj)}{σ:L2.St}{H:Hp}{s:Ai}{scope:Scope}{cl:List (Str×Addr)}{fp:List Addr}{N:List Str}
def Zy(scope:Scope)(x:Str):Prop:=scope.names.lookup x=some .local\/scope.names.lookup x=some .cell
structure CompScope(X:Cx)(scope:Scope)(cl:List (Str×Addr))(x:Str)(ys:List Str)(js:List Nat):Prop where
 clos:closureFor scope X.env=pure cl
 oc:(∀y∈scope.names,y.2≠.cell)\/∃z:Str,(∀n,En n scope.names []=[(z,n)])/\scope.names.lookup z=some .cell/\∀y∈scope.names,y.2=.cell->y.1=z
 kind:scope.kind=.function
 locs:∀y∈scope.names,y.2=.local->scope.names.lookup y.1=some .local
 own:Zy scope x
 sub:∀y c,cl.lookup y=some c->X.env.cells.lookup y=some c
 has_:(scope.names.all λy=>!(y.2 == Ew) || (cl.lookup y.1).isSome)=true
 nd:(x::ys).Nodup
 len:ys.length=js.length
 at_:∀(k:Nat) (y:Str) (j:Nat),ys[k]? = some y->js[k]? = some j->X.N[j]? = some y/\scope.names.lookup y=some .free/\(X.env.kindOf y=some .cell\/X.env.kindOf y=some .free)
theorem CompScope.has{x:Str}{ys:List Str}{js:List Nat}(C:CompScope X scope cl x ys js):∀y∈scope.names,y.2=.free->(cl.lookup y.1).isSome=true:=λy hy e=>by
 have h:=List.all_eq_true.mp C.has_ y hy
 rw[e] at h
 simpa using h
theorem Us{env:Env}{y:Str}{k:Qv}:∀{names:List (Str×Qv)},
  (names.map λ(n,k)=>if (k == Ew && env.scope.kind == .function && env.kindOf n == some .cell) then (n,Eo) else (n,k)).lookup y=some k ->
  ∃k0,names.lookup y=some k0/\(k=k0\/(k0=.free/\k=.cell))
 | [],h=>by simp at h
 | (n,k0)::r,h=>by
  have ih:=@Us env y k r
  rw[Ap] at h
  w_pre j8
  ·have h':Mr y ((n,Eo)::(r.map λ(n,k)=>if (k == Ew && env.scope.kind == .function && env.kindOf n == some .cell) then (n,Eo) else (n,k)))=some k:=by
    simpa [hc] using h
   cases hy:y == n with
   | true =>
    rw[Ce,hy] at h'
    have e:k=Eo:=by simpa using h'.symm
    refine ⟨k0,by rw[Ce,hy],.inr ⟨?_,e⟩⟩
    rw[Ed,Ed] at hc
    exact Ef hc.1.1
   | false =>
    w_pre k3
  ·have h':Mr y ((n,k0)::(r.map λ(n,k)=>if (k == Ew && env.scope.kind == .function && env.kindOf n == some .cell) then (n,Eo) else (n,k)))=some k:=by
    simpa [hc] using h
   cases hy:y == n with
   | true =>
    rw[Ce,hy] at h'
    exact ⟨k0,by rw[Ce,hy],.inl (by simpa using h'.symm)⟩
   | false =>
    w_pre k3
theorem Xx{env:Env}{y:Str}:∀{names:List (Str×Qv)},names.lookup y=some .free ->
  (names.map λ(n,k)=>if (k == Ew && env.scope.kind == .function && env.kindOf n == some .cell) then (n,Eo) else (n,k)).lookup y=some .cell \/
  (names.map λ(n,k)=>if (k == Ew && env.scope.kind == .function && env.kindOf n == some .cell) then (n,Eo) else (n,k)).lookup y=some .free
 | [],h=>by simp at h
 | (n,k0)::r,h=>by
  have ih:=@Xx env y r
  show Mr y ((if (k0 == Ew && env.scope.kind == .function && env.kindOf n == some .cell)=true then (n,Eo) else (n,k0))::_)=_\/Mr y ((if (k0 == Ew && env.scope.kind == .function && env.kindOf n == some .cell)=true then (n,Eo) else (n,k0))::_)=_
  w_pre j8
  ·rw[if_pos hc]
   cases hy:y == n with
   | true=>exact .inl (by rw[Ce,hy])
   | false =>
    rw[Ce,hy] at h
    simp only[Ce,hy]
    exact ih h
  ·rw[if_neg hc]
   cases hy:y == n with
   | true =>
    rw[Ce,hy] at h
    exact .inr (by rw[Ce,hy]; exact h)
   | false =>
    rw[Ce,hy] at h
    simp only[Ce,hy]
    exact ih h
theorem Fh{α β:Type}[BEq α][LawfulBEq α]{y:α}{k:β}:∀{l:List (α×β)},l.lookup y=some k->(y,k)∈l
 | [],h=>by simp at h
 | (n,v)::r,h=>by
  cases hy:y == n with
  | true =>
   rw[Ce,hy] at h
   have e:=Ef hy
   subst e
   have : v=k:=by simpa using h
   subst this
   exact Ab
  | false =>
   rw[Ce,hy] at h
   exact Ac _ (Fh h)
end
theorem kC{a c:Nat}(h:c<a)(e:c=a+1):False:=by omega
theorem Jw:∀(names:List (Str×Qv)) (n:Nat) (acc:List (Str×Addr)),En n names acc=En n names []++acc
 | [],_,_=>rfl
 | (x,k)::r,n,acc=>by
  unfold En
  by_cases h:(k == Eo)=true
  ·rw[if_pos h,if_pos h,Jw r _ ((x,n)::acc),Jw r _ [(x,n)],Bw]; rfl
  ·rw[if_neg h,if_neg h]; exact Jw r n acc
theorem Pi:∀(names:List (Str×Qv)) (n:Nat) (acc:List (Str×Addr)),(∀y∈names,y.2≠.cell)->En n names acc=acc
 | [],_,_,_=>rfl
 | (x,k)::r,n,acc,h=>by
  unfold En
  rw[if_neg (by have:=h (x,k) Ab; simpa using this)]
  exact Pi r n acc λy hy=>h y (Ac _ hy)
theorem Yd{env:Env}{y:Str}:∀{names:List (Str×Qv)},names.lookup y=some .cell->(names.map λ(n,k)=>if (k == Ew && env.scope.kind == .function && env.kindOf n == some .cell) then (n,Eo) else (n,k)).lookup y=some .cell
 | [],h=>by simp at h
 | (n,k0)::r,h=>by
  have ih:=@Yd env y r
  show Mr y ((if (k0 == Ew && env.scope.kind == .function && env.kindOf n == some .cell)=true then (n,Eo) else (n,k0))::_)=_
  w_pre j8
  ·rw[if_pos hc]
   cases hy:y == n with
   | true=>rw[Ce,hy]
   | false=>rw[Ce,hy] at h ⊢; exact ih h
  ·rw[if_neg hc]
   cases hy:y == n with
   | true=>rw[Ce,hy] at h ⊢; exact h
   | false=>rw[Ce,hy] at h ⊢; exact ih h
theorem Mn{env:Env}{scope:Scope}{x:Str}(o:Zy scope x):Loc (relabel scope env) x:=o.imp lookup_relabel_local Yd
section
variable{X:Cx}{scope:Scope}{cl:List (Str×Addr)}{x y:Str}{ys:List Str}{js:List Nat}{n c:Nat}{N:List Str}{fp:List Addr}{s:Ai}{H:Hp}
theorem Pf(o:Zy scope x):(Dh X scope cl N fp s H).fn x=true\/(Dh X scope cl N fp s H).env.scope.names.lookup x=some .local:=by
 rcases o with o | o
 ·exact .inr (lookup_relabel_local o)
 ·exact .inl (decide_eq_true o)
theorem CompScope.split(C:CompScope X scope cl x ys js)(h:(En n scope.names cl).lookup y=some c):cl.lookup y=some c\/(c=n/\En 0 scope.names []=[(y,0)]/\En n scope.names []=[(y,n)]/\scope.names.lookup y=some .cell):=by
 rcases C.oc with o | ⟨z,o1,o2,_⟩
 ·rw[Pi _ _ _ o] at h; exact .inl h
 ·rw[Jw,o1] at h
  have h2:Mr y ((z,n)::cl)=some c:=h
  rw[Ce] at h2
  cases e:y == z with
  | true =>
   rw[e] at h2
   have ec:c=n:=(Ca h2).symm
   have ey:=Ef e
   subst ey
   exact .inr ⟨ec,o1 0,o1 n,o2⟩
  | false=>rw[e] at h2; exact .inl h2
theorem CompScope.find(C:CompScope X scope cl x ys js)(h:cl.lookup y=some c)(hy:scope.names.lookup y=some .free):(En n scope.names cl).lookup y=some c:=by
 rcases C.oc with o | ⟨z,o1,o2,_⟩
 ·rw[Pi _ _ _ o]; exact h
 ·rw[Jw,o1]
  show Mr y ((z,n)::cl)=some c
  rw[Ce]
  cases e:y == z with
  | true=>rw[Ef e,o2] at hy; cases hy
  | false=>exact h
theorem CompScope.cellAt(C:CompScope X scope cl x ys js)(hy:(y,Eo)∈scope.names):(En n scope.names cl).lookup y=some n:=by
 rcases C.oc with o | ⟨z,o1,o2,o3⟩
 ·exact absurd rfl (o _ hy)
 ·have ez:y=z:=o3 _ hy rfl
  subst ez
  rw[Jw,o1]
  show Mr y ((y,n)::cl)=some n
  rw[Ce,beq_self_eq_true]
theorem Pd{M:Model}{A:Ci}{E:Value->Ai->Prop}{Q:Env->Ai->Prop}(C:CompScope X scope cl x ys js)(hQ:∀h4,h4.Ns s.heap.objs.size (λ_=>none)->(∀b u,s.heap.get? b=some u->h4.get? b=some u)->(∀z n,En (s.heap.objs.size+1) scope.names []=[(z,n)]->h4.IsCell n none)->Q (newEnv scope s.heap.objs.size X.env.globals (En (s.heap.objs.size+1) scope.names cl) X.env.qual none .none (some X.env) builtinsNs) { s with heap:=h4,toks:=s.toks+([]:List (Str×Value)).length }):wpAny M A (Ke scope X.env.globals cl [] X.env.qual none .none (some X.env)) Q E s:=by
 simp only[Ke,Option.isSome_some,if_true]
 refine Aa (wpAny_alloc (Aa (wpAny_layCells _ (λx k cs=>by cases e:k == Eo <;> simp [e]) _ _ _ _ ?_)))
 have hsz:({ s with heap:=s.heap.push { cls:=.type "dict",data:=.dict #[] } }:Ai).heap.objs.size=s.heap.objs.size+1:=Hf ..
 rw[hsz]
 refine Aa (Ae (Ae (hQ _ ((Heap.Ns.new s.heap (.type "dict")).keeps (pushCells_keeps _ _)) (λb u e=>pushCells_keeps _ _ b u (Ag _ e)) λz n e=>?_)))
 have ok:=(cellsFrom_ok scope.names (s.heap.push { cls:=.type "dict",data:=.dict #[] }) 0 [] ⟨λ_ _ hm=>(nomatch hm),Ej⟩ (Dq _)).empty z n
 rw[show (s.heap.push { cls:=.type "dict",data:=.dict #[] }).objs.size=s.heap.objs.size+1 from hsz,e] at ok
 exact (ok (Al.mpr rfl)).1
end
section
variable{X:Cx}{pins:List (Addr×Obj)}{σ:L2.St}{H:Hp}{s:Ai}{scope:Scope}{cl:List (Str×Addr)}{fp:List Addr}{N:List Str}
theorem M9{x:Str}{ys:List Str}{js:List Nat}(C:CompScope X scope cl x ys js)(I:Inv X pins σ H s)(hf:∀b∈fp,La X pins H b)(ho:∀b∈fp,∃o,s.heap.get? b=some o):(Dh X scope cl N fp s H).Ok where
 mod:=I.ok.mod
 kind:=C.kind
 glob:=I.ok.glob
 blt:=I.ok.blt
 above:=Aj _
 inj:=λy z c h1 h2=>by
  have lt:∀y,cl.lookup y=some c->c<s.heap.objs.size:=λy e=>let ⟨_,q⟩:=I.cell y c (C.sub y c e); q.lt
  rcases C.split h1 with h1 | ⟨e1,a1,_⟩
  ·rcases C.split h2 with h2 | ⟨e2,_⟩
   ·exact I.ok.inj y z c (C.sub y c h1) (C.sub z c h2)
   ·exact (kC (lt y h1) e2).elim
  ·rcases C.split h2 with h2 | ⟨e2,a2,_⟩
   ·exact (kC (lt z h2) e1).elim
   ·rw[a1] at a2
    simpa using a2
 has:=λy hy=>by
  have key:∀k,(k=Eo\/k=Ew)->(Te scope cl s.heap.objs.size X.env).kindOf y=some k->∃c,(En (s.heap.objs.size+1) scope.names cl).lookup y=some c:=by
   intro k hk e
   obtain ⟨k0,e0,e1⟩:=Us (names:=scope.names) (env:=X.env) (y:=y) (k:=k) e
   have m:=Fh e0
   by_cases hk0:k0=.cell
   ·exact ⟨_,C.cellAt (hk0▸m)⟩
   have hfree:k0=.free:=by
    rcases e1 with e1 | e1
    ·subst e1
     rcases hk with hk | hk
     ·exact absurd hk hk0
     ·exact hk
    ·exact e1.1
   obtain ⟨c,hc⟩:=Rp.mp (C.has _ m hfree)
   exact ⟨c,C.find hc (hfree▸e0)⟩
  rcases hy with hy | hy
  ·exact key _ (.inl rfl) hy
  ·exact key _ (.inr rfl) hy
 cab:=λy c h e=>by
  have h:scope.names.lookup y=some .cell:=of_decide_eq_true h
  have:=(C.cellAt (n:=s.heap.objs.size+1) (Fh h)).symm.trans e
  show s.heap.objs.size<=c
  have:=Ca this
  omega
 hd:=I.ok.hd
 frames:=I.ok.frames
 stk:=.inl rfl
 exf:=λb hb=>by
  obtain ⟨o,e⟩:=ho b hb
  refine ⟨Bm (Ar e),λy c hc=>?_⟩
  rcases C.split hc with hc | ⟨hc,_⟩
  ·exact (hf b hb).2.2.2.2.1 y c (C.sub y c hc)
  ·exact λz=>kC (Ar e) (z.symm.trans hc)
 bs:=I.bs
 bsz:=Cb I.ok.bsz I.sz
 noex:=λb o e hb=>by
  rcases (hf b hb).2.2.2.1 with z | z
  ·exact I.ok.noex b o e z
  ·exact absurd (Cj (Ar (I.ok.bs b o e).1) z) (Fc _)
 exfs:=λb hb z=>by
  rcases Ak.mp (I.stkSub b z) with e | e
  ·exact (hf b hb).2.1 e
  ·exact (hf b hb).2.2.1 e
 funs:=I.stack
 frf:=I.stkFree
def Eh(σ:L2.St)(js:List Nat):L2.St:=js.map λj=>(σ[j]?).join
theorem Nb{x:Str}{pre ys:List Str}{js:List Nat}{h1:Heap}{tk:Nat}{m1:Str->Option Value}(C:CompScope X scope cl x ys js)(I:Inv X pins σ H s)(hf:∀b∈fp,La X pins H b)(ho:∀b∈fp,∃o,s.heap.get? b=some o)(hns:h1.Ns s.heap.objs.size m1)(keep:∀b u,s.heap.get? b=some u->h1.get? b=some u)(new:∀z n,En (s.heap.objs.size+1) scope.names []=[(z,n)]->h1.IsCell n none):Inv (Dh X scope cl (pre++ys) fp s H) [] (pre.map (λ_=>none)++Eh σ js) H { s with heap:=h1,toks:=tk }:=by
 have cellK:∀y c,cl.lookup y=some c->∃v,s.heap.IsCell c v/\h1.IsCell c v:=λy c e=>by
  obtain ⟨v,o,q,d⟩:=I.cell y c (C.sub y c e)
  exact ⟨v,⟨o,q,d⟩,o,keep c o q,d⟩
 refine ⟨M9 C I hf ho,rfl,I.bare,Un.kept keep,⟨m1,hns,λi y v e1 e2 _=>?_⟩,λy c e=>?_,I.hok.fresh (Aj _),λy c e=>?_,λp hp=>?_,I.hok.kept keep,?_⟩
 ·have e2:(pre.map (λ_=>(none:Option V))++Eh σ js)[i]? = some (some v):=e2
  have e1:(pre++ys)[i]? = some y:=e1
  by_cases hi:i<pre.length
  ·rw[Lq (by rw[Ad]; exact hi),Bg] at e2
   cases q:pre[i]? with
   | none=>rw[q] at e2; cases e2
   | some z=>rw[q] at e2; cases e2
  ·rw[Ii (by rw[Ad]; omega),Ad] at e2
   rw[Ii (by omega)] at e1
   have e1':=e1
   have e2':=e2
   generalize i - pre.length=k at e1' e2'
   unfold Eh at e2'
   rw[Bg] at e2'
   cases ej:js[k]? with
   | none=>rw[ej] at e2'; simp at e2'
   | some j =>
    rw[ej] at e2'
    have e3:(σ[j]?).join=some v:=by simpa using e2'
    have e4:σ[j]? = some (some v):=by
     cases q:σ[j]? with
     | none=>rw[q] at e3; simp at e3
     | some z=>rw[q] at e3; simp at e3; rw[e3]
    obtain ⟨a1,a2,a3⟩:=C.at_ k y j e1' ej
    obtain ⟨m0,_,hl⟩:=I.loc
    have vis:IU X.env.scope y:=a3.elim (λa3=>.inr (.inl a3)) λa3=>.inr (.inr a3)
    obtain ⟨u,r,l⟩:=hl j y v a1 e4 vis
    refine ⟨u,r,?_⟩
    rcases l with ⟨k1,_⟩ | ⟨_,c,hc,hv⟩
    ·rcases a3 with a3 | a3 <;> rw[k1] at a3 <;> cases a3
    ·obtain ⟨c',hc'⟩:=Rp.mp (C.has _ (Fh a2) rfl)
     have ec:c'=c:=by
      have:=C.sub y c' hc'
      rw[hc] at this
      exact (Ca this).symm
     subst ec
     obtain ⟨o,q,d⟩:=hv
     exact .inr ⟨Xx a2,c',C.find hc' a2,o,keep c' o q,d⟩
 ·rcases C.split e with e | ⟨e,_,e',_⟩
  ·obtain ⟨v,_,z⟩:=cellK y c e
   exact ⟨v,z⟩
  ·exact ⟨_,e▸new _ _ e'⟩
 ·rcases C.split e with e | ⟨e,_⟩
  ·exact I.freeC y c (C.sub y c e)
  ·exact I.hok.fresh (by omega)
 ·cases (show p∈([]:List (Addr×Obj)) from hp)
 ·show (pre.map (λ_=>(none:Option V))++Eh σ js).length=(pre++ys).length
  simp [Eh,C.len]
end
section
variable{X:Cx}
def HW(J:It)(js:List Nat)(tc:TT)(te:TE)(σ:L2.St)(H1:Hp)(Q:VK):Prop:=∀D,H1 D=none->∃W:Nat->Nat->Hp->Prop,(∃m,W 0 m (upd H1 D (.lst [])))/\∀i m H,W i m H ->
 (J.stop i H/\Q (.ref D) H)\/(J.go i H/\∀x H',J.yld i H x H'->∃(N1:Hp->Prop) (N2:VK),(∀H2,N1 H2->∃m',m'<m/\W (i+1) m' H2) /\
  (∀y H3,N2 y H3->∃acc,H3 D=some (.lst acc)/\acc.length<Ay/\∃m',m'<m/\W (i+1) m' (upd H3 D (.lst (acc++[y])))) /\
  tc (some x::Eh σ js) H' λc H2=>if c=true then te (some x::Eh σ js) H2 N2 else N1 H2)
def vE(wi:TI)(js:List Nat)(tc:TT)(te:TE):TE:=λσ H Q=>wi σ H λJ H1=>HW J js tc te σ H1 Q
def Sr:TT:=λ_ H Q=>Q true H
def qM(X:Cx)(ifs:List Expr)(t:TT):Prop :=
 ∀(pins:List (Addr×Obj)) (s:Ai) (σ:L2.St) (H:Hp) (Q:Bool->Hp->Prop),Inv X pins σ H s->t σ H Q ->
  wpAny (model X.prog X.w) X.A (forIn ifs true λc r=>if r=true then (do
   let ok <- isTrue c X.env (eval c X.env)
   pure (Et ok)) else pure (Et r)) (TP X pins σ Q) X.xe s
theorem h9:qM X [] Sr:=λpins s σ H Q I h=>wpAny_tests_nil ⟨H,I,h⟩
theorem P7{c:Expr}{t:TT}(h:PT X c t):qM X [c] t:=λpins s σ H Q I q=>wpAny_tests_one (h pins s σ H Q I q)
theorem S9{elt iter:Expr}{x:Str}{px pos:Pos}{ifs:List Expr}{scope:Scope}{cl:List (Str×Addr)}{ys:List Str}{js:List Nat}{wi:TI}{tc:TT}{te:TE}(C:CompScope X scope cl x ys js)(hc:X.calm=true)(hi:PI X (.Name x px) iter wi)(ht:∀fp s H,qM (Dh X scope cl (x::ys) fp s H) ifs tc)(he:∀fp s H,PE (Dh X scope cl (x::ys) fp s H) elt te)(hs:∀x,Da iter X.env x=pure x:=by intro _; rfl):PE X (.ListComp elt [⟨.Name x px,iter,ifs,0⟩] scope pos) (vE wi js tc te):=by
 w_pre o2
 w_pre b
 have loop:∀s5:Ai,s5={ s3 with heap:=h4,toks:=s3.toks+([]:List (Str×Value)).length } ->
   Hb (model X.prog X.w) X.A (.compLoop (.ListComp elt [⟨.Name x px,iter,ifs,0⟩] scope pos) 0 (.ref it) (.ref s2.heap.objs.size) (Te scope (En (s3.heap.objs.size+1) scope.names cl) s3.heap.objs.size X.env))
    (compPost (model X.prog X.w) X.A X.xe none (EP X pins σ Q) (.ref s2.heap.objs.size) s3.heap.objs.size) s5:=by
  w_pre d1
  w_pre d
  w_pre e
 w_pre z7
end
theorem Fg{H:Hp}{p:Addr}(h:H p=none)(o:HO):Th H (upd H p o):=λb u q=>by rw[Dw (Gx q h)]; exact q
theorem Ij{α:Type}{xs:List α}{i:Nat}{x:α}(h:xs[i]? = some x):xs.take (i+1)=xs.take i++[x]:=by
 rw[List.take_succ,h]; rfl
mutual
inductive RdV (K:PySem.W.Frag) (H:Hp):V->Af->Prop
 | non:RdV K H .non .none
 | bl (b:Bool):RdV K H (.bl b) (.bool b)
 | int (i:Int):RdV K H (.int i) (.int i)
 | str (x:Str):RdV K H (.str x) (.str x)
 | lst {a:Addr} {xs:List V} {ds:List Af}:Mp K H a xs->RdVs K H xs ds->RdV K H (.ref a) (.list ds)
 | tup {a:Addr} {xs:List V} {ds:List Af}:Rq K H a xs->RdVs K H xs ds->RdV K H (.ref a) (.tuple ds)
inductive RdVs (K:PySem.W.Frag) (H:Hp):List V->List Af->Prop
 | nil:RdVs K H [] []
 | cons {x:V} {d:Af} {xs:List V} {ds:List Af}:RdV K H x d->RdVs K H xs ds->RdVs K H (x::xs) (d::ds)
end
mutual
def FR(b:Nat):Af->Prop
 | .none=>True
 | .bool _=>True
 | .int i=>i.natAbs<10 ^ b
 | .str x=>(reprText x).length<=b
 | .list xs=>jL b xs
 | .tuple xs=>jL b xs
 | .dict _=>False
def jL(b:Nat):List Af->Prop
 | []=>True
 | x::xs=>FR b x/\jL b xs
end
mutual
def Y8:Af->Nat
 | .list xs=>dU xs+1
 | .tuple xs=>dU xs+1
 | _=>1
def dU:List Af->Nat
 | []=>0
 | x::xs=>Y8 x+dU xs
end
theorem rK(ns:List Int):Br (ns.map Aw)=0:=by
 induction ns with
 | nil=>rfl
 | cons n ns ih=>simp only[Ap,Br,Ea,ih,Nat.max_self]
theorem aZ{m:Nat}:∀{xs:List Af},(∀x∈xs,x.depth<=m)->Br xs<=m
 | [],_=>by simp [Br]
 | x::xs,h=>by
  have h1:=h x (Ab ..)
  have h2:=aZ (xs:=xs) λy hy=>h y (Ac _ hy)
  simp only[Br]
  omega
theorem Gj.at'{xs:List V}{us:List Value}(r:Gj xs us){j:Nat}(h:j<us.length):∃x,xs[j]? = some x/\RelV x us[j]:=by
 have hl:=r.length
 have hj:j<xs.length:=by omega
 obtain ⟨u,hu,ru⟩:=r.get (i:=j) (x:=xs[j]) (by simp [hj])
 rw[Bt h] at hu
 cases hu
 exact ⟨xs[j],by simp [hj],ru⟩
section
variable{X:Cx}{pins:List (Addr×Obj)}{σ:L2.St}{H:Hp}{s:Ai}{A:Ci}
theorem aI(A:Ci):A.in1.units<=A.units+1:=by
 first | exact Aj _ | (simp [Around.in1]; done) | (unfold Around.in1; simp)
theorem E3(hc:X.calm=true):Mh X (.builtin "all") (λxs H Q=>∃(p:Addr) (bs:List Bool),xs=[.ref p]/\Mp X.K H p (bs.map V.bl)/\Q (.bl (bs.all id)) H):=by
 w_pre r7
 obtain ⟨p,bs,rfl,hp,q⟩:=h
 w_pre q4
 obtain ⟨its,rv,pl,_⟩:=I.list hp
 have hlen:its.toArray.size=bs.length:=by
  have:=rv.length
  rw[Ad] at this
  rw[Av]; omega
 refine call_all_walk (iW pl.isList ?_)
 have hd:X.A.in1.handled=none:=I.ok.hd hc
 have ne:p≠s.heap.objs.size:=Bm (let ⟨o,q,_⟩:=pl.isList; Ar q)
 refine ⟨s.heap.objs.size,_,_,_,_,_,λi=>bs.getD i false,rfl,Walks.list hd s.heap.objs.size p ne its.toArray,⟨⟨_,Au _ rfl,rfl,rfl⟩,pl.isList.push _⟩,?_,?_⟩
 ·intro i v s' Q' E' hv hq
  have hv':its[i]? = some v:=by simpa using hv
  have hi:i<its.length:=(Ax.mp hv').1
  obtain ⟨x,e1,q1⟩:=Gj.at' rv hi
  rw[Bt hi] at hv'
  have hv'':its[i]=v:=Ca hv'
  rw[hv''] at q1
  rw[Bg] at e1
  cases eb:bs[i]? with
  | none=>rw[eb] at e1; cases e1
  | some b =>
   rw[eb] at e1
   cases e1
   cases q1
   have : bs.getD i false=b:=by simp [Qy,eb]
   have hq':Q' (bs.getD i false) s':=hq
   rw[this] at hq'
   exact Jn hq'
 ·intro h' tk hk
  have e:((Cc its.toArray.size).all λi=>bs.getD i false)=bs.all id:=by
   rw[hlen]
   have : bs=(Cc bs.length).map (λj=>bs.getD j false):=(range_getD bs false).symm
   conv=>rhs; rw[this]
   rw[bR]
   rfl
  rw[e]
  refine ⟨.bl _,H,I.kept (h':=h') (t':=tk) (λb o qq=>hk b o ?_ (Ag _ qq)),rfl,q⟩
  intro z
  have e2:b=s.heap.objs.size:=by simpa using z
  have e3:=Ar qq
  rw[e2] at e3
  exact absurd e3 (Fc _)
end
section
variable{prog:Bk}{w:World}{A:Ci}{E:Value->Ai->Prop}{s:Ai}
theorem Vy{t sl:Addr}{items:Array Value}{vl vu:Value}{lo hi:Option Int}{Q:Value->Ai->Prop}(ht:IsTup s.heap t items)(hs:s.heap.IsSliceOf sl vl vu .none)(pl:bG vl lo)(pu:bG vu hi)(hw:HT.sIx items.size 0 lo=0/\HT.sIx items.size items.size hi=items.size)(h:Q (.ref t) s):wpAny (model prog w) A (Rr (.ref t) (.ref sl)) Q E s:=by
 w_pre k
 refine Aa (HT.sliceApplied_gen hs pl pu ?_)
 rw[hw.1,hw.2]
 have hyes:(((0:Nat):Int) == 0 && (1:Int) == 1 && (items.size - 0) == items.size)=true:=by simp
 show wpAny _ _ (if (((0:Nat):Int) == 0 && (1:Int) == 1 && (items.size - 0) == items.size)=true then _ else _) _ _ s
 rw[if_pos hyes]
 have hex:∀{R:Bool->Ai->Prop},R true s->wpAny (model prog w) A.in1 (Zh (.ref t)) R E s:=λ{R} hR=>by
  unfold Zh
  refine Aa (Jm ht.typeIs (Ae ?_))
  rw[beq_self_eq_true]
  exact hR
 refine Aa (hex ?_)
 w_pre g8
 exact Aa (Jt (Ae ⟨_,rfl,Ae h⟩))
end
mutual
def Em:Af->Af->Bool
 | .none,.none=>true
 | .bool a,.bool b=>a == b
 | .bool a,.int b=>(if a then 1 else 0) == b
 | .int a,.bool b=>a == (if b then 1 else 0)
 | .int a,.int b=>a == b
 | .str a,.str b=>a == b
 | .list xs,.list ys=>Mt xs ys
 | .tuple xs,.tuple ys=>Mt xs ys
 | _,_=>false
def Mt:List Af->List Af->Bool
 | [],[]=>true
 | x::xs,y::ys=>Em x y && Mt xs ys
 | _,_=>false
end
theorem Pr:∀ds es:List Af,(((Cc (min ds.length es.length)).all λj=>Em (ds.getD j .none) (es.getD j .none)) && ds.length == es.length)=Mt ds es
 | [],[]=>by simp [Mt]
 | [],_::_=>by simp [Mt]
 | _::_,[]=>by simp [Mt]
 | d::ds,e::es=>by
  have ih:=Pr ds es
  rw[Mt,<- ih]
  have h1:min (d::ds).length (e::es).length=min ds.length es.length+1:=by simp only[Bl]; omega
  rw[h1,List.range_succ_eq_map,List.all_cons,bR]
  have h2:((d::ds).length == (e::es).length)=(ds.length == es.length):=by
   rw[Pv]; simp
  rw[h2,Bool.and_assoc]
  rfl
section
variable{X:Cx}{pins:List (Addr×Obj)}{σ:L2.St}{H:Hp}{s:Ai}{K:PySem.W.Frag}
mutual
theorem RdV.eqD_self:∀{v:V} {d:Af},RdV K H v d->Em d d=true
 | _,_,.non=>by simp [Em]
 | _,_,.bl b=>by simp [Em]
 | _,_,.int i=>by simp [Em]
 | _,_,.str x=>by simp [Em]
 | _,_,.lst _ h=>by rw[Em]; exact RdVs.eqDs_self h
 | _,_,.tup _ h=>by rw[Em]; exact RdVs.eqDs_self h
theorem RdVs.eqDs_self:∀{vs:List V} {ds:List Af},RdVs K H vs ds->Mt ds ds=true
 | _,_,.nil=>by simp [Mt]
 | _,_,.cons h t=>by rw[Mt,RdV.eqD_self h,RdVs.eqDs_self t]; rfl
end
theorem pE(I:Inv X pins σ H s){a:Addr}{xs ys:List V}(h1:Mp X.K H a xs)(h2:Rq X.K H a ys):False:=by
 obtain ⟨us,_,p1,_⟩:=I.list h1
 obtain ⟨vs,_,p2,_⟩:=I.tuple h2
 exact SeqAt.ne_of_list_tuple p1.isList p2 rfl
mutual
theorem RdV.det(I:Inv X pins σ H s):∀{v:V} {d e:Af},RdV X.K H v d->RdV X.K H v e->d=e
 | _,_,_,.non,h=>by cases h; rfl
 | _,_,_,.bl b,h=>by cases h; rfl
 | _,_,_,.int i,h=>by cases h; rfl
 | _,_,_,.str x,h=>by cases h; rfl
 | _,_,_,.lst q r,h=>by
  cases h with
  | lst q' r' =>
   have e:=I.list_inj q q'
   subst e
   rw[RdVs.det I r r']
  | tup q' r'=>exact (pE I q q').elim
 | _,_,_,.tup q r,h=>by
  cases h with
  | lst q' r'=>exact (pE I q' q).elim
  | tup q' r' =>
   have e:=I.tuple_inj q q'
   subst e
   rw[RdVs.det I r r']
theorem RdVs.det(I:Inv X pins σ H s):∀{vs:List V} {ds es:List Af},RdVs X.K H vs ds->RdVs X.K H vs es->ds=es
 | _,_,_,.nil,h=>by cases h; rfl
 | _,_,_,.cons r t,h=>by
  cases h with
  | cons r' t'=>rw[RdV.det I r r',RdVs.det I t t']
end
theorem RdVs.length:∀{vs:List V} {ds:List Af},RdVs K H vs ds->vs.length=ds.length
 | _,_,.nil=>rfl
 | _,_,.cons _ t=>by rw[Bl,Bl,RdVs.length t]
theorem Zl{A:Ci}{n:Nat}(h:A.units+(n+1)<cLine):A.in1.units+n<cLine:=by
 have:=aI A
 omega
theorem nW{A:Ci}{a b:Addr}{us vs:List Value}{ds es:List Af}(p1:PlainL s.heap a us.toArray)(p2:PlainL s.heap b vs.toArray)(l1:us.length=ds.length)(l2:vs.length=es.length)(hu:A.units<cLine)(he:∀j (h1:j<us.length) (h2:j<vs.length),Od A.in1 s us[j] vs[j] (Em (ds.getD j .none) (es.getD j .none))):SeqAt.RcAt A s (.ref a) (.ref b) (Mt ds es):=by
 rw[<- Pr]
 by_cases hl:ds.length=es.length
 ·have hs:us.toArray.size=vs.toArray.size:=by rw[Av,Av,l1,l2,hl]
  have h:=SeqAt.RcAt.lists (A:=A) (e:=λj=>Em (ds.getD j .none) (es.getD j .none)) p1.isList p2.isList hs hu (λj h1 h2=>by simpa using he j (by simpa using h1) (by simpa using h2))
  w_pre h3
 ·have hs:(us.toArray.size != vs.toArray.size)=true:=by rw[Av,Av,l1,l2]; simpa using hl
  have h:=SeqAt.RcAt.lists_lengths (A:=A) p1.isList p2.isList hs hu
  w_pre l3
theorem iP{A:Ci}{a b:Addr}{us vs:List Value}{ds es:List Af}(p1:IsTup s.heap a us.toArray)(p2:IsTup s.heap b vs.toArray)(l1:us.length=ds.length)(l2:vs.length=es.length)(hu:A.units<cLine)(he:∀j (h1:j<us.length) (h2:j<vs.length),Od A.in1 s us[j] vs[j] (Em (ds.getD j .none) (es.getD j .none))):SeqAt.RcAt A s (.ref a) (.ref b) (Mt ds es):=by
 rw[<- Pr]
 have h:=SeqAt.RcAt.tuples (A:=A) (e:=λj=>Em (ds.getD j .none) (es.getD j .none)) (show s.heap.IsTuple a us.toArray from p1) (show s.heap.IsTuple b vs.toArray from p2) hu (λj h1 h2=>by simpa using he j (by simpa using h1) (by simpa using h2))
 rw[Av,Av,l1,l2] at h
 exact h
mutual
theorem t9(I:Inv X pins σ H s):∀{A:Ci} {x y:V} {d e:Af} {u v:Value},RdV X.K H x d->RdV X.K H y e->RelV x u->RelV y v->A.units+d.depth<cLine->Od A s u v (Em d e)
 | A,_,_,_,_,_,_,.non,h,ru,rv,hu=>by
  w_pre d5
  cases h with
  | non=>cases rv; rw[Em]; exact SeqAt.EqAt.same _
  | bl b=>cases rv; rw[Em]; exact SeqAt.EqAt.none_bool b; all_goals simp
  | int b=>obtain ⟨t,rfl⟩:=rv; rw[Em]; exact SeqAt.EqAt.none_int b t; all_goals simp
  | str b=>obtain ⟨t,rfl⟩:=rv; rw[Em]; exact SeqAt.EqAt.none_str b t; all_goals simp
  | lst q r=>cases rv; obtain ⟨us,_,p,_⟩:=I.list q; rw[Em]; exact SeqAt.EqAt.none_list p.isList hu'; all_goals simp
  | tup q r=>cases rv; obtain ⟨us,_,p,_⟩:=I.tuple q; rw[Em]; exact SeqAt.EqAt.none_tuple p hu'; all_goals simp
 | A,_,_,_,_,_,_,.bl a,h,ru,rv,hu=>by
  w_pre d5
  cases h with
  | non=>cases rv; rw[Em]; exact SeqAt.EqAt.bool_none a; all_goals simp
  | bl b=>cases rv; rw[Em]; exact SeqAt.EqAt.bool_bool a b
  | int b=>obtain ⟨t,rfl⟩:=rv; rw[Em]; exact SeqAt.EqAt.bool_int a b t
  | str b=>obtain ⟨t,rfl⟩:=rv; rw[Em]; exact SeqAt.EqAt.bool_str a b t; all_goals simp
  | lst q r=>cases rv; obtain ⟨us,_,p,_⟩:=I.list q; rw[Em]; exact SeqAt.EqAt.bool_list a p.isList hu'; all_goals simp
  | tup q r=>cases rv; obtain ⟨us,_,p,_⟩:=I.tuple q; rw[Em]; exact SeqAt.EqAt.bool_tuple a p hu'; all_goals simp
 | A,_,_,_,_,_,_,.int a,h,ru,rv,hu=>by
  w_pre g7
  cases h with
  | non=>cases rv; rw[Em]; exact SeqAt.EqAt.int_none a t'; all_goals simp
  | bl b=>cases rv; rw[Em]; exact SeqAt.EqAt.int_bool a t' b
  | int b=>obtain ⟨t,rfl⟩:=rv; rw[Em]; exact SeqAt.EqAt.int_int a t' b t
  | str b=>obtain ⟨t,rfl⟩:=rv; rw[Em]; exact SeqAt.EqAt.int_str a t' b t; all_goals simp
  | lst q r=>cases rv; obtain ⟨us,_,p,_⟩:=I.list q; rw[Em]; exact SeqAt.EqAt.int_list a t' p.isList hu'; all_goals simp
  | tup q r=>cases rv; obtain ⟨us,_,p,_⟩:=I.tuple q; rw[Em]; exact SeqAt.EqAt.int_tuple a t' p hu'; all_goals simp
 | A,_,_,_,_,_,_,.str a,h,ru,rv,hu=>by
  w_pre g7
  cases h with
  | non=>cases rv; rw[Em]; exact SeqAt.EqAt.str_none a t'; all_goals simp
  | bl b=>cases rv; rw[Em]; exact SeqAt.EqAt.str_bool a t' b; all_goals simp
  | int b=>obtain ⟨t,rfl⟩:=rv; rw[Em]; exact SeqAt.EqAt.str_int a t' b t; all_goals simp
  | str b=>obtain ⟨t,rfl⟩:=rv; rw[Em]; exact SeqAt.EqAt.str_str a t' b t
  | lst q r=>cases rv; obtain ⟨us,_,p,_⟩:=I.list q; rw[Em]; exact SeqAt.EqAt.str_list a t' p.isList hu'; all_goals simp
  | tup q r=>cases rv; obtain ⟨us,_,p,_⟩:=I.tuple q; rw[Em]; exact SeqAt.EqAt.str_tuple a t' p hu'; all_goals simp
 | A,_,_,_,_,_,_,@RdV.lst _ _ a xs ds q r,h,ru,rv,hu=>by
  w_pre d5
  obtain ⟨us,r1,p,_⟩:=I.list q
  cases h with
  | non=>cases rv; rw[Em]; exact SeqAt.EqAt.list_none p.isList hu'; all_goals simp
  | bl b=>cases rv; rw[Em]; exact SeqAt.EqAt.list_bool b p.isList hu'; all_goals simp
  | int b=>obtain ⟨t,rfl⟩:=rv; rw[Em]; exact SeqAt.EqAt.list_int b t p.isList hu'; all_goals simp
  | str b=>obtain ⟨t,rfl⟩:=rv; rw[Em]; exact SeqAt.EqAt.list_str b t p.isList hu'; all_goals simp
  | @lst b ys es q2 rr2 =>
   cases rv
   obtain ⟨vs,r2,p2,_⟩:=I.list q2
   rw[Em]
   by_cases hab:a=b
   ·subst hab
    have e:=I.list_inj q q2
    w_pre n3
   ·refine SeqAt.EqAt.of_refs hab (nW p p2 (r1.length.symm.trans r.length) (r2.length.symm.trans rr2.length) hu' λj h1 h2=>?_)
    w_pre q9
  | tup q2 rr2=>cases rv; obtain ⟨vs,_,p2,_⟩:=I.tuple q2; rw[Em]; exact SeqAt.EqAt.list_tuple p.isList p2 hu'; all_goals simp
 | A,_,_,_,_,_,_,@RdV.tup _ _ a xs ds q r,h,ru,rv,hu=>by
  w_pre d5
  obtain ⟨us,r1,p,_⟩:=I.tuple q
  cases h with
  | non=>cases rv; rw[Em]; exact SeqAt.EqAt.tuple_none p hu'; all_goals simp
  | bl b=>cases rv; rw[Em]; exact SeqAt.EqAt.tuple_bool b p hu'; all_goals simp
  | int b=>obtain ⟨t,rfl⟩:=rv; rw[Em]; exact SeqAt.EqAt.tuple_int b t p hu'; all_goals simp
  | str b=>obtain ⟨t,rfl⟩:=rv; rw[Em]; exact SeqAt.EqAt.tuple_str b t p hu'; all_goals simp
  | lst q2 rr2=>cases rv; obtain ⟨vs,_,p2,_⟩:=I.list q2; rw[Em]; exact SeqAt.EqAt.tuple_list p p2.isList hu'; all_goals simp
  | @tup b ys es q2 rr2 =>
   cases rv
   obtain ⟨vs,r2,p2,_⟩:=I.tuple q2
   rw[Em]
   by_cases hab:a=b
   ·subst hab
    have e:=I.tuple_inj q q2
    w_pre n3
   ·refine SeqAt.EqAt.of_refs hab (iP p p2 (r1.length.symm.trans r.length) (r2.length.symm.trans rr2.length) hu' λj h1 h2=>?_)
    w_pre q9
theorem Si(I:Inv X pins σ H s):∀{A:Ci} {xs ys:List V} {ds es:List Af} {us vs:List Value},RdVs X.K H xs ds->RdVs X.K H ys es->Gj xs us->Gj ys vs->A.units+Br ds<cLine->∀j (h1:j<us.length) (h2:j<vs.length),Od A s us[j] vs[j] (Em (ds.getD j .none) (es.getD j .none))
 | _,_,_,_,_,_,_,.nil,_,r1,_,_=>λj h1 h2=>by cases r1; exact absurd h1 (Kl _)
 | A,_,_,_,_,_,_,@RdVs.cons _ _ x d xs ds r t,h,r1,r2,hu=>λj h1 h2=>by
  cases h with
  | nil=>cases r2; exact absurd h2 (Kl _)
  | cons r' t' =>
   cases r1 with
   | cons ra ta =>
    cases r2 with
    | cons rb tb =>
     have hm:A.units+d.depth<cLine/\A.units+Br ds<cLine:=by
      simp only[Br] at hu
      omega
     cases j with
     | zero=>simpa using t9 I r r' ra rb hm.1
     | succ j=>simpa using Si I t t' ta tb hm.2 j (by simpa using h1) (by simpa using h2)
end
end
section
variable{X:Cx}{pins:List (Addr×Obj)}{σ:L2.St}{H:Hp}{s:Ai}{K:PySem.W.Frag}
theorem wR{A:Ci}{a b:Addr}{us vs:List Value}{ds es:List Af}(p1:PlainL s.heap a us.toArray)(p2:PlainL s.heap b vs.toArray)(l1:us.length=ds.length)(l2:vs.length=es.length)(hu:A.units<cLine)(he:∀j (h1:j<us.length) (h2:j<vs.length),Od A.in1 s us[j] vs[j] (Em (ds.getD j .none) (es.getD j .none))):SeqAt.RcNeAt A s (.ref a) (.ref b) (!Mt ds es):=by
 rw[<- Pr]
 by_cases hl:ds.length=es.length
 ·have hs:us.toArray.size=vs.toArray.size:=by rw[Av,Av,l1,l2,hl]
  have h:=SeqAt.RcNeAt.lists (A:=A) (e:=λj=>Em (ds.getD j .none) (es.getD j .none)) p1.isList p2.isList hs hu (λj h1 h2=>by simpa using he j (by simpa using h1) (by simpa using h2))
  w_pre h3
 ·have hs:(us.toArray.size != vs.toArray.size)=true:=by rw[Av,Av,l1,l2]; simpa using hl
  have h:=SeqAt.RcNeAt.lists_lengths (A:=A) p1.isList p2.isList hs hu
  w_pre l3
theorem qN{A:Ci}{a b:Addr}{us vs:List Value}{ds es:List Af}(p1:IsTup s.heap a us.toArray)(p2:IsTup s.heap b vs.toArray)(l1:us.length=ds.length)(l2:vs.length=es.length)(hu:A.units<cLine)(he:∀j (h1:j<us.length) (h2:j<vs.length),Od A.in1 s us[j] vs[j] (Em (ds.getD j .none) (es.getD j .none))):SeqAt.RcNeAt A s (.ref a) (.ref b) (!Mt ds es):=by
 rw[<- Pr]
 have h:=SeqAt.RcNeAt.tuples (A:=A) (e:=λj=>Em (ds.getD j .none) (es.getD j .none)) (show s.heap.IsTuple a us.toArray from p1) (show s.heap.IsTuple b vs.toArray from p2) hu (λj h1 h2=>by simpa using he j (by simpa using h1) (by simpa using h2))
 rw[Av,Av,l1,l2] at h
 exact h
end
section
variable{X:Cx}
def HR(K:PySem.W.Frag):R2:=λx y H Q=>∃d e,RdV K H x d/\RdV K H y e/\d.depth<=60/\Q (.bl (Em d e)) H
def FX(K:PySem.W.Frag):R2:=λx y H Q=>∃d e,RdV K H x d/\RdV K H y e/\d.depth<=60/\Q (.bl (!Em d e)) H
theorem r6(hu:X.A.units+64<cLine):Ze X (Jl .Eq) (HR X.K):=by
 w_pre a3
 cases h1 with
 | non =>
  cases rx
  cases h2 with
  | non=>cases ry; rw[Em] at q; exact SeqAt.RcAt.none_none _ _ _ _ ⟨.bl _,H,I,rfl,q⟩
  | bl b=>cases ry; rw[Em] at q; exact SeqAt.RcAt.none_bool b _ _ _ _ ⟨.bl _,H,I,rfl,q⟩; all_goals simp
  | int b=>obtain ⟨t,rfl⟩:=ry; rw[Em] at q; exact SeqAt.RcAt.none_int b t _ _ _ _ ⟨.bl _,H,I,rfl,q⟩; all_goals simp
  | str b=>obtain ⟨t,rfl⟩:=ry; rw[Em] at q; exact SeqAt.RcAt.none_str b t _ _ _ _ ⟨.bl _,H,I,rfl,q⟩; all_goals simp
  | @lst b ys es q2 rr2=>cases ry; obtain ⟨vs,r2,p2,_⟩:=I.list q2; rw[Em] at q; exact SeqAt.RcAt.none_list p2.isList hu' _ _ _ _ ⟨.bl _,H,I,rfl,q⟩; all_goals simp
  | @tup b ys es q2 rr2=>cases ry; obtain ⟨vs,r2,p2,_⟩:=I.tuple q2; rw[Em] at q; exact SeqAt.RcAt.none_tuple p2 hu' _ _ _ _ ⟨.bl _,H,I,rfl,q⟩; all_goals simp
 | bl a =>
  cases rx
  cases h2 with
  | non=>cases ry; rw[Em] at q; exact SeqAt.RcAt.bool_none a _ _ _ _ ⟨.bl _,H,I,rfl,q⟩; all_goals simp
  | bl b=>cases ry; rw[Em] at q; exact SeqAt.RcAt.bool_bool a b _ _ _ _ ⟨.bl _,H,I,rfl,q⟩
  | int b=>obtain ⟨t,rfl⟩:=ry; rw[Em] at q; exact SeqAt.RcAt.bool_int a b t _ _ _ _ ⟨.bl _,H,I,rfl,q⟩
  | str b=>obtain ⟨t,rfl⟩:=ry; rw[Em] at q; exact SeqAt.RcAt.bool_str a b t _ _ _ _ ⟨.bl _,H,I,rfl,q⟩; all_goals simp
  | @lst b ys es q2 rr2=>cases ry; obtain ⟨vs,r2,p2,_⟩:=I.list q2; rw[Em] at q; exact SeqAt.RcAt.bool_list a p2.isList hu' _ _ _ _ ⟨.bl _,H,I,rfl,q⟩; all_goals simp
  | @tup b ys es q2 rr2=>cases ry; obtain ⟨vs,r2,p2,_⟩:=I.tuple q2; rw[Em] at q; exact SeqAt.RcAt.bool_tuple a p2 hu' _ _ _ _ ⟨.bl _,H,I,rfl,q⟩; all_goals simp
 | int a =>
  w_pre x9
  cases h2 with
  | non=>cases ry; rw[Em] at q; exact SeqAt.RcAt.int_none a t' _ _ _ _ ⟨.bl _,H,I,rfl,q⟩; all_goals simp
  | bl b=>cases ry; rw[Em] at q; exact SeqAt.RcAt.int_bool a t' b _ _ _ _ ⟨.bl _,H,I,rfl,q⟩
  | int b=>obtain ⟨t,rfl⟩:=ry; rw[Em] at q; exact SeqAt.RcAt.int_int a t' b t _ _ _ _ ⟨.bl _,H,I,rfl,q⟩
  | str b=>obtain ⟨t,rfl⟩:=ry; rw[Em] at q; exact SeqAt.RcAt.int_str a t' b t _ _ _ _ ⟨.bl _,H,I,rfl,q⟩; all_goals simp
  | @lst b ys es q2 rr2=>cases ry; obtain ⟨vs,r2,p2,_⟩:=I.list q2; rw[Em] at q; exact SeqAt.RcAt.int_list a t' p2.isList hu' _ _ _ _ ⟨.bl _,H,I,rfl,q⟩; all_goals simp
  | @tup b ys es q2 rr2=>cases ry; obtain ⟨vs,r2,p2,_⟩:=I.tuple q2; rw[Em] at q; exact SeqAt.RcAt.int_tuple a t' p2 hu' _ _ _ _ ⟨.bl _,H,I,rfl,q⟩; all_goals simp
 | str a =>
  w_pre x9
  cases h2 with
  | non=>cases ry; rw[Em] at q; exact SeqAt.RcAt.str_none a t' _ _ _ _ ⟨.bl _,H,I,rfl,q⟩; all_goals simp
  | bl b=>cases ry; rw[Em] at q; exact SeqAt.RcAt.str_bool a t' b _ _ _ _ ⟨.bl _,H,I,rfl,q⟩; all_goals simp
  | int b=>obtain ⟨t,rfl⟩:=ry; rw[Em] at q; exact SeqAt.RcAt.str_int a t' b t _ _ _ _ ⟨.bl _,H,I,rfl,q⟩; all_goals simp
  | str b=>obtain ⟨t,rfl⟩:=ry; rw[Em] at q; exact SeqAt.RcAt.str_str a t' b t _ _ _ _ ⟨.bl _,H,I,rfl,q⟩
  | @lst b ys es q2 rr2=>cases ry; obtain ⟨vs,r2,p2,_⟩:=I.list q2; rw[Em] at q; exact SeqAt.RcAt.str_list a t' p2.isList hu' _ _ _ _ ⟨.bl _,H,I,rfl,q⟩; all_goals simp
  | @tup b ys es q2 rr2=>cases ry; obtain ⟨vs,r2,p2,_⟩:=I.tuple q2; rw[Em] at q; exact SeqAt.RcAt.str_tuple a t' p2 hu' _ _ _ _ ⟨.bl _,H,I,rfl,q⟩; all_goals simp
 | @lst a xs ds qa r =>
  cases rx
  obtain ⟨us,r1,p,_⟩:=I.list qa
  cases h2 with
  | non=>cases ry; rw[Em] at q; exact SeqAt.RcAt.list_none p.isList hu' _ _ _ _ ⟨.bl _,H,I,rfl,q⟩; all_goals simp
  | bl b=>cases ry; rw[Em] at q; exact SeqAt.RcAt.list_bool b p.isList hu' _ _ _ _ ⟨.bl _,H,I,rfl,q⟩; all_goals simp
  | int b=>obtain ⟨t,rfl⟩:=ry; rw[Em] at q; exact SeqAt.RcAt.list_int b t p.isList hu' _ _ _ _ ⟨.bl _,H,I,rfl,q⟩; all_goals simp
  | str b=>obtain ⟨t,rfl⟩:=ry; rw[Em] at q; exact SeqAt.RcAt.list_str b t p.isList hu' _ _ _ _ ⟨.bl _,H,I,rfl,q⟩; all_goals simp
  | @lst b ys es q2 rr2=>cases ry; obtain ⟨vs,r2,p2,_⟩:=I.list q2; rw[Em] at q; exact nW p p2 (r1.length.symm.trans r.length) (r2.length.symm.trans rr2.length) hu' (λj h1 h2=>Si I r rr2 r1 r2 (Zl (by simp only[Ea] at hd; omega)) j h1 h2) _ _ _ _ ⟨.bl _,H,I,rfl,q⟩
  | @tup b ys es q2 rr2=>cases ry; obtain ⟨vs,r2,p2,_⟩:=I.tuple q2; rw[Em] at q; exact SeqAt.RcAt.list_tuple p.isList p2 hu' _ _ _ _ ⟨.bl _,H,I,rfl,q⟩; all_goals simp
 | @tup a xs ds qa r =>
  cases rx
  obtain ⟨us,r1,p,_⟩:=I.tuple qa
  cases h2 with
  | non=>cases ry; rw[Em] at q; exact SeqAt.RcAt.tuple_none p hu' _ _ _ _ ⟨.bl _,H,I,rfl,q⟩; all_goals simp
  | bl b=>cases ry; rw[Em] at q; exact SeqAt.RcAt.tuple_bool b p hu' _ _ _ _ ⟨.bl _,H,I,rfl,q⟩; all_goals simp
  | int b=>obtain ⟨t,rfl⟩:=ry; rw[Em] at q; exact SeqAt.RcAt.tuple_int b t p hu' _ _ _ _ ⟨.bl _,H,I,rfl,q⟩; all_goals simp
  | str b=>obtain ⟨t,rfl⟩:=ry; rw[Em] at q; exact SeqAt.RcAt.tuple_str b t p hu' _ _ _ _ ⟨.bl _,H,I,rfl,q⟩; all_goals simp
  | @lst b ys es q2 rr2=>cases ry; obtain ⟨vs,r2,p2,_⟩:=I.list q2; rw[Em] at q; exact SeqAt.RcAt.tuple_list p p2.isList hu' _ _ _ _ ⟨.bl _,H,I,rfl,q⟩; all_goals simp
  | @tup b ys es q2 rr2=>cases ry; obtain ⟨vs,r2,p2,_⟩:=I.tuple q2; rw[Em] at q; exact iP p p2 (r1.length.symm.trans r.length) (r2.length.symm.trans rr2.length) hu' (λj h1 h2=>Si I r rr2 r1 r2 (Zl (by simp only[Ea] at hd; omega)) j h1 h2) _ _ _ _ ⟨.bl _,H,I,rfl,q⟩
theorem DP(hu:X.A.units+64<cLine):Ze X (Jl .NotEq) (FX X.K):=by
 w_pre a3
 cases h1 with
 | non =>
  cases rx
  cases h2 with
  | non=>cases ry; rw[Em] at q; exact SeqAt.RcNeAt.none_none _ _ _ _ ⟨.bl _,H,I,rfl,q⟩
  | bl b=>cases ry; rw[Em] at q; exact SeqAt.RcNeAt.none_bool b _ _ _ _ ⟨.bl _,H,I,rfl,q⟩; all_goals simp
  | int b=>obtain ⟨t,rfl⟩:=ry; rw[Em] at q; exact SeqAt.RcNeAt.none_int b t _ _ _ _ ⟨.bl _,H,I,rfl,q⟩; all_goals simp
  | str b=>obtain ⟨t,rfl⟩:=ry; rw[Em] at q; exact SeqAt.RcNeAt.none_str b t _ _ _ _ ⟨.bl _,H,I,rfl,q⟩; all_goals simp
  | @lst b ys es q2 rr2=>cases ry; obtain ⟨vs,r2,p2,_⟩:=I.list q2; rw[Em] at q; exact SeqAt.RcNeAt.none_list p2.isList hu' _ _ _ _ ⟨.bl _,H,I,rfl,q⟩; all_goals simp
  | @tup b ys es q2 rr2=>cases ry; obtain ⟨vs,r2,p2,_⟩:=I.tuple q2; rw[Em] at q; exact SeqAt.RcNeAt.none_tuple p2 hu' _ _ _ _ ⟨.bl _,H,I,rfl,q⟩; all_goals simp
 | bl a =>
  cases rx
  cases h2 with
  | non=>cases ry; rw[Em] at q; exact SeqAt.RcNeAt.bool_none a _ _ _ _ ⟨.bl _,H,I,rfl,q⟩; all_goals simp
  | bl b=>cases ry; rw[Em] at q; exact SeqAt.RcNeAt.bool_bool a b _ _ _ _ ⟨.bl _,H,I,rfl,q⟩
  | int b=>obtain ⟨t,rfl⟩:=ry; rw[Em] at q; exact SeqAt.RcNeAt.bool_int a b t _ _ _ _ ⟨.bl _,H,I,rfl,q⟩
  | str b=>obtain ⟨t,rfl⟩:=ry; rw[Em] at q; exact SeqAt.RcNeAt.bool_str a b t _ _ _ _ ⟨.bl _,H,I,rfl,q⟩; all_goals simp
  | @lst b ys es q2 rr2=>cases ry; obtain ⟨vs,r2,p2,_⟩:=I.list q2; rw[Em] at q; exact SeqAt.RcNeAt.bool_list a p2.isList hu' _ _ _ _ ⟨.bl _,H,I,rfl,q⟩; all_goals simp
  | @tup b ys es q2 rr2=>cases ry; obtain ⟨vs,r2,p2,_⟩:=I.tuple q2; rw[Em] at q; exact SeqAt.RcNeAt.bool_tuple a p2 hu' _ _ _ _ ⟨.bl _,H,I,rfl,q⟩; all_goals simp
 | int a =>
  w_pre x9
  cases h2 with
  | non=>cases ry; rw[Em] at q; exact SeqAt.RcNeAt.int_none a t' _ _ _ _ ⟨.bl _,H,I,rfl,q⟩; all_goals simp
  | bl b=>cases ry; rw[Em] at q; exact SeqAt.RcNeAt.int_bool a t' b _ _ _ _ ⟨.bl _,H,I,rfl,q⟩
  | int b=>obtain ⟨t,rfl⟩:=ry; rw[Em] at q; exact SeqAt.RcNeAt.int_int a t' b t _ _ _ _ ⟨.bl _,H,I,rfl,q⟩
  | str b=>obtain ⟨t,rfl⟩:=ry; rw[Em] at q; exact SeqAt.RcNeAt.int_str a t' b t _ _ _ _ ⟨.bl _,H,I,rfl,q⟩; all_goals simp
  | @lst b ys es q2 rr2=>cases ry; obtain ⟨vs,r2,p2,_⟩:=I.list q2; rw[Em] at q; exact SeqAt.RcNeAt.int_list a t' p2.isList hu' _ _ _ _ ⟨.bl _,H,I,rfl,q⟩; all_goals simp
  | @tup b ys es q2 rr2=>cases ry; obtain ⟨vs,r2,p2,_⟩:=I.tuple q2; rw[Em] at q; exact SeqAt.RcNeAt.int_tuple a t' p2 hu' _ _ _ _ ⟨.bl _,H,I,rfl,q⟩; all_goals simp
 | str a =>
  w_pre x9
  cases h2 with
  | non=>cases ry; rw[Em] at q; exact SeqAt.RcNeAt.str_none a t' _ _ _ _ ⟨.bl _,H,I,rfl,q⟩; all_goals simp
  | bl b=>cases ry; rw[Em] at q; exact SeqAt.RcNeAt.str_bool a t' b _ _ _ _ ⟨.bl _,H,I,rfl,q⟩; all_goals simp
  | int b=>obtain ⟨t,rfl⟩:=ry; rw[Em] at q; exact SeqAt.RcNeAt.str_int a t' b t _ _ _ _ ⟨.bl _,H,I,rfl,q⟩; all_goals simp
  | str b=>obtain ⟨t,rfl⟩:=ry; rw[Em] at q; exact SeqAt.RcNeAt.str_str a t' b t _ _ _ _ ⟨.bl _,H,I,rfl,q⟩
  | @lst b ys es q2 rr2=>cases ry; obtain ⟨vs,r2,p2,_⟩:=I.list q2; rw[Em] at q; exact SeqAt.RcNeAt.str_list a t' p2.isList hu' _ _ _ _ ⟨.bl _,H,I,rfl,q⟩; all_goals simp
  | @tup b ys es q2 rr2=>cases ry; obtain ⟨vs,r2,p2,_⟩:=I.tuple q2; rw[Em] at q; exact SeqAt.RcNeAt.str_tuple a t' p2 hu' _ _ _ _ ⟨.bl _,H,I,rfl,q⟩; all_goals simp
 | @lst a xs ds qa r =>
  cases rx
  obtain ⟨us,r1,p,_⟩:=I.list qa
  cases h2 with
  | non=>cases ry; rw[Em] at q; exact SeqAt.RcNeAt.list_none p.isList hu' _ _ _ _ ⟨.bl _,H,I,rfl,q⟩; all_goals simp
  | bl b=>cases ry; rw[Em] at q; exact SeqAt.RcNeAt.list_bool b p.isList hu' _ _ _ _ ⟨.bl _,H,I,rfl,q⟩; all_goals simp
  | int b=>obtain ⟨t,rfl⟩:=ry; rw[Em] at q; exact SeqAt.RcNeAt.list_int b t p.isList hu' _ _ _ _ ⟨.bl _,H,I,rfl,q⟩; all_goals simp
  | str b=>obtain ⟨t,rfl⟩:=ry; rw[Em] at q; exact SeqAt.RcNeAt.list_str b t p.isList hu' _ _ _ _ ⟨.bl _,H,I,rfl,q⟩; all_goals simp
  | @lst b ys es q2 rr2=>cases ry; obtain ⟨vs,r2,p2,_⟩:=I.list q2; rw[Em] at q; exact wR p p2 (r1.length.symm.trans r.length) (r2.length.symm.trans rr2.length) hu' (λj h1 h2=>Si I r rr2 r1 r2 (Zl (by simp only[Ea] at hd; omega)) j h1 h2) _ _ _ _ ⟨.bl _,H,I,rfl,q⟩
  | @tup b ys es q2 rr2=>cases ry; obtain ⟨vs,r2,p2,_⟩:=I.tuple q2; rw[Em] at q; exact SeqAt.RcNeAt.list_tuple p.isList p2 hu' _ _ _ _ ⟨.bl _,H,I,rfl,q⟩; all_goals simp
 | @tup a xs ds qa r =>
  cases rx
  obtain ⟨us,r1,p,_⟩:=I.tuple qa
  cases h2 with
  | non=>cases ry; rw[Em] at q; exact SeqAt.RcNeAt.tuple_none p hu' _ _ _ _ ⟨.bl _,H,I,rfl,q⟩; all_goals simp
  | bl b=>cases ry; rw[Em] at q; exact SeqAt.RcNeAt.tuple_bool b p hu' _ _ _ _ ⟨.bl _,H,I,rfl,q⟩; all_goals simp
  | int b=>obtain ⟨t,rfl⟩:=ry; rw[Em] at q; exact SeqAt.RcNeAt.tuple_int b t p hu' _ _ _ _ ⟨.bl _,H,I,rfl,q⟩; all_goals simp
  | str b=>obtain ⟨t,rfl⟩:=ry; rw[Em] at q; exact SeqAt.RcNeAt.tuple_str b t p hu' _ _ _ _ ⟨.bl _,H,I,rfl,q⟩; all_goals simp
  | @lst b ys es q2 rr2=>cases ry; obtain ⟨vs,r2,p2,_⟩:=I.list q2; rw[Em] at q; exact SeqAt.RcNeAt.tuple_list p p2.isList hu' _ _ _ _ ⟨.bl _,H,I,rfl,q⟩; all_goals simp
  | @tup b ys es q2 rr2=>cases ry; obtain ⟨vs,r2,p2,_⟩:=I.tuple q2; rw[Em] at q; exact qN p p2 (r1.length.symm.trans r.length) (r2.length.symm.trans rr2.length) hu' (λj h1 h2=>Si I r rr2 r1 r2 (Zl (by simp only[Ea] at hd; omega)) j h1 h2) _ _ _ _ ⟨.bl _,H,I,rfl,q⟩
theorem C3{z z':V}{v:Value}(h:RelV z v)(h':RelV z' v):z=z':=by
 cases z <;> cases z' <;> simp only[L2.RelV] at h h' <;> first | rfl | (subst h; cases h'; rfl) | (subst h; cases h'; done) | (obtain ⟨t,rfl⟩:=h; obtain ⟨t',e⟩:=h'; cases e; rfl) | (obtain ⟨t,rfl⟩:=h; obtain ⟨t',e⟩:=h'; cases e; done) | (obtain ⟨t,rfl⟩:=h; cases h'; done) | (subst h; obtain ⟨t',e⟩:=h'; cases e)
open Classical in
noncomputable def Om(K:PySem.W.Frag)(H:Hp)(d:Af)(v:Value):Bool:=if h:∃e z,RdV K H z e/\RelV z v then Em h.choose d else false
theorem nQ{pins:List (Addr×Obj)}{σ:L2.St}{H:Hp}{s:Ai}(I:Inv X pins σ H s){d e:Af}{z:V}{v:Value}(h:RdV X.K H z e)(r:RelV z v):Om X.K H d v=Em e d:=by
 unfold Om
 have hx:∃e z,RdV X.K H z e/\RelV z v:=⟨e,z,h,r⟩
 rw[dif_pos hx]
 obtain ⟨z',h',r'⟩:=hx.choose_spec
 have ez:=C3 r' r
 subst ez
 rw[RdV.det I h' h]
theorem Rm{pins:List (Addr×Obj)}{σ:L2.St}{H:Hp}{s:Ai}(I:Inv X pins σ H s){d:Af}:∀{xs:List V} {ds:List Af} {us:List Value},RdVs X.K H xs ds->Gj xs us->us.any (Om X.K H d)=ds.any λe=>Em e d
 | _,_,_,.nil,r=>by cases r; rfl
 | _,_,_,.cons h t,r=>by
  cases r with
  | cons r1 r2=>rw[Zf,Zf,nQ I h r1,Rm I t r2]
theorem Ri{pins:List (Addr×Obj)}{σ:L2.St}{H:Hp}{s:Ai}(I:Inv X pins σ H s){A:Ci}{x:V}{d:Af}{u:Value}(hx:RdV X.K H x d)(rx:RelV x u):∀{xs:List V} {ds:List Af} {us:List Value},RdVs X.K H xs ds->Gj xs us->A.units+Br ds<cLine->∀v∈us,Od A s v u (Om X.K H d v)
 | _,_,_,.nil,r,_=>λv hv=>by cases r; cases hv
 | _,_,_,@RdVs.cons _ _ y e ys es h t,r,hu=>λv hv=>by
  have hm:A.units+e.depth<cLine/\A.units+Br es<cLine:=by
   simp only[Br] at hu
   omega
  cases r with
  | cons r1 r2 =>
   rcases Ak.mp hv with rfl | hv
   ·rw[nQ I h r1]; exact t9 I h hx r1 rx hm.1
   ·exact Ri I hx rx t r2 hm.2 v hv
def AK(K:PySem.W.Frag)(neg:Bool):R2:=λx y H Q=>∃p xs d ds,y=.ref p/\(Mp K H p xs\/Rq K H p xs)/\RdV K H x d/\RdVs K H xs ds/\Br ds<=60/\Q (.bl (if neg then !(ds.any λe=>Em e d) else ds.any λe=>Em e d)) H
theorem x8(hu:X.A.units+64<cLine):Ze X (Jl .In) (AK X.K false):=by
 w_pre o0
 ·obtain ⟨its,r,pl,hz⟩:=I.list hq
  refine SeqAt.in_listAt (Om X.K H d) pl.isList (λw hw=>Ri I hx rx hs r hu1 w (by simpa using hw)) ⟨.bl _,H,I,rfl,?_⟩
  w_pre m4
 ·obtain ⟨its,r,pl,hz⟩:=I.tuple hq
  refine SeqAt.in_tupleAt (Om X.K H d) pl (λw hw=>Ri I hx rx hs r hu1 w (by simpa using hw)) ⟨.bl _,H,I,rfl,?_⟩
  w_pre m4
theorem yQ(hu:X.A.units+64<cLine):Ze X (Jl .NotIn) (AK X.K true):=by
 w_pre o0
 ·obtain ⟨its,r,pl,hz⟩:=I.list hq
  refine SeqAt.notIn_listAt (Om X.K H d) pl.isList (λw hw=>Ri I hx rx hs r hu1 w (by simpa using hw)) ⟨.bl _,H,I,rfl,?_⟩
  w_pre m4
 ·obtain ⟨its,r,pl,hz⟩:=I.tuple hq
  refine SeqAt.notIn_tupleAt (Om X.K H d) pl (λw hw=>Ri I hx rx hs r hu1 w (by simpa using hw)) ⟨.bl _,H,I,rfl,?_⟩
  w_pre m4
end
def JY(K:PySem.W.Frag)(a:Addr):It :=
 ⟨λi H=>∃xs x,Mp K H a xs/\xs[i]? = some x,λi H x H'=>∃p y,x=.ref p/\H p=none/\H'=upd H p (.tup [.int i,y])/\∀xs,Mp K H a xs->xs[i]? = some y,λi H=>∃xs,Mp K H a xs/\xs.length<=i⟩
section
variable{X:Cx}{pins:List (Addr×Obj)}{σ:L2.St}{H:Hp}{s:Ai}{h':Heap}
theorem Ln{t':Nat}{fp:List Addr}(I:Inv X pins σ H s)(k:∀b o,b∉fp->s.heap.get? b=some o->h'.get? b=some o)(hf:∀b∈fp,La X pins H b):Inv X pins σ H { s with heap:=h',toks:=t' }:=by
 have nit:∀b u,H b=some u->b∉fp:=λb u e z=>by rw[(hf b z).1] at e; cases e
 refine I.step (g':=s.gens) (d':=s.drawn) (ch:=fp) (λb hb=>?_) (λb o _ _ hc e _=>k b o hc e) (λb o _ _ hc e _=>⟨o.slots,k b o hc e⟩) (λ_ _ _ _ n=>n)
  (λb o hc e=>⟨o,k b o hc e⟩) (λ_ _ e=>e) (λ_ _ _ e=>e) (λb ps e=>⟨#[],by rw[e]; simp⟩) (λm hm=>?_) (λb u e=>?_) I.bare
 ·obtain ⟨_,f1,_,f3,f4,f5⟩:=hf b hb
  exact ⟨f3,f1,f4,f5⟩
 ·obtain ⟨o,es,ep,ho,r⟩:=hm
  exact ⟨o,es,ep,k _ o (λz=>(hf _ z).2.1 rfl) ho,r⟩
 w_pre k1
end
theorem yG{P:Bk}{w:World}{K:PySem.W.Frag}{elts:List Expr}{k:Nat}{pos:Pos}(a e it:Addr)(ne:e≠it):Turn P w K (.Tuple elts k pos) (JY K a) [e,it] e (λi h=>(∃old,IsEnum h e it ((i:Nat):Int) old)/\h.IsListIter it a i) where
 mem:=Ab
 obj:=λi h st b hb=>by
  w_pre i0
 keep:=λi h h' st kp=>⟨let ⟨old,he⟩:=st.1; ⟨old,kp e Ab _ he⟩,st.2.at λo q=>kp it (Ac _ Ab) o q⟩
 item:=by
  w_pre s0
  w_pre u2
  refine wpAny_pyNext_enum_item he hit p.isList (x:=u) (by simpa using hu) ne λh1 ho hit1 hT hsz hk=>⟨_,rfl,vY ho λh2 he2 hs2=>?_⟩
  have hs2':Cv e h1 h2:=hs2
  -- the pair laid,then the iterators turned
  have I1:Inv X pins σ (upd H s.heap.objs.size (.tup [.int i,x])) { s with heap:=s.heap.push { cls:=.type "tuple",data:=.seq #[.int i s.toks,u] } } :=
   I.laid (t':=s.toks) (λb o q=>Ag _ q) (Aj _) ⟨by show 2<=Ay; decide,[.int i s.toks,u],.cons ⟨_,rfl⟩ (.cons ru .nil),_,Au _ rfl,rfl,0,rfl⟩
  have nT:∀b∈[e,it],b≠s.heap.objs.size:=λb hb=>by
   w_pre o3
  have fr:∀b∈[e,it],(upd H s.heap.objs.size (.tup [.int i,x])) b=none:=λb hb=>by rw[Dw (nT b hb)]; exact (hf b hb).1
  refine ⟨.ref s.heap.objs.size,_,Ln (fp:=[e,it]) (s:={ s with heap:=s.heap.push { cls:=.type "tuple",data:=.seq #[.int i s.toks,u] } }) (h':=h2) (t':=s.toks+1) I1 (λb o hb q=>?_) (λb hb=>⟨fr b hb,(hf b hb).2⟩),rfl,⟨_,x,rfl,I.hok.fresh (Aj _),rfl,λys hy=>by rw[I.list_inj hy hq]; exact hx⟩,⟨⟨u,?_⟩,?_⟩,fr⟩
  ·have nbe:b≠e:=λz=>hb (by rw[z]; exact Ab)
   w_pre w2
   ·subst hbT
    have q':=(Au s.heap (o:={ cls:=.type "tuple",data:=.seq #[.int i s.toks,u] }) rfl).symm.trans q
    rw[hT]
    exact q'
   ·refine hk b o nbe nbi ?_
    have q0:(s.heap.push { cls:=.type "tuple",data:=.seq #[.int i s.toks,u] }).get? b=some o:=q
    w_pre z3
  w_pre t3
  ·exact hit1.at λo q=>(hs2'.2 it (Lu ne)).trans q
 done:=by
  w_pre q1
  w_pre o7
  exact wpAny_pyNext_enum_end (I.ok.hd hc) he hit p.isList (by simp; omega) λh1 eb=>⟨rfl,Ln (fp:=[e,it]) (t':=s.toks) I (λb o hb q=>eb b o (λz=>hb (by rw[z]; exact Ac _ Ab)) q) hf⟩
 self:=λ_ _ _ _ _ st h=>let ⟨_,he⟩:=st.1; Uu he h
section
variable{X:Cx}
def FV(K:PySem.W.Frag)(ta:TA):TI:=λσ H R=>ta σ H λvs H1=>∃a,vs=[.ref a]/\(∃xs,Mp K H1 a xs)/\R (JY K a) H1
theorem L7{elts:List Expr}{k:Nat}{tp:Pos}{a:Expr}{ta:TA}{p pos:Pos}(hg:Gl X "enumerate")(hm:X.mg "enumerate" = none)(ha:PA X [a] ta)(hs:Bj [a] X.env=[(false,eval a X.env)]:=by rfl):PI X (.Tuple elts k tp) (.Call (.Name "enumerate" p) [a] [] pos) (FV X.K ta):=by
 w_pre f0
 obtain ⟨its,rv,pl,hz⟩:=I1.list hq
 refine call_enumerate_list pl.isList λh2 he hit hsz hk=>Uu he ?_
 have fr:∀b∈[s1.heap.objs.size+1,s1.heap.objs.size],La X pins H1 b:=λb hb=>by
  w_pre r2
 exact ⟨s1.heap.objs.size+1,[s1.heap.objs.size+1,s1.heap.objs.size],_,_,H1,rfl,I1.kept (t':=s1.toks) hk,yG l _ _ (Nat.succ_ne_self _),⟨⟨_,he⟩,hit⟩,fr,q⟩
end
section
variable{X:Cx}
def BN(K:PySem.W.Frag)(J:It)(js:List Nat)(tc:TT)(te:TE)(σ:L2.St)(H1:Hp)(Q:VK):Prop:=∀D,H1 D=none->∃W:Nat->Nat->Hp->Prop,(∃m,W 0 m (upd H1 D (.lst [])))/\∀i m H,W i m H ->
 (J.stop i H/\Q (.ref D) H)\/(J.go i H/\∀x H',J.yld i H x H'->∃(t:Addr) (w1 w2:V),x=.ref t/\Rq K H' t [w1,w2]/\∃(N1:Hp->Prop) (N2:VK),(∀H2,N1 H2->∃m',m'<m/\W (i+1) m' H2) /\
  (∀y H3,N2 y H3->∃acc,H3 D=some (.lst acc)/\acc.length<Ay/\∃m',m'<m/\W (i+1) m' (upd H3 D (.lst (acc++[y])))) /\
  tc (some w1::some w2::Eh σ js) H' λc H2=>if c=true then te (some w1::some w2::Eh σ js) H2 N2 else N1 H2)
def lJ(K:PySem.W.Frag)(wi:TI)(js:List Nat)(tc:TT)(te:TE):TE:=λσ H Q=>wi σ H λJ H1=>BN K J js tc te σ H1 Q
theorem A5{elt iter:Expr}{x x2:Str}{px px2 pt pos:Pos}{kt:Nat}{ifs:List Expr}{scope:Scope}{cl:List (Str×Addr)}{ys:List Str}{js:List Nat}{wi:TI}{tc:TT}{te:TE}(C:CompScope X scope cl x ys js)(own2:Zy scope x2)(nd2:(x::x2::ys).Nodup)(hc:X.calm=true)(hi:PI X (.Tuple [.Name x px,.Name x2 px2] kt pt) iter wi)(ht:∀fp s H,qM (Dh X scope cl (x::x2::ys) fp s H) ifs tc)(he:∀fp s H,PE (Dh X scope cl (x::x2::ys) fp s H) elt te)(hs:∀x,Da iter X.env x=pure x:=by intro _; rfl):PE X (.ListComp elt [⟨.Tuple [.Name x px,.Name x2 px2] kt pt,iter,ifs,0⟩] scope pos) (lJ X.K wi js tc te):=by
 w_pre o2
 w_pre a
 have loop:∀s5:Ai,s5={ s3 with heap:=h4,toks:=s3.toks+([]:List (Str×Value)).length } ->
   Hb (model X.prog X.w) X.A (.compLoop (.ListComp elt [⟨.Tuple [.Name x px,.Name x2 px2] kt pt,iter,ifs,0⟩] scope pos) 0 (.ref it) (.ref s2.heap.objs.size) (Te scope (En (s3.heap.objs.size+1) scope.names cl) s3.heap.objs.size X.env))
    (compPost (model X.prog X.w) X.A X.xe none (EP X pins σ Q) (.ref s2.heap.objs.size) s3.heap.objs.size) s5:=by
  w_pre c1
  w_pre d
  w_pre c
 w_pre z7
end
section
variable{X:Cx}
theorem V1{elt iter:Expr}{x y0:Str}{px py pos spos:Pos}{i0:Nat}{ifs:List Expr}{scope:Scope}{cl:List (Str×Addr)}{ys:List Str}{js:List Nat}{wi:TI}{tc:TT}{te:TE}(hN:X.N.Nodup)(hi0:X.N[i0]? = some y0)(hy0:X.env.scope.names.lookup y0=some .local)(C:CompScope X scope cl x ys js)(hc:X.calm=true)(hi:PI X (.Name x px) iter wi)(ht:∀fp s H,qM (Dh X scope cl (x::ys) fp s H) ifs tc)(he:∀fp s H,PE (Dh X scope cl (x::ys) fp s H) elt te)(hs:∀x,Da iter X.env x=pure x:=by intro _; rfl)(hsw:Oa (.ListComp elt [⟨.Name x px,iter,ifs,0⟩] scope pos) (some (.Name y0 py)) spos.line X.env=pure true:=by rfl):PS X (.Assign [.Name y0 py] (.ListComp elt [⟨.Name x px,iter,ifs,0⟩] scope pos) spos) (E6 (vE wi js tc te) (Pj i0)):=by
 intro pins s σ H De I h
 have h:vE wi js tc te σ H λv H1=>De.nx (σ.set i0 (some v)) H1:=h
 w_pre n6
 show wpAny _ X.A (do let _ <- comprehension (.ListComp elt [⟨.Name x px,iter,ifs,0⟩] scope pos) scope X.env _ (newList []) false (eval iter X.env) (some (Nr (.Name y0 py) X.env))) _ _ s
 w_pre c8
 w_pre b
 have loop:∀s5:Ai,s5={ s3 with heap:=h4,toks:=s3.toks+([]:List (Str×Value)).length } ->
   Hb (model X.prog X.w) X.A (.compLoop (.ListComp elt [⟨.Name x px,iter,ifs,0⟩] scope pos) 0 (.ref it) (.ref s2.heap.objs.size) (Te scope (En (s3.heap.objs.size+1) scope.names cl) s3.heap.objs.size X.env))
    (compPost (model X.prog X.w) X.A X.xe (some (Nr (.Name y0 py) X.env)) (λ_ s'=>SP X pins De .next s') (.ref s2.heap.objs.size) s3.heap.objs.size) s5:=by
  w_pre d1
  w_pre f
  w_pre e
 w_pre z7
end
end Nd
namespace Nd
open PySem L2
def X8(K:PySem.W.Frag):R2:=λx y H Q=>∃a b xs ys,x=.ref a/\y=.ref b/\Rq K H a xs/\Rq K H b ys/\xs.length+ys.length<=Ay/\(xs=[]->Q (.ref b) H)/\(ys=[]->Q (.ref a) H)/\(∀p,H p=none->Q (.ref p) (upd H p (.tup (xs++ys))))
open PyProof.Rows in
theorem S7{X:Cx}:Ze X (Jp .Add) (X8 X.K):=by
 w_pre h8
 obtain ⟨a,b,xs,ys,rfl,rfl,ha,hb,hz,q1,q3,q2⟩:=h
 by_cases hx:xs=[]
 ·cases rx
  w_pre j3
  have e1:its=[]:=r1.nil_iff.mpr hx
  subst e1
  obtain ⟨⟨c1,d1,dt1,sl1⟩,g1,k1,n1,e1⟩:=id p1
  obtain ⟨⟨c2,d2,dt2,sl2⟩,g2,k2,n2,e2⟩:=id p2
  simp only at k1 e1 k2 e2
  subst k1 e1 k2 e2
  exact concat_meets ⟨_,g1,rfl⟩ ⟨_,g2,rfl⟩ mD seq_tuple_add PySem.F.slot_tuple_add PySem.F.entry_tuple_add (PySem.F.args_tuple_add_2 _ _)
   (tuple_addW0 a b _ _ n1 n2 d1 d2 sl1 sl2 rfl) ⟨g1,g2,⟨.ref b,H,I,rfl,q1 hx⟩⟩
 ·exact Q1 pins s σ H (.ref a) (.ref b) v u Q I rx ry ⟨a,b,xs,ys,rfl,rfl,ha,hb,hx,hz,q3,λ_=>q2⟩
theorem Zq:∀{l:List Int},l.Nodup->l.Pairwise (·<=·)->l.Pairwise (· < ·)
 | [],_,_=>.nil
 | a::l,n,p=>by
  obtain ⟨h1,q1⟩:=Bd.mp p
  obtain ⟨m1,n1⟩:=Cm.mp n
  refine Bd.mpr ⟨λb hb=>?_,Zq n1 q1⟩
  have:=h1 b hb
  have : a≠b:=λz=>m1 (by rw[z]; exact hb)
  omega
end Nd
namespace Nd
open PySem PySem.Spec PyProof.Rows L2
end Nd
namespace Nd
open PySem L2
theorem compScope0{X:Cx}{scope:Scope}{x:Str}(clos:closureFor scope X.env=pure [])(nocell:∀y∈scope.names,y.2≠.cell)(kind:scope.kind=.function)(locs:∀y∈scope.names,y.2=.local->scope.names.lookup y.1=some .local)(own:scope.names.lookup x=some .local)(has_:(scope.names.all λy=>!(y.2 == Ew) || (([]:List (Str×Addr)).lookup y.1).isSome)=true):CompScope X scope [] x [] [] :=
 ⟨clos,.inl nocell,kind,locs,.inl own,λ_ _ h=>by simp at h,has_,Cm.mpr ⟨Az,Ep⟩,rfl,λk y j e1 _=>by simp at e1⟩
theorem sz{n:Nat}(h:n<=1000:=by first | decide | simp | (simp; omega)):n<=Ay:=Jd (iE h)
end Nd
namespace Nd
open PySem PySem.Spec PyProof.Rows L2
theorem p7:∀{vs:List Value} {ns:List Int},Fp vs ns->Gj (ns.map V.int) vs
 | _,_,.nil=>.nil
 | _,_,.cons n t h=>.cons ⟨t,rfl⟩ (p7 h)
section
variable{X:Cx}
def pB(K:PySem.W.Frag):List V->Hp->VK->Prop:=λxs H Q=>∃(a:Addr) (ns:List Int),xs=[.ref a]/\Mp K H a (ns.map V.int)/\ns.length<64 /\
 ∀(p:Addr) (ms:List Int),H p=none->ms.Perm ns->ms.Pairwise (·<=·)->Q (.ref p) (upd H p (.lst (ms.map V.int)))
theorem Xn:Mh X (.builtin "sorted") (pB X.K):=by
 w_pre r7
 obtain ⟨a,ns,rfl,hs,hl,q⟩:=h
 w_pre q4
 obtain ⟨its,rv,p,hz⟩:=I.list hs
 have len:its.length<64:=by rw[<- rv.length,Ad]; exact hl
 refine sorted_ints p.isList (intsAre_of rv) len λout ms a1 a2 a3=>?_
 obtain ⟨e,he⟩:=sortedAll_at s.heap its out
 have ml:ms.length<64:=by rw[a2.length_eq]; exact hl
 exact ⟨.ref (s.heap.objs.size+1),_,I.laid (t':=s.toks) (o:=.lst (ms.map V.int)) (λ_ _=>sortedAll_old) (Mu _) ⟨by rw[Ad,Gp]; omega,out.toList,e,p7 a1,by simpa using he⟩,rfl,q _ ms (I.hok.fresh (Mu _)) a2 a3⟩
end
end Nd
namespace NdS
open PySem
theorem oT{mask finger moves:Nat}{led plain:Bool}{hs:Array Int}{t:Cn}{order:Array Nat}(h:Jx mask finger moves led plain hs=some (t,order)):t.led=led/\t.mask=mask/\t.plain=plain/\t.dummies=#[]:=by
 unfold Jx at h
 cases hl:Qt mask hs with
 | none=>rw[hl] at h; cases h
 | some owner =>
  rw[hl] at h
  cases h
  exact ⟨rfl,rfl,rfl,rfl⟩
def st(m i:Nat):Nat:=(i * 5+1) % m
def it(m:Nat):Nat->Nat->Nat
 | 0,i=>i
 | t+1,i=>it m t (st m i)
theorem lC(m:Nat):∀(a b i:Nat),it m (a+b) i=it m b (it m a i)
 | 0,b,i=>by rw[Nt]; rfl
 | a+1,b,i=>by rw[Nat.add_right_comm]; exact lC m a b (st m i)
def IL(m:Nat):Nat->Nat->List Nat
 | 0,_=>[]
 | f+1,i=>i::IL m f (st m i)
theorem kS{m:Nat}:∀{f i e:Nat},e∈IL m f i->∃t,t<f/\it m t i=e
 | 0,_,_,h=>by cases h
 | f+1,i,e,h=>by
  rcases Ak.mp h with z | z
  ·exact ⟨0,cD _,z.symm⟩
  ·obtain ⟨t,h1,h2⟩:=kS z
   exact ⟨t+1,Nat.succ_lt_succ h1,h2⟩
def Pg(m:Nat):Prop:=0<m/\it m m 0=0/\∀e,e<m->e∈IL m m 0
theorem Ro{m:Nat}(h0:0<m)(h1:(it m m 0 == 0)=true)(h2:((Cc m).all λe=>(IL m m 0).contains e)=true):Pg m :=
 ⟨h0,by simpa using h1,λe he=>by
  have:=List.all_eq_true.mp h2 e (Fz.mpr he)
  simpa using this⟩
theorem X6:Pg 8:=Ro (by decide) (by decide +kernel) (by decide +kernel)
theorem BK:Pg 16:=Ro (by decide) (by decide +kernel) (by decide +kernel)
theorem CZ:Pg 32:=Ro (by decide) (by decide +kernel) (by decide +kernel)
theorem DW:Pg 64:=Ro (by decide) (by decide +kernel) (by decide +kernel)
theorem O4:Pg 128:=Ro (by decide) (by decide +kernel) (by decide +kernel)
theorem T6:Pg 256:=Ro (by decide) (by decide +kernel) (by decide +kernel)
theorem IG{m:Nat}(g:Pg m){i e:Nat}(hi:i<m)(he:e<m):∃t,t<m/\it m t i=e:=by
 obtain ⟨h0,h1,h2⟩:=g
 obtain ⟨a,ha,ea⟩:=kS (h2 i hi)
 obtain ⟨b,hb,eb⟩:=kS (h2 e he)
 by_cases hab:a<=b
 ·refine ⟨b - a,by omega,?_⟩
  rw[<- ea,<- lC,Nat.add_sub_cancel' hab]
  exact eb
 ·refine ⟨b+m - a,by omega,?_⟩
  rw[<- ea,<- lC,show a+(b+m - a)=m+b by omega,lC,h1]
  exact eb
def lp(m:Nat):Nat->Nat->Nat->Nat×Nat
 | 0,i,p=>(i,p)
 | t+1,i,p=>lp m t ((i * 5+1+p / 32) % m) (p / 32)
theorem j7(m:Nat):∀(a b i p:Nat),lp m (a+b) i p=lp m b (lp m a i p).1 (lp m a i p).2
 | 0,b,i,p=>by rw[Nt]; rfl
 | a+1,b,i,p=>by rw[Nat.add_right_comm]; exact j7 m a b _ _
theorem uE(m:Nat):∀(t i:Nat),lp m t i 0=(it m t i,0)
 | 0,_=>rfl
 | t+1,i=>uE m t (st m i)
theorem oA{m:Nat}:∀(n i p:Nat),p<32 ^ n->(lp m n i p).2=0
 | 0,i,p,h=>by show p=0; simpa using h
 | n+1,i,p,h=>oA n _ _ (by rw[Vv] at h; exact Nat.div_lt_of_lt_mul (by omega))
theorem Y9{m:Nat}(h0:0<m):∀(n i p:Nat),i<m->(lp m n i p).1<m
 | 0,i,p,h=>h
 | n+1,i,p,h=>Y9 h0 n _ _ (Vw _ h0)
theorem pY{m:Nat}(g:Pg m){i p e:Nat}(hi:i<m)(hp:p<2 ^ 64)(he:e<m):∃t,t<m+14/\(lp m t i p).1=e:=by
 have h13:=oA (m:=m) 13 i p (Cj hp (by decide))
 obtain ⟨t,ht,e1⟩:=IG g (Y9 g.1 13 i p hi) he
 refine ⟨13+t,by omega,?_⟩
 rw[j7,h13,uE]
 exact e1
theorem Zp(mask i:Nat):i<=Ik mask i:=by unfold Ik; split <;> omega
theorem iF{mask:Nat}{owner:Array (Option Nat)}:∀(fuel i p t:Nat),t<fuel->(owner.getD (lp (mask+1) t i p).1 (some 0)).isNone=true->∃j,Ld mask owner fuel i p=some j/\(owner.getD j (some 0)).isNone=true
 | 0,_,_,_,h,_=>absurd h (Kl _)
 | fuel+1,i,p,t,h,hn=>by
  unfold Ld
  split
  ·rename_i k hk
   exact ⟨i+k,rfl,by have:=List.find?_some hk; exact this⟩
  ·rename_i hk
   rw[List.find?_eq_none] at hk
   cases t with
   | zero =>
    have:=hk 0 (Fz.mpr (by have:=Zp mask i; omega))
    exact absurd hn (by simpa [lp] using this)
   | succ t =>
    exact iF fuel _ _ t (by omega) hn
theorem Wy{L:List (Option Nat)}:∀{j x:Nat},L[j]? = some none->((L.set j (some x)).filterMap id).Perm (x::L.filterMap id):=by
 induction L with
 | nil=>intro j x h; simp at h
 | cons a L ih =>
  intro j x h
  cases j with
  | zero =>
   simp at h
   subst h
   simp
  | succ j =>
   have h':L[j]? = some none:=by simpa using h
   have:=ih (x:=x) h'
   cases a with
   | none=>simpa using this
   | some b=>simpa using (Je b this).trans (Ek x b _)
theorem yZ{L:List (Option Nat)}:(L.filterMap id).length<L.length->∃j:Nat,L[j]? = some none:=by
 induction L with
 | nil=>intro h; simp at h
 | cons a L ih =>
  intro h
  cases a with
  | none=>exact ⟨0,rfl⟩
  | some b =>
   have : (L.filterMap id).length<L.length:=by simpa using h
   obtain ⟨j,hj⟩:=ih this
   exact ⟨j+1,by simpa using hj⟩
theorem vC(h:Int):Di h<2 ^ 64:=by
 unfold Di
 have h1:=Int.emod_nonneg h (show (2 ^ 64:Int)≠0 by decide)
 have h2:=Int.emod_lt_of_pos h (show (0:Int)<2 ^ 64 by decide)
 omega
def AY(mask:Nat)(acc:Option (Array (Option Nat)×Nat))(h:Int):Option (Array (Option Nat)×Nat):=do
 let (owner,k) <- acc
 let j <- Ld mask owner (Hw mask) (Di h % (mask+1)) (Di h)
 pure (owner.setIfInBounds j (some k),k+1)
theorem mQ{mask:Nat}(g:Pg (mask+1)):∀(hs:List Int) (owner:Array (Option Nat)) (n:Nat),owner.size=mask+1->(owner.toList.filterMap id).Perm (Cc n)->n+hs.length<=mask->∃owner':Array (Option Nat),hs.foldl (AY mask) (some (owner,n))=some (owner',n+hs.length)/\owner'.size=mask+1/\(owner'.toList.filterMap id).Perm (Cc (n+hs.length))
 | [],owner,n,h1,h2,_=>⟨owner,rfl,h1,h2⟩
 | h::hs,owner,n,h1,h2,h3=>by
  rw[Bl] at h3
  have len:(owner.toList.filterMap id).length=n:=by rw[h2.length_eq,Cq]
  obtain ⟨e,he⟩:=yZ (L:=owner.toList) (by rw[len,Am]; omega)
  have he':e<mask+1:=by
   have:=(Ax.mp he).1
   rw[Am] at this
   omega
  obtain ⟨t,ht,et⟩:=pY g (i:=Di h % (mask+1)) (p:=Di h) (e:=e) (Vw _ g.1) (vC h) he'
  have hn:(owner.getD (lp (mask+1) t (Di h % (mask+1)) (Di h)).1 (some 0)).isNone=true:=by
   rw[et,Cz,<- Ft,he]
   rfl
  obtain ⟨j,ej,hj⟩:=iF (mask:=mask) (owner:=owner) (Hw mask) _ _ t (by unfold Hw; omega) hn
  have hj':owner.toList[j]? = some none:=by
   rw[Cz,<- Ft] at hj
   cases q:owner.toList[j]? with
   | none=>rw[q] at hj; simp at hj
   | some v =>
    rw[q] at hj
    cases v with
    | none=>rfl
    | some v=>simp at hj
  have e1:AY mask (some (owner,n)) h=some (owner.setIfInBounds j (some n),n+1):=by
   show (do
    let j <- Ld mask owner (Hw mask) (Di h % (mask+1)) (Di h)
    pure (owner.setIfInBounds j (some n),n+1))=_
   rw[ej]
   rfl
  rw[List.foldl_cons,e1]
  have p1:((owner.setIfInBounds j (some n)).toList.filterMap id).Perm (Cc (n+1)):=by
   rw[jB]
   refine (Wy hj').trans ?_
   rw[List.range_succ]
   exact (Je n h2).trans (El (l₁:=[n]) (l₂:=Cc n))
  obtain ⟨o',q1,q2,q3⟩:=mQ g hs (owner.setIfInBounds j (some n)) (n+1) (by rw[Rv]; exact h1) p1 (by omega)
  refine ⟨o',?_,q2,?_⟩
  ·rw[q1,Bl]
   congr 2
   omega
  ·rw[Bl,show n+(hs.length+1)=n+1+hs.length by omega]
   exact q3
theorem pI{mask:Nat}(g:Pg (mask+1))(hs:Array Int)(hl:hs.size<=mask):∃owner:Array (Option Nat),Qt mask hs=some owner/\owner.size=mask+1/\(owner.toList.filterMap id).Perm (Cc hs.size):=by
 have h0:((Array.replicate (mask+1) (none:Option Nat)).toList.filterMap id).Perm (Cc 0):=by
  rw[Array.toList_replicate]
  simp
 obtain ⟨o,h1,h2,h3⟩:=mQ g hs.toList (Array.replicate (mask+1) none) 0 (by simp) h0 (by simpa using hl)
 rw[Am,Nt] at h1 h3
 refine ⟨o,?_,h2,h3⟩
 unfold Qt
 rw[<- Array.foldl_toList]
 show (hs.toList.foldl (AY mask) (some (Array.replicate (mask+1) none,0))).map (·.1)=some o
 rw[h1]
 rfl
theorem sO(owner:Array (Option Nat)):((Cc owner.size).filterMap λj=>(owner.getD j none).map λx=>(j,x)).map (·.2)=owner.toList.filterMap id:=by
 obtain ⟨L⟩:=owner
 simp only[Av]
 have h:∀(L:List (Option Nat)) (pre:List (Option Nat)),((List.range' pre.length L.length).filterMap λj=>(((pre++L)[j]?).getD none).map λx=>(j,x)).map (·.2)=L.filterMap id:=by
  intro L
  induction L with
  | nil=>intro pre; rfl
  | cons a L ih =>
   intro pre
   rw[Bl,List.range'_succ,Lv]
   have e:((pre++a::L)[pre.length]?).getD none=a:=by simp
   have ih':=ih (pre++[a])
   rw[Bn,Kt,Bw,List.singleton_append] at ih'
   cases a with
   | none =>
    simp only[e,Option.map_none,List.filterMap_cons_none,id]
    exact ih'
   | some b =>
    simp only[e,Option.map_some,Ap,List.filterMap_cons_some,id]
    rw[ih']
    simp
 have:=h L []
 rw[Kj,<- List.range_eq_range',List.nil_append] at this
 rw[<- this]
 congr 1
 congr 1
 funext j
 rw[Cz]
 simp
theorem V5{mask finger moves:Nat}{led plain:Bool}(g:Pg (mask+1))(hs:Array Int)(hl:hs.size<=mask):∃(t:Cn) (order:Array Nat),Jx mask finger moves led plain hs=some (t,order)/\order.toList.Perm (Cc hs.size)/\t.fits hs.size=true/\t.led=led:=by
 obtain ⟨o,h1,h2,h3⟩:=pI g hs hl
 have e:Jx mask finger moves led plain hs=some ({ mask:=mask,place:=(((Cc (mask+1)).filterMap λj=>(o.getD j none).map λx=>(j,x)).map (·.1)).toArray,dummies:=#[],finger:=finger,led:=led,moves:=moves,plain:=plain },
   (((Cc (mask+1)).filterMap λj=>(o.getD j none).map λx=>(j,x)).map (·.2)).toArray):=by
  unfold Jx
  rw[h1]
  rfl
 have lo:=sO o
 rw[h2] at lo
 have len:((Cc (mask+1)).filterMap λj=>(o.getD j none).map λx=>(j,x)).length=hs.size:=by
  have:=congrArg Ja lo
  rw[Ad,h3.length_eq,Cq] at this
  exact this
 refine ⟨_,_,e,by rw[List.toList_toArray,lo]; exact h3,?_,rfl⟩
 simp only[SetTable.fits,Qx,Av,Ad,len,Ed,beq_self_eq_true,true_and,decide_eq_true_eq]
 show hs.size+0<=mask
 omega
theorem tG{α:Type}(es:Array α){order:Array Nat}(p:order.toList.Perm (Cc es.size)):(order.filterMap (es[·]?)).toList.Perm es.toList/\(order.filterMap (es[·]?)).size=es.size:=by
 have e:(order.filterMap (es[·]?)).toList.Perm es.toList:=by
  rw[Array.toList_filterMap]
  have:=p.filterMap (es[·]?)
  rw[filterMap_getElem?_range] at this
  exact this
 exact ⟨e,by rw[<- Am,e.length_eq,Am]⟩
theorem Up{n:Nat}(h:n<256):∃m,Dv n=m+1/\Pg (m+1)/\n<=m:=by
 have key:∀k:Fin 256,(Dv k.1 == 8 && decide (k.1<8)) || (Dv k.1 == 16 && decide (k.1<16)) || (Dv k.1 == 32 && decide (k.1<32)) || (Dv k.1 == 64 && decide (k.1<64)) || (Dv k.1 == 128 && decide (k.1<128)) || (Dv k.1 == 256 && decide (k.1<256))=true:=by decide +kernel
 have q:=key ⟨n,h⟩
 simp only[Bool.or_eq_true,Ed,beq_iff_eq,decide_eq_true_eq] at q
 rcases q with ((((q | q) | q) | q) | q) | q
 ·exact ⟨7,q.1,X6,by omega⟩
 ·exact ⟨15,q.1,BK,by omega⟩
 ·exact ⟨31,q.1,CZ,by omega⟩
 ·exact ⟨63,q.1,DW,by omega⟩
 ·exact ⟨127,q.1,O4,by omega⟩
 ·exact ⟨255,q.1,T6,by omega⟩
abbrev kT(p:Array Nat):Prop:=p.toList.Pairwise (· < ·)
theorem Vm{p:Array Nat}(r:kT p){i j:Nat}(h:i<j)(hj:j<p.size):p[i]'(by omega)<p[j]:=by
 have:=Lp.mp r i j (by rw[Am]; omega) (by rw[Am]; exact hj) h
 simpa using this
structure Below(p:Array Nat)(j b:Nat):Prop where
 le:b<=p.size
 lo:∀i (h:i<p.size),i<b->p[i]<j
 hi:∀i (h:i<p.size),b<=i->j<=p[i]
theorem cH{p:Array Nat}{j:Nat}(r:kT p):∀(fuel lo hi:Nat),hi<=p.size->lo<=hi->hi - lo<=fuel->(∀i (h:i<p.size),i<lo->p[i]<j)->(∀i (h:i<p.size),hi<=i->j<=p[i])->Below p j (Uw p j fuel lo hi)
 | 0,lo,hi,h1,h2,h3,h4,h5=>by
  unfold Uw
  have e:lo=hi:=by omega
  exact ⟨by omega,λi h hl=>h4 i h hl,λi h hl=>h5 i h (by omega)⟩
 | fuel+1,lo,hi,h1,h2,h3,h4,h5=>by
  unfold Uw
  split
  ·rename_i hl
   have hm:(lo+hi) / 2<p.size:=by omega
   have e:p.getD ((lo+hi) / 2) j=p[(lo+hi) / 2]:=by simp [Array.getD,hm]
   dsimp only
   rw[e]
   split
   ·rename_i hc
    refine cH r fuel _ hi h1 (by omega) (by omega) (λi h hi'=>?_) h5
    by_cases z:i=(lo+hi) / 2
    ·subst z; exact hc
    ·exact Vx (Vm r (show i<(lo+hi) / 2 by omega) hm) hc
   ·rename_i hc
    refine cH r fuel lo _ (by omega) (by omega) (by omega) h4 (λi h hi'=>?_)
    by_cases z:i=(lo+hi) / 2
    ·subst z; omega
    ·exact Cb (by omega) (Jd (Vm r (show (lo+hi) / 2<i by omega) h))
  ·exact ⟨by omega,λi h hl=>h4 i h hl,λi h hl=>h5 i h (by omega)⟩
theorem Yg{p:Array Nat}(r:kT p)(j:Nat):Below p j (Cp p j) :=
 cH r _ _ _ (Aj _) (Dq _) (by omega) (λi h hl=>absurd hl (Kl _)) (λi h hl=>absurd hl (by omega))
theorem Below.eq{p:Array Nat}{j b b':Nat}(x:Below p j b)(y:Below p j b'):b=b':=by
 rcases Nat.lt_trichotomy b b' with z | z | z
 ·have h:b<p.size:=Cj z y.le
  exact absurd (y.lo b h z) (Nat.not_lt.mpr (x.hi b h (Aj _)))
 ·exact z
 ·have h:b'<p.size:=Cj z x.le
  exact absurd (x.lo b' h z) (Nat.not_lt.mpr (y.hi b' h (Aj _)))
theorem pL{p:Array Nat}(r:kT p):Cp p 0=0 :=
 (Yg r 0).eq ⟨Dq _,λi h hl=>absurd hl (Kl _),λi h _=>Dq _⟩
theorem rZ{p:Array Nat}(r:kT p){i:Nat}(h:i<p.size):Cp p (p[i]+1)=i+1 :=
 (Yg r _).eq ⟨h,λk hk hl=>by
  by_cases z:k=i
  ·subst z; exact fL _
  ·exact Hq (Vm r (show k<i by omega) h),λk hk hl=>Vm r (show i<k by omega) hk⟩
structure TabOk(n:Nat)(t:Cn):Prop where
 good:Pg (t.mask+1)
 dum:t.dummies=#[]
 plain:t.plain=true
 rise:kT t.place
 top:∀j∈t.place.toList,j<=t.mask
 size:t.place.size=n
structure Tab(n:Nat)(t:Cn):Prop extends TabOk n t where
 room:n * 5<t.mask * 3
theorem jW{t:Cn}{n:Nat}(x:Tab n t):n+1<=t.mask:=by have:=x.room; omega
theorem TabOk.fits{t:Cn}{n:Nat}(x:TabOk n t)(h:n<=t.mask):t.fits n=true:=by
 simp only[SetTable.fits,Qx,x.dum,x.size,Ed,beq_self_eq_true,true_and,decide_eq_true_eq]
 show n+0<=t.mask
 omega
theorem Tab.fits{t:Cn}{n:Nat}(x:Tab n t):t.fits n=true:=x.toTabOk.fits (by have:=jW x; omega)
theorem Wr{t:Cn}{n j:Nat}(x:TabOk n t):t.slot j=.empty↔j∉t.place.toList:=by
 w_pre x5
 dsimp only
 rw[nd]
 w_pre a8
 ·intro h hm
  obtain ⟨i,hi,e⟩:=Gh.mp hm
  rw[Am] at hi
  have e':t.place[i]=j:=by simpa using e
  have b:Cp t.place j=i:=(Yg x.rise j).eq ⟨Jd hi,λk hk hl=>by rw[<- e']; exact Vm x.rise hl hi,λk hk hl=>by
   by_cases z:i=k
   ·subst z; exact Nat.le_of_eq e'.symm
   ·rw[<- e']; exact Jd (Vm x.rise (show i<k by omega) hk)⟩
  rw[b,Iq hi,e',if_pos (by simp)] at h
  cases h
 ·intro h
  rw[if_neg (λz=>h ?_)]
  ·rfl
  ·have z':t.place[Cp t.place j]? = some j:=by simpa using z
   have:=Array.mem_of_getElem? z'
   exact Array.mem_def.mp this
theorem cO{t:Cn}{n j:Nat}(x:TabOk n t):t.slot j≠.dummy:=by
 w_pre x5
 dsimp only
 rw[nd]
 split
 ·intro h; cases h
 ·intro h; cases h
theorem gZ{mask i:Nat}(h:i<=mask):Ik mask i<=mask:=by unfold Ik; split <;> omega
theorem Vd(mask i:Nat):Ik mask i - i<=9:=by unfold Ik; split <;> omega
theorem P9(mask i p:Nat):SetTable.leap mask i p=((i * 5+1+p / 32) % (mask+1),p / 32):=rfl
theorem dG{t:Cn}{n:Nat}{h:Int}(x:TabOk n t):∀(fuel u:Nat) (p:SetTable.Probe),p.more<=9->p.j+p.more<=t.mask->p.dummy=none->p.more+2+10 * u<=fuel->t.slot (lp (t.mask+1) (u+1) p.i p.perturb).1=.empty->∃j,Ot t (λ_=>h+1) h fuel p=some (.empty j none)/\t.slot j=.empty/\j<=t.mask
 | 0,u,p,_,_,_,h3,_=>absurd h3 (by omega)
 | fuel+1,u,p,h1,h2,hd,h3,h4=>by
  unfold Ot
  split
  ·rename_i hs
   exact ⟨p.j,by rw[hd],hs,by omega⟩
  ·rename_i hs
   exact absurd hs (cO x)
  ·rw[if_neg (by simp; omega)]
   unfold SetTable.advance
   split
   ·rename_i hm
    exact dG x fuel u _ (by dsimp only; omega) (by dsimp only; omega) hd (by dsimp only; omega) h4
   ·rename_i hm
    rw[P9]
    dsimp only
    have hi:(p.i * 5+1+p.perturb / 32) % (t.mask+1)<=t.mask:=iY.mp (Vw _ (cD _))
    cases u with
    | zero =>
     cases fuel with
     | zero=>omega
     | succ fuel =>
      unfold Ot
      dsimp only
      have h4':t.slot ((p.i * 5+1+p.perturb / 32) % (t.mask+1))=.empty:=h4
      rw[h4']
      exact ⟨_,by rw[hd],h4',hi⟩
    | succ u =>
     refine dG x fuel u _ (Vd _ _) ?_ hd ?_ h4
     ·dsimp only
      have:=gZ hi
      have:=Zp t.mask ((p.i * 5+1+p.perturb / 32) % (t.mask+1))
      omega
     ·dsimp only
      have:=Vd t.mask ((p.i * 5+1+p.perturb / 32) % (t.mask+1))
      omega
theorem E2:∀{l1 l2:List Nat},l1.Nodup->(∀e∈l1,e∈l2)->l1.length<=l2.length
 | [],_,_,_=>Dq _
 | a::l1,l2,nd,h=>by
  have nd':=Cm.mp nd
  have ha:=h a (Ab ..)
  have:=E2 (l2:=l2.erase a) nd'.2 λe he=>(List.mem_erase_of_ne (show e≠a from λz=>nd'.1 (by rw[<- z]; exact he))).mpr (h e (Ac _ he))
  rw[qL ha] at this
  have p:0<l2.length:=tL ha
  rw[Bl]
  omega
theorem M8{m:Nat}{l:List Nat}(nd:l.Pairwise (· < ·))(h:l.length<m):∃e,e<m/\e∉l:=by
 refine Qb λz=>?_
 have all:∀e,e∈Cc m->e∈l:=λe he=>Qb λq=>z ⟨e,Fz.mp he,q⟩
 have:=E2 List.nodup_range all
 rw[Cq] at this
 omega
theorem pJ{t:Cn}{n:Nat}(x:Tab n t)(h:Int):∃j,t.freeSlot h=some (j,false)/\j∉t.place.toList/\j<=t.mask:=by
 have hm:=jW x
 obtain ⟨e,he,hn⟩:=M8 (m:=t.mask+1) x.rise (by rw[Am,x.size]; omega)
 obtain ⟨u,hu,eu⟩:=pY x.good (i:=Di h % (t.mask+1)) (p:=Di h) (e:=e) (Vw _ (cD _)) (vC h) he
 have hi:Di h % (t.mask+1)<=t.mask:=iY.mp (Vw _ (cD _))
 have key:∃j,t.probe (λ_=>h+1) h (t.probeStart h)=some (.empty j none)/\t.slot j=.empty/\j<=t.mask:=by
  unfold SetTable.probe
  cases u with
  | zero =>
   have e0:t.slot (Di h % (t.mask+1))=.empty:=(Wr x.toTabOk).mpr (by rw[show Di h % (t.mask+1)=e from eu]; exact hn)
   obtain ⟨f,hf⟩ : ∃f,10 * Hw t.mask=f+1:=⟨10 * Hw t.mask - 1,by unfold Hw; omega⟩
   rw[hf]
   unfold Ot
   have e0':t.slot (t.probeStart h).j=.empty:=e0
   rw[e0']
   exact ⟨_,rfl,e0',hi⟩
  | succ u =>
   refine dG x.toTabOk _ u (t.probeStart h) (Vd _ _) ?_ rfl ?_ ?_
   ·have:=gZ hi
    have:=Zp t.mask (Di h % (t.mask+1))
    show Di h % (t.mask+1)+(Ik t.mask (Di h % (t.mask+1)) - Di h % (t.mask+1))<=t.mask
    omega
   ·have:=Vd t.mask (Di h % (t.mask+1))
    show Ik t.mask (Di h % (t.mask+1)) - Di h % (t.mask+1)+2+10 * u<=10 * Hw t.mask
    unfold Hw
    omega
   ·exact (Wr x.toTabOk).mpr (by rw[show (lp (t.mask+1) (u+1) (t.probeStart h).i (t.probeStart h).perturb).1=e from eu]; exact hn)
 obtain ⟨j,h1,h2,h3⟩:=key
 refine ⟨j,?_,(Wr x.toTabOk).mp h2,h3⟩
 unfold SetTable.freeSlot
 rw[h1]
 rfl
theorem mO{p:Array Nat}(r:kT p){j:Nat}(h:j∉p.toList):kT (He p (Cp p j) j):=by
  have b:=Yg r j
  show (He p (Cp p j) j).toList.Pairwise (· < ·)
  rw[SetTable.toList_insertAt]
  have r1:(p.toList.take (Cp p j)).Pairwise (· < ·):=r.sublist (Hm _ _)
  have r2:(p.toList.drop (Cp p j)).Pairwise (· < ·):=r.sublist (Jc _ _)
  have lo:∀e∈p.toList.take (Cp p j),e<j:=λe he=>by
    obtain ⟨i,hi,ei⟩:=List.mem_take_iff_getElem.mp he
    rw[Am] at hi
    have:=b.lo i (by omega) (by omega)
    rw[<- ei]
    simpa using this
  have hi:∀e∈p.toList.drop (Cp p j),j<e:=λe he=>by
    have hm:e∈p.toList:=List.mem_of_mem_drop he
    obtain ⟨i,hi,ei⟩:=List.mem_drop_iff_getElem.mp he
    rw[Am] at hi
    have:=b.hi (i+Cp p j) (by omega) (by omega)
    have e1:j<=e:=by
      rw[<- ei]
      simpa [Nat.add_comm] using this
    exact Nat.lt_of_le_of_ne e1 λz=>h (by rw[z]; exact hm)
  simp only[List.pairwise_append,List.pairwise_cons,Ak,Bc]
  first
    | exact ⟨r1,⟨hi,r2⟩,λa ha c hc=>by
        rcases hc with z | z
        · rw[z]; exact lo a ha
        · exact Vx (lo a ha) (hi c z)⟩
    | (refine ⟨⟨r1,⟨by simp,Ej⟩,λa ha c hc=>?_⟩,r2,λa ha c hc=>?_⟩
       · have z:c=j:=by simpa using hc
         rw[z]; exact lo a ha
       · rcases ha with z | z | z
         · exact Vx (lo a z) (hi c hc)
         · rw[z]; exact hi c hc
         · cases z)
theorem BY{t:Cn}{es:Array (Int×Value)}(x:Tab es.size t)(h:Int)(v:Value):∃(es1:Array (Int×Value)) (t1:Cn),layNew t es h v=(es1,t1,false,false)/\es1.toList.Perm (es.toList++[(h,v)])/\es1.size=es.size+1/\TabOk es1.size t1/\t1.mask=t.mask/\t1.led=t.led:=by
 obtain ⟨j,h1,h2,h3⟩:=pJ x h
 have hm:=jW x
 have perm:=lZ es (Cp t.place j) (h,v)
 rw[Iz] at perm
 have size:(He es (Cp t.place j) (h,v)).size=es.size+1:=by
  rw[<- Am,perm.length_eq,Bn,Am]
  rfl
 have p2:=lZ t.place (Cp t.place j) j
 rw[Iz] at p2
 have size2:(He t.place (Cp t.place j) j).size=es.size+1:=by
  rw[<- Am,p2.length_eq,Bn,Am,x.size]
  rfl
 have nd:SetTable.has t.dummies j=false:=by rw[x.dum]; rfl
 have ok:TabOk (es.size+1) { t with place:=He t.place (Cp t.place j) j } :=
  ⟨x.good,x.dum,x.plain,mO x.rise h2,λe he=>by
   rcases Bc.mp (p2.mem_iff.mp he) with z | z
   ·exact x.top e z
   ·rw[Al.mp z]; exact h3,size2⟩
 refine ⟨_,{ t with place:=He t.place (Cp t.place j) j },?_,perm,size,by rw[size]; exact ok,rfl,rfl⟩
 have f:({ t with place:=He t.place (Cp t.place j) j }:Cn).fits (He es (Cp t.place j) (h,v)).size=true:=by
  rw[size]
  exact ok.fits (by omega)
 unfold layNew
 rw[h1]
 simp only[SetTable.put,nd,Bz,if_false,SetTable.orStandIn,f,if_true,Sx]
theorem yP{mask finger moves:Nat}{led plain:Bool}{hs:Array Int}{t:Cn}{order:Array Nat}(h:Jx mask finger moves led plain hs=some (t,order)):kT t.place/\(∀j∈t.place.toList,j<=mask):=by
 unfold Jx at h
 cases hl:Qt mask hs with
 | none=>rw[hl] at h; cases h
 | some owner =>
  rw[hl] at h
  cases h
  have sub:∀(l:List Nat),l.Pairwise (· < ·)->(((l.filterMap λj=>(owner.getD j none).map λx=>(j,x)).map (·.1)).Pairwise (· < ·))/\∀j∈((l.filterMap λj=>(owner.getD j none).map λx=>(j,x)).map (·.1)),j∈l:=by
   intro l hl
   have m:∀j∈((l.filterMap λj=>(owner.getD j none).map λx=>(j,x)).map (·.1)),j∈l:=λj hj=>by
    w_pre b7
    cases hg:owner.getD k none with
    | none=>rw[hg] at ek; cases ek
    | some v=>rw[hg] at ek; cases ek; exact hk
   refine ⟨?_,m⟩
   clear m
   induction l with
   | nil=>exact Ej
   | cons a l ih =>
    have hl':=Bd.mp hl
    have ih':=ih hl'.2
    rw[Lv]
    cases hg:owner.getD a none with
    | none=>simpa [hg] using ih'
    | some v =>
     simp only[Option.map_some,Ap,List.pairwise_cons]
     refine ⟨λj hj=>?_,ih'⟩
     w_pre b7
     cases hg2:owner.getD k none with
     | none=>rw[hg2] at ek; cases ek
     | some v2=>rw[hg2] at ek; cases ek; exact hl'.1 k hk
  obtain ⟨s1,s2⟩:=sub (Cc (mask+1)) List.pairwise_lt_range
  exact ⟨s1,λj hj=>iY.mp (Fz.mp (s2 j hj))⟩
theorem pW{mask finger moves:Nat}{led:Bool}(g:Pg (mask+1))(hs:Array Int)(hl:hs.size * 5<mask * 3):∃(t:Cn) (order:Array Nat),Jx mask finger moves led true hs=some (t,order)/\order.toList.Perm (Cc hs.size)/\Tab hs.size t/\t.led=led:=by
 obtain ⟨t,order,h1,h2,h3,h4⟩:=V5 (finger:=finger) (moves:=moves) (led:=led) (plain:=true) g hs (by omega)
 obtain ⟨l1,l2,l3,l4⟩:=oT h1
 obtain ⟨r1,r2⟩:=yP h1
 have sz:t.place.size=hs.size:=by
  have:=h3
  simp only[SetTable.fits,Ed,beq_iff_eq] at this
  exact this.1
 exact ⟨t,order,h1,h2,⟨⟨by rw[l2]; exact g,l4,l3,r1,by rw[l2]; exact r2,sz⟩,by rw[l2]; exact hl⟩,l1⟩
theorem nY{t:Cn}{es:Array (Int×Value)}{wanted:Nat}(hp:t.plain=true)(hw:wanted<256)(h2:es.size * 2<=wanted):∃(t':Cn) (order:Array Nat),t.relaid (es.map (·.1)) wanted=some (t',order)/\order.toList.Perm (Cc es.size)/\Tab es.size t'/\t'.led=t.led:=by
 obtain ⟨m,e1,g,hm⟩:=Up hw
 have sz:(es.map (·.1)).size=es.size:=Wm ..
 have m7:7<=m:=by
  w_pre j1
 obtain ⟨t',order,q1,q2,q3,q4⟩:=pW (mask:=m) (finger:=t.finger) (moves:=t.movedTo m) (led:=t.led) g (es.map (·.1)) (by rw[sz]; omega)
 rw[sz] at q2 q3
 refine ⟨t',order,?_,q2,q3,q4⟩
 unfold SetTable.relaid
 rw[e1,Nat.add_sub_cancel,hp]
 exact q1
theorem nU{t:Cn}{es:Array (Int×Value)}(hp:t.plain=true)(hn:es.size<64):∃(es':Array (Int×Value)) (t':Cn),relayAll t es (SetTable.grown es.size)=(es',t',false)/\es'.toList.Perm es.toList/\es'.size=es.size/\Tab es'.size t'/\t'.led=t.led:=by
 have gr:SetTable.grown es.size=es.size * 4:=by unfold SetTable.grown; rw[if_neg (by omega)]
 obtain ⟨t',order,q1,q2,q3,q4⟩:=nY (t:=t) (es:=es) (wanted:=es.size * 4) hp (by omega) (by omega)
 obtain ⟨p1,p2⟩:=tG es q2
 refine ⟨order.filterMap (es[·]?),t',?_,p1,p2,by rw[p2]; exact q3,q4⟩
 unfold relayAll
 rw[gr,q1]
 dsimp only
 have c:coversAll order es.size=true:=by
  unfold coversAll
  exact List.isPerm_iff.mpr q2
 have f:t'.fits (order.filterMap (es[·]?)).size=true:=by rw[p2]; exact q3.fits
 rw[c,f]
 rfl
abbrev bt(w:World):Bool:=w.params.followText "set-order"
def Nx:Int×Value->Int
 | (_,.int k _)=>k
 | _=>0
def Yx(e:Int×Value):Prop:=∃k tk,e=(hashInt k,Oc k tk)
abbrev keys(es:Array (Int×Value)):List Int:=es.toList.map Nx
abbrev Lg(es:Array (Int×Value))(ep:Nat)(t:Cn):Obj:={ cls:=.type "set",dict:=none,data:=.set es ep t }
structure SetS(w:World)(h:Heap)(a:Addr)(es:Array (Int×Value))(ep:Nat)(t:Cn):Prop where
 obj:h.get? a=some (Lg es ep t)
 ent:∀e∈es.toList,Yx e
 nd:(keys es).Nodup
 tab:Tab es.size t
 led:bt w=false->t.led=true
 few:es.size<64
theorem SetS.keep{w:World}{h h':Heap}{a:Addr}{es:Array (Int×Value)}{ep:Nat}{t:Cn}(S:SetS w h a es ep t)(k:∀o,h.get? a=some o->h'.get? a=some o):SetS w h' a es ep t :=
 ⟨k _ S.obj,S.ent,S.nd,S.tab,S.led,S.few⟩
def ins(k:Int)(l:List Int):List Int:=if k∈l then l else k::l
theorem Y2{prog:Bk}{w:World}{h:Heap}{a:Addr}{es:Array (Int×Value)}{ep:Nat}{t:Cn}(S:SetS w h a es ep t):ElemsOf (Xi prog w) es.toList:=λe he=>by
 obtain ⟨k,tk,rfl⟩:=S.ent e he
 exact ⟨⟨k,intKind_is _ _ _ _,rfl⟩,rfl⟩
theorem G5{prog:Bk}{w:World}{e:Int×Value}(h:Yx e)(k:Int):(Xi prog w).is k e.2=true↔Nx e=k:=by
 obtain ⟨k',tk,rfl⟩:=h
 show Value.isInt k (.int k' tk)=true↔k'=k
 simp [Value.isInt]
 try exact eq_comm
theorem small{n:Nat}(h:n<64):n<=Ay:=by rw[Gp]; omega
theorem tU{es:Array (Int×Value)}{ep:Nat}{t:Cn}(es':Array (Int×Value))(t':Cn):Obj.putSet es' t' (Lg es ep t)=Lg es' (ep+1) t':=putSet_of es' t' rfl
theorem cC{h:Heap}{a:Addr}{es:Array (Int×Value)}{ep:Nat}{t:Cn}(ho:h.get? a=some (Lg es ep t))(es':Array (Int×Value))(t':Cn):(h.update a (Obj.putSet es' t')).get? a=some (Lg es' (ep+1) t'):=by
 have:=Fe (Obj.putSet es' t') ho (by rw[tU]; rfl)
 rw[tU] at this
 exact this
section
variable{prog:Bk}{w:World}{A:Ci}{E:Value->Ai->Prop}{s:Ai}
theorem Hj{a:Addr}{es:Array (Int×Value)}{ep:Nat}{t:Cn}{Q:(Array (Int×Value)×Nat×Cn)->Ai->Prop}(S:SetS w s.heap a es ep t)(h:Q (es,ep,t) s):wpAny (model prog w) A (setState a) Q E s :=
 wpAny_setState_of S.obj rfl S.tab.fits h
theorem aA{a:Addr}{es es':Array (Int×Value)}{ep:Nat}{t t':Cn}{Q:Unit->Ai->Prop}(S:SetS w s.heap a es ep t)(he:∀e∈es'.toList,Yx e)(nd:(keys es').Nodup)(tab:Tab es'.size t')(led:bt w=false->t'.led=true)(few:es'.size<64)(h:∀h',Cv a s.heap h'->SetS w h' a es' (ep+1) t'->Q () { s with heap:=h' }):wpAny (model prog w) A (storeSet a es' t') Q E s :=
 Ut S.obj rfl (h _ (Bp ..) ⟨cC S.obj es' t',he,nd,tab,led,few⟩) (small few)
theorem hZ{es:Array (Int×Value)}{k:Int}(he:∀e∈es.toList,Yx e):es.toList.findIdx? (λe=>(Xi prog w).is k e.2)=none↔k∉keys es:=by
 rw[List.findIdx?_eq_none_iff]
 w_pre a8
 ·intro h hm
  obtain ⟨e,hm',rfl⟩:=Dc.mp hm
  have:=h e hm'
  rw[(G5 (he e hm') _).mpr rfl] at this
  cases this
 ·intro h e hm
  cases q:(Xi prog w).is k e.2 with
  | false=>rfl
  | true=>exact absurd (Dc.mpr ⟨e,hm,(G5 (he e hm) k).mp q⟩) h
theorem i4{a:Addr}{es:Array (Int×Value)}{ep:Nat}{t:Cn}{k:Int}{tk:Tok}{Q:Bool->Ai->Prop}(S:SetS w s.heap a es ep t)(hn:es.size<63)(h:∀b es' ep' t' h',Cv a s.heap h'->SetS w h' a es' ep' t'->(keys es').Perm (ins k (keys es))->Q b { s with heap:=h' }):wpAny (model prog w) A (setAddHashed a (.int k tk) (hashInt k)) Q E s:=by
 unfold setAddHashed setAddHashedIn
 refine Ct (Aa (Hj S ?_))
 dsimp only
 rw[byScan_of (knd:=Xi prog w) (x:=.int k tk) rfl (Vx S.few (by decide)) (Y2 S),if_pos rfl]
 unfold setAddByScan
 refine Aa (Aa (Jt (Aa ?_)))
 refine wpAny_setScan_of (knd:=Xi prog w) (k:=k) (intKind_is _ _ _ _) S.obj rfl S.tab.fits (Y2 S) ?_
 cases hr:es.toList.findIdx? (λe=>(Xi prog w).is k e.2) with
 | some j =>
  dsimp only
  have hk:k∈keys es:=Qb λz=>by
   rw[(hZ (prog:=prog) (w:=w) S.ent).mpr z] at hr
   cases hr
  refine Ae (Ae ?_)
  have:=h false es ep t s.heap (Pe a s.heap) S (by unfold ins; rw[if_pos hk])
  exact this
 | none =>
  dsimp only
  have hk:k∉keys es:=(hZ (prog:=prog) (w:=w) S.ent).mp hr
  obtain ⟨es1,t1,e1,p1,z1,ok1,m1,l1⟩:=BY S.tab (hashInt k) (.int k tk)
  rw[e1]
  dsimp only
  have ent1:∀e∈es1.toList,Yx e:=λe he=>by
   rcases Bc.mp (p1.mem_iff.mp he) with z | z
   ·exact S.ent e z
   ·rw[Al.mp z]; exact ⟨k,tk,rfl⟩
  have pk1:(keys es1).Perm (k::keys es):=by
   have:=p1.map Nx
   rw[Bo] at this
   exact this.trans El
  have nd1:(keys es1).Nodup:=pk1.nodup_iff.mpr (Cm.mpr ⟨hk,S.nd⟩)
  have few1:es1.size<64:=by omega
  have led1:bt w=false->t1.led=true:=λz=>by rw[l1]; exact S.led z
  refine Aa (m:=(pure ():Sem Unit)) (Ae ?_)
  rw[ok1.plain,if_pos rfl]
  refine Aa (m:=hashByValue 8 (.int k tk)) (Ae ?_)
  simp only[if_true]
  by_cases tf:t1.tooFull=true
  ·obtain ⟨es2,t2,e2,p2,z2,tab2,l2⟩:=nU (es:=es1) ok1.plain few1
   have ent2:∀e∈es2.toList,Yx e:=λe he=>ent1 e (p2.mem_iff.mp he)
   have pk2:(keys es2).Perm (k::keys es):=(p2.map Nx).trans pk1
   refine Aa (Ut S.obj rfl ?_ (small few1))
   rw[tf,if_pos (by decide),e2]
   dsimp only
   refine Aa (m:=(pure ():Sem Unit)) (Ae ?_)
   have o1:=cC S.obj es1 t1
   refine Aa (Ut o1 rfl (Ae ?_) (small (by omega)))
   dsimp only
   refine Ae (h true es2 (ep+1+1) t2 _ ((Bp s.heap a _).trans (Bp _ a _)) ⟨cC o1 es2 t2,ent2,pk2.nodup_iff.mpr (Cm.mpr ⟨hk,S.nd⟩),tab2,λz=>by rw[l2,l1]; exact S.led z,by omega⟩ ?_)
   unfold ins
   rw[if_neg hk]
   exact pk2
  ·have room:es1.size * 5<t1.mask * 3:=by
    have : ¬ (t1.fill * 5 ≥ t1.mask * 3):=λz=>tf (by unfold SetTable.tooFull; exact decide_eq_true z)
    have e:t1.fill=es1.size:=by
     unfold Qx
     rw[ok1.dum,ok1.size]
     rfl
    omega
   refine Aa (Ut S.obj rfl ?_ (small few1))
   rw[Bool.not_eq_true] at tf
   rw[tf]
   simp only[Xg,Bz,if_false]
   refine Ae ?_
   dsimp only
   refine Ae (h true es1 (ep+1) t1 _ (Bp s.heap a _) ⟨cC S.obj es1 t1,ent1,nd1,⟨ok1,room⟩,led1,few1⟩ ?_)
   unfold ins
   rw[if_neg hk]
   exact pk1
end
theorem Ng{α:Type}:∀{l:List α} {i:Nat} (h:i<l.length),(l[i]::l.eraseIdx i).Perm l
 | [],_,h=>absurd h (Kl _)
 | a::l,0,h=>Gi _
 | a::l,i+1,h=>by
  have:=Ng (l:=l) (i:=i) (by simpa using h)
  exact (Ek a _ _).trans (Je a this)
theorem vU{α:Type}(next:Nat->Nat):∀(fuel k:Nat) (left:List α) (out:Array α),left.length=fuel->(pickOrder.go next fuel k left out).toList.Perm (out.toList++left)
 | 0,k,left,out,h=>by
  unfold pickOrder.go
  have : left=[]:=List.eq_nil_of_length_eq_zero h
  subst this
  simp
 | fuel+1,k,left,out,h=>by
  unfold pickOrder.go
  have hi:next k % left.length<left.length:=Vw _ (by omega)
  rw[Bt hi]
  dsimp only
  refine (vU next fuel (k+1) _ _ (by rw[List.length_eraseIdx,if_pos hi]; omega)).trans ?_
  rw[Iz,Bw]
  exact Jy _ (Ng hi)
theorem xE{α:Type}(next:Nat->Nat)(xs:Array α):(Wk next xs).toList.Perm xs.toList:=by
 unfold Wk
 simpa using vU next xs.size 0 xs.toList #[] (by simp)
section
variable{prog:Bk}{w:World}{A:Ci}{E:Value->Ai->Prop}{s:Ai}
theorem Rk{Q:Bool->Ai->Prop}(h:Q (bt w) s):wpAny (model prog w) A setsByText Q E s:=by
 unfold setsByText
 exact Aa (Wj (Ae h))
theorem uL{a:Addr}{es:Array (Int×Value)}{ep:Nat}{t:Cn}{Q:Array (Int×Value)->Ai->Prop}(S:SetS w s.heap a es ep t)(h:Q (if bt w then Wk (w.params.setOrder a ep) es else es) s):wpAny (model prog w) A (setWalk a) Q E s:=by
 unfold setWalk
 w_pre i9
 dsimp only
 refine Aa (Rk ?_)
 cases hb:bt w with
 | true =>
  rw[hb] at h
  rw[if_pos rfl] at h ⊢
  exact Aa (Wj (Ae h))
 | false =>
  have hl:=S.led hb
  have hp:=S.tab.plain
  rw[hb] at h
  w_pre r1
  exact Aa (m:=(pure ():Sem Unit)) (Ae (Ae h))
theorem iK{a:Addr}{es:Array (Int×Value)}{ep:Nat}:(if bt w then Wk (w.params.setOrder a ep) es else es).toList.Perm es.toList:=by
 cases bt w with
 | true=>exact xE _ _
 | false=>exact Gi _
theorem xR{a:Addr}{others:List Addr}{filled:Option Addr}{es:Array (Int×Value)}{ep:Nat}{t:Cn}{Q:Array (Int×Value)->Ai->Prop}(S:SetS w s.heap a es ep t)(h:Q (if bt w then Wk (w.params.setOrder a ep) es else es) s) :
  wpAny (model prog w) A (setWalkUnseen a others filled) Q E s:=by
 unfold setWalkUnseen
 w_pre i9
 dsimp only
 refine Aa (Rk ?_)
 have c:(bt w || (t.led && t.plain) || decide (es.size<=1))=true:=by
  cases hb:bt w with
  | true=>rfl
  | false=>rw[S.led hb,S.tab.plain]; rfl
 rw[if_pos c]
 exact uL S h
theorem yI{a:Addr}{es:Array (Int×Value)}{ep:Nat}{t:Cn}{wanted:Nat}{Q:Unit->Ai->Prop}(S:SetS w s.heap a es ep t)(hw:wanted<256)(h2:es.size * 2<=wanted)(h:∀es' t' h',Cv a s.heap h'->SetS w h' a es' (ep+1) t'->(keys es').Perm (keys es)->wanted<=t'.mask->7<=t'.mask->Q () { s with heap:=h' }):wpAny (model prog w) A (setRelay a wanted) Q E s:=by
 obtain ⟨t',order,q1,q2,q3,q4⟩:=nY (es:=es) S.tab.plain hw h2
 obtain ⟨p1,p2⟩:=tG es q2
 obtain ⟨m,e1,g,hm⟩:=Up hw
 have mk:t'.mask=m:=by
  unfold SetTable.relaid at q1
  rw[(oT q1).2.1,e1]
  rfl
 have m7:7<=t'.mask:=by
  w_pre j1
 have sz:Dv wanted<=256:=by
  have key:∀k:Fin 256,decide (Dv k.1<=256)=true:=by decide +kernel
  exact of_decide_eq_true (key ⟨wanted,hw⟩)
 unfold setRelay
 w_pre i9
 dsimp only
 rw[if_neg (by rw[Gp]; omega),q1]
 refine Aa ?_
 show wpAny (model prog w) A (do
  if (order.filterMap (es[·]?)).size != es.size then unsupported "internal:set-table-lost-an-element"
  pure (order.filterMap (es[·]?),t')) _ _ _
 rw[if_neg (by rw[p2]; simp)]
 refine Ae ?_
 dsimp only
 refine aA S (λe he=>S.ent e (p1.mem_iff.mp he)) ((p1.map Nx).nodup_iff.mpr S.nd) (by rw[p2]; exact q3) (λz=>by rw[q4]; exact S.led z) (by rw[p2]; exact S.few) λh' sb S'=>?_
 exact h _ _ h' sb S' (p1.map Nx) (by omega) m7
theorem wJ{es es':Array (Int×Value)}(p:(keys es').Perm (keys es)):es'.size=es.size:=by
 have:=p.length_eq
 rw[Ad,Ad,Am,Am] at this
 exact this
theorem U5{a:Addr}{es:Array (Int×Value)}{ep more:Nat}{t:Cn}{Q:Unit->Ai->Prop}(S:SetS w s.heap a es ep t)(hm:es.size+more<128)(h:∀es' ep' t' h',Cv a s.heap h'->SetS w h' a es' ep' t'->(keys es').Perm (keys es)->(es.size+more) * 5<t'.mask * 3->Q () { s with heap:=h' }):wpAny (model prog w) A (setRoomFor a more) Q E s:=by
 have fl:t.fill=es.size:=by
  unfold Qx
  rw[S.tab.dum,S.tab.size]
  rfl
 unfold setRoomFor
 w_pre i9
 dsimp only
 unfold SetTable.roomFor
 rw[fl,S.tab.size]
 by_cases c:(es.size+more) * 5 ≥ t.mask * 3
 ·rw[if_pos c]
  dsimp only
  refine yI S (by omega) (by omega) λes' t' h' sb S' p m1 m7=>h es' _ t' h' sb S' p ?_
  omega
 ·rw[if_neg c]
  dsimp only
  exact Ae (h es ep t s.heap (Pe _ _) S (Gi _) (by omega))
end
def Among(U:List Int)(l:List Int):Prop:=∀x∈l,x∈U
theorem len_leI:∀{l1 l2:List Int},l1.Nodup->(∀e∈l1,e∈l2)->l1.length<=l2.length
 | [],_,_,_=>Dq _
 | a::l1,l2,nd,h=>by
  have nd':=Cm.mp nd
  have ha:=h a (Ab ..)
  have:=len_leI (l2:=l2.erase a) nd'.2 λe he=>(List.mem_erase_of_ne (show e≠a from λz=>nd'.1 (by rw[<- z]; exact he))).mpr (h e (Ac _ he))
  rw[qL ha] at this
  have p:0<l2.length:=tL ha
  rw[Bl]
  omega
theorem Among.size{U:List Int}{es:Array (Int×Value)}(h:Among U (keys es))(nd:(keys es).Nodup):es.size<=U.length:=by
 have:=len_leI nd h
 rw[Ad,Am] at this
 exact this
theorem uO{x k:Int}{l:List Int}:x∈ins k l↔x=k\/x∈l:=by
 unfold ins
 split
 ·rename_i h
  w_pre a8
  ·exact .inr
  ·rintro (z | z)
   ·rw[z]; exact h
   ·exact z
 ·rw[Ak]
section
variable{prog:Bk}{w:World}{A:Ci}{E:Value->Ai->Prop}
theorem dR{U:List Int}(hU:U.length<=62){a o:Addr}(ao:a≠o){eo:Array (Int×Value)}{epo:Nat}{to:Cn}{each:Sem Unit}
  (hE:∀(s:Ai) (Q:Unit->Ai->Prop),SetS w s.heap o eo epo to->Q () s->wpAny (model prog w) A each Q E s) :
  ∀(l:List (Int×Value)) (s:Ai) (es:Array (Int×Value)) (ep:Nat) (t:Cn) (Q:Unit->Ai->Prop),(∀e∈l,Yx e)->Among U (l.map Nx)->Among U (keys es)->SetS w s.heap a es ep t->SetS w s.heap o eo epo to ->
   (∀es' ep' t' h',Cv a s.heap h'->SetS w h' a es' ep' t'->(∀x,x∈keys es'↔x∈keys es\/x∈l.map Nx)->Q () { s with heap:=h' }) ->
   wpAny (model prog w) A (forIn l PUnit.unit λ(x:Int×Value) _=>do
    let _ <- Qe [x.2] (setAddHashed a x.2 x.1)
    each
    if (<- setState o).2.1 != epo then unsupported "set.changed-during-merge"
    pure (Et PUnit.unit)) Q E s
 | [],s,es,ep,t,Q,_,_,_,S,_,h=>by
  rw[Qz]
  exact Ae (h es ep t s.heap (Pe _ _) S (by simp))
 | e::l,s,es,ep,t,Q,he,hl,hk,S,So,h=>by
  obtain ⟨k,tk,rfl⟩:=he e (Ab ..)
  rw[Pu]
  have n1:=hk.size S.nd
  refine Aa (Aa (Ct (i4 S (by omega) λb es1 ep1 t1 h1 sb1 S1 p1=>?_)))
  have So1:SetS w h1 o eo epo to:=So.keep λob q=>(sb1.2 o (Lu ao)).trans q
  refine Aa (hE { s with heap:=h1 } _ So1 ?_)
  refine Aa (Hj (s:={ s with heap:=h1 }) So1 ?_)
  dsimp only
  rw[if_neg (by simp)]
  refine Ae ?_
  have m1:∀x,x∈keys es1↔x=k\/x∈keys es:=λx=>by rw[p1.mem_iff,uO]
  have hk1:Among U (keys es1):=λx hx=>by
   rcases (m1 x).mp hx with z | z
   ·rw[z]; exact hl k (Ab ..)
   ·exact hk x z
  refine dR hU ao hE l { s with heap:=h1 } es1 ep1 t1 Q (λe hm=>he e (Ac _ hm)) (λx hx=>hl x (Ac _ hx)) hk1 S1 So1 λes2 ep2 t2 h2 sb2 S2 m2=>?_
  w_pre i10
  rw[m2,m1,Ap,Ak]
  show (x=k\/x∈keys es)\/x∈l.map Nx↔x∈keys es\/x=k\/x∈l.map Nx
  w_pre a8
  ·rintro ((z | z) | z)
   ·exact .inr (.inl z)
   w_pre p8
   ·exact .inr (.inr z)
  ·rintro (z | z | z)
   ·exact .inl (.inr z)
   ·exact .inl (.inl z)
   ·exact .inr z
end
section
variable{prog:Bk}{w:World}{A:Ci}{E:Value->Ai->Prop}{s:Ai}
theorem nB{U:List Int}(hU:U.length<=62){a o:Addr}(ao:a≠o){es eo:Array (Int×Value)}{ep epo:Nat}{t to:Cn}{each:Sem Unit}{Q:Unit->Ai->Prop}(hE:∀(s:Ai) (Q:Unit->Ai->Prop),SetS w s.heap o eo epo to->Q () s->wpAny (model prog w) A each Q E s)(S:SetS w s.heap a es ep t)(So:SetS w s.heap o eo epo to)(hk:Among U (keys es))(ho:Among U (keys eo))(h:∀es' ep' t' h',Cv a s.heap h'->SetS w h' a es' ep' t'->(∀x,x∈keys es'↔x∈keys es\/x∈keys eo)->Q () { s with heap:=h' }):wpAny (model prog w) A (setMerge a o each) Q E s:=by
 have n1:=hk.size S.nd
 have n2:=ho.size So.nd
 unfold setMerge
 rw[if_neg (by simpa using ao)]
 refine Aa (Hj So ?_)
 dsimp only
 by_cases em:eo.isEmpty=true
 ·rw[if_pos em]
  have : eo=#[]:=by simpa using em
  refine Ae (h es ep t s.heap (Pe _ _) S λx=>?_)
  rw[this]
  simp
 rw[if_neg em]
 refine Aa (U5 S (by omega) λes1 ep1 t1 h1 sb1 S1 p1 r1=>?_)
 have So1:SetS w h1 o eo epo to:=So.keep λob q=>(sb1.2 o (Lu ao)).trans q
 refine Aa (Hj (s:={ s with heap:=h1 }) S1 ?_)
 dsimp only
 have z1:=wJ p1
 have fl:t1.fill=es.size:=by
  unfold Qx
  rw[S1.tab.dum,S1.tab.size]
  exact z1
 have empty:t1.fill=0->∀x,x∉keys es:=λz x hx=>by
  have : es.size=0:=by omega
  have e:es=#[]:=Array.eq_empty_of_size_eq_zero this
  rw[e] at hx
  simp at hx
 cases hr:t1.road to with
 | slotForSlot =>
  w_pre j4
  ·rename_i hf
   have hf':t1.fill=0:=by simpa using hf
   split at hr
   ·rename_i hm
    simp only[Ed,beq_iff_eq] at hm
    refine aA S1 So1.ent So1.nd (t':={ to with finger:=t1.finger,led:=t1.led && to.led,moves:=t1.moves,plain:=t1.plain && to.plain }) ⟨⟨So1.tab.good,So1.tab.dum,by show (t1.plain && to.plain)=true; rw[S1.tab.plain,So1.tab.plain]; rfl,So1.tab.rise,So1.tab.top,So1.tab.size⟩,So1.tab.room⟩
     (λz=>by show (t1.led && to.led)=true; rw[S1.led z,So1.led z]; rfl) So1.few λh2 sb2 S2=>?_
    refine h eo _ _ h2 (sb1.trans sb2) S2 λx=>⟨.inr,λz=>z.elim (λq=>absurd q (empty hf' x)) id⟩
   ·cases hr
 | clean =>
  have hf':t1.fill=0:=by
   w_pre j4
   ·rename_i hf
    simpa using hf
  have sz:(eo.map (·.1)).size=eo.size:=Wm ..
  obtain ⟨t2,order,q1,q2,q3,q4⟩:=pW (mask:=t1.mask) (finger:=t1.finger) (moves:=t1.moves) (led:=t1.led && to.led) S1.tab.good (eo.map (·.1)) (by rw[sz]; omega)
  rw[sz] at q2 q3
  obtain ⟨pk,ps⟩:=tG eo q2
  dsimp only
  have pl:(t1.plain && to.plain)=true:=by rw[S1.tab.plain,So1.tab.plain]; rfl
  rw[pl,q1]
  refine Aa ?_
  show wpAny (model prog w) A (do
   if (order.filterMap (eo[·]?)).size != eo.size then unsupported "internal:set-table-lost-an-element"
   pure (order.filterMap (eo[·]?),t2)) _ _ _
  rw[if_neg (by rw[ps]; simp)]
  refine Ae ?_
  dsimp only
  refine aA S1 (λe he=>So1.ent e (pk.mem_iff.mp he)) ((pk.map Nx).nodup_iff.mpr So1.nd) (by rw[ps]; exact q3) (λz=>by rw[q4,S1.led z,So1.led z]; rfl) (by rw[ps]; exact So1.few) λh2 sb2 S2=>?_
  refine h _ _ _ h2 (sb1.trans sb2) S2 λx=>?_
  rw[(pk.map Nx).mem_iff]
  exact ⟨.inr,λz=>z.elim (λq=>absurd q (empty hf' x)) id⟩
 | oneByOne =>
  dsimp only
  refine Aa (xR (s:={ s with heap:=h1 }) So1 ?_)
  have wp:=iK (w:=w) (a:=o) (es:=eo) (ep:=epo)
  generalize (if bt w then Wk (w.params.setOrder o epo) eo else eo)=arr at wp
  rw[<- Zk]
  refine Aa (dR hU ao hE arr.toList { s with heap:=h1 } es1 ep1 t1 _ (λe he=>So1.ent e (wp.mem_iff.mp he)) (λx hx=>ho x ((wp.map Nx).mem_iff.mp hx)) (λx hx=>hk x (p1.mem_iff.mp hx)) S1 So1 λes2 ep2 t2 h2 sb2 S2 m2=>Ae ?_)
  w_pre i10
  rw[m2,p1.mem_iff,(wp.map Nx).mem_iff]
end
theorem lO:entryFor table "set.__or__" = some Builtin.«frozenset.__or__» :=
 bF (id' := "frozenset.__or__") (by kernel_rfl) (by first | rfl | decide +kernel) (by decide +kernel) (by kernel_rfl)
theorem Qo:isSubtype (.type "set") (.type "set")=pure true:=by rw[bE]; kernel_rfl
section
variable{prog:Bk}{w:World}{A:Ci}{E:Value->Ai->Prop}{s:Ai}
theorem SetS.ty{a:Addr}{es:Array (Int×Value)}{ep:Nat}{t:Cn}(S:SetS w s.heap a es ep t):s.TypeIs (.ref a) "set" := ⟨_,S.obj,rfl⟩
theorem gM{h:Heap}:SetS w (h.push (Lg #[] 0 (.fresh 0 0 (!bt w)))) h.objs.size #[] 0 (.fresh 0 0 (!bt w)) :=
 ⟨Au _ rfl,(λe he=>by simp at he),Ej,⟨⟨X6,rfl,rfl,Ej,(λj hj=>by simp [SetTable.fresh] at hj),rfl⟩,by show 0 * 5<7 * 3; decide⟩,(λz=>by show (!bt w)=true; rw[z]; rfl),by decide⟩
theorem xA{Q:Value->Ai->Prop}(h:Q (.ref s.heap.objs.size) { s with heap:=s.heap.push (Lg #[] 0 (.fresh 0 0 (!bt w))) }):wpAny (model prog w) A (newSet (.type "set")) Q E s:=by
 unfold newSet
 refine Aa (Rk ?_)
 dsimp only
 simp only[newObj]
 exact Aa (wpAny_alloc (Ae h))
theorem Zz{a:Addr}{Q:Bool->Ai->Prop}(T:s.TypeIs (.ref a) "set")(h:Q true s):wpAny (model prog w) A (Jr (.ref a)) Q E s:=by
 unfold Jr
 exact Aa (Ip T Qo (Ae h))
theorem P0{a:Addr}{Q:Value->Ai->Prop}(T:s.TypeIs (.ref a) "set")(h:Q (.type "set") s):wpAny (model prog w) A (Xl a) Q E s:=by
 unfold Xl
 exact Aa (Ip T Qo (Ae h))
theorem tW{h h' h2:Heap}{a:Addr}(k:∀b o,h.get? b=some o->h'.get? b=some o)(n:h.get? a=none)(sb:Cv a h' h2):∀b o,h.get? b=some o->h2.get? b=some o:=λb o e =>
 (sb.2 b (λz=>by rw[z,n] at e; cases e)).trans (k b o e)
theorem R1{U:List Int}(hU:U.length<=62){a:Addr}{es:Array (Int×Value)}{ep:Nat}{t:Cn}{Q:Value->Ai->Prop}(S:SetS w s.heap a es ep t)(hk:Among U (keys es))(h:∀es' ep' t' h',(∀b o,s.heap.get? b=some o->h'.get? b=some o)->SetS w h' s.heap.objs.size es' ep' t'->(∀x,x∈keys es'↔x∈keys es)->Q (.ref s.heap.objs.size) { s with heap:=h' }):wpAny (model prog w) A (Oe a) Q E s:=by
 have lt:=Ar S.obj
 have ne:s.heap.objs.size≠a:=Qu lt
 unfold Oe
 refine Aa (P0 S.ty (Aa (xA ?_)))
 refine Aa (m:=Er (.ref s.heap.objs.size)) (Ae ?_)
 refine Aa (nB (s:={ s with heap:=s.heap.push (Lg #[] 0 (.fresh 0 0 (!bt w))) }) hU ne (each:=pure ()) (λs' Q' _ q=>Ae q) gM (S.keep λo q=>Ag _ q) (λx hx=>by simp at hx) hk λes' ep' t' h' sb S' m=>Ae ?_)
 exact h es' ep' t' h' (tW (λb o e=>Ag _ e) (Xd (Aj _)) sb) S' λx=>by rw[m]; simp
theorem FS{U:List Int}(hU:U.length<=62){a b:Addr}(ab:a≠b){ea eb:Array (Int×Value)}{epa epb:Nat}{ta tb:Cn}{Q:Value->Ai->Prop}(Sa:SetS w s.heap a ea epa ta)(Sb:SetS w s.heap b eb epb tb)(ka:Among U (keys ea))(kb:Among U (keys eb))(h:∀es' ep' t' h',(∀c o,s.heap.get? c=some o->h'.get? c=some o)->SetS w h' s.heap.objs.size es' ep' t'->(∀x,x∈keys es'↔x∈keys ea\/x∈keys eb)->Q (.ref s.heap.objs.size) { s with heap:=h' }):wpAny (model prog w) A (Jp .BitOr (.ref a) (.ref b)) Q E s:=by
 refine wpAny_binaryOp_same (id := "set.__or__") Sa.ty Sb.ty PySem.F.fills_set_or PySem.F.slot_set_or (Dj PySem.F.slot_set_or Sa.ty lO ?_ (PySem.F.args_set_or_2 _ _))
 show wpAny (model prog w) _ (do
  let (self,other) <- Zd "__or__" ⟨[.ref a,.ref b],[]⟩
  let (l,r):=(self,other)
  if !(<- Jr l <&&> Jr r) then rule s!"frozenset.{"__or__"}.declined"; return <- ret .notImplemented
  ret (<- (do
   let result <- Oe (<- Er l)
   if r != .ref (<- Er l) then Qe [result] (Mf s!"frozenset.{"__or__"}" (<- Er result) r)
   return result))) _ _ _
 refine Aa (m:=Zd "__or__" ⟨[.ref a,.ref b],[]⟩) (Jo (a:=(Be a,Be b)) rfl ?_)
 dsimp only
 refine Aa (Aa (Zz Sa.ty ?_))
 refine Zz Sb.ty ?_
 simp only[Sx,Bz,if_false]
 refine Aa (Aa (m:=Er (.ref a)) (Ae (Aa (R1 hU Sa ka λe1 p1 t1 h1 k1 S1 m1=>?_))))
 have ne:s.heap.objs.size≠b:=Qu (Ar Sb.obj)
 have nr:s.heap.get? s.heap.objs.size=none:=Xd (Aj _)
 have Sb1:SetS w h1 b eb epb tb:=Sb.keep λo q=>k1 b o q
 refine Aa (m:=Er (.ref a)) (Ae ?_)
 rw[if_pos (show (Be b != Be a)=true by simpa using Lu ab)]
 refine Aa (m:=Er (.ref s.heap.objs.size)) (Ae (Aa (Ct ?_)))
 unfold Mf
 refine Aa (Zz (s:={ s with heap:=h1 }) (w:=w) Sb1.ty ?_)
 w_pre g8
 refine Aa (m:=Er (.ref b)) (Ae ?_)
 unfold Builtin.Frozenset.merge setEpoch
 refine Aa (Aa (Hj (s:={ s with heap:=h1 }) Sb1 (Ae ?_)))
 refine nB (s:={ s with heap:=h1 }) hU ne (λs' Q' So' q'=>?_) S1 Sb1 (λx hx=>ka x ((m1 x).mp hx)) kb λe2 p2 t2 h2 sb2 S2 m2=>?_
 ·unfold Builtin.Frozenset.unchanged setEpoch
  refine Aa (Aa (Hj So' (Ae ?_)))
  dsimp only
  rw[if_neg (by simp)]
  exact Ae q'
 ·refine Ae (Ae ⟨_,rfl,(λz=>nomatch z),h e2 p2 t2 h2 (tW k1 nr sb2) S2 λx=>by rw[m2,m1]⟩)
end
end NdS
namespace NdS
open PySem PyProof.Rows
section
variable{prog:Bk}{w:World}{A:Ci}{R:Result->Ai->Prop}
theorem eB{U:List Int}(hU:U.length<=62){a it l:Addr}(n1:a≠it)(n2:a≠l)(n3:l≠it){items:Array Value}{ns:List Int}(hI:Fp items.toList ns)(hN:Among U ns)(hh:A.in1.handled=none):∀(k i:Nat) (s:Ai) (es:Array (Int×Value)) (ep:Nat) (t:Cn),items.size - i=k->i<=items.size->s.heap.IsTupleIter it l i->s.heap.IsTuple l items->SetS w s.heap a es ep t->Among U (keys es)->(∀es' ep' t' h' tk,(∀b o,b≠a->b≠it->s.heap.get? b=some o->h'.get? b=some o)->SetS w h' a es' ep' t'->(∀x,x∈keys es'↔x∈keys es\/x∈ns.drop i)->R (.ok (.ret .none)) { s with heap:=h',toks:=tk })->Hb (model prog w) A (.builtin "set.update.loop" ⟨[.ref a,.ref it],[]⟩) R s:=by
 have len:ns.length=items.size:=by rw[<- hI.length,Am]
 intro k
 induction k with
 | zero =>
  intro i s es ep t hk hi hit hl S hu hR
  have e:i=items.size:=by omega
  w_pre m3
  refine Aa (L0 hh hit hl (by rw[e]; simp) λh' x=>?_)
  refine Ae (hR es ep t h' s.toks (λb o _ q e=>x b o q e) (S.keep λo q=>x a o n1 q) λx=>?_)
  rw[e,<- len,List.drop_length]
  simp
 | succ k ih =>
  intro i s es ep t hk hi hit hl S hu hR
  have lt:i<items.size:=by omega
  have lt':i<ns.length:=by omega
  obtain ⟨tk,ev⟩:=IntsAre.int_at hI i items[i] (by simp [lt])
  have eg:ns.getD i 0=ns[i]:=by simp [List.getD,lt']
  rw[eg] at ev
  w_pre m3
  refine Aa (K7 hit hl (x:=items[i]) (by simp [lt]) λh1 hit1 sb1=>?_)
  rw[ev]
  show wpAny _ A.in1 (Qe [Oc ns[i] tk] (setAdd a (.int ns[i] tk)) >>= _) _ _ _
  refine Aa (Ct ?_)
  unfold setAdd
  refine Ct (Aa ((Xi prog w).pyHash (k:=ns[i]) (intKind_is _ _ _ _) ?_))
  have S1:SetS w h1 a es ep t:=S.keep λo q=>(sb1.2 a n1).trans q
  have z:=hu.size S1.nd
  refine i4 (s:={ s with heap:=h1,toks:=s.toks+1 }) S1 (by omega) λb es2 ep2 t2 h2 sb2 S2 p2=>?_
  have m2:∀x,x∈keys es2↔x=ns[i]\/x∈keys es:=λx=>by rw[p2.mem_iff,uO]
  refine Ae ⟨Qd Ki _,?_⟩
  refine ih (i+1) { s with heap:=h2,toks:=s.toks+1 } es2 ep2 t2 (by omega) lt ?_ ?_ S2 (λx hx=>?_) λes3 ep3 t3 h3 tk3 k3 S3 m3=>?_
  ·obtain ⟨o,ho,r⟩:=hit1
   exact ⟨o,(sb2.2 it (Lu n1)).trans ho,r⟩
  ·obtain ⟨o,ho,r⟩:=hl
   exact ⟨o,(sb2.2 l (Lu n2)).trans ((sb1.2 l n3).trans ho),r⟩
  ·rcases (m2 x).mp hx with q | q
   ·rw[q]; exact hN _ (fE lt')
   ·exact hu x q
  ·refine hR es3 ep3 t3 h3 tk3 (λb o q1 q2 e=>k3 b o q1 q2 ((sb2.2 b q1).trans ((sb1.2 b q2).trans e))) S3 λx=>?_
   rw[m3,m2,mG lt',Ak]
   w_pre a8
   ·rintro ((q | q) | q)
    ·exact .inr (.inl q)
    ·exact .inl q
    ·exact .inr (.inr q)
   ·rintro (q | q | q)
    ·exact .inl (.inr q)
    ·exact .inl (.inl q)
    ·exact .inr q
end
section
variable{prog:Bk}{w:World}{A:Ci}{E:Value->Ai->Prop}{s:Ai}
theorem zT(v:Value){Q:Value->Ai->Prop}(h:Q (.ref s.heap.objs.size) { s with heap:=s.heap.push (Lg #[] 0 (.fresh 0 0 (!bt w))) }):Hb (model prog w) A (.call (.builtin "set.__new__") ⟨[.type "set",v],[]⟩) (wants Q E) s:=by
 have sub:=Qo
 obtain ⟨hp,g,d,tk,os⟩:=s
 refine Yz (show wpAny _ A.in1 (do checkBuiltinCall "set.__new__" ⟨[.type "set",v],[]⟩; again (.builtin "set.__new__" ⟨[.type "set",v],[]⟩)) _ _ _ from ?_)
 refine Aa (Jo (PySem.F.newCall_set_1 v) (Ae ⟨Qd PySem.F.plain_set_new _,Ia PySem.F.entry_set_new ?_⟩))
 rw[Ge PySem.F.plain_set_new _]
 unfold Builtin.«set.__new__» Builtin.Frozenset.newClass
 dsimp only
 wp_walk
 refine Wj (Ae ?_)
 dsimp only
 simp only[newObj]
 exact Aa (wpAny_alloc (Ae (Ae h)))
theorem Q3{U:List Int}(hU:U.length<=62){l:Addr}{items:Array Value}{ns:List Int}{Q:Value->Ai->Prop}(hh:A.handled=none)(hl:s.heap.IsTuple l items)(hI:Fp items.toList ns)(hN:Among U ns)(h:∀es ep t h' tk,(∀b o,s.heap.get? b=some o->h'.get? b=some o)->SetS w h' s.heap.objs.size es ep t->(∀x,x∈keys es↔x∈ns)->Q (.ref s.heap.objs.size) { s with heap:=h',toks:=tk }):wpAny (model prog w) A (call (.type "set") [.ref l]) Q E s:=by
 obtain ⟨c,tl,hmro⟩:=PySem.F.called_set.mro
 have hmade:=PySem.F.called_set.made
 have hsub:=PySem.F.called_set.sub
 have h1:=PySem.F.called_set.notType
 have h2:=PySem.F.called_set.canCreate
 have hct:=PySem.F.typeCall_set_1 (.ref l)
 refine wpAny_call (Yz (show wpAny _ _ (callAny (.type "set") _) _ _ _ from ?_))
 refine Ae ⟨Code.quiet_builtin _ (by decide +kernel),Ia PySem.F.entry_type_call ?_⟩
 rw[Around.under_plain (weight_type_call_type "set" [.ref l] []) rfl]
 w_pre y7
 refine Oq (zT (.ref l) (E:=E) (Q:=λv s1=>v=.ref s.heap.objs.size/\s1={ s with heap:=s.heap.push (Lg #[] 0 (.fresh 0 0 (!bt w))) }) ⟨rfl,rfl⟩) λr s1 hr=>?_
 rcases r with e | (_ | _ | _ | v)
 w_pre c2
 obtain ⟨rfl,rfl⟩:=hr
 have S0:=gM (w:=w) (h:=s.heap)
 have T0:Shared.TypeIs { s with heap:=s.heap.push (Lg #[] 0 (.fresh 0 0 (!bt w))) } (.ref s.heap.objs.size) "set" := ⟨_,S0.obj,rfl⟩
 have hli:=PySem.F.called_set.init.lookup
 have hbi:=PySem.F.called_set.init.bind (.ref s.heap.objs.size)
 w_pre y7
 refine Oq (codeAny_call_builtin (R:=wants (λr s2=>r=.none/\∃es ep t h' tk,s2={ s with heap:=h',toks:=tk }/\(∀b o,s.heap.get? b=some o->h'.get? b=some o)/\SetS w h' s.heap.objs.size es ep t/\∀x,x∈keys es↔x∈ns) E)
  PySem.F.called_set.init.plain PySem.F.entry_set_init (check_set_init_1 T0 ?_)) λr s2 hr=>?_
 ·obtain ⟨⟨oc,od,odt,osl⟩,ho,hc,n,hd⟩:=id hl
  have hc':oc=.type "tuple" := hc
  have hd':odt=.seq items n:=hd
  subst hc' hd'
  have ho':=Ag (Lg #[] 0 (.fresh 0 0 (!bt w))) ho
  have hl1:(s.heap.push (Lg #[] 0 (.fresh 0 0 (!bt w)))).IsTuple l items:=⟨_,ho',rfl,n,rfl⟩
  have f1:=PySem.F.sub_tuple_set
  have f2:=PySem.F.sub_tuple_frozenset
  have f3:(Me "tuple" == Me "dict")=false:=by decide
  have lt:=Ar ho
  unfold Builtin.«set.__init__» noKeywords Mf
  generalize hPI:pyIter=PI
  wp_walk
  subst hPI
  refine Nq hl1 (Aa (wpAny_runValue ?_))
  have sz:(s.heap.push (Lg #[] 0 (.fresh 0 0 (!bt w)))).objs.size=s.heap.objs.size+1:=Hf _ _
  have g1:((s.heap.push (Lg #[] 0 (.fresh 0 0 (!bt w)))).push { cls:=.type "tuple_iterator",data:=.fields #[.ref l,.int 0 0] }).get? (s.heap.push (Lg #[] 0 (.fresh 0 0 (!bt w)))).objs.size=some { cls:=.type "tuple_iterator",data:=.fields #[.ref l,.int 0 0] }:=Au _ rfl
  refine eB hU (by rw[sz]; exact Bm (fL _)) (Qu lt) (by rw[sz]; exact Bm (Hq lt)) hI hN (by simp [hh]) (items.size - 0) 0 _ #[] 0 (.fresh 0 0 (!bt w)) rfl (Dq _) ⟨_,g1,rfl,rfl⟩ ⟨_,Ag _ ho',rfl,n,rfl⟩
   (S0.keep λo q=>Ag _ q) (λx hx=>by simp at hx) λes ep t h' tk k' S' m'=>?_
  refine Ae (Ae ⟨rfl,es,ep,t,h',tk,rfl,λb o e=>?_,S',λx=>?_⟩)
  ·have lb:=Ar e
   exact k' b o (Bm lb) (by rw[sz]; exact Bm (Hq lb)) (Ag _ (Ag _ e))
  ·rw[m',Nk]
   simp
 ·rcases r with e | (_ | _ | _ | v)
  w_pre c2
  obtain ⟨rfl,es,ep,t,h',tk,rfl,k',S',m'⟩:=hr
  w_pre y7
  exact h es ep t h' tk k' S' m'
end
theorem Vp:Slot "set_iterator" "__next__" "set_iterator.__next__" :=
 .of (owner := "set_iterator") (n := "__next__") (by rw[Yy,Pt]; kernel_rfl) (by decide +kernel) (by decide +kernel) (by decide +kernel) (by first | exact .inl (by decide +kernel) | exact .inr (by decide +kernel)) (by rw[bE]; kernel_rfl)
theorem dA:entryFor table "set_iterator.__next__" = some Builtin.«set_iterator.__next__»:=entryFor_of_tree (by kernel_rfl)
theorem gR(a:Value):argsOk "set_iterator.__next__" ⟨[a],[]⟩:=by unfold argsOk; kernel_rfl
theorem sW:entryFor table "set.__iter__" = some Builtin.«frozenset.__iter__» :=
 bF (id' := "frozenset.__iter__") (by kernel_rfl) (by first | rfl | decide +kernel) (by decide +kernel) (by kernel_rfl)
abbrev vV(f i:Nat)(a:Addr)(n ep:Nat):Obj:={ cls:=.type "set_iterator",data:=.fields #[Ff f,Ff i,.ref a,Ff n,Ff ep] }
def arrOf(w:World)(a:Addr)(ep:Nat)(es:Array (Int×Value)):Array (Int×Value):=if bt w then Wk (w.params.setOrder a ep) es else es
theorem o5{w:World}{a:Addr}{ep:Nat}{es:Array (Int×Value)}:(arrOf w a ep es).toList.Perm es.toList:=iK
theorem Rn{w:World}{a:Addr}{ep:Nat}{es:Array (Int×Value)}:(arrOf w a ep es).size=es.size:=by
 have:=(o5 (w:=w) (a:=a) (ep:=ep) (es:=es)).length_eq
 rw[Am,Am] at this
 exact this
def pP(w:World)(I a:Addr)(es:Array (Int×Value))(ep:Nat)(t:Cn)(i:Nat)(h:Heap):Prop :=
 (∃f,h.get? I=some (vV f i a es.size ep)/\(bt w=false->Cp t.place f=i))/\SetS w h a es ep t
section
variable{prog:Bk}{w:World}{A:Ci}{E:Value->Ai->Prop}{s:Ai}
theorem P4{a:Addr}{es:Array (Int×Value)}{ep:Nat}{t:Cn}{Q:Value->Ai->Prop}(S:SetS w s.heap a es ep t)(h:Q (.ref s.heap.objs.size) { s with heap:=s.heap.push (vV 0 0 a es.size ep) }):wpAny (model prog w) A (pyIter (.ref a)) Q E s:=by
 refine iV S.ty PySem.F.slot_set_iter (Dj PySem.F.slot_set_iter S.ty sW ?_ (PySem.F.args_set_iter_1 _))
 unfold Builtin.«frozenset.__iter__»
 refine Aa (m:=Builtin.Frozenset.slot0 "__iter__" ⟨[.ref a],[]⟩) (Jo (a:=a) rfl ?_)
 unfold Builtin.Frozenset.sizeOf fI setDrawn setEpoch
 refine Aa (Aa (Aa (Hj S (Ae (Ae ?_)))))
 refine Aa (Aa (Hj S ?_))
 dsimp only
 refine Aa (Rk (Ae ?_))
 have hp:=S.tab.plain
 have tail:wpAny (model prog w) A.in1 (do
   let first <- (pure (Ff 0):Sem Value)
   ret (<- newFields "set_iterator" [first,Ff 0,.ref a,Ff es.size,Ff (<- (do return (<- setState a).2.1))])) (λfin s'=>∃v,fin=.done (.ret v)/\∃T' r,s'.TypeIs v T'/\fH (.type T') "__next__" = pure (some r)/\Q v s') E s:=by
  refine Aa (Ae ?_)
  refine Aa (Aa (Hj S (Ae ?_)))
  refine Aa (Cg (Ae ⟨_,rfl, "set_iterator",_,⟨_,Au _ rfl,rfl⟩,Vp.lookup,h⟩))
 obtain ⟨mask,place,dummies,finger,led,moves,plain⟩:=t
 have hp':plain=true:=hp
 subst hp'
 cases hb:bt w with
 | true=>exact tail
 | false=>exact tail
theorem cX{a:Addr}{es:Array (Int×Value)}{ep f i:Nat}{t:Cn}{Q:Option (Value×Nat)->Ai->Prop}(S:SetS w s.heap a es ep t)(hf:bt w=false->Cp t.place f=i)(h1:∀(hi:i<es.size) f',(bt w=false->Cp t.place f'=i+1)->Q (some (((arrOf w a ep es)[i]'(by rw[Rn]; exact hi)).2,f')) s)(h2:es.size<=i->Q none s):wpAny (model prog w) A (setNext a f i ep) Q E s:=by
 unfold setNext
 w_pre i9
 dsimp only
 refine Aa (Rk ?_)
 cases hb:bt w with
 | true =>
  rw[if_pos rfl,if_neg (by simp)]
  refine Aa (uL S (Ae ?_))
  show Q (((arrOf w a ep es)[i]?).map λe=>(e.2,f)) s
  by_cases hi:i<es.size
  ·rw[Iq (by rw[Rn]; exact hi)]
   exact h1 hi f (λz=>by rw[hb] at z; cases z)
  ·rw[Tp (by rw[Rn]; omega)]
   exact h2 (by omega)
 | false =>
  have hl:=S.led hb
  have hp:=S.tab.plain
  have tail:wpAny (model prog w) A (pure (match es[Cp t.place f]?,t.place[Cp t.place f]? with
    | some (_,x),some j=>some (x,j+1)
    | _,_=>none):Sem (Option (Value×Nat))) Q E s:=by
   rw[hf hb]
   by_cases hi:i<es.size
   ·have hi2:i<t.place.size:=by rw[S.tab.size]; exact hi
    rw[Iq hi,Iq hi2]
    refine Ae ?_
    have:=h1 hi (t.place[i]+1) (λ_=>rZ S.tab.rise hi2)
    have e:arrOf w a ep es=es:=by unfold arrOf; rw[hb]; rfl
    simp only[e] at this
    exact this
   ·rw[Tp (by omega)]
    exact Ae (h2 (by omega))
  w_pre r1
  exact Aa (m:=(pure ():Sem Unit)) (Ae tail)
theorem wO{I a:Addr}{es:Array (Int×Value)}{ep:Nat}{t:Cn}{i:Nat}{Q:Option Value->Ai->Prop}(st:pP w I a es ep t i s.heap)(ne:a≠I)(hi:i<es.size)(h:∀h',pP w I a es ep t (i+1) h'->Cv I s.heap h'->Q (some ((arrOf w a ep es)[i]'(by rw[Rn]; exact hi)).2) { s with heap:=h' }):wpAny (model prog w) A (Ji (.ref I)) Q E s:=by
 w_pre d0
 dsimp only
 refine Aa (bC ho rfl ?_)
 show wpAny (model prog w) A.in1 (do
  if (((<- fI a).size:Nat):Int) != (es.size:Int) then
   rule "set_iterator.__next__.size-changed"
   Qr (.ref I) 3 (Ff (-1))
   raiseError "RuntimeError" "Set changed size during iteration"
  match <- setNext a (f:Int).toNat (i:Int).toNat (ep:Int).toNat with
  | some (x,next) =>
   Qr (.ref I) 0 (Ff next)
   Qr (.ref I) 1 (Ff ((i:Int)+1))
   ret x
  | none=>Qr (.ref I) 2 .none; raiseNew (<- newExc (.type "StopIteration") [])) _ _ _
 w_pre z1
 refine Aa (cX S hf (λ_ f' hf'=>?_) (λz=>absurd hi (by omega)))
 dsimp only
 refine Aa (Ma ho rfl (by simp) ?_)
 have g1:(s.heap.update I (Obj.mapFields (·.setIfInBounds 0 (Ff f')))).get? I=some (vV f' i a es.size ep):=Fe _ ho rfl
 refine Aa (Ma g1 rfl (by simp) (Ae ⟨_,rfl,Ae (h _ ⟨⟨f',?_,hf'⟩,?_⟩ ((Bp ..).trans (Bp ..)))⟩))
 ·exact Fe _ g1 rfl
 ·refine S.keep λo q=>?_
  exact ((Bp _ _ _).2 a ne).trans (((Bp _ _ _).2 a ne).trans q)
theorem zO{I a:Addr}{es:Array (Int×Value)}{ep:Nat}{t:Cn}{Q:Option Value->Ai->Prop}(hh:A.handled=none)(st:pP w I a es ep t es.size s.heap)(h:∀h',Xe I s.heap h'->Q none { s with heap:=h' }):wpAny (model prog w) A (Ji (.ref I)) Q E s:=by
 w_pre d0
 dsimp only
 refine Aa (bC ho rfl ?_)
 show wpAny (model prog w) A.in1 (do
  if (((<- fI a).size:Nat):Int) != (es.size:Int) then
   rule "set_iterator.__next__.size-changed"
   Qr (.ref I) 3 (Ff (-1))
   raiseError "RuntimeError" "Set changed size during iteration"
  match <- setNext a (f:Int).toNat (es.size:Int).toNat (ep:Int).toNat with
  | some (x,next) =>
   Qr (.ref I) 0 (Ff next)
   Qr (.ref I) 1 (Ff ((es.size:Int)+1))
   ret x
  | none=>Qr (.ref I) 2 .none; raiseNew (<- newExc (.type "StopIteration") [])) _ _ _
 w_pre z1
 refine Aa (cX S hf (λz _ _=>absurd z (Fc _)) (λ_=>?_))
 dsimp only
 refine Aa (Ma ho rfl (by simp) (Aa ?_))
 simp only[newExc,newTuple]
 w_pre f1
 rw[show A.in1.handled=none from hh]
 refine Aa (Ae (wpAny_throw ?_))
 refine Aa (Ip (T := "StopIteration") (b:=true) ⟨_,Au _ rfl,rfl⟩ isSubtype_stop ?_)
 exact Ae (h _ (((Bp ..).extBut.push _).push _))
end
theorem iO:Slot "set_iterator" "__iter__" "set_iterator.__iter__" :=
 .of (owner := "set_iterator") (n := "__iter__") (by rw[Yy,Pt]; kernel_rfl) (by decide +kernel) (by decide +kernel) (by decide +kernel) (by first | exact .inl (by decide +kernel) | exact .inr (by decide +kernel)) (by rw[bE]; kernel_rfl)
theorem rL:entryFor table "set_iterator.__iter__" = some Builtin.«dict_keyiterator.__iter__» :=
 bF (id' := "dict_keyiterator.__iter__") (by kernel_rfl) (by first | rfl | decide +kernel) (by decide +kernel) (by kernel_rfl)
theorem yN(a:Value):argsOk "set_iterator.__iter__" ⟨[a],[]⟩:=by unfold argsOk; kernel_rfl
section
variable{prog:Bk}{w:World}{A:Ci}{E:Value->Ai->Prop}{s:Ai}
theorem wG(hh:A.handled=none){I a:Addr}(ne:a≠I)(es:Array (Int×Value))(ep:Nat)(t:Cn):Walks prog w A I [I,a] [I] es.size (λi v=>∃e,(arrOf w a ep es)[i]? = some e/\v=e.2) (λi h=>pP w I a es ep t i h) where
 sub:=λb hb=>by simp at hb; simp [hb]
 frame:=λi h h' ⟨⟨f,ho,hf⟩,S⟩ hk=>⟨⟨f,hk I (by simp) _ ho,hf⟩,S.keep λo q=>hk a (by simp) o q⟩
 item:=λi s Q E hi st hQ=>wO st ne hi λh' st' sb=>hQ _ h' s.toks ⟨_,Iq (by rw[Rn]; exact hi),rfl⟩ st' λb o hb e=>(sb.2 b (λz=>hb (by simp [z]))).trans e
 done:=λs Q E st hQ=>zO hh st λh' x=>hQ h' s.toks λb o hb e=>x b o (λz=>hb (by simp [z])) e
 self:=λi s Q E st hQ=>by
  obtain ⟨⟨f,ho,hf⟩,S⟩:=st
  have T:s.TypeIs (.ref I) "set_iterator" := ⟨_,ho,rfl⟩
  refine iV T iO (Dj iO T rL ?_ (yN _))
  exact Ae ⟨_,rfl, "set_iterator",_,T,Vp.lookup,hQ⟩
theorem B9{r:Addr}{Q:Bool->Ai->Prop}(hT:s.TypeIs (.ref r) "set")(h:Q false s):wpAny (model prog w) A (Zj (.ref r)) Q E s:=by
 unfold Zj
 refine Aa (wpAny_specialOf hT PySem.F.slot_set_len.lookup ?_)
 generalize hid:("set.__len__" : String)=id0
 wp_delta
 rw[show splitId id0=some ("set", "__len__") from by subst hid; decide +kernel]
 subst hid
 refine Aa (Ip (T := "set") (b:=true) hT Qo ?_)
 refine wpAny_ite_split (λz=>absurd z (by decide)) (λ_=>wpAny_ite_split (λ_=>?_) (λz=>absurd (by decide +kernel) z))
 exact Aa (Jm hT (Ae h))
theorem N5(a:Addr)(es:Array (Int×Value))(ep:Nat)(t:Cn):PySem.W.KdlSrc prog w "set" a a es.size (λi v=>∃e,(arrOf w a ep es)[i]? = some e/\v=e.2) (λh=>SetS w h a es ep t) where
 type:=λs S=>S.ty
 there:=λh S=>⟨Ar S.obj,Ar S.obj⟩
 keep:=λh h' S k=>S.keep λo q=>k a (.inl rfl) o q
 notList:=by decide
 notTuple:=by decide
 hint:=λA E s Q S h=>B9 S.ty h
 iter:=λA s hh S=>by
  have lt:=Ar S.obj
  refine ⟨vV 0 0 a es.size ep,λi h=>pP w s.heap.objs.size a es ep t i h,λE Q h=>P4 S h,?_,⟨⟨0,Au _ rfl,λ_=>pL S.tab.rise⟩,S.keep λo q=>Ag _ q⟩⟩
  exact wG hh (Bm lt) es ep t
theorem fY{arr:Array (Int×Value)}(he:∀e∈arr.toList,Yx e){acc:Array Value}(h:ItemsOf (λi v=>∃e,arr[i]? = some e/\v=e.2) acc arr.size):Fp acc.toList (arr.toList.map Nx):=by
 have key:∀(l:List (Int×Value)) (vs:List Value),(∀e∈l,Yx e)->vs.length=l.length->(∀(j:Nat) v,vs[j]? = some v->∃e,l[j]? = some e/\v=e.2)->Fp vs (l.map Nx):=by
  intro l
  induction l with
  | nil =>
   intro vs _ hl _
   cases vs with
   | nil=>exact .nil
   | cons v vs=>cases hl
  | cons e l ih =>
   intro vs he hl hv
   cases vs with
   | nil=>cases hl
   | cons v vs =>
    obtain ⟨k,tk,rfl⟩:=he e (Ab ..)
    obtain ⟨e',h1,h2⟩:=hv 0 v rfl
    cases h1
    subst h2
    exact .cons k tk (ih vs (λe hm=>he e (Ac _ hm)) (by simpa using hl) λj u hj=>hv (j+1) u (by simpa using hj))
 refine key arr.toList acc.toList he (by rw[Am,Am]; exact h.1) λj v hj=>?_
 obtain ⟨e,h1,h2⟩:=h.2 j v (by rw[<- Ft]; exact hj)
 exact ⟨e,by rw[Ft]; exact h1,h2⟩
theorem rS{a:Addr}{es:Array (Int×Value)}{ep:Nat}{t:Cn}{Q:Value->Ai->Prop}(hh:A.handled=none)(S:SetS w s.heap a es ep t)(h:∀(p:Addr) (out:Array Value) (ns:List Int) (n:Nat) (h1 h':Heap) (tk:Nat),Fp out.toList ns->ns.Perm (keys es)->ns.Pairwise (·<=·)->(∀b o,s.heap.get? b=some o->h1.get? b=some o)->h1.objs.size<=p->(∀b o,h1.get? b=some o->h'.get? b=some o)->h'.get? p=some (Gn "list" out n)->Q (.ref p) { s with heap:=h',toks:=tk }):wpAny (model prog w) A (call (.builtin "sorted") [.ref a]) Q E s:=by
 refine Rg kind_sorted plain_sorted entry_sorted (args_sorted1 _) ?_
 unfold Builtin.«sorted»
 refine Aa (m:=checkCount "sorted" 1 1 _) (Ae (Aa (PySem.W.kdu_collect (A:=A.in1) (N5 a es ep t) hh S (small S.few) λh1 tk acc k1 hacc=>?_)))
 have hacc':ItemsOf (λi v=>∃e,(arrOf w a ep es)[i]? = some e/\v=e.2) acc (arrOf w a ep es).size:=by rw[Rn]; exact hacc
 have hI:=fY (λe he=>S.ent e (o5.mem_iff.mp he)) hacc'
 have len:acc.toList.length<64:=by rw[Am,hacc.1]; exact S.few
 refine Aa (wpAny_newList ?_ (Cb (Jd len) (by rw[Gp]; decide)))
 have g1:(h1.push (Gn "list" acc.toList.toArray 0)).get? h1.objs.size=some (Gn "list" acc.toList.toArray 0):=Au _ rfl
 refine Aa (Ct (Dj slot_list_sort ⟨_,g1,rfl⟩ entry_list_sort (list_sort_tree (s:={ s with heap:=h1.push (Gn "list" acc.toList.toArray 0),toks:=tk }) g1 hI len λout ns' a1 a2 a3=>⟨_,rfl,?_⟩) (args_list_sort _)))
 refine Ae ⟨_,rfl,?_⟩
 have g2:=Rc g1 (λ_=>#[])
 have g3:=Ag (Gn "list" #[] 0) (Ag (Gn "tuple" acc.toList.toArray 0) g2)
 have g4:=Rc g3 (λ_=>out)
 refine h h1.objs.size out ns' _ h1 _ tk a1 (a2.trans (o5.map Nx)) a3 k1 (Aj _) (λb o e=>?_) g4
 have nb:b≠h1.objs.size:=Bm (Ar e)
 exact ((Bp _ _ _).2 b nb).trans (Ag _ (Ag _ (((Bp _ _ _).2 b nb).trans (Ag _ e))))
end
end NdS
namespace Nd
open PySem PySem.Spec PyProof.Rows L2 NdS
def j4(w:World)(a:Addr)(ks:List Int)(h:Heap):Prop:=∃es ep t,SetS w h a es ep t/\∀x,x∈keys es↔x∈ks
abbrev Yb(w:World)(a:Addr)(ks:List Int):HO:=.ext (j4 w a ks)
theorem uR{P:Bk}{w w':World}{H:Hp}{h:Heap}{a:Addr}{ks:List Int}(e:j4 w a ks h):Kb P w' H h a (Yb w a ks) :=
 ⟨e,let ⟨_,_,_,S,_⟩:=e; ⟨_,S.obj⟩,λh1 h2 ⟨es,ep,t,S,m⟩ k=>⟨es,ep,t,S.keep λo q=>k o q,m⟩⟩
theorem cZ{P:Bk}{w:World}{H:Hp}{h:Heap}{a:Addr}{ks:List Int}(ok:Wi P w H h)(e:H a=some (Yb w a ks)):j4 w a ks h :=
 (show Kb P w H h a (Yb w a ks) from ok a _ e).1
section
variable{X:Cx}
def CQ(w:World)(K:PySem.W.Frag):List V->Hp->VK->Prop:=λxs H Q=>∃(a:Addr) (ns U:List Int),xs=[.ref a]/\Rq K H a (ns.map V.int)/\U.length<=62/\Among U ns/\∀p,H p=none->Q (.ref p) (upd H p (Yb w p ns))
theorem dP(hc:X.calm=true):Mh X (.type "set") (CQ X.w X.K):=by
 w_pre r7
 obtain ⟨a,ns,U,rfl,hs,hU,hN,q⟩:=h
 w_pre q4
 obtain ⟨its,rv,⟨o,e,hcl,n,hd⟩,_⟩:=I.tuple hs
 refine Q3 hU (I.ok.hd hc) ⟨o,e,hcl,n,hd⟩ (by simpa using intsAre_of rv) hN λes ep t h' tk k S m=>?_
 exact ⟨.ref s.heap.objs.size,_,I.laid k (Aj _) (uR ⟨es,ep,t,S,m⟩),rfl,q _ (I.hok.fresh (Aj _))⟩
def LK(w:World):R2:=λx y H Q=>∃(a b:Addr) (ks ls U:List Int),x=.ref a/\y=.ref b/\a≠b/\H a=some (Yb w a ks)/\H b=some (Yb w b ls)/\U.length<=62/\Among U ks/\Among U ls/\∀p,H p=none->Q (.ref p) (upd H p (Yb w p (ks++ls)))
theorem J6:Ze X (Jp .BitOr) (LK X.w):=by
 w_pre h8
 obtain ⟨a,b,ks,ls,U,rfl,rfl,ne,ha,hb,hU,h1,h2,q⟩:=h
 cases rx
 cases ry
 obtain ⟨ea,pa,ta,Sa,ma⟩:=cZ I.hok ha
 obtain ⟨eb,pb,tb,Sb,mb⟩:=cZ I.hok hb
 refine FS hU ne Sa Sb (λx hx=>h1 x ((ma x).mp hx)) (λx hx=>h2 x ((mb x).mp hx)) λes ep t h' k S m=>?_
 exact ⟨.ref s.heap.objs.size,_,I.laid (t':=s.toks) k (Aj _) (uR ⟨es,ep,t,S,λx=>by rw[m,ma,mb,Bc]⟩),rfl,q _ (I.hok.fresh (Aj _))⟩
theorem Xv:∀{vs:List Value} {ns:List Int},Fp vs ns->Gj (ns.map V.int) vs
 | _,_,.nil=>.nil
 | _,_,.cons n t h=>.cons ⟨t,rfl⟩ (Xv h)
def vS(w:World):List V->Hp->VK->Prop:=λxs H Q=>∃(a:Addr) (ks:List Int),xs=[.ref a]/\H a=some (Yb w a ks)/\∀(p:Addr) (ns:List Int),H p=none->ns.Nodup->ns.Pairwise (·<=·)->(∀x,x∈ns↔x∈ks)->Q (.ref p) (upd H p (.lst (ns.map V.int)))
theorem Xw(hc:X.calm=true):Mh X (.builtin "sorted") (vS X.w):=by
 w_pre r7
 obtain ⟨a,ks,rfl,ha,q⟩:=h
 w_pre q4
 obtain ⟨es,ep,t,S,m⟩:=cZ I.hok ha
 refine rS (I.ok.hd hc) S λp out ns n h1 h' tk hi hp hs k1 hge k2 hg=>?_
 have I1:Inv X pins σ H { s with heap:=h1,toks:=tk }:=I.kept k1
 have nd:ns.Nodup:=hp.nodup_iff.mpr S.nd
 have hl:ns.length<64:=by
  rw[hp.length_eq,Ad,Am]
  exact S.few
 refine ⟨.ref p,upd H p (.lst (ns.map V.int)),I1.laid (t':=tk) k2 hge ⟨by rw[Ad,Gp]; omega,out.toList,n,Xv hi,by simpa using hg⟩,rfl,q p ns (I1.hok.fresh hge) nd hs λx=>by rw[hp.mem_iff,m]⟩
end
end Nd
namespace Nd
open PySem L2
def aQ(d:Addr)(H H':Hp):Prop:=∀b o,b≠d->H b=some o->H' b=some o
theorem aQ.trans{d:Addr}{H H1 H2:Hp}(a:aQ d H H1)(b:aQ d H1 H2):aQ d H H2:=λc o n h=>b c o n (a c o n h)
theorem aQ.upd{d:Addr}{H:Hp}{o:HO}:aQ d H (upd H d o):=λb o n h=>by rw[Dw n]; exact h
theorem Th.tup{K:PySem.W.Frag}{H H':Hp}{a:Addr}{xs:List V}(e:Th H H')(h:Rq K H a xs):Rq K H' a xs:=by
 rcases h with (h | ⟨o,h⟩) | h
 ·exact .inl (.inl (e _ _ h))
 ·exact .inl (.inr ⟨o,e _ _ h⟩)
 ·exact .inr h
theorem small{n:Nat}(h:n<=1000):n<=Ay:=Jd (iE h)
theorem pF{n:Nat}(h:n<=1000000):n<=Ay:=by rw[Gp]; omega
theorem kO(a b:Int)(h:0<b):0<=a % b/\a % b<b:=⟨Int.emod_nonneg _ (by omega),Int.emod_lt_of_pos _ h⟩
def Do(h:Int)(ns:List Int):Prop:=ns.Pairwise (· < ·)/\∀x∈ns,0<=x/\x<h
theorem Do.nil(h:Int):Do h []:=⟨Ej,λx hx=>by cases hx⟩
theorem Do.more{h:Int}{ns:List Int}(r:Do h ns)(h0:0<=h):Do (h+1) (ns++[h]) :=
 ⟨Cw.mpr ⟨r.1,Fi _ _,λa ha b hb=>by rw[Al.mp hb]; exact (r.2 a ha).2⟩,λx hx=>by
  w_pre v8
  ·have:=r.2 x z; omega
  ·have:=Al.mp z; omega⟩
theorem Do.up{h h':Int}{ns:List Int}(r:Do h ns)(l:h<=h'):Do h' ns:=⟨r.1,λx hx=>by have:=r.2 x hx; omega⟩
def qI(H:Hp)(d:Addr)(c k:Int)(f:Bool):Prop:=H d=some (.lst [.int c,.int k,.bl f])
def C6:Sp:=λvs H Q _=>∃(d:Addr) (c k:Int) (f:Bool),vs=[.ref d]/\qI H d c k f/\0<=k/\k<=1000000/\∀(r c':Int) (H':Hp),qI H' d c' (k+1) f->aQ d H H'->Q (.int r) H'
def Wd(H:Hp)(r:Addr):Prop:=∃ns:List Int,(ns.length<=60/\Do 60 ns)/\H r=some (.tup (ns.map V.int))
def Bf(ns:List Int):Af:=.tuple (ns.map Aw)
theorem qO(ns:List Int):(Bf ns).depth<=1:=by
 have : (Bf ns).depth<=Br (ns.map Aw)+1:=by simp [Bf,Ea]
 rw[rK] at this
 exact this
def EL:List Int:=(Cc 60).map λi:Nat=>(i:Int)
theorem Yc{x:Int}(h0:0<=x)(h1:x<60):x∈EL:=Dc.mpr ⟨x.toNat,Fz.mpr (by omega),by omega⟩
theorem N7(TD:List Af):Em (.list TD) (.list [])=TD.isEmpty:=by cases TD <;> simp [Em,Mt]
theorem gU:∀{l1 l2:List Int},l1.Pairwise (· < ·)->l2.Pairwise (· < ·)->(∀x,x∈l1↔x∈l2)->l1=l2
 | [],[],_,_,_=>rfl
 | [],b::l,_,_,h=>by have:=(h b).mpr Ab; cases this
 | a::l,[],_,_,h=>by have:=(h a).mp Ab; cases this
 | a::l1,b::l2,p1,p2,h=>by
  obtain ⟨h1,q1⟩:=Bd.mp p1
  obtain ⟨h2,q2⟩:=Bd.mp p2
  have e:a=b:=by
   rcases Ak.mp ((h a).mp Ab) with z | z
   ·exact z
   ·rcases Ak.mp ((h b).mpr Ab) with y | y
    ·exact y.symm
    ·have:=h1 b y; have:=h2 a z; omega
  subst e
  rw[gU q1 q2 λx=>⟨λhx=>?_,λhx=>?_⟩]
  ·rcases Ak.mp ((h x).mp (Ac _ hx)) with z | z
   ·have:=h1 x hx; omega
   ·exact z
  ·rcases Ak.mp ((h x).mpr (Ac _ hx)) with z | z
   ·have:=h2 x hx; omega
   ·exact z
theorem vN{ns:List Int}(r:Do 60 ns):NdS.Among EL ns:=λx hx=>Yc (r.2 x hx).1 (r.2 x hx).2
def Y7(K:PySem.W.Frag):Sp:=λvs H Q _=>∃(a b:Addr) (ns ms:List Int),vs=[.ref a,.ref b]/\Rq K H a (ns.map V.int)/\Rq K H b (ms.map V.int)/\Do 60 ns/\Do 60 ms /\
 ∀(r:Addr) (ts:List Int) (H':Hp),H r=none->H' r=some (.tup (ts.map V.int))->ts.Nodup->ts.Pairwise (·<=·)->(∀x,x∈ts↔x∈ns++ms)->Th H H'->Q (.ref r) H'
def uF(b:Bool):Str:=if b=true then "back" else "front"
def Ps(H:Hp)(p:Addr):Prop:=∃n b,H p=some (.tup [.ref n,.str (uF b)])/\Wd H n
def order{α:Type}(a b:α)(l:List α):Option Bool->List α
 | none=>l
 | some true=>[a,b]
 | some false=>[b,a]
structure TD(K:PySem.W.Frag)(H:Hp)(x:V)(d:Af)(n m:Nat):Prop where
 rd:RdV K H x d
 fits:FR 22 d
 nd:Y8 d<=n
 dp:d.depth<=m
abbrev X2(K:PySem.W.Frag):List V->Hp->VK->Prop:=λxs H Q=>∃p ys,xs=[V.ref p]/\(Mp K H p ys\/Rq K H p ys)/\∀l,H l=none->Q (.ref l) (upd H l (.lst ys))
theorem kG{X:Cx}:Mh X (.type "list") (X2 X.K):=kJ
abbrev W6(K:PySem.W.Frag):List V->Hp->VK->Prop:=λxs H Q=>∃p ys,xs=[V.ref p]/\((Mp K H p ys/\∀l,H l=none->Q (.ref l) (upd H l (.tup ys)))\/(Rq K H p ys/\Q (.ref p) H))
theorem Rh{X:Cx}:Mh X (.type "tuple") (W6 X.K):=Wg
end Nd
namespace DL
open PySem L2 Nd
def KL(K:PySem.W.Frag)(H:Hp)(a:Addr)(xs:List V):Prop :=
 (∃o,H a=some (.frz o (.lst xs)))\/∃(its:Array Value) (n:Nat),K.lookup a=some { cls:=.type "list",data:=.seq its n }/\its.size<=Ay/\Gj xs its.toList
def mI:Nat->Af
 | 0=>.none
 | n+1=>.tuple [mI n]
def Wh(ks:List (List Int×Af)):List (Af×Af):=(mI 100,.none)::ks.map λp=>(Bf p.1,p.2)
def Ls(w:List Int):List Lc:=w.map Za
mutual
inductive RdF (K:PySem.W.Frag) (H:Hp):V->Af->List Addr->Prop
 | non:RdF K H .non .none []
 | bl (b:Bool):RdF K H (.bl b) (.bool b) []
 | int (i:Int):RdF K H (.int i) (.int i) []
 | str (x:Str):RdF K H (.str x) (.str x) []
 | lst {a:Addr} {xs:List V} {ds:List Af} {F:List Addr}:H a=some (.lst xs)->ds.length<=Ay->RdFs K H xs ds F->RdF K H (.ref a) (.list ds) (a::F)
 | tup {a:Addr} {xs:List V} {ds:List Af} {F:List Addr}:H a=some (.tup xs)->ds.length<=Ay->RdFs K H xs ds F->RdF K H (.ref a) (.tuple ds) F
 | dic {a:Addr} {kv:List (List Lc×V)} {ks:List (List Int×Af)}:H a=some (.dT kv)->kv.map (·.1)=ks.map (λp=>Ls p.1)->RdFs K H (kv.map (·.2)) (ks.map (·.2)) []->RdF K H (.ref a) (.dict (Wh ks)) [a]
inductive RdFs (K:PySem.W.Frag) (H:Hp):List V->List Af->List Addr->Prop
 | nil:RdFs K H [] [] []
 | cons {x:V} {d:Af} {xs:List V} {ds:List Af} {F G:List Addr}:RdF K H x d F->RdFs K H xs ds G->RdFs K H (x::xs) (d::ds) (F++G)
end
def LX(o:HO):Prop:=(∃xs,o=.tup xs)\/∃ob u,o=.frz ob u
def Kp(F:List Addr)(H H':Hp):Prop:=∀b o,H b=some o->(b∈F\/LX o)->H' b=some o
theorem Kp.of{F:List Addr}{H H':Hp}(s:Th H H'):Kp F H H':=λb o e _=>s b o e
theorem Kp.sub{F G:List Addr}{H H':Hp}(k:Kp F H H')(h:∀a∈G,a∈F):Kp G H H':=λb o e z=>k b o e (z.imp (h b) id)
section
variable{K:PySem.W.Frag}{H H':Hp}
theorem KL.kp{a:Addr}{xs:List V}{F:List Addr}(h:KL K H a xs)(k:Kp F H H'):KL K H' a xs:=by
 rcases h with ⟨o,h⟩ | h
 ·exact .inl ⟨o,k _ _ h (.inr (.inr ⟨_,_,rfl⟩))⟩
 ·exact .inr h
theorem KL.sq{a:Addr}{xs:List V}(h:KL K H a xs):Mp K H a xs:=by
 rcases h with ⟨o,h⟩ | ⟨its,n,h,hz,r⟩
 ·exact .inl (.inr ⟨o,h⟩)
 ·exact .inr ⟨_,its,n,h,rfl,rfl,rfl,hz,r⟩
mutual
theorem RdF.kp:∀{v:V} {d:Af} {F:List Addr},RdF K H v d F->Kp F H H'->RdF K H' v d F
 | _,_,_,.non,_=>.non
 | _,_,_,.bl b,_=>.bl b
 | _,_,_,.int i,_=>.int i
 | _,_,_,.str x,_=>.str x
 | _,_,_,.lst h l hs,k=>.lst (k _ _ h (.inl Ab)) l (RdFs.kp hs (k.sub λ_ z=>Ac _ z))
 | _,_,_,.tup h l hs,k=>.tup (k _ _ h (.inr (.inl ⟨_,rfl⟩))) l (RdFs.kp hs k)
 | _,_,_,.dic h e hs,k=>.dic (k _ _ h (.inl Ab)) e (RdFs.kp hs (k.sub λ_ z=>nomatch z))
theorem RdFs.kp:∀{v:List V} {d:List Af} {F:List Addr},RdFs K H v d F->Kp F H H'->RdFs K H' v d F
 | _,_,_,.nil,_=>.nil
 | _,_,_,.cons h hs,k=>.cons (RdF.kp h (k.sub λ_ z=>Ao _ z)) (RdFs.kp hs (k.sub λ_ z=>Ah _ z))
end
theorem aR:∀n,(mI n).depth=n
 | 0=>by simp [mI,Ea]
 | n+1=>by
  have:=aR n
  simp only[mI,Ea,Br,this]
  omega
theorem E7{ks:List (List Int×Af)}:100<=(PyData.dict (Wh ks)).depth:=by
 have:=aR 100
 simp only[Wh,Ea,PyData.depthKv,this]
 omega
mutual
theorem RdF.rd:∀{v:V} {d:Af} {F:List Addr},RdF K H v d F->d.depth<=90->RdV K H v d
 | _,_,_,.non,_=>.non
 | _,_,_,.bl b,_=>.bl b
 | _,_,_,.int i,_=>.int i
 | _,_,_,.str x,_=>.str x
 | _,_,_,.lst h l hs,z=>.lst (Mp.of h) (RdFs.rd hs (by simp only[Ea] at z; omega))
 | _,_,_,.tup h l hs,z=>.tup (Rq.of h) (RdFs.rd hs (by simp only[Ea] at z; omega))
 | _,_,_,.dic h e hs,z=>absurd (Cb E7 z) (by decide)
theorem RdFs.rd:∀{v:List V} {d:List Af} {F:List Addr},RdFs K H v d F->Br d<=90->RdVs K H v d
 | _,_,_,.nil,_=>.nil
 | _,_,_,.cons h hs,z=>.cons (RdF.rd h (by simp only[Br] at z; omega)) (RdFs.rd hs (by simp only[Br] at z; omega))
end
mutual
theorem RdF.dom:∀{v:V} {d:Af} {F:List Addr},RdF K H v d F->∀a∈F,∃o,H a=some o
 | _,_,_,.non,_,z=>nomatch z
 | _,_,_,.bl b,_,z=>nomatch z
 | _,_,_,.int i,_,z=>nomatch z
 | _,_,_,.str x,_,z=>nomatch z
 | _,_,_,.lst h l hs,b,z=>by
  rcases Ak.mp z with rfl | z
  ·exact ⟨_,h⟩
  ·exact RdFs.dom hs b z
 | _,_,_,.tup h l hs,b,z=>RdFs.dom hs b z
 | _,_,_,.dic h e hs,b,z=>⟨_,Al.mp z▸h⟩
theorem RdFs.dom:∀{v:List V} {d:List Af} {F:List Addr},RdFs K H v d F->∀a∈F,∃o,H a=some o
 | _,_,_,.nil,_,z=>nomatch z
 | _,_,_,.cons h hs,b,z=>by
  rcases Bc.mp z with z | z
  ·exact RdF.dom h b z
  ·exact RdFs.dom hs b z
end
theorem RdFs.len:∀{v:List V} {d:List Af} {F:List Addr},RdFs K H v d F->v.length=d.length
 | _,_,_,.nil=>rfl
 | _,_,_,.cons _ t=>by rw[Bl,Bl,RdFs.len t]
theorem RdFs.get:∀{v:List V} {d:List Af} {F:List Addr} {i:Nat} {e:Af},RdFs K H v d F->d[i]? = some e->∃x G,v[i]? = some x/\RdF K H x e G/\G.Sublist F
 | _,_,_,_,_,.nil,z=>by simp at z
 | _,_,_,0,_,.cons h _,z=>by
  simp at z
  subst z
  exact ⟨_,_,rfl,h,List.sublist_append_left _ _⟩
 | _,_,_,i+1,e,.cons _ t,z=>by
  obtain ⟨x,G,h1,h2,h3⟩:=RdFs.get (i:=i) (e:=e) t (by simpa using z)
  exact ⟨x,G,by simpa using h1,h2,h3.trans (Bu _ _)⟩
theorem RdFs.app:∀{v w:List V} {d e:List Af} {F G:List Addr},RdFs K H v d F->RdFs K H w e G->RdFs K H (v++w) (d++e) (F++G)
 | _,_,_,_,_,_,.nil,h=>h
 | _,_,_,_,_,_,.cons a t,h=>by
  rw[Bw]
  exact .cons a (RdFs.app t h)
theorem RdFs.snoc{v:List V}{d:List Af}{F G:List Addr}{x:V}{e:Af}(t:RdFs K H v d F)(h:RdF K H x e G):RdFs K H (v++[x]) (d++[e]) (F++G):=by
 have:=t.app (.cons h .nil)
 rw[Ec] at this
 exact this
end
mutual
def imm:Af->Bool
 | .list _=>false
 | .dict _=>false
 | .tuple xs=>Dx xs
 | _=>true
def Dx:List Af->Bool
 | []=>true
 | x::xs=>imm x && Dx xs
end
theorem tE:∀{xs:List Af},Dx xs=true↔∀x∈xs,imm x=true
 | []=>by simp [Dx]
 | x::xs=>by simp [Dx,tE (xs:=xs)]
theorem Wp{α:Type}{f:α->Af}(h:∀a,imm (f a)=true)(l:List α):Dx (l.map f)=true:=tE.mpr λx hx=>by
 obtain ⟨a,_,rfl⟩:=Dc.mp hx
 exact h a
theorem B0(ns:List Int):imm (Bf ns)=true:=by
 unfold Bf
 rw[imm]
 exact Wp (λ_=>by simp [imm]) ns
section
variable{K:PySem.W.Frag}{H H':Hp}
mutual
theorem RdF.imm:∀{v:V} {d:Af} {F:List Addr},RdF K H v d F->DL.imm d=true->F=[]
 | _,_,_,.non,_=>rfl
 | _,_,_,.bl b,_=>rfl
 | _,_,_,.int i,_=>rfl
 | _,_,_,.str x,_=>rfl
 | _,_,_,.lst h l hs,k=>by simp [DL.imm] at k
 | _,_,_,.tup h l hs,k=>RdFs.imm hs (by simpa [DL.imm] using k)
 | _,_,_,.dic h e hs,k=>by simp [DL.imm] at k
theorem RdFs.imm:∀{v:List V} {d:List Af} {F:List Addr},RdFs K H v d F->Dx d=true->F=[]
 | _,_,_,.nil,_=>rfl
 | _,_,_,.cons h hs,k=>by
  rw[Dx,Ed] at k
  rw[RdF.imm h k.1,RdFs.imm hs k.2]
  rfl
end
end
inductive Md where
 | pk | sh | tp | ow
 deriving DecidableEq
inductive DV where
 | un
 | dat (m:Md) (d:Af)
 | drw
 | dT (kvs:List (List Lc×Af))
 | val (v:V)
 | scr (ns:List Int)
 | acc (ds:List Af)
 | grd (Hc:Hp)
 | tpl (xs:List V)
structure DS where
 sl:List DV
 n:Nat
structure Ent where
 v:Option V
 x:DV
 F:List Addr
def Tf:DV->Bool
 | .dat .pk _=>true
 | _=>false
def HJ:DV->Bool
 | .drw=>true
 | _=>false
def BO:DV->Bool
 | .drw=>true
 | .acc _=>true
 | .dT _=>true
 | .grd _=>true
 | _=>false
def cells(e:Ent):List Addr:=match e.x with
 | .dat .ow _=>e.F
 | .dat .tp _=>e.F.take 1
 | .drw=>e.F
 | .dT _=>e.F
 | .acc _=>e.F.take 1
 | .grd _=>e.F
 | _=>[]
theorem Hu(e:Ent):∀a∈cells e,a∈e.F:=by
 w_pre d9
 intro a h
 cases x with
 | un=>exact nomatch h
 | val _=>exact nomatch h
 | scr _=>exact nomatch h
 | drw=>exact h
 | dT _=>exact h
 | grd _=>exact h
 | tpl _=>exact nomatch h
 | acc _=>exact (Hm _ _).subset h
 | dat m d =>
  cases m with
  | pk=>exact nomatch h
  | sh=>exact nomatch h
  | tp=>exact (Hm _ _).subset h
  | ow=>exact h
def Xr(e f:Ent):Prop:=((Tf f.x=false\/BO e.x=true)->∀a∈cells e,a∉f.F)/\((Tf e.x=false\/BO f.x=true)->∀a∈cells f,a∉e.F)
theorem Xr.symm{e f:Ent}(h:Xr e f):Xr f e:=⟨h.2,h.1⟩
def Iu(K:PySem.W.Frag)(H:Hp)(n:Nat)(e:Ent):Prop:=match e.x with
 | .un=>e.F=[]
 | .dat m d=>∃v,e.v=some v/\RdF K H v d e.F/\(m=.ow->e.F.Nodup)/\(m=.tp->∀a l,e.F=a::l->a∉l)
 | .drw=>∃dr c k f,e.v=some (.ref dr)/\e.F=[dr]/\qI H dr c k f/\0<=k/\k<=(n:Int)
 | .dT kvs=>∃a ks,e.v=some (.ref a)/\e.F=[a]/\H a=some (.dT ks)/\ks.map (·.1)=kvs.map (·.1)/\RdFs K H (ks.map (·.2)) (kvs.map (·.2)) []
 | .val v=>e.v=some v/\e.F=[]
 | .scr ns=>∃a,e.v=some (.ref a)/\e.F=[]/\KL K H a (ns.map V.int)/\ns.length<=63
 | .acc ds=>∃a xs G,e.v=some (.ref a)/\e.F=a::G/\H a=some (.lst xs)/\RdFs K H xs ds G/\ds.length<=Ay/\a∉G
 | .grd Hc=>∀a∈e.F,∃o,Hc a=some o/\H a=some o
 | .tpl xs=>∃t,e.v=some (.ref t)/\H t=some (.tup xs)/\e.F=[]
structure At(K:PySem.W.Frag)(H0:Hp)(X:Addr->Prop)(n:Nat)(E:List Ent)(H:Hp):Prop where
 ok:∀e∈E,Iu K H n e
 sep:E.Pairwise Xr
 new:∀e∈E,∀a∈cells e,H0 a=none\/(X a/\HJ e.x=true)
 same:∀b o,¬ X b->H0 b=some o->H b=some o
 dom:∀b o,H0 b=some o->∃o',H b=some o'
 xd:∀b,X b->H0 b≠none/\∃c k f,qI H b c k f/\0<=k/\k<=(n:Int)
section
variable{K:PySem.W.Frag}{H0 H H':Hp}{X:Addr->Prop}{n n':Nat}{E E' S T:List Ent}{e f:Ent}
theorem At.perm(h:At K H0 X n E H)(p:E.Perm E'):At K H0 X n E' H :=
 ⟨λe he=>h.ok e (p.mem_iff.mpr he),(p.pairwise_iff λ{a b}=>Xr.symm).mp h.sep,λe he=>h.new e (p.mem_iff.mpr he),h.same,h.dom,h.xd⟩
theorem At.sub(h:At K H0 X n E H)(p:E'.Sublist E):At K H0 X n E' H :=
 ⟨λe he=>h.ok e (p.subset he),h.sep.sublist p,λe he=>h.new e (p.subset he),h.same,h.dom,h.xd⟩
theorem At.drop(h:At K H0 X n (S++e::T) H):At K H0 X n (S++T) H:=h.sub ((Co S).append (Dm _ _))
theorem C0:(S++e::T).Perm (e::(S++T)):=Eb
theorem At.mid(h:At K H0 X n (S++e::T) H):At K H0 X n (e::(S++T)) H:=h.perm C0
theorem At.tomid(h:At K H0 X n (e::(S++T)) H):At K H0 X n (S++e::T) H:=h.perm C0.symm
theorem Iu.dom(h:Iu K H n e):∀a∈e.F,∃o,H a=some o:=by
 w_pre d9
 intro a ha
 cases x with
 | un=>rw[show F=[] from h] at ha; cases ha
 | val _=>rw[show F=[] from h.2] at ha; cases ha
 | scr _ =>
  obtain ⟨_,_,hF,_⟩:=h
  rw[show F=[] from hF] at ha; cases ha
 | dat m d =>
  obtain ⟨w,_,h,_⟩:=h
  obtain ⟨xs,z⟩:=h.dom a ha
  exact ⟨_,z⟩
 | drw =>
  obtain ⟨dr,c,k,f,_,hF,h,_⟩:=h
  rw[show F=[dr] from hF] at ha
  rw[Al.mp ha]
  exact ⟨_,h⟩
 | grd Hc =>
  obtain ⟨o,_,z⟩:=h a ha
  exact ⟨o,z⟩
 | tpl xs =>
  obtain ⟨_,_,_,hF⟩:=h
  rw[show F=[] from hF] at ha; cases ha
 | dT kvs =>
  obtain ⟨b,ks,_,hF,h,_⟩:=h
  rw[show F=[b] from hF] at ha
  rw[Al.mp ha]
  exact ⟨_,h⟩
 | acc ds =>
  obtain ⟨b,ks,G,_,hF,h,hr,_⟩:=h
  rw[show F=b::G from hF] at ha
  rcases Ak.mp ha with rfl | ha
  ·exact ⟨_,h⟩
  ·obtain ⟨xs,z⟩:=hr.dom a ha
   exact ⟨_,z⟩
theorem Iu.kp(h:Iu K H n e)(k:Kp e.F H H')(hn:n<=n'):Iu K H' n' e:=by
 w_pre d9
 cases x with
 | un=>exact h
 | val _=>exact h
 | scr _ =>
  obtain ⟨a,h1,h2,h3,h4⟩:=h
  exact ⟨a,h1,h2,h3.kp k,h4⟩
 | dat m d =>
  obtain ⟨w,h1,h2,h3⟩:=h
  exact ⟨w,h1,h2.kp k,h3⟩
 | drw =>
  obtain ⟨dr,c,kk,f,h1,hF,h2,h3,h4⟩:=h
  have hF':F=[dr]:=hF
  subst hF'
  exact ⟨dr,c,kk,f,h1,rfl,k _ _ h2 (.inl Ab),h3,by omega⟩
 | tpl xs =>
  obtain ⟨t,h1,h2,h3⟩:=h
  exact ⟨t,h1,k _ _ h2 (.inr (.inl ⟨_,rfl⟩)),h3⟩
 | grd Hc =>
  intro a ha
  obtain ⟨o,h1,h2⟩:=h a ha
  exact ⟨o,h1,k _ _ h2 (.inl ha)⟩
 | dT kvs =>
  obtain ⟨b,ks,h1,hF,h2,h3,h4⟩:=h
  have hF':F=[b]:=hF
  subst hF'
  exact ⟨b,ks,h1,rfl,k _ _ h2 (.inl Ab),h3,h4.kp (k.sub λ_ z=>nomatch z)⟩
 | acc ds =>
  obtain ⟨b,ks,G,h1,hF,h2,h3,h4⟩:=h
  have hF':F=b::G:=hF
  subst hF'
  exact ⟨b,ks,G,h1,rfl,k _ _ h2 (.inl Ab),h3.kp (k.sub λ_ z=>Ac _ z),h4⟩
theorem At.grow(h:At K H0 X n E H)(s:Th H H')(hn:n<=n'):At K H0 X n' E H' :=
 ⟨λe he=>(h.ok e he).kp (Kp.of s) hn,h.sep,h.new,λb o nx e=>s _ _ (h.same b o nx e),λb o e=>let ⟨o',q⟩:=h.dom b o e; ⟨o',s _ _ q⟩,λb hb=>let ⟨z,c,k,f,h1,h2,h3⟩:=h.xd b hb; ⟨z,c,k,f,s _ _ h1,h2,by omega⟩⟩
theorem At.free(h:At K H0 X n E H){a:Addr}(ha:H a=none):∀e∈E,a∉e.F:=λe he z=>by
 obtain ⟨o,q⟩:=(h.ok e he).dom a z
 rw[ha] at q; cases q
theorem At.push(h:At K H0 X n E H)(ok:Iu K H n e)(sep:∀f∈E,Xr e f)(new:∀a∈cells e,H0 a=none\/(X a/\HJ e.x=true)):At K H0 X n (e::E) H :=
 ⟨λg hg=>by
  rcases Ak.mp hg with rfl | hg
  ·exact ok
  ·exact h.ok g hg,Bd.mpr ⟨sep,h.sep⟩,λg hg=>by
  rcases Ak.mp hg with rfl | hg
  ·exact new
  ·exact h.new g hg,h.same,h.dom,h.xd⟩
theorem At.new0(h:At K H0 X n E H){p:Addr}(hp:H p=none):H0 p=none:=by
 cases q:H0 p with
 | none=>rfl
 | some o =>
  obtain ⟨o',z⟩:=h.dom p o q
  rw[hp] at z; cases z
theorem O9{v:Option V}{m:Md}{d:Af}:Xr ⟨v,.dat m d,[]⟩ f:=by
 refine ⟨λ_ a ha=>?_,λ_ a _=>Az⟩
 have:=Hu _ a ha
 cases this
theorem At.pushI(h:At K H0 X n (S++T) H){v:V}{m:Md}{d:Af}(r:RdF K H v d []):At K H0 X n (S++⟨some v,.dat m d,[]⟩::T) H :=
 (h.push (e:=⟨some v,.dat m d,[]⟩) ⟨v,rfl,r,λ_=>Ep,λ_ a l z=>nomatch z⟩ (λf _=>O9) (λa ha=>nomatch Hu _ a ha)).tomid
def wk:Md->Md->Bool
 | _,.pk=>true
 | .pk,_=>false
 | _,.sh=>true
 | .sh,_=>false
 | _,.tp=>true
 | .tp,.ow=>false
 | .ow,.ow=>true
theorem oZ{v:Option V}{m m':Md}{d:Af}{F:List Addr}(w:wk m m'=true):∀a∈cells ⟨v,.dat m' d,F⟩,a∈cells ⟨v,.dat m d,F⟩:=by
 intro a ha
 cases m <;> cases m' <;> first | exact absurd w (by decide) | exact ha | exact absurd ha Az | exact (Hm 1 F).subset ha
theorem yL{α:Type}{F:List α}(h:F.Nodup):∀a l,F=a::l->a∉l:=λa l e=>by
 subst e
 exact (Cm.mp h).1
theorem Iu.wk{v:Option V}{m m':Md}{d:Af}{F:List Addr}(w:wk m m'=true)(h:Iu K H n ⟨v,.dat m d,F⟩):Iu K H n ⟨v,.dat m' d,F⟩:=by
 obtain ⟨u,h1,h2,h3,h4⟩:=h
 refine ⟨u,h1,h2,λe=>?_,λe=>?_⟩
 ·subst e
  cases m <;> first | exact absurd w (by decide) | exact h3 rfl
 ·subst e
  cases m <;> first | exact absurd w (by decide) | exact h4 rfl | exact yL (h3 rfl)
theorem Xr.wk{v:Option V}{m m':Md}{d:Af}{F:List Addr}(w:wk m m'=true)(h:Xr ⟨v,.dat m d,F⟩ f):Xr ⟨v,.dat m' d,F⟩ f:=by
 refine ⟨λhp a ha=>?_,λhp a ha=>?_⟩
 ·rcases hp with hp | hp
  ·exact h.1 (.inl hp) a (oZ w a ha)
  ·cases hp
 ·rcases hp with hp | hp
  ·refine h.2 (.inl ?_) a ha
   cases m <;> cases m' <;> first | rfl | exact absurd w (by decide) | exact absurd hp (by show ¬ (true=false); decide)
  ·exact h.2 (.inr hp) a ha
theorem At.wk{v:Option V}{m m':Md}{d:Af}{F:List Addr}(w:wk m m'=true)(h:At K H0 X n (⟨v,.dat m d,F⟩::E) H):At K H0 X n (⟨v,.dat m' d,F⟩::E) H:=by
 have hs:=Bd.mp h.sep
 refine (h.sub (Dm _ _)).push ((h.ok _ Ab).wk w) (λf hf=>(hs.1 f hf).wk w) λa ha=>?_
 rcases h.new _ Ab a (oZ w a ha) with z | z
 w_pre n5
end
abbrev DE:=DS->(DV->DS->Prop)->Prop
abbrev DT:=DS->(Bool->DS->Prop)->Prop
abbrev DA:=DS->(List DV->DS->Prop)->Prop
structure DEnds where
 nx:DS->Prop
 rt:DV->DS->Prop
 bk:DS->Prop:=λ_=>False
 ct:DS->Prop:=λ_=>False
abbrev DB:=DEnds->DS->Prop
abbrev DG:=DV->DS->(DS->Prop)->Prop
abbrev K9:=List DV->DS->(DS->Prop)->Prop
def vs(S:List Ent):L2.St:=S.map Ent.v
def Sl(S:List Ent)(δ:DS):Prop:=S.map Ent.x=δ.sl
section
variable(K:PySem.W.Frag)
def LE(de:DE):TE:=λσ H Q=>∃(H0:Hp) (X:Addr->Prop) (S T:List Ent) (δ:DS) (P:DV->DS->Prop),vs S=σ/\Sl S δ/\At K H0 X δ.n (S++T) H/\de δ P /\
 ∀x δ' v F S' H',vs S'=σ->Sl S' δ'->At K H0 X δ'.n (S'++⟨some v,x,F⟩::T) H'->P x δ'->Q v H'
def LT(dt:DT):TT:=λσ H Q=>∃(H0:Hp) (X:Addr->Prop) (S T:List Ent) (δ:DS) (P:Bool->DS->Prop),vs S=σ/\Sl S δ/\At K H0 X δ.n (S++T) H/\dt δ P /\
 ∀b δ' S' H',vs S'=σ->Sl S' δ'->At K H0 X δ'.n (S'++T) H'->P b δ'->Q b H'
def LA(da:DA):TA:=λσ H Q=>∃(H0:Hp) (X:Addr->Prop) (S T:List Ent) (δ:DS) (P:List DV->DS->Prop),vs S=σ/\Sl S δ/\At K H0 X δ.n (S++T) H/\da δ P /\
 ∀xs δ' As us S' H',vs S'=σ->Sl S' δ'->As.map Ent.x=xs->As.map Ent.v=us.map some->At K H0 X δ'.n (S'++(As++T)) H'->P xs δ'->Q us H'
def LS(db:DB):TS:=λD σ H=>∃(H0:Hp) (X:Addr->Prop) (S T:List Ent) (δ:DS) (P:DEnds),vs S=σ/\Sl S δ/\(∀e∈T,Tf e.x=false)/\At K H0 X δ.n (S++T) H/\db P δ /\
 (∀δ' S' H',Sl S' δ'->At K H0 X δ'.n (S'++T) H'->P.nx δ'->D.nx (vs S') H') /\
 (∀x δ' v F S' H',Sl S' δ'->At K H0 X δ'.n (S'++⟨some v,x,F⟩::T) H'->P.rt x δ'->D.rt v H') /\
 (∀δ' S' H',Sl S' δ'->At K H0 X δ'.n (S'++T) H'->P.bk δ'->D.bk (vs S') H') /\
 (∀δ' S' H',Sl S' δ'->At K H0 X δ'.n (S'++T) H'->P.ct δ'->D.ct (vs S') H')
def LG(dg:DG):TG:=λv σ H Q=>∃(H0:Hp) (X:Addr->Prop) (S T:List Ent) (δ:DS) (x:DV) (F:List Addr) (P:DS->Prop),vs S=σ/\Sl S δ/\At K H0 X δ.n (S++⟨some v,x,F⟩::T) H/\dg x δ P /\
 ∀δ' S' H',Sl S' δ'->At K H0 X δ'.n (S'++T) H'->P δ'->Q (vs S') H'
def LY(dg:K9):U2:=λus σ H Q=>∃(H0:Hp) (X:Addr->Prop) (S T As:List Ent) (δ:DS) (P:DS->Prop),vs S=σ/\Sl S δ/\As.map Ent.v=us.map some/\At K H0 X δ.n (S++(As++T)) H/\dg (As.map Ent.x) δ P /\
 ∀δ' S' H',Sl S' δ'->At K H0 X δ'.n (S'++T) H'->P δ'->Q (vs S') H'
end
abbrev Gr(X:Cx)(e:Expr)(de:DE):Prop:=PE X e (LE X.K de)
abbrev oR(X:Cx)(e:Expr)(dt:DT):Prop:=PT X e (LT X.K dt)
abbrev DX(X:Cx)(e:Expr)(dt:DT):Prop:=PW X e (LT X.K dt)
abbrev mB(X:Cx)(es:List Expr)(da:DA):Prop:=PA X es (LA X.K da)
abbrev zG(X:Cx)(st:Stmt)(db:DB):Prop:=PS X st (LS X.K db)
abbrev dO(X:Cx)(st:List Stmt)(db:DB):Prop:=vW X st (LS X.K db)
abbrev IR(X:Cx)(tg:Expr)(dg:DG):Prop:=PG X tg (LG X.K dg)
abbrev R7(X:Cx)(tg:List Expr)(dg:K9):Prop:=AZ X tg (LY X.K dg)
theorem PE.imp{X:Cx}{e:Expr}{t t':TE}(h:PE X e t)(k:∀σ H Q,t' σ H Q->t σ H Q):PE X e t':=λpins s σ H Q I q=>h pins s σ H Q I (k σ H Q q)
theorem PT.imp{X:Cx}{e:Expr}{t t':TT}(h:PT X e t)(k:∀σ H Q,t' σ H Q->t σ H Q):PT X e t':=λpins s σ H Q I q=>h pins s σ H Q I (k σ H Q q)
theorem PW.imp{X:Cx}{e:Expr}{t t':TT}(h:PW X e t)(k:∀σ H Q,t' σ H Q->t σ H Q):PW X e t':=λwh pins s σ H Q I q=>h wh pins s σ H Q I (k σ H Q q)
theorem PA.imp{X:Cx}{e:List Expr}{t t':TA}(h:PA X e t)(k:∀σ H Q,t' σ H Q->t σ H Q):PA X e t':=λpos pins s σ H Q I q=>h pos pins s σ H Q I (k σ H Q q)
theorem PG.imp{X:Cx}{e:Expr}{t t':TG}(h:PG X e t)(k:∀v σ H Q,t' v σ H Q->t v σ H Q):PG X e t':=λpins s σ H v u Q I r q=>h pins s σ H v u Q I r (k v σ H Q q)
theorem AZ.imp{X:Cx}{e:List Expr}{t t':U2}(h:AZ X e t)(k:∀v σ H Q,t' v σ H Q->t v σ H Q):AZ X e t':=λpins s σ H v u Q I r q=>h pins s σ H v u Q I r (k v σ H Q q)
section
variable{K:PySem.W.Frag}{H:Hp}{v:V}{F:List Addr}
theorem RdF.int_inv{i:Int}(h:RdF K H v (.int i) F):v=.int i/\F=[]:=by cases h; exact ⟨rfl,rfl⟩
theorem RdF.bl_inv{i:Bool}(h:RdF K H v (.bool i) F):v=.bl i/\F=[]:=by cases h; exact ⟨rfl,rfl⟩
theorem RdF.str_inv{i:Str}(h:RdF K H v (.str i) F):v=.str i/\F=[]:=by cases h; exact ⟨rfl,rfl⟩
theorem RdF.list_inv{ds:List Af}(h:RdF K H v (.list ds) F):∃a xs G,v=.ref a/\H a=some (.lst xs)/\RdFs K H xs ds G/\F=a::G/\ds.length<=Ay:=by
 cases h with
 | lst h l hs=>exact ⟨_,_,_,rfl,h,hs,rfl,l⟩
theorem RdF.tup_inv{ds:List Af}(h:RdF K H v (.tuple ds) F):∃a xs,v=.ref a/\H a=some (.tup xs)/\RdFs K H xs ds F/\ds.length<=Ay:=by
 cases h with
 | tup h l hs=>exact ⟨_,_,rfl,h,hs,l⟩
end
section
variable{K:PySem.W.Frag}{H0 H H':Hp}{X:Addr->Prop}{n:Nat}{E S T:List Ent}{v:V}{m:Md}{d:Af}{F:List Addr}
theorem At.told(h:At K H0 X n E H)(he:⟨some v,.dat m d,F⟩∈E):RdF K H v d F:=by
 obtain ⟨w,e1,h1,_⟩:=h.ok _ he
 cases e1
 exact h1
theorem mem_mid{e:Ent}:e∈S++e::T:=Ah _ Ab
theorem Gb{e f:Ent}:f∈S++e::f::T:=Ah _ (Ac _ Ab)
theorem At.drop2{e f:Ent}(h:At K H0 X n (S++e::f::T) H):At K H0 X n (S++T) H:=h.drop.drop
theorem At.dropL{As:List Ent}(h:At K H0 X n (S++(As++T)) H):At K H0 X n (S++T) H:=h.sub ((Co S).append (Bu As T))
end
def kK:Md->Md
 | .ow=>.pk
 | .tp=>.pk
 | m=>m
def EE(i:Nat):DE:=λδ P=>match δ.sl[i]? with
 | some (.dat m d)=>P (.dat (kK m) d) δ
 | _=>False
def dC(d:Af):DE:=λδ P=>P (.dat .ow d) δ
theorem Nm{S:List Ent}{δ:DS}{i:Nat}{x:DV}(h:Sl S δ)(e:δ.sl[i]? = some x):∃ent,S[i]? = some ent/\ent.x=x:=by
 unfold Sl at h
 rw[<- h,Bg] at e
 cases q:S[i]? with
 | none=>rw[q] at e; cases e
 | some ent=>rw[q] at e; exact ⟨ent,rfl,Ca e⟩
theorem Tb{S:List Ent}{i:Nat}{e:Ent}(h:S[i]? = some e):(vs S)[i]? = some e.v:=by
 unfold vs
 rw[Bg,h]
 rfl
theorem At.look{K:PySem.W.Frag}{H0 H:Hp}{X:Addr->Prop}{n:Nat}{S T:List Ent}{u:Option V}{v:V}{m:Md}{d:Af}{F:List Addr}(h:At K H0 X n (S++T) H)(he:⟨u,.dat m d,F⟩∈S)(hu:u=some v):At K H0 X n (S++⟨some v,.dat (kK m) d,F⟩::T) H:=by
 subst hu
 obtain ⟨S1,S2,rfl⟩:=List.append_of_mem he
 have hp:((S1++⟨some v,.dat m d,F⟩::S2)++T).Perm (⟨some v,.dat m d,F⟩::(S1++(S2++T))):=by
  rw[Bw,Fn]
  exact Eb
 have h2:=h.perm hp
 have hs:=Bd.mp h2.sep
 refine (h.push (e:=⟨some v,.dat (kK m) d,F⟩) ?_ (λf hf=>?_) λa ha=>?_).tomid
 ·obtain ⟨w,e1,h1,_⟩:=h2.ok _ Ab
  refine ⟨w,e1,h1,λz=>?_,λz=>?_⟩ <;> cases m <;> cases z
 ·refine ⟨λ_ a ha=>?_,λhq a ha=>?_⟩
  ·cases m <;> exact nomatch ha
  ·rcases Ak.mp (hp.mem_iff.mp hf) with rfl | hf
   w_pre d3
   ·refine (hs.1 f hf).2 ?_ a ha
    w_pre g1
 ·cases m <;> exact nomatch ha
section
variable{X:Cx}{e:Expr}
theorem Aq{i:Nat}(h:PE X e (kH i)):Gr X e (EE i):=by
 w_pre r4
 unfold EE at hd
 w_pre w7
 ·rename_i m d e1
  w_pre x1
  obtain ⟨v,hv,_⟩:=hA.ok _ (Ao _ hm)
  refine ⟨v,by rw[Tb e2]; exact congrArg some hv,k _ δ v F S H rfl hS (hA.look hm hv) hd⟩
 w_pre v7
theorem rP{v:V}{d:Af}(h:PE X e (tC v))(r:∀H,RdF X.K H v d []):Gr X e (dC d):=by
 w_pre r4
 exact k _ δ v [] S H rfl hS (hA.pushI (r H)) hd
theorem Dn{i j pos}:Gr X (.Constant (.int i) j pos) (dC (.int i)):=rP Gm λ_=>.int i
theorem Xz{i j pos}:Gr X (.Constant (.bool i) j pos) (dC (.bool i)):=rP C4 λ_=>.bl i
theorem jG{i j pos}:Gr X (.Constant (.str i) j pos) (dC (.str i)):=rP AO λ_=>.str i
end
def FM(de:DE):DE:=λδ P=>de δ λx δ'=>match x with
 | .dat _ d=>imm d=true/\P (.dat .ow d) δ'
 | _=>False
theorem Ud{X:Cx}{e:Expr}{de:DE}(h:Gr X e de):Gr X e (FM de):=by
 refine PE.imp h λσ H Q h=>?_
 w_pre p4
 cases x with
 | dat m d =>
  have r:=hA'.told mem_mid
  obtain rfl:=r.imm p.1
  exact k _ δ' v [] S' H' e1 e2 (hA'.drop.pushI r) p.2
 | _=>exact p.elim
def E9(i:Nat):DE:=λδ P=>match δ.sl[i]? with
 | some (.dat m d)=>P (.dat m d) ⟨δ.sl.set i .un,δ.n⟩
 | _=>False
theorem cU{α:Type}:∀{l:List α} {i:Nat} {x y:α},l[i]? = some x->(y::l).Perm (x::l.set i y)
 | [],i,x,y,h=>by simp at h
 | z::l,0,x,y,h=>by
  simp at h
  subst h
  exact Ek _ _ _
 | z::l,i+1,x,y,h=>by
  have ih:=cU (l:=l) (i:=i) (x:=x) (y:=y) (by simpa using h)
  rw[List.set_cons_succ]
  exact (Ek z y l).trans ((ih.cons z).trans (Ek x z _))
theorem bV{X:Cx}{e:Expr}{i:Nat}(h:PE X e (kH i)):Gr X e (E9 i):=by
 w_pre r4
 unfold E9 at hd
 w_pre w7
 ·rename_i m d e1
  w_pre x1
  obtain ⟨v,hv,hv2⟩:=hA.ok _ (Ao _ hm)
  have hv':u=some v:=hv
  subst hv'
  refine ⟨v,by rw[Tb e2],k _ _ v F (S.set i ⟨some v,.un,[]⟩) H ?_ ?_ ?_ hd⟩
  w_pre g
  ·have hp:=hA.push (e:=⟨some v,.un,[]⟩) (show Iu X.K H δ.n ⟨some v,.un,[]⟩ from rfl) (λf _=>⟨λ_ a ha=>(nomatch ha),λ_ a _=>Az⟩) (λa ha=>(nomatch ha))
   have p1:(⟨some v,.un,[]⟩::(S++T)).Perm ((S.set i ⟨some v,.un,[]⟩)++⟨some v,.dat m d,F⟩::T):=by
    rw[<- Fn]
    exact ((cU (y:=(⟨some v,.un,[]⟩ : Ent)) e2).append_right T).trans (by rw[Fn]; exact List.perm_middle.symm)
   exact hp.perm p1
 w_pre v7
abbrev D2:=DV->DV->(DV->Prop)->Prop
def sI(K:PySem.W.Frag)(r:R2)(rd:D2):Prop:=∀(H0:Hp) (X:Addr->Prop) (n:Nat) (S T:List Ent) (x y:DV) (v w:V) (F G:List Addr) (H:Hp) (Q:VK) (P:DV->Prop),
 At K H0 X n (S++⟨some w,y,G⟩::⟨some v,x,F⟩::T) H->rd x y P->(∀z u F' H',At K H0 X n (S++⟨some u,z,F'⟩::T) H'->P z->Q u H')->r v w H Q
def cQ(rd:D2)(da db:DE):DE:=λδ P=>da δ λx δ1=>db δ1 λy δ2=>rd x y λz=>P z δ2
theorem iU{K:PySem.W.Frag}{r:R2}{rd:D2}{da db:DE}(o:sI K r rd):∀σ H Q,LE K (cQ rd da db) σ H Q->IH r (LE K da) (LE K db) σ H Q:=by
 intro σ H Q h
 w_pre o4
 refine ⟨H0,Y,S1,⟨some v,x,F⟩::T,δ1,_,e1,e2,hA1,p1,λy δ2 w G S2 H2 e3 e4 hA2 p2=>?_⟩
 exact o H0 Y δ2.n S2 T x y v w F G H2 Q _ hA2 p2 λz u F' H' hA3 p3=>k z δ2 u F' S2 H' e3 e4 hA3 p3
section
variable{X:Cx}{a b:Expr}{da db:DE}{pos:Pos}{r:R2}{rd:D2}
theorem aV{op:Operator}(ho:Ze X (Jp op) r)(o:sI X.K r rd)(ha:Gr X a da)(hb:Gr X b db):Gr X (.BinOp a op b pos) (cQ rd da db):=PE.imp (Ka ho ha hb) (iU o)
theorem u6{op:CmpOp}(ho:Ze X (Jl op) r)(o:sI X.K r rd)(ha:Gr X a da)(hb:Gr X b db)(hm:Gy op b=false):Gr X (.Compare a [op] [b] pos) (cQ rd da db):=PE.imp (T4 ho ha hb hm) (iU o)
theorem FU(ho:M6 X r)(o:sI X.K r rd)(ha:Gr X a da)(hb:Gr X b db)(hs:kE b):Gr X (.Subscript a b pos) (cQ rd da db):=PE.imp (eQ ho ha hb hs) (iU o)
end
def EM(C:Int->Int->Prop)(g:Int->Int->Af):D2:=λx y P=>match x,y with
 | .dat _ (.int i),.dat _ (.int j)=>C i j/\P (.dat .ow (g i j))
 | _,_=>False
def xC(g:Int->Int->Af):D2:=λx y P=>match x,y with
 | .dat _ (.int i),.dat _ (.int j)=>P (.dat .ow (g i j))
 | _,_=>False
section
variable{K:PySem.W.Frag}
theorem AU{C:Int->Int->Prop}{g:Int->Int->V}{g':Int->Int->Af}(h:∀i j H,RdF K H (g i j) (g' i j) []):sI K (rI C g) (EM C g'):=by
 w_pre u7
 unfold EM at hd
 w_pre w7
 ·obtain ⟨rfl,_⟩:=(hA.told Gb).int_inv
  w_pre d8
  exact ⟨_,_,rfl,rfl,hd.1,k _ _ [] H (hA.drop2.pushI (h _ _ H)) hd.2⟩
 w_pre v7
theorem zY{g:Int->Int->V}{g':Int->Int->Af}(h:∀i j H,RdF K H (g i j) (g' i j) []):sI K (W3 g) (xC g'):=by
 w_pre u7
 unfold xC at hd
 w_pre w7
 ·obtain ⟨rfl,_⟩:=(hA.told Gb).int_inv
  w_pre d8
  exact ⟨_,_,rfl,rfl,k _ _ [] H (hA.drop2.pushI (h _ _ H)) hd⟩
 w_pre v7
end
abbrev rdAdd:D2:=xC λi j=>.int (i+j)
abbrev rdSub:D2:=xC λi j=>.int (i - j)
abbrev rdMul:D2:=EM N0 λi j=>.int (i * j)
abbrev rdDiv:D2:=EM CM λi j=>.int (i / j)
abbrev rdMod:D2:=EM (λ_ j=>0<j) λi j=>.int (i % j)
abbrev rdLt:D2:=xC λi j=>.bool (decide (i<j))
section
variable{X:Cx}{a b:Expr}{da db:DE}{pos:Pos}
theorem Uq(ha:Gr X a da)(hb:Gr X b db):Gr X (.BinOp a .Add b pos) (cQ rdAdd da db):=aV eT (zY λ_ _ _=>.int _) ha hb
theorem AX(ha:Gr X a da)(hb:Gr X b db):Gr X (.BinOp a .Sub b pos) (cQ rdSub da db):=aV EC (zY λ_ _ _=>.int _) ha hb
theorem AB(ha:Gr X a da)(hb:Gr X b db):Gr X (.BinOp a .Mult b pos) (cQ rdMul da db):=aV Zo (AU λ_ _ _=>.int _) ha hb
theorem Wz(ha:Gr X a da)(hb:Gr X b db):Gr X (.BinOp a .FloorDiv b pos) (cQ rdDiv da db):=aV jS (AU λ_ _ _=>.int _) ha hb
theorem Nf(ha:Gr X a da)(hb:Gr X b db):Gr X (.BinOp a .Mod b pos) (cQ rdMod da db):=aV Xb (AU λ_ _ _=>.int _) ha hb
end
def jX(ne:Bool):D2:=λx y P=>match x,y with
 | .dat _ d,.dat _ e=>d.depth<=60/\e.depth<=60/\P (.dat .ow (.bool (match ne with | true=>!Em d e | false=>Em d e)))
 | _,_=>False
def rN(ne:Bool):D2:=λx y P=>match x,y with
 | .dat _ d,.dat _ (.list es)=>Br es<=60/\d.depth<=60/\P (.dat .ow (.bool (match ne with | true=>!(es.any λe=>Em e d) | false=>es.any λe=>Em e d)))
 | .dat _ d,.dat _ (.tuple es)=>Br es<=60/\d.depth<=60/\P (.dat .ow (.bool (match ne with | true=>!(es.any λe=>Em e d) | false=>es.any λe=>Em e d)))
 | _,_=>False
section
variable{K:PySem.W.Frag}
theorem X5:sI K (HR K) (jX false):=by
 w_pre n0
theorem EW:sI K (FX K) (jX true):=by
 w_pre n0
theorem zP{ne:Bool}:sI K (AK K ne) (rN ne):=by
 w_pre u7
 unfold rN at hd
 w_pre w7
 ·obtain ⟨a,xs,G',rfl,hq,hs,_,_⟩:=(hA.told mem_mid).list_inv
  refine ⟨a,xs,_,_,rfl,.inl (Mp.of hq),(hA.told Gb).rd (Cb hd.2.1 (by decide)),hs.rd (Cb hd.1 (by decide)),hd.1,?_⟩
  w_pre t2
 ·obtain ⟨a,xs,rfl,hq,hs,_⟩:=(hA.told mem_mid).tup_inv
  refine ⟨a,xs,_,_,rfl,.inr (Rq.of hq),(hA.told Gb).rd (Cb hd.2.1 (by decide)),hs.rd (Cb hd.1 (by decide)),hd.1,?_⟩
  w_pre t2
 w_pre v7
end
section
variable{X:Cx}{a b:Expr}{da db:DE}{pos:Pos}
theorem aT(hu:X.A.units+64<cLine)(ha:Gr X a da)(hb:Gr X b db):Gr X (.Compare a [.Eq] [b] pos) (cQ (jX false) da db):=u6 (r6 hu) X5 ha hb (eG _)
theorem GX(hu:X.A.units+64<cLine)(ha:Gr X a da)(hb:Gr X b db)(hm:Gy .In b=false:=by with_unfolding_all rfl):Gr X (.Compare a [.In] [b] pos) (cQ (rN false) da db):=u6 (x8 hu) zP ha hb hm
end
def Qc:Md->Md
 | .ow=>.ow
 | .tp=>.sh
 | m=>m
theorem At.part{K:PySem.W.Frag}{H0 H:Hp}{X:Addr->Prop}{n:Nat}{S T:List Ent}{v w:V}{m:Md}{d e:Af}{F G:List Addr}(h:At K H0 X n (S++⟨some v,.dat m d,F⟩::T) H)(r:RdF K H w e G)(hG:G.Sublist F):At K H0 X n (S++⟨some w,.dat (Qc m) e,G⟩::T) H:=by
 have h2:=h.mid
 have hs:=Bd.mp h2.sep
 obtain ⟨v',e1,h1,hn,ht⟩:=h2.ok _ Ab
 have cs:∀a∈cells ⟨some w,.dat (Qc m) e,G⟩,a∈cells ⟨some v,.dat m d,F⟩:=λa ha=>by
  cases m with
  | ow=>exact hG.subset ha
  | tp=>exact nomatch ha
  | sh=>exact nomatch ha
  | pk=>exact nomatch ha
 refine (h.drop.push (e:=⟨some w,.dat (Qc m) e,G⟩) ⟨w,rfl,r,λz=>?_,λz=>?_⟩ (λf hf=>?_) λa ha=>?_).tomid
 ·cases m with
  | ow=>exact (hn rfl).sublist hG
  | _=>cases z
 ·cases m <;> cases z
 ·refine ⟨λhp a ha=>(hs.1 f hf).1 ?_ a (cs a ha),λhp a ha z=>(hs.1 f hf).2 ?_ a ha (hG.subset z)⟩
  w_pre e4
  ·rcases hp with hp | hp
   ·refine .inl ?_
    cases m <;> first | rfl | exact hp
   ·exact .inr hp
 ·rcases h2.new _ Ab a (cs a ha) with z | z
  w_pre n5
def zI:D2:=λx y P=>match x,y with
 | .dat m (.list ds),.dat _ (.int i)=>∃d,Wq ds i=some d/\P (.dat (Qc m) d)
 | .dat m (.tuple ds),.dat _ (.int i)=>∃d,Wq ds i=some d/\P (.dat (Qc m) d)
 | .dat _ (.str z),.dat _ (.int i)=>z.length<=Ay/\∃c,Wq z.cps.toList i=some c/\P (.dat .ow (.str ⟨#[c]⟩))
 | _,_=>False
theorem C1{K:PySem.W.Frag}{H:Hp}{xs:List V}{ds:List Af}{F:List Addr}{i:Int}{d:Af}(r:RdFs K H xs ds F)(h:Wq ds i=some d):∃x G,Wq xs i=some x/\RdF K H x d G/\G.Sublist F:=by
 unfold Wq at h ⊢
 rw[r.len]
 cases e:K8 ds.length i with
 | none=>rw[e] at h; cases h
 | some j =>
  rw[e] at h
  exact r.get h
theorem At.swap{K:PySem.W.Frag}{H0 H:Hp}{X:Addr->Prop}{n:Nat}{S T:List Ent}{e f:Ent}(h:At K H0 X n (S++e::f::T) H):At K H0 X n (S++f::e::T) H:=h.perm ((Gi S).append (Ek f e T))
theorem GW{K:PySem.W.Frag}:sI K (KR K) zI:=by
 w_pre u7
 unfold zI at hd
 w_pre w7
 ·obtain ⟨d,hi,p⟩:=hd
  w_pre i3
  obtain ⟨a,xs,G0,rfl,hq,hs,hG,_⟩:=r.list_inv
  obtain ⟨x,G',h1,h2,h3⟩:=C1 hs hi
  subst hG
  exact .inl ⟨_,_,_,_,rfl,rfl,Mp.of hq,h1,k _ _ G' H (hA'.part h2 (h3.trans (Dm _ _))) p⟩
 ·obtain ⟨d,hi,p⟩:=hd
  w_pre i3
  obtain ⟨a,xs,rfl,hq,hs,_⟩:=r.tup_inv
  obtain ⟨x,G',h1,h2,h3⟩:=C1 hs hi
  exact .inr (.inl ⟨_,_,_,_,rfl,rfl,Rq.of hq,h1,k _ _ G' H (hA'.part h2 h3) p⟩)
 ·obtain ⟨hz,c,hi,p⟩:=hd
  w_pre d8
  obtain ⟨rfl,_⟩:=(hA.told Gb).str_inv
  exact .inr (.inr ⟨_,_,_,rfl,rfl,hz,hi,k _ _ [] H (hA.drop2.pushI (.str _)) p⟩)
 w_pre v7
theorem Mj{X:Cx}{a b:Expr}{da db:DE}{pos:Pos}(ha:Gr X a da)(hb:Gr X b db)(hs:kE b:=by intro _ _; rfl):Gr X (.Subscript a b pos) (cQ zI da db):=FU BM GW ha hb hs
def vX:Md->Md
 | .ow=>.ow
 | .pk=>.pk
 | _=>.tp
def aU(i:Bool)(m:Md)(ds:List Af)(P:DV->Prop):Prop:=match i with
 | true=>Dx ds=true/\P (.dat .ow (.list ds))
 | false=>P (.dat (vX m) (.list ds))
def gJ(i:Bool)(m:Md)(ds:List Af)(P:DV->Prop):Prop:=match i with
 | true=>Dx ds=true/\P (.dat .ow (.tuple ds))
 | false=>P (.dat (Qc m) (.tuple ds))
section
variable{K:PySem.W.Frag}{H0 H:Hp}{X:Addr->Prop}{n:Nat}{S T:List Ent}{v w:V}{m:Md}{d e:Af}{F G:List Addr}{p:Addr}{xs:List V}{ds:List Af}{P:DV->Prop}{i:Bool}
theorem At.newI(h:At K H0 X n (S++T) H)(r:RdFs K H xs ds G)(hi:Dx ds=true)(hz:ds.length<=Ay)(hp:H p=none)(m:Md):At K H0 X n (S++⟨some (.ref p),.dat m (.list ds),[p]⟩::T) (upd H p (.lst xs)):=by
 obtain rfl:=r.imm hi
 have s1:=Fg hp (.lst xs)
 have h1:=h.grow (n':=n) s1 (Aj _)
 refine (h1.push (e:=⟨some (.ref p),.dat m (.list ds),[p]⟩) ⟨_,rfl,.lst Du hz (r.kp (Kp.of s1)),λ_=>Cm.mpr ⟨Az,Ep⟩,λ_ a l z=>by cases z; exact Az⟩ (λf hf=>?_) λa ha=>?_).tomid
 ·have nf:=h.free hp f hf
  refine ⟨λ_ a ha z=>?_,λ_ a ha z=>?_⟩
  ·have:=Hu _ a ha
   rw[Al.mp this] at z
   exact nf z
  ·rw[Al.mp z] at ha
   exact nf (Hu _ _ ha)
 ·have:=Hu _ a ha
  rw[Al.mp this]
  exact .inl (h.new0 hp)
theorem At.newL(h:At K H0 X n (S++⟨some v,.dat m d,F⟩::T) H)(r:RdFs K H xs ds G)(hG:G.Sublist F)(hz:ds.length<=Ay)(hp:H p=none)(q:aU i m ds P):∃z F',At K H0 X n (S++⟨some (.ref p),z,F'⟩::T) (upd H p (.lst xs))/\P z:=by
 cases i with
 | true=>exact ⟨_,_,h.drop.newI r q.1 hz hp .ow,q.2⟩
 | false =>
  have q:P (.dat (vX m) (.list ds)):=q
  refine ⟨_,p::G,?_,q⟩
  have s1:=Fg hp (.lst xs)
  have h2:=h.mid
  have hs:=Bd.mp h2.sep
  obtain ⟨v',e1,_,hn,_⟩:=h2.ok _ Ab
  have h1:=h.drop.grow (n':=n) s1 (Aj _)
  have npF:p∉F:=h2.free hp _ Ab
  have npG:p∉G:=λz=>npF (hG.subset z)
  have cs:∀a∈cells ⟨some (.ref p),.dat (vX m) (.list ds),p::G⟩,a=p\/(a∈cells ⟨some v,.dat m d,F⟩):=λa ha=>by
   cases m with
   | ow =>
    rcases Ak.mp ha with z | z
    w_pre p8
    ·exact .inr (hG.subset z)
   | tp=>exact .inl (Al.mp ha)
   | sh=>exact .inl (Al.mp ha)
   | pk=>exact nomatch ha
  refine (h1.push (e:=⟨some (.ref p),.dat (vX m) (.list ds),p::G⟩) ⟨_,rfl,.lst Du hz (r.kp (Kp.of s1)),λz=>?_,λz a l e=>?_⟩ (λf hf=>?_) λa ha=>?_).tomid
  ·cases m with
   | ow=>exact Cm.mpr ⟨npG,(hn rfl).sublist hG⟩
   | _=>cases z
  ·cases e
   exact npG
  ·have nf:=h2.free hp f (Ac _ hf)
   refine ⟨λhq a ha z=>?_,λhq a ha z=>?_⟩
   ·rcases cs a ha with rfl | hc
    ·exact nf z
    ·refine (hs.1 f hf).1 ?_ a hc z
     w_pre k4
   ·rcases Ak.mp z with rfl | z
    ·exact nf (Hu _ _ ha)
    ·refine (hs.1 f hf).2 ?_ a ha (hG.subset z)
     w_pre g1
  ·rcases cs a ha with rfl | hc
   ·exact .inl (h2.new0 hp)
   ·rcases h2.new _ Ab a hc with z | z
    w_pre n5
theorem At.newT(h:At K H0 X n (S++⟨some v,.dat m d,F⟩::T) H)(r:RdFs K H xs ds G)(hG:G.Sublist F)(hz:ds.length<=Ay)(hp:H p=none)(q:gJ i m ds P):∃z F',At K H0 X n (S++⟨some (.ref p),z,F'⟩::T) (upd H p (.tup xs))/\P z:=by
 have s1:=Fg hp (.tup xs)
 have h1:=h.grow (n':=n) s1 (Aj _)
 cases i with
 | true =>
  obtain rfl:=r.imm q.1
  exact ⟨_,[],h1.drop.pushI (.tup Du hz (r.kp (Kp.of s1))),q.2⟩
 | false=>exact ⟨_,G,h1.part (.tup Du hz (r.kp (Kp.of s1))) hG,q⟩
theorem At.oldT{t:Addr}(h:At K H0 X n (S++⟨some v,.dat m d,F⟩::T) H)(r:RdFs K H xs ds G)(hG:G.Sublist F)(hz:ds.length<=Ay)(ht:H t=some (.tup xs))(q:gJ i m ds P):∃z F',At K H0 X n (S++⟨some (.ref t),z,F'⟩::T) H/\P z:=by
 cases i with
 | true =>
  obtain rfl:=r.imm q.1
  exact ⟨_,[],h.drop.pushI (.tup ht hz r),q.2⟩
 | false=>exact ⟨_,G,h.part (.tup ht hz r) hG,q⟩
end
def CT:DA:=λδ P=>P [] δ
def X9(de:DE)(da:DA):DA:=λδ P=>de δ λx δ1=>da δ1 λxs δ2=>P (x::xs) δ2
section
variable{X:Cx}{e:Expr}{es:List Expr}{de:DE}{da:DA}
theorem Bb:mB X [] CT:=by
 refine PA.imp Oh λσ H Q h=>?_
 w_pre k8
 exact k [] δ [] [] S H rfl hS rfl rfl hA hd
theorem An(ha:Gr X e de)(hr:mB X es da)(hs:Bj (e::es) X.env=(false,eval e X.env)::Bj es X.env:=by rfl):mB X (e::es) (X9 de da):=by
 refine PA.imp (Hy ha hr hs) λσ H Q h=>?_
 w_pre o4
 refine ⟨H0,Y,S1,⟨some v,x,F⟩::T,δ1,_,e1,e2,hA1,p1,λxs δ2 As us S2 H2 e3 e4 ex eu hA2 p2=>?_⟩
 refine k (x::xs) δ2 (⟨some v,x,F⟩::As) (v::us) S2 H2 e3 e4 (by rw[Ap,ex]) (by rw[Ap,Ap,eu]) (hA2.perm ((Gi S2).append ?_)) p2
 exact Eb
end
def allOw:List DV->Bool
 | []=>true
 | .dat .ow _::xs=>allOw xs
 | _=>false
def noPk:List DV->Bool
 | []=>true
 | .dat .pk _::_=>false
 | .dat _ _::xs=>noPk xs
 | _=>false
def datas:List DV->Option (List Af)
 | []=>some []
 | .dat _ d::xs=>(datas xs).map (d::·)
 | _=>none
def pkMd(top:Md)(xs:List DV):Md:=if allOw xs=true then .ow else if noPk xs=true then top else .pk
section
variable{K:PySem.W.Frag}{H0 H:Hp}{X:Addr->Prop}{n:Nat}{S T As:List Ent}
theorem Yw:∀{As:List Ent} {us:List V} {ds:List Af},As.map Ent.v=us.map some->datas (As.map Ent.x)=some ds->(∀e∈As,Iu K H n e)->RdFs K H us ds (As.flatMap Ent.F)
 | [],us,ds,e,h,_=>by
  cases us with
  | nil=>cases h; exact .nil
  | cons _ _=>cases e
 | ent::As,us,ds,e,h,ok=>by
  cases us with
  | nil=>cases e
  | cons u us =>
   rw[Ap,Ap] at e
   obtain ⟨e1,e2⟩:=Ht e
   obtain ⟨v,x,F⟩:=ent
   have e1':v=some u:=e1
   subst e1'
   rw[Ap] at h
   cases x with
   | dat m d =>
    rw[show datas (DV.dat m d::As.map Ent.x)=(datas (As.map Ent.x)).map (d::·) from rfl] at h
    cases q:datas (As.map Ent.x) with
    | none=>rw[q] at h; cases h
    | some es =>
     rw[q] at h
     cases h
     obtain ⟨w,ew,rw',_⟩:=ok _ Ab
     cases ew
     rw[Nj]
     exact .cons rw' (Yw e2 q λf hf=>ok f (Ac _ hf))
   | _=>cases h
theorem Rl:∀{As:List Ent},allOw (As.map Ent.x)=true->∀e∈As,∃d,e.x=.dat .ow d
 | [],_,_,h=>nomatch h
 | ⟨v,x,F⟩::As,h,e,he=>by
  rw[Ap] at h
  have hx:(∃d,x=.dat .ow d)/\allOw (As.map Ent.x)=true:=by
   cases x with
   | dat m d=>cases m <;> first | exact ⟨⟨d,rfl⟩,h⟩ | cases h
   | _=>cases h
  w_pre l8
  ·exact hx.1
  ·exact Rl hx.2 e he
theorem oG:∀{As:List Ent},noPk (As.map Ent.x)=true->∀e∈As,Tf e.x=false
 | [],_,_,h=>nomatch h
 | ⟨v,x,F⟩::As,h,e,he=>by
  rw[Ap] at h
  have hx:Tf x=false/\noPk (As.map Ent.x)=true:=by
   cases x with
   | dat m d=>cases m <;> first | exact ⟨rfl,h⟩ | cases h
   | _=>cases h
  w_pre l8
  ·exact hx.1
  ·exact oG hx.2 e he
theorem eJ:∀{As:List Ent},(∀e∈As,∃d,e.x=.dat .ow d)->(∀e∈As,Iu K H n e)->As.Pairwise Xr->(As.flatMap Ent.F).Nodup
 | [],_,_,_=>Ep
 | ent::As,ho,ok,hs=>by
  rw[Nj]
  have hc:=Bd.mp hs
  obtain ⟨v,x,F⟩:=ent
  obtain ⟨d,hd⟩:=ho _ Ab
  have hd':x=.dat .ow d:=hd
  subst hd'
  obtain ⟨w,_,_,hn,_⟩:=ok _ Ab
  refine Hn.mpr ⟨hn rfl,eJ (λe he=>ho e (Ac _ he)) (λe he=>ok e (Ac _ he)) hc.2,λa ha b hb z=>?_⟩
  subst z
  obtain ⟨f,hf,hb⟩:=Oi.mp hb
  obtain ⟨d',hd'⟩:=ho f (Ac _ hf)
  exact (hc.1 f hf).1 (.inl (by rw[hd']; rfl)) a ha hb
theorem At.pack{v:V}{d:Af}{N:List Addr}{H':Hp}{top:Md}(h:At K H0 X n (S++(As++T)) H)(s:Th H H')(hN:∀a∈N,H a=none)(ndN:N.Nodup)(htop:(top=.tp/\N.length=1)\/(top=.sh/\N=[]))(r:RdF K H' v d (N++As.flatMap Ent.F)):At K H0 X n (S++⟨some v,.dat (pkMd top (As.map Ent.x)) d,N++As.flatMap Ent.F⟩::T) H':=by
 have hp:(S++(As++T)).Perm (As++(S++T)):=by
  rw[<- Bw,<- Bw]
  exact El.append_right T
 have h2:=h.perm hp
 have hs:=Cw.mp h2.sep
 have h1:=(h.dropL).grow (n':=n) s (Aj _)
 have nN:∀a∈N,∀f∈As++(S++T),a∉f.F:=λa ha f hf=>h2.free (hN a ha) f hf
 have nFlat:∀a∈N,a∉As.flatMap Ent.F:=λa ha z=>by
  obtain ⟨f,hf,z⟩:=Oi.mp z
  exact nN a ha f (Ao _ hf) z
 have cs:∀a∈cells ⟨some v,.dat (pkMd top (As.map Ent.x)) d,N++As.flatMap Ent.F⟩,a∈N\/(allOw (As.map Ent.x)=true/\∃f∈As,a∈cells f):=λa ha=>by
  unfold pkMd at ha
  w_pre l9
  ·rw[if_pos hw] at ha
   rcases Bc.mp ha with z | z
   w_pre p8
   ·obtain ⟨f,hf,z⟩:=Oi.mp z
    obtain ⟨d',hd'⟩:=Rl hw f hf
    refine .inr ⟨hw,f,hf,?_⟩
    unfold cells
    rw[hd']
    exact z
  ·rw[if_neg hw] at ha
   by_cases hk:noPk (As.map Ent.x)=true
   ·rw[if_pos hk] at ha
    rcases htop with ⟨rfl,h1⟩ | ⟨rfl,rfl⟩
    ·match N,h1,ha with
     | [b],_,ha=>exact .inl ha
    ·exact nomatch ha
   ·rw[if_neg hk] at ha
    exact nomatch ha
 refine (h1.push (e:=⟨some v,.dat (pkMd top (As.map Ent.x)) d,N++As.flatMap Ent.F⟩) ⟨_,rfl,r,λz=>?_,λz a l e=>?_⟩ (λf hf=>?_) λa ha=>?_).tomid
 ·have hw:allOw (As.map Ent.x)=true:=by
   unfold pkMd at z
   w_pre l9
   ·exact hw
   ·rw[if_neg hw] at z
    split at z
    ·rcases htop with ⟨rfl,_⟩ | ⟨rfl,_⟩ <;> cases z
    ·cases z
  refine Hn.mpr ⟨ndN,eJ (Rl hw) (λe he=>h2.ok e (Ao _ he)) hs.1,λa ha b hb e=>?_⟩
  subst e
  exact nFlat a ha hb
 ·have ht:top=.tp:=by
   unfold pkMd at z
   split at z
   ·cases z
   ·split at z
    ·exact z
    ·cases z
  subst ht
  rcases htop with ⟨_,h1⟩ | ⟨h1,_⟩
  ·match N,h1,e,nFlat with
   | [b],_,e,nFlat =>
    cases e
    exact nFlat a Ab
  ·cases h1
 ·have hf':f∈As++(S++T):=Ah _ hf
  refine ⟨λhq a ha z=>?_,λhq a ha z=>?_⟩
  ·rcases cs a ha with hn | ⟨_,g,hg,hc⟩
   ·exact nN a hn f hf' z
   ·refine (hs.2.2 g hg f hf).1 ?_ a hc z
    w_pre k4
  ·rcases Bc.mp z with z | z
   ·exact nN a z f hf' (Hu _ _ ha)
   ·obtain ⟨g,hg,z⟩:=Oi.mp z
    refine (hs.2.2 g hg f hf).2 ?_ a ha z
    rcases hq with hq | hq
    ·refine .inl ?_
     have hq':Tf (.dat (pkMd top (As.map Ent.x)) d)=false:=hq
     unfold pkMd at hq'
     w_pre l9
     ·obtain ⟨d',hd'⟩:=Rl hw g hg
      rw[hd']
      rfl
     ·rw[if_neg hw] at hq'
      by_cases hk:noPk (As.map Ent.x)=true
      ·exact oG hk g hg
      ·rw[if_neg hk] at hq'
       cases hq'
    ·exact .inr hq
 ·rcases cs a ha with hn | ⟨_,g,hg,hc⟩
  ·exact .inl (h2.new0 (hN a hn))
  ·rcases h2.new g (Ao _ hg) a hc with z | z
   w_pre p8
   ·obtain ⟨d',hd'⟩:=Rl (by assumption) g hg
    rw[hd'] at z
    cases z.2
end
def HV(da:DA):DE:=λδ P=>da δ λxs δ'=>match datas xs with
 | some ds=>ds.length<=1000/\P (.dat (pkMd .sh xs) (.tuple ds)) δ'
 | none=>False
def FP(da:DA):DE:=λδ P=>da δ λxs δ'=>match datas xs with
 | some ds=>ds.length<=1000/\P (.dat (pkMd .tp xs) (.list ds)) δ'
 | none=>False
section
variable{X:Cx}{es:List Expr}{da:DA}{pos:Pos}
theorem Og{x1}(h:mB X es da):Gr X (.Tuple es x1 pos) (HV da):=by
 refine PE.imp (Z9 h) λσ H Q h=>?_
 w_pre f5
 cases q:datas xs with
 | none=>rw[q] at p; exact p.elim
 | some ds =>
  w_pre j0
  have s1:=Fg ht (.tup us)
  exact k _ δ' _ _ S' _ e1 e2 (hA'.pack (N:=[]) s1 (λ_ z=>nomatch z) Ep (.inr ⟨rfl,rfl⟩) (.tup Du hz (r.kp (Kp.of s1)))) p.2
theorem Lf(h:mB X es da):Gr X (.List es pos) (FP da):=by
 refine PE.imp (qU h) λσ H Q h=>?_
 w_pre f5
 cases q:datas xs with
 | none=>rw[q] at p; exact p.elim
 | some ds =>
  w_pre j0
  have s1:=Fg ht (.lst us)
  exact k _ δ' _ _ S' _ e1 e2 (hA'.pack (N:=[t]) s1 (λa z=>by rw[Al.mp z]; exact ht) (Cm.mpr ⟨Az,Ep⟩) (.inl ⟨rfl,rfl⟩) (.lst Du hz (r.kp (Kp.of s1)))) p.2
end
end DL
namespace Nd
open PySem PySem.Spec PyProof.Rows L2
section
variable{X:Cx}
def Y0:V->Option Int->Option Int->Hp->VK->Prop:=λx lo hi H Q=>∃a xs,x=.ref a/\H a=some (.tup xs)/\∀p H',H' p=some (.tup (cP xs lo hi))->Th H H'->Q (.ref p) H'
theorem O5:BE X Y0:=by
 w_pre u8
 obtain ⟨a,xs,rfl,hx',q⟩:=h
 have hx:Rq X.K H a xs:=Rq.of hx'
 cases rx
 by_cases hw:HT.sIx xs.length 0 lo=0/\HT.sIx xs.length xs.length hi=xs.length
 ·obtain ⟨its,r,ht,hz⟩:=I.tuple hx
  w_pre h5
  refine Vy ht hs pl pu (by rw[hlen]; exact hw) ⟨.ref a,H,I,rfl,q a H ?_ (Th.refl _)⟩
  unfold cP
  rw[hw.1,hw.2,Nk,Nat.sub_zero,Ey]
  exact hx'
 ·exact AQ pins s σ H (.ref a) (.ref a) vl vu lo hi sl Q I rfl hs pl pu ⟨a,xs,rfl,hx,hw,λp np=>q p _ Du (Fg np _)⟩
end
end Nd
namespace Ts
open PySem PyProof.Rows
def Vh:Bool->Keyed->Array Keyed->Nat->Nat->Nat->StateT Bx Sem (Option Nat):=sortPriv% PySem.Builtin.gallop
structure Cmp(prog:Bk)(w:World)(A:Ci)(s:Ai)(kd:Mz)(Ok:Keyed->Prop)(blt:Keyed->Keyed->Bool):Prop where
 run:∀(x y:Keyed) (Q:Bool->Ai->Prop) (E:Value->Ai->Prop),Ok x->Ok y->Q (blt x y) s->wpAny (model prog w) A (keyLt' kd x.1 y.1) Q E s
 irr:∀x,blt x x=false
 tr:∀x y z,blt x y=true->blt y z=true->blt x z=true
 neg:∀x y z,blt x z=true->blt x y=true\/blt y z=true
def le(blt:Keyed->Keyed->Bool)(x y:Keyed):Prop:=blt y x=false
section
variable{prog:Bk}{w:World}{A:Ci}{s:Ai}{kd:Mz}{Ok:Keyed->Prop}{blt:Keyed->Keyed->Bool}
theorem Cmp.refl(C:Cmp prog w A s kd Ok blt)(x:Keyed):le blt x x:=C.irr x
theorem Cmp.ofLt(C:Cmp prog w A s kd Ok blt){x y:Keyed}(h:blt x y=true):le blt x y:=by
 unfold le
 cases q:blt y x with
 | false=>rfl
 | true=>have:=C.tr _ _ _ h q; rw[C.irr] at this; cases this
theorem Cmp.trans(C:Cmp prog w A s kd Ok blt){x y z:Keyed}(h1:le blt x y)(h2:le blt y z):le blt x z:=by
 unfold le at *
 cases q:blt z x with
 | false=>rfl
 | true =>
  rcases C.neg _ y _ q with h | h
  ·rw[h2] at h; cases h
  ·rw[h1] at h; cases h
theorem Cmp.ltLe(C:Cmp prog w A s kd Ok blt){x y z:Keyed}(h1:blt x y=true)(h2:le blt y z):blt x z=true:=by
 unfold le at h2
 rcases C.neg _ z _ h1 with h | h
 ·exact h
 ·rw[h2] at h; cases h
theorem Cmp.leLt(C:Cmp prog w A s kd Ok blt){x y z:Keyed}(h1:le blt x y)(h2:blt y z=true):blt x z=true:=by
 unfold le at h1
 rcases C.neg _ x _ h2 with h | h
 ·rw[h1] at h; cases h
 ·exact h
variable{E:Value->Ai->Prop}
structure Kept(st st':Bx):Prop where
 kind:kindOf st'=kindOf st
 arr:arrOf st'=arrOf st
 pend:Bh st'=Bh st
 fail:My st'=My st
theorem Kept.refl(st:Bx):Kept st st:=⟨rfl,rfl,rfl,rfl⟩
theorem Kept.trans{a b c:Bx}(h:Kept a b)(k:Kept b c):Kept a c:=⟨k.kind.trans h.kind,k.arr.trans h.arr,k.pend.trans h.pend,k.fail.trans h.fail⟩
theorem oU(C:Cmp prog w A s kd Ok blt){st:Bx}{x y:Keyed}{Q:Option Bool->Bx->Prop}(hk:kindOf st=kd)(ox:Ok x)(oy:Ok y)(h:Q (some (blt x y)) st):wpS (model prog w) A E s (lt' x y) Q st:=by
 rw[lt'_eq]
 w_pre n8
 rw[hk]
 exact Ba (wpS_lift (Lh (C.run x y _ _ ox oy ⟨rfl,Bi h⟩)))
theorem Gk{st:Bx}{xs:Array Keyed}{i:Nat}{p:Keyed}{Q:Keyed->Bx->Prop}(h:xs[i]? = some p)(q:Q p st):wpS (model prog w) A E s (elem' xs i) Q st:=by
 rw[elem'_eq,h]
 exact Bi q
def Va(left:Bool)(key:Keyed)(arr:Array Keyed)(base i:Nat):StateT Bx Sem (Option Bool):=do
 let x <- elem' arr (base+i)
 if left then lt' x key else return (<- lt' key x).map (!·)
def uW(left:Bool)(key:Keyed)(arr:Array Keyed)(base n lo0 hi0:Nat):StateT Bx Sem (Option Nat):=do
 let mut lo:=lo0
 let mut hi:=hi0
 for _ in [0:n] do
  if lo ≥ hi then break
  let mid:=lo+(hi - lo) / 2
  let some up <- Va left key arr base mid | return none
  if up then lo:=mid+1 else hi:=mid
 return some hi
theorem rY(left:Bool)(key:Keyed)(arr:Array Keyed)(base n hint:Nat):Vh left key arr base n hint=(do
  let some right <- Va left key arr base hint | return none
  let mut last:=0
  let mut ofs:=1
  if right then
   let top:=n - hint
   for _ in [0:n] do
    if ofs ≥ top then break
    let some up <- Va left key arr base (hint+ofs) | return none
    if !up then break
    last:=ofs
    ofs:=2 * ofs+1
   uW left key arr base n (hint+last+1) (hint+min ofs top)
  else
   let top:=hint+1
   for _ in [0:n] do
    if ofs ≥ top then break
    let some got <- Va left key arr base (hint - ofs) | return none
    if got then break
    last:=ofs
    ofs:=2 * ofs+1
   uW left key arr base n (hint+1 - min ofs top) (hint - last)):=rfl
def Ho(blt:Keyed->Keyed->Bool)(left:Bool)(key x:Keyed):Bool:=if left then blt x key else !blt key x
structure Row(Ok:Keyed->Prop)(arr:Array Keyed)(base n:Nat)(el:Nat->Keyed):Prop where
 at_:∀i,i<n->arr[base+i]? = some (el i)
 ok:∀i,i<n->Ok (el i)
theorem Vi(C:Cmp prog w A s kd Ok blt){st:Bx}{left:Bool}{key:Keyed}{arr:Array Keyed}{base n i:Nat}{el:Nat->Keyed}(R:Row Ok arr base n el)(ok:Ok key)(hk:kindOf st=kd)(hi:i<n){Q:Option Bool->Bx->Prop}(h:Q (some (Ho blt left key (el i))) st):wpS (model prog w) A E s (Va left key arr base i) Q st:=by
 unfold Va
 refine Ba (Gk (R.at_ i hi) ?_)
 cases left with
 | true =>
  w_pre g8
  exact oU C hk (R.ok i hi) ok h
 | false =>
  w_pre m8
  exact Ba (oU C hk ok (R.ok i hi) (Bi h))
theorem vQ(C:Cmp prog w A s kd Ok blt){st:Bx}{left:Bool}{key:Keyed}{arr:Array Keyed}{base n lo hi:Nat}{el:Nat->Keyed}(R:Row Ok arr base n el)(ok:Ok key)(hk:kindOf st=kd)(mono:∀i j,i<=j->j<n->Ho blt left key (el j)=true->Ho blt left key (el i)=true)(h1:lo<=hi)(h2:hi<=n)(t1:∀i,i<lo->Ho blt left key (el i)=true)(t2:∀i,hi<=i->i<n->Ho blt left key (el i)=false){Q:Option Nat->Bx->Prop}(h:∀k,k<=n->(∀i,i<k->Ho blt left key (el i)=true)->(∀i,k<=i->i<n->Ho blt left key (el i)=false)->Q (some k) st):wpS (model prog w) A E s (uW left key arr base n lo hi) Q st:=by
 unfold uW
 refine Ba (Ib (Ex (I:=λx c st'=>∃l r,c=(none,l,r)/\st'=st/\l<=r/\r<=n/\r - l+x<=n/\(∀i,i<l->Ho blt left key (el i)=true)/\(∀i,r<=i->i<n->Ho blt left key (el i)=false))
  (Q:=λc st'=>∃r,c=(none,r,r)/\st'=st/\r<=n/\(∀i,i<r->Ho blt left key (el i)=true)/\(∀i,r<=i->i<n->Ho blt left key (el i)=false)) ?_ ?_ ⟨lo,hi,rfl,rfl,h1,h2,by omega,t1,t2⟩) ?_)
 ·rintro x c st' _ hx ⟨l,r,rfl,rfl,a1,a2,a3,b1,b2⟩
  dsimp only
  by_cases hlr:l ≥ r
  ·rw[if_pos hlr]
   w_pre t6
   exact Bi ⟨l,rfl,rfl,a2,b1,b2⟩
  ·rw[if_neg hlr]
   have hm:l+(r - l) / 2<n:=by omega
   w_pre w9
   dsimp only
   cases hb:Ho blt left key (el (l+(r - l) / 2)) with
   | true =>
    w_pre g8
    exact Bi ⟨l+(r - l) / 2+1,r,rfl,rfl,by omega,a2,by omega,λi hi=>mono i _ (by omega) hm hb,b2⟩
   | false =>
    w_pre m8
    refine Bi ⟨l,l+(r - l) / 2,rfl,rfl,by omega,by omega,by omega,b1,λi hi hn=>?_⟩
    cases q:Ho blt left key (el i) with
    | false=>rfl
    | true=>rw[mono _ i hi hn q] at hb; cases hb
 ·rintro c st' ⟨l,r,rfl,rfl,a1,a2,a3,b1,b2⟩
  have e:l=r:=by
   have : max 0 n=n:=by omega
   rw[this] at a3
   omega
  subst e
  exact ⟨l,rfl,rfl,a2,b1,b2⟩
 ·rintro c st' ⟨r,rfl,rfl,a2,b1,b2⟩
  exact Bi (h r a2 b1 b2)
theorem Pb(C:Cmp prog w A s kd Ok blt){st:Bx}{left:Bool}{key:Keyed}{arr:Array Keyed}{base n hint:Nat}{el:Nat->Keyed}(R:Row Ok arr base n el)(ok:Ok key)(hk:kindOf st=kd)(hh:hint<n)(mono:∀i j,i<=j->j<n->Ho blt left key (el j)=true->Ho blt left key (el i)=true){Q:Option Nat->Bx->Prop}(h:∀k,k<=n->(∀i,i<k->Ho blt left key (el i)=true)->(∀i,k<=i->i<n->Ho blt left key (el i)=false)->Q (some k) st):wpS (model prog w) A E s (Vh left key arr base n hint) Q st:=by
 have anti:∀i j,i<=j->j<n->Ho blt left key (el i)=false->Ho blt left key (el j)=false:=λi j hij hj q=>by
  cases z:Ho blt left key (el j) with
  | false=>rfl
  | true=>rw[mono i j hij hj z] at q; cases q
 rw[rY]
 refine Ba (Vi C R ok hk hh ?_)
 dsimp only
 cases hb:Ho blt left key (el hint) with
 | true =>
  w_pre g8
  refine Ba (Ib (Ex (I:=λx c st'=>∃la o,c=(none,la,o)/\st'=st/\la<o/\x+1<=o/\hint+la<n/\Ho blt left key (el (hint+la))=true)
   (Q:=λc st'=>∃la o,c=(none,la,o)/\st'=st/\la<o/\hint+la<n/\Ho blt left key (el (hint+la))=true/\(o ≥ n - hint\/(hint+o<n/\Ho blt left key (el (hint+o))=false))) ?_ ?_
   ⟨0,1,rfl,rfl,by omega,by omega,by omega,hb⟩) ?_)
  ·rintro x c st' _ hx ⟨la,o,rfl,rfl,a1,a2,a3,b1⟩
   dsimp only
   by_cases ho:o ≥ n - hint
   w_pre u6
   ·rw[if_neg ho]
    have hm:hint+o<n:=by omega
    w_pre w9
    dsimp only
    cases hb2:Ho blt left key (el (hint+o)) with
    | true =>
     simp only[Sx,Bz,if_false]
     exact Bi ⟨o,2 * o+1,rfl,rfl,by omega,by omega,hm,hb2⟩
    | false =>
     simp only[Bool.not_false,if_true]
     exact Bi ⟨la,o,rfl,rfl,a1,a3,b1,.inr ⟨hm,hb2⟩⟩
  w_pre m1
  ·rintro c st' ⟨la,o,rfl,rfl,a1,a3,b1,b2⟩
   dsimp only
   refine vQ C R ok hk mono (by omega) (by omega) (λi hi=>mono i _ (by omega) a3 b1) (λi hi hn=>?_) h
   w_pre p7
   ·exact anti _ i (by omega) hn b3
 | false =>
  w_pre m8
  refine Ba (Ib (Ex (I:=λx c st'=>∃la o,c=(none,la,o)/\st'=st/\la<o/\x+1<=o/\la<=hint/\Ho blt left key (el (hint - la))=false)
   (Q:=λc st'=>∃la o,c=(none,la,o)/\st'=st/\la<o/\la<=hint/\Ho blt left key (el (hint - la))=false/\(o ≥ hint+1\/(o<=hint/\Ho blt left key (el (hint - o))=true))) ?_ ?_
   ⟨0,1,rfl,rfl,by omega,by omega,by omega,hb⟩) ?_)
  ·rintro x c st' _ hx ⟨la,o,rfl,rfl,a1,a2,a3,b1⟩
   dsimp only
   by_cases ho:o ≥ hint+1
   w_pre u6
   ·rw[if_neg ho]
    have hm:hint - o<n:=by omega
    w_pre w9
    dsimp only
    cases hb2:Ho blt left key (el (hint - o)) with
    | true =>
     w_pre g8
     exact Bi ⟨la,o,rfl,rfl,a1,a3,b1,.inr ⟨by omega,hb2⟩⟩
    | false =>
     w_pre m8
     exact Bi ⟨o,2 * o+1,rfl,rfl,by omega,by omega,by omega,hb2⟩
  w_pre m1
  ·rintro c st' ⟨la,o,rfl,rfl,a1,a3,b1,b2⟩
   dsimp only
   refine vQ C R ok hk mono (by omega) (by omega) (λi hi=>?_) (λi hi hn=>anti _ i hi hn b1) h
   w_pre p7
   ·exact mono i _ (by omega) (by omega) b3
end
structure MI{α:Type}(R:α->α->Prop)(xs ys out:List α)(i j:Nat):Prop where
 perm:out.Perm (xs.take i++ys.take j)
 srt:out.Pairwise R
 lx:∀o∈out,∀z∈xs.drop i,R o z
 ly:∀o∈out,∀z∈ys.drop j,R o z
section
variable{α:Type}{R:α->α->Prop}{xs ys out:List α}{i j:Nat}
theorem gX{l:List α}{n:Nat}{a:α}(h:l[n]? = some a):l.drop n=a::l.drop (n+1):=by
 obtain ⟨hn,e⟩:=Ax.mp h
 rw[mG hn,e]
theorem take_snoc{l:List α}{n:Nat}{a:α}(h:l[n]? = some a):l.take (n+1)=l.take n++[a]:=by
 rw[List.take_succ,h]; rfl
theorem MI.pushY(M:MI R xs ys out i j)(sy:ys.Pairwise R){y:α}(hy:ys[j]? = some y)(hx:∀z∈xs.drop i,R y z):MI R xs ys (out++[y]) i (j+1):=by
 have dy:=gX hy
 have sd:(y::ys.drop (j+1)).Pairwise R:=by rw[<- dy]; exact Jq (Jc _ _) sy
 w_pre d6
 ·rw[take_snoc hy,<- Bw]
  exact M.perm.append_right _
 ·refine Cw.mpr ⟨M.srt,Fi _ _,λo ho z hz=>?_⟩
  have e:z=y:=by simpa using hz
  rw[e]
  exact M.ly o ho y (by rw[dy]; exact Ab)
 ·rcases Bc.mp ho with ho | ho
  ·exact M.lx o ho z hz
  ·have e:o=y:=by simpa using ho
   rw[e]; exact hx z hz
 ·rcases Bc.mp ho with ho | ho
  ·exact M.ly o ho z (by rw[dy]; exact Ac _ hz)
  ·have e:o=y:=by simpa using ho
   rw[e]; exact s1 z hz
theorem MI.pushX(M:MI R xs ys out i j)(sx:xs.Pairwise R){x:α}(hx:xs[i]? = some x)(hy:∀z∈ys.drop j,R x z):MI R xs ys (out++[x]) (i+1) j:=by
 have dx:=gX hx
 have sd:(x::xs.drop (i+1)).Pairwise R:=by rw[<- dx]; exact Jq (Jc _ _) sx
 w_pre d6
 ·rw[take_snoc hx]
  have p1:(out++[x]).Perm ((xs.take i++ys.take j)++[x]):=M.perm.append_right _
  refine p1.trans ?_
  rw[Bw,Bw]
  exact Jy _ El
 ·refine Cw.mpr ⟨M.srt,Fi _ _,λo ho z hz=>?_⟩
  have e:z=x:=by simpa using hz
  rw[e]
  exact M.lx o ho x (by rw[dx]; exact Ab)
 ·rcases Bc.mp ho with ho | ho
  ·exact M.lx o ho z (by rw[dx]; exact Ac _ hz)
  ·have e:o=x:=by simpa using ho
   rw[e]; exact s1 z hz
 ·rcases Bc.mp ho with ho | ho
  ·exact M.ly o ho z hz
  ·have e:o=x:=by simpa using ho
   rw[e]; exact hy z hz
theorem Uk{l:List α}{n k:Nat}{a:α}(h:l[n+k]? = some a):(l.drop n).take (k+1)=(l.drop n).take k++[a]:=take_snoc (by rw[aN]; exact h)
theorem MI.blockX(M:MI R xs ys out i j)(sx:xs.Pairwise R):∀k,i+k<=xs.length->(∀m,m<k->∀x,xs[i+m]? = some x->∀z∈ys.drop j,R x z)->MI R xs ys (out++(xs.drop i).take k) (i+k) j
 | 0,_,_=>by simpa using M
 | k+1,hk,h=>by
  have ih:=MI.blockX M sx k (by omega) λm hm=>h m (by omega)
  obtain ⟨x,hx⟩ : ∃x,xs[i+k]? = some x:=⟨xs[i+k],by simp⟩
  rw[Uk hx,<- Bw]
  exact ih.pushX sx hx (h k (by omega) x hx)
theorem MI.blockY(M:MI R xs ys out i j)(sy:ys.Pairwise R):∀k,j+k<=ys.length->(∀m,m<k->∀y,ys[j+m]? = some y->∀z∈xs.drop i,R y z)->MI R xs ys (out++(ys.drop j).take k) i (j+k)
 | 0,_,_=>by simpa using M
 | k+1,hk,h=>by
  have ih:=MI.blockY M sy k (by omega) λm hm=>h m (by omega)
  obtain ⟨y,hy⟩ : ∃y,ys[j+k]? = some y:=⟨ys[j+k],by simp⟩
  rw[Uk hy,<- Bw]
  exact ih.pushY sy hy (h k (by omega) y hy)
theorem MI.endX(M:MI R xs ys out i j)(sx:xs.Pairwise R)(hj:ys.length<=j):(out++xs.drop i++ys.drop j).Perm (xs++ys)/\(out++xs.drop i++ys.drop j).Pairwise R:=by
 rw[tO hj,Ec]
 w_pre a8
 ·have p1:(out++xs.drop i).Perm ((xs.take i++ys.take j)++xs.drop i):=M.perm.append_right _
  refine p1.trans ?_
  rw[Gu hj]
  have p2:(xs.take i++ys++xs.drop i).Perm (xs.take i++(xs.drop i++ys)):=by
   rw[Bw]
   exact Jy _ El
  refine p2.trans ?_
  rw[<- Bw,Fw]
 ·exact Cw.mpr ⟨M.srt,Jq (Jc _ _) sx,M.lx⟩
theorem MI.endYX(M:MI R xs ys out i j)(sx:xs.Pairwise R)(sy:ys.Pairwise R)(h:∀y∈ys.drop j,∀x∈xs.drop i,R y x):(out++ys.drop j++xs.drop i).Perm (xs++ys)/\(out++ys.drop j++xs.drop i).Pairwise R:=by
 w_pre a8
 ·have p1:(out++(ys.drop j++xs.drop i)).Perm ((xs.take i++ys.take j)++(ys.drop j++xs.drop i)):=M.perm.append_right _
  rw[Bw]
  refine p1.trans ?_
  rw[Bw,<- Bw (ys.take j),Fw]
  have p2:(xs.take i++(ys++xs.drop i)).Perm (xs.take i++(xs.drop i++ys)):=Jy _ El
  refine p2.trans ?_
  rw[<- Bw,Fw]
 ·refine Cw.mpr ⟨Cw.mpr ⟨M.srt,Jq (Jc _ _) sy,M.ly⟩,Jq (Jc _ _) sx,λa ha b hb=>?_⟩
  rcases Bc.mp ha with ha | ha
  ·exact M.lx a ha b hb
  ·exact h a ha b hb
end
def mR:Array Keyed->Array Keyed->StateT Bx Sem (Array Keyed):=sortPriv% PySem.Builtin.mergeLo
def bS:Nat->StateT Bx Sem Unit:=sortPriv% PySem.Builtin.setMinGallop
abbrev CL(st:Bx)(g:Nat):Bx:=SortSt.mk' (kindOf st) (arrOf st) (Bh st) g (My st)
theorem sT(g:Nat):bS g=modify λst=>CL st g:=rfl
theorem bT(p:Array Keyed)(i:Nat):(p.extract i p.size).toList=p.toList.drop i:=by
 rw[Ov,Lr,Gu]
 rw[Lm,Am]
 exact Aj _
theorem Ym(p:Array Keyed)(i k:Nat):(p.extract i (i+k)).toList=(p.toList.drop i).take k:=by
 rw[Ov,Lr,Nat.add_sub_cancel_left]
abbrev dn(p q out:Array Keyed)(i j:Nat):Array Keyed:=out++p.extract i p.size++q.extract j q.size
abbrev lst(p q out:Array Keyed)(i j:Nat):Array Keyed:=out++q.extract j q.size++p.extract i p.size
theorem P5(p q out:Array Keyed)(i j:Nat):(dn p q out i j).toList=out.toList++p.toList.drop i++q.toList.drop j:=by
 rw[Dy,Dy,bT,bT]
theorem zQ(p q out:Array Keyed)(i j:Nat):(lst p q out i j).toList=out.toList++q.toList.drop j++p.toList.drop i:=by
 rw[Dy,Dy,bT,bT]
abbrev V3:=Option (Array Keyed)×Array Keyed×Nat×Nat×Nat×Nat×Nat
def U0(p q out:Array Keyed)(i j g ac k:Nat):StateT Bx Sem (ForInStep V3):=do
 let x <- elem' p i
 if (i+1+1 == p.size)=true then pure (Df (some (lst p q (out.push x) (i+1) j),out.push x,i+1,j,g,ac,k))
 else if (decide (ac<7) && decide (k<7))=true then pure (Df (none,out.push x,i+1,j,g,ac,k))
 else pure (Et (none,out.push x,i+1,j,g,ac,k))
def L6(p q out:Array Keyed)(i j g ac bc:Nat):StateT Bx Sem (ForInStep V3):=do
 let y <- elem' q j
 if (j+1 == q.size)=true then pure (Df (some (dn p q (out.push y) i (j+1)),out.push y,i,j+1,g,ac,bc))
 else do
  let x <- elem' p i
  let some k <- Vh true x q (j+1) (q.size - (j+1)) 0 | pure (Df (some (dn p q (out.push y) i (j+1)),out.push y,i,j+1,g,ac,bc))
  if k > 0 then
   if (j+1+k == q.size)=true then pure (Df (some (dn p q (out.push y++q.extract (j+1) (j+1+k)) i (j+1+k)),out.push y++q.extract (j+1) (j+1+k),i,j+1+k,g,ac,k))
   else U0 p q (out.push y++q.extract (j+1) (j+1+k)) i (j+1+k) g ac k
  else U0 p q (out.push y) i (j+1) g ac k
def CF(p q out:Array Keyed)(i j g ac bc:Nat):StateT Bx Sem (ForInStep V3):=do
 bS g
 let y <- elem' q j
 let some k <- Vh false y p i (p.size - i) 0 | pure (Df (some (dn p q out i j),out,i,j,g,ac,bc))
 if k > 0 then
  if (i+k+1 == p.size)=true then pure (Df (some (lst p q (out++p.extract i (i+k)) (i+k) j),out++p.extract i (i+k),i+k,j,g,k,bc))
  else if (i+k == p.size)=true then pure (Df (some (dn p q (out++p.extract i (i+k)) (i+k) j),out++p.extract i (i+k),i+k,j,g,k,bc))
  else L6 p q (out++p.extract i (i+k)) (i+k) j g k bc
 else L6 p q out i j g k bc
section
variable{prog:Bk}{w:World}{A:Ci}{s:Ai}{kd:Mz}{Ok:Keyed->Prop}{blt:Keyed->Keyed->Bool}{E:Value->Ai->Prop}
theorem Vf{st:Bx}{x:String}{Q:Unit->Bx->Prop}(h:Q () st):wpS (model prog w) A E s (liftM (rule x):StateT Bx Sem Unit) Q st:=wpS_lift (Jt ⟨rfl,h⟩)
theorem Ve{st:Bx}{g:Nat}{Q:Unit->Bx->Prop}(h:∀st',Kept st st'->Q () st'):wpS (model prog w) A E s (bS g) Q st:=by
 rw[sT]
 exact Ku (h _ ⟨rfl,rfl,rfl,rfl⟩)
structure Two(Ok:Keyed->Prop)(blt:Keyed->Keyed->Bool)(p q:Array Keyed)(x0 y0 xl:Keyed):Prop where
 op:∀x∈p.toList,Ok x
 oq:∀x∈q.toList,Ok x
 sp:p.toList.Pairwise (le blt)
 sq:q.toList.Pairwise (le blt)
 hx0:p[0]? = some x0
 hy0:q[0]? = some y0
 hxl:p[p.size - 1]? = some xl
 first:blt y0 x0=true
 last:∀y∈q.toList,blt y xl=true
abbrev qT(blt:Keyed->Keyed->Bool)(p q r:Array Keyed):Prop:=r.toList.Perm (p.toList++q.toList)/\r.toList.Pairwise (le blt)
theorem Eu{p:Array Keyed}{i:Nat}{x:Keyed}(h:p[i]? = some x):p.toList[i]? = some x:=by simpa using h
theorem Gs{p:Array Keyed}{i:Nat}(h:i<p.size):∃x,p[i]? = some x:=⟨p[i],by simp [h]⟩
theorem Km{p:Array Keyed}{i:Nat}{x:Keyed}(h:p[i]? = some x):x∈p.toList:=Bq (Eu h)
theorem mP{α:Type}{l:List α}{i:Nat}{z:α}(h:z∈l.drop i):∃k,l[i+k]? = some z:=by
 obtain ⟨k,hk,e⟩:=Gh.mp h
 exact ⟨k,by rw[<- aN,Bt hk,e]⟩
theorem Ly(C:Cmp prog w A s kd Ok blt){l:List Keyed}(sl:l.Pairwise (le blt)){i j:Nat}{x y:Keyed}(hij:i<=j)(hx:l[i]? = some x)(hy:l[j]? = some y):le blt x y:=by
 by_cases e:i=j
 ·subst e
  rw[hx] at hy
  cases hy
  exact C.refl x
 ·obtain ⟨hi,ex⟩:=Ax.mp hx
  obtain ⟨hj,ey⟩:=Ax.mp hy
  have:=Lp.mp sl i j hi hj (by omega)
  rw[ex,ey] at this
  exact this
theorem Qi(C:Cmp prog w A s kd Ok blt){l:List Keyed}(sl:l.Pairwise (le blt)){i:Nat}{x y:Keyed}(hx:l[i]? = some x)(h:le blt y x):∀z∈l.drop i,le blt y z:=λz hz=>by
 obtain ⟨k,hk⟩:=mP hz
 exact C.trans h (Ly C sl (Ju i k) hx hk)
abbrev LI(blt:Keyed->Keyed->Bool)(p q out:Array Keyed)(i j:Nat):Prop:=MI (le blt) p.toList q.toList out.toList i j
theorem Pa(out:Array Keyed)(x:Keyed):(out.push x).toList=out.toList++[x]:=by simp
theorem Two.last_end(C:Cmp prog w A s kd Ok blt){p q out:Array Keyed}{x0 y0 xl:Keyed}(T:Two Ok blt p q x0 y0 xl){i j:Nat}(M:LI blt p q out i j)(hi:i+1=p.size):qT blt p q (lst p q out i j):=by
 have h:=M.endYX T.sp T.sq (λy hy x hx=>?_)
 ·rw[<- zQ] at h
  exact h
 ·obtain ⟨k,hk⟩:=mP hx
  have : k=0:=by
   have:=(Ax.mp hk).1
   rw[Am] at this
   omega
  subst this
  have e:x=xl:=by
   have:=Eu T.hxl
   rw[show p.size - 1=i+0 by omega,hk] at this
   exact Ca this
  rw[e]
  exact C.ofLt (T.last y (List.mem_of_mem_drop hy))
theorem Two.done_end{p q out:Array Keyed}{x0 y0 xl:Keyed}(T:Two Ok blt p q x0 y0 xl){i j:Nat}(M:LI blt p q out i j)(hj:q.size<=j):qT blt p q (dn p q out i j):=by
 have h:=M.endX T.sp (by rw[Am]; exact hj)
 rw[<- P5] at h
 exact h
def FK(blt:Keyed->Keyed->Bool)(p q:Array Keyed)(st:Bx)(n:Nat)(r:ForInStep V3)(st':Bx):Prop:=Kept st st'/\match r with
 | .done (some r,_)=>qT blt p q r
 | .done (none,out,i,j,_)=>LI blt p q out i j/\i+1<p.size/\j<q.size/\n<i+j
 | .yield (none,out,i,j,_)=>LI blt p q out i j/\i+1<p.size/\j<q.size/\n<i+j
 | .yield (some _,_)=>False
theorem uC(C:Cmp prog w A s kd Ok blt){p q out:Array Keyed}{x0 y0 xl:Keyed}(T:Two Ok blt p q x0 y0 xl){i j g ac k n:Nat}{st0 st:Bx}(kp:Kept st0 st)(M:LI blt p q out i j)(hi:i+1<p.size)(hj:j<q.size)(hn:n<=i+j){x:Keyed}(hx:p[i]? = some x)(hq:∀z∈q.toList.drop j,le blt x z):wpS (model prog w) A E s (U0 p q out i j g ac k) (FK blt p q st0 n) st:=by
 unfold U0
 w_pre w8
 have M1:LI blt p q (out.push x) (i+1) j:=by
  have:=M.pushX T.sp (Eu hx) hq
  rw[<- Pa] at this
  exact this
 by_cases h1:i+1+1=p.size
 ·rw[if_pos (by rw[h1]; exact beq_self_eq_true _)]
  exact Bi ⟨kp,T.last_end C M1 h1⟩
 ·rw[if_neg (λz=>h1 (Ef z))]
  w_pre j10
  ·rw[if_pos h2]
   exact Bi ⟨kp,M1,by omega,hj,by omega⟩
  ·rw[if_neg h2]
   exact Bi ⟨kp,M1,by omega,hj,by omega⟩
theorem uZ(C:Cmp prog w A s kd Ok blt){p q out:Array Keyed}{x0 y0 xl:Keyed}(T:Two Ok blt p q x0 y0 xl){i j g ac bc n:Nat}{st0 st:Bx}(kp:Kept st0 st)(hk:kindOf st=kd)(M:LI blt p q out i j)(hi:i+1<p.size)(hj:j<q.size)(hn:n<=i+j){x y:Keyed}(hx:p[i]? = some x)(hy:q[j]? = some y)(hyx:blt y x=true):wpS (model prog w) A E s (L6 p q out i j g ac bc) (FK blt p q st0 n) st:=by
 unfold L6
 w_pre x8
 have M1:LI blt p q (out.push y) i (j+1):=by
  have:=M.pushY T.sq (Eu hy) (Qi C T.sp (Eu hx) (C.ofLt hyx))
  rw[<- Pa] at this
  exact this
 by_cases h1:j+1=q.size
 ·rw[if_pos (by rw[h1]; exact beq_self_eq_true _)]
  exact Bi ⟨kp,T.done_end M1 (by omega)⟩
 ·rw[if_neg (λz=>h1 (Ef z))]
  w_pre w8
  have R:Row Ok q (j+1) (q.size - (j+1)) (λm=>q.getD (j+1+m) y):=⟨λm hm=>?_,λm hm=>?_⟩
  ·refine Ba (Pb C R (T.op x (Km hx)) hk (by omega) (λa b hab hb q1=>?_) λk hk1 t1 t2=>?_)
   ·obtain ⟨ya,ea⟩:=Gs (p:=q) (i:=j+1+a) (by omega)
    obtain ⟨yb,eb⟩:=Gs (p:=q) (i:=j+1+b) (by omega)
    have ga:q.getD (j+1+a) y=ya:=by simp [Cz,ea]
    have gb:q.getD (j+1+b) y=yb:=by simp [Cz,eb]
    simp only[ga,gb,Ho,if_true] at q1 ⊢
    exact C.leLt (Ly C T.sq (by omega) (Eu ea) (Eu eb)) q1
   ·dsimp only
    have val:∀m yy,q[j+1+m]? = some yy->q.getD (j+1+m) y=yy:=λm yy e=>by simp [Cz,e]
    have M2:LI blt p q (out.push y++q.extract (j+1) (j+1+k)) i (j+1+k):=by
     have:=M1.blockY T.sq k (by rw[Am]; omega) (λm hm yy ey=>by
      have ey':q[j+1+m]? = some yy:=by simpa using ey
      have:=t1 m hm
      rw[val m yy ey'] at this
      simp only[Ho,if_true] at this
      exact Qi C T.sp (Eu hx) (C.ofLt this))
     rw[<- Ym,<- Dy] at this
     exact this
    by_cases h2:k > 0
    ·rw[if_pos h2]
     by_cases h3:j+1+k=q.size
     ·rw[if_pos (by rw[h3]; exact beq_self_eq_true _)]
      exact Bi ⟨kp,T.done_end M2 (by omega)⟩
     ·rw[if_neg (λz=>h3 (Ef z))]
      obtain ⟨yk,ek⟩:=Gs (p:=q) (i:=j+1+k) (by omega)
      refine uC C T kp M2 hi (by omega) (by omega) hx (Qi C T.sq (Eu ek) ?_)
      have:=t2 k (Aj _) (by omega)
      rw[val k yk ek] at this
      w_pre f6
    ·rw[if_neg h2]
     have hk0:k=0:=by omega
     subst hk0
     obtain ⟨yk,ek⟩:=Gs (p:=q) (i:=j+1) (by omega)
     refine uC C T kp M1 hi (by omega) (by omega) hx (Qi C T.sq (Eu ek) ?_)
     have:=t2 0 (Aj _) (by omega)
     rw[val 0 yk ek] at this
     w_pre f6
  ·obtain ⟨ya,ea⟩:=Gs (p:=q) (i:=j+1+m) (by omega)
   rw[ea]
   simp [Cz,ea]
  ·obtain ⟨ya,ea⟩:=Gs (p:=q) (i:=j+1+m) (by omega)
   have : q.getD (j+1+m) y=ya:=by simp [Cz,ea]
   rw[this]
   exact T.oq ya (Km ea)
theorem R3(C:Cmp prog w A s kd Ok blt){p q out:Array Keyed}{x0 y0 xl:Keyed}(T:Two Ok blt p q x0 y0 xl){i j g ac bc n:Nat}{st0 st:Bx}(kp:Kept st0 st)(hk:kindOf st=kd)(M:LI blt p q out i j)(hi:i+1<p.size)(hj:j<q.size)(hn:n<=i+j):wpS (model prog w) A E s (CF p q out i j g ac bc) (FK blt p q st0 n) st:=by
 unfold CF
 w_pre c3
 obtain ⟨y,hy⟩:=Gs (p:=q) hj
 w_pre x8
 have val:∀m xx,p[i+m]? = some xx->p.getD (i+m) y=xx:=λm xx e=>by simp [Cz,e]
 have R:Row Ok p i (p.size - i) (λm=>p.getD (i+m) y):=⟨λm hm=>by
  w_pre o10
  rw[val m xa ea,ea],λm hm=>by
  w_pre o10
  show Ok (p.getD (i+m) y)
  rw[val m xa ea]
  exact T.op xa (Km ea)⟩
 refine Ba (Pb C R (T.oq y (Km hy)) hk' (by omega) (λa b hab hb q1=>?_) λk hk1 t1 t2=>?_)
 ·obtain ⟨xa,ea⟩:=Gs (p:=p) (i:=i+a) (by omega)
  obtain ⟨xb,eb⟩:=Gs (p:=p) (i:=i+b) (by omega)
  simp only[val a xa ea,val b xb eb,Ho,Bz,if_false,Kx] at q1 ⊢
  exact C.trans (Ly C T.sp (by omega) (Eu ea) (Eu eb)) q1
 ·dsimp only
  -- the last one is beyond y: so k does not reach it
  have hkl:i+k+1<=p.size:=by
   rcases Nat.lt_or_ge (i+k) p.size with z | z
   ·omega
   ·exfalso
    have:=t1 (p.size - 1 - i) (by omega)
    have e:p[i+(p.size - 1 - i)]? = some xl:=by
     rw[show i+(p.size - 1 - i)=p.size - 1 by omega]
     exact T.hxl
    rw[val _ xl e] at this
    simp only[Ho,Bz,if_false,T.last y (Km hy),Sx] at this
  have M1:LI blt p q (out++p.extract i (i+k)) (i+k) j:=by
   have:=M.blockX T.sp k (by rw[Am]; omega) (λm hm xx ex=>by
    have ex':p[i+m]? = some xx:=by simpa using ex
    have:=t1 m hm
    rw[val m xx ex'] at this
    simp only[Ho,Bz,if_false,Kx] at this
    exact Qi C T.sq (Eu hy) this)
   rw[<- Ym,<- Dy] at this
   exact this
  obtain ⟨xk,ek⟩:=Gs (p:=p) (i:=i+k) (by omega)
  have hyx:blt y xk=true:=by
   have:=t2 k (Aj _) (by omega)
   rw[val k xk ek] at this
   simpa only [Ho,Bz,if_false,aP] using this
  by_cases h2:k > 0
  ·rw[if_pos h2]
   by_cases h3:i+k+1=p.size
   ·rw[if_pos (by rw[h3]; exact beq_self_eq_true _)]
    exact Bi ⟨kp',T.last_end C M1 h3⟩
   ·rw[if_neg (λz=>h3 (Ef z)),if_neg (λz=>by have:=Ef z; omega)]
    exact uZ C T kp' hk' M1 (by omega) hj (by omega) ek hy hyx
  ·rw[if_neg h2]
   have hk0:k=0:=by omega
   subst hk0
   exact uZ C T kp' hk' M hi hj hn ek hy hyx
theorem qP(C:Cmp prog w A s kd Ok blt){p q:Array Keyed}{x0 y0 xl:Keyed}(T:Two Ok blt p q x0 y0 xl){st:Bx}(hk:kindOf st=kd){Q:Array Keyed->Bx->Prop}(h:∀r st',Kept st st'->qT blt p q r->Q r st'):wpS (model prog w) A E s (mR p q) Q st:=by
 have p0:0<p.size:=by
  have:=(Ic.mp T.hx0).1
  exact this
 have q0:0<q.size:=by
  have:=(Ic.mp T.hy0).1
  exact this
 have M0:LI blt p q #[y0] 0 1:=by
  have m:LI blt p q #[] 0 0:=⟨by simp,by simp,λo ho=>by simp at ho,λo ho=>by simp at ho⟩
  have:=m.pushY T.sq (Eu T.hy0) (Qi C T.sp (Eu T.hx0) (C.ofLt T.first))
  simpa using this
 unfold mR
 refine Ba (Vf ?_)
 refine Ba (Gk T.hy0 ?_)
 dsimp only
 by_cases h1:1=q.size
 ·rw[if_pos (by rw[<- h1]; rfl)]
  exact Bi (h _ _ (Kept.refl _) (T.done_end M0 (by omega)))
 w_pre d10
 by_cases h2:0+1=p.size
 ·rw[if_pos (by rw[<- h2]; rfl)]
  exact Bi (h _ _ (Kept.refl _) (T.last_end C M0 (by omega)))
 rw[if_neg (λz=>h2 (Ef z))]
 w_pre n8
 refine Ba (Ib (Ex
  (I:=λx c st'=>Kept st st'/\∃out i j g,c=(none,out,i,j,g)/\LI blt p q out i j/\i+1<p.size/\j<q.size/\x+1<=i+j)
  (Q:=λc st'=>Kept st st'/\∃r Ie,c=(some r,Ie)/\qT blt p q r) ?_ ?_ ⟨Kept.refl _,_,0,1,_,rfl,M0,by omega,by omega,by omega⟩) ?_)
 ·rintro x c st1 _ hx ⟨kp1,out,i,j,g,rfl,M,hi,hj,hn⟩
  dsimp only
  -- one by one
  refine Ba (Ib (Ex
   (I:=λ_ c st'=>st'=st1/\∃out i j ac bc,c=(none,out,i,j,ac,bc)/\LI blt p q out i j/\i+1<p.size/\j<q.size/\x+1<=i+j)
   (Q:=λc st'=>st'=st1/\((∃r Ie,c=(some r,Ie)/\qT blt p q r)\/∃out i j ac bc,c=(none,out,i,j,ac,bc)/\LI blt p q out i j/\i+1<p.size/\j<q.size/\x+1<=i+j)) ?_ ?_ ⟨rfl,out,i,j,0,0,rfl,M,hi,hj,hn⟩) ?_)
  ·rintro z c st2 _ hz ⟨rfl,out,i,j,ac,bc,rfl,M,hi,hj,hn⟩
   dsimp only
   obtain ⟨yy,hy⟩:=Gs (p:=q) hj
   obtain ⟨xx,hx⟩:=Gs (p:=p) (i:=i) (by omega)
   w_pre v2
   dsimp only
   cases hb:blt yy xx with
   | true =>
    w_pre g8
    w_pre x8
    have M1:LI blt p q (out.push yy) i (j+1):=by
     have:=M.pushY T.sq (Eu hy) (Qi C T.sp (Eu hx) (C.ofLt hb))
     rw[<- Pa] at this
     exact this
    by_cases e1:j+1=q.size
    ·rw[if_pos (by rw[e1]; exact beq_self_eq_true _)]
     exact Bi ⟨rfl,.inl ⟨_,_,rfl,T.done_end M1 (by omega)⟩⟩
    ·rw[if_neg (λz=>e1 (Ef z))]
     split
     ·exact Bi ⟨rfl,.inr ⟨_,_,_,_,_,rfl,M1,hi,by omega,by omega⟩⟩
     ·exact Bi ⟨rfl,_,_,_,_,_,rfl,M1,hi,by omega,by omega⟩
   | false =>
    w_pre m8
    w_pre w8
    have M1:LI blt p q (out.push xx) (i+1) j:=by
     have:=M.pushX T.sp (Eu hx) (Qi C T.sq (Eu hy) hb)
     rw[<- Pa] at this
     exact this
    by_cases e1:i+1+1=p.size
    ·rw[if_pos (by rw[e1]; exact beq_self_eq_true _)]
     exact Bi ⟨rfl,.inl ⟨_,_,rfl,T.last_end C M1 (by omega)⟩⟩
    ·rw[if_neg (λz=>e1 (Ef z))]
     split
     ·exact Bi ⟨rfl,.inr ⟨_,_,_,_,_,rfl,M1,by omega,hj,by omega⟩⟩
     ·exact Bi ⟨rfl,_,_,_,_,_,rfl,M1,by omega,hj,by omega⟩
  ·rintro c st2 ⟨rfl,out,i,j,ac,bc,rfl,M⟩
   exact ⟨rfl,.inr ⟨out,i,j,ac,bc,rfl,M⟩⟩
  ·rintro c st2 ⟨rfl,hc⟩
   rcases hc with ⟨r,Ie,rfl,hr⟩ | ⟨out,i,j,ac,bc,rfl,M,hi,hj,hn⟩
   ·exact Bi ⟨kp1,r,_,rfl,hr⟩
   ·dsimp only
    refine Ba (Vf ?_)
    -- the gallop
    refine Ba (Ib (Ex
     (I:=λy c st'=>Kept st st'/\∃out i j g ac bc,c=(none,out,i,j,g,ac,bc)/\LI blt p q out i j/\i+1<p.size/\j<q.size/\(if y=0 then x+1<=i+j else x+2<=i+j))
     (Q:=λc st'=>Kept st st'/\((∃r Ie,c=(some r,Ie)/\qT blt p q r)\/∃out i j g ac bc,c=(none,out,i,j,g,ac,bc)/\LI blt p q out i j/\i+1<p.size/\j<q.size/\x+2<=i+j)) ?_ ?_
     ⟨kp1,out,i,j,_,ac,bc,rfl,M,hi,hj,by rw[if_pos rfl]; exact hn⟩) ?_)
    ·rintro y c Qn _ hy ⟨kp3,out,i,j,g,ac,bc,rfl,M,hi,hj,hn⟩
     have hn':x+1<=i+j:=by split at hn <;> omega
     have key:∀g',wpS (model prog w) A E s (CF p q out i j g' ac bc) (FK blt p q st (x+1)) Qn:=λg'=>R3 C T kp3 (kp3.kind.trans hk) M hi hj hn'
     dsimp only
     refine Ib (?_:wpS (model prog w) A E s _ (FK blt p q st (x+1)) Qn) λr st4 hr=>?_
     w_pre a1
     ·obtain ⟨kp4,hr⟩:=hr
      match r,hr with
      | .done (some r,Ie),hr=>exact ⟨kp4,.inl ⟨r,Ie,rfl,hr⟩⟩
      | .done (none,out,i,j,g,ac,bc),hr=>exact ⟨kp4,.inr ⟨out,i,j,g,ac,bc,rfl,hr.1,hr.2.1,hr.2.2.1,by have:=hr.2.2.2; omega⟩⟩
      | .yield (none,out,i,j,g,ac,bc),hr=>exact ⟨kp4,out,i,j,g,ac,bc,rfl,hr.1,hr.2.1,hr.2.2.1,by rw[if_neg (by omega)]; have:=hr.2.2.2; omega⟩
    ·rintro c Qn ⟨kp3,out,i,j,g,ac,bc,rfl,M,hi,hj,hn⟩
     rw[if_neg (by omega)] at hn
     exact ⟨kp3,.inr ⟨out,i,j,g,ac,bc,rfl,M,hi,hj,hn⟩⟩
    ·rintro c Qn ⟨kp3,hc⟩
     rcases hc with ⟨r,Ie,rfl,hr⟩ | ⟨out,i,j,g,ac,bc,rfl,M,hi,hj,hn⟩
     ·exact Bi ⟨kp3,r,_,rfl,hr⟩
     ·dsimp only
      refine Ba (Ve λst4 kp4=>?_)
      exact Bi ⟨kp3.trans kp4,out,i,j,_,rfl,M,hi,hj,by omega⟩
 ·rintro c st1 ⟨kp1,out,i,j,g,rfl,M,hi,hj,hn⟩
  w_pre o6
  rw[this] at hn
  omega
 w_pre r6
end
def qA:Array Keyed->Array Keyed->StateT Bx Sem (Array Keyed):=sortPriv% PySem.Builtin.mergeHi
abbrev EB(p q out:Array Keyed)(m n:Nat):Array Keyed:=p.extract 0 m++q.extract 0 n++out.reverse
abbrev IQ(p q out:Array Keyed)(m n:Nat):Array Keyed:=q.extract 0 n++p.extract 0 m++out.reverse
abbrev N6:=Option (Array Keyed)×Nat×Nat×Array Keyed×Nat×Nat×Nat
def T1(p q out:Array Keyed)(m n g ac k:Nat):StateT Bx Sem (ForInStep N6):=do
 let x <- elem' p (m - 1)
 if (m - 1 == 0)=true then pure (Df (some (EB p q (out.push x) (m - 1) n),m - 1,n,out.push x,g,ac,k))
 else if (decide (ac<7) && decide (k<7))=true then pure (Df (none,m - 1,n,out.push x,g,ac,k))
 else pure (Et (none,m - 1,n,out.push x,g,ac,k))
def R6(p q out:Array Keyed)(m n g ac bc:Nat):StateT Bx Sem (ForInStep N6):=do
 let y <- elem' q (n - 1)
 if (n - 1 == 1)=true then pure (Df (some (IQ p q (out.push y) m (n - 1)),m,n - 1,out.push y,g,ac,bc))
 else do
  let x <- elem' p (m - 1)
  let some t <- Vh true x q 0 (n - 1) (n - 1 - 1) | pure (Df (some (EB p q (out.push y) m (n - 1)),m,n - 1,out.push y,g,ac,bc))
  if n - 1 - t > 0 then
   if (t == 1)=true then pure (Df (some (IQ p q (out.push y++(q.extract t (n - 1)).reverse) m t),m,t,out.push y++(q.extract t (n - 1)).reverse,g,ac,n - 1 - t))
   else if (t == 0)=true then pure (Df (some (EB p q (out.push y++(q.extract t (n - 1)).reverse) m t),m,t,out.push y++(q.extract t (n - 1)).reverse,g,ac,n - 1 - t))
   else T1 p q (out.push y++(q.extract t (n - 1)).reverse) m t g ac (n - 1 - t)
  else T1 p q (out.push y) m (n - 1) g ac (n - 1 - t)
def DY(p q out:Array Keyed)(m n g ac bc:Nat):StateT Bx Sem (ForInStep N6):=do
 bS g
 let y <- elem' q (n - 1)
 let some t <- Vh false y p 0 m (m - 1) | pure (Df (some (EB p q out m n),m,n,out,g,ac,bc))
 if m - t > 0 then
  if (t == 0)=true then pure (Df (some (EB p q (out++(p.extract t m).reverse) t n),t,n,out++(p.extract t m).reverse,g,m - t,bc))
  else R6 p q (out++(p.extract t m).reverse) t n g (m - t) bc
 else R6 p q out m n g (m - t) bc
section
variable{α:Type}{R:α->α->Prop}{xs ys out:List α}{i j:Nat}
theorem MI.swap(M:MI R xs ys out i j):MI R ys xs out j i:=⟨M.perm.trans El,M.srt,M.ly,M.lx⟩
theorem MI.endXY(M:MI R xs ys out i j)(sx:xs.Pairwise R)(sy:ys.Pairwise R)(h:∀x∈xs.drop i,∀y∈ys.drop j,R x y):(out++xs.drop i++ys.drop j).Perm (xs++ys)/\(out++xs.drop i++ys.drop j).Pairwise R:=by
 have:=M.swap.endYX sy sx h
 exact ⟨this.1.trans El,this.2⟩
end
abbrev ge(blt:Keyed->Keyed->Bool)(x y:Keyed):Prop:=le blt y x
abbrev HI(blt:Keyed->Keyed->Bool)(p q out:Array Keyed)(m n:Nat):Prop:=MI (ge blt) p.toList.reverse q.toList.reverse out.toList (p.size - m) (q.size - n)
theorem Kn(p:Array Keyed){m:Nat}(h:m<=p.size):p.toList.reverse.drop (p.size - m)=(p.toList.take m).reverse:=by
 rw[List.drop_reverse,Am]
 congr 2
 omega
theorem F5{p:Array Keyed}{m:Nat}{x:Keyed}(h0:0<m)(h:m<=p.size)(e:p[m - 1]? = some x):p.toList.reverse[p.size - m]? = some x:=by
 rw[Wc (by rw[Am]; omega),Am,show p.size - 1 - (p.size - m)=m - 1 by omega]
 exact Eu e
theorem R8(p:Array Keyed)(m:Nat):(p.extract 0 m).toList=p.toList.take m:=by
 rw[Ov,Lr,Nk,Nat.sub_zero]
theorem FG(p:Array Keyed){t m:Nat}(h1:t<=m)(h2:m<=p.size):(p.extract t m).reverse.toList=(p.toList.reverse.drop (p.size - m)).take (m - t):=by
 rw[Kn p h2,List.take_reverse,Wl,Ov,Lr,Cy,Am,List.drop_take]
 congr 2
 ·omega
 ·congr 1
  omega
section
variable{prog:Bk}{w:World}{A:Ci}{s:Ai}{kd:Mz}{Ok:Keyed->Prop}{blt:Keyed->Keyed->Bool}{E:Value->Ai->Prop}
theorem Kq{l:List Keyed}(h:l.Pairwise (le blt)):l.reverse.Pairwise (ge blt):=Wa.mpr h
theorem Two.dn_end{p q out:Array Keyed}{x0 y0 xl:Keyed}(T:Two Ok blt p q x0 y0 xl){m n:Nat}(M:HI blt p q out m n)(hm:m<=p.size)(hn:n<=q.size)(h:m=0\/n=0):qT blt p q (EB p q out m n):=by
 have h1:=M.endYX (Kq T.sp) (Kq T.sq) (λy hy x hx=>by
  rw[Kn p hm] at hx
  rw[Kn q hn] at hy
  rcases h with h | h
  ·subst h; simp at hx
  ·subst h; simp at hy)
 rw[Kn p hm,Kn q hn] at h1
 have e:(EB p q out m n).toList=(out.toList++(q.toList.take n).reverse++(p.toList.take m).reverse).reverse:=by
  rw[Dy,Dy,R8,R8,Wl]
  simp
 w_pre k0
theorem Two.fs_end(C:Cmp prog w A s kd Ok blt){p q out:Array Keyed}{x0 y0 xl:Keyed}(T:Two Ok blt p q x0 y0 xl){m n:Nat}(M:HI blt p q out m n)(hm:m<=p.size)(hn:n=1)(hq:1<=q.size):qT blt p q (IQ p q out m n):=by
 subst hn
 have h1:=M.endXY (Kq T.sp) (Kq T.sq) (λx hx y hy=>by
  rw[Kn p hm] at hx
  rw[Kn q hq] at hy
  have ey:y=y0:=by
   have : y∈q.toList.take 1:=Ti.mp hy
   obtain ⟨k,hk,e⟩:=Gh.mp this
   have hk0:k=0:=by
    rw[Cy] at hk
    omega
   subst hk0
   have e2:q.toList[0]? = some y:=by
    rw[<- e,<- Bt hk,Jh (by omega)]
   rw[Eu T.hy0] at e2
   exact (Ca e2).symm
  rw[ey]
  have hx':x∈p.toList:=List.mem_of_mem_take (Ti.mp hx)
  obtain ⟨k,hk,e⟩:=Gh.mp hx'
  have e2:p.toList[k]? = some x:=by rw[<- e,Bt hk]
  exact C.trans (C.ofLt T.first) (Ly C T.sp (Dq k) (Eu T.hx0) e2))
 rw[Kn p hm,Kn q hq] at h1
 have e:(IQ p q out m 1).toList=(out.toList++(p.toList.take m).reverse++(q.toList.take 1).reverse).reverse:=by
  rw[Dy,Dy,R8,R8,Wl]
  simp
 w_pre k0
theorem Vc(C:Cmp prog w A s kd Ok blt){p:Array Keyed}(sp:p.toList.Pairwise (le blt)){m:Nat}{x y:Keyed}(h0:0<m)(hm:m<=p.size)(hx:p[m - 1]? = some x)(h:le blt x y):∀z∈p.toList.reverse.drop (p.size - m),ge blt y z:=λz hz=>by
 rw[Kn p hm] at hz
 obtain ⟨k,hk,e⟩:=Gh.mp (Ti.mp hz)
 have e2:p.toList[k]? = some z:=by
  rw[Cy] at hk
  rw[<- e,<- Bt (by rw[Cy]; exact hk),Jh (by omega)]
 rw[Cy] at hk
 exact C.trans (Ly C sp (by omega) e2 (Eu hx)) h
theorem HI.pushX(C:Cmp prog w A s kd Ok blt){p q out:Array Keyed}{x0 y0 xl:Keyed}(T:Two Ok blt p q x0 y0 xl){m n:Nat}(M:HI blt p q out m n)(h0:0<m)(hm:m<=p.size){x:Keyed}(hx:p[m - 1]? = some x)(h:∀z∈q.toList.reverse.drop (q.size - n),ge blt x z):HI blt p q (out.push x) (m - 1) n:=by
 have:=MI.pushX M (Kq T.sp) (F5 h0 hm hx) h
 rw[<- Pa,show p.size - m+1=p.size - (m - 1) by omega] at this
 exact this
theorem HI.pushY(C:Cmp prog w A s kd Ok blt){p q out:Array Keyed}{x0 y0 xl:Keyed}(T:Two Ok blt p q x0 y0 xl){m n:Nat}(M:HI blt p q out m n)(h0:0<n)(hn:n<=q.size){y:Keyed}(hy:q[n - 1]? = some y)(h:∀z∈p.toList.reverse.drop (p.size - m),ge blt y z):HI blt p q (out.push y) m (n - 1):=by
 have:=MI.pushY M (Kq T.sq) (F5 h0 hn hy) h
 rw[<- Pa,show q.size - n+1=q.size - (n - 1) by omega] at this
 exact this
def FF(blt:Keyed->Keyed->Bool)(p q:Array Keyed)(st:Bx)(b:Nat)(r:ForInStep N6)(st':Bx):Prop:=Kept st st'/\match r with
 | .done (some r,_)=>qT blt p q r
 | .done (none,m,n,out,_)=>HI blt p q out m n/\0<m/\m<=p.size/\1<n/\n<=q.size/\m+n<b
 | .yield (none,m,n,out,_)=>HI blt p q out m n/\0<m/\m<=p.size/\1<n/\n<=q.size/\m+n<b
 | .yield (some _,_)=>False
theorem tR(C:Cmp prog w A s kd Ok blt){p q out:Array Keyed}{x0 y0 xl:Keyed}(T:Two Ok blt p q x0 y0 xl){m n g ac k b:Nat}{st0 st:Bx}(kp:Kept st0 st)(M:HI blt p q out m n)(m0:0<m)(hm:m<=p.size)(n0:1<n)(hn:n<=q.size)(hb:m+n<=b){x:Keyed}(hx:p[m - 1]? = some x)(hq:∀z∈q.toList.reverse.drop (q.size - n),ge blt x z):wpS (model prog w) A E s (T1 p q out m n g ac k) (FF blt p q st0 b) st:=by
 unfold T1
 w_pre w8
 have M1:=HI.pushX C T M m0 hm hx hq
 by_cases h1:m - 1=0
 ·rw[if_pos (by rw[h1]; rfl)]
  exact Bi ⟨kp,T.dn_end M1 (by omega) hn (.inl h1)⟩
 ·rw[if_neg (λz=>h1 (Ef z))]
  w_pre j10
  ·rw[if_pos h2]
   w_pre g10
  ·rw[if_neg h2]
   w_pre g10
theorem vG(C:Cmp prog w A s kd Ok blt){p q out:Array Keyed}{x0 y0 xl:Keyed}(T:Two Ok blt p q x0 y0 xl){m n g ac bc b:Nat}{st0 st:Bx}(kp:Kept st0 st)(hk:kindOf st=kd)(M:HI blt p q out m n)(m0:0<m)(hm:m<=p.size)(n0:1<n)(hn:n<=q.size)(hb:m+n<=b){x y:Keyed}(hx:p[m - 1]? = some x)(hy:q[n - 1]? = some y)(hxy:le blt x y):wpS (model prog w) A E s (R6 p q out m n g ac bc) (FF blt p q st0 b) st:=by
 unfold R6
 w_pre x8
 have M1:=HI.pushY C T M (by omega) hn hy (Vc C T.sp m0 hm hx hxy)
 by_cases h1:n - 1=1
 ·rw[if_pos (by rw[h1]; rfl)]
  exact Bi ⟨kp,T.fs_end C M1 hm h1 (by omega)⟩
 w_pre d10
 w_pre w8
 have val:∀i yy,q[i]? = some yy->q.getD (0+i) y=yy:=λi yy e=>by rw[Nt]; simp [Cz,e]
 have R:Row Ok q 0 (n - 1) (λi=>q.getD (0+i) y):=⟨λi hi=>by
  w_pre s10
  rw[val i ya ea,Nt,ea],λi hi=>by
  w_pre s10
  show Ok (q.getD (0+i) y)
  rw[val i ya ea]
  exact T.oq ya (Km ea)⟩
 refine Ba (Pb C R (T.op x (Km hx)) hk (by omega) (λa c hab hc q1=>?_) λt ht t1 t2=>?_)
 ·obtain ⟨ya,ea⟩:=Gs (p:=q) (i:=a) (by omega)
  obtain ⟨yc,ec⟩:=Gs (p:=q) (i:=c) (by omega)
  simp only[val a ya ea,val c yc ec,Ho,if_true] at q1 ⊢
  exact C.leLt (Ly C T.sq hab (Eu ea) (Eu ec)) q1
 dsimp only
 have M2:HI blt p q (out.push y++(q.extract t (n - 1)).reverse) m t:=by
  have:=MI.blockY M1 (Kq T.sq) (n - 1 - t) (by rw[List.length_reverse,Am]; omega) (λi hi yy ey=>by
   have e1:q[n - 1 - i - 1]? = some yy:=by
    rw[Wc (by rw[Am]; omega),Am,show q.size - 1 - (q.size - (n - 1)+i)=n - 1 - i - 1 by omega] at ey
    simpa using ey
   have:=t2 (n - 1 - i - 1) (by omega) (by omega)
   rw[val _ yy e1] at this
   have z:blt yy x=false:=by simpa only [Ho,if_true] using this
   exact Vc C T.sp m0 hm hx z)
  rw[<- FG q (by omega) (by omega),<- Dy,show q.size - (n - 1)+(n - 1 - t)=q.size - t by omega] at this
  exact this
 -- what is left of q is below x
 have below:∀z∈q.toList.reverse.drop (q.size - t),ge blt x z:=λz hz=>by
  rw[Kn q (by omega)] at hz
  obtain ⟨k,hk',e⟩:=Gh.mp (Ti.mp hz)
  rw[Cy] at hk'
  have e2:q.toList[k]? = some z:=by
   rw[<- e,<- Bt (by rw[Cy]; exact hk'),Jh (by omega)]
  have e3:q[k]? = some z:=by simpa using e2
  have:=t1 k (by omega)
  rw[val k z e3] at this
  exact C.ofLt (by simpa only [Ho,if_true] using this)
 by_cases h2:n - 1 - t > 0
 ·rw[if_pos h2]
  by_cases h3:t=1
  ·rw[if_pos (by rw[h3]; rfl)]
   exact Bi ⟨kp,T.fs_end C M2 hm h3 (by omega)⟩
  ·rw[if_neg (λz=>h3 (Ef z))]
   by_cases h4:t=0
   ·rw[if_pos (by rw[h4]; rfl)]
    exact Bi ⟨kp,T.dn_end M2 hm (by omega) (.inr h4)⟩
   ·rw[if_neg (λz=>h4 (Ef z))]
    exact tR C T kp M2 m0 hm (by omega) (by omega) (by omega) hx below
 ·rw[if_neg h2]
  have et:t=n - 1:=by omega
  rw[et] at below
  exact tR C T kp M1 m0 hm (by omega) (by omega) (by omega) hx below
theorem V4(C:Cmp prog w A s kd Ok blt){p q out:Array Keyed}{x0 y0 xl:Keyed}(T:Two Ok blt p q x0 y0 xl){m n g ac bc b:Nat}{st0 st:Bx}(kp:Kept st0 st)(hk:kindOf st=kd)(M:HI blt p q out m n)(m0:0<m)(hm:m<=p.size)(n0:1<n)(hn:n<=q.size)(hb:m+n<=b):wpS (model prog w) A E s (DY p q out m n g ac bc) (FF blt p q st0 b) st:=by
 unfold DY
 w_pre c3
 obtain ⟨y,hy⟩:=Gs (p:=q) (i:=n - 1) (by omega)
 w_pre x8
 have val:∀i xx,p[i]? = some xx->p.getD (0+i) y=xx:=λi xx e=>by rw[Nt]; simp [Cz,e]
 have R:Row Ok p 0 m (λi=>p.getD (0+i) y):=⟨λi hi=>by
  w_pre t10
  rw[val i xa ea,Nt,ea],λi hi=>by
  w_pre t10
  show Ok (p.getD (0+i) y)
  rw[val i xa ea]
  exact T.op xa (Km ea)⟩
 refine Ba (Pb C R (T.oq y (Km hy)) hk' (by omega) (λa c hab hc q1=>?_) λt ht t1 t2=>?_)
 ·obtain ⟨xa,ea⟩:=Gs (p:=p) (i:=a) (by omega)
  obtain ⟨xc,ec⟩:=Gs (p:=p) (i:=c) (by omega)
  simp only[val a xa ea,val c xc ec,Ho,Bz,if_false,Kx] at q1 ⊢
  exact C.trans (Ly C T.sp hab (Eu ea) (Eu ec)) q1
 dsimp only
 have M1:HI blt p q (out++(p.extract t m).reverse) t n:=by
  have:=MI.blockX M (Kq T.sp) (m - t) (by rw[List.length_reverse,Am]; omega) (λi hi xx ex=>by
   have e1:p[m - i - 1]? = some xx:=by
    rw[Wc (by rw[Am]; omega),Am,show p.size - 1 - (p.size - m+i)=m - i - 1 by omega] at ex
    simpa using ex
   have:=t2 (m - i - 1) (by omega) (by omega)
   rw[val _ xx e1] at this
   have z:blt y xx=true:=by simpa only [Ho,Bz,if_false,aP] using this
   exact Vc C T.sq (by omega) hn hy (C.ofLt z))
  rw[<- FG p (by omega) hm,<- Dy,show p.size - m+(m - t)=p.size - t by omega] at this
  exact this
 have below:∀x,0<t->p[t - 1]? = some x->le blt x y:=λx h0 hx=>by
  have:=t1 (t - 1) (by omega)
  rw[val _ x hx] at this
  have z:blt y x=false:=by simpa only [Ho,Bz,if_false,Kx] using this
  exact z
 by_cases h2:m - t > 0
 ·rw[if_pos h2]
  by_cases h3:t=0
  ·rw[if_pos (by rw[h3]; rfl)]
   exact Bi ⟨kp',T.dn_end M1 (by omega) hn (.inl h3)⟩
  ·rw[if_neg (λz=>h3 (Ef z))]
   w_pre l10
   exact vG C T kp' hk' M1 (by omega) (by omega) n0 hn (by omega) hx hy (below x (by omega) hx)
 ·rw[if_neg h2]
  have et:t=m:=by omega
  subst et
  w_pre l10
  exact vG C T kp' hk' M m0 hm n0 hn hb hx hy (below x m0 hx)
theorem sF(C:Cmp prog w A s kd Ok blt){p q:Array Keyed}{x0 y0 xl:Keyed}(T:Two Ok blt p q x0 y0 xl){st:Bx}(hk:kindOf st=kd){Q:Array Keyed->Bx->Prop}(h:∀r st',Kept st st'->qT blt p q r->Q r st'):wpS (model prog w) A E s (qA p q) Q st:=by
 have p0:0<p.size:=(Ic.mp T.hx0).1
 have q0:0<q.size:=(Ic.mp T.hy0).1
 obtain ⟨yl,hyl⟩:=Gs (p:=q) (i:=q.size - 1) (by omega)
 have M0:HI blt p q #[xl] (p.size - 1) q.size:=by
  have m:HI blt p q #[] p.size q.size:=⟨by simp,by simp,λo ho=>by simp at ho,λo ho=>by simp at ho⟩
  have:=HI.pushX C T m p0 (Aj _) T.hxl (Vc C T.sq q0 (Aj _) hyl (C.ofLt (T.last yl (Km hyl))))
  simpa using this
 unfold qA
 refine Ba (Vf ?_)
 refine Ba (Gk T.hxl ?_)
 dsimp only
 by_cases h1:p.size - 1=0
 ·rw[if_pos (by rw[h1]; rfl)]
  exact Bi (h _ _ (Kept.refl _) (T.dn_end M0 (by omega) (by omega) (.inl h1)))
 w_pre d10
 by_cases h2:q.size=1
 ·rw[if_pos (by rw[h2]; rfl)]
  exact Bi (h _ _ (Kept.refl _) (T.fs_end C M0 (by omega) h2 (by omega)))
 rw[if_neg (λz=>h2 (Ef z))]
 w_pre n8
 refine Ba (Ib (Ex
  (I:=λx c st'=>Kept st st'/\∃m n out g,c=(none,m,n,out,g)/\HI blt p q out m n/\0<m/\m<=p.size/\1<n/\n<=q.size/\m+n+x+1<=p.size+q.size)
  (Q:=λc st'=>Kept st st'/\∃r Ie,c=(some r,Ie)/\qT blt p q r) ?_ ?_ ⟨Kept.refl _,_,_,_,_,rfl,M0,by omega,by omega,by omega,by omega,by omega⟩) ?_)
 ·rintro x c st1 _ hx ⟨kp1,m,n,out,g,rfl,M,m0,hm,n0,hn,hb⟩
  dsimp only
  -- one by one
  refine Ba (Ib (Ex
   (I:=λ_ c st'=>st'=st1/\∃m n out ac bc,c=(none,m,n,out,ac,bc)/\HI blt p q out m n/\0<m/\m<=p.size/\1<n/\n<=q.size/\m+n+x+1<=p.size+q.size)
   (Q:=λc st'=>st'=st1/\((∃r Ie,c=(some r,Ie)/\qT blt p q r)\/∃m n out ac bc,c=(none,m,n,out,ac,bc)/\HI blt p q out m n/\0<m/\m<=p.size/\1<n/\n<=q.size/\m+n+x+1<=p.size+q.size)) ?_ ?_ ⟨rfl,m,n,out,0,0,rfl,M,m0,hm,n0,hn,hb⟩) ?_)
  ·rintro z c st2 _ hz ⟨rfl,m,n,out,ac,bc,rfl,M,m0,hm,n0,hn,hb⟩
   dsimp only
   obtain ⟨yy,hy⟩:=Gs (p:=q) (i:=n - 1) (by omega)
   obtain ⟨xx,hx⟩:=Gs (p:=p) (i:=m - 1) (by omega)
   w_pre v2
   dsimp only
   cases hlt:blt yy xx with
   | true =>
    w_pre g8
    w_pre w8
    have M1:=HI.pushX C T M m0 hm hx (Vc C T.sq (by omega) hn hy (C.ofLt hlt))
    by_cases e1:m - 1=0
    ·rw[if_pos (by rw[e1]; rfl)]
     exact Bi ⟨rfl,.inl ⟨_,_,rfl,T.dn_end M1 (by omega) hn (.inl e1)⟩⟩
    ·rw[if_neg (λz=>e1 (Ef z))]
     split
     ·exact Bi ⟨rfl,.inr ⟨_,_,_,_,_,rfl,M1,by omega,by omega,n0,hn,by omega⟩⟩
     ·exact Bi ⟨rfl,_,_,_,_,_,rfl,M1,by omega,by omega,n0,hn,by omega⟩
   | false =>
    w_pre m8
    w_pre x8
    have M1:=HI.pushY C T M (by omega) hn hy (Vc C T.sp m0 hm hx hlt)
    by_cases e1:n - 1=1
    ·rw[if_pos (by rw[e1]; rfl)]
     exact Bi ⟨rfl,.inl ⟨_,_,rfl,T.fs_end C M1 hm e1 (by omega)⟩⟩
    ·rw[if_neg (λz=>e1 (Ef z))]
     split
     ·exact Bi ⟨rfl,.inr ⟨_,_,_,_,_,rfl,M1,m0,hm,by omega,by omega,by omega⟩⟩
     ·exact Bi ⟨rfl,_,_,_,_,_,rfl,M1,m0,hm,by omega,by omega,by omega⟩
  ·rintro c st2 ⟨rfl,m,n,out,ac,bc,rfl,M⟩
   exact ⟨rfl,.inr ⟨m,n,out,ac,bc,rfl,M⟩⟩
  ·rintro c st2 ⟨rfl,hc⟩
   rcases hc with ⟨r,Ie,rfl,hr⟩ | ⟨m,n,out,ac,bc,rfl,M,m0,hm,n0,hn,hb⟩
   ·exact Bi ⟨kp1,r,_,rfl,hr⟩
   ·dsimp only
    refine Ba (Vf ?_)
    -- the gallop
    refine Ba (Ib (Ex
     (I:=λy c st'=>Kept st st'/\∃m n out g ac bc,c=(none,m,n,out,g,ac,bc)/\HI blt p q out m n/\0<m/\m<=p.size/\1<n/\n<=q.size/\(if y=0 then m+n+x+1<=p.size+q.size else m+n+x+2<=p.size+q.size))
     (Q:=λc st'=>Kept st st'/\((∃r Ie,c=(some r,Ie)/\qT blt p q r)\/∃m n out g ac bc,c=(none,m,n,out,g,ac,bc)/\HI blt p q out m n/\0<m/\m<=p.size/\1<n/\n<=q.size/\m+n+x+2<=p.size+q.size)) ?_ ?_
     ⟨kp1,m,n,out,_,ac,bc,rfl,M,m0,hm,n0,hn,by rw[if_pos rfl]; exact hb⟩) ?_)
    ·rintro y c Qn _ hy ⟨kp3,m,n,out,g,ac,bc,rfl,M,m0,hm,n0,hn,hb⟩
     have hb':m+n+x+1<=p.size+q.size:=by split at hb <;> omega
     have key:∀g',wpS (model prog w) A E s (DY p q out m n g' ac bc) (FF blt p q st (m+n)) Qn:=λg'=>V4 C T kp3 (kp3.kind.trans hk) M m0 hm n0 hn (Aj _)
     dsimp only
     refine Ib (?_:wpS (model prog w) A E s _ (FF blt p q st (m+n)) Qn) λr st4 hr=>?_
     w_pre a1
     ·obtain ⟨kp4,hr⟩:=hr
      match r,hr with
      | .done (some r,Ie),hr=>exact ⟨kp4,.inl ⟨r,Ie,rfl,hr⟩⟩
      | .done (none,m',n',out',g',ac',bc'),hr=>exact ⟨kp4,.inr ⟨m',n',out',g',ac',bc',rfl,hr.1,hr.2.1,hr.2.2.1,hr.2.2.2.1,hr.2.2.2.2.1,by have:=hr.2.2.2.2.2; omega⟩⟩
      | .yield (none,m',n',out',g',ac',bc'),hr=>exact ⟨kp4,m',n',out',g',ac',bc',rfl,hr.1,hr.2.1,hr.2.2.1,hr.2.2.2.1,hr.2.2.2.2.1,by rw[if_neg (by omega)]; have:=hr.2.2.2.2.2; omega⟩
    ·rintro c Qn ⟨kp3,m,n,out,g,ac,bc,rfl,M,m0,hm,n0,hn,hb⟩
     rw[if_neg (by omega)] at hb
     exact ⟨kp3,.inr ⟨m,n,out,g,ac,bc,rfl,M,m0,hm,n0,hn,hb⟩⟩
    ·rintro c Qn ⟨kp3,hc⟩
     rcases hc with ⟨r,Ie,rfl,hr⟩ | ⟨m,n,out,g,ac,bc,rfl,M,m0,hm,n0,hn,hb⟩
     ·exact Bi ⟨kp3,r,_,rfl,hr⟩
     ·dsimp only
      refine Ba (Ve λst4 kp4=>?_)
      exact Bi ⟨kp3.trans kp4,m,n,out,_,rfl,M,m0,hm,n0,hn,by omega⟩
 ·rintro c st1 ⟨kp1,m,n,out,g,rfl,M,m0,hm,n0,hn,hb⟩
  w_pre o6
  rw[this] at hb
  omega
 w_pre r6
end
def iD:Nat->Nat->StateT Bx Sem (Option Nat):=sortPriv% PySem.Builtin.countRun
def aW:Nat->Nat->Nat->StateT Bx Sem Bool:=sortPriv% PySem.Builtin.binarySort
def X(xs:Array Keyed)(i:Nat):Keyed:=xs[i]?.getD (Gq,Gq)
theorem bI{xs:Array Keyed}{i:Nat}(h:i<xs.size):xs[i]? = some (X xs i):=by
 unfold X
 rw[getElem?_pos xs i h]
 rfl
theorem Sq{xs ys:Array Keyed}{i j:Nat}(h:xs[i]? = ys[j]?):X xs i=X ys j:=by unfold X; rw[h]
theorem Um{xs:Array Keyed}{i j:Nat}(hj:j<=xs.size)(k:Nat):X (mirror xs i j ((j - i) / 2)) k=if i<=k/\k<j then X xs (i+j - 1 - k) else X xs k:=by
 have e:=getElem?_mirror_all (i:=i) hj k
 by_cases h:i<=k/\k<j
 ·rw[if_pos h] at e ⊢; exact Sq e
 ·rw[if_neg h] at e ⊢; exact Sq e
theorem J0{xs:Array Keyed}{src d:Nat}(hs:src<xs.size)(hd:d<=src)(k:Nat):X (bubble xs src d) k=if k=src - d then X xs src else if src - d<k/\k<=src then X xs (k - 1) else X xs k:=by
 have e:=getElem?_bubble hs d hd k
 by_cases h1:k=src - d
 ·rw[if_pos h1] at e ⊢; exact Sq e
 ·rw[if_neg h1] at e ⊢
  by_cases h2:src - d<k/\k<=src
  ·rw[if_pos h2] at e ⊢; exact Sq e
  ·rw[if_neg h2] at e ⊢; exact Sq e
def Ua(blt:Keyed->Keyed->Bool)(xs:Array Keyed)(a b:Nat):Prop:=∀i j,a<=i->i<=j->j<b->le blt (X xs i) (X xs j)
def zF(blt:Keyed->Keyed->Bool)(xs:Array Keyed)(a b:Nat):Prop:=∀i j,a<=i->i<=j->j<b->le blt (X xs j) (X xs i)
structure Good(kd:Mz)(a₀:Array Keyed)(pend:Array (Nat×Nat×Nat))(st:Bx):Prop where
 kind:kindOf st=kd
 fail:My st=none
 perm:(arrOf st).Perm a₀
 pd:Bh st=pend
def mC(xs ys:Array Keyed)(a b:Nat):Prop:=∀i,(i<a\/b<=i)->X ys i=X xs i
theorem mC.refl(xs:Array Keyed)(a b:Nat):mC xs xs a b:=λ_ _=>rfl
theorem mC.trans{xs ys zs:Array Keyed}{a b:Nat}(h:mC xs ys a b)(k:mC ys zs a b):mC xs zs a b:=λi hi=>(k i hi).trans (h i hi)
section
variable{prog:Bk}{w:World}{A:Ci}{s:Ai}{kd:Mz}{Ok:Keyed->Prop}{blt:Keyed->Keyed->Bool}{E:Value->Ai->Prop}{a₀:Array Keyed}{pend:Array (Nat×Nat×Nat)}
theorem Good.size{st:Bx}(g:Good kd a₀ pend st):(arrOf st).size=a₀.size:=g.perm.size_eq
theorem Good.okX{st:Bx}(g:Good kd a₀ pend st)(h0:∀x∈a₀.toList,Ok x){i:Nat}(hi:i<a₀.size):Ok (X (arrOf st) i):=by
 w_pre k5
theorem Good.set{st:Bx}(g:Good kd a₀ pend st){xs:Array Keyed}(h:xs.Perm (arrOf st)):Good kd a₀ pend (setArr st xs):=⟨g.kind,g.fail,h.trans g.perm,g.pd⟩
theorem Xo(C:Cmp prog w A s kd Ok blt){st:Bx}(g:Good kd a₀ pend st)(h0:∀x∈a₀.toList,Ok x){i j:Nat}(hi:i<a₀.size)(hj:j<a₀.size){Q:Option Bool->Bx->Prop}(h:Q (some (blt (X (arrOf st) i) (X (arrOf st) j))) st):wpS (model prog w) A E s (ltAt' i j) Q st:=by
 rw[ltAt'_eq]
 w_pre n8
 refine Ba (Gk (bI (by rw[g.size]; exact hi)) ?_)
 refine Ba (Gk (bI (by rw[g.size]; exact hj)) ?_)
 exact oU C g.kind (g.okX h0 hi) (g.okX h0 hj) h
theorem Sk{st:Bx}{i j:Nat}{Q:Unit->Bx->Prop}(h:Q () (setArr st (mirror (arrOf st) i j ((j - i) / 2)))):wpS (model prog w) A E s (Vt i j) Q st:=by
 rw[reverseSlice'_eq]
 exact Ku h
def FY(lo a b:Nat):StateT Bx Sem (Option (Option Nat)×Nat) :=
 forIn [a:b] ((none,a):Option (Option Nat)×Nat) λ_ c=>do
  let some fZ <- ltAt' (lo+c.2) (lo+c.2 - 1) | pure (Df (some none,c.2))
  if fZ=true then pure (Df (none,c.2)) else pure (Et (none,c.2+1))
theorem A8(C:Cmp prog w A s kd Ok blt){st:Bx}(g:Good kd a₀ pend st)(h0:∀x∈a₀.toList,Ok x){lo a b:Nat}(hb:lo+b<=a₀.size)(ha:1<=a)(hab:a<=b)(h1:Ua blt (arrOf st) lo (lo+a)){Q:Option (Option Nat)×Nat->Bx->Prop}(h:∀n,a<=n->n<=b->Ua blt (arrOf st) lo (lo+n)->(n=b\/blt (X (arrOf st) (lo+n)) (X (arrOf st) (lo+n - 1))=true)->Q (none,n) st):wpS (model prog w) A E s (FY lo a b) Q st:=by
 unfold FY
 refine Ex (I:=λx c st'=>st'=st/\c=(none,x)/\Ua blt (arrOf st) lo (lo+x)) ?_ ?_ ⟨rfl,rfl,h1⟩
 ·rintro x c st' hx1 hx2 ⟨rfl,rfl,hs⟩
  dsimp only
  refine Ba (Xo C g h0 (by omega) (by omega) ?_)
  dsimp only
  cases hl:blt (X (arrOf st') (lo+x)) (X (arrOf st') (lo+x - 1)) with
  | true =>
   w_pre g8
   exact Bi (h x hx1 (by omega) hs (.inr hl))
  | false =>
   w_pre m8
   refine Bi ⟨rfl,rfl,λi j hi hij hj=>?_⟩
   by_cases hjx:j<lo+x
   ·exact hs i j hi hij hjx
   ·have ej:j=lo+x:=by omega
    subst ej
    by_cases hi':i=lo+x
    ·subst hi'; exact C.refl _
    ·exact C.trans (hs i (lo+x - 1) hi (by omega) (by omega)) hl
 ·rintro c st' ⟨rfl,rfl,hs⟩
  rw[show max a b=b by omega] at hs ⊢
  exact h b hab (Aj _) hs (.inl rfl)
theorem rQ{xs:Array Keyed}{lo n:Nat}(hn:lo+n<=xs.size)(h:zF blt xs lo (lo+n)):Ua blt (mirror xs lo (lo+n) ((lo+n - lo) / 2)) lo (lo+n):=λi j hi hij hj=>by
 rw[Um hn,Um hn,if_pos (by omega),if_pos (by omega)]
 exact h _ _ (by omega) (by omega) (by omega)
theorem Zr{xs:Array Keyed}{lo n b e:Nat}(hn:lo+n<=xs.size)(he:e<=lo+n)(hb:lo<=b)(h:zF blt xs lo (lo+n))(eqv:∀i j,b<=i->i<e->b<=j->j<e->le blt (X xs i) (X xs j)):zF blt (mirror xs b e ((e - b) / 2)) lo (lo+n):=λi j hi hij hj=>by
 rw[Um (by omega),Um (by omega)]
 by_cases h1:b<=j/\j<e
 ·rw[if_pos h1]
  by_cases h2:b<=i/\i<e
  ·rw[if_pos h2]
   exact eqv _ _ (by omega) (by omega) (by omega) (by omega)
  ·rw[if_neg h2]
   exact h _ _ hi (by omega) (by omega)
 ·rw[if_neg h1]
  by_cases h2:b<=i/\i<e
  ·rw[if_pos h2]
   exact h _ _ (by omega) (by omega) (by omega)
  ·rw[if_neg h2]
   exact h i j hi hij hj
theorem Sd{xs:Array Keyed}{a b i j:Nat}(h1:a<=i)(h2:j<=b)(h3:j<=xs.size):mC xs (mirror xs i j ((j - i) / 2)) a b:=λk hk=>by
 rw[Um h3,if_neg (by omega)]
def zR(lo n b:Nat):StateT Bx Sem (Option Nat):=do
 Vt lo (lo+n)
 let mut m:=n
 for _ in [n:b] do
  let some fZ <- ltAt' (lo+m) (lo+m - 1) | return none
  if fZ then break
  m:=m+1
 return some m
theorem uI(C:Cmp prog w A s kd Ok blt){st:Bx}(g:Good kd a₀ pend st)(h0:∀x∈a₀.toList,Ok x){lo n b:Nat}(hb:lo+b<=a₀.size)(hn:1<=n)(hnb:n<=b)(h1:zF blt (arrOf st) lo (lo+n)){Q:Option Nat->Bx->Prop}(h:∀m st',Good kd a₀ pend st'->1<=m->m<=b->Ua blt (arrOf st') lo (lo+m)->mC (arrOf st) (arrOf st') lo (lo+b)->Q (some m) st'):wpS (model prog w) A E s (zR lo n b) Q st:=by
 unfold zR
 have hsz:lo+n<=(arrOf st).size:=by rw[g.size]; omega
 refine Ba (Sk ?_)
 have g':Good kd a₀ pend (setArr st (mirror (arrOf st) lo (lo+n) ((lo+n - lo) / 2))):=g.set (mirror_perm _ _ _ _)
 refine Ba (A8 C g' h0 hb hn hnb (rQ hsz h1) λm hm1 hm2 hs _=>?_)
 exact Bi (h m _ g' (by omega) hm2 hs (Sd (Aj _) (by omega) hsz))
abbrev AH:=Option (Option Nat)×Nat×Nat
def GE(lo a b:Nat):StateT Bx Sem AH :=
 forIn [a:b] ((none,a,0):AH) λ_ c=>do
  let some fZ <- ltAt' (lo+c.2.1) (lo+c.2.1 - 1) | pure (Df (some none,c.2.1,c.2.2))
  if fZ=true then
   if c.2.2 > 0 then do
    Vt (lo+c.2.1 - (c.2.2+1)) (lo+c.2.1)
    pure (Et (none,c.2.1+1,0))
   else pure (Et (none,c.2.1+1,0))
  else do
   let some more <- ltAt' (lo+c.2.1 - 1) (lo+c.2.1) | pure (Df (some none,c.2.1,c.2.2))
   if more=true then pure (Df (none,c.2.1,c.2.2)) else pure (Et (none,c.2.1+1,c.2.2+1))
def U4(blt:Keyed->Keyed->Bool)(xs:Array Keyed)(lo n e:Nat):Prop:=e+1<=n/\∀i j,lo+n - (e+1)<=i->i<lo+n->lo+n - (e+1)<=j->j<lo+n->le blt (X xs i) (X xs j)
theorem K1(C:Cmp prog w A s kd Ok blt){xs:Array Keyed}{lo n:Nat}(h:1<=n):U4 blt xs lo n 0:=⟨by omega,λi j i1 i2 j1 j2=>by
 have e:i=j:=by omega
 subst e
 exact C.refl _⟩
theorem Yn(C:Cmp prog w A s kd Ok blt){xs:Array Keyed}{lo n:Nat}(hn:1<=n)(h:zF blt xs lo (lo+n))(hl:le blt (X xs (lo+n)) (X xs (lo+n - 1))):zF blt xs lo (lo+(n+1)):=λi j hi hij hj=>by
 by_cases hjx:j<lo+n
 ·exact h i j hi hij hjx
 ·have ej:j=lo+n:=by omega
  subst ej
  by_cases hi':i=lo+n
  ·subst hi'; exact C.refl _
  ·exact C.trans hl (h i (lo+n - 1) hi (by omega) (by omega))
theorem Q4(C:Cmp prog w A s kd Ok blt){st:Bx}(g:Good kd a₀ pend st)(h0:∀x∈a₀.toList,Ok x){lo a b:Nat}(hb:lo+b<=a₀.size)(ha:1<=a)(hab:a<=b)(h1:zF blt (arrOf st) lo (lo+a)){Q:AH->Bx->Prop}(h:∀n e st',Good kd a₀ pend st'->a<=n->n<=b->zF blt (arrOf st') lo (lo+n)->U4 blt (arrOf st') lo n e->mC (arrOf st) (arrOf st') lo (lo+b)->Q (none,n,e) st'):wpS (model prog w) A E s (GE lo a b) Q st:=by
 unfold GE
 refine Ex (I:=λx c st'=>∃e,c=(none,x,e)/\Good kd a₀ pend st'/\zF blt (arrOf st') lo (lo+x)/\U4 blt (arrOf st') lo x e/\mC (arrOf st) (arrOf st') lo (lo+b)) ?_ ?_
  ⟨0,rfl,g,h1,K1 C ha,mC.refl _ _ _⟩
 ·rintro x c st' hx1 hx2 ⟨e,rfl,g',hs,lk,ou⟩
  have hsz:(arrOf st').size=a₀.size:=g'.size
  dsimp only
  refine Ba (Xo C g' h0 (by omega) (by omega) ?_)
  dsimp only
  cases hl:blt (X (arrOf st') (lo+x)) (X (arrOf st') (lo+x - 1)) with
  | true =>
   w_pre g8
   have d1:=Yn C (by omega) hs (C.ofLt hl)
   have one:∀ys:Array Keyed,U4 blt ys lo (x+1) 0:=λys=>⟨by omega,λi j i1 i2 j1 j2=>by
    w_pre k6
    exact C.refl _⟩
   by_cases he:e > 0
   ·rw[if_pos he]
    refine Ba (Sk ?_)
    refine Bi ⟨0,rfl,g'.set (mirror_perm _ _ _ _),?_,one _,ou.trans (Sd (by have:=lk.1; omega) (by omega) (by omega))⟩
    exact Zr (by omega) (by omega) (by have:=lk.1; omega) d1 λi j i1 i2 j1 j2=>lk.2 i j i1 i2 j1 j2
   ·rw[if_neg he]
    exact Bi ⟨0,rfl,g',d1,one _,ou⟩
  | false =>
   w_pre m8
   refine Ba (Xo C g' h0 (by omega) (by omega) ?_)
   dsimp only
   cases hm:blt (X (arrOf st') (lo+x - 1)) (X (arrOf st') (lo+x)) with
   | true =>
    w_pre g8
    exact Bi (h x e st' g' hx1 (by omega) hs lk ou)
   | false =>
    w_pre m8
    refine Bi ⟨e+1,rfl,g',Yn C (by omega) hs hm,⟨by have:=lk.1; omega,λi j i1 i2 j1 j2=>?_⟩,ou⟩
    have l1:le blt (X (arrOf st') (lo+x - 1)) (X (arrOf st') (lo+x)):=hl
    have l2:le blt (X (arrOf st') (lo+x)) (X (arrOf st') (lo+x - 1)):=hm
    by_cases ei:i=lo+x
    ·by_cases ej:j=lo+x
     ·rw[ei,ej]; exact C.refl _
     ·rw[ei]
      exact C.trans l2 (lk.2 (lo+x - 1) j (by omega) (by omega) (by omega) (by omega))
    ·by_cases ej:j=lo+x
     ·rw[ej]
      exact C.trans (lk.2 i (lo+x - 1) (by omega) (by omega) (by omega) (by omega)) l1
     ·exact lk.2 i j (by omega) (by omega) (by omega) (by omega)
 ·rintro c st' ⟨e,rfl,g',hs,lk,ou⟩
  rw[show max a b=b by omega] at hs lk ⊢
  exact h b e st' g' hab (Aj _) hs lk ou
def Z7(lo n b:Nat):StateT Bx Sem (Option Nat):=do
 liftM (rule "list.sort.descending-run")
 let mut m:=n+1
 let mut e:=0
 for _ in [m:b] do
  let some fZ <- ltAt' (lo+m) (lo+m - 1) | return none
  if fZ then
   if e > 0 then Vt (lo+m - (e+1)) (lo+m)
   e:=0
  else
   let some more <- ltAt' (lo+m - 1) (lo+m) | return none
   if more then break
   e:=e+1
  m:=m+1
 if e > 0 then Vt (lo+m - (e+1)) (lo+m)
 zR lo m b
theorem uN(C:Cmp prog w A s kd Ok blt){st:Bx}(g:Good kd a₀ pend st)(h0:∀x∈a₀.toList,Ok x){lo n b:Nat}(hb:lo+b<=a₀.size)(hnb:n+1<=b)(h1:zF blt (arrOf st) lo (lo+(n+1))){Q:Option Nat->Bx->Prop}(h:∀m st',Good kd a₀ pend st'->1<=m->m<=b->Ua blt (arrOf st') lo (lo+m)->mC (arrOf st) (arrOf st') lo (lo+b)->Q (some m) st'):wpS (model prog w) A E s (Z7 lo n b) Q st:=by
 unfold Z7
 refine Ba (Vf ?_)
 refine Ba (Q4 C g h0 hb (by omega) hnb h1 λk e st1 g1 k1 k2 d1 lk ou=>?_)
 dsimp only
 have hsz:(arrOf st1).size=a₀.size:=g1.size
 by_cases he:e > 0
 ·rw[if_pos he]
  refine Ba (Sk ?_)
  refine uI C (g1.set (mirror_perm _ _ _ _)) h0 hb (by omega) k2 (Zr (by omega) (by omega) (by have:=lk.1; omega) d1 λi j i1 i2 j1 j2=>lk.2 i j i1 i2 j1 j2) λm st2 g2 m1 m2 as ou2=>?_
  exact h m st2 g2 m1 m2 as ((ou.trans (Sd (by have:=lk.1; omega) (by omega) (by omega))).trans ou2)
 ·rw[if_neg he]
  exact uI C g1 h0 hb (by omega) k2 d1 λm st2 g2 m1 m2 as ou2=>h m st2 g2 m1 m2 as (ou.trans ou2)
theorem B4(C:Cmp prog w A s kd Ok blt){st:Bx}(g:Good kd a₀ pend st)(h0:∀x∈a₀.toList,Ok x){lo b:Nat}(hb:lo+b<=a₀.size)(b1:1<=b){Q:Option Nat->Bx->Prop}(h:∀m st',Good kd a₀ pend st'->1<=m->m<=b->Ua blt (arrOf st') lo (lo+m)->mC (arrOf st) (arrOf st') lo (lo+b)->Q (some m) st'):wpS (model prog w) A E s (iD lo b) Q st:=by
 unfold iD
 have hsz:(arrOf st).size=a₀.size:=g.size
 refine Ba (A8 C g h0 hb (Aj _) b1 (λi j i1 i2 j1=>by
  w_pre k6
  exact C.refl _) λn n1 n2 hs hor=>?_)
 dsimp only
 by_cases e:n=b
 ·rw[if_pos (by rw[e]; exact beq_self_eq_true _)]
  exact Bi (h n st g n1 n2 hs (mC.refl _ _ _))
 rw[if_neg (λz=>e (Ef z))]
 have hlt:blt (X (arrOf st) (lo+n)) (X (arrOf st) (lo+n - 1))=true:=hor.resolve_left e
 by_cases hg:n > 1
 ·rw[if_pos hg]
  refine Ba (Xo C g h0 (by omega) (by omega) ?_)
  dsimp only
  cases hr:blt (X (arrOf st) lo) (X (arrOf st) (lo+n - 1)) with
  | true =>
   w_pre g8
   exact Bi (h n st g n1 n2 hs (mC.refl _ _ _))
  | false =>
   w_pre m8
   refine Ba (Sk ?_)
   -- all of it are alike
   have like:∀i j,lo<=i->i<lo+n->lo<=j->j<lo+n->le blt (X (arrOf st) i) (X (arrOf st) j):=λi j i1 i2 j1 j2 =>
    C.trans (hs i (lo+n - 1) i1 (by omega) (by omega)) (C.trans hr (hs lo j (Aj _) j1 j2))
   have d1:zF blt (arrOf st) lo (lo+(n+1)):=Yn C n1 (λi j i1 i2 j1=>like j i (by omega) j1 i1 (by omega)) (C.ofLt hlt)
   exact uN C (g.set (mirror_perm _ _ _ _)) h0 hb (by omega) (Zr (by omega) (by omega) (Aj _) d1 like) λm st2 g2 m1 m2 as ou2=>h m st2 g2 m1 m2 as ((Sd (Aj _) (by omega) (by omega)).trans ou2)
 ·rw[if_neg hg]
  have en:n=1:=by omega
  subst en
  have d1:zF blt (arrOf st) lo (lo+(1+1)):=Yn C (Aj _) (λi j i1 i2 j1=>by
   w_pre k6
   exact C.refl _) (C.ofLt hlt)
  exact uN C g h0 hb (by omega) d1 h
end
def Xu:Nat->StateT Bx Sem Bool:=sortPriv% PySem.Builtin.mergeAt
section
variable{prog:Bk}{w:World}{A:Ci}{s:Ai}{kd:Mz}{Ok:Keyed->Prop}{blt:Keyed->Keyed->Bool}{E:Value->Ai->Prop}{a₀:Array Keyed}{pend:Array (Nat×Nat×Nat)}
theorem mN{st:Bx}{i j:Nat}{Q:Unit->Bx->Prop}(h:Q () (setArr st (bubble (arrOf st) i (i - j)))):wpS (model prog w) A E s (moveDown' i j) Q st:=by
 rw[moveDown'_eq]
 exact Ku h
theorem yW(C:Cmp prog w A s kd Ok blt){st:Bx}(g:Good kd a₀ pend st)(h0:∀x∈a₀.toList,Ok x){lo n ok:Nat}(hb:lo+n<=a₀.size)(h1:Ua blt (arrOf st) lo (lo+ok))(hok:ok<=n){Q:Bool->Bx->Prop}(h:∀st',Good kd a₀ pend st'->Ua blt (arrOf st') lo (lo+n)->mC (arrOf st) (arrOf st') lo (lo+n)->Q true st'):wpS (model prog w) A E s (aW lo n ok) Q st:=by
 unfold aW
 refine Ba (Ib (Ex
  (I:=λk c st'=>c=(none,())/\Good kd a₀ pend st'/\Ua blt (arrOf st') lo (lo+k)/\mC (arrOf st) (arrOf st') lo (lo+n))
  (Q:=λc st'=>c=(none,())/\Good kd a₀ pend st'/\Ua blt (arrOf st') lo (lo+n)/\mC (arrOf st) (arrOf st') lo (lo+n)) ?_ ?_ ⟨rfl,g,?_,mC.refl _ _ _⟩) ?_)
 ·rintro k c st1 hk1 hk2 ⟨rfl,g1,hs,ou⟩
  have hsz:(arrOf st1).size=a₀.size:=g1.size
  dsimp only
  refine Ba (Ib (Ex
   (I:=λy c st'=>st'=st1/\∃l r,c=(none,l,r)/\l<=r/\r<=k/\r - l+y<=k/\(∀i,i<l->le blt (X (arrOf st1) (lo+i)) (X (arrOf st1) (lo+k)))/\(∀i,r<=i->i<k->blt (X (arrOf st1) (lo+k)) (X (arrOf st1) (lo+i))=true))
   (Q:=λc st'=>st'=st1/\∃l,c=(none,l,l)/\l<=k/\(∀i,i<l->le blt (X (arrOf st1) (lo+i)) (X (arrOf st1) (lo+k)))/\(∀i,l<=i->i<k->blt (X (arrOf st1) (lo+k)) (X (arrOf st1) (lo+i))=true)) ?_ ?_
   ⟨rfl,0,k,rfl,by omega,by omega,by omega,λi hi=>by omega,λi h1 h2=>by omega⟩) ?_)
  ·rintro y c st2 _ hy ⟨rfl,l,r,rfl,a1,a2,a3,b1,b2⟩
   dsimp only
   by_cases hlr:l ≥ r
   ·rw[if_pos hlr]
    w_pre t6
    exact Bi ⟨rfl,l,rfl,a2,b1,b2⟩
   ·rw[if_neg hlr]
    refine Ba (Xo C g1 h0 (by omega) (by omega) ?_)
    dsimp only
    cases hl:blt (X (arrOf st2) (lo+k)) (X (arrOf st2) (lo+(l+r) / 2)) with
    | true =>
     w_pre g8
     exact Bi ⟨rfl,l,(l+r) / 2,rfl,by omega,by omega,by omega,b1,λi i1 i2=>C.ltLe hl (hs _ _ (by omega) (by omega) (by omega))⟩
    | false =>
     w_pre m8
     exact Bi ⟨rfl,(l+r) / 2+1,r,rfl,by omega,a2,by omega,λi hi=>C.trans (hs _ _ (by omega) (by omega) (by omega)) hl,b2⟩
  ·rintro c st2 ⟨rfl,l,r,rfl,a1,a2,a3,b1,b2⟩
   have : max 0 k=k:=by omega
   rw[this] at a3
   w_pre t6
   exact ⟨rfl,l,rfl,a2,b1,b2⟩
  ·rintro c st2 ⟨rfl,l,rfl,a2,b1,b2⟩
   dsimp only
   refine Ba (mN ?_)
   have xb:=λi=>J0 (xs:=arrOf st2) (src:=lo+k) (d:=lo+k - (lo+l)) (by omega) (by omega) i
   have ed:lo+k - (lo+k - (lo+l))=lo+l:=by omega
   refine Bi ⟨rfl,g1.set (bubble_perm _ _ _),λi j i1 i2 j1=>?_,ou.trans λi hi=>?_⟩
   ·show le blt (X (bubble (arrOf st2) (lo+k) (lo+k - (lo+l))) i) (X (bubble (arrOf st2) (lo+k) (lo+k - (lo+l))) j)
    rw[xb,xb,ed]
    by_cases e1:i=lo+l
    ·rw[if_pos e1]
     by_cases e2:j=lo+l
     ·rw[if_pos e2]; exact C.refl _
     ·rw[if_neg e2]
      by_cases e3:lo+l<j/\j<=lo+k
      ·rw[if_pos e3]
       have:=b2 (j - 1 - lo) (by omega) (by omega)
       rw[show lo+(j - 1 - lo)=j - 1 by omega] at this
       exact C.ofLt this
      ·exfalso; omega
    ·rw[if_neg e1]
     by_cases e2:j=lo+l
     ·rw[if_pos e2,if_neg (by omega)]
      have:=b1 (i - lo) (by omega)
      rw[show lo+(i - lo)=i by omega] at this
      exact this
     ·rw[if_neg e2]
      by_cases e3:lo+l<i/\i<=lo+k
      ·rw[if_pos e3,if_pos (by omega)]
       w_pre o8
      ·rw[if_neg e3]
       by_cases e4:lo+l<j/\j<=lo+k
       ·rw[if_pos e4]
        w_pre o8
       ·rw[if_neg e4]
        w_pre o8
   ·show X (bubble (arrOf st2) (lo+k) (lo+k - (lo+l))) i=X (arrOf st2) i
    rw[xb,ed,if_neg (by omega),if_neg (by omega)]
 ·rintro c st1 ⟨rfl,g1,hs,ou⟩
  refine ⟨rfl,g1,λi j i1 i2 j1=>hs i j i1 i2 (by omega),ou⟩
 ·intro i j i1 i2 j1
  by_cases e:i=j
  ·subst e; exact C.refl _
  ·exact h1 i j i1 i2 (by omega)
 ·rintro c st1 ⟨rfl,g1,hs,ou⟩
  exact Bi (h st1 g1 hs ou)
end
abbrev Pq(xs:Array Keyed)(b:Nat)(l:List (Keyed×Nat)):Array Keyed:=l.foldl (λa x=>match x with | (p,j)=>a.setIfInBounds (b+j) p) xs
theorem dX(b:Nat):∀(l:List Keyed) (o:Nat) (xs:Array Keyed),b+o+l.length<=xs.size->(Pq xs b (l.zipIdx o)).size=xs.size/\∀i:Nat,(Pq xs b (l.zipIdx o))[i]? = if b+o<=i/\i<b+o+l.length then l[i - (b+o)]? else xs[i]?
 | [],o,xs,_=>⟨rfl,λi=>by rw[if_neg (by rw[Kj]; omega)]; rfl⟩
 | x::l,o,xs,h=>by
  rw[Bl] at h
  have ih:=dX b l (o+1) (xs.setIfInBounds (b+o) x) (by rw[Rv]; omega)
  have e:Pq xs b ((x::l).zipIdx o)=Pq (xs.setIfInBounds (b+o) x) b (l.zipIdx (o+1)):=by
   rw[Ll]
   rfl
  rw[e]
  refine ⟨ih.1.trans (Rv),λi=>?_⟩
  rw[ih.2 i,Bl]
  by_cases h1:b+(o+1)<=i/\i<b+(o+1)+l.length
  ·rw[if_pos h1,if_pos (by omega)]
   rw[show i - (b+o)=(i - (b+(o+1)))+1 by omega,List.getElem?_cons_succ]
  ·rw[if_neg h1]
   by_cases h2:i=b+o
   ·subst h2
    rw[if_pos (by omega),Array.getElem?_setIfInBounds_self_of_lt (by omega),Nat.sub_self]
    rfl
   ·rw[if_neg (by omega),Array.getElem?_setIfInBounds_ne (by omega)]
theorem qY{xs m:Array Keyed}{b n:Nat}(hb:b+n<=xs.size)(hn:m.size=n)(hp:m.toList.Perm ((xs.toList.drop b).take n)):(Pq xs b m.toList.zipIdx).Perm xs:=by
 have ha:=dX b m.toList 0 xs (by rw[Am]; omega)
 have e:(Pq xs b m.toList.zipIdx).toList=xs.toList.take b++(m.toList++xs.toList.drop (b+n)):=by
  apply Ru
  intro i
  have h1:=ha.2 i
  rw[Am,hn] at h1
  have h2:(Pq xs b m.toList.zipIdx).toList[i]? = (Pq xs b m.toList.zipIdx)[i]?:=by simp
  rw[h2,h1]
  have lt:(xs.toList.take b).length=b:=by rw[Cy,Am]; omega
  by_cases c1:i<b
  ·rw[if_neg (by omega),Lq (by omega),Jh c1]
   simp
  ·rw[Ii (by omega),lt]
   by_cases c2:i<b+n
   ·rw[if_pos (by omega),Lq (by rw[Am]; omega)]
    congr 1
   ·rw[if_neg (by omega),Ii (by rw[Am]; omega),aN,Am]
    rw[show b+n+(i - b - m.size)=i by omega]
    simp
 refine Array.perm_iff_toList_perm.mpr ?_
 rw[e]
 have e2:xs.toList=xs.toList.take b++((xs.toList.drop b).take n++xs.toList.drop (b+n)):=by
  conv=>lhs; rw[<- Fw b xs.toList]
  congr 1
  conv=>lhs; rw[<- Fw n (xs.toList.drop b)]
  rw[List.drop_drop]
 conv=>rhs; rw[e2]
 exact Jy _ (List.Perm.append_right _ hp)
theorem aF{xs:Array Keyed}{a n:Nat}(h:a+n<=xs.size){i:Nat}(hi:i<n):(xs.extract a (a+n))[i]? = some (X xs (a+i)):=by
 rw[Array.getElem?_extract,if_pos (by omega)]
 exact bI (by omega)
theorem Ub{xs:Array Keyed}{a n:Nat}(h:a+n<=xs.size):(xs.extract a (a+n)).size=n:=by
 rw[Array.size_extract]
 omega
theorem Yr{xs:Array Keyed}{a n:Nat}(h:a+n<=xs.size){x:Keyed}(hx:x∈(xs.extract a (a+n)).toList):∃i,i<n/\x=X xs (a+i):=by
 obtain ⟨i,hi,e⟩:=Gh.mp hx
 rw[Am,Ub h] at hi
 refine ⟨i,hi,?_⟩
 have h1:=aF h hi
 have h2:(xs.extract a (a+n)).toList[i]? = some x:=by rw[<- e,<- Bt]
 rw[Ft,h1] at h2
 exact (Ca h2).symm
section
variable{prog:Bk}{w:World}{A:Ci}{s:Ai}{kd:Mz}{Ok:Keyed->Prop}{blt:Keyed->Keyed->Bool}{E:Value->Ai->Prop}{a₀:Array Keyed}{pend:Array (Nat×Nat×Nat)}
theorem dM(C:Cmp prog w A s kd Ok blt){xs:Array Keyed}{a n c d:Nat}(h:a+n<=xs.size)(hs:Ua blt xs c d)(h1:c<=a)(h2:a+n<=d):(xs.extract a (a+n)).toList.Pairwise (le blt):=by
 rw[Lp]
 intro i j hi hj hij
 rw[Am,Ub h] at hi hj
 have e1:(xs.extract a (a+n)).toList[i]? = some (X xs (a+i)):=by rw[Ft]; exact aF h hi
 have e2:(xs.extract a (a+n)).toList[j]? = some (X xs (a+j)):=by rw[Ft]; exact aF h hj
 obtain ⟨_,f1⟩:=Ax.mp e1
 obtain ⟨_,f2⟩:=Ax.mp e2
 rw[f1,f2]
 w_pre o8
theorem mZ(C:Cmp prog w A s kd Ok blt){xs:Array Keyed}{a b c:Nat}(hab:a<b)(h1:Ua blt xs a b)(h2:Ua blt xs b c)(h:le blt (X xs (b - 1)) (X xs b)):Ua blt xs a c:=λi j i1 i2 j1=>by
 by_cases e1:j<b
 ·exact h1 i j i1 i2 e1
 ·by_cases e2:b<=i
  ·exact h2 i j e2 i2 j1
  ·exact C.trans (h1 i (b - 1) i1 (by omega) (by omega)) (C.trans h (h2 b j (Aj _) (by omega) j1))
structure Good0(kd:Mz)(a₀:Array Keyed)(st:Bx):Prop where
 kind:kindOf st=kd
 fail:My st=none
 perm:(arrOf st).Perm a₀
theorem Good0.size{st:Bx}(g:Good0 kd a₀ st):(arrOf st).size=a₀.size:=g.perm.size_eq
theorem Good0.okX{st:Bx}(g:Good0 kd a₀ st)(h0:∀x∈a₀.toList,Ok x){i:Nat}(hi:i<a₀.size):Ok (X (arrOf st) i):=by
 w_pre k5
theorem F0{st:Bx}(g:Good0 kd a₀ st)(h0:∀x∈a₀.toList,Ok x){b n:Nat}(h:b+n<=a₀.size):Row Ok (arrOf st) b n (λi=>X (arrOf st) (b+i)) :=
 ⟨λi hi=>bI (by rw[g.size]; omega),λi hi=>g.okX h0 (by omega)⟩
theorem BQ{st st':Bx}{Q:Unit->Bx->Prop}(h:Q () st'):wpS (model prog w) A E s (set st':StateT Bx Sem Unit) Q st:=by
 unfold wpS
 rw[StateT.run_set]
 exact Ae ⟨rfl,h⟩
theorem sM(C:Cmp prog w A s kd Ok blt){st:Bx}(g:Good0 kd a₀ st)(h0:∀x∈a₀.toList,Ok x){i sa na pa sb nb pb:Nat}(hi:(Bh st)[i]? = some (sa,na,pa))(hj:(Bh st)[i+1]? = some (sb,nb,pb))(e1:sb=sa+na)(n1:1<=na)(n2:1<=nb)(hz:sb+nb<=a₀.size)(s1:Ua blt (arrOf st) sa sb)(s2:Ua blt (arrOf st) sb (sb+nb)){Q:Bool->Bx->Prop}(h:∀st',Good0 kd a₀ st'->Bh st'=((Bh st).setIfInBounds i (sa,na+nb,pa)).eraseIdxIfInBounds (i+1)->Ua blt (arrOf st') sa (sb+nb)->mC (arrOf st) (arrOf st') sa (sb+nb)->Q true st'):wpS (model prog w) A E s (Xu i) Q st:=by
 have hsz:(arrOf st).size=a₀.size:=g.size
 unfold Xu
 w_pre n8
 rw[hi,hj]
 dsimp only
 refine Ba (BQ ?_)
 refine Ba (Gk (bI (xs:=arrOf st) (i:=sb) (by rw[hsz]; omega)) ?_)
 show wpS (model prog w) A E s _ _ (SortSt.mk' (kindOf st) (arrOf st) (((Bh st).setIfInBounds i (sa,na+nb,pa)).eraseIdxIfInBounds (i+1)) (gallopOf st) (My st))
 generalize hst1:SortSt.mk' (kindOf st) (arrOf st) (((Bh st).setIfInBounds i (sa,na+nb,pa)).eraseIdxIfInBounds (i+1)) (gallopOf st) (My st)=st1
 have k1:kindOf st1=kd:=by rw[<- hst1]; exact g.kind
 have ar1:arrOf st1=arrOf st:=by rw[<- hst1]
 have pd1:Bh st1=((Bh st).setIfInBounds i (sa,na+nb,pa)).eraseIdxIfInBounds (i+1):=by rw[<- hst1]
 have fl1:My st1=none:=by rw[<- hst1]; exact g.fail
 have g1:Good0 kd a₀ st1:=⟨k1,fl1,by rw[ar1]; exact g.perm⟩
 have same:Good0 kd a₀ st1->Ua blt (arrOf st) sa (sb+nb)->Q true st1:=λgg as=>h st1 gg pd1 (by rw[ar1]; exact as) (by rw[ar1]; exact mC.refl _ _ _)
 refine Ba (Pb C (hint:=0) (n:=na) (F0 g h0 (b:=sa) (n:=na) (by omega)) (g.okX h0 (i:=sb) (by omega)) k1 (by omega) (λa c hac hc q1=>?_) λk kn t1 t2=>?_)
 ·simp only[Ho,Bz,if_false,Kx] at q1 ⊢
  exact C.trans (s1 _ _ (by omega) (by omega) (by omega)) q1
 dsimp only
 have f1:∀m,m<k->le blt (X (arrOf st) (sa+m)) (X (arrOf st) sb):=λm hm=>by
  have:=t1 m hm
  have z:blt (X (arrOf st) sb) (X (arrOf st) (sa+m))=false:=by simpa only [Ho,Bz,if_false,Kx] using this
  exact z
 by_cases c1:na - k=0
 ·rw[if_pos (by rw[c1]; rfl)]
  refine Bi (same g1 (mZ C (by omega) s1 s2 ?_))
  have:=f1 (na - 1) (by omega)
  rw[show sa+(na - 1)=sb - 1 by omega] at this
  exact this
 rw[if_neg (λz=>c1 (Ef z))]
 have f2:blt (X (arrOf st) sb) (X (arrOf st) (sa+k))=true:=by
  have:=t2 k (Aj _) (by omega)
  simpa only [Ho,Bz,if_false,aP] using this
 have el:sa+k+(na - k) - 1=sb - 1:=by omega
 rw[el]
 refine Ba (Gk (bI (xs:=arrOf st) (i:=sb - 1) (by rw[hsz]; omega)) ?_)
 refine Ba (Pb C (hint:=nb - 1) (n:=nb) (F0 g h0 (b:=sb) (n:=nb) (by omega)) (g.okX h0 (i:=sb - 1) (by omega)) k1 (by omega) (λa c hac hc q1=>?_) λl ln u1 u2=>?_)
 ·simp only[Ho,if_true] at q1 ⊢
  exact C.leLt (s2 _ _ (by omega) (by omega) (by omega)) q1
 dsimp only
 have f3:∀m,m<l->blt (X (arrOf st) (sb+m)) (X (arrOf st) (sb - 1))=true:=λm hm=>by
  have:=u1 m hm
  simpa only [Ho,if_true] using this
 have f4:∀m,l<=m->m<nb->le blt (X (arrOf st) (sb - 1)) (X (arrOf st) (sb+m)):=λm h1 h2=>by
  have:=u2 m h1 h2
  have z:blt (X (arrOf st) (sb+m)) (X (arrOf st) (sb - 1))=false:=by simpa only [Ho,if_true] using this
  exact z
 by_cases c2:l=0
 ·rw[if_pos (by rw[c2]; rfl)]
  subst c2
  exact Bi (same g1 (mZ C (by omega) s1 s2 (f4 0 (Aj _) (by omega))))
 rw[if_neg (λz=>c2 (Ef z))]
 have ep:(arrOf st).extract (sa+k) sb=(arrOf st).extract (sa+k) (sa+k+(na - k)):=by rw[show sa+k+(na - k)=sb by omega]
 rw[ep]
 have hp:sa+k+(na - k)<=(arrOf st).size:=by omega
 have hq:sb+l<=(arrOf st).size:=by omega
 have T:Two Ok blt ((arrOf st).extract (sa+k) (sa+k+(na - k))) ((arrOf st).extract sb (sb+l)) (X (arrOf st) (sa+k)) (X (arrOf st) sb) (X (arrOf st) (sb - 1)):=by
  refine ⟨λx hx=>?_,λx hx=>?_,dM C hp s1 (by omega) (by omega),dM C hq s2 (by omega) (by omega),?_,?_,?_,f2,λy hy=>?_⟩
  ·obtain ⟨m,hm,rfl⟩:=Yr hp hx
   exact g.okX h0 (by omega)
  ·obtain ⟨m,hm,rfl⟩:=Yr hq hx
   exact g.okX h0 (by omega)
  ·exact aF hp (by omega)
  ·exact aF hq (by omega)
  ·rw[Ub hp,aF hp (by omega),show sa+k+(na - k - 1)=sb - 1 by omega]
  ·obtain ⟨m,hm,rfl⟩:=Yr hq hy
   exact f3 m hm
 -- sN the merge
 have fin:∀(r:Array Keyed) (st2:Bx),Kept st1 st2->qT blt ((arrOf st).extract (sa+k) (sa+k+(na - k))) ((arrOf st).extract sb (sb+l)) r ->
   Q (My (setArr st2 (Pq (arrOf st2) (sa+k) r.toList.zipIdx))).isNone (setArr st2 (Pq (arrOf st2) (sa+k) r.toList.zipIdx)):=by
  intro r st2 kp hr
  have ar2:arrOf st2=arrOf st:=kp.arr.trans ar1
  have fl2:My st2=none:=kp.fail.trans fl1
  have rsz:r.size=na - k+l:=by
   have:=hr.1.length_eq
   rw[Bn,Am,Am,Am,Ub hp,Ub hq] at this
   exact this
  have seg:((arrOf st).toList.drop (sa+k)).take (na - k+l)=((arrOf st).extract (sa+k) (sa+k+(na - k))).toList++((arrOf st).extract sb (sb+l)).toList:=by
   rw[Ym,Ym,List.take_add,List.drop_drop,show sa+k+(na - k)=sb by omega]
  have pa':=dX (sa+k) r.toList 0 (arrOf st) (by rw[Am]; omega)
  have xat:∀m,X (Pq (arrOf st) (sa+k) r.toList.zipIdx) m=if sa+k<=m/\m<sb+l then X r (m - (sa+k)) else X (arrOf st) m:=λm=>by
   have:=pa'.2 m
   rw[Am,rsz,Nat.add_zero] at this
   by_cases hm:sa+k<=m/\m<sb+l
   ·rw[if_pos hm]
    rw[if_pos (by omega)] at this
    refine Sq (this.trans ?_)
    simp
   ·rw[if_neg hm]
    rw[if_neg (by omega)] at this
    exact Sq this
  -- each thing of the merged is one of the two runs'
  have from2:∀m,m<na - k+l->(∃c,sa+k<=c/\c<sb/\X r m=X (arrOf st) c)\/(∃c,sb<=c/\c<sb+l/\X r m=X (arrOf st) c):=λm hm=>by
   have hx:=Km (bI (xs:=r) (i:=m) (by omega))
   rcases Bc.mp (hr.1.mem_iff.mp hx) with z | z
   ·obtain ⟨c,hc,e⟩:=Yr hp z
    exact .inl ⟨sa+k+c,by omega,by omega,e⟩
   ·obtain ⟨c,hc,e⟩:=Yr hq z
    exact .inr ⟨sb+c,by omega,by omega,e⟩
  have rs:∀m n,m<=n->n<na - k+l->le blt (X r m) (X r n):=λm n hmn hn=>Ly C hr.2 hmn (Eu (bI (by omega))) (Eu (bI (by omega)))
  have e3:My (setArr st2 (Pq (arrOf st2) (sa+k) r.toList.zipIdx))=none:=fl2
  rw[e3]
  refine h _ ⟨kp.kind.trans k1,e3,?_⟩ (kp.pend.trans pd1) ?_ ?_
  ·show (Pq (arrOf st2) (sa+k) r.toList.zipIdx).Perm a₀
   rw[ar2]
   refine (qY (by omega) rsz ?_).trans g.perm
   rw[seg]
   exact hr.1
  ·show Ua blt (Pq (arrOf st2) (sa+k) r.toList.zipIdx) sa (sb+nb)
   rw[ar2]
   intro c d c1 cd d1
   rw[xat,xat]
   by_cases zc:sa+k<=c/\c<sb+l
   ·rw[if_pos zc]
    by_cases zd:sa+k<=d/\d<sb+l
    ·rw[if_pos zd]
     exact rs _ _ (by omega) (by omega)
    ·rw[if_neg zd]
     rcases from2 (c - (sa+k)) (by omega) with ⟨b,b1,b2,e⟩ | ⟨b,b1,b2,e⟩
     ·rw[e]
      refine C.trans (s1 b (sb - 1) (by omega) (by omega) (by omega)) ?_
      have:=f4 (d - sb) (by omega) (by omega)
      rw[show sb+(d - sb)=d by omega] at this
      exact this
     ·rw[e]
      exact s2 b d b1 (by omega) (by omega)
   ·rw[if_neg zc]
    by_cases zd:sa+k<=d/\d<sb+l
    ·rw[if_pos zd]
     rcases from2 (d - (sa+k)) (by omega) with ⟨b,b1,b2,e⟩ | ⟨b,b1,b2,e⟩
     ·rw[e]
      exact s1 c b c1 (by omega) b2
     ·rw[e]
      have:=f1 (c - sa) (by omega)
      rw[show sa+(c - sa)=c by omega] at this
      exact C.trans this (s2 sb b (Aj _) b1 (by omega))
    ·rw[if_neg zd]
     by_cases y1:d<sb
     ·exact s1 c d c1 cd y1
     ·by_cases y2:sb<=c
      ·exact s2 c d y2 cd d1
      ·have:=f1 (c - sa) (by omega)
       rw[show sa+(c - sa)=c by omega] at this
       exact C.trans this (s2 sb d (Aj _) (by omega) d1)
  ·show mC (arrOf st) (Pq (arrOf st2) (sa+k) r.toList.zipIdx) sa (sb+nb)
   rw[ar2]
   intro m hm
   rw[xat,if_neg (by omega)]
 by_cases c3:na - k<=l
 ·rw[if_pos c3]
  refine Ba (qP C T k1 λr st2 kp hr=>?_)
  w_pre m10
 ·rw[if_neg c3]
  refine Ba (sF C T k1 λr st2 kp hr=>?_)
  w_pre m10
end
def iM:StateT Bx Sem Unit:=sortPriv% PySem.Builtin.sortRuns
def Runs(blt:Keyed->Keyed->Bool)(xs:Array Keyed):List (Nat×Nat×Nat)->Nat->Nat->Prop
 | [],a,b=>a=b
 | (s,n,_)::r,a,b=>s=a/\1<=n/\Ua blt xs a (a+n)/\Runs blt xs r (a+n) b
variable{blt:Keyed->Keyed->Bool}
theorem Runs.len{xs:Array Keyed}:∀{l:List (Nat×Nat×Nat)} {a b:Nat},Runs blt xs l a b->a+l.length<=b
 | [],a,b,h=>by
  have e:a=b:=h
  rw[Kj]
  omega
 | (s,n,p)::r,a,b,h=>by
  have:=Runs.len h.2.2.2
  have:=h.2.1
  rw[Bl]
  omega
theorem Ua.out{xs ys:Array Keyed}{a b c d:Nat}(h:Ua blt xs a b)(o:mC xs ys c d)(e:b<=c\/d<=a):Ua blt ys a b:=λi j i1 i2 j1=>by
 rw[o i (by omega),o j (by omega)]
 exact h i j i1 i2 j1
theorem Runs.out{xs ys:Array Keyed}{c d:Nat}(o:mC xs ys c d):∀{l:List (Nat×Nat×Nat)} {a b:Nat},(b<=c\/d<=a)->Runs blt xs l a b->Runs blt ys l a b
 | [],_,_,_,h=>h
 | (s,n,p)::r,a,b,e,h=>by
  have hl:=Runs.len h.2.2.2
  exact ⟨h.1,h.2.1,h.2.2.1.out o (by omega),Runs.out o (by omega) h.2.2.2⟩
theorem Runs.push{xs:Array Keyed}{m q:Nat}(hm:1<=m):∀{l:List (Nat×Nat×Nat)} {a b:Nat},Runs blt xs l a b->Ua blt xs b (b+m)->Runs blt xs (l++[(b,m,q)]) a (b+m)
 | [],a,b,h,hs=>by
  have e:a=b:=h
  subst e
  exact ⟨rfl,hm,hs,rfl⟩
 | (s,n,p)::r,a,b,h,hs=>⟨h.1,h.2.1,h.2.2.1,Runs.push hm h.2.2.2 hs⟩
theorem Runs.power{xs:Array Keyed}{pw:Nat}:∀{l:List (Nat×Nat×Nat)} {a b:Nat} (k:Nat),Runs blt xs l a b->Runs blt xs (l.modify k λx=>(x.1,x.2.1,pw)) a b
 | [],_,_,k,h=>by simpa using h
 | (s,n,p)::r,a,b,0,h=>by
  rw[List.modify_zero_cons]
  exact h
 | (s,n,p)::r,a,b,k+1,h=>by
  rw[List.modify_succ_cons]
  exact ⟨h.1,h.2.1,h.2.2.1,Runs.power k h.2.2.2⟩
theorem Runs.two{xs:Array Keyed}:∀{l:List (Nat×Nat×Nat)} {a b i sa na pa sb nb pb:Nat},Runs blt xs l a b->l[i]? = some (sa,na,pa)->l[i+1]? = some (sb,nb,pb)->sb=sa+na/\1<=na/\1<=nb/\a<=sa/\sb+nb<=b/\Ua blt xs sa sb/\Ua blt xs sb (sb+nb)
 | [],_,_,_,_,_,_,_,_,_,_,h,_=>by simp at h
 | (s,n,p)::r,a,b,0,sa,na,pa,sb,nb,pb,h,h1,h2=>by
  w_pre x0
  cases r with
  | nil=>simp at h2
  | cons y r' =>
   w_pre u0
   have:=Runs.len hr'
   exact ⟨e',hn,hn',Aj _,by omega,by rw[e']; exact hs,by rw[e']; exact hs'⟩
 | (s,n,p)::r,a,b,i+1,sa,na,pa,sb,nb,pb,h,h1,h2=>by
  have:=Runs.two h.2.2.2 (by simpa using h1) (by simpa using h2)
  exact ⟨this.1,this.2.1,this.2.2.1,by have:=this.2.2.2.1; have:=h.2.1; omega,this.2.2.2.2.1,this.2.2.2.2.2⟩
theorem Runs.merge{xs ys:Array Keyed}:∀{l:List (Nat×Nat×Nat)} {a b i sa na pa sb nb pb:Nat},Runs blt xs l a b->l[i]? = some (sa,na,pa)->l[i+1]? = some (sb,nb,pb)->mC xs ys sa (sb+nb)->Ua blt ys sa (sb+nb)->Runs blt ys ((l.set i (sa,na+nb,pa)).eraseIdx (i+1)) a b
 | [],_,_,_,_,_,_,_,_,_,_,h,_,_,_=>by simp at h
 | (s,n,p)::r,a,b,0,sa,na,pa,sb,nb,pb,h,h1,h2,o,as=>by
  have tw:=Runs.two h h1 h2
  w_pre x0
  cases r with
  | nil=>simp at h2
  | cons y r' =>
   w_pre u0
   rw[List.set_cons_zero,Tj,List.eraseIdx_cons_zero]
   refine ⟨rfl,by omega,?_,?_⟩
   ·rw[show s+(n+n')=s'+n' by omega]
    exact as
   ·rw[show s+(n+n')=s+n+n' by omega]
    exact Runs.out o (.inr (by omega)) hr'
 | (s,n,p)::r,a,b,i+1,sa,na,pa,sb,nb,pb,h,h1,h2,o,as=>by
  have tw:=Runs.two (i:=i) h.2.2.2 (by simpa using h1) (by simpa using h2)
  rw[List.set_cons_succ,Tj]
  exact ⟨h.1,h.2.1,h.2.2.1.out o (.inl tw.2.2.2.1),Runs.merge h.2.2.2 (by simpa using h1) (by simpa using h2) o as⟩
theorem iG(P:Array (Nat×Nat×Nat))(i:Nat)(v:Nat×Nat×Nat):((P.setIfInBounds i v).eraseIdxIfInBounds (i+1)).toList=(P.toList.set i v).eraseIdx (i+1):=by
 rw[Array.toList_eraseIdxIfInBounds,jB]
section
variable{prog:Bk}{w:World}{A:Ci}{s:Ai}{kd:Mz}{Ok:Keyed->Prop}{E:Value->Ai->Prop}{a₀:Array Keyed}
theorem Qk{α:Type}{c:Prop}[Decidable c]{p q:StateT Bx Sem α}{Q:α->Bx->Prop}{st:Bx}(h1:c->wpS (model prog w) A E s p Q st)(h2:¬ c->wpS (model prog w) A E s q Q st):wpS (model prog w) A E s (if c then p else q) Q st:=by
 by_cases h:c
 ·rw[if_pos h]; exact h1 h
 ·rw[if_neg h]; exact h2 h
theorem lW(C:Cmp prog w A s kd Ok blt){st:Bx}(g:Good0 kd a₀ st)(h0:∀x∈a₀.toList,Ok x){lo i:Nat}(hlo:lo<=a₀.size)(rn:Runs blt (arrOf st) (Bh st).toList 0 lo)(hi:i+1<(Bh st).size){Q:Bool->Bx->Prop}(h:∀st',Good0 kd a₀ st'->Runs blt (arrOf st') (Bh st').toList 0 lo->(Bh st').size+1=(Bh st).size->(∀c d,lo<=c->Ua blt (arrOf st) c d->Ua blt (arrOf st') c d)->Q true st'):wpS (model prog w) A E s (Xu i) Q st:=by
 obtain ⟨⟨sa,na,pa⟩,ha⟩ : ∃x,(Bh st)[i]? = some x:=⟨(Bh st)[i],by simp⟩
 obtain ⟨⟨sb,nb,pb⟩,hb⟩ : ∃x,(Bh st)[i+1]? = some x:=⟨(Bh st)[i+1],by simp⟩
 have la:(Bh st).toList[i]? = some (sa,na,pa):=by simpa using ha
 have lb:(Bh st).toList[i+1]? = some (sb,nb,pb):=by simpa using hb
 obtain ⟨t1,t2,t3,t4,t5,t6,t7⟩:=rn.two la lb
 refine sM C g h0 ha hb t1 t2 t3 (by omega) t6 t7 λst' g' pd as ou=>?_
 refine h st' g' ?_ ?_ λc d hc hs=>hs.out ou (.inr (by omega))
 ·rw[pd,iG]
  exact rn.merge la lb ou as
 ·have : (Bh st').toList.length+1=(Bh st).toList.length:=by
   rw[pd,iG,List.length_eraseIdx,List.length_set,Am,if_pos hi]
   omega
  simpa using this
theorem T7{st:Bx}(g:Good0 kd a₀ st):Good kd a₀ (Bh st) st:=⟨g.kind,g.fail,g.perm,rfl⟩
theorem oP{st:Bx}{p:Array (Nat×Nat×Nat)}(g:Good kd a₀ p st):Good0 kd a₀ st:=⟨g.kind,g.fail,g.perm⟩
theorem yU(C:Cmp prog w A s kd Ok blt){st:Bx}(g:Good0 kd a₀ st)(h0:∀x∈a₀.toList,Ok x)(hp:Bh st=#[])(hz:1<=a₀.size){Q:Unit->Bx->Prop}(h:∀st',Good0 kd a₀ st'->Ua blt (arrOf st') 0 a₀.size->Q () st'):wpS (model prog w) A E s iM Q st:=by
 unfold iM
 w_pre n8
 have hsz:(arrOf st).size=a₀.size:=g.size
 dsimp only
 rw[hsz]
 generalize (sortPriv% PySem.Builtin.minRun) a₀.size a₀.size 0=mr
 refine Ba (Ib (Ex
  (I:=λx c st'=>∃lo,c=(none,lo)/\Good0 kd a₀ st'/\Runs blt (arrOf st') (Bh st').toList 0 lo/\lo<=a₀.size/\x<=lo)
  (Q:=λc st'=>c=(none,a₀.size)/\Good0 kd a₀ st'/\Runs blt (arrOf st') (Bh st').toList 0 a₀.size) ?_ ?_ ⟨0,rfl,g,by rw[hp]; exact rfl,by omega,by omega⟩) ?_)
 ·rintro x c st1 _ hx ⟨lo,rfl,g1,rn,hlo,hxl⟩
  dsimp only
  by_cases hge:lo ≥ a₀.size
  ·rw[if_pos hge]
   have e:lo=a₀.size:=by omega
   subst e
   exact Bi ⟨rfl,g1,rn⟩
  rw[if_neg hge]
  refine Ba (B4 C (T7 g1) h0 (lo:=lo) (b:=a₀.size - lo) (by omega) (by omega) λm st2 g2 m1 m2 as ou=>?_)
  dsimp only
  have rn2:Runs blt (arrOf st2) (Bh st2).toList 0 lo:=by
   rw[g2.pd]
   exact rn.out ou (.inl (Aj _))
  have g2':=oP g2
  clear rn g1
  refine Qk (λhmin=>?_) (λhmin=>?_)
  ·refine Ba (Vf ?_)
   refine Ba (yW C g2 h0 (lo:=lo) (n:=min (a₀.size - lo) mr) (ok:=m) (by omega) as (by omega) λQn g3 as3 ou3=>?_)
   w_pre p10
   have n1:1<=min (a₀.size - lo) mr:=by omega
   have n2:lo+min (a₀.size - lo) mr<=a₀.size:=by omega
   have rn3:Runs blt (arrOf Qn) (Bh Qn).toList 0 lo:=by
    rw[g3.pd,<- g2.pd]
    exact rn2.out ou3 (.inl (Aj _))
   have g3':=oP g3
   generalize min (a₀.size - lo) mr=n at as3 n1 n2
   clear g2 g2' rn2 as ou ou3 g3 m1 m2 hmin
   w_pre n8
   cases hb:(Bh Qn).back? with
   | none =>
    dsimp only
    refine Ba (Ku ?_)
    refine Bi ⟨lo+n,rfl,⟨g3'.kind,g3'.fail,g3'.perm⟩,?_,n2,by omega⟩
    show Runs blt (arrOf Qn) ((Bh Qn).push (lo,n,0)).toList 0 (lo+n)
    rw[Iz]
    exact rn3.push n1 as3
   | some y =>
    obtain ⟨s1,l1,p1⟩:=y
    dsimp only
    refine Ba (Ib (Ex
     (I:=λ_ c st'=>c=(none,())/\Good0 kd a₀ st'/\Runs blt (arrOf st') (Bh st').toList 0 lo/\Ua blt (arrOf st') lo (lo+n))
     (Q:=λc st'=>c=(none,())/\Good0 kd a₀ st'/\Runs blt (arrOf st') (Bh st').toList 0 lo/\Ua blt (arrOf st') lo (lo+n)) ?_ (λ_ _ z=>z) ⟨rfl,g3',rn3,as3⟩) ?_)
    w_pre j
    ·rintro c st4 ⟨rfl,g4,rn4,as4⟩
     dsimp only
     refine Ba (Ku ?_)
     refine Ba (Ku ?_)
     refine Bi ⟨lo+n,rfl,⟨g4.kind,g4.fail,g4.perm⟩,?_,n2,by omega⟩
     show Runs blt (arrOf st4) (((Bh st4).modify ((Bh st4).size - 1) _).push (lo,n,0)).toList 0 (lo+n)
     rw[Iz,Array.toList_modify]
     exact (rn4.power _).push n1 as4
  ·have n2:lo+m<=a₀.size:=by omega
   w_pre n8
   cases hb:(Bh st2).back? with
   | none =>
    dsimp only
    refine Ba (Ku ?_)
    refine Bi ⟨lo+m,rfl,⟨g2'.kind,g2'.fail,g2'.perm⟩,?_,n2,by omega⟩
    show Runs blt (arrOf st2) ((Bh st2).push (lo,m,0)).toList 0 (lo+m)
    rw[Iz]
    exact rn2.push m1 as
   | some y =>
    obtain ⟨s1,l1,p1⟩:=y
    dsimp only
    refine Ba (Ib (Ex
     (I:=λ_ c st'=>c=(none,())/\Good0 kd a₀ st'/\Runs blt (arrOf st') (Bh st').toList 0 lo/\Ua blt (arrOf st') lo (lo+m))
     (Q:=λc st'=>c=(none,())/\Good0 kd a₀ st'/\Runs blt (arrOf st') (Bh st').toList 0 lo/\Ua blt (arrOf st') lo (lo+m)) ?_ (λ_ _ z=>z) ⟨rfl,g2',rn2,as⟩) ?_)
    w_pre j
    ·rintro c st4 ⟨rfl,g4,rn4,as4⟩
     dsimp only
     refine Ba (Ku ?_)
     refine Ba (Ku ?_)
     refine Bi ⟨lo+m,rfl,⟨g4.kind,g4.fail,g4.perm⟩,?_,n2,by omega⟩
     show Runs blt (arrOf st4) (((Bh st4).modify ((Bh st4).size - 1) _).push (lo,m,0)).toList 0 (lo+m)
     rw[Iz,Array.toList_modify]
     exact (rn4.power _).push m1 as4
 ·rintro c st1 ⟨lo,rfl,g1,rn,hlo,hxl⟩
  have : max 0 a₀.size=a₀.size:=by omega
  rw[this] at hxl
  have e:lo=a₀.size:=by omega
  subst e
  exact ⟨rfl,g1,rn⟩
 ·rintro c st1 ⟨rfl,g1,rn⟩
  dsimp only
  have len0:=Runs.len rn
  rw[Am] at len0
  refine Ba (Ib (Ex
   (I:=λx c st'=>c=(none,())/\Good0 kd a₀ st'/\Runs blt (arrOf st') (Bh st').toList 0 a₀.size/\((Bh st').size<=1\/(Bh st').size+x<=a₀.size))
   (Q:=λc st'=>c=(none,())/\Good0 kd a₀ st'/\Runs blt (arrOf st') (Bh st').toList 0 a₀.size/\(Bh st').size<=1) ?_ ?_ ⟨rfl,g1,rn,.inr (by omega)⟩) ?_)
  ·rintro x c st2 _ hx ⟨rfl,g2,rn2,hs⟩
   w_pre n8
   refine Qk (λh1=>Bi ⟨rfl,g2,rn2,h1⟩) (λh1=>?_)
   have h1':¬ (Bh st2).size<=1:=h1
   generalize hB:Option.any _ _=bb
   have key:∀i,i+1<(Bh st2).size->wpS (model prog w) A E s (Xu i) (λr Qn=>r=true/\Good0 kd a₀ Qn/\Runs blt (arrOf Qn) (Bh Qn).toList 0 a₀.size/\(Bh Qn).size+1=(Bh st2).size) st2 :=
    λi hi=>lW C g2 h0 (Aj _) rn2 hi λQn g3 rn3 sz _=>⟨rfl,g3,rn3,sz⟩
   refine Ba (Ib (key _ ?_) λr Qn ⟨er,g3,rn3,sz⟩=>?_)
   ·cases bb with
    | true=>show (Bh st2).size - 2 - 1+1<(Bh st2).size; omega
    | false=>show (Bh st2).size - 2+1<(Bh st2).size; omega
   subst er
   w_pre p10
   exact Bi ⟨rfl,g3,rn3,.inr (by omega)⟩
  ·rintro c st2 ⟨rfl,g2,rn2,hs⟩
   have : max 0 a₀.size=a₀.size:=by omega
   rw[this] at hs
   exact ⟨rfl,g2,rn2,by omega⟩
  ·rintro c st2 ⟨rfl,g2,rn2,hs⟩
   dsimp only
   refine Bi (h st2 g2 ?_)
   generalize hl:(Bh st2).toList=l at rn2
   have hll:l.length<=1:=by rw[<- hl,Am]; exact hs
   match l,rn2,hll with
   | [],rn2,_ =>
    have e:0=a₀.size:=rn2
    omega
   | [(s1,n1,p1)],rn2,_ =>
    obtain ⟨_,_,as,e⟩:=rn2
    have e':0+n1=a₀.size:=e
    rw[e'] at as
    exact as
end
end Ts
namespace Ts
open PySem PyProof.Rows L2
theorem lex_irr:∀l:List Int,HT.lexLt l l=false
 | []=>rfl
 | x::r=>by rw[HT.lexLt_cons,if_pos rfl]; exact lex_irr r
theorem eE:∀{a b c:List Int},HT.lexLt a b=true->HT.lexLt b c=true->HT.lexLt a c=true
 | [],[],_,h,_=>by rw[HT.lexLt_nil_nil] at h; cases h
 | [],_::_,[],_,h=>by rw[HT.lexLt_cons_nil] at h; cases h
 | [],_::_,_::_,_,_=>HT.lexLt_nil_cons _ _
 | _::_,[],_,h,_=>by rw[HT.lexLt_cons_nil] at h; cases h
 | _::_,_::_,[],_,h=>by rw[HT.lexLt_cons_nil] at h; cases h
 | x::a,y::b,z::c,h1,h2=>by
  rw[HT.lexLt_cons] at h1 h2 ⊢
  by_cases e1:x=y
  ·subst e1
   rw[if_pos rfl] at h1
   by_cases e2:x=z
   ·subst e2
    rw[if_pos rfl] at h2 ⊢
    exact eE h1 h2
   ·rw[if_neg e2] at h2 ⊢
    exact h2
  ·rw[if_neg e1] at h1
   have l1:x<y:=of_decide_eq_true h1
   by_cases e2:y=z
   ·subst e2
    rw[if_neg e1]
    exact h1
   ·rw[if_neg e2] at h2
    have l2:y<z:=of_decide_eq_true h2
    rw[if_neg (by omega)]
    exact decide_eq_true (by omega)
theorem jE:∀{a b:List Int},HT.lexLt a b=false->HT.lexLt b a=false->a=b
 | [],[],_,_=>rfl
 | [],_::_,h,_=>by rw[HT.lexLt_nil_cons] at h; cases h
 | _::_,[],_,h=>by rw[HT.lexLt_nil_cons] at h; cases h
 | x::a,y::b,h1,h2=>by
  rw[HT.lexLt_cons] at h1 h2
  by_cases e:x=y
  ·subst e
   rw[if_pos rfl] at h1 h2
   rw[jE h1 h2]
  ·rw[if_neg e] at h1
   rw[if_neg (Lu e)] at h2
   have l1:=of_decide_eq_false h1
   have l2:=of_decide_eq_false h2
   omega
theorem kZ{a b c:List Int}(h:HT.lexLt a c=true):HT.lexLt a b=true\/HT.lexLt b c=true:=by
 cases h1:HT.lexLt a b with
 | true=>exact .inl rfl
 | false =>
  cases h2:HT.lexLt b a with
  | true=>exact .inr (eE h2 h)
  | false =>
   rw[<- jE h1 h2]
   exact .inr h
def KN(c:Addr->List Int)(x:Keyed):List Int:=match x.1 with
 | .ref a=>c a
 | _=>[]
def LR(c:Addr->List Int)(x y:Keyed):Bool:=HT.lexLt (KN c x) (KN c y)
def V0(c:Addr->List Int)(rs:List Addr)(h:Heap):Prop:=∀r∈rs,∃its:List Value,Fp its (c r)/\IsTup h r its.toArray
section
variable{prog:Bk}{w:World}{A:Ci}{E:Value->Ai->Prop}{s:Ai}{c:Addr->List Int}{rs:List Addr}
theorem wW(hH:V0 c rs s.heap)(hu:A.units<cLine){a b:Addr}(ha:a∈rs)(hb:b∈rs){Q:Bool->Ai->Prop}(h:Q (HT.lexLt (c a) (c b)) s):wpAny (model prog w) A (oneLt' true (.ref a) (.ref b)) Q E s:=by
 obtain ⟨i1,t1,⟨c1,d1,dt1,sl1⟩,g1,k1,n1,e1⟩:=hH a ha
 obtain ⟨i2,t2,⟨c2,d2,dt2,sl2⟩,g2,k2,n2,e2⟩:=hH b hb
 simp only at k1 e1 k2 e2
 subst k1 e1 k2 e2
 rw[oneLt'_eq]
 simp only[if_true]
 refine Aa (wpAny_cRoomFor hu (Aa (wpAny_callSpecialIfBound?_slot ⟨_,g1,rfl⟩ PySem.F.slot_tuple_lt ?_)))
 refine Xj PySem.F.slot_tuple_lt ⟨_,g1,rfl⟩ PySem.F.entry_tuple_lt (PySem.F.args_tuple_lt_2 _ _) (HT.tuple_lt_ints a b _ _ n1 n2 d1 d2 sl1 sl2 (c a) (c b) (by simpa using t1) (by simpa using t2)) ⟨g1,g2,?_⟩
 exact Jn h
theorem M4(hH:V0 c rs s.heap)(hu:A.units<cLine):Cmp prog w A s oneType' (λx=>∃r∈rs,x.1=.ref r) (LR c) where
 run:=λx y Q E ⟨r,hr,ex⟩ ⟨r',hr',ey⟩ h=>by
  w_pre l1
  rw[keyLt'_oneType]
  exact wW hH hu hr hr' h
 irr:=λx=>lex_irr _
 tr:=λx y z h1 h2=>eE h1 h2
 neg:=λx y z h=>kZ h
theorem Wu:∀{l:List Addr} {Q:List (Option Value)->Ai->Prop},(∀r∈l,∃its:List Value,Fp its (c r)/\IsTup s.heap r its.toArray)->(∀fs:List (Option Value),fs.length=l.length->(∀(i:Nat) (r:Addr),l[i]? = some r->∃f,fs[i]? = some f/\(f.isSome=true↔c r≠[]))->Q fs s)->wpAny (model prog w) A ((l.map Be).mapM fB) Q E s
 | [],Q,_,h=>by
  rw[Qg,List.mapM_nil]
  exact Ae (h [] rfl λi r e=>by simp at e)
 | r::l,Q,hH,h=>by
  w_pre v6
  have one:∀{R:Option Value->Ai->Prop},R its.toArray[0]? s->wpAny (model prog w) A (fB (.ref r)) R E s:=λ{R} hR=>by
   unfold fB
   refine Aa (Jm (T := "tuple") ⟨o,g,k⟩ ?_)
   rw[if_neg (by simp)]
   exact Aa (listItems_at g e (Ae hR))
  refine Aa (one (Aa (Wu (λr' hr'=>hH r' (Ac _ hr')) λfs hl hf=>Ae (h _ (by rw[Bl,Bl,hl]) λi r' er=>?_))))
  cases i with
  | zero =>
   have e':r=r':=by simpa using er
   subst e'
   refine ⟨_,rfl,?_⟩
   have hlen:=ti.length
   cases its with
   | nil =>
    cases hc:c r with
    | nil=>simp
    | cons _ _=>rw[hc] at hlen; simp at hlen
   | cons a b =>
    cases hc:c r with
    | nil=>rw[hc] at hlen; simp at hlen
    | cons _ _=>simp
  | succ i =>
   obtain ⟨f,h1,h2⟩:=hf i r' (by simpa using er)
   exact ⟨f,by simpa using h1,h2⟩
theorem gW:∀{l:List Addr} {Q:List Value->Ai->Prop},(∀r∈l,∃its:List Value,Fp its (c r)/\IsTup s.heap r its.toArray)->Q (l.map λ_=>Me "tuple") s->wpAny (model prog w) A ((l.map Be).mapM typeOf) Q E s
 | [],Q,_,h=>by
  rw[Qg,List.mapM_nil]
  exact Ae h
 | r::l,Q,hH,h=>by
  w_pre v6
  exact Aa (Jm (T := "tuple") ⟨o,g,k⟩ (Aa (gW (λr' hr'=>hH r' (Ac _ hr')) (Ae h))))
theorem B1{r:Addr}{l:List Addr}(hH:V0 c (r::l) s.heap)(h0:c r=[]){Q:Mz->Ai->Prop}(h:Q oneType' s):wpAny (model prog w) A (keyKind' ((r::l).map Be).toArray) Q E s:=by
 rw[keyKind'_eq,bN]
 refine Aa ?_
 show wpAny (model prog w) A (List.toArray <$> ((r::l).map Be).mapM fB) _ E s
 rw[map_eq_pure_bind]
 refine Aa (Wu hH λfs hl hf=>Ae ?_)
 obtain ⟨f,h1,h2⟩:=hf 0 r rfl
 have fn:f=none:=by
  cases f with
  | none=>rfl
  | some v=>exact absurd h0 (h2.mp rfl)
 subst fn
 have na:¬ (fs.toArray.all λx=>x.isSome)=true:=by
  intro z
  have:=Array.all_eq_true'.mp z none (by
   have:=Bq h1
   simpa using this)
  simp at this
 have n0:¬ (fs.toArray[0]?.bind id).isSome=true:=by
  rw[List.getElem?_toArray,h1]
  simp
 rw[if_neg na,if_neg n0,oneTypeOnly'_eq,bN]
 refine Aa (Aa ?_)
 show wpAny (model prog w) A (List.toArray <$> ((r::l).map Be).mapM typeOf) _ E s
 rw[map_eq_pure_bind]
 refine Aa (gW hH (Ae ?_))
 have e0:((r::l).map λ_=>Me "tuple").toArray[0]? = some (Me "tuple"):=by simp
 have ea:(((r::l).map λ_=>Me "tuple").toArray.all λx=>x == Me "tuple")=true:=by
  simp only[List.all_toArray,bR,To]
  intro _ _
  rfl
 rw[e0]
 dsimp only
 rw[ea,if_pos rfl]
 exact Ae (Ae h)
end
theorem gS:∀{rs:List Addr} {us:List Value},Gj (rs.map V.ref) us->us=rs.map Be
 | [],_,r=>by cases r; rfl
 | a::l,_,r=>by
  rw[Ap] at r
  cases r with
  | cons r1 r2 =>
   cases r1
   rw[gS r2]
   rfl
theorem iT:∀rs:List Addr,Gj (rs.map V.ref) (rs.map Be)
 | []=>.nil
 | _::l=>.cons rfl (iT l)
section
variable{prog:Bk}{w:World}{A:Ci}{E:Value->Ai->Prop}{s:Ai}{c:Addr->List Int}{rs:List Addr}
theorem bK{h:Heap}{vs:List Value}{out:Array Value}{b:Addr}{o:Obj}(e:h.get? b=some o):(sortedAll h vs out).get? b=some o:=by
 have lt:=Ar e
 w_pre y4
 have n1:b≠h.objs.size+1:=Bm (Hq lt)
 refine ((Bp _ _ _).2 b n1).trans (Ag _ (Ag _ (((Bp _ _ _).2 b n1).trans (Ag _ ?_))))
 exact ((Bp _ _ _).2 b (Bm lt)).trans (Ag _ e)
theorem gE{h:Heap}{vs:List Value}{out:Array Value}:∃n,(sortedAll h vs out).get? (h.objs.size+1)=some (Gn "list" out n):=by
 w_pre y4
 have g1:(((h.push (Gn "list" #[] 0)).update h.objs.size (Gf (·++vs.toArray))).push (Gn "list" vs.toArray 0)).get? (h.objs.size+1)=some (Gn "list" vs.toArray 0):=by
  rw[<- z1]
  exact Au _ rfl
 have g2:=Rc g1 (λ_=>#[])
 have g3:=Ag (Gn "list" #[] 0) (Ag (Gn "tuple" vs.toArray 0) g2)
 exact ⟨_,Rc g3 (λ_=>out)⟩
end
def ER{κ:Type}(c:Addr->κ)(d0:κ)(x:Keyed):κ:=match x.1 with
 | .ref a=>c a
 | _=>d0
def KP{κ:Type}(c:Addr->κ)(d0:κ)(lt_:κ->κ->Bool)(x y:Keyed):Bool:=lt_ (ER c d0 x) (ER c d0 y)
def rG{κ:Type}(prog:Bk)(w:World)(A:Ci)(s:Ai)(rs:List Addr)(c:Addr->κ)(d0:κ)(lt_:κ->κ->Bool):Prop :=
 ∃kd,(∀(R:Mz->Ai->Prop) (E:Value->Ai->Prop),R kd s->wpAny (model prog w) A (keyKind' (rs.map Be).toArray) R E s)/\Cmp prog w A s kd (λx=>∃r∈rs,x.1=.ref r) (KP c d0 lt_)
section
variable{prog:Bk}{w:World}{A:Ci}{E:Value->Ai->Prop}{s:Ai}{κ:Type}{c:Addr->κ}{d0:κ}{lt_:κ->κ->Bool}{rs:List Addr}
theorem rO{a:Addr}{n:Nat}{P:Fin->Ai->Prop}(hl:s.heap.get? a=some (Gn "list" (rs.map Be).toArray n))(hC:∀h':Heap,(∀b o,b≠a->s.heap.get? b=some o->h'.get? b=some o)->2<=rs.length->rG prog w A { s with heap:=h' } rs c d0 lt_)(hz:rs.length<=Ay)(h:∀rs':List Addr,rs'.Perm rs->rs'.Pairwise (λx y=>lt_ (c y) (c x)=false)->P (.done (.ret .none)) { s with heap:=sortedHeap s.heap a (rs.map Be) (rs'.map Be).toArray }):wpAny (model prog w) A (Builtin.«list.sort» ⟨[.ref a],[]⟩) P E s:=by
 have lt:=Ar hl
 have hsz:(rs.map Be).toArray.size=rs.length:=by simp
 rw[list_sort_plain]
 refine Aa (listItems_at hl rfl (Aa (listUpdate_at hl rfl ?_ (by rw[hsz]; exact hz))))
 obtain ⟨ep,hl1⟩ : ∃ep,(s.heap.update a (Gf λ_=>#[])).get? a=some (Gn "list" #[] ep):=⟨_,Rc hl (λ_=>#[])⟩
 refine Aa (seqEpoch_at hl1 rfl (Aa (wpAny_newTuple (Aa (wpAny_newList (Ct ?_)) ))))
 have hl2:(((s.heap.update a (Gf λ_=>#[])).push (Gn "tuple" (rs.map Be).toArray 0)).push (Gn "list" #[] 0)).get? a=some (Gn "list" #[] ep):=by
  rw[Heap.get?_push_ne _ _ _ (by rw[size_push',Oj]; exact Bm (Hq lt)),
   Heap.get?_push_ne _ _ _ (by rw[Oj]; exact Bm lt)]
  exact hl1
 have kept:∀b o,b≠a->s.heap.get? b=some o->(((s.heap.update a (Gf λ_=>#[])).push (Gn "tuple" (rs.map Be).toArray 0)).push (Gn "list" #[] 0)).get? b=some o:=λb o hb e=>by
  refine Ag _ (Ag _ ?_)
  exact ((Bp s.heap a _).2 b hb).trans e
 show wpAny (model prog w) A _ P E { s with heap:=((s.heap.update a (Gf λ_=>#[])).push (Gn "tuple" (rs.map Be).toArray 0)).push (Gn "list" #[] 0) }
 dsimp only
 -- what is left sN the runs
 have fin:∀(out:Array Value) (rs':List Addr),out=(rs'.map Be).toArray->rs'.Perm rs->rs'.Pairwise (λx y=>lt_ (c y) (c x)=false) ->
   P (.done (.ret .none)) { s with heap:=sortedHeap s.heap a (rs.map Be) out }:=λout rs' e p1 p2=>by rw[e]; exact h rs' p1 p2
 by_cases h2:(rs.map Be).toArray.size<2
 ·rw[if_pos h2,if_pos h2]
  refine Aa (Ae ?_)
  rw[StateT.run_pure]
  refine Aa (Ae (Aa (seqEpoch_at hl2 rfl (Aa (listUpdate_at hl2 rfl ?_ (by simp) ?_)))))
  ·simp only[bne_self_eq_false,Bz,if_false]
   refine Ae (fin _ rs ?_ (Gi _) ?_)
   ·show Array.map (λx=>x.2) ((rs.map Be).toArray.zip (rs.map Be).toArray)=_
    apply Array.ext'
    simp [List.map_snd_zip]
   ·rw[hsz] at h2
    match rs,h2 with
    | [],_=>exact Ej
    | [_],_=>exact Fi _ _
    | _::_::_,h2=>simp only[Bl] at h2; omega
  ·show (Array.map (λx:Keyed=>x.2) ((rs.map Be).toArray.zip (rs.map Be).toArray)).size<=Ay+1
   rw[Wm,Array.size_zip,hsz]
   omega
 ·rw[if_neg h2,if_neg h2]
  rw[hsz] at h2
  obtain ⟨kd,hk,C⟩:=hC (((s.heap.update a (Gf λ_=>#[])).push (Gn "tuple" (rs.map Be).toArray 0)).push (Gn "list" #[] 0)) kept (by omega)
  refine Aa (hk _ _ ?_)
  have a0:(pairsOf (rs.map Be)).size=rs.length:=by rw[pairsOf_size,Ad]
  refine Aa (Cu (yU C (a₀:=pairsOf (rs.map Be)) (st:=SortSt.mk' kd ((rs.map Be).toArray.zip (rs.map Be).toArray) #[] 7 none) (E:=E)
   (Q:=λ_ st'=>Good0 kd (pairsOf (rs.map Be)) st'/\Ua (KP c d0 lt_) (arrOf st') 0 (pairsOf (rs.map Be)).size)
   ⟨rfl,rfl,Array.Perm.refl _⟩ (λx hx=>?_) rfl (by rw[a0]; omega) λst' g as=>⟨g,as⟩) ?_ λ_ _ z=>z)
  ·rw[pairsOf_toList] at hx
   obtain ⟨_,hm⟩:=mem_zip_self hx
   obtain ⟨r,hr,e⟩:=Dc.mp hm
   exact ⟨r,hr,e.symm⟩
  ·rintro ⟨⟨⟩,st'⟩ s' ⟨rfl,g,as⟩
   dsimp only
   -- the things of the new order
   have pl:(arrOf st').toList.Perm ((rs.map Be).zip (rs.map Be)):=by rw[<- pairsOf_toList]; exact Qw.mp g.perm
   have each:∀x∈(arrOf st').toList,∃r∈rs,x=(Be r,Be r):=λx hx=>by
    obtain ⟨e,hm⟩:=mem_zip_self (pl.mem_iff.mp hx)
    obtain ⟨r,hr,e2⟩:=Dc.mp hm
    refine ⟨r,hr,?_⟩
    obtain ⟨x1,x2⟩:=x
    simp only at e e2
    rw[<- e,e2]
   have ex:∀l:List Keyed,(∀x∈l,∃r∈rs,x=(Be r,Be r))->∃rs':List Addr,l=rs'.map λr=>(Be r,Be r):=by
    intro l
    induction l with
    | nil=>intro _; exact ⟨[],rfl⟩
    | cons x l ih =>
     intro hx
     obtain ⟨r,_,e⟩:=hx x Ab
     obtain ⟨rs',e'⟩:=ih λy hy=>hx y (Ac _ hy)
     exact ⟨r::rs',by rw[Ap,e,e']⟩
   obtain ⟨rs',ers⟩:=ex _ each
   have zz:(rs.map Be).zip (rs.map Be)=rs.map λr=>(Be r,Be r):=by
    rw[List.zip_map',]
   rw[ers,zz] at pl
   have inj:∀x:Keyed,∃a:Addr,True:=λ_=>⟨0,trivial⟩
   have pr:rs'.Perm rs:=by
    have:=pl.map (λx:Keyed=>match x.1 with | .ref a=>a | _=>0)
    rw[Cr,Cr] at this
    simpa [Function.comp_def] using this
   have so:rs'.Pairwise (λx y=>lt_ (c y) (c x)=false):=by
    rw[Lp]
    intro i j hi hj hij
    have ls:(arrOf st').size=rs'.length:=by
     have:=congrArg Ja ers
     rw[Am,Ad] at this
     exact this
    have xe:∀k (hk:k<rs'.length),X (arrOf st') k=(Be rs'[k],Be rs'[k]):=λk hk=>by
     have e1:=Eu (bI (xs:=arrOf st') (i:=k) (by omega))
     rw[ers,Bg,Bt hk] at e1
     exact (Ca e1).symm
    have:=as i j (Dq _) (by omega) (by rw[a0,<- pr.length_eq]; exact hj)
    rw[xe i hi,xe j hj] at this
    exact this
   refine Aa (seqEpoch_at hl2 rfl (Aa (listUpdate_at hl2 rfl ?_ (by simp) ?_)))
   ·have fl:My st'=none:=g.fail
    rw[fl]
    simp only[bne_self_eq_false,Bz,if_false]
    refine Ae (fin _ rs' ?_ pr so)
    apply Array.ext'
    rw[Array.toList_map,ers,Cr]
    rfl
   ·show (Array.map (λx:Keyed=>x.2) (arrOf st')).size<=Ay+1
    rw[Wm,g.size,a0]
    omega
theorem kF{l:Addr}{Q:Value->Ai->Prop}(hl:s.heap.IsList l (rs.map Be).toArray)(hC:∀(A':Ci) (h':Heap),A'.units<=A.units+2->A'.handled=A.handled->(∀b o,s.heap.get? b=some o->h'.get? b=some o)->2<=rs.length->rG prog w A' { s with heap:=h' } rs c d0 lt_)(hz:rs.length<=Ay)(h:∀rs':List Addr,rs'.Perm rs->rs'.Pairwise (λx y=>lt_ (c y) (c x)=false)->Q (.ref (s.heap.objs.size+1)) { s with heap:=sortedAll s.heap (rs.map Be) (rs'.map Be).toArray }):wpAny (model prog w) A (call (.builtin "sorted") [.ref l]) Q E s:=by
 refine Rg (by exact kind_sorted) plain_sorted entry_sorted (args_sorted1 _) ?_
 unfold Builtin.«sorted»
 refine Aa (m:=checkCount "sorted" 1 1 _) (Ae (Aa (collect_list hl (Aa (wpAny_newList ?_)) (by rw[Ad]; exact hz))))
 have z1:((s.heap.push (Gn "list" #[] 0)).update s.heap.objs.size (Gf (·++(rs.map Be).toArray))).objs.size=s.heap.objs.size+1:=by rw[Oj,size_push']
 have g1:(((s.heap.push (Gn "list" #[] 0)).update s.heap.objs.size (Gf (·++(rs.map Be).toArray))).push (Gn "list" (rs.map Be).toArray 0)).get? (s.heap.objs.size+1)=some (Gn "list" (rs.map Be).toArray 0):=by
  rw[<- z1]
  exact Au _ rfl
 have kept:∀b o,s.heap.get? b=some o->(((s.heap.push (Gn "list" #[] 0)).update s.heap.objs.size (Gf (·++(rs.map Be).toArray))).push (Gn "list" (rs.map Be).toArray 0)).get? b=some o:=λb o e=>by
  refine Ag _ (((Bp _ _ _).2 b (Bm (Ar e))).trans (Ag _ e))
 show wpAny _ _ _ _ _ { s with heap:=((s.heap.push (Gn "list" #[] 0)).update s.heap.objs.size (Gf (·++(rs.map Be).toArray))).push (Gn "list" (rs.map Be).toArray 0) }
 rw[z1]
 refine Aa (Ct (Dj slot_list_sort ⟨_,g1,rfl⟩ entry_list_sort (rO g1 (λh' hk h2=>hC _ h' ?_ ?_ (λb o e=>hk b o (Bm (Hq (Ar e))) (kept b o e)) h2) hz λrs' p1 p2=>⟨_,rfl,?_⟩) (args_list_sort _)))
 ·first | exact Aj _ | (show A.units+1<=A.units+2; omega) | (show A.units<=A.units+2; omega)
 ·rfl
 ·exact Ae ⟨_,rfl,h rs' p1 p2⟩
end
section
variable{prog:Bk}{w:World}{A:Ci}{E:Value->Ai->Prop}{s:Ai}{c:Addr->List Int}{rs:List Addr}
theorem Q6{b:Bool}{x y:Int}{t u:Tok}{Q:Bool->Ai->Prop}(h:Q (decide (x<y)) s):wpAny (model prog w) A (oneLt' b (.int x t) (.int y u)) Q E s:=by
 cases b with
 | true=>exact oneLt_int h
 | false=>exact PySem.W.kat_one _ _ (lt_int h)
theorem nZ{b:Bool}{Q:Bool->Ai->Prop}:∀{xs ys:List Value} {ns ms:List Int} (i:Nat),Fp xs ns->Fp ys ms->Q (HT.lexLt ns ms) s->PySem.W.KatLex prog w A b (decide (xs.length<ys.length)) Q (xs.zip ys) i s
 | _,_,_,_,i,.nil,.nil,h=>h
 | _,_,_,_,i,.nil,.cons m u k,h=>h
 | _,_,_,_,i,.cons n t k,.nil,h=>h
 | _,_,_,_,i,.cons (vs:=xs) n t k,.cons (vs:=ys) m u k2,h=>by
  rw[Ig]
  refine PySem.W.kat_cons (wpAny_eqBool_int ?_)
  rw[HT.lexLt_cons] at h
  cases hnm:(n == m) with
  | true =>
   have e:n=m:=by simpa using hnm
   rw[if_pos e] at h
   refine PySem.W.kat_yes ?_
   have : decide ((Oc n t::xs).length<(Oc m u::ys).length)=decide (xs.length<ys.length):=by simp
   rw[this]
   exact nZ (i+1) k k2 h
  | false =>
   have e:¬ n=m:=by simpa using hnm
   rw[if_neg e] at h
   exact PySem.W.kat_no (Q6 h)
theorem eM:∀{l:List Addr},(∀r∈l,∃its:List Value,Fp its (c r)/\IsTup s.heap r its.toArray)->(∀r∈l,c r≠[])->∃fs:List Value,PySem.W.KatTups s.heap (l.map Be) fs/\fs.length=l.length/\∀v∈fs,∃i t,v=.int i t
 | [],_,_=>⟨[],.nil,rfl,λ_ h=>(nomatch h)⟩
 | r::l,hH,hn=>by
  obtain ⟨fs,h1,h2,h3⟩:=eM (λr' hr'=>hH r' (Ac _ hr')) (λr' hr'=>hn r' (Ac _ hr'))
  obtain ⟨its,ti,o,g,k,n,e⟩:=hH r Ab
  have hne:=hn r Ab
  match its,ti with
  | [],ti=>cases hc:c r with
   | nil=>exact absurd hc hne
   | cons _ _=>rw[hc] at ti; cases ti
  | v::its,ti =>
   have : ∃i t,v=.int i t:=by
    revert ti
    generalize c r=cr
    intro ti
    cases ti with
    | cons m t k=>exact ⟨_,_,rfl⟩
   refine ⟨v::fs,PySem.W.KatTups.cons g k e (by simp) h1,by rw[Bl,Bl,h2],λx hx=>?_⟩
   rcases Ak.mp hx with rfl | hx
   ·exact this
   ·exact h3 x hx
theorem nM(hH:V0 c rs s.heap)(hu:A.units<cLine)(h2:2<=rs.length):rG prog w A s rs c [] HT.lexLt:=by
 obtain ⟨r,l,rfl⟩ : ∃r l,rs=r::l:=by
  cases rs with
  | nil=>simp at h2
  | cons r l=>exact ⟨r,l,rfl⟩
 by_cases h0:c r=[]
 ·exact ⟨oneType',λR E h=>B1 hH h0 h,M4 hH hu⟩
 by_cases hall:∀r'∈r::l,c r'≠[]
 ·obtain ⟨fs,f1,f2,f3⟩:=eM hH hall
  refine ⟨tuples' true,λR E h=>?_,?_⟩
  ·refine PySem.W.kat_kind (T:=.type "int") f1 (by rw[f2]; simp) (λv hv=>?_) (by decide) h
   obtain ⟨i,t,rfl⟩:=f3 v hv
   exact .now
  ·refine ⟨λx y Q E ⟨r1,hr1,ex⟩ ⟨r2,hr2,ey⟩ h=>?_,λx=>lex_irr _,λx y z=>eE,λx y z=>kZ⟩
   w_pre l1
   obtain ⟨i1,t1,o1,g1,k1,n1,e1⟩:=hH r1 hr1
   obtain ⟨i2,t2,o2,g2,k2,n2,e2⟩:=hH r2 hr2
   refine PySem.W.kat_lt g1 e1 g2 e2 ?_
   have e:(decide (i1.toArray.size<i2.toArray.size))=decide (i1.length<i2.length):=by simp
   rw[e]
   exact nZ 0 t1 t2 h
 ·refine ⟨general',λR E h=>?_,?_⟩
  ·rw[kat_kind_eq,bN,map_eq_pure_bind]
   refine Aa (Aa (Wu hH λfs hl hf=>Ae ?_))
   have na:¬ (fs.toArray.all λx=>x.isSome)=true:=by
    intro z
    refine hall λr' hr'=>?_
    obtain ⟨i,hi⟩:=List.getElem?_of_mem hr'
    obtain ⟨f,q1,q2⟩:=hf i r' hi
    refine q2.mp ?_
    exact Array.all_eq_true'.mp z f (by have:=Bq q1; simpa using this)
   obtain ⟨f,q1,q2⟩:=hf 0 r rfl
   have n0:(fs.toArray[0]?.bind id).isSome=true:=by
    rw[List.getElem?_toArray,q1]
    simpa using q2.mpr h0
   rw[if_neg na,if_pos n0]
   exact Ae h
  ·refine ⟨λx y Q E ⟨r1,hr1,ex⟩ ⟨r2,hr2,ey⟩ h=>?_,λx=>lex_irr _,λx y z=>eE,λx y z=>kZ⟩
   w_pre l1
   obtain ⟨i1,t1,p1⟩:=hH r1 hr1
   obtain ⟨i2,t2,p2⟩:=hH r2 hr2
   show wpAny (model prog w) A (oneLt' false (.ref r1) (.ref r2)) Q E s
   exact PySem.W.kat_one _ _ (HT.lt_tupInts p1 p2 (show Fp i1.toArray.toList (c r1) by simpa using t1) (show Fp i2.toArray.toList (c r2) by simpa using t2) hu h)
end
section
variable{X:Cx}
def rSortI(K:PySem.W.Frag):List V->Hp->VK->Prop:=λxs H Q=>∃(a:Addr) (rs:List Addr) (c:Addr->List Int),xs=[.ref a]/\Mp K H a (rs.map V.ref)/\(∀r∈rs,Rq K H r ((c r).map V.int)) /\
  ∀(p:Addr) (rs':List Addr),H p=none->rs'.Perm rs->rs'.Pairwise (λx y=>HT.lexLt (c y) (c x)=false)->Q (.ref p) (upd H p (.lst (rs'.map V.ref)))
theorem call_sortedI(hu:X.A.units+64<cLine):Mh X (.builtin "sorted") (rSortI X.K):=by
 w_pre r7
 obtain ⟨a,rs,c,rfl,hl,hc,q⟩:=h
 w_pre q4
 obtain ⟨its,rv,pl,hz⟩:=I.list hl
 have e:=gS rv
 subst e
 rw[Ad] at hz
 refine kF (c:=c) (d0:=[]) (lt_:=HT.lexLt) pl.isList (λA' h' hA _ hk h2=>nM (λr hr=>?_) (by omega) h2) hz λrs' p1 p2=>?_
 ·obtain ⟨ti,t1,⟨o,g,k⟩,_⟩:=I.tuple (hc r hr)
  exact ⟨ti,intsAre_of t1,o,hk _ _ g,k⟩
 ·obtain ⟨n,hn⟩:=gE (h:=s.heap) (vs:=rs.map Be) (out:=(rs'.map Be).toArray)
  refine ⟨.ref (s.heap.objs.size+1),upd H (s.heap.objs.size+1) (.lst (rs'.map V.ref)),I.laid (t':=s.toks) (λb o e=>bK e) (Mu _) ⟨?_,_,n,iT rs',hn⟩,rfl,q _ rs' (I.hok.fresh (Mu _)) p1 p2⟩
  rw[Ad,p1.length_eq]
  exact hz
end
end Ts
namespace DL
open PySem L2 Nd
def Mi{α:Type}(xs:List α)(lo hi:Option Int):List α:=(xs.drop (HT.sIx xs.length 0 lo)).take (HT.sIx xs.length xs.length hi - HT.sIx xs.length 0 lo)
theorem Tr{α β:Type}(f:α->β)(xs:List α)(lo hi:Option Int):Mi (xs.map f) lo hi=(Mi xs lo hi).map f:=by
 unfold Mi
 rw[Ad,List.map_take,List.map_drop]
theorem Yo{α:Type}(xs:List α)(lo hi:Option Int):(Mi xs lo hi).Sublist xs:=(Hm _ _).trans (Jc _ _)
theorem Zw{α:Type}(xs:List α)(k:Nat):Mi xs none (some (k:Int))=xs.take k:=by
 unfold Mi
 rw[HT.sIx_none,HT.sIx_nat,Nk,Nat.sub_zero]
 w_pre n7
 ·rw[fK (by omega),Ey,Gu (by omega)]
section
variable{K:PySem.W.Frag}{H:Hp}
theorem RdFs.drop:∀(n:Nat) {xs:List V} {ds:List Af} {F:List Addr},RdFs K H xs ds F->∃G,RdFs K H (xs.drop n) (ds.drop n) G/\G.Sublist F
 | 0,_,_,F,h=>⟨F,h,Co _⟩
 | n+1,_,_,_,.nil=>⟨[],.nil,Co _⟩
 | n+1,_,_,_,.cons _ t=>by
  obtain ⟨G,h1,h2⟩:=RdFs.drop n t
  exact ⟨G,h1,h2.trans (Bu _ _)⟩
theorem RdFs.take:∀(n:Nat) {xs:List V} {ds:List Af} {F:List Addr},RdFs K H xs ds F->∃G,RdFs K H (xs.take n) (ds.take n) G/\G.Sublist F
 | 0,_,_,F,h=>⟨[],.nil,List.nil_sublist _⟩
 | n+1,_,_,_,.nil=>⟨[],.nil,Co _⟩
 | n+1,_,_,_,.cons a t=>by
  obtain ⟨G,h1,h2⟩:=RdFs.take n t
  exact ⟨_,.cons a h1,(Co _).append h2⟩
theorem RdFs.cut{xs:List V}{ds:List Af}{F:List Addr}(h:RdFs K H xs ds F)(lo hi:Option Int):∃G,RdFs K H (cP xs lo hi) (Mi ds lo hi) G/\G.Sublist F:=by
 unfold cP Mi
 rw[h.len]
 obtain ⟨G,h1,h2⟩:=h.drop (HT.sIx ds.length 0 lo)
 obtain ⟨G',h3,h4⟩:=h1.take (HT.sIx ds.length ds.length hi - HT.sIx ds.length 0 lo)
 exact ⟨G',h3,h4.trans h2⟩
theorem RdFs.rep{xs:List V}{ds:List Af}(h:RdFs K H xs ds []):∀k:Nat,RdFs K H (By k xs).flatten (By k ds).flatten []
 | 0=>.nil
 | k+1=>by
  rw[Gv,Gv,Jb,Jb]
  exact h.app (RdFs.rep h k)
theorem RdFs.ints:∀ns:List Int,RdFs K H (ns.map V.int) (ns.map Aw) []
 | []=>.nil
 | n::ns=>RdFs.cons (F:=[]) (.int n) (RdFs.ints ns)
theorem RdFs.ints_inv:∀{ns:List Int} {xs:List V} {F:List Addr},RdFs K H xs (ns.map Aw) F->xs=ns.map V.int/\F=[]
 | [],_,_,h=>by cases h; exact ⟨rfl,rfl⟩
 | n::ns,_,_,h=>by
  rw[Ap] at h
  cases h with
  | cons a t =>
   obtain ⟨rfl,rfl⟩:=a.int_inv
   obtain ⟨rfl,rfl⟩:=RdFs.ints_inv t
   exact ⟨rfl,rfl⟩
theorem RdFs.bools_inv:∀{ns:List Bool} {xs:List V} {F:List Addr},RdFs K H xs (ns.map PyData.bool) F->xs=ns.map V.bl/\F=[]
 | [],_,_,h=>by cases h; exact ⟨rfl,rfl⟩
 | n::ns,_,_,h=>by
  rw[Ap] at h
  cases h with
  | cons a t =>
   obtain ⟨rfl,rfl⟩:=a.bl_inv
   obtain ⟨rfl,rfl⟩:=RdFs.bools_inv t
   exact ⟨rfl,rfl⟩
end
theorem cM{a b:List Af}:Dx (a++b)=(Dx a && Dx b):=by
 induction a with
 | nil=>simp [Dx]
 | cons x a ih=>simp [Dx,ih,Bool.and_assoc]
theorem Nv(ns:List Int):Dx (ns.map Aw)=true:=Wp (λ_=>by simp [imm]) ns
def vD:D2:=λx y P=>match x,y with
 | .dat _ (.list ds),.dat _ (.list es)=>Dx ds=true/\Dx es=true/\ds.length+es.length<=1000000/\P (.dat .ow (.list (ds++es)))
 | _,_=>False
def kD:D2:=λx y P=>match x,y with
 | .dat _ (.tuple ds),.dat _ (.tuple es)=>Dx ds=true/\Dx es=true/\ds.length+es.length<=1000000/\P (.dat .ow (.tuple (ds++es)))
 | _,_=>False
def uD:D2:=λx y P=>match x,y with
 | .dat _ (.list ds),.dat _ (.int k)=>Dx ds=true /\ -1000000<=k/\k<=1000000/\ds.length * k.toNat<=1000000/\P (.dat .ow (.list (By k.toNat ds).flatten))
 | _,_=>False
section
variable{K:PySem.W.Frag}
theorem CV:sI K FQ vD:=by
 w_pre u7
 unfold vD at hd
 w_pre w7
 ·obtain ⟨i1,i2,hz,p⟩:=hd
  obtain ⟨b,ys,G1,rfl,hb,rb,_,_⟩:=(hA.told mem_mid).list_inv
  w_pre e6
  have l2:=rb.len
  refine ⟨a,b,xs,ys,rfl,rfl,ha,hb,pF (by omega),λq hq=>?_⟩
  exact k _ _ _ _ (hA.drop2.newI (ra.app rb) (by rw[cM,i1,i2]; rfl) (by rw[Bn]; exact pF (by omega)) hq .ow) p
 w_pre v7
theorem CH:sI K FT uD:=by
 w_pre u7
 unfold uD at hd
 w_pre w7
 ·obtain ⟨i1,k0,k1,hz,p⟩:=hd
  w_pre d8
  w_pre e6
  obtain rfl:=ra.imm i1
  rename_i j
  refine ⟨a,_,xs,rfl,rfl,ha,by omega,by omega,pF (by rw[l1]; exact hz),λq hq=>?_⟩
  refine k _ _ _ _ (hA.drop2.newI (ra.rep _) ?_ (by rw[vT,Nat.mul_comm]; exact pF hz) hq .ow) p
  refine tE.mpr λz hz'=>?_
  obtain ⟨l,hl,hz'⟩:=List.mem_flatten.mp hz'
  rw[(Ih.mp hl).2] at hz'
  exact tE.mp i1 z hz'
 w_pre v7
theorem O3:sI K (X8 K) kD:=by
 w_pre u7
 unfold kD at hd
 w_pre w7
 ·obtain ⟨i1,i2,hz,p⟩:=hd
  obtain ⟨b,ys,rfl,hb,rb,zb⟩:=(hA.told mem_mid).tup_inv
  obtain ⟨a,xs,rfl,ha,ra,za⟩:=(hA.told Gb).tup_inv
  have l1:=ra.len
  have l2:=rb.len
  obtain rfl:=ra.imm i1
  obtain rfl:=rb.imm i2
  refine ⟨a,b,xs,ys,rfl,rfl,Rq.of ha,Rq.of hb,pF (by omega),λe=>?_,λe=>?_,λq hq=>?_⟩
  ·subst e
   obtain rfl:=Ms.mp (l1.symm.trans rfl)
   exact k _ _ [] _ (hA.drop2.pushI (.tup hb zb rb)) p
  ·subst e
   obtain rfl:=Ms.mp (l2.symm.trans rfl)
   rw[Ec] at p
   exact k _ _ [] _ (hA.drop2.pushI (.tup ha za ra)) p
  ·have s1:=Fg hq (.tup (xs++ys))
   exact k _ _ [] _ ((hA.drop2.grow s1 (Aj _)).pushI (.tup Du (by rw[Bn]; exact pF (by omega)) ((ra.app rb).kp (Kp.of s1)))) p
 w_pre v7
end
section
variable{X:Cx}{a b:Expr}{da db:DE}{pos:Pos}
theorem Zs(ha:Gr X a da)(hb:Gr X b db):Gr X (.BinOp a .Add b pos) (cQ vD da db):=aV CN CV ha hb
theorem jT(ha:Gr X a da)(hb:Gr X b db):Gr X (.BinOp a .Add b pos) (cQ kD da db):=aV S7 O3 ha hb
theorem BC(ha:Gr X a da)(hb:Gr X b db):Gr X (.BinOp a .Mult b pos) (cQ uD da db):=aV EH CH ha hb
end
abbrev DO:=DS->(Option Int->DS->Prop)->Prop
def LO(K:PySem.W.Frag)(do_:DO):TO:=λσ H Q=>∃(H0:Hp) (X:Addr->Prop) (S T:List Ent) (δ:DS) (P:Option Int->DS->Prop),vs S=σ/\Sl S δ/\At K H0 X δ.n (S++T) H/\do_ δ P /\
 ∀o δ' S' H',vs S'=σ->Sl S' δ'->At K H0 X δ'.n (S'++T) H'->P o δ'->Q o H'
abbrev EI(X:Cx)(e:Option Expr)(d:DO):Prop:=PO X e (LO X.K d)
theorem PO.imp{X:Cx}{e:Option Expr}{t t':TO}(h:PO X e t)(k:∀σ H Q,t' σ H Q->t σ H Q):PO X e t':=λpins s σ H Q I q=>h pins s σ H Q I (k σ H Q q)
def uV:DO:=λδ P=>P none δ
def Y1(de:DE):DO:=λδ P=>de δ λx δ'=>match x with
 | .dat _ (.int i)=>P (some i) δ'
 | _=>False
section
variable{X:Cx}{e:Expr}{de:DE}{lo hi:Option Expr}{dl dh:DO}{pos p2:Pos}
theorem Xp:EI X none uV:=by
 refine PO.imp L9 λσ H Q h=>?_
 w_pre k8
 exact k _ δ S H rfl hS hA hd
theorem Yu(h:Gr X e de):EI X (some e) (Y1 de):=by
 refine PO.imp (Q5 h) λσ H Q h=>?_
 w_pre p4
 split at p
 ·obtain ⟨rfl,_⟩:=(hA'.told mem_mid).int_inv
  exact ⟨_,rfl,k _ δ' S' H' e1 e2 hA'.drop p⟩
 w_pre s8
def KW(i:Bool)(de:DE)(dl dh:DO):DE:=λδ P=>de δ λx δ1=>dl δ1 λl δ2=>dh δ2 λh δ3=>match x with
 | .dat m (.list ds)=>aU i m (Mi ds l h) λz=>P z δ3
 | .dat m (.tuple ds)=>gJ i m (Mi ds l h) λz=>P z δ3
 | _=>False
def JJ(K:PySem.W.Frag):V->Option Int->Option Int->Hp->VK->Prop:=λx lo hi H Q=>CY K x lo hi H Q\/Y0 x lo hi H Q
theorem eD{i:Bool}(he:Gr X e de)(hl:EI X lo dl)(hh:EI X hi dh):Gr X (.Subscript e (.Slice lo hi none p2) pos) (KW i de dl dh):=by
 refine PE.imp (nA (r:=JJ X.K) (O2.or O5) he hl hh) λσ H Q h=>?_
 w_pre o4
 refine ⟨H0,Y,S1,⟨some v,x,F⟩::T,δ1,_,e1,e2,hA1,p1,λl δ2 S2 H2 e3 e4 hA2 p2=>?_⟩
 refine ⟨H0,Y,S2,⟨some v,x,F⟩::T,δ2,_,e3,e4,hA2,p2,λh δ3 S3 H3 e5 e6 hA3 p3=>?_⟩
 split at p3
 ·obtain ⟨a,xs,G,rfl,ha,ra,rfl,hz⟩:=(hA3.told mem_mid).list_inv
  refine .inl ⟨a,xs,rfl,Mp.of ha,λp hp=>?_⟩
  obtain ⟨G',h1,h2⟩:=ra.cut l h
  obtain ⟨z,F',hA4,p4⟩:=hA3.newL h1 (h2.trans (Dm _ _)) (Cb (Yo _ _ _).length_le hz) hp p3
  exact k z δ3 _ F' S3 _ e5 e6 hA4 p4
 ·obtain ⟨a,xs,rfl,ha,ra,hz⟩:=(hA3.told mem_mid).tup_inv
  refine .inr ⟨a,xs,rfl,ha,λp H' hp s1=>?_⟩
  obtain ⟨G',h1,h2⟩:=ra.cut l h
  obtain ⟨z,F',hA4,p4⟩:=(hA3.grow s1 (Aj _)).oldT (h1.kp (Kp.of s1)) h2 (Cb (Yo _ _ _).length_le hz) hp p3
  exact k z δ3 _ F' S3 _ e5 e6 hA4 p4
 ·exact p3.elim
end
end DL
namespace NdS
open PySem PyProof.Rows
end NdS
namespace Nd
open PySem PySem.Spec PyProof.Rows L2 NdS
def Y5(w:World)(K:PySem.W.Frag):List V->Hp->VK->Prop:=λxs H Q=>∃(a:Addr) (ns U:List Int),xs=[.ref a]/\Mp K H a (ns.map V.int)/\U.length<=62/\Among U ns/\∀p,H p=none->Q (.ref p) (upd H p (Yb w p ns))
end Nd
namespace DL
open PySem L2 Nd
def oO(x:Int):List Int->List Int
 | []=>[x]
 | y::l=>if x<y then x::y::l else if x=y then y::l else y::oO x l
def Pl(ns:List Int):List Int:=ns.foldr oO []
theorem mL{x z:Int}:∀{l:List Int},z∈oO x l↔z=x\/z∈l
 | []=>by simp [oO]
 | y::l=>by
  unfold oO
  split
  ·simp
  ·split
   ·rename_i h1 h2
    subst h2
    simp
   ·simp only[Ak,mL (l:=l)]
    w_pre a8
    ·rintro (h | h | h) <;> simp [h]
    ·rintro (h | h | h) <;> simp [h]
theorem iR{x:Int}:∀{l:List Int},l.Pairwise (· < ·)->(oO x l).Pairwise (· < ·)
 | [],_=>Fi _ _
 | y::l,h=>by
  obtain ⟨h1,h2⟩:=Bd.mp h
  unfold oO
  split
  ·rename_i hx
   w_pre r3
   ·exact Int.lt_trans hx (h1 z hz)
  ·split
   ·exact h
   ·refine Bd.mpr ⟨λz hz=>?_,iR h2⟩
    rcases mL.mp hz with rfl | hz
    ·omega
    ·exact h1 z hz
theorem Vl:∀ns:List Int,(Pl ns).Pairwise (· < ·)
 | []=>Ej
 | n::ns=>iR (Vl ns)
theorem mK{x:Int}:∀{ns:List Int},x∈Pl ns↔x∈ns
 | []=>Iff.rfl
 | n::ns=>by
  rw[show Pl (n::ns)=oO n (Pl ns) from rfl,mL,mK (ns:=ns),Ak]
theorem uG{l ns:List Int}(h:l.Pairwise (· < ·))(m:∀x,x∈l↔x∈ns):l=Pl ns:=gU h (Vl ns) λx=>(m x).trans mK.symm
theorem dE:∀{l m:List Int},l.Perm m->l.Pairwise (·<=·)->m.Pairwise (·<=·)->l=m
 | [],m,p,_,_=>(List.nil_perm.mp p).symm
 | a::l,[],p,_,_=>(List.perm_nil.mp p)
 | a::l,b::m,p,h1,h2=>by
  obtain ⟨q1,r1⟩:=Bd.mp h1
  obtain ⟨q2,r2⟩:=Bd.mp h2
  have e:a=b:=by
   rcases Ak.mp (p.mem_iff.mp Ab) with z | z
   ·exact z
   ·rcases Ak.mp (p.mem_iff.mpr Ab) with y | y
    ·exact y.symm
    ·have:=q2 a z; have:=q1 b y; omega
  subst e
  rw[dE (List.perm_cons _ |>.mp p) r1 r2]
def yM(x:Int):List Int->List Int
 | []=>[x]
 | y::l=>if x<=y then x::y::l else y::yM x l
def eZ(ns:List Int):List Int:=ns.foldr yM []
theorem wB{x:Int}:∀{l:List Int},(yM x l).Perm (x::l)
 | []=>Gi _
 | y::l=>by
  unfold yM
  split
  ·exact Gi _
  ·exact ((wB (l:=l)).cons y).trans (Ek _ _ _)
theorem Pk:∀ns:List Int,(eZ ns).Perm ns
 | []=>Gi _
 | n::ns=>wB.trans ((Pk ns).cons n)
theorem vJ{x:Int}:∀{l:List Int},l.Pairwise (·<=·)->(yM x l).Pairwise (·<=·)
 | [],_=>Fi _ _
 | y::l,h=>by
  obtain ⟨h1,h2⟩:=Bd.mp h
  unfold yM
  split
  ·rename_i hx
   w_pre r3
   ·exact Int.le_trans hx (h1 z hz)
  ·refine Bd.mpr ⟨λz hz=>?_,vJ h2⟩
   rcases Ak.mp (wB.mem_iff.mp hz) with rfl | hz
   ·omega
   ·exact h1 z hz
theorem cK:∀ns:List Int,(eZ ns).Pairwise (·<=·)
 | []=>Ej
 | n::ns=>vJ (cK ns)
theorem A7{l ns:List Int}(p:l.Perm ns)(h:l.Pairwise (·<=·)):l=eZ ns:=dE (p.trans (Pk ns).symm) h (cK ns)
theorem xS(ns:List Int):(eZ ns).length=ns.length:=(Pk ns).length_eq
abbrev DC:=List DV->(DV->Prop)->Prop
def Sz(K:PySem.W.Frag)(r:List V->Hp->VK->Prop)(rd:DC):Prop:=∀(H0:Hp) (X:Addr->Prop) (n:Nat) (S T As:List Ent) (us:List V) (H:Hp) (Q:VK) (P:DV->Prop),
 As.map Ent.v=us.map some->At K H0 X n (S++(As++T)) H->rd (As.map Ent.x) P->(∀z u F' H',At K H0 X n (S++⟨some u,z,F'⟩::T) H'->P z->Q u H')->r us H Q
def IM(rd:DC)(da:DA):DE:=λδ P=>da δ λxs δ1=>rd xs λz=>P z δ1
section
variable{X:Cx}{x:Str}{p pos:Pos}{e:Expr}{es:List Expr}{da:DA}{id T:String}{r:List V->Hp->VK->Prop}{rd:DC}
theorem X0{K:PySem.W.Frag}(o:Sz K r rd):∀σ H Q,LE K (IM rd da) σ H Q->IX r (LA K da) σ H Q:=by
 w_pre s2
 subst ex
 exact o H0 Y δ'.n S' T As us H' Q _ eu hA' p λz u F' H'' hA3 p3=>k z δ' u F' S' H'' e1 e2 hA3 p3
theorem Ha(hc:Mh X (.builtin id) r)(o:Sz X.K r rd)(hg:Gl X x)(hm:X.mg x=none)(hv:Os x=some (.builtin id))(ha:mB X (e::es) da)(hn:x ≠ "__name__" := by decide)(hdb:(x == ("__debug__" : Str))=false:=by decide)(he:Bj (e::es) X.env=(false,eval e X.env)::Bj es X.env:=by rfl)(hpl:(Hh pos (Bj es X.env)).any (·.1)=false:=by rfl):Gr X (.Call (.Name x p) (e::es) [] pos) (IM rd da) :=
 PE.imp (eI hc hg hm hv ha hn hdb he hpl) (X0 o)
theorem Jg(hc:Mh X (.type T) r)(o:Sz X.K r rd)(hg:Gl X x)(hm:X.mg x=none)(hv:Os x=some (.type T))(ha:mB X (e::es) da)(hn:x ≠ "__name__" := by decide)(hdb:(x == ("__debug__" : Str))=false:=by decide)(he:Bj (e::es) X.env=(false,eval e X.env)::Bj es X.env:=by rfl)(hpl:(Hh pos (Bj es X.env)).any (·.1)=false:=by rfl):Gr X (.Call (.Name x p) (e::es) [] pos) (IM rd da) :=
 PE.imp (Nh hc hg hm hv ha hn hdb he hpl) (X0 o)
end
theorem BW{α β:Type}{f:α->β}{l:List α}{x:β}(h:l.map f=[x]):∃a,l=[a]/\f a=x:=by
 cases l with
 | nil=>cases h
 | cons a t =>
  obtain ⟨h1,h2⟩:=Ht h
  exact ⟨a,by rw[zH.mp h2],h1⟩
theorem FZ{α β:Type}{f:α->β}{l:List α}{x y:β}(h:l.map f=[x,y]):∃a b,l=[a,b]/\f a=x/\f b=y:=by
 cases l with
 | nil=>cases h
 | cons a t =>
  obtain ⟨h1,h2⟩:=Ht h
  obtain ⟨b,rfl,h3⟩:=BW h2
  exact ⟨a,b,rfl,h1,h3⟩
theorem Hx{K:PySem.W.Frag}{H0 H:Hp}{X:Addr->Prop}{n:Nat}{S T As:List Ent}{us:List V}{x:DV}(eu:As.map Ent.v=us.map some)(hA:At K H0 X n (S++(As++T)) H)(ex:As.map Ent.x=[x]):∃v F,us=[v]/\At K H0 X n (S++⟨some v,x,F⟩::T) H:=by
 obtain ⟨⟨v,y,F⟩,rfl,h1⟩:=BW ex
 obtain ⟨u,rfl,h2⟩:=BW eu.symm
 have h1':y=x:=h1
 have h2':some u=v:=h2
 subst h1' h2'
 exact ⟨u,F,rfl,hA⟩
theorem Xq{K:PySem.W.Frag}{H0 H:Hp}{X:Addr->Prop}{n:Nat}{S T As:List Ent}{us:List V}{x y:DV}(eu:As.map Ent.v=us.map some)(hA:At K H0 X n (S++(As++T)) H)(ex:As.map Ent.x=[x,y]):∃v F w G,us=[v,w]/\At K H0 X n (S++⟨some v,x,F⟩::⟨some w,y,G⟩::T) H:=by
 obtain ⟨⟨v,x',F⟩,⟨w,y',G⟩,rfl,h1,h2⟩:=FZ ex
 obtain ⟨u,u',rfl,h3,h4⟩:=FZ eu.symm
 have h1':x'=x:=h1
 have h2':y'=y:=h2
 have h3':some u=v:=h3
 have h4':some u'=w:=h4
 subst h1' h2' h3' h4'
 exact ⟨u,F,u',G,rfl,hA⟩
def uK:DC:=λxs P=>match xs with
 | [.dat _ (.list ds)]=>P (.dat .ow (.int ds.length))
 | [.dat _ (.tuple ds)]=>P (.dat .ow (.int ds.length))
 | [.dat _ (.str z)]=>z.length<=1000000/\P (.dat .ow (.int z.length))
 | _=>False
def sX(i:Bool):DC:=λxs P=>match xs with
 | [.dat m (.list ds)]=>aU i m ds P
 | [.dat m (.tuple ds)]=>aU i m ds P
 | _=>False
def lD(i:Bool):DC:=λxs P=>match xs with
 | [.dat m (.list ds)]=>gJ i m ds P
 | [.dat m (.tuple ds)]=>P (.dat m (.tuple ds))
 | _=>False
def u7:DC:=λxs P=>match xs with
 | [.dat _ (.int i)]=>P (.dat .ow (.int i))
 | [.dat _ (.bool b)]=>P (.dat .ow (.int (if b=true then 1 else 0)))
 | _=>False
def JI:DC:=λxs P=>match xs with
 | [.dat _ (.int i),.dat _ (.int j)]=>P (.dat .ow (.int (if j > i then j else i)))
 | _=>False
def rD:DC:=λxs P=>match xs with
 | [.dat _ (.int i),.dat _ (.int j)]=>P (.dat .ow (.int (if j<i then j else i)))
 | _=>False
def JT:DC:=λxs P=>match xs with
 | [.dat _ (.list ds)]=>∃ns:List Int,ds=ns.map Aw/\ns≠[]/\∀M∈ns,(∀x∈ns,M<=x)->P (.dat .ow (.int M))
 | _=>False
def w5:DC:=λxs P=>match xs with
 | [.dat _ (.list ds)]=>∃bs:List Bool,ds=bs.map PyData.bool/\P (.dat .ow (.bool (bs.all id)))
 | _=>False
def jZ:DC:=λxs P=>match xs with
 | [.dat _ (.list ds)]=>∃ns:List Int,ds=ns.map Aw/\ns.length<64/\P (.dat .ow (.list ((eZ ns).map Aw)))
 | _=>False
def JF:Af->String
 | .none => "NoneType"
 | .bool _ => "bool"
 | .int _ => "int"
 | .str _ => "str"
 | .list _ => "list"
 | .tuple _ => "tuple"
 | .dict _ => "dict"
section
variable{K:PySem.W.Frag}
theorem Uh:Sz K (λxs H Q=>∃x n,xs=[x]/\FW K x H n/\Q (.int n) H) uK:=by
 w_pre s7
 unfold uK at hd
 w_pre w7
 ·rename_i ex
  w_pre x7
  obtain ⟨a,xs,G,rfl,ha,ra,_,_⟩:=(hA.told mem_mid).list_inv
  exact ⟨_,_,rfl,.inl ⟨xs,Mp.of ha,ra.len.symm⟩,k _ _ [] H (hA.drop.pushI (.int _)) hd⟩
 ·rename_i ex
  w_pre x7
  obtain ⟨a,xs,rfl,ha,ra,_⟩:=(hA.told mem_mid).tup_inv
  exact ⟨_,_,rfl,.inr ⟨xs,Rq.of ha,ra.len.symm⟩,k _ _ [] H (hA.drop.pushI (.int _)) hd⟩
 ·rename_i ex
  w_pre x7
  obtain ⟨rfl,_⟩:=(hA.told mem_mid).str_inv
  exact ⟨_,_,rfl,⟨pF hd.1,rfl⟩,k _ _ [] H (hA.drop.pushI (.int _)) hd.2⟩
 w_pre v7
theorem lS{i:Bool}:Sz K (X2 K) (sX i):=by
 w_pre s7
 unfold sX at hd
 w_pre w7
 ·rename_i ex
  w_pre o5
  refine ⟨a,xs,rfl,.inl (Mp.of ha),λl hl=>?_⟩
  obtain ⟨z,F',h1,h2⟩:=hA.newL ra (Dm _ _) hz hl hd
  exact k _ _ _ _ h1 h2
 ·rename_i ex
  w_pre r5
  refine ⟨a,xs,rfl,.inr (Rq.of ha),λl hl=>?_⟩
  obtain ⟨z,F',h1,h2⟩:=hA.newL ra (Co _) hz hl hd
  exact k _ _ _ _ h1 h2
 w_pre v7
theorem Rj{i:Bool}:Sz K (W6 K) (lD i):=by
 w_pre s7
 unfold lD at hd
 w_pre w7
 ·rename_i ex
  w_pre o5
  refine ⟨a,xs,rfl,.inl ⟨Mp.of ha,λl hl=>?_⟩⟩
  obtain ⟨z,F',h1,h2⟩:=hA.newT ra (Dm _ _) hz hl hd
  exact k _ _ _ _ h1 h2
 ·rename_i ex
  w_pre r5
  exact ⟨a,xs,rfl,.inr ⟨Rq.of ha,k _ _ F H hA hd⟩⟩
 w_pre v7
theorem p8:Sz K (λxs H Q=>(∃i,xs=[V.int i]/\Q (.int i) H)\/∃k,xs=[V.bl k]/\Q (.int (if k then 1 else 0)) H) u7:=by
 w_pre s7
 unfold u7 at hd
 w_pre w7
 ·rename_i ex
  w_pre x7
  w_pre d8
  exact .inl ⟨_,rfl,k _ _ [] H (hA.drop.pushI (.int _)) hd⟩
 ·rename_i ex
  w_pre x7
  obtain ⟨rfl,_⟩:=(hA.told mem_mid).bl_inv
  exact .inr ⟨_,rfl,k _ _ [] H (hA.drop.pushI (.int _)) hd⟩
 w_pre v7
theorem U3:Sz K (λxs H Q=>∃i j,xs=[V.int i,V.int j]/\Q (.int (if j<i then j else i)) H) rD:=by
 w_pre s7
 unfold rD at hd
 w_pre w7
 ·rename_i ex
  obtain ⟨v,F,w,G,rfl,hA⟩:=Xq eu hA ex
  w_pre d8
  obtain ⟨rfl,_⟩:=(hA.told Gb).int_inv
  exact ⟨_,_,rfl,k _ _ [] H (hA.drop2.pushI (.int _)) hd⟩
 w_pre v7
theorem AI:Sz K (λxs H Q=>∃(p:Addr) (bs:List Bool),xs=[.ref p]/\Mp K H p (bs.map V.bl)/\Q (.bl (bs.all id)) H) w5:=by
 w_pre s7
 unfold w5 at hd
 w_pre w7
 ·rename_i ex
  w_pre x7
  obtain ⟨bs,rfl,h1⟩:=hd
  w_pre r8
  obtain ⟨rfl,_⟩:=ra.bools_inv
  exact ⟨a,bs,rfl,Mp.of ha,k _ _ [] H (hA.drop.pushI (.bl _)) h1⟩
 w_pre v7
theorem nK:Sz K (pB K) jZ:=by
 w_pre s7
 unfold jZ at hd
 w_pre w7
 ·rename_i ex
  w_pre x7
  obtain ⟨ns,rfl,h0,h1⟩:=hd
  w_pre r8
  w_pre a10
  refine ⟨a,ns,rfl,Mp.of ha,h0,λq us nq pe pw=>?_⟩
  rw[A7 pe pw]
  exact k _ _ _ _ (hA.drop.newI (RdFs.ints _) (Nv _) (by rw[Ad,xS]; exact sz (by omega)) nq .ow) h1
 w_pre v7
end
def dV(v:V):DE:=λδ P=>P (.val v) δ
theorem oN{ns:List Int}(h:∀x∈ns,0<=x/\x<60):(Pl ns).length<=60 :=
 Cb (NdS.len_leI ((Vl ns).imp λ{x y} h=>Int.ne_of_lt h) λe he=>Yc (h e (mK.mp he)).1 (h e (mK.mp he)).2) (by decide)
end DL
namespace Nd
open PySem PySem.Spec PyProof.Rows L2
def JU(K:PySem.W.Frag)(a b:Addr):It :=
  ⟨λi H=>∃xs ys x y,Mp K H a xs/\Mp K H b ys/\xs[i]? = some x/\ys[i]? = some y,
   λi H x H'=>∃p u v,x=.ref p/\H p=none/\H'=upd H p (.tup [u,v])/\(∀xs,Mp K H a xs->xs[i]? = some u)/\∀ys,Mp K H b ys->ys[i]? = some v,
   λi H=>∃xs ys,Mp K H a xs/\Mp K H b ys/\(xs.length<=i\/ys.length<=i)⟩
theorem G7{P:Bk}{w:World}{K:PySem.W.Frag}{elts:List Expr}{k:Nat}{pos:Pos}(a b z TI TO i1 i2:Addr)(D:Qs z TI TO i1 i2 a b):Turn P w K (.Tuple elts k pos) (JU K a b) [z,TI,TO,i1,i2] z (λi h=>IsZip h z TI TO .none/\Ga h TI (.ref i1) (.ref i2)/\(∃u v,Ga h TO u v)/\h.IsListIter i1 a i/\h.IsListIter i2 b i) where
 mem:=Ab
 obj:=λi h st c hc=>by
  w_pre u
 keep:=λi h h' st kp=>by
  w_pre v4
 item:=by
  w_pre u4
  obtain ⟨xs,ys,x,y,hq1,hq2,hx,hy⟩:=hg
  w_pre b6
  obtain ⟨u1,hu1,ru1⟩:=rv1.get hx
  obtain ⟨u2,hu2,ru2⟩:=rv2.get hy
  w_pre u10
  have zl:z<s.heap.objs.size:=Ar hz
  have TIl:TI<s.heap.objs.size:=Ar hTI
  have TOl:TO<s.heap.objs.size:=Ar hTO
  have i1l:i1<s.heap.objs.size:=by obtain ⟨_,q,_⟩:=hi1; exact Ar q
  have i2l:i2<s.heap.objs.size:=by obtain ⟨_,q,_⟩:=hi2; exact Ar q
  refine wpAny_pyNext_zip_item D hz hTI hTO hi1 hi2 p1.isList p2.isList (x:=u1) (y:=u2) (by simpa using hu1) (by simpa using hu2) λh1 a1 a2 a3 a4 a5 a6 hk=>⟨_,rfl,zE a1 λh2 he2 hs2=>?_⟩
  have hs2':Cv z h1 h2:=hs2
  have I1:Inv X pins σ (upd H s.heap.objs.size (.tup [x,y])) { s with heap:=s.heap.push { cls:=.type "tuple",data:=.seq #[u1,u2] } } :=
   I.laid (t':=s.toks) (λb o q=>Ag _ q) (Aj _) ⟨by show 2<=Ay; decide,[u1,u2],.cons ru1 (.cons ru2 .nil),_,Au _ rfl,rfl,0,rfl⟩
  have nT:∀c∈[z,TI,TO,i1,i2],c≠s.heap.objs.size:=λc hc=>by
   w_pre l5
  have fr:∀c∈[z,TI,TO,i1,i2],(upd H s.heap.objs.size (.tup [x,y])) c=none:=λc hc=>by rw[Dw (nT c hc)]; exact (hf c hc).1
  refine ⟨.ref s.heap.objs.size,_,Ln (fp:=[z,TI,TO,i1,i2]) (s:={ s with heap:=s.heap.push { cls:=.type "tuple",data:=.seq #[u1,u2] } }) (h':=h2) (t':=s.toks) I1 (λc o hc q=>?_) (λc hc=>⟨fr c hc,(hf c hc).2⟩),rfl,⟨_,x,y,rfl,I.hok.fresh (Aj _),rfl,(λzs hzs=>by rw[I.list_inj hzs hq1]; exact hx),λzs hzs=>by rw[I.list_inj hzs hq2]; exact hy⟩,⟨he2,?_,⟨u1,u2,?_⟩,?_,?_⟩,fr⟩
  ·simp only[Ak,Az,or_false,not_or] at hc
   w_pre i6
   ·subst hbT
    have q':=(Au s.heap (o:={ cls:=.type "tuple",data:=.seq #[u1,u2] }) rfl).symm.trans q
    w_pre h7
   ·refine hk c o hc.1 hc.2.2.1 hc.2.2.2.1 hc.2.2.2.2 ?_
    have q0:(s.heap.push { cls:=.type "tuple",data:=.seq #[u1,u2] }).get? c=some o:=q
    w_pre w3
  ·exact (hs2'.2 TI D.TIz).trans (hk TI _ D.TIz D.TITO D.TIi1 D.TIi2 hTI)
  ·exact (hs2'.2 TO D.TOz).trans a2
  ·exact a3.at λo q=>(hs2'.2 i1 D.i1z).trans q
  ·exact a4.at λo q=>(hs2'.2 i2 D.i2z).trans q
 done:=by
  w_pre u4
  obtain ⟨xs,ys,hq1,hq2,hx⟩:=hg
  w_pre b6
  w_pre u10
  have hl1:=rv1.length
  have hl2:=rv2.length
  refine wpAny_pyNext_zip_end (I.ok.hd hc) D hz hTI hTO hi1 hi2 p1.isList p2.isList ?_ λh1 hk=>⟨rfl,Ln (fp:=[z,TI,TO,i1,i2]) (t':=s.toks) I (λc o hc q=>?_) hf⟩
  ·rcases hx with h | h
   w_pre s6
  w_pre p5
 self:=λ_ _ _ _ _ st h=>Pw st.1 h
theorem iJ(I l1 l2:Nat)(h1:l1<I)(h2:l2<I):Qs (I+4) (I+2) (I+3) I (I+1) l1 l2:=by
 constructor <;> (intro e; have e':(_:Nat)=_:=e; omega)
section
variable{X:Cx}
def JC(K:PySem.W.Frag)(ta:TA):TI:=λσ H R=>ta σ H λvs H1=>∃a b,vs=[.ref a,.ref b]/\(∃xs,Mp K H1 a xs)/\(∃ys,Mp K H1 b ys)/\R (JU K a b) H1
theorem BG{elts:List Expr}{k:Nat}{tp:Pos}{a b:Expr}{ta:TA}{p pos:Pos}(hg:Gl X "zip")(hm:X.mg "zip" = none)(ha:PA X [a,b] ta)(hs:Bj [a,b] X.env=(false,eval a X.env)::Bj [b] X.env:=by rfl)(hp:(Hh pos (Bj [b] X.env)).any (·.1)=false:=by rfl):PI X (.Tuple elts k tp) (.Call (.Name "zip" p) [a,b] [] pos) (JC X.K ta):=by
 w_pre x4
 obtain ⟨l1,l2,e,⟨xs,hq1⟩,⟨ys,hq2⟩,q⟩:=q1
 w_pre v
 refine call_zip_2 pl1.isList pl2.isList λh2 hz hTI hTO hi1 hi2 hsz hk=>Pw hz ?_
 have fr1:∀n,La X pins H1 (s1.heap.objs.size+n):=λn=>I1.fpOk (Ju _ _) (I1.hok.fresh (Ju _ _))
 have fr:∀c∈[s1.heap.objs.size+4,s1.heap.objs.size+2,s1.heap.objs.size+3,s1.heap.objs.size,s1.heap.objs.size+1],La X pins H1 c:=λc hc=>by
  w_pre a0
 exact ⟨s1.heap.objs.size+4,_,_,_,H1,rfl,I1.kept (t':=s1.toks) hk,G7 l1 l2 _ _ _ _ _ (iJ _ _ _ hlt1 hlt2),⟨hz,hTI,⟨_,_,hTO⟩,hi1,hi2⟩,fr,q⟩
end
end Nd
namespace Nd
open PySem PySem.Spec PyProof.Rows L2
open AutoSeq1 (wpAny_loadPart')
section
variable{prog:Bk}{w:World}{A:Ci}{E:Value->Ai->Prop}{s:Ai}
theorem Yh{it t:Addr}{i:Nat}{items:Array Value}{x:Value}{Q:Value->Ai->Prop}(hit:s.heap.IsTupleIter it t i)(ht:s.heap.IsTuple t items)(hx:items[i]? = some x)(hQ:∀h',h'.IsTupleIter it t (i+1)->Cv it s.heap h'->Q x { s with heap:=h' }):wpAny (model prog w) A (Cf (.ref it)) Q E s:=by
 w_pre i
 refine Aa (Ma ho hd (by simp) (Ae ⟨x,rfl,Ae (hQ _ ?_ (Bp ..))⟩))
 exact ⟨_,Fe _ ho (Obj.isFreed_of_fields (Rf hd _)),(Obj.cls_mapFields ..).trans hc,by
  rw[Rf hd]; simp [Ff]⟩
theorem Zn{it t:Addr}{i:Nat}{items:Array Value}{Q:Value->Ai->Prop}(hh:A.handled=none)(hit:s.heap.IsTupleIter it t i)(ht:s.heap.IsTuple t items)(hx:items[i]? = none)(hE:∀h' e,Xe it s.heap h'->(∃o,h'.get? e=some o/\o.cls=.type "StopIteration")->E (.ref e) { s with heap:=h' }):wpAny (model prog w) A (Cf (.ref it)) Q E s:=by
 w_pre i
 refine Aa (Jt (Aa (Ma ho hd (by simp) ?_)))
 show wpAny _ _ (newExc (.type "StopIteration") [] >>= _) _ _ _
 refine Aa ?_
 simp only[newExc,newTuple]
 refine Aa (Cg ?_ (by size_fits))
 refine Aa (m:=Kf _ _) (Jo (a:=Gq) (by first | rfl | (simp only[Kf]; rfl)) ?_)
 refine Cg ?_ (by size_fits)
 simp only[raiseNew]
 refine Aa (wpAny_handled ?_)
 w_pre t5
 exact hE _ _ (((Bp ..).extBut.push _).push _) ⟨_,Au _ rfl,rfl⟩
end
theorem dZ{prog:Bk}{w:World}{A:Ci}(hh:A.handled=none)(it l:Addr)(hne:l≠it)(items:Array Value):Draws prog w A it [it,l] items.size (λi v=>items[i]? = some v) (λi h=>h.IsTupleIter it l i/\h.IsTuple l items) where
 live:=λ_ _ st=>let ⟨o,ho,_⟩:=st.1; ⟨o,ho⟩
 frame:=λ_ _ _ st hk=>⟨let ⟨o,ho,r⟩:=st.1; ⟨o,hk it (by simp) o ho,r⟩,let ⟨o,ho,r⟩:=st.2; ⟨o,hk l (by simp) o ho,r⟩⟩
 item:=λi s Q E hi st hQ=>by
  refine Yh st.1 st.2 (x:=items[i]) (by simp [hi]) λh' hit' hs'=>?_
  exact hQ _ h' s.toks (by simp [hi]) ⟨hit',st.2.extBut hs'.extBut hne⟩ hs'
 done:=λs Q E st hE=>Zn hh st.1 st.2 (by simp) hE
theorem Tt(l:Addr)(items:Array Value)(n:Nat)(dct:Option Addr)(sl:Array (Option Value)):Meets (Builtin.«enumerate.__new__» ⟨[.type "enumerate",.ref l],[]⟩) (λ_ R s=>s.heap.get? l=some { cls:=.type "tuple",dict:=dct,data:=.seq items n,slots:=sl }/\R (.ok (.ret (.ref (s.heap.push { cls:=.type "tuple_iterator",data:=.fields #[.ref l,.int 0 0] }).objs.size))) { s with heap:=(s.heap.push { cls:=.type "tuple_iterator",data:=.fields #[.ref l,.int 0 0] }).push { cls:=.type "enumerate",data:=.fields #[.none,.bool false,.ref s.heap.objs.size,Ff 0,.none,.none] } }) :=
 .of_wp λprog w A R s h=>by
  obtain ⟨hp,g,d,tk,os⟩:=s; obtain ⟨hl,h⟩:=h
  have hsub:=sub_enumerate
  have hL:Heap.IsTuple (Shared.heap ⟨hp,g,d,tk,os⟩) l items:=⟨_,hl,rfl,n,rfl⟩
  wp_walk using Jk hl
  refine wpAny_stack_any λst=>Ae ?_
  split
  ·rename_i c _ _ _ _ _
   cases (c == Me "enumerate")
   w_pre s5
   w_pre s5
  w_pre s5
theorem Uj{prog:Bk}{w:World}{A:Ci}{E:Value->Ai->Prop}{s:Ai}{l:Addr}{items:Array Value}{Q:Value->Ai->Prop}(hL:s.heap.IsTuple l items)(h:∀h',IsEnum h' (s.heap.objs.size+1) s.heap.objs.size 0 .none->h'.IsTupleIter s.heap.objs.size l 0->h'.objs.size=s.heap.objs.size+2->(∀b o,s.heap.get? b=some o->h'.get? b=some o)->Q (.ref (s.heap.objs.size+1)) { s with heap:=h' }):wpAny (model prog w) A (call (.type "enumerate") [.ref l]) Q E s:=by
 obtain ⟨⟨c,dct,dt,sl⟩,hl,hc,n,hd⟩:=hL
 replace hc:c=.type "tuple" := hc
 replace hd:dt=.seq items n:=hd
 subst hc hd
 refine callType_new PySem.F.called_enumerate (by decide) (PySem.F.typeCall_enumerate_1 _) (PySem.F.newCall_enumerate_1 _) (λobj=>PySem.F.args_object_init_2 obj _) PySem.F.entry_enumerate_new
  (Tt l items n dct sl) ⟨hl,?_⟩
 have hz:(s.heap.push { cls:=.type "tuple_iterator",data:=.fields #[.ref l,.int 0 0] }).objs.size=s.heap.objs.size+1:=Hf ..
 show _/\_
 rw[hz]
 have he:IsEnum ((s.heap.push { cls:=.type "tuple_iterator",data:=.fields #[.ref l,.int 0 0] }).push
   { cls:=.type "enumerate",data:=.fields #[.none,.bool false,.ref s.heap.objs.size,Ff 0,.none,.none] }) (s.heap.objs.size+1) s.heap.objs.size 0 .none:=by
  have:=Au (s.heap.push { cls:=.type "tuple_iterator",data:=.fields #[.ref l,.int 0 0] })
   (o:={ cls:=.type "enumerate",data:=.fields #[.none,.bool false,.ref s.heap.objs.size,Ff 0,.none,.none] }) rfl
  rw[hz] at this; exact this
 refine ⟨⟨_,he,rfl⟩,h _ he ⟨_,Ag _ (Au _ rfl),rfl,rfl⟩ (by rw[Hf,hz]) λb o x=>Ag _ (Ag _ x)⟩
def CS(K:PySem.W.Frag)(a:Addr):It :=
 ⟨λi H=>∃xs x,Rq K H a xs/\xs[i]? = some x,λi H x H'=>∃p y,x=.ref p/\H p=none/\H'=upd H p (.tup [.int i,y])/\∀xs,Rq K H a xs->xs[i]? = some y,λi H=>∃xs,Rq K H a xs/\xs.length=i⟩
theorem sV{P:Bk}{w:World}{K:PySem.W.Frag}{elts:List Expr}{k:Nat}{pos:Pos}(a e it:Addr)(ne:e≠it)(nae:a≠e)(nai:a≠it):Turn P w K (.Tuple elts k pos) (CS K a) [e,it] e (λi h=>(∃old,IsEnum h e it ((i:Nat):Int) old)/\h.IsTupleIter it a i) where
 mem:=Ab
 obj:=λi h st b hb=>by
  w_pre i0
 keep:=λi h h' st kp=>⟨let ⟨old,he⟩:=st.1; ⟨old,kp e Ab _ he⟩,let ⟨o,ho,r⟩:=st.2; ⟨o,kp it (Ac _ Ab) o ho,r⟩⟩
 item:=by
  w_pre r0
  w_pre u2
  have hT:s.heap.IsTuple a its.toArray:=p
  have hlt:i<its.toArray.size:=by rw[Av]; exact (Ax.mp hu).1
  have hdn:X.A.in1.handled=none:=I.ok.hd hc
  refine wpAny_pyNext_enum_itemD (dZ hdn it a nai its.toArray) he ⟨hit,hT⟩ hlt ne (by simp only[Ak,Az,or_false]; exact λz=>z.elim ne (λq=>nae q.symm)) λu' h1 tk hu' ho hit1 hT1 hsz hk=>?_
  have eu:u'=u:=by
   have : its[i]? = some u':=by simpa using hu'
   rw[hu] at this
   exact (Ca this).symm
  subst eu
  refine ⟨_,rfl,vY ho λh2 he2 hs2=>?_⟩
  have hs2':Cv e h1 h2:=hs2
  have I1:Inv X pins σ (upd H s.heap.objs.size (.tup [.int i,x])) { s with heap:=s.heap.push { cls:=.type "tuple",data:=.seq #[.int i tk,u'] } } :=
   I.laid (t':=s.toks) (λb o q=>Ag _ q) (Aj _) ⟨by show 2<=Ay; decide,[.int i tk,u'],.cons ⟨_,rfl⟩ (.cons ru .nil),_,Au _ rfl,rfl,0,rfl⟩
  have nT:∀b∈[e,it],b≠s.heap.objs.size:=λb hb=>by
   w_pre o3
  have fr:∀b∈[e,it],(upd H s.heap.objs.size (.tup [.int i,x])) b=none:=λb hb=>by rw[Dw (nT b hb)]; exact (hf b hb).1
  refine ⟨.ref s.heap.objs.size,_,Ln (fp:=[e,it]) (s:={ s with heap:=s.heap.push { cls:=.type "tuple",data:=.seq #[.int i tk,u'] } }) (h':=h2) (t':=tk+1) I1 (λb o hb q=>?_) (λb hb=>⟨fr b hb,(hf b hb).2⟩),rfl,⟨_,x,rfl,I.hok.fresh (Aj _),rfl,λys hy=>by rw[I.tuple_inj hy hq]; exact hx⟩,⟨⟨u',?_⟩,?_⟩,fr⟩
  ·have nbe:b≠e:=λz=>hb (by rw[z]; exact Ab)
   w_pre w2
   ·subst hbT
    have q':=(Au s.heap (o:={ cls:=.type "tuple",data:=.seq #[.int i tk,u'] }) rfl).symm.trans q
    rw[hT1]
    exact q'
   ·refine hk b o nbe nbi ?_
    have q0:(s.heap.push { cls:=.type "tuple",data:=.seq #[.int i tk,u'] }).get? b=some o:=q
    w_pre z3
  w_pre t3
  ·obtain ⟨o,q1,r⟩:=hit1.1
   exact ⟨o,(hs2'.2 it (Lu ne)).trans q1,r⟩
 done:=by
  w_pre p1
  w_pre o7
  have hT:s.heap.IsTuple a its.toArray:=p
  have hdn:X.A.in1.handled=none:=I.ok.hd hc
  have hi:its.toArray.size=i:=by rw[Av]; omega
  exact wpAny_pyNext_enum_endD (dZ hdn it a nai its.toArray) he ⟨by rw[hi]; exact hit,hT⟩ λh1 eb=>⟨rfl,Ln (fp:=[e,it]) (t':=s.toks) I (λb o hb q=>eb b o (λz=>hb (by rw[z]; exact Ac _ Ab)) q) hf⟩
 self:=λ_ _ _ _ _ st h=>let ⟨_,he⟩:=st.1; Uu he h
section
variable{X:Cx}
def BL(K:PySem.W.Frag)(ta:TA):TI:=λσ H R=>ta σ H λvs H1=>∃a,vs=[.ref a]/\(∃xs,Rq K H1 a xs)/\R (CS K a) H1
theorem G4{elts:List Expr}{k:Nat}{tp:Pos}{a:Expr}{ta:TA}{p pos:Pos}(hg:Gl X "enumerate")(hm:X.mg "enumerate" = none)(ha:PA X [a] ta)(hs:Bj [a] X.env=[(false,eval a X.env)]:=by rfl):PI X (.Tuple elts k tp) (.Call (.Name "enumerate" p) [a] [] pos) (BL X.K ta):=by
 w_pre f0
 obtain ⟨its,rv,pl,hz⟩:=I1.tuple hq
 have ll:l<s1.heap.objs.size:=by obtain ⟨o,ho,_⟩:=pl; exact Ar ho
 refine Uj (show s1.heap.IsTuple l its.toArray from pl) λh2 he hit hsz hk=>Uu he ?_
 have fr:∀b∈[s1.heap.objs.size+1,s1.heap.objs.size],La X pins H1 b:=λb hb=>by
  w_pre r2
 exact ⟨s1.heap.objs.size+1,[s1.heap.objs.size+1,s1.heap.objs.size],_,_,H1,rfl,I1.kept (t':=s1.toks) hk,sV l _ _ (Nat.succ_ne_self _) (Bm (Hq ll)) (Bm ll),⟨⟨_,he⟩,hit⟩,fr,q⟩
end
end Nd
namespace DL
open PySem L2 Nd
def dB(de:DE):DT:=λδ P=>de δ λx δ'=>match x with
 | .dat _ (.bool b)=>P b δ'
 | _=>False
def W9(dt:DT):DT:=λδ P=>dt δ λb δ'=>P (!b) δ'
def Z4(dt du:DT):DT:=λδ P=>dt δ λb δ'=>match b with
 | true=>du δ' P
 | false=>P false δ'
def EX(dt du:DT):DT:=λδ P=>dt δ λb δ'=>match b with
 | true=>P true δ'
 | false=>du δ' P
def HP(da db:DE):DE:=λδ P=>da δ λx δ'=>match x with
 | .dat _ (.bool true)=>db δ' P
 | .dat _ (.bool false)=>P (.dat .ow (.bool false)) δ'
 | _=>False
def HA(dt:DT)(da db:DE):DE:=λδ P=>dt δ λb δ'=>match b with
 | true=>da δ' P
 | false=>db δ' P
def IF(de:DE):DE:=λδ P=>de δ λx δ'=>match x with
 | .dat _ (.int i)=>P (.dat .ow (.int (-i))) δ'
 | _=>False
section
variable{K:PySem.W.Frag}{de:DE}
theorem HF:∀σ H Q,LT K (dB de) σ H Q->LE K de σ H λx H'=>∃k,x=.bl k/\Q k H':=by
 intro σ H Q h
 w_pre e2
 ·obtain ⟨rfl,_⟩:=(hA1.told mem_mid).bl_inv
  exact ⟨_,rfl,k _ δ1 S1 H1 e1 e2 hA1.drop p1⟩
 w_pre y8
end
section
variable{X:Cx}{a b c e:Expr}{da db de:DE}{dt du:DT}{pos:Pos}{Ie:List Expr}
theorem eH(h:Gr X e de)(he:∀whole,isTrue e X.env whole=(do let v <- whole; bM e.pos; Qe [v] (truthy v)):=by intro _; rfl):oR X e (dB de):=PT.imp (C7 h he) HF
theorem eY{op:CmpOp}{r:R2}{rd:D2}(ho:Ze X (Jl op) r)(o:sI X.K r rd)(ha:Gr X a da)(hb:Gr X b db)(hm:Gy op b=false):oR X (.Compare a [op] [b] pos) (dB (cQ rd da db)):=by
 refine PT.imp (uJ ho ha hb hm) λσ H Q h=>?_
 exact iU o _ _ _ (HF σ H Q h)
theorem Y4(ha:Gr X a da)(hb:Gr X b db):oR X (.Compare a [.Lt] [b] pos) (dB (cQ rdLt da db)):=eY GL (zY λ_ _ _=>.bl _) ha hb (eG _)
theorem mW(hu:X.A.units+64<cLine)(ha:Gr X a da)(hb:Gr X b db):oR X (.Compare a [.Eq] [b] pos) (dB (cQ (jX false) da db)):=eY (r6 hu) X5 ha hb (eG _)
theorem dS(hu:X.A.units+64<cLine)(ha:Gr X a da)(hb:Gr X b db):oR X (.Compare a [.NotEq] [b] pos) (dB (cQ (jX true) da db)):=eY (DP hu) EW ha hb (eG _)
theorem FE(hu:X.A.units+64<cLine)(ha:Gr X a da)(hb:Gr X b db)(hm:Gy .In b=false:=by with_unfolding_all rfl):oR X (.Compare a [.In] [b] pos) (dB (cQ (rN false) da db)):=eY (x8 hu) zP ha hb hm
theorem qC(hu:X.A.units+64<cLine)(ha:Gr X a da)(hb:Gr X b db)(hm:Gy .NotIn b=false:=by with_unfolding_all rfl):oR X (.Compare a [.NotIn] [b] pos) (dB (cQ (rN true) da db)):=eY (yQ hu) zP ha hb hm
theorem lK(h:oR X a dt):oR X (.UnaryOp .Not a pos) (W9 dt):=by
 refine PT.imp (DZ h) λσ H Q h=>?_
 w_pre k8
 exact ⟨H0,Y,S,T,δ,_,rfl,hS,hA,hd,λb δ' S' H' e1 e2 hA' p=>k _ δ' S' H' e1 e2 hA' p⟩
theorem uQ(h:oR X a dt):DX X (.BoolOp .And [a] pos) dt:=V2 h
theorem CU(h:oR X a dt):DX X (.BoolOp .Or [a] pos) dt:=AV h
theorem u0(h:oR X a dt)(hb:DX X (.BoolOp .And (b::Ie) pos) du):DX X (.BoolOp .And (a::b::Ie) pos) (Z4 dt du):=by
 refine PW.imp (DJ h hb) λσ H Q h=>?_
 w_pre s4
 cases b with
 | true=>exact tH ⟨H0,Y,S',T,δ',P,e1,e2,hA',p,k⟩
 | false=>exact sH (k _ δ' S' H' e1 e2 hA' p)
theorem FO(h:oR X a dt)(hb:DX X (.BoolOp .Or (b::Ie) pos) du):DX X (.BoolOp .Or (a::b::Ie) pos) (EX dt du):=by
 refine PW.imp (GQ h hb) λσ H Q h=>?_
 w_pre s4
 cases b with
 | true=>exact tH (k _ δ' S' H' e1 e2 hA' p)
 | false=>exact sH ⟨H0,Y,S',T,δ',P,e1,e2,hA',p,k⟩
theorem DU(h:DX X a dt):oR X a dt:=PW.pt h
theorem ED{op}(h:Gr X a da):Gr X (.BoolOp op [a] pos) da:=DN h
theorem BU(h:Gr X a da)(hb:Gr X (.BoolOp .And (b::Ie) pos) db):Gr X (.BoolOp .And (a::b::Ie) pos) (HP da db):=by
 refine PE.imp (AN h hb) λσ H Q h=>?_
 w_pre e2
 ·obtain ⟨rfl,_⟩:=(hA1.told mem_mid).bl_inv
  exact ⟨_,rfl,tH ⟨H0,Y,S1,T,δ1,P,e1,e2,hA1.drop,p1,k⟩⟩
 ·obtain ⟨rfl,_⟩:=(hA1.told mem_mid).bl_inv
  exact ⟨_,rfl,sH (k _ δ1 _ [] S1 H1 e1 e2 (hA1.drop.pushI (.bl _)) p1)⟩
 w_pre y8
theorem CP(h:Gr X a da):Gr X (.UnaryOp .USub a pos) (IF da):=by
 refine PE.imp (GY AW h) λσ H Q h=>?_
 w_pre e2
 ·obtain ⟨rfl,_⟩:=(hA1.told mem_mid).int_inv
  exact ⟨_,rfl,k _ δ1 _ [] S1 H1 e1 e2 (hA1.drop.pushI (.int _)) p1⟩
 w_pre y8
theorem CK(hc:oR X c dt)(ha:Gr X a da)(hb:Gr X b db):Gr X (.IfExp c a b pos) (HA dt da db):=by
 refine PE.imp (j3 hc ha hb) λσ H Q h=>?_
 w_pre s4
 cases b with
 | true=>exact tH ⟨H0,Y,S',T,δ',P,e1,e2,hA',p,k⟩
 | false=>exact sH ⟨H0,Y,S',T,δ',P,e1,e2,hA',p,k⟩
end
theorem PS.impD{X:Cx}{st:Stmt}{t t':TS}(h:PS X st t)(k:∀D σ H,t' D σ H->t D σ H):PS X st t':=λpins s σ H D I q=>h pins s σ H D I (k D σ H q)
theorem vW.impD{X:Cx}{st:List Stmt}{t t':TS}(h:vW X st t)(k:∀D σ H,t' D σ H->t D σ H):vW X st t':=λpins s σ H D I q=>h pins s σ H D I (k D σ H q)
def Z6:DB:=λD δ=>D.nx δ
def HS(t u:DB):DB:=λD δ=>t { D with nx:=λδ'=>u D δ' } δ
def ET(de:DE):DB:=λD δ=>de δ D.rt
def KY(dt:DT)(t u:DB):DB:=λD δ=>dt δ λb δ'=>match b with
 | true=>t D δ'
 | false=>u D δ'
def wM(de:DE)(dg:DG):DB:=λD δ=>de δ λx δ'=>dg x δ' D.nx
section
variable{X:Cx}{st:Stmt}{e tg c:Expr}{t u:DB}{Ie:List Stmt}{de:DE}{dg:DG}{dt:DT}{pos:Pos}
theorem Mm:dO X [] Z6:=by
 refine vW.impD lV λD σ H h=>?_
 w_pre q7
 exact k1 δ S H hS hA hd
theorem Ck(h1:zG X st t)(h2:dO X Ie u):dO X (st::Ie) (HS t u):=by
 refine vW.impD (Mg h1 h2) λD σ H h=>?_
 w_pre q7
 exact ⟨H0,Y,S,T,δ,_,rfl,hS,hT,hA,hd,λδ' S' H' e2 hA' p=>⟨H0,Y,S',T,δ',P,rfl,e2,hT,hA',p,k1,k2,k3,k4⟩,k2,k3,k4⟩
theorem Dt(h1:zG X st t):dO X [st] t:=Vn h1
theorem Gd(he:Gr X e de):zG X (.Return (some e) pos) (ET de):=by
 refine PS.impD (Zu he) λD σ H h=>?_
 w_pre q7
 exact ⟨H0,Y,S,T,δ,_,rfl,hS,hA,hd,λx δ' v F S' H' e1 e2 hA' p=>k2 x δ' v F S' H' e2 hA' p⟩
theorem Ph{a b:List Stmt}(hc:oR X c dt)(ha:dO X a t)(hb:dO X b u):zG X (.If c a b pos) (KY dt t u):=by
 refine PS.impD (n6 hc ha hb) λD σ H h=>?_
 w_pre q7
 refine ⟨H0,Y,S,T,δ,_,rfl,hS,hA,hd,λb δ' S' H' e1 e2 hA' p=>?_⟩
 cases b with
 | true=>exact tH ⟨H0,Y,S',T,δ',P,e1,e2,hT,hA',p,k1,k2,k3,k4⟩
 | false=>exact sH ⟨H0,Y,S',T,δ',P,e1,e2,hT,hA',p,k1,k2,k3,k4⟩
theorem jO{K:PySem.W.Frag}{te:TE}{g:TG}(h1:∀σ H Q,LE K de σ H Q->te σ H Q)(h2:∀v σ H Q,LG K dg v σ H Q->g v σ H Q):∀D σ H,LS K (wM de dg) D σ H->E6 te g D σ H:=by
 intro D σ H h
 w_pre q7
 refine h1 _ _ _ ⟨H0,Y,S,T,δ,_,rfl,hS,hA,hd,λx δ' v F S' H' e1 e2 hA' p=>?_⟩
 exact h2 _ _ _ _ ⟨H0,Y,S',T,δ',x,F,P.nx,e1,e2,hA',p,λδ2 S2 H2 e3 hA2 q=>k1 δ2 S2 H2 e3 hA2 q⟩
end
def Rx(i:Nat):DG:=λx δ P=>match x with
 | .dat .pk _=>False
 | .dat _ d=>P ⟨δ.sl.set i (.dat .sh d),δ.n⟩
 | .val v=>P ⟨δ.sl.set i (.val v),δ.n⟩
 | .drw=>P ⟨δ.sl.set i .drw,δ.n⟩
 | .dT kvs=>P ⟨δ.sl.set i (.dT kvs),δ.n⟩
 | _=>False
def oJ(i:Nat):DG:=λx δ P=>match x with
 | .dat .ow d=>P ⟨δ.sl.set i (.dat .ow d),δ.n⟩
 | .dat .tp d=>P ⟨δ.sl.set i (.dat .tp d),δ.n⟩
 | _=>False
theorem At.store{K:PySem.W.Frag}{H0 H:Hp}{X:Addr->Prop}{n:Nat}{S T:List Ent}{e:Ent}{i:Nat}(h:At K H0 X n (S++e::T) H):At K H0 X n (S.set i e++T) H:=by
 by_cases hi:i<S.length
 ·have hx:S[i]? = some S[i]:=by simp [hi]
  have p:(S++e::T).Perm (S[i]::(S.set i e++T)):=by
   refine Eb.trans ?_
   rw[<- Fn,<- Fn]
   exact (cU hx).append_right T
  exact (h.perm p).sub (Dm _ _)
 ·rw[List.set_eq_of_length_le (by omega)]
  exact h.drop
theorem A2{S:List Ent}{i:Nat}{v:V}{x:DV}{F:List Addr}:vs (S.set i ⟨some v,x,F⟩)=(vs S).set i (some v):=by
 unfold vs
 rw[Qf]
theorem r0{S:List Ent}{δ:DS}{i n:Nat}{v:V}{x:DV}{F:List Addr}(h:Sl S δ):Sl (S.set i ⟨some v,x,F⟩) ⟨δ.sl.set i x,n⟩:=by
 unfold Sl at h ⊢
 rw[Qf,h]
theorem jC{K:PySem.W.Frag}{i:Nat}:∀v σ H Q,LG K (Rx i) v σ H Q->Pj i v σ H Q:=by
 w_pre e0
 unfold Rx at hd
 w_pre w7
 w_pre v7
 ·rename_i m d hm
  refine fin _ ?_ hd
  refine (hA.mid.wk ?_).tomid
  cases m <;> first | rfl | exact (hm rfl).elim
 ·exact fin _ hA hd
 w_pre b4
theorem A1{K:PySem.W.Frag}{i:Nat}:∀v σ H Q,LG K (oJ i) v σ H Q->Pj i v σ H Q:=by
 w_pre e0
 unfold oJ at hd
 w_pre w7
 w_pre b4
section
variable{X:Cx}{pos:Pos}
theorem Js{i:Nat}{x:Str}(hN:X.N.Nodup)(hi:X.N[i]? = some x)(hx:Loc X.env.scope x)(hf:X.fn x=true\/X.env.scope.names.lookup x=some .local:=by first | exact .inl rfl | exact .inr rfl | assumption):IR X (.Name x pos) (Rx i):=PG.imp (Kc hN hi hx hf) jC
theorem Fj{i:Nat}{x:Str}{e:Expr}{de:DE}{pos':Pos}(hN:X.N.Nodup)(hi:X.N[i]? = some x)(hx:Loc X.env.scope x)(he:Gr X e de)(hs:Oa e (some (.Name x pos')) pos.line X.env=pure false:=by rfl)(hf:X.fn x=true\/X.env.scope.names.lookup x=some .local:=by first | exact .inl rfl | exact .inr rfl | assumption):zG X (.Assign [.Name x pos'] e pos) (wM de (Rx i)):=PS.impD (aG hN hi hx he hs hf) (jO (λ_ _ _ h=>h) jC)
theorem Su{i:Nat}{x:Str}{e:Expr}{de:DE}{pos':Pos}(hN:X.N.Nodup)(hi:X.N[i]? = some x)(hx:Loc X.env.scope x)(he:Gr X e de)(hs:Oa e (some (.Name x pos')) pos.line X.env=pure false:=by rfl)(hf:X.fn x=true\/X.env.scope.names.lookup x=some .local:=by first | exact .inl rfl | exact .inr rfl | assumption):zG X (.Assign [.Name x pos'] e pos) (wM de (oJ i)):=PS.impD (aG hN hi hx he hs hf) (jO (λ_ _ _ h=>h) A1)
end
def zS:K9:=λxs δ P=>match xs with
 | []=>P δ
 | _=>False
def uX(g:DG)(gs:K9):K9:=λxs δ P=>match xs with
 | x::r=>g x δ λδ'=>gs r δ' P
 | []=>False
def E4(n:Nat)(gs:K9):DG:=λx δ P=>match x with
 | .dat m (.tuple ds)=>ds.length=n/\gs (ds.map λd=>.dat (Qc m) d) δ P
 | _=>False
theorem At.unpack{K:PySem.W.Frag}{H0 H:Hp}{X:Addr->Prop}{n:Nat}{m:Md}:∀{us:List V} {ds:List Af} {F:List Addr} {E:List Ent},RdFs K H us ds F->(m=.ow->F.Nodup)->(∀f∈E,Xr ⟨none,.dat (Qc m) .none,F⟩ f)->(∀a∈cells ⟨none,.dat (Qc m) .none,F⟩,H0 a=none)->At K H0 X n E H->∃As:List Ent,As.map Ent.v=us.map some/\As.map Ent.x=ds.map (λd=>.dat (Qc m) d)/\(∀e∈As,∀a∈e.F,a∈F)/\At K H0 X n (As++E) H
 | _,_,_,_,.nil,_,_,_,h=>⟨[],rfl,rfl,λ_ z=>(nomatch z),h⟩
 | _,_,_,E,.cons (x:=x) (d:=d) (F:=F1) (G:=G1) a t,hn,hs,hnew,h=>by
  have cs:∀{G:List Addr} {u:Option V} {d':Af},(∀b∈G,b∈F1++G1)->∀b∈cells ⟨u,.dat (Qc m) d',G⟩,b∈cells ⟨none,.dat (Qc m) .none,F1++G1⟩:=λ{G u d'} hG b hb=>by
   cases m with
   | ow=>exact hG b hb
   | _=>exact nomatch hb
  have sub:∀{G:List Addr} {u:Option V} {d':Af} {f:Ent},(∀b∈G,b∈F1++G1)->Xr ⟨none,.dat (Qc m) .none,F1++G1⟩ f->Xr ⟨u,.dat (Qc m) d',G⟩ f:=λ{G u d' f} hG q=>by
   refine ⟨λhp b hb=>q.1 ?_ b (cs hG b hb),λhp b hb z=>q.2 ?_ b hb (hG b z)⟩
   w_pre e4
   ·rcases hp with hp | hp
    ·refine .inl ?_
     cases m <;> exact hp
    ·exact .inr hp
  obtain ⟨As,h1,h2,h3,h4⟩:=At.unpack (m:=m) t (λz=>(Hn.mp (hn z)).2.1) (λf hf=>sub (λb hb=>Ah _ hb) (hs f hf)) (λb hb=>hnew b (cs (λb hb=>Ah _ hb) b hb)) h
  refine ⟨⟨some x,.dat (Qc m) d,F1⟩::As,by rw[Ap,Ap,h1],by rw[Ap,Ap,h2],λe he b hb=>?_,?_⟩
  ·rcases Ak.mp he with rfl | he
   ·exact Ao _ hb
   ·exact Ah _ (h3 e he b hb)
  ·refine h4.push ⟨x,rfl,a,λz=>?_,λz=>?_⟩ (λf hf=>?_) λb hb=>.inl (hnew b (cs (λb hb=>Ao _ hb) b hb))
   ·cases m with
    | ow=>exact (Hn.mp (hn rfl)).1
    | _=>cases z
   ·cases m <;> cases z
   ·rcases Bc.mp hf with hf | hf
    ·have hx:f.x∈As.map Ent.x:=Dc.mpr ⟨f,hf,rfl⟩
     rw[h2] at hx
     obtain ⟨d',_,ed⟩:=Dc.mp hx
     refine ⟨λhp b hb z=>?_,λhp b hb z=>?_⟩
     ·cases m with
      | ow=>exact (Hn.mp (hn rfl)).2.2 b hb b (h3 f hf b z) rfl
      | _=>exact nomatch hb
     ·cases m with
      | ow=>exact (Hn.mp (hn rfl)).2.2 b z b (h3 f hf b (Hu _ _ hb)) rfl
      | _ =>
       unfold cells at hb
       rw[<- ed] at hb
       exact nomatch hb
    ·exact sub (λb hb=>Ao _ hb) (hs f hf)
section
variable{X:Cx}{pos:Pos}
theorem uS:R7 X [] zS:=by
 refine AZ.imp Ys λus σ H Q h=>?_
 w_pre q10
 match As,hA,hd,eu with
 | [],hA,hd,eu =>
  cases us with
  | nil=>exact ⟨rfl,k δ S H hS hA hd⟩
  | cons _ _=>cases eu
 | _::_,hA,hd,eu=>exact hd.elim
theorem Yf{e:Expr}{es:List Expr}{g:DG}{gs:K9}(h1:IR X e g)(h2:R7 X es gs)(hs:(Mb (e::es) X.env).map (·.2)=Nr e X.env::(Mb es X.env).map (·.2):=by rfl):R7 X (e::es) (uX g gs):=by
 refine AZ.imp (Mk h1 h2 hs) λus σ H Q h=>?_
 w_pre q10
 match As,hA,hd,eu with
 | [],hA,hd,eu=>exact hd.elim
 | ⟨v,x,F⟩::As,hA,hd,eu =>
  cases us with
  | nil=>cases eu
  | cons u us =>
   rw[Ap,Ap] at eu
   obtain ⟨e1,e2⟩:=Ht eu
   have e1':v=some u:=e1
   subst e1'
   refine ⟨u,us,rfl,H0,Y,S,As++T,δ,x,F,_,rfl,hS,hA,hd,λδ' S' H' e3 hA' p=>?_⟩
   exact ⟨H0,Y,S',T,As,δ',P,rfl,e3,e2,hA',p,k⟩
theorem I0{es:List Expr}{kk:Nat}{gs:K9}{n:Nat}(hc:X.calm=true)(h:R7 X es gs)(hn:(Mb es X.env).length=n:=by rfl)(hst:(Mb es X.env).findIdx? (·.1)=none:=by rfl):IR X (.Tuple es kk pos) (E4 n gs):=by
 refine PG.imp (cW hc h hn hst) λv σ H Q h=>?_
 obtain ⟨H0,Y,S,T,δ,x,F,P,rfl,hS,hA,hd,k⟩:=h
 unfold E4 at hd
 w_pre w7
 ·rename_i m ds
  obtain ⟨a,xs,rfl,ha,ra,hz⟩:=(hA.told mem_mid).tup_inv
  have hm:=hA.mid
  have hp:=Bd.mp hm.sep
  obtain ⟨w,_,_,hnd,_⟩:=hm.ok _ Ab
  have cs:∀b∈cells ⟨none,.dat (Qc m) .none,F⟩,b∈cells ⟨some (.ref a),.dat m (.tuple ds),F⟩:=λb hb=>by
   cases m with
   | ow=>exact hb
   | _=>exact nomatch hb
  obtain ⟨As,h1,h2,h3,h4⟩:=At.unpack (m:=m) (E:=S++T) ra hnd (λf hf=>by
   refine ⟨λhq b hb=>(hp.1 f hf).1 ?_ b (cs b hb),λhq b hb=>(hp.1 f hf).2 ?_ b hb⟩
   ·rcases hq with hq | hq
    ·exact .inl hq
    ·cases hq
   ·rcases hq with hq | hq
    ·refine .inl ?_
     cases m <;> first | rfl | exact hq
    ·exact .inr hq) (λb hb=>by
   rcases hm.new _ Ab b (cs b hb) with z | z
   ·exact z
   ·cases z.2) hA.drop
  refine ⟨a,xs,rfl,Rq.of ha,by rw[ra.len]; exact hd.1,H0,Y,S,T,As,δ,P,rfl,hS,h1,h4.perm ?_,by rw[h2]; exact hd.2,k⟩
  rw[<- Bw,<- Bw]
  exact El.append_right T
 w_pre v7
end
theorem sC{K:PySem.W.Frag}{H0 H:Hp}{X:Addr->Prop}{n:Nat}{E:List Ent}(h:At K H0 X n E H):∀{e f:Ent},e∈E->f∈E->e=f\/Xr e f:=by
 have main:∀{E:List Ent},E.Pairwise Xr->∀{e f:Ent},e∈E->f∈E->e=f\/Xr e f:=by
  intro E
  induction E with
  | nil=>intro _ e f he; cases he
  | cons g E ih =>
   intro hp e f he hf
   have hc:=Bd.mp hp
   rcases Ak.mp he with he | he
   ·subst he
    rcases Ak.mp hf with hf | hf
    ·exact .inl hf.symm
    ·exact .inr (hc.1 f hf)
   ·rcases Ak.mp hf with hf | hf
    ·rw[hf]
     exact .inr (hc.1 e he).symm
    ·exact ih hc.2 he hf
 intro e f he hf
 exact main h.sep he hf
abbrev DI:=DS->(Md->List Af->DS->Prop)->Prop
structure IterOk(K:PySem.W.Frag)(J:It)(hid:List Ent)(m:Md)(ds:List Af):Prop where
 md:m=.sh\/m=.pk
 hd:∀e∈hid,cells e=[]
 np:m=.sh->∀e∈hid,Tf e.x=false
 go:∀H n i,(∀e∈hid,Iu K H n e)->i<ds.length->J.go i H
 yld:∀H n i x H',(∀e∈hid,Iu K H n e)->i<ds.length->J.yld i H x H'->Th H H'/\∃d F,ds[i]? = some d/\RdF K H' x d F/\∀a∈F,∃e∈hid,a∈e.F
 stop:∀H n,(∀e∈hid,Iu K H n e)->J.stop ds.length H
def LI(K:PySem.W.Frag)(di:DI):TI:=λσ H R=>∃(H0:Hp) (X:Addr->Prop) (S T:List Ent) (δ:DS) (P:Md->List Af->DS->Prop),vs S=σ/\Sl S δ/\At K H0 X δ.n (S++T) H/\di δ P /\
 ∀m ds δ' J hid S' H',vs S'=σ->Sl S' δ'->At K H0 X δ'.n (S'++(hid++T)) H'->IterOk K J hid m ds->ds.length<=Ay->P m ds δ'->R J H'
abbrev qZ(X:Cx)(tg iter:Expr)(di:DI):Prop:=PI X tg iter (LI X.K di)
theorem PI.imp{X:Cx}{tg e:Expr}{t t':TI}(h:PI X tg e t)(k:∀σ H Q,t' σ H Q->t σ H Q):PI X tg e t':=λpins s σ H Q I q=>h pins s σ H Q I (k σ H Q q)
def Jj:Md->Md
 | .pk=>.pk
 | _=>.sh
theorem Qp(m:Md):wk m (Jj m)=true:=by cases m <;> rfl
theorem At.item{K:PySem.W.Frag}{H0 H H':Hp}{X:Addr->Prop}{n:Nat}{S T hid:List Ent}{m:Md}{v:V}{d:Af}{F:List Addr}(h:At K H0 X n (S++(hid++T)) H)(s:Th H H')(r:RdF K H' v d F)(hF:∀a∈F,∃e∈hid,a∈e.F)(md:m=.sh\/m=.pk)(hh:∀e∈hid,cells e=[])(np:m=.sh->∀e∈hid,Tf e.x=false):At K H0 X n (S++⟨some v,.dat m d,F⟩::(hid++T)) H':=by
 have h1:=h.grow (n':=n) s (Aj _)
 have c0:∀a,a∉cells ⟨some v,.dat m d,F⟩:=λa ha=>by
  rcases md with rfl | rfl <;> exact nomatch ha
 refine (h1.push (e:=⟨some v,.dat m d,F⟩) ⟨v,rfl,r,λz=>?_,λz=>?_⟩ (λf hf=>⟨λ_ a ha=>absurd ha (c0 a),λhq a ha z=>?_⟩) λa ha=>absurd ha (c0 a)).tomid
 ·rcases md with rfl | rfl <;> cases z
 ·rcases md with rfl | rfl <;> cases z
 ·obtain ⟨e,he,ze⟩:=hF a z
  have he':e∈S++(hid++T):=Ah _ (Ao _ he)
  rcases sC h he' hf with rfl | q
  ·rw[hh e he] at ha
   cases ha
  ·refine q.2 ?_ a ha ze
   rcases hq with hq | hq
   ·refine .inl (np ?_ e he)
    rcases md with rfl | rfl
    ·rfl
    ·cases hq
   ·exact .inr hq
def KZ(de:DE):DI:=λδ P=>de δ λx δ'=>match x with
 | .dat m (.list ds)=>P (Jj m) ds δ'
 | .dat m (.tuple ds)=>P (Jj m) ds δ'
 | _=>False
def nE(da:DA):DI:=λδ P=>da δ λxs δ'=>match xs with
 | [.dat _ (.int j)]=>-1000000<=j/\j<=1000000/\P .sh ((Cc j.toNat).map λi:Nat=>.int i) δ'
 | _=>False
def F4(da:DA):DI:=λδ P=>da δ λxs δ'=>match xs with
 | [.dat m (.list ds)]=>P (Jj m) (ds.zipIdx.map λp=>.tuple [.int p.2,p.1]) δ'
 | _=>False
def uU(da:DA):DI:=λδ P=>da δ λxs δ'=>match xs with
 | [.dat m (.tuple ds)]=>P (Jj m) (ds.zipIdx.map λp=>.tuple [.int p.2,p.1]) δ'
 | _=>False
def mdZip:Md->Md->Md
 | .pk,_=>.pk
 | _,.pk=>.pk
 | _,_=>.sh
def Z5(da:DA):DI:=λδ P=>da δ λxs δ'=>match xs with
 | [.dat m (.list ds),.dat m' (.list es)]=>P (mdZip m m') ((ds.zip es).map λp=>.tuple [p.1,p.2]) δ'
 | _=>False
section
variable{K:PySem.W.Frag}
theorem Gc{H:Hp}{n:Nat}{v:V}{m:Md}{d:Af}{F:List Addr}{hid:List Ent}(h:∀e∈hid,Iu K H n e)(he:⟨some v,.dat m d,F⟩∈hid):RdF K H v d F:=by
 obtain ⟨w,e1,h1,_⟩:=h _ he
 cases e1
 exact h1
theorem Tv{v:Option V}{m:Md}{d:Af}{F:List Addr}:cells ⟨v,.dat (Jj m) d,F⟩=[]:=by cases m <;> rfl
theorem lA{v:Option V}{m:Md}{d:Af}{F:List Addr}:∀e∈[(⟨v,.dat (Jj m) d,F⟩ : Ent)],cells e=[]:=λe he=>by
 rw[Al.mp he]
 exact Tv
theorem tS{v:Option V}{m:Md}{d:Af}{F:List Addr}:Jj m=.sh->∀e∈[(⟨v,.dat (Jj m) d,F⟩ : Ent)],Tf e.x=false:=λz e he=>by
 rw[Al.mp he]
 show Tf (.dat (Jj m) d)=false
 rw[z]
 rfl
theorem cB(m:Md):Jj m=.sh\/Jj m=.pk:=by cases m <;> simp [Jj]
theorem yR{a:Addr}{m:Md}{ds:List Af}{F:List Addr}:IterOk K (JO K a) [⟨some (.ref a),.dat (Jj m) (.list ds),F⟩] (Jj m) ds where
 md:=cB m
 hd:=lA
 np:=tS
 go:=λH n i h hi=>by
  w_pre p3
  w_pre s9
 yld:=λH n i x H' h hi y=>by
  w_pre h10
  cases e
  obtain ⟨rfl,y⟩:=y
  have hx:=y xs (Mp.of hb)
  w_pre e3
  exact ⟨Th.refl _,ds[i],F',by simp [hi],h2,λc hc=>⟨_,Ab,Ac _ (h3.subset hc)⟩⟩
 stop:=λH n h=>by
  w_pre x6
  exact ⟨xs,Mp.of hb,by rw[rb.len]; exact Aj _⟩
theorem n9{a:Addr}{m:Md}{ds:List Af}{F:List Addr}:IterOk K (JL K a) [⟨some (.ref a),.dat (Jj m) (.tuple ds),F⟩] (Jj m) ds where
 md:=cB m
 hd:=lA
 np:=tS
 go:=λH n i h hi=>by
  w_pre s3
  w_pre t9
 yld:=λH n i x H' h hi y=>by
  w_pre m5
  obtain ⟨rfl,y⟩:=y
  have hx:=y xs (Rq.of hb)
  w_pre e3
  exact ⟨Th.refl _,ds[i],F',by simp [hi],h2,λc hc=>⟨_,Ab,h3.subset hc⟩⟩
 stop:=λH n h=>by
  w_pre m5
  exact ⟨xs,Rq.of hb,by rw[rb.len]; exact Aj _⟩
theorem sU{lo:Int}{n:Nat}:IterOk K (GV lo n) [] .sh ((Cc n).map λi:Nat=>.int (lo+i)) where
 md:=.inl rfl
 hd:=λ_ z=>nomatch z
 np:=λ_ _ z=>nomatch z
 go:=λH k i h hi=>by
  show i<n
  simpa using hi
 yld:=λH k i x H' h hi y=>by
  obtain ⟨rfl,rfl⟩:=y
  rw[Ad,Cq] at hi
  exact ⟨Th.refl _,.int (lo+i),[],by simp [hi],.int _,λ_ z=>nomatch z⟩
 stop:=λH k h=>by simp [GV]
theorem wX{a:Addr}{m:Md}{ds:List Af}{F:List Addr}:IterOk K (JY K a) [⟨some (.ref a),.dat (Jj m) (.list ds),F⟩] (Jj m) (ds.zipIdx.map λp=>.tuple [.int p.2,p.1]) where
 md:=cB m
 hd:=lA
 np:=tS
 go:=λH n i h hi=>by
  w_pre p3
  rw[Ad,Fl] at hi
  w_pre s9
 yld:=λH n i x H' h hi y=>by
  w_pre h10
  w_pre c4
  have hx:=y xs (Mp.of hb)
  w_pre n1
  refine ⟨s1,.tuple [.int i,ds[i]],F',by simp [hi],.tup Du (by simp [Gp]) ?_,λc hc=>⟨_,Ab,Ac _ (h3.subset hc)⟩⟩
  have:=RdFs.cons (F:=[]) (.int (i:Int)) (RdFs.cons (h2.kp (Kp.of s1)) RdFs.nil)
  rw[Ec] at this
  exact this
 stop:=λH n h=>by
  w_pre x6
  exact ⟨xs,Mp.of hb,by rw[Ad,Fl,rb.len]; exact Aj _⟩
theorem sR{a:Addr}{m:Md}{ds:List Af}{F:List Addr}:IterOk K (CS K a) [⟨some (.ref a),.dat (Jj m) (.tuple ds),F⟩] (Jj m) (ds.zipIdx.map λp=>.tuple [.int p.2,p.1]) where
 md:=cB m
 hd:=lA
 np:=tS
 go:=λH n i h hi=>by
  w_pre s3
  rw[Ad,Fl] at hi
  w_pre t9
 yld:=λH n i x H' h hi y=>by
  obtain ⟨b,xs,e,hb,rb,_⟩:=(Gc h Ab).tup_inv
  w_pre c4
  have hx:=y xs (Rq.of hb)
  w_pre n1
  refine ⟨s1,.tuple [.int i,ds[i]],F',by simp [hi],.tup Du (by simp [Gp]) ?_,λc hc=>⟨_,Ab,h3.subset hc⟩⟩
  have:=RdFs.cons (F:=[]) (.int (i:Int)) (RdFs.cons (h2.kp (Kp.of s1)) RdFs.nil)
  rw[Ec] at this
  exact this
 stop:=λH n h=>by
  w_pre m5
  exact ⟨xs,Rq.of hb,by rw[Ad,Fl,rb.len]⟩
theorem j5{a b:Addr}{m m':Md}{ds es:List Af}{F G:List Addr}:IterOk K (JU K a b) [⟨some (.ref a),.dat (Jj m) (.list ds),F⟩,⟨some (.ref b),.dat (Jj m') (.list es),G⟩] (mdZip m m') ((ds.zip es).map λp=>.tuple [p.1,p.2]) where
 md:=by cases m <;> cases m' <;> simp [mdZip]
 hd:=λe he=>by
  w_pre b2
 np:=λz e he=>by
  w_pre i1
 go:=λH n i h hi=>by
  w_pre g0
  rw[Ad,Hr] at hi
  exact ⟨xs,ys,xs[i],ys[i],Mp.of hb1,Mp.of hb2,by simp [show i<xs.length by omega],by simp [show i<ys.length by omega]⟩
 yld:=λH n i x H' h hi y=>by
  obtain ⟨b1,xs,G1,e1,hb1,rb1,rfl,_⟩:=(Gc h Ab).list_inv
  w_pre u9
  cases e1
  cases e2
  rw[Ad,Hr] at hi
  obtain ⟨t,u,v,rfl,nt,rfl,y1,y2⟩:=y
  have hx1:=y1 xs (Mp.of hb1)
  have hx2:=y2 ys (Mp.of hb2)
  obtain ⟨x1,F1,h11,h12,h13⟩:=rb1.get (i:=i) (e:=ds[i]) (by simp [show i<ds.length by omega])
  w_pre z8
  rw[hx1] at h11
  cases h11
  rw[hx2] at h21
  cases h21
  have s1:=Fg nt (.tup [u,v])
  refine ⟨s1,.tuple [ds[i],es[i]],F1++F2,?_,.tup Du (by simp [Gp]) ?_,λc hc=>?_⟩
  ·rw[Bg,show (ds.zip es)[i]? = some (ds[i],es[i]) from mF.mpr ⟨by simp [show i<ds.length by omega],by simp [show i<es.length by omega]⟩]
   rfl
  ·have:=RdFs.cons (h12.kp (Kp.of s1)) (RdFs.cons (h22.kp (Kp.of s1)) RdFs.nil)
   rw[Ec] at this
   exact this
  ·rcases Bc.mp hc with hc | hc
   ·exact ⟨_,Ab,Ac _ (h13.subset hc)⟩
   ·exact ⟨_,Ac _ Ab,Ac _ (h23.subset hc)⟩
 stop:=λH n h=>by
  w_pre g0
  refine ⟨xs,ys,Mp.of hb1,Mp.of hb2,?_⟩
  rw[Ad,Hr]
  omega
end
section
variable{X:Cx}{tg e:Expr}{de:DE}{di:DI}
def dL(de:DE):DI:=λδ P=>de δ λx δ'=>match x with
 | .dat m (.list ds)=>P (Jj m) ds δ'
 | _=>False
def LD(de:DE):DI:=λδ P=>de δ λx δ'=>match x with
 | .dat m (.tuple ds)=>P (Jj m) ds δ'
 | _=>False
theorem M3(h:Gr X e de):qZ X tg e (dL de):=by
 refine PI.imp (R9 h) λσ H R h=>?_
 w_pre e2
 ·obtain ⟨a,xs,G,rfl,ha,ra,rfl,hz⟩:=(hA1.told mem_mid).list_inv
  exact ⟨a,rfl,⟨xs,Mp.of ha⟩,k _ _ δ1 _ [_] S1 H1 e1 e2 ((hA1.mid.wk (Qp _)).tomid) yR hz p1⟩
 w_pre y8
theorem EK(h:Gr X e de):qZ X tg e (LD de):=by
 refine PI.imp (EF h) λσ H R h=>?_
 w_pre e2
 ·obtain ⟨a,xs,rfl,ha,ra,hz⟩:=(hA1.told mem_mid).tup_inv
  exact ⟨a,rfl,⟨xs,Rq.of ha⟩,k _ _ δ1 _ [_] S1 H1 e1 e2 ((hA1.mid.wk (Qp _)).tomid) n9 hz p1⟩
 w_pre y8
variable{es:List Expr}{da:DA}{a b:Expr}{p pos tp:Pos}{elts:List Expr}{kt:Nat}
theorem Lx(hg:Gl X "range")(hm:X.mg "range" = none)(ha:mB X [a] da)(hs:Bj [a] X.env=[(false,eval a X.env)]:=by rfl):qZ X tg (.Call (.Name "range" p) [a] [] pos) (nE da):=by
 refine PI.imp (wD hg hm ha hs) λσ H R h=>?_
 w_pre d2
 ·obtain ⟨v,F,rfl,hA2⟩:=Hx eu hA' ex
  w_pre e9
  obtain ⟨j0,j1,pp⟩:=p
  refine ⟨_,rfl,by omega,by omega,k _ _ δ' _ [] S' H' e1 e2 hA2.drop sU (by rw[Ad,Cq]; exact pF (by omega)) ?_⟩
  simpa using pp
 w_pre s8
theorem P8(hg:Gl X "enumerate")(hm:X.mg "enumerate" = none)(ha:mB X [a] da)(hs:Bj [a] X.env=[(false,eval a X.env)]:=by rfl):qZ X (.Tuple elts kt tp) (.Call (.Name "enumerate" p) [a] [] pos) (F4 da):=by
 refine PI.imp (L7 hg hm ha hs) λσ H R h=>?_
 w_pre d2
 ·obtain ⟨v,F,rfl,hA2⟩:=Hx eu hA' ex
  obtain ⟨a,xs,G,rfl,ha,ra,rfl,hz⟩:=(hA2.told mem_mid).list_inv
  exact ⟨a,rfl,⟨xs,Mp.of ha⟩,k _ _ δ' _ [_] S' H' e1 e2 ((hA2.mid.wk (Qp _)).tomid) wX (by rw[Ad,Fl]; exact hz) p⟩
 w_pre s8
theorem K3(hg:Gl X "enumerate")(hm:X.mg "enumerate" = none)(ha:mB X [a] da)(hs:Bj [a] X.env=[(false,eval a X.env)]:=by rfl):qZ X (.Tuple elts kt tp) (.Call (.Name "enumerate" p) [a] [] pos) (uU da):=by
 refine PI.imp (G4 hg hm ha hs) λσ H R h=>?_
 w_pre d2
 ·obtain ⟨v,F,rfl,hA2⟩:=Hx eu hA' ex
  w_pre b10
  exact ⟨a,rfl,⟨xs,Rq.of ha⟩,k _ _ δ' _ [_] S' H' e1 e2 ((hA2.mid.wk (Qp _)).tomid) sR (by rw[Ad,Fl]; exact hz) p⟩
 w_pre s8
theorem sP(hg:Gl X "zip")(hm:X.mg "zip" = none)(ha:mB X [a,b] da)(hs:Bj [a,b] X.env=(false,eval a X.env)::Bj [b] X.env:=by rfl)(hp:(Hh pos (Bj [b] X.env)).any (·.1)=false:=by rfl):qZ X (.Tuple elts kt tp) (.Call (.Name "zip" p) [a,b] [] pos) (Z5 da):=by
 refine PI.imp (BG hg hm ha hs hp) λσ H R h=>?_
 w_pre d2
 ·obtain ⟨v,F,w,G,rfl,hA2⟩:=Xq eu hA' ex
  w_pre e5
  refine ⟨a,b,rfl,⟨xs,Mp.of ha⟩,⟨ys,Mp.of hb⟩,k _ _ δ' _ [_,_] S' H' e1 e2 (((((hA2.mid.wk (Qp _)).tomid).swap.mid.wk (Qp _)).tomid).swap) j5 (by rw[Ad,Hr]; omega) p⟩
 w_pre s8
end
def GJ(di:DI)(dg:DG)(db:DB):DB:=λD δ=>di δ λm ds δ1=>m=.sh/\∃I:Nat->DS->Prop,I 0 δ1 /\
 (∀i d δ',ds[i]? = some d->I i δ'->dg (.dat .sh d) δ' λδ2=>db { D with nx:=I (i+1),ct:=I (i+1),bk:=D.nx } δ2)/\∀δ',I ds.length δ'->D.nx δ'
section
variable{X:Cx}{tg iter:Expr}{di:DI}{dg:DG}{db:DB}{body:List Stmt}{pos:Pos}
theorem At.dropH{K:PySem.W.Frag}{H0 H:Hp}{X:Addr->Prop}{n:Nat}{S T hid:List Ent}{e:Ent}(h:At K H0 X n (S++e::(hid++T)) H):At K H0 X n (S++e::T) H:=h.sub ((Co S).append ((Bu hid T).cons₂ e))
theorem Ni(hp:PassesOwn (model X.prog X.w) X.A X.env X.xe)(hc:X.calm=true)(hi:qZ X tg iter di)(hg:IR X tg dg)(hb:dO X body db)(hs:∀x,Da iter X.env x=pure x:=by intro _; rfl):zG X (.For tg iter body [] pos) (GJ di dg db):=by
 refine PS.impD (AA hp hc hi hg hb hs) λD σ H h=>?_
 w_pre q7
 w_pre g9
 obtain ⟨rfl,I,h0,hs,hf⟩:=p1
 rw[<- e1]
 have hT':∀e∈hid++T,Tf e.x=false:=λe he=>by
  w_pre t8
  ·exact it.np rfl e he
  ·exact hT e he
 refine ⟨λi q σ H=>q=ds.length - i/\i<=ds.length/\∃S δ,vs S=σ/\Sl S δ/\At X.K H0 Y δ.n (S++(hid++T)) H/\I i δ,⟨ds.length,by simp,Dq _,S1,δ1,rfl,e2,hA1,h0⟩,?_⟩
 rintro i q σ H ⟨rfl,hi,S2,δ2,rfl,e3,hA2,hI⟩
 have hid_ok:∀e∈hid,Iu X.K H δ2.n e:=λe he=>hA2.ok e (Ah _ (Ao _ he))
 by_cases hlt:i<ds.length
 ·refine .inr ⟨it.go H δ2.n i hid_ok hlt,λσ' H'=>∃S δ,vs S=σ'/\Sl S δ/\At X.K H0 Y δ.n (S++(hid++T)) H'/\I (i+1) δ,λσ' H' q=>⟨ds.length - (i+1),by omega,rfl,hlt,q⟩,λx H' y=>?_⟩
  obtain ⟨s1,d,F,h1,h2,h3⟩:=it.yld H δ2.n i x H' hid_ok hlt y
  refine ⟨H0,Y,S2,hid++T,δ2,.dat .sh d,F,_,rfl,e3,hA2.item s1 h2 h3 it.md it.hd it.np,hs i d δ2 h1 hI,λδ3 S3 H3 e4 hA3 p3=>?_⟩
  refine ⟨H0,Y,S3,hid++T,δ3,_,rfl,e4,hT',hA3,p3,λδ4 S4 H4 e5 hA4 p4=>⟨S4,δ4,rfl,e5,hA4,p4⟩,λx δ4 v F S4 H4 e5 hA4 p4=>k2 x δ4 v F S4 H4 e5 hA4.dropH p4,
   λδ4 S4 H4 e5 hA4 p4=>k1 δ4 S4 H4 e5 hA4.dropL p4,λδ4 S4 H4 e5 hA4 p4=>⟨S4,δ4,rfl,e5,hA4,p4⟩⟩
 ·have e:i=ds.length:=by omega
  subst e
  exact .inl ⟨it.stop H δ2.n hid_ok,k1 δ2 S2 H e3 hA2.dropL (hf δ2 hI)⟩
end
end DL
namespace Nd
open PySem PySem.Spec PyProof.Rows L2
theorem gA(elt t1 i1 t2 i2:Expr)(scope:Scope)(pos:Pos)(it acc:Value)(env:Env) :
  compTurn (.ListComp elt [⟨t1,i1,[],0⟩,⟨t2,i2,[],0⟩] scope pos) 0 it acc env=(do
   bM i1.pos
   match <- Ji it with
   | none=>pure (.done .next)
   | some v =>
    Hz t1 it v
    Nr t1 env v
    let x <- eval i2 env
    bM i2.pos
    let x <- Da i2 env x
    let it2 <- Qe [x] (pyIter x)
    let _ <- runOwn (.compStart (.ListComp elt [⟨t1,i1,[],0⟩,⟨t2,i2,[],0⟩] scope pos) 1 it2 acc env) env
    again (.compLoop (.ListComp elt [⟨t1,i1,[],0⟩,⟨t2,i2,[],0⟩] scope pos) 0 it acc env)):=by rfl
theorem fN(elt t1 i1 t2 i2:Expr)(scope:Scope)(pos:Pos)(it acc:Value)(env:Env) :
  compTurn (.ListComp elt [⟨t1,i1,[],0⟩,⟨t2,i2,[],0⟩] scope pos) 1 it acc env=(do
   bM i2.pos
   match <- Ji it with
   | none=>pure (.done .next)
   | some v =>
    Hz t2 it v
    Nr t2 env v
    (do let _ <- call (.builtin "list.append") [acc,<- eval elt env])
    again (.compLoop (.ListComp elt [⟨t1,i1,[],0⟩,⟨t2,i2,[],0⟩] scope pos) 1 it acc env)):=by rfl
section
variable{prog:Bk}{w:World}{A:Ci}{R:Result->Ai->Prop}{s:Ai}
theorem fP{elt:Expr}{g:Comprehension}{t2 i2:Expr}{scope:Scope}{pos:Pos}{it acc:Value}{env:Env}(h0:Hb (model prog w) A (.compLoop (.ListComp elt [g,⟨t2,i2,[],0⟩] scope pos) 1 it acc env) R s)(h:wpAny (model prog w) A (pyIter it) (λit' s'=>Hb (model prog w) A (.compLoop (.ListComp elt [g,⟨t2,i2,[],0⟩] scope pos) 1 it' acc env) R s') (λ_ _=>False) s):Hb (model prog w) A (.compStart (.ListComp elt [g,⟨t2,i2,[],0⟩] scope pos) 1 it acc env) R s:=by
 refine Yz ?_
 show wpAny _ _ ((compStart (.ListComp elt [g,⟨t2,i2,[],0⟩] scope pos) 1 it acc env).onRaise (λx=>do noteFrame x env; bM theWindowsPlace)) _ _ s
 refine wpAny_notedAt ?_
 unfold compStart
 show wpAny _ _ (ask >>= _) _ _ s
 refine Aa (Wj (wpAny_ite ?_))
 split
 ·first
   | exact Aa (Ae (Ae (And.intro rfl h0)))
   | exact Ae (And.intro rfl h0)
 ·first
   | exact Aa (Jt (Aa (Hk (Aa (Cu h (λit' s' h'=>Ae (And.intro rfl h')) λ_ _ x=>x.elim)))))
   | (refine Aa (Jt ?_); show wpAny _ _ (bM i2.pos >>= _) _ _ s; exact Aa (Hk (Aa (Cu h (λit' s' h'=>Ae (And.intro rfl h')) λ_ _ x=>x.elim))))
theorem mH{elt t1 i1 t2 i2:Expr}{scope:Scope}{pos:Pos}{it acc:Value}{env:Env}(hs2:∀x,Da i2 env x=pure x)(J:Nat->Ai->Prop) (turn:∀n s,J n s->wpAny (model prog w) A (Ji it) (λr s1=>match r with
    | none=>R (.ok .next) s1
    | some v=>wpAny (model prog w) A (Hz t1 it v) (λ_ s2=>wpAny (model prog w) A (Nr t1 env v) (λ_ s3 =>
      wpAny (model prog w) A (eval i2 env) (λx s4=>wpAny (model prog w) A (pyIter x) (λit2 s5 =>
       Hb (model prog w) A (.compStart (.ListComp elt [⟨t1,i1,[],0⟩,⟨t2,i2,[],0⟩] scope pos) 1 it2 acc env) (λr s6=>match r with | .ok _=>∃m,m<n/\J m s6 | .error _=>False) s5) (λ_ _=>False) s4) (λ_ _=>False) s3) (λ_ _=>False) s2) (λ_ _=>False) s1) (λ_ _=>False) s)
  (n:Nat) (h:J n s):Hb (model prog w) A (.compLoop (.ListComp elt [⟨t1,i1,[],0⟩,⟨t2,i2,[],0⟩] scope pos) 0 it acc env) R s:=by
 w_pre o9
 show wpAny _ A (Sem.onRaise (compTurn (.ListComp elt [⟨t1,i1,[],0⟩,⟨t2,i2,[],0⟩] scope pos) 0 it acc env) (λx=>do noteFrame x env; theTreesLotGoes x)) _ _ s
 refine wpAny_noted ?_
 rw[gA]
 w_pre e8
 cases r with
 | none=>exact Ae h1
 | some v =>
  w_pre t4
  refine Aa (Cu h3 (λx s4 h4=>?_) λ_ _ z=>z.elim)
  refine Aa (Hk (Aa (Jo (hs2 x) (Aa (Ct (Cu h4 (λit2 s5 h5=>?_) λ_ _ z=>z.elim))))))
  refine Aa (wpAny_runOwn ?_)
  refine Oq h5 λr s6 h6=>?_
  cases r with
  | ok f=>exact Ae ⟨rfl,h6⟩
  | error e=>exact h6.elim
theorem pR{elt t1 i1 t2 i2:Expr}{scope:Scope}{pos:Pos}{it acc:Value}{env:Env}(J:Nat->Ai->Prop) (turn:∀n s,J n s->wpAny (model prog w) A (Ji it) (λr s1=>match r with
    | none=>R (.ok .next) s1
    | some v=>wpAny (model prog w) A (Hz t2 it v) (λ_ s2=>wpAny (model prog w) A (Nr t2 env v) (λ_ s3 =>
      wpAny (model prog w) A (eval elt env) (λx s5=>wpAny (model prog w) A (call (.builtin "list.append") [acc,x]) (λ_ s6=>∃m,m<n/\J m s6) (λ_ _=>False) s5) (λ_ _=>False) s3) (λ_ _=>False) s2) (λ_ _=>False) s1) (λ_ _=>False) s)
  (n:Nat) (h:J n s):Hb (model prog w) A (.compLoop (.ListComp elt [⟨t1,i1,[],0⟩,⟨t2,i2,[],0⟩] scope pos) 1 it acc env) R s:=by
 w_pre o9
 show wpAny _ A (Sem.onRaise (compTurn (.ListComp elt [⟨t1,i1,[],0⟩,⟨t2,i2,[],0⟩] scope pos) 1 it acc env) (λx=>do noteFrame x env; theTreesLotGoes x)) _ _ s
 refine wpAny_noted ?_
 rw[fN]
 w_pre e8
 cases r with
 | none=>exact Ae h1
 | some v =>
  w_pre t4
  refine Aa (Aa (Cu h3 (λx s5 h5=>?_) λ_ _ z=>z.elim))
  w_pre v9
end
section
variable{X:Cx}
def AE(J:It)(js:List Nat)(wi2:TI)(te:TE)(σ:L2.St)(H1:Hp)(Q:VK):Prop:=∀D,H1 D=none->∃W:Nat->Nat->Hp->Prop,(∃m,W 0 m (upd H1 D (.lst [])))/\∀i m H,W i m H ->
 (J.stop i H/\Q (.ref D) H)\/(J.go i H/\∀x H',J.yld i H x H'->∀o:Option V,wi2 (some x::o::Eh σ js) H' λJ2 H2=>∃W2:Nat->Nat->Hp->Prop,(∃m2,W2 0 m2 H2)/\∀i2 m2 H3,W2 i2 m2 H3 ->
  (J2.stop i2 H3/\∃m',m'<m/\W (i+1) m' H3)\/(J2.go i2 H3/\∀y H4,J2.yld i2 H3 y H4->te (some x::some y::Eh σ js) H4 λz H5=>∃acc,H5 D=some (.lst acc)/\acc.length<Ay/\∃m2',m2'<m2/\W2 (i2+1) m2' (upd H5 D (.lst (acc++[z])))))
def BX(wi:TI)(js:List Nat)(wi2:TI)(te:TE):TE:=λσ H Q=>wi σ H λJ H1=>AE J js wi2 te σ H1 Q
end
section
variable{X:Cx}
theorem t8{elt iter:Expr}{x x2 y0:Str}{px px2 pt py pos spos:Pos}{kt:Nat}{i0:Nat}{ifs:List Expr}{scope:Scope}{cl:List (Str×Addr)}{ys:List Str}{js:List Nat}{wi:TI}{tc:TT}{te:TE}(hN:X.N.Nodup)(hi0:X.N[i0]? = some y0)(hy0:X.env.scope.names.lookup y0=some .local)(C:CompScope X scope cl x ys js)(own2:Zy scope x2)(nd2:(x::x2::ys).Nodup)(hc:X.calm=true)(hi:PI X (.Tuple [.Name x px,.Name x2 px2] kt pt) iter wi)(ht:∀fp s H,qM (Dh X scope cl (x::x2::ys) fp s H) ifs tc)(he:∀fp s H,PE (Dh X scope cl (x::x2::ys) fp s H) elt te)(hs:∀x,Da iter X.env x=pure x:=by intro _; rfl)(hsw:Oa (.ListComp elt [⟨.Tuple [.Name x px,.Name x2 px2] kt pt,iter,ifs,0⟩] scope pos) (some (.Name y0 py)) spos.line X.env=pure true:=by rfl):PS X (.Assign [.Name y0 py] (.ListComp elt [⟨.Tuple [.Name x px,.Name x2 px2] kt pt,iter,ifs,0⟩] scope pos) spos) (E6 (lJ X.K wi js tc te) (Pj i0)):=by
 intro pins s σ H De I h
 have h:lJ X.K wi js tc te σ H λv H1=>De.nx (σ.set i0 (some v)) H1:=h
 w_pre n6
 show wpAny _ X.A (do let _ <- comprehension (.ListComp elt [⟨.Tuple [.Name x px,.Name x2 px2] kt pt,iter,ifs,0⟩] scope pos) scope X.env _ (newList []) false (eval iter X.env) (some (Nr (.Name y0 py) X.env))) _ _ s
 w_pre c8
 w_pre a
 have loop:∀s5:Ai,s5={ s3 with heap:=h4,toks:=s3.toks+([]:List (Str×Value)).length } ->
   Hb (model X.prog X.w) X.A (.compLoop (.ListComp elt [⟨.Tuple [.Name x px,.Name x2 px2] kt pt,iter,ifs,0⟩] scope pos) 0 (.ref it) (.ref s2.heap.objs.size) (Te scope (En (s3.heap.objs.size+1) scope.names cl) s3.heap.objs.size X.env))
    (compPost (model X.prog X.w) X.A X.xe (some (Nr (.Name y0 py) X.env)) (λ_ s'=>SP X pins De .next s') (.ref s2.heap.objs.size) s3.heap.objs.size) s5:=by
  w_pre c1
  w_pre f
  w_pre c
 w_pre z7
end
end Nd
namespace DL
open PySem L2 Nd
def al(e:Ent):Ent:=match e.x with
 | .dat m d=>⟨e.v,.dat (kK m) d,e.F⟩
 | .val _=>e
 | .scr _=>e
 | _=>⟨e.v,.un,[]⟩
def alD:DV->DV
 | .dat m d=>.dat (kK m) d
 | .val v=>.val v
 | .scr ns=>.scr ns
 | _=>.un
def B7(S:List Ent)(j:Nat):Ent:=match S[j]? with
 | some e=>al e
 | none=>⟨none,.un,[]⟩
def fS(S:List Ent)(js:List Nat):List Ent:=js.map (B7 S)
def frD1(sl:List DV)(j:Nat):DV:=match sl[j]? with
 | some x=>alD x
 | none=>.un
def frD(sl:List DV)(js:List Nat):List DV:=js.map (frD1 sl)
theorem JA(e:Ent):(al e).v=e.v:=by
 w_pre h6
theorem JN(e:Ent):(al e).x=alD e.x:=by
 w_pre h6
theorem pM(S:List Ent)(js:List Nat):vs (fS S js)=Eh (vs S) js:=by
 unfold vs fS Eh
 rw[Cr]
 refine Py λj _=>?_
 rw[Bg]
 simp only[Function.comp,B7]
 cases S[j]? with
 | none=>rfl
 | some e=>exact JA e
theorem nR{S:List Ent}{δ:DS}(h:Sl S δ)(js:List Nat):(fS S js).map Ent.x=frD δ.sl js:=by
 unfold Sl at h
 unfold fS frD
 rw[Cr]
 refine Py λj _=>?_
 simp only[Function.comp,B7,frD1]
 rw[<- h,Bg]
 cases S[j]? with
 | none=>rfl
 | some e=>exact JN e
section
variable{K:PySem.W.Frag}{H0 H H':Hp}{X:Addr->Prop}{n:Nat}{E S T:List Ent}
theorem oB(e:Ent):cells (al e)=[]:=by
 w_pre d9
 cases x with
 | dat m d=>cases m <;> rfl
 | _=>rfl
theorem At.view1(h:At K H0 X n E H){e:Ent}(he:e∈E):At K H0 X n (al e::E) H:=by
 refine h.push ?_ (λf hf=>⟨λ_ a ha=>(by rw[oB] at ha; cases ha),λhq a ha z=>?_⟩) λa ha=>(by rw[oB] at ha; cases ha)
 ·have:=h.ok e he
  w_pre d9
  cases x with
  | dat m d =>
   obtain ⟨w,h1,h2,_⟩:=this
   exact ⟨w,h1,h2,λz=>(by cases m <;> cases z),λz=>(by cases m <;> cases z)⟩
  | val v=>exact this
  | scr ns=>exact this
  | _=>exact (rfl:([]:List Addr)=[])
 ·obtain ⟨v,x,F⟩:=e
  cases x with
  | dat m d =>
   rcases sC h he hf with rfl | q
   w_pre d3
   ·refine q.2 ?_ a ha z
    w_pre g1
  | val v =>
   rw[show F=[] from (h.ok _ he).2] at z
   cases z
  | scr ns =>
   obtain ⟨_,_,hF,_⟩:=h.ok _ he
   rw[show F=[] from hF] at z
   cases z
  | _=>exact nomatch z
theorem At.blank(h:At K H0 X n E H){v:Option V}:At K H0 X n (⟨v,.un,[]⟩::E) H :=
 h.push (rfl:([]:List Addr)=[]) (λf _=>⟨λ_ a ha=>(nomatch ha),λ_ a _=>Az⟩) (λa ha=>(nomatch ha))
theorem At.view(h:At K H0 X n E H)(hS:∀e∈S,e∈E):∀js:List Nat,At K H0 X n (fS S js++E) H
 | []=>h
 | j::js=>by
  have ih:=At.view h hS js
  show At K H0 X n (B7 S j::(fS S js++E)) H
  unfold B7
  cases e:S[j]? with
  | none=>exact ih.blank
  | some x=>exact ih.view1 (Ah _ (hS x (Bq e)))
theorem At.accNew(h:At K H0 X n E H){D:Addr}(hD:H D=Re):At K H0 X n (⟨some (.ref D),.acc [],[D]⟩::E) (upd H D (.lst [])):=by
 have s1:=Fg hD (.lst [])
 refine (h.grow (n':=n) s1 (Aj _)).push ⟨D,[],[],rfl,rfl,Du,.nil,Dq _,Az⟩ (λf hf=>?_) λa ha=>?_
 w_pre y
theorem At.accPutG{D:Addr}{ds:List Af}{v:V}{m:Md}{e:Af}{F G:List Addr}(h:At K H0 X n (⟨some (.ref D),.acc ds,D::G⟩::⟨some v,.dat m e,F⟩::E) H)(hm:m≠.pk)(hz:ds.length+1<=Ay):∃xs,H D=some (.lst xs)/\xs.length=ds.length/\At K H0 X n (⟨some (.ref D),.acc (ds++[e]),D::(G++F)⟩::E) (upd H D (.lst (xs++[v]))):=by
 obtain ⟨a,xs,G',e1,e0,ha,ra,_,nG⟩:=h.ok _ Ab
 w_pre w1
 have r:RdF K H v e F:=h.told (Ac _ Ab)
 have hs:=Bd.mp h.sep
 have hs2:=Bd.mp hs.2
 have h1:=(h.sub (Dm _ _)).sub (Dm _ _)
 have npk:Tf (.dat m e)=false:=by cases m <;> first | rfl | exact absurd rfl hm
 have nF:D∉F:=(hs.1 _ Ab).1 (.inr rfl) D Ab
 have kp:∀{F:List Addr},D∉F->Kp F H (upd H D (.lst (xs++[v]))):=λ{F} hF b o q z=>by
  w_pre r
 have nD:H0 D=Re:=by
  w_pre a4
 refine ⟨xs,ha,ra.len,?_⟩
 w_pre p9
 rotate_right
 ·obtain ⟨z,c,k,f,h1,h2⟩:=h.xd b hb
  w_pre x3
 ·rcases Ak.mp hf with rfl | hf
  ·exact ⟨D,xs++[v],G++F,rfl,rfl,Du,(ra.kp (kp nG)).snoc (r.kp (kp nF)),by rw[Bn]; exact hz,λz=>(Bc.mp z).elim nG nF⟩
  ·exact (h1.ok f hf).kp (kp ((hs.1 f (Ac _ hf)).1 (.inr rfl) D Ab)) (Aj _)
 ·refine Bd.mpr ⟨λf hf=>⟨λhq a ha'=>(hs.1 f (Ac _ hf)).1 (.inr rfl) a ha',λhq a ha' z=>?_⟩,hs2.2⟩
  have z1:=(hs.1 f (Ac _ hf)).2 (.inl rfl) a ha'
  rcases Ak.mp z with z | z
  ·exact z1 (z▸Ab)
  ·rcases Bc.mp z with z | z
   ·exact z1 (Ac _ z)
   ·exact (hs2.1 f hf).2 (.inl npk) a ha' z
 ·rcases Ak.mp hf with rfl | hf
  ·intro a ha'
   rw[Al.mp ha']
   exact .inl nD
  ·exact h1.new f hf
 w_pre y1
theorem At.accPut{D:Addr}{ds:List Af}{v:V}{e:Af}(h:At K H0 X n (⟨some (.ref D),.acc ds,[D]⟩::E) H)(r:RdF K H v e [])(hz:ds.length+1<=Ay):∃xs,H D=some (.lst xs)/\xs.length=ds.length/\At K H0 X n (⟨some (.ref D),.acc (ds++[e]),[D]⟩::E) (upd H D (.lst (xs++[v]))) :=
 At.accPutG (m:=.ow) (At.pushI (S:=[⟨some (.ref D),.acc ds,[D]⟩]) h r) (by decide) hz
def Ta:Bool->Md
 | true=>.ow
 | false=>.tp
theorem At.accGetG{D:Addr}{ds:List Af}{b:Bool}{G:List Addr}(h:At K H0 X n (⟨some (.ref D),.acc ds,D::G⟩::E) H)(hb:b=true->G=[]):At K H0 X n (⟨some (.ref D),.dat (Ta b) (.list ds),D::G⟩::E) H:=by
 obtain ⟨a,xs,G',e1,e0,ha,ra,hz,nG⟩:=h.ok _ Ab
 w_pre w1
 have hs:=Bd.mp h.sep
 have cs:∀a∈cells ⟨some (.ref D),.dat (Ta b) (.list ds),D::G⟩,a=D:=λa ha'=>by
  cases b with
  | true=>rw[hb rfl] at ha'; exact Al.mp ha'
  | false=>exact Al.mp ha'
 refine (h.sub (Dm _ _)).push ⟨_,rfl,.lst ha hz ra,λz=>?_,λ_ a l e=>?_⟩ (λf hf=>⟨λhq a ha'=>?_,λhq a ha'=>(hs.1 f hf).2 (.inl rfl) a ha'⟩) λa ha'=>?_
 ·cases b with
  | true=>rw[hb rfl]; exact Cm.mpr ⟨Az,Ep⟩
  | false=>cases z
 ·have e:D::G=a::l:=e
  cases e
  exact nG
 ·rw[cs a ha']
  exact (hs.1 f hf).1 (.inr rfl) D Ab
 ·rw[cs a ha']
  rcases h.new _ Ab D Ab with z | z
  w_pre n5
end
def Nn:DT:=λδ P=>P true δ
def CO(b:Bool)(m:Md)(e:Af):Prop:=match b with
 | true=>imm e=true
 | false=>m≠.pk
def Lz(b:Bool)(dc:DT)(de:DE)(δ:DS)(yes:Af->Nat->Prop)(no:Nat->Prop):Prop:=dc δ λc δ2=>match c with
 | true=>de δ2 λy δ3=>match y with
  | .dat m e=>CO b m e/\yes e δ3.n
  | _=>False
 | false=>no δ2.n
def i3(b:Bool)(di:DI)(js:List Nat)(dc:DT)(de:DE):DE:=λδ P=>di δ λm ds δ1=>∃I:Nat->List Af->Nat->Prop,I 0 [] δ1.n /\
 (∀i d acc n,ds[i]? = some d->I i acc n->Lz b dc de ⟨.dat m d::frD δ1.sl js,n⟩ (λe n'=>I (i+1) (acc++[e]) n') (λn'=>I (i+1) acc n')) /\
 ∀acc n,I ds.length acc n->P (.dat (Ta b) (.list acc)) ⟨δ1.sl,n⟩
def tQ(b:Bool)(di:DI)(js:List Nat)(dc:DT)(de:DE):DE:=λδ P=>di δ λm ds δ1=>∃I:Nat->List Af->Nat->Prop,I 0 [] δ1.n /\
 (∀i d acc n,ds[i]? = some d->I i acc n->∃d1 d2,d=.tuple [d1,d2]/\Lz b dc de ⟨.dat m d1::.dat m d2::frD δ1.sl js,n⟩ (λe n'=>I (i+1) (acc++[e]) n') (λn'=>I (i+1) acc n')) /\
 ∀acc n,I ds.length acc n->P (.dat (Ta b) (.list acc)) ⟨δ1.sl,n⟩
def Pp:DT->DE->DS->(Af->Nat->Prop)->(Nat->Prop)->Prop:=Lz true
def C5:DI->List Nat->DT->DE->DE:=i3 true
def sZ:DI->List Nat->DT->DE->DE:=tQ true
section
variable{K:PySem.W.Frag}{H0 H H':Hp}{Y:Addr->Prop}{n:Nat}{E S T:List Ent}
theorem Yk{b:Bool}{dc:DT}{de:DE}{δ:DS}{yes:Af->Nat->Prop}{no:Nat->Prop}{D:Addr}{G:List Addr}{acc:List Af}{N1:Hp->Prop}{N2:VK}(hS:Sl S δ)(hb:b=true->G=[])(hA:At K H0 Y δ.n (S++⟨some (.ref D),.acc acc,D::G⟩::T) H)(h:Lz b dc de δ yes no)(hz:acc.length+1<=Ay)(k1:∀n' H',At K H0 Y n' (⟨some (.ref D),.acc acc,D::G⟩::T) H'->no n'->N1 H')(k2:∀e n' v H' G',(b=true->G'=[])->(∃xs,H' D=some (.lst xs)/\xs.length=acc.length/\At K H0 Y n' (⟨some (.ref D),.acc (acc++[e]),D::G'⟩::T) (upd H' D (.lst (xs++[v]))))->yes e n'->N2 v H'):LT K dc (vs S) H λc H2=>if c=true then LE K de (vs S) H2 N2 else N1 H2:=by
 refine ⟨H0,Y,S,⟨some (.ref D),.acc acc,D::G⟩::T,δ,_,rfl,hS,hA,h,λc δ2 S2 H2 e1 e2 hA2 p2=>?_⟩
 cases c with
 | false=>exact sH (k1 _ _ (hA2.sub (Bu _ _)) p2)
 | true =>
  refine tH ⟨H0,Y,S2,⟨some (.ref D),.acc acc,D::G⟩::T,δ2,_,e1,e2,hA2,p2,λy δ3 v F S3 H3 e3 e4 hA3 p3=>?_⟩
  split at p3
  ·rename_i m e
   have r:=hA3.told mem_mid
   cases b with
   | true =>
    obtain rfl:=r.imm p3.1
    obtain rfl:=hb rfl
    exact k2 _ _ _ _ [] (λ_=>rfl) ((hA3.drop.sub (Bu _ _)).accPut r hz) p3.2
   | false =>
    have hA4:At K H0 Y δ3.n (⟨some v,.dat m e,F⟩::⟨some (.ref D),.acc acc,D::G⟩::T) H3:=hA3.sub (Bu _ _)
    exact k2 _ _ _ _ (G++F) (λz=>nomatch z) ((hA4.perm (Ek _ _ _)).accPutG p3.1 hz) p3.2
  ·exact p3.elim
theorem aK{dt:TT}:∀σ H Q,LT K Nn σ H Q->Sr σ H Q:=by
 w_pre i5
 exact k true δ S H rfl hS hA hd
theorem qM.imp{X:Cx}{e:List Expr}{t t':TT}(h:qM X e t)(k:∀σ H Q,t' σ H Q->t σ H Q):qM X e t':=λpins s σ H Q I q=>h pins s σ H Q I (k σ H Q q)
theorem uA{b:Bool}{di:DI}{js:List Nat}{dc:DT}{de:DE}:∀σ H Q,LE K (i3 b di js dc de) σ H Q->vE (LI K di) js (LT K dc) (LE K de) σ H Q:=by
 w_pre o
 ·refine .inr ⟨it.go H n i hid_ok hlt,λx H' y=>?_⟩
  w_pre n4
  have hA4:=hA3.mid
  have hA5:=At.view (S:=S1) hA4 (λe he=>Ac _ (Ao _ (Ac _ he))) js
  have hA6:At K H0 Y n ((⟨some x,.dat m d,F⟩::fS S1 js)++⟨some (.ref D),.acc acc,D::G⟩::(S1++(hid++T))) H':=hA5.mid
  have hS6:Sl (⟨some x,.dat m d,F⟩::fS S1 js) ⟨.dat m d::frD δ1.sl js,n⟩:=by
   unfold Sl
   rw[Ap,nR e2]
  have hv:vs (⟨some x,.dat m d,F⟩::fS S1 js)=some x::Eh (vs S1) js:=by
   rw[<- pM]
   rfl
  refine ⟨λH2=>∃m',m'<ds.length - i/\_,λy H3=>∃acc,H3 D=some (.lst acc)/\acc.length<Ay/\∃m',m'<ds.length - i/\_,λH2 q=>q,λy H3 q=>q,?_⟩
  rw[<- hv]
  refine Yk hS6 hG hA6 (hs i d acc n h1 hI) (by omega) (λn' H2 hA7 p=>?_) (λe n' v H2 G' hG' hA7 p=>?_)
  w_pre h2
 w_pre b0
theorem qG{b:Bool}{di:DI}{js:List Nat}{dc:DT}{de:DE}:∀σ H Q,LE K (tQ b di js dc de) σ H Q->lJ K (LI K di) js (LT K dc) (LE K de) σ H Q:=by
 w_pre o
 ·refine .inr ⟨it.go H n i hid_ok hlt,λx H' y=>?_⟩
  w_pre q2
  cases rt with
  | @cons w1 _ xs _ F1 _ r1 rt =>
   cases rt with
   | @cons w2 _ xs _ F2 G r2 rt =>
    cases rt
    have hA3:At K H0 Y n ((⟨some (.ref D),.acc acc,D::G⟩::S1)++⟨some w1,.dat m d1,F1⟩::(hid++T)) H':=At.item (S:=⟨some (.ref D),.acc acc,D::G⟩::S1) hA2 s1 r1 (λa ha=>h3 a (Ao _ ha)) it.md it.hd it.np
    have hA3':At K H0 Y n ((⟨some w1,.dat m d1,F1⟩::⟨some (.ref D),.acc acc,D::G⟩::S1)++(hid++T)) H':=hA3.mid
    have hA3'':At K H0 Y n ((⟨some w1,.dat m d1,F1⟩::⟨some (.ref D),.acc acc,D::G⟩::S1)++⟨some w2,.dat m d2,F2⟩::(hid++T)) H':=At.item hA3' (Th.refl _) r2 (λa ha=>h3 a (Ah _ (Ao _ ha))) it.md it.hd it.np
    have hA4:At K H0 Y n (⟨some w1,.dat m d1,F1⟩::⟨some w2,.dat m d2,F2⟩::⟨some (.ref D),.acc acc,D::G⟩::(S1++(hid++T))) H':=hA3''.mid.perm (Ek _ _ _)
    have hA5:=At.view (S:=S1) hA4 (λe he=>Ac _ (Ac _ (Ac _ (Ao _ he)))) js
    have hA6:At K H0 Y n ((⟨some w1,.dat m d1,F1⟩::⟨some w2,.dat m d2,F2⟩::fS S1 js)++⟨some (.ref D),.acc acc,D::G⟩::(S1++(hid++T))) H':=by
     w_pre f4
    have hS6:Sl (⟨some w1,.dat m d1,F1⟩::⟨some w2,.dat m d2,F2⟩::fS S1 js) ⟨.dat m d1::.dat m d2::frD δ1.sl js,n⟩:=by
     unfold Sl
     rw[Ap,Ap,nR e2]
    have hv:vs (⟨some w1,.dat m d1,F1⟩::⟨some w2,.dat m d2,F2⟩::fS S1 js)=some w1::some w2::Eh (vs S1) js:=by
     rw[<- pM]
     rfl
    refine ⟨t,w1,w2,rfl,Rq.of ht,λH2=>∃m',m'<ds.length - i/\_,λy H3=>∃acc,H3 D=some (.lst acc)/\acc.length<Ay/\∃m',m'<ds.length - i/\_,λH2 q=>q,λy H3 q=>q,?_⟩
    rw[<- hv]
    refine Yk hS6 hG hA6 hst (by omega) (λn' H2 hA7 p=>?_) (λe n' v H2 G' hG' hA7 p=>?_)
    w_pre h2
 w_pre b0
end
section
variable{X:Cx}{elt iter c:Expr}{x x2 y0:Str}{px px2 pt py pos spos:Pos}{kt i0:Nat}{ifs:List Expr}{scope:Scope}{cl:List (Str×Addr)}{ys:List Str}{js:List Nat}{di:DI}{dc:DT}{de:DE}
theorem Jf:qM X [] (LT X.K Nn):=qM.imp h9 (aK (dt:=Sr))
theorem lU(h:oR X c dc):qM X [c] (LT X.K dc):=P7 h
theorem Np(C:CompScope X scope cl x ys js)(hc:X.calm=true)(hi:qZ X (.Name x px) iter di)(ht:∀fp s H,qM (Dh X scope cl (x::ys) fp s H) ifs (LT X.K dc))(he:∀fp s H,Gr (Dh X scope cl (x::ys) fp s H) elt de)(hs:∀x,Da iter X.env x=pure x:=by intro _; rfl):Gr X (.ListComp elt [⟨.Name x px,iter,ifs,0⟩] scope pos) (C5 di js dc de):=PE.imp (S9 C hc hi ht he hs) uA
theorem eV(C:CompScope X scope cl x ys js)(own2:Zy scope x2)(nd2:(x::x2::ys).Nodup)(hc:X.calm=true)(hi:qZ X (.Tuple [.Name x px,.Name x2 px2] kt pt) iter di)(ht:∀fp s H,qM (Dh X scope cl (x::x2::ys) fp s H) ifs (LT X.K dc))(he:∀fp s H,Gr (Dh X scope cl (x::x2::ys) fp s H) elt de)(hs:∀x,Da iter X.env x=pure x:=by intro _; rfl):Gr X (.ListComp elt [⟨.Tuple [.Name x px,.Name x2 px2] kt pt,iter,ifs,0⟩] scope pos) (sZ di js dc de):=PE.imp (A5 C own2 nd2 hc hi ht he hs) qG
def IT(o:Bool)(i:Nat):DG:=match o with
 | true=>oJ i
 | false=>Rx i
theorem GU{K:PySem.W.Frag}{o:Bool}{i:Nat}:∀v σ H Q,LG K (IT o i) v σ H Q->Pj i v σ H Q:=by
 cases o with
 | true=>exact A1
 | false=>exact jC
theorem U6{o:Bool}(hN:X.N.Nodup)(hi0:X.N[i0]? = some y0)(hy0:X.env.scope.names.lookup y0=some .local)(C:CompScope X scope cl x ys js)(hc:X.calm=true)(hi:qZ X (.Name x px) iter di)(ht:∀fp s H,qM (Dh X scope cl (x::ys) fp s H) ifs (LT X.K dc))(he:∀fp s H,Gr (Dh X scope cl (x::ys) fp s H) elt de)(hs:∀x,Da iter X.env x=pure x:=by intro _; rfl)(hsw:Oa (.ListComp elt [⟨.Name x px,iter,ifs,0⟩] scope pos) (some (.Name y0 py)) spos.line X.env=pure true:=by rfl):zG X (.Assign [.Name y0 py] (.ListComp elt [⟨.Name x px,iter,ifs,0⟩] scope pos) spos) (wM (C5 di js dc de) (IT o i0)):=PS.impD (V1 hN hi0 hy0 C hc hi ht he hs hsw) (jO uA GU)
theorem w8{o:Bool}(hN:X.N.Nodup)(hi0:X.N[i0]? = some y0)(hy0:X.env.scope.names.lookup y0=some .local)(C:CompScope X scope cl x ys js)(own2:Zy scope x2)(nd2:(x::x2::ys).Nodup)(hc:X.calm=true)(hi:qZ X (.Tuple [.Name x px,.Name x2 px2] kt pt) iter di)(ht:∀fp s H,qM (Dh X scope cl (x::x2::ys) fp s H) ifs (LT X.K dc))(he:∀fp s H,Gr (Dh X scope cl (x::x2::ys) fp s H) elt de)(hs:∀x,Da iter X.env x=pure x:=by intro _; rfl)(hsw:Oa (.ListComp elt [⟨.Tuple [.Name x px,.Name x2 px2] kt pt,iter,ifs,0⟩] scope pos) (some (.Name y0 py)) spos.line X.env=pure true:=by rfl):zG X (.Assign [.Name y0 py] (.ListComp elt [⟨.Tuple [.Name x px,.Name x2 px2] kt pt,iter,ifs,0⟩] scope pos) spos) (wM (sZ di js dc de) (IT o i0)):=PS.impD (t8 hN hi0 hy0 C own2 nd2 hc hi ht he hs hsw) (jO qG GU)
end
end DL
namespace DL
open PySem PySem.Spec PyProof.Rows L2 Nd
section
variable{K:PySem.W.Frag}{H0 H H':Hp}{X:Addr->Prop}{n n':Nat}{E S T:List Ent}
theorem At.pushF(h:At K H0 X n E H){v:V}{d:Af}{F:List Addr}(r:RdF K H v d F)(nd:F.Nodup)(fr:∀a∈F,∀f∈E,a∉f.F)(f0:∀a∈F,H0 a=none):At K H0 X n (⟨some v,.dat .ow d,F⟩::E) H:=by
 refine h.push ⟨v,rfl,r,λ_=>nd,λz=>nomatch z⟩ (λf hf=>⟨λ_ a ha z=>fr a ha f hf z,λ_ a ha z=>fr a z f hf (Hu _ _ ha)⟩) λa ha=>.inl (f0 a ha)
theorem At.drawn(h:At K H0 X n E H){e:Ent}{dr:Addr}(he:e∈E)(hx:e.x=.drw)(hv:e.v=some (.ref dr))(s:aQ dr H H')(hd:∃c k f,qI H' dr c k f/\0<=k/\k<=(n':Int))(hn:n<=n'):At K H0 X n' E H':=by
 w_pre d9
 have hx':x=.drw:=hx
 subst hx'
 obtain ⟨dr',c0,k0,f0,hv',hF,hd0,_⟩:=h.ok _ he
 have e1:some (V.ref dr)=some (V.ref dr'):=hv.symm.trans hv'
 cases e1
 have hF':F=[dr]:=hF
 subst hF'
 refine ⟨λf hf=>?_,h.sep,h.new,λb o nx q=>?_,λb o q=>?_,λb hb=>?_⟩
 rotate_right
 ·obtain ⟨z,c,k,f,h1,h2,h3⟩:=h.xd b hb
  by_cases hbd:b=dr
  ·subst hbd
   exact ⟨z,hd⟩
  ·exact ⟨z,c,k,f,s _ _ hbd h1,h2,by omega⟩
 ·rcases sC h he hf with rfl | q
  ·obtain ⟨c,k,fl,h1,h2,h3⟩:=hd
   exact ⟨dr,c,k,fl,hv',rfl,h1,h2,h3⟩
  ·have nf:dr∉f.F:=q.1 (.inr rfl) dr Ab
   refine (h.ok f hf).kp (λb o eb z=>?_) hn
   by_cases hb:b=dr
   ·subst hb
    rcases z with z | z
    ·exact absurd z nf
    ·have hd0':H b=some (.lst _):=hd0
     rw[eb] at hd0'
     cases hd0'
     rcases z with ⟨_,z⟩ | ⟨_,_,z⟩ <;> cases z
   ·exact s b o hb eb
 ·have hb:b≠dr:=by
   rintro rfl
   rcases h.new _ he b Ab with z | z
   ·rw[z] at q; cases q
   ·exact nx z.1
  exact s b o hb (h.same b o nx q)
 ·by_cases hb:b=dr
  ·subst hb
   obtain ⟨c,k,fl,h1,_⟩:=hd
   exact ⟨_,h1⟩
  ·obtain ⟨o',z⟩:=h.dom b o q
   exact ⟨o',s b o' hb z⟩
end
abbrev PF:=List Af->(Af->Prop)->Prop
abbrev DF:=List Af->Nat->(Af->Nat->Prop)->Prop
def Rz(K:PySem.W.Frag)(pf:PF):Sp:=λus H Q _=>∃(As:List Ent) (n:Nat) (ds:List Af) (R:Af->Prop),As.map Ent.v=us.map some/\(∀e∈As,Iu K H n e)/\datas (As.map Ent.x)=some ds/\pf ds R /\
 ∀v d F H',R d->RdF K H' v d F->F.Nodup->(∀a∈F,H a=none)->Th H H'->Q v H'
def cN(K:PySem.W.Frag)(df:DF):Sp:=λus H Q _=>∃(dr:Addr) (ws:List V) (As:List Ent) (n:Nat) (ds:List Af) (R:Af->Nat->Prop),us=.ref dr::ws/\As.map Ent.v=ws.map some/\(∀e∈As,Iu K H n e)/\(∀e∈As,dr∉e.F)/\(∃c k f,qI H dr c k f/\0<=k/\k<=(n:Int))/\datas (As.map Ent.x)=some ds/\df ds n R /\
 ∀v d F n' H',n<=n'->R d n'->RdF K H' v d F->F.Nodup->(∀a∈F,H a=none)->(∃c k f,qI H' dr c k f/\0<=k/\k<=(n':Int))->aQ dr H H'->Q v H'
def F7(pf:PF)(da:DA):DE:=λδ P=>da δ λxs δ1=>match datas xs with
 | some ds=>pf ds λd=>P (.dat .ow d) δ1
 | none=>False
def qV(i:Nat)(df:DF)(da:DA):DE:=λδ P=>match δ.sl[i]? with
 | some .drw=>da δ λxs δ1=>match δ1.sl[i]? with
  | some .drw=>match datas xs with
   | some ds=>df ds δ1.n λd n'=>P (.dat .ow d) ⟨δ1.sl,n'⟩
   | none=>False
  | _=>False
 | _=>False
section
variable{X:Cx}{CX:yO}{k:Nat}{f:Addr}{fd:Cs}{ps:List Str}{pf:PF}{df:DF}{E:XK}{x:Str}{p pos:Pos}{e e0:Expr}{es:List Expr}{da:DA}
theorem Fs(F:FnOk X.prog X.w X.K X.mg X.base CX k f fd ps (Rz X.K pf))(hr:Room k X.A)(hg:Gl X x)(hm:X.mg x=some (.ref f))(hk:PySem.W.keepIn X.K (.ref f)=true)(hb:Binds X.K fd ps [])(hx:Sf CX X E)(ha:mB X (e::es) da)(hdb:(x == ("__debug__" : Str))=false:=by decide)(he:Bj (e::es) X.env=(false,eval e X.env)::Bj es X.env:=by rfl)(hpl:(Hh pos (Bj es X.env)).any (·.1)=false:=by rfl):Gr X (.Call (.Name x p) (e::es) [] pos) (F7 pf da):=by
 w_pre e1
 cases q:datas (As.map Ent.x) with
 | none=>rw[q] at p; exact p.elim
 | some ds =>
  rw[q] at p
  rw[Ec]
  refine ⟨As,δ'.n,ds,_,eu,λe he=>hA'.ok e (Ah _ (Ao _ he)),q,p,λv d F H'' r rd nd fr s=>?_⟩
  exact kk _ δ' v F S' H'' e1 e2 (((hA'.dropL.grow s (Aj _)).pushF rd nd (λa ha=>hA'.dropL.free (fr a ha)) (λa ha=>hA'.new0 (fr a ha))).tomid) r
theorem FJ(F:FnOk X.prog X.w X.K X.mg X.base CX k f fd ps (Rz X.K pf))(hr:Room k X.A)(hg:Gl X x)(hm:X.mg x=some (.ref f))(hk:PySem.W.keepIn X.K (.ref f)=true)(hb:Binds X.K fd ps [])(hx:Sf CX X E)(hdb:(x == ("__debug__" : Str))=false:=by decide):Gr X (.Call (.Name x p) [] [] pos) (F7 pf CT):=by
 refine PE.imp (q9 F hr hg hm hk hb .nil hx hdb) λσ H Q h=>?_
 w_pre f9
 show Rz X.K pf [] H Q E
 refine ⟨[],δ.n,[],_,rfl,λe he=>(nomatch he),rfl,hd,λv d F H'' r rd nd fr s=>?_⟩
 exact kk _ δ v F S H'' rfl hS (((hA.grow s (Aj _)).pushF rd nd (λa ha=>hA.free (fr a ha)) (λa ha=>hA.new0 (fr a ha))).tomid) r
theorem Il{i:Nat}(F:FnOk X.prog X.w X.K X.mg X.base CX k f fd ps (cN X.K df))(hr:Room k X.A)(hg:Gl X x)(hm:X.mg x=some (.ref f))(hk:PySem.W.keepIn X.K (.ref f)=true)(hb:Binds X.K fd ps [])(hx:Sf CX X E)(h0:PE X e0 (kH i))(ha:mB X es da)(hdb:(x == ("__debug__" : Str))=false:=by decide)(he:Bj (e0::es) X.env=(false,eval e0 X.env)::Bj es X.env:=by rfl)(hpl:(Hh pos (Bj es X.env)).any (·.1)=false:=by rfl):Gr X (.Call (.Name x p) (e0::es) [] pos) (qV i df da):=by
 refine PE.imp (bX F hr hg hm hk hb .nil hx (Hy h0 ha he) hdb he hpl) λσ H Q h=>?_
 w_pre f9
 unfold qV at hd
 w_pre w7
 case h_2=>exact hd.elim
 rename_i hsl0
 have main:∀w,(vs S)[i]? = some (some w)->LA X.K da (vs S) H λxs H2=>cN X.K df ((w::xs)++[]) H2 Q E:=λw hw=>by
  w_pre k9
  subst ex
  split at p
  ·rename_i hsl
   obtain ⟨ent,s1,s2⟩:=Nm e2 hsl
   have hm':ent∈S':=Bq s1
   have hv:ent.v=some w:=by
    have:=Tb s1
    rw[e1,hw] at this
    exact (Ca this).symm
   w_pre g4
   have hE:(⟨u,.drw,F⟩ : Ent)∈S'++(As++T):=Ao _ hm'
   obtain ⟨dr,c0,k0,f0,hv0,hF0,hd0,hk0,hk1⟩:=hA'.ok _ hE
   have ew:some w=some (V.ref dr):=hv.symm.trans hv0
   cases ew
   have hF':F=[dr]:=hF0
   subst hF'
   cases q:datas (As.map Ent.x) with
   | none=>rw[q] at p; exact p.elim
   | some ds =>
    rw[q] at p
    rw[Ec]
    refine ⟨dr,us,As,δ'.n,ds,_,rfl,eu,λe he=>hA'.ok e (Ah _ (Ao _ he)),λe he=>?_,⟨c0,k0,f0,hd0,hk0,hk1⟩,q,p,λv d F n' H'' hn r rd nd fr hdr s=>?_⟩
    ·rcases Cw.mp hA'.sep with ⟨_,_,hp⟩
     exact (hp _ hm' e (Ao _ he)).1 (.inr rfl) dr Ab
    ·have hA2:=hA'.dropL.drawn (Ao _ hm') rfl hv s hdr hn
     exact kk _ ⟨δ'.sl,n'⟩ v F S' H'' e1 e2 ((hA2.pushF rd nd (λa ha=>hA'.dropL.free (fr a ha)) (λa ha=>hA'.new0 (fr a ha))).tomid) r
  w_pre s8
 obtain ⟨ent,s1,s2⟩:=Nm hS hsl0
 have hm':ent∈S:=Bq s1
 w_pre g4
 obtain ⟨dr,c0,k0,f0,hv0,_⟩:=hA.ok _ (Ao _ hm')
 have hw:(vs S)[i]? = some (some (.ref dr)):=(Tb s1).trans (congrArg some hv0)
 exact ⟨_,hw,main _ hw⟩
def Ye:Sp:=λvs H Q _=>∃c:Int,vs=[.int c]/\∀(p:Addr) (c':Int) (f:Bool) (H':Hp),H p=none->qI H' p c' 0 f->Th H H'->Q (.ref p) H'
def K4(da:DA):DE:=λδ P=>da δ λxs δ1=>match xs with
 | [.dat _ (.int _)]=>P .drw δ1
 | _=>False
theorem w4(F:FnOk X.prog X.w X.K X.mg X.base CX k f fd ps Ye)(hr:Room k X.A)(hg:Gl X x)(hm:X.mg x=some (.ref f))(hk:PySem.W.keepIn X.K (.ref f)=true)(hb:Binds X.K fd ps [])(hx:Sf CX X E)(ha:mB X (e::es) da)(hdb:(x == ("__debug__" : Str))=false:=by decide)(he:Bj (e::es) X.env=(false,eval e X.env)::Bj es X.env:=by rfl)(hpl:(Hh pos (Bj es X.env)).any (·.1)=false:=by rfl):Gr X (.Call (.Name x p) (e::es) [] pos) (K4 da):=by
 refine PE.imp (bX F hr hg hm hk hb .nil hx ha hdb he hpl) λσ H Q h=>?_
 w_pre f9
 w_pre k9
 split at p
 ·obtain ⟨v,F,rfl,hA2⟩:=Hx eu hA' ex
  w_pre e9
  refine ⟨_,rfl,λq c' fl H'' nq hdr s=>?_⟩
  have h3:=hA2.drop.grow (n':=δ'.n) s (Aj _)
  refine kk _ δ' _ [q] S' H'' e1 e2 ((h3.push (e:=⟨some (.ref q),.drw,[q]⟩) ⟨q,_,0,fl,rfl,rfl,hdr,by decide,by omega⟩ (λf hf=>?_) λa ha=>?_).tomid) p
  ·have nf:=hA2.drop.free nq f hf
   refine ⟨λ_ a ha z=>?_,λ_ a ha z=>?_⟩
   ·rw[Al.mp ha] at z
    exact nf z
   ·rw[Al.mp z] at ha
    exact nf (Hu _ _ ha)
  ·rw[Al.mp ha]
   exact .inl (hA2.new0 nq)
 w_pre s8
end
def args0(ds:List Af)(k:Nat):List DV:=ds.map (λd=>.dat .sh d)++By k .un
def fU(e:Ent):Ent:=match e.x with
 | .dat _ d=>⟨e.v,.dat .sh d,e.F⟩
 | _=>e
theorem Lw:∀{xs:List DV} {ds:List Af},datas xs=some ds->xs.length=ds.length
 | [],ds,h=>by cases h; rfl
 | x::xs,ds,h=>by
  cases x with
  | dat m d =>
   cases q:datas xs with
   | none=>simp [datas,q] at h
   | some es =>
    simp [datas,q] at h
    subst h
    rw[Bl,Bl,Lw q]
  | _=>cases h
theorem Yq:∀{As:List Ent} {ds:List Af},datas (As.map Ent.x)=some ds->(As.map fU).map Ent.x=ds.map (λd=>.dat .sh d)
 | [],ds,h=>by cases h; rfl
 | ⟨v,x,F⟩::As,ds,h=>by
  rw[Ap] at h
  cases x with
  | dat m d =>
   cases q:datas (As.map Ent.x) with
   | none=>simp [datas,q] at h
   | some es =>
    simp [datas,q] at h
    subst h
    rw[Ap,Ap,Ap,Yq q]
    rfl
  | _=>cases h
theorem Zm:∀{As:List Ent} {ds:List Af},datas (As.map Ent.x)=some ds->∀e∈As,∃m d,e.x=.dat m d
 | [],ds,h,e,he=>nomatch he
 | ⟨v,x,F⟩::As,ds,h,e,he=>by
  rw[Ap] at h
  cases x with
  | dat m d =>
   cases q:datas (As.map Ent.x) with
   | none=>simp [datas,q] at h
   | some es =>
    w_pre l8
    ·exact ⟨m,d,rfl⟩
    ·exact Zm q e he
  | _=>cases h
theorem BF(As:List Ent):(As.map fU).map Ent.v=As.map Ent.v:=by
 rw[Cr]
 refine Py λe _=>?_
 w_pre h6
def Jz(k:Nat):List Ent:=By k ⟨none,.un,[]⟩
theorem kA{As:List Ent}{ds:List Af}(q:datas (As.map Ent.x)=some ds)(k:Nat):∀e∈As.map fU++Jz k,cells e=[]/\BO e.x=false:=λe he=>by
 w_pre t8
 ·obtain ⟨f,hf,rfl⟩:=Dc.mp he
  obtain ⟨m,d,hx⟩:=Zm q f hf
  w_pre d4
  exact ⟨rfl,rfl⟩
 ·rw[(Ih.mp he).2]
  exact ⟨rfl,rfl⟩
theorem Uo{α:Type}{R:α->α->Prop}:∀{l:List α},(∀a∈l,∀b∈l,R a b)->l.Pairwise R
 | [],_=>Ej
 | a::l,h=>Bd.mpr ⟨λb hb=>h a Ab b (Ac _ hb),Uo λx hx y hy=>h x (Ac _ hx) y (Ac _ hy)⟩
theorem zZ{K:PySem.W.Frag}{H:Hp}{n:Nat}{As:List Ent}{ds:List Af}(q:datas (As.map Ent.x)=some ds)(ok:∀e∈As,Iu K H n e)(k:Nat):∀e∈As.map fU++Jz k,Iu K H n e:=λe he=>by
 w_pre t8
 ·obtain ⟨f,hf,rfl⟩:=Dc.mp he
  obtain ⟨m,d,hx⟩:=Zm q f hf
  have o:=ok f hf
  w_pre d4
  obtain ⟨w,h1,h2,_⟩:=o
  exact ⟨w,h1,h2,λz=>(nomatch z),λz=>(nomatch z)⟩
 w_pre k7
theorem Qh{α β:Type}(f:α->β)(k:Nat)(a:α):(By k a).map f=By k (f a):=by
 rw[List.map_replicate]
def retE(R:Af->Prop):DEnds where
 nx:=λ_=>R .none
 rt:=λx _=>∃d,x=.dat .ow d/\R d
def retW(n:Nat)(R:Af->Nat->Prop):DEnds where
 nx:=λδ=>n<=δ.n/\R .none δ.n
 rt:=λx δ=>n<=δ.n/\∃d,x=.dat .ow d/\R d δ.n
section
variable{P:Bk}{w:World}{K:PySem.W.Frag}{mg:Str->Option Value}{base:Heap}
theorem Lo{x qual:Str}{st:Stmt}{f:Addr}{fd:Cs}{N ps:List Str}{k:Nat}{pf:PF}{db:DB}(F:Fun K x qual st f fd)(S:FnScope N ps (Bv st))(hb:∀(cdv:Value) (A:Ci) (outer:List Env) (s:Ai) (H:Hp) (E:XK),Room k (A.deeper (Td qual (Bv st) s.heap.objs.size f cdv))->dO (Nc Hv P w K mg base N qual (Bv st) f cdv A outer s H E).nox (Ky st) db)(h:∀ds R,pf ds R->ds.length=ps.length/\db (retE R) ⟨args0 ds (N.length - ps.length),0⟩):FnOk P w K mg base Hv (k+1) f fd ps (Rz K pf):=by
 w_pre f8
 ·obtain ⟨As,n,ds,R,eu,ok,q,hp,_⟩:=z
  w_pre l0
 ·obtain ⟨As,n,ds,R,eu,ok,q,hp,k1⟩:=z
  w_pre z0
  refine ⟨_,hb cdv A outer s H E hr,H,λ_=>False,As.map fU++Jz (N.length - ps.length),[],⟨args0 ds (N.length - ps.length),0⟩,retE R,?_,?_,λ_ z=>(nomatch z),?_,hd,λδ' S' H' e1 hA p=>?_,λx δ' v F' S' H' e1 hA p=>?_,λ_ _ _ _ _ p=>p.elim,λ_ _ _ _ _ p=>p.elim⟩
  w_pre s1
  ·rw[Ec]
   have hs:=kA q (N.length - ps.length)
   refine ⟨λe he=>?_,Uo λa ha b hb'=>⟨λhq c hc=>?_,λhq c hc=>?_⟩,λe he a ha=>?_,λb o _ e=>e,λb o e=>⟨o,e⟩,λb hb=>hb.elim⟩
   w_pre p0
   w_pre b5
   w_pre r9
  ·exact k1 .non .none [] H' p .non Ep (λ_ z=>(nomatch z)) λb o e=>hA.same b o (λz=>z) e
  ·obtain ⟨d,rfl,r⟩:=p
   w_pre p2
   refine k1 v d F' H' r rd (nd rfl) (λa ha=>?_) λb o e=>hA.same b o (λz=>z) e
   w_pre l7
   ·exact z.1.elim
theorem Vo{x qual:Str}{st:Stmt}{f:Addr}{fd:Cs}{N ps:List Str}{p0:Str}{k:Nat}{df:DF}{db:DB}(F:Fun K x qual st f fd)(S:FnScope N (p0::ps) (Bv st))(hb:∀(cdv:Value) (A:Ci) (outer:List Env) (s:Ai) (H:Hp) (E:XK),Room k (A.deeper (Td qual (Bv st) s.heap.objs.size f cdv))->dO (Nc Hv P w K mg base N qual (Bv st) f cdv A outer s H E).nox (Ky st) db)(h:∀ds n R,df ds n R->ds.length=ps.length/\db (retW n R) ⟨.drw::args0 ds (N.length - (p0::ps).length),n⟩):FnOk P w K mg base Hv (k+1) f fd (p0::ps) (cN K df):=by
 w_pre f8
 ·obtain ⟨dr,ws,As,n,ds,R,rfl,eu,ok,nd,hdr,q,hp,_⟩:=z
  have l1:=(h ds n R hp).1
  w_pre a2
  rw[Bl,Bl]
  omega
 ·obtain ⟨dr,ws,As,n,ds,R,rfl,eu,ok,ndr,hdr,q,hp,k1⟩:=z
  obtain ⟨l1,hd⟩:=h ds n R hp
  w_pre a2
  -- what the end tells of the draws: they stand in an old cell
  have ends:∀{E':List Ent} {n':Nat} {H':Hp},At K H (·=dr) n' E' H'->∀b o,b≠dr->H b=some o->H' b=some o:=λhA b o nb e=>hA.same b o nb e
  refine ⟨_,hb cdv A outer s H E hr,H,(·=dr),⟨some (.ref dr),.drw,[dr]⟩::(As.map fU++Jz (N.length - (p0::ps).length)),[],⟨.drw::args0 ds (N.length - (p0::ps).length),n⟩,retW n R,?_,?_,λ_ z=>(nomatch z),?_,hd,λδ' S' H' e1 hA p=>?_,λx δ' v F' S' H' e1 hA p=>?_,λ_ _ _ _ _ p=>p.elim,λ_ _ _ _ _ p=>p.elim⟩
  ·unfold vs L2.start Jz
   rw[Ap,Bo,BF,eu,Qh,Bl,Bl,show ws.length=ps.length by omega]
   rfl
  ·unfold Sl args0 Jz
   rw[Ap,Bo,Yq q,Qh]
  ·rw[Ec]
   have hs:=kA q (N.length - (p0::ps).length)
   have hsub:∀e∈As.map fU++Jz (N.length - (p0::ps).length),dr∉e.F:=λe he=>by
    w_pre t8
    ·obtain ⟨f,hf,rfl⟩:=Dc.mp he
     obtain ⟨v,x,F⟩:=f
     have:=ndr _ hf
     cases x <;> exact this
    ·rw[(Ih.mp he).2]
     exact Az
   refine ⟨λe he=>?_,Bd.mpr ⟨λb hb'=>⟨λhq c hc=>?_,λhq c hc=>?_⟩,Uo λa ha b hb'=>⟨λhq c hc=>?_,λhq c hc=>?_⟩⟩,λe he a ha=>?_,λb o _ e=>e,λb o e=>⟨o,e⟩,λb hb=>?_⟩
   rotate_right
   ·subst hb
    obtain ⟨c,kk,fl,z1,z2⟩:=hdr
    exact ⟨λz=>(by rw[show H b=some _ from z1] at z; cases z),c,kk,fl,z1,z2⟩
   ·rcases Ak.mp he with rfl | he
    ·obtain ⟨c,kk,fl,z1,z2,z3⟩:=hdr
     exact ⟨dr,c,kk,fl,rfl,rfl,z1,z2,z3⟩
    ·exact zZ q ok _ e he
   ·rw[Al.mp hc]
    exact hsub b hb'
   ·rw[(hs b hb').1] at hc; cases hc
   w_pre b5
   ·rcases Ak.mp he with rfl | he
    ·rw[Al.mp ha]
     exact .inr ⟨rfl,rfl⟩
    w_pre r9
  ·exact k1 .non .none [] δ'.n H' p.1 p.2 .non Ep (λ_ z=>(nomatch z)) (hA.xd dr rfl).2 (ends hA)
  ·obtain ⟨hn,d,rfl,r⟩:=p
   w_pre p2
   refine k1 v d F' δ'.n H' hn r rd (nd rfl) (λa ha=>?_) (hA.xd dr rfl).2 (ends hA)
   w_pre l7
   ·cases z.2
end
end DL
namespace L2
open PySem PySem.Spec PyProof.Rows
theorem xG{P:Bk}{w:World}{K:PySem.W.Frag}{mg mb:Str->Option Value}{CX:yO}{k:Nat}{fa a:Addr}{fd:Cs}{x:Str}{sp:Sp}{s₁:Ai}{vs:List Value}{ns:List Int}(KX:K.In s₁.heap)(hns:s₁.heap.Ns Dl mg)(hb:s₁.heap.Ns builtinsNs mb)(hbb:∀x:Str,x ≠ "__name__" -> mb x=Os x)(hlim:s₁.heap.NoLimit)(hg:s₁.gens=#[])(ha:s₁.heap.get? a=some { cls:=.type "list",data:=.seq vs.toArray })(hi:Fp vs ns)(hl:ns.length<=Ay)(hr:Room k callerA)(F:∀base:Heap,K.In base->base.Ns Dl mg->FnOk P w K mg base CX k fa fd [x] sp)(hbind:∀(s:Ai) (u:Value),BindsTo s fd ⟨[u],[]⟩ [(x,u)])(hsp:∀H:Hp,AJ H->DL.KL K H a (ns.map V.int)->sp [.ref a] H (λv _=>v=.bl true) λ_ _ _=>False)(hCX:∀H e s',CX [] H s₁ (λ_ _ _=>False) e s'->False):Hb (model P w) callerA (.call (.ref fa) ⟨[.ref a],[]⟩) (λr s'=>r=.ok (.ret (.bool true))/\OldK s₁.heap s'.heap/\s'.os=s₁.os/\Xm s'.gens) s₁:=by
 have rv:=gQ hi
 have lenV:=hi.length
 -- from an abstract heap in which nothing but the script may be tracked
 have core:∀H:Hp,AJ H->DL.KL K H a (ns.map V.int)->Wi P w H s₁.heap->(∀b,H b≠none->b=a)->(H a≠none->K.lookup a=none) ->
   Hb (model P w) callerA (.call (.ref fa) ⟨[.ref a],[]⟩) (λr s'=>r=.ok (.ret (.bool true))/\OldK s₁.heap s'.heap/\s'.os=s₁.os/\Xm s'.gens) s₁:=by
  intro H hO hS hok hA hK
  have base_of:∀{b:Addr} {o:Obj},s₁.heap.get? b=some o->H b=none->(lH s₁.heap H).get? b=some o:=λe n=>D0 e n
  have noA:∀{b:Addr} {o:Obj} {es:Array Kg} {ep:Nat},s₁.heap.get? b=some o->o.data=.dict es ep->H b=none:=λ{b o es ep} e d=>by
   cases q:H b with
   | none=>rfl
   | some u =>
    have e':b=a:=hA b (by rw[q]; simp)
    subst e'
    rw[ha] at e; cases e
    have d':Data.seq vs.toArray _=Data.dict es ep:=d
    cases d'
  have nsK:∀{b:Addr} {m:Str->Option Value},s₁.heap.Ns b m->(lH s₁.heap H).Ns b m:=λ{b m} ⟨o,es,ep,e,d,r⟩=>⟨o,es,ep,base_of e (noA e d),d,r⟩
  have hKb:K.In (lH s₁.heap H):=λb o e=>base_of (KX b o e) (by
   cases q:H b with
   | none=>rfl
   | some u =>
    have e':b=a:=hA b (by rw[q]; simp)
    subst e'
    rw[hK (by rw[q]; simp)] at e; cases e)
  have hM:Mod K mg (lH s₁.heap H):=⟨hKb,nsK hns,⟨mb,nsK hb,hbb⟩,let ⟨mc,h1,h2⟩:=hlim; ⟨mc,nsK h1,h2⟩⟩
  have e0:Env0 P w K mg (lH s₁.heap H) callerA [] s₁ H:=⟨rfl,hM,λb o e=>S8 e,Nat.le_of_eq (yE _ _),trivial,λb hb=>absurd (show b∈([]:List Addr) from hb) (by simp),hok,.of_eq hg⟩
  refine Oq ((F _ hKb (nsK hns)).run callerA [] s₁ H ⟨[.ref a],[]⟩ [.ref a] [.ref a] _ _ hr e0 (hbind s₁ (.ref a)) (.cons rfl .nil) (hsp H hO hS)) λr s' h=>?_
  cases r with
  | error e=>exact (hCX H e s' h).elim
  | ok fl =>
   cases fl with
   | next=>exact Le h
   | brk=>exact Le h
   | cont=>exact Le h
   | ret u =>
    obtain ⟨v,H',os,bare,un,hok',r',q⟩:=h
    have q':v=.bl true:=q
    subst q'
    obtain rfl:u=Value.bool true:=r'
    refine ⟨rfl,OldK.of_keep λb o e=>?_,os,bare⟩
    cases q:H b with
    | none=>exact un.keep b o e q (by intro z; exact absurd (show b∈([]:List Addr) from z) (by simp)) (by simp)
    | some u =>
     rcases hO b with z | ⟨ob,xs,z⟩
     ·rw[q] at z; cases z
     ·have z2:=un.frzs b ob _ z
      obtain ⟨e1,_⟩:=hok b _ z
      obtain ⟨e2,_⟩:=hok' b _ z2
      rw[e] at e1; cases e1
      exact e2
 cases hk:K.lookup a with
 | some o =>
  -- the script is one of the module's own objects
  have e:=KX a o hk
  rw[ha] at e
  cases e
  refine core (λ_=>none) (λ_=>.inl rfl) (.inr ⟨vs.toArray,_,hk,by rw[Av,lenV]; exact hl,by simpa using rv⟩) (λb u z=>by have z':(none:Option HO)=some u:=z; cases z') (λb z=>absurd rfl z) λz=>absurd rfl z
 | none =>
  refine core (λb=>if b=a then some (.frz { cls:=.type "list",data:=.seq vs.toArray } (.lst (ns.map V.int))) else none) (λb=>?_) (.inl ⟨{ cls:=.type "list",data:=.seq vs.toArray },if_pos rfl⟩) (λb u z=>?_) (λb z=>?_) λ_=>hk
  ·by_cases hb:b=a
   ·exact .inr ⟨_,_,if_pos hb⟩
   ·exact .inl (if_neg hb)
  ·by_cases hb:b=a
   ·have z':=(if_pos hb).symm.trans z
    cases z'
    subst hb
    exact ⟨ha,by rw[Ad]; exact hl,vs,_,rv,ha⟩
   ·have z':=(if_neg hb).symm.trans z
    cases z'
  ·by_cases hb:b=a
   ·exact hb
   ·exact absurd (if_neg hb) z
theorem walk_ofD{l:PySem.W.OpenLaw}{n k:Nat}{q:Bk}{loose:List Str}{XP:(Str->Option Value)->Heap->Prop}{YP:World->Heap->Prop}{d:DefRec}{K:Params->PySem.W.Frag}{CX:World->yO}{sp:World->Sp}{x:Str}(hn:l.most=some n)(hn2:n<=Ay)(hdf:d.params.defaults=[])(hr:Room k callerA)(hY:∀(w:World) (h:Heap),YP w h->(K w.params).In h)(F:∀(w:World) (mg:Str->Option Value) (fa:Addr) (h:Heap),(K w.params).In h->h.Ns Dl mg->mg d.name=some (.ref fa)->∃fd:Cs,(∀(s:Ai) (u:Value),BindsTo s fd ⟨[u],[]⟩ [(x,u)])/\∀base:Heap,(K w.params).In base->base.Ns Dl mg->FnOk l.prog w (K w.params) mg base (CX w) k fa fd [x] (sp w))(hsp:∀(w:World) (H:Hp) (a:Addr) (ns:List Int),ns.length<=n->AJ H->DL.KL (K w.params) H a (ns.map V.int)->sp w [.ref a] H (λv _=>v=.bl true) λ_ _ _=>False)(hCX:∀(w:World) (H:Hp) (s:Ai) (e:Value) (s':Ai),CX w [] H s (λ_ _ _=>False) e s'->False):PySem.W.WalkO q loose XP YP l.row.toRowW d [] (λf vs=>PySem.call f vs):=by
 refine Att.attach_call hn hdf λw s₀ s₁ mg mb fa o pm cd doc a vs ns G Y ho hd hcd hmg hobj hints hlen hg=>?_
 have KX:=hY w _ Y
 obtain ⟨fd,hb,hF⟩:=F w mg fa _ KX G.T.g hmg
 exact xG KX G.T.g G.T.b G.T.builtins G.T.nolimit hg hobj hints (Cb hlen hn2) hr hF hb (λH hO hS=>hsp w H a ns hlen hO hS) λH e s'=>hCX w H s₁ e s'
end L2
namespace DL
open PySem PySem.Spec PyProof.Rows L2 Nd
def npk:List DV->Bool
 | []=>true
 | .dat .pk _::_=>false
 | _::xs=>npk xs
theorem G9:∀{S:List Ent} {sl:List DV},S.map Ent.x=sl->npk sl=true->∀e∈S,Tf e.x=false
 | [],_,_,_,e,he=>nomatch he
 | ⟨v,x,F⟩::S,_,h,hn,e,he=>by
  subst h
  rw[Ap] at hn
  have : Tf x=false/\npk (S.map Ent.x)=true:=by
   cases x with
   | dat m d=>cases m <;> first | exact ⟨rfl,hn⟩ | cases hn
   | _=>exact ⟨rfl,hn⟩
  w_pre l8
  ·exact this.1
  ·exact G9 rfl this.2 e he
def own1:Md->Bool
 | .ow=>true
 | .tp=>true
 | _=>false
section
variable{K:PySem.W.Frag}{H0 H:Hp}{X:Addr->Prop}{n:Nat}{E:List Ent}
theorem At.write{v:Option V}{m:Md}{ds es:List Af}{a:Addr}{F G:List Addr}{ys:List V}(h:At K H0 X n (⟨v,.dat m (.list ds),a::F⟩::E) H)(ho:own1 m=true)(hv:v=some (.ref a))(np:∀e∈E,Tf e.x=false)(r:RdFs K H ys es G)(hG:G.Sublist F)(hz:es.length<=Ay):At K H0 X n (⟨v,.dat m (.list es),a::G⟩::E) (upd H a (.lst ys)):=by
 obtain ⟨w,e1,rd,hn,ht⟩:=h.ok _ Ab
 obtain ⟨b,xs,G0,e2,ha,ra,eF,_⟩:=rd.list_inv
 have eF':a::F=b::G0:=eF
 cases eF'
 have hs:=Bd.mp h.sep
 have naF:a∉F:=by
  cases m with
  | ow=>exact (Cm.mp (hn rfl)).1
  | tp=>exact ht rfl a F rfl
  | sh=>cases ho
  | pk=>cases ho
 have ca:a∈cells ⟨v,.dat m (.list ds),a::F⟩:=by
  cases m <;> first | exact Ab | cases ho
 have kp:∀{F':List Addr},a∉F'->Kp F' H (upd H a (.lst ys)):=λ{F'} hF b o q z=>by
  have : b≠a:=by
   rintro rfl
   rw[ha] at q
   cases q
   rcases z with z | z
   ·exact hF z
   ·rcases z with ⟨_,z⟩ | ⟨_,_,z⟩ <;> cases z
  rw[Dw this]
  exact q
 have n0:H0 a=none:=by
  rcases h.new _ Ab a ca with z | z
  ·exact z
  ·cases z.2
 have cs:∀c∈cells ⟨v,.dat m (.list es),a::G⟩,c∈cells ⟨v,.dat m (.list ds),a::F⟩:=λc hc=>by
  cases m with
  | ow =>
   w_pre f3
  | tp=>exact hc
  | sh=>cases ho
  | pk=>cases ho
 have hsub:∀c∈a::G,c∈a::F:=λc hc=>by
  w_pre f3
 have naG:a∉G:=λz=>naF (hG.subset z)
 w_pre p9
 ·rcases Ak.mp hf with rfl | hf
  ·refine ⟨.ref a,hv,.lst Du hz (r.kp (kp naG)),λz=>?_,λz c l e=>?_⟩
   ·exact Cm.mpr ⟨naG,(Cm.mp (hn z)).2.sublist hG⟩
   ·cases e
    exact naG
  ·exact (h.ok f (Ac _ hf)).kp (kp ((hs.1 f hf).1 (.inl (np f hf)) a ca)) (Aj _)
 ·refine Bd.mpr ⟨λf hf=>⟨λhq c hc=>(hs.1 f hf).1 (.inl (np f hf)) c (cs c hc),λhq c hc z=>(hs.1 f hf).2 (.inl ?_) c hc (hsub c z)⟩,hs.2⟩
  cases m <;> first | rfl | cases ho
 ·rcases Ak.mp hf with rfl | hf
  ·exact λc hc=>h.new _ Ab c (cs c hc)
  ·exact h.new f (Ac _ hf)
 ·rw[Dw (Gx q n0)]
  exact h.same b o nx q
 ·rw[Dw (Gx q n0)]
  exact h.dom b o q
 ·obtain ⟨z,c,k,f,h1,h2⟩:=h.xd b hb
  refine ⟨z,c,k,f,(Dw ?_).trans h1,h2⟩
  rintro rfl
  exact z n0
end
theorem Ng{α:Type}:∀{l:List α} {i:Nat} {x:α},l[i]? = some x->l.Perm (x::l.eraseIdx i)
 | [],i,x,h=>by simp at h
 | z::l,0,x,h=>by
  simp at h
  subst h
  exact Gi _
 | z::l,i+1,x,h=>by
  have ih:=Ng (l:=l) (i:=i) (x:=x) (by simpa using h)
  rw[Tj]
  exact (ih.cons z).trans (Ek x z _)
theorem wZ{α:Type}{l:List α}{i:Nat}{x y:α}(h:l[i]? = some x):(l.set i y).Perm (y::l.eraseIdx i):=by
 have hlt:=(Ax.mp h).1
 have q:=Ng (l:=l.set i y) (i:=i) (x:=y) (by rw[Rt]; simp [hlt])
 rw[List.eraseIdx_set_eq] at q
 exact q
theorem Ws{K:PySem.W.Frag}{H0 H:Hp}{X:Addr->Prop}{S T:List Ent}{δ:DS}{i:Nat}{m:Md}{ds es:List Af}(hS:Sl S δ)(hT:∀e∈T,Tf e.x=false)(hA:At K H0 X δ.n (S++T) H)(hi:δ.sl[i]? = some (.dat m (.list ds)))(ho:own1 m=true)(np:npk δ.sl=true):∃a xs G,(vs S)[i]? = some (some (.ref a))/\H a=some (.lst xs)/\RdFs K H xs ds G/\ds.length<=Ay/\∀ys G',RdFs K H ys es G'->G'.Sublist G->es.length<=Ay->∃S',vs S'=vs S/\Sl S' ⟨δ.sl.set i (.dat m (.list es)),δ.n⟩/\At K H0 X δ.n (S'++T) (upd H a (.lst ys)):=by
 w_pre q3
 have e3':x=.dat m (.list ds):=e3
 subst e3'
 obtain ⟨v,hv,rd,_⟩:=hA.ok _ (Ao _ hm)
 obtain ⟨a,xs,G,rfl,ha,ra,eF,hz⟩:=rd.list_inv
 have eF':F=a::G:=eF
 subst eF'
 refine ⟨a,xs,G,by rw[Tb e2]; exact congrArg some hv,ha,ra,hz,λys G' r hG hz'=>?_⟩
 have hn:=G9 hS np
 have pm:(S++T).Perm (⟨u,.dat m (.list ds),a::G⟩::(S.eraseIdx i++T)):=by
  exact (Ng e2).append_right T
 have h1:=(hA.perm pm).write (es:=es) (ys:=ys) ho hv (λe he=>?_) r hG hz'
 ·refine ⟨S.set i ⟨u,.dat m (.list es),a::G'⟩,?_,?_,h1.perm ?_⟩
  w_pre g
  ·exact ((wZ e2).append_right T).symm
 ·rcases Bc.mp he with he | he
  ·exact hn e ((List.eraseIdx_sublist S i).subset he)
  ·exact hT e he
def kY(i:Nat)(de:DE):DB:=λD δ=>match δ.sl[i]? with
 | some (.dat _ (.list _))=>de δ λy δ1=>match δ1.sl[i]?,y with
  | some (.dat m (.list ds)),.dat _ e=>own1 m=true/\npk δ1.sl=true/\imm e=true/\ds.length<1000000/\D.nx ⟨δ1.sl.set i (.dat m (.list (ds++[e]))),δ1.n⟩
  | _,_=>False
 | _=>False
section
variable{X:Cx}{o e:Expr}{de:DE}{apos cpos pos:Pos}{i:Nat}
theorem Vr(ho:PE X o (kH i))(he:Gr X e de)(hbase:Vu o "append" X.env (eval o X.env)=eval o X.env:=by rfl)
  (hfew:((Hh cpos (Bj [e] X.env)).all (λx=>!x.1) && (backToKw cpos (bD [] X.env)).all (λx=>x.1.isSome)
   && decide (([e]:List Expr).length+([]:List Uy).length+(if ([]:List Uy).isEmpty then 0 else 1)<30))=true:=by rfl)
  (hline:(apos.endLine == cpos.line)=true:=by rfl) (hs:Bj [e] X.env=(false,eval e X.env)::Bj [] X.env:=by rfl) (hplain:(Hh cpos (Bj [] X.env)).any (·.1)=false:=by rfl)
  (hsw:Oa (.Call (.Attribute o "append" apos) [e] [] cpos) none pos.line X.env=pure false:=by rfl) :
  zG X (.Expr (.Call (.Attribute o "append" apos) [e] [] cpos) pos) (kY i de):=by
 refine PS.impD (tT (Z1 PySem.F.plainAttrs_list PySem.F.slot_list_append PySem.F.type_list_append Pc ho (Hy he Oh hs) hbase hfew hline hs hplain) hsw) λD σ H h=>?_
 w_pre q7
 unfold kY at hd
 w_pre w7
 case h_2=>exact hd.elim
 w_pre w
 refine ⟨.ref a,by rw[Tb e2]; exact congrArg some hv,.inl ⟨rfl,xs,Mp.of ha⟩,H0,Y,S,T,δ,_,rfl,hS,hA,hd,λy δ1 w F1 S1 H1 e4 e5 hA1 p1=>?_⟩
 split at p1
 ·rename_i m ds m' e' hsl1
  obtain ⟨p1,p2,p3,p4,p5⟩:=p1
  have r:=hA1.told mem_mid
  obtain rfl:=r.imm p3
  obtain ⟨b,xs1,G1,g1,g2,g3,g4,g5⟩:=Ws (es:=ds++[e']) e5 hT hA1.drop hsl1 p1 p2
  rw[e4,Tb e2] at g1
  w_pre c6
  obtain ⟨S2,h1,h2,h3⟩:=g5 (xs1++[w]) (G1++[]) (g3.snoc r) (by rw[Ec]; exact Co _) (by rw[Bn]; exact pF (by simp; omega))
  have hl:=g3.len
  refine ⟨a,xs1,w,rfl,rfl,g2,Cj (by omega) (pF (n:=1000000) (Aj _)),?_⟩
  rw[<- e4,<- h1]
  exact k1 ⟨_,_⟩ S2 _ h2 h3 p5
 w_pre y8
end
theorem RdFs.setI{K:PySem.W.Frag}{H:Hp}:∀{xs:List V} {ds:List Af} {j:Nat} {v:V} {e:Af},RdFs K H xs ds []->RdF K H v e []->RdFs K H (xs.set j v) (ds.set j e) []:=by
 have main:∀{xs:List V} {ds:List Af} {F:List Addr} {j:Nat} {v:V} {e:Af},RdFs K H xs ds F->F=[]->RdF K H v e []->RdFs K H (xs.set j v) (ds.set j e) []:=by
  intro xs ds F j v e h
  induction j generalizing xs ds F with
  | zero =>
   intro hF r
   cases h with
   | nil=>exact .nil
   | cons a t =>
    w_pre e10
    exact RdFs.cons (F:=[]) r t
  | succ j ih =>
   intro hF r
   cases h with
   | nil=>exact .nil
   | cons a t =>
    w_pre e10
    exact RdFs.cons (F:=[]) a (ih t rfl r)
 intro xs ds j v e h r
 exact main h rfl r
def spLawD(K:PySem.W.Frag):Sp:=λus H Q _=>∃(a:Addr) (ns:List Int),us=[.ref a]/\KL K H a (ns.map V.int)/\ns.length<=63/\∀H',Q (.bl true) H'
def retL:DEnds where
 nx:=λ_=>False
 rt:=λx _=>∃m,x=.dat m (.bool true)
section
variable{P:Bk}{w:World}{K:PySem.W.Frag}{mg:Str->Option Value}{base:Heap}
theorem BD{x qual p0:Str}{st:Stmt}{f:Addr}{fd:Cs}{N:List Str}{k:Nat}{db:DB}(F:Fun K x qual st f fd)(S:FnScope N [p0] (Bv st))(hb:∀(cdv:Value) (A:Ci) (outer:List Env) (s:Ai) (H:Hp) (E:XK),Room k (A.deeper (Td qual (Bv st) s.heap.objs.size f cdv))->dO (Nc Hv P w K mg base N qual (Bv st) f cdv A outer s H E).nox (Ky st) db)(h:∀ns:List Int,ns.length<=63->db retL ⟨.scr ns::By (N.length - 1) .un,0⟩):FnOk P w K mg base Hv (k+1) f fd [p0] (spLawD K):=by
 w_pre f8
 ·obtain ⟨a,ns,rfl,_⟩:=z
  rfl
 ·obtain ⟨a,ns,rfl,hK,h63,k1⟩:=z
  refine ⟨_,hb cdv A outer s H E hr,H,λ_=>False,⟨some (.ref a),.scr ns,[]⟩::Jz (N.length - 1),[],⟨.scr ns::By (N.length - 1) .un,0⟩,retL,?_,?_,λ_ z=>(nomatch z),?_,h ns h63,λδ' S' H' e1 hA p=>p.elim,λx δ' v F' S' H' e1 hA p=>?_,λ_ _ _ _ _ p=>p.elim,λ_ _ _ _ _ p=>p.elim⟩
  ·unfold vs L2.start Jz
   rw[Ap,Qh]
   rfl
  ·unfold Sl Jz
   rw[Ap,Qh]
  ·rw[Ec]
   have hc:∀e∈(⟨some (.ref a),.scr ns,[]⟩::Jz (N.length - 1):List Ent),cells e=[]:=λe he=>by
    w_pre l8
    ·rfl
    ·rw[(Ih.mp he).2]
     rfl
   refine ⟨λe he=>?_,Uo λa ha b hb'=>⟨λhq c z=>?_,λhq c z=>?_⟩,λe he a ha=>?_,λb o _ e=>e,λb o e=>⟨o,e⟩,λb hb=>hb.elim⟩
   ·rcases Ak.mp he with rfl | he
    ·exact ⟨a,rfl,rfl,hK,h63⟩
    w_pre k7
   ·rw[hc a ha] at z; cases z
   ·rw[hc b hb'] at z; cases z
   ·rw[hc e he] at ha; cases ha
  ·obtain ⟨m,rfl⟩:=p
   rw[show S'++[(⟨some v,.dat m (.bool true),F'⟩ : Ent)]=S'++⟨some v,.dat m (.bool true),F'⟩::[] from rfl] at hA
   obtain ⟨rfl,_⟩:=(hA.told mem_mid).bl_inv
   exact k1 H'
end
def rM(i:Nat)(dl dh:DO):DE:=λδ P=>match δ.sl[i]? with
 | some (.scr ns)=>dl δ λl δ2=>dh δ2 λh δ3=>P (.dat .ow (.list ((Mi ns l h).map Aw))) δ3
 | _=>False
section
variable{X:Cx}{e b:Expr}{de:DE}{lo hi:Option Expr}{dl dh:DO}{pos p2:Pos}{i:Nat}
theorem BS{K:PySem.W.Frag}{H0 H:Hp}{Y:Addr->Prop}{S T:List Ent}{δ:DS}{ns:List Int}(hS:Sl S δ)(hA:At K H0 Y δ.n (S++T) H)(hi:δ.sl[i]? = some (.scr ns)):∃a,(vs S)[i]? = some (some (.ref a))/\(⟨some (.ref a),.scr ns,[]⟩ : Ent)∈S/\KL K H a (ns.map V.int)/\ns.length<=63:=by
 w_pre q3
 have e3':x=.scr ns:=e3
 subst e3'
 obtain ⟨a,h1,h2,h3⟩:=hA.ok _ (Ao _ hm)
 have h1':u=some (.ref a):=h1
 have h2':F=[]:=h2
 subst h1' h2'
 exact ⟨a,by rw[Tb e2],hm,h3⟩
theorem zV(he:PE X e (kH i))(hl:EI X lo dl)(hh:EI X hi dh):Gr X (.Subscript e (.Slice lo hi none p2) pos) (rM i dl dh):=by
 refine PE.imp (nA (r:=CY X.K) O2 he hl hh) λσ H Q h=>?_
 w_pre k8
 unfold rM at hd
 w_pre w7
 case h_2=>exact hd.elim
 rename_i ns hsl
 obtain ⟨a,ha,hm,hK,h63⟩:=BS hS hA hsl
 have hA0:At X.K H0 Y δ.n (S++⟨some (.ref a),.scr ns,[]⟩::T) H:=(At.view1 hA (Ao _ hm)).tomid
 refine ⟨.ref a,ha,H0,Y,S,⟨some (.ref a),.scr ns,[]⟩::T,δ,_,rfl,hS,hA0,hd,λl δ2 S2 H2 e3 e4 hA2 p2=>?_⟩
 refine ⟨H0,Y,S2,⟨some (.ref a),.scr ns,[]⟩::T,δ2,_,e3,e4,hA2,p2,λh δ3 S3 H3 e5 e6 hA3 p3=>?_⟩
 obtain ⟨a',h1,_,hK3,_⟩:=hA3.ok _ mem_mid
 cases h1
 refine ⟨a,_,rfl,hK3.sq,λp hp=>?_⟩
 have : cP (ns.map V.int) l h=(Mi ns l h).map V.int:=by
  rw[<- Tr]; rfl
 rw[this]
 refine k _ δ3 _ _ S3 _ e5 e6 (hA3.drop.newI (RdFs.ints _) (Nv _) ?_ hp .ow) p3
 rw[Ad]
 have l1:=(Yo ns l h).length_le
 exact sz (by omega)
end
def HY(i j:Int):Prop:=0<=j/\(Builtin.Int.intBits i:Int) * j<=2 ^ 27
theorem O1{X:Cx}:Ze X (Jp .Pow) (rI HY λi j=>.int (i ^ j.toNat)):=HB λ_ _ _ _ _ _ _ hc q=>pow_int hc.1 hc.2 q
def Wt:DF:=λds n R=>ds=[]/\n<=100000/\∀r:Int,R (.int r) (n+1)
theorem O0{P:Bk}{w:World}{K:PySem.W.Frag}{mg:Str->Option Value}{base:Heap}{k:Nat}{f:Addr}{fd:Cs}{ps:List Str}(F:FnOk P w K mg base Hv k f fd ps C6):FnOk P w K mg base Hv k f fd ps (cN K Wt):=by
 refine F.imp λus H Q E h=>?_
 obtain ⟨dr,ws,As,n,ds,R,rfl,eu,ok,nd,⟨c,kk,fl,hdr,h0,h1⟩,q,hp,k1⟩:=h
 obtain ⟨rfl,hn,hR⟩:=hp
 have hAs:As=[]:=by
  have:=Lw q
  rw[Ad] at this
  exact Ms.mp this
 subst hAs
 have hws:ws=[]:=by
  cases ws with
  | nil=>rfl
  | cons _ _=>cases eu
 subst hws
 refine ⟨dr,c,kk,fl,rfl,hdr,h0,by omega,λr c' H' hd' s=>?_⟩
 exact k1 (.int r) (.int r) [] (n+1) H' (by omega) (hR r) (.int r) Ep (λ_ z=>(nomatch z)) ⟨c',kk+1,fl,hd',by omega,by omega⟩ s
def C8:PF:=λds R=>∃a b:List Int,ds=[Bf a,Bf b]/\Do 60 a/\Do 60 b/\R (Bf (Pl (a++b)))
theorem Wv{ns:List Int}(r:Do 60 ns):ns.length<=60:=Cb (NdS.len_leI (r.1.imp λ{x y} h=>Int.ne_of_lt h) λe he=>Yc (r.2 e he).1 (r.2 e he).2) (by decide)
theorem pG{K:PySem.W.Frag}{H:Hp}{v:V}{F:List Addr}{ns:List Int}(r:RdF K H v (Bf ns) F):∃a,v=.ref a/\H a=some (.tup (ns.map V.int)):=by
 obtain ⟨a,xs,rfl,ha,ra,_⟩:=RdF.tup_inv (ds:=ns.map Aw) r
 w_pre a10
 exact ⟨a,rfl,ha⟩
theorem N4{K:PySem.W.Frag}{H:Hp}{a:Addr}{ns:List Int}(h:H a=some (.tup (ns.map V.int)))(l:ns.length<=1000000):RdF K H (.ref a) (Bf ns) []:=.tup h (by rw[Ad]; exact pF l) (RdFs.ints ns)
theorem n8{K:PySem.W.Frag}{H:Hp}{n:Nat}{As:List Ent}{us:List V}{d1 d2:Af}(eu:As.map Ent.v=us.map some)(ok:∀e∈As,Iu K H n e)(q:datas (As.map Ent.x)=some [d1,d2]):∃v1 v2 F1 F2,us=[v1,v2]/\RdF K H v1 d1 F1/\RdF K H v2 d2 F2:=by
 have r:=Yw eu q ok
 generalize As.flatMap Ent.F=G0 at r
 cases r with
 | cons a t =>
  cases t with
  | cons b t =>
   cases t
   exact ⟨_,_,_,_,rfl,a,b⟩
section
variable{P:Bk}{w:World}{K:PySem.W.Frag}{mg:Str->Option Value}{base:Heap}{k:Nat}{f:Addr}{fd:Cs}{ps:List Str}
theorem AS(F:FnOk P w K mg base Hv k f fd ps (Y7 K)):FnOk P w K mg base Hv k f fd ps (Rz K C8):=by
 refine F.imp λus H Q E h=>?_
 obtain ⟨As,n,ds,R,eu,ok,q,hp,k1⟩:=h
 obtain ⟨a,b,rfl,ra,rb,hR⟩:=hp
 obtain ⟨v1,v2,F1,F2,rfl,r1,r2⟩:=n8 eu ok q
 obtain ⟨p1,rfl,h1⟩:=pG r1
 obtain ⟨p2,rfl,h2⟩:=pG r2
 refine ⟨p1,p2,a,b,rfl,Rq.of h1,Rq.of h2,ra,rb,λr ts H' nr er nd pw mem s=>?_⟩
 have e:ts=Pl (a++b):=uG (Zq nd pw) mem
 subst e
 refine k1 (.ref r) _ [] H' hR (N4 er ?_) Ep (λ_ z=>(nomatch z)) s
 have:=oN (ns:=a++b) (λx hx=>by
  w_pre v8
  ·exact ra.2 x z
  ·exact rb.2 x z)
 omega
end
def Mw{α:Type}(xs:List α)(k:Nat)(y:α):List α:=xs.take k++y::xs.drop k
def S5:V->List V->Hp->VK->Prop:=λx us H Q=>∃(l:Addr) (xs:List V) (k:Int) (y:V),x=.ref l/\us=[.int k,y]/\H l=some (.lst xs)/\xs.length<Ay/\0<=k/\k<=1000000/\Q .non (upd H l (.lst (Mw xs k.toNat y)))
theorem sL{k:Int}(h0:0<=k)(h1:k<=1000000):Ol k=true:=by
 unfold Ol
 simp
 omega
theorem xB{α:Type}(xs:List α)(k:Nat)(y:α):Mw xs (min k xs.length) y=Mw xs k y:=by
 unfold Mw
 w_pre n7
 ·rw[fK (by omega),Ey,List.drop_length,Gu (by omega),tO (by omega)]
theorem iN{α:Type}(xs:List α)(k:Nat)(y:α):(Mw xs k y).length=xs.length+1:=by
 unfold Mw
 rw[Bn,Bl,Cy,Lm]
 omega
section
variable{X:Cx}
theorem wF:JS X "list.insert" S5:=by
 w_pre h9
 obtain ⟨l,xs,k,y,rfl,rfl,hH,hz,k0,k1,q⟩:=h
 cases rx
 obtain ⟨u1,u2,rfl,r1,r2⟩:=rv.two
 obtain ⟨t,rfl⟩:=r1
 w_pre m9
 refine Xj F.slot_list_insert ⟨_,e,rfl⟩ F.entry_list_insert (F.args_list_insert_3 _ _ _)
  (AutoSeq1.list_insert_list_int_val_1 l its.toArray n k t u2 (by simp [sL k0 k1]) (by rw[Av]; omega)) ⟨e,?_⟩
 refine ⟨.non,_,I.lset (its':=Mw its k.toNat u2) hH e ?_ ?_ ?_,rfl,q⟩
 ·show (its.toArray.extract 0 (if k<0 then (k+(its.toArray.size:Int)).toNat else min k.toNat its.toArray.size)).push u2++its.toArray.extract (if k<0 then (k+(its.toArray.size:Int)).toNat else min k.toNat its.toArray.size)=(Mw its k.toNat u2).toArray
  rw[if_neg (by omega),Av,<- xB]
  unfold Mw
  simp
  exact Gu (by rw[Lm]; omega)
 ·exact (r.take _).append (.cons r2 (r.drop _))
 ·rw[iN]
  omega
end
def insB(i:Nat)(z y:DV)(δ:DS)(D:DEnds):Prop:=match δ.sl[i]?,z,y with
 | some (.dat m (.list ds)),.dat _ (.int k),.dat _ e=>own1 m=true/\npk δ.sl=true/\imm e=true/\Dx ds=true/\ds.length<1000000/\0<=k/\k<=1000000/\D.nx ⟨δ.sl.set i (.dat m (.list (Mw ds k.toNat e))),δ.n⟩
 | _,_,_=>False
def lQ(i:Nat)(dk de:DE):DB:=λD δ=>match δ.sl[i]? with
 | some (.dat _ (.list _))=>dk δ λz δ1=>de δ1 λy δ2=>insB i z y δ2 D
 | _=>False
theorem RdFs.takeI{K:PySem.W.Frag}{H:Hp}{xs:List V}{ds:List Af}{F:List Addr}(h:RdFs K H xs ds F)(hi:Dx ds=true)(k:Nat):RdFs K H (xs.take k) (ds.take k) []:=by
 induction k generalizing xs ds F with
 | zero=>exact .nil
 | succ k ih =>
  cases h with
  | nil=>exact .nil
  | cons a t =>
   rw[Dx,Ed] at hi
   obtain rfl:=a.imm hi.1
   exact RdFs.cons (F:=[]) a (ih t hi.2)
theorem RdFs.dropI{K:PySem.W.Frag}{H:Hp}{xs:List V}{ds:List Af}{F:List Addr}(h:RdFs K H xs ds F)(hi:Dx ds=true)(k:Nat):RdFs K H (xs.drop k) (ds.drop k) []:=by
 induction k generalizing xs ds F with
 | zero=>rw[Nk,Nk]; exact (h.imm hi)▸h
 | succ k ih =>
  cases h with
  | nil=>exact .nil
  | cons a t =>
   rw[Dx,Ed] at hi
   exact ih t hi.2
section
variable{X:Cx}{o e ke:Expr}{de dk:DE}{apos cpos pos:Pos}{i:Nat}
theorem xH(ho:PE X o (kH i))(hk:Gr X ke dk)(he:Gr X e de)(hbase:Vu o "insert" X.env (eval o X.env)=eval o X.env:=by rfl)
  (hfew:((Hh cpos (Bj [ke,e] X.env)).all (λx=>!x.1) && (backToKw cpos (bD [] X.env)).all (λx=>x.1.isSome)
   && decide (([ke,e]:List Expr).length+([]:List Uy).length+(if ([]:List Uy).isEmpty then 0 else 1)<30))=true:=by rfl)
  (hline:(apos.endLine == cpos.line)=true:=by rfl) (hs0:Bj [ke,e] X.env=(false,eval ke X.env)::Bj [e] X.env:=by rfl) (hs:Bj [e] X.env=(false,eval e X.env)::Bj [] X.env:=by rfl) (hplain:(Hh cpos (Bj [e] X.env)).any (·.1)=false:=by rfl)
  (hsw:Oa (.Call (.Attribute o "insert" apos) [ke,e] [] cpos) none pos.line X.env=pure false:=by rfl) :
  zG X (.Expr (.Call (.Attribute o "insert" apos) [ke,e] [] cpos) pos) (lQ i dk de):=by
 refine PS.impD (tT (Z1 PySem.F.plainAttrs_list F.slot_list_insert F.type_list_insert wF ho (Hy hk (Hy he Oh hs) hs0) hbase hfew hline hs0 hplain) hsw) λD σ H h=>?_
 w_pre q7
 unfold lQ at hd
 w_pre w7
 case h_2=>exact hd.elim
 w_pre w
 refine ⟨.ref a,by rw[Tb e2]; exact congrArg some hv,.inl ⟨rfl,xs,Mp.of ha⟩,H0,Y,S,T,δ,_,rfl,hS,hA,hd,λz δ1 w F1 S1 H1 e4 e5 hA1 p1=>?_⟩
 refine ⟨H0,Y,S1,⟨some w,z,F1⟩::T,δ1,_,e4,e5,hA1,p1,λy δ2 w2 F2 S2 H2 e6 e7 hA2 p2=>?_⟩
 unfold insB at p2
 split at p2
 ·rename_i m ds mz k my e' hsl2
  obtain ⟨q1,q2,q3,q4,q5,q6,q7,q8⟩:=p2
  obtain ⟨rfl,_⟩:=(hA2.told Gb).int_inv
  have r:=hA2.told mem_mid
  obtain rfl:=r.imm q3
  obtain ⟨b,xs1,G1,g1,g2,g3,g4,g5⟩:=Ws (es:=Mw ds k.toNat e') e7 hT hA2.drop2 hsl2 q1 q2
  rw[e6,Tb e2] at g1
  w_pre c6
  have hl:=g3.len
  obtain ⟨S3,h1,h2,h3⟩:=g5 (Mw xs1 k.toNat w2) [] ((g3.takeI q4 _).app (RdFs.cons (F:=[]) r (g3.dropI q4 _))) (List.nil_sublist _) (by rw[iN]; exact pF (by omega))
  refine ⟨a,xs1,k,w2,rfl,rfl,g2,Cj (by omega) (pF (n:=1000000) (Aj _)),q6,q7,?_⟩
  rw[<- e6,<- h1]
  exact k1 ⟨_,_⟩ S3 _ h2 h3 q8
 ·exact p2.elim
end
end DL
namespace Nd
open PySem PySem.Spec PyProof.Rows L2
end Nd
namespace DL
open PySem PySem.Spec PyProof.Rows L2 Nd
end DL
namespace Nd
open PySem PySem.Spec PyProof.Rows
section
variable{prog:Bk}{w:World}{κ:Type}[DecidableEq κ](knd:HeapKind prog w κ)
def DictE(h:Heap)(d:Addr)(xs:List (κ×Addr×Value)):Prop :=
 ∃(o:Obj) (es:Array Kg) (ep:Nat),h.get? d=some o/\o.ExactDict/\o.data=.dict es ep/\es.toList=xs.map (fJ knd)/\(∀x∈xs,knd.is h x.1 x.2.1)/\(xs.map (·.1)).Nodup/\ep=es.size
variable{knd}
variable{A:Ci}{E:Value->Ai->Prop}{s:Ai}{d a:Addr}{xs:List (κ×Addr×Value)}{k:κ}{v:Value}
theorem yJ{xs:List (κ×Addr×Value)}{k:κ}{a:Addr}{v:Value}(hn:(xs.map (·.1)).Nodup)(hk:k∉xs.map (·.1)):((xs++[(k,a,v)]).map (·.1)).Nodup:=by
 rw[Bo,List.nodup_append]
 refine ⟨hn,by simp,λx hx y hy e=>hk ?_⟩
 rw[Ap,Qg,Al] at hy
 have hy:y=k:=hy
 rw[<- hy,<- e]
 exact hx
theorem z0{o:Obj}{es:Array Kg}{ep:Nat}{h:Heap}(ho:h.get? d=some o)(hc:o.ExactDict)(hd:o.data=.dict es ep)(he:es.toList=xs.map (fJ knd))(his:∀x∈xs,knd.is h x.1 x.2.1)(hn:(xs.map (·.1)).Nodup)(hep:ep=es.size)(hkey:knd.is h k a)(ha:atKey xs k=none)(hk:k∉xs.map (·.1)):DictE knd (h.update d (Obj.mapDictKeys λes=>es.push ⟨knd.hash k,.ref a,v⟩)) d (storedH xs k a v):=by
 rw[storedH_new ha]
 refine ⟨_,_,ep+1,Fe _ ho (Obj.isFreed_of_dict (Obj.data_mapDictKeys hd _)),hc.mapDictKeys _,Obj.data_mapDictKeys hd _,by simp [he,fJ],λx hx=>?_,yJ hn hk,by rw[hep,Array.size_push]⟩
 w_pre v8
 ·exact knd.keeps (his x z) ho hd (Bp ..)
 ·rw[Al.mp z]
  exact knd.keeps hkey ho hd (Bp ..)
theorem qE{Q:Unit->Ai->Prop}(hu:knd.room A)(hkey:knd.is s.heap k a)(hm:DictE knd s.heap d xs)(q:∀h',DictE knd h' d (storedH xs k a v)->Cv d s.heap h'->Q () { s with heap:=h',toks:=s.toks+knd.draws k })(hz:xs.length<=Ay):wpAny (model prog w) A (dictSet d (.ref a) v) Q E s:=by
 obtain ⟨o,es,ep,ho,hc,hd,he,his,hn,hep⟩:=hm
 unfold dictSet
 try with_reducible refine Ct ?_
 refine Aa (knd.pyHash hu hkey ?_)
 unfold dictSetHashed
 try with_reducible refine Ct ?_
 refine Aa (wpAny_dictFind_heap (s:={ s with toks:=s.toks+knd.draws k }) hu hkey ho hd he his hn (λno=>?_) λj p hj=>?_)
 ·exact Aa (Jt (wpAny_updateDictKeys (hz:=by have e:=size_of_entries he; omega) (s:={ s with toks:=s.toks+knd.draws k }) ho hd (q _ (z0 ho hc hd he his hn hep hkey (atKey_none_of_get no) (not_mem_keys_of_get no)) (Bp ..))))
 ·refine Aa (Jt (Aa (wpAny_updateDict (s:={ s with toks:=s.toks+knd.draws k }) ho hd (wpAny_point (q _ ?_ (Bp ..))))))
  rw[storedH_old (atKey_of_get hn hj)]
  refine ⟨_,_,ep,Fe _ ho (Obj.isFreed_of_dict (Obj.data_mapDict hd _)),hc.mapDict _,Obj.data_mapDict hd _,?_,λx hx=>?_,by rw[keys_map_putAt]; exact hn,by rw[hep]; simp⟩
  ·have e1:=modify_map_putAt (fJ knd) (λe:Kg=>{ e with val:=v }) k v (λ_ _=>rfl) hn hj
   rw[<- he] at e1
   obtain ⟨l⟩:=es
   simpa using e1
  ·obtain ⟨y,hy,rfl⟩:=Dc.mp hx
   unfold putAt
   split <;> exact knd.keeps (his y hy) ho hd (Bp ..)
end
end Nd
namespace L2
open PySem PySem.Spec PyProof.Rows
section
variable{κ:Type}[DecidableEq κ]
def aH(kvs:List (κ×V))(k:κ):Option V:=(kvs.find? λkv=>decide (kv.1=k)).map (·.2)
def Vz(kvs:List (κ×V))(k:κ)(v:V):List (κ×V) :=
 if (kvs.any λkv=>decide (kv.1=k))=true then kvs.map (λkv=>if kv.1=k then (kv.1,v) else kv) else kvs++[(k,v)]
theorem Xs{p:κ×V}{r:List (κ×V)}{k:κ}(e:p.1=k):aH (p::r) k=some p.2:=by simp [aH,Iy,e]
theorem Yp{p:κ×V}{r:List (κ×V)}{k:κ}(e:¬ p.1=k):aH (p::r) k=aH r k:=by simp [aH,Iy,e]
theorem nH(k:κ):∀kvs:List (κ×V),(kvs.any λkv=>decide (kv.1=k))=(aH kvs k).isSome
 | []=>rfl
 | p::r=>by
  rw[Zf]
  by_cases e:p.1=k
  ·simp only[Xs e,decide_eq_true e,Bool.true_or,Option.isSome_some]
  ·rw[Yp e,decide_eq_false e,Bool.false_or]; exact nH k r
theorem aX(kvs:List (κ×V))(k:κ)(v:V):(Vz kvs k v).length<=kvs.length+1:=by
 unfold Vz
 split
 ·rw[Ad]; omega
 ·rw[Bn,Bl,Kj]; omega
theorem xT.isSome_eq{o:Option V}{u:Option Value}(r:xT o u):o.isSome=u.isSome:=by
 cases o with
 | none=>cases u with
  | none=>rfl
  | some _=>exact (show False from r).elim
 | some _=>cases u with
  | none=>exact (show False from r).elim
  | some _=>rfl
theorem KV.val{kvs:List (κ×V)}{vs:List (κ×Value)}(r:KV kvs vs)(k:κ):xT (aH kvs k) (valueAt vs k):=by
 unfold KV at r
 induction r with
 | nil=>exact True.intro
 | @cons p q ps qs h t ih =>
  obtain ⟨h1,h2⟩:=h
  by_cases e:p.1=k
  ·have e':q.1=k:=h1.symm.trans e
   have b:valueAt (q::qs) k=some q.2:=by simp [valueAt,Iy,e']
   rw[Xs e,b]; exact h2
  ·have e':¬ q.1=k:=λz=>e (h1.trans z)
   have b:valueAt (q::qs) k=valueAt qs k:=by simp [valueAt,Iy,e']
   rw[Yp e,b]; exact ih
end
theorem Z0{P:Bk}{w:World}{k:Lc}{u:Value}(r:RelV (kV k) u):(Kd P w).is k u=true:=by
 cases k with
 | inl i=>obtain ⟨t,e⟩:=(show ∃t,u=Oc i t from r); subst e; exact oH P w i t
 | inr x=>obtain ⟨t,e⟩:=(show ∃t,u=Value.str x t from r); subst e; exact qD P w x t
theorem hV{P:Bk}{w:World}:∀{ks:List Lc} {us:List Value},Gj (ks.map kV) us->ItemsAre (Kd P w) ks us
 | [],_,r=>by rw[Qg] at r; cases r; exact .nil
 | k::ks,_,r=>by
  rw[Ap] at r
  cases r with
  | cons h t=>exact .cons (Z0 h) (hV t)
abbrev KT(H:Hp):List (List Lc×V)->List (List Lc×Addr×Value)->Prop:=Paired λp q=>p.1=q.1/\H q.2.1=some (.tup (p.1.map kV))/\RelV p.2 q.2.2
theorem KT.val{H:Hp}{kvs:List (List Lc×V)}{xs:List (List Lc×Addr×Value)}(r:KT H kvs xs)(k:List Lc):xT (aH kvs k) ((atKey xs k).map (·.2)):=by
 induction r with
 | nil=>exact True.intro
 | @cons p q ps qs h t ih =>
  obtain ⟨h1,_,h2⟩:=h
  by_cases e:p.1=k
  ·have e':q.1=k:=h1.symm.trans e
   have b:atKey (q::qs) k=some q.2:=by simp [atKey,Iy,e']
   rw[Xs e,b]; exact h2
  ·have e':¬ q.1=k:=λz=>e (h1.trans z)
   have b:atKey (q::qs) k=atKey qs k:=by simp [atKey,Iy,e']
   rw[Yp e,b]; exact ih
theorem KT.repl{H:Hp}{kvs:List (List Lc×V)}{xs:List (List Lc×Addr×Value)}(r:KT H kvs xs)(k:List Lc){y:V}{u:Value}(ry:RelV y u):KT H (kvs.map λkv=>if kv.1=k then (kv.1,y) else kv) (xs.map (putAt k u)):=by
 induction r with
 | nil=>exact .nil
 | @cons p q ps qs h t ih =>
  rw[Ap,Ap]
  refine .cons ?_ ih
  obtain ⟨h1,h2,h3⟩:=h
  unfold putAt
  by_cases e:p.1=k
  ·rw[if_pos e,if_pos (h1.symm.trans e)]; exact ⟨h1,h2,ry⟩
  ·rw[if_neg e,if_neg (λz=>e (h1.trans z))]; exact ⟨h1,h2,h3⟩
theorem KT.put{H:Hp}{kvs:List (List Lc×V)}{xs:List (List Lc×Addr×Value)}(r:KT H kvs xs)(k:List Lc){b:Addr}{y:V}{u:Value}(hb:H b=some (.tup (k.map kV)))(ry:RelV y u):KT H (Vz kvs k y) (storedH xs k b u):=by
 have e:(kvs.any λkv=>decide (kv.1=k))=(atKey xs k).isSome:=by
  rw[nH,(r.val k).isSome_eq,Option.isSome_map]
 unfold Vz storedH
 rw[e]
 by_cases q:(atKey xs k).isSome=true
 ·rw[if_pos q,if_pos q]; exact r.repl k ry
 ·rw[if_neg q,if_neg q]; exact Paired.snoc r ⟨rfl,hb,ry⟩
theorem KT.keeps{H H':Hp}{kvs:List (List Lc×V)}{xs:List (List Lc×Addr×Value)}(r:KT H kvs xs)(ht:∀b ys,H b=some (.tup ys)->H' b=some (.tup ys)):KT H' kvs xs :=
 Paired.mapP r λ_ _ z=>⟨z.1,ht _ _ z.2.1,z.2.2⟩
section
variable{P:Bk}{w:World}{H:Hp}{h:Heap}{a:Addr}
theorem e8{u:HO}(ok:Wi P w H h)(e:Rd H a u):Kb P w H h a u:=e.ok ok
theorem W5{kvs:List (Lc×V)}(ok:Wi P w H h)(e:Rd H a (.dK kvs)):kvs.length<=Ay/\(a == Hg)=false/\∃vs,KV kvs vs/\h.DictOf (Kd P w) a vs :=
 show Kb P w H h a (.dK kvs) from e8 ok e
theorem cT{ks:List Lc}(ok:Wi P w H h)(e:H a=some (.tup (ks.map kV))):(Px (Kd P w)).is h ks a:=by
 obtain ⟨_,its,r,o,h1,h2,n,h3⟩:=(show Kb P w H h a (.tup (ks.map kV)) from ok a _ e)
 exact ⟨o,its.toArray,n,h1,h2,h3,by simpa using hV r⟩
theorem B5{kvs:List (List Lc×V)}(ok:Wi P w H h)(e:Rd H a (.dT kvs)):kvs.length<=Ay/\(a == Hg)=false/\∃xs,KT H kvs xs/\h.DictOfH (Px (Kd P w)) a xs:=by
 w_pre c9
 refine ⟨z,y,xs,r,o,es,ep,h1,h2,h3,h4,λx hx=>?_,h5⟩
 w_pre n
theorem J4{kvs:List (List Lc×V)}(ok:Wi P w H h)(e:Rd H a (.dT kvs)):kvs.length<=Ay/\(a == Hg)=false/\∃xs,KT H kvs xs/\Nd.DictE (Px (Kd P w)) h a xs:=by
 w_pre c9
 refine ⟨z,y,xs,r,o,es,ep,h1,h2,h3,h4,λx hx=>?_,h5,h6⟩
 w_pre n
theorem FI{kvs:List (List Lc×V)}(ok:Wi P w H h)(e:H a=some (.dT kvs)):kvs.length<=Ay/\(a == Hg)=false/\∃xs,KT H kvs xs/\h.DictOfH (Px (Kd P w)) a xs:=B5 ok (.inl e)
end
def l0(H:Hp)(a:Addr)(y:V)(r:Option V):Prop :=
 (∃kvs k,Rd H a (.dK kvs)/\y=kV k/\r=aH kvs k)\/∃kvs k b,Rd H a (.dT kvs)/\y=.ref b/\H b=some (.tup (k.map kV))/\r=aH kvs k
theorem l0.t{H:Hp}{a b:Addr}{kvs:List (List Lc×V)}{k:List Lc}(e:H a=some (.dT kvs))(eb:H b=some (.tup (k.map kV))):l0 H a (.ref b) (aH kvs k):=.inr ⟨kvs,k,b,.inl e,rfl,eb,rfl⟩
section
variable{X:Cx}{pins:List (Addr×Obj)}{σ:St}{H:Hp}{s:Ai}{a:Addr}{y v:V}{u r:Value}{o:Option V}{A:Ci}{E:Value->Ai->Prop}
theorem Inv.big(I:Inv X pins σ H s):Hg<s.heap.objs.size:=by
 have h:Dl<s.heap.objs.size:=(I.mod.glob.keeps I.bk).lt
 exact Vx (by decide) h
theorem wI{Q:Value->Ai->Prop}(hu:A.units+1<cLine)(I:Inv X pins σ H s)(g:l0 H a y (some v))(ry:RelV y u)(h:∀w' s',Inv X pins σ H s'->RelV v w'->Q w' s'):wpAny (model X.prog X.w) A (Rr (.ref a) u) Q E s:=by
 rcases g with ⟨kvs,k,e,ey,l⟩ | ⟨kvs,k,b,e,ey,eb,l⟩
 ·subst ey
  obtain ⟨z,hd,vs,rel,dd⟩:=W5 I.hok e
  obtain ⟨w',hw,rw'⟩:=xT.some_of (v:=v) (o:=valueAt vs k) (by rw[l]; exact rel.val k)
  exact wpAny_getItem_of (Z0 ry) dd.mapOf hw (h w' _ (I.tok _) rw')
 ·subst ey
  cases (show u=Be b from ry)
  obtain ⟨z,hd,xs,rel,dd⟩:=B5 I.hok e
  obtain ⟨w',hw,rw'⟩:=xT.some_of (v:=v) (o:=(atKey xs k).map (·.2)) (by rw[l]; exact rel.val k)
  obtain ⟨p,hp,hp2⟩:=Option.map_eq_some_iff.mp hw
  refine wpAny_getItem_heap (tupleKind_room_in1 hu) (cT I.hok eb) dd hp ?_
  rw[hp2]
  exact h w' _ (I.tok _) rw'
theorem vO{h':Heap}{t':Nat}{ob:HO}(I:Inv X pins σ H s)(mu:GM (H a))(hs:Cv a s.heap h')(he:∃q,h'.get? a=some q)(new:Kb X.prog X.w (upd H a ob) h' a ob):Inv X pins σ (upd H a ob) { s with heap:=h',toks:=t' } :=
 I.write (x:=a) (e:=a) mu (.inl rfl) (λb q hb z=>(hs.2 b hb).trans z) he new
end
def EG(i:Expr):Prop:=∀ov iv,subscripted i false ov iv=operate [ov,iv] (Rr ov iv)
theorem P6{prog:Bk}{w:World}{A:Ci}{E:Value->Ai->Prop}{s:Ai}{env:Env}{value slice:Expr}{pos:Pos}{T id:String}{Q:Value->Ai->Prop}(hl:fH (.type T) "__getitem__" = pure (some (.builtin id)))(hs:EG slice)(h:wpAny (model prog w) A (eval value env) (λo s₁=>wpAny (model prog w) A (eval slice env) (λi s₂=>s₂.TypeIs o T/\wpAny (model prog w) A (Rr o i) Q E s₂) E s₁) E s):wpAny (model prog w) A (eval (.Subscript value slice pos) env) Q E s:=by
 refine Subscript_ (Cu h (λo s₁ h₁=>Cu h₁ (λi s₂ h₂=>?_) λ_ _ x=>x) λ_ _ x=>x)
 obtain ⟨hT,h₂⟩:=h₂
 unfold subscriptTail
 refine Aa ?_
 rw[getitemInPython_of_ne hT.not_modules]
 refine Aa (wpAny_specialOf hT hl ?_)
 have fin:wpAny (model prog w) A (subscripted slice false o i) (λr s₃=>wpAny (model prog w) A (letTemporaryGo value o r >>= λ_=>pure r) Q E s₃) E s₂:=by
  rw[hs o i]
  exact wpAny_operating (Cu h₂ (λr s₃ h₃=>Aa (wpAny_letTemporaryGo (Ae h₃))) λ_ _ x=>x)
 first
  | exact Ae (Aa fin)
  | exact Aa (Ae (Aa fin))
  | exact Aa fin
theorem pQ{X:Cx}{pins:List (Addr×Obj)}{σ:St}{H:Hp}{s:Ai}{a:Addr}{y:V}{o:Option V}(I:Inv X pins σ H s)(g:l0 H a y o):s.TypeIs (.ref a) "dict" := by
 rcases g with ⟨kvs,k,e,_,_⟩ | ⟨kvs,k,b,e,_,_,_⟩
 ·obtain ⟨_,_,vs,_,dd⟩:=W5 I.hok e
  exact dd.typeIs
 ·obtain ⟨_,_,xs,_,dd⟩:=B5 I.hok e
  exact dd.typeIs
def HN(td ty:TE):TE:=λσ H Q=>td σ H λx H1=>ty σ H1 λy H2=>∃a v,x=.ref a/\l0 H2 a y (some v)/\Q v H2
section
variable{X:Cx}{o i e value:Expr}{pos pos' tpos:Pos}{td ty tv:TE}
theorem U9(hu:X.A.units+1<cLine)(ho:PE X o td)(hi:PE X i ty)(hs:EG i):PE X (.Subscript o i pos) (HN td ty):=by
 w_pre t7
 refine P6 PySem.F.slot_dict_getitem.lookup hs (Fq (ho pins s σ H _ I h) λu s1 ⟨x,H1,I1,rx,q1⟩=>Fq (hi pins s1 σ H1 _ I1 q1) λiv s2 ⟨y,H2,I2,ry,a,v,ex,g,q2⟩=>?_)
 subst ex
 obtain rfl:u=Be a:=rx
 exact ⟨pQ I2 g,wI hu I2 g ry λw' s3 I3 rw'=>⟨v,H2,I3,rw',q2⟩⟩
end
theorem nV{P:Bk}{w:World}{H:Hp}(h:Heap)(hb:Hg<h.objs.size):Kb P w H (h.push { cls:=.type "dict",data:=.dict #[] }) h.objs.size (.dT []) :=
 ⟨Dq _,beq_eq_false_iff_ne.mpr (Lu (Bm hb)),[],.nil,_,#[],0,Au _ rfl,⟨rfl,rfl,rfl⟩,rfl,rfl,Ep,rfl⟩
structure M1(X:Cx)(o:Expr)(m:Str)(apos:Pos)(e:Expr)(cpos:Pos):Prop where
 base:Vu o m X.env (eval o X.env)=eval o X.env
 few:((Hh cpos (Bj [e] X.env)).all (λx=>!x.1) && (backToKw cpos (bD [] X.env)).all (λx=>x.1.isSome)
  && decide (([e]:List Expr).length+([]:List Uy).length+(if ([]:List Uy).isEmpty then 0 else 1)<30))=true
 line:(apos.endLine == cpos.line)=true
 trees:Hh cpos (Bj [e] X.env)=[(false,eval e X.env)]
structure M2(X:Cx)(o:Expr)(m:Str)(apos:Pos)(e f:Expr)(cpos:Pos):Prop where
 base:Vu o m X.env (eval o X.env)=eval o X.env
 few:((Hh cpos (Bj [e,f] X.env)).all (λx=>!x.1) && (backToKw cpos (bD [] X.env)).all (λx=>x.1.isSome)
  && decide (([e,f]:List Expr).length+([]:List Uy).length+(if ([]:List Uy).isEmpty then 0 else 1)<30))=true
 line:(apos.endLine == cpos.line)=true
 trees:Hh cpos (Bj [e,f] X.env)=[(false,eval e X.env),(false,eval f X.env)]
end L2
namespace Nd
open PySem PySem.Spec PyProof.Rows L2
section
variable{prog:Bk}{w:World}{A:Ci}{E:Value->Ai->Prop}{s:Ai}{κ:Type}[DecidableEq κ]
theorem sS(knd:HeapKind prog w κ)(d:Addr)(hd:(d == Hg)=false):MeetsIn prog w (Builtin.«dict.__len__» ⟨[.ref d],[]⟩) (λ_ R s=>∃xs,s.heap.DictOfH knd d xs/\R (.ok (.ret (.int xs.length s.toks))) { s with toks:=s.toks+1 }) :=
 .of_wp λA R s ⟨xs,hm,h⟩=>by
  obtain ⟨o,es,ep,ho,hc,hdat,he,his,hn⟩:=hm
  show wpAny _ _ (dictSize d >>= _) _ _ s
  unfold dictSize
  refine Aa (Aa (Uv ho hdat (Ae ?_)))
  show wpAny _ _ (Builtin.Dict.pendingCount d >>= _) _ _ s
  refine Aa (wpAny_pendingCount_other hd ?_)
  refine wpAny_ret_mkInt ?_
  have : es.size=xs.length:=size_of_entries he
  rw[Nat.add_zero,this]; exact h
theorem gB{knd:HeapKind prog w κ}{d:Addr}{xs:List (κ×Addr×Value)}{Q:Value->Ai->Prop}(hd:(d == Hg)=false)(hm:s.heap.DictOfH knd d xs)(hfit:(xs.length:Int)<2 ^ 63)(h:Q (.int xs.length (s.toks+1)) { s with toks:=s.toks+1+1 }):wpAny (model prog w) A (call (.builtin "len") [.ref d]) Q E s:=by
 refine Rg kind_len plain_len entry_len (args_len1 _) ?_
 unfold Builtin.«len»
 refine Aa (m:=oneArg "len" _) (Ae ?_)
 refine Aa (m:=callSpecial? (.ref d) (Ds "__len__")) (Dd (name:=Ds "__len__") hm.typeIs F.slot_dict_len
  (call_meetsIn F.slot_dict_len hm.typeIs F.entry_dict_len (F.args_dict_len_1 _) (sS knd d hd) ⟨xs,hm,?_⟩))
 show wpAny _ _ _ _ _ { s with toks:=s.toks+1 }
 refine Aa (Ct (Ae ?_))
 refine Aa (wpAny_letGo ?_)
 show wpAny _ _ (if ((xs.length:Nat):Int)<0 then _ else _) _ _ _
 rw[if_neg (by omega)]
 show wpAny _ _ (if ((xs.length:Nat):Int) ≥ 2 ^ 63 then _ else _) _ _ _
 rw[if_neg (by omega)]
 exact Aa (wpAny_mkInt (Ae ⟨_,rfl,h⟩))
end
def W1:List V->Hp->VK->Prop:=λxs H Q=>∃a kvs,xs=[V.ref a]/\H a=some (.dT kvs)/\Q (.int kvs.length) H
theorem yH{X:Cx}:Mh X (.builtin "len") W1:=by
 w_pre r7
 obtain ⟨a,kvs,rfl,ha,q⟩:=h
 w_pre q4
 obtain ⟨z,hd,xs,rel,dd⟩:=FI I.hok ha
 refine gB hd dd (by rw[<- Paired.length rel]; rw[Gp] at z; omega) ?_
 rw[<- Paired.length rel]
 exact ⟨.int kvs.length,H,I.tok _,⟨_,rfl⟩,q⟩
end Nd
namespace DL
open PySem PySem.Spec PyProof.Rows L2 Nd
def bJ(ks:List (List Int×Af))(w:List Int):Option Af:=(ks.find? λp=>decide (p.1=w)).map (·.2)
def Tw(ks:List (List Int×Af))(w:List Int)(d:Af):List (List Int×Af) :=
 if (ks.any λp=>decide (p.1=w))=true then ks.map (λp=>if p.1=w then (p.1,d) else p) else ks++[(w,d)]
theorem bY{α β:Type}{f:α->β}(hf:∀a b,f a=f b->a=b):∀{l m:List α},l.map f=m.map f->l=m
 | [],[],_=>rfl
 | [],_::_,h=>by cases h
 | _::_,[],h=>by cases h
 | a::l,b::m,h=>by
  obtain ⟨h1,h2⟩:=Ht h
  rw[hf a b h1,bY hf h2]
theorem dD{a b:List Int}(h:Bf a=Bf b):a=b:=bY (λx y e=>by cases e; rfl) (PyData.tuple.inj h)
theorem Oy{a b:List (List Int×Af)}(h:Wh a=Wh b):a=b:=bY (λx y e=>by
 obtain ⟨e1,e2⟩:=Prod.mk.inj e
 exact Prod.ext (dD e1) e2) (Ht h).2
theorem eX{a b:List Int}(h:Ls a=Ls b):a=b:=bY (λx y e=>by cases e; rfl) h
theorem lG(w:List Int):(Ls w).map kV=w.map V.int:=by
 unfold Ls
 rw[Cr]
 rfl
section
variable{K:PySem.W.Frag}{H H':Hp}
structure DRel(K:PySem.W.Frag)(H:Hp)(kv:List (List Lc×V))(ks:List (List Int×Af)):Prop where
 key:kv.map (·.1)=ks.map λp=>Ls p.1
 val:RdFs K H (kv.map (·.2)) (ks.map (·.2)) []
theorem RdF.dict_inv{v:V}{X:List (Af×Af)}{F:List Addr}(h:RdF K H v (.dict X) F):∃a kv ks,v=.ref a/\X=Wh ks/\H a=some (.dT kv)/\DRel K H kv ks/\F=[a]:=by
 cases h with
 | dic h e hs=>exact ⟨_,_,_,rfl,rfl,h,⟨e,hs⟩,rfl⟩
theorem RdFs.cons_nil{x:V}{d:Af}{xs:List V}{ds:List Af}{F:List Addr}(h:RdFs K H (x::xs) (d::ds) F)(hF:F=[]):RdF K H x d []/\RdFs K H xs ds []:=by
 cases h with
 | cons a t =>
  w_pre e10
  exact ⟨a,t⟩
theorem Tx{kv:List (List Lc×V)}{ks:List (List Int×Af)}(r:DRel K H kv ks):kv.length=ks.length:=by
 have:=congrArg Ja r.key
 simpa using this
theorem mM(w:List Int):∀{kv:List (List Lc×V)} {ks:List (List Int×Af)},DRel K H kv ks->(aH kv (Ls w)=none/\bJ ks w=none)\/∃v d,aH kv (Ls w)=some v/\bJ ks w=some d/\RdF K H v d []
 | [],[],_=>.inl ⟨rfl,rfl⟩
 | [],_::_,r=>by cases r.key
 | _::_,[],r=>by cases r.key
 | (k,v)::kv,(u,d)::ks,r=>by
  w_pre g3
  by_cases h:u=w
  ·subst h e1
   refine .inr ⟨v,d,Xs rfl,by simp [bJ],r1⟩
  ·have hk:¬ k=Ls w:=λz=>h (eX (e1.symm.trans z))
   rw[Yp hk,show bJ ((u,d)::ks) w=bJ ks w by simp [bJ,h]]
   exact mM w ⟨e2,r2⟩
theorem A6(w:List Int){kv:List (List Lc×V)}{ks:List (List Int×Af)}(r:DRel K H kv ks):(kv.any λp=>decide (p.1=Ls w))=(ks.any λp=>decide (p.1=w)):=by
 have h1:(kv.any λp=>decide (p.1=Ls w))=((kv.map (·.1)).any λk=>decide (k=Ls w)):=by rw[bQ]; rfl
 rw[h1,r.key,bQ]
 congr 1
 funext p
 exact decide_eq_decide.mpr ⟨λz=>eX z,λz=>by show Ls p.1=Ls w; rw[z]⟩
theorem gP(w:List Int){v:V}{d:Af}(rv:RdF K H v d []):∀{kv:List (List Lc×V)} {ks:List (List Int×Af)},DRel K H kv ks->DRel K H (kv.map λp=>if p.1=Ls w then (p.1,v) else p) (ks.map λp=>if p.1=w then (p.1,d) else p)
 | [],[],r=>r
 | [],_::_,r=>by cases r.key
 | _::_,[],r=>by cases r.key
 | (k,v')::kv,(u,d')::ks,r=>by
  w_pre g3
  have ih:=gP w rv (kv:=kv) (ks:=ks) ⟨e2,r2⟩
  rw[Ap,Ap]
  by_cases h:u=w
  ·rw[if_pos (show k=Ls w by rw[e1,h]),if_pos h]
   exact ⟨by rw[Ap,Ap,ih.key]; exact congrArg (·::_) e1,RdFs.cons (F:=[]) (G:=[]) rv ih.val⟩
  ·have hk:¬ k=Ls w:=λz=>h (eX (e1.symm.trans z))
   rw[if_neg (show ¬ (k,v').1=Ls w from hk),if_neg (show ¬ (u,d').1=w from h)]
   exact ⟨by rw[Ap,Ap,ih.key]; exact congrArg (·::_) e1,RdFs.cons (F:=[]) (G:=[]) r1 ih.val⟩
theorem B8(w:List Int){v:V}{d:Af}(rv:RdF K H v d []){kv:List (List Lc×V)}{ks:List (List Int×Af)}(r:DRel K H kv ks):DRel K H (Vz kv (Ls w) v) (Tw ks w d):=by
 unfold Vz Tw
 rw[A6 w r]
 split
 ·exact gP w rv r
 ·refine ⟨by rw[Bo,Bo,r.key]; rfl,?_⟩
  rw[Bo,Bo]
  exact r.val.snoc rv
theorem DRel.kp{kv:List (List Lc×V)}{ks:List (List Int×Af)}(r:DRel K H kv ks)(k:Kp [] H H'):DRel K H' kv ks:=⟨r.key,r.val.kp k⟩
end
def EV:R2:=λx y H Q=>∃a v,x=.ref a/\l0 H a y (some v)/\Q v H
def lM:D2:=λx y P=>match x,y with
 | .dat _ (.dict X),.dat _ k=>∃ks w d,X=Wh ks/\k=Bf w/\bJ ks w=some d/\P (.dat .ow d)
 | _,_=>False
section
variable{K:PySem.W.Frag}
theorem bW{H:Hp}{v:V}{w:List Int}{F:List Addr}(r:RdF K H v (Bf w) F):∃b,v=.ref b/\H b=some (.tup ((Ls w).map kV)):=by
 obtain ⟨b,xs,rfl,hb,rb,_⟩:=r.tup_inv
 obtain ⟨rfl,_⟩:=rb.ints_inv
 exact ⟨b,rfl,by rw[lG]; exact hb⟩
theorem Q7:sI K EV lM:=by
 w_pre u7
 unfold lM at hd
 w_pre w7
 ·obtain ⟨ks,u,d,rfl,rfl,hg,p⟩:=hd
  obtain ⟨b,rfl,hb⟩:=bW (hA.told mem_mid)
  obtain ⟨a,kv,ks',rfl,ek,ha,rel,_⟩:=(hA.told Gb).dict_inv
  obtain rfl:=Oy ek
  rcases mM u rel with ⟨_,z⟩ | ⟨v',d',h1,h2,h3⟩
  ·rw[z] at hg; cases hg
  ·rw[h2] at hg; cases hg
   exact ⟨a,v',rfl,h1▸l0.t ha hb,k _ _ [] H (hA.drop2.pushI h3) p⟩
 w_pre v7
end
section
variable{X:Cx}{a b:Expr}{da db:DE}{pos:Pos}
theorem KO{n:Nat}(hu:n+64<cLine):n+1<cLine:=by omega
theorem bZ(hu:X.A.units+64<cLine)(ha:Gr X a da)(hb:Gr X b db)(hs:EG b:=by intro _ _; rfl):Gr X (.Subscript a b pos) (cQ lM da db):=PE.imp (U9 (KO hu) ha hb hs) (iU Q7)
end
def tK:DC:=λxs P=>match xs with
 | [.dat _ (.dict X)]=>∃ks,X=Wh ks/\P (.dat .ow (.int ks.length))
 | _=>False
theorem V9{K:PySem.W.Frag}:Sz K W1 tK:=by
 w_pre s7
 unfold tK at hd
 w_pre w7
 ·rename_i ex
  w_pre x7
  obtain ⟨ks,rfl,p⟩:=hd
  obtain ⟨a,kv,ks',rfl,ek,ha,rel,_⟩:=(hA.told mem_mid).dict_inv
  obtain rfl:=Oy ek
  refine ⟨a,kv,rfl,ha,?_⟩
  rw[Tx rel]
  exact k _ _ [] H (hA.drop.pushI (.int _)) p
 w_pre v7
def LB(i:Nat)(y z:DV)(δ:DS)(D:DEnds):Prop:=match δ.sl[i]?,y,z with
 | some (.dat .ow (.dict X)),.dat _ e,.dat _ k=>npk δ.sl=true/\imm e=true/\∃ks w,X=Wh ks/\k=Bf w/\ks.length<1000000/\D.nx ⟨δ.sl.set i (.dat .ow (.dict (Wh (Tw ks w e)))),δ.n⟩
 | _,_,_=>False
def LZ(i:Nat)(z:DV)(δ:DS)(D:DEnds):Prop:=match δ.sl[i]?,z with
 | some (.dat m (.list ds)),.dat _ (.int k)=>own1 m=true/\npk δ.sl=true/\Dx ds=true/\0<=k/\k<ds.length/\k<=1000000/\D.nx ⟨δ.sl.set i (.dat m (.list (ds.eraseIdx k.toNat))),δ.n⟩
 | _,_=>False
def isLst:Option DV->Bool
 | some (.dat _ (.list _))=>true
 | _=>false
def Y3:V->Int
 | .int i=>i
 | _=>0
def W8(H:Hp)(r:Addr):List Int:=match H r with
 | some (.tup xs)=>xs.map Y3
 | _=>[]
theorem DR{H:Hp}{r:Addr}{w:List Int}(h:H r=some (.tup (w.map V.int))):W8 H r=w:=by
 unfold W8
 rw[h]
 show (w.map V.int).map Y3=w
 rw[Cr]
 exact List.map_id' w
section
variable{K:PySem.W.Frag}{H:Hp}
theorem pS:∀{ws:List (List Int)} {xs:List V} {ds:List Af} {G:List Addr},RdFs K H xs ds G->ds=ws.map Bf->∃rs:List Addr,xs=rs.map V.ref/\ws=rs.map (W8 H)/\G=[]/\(∀r∈rs,H r=some (.tup ((W8 H r).map V.int)))/\∀r∈rs,RdF K H (.ref r) (Bf (W8 H r)) []
 | [],_,_,_,h,e=>by
  subst e
  cases h
  exact ⟨[],rfl,rfl,rfl,(λ_ z=>nomatch z),(λ_ z=>nomatch z)⟩
 | w::ws,_,_,_,h,e=>by
  cases h with
  | nil=>cases e
  | cons a t =>
   obtain ⟨e1,e2⟩:=Ht e
   obtain ⟨rs,rfl,rfl,rfl,h1,h2⟩:=pS t e2
   subst e1
   obtain ⟨r,rfl,hr⟩:=bW a
   rw[lG] at hr
   have ew:=DR hr
   obtain rfl:=a.imm (show imm (Bf w)=true from Nv w)
   refine ⟨r::rs,rfl,by rw[Ap,ew],rfl,λx hx=>?_,λx hx=>?_⟩
   ·rcases Ak.mp hx with rfl | hx
    ·rw[ew]; exact hr
    ·exact h1 x hx
   ·rcases Ak.mp hx with rfl | hx
    ·rw[ew]; exact a
    ·exact h2 x hx
theorem eR:∀{rs:List Addr},(∀r∈rs,RdF K H (.ref r) (Bf (W8 H r)) [])->RdFs K H (rs.map V.ref) ((rs.map (W8 H)).map Bf) []
 | [],_=>.nil
 | r::rs,h=>RdFs.cons (F:=[]) (G:=[]) (h r (Ab ..)) (eR λx hx=>h x (Ac _ hx))
theorem dN:∀L:List (List Int),Dx (L.map Bf)=true
 | []=>rfl
 | w::L=>by
  show (imm (Bf w) && Dx (L.map Bf))=true
  rw[dN L,show imm (Bf w)=true from Nv w]; rfl
def jP:DC:=λxs P=>match xs with
 | [.dat _ (.list ds)]=>∃ws:List (List Int),ds=ws.map Bf/\∀L:List (List Int),L.Perm ws->L.Pairwise (λx y=>HT.lexLt y x=false)->P (.dat .ow (.list (L.map Bf)))
 | _=>False
theorem Yv:Sz K (Ts.rSortI K) jP:=by
 w_pre s7
 unfold jP at hd
 w_pre w7
 ·rename_i ex
  w_pre x7
  obtain ⟨ws,rfl,h1⟩:=hd
  w_pre r8
  obtain ⟨rs,rfl,rfl,rfl,c1,c2⟩:=pS ra rfl
  refine ⟨a,rs,W8 H,rfl,Mp.of ha,λr hr=>Rq.of (c1 r hr),λq rs' nq pe pw=>?_⟩
  refine k _ _ _ _ (hA.drop.newI (eR λr hr=>c2 r (pe.mem_iff.mp hr)) (dN _) (by rw[Ad,Ad,pe.length_eq]; simpa using hz) nq .ow) (h1 _ (pe.map _) (List.pairwise_map.mpr pw))
 w_pre v7
end
end DL
namespace Nd
open PySem PySem.Spec PyProof.Rows L2
def fT(h:Heap)(d:Addr)(es:Array Kg)(ep:Nat):Prop:=∃ob,h.get? d=some ob/\ob.ExactDict/\ob.data=.dict es ep
theorem fT.at{h h':Heap}{d:Addr}{es:Array Kg}{ep:Nat}(x:fT h d es ep)(k:∀o,h.get? d=some o->h'.get? d=some o):fT h' d es ep:=let ⟨ob,e,r⟩:=x; ⟨ob,k ob e,r⟩
section
variable{prog:Bk}{w:World}{A:Ci}{E:Value->Ai->Prop}{s:Ai}{it d:Addr}{es:Array Kg}{i ep:Nat}
theorem lI{Q:Option Value->Ai->Prop}{x:Kg}(hI:s.heap.IsKeyIter it d i es.size ep)(hE:fT s.heap d es ep)(hX:es[i]? = some x)(k:∀h',h'.IsKeyIter it d (i+1) es.size ep->Cv it s.heap h'->Q (some x.key) { s with heap:=h' }):wpAny (model prog w) A (callSpecial? (.ref it) (Ds "__next__")) Q E s:=by
 w_pre h
 obtain ⟨hl,ex⟩:=Ic.mp hX
 simp only[show ¬ ((i:Int)<0) from by omega,Ee,if_false,hX]
 w_pre a6
 refine Aa (wpAny_isOneOf_keyiter tI ?_)
 show wpAny _ _ (bind (Qr (.ref it) 1 (Ff ((i:Int)+1))) _) _ _ s
 refine Aa (Ma gi di (by simp) ?_)
 have nI:(s.heap.update it (Obj.mapFields (·.setIfInBounds 1 (Ff ((i:Int)+1))))).IsKeyIter it d (i+1) es.size ep :=
  ⟨_,Fe _ gi (Obj.isFreed_of_fields (Rf di _)),(Obj.cls_mapFields ..).trans ci,by rw[Rf di]; simp [Ff]⟩
 refine Aa (Ct (Aa (wpAny_isOneOf_keyiter (s:={ s with heap:=s.heap.update it (Obj.mapFields (·.setIfInBounds 1 (Ff ((i:Int)+1)))) }) nI.typeIs ?_)))
 show wpAny _ _ (pure x.key) _ _ _
 exact Ae (Ae ⟨_,rfl,k _ nI (Bp ..)⟩)
theorem wC{Q:Option Value->Ai->Prop}(hh:A.handled=none)(hI:s.heap.IsKeyIter it d es.size es.size ep)(hE:fT s.heap d es ep)(k:∀h' e,Xe it s.heap h'->(∃o,h'.get? e=some o/\o.cls=.type "StopIteration")->E (.ref e) { s with heap:=h' }):wpAny (model prog w) A (callSpecial? (.ref it) (Ds "__next__")) Q E s:=by
 w_pre h
 simp only[show ¬ ((es.size:Int)<0) from by omega,Ee,if_false,Tp (Aj es.size)]
 w_pre a6
 show wpAny _ _ (bind (Qr (.ref it) 0 .none) _) _ _ s
 refine Aa (Ma gi di (by simp) ?_)
 show wpAny _ _ (bind (newExc (.type "StopIteration") []) _) _ _ _
 refine Aa ?_
 simp only[newTuple,newExc]
 w_pre f1
 w_pre t5
 exact k _ _ (((Bp ..).extBut.push _).push _) ⟨_,Au _ rfl,rfl⟩
theorem yB{Q:Value->Ai->Prop}(hd:(d == Hg)=false)(hE:fT s.heap d es ep)(k:Q (.ref s.heap.objs.size) { s with heap:=s.heap.push { cls:=.type "dict_keyiterator",data:=.fields #[.ref d,.int 0 0,.int es.size 0,.int ep 0] } }):wpAny (model prog w) A (pyIter (.ref d)) Q E s:=by
 obtain ⟨ob,gb,xb,db⟩:=id hE
 have tD:s.TypeIs (.ref d) "dict" := ⟨ob,gb,xb.1⟩
 refine iV tD PySem.F.slot_dict_iter (Dj PySem.F.slot_dict_iter tD PySem.F.entry_dict_iter ?_ (PySem.F.args_dict_iter_1 _))
 unfold Builtin.«dict.__iter__» Builtin.Dict.dictSlotNone
 refine Aa (Aa (wpAny_notOrdered_dict tD ?_))
 show wpAny _ _ (pure (.ref d:Value)) _ _ s
 refine Ae ?_
 show wpAny _ _ (bind (Builtin.Dict.showsAll d) _) _ _ s
 unfold Builtin.Dict.showsAll
 rw[if_neg (by rw[hd]; exact Bs)]
 refine Aa (Ae (Aa (Uv gb db (Aa (wpAny_dictEpoch gb db ?_)))))
 refine Aa (Cg (Ae ⟨_,rfl, "dict_keyiterator",_,⟨_,Au _ rfl,rfl⟩,PySem.F.slot_dict_keyiterator_next.lookup,?_⟩))
 exact k
end
theorem gL{prog:Bk}{w:World}{A:Ci}(hh:A.handled=none)(it d:Addr)(hne:d≠it)(es:Array Kg)(ep:Nat):Draws prog w A it [it,d] es.size (λi v=>∃x,es[i]? = some x/\v=x.key) (λi h=>h.IsKeyIter it d i es.size ep/\fT h d es ep) where
 live:=λ_ _ st=>let ⟨o,ho,_⟩:=st.1; ⟨o,ho⟩
 frame:=λ_ _ _ st hk=>⟨st.1.at λo e=>hk it (by simp) o e,st.2.at λo e=>hk d (by simp) o e⟩
 item:=λi s Q E hi st hQ=>by
  unfold Cf
  refine Aa (lI st.1 st.2 (x:=es[i]) (by simp [hi]) λh' hI hs=>Ae ?_)
  exact hQ _ h' s.toks ⟨_,by simp [hi],rfl⟩ ⟨hI,st.2.at λo e=>(hs.2 d hne).trans e⟩ hs
 done:=λs Q E st hE=>by
  unfold Cf
  exact Aa (wC hh st.1 st.2 hE)
structure ZApart(z TI TO i1 i2:Addr)(f1 f2:List Addr):Prop where
 tiz:TI≠z
 toz:TO≠z
 z1:i1≠z
 z2:i2≠z
 tito:TI≠TO
 ti1:TI≠i1
 ti2:TI≠i2
 to1:TO≠i1
 to2:TO≠i2
 i12:i1≠i2
 zf1:z∉f1
 zf2:z∉f2
 of1:TO∉f1
 of2:TO∉f2
 if1:i2∉f1
 if2:i1∉f2
section
variable{prog:Bk}{w:World}{A:Ci}{E:Value->Ai->Prop}{s:Ai}{z TI TO i1 i2:Addr}{f1 f2:List Addr}{n1 n2 i:Nat}{P1 P2:Nat->Value->Prop}{S1 S2:Nat->Heap->Prop}
theorem Hd{a b:Addr}{f:List Addr}(h:a∉f)(hb:b∈f):b≠a:=λe=>h (e▸hb)
theorem xP{a b:Value}{Q:Value->Ai->Prop}(D1:Draws prog w A i1 f1 n1 P1 S1)(D2:Draws prog w A i2 f2 n2 P2 S2)(ap:ZApart z TI TO i1 i2 f1 f2)(gz:IsZip s.heap z TI TO .none)(gI:Ga s.heap TI (.ref i1) (.ref i2))(gO:Ga s.heap TO a b)(g1:S1 i s.heap)(g2:S2 i s.heap)(l1:i<n1)(l2:i<n2)(k:∀x y h' tk,P1 i x->P2 i y->IsZip h' z TI TO (Ff s.heap.objs.size)->Ga h' TO x y->S1 (i+1) h'->S2 (i+1) h'->Ga h' s.heap.objs.size x y->h'.objs.size=s.heap.objs.size+1->(∀c o,c≠z->c≠TO->c≠i1->c≠i2->s.heap.get? c=some o->h'.get? c=some o)->Q (.ref s.heap.objs.size) { s with heap:=h',toks:=tk }):wpAny (model prog w) A (Builtin.«zip.__next__» ⟨[.ref z],[]⟩) (λfin s'=>∃v,fin=.done (.ret v)/\Q v s') E s:=by
 w_pre m
 replace gz1:IsZip h1 z TI TO .ellipsis:=gz1
 replace s1:Cv z hp h1:=s1
 refine Aa ?_
 w_pre m0
 refine Aa (D1.item i _ _ _ l1 g11 λx h2 tk1 px g12 s2=>Ae ?_)
 replace s2:Cv i1 h1 h2:=s2
 have gO2:Ga h2 TO a b:=(s2.2 TO ap.to1).trans ((s1.2 TO ap.toz).trans gO)
 w_pre f10
 replace gO3:Ga h3 TO x b:=gO3
 replace s3:Cv TO h2 h3:=s3
 refine Aa (wpAny_letGo (Ae ?_))
 have g23:S2 i h3:=D2.frame _ _ _ g21 λb hb o q=>(s3.2 b (Hd ap.of2 hb)).trans ((s2.2 b (Hd ap.if2 hb)).trans q)
 refine Aa (Aa (fA ?_))
 show wpAny _ _ (bind (Cf (.ref i2)) _) _ _ _
 refine Aa (D2.item i _ _ _ l2 g23 λy h4 tk2 py g24 s4=>Ae ?_)
 replace s4:Cv i2 h3 h4:=s4
 have gO4:Ga h4 TO x b:=(s4.2 TO ap.to2).trans gO3
 refine Aa (Gz gO4 rfl (Aa (bA gO4 λh5 gO5 s5=>?_)))
 replace gO5:Ga h5 TO x y:=gO5
 replace s5:Cv TO h4 h5:=s5
 refine Aa (wpAny_letGo (Ae (Ae ?_)))
 refine Aa (Gz gO5 rfl (Aa (wpAny_newTuple ?_)))
 have sz:h5.objs.size=hp.objs.size:=by rw[s5.1,s4.1,s3.1,s2.1,s1.1]
 have gz5:IsZip h5 z TI TO .ellipsis:=(s5.2 z ap.toz.symm).trans ((s4.2 z ap.z2.symm).trans ((s3.2 z ap.toz.symm).trans ((s2.2 z ap.z1.symm).trans gz1)))
 have k5:∀c o,c≠z->c≠TO->c≠i1->c≠i2->hp.get? c=some o->h5.get? c=some o:=λc o c1 c2 c3 c4 e =>
  (s5.2 c c2).trans ((s4.2 c c4).trans ((s3.2 c c2).trans ((s2.2 c c3).trans ((s1.2 c c1).trans e))))
 have g15:S1 (i+1) h5:=D1.frame _ _ _ g12 λb hb o q=>(s5.2 b (Hd ap.of1 hb)).trans ((s4.2 b (Hd ap.if1 hb)).trans ((s3.2 b (Hd ap.of1 hb)).trans q))
 have g25:S2 (i+1) h5:=D2.frame _ _ _ g24 λb hb o q=>(s5.2 b (Hd ap.of2 hb)).trans q
 have zl:z<h5.objs.size:=Ar gz5
 show wpAny _ _ (bind (Ra (.ref z) (.ref h5.objs.size)) _) _ _ _
 refine Aa ?_
 unfold Ra
 have gz6:IsZip (h5.push { cls:=.type "tuple",data:=.seq #[x,y] }) z TI TO .ellipsis:=Ag _ gz5
 refine Aa (Iv gz6 (by simp) λh7 gz7 s7=>?_)
 replace gz7:IsZip h7 z TI TO (Ff h5.objs.size):=gz7
 refine Iv gz7 (by simp) λh8 gz8 s8=>?_
 replace gz8:IsZip h8 z TI TO (Ff h5.objs.size):=gz8
 have up:∀c o,c≠z->h5.get? c=some o->h8.get? c=some o:=λc o c1 e=>(s8.2 c c1).trans ((s7.2 c c1).trans (Ag _ e))
 have gT:Ga h8 h5.objs.size x y:=(s8.2 _ (Qu zl)).trans ((s7.2 _ (Qu zl)).trans (Au _ rfl))
 have z8:h8.objs.size=h5.objs.size+1:=by rw[s8.1,s7.1,Hf]
 rw[sz] at gz8 gT z8
 refine Ae ⟨_,rfl,?_⟩
 show Q (.ref h5.objs.size) _
 rw[sz]
 exact k x y h8 tk2 px py gz8 (up _ _ ap.toz gO5) (D1.frame _ _ _ g15 λb hb o q=>up b o (Hd ap.zf1 hb) q) (D2.frame _ _ _ g25 λb hb o q=>up b o (Hd ap.zf2 hb) q) gT z8 λc o c1 c2 c3 c4 e=>up c o c1 (k5 c o c1 c2 c3 c4 e)
theorem v9{a b:Value}{Q:Fin->Ai->Prop}(D1:Draws prog w A i1 f1 n1 P1 S1)(D2:Draws prog w A i2 f2 n2 P2 S2)(ap:ZApart z TI TO i1 i2 f1 f2)(gz:IsZip s.heap z TI TO .none)(gI:Ga s.heap TI (.ref i1) (.ref i2))(gO:Ga s.heap TO a b)(g1:S1 i s.heap)(g2:S2 i s.heap)(hn:i=n1\/(i<n1/\i=n2))(k:∀h' e tk,(∀c o,c≠z->c≠TO->c≠i1->c≠i2->s.heap.get? c=some o->h'.get? c=some o)->(∃o,h'.get? e=some o/\o.cls=.type "StopIteration")->E (.ref e) { s with heap:=h',toks:=tk }):wpAny (model prog w) A (Builtin.«zip.__next__» ⟨[.ref z],[]⟩) Q E s:=by
 w_pre m
 replace gz1:IsZip h1 z TI TO .ellipsis:=gz1
 replace s1:Cv z hp h1:=s1
 refine Aa ?_
 w_pre m0
 rcases hn with rfl | ⟨l1,rfl⟩
 ·refine Aa (D1.done _ _ _ g11 λh2 e x2 he=>?_)
  obtain ⟨oe,ge,ce⟩:=he
  replace x2:Xe i1 h1 h2:=x2
  have gz2:IsZip h2 z TI TO .ellipsis:=x2 _ _ ap.z1.symm gz1
  have ez:e≠z:=λx=>by subst x; rw[gz2] at ge; cases ge; simp at ce
  exact Iv gz2 (by simp) λh3 _ s3=>k h3 e _ (λc o c1 _ c3 _ x=>(s3.2 c c1).trans (x2 _ _ c3 ((s1.2 c c1).trans x))) ⟨oe,(s3.2 e ez).trans ge,ce⟩
 ·refine Aa (D1.item _ _ _ _ l1 g11 λx h2 tk1 px g12 s2=>Ae ?_)
  replace s2:Cv i1 h1 h2:=s2
  have gO2:Ga h2 TO a b:=(s2.2 TO ap.to1).trans ((s1.2 TO ap.toz).trans gO)
  w_pre f10
  replace s3:Cv TO h2 h3:=s3
  refine Aa (wpAny_letGo (Ae (Aa (Aa (fA ?_)))))
  have g23:S2 i h3:=D2.frame _ _ _ g21 λb hb o q=>(s3.2 b (Hd ap.of2 hb)).trans ((s2.2 b (Hd ap.if2 hb)).trans q)
  show wpAny _ _ (bind (Cf (.ref i2)) _) _ _ _
  refine Aa (D2.done _ _ _ g23 λh4 e x4 he=>?_)
  obtain ⟨oe,ge,ce⟩:=he
  replace x4:Xe i2 h3 h4:=x4
  have gz4:IsZip h4 z TI TO .ellipsis:=x4 _ _ ap.z2.symm ((s3.2 z ap.toz.symm).trans ((s2.2 z ap.z1.symm).trans gz1))
  have ez:e≠z:=λx=>by subst x; rw[gz4] at ge; cases ge; simp at ce
  exact Iv gz4 (by simp) λh5 _ s5=>k h5 e _ (λc o c1 c2 c3 c4 x=>(s5.2 c c1).trans (x4 _ _ c4 ((s3.2 c c2).trans ((s2.2 c c3).trans ((s1.2 c c1).trans x))))) ⟨oe,(s5.2 e ez).trans ge,ce⟩
theorem wN{a b:Value}{Q:Option Value->Ai->Prop}(D1:Draws prog w A.in1 i1 f1 n1 P1 S1)(D2:Draws prog w A.in1 i2 f2 n2 P2 S2)(ap:ZApart z TI TO i1 i2 f1 f2)(gz:IsZip s.heap z TI TO .none)(gI:Ga s.heap TI (.ref i1) (.ref i2))(gO:Ga s.heap TO a b)(g1:S1 i s.heap)(g2:S2 i s.heap)(l1:i<n1)(l2:i<n2)(k:∀x y h' tk,P1 i x->P2 i y->IsZip h' z TI TO (Ff s.heap.objs.size)->Ga h' TO x y->S1 (i+1) h'->S2 (i+1) h'->Ga h' s.heap.objs.size x y->h'.objs.size=s.heap.objs.size+1->(∀c o,c≠z->c≠TO->c≠i1->c≠i2->s.heap.get? c=some o->h'.get? c=some o)->Q (some (.ref s.heap.objs.size)) { s with heap:=h',toks:=tk }):wpAny (model prog w) A (Ji (.ref z)) Q E s:=by
 w_pre f2
 exact xP D1 D2 ap gz gI gO g1 g2 l1 l2 λx y h' tk p1 p2 a1 a2 a3 a4 a5 a6 a7=>Ae (k x y h' tk p1 p2 a1 a2 a3 a4 a5 a6 a7)
theorem xO{a b:Value}{Q:Option Value->Ai->Prop}(D1:Draws prog w A.in1 i1 f1 n1 P1 S1)(D2:Draws prog w A.in1 i2 f2 n2 P2 S2)(ap:ZApart z TI TO i1 i2 f1 f2)(gz:IsZip s.heap z TI TO .none)(gI:Ga s.heap TI (.ref i1) (.ref i2))(gO:Ga s.heap TO a b)(g1:S1 i s.heap)(g2:S2 i s.heap)(hn:i=n1\/(i<n1/\i=n2))(k:∀h' tk,(∀c o,c≠z->c≠TO->c≠i1->c≠i2->s.heap.get? c=some o->h'.get? c=some o)->Q none { s with heap:=h',toks:=tk }):wpAny (model prog w) A (Ji (.ref z)) Q E s:=by
 w_pre f2
 refine v9 D1 D2 ap gz gI gO g1 g2 hn λh' e tk x ⟨o,ho,hc⟩=>?_
 exact Aa (Ip (T := "StopIteration") (b:=true) ⟨o,ho,hc⟩ isSubtype_stop (Ae (k h' tk x)))
end
abbrev GH(h:Heap)(d:Addr)(n ep:Nat):Heap:=h.push { cls:=.type "dict_keyiterator",data:=.fields #[.ref d,.int 0 0,.int n 0,.int ep 0] }
abbrev IP(h:Heap)(d:Addr)(n ep:Nat)(l:Addr):Heap:=(GH h d n ep).push { cls:=.type "list_iterator",data:=.fields #[.ref l,.int 0 0] }
abbrev IW(h:Heap)(d:Addr)(n ep:Nat)(l:Addr):Heap:=(IP h d n ep l).push { cls:=.type "tuple",data:=.seq #[.ref h.objs.size,.ref (GH h d n ep).objs.size] }
abbrev IK(h:Heap)(d:Addr)(n ep:Nat)(l:Addr):Heap:=(IW h d n ep l).push { cls:=.type "tuple",data:=.seq #[.none,.none] }
abbrev EJ(h:Heap)(d:Addr)(n ep:Nat)(l:Addr):Heap:=(IK h d n ep l).push { cls:=.type "zip",data:=.fields #[.none,.bool false,.bool false,.ref (IP h d n ep l).objs.size,.ref (IW h d n ep l).objs.size] }
theorem oM(d l:Addr)(es:Array Kg)(ep:Nat)(ys:Array Value)(hd:(d == Hg)=false):Meets (Builtin.«zip.__new__» ⟨[.type "zip",.ref d,.ref l],[]⟩) (λ_ R s=>fT s.heap d es ep/\s.heap.IsList l ys/\R (.ok (.ret (.ref (IK s.heap d es.size ep l).objs.size))) { s with heap:=EJ s.heap d es.size ep l }) :=
 .of_wp λprog w A R s h=>by
  obtain ⟨hp,g,dd,tk,os⟩:=s
  obtain ⟨hE,hL,q⟩:=h
  have hsub:=sub_zip
  have h1:fT (Shared.heap ⟨hp,g,dd,tk,os⟩) d es ep:=hE
  have h2:Heap.IsList (Shared.heap ⟨GH hp d es.size ep,g,dd,tk,os⟩) l ys:=Heap.IsList.push hL _
  wp_walk using yB hd h1,iW h2
  exact ⟨_,rfl,q⟩
section
variable{prog:Bk}{w:World}{A:Ci}{E:Value->Ai->Prop}{s:Ai}
theorem rX{d l:Addr}{es:Array Kg}{ep:Nat}{ys:Array Value}{Q:Value->Ai->Prop}(hd:(d == Hg)=false)(hE:fT s.heap d es ep)(hL:s.heap.IsList l ys)(k:∀h',IsZip h' (s.heap.objs.size+4) (s.heap.objs.size+2) (s.heap.objs.size+3) .none->Ga h' (s.heap.objs.size+2) (.ref s.heap.objs.size) (.ref (s.heap.objs.size+1))->Ga h' (s.heap.objs.size+3) .none .none->h'.IsKeyIter s.heap.objs.size d 0 es.size ep->h'.IsListIter (s.heap.objs.size+1) l 0->(∀c o,s.heap.get? c=some o->h'.get? c=some o)->Q (.ref (s.heap.objs.size+4)) { s with heap:=h' }):wpAny (model prog w) A (call (.type "zip") [.ref d,.ref l]) Q E s:=by
 refine callType_new PySem.F.called_zip (by decide) (PySem.F.typeCall_zip_2 _ _) (PySem.F.newCall_zip_2 _ _) (λobj=>PySem.F.args_object_init_3 obj _ _) PySem.F.entry_zip_new (oM d l es ep ys hd) ⟨hE,hL,?_⟩
 have e1:(GH s.heap d es.size ep).objs.size=s.heap.objs.size+1:=Hf ..
 have e2:(IP s.heap d es.size ep l).objs.size=s.heap.objs.size+2:=by rw[Hf,e1]
 have e3:(IW s.heap d es.size ep l).objs.size=s.heap.objs.size+3:=by rw[Hf,e2]
 have e4:(IK s.heap d es.size ep l).objs.size=s.heap.objs.size+4:=by rw[Hf,e3]
 have p1:∀{h:Heap} {a:Addr} {u:Obj} (o:Obj),h.get? a=some u->(h.push o).get? a=some u:=λo e=>Ag _ e
 have g5:(EJ s.heap d es.size ep l).get? (IK s.heap d es.size ep l).objs.size=some _:=Au _ rfl
 have g4:(EJ s.heap d es.size ep l).get? (IW s.heap d es.size ep l).objs.size=some _:=p1 _ (Au _ rfl)
 have g3:(EJ s.heap d es.size ep l).get? (IP s.heap d es.size ep l).objs.size=some _:=p1 _ (p1 _ (Au _ rfl))
 have g2:(EJ s.heap d es.size ep l).get? (GH s.heap d es.size ep).objs.size=some _:=p1 _ (p1 _ (p1 _ (Au _ rfl)))
 have g1:(EJ s.heap d es.size ep l).get? s.heap.objs.size=some _:=p1 _ (p1 _ (p1 _ (p1 _ (Au _ rfl))))
 show _/\_
 rw[e2,e3,e4] at g5
 rw[e1,e2] at g3
 rw[e3] at g4
 rw[e1] at g2
 rw[e4]
 exact ⟨⟨_,g5,rfl⟩,k _ g5 g3 g4 ⟨_,g1,rfl,rfl⟩ ⟨_,g2,rfl,rfl⟩ λc o x=>p1 _ (p1 _ (p1 _ (p1 _ (p1 _ x))))⟩
end
theorem sQ{P:Bk}{w:World}{H:Hp}{h:Heap}{a:Addr}{kvs:List (List Lc×V)}(ok:Wi P w H h)(e:H a=some (.dT kvs)):∃(es:Array Kg),(a == Hg)=false/\fT h a es kvs.length/\es.size=kvs.length/\∀(i:Nat) (x:Kg),es[i]? = some x->∃k b v,kvs[i]? = some (k,v)/\x.key=.ref b/\H b=some (.tup (k.map kV))/\k.length<=Ay:=by
 obtain ⟨_,hd,xs,rel,o,es,ep,h1,h2,h3,h4,_,hep⟩:=(show Kb P w H h a (.dT kvs) from ok a _ e)
 have hl:es.size=kvs.length:=by
  have:=congrArg Ja h4
  rw[Ad,<- Paired.length rel] at this
  simpa using this
 refine ⟨es,hd,⟨o,h1,h2,by rw[h3,hep,hl]⟩,hl,λi x hx=>?_⟩
 have hx':es.toList[i]? = some x:=by rw[Ft]; exact hx
 rw[h4,Bg] at hx'
 cases q:xs[i]? with
 | none=>rw[q] at hx'; cases hx'
 | some y =>
  rw[q] at hx'
  cases hx'
  have go:∀{kvs:List (List Lc×V)} {xs:List (List Lc×Addr×Value)} {i:Nat},Paired (λ(p:List Lc×V) (q:List Lc×Addr×Value)=>p.1=q.1/\H q.2.1=some (.tup (p.1.map kV))/\RelV p.2 q.2.2) kvs xs->xs[i]? = some y->∃p,kvs[i]? = some p/\H y.2.1=some (.tup (p.1.map kV)):=by
   intro kvs xs i r
   induction r generalizing i with
   | nil=>intro z; simp at z
   | cons hp _ ih =>
    intro z
    cases i with
    | zero=>simp at z; subst z; exact ⟨_,rfl,hp.2.1⟩
    | succ j=>exact ih (by simpa using z)
  obtain ⟨p,hp1,hp2⟩:=go rel q
  refine ⟨p.1,y.2.1,p.2,hp1,rfl,hp2,?_⟩
  have:=(show Kb P w H h y.2.1 (.tup (p.1.map kV)) from ok _ _ hp2).1
  rwa [Ad] at this
def CA(K:PySem.W.Frag)(a b:Addr)(n:Nat):It :=
  ⟨λi H=>∃kv ys y,H a=some (.dT kv)/\kv.length=n/\Mp K H b ys/\i<n/\ys[i]? = some y,
   λi H x H'=>∃p t k v u,x=.ref p/\H p=none/\H'=upd H p (.tup [.ref t,u])/\(∀kv,H a=some (.dT kv)->kv[i]? = some (k,v))/\H t=some (.tup (k.map kV))/\k.length<=Ay/\∀ys,Mp K H b ys->ys[i]? = some u,
   λi H=>∃kv ys,H a=some (.dT kv)/\kv.length=n/\Mp K H b ys/\(i=n\/(i<n/\i=ys.length))⟩
theorem xV{P:Bk}{w:World}{K:PySem.W.Frag}{elts:List Expr}{k:Nat}{pos:Pos}{n:Nat}(a b z TI TO i1 i2:Addr)(ap:ZApart z TI TO i1 i2 [i1,a] [i2,b])(na:a≠i1)(nb:b≠i2):Turn P w K (.Tuple elts k pos) (CA K a b n) [z,TI,TO,i1,i2] z (λi h=>IsZip h z TI TO .none/\Ga h TI (.ref i1) (.ref i2)/\(∃u v,Ga h TO u v)/\h.IsKeyIter i1 a i n n/\h.IsListIter i2 b i) where
 mem:=Ab
 obj:=λi h st c hc=>by
  w_pre u
 keep:=λi h h' st kp=>by
  w_pre v4
 item:=by
  w_pre u4
  obtain ⟨kv,ys,y,ha,rfl,hq2,hx,hy⟩:=hg
  w_pre z
  have ly:i<its2.length:=by
   have:=(Ax.mp hy).1
   omega
  have zl:z<s.heap.objs.size:=Ar hz
  have TIl:TI<s.heap.objs.size:=Ar hTI
  have TOl:TO<s.heap.objs.size:=Ar hTO
  have i1l:i1<s.heap.objs.size:=by obtain ⟨_,q,_⟩:=hi1; exact Ar q
  have i2l:i2<s.heap.objs.size:=by obtain ⟨_,q,_⟩:=hi2; exact Ar q
  refine wN D1 D2 ap hz hTI hTO ⟨by rw[hes]; exact hi1,by rw[hes]; exact hE⟩ ⟨hi2,p2.isList⟩ (by omega) (by simpa using ly) λu1 u2 h1 tk q1 q2 a1 a2 a3 a4 a5 a6 hk=>⟨_,rfl,zE (s:={ s with heap:=h1,toks:=tk }) a1 λh2 he2 hs2=>?_⟩
  have hs2':Cv z h1 h2:=hs2
  obtain ⟨x1,ex1,rfl⟩:=q1
  obtain ⟨kk,bb,vv,ek,eb,hb,hkl⟩:=hent i x1 ex1
  rw[eb] at a2 a5
  have q2':its2[i]? = some u2:=by simpa using q2
  obtain ⟨u2',hu2,ru2⟩:=rv2.get hy
  rw[q2'] at hu2
  cases hu2
  have I1:Inv X pins σ (upd H s.heap.objs.size (.tup [.ref bb,y])) { s with heap:=s.heap.push { cls:=.type "tuple",data:=.seq #[.ref bb,u2] } } :=
   I.laid (t':=s.toks) (λb o q=>Ag _ q) (Aj _) ⟨by show 2<=Ay; decide,[.ref bb,u2],.cons rfl (.cons ru2 .nil),_,Au _ rfl,rfl,0,rfl⟩
  have nT:∀c∈[z,TI,TO,i1,i2],c≠s.heap.objs.size:=λc hc=>by
   w_pre l5
  have fr:∀c∈[z,TI,TO,i1,i2],(upd H s.heap.objs.size (.tup [.ref bb,y])) c=none:=λc hc=>by rw[Dw (nT c hc)]; exact (hf c hc).1
  refine ⟨.ref s.heap.objs.size,_,Ln (fp:=[z,TI,TO,i1,i2]) (s:={ s with heap:=s.heap.push { cls:=.type "tuple",data:=.seq #[.ref bb,u2] } }) (h':=h2) (t':=tk) I1 (λc o hc q=>?_) (λc hc=>⟨fr c hc,(hf c hc).2⟩),rfl,⟨_,bb,kk,vv,y,rfl,I.hok.fresh (Aj _),rfl,(λkv' h'=>by rw[ha] at h'; cases h'; exact ek),hb,hkl,λzs hzs=>by rw[I.list_inj hzs hq2]; exact hy⟩,⟨he2,?_,⟨.ref bb,u2,?_⟩,?_,?_⟩,fr⟩
  ·simp only[Ak,Az,or_false,not_or] at hc
   w_pre i6
   ·subst hbT
    have q':=(Au s.heap (o:={ cls:=.type "tuple",data:=.seq #[.ref bb,u2] }) rfl).symm.trans q
    w_pre h7
   ·refine hk c o hc.1 hc.2.2.1 hc.2.2.2.1 hc.2.2.2.2 ?_
    have q0:(s.heap.push { cls:=.type "tuple",data:=.seq #[.ref bb,u2] }).get? c=some o:=q
    w_pre w3
  ·exact (hs2'.2 TI ap.tiz).trans (hk TI _ ap.tiz ap.tito ap.ti1 ap.ti2 hTI)
  ·exact (hs2'.2 TO ap.toz).trans a2
  ·rw[hes] at a3
   exact a3.1.at λo q=>(hs2'.2 i1 ap.z1).trans q
  ·exact a4.1.at λo q=>(hs2'.2 i2 ap.z2).trans q
 done:=by
  w_pre u4
  obtain ⟨kv,ys,ha,rfl,hq2,hx⟩:=hg
  w_pre z
  refine xO D1 D2 ap hz hTI hTO ⟨by rw[hes]; exact hi1,by rw[hes]; exact hE⟩ ⟨hi2,p2.isList⟩ ?_ λh1 tk hk=>⟨rfl,Ln (fp:=[z,TI,TO,i1,i2]) (t':=tk) I (λc o hc q=>?_) hf⟩
  ·rw[hes,Av]
   omega
  w_pre p5
 self:=λ_ _ _ _ _ st h=>Pw st.1 h
theorem DK(I a b:Nat)(h1:a<I)(h2:b<I):ZApart (I+4) (I+2) (I+3) I (I+1) [I,a] [I+1,b]:=by
 constructor <;> (first | (intro e; have e':(_:Nat)=_:=e; omega) | (intro e; simp only[Ak,Az,or_false] at e; rcases e with e | e <;> (have e':(_:Nat)=_:=e; omega)))
section
variable{X:Cx}
def EU(K:PySem.W.Frag)(ta:TA):TI:=λσ H R=>ta σ H λvs H1=>∃a b kv,vs=[.ref a,.ref b]/\H1 a=some (.dT kv)/\(∃ys,Mp K H1 b ys)/\R (CA K a b kv.length) H1
theorem T3{elts:List Expr}{k:Nat}{tp:Pos}{a b:Expr}{ta:TA}{p pos:Pos}(hg:Gl X "zip")(hm:X.mg "zip" = none)(ha:PA X [a,b] ta)(hs:Bj [a,b] X.env=(false,eval a X.env)::Bj [b] X.env:=by rfl)(hp:(Hh pos (Bj [b] X.env)).any (·.1)=false:=by rfl):PI X (.Tuple elts k tp) (.Call (.Name "zip" p) [a,b] [] pos) (EU X.K ta):=by
 w_pre x4
 obtain ⟨l1,l2,kv,e,hq1,⟨ys,hq2⟩,q⟩:=q1
 subst e
 obtain ⟨u1,u2,rfl,ru1,ru2⟩:=vals2 r1
 cases ru1
 cases ru2
 obtain ⟨es,hd,hE,hes,hent⟩:=sQ I1.hok hq1
 obtain ⟨its2,rv2,pl2,hz2⟩:=I1.list hq2
 have hlt1:l1<s1.heap.objs.size:=let ⟨o,q,_⟩:=hE; Ar q
 have hlt2:l2<s1.heap.objs.size:=let ⟨o,q,_⟩:=pl2.isList; Ar q
 refine rX hd hE pl2.isList λh2 hz hTI hTO hi1 hi2 hk=>Pw hz ?_
 have fr1:∀n,La X pins H1 (s1.heap.objs.size+n):=λn=>I1.fpOk (Ju _ _) (I1.hok.fresh (Ju _ _))
 have fr:∀c∈[s1.heap.objs.size+4,s1.heap.objs.size+2,s1.heap.objs.size+3,s1.heap.objs.size,s1.heap.objs.size+1],La X pins H1 c:=λc hc=>by
  w_pre a0
 rw[hes] at hi1
 exact ⟨s1.heap.objs.size+4,_,_,_,H1,rfl,I1.kept (t':=s1.toks) hk,xV l1 l2 _ _ _ _ _ (DK _ _ _ hlt1 hlt2) (Bm hlt1) (Bm (Hq hlt2)),⟨hz,hTI,⟨_,_,hTO⟩,hi1,hi2⟩,fr,q⟩
end
section
variable{prog:Bk}{w:World}{A:Ci}{R:Result->Ai->Prop}{s:Ai}
theorem nO{kx vx tg iter:Expr}{ifs:List Expr}{scope:Scope}{pos:Pos}{it:Value}{D:Addr}{env:Env}(J:Nat->Ai->Prop) (turn:∀n s,J n s->wpAny (model prog w) A (Ji it) (λr s1=>match r with
    | none=>R (.ok .next) s1
    | some v=>wpAny (model prog w) A (Hz tg it v) (λ_ s2=>wpAny (model prog w) A (Nr tg env v) (λ_ s3 =>
      wpAny (model prog w) A (forIn ifs true λc r=>if r=true then (do
        let ok <- isTrue c env (eval c env)
        pure (Et ok)) else pure (Et r)) (λok s4 =>
       if ok=true then
        wpAny (model prog w) A (eval kx env) (λk s5=>wpAny (model prog w) A (eval vx env) (λy s6=>wpAny (model prog w) A (dictSet D k y) (λ_ s7=>∃m,m<n/\J m s7) (λ_ _=>False) s6) (λ_ _=>False) s5) (λ_ _=>False) s4
       else ∃m,m<n/\J m s4) (λ_ _=>False) s3) (λ_ _=>False) s2) (λ_ _=>False) s1) (λ_ _=>False) s)
  (n:Nat) (h:J n s):Hb (model prog w) A (.compLoop (.DictComp kx vx [⟨tg,iter,ifs,0⟩] scope pos) 0 it (.ref D) env) R s:=by
 refine iX rfl J (λn s hJ=>wpAny_noted ?_) n h
 rw[compTurn_dict]
 w_pre e8
 cases r with
 | none=>exact Ae h1
 | some v =>
  refine Aa (Cu h1 (λ_ s2 h2=>Aa (Cu h2 (λ_ s3 h3=>Aa (Cu h3 (λok s4 h4=>?_) λ_ _ z=>z.elim)) λ_ _ z=>z.elim)) λ_ _ z=>z.elim)
  cases ok with
  | false=>exact Ae ⟨rfl,h4⟩
  | true =>
   refine Aa (Aa (Cu h4 (λk s5 h5=>Aa (Ct (Cu h5 (λy s6 h6=>?_) λ_ _ z=>z.elim))) λ_ _ z=>z.elim))
   exact Aa (Hk (Ct (Cu h6 (λ_ s7 h7=>Ae ⟨rfl,h7⟩) λ_ _ z=>z.elim)))
end
section
variable{X:Cx}{pins:List (Addr×Obj)}{σ:L2.St}{H:Hp}{s:Ai}{a b:Addr}{v:V}{r:Value}{A:Ci}{E:Value->Ai->Prop}{kvs:List (List Lc×V)}{k:List Lc}
theorem yY{Q:Unit->Ai->Prop}(hu:A.units+1<cLine)(I:Inv X pins σ H s)(e:H a=some (.dT kvs))(eb:H b=some (.tup (k.map kV)))(l:kvs.length<Ay)(rv:RelV v r)(h:∀s',Inv X pins σ (upd H a (.dT (Vz kvs k v))) s'->Q () s'):wpAny (model X.prog X.w) A (dictSet a (.ref b) r) Q E s:=by
 w_pre m2
 refine qE (hz:=hz) (show (Px _).room A from Nat.lt_of_succ_lt hu) (cT I.hok eb) dd λh' dd' hs=>h _ ?_
 obtain ⟨q,es,ep,hq,h2,h3,h4,_,h5⟩:=dd'
 refine vO I (by rw[e]; exact True.intro) hs ⟨q,hq⟩ ⟨hl,hd,_,(rel.put k eb rv).keeps λc ys ec=>(Dw (X4 ec e (λz=>nomatch z))).trans ec,q,es,ep,hq,h2,h3,h4,h5⟩
end
section
variable{X:Cx}
def O6(K:PySem.W.Frag)(J:It)(js:List Nat)(tc:TT)(tk tv:TE)(σ:L2.St)(H1:Hp)(Q:VK):Prop:=∀D,H1 D=none->∃W:Nat->Nat->Hp->Prop,(∃m,W 0 m (upd H1 D (.dT [])))/\∀i m H,W i m H ->
 (J.stop i H/\Q (.ref D) H)\/(J.go i H/\∀x H',J.yld i H x H'->∃(t:Addr) (w1 w2:V),x=.ref t/\Rq K H' t [w1,w2]/\∃(N1:Hp->Prop) (N2:V->VK),(∀H2,N1 H2->∃m',m'<m/\W (i+1) m' H2) /\
  (∀kv vv H3,N2 kv vv H3->∃kvs k b,H3 D=some (.dT kvs)/\kv=.ref b/\H3 b=some (.tup (k.map kV))/\kvs.length<Ay/\∃m',m'<m/\W (i+1) m' (upd H3 D (.dT (Vz kvs k vv)))) /\
  tc (some w1::some w2::Eh σ js) H' λc H2=>if c=true then tk (some w1::some w2::Eh σ js) H2 (λkv H3=>tv (some w1::some w2::Eh σ js) H3 (N2 kv)) else N1 H2)
def vP(K:PySem.W.Frag)(wi:TI)(js:List Nat)(tc:TT)(tk tv:TE):TE:=λσ H Q=>wi σ H λJ H1=>O6 K J js tc tk tv σ H1 Q
theorem xY{kx vx iter:Expr}{x x2:Str}{px px2 pt pos:Pos}{kt:Nat}{ifs:List Expr}{scope:Scope}{cl:List (Str×Addr)}{ys:List Str}{js:List Nat}{wi:TI}{tc:TT}{tk tv:TE}(C:CompScope X scope cl x ys js)(own2:Zy scope x2)(nd2:(x::x2::ys).Nodup)(hc:X.calm=true)(hu:X.A.units+1<cLine)(hi:PI X (.Tuple [.Name x px,.Name x2 px2] kt pt) iter wi)(ht:∀fp s H,qM (Dh X scope cl (x::x2::ys) fp s H) ifs tc)(hk:∀fp s H,PE (Dh X scope cl (x::x2::ys) fp s H) kx tk)(hv:∀fp s H,PE (Dh X scope cl (x::x2::ys) fp s H) vx tv)(hs:∀x,Da iter X.env x=pure x:=by intro _; rfl):PE X (.DictComp kx vx [⟨.Tuple [.Name x px,.Name x2 px2] kt pt,iter,ifs,0⟩] scope pos) (vP X.K wi js tc tk tv):=by
 w_pre t7
 rw[arm_eval_DictComp]
 show wpAny _ _ (comprehension _ scope X.env _ newDict false (eval iter X.env) none) _ _ s
 w_pre c0
 have I3:Inv X pins σ (upd H2 s2.heap.objs.size (.dT [])) { s2 with heap:=s2.heap.push { cls:=.type "dict",data:=.dict #[] } } :=
  I2.laid (t':=s2.toks) (λb u q=>Ag _ q) (Aj _) (nV s2.heap I2.big)
 have nfp:∀b∈fp,b≠s2.heap.objs.size:=λb hb z=>by
  obtain ⟨o,q,_⟩:=T.obj _ _ st2 b hb
  have:=Ar q
  rw[z] at this
  exact absurd this (Fc _)
 have f3:∀b∈fp,La X pins (upd H2 s2.heap.objs.size (.dT [])) b:=λb hb=>⟨by rw[Dw (nfp b hb)]; exact (f2 b hb).1,(f2 b hb).2⟩
 generalize hS3:({ s2 with heap:=s2.heap.push { cls:=.type "dict",data:=.dict #[] } }:Ai)=s3 at I3
 w_pre b1
 have I4:∀tk,Inv (Dh X scope cl (x::x2::ys) fp s3 (upd H2 s2.heap.objs.size (.dT []))) [] (none::none::Eh σ js) (upd H2 s2.heap.objs.size (.dT [])) { s3 with heap:=h4,toks:=tk }:=λtk=>Nb (pre:=[x,x2]) C I3 f3 o3 hns4 keep4 new4
 have st4:tn 0 h4:=T.keep 0 _ _ Qn λb hb o q=>keep4 b o q
 generalize hX':Dh X scope cl (x::x2::ys) fp s3 (upd H2 s2.heap.objs.size (.dT []))=X' at I4
 have eP:X'.prog=X.prog:=by rw[<- hX']; rfl
 have eW:X'.w=X.w:=by rw[<- hX']; rfl
 have eK:X'.K=X.K:=by rw[<- hX']; rfl
 have eA:X'.A=X.A:=by rw[<- hX']; rfl
 have eC:X'.calm=true:=by rw[<- hX']; exact hc
 have stat:∀{H':Hp},(∀b∈fp,H' b=none)->∀b∈fp,La X' [] H' b:=λ{H'} hn b hb=>by
  w_pre g2
 have loop:∀s5:Ai,s5={ s3 with heap:=h4,toks:=s3.toks+([]:List (Str×Value)).length } ->
   Hb (model X.prog X.w) X.A (.compLoop (.DictComp kx vx [⟨.Tuple [.Name x px,.Name x2 px2] kt pt,iter,ifs,0⟩] scope pos) 0 (.ref it) (.ref s2.heap.objs.size) (Te scope (En (s3.heap.objs.size+1) scope.names cl) s3.heap.objs.size X.env))
    (compPost (model X.prog X.w) X.A X.xe none (EP X pins σ Q) (.ref s2.heap.objs.size) s3.heap.objs.size) s5:=by
  rintro s5 rfl
  refine nO (λn s'=>∃i o o2 H',Inv X' [] (o::o2::Eh σ js) H' s'/\tn i s'.heap/\(∀b∈fp,H' b=none)/\W i n H') ?_ m0
   ⟨0,none,none,_,I4 _,st4,λb hb=>(f3 b hb).1,w0⟩
  rintro n s6 ⟨i,o,o2,H6,I6,st6,fr6,w6⟩
  rcases turn i n H6 w6 with ⟨stop,qn⟩ | ⟨go,step⟩
  ·have hd:=T.done X' eP eW eK eC i [] s6 _ H6 (λ_ _=>False) I6 (stat fr6) st6 stop
   rw[eA] at hd
   refine Fq hd λr s7 ⟨hr,I7⟩=>?_
   subst hr
   obtain ⟨m7,hn7,_⟩:=I7.loc
   have hn7':s7.heap.Ns s3.heap.objs.size m7:=by rw[<- hX'] at hn7; exact hn7
   refine ⟨m7,hn7',λh8 hs8=>?_⟩
   have I7f:H6 s3.heap.objs.size=none:=by have:=I7.free; rw[<- hX'] at this; exact this
   have b7:Un (gG X.stack) fp (upd H2 s2.heap.objs.size (.dT [])) H6 s3.heap s7.heap:=by have:=I7.base; rw[<- hX'] at this; exact this
   have ne8:∀b o,s3.heap.get? b=some o->b≠s3.heap.objs.size:=λb o q=>Bm (Ar q)
   have u8:Un (gG X.stack) fp (upd H2 s2.heap.objs.size (.dT [])) H6 s3.heap h8:=by
    refine ⟨λb o q n hb hx=>(hs8.2 b (ne8 b o q)).trans (b7.keep b o q n hb hx),λb o q n hb hx=>?_,b7.free,λb o q hx=>?_,b7.tups,b7.frzs,b7.tbls⟩
    ·obtain ⟨sl,z⟩:=b7.slot b o q n hb hx
     exact ⟨sl,(hs8.2 b (ne8 b o q)).trans z⟩
    ·obtain ⟨o',z⟩:=b7.there b o q hx
     exact ⟨o',(hs8.2 b (ne8 b o q)).trans z⟩
   have hok8:Wi X.prog X.w H6 h8:=λb ob e=>by
    have hk7:=I7.hok
    rw[eP,eW] at hk7
    refine (hk7 b ob e).stay (λc w' hcc q=>(hs8.2 c ?_).trans q) (λ_ q=>q) λ_ _ q=>q
    rintro rfl
    rcases hcc with rfl | hcc
    ·rw[I7f] at e; cases e
    ·rw[I7f] at hcc; cases hcc
   have os7:s7.os=s3.os:=by have:=I7.os; rw[<- hX'] at this; exact this
   exact ⟨.ref s2.heap.objs.size,H6,I3.call' (s':={ s7 with heap:=h8 }) (ch:=fp) os7 u8 hok8 I7.bare (λb hb=>⟨(f3 b hb).2.2.2.1,(f3 b hb).2.1,(f3 b hb).2.2.2.2.1,(f3 b hb).2.2.2.2.2⟩),rfl,qn⟩
  ·have hit:=T.item X' eP eW eK eC i [] s6 _ H6 (λ_ _=>False) I6 (stat fr6) st6 go
   w_pre q0
   obtain ⟨tp,w1,w2,ey,hsq,N1,N2,hN1,hN2,hst⟩:=step y H8 y8
   have again:∀{H9:Hp} {s9:Ai} {m':Nat},Inv X' ([]++Of fp s8.heap) (some w1::some w2::Eh σ js) H9 s9->m'<n->W (i+1) m' H9->∃m,m<n/\∃i o o2 H',Inv X' [] (o::o2::Eh σ js) H' s9/\tn i s9.heap/\(∀b∈fp,H' b=none)/\W i m H':=λ{H9 s9 m'} I9 hm w9=>by
    refine ⟨m',hm,i+1,some w1,some w2,H9,I9.unpinned,T.keep _ _ _ st8 λb hb o e=>(I9.pin (b,o) (Ah _ (Ah _ (Fm hb e)))).1,λb hb=>?_,w9⟩
    w_pre u5
   subst hX'
   have g1:PG (Dh X scope cl (x::x2::ys) fp s3 (upd H2 s2.heap.objs.size (.dT []))) (.Tuple [.Name x px,.Name x2 px2] kt pt) (o4 X.K 2 (Yl (Pj 0) (Yl (Pj 1) r9))) :=
    cW (X:=Dh X scope cl (x::x2::ys) fp s3 (upd H2 s2.heap.objs.size (.dT []))) hc (Mk (Kc (i:=0) (x:=x) nd2 rfl (Mn C.own) (Pf C.own)) (Mk (Kc (i:=1) (x:=x2) nd2 rfl (Mn own2) (Pf own2)) Ys))
   refine Fq (g1 _ s8 _ H8 y u (λσ' H'=>σ'=some w1::some w2::Eh σ js/\H'=H8) I8' r8 ⟨tp,[w1,w2],ey,hsq,rfl,_,_,rfl,_,_,rfl,rfl,rfl,rfl⟩) λ_ s9 ⟨σ9,H9,I9,e9,e9'⟩=>?_
   subst e9 e9'
   refine Fq (ht fp s3 _ _ s9 _ _ _ I9 hst) λok s10 ⟨H10,I10,q10⟩=>?_
   cases ok with
   | false =>
    rw[if_neg Bs] at q10 ⊢
    obtain ⟨m',hm,w10⟩:=hN1 _ q10
    exact again I10 hm w10
   | true =>
    rw[if_pos rfl] at q10 ⊢
    refine Fq (hk fp s3 _ _ s10 _ _ _ I10 q10) λzk s11 ⟨vk,H11,I11,r11,q11⟩=>?_
    refine Fq (hv fp s3 _ _ s11 _ _ _ I11 q11) λzv s12 ⟨vv,H12,I12,r12,q12⟩=>?_
    obtain ⟨kvs,kk,b,ha,eb,hb,hz,m',hm,w12⟩:=hN2 _ _ _ q12
    subst eb
    cases (show zk=Be b from r11)
    exact yY (X:=Dh X scope cl (x::x2::ys) fp s3 (upd H2 s2.heap.objs.size (.dT []))) (A:=X.A) hu I12 ha hb hz r12 λs13 I13=>again I13 hm w12
 exact codeAny_compStart_dict (loop _ rfl) (T.self X.A 0 _ _ _ st4 (loop _ rfl))
end
end Nd
namespace DL
open PySem PySem.Spec PyProof.Rows L2 Nd
section
variable{K:PySem.W.Frag}
theorem CC{H:Hp}{kv:List (List Lc×V)}{ks:List (List Int×Af)}{i:Nat}{k:List Lc}{v:V}(r:DRel K H kv ks)(h:kv[i]? = some (k,v)):∃w d,ks[i]? = some (w,d)/\k=Ls w:=by
 have e:=congrArg (λl=>l[i]?) r.key
 simp only[Bg,h,Option.map_some] at e
 cases q:ks[i]? with
 | none=>rw[q] at e; cases e
 | some p=>rw[q] at e; exact ⟨p.1,p.2,rfl,Ca e⟩
theorem Q2{H:Hp}{t:Addr}{w:List Int}(h:H t=some (.tup ((Ls w).map kV)))(hl:(Ls w).length<=Ay):RdF K H (.ref t) (Bf w) []:=by
 rw[lG] at h
 refine .tup h ?_ (RdFs.ints w)
 unfold Ls at hl
 rw[Ad] at hl ⊢
 exact hl
theorem zA{a b:Addr}{m m':Md}{ks:List (List Int×Af)}{es:List Af}{F G:List Addr}:IterOk K (CA K a b ks.length) [⟨some (.ref a),.dat (Jj m) (.dict (Wh ks)),F⟩,⟨some (.ref b),.dat (Jj m') (.list es),G⟩] (mdZip m m') ((ks.zip es).map λp=>.tuple [Bf p.1.1,p.2]) where
 md:=by cases m <;> cases m' <;> simp [mdZip]
 hd:=λe he=>by
  w_pre b2
 np:=λz e he=>by
  w_pre i1
 go:=λH n i h hi=>by
  w_pre h0
  rw[Ad,Hr] at hi
  exact ⟨kv,ys,ys[i],ha,Tx rel,Mp.of hb2,by omega,by simp [show i<ys.length by omega]⟩
 yld:=λH n i x H' h hi y=>by
  obtain ⟨c,kv,ks',e,ek,ha,rel,_⟩:=(Gc h Ab).dict_inv
  cases e
  obtain rfl:=Oy ek
  w_pre u9
  cases e2
  rw[Ad,Hr] at hi
  obtain ⟨p,t,k,v,u,rfl,np,rfl,y1,y2,y3,y4⟩:=y
  obtain ⟨w,d,e1,rfl⟩:=CC rel (y1 kv ha)
  have hx2:=y4 ys (Mp.of hb2)
  w_pre z8
  rw[hx2] at h21
  cases h21
  have s1:=Fg np (.tup [.ref t,u])
  refine ⟨s1,.tuple [Bf w,es[i]],F2,?_,.tup Du (by simp [Gp]) ?_,λc hc=>⟨_,Ac _ Ab,Ac _ (h23.subset hc)⟩⟩
  ·rw[Bg,show (ks.zip es)[i]? = some ((w,d),es[i]) from mF.mpr ⟨e1,by simp [show i<es.length by omega]⟩]
   rfl
  ·have:=RdFs.cons ((Q2 (K:=K) y2 y3).kp (Kp.of s1)) (RdFs.cons (h22.kp (Kp.of s1)) RdFs.nil)
   rw[Ec] at this
   exact this
 stop:=λH n h=>by
  w_pre h0
  refine ⟨kv,ys,ha,Tx rel,Mp.of hb2,?_⟩
  rw[Ad,Hr]
  omega
end
def JM(de:DE):DI:=λδ P=>de δ λx δ'=>match x with
 | .dat m (.dict X)=>∃ks,X=Wh ks/\ks.length<=1000000/\P (Jj m) (ks.map λp=>Bf p.1) δ'
 | _=>False
def E1(da:DA):DI:=λδ P=>da δ λxs δ'=>match xs with
 | [.dat m (.dict X),.dat m' (.list es)]=>∃ks,X=Wh ks/\P (mdZip m m') ((ks.zip es).map λp=>.tuple [Bf p.1.1,p.2]) δ'
 | _=>False
section
variable{X:Cx}{tg e a b:Expr}{de:DE}{da:DA}{elts:List Expr}{k:Nat}{tp p pos:Pos}
theorem jH(hg:Gl X "zip")(hm:X.mg "zip" = none)(h:mB X [a,b] da)(hs:Bj [a,b] X.env=(false,eval a X.env)::Bj [b] X.env:=by rfl)(hp:(Hh pos (Bj [b] X.env)).any (·.1)=false:=by rfl):qZ X (.Tuple elts k tp) (.Call (.Name "zip" p) [a,b] [] pos) (E1 da):=by
 refine PI.imp (T3 hg hm h hs hp) λσ H R h=>?_
 w_pre k8
 refine ⟨H0,Y,S,T,δ,_,rfl,hS,hA,hd,λxs δ1 As us S1 H1 e1 e2 ex eu hA1 p1=>?_⟩
 split at p1
 ·rename_i m X' m' es
  obtain ⟨ks,rfl,p1⟩:=p1
  obtain ⟨v1,F1,v2,F2,rfl,hA2⟩:=Xq eu hA1 ex
  obtain ⟨a,kv,ks',rfl,ek,ha,rel,_⟩:=(hA2.told mem_mid).dict_inv
  obtain rfl:=Oy ek
  obtain ⟨b,ys,G,rfl,hb,rb,rfl,hz⟩:=(hA2.told Gb).list_inv
  refine ⟨a,b,kv,rfl,ha,⟨ys,Mp.of hb⟩,?_⟩
  rw[Tx rel]
  have q1:=(hA2.mid.wk (Qp _)).tomid
  have q2:At X.K H0 Y δ1.n ((S1++[⟨some (.ref a),.dat (Jj m) (.dict (Wh ks)),F1⟩])++⟨some (.ref b),.dat m' (.list es),b::G⟩::T) H1:=by rw[Bw]; exact q1
  have q3:=(q2.mid.wk (Qp _)).tomid
  rw[Bw] at q3
  exact k _ _ δ1 _ [_,_] S1 H1 e1 e2 q3 zA (by rw[Ad,Hr]; exact Cb (Nat.min_le_right _ _) hz) p1
 w_pre y8
end
def fF(ks:List (List Int×Af)):List (List Lc×Af):=ks.map λp=>(Ls p.1,p.2)
section
variable{K:PySem.W.Frag}{H0 H H':Hp}{X:Addr->Prop}{n:Nat}{E S T:List Ent}
theorem F8{kv:List (List Lc×V)}{ks:List (List Int×Af)}(h1:kv.map (·.1)=(fF ks).map (·.1))(h2:RdFs K H (kv.map (·.2)) ((fF ks).map (·.2)) []):DRel K H kv ks:=by
 unfold fF at h1 h2
 rw[Cr] at h1 h2
 exact ⟨h1,h2⟩
theorem BI{kv:List (List Lc×V)}{ks:List (List Int×Af)}(r:DRel K H kv ks):kv.map (·.1)=(fF ks).map (·.1)/\RdFs K H (kv.map (·.2)) ((fF ks).map (·.2)) []:=by
 unfold fF
 rw[Cr,Cr]
 exact ⟨r.key,r.val⟩
theorem At.dNew(h:At K H0 X n E H){D:Addr}(hD:H D=Re):At K H0 X n (⟨some (.ref D),.dT (fF []),[D]⟩::E) (upd H D (.dT [])):=by
 have s1:=Fg hD (.dT [])
 refine (h.grow (n':=n) s1 (Aj _)).push ⟨D,[],rfl,rfl,Du,rfl,.nil⟩ (λf hf=>?_) λa ha=>?_
 w_pre y
theorem At.dPut{D:Addr}{ks:List (List Int×Af)}{w:List Int}{v:V}{e:Af}(h:At K H0 X n (⟨some (.ref D),.dT (fF ks),[D]⟩::E) H)(r:RdF K H v e []):∃kv,H D=some (.dT kv)/\kv.length=ks.length/\At K H0 X n (⟨some (.ref D),.dT (fF (Tw ks w e)),[D]⟩::E) (upd H D (.dT (Vz kv (Ls w) v))):=by
 w_pre v0
 have hE:=h.sub (Dm _ _)
 have kp:∀{F:List Addr},D∉F->Kp F H (upd H D (.dT (Vz kv (Ls w) v))):=λ{F} hF b o q z=>by
  w_pre r
 have nD:H0 D=Re:=by
  w_pre a4
 have rel':=(B8 w r rel).kp (kp Az)
 obtain ⟨g1,g2⟩:=BI rel'
 refine ⟨kv,ha,Tx rel,?_⟩
 refine ⟨λf hf=>?_,Bd.mpr ⟨λf hf=>⟨λhq a ha'=>(hs.1 f hf).1 hq a ha',λhq a ha'=>(hs.1 f hf).2 (hq.imp id id) a ha'⟩,hs.2⟩,λf hf=>?_,λb o nx q=>?_,λb o q=>?_,λb hb=>?_⟩
 rotate_right
 ·obtain ⟨z,c,k,f,h1,h2⟩:=h.xd b hb
  w_pre x3
 ·rcases Ak.mp hf with rfl | hf
  ·exact ⟨D,_,rfl,rfl,Du,g1,g2⟩
  ·exact (hE.ok f hf).kp (kp ((hs.1 f hf).1 (.inr rfl) D Ab)) (Aj _)
 ·rcases Ak.mp hf with rfl | hf
  ·intro a ha'
   rw[Al.mp ha']
   exact .inl nD
  ·exact hE.new f hf
 w_pre y1
theorem At.dGot{D:Addr}{ks:List (List Int×Af)}(h:At K H0 X n (⟨some (.ref D),.dT (fF ks),[D]⟩::E) H):At K H0 X n (⟨some (.ref D),.dat .ow (.dict (Wh ks)),[D]⟩::E) H:=by
 w_pre v0
 refine (h.sub (Dm _ _)).push ⟨_,rfl,.dic ha rel.key rel.val,λ_=>Cm.mpr ⟨Az,Ep⟩,λz=>nomatch z⟩ (λf hf=>⟨λhq a ha'=>(hs.1 f hf).1 (.inr rfl) a ha',λhq a ha'=>(hs.1 f hf).2 (.inl rfl) a ha'⟩) λa ha'=>?_
 rcases h.new _ Ab a ha' with z | z
 w_pre n5
end
def pU(yes:List Int->Af->Nat->Prop)(y z:DV)(δ:DS):Prop:=match y,z with
 | .dat _ k,.dat _ e=>∃w,k=Bf w/\imm e=true/\yes w e δ.n
 | _,_=>False
def kQ(dc:DT)(dk dv:DE)(δ:DS)(yes:List Int->Af->Nat->Prop)(no:Nat->Prop):Prop:=dc δ λc δ2=>match c with
 | true=>dk δ2 λy δ3=>dv δ3 λz δ4=>pU yes y z δ4
 | false=>no δ2.n
def lX(di:DI)(js:List Nat)(dc:DT)(dk dv:DE):DE:=λδ P=>di δ λm ds δ1=>ds.length<=1000000/\∃I:Nat->List (List Int×Af)->Nat->Prop,I 0 [] δ1.n /\
 (∀i d acc n,ds[i]? = some d->I i acc n->∃d1 d2,d=.tuple [d1,d2]/\kQ dc dk dv ⟨.dat m d1::.dat m d2::frD δ1.sl js,n⟩ (λw e n'=>I (i+1) (Tw acc w e) n') (λn'=>I (i+1) acc n')) /\
 ∀acc n,I ds.length acc n->P (.dat .ow (.dict (Wh acc))) ⟨δ1.sl,n⟩
theorem pV(ks:List (List Int×Af))(w:List Int)(d:Af):(Tw ks w d).length<=ks.length+1:=by
 unfold Tw
 split
 ·rw[Ad]; omega
 ·rw[Bn]; simp
section
variable{K:PySem.W.Frag}{H0 H H':Hp}{Y:Addr->Prop}{n:Nat}{E S T:List Ent}
theorem yX{di:DI}{js:List Nat}{dc:DT}{dk dv:DE}:∀σ H Q,LE K (lX di js dc dk dv) σ H Q->vP K (LI K di) js (LT K dc) (LE K dk) (LE K dv) σ H Q:=by
 w_pre i5
 w_pre g9
 obtain ⟨hz1,I,h0,hs,hf⟩:=p1
 have hz2:=pF (n:=1000000) (Aj _)
 rw[<- e1]
 intro D hD
 refine ⟨λi q H=>q=ds.length - i/\i<=ds.length/\∃acc n,At K H0 Y n (⟨some (.ref D),.dT (fF acc),[D]⟩::(S1++(hid++T))) H/\acc.length<=i/\I i acc n,⟨ds.length,by simp,Dq _,[],δ1.n,hA1.dNew hD,Aj _,h0⟩,?_⟩
 rintro i q H ⟨rfl,hi,acc,n,hA2,hl,hI⟩
 have hid_ok:∀e∈hid,Iu K H n e:=λe he=>hA2.ok e (Ac _ (Ah _ (Ao _ he)))
 by_cases hlt:i<ds.length
 ·refine .inr ⟨it.go H n i hid_ok hlt,λx H' y=>?_⟩
  w_pre q2
  cases rt with
  | @cons w1 _ xs _ F1 _ r1 rt =>
   cases rt with
   | @cons w2 _ xs _ F2 G r2 rt =>
    cases rt
    have hA3:At K H0 Y n ((⟨some (.ref D),.dT (fF acc),[D]⟩::S1)++⟨some w1,.dat m d1,F1⟩::(hid++T)) H':=At.item (S:=⟨some (.ref D),.dT (fF acc),[D]⟩::S1) hA2 s1 r1 (λa ha=>h3 a (Ao _ ha)) it.md it.hd it.np
    have hA3':At K H0 Y n ((⟨some w1,.dat m d1,F1⟩::⟨some (.ref D),.dT (fF acc),[D]⟩::S1)++(hid++T)) H':=hA3.mid
    have hA3'':At K H0 Y n ((⟨some w1,.dat m d1,F1⟩::⟨some (.ref D),.dT (fF acc),[D]⟩::S1)++⟨some w2,.dat m d2,F2⟩::(hid++T)) H':=At.item hA3' (Th.refl _) r2 (λa ha=>h3 a (Ah _ (Ao _ ha))) it.md it.hd it.np
    have hA4:At K H0 Y n (⟨some w1,.dat m d1,F1⟩::⟨some w2,.dat m d2,F2⟩::⟨some (.ref D),.dT (fF acc),[D]⟩::(S1++(hid++T))) H':=hA3''.mid.perm (Ek _ _ _)
    have hA5:=At.view (S:=S1) hA4 (λe he=>Ac _ (Ac _ (Ac _ (Ao _ he)))) js
    have hA6:At K H0 Y n ((⟨some w1,.dat m d1,F1⟩::⟨some w2,.dat m d2,F2⟩::fS S1 js)++⟨some (.ref D),.dT (fF acc),[D]⟩::(S1++(hid++T))) H':=by
     w_pre f4
    have hS6:Sl (⟨some w1,.dat m d1,F1⟩::⟨some w2,.dat m d2,F2⟩::fS S1 js) ⟨.dat m d1::.dat m d2::frD δ1.sl js,n⟩:=by
     unfold Sl
     rw[Ap,Ap,nR e2]
    have hv:vs (⟨some w1,.dat m d1,F1⟩::⟨some w2,.dat m d2,F2⟩::fS S1 js)=some w1::some w2::Eh (vs S1) js:=by
     rw[<- pM]
     rfl
    refine ⟨t,w1,w2,rfl,Rq.of ht,λH2=>∃m',m'<ds.length - i/\_,λkx vx H3=>∃(kvs:List (List Lc×V)) (k:List Lc) (b:Addr),H3 D=some (.dT kvs)/\kx=.ref b/\H3 b=some (.tup (k.map kV))/\kvs.length<Ay/\∃m',m'<ds.length - i/\_,λH2 q=>q,λkx vx H3 q=>q,?_⟩
    rw[<- hv]
    refine ⟨H0,Y,_,⟨some (.ref D),.dT (fF acc),[D]⟩::(S1++(hid++T)),_,_,rfl,hS6,hA6,hst,λc δ2 S2 H2 f1 f2 hA7 p2=>?_⟩
    cases c with
    | false=>exact sH ⟨ds.length - (i+1),by omega,rfl,hlt,acc,δ2.n,hA7.sub (Bu _ _),by omega,p2⟩
    | true =>
     refine tH ⟨H0,Y,S2,⟨some (.ref D),.dT (fF acc),[D]⟩::(S1++(hid++T)),δ2,_,f1,f2,hA7,p2,λyk δ3 vk Fk S3 H3 f3 f4 hA8 p3=>?_⟩
     refine ⟨H0,Y,S3,⟨some vk,yk,Fk⟩::⟨some (.ref D),.dT (fF acc),[D]⟩::(S1++(hid++T)),δ3,_,f3,f4,hA8,p3,λyv δ4 vv Fv S4 H4 f5 f6 hA9 p4=>?_⟩
     unfold pU at p4
     split at p4
     ·rename_i mk dk0 mv dv0
      obtain ⟨w,rfl,im,p5⟩:=p4
      obtain ⟨b,rfl,hb⟩:=bW (hA9.told Gb)
      have r:=hA9.told mem_mid
      obtain rfl:=r.imm im
      have hA10:At K H0 Y δ4.n (⟨some (.ref D),.dT (fF acc),[D]⟩::(S1++(hid++T))) H4:=hA9.drop2.sub (Bu _ _)
      obtain ⟨kv,g1,g2,g3⟩:=hA10.dPut (w:=w) r
      have:=pV acc w dv0
      exact ⟨kv,Ls w,b,g1,rfl,hb,by omega,ds.length - (i+1),by omega,rfl,hlt,Tw acc w dv0,δ4.n,g3,by omega,p5⟩
     ·exact p4.elim
 ·have e:i=ds.length:=by omega
  subst e
  refine .inl ⟨it.stop H n hid_ok,k _ ⟨δ1.sl,n⟩ _ [D] S1 H e1 e2 ?_ (hf acc n hI)⟩
  have hA4:At K H0 Y n (⟨some (.ref D),.dat .ow (.dict (Wh acc)),[D]⟩::(S1++T)) H:=hA2.dGot.sub (((Co S1).append (Bu hid T)).cons₂ _)
  exact hA4.tomid
end
section
variable{X:Cx}{kx vx iter:Expr}{x x2:Str}{px px2 pt pos:Pos}{kt:Nat}{ifs:List Expr}{scope:Scope}{cl:List (Str×Addr)}{ys:List Str}{js:List Nat}{di:DI}{dc:DT}{dk dv:DE}
theorem yV(hu:X.A.units+64<cLine)(C:CompScope X scope cl x ys js)(own2:Zy scope x2)(nd2:(x::x2::ys).Nodup)(hc:X.calm=true)(hi:qZ X (.Tuple [.Name x px,.Name x2 px2] kt pt) iter di)(ht:∀fp s H,qM (Dh X scope cl (x::x2::ys) fp s H) ifs (LT X.K dc))(hk:∀fp s H,Gr (Dh X scope cl (x::x2::ys) fp s H) kx dk)(hv:∀fp s H,Gr (Dh X scope cl (x::x2::ys) fp s H) vx dv)(hs:∀x,Da iter X.env x=pure x:=by intro _; rfl):Gr X (.DictComp kx vx [⟨.Tuple [.Name x px,.Name x2 px2] kt pt,iter,ifs,0⟩] scope pos) (lX di js dc dk dv):=PE.imp (xY C own2 nd2 hc (KO hu) hi ht hk hv hs) yX
end
def IB(K:PySem.W.Frag):V->V->Hp->VK->Prop:=λo i H Q=>∃p xs k z,o=.ref p/\i=.int k/\Mp K H p xs/\0<=k/\xs[k.toNat]? = some z/\Q z H
theorem B3{X:Cx}:GK X (IB X.K):=by
 intro pins s σ H o i ov iv Q I ro ri h
 obtain ⟨p,xs,k,z,rfl,rfl,hq,k0,hz,q⟩:=h
 cases ro
 obtain ⟨t,rfl⟩:=ri
 obtain ⟨its,r,pl,hl⟩:=I.list hq
 obtain ⟨w,ew,rw'⟩:=r.get hz
 have:=Wo
 have hl2:=r.length
 have hk:=(Ax.mp hz).1
 refine wpAny_getItem_list (x:=w) pl.isList k0 (by omega) (by simpa using ew) ⟨z,H,I,rw',q⟩
def augIB(i:Nat)(k:Int)(a:Int)(y:DV)(δ:DS)(D:DEnds):Prop:=match δ.sl[i]?,y with
 | some (.dat m (.list ds)),.dat _ (.int b)=>own1 m=true/\npk δ.sl=true/\Dx ds=true/\k<ds.length/\D.nx ⟨δ.sl.set i (.dat m (.list (ds.set k.toNat (.int (a+b))))),δ.n⟩
 | _,_=>False
def augIK(i:Nat)(de:DE)(z:DV)(δ:DS)(D:DEnds):Prop:=match δ.sl[i]?,z with
 | some (.dat _ (.list ds)),.dat _ (.int k)=>0<=k/\∃a,ds[k.toNat]? = some (.int a)/\de δ λy δ2=>augIB i k a y δ2 D
 | _,_=>False
def Y6(i:Nat)(dk de:DE):DB:=λD δ=>isLst δ.sl[i]? = true/\dk δ λz δ1=>augIK i de z δ1 D
section
variable{X:Cx}{o ie e:Expr}{de dk:DE}{pos tpos:Pos}{i:Nat}
theorem o6{K:PySem.W.Frag}{H0 H:Hp}{Y:Addr->Prop}{S T:List Ent}{δ:DS}{n:Nat}(hS:Sl S δ)(hA:At K H0 Y δ.n (S++T) H)(hi:isLst δ.sl[n]? = true):∃a,(vs S)[n]? = some (some (.ref a)):=by
 cases q:δ.sl[n]? with
 | none=>rw[q] at hi; cases hi
 | some x =>
  rw[q] at hi
  obtain ⟨ent,e2,e3⟩:=Nm hS q
  obtain ⟨u,y,F⟩:=ent
  have e3':y=x:=e3
  subst e3'
  have hm:(⟨u,y,F⟩ : Ent)∈S:=Bq e2
  match y,hi with
  | .dat m (.list ds),_ =>
   obtain ⟨v,hv,rd,_⟩:=hA.ok _ (Ao _ hm)
   obtain ⟨a,xs,G,rfl,ha,_⟩:=rd.list_inv
   exact ⟨a,by rw[Tb e2]; exact congrArg some hv⟩
theorem U8(ho:PE X o (kH i))(hk:Gr X ie dk)(he:Gr X e de)(ha:∀ov iv new,augStore ie ov iv new=(do Qe [new,ov,iv] (setItem ov iv new); release [new,ov,iv] []; pure .next):=by intros; rfl):zG X (.AugAssign (.Subscript o ie tpos) .Add e pos) (Y6 i dk de):=by
 refine PS.impD (S6 ho hk B3 he AR cV ha) λD σ H h=>?_
 w_pre q7
 obtain ⟨hd0,hd⟩:=hd
 obtain ⟨a,hv⟩:=o6 hS hA hd0
 refine ⟨.ref a,hv,H0,Y,S,T,δ,_,rfl,hS,hA,hd,λz δ1 w F S1 H1 e1 e2 hA1 p1=>?_⟩
 unfold augIK at p1
 split at p1
 ·rename_i m ds m' k hsl
  obtain ⟨p1,old,p2,p3⟩:=p1
  obtain ⟨rfl,_⟩:=(hA1.told mem_mid).int_inv
  obtain ⟨ent,f2,f3⟩:=Nm e2 hsl
  have hm:ent∈S1:=Bq f2
  obtain ⟨u,x,G0⟩:=ent
  have f3':x=.dat m (.list ds):=f3
  subst f3'
  obtain ⟨v,hv',rd,_⟩:=hA1.ok _ (Ao _ hm)
  obtain ⟨a',xs,G,rfl,ha',ra,eF,hz⟩:=rd.list_inv
  have ea:(vs S1)[i]? = some (some (.ref a')):=by rw[Tb f2]; exact congrArg some hv'
  rw[e1,hv] at ea
  cases ea
  obtain ⟨x',F',x1,x2,_⟩:=ra.get p2
  obtain ⟨rfl,_⟩:=x2.int_inv
  refine ⟨a,xs,k,.int old,rfl,rfl,Mp.of ha',p1,x1,H0,Y,S1,T,δ1,_,e1,e2,hA1.drop,p3,λy δ2 w2 F2 S2 H2 e3 e4 hA2 p4=>?_⟩
  unfold augIB at p4
  split at p4
  ·rename_i m2 ds2 m3 b hsl2
   obtain ⟨q1,q2,q3,q4,q5⟩:=p4
   w_pre e9
   obtain ⟨b',xs1,G1,g1,g2,g3,g4,g5⟩:=Ws (es:=ds2.set k.toNat (.int (old+b))) e4 hT hA2.drop hsl2 q1 q2
   rw[e3,hv] at g1
   cases g1
   obtain rfl:=g3.imm q3
   obtain ⟨S3,h1,h2,h3⟩:=g5 (xs1.set k.toNat (.int (old+b))) [] (g3.setI (.int _)) (Co _) (by rw[List.length_set]; exact g4)
   refine ⟨old,b,rfl,rfl,a,xs1,k,k.toNat,rfl,rfl,g2,?_,?_⟩
   ·rw[g3.len]
    unfold K8
    rw[if_pos p1,if_pos q4]
   rw[<- e3,<- h1]
   exact k1 ⟨_,_⟩ S3 _ h2 h3 q5
  ·exact p4.elim
 w_pre y8
end
end DL
namespace Nd
open PySem PySem.Spec PySem.Calls PyProof.Rows PyProof.V L2
def GO(r:Addr)(j:Int)(h:Heap):Prop:=∃t u v,IsRange h r 0 j 1 t u v
abbrev u9(r:Addr)(j:Int):HO:=.ext (GO r j)
section
variable{prog:Bk}{w:World}{A:Ci}{E:Value->Ai->Prop}{s:Ai}
theorem fV{R:List Value->Ai->Prop}{r:Addr}{a b c:Int}{t u v:Tok}{n:Nat}(hh:A.handled=none)(hr:IsRange s.heap r a b c t u v)(hsmall:Builtin.Range.small a b c=true)(hn:Lj a b c=n)(hlen:n<=2 ^ 24)(h:∀(h':Heap) (tk:Nat) (acc:Array Value),(∀b o,s.heap.get? b=some o->h'.get? b=some o)->ItemsOf (λi v=>∃t,v=.int (a+i * c) t) acc n->R acc.toList { s with heap:=h',toks:=tk }):wpAny (model prog w) A (collect (.ref r)) R E s:=by
 unfold collect
 refine Aa (wpAny_runValue (Ia PyProof.Rows.entry_proto_collect' ?_))
 rw[Ge PySem.F.plain_proto_collect _]
 show wpAny _ A.in1 (newList [] >>= λl=>again (.builtin "list.__iadd__" ⟨[l,.ref r],[]⟩)) _ _ s
 refine Aa (Cg ?_)
 refine Ae ⟨Qd PySem.F.plain_list_iadd _,Ia PyProof.Rows.entry_list_iadd' ?_⟩
 rw[Ge PySem.F.plain_list_iadd _]
 have hS₁:(s.heap.push { cls:=.type "list",data:=.seq ([]:List Value).toArray }).get? s.heap.objs.size=some { cls:=.type "list",data:=.seq #[] }:=Au _ rfl
 show wpAny _ A.in1 (Builtin.List.listExtendWith (.ref s.heap.objs.size) (.ref r) (.ref s.heap.objs.size)) _ _ _
 have key:=wpAny_extend_range (prog:=prog) (w:=w) (A:=A) (s:={ s with heap:=s.heap.push { cls:=.type "list",data:=.seq ([]:List Value).toArray } })
  (R:=λ(q:Result) (s':Ai)=>∃(h':Heap) (tk:Nat) (acc':Array Value) (c':Nat),q=.ok (.ret (.ref s.heap.objs.size))/\s'={ s with heap:=h',toks:=tk } /\
   (∀b o,s.heap.get? b=some o->h'.get? b=some o)/\h'.get? s.heap.objs.size=some { cls:=.type "list",dict:=none,data:=.seq acc' c',slots:=#[] }/\ItemsOf (λi v=>∃t,v=.int (a+i * c) t) acc' n)
  hh (Ag _ hr) hsmall hn hlen s.heap.objs.size (.ref s.heap.objs.size) 0 hS₁
  (λh' tk acc' c' hk hS' hacc=>⟨h',tk,acc',c',rfl,rfl,λb o e=>hk b o (Bm (Ar e)) (Ag _ e),hS',hacc⟩)
 refine Cu key (λfin s' x=>?_) λe s' x=>?_
 ·cases fin with
  | done f =>
   obtain ⟨h',tk,acc',c',e,rfl,hk,hS',hacc⟩:=x
   cases e
   w_pre y2
  | again c₁ =>
   refine ⟨x.1,Oq x.2 λq s₂ y=>?_⟩
   obtain ⟨h',tk,acc',c',rfl,rfl,hk,hS',hacc⟩:=y
   w_pre y2
 ·obtain ⟨_,_,_,_,e',_⟩:=x
  cases e'
theorem aC{Q₁:Value->Ai->Prop}{r:Addr}{a b c:Int}{t u v:Tok}{n:Nat}(hh:A.handled=none)(hr:IsRange s.heap r a b c t u v)(hsmall:Builtin.Range.small a b c=true)(hn:Lj a b c=n)(hlen:n<=1000)(h:∀(h':Heap) (tk:Nat) (acc:Array Value),(∀b o,s.heap.get? b=some o->h'.get? b=some o)->ItemsOf (λi v=>∃t,v=.int (a+i * c) t) acc n->Q₁ (.ref h'.objs.size) { s with heap:=h'.push { cls:=.type "tuple",data:=.seq acc },toks:=tk }):Hb (model prog w) A (.call (.builtin "tuple.__new__") ⟨[.type "tuple",.ref r],[]⟩) (wants Q₁ E) s:=by
 refine Yz ?_
 show wpAny _ A.in1 (do checkBuiltinCall "tuple.__new__" ⟨[.type "tuple",.ref r],[]⟩; again (.builtin "tuple.__new__" ⟨[.type "tuple",.ref r],[]⟩)) _ _ s
 refine Aa (Jo (F.newCall_tuple_1 _) (Ae ⟨Qd F.plain_tuple_new _,Ia F.entry_tuple_new ?_⟩))
 rw[Ge F.plain_tuple_new _]
 have hsub:=sub_tuple_self
 have hinit:=init_tuple_lookup
 have hmh:=madeHere_tuple
 have hTI:s.TypeIs (.ref r) "range" := ⟨_,hr,rfl⟩
 have hh1:A.in1.handled=none:=hh
 wp_walk using Jm hTI,fV hh1 hr hsmall hn (by omega)
 intro h' tk acc hm hacc
 show wpAny _ _ (Gw acc.toList.toArray >>= λv=>ret v) _ _ _
 unfold Gw
 refine Aa (Cg ?_ (by show acc.toList.toArray.size<=Ay; simp only[Array.toArray_toList]; rw[hacc.1,Gp]; omega))
 refine Ae ?_
 have e:acc.toList.toArray=acc:=by simp
 rw[e]
 exact h h' tk acc hm hacc
end
theorem fR:∀{n:Nat} {acc:Array Value},acc.size=n->(∀(i:Nat) v,acc[i]? = some v->∃t,v=Oc (i:Int) t)->Fp acc.toList ((Cc n).map λk:Nat=>(k:Int)):=by
 intro n acc hs h
 have gen:∀(l:List Value) (m:Nat),(∀(i:Nat) v,l[i]? = some v->∃t,v=Oc ((m+i:Nat):Int) t)->Fp l ((List.range' m l.length).map λk:Nat=>(k:Int)):=by
  intro l
  induction l with
  | nil=>intro m _; exact .nil
  | cons x l ih =>
   intro m hx
   obtain ⟨t,e⟩:=hx 0 x rfl
   have:=ih (m+1) λi v hv=>by
    obtain ⟨t,e⟩:=hx (i+1) v hv
    w_pre n9
   rw[Bl,List.range'_succ,Ap]
   rw[e]
   exact .cons _ t this
 have:=gen acc.toList 0 λi v hv=>by
  obtain ⟨t,e⟩:=h i v (by simpa using hv)
  w_pre n9
 rw[List.range_eq_range']
 have e:acc.toList.length=n:=by simpa using hs
 rw[e] at this
 exact this
section
variable{X:Cx}
def HQ:List V->Hp->VK->Prop:=λxs H Q=>∃j:Int,xs=[.int j]/\∀r,H r=none->Q (.ref r) (upd H r (u9 r j))
theorem pN:Mh X (.type "range") HQ:=by
 w_pre r7
 obtain ⟨j,rfl,q⟩:=h
 obtain ⟨u,rfl,t,rfl⟩:=vals1 r
 refine call_range_1 ⟨.ref s.heap.objs.size,_,I.laid (a:=s.heap.objs.size) (o:=u9 s.heap.objs.size j) (t':=s.toks+1+1) (λb o e=>Ag _ e) (Aj _) ?_,rfl,q _ (I.hok.fresh (Aj _))⟩
 refine ⟨⟨_,_,_,Au _ rfl⟩,⟨_,Au _ rfl⟩,λh1 h2 ⟨t,u,v,e⟩ k=>⟨t,u,v,k _ e⟩⟩
def GG:List V->Hp->VK->Prop:=λxs H Q=>∃(r:Addr) (j:Int),xs=[.ref r]/\H r=some (u9 r j)/\0<=j/\j<=1000/\∀l,H l=none->Q (.ref l) (upd H l (.tup (((Cc j.toNat).map λn:Nat=>(n:Int)).map V.int)))
theorem pZ(hc:X.calm=true):Mh X (.type "tuple") GG:=by
 w_pre r7
 obtain ⟨p,j,rfl,hp,j0,j1,q⟩:=h
 w_pre q4
 obtain ⟨⟨t,u,v,hr⟩,_,_⟩:=(show Kb X.prog X.w H s.heap p (u9 p j) from I.hok p _ hp)
 have hn:Lj 0 j 1=((j.toNat:Nat):Int):=by rw[rangeSize_one]; split <;> omega
 refine callType_codes (Q₁:=λobj s₁=>s₁.TypeIs obj "tuple" /\ EP X pins σ Q obj s₁) F.called_tuple (F.typeCall_tuple_1 _) F.entry_object_init
  (aC (prog:=X.prog) (w:=X.w) (E:=X.xe) (Q₁:=λobj s₁=>s₁.TypeIs obj "tuple" /\ EP X pins σ Q obj s₁) (A:=X.A.in1) (show X.A.in1.handled=none from I.ok.hd hc) hr (small_one (by omega) (by omega) (by omega) (by omega)) hn (by omega) λh' tk acc hk hacc=>⟨⟨_,Au _ rfl,rfl⟩,?_⟩) λobj s₁ h₁=>?_
 ·have I1:Inv X pins σ H { s with heap:=h',toks:=tk }:=I.kept hk
  have hv:Gj (((Cc j.toNat).map λn:Nat=>(n:Int)).map V.int) acc.toList:=by
   refine p7 (fR ?_ ?_)
   ·exact hacc.1
   ·intro i v hv
    obtain ⟨t,e⟩:=hacc.2 i v hv
    w_pre n9
  refine ⟨.ref h'.objs.size,_,I1.laid (a:=h'.objs.size) (o:=.tup (((Cc j.toNat).map λn:Nat=>(n:Int)).map V.int)) (t':=tk) (λb o e=>Ag _ e) (Aj _) ⟨?_,acc.toList,hv,?_⟩,rfl,q _ (I1.hok.fresh (Aj _))⟩
  ·rw[Ad,Ad,Cq]; exact sz (by omega)
  ·have e:acc=acc.toList.toArray:=by simp
   rw[e]
   exact IsTup.new _ _
 ·exact ⟨h₁.1,F.args_object_init_2 obj _,object_init_meets F.called_tuple.init.lookup F.called_tuple.made (by decide) X.prog X.w X.A.in1 _ s₁ ⟨h₁.1,rfl,h₁.2⟩⟩
end
end Nd
namespace DL
open PySem PySem.Spec PyProof.Rows L2 Nd
def ID(K:PySem.W.Frag)(pf:PF):Sp:=λus H Q _=>∃(As:List Ent) (n:Nat) (ds:List Af) (R:Af->Prop) (C:List Addr),As.map Ent.v=us.map some/\(∀e∈As,Iu K H n e)/\datas (As.map Ent.x)=some ds/\pf ds R/\(∀a∈C,H a≠none/\∀e∈As,a∉e.F) /\
 ∀v d F H',R d->RdF K H' v d F->(∀a∈F,a∉C)->Th H H'->Q v H'
def retA(R:Af->Prop):DEnds where
 nx:=λ_=>R .none
 rt:=λx _=>∃m d,x=.dat m d/\m≠.pk/\R d
section
variable{K:PySem.W.Frag}{H0 H H':Hp}{X:Addr->Prop}{n:Nat}{E S T:List Ent}
theorem At.pushS(h:At K H0 X n E H){v:V}{d:Af}{F:List Addr}(r:RdF K H v d F)(fr:∀f∈E,∀a∈cells f,a∉F):At K H0 X n (⟨some v,.dat .sh d,F⟩::E) H :=
 h.push ⟨v,rfl,r,λz=>(nomatch z),λz=>(nomatch z)⟩ (λf hf=>⟨λ_ a ha=>(nomatch ha),λ_ a ha=>fr f hf a ha⟩) λa ha=>(nomatch ha)
end
section
variable{P:Bk}{w:World}{K:PySem.W.Frag}{mg:Str->Option Value}{base:Heap}
theorem JQ{As:List Ent}{k:Nat}:∀e∈As.map fU++Jz k,∀a∈e.F,∃f∈As,a∈f.F:=λe he a ha=>by
 w_pre t8
 ·obtain ⟨f,hf,rfl⟩:=Dc.mp he
  refine ⟨f,hf,?_⟩
  obtain ⟨v,x,F⟩:=f
  cases x <;> exact ha
 ·rw[(Ih.mp he).2] at ha
  exact nomatch ha
theorem zJ{x qual:Str}{st:Stmt}{f:Addr}{fd:Cs}{N ps:List Str}{k:Nat}{pf:PF}{db:DB}(F:Fun K x qual st f fd)(S:FnScope N ps (Bv st))(hb:∀(cdv:Value) (A:Ci) (outer:List Env) (s:Ai) (H:Hp) (E:XK),Room k (A.deeper (Td qual (Bv st) s.heap.objs.size f cdv))->dO (Nc Hv P w K mg base N qual (Bv st) f cdv A outer s H E).nox (Ky st) db)(h:∀ds R,pf ds R->ds.length=ps.length/\db (retA R) ⟨args0 ds (N.length - ps.length),0⟩):FnOk P w K mg base Hv (k+1) f fd ps (ID K pf):=by
 w_pre f8
 ·obtain ⟨As,n,ds,R,C,eu,ok,q,hp,_⟩:=z
  w_pre l0
 ·obtain ⟨As,n,ds,R,C,eu,ok,q,hp,hG,k1⟩:=z
  w_pre z0
  let H0:Hp:=λa=>open Classical in if a∈C then none else H a
  have h0n:∀{a},a∈C->H0 a=none:=λz=>if_pos z
  have h0s:∀{a},a∉C->H0 a=H a:=λz=>if_neg z
  -- what holds at the end
  have ends:∀{E':List Ent} {n':Nat} {H':Hp},At K H0 (λ_=>False) n' (E'++[⟨none,.grd H,C⟩]) H'->Th H H':=λ{E' n' H'} hA b o e=>by
   by_cases hb:b∈C
   ·obtain ⟨o',g1,g2⟩:=hA.ok _ (Ah _ Ab) b hb
    rw[e] at g1
    cases g1
    exact g2
   ·exact hA.same b o (λz=>z) (by rw[h0s hb]; exact e)
  refine ⟨_,hb cdv A outer s H E hr,H0,λ_=>False,As.map fU++Jz (N.length - ps.length),[⟨none,.grd H,C⟩],⟨args0 ds (N.length - ps.length),0⟩,retA R,?_,?_,λe z=>?_,?_,hd,λδ' S' H' e1 hA p=>?_,λx δ' v F' S' H' e1 hA p=>?_,λ_ _ _ _ _ p=>p.elim,λ_ _ _ _ _ p=>p.elim⟩
  w_pre s1
  ·rw[Al.mp z]; rfl
  ·have hs:=kA q (N.length - ps.length)
   have hF:=JQ (As:=As) (k:=N.length - ps.length)
   have gF:∀e∈As.map fU++Jz (N.length - ps.length),∀a∈C,a∉e.F:=λe he a ha z=>by
    obtain ⟨f,hf,zf⟩:=hF e he a z
    exact (hG _ ha).2 f hf zf
   refine ⟨λe he=>?_,Cw.mpr ⟨Uo λa ha b hb'=>⟨λhq c hc=>?_,λhq c hc=>?_⟩,Fi _ _,λa ha b hb'=>⟨λhq c hc=>?_,λhq c hc=>?_⟩⟩,λe he a ha=>?_,λb o _ e=>?_,λb o e=>?_,λb hb=>hb.elim⟩
   ·rcases Bc.mp he with he | he
    w_pre p0
    ·rw[Al.mp he]
     intro a ha
     have:=(hG _ ha).1
     cases q:H a with
     | none=>exact absurd q this
     | some o=>exact ⟨o,by first | rfl | exact q,by first | rfl | exact q⟩
   w_pre b5
   ·rw[(hs a ha).1] at hc; cases hc
   ·rw[Al.mp hb'] at hc
    exact gF a ha c hc
   ·rcases Bc.mp he with he | he
    w_pre r9
    ·rw[Al.mp he] at ha
     exact .inl (h0n ha)
   ·by_cases hb:b∈C
    ·rw[h0n hb] at e; cases e
    ·rw[h0s hb] at e; exact e
   ·by_cases hb:b∈C
    ·rw[h0n hb] at e; cases e
    ·rw[h0s hb] at e; exact ⟨o,e⟩
  ·exact k1 .non .none [] H' p .non (λ_ z=>(nomatch z)) (ends hA)
  ·obtain ⟨m,d,rfl,hm,r⟩:=p
   obtain ⟨u,e2,rd,_⟩:=hA.ok _ mem_mid
   cases e2
   have hA2:At K H0 (λ_=>False) δ'.n ((S'++[⟨some v,.dat m d,F'⟩])++[⟨none,.grd H,C⟩]) H':=by rw[Bw]; exact hA
   refine k1 v d F' H' r rd (λa ha=>?_) (ends hA2)
   have sp:=(Cw.mp hA2.sep).2.2 _ (Ah _ Ab) _ Ab
   exact λz=>sp.2 (.inr rfl) a z ha
end
def C2(pf:PF)(da:DA):DE:=λδ P=>da δ λxs δ1=>noPk xs=true/\match datas xs with
 | some ds=>pf ds λd=>P (.dat .sh d) δ1
 | none=>False
theorem nX:∀{As:List Ent},noPk (As.map Ent.x)=true->∀e∈As,Tf e.x=false
 | [],_,e,he=>nomatch he
 | ⟨v,x,F⟩::As,h,e,he=>by
  rw[Ap] at h
  have hh:Tf x=false/\noPk (As.map Ent.x)=true:=by
   cases x with
   | dat m d=>cases m <;> first | exact ⟨rfl,h⟩ | (simp [noPk] at h)
   | _=>exact ⟨rfl,by simpa [noPk] using h⟩
  w_pre l8
  ·exact hh.1
  ·exact nX hh.2 e he
section
variable{X:Cx}{CX:yO}{k:Nat}{f:Addr}{fd:Cs}{ps:List Str}{pf:PF}{E:XK}{x:Str}{p pos:Pos}{e:Expr}{es:List Expr}{da:DA}
theorem pA(F:FnOk X.prog X.w X.K X.mg X.base CX k f fd ps (ID X.K pf))(hr:Room k X.A)(hg:Gl X x)(hm:X.mg x=some (.ref f))(hk:PySem.W.keepIn X.K (.ref f)=true)(hb:Binds X.K fd ps [])(hx:Sf CX X E)(ha:mB X (e::es) da)(hdb:(x == ("__debug__" : Str))=false:=by decide)(he:Bj (e::es) X.env=(false,eval e X.env)::Bj es X.env:=by rfl)(hpl:(Hh pos (Bj es X.env)).any (·.1)=false:=by rfl):Gr X (.Call (.Name x p) (e::es) [] pos) (C2 pf da):=by
 w_pre e1
 obtain ⟨np,p⟩:=p
 cases q:datas (As.map Ent.x) with
 | none=>rw[q] at p; exact p.elim
 | some ds =>
  rw[q] at p
  rw[Ec]
  have hAs:=nX np
  have hE:=hA'.dropL
  refine ⟨As,δ'.n,ds,_,(S'++T).flatMap cells,eu,λe he=>hA'.ok e (Ah _ (Ao _ he)),q,p,λa ha=>?_,λv d F H'' r rd fr s=>?_⟩
  ·obtain ⟨g,hg1,hg2⟩:=Oi.mp ha
   refine ⟨λz=>?_,λe he=>?_⟩
   ·obtain ⟨o,q⟩:=(hE.ok g hg1).dom a (Hu _ _ hg2)
    rw[z] at q; cases q
   ·rcases Cw.mp hA'.sep with ⟨_,hp2,hp⟩
    rcases Bc.mp hg1 with hg1 | hg1
    ·exact (hp g hg1 e (Ao _ he)).1 (.inl (hAs e he)) a hg2
    ·exact ((Cw.mp hp2).2.2 e he g hg1).2 (.inl (hAs e he)) a hg2
  ·refine kk _ δ' v F S' H'' e1 e2 (((hE.grow s (Aj _)).pushS rd λf hf a ha z=>fr a z (List.mem_flatMap.mpr ⟨f,hf,ha⟩)).tomid) r
end
def GI(da:DA):DE:=λδ P=>da δ λxs δ1=>match xs with
 | [.dat _ (.tuple ds)]=>∃ns:List Int,ds=ns.map Aw/\(∀x∈ns,0<=x/\x<60)/\P (.dat .ow (.list ((Pl ns).map Aw))) δ1
 | _=>False
section
variable{X:Cx}{p p2 pos pos2:Pos}{e:Expr}{da:DA}
theorem CB(hc:X.calm=true)(hg:Gl X "sorted")(hm:X.mg "sorted" = none)(hg2:Gl X "set")(hm2:X.mg "set" = none)(ha:mB X [e] da)(he:Bj [e] X.env=[(false,eval e X.env)]:=by rfl)(he2:Bj [.Call (.Name "set" p2) [e] [] pos2] X.env=[(false,eval (.Call (.Name "set" p2) [e] [] pos2) X.env)]:=by rfl):Gr X (.Call (.Name "sorted" p) [.Call (.Name "set" p2) [e] [] pos2] [] pos) (GI da):=by
 refine PE.imp (eI (Xw hc) hg hm (by decide +kernel) (Hy (Nh (dP hc) hg2 hm2 (by decide +kernel) ha (by decide) (by decide) he rfl) Oh he2) (by decide) (by decide) he2 rfl) λσ H Q h=>?_
 w_pre d2
 ·obtain ⟨v,F,rfl,hA2⟩:=Hx eu hA' ex
  obtain ⟨ns,rfl,hb,pp⟩:=p
  w_pre b10
  w_pre a10
  refine ⟨a,ns,EL,rfl,Rq.of ha,by decide,λx hx=>Yc (hb x hx).1 (hb x hx).2,λq hq=>?_⟩
  refine ⟨q,ns,rfl,Du,λr us nr nd pw mem=>?_⟩
  rw[uG (Zq nd pw) mem]
  have s1:=Fg hq (Yb X.w q ns)
  exact k _ δ' _ _ S' _ e1 e2 ((hA2.drop.grow s1 (Aj _)).newI (RdFs.ints _) (Nv _) (by rw[Ad]; exact sz (by have:=oN hb; omega)) nr .ow) pp
 w_pre s8
end
def Kz(j:Nat):List Int:=(Cc j).map λn:Nat=>(n:Int)
def IJ(x:DV)(δ:DS)(P:DV->DS->Prop):Prop:=match x with
 | .dat _ (.int j)=>0<=j/\j<=1000/\P (.dat .ow (Bf (Kz j.toNat))) δ
 | _=>False
def LC(de:DE):DE:=λδ P=>de δ λx δ1=>IJ x δ1 P
section
variable{X:Cx}{p p2 pos pos2:Pos}{e:Expr}{de:DE}
theorem xF(hc:X.calm=true)(hg:Gl X "tuple")(hm:X.mg "tuple" = none)(hg2:Gl X "range")(hm2:X.mg "range" = none)(ha:Gr X e de)(he:Bj [e] X.env=[(false,eval e X.env)]:=by rfl)(he2:Bj [.Call (.Name "range" p2) [e] [] pos2] X.env=[(false,eval (.Call (.Name "range" p2) [e] [] pos2) X.env)]:=by rfl):Gr X (.Call (.Name "tuple" p) [.Call (.Name "range" p2) [e] [] pos2] [] pos) (LC de):=by
 refine PE.imp (Nh (pZ hc) hg hm (by decide +kernel) (Hy (Nh pN hg2 hm2 (by decide +kernel) (Hy ha Oh he) (by decide) (by decide) he rfl) Oh he2) (by decide) (by decide) he2 rfl) λσ H Q h=>?_
 w_pre p4
 unfold IJ at p
 split at p
 ·rename_i m j
  obtain ⟨j0,j1,p⟩:=p
  obtain ⟨rfl,_⟩:=(hA'.told mem_mid).int_inv
  refine ⟨j,rfl,λr nr=>⟨r,j,rfl,Du,j0,j1,λl nl=>?_⟩⟩
  have s1:=Fg nr (u9 r j)
  have s2:=Fg nl (.tup ((Kz j.toNat).map V.int))
  refine k _ δ' _ _ S' _ e1 e2 (((hA'.drop.grow s1 (Aj _)).grow s2 (Aj _)).pushI (RdF.tup Du ?_ (RdFs.ints _))) p
  rw[Ad]
  unfold Kz
  rw[Ad,Cq]
  exact pF (by omega)
 w_pre s8
end
abbrev PX:=List Af->(Af->Prop)->(Addr->Prop)->Prop
end DL
namespace Nd
open PySem PySem.Spec PyProof.Rows L2
section
variable{X:Cx}
def CI(K:PySem.W.Frag)(J:It)(js:List Nat)(wi2:TI)(te:TE)(σ:L2.St)(H1:Hp)(Q:VK):Prop:=∀D,H1 D=none->∃W:Nat->Nat->Hp->Prop,(∃m,W 0 m (upd H1 D (.lst [])))/\∀i m H,W i m H ->
 (J.stop i H/\Q (.ref D) H)\/(J.go i H/\∀x H',J.yld i H x H'->∃(t:Addr) (w1 w2:V),x=.ref t/\Rq K H' t [w1,w2]/\∀o:Option V,wi2 (some w1::some w2::o::Eh σ js) H' λJ2 H2=>∃W2:Nat->Nat->Hp->Prop,(∃m2,W2 0 m2 H2)/\∀i2 m2 H3,W2 i2 m2 H3 ->
  (J2.stop i2 H3/\∃m',m'<m/\W (i+1) m' H3)\/(J2.go i2 H3/\∀y H4,J2.yld i2 H3 y H4->te (some w1::some w2::some y::Eh σ js) H4 λz H5=>∃acc,H5 D=some (.lst acc)/\acc.length<Ay/\∃m2',m2'<m2/\W2 (i2+1) m2' (upd H5 D (.lst (acc++[z])))))
def i8(K:PySem.W.Frag)(wi:TI)(js:List Nat)(wi2:TI)(te:TE):TE:=λσ H Q=>wi σ H λJ H1=>CI K J js wi2 te σ H1 Q
theorem K0{elt iter iter2:Expr}{x xb x2:Str}{px pxb px2 pt pos:Pos}{kt:Nat}{scope:Scope}{cl:List (Str×Addr)}{ys:List Str}{js:List Nat}{wi wi2:TI}{te:TE}(C:CompScope X scope cl x ys js)(ownb:Zy scope xb)(own2:Zy scope x2)(nd2:(x::xb::x2::ys).Nodup)(hc:X.calm=true)(hi:PI X (.Tuple [.Name x px,.Name xb pxb] kt pt) iter wi)(hi2:∀fp s H,PI (Dh X scope cl (x::xb::x2::ys) fp s H) (.Name x2 px2) iter2 wi2)(he:∀fp s H,PE (Dh X scope cl (x::xb::x2::ys) fp s H) elt te)(hs:∀x,Da iter X.env x=pure x:=by intro _; rfl)(hs2:∀fp s H v,Da iter2 (Dh X scope cl (x::xb::x2::ys) fp s H).env v=pure v:=by intro _ _ _ _; rfl):PE X (.ListComp elt [⟨.Tuple [.Name x px,.Name xb pxb] kt pt,iter,[],0⟩,⟨.Name x2 px2,iter2,[],0⟩] scope pos) (i8 X.K wi js wi2 te):=by
 w_pre t7
 rw[eval_ListComp]
 w_pre c0
 have I3:Inv X pins σ (upd H2 s2.heap.objs.size (.lst [])) { s2 with heap:=s2.heap.push { cls:=.type "list",dict:=none,data:=.seq ([]:List Value).toArray } } :=
  I2.laid (t':=s2.toks) (λb u q=>Ag _ q) (Aj _) ⟨Dq _,[],0,.nil,Au _ rfl⟩
 have nfp:∀b∈fp,b≠s2.heap.objs.size:=λb hb z=>by
  obtain ⟨o,q,_⟩:=T.obj _ _ st2 b hb
  have:=Ar q
  rw[z] at this
  exact absurd this (Fc _)
 have f3:∀b∈fp,La X pins (upd H2 s2.heap.objs.size (.lst [])) b:=λb hb=>⟨by rw[Dw (nfp b hb)]; exact (f2 b hb).1,(f2 b hb).2⟩
 generalize hS3:({ s2 with heap:=s2.heap.push { cls:=.type "list",dict:=none,data:=.seq ([]:List Value).toArray } }:Ai)=s3 at I3
 w_pre b1
 have I4:∀tk,Inv (Dh X scope cl (x::xb::x2::ys) fp s3 (upd H2 s2.heap.objs.size (.lst []))) [] (none::none::none::Eh σ js) (upd H2 s2.heap.objs.size (.lst [])) { s3 with heap:=h4,toks:=tk }:=λtk=>Nb (pre:=[x,xb,x2]) C I3 f3 o3 hns4 keep4 new4
 have st4:tn 0 h4:=T.keep 0 _ _ Qn λb hb o q=>keep4 b o q
 generalize hX':Dh X scope cl (x::xb::x2::ys) fp s3 (upd H2 s2.heap.objs.size (.lst []))=X' at I4
 have eP:X'.prog=X.prog:=by rw[<- hX']; rfl
 have eW:X'.w=X.w:=by rw[<- hX']; rfl
 have eK:X'.K=X.K:=by rw[<- hX']; rfl
 have eA:X'.A=X.A:=by rw[<- hX']; rfl
 have eC:X'.calm=true:=by rw[<- hX']; exact hc
 have stat:∀{H':Hp},(∀b∈fp,H' b=none)->∀b∈fp,La X' [] H' b:=λ{H'} hn b hb=>by
  w_pre g2
 have loop:∀s5:Ai,s5={ s3 with heap:=h4,toks:=s3.toks+([]:List (Str×Value)).length } ->
   Hb (model X.prog X.w) X.A (.compLoop (.ListComp elt [⟨.Tuple [.Name x px,.Name xb pxb] kt pt,iter,[],0⟩,⟨.Name x2 px2,iter2,[],0⟩] scope pos) 0 (.ref it) (.ref s2.heap.objs.size) (Te scope (En (s3.heap.objs.size+1) scope.names cl) s3.heap.objs.size X.env))
    (compPost (model X.prog X.w) X.A X.xe none (EP X pins σ Q) (.ref s2.heap.objs.size) s3.heap.objs.size) s5:=by
  rintro s5 rfl
  refine mH (λv=>hs2 fp s3 (upd H2 s2.heap.objs.size (.lst [])) v) (λn s'=>∃i o ob o2 H',Inv X' [] (o::ob::o2::Eh σ js) H' s'/\tn i s'.heap/\(∀b∈fp,H' b=none)/\W i n H') ?_ m0
   ⟨0,none,none,none,_,I4 _,st4,λb hb=>(f3 b hb).1,w0⟩
  rintro n s6 ⟨i,o,ob,o2,H6,I6,st6,fr6,w6⟩
  w_pre d
  ·have hit:=T.item X' eP eW eK eC i [] s6 _ H6 (λ_ _=>False) I6 (stat fr6) st6 go
   w_pre q0
   obtain ⟨tp,w1,w2,ey,hsq,stp0⟩:=step y H8 y8
   have stp:=stp0 o2
   have again:∀{H9:Hp} {s9:Ai} {m':Nat} {o9:Option V},Inv X' ([]++Of fp s8.heap) (some w1::some w2::o9::Eh σ js) H9 s9->m'<n->W (i+1) m' H9->∃m,m<n/\∃i o ob o2 H',Inv X' [] (o::ob::o2::Eh σ js) H' s9/\tn i s9.heap/\(∀b∈fp,H' b=none)/\W i m H':=λ{H9 s9 m' o9} I9 hm w9=>by
    refine ⟨m',hm,i+1,some w1,some w2,o9,H9,I9.unpinned,T.keep _ _ _ st8 λb hb o e=>(I9.pin (b,o) (Ah _ (Ah _ (Fm hb e)))).1,λb hb=>?_,w9⟩
    w_pre u5
   subst hX'
   have g1:PG (Dh X scope cl (x::xb::x2::ys) fp s3 (upd H2 s2.heap.objs.size (.lst []))) (.Tuple [.Name x px,.Name xb pxb] kt pt) (o4 X.K 2 (Yl (Pj 0) (Yl (Pj 1) r9))) :=
    cW (X:=Dh X scope cl (x::xb::x2::ys) fp s3 (upd H2 s2.heap.objs.size (.lst []))) hc (Mk (Kc (i:=0) (x:=x) nd2 rfl (Mn C.own) (Pf C.own)) (Mk (Kc (i:=1) (x:=xb) nd2 rfl (Mn ownb) (Pf ownb)) Ys))
   refine Fq (g1 _ s8 _ H8 y u (λσ' H'=>σ'=some w1::some w2::o2::Eh σ js/\H'=H8) I8' r8 ⟨tp,[w1,w2],ey,hsq,rfl,_,_,rfl,_,_,rfl,rfl,rfl,rfl⟩) λ_ s9 ⟨σ9,H9,I9,e9,e9'⟩=>?_
   subst e9 e9'
   refine Fq (hi2 fp s3 _ _ s9 _ _ _ I9 stp) λv2 s10 h10=>Fq h10 λitv2 s11 h11=>?_
   obtain ⟨it2,fp2,tn2,J2,H11,e11,I11,T2,st11,f11,W2,⟨m20,w20⟩,turn2⟩:=h11
   subst e11
   have stat2:∀{H':Hp},(∀b∈fp2,H' b=none)->∀b∈fp2,La (Dh X scope cl (x::xb::x2::ys) fp s3 (upd H2 s2.heap.objs.size (.lst []))) ([]++Of fp s8.heap) H' b:=λhn b hb=>⟨hn b hb,(f11 b hb).2⟩
   have loop2:Hb (model X.prog X.w) X.A (.compLoop (.ListComp elt [⟨.Tuple [.Name x px,.Name xb pxb] kt pt,iter,[],0⟩,⟨.Name x2 px2,iter2,[],0⟩] scope pos) 1 (.ref it2) (.ref s2.heap.objs.size) (Te scope (En (s3.heap.objs.size+1) scope.names cl) s3.heap.objs.size X.env))
     (λr s6=>match r with | .ok _=>∃m,m<n/\∃i o ob o2 H',Inv (Dh X scope cl (x::xb::x2::ys) fp s3 (upd H2 s2.heap.objs.size (.lst []))) [] (o::ob::o2::Eh σ js) H' s6/\tn i s6.heap/\(∀b∈fp,H' b=none)/\W i m H' | .error _=>False) s11:=by
    refine pR (λn2 s'=>∃i2 o2 H',Inv (Dh X scope cl (x::xb::x2::ys) fp s3 (upd H2 s2.heap.objs.size (.lst []))) ([]++Of fp s8.heap) (some w1::some w2::o2::Eh σ js) H' s'/\tn2 i2 s'.heap/\(∀b∈fp2,H' b=none)/\W2 i2 n2 H') ?_ m20
     ⟨0,o2,H11,I11,st11,λb hb=>(f11 b hb).1,w20⟩
    rintro n2 s12 ⟨i2,p2,H12,I12,st12,fr12,w12⟩
    rcases turn2 i2 n2 H12 w12 with ⟨stop2,m',hm',w'⟩ | ⟨go2,step2⟩
    ·have hd:=T2.done _ rfl rfl rfl hc i2 _ s12 _ H12 (λ_ _=>False) I12 (stat2 fr12) st12 stop2
     refine Fq hd λr s13 ⟨hr,I13⟩=>?_
     subst hr
     exact again I13 hm' w'
    ·have hit2:=T2.item _ rfl rfl rfl hc i2 _ s12 _ H12 (λ_ _=>False) I12 (stat2 fr12) st12 go2
     refine Fq hit2 λr s13 ⟨u2,hr,h13⟩=>?_
     subst hr
     refine Fq h13 λ_ s14 ⟨z,H14,I14,r14,y14,st14,fr14⟩=>?_
     have I14':=I14.pinned (stat2 fr14) (T2.obj _ _ st14)
     refine Fq (Kc (i:=2) (x:=x2) (pos:=px2) nd2 rfl (Mn own2) (Pf own2) _ s14 _ H14 z u2 (λσ' H'=>σ'=some w1::some w2::some z::Eh σ js/\H'=H14) I14' r14 ⟨rfl,rfl⟩) λ_ s15 ⟨σ15,H15,I15,e15,e15'⟩=>?_
     subst e15 e15'
     refine Fq (he fp s3 _ _ s15 _ _ _ I15 (step2 z H15 y14)) λzv s16 ⟨vz,H16,I16,r16,q16⟩=>?_
     obtain ⟨acc,ha,hz,m2',hm2,w16⟩:=q16
     refine Fq (Pc _ s16 _ H16 (.ref s2.heap.objs.size) [vz] (.ref s2.heap.objs.size) [zv] (λ_ H'=>H'=upd H16 s2.heap.objs.size (.lst (acc++[vz]))) I16 rfl (.cons r16 .nil) ⟨_,acc,vz,rfl,rfl,ha,hz,rfl⟩) λ_ s17 ⟨_,H17,I17,_,e17⟩=>?_
     subst e17
     refine ⟨m2',hm2,i2+1,some z,_,I17.unpinned,T2.keep _ _ _ st14 λb hb o e=>(I17.pin (b,o) (Ah _ (Ah _ (Fm hb e)))).1,λb hb=>?_,w16⟩
     obtain ⟨o,e,_⟩:=T2.obj _ _ st14 b hb
     exact (I17.pin (b,o) (Ah _ (Ah _ (Fm hb e)))).2.1
   exact fP loop2 (T2.self X.A 0 _ _ _ st11 loop2)
 w_pre z7
end
end Nd
namespace DL
open PySem PySem.Spec PyProof.Rows L2 Nd
def DD(b:Bool)(di:DI)(js:List Nat)(di2:DI)(de:DE):DE:=λδ P=>di δ λm ds δ1=>∃I:Nat->List Af->Nat->Prop,I 0 [] δ1.n /\
 (∀i d acc n,ds[i]? = some d->I i acc n->di2 ⟨.dat m d::.un::frD δ1.sl js,n⟩ λm2 es δ2=>∃I2:Nat->List Af->Nat->Prop,I2 0 acc δ2.n /\
  (∀i2 e acc' n',es[i2]? = some e->I2 i2 acc' n'->acc'.length+1<=Ay/\Lz b Nn de ⟨.dat m d::.dat m2 e::frD δ1.sl js,n'⟩ (λz n2=>I2 (i2+1) (acc'++[z]) n2) (λ_=>False)) /\
  ∀acc' n',I2 es.length acc' n'->I (i+1) acc' n') /\
 ∀acc n,I ds.length acc n->P (.dat (Ta b) (.list acc)) ⟨δ1.sl,n⟩
def tF(b:Bool)(di:DI)(js:List Nat)(di2:DI)(de:DE):DE:=λδ P=>di δ λm ds δ1=>∃I:Nat->List Af->Nat->Prop,I 0 [] δ1.n /\
 (∀i d acc n,ds[i]? = some d->I i acc n->∃d1 d2,d=.tuple [d1,d2]/\di2 ⟨.dat m d1::.dat m d2::.un::frD δ1.sl js,n⟩ λm2 es δ2=>∃I2:Nat->List Af->Nat->Prop,I2 0 acc δ2.n /\
  (∀i2 e acc' n',es[i2]? = some e->I2 i2 acc' n'->acc'.length+1<=Ay/\Lz b Nn de ⟨.dat m d1::.dat m d2::.dat m2 e::frD δ1.sl js,n'⟩ (λz n2=>I2 (i2+1) (acc'++[z]) n2) (λ_=>False)) /\
  ∀acc' n',I2 es.length acc' n'->I (i+1) acc' n') /\
 ∀acc n,I ds.length acc n->P (.dat (Ta b) (.list acc)) ⟨δ1.sl,n⟩
theorem jV{v:Option V}{m:Md}{d:Af}{F:List Addr}(h:m=.sh\/m=.pk):al ⟨v,.dat m d,F⟩=⟨v,.dat m d,F⟩:=by
 rcases h with rfl | rfl <;> rfl
section
variable{K:PySem.W.Frag}
theorem GP{b:Bool}{di di2:DI}{js:List Nat}{de:DE}:∀σ H Q,LE K (DD b di js di2 de) σ H Q->BX (LI K di) js (LI K di2) (LE K de) σ H Q:=by
 w_pre p
 ·refine .inr ⟨it.go H n i hid_ok hlt,λx H' y o=>?_⟩
  w_pre n4
  have hA4:At K H0 Y n (⟨some (.ref D),.acc acc,D::G⟩::⟨some x,.dat m d,F⟩::(S1++(hid++T))) H':=(hA3.mid).perm (Ek _ _ _)
  have view:∀{n:Nat} {H:Hp} {e0:Ent} {hid2:List Ent} (o2:Ent),At K H0 Y n (o2::e0::⟨some x,.dat m d,F⟩::(S1++hid2)) H->At K H0 Y n ((⟨some x,.dat m d,F⟩::o2::fS S1 js)++e0::⟨some x,.dat m d,F⟩::(S1++hid2)) H:=λ{n H e0 hid2} o2 h=>by
   have g1:=At.view (S:=S1) h (λe he=>Ac _ (Ac _ (Ac _ (Ao _ he)))) js
   have g2:=g1.view1 (e:=⟨some x,.dat m d,F⟩) (Ah _ (Ac _ (Ac _ Ab)))
   rw[jV it.md] at g2
   refine g2.perm ?_
   rw[Fn,Fn]
   exact (Eb).cons _
  have hS6:∀(o2:Ent) (n:Nat),Sl (⟨some x,.dat m d,F⟩::o2::fS S1 js) ⟨.dat m d::o2.x::frD δ1.sl js,n⟩:=λo2 n=>by
   unfold Sl
   rw[Ap,Ap,nR e2]
  have hv:∀(o2:Ent),vs (⟨some x,.dat m d,F⟩::o2::fS S1 js)=some x::o2.v::Eh (vs S1) js:=λo2=>by
   rw[<- pM]
   rfl
  have hB:=view (hid2:=hid++T) ⟨o,.un,[]⟩ hA4.blank
  refine ⟨H0,Y,_,_,⟨.dat m d::.un::frD δ1.sl js,n⟩,_,hv ⟨o,.un,[]⟩,hS6 ⟨o,.un,[]⟩ n,hB,hs i d acc n h1 hI,λm2 es δ2 J2 hid2 S2 H2 f1 f2 hA5 it2 hz2 p2=>?_⟩
  obtain ⟨I2,g0,gs,gf⟩:=p2
  have hA6:At K H0 Y δ2.n (⟨some (.ref D),.acc acc,D::G⟩::(⟨some x,.dat m d,F⟩::(S1++(hid2++(hid++T))))) H2:=by
   w_pre v1
   exact iZ _ _ _
  refine ⟨λi2 q2 H=>q2=es.length - i2/\i2<=es.length/\∃acc n G,(b=true->G=[])/\At K H0 Y n (⟨some (.ref D),.acc acc,D::G⟩::(⟨some x,.dat m d,F⟩::(S1++(hid2++(hid++T))))) H/\I2 i2 acc n,⟨es.length,by simp,Dq _,acc,δ2.n,G,hG,hA6,g0⟩,?_⟩
  w_pre k10
  have hid2_ok:∀e∈hid2,Iu K H3 n2 e:=λe he=>hA7.ok e (Ac _ (Ac _ (Ah _ (Ao _ he))))
  by_cases hlt2:i2<es.length
  ·refine .inr ⟨it2.go H3 n2 i2 hid2_ok hlt2,λy2 H4 yy=>?_⟩
   w_pre j5
   have hA8:At K H0 Y n2 ((⟨some (.ref D),.acc acc2,D::G2⟩::⟨some x,.dat m d,F⟩::S1)++⟨some y2,.dat m2 d2,F2⟩::(hid2++(hid++T))) H4:=At.item (S:=⟨some (.ref D),.acc acc2,D::G2⟩::⟨some x,.dat m d,F⟩::S1) hA7 s2 k2 k3 it2.md it2.hd it2.np
   have hA9:=view (hid2:=hid2++(hid++T)) ⟨some y2,.dat m2 d2,F2⟩ hA8.mid
   have z:=Yk (dc:=Nn) (N1:=λ_=>False) (N2:=λv H5=>∃acc,H5 D=some (.lst acc)/\acc.length<Ay/\∃m2',m2'<es.length - i2/\(m2'=es.length - (i2+1)/\i2+1<=es.length/\∃acc3 n G,(b=true->G=[])/\At K H0 Y n (⟨some (.ref D),.acc acc3,D::G⟩::(⟨some x,.dat m d,F⟩::(S1++(hid2++(hid++T))))) (upd H5 D (.lst (acc++[v])))/\I2 (i2+1) acc3 n)) (hS6 ⟨some y2,.dat m2 d2,F2⟩ n2) hG2 hA9 st lz (λ_ _ _ z=>z) (λe n' v H5 G' hG' hA10 p=>?_)
   w_pre x
  ·have e:i2=es.length:=by omega
   w_pre g5
   refine hA7.sub (List.Sublist.cons₂ _ (We _ ?_))
   exact (Co S1).append (Bu hid2 _)
 w_pre b0
theorem u3{b:Bool}{di di2:DI}{js:List Nat}{de:DE}:∀σ H Q,LE K (tF b di js di2 de) σ H Q->i8 K (LI K di) js (LI K di2) (LE K de) σ H Q:=by
 w_pre p
 ·refine .inr ⟨it.go H n i hid_ok hlt,λx H' y=>?_⟩
  obtain ⟨s1,d,F,h1,h2,h3⟩:=it.yld H n i x H' hid_ok hlt y
  obtain ⟨d1,d2',rfl,hst⟩:=hs i d acc n h1 hI
  obtain ⟨tt,xs0,rfl,ht,rt,_⟩:=h2.tup_inv
  cases rt with
  | @cons w1 _ xs1 _ F1 _ r1 rt =>
  cases rt with
  | @cons w2 _ xs2 _ Fb G0 r2 rt =>
  cases rt
  refine ⟨tt,w1,w2,rfl,Rq.of ht,λo=>?_⟩
  have hA3:At K H0 Y n ((⟨some (.ref D),.acc acc,D::G⟩::S1)++⟨some w1,.dat m d1,F1⟩::(hid++T)) H':=At.item (S:=⟨some (.ref D),.acc acc,D::G⟩::S1) hA2 s1 r1 (λa ha=>h3 a (Ao _ ha)) it.md it.hd it.np
  have hA3':At K H0 Y n ((⟨some w1,.dat m d1,F1⟩::⟨some (.ref D),.acc acc,D::G⟩::S1)++(hid++T)) H':=hA3.mid
  have hA3'':At K H0 Y n ((⟨some w1,.dat m d1,F1⟩::⟨some (.ref D),.acc acc,D::G⟩::S1)++⟨some w2,.dat m d2',Fb⟩::(hid++T)) H':=At.item hA3' (Th.refl _) r2 (λa ha=>h3 a (Ah _ (Ao _ ha))) it.md it.hd it.np
  have hA4:At K H0 Y n (⟨some (.ref D),.acc acc,D::G⟩::⟨some w1,.dat m d1,F1⟩::⟨some w2,.dat m d2',Fb⟩::(S1++(hid++T))) H':=(hA3''.mid).perm (((Ek _ _ _).trans ((Ek _ _ _).cons _)).trans (Ek _ _ _))
  have view:∀{n:Nat} {H:Hp} {e0:Ent} {hid2:List Ent} (o2:Ent),At K H0 Y n (o2::e0::⟨some w1,.dat m d1,F1⟩::⟨some w2,.dat m d2',Fb⟩::(S1++hid2)) H->At K H0 Y n ((⟨some w1,.dat m d1,F1⟩::⟨some w2,.dat m d2',Fb⟩::o2::fS S1 js)++e0::⟨some w1,.dat m d1,F1⟩::⟨some w2,.dat m d2',Fb⟩::(S1++hid2)) H:=λ{n H e0 hid2} o2 h=>by
   have g1:=At.view (S:=S1) h (λe he=>Ac _ (Ac _ (Ac _ (Ac _ (Ao _ he))))) js
   have g2:=g1.view1 (e:=⟨some w2,.dat m d2',Fb⟩) (Ah _ (Ac _ (Ac _ (Ac _ Ab))))
   rw[jV it.md] at g2
   have g3:=g2.view1 (e:=⟨some w1,.dat m d1,F1⟩) (Ac _ (Ah _ (Ac _ (Ac _ Ab))))
   rw[jV it.md] at g3
   refine g3.perm ?_
   rw[Fn,Fn,Fn]
   exact ((Eb).cons _).cons _
  have hS6:∀(o2:Ent) (n:Nat),Sl (⟨some w1,.dat m d1,F1⟩::⟨some w2,.dat m d2',Fb⟩::o2::fS S1 js) ⟨.dat m d1::.dat m d2'::o2.x::frD δ1.sl js,n⟩:=λo2 n=>by
   unfold Sl
   rw[Ap,Ap,Ap,nR e2]
  have hv:∀(o2:Ent),vs (⟨some w1,.dat m d1,F1⟩::⟨some w2,.dat m d2',Fb⟩::o2::fS S1 js)=some w1::some w2::o2.v::Eh (vs S1) js:=λo2=>by
   rw[<- pM]
   rfl
  have hB:=view (hid2:=hid++T) ⟨o,.un,[]⟩ hA4.blank
  refine ⟨H0,Y,_,_,⟨.dat m d1::.dat m d2'::.un::frD δ1.sl js,n⟩,_,hv ⟨o,.un,[]⟩,hS6 ⟨o,.un,[]⟩ n,hB,hst,λm2 es δ2 J2 hid2 S2 H2 f1 f2 hA5 it2 hz2 p2=>?_⟩
  obtain ⟨I2,g0,gs,gf⟩:=p2
  have hA6:At K H0 Y δ2.n (⟨some (.ref D),.acc acc,D::G⟩::(⟨some w1,.dat m d1,F1⟩::⟨some w2,.dat m d2',Fb⟩::(S1++(hid2++(hid++T))))) H2:=by
   w_pre v1
   refine Eb.trans (Je _ ?_)
   exact iZ _ _ _
  refine ⟨λi2 q2 H=>q2=es.length - i2/\i2<=es.length/\∃acc n G,(b=true->G=[])/\At K H0 Y n (⟨some (.ref D),.acc acc,D::G⟩::(⟨some w1,.dat m d1,F1⟩::⟨some w2,.dat m d2',Fb⟩::(S1++(hid2++(hid++T))))) H/\I2 i2 acc n,⟨es.length,by simp,Dq _,acc,δ2.n,G,hG,hA6,g0⟩,?_⟩
  w_pre k10
  have hid2_ok:∀e∈hid2,Iu K H3 n2 e:=λe he=>hA7.ok e (Ac _ (Ac _ (Ac _ (Ah _ (Ao _ he)))))
  by_cases hlt2:i2<es.length
  ·refine .inr ⟨it2.go H3 n2 i2 hid2_ok hlt2,λy2 H4 yy=>?_⟩
   w_pre j5
   have hA8:At K H0 Y n2 ((⟨some (.ref D),.acc acc2,D::G2⟩::⟨some w1,.dat m d1,F1⟩::⟨some w2,.dat m d2',Fb⟩::S1)++⟨some y2,.dat m2 d2,F2⟩::(hid2++(hid++T))) H4:=At.item (S:=⟨some (.ref D),.acc acc2,D::G2⟩::⟨some w1,.dat m d1,F1⟩::⟨some w2,.dat m d2',Fb⟩::S1) hA7 s2 k2 k3 it2.md it2.hd it2.np
   have hA9:=view (hid2:=hid2++(hid++T)) ⟨some y2,.dat m2 d2,F2⟩ hA8.mid
   have z:=Yk (dc:=Nn) (N1:=λ_=>False) (N2:=λv H5=>∃acc,H5 D=some (.lst acc)/\acc.length<Ay/\∃m2',m2'<es.length - i2/\(m2'=es.length - (i2+1)/\i2+1<=es.length/\∃acc3 n G,(b=true->G=[])/\At K H0 Y n (⟨some (.ref D),.acc acc3,D::G⟩::(⟨some w1,.dat m d1,F1⟩::⟨some w2,.dat m d2',Fb⟩::(S1++(hid2++(hid++T))))) (upd H5 D (.lst (acc++[v])))/\I2 (i2+1) acc3 n)) (hS6 ⟨some y2,.dat m2 d2,F2⟩ n2) hG2 hA9 st lz (λ_ _ _ z=>z) (λe n' v H5 G' hG' hA10 p=>?_)
   w_pre x
  ·have e:i2=es.length:=by omega
   w_pre g5
   refine hA7.sub (List.Sublist.cons₂ _ (We _ (We _ ?_)))
   exact (Co S1).append (Bu hid2 _)
 w_pre b0
end
section
variable{X:Cx}{elt iter iter2:Expr}{x xb x2 y0:Str}{px pxb px2 pt py pos spos:Pos}{kt:Nat}{scope:Scope}{cl:List (Str×Addr)}{ys:List Str}{js:List Nat}{di di2:DI}{de:DE}
theorem zU{b:Bool}(C:CompScope X scope cl x ys js)(ownb:Zy scope xb)(own2:Zy scope x2)(nd2:(x::xb::x2::ys).Nodup)(hc:X.calm=true)(hi:qZ X (.Tuple [.Name x px,.Name xb pxb] kt pt) iter di)(hi2:∀fp s H,qZ (Dh X scope cl (x::xb::x2::ys) fp s H) (.Name x2 px2) iter2 di2)(he:∀fp s H,Gr (Dh X scope cl (x::xb::x2::ys) fp s H) elt de)(hs:∀x,Da iter X.env x=pure x:=by intro _; rfl)(hs2:∀fp s H v,Da iter2 (Dh X scope cl (x::xb::x2::ys) fp s H).env v=pure v:=by intro _ _ _ _; rfl):Gr X (.ListComp elt [⟨.Tuple [.Name x px,.Name xb pxb] kt pt,iter,[],0⟩,⟨.Name x2 px2,iter2,[],0⟩] scope pos) (tF b di js di2 de):=PE.imp (K0 C ownb own2 nd2 hc hi hi2 he hs hs2) u3
end
def CW(b:Bool)(de:DE)(pre post:List DV)(acc:List Af)(fin:List Af->Nat->Prop)(m2:Md)(es:List Af)(δ2:DS):Prop:=∃I2:Nat->List Af->Nat->Prop,I2 0 acc δ2.n /\
 (∀i2 e acc' n',es[i2]? = some e->I2 i2 acc' n'->acc'.length+1<=Ay/\Lz b Nn de ⟨pre++.dat m2 e::post,n'⟩ (λz n2=>I2 (i2+1) (acc'++[z]) n2) (λ_=>False)) /\
 ∀acc' n',I2 es.length acc' n'->fin acc' n'
def EY(b:Bool)(js:List Nat)(di2:DI)(de:DE)(P:DV->DS->Prop)(m:Md)(ds:List Af)(δ1:DS):Prop:=∃I:Nat->List Af->Nat->Prop,I 0 [] δ1.n /\
 (∀i d acc n,ds[i]? = some d->I i acc n->∃d1 d2,d=.tuple [d1,d2]/\di2 ⟨.dat m d1::.dat m d2::.un::frD δ1.sl js,n⟩ (CW b de [.dat m d1,.dat m d2] (frD δ1.sl js) acc (I (i+1)))) /\
 ∀acc n,I ds.length acc n->P (.dat (Ta b) (.list acc)) ⟨δ1.sl,n⟩
section
variable{b:Bool}{js:List Nat}{di di2:DI}{de:DE}{P:DV->DS->Prop}{δ δ1 δ2:DS}{m m2:Md}{ds es:List Af}
theorem JX{β:Type}{l:List β}{g:β->Af}{pre post:List DV}{acc:List Af}{fin:List Af->Nat->Prop}(e:es=l.map g)(f:β->Af)(hz:acc.length+l.length<=Ay)(hs:∀y∈l,∀yes:Af->Nat->Prop,yes (f y) δ2.n->Lz b Nn de ⟨pre++.dat m2 (g y)::post,δ2.n⟩ yes (λ_=>False))(hf:fin (acc++l.map f) δ2.n):CW b de pre post acc fin m2 es δ2:=by
 subst e
 refine ⟨λi a n=>a=acc++(l.take i).map f/\n=δ2.n,⟨by simp,rfl⟩,?_,?_⟩
 ·rintro i d _ _ hd ⟨rfl,rfl⟩
  rw[Bg] at hd
  cases hy:l[i]? with
  | none=>rw[hy] at hd; cases hd
  | some y =>
   rw[hy] at hd
   obtain rfl:g y=d:=Ca hd
   have hi:=(Ax.mp hy).1
   refine ⟨?_,hs y (Bq hy) _ ⟨?_,rfl⟩⟩
   ·rw[Bn,Ad,Cy]
    omega
   ·rw[Ij hy,Bo,Bw]
    rfl
 ·rintro _ _ ⟨rfl,rfl⟩
  rw[Ad,Ey]
  exact hf
theorem nC{α β:Type}(r:α->List β){l:List α}{i:Nat}{a:α}(h:l[i]? = some a):((l.take i).flatMap r).length+(r a).length<=(l.flatMap r).length:=by
 have e:l.take (i+1)=l.take i++[a]:=Ij h
 have : ((l.take (i+1)).flatMap r).length<=(l.flatMap r).length:=by
  conv=>rhs; rw[<- Fw (i+1) l,Zc,Bn]
  omega
 rw[e,Zc,Bn] at this
 simpa using this
theorem HU{α:Type}{l:List α}{g1 g2:α->Af}(e:ds=l.map λa=>.tuple [g1 a,g2 a])(r:α->List Af)(hz:(l.flatMap r).length<=Ay)(hs:∀a∈l,∀(acc:List Af) (fin:List Af->Nat->Prop),acc.length+(r a).length<=Ay->fin (acc++r a) δ1.n->di2 ⟨.dat m (g1 a)::.dat m (g2 a)::.un::frD δ1.sl js,δ1.n⟩ (CW b de [.dat m (g1 a),.dat m (g2 a)] (frD δ1.sl js) acc fin))(hP:P (.dat (Ta b) (.list (l.flatMap r))) ⟨δ1.sl,δ1.n⟩):EY b js di2 de P m ds δ1:=by
 subst e
 refine ⟨λi a n=>a=(l.take i).flatMap r/\n=δ1.n,⟨by simp,rfl⟩,?_,?_⟩
 ·rintro i d _ _ hd ⟨rfl,rfl⟩
  rw[Bg] at hd
  cases hy:l[i]? with
  | none=>rw[hy] at hd; cases hd
  | some y =>
   rw[hy] at hd
   obtain rfl:Li [g1 y,g2 y]=d:=Ca hd
   refine ⟨g1 y,g2 y,rfl,hs y (Bq hy) _ _ (Cb (nC r hy) hz) ⟨?_,rfl⟩⟩
   rw[Ij hy,Zc]
   simp
 ·rintro _ _ ⟨rfl,rfl⟩
  rw[Ad,Ey]
  exact hP
end
end DL
namespace Nd
open PySem PySem.Spec PyProof.Rows L2
abbrev ZF(h:Heap)(z TI TO:Addr)(f0 f1:Value):Prop:=h.get? z=some { cls:=.type "zip",dict:=none,data:=.fields #[f0,f1,.bool false,.ref TI,.ref TO],slots:=#[] }
section
variable{prog:Bk}{w:World}{A:Ci}{E:Value->Ai->Prop}{s:Ai}
theorem nJ{a:Addr}{o:Obj}{Q:Option Obj->Ai->Prop}(ho:s.heap.get? a=some o)(h:Q (some o) s):wpAny (model prog w) A (loadIfAlive a) Q E s:=λΓ p _=>by
 unfold loadIfAlive
 rw[Sem.wp_loadIfAlive,ho]
 exact (Sem.wp_pure ..)▸h
theorem cI{z TI TO a:Addr}{oa:Obj}{fl:Bool}(hz:ZF s.heap z TI TO (Ff (a:Int)) (.bool fl))(ha:s.heap.get? a=some oa):wpAny (model prog w) A (Dg (.ref z)) (λb s'=>b=false/\∃h',s'={ s with heap:=h' }/\ZF h' z TI TO (Ff (a:Int)) (.bool true)/\Cv z s.heap h') E s:=by
 unfold Dg
 refine Aa (Ei hz rfl (x:=Ff (a:Int)) rfl ?_)
 show wpAny _ _ (loadIfAlive ((a:Int).toNat) >>= _) _ _ _
 refine Aa (nJ (a:=(a:Int).toNat) (o:=oa) (by rw[Ee]; exact ha) ?_)
 simp only[Option.isNone_some,Bz,if_false]
 refine Aa (Ei hz rfl (x:=.bool fl) rfl ?_)
 cases fl with
 | false =>
  rw[if_pos (by decide)]
  exact Aa (Iv hz (by simp) λg1 hz1 hs1=>Ae ⟨rfl,g1,rfl,hz1,hs1⟩)
 | true =>
  rw[if_neg (by decide)]
  exact Ae ⟨rfl,s.heap,rfl,hz,⟨rfl,λ_ _=>rfl⟩⟩
theorem yA{z TI TO i1 i2 l1 l2 a:Addr}{oa:Obj}{fl:Bool}{k1 k2:Nat}{xs ys:Array Value}{x y:Value}{Q:Value->Ai->Prop}(D:Qs z TI TO i1 i2 l1 l2)(hz:ZF s.heap z TI TO (Ff (a:Int)) (.bool fl))(ha:s.heap.get? a=some oa)(hTI:Ga s.heap TI (.ref i1) (.ref i2))(h1:s.heap.IsListIter i1 l1 k1)(h2:s.heap.IsListIter i2 l2 k2)(hl1:s.heap.IsList l1 xs)(hl2:s.heap.IsList l2 ys)(hx:xs[k1]? = some x)(hy:ys[k2]? = some y)(hQ:∀h',ZF h' z TI TO (Ff (a:Int)) (.bool true)->h'.IsListIter i1 l1 (k1+1)->h'.IsListIter i2 l2 (k2+1)->Ga h' s.heap.objs.size x y->h'.objs.size=s.heap.objs.size+1->(∀c o,c≠z->c≠i1->c≠i2->s.heap.get? c=some o->h'.get? c=some o)->Q (.ref s.heap.objs.size) { s with heap:=h' }):wpAny (model prog w) A (Builtin.«zip.__next__» ⟨[.ref z],[]⟩) (λfin s'=>∃v,fin=.done (.ret v)/\Q v s') E s:=by
 w_pre q
 w_pre l2
 refine Aa (Xh ((h2.extBut hs1.extBut D.i2z).extBut hs2.extBut D.i12.symm) ((hl2.extBut hs1.extBut D.l2z).extBut hs2.extBut D.l2i1) hy λg3 q2 hs3=>Ae (Ae (Ae ?_)))
 show wpAny _ _ (newTuple [x,y] >>= _) _ _ _
 refine Aa (wpAny_newTuple ?_)
 have sz:g3.objs.size=s.heap.objs.size:=by rw[hs3.1,hs2.1,hs1.1]
 have up:∀c o,c≠z->c≠i1->c≠i2->s.heap.get? c=some o->g3.get? c=some o:=λc o c1 c2 c3 e=>hs3.extBut _ _ c3 (hs2.extBut _ _ c2 (hs1.extBut _ _ c1 e))
 have hz3:ZF g3 z TI TO (Ff (a:Int)) (.bool true):=hs3.extBut _ _ D.i2z.symm (hs2.extBut _ _ D.i1z.symm hz1)
 have fin:=hQ (g3.push { cls:=.type "tuple",data:=.seq #[x,y] }) (Ag _ hz3) ((q1.extBut hs3.extBut D.i12).at λo e=>Ag _ e) (q2.at λo e=>Ag _ e) (by rw[<- sz]; exact Au _ rfl) (by rw[Hf,sz]) (λc o c1 c2 c3 e=>Ag _ (up c o c1 c2 c3 e))
 refine Ae ⟨_,rfl,?_⟩
 rw[<- sz] at fin
 exact fin
theorem fO{z TI TO i1 i2 l1 l2 a:Addr}{oa:Obj}{fl:Bool}{k1 k2:Nat}{xs ys:Array Value}{Q:PySem.Fin->Ai->Prop}(hh:A.handled=none)(D:Qs z TI TO i1 i2 l1 l2)(hz:ZF s.heap z TI TO (Ff (a:Int)) (.bool fl))(ha:s.heap.get? a=some oa)(hTI:Ga s.heap TI (.ref i1) (.ref i2))(h1:s.heap.IsListIter i1 l1 k1)(h2:s.heap.IsListIter i2 l2 k2)(hl1:s.heap.IsList l1 xs)(hl2:s.heap.IsList l2 ys)(hend:xs[k1]? = none\/ys[k2]? = none)(hE:∀h' e,(∀c o,c≠z->c≠i1->c≠i2->s.heap.get? c=some o->h'.get? c=some o)->(∃o,h'.get? e=some o/\o.cls=.type "StopIteration")->E (.ref e) { s with heap:=h' }):wpAny (model prog w) A (Builtin.«zip.__next__» ⟨[.ref z],[]⟩) Q E s:=by
 w_pre q
 cases hx:xs[k1]? with
 | none =>
  refine Aa (wpAny_nextOf_list_end hh (h1.extBut hs1.extBut D.i1z) (hl1.extBut hs1.extBut D.l1z) hx λg2 e hs2 he=>?_)
  exact hE g2 e (λc o c1 c2 _ q=>hs2 _ _ c2 (hs1.extBut _ _ c1 q)) he
 | some x =>
  have hy:ys[k2]? = none:=hend.resolve_left λq=>by rw[hx] at q; cases q
  w_pre l2
  refine Aa (wpAny_nextOf_list_end hh ((h2.extBut hs1.extBut D.i2z).extBut hs2.extBut D.i12.symm) ((hl2.extBut hs1.extBut D.l2z).extBut hs2.extBut D.l2i1) hy λg3 e hs3 he=>?_)
  exact hE g3 e (λc o c1 c2 c3 q=>hs3 _ _ c3 (hs2.extBut _ _ c2 (hs1.extBut _ _ c1 q))) he
theorem qS{z TI TO i1 i2 l1 l2 a:Addr}{oa:Obj}{fl:Bool}{k1 k2:Nat}{xs ys:Array Value}{x y:Value}{Q:Option Value->Ai->Prop}(D:Qs z TI TO i1 i2 l1 l2)(hz:ZF s.heap z TI TO (Ff (a:Int)) (.bool fl))(ha:s.heap.get? a=some oa)(hTI:Ga s.heap TI (.ref i1) (.ref i2))(h1:s.heap.IsListIter i1 l1 k1)(h2:s.heap.IsListIter i2 l2 k2)(hl1:s.heap.IsList l1 xs)(hl2:s.heap.IsList l2 ys)(hx:xs[k1]? = some x)(hy:ys[k2]? = some y)(hQ:∀h',ZF h' z TI TO (Ff (a:Int)) (.bool true)->h'.IsListIter i1 l1 (k1+1)->h'.IsListIter i2 l2 (k2+1)->Ga h' s.heap.objs.size x y->h'.objs.size=s.heap.objs.size+1->(∀c o,c≠z->c≠i1->c≠i2->s.heap.get? c=some o->h'.get? c=some o)->Q (some (.ref s.heap.objs.size)) { s with heap:=h' }):wpAny (model prog w) A (Ji (.ref z)) Q E s:=by
 w_pre y6
 refine Aa (Lh (Dd (name:=Ds "__next__") ty Xf (Dj Xf ty F.entry_zip_next (yA D hz ha hTI h1 h2 hl1 hl2 hx hy λg' b1 b2 b3 b4 b5 b6=>Ae (hQ g' b1 b2 b3 b4 b5 b6)) (F.args_zip_next_1 _))))
theorem cS{z TI TO i1 i2 l1 l2 a:Addr}{oa:Obj}{fl:Bool}{k1 k2:Nat}{xs ys:Array Value}{Q:Option Value->Ai->Prop}(hh:A.handled=none)(D:Qs z TI TO i1 i2 l1 l2)(hz:ZF s.heap z TI TO (Ff (a:Int)) (.bool fl))(ha:s.heap.get? a=some oa)(hTI:Ga s.heap TI (.ref i1) (.ref i2))(h1:s.heap.IsListIter i1 l1 k1)(h2:s.heap.IsListIter i2 l2 k2)(hl1:s.heap.IsList l1 xs)(hl2:s.heap.IsList l2 ys)(hend:xs[k1]? = none\/ys[k2]? = none)(hQ:∀h',(∀c o,c≠z->c≠i1->c≠i2->s.heap.get? c=some o->h'.get? c=some o)->Q none { s with heap:=h' }):wpAny (model prog w) A (Ji (.ref z)) Q E s:=by
 w_pre y6
 refine Aa (Lh (Dd (name:=Ds "__next__") ty Xf (Dj Xf ty F.entry_zip_next (fO hh D hz ha hTI h1 h2 hl1 hl2 hend λg' e kp he=>?_) (F.args_zip_next_1 _))))
 obtain ⟨o,ho,hc⟩:=he
 exact Aa (Ip (T := "StopIteration") (b:=true) ⟨o,ho,hc⟩ isSubtype_stop (Ae (hQ _ kp)))
end
end Nd
namespace Nd
open PySem PySem.Spec
theorem lN:entryFor table "zip.__getattribute__" = some Builtin.«object.__getattribute__» :=
 bF (id' := "object.__getattribute__") (by kernel_rfl) (by first | rfl | decide +kernel) (by decide +kernel) (by kernel_rfl)
theorem oF:fH (.type "zip") "keys" = pure none:=by rw[Yy,Pt]; kernel_rfl
section
variable{prog:Bk}{w:World}{A:Ci}{E:Value->Ai->Prop}{h:Heap}{g:Array GenState}{d:Drawn}{t:Nat}{os:OsState}{a:Addr}{fs:Array Value}
theorem dH:isSubtype (.type "AttributeError") (.type "AttributeError")=pure true:=by rw[bE]; kernel_rfl
theorem rF(args:List Value):Kf (.type "AttributeError") args=pure Gq:=by
 have h:((Manifest.find? "AttributeError").elim false λt=>t.mro.contains "StopIteration" || t.mro.contains "SystemExit")=false:=by decide +kernel
 simp only[Kf,h]
 rfl
theorem rH{α:Type}{name msg:Str}{v:Value}{Q:α->Ai->Prop}(hh:A.handled=none)(hm:msg.length<=Ay)(hE:∀h' t' e,(∀c o,h.get? c=some o->h'.get? c=some o)->t<=t'->(∃o,h'.get? e=some o/\o.cls=.type "AttributeError")->E (.ref e) ⟨h',g,d,t',os⟩):wpAny (model prog w) A (raiseAttrError v name msg:Sem α) Q E ⟨h,g,d,t,os⟩:=by
 unfold raiseAttrError newExc newTuple
 refine Aa (wpAny_mkStr' ?_ hm)
 refine Aa (Aa (Cg ?_ (by show (1:Nat)<=Ay; decide)))
 refine Aa (Jo (rF _) (Cg ?_))
 generalize hh1:h.push { cls:=.type "tuple",data:=.seq [Value.str msg t].toArray }=h1
 have k1:∀c o,h.get? c=some o->h1.get? c=some o:=λc o q=>by rw[<- hh1]; exact Ag _ q
 have g0:(h1.push { cls:=.type "AttributeError",data:=.fields #[.ref h.objs.size,.none,.none,.none,.bool false,.none,Ks,Ks] }).get? h1.objs.size=some { cls:=.type "AttributeError",data:=.fields #[.ref h.objs.size,.none,.none,.none,.bool false,.none,Ks,Ks] }:=Au _ rfl
 show wpAny _ _ _ _ _ ⟨h1.push { cls:=.type "AttributeError",data:=.fields #[.ref h.objs.size,.none,.none,.none,.bool false,.none,Ks,Ks] },g,d,t+1,os⟩
 have k2:∀c o,h1.get? c=some o->(h1.push { cls:=.type "AttributeError",data:=.fields #[.ref h.objs.size,.none,.none,.none,.bool false,.none,Ks,Ks] }).get? c=some o:=λc o q=>Ag _ q
 have k3:∀c o,h1.get? c=some o->c≠h1.objs.size:=λc o q=>Bm (Ar q)
 generalize h1.push { cls:=.type "AttributeError",data:=.fields #[.ref h.objs.size,.none,.none,.none,.bool false,.none,Ks,Ks] }=h2 at g0 k2 ⊢
 refine Aa (wpAny_mkText ?_)
 refine Aa ?_
 unfold noteAttr
 show wpAny _ _ (lacksNameAndObj (.ref h1.objs.size) >>= _) _ _ _
 refine Aa ?_
 unfold lacksNameAndObj
 have ty:(⟨h2,g,d,t+1+1,os⟩ : Ai).TypeIs (.ref h1.objs.size) "AttributeError" := ⟨_,g0,rfl⟩
 refine Aa (Ip ty dH ?_)
 simp only[Sx,Bz,if_false]
 refine Aa (fG g0 ?_)
 show wpAny _ _ (pure true) _ _ _
 refine Ae ?_
 simp only[if_true]
 refine Aa (Jt ?_)
 refine Aa (Jm ty ?_)
 show wpAny _ _ (layMembers h1.objs.size 6 _) _ _ _
 unfold layMembers
 refine Aa (fG g0 ?_)
 refine wpAny_update g0 ?_
 refine wpAny_raiseNew_none hh (hE _ _ _ (λc o q=>?_) (by show t<=t+1+1; omega) ⟨_,Fe _ g0 rfl,rfl⟩)
 exact Heap.get?_update_of_ne _ (k3 c o (k1 c o q)).symm (k2 c o (k1 c o q))
theorem rT{tk:Tok}{Q:PySem.Fin->Ai->Prop}(hh:A.handled=none)(hx:h.get? a=some { cls:=.type "zip",dict:=none,data:=.fields fs,slots:=#[] })(hE:∀h' t' e,(∀c o,h.get? c=some o->h'.get? c=some o)->t<=t'->(∃o,h'.get? e=some o/\o.cls=.type "AttributeError")->E (.ref e) ⟨h',g,d,t',os⟩):wpAny (model prog w) A (Builtin.«object.__getattribute__» ⟨[.ref a,.str "keys" tk],[]⟩) Q E ⟨h,g,d,t,os⟩:=by
 have hT:(⟨h,g,d,t,os⟩ : Ai).TypeIs (.ref a) "zip" := ⟨_,hx,rfl⟩
 have f4:=oF
 w_pre y7
 exact rH hh (by decide +kernel) hE
theorem wK{tk:Tok}{R:Result->Ai->Prop}(hh:A.handled=none)(hx:h.get? a=some { cls:=.type "zip",dict:=none,data:=.fields fs,slots:=#[] })(hE:∀h' t' e,(∀c o,h.get? c=some o->h'.get? c=some o)->t<=t'->(∃o,h'.get? e=some o/\o.cls=.type "AttributeError")->R (.error (.ref e)) ⟨h',g,d,t',os⟩):Hb (model prog w) A (.call (.builtin "zip.__getattribute__") ⟨[.ref a,.str "keys" tk],[]⟩) R ⟨h,g,d,t,os⟩ :=
 codeAny_call_builtin F.slot_zip_getattribute.plain lN (F.slot_zip_getattribute.check _ _ _ _ _ _ _ _ (show (⟨h,g,d,t,os⟩ : Ai).TypeIs (.ref a) "zip" from ⟨_,hx,rfl⟩) (F.args_zip_getattribute_2 _ _) (rT hh hx hE))
theorem xD:fH (.type "zip") "__getattr__" = pure none:=by rw[Yy,Pt]; kernel_rfl
theorem R5{tk:Tok}{Q:Value->Ai->Prop}(hh:A.handled=none)(hx:h.get? a=some { cls:=.type "zip",dict:=none,data:=.fields fs,slots:=#[] })(hE:∀h' t' e,(∀c o,h.get? c=some o->h'.get? c=some o)->t<=t'->(∃o,h'.get? e=some o/\o.cls=.type "AttributeError")->E (.ref e) ⟨h',g,d,t',os⟩):wpAny (model prog w) A (getAttrBy (.ref a) (.str "keys" tk) false) Q E ⟨h,g,d,t,os⟩:=by
 have hT:(⟨h,g,d,t,os⟩ : Ai).TypeIs (.ref a) "zip" := ⟨_,hx,rfl⟩
 have f2:=F.slot_zip_getattribute.lookup
 have f3:=F.slot_zip_getattribute.bind (.ref a)
 have f5:=xD
 w_pre y7
 refine wK hh hx λh' t' e kp lt he=>?_
 obtain ⟨o,ho,hc⟩:=he
 have ty:(⟨h',g,d,t',os⟩ : Ai).TypeIs (.ref e) "AttributeError" := ⟨_,ho,hc⟩
 have f6:=dH
 have fin:=hE h' t' e kp lt ⟨o,ho,hc⟩
 w_pre y7
theorem yC{Q:Option Value->Ai->Prop}(hh:A.handled=none)(hx:h.get? a=some { cls:=.type "zip",dict:=none,data:=.fields fs,slots:=#[] })(hQ:∀h' t',(∀c o,h.get? c=some o->h'.get? c=some o)->t<=t'->Q none ⟨h',g,d,t',os⟩):wpAny (model prog w) A (getAttr? (.ref a) "keys") Q E ⟨h,g,d,t,os⟩:=by
 unfold getAttr? getAttrBy?
 refine Aa (wpAny_mkText (Aa (Lh (R5 hh hx λh' t' e kp lt he=>?_))))
 obtain ⟨o,ho,hc⟩:=he
 exact Aa (Ip (T := "AttributeError") (b:=true) ⟨o,ho,hc⟩ dH (Ae (hQ _ _ kp (Nat.le_of_succ_le lt))))
end
end Nd
namespace Nd
open PySem PySem.Spec PyProof.Rows L2
theorem Ug:entryFor table "dict.update.loop" = some Builtin.«dict.update.loop»:=entryFor_of_tree (by kernel_rfl)
theorem Mo:plainId "dict.update.loop" = true:=by decide +kernel
def DM(h:Heap)(z TI TO i1 i2 l1 l2:Addr)(k:Nat):Prop:=Ga h TI (.ref i1) (.ref i2)/\h.IsListIter i1 l1 k/\h.IsListIter i2 l2 k /\
 ((IsZip h z TI TO .none/\∃u v,Ga h TO u v)\/∃(a:Addr) (oa:Obj) (fl:Bool),ZF h z TI TO (Ff (Int.ofNat a)) (.bool fl)/\h.get? a=some oa)
theorem DM.keep{h h':Heap}{z TI TO i1 i2 l1 l2 D:Addr}{k:Nat}(st:DM h z TI TO i1 i2 l1 l2 k)(hs:∀c,c≠D->h'.get? c=h.get? c)(hD:∃o,h'.get? D=some o)(n:∀c∈[z,TI,TO,i1,i2],c≠D):DM h' z TI TO i1 i2 l1 l2 k:=by
 obtain ⟨a,b,c,d⟩:=st
 have n1:=n z (by simp)
 have n2:=n TI (by simp)
 have n3:=n TO (by simp)
 have n4:=n i1 (by simp)
 have n5:=n i2 (by simp)
 refine ⟨(hs TI n2).trans a,b.at λo q=>(hs i1 n4).trans q,c.at λo q=>(hs i2 n5).trans q,?_⟩
 rcases d with ⟨d,u,v,e⟩ | ⟨a,oa,fl,d,e⟩
 ·exact .inl ⟨(hs z n1).trans d,u,v,(hs TO n3).trans e⟩
 ·refine .inr ?_
  by_cases q:a=D
  ·obtain ⟨o,ho⟩:=hD
   exact ⟨a,o,fl,(hs z n1).trans d,by rw[q]; exact ho⟩
  ·exact ⟨a,oa,fl,(hs z n1).trans d,(hs a q).trans e⟩
section
variable{prog:Bk}{w:World}{A:Ci}{E:Value->Ai->Prop}{s:Ai}{z TI TO i1 i2 l1 l2:Addr}{k:Nat}{xs ys:Array Value}{x y:Value}{Q:Option Value->Ai->Prop}
theorem o7(D:Qs z TI TO i1 i2 l1 l2)(st:DM s.heap z TI TO i1 i2 l1 l2 k)(hl1:s.heap.IsList l1 xs)(hl2:s.heap.IsList l2 ys)(hx:xs[k]? = some x)(hy:ys[k]? = some y)(hQ:∀h',DM h' z TI TO i1 i2 l1 l2 (k+1)->Ga h' s.heap.objs.size x y->(∀c o,c∉[z,TI,TO,i1,i2]->s.heap.get? c=some o->h'.get? c=some o)->Q (some (.ref s.heap.objs.size)) { s with heap:=h' }):wpAny (model prog w) A (Ji (.ref z)) Q E s:=by
 w_pre l6
 ·refine wpAny_pyNext_zip_item D d a e b c hl1 hl2 hx hy λh' q1 q2 q3 q4 q5 q6 q7=>hQ h' ⟨q7 TI _ D.TIz D.TITO D.TIi1 D.TIi2 a,q3,q4,.inr ⟨_,_,false,q1,q5⟩⟩ q5 λc o hc q=>?_
  w_pre q5
 ·refine qS D d e a b c hl1 hl2 hx hy λh' q1 q2 q3 q4 q5 q6=>?_
  have up:∀c o,c∉[z,TI,TO,i1,i2]->s.heap.get? c=some o->h'.get? c=some o:=λc o hc q=>by
   w_pre v5
  refine hQ h' ⟨q6 TI _ D.TIz D.TIi1 D.TIi2 a,q2,q3,.inr ?_⟩ q4 up
  by_cases g1:a'=z
  ·subst g1
   exact ⟨a',_,true,q1,q1⟩
  by_cases g2:a'=i1
  ·subst g2
   obtain ⟨o,q,_⟩:=q2
   exact ⟨a',o,true,q1,q⟩
  by_cases g3:a'=i2
  ·subst g3
   obtain ⟨o,q,_⟩:=q3
   exact ⟨a',o,true,q1,q⟩
  exact ⟨a',oa,true,q1,q6 a' _ g1 g2 g3 e⟩
theorem M7(hh:A.handled=none)(D:Qs z TI TO i1 i2 l1 l2)(st:DM s.heap z TI TO i1 i2 l1 l2 k)(hl1:s.heap.IsList l1 xs)(hl2:s.heap.IsList l2 ys)(he:xs[k]? = none\/ys[k]? = none)(hQ:∀h',(∀c o,c∉[z,TI,TO,i1,i2]->s.heap.get? c=some o->h'.get? c=some o)->Q none { s with heap:=h' }):wpAny (model prog w) A (Ji (.ref z)) Q E s:=by
 w_pre l6
 ·refine wpAny_pyNext_zip_end hh D d a e b c hl1 hl2 he λh' q7=>hQ h' λc o hc q=>?_
  w_pre q5
 ·refine cS hh D d e a b c hl1 hl2 he λh' q6=>hQ h' λc o hc q=>?_
  w_pre v5
end
section
variable{X:Cx}{pins:List (Addr×Obj)}{σ:L2.St}{H:Hp}{s:Ai}{a b:Addr}{v:V}{r:Value}{A:Ci}{E:Value->Ai->Prop}{kvs:List (List Lc×V)}{k:List Lc}
theorem qR{Q:Unit->Ai->Prop}(hu:A.units+1<cLine)(I:Inv X pins σ H s)(e:H a=some (.dT kvs))(eb:H b=some (.tup (k.map kV)))(l:kvs.length<Ay)(rv:RelV v r)(h:∀s',Inv X pins σ (upd H a (.dT (Vz kvs k v))) s'->(∀c,c≠a->s'.heap.get? c=s.heap.get? c)->(∃o,s'.heap.get? a=some o)->Q () s'):wpAny (model X.prog X.w) A (dictSet a (.ref b) r) Q E s:=by
 w_pre m2
 refine qE (hz:=hz) (show (Px _).room A from Nat.lt_of_succ_lt hu) (cT I.hok eb) dd λh' dd' hs=>?_
 obtain ⟨q,es,ep,hq,h2,h3,h4,_,h5⟩:=dd'
 exact h _ (vO I (by rw[e]; exact True.intro) hs ⟨q,hq⟩ ⟨hl,hd,_,(rel.put k eb rv).keeps λc ys ec=>(Dw (X4 ec e (λz=>nomatch z))).trans ec,q,es,ep,hq,h2,h3,h4,h5⟩) (λc hc=>hs.2 c hc) ⟨q,hq⟩
theorem eB{R:Result->Ai->Prop}{z TI TO i1 i2 l1 l2 D:Addr}{xs ys:List V}(hh:A.handled=none)(hu:A.units+2<cLine)(Z:Qs z TI TO i1 i2 l1 l2)(W:Nat->Hp->Prop)(hW:∀i H x y,xs[i]? = some x->ys[i]? = some y->W i H->Mp X.K H l1 xs/\Mp X.K H l2 ys/\∃kvs k p,H D=some (.dT kvs)/\x=.ref p/\H p=some (.tup (k.map kV))/\kvs.length<Ay/\W (i+1) (upd H D (.dT (Vz kvs k y))))(hE:∀H,W (min xs.length ys.length) H->Mp X.K H l1 xs/\Mp X.K H l2 ys)(hR:∀H s',W (min xs.length ys.length) H->Inv X pins σ H s'->R (.ok (.ret .none)) s'):∀n i s H,n=min xs.length ys.length - i->i<=min xs.length ys.length->Inv X pins σ H s->DM s.heap z TI TO i1 i2 l1 l2 i->(∀c∈[z,TI,TO,i1,i2],La X pins H c)->W i H->Hb (model X.prog X.w) A (.builtin "dict.update.loop" ⟨[.ref D,.ref z,Ff (i:Int),.none],[]⟩) R s:=by
 intro n
 induction n with
 | zero =>
  intro i s H hn hi I st hf w0
  have e:i=min xs.length ys.length:=by omega
  subst e
  obtain ⟨q1,q2⟩:=hE H w0
  w_pre g6
  have hl1:=rv1.length
  have hl2:=rv2.length
  w_pre v3
  refine Aa (M7 (A:=A.in1) hh Z st p1.isList p2.isList ?_ λh' kp=>?_)
  ·by_cases q:xs.length<=min xs.length ys.length
   w_pre s6
  have I':=Ln (t':=s.toks) I kp hf
  show wpAny _ _ (Builtin.Dict.addKeywords D [] >>= _) _ _ _
  exact Aa (Ae (Ae (hR _ _ w0 I')))
 | succ n ih =>
  intro i s H hn hi I st hf w0
  have l1:i<xs.length:=by omega
  have l2:i<ys.length:=by omega
  obtain ⟨q1,q2,kvs,k,p,hD,ex,hp,hz,w1⟩:=hW i H _ _ (Bt l1) (Bt l2) w0
  w_pre g6
  obtain ⟨u1,hu1,ru1⟩:=rv1.get (Bt l1)
  obtain ⟨u2,hu2,ru2⟩:=rv2.get (Bt l2)
  rw[ex] at ru1
  cases (show u1=Be p from ru1)
  w_pre v3
  refine Aa (o7 (A:=A.in1) Z st p1.isList p2.isList (x:=.ref p) (y:=u2) (by simpa using hu1) (by simpa using hu2) λh' st' hpr kp=>?_)
  have I':=Ln (t':=s.toks) I kp hf
  have nD:∀c∈[z,TI,TO,i1,i2],c≠D:=λc hc e=>by
   have:=(hf c hc).1
   rw[e,hD] at this
   cases this
  refine Aa (Ct ?_)
  refine Aa (wpAny_tryCatch ?_)
  unfold Builtin.Dict.pairItems
  have ty:({ s with heap:=h' }:Ai).TypeIs (.ref s.heap.objs.size) "tuple" := ⟨_,hpr,rfl⟩
  refine Aa (Jm ty ?_)
  rw[if_pos (by decide)]
  refine Aa (Gz hpr rfl (Ae ?_))
  show wpAny _ _ (Qe [.ref p,u2] (dictSet D (.ref p) u2)) _ _ _
  refine Ct (qR (A:=A.in1) hu I' hD hp hz ru2 λs2 I2 k2 o2=>?_)
  refine Ae ⟨Qd Mo _,?_⟩
  have g:=ih (i+1) s2 _ (by omega) (by omega) I2 (st'.keep k2 o2 nD) (λc hc=>⟨by rw[Dw (nD c hc)]; exact (hf c hc).1,(hf c hc).2⟩) w1
  rw[show ((i+1:Nat):Int)=(i:Int)+1 by omega] at g
  exact g
theorem mU{Q:Value->Ai->Prop}{z TI TO i1 i2 l1 l2:Addr}{xs ys:List V}{s:Ai}{H1:Hp}(hh:A.handled=none)(hu:A.units+8<cLine)(Z:Qs z TI TO i1 i2 l1 l2)(I:Inv X pins σ H1 s)(hz:IsZip s.heap z TI TO .none)(hTI:Ga s.heap TI (.ref i1) (.ref i2))(hTO:∃u v,Ga s.heap TO u v)(h1:s.heap.IsListIter i1 l1 0)(h2:s.heap.IsListIter i2 l2 0)(hf:∀c∈[z,TI,TO,i1,i2],La X pins H1 c)(hq:∀D,H1 D=none->∃W:Nat->Hp->Prop,W 0 (upd H1 D (.dT []))/\(∀i H x y,xs[i]? = some x->ys[i]? = some y->W i H->Mp X.K H l1 xs/\Mp X.K H l2 ys/\∃kvs k p,H D=some (.dT kvs)/\x=.ref p/\H p=some (.tup (k.map kV))/\kvs.length<Ay/\W (i+1) (upd H D (.dT (Vz kvs k y))))/\∀H,W (min xs.length ys.length) H->Mp X.K H l1 xs/\Mp X.K H l2 ys/\∀s',Inv X pins σ H s'->Q (.ref D) s'):wpAny (model X.prog X.w) A (call (.type "dict") [.ref z]) Q E s:=by
 refine callType_codes (Q₁:=λobj s₁=>obj=.ref s.heap.objs.size/\s₁={ s with heap:=s.heap.push { cls:=.type "dict",data:=.dict #[] } }) F.kt_called_dict (F.kt_typeCall_dict_1 _) F.entry_dict_init (kt_code_dict_new _ ⟨rfl,rfl⟩) ?_
 rintro obj s₁ ⟨rfl,rfl⟩
 have fD:H1 s.heap.objs.size=none:=I.hok.fresh (Aj _)
 obtain ⟨W,w0,hW,hE⟩:=hq s.heap.objs.size fD
 have JF:({ s with heap:=s.heap.push { cls:=.type "dict",data:=.dict #[] } }:Ai).TypeIs (.ref s.heap.objs.size) "dict" := ⟨_,Au _ rfl,rfl⟩
 have I3:Inv X pins σ (upd H1 s.heap.objs.size (.dT [])) { s with heap:=s.heap.push { cls:=.type "dict",data:=.dict #[] } } :=
  I.laid (t':=s.toks) (λb u q=>Ag _ q) (Aj _) (nV s.heap I.big)
 have z3:IsZip (s.heap.push { cls:=.type "dict",data:=.dict #[] }) z TI TO .none:=Ag _ hz
 have tyz:({ s with heap:=s.heap.push { cls:=.type "dict",data:=.dict #[] } }:Ai).TypeIs (.ref z) "zip" := ⟨_,z3,rfl⟩
 refine ⟨JF,F.args_dict_init_2 _ _,?_⟩
 unfold Builtin.«dict.__init__»
 refine Aa ?_
 unfold Builtin.Dict.selfAndRest
 refine Aa (wpAny_notOrdered_dict JF ?_)
 show wpAny _ _ (pure (s.heap.objs.size,[Be z])) _ _ _
 refine Ae ?_
 show wpAny _ _ (cF "dict.__init__" s.heap.objs.size (.ref z) [] .none) _ _ _
 unfold cF
 refine Aa (Jm tyz ?_)
 rw[if_pos (by decide)]
 refine Aa (yC (A:=A.in1.in1) hh z3 λh4 t4 kp4 _=>?_)
 simp only[Option.isNone_none,if_true]
 refine Aa (Jt ?_)
 have z4:IsZip h4 z TI TO .none:=kp4 _ _ z3
 refine Aa (Pw z4 ?_)
 have I4:=I3.kept (h':=h4) (t':=t4) kp4
 have up:∀c o,s.heap.get? c=some o->h4.get? c=some o:=λc o q=>kp4 c o (Ag _ q)
 obtain ⟨u,v,hTO⟩:=hTO
 have st4:DM h4 z TI TO i1 i2 l1 l2 0:=⟨up _ _ hTI,h1.at λo q=>up _ _ q,h2.at λo q=>up _ _ q,.inl ⟨z4,u,v,up _ _ hTO⟩⟩
 have nz:∀c∈[z,TI,TO,i1,i2],c≠s.heap.objs.size:=λc hc=>by
  obtain ⟨o1,e1,_⟩:=h1
  obtain ⟨o2,e2,_⟩:=h2
  simp only[Ak,Az,or_false] at hc
  rcases hc with rfl | rfl | rfl | rfl | rfl
  ·exact Bm (Ar hz)
  ·exact Bm (Ar hTI)
  ·exact Bm (Ar hTO)
  ·exact Bm (Ar e1)
  ·exact Bm (Ar e2)
 refine Ae ⟨Qd Mo _,?_⟩
 exact eB (A:=A.in1) hh (Nat.lt_of_le_of_lt (Jd (show A.in1.units+2<A.units+8 from by show A.units+1+2<A.units+8; omega)) hu) Z W hW (λH w=>⟨(hE H w).1,(hE H w).2.1⟩) (λH s' w I'=>⟨rfl,(hE H w).2.2 s' I'⟩) _ 0 _ _ rfl (Dq _) I4 st4 (λc hc=>⟨by rw[Dw (nz c hc)]; exact (hf c hc).1,(hf c hc).2⟩) w0
end
section
variable{X:Cx}
def J9(K:PySem.W.Frag)(ta:TA):TE:=λσ H Q=>ta σ H λvs H1=>∃l1 l2 xs ys,vs=[.ref l1,.ref l2]/\Mp K H1 l1 xs/\Mp K H1 l2 ys/\∀D,H1 D=none->∃W:Nat->Hp->Prop,W 0 (upd H1 D (.dT [])) /\
   (∀i H x y,xs[i]? = some x->ys[i]? = some y->W i H->Mp K H l1 xs/\Mp K H l2 ys/\∃kvs k p,H D=some (.dT kvs)/\x=.ref p/\H p=some (.tup (k.map kV))/\kvs.length<Ay/\W (i+1) (upd H D (.dT (Vz kvs k y)))) /\
   ∀H,W (min xs.length ys.length) H->Mp K H l1 xs/\Mp K H l2 ys/\Q (.ref D) H
theorem zW{a b:Expr}{ta:TA}{p p2 pos pos2:Pos}(hgd:Gl X "dict")(hmd:X.mg "dict" = none)(hg:Gl X "zip")(hm:X.mg "zip" = none)(hc:X.calm=true)(hu:X.A.units+64<cLine)(ha:PA X [a,b] ta)(hs:Bj [a,b] X.env=(false,eval a X.env)::Bj [b] X.env:=by rfl)(hp:(Hh pos (Bj [b] X.env)).any (·.1)=false:=by rfl):PE X (.Call (.Name "dict" p2) [.Call (.Name "zip" p) [a,b] [] pos] [] pos2) (J9 X.K ta):=by
 intro pins s σ H R I h
 refine Call_ (Ss I hgd hmd (u:=.type "dict") (by decide +kernel) (Dz ?_ rfl rfl))
 show wpAny _ _ (spliced ((false,eval (.Call (.Name "zip" p) [a,b] [] pos) X.env)::Hh pos2 (Bj [] X.env))) _ _ s
 refine Calls.spliced_cons ?_
 refine Call_ (Ss I hg hm (u:=.type "zip") (by decide +kernel) (Dz (Fq (ha pos pins s σ H _ I h) λus s1 ⟨vs,H1,I1,r1,q1⟩=>?_) hs hp))
 obtain ⟨l1,l2,xs,ys,e,hq1,hq2,q⟩:=q1
 w_pre v
 refine call_zip_2 pl1.isList pl2.isList λh2 hz hTI hTO hi1 hi2 hsz hk=>?_
 have fr1:∀n,La X pins H1 (s1.heap.objs.size+n):=λn=>I1.fpOk (Ju _ _) (I1.hok.fresh (Ju _ _))
 have fr:∀c∈[s1.heap.objs.size+4,s1.heap.objs.size+2,s1.heap.objs.size+3,s1.heap.objs.size,s1.heap.objs.size+1],La X pins H1 c:=λc hc=>by
  w_pre a0
 refine Calls.spliced_nil ?_
 refine mU (xs:=xs) (ys:=ys) (I.ok.hd hc) (by omega) (iJ _ _ _ hlt1 hlt2) (I1.kept (t':=s1.toks) hk) hz hTI ⟨_,_,hTO⟩ hi1 hi2 fr λD hD=>?_
 obtain ⟨W,w0,hW,hE⟩:=q D hD
 exact ⟨W,w0,hW,λH w=>⟨(hE H w).1,(hE H w).2.1,λs' I'=>⟨.ref D,H,I',rfl,(hE H w).2.2⟩⟩⟩
end
end Nd
namespace DL
open PySem PySem.Spec PyProof.Rows L2 Nd
def Sy(acc:List (List Int×Af))(l:List (List Int×Af)):List (List Int×Af):=l.foldl (λa p=>Tw a p.1 p.2) acc
def kI(xs:List DV)(δ:DS)(P:DV->DS->Prop):Prop:=match xs with
 | [.dat _ (.list ds),.dat _ (.list es)]=>ds.length<=1000000/\Dx es=true/\∃ws:List (List Int),ds=ws.map Bf/\P (.dat .ow (.dict (Wh (Sy [] (ws.zip es))))) δ
 | _=>False
def qQ(da:DA):DE:=λδ P=>da δ λxs δ'=>kI xs δ' P
theorem iL:∀(l:List (List Int×Af)) (acc:List (List Int×Af)),(Sy acc l).length<=acc.length+l.length
 | [],acc=>Aj _
 | p::l,acc=>by
  have h1:=iL l (Tw acc p.1 p.2)
  have h2:=pV acc p.1 p.2
  show (Sy (Tw acc p.1 p.2) l).length<=_
  rw[Bl]
  omega
theorem rJ{ws:List (List Int)}{es:List Af}{i:Nat}{w:List Int}{e:Af}(h1:ws[i]? = some w)(h2:es[i]? = some e):Sy [] ((ws.zip es).take (i+1))=Tw (Sy [] ((ws.zip es).take i)) w e:=by
 have hz:(ws.zip es)[i]? = some (w,e):=by
  rw[List.getElem?_zip_eq_some]
  exact ⟨h1,h2⟩
 rw[List.take_add_one,hz]
 unfold Sy
 rw[bP]
 rfl
section
variable{X:Cx}{a b:Expr}{da:DA}{p p2 pos pos2:Pos}
theorem b0{K:PySem.W.Frag}:∀σ H Q,LE K (qQ da) σ H Q->J9 K (LA K da) σ H Q:=by
 w_pre s2
 unfold kI at p
 split at p
 ·rename_i m ds m' es
  obtain ⟨hl,im,ws,rfl,pk⟩:=p
  obtain ⟨v,F,w,G,rfl,hA2⟩:=Xq eu hA' ex
  w_pre e5
  refine ⟨a,b,xs,ys,rfl,Mp.of ha,Mp.of hb,λD hD=>?_⟩
  have hz3:=pF (n:=1000000) (Aj _)
  have nDa:a≠D:=λz=>by rw[z,hD] at ha; cases ha
  have nDb:b≠D:=λz=>by rw[z,hD] at hb; cases hb
  have l1:ws.length=xs.length:=by have:=ra.len; rw[Ad] at this; exact this.symm
  have l2:=rb.len
  refine ⟨λi H=>H a=some (.lst xs)/\H b=some (.lst ys)/\At K H0 Y δ'.n (⟨some (.ref D),.dT (fF (Sy [] ((ws.zip es).take i))),[D]⟩::(S'++(⟨some (.ref a),.dat m (.list (ws.map Bf)),a::G1⟩::⟨some (.ref b),.dat m' (.list es),b::G2⟩::T))) H,⟨?_,?_,?_⟩,?_,?_⟩
  ·rw[Dw nDa]; exact ha
  ·rw[Dw nDb]; exact hb
  ·exact hA2.dNew hD
  ·rintro i H x y hx hy ⟨h1,h2,hA3⟩
   have li:=(Ax.mp hx).1
   have li2:=(Ax.mp hy).1
   obtain ⟨a2,xs2,F2,ea,ha2,ra2,_,_⟩:=(hA3.told (Ac _ mem_mid)).list_inv
   cases ea
   rw[h1] at ha2
   cases ha2
   obtain ⟨b2,ys2,F3,eb,hb2,rb2,_,_⟩:=(hA3.told (Ac _ Gb)).list_inv
   cases eb
   rw[h2] at hb2
   cases hb2
   have e1:ws[i]? = some (ws[i]'(by omega)):=Bt _
   have e2:es[i]? = some (es[i]'(by omega)):=Bt _
   obtain ⟨x',Fx,g1,g2,_⟩:=ra2.get (by rw[Bg,e1]; rfl)
   rw[hx] at g1
   cases g1
   obtain ⟨p,rfl,hp⟩:=bW g2
   obtain ⟨y',Fy,g3,g4,_⟩:=rb2.get e2
   rw[hy] at g3
   cases g3
   obtain rfl:=g4.imm (tE.mp im _ (Bq e2))
   obtain ⟨kv,q1,q2,q3⟩:=hA3.dPut (w:=ws[i]'(by omega)) g4
   refine ⟨Mp.of h1,Mp.of h2,kv,Ls _,p,q1,rfl,hp,?_,?_,?_,?_⟩
   ·have:=iL ((ws.zip es).take i) []
    rw[Cy] at this
    rw[Ad] at hl
    rw[q2]
    show _<Ay
    have h0:([]:List (List Int×Af)).length=0:=rfl
    omega
   ·rw[Dw nDa]; exact h1
   ·rw[Dw nDb]; exact h2
   ·rw[rJ e1 e2]
    exact q3
  ·rintro H ⟨h1,h2,hA3⟩
   refine ⟨Mp.of h1,Mp.of h2,k _ δ' _ [D] S' H e1 e2 ?_ pk⟩
   have et:(ws.zip es).take (min xs.length ys.length)=ws.zip es:=Gu (by rw[Hr]; omega)
   rw[et] at hA3
   have hA4:=hA3.dGot
   exact (hA4.sub (((Co S').append ((Co T).cons _ |>.cons _)).cons₂ _)).tomid
 w_pre s8
theorem G8(hu:X.A.units+64<cLine)(hgd:Gl X "dict")(hmd:X.mg "dict" = none)(hg:Gl X "zip")(hm:X.mg "zip" = none)(hc:X.calm=true)(ha:mB X [a,b] da)(hs:Bj [a,b] X.env=(false,eval a X.env)::Bj [b] X.env:=by rfl)(hp:(Hh pos (Bj [b] X.env)).any (·.1)=false:=by rfl):Gr X (.Call (.Name "dict" p2) [.Call (.Name "zip" p) [a,b] [] pos] [] pos2) (qQ da):=PE.imp (zW hgd hmd hg hm hc hu ha hs hp) b0
end
end DL
namespace Nd
open PySem PySem.Spec PyProof.Rows L2
end Nd
namespace DL
open PySem PySem.Spec PyProof.Rows L2 Nd
end DL
namespace Nd
open PySem PySem.Spec PyProof.Rows L2
end Nd
namespace DL
open PySem PySem.Spec PyProof.Rows L2 Nd
def IA(t u:DB)(D:DEnds)(b:Bool)(δ:DS):Prop:=match b with
 | true=>t D δ
 | false=>u D δ
def GA(x:DV)(δ:DS)(P:DV->DS->Prop):Prop:=match x with
 | .dat _ d=>imm d=true/\P (.dat .ow d) δ
 | _=>False
def LW(i:Nat)(s:Option DV)(δ:DS)(P:DV->DS->Prop):Prop:=match s with
 | some (.dat .pk _)=>False
 | some (.dat _ d)=>P (.dat .sh d) ⟨δ.sl.set i (.dat .sh d),δ.n⟩
 | _=>False
def tupB(xs:List DV)(δ:DS)(P:DV->DS->Prop):Prop:=match datas xs with
 | some ds=>ds.length<=1000/\P (.dat (pkMd .sh xs) (.tuple ds)) δ
 | none=>False
def lstB(xs:List DV)(δ:DS)(P:DV->DS->Prop):Prop:=match datas xs with
 | some ds=>ds.length<=1000/\P (.dat (pkMd .tp xs) (.list ds)) δ
 | none=>False
def X1(x:DV)(δ:DS)(P:Option Int->DS->Prop):Prop:=match x with
 | .dat _ (.int i)=>P (some i) δ
 | _=>False
def JR(i:Bool)(x:DV)(l h:Option Int)(δ:DS)(P:DV->DS->Prop):Prop:=match x with
 | .dat m (.list ds)=>aU i m (Mi ds l h) λz=>P z δ
 | .dat m (.tuple ds)=>gJ i m (Mi ds l h) λz=>P z δ
 | _=>False
def MH(xs:List DV)(δ:DS)(P:DV->DS->Prop):Prop:=match xs with
 | [.dat _ (.list ds)]=>∃ns:List Int,ds=ns.map Aw/\(∀x∈ns,0<=x/\x<60)/\P (.dat .ow (.list ((Pl ns).map Aw))) δ
 | [.dat _ (.tuple ds)]=>∃ns:List Int,ds=ns.map Aw/\(∀x∈ns,0<=x/\x<60)/\P (.dat .ow (.list ((Pl ns).map Aw))) δ
 | _=>False
def bB(x:DV)(δ:DS)(P:Bool->DS->Prop):Prop:=match x with
 | .dat _ (.bool b)=>P b δ
 | _=>False
def R0(du:DT)(b:Bool)(δ:DS)(P:Bool->DS->Prop):Prop:=match b with
 | true=>du δ P
 | false=>P false δ
def KU(du:DT)(b:Bool)(δ:DS)(P:Bool->DS->Prop):Prop:=match b with
 | true=>P true δ
 | false=>du δ P
def FC(db:DE)(x:DV)(δ:DS)(P:DV->DS->Prop):Prop:=match x with
 | .dat _ (.bool true)=>db δ P
 | .dat _ (.bool false)=>P (.dat .ow (.bool false)) δ
 | _=>False
def LF(da db:DE)(b:Bool)(δ:DS)(P:DV->DS->Prop):Prop:=match b with
 | true=>da δ P
 | false=>db δ P
def HH(x:DV)(δ:DS)(P:DV->DS->Prop):Prop:=match x with
 | .dat _ (.int i)=>P (.dat .ow (.int (-i))) δ
 | _=>False
def lB(x:DV)(δ:DS)(P:Md->List Af->DS->Prop):Prop:=match x with
 | .dat m (.list ds)=>P (Jj m) ds δ
 | _=>False
def LL(x:DV)(δ:DS)(P:Md->List Af->DS->Prop):Prop:=match x with
 | .dat m (.tuple ds)=>P (Jj m) ds δ
 | _=>False
def X7(xs:List DV)(δ:DS)(P:Md->List Af->DS->Prop):Prop:=match xs with
 | [.dat _ (.int j)]=>-1000000<=j/\j<=1000000/\P .sh ((Cc j.toNat).map λi:Nat=>.int i) δ
 | _=>False
def W4(xs:List DV)(δ:DS)(P:Md->List Af->DS->Prop):Prop:=match xs with
 | [.dat m (.list ds)]=>P (Jj m) (ds.zipIdx.map λp=>.tuple [.int p.2,p.1]) δ
 | _=>False
def i7(xs:List DV)(δ:DS)(P:Md->List Af->DS->Prop):Prop:=match xs with
 | [.dat m (.tuple ds)]=>P (Jj m) (ds.zipIdx.map λp=>.tuple [.int p.2,p.1]) δ
 | _=>False
def IC(xs:List DV)(δ:DS)(P:Md->List Af->DS->Prop):Prop:=match xs with
 | [.dat m (.list ds),.dat m' (.list es)]=>P (mdZip m m') ((ds.zip es).map λp=>.tuple [p.1,p.2]) δ
 | _=>False
def HX(dg:DG)(db:DB)(D:DEnds)(m:Md)(ds:List Af)(δ1:DS):Prop:=m=.sh/\∃I:Nat->DS->Prop,I 0 δ1 /\
 (∀i d δ',ds[i]? = some d->I i δ'->dg (.dat .sh d) δ' λδ2=>db { D with nx:=I (i+1),ct:=I (i+1),bk:=D.nx } δ2)/\∀δ',I ds.length δ'->D.nx δ'
def zX(js:List Nat)(dc:DT)(de:DE)(P:DV->DS->Prop)(m:Md)(ds:List Af)(δ1:DS):Prop:=∃I:Nat->List Af->Nat->Prop,I 0 [] δ1.n /\
 (∀i d acc n,ds[i]? = some d->I i acc n->Pp dc de ⟨.dat m d::frD δ1.sl js,n⟩ (λe n'=>I (i+1) (acc++[e]) n') (λn'=>I (i+1) acc n')) /\
 ∀acc n,I ds.length acc n->P (.dat .ow (.list acc)) ⟨δ1.sl,n⟩
def zK(js:List Nat)(dc:DT)(de:DE)(P:DV->DS->Prop)(m:Md)(ds:List Af)(δ1:DS):Prop:=∃I:Nat->List Af->Nat->Prop,I 0 [] δ1.n /\
 (∀i d acc n,ds[i]? = some d->I i acc n->∃d1 d2,d=.tuple [d1,d2]/\Pp dc de ⟨.dat m d1::.dat m d2::frD δ1.sl js,n⟩ (λe n'=>I (i+1) (acc++[e]) n') (λn'=>I (i+1) acc n')) /\
 ∀acc n,I ds.length acc n->P (.dat .ow (.list acc)) ⟨δ1.sl,n⟩
def T9(yes:Af->Nat->Prop)(y:DV)(δ:DS):Prop:=match y with
 | .dat _ e=>imm e=true/\yes e δ.n
 | _=>False
def G3(de:DE)(yes:Af->Nat->Prop)(no:Nat->Prop)(b:Bool)(δ:DS):Prop:=match b with
 | true=>de δ λy δ3=>T9 yes y δ3
 | false=>no δ.n
def callB(pf:PF)(xs:List DV)(δ:DS)(P:DV->DS->Prop):Prop:=match datas xs with
 | some ds=>pf ds λd=>P (.dat .ow d) δ
 | none=>False
def callBW(i:Nat)(df:DF)(xs:List DV)(δ:DS)(P:DV->DS->Prop):Prop:=match δ.sl[i]? with
 | some .drw=>match datas xs with
  | some ds=>df ds δ.n λd n'=>P (.dat .ow d) ⟨δ.sl,n'⟩
  | none=>False
 | _=>False
def A9(xs:List DV)(δ:DS)(P:DV->DS->Prop):Prop:=match xs with
 | [.dat _ (.int _)]=>P .drw δ
 | _=>False
def appB(i:Nat)(y:DV)(δ:DS)(D:DEnds):Prop:=match δ.sl[i]?,y with
 | some (.dat m (.list ds)),.dat _ e=>own1 m=true/\npk δ.sl=true/\imm e=true/\ds.length<1000000/\D.nx ⟨δ.sl.set i (.dat m (.list (ds++[e]))),δ.n⟩
 | _,_=>False
def callAB(pf:PF)(xs:List DV)(δ:DS)(P:DV->DS->Prop):Prop:=match datas xs with
 | some ds=>pf ds λd=>P (.dat .sh d) δ
 | none=>False
def EO(xs:List DV)(δ:DS)(P:DV->DS->Prop):Prop:=match xs with
 | [.dat _ (.tuple ds)]=>∃ns:List Int,ds=ns.map Aw/\(∀x∈ns,0<=x/\x<60)/\P (.dat .ow (.list ((Pl ns).map Aw))) δ
 | _=>False
def LV(x:DV)(δ:DS)(P:Md->List Af->DS->Prop):Prop:=match x with
 | .dat m (.dict X)=>∃ks,X=Wh ks/\ks.length<=1000000/\P (Jj m) (ks.map λp=>Bf p.1) δ
 | _=>False
def W7(xs:List DV)(δ:DS)(P:Md->List Af->DS->Prop):Prop:=match xs with
 | [.dat m (.dict X),.dat m' (.list es)]=>∃ks,X=Wh ks/\P (mdZip m m') ((ks.zip es).map λp=>.tuple [Bf p.1.1,p.2]) δ
 | _=>False
def LH(dk dv:DE)(yes:List Int->Af->Nat->Prop)(no:Nat->Prop)(c:Bool)(δ:DS):Prop:=match c with
 | true=>dk δ λy δ3=>dv δ3 λz δ4=>pU yes y z δ4
 | false=>no δ.n
def tV(js:List Nat)(dc:DT)(dk dv:DE)(P:DV->DS->Prop)(m:Md)(ds:List Af)(δ1:DS):Prop:=ds.length<=1000000/\∃I:Nat->List (List Int×Af)->Nat->Prop,I 0 [] δ1.n /\
 (∀i d acc n,ds[i]? = some d->I i acc n->∃d1 d2,d=.tuple [d1,d2]/\kQ dc dk dv ⟨.dat m d1::.dat m d2::frD δ1.sl js,n⟩ (λw e n'=>I (i+1) (Tw acc w e) n') (λn'=>I (i+1) acc n')) /\
 ∀acc n,I ds.length acc n->P (.dat .ow (.dict (Wh acc))) ⟨δ1.sl,n⟩
theorem e_seq{t u:DB}{D:DEnds}{δ:DS}:HS t u D δ=(t { D with nx:=λδ'=>u D δ' } δ):=rfl
theorem e_skip{D:DEnds}{δ:DS}:Z6 D δ=(D.nx δ):=rfl
theorem e_ret{de:DE}{D:DEnds}{δ:DS}:ET de D δ=(de δ D.rt):=rfl
theorem e_if{dt:DT}{t u:DB}{D:DEnds}{δ:DS}:KY dt t u D δ=(dt δ (IA t u D)):=rfl
theorem e_asg{de:DE}{dg:DG}{D:DEnds}{δ:DS}:wM de dg D δ=(de δ λx δ'=>dg x δ' D.nx):=rfl
theorem e_name{i:Nat}{m:Md}{d:Af}{δ:DS}{Q:DS->Prop}:Rx i (.dat .ow d) δ Q=(Q ⟨δ.sl.set i (.dat .sh d),δ.n⟩):=rfl
theorem e_name2{i:Nat}{m:Md}{d:Af}{δ:DS}{Q:DS->Prop}:Rx i (.dat .sh d) δ Q=(Q ⟨δ.sl.set i (.dat .sh d),δ.n⟩):=rfl
theorem e_name4{i:Nat}{δ:DS}{Q:DS->Prop}:Rx i .drw δ Q=(Q ⟨δ.sl.set i .drw,δ.n⟩):=rfl
theorem e_own{i:Nat}{d:Af}{δ:DS}{Q:DS->Prop}:oJ i (.dat .ow d) δ Q=(Q ⟨δ.sl.set i (.dat .ow d),δ.n⟩):=rfl
theorem e_nF{i:Nat}{x:DV}{δ:DS}{Q:DS->Prop}:IT false i x δ Q=(Rx i x δ Q):=rfl
theorem e_gtup{n:Nat}{gs:K9}{m:Md}{ds:List Af}{δ:DS}{Q:DS->Prop}:E4 n gs (.dat m (.tuple ds)) δ Q=(ds.length=n/\gs (ds.map λd=>.dat (Qc m) d) δ Q):=rfl
theorem e_gsn{δ:DS}{Q:DS->Prop}:zS [] δ Q=(Q δ):=rfl
theorem e_gsc{g:DG}{gs:K9}{x:DV}{r:List DV}{δ:DS}{Q:DS->Prop}:uX g gs (x::r) δ Q=(g x δ λδ'=>gs r δ' Q):=rfl
theorem e_op{rd:D2}{da db:DE}{δ:DS}{P:DV->DS->Prop}:cQ rd da db δ P=(da δ λx δ1=>db δ1 λy δ2=>rd x y λz=>P z δ2):=rfl
theorem e_var{i:Nat}{δ:DS}{P:DV->DS->Prop}:EE i δ P=(match δ.sl[i]? with | some (.dat m d)=>P (.dat (kK m) d) δ | _=>False):=rfl
theorem e_c{d:Af}{δ:DS}{P:DV->DS->Prop}:dC d δ P=(P (.dat .ow d) δ):=rfl
theorem e_imm{de:DE}{δ:DS}{P:DV->DS->Prop}:FM de δ P=(de δ λx δ'=>GA x δ' P):=rfl
theorem e_immB{m:Md}{d:Af}{δ:DS}{P:DV->DS->Prop}:GA (.dat m d) δ P=(imm d=true/\P (.dat .ow d) δ):=rfl
theorem e_take{i:Nat}{δ:DS}{P:DV->DS->Prop}:E9 i δ P=(match δ.sl[i]? with | some (.dat m d)=>P (.dat m d) ⟨δ.sl.set i .un,δ.n⟩ | _=>False):=rfl
theorem e_I{C:Int->Int->Prop}{g:Int->Int->Af}{i j:Int}{m m':Md}{P:DV->Prop}:EM C g (.dat m (.int i)) (.dat m' (.int j)) P=(C i j/\P (.dat .ow (g i j))):=rfl
theorem e_I0{g:Int->Int->Af}{i j:Int}{m m':Md}{P:DV->Prop}:xC g (.dat m (.int i)) (.dat m' (.int j)) P=(P (.dat .ow (g i j))):=rfl
theorem e_eqF{d e:Af}{m m':Md}{P:DV->Prop}:jX false (.dat m d) (.dat m' e) P=(d.depth<=60/\e.depth<=60/\P (.dat .ow (.bool (Em d e)))):=rfl
theorem e_eqT{d e:Af}{m m':Md}{P:DV->Prop}:jX true (.dat m d) (.dat m' e) P=(d.depth<=60/\e.depth<=60/\P (.dat .ow (.bool (!Em d e)))):=rfl
theorem e_inFt_w1{nes:List Int}{d:Af}{es:List Af}{m m':Md}{P:DV->Prop}:rN false (.dat m d) (.dat m' (Bf nes)) P=(Br (nes.map Aw)<=60/\d.depth<=60/\P (.dat .ow (.bool ((nes.map Aw).any λe=>Em e d)))):=rfl
theorem e_inTt_w1{nes:List Int}{d:Af}{es:List Af}{m m':Md}{P:DV->Prop}:rN true (.dat m d) (.dat m' (Bf nes)) P=(Br (nes.map Aw)<=60/\d.depth<=60/\P (.dat .ow (.bool (!((nes.map Aw).any λe=>Em e d))))):=rfl
theorem e_ixl{ds:List Af}{i:Int}{m m':Md}{P:DV->Prop}:zI (.dat m (.list ds)) (.dat m' (.int i)) P=(∃d,Wq ds i=some d/\P (.dat (Qc m) d)):=rfl
theorem e_ixt{ds:List Af}{i:Int}{m m':Md}{P:DV->Prop}:zI (.dat m (.tuple ds)) (.dat m' (.int i)) P=(∃d,Wq ds i=some d/\P (.dat (Qc m) d)):=rfl
theorem e_cat{ds es:List Af}{m m':Md}{P:DV->Prop}:vD (.dat m (.list ds)) (.dat m' (.list es)) P=(Dx ds=true/\Dx es=true/\ds.length+es.length<=1000000/\P (.dat .ow (.list (ds++es)))):=rfl
theorem e_catT_w1{nds:List Int}{ds es:List Af}{m m':Md}{P:DV->Prop}:kD (.dat m (Bf nds)) (.dat m' (.tuple es)) P=(Dx (nds.map Aw)=true/\Dx es=true/\(nds.map Aw).length+es.length<=1000000/\P (.dat .ow (.tuple ((nds.map Aw)++es)))):=rfl
theorem e_rep{ds:List Af}{k:Int}{m m':Md}{P:DV->Prop}:uD (.dat m (.list ds)) (.dat m' (.int k)) P=(Dx ds=true /\ -1000000<=k/\k<=1000000/\ds.length * k.toNat<=1000000/\P (.dat .ow (.list (By k.toNat ds).flatten))):=rfl
theorem e_nlT{m:Md}{ds:List Af}{P:DV->Prop}:aU true m ds P=(Dx ds=true/\P (.dat .ow (.list ds))):=rfl
theorem e_ntT{m:Md}{ds:List Af}{P:DV->Prop}:gJ true m ds P=(Dx ds=true/\P (.dat .ow (.tuple ds))):=rfl
theorem e_pkOfpk  : kK .pk=(Md.pk):=rfl
theorem e_pkOfsh  : kK .sh=(Md.sh):=rfl
theorem e_pkOfow  : kK .ow=(Md.pk):=rfl
theorem e_mdInpk  : Qc .pk=(Md.pk):=rfl
theorem e_mdInsh  : Qc .sh=(Md.sh):=rfl
theorem e_mdInow  : Qc .ow=(Md.ow):=rfl
theorem e_mdItsh  : Jj .sh=(Md.sh):=rfl
theorem e_mdItow  : Jj .ow=(Md.sh):=rfl
theorem e_nil{δ:DS}{P:List DV->DS->Prop}:CT δ P=(P [] δ):=rfl
theorem e_cons{de:DE}{da:DA}{δ:DS}{P:List DV->DS->Prop}:X9 de da δ P=(de δ λx δ1=>da δ1 λxs δ2=>P (x::xs) δ2):=rfl
theorem e_tup{da:DA}{δ:DS}{P:DV->DS->Prop}:HV da δ P=(da δ λxs δ'=>tupB xs δ' P):=rfl
theorem e_lst{da:DA}{δ:DS}{P:DV->DS->Prop}:FP da δ P=(da δ λxs δ'=>lstB xs δ' P):=rfl
theorem e_noPart{δ:DS}{P:Option Int->DS->Prop}:uV δ P=(P none δ):=rfl
theorem e_part{de:DE}{δ:DS}{P:Option Int->DS->Prop}:Y1 de δ P=(de δ λx δ'=>X1 x δ' P):=rfl
theorem e_partB{m:Md}{i:Int}{δ:DS}{P:Option Int->DS->Prop}:X1 (.dat m (.int i)) δ P=(P (some i) δ):=rfl
theorem e_sl{i:Bool}{de:DE}{dl dh:DO}{δ:DS}{P:DV->DS->Prop}:KW i de dl dh δ P=(de δ λx δ1=>dl δ1 λl δ2=>dh δ2 λh δ3=>JR i x l h δ3 P):=rfl
theorem e_slBl{i:Bool}{m:Md}{ds:List Af}{l h:Option Int}{δ:DS}{P:DV->DS->Prop}:JR i (.dat m (.list ds)) l h δ P=(aU i m (Mi ds l h) λz=>P z δ):=rfl
theorem e_slBt_w1{nds:List Int}{i:Bool}{m:Md}{ds:List Af}{l h:Option Int}{δ:DS}{P:DV->DS->Prop}:JR i (.dat m (Bf nds)) l h δ P=(gJ i m (Mi (nds.map Aw) l h) λz=>P z δ):=rfl
theorem e_cb{rd:DC}{da:DA}{δ:DS}{P:DV->DS->Prop}:IM rd da δ P=(da δ λxs δ1=>rd xs λz=>P z δ1):=rfl
theorem e_lenl{ds:List Af}{m m':Md}{P:DV->Prop}:uK [.dat m (.list ds)] P=(P (.dat .ow (.int ds.length))):=rfl
theorem e_lent_w1{nds:List Int}{ds:List Af}{m m':Md}{P:DV->Prop}:uK [.dat m (Bf nds)] P=(P (.dat .ow (.int (nds.map Aw).length))):=rfl
theorem e_listl{i:Bool}{ds:List Af}{m m':Md}{P:DV->Prop}:sX i [.dat m (.list ds)] P=(aU i m ds P):=rfl
theorem e_tuplel{i:Bool}{ds:List Af}{m m':Md}{P:DV->Prop}:lD i [.dat m (.list ds)] P=(gJ i m ds P):=rfl
theorem e_intb{i:Bool}{m m':Md}{P:DV->Prop}:u7 [.dat m (.bool i)] P=(P (.dat .ow (.int (if i=true then 1 else 0)))):=rfl
theorem e_min2{i j:Int}{m m':Md}{P:DV->Prop}:rD [.dat m (.int i),.dat m' (.int j)] P=(P (.dat .ow (.int (if j<i then j else i)))):=rfl
theorem e_all{ds:List Af}{m m':Md}{P:DV->Prop}:w5 [.dat m (.list ds)] P=(∃bs:List Bool,ds=bs.map PyData.bool/\P (.dat .ow (.bool (bs.all id)))):=rfl
theorem e_sortI{ds:List Af}{m m':Md}{P:DV->Prop}:jZ [.dat m (.list ds)] P=(∃ns:List Int,ds=ns.map Aw/\ns.length<64/\P (.dat .ow (.list ((eZ ns).map Aw)))):=rfl
theorem e_b{de:DE}{δ:DS}{P:Bool->DS->Prop}:dB de δ P=(de δ λx δ'=>bB x δ' P):=rfl
theorem e_bB{m:Md}{b:Bool}{δ:DS}{P:Bool->DS->Prop}:bB (.dat m (.bool b)) δ P=(P b δ):=rfl
theorem e_notT{dt:DT}{δ:DS}{P:Bool->DS->Prop}:W9 dt δ P=(dt δ λb δ'=>P (!b) δ'):=rfl
theorem e_andT{dt du:DT}{δ:DS}{P:Bool->DS->Prop}:Z4 dt du δ P=(dt δ λb δ'=>R0 du b δ' P):=rfl
theorem e_orT{dt du:DT}{δ:DS}{P:Bool->DS->Prop}:EX dt du δ P=(dt δ λb δ'=>KU du b δ' P):=rfl
theorem e_orTf{du:DT}{δ:DS}{P:Bool->DS->Prop}:KU du false δ P=(du δ P):=rfl
theorem e_and{da db:DE}{δ:DS}{P:DV->DS->Prop}:HP da db δ P=(da δ λx δ'=>FC db x δ' P):=rfl
theorem e_andt{db:DE}{m:Md}{δ:DS}{P:DV->DS->Prop}:FC db (.dat m (.bool true)) δ P=(db δ P):=rfl
theorem e_ifE{dt:DT}{da db:DE}{δ:DS}{P:DV->DS->Prop}:HA dt da db δ P=(dt δ λb δ'=>LF da db b δ' P):=rfl
theorem e_neg{de:DE}{δ:DS}{P:DV->DS->Prop}:IF de δ P=(de δ λx δ'=>HH x δ' P):=rfl
theorem e_negB{m:Md}{i:Int}{δ:DS}{P:DV->DS->Prop}:HH (.dat m (.int i)) δ P=(P (.dat .ow (.int (-i))) δ):=rfl
theorem e_dL{de:DE}{δ:DS}{P:Md->List Af->DS->Prop}:dL de δ P=(de δ λx δ'=>lB x δ' P):=rfl
theorem e_dTp{de:DE}{δ:DS}{P:Md->List Af->DS->Prop}:LD de δ P=(de δ λx δ'=>LL x δ' P):=rfl
theorem e_lB{m:Md}{ds:List Af}{δ:DS}{P:Md->List Af->DS->Prop}:lB (.dat m (.list ds)) δ P=(P (Jj m) ds δ):=rfl
theorem e_tpB_w1{nds:List Int}{m:Md}{ds:List Af}{δ:DS}{P:Md->List Af->DS->Prop}:LL (.dat m (Bf nds)) δ P=(P (Jj m) (nds.map Aw) δ):=rfl
theorem e_range1{da:DA}{δ:DS}{P:Md->List Af->DS->Prop}:nE da δ P=(da δ λxs δ'=>X7 xs δ' P):=rfl
theorem e_rng1B{m:Md}{j:Int}{δ:DS}{P:Md->List Af->DS->Prop}:X7 [.dat m (.int j)] δ P=(-1000000<=j/\j<=1000000/\P .sh ((Cc j.toNat).map λi:Nat=>.int i) δ):=rfl
theorem e_enum{da:DA}{δ:DS}{P:Md->List Af->DS->Prop}:F4 da δ P=(da δ λxs δ'=>W4 xs δ' P):=rfl
theorem e_enumB{m:Md}{ds:List Af}{δ:DS}{P:Md->List Af->DS->Prop}:W4 [.dat m (.list ds)] δ P=(P (Jj m) (ds.zipIdx.map λp=>.tuple [.int p.2,p.1]) δ):=rfl
theorem e_enumT{da:DA}{δ:DS}{P:Md->List Af->DS->Prop}:uU da δ P=(da δ λxs δ'=>i7 xs δ' P):=rfl
theorem e_enumTB_w1{nds:List Int}{m:Md}{ds:List Af}{δ:DS}{P:Md->List Af->DS->Prop}:i7 [.dat m (Bf nds)] δ P=(P (Jj m) ((nds.map Aw).zipIdx.map λp=>.tuple [.int p.2,p.1]) δ):=rfl
theorem e_zip{da:DA}{δ:DS}{P:Md->List Af->DS->Prop}:Z5 da δ P=(da δ λxs δ'=>IC xs δ' P):=rfl
theorem e_zipB{m m':Md}{ds es:List Af}{δ:DS}{P:Md->List Af->DS->Prop}:IC [.dat m (.list ds),.dat m' (.list es)] δ P=(P (mdZip m m') ((ds.zip es).map λp=>.tuple [p.1,p.2]) δ):=rfl
theorem e_for{di:DI}{dg:DG}{db:DB}{D:DEnds}{δ:DS}:GJ di dg db D δ=(di δ (HX dg db D)):=rfl
theorem e_comp{di:DI}{js:List Nat}{dc:DT}{de:DE}{δ:DS}{P:DV->DS->Prop}:C5 di js dc de δ P=(di δ (zX js dc de P)):=rfl
theorem e_comp2{di:DI}{js:List Nat}{dc:DT}{de:DE}{δ:DS}{P:DV->DS->Prop}:sZ di js dc de δ P=(di δ (zK js dc de P)):=rfl
theorem e_noTest{δ:DS}{P:Bool->DS->Prop}:Nn δ P=(P true δ):=rfl
theorem e_step{dc:DT}{de:DE}{δ:DS}{yes:Af->Nat->Prop}{no:Nat->Prop}:Pp dc de δ yes no=(dc δ λb δ2=>G3 de yes no b δ2):=rfl
theorem e_stepT{de:DE}{δ:DS}{yes:Af->Nat->Prop}{no:Nat->Prop}:G3 de yes no true δ=(de δ λy δ3=>T9 yes y δ3):=rfl
theorem e_yesB{m:Md}{e:Af}{δ:DS}{yes:Af->Nat->Prop}:T9 yes (.dat m e) δ=(imm e=true/\yes e δ.n):=rfl
theorem e_call{pf:PF}{da:DA}{δ:DS}{P:DV->DS->Prop}:F7 pf da δ P=(da δ λxs δ1=>callB pf xs δ1 P):=rfl
theorem e_callW{i:Nat}{df:DF}{da:DA}{δ:DS}{P:DV->DS->Prop}:qV i df da δ P=(match δ.sl[i]? with | some .drw=>da δ λxs δ1=>callBW i df xs δ1 P | _=>False):=rfl
theorem e_draws{da:DA}{δ:DS}{P:DV->DS->Prop}:K4 da δ P=(da δ λxs δ1=>A9 xs δ1 P):=rfl
theorem e_drawsB{m:Md}{i:Int}{δ:DS}{P:DV->DS->Prop}:A9 [.dat m (.int i)] δ P=(P .drw δ):=rfl
theorem e_append{i:Nat}{de:DE}{D:DEnds}{δ:DS}:kY i de D δ=(match δ.sl[i]? with | some (.dat _ (.list _))=>de δ λy δ1=>appB i y δ1 D | _=>False):=rfl
theorem e_insert{i:Nat}{dk de:DE}{D:DEnds}{δ:DS}:lQ i dk de D δ=(match δ.sl[i]? with | some (.dat _ (.list _))=>dk δ λz δ1=>de δ1 λy δ2=>insB i z y δ2 D | _=>False):=rfl
theorem e_scrSl{i:Nat}{dl dh:DO}{δ:DS}{P:DV->DS->Prop}:rM i dl dh δ P=(match δ.sl[i]? with | some (.scr ns)=>dl δ λl δ2=>dh δ2 λh δ3=>P (.dat .ow (.list ((Mi ns l h).map Aw))) δ3 | _=>False):=rfl
theorem e_sortW{m:Md}{ds:List Af}{P:DV->Prop}:jP [.dat m (.list ds)] P=(∃ws:List (List Int),ds=ws.map Bf/\∀L:List (List Int),L.Perm ws->L.Pairwise (λx y=>HT.lexLt y x=false)->P (.dat .ow (.list (L.map Bf)))):=rfl
theorem e_zipD{da:DA}{δ:DS}{P:Md->List Af->DS->Prop}:E1 da δ P=(da δ λxs δ'=>W7 xs δ' P):=rfl
theorem e_zipDB{m m':Md}{X:List (Af×Af)}{es:List Af}{δ:DS}{P:Md->List Af->DS->Prop}:W7 [.dat m (.dict X),.dat m' (.list es)] δ P=(∃ks,X=Wh ks/\P (mdZip m m') ((ks.zip es).map λp=>.tuple [Bf p.1.1,p.2]) δ):=rfl
theorem e_dcomp2{di:DI}{js:List Nat}{dc:DT}{dk dv:DE}{δ:DS}{P:DV->DS->Prop}:lX di js dc dk dv δ P=(di δ (tV js dc dk dv P)):=rfl
theorem e_dcStep{dc:DT}{dk dv:DE}{δ:DS}{yes:List Int->Af->Nat->Prop}{no:Nat->Prop}:kQ dc dk dv δ yes no=(dc δ λc δ2=>LH dk dv yes no c δ2):=rfl
theorem e_dcBT{dk dv:DE}{δ:DS}{yes:List Int->Af->Nat->Prop}{no:Nat->Prop}:LH dk dv yes no true δ=(dk δ λy δ3=>dv δ3 λz δ4=>pU yes y z δ4):=rfl
theorem e_dcYes{m m':Md}{k e:Af}{δ:DS}{yes:List Int->Af->Nat->Prop}:pU yes (.dat m k) (.dat m' e) δ=(∃w,k=Bf w/\imm e=true/\yes w e δ.n):=rfl
theorem e_augX{i:Nat}{dk de:DE}{D:DEnds}{δ:DS}:Y6 i dk de D δ=(isLst δ.sl[i]? = true/\dk δ λz δ1=>augIK i de z δ1 D):=rfl
theorem e_dictZ{da:DA}{δ:DS}{P:DV->DS->Prop}:qQ da δ P=(da δ λxs δ'=>kI xs δ' P):=rfl
theorem e_dictZB{m m':Md}{ds es:List Af}{δ:DS}{P:DV->DS->Prop}:kI [.dat m (.list ds),.dat m' (.list es)] δ P=(ds.length<=1000000/\Dx es=true/\∃ws:List (List Int),ds=ws.map Bf/\P (.dat .ow (.dict (Wh (Sy [] (ws.zip es))))) δ):=rfl
theorem e_compP{b:Bool}{di di2:DI}{js:List Nat}{de:DE}{δ:DS}{P:DV->DS->Prop}:tF b di js di2 de δ P=(di δ λm ds δ1=>EY b js di2 de P m ds δ1):=rfl
theorem e_callA{pf:PF}{da:DA}{δ:DS}{P:DV->DS->Prop}:C2 pf da δ P=(da δ λxs δ1=>noPk xs=true/\callAB pf xs δ1 P):=rfl
theorem e_ssT{da:DA}{δ:DS}{P:DV->DS->Prop}:GI da δ P=(da δ λxs δ1=>EO xs δ1 P):=rfl
theorem e_ssTt{m:Md}{ds:List Af}{δ:DS}{P:DV->DS->Prop}:EO [.dat m (.tuple ds)] δ P=(∃ns:List Int,ds=ns.map Aw/\(∀x∈ns,0<=x/\x<60)/\P (.dat .ow (.list ((Pl ns).map Aw))) δ):=rfl
theorem e_tr{de:DE}{δ:DS}{P:DV->DS->Prop}:LC de δ P=(de δ λx δ1=>IJ x δ1 P):=rfl
theorem e_trB{m:Md}{j:Int}{δ:DS}{P:DV->DS->Prop}:IJ (.dat m (.int j)) δ P=(0<=j/\j<=1000/\P (.dat .ow (Bf (Kz j.toNat))) δ):=rfl
section
variable{t u:DB}{D:DEnds}{δ δ1:DS}
theorem Zx{α:Type}{dg:DG}{db:DB}{ds:List Af}{l:List α}{g:α->Af}(e:ds=l.map g)(I:Nat->DS->Prop)(h0:I 0 δ1)(hs:∀i a δ',l[i]? = some a->I i δ'->dg (.dat .sh (g a)) δ' λδ2=>db { D with nx:=I (i+1),ct:=I (i+1),bk:=D.nx } δ2)(hf:∀δ',I l.length δ'->D.nx δ'):HX dg db D .sh ds δ1:=by
 subst e
 refine ⟨rfl,I,h0,λi d δ' hd hI=>?_,λδ' h=>hf δ' (by rw[Ad] at h; exact h)⟩
 rw[Bg] at hd
 cases q:l[i]? with
 | none=>rw[q] at hd; cases hd
 | some a=>rw[q] at hd; cases hd; exact hs i a δ' q hI
end
section
variable{js:List Nat}{dc:DT}{de:DE}{P:DV->DS->Prop}{m:Md}{ds:List Af}{δ1:DS}{α:Type}
theorem K2{l:List α}{g:α->Af}(e:ds=l.map g)(p:α->Bool)(f:α->Af)(h:∀a∈l,∀(yes:Af->Nat->Prop) (no:Nat->Prop),(p a=true->yes (f a) δ1.n)->(p a=false->no δ1.n)->Pp dc de ⟨.dat m (g a)::frD δ1.sl js,δ1.n⟩ yes no)(q:P (.dat .ow (.list ((l.filter p).map f))) δ1):zX js dc de P m ds δ1:=by
 w_pre c5
 ·subst hn ha
  rw[Bg] at hd
  cases q:l[i]? with
  | none=>rw[q] at hd; cases hd
  | some a =>
   rw[q] at hd
   cases hd
   refine h a (Bq q) _ _ (λhp=>⟨rfl,?_⟩) (λhp=>⟨rfl,?_⟩)
   w_pre e7
 w_pre u3
theorem Yt{l:List α}{g:α->Af}(e:ds=l.map g)(f:α->Af)(h:∀a∈l,∀(yes:Af->Nat->Prop) (no:Nat->Prop),yes (f a) δ1.n->Pp dc de ⟨.dat m (g a)::frD δ1.sl js,δ1.n⟩ yes no)(q:P (.dat .ow (.list (l.map f))) δ1):zX js dc de P m ds δ1:=by
 refine K2 e (λ_=>true) f (λa ha yes no hy _=>h a ha yes no (hy rfl)) ?_
 rw[Qa.mpr λ_ _=>rfl]
 exact q
theorem jI{l:List α}{g1 g2:α->Af}(e:ds=l.map λa=>.tuple [g1 a,g2 a])(p:α->Bool)(f:α->Af)(h:∀a∈l,∀(yes:Af->Nat->Prop) (no:Nat->Prop),(p a=true->yes (f a) δ1.n)->(p a=false->no δ1.n)->Pp dc de ⟨.dat m (g1 a)::.dat m (g2 a)::frD δ1.sl js,δ1.n⟩ yes no)(q:P (.dat .ow (.list ((l.filter p).map f))) δ1):zK js dc de P m ds δ1:=by
 w_pre c5
 ·subst hn ha
  rw[Bg] at hd
  cases q:l[i]? with
  | none=>rw[q] at hd; cases hd
  | some a =>
   rw[q] at hd
   cases hd
   refine ⟨_,_,rfl,h a (Bq q) _ _ (λhp=>⟨rfl,?_⟩) (λhp=>⟨rfl,?_⟩)⟩
   w_pre e7
 w_pre u3
end
theorem eO{t u:DB}{D:DEnds}{b:Bool}{δ:DS}(h1:b=true->t D δ)(h2:b=false->u D δ):IA t u D b δ:=by
 w_pre k2
theorem GD{da db:DE}{b:Bool}{δ:DS}{P:DV->DS->Prop}(h1:b=true->da δ P)(h2:b=false->db δ P):LF da db b δ P:=by
 w_pre k2
theorem u4{du:DT}{b:Bool}{δ:DS}{P:Bool->DS->Prop}(h1:b=true->du δ P)(h2:b=false->P false δ):R0 du b δ P:=by
 w_pre k2
theorem lY{de:DE}{yes:Af->Nat->Prop}{no:Nat->Prop}{b:Bool}{δ:DS}(h1:b=true->de δ λy δ3=>T9 yes y δ3)(h2:b=false->no δ.n):G3 de yes no b δ:=by
 w_pre k2
class Im (d:Af):Prop where
 h:imm d=true
class ImA (ds:List Af):Prop where
 h:Dx ds=true
theorem im{d:Af}[h:Im d]:imm d=true:=h.h
theorem MA{ds:List Af}[h:ImA ds]:Dx ds=true:=h.h
instance {i:Int}:Im (.int i):=⟨by simp [imm]⟩
instance {i:Bool}:Im (.bool i):=⟨by simp [imm]⟩
instance {i:Str}:Im (.str i):=⟨by simp [imm]⟩
instance:Im .none:=⟨by simp [imm]⟩
instance {ds:List Af} [h:ImA ds]:Im (.tuple ds):=⟨by rw[imm]; exact h.h⟩
instance {ns:List Int}:Im (Bf ns):=⟨B0 ns⟩
instance:ImA []:=⟨by simp [Dx]⟩
instance {d:Af} {ds:List Af} [h:Im d] [t:ImA ds]:ImA (d::ds):=⟨by rw[Dx,h.h,t.h]; rfl⟩
instance {α:Type} {f:α->Af} {l:List α} [h:∀a,Im (f a)]:ImA (l.map f):=⟨Wp (λa=>(h a).h) l⟩
instance {a b:List Af} [h:ImA a] [k:ImA b]:ImA (a++b):=⟨by rw[cM,h.h,k.h]; rfl⟩
class Dp (d:Af) (k:outParam Nat):Prop where
 h:d.depth<=k
class DpA (ds:List Af) (k:outParam Nat):Prop where
 h:Br ds<=k
theorem dp{d:Af}{k:Nat}[h:Dp d k](hk:k<=60:=by decide):d.depth<=60:=Cb h.h hk
instance {i:Int}:Dp (.int i) 0:=⟨by simp [Ea]⟩
instance {i:Bool}:Dp (.bool i) 0:=⟨by simp [Ea]⟩
instance {i:Str}:Dp (.str i) 0:=⟨by simp [Ea]⟩
instance:Dp .none 0:=⟨by simp [Ea]⟩
instance {ds:List Af} {k:Nat} [h:DpA ds k]:Dp (.tuple ds) (k+1):=⟨by have:=h.h; simp only[Ea]; omega⟩
instance {ds:List Af} {k:Nat} [h:DpA ds k]:Dp (.list ds) (k+1):=⟨by have:=h.h; simp only[Ea]; omega⟩
instance {ns:List Int}:Dp (Bf ns) 1:=⟨qO ns⟩
instance:DpA [] 0:=⟨by simp [Br]⟩
instance {d:Af} {ds:List Af} {k j:Nat} [h:Dp d k] [t:DpA ds j]:DpA (d::ds) (k+j):=⟨by have:=h.h; have:=t.h; simp only[Br]; omega⟩
instance {α:Type} {f:α->Af} {l:List α} {k:Nat} [h:∀a,Dp (f a) k]:DpA (l.map f) k:=⟨aZ λx hx=>by
 obtain ⟨a,_,rfl⟩:=Dc.mp hx
 exact (h a).h⟩
theorem jJ{a b:List Af}:Br (a++b)<=Br a+Br b:=by
 induction a with
 | nil=>simp [Br]
 | cons x a ih=>simp only[Fn,Br]; omega
instance {a b:List Af} {k j:Nat} [h:DpA a k] [t:DpA b j]:DpA (a++b) (k+j):=⟨by have:=h.h; have:=t.h; have:=jJ (a:=a) (b:=b); omega⟩
theorem vB(i j:Str):Em (.str i) (.str j)=(i == j):=by simp [Em]
theorem qB(a b:List Af):Em (.list a) (.list b)=Mt a b:=by simp [Em]
theorem jQ(a b:List Af):Em (.tuple a) (.tuple b)=Mt a b:=by simp [Em]
theorem Vj(x y:Af)(a b:List Af):Mt (x::a) (y::b)=(Em x y && Mt a b):=by simp [Mt]
theorem mV:Mt [] []=true:=by simp [Mt]
theorem Yi{α:Type}[DecidableEq α]{f:α->Af}(h:∀a b,Em (f a) (f b)=decide (a=b)):∀l m:List α,Mt (l.map f) (m.map f)=decide (l=m)
 | [],[]=>by simp [Mt]
 | [],_::_=>by simp [Mt]
 | _::_,[]=>by simp [Mt]
 | a::l,b::m=>by simp [Mt,h,Yi h l m]
theorem eqD_intd(i j:Int):Em (.int i) (.int j)=decide (i=j):=by simp [Em]; rfl
theorem F9(a b:List Int):Em (Bf a) (Bf b)=decide (a=b):=by
 unfold Bf
 rw[jQ,Yi eqD_intd]
def wordsD(ws:List (List Int)):Af:=.list (ws.map Bf)
instance {ws:List (List Int)}:Dp (wordsD ws) 2:=⟨(inferInstance:Dp (.list (ws.map Bf)) 2).h⟩
theorem xI(a b:List (List Int)):Em (wordsD a) (wordsD b)=decide (a=b):=by
 unfold wordsD
 rw[qB,Yi F9]
def uH(ns:List Int):Af:=.list (ns.map Aw)
instance {ns:List Int}:Dp (uH ns) 1:=⟨(inferInstance:Dp (.list (ns.map Aw)) 1).h⟩
theorem j9(a b:List Int):Em (uH a) (uH b)=decide (a=b):=by
 unfold uH
 rw[qB,Yi eqD_intd]
theorem any_int(ns:List Int)(i:Int):((ns.map Aw).any λe=>Em e (.int i))=decide (i∈ns):=by
 rw[bQ]
 induction ns with
 | nil=>rfl
 | cons n ns ih =>
  rw[Zf,ih]
  simp only[Function.comp,eqD_intd,Ak]
  by_cases h:n=i
  ·subst h; simp
  ·have : ¬ i=n:=λz=>h z.symm
   simp [h,this]
theorem vM{α β:Type}(f:α->β)(l:List α):(l.map f).zipIdx=l.zipIdx.map λp=>(f p.1,p.2):=by
 rw[List.zipIdx_map]
 rfl
theorem Q0{α β:Type}(f:α->β)(l:List α)(i:Int):Wq (l.map f) i=(Wq l i).map f:=by
 unfold Wq
 rw[Ad]
 cases K8 l.length i with
 | none=>rfl
 | some j=>simp
theorem nP{α:Type}{l:List α}{i:Int}(h0:0<=i)(h1:i<l.length):∃a,l[i.toNat]? = some a/\Wq l i=some a/\a∈l:=by
 have hk:i.toNat<l.length:=by omega
 refine ⟨l[i.toNat],by simp [hk],?_,fE hk⟩
 have q:Wq l ((i.toNat:Nat):Int)=some l[i.toNat]:=vK (by simp [hk])
 rwa [show ((i.toNat:Nat):Int)=i by omega] at q
theorem im_e{d:Af}[h:Im d]:(imm d=true)=True:=eq_true h.h
theorem ima_e{ds:List Af}[h:ImA ds]:(Dx ds=true)=True:=eq_true h.h
theorem dp_e{d:Af}{k:Nat}[h:Dp d k](hk:k<=60):(d.depth<=60)=True:=eq_true (Cb h.h hk)
theorem dpa_e{ds:List Af}{k:Nat}[h:DpA ds k](hk:k<=60):(Br ds<=60)=True:=eq_true (Cb h.h hk)
theorem F6(a b:List (List Int)):Em (.list (a.map Bf)) (.list (b.map Bf))=decide (a=b):=xI a b
theorem eqD_li(a b:List Int):Em (.list (a.map Aw)) (.list (b.map Aw))=decide (a=b):=j9 a b
theorem eqD_l0(a:List Af):Em (.list a) (.list [])=a.isEmpty:=N7 a
theorem ow_e{d:Af}{R:Af->Prop}:(∃e,DV.dat .ow d=.dat .ow e/\R e)=R d:=by
 apply propext
 w_pre a8
 ·rintro ⟨e,h,r⟩; cases h; exact r
 ·intro r; exact ⟨d,rfl,r⟩
theorem tt_e{m:Md}{b:Bool}:(∃m',DV.dat m (.bool b)=.dat m' (.bool true))=(b=true):=by
 apply propext
 w_pre a8
 ·rintro ⟨e,h⟩; cases h; rfl
 ·intro r; subst r; exact ⟨m,rfl⟩
theorem cdiv_e{i j:Int}:CM i j=(0<j/\j<1073741824):=rfl
theorem Wf{sl sl':List DV}{n n':Nat}(h:sl=sl')(h':n=n'):(⟨sl,n⟩ : DS)=⟨sl',n'⟩:=by subst h h'; rfl
theorem Po{j i a:Nat}(h:(Cc j)[i]? = some a):a=i/\i<j:=by
 obtain ⟨h1,h2⟩:=Ax.mp h
 rw[Cq] at h1
 rw[List.getElem_range] at h2
 exact ⟨h2.symm,h1⟩
def NP(v:DV):Prop:=∀l,npk (v::l)=npk l
theorem Mv:NP .un:=λ_=>rfl
theorem Ir{d:Af}:NP (.dat .sh d):=λ_=>rfl
theorem BB:NP .drw:=λ_=>rfl
theorem Z2{t u:DB}{D:DEnds}(X:(Bool->DS->Prop)->Prop)(J:DS->Prop)(h:∀N:DS->Prop,(∀δ',J δ'->N δ')->X (IA t u { D with nx:=N }))(k:∀δ',J δ'->D.nx δ'):X (IA t u D):=h D.nx k
theorem HD{α:Type}(x y:α)(b:Bool):Wq [x,y] (if b=true then 1 else 0)=some (if b=true then y else x):=by cases b <;> rfl
theorem fold_w(w:List Int):Li (List.map Aw w)=Bf w:=rfl
theorem EA:∀x∈([]:List DV),NP x:=λ_ z=>nomatch z
theorem wL{ws:List (List Int)}{i:Int}(h0:0<=i)(h1:i<ws.length):∃w∈ws,Wq (ws.map Bf) i=some (Bf w):=by
 obtain ⟨w,_,e2,e3⟩:=nP (l:=ws) h0 h1
 exact ⟨w,e3,by rw[Q0,e2]; rfl⟩
theorem iC{α β:Type}{l:List α}{i:Nat}{a:α}(p:α->Bool)(f:α->β)(h:l[i]? = some a):((l.take (i+1)).filter p).map f=((l.take i).filter p).map f++(if p a=true then [f a] else []):=by
 rw[Ij h,Mq,Bo]
 cases q:p a <;> simp [q]
theorem HZ{ns:List Int}(k:Nat):(Mi ns none (some (k:Int))).length<=k:=by
 rw[Zw,Cy]
 exact Nat.min_le_left _ _
theorem ifB_lf{t u:DB}{D:DEnds}{δ:DS}:IA t u D false δ=u D δ:=rfl
theorem oS{α:Type}{l:List α}{i:Nat}{a:α}(h:l[i]? = some a):Wq l (i:Int)=some a:=by
 obtain ⟨b,e1,e2,_⟩:=nP (l:=l) (i:=(i:Int)) (by omega) (by have:=(Ax.mp h).1; omega)
 rw[e2,<- e1,<- h]; rfl
theorem atI_0{α:Type}(x:α)(l:List α):Wq (x::l) 0=some x:=oS (i:=0) rfl
theorem atI_1{α:Type}(x y:α)(l:List α):Wq (x::y::l) 1=some y:=oS (i:=1) rfl
theorem some_e{α:Type}{a:α}{R:α->Prop}:(∃d,some a=some d/\R d)=R a:=propext ⟨λ⟨_,e,h⟩=>by cases e; exact h,λh=>⟨a,rfl,h⟩⟩
theorem dget_e{ks:List (List Int×Af)}{w:List Int}{m m':Md}{P:DV->Prop}:lM (.dat m (.dict (Wh ks))) (.dat m' (Bf w)) P=∃d,bJ ks w=some d/\P (.dat .ow d):=propext ⟨λ⟨ks',w',d,e1,e2,h⟩=>by cases Oy e1; cases dD e2; exact ⟨d,h⟩,λ⟨d,h⟩=>⟨ks,w,d,rfl,rfl,h⟩⟩
theorem lenD_e{ks:List (List Int×Af)}{m:Md}{P:DV->Prop}:tK [.dat m (.dict (Wh ks))] P=P (.dat .ow (.int ks.length)):=propext ⟨λ⟨ks',e1,h⟩=>by cases Oy e1; exact h,λh=>⟨ks,rfl,h⟩⟩
theorem wd_e{k:List Int}{R:List Int->Prop}:(∃w,Bf k=Bf w/\R w)=R k:=by
 apply propext
 w_pre a8
 ·rintro ⟨w,h,r⟩; rw[dD h]; exact r
 ·intro r; exact ⟨k,rfl,r⟩
theorem Q9{js:List Nat}{dc:DT}{dk dv:DE}{P:DV->DS->Prop}{m:Md}{ds:List Af}{δ1:DS}{α:Type}{l:List α}{g1 g2:α->Af}(e:ds=l.map λa=>.tuple [g1 a,g2 a])(hl:l.length<=1000000)(kf:α->List Int)(vf:α->Af)(nd:(l.map kf).Nodup)(h:∀a∈l,∀(yes:List Int->Af->Nat->Prop) (no:Nat->Prop),yes (kf a) (vf a) δ1.n->kQ dc dk dv ⟨.dat m (g1 a)::.dat m (g2 a)::frD δ1.sl js,δ1.n⟩ yes no)(q:P (.dat .ow (.dict (Wh (l.map λa=>(kf a,vf a))))) δ1):tV js dc dk dv P m ds δ1:=by
 subst e
 refine ⟨by rw[Ad]; exact hl,λi acc n=>n=δ1.n/\acc=(l.take i).map λa=>(kf a,vf a),⟨rfl,by simp⟩,λi d acc n hd ⟨hn,ha⟩=>?_,λacc n ⟨hn,ha⟩=>?_⟩
 ·subst hn ha
  rw[Bg] at hd
  cases q:l[i]? with
  | none=>rw[q] at hd; cases hd
  | some a =>
   rw[q] at hd
   cases hd
   refine ⟨_,_,rfl,h a (Bq q) _ _ ⟨rfl,?_⟩⟩
   rw[Ij q,Bo]
   unfold Tw
   rw[if_neg]
   ·rfl
   ·rw[bQ,List.any_eq_true]
    rintro ⟨x,hx,hxe⟩
    have hxe:kf x=kf a:=of_decide_eq_true hxe
    obtain ⟨hi,hqa⟩:=Ax.mp q
    obtain ⟨j,hj⟩:=vZ.mp hx
    have hj':=(Ax.mp hj).1
    rw[Cy] at hj'
    rw[List.getElem?_take,if_pos (by omega)] at hj
    have z:=(bO (l:=l.map kf) (i:=j) (j:=i) (by rw[Ad]; omega) nd).mp (by rw[Bg,Bg,hj,q]; exact congrArg some hxe)
    omega
 w_pre u3
theorem dkv_e{ks:List (List Int×Af)}{R:List (List Int×Af)->Prop}:(∃ks',Wh ks=Wh ks'/\R ks')=R ks:=propext ⟨λ⟨ks',e,h⟩=>by cases Oy e; exact h,λh=>⟨ks,rfl,h⟩⟩
theorem retA_sh{d:Af}{R:Af->Prop}:(∃m d',DV.dat .sh d=.dat m d'/\m≠.pk/\R d')=R d:=propext ⟨λ⟨m,d',e,_,h⟩=>by cases e; exact h,λh=>⟨_,_,rfl,by decide,h⟩⟩
end DL
namespace K54
open PySem L2 Nd DL
def top(i:Nat):Stmt:=PySem.Challenge.pw_needledeck_k54_whole_counts_there_and_ba.main.body.getD i (.Pass ⟨0,0,0,0⟩)
abbrev Ya:Stmt:=top 1
abbrev Sv:Stmt:=top 2
abbrev Ql:Stmt:=top 3
abbrev Sh:Stmt:=top 5
abbrev Yj:Stmt:=top 6
abbrev eU:Stmt:=top 7
abbrev Tz:Stmt:=top 8
abbrev Vq:Stmt:=top 9
abbrev sY:Stmt:=top 10
abbrev aE:Stmt:=top 12
abbrev jR:Stmt:=top 14
abbrev uT:Stmt:=top 15
abbrev Ow:Stmt:=top 16
abbrev Qm:Stmt:=top 17
abbrev Sm:Stmt:=top 18
abbrev Xa:Stmt:=top 19
abbrev Ue:Stmt:=top 20
abbrev Ox:Stmt:=top 21
abbrev Ml:Stmt:=top 22
abbrev Hi:Stmt:=top 23
abbrev Eg:Stmt:=top 24
abbrev Jv:Stmt:=top 25
abbrev lP:Stmt:=top 26
section
variable{P:Bk}{w:World}{K:PySem.W.Frag}{mg:Str->Option Value}{base:Heap}
theorem MF:FnScope ["_law_cell"] ["_law_cell"] (Bv jR):=⟨rfl,rfl,rfl,by decide +kernel,rfl,by decide +kernel,by decide +kernel⟩
theorem i6{f:Addr}{fd:Cs}(F:Fun K "_law_draws" "_law_draws" jR f fd):FnOk P w K mg base Hv 1 f fd ["_law_cell"] Ye:=by
 refine F.ok MF (λvs H Q E h=>?_) (λcdv A outer s H vs Q E hr h=>?_)
 ·obtain ⟨c,rfl,_⟩:=h
  rfl
 obtain ⟨c,rfl,q⟩:=h
 refine ⟨_,Mg (n6 (uJ GR (pv 0) (Ka kX Gm Gm) (eG _)) (Vn (Zu (qU (Hy (Ka Xb (pv 0) (Ka O1 (Ka kX Gm Gm) Gm)) (Hy Gm (Hy C4 Oh)))))) lV)
  (Vn (Zu (qU (Hy (Ka Xb (pv 0) Gm) (Hy Gm (Hy C4 Oh)))))),?_⟩
 refine ⟨_,rfl,10,18,rfl,rfl,⟨by decide,by decide,by decide⟩,_,_,rfl,rfl,_,rfl,FB (λ_=>?_) (λ_=>?_)⟩
 ·refine ⟨_,rfl,10,60,rfl,rfl,⟨by decide,by decide,by decide⟩,_,16,rfl,rfl,⟨by decide,by show (Builtin.Int.intBits (10 ^ (60:Int).toNat):Int) * 16<=2 ^ 27; decide +kernel⟩,_,_,rfl,rfl,(by show (0:Int)<(10 ^ (60:Int).toNat) ^ (16:Int).toNat; decide +kernel),(by show 3<=Ay; decide),λp hp=>?_⟩
  exact q p _ _ _ hp Du (Fg hp _)
 ·refine ⟨_,rfl,_,_,rfl,rfl,(by show (0:Int)<1000003; decide),(by show 3<=Ay; decide),λp hp=>?_⟩
  exact q p _ _ _ hp Du (Fg hp _)
theorem LQ:FnScope ["_law_draws_here", "_law_k", "_law_number"] ["_law_draws_here"] (Bv uT):=⟨rfl,rfl,rfl,by decide +kernel,rfl,by decide +kernel,by decide +kernel⟩
theorem O7{f:Addr}{fd:Cs}(F:Fun K "_law_next" "_law_next" uT f fd):FnOk P w K mg base Hv 1 f fd ["_law_draws_here"] C6:=by
 refine F.ok LQ (λvs H Q E h=>?_) (λcdv A outer s H vs Q E hr h=>?_)
 ·obtain ⟨d,c,k,fl,rfl,_⟩:=h
  rfl
 obtain ⟨d,c,k,fl,rfl,hd,h0,h1,q⟩:=h
 refine ⟨_,Mg (C9 (Ka eT (eQ Vs (pv 0) Gm (λ_ _=>rfl)) Gm) (zL (pv 0) Gm cV))
  (Mg (n6 (C7 (eQ Vs (pv 0) Gm (λ_ _=>rfl)))
   (Mg (aG (i:=2) LQ.nd rfl (Dr rfl) (Ka Xb (eQ Vs (pv 0) Gm (λ_ _=>rfl)) (Ka kX Gm Gm)))
    (Mg (C9 (Ka jS (eQ Vs (pv 0) Gm (λ_ _=>rfl)) (Ka kX Gm Gm)) (zL (pv 0) Gm cV))
    (Vn (Zu (pv 2))))) lV)
  (Mg (aG (i:=1) LQ.nd rfl (Dr rfl) (eQ Vs (pv 0) Gm (λ_ _=>rfl)))
  (Mg (aG (i:=2) LQ.nd rfl (Dr rfl) (Ka Xb (Ka Zo (Ka eT (Ka eT (eQ Vs (pv 0) Gm (λ_ _=>rfl)) (Ka Zo (Ka Zo (pv 1) (pv 1)) Gm)) (pv 1)) Gm) Gm))
  (Mg (aG (i:=2) LQ.nd rfl (Dr rfl) (Ka Xb (Ka Zo (pv 2) (pv 2)) Gm))
  (Vn (Zu (Ka jS (Ka Xb (Ka Zo (pv 2) (Ka eT (pv 2) Gm)) Gm) Gm))))))),?_⟩
 -- draws[1]=draws[1]+1
 refine ⟨_,rfl,d,_,1,_,rfl,rfl,Mp.of hd,rfl,_,_,rfl,rfl,_,rfl,d,_,1,1,rfl,rfl,hd,rfl,?_⟩
 have e1:(upd H d (.lst ([V.int c,V.int k,V.bl fl].set 1 (V.int (k+1))))) d=some (.lst [.int c,.int (k+1),.bl fl]):=Du
 generalize hH1:upd H d (.lst ([V.int c,V.int k,V.bl fl].set 1 (V.int (k+1))))=H1 at e1
 have s1:aQ d H H1:=by rw[<- hH1]; exact aQ.upd
 refine ⟨_,rfl,d,_,2,_,rfl,rfl,Mp.of e1,rfl,_,rfl,?_⟩
 refine FB (λ_=>?_) (λ_=>?_)
 ·refine ⟨_,rfl,d,_,0,_,rfl,rfl,Mp.of e1,rfl,10,6,rfl,rfl,⟨by decide,by decide,by decide⟩,_,_,rfl,rfl,(by show (0:Int)<10 ^ (6:Int).toNat; decide),?_⟩
  refine ⟨_,rfl,d,_,0,_,rfl,rfl,Mp.of e1,rfl,10,6,rfl,rfl,⟨by decide,by decide,by decide⟩,_,_,rfl,rfl,⟨by decide,by decide⟩,_,rfl,d,_,0,0,rfl,rfl,e1,rfl,_,rfl,?_⟩
  exact q _ _ _ Du (s1.trans aQ.upd)
 ·refine ⟨_,rfl,d,_,1,_,rfl,rfl,Mp.of e1,rfl,?_⟩
  have b1:=kO ((c+(k+1) * (k+1) * 7919+(k+1)) * 48271) 2147483629 (by decide)
  refine ⟨_,rfl,d,_,0,_,rfl,rfl,Mp.of e1,rfl,_,rfl,_,rfl,_,_,rfl,rfl,.inl ⟨by omega,by omega⟩,_,_,rfl,rfl,.inr ⟨by decide,by decide⟩,_,_,rfl,rfl,_,rfl,_,_,rfl,rfl,
   _,_,rfl,rfl,.inr ⟨by decide,by decide⟩,_,_,rfl,rfl,(by show (0:Int)<2147483629; decide),?_⟩
  generalize ((c+(k+1) * (k+1) * 7919+(k+1)) * 48271) % 2147483629=x at b1
  have b2:=kO (x * x) 2147483587 (by decide)
  refine ⟨_,rfl,_,rfl,_,_,rfl,rfl,.inl ⟨by omega,by omega⟩,_,_,rfl,rfl,(by show (0:Int)<2147483587; decide),?_⟩
  generalize (x * x) % 2147483587=y at b2
  refine ⟨_,rfl,_,rfl,_,_,rfl,rfl,_,_,rfl,rfl,.inl ⟨by omega,by omega⟩,_,_,rfl,rfl,(by show (0:Int)<2147483579; decide),_,_,rfl,rfl,⟨by decide,by decide⟩,?_⟩
  exact q _ _ _ e1 s1
theorem zC{f:Addr}{fd:Cs}(F:Fun K "_law_draws" "_law_draws" jR f fd):FnOk P w K mg base Hv 1 f fd ["_law_cell"] Ye:=i6 F
theorem u5{f:Addr}{fd:Cs}(F:Fun K "_law_next" "_law_next" uT f fd):FnOk P w K mg base Hv 1 f fd ["_law_draws_here"] (cN K Wt):=O0 (O7 F)
end
end K54
namespace DL
open PySem L2 Nd
def sub(a b:List Int):Bool:=a.all λi=>decide (i∈b)
def fZ(a b:List Int):List Int:=a.filter λi=>decide (i∉b)
theorem Rw{a b:List Int}:sub a b=true↔∀i∈a,i∈b:=by
 unfold sub
 simp [To]
theorem p9{a b:List Int}:fZ a b=[]↔sub a b=true:=by
 unfold fZ
 rw[List.filter_eq_nil_iff,Rw]
 simp
theorem cR{h:Int}{a:List Int}(r:Do h a):a.Nodup:=r.1.imp λ{x y} h=>Int.ne_of_lt h
theorem xQ{a:List Int}(nd:a.Nodup)(h:∀x∈a,0<=x/\x<60):a.length<=60:=Cb (NdS.len_leI nd λe he=>Yc (h e he).1 (h e he).2) (by decide)
theorem Wn(a:Int){b:Int}(h:0<b):0<=a % b/\a % b<b:=kO a b h
def HG:PF:=λds R=>∃a b:List Int,ds=[Bf a,Bf b]/\R (.bool (sub a b))
end DL
namespace Nd
open PySem L2 Ts
def Fd:Nat->List (List Int)
 | 0=>[[]]
 | n+1=>Fd n++(Fd n).map (·++[(n:Int)])
theorem eN:∀n,(Fd n).length=2 ^ n
 | 0=>rfl
 | n+1=>by
  show (Fd n++(Fd n).map (·++[(n:Int)])).length=2 ^ (n+1)
  rw[Bn,Ad,eN n,Vv]
  omega
theorem Se{n:Nat}(h:n<=10):(Fd n).length<=1024:=by
 rw[eN]
 exact Xk (by decide) h
theorem Nz:∀n,∀w∈Fd n,w.length<=n
 | 0,w,h=>by
  have : w=[]:=by simpa [Fd] using h
  rw[this]
  exact Aj _
 | n+1,w,h=>by
  rcases Bc.mp (show w∈Fd n++(Fd n).map (·++[(n:Int)]) from h) with h | h
  ·exact Nat.le_succ_of_le (Nz n w h)
  ·obtain ⟨v,hv,e⟩:=Dc.mp h
   rw[<- e,Bn,Kt]
   exact Nat.succ_le_succ (Nz n v hv)
def Ord(l:List (List Int)):Prop:=l.Pairwise λx y=>HT.lexLt y x=false
theorem Ko:∀{l m:List (List Int)},l.Perm m->Ord l->Ord m->l=m
 | [],m,p,_,_=>(List.Perm.nil_eq p)
 | x::l,[],p,_,_=>by
  have:=p.length_eq
  simp at this
 | x::l,y::m,p,h1,h2=>by
  obtain ⟨a1,a2⟩:=Bd.mp h1
  obtain ⟨b1,b2⟩:=Bd.mp h2
  have e:x=y:=by
   have mx:x∈y::m:=p.mem_iff.mp Ab
   have my:y∈x::l:=p.mem_iff.mpr Ab
   rcases Ak.mp mx with e | mx
   ·exact e
   ·rcases Ak.mp my with e | my
    ·exact e.symm
    ·exact jE (b1 x mx) (a1 y my) |>.symm▸rfl
  subst e
  rw[Ko ((List.perm_cons x).mp p) a2 b2]
end Nd
namespace Nd
open PySem L2
def ch:Nat->Nat->Nat
 | _,0=>1
 | 0,_+1=>0
 | n+1,k+1=>ch n k+ch n (k+1)
theorem uY(n k:Nat):ch (n+1) (k+1)=ch n k+ch n (k+1):=rfl
theorem dF:∀{n k:Nat},n<k->ch n k=0
 | 0,0,h=>absurd h (Fc _)
 | 0,k+1,_=>rfl
 | n+1,0,h=>absurd h (Kl _)
 | n+1,k+1,h=>by rw[uY,dF (by omega:n<k),dF (by omega:n<k+1)]
theorem O8:∀n:Nat,ch n n=1
 | 0=>rfl
 | n+1=>by rw[uY,O8 n,dF (fL n)]
def sN(top:Int):Nat->List Int->Nat
 | _,[]=>0
 | m,x::w=>ch (top - 1 - x).toNat m+sN top (m - 1) w
theorem cG:∀{n:Nat} {w:List Int},w∈Fd n↔Do n w
 | 0,w=>by
  show w∈[[]]↔_
  rw[Al]
  w_pre a8
  ·rintro rfl; exact Do.nil _
  ·rintro ⟨_,h⟩
   match w with
   | []=>rfl
   | x::w=>have:=h x Ab; omega
 | n+1,w=>by
  show w∈Fd n++(Fd n).map (·++[(n:Int)])↔_
  rw[Bc,List.mem_map,cG]
  w_pre a8
  ·rintro (h | ⟨v,hv,rfl⟩)
   ·exact h.up (by omega)
   ·have:=(cG.mp hv).more (by omega)
    exact this.up (by omega)
  ·intro h
   by_cases hn:(n:Int)∈w
   ·refine .inr ⟨w.dropLast,cG.mpr ?_,?_⟩
    ·have hne:w≠[]:=λz=>by rw[z] at hn; cases hn
     have hl:w.getLast hne=n:=by
      w_pre l
     have hd:=Hs hne
     have hp:=h.1
     rw[<- hd,hl] at hp
     obtain ⟨p1,_,p3⟩:=Cw.mp hp
     exact ⟨p1,λx hx=>⟨(h.2 x (List.dropLast_subset w hx)).1,p3 x hx _ (Al.mpr rfl)⟩⟩
    ·have hne:w≠[]:=λz=>by rw[z] at hn; cases hn
     have hl:w.getLast hne=n:=by
      w_pre l
     rw[<- hl]
     exact Hs hne
   ·refine .inl ⟨h.1,λx hx=>?_⟩
    have:=h.2 x hx
    have : x≠n:=λz=>hn (by rw[<- z]; exact hx)
    omega
theorem Sn:∀n:Nat,(Fd n).Nodup
 | 0=>Cm.mpr ⟨Az,Ep⟩
 | n+1=>by
  show (Fd n++(Fd n).map (·++[(n:Int)])).Nodup
  refine Hn.mpr ⟨Sn n,?_,λx hx y hy e=>?_⟩
  ·exact List.Pairwise.map _ (λa b h e=>h (List.append_cancel_right e)) (Sn n)
  ·subst e
   obtain ⟨v,_,rfl⟩:=Dc.mp hy
   have:=(cG.mp hx).2 n (Ah _ (Al.mpr rfl))
   omega
end Nd
namespace DL
open PySem L2 Nd
def cA:PF:=λds R=>∃h:Int,ds=[.int h]/\0<=h/\h<=10/\∀L:List (List Int),L.Perm (Fd h.toNat)->Ord L->R (wordsD L)
theorem Vk{L:List (List Int)}{n:Nat}(hn:n<=10)(p:L.Perm (Fd n)):L.length<=1024/\∀w∈L,Do n w/\w.length<=10:=⟨by rw[p.length_eq]; exact Se hn,λw hw=>⟨cG.mp (p.mem_iff.mp hw),Cb (Nz n w (p.mem_iff.mp hw)) hn⟩⟩
def jD(L:List (List Int)):List (List Int×Af):=L.zipIdx.map λp=>(p.1,.int (p.2:Int))
def pO(L:List (List Int)):Af:=.dict (Wh (jD L))
def Kh(L:List (List Int))(f:List Int->Int):Af:=.list ((L.map f).map Aw)
instance {L:List (List Int)} {f:List Int->Int}:Dp (Kh L f) 1:=⟨(inferInstance:Dp (.list ((L.map f).map Aw)) 1).h⟩
theorem nS{w:List Int}:∀{L:List (List Int)} (k:Nat),w∈L->∃i:Nat,L[i]? = some w/\(((L.zipIdx k).map λp=>(p.1,Aw (p.2:Int))).find? λp=>decide (p.1=w))=some (w,.int ((i+k:Nat):Int))
 | [],_,h=>nomatch h
 | x::L,k,h=>by
  rw[Ll,Ap,Iy]
  by_cases e:x=w
  ·subst e
   exact ⟨0,rfl,by simp⟩
  ·obtain ⟨i,h1,h2⟩:=nS (k+1) ((Ak.mp h).resolve_left λz=>e z.symm)
   refine ⟨i+1,by simpa using h1,?_⟩
   have e':decide (x=w)=false:=decide_eq_false e
   simp only[e',h2]
   congr 3
   omega
theorem kB{L:List (List Int)}{w:List Int}(h:w∈L):∃i:Nat,L[i]? = some w/\bJ (jD L) w=some (.int (i:Int)):=by
 obtain ⟨i,h1,h2⟩:=nS 0 h
 refine ⟨i,h1,?_⟩
 unfold bJ jD
 rw[h2]
 rfl
theorem W0(L:List (List Int)):(jD L).length=L.length:=by
 unfold jD
 rw[Ad,Fl]
theorem vI{f:List Int->Af}:∀(L:List (List Int)) (k:Nat),((((L.zipIdx k).map λp=>(p.1,Aw (p.2:Int)))).zip (L.map f)).map (λp=>Li [Bf p.1.1,p.2])=L.map λw=>.tuple [Bf w,f w]
 | [],_=>rfl
 | x::L,k=>by
  rw[Ll,Ap,Ap,Ig,Ap,Ap,vI L (k+1)]
theorem jN(L:List (List Int))(f:List Int->Int):(((jD L).zip ((L.map f).map Aw)).map λp=>Li [Bf p.1.1,p.2])=L.map λw=>.tuple [Bf w,.int (f w)]:=by
 rw[Cr]
 exact vI (f:=λw=>.int (f w)) L 0
theorem G6{L:List (List Int)}{f:List Int->Int}{i:Nat}{w:List Int}(h:L[i]? = some w):Wq ((L.map f).map Aw) (i:Int)=some (.int (f w)):=vK (by rw[Bg,Bg,h]; rfl)
theorem R4{L:List (List Int)}{f:List Int->Int}{i:Nat}{w:List Int}{z:Int}(nd:L.Nodup)(h:L[i]? = some w):((L.map f).map Aw).set i (.int z)=(L.map λv=>if v=w then z else f v).map Aw:=by
 rw[Cr,Cr]
 apply Ru
 intro j
 rw[Rt]
 split
 ·rename_i hij
  subst hij
  rw[Ad,if_pos (Ax.mp h).1,Bg,h]
  simp
 ·rename_i hij
  rw[Bg,Bg]
  cases q:L[j]? with
  | none=>rfl
  | some v =>
   have : v≠w:=by
    rintro rfl
    exact hij ((bO (l:=L) (i:=i) (j:=j) (Ax.mp h).1 nd).mp (by rw[h,q]))
   simp [this]
def kP(p t:Int)(f:List Int->Int)(w:List Int):Int:=if p∈w then f w else f w+t * f (Pl (w++[p]))
def bU:PF:=λds R=>∃h:Int,ds=[.int h]/\0<=h/\h<=10/\∀L:List (List Int),L.Perm (Fd h.toNat)->Ord L->R (pO L)
def tX:PF:=λds R=>∃(n:Nat) (L:List (List Int)) (f:List Int->Int) (p t:Int),ds=[Kh L f,pO L,.int p,.int t]/\n<=10/\L.Perm (Fd n)/\0<=p/\p<n/\(t=1\/t = -1)/\R (Kh L (kP p t f))
def Gg(deck:List (List Int))(w:List Int):Int:=(deck.countP λc=>sub w c:Nat)
def Ur:PF:=λds R=>∃(h:Int) (deck:List (List Int)),ds=[.int h,.list (deck.map Bf)]/\0<=h/\h<=10/\(∀c∈deck,Do h c)/\∀L:List (List Int),L.Perm (Fd h.toNat)->Ord L->R (Kh L (Gg deck))
theorem Nu{L:List (List Int)}{n:Nat}(p:L.Perm (Fd n)):L.Nodup:=p.nodup_iff.mpr (Sn n)
theorem Na{L:List (List Int)}{n:Nat}(p:L.Perm (Fd n)){w:List Int}:w∈L↔Do n w:=p.mem_iff.trans cG
theorem dQ{n:Int}{w:List Int}{p:Int}(r:Do n w)(p0:0<=p)(p1:p<n):Do n (Pl (w++[p])):=⟨Vl _,λx hx=>by
 rcases Bc.mp (mK.mp hx) with z | z
 ·exact r.2 x z
 ·rw[Al.mp z]; exact ⟨p0,p1⟩⟩
def mt(k:Nat)(w c:List Int):Bool:=sub w c && c.all λi=>decide (i∈w\/i<k)
theorem Xc{k:Nat}{w c:List Int}:mt k w c=true↔(∀i∈w,i∈c)/\∀i∈c,i∈w\/i<k:=by
 unfold mt
 rw[Ed,Rw,To]
 simp
theorem Vb{α:Type}{p q r:α->Bool}(h:∀a,(p a=true↔q a=true\/r a=true)/\¬ (q a=true/\r a=true)):∀l:List α,l.countP p=l.countP q+l.countP r
 | []=>rfl
 | a::l=>by
  obtain ⟨h1,h2⟩:=h a
  rw[Tn,Tn,Tn,Vb h l]
  cases hp:p a <;> cases hq:q a <;> cases hr:r a <;> simp_all <;> omega
theorem IE{k:Nat}{w c:List Int}(h:(k:Int)∈w):mt (k+1) w c=mt k w c:=by
 rw[Pv,Xc,Xc]
 w_pre w5
 ·rintro (z | z)
  w_pre p8
  ·by_cases e:i=k
   ·exact .inl (e▸h)
   w_pre a9
 ·rintro (z | z)
  w_pre p8
  w_pre a9
theorem uP{w:List Int}{p i:Int}:i∈Pl (w++[p])↔i∈w\/i=p:=by
 rw[mK,Bc,Al]
theorem AC{k:Nat}{w c:List Int}(h:(k:Int)∉w):(mt (k+1) w c=true↔mt k w c=true\/mt k (Pl (w++[(k:Int)])) c=true)/\¬ (mt k w c=true/\mt k (Pl (w++[(k:Int)])) c=true):=by
 rw[Xc,Xc,Xc]
 simp only[uP]
 w_pre a8
 ·constructor
  ·rintro ⟨h1,h2⟩
   by_cases hk:(k:Int)∈c
   ·refine .inr ⟨λi hi=>?_,λi hi=>?_⟩
    ·rcases hi with hi | rfl
     ·exact h1 i hi
     ·exact hk
    ·rcases h2 i hi with z | z
     ·exact .inl (.inl z)
     ·by_cases e:i=k
      ·exact .inl (.inr e)
      w_pre a9
   ·refine .inl ⟨h1,λi hi=>?_⟩
    rcases h2 i hi with z | z
    w_pre p8
    ·refine .inr ?_
     have : i≠k:=by rintro rfl; exact hk hi
     omega
  ·rintro (⟨h1,h2⟩ | ⟨h1,h2⟩)
   ·refine ⟨h1,λi hi=>(h2 i hi).imp id λz=>by omega⟩
   ·refine ⟨λi hi=>h1 i (.inl hi),λi hi=>?_⟩
    rcases h2 i hi with (z | z) | z
    w_pre p8
    w_pre a9
    w_pre a9
 ·rintro ⟨⟨h1,h2⟩,⟨h3,h4⟩⟩
  rcases h2 k (h3 k (.inr rfl)) with z | z
  ·exact h z
  ·omega
def aD(deck:List (List Int))(k:Nat)(w:List Int):Int:=(deck.countP (mt k w):Nat)
theorem L5(deck:List (List Int))(k:Nat)(w:List Int):kP k 1 (aD deck k) w=aD deck (k+1) w:=by
 unfold kP aD
 split
 ·rename_i h
  congr 2
  funext c
  exact (IE h).symm
 ·rename_i h
  rw[Vb (q:=mt k w) (r:=mt k (Pl (w++[(k:Int)]))) (λc=>AC (c:=c) h) deck]
  omega
theorem V6{deck:List (List Int)}{n:Nat}(hd:∀c∈deck,Do n c)(w:List Int):aD deck n w=Gg deck w:=by
 unfold aD Gg
 w_pre c7
 rw[Xc,Rw]
 exact ⟨λh=>h.1,λh=>⟨h,λi hi=>.inr ((hd c hc).2 i hi).2⟩⟩
theorem Vg{n m:Int}{a b:List Int}(ha:Do n a)(hb:Do m b)(h:∀i,i∈a↔i∈b):a=b:=by
 have p:a.Perm b:=(List.perm_ext_iff_of_nodup (cR ha) (cR hb)).mpr h
 exact p.eq_of_pairwise (λx y _ _ h1 h2=>by omega) ha.1 hb.1
def Ny(deck:List (List Int))(w:List Int):Int:=(deck.count w:Nat)
theorem V8{deck:List (List Int)}{n:Nat}(hd:∀c∈deck,Do n c){w:List Int}(hw:Do n w):aD deck 0 w=Ny deck w:=by
 unfold aD Ny
 congr 1
 rw[List.count_eq_countP]
 refine Nl λc hc=>?_
 rw[Xc,beq_iff_eq]
 w_pre a8
 ·rintro ⟨h1,h2⟩
  refine Vg (hd c hc) hw λi=>⟨λhi=>?_,h1 i⟩
  rcases h2 i hi with z | z
  ·exact z
  ·have:=(hd c hc).2 i hi
   omega
 ·rintro rfl
  exact ⟨λ_ h=>h,λ_ h=>.inl h⟩
theorem Zt{L:List (List Int)}{f g:List Int->Int}(h:∀w∈L,f w=g w):Kh L f=Kh L g:=by
 unfold Kh
 rw[Py h]
def Lk(Q:List Int)(f:List Int->Int):List Int->Int:=Q.foldl (λf q=>kP q (-1) f) f
theorem gV(Q:List Int)(q:Int)(f:List Int->Int):Lk (Q++[q]) f=kP q (-1) (Lk Q f):=by
 unfold Lk
 rw[bP]
 rfl
def dY:PF:=λds R=>∃(n:Nat) (L:List (List Int)) (f:List Int->Int) (Q:List Int),ds=[pO L,Kh L f,Bf Q]/\n<=10/\L.Perm (Fd n)/\(∀q∈Q,0<=q/\q<n)/\R (Kh L (Lk Q f))
def J5:PF:=λds R=>∃(h:Int) (L:List (List Int)) (f:List Int->Int) (w Q:List Int),ds=[.int h,Kh L f,Bf w,Bf Q]/\0<=h/\h<=10/\L.Perm (Fd h.toNat)/\Ord L/\Do h w/\(∀q∈Q,0<=q/\q<h)/\R (.int (Lk Q f w))
def jm(Q w c:List Int):Bool:=sub w c && c.all λi=>decide (i∈w\/i∉Q)
theorem Uc{Q w c:List Int}:jm Q w c=true↔(∀i∈w,i∈c)/\∀i∈c,i∈w\/i∉Q:=by
 unfold jm
 rw[Ed,Rw,To]
 simp
def tJ(deck:List (List Int))(Q w:List Int):Int:=(deck.countP (jm Q w):Nat)
theorem BH{Q w:List Int}{q:Int}(hw:q∉w)(hq:q∉Q)(c:List Int):(jm Q w c=true↔jm (Q++[q]) w c=true\/jm Q (Pl (w++[q])) c=true)/\¬ (jm (Q++[q]) w c=true/\jm Q (Pl (w++[q])) c=true):=by
 rw[Uc,Uc,Uc]
 simp only[uP,Bc,Al,not_or]
 w_pre a8
 ·constructor
  ·rintro ⟨h1,h2⟩
   by_cases hc:q∈c
   ·refine .inr ⟨λi hi=>?_,λi hi=>(h2 i hi).imp .inl id⟩
    rcases hi with hi | rfl
    ·exact h1 i hi
    ·exact hc
   ·refine .inl ⟨h1,λi hi=>(h2 i hi).imp id λz=>⟨z,?_⟩⟩
    rintro rfl
    exact hc hi
  ·rintro (⟨h1,h2⟩ | ⟨h1,h2⟩)
   ·exact ⟨h1,λi hi=>(h2 i hi).imp id And.left⟩
   ·refine ⟨λi hi=>h1 i (.inl hi),λi hi=>?_⟩
    rcases h2 i hi with (z | rfl) | z
    w_pre p8
    ·exact .inr hq
    ·exact .inr z
 ·rintro ⟨⟨h1,h2⟩,⟨h3,h4⟩⟩
  rcases h2 q (h3 q (.inr rfl)) with z | z
  ·exact hw z
  ·exact z.2 rfl
theorem HK{Q w c:List Int}{q:Int}(hw:q∈w):jm (Q++[q]) w c=jm Q w c:=by
 rw[Pv,Uc,Uc]
 simp only[Bc,Al,not_or]
 w_pre w5
 ·rintro (z | z)
  w_pre p8
  ·exact .inr z.1
 ·rintro (z | z)
  w_pre p8
  ·by_cases e:i=q
   ·exact .inl (e▸hw)
   ·exact .inr ⟨z,e⟩
theorem oX(deck:List (List Int)):∀(k:Nat) (Q:List Int),Q.length=k->Q.Nodup->∀w,Lk Q (Gg deck) w=tJ deck Q w:=by
 intro k
 induction k with
 | zero =>
  intro Q hQ _ w
  obtain rfl:=Ms.mp hQ
  show Gg deck w=tJ deck [] w
  unfold Gg tJ
  congr 1
  refine Nl λc _=>?_
  rw[Uc,Rw]
  simp
 | succ k ih =>
  intro Q hQ nd w
  have hne:Q≠[]:=λz=>by rw[z] at hQ; cases hQ
  obtain ⟨Q',q,rfl⟩ : ∃Q' q,Q=Q'++[q]:=⟨Q.dropLast,Q.getLast hne,(Hs hne).symm⟩
  obtain ⟨n1,n2,n3⟩:=Hn.mp nd
  have hq:q∉Q':=λz=>n3 q z q (Al.mpr rfl) rfl
  have ih:=ih Q' (by simpa using hQ) n1
  rw[gV]
  unfold kP
  rw[ih,ih]
  unfold tJ
  split
  ·rename_i h
   congr 2
   funext c
   exact (HK h).symm
  ·rename_i h
   have:=Vb (p:=jm Q' w) (q:=jm (Q'++[q]) w) (r:=jm Q' (Pl (w++[q]))) (BH h hq) deck
   omega
end DL
namespace DL
open PySem PySem.Spec PyProof.Rows L2 Nd
theorem oW:∀(L:List (List Int)) (es:List Af) (acc:List (List Int×Af)),L.length=es.length->L.Nodup->(∀w∈L,∀p∈acc,p.1≠w)->Sy acc (L.zip es)=acc++L.zip es
 | [],es,acc,_,_,_=>by simp [Sy]
 | w::L,[],acc,h,_,_=>by cases h
 | w::L,e::es,acc,h,nd,hn=>by
  have hp:Tw acc w e=acc++[(w,e)]:=by
   unfold Tw
   rw[if_neg]
   rw[List.any_eq_true]
   rintro ⟨p,hp,z⟩
   exact hn w Ab p hp (of_decide_eq_true z)
  have nd':=Cm.mp nd
  show Sy (Tw acc w e) (L.zip es)=_
  rw[hp,oW L es _ (Nat.succ.inj h) nd'.2 λv hv p hp=>?_]
  ·rw[Bw]; rfl
  ·rcases Bc.mp hp with z | z
   ·exact hn v (Ac _ hv) p z
   ·rw[Al.mp z]
    rintro rfl
    exact nd'.1 hv
theorem xW(n:Nat):Kz (n+1)=Kz n++[(n:Int)]:=by
 unfold Kz
 rw[List.range_succ,Bo]
 rfl
end DL
namespace DRow
open PySem L2 Nd DL
abbrev Cd:=List Int
def Tg(w u:List Int):Bool:=w.all λi=>decide (i∈u)
def Xt(c:Cd->List Int)(rs:List Cd)(ns:List Int):List Cd:=rs.filter λr=>Tg ns (c r)
def cJ(c:Cd->List Int)(rs:List Cd)(ns:List Int):List Cd:=rs.filter λr=>!Tg ns (c r)
def HE(c:Cd->List Int)(rs:List Cd)(p:List Int×Bool):List Cd:=if p.2=true then cJ c rs p.1++Xt c rs p.1 else Xt c rs p.1++cJ c rs p.1
def X3(c:Cd->List Int)(rs:List Cd)(ps:List (List Int×Bool)):List Cd:=ps.foldl (HE c) rs
def L8(n1 n2:List Int)(ps:List (List Int×Bool)):Option Bool:=ps.foldl (λst p=>if Tg p.1 n1=Tg p.1 n2 then st else some (Tg p.1 n1 == !p.2)) none
theorem Q8(n1 n2:List Int)(ps:List (List Int×Bool))(p:List Int×Bool):L8 n1 n2 (ps++[p])=if Tg p.1 n1=Tg p.1 n2 then L8 n1 n2 ps else some (Tg p.1 n1 == !p.2):=by
 unfold L8
 rw[bP]
 rfl
def cY(ps:List (List Int×Bool))(n:List Int):List Int:=ps.reverse.map λp=>if Tg p.1 n=p.2 then 1 else 0
theorem iS(ps:List (List Int×Bool))(p:List Int×Bool)(n:List Int):cY (ps++[p]) n=(if Tg p.1 n=p.2 then 1 else 0)::cY ps n:=by
 unfold cY
 rw[List.reverse_append,Bo]
 rfl
theorem A0{α:Type}{P:List α->Prop}(h0:P [])(h1:∀l x,P l->P (l++[x]))(l:List α):P l:=by
 have : ∀m:List α,P m.reverse:=λm=>by
  induction m with
  | nil=>exact h0
  | cons x m ih=>rw[List.reverse_cons]; exact h1 _ _ ih
 have:=this l.reverse
 rwa [List.reverse_reverse] at this
theorem J3(n1 n2:List Int)(ps:List (List Int×Bool)):(L8 n1 n2 ps=none↔cY ps n1=cY ps n2)/\(L8 n1 n2 ps=some true↔HT.lexLt (cY ps n1) (cY ps n2)=true):=by
 induction ps using A0 with
 | h0=>exact ⟨⟨λ_=>rfl,λ_=>rfl⟩,⟨λh=>(by cases h),λh=>(by cases h)⟩⟩
 | h1 l p ih =>
  rw[Q8,iS,iS,HT.lexLt_cons]
  by_cases h:Tg p.1 n1=Tg p.1 n2
  ·rw[if_pos h,h,if_pos rfl]
   refine ⟨ih.1.trans ⟨λe=>by rw[e],λe=>(Ht e).2⟩,ih.2⟩
  ·rw[if_neg h]
   cases h1:Tg p.1 n1 <;> cases h2:Tg p.1 n2 <;> cases h3:p.2 <;> rw[h1,h2] at h <;> first | exact absurd rfl h | simp
theorem Qn(x y:List Int)(ps:List (List Int×Bool)):L8 x y ps=some false↔(¬ cY ps x=cY ps y/\¬ HT.lexLt (cY ps x) (cY ps y)=true):=by
 rw[<- (J3 x y ps).1,<- (J3 x y ps).2]
 cases L8 x y ps with
 | none=>simp
 | some b=>cases b <;> simp
def two(x y:Cd):Cd->Bool:=λr=>decide (r=x) || decide (r=y)
abbrev Ps:=List Int×Bool
def tY(p:Ps):Af:=.tuple [Bf p.1,.str (uF p.2)]
instance {p:Ps}:Im (tY p):=⟨(inferInstance:Im (.tuple [Bf p.1,.str (uF p.2)])).h⟩
instance {p:Ps}:Dp (tY p) 2:=⟨(inferInstance:Dp (.tuple [Bf p.1,.str (uF p.2)]) _).h⟩
instance {α:Type} {f:α->Af} {l:List α} {lo hi:Option Int} [h:∀a,Im (f a)]:ImA (Mi (l.map f) lo hi):=⟨by rw[Tr]; exact MA⟩
theorem pK{α:Type}(xs:List α)(lo hi:Option Int):(Mi xs lo hi).length<=xs.length:=(Yo xs lo hi).length_le
theorem xK{α:Type}(xs:List α)(k:Nat):Mi xs (some (k:Int)) none=xs.drop k:=by
 unfold Mi
 rw[HT.sIx_none,HT.sIx_nat]
 by_cases h:k<=xs.length
 ·rw[Nat.min_eq_left h,Gu (by rw[Lm]; exact Aj _)]
 ·rw[fK (by omega),tN (by omega),tN (by omega),List.take_nil]
theorem V7{α:Type}(xs:List α)(k:Nat):Mi xs none (some (k:Int))++Mi xs (some ((k:Int)+1)) none=xs.eraseIdx k:=by
 rw[Zw,show ((k:Int)+1)=((k+1:Nat):Int) by omega,xK,cE]
def sJ:PF:=λds R=>∃(L:List (List Int)) (w:List Int),ds=[.list (L.map Bf),Bf w]/\L.length<=1000/\R (.tuple [.list ((Xt id L w).map Bf),.list ((cJ id L w).map Bf)])
def tX:PF:=λds R=>∃(L:List (List Int)) (ps qs:List Ps),ds=[.list (L.map Bf),.list (ps.map tY),.list (qs.map tY)]/\L.length<=1000/\L.Nodup/\(X3 id L ps=X3 id L qs->R (.list []))/\∀a b,a∈L->b∈L->L8 a b ps≠L8 a b qs->R (.list [Bf a,Bf b])
end DRow
namespace DL
open PySem PySem.Spec PyProof.Rows L2 Nd DRow
theorem Xy{α β:Type}{f:α->β}:∀{l:List α},l.Nodup->(∀a∈l,∀b∈l,f a=f b->a=b)->(l.map f).Nodup
 | [],_,_=>Ep
 | x::l,nd,h=>by
  have nd':=Cm.mp nd
  rw[Ap,List.nodup_cons]
  refine ⟨λz=>?_,Xy nd'.2 λa ha b hb=>h a (Ac _ ha) b (Ac _ hb)⟩
  obtain ⟨y,hy,e⟩:=Dc.mp z
  have:=h y (Ac _ hy) x Ab e
  rw[this] at hy
  exact nd'.1 hy
theorem vH(h:Nat):(Kz h).Nodup:=Xy List.nodup_range λa _ b _ e=>by have : (a:Int)=b:=e; omega
theorem A3{deck:List (List Int)}{h:Nat}(hd:∀c∈deck,Do (h:Int) c){w:List Int}(hw:Do (h:Int) w):Lk (Kz h) (Gg deck) w=Ny deck w:=by
 rw[oX deck h (Kz h) (by unfold Kz; rw[Ad,Cq]) (vH h)]
 unfold tJ Ny
 rw[List.count_eq_countP]
 w_pre c7
 rw[Uc,beq_iff_eq]
 w_pre a8
 ·rintro ⟨a,b⟩
  refine (Vg hw (hd c hc) λi=>⟨a i,λhi=>?_⟩).symm
  rcases b i hi with z | z
  ·exact z
  ·refine absurd ?_ z
   have:=(hd c hc).2 i hi
   unfold Kz
   exact Dc.mpr ⟨i.toNat,Fz.mpr (by omega),by omega⟩
 ·rintro rfl
  exact ⟨λi hi=>hi,λi hi=>.inl hi⟩
def On(L:List (List Int))(c:List Int->Int):List (List Int):=L.flatMap λw=>By (c w).toNat w
theorem iI{L:List (List Int)}{c:List Int->Int}(h:Nd.Ord L):Nd.Ord (On L c):=by
 unfold Nd.Ord On
 rw[List.pairwise_flatMap]
 refine ⟨λa _=>?_,h.imp λ{a b} hab x hx y hy=>?_⟩
 ·refine List.pairwise_iff_forall_sublist.mpr λ{x y} hs=>?_
  have hx:=Mc (hs.subset Ab)
  have hy:=Mc (hs.subset (Ac _ Ab))
  rw[hx,hy]
  exact Ts.lex_irr a
 ·rw[Mc hx,Mc hy]
  exact hab
theorem aS{c:List Int->Int}{w:List Int}:∀{L:List (List Int)},L.Nodup->(On L c).count w=if w∈L then (c w).toNat else 0
 | [],_=>rfl
 | v::L,nd=>by
  have nd':=Cm.mp nd
  unfold On
  rw[Nj,List.count_append]
  have ih:=aS (c:=c) (w:=w) nd'.2
  unfold On at ih
  rw[ih,List.count_replicate]
  by_cases e:v=w
  ·subst e
   simp [nd'.1]
  ·have e2:¬ w=v:=λz=>e z.symm
   have e3:(v == w)=false:=beq_eq_false_iff_ne.mpr e
   simp [e3,e2]
theorem dJ{L deck:List (List Int)}{h:Nat}(pe:L.Perm (Fd h))(hd:∀c∈deck,Do (h:Int) c):(On L (Ny deck)).Perm deck:=by
 rw[List.perm_iff_count]
 intro w
 rw[aS (Nu pe)]
 split
 ·unfold Ny; omega
 ·rename_i n
  refine (List.count_eq_zero.mpr λz=>n ((Na pe).mpr (hd w z))).symm
theorem U7(L:List (List Int))(c:List Int->Int):(L.flatMap λw=>By (c w).toNat (Bf w))=(On L c).map Bf:=by
 unfold On
 rw[List.map_flatMap]
 congr 1
 funext w
 rw[List.map_replicate]
theorem o8{a b:List (List Int)}(p:a.Perm b):Gg a=Gg b:=by
 funext w
 unfold Gg
 rw[p.countP_eq]
theorem uB(a b:List (List Int)):Gg (a++b)=λw=>Gg a w+Gg b w:=by
 funext w
 unfold Gg
 rw[aO]
 omega
theorem yS{L:List (List Int)}(ho:Nd.Ord L)(h:[]∈L):L[0]? = some []:=by
 match L,h with
 | a::L,h =>
  rcases Ak.mp h with e | e
  ·rw[<- e]; rfl
  ·have:=(Bd.mp ho).1 [] e
   match a,this with
   | [],_=>rfl
   | x::xs,z=>exact absurd z (by rw[HT.lexLt_nil_cons]; decide)
theorem cnt_nil(deck:List (List Int)):Gg deck []=(deck.length:Int):=by
 unfold Gg
 rw[wA.mpr λc _=>Rw.mpr λi hi=>by cases hi]
theorem mX(deck:List (List Int))(w:List Int):((Xt id deck w).length:Int)=Gg deck w:=by
 unfold Gg Xt
 rw[List.countP_eq_length_filter]
 rfl
def Pn:List Int->Nat->List Int
 | [],_=>[]
 | x::xs,p=>(if p % 2=1 then [x] else [])++Pn xs (p / 2)
def Tq(c:List Int):List Int->Nat
 | []=>0
 | x::xs=>(if x∈c then 1 else 0)+2 * Tq c xs
theorem Tu:∀(xs:List Int) (p:Nat),(Pn xs p).Sublist xs
 | [],_=>Co _
 | x::xs,p=>by
  show ((if p % 2=1 then [x] else [])++Pn xs (p / 2)).Sublist (x::xs)
  split
  ·exact (Tu xs (p / 2)).cons₂ x
  ·exact (Tu xs (p / 2)).cons x
theorem pC(c:List Int):∀xs:List Int,Tq c xs<2 ^ xs.length
 | []=>by show 0<1; omega
 | x::xs=>by
  have:=pC c xs
  show (if x∈c then 1 else 0)+2 * Tq c xs<2 ^ (xs.length+1)
  rw[Vv]
  split <;> omega
theorem iA{c:List Int}:∀{xs:List Int} {p:Nat},xs.Nodup->p<2 ^ xs.length->((∀x∈xs,(x∈c↔x∈Pn xs p))↔Tq c xs=p)
 | [],p,_,h=>by
  have : p<1:=h
  exact ⟨λ_=>by show 0=p; omega,λ_ x hx=>(nomatch hx)⟩
 | x::xs,p,nd,h=>by
  have nd':=Cm.mp nd
  have h2:p / 2<2 ^ xs.length:=by
   have : p<2 ^ (xs.length+1):=h
   rw[Vv] at this
   omega
  have ih:=iA (c:=c) nd'.2 h2
  have nx:x∉Pn xs (p / 2):=λz=>nd'.1 ((Tu xs _).subset z)
  have e1:x∈Pn (x::xs) p↔p % 2=1:=by
   show x∈(if p % 2=1 then [x] else [])++Pn xs (p / 2)↔_
   split
   ·rename_i z; simp [z]
   ·rename_i z; simp [z,nx]
  have e2:∀y∈xs,(y∈Pn (x::xs) p↔y∈Pn xs (p / 2)):=λy hy=>by
   have ne:y≠x:=by rintro rfl; exact nd'.1 hy
   show y∈(if p % 2=1 then [x] else [])++Pn xs (p / 2)↔_
   split <;> simp [ne]
  have e3:Tq c (x::xs)=(if x∈c then 1 else 0)+2 * Tq c xs:=rfl
  rw[e3]
  w_pre a8
  ·intro hh
   have a:=(hh x Ab).trans e1
   have b:=ih.mp λy hy=>(hh y (Ac _ hy)).trans (e2 y hy)
   rw[b]
   by_cases z:x∈c
   ·rw[if_pos z]; have:=a.mp z; omega
   ·rw[if_neg z]; have : ¬ p % 2=1:=λq=>z (a.mpr q); omega
  ·intro hh y hy
   have b:Tq c xs=p / 2:=by split at hh <;> omega
   rcases Ak.mp hy with rfl | hy
   ·rw[e1]
    by_cases z:y∈c
    ·rw[if_pos z] at hh; exact ⟨λ_=>by omega,λ_=>z⟩
    ·rw[if_neg z] at hh; exact ⟨λq=>absurd q z,λ_=>by omega⟩
   ·rw[e2 y hy]
    exact ih.mpr b y hy
theorem T5{some_ c:List Int}{p:Nat}(nd:some_.Nodup)(hp:p<2 ^ some_.length):jm (some_.filter λi=>decide (i∉Pn some_ p)) (Pn some_ p) c=true↔Tq c some_=p:=by
 rw[Uc,<- iA nd hp]
 w_pre a8
 ·rintro ⟨a,b⟩ x hx
  refine ⟨λhc=>?_,a x⟩
  rcases b x hc with z | z
  ·exact z
  ·by_cases q:x∈Pn some_ p
   ·exact q
   ·exact absurd (Iw.mpr ⟨hx,decide_eq_true q⟩) z
 ·intro hh
  refine ⟨λi hi=>(hh i ((Tu _ _).subset hi)).mpr hi,λi hi=>?_⟩
  by_cases q:i∈some_
  ·exact .inl ((hh i q).mp hi)
  ·exact .inr λz=>q (Iw.mp z).1
theorem pX(p:Nat):∀(xs:List Int) (k:Nat),(((xs.zipIdx k).filter λq=>decide (p / 2 ^ q.2 % 2=1)).map (·.1))=Pn xs (p / 2 ^ k)
 | [],k=>rfl
 | x::xs,k=>by
  have ih:=pX p xs (k+1)
  rw[Ll,List.filter_cons]
  show _=(if p / 2 ^ k % 2=1 then [x] else [])++Pn xs (p / 2 ^ k / 2)
  rw[Nat.div_div_eq_div_mul,<- Vv,<- ih]
  by_cases z:p / 2 ^ k % 2=1
  ·rw[if_pos (by exact decide_eq_true z),if_pos z]; rfl
  ·rw[if_neg (by rw[decide_eq_false z]; decide),if_neg z]; rfl
def oE(deck:List (List Int))(xs:List Int)(i:Nat):Int:=(deck.countP λc=>decide (Tq c xs<i):Nat)
theorem xZ{deck:List (List Int)}{xs:List Int}{i:Nat}(nd:xs.Nodup)(hi:i<2 ^ xs.length):oE deck xs (i+1)=oE deck xs i+tJ deck (xs.filter λj=>decide (j∉Pn xs i)) (Pn xs i):=by
 unfold oE tJ
 have:=Vb (p:=λc=>decide (Tq c xs<i+1)) (q:=λc=>decide (Tq c xs<i)) (r:=jm (xs.filter λj=>decide (j∉Pn xs i)) (Pn xs i)) (λc=>by
  rw[T5 nd hi]
  simp only[decide_eq_true_eq]
  omega) deck
 omega
theorem Zv{deck:List (List Int)}{xs:List Int}{i:Nat}(hi:2 ^ xs.length<=i):oE deck xs i=(deck.length:Int):=by
 unfold oE
 rw[wA.mpr λc _=>by have:=pC c xs; exact decide_eq_true (by omega)]
def kW(T:List Int)(i:Int):Int:=T.getD i.toNat 0
def bL(T w:List Int):List Int:=eZ (w.map (kW T))
structure Pm(h:Nat)(T:List Int):Prop where
 len:T.length=h
 perm:T.Perm (Kz h)
theorem Pm.ran{h:Nat}{T:List Int}(p:Pm h T){i:Int}(h0:0<=i)(h1:i<h):0<=kW T i/\kW T i<h/\T[i.toNat]? = some (kW T i):=by
 have l:=p.len
 have e:T[i.toNat]? = some (T[i.toNat]'(by omega)):=Bt _
 have e2:kW T i=T[i.toNat]'(by omega):=by unfold kW; rw[Qy,e]; rfl
 have m:T[i.toNat]'(by omega)∈Kz h:=p.perm.mem_iff.mp (fE _)
 obtain ⟨k,hk,ek⟩:=Dc.mp m
 have:=Fz.mp hk
 rw[e2]
 exact ⟨by omega,by omega,e⟩
theorem Pm.nd{h:Nat}{T:List Int}(p:Pm h T):T.Nodup:=p.perm.nodup_iff.mpr (vH h)
theorem Pm.inj{h:Nat}{T:List Int}(p:Pm h T){i j:Int}(i0:0<=i)(i1:i<h)(j0:0<=j)(j1:j<h)(e:kW T i=kW T j):i=j:=by
 obtain ⟨_,_,a⟩:=p.ran i0 i1
 obtain ⟨_,_,b⟩:=p.ran j0 j1
 rw[e] at a
 have l:=p.len
 have:=(bO (i:=i.toNat) (j:=j.toNat) (by omega) p.nd).mp (a.trans b.symm)
 omega
theorem Pm.sur{h:Nat}{T:List Int}(p:Pm h T){j:Int}(j0:0<=j)(j1:j<h):∃i,0<=i/\i<(h:Int)/\kW T i=j:=by
 have m:j∈T:=p.perm.mem_iff.mpr (by unfold Kz; exact Dc.mpr ⟨j.toNat,Fz.mpr (by omega),by omega⟩)
 obtain ⟨k,hk,e⟩:=Gh.mp m
 have l:=p.len
 refine ⟨k,by omega,by omega,?_⟩
 unfold kW
 rw[Qy,Ee,Bt hk,e]
 rfl
theorem DH{T w:List Int}{x:Int}:x∈bL T w↔∃i∈w,kW T i=x:=by
 unfold bL
 rw[(Pk _).mem_iff,List.mem_map]
theorem Pm.word{h:Nat}{T w:List Int}(p:Pm h T)(hw:Do (h:Int) w):Do (h:Int) (bL T w):=by
 have nd:(bL T w).Nodup:=(Pk _).nodup_iff.mpr (Xy (cR hw) λa ha b hb e=>by
  have r1:=hw.2 a ha
  have r2:=hw.2 b hb
  exact p.inj r1.1 r1.2 r2.1 r2.2 e)
 refine ⟨?_,λx hx=>?_⟩
 ·refine ((cK (w.map (kW T))).and nd).imp λ{a b} z=>?_
  have:=z.1
  have:=z.2
  omega
 ·obtain ⟨i,hi,rfl⟩:=DH.mp hx
  have r:=hw.2 i hi
  obtain ⟨a,b,_⟩:=p.ran r.1 r.2
  exact ⟨a,b⟩
theorem Pm.back{h:Nat}{T w:List Int}(p:Pm h T)(hw:Do (h:Int) w):∃v,Do (h:Int) v/\bL T v=w:=by
 have ru:Do (h:Int) (Kz h):=by
  refine ⟨?_,λx hx=>?_⟩
  ·unfold Kz
   rw[List.pairwise_map]
   exact List.pairwise_lt_range.imp λ{a b} z=>by omega
  ·obtain ⟨k,hk,rfl⟩:=Dc.mp hx
   have:=Fz.mp hk
   omega
 have rv:Do (h:Int) ((Kz h).filter λi=>decide (kW T i∈w)):=⟨ru.1.sublist List.filter_sublist,λx hx=>ru.2 x (Iw.mp hx).1⟩
 refine ⟨_,rv,Vg (p.word rv) hw λx=>?_⟩
 rw[DH]
 w_pre a8
 ·rintro ⟨i,hi,rfl⟩
  exact of_decide_eq_true (Iw.mp hi).2
 ·intro hx
  have r:=hw.2 x hx
  obtain ⟨i,i0,i1,rfl⟩:=p.sur r.1 r.2
  exact ⟨i,Iw.mpr ⟨by unfold Kz; exact Dc.mpr ⟨i.toNat,Fz.mpr (by omega),by omega⟩,decide_eq_true hx⟩,rfl⟩
theorem Pm.sub{h:Nat}{T w c:List Int}(p:Pm h T)(hw:Do (h:Int) w)(hc:Do (h:Int) c):DL.sub (bL T w) (bL T c)=DL.sub w c:=by
 rw[Pv,Rw,Rw]
 w_pre a8
 ·intro hh i hi
  obtain ⟨j,hj,e⟩:=DH.mp (hh _ (DH.mpr ⟨i,hi,rfl⟩))
  have r1:=hw.2 i hi
  have r2:=hc.2 j hj
  rw[<- p.inj r2.1 r2.2 r1.1 r1.2 e]
  exact hj
 ·intro hh x hx
  obtain ⟨i,hi,rfl⟩:=DH.mp hx
  exact DH.mpr ⟨i,hh i hi,rfl⟩
theorem Pm.cnt{h:Nat}{T:List Int}(p:Pm h T){deck:List (List Int)}(hd:∀c∈deck,Do (h:Int) c){w:List Int}(hw:Do (h:Int) w):Gg (deck.map (bL T)) (bL T w)=Gg deck w:=by
 unfold Gg
 rw[List.countP_map]
 w_pre c7
 show DL.sub (bL T w) (bL T c)=true↔_
 rw[p.sub hw (hd c hc)]
theorem Pm.wordInj{h:Nat}{T:List Int}(p:Pm h T){v w:List Int}(hv:Do (h:Int) v)(hw:Do (h:Int) w)(e:bL T v=bL T w):v=w:=by
 have q1:=p.sub hv hw
 have q2:=p.sub hw hv
 rw[e] at q1
 rw[<- e] at q2
 have self:∀x:List Int,DL.sub x x=true:=λx=>Rw.mpr λi hi=>hi
 rw[self] at q1 q2
 exact Vg hv hw λi=>⟨Rw.mp q1.symm i,Rw.mp q2.symm i⟩
theorem uM{k:List Int->List Int}{f:List Int->Int}{v:List Int}:∀{L:List (List Int)},v∈L->(∀u∈L,k u=k v->u=v)->bJ (L.map λu=>(k u,Aw (f u))) (k v)=some (.int (f v))
 | [],h,_=>(nomatch h)
 | u::L,h,hi=>by
  unfold bJ
  rw[Ap,Iy]
  by_cases e:k u=k v
  ·have:=hi u Ab e
   subst this
   rw[show decide ((k u,Aw (f u)).1=k u)=true from decide_eq_true rfl]
   rfl
  ·rw[show decide ((k u,Aw (f u)).1=k v)=false from decide_eq_false e]
   have ih:=uM (k:=k) (f:=f) (v:=v) (List.mem_of_ne_of_mem (λz=>e (by rw[z])) h) λu hu=>hi u (Ac _ hu)
   exact ih
theorem B2{k:List Int->List Int}{f:List Int->Int}{L:List (List Int)}(nd:(L.map k).Nodup):Sy [] ((L.map k).zip ((L.map f).map Aw))=L.map λu=>(k u,Aw (f u)):=by
 rw[oW _ _ [] (by rw[Ad,Ad,Ad]) nd λ_ _ p hp=>(nomatch hp),List.nil_append]
 clear nd
 induction L with
 | nil=>rfl
 | cons u L ih=>rw[Ap,Ap,Ap,Ig,ih]; rfl
theorem K6{deck:List (List Int)}{k:Nat}{c:List Int}(h:deck[k]? = some c)(w:List Int):Gg (deck.eraseIdx k) w=Gg deck w - (if DL.sub w c=true then 1 else 0):=by
 have e1:deck=deck.take k++c::deck.drop (k+1):=by
  obtain ⟨hk,e⟩:=Ax.mp h
  rw[<- e,List.getElem_cons_drop,Fw]
 have e2:deck.eraseIdx k=deck.take k++deck.drop (k+1):=cE ..
 rw[e2]
 conv=>rhs; rw[e1]
 unfold Gg
 rw[aO,aO,Tn]
 split <;> omega
end DL
namespace K54
open PySem L2 Nd DL
local macro_rules | `(tactic| array_get_dec) => do
  let ids:=(("e_seq e_skip e_ret e_if e_asg e_name e_name2 e_name4 e_own e_nF e_gtup e_gsn e_gsc e_op e_var e_c e_imm e_immB e_take e_I e_I0 e_eqF e_eqT e_inFt_w1 e_inTt_w1 e_ixl e_ixt e_cat e_catT_w1 e_rep e_nlT e_ntT e_pkOfpk e_pkOfsh e_pkOfow e_mdInpk e_mdInsh e_mdInow e_mdItsh e_mdItow e_nil e_cons e_tup e_lst e_noPart e_part e_partB e_sl e_slBl e_slBt_w1 e_cb e_lenl e_lent_w1 e_listl e_tuplel e_intb e_min2 e_all e_sortI e_b e_bB e_notT e_andT e_orT e_orTf e_and e_andt e_ifE e_neg e_negB e_dL e_dTp e_lB e_tpB_w1 e_range1 e_rng1B e_enum e_enumB e_enumT e_enumTB_w1 e_zip e_zipB e_for e_comp e_comp2 e_noTest e_step e_stepT e_yesB e_call e_callW e_draws e_drawsB e_append e_insert e_scrSl e_sortW e_zipD e_zipDB e_dcomp2 e_dcStep e_dcBT e_dcYes e_augX e_dictZ e_dictZB e_compP e_callA e_ssT e_ssTt e_tr e_trB callAB retA retA_sh augIK augIB wd_e dkv_e isLst dget_e lenD_e wordsD callB callBW tupB lstB datas pkMd allOw noPk appB insB own1 npk retE retW retL args0 frD frD1 alD List.map_cons List.map_nil List.replicate List.getElem?_cons_zero List.getElem?_cons_succ List.set_cons_zero List.set_cons_succ List.cons_append List.nil_append Option.map_some List.length_cons List.length_nil List.append_nil rdAdd rdSub rdMul rdDiv rdMod rdLt if_true mdZip Nat.reduceAdd Nat.reduceSub Nat.reduceLeDiff true_and im_e ima_e dp_e dpa_e any_int eqD_intd eqD_li eqD_l0 ow_e tt_e cdiv_e Int.reduceLT Int.reduceLE Int.reduceNeg and_self Int.reduceToNat fold_w Bool.not_true decide_true ifB_lf atI_0 atI_1 some_e" : String).splitOn " ").toArray.map λ(x:String)=>Lean.mkIdent x.toName
  `(tactic| try simp only [$[$ids:ident],*])
section
variable{P:Bk}{w:World}{K:PySem.W.Frag}{mg:Str->Option Value}{base:Heap}
theorem xX:FnScope ["one", "other"] ["one", "other"] (Bv Ya):=⟨rfl,rfl,rfl,by decide +kernel,rfl,by decide +kernel,by decide +kernel⟩
theorem xM{f   : Addr}{fd  : Cs}(F:Fun K "within" "within" Ya f fd)(mz_all:mg "all" = none):FnOk P w K mg base Hv 1 f fd ["one", "other"] (Rz K (HG)):=by
 refine' Lo (k:=0) F xX (λcdv A outer s H E hr=>?hb) ?h
 case hb =>
  have hu64:=hr.units
  have CS1:∀{scope:Scope} (h:scope={ kind:=.function,names:=[(".0",.local),("place",.local),("other",.free)],isGenerator:=false,isCoroutine:=false }),
    CompScope (Nc Hv P w K mg base ["one", "other"] "within" (Bv Ya) f cdv A outer s H E).nox scope [("other",s.heap.objs.size+1)] "place" ["other"] [1]:=by
   w_pre s
  exact Dt (Gd (Ha (E3 rfl) AI rfl mz_all (by decide +kernel) (An (Np (CS1 rfl) rfl (EK (Aq (pv 0))) (λ_ _ _=>Jf) (λ_ _ _=>GX hu64 (Aq (pv 0)) (Aq (pv 1)))) Bb)))
 case h =>
  rintro ds R ⟨a,b,rfl,hR⟩
  w_pre b8
  array_get_dec
  refine Yt (l:=a) (g:=Aw) rfl (λi=>.bool (decide (i∈b))) (λi _ yes no hy=>?_) ?_
  ·array_get_dec
   exact hy
  ·array_get_dec
   refine ⟨a.map λi=>decide (i∈b),by rw[Cr]; rfl,?_⟩
   rw[bR]
   exact hR
theorem JV:FnScope ["one", "other"] ["one", "other"] (Bv Sv):=⟨rfl,rfl,rfl,by decide +kernel,rfl,by decide +kernel,by decide +kernel⟩
theorem qH{f:Addr}{fd:Cs}(F:Fun K "together" "together" Sv f fd)(mT:mg "tuple" = none)(mS:mg "sorted" = none)(mE:mg "set" = none):FnOk P w K mg base Hv 1 f fd ["one", "other"] (Y7 K):=by
 refine F.ok JV (λvs H Q E h=>?_) (λcdv A outer s H vs Q E hr h=>?_)
 ·obtain ⟨a,b,ns,ms,rfl,_⟩:=h
  rfl
 obtain ⟨a,b,ns,ms,rfl,hA,hB,rn,rm,q⟩:=h
 refine ⟨_,Vn (Zu (Nh Wg rfl mT (by decide +kernel) (Hy (eI (r:=vS w) (Xw rfl) rfl mS (by decide +kernel) (Hy
  (Ka (r:=LK w) J6 (Nh (r:=CQ w K) (dP rfl) rfl mE (by decide +kernel) (Hy (pv 0) Oh)) (Nh (r:=CQ w K) (dP rfl) rfl mE (by decide +kernel) (Hy (pv 1) Oh))) Oh)) Oh))),?_⟩
 refine ⟨_,rfl,a,ns,EL,rfl,hA,(by show EL.length<=62; decide),vN rn,λp1 n1=>?_⟩
 have s1:=Fg n1 (Yb w p1 ns)
 refine ⟨_,rfl,b,ms,EL,rfl,Th.tup s1 hB,(by show EL.length<=62; decide),vN rm,λp2 n2=>?_⟩
 have s2:=Fg n2 (Yb w p2 ms)
 refine ⟨p1,p2,ns,ms,EL,rfl,rfl,Gx Du n2,s2 _ _ Du,Du,(by show EL.length<=62; decide),vN rn,vN rm,λp3 n3=>?_⟩
 have s3:=Fg n3 (Yb w p3 (ns++ms))
 refine ⟨p3,_,rfl,Du,λp4 ts n4 nd pw mem=>?_⟩
 have s4:=Fg n4 (.lst (ts.map V.int))
 refine ⟨p4,_,rfl,.inl ⟨Mp.of Du,λp5 n5=>?_⟩⟩
 have s5:=Fg n5 (.tup (ts.map V.int))
 have sA:=((s1.trans s2).trans (s3.trans s4))
 exact q p5 ts _ (sA.free n5) Du nd pw mem (sA.trans s5)
theorem jF{f:Addr}{fd:Cs}(F:Fun K "together" "together" Sv f fd)(mT:mg "tuple" = none)(mS:mg "sorted" = none)(mE:mg "set" = none):FnOk P w K mg base Hv 1 f fd ["one", "other"] (Rz K C8):=AS (qH F mT mS mE)
theorem jM:FnScope ["holes", "words", "place"] ["holes"] (Bv Ql):=⟨rfl,rfl,rfl,by decide +kernel,rfl,by decide +kernel,by decide +kernel⟩
theorem jK{f   : Addr}{fd  : Cs}(F:Fun K "all_words" "all_words" Ql f fd)(mz_range:mg "range" = none)(mz_sorted:mg "sorted" = none):FnOk P w K mg base Hv 1 f fd ["holes"] (Rz K (cA)):=by
 refine' Lo (k:=0) F jM (λcdv A outer s H E hr=>?hb) ?h
 case hb =>
  have hu64:=hr.units
  have CS1:∀{scope:Scope} (h:scope={ kind:=.function,names:=[(".0",.local),("word",.local),("place",.free)],isGenerator:=false,isCoroutine:=false }),
    CompScope (Nc Hv P w K mg base ["holes", "words", "place"] "all_words" (Bv Ql) f cdv A outer s H E).nox scope [("place",s.heap.objs.size+1)] "word" ["place"] [2]:=by
   w_pre s
  exact Ck (Fj (i:=1) jM.nd rfl (Dr rfl) (Lf (An (Og Bb) Bb)))
   (Ck (Ni Es rfl (Lx rfl mz_range (An (Aq (pv 0)) Bb)) (Js (i:=2) jM.nd rfl (Zb rfl))
   (Dt (Fj (i:=1) jM.nd rfl (Dr rfl) (Zs (Aq (pv 1)) (Np (CS1 rfl) rfl (M3 (Aq (pv 1))) (λ_ _ _=>Jf) (λ_ _ _=>jT (Aq (pv 0)) (Og (An (Ud (Aq (pv 1))) Bb))))))))
   (Dt (Gd (Ha (Ts.call_sortedI hu64) Yv rfl mz_sorted (by decide +kernel) (An (Aq (pv 1)) Bb)))))
 case h =>
  rintro ds R ⟨h,rfl,h0,h10,hR⟩
  w_pre b8
  array_get_dec
  refine ⟨by omega,by omega,?_⟩
  w_pre w4
  ·rintro i a _ ha ⟨v,rfl,hv⟩
   w_pre i7
   array_get_dec
   refine Yt (l:=Fd a) (g:=Bf) rfl (λw=>Bf (w++[(a:Int)])) (λw hw yes no hy=>?_) ?_
   ·have lw:=Nz a w hw
    array_get_dec
    refine ⟨by rw[Ad]; omega,?_⟩
    unfold Bf at hy
    rw[Bo] at hy
    exact hy
   ·array_get_dec
    w_pre j2
    rfl
  ·rintro _ ⟨v,rfl,hv⟩
   rw[Cq]
   array_get_dec
   exact ⟨_,rfl,λL pe pw=>hR L pe pw⟩
theorem fW:FnScope ["_law_holes", "_law_found", "_law_place"] ["_law_holes"] (Bv Ow):=⟨rfl,rfl,rfl,by decide +kernel,rfl,by decide +kernel,by decide +kernel⟩
theorem fX{f   : Addr}{fd  : Cs}(F:Fun K "_law_words" "_law_words" Ow f fd)(mz_range:mg "range" = none)(mz_sorted:mg "sorted" = none):FnOk P w K mg base Hv 1 f fd ["_law_holes"] (Rz K (cA)):=by
 refine' Lo (k:=0) F fW (λcdv A outer s H E hr=>?hb) ?h
 case hb =>
  have hu64:=hr.units
  have CS1:∀{scope:Scope} (h:scope={ kind:=.function,names:=[(".0",.local),("_law_word",.local),("_law_place",.free)],isGenerator:=false,isCoroutine:=false }),
    CompScope (Nc Hv P w K mg base ["_law_holes", "_law_found", "_law_place"] "_law_words" (Bv Ow) f cdv A outer s H E).nox scope [("_law_place",s.heap.objs.size+1)] "_law_word" ["_law_place"] [2]:=by
   w_pre s
  exact Ck (Fj (i:=1) fW.nd rfl (Dr rfl) (Lf (An (Og Bb) Bb)))
   (Ck (Ni Es rfl (Lx rfl mz_range (An (Aq (pv 0)) Bb)) (Js (i:=2) fW.nd rfl (Zb rfl))
   (Dt (Fj (i:=1) fW.nd rfl (Dr rfl) (Zs (Aq (pv 1)) (Np (CS1 rfl) rfl (M3 (Aq (pv 1))) (λ_ _ _=>Jf) (λ_ _ _=>jT (Aq (pv 0)) (Og (An (Ud (Aq (pv 1))) Bb))))))))
   (Dt (Gd (Ha (Ts.call_sortedI hu64) Yv rfl mz_sorted (by decide +kernel) (An (Aq (pv 1)) Bb)))))
 case h =>
  rintro ds R ⟨h,rfl,h0,h10,hR⟩
  w_pre b8
  array_get_dec
  refine ⟨by omega,by omega,?_⟩
  w_pre w4
  ·rintro i a _ ha ⟨v,rfl,hv⟩
   w_pre i7
   array_get_dec
   refine Yt (l:=Fd a) (g:=Bf) rfl (λw=>Bf (w++[(a:Int)])) (λw hw yes no hy=>?_) ?_
   ·have lw:=Nz a w hw
    array_get_dec
    refine ⟨by rw[Ad]; omega,?_⟩
    unfold Bf at hy
    rw[Bo] at hy
    exact hy
   ·array_get_dec
    w_pre j2
    rfl
  ·rintro _ ⟨v,rfl,hv⟩
   rw[Cq]
   array_get_dec
   exact ⟨_,rfl,λL pe pw=>hR L pe pw⟩
end
def kR:DF:=λds n R=>∃h:Int,ds=[.int h]/\0<h/\h<=60/\n<=90000/\∀ns,Do h ns->R (Bf ns) (n+1)
def j6:DF:=λds n R=>∃h m:Int,ds=[.int h,.int m]/\0<h/\h<=10/\0<=m/\m<=60/\n<=50000/\∀(deck:List (List Int)) n',n<=n'->n'<=n+200->deck.length<=60->(∀c∈deck,Do h c)->R (.list (deck.map Bf)) n'
def Z3:DF:=λds n R=>ds=[]/\n<=90000/\∀h:Int,0<h->h<=10->R (.int h) (n+1)
def B6:PF:=λds R=>∃a b:List Int,ds=[Bf a,Bf b]/\R (.bool (sub a b))
section
variable{P:Bk}{w:World}{K:PySem.W.Frag}{mg:Str->Option Value}{base:Heap}
theorem fM:FnScope ["_law_draws_here", "_law_holes", "_law_pick", "_law_told", "_law_place"] ["_law_draws_here", "_law_holes"] (Bv Sm):=⟨rfl,rfl,rfl,by decide +kernel,rfl,by decide +kernel,by decide +kernel⟩
theorem gC{f f_L_next  : Addr}{fd d_L_next:Cs}(F:Fun K "_law_small" "_law_small" Sm f fd)(G_L_next:FnOk P w K mg base Hv 1 f_L_next d_L_next ["_law_draws_here"] (cN K Wt))(b_L_next:Binds K d_L_next ["_law_draws_here"] [])(k_L_next:PySem.W.keepIn K (.ref f_L_next)=true)(m_L_next:mg "_law_next" = some (.ref f_L_next))(mz_range:mg "range" = none)(mz_tuple:mg "tuple" = none):FnOk P w K mg base Hv 2 f fd ["_law_draws_here", "_law_holes"] (cN K (kR)):=by
 refine' Vo (k:=1) F fM (λcdv A outer s H E hr=>?hb) ?h
 case hb =>
  have hr1:Room 1 _:=hr.mono (by decide)
  have hu64:=hr.units
  exact Ck (Fj (i:=2) fM.nd rfl (Dr rfl) (Il G_L_next hr1 rfl m_L_next k_L_next b_L_next Fu (pv 0) Bb))
   (Ck (Su (i:=3) fM.nd rfl (Dr rfl) (Lf Bb))
   (Ck (Ni Es rfl (Lx rfl mz_range (An (Aq (pv 1)) Bb)) (Js (i:=4) fM.nd rfl (Dr rfl))
   (Ck (Ph (mW hu64 (Nf (Aq (pv 2)) Dn) Dn)
    (Dt (Vr (pv 3) (Aq (pv 4)))) Mm)
    (Dt (Fj (i:=2) fM.nd rfl (Dr rfl) (Wz (Aq (pv 2)) Dn)))))
   (Dt (Gd (Jg Rh (Rj (i:=true)) rfl mz_tuple (by decide +kernel) (An (Aq (pv 3)) Bb))))))
 case h =>
  rintro ds n R ⟨h,rfl,h0,h1,hn,hR⟩
  w_pre b8
  array_get_dec
  refine ⟨rfl,by omega,λr1=>?_⟩
  array_get_dec
  refine ⟨by omega,by omega,?_⟩
  refine Zx (l:=Cc h.toNat) (g:=λi:Nat=>.int i) rfl (λi δ=>∃(p:Int) (ns:List Int) (v:DV),δ=⟨[.drw,.dat .sh (.int h),.dat .sh (.int p),.dat .ow (.list (ns.map Aw)),v],n+1⟩/\Do i ns/\NP v) ?_ ?_ ?_
  ·exact ⟨_,[],_,rfl,Do.nil _,Mv⟩
  ·rintro i a _ ha ⟨p,ns,v,rfl,hr,hv⟩
   w_pre b9
   have l60:=xQ (cR hr) (λx hx=>by have:=hr.2 x hx; omega)
   array_get_dec
   refine eO (λhb=>?_) (λhb=>?_)
   ·array_get_dec
    refine ⟨by rw[Ad]; omega,?_⟩
    refine ⟨_,ns++[(a:Int)],_,Wf (by rw[Bo]; rfl) rfl,hr.more (by omega),Ir⟩
   ·array_get_dec
    exact ⟨_,ns,_,rfl,hr.up (by omega),Ir⟩
  ·rintro _ ⟨p,ns,v,rfl,hr,hv⟩
   rw[Cq] at hr
   array_get_dec
   exact ⟨by omega,hR ns (by rwa [show ((h.toNat:Nat):Int)=h by omega] at hr)⟩
theorem oV:FnScope ["_law_draws_here", "_law_pick"] ["_law_draws_here"] (Bv Xa):=⟨rfl,rfl,rfl,by decide +kernel,rfl,by decide +kernel,by decide +kernel⟩
theorem pH{f f_L_next  : Addr}{fd d_L_next:Cs}(F:Fun K "_law_few" "_law_few" Xa f fd)(G_L_next:FnOk P w K mg base Hv 1 f_L_next d_L_next ["_law_draws_here"] (cN K Wt))(b_L_next:Binds K d_L_next ["_law_draws_here"] [])(k_L_next:PySem.W.keepIn K (.ref f_L_next)=true)(m_L_next:mg "_law_next" = some (.ref f_L_next))(mz_int:mg "int" = none):FnOk P w K mg base Hv 2 f fd ["_law_draws_here"] (cN K (Z3)):=by
 refine' Vo (k:=1) F oV (λcdv A outer s H E hr=>?hb) ?h
 case hb =>
  have hr1:Room 1 _:=hr.mono (by decide)
  have hu64:=hr.units
  exact Ck (Fj (i:=1) oV.nd rfl (Dr rfl) (Il G_L_next hr1 rfl m_L_next k_L_next b_L_next Fu (pv 0) Bb))
   (Dt (Gd (Mj (Lf (An (Uq Dn (Nf (Wz (Aq (pv 1)) Dn) Dn)) (An (Uq Dn (Nf (Wz (Aq (pv 1)) Dn) Dn)) Bb))) (Jg gY p8 rfl mz_int (by decide +kernel) (An (aT hu64 (Nf (Aq (pv 1)) Dn) Dn) Bb)))))
 case h =>
  rintro ds n R ⟨rfl,hn,hR⟩
  w_pre b8
  array_get_dec
  refine ⟨rfl,by omega,λr1=>?_⟩
  array_get_dec
  have b6:=Wn (r1 / 4) (b:=6) (by decide)
  have b4:=Wn (r1 / 4) (b:=4) (by decide)
  refine ⟨_,HD _ _ _,by omega,?_⟩
  cases decide (r1 % 4=1)
  ·exact hR _ (by omega) (by omega)
  ·exact hR _ (by omega) (by omega)
theorem lF:FnScope ["_law_one", "_law_other"] ["_law_one", "_law_other"] (Bv Qm):=⟨rfl,rfl,rfl,by decide +kernel,rfl,by decide +kernel,by decide +kernel⟩
theorem jU{f   : Addr}{fd  : Cs}(F:Fun K "_law_lies" "_law_lies" Qm f fd):FnOk P w K mg base Hv 1 f fd ["_law_one", "_law_other"] (Rz K (B6)):=by
 refine' Lo (k:=0) F lF (λcdv A outer s H E hr=>?hb) ?h
 case hb =>
  have hu64:=hr.units
  have CS1:∀{scope:Scope} (h:scope={ kind:=.function,names:=[(".0",.local),("_law_place",.local),("_law_other",.free)],isGenerator:=false,isCoroutine:=false }),
    CompScope (Nc Hv P w K mg base ["_law_one", "_law_other"] "_law_lies" (Bv Qm) f cdv A outer s H E).nox scope [("_law_other",s.heap.objs.size+1)] "_law_place" ["_law_other"] [1]:=by
   w_pre s
  exact Dt (Gd (aT hu64 (Np (CS1 rfl) rfl (EK (Aq (pv 0))) (λ_ _ _=>lU (qC hu64 (Aq (pv 0)) (Aq (pv 1)))) (λ_ _ _=>Aq (pv 0))) (Lf Bb)))
 case h =>
  rintro ds R ⟨a,b,rfl,hR⟩
  w_pre b8
  array_get_dec
  refine K2 (l:=a) (g:=Aw) rfl (λi=>decide (i∉b)) (λi=>.int i) (λi _ yes no hy hn=>?_) ?_
  ·array_get_dec
   refine lY (λh=>?_) (λh=>?_)
   ·array_get_dec
    exact hy (by simpa using h)
   ·exact hn (by simpa using h)
  ·array_get_dec
   have e:((a.filter λi=>decide (i∉b)).map Aw).isEmpty=sub a b:=by
    rw[Pv,List.isEmpty_iff,List.map_eq_nil_iff]
    exact p9
   rw[e]
   exact hR
theorem mJ:FnScope ["holes"] ["holes"] (Bv Sh):=⟨rfl,rfl,rfl,by decide +kernel,rfl,by decide +kernel,by decide +kernel⟩
theorem oI{f f_all_words  : Addr}{fd d_all_words:Cs}(F:Fun K "order_of" "order_of" Sh f fd)(G_all_words:FnOk P w K mg base Hv 1 f_all_words d_all_words ["holes"] (Rz K (cA)))(b_all_words:Binds K d_all_words ["holes"] [])(k_all_words:PySem.W.keepIn K (.ref f_all_words)=true)(m_all_words:mg "all_words" = some (.ref f_all_words))(mz_enumerate:mg "enumerate" = none):FnOk P w K mg base Hv 2 f fd ["holes"] (Rz K (bU)):=by
 refine' Lo (k:=1) F mJ (λcdv A outer s H E hr=>?hb) ?h
 case hb =>
  have hr1:Room 1 _:=hr.mono (by decide)
  have hu64:=hr.units
  have CS1:∀{scope:Scope} (h:scope={ kind:=.function,names:=[(".0",.local),("number",.local),("word",.local)],isGenerator:=false,isCoroutine:=false }),
    CompScope (Nc Hv P w K mg base ["holes"] "order_of" (Bv Sh) f cdv A outer s H E).nox scope [] "number" [] []:=by
   w_pre l4
  exact Dt (Gd (yV hu64 (CS1 rfl) (.inl rfl) (by decide +kernel) rfl (P8 rfl mz_enumerate (An (Fs G_all_words hr1 rfl m_all_words k_all_words b_all_words Fu (An (Aq (pv 0)) Bb)) Bb)) (λ_ _ _=>Jf) (λ_ _ _=>Aq (pv 1)) (λ_ _ _=>Aq (pv 0))))
 case h =>
  rintro ds R ⟨h,rfl,h0,h10,hR⟩
  w_pre b8
  array_get_dec
  refine ⟨h,rfl,h0,h10,λL pe po=>?_⟩
  have nd:=Nu pe
  have ll:=(Vk (n:=h.toNat) (by omega) pe).1
  array_get_dec
  refine Q9 (l:=L.zipIdx) (g1:=λp=>.int p.2) (g2:=λp=>Bf p.1) (by rw[vM,Cr]; rfl) (by rw[Fl]; omega) (λp=>p.1) (λp=>.int p.2) (by rw[List.zipIdx_map_fst]; exact nd) (λp _ yes no hy=>?_) ?_
  ·array_get_dec
   exact hy
  ·array_get_dec
   exact hR L pe po
theorem xU:FnScope ["numbers", "order", "place", "times"] ["numbers", "order", "place", "times"] (Bv Yj):=⟨rfl,rfl,rfl,by decide +kernel,rfl,by decide +kernel,by decide +kernel⟩
theorem yK{f f_together  : Addr}{fd d_together:Cs}(F:Fun K "put_to" "put_to" Yj f fd)(G_together:FnOk P w K mg base Hv 1 f_together d_together ["one", "other"] (Rz K C8))(b_together:Binds K d_together ["one", "other"] [])(k_together:PySem.W.keepIn K (.ref f_together)=true)(m_together:mg "together" = some (.ref f_together))(mz_zip:mg "zip" = none):FnOk P w K mg base Hv 2 f fd ["numbers", "order", "place", "times"] (Rz K (tX)):=by
 refine' Lo (k:=1) F xU (λcdv A outer s H E hr=>?hb) ?h
 case hb =>
  have hr1:Room 1 _:=hr.mono (by decide)
  have hu64:=hr.units
  have CS1:∀{scope:Scope} (h:scope={ kind:=.function,names:=[(".0",.local),("word",.local),("number",.local),("together",.globalImplicit),("numbers",.free),("order",.free),("place",.free),("times",.free)],isGenerator:=false,isCoroutine:=false }),
    CompScope (Nc Hv P w K mg base ["numbers", "order", "place", "times"] "put_to" (Bv Yj) f cdv A outer s H E).nox scope [("times",s.heap.objs.size+4),("place",s.heap.objs.size+3),("order",s.heap.objs.size+2),("numbers",s.heap.objs.size+1)] "word" ["numbers", "order", "place", "times"] [0,1,2,3]:=by
   w_pre z4
   ·have z:=Fh h
    simp only[Ak,Az,or_false,Fo] at z
    rcases z with ⟨rfl,rfl⟩ | ⟨rfl,rfl⟩ | ⟨rfl,rfl⟩ | ⟨rfl,rfl⟩ <;> rfl
   ·match k,e1,e2 with
    | 0,e1,e2=>cases e1; cases e2; exact ⟨rfl,rfl,by first | exact .inl rfl | exact .inr rfl⟩
    | 1,e1,e2=>cases e1; cases e2; exact ⟨rfl,rfl,by first | exact .inl rfl | exact .inr rfl⟩
    | 2,e1,e2=>cases e1; cases e2; exact ⟨rfl,rfl,by first | exact .inl rfl | exact .inr rfl⟩
    | 3,e1,e2=>cases e1; cases e2; exact ⟨rfl,rfl,by first | exact .inl rfl | exact .inr rfl⟩
    | k+4,e1,e2=>cases e1
  exact Dt (Gd (eV (CS1 rfl) (.inl rfl) (by decide +kernel) rfl (jH rfl mz_zip (An (Aq (pv 1)) (An (Aq (pv 0)) Bb))) (λ_ _ _=>Jf) (λ_ _ _=>CK (FE hu64 (Aq (pv 4)) (Aq (pv 0))) (Aq (pv 1)) (Uq (Aq (pv 1)) (AB (Aq (pv 5)) (Mj (Aq (pv 2)) (bZ hu64 (Aq (pv 3)) (Fs G_together hr1 rfl m_together k_together b_together Fu (An (Aq (pv 0)) (An (Og (An (Ud (Aq (pv 4))) Bb)) Bb))))))))))
 case h =>
  rintro ds R ⟨n,L,f,p,t,rfl,hn,pe,p0,p1,ht,hR⟩
  w_pre b8
  have hm:=λw=>(Na (w:=w) pe)
  unfold Kh pO
  array_get_dec
  rw[jN]
  refine jI (l:=L) (g1:=Bf) (g2:=λw=>.int (f w)) rfl (λ_=>true) (λw=>.int (kP p t f w)) (λw hw yes no hy _=>?_) ?_
  ·have hy:=hy rfl
   have rw_:=(hm w).mp hw
   unfold kP at hy
   array_get_dec
   refine GD (λh=>?_) (λh=>?_)
   ·array_get_dec
    rw[if_pos (of_decide_eq_true h)] at hy
    exact hy
   ·rw[if_neg (of_decide_eq_false h)] at hy
    have rp:=dQ rw_ p0 p1
    obtain ⟨i,e1,e2⟩:=kB ((hm _).mpr rp)
    have e3:=G6 (f:=f) e1
    array_get_dec
    refine ⟨w,[p],rfl,rw_.up (by omega),⟨Fi _ _,λx hx=>by rw[Al.mp hx]; omega⟩,?_⟩
    array_get_dec
    refine ⟨_,e2,?_⟩
    array_get_dec
    refine ⟨_,e3,?_⟩
    have ct:N0 t (f (Pl (w++[p]))):=by rcases ht with rfl | rfl <;> exact .inl ⟨by decide,by decide⟩
    array_get_dec
    exact ⟨ct,hy⟩
  ·rw[Qa.mpr λ_ _=>rfl]
   array_get_dec
   unfold Kh at hR
   rw[Cr] at hR
   exact hR
theorem lR:FnScope ["order", "numbers", "places", "told", "place"] ["order", "numbers", "places"] (Bv Tz):=⟨rfl,rfl,rfl,by decide +kernel,rfl,by decide +kernel,by decide +kernel⟩
theorem lE{f f_put_to  : Addr}{fd d_put_to:Cs}(F:Fun K "parted_by" "parted_by" Tz f fd)(G_put_to:FnOk P w K mg base Hv 2 f_put_to d_put_to ["numbers", "order", "place", "times"] (Rz K (tX)))(b_put_to:Binds K d_put_to ["numbers", "order", "place", "times"] [])(k_put_to:PySem.W.keepIn K (.ref f_put_to)=true)(m_put_to:mg "put_to" = some (.ref f_put_to)):FnOk P w K mg base Hv 3 f fd ["order", "numbers", "places"] (ID K (dY)):=by
 refine' zJ (k:=2) F lR (λcdv A outer s H E hr=>?hb) ?h
 case hb =>
  have hr1:Room 1 _:=hr.mono (by decide)
  have hr2:Room 2 _:=hr.mono (by decide)
  have hu64:=hr.units
  exact Ck (Fj (i:=3) lR.nd rfl (Dr rfl) (Aq (pv 1)))
   (Ck (Ni Es rfl (EK (Aq (pv 2))) (Js (i:=4) lR.nd rfl (Dr rfl))
   (Dt (Fj (i:=3) lR.nd rfl (Dr rfl) (Fs G_put_to hr2 rfl m_put_to k_put_to b_put_to Fu (An (Aq (pv 3)) (An (Aq (pv 0)) (An (Aq (pv 4)) (An (CP Dn) Bb))))))))
   (Dt (Gd (Aq (pv 3)))))
 case h =>
  rintro ds R ⟨n,L,f,Q,rfl,hn,pe,hQ,hR⟩
  w_pre b8
  array_get_dec
  refine Zx (l:=Q) (g:=Aw) rfl (λi δ=>∃(v4:DV),δ=⟨[.dat .sh (pO L),.dat .sh (Kh L f),.dat .sh (Bf Q),.dat .sh (Kh L (Lk (Q.take i) f)),v4],0⟩/\NP v4) ?_ ?_ ?_
  ·exact ⟨_,rfl,Mv⟩
  ·rintro i q _ hq ⟨v4,rfl,hv4⟩
   have bq:=hQ q (Bq hq)
   array_get_dec
   refine ⟨n,L,Lk (Q.take i) f,q,-1,rfl,hn,pe,bq.1,bq.2,.inr rfl,?_⟩
   try array_get_dec
   refine ⟨.dat .sh (.int q),Wf ?_ rfl,Ir⟩
   rw[Ij hq,gV]
  ·rintro _ ⟨v4,rfl,hv4⟩
   rw[Ey]
   array_get_dec
   exact hR
theorem zB:FnScope ["holes", "deck", "order", "told", "card", "place"] ["holes", "deck"] (Bv eU):=⟨rfl,rfl,rfl,by decide +kernel,rfl,by decide +kernel,by decide +kernel⟩
theorem yT{f f_order_of f_put_to  : Addr}{fd d_order_of d_put_to:Cs}(F:Fun K "counts" "counts" eU f fd)(G_order_of:FnOk P w K mg base Hv 2 f_order_of d_order_of ["holes"] (Rz K (bU)))(b_order_of:Binds K d_order_of ["holes"] [])(k_order_of:PySem.W.keepIn K (.ref f_order_of)=true)(m_order_of:mg "order_of" = some (.ref f_order_of))(G_put_to:FnOk P w K mg base Hv 2 f_put_to d_put_to ["numbers", "order", "place", "times"] (Rz K (tX)))(b_put_to:Binds K d_put_to ["numbers", "order", "place", "times"] [])(k_put_to:PySem.W.keepIn K (.ref f_put_to)=true)(m_put_to:mg "put_to" = some (.ref f_put_to))(mz_len:mg "len" = none)(mz_range:mg "range" = none):FnOk P w K mg base Hv 3 f fd ["holes", "deck"] (Rz K (Ur)):=by
 refine' Lo (k:=2) F zB (λcdv A outer s H E hr=>?hb) ?h
 case hb =>
  have hr1:Room 1 _:=hr.mono (by decide)
  have hr2:Room 2 _:=hr.mono (by decide)
  have hu64:=hr.units
  exact Ck (Fj (i:=2) zB.nd rfl (Dr rfl) (Fs G_order_of hr2 rfl m_order_of k_order_of b_order_of Fu (An (Aq (pv 0)) Bb)))
   (Ck (Su (i:=3) zB.nd rfl (Dr rfl) (BC (Lf (An Dn Bb)) (Ha yH V9 rfl mz_len (by decide +kernel) (An (Aq (pv 2)) Bb))))
   (Ck (Ni Es rfl (M3 (Aq (pv 1))) (Js (i:=4) zB.nd rfl (Dr rfl))
   (Dt (U8 (pv 3) (bZ hu64 (Aq (pv 2)) (Aq (pv 4))) Dn)))
   (Ck (Ni Es rfl (Lx rfl mz_range (An (Aq (pv 0)) Bb)) (Js (i:=5) zB.nd rfl (Dr rfl))
   (Dt (Su (i:=3) zB.nd rfl (Dr rfl) (Fs G_put_to hr2 rfl m_put_to k_put_to b_put_to Fu (An (Aq (pv 3)) (An (Aq (pv 2)) (An (Aq (pv 5)) (An Dn Bb))))))))
   (Dt (Gd (bV (pv 3)))))))
 case h =>
  rintro ds R ⟨h,deck,rfl,h0,h10,hd,hR⟩
  w_pre b8
  array_get_dec
  refine ⟨h,rfl,h0,h10,λL pe po=>?_⟩
  have nd:=Nu pe
  have ll:=(Vk (n:=h.toNat) (by omega) pe).1
  have en:((h.toNat:Nat):Int)=h:=by omega
  have hm:=λw=>(Na (w:=w) pe)
  unfold pO
  array_get_dec
  rw[W0]
  refine ⟨by omega,by omega,by rw[Ee]; omega,?_⟩
  have e0:(By (L.length:Int).toNat [Aw 0]).flatten=(L.map (Ny [])).map Aw:=by
   rw[Ee]
   clear pe po nd ll hm
   induction L with
   | nil=>rfl
   | cons x L ih=>rw[Bl,Gv,Jb,ih]; rfl
  rw[e0]
  refine Zx (l:=deck) (g:=Bf) rfl (λi δ=>∃(v4 v5:DV),δ=⟨[.dat .sh (.int h),.dat .sh (.list (deck.map Bf)),.dat .sh (.dict (Wh (jD L))),.dat .ow (.list ((L.map (Ny (deck.take i))).map Aw)),v4,v5],0⟩/\NP v4/\NP v5) ?_ ?_ ?_
  ·exact ⟨_,_,rfl,Mv,Mv⟩
  ·rintro i c _ hc ⟨v4,v5,rfl,hv4,hv5⟩
   have cm:c∈L:=(hm c).mpr (by rw[en]; exact hd c (Bq hc))
   obtain ⟨j,e1,e2⟩:=kB cm
   have hj:=(Ax.mp e1).1
   array_get_dec
   refine ⟨_,e2,?_⟩
   array_get_dec
   refine ⟨by omega,Ny (deck.take i) c,by rw[Ee,Bg,Bg,e1]; rfl,?_⟩
   refine ⟨by simp [npk,hv5 _],by rw[Ad,Ad]; omega,?_⟩
   refine ⟨.dat .sh (Bf c),v5,Wf ?_ rfl,Ir,hv5⟩
   rw[Ee,R4 nd e1]
   have e4:(λv=>if v=c then Ny (deck.take i) c+1 else Ny (deck.take i) v)=Ny (deck.take (i+1)):=by
    funext v
    unfold Ny
    rw[Ij hc,List.count_append]
    by_cases e:v=c
    ·subst e; simp
    ·have : ¬ c=v:=λz=>e z.symm
     simp [e,this,List.count_singleton]
   rw[e4]
  ·rintro _ ⟨v4,v5,rfl,hv4,hv5⟩
   have hd':∀c∈deck,Do (h.toNat:Int) c:=λc hc=>by rw[en]; exact hd c hc
   rw[Ey]
   array_get_dec
   refine ⟨by omega,by omega,?_⟩
   refine Zx (l:=Cc h.toNat) (g:=λi:Nat=>.int i) rfl (λi δ=>∃(m:Md) (v5:DV),δ=⟨[.dat .sh (.int h),.dat .sh (.list (deck.map Bf)),.dat .sh (.dict (Wh (jD L))),.dat .ow (Kh L (aD deck i)),v4,v5],0⟩/\NP v5) ?_ ?_ ?_
   ·refine ⟨.ow,_,Wf ?_ rfl,hv5⟩
    rw[Zt (f:=aD deck 0) (g:=Ny deck) λw hw=>V8 hd' ((hm w).mp hw)]
    rfl
   ·rintro i a _ ha ⟨m,v5,rfl,hv5⟩
    w_pre b9
    array_get_dec
    refine ⟨h.toNat,L,aD deck a,a,1,rfl,by omega,pe,by omega,by omega,.inl rfl,?_⟩
    try array_get_dec
    refine ⟨.ow,.dat .sh (.int a),Wf ?_ rfl,Ir⟩
    rw[Zt (f:=kP a 1 (aD deck a)) (g:=aD deck (a+1)) λw _=>L5 deck a w]
   ·rintro _ ⟨m,v5,rfl,hv5⟩
    rw[Cq]
    array_get_dec
    have:=hR L pe po
    rw[Zt (f:=Gg deck) (g:=aD deck h.toNat) λw _=>(V6 hd' w).symm] at this
    exact this
theorem U1:FnScope ["holes", "numbers", "notched", "whole", "order"] ["holes", "numbers", "notched", "whole"] (Bv sY):=⟨rfl,rfl,rfl,by decide +kernel,rfl,by decide +kernel,by decide +kernel⟩
theorem M5{f f_order_of f_parted_by  : Addr}{fd d_order_of d_parted_by:Cs}(F:Fun K "just" "just" sY f fd)(G_order_of:FnOk P w K mg base Hv 2 f_order_of d_order_of ["holes"] (Rz K (bU)))(b_order_of:Binds K d_order_of ["holes"] [])(k_order_of:PySem.W.keepIn K (.ref f_order_of)=true)(m_order_of:mg "order_of" = some (.ref f_order_of))(G_parted_by:FnOk P w K mg base Hv 3 f_parted_by d_parted_by ["order", "numbers", "places"] (ID K (dY)))(b_parted_by:Binds K d_parted_by ["order", "numbers", "places"] [])(k_parted_by:PySem.W.keepIn K (.ref f_parted_by)=true)(m_parted_by:mg "parted_by" = some (.ref f_parted_by)):FnOk P w K mg base Hv 4 f fd ["holes", "numbers", "notched", "whole"] (Rz K (J5)):=by
 refine' Lo (k:=3) F U1 (λcdv A outer s H E hr=>?hb) ?h
 case hb =>
  have hr1:Room 1 _:=hr.mono (by decide)
  have hr2:Room 2 _:=hr.mono (by decide)
  have hr3:Room 3 _:=hr.mono (by decide)
  have hu64:=hr.units
  exact Ck (Fj (i:=4) U1.nd rfl (Dr rfl) (Fs G_order_of hr2 rfl m_order_of k_order_of b_order_of Fu (An (Aq (pv 0)) Bb)))
   (Dt (Gd (Ud (Mj (pA G_parted_by hr3 rfl m_parted_by k_parted_by b_parted_by Fu (An (Aq (pv 4)) (An (Aq (pv 1)) (An (Aq (pv 3)) Bb)))) (bZ hu64 (Aq (pv 4)) (Aq (pv 2)))))))
 case h =>
  rintro ds R ⟨h,L,f,w,Q,rfl,h0,h10,pe,po,rw_,hQ,hR⟩
  w_pre z6
  array_get_dec
  refine ⟨h,rfl,h0,h10,λL' pe' po'=>?_⟩
  w_pre n10
  array_get_dec
  refine ⟨h.toNat,L',f,Q,rfl,by omega,pe,λq hq=>by rw[en]; exact hQ q hq,?_⟩
  obtain ⟨i,e1,e2⟩:=kB ((Na pe).mpr (by rw[en]; exact rw_))
  have e3:=G6 (f:=Lk Q f) e1
  unfold pO Kh
  array_get_dec
  refine ⟨_,e2,?_⟩
  array_get_dec
  refine ⟨_,e3,?_⟩
  array_get_dec
  exact hR
theorem kU:FnScope ["_law_draws_here", "_law_holes", "_law_limit", "_law_deck_here", "_law_k", "_law_card", "_law_pick", "_law_place"] ["_law_draws_here", "_law_holes", "_law_limit"] (Bv Ue):=⟨rfl,rfl,rfl,by decide +kernel,rfl,by decide +kernel,by decide +kernel⟩
theorem jY{f f_L_next f_L_small  : Addr}{fd d_L_next d_L_small:Cs}(F:Fun K "_law_deck" "_law_deck" Ue f fd)(G_L_next:FnOk P w K mg base Hv 1 f_L_next d_L_next ["_law_draws_here"] (cN K Wt))(b_L_next:Binds K d_L_next ["_law_draws_here"] [])(k_L_next:PySem.W.keepIn K (.ref f_L_next)=true)(m_L_next:mg "_law_next" = some (.ref f_L_next))(G_L_small:FnOk P w K mg base Hv 2 f_L_small d_L_small ["_law_draws_here", "_law_holes"] (cN K (kR)))(b_L_small:Binds K d_L_small ["_law_draws_here", "_law_holes"] [])(k_L_small:PySem.W.keepIn K (.ref f_L_small)=true)(m_L_small:mg "_law_small" = some (.ref f_L_small))(mz_range:mg "range" = none)(mz_len:mg "len" = none)(mz_sorted:mg "sorted" = none)(mz_set:mg "set" = none)(mz_tuple:mg "tuple" = none):FnOk P w K mg base Hv 3 f fd ["_law_draws_here", "_law_holes", "_law_limit"] (cN K (j6)):=by
 refine' Vo (k:=2) F kU (λcdv A outer s H E hr=>?hb) ?h
 case hb =>
  have hr1:Room 1 _:=hr.mono (by decide)
  have hr2:Room 2 _:=hr.mono (by decide)
  have hu64:=hr.units
  exact Ck (Su (i:=3) kU.nd rfl (Dr rfl) (Lf Bb))
   (Ck (Ni Es rfl (Lx rfl mz_range (An (Nf (Il G_L_next hr1 rfl m_L_next k_L_next b_L_next Fu (pv 0) Bb) (Uq (Aq (pv 2)) Dn)) Bb)) (Js (i:=4) kU.nd rfl (Dr rfl))
   (Ck (Fj (i:=5) kU.nd rfl (Dr rfl) (Il G_L_small hr2 rfl m_L_small k_L_small b_L_small Fu (pv 0) (An (Aq (pv 1)) Bb)))
    (Ck (Fj (i:=6) kU.nd rfl (Dr rfl) (Il G_L_next hr1 rfl m_L_next k_L_next b_L_next Fu (pv 0) Bb))
    (Ck (Ph (DU (u0 (dS hu64 (Aq (pv 3)) (Lf Bb)) (uQ (mW hu64 (Nf (Aq (pv 6)) Dn) Dn))))
    (Dt (Fj (i:=5) kU.nd rfl (Dr rfl) (Ud (Mj (Aq (pv 3)) (Nf (Wz (Aq (pv 6)) Dn) (Ha Nw Uh rfl mz_len (by decide +kernel) (An (Aq (pv 3)) Bb))))))) Mm)
    (Ck (Ph (DU (u0 (dS hu64 (Aq (pv 3)) (Lf Bb)) (uQ (mW hu64 (Nf (Aq (pv 6)) Dn) Dn))))
    (Ck (Fj (i:=5) kU.nd rfl (Dr rfl) (Ud (Mj (Aq (pv 3)) (Nf (Wz (Aq (pv 6)) Dn) (Ha Nw Uh rfl mz_len (by decide +kernel) (An (Aq (pv 3)) Bb))))))
     (Ck (Fj (i:=7) kU.nd rfl (Dr rfl) (Nf (Wz (Aq (pv 6)) Dn) (Aq (pv 1))))
     (Dt (Fj (i:=5) kU.nd rfl (Dr rfl) (Jg Rh (Rj (i:=true)) rfl mz_tuple (by decide +kernel) (An (CB rfl rfl mz_sorted rfl mz_set (An (jT (Aq (pv 5)) (Og (An (Ud (Aq (pv 7))) Bb))) Bb)) Bb)))))) Mm)
    (Dt (Vr (pv 3) (Aq (pv 5)))))))))
   (Dt (Gd (bV (pv 3)))))
 case h =>
  rintro ds n R ⟨h,m,rfl,h0,h1,m0,m1,hn,hR⟩
  w_pre b8
  array_get_dec
  refine ⟨rfl,by omega,λr1=>?_⟩
  array_get_dec
  have bm:=Wn r1 (b:=m+1) (by omega)
  refine ⟨by omega,by omega,by omega,?_⟩
  refine Zx (l:=Cc (r1 % (m+1)).toNat) (g:=λi:Nat=>.int i) rfl (λi δ=>∃(deck:List (List Int)) (v4 v5 v6 v7:DV) (n':Nat),δ=⟨[.drw,.dat .sh (.int h),.dat .sh (.int m),.dat .ow (.list (deck.map Bf)),v4,v5,v6,v7],n'⟩/\n'=n+1+2 * i/\deck.length=i/\(∀c∈deck,Do h c)/\NP v4/\NP v5/\NP v6/\NP v7) ?_ ?_ ?_
  ·exact ⟨[],_,_,_,_,_,rfl,rfl,rfl,λ_ z=>(nomatch z),Mv,Mv,Mv,Mv⟩
  ·rintro i a _ ha ⟨deck,v4,v5,v6,v7,n1,rfl,k1,ld,hd,hv4,hv5,hv6,hv7⟩
   w_pre b9
   array_get_dec
   refine ⟨h,rfl,h0,by omega,by omega,λw rw_=>?_⟩
   array_get_dec
   refine ⟨rfl,by omega,λr2=>?_⟩
   array_get_dec
   have pick:∀q:Int,deck≠[]->∃c∈deck,Wq (deck.map Bf) (q % ((deck.map Bf).length:Int))=some (Bf c):=λq hne=>by
    have hl:0<deck.length:=Pz.mpr hne
    have bl:=Wn q (b:=((deck.map Bf).length:Int)) (by rw[Ad]; omega)
    rw[Ad] at bl ⊢
    exact wL bl.1 bl.2
   refine Z2 (λP=>R0 _ _ _ P) (λδ=>∃(c:List Int),δ=⟨[.drw,.dat .sh (.int h),.dat .sh (.int m),.dat .ow (.list (deck.map Bf)),.dat .sh (.int a),.dat .sh (Bf c),.dat .sh (.int r2),v7],n1+1+1⟩/\Do h c) (λN hN=>?_) ?_
   ·refine u4 (λhb=>?_) (λhb=>?_)
    ·have hne:deck≠[]:=λz=>by rw[z] at hb; cases hb
     array_get_dec
     refine eO (λhb2=>?_) (λhb2=>?_)
     ·obtain ⟨c,hc,e⟩:=pick (r2 / 3) hne
      have hl:0<deck.length:=Pz.mpr hne
      array_get_dec
      rw[e]
      refine ⟨by rw[Ad]; omega,Bf c,rfl,?_⟩
      try array_get_dec
      exact hN _ ⟨c,rfl,hd c hc⟩
     ·array_get_dec
      exact hN _ ⟨w,rfl,rw_⟩
    ·array_get_dec
     exact hN _ ⟨w,rfl,rw_⟩
   ·rintro _ ⟨c,rfl,rc⟩
    array_get_dec
    refine Z2 (λP=>R0 _ _ _ P) (λδ=>∃(c:List Int) (v7:DV),δ=⟨[.drw,.dat .sh (.int h),.dat .sh (.int m),.dat .ow (.list (deck.map Bf)),.dat .sh (.int a),.dat .sh (Bf c),.dat .sh (.int r2),v7],n1+1+1⟩/\Do h c/\NP v7) (λN hN=>?_) ?_
    ·refine u4 (λhb=>?_) (λhb=>?_)
     ·have hne:deck≠[]:=λz=>by rw[z] at hb; cases hb
      array_get_dec
      refine eO (λhb2=>?_) (λhb2=>?_)
      ·obtain ⟨c2,hc2,e⟩:=pick (r2 / 3) hne
       have hl:0<deck.length:=Pz.mpr hne
       have bh:=Wn (r2 / 300) h0
       have r2c:=hd c2 hc2
       have l60:=Wv (r2c.up (show h<=60 by omega))
       array_get_dec
       rw[e]
       refine ⟨by rw[Ad]; omega,Bf c2,rfl,?_⟩
       array_get_dec
       refine ⟨by omega,by rw[Ad]; omega,c2++[r2 / 300 % h],by rw[Bo]; rfl,λx hx=>?_,?_⟩
       ·rcases Bc.mp hx with z | z
        ·have:=r2c.2 x z; omega
        ·rw[Al.mp z]; omega
       ·try array_get_dec
        exact hN _ ⟨_,_,rfl,dQ r2c bh.1 bh.2,Ir⟩
      ·array_get_dec
       exact hN _ ⟨c,_,rfl,rc,hv7⟩
     ·array_get_dec
      exact hN _ ⟨c,_,rfl,rc,hv7⟩
    ·clear hv7
     rintro _ ⟨c,v7,rfl,rc,hv7⟩
     array_get_dec
     refine ⟨by simp [npk,hv7 _],by rw[Ad]; omega,?_⟩
     refine ⟨deck++[c],_,_,_,_,_,Wf (by rw[Bo]; rfl) rfl,by omega,by rw[Bn,Kt]; omega,λx hx=>?_,Ir,Ir,Ir,hv7⟩
     w_pre v8
     ·exact hd x z
     ·rw[Al.mp z]; exact rc
  ·rintro _ ⟨deck,v4,v5,v6,v7,n1,rfl,k1,ld,hd,hv4,hv5,hv6,hv7⟩
   rw[Cq] at k1 ld
   array_get_dec
   exact ⟨by omega,hR deck _ (by omega) (by omega) (by omega) hd⟩
end
def oQ(L:List (List Int))(c:List Int->Int):List Af:=L.flatMap λw=>By (c w).toNat (Bf w)
def eL:PF:=λds R=>∃(h:Int) (L:List (List Int)) (f:List Int->Int),ds=[.int h,Kh L f]/\0<=h/\h<=10/\L.Perm (Fd h.toNat)/\Ord L /\
 ((∀w∈L,0<=Lk (Kz h.toNat) f w)->(oQ L (Lk (Kz h.toNat) f)).length<=10000/\R (.tuple [.str (Ds "deck"),.list (oQ L (Lk (Kz h.toNat) f))])) /\
 ∀w∈L,Lk (Kz h.toNat) f w<0->R (.tuple [.str (Ds "never"),Bf w])
section
variable{P:Bk}{w:World}{K:PySem.W.Frag}{mg:Str->Option Value}{base:Heap}
theorem rE:FnScope ["holes", "numbers", "order", "many", "word", "cards"] ["holes", "numbers"] (Bv Vq):=⟨rfl,rfl,rfl,by decide +kernel,rfl,by decide +kernel,by decide +kernel⟩
theorem rA{f f_order_of f_parted_by  : Addr}{fd d_order_of d_parted_by:Cs}(F:Fun K "deck_of" "deck_of" Vq f fd)(G_order_of:FnOk P w K mg base Hv 2 f_order_of d_order_of ["holes"] (Rz K (bU)))(b_order_of:Binds K d_order_of ["holes"] [])(k_order_of:PySem.W.keepIn K (.ref f_order_of)=true)(m_order_of:mg "order_of" = some (.ref f_order_of))(G_parted_by:FnOk P w K mg base Hv 3 f_parted_by d_parted_by ["order", "numbers", "places"] (ID K (dY)))(b_parted_by:Binds K d_parted_by ["order", "numbers", "places"] [])(k_parted_by:PySem.W.keepIn K (.ref f_parted_by)=true)(m_parted_by:mg "parted_by" = some (.ref f_parted_by))(mz_tuple:mg "tuple" = none)(mz_range:mg "range" = none)(mz_zip:mg "zip" = none):FnOk P w K mg base Hv 4 f fd ["holes", "numbers"] (Rz K (eL)):=by
 refine' Lo (k:=3) F rE (λcdv A outer s H E hr=>?hb) ?h
 case hb =>
  have hr1:Room 1 _:=hr.mono (by decide)
  have hr2:Room 2 _:=hr.mono (by decide)
  have hr3:Room 3 _:=hr.mono (by decide)
  have hu64:=hr.units
  have CS1:∀{scope:Scope} (h:scope={ kind:=.function,names:=[(".0",.local),("word",.local),("cards",.local),("card",.local),("range",.globalImplicit)],isGenerator:=false,isCoroutine:=false }),
    CompScope (Nc Hv P w K mg base ["holes", "numbers", "order", "many", "word", "cards"] "deck_of" (Bv Vq) f cdv A outer s H E).nox scope [] "word" [] []:=by
   w_pre l4
  exact Ck (Fj (i:=2) rE.nd rfl (Dr rfl) (Fs G_order_of hr2 rfl m_order_of k_order_of b_order_of Fu (An (Aq (pv 0)) Bb)))
   (Ck (Fj (i:=3) rE.nd rfl (Dr rfl) (pA G_parted_by hr3 rfl m_parted_by k_parted_by b_parted_by Fu (An (Aq (pv 2)) (An (Aq (pv 1)) (An (xF rfl rfl mz_tuple rfl mz_range (Aq (pv 0))) Bb)))))
   (Ck (Ni Es rfl (jH rfl mz_zip (An (Aq (pv 2)) (An (Aq (pv 3)) Bb))) (I0 (n:=2) rfl (Yf (Js (i:=4) rE.nd rfl (Dr rfl)) (Yf (Js (i:=5) rE.nd rfl (Dr rfl)) uS)))
   (Dt (Ph (Y4 (Aq (pv 5)) Dn)
    (Dt (Gd (Og (An jG (An (Ud (Aq (pv 4))) Bb))))) Mm)))
   (Dt (Gd (Og (An jG (An (zU (b:=true) (CS1 rfl) (.inl rfl) (.inl rfl) (by decide +kernel) rfl (jH rfl mz_zip (An (Aq (pv 2)) (An (Aq (pv 3)) Bb))) (λ_ _ _=>Lx rfl mz_range (An (Aq (pv 1)) Bb)) (λ_ _ _=>Aq (pv 0))) Bb)))))))
 case h =>
  rintro ds R ⟨h,L,f,rfl,h0,h10,pe,po,hD,hN⟩
  w_pre z6
  array_get_dec
  refine ⟨h,rfl,h0,h10,λL' pe' po'=>?_⟩
  w_pre n10
  array_get_dec
  refine ⟨h0,by omega,?_⟩
  array_get_dec
  refine ⟨h.toNat,L',f,Kz h.toNat,rfl,by omega,pe,λq hq=>?_,?_⟩
  ·unfold Kz at hq
   obtain ⟨k,hk,rfl⟩:=Dc.mp hq
   have:=Fz.mp hk
   omega
  generalize Lk (Kz h.toNat) f=c at hD hN
  unfold pO Kh
  array_get_dec
  rw[jN]
  refine Zx (l:=L') (g:=λw=>.tuple [Bf w,.int (c w)]) rfl (λi δ=>∃(v4 v5:DV),δ=⟨[.dat .sh (.int h),.dat .sh (.list ((L'.map f).map Aw)),.dat .sh (.dict (Wh (jD L'))),.dat .sh (.list ((L'.map c).map Aw)),v4,v5],0⟩/\∀w∈L'.take i,0<=c w) ?_ ?_ ?_
  ·exact ⟨_,_,rfl,λ_ z=>(nomatch z)⟩
  ·rintro i w _ hw ⟨v4,v5,rfl,hg⟩
   array_get_dec
   refine eO (λhb=>?_) (λhb=>?_)
   ·array_get_dec
    exact hN w (Bq hw) (of_decide_eq_true hb)
   ·array_get_dec
    refine ⟨_,_,rfl,λx hx=>?_⟩
    rw[Ij hw] at hx
    w_pre v8
    ·exact hg x z
    ·rw[Al.mp z]
     have:=of_decide_eq_false hb
     omega
  ·rintro _ ⟨v4,v5,rfl,hg⟩
   rw[Ey] at hg
   obtain ⟨hl,hR⟩:=hD hg
   array_get_dec
   rw[jN]
   refine HU (l:=L') (g1:=Bf) (g2:=λw=>.int (c w)) rfl (λw=>By (c w).toNat (Bf w)) (pF (Cb hl (by decide))) (λw hw acc fin hz hf=>?_) ?_
   ·have c0:=hg w hw
    have c1:(c w).toNat<=10000:=by
     obtain ⟨i,hi⟩:=vZ.mp hw
     have:=nC (λw=>By (c w).toNat (Bf w)) hi
     rw[Wb] at this
     unfold oQ at hl
     omega
    array_get_dec
    refine ⟨by omega,by omega,JX (l:=Cc (c w).toNat) (g:=λi:Nat=>.int i) rfl (λ_=>Bf w) (by rw[Cq]; rw[Wb] at hz; exact hz) (λy hy yes hyes=>?_) ?_⟩
    ·show Pp Nn _ _ _ _
     array_get_dec
     exact hyes
    ·rw[List.map_const',Cq]
     exact hf
   ·array_get_dec
    exact ⟨_,rfl,hR⟩
end
open DRow
section
variable{P:Bk}{w:World}{K:PySem.W.Frag}{mg:Str->Option Value}{base:Heap}
theorem rB:FnScope ["deck", "needles", "dropped", "kept", "card"] ["deck", "needles"] (Bv aE):=⟨rfl,rfl,rfl,by decide +kernel,rfl,by decide +kernel,by decide +kernel⟩
theorem qX{f f_within  : Addr}{fd d_within:Cs}(F:Fun K "needled" "needled" aE f fd)(G_within:FnOk P w K mg base Hv 1 f_within d_within ["one", "other"] (Rz K (HG)))(b_within:Binds K d_within ["one", "other"] [])(k_within:PySem.W.keepIn K (.ref f_within)=true)(m_within:mg "within" = some (.ref f_within)):FnOk P w K mg base Hv 2 f fd ["deck", "needles"] (Rz K (sJ)):=by
 refine' Lo (k:=1) F rB (λcdv A outer s H E hr=>?hb) ?h
 case hb =>
  have hr1:Room 1 _:=hr.mono (by decide)
  have hu64:=hr.units
  exact Ck (Su (i:=2) rB.nd rfl (Dr rfl) (Lf Bb))
   (Ck (Su (i:=3) rB.nd rfl (Dr rfl) (Lf Bb))
   (Ck (Ni Es rfl (M3 (Aq (pv 0))) (Js (i:=4) rB.nd rfl (Dr rfl))
   (Dt (Ph (eH (Fs G_within hr1 rfl m_within k_within b_within Fu (An (Aq (pv 1)) (An (Aq (pv 4)) Bb))))
    (Dt (Vr (pv 2) (Aq (pv 4)))) (Dt (Vr (pv 3) (Aq (pv 4)))))))
   (Dt (Gd (Og (An (bV (pv 2)) (An (bV (pv 3)) Bb)))))))
 case h =>
  rintro ds R ⟨L,w,rfl,hl,hR⟩
  w_pre b8
  array_get_dec
  refine Zx (l:=L) (g:=Bf) rfl (λi δ=>∃v:DV,δ=⟨[.dat .sh (.list (L.map Bf)),.dat .sh (Bf w),.dat .ow (.list ((Xt id (L.take i) w).map Bf)),.dat .ow (.list ((cJ id (L.take i) w).map Bf)),v],0⟩/\NP v) ?_ ?_ ?_
  ·exact ⟨_,rfl,Mv⟩
  ·rintro i c _ hc ⟨v,rfl,hv⟩
   have il:=(Ax.mp hc).1
   have l1:(Xt id (L.take i) w).length<=1000:=Cb (List.length_filter_le _ _) (by rw[Cy]; omega)
   have l2:(cJ id (L.take i) w).length<=1000:=Cb (List.length_filter_le _ _) (by rw[Cy]; omega)
   have d1:(Xt id (L.take (i+1)) w).map Bf=(Xt id (L.take i) w).map Bf++(if Tg w c=true then [Bf c] else []):=iC _ _ hc
   have d2:(cJ id (L.take (i+1)) w).map Bf=(cJ id (L.take i) w).map Bf++(if (!Tg w c)=true then [Bf c] else []):=iC _ _ hc
   array_get_dec
   refine ⟨w,c,rfl,?_⟩
   refine eO (λh=>?_) (λh=>?_)
   ·array_get_dec
    w_pre y5
    simp
   ·array_get_dec
    w_pre y5
    simp
  ·rintro _ ⟨v,rfl,hv⟩
   array_get_dec
   rw[Ey]
   exact hR
end
open DRow
def i5(L:List (List Int)):Af:=.list (L.map Bf)
def vA:PF:=λds R=>∃(L:List (List Int)) (f g:List Int->Int),ds=[Kh L f,Kh L g]/\L.length<=1024/\R (Kh L λw=>f w+g w)
structure Dk(h:Int)(L deck:List (List Int)):Prop where
 h0:0<h
 h1:h<=10
 pe:L.Perm (Fd h.toNat)
 po:Nd.Ord L
 ld:deck.length<=120
 hd:∀c∈deck,Do h c
def K5:PF:=λds R=>∃(h:Int) (L deck:List (List Int)),ds=[.int h,i5 L,i5 deck,Kh L (Gg deck)]/\Dk h L deck/\R (.bool true)
def qJ:DF:=λds n R=>∃(h:Int) (L deck:List (List Int)),ds=[.int h,i5 deck,Kh L (Gg deck)]/\Dk h L deck/\n<=60000/\R (.bool true) (n+1)
def eS:DF:=λds n R=>∃(h:Int) (L deck:List (List Int)),ds=[.int h,i5 L,i5 deck,Kh L (Gg deck)]/\Dk h L deck/\n<=60000/\R (.bool true) (n+h.toNat)
def i9:DF:=λds n R=>∃(h:Int) (L deck:List (List Int)),ds=[.int h,i5 L,i5 deck,Kh L (Gg deck)]/\Dk h L deck/\n<=60000/\∀n',n<=n'->n'<=n+1->R (.bool true) n'
theorem p6{L:List (List Int)}(f g:List Int->Int):(((L.map f).map Aw).zip ((L.map g).map Aw)).map (λp=>Li [p.1,p.2])=L.map λw=>.tuple [.int (f w),.int (g w)]:=by
 induction L with
 | nil=>rfl
 | cons w L ih=>rw[Ap,Ap,Ap,Ap,Ig,Ap,ih]; rfl
theorem oK{L:List (List Int)}(f:List Int->Int):((L.map Bf).zip ((L.map f).map Aw)).map (λp=>Li [p.1,p.2])=L.map λw=>.tuple [Bf w,.int (f w)]:=by
 induction L with
 | nil=>rfl
 | cons w L ih=>rw[Ap,Ap,Ap,Ig,Ap,ih]; rfl
theorem Dk.rd{h:Int}{L deck:List (List Int)}(d:Dk h L deck):∀c∈deck,Do (h.toNat:Int) c:=λc hc=>by have:=d.hd c hc; rwa [show ((h.toNat:Nat):Int)=h by have:=d.h0; omega]
theorem Dk.told{h:Int}{L deck:List (List Int)}(d:Dk h L deck):(∀w∈L,0<=Lk (Kz h.toNat) (Gg deck) w)/\oQ L (Lk (Kz h.toNat) (Gg deck))=(On L (Ny deck)).map Bf:=by
 have e:∀w∈L,Lk (Kz h.toNat) (Gg deck) w=Ny deck w:=λw hw=>A3 d.rd ((Na d.pe).mp hw)
 refine ⟨λw hw=>by rw[e w hw]; unfold Ny; omega,?_⟩
 rw[<- U7]
 unfold oQ
 have : ∀M:List (List Int),(∀w∈M,Lk (Kz h.toNat) (Gg deck) w=Ny deck w)->(M.flatMap λw=>By (Lk (Kz h.toNat) (Gg deck) w).toNat (Bf w))=M.flatMap λw=>By (Ny deck w).toNat (Bf w):=λM=>by
  induction M with
  | nil=>intro _; rfl
  | cons v M ih =>
   intro hM
   rw[Nj,Nj,ih λw hw=>hM w (Ac _ hw),hM v Ab]
 exact this L e
section
variable{P:Bk}{w:World}{K:PySem.W.Frag}{mg:Str->Option Value}{base:Heap}
theorem fQ:FnScope ["_law_numbers", "_law_others"] ["_law_numbers", "_law_others"] (Bv Ox):=⟨rfl,rfl,rfl,by decide +kernel,rfl,by decide +kernel,by decide +kernel⟩
theorem gD{f   : Addr}{fd  : Cs}(F:Fun K "_law_added" "_law_added" Ox f fd)(mz_zip:mg "zip" = none):FnOk P w K mg base Hv 1 f fd ["_law_numbers", "_law_others"] (Rz K (vA)):=by
 refine' Lo (k:=0) F fQ (λcdv A outer s H E hr=>?hb) ?h
 case hb =>
  have hu64:=hr.units
  have CS1:∀{scope:Scope} (h:scope={ kind:=.function,names:=[(".0",.local),("_law_one",.local),("_law_other",.local)],isGenerator:=false,isCoroutine:=false }),
    CompScope (Nc Hv P w K mg base ["_law_numbers", "_law_others"] "_law_added" (Bv Ox) f cdv A outer s H E).nox scope [] "_law_one" [] []:=by
   w_pre l4
  exact Dt (Gd (eV (CS1 rfl) (.inl rfl) (by decide +kernel) rfl (sP rfl mz_zip (An (Aq (pv 0)) (An (Aq (pv 1)) Bb))) (λ_ _ _=>Jf) (λ_ _ _=>Uq (Aq (pv 0)) (Aq (pv 1)))))
 case h =>
  rintro ds R ⟨L,f,g,rfl,ll,hR⟩
  w_pre b8
  unfold Kh
  array_get_dec
  rw[p6]
  refine jI (l:=L) (g1:=λw=>.int (f w)) (g2:=λw=>.int (g w)) rfl (λ_=>true) (λw=>.int (f w+g w)) (λw hw yes no hy _=>?_) ?_
  ·array_get_dec
   exact hy rfl
  ·rw[Qa.mpr λ_ _=>rfl]
   array_get_dec
   unfold Kh at hR
   rw[Cr] at hR
   exact hR
theorem Wx:FnScope ["_law_holes", "_law_words_here", "_law_deck_here", "_law_numbers", "_law_told", "_law_word", "_law_number"] ["_law_holes", "_law_words_here", "_law_deck_here", "_law_numbers"] (Bv Ml):=⟨rfl,rfl,rfl,by decide +kernel,rfl,by decide +kernel,by decide +kernel⟩
theorem Ww{f f_counts f_deck_of f_needled  : Addr}{fd d_counts d_deck_of d_needled:Cs}(F:Fun K "_law_back_right" "_law_back_right" Ml f fd)(G_counts:FnOk P w K mg base Hv 3 f_counts d_counts ["holes", "deck"] (Rz K (Ur)))(b_counts:Binds K d_counts ["holes", "deck"] [])(k_counts:PySem.W.keepIn K (.ref f_counts)=true)(m_counts:mg "counts" = some (.ref f_counts))(G_deck_of:FnOk P w K mg base Hv 4 f_deck_of d_deck_of ["holes", "numbers"] (Rz K (eL)))(b_deck_of:Binds K d_deck_of ["holes", "numbers"] [])(k_deck_of:PySem.W.keepIn K (.ref f_deck_of)=true)(m_deck_of:mg "deck_of" = some (.ref f_deck_of))(G_needled:FnOk P w K mg base Hv 2 f_needled d_needled ["deck", "needles"] (Rz K (sJ)))(b_needled:Binds K d_needled ["deck", "needles"] [])(k_needled:PySem.W.keepIn K (.ref f_needled)=true)(m_needled:mg "needled" = some (.ref f_needled))(mz_list:mg "list" = none)(mz_sorted:mg "sorted" = none)(mz_zip:mg "zip" = none)(mz_len:mg "len" = none):FnOk P w K mg base Hv 5 f fd ["_law_holes", "_law_words_here", "_law_deck_here", "_law_numbers"] (Rz K (K5)):=by
 refine' Lo (k:=4) F Wx (λcdv A outer s H E hr=>?hb) ?h
 case hb =>
  have hr1:Room 1 _:=hr.mono (by decide)
  have hr2:Room 2 _:=hr.mono (by decide)
  have hr3:Room 3 _:=hr.mono (by decide)
  have hr4:Room 4 _:=hr.mono (by decide)
  have hu64:=hr.units
  exact Ck (Fj (i:=4) Wx.nd rfl (Dr rfl) (Fs G_deck_of hr4 rfl m_deck_of k_deck_of b_deck_of Fu (An (Aq (pv 0)) (An (Jg kG (lS (i:=true)) rfl mz_list (by decide +kernel) (An (Aq (pv 3)) Bb)) Bb))))
   (Ck (Ph (DU (FO (dS hu64 (Aq (pv 4)) (Og (An jG (An (Ha (Ts.call_sortedI hu64) Yv rfl mz_sorted (by decide +kernel) (An (Aq (pv 2)) Bb)) Bb)))) (CU (dS hu64 (Fs G_counts hr3 rfl m_counts k_counts b_counts Fu (An (Aq (pv 0)) (An (Mj (Aq (pv 4)) Dn) Bb))) (Aq (pv 3))))))
   (Dt (Gd Xz)) Mm)
   (Ck (Ni Es rfl (sP rfl mz_zip (An (Aq (pv 1)) (An (Aq (pv 3)) Bb))) (I0 (n:=2) rfl (Yf (Js (i:=5) Wx.nd rfl (Dr rfl)) (Yf (Js (i:=6) Wx.nd rfl (Dr rfl)) uS)))
   (Dt (Ph (dS hu64 (Ha Nw Uh rfl mz_len (by decide +kernel) (An (Mj (Fs G_needled hr2 rfl m_needled k_needled b_needled Fu (An (Aq (pv 2)) (An (Aq (pv 5)) Bb))) Dn) Bb)) (Aq (pv 6)))
    (Dt (Gd Xz)) Mm)))
   (Dt (Gd (aT hu64 (Mj (Aq (pv 3)) Dn) (Ha Nw Uh rfl mz_len (by decide +kernel) (An (Aq (pv 2)) Bb)))))))
 case h =>
  rintro ds R ⟨h,L,deck,rfl,d,hR⟩
  w_pre b8
  obtain ⟨t1,t2⟩:=d.told
  have dp_:=dJ d.pe d.rd
  have dl:=dp_.length_eq
  have h0:=d.h0
  have h1:=d.h1
  have ld:=d.ld
  have en:((h.toNat:Nat):Int)=h:=by omega
  have nL:[]∈L:=(Na d.pe).mpr ⟨Ej,λ_ z=>(nomatch z)⟩
  unfold i5 Kh
  array_get_dec
  refine ⟨h,L,Gg deck,rfl,by omega,h1,d.pe,d.po,λ_=>⟨by rw[t2,Ad,dl]; omega,?_⟩,λw hw hneg=>absurd (t1 w hw) (by omega)⟩
  rw[t2]
  array_get_dec
  refine ⟨deck,rfl,λD pD oD=>?_⟩
  obtain rfl:D=On L (Ny deck):=Ko (pD.trans dp_.symm) oD (iI d.po)
  have e:Em (.tuple [.str (Ds "deck"),.list ((On L (Ny deck)).map Bf)]) (.tuple [.str (Ds "deck"),.list ((On L (Ny deck)).map Bf)])=true:=by
   rw[jQ,Vj,Vj,mV,F6,decide_eq_true rfl,vB]
   rfl
  rw[e]
  array_get_dec
  refine ⟨h,On L (Ny deck),rfl,by omega,h1,λc hc=>d.hd c (dp_.mem_iff.mp hc),λL' pe' po'=>?_⟩
  obtain rfl:L'=L:=Ko (pe'.trans d.pe.symm) po' d.po
  rw[o8 dp_]
  unfold Kh
  array_get_dec
  rw[oK]
  refine Zx (l:=L') (g:=λw=>.tuple [Bf w,.int (Gg deck w)]) rfl (λi δ=>∃(v4 v5 v6:DV),δ=⟨[.dat .sh (.int h),.dat .sh (.list (L'.map Bf)),.dat .sh (.list (deck.map Bf)),.dat .sh (.list ((L'.map (Gg deck)).map Aw)),v4,v5,v6],0⟩/\NP v4) ?_ ?_ ?_
  ·exact ⟨_,_,_,rfl,Ir⟩
  ·rintro i w _ hw ⟨v4,v5,v6,rfl,hv4⟩
   array_get_dec
   refine ⟨deck,w,rfl,by omega,?_⟩
   array_get_dec
   rw[Ad,mX,decide_eq_true rfl]
   array_get_dec
   exact ⟨_,_,_,rfl,hv4⟩
  ·rintro _ ⟨v4,v5,v6,rfl,hv4⟩
   have e0:=oS (l:=(L'.map (Gg deck)).map Aw) (i:=0) (a:=.int (Gg deck [])) (by rw[Bg,Bg,yS d.po nL]; rfl)
   array_get_dec
   refine ⟨.int (Gg deck []),e0,?_⟩
   array_get_dec
   rw[Ad,cnt_nil,decide_eq_true rfl]
   exact hR
end
open DRow
section
variable{P:Bk}{w:World}{K:PySem.W.Frag}{mg:Str->Option Value}{base:Heap}
theorem aB:FnScope ["_law_draws_here", "_law_holes", "_law_words_here", "_law_deck_here", "_law_numbers", "_law_at", "_law_due"] ["_law_draws_here", "_law_holes", "_law_words_here", "_law_deck_here", "_law_numbers"] (Bv Jv):=⟨rfl,rfl,rfl,by decide +kernel,rfl,by decide +kernel,by decide +kernel⟩
theorem aJ{f f_counts f_L_next f_L_lies  : Addr}{fd d_counts d_L_next d_L_lies:Cs}(F:Fun K "_law_one_less" "_law_one_less" Jv f fd)(G_counts:FnOk P w K mg base Hv 3 f_counts d_counts ["holes", "deck"] (Rz K (Ur)))(b_counts:Binds K d_counts ["holes", "deck"] [])(k_counts:PySem.W.keepIn K (.ref f_counts)=true)(m_counts:mg "counts" = some (.ref f_counts))(G_L_next:FnOk P w K mg base Hv 1 f_L_next d_L_next ["_law_draws_here"] (cN K Wt))(b_L_next:Binds K d_L_next ["_law_draws_here"] [])(k_L_next:PySem.W.keepIn K (.ref f_L_next)=true)(m_L_next:mg "_law_next" = some (.ref f_L_next))(G_L_lies:FnOk P w K mg base Hv 1 f_L_lies d_L_lies ["_law_one", "_law_other"] (Rz K (B6)))(b_L_lies:Binds K d_L_lies ["_law_one", "_law_other"] [])(k_L_lies:PySem.W.keepIn K (.ref f_L_lies)=true)(m_L_lies:mg "_law_lies" = some (.ref f_L_lies))(mz_len:mg "len" = none)(mz_zip:mg "zip" = none)(mz_int:mg "int" = none):FnOk P w K mg base Hv 4 f fd ["_law_draws_here", "_law_holes", "_law_words_here", "_law_deck_here", "_law_numbers"] (cN K (i9)):=by
 refine' Vo (k:=3) F aB (λcdv A outer s H E hr=>?hb) ?h
 case hb =>
  have hr1:Room 1 _:=hr.mono (by decide)
  have hr2:Room 2 _:=hr.mono (by decide)
  have hr3:Room 3 _:=hr.mono (by decide)
  have hu64:=hr.units
  have CS1:∀{scope:Scope} (h:scope={ kind:=.function,names:=[(".0",.local),("_law_word",.local)],isGenerator:=false,isCoroutine:=false }),
    CompScope (Nc Hv P w K mg base ["_law_draws_here", "_law_holes", "_law_words_here", "_law_deck_here", "_law_numbers", "_law_at", "_law_due"] "_law_one_less" (Bv Jv) f cdv A outer s H E).nox scope [] "_law_word" [] []:=by
   w_pre l4
  have CS2:∀{scope:Scope} (h:scope={ kind:=.function,names:=[(".0",.local),("_law_word",.local),("_law_number",.local),("int",.globalImplicit),("_law_lies",.globalImplicit),("_law_at",.free),("_law_deck_here",.free)],isGenerator:=false,isCoroutine:=false }),
    CompScope (Nc Hv P w K mg base ["_law_draws_here", "_law_holes", "_law_words_here", "_law_deck_here", "_law_numbers", "_law_at", "_law_due"] "_law_one_less" (Bv Jv) f cdv A outer s H E).nox scope [("_law_deck_here",s.heap.objs.size+1),("_law_at",s.heap.objs.size+2)] "_law_word" ["_law_at", "_law_deck_here"] [5,3]:=by
   w_pre z4
   ·have z:=Fh h
    simp only[Ak,Az,or_false,Fo] at z
    rcases z with ⟨rfl,rfl⟩ | ⟨rfl,rfl⟩ <;> rfl
   ·match k,e1,e2 with
    | 0,e1,e2=>cases e1; cases e2; exact ⟨rfl,rfl,by first | exact .inl rfl | exact .inr rfl⟩
    | 1,e1,e2=>cases e1; cases e2; exact ⟨rfl,rfl,by first | exact .inl rfl | exact .inr rfl⟩
    | k+2,e1,e2=>cases e1
  exact Ck (Ph (mW hu64 (Aq (pv 3)) (Lf Bb))
   (Dt (Gd (aT hu64 (Aq (pv 4)) (Np (CS1 rfl) rfl (M3 (Aq (pv 2))) (λ_ _ _=>Jf) (λ_ _ _=>Dn))))) Mm)
   (Ck (Fj (i:=5) aB.nd rfl (Zb rfl) (Nf (Il G_L_next hr1 rfl m_L_next k_L_next b_L_next Fu (pv 0) Bb) (Ha Nw Uh rfl mz_len (by decide +kernel) (An (Aq (pv 3)) Bb))))
   (Ck (w8 (o:=false) (i0:=6) aB.nd rfl rfl (CS2 rfl) (.inl rfl) (by decide +kernel) rfl (sP rfl mz_zip (An (Aq (pv 2)) (An (Aq (pv 4)) Bb))) (λ_ _ _=>Jf) (λ_ _ _=>AX (Aq (pv 1)) (Jg gY p8 rfl mz_int (by decide +kernel) (An (Fs G_L_lies hr1 rfl m_L_lies k_L_lies b_L_lies Fu (An (Aq (pv 0)) (An (Mj (Aq (pv 3)) (Aq (pv 2))) Bb))) Bb))))
   (Dt (Gd (aT hu64 (Fs G_counts hr3 rfl m_counts k_counts b_counts Fu (An (Aq (pv 1)) (An (Zs (eD (i:=true) (Aq (pv 3)) Xp (Yu (Aq (pv 5)))) (eD (i:=true) (Aq (pv 3)) (Yu (Uq (Aq (pv 5)) Dn)) Xp)) Bb))) (Aq (pv 6)))))))
 case h =>
  rintro ds n R ⟨h,L,deck,rfl,d,hn,hR⟩
  w_pre b8
  have h0:=d.h0
  have h1:=d.h1
  have ld:=d.ld
  unfold i5 Kh
  array_get_dec
  refine eO (λhb=>?_) (λhb=>?_)
  ·have e:deck=[]:=zH.mp (List.isEmpty_iff.mp hb)
   subst e
   array_get_dec
   refine Yt (l:=L) (g:=Bf) rfl (λ_=>.int 0) (λw hw yes no hy=>?_) ?_
   ·array_get_dec
    exact hy
   ·rw[show L.map (λ_=>Aw 0)=(L.map (Gg [])).map Aw by rw[Cr]; rfl]
    array_get_dec
    exact ⟨Aj _,hR n (Aj _) (by omega)⟩
  ·have hne:deck≠[]:=λz=>by rw[z] at hb; cases hb
   have lp:0<deck.length:=Pz.mpr hne
   array_get_dec
   refine ⟨rfl,by omega,λr1=>?_⟩
   have bl:=Wn r1 (b:=((deck.map Bf).length:Int)) (by rw[Ad]; omega)
   rw[Ad] at bl ⊢
   obtain ⟨k,ek,kl⟩ : ∃k:Nat,r1 % (deck.length:Int)=(k:Int)/\k<deck.length:=⟨(r1 % (deck.length:Int)).toNat,by omega,by omega⟩
   obtain ⟨c,hc⟩ : ∃c,deck[k]? = some c:=⟨_,Bt kl⟩
   have e1:Wq (deck.map Bf) (k:Int)=some (Bf c):=oS (by rw[Bg,hc]; rfl)
   array_get_dec
   rw[ek]
   refine ⟨by omega,?_⟩
   rw[oK]
   refine jI (l:=L) (g1:=Bf) (g2:=λw=>.int (Gg deck w)) rfl (λ_=>true) (λw=>.int (Gg (deck.eraseIdx k) w)) (λw hw yes no hy _=>?_) ?_
   ·have hy:=hy rfl
    rw[K6 hc] at hy
    array_get_dec
    refine ⟨_,e1,?_⟩
    array_get_dec
    refine ⟨w,c,rfl,?_⟩
    array_get_dec
    exact hy
   ·rw[Qa.mpr λ_ _=>rfl,show L.map (λw=>Aw (Gg (deck.eraseIdx k) w))=(L.map (Gg (deck.eraseIdx k))).map Aw by rw[Cr]; rfl]
    array_get_dec
    have l1:=pK (deck.map Bf) none (some (k:Int))
    have l2:=pK (deck.map Bf) (some ((k:Int)+1)) none
    rw[Ad] at l1 l2
    refine ⟨by omega,?_⟩
    rw[show Mi (deck.map Bf) none (some (k:Int))++Mi (deck.map Bf) (some ((k:Int)+1)) none=(deck.eraseIdx k).map Bf by rw[Tr,Tr,<- Bo,V7]]
    refine ⟨h,deck.eraseIdx k,rfl,by omega,h1,λc hc=>d.hd c ((List.eraseIdx_sublist ..).subset hc),λL' pe' po'=>?_⟩
    w_pre p6
    array_get_dec
    exact ⟨by omega,hR _ (by omega) (by omega)⟩
end
open DRow
theorem CJ{k:Nat}(hk:k<5):Wq [Aw 1,.int 2,.int 4,.int 8,.int 16] (k:Int)=some (.int (2 ^ k:Nat)):=by
 rcases (show k=0\/k=1\/k=2\/k=3\/k=4 by omega) with rfl | rfl | rfl | rfl | rfl <;> rfl
theorem N9{k:Nat}(hk:k<=5):Wq [Aw 1,.int 2,.int 4,.int 8,.int 16,.int 32] (k:Int)=some (.int (2 ^ k:Nat)):=by
 rcases (show k=0\/k=1\/k=2\/k=3\/k=4\/k=5 by omega) with rfl | rfl | rfl | rfl | rfl | rfl <;> rfl
theorem BJ{a k:Nat}:decide ((a:Int) / ((2 ^ k:Nat):Int) % 2=1)=decide (a / 2 ^ k % 2=1):=by
 generalize 2 ^ k=m
 rw[decide_eq_decide]
 have : ((a / m:Nat):Int)=(a:Int) / (m:Int):=Int.natCast_ediv a m
 omega
section
variable{P:Bk}{w:World}{K:PySem.W.Frag}{mg:Str->Option Value}{base:Heap}
theorem Ul:FnScope ["_law_draws_here", "_law_holes", "_law_deck_here", "_law_numbers", "_law_some", "_law_total", "_law_pick", "_law_inside", "_law_outside"] ["_law_draws_here", "_law_holes", "_law_deck_here", "_law_numbers"] (Bv Hi):=⟨rfl,rfl,rfl,by decide +kernel,rfl,by decide +kernel,by decide +kernel⟩
theorem Ui{f f_just f_needled f_L_small  : Addr}{fd d_just d_needled d_L_small:Cs}(F:Fun K "_law_parted_right" "_law_parted_right" Hi f fd)(G_just:FnOk P w K mg base Hv 4 f_just d_just ["holes", "numbers", "notched", "whole"] (Rz K (J5)))(b_just:Binds K d_just ["holes", "numbers", "notched", "whole"] [])(k_just:PySem.W.keepIn K (.ref f_just)=true)(m_just:mg "just" = some (.ref f_just))(G_needled:FnOk P w K mg base Hv 2 f_needled d_needled ["deck", "needles"] (Rz K (sJ)))(b_needled:Binds K d_needled ["deck", "needles"] [])(k_needled:PySem.W.keepIn K (.ref f_needled)=true)(m_needled:mg "needled" = some (.ref f_needled))(G_L_small:FnOk P w K mg base Hv 2 f_L_small d_L_small ["_law_draws_here", "_law_holes"] (cN K (kR)))(b_L_small:Binds K d_L_small ["_law_draws_here", "_law_holes"] [])(k_L_small:PySem.W.keepIn K (.ref f_L_small)=true)(m_L_small:mg "_law_small" = some (.ref f_L_small))(mz_range:mg "range" = none)(mz_enumerate:mg "enumerate" = none)(mz_tuple:mg "tuple" = none)(mz_len:mg "len" = none):FnOk P w K mg base Hv 5 f fd ["_law_draws_here", "_law_holes", "_law_deck_here", "_law_numbers"] (cN K (qJ)):=by
 refine' Vo (k:=4) F Ul (λcdv A outer s H E hr=>?hb) ?h
 case hb =>
  have hr1:Room 1 _:=hr.mono (by decide)
  have hr2:Room 2 _:=hr.mono (by decide)
  have hr3:Room 3 _:=hr.mono (by decide)
  have hr4:Room 4 _:=hr.mono (by decide)
  have hu64:=hr.units
  have CS1:∀{scope:Scope} (h:scope={ kind:=.function,names:=[(".0",.local),("_law_k",.local),("_law_place",.local),("_law_pick",.free)],isGenerator:=false,isCoroutine:=false }),
    CompScope (Nc Hv P w K mg base ["_law_draws_here", "_law_holes", "_law_deck_here", "_law_numbers", "_law_some", "_law_total", "_law_pick", "_law_inside", "_law_outside"] "_law_parted_right" (Bv Hi) f cdv A outer s H E).nox scope [("_law_pick",s.heap.objs.size+1)] "_law_k" ["_law_pick"] [6]:=by
   w_pre s
  have CS2:∀{scope:Scope} (h:scope={ kind:=.function,names:=[(".0",.local),("_law_place",.local),("_law_inside",.free)],isGenerator:=false,isCoroutine:=false }),
    CompScope (Nc Hv P w K mg base ["_law_draws_here", "_law_holes", "_law_deck_here", "_law_numbers", "_law_some", "_law_total", "_law_pick", "_law_inside", "_law_outside"] "_law_parted_right" (Bv Hi) f cdv A outer s H E).nox scope [("_law_inside",s.heap.objs.size+2)] "_law_place" ["_law_inside"] [7]:=by
   w_pre s
  exact Ck (Fj (i:=4) Ul.nd rfl (Dr rfl) (eD (i:=true) (Il G_L_small hr2 rfl m_L_small k_L_small b_L_small Fu (pv 0) (An (Aq (pv 1)) Bb)) Xp (Yu Dn)))
   (Ck (Fj (i:=5) Ul.nd rfl (Dr rfl) Dn)
   (Ck (Ni Es rfl (Lx rfl mz_range (An Dn Bb)) (Js (i:=6) Ul.nd rfl (Zb rfl))
   (Ck (Fj (i:=7) Ul.nd rfl (Zb rfl) (Jg Rh (Rj (i:=true)) rfl mz_tuple (by decide +kernel) (An (eV (CS1 rfl) (.inl rfl) (by decide +kernel) rfl (K3 rfl mz_enumerate (An (Aq (pv 4)) Bb)) (λ_ _ _=>lU (mW hu64 (Nf (Wz (Aq (pv 2)) (Mj (Lf (An Dn (An Dn (An Dn (An Dn (An Dn Bb)))))) (Aq (pv 0)))) Dn) Dn)) (λ_ _ _=>Aq (pv 1))) Bb)))
    (Ck (Fj (i:=8) Ul.nd rfl (Dr rfl) (Jg Rh (Rj (i:=true)) rfl mz_tuple (by decide +kernel) (An (Np (CS2 rfl) rfl (EK (Aq (pv 4))) (λ_ _ _=>lU (qC hu64 (Aq (pv 0)) (Aq (pv 1)))) (λ_ _ _=>Aq (pv 0))) Bb)))
    (Dt (Ph (Y4 (Aq (pv 6)) (Mj (Lf (An Dn (An Dn (An Dn (An Dn (An Dn (An Dn Bb))))))) (Ha Nw Uh rfl mz_len (by decide +kernel) (An (Aq (pv 4)) Bb))))
    (Dt (Fj (i:=5) Ul.nd rfl (Dr rfl) (Uq (Aq (pv 5)) (Fs G_just hr4 rfl m_just k_just b_just Fu (An (Aq (pv 1)) (An (Aq (pv 3)) (An (Aq (pv 7)) (An (Aq (pv 8)) Bb)))))))) Mm)))))
   (Dt (Gd (BU (aT hu64 (Aq (pv 5)) (Ha Nw Uh rfl mz_len (by decide +kernel) (An (Aq (pv 2)) Bb))) (ED (aT hu64 (Fs G_just hr4 rfl m_just k_just b_just Fu (An (Aq (pv 1)) (An (Aq (pv 3)) (An (Aq (pv 4)) (An (Og Bb) Bb))))) (Ha Nw Uh rfl mz_len (by decide +kernel) (An (Mj (Fs G_needled hr2 rfl m_needled k_needled b_needled Fu (An (Aq (pv 2)) (An (Aq (pv 4)) Bb))) Dn) Bb)))))))))
 case h =>
  rintro ds n R ⟨h,L,deck,rfl,d,hn,hR⟩
  w_pre y0
  unfold i5 Kh
  array_get_dec
  refine ⟨h,rfl,h0,by omega,by omega,λns hr=>?_⟩
  array_get_dec
  rw[show Li (Mi (ns.map Aw) none (some 5))=Bf (ns.take 5) by rw[Tr]; exact congrArg (λl=>Li (l.map Aw)) (Zw ns 5)]
  have lx:(ns.take 5).length<=5:=by rw[Cy]; omega
  have rx:Do h (ns.take 5):=⟨hr.1.sublist (Hm _ _),λx hx=>hr.2 x ((Hm _ _).subset hx)⟩
  generalize ns.take 5=xs at lx rx
  have nx:=cR rx
  have p32:2 ^ xs.length<=32:=Xk (n:=2) (by decide) lx
  refine Zx (l:=Cc 32) (g:=λi:Nat=>.int i) rfl (λi δ=>∃(v6 v7 v8:DV),δ=⟨[.drw,.dat .sh (.int h),.dat .sh (.list (deck.map Bf)),.dat .sh (.list ((L.map (Gg deck)).map Aw)),.dat .sh (Bf xs),.dat .sh (.int (oE deck xs i)),v6,v7,v8],n+1⟩/\NP v6/\NP v7/\NP v8) ?_ ?_ ?_
  ·refine ⟨_,_,_,Wf ?_ rfl,Mv,Mv,Mv⟩
   rw[show oE deck xs 0=0 by unfold oE; rw[List.countP_eq_zero.mpr λc _=>by simp]; rfl]
  ·rintro i a _ ha ⟨v6,v7,v8,rfl,hv6,hv7,hv8⟩
   w_pre b9
   array_get_dec
   refine jI (l:=xs.zipIdx) (g1:=λq=>.int q.2) (g2:=λq=>.int q.1) (by rw[vM,Cr]; rfl) (λq=>decide (a / 2 ^ q.2 % 2=1)) (λq=>.int q.1) (λq hq yes no hy hn'=>?_) ?_
   ·have hk:q.2<5:=by
     have:=(List.mem_zipIdx_iff_getElem?.mp hq)
     have:=(Ax.mp this).1
     omega
    rw[<- BJ] at hy hn'
    have p0:(0:Int)<((2 ^ q.2:Nat):Int):=by have:=Nat.two_pow_pos q.2; omega
    array_get_dec
    refine ⟨_,CJ hk,?_⟩
    array_get_dec
    have p1:2 ^ q.2<=16:=Xk (n:=2) (j:=4) (by decide) (by omega)
    refine ⟨⟨p0,by omega⟩,lY (λhb=>?_) (λhb=>?_)⟩
    ·array_get_dec
     exact hy hb
    ·exact hn' hb
   ·rw[show (xs.zipIdx.filter λq=>decide (a / 2 ^ q.2 % 2=1)).map (λq=>Aw q.1)=(Pn xs a).map Aw by have:=pX a xs 0; rw[Nat.pow_zero,Nat.div_one] at this; rw[<- this,Cr]; rfl]
    array_get_dec
    refine K2 (l:=xs) (g:=Aw) rfl (λj=>decide (j∉Pn xs a)) Aw (λj hj yes no hy hn'=>?_) ?_
    ·array_get_dec
     refine lY (λhb=>?_) (λhb=>?_)
     ·array_get_dec
      exact hy (by simpa using hb)
     ·exact hn' (by simpa using hb)
    ·array_get_dec
     refine ⟨.int ((2 ^ xs.length:Nat):Int),by rw[Ad]; exact N9 lx,?_⟩
     array_get_dec
     refine eO (λhb=>?_) (λhb=>?_)
     ·have ha2:a<2 ^ xs.length:=by have:=of_decide_eq_true hb; omega
      have is:=Tu xs a
      array_get_dec
      refine ⟨h,L,Gg deck,Pn xs a,xs.filter λj=>decide (j∉Pn xs a),rfl,by omega,h1,d.pe,d.po,⟨rx.1.sublist is,λx hx=>rx.2 x (is.subset hx)⟩,λq hq=>rx.2 q (Iw.mp hq).1,?_⟩
      rw[oX deck _ _ rfl (nx.sublist List.filter_sublist)]
      array_get_dec
      rw[xZ nx ha2]
      exact ⟨_,_,_,rfl,Ir,Ir,Ir⟩
     ·have ha2:2 ^ xs.length<=a:=by have:=of_decide_eq_false hb; omega
      array_get_dec
      rw[Zv ha2,Zv (i:=a+1) (Nat.le_succ_of_le ha2)]
      exact ⟨_,_,_,rfl,Ir,Ir,Ir⟩
  ·rintro _ ⟨v6,v7,v8,rfl,hv6,hv7,hv8⟩
   rw[Cq,Zv p32]
   array_get_dec
   rw[Ad,decide_eq_true rfl]
   array_get_dec
   refine ⟨h,L,Gg deck,xs,[],rfl,by omega,h1,d.pe,d.po,rx,λ_ z=>(nomatch z),?_⟩
   array_get_dec
   refine ⟨deck,xs,rfl,by omega,?_⟩
   array_get_dec
   rw[Ad,mX,show Lk [] (Gg deck) xs=Gg deck xs from rfl,decide_eq_true rfl]
   exact ⟨by omega,hR⟩
end
open DRow
theorem wV{α β:Type}(f:α->β)(l:List α)(k:Nat)(x:α):Mw (l.map f) k (f x)=(Mw l k x).map f:=by
 unfold Mw
 rw[Bo,Ap,List.map_take,List.map_drop]
theorem rR{α:Type}(l:List α)(k:Nat)(x:α):(Mw l k x).Perm (x::l):=by
 unfold Mw
 refine Eb.trans ?_
 rw[Fw]
section
variable{P:Bk}{w:World}{K:PySem.W.Frag}{mg:Str->Option Value}{base:Heap}
theorem Ry:FnScope ["_law_draws_here", "_law_holes", "_law_words_here", "_law_deck_here", "_law_numbers", "_law_turned", "_law_k", "_law_other", "_law_due"] ["_law_draws_here", "_law_holes", "_law_words_here", "_law_deck_here", "_law_numbers"] (Bv Eg):=⟨rfl,rfl,rfl,by decide +kernel,rfl,by decide +kernel,by decide +kernel⟩
theorem Sj{f f_counts f_L_next  : Addr}{fd d_counts d_L_next:Cs}(F:Fun K "_law_numbered_right" "_law_numbered_right" Eg f fd)(G_counts:FnOk P w K mg base Hv 3 f_counts d_counts ["holes", "deck"] (Rz K (Ur)))(b_counts:Binds K d_counts ["holes", "deck"] [])(k_counts:PySem.W.keepIn K (.ref f_counts)=true)(m_counts:mg "counts" = some (.ref f_counts))(G_L_next:FnOk P w K mg base Hv 1 f_L_next d_L_next ["_law_draws_here"] (cN K Wt))(b_L_next:Binds K d_L_next ["_law_draws_here"] [])(k_L_next:PySem.W.keepIn K (.ref f_L_next)=true)(m_L_next:mg "_law_next" = some (.ref f_L_next))(mz_range:mg "range" = none)(mz_sorted:mg "sorted" = none)(mz_tuple:mg "tuple" = none)(mz_dict:mg "dict" = none)(mz_zip:mg "zip" = none):FnOk P w K mg base Hv 4 f fd ["_law_draws_here", "_law_holes", "_law_words_here", "_law_deck_here", "_law_numbers"] (cN K (eS)):=by
 refine' Vo (k:=3) F Ry (λcdv A outer s H E hr=>?hb) ?h
 case hb =>
  have hr1:Room 1 _:=hr.mono (by decide)
  have hr2:Room 2 _:=hr.mono (by decide)
  have hr3:Room 3 _:=hr.mono (by decide)
  have hu64:=hr.units
  have CS1:∀{scope:Scope} (h:scope={ kind:=.function,names:=[(".0",.local),("_law_card",.local),("tuple",.globalImplicit),("sorted",.globalImplicit),("_law_turned",.free)],isGenerator:=false,isCoroutine:=false }),
    CompScope (Nc Hv P w K mg base ["_law_draws_here", "_law_holes", "_law_words_here", "_law_deck_here", "_law_numbers", "_law_turned", "_law_k", "_law_other", "_law_due"] "_law_numbered_right" (Bv Eg) f cdv A outer s H E).nox scope [("_law_turned",s.heap.objs.size+1)] "_law_card" ["_law_turned"] [5]:=by
   w_pre s
  have CS2:∀{scope:Scope} (h:scope={ kind:=.function,names:=[(".0",.local),("_law_place",.local),("_law_turned",.free)],isGenerator:=false,isCoroutine:=false }) (fp0:List Addr) (s0:Ai) (H0:Hp),
    CompScope (Dh (Nc Hv P w K mg base ["_law_draws_here", "_law_holes", "_law_words_here", "_law_deck_here", "_law_numbers", "_law_turned", "_law_k", "_law_other", "_law_due"] "_law_numbered_right" (Bv Eg) f cdv A outer s H E).nox { kind:=.function,names:=[(".0",.local),("_law_card",.local),("tuple",.globalImplicit),("sorted",.globalImplicit),("_law_turned",.free)],isGenerator:=false,isCoroutine:=false } [("_law_turned",s.heap.objs.size+1)] ["_law_card", "_law_turned"] fp0 s0 H0) scope [("_law_turned",s.heap.objs.size+1)] "_law_place" ["_law_turned"] [1]:=by
   w_pre t
  have CS3:∀{scope:Scope} (h:scope={ kind:=.function,names:=[(".0",.local),("_law_word",.local),("tuple",.globalImplicit),("sorted",.globalImplicit),("_law_turned",.free)],isGenerator:=false,isCoroutine:=false }),
    CompScope (Nc Hv P w K mg base ["_law_draws_here", "_law_holes", "_law_words_here", "_law_deck_here", "_law_numbers", "_law_turned", "_law_k", "_law_other", "_law_due"] "_law_numbered_right" (Bv Eg) f cdv A outer s H E).nox scope [("_law_turned",s.heap.objs.size+1)] "_law_word" ["_law_turned"] [5]:=by
   w_pre s
  have CS4:∀{scope:Scope} (h:scope={ kind:=.function,names:=[(".0",.local),("_law_place",.local),("_law_turned",.free)],isGenerator:=false,isCoroutine:=false }) (fp0:List Addr) (s0:Ai) (H0:Hp),
    CompScope (Dh (Nc Hv P w K mg base ["_law_draws_here", "_law_holes", "_law_words_here", "_law_deck_here", "_law_numbers", "_law_turned", "_law_k", "_law_other", "_law_due"] "_law_numbered_right" (Bv Eg) f cdv A outer s H E).nox { kind:=.function,names:=[(".0",.local),("_law_word",.local),("tuple",.globalImplicit),("sorted",.globalImplicit),("_law_turned",.free)],isGenerator:=false,isCoroutine:=false } [("_law_turned",s.heap.objs.size+1)] ["_law_word", "_law_turned"] fp0 s0 H0) scope [("_law_turned",s.heap.objs.size+1)] "_law_place" ["_law_turned"] [1]:=by
   w_pre t
  have CS5:∀{scope:Scope} (h:scope={ kind:=.function,names:=[(".0",.local),("_law_word",.local),("_law_due",.free)],isGenerator:=false,isCoroutine:=false }),
    CompScope (Nc Hv P w K mg base ["_law_draws_here", "_law_holes", "_law_words_here", "_law_deck_here", "_law_numbers", "_law_turned", "_law_k", "_law_other", "_law_due"] "_law_numbered_right" (Bv Eg) f cdv A outer s H E).nox scope [("_law_due",s.heap.objs.size+2)] "_law_word" ["_law_due"] [8]:=by
   w_pre s
  exact Ck (Su (i:=5) Ry.nd rfl (Zb rfl) (Lf Bb))
   (Ck (Ni Es rfl (Lx rfl mz_range (An (Aq (pv 1)) Bb)) (Js (i:=6) Ry.nd rfl (Dr rfl))
   (Dt (xH (pv 5) (Nf (Il G_L_next hr1 rfl m_L_next k_L_next b_L_next Fu (pv 0) Bb) (Uq (Aq (pv 6)) Dn)) (Aq (pv 6)))))
   (Ck (U6 (o:=false) (i0:=7) Ry.nd rfl rfl (CS1 rfl) rfl (M3 (Aq (pv 3))) (λ_ _ _=>Jf) (λ_ _ _=>Jg Rh (Rj (i:=true)) rfl mz_tuple (by decide +kernel) (An (Ha Xn nK rfl mz_sorted (by decide +kernel) (An (Np (CS2 rfl _ _ _) rfl (EK (Aq (pv 0))) (λ_ _ _=>Jf) (λ_ _ _=>Mj (Aq (pv 1)) (Aq (pv 0)))) Bb)) Bb)))
   (Ck (Fj (i:=8) Ry.nd rfl (Zb rfl) (G8 hu64 rfl mz_dict rfl mz_zip rfl (An (Np (CS3 rfl) rfl (M3 (Aq (pv 2))) (λ_ _ _=>Jf) (λ_ _ _=>Jg Rh (Rj (i:=true)) rfl mz_tuple (by decide +kernel) (An (Ha Xn nK rfl mz_sorted (by decide +kernel) (An (Np (CS4 rfl _ _ _) rfl (EK (Aq (pv 0))) (λ_ _ _=>Jf) (λ_ _ _=>Mj (Aq (pv 1)) (Aq (pv 0)))) Bb)) Bb))) (An (Aq (pv 4)) Bb))))
   (Dt (Gd (aT hu64 (Fs G_counts hr3 rfl m_counts k_counts b_counts Fu (An (Aq (pv 1)) (An (Aq (pv 7)) Bb))) (Np (CS5 rfl) rfl (M3 (Aq (pv 2))) (λ_ _ _=>Jf) (λ_ _ _=>bZ hu64 (Aq (pv 1)) (Aq (pv 0))))))))))
 case h =>
  rintro ds n R ⟨h,L,deck,rfl,d,hn,hR⟩
  w_pre y0
  have nd:=Nu d.pe
  have ll:=(Vk (n:=h.toNat) (by omega) d.pe).1
  have hm:=λw=>(Na (w:=w) d.pe)
  unfold i5 Kh
  array_get_dec
  refine ⟨by omega,by omega,?_⟩
  refine Zx (l:=Cc h.toNat) (g:=λi:Nat=>.int i) rfl (λi δ=>∃(T:List Int) (v6 v7 v8:DV),δ=⟨[.drw,.dat .sh (.int h),.dat .sh (.list (L.map Bf)),.dat .sh (.list (deck.map Bf)),.dat .sh (.list ((L.map (Gg deck)).map Aw)),.dat .ow (.list (T.map Aw)),v6,v7,v8],n+i⟩/\T.Perm (Kz i)/\NP v6/\NP v7/\NP v8) ?_ ?_ ?_
  ·exact ⟨[],_,_,_,rfl,Gi _,Mv,Mv,Mv⟩
  ·rintro i a _ ha ⟨T,v6,v7,v8,rfl,pT,hv6,hv7,hv8⟩
   w_pre b9
   have lT:T.length=a:=by rw[pT.length_eq]; unfold Kz; rw[Ad,Cq]
   array_get_dec
   refine ⟨rfl,by omega,λr1=>?_⟩
   have b1:=Wn r1 (b:=(a:Int)+1) (by omega)
   array_get_dec
   refine ⟨by omega,by simp [npk,hv7 _,hv8 _],by rw[Ad]; omega,by omega,by omega,?_⟩
   refine ⟨Mw T (r1 % ((a:Int)+1)).toNat (a:Int),.dat .sh (.int a),v7,v8,Wf (by rw[wV]) rfl,?_,Ir,hv7,hv8⟩
   rw[xW]
   exact (rR T _ _).trans (((El (l₁:=[(a:Int)]) (l₂:=T))).trans (pT.append_right _))
  ·rintro _ ⟨T,v6,v7,v8,rfl,pT,hv6,hv7,hv8⟩
   rw[Cq] at pT ⊢
   have pm:Pm h.toNat T:=⟨by rw[pT.length_eq]; unfold Kz; rw[Ad,Cq],pT⟩
   array_get_dec
   have comp1:∀c:List Int,Do (h.toNat:Int) c->∀i∈c,Wq (T.map Aw) i=some (.int (kW T i)):=λc hc i hi=>by
    have r:=hc.2 i hi
    obtain ⟨_,_,e⟩:=pm.ran r.1 r.2
    have:=oS (l:=T.map Aw) (i:=i.toNat) (a:=.int (kW T i)) (by rw[Bg,e]; rfl)
    rwa [Int.toNat_of_nonneg r.1] at this
   refine Yt (l:=deck) (g:=Bf) rfl (λc=>Bf (bL T c)) (λc hc yes no hy=>?_) ?_
   ·have rc:=d.rd c hc
    have lc:=Wv (rc.up (show ((h.toNat:Nat):Int)<=60 by omega))
    array_get_dec
    refine Yt (l:=c) (g:=Aw) rfl (λi=>.int (kW T i)) (λi hi' yes' no' hy'=>?_) ?_
    ·array_get_dec
     exact ⟨_,comp1 c rc i hi',rfl,hy'⟩
    ·array_get_dec
     w_pre z9
   ·array_get_dec
    refine Yt (l:=L) (g:=Bf) rfl (λc=>Bf (bL T c)) (λc hc yes no hy=>?_) ?_
    ·have rc:=(hm c).mp hc
     have lc:=Wv (rc.up (show ((h.toNat:Nat):Int)<=60 by omega))
     array_get_dec
     refine Yt (l:=c) (g:=Aw) rfl (λi=>.int (kW T i)) (λi hi' yes' no' hy'=>?_) ?_
     ·array_get_dec
      exact ⟨_,comp1 c rc i hi',rfl,hy'⟩
     ·array_get_dec
      w_pre z9
    ·have ij:∀u∈L,∀v∈L,bL T u=bL T v->u=v:=λu hu v hv e=>pm.wordInj ((hm u).mp hu) ((hm v).mp hv) e
     array_get_dec
     refine ⟨by rw[Ad]; omega,L.map (bL T),by rw[Cr]; rfl,?_⟩
     rw[B2 (Xy nd ij),show deck.map (λc=>Bf (bL T c))=(deck.map (bL T)).map Bf by rw[Cr]; rfl]
     refine ⟨h,deck.map (bL T),rfl,by omega,h1,λc hc=>?_,λL' pe' po'=>?_⟩
     ·obtain ⟨u,hu,rfl⟩:=Dc.mp hc
      have:=pm.word (d.rd u hu)
      rwa [en] at this
     w_pre p6
     array_get_dec
     refine Yt (l:=L') (g:=Bf) rfl (λw=>.int (Gg (deck.map (bL T)) w)) (λw hw yes no hy=>?_) ?_
     ·obtain ⟨v,rv,rfl⟩:=pm.back ((hm w).mp hw)
      have vL:=(hm v).mpr rv
      have e1:=uM (k:=bL T) (f:=Gg deck) vL λu hu e=>ij u hu v vL e
      rw[pm.cnt d.rd rv] at hy
      array_get_dec
      exact ⟨_,e1,rfl,hy⟩
     ·rw[show L'.map (λw=>Aw (Gg (deck.map (bL T)) w))=(L'.map (Gg (deck.map (bL T)))).map Aw by rw[Cr]; rfl]
      array_get_dec
      exact ⟨by omega,hR⟩
end
open DRow
section
variable{P:Bk}{w:World}{K:PySem.W.Frag}{mg:Str->Option Value}{base:Heap}
theorem CG:FnScope ["_law_script", "_law_cell", "_law_draws_here", "_law_holes", "_law_words_here", "_law_deck_here", "_law_other", "_law_numbers", "_law_others"] ["_law_script"] (Bv lP):=⟨rfl,rfl,rfl,by decide +kernel,rfl,by decide +kernel,by decide +kernel⟩
theorem BV{f f_counts f_deck_of f_L_draws f_L_words f_L_few f_L_deck f_L_added f_L_back_right f_L_parted_right f_L_numbered_right f_L_one_less  : Addr}{fd d_counts d_deck_of d_L_draws d_L_words d_L_few d_L_deck d_L_added d_L_back_right d_L_parted_right d_L_numbered_right d_L_one_less:Cs}(F:Fun K "law" "law" lP f fd)(G_counts:FnOk P w K mg base Hv 3 f_counts d_counts ["holes", "deck"] (Rz K (Ur)))(b_counts:Binds K d_counts ["holes", "deck"] [])(k_counts:PySem.W.keepIn K (.ref f_counts)=true)(m_counts:mg "counts" = some (.ref f_counts))(G_deck_of:FnOk P w K mg base Hv 4 f_deck_of d_deck_of ["holes", "numbers"] (Rz K (eL)))(b_deck_of:Binds K d_deck_of ["holes", "numbers"] [])(k_deck_of:PySem.W.keepIn K (.ref f_deck_of)=true)(m_deck_of:mg "deck_of" = some (.ref f_deck_of))(G_L_draws:FnOk P w K mg base Hv 1 f_L_draws d_L_draws ["_law_cell"] (Ye))(b_L_draws:Binds K d_L_draws ["_law_cell"] [])(k_L_draws:PySem.W.keepIn K (.ref f_L_draws)=true)(m_L_draws:mg "_law_draws" = some (.ref f_L_draws))(G_L_words:FnOk P w K mg base Hv 1 f_L_words d_L_words ["_law_holes"] (Rz K (cA)))(b_L_words:Binds K d_L_words ["_law_holes"] [])(k_L_words:PySem.W.keepIn K (.ref f_L_words)=true)(m_L_words:mg "_law_words" = some (.ref f_L_words))(G_L_few:FnOk P w K mg base Hv 2 f_L_few d_L_few ["_law_draws_here"] (cN K (Z3)))(b_L_few:Binds K d_L_few ["_law_draws_here"] [])(k_L_few:PySem.W.keepIn K (.ref f_L_few)=true)(m_L_few:mg "_law_few" = some (.ref f_L_few))(G_L_deck:FnOk P w K mg base Hv 3 f_L_deck d_L_deck ["_law_draws_here", "_law_holes", "_law_limit"] (cN K (j6)))(b_L_deck:Binds K d_L_deck ["_law_draws_here", "_law_holes", "_law_limit"] [])(k_L_deck:PySem.W.keepIn K (.ref f_L_deck)=true)(m_L_deck:mg "_law_deck" = some (.ref f_L_deck))(G_L_added:FnOk P w K mg base Hv 1 f_L_added d_L_added ["_law_numbers", "_law_others"] (Rz K (vA)))(b_L_added:Binds K d_L_added ["_law_numbers", "_law_others"] [])(k_L_added:PySem.W.keepIn K (.ref f_L_added)=true)(m_L_added:mg "_law_added" = some (.ref f_L_added))(G_L_back_right:FnOk P w K mg base Hv 5 f_L_back_right d_L_back_right ["_law_holes", "_law_words_here", "_law_deck_here", "_law_numbers"] (Rz K (K5)))(b_L_back_right:Binds K d_L_back_right ["_law_holes", "_law_words_here", "_law_deck_here", "_law_numbers"] [])(k_L_back_right:PySem.W.keepIn K (.ref f_L_back_right)=true)(m_L_back_right:mg "_law_back_right" = some (.ref f_L_back_right))(G_L_parted_right:FnOk P w K mg base Hv 5 f_L_parted_right d_L_parted_right ["_law_draws_here", "_law_holes", "_law_deck_here", "_law_numbers"] (cN K (qJ)))(b_L_parted_right:Binds K d_L_parted_right ["_law_draws_here", "_law_holes", "_law_deck_here", "_law_numbers"] [])(k_L_parted_right:PySem.W.keepIn K (.ref f_L_parted_right)=true)(m_L_parted_right:mg "_law_parted_right" = some (.ref f_L_parted_right))(G_L_numbered_right:FnOk P w K mg base Hv 4 f_L_numbered_right d_L_numbered_right ["_law_draws_here", "_law_holes", "_law_words_here", "_law_deck_here", "_law_numbers"] (cN K (eS)))(b_L_numbered_right:Binds K d_L_numbered_right ["_law_draws_here", "_law_holes", "_law_words_here", "_law_deck_here", "_law_numbers"] [])(k_L_numbered_right:PySem.W.keepIn K (.ref f_L_numbered_right)=true)(m_L_numbered_right:mg "_law_numbered_right" = some (.ref f_L_numbered_right))(G_L_one_less:FnOk P w K mg base Hv 4 f_L_one_less d_L_one_less ["_law_draws_here", "_law_holes", "_law_words_here", "_law_deck_here", "_law_numbers"] (cN K (i9)))(b_L_one_less:Binds K d_L_one_less ["_law_draws_here", "_law_holes", "_law_words_here", "_law_deck_here", "_law_numbers"] [])(k_L_one_less:PySem.W.keepIn K (.ref f_L_one_less)=true)(m_L_one_less:mg "_law_one_less" = some (.ref f_L_one_less))(mz_min:mg "min" = none)(mz_list:mg "list" = none)(mz_sorted:mg "sorted" = none):FnOk P w K mg base Hv 6 f fd ["_law_script"] (spLawD K):=by
 refine' BD (k:=5) F CG (λcdv A outer s H E hr=>?hb) ?h
 case hb =>
  have hr1:Room 1 _:=hr.mono (by decide)
  have hr2:Room 2 _:=hr.mono (by decide)
  have hr3:Room 3 _:=hr.mono (by decide)
  have hr4:Room 4 _:=hr.mono (by decide)
  have hr5:Room 5 _:=hr.mono (by decide)
  have hu64:=hr.units
  exact Ck (Ni Es rfl (M3 (Zs (zV (pv 0) Xp (Yu Dn)) (Lf (An Dn Bb)))) (Js (i:=1) CG.nd rfl (Dr rfl))
   (Ck (Fj (i:=2) CG.nd rfl (Dr rfl) (w4 G_L_draws hr1 rfl m_L_draws k_L_draws b_L_draws Fu (An (Aq (pv 1)) Bb)))
    (Ck (Fj (i:=3) CG.nd rfl (Dr rfl) (Ha (xN rfl) U3 rfl mz_min (by decide +kernel) (An Dn (An (Il G_L_few hr2 rfl m_L_few k_L_few b_L_few Fu (pv 2) Bb) Bb))))
    (Ck (Fj (i:=4) CG.nd rfl (Dr rfl) (Fs G_L_words hr1 rfl m_L_words k_L_words b_L_words Fu (An (Aq (pv 3)) Bb)))
    (Ck (Fj (i:=5) CG.nd rfl (Dr rfl) (Il G_L_deck hr3 rfl m_L_deck k_L_deck b_L_deck Fu (pv 2) (An (Aq (pv 3)) (An Dn Bb))))
    (Ck (Fj (i:=6) CG.nd rfl (Dr rfl) (Il G_L_deck hr3 rfl m_L_deck k_L_deck b_L_deck Fu (pv 2) (An (Aq (pv 3)) (An Dn Bb))))
    (Ck (Fj (i:=7) CG.nd rfl (Dr rfl) (Fs G_counts hr3 rfl m_counts k_counts b_counts Fu (An (Aq (pv 3)) (An (Jg kG (lS (i:=true)) rfl mz_list (by decide +kernel) (An (Aq (pv 5)) Bb)) Bb))))
    (Ck (Ph (lK (eH (Fs G_L_back_right hr5 rfl m_L_back_right k_L_back_right b_L_back_right Fu (An (Aq (pv 3)) (An (Aq (pv 4)) (An (Aq (pv 5)) (An (Aq (pv 7)) Bb)))))))
    (Dt (Gd Xz)) Mm)
    (Ck (Fj (i:=8) CG.nd rfl (Dr rfl) (Fs G_counts hr3 rfl m_counts k_counts b_counts Fu (An (Aq (pv 3)) (An (Jg kG (lS (i:=true)) rfl mz_list (by decide +kernel) (An (Aq (pv 6)) Bb)) Bb))))
    (Ck (Ph (dS hu64 (Fs G_counts hr3 rfl m_counts k_counts b_counts Fu (An (Aq (pv 3)) (An (Zs (Aq (pv 5)) (Aq (pv 6))) Bb))) (Fs G_L_added hr1 rfl m_L_added k_L_added b_L_added Fu (An (Aq (pv 7)) (An (Aq (pv 8)) Bb))))
    (Dt (Gd Xz)) Mm)
    (Ck (Ph (dS hu64 (Fs G_deck_of hr4 rfl m_deck_of k_deck_of b_deck_of Fu (An (Aq (pv 3)) (An (Fs G_L_added hr1 rfl m_L_added k_L_added b_L_added Fu (An (Aq (pv 7)) (An (Aq (pv 8)) Bb))) Bb))) (Og (An jG (An (Ha (Ts.call_sortedI hu64) Yv rfl mz_sorted (by decide +kernel) (An (Zs (Aq (pv 5)) (Aq (pv 6))) Bb)) Bb))))
    (Dt (Gd Xz)) Mm)
    (Ck (Ph (lK (eH (Il G_L_parted_right hr5 rfl m_L_parted_right k_L_parted_right b_L_parted_right Fu (pv 2) (An (Aq (pv 3)) (An (Aq (pv 5)) (An (Aq (pv 7)) Bb))))))
    (Dt (Gd Xz)) Mm)
    (Ck (Ph (lK (eH (Il G_L_numbered_right hr4 rfl m_L_numbered_right k_L_numbered_right b_L_numbered_right Fu (pv 2) (An (Aq (pv 3)) (An (Aq (pv 4)) (An (Aq (pv 5)) (An (Aq (pv 7)) Bb)))))))
    (Dt (Gd Xz)) Mm)
    (Dt (Ph (lK (eH (Il G_L_one_less hr4 rfl m_L_one_less k_L_one_less b_L_one_less Fu (pv 2) (An (Aq (pv 3)) (An (Aq (pv 4)) (An (Aq (pv 5)) (An (Aq (pv 7)) Bb)))))))
    (Dt (Gd Xz)) Mm)))))))))))))))
   (Dt (Gd Xz))
 case h =>
  intro ns h63
  array_get_dec
  have lc:(Mi ns none (some 2)).length<=2:=HZ 2
  refine ⟨by rw[Ad]; omega,?_⟩
  refine Zx (l:=Mi ns none (some 2)++[0]) (g:=Aw) (by rw[Bo]; rfl) (λi δ=>∃(l:List DV) (n':Nat),δ=⟨.scr ns::l,n'⟩/\l.length=8/\(∀v∈l,NP v)/\n'<=1000 * i) ?_ ?_ ?_
  ·exact ⟨_,_,rfl,rfl,by simp [Mv],by omega⟩
  ·rintro i c _ hc ⟨l,n0,rfl,hl,hv,hn⟩
   have hi:i<3:=by
    have:=(Ax.mp hc).1
    rw[Bn,Kt] at this
    omega
   match l,hl with
   | [v1,v2,v3,v4,v5,v6,v7,v8],_ =>
   simp only[List.forall_mem_cons] at hv
   obtain ⟨hv1,hv2,hv3,hv4,hv5,hv6,hv7,hv8,-⟩:=hv
   array_get_dec
   refine ⟨rfl,by omega,λh2 h3 h4=>?_⟩
   array_get_dec
   obtain ⟨h,eh,h0,h1⟩ : ∃h:Int,(if h2<7 then h2 else 7)=h/\0<h/\h<=10:=⟨_,rfl,by split <;> omega,by split <;> omega⟩
   rw[eh]
   refine ⟨h,rfl,by omega,h1,λL pe po=>?_⟩
   have nd:=Nu pe
   have ll:=(Vk (n:=h.toNat) (by omega) pe).1
   array_get_dec
   refine ⟨h,24,rfl,h0,h1,by decide,by decide,by omega,λdeck n1 k1 k2 ld hd=>?_⟩
   array_get_dec
   refine ⟨h,24,rfl,h0,h1,by decide,by decide,by omega,λother n2 k3 k4 ld2 hd2=>?_⟩
   array_get_dec
   have dk:Dk h L deck:=⟨h0,h1,pe,po,by omega,hd⟩
   have hda:∀c∈deck++other,Do h c:=λc hc=>(Bc.mp hc).elim (hd c) (hd2 c)
   refine ⟨h,deck,rfl,by omega,h1,hd,λL2 pe2 po2=>?_⟩
   obtain rfl:L2=L:=Ko (pe2.trans pe.symm) po2 po
   refine ⟨h,L2,deck,rfl,dk,?_⟩
   array_get_dec
   refine ⟨h,other,rfl,by omega,h1,hd2,λL3 pe3 po3=>?_⟩
   obtain rfl:L3=L2:=Ko (pe3.trans pe.symm) po3 po
   unfold Kh
   array_get_dec
   refine ⟨by rw[Ad,Ad]; omega,?_⟩
   rw[<- Bo]
   refine ⟨h,deck++other,rfl,by omega,h1,hda,λL4 pe4 po4=>?_⟩
   obtain rfl:L4=L3:=Ko (pe4.trans pe.symm) po4 po
   w_pre m7
   unfold Kh
   array_get_dec
   have dk2:Dk h L4 (deck++other):=⟨h0,h1,pe,po,by rw[Bn]; omega,hda⟩
   obtain ⟨t1,t2⟩:=dk2.told
   have dp_:=dJ pe dk2.rd
   have dl:=dp_.length_eq
   rw[Bn] at dl
   w_pre m7
   refine ⟨h,L4,Gg (deck++other),rfl,by omega,h1,pe,po,λ_=>⟨by rw[t2,Ad,dl]; omega,?_⟩,λw hw hneg=>absurd (t1 w hw) (by omega)⟩
   rw[t2]
   array_get_dec
   refine ⟨by rw[Ad,Ad]; omega,deck++other,by rw[Bo],λD pD oD=>?_⟩
   obtain rfl:D=On L4 (Ny (deck++other)):=Ko (pD.trans dp_.symm) oD (iI po)
   have e:Em (.tuple [.str (Ds "deck"),.list ((On L4 (Ny (deck++other))).map Bf)]) (.tuple [.str (Ds "deck"),.list ((On L4 (Ny (deck++other))).map Bf)])=true:=by
    rw[jQ,Vj,Vj,mV,F6,decide_eq_true rfl,vB]
    rfl
   rw[e]
   array_get_dec
   refine ⟨h,L4,deck,rfl,dk,by omega,?_⟩
   array_get_dec
   refine ⟨h,L4,deck,rfl,dk,by omega,?_⟩
   array_get_dec
   refine ⟨h,L4,deck,rfl,dk,by omega,λn' q1 q2=>?_⟩
   array_get_dec
   exact ⟨_,_,rfl,rfl,by simp only[List.forall_mem_cons]; exact ⟨Ir,BB,Ir,Ir,Ir,Ir,Ir,Ir,EA⟩,by omega⟩
  ·rintro _ ⟨l,n0,rfl,hl,hv,hn⟩
   array_get_dec
end
end K54
namespace K54
open PySem L2 Nd DL
structure Def(K:PySem.W.Frag)(x:Str)(st:Stmt)(f:Addr)(fd:Cs):Prop where
 nm:PySem.W.nsIn K Dl x=some (some (.ref f))
 fn:Fun K x x st f fd
theorem def_mk{K:PySem.W.Frag}{x:Str}{st:Stmt}{f:Addr}{od an:Option Addr}{sl:Array (Option Value)}{oc kV dc pm cd ct:Value}(a:PySem.W.nsIn K Dl x=some (some (.ref f)))(l:K.lookup f=some ⟨oc,od,.func (PySem.W.fnOf x x (Qj st) (Ky st) (Bv st) .none kV dc pm an cd ct),sl⟩)(c:PySem.W.codeIn K cd x=true)(k:PySem.W.keepIn K (.ref f)=true):Def K x st f (PySem.W.fnOf x x (Qj st) (Ky st) (Bv st) .none kV dc pm an cd ct):=⟨a,E8 l c k⟩
theorem all_mk{l:PySem.W.OpenLaw}{w:World}{K:PySem.W.Frag}{h:Heap}{mg:Str->Option Value}{fa f1 f2 f3 f4 f5 f6 f7 f8 f9 f10 f11 f12 f13 f14 f15 f16 f17 f18 f19 f20 f21 f22 f23:Addr}{d1 d2 d3 d4 d5 d6 d7 d8 d9 d10 d11 d12 d13 d14 d15 d16 d17 d18 d19 d20 d21 d22:Cs}(X:K.In h)(G:h.Ns Dl mg)(hfa:mg "law" = some (.ref fa)){od an:Option Addr}{sl:Array (Option Value)}{oc kV dc pm cd ct:Value}(D1:Def K "_law_draws" jR f1 d1)(D2:Def K "_law_next" uT f2 d2)(D3:Def K "within" Ya f3 d3)(D4:Def K "together" Sv f4 d4)(D5:Def K "all_words" Ql f5 d5)(D6:Def K "_law_words" Ow f6 d6)(D7:Def K "_law_small" Sm f7 d7)(D8:Def K "_law_few" Xa f8 d8)(D9:Def K "_law_lies" Qm f9 d9)(D10:Def K "order_of" Sh f10 d10)(D11:Def K "put_to" Yj f11 d11)(D12:Def K "parted_by" Tz f12 d12)(D13:Def K "counts" eU f13 d13)(D14:Def K "just" sY f14 d14)(D15:Def K "_law_deck" Ue f15 d15)(D16:Def K "deck_of" Vq f16 d16)(D17:Def K "needled" aE f17 d17)(D18:Def K "_law_added" Ox f18 d18)(D19:Def K "_law_back_right" Ml f19 d19)(D20:Def K "_law_one_less" Jv f20 d20)(D21:Def K "_law_parted_right" Hi f21 d21)(D22:Def K "_law_numbered_right" Eg f22 d22)(aL:PySem.W.nsIn K Dl "law" = some (some (.ref f23)))(lL:K.lookup f23=some ⟨oc,od,.func (PySem.W.fnOf "law" "law" (Qj lP) (Ky lP) (Bv lP) .none kV dc pm an cd ct),sl⟩)(cL:PySem.W.codeIn K cd "law" = true)(kL:PySem.W.keepIn K (.ref f23)=true)(z1:PySem.W.nsIn K Dl "all" = some none)(z2:PySem.W.nsIn K Dl "tuple" = some none)(z3:PySem.W.nsIn K Dl "sorted" = some none)(z4:PySem.W.nsIn K Dl "set" = some none)(z5:PySem.W.nsIn K Dl "range" = some none)(z6:PySem.W.nsIn K Dl "int" = some none)(z7:PySem.W.nsIn K Dl "enumerate" = some none)(z8:PySem.W.nsIn K Dl "zip" = some none)(z9:PySem.W.nsIn K Dl "len" = some none)(z10:PySem.W.nsIn K Dl "list" = some none)(z11:PySem.W.nsIn K Dl "dict" = some none)(z12:PySem.W.nsIn K Dl "min" = some none):∃fd:Cs,(∀(s:Ai) (v:Value),BindsTo s fd ⟨[v],[]⟩ [("_law_script",v)])/\∀base:Heap,K.In base->base.Ns Dl mg->FnOk l.prog w K mg base Hv 6 fa fd ["_law_script"] (DL.spLawD K):=by
 have e:=hfa.symm.trans (PySem.W.mg_of X G aL)
 cases e
 have FL:=E8 (st:=lP) lL cL kL
 have b1:=D1.fn.binds (ps:=["_law_cell"]) λ_ _ _ _ _ _ us hl=>match us,hl with | [_],_=>rfl
 have b2:=D2.fn.binds (ps:=["_law_draws_here"]) λ_ _ _ _ _ _ us hl=>match us,hl with | [_],_=>rfl
 have b3:=D3.fn.binds (ps:=["one", "other"]) λ_ _ _ _ _ _ us hl=>match us,hl with | [_,_],_=>rfl
 have b4:=D4.fn.binds (ps:=["one", "other"]) λ_ _ _ _ _ _ us hl=>match us,hl with | [_,_],_=>rfl
 have b5:=D5.fn.binds (ps:=["holes"]) λ_ _ _ _ _ _ us hl=>match us,hl with | [_],_=>rfl
 have b6:=D6.fn.binds (ps:=["_law_holes"]) λ_ _ _ _ _ _ us hl=>match us,hl with | [_],_=>rfl
 have b7:=D7.fn.binds (ps:=["_law_draws_here", "_law_holes"]) λ_ _ _ _ _ _ us hl=>match us,hl with | [_,_],_=>rfl
 have b8:=D8.fn.binds (ps:=["_law_draws_here"]) λ_ _ _ _ _ _ us hl=>match us,hl with | [_],_=>rfl
 have b9:=D9.fn.binds (ps:=["_law_one", "_law_other"]) λ_ _ _ _ _ _ us hl=>match us,hl with | [_,_],_=>rfl
 have b10:=D10.fn.binds (ps:=["holes"]) λ_ _ _ _ _ _ us hl=>match us,hl with | [_],_=>rfl
 have b11:=D11.fn.binds (ps:=["numbers", "order", "place", "times"]) λ_ _ _ _ _ _ us hl=>match us,hl with | [_,_,_,_],_=>rfl
 have b12:=D12.fn.binds (ps:=["order", "numbers", "places"]) λ_ _ _ _ _ _ us hl=>match us,hl with | [_,_,_],_=>rfl
 have b13:=D13.fn.binds (ps:=["holes", "deck"]) λ_ _ _ _ _ _ us hl=>match us,hl with | [_,_],_=>rfl
 have b14:=D14.fn.binds (ps:=["holes", "numbers", "notched", "whole"]) λ_ _ _ _ _ _ us hl=>match us,hl with | [_,_,_,_],_=>rfl
 have b15:=D15.fn.binds (ps:=["_law_draws_here", "_law_holes", "_law_limit"]) λ_ _ _ _ _ _ us hl=>match us,hl with | [_,_,_],_=>rfl
 have b16:=D16.fn.binds (ps:=["holes", "numbers"]) λ_ _ _ _ _ _ us hl=>match us,hl with | [_,_],_=>rfl
 have b17:=D17.fn.binds (ps:=["deck", "needles"]) λ_ _ _ _ _ _ us hl=>match us,hl with | [_,_],_=>rfl
 have b18:=D18.fn.binds (ps:=["_law_numbers", "_law_others"]) λ_ _ _ _ _ _ us hl=>match us,hl with | [_,_],_=>rfl
 have b19:=D19.fn.binds (ps:=["_law_holes", "_law_words_here", "_law_deck_here", "_law_numbers"]) λ_ _ _ _ _ _ us hl=>match us,hl with | [_,_,_,_],_=>rfl
 have b20:=D20.fn.binds (ps:=["_law_draws_here", "_law_holes", "_law_words_here", "_law_deck_here", "_law_numbers"]) λ_ _ _ _ _ _ us hl=>match us,hl with | [_,_,_,_,_],_=>rfl
 have b21:=D21.fn.binds (ps:=["_law_draws_here", "_law_holes", "_law_deck_here", "_law_numbers"]) λ_ _ _ _ _ _ us hl=>match us,hl with | [_,_,_,_],_=>rfl
 have b22:=D22.fn.binds (ps:=["_law_draws_here", "_law_holes", "_law_words_here", "_law_deck_here", "_law_numbers"]) λ_ _ _ _ _ _ us hl=>match us,hl with | [_,_,_,_,_],_=>rfl
 have m1:=PySem.W.mg_of X G D1.nm
 have m2:=PySem.W.mg_of X G D2.nm
 have m3:=PySem.W.mg_of X G D3.nm
 have m4:=PySem.W.mg_of X G D4.nm
 have m5:=PySem.W.mg_of X G D5.nm
 have m6:=PySem.W.mg_of X G D6.nm
 have m7:=PySem.W.mg_of X G D7.nm
 have m8:=PySem.W.mg_of X G D8.nm
 have m9:=PySem.W.mg_of X G D9.nm
 have m10:=PySem.W.mg_of X G D10.nm
 have m11:=PySem.W.mg_of X G D11.nm
 have m12:=PySem.W.mg_of X G D12.nm
 have m13:=PySem.W.mg_of X G D13.nm
 have m14:=PySem.W.mg_of X G D14.nm
 have m15:=PySem.W.mg_of X G D15.nm
 have m16:=PySem.W.mg_of X G D16.nm
 have m17:=PySem.W.mg_of X G D17.nm
 have m18:=PySem.W.mg_of X G D18.nm
 have m19:=PySem.W.mg_of X G D19.nm
 have m20:=PySem.W.mg_of X G D20.nm
 have m21:=PySem.W.mg_of X G D21.nm
 have m22:=PySem.W.mg_of X G D22.nm
 have y1:=PySem.W.mg_none_of X G z1
 have y2:=PySem.W.mg_none_of X G z2
 have y3:=PySem.W.mg_none_of X G z3
 have y4:=PySem.W.mg_none_of X G z4
 have y5:=PySem.W.mg_none_of X G z5
 have y6:=PySem.W.mg_none_of X G z6
 have y7:=PySem.W.mg_none_of X G z7
 have y8:=PySem.W.mg_none_of X G z8
 have y9:=PySem.W.mg_none_of X G z9
 have y10:=PySem.W.mg_none_of X G z10
 have y11:=PySem.W.mg_none_of X G z11
 have y12:=PySem.W.mg_none_of X G z12
 refine ⟨PySem.W.fnOf "law" "law" (Qj lP) (Ky lP) (Bv lP) .none kV dc pm an cd ct,λs v=>.of_eq rfl,λbase _ _=>?_⟩
 have g1:=zC (P:=l.prog) (w:=w) (mg:=mg) (base:=base) D1.fn
 have g2:=u5 (P:=l.prog) (w:=w) (mg:=mg) (base:=base) D2.fn
 have g3:=xM (P:=l.prog) (w:=w) (mg:=mg) (base:=base) D3.fn y1
 have g4:=jF (P:=l.prog) (w:=w) (mg:=mg) (base:=base) D4.fn y2 y3 y4
 have g5:=jK (P:=l.prog) (w:=w) (mg:=mg) (base:=base) D5.fn y5 y3
 have g6:=fX (P:=l.prog) (w:=w) (mg:=mg) (base:=base) D6.fn y5 y3
 have g7:=gC (P:=l.prog) (w:=w) (mg:=mg) (base:=base) D7.fn g2 b2 D2.fn.kp m2 y5 y2
 have g8:=pH (P:=l.prog) (w:=w) (mg:=mg) (base:=base) D8.fn g2 b2 D2.fn.kp m2 y6
 have g9:=jU (P:=l.prog) (w:=w) (mg:=mg) (base:=base) D9.fn
 have g10:=oI (P:=l.prog) (w:=w) (mg:=mg) (base:=base) D10.fn g5 b5 D5.fn.kp m5 y7
 have g11:=yK (P:=l.prog) (w:=w) (mg:=mg) (base:=base) D11.fn g4 b4 D4.fn.kp m4 y8
 have g12:=lE (P:=l.prog) (w:=w) (mg:=mg) (base:=base) D12.fn g11 b11 D11.fn.kp m11
 have g13:=yT (P:=l.prog) (w:=w) (mg:=mg) (base:=base) D13.fn g10 b10 D10.fn.kp m10 g11 b11 D11.fn.kp m11 y9 y5
 have g14:=M5 (P:=l.prog) (w:=w) (mg:=mg) (base:=base) D14.fn g10 b10 D10.fn.kp m10 g12 b12 D12.fn.kp m12
 have g15:=jY (P:=l.prog) (w:=w) (mg:=mg) (base:=base) D15.fn g2 b2 D2.fn.kp m2 g7 b7 D7.fn.kp m7 y5 y9 y3 y4 y2
 have g16:=rA (P:=l.prog) (w:=w) (mg:=mg) (base:=base) D16.fn g10 b10 D10.fn.kp m10 g12 b12 D12.fn.kp m12 y2 y5 y8
 have g17:=qX (P:=l.prog) (w:=w) (mg:=mg) (base:=base) D17.fn g3 b3 D3.fn.kp m3
 have g18:=gD (P:=l.prog) (w:=w) (mg:=mg) (base:=base) D18.fn y8
 have g19:=Ww (P:=l.prog) (w:=w) (mg:=mg) (base:=base) D19.fn g13 b13 D13.fn.kp m13 g16 b16 D16.fn.kp m16 g17 b17 D17.fn.kp m17 y10 y3 y8 y9
 have g20:=aJ (P:=l.prog) (w:=w) (mg:=mg) (base:=base) D20.fn g13 b13 D13.fn.kp m13 g2 b2 D2.fn.kp m2 g9 b9 D9.fn.kp m9 y9 y8 y6
 have g21:=Ui (P:=l.prog) (w:=w) (mg:=mg) (base:=base) D21.fn g14 b14 D14.fn.kp m14 g17 b17 D17.fn.kp m17 g7 b7 D7.fn.kp m7 y5 y7 y2 y9
 have g22:=Sj (P:=l.prog) (w:=w) (mg:=mg) (base:=base) D22.fn g13 b13 D13.fn.kp m13 g2 b2 D2.fn.kp m2 y5 y3 y2 y11 y8
 exact BV FL g13 b13 D13.fn.kp m13 g16 b16 D16.fn.kp m16 g1 b1 D1.fn.kp m1 g6 b6 D6.fn.kp m6 g8 b8 D8.fn.kp m8 g15 b15 D15.fn.kp m15 g18 b18 D18.fn.kp m18 g19 b19 D19.fn.kp m19 g21 b21 D21.fn.kp m21 g22 b22 D22.fn.kp m22 g20 b20 D20.fn.kp m20 y12 y10 y3
theorem walk{l:PySem.W.OpenLaw}{q:Bk}{loose:List Str}{XP:(Str->Option Value)->Heap->Prop}{YP:World->Heap->Prop}{d:DefRec}{K:Params->PySem.W.Frag}(hn:l.most=some 63)(hdf:d.params.defaults=[])(hY:∀(w:World) (h:Heap),YP w h->(K w.params).In h)(F:∀(w:World) (mg:Str->Option Value) (fa:Addr) (h:Heap),(K w.params).In h->h.Ns Dl mg->mg d.name=some (.ref fa)->∃fd:Cs,(∀(s:Ai) (u:Value),BindsTo s fd ⟨[u],[]⟩ [("_law_script",u)])/\∀base:Heap,(K w.params).In base->base.Ns Dl mg->FnOk l.prog w (K w.params) mg base Hv 6 fa fd ["_law_script"] (DL.spLawD (K w.params))):PySem.W.WalkO q loose XP YP l.row.toRowW d [] (λf vs=>PySem.call f vs) :=
 L2.walk_ofD (n:=63) (k:=6) (x := "_law_script") (CX:=λ_=>Hv) (sp:=λw=>DL.spLawD (K w.params)) hn (by decide) hdf ⟨rfl,by decide,by decide,rfl⟩ hY F (λ_ _ a ns hl _ hS=>⟨a,ns,rfl,hS,hl,λ_=>rfl⟩) λ_ _ _ _ _ z=>z
end K54
open PySem PySem.W PyProof.Rows
set_option maxRecDepth 100000 in
set_option maxHeartbeats 0 in
theorem PySem.Challenge.cw_needledeck_k54_whole_counts_there_and_ba_holds : PySem.Challenge.rw_needledeck_k54_whole_counts_there_and_ba.Holds := by
 w_on; o_law; k_head; (case hw=>w_witness2)
 k_fill
 refine K54.walk (l:=PySem.Challenge.rw_needledeck_k54_whole_counts_there_and_ba) rfl rfl (λw h Y=>PySem.W.kIn_of Y) ?F
 case F =>
  intro w mg fa h KX G hmg
  refine' K54.all_mk KX G hmg (K54.def_mk ?a1 ?l1 ?c1 ?k1) (K54.def_mk ?a2 ?l2 ?c2 ?k2) (K54.def_mk ?a3 ?l3 ?c3 ?k3) (K54.def_mk ?a4 ?l4 ?c4 ?k4) (K54.def_mk ?a5 ?l5 ?c5 ?k5) (K54.def_mk ?a6 ?l6 ?c6 ?k6) (K54.def_mk ?a7 ?l7 ?c7 ?k7) (K54.def_mk ?a8 ?l8 ?c8 ?k8) (K54.def_mk ?a9 ?l9 ?c9 ?k9) (K54.def_mk ?a10 ?l10 ?c10 ?k10) (K54.def_mk ?a11 ?l11 ?c11 ?k11) (K54.def_mk ?a12 ?l12 ?c12 ?k12) (K54.def_mk ?a13 ?l13 ?c13 ?k13) (K54.def_mk ?a14 ?l14 ?c14 ?k14) (K54.def_mk ?a15 ?l15 ?c15 ?k15) (K54.def_mk ?a16 ?l16 ?c16 ?k16) (K54.def_mk ?a17 ?l17 ?c17 ?k17) (K54.def_mk ?a18 ?l18 ?c18 ?k18) (K54.def_mk ?a19 ?l19 ?c19 ?k19) (K54.def_mk ?a20 ?l20 ?c20 ?k20) (K54.def_mk ?a21 ?l21 ?c21 ?k21) (K54.def_mk ?a22 ?l22 ?c22 ?k22) ?aL ?lL ?cL ?kL ?z1 ?z2 ?z3 ?z4 ?z5 ?z6 ?z7 ?z8 ?z9 ?z10 ?z11 ?z12
  (case a1=>k_is); (case l1=>k_is); (case c1=>k_is); (case k1=>k_is)
  (case a2=>k_is); (case l2=>k_is); (case c2=>k_is); (case k2=>k_is)
  (case a3=>k_is); (case l3=>k_is); (case c3=>k_is); (case k3=>k_is)
  (case a4=>k_is); (case l4=>k_is); (case c4=>k_is); (case k4=>k_is)
  (case a5=>k_is); (case l5=>k_is); (case c5=>k_is); (case k5=>k_is)
  (case a6=>k_is); (case l6=>k_is); (case c6=>k_is); (case k6=>k_is)
  (case a7=>k_is); (case l7=>k_is); (case c7=>k_is); (case k7=>k_is)
  (case a8=>k_is); (case l8=>k_is); (case c8=>k_is); (case k8=>k_is)
  (case a9=>k_is); (case l9=>k_is); (case c9=>k_is); (case k9=>k_is)
  (case a10=>k_is); (case l10=>k_is); (case c10=>k_is); (case k10=>k_is)
  (case a11=>k_is); (case l11=>k_is); (case c11=>k_is); (case k11=>k_is)
  (case a12=>k_is); (case l12=>k_is); (case c12=>k_is); (case k12=>k_is)
  (case a13=>k_is); (case l13=>k_is); (case c13=>k_is); (case k13=>k_is)
  (case a14=>k_is); (case l14=>k_is); (case c14=>k_is); (case k14=>k_is)
  (case a15=>k_is); (case l15=>k_is); (case c15=>k_is); (case k15=>k_is)
  (case a16=>k_is); (case l16=>k_is); (case c16=>k_is); (case k16=>k_is)
  (case a17=>k_is); (case l17=>k_is); (case c17=>k_is); (case k17=>k_is)
  (case a18=>k_is); (case l18=>k_is); (case c18=>k_is); (case k18=>k_is)
  (case a19=>k_is); (case l19=>k_is); (case c19=>k_is); (case k19=>k_is)
  (case a20=>k_is); (case l20=>k_is); (case c20=>k_is); (case k20=>k_is)
  (case a21=>k_is); (case l21=>k_is); (case c21=>k_is); (case k21=>k_is)
  (case a22=>k_is); (case l22=>k_is); (case c22=>k_is); (case k22=>k_is)
  (case aL=>k_is); (case lL=>k_is); (case cL=>k_is); (case kL=>k_is)
  (case z1=>k_is); (case z2=>k_is); (case z3=>k_is); (case z4=>k_is); (case z5=>k_is); (case z6=>k_is); (case z7=>k_is); (case z8=>k_is); (case z9=>k_is); (case z10=>k_is); (case z11=>k_is); (case z12=>k_is)