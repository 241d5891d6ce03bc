import PyProof.Rows.All
import Wide.All
import OpenK.AllK
import Wide.FinOn
import Lean
import PyProof.EqAt
import PyProof.EqKinds
import PyProof.TupleCall
import PyProof.FactsAll.set
import PyProof.FactsAll.subtypes
import KE.KTupSum
import KE.KMinBuiltin
import PyProof.Draws
import PyProof.DictWalks
import PyProof.DictCompW
import PyProof.IsiH_tuple
import PyProof.FactsAll.zip
import KE.KDictOf
import PyProof.DictValues
import PySem.Challenge.RW_needledeck_k52_back_from_counts
set_option Elab.async false
set_option linter.all false
set_option maxRecDepth 100000
set_option maxHeartbeats 4000000
local macro_rules|`(tactic|omega)=>`(tactic|first|lia|omega +splitDisjunctions)
theorem e0a2{A B:Prop}{G:Prop}(k:A→B→G)(h:A∧B):G:=k h.1 h.2
theorem e0a3{A B C:Prop}{G:Prop}(k:A→B→C→G)(h:A∧B∧C):G:=k h.1 h.2.1 h.2.2
theorem e0a4{A B C D:Prop}{G:Prop}(k:A→B→C→D→G)(h:A∧B∧C∧D):G:=k h.1 h.2.1 h.2.2.1 h.2.2.2
theorem e0a5{A B C D E:Prop}{G:Prop}(k:A→B→C→D→E→G)(h:A∧B∧C∧D∧E):G:=k h.1 h.2.1 h.2.2.1 h.2.2.2.1 h.2.2.2.2
theorem e0a6{A B C D E F:Prop}{G:Prop}(k:A→B→C→D→E→F→G)(h:A∧B∧C∧D∧E∧F):G:=k h.1 h.2.1 h.2.2.1 h.2.2.2.1 h.2.2.2.2.1 h.2.2.2.2.2
theorem e1a1{a:Type}{A:a→Prop}{G:Prop}(k:∀x,A x→G)(h:∃x,A x):G:=h.elim λx h=>k x h
theorem e1a2{a:Type}{A B:a→Prop}{G:Prop}(k:∀x,A x→B x→G)(h:∃x,A x∧B x):G:=h.elim λx h=>k x h.1 h.2
theorem e1a3{a:Type}{A B C:a→Prop}{G:Prop}(k:∀x,A x→B x→C x→G)(h:∃x,A x∧B x∧C x):G:=h.elim λx h=>k x h.1 h.2.1 h.2.2
theorem e1a4{a:Type}{A B C D:a→Prop}{G:Prop}(k:∀x,A x→B x→C x→D x→G)(h:∃x,A x∧B x∧C x∧D x):G:=h.elim λx h=>k x h.1 h.2.1 h.2.2.1 h.2.2.2
theorem e2a1{a b:Type}{A:a→b→Prop}{G:Prop}(k:∀x y,A x y→G)(h:∃x y,A x y):G:=h.elim λx h=>h.elim λy h=>k x y h
theorem e2a2{a b:Type}{A B:a→b→Prop}{G:Prop}(k:∀x y,A x y→B x y→G)(h:∃x y,A x y∧B x y):G:=h.elim λx h=>h.elim λy h=>k x y h.1 h.2
theorem e2a3{a b:Type}{A B C:a→b→Prop}{G:Prop}(k:∀x y,A x y→B x y→C x y→G)(h:∃x y,A x y∧B x y∧C x y):G:=h.elim λx h=>h.elim λy h=>k x y h.1 h.2.1 h.2.2
theorem e2a4{a b:Type}{A B C D:a→b→Prop}{G:Prop}(k:∀x y,A x y→B x y→C x y→D x y→G)(h:∃x y,A x y∧B x y∧C x y∧D x y):G:=h.elim λx h=>h.elim λy h=>k x y h.1 h.2.1 h.2.2.1 h.2.2.2
theorem e3a1{c b a:Type}{A:c→b→a→Prop}{G:Prop}(k:∀x y z,A x y z→G)(h:∃x y z,A x y z):G:=h.elim λx h=>h.elim λy h=>h.elim λz h=>k x y z h
theorem e3a3{c b a:Type}{A B C:c→b→a→Prop}{G:Prop}(k:∀x y z,A x y z→B x y z→C x y z→G)(h:∃x y z,A x y z∧B x y z∧C x y z):G:=h.elim λx h=>h.elim λy h=>h.elim λz h=>k x y z h.1 h.2.1 h.2.2
theorem e3a4{c b a:Type}{A B C D:c→b→a→Prop}{G:Prop}(k:∀x y z,A x y z→B x y z→C x y z→D x y z→G)(h:∃x y z,A x y z∧B x y z∧C x y z∧D x y z):G:=h.elim λx h=>h.elim λy h=>h.elim λz h=>k x y z h.1 h.2.1 h.2.2.1 h.2.2.2
theorem e3a5{c b a:Type}{A B C D E:c→b→a→Prop}{G:Prop}(k:∀x y z,A x y z→B x y z→C x y z→D x y z→E x y z→G)(h:∃x y z,A x y z∧B x y z∧C x y z∧D x y z∧E x y z):G:=h.elim λx h=>h.elim λy h=>h.elim λz h=>k x y z h.1 h.2.1 h.2.2.1 h.2.2.2.1 h.2.2.2.2
theorem e4a1{b c a d:Type}{A:b→c→a→d→Prop}{G:Prop}(k:∀x y z w,A x y z w→G)(h:∃x y z w,A x y z w):G:=h.elim λx h=>h.elim λy h=>h.elim λz h=>h.elim λw h=>k x y z w h
theorem e4a2{b c a d:Type}{A B:b→c→a→d→Prop}{G:Prop}(k:∀x y z w,A x y z w→B x y z w→G)(h:∃x y z w,A x y z w∧B x y z w):G:=h.elim λx h=>h.elim λy h=>h.elim λz h=>h.elim λw h=>k x y z w h.1 h.2
theorem e5a2{c d a b e:Type}{A B:c→d→a→b→e→Prop}{G:Prop}(k:∀x y z w u,A x y z w u→B x y z w u→G)(h:∃x y z w u,A x y z w u∧B x y z w u):G:=h.elim λx h=>h.elim λy h=>h.elim λz h=>h.elim λw h=>h.elim λu h=>k x y z w u h.1 h.2
theorem e4a5{b c a d:Type}{A B C D E:b→c→a→d→Prop}{G:Prop}(k:∀x y z w,A x y z w→B x y z w→C x y z w→D x y z w→E x y z w→G)(h:∃x y z w,A x y z w∧B x y z w∧C x y z w∧D x y z w∧E x y z w):G:=h.elim λx h=>h.elim λy h=>h.elim λz h=>h.elim λw h=>k x y z w h.1 h.2.1 h.2.2.1 h.2.2.2.1 h.2.2.2.2
theorem e5a5{c d a b e:Type}{A B C D E:c→d→a→b→e→Prop}{G:Prop}(k:∀x y z w u,A x y z w u→B x y z w u→C x y z w u→D x y z w u→E x y z w u→G)(h:∃x y z w u,A x y z w u∧B x y z w u∧C x y z w u∧D x y z w u∧E x y z w u):G:=h.elim λx h=>h.elim λy h=>h.elim λz h=>h.elim λw h=>h.elim λu h=>k x y z w u h.1 h.2.1 h.2.2.1 h.2.2.2.1 h.2.2.2.2
theorem e6a5{d e a c f b:Type}{A B C D E:d→e→a→c→f→b→Prop}{G:Prop}(k:∀x y z w u v,A x y z w u v→B x y z w u v→C x y z w u v→D x y z w u v→E x y z w u v→G)(h:∃x y z w u v,A x y z w u v∧B x y z w u v∧C x y z w u v∧D x y z w u v∧E x y z w u v):G:=h.elim λx h=>h.elim λy h=>h.elim λz h=>h.elim λw h=>h.elim λu h=>h.elim λv h=>k x y z w u v h.1 h.2.1 h.2.2.1 h.2.2.2.1 h.2.2.2.2
theorem e4a7{b c a d:Type}{A B C D E F H:b→c→a→d→Prop}{G:Prop}(k:∀x y z w,A x y z w→B x y z w→C x y z w→D x y z w→E x y z w→F x y z w→H x y z w→G)(h:∃x y z w,A x y z w∧B x y z w∧C x y z w∧D x y z w∧E x y z w∧F x y z w∧H x y z w):G:=h.elim λx h=>h.elim λy h=>h.elim λz h=>h.elim λw h=>k x y z w h.1 h.2.1 h.2.2.1 h.2.2.2.1 h.2.2.2.2.1 h.2.2.2.2.2.1 h.2.2.2.2.2.2
theorem e5a7{c d a b e:Type}{A B C D E F H:c→d→a→b→e→Prop}{G:Prop}(k:∀x y z w u,A x y z w u→B x y z w u→C x y z w u→D x y z w u→E x y z w u→F x y z w u→H x y z w u→G)(h:∃x y z w u,A x y z w u∧B x y z w u∧C x y z w u∧D x y z w u∧E x y z w u∧F x y z w u∧H x y z w u):G:=h.elim λx h=>h.elim λy h=>h.elim λz h=>h.elim λw h=>h.elim λu h=>k x y z w u h.1 h.2.1 h.2.2.1 h.2.2.2.1 h.2.2.2.2.1 h.2.2.2.2.2.1 h.2.2.2.2.2.2
theorem e6a7{d e a c f b:Type}{A B C D E F H:d→e→a→c→f→b→Prop}{G:Prop}(k:∀x y z w u v,A x y z w u v→B x y z w u v→C x y z w u v→D x y z w u v→E x y z w u v→F x y z w u v→H x y z w u v→G)(h:∃x y z w u v,A x y z w u v∧B x y z w u v∧C x y z w u v∧D x y z w u v∧E x y z w u v∧F x y z w u v∧H x y z w u v):G:=h.elim λx h=>h.elim λy h=>h.elim λz h=>h.elim λw h=>h.elim λu h=>h.elim λv h=>k x y z w u v h.1 h.2.1 h.2.2.1 h.2.2.2.1 h.2.2.2.2.1 h.2.2.2.2.2.1 h.2.2.2.2.2.2
local macro_rules|`(tactic|obtain $p:rcasesPatMed:=$v:term)=>do
 let c s:=((p.raw.reprint.getD "").splitOn s).length
 if c ","<3||c "|">1||c ":">1 then Lean.Macro.throwUnsupported
 let T (a:Lean.Syntax):Lean.TSyntax `Lean.Parser.Tactic.rcasesPatMed:=⟨a⟩
 let q:=p.raw
 let x:=q[0][0]
 let l:=x[1].getSepArgs
 let mut a:Array (Lean.TSyntax ``Lean.Parser.Tactic.tacticSeq):=#[]
 let mut y:Array Lean.Term:=#[]
 let mut z:Array (Array (Lean.TSyntax `tactic)):=#[]
 for o in l do
  let u:=o[0][0][0]
  let f:=Lean.mkIdent (←Lean.Macro.addMacroScope (.mkSimple s!"f{y.size}"))
  if u[0].getId==`rfl then
   y:=y.push f
   z:=z.push #[←`(tactic|subst $f:term)]
  else if u[0].isIdent then
   y:=y.push ⟨u[0]⟩
   z:=z.push #[]
  else if u[1].isMissing then
   y:=y.push (←`(_))
   z:=z.push #[]
  else
   y:=y.push f
   z:=z.push #[←`(tactic|obtain $(T o[0]):rcasesPatMed:=$f)]
 for j in [0:l.size] do
  if j==1 then continue
  let n:=l.size-j
  let mut i:=y.extract 0 n
  let mut w:=(z.extract 0 n).flatten
  if j>0 then
   i:=i.push (←`(r_))
   w:=w.push (←`(tactic|obtain $(T (q.setArg 0 (q[0].setArg 0 (x.setArg 1 (Lean.mkNullNode (Lean.mkSepArray (l.extract n l.size) (Lean.mkAtom ","))))))):rcasesPatMed:=r_))
  for k in [0:i.size] do
   let m:=Lean.mkIdent (.mkSimple s!"e{k}a{i.size-k}")
   let g←if v.raw.isIdent then `(tactic|(revert $(⟨v⟩):ident;refine $m fun $i*=>?_)) else `(tactic|refine $m (fun $i*=>?_) $v)
   a:=a.push (←`(Lean.Parser.Tactic.tacticSeq| $g:tactic;$[$w];*))
  if j==0&& !v.raw.isIdent then
   a:=a.push (←`(Lean.Parser.Tactic.tacticSeq| have h_ := $v; obtain $p := h_))
   break
 a:=a.push (←`(Lean.Parser.Tactic.tacticSeq| rcases $v:term with $p))
 `(tactic|first $[| $a]*)
open Array renaming length_toList → Am, getD_eq_getD_getElem? → Cs, toList_append → Dx, getElem?_toList → Fh, getElem?_eq_some_iff → Hs, getElem?_eq_getElem → Ig, toList_push → Il, getElem?_eq_none → Mu, toList_extract → Oh, perm_iff_toList_perm → Qn, size_setIfInBounds → Ro, toList_reverse → Vm, size_map → Vn, forIn_toList → Yb, toList_setIfInBounds → gN
open Bool renaming false_ne_true → Bp, false_eq_true → Bw, and_eq_true → Fu, not_eq_true' → Kq, not_eq_false' → Qt, not_true → Sm, and_false → Wg
open Classical renaming byContradiction → Pr
open False renaming elim → Kw
open ForInStep renaming done → Cv, yield → El
open Int renaming toNat_natCast → Hg, ne_of_lt → aV
open LawfulBEq renaming eq_of_beq → Dz
open List renaming mem_cons_self → Ab, mem_cons_of_mem → Ad, length_map → Af, mem_append_right → Ag, mem_append_left → Ak, mem_singleton → Al, mem_cons → An, map_cons → Ao, size_toArray → Ar, getElem?_eq_some_iff → Av, mem_append → Aw, pairwise_cons → Bb, not_mem_nil → Bd, mem_of_getElem? → Be, length_append → Bf, map_append → Bh, getElem?_map → Bj, sublist_append_right → Bk, length_cons → Bm, append_assoc → Bt, getElem?_eq_getElem → Bx, replicate → Bz, lookup_cons → Cb, range → Cd, nodup_cons → Co, pairwise_append → Cr, sublist_cons_self → Cy, mem_map → Df, length_range → Dh, perm_middle → Dj, map_map → Dn, cons_append → Do, length_take → Du, nodup_nil → Dv, append_nil → Ec, perm_append_comm → Et, pairwise_singleton → Ey, take_length → Ff, take_append_drop → Fj, length_singleton → Fl, length → Ft, getElem?_append_right → Gh, replicate_succ → Gi, mem_iff_getElem → Gx, nodup_append → He, sum_cons → Hq, mem_replicate → Hu, length_replicate → Hx, length_nil → Ij, find?_cons → Ik, take_sublist → Io, map_set → Ip, flatten_cons → Iq, ext_getElem? → Ir, drop_sublist → Iu, getElem?_take_of_lt → Iy, map_congr_left → Jc, take_of_length_le → Js, dropLast_concat_getLast → Jy, reverse_perm → Kn, getElem?_set → Ko, mem_range → Ky, pairwise_iff_getElem → Lh, getElem?_append_left → Li, extract_eq_take_drop → Lj, length_pos_iff → Lo, flatMap_append → Lp, filterMap_cons → Lq, zip_cons_cons → Mh, length_zipIdx → Mi, lookup → Mj, length_eq_zero_iff → Mk, zipIdx_cons → Nq, mem_flatMap → Nr, length_drop → Nt, any_cons → Of, length_zip → Pn, length_set → Po, forIn_cons → Pp, map_nil → Py, forIn_nil → Qq, filter_append → Qr, drop_eq_getElem_cons → Rm, mem_reverse → Sy, eraseIdx_cons_succ → Sz, append_eq_nil_iff → Ug, nil_append → Va, pairwise_reverse → Vd, getElem?_reverse → Ve, mem_of_mem_drop → Wa, getElem?_set_ne → Wb, drop_zero → Wc, mem_map_of_mem → Xs, ne_nil_of_mem → Za, mem_filterMap → Zb, map_replicate → Zc, getElem?_drop → Zd, mapM_toArray → aD, flatMap_cons → aE, any_map → aF, any_eq_true → dH, eq_nil_of_length_eq_zero → dQ, perm_append_comm_assoc → gK, idxOf_lt_length_of_mem → gL, getD_eq_getElem?_getD → kC, length_erase_of_mem → oS, getElem?_cons_succ → oU, length_pos_of_mem → rM, getElem?_set_self → rN, drop_of_length_le → rO, mem_iff_getElem? → uG, map_eq_nil_iff → xP, filter_eq_self → xQ
open List.Pairwise renaming nil → Ea, sublist → Jd
open List.Perm renaming swap → Dk, refl → Hk, cons → Iv, append_left → Jn
open List.Sublist renaming refl → Ci, cons → Vf
open List.cons renaming inj → Ie
open Nat renaming le_refl → Aj, ne_of_lt → Bu, lt_of_lt_of_le → Cc, le_trans → Cg, zero_le → Di, lt_succ_of_lt → Fg, lt_irrefl → Fo, le_of_lt → Jw, not_lt_zero → Ka, zero_add → Mz, le_add_right → Oe, le_succ → Ox, ne_of_gt → Ql, lt_succ_self → Tb, mod_lt → Uy, lt_trans → Uz, succ_pos → aU, lt_succ_iff → gJ
open Ne renaming symm → Ln
open Option renaming map_some → Oo, none → Qv, isSome_iff_exists → Rl
open Option.some renaming inj → Bv
open Or renaming inl → Dw
open Prod.mk renaming injEq → Jr
open PyProof.Rows renaming wpS_bind → Az, pendingOf → Bg, wpS_pure → Bi, SortSt → By, seqObj → Ej, wpS_forRange → Ep, slot_tuple_getitem → Es, IntsAre → Ez, callWith_type1 → Fi, wpS_mono → Hr, wpS_modify → Kj, failedOf → Mq, SortKind → Ms, get?_update_seq → Mx, wpS_get → Nw, envOfC → Sv, reverseSlice' → Ux, AllBare → Wn, sortedAll → aC, listUpdate_at → dF, firstOfTuple' → dG, size_push' → dN, listItems_at → gG, subscriptTail_builtinR → E3
open PyProof.Rows.F renaming plain_set_update_loop → Jx, entry_set_update_loop → Sk
open PySem renaming wpAny_bind → Aa, wpAny_pure → Ac, PyData → Ae, Shared → Ai, sizeLine → Aq, Program → Bl, starEach → Bn, wpAny_newObj_type → Ca, Around → Ce, SetTable → Cj, wpAny_holding → Ck, wpAny_call_entry → Cn, wpAny_mono → Cq, wpAny_callSpecial?_slot → Cu, foldedSetIterable → Cz, FuncData → Dc, mainGlobals → Dg, cellsFrom → Ek, rawInt → Er, wpAny_field → Ew, codeAny_builtin → Fw, IsPair → Gc, sysModules → Gm, wpAny_isInstance → Gy, DictEntry → Gz, codeAny → Hb, behindInMarks → Hd, sizeLine_eq → Hh, pyNext → Hi, backTo → Hj, letOwnedTupleGo → Ho, wpAny_typeOf → Hv, wpAny_standAt → Ib, wpAny_attempt → Ic, wpAny_setField_rec → Ih, wpAny_seqItems → Ii, compareOp → Iz, wpAny_of_eq → Ja, binaryOp → Jb, wpAny_comprehension_free → Jh, firstArgMember → Jv, wpAny_typeNameOfWhole_valiter → Kg, wpAny_typeNameOfWhole_keyiter → Kh, unsetMember → Ki, wpAny_rule → Kk, bootBuiltins → Kl, assignEach → Km, wpAny_truthy_bool → Le, wpAny_dictEntries → Lf, wpAny_setField → Lx, newFunctionEnv → Ly, wpAny_typeNameOf_valiter → Mn, wpAny_typeNameOf_keyiter → Mo, setField → Mp, attributeBase → Mr, wpAny_dictEpoch → Mw, tupleKind → Ng, swapsWith → Nh, wpAny_fieldsOf → Nx, holding → Ny, codeAny_mono → Nz, codeAny_compStart_list → Oa, assign → Oc, wpAny_notOrdered_dict → Pl, builtinLookup_eq_fast → Pm, plainId_quiet → Px, sliceBounds → Qj, NameKind → Qm, wpAny_passesOwn → Qu, wpAny_Call_Name_kw → Su, ZipApart → Sw, wpAny_storeSet_of → Ub, wpAny_pyIter_slot → Uc, getItem → Ud, Keyword → Uh, wpAny_newList → Uw, wpAny_askSetting → Vi, pickOrder → Vj, compEnvC → Vk, wpAny_nextOf_list_item → Wh, wpAny_load → Wi, standAt → Wj, intKind → Wk, entryOfKey → Wl, wpAny_loadPart' → Xo, typeLookup_type → Xp, codeAny_of_tree → Xq, wpAny_isOneOf_valiter → Xv, wpAny_updateSeq_pair → Zn, pyIter → Zo, keywordEach → Zp, isSubtype_type → Zq, isSubtype_stop → Zr, entryFor_alias → Zs, IsPart → Zt, wpAny_onRaise → dD, typeLookup → dJ, tupleKind_room_in1 → dM, setEntries → dO, call_meets → dP, wpAny_sequenceKey → gE, codeAny_loop → gH, wpAny_pyIter_zip → kF, noFill_tuple_add → kG, wpAny_pyNext_tuple_item → C8, wpAny_pyNext_tuple_end → E2, slot_list_getitem → GV
open PySem.Around renaming under_plainId → Fs
open PySem.Builtin renaming sorted → Xw
open PySem.Builtin.Dict renaming showsAll → Mb, updateFrom → aW
open PySem.Builtin.Dict_items renaming ownsTuple → Gk
open PySem.Builtin.Frozenset renaming addrOf → Eh, isAnySet → Je, updateFrom → Ma, copyOf → Nk, baseOf → Wm, slot1 → Xt
open PySem.Builtin.List renaming listTooLong → Ku, listExtendWith → Ni, listLengthHint → Ya
open PySem.Builtin.Range renaming rangeSize → Kz
open PySem.Builtin.Slice renaming slicePlaces → Jz, sliceAdjust → Og, sliceApplied → Xz
open PySem.Builtin.SmallTypes renaming ownedTupleIsFree → Cw, nextOf → Dl, ownedTupleHandOut → Qs
open PySem.Builtin.Tuple renaming tupleExact → Gj, tupleItemsOf → Xx, tupleIsExact → Xy
open PySem.Calls renaming spliced_cons → Lz, callWith_builtin → Mt, call_function_entry → Qx, spliced_nil → Rn, evalArgs_plain → Vl, Name_function_global → gM
open PySem.F renaming slot_zip_next → Wf
open PySem.Heap renaming get?_push_of_some → Ah, get?_push_size → Ap, lt_size → Au, SameBut → Ct, get?_update_self → Eu, size_push → Fc, size_update → Lg, get?_none_of_le → Wd, ExtBut → We, get?_update_other → rP
open PySem.Heap.SameBut renaming update → Bo, refl → Oy
open PySem.NameKind renaming cell → Eb, free → En
open PySem.Obj renaming mapSeq → Eg, mapFields → Oq, data_mapFields → Qw
open PySem.PassesOwn renaming never → Ex
open PySem.PyData renaming int → Ax, depthAll → Bs, depth → Dy, tuple → Yz
open PySem.SeqAt renaming EqAt → Nj
open PySem.SetTable renaming below → Cm, bits → Da, sizeAbove → Dt, insertAt → Gv, turns → Hm, runEnd → Hw, laid → Jm, layClean → Qk, fill → Qp, insertAt_perm → kB
open PySem.SetTable.below renaming go → Ue
open PySem.SetTable.layClean renaming free → Kv
open PySem.SetTable.probe renaming go → Od
open PySem.Str renaming ofString → Dq
open PySem.Value renaming ref → Ay, none → Fp, type → Gd, int → Lb
open Sum renaming inl → Xr
open True renaming intro → Jq
namespace L2
open PySem PySem.Spec PyProof.Rows
abbrev Jo:=Sum Int Str
def fJ:Jo->Value->Bool
 | .inl k,v=>Value.isInt k v
 | .inr x,v=>Value.isStrOf x v
def IC(w:World):Jo->Int
 | .inl k=>hashInt k
 | .inr x=>hashStr w x
theorem Ia:∀{k:Jo} {v:Value},fJ k v=true->(∃i t,k=Xr i/\v=Lb i t)\/(∃x t,k=Sum.inr x/\v=Value.str x t)
 | .inl i,v,h=>by
  obtain ⟨t,e⟩:=Value.isInt_shape (k:=i) (v:=v) h
  exact .inl ⟨i,t,rfl,e⟩
 | .inr x,v,h=>by
  obtain ⟨t,e⟩:=Value.isStrOf_shape (x:=x) (v:=v) h
  exact .inr ⟨x,t,rfl,e⟩
theorem uI(i:Int)(t:Tok):fJ (.inl i) (.int i t)=true:=by simp [fJ,Value.isInt]
theorem vV(x:Str)(t:Tok):fJ (.inr x) (.str x t)=true:=by simp [fJ,Value.isStrOf]
theorem AM(a b:Int):decide ((Xr a:Jo)=Xr b)=(a == b):=by
 by_cases e:a=b
 ·subst e; simp
 ·have h:¬ (Xr a:Jo)=Xr b:=λq=>e (Sum.inl.inj q)
  rw[decide_eq_false h]
  exact (beq_eq_false_iff_ne.mpr e).symm
theorem Y6(a b:Str):decide ((Sum.inr a:Jo)=Sum.inr b)=decide (a=b):=by
 by_cases e:a=b
 ·subst e; simp
 ·have h:¬ (Sum.inr a:Jo)=Sum.inr b:=λq=>e (Sum.inr.inj q)
  rw[decide_eq_false h,decide_eq_false e]
theorem CD(a:Int)(b:Str):decide ((Xr a:Jo)=Sum.inr b)=false:=decide_eq_false (λq=>nomatch q)
theorem BU(a:Str)(b:Int):decide ((Sum.inr a:Jo)=Xr b)=false:=decide_eq_false (λq=>nomatch q)
def Hn(prog:Bl)(w:World):PySem.KeyKind prog w Jo where
 is:=fJ
 hash:=IC w
 inj:=λv a b f d=>by
  rcases Ia f with ⟨i,t,rfl,rfl⟩ | ⟨x,t,rfl,rfl⟩
  ·rcases Ia d with ⟨j,u,rfl,e⟩ | ⟨y,u,rfl,e⟩
   ·injection e with e1 _; rw[e1]
   ·exact nomatch e
  ·rcases Ia d with ⟨j,u,rfl,e⟩ | ⟨y,u,rfl,e⟩
   ·exact nomatch e
   ·injection e with e1 _; rw[e1]
 byValue:=λk v h=>by
  rcases Ia h with ⟨i,t,rfl,rfl⟩ | ⟨x,t,rfl,rfl⟩ <;> rfl
 pyHash:=λc h=>by
  rcases Ia c with ⟨i,t,rfl,rfl⟩ | ⟨x,t,rfl,rfl⟩
  ·exact wpAny_pyHash_int h
  ·exact wpAny_pyHash_str h
 eqBool:=λg c h=>by
  rcases Ia g with ⟨i,t,rfl,rfl⟩ | ⟨x,t,rfl,rfl⟩
  ·rcases Ia c with ⟨j,u,rfl,rfl⟩ | ⟨y,u,rfl,rfl⟩
   ·rw[AM] at h; exact wpAny_eqBool_int h
   ·rw[CD] at h; exact SeqAt.EqAt.int_str i t y u _ _ _ _ h
  ·rcases Ia c with ⟨j,u,rfl,rfl⟩ | ⟨y,u,rfl,rfl⟩
   ·rw[BU] at h; exact SeqAt.EqAt.str_int x t j u _ _ _ _ h
   ·rw[Y6] at h; exact wpAny_eqBool_str h
 «strs»:=λk x t v h=>by
  rcases Ia h with ⟨i,u,rfl,e⟩ | ⟨y,u,rfl,e⟩
  ·exact nomatch e
  ·injection e with e1 _
   subst e1
   cases v <;> rfl
theorem lP(prog:Bl)(w:World)(i:Int)(t:Tok):(Hn prog w).is (.inl i) (.int i t)=true:=uI i t
theorem kI(prog:Bl)(w:World)(x:Str)(t:Tok):(Hn prog w).is (.inr x) (.str x t)=true:=vV x t
inductive V where
 | non | bl (b:Bool) | int (i:Int) | str (x:Str) | byt (b:Array UInt8) | flt (b:UInt64) | ref (a:Addr) | ty (n:String)
 deriving DecidableEq
def RelV:V->Value->Prop
 | .non,u=>u=Fp
 | .bl b,u=>u=Value.bool b
 | .int i,u=>∃t,u=Lb i t
 | .str x,u=>∃t,u=Value.str x t
 | .byt b,u=>∃t,u=Value.bytes b t
 | .flt b,u=>∃t,u=Value.float b t
 | .ref a,u=>u=Ay a
 | .ty n,u=>u=Gd n
abbrev Gf:List V->List Value->Prop:=Paired RelV
theorem Gf.length{xs:List V}{us:List Value}(r:Gf xs us):xs.length=us.length:=Paired.length r
theorem Gf.get:∀{xs:List V} {us:List Value} {i:Nat} {x:V},Gf xs us->xs[i]? = some x->∃u,us[i]? = some u/\RelV x u
 | _,_,_,_,.nil,e=>by simp at e
 | _,_,0,_,.cons r _,e=>by simp at e; subst e; exact ⟨_,rfl,r⟩
 | _,_,i+1,x,.cons _ t,e=>by
  obtain ⟨u,a,b⟩:=Gf.get (i:=i) (x:=x) t (by simpa using e)
  exact ⟨u,by simpa using a,b⟩
theorem Gf.set{x:V}{u:Value}(r:RelV x u):∀{xs:List V} {us:List Value} (i:Nat),Gf xs us->Gf (xs.set i x) (us.set i u)
 | _,_,_,.nil=>.nil
 | _,_,0,.cons _ t=>.cons r t
 | _,_,i+1,.cons q t=>.cons q (Gf.set r i t)
theorem Gf.append:∀{xs ys:List V} {us a:List Value},Gf xs us->Gf ys a->Gf (xs++ys) (us++a)
 | _,_,_,_,.nil,s=>s
 | _,_,_,_,.cons r t,s=>.cons r (Gf.append t s)
theorem Gf.take:∀{xs:List V} {us:List Value} (n:Nat),Gf xs us->Gf (xs.take n) (us.take n)
 | _,_,0,_=>.nil
 | _,_,_+1,.nil=>.nil
 | _,_,n+1,.cons r t=>.cons r (Gf.take n t)
theorem Gf.drop:∀{xs:List V} {us:List Value} (n:Nat),Gf xs us->Gf (xs.drop n) (us.drop n)
 | _,_,0,r=>r
 | _,_,_+1,.nil=>.nil
 | _,_,n+1,.cons _ t=>Gf.drop n t
def oI:Option V->Option Value->Prop
 | some v,some u=>RelV v u
 | none,none=>True
 | _,_=>False
def KV{a:Type}:List (a×V)->List (a×Value)->Prop:=Paired λ(p:a×V) (q:a×Value)=>p.1=q.1/\RelV p.2 q.2
def kV:Jo->V
 | .inl i=>.int i
 | .inr x=>.str x
inductive HO where
 /-- a list -/
 | lst (xs:List V)
 /-- a tuple (never changes) -/
 | tup (xs:List V)
 /-- a dict whose keys are ints and texts; one whose keys are tuples of ints and texts (the empty one is both) -/
 | dK (kvs:List (Jo×V)) | dT (kvs:List (List Jo×V))
 /-- a set of ints: its members,its size -/
 | set (S:Int->Bool) (n:Nat)
 /-- an instance of the class at C,its dict at dx,its attributes -/
 | ins (C dx:Addr) (fs:List (Str×V))
 /-- the dict of the instance at x -/
 | own (x:Addr)
 /-- the dict of an exception -/
 | xd (fs:List (Str×V))
 /-- a bound method,f of x -/
 | met (f x:Addr)
 /-- a range object lo,lo+1,.. below hi -/
 | rng (lo hi:Int)
 /-- a thing that is known to the object (the script; a dict while a loop walks it): read,never written while it is so -/
 | frz (o:Obj) (u:HO)
 /-- a code object's table -/
 | tbl (ps:Array Value)
 /-- any other thing,by what is true of its one object (a def of one's own: Ys a S n:=HO.ext λh=>..) -/
 | ext (φ:Heap->Prop)
abbrev Hp:=Addr->Option HO
def upd(H:Hp)(a:Addr)(o:HO):Hp:=λb=>if b=a then some o else H b
theorem Ds{H:Hp}{a:Addr}{o:HO}:upd H a o a=some o:=by unfold upd; rw[if_pos rfl]
theorem Dr{H:Hp}{a b:Addr}{o:HO}(h:b≠a):upd H a o b=H b:=by unfold upd; rw[if_neg h]
theorem B4{H:Hp}{a b:Addr}{o u:HO}(h:H a=some o)(h':H b=some u)(d:o≠u):a≠b:=by
 intro e; subst e; rw[h] at h'; exact d (Bv h')
theorem Fn{H:Hp}{a b:Addr}{o:HO}(h:H a=some o)(h':H b=none):a≠b:=by
 intro e; subst e; rw[h] at h'; cases h'
section
variable(P:Bl)(w:World)
def Hl(H:Hp)(h:Heap)(a:Addr):HO->Prop
 | .lst d=>d.length<=Aq/\∃(b:List Value) (n:Nat),Gf d b/\h.get? a=some { cls:=.type "list",data:=.seq b.toArray n }
 | .tup d=>d.length<=Aq/\∃b:List Value,Gf d b/\IsTup h a b.toArray
 | .dK c=>c.length<=Aq/\(a == Gm)=false/\∃vs,KV c vs/\h.DictOf (Hn P w) a vs
 | .dT c=>c.length<=Aq/\(a == Gm)=false/\∃d:List (List Jo×Addr×Value),
   Paired (λ(p:List Jo×V) (q:List Jo×Addr×Value)=>p.1=q.1/\H q.2.1=some (.tup (p.1.map kV))/\RelV p.2 q.2.2) c d /\
   ∃o j m,h.get? a=some o/\o.ExactDict/\o.data=.dict j m/\j.toList=d.map (Wl (Ng (Hn P w)))/\(d.map (·.1)).Nodup/\m=j.size
 | .set S n=>h.SetOf (Wk P w) a S n
 | .ins C g fs=>H g=some (.own a)/\fs.length<=1000/\g≠a/\h.get? a=some (PySem.W.instObj C g) /\
   ∃e,h.Ns1 g e/\(∀f,oI (fs.lookup f) (e f))/\PySem.Within e (fs.map (·.1))
 | .own _=>∃o,h.get? a=some o
 | .xd fs=>∃e,h.Ns1 a e/\∀f,oI (fs.lookup f) (e f)
 | .rng lo r=>∃t u v,h.get? a=some { cls:=.type "range",data:=.fields #[.int lo t,.int r u,.int 1 v] }
 | .frz o u=>h.get? a=some o/\Hl H h a u
 | .tbl s=>h.get? a=some { cls:=.none,data:=.fields s }
 | .met f x=>h.get? a=some (PySem.W.methodObj (.ref f) (.ref x))
 | .ext i=>i h/\(∃o,h.get? a=some o)/\∀l k:Heap,i l->(∀o,l.get? a=some o->k.get? a=some o)->i k
def Vh(H:Hp)(h:Heap):Prop:=∀a o,H a=some o->Hl P w H h a o
end
section
variable{P:Bl}{w:World}{H g:Hp}{h h':Heap}{a:Addr}{o:HO}
theorem Hl.lt(x:Hl P w H h a o):a<h.objs.size:=by
 cases o with
 | lst c=>obtain ⟨_,_,_,_,e⟩:=x; exact Au e
 | tup c=>obtain ⟨_,_,_,p⟩:=x; exact p.lt
 | dK b=>obtain ⟨_,_,_,_,o,_,_,e,_⟩:=x; exact Au e
 | dT b=>obtain ⟨_,_,_,_,o,_,_,e,_⟩:=x; exact Au e
 | set S n=>obtain ⟨o,_,_,_,e,_⟩:=x; exact Au e
 | ins C j fs=>obtain ⟨_,_,_,e,_⟩:=x; exact Au e
 | own y=>obtain ⟨_,e⟩:=x; exact Au e
 | xd fs=>obtain ⟨_,⟨_,_,_,e,_⟩,_⟩:=x; exact Au e
 | rng lo g=>obtain ⟨_,_,_,e⟩:=x; exact Au e
 | frz i u=>obtain ⟨e,_⟩:=x; exact Au e
 | tbl k=>exact Au (show h.get? a=some _ from x)
 | met f y=>exact Au (show h.get? a=some _ from x)
 | ext d=>obtain ⟨_,⟨_,e⟩,_⟩:=x; exact Au e
theorem Paired.mapP{d c:Type}{F G:d->c->Prop}:∀{l₁:List d} {l₂:List c},Paired F l₁ l₂->(∀a b,F a b->G a b)->Paired G l₁ l₂
 | _,_,.nil,_=>.nil
 | _,_,.cons r t,f=>.cons (f _ _ r) (Paired.mapP t f)
theorem Hl.stay(x:Hl P w H h a o)(k:∀b u,(b=a\/H b=some (.own a))->h.get? b=some u->h'.get? b=some u)(I:∀b,H b=some (.own a)->g b=some (.own a))(G:∀b xs,H b=some (.tup xs)->g b=some (.tup xs)):Hl P w g h' a o:=by
 induction o with
 | lst xs=>obtain ⟨z,m,n,r,e⟩:=x; exact ⟨z,m,n,r,k _ _ (.inl rfl) e⟩
 | tup xs=>obtain ⟨z,m,r,i,e,c⟩:=x; exact ⟨z,m,r,i,k _ _ (.inl rfl) e,c⟩
 | dK A=>obtain ⟨z,y,vs,r,i,l,j,e,c⟩:=x; exact ⟨z,y,vs,r,i,l,j,k _ _ (.inl rfl) e,c⟩
 | dT A =>
  obtain ⟨z,y,xs,r,i,l,j,e,c⟩:=x
  exact ⟨z,y,xs,Paired.mapP r λp q z=>⟨z.1,G _ _ z.2.1,z.2.2⟩,i,l,j,k _ _ (.inl rfl) e,c⟩
 | set S n=>obtain ⟨i,l,j,t,e,c⟩:=x; exact ⟨i,l,j,t,k _ _ (.inl rfl) e,c⟩
 | ins C M fs =>
  obtain ⟨d,z,J,e,s,⟨B,l,j,E,c⟩,r⟩:=x
  exact ⟨I _ d,z,J,k _ _ (.inl rfl) e,s,⟨B,l,j,k _ _ (.inr d) E,c⟩,r⟩
 | own y=>obtain ⟨i,e⟩:=x; exact ⟨i,k _ _ (.inl rfl) e⟩
 | xd fs=>obtain ⟨s,⟨B,l,j,e,c⟩,r⟩:=x; exact ⟨s,⟨B,l,j,k _ _ (.inl rfl) e,c⟩,r⟩
 | rng lo L=>obtain ⟨t,u,v,e⟩:=x; exact ⟨t,u,v,k _ _ (.inl rfl) e⟩
 | frz i u F=>obtain ⟨e,q⟩:=x; exact ⟨k _ _ (.inl rfl) e,F q⟩
 | tbl D =>
  have e:h.get? a=some { cls:=.none,data:=.fields D }:=x
  show h'.get? a=some { cls:=.none,data:=.fields D }
  exact k a _ (.inl rfl) e
 | met f y =>
  have e:h.get? a=some (PySem.W.methodObj (.ref f) (.ref y)):=x
  show h'.get? a=some (PySem.W.methodObj (.ref f) (.ref y))
  exact k a _ (.inl rfl) e
 | ext K=>obtain ⟨p,⟨o,e⟩,st⟩:=x; exact ⟨st _ _ p λo q=>k _ _ (.inl rfl) q,⟨o,k _ _ (.inl rfl) e⟩,st⟩
theorem Vh.lt(x:Vh P w H h)(e:H a=some o):a<h.objs.size:=(x a o e).lt
theorem Vh.fresh(x:Vh P w H h)(e:h.objs.size<=a):H a=none:=by
 cases q:H a with
 | none=>rfl
 | some u=>exact absurd (Cc (x.lt q) e) (Fo _)
theorem Vh.kept(x:Vh P w H h)(k:∀b u,h.get? b=some u->h'.get? b=some u):Vh P w H h':=λa o e =>
 (x a o e).stay (λb u _ q=>k b u q) (λ_ q=>q) λ_ _ q=>q
theorem Vh.laid(x:Vh P w H h)(k:∀b u,h.get? b=some u->h'.get? b=some u)(i:h.objs.size<=a)(d:Hl P w (upd H a o) h' a o):Vh P w (upd H a o) h':=λb u e=>by
 have g:=x.fresh i
 by_cases f:b=a
 ·subst f; rw[Ds] at e; cases e; exact d
 ·rw[Dr f] at e
  exact (x b u e).stay (λc v _ q=>k c v q) (λc q=>by rw[Dr (Fn q g)]; exact q) λc j q=>by rw[Dr (Fn q g)]; exact q
end
def Rd(H:Hp)(a:Addr)(u:HO):Prop:=H a=some u\/∃o,H a=some (.frz o u)
theorem Rd.ok{P:Bl}{w:World}{H:Hp}{h:Heap}{a:Addr}{u:HO}(r:Rd H a u)(x:Vh P w H h):Hl P w H h a u:=by
 rcases r with r | ⟨o,r⟩
 ·exact x a u r
 ·obtain ⟨_,q⟩:=x a _ r
  exact q
def DM:Option HO->Prop
 | some (.lst _)=>True
 | some (.dK _)=>True
 | some (.dT _)=>True
 | some (.set _ _)=>True
 | some (.ins _ _ _)=>True
 | some (.ext _)=>True
 | _=>False
section
variable{P:Bl}{w:World}{H:Hp}{h h':Heap}{x e:Addr}{a:HO}
theorem Vh.write(ok:Vh P w H h)(i:DM (H x))(n:e=x\/H e=some (.own x))(k:∀b u,b≠e->h.get? b=some u->h'.get? b=some u)(m:∃u,h'.get? e=some u)(l:Hl P w (upd H x a) h' x a):Vh P w (upd H x a) h':=λb u q=>by
 have f:∀c y,H c=some (.own y)->c≠x:=λc y r z=>by subst z; rw[r] at i; exact i
 have jS:∀c j,H c=some (.tup j)->c≠x:=λc j r z=>by subst z; rw[r] at i; exact i
 by_cases g:b=x
 ·subst g; rw[Ds] at q; cases q; exact l
 ·rw[Dr g] at q
  by_cases d:b=e
  ·have o:H b=some (.own x):=by
    rcases n with z | z
    ·exact absurd (d.trans z) g
    ·rw[d]; exact z
   rw[q] at o; cases o
   obtain ⟨v,p⟩:=m
   exact ⟨v,by rw[d]; exact p⟩
  ·refine (ok b u q).stay (λc v hc r=>k c v ?_ r) (λc r=>by rw[Dr (f c b r)]; exact r) λc j r=>by rw[Dr (jS c j r)]; exact r
   rcases hc with rfl | hc
   ·exact d
   ·rintro rfl
    rcases n with z | z
    ·exact f c b hc z
    ·rw[hc] at z; cases z; exact g rfl
end
structure Un(fs ex:List Addr)(H H':Hp)(h h':Heap):Prop where
 keep:∀b o,h.get? b=some o->H b=none->b∉fs->b∉ex->h'.get? b=some o
 slot:∀b o,h.get? b=some o->H b=none->b∈fs->b∉ex->∃sl,h'.get? b=some { o with slots:=sl }
 free:∀b o,h.get? b=some o->H b=none->b∉ex->H' b=none
 there:∀b o,h.get? b=some o->b∉ex->∃o',h'.get? b=some o'
 tups:∀b xs,H b=some (.tup xs)->H' b=some (.tup xs)
 frzs:∀b o u,H b=some (.frz o u)->H' b=some (.frz o u)
 tbls:∀b ps,H b=some (.tbl ps)->∃more,H' b=some (.tbl (ps++more))
section
variable{fs d ex f:List Addr}{H g i:Hp}{h c j h':Heap}{a x e:Addr}{o:HO}
theorem Un.any(u:Un fs ex H g h c){b:Addr}{a:Obj}(q:h.get? b=some a)(n:H b=none)(e:b∉ex):∃sl,c.get? b=some { a with slots:=sl }:=by
 by_cases d:b∈fs
 ·exact u.slot b a q n d e
 ·exact ⟨a.slots,u.keep b a q n d e⟩
theorem Un.kept(k:∀b u,h.get? b=some u->h'.get? b=some u):Un fs ex H H h h' :=
 ⟨λb a q _ _ _=>k b a q,λb a q _ _ _=>⟨a.slots,k b a q⟩,λ_ _ _ n _=>n,λb a q _=>⟨a,k b a q⟩,λ_ _ q=>q,λ_ _ _ q=>q,λ_ c q=>⟨#[],by rw[q]; simp⟩⟩
theorem Un.refl:Un fs ex H H h h:=Un.kept λ_ _ q=>q
theorem Un.laid(k:∀b u,h.get? b=some u->h'.get? b=some u)(e:h.objs.size<=a)(c:H a=none):Un fs ex H (upd H a o) h h' where
 keep:=λb u q _ _ _=>k b u q
 slot:=λb u q _ _ _=>⟨u.slots,k b u q⟩
 free:=λb u q n _=>by rw[Dr (Bu (Cc (Au q) e))]; exact n
 there:=λb u q _=>⟨u,k b u q⟩
 tups:=λb d q=>by rw[Dr (Fn q c)]; exact q
 frzs:=λb u d q=>by rw[Dr (Fn q c)]; exact q
 tbls:=λb f q=>⟨#[],by rw[Dr (Fn q c),q]; simp⟩
theorem Un.write(c:DM (H x))(l:e=x\/H e=some (.own x))(k:∀b u,b≠e->h.get? b=some u->h'.get? b=some u)(d:∃u,h'.get? e=some u):Un fs ex H (upd H x o) h h':=by
 have i:∀b,H b=none->b≠x:=λb n z=>by subst z; rw[n] at c; exact c
 have g:∀b,H b=none->b≠e:=λb n z=>by
  subst z
  rcases l with r | r
  ·exact i b n r
  ·rw[n] at r; cases r
 have f:∀b u,H b=some u->¬ DM (some u)->b≠x:=λb u q j z=>by subst z; rw[q] at c; exact j c
 refine ⟨λb u q n _ _=>k b u (g b n) q,λb u q n _ _=>⟨u.slots,k b u (g b n) q⟩,λb u q n _=>by rw[Dr (i b n)]; exact n,λb u q _=>?_,
  λb m q=>by rw[Dr (f b _ q λz=>z)]; exact q,λb u m q=>by rw[Dr (f b _ q λz=>z)]; exact q,λb p q=>⟨#[],by rw[Dr (f b _ q λz=>z),q]; simp⟩⟩
 by_cases a:b=e
 ·subst a; exact d
 ·exact ⟨u,k b u a q⟩
end
def HM(h:Heap)(H:Hp):List Addr:=(Cd h.objs.size).filter λa=>(H a).isSome
def jR(h:Heap)(H:Hp):Heap:=PySem.W.hideAll h (HM h H)
theorem xC(h:Heap)(H:Hp):(jR h H).objs.size=h.objs.size:=PySem.W.hideAll_size _ _
theorem xS{h:Heap}{H:Hp}{b:Addr}{o:Obj}(e:h.get? b=some o)(n:H b=none):(jR h H).get? b=some o :=
 PySem.W.hideAll_get _ e λa=>by
  have q:(H b).isSome=true:=(List.mem_filter.mp a).2
  rw[n] at q; simp at q
theorem I0{h:Heap}{H:Hp}{b:Addr}{o:Obj}(e:(jR h H).get? b=some o):h.get? b=some o/\H b=none:=by
 have a:h.get? b=some o:=PySem.W.of_hideAll (HM h H) e
 refine ⟨a,?_⟩
 cases q:H b with
 | none=>rfl
 | some x =>
  have c:b∈HM h H:=List.mem_filter.mpr ⟨Ky.mpr (Au a),by simp [q]⟩
  have z:(jR h H).get? b=none:=PySem.W.hideAll_none (HM h H) c
  rw[z] at e; cases e
def O9(g h:Heap)(L:Addr):List (Addr×Obj):=(Cd h.objs.size).filterMap λa=>if a=L\/(g.get? a).isSome=true then none else (h.get? a).map λo=>(a,o)
def Ht(g h:Heap)(L d:Addr):List (Addr×Obj):=(O9 g h L).filter λp=>decide (p.1≠d)
structure Mod(K:PySem.W.Frag)(mg:Str->Option Value)(base:Heap):Prop where
 kin:K.In base
 glob:base.Ns Dg mg
 blt:∃mb,base.Ns builtinsNs mb/\∀x:Str,x ≠ "__name__" -> mb x=Kl x
 nolimit:base.NoLimit
structure Cx where
 prog:Bl
 w:World
 K:PySem.W.Frag
 mg:Str->Option Value
 base:Heap
 A:Ce
 N:List Str
 s₀:Ai
 H₀:Hp
 env:Env
 outer:List Env
 stack:List Env
 ex:List Addr
 fn:Str->Bool
 calm:Bool
 pn:List (Addr×Obj)
 xe:Value->Ai->Prop
def gA(l:List Env):List Addr:=l.filterMap (·.frame)
abbrev Cx.fs(X:Cx):List Addr:=gA X.outer
def GY(a:Scope)(x:Str):Prop:=a.names.lookup x=some .local\/a.names.lookup x=some .cell\/a.names.lookup x=some .free
def Loc(a:Scope)(x:Str):Prop:=a.names.lookup x=some .local\/a.names.lookup x=some .cell
def IE(env:Env)(h:Heap)(m:Str->Option Value)(x:Str)(u:Value):Prop :=
 (env.kindOf x=some .local/\m x=some u)\/((env.kindOf x=some .cell\/env.kindOf x=some .free)/\∃c,env.cells.lookup x=some c/\h.IsCell c (some u))
structure Cx.Ok(X:Cx):Prop where
 mod:Mod X.K X.mg X.base
 kind:X.env.scope.kind=.function
 glob:X.env.globals=Dg
 blt:X.env.builtins=builtinsNs
 above:X.s₀.heap.objs.size<=X.env.locals
 inj:∀x y c,X.env.cells.lookup x=some c->X.env.cells.lookup y=some c->x=y
 has:∀x,(X.env.kindOf x=some .cell\/X.env.kindOf x=some .free)->∃c,X.env.cells.lookup x=some c
 cab:∀x c,X.fn x=true->X.env.cells.lookup x=some c->X.s₀.heap.objs.size<=c
 hd:X.calm=true->X.A.handled=none
 frames:X.A.frames=some X.stack
 stk:X.stack=X.outer\/(X.stack=X.env::X.outer/\X.env.frame=some X.env.locals)
 exf:∀b∈X.ex,b≠X.env.locals/\∀x c,X.env.cells.lookup x=some c->c≠b
 bs:∀b o,X.base.get? b=some o->X.s₀.heap.get? b=some o/\X.H₀ b=none
 bsz:X.base.objs.size<=X.s₀.heap.objs.size
 noex:∀b o,X.base.get? b=some o->b∉X.ex
 exfs:∀b∈X.ex,b∉X.fs
 funs:X.s₀.heap.FunFrames X.base X.outer
 frf:∀b∈X.fs,X.H₀ b=none
structure Inv(X:Cx)(pins:List (Addr×Obj))(σ:List (Option V))(H:Hp)(s:Ai):Prop where
 ok:X.Ok
 os:s.os=X.s₀.os
 bare:Wn s.gens
 base:Un X.fs X.ex X.H₀ H X.s₀.heap s.heap
 loc:∃m,s.heap.Ns X.env.locals m/\∀(i:Nat) (x:Str) (v:V),X.N[i]? = some x->σ[i]? = some (some v)->GY X.env.scope x->∃u,RelV v u/\IE X.env s.heap m x u
 cell:∀x c,X.env.cells.lookup x=some c->∃v,s.heap.IsCell c v
 free:H X.env.locals=none
 freeC:∀x c,X.env.cells.lookup x=some c->H c=none
 pin:∀p∈X.pn++pins,s.heap.get? p.1=some p.2/\H p.1=none/\p.1≠X.env.locals/\p.1∉X.fs/\∀v,p.2.data≠.cell v
 hok:Vh X.prog X.w H s.heap
 len:σ.length=X.N.length
section
variable{X:Cx}{f:List (Addr×Obj)}{g:List (Option V)}{H B:Hp}{s:Ai}{h':Heap}
theorem Cx.Ok.nofr(ok:X.Ok){b:Addr}{o:Obj}(e:X.base.get? b=some o):b∉X.fs:=λa=>by
 have:=(ok.funs.mem a).1
 rw[e] at this; cases this
theorem Inv.bs(I:Inv X f g H s):∀b o,X.base.get? b=some o->s.heap.get? b=some o/\H b=none:=λb o e =>
 ⟨I.base.keep b o (I.ok.bs b o e).1 (I.ok.bs b o e).2 (I.ok.nofr e) (I.ok.noex b o e),I.base.free b o (I.ok.bs b o e).1 (I.ok.bs b o e).2 (I.ok.noex b o e)⟩
theorem Inv.bk(I:Inv X f g H s):∀b o,X.base.get? b=some o->s.heap.get? b=some o:=λb o e=>(I.bs b o e).1
theorem Inv.mod(I:Inv X f g H s):Mod X.K X.mg X.base:=I.ok.mod
theorem Inv.kIn(I:Inv X f g H s):X.K.In s.heap:=I.ok.mod.kin.keeps I.bk
theorem Inv.lt(I:Inv X f g H s):X.env.locals<s.heap.objs.size:=let ⟨_,hn,_⟩:=I.loc; hn.lt
theorem Inv.sz(I:Inv X f g H s):X.s₀.heap.objs.size<=s.heap.objs.size:=Cg I.ok.above (Jw I.lt)
theorem Inv.nofs(I:Inv X f g H s){a:Addr}(h:s.heap.objs.size<=a):a∉X.fs:=λb=>by
 obtain ⟨_,o,c,_⟩:=I.ok.funs.mem b
 exact absurd (Cc (Au c) (Cg I.sz h)) (Fo _)
theorem Inv.cne(I:Inv X f g H s):∀x c,X.env.cells.lookup x=some c->c≠X.env.locals:=λx c e z=>by
 obtain ⟨v,o,d,h⟩:=I.cell x c e
 obtain ⟨m,⟨j,k,i,b,a,_⟩,_⟩:=I.loc
 rw[z,b] at d; cases d; rw[a] at h; cases h
theorem Inv.funs(I:Inv X f g H s):s.heap.FunFrames X.base X.outer:=by
 have all:∀(l:List Env),(∀b∈gA l,b∈X.fs)->X.s₀.heap.FunFrames X.base l->s.heap.FunFrames X.base l:=by
  intro l
  induction l with
  | nil=>intro _ _; trivial
  | cons q r j =>
   intro h k
   obtain ⟨m,⟨L,o,d,p,n,t⟩,i⟩:=k
   have c:L∈X.fs:=h L (by unfold gA; rw[Lq,d]; exact Ab)
   obtain ⟨u,e⟩:=I.base.slot L o n (I.ok.frf L c) c λz=>I.ok.exfs L z c
   exact ⟨m,⟨L,_,d,p,e,t⟩,j (λb a=>h b (by unfold gA; rw[Lq,d]; exact Ad _ a)) i⟩
 exact all X.outer (λ_ a=>a) I.ok.funs
theorem Inv.stack(I:Inv X f g H s):s.heap.FunFrames X.base X.stack:=by
 rcases I.ok.stk with e | ⟨e,a⟩
 ·rw[e]; exact I.funs
 ·rw[e]
  obtain ⟨m,b,_⟩:=I.loc
  refine .cons (by rw[I.ok.kind]; decide) a b ?_ I.funs
  exact Wd (Cg I.ok.bsz I.ok.above)
theorem Inv.stkSub(I:Inv X f g H s):∀b∈gA X.stack,b∈X.env.locals::X.fs:=λb a=>by
 rcases I.ok.stk with e | ⟨e,c⟩
 ·rw[e] at a; exact Ad _ a
 ·rw[e] at a
  unfold gA at a
  rw[Lq,c] at a
  exact a
theorem Inv.stkFree(I:Inv X f g H s):∀b∈gA X.stack,H b=none:=λb hb=>by
 rcases An.mp (I.stkSub b hb) with e | hb
 ·rw[e]; exact I.free
 ·obtain ⟨_,o,a,_⟩:=I.ok.funs.mem hb
  exact I.base.free b o a (I.ok.frf b hb) λz=>I.ok.exfs b z hb
theorem Inv.step{g':Array GenState}{t':Nat}{d':Drawn}{ch:List Addr}(I:Inv X f g H s)(j:∀b∈ch,(b∈X.ex\/X.s₀.heap.objs.size<=b)/\b≠X.env.locals/\(∀x c,X.env.cells.lookup x=some c->c≠b)/\∀p∈X.pn++f,p.1≠b)(keep:∀b o,b≠X.env.locals->b∉X.fs->b∉ch->s.heap.get? b=some o->H b=none->h'.get? b=some o)(slot:∀b o,b≠X.env.locals->b∈X.fs->b∉ch->s.heap.get? b=some o->H b=none->∃sl,h'.get? b=some { o with slots:=sl })(free:∀b o,b∉ch->s.heap.get? b=some o->H b=none->B b=none)(there:∀b o,b∉ch->s.heap.get? b=some o->∃G,h'.get? b=some G)(tups:∀b xs,H b=some (.tup xs)->B b=some (.tup xs))(frzs:∀b o u,H b=some (.frz o u)->B b=some (.frz o u))(tbls:∀b ps,H b=some (.tbl ps)->∃more,B b=some (.tbl (ps++more)))(ns:∀m,s.heap.Ns X.env.locals m->h'.Ns X.env.locals m)(J:Vh X.prog X.w B h')(V:Wn g'):Inv X f g B { s with heap:=h',gens:=g',drawn:=d',toks:=t' }:=by
 have E:∀b o,X.s₀.heap.get? b=some o->b≠X.env.locals:=λb o e=>Bu (Cc (Au e) I.ok.above)
 have y:∀b o,X.s₀.heap.get? b=some o->b∉X.ex->b∉ch:=λb o e a C=>by
  rcases (j b C).1 with z | z
  ·exact a z
  ·exact absurd (Cc (Au e) z) (Fo _)
 have t:∀x c,X.env.cells.lookup x=some c->∀v,s.heap.IsCell c v->h'.IsCell c v:=λx c e v ⟨o,D,K⟩=>by
  have h:c∉ch:=λz=>(j c z).2.2.1 x c e rfl
  by_cases M:c∈X.fs
  ·obtain ⟨sl,q⟩:=slot c o (I.cne x c e) M h D (I.freeC x c e)
   exact ⟨_,q,K⟩
  ·exact ⟨o,keep c o (I.cne x c e) M h D (I.freeC x c e),K⟩
 refine ⟨I.ok,I.os,V,⟨λb o e n C a=>?_,λb o e n C a=>?_,λb o e n a=>?_,λb o e a=>?_,λb xs e=>tups b xs (I.base.tups b xs e),λb o xs e=>frzs b o xs (I.base.frzs b o xs e),λb ps e=>?_⟩,?_,λx c e=>?_,?_,λx c e=>?_,λp O=>?_,J,I.len⟩
 ·exact keep b o (E b o e) C (y b o e a) (I.base.keep b o e n C a) (I.base.free b o e n a)
 ·obtain ⟨sl,A⟩:=I.base.slot b o e n C a
  obtain ⟨L,F⟩:=slot b _ (E b o e) C (y b o e a) A (I.base.free b o e n a)
  exact ⟨L,F⟩
 ·obtain ⟨G,A⟩:=I.base.there b o e a
  exact free b G (y b o e a) A (I.base.free b o e n a)
 ·obtain ⟨G,A⟩:=I.base.there b o e a
  exact there b G (y b o e a) A
 ·obtain ⟨U,A⟩:=I.base.tbls b ps e
  obtain ⟨T,F⟩:=tbls b _ A
  exact ⟨U++T,by rw[F,Array.append_assoc]⟩
 ·obtain ⟨m,R,Q⟩:=I.loc
  refine ⟨m,ns m R,λi x v A F S=>?_⟩
  obtain ⟨u,r,l⟩:=Q i x v A F S
  refine ⟨u,r,?_⟩
  rcases l with l | ⟨k,c,e,z⟩
  ·exact .inl l
  ·exact .inr ⟨k,c,e,t x c e _ z⟩
 ·obtain ⟨v,z⟩:=I.cell x c e
  exact ⟨v,t x c e v z⟩
 ·obtain ⟨m,⟨o,_,_,D,_⟩,_⟩:=I.loc
  exact free _ o (λz=>(j _ z).2.1 rfl) D I.free
 ·obtain ⟨v,o,D,K⟩:=I.cell x c e
  exact free c o (λz=>(j c z).2.2.1 x c e rfl) D (I.freeC x c e)
 ·obtain ⟨e,n,N,P,d⟩:=I.pin p O
  have h:p.1∉ch:=λz=>(j p.1 z).2.2.2 p O rfl
  exact ⟨keep p.1 p.2 N P h e n,free p.1 p.2 h e n,N,P,d⟩
theorem Inv.un{t':Nat}(I:Inv X f g H s)(u:Un X.fs [] H B s.heap h')(d:Vh X.prog X.w B h'):Inv X f g B { s with heap:=h',toks:=t' }:=by
 obtain ⟨m,⟨o,y,t,j,r⟩,_⟩:=id I.loc
 obtain ⟨q,l⟩:=u.any j I.free (by simp)
 exact I.step (g':=s.gens) (d':=s.drawn) (ch:=[]) (λ_ z=>nomatch z) (λb o _ c _ e n=>u.keep b o e n c (by simp)) (λb o _ c _ e n=>u.slot b o e n c (by simp)) (λb o _ e n=>u.free b o e n (by simp)) (λb o _ e=>u.there b o e (by simp)) u.tups u.frzs u.tbls (λv k=>by
  obtain ⟨x,h,i,a,p⟩:=k
  rw[j] at a; cases a
  exact ⟨_,h,i,l,p⟩) d I.bare
theorem Inv.call{g':Array GenState}{t':Nat}{d':Drawn}{ch:List Addr}(I:Inv X f g H s)(u:Un (gA X.stack) ch H B s.heap h')(i:Vh X.prog X.w B h')(A:Wn g')(h:∀b∈ch,(b∈X.ex\/X.s₀.heap.objs.size<=b)/\b≠X.env.locals/\(∀x c,X.env.cells.lookup x=some c->c≠b)/\∀p∈X.pn++f,p.1≠b):Inv X f g B { s with heap:=h',gens:=g',drawn:=d',toks:=t' }:=by
 obtain ⟨m,⟨o,G,D,q,r⟩,_⟩:=id I.loc
 obtain ⟨C,j⟩:=u.any q I.free λz=>(h _ z).2.1 rfl
 exact I.step (ch:=ch) h (λb o j v a e n=>u.keep b o e n (λz=>(An.mp (I.stkSub b z)).elim j v) a) (λb o _ _ a e n=>u.any e n a) (λb o a e n=>u.free b o e n a) (λb o a e=>u.there b o e a) u.tups u.frzs u.tbls (λE t=>by
  obtain ⟨F,k,l,d,y⟩:=t
  rw[q] at d; cases d
  exact ⟨_,k,l,j,y⟩) i A
theorem Inv.turned{t':Nat}{it:Addr}(I:Inv X f g H s)(k:∀b o,b≠it->s.heap.get? b=some o->h'.get? b=some o)(A:H it=none)(h:it≠X.env.locals)(w:it∈X.ex\/X.s₀.heap.objs.size<=it)(j:∀x c,X.env.cells.lookup x=some c->c≠it)(C:∀p∈X.pn++f,p.1≠it):Inv X f g H { s with heap:=h',toks:=t' }:=by
 have d:∀b u,H b=some u->b≠it:=λb u e z=>by rw[z,A] at e; cases e
 refine I.step (g':=s.gens) (d':=s.drawn) (ch:=[it]) (λb t=>?_) (λb o _ _ a e _=>k b o (λz=>a (by simp [z])) e) (λb o _ _ a e _=>⟨o.slots,k b o (λz=>a (by simp [z])) e⟩) (λ_ _ _ _ n=>n)
  (λb o a e=>⟨o,k b o (λz=>a (by simp [z])) e⟩) (λ_ _ e=>e) (λ_ _ _ e=>e) (λb D e=>⟨#[],by rw[e]; simp⟩) (λm l=>?_) (λb u e=>?_) I.bare
 ·have e:b=it:=by simpa using t
  subst e
  exact ⟨w,h,j,C⟩
 ·obtain ⟨o,i,B,y,r⟩:=l
  exact ⟨o,i,B,k _ o (Ln h) y,r⟩
 ·refine (I.hok b u e).stay (λc v a q=>k c v ?_ q) (λ_ q=>q) λ_ _ q=>q
  rcases a with z | z
  ·rw[z]; exact d b u e
  ·exact d c _ z
theorem Inv.tok(I:Inv X f g H s)(t:Nat):Inv X f g H { s with toks:=t }:=I.un (h':=s.heap) (t':=t) Un.refl I.hok
theorem Inv.kept{t':Nat}(I:Inv X f g H s)(k:∀b u,s.heap.get? b=some u->h'.get? b=some u):Inv X f g H { s with heap:=h',toks:=t' }:=I.un (Un.kept k) (I.hok.kept k)
theorem Inv.laid{a:Addr}{o:HO}{t':Nat}(I:Inv X f g H s)(k:∀b u,s.heap.get? b=some u->h'.get? b=some u)(d:s.heap.objs.size<=a)(c:Hl X.prog X.w (upd H a o) h' a o):Inv X f g (upd H a o) { s with heap:=h',toks:=t' }:=I.un (Un.laid k d (I.hok.fresh d)) (I.hok.laid k d c)
theorem Inv.write{x e:Addr}{o:HO}{t':Nat}(I:Inv X f g H s)(d:DM (H x))(h:e=x\/H e=some (.own x))(k:∀b u,b≠e->s.heap.get? b=some u->h'.get? b=some u)(a:∃u,h'.get? e=some u)(c:Hl X.prog X.w (upd H x o) h' x o):Inv X f g (upd H x o) { s with heap:=h',toks:=t' }:=I.un (Un.write d h k a) (I.hok.write d h k a c)
theorem Inv.pins_of{a:List (Addr×Obj)}(I:Inv X f g H s)(h:∀p∈a,s.heap.get? p.1=some p.2/\H p.1=none/\p.1≠X.env.locals/\p.1∉X.fs/\∀v,p.2.data≠.cell v):Inv X a g H s :=
 ⟨I.ok,I.os,I.bare,I.base,I.loc,I.cell,I.free,I.freeC,λp b=>(Aw.mp b).elim (λz=>I.pin p (Ak _ z)) (h p),I.hok,I.len⟩
theorem mC{N:List Str}(e:N.Nodup){i j:Nat}{x:Str}(a:N[i]? = some x)(b:N[j]? = some x):i=j:=by
 obtain ⟨g,d⟩:=Av.mp a
 obtain ⟨f,c⟩:=Av.mp b
 exact (List.getElem_inj e).mp (d.trans c.symm)
theorem uK{M:Model}{A:Ce}{E:Value->Ai->Prop}{i:Nat}{x:Str}{v:V}{u:Value}{Q:Unit->Ai->Prop}(I:Inv X f g H s)(hN:X.N.Nodup)(P:X.N[i]? = some x)(C:Loc X.env.scope x)(r:RelV v u)(h:∀s',Inv X f (g.set i (some v)) H s'->(∃a,Ct a s.heap s'.heap/\(a=X.env.locals\/X.env.cells.lookup x=some a))->Q () s')(hf:X.fn x=true\/X.env.scope.names.lookup x=some .local:=by first | exact .inl rfl | exact .inr rfl | assumption):wpAny M A (storeName X.env x u) Q E s:=by
 obtain ⟨m,hn,hl⟩:=id I.loc
 have U:(X.env.scope.kind == .class || (X.env.scope.kind == .module && X.env.locals != X.env.globals))=false:=by rw[I.ok.kind]; rfl
 have G:i<g.length:=by rw[I.len]; exact (Av.mp P).1
 have cne:=I.cne
 have t:∀{a:Addr} {h':Heap},(∃o,s.heap.get? a=some o/\H a=none)->Ct a s.heap h'->Vh X.prog X.w H h':=λ{a h'} ha l b ob e=>by
  obtain ⟨_,_,D⟩:=ha
  refine (I.hok b ob e).stay (λc Z hc q=>(l.2 c ?_).trans q) (λ_ q=>q) λ_ _ q=>q
  rintro rfl
  rcases hc with rfl | hc
  ·rw[D] at e; cases e
  ·rw[D] at hc; cases hc
 rcases C with hk | hk
 ·refine wpAny_storeName_local hk hn (λh' h0 l=>?_) U
  obtain ⟨oL,_,_,h1,_⟩:=id hn
  refine h _ ⟨I.ok,I.os,I.bare,⟨λb o e n K C=>?_,λb o e n K C=>?_,I.base.free,λb o e C=>?_,I.base.tups,I.base.frzs,I.base.tbls⟩,⟨_,h0,λj y v' B F e3=>?_⟩,λy c e=>?_,I.free,I.freeC,λp hp=>?_,t ⟨oL,h1,I.free⟩ l,by simpa using I.len⟩ ⟨_,l,.inl rfl⟩
  ·exact (l.2 b (Bu (Cc (Au e) I.ok.above))).trans (I.base.keep b o e n K C)
  ·obtain ⟨sl,B⟩:=I.base.slot b o e n K C
   exact ⟨sl,(l.2 b (Bu (Cc (Au e) I.ok.above))).trans B⟩
  ·obtain ⟨o',B⟩:=I.base.there b o e C
   exact ⟨o',(l.2 b (Bu (Cc (Au e) I.ok.above))).trans B⟩
  ·by_cases J:j=i
   ·subst J
    rw[P] at B; cases B
    rw[rN G] at F
    cases F
    exact ⟨u,r,.inl ⟨hk,by simp⟩⟩
   ·rw[Wb (Ln J)] at F
    obtain ⟨u',r',q⟩:=hl j y v' B F e3
    refine ⟨u',r',?_⟩
    rcases q with ⟨k,e⟩ | ⟨k,c,e,z⟩
    ·refine .inl ⟨k,?_⟩
     have : y≠x:=λe=>J (mC hN B (e▸P))
     simp [this,e]
    ·exact .inr ⟨k,c,e,z.sameBut l (cne y c e)⟩
  ·obtain ⟨Z,z⟩:=I.cell y c e
   exact ⟨Z,z.sameBut l (cne y c e)⟩
  ·obtain ⟨e,n,W,nf,d⟩:=I.pin p hp
   exact ⟨(l.2 p.1 W).trans e,n,W,nf,d⟩
 ·have L:X.fn x=true:=by
   rcases hf with z | z
   ·exact z
   ·rw[z] at hk; cases hk
  obtain ⟨c,hc⟩:=I.ok.has x (.inl hk)
  obtain ⟨Z,z⟩:=I.cell x c hc
  refine wpAny_storeName_cell I.ok.kind hk hc z (λh' O l=>?_)
  obtain ⟨oc,S,R⟩:=id z
  refine h { s with heap:=h' } ⟨I.ok,I.os,I.bare,⟨λb o e n K C=>?_,λb o e n K C=>?_,I.base.free,λb o e C=>?_,I.base.tups,I.base.frzs,I.base.tbls⟩,⟨m,hn.sameBut l (Ln (cne x c hc)),λj y v' B F e3=>?_⟩,λy Y e=>?_,I.free,I.freeC,λp hp=>?_,t ⟨oc,S,I.freeC x c hc⟩ l,by simpa using I.len⟩ ⟨c,l,.inr hc⟩
  ·exact (l.2 b (Bu (Cc (Au e) (I.ok.cab x c L hc)))).trans (I.base.keep b o e n K C)
  ·obtain ⟨sl,B⟩:=I.base.slot b o e n K C
   exact ⟨sl,(l.2 b (Bu (Cc (Au e) (I.ok.cab x c L hc)))).trans B⟩
  ·obtain ⟨o',B⟩:=I.base.there b o e C
   exact ⟨o',(l.2 b (Bu (Cc (Au e) (I.ok.cab x c L hc)))).trans B⟩
  ·by_cases J:j=i
   ·subst J
    rw[P] at B; cases B
    rw[rN G] at F
    cases F
    exact ⟨u,r,.inr ⟨.inl hk,c,hc,O⟩⟩
   ·rw[Wb (Ln J)] at F
    obtain ⟨u',r',q⟩:=hl j y v' B F e3
    refine ⟨u',r',?_⟩
    rcases q with q | ⟨k,Y,e,z'⟩
    ·exact .inl q
    ·refine .inr ⟨k,Y,e,z'.sameBut l ?_⟩
     rintro rfl
     exact J (mC hN B (I.ok.inj _ _ _ e hc▸P))
  ·by_cases T:Y=c
   ·subst T; exact ⟨_,O⟩
   ·obtain ⟨w2,z2⟩:=I.cell y Y e
    exact ⟨w2,z2.sameBut l T⟩
  ·obtain ⟨e,n,W,nf,d⟩:=I.pin p hp
   refine ⟨(l.2 p.1 ?_).trans e,n,W,nf,d⟩
   intro q
   rw[q,S] at e
   have q':oc=p.2:=Bv e
   exact d Z (by rw[<- q']; exact R)
theorem mO{M:Model}{A:Ce}{E:Value->Ai->Prop}{i:Nat}{x:Str}{v:V}{u:Value}{Q:Unit->Ai->Prop}(I:Inv X f g H s)(c:X.N.Nodup)(b:X.N[i]? = some x)(e:Loc X.env.scope x)(r:RelV v u)(h:∀s',Inv X f (g.set i (some v)) H s'->Q () s')(d:X.fn x=true\/X.env.scope.names.lookup x=some .local:=by first | exact .inl rfl | exact .inr rfl | assumption):wpAny M A (storeName X.env x u) Q E s :=
 uK I c b e r (λs' a _=>h s' a) d
theorem Inv.call'{s':Ai}{ch:List Addr}(I:Inv X f g H s)(h:s'.os=s.os)(u:Un (gA X.stack) ch H B s.heap s'.heap)(a:Vh X.prog X.w B s'.heap)(i:Wn s'.gens)(d:∀b∈ch,(b∈X.ex\/X.s₀.heap.objs.size<=b)/\b≠X.env.locals/\(∀x c,X.env.cells.lookup x=some c->c≠b)/\∀p∈X.pn++f,p.1≠b):Inv X f g B s':=by
 obtain ⟨h',g',d',t',j⟩:=s'
 have e:j=s.os:=h
 subst e
 exact I.call (g':=g') (t':=t') (d':=d') u a i d
end
abbrev XK:=Value->Option Addr->Hp->Prop
abbrev St:=List (Option V)
abbrev VK:=V->Hp->Prop
abbrev TE:=St->Hp->VK->Prop
abbrev TT:=St->Hp->(Bool->Hp->Prop)->Prop
abbrev TA:=St->Hp->(List V->Hp->Prop)->Prop
structure Ends where
 nx:St->Hp->Prop
 rt:VK
 bk:St->Hp->Prop:=λ_ _=>False
 ct:St->Hp->Prop:=λ_ _=>False
abbrev TS:=Ends->St->Hp->Prop
def EP(X:Cx)(a:List (Addr×Obj))(c:St)(Q:VK)(u:Value)(s':Ai):Prop:=∃v b,Inv X a c b s'/\RelV v u/\Q v b
def TP(X:Cx)(a:List (Addr×Obj))(d:St)(Q:Bool->Hp->Prop)(b:Bool)(s':Ai):Prop:=∃c,Inv X a d c s'/\Q b c
def AP(X:Cx)(a:List (Addr×Obj))(c:St)(Q:List V->Hp->Prop)(us:List Value)(s':Ai):Prop:=∃vs b,Inv X a c b s'/\Gf vs us/\Q vs b
def SP(X:Cx)(b:List (Addr×Obj))(D:Ends)(f:Flow)(s':Ai):Prop :=
 match f with
 | .next=>∃a c,Inv X b a c s'/\D.nx a c
 | .brk=>∃a c,Inv X b a c s'/\D.bk a c
 | .cont=>∃a c,Inv X b a c s'/\D.ct a c
 | .ret u=>∃v a c,Inv X b a c s'/\RelV v u/\D.rt v c
def PE(X:Cx)(e:Expr)(t:TE):Prop :=
 ∀(a:List (Addr×Obj)) (s:Ai) (b:St) (H:Hp) (Q:VK),Inv X a b H s->t b H Q->wpAny (model X.prog X.w) X.A (eval e X.env) (EP X a b Q) X.xe s
def PT(X:Cx)(e:Expr)(t:TT):Prop :=
 ∀(a:List (Addr×Obj)) (s:Ai) (b:St) (H:Hp) (Q:Bool->Hp->Prop),Inv X a b H s->t b H Q->wpAny (model X.prog X.w) X.A (isTrue e X.env (eval e X.env)) (TP X a b Q) X.xe s
def PW(X:Cx)(e:Expr)(t:TT):Prop :=
 ∀(b:Sem Value) (a:List (Addr×Obj)) (s:Ai) (c:St) (H:Hp) (Q:Bool->Hp->Prop),Inv X a c H s->t c H Q->wpAny (model X.prog X.w) X.A (isTrue e X.env b) (TP X a c Q) X.xe s
theorem PW.pt{X:Cx}{e:Expr}{t:TT}(h:PW X e t):PT X e t:=h _
def PA(X:Cx)(es:List Expr)(t:TA):Prop :=
 ∀(c:Pos) (a:List (Addr×Obj)) (s:Ai) (b:St) (H:Hp) (Q:List V->Hp->Prop),Inv X a b H s->t b H Q->wpAny (model X.prog X.w) X.A (spliced (Hj c (Bn es X.env))) (AP X a b Q) X.xe s
def PS(X:Cx)(st:Stmt)(t:TS):Prop :=
 ∀(a:List (Addr×Obj)) (s:Ai) (b:St) (H:Hp) (D:Ends),Inv X a b H s->t D b H->wpAny (model X.prog X.w) X.A (exec st X.env) (SP X a D) X.xe s
def tP(X:Cx)(st:List Stmt)(t:TS):Prop :=
 ∀(a:List (Addr×Obj)) (s:Ai) (b:St) (H:Hp) (D:Ends),Inv X a b H s->t D b H->wpAny (model X.prog X.w) X.A (execs st X.env) (SP X a D) X.xe s
theorem Gb{c:Type}{t:Sem c}{Q b:c->Ai->Prop}{M:Model}{A:Ce}{E:Value->Ai->Prop}{s:Ai}(h:wpAny M A t Q E s)(d:∀a s,Q a s->b a s):wpAny M A t b E s:=Cq h d λ_ _ x=>x
section
variable{X:Cx}
theorem KN{a b:Expr}{k n:TE}(D:PE X a k)(hb:PE X b n){c:List (Addr×Obj)}{s:Ai}{g:St}{H:Hp}{R:V->V->Hp->Prop}(I:Inv X c g H s)(h:k g H λx m=>n g m λy e=>R x y e){o:Type}{Q:o->Ai->Prop}{f:Value->Value->Sem o}(C:∀v u l x y e,Inv X c g e l->RelV x v->RelV y u->R x y e->wpAny (model X.prog X.w) X.A (f v u) Q X.xe l):wpAny (model X.prog X.w) X.A (eval a X.env) (λv i=>wpAny (model X.prog X.w) X.A (eval b X.env) (λu j=>wpAny (model X.prog X.w) X.A (f v u) Q X.xe j) X.xe i) X.xe s:=by
 refine Gb (D c s g H _ I h) λv E d => ?_
 obtain ⟨x,m,z,r,t⟩ := d
 refine Gb (hb c E g m _ z t) λu l d => ?_
 obtain ⟨y,e,B,p,q⟩ := d
 exact C v u l x y e B r p q
def eM(i:Nat):TE:=λa H Q=>∃v,a[i]? = some (some v)/\Q v H
def tC(v:V):TE:=λ_ H Q=>Q v H
theorem AN{i:Nat}{x:Str}{pos:Pos}(q:X.N[i]? = some x)(p:GY X.env.scope x)(hd:(x == ("__debug__" : Str))=false:=by decide)(f:(x == ("__classdict__" : Str))=false:=by decide):PE X (.Name x pos) (eM i):=by
 intro d s n H Q I h
 obtain ⟨v,e,h⟩:=h
 obtain ⟨m,o,k⟩:=I.loc
 obtain ⟨u,r,l⟩:=k i x v q e p
 have b:EP X d n Q u s:=⟨v,H,I,r,h⟩
 rcases l with ⟨hk,j⟩ | ⟨hk,c,g,a⟩
 ·exact wpAny_Name (wpAny_loadName_local I.ok.kind hk o j b) hd
 ·rcases hk with hk | hk
  ·exact wpAny_Name (wpAny_loadName_cell I.ok.kind hk g a b) hd
  ·exact wpAny_Name (wpAny_loadName_free I.ok.kind hk g a b f) hd
theorem Fq{i j pos}:PE X (.Constant (.int i) j pos) (tC (.int i)):=λ_ _ _ H _ I h=>wpAny_Constant_int ⟨.int i,H,I.tok _,⟨_,rfl⟩,h⟩
theorem zH{b j pos}:PE X (.Constant (.bool b) j pos) (tC (.bl b)):=λ_ _ _ H _ I h=>Constant_bool ⟨.bl b,H,I,rfl,h⟩
theorem Z8{j pos}:PE X (.Constant .none j pos) (tC .non):=λ_ _ _ H _ I h=>Constant_none ⟨.non,H,I,rfl,h⟩
theorem AQ{x j pos}:PE X (.Constant (.str x) j pos) (tC (.str x)):=λ_ _ _ H _ I h=>Calls.Constant_str ⟨.str x,H,I.tok _,⟨_,rfl⟩,h⟩
def Gl(X:Cx)(x:Str):Prop:=X.env.kindOf x=some .globalImplicit
theorem sX{E:Value->Ai->Prop}{a:List (Addr×Obj)}{s:Ai}{b:St}{H:Hp}{x:Str}{u:Value}{pos:Pos}{Q:Value->Ai->Prop}(I:Inv X a b H s)(c:Gl X x)(d:X.mg x=some u)(h:Q u s)(hd:(x == ("__debug__" : Str))=false:=by decide):wpAny (model X.prog X.w) X.A (eval (.Name x pos) X.env) Q E s :=
 gM I.ok.kind c (Calls.loadGlobal_global (by rw[I.ok.glob]; exact I.mod.glob.keeps I.bk) d h) hd
theorem Ry{E:Value->Ai->Prop}{a:List (Addr×Obj)}{s:Ai}{d:St}{H:Hp}{x:Str}{u:Value}{pos:Pos}{Q:Value->Ai->Prop}(I:Inv X a d H s)(i:Gl X x)(c:X.mg x=none)(g:Kl x=some u)(h:Q u s)(f:x ≠ "__name__" := by decide)(hd:(x == ("__debug__" : Str))=false:=by decide):wpAny (model X.prog X.w) X.A (eval (.Name x pos) X.env) Q E s:=by
 obtain ⟨j,e,b⟩:=I.mod.blt
 exact gM I.ok.kind i (Calls.loadGlobal_builtin (by rw[I.ok.glob]; exact I.mod.glob.keeps I.bk) c (by rw[I.ok.blt]; exact e.keeps I.bk) ((b x f).trans g) h) hd
theorem R1{x:Str}{v:V}{u:Value}{pos:Pos}(a:Gl X x)(b:X.mg x=none)(d:Kl x=some u)(r:RelV v u)(c:x ≠ "__name__" := by decide)(hd:(x == ("__debug__" : Str))=false:=by decide):PE X (.Name x pos) (tC v) :=
 λ_ _ _ H _ I h=>Ry I a b d ⟨v,H,I,r,h⟩ c hd
variable{a b:Expr}{k n:TE}{pos:Pos}
def PC(X:Cx)(op:CmpOp)(a b:Expr)(t:TE):Prop :=
 ∀(c:List (Addr×Obj)) (s:Ai) (f:St) (H:Hp) (Q:VK),Inv X c f H s->t f H Q ->
  wpAny (model X.prog X.w) X.A (eval a X.env) (λv d=>wpAny (model X.prog X.w) X.A (eval b X.env) (λu e=>wpAny (model X.prog X.w) X.A (Iz op v u) (EP X c f Q) X.xe e) X.xe d) X.xe s
theorem o8(b:Expr){op:CmpOp}(h:op≠.In)(c:op≠.NotIn):Hd op b=false:=by
 have d:(op == CmpOp.In)=false:=by cases op <;> first | rfl | exact absurd rfl h
 have a:(op == CmpOp.NotIn)=false:=by cases op <;> first | rfl | exact absurd rfl c
 cases b <;> simp [Hd,d,a]
def tB(t:TE):TT:=λa H Q=>t a H λx b=>∃c,x=.bl c/\Q c b
theorem HX{op:CmpOp}{t:TE}(h:PC X op a b t)(f:Hd op b=false:=by first | exact o8 _ (by decide) (by decide) | rfl):PT X (.Compare a [op] [b] pos) (tB t):=by
 intro e s k H Q I g
 refine wpAny_isTrue_Compare1 (Gb (h e s k H _ I g) λv r f=>Gb f λu p i=>Gb i λc o ⟨x,n,m,j,l⟩=>?_) f
 obtain ⟨d,rfl,q⟩:=l
 cases j
 exact Le ⟨n,m,q⟩
theorem zG{e:Expr}{t:TE}(h:PE X e t)(k:∀a,isTrue e X.env a=(do let v <- a; Wj e.pos; Ny [v] (truthy v)):=by intro _; rfl):PT X e (tB t):=by
 intro b s i H Q I c
 refine isTrue_plain (Gb (h b s i H _ I c) λv m ⟨x,l,j,f,g⟩=>?_) (k _)
 obtain ⟨d,rfl,q⟩:=g
 cases f
 exact Le ⟨l,j,q⟩
variable{g o:TT}{Ht:List Expr}
def HP(t u:TT):TT:=λa H Q=>t a H λc b=>if c=true then u a b Q else Q false b
def JX(t u:TT):TT:=λa H Q=>t a H λc b=>if c=true then Q true b else u a b Q
def IS(t:TT):TT:=λa H Q=>t a H λc b=>Q (!c) b
theorem N9(f:PT X a g):PW X (.BoolOp .And [a] pos) g:=by
 intro i b s d H Q I h
 refine isTrue_and (Gb (f b s d H Q I h) λc j e=>?_)
 cases c with
 | true=>exact isTrue_and_nil e
 | false=>exact e
theorem AR(f:PT X a g):PW X (.BoolOp .Or [a] pos) g:=by
 intro i b s d H Q I h
 refine isTrue_or (Gb (f b s d H Q I h) λc j e=>?_)
 cases c with
 | false=>exact isTrue_or_nil e
 | true=>exact e
theorem BM(m:PT X a g)(hb:PW X (.BoolOp .And (b::Ht) pos) o):PW X (.BoolOp .And (a::b::Ht) pos) (HP g o):=by
 intro l d s f H Q I h
 refine isTrue_and (Gb (m d s f H _ I h) λc n e => ?_)
 obtain ⟨k,i,j⟩ := e
 cases c with
 | true=>exact hb l d n f k Q i j
 | false=>exact ⟨k,i,j⟩
theorem GT(m:PT X a g)(hb:PW X (.BoolOp .Or (b::Ht) pos) o):PW X (.BoolOp .Or (a::b::Ht) pos) (JX g o):=by
 intro l d s f H Q I h
 refine isTrue_or (Gb (m d s f H _ I h) λc n e => ?_)
 obtain ⟨k,i,j⟩ := e
 cases c with
 | true=>exact ⟨k,i,j⟩
 | false=>exact hb l d n f k Q i j
theorem X9(f:PT X a g):PT X (.UnaryOp .Not a pos) (IS g):=by
 intro b s d H Q I h
 exact isTrue_not (f b s d H (λc e=>Q (!c) e) I h)
def FP(k n:TE):TE:=λa H Q=>k a H λx b=>∃c,x=.bl c/\if c=true then n a b Q else Q (.bl false) b
theorem CB{op}{t:TE}(h:PE X a t):PE X (.BoolOp op [a] pos) t:=λb s d H Q I c=>BoolOp_one (h b s d H Q I c)
theorem Z3(m:PE X a k)(hb:PE X (.BoolOp .And (b::Ht) pos) n):PE X (.BoolOp .And (a::b::Ht) pos) (FP k n):=by
 intro d s g H Q I h
 refine BoolOp_and (Gb (m d s g H _ I h) λv o f => ?_)
 obtain ⟨x,j,i,l,e⟩ := f
 obtain ⟨c,rfl,e⟩:=e
 cases l
 refine Le ?_
 cases c with
 | true=>exact hb d o g j Q i e
 | false=>exact ⟨.bl false,j,i,rfl,e⟩
def KB(t:TT)(k n:TE):TE:=λa H Q=>t a H λc b=>if c=true then k a b Q else n a b Q
theorem A9{c:Expr}(p:PT X c g)(q:PE X a k)(hb:PE X b n):PE X (.IfExp c a b pos) (KB g k n):=by
 intro e s f H Q I h
 refine wpAny_IfExp (Gb (p e s f H _ I h) λd o i => ?_)
 obtain ⟨m,l,j⟩ := i
 cases d with
 | true=>exact q e o f m Q l j
 | false=>exact hb e o f m Q l j
end
def Pq(K:PySem.W.Frag)(H:Hp)(a:Addr)(xs:List V):Prop :=
 Rd H a (.lst xs) \/
  ∃(o:Obj) (b:Array Value) (n:Nat),K.lookup a=some o/\o.cls=.type "list" /\ o.dict=none/\o.data=.seq b n/\b.size<=Aq/\Gf xs b.toList
def Ta(K:PySem.W.Frag)(H:Hp)(a:Addr)(xs:List V):Prop :=
 Rd H a (.tup xs) \/
  ∃(o:Obj) (b:Array Value) (n:Nat),K.lookup a=some o/\o.cls=.type "tuple" /\ o.data=.seq b n/\b.size<=Aq/\Gf xs b.toList
def IR:Value->Option V
 | .none=>some .non
 | .bool b=>some (.bl b)
 | .int i _=>some (.int i)
 | .str x _=>some (.str x)
 | .bytes b _=>some (.byt b)
 | .float b _=>some (.flt b)
 | .ref a=>some (.ref a)
 | .type n=>some (.ty n)
 | _=>none
theorem RelV.abs{x:V}{u:Value}(r:RelV x u):IR u=some x:=by
 cases x with
 | non=>cases r; rfl
 | bl _=>cases r; rfl
 | int _=>obtain ⟨t,rfl⟩:=r; rfl
 | str _=>obtain ⟨t,rfl⟩:=r; rfl
 | byt _=>obtain ⟨t,rfl⟩:=r; rfl
 | flt _=>obtain ⟨t,rfl⟩:=r; rfl
 | ref _=>cases r; rfl
 | ty _=>cases r; rfl
theorem RelV.inj{x y:V}{u:Value}(r:RelV x u)(q:RelV y u):x=y:=Bv (r.abs.symm.trans q.abs)
theorem Gf.inj:∀{xs ys:List V} {us:List Value},Gf xs us->Gf ys us->xs=ys
 | _,_,_,.nil,.nil=>rfl
 | _,_,_,.cons r t,.cons r' t'=>by rw[r.inj r',Gf.inj t t']
section
variable{X:Cx}{b:List (Addr×Obj)}{c:St}{H:Hp}{s:Ai}{a:Addr}{xs ys:List V}
theorem Pq.of{K:PySem.W.Frag}(h:H a=some (.lst xs)):Pq K H a xs:=.inl (.inl h)
theorem Ta.of{K:PySem.W.Frag}(h:H a=some (.tup xs)):Ta K H a xs:=.inl (.inl h)
theorem Inv.list(I:Inv X b c H s)(h:Pq X.K H a xs):∃d:List Value,Gf xs d/\PlainL s.heap a d.toArray/\xs.length<=Aq:=by
 rcases h with h | ⟨o,d,n,g,f,j,i,k,r⟩
 ·obtain ⟨z,d,n,r,e⟩:=h.ok I.hok
  exact ⟨d,r,⟨_,n,e,rfl,rfl,rfl⟩,z⟩
 ·refine ⟨d.toList,r,⟨o,n,I.kIn a o g,f,j,by simpa using i⟩,?_⟩
  have e:=r.length
  simp only[Am] at e
  omega
theorem Inv.tuple(I:Inv X b c H s)(h:Ta X.K H a xs):∃d:List Value,Gf xs d/\IsTup s.heap a d.toArray/\xs.length<=Aq:=by
 rcases h with h | ⟨o,d,n,g,f,i,j,r⟩
 ·obtain ⟨z,d,r,p⟩:=h.ok I.hok
  exact ⟨d,r,p,z⟩
 ·refine ⟨d.toList,r,⟨o,I.kIn a o g,f,n,by simpa using i⟩,?_⟩
  have e:=r.length
  simp only[Am] at e
  omega
theorem Inv.list_inj(I:Inv X b c H s)(h:Pq X.K H a xs)(h':Pq X.K H a ys):xs=ys:=by
 obtain ⟨g,r,⟨o,n,e,_,_,d⟩,_⟩:=I.list h
 obtain ⟨f,k,⟨l,m,j,_,_,i⟩,_⟩:=I.list h'
 rw[e] at j; cases j
 rw[d] at i
 injection i with d1 _
 have : g=f:=by simpa using congrArg Array.toList d1
 subst this
 exact r.inj k
theorem Inv.tuple_inj(I:Inv X b c H s)(h:Ta X.K H a xs)(h':Ta X.K H a ys):xs=ys:=by
 obtain ⟨g,r,⟨o,e,_,n,d⟩,_⟩:=I.tuple h
 obtain ⟨f,k,⟨l,j,_,m,i⟩,_⟩:=I.tuple h'
 rw[e] at j; cases j
 rw[d] at i
 injection i with d1 _
 have : g=f:=by simpa using congrArg Array.toList d1
 subst this
 exact r.inj k
end
abbrev Cx.wish(X:Cx)(E:Value->Ai->Prop):Cx:={ X with xe:=E }
abbrev Cx.nox(X:Cx):Cx:=X.wish λ_ _=>False
theorem Cx.Ok.wish{X:Cx}(ok:X.Ok)(E:Value->Ai->Prop):(X.wish E).Ok :=
 ⟨ok.mod,ok.kind,ok.glob,ok.blt,ok.above,ok.inj,ok.has,ok.cab,ok.hd,ok.frames,ok.stk,ok.exf,ok.bs,ok.bsz,ok.noex,ok.exfs,ok.funs,ok.frf⟩
theorem Cx.Ok.unwish{X:Cx}{E:Value->Ai->Prop}(ok:(X.wish E).Ok):X.Ok :=
 ⟨ok.mod,ok.kind,ok.glob,ok.blt,ok.above,ok.inj,ok.has,ok.cab,ok.hd,ok.frames,ok.stk,ok.exf,ok.bs,ok.bsz,ok.noex,ok.exfs,ok.funs,ok.frf⟩
section
variable{X:Cx}{a:List (Addr×Obj)}{b:St}{H:Hp}{s:Ai}{E:Value->Ai->Prop}
theorem Inv.wish(I:Inv X a b H s)(E:Value->Ai->Prop):Inv (X.wish E) a b H s:=⟨I.ok.wish E,I.os,I.bare,I.base,I.loc,I.cell,I.free,I.freeC,I.pin,I.hok,I.len⟩
theorem Inv.unwish(I:Inv (X.wish E) a b H s):Inv X a b H s:=⟨I.ok.unwish,I.os,I.bare,I.base,I.loc,I.cell,I.free,I.freeC,I.pin,I.hok,I.len⟩
theorem SP.unwish{D:Ends}{f:Flow}{s':Ai}(h:SP (X.wish E) a D f s'):SP X a D f s':=by
 cases f with
 | next=>obtain ⟨b,c,I,q⟩:=h; exact ⟨b,c,I.unwish,q⟩
 | brk=>obtain ⟨b,c,I,q⟩:=h; exact ⟨b,c,I.unwish,q⟩
 | cont=>obtain ⟨b,c,I,q⟩:=h; exact ⟨b,c,I.unwish,q⟩
 | ret u=>obtain ⟨v,b,c,I,r,q⟩:=h; exact ⟨v,b,c,I.unwish,r,q⟩
theorem tP.nox{st:List Stmt}{t:TS}(h:tP X.nox st t):tP X st t:=λa s b H D I c =>
 Cq (h a s b H D (I.wish _) c) (λ_ _ q=>q.unwish) λ_ _ z=>Kw z
end
section
variable{X:Cx}{st:Stmt}{Ht:List Stmt}{t u:TS}{e:Expr}{g:TE}{pos:Pos}
def FF:TS:=λD a H=>D.nx a H
def IP(t u:TS):TS:=λD a H=>t { D with nx:=u D } a H
theorem iK:tP X [] FF:=λ_ _ a H _ I h=>wpAny_execs_nil ⟨a,H,I,h⟩
theorem Me(g:PS X st t)(d:tP X Ht u):tP X (st::Ht) (IP t u):=by
 intro a s i H D I h
 refine wpAny_execs_cons (Gb (g a s i H { D with nx:=u D } I h) λf j q=>?_)
 cases f with
 | next =>
  obtain ⟨b,e,c,q⟩:=q
  exact d a j b e D c q
 | ret v=>exact q
 | brk=>exact q
 | cont=>exact q
theorem Ur(b:PS X st t):tP X [st] t:=by
 intro a s c H D I h
 refine wpAny_execs_cons (Gb (b a s c H D I h) λf d q=>?_)
 cases f with
 | next=>exact wpAny_execs_nil q
 | ret v=>exact q
 | brk=>exact q
 | cont=>exact q
theorem Inv.quiet{a:List (Addr×Obj)}{b:St}{H:Hp}{s:Ai}(I:Inv X a b H s):interactive X.env=false:=by simp [interactive,I.ok.kind]
def GL(g:TE):TS:=λD a H=>g a H λ_ b=>D.nx a b
theorem sC(f:PE X e g)(j:Nh e none pos.line X.env=pure false:=by rfl):PS X (.Expr e pos) (GL g):=by
 intro a s b H D I h
 exact wpAny_Expr_any (Gb (f a s b H _ I h) λv l ⟨x,i,d,k,c⟩=>⟨b,i,d,c⟩) I.quiet j
def IV(g:TE):TS:=λD a H=>g a H D.rt
theorem Ym(i:PE X e g):PS X (.Return (some e) pos) (IV g):=by
 intro a s b H D I h
 exact wpAny_Return_some (Gb (i a s b H _ I h) λv k ⟨x,j,f,c,d⟩=>⟨x,b,j,f,c,d⟩)
def IM(c:TT)(t u:TS):TS:=λD a H=>c a H λb d=>if b=true then t D a d else u D a d
theorem x5{c:Expr}{a b:List Stmt}{i:TT}(n:PT X c i)(o:tP X a t)(hb:tP X b u):PS X (.If c a b pos) (IM i t u):=by
 intro e s f H D I h
 refine wpAny_If (Gb (n e s f H _ I h) λd m g => ?_)
 obtain ⟨l,k,j⟩ := g
 cases d with
 | true=>exact o e m f l D k j
 | false=>exact hb e m f l D k j
end
abbrev TG:=V->St->Hp->(St->Hp->Prop)->Prop
abbrev P4:=List V->St->Hp->(St->Hp->Prop)->Prop
def PG(X:Cx)(a:Expr)(t:TG):Prop :=
 ∀(b:List (Addr×Obj)) (s:Ai) (e:St) (H:Hp) (v:V) (u:Value) (Q:St->Hp->Prop),Inv X b e H s->RelV v u->t v e H Q ->
  wpAny (model X.prog X.w) X.A (Oc a X.env u) (λ_ f=>∃c d,Inv X b c d f/\Q c d) X.xe s
def BN(X:Cx)(g:List Expr)(t:P4):Prop :=
 ∀(a:List (Addr×Obj)) (s:Ai) (d:St) (H:Hp) (vs:List V) (e:List Value) (Q:St->Hp->Prop),Inv X a d H s->Gf vs e->t vs d H Q ->
  wpAny (model X.prog X.w) X.A (assignInOrder ((Km g X.env).map (·.2)) e) (λ_ f=>∃b c,Inv X a b c f/\Q b c) X.xe s
abbrev CC:=V->V->V->Hp->(Hp->Prop)->Prop
def EE(X:Cx)(t:CC):Prop :=
 ∀(a:List (Addr×Obj)) (s:Ai) (c:St) (H:Hp) (o i v:V) (e d u:Value) (Q:Hp->Prop),Inv X a c H s->RelV o e->RelV i d->RelV v u->t o i v H Q ->
  wpAny (model X.prog X.w) X.A (setItem e d u) (λ_ f=>∃b,Inv X a c b f/\Q b) X.xe s
section
variable{X:Cx}{pos:Pos}
def Sq(i:Nat):TG:=λv a H Q=>Q (a.set i (some v)) H
theorem Mc{i:Nat}{x:Str}(d:X.N.Nodup)(c:X.N[i]? = some x)(f:Loc X.env.scope x)(e:X.fn x=true\/X.env.scope.names.lookup x=some .local:=by first | exact .inl rfl | exact .inr rfl | assumption):PG X (.Name x pos) (Sq i):=by
 intro a s g H v u Q I r h
 exact wpAny_assign_Name (mO I d c f r (λj b=>⟨_,H,b,h⟩) e)
def O0:P4:=λvs a H Q=>vs=[]/\Q a H
def bA(t:TG)(u:P4):P4:=λvs b H Q=>∃v r,vs=v::r/\t v b H λa c=>u r a c Q
theorem aM:BN X [] O0:=by
 intro a s b H vs c Q I r h
 obtain ⟨e,h⟩:=h
 subst e
 cases r
 exact assignInOrder_nil ⟨b,H,I,h⟩
theorem Pj{e:Expr}{es:List Expr}{t:TG}{u:P4}(j:PG X e t)(d:BN X es u)(n:(Km (e::es) X.env).map (·.2)=Oc e X.env::(Km es X.env).map (·.2):=by rfl):BN X (e::es) (bA t u):=by
 intro a s g H vs p Q I r h
 obtain ⟨v,q,l,h⟩:=h
 subst l
 cases r with
 | cons r f =>
  rw[n]
  refine assignInOrder_cons (Gb (j a s g H _ _ _ I r h) λ_ o c => ?_)
  obtain ⟨b,m,k,i⟩ := c
  exact d a o b m _ _ Q k f i
def Q3(K:PySem.W.Frag)(n:Nat)(t:P4):TG:=λv c H Q=>∃a b,v=.ref a/\Ta K H a b/\b.length=n/\t b c H Q
theorem iE{es:List Expr}{k:Nat}{t:P4}{n:Nat}(p:X.calm=true)(h:BN X es t)(y:(Km es X.env).length=n:=by rfl)(f:(Km es X.env).findIdx? (·.1)=none:=by rfl):PG X (.Tuple es k pos) (Q3 X.K n t):=by
 intro c s g H v u Q I r d
 obtain ⟨a,A,z,j,l,d⟩:=d
 subst z
 cases r
 obtain ⟨w,i,m,C⟩:=I.tuple j
 refine assign_Tuple_tuple (I.ok.hd p) m (by simp [y,<- l,i.length]) f λq B=>?_
 have x:Inv X c g H { s with heap:=q }:=I.kept (t':=s.toks) λb o e=>B b o (Bu (Au e)) e
 exact h c _ g H A _ Q x (by simpa using i) d
def IU(e d:TE)(t:CC):TG:=λv a H Q=>e a H λo f=>d a f λi b=>t o i v b λc=>Q a c
theorem pL{o i:Expr}{f g:TE}{t:CC}(B:PE X o f)(m:PE X i g)(k:EE X t)
  (J:∀v,Oc (.Subscript o i pos) X.env v=(do
   let c <- Ny [v] (eval o X.env)
   let d <- Ny [v,c] (eval i X.env)
   Wj pos
   Ny [v,c,d] (setItem c d v)
   release [v,c,d] []):=by intro _; rfl):PG X (.Subscript o i pos) (IU f g t):=by
 intro a s e H v u Q I r h
 rw[J]
 refine Aa (Ck (Gb (B a s e H _ I h) λc E b => ?_))
 obtain ⟨x,C,A,q,n⟩ := b
 refine Aa (Ck (Gb (m a E e C _ A n) λd l b => ?_))
 obtain ⟨y,j,G,F,w⟩ := b
 refine Aa (Ib (Aa (Ck (Gb (k a l e j x y v c d u _ G q F r w) λ_ K b => ?_))))
 obtain ⟨z,p,D⟩ := b
 exact wpAny_release ⟨e,z,p,D⟩
def G3(c:TE)(g:TG):TS:=λD a H=>c a H λx b=>g x a b D.nx
theorem oX{b e:Expr}{d:TE}{g:TG}(l:PE X e d)(n:PG X b g)(o:swapsWithSole [b] e pos.line X.env=pure false:=by rfl)(hw:swappedStores [b] e X.env=pure none:=by rfl)(k:(Km [b] X.env).map (·.2)=[Oc b X.env]:=by rfl):PS X (.Assign [b] e pos) (G3 d g):=by
 intro a s c H D I h
 refine wpAny_Assign_stores (Gb (l a s c H _ I h) λv p ⟨x,m,i,f,j⟩=>?_) o hw
 rw[k]
 exact Gb (n a p c m x v _ i f j) λ_ r q=>q
theorem Yr{i:Nat}{x:Str}{e:Expr}{c:TE}{a:Pos}(n:X.N.Nodup)(f:X.N[i]? = some x)(r:Loc X.env.scope x)(l:PE X e c)(q:Nh e (some (.Name x a)) pos.line X.env=pure false:=by rfl)(o:X.fn x=true\/X.env.scope.names.lookup x=some .local:=by first | exact .inl rfl | exact .inr rfl | assumption):PS X (.Assign [.Name x a] e pos) (G3 c (Sq i)):=by
 intro b s g H D I h
 refine wpAny_Assign_Name (Gb (l b s g H _ I h) λv u ⟨y,p,j,d,k⟩=>?_) q
 exact mO j n f r d (λt m=>⟨_,p,m,k⟩) o
end
structure It where
 go:Nat->Hp->Prop
 yld:Nat->Hp->V->Hp->Prop
 stop:Nat->Hp->Prop
def Ml(X:Cx)(a:List (Addr×Obj))(H:Hp)(b:Addr):Prop :=
 H b=none/\b≠X.env.locals/\b∉X.fs/\(b∈X.ex\/X.s₀.heap.objs.size<=b)/\(∀x c,X.env.cells.lookup x=some c->c≠b)/\∀p∈X.pn++a,p.1≠b
theorem Inv.fpOk{X:Cx}{a:List (Addr×Obj)}{g:St}{H d:Hp}{s:Ai}{b:Addr}(I:Inv X a g H s)(hb:s.heap.objs.size<=b)(h:d b=none):Ml X a d b:=by
 refine ⟨h,Ql (Cc I.lt hb),I.nofs hb,.inr (Cg I.sz hb),λx c e z=>?_,λp f z=>?_⟩
 ·obtain ⟨v,q⟩:=I.cell x c e
  exact absurd (Cc q.lt (by rw[z]; exact hb)) (Fo _)
 ·exact absurd (Cc (Au (I.pin p f).1) (by rw[z]; exact hb)) (Fo _)
structure Turn(P:Bl)(w:World)(K:PySem.W.Frag)(tg:Expr)(J:It)(fp:List Addr)(it:Addr)(tn:Nat->Heap->Prop):Prop where
 mem:it∈fp
 obj:∀i h,tn i h->∀b∈fp,∃o,h.get? b=some o/\∀v,o.data≠.cell v
 keep:∀i h h',tn i h->(∀b∈fp,∀o,h.get? b=some o->h'.get? b=some o)->tn i h'
 item:∀(X:Cx),X.prog=P->X.w=w->X.K=K->X.calm=true->∀(i:Nat) (pins:List (Addr×Obj)) (s:Ai) (σ:St) (H:Hp) (E:Value->Ai->Prop),Inv X pins σ H s->(∀b∈fp,Ml X pins H b)->tn i s.heap->J.go i H ->
  wpAny (model P w) X.A (Hi (.ref it)) (λr s1=>∃u,r=some u /\
   wpAny (model P w) X.A (Ho tg (.ref it) u) (λ_ s2=>∃x H',Inv X pins σ H' s2/\RelV x u/\J.yld i H x H'/\tn (i+1) s2.heap/\∀b∈fp,H' b=none) E s1) E s
 done:∀(X:Cx),X.prog=P->X.w=w->X.K=K->X.calm=true->∀(i:Nat) (pins:List (Addr×Obj)) (s:Ai) (σ:St) (H:Hp) (E:Value->Ai->Prop),Inv X pins σ H s->(∀b∈fp,Ml X pins H b)->tn i s.heap->J.stop i H ->
  wpAny (model P w) X.A (Hi (.ref it)) (λr s1=>r=none/\Inv X pins σ H s1) E s
 self:∀(A:Ce) (i:Nat) (s:Ai) (Q:Value->Ai->Prop) (E:Value->Ai->Prop),tn i s.heap->Q (.ref it) s->wpAny (model P w) A (Zo (.ref it)) Q E s
abbrev TI:=St->Hp->(It->Hp->Prop)->Prop
def JO(X:Cx)(a:List (Addr×Obj))(h:St)(i:Expr)(R:It->Hp->Prop)(d:Value)(f:Ai):Prop :=
 ∃(it:Addr) (e:List Addr) (g:Nat->Heap->Prop) (J:It) (c:Hp),d=.ref it/\Inv X a h c f/\Turn X.prog X.w X.K i J e it g/\g 0 f.heap/\(∀b∈e,Ml X a c b)/\R J c
def PI(X:Cx)(c iter:Expr)(e:TI):Prop :=
 ∀(a:List (Addr×Obj)) (s:Ai) (b:St) (H:Hp) (R:It->Hp->Prop),Inv X a b H s->e b H R ->
  wpAny (model X.prog X.w) X.A (eval iter X.env) (λv d=>wpAny (model X.prog X.w) X.A (Zo v) (JO X a b c R) X.xe d) X.xe s
theorem yO{M:Model}{A:Ce}{E:Value->Ai->Prop}{s:Ai}{b:Expr}{it:Addr}{u:Value}{o:Obj}{n:String}{vs:Array Value}{Q:Unit->Ai->Prop}(d:s.heap.get? it=some o)(c:o.cls=.type n)(hd:o.data=.fields vs)(e:["enumerate", "zip", "dict_itemiterator", "dict_reverseitemiterator", "odict_iterator", "itertools.zip_longest", "itertools.pairwise"].contains n=false)(a:Q () s):wpAny M A (Ho b (.ref it) u) Q E s:=by
  unfold Ho
  cases b <;> first
    | exact Ac a
    | (cases u <;> first
        | exact Ac a
        | (refine Aa (Wi d ?_)
           rw[c,hd]
           show wpAny M A (if (["enumerate", "zip", "dict_itemiterator", "dict_reverseitemiterator", "odict_iterator", "itertools.zip_longest", "itertools.pairwise"].contains n && vs[0]? == some (Er _))=true then _ else _) Q E s
           rw[if_neg (by intro h; rw[e,Bool.false_and] at h; cases h)]
           exact Ac a))
def HQ(K:PySem.W.Frag)(a:Addr):It :=
 ⟨λi H=>∃b x,Pq K H a b/\b[i]? = some x,λi H x c=>c=H/\∀b,Pq K H a b->b[i]? = some x,λi H=>∃b,Pq K H a b/\b.length<=i⟩
def IB(K:PySem.W.Frag)(a:Addr):It :=
 ⟨λi H=>∃b x,Ta K H a b/\b[i]? = some x,λi H x c=>c=H/\∀b,Ta K H a b->b[i]? = some x,λi H=>∃b,Ta K H a b/\b.length<=i⟩
def FO(lo:Int)(n:Nat):It:=⟨λi _=>i<n,λi H x a=>a=H/\x=.int (lo+i),λi _=>n<=i⟩
theorem wI{P:Bl}{w:World}{K:PySem.W.Frag}{Z:Expr}(a it:Addr):Turn P w K Z (HQ K a) [it] it (λi h=>h.IsListIter it a i) where
 mem:=by simp
 obj:=λi h st b g=>by
  have e:b=it:=by simpa using g
  subst e
  obtain ⟨o,e,c,d⟩:=st
  exact ⟨o,e,λv z=>by rw[d] at z; cases z⟩
 keep:=λi h m st k=>st.at λo e=>k it (by simp) o e
 item:=by
  intro X C A r M i f s N H E I n st L
  subst C A r
  obtain ⟨Y,x,l,y⟩:=L
  obtain ⟨D,F,p,V⟩:=I.list l
  obtain ⟨u,O,Q⟩:=F.get y
  obtain ⟨B,G,R,t,J,q⟩:=n it (by simp)
  refine wpAny_pyNext_list_item st p.isList (x:=u) (by simpa using O) λm j sb=>?_
  have T:Inv X f N H { s with heap:=m }:=I.turned (t':=s.toks) (λb o g e=>(sb.2 b g).trans e) B G t J q
  obtain ⟨o,e,c,d⟩:=id j
  exact ⟨u,rfl,yO (s:={ s with heap:=m }) e c d (by decide) ⟨x,H,T,Q,⟨rfl,λys U=>by rw[I.list_inj U l]; exact y⟩,j,λb g=>(n b g).1⟩⟩
 done:=by
  intro X C A r M i f s N H E I n st L
  subst C A r
  obtain ⟨Y,l,y⟩:=L
  obtain ⟨D,F,p,V⟩:=I.list l
  obtain ⟨B,G,R,t,J,q⟩:=n it (by simp)
  have hl:=F.length
  exact wpAny_pyNext_list_end (I.ok.hd M) st p.isList (by simp; omega) λm S=>⟨rfl,I.turned (t':=s.toks) (λb o g e=>S b o g e) B G t J q⟩
 self:=λ_ _ _ _ _ st h=>wpAny_pyIter_listiter st h
theorem pR{P:Bl}{w:World}{K:PySem.W.Frag}{Z:Expr}(a it:Addr):Turn P w K Z (IB K a) [it] it (λi h=>h.IsTupleIter it a i) where
 mem:=by simp
 obj:=λi h st b g=>by
  have e:b=it:=by simpa using g
  subst e
  obtain ⟨o,e,c,d⟩:=st
  exact ⟨o,e,λv z=>by rw[d] at z; cases z⟩
 keep:=λi h n st k=>st.at λo e=>k it (by simp) o e
 item:=by
  intro X D B t M i f s N H E I q st L
  subst D B t
  obtain ⟨Y,x,m,A⟩:=L
  obtain ⟨j,F,p,V⟩:=I.tuple m
  obtain ⟨u,O,Q⟩:=F.get A
  obtain ⟨C,G,R,y,J,r⟩:=q it (by simp)
  refine C8 st (show s.heap.IsTuple a j.toArray from p) (x:=u) (by simpa using O) λn l sb=>?_
  have T:Inv X f N H { s with heap:=n }:=I.turned (t':=s.toks) (λb o g e=>(sb.2 b g).trans e) C G y J r
  obtain ⟨o,e,c,d⟩:=id l
  exact ⟨u,rfl,yO (s:={ s with heap:=n }) e c d (by decide) ⟨x,H,T,Q,⟨rfl,λys U=>by rw[I.tuple_inj U m]; exact A⟩,l,λb g=>(q b g).1⟩⟩
 done:=by
  intro X D B t M i f s N H E I q st L
  subst D B t
  obtain ⟨Y,m,A⟩:=L
  obtain ⟨j,F,p,V⟩:=I.tuple m
  obtain ⟨C,G,R,y,J,r⟩:=q it (by simp)
  have hl:=F.length
  exact E2 (I.ok.hd M) st (show s.heap.IsTuple a j.toArray from p) (by simp; omega) λn S=>⟨rfl,I.turned (t':=s.toks) (λb o g e=>S b o g e) C G y J r⟩
 self:=λ_ _ _ _ _ st h=>wpAny_pyIter_tupleiter st h
theorem qO{P:Bl}{w:World}{K:PySem.W.Frag}{M:Expr}(it:Addr)(lo:Int)(n:Nat):Turn P w K M (FO lo n) [it] it (λi h=>IsRangeIter h it (lo+(i:Nat) * 1) ((n:Int) - (i:Nat)) 1) where
 mem:=by simp
 obj:=λi h st b c=>by
  have e:b=it:=by simpa using c
  subst e
  exact ⟨_,st,λv z=>by
   have F:Data.fields _=Data.cell v:=z
   cases F⟩
 keep:=λi h f st k=>k it (by simp) _ st
 item:=by
  intro X u q m j i a s B H E I g st A
  subst u q m
  obtain ⟨r,x,G,p,y,l⟩:=g it (by simp)
  have W:=Walks.range (prog:=X.prog) (w:=X.w) (I.ok.hd j) it lo 1 n
  refine W.item i s _ _ A st λv f C N d D=>?_
  obtain ⟨t,rfl⟩:=N
  have J:Inv X a B H { s with heap:=f,toks:=C }:=I.turned (λb o c e=>D b o (by simpa using c) e) r x p y l
  refine ⟨_,rfl,yO (s:={ s with heap:=f,toks:=C }) (n := "range_iterator") d rfl rfl (by decide) ⟨.int (lo+i),H,J,⟨t,?_⟩,⟨rfl,rfl⟩,d,λb c=>(g b c).1⟩⟩
  rw[Int.mul_one]
 done:=by
  intro X u q m j i a s B H E I g st A
  subst u q m
  obtain ⟨r,x,G,p,y,l⟩:=g it (by simp)
  exact wpAny_pyNext_range_end (I.ok.hd j) st (by have : n<=i:=A; omega) λf L=>⟨rfl,I.turned (t':=s.toks) (λb o c e=>L b o c e) r x p y l⟩
 self:=λ_ _ _ _ _ st h=>wpAny_pyIter_rangeiter st h
section
variable{X:Cx}{c:Expr}
def EZ(K:PySem.W.Frag)(e:TE):TI:=λc H R=>e c H λx b=>∃a,x=.ref a/\(∃d,Pq K b a d)/\R (HQ K a) b
def IY(K:PySem.W.Frag)(e:TE):TI:=λc H R=>e c H λx b=>∃a,x=.ref a/\(∃d,Ta K b a d)/\R (IB K a) b
theorem P8{l:Expr}{j:TE}(r:PE X l j):PI X c l (EZ X.K j):=by
 intro d s t H R I h
 refine Gb (r d s t H _ I h) λv g i => ?_
 obtain ⟨x,y,f,n,u⟩ := i
 obtain ⟨a,e,⟨B,k⟩,q⟩:=u
 subst e
 cases n
 obtain ⟨w,z,p,A⟩:=f.list k
 refine wpAny_pyIter_list p.isList ?_
 refine ⟨g.heap.objs.size,[g.heap.objs.size],_,_,y,rfl,f.kept (t':=g.toks) λb o e=>Ah _ e,wI a _,⟨_,Ap _ rfl,rfl,rfl⟩,λb m=>?_,q⟩
 have e:b=g.heap.objs.size:=by simpa using m
 subst e
 exact f.fpOk (Aj _) (f.hok.fresh (Aj _))
theorem Y5{l:Expr}{k:TE}(t:PE X l k):PI X c l (IY X.K k):=by
 intro d s u H R I h
 refine Gb (t d s u H _ I h) λv f j => ?_
 obtain ⟨x,y,g,r,w⟩ := j
 obtain ⟨a,e,⟨B,m⟩,q⟩:=w
 subst e
 cases r
 obtain ⟨i,z,p,A⟩:=g.tuple m
 refine wpAny_pyIter_tuple (show f.heap.IsTuple a i.toArray from p) ?_
 refine ⟨f.heap.objs.size,[f.heap.objs.size],_,_,y,rfl,g.kept (t':=f.toks) λb o e=>Ah _ e,pR a _,⟨_,Ap _ rfl,rfl,rfl⟩,λb n=>?_,q⟩
 have e:b=f.heap.objs.size:=by simpa using n
 subst e
 exact g.fpOk (Aj _) (g.hok.fresh (Aj _))
theorem yM{d:List (Addr×Obj)}{f:St}{H:Hp}{s:Ai}{R:It->Hp->Prop}{E:Value->Ai->Prop}{lo a:Int}{t u v:Tok}{h:Nat}(I:Inv X d f H s)(m:-(2 ^ 62)<=lo)(j:lo<2 ^ 62)(p:-(2 ^ 62)<=a)(l:a<2 ^ 62)(q:R (FO lo (a - lo).toNat) H):wpAny (model X.prog X.w) X.A (Zo (.ref s.heap.objs.size)) (JO X d f c R) E { s with heap:=s.heap.push { cls:=.type "range",data:=.fields #[.int lo t,.int a u,.int 1 v] },toks:=h }:=by
 refine wpAny_pyIter_range (IsRange.new ..) (small_one m j p l) ?_
 have g:Inv X d f H { s with heap:=s.heap.push { cls:=.type "range",data:=.fields #[.int lo t,.int a u,.int 1 v] },toks:=h }:=I.kept λb o e=>Ah _ e
 refine ⟨(s.heap.push { cls:=.type "range",data:=.fields #[.int lo t,.int a u,.int 1 v] }).objs.size,[(s.heap.push { cls:=.type "range",data:=.fields #[.int lo t,.int a u,.int 1 v] }).objs.size],_,_,H,rfl,
  g.kept (t':=h) λb o e=>Ah _ e,qO _ lo (a - lo).toNat,?_,λb k=>?_,q⟩
 ·have n:lo+((0:Nat):Int) * 1=lo:=by simp
  have i:(((a - lo).toNat:Nat):Int) - ((0:Nat):Int)=Kz lo a 1:=by rw[rangeSize_one]; split <;> omega
  show IsRangeIter _ _ (lo+((0:Nat):Int) * 1) ((((a - lo).toNat:Nat):Int) - ((0:Nat):Int)) 1
  rw[n,i]
  exact Ap _ rfl
 ·have e:b=(s.heap.push { cls:=.type "range",data:=.fields #[.int lo t,.int a u,.int 1 v] }).objs.size:=by simpa using k
  subst e
  exact g.fpOk (Aj _) (g.hok.fresh (Aj _))
def FH(b:TA):TI:=λa H R=>b a H λvs c=>∃j:Int,vs=[.int j] /\ -(2 ^ 62)<=j/\j<2 ^ 62/\R (FO 0 j.toNat) c
theorem xJ{a:Expr}{f:TA}{p pos:Pos}(o:Gl X "range")(g:X.mg "range" = none)(v:PA X [a] f)(u:Bn [a] X.env=[(false,eval a X.env)]:=by rfl):PI X c (.Call (.Name "range" p) [a] [] pos) (FH f):=by
 intro b s m H R I h
 refine Call_ (Ry I o g boot_range (Fi (Gb (v pos b s m H _ I h) λw y ⟨vs,x,n,i,d⟩=>?_) u rfl))
 obtain ⟨j,e,d,k,q⟩:=d
 subst e
 cases i with
 | cons r l =>
  cases l
  obtain ⟨t,rfl⟩:=r
  exact call_range_1 (yM n (by omega) (by omega) d k (by simpa using q))
def IF(k:TI)(g:TG)(h:TS):TS:=λD a H=>k a H λJ j=>∃W:Nat->Nat->St->Hp->Prop,(∃m,W 0 m a j)/\∀i m a H,W i m a H ->
 (J.stop i H/\D.nx a H)\/(J.go i H/\∃N:St->Hp->Prop,(∀b c,N b c->∃e,e<m/\W (i+1) e b c)/\∀x c,J.yld i H x c->g x a c λd f=>h { D with nx:=N,ct:=N,bk:=D.nx } d f)
def Oz(fp:List Addr)(h:Heap):List (Addr×Obj):=fp.filterMap λb=>(h.get? b).map λo=>(b,o)
theorem Fz{fp:List Addr}{h:Heap}{b:Addr}{o:Obj}(hb:b∈fp)(e:h.get? b=some o):(b,o)∈Oz fp h:=List.mem_filterMap.mpr ⟨b,hb,by rw[e]; rfl⟩
theorem uX{fp:List Addr}{h:Heap}{p:Addr×Obj}(d:p∈Oz fp h):p.1∈fp/\h.get? p.1=some p.2:=by
 obtain ⟨b,c,e⟩:=Zb.mp d
 cases q:h.get? b with
 | none=>rw[q] at e; cases e
 | some o =>
  rw[q] at e
  have a:(b,o)=p:=Bv e
  subst a
  exact ⟨c,q⟩
theorem Inv.pinned{a:List (Addr×Obj)}{f:St}{H:Hp}{s:Ai}{fp:List Addr}(I:Inv X a f H s)(k:∀b∈fp,Ml X a H b)(j:∀b∈fp,∃o,s.heap.get? b=some o/\∀v,o.data≠.cell v):Inv X (a++Oz fp s.heap) f H s :=
 I.pins_of λp i=>(Aw.mp i).elim (λz=>I.pin p (Ag _ z)) λz=>by
  obtain ⟨c,e⟩:=uX z
  obtain ⟨l,h,m,_⟩:=k p.1 c
  obtain ⟨o,g,d⟩:=j p.1 c
  rw[e] at g; cases g
  exact ⟨e,l,h,m,d⟩
theorem Inv.unpinned{a d:List (Addr×Obj)}{b:St}{H:Hp}{s:Ai}(I:Inv X (a++d) b H s):Inv X a b H s:=I.pins_of λp c=>I.pin p (Ag _ (Ak _ c))
theorem BW{iter:Expr}{C:List Stmt}{wi:TI}{g:TG}{tb:TS}{pos:Pos}(L:PassesOwn (model X.prog X.w) X.A X.env X.xe)(hc:X.calm=true)(hi:PI X c iter wi)(hg:PG X c g)(hb:tP X C tb)(hs:∀x,Cz iter X.env x=pure x:=by intro _; rfl):PS X (.For c iter C [] pos) (IF wi g tb):=by
 intro a s σ H D I h
 refine wpAny_For (Gb (hi a s σ H _ I h) λv s1 h1=>Gb h1 λh0 s2 h2=>?_) hs
 obtain ⟨it,G,tn,J,H2,e,I2,T,R,f2,W,⟨m0,w0⟩,O⟩:=h2
 subst e
 -- what stays true of the iterator's objects through the loop
 have q:∀{z:Hp},(∀b∈G,z b=none)->∀b∈G,Ml X a z b:=λhn b hb=>⟨hn b hb,(f2 b hb).2⟩
 refine codeAny_forLoop_any (λn s'=>∃i p z,Inv X a p z s'/\tn i s'.heap/\(∀b∈G,z b=none)/\W i n p z) ?_ m0 ⟨0,σ,H2,I2,R,λb hb=>(f2 b hb).1,w0⟩
 (intro n s3 q_; obtain ⟨i,l,Q,I3,P,K,w3⟩ := q_)
 rcases O i n l Q w3 with ⟨M,qn⟩ | ⟨go,N,hN,step⟩
 ·refine Qu L (Gb (T.done X rfl rfl rfl hc i a s3 l Q X.xe I3 (q K) P M) λr s4 k => ?_)
  obtain ⟨U,I4⟩ := k
  subst U
  exact wpAny_execs_nil ⟨l,Q,I4,qn⟩
 ·refine Qu L (Gb (T.item X rfl rfl rfl hc i a s3 l Q X.xe I3 (q K) P go) λr s4 k => ?_)
  obtain ⟨u,U,h4⟩ := k
  subst U
  refine Qu L (Gb h4 λ_ s5 k => ?_)
  obtain ⟨x,H5,I5,r5,y5,E,Y⟩ := k
  have Z:=I5.pinned (q Y) (T.obj _ _ E)
  refine Qu L (Gb (hg _ s5 l H5 x u _ Z r5 (step x H5 y5)) λ_ s6 k => ?_)
  obtain ⟨S,H6,I6,q6⟩ := k
  refine Qu L (Gb (hb _ s6 S H6 _ I6 q6) λf V B=>?_)
  have again:∀{j:St} {y:Hp},Inv X (a++Oz G s5.heap) j y V->N j y->∃m,m<n/\∃i p z,Inv X a p z V/\tn i V.heap/\(∀b∈G,z b=none)/\W i m p z:=λ{j y} t F=>by
   obtain ⟨m',hm,w7⟩:=hN j y F
   refine ⟨m',hm,i+1,j,y,t.unpinned,T.keep _ _ _ E λb hb o e=>(t.pin (b,o) (Ag _ (Ag _ (Fz hb e)))).1,λb hb=>?_,w7⟩
   obtain ⟨o,e,d⟩:=T.obj _ _ E b hb
   exact (t.pin (b,o) (Ag _ (Ag _ (Fz hb e)))).2.1
  cases f with
  | next=>obtain ⟨j,y,t,F⟩:=B; exact again t F
  | cont=>obtain ⟨j,y,t,F⟩:=B; exact again t F
  | brk=>obtain ⟨j,y,t,B⟩:=B; exact ⟨j,y,t.unpinned,B⟩
  | ret v=>obtain ⟨x7,j,y,t,r7,B⟩:=B; exact ⟨x7,j,y,t.unpinned,r7,B⟩
end
abbrev R2:=V->V->Hp->VK->Prop
def Xu(X:Cx)(f:Value->Value->Sem Value)(r:R2):Prop :=
 ∀(a:List (Addr×Obj)) (s:Ai) (b:St) (H:Hp) (x y:V) (v u:Value) (Q:VK),Inv X a b H s->RelV x v->RelV y u->r x y H Q ->
  wpAny (model X.prog X.w) X.A (f v u) (EP X a b Q) X.xe s
def HU(X:Cx)(f:Value->Sem Value)(r:V->Hp->VK->Prop):Prop :=
 ∀(a:List (Addr×Obj)) (s:Ai) (b:St) (H:Hp) (x:V) (v:Value) (Q:VK),Inv X a b H s->RelV x v->r x H Q ->
  wpAny (model X.prog X.w) X.A (f v) (EP X a b Q) X.xe s
def Mf(X:Cx)(f:Value)(r:List V->Hp->VK->Prop):Prop :=
 ∀(a:List (Addr×Obj)) (s:Ai) (b:St) (H:Hp) (c:List V) (d:List Value) (Q:VK),Inv X a b H s->Gf c d->r c H Q ->
  wpAny (model X.prog X.w) X.A (call f d) (EP X a b Q) X.xe s
def HY(X:Cx)(r:V->Hp->(Bool->Hp->Prop)->Prop):Prop :=
 ∀(a:List (Addr×Obj)) (s:Ai) (b:St) (H:Hp) (x:V) (v:Value) (Q:Bool->Hp->Prop),Inv X a b H s->RelV x v->r x H Q ->
  wpAny (model X.prog X.w) X.A (truthy v) (TP X a b Q) X.xe s
def GN(r:R2)(c d:TE):TE:=λa H Q=>c a H λx e=>d a e λy b=>r x y b Q
def KD(r:V->Hp->VK->Prop)(b:TE):TE:=λa H Q=>b a H λx c=>r x c Q
def rI(C:Int->Int->Prop)(g:Int->Int->V):R2:=λx y H Q=>∃i j,x=.int i/\y=.int j/\C i j/\Q (g i j) H
def V2(g:Int->Int->V):R2:=λx y H Q=>∃i j,x=.int i/\y=.int j/\Q (g i j) H
def rU(g:Int->V):V->Hp->VK->Prop:=λx H Q=>∃i,x=.int i/\Q (g i) H
section
variable{X:Cx}{a b c:Expr}{d e k:TE}{pos:Pos}
theorem AX(C:PE X a d)(hb:PE X b e){c:List (Addr×Obj)}{s:Ai}{j:St}{H:Hp}{R:V->V->Hp->Prop}(I:Inv X c j H s)(h:d j H λx n=>e j n λy i=>R x y i){Q:Value->Ai->Prop}{f:Value->Value->Sem Value}(B:∀v u m x y i,Inv X c j i m->RelV x v->RelV y u->R x y i->wpAny (model X.prog X.w) X.A (f v u) Q X.xe m):wpAny (model X.prog X.w) X.A (eval a X.env) (λv k=>wpAny (model X.prog X.w) X.A (eval b X.env) (λu l=>wpAny (model X.prog X.w) X.A (f v u) Q X.xe l) X.xe k) X.xe s:=by
 refine Gb (C c s j H _ I h) λv D g => ?_
 obtain ⟨x,n,t,q,r⟩ := g
 refine Gb (hb c D j n _ t r) λu m g => ?_
 obtain ⟨y,i,z,o,p⟩ := g
 exact B v u m x y i z q o p
theorem Jt{op:Operator}{r:R2}(l:Xu X (Jb op) r)(n:PE X a d)(hb:PE X b e):PE X (.BinOp a op b pos) (GN r d e):=by
 intro c s j H Q I h
 exact wpAny_BinOp (AX n hb I h λv u m x y f k g i q=>l c m j f x y v u Q k g i q)
theorem GI{op:UnaryOp}{r:V->Hp->VK->Prop}(i:HU X (unaryOp op) r)(k:PE X a d):PE X (.UnaryOp op a pos) (KD r d):=by
 intro b s c H Q I h
 exact UnaryOp_ (Gb (k b s c H _ I h) λv l ⟨x,j,g,e,f⟩=>i b l c j x v Q g e f)
theorem EB{f:Value->Value->Sem Value}{C:Int->Int->Prop}{g:Int->Int->Int}(rule:∀(i j:Int) (t u:Tok) (s:Ai) (Q:Value->Ai->Prop) (E:Value->Ai->Prop),C i j->Q (.int (g i j) s.toks) { s with toks:=s.toks+1 }->wpAny (model X.prog X.w) X.A (f (.int i t) (.int j u)) Q E s):Xu X f (rI C λi j=>.int (g i j)):=by
 intro a s k H x y v u Q I b c h
 obtain ⟨i,j,rfl,rfl,d,q⟩:=h
 obtain ⟨t,rfl⟩:=b
 obtain ⟨e,rfl⟩:=c
 exact rule i j t e s _ _ d ⟨.int (g i j),H,I.tok _,⟨_,rfl⟩,q⟩
theorem EF{f:Value->Value->Sem Value}{g:Int->Int->Int}(rule:∀(i j:Int) (t u:Tok) (s:Ai) (Q:Value->Ai->Prop) (E:Value->Ai->Prop),Q (.int (g i j) s.toks) { s with toks:=s.toks+1 }->wpAny (model X.prog X.w) X.A (f (.int i t) (.int j u)) Q E s):Xu X f (V2 λi j=>.int (g i j)):=by
 intro a s e H x y v u Q I b c h
 obtain ⟨i,j,rfl,rfl,q⟩:=h
 obtain ⟨t,rfl⟩:=b
 obtain ⟨d,rfl⟩:=c
 exact rule i j t d s _ _ ⟨.int (g i j),H,I.tok _,⟨_,rfl⟩,q⟩
theorem X5{f:Value->Value->Sem Value}{g:Int->Int->Bool}(rule:∀(i j:Int) (t u:Tok) (s:Ai) (Q:Value->Ai->Prop) (E:Value->Ai->Prop),Q (.bool (g i j)) s->wpAny (model X.prog X.w) X.A (f (.int i t) (.int j u)) Q E s):Xu X f (V2 λi j=>.bl (g i j)):=by
 intro a s e H x y v u Q I b c h
 obtain ⟨i,j,rfl,rfl,q⟩:=h
 obtain ⟨t,rfl⟩:=b
 obtain ⟨d,rfl⟩:=c
 exact rule i j t d s _ _ ⟨.bl (g i j),H,I,rfl,q⟩
def AZ(i j:Int):Prop:=0<j/\j<1073741824
def HS(i j:Int):Prop:=0<=j/\j<=1000000/\i.natAbs<2 ^ 64
def zI(i j:Int):Prop:=(-(2 ^ 64)<i/\i<2 ^ 64)\/(-(2 ^ 64)<j/\j<2 ^ 64)
theorem zI.ok{i j:Int}(h:zI i j):IntMulOk i j:=by
 rcases h with ⟨a,b⟩ | ⟨a,b⟩
 ·exact .of_left (intBits_le_64 a b)
 ·exact .of_right (intBits_le_64 a b)
theorem bT:Xu X (Jb .Add) (V2 λi j=>.int (i+j)):=EF λ_ _ _ _ _ _ _ q=>add_int q
theorem BS:Xu X (Jb .Sub) (V2 λi j=>.int (i - j)):=EF λ_ _ _ _ _ _ _ q=>sub_int q
theorem Yc:Xu X (Jb .Mult) (rI zI λi j=>.int (i * j)):=EB λ_ _ _ _ _ _ _ a q=>mul_int q a.ok
theorem jK:Xu X (Jb .FloorDiv) (rI AZ λi j=>.int (i / j)):=EB λi j _ _ _ _ _ a q=>by
 have c:(0:Int)<j:=a.1
 have b:j<1073741824:=a.2
 exact floordiv_int (by omega) (by rw[Int.fdiv_eq_ediv_of_nonneg i (by omega)]; exact q) (.inl (PyProof.noPylong_small (by omega)))
theorem Vx:Xu X (Jb .Mod) (rI (λ_ j=>0<j) λi j=>.int (i % j)):=EB λi j _ _ _ _ _ a q=>by
 have b:(0:Int)<j:=a
 exact mod_int' (by omega) (by rw[Int.fmod_eq_emod_of_nonneg i (by omega)]; exact q)
theorem iJ:Xu X (Jb .Pow) (rI HS λi j=>.int (i ^ j.toNat)):=EB λ_ _ _ _ _ _ _ a q=>pow_int_small a.1 a.2.1 a.2.2 q
theorem KC{f:Value->Sem Value}{g:Int->Int}(rule:∀(i:Int) (t:Tok) (s:Ai) (Q:Value->Ai->Prop) (E:Value->Ai->Prop),Q (.int (g i) s.toks) { s with toks:=s.toks+1 }->wpAny (model X.prog X.w) X.A (f (.int i t)) Q E s):HU X f (rU λi=>.int (g i)):=by
 intro a s c H x v Q I b h
 obtain ⟨i,rfl,q⟩:=h
 obtain ⟨t,rfl⟩:=b
 exact rule i t s _ _ ⟨.int (g i),H,I.tok _,⟨_,rfl⟩,q⟩
theorem AO:HU X (unaryOp .USub) (rU λi=>.int (-i)):=KC λ_ _ _ _ _ q=>neg_int q
end
section
variable{X:Cx}{a b c:Expr}{d f g:TE}{pos:Pos}
theorem T9:Xu X (Iz .Lt) (V2 λi j=>.bl (decide (i<j))):=X5 λ_ _ _ _ _ _ _ q=>lt_int q
theorem GH:Xu X (Iz .Gt) (V2 λi j=>.bl (decide (j<i))):=X5 λ_ _ _ _ _ _ _ q=>gt_int q
theorem FS:Xu X (Iz .GtE) (V2 λi j=>.bl (decide (j<=i))):=X5 λ_ _ _ _ _ _ _ q=>ge_int q
theorem Vs(b:Expr){op:CmpOp}(h:op≠.In:=by decide)(c:op≠.NotIn:=by decide):Hd op b=false:=by
 have d:(op == CmpOp.In)=false:=by cases op <;> first | rfl | exact absurd rfl h
 have a:(op == CmpOp.NotIn)=false:=by cases op <;> first | rfl | exact absurd rfl c
 cases b <;> simp [Hd,d,a]
theorem P7{op:CmpOp}{r:R2}(m:Xu X (Iz op) r)(o:PE X a d)(hb:PE X b f)(i:Hd op b=false):PE X (.Compare a [op] [b] pos) (GN r d f):=by
 intro c s k H Q I h
 exact wpAny_Compare1 (AX o hb I h λv u n x y e l g j q=>m c n k e x y v u Q l g j q) i
def GF(t:TE):TT:=λa H Q=>t a H λx b=>∃k,x=.bl k/\Q k b
theorem rX{op:CmpOp}{r:R2}(B:Xu X (Iz op) r)(J:PE X a d)(hb:PE X b f)(l:Hd op b=false):PT X (.Compare a [op] [b] pos) (GF (GN r d f)):=by
 intro g s i H Q I h
 refine wpAny_isTrue_Compare1 (Gb (J g s i H _ I h) λv E ⟨x,C,A,q,o⟩=>Gb (hb g E i C _ A o) λu n ⟨y,j,G,F,t⟩ =>
  Gb (B g n i j x y v u _ G q F t) λc K ⟨z,w,p,m,k,e,D⟩=>?_) l
 subst e
 cases m
 exact Le ⟨w,p,D⟩
def IQ(K:PySem.W.Frag)(x:V)(H:Hp)(k:Bool):Prop :=
 match x with
 | .non=>k=false
 | .bl b=>k=b
 | .int i=>k=(i != 0)
 | .str y=>y.length<=Aq/\k=((y.length:Int) != 0)
 | .byt y=>y.size<=Aq/\k=((y.size:Int) != 0)
 | .ref p=>(∃c,Pq K H p c/\k = !c.isEmpty)\/(∃c,Ta K H p c/\k = !c.isEmpty)\/∃a,H p=some (.dK a)/\k = !a.isEmpty
 | _=>False
theorem oW{b:Type}{a:List (b×V)}{vs:List (b×Value)}(r:KV a vs):(!vs.isEmpty) = !a.isEmpty:=by
 cases r <;> rfl
theorem bE{xs:List V}{a:List Value}(r:Gf xs a):(!a.toArray.isEmpty) = !xs.isEmpty:=by
 cases r <;> simp
theorem Yy:(Aq:Nat)<2 ^ 63:=by rw[Hh]; decide
theorem IW:HY X (λx H Q=>∃k,IQ X.K x H k/\Q k H):=by
 intro u s C H x v Q I g h
 obtain ⟨k,e,q⟩:=h
 have B:=Yy
 have D:Aq=16777216:=Hh
 cases x with
 | non =>
  cases g
  have a:k=false:=e
  subst a
  exact truthy_none ⟨H,I,q⟩
 | bl b =>
  cases g
  have a:k=b:=e
  subst a
  exact Le ⟨H,I,q⟩
 | int i =>
  obtain ⟨t,rfl⟩:=g
  have a:k=(i != 0):=e
  subst a
  exact PySem.P.truthy_int ⟨H,I,q⟩
 | str y =>
  obtain ⟨t,rfl⟩:=g
  obtain ⟨A,a⟩ : y.length<=Aq/\k=((y.length:Int) != 0):=e
  subst a
  exact PySem.P.truthy_str (by omega) ⟨H,I.tok _,q⟩
 | byt y =>
  obtain ⟨t,rfl⟩:=g
  obtain ⟨A,a⟩ : y.size<=Aq/\k=((y.size:Int) != 0):=e
  subst a
  exact PySem.W.truthy_bytes (by omega) ⟨H,I.tok _,q⟩
 | ref p =>
  cases g
  have a:(∃f,Pq X.K H p f/\k = !f.isEmpty)\/(∃f,Ta X.K H p f/\k = !f.isEmpty)\/∃c,H p=some (.dK c)/\k = !c.isEmpty:=e
  rcases a with ⟨f,j,a⟩ | ⟨f,j,a⟩ | ⟨c,j,a⟩
  ·subst a
   obtain ⟨l,r,n,o⟩:=I.list j
   have d:=r.length
   exact wpAny_truthy_list n.isList (by simp only[Ar]; omega) ⟨H,I.tok _,by rw[bE r]; exact q⟩
  ·subst a
   obtain ⟨l,r,n,o⟩:=I.tuple j
   have d:=r.length
   exact truthy_tuple n (by simp only[Ar]; omega) ⟨H,I.tok _,by rw[bE r]; exact q⟩
  ·subst a
   obtain ⟨o,z,vs,r,m⟩ : c.length<=Aq/\(p == Gm)=false/\∃vs,KV c vs/\s.heap.DictOf (Hn X.prog X.w) p vs:=I.hok p _ j
   have d:c.length=vs.length:=Paired.length r
   exact wpAny_truthy_dict z m (by omega) ⟨H,I.tok _,by rw[oW r]; exact q⟩
 | _=>exact (show False from e).elim
theorem vals1{x:V}{us:List Value}(r:Gf [x] us):∃u,us=[u]/\RelV x u:=by
 cases r with
 | cons b a=>cases a; exact ⟨_,rfl,b⟩
theorem vals2{x y:V}{us:List Value}(r:Gf [x,y] us):∃u a,us=[u,a]/\RelV x u/\RelV y a:=by
 cases r with
 | cons c b =>
  cases b with
  | cons e d=>cases d; exact ⟨_,_,rfl,c,e⟩
theorem uU(c:X.calm=true):Mf X (.builtin "max") (λxs H Q=>∃i j,xs=[.int i,.int j]/\Q (.int (if j > i then j else i)) H):=by
 intro b s d H xs f Q I r h
 obtain ⟨i,j,rfl,q⟩:=h
 obtain ⟨u,l,rfl,⟨t,rfl⟩,⟨g,rfl⟩⟩:=vals2 r
 refine max_two_ints (I.ok.hd c) λe m k=>⟨_,H,I.kept k,?_,q⟩
 by_cases a:j > i
 ·rw[if_pos a,if_pos a]; exact ⟨_,rfl⟩
 ·rw[if_neg a,if_neg a]; exact ⟨_,rfl⟩
theorem fF:Mf X (.type "int") (λxs H Q=>(∃i,xs=[.int i]/\Q (.int i) H)\/∃k,xs=[.bl k]/\Q (.int (if k then 1 else 0)) H):=by
 intro a s c H xs d Q I r h
 rcases h with ⟨i,rfl,q⟩ | ⟨k,rfl,q⟩
 ·obtain ⟨u,rfl,t,rfl⟩:=vals1 r
  exact call_int_int ⟨.int i,H,I,⟨_,rfl⟩,q⟩
 ·obtain ⟨u,rfl,b⟩:=vals1 r
  cases b
  exact call_int_bool ⟨.int (if k then 1 else 0),H,I.tok _,⟨_,rfl⟩,q⟩
def EJ(K:PySem.W.Frag)(x:V)(H:Hp)(n:Nat):Prop :=
 match x with
 | .str y=>y.length<=Aq/\n=y.length
 | .byt y=>y.size<=Aq/\n=y.size
 | .ref p=>(∃a,Pq K H p a/\n=a.length)\/∃a,Ta K H p a/\n=a.length
 | _=>False
theorem Tv:Mf X (.builtin "len") (λxs H Q=>∃x n,xs=[x]/\EJ X.K x H n/\Q (.int n) H):=by
 intro j s o H xs v Q I r h
 obtain ⟨x,n,rfl,e,q⟩:=h
 obtain ⟨u,rfl,c⟩:=vals1 r
 have m:=Yy
 have w:Aq=16777216:=Hh
 cases x with
 | str y =>
  obtain ⟨t,rfl⟩:=c
  obtain ⟨k,b⟩ : y.length<=Aq/\n=y.length:=e
  subst b
  exact len_str (by omega) ⟨.int _,H,I.tok _,⟨_,rfl⟩,q⟩
 | byt y =>
  obtain ⟨t,rfl⟩:=c
  obtain ⟨k,b⟩ : y.size<=Aq/\n=y.size:=e
  subst b
  exact PySem.W.len_bytes (by omega) ⟨.int _,H,I.tok _,⟨_,rfl⟩,q⟩
 | ref p =>
  cases c
  have b:(∃xs,Pq X.K H p xs/\n=xs.length)\/∃xs,Ta X.K H p xs/\n=xs.length:=e
  rcases b with ⟨xs,i,b⟩ | ⟨xs,i,b⟩
  ·subst b
   obtain ⟨d,f,g,l⟩:=I.list i
   have a:=f.length
   exact Calls.call_len_list g.isList (by simp only[Ar]; omega) ⟨.int xs.length,H,I.tok _,⟨_,by simp only[Ar]; rw[a]⟩,q⟩
  ·subst b
   obtain ⟨d,f,g,l⟩:=I.tuple i
   have a:=f.length
   exact len_tuple g (by simp only[Ar]; omega) ⟨.int xs.length,H,I.tok _,⟨_,by simp only[Ar]; rw[a]⟩,q⟩
 | _=>exact (show False from e).elim
end
structure ObjM(h:Heap)(x dx C:Addr)(mA:Str->Option Value):Prop where
 obj:h.get? x=some (PySem.W.instObj C dx)
 ns:h.Ns1 dx mA
 ne:dx≠x
theorem wR{h:Heap}{d:Addr}{c:Str->Option Value}(n:h.Ns1 d c):∃f,h.get? d=some f/\∀name,PySem.W.lookIn name f=some (c name):=by
 obtain ⟨o,g,r,l,p,k,_,i⟩:=n
 refine ⟨o,l,λname=>?_⟩
 have e:=i name
 unfold nsFind findBy at e
 rw[<- Array.find?_toList] at e
 unfold PySem.W.lookIn
 rw[p]
 dsimp only
 split
 ·rename_i y q
  rw[q] at e
  exact congrArg some e
 ·rename_i q
  rw[q] at e
  have a:g.toList.any (·.refKey)=false:=by
   rw[List.any_eq_false]
   intro y m
   obtain ⟨z,t,b⟩:=k y (Array.mem_toList_iff.mp m)
   simp [DictEntry.refKey,b]
  have j:¬ g.toList.any (·.refKey)=true:=by rw[a]; exact Bp
  rw[if_neg j]
  exact congrArg some e
theorem ObjM.look{h:Heap}{x c C:Addr}{b:Str->Option Value}(I:ObjM h x c C b):∃a,PySem.W.InstAt h x (PySem.W.instObj C c) C (some a)/\∀name,PySem.W.lookIn name a=some (b name) :=
 let ⟨a,ho,hl⟩:=wR I.ns
 ⟨a,⟨I.obj,rfl,rfl,ho⟩,hl⟩
theorem oI.some_of{v:V}{o:Option Value}(r:oI (some v) o):∃u,o=some u/\RelV v u:=by
 cases o with
 | none=>exact (show False from r).elim
 | some u=>exact ⟨u,rfl,r⟩
section
variable{P:Bl}{w:World}{H g:Hp}{h h':Heap}{a C b:Addr}{fs c:List (Str×V)}
theorem Q9(g:Vh P w H h)(e:H a=some (.ins C b fs)):∃c,ObjM h a b C c/\(∀f,oI (fs.lookup f) (c f))/\PySem.Within c (fs.map (·.1))/\fs.length<=1000/\H b=some (.own a):=by
 obtain ⟨d,z,i,j,c,n,r,q⟩:=(show Hl P w H h a (.ins C b fs) from g a _ e)
 exact ⟨c,⟨j,n,i⟩,r,q,z,d⟩
end
structure Cls(K:PySem.W.Frag)(C:Addr):Prop where
 pg:PySem.W.plainGet K C Str.empty=true
 hd:PySem.W.hasDictIn K C=true
 po:PySem.W.plainOver K C=true
 sa:PySem.W.findIn K (.ref C) "__setattr__" = some (some (.builtin "object.__setattr__"))
theorem Cls.get{K:PySem.W.Frag}{C:Addr}(c:Cls K C)(f:Str):PySem.W.plainGet K C f=true:=c.pg
section
variable{X:Cx}{d:List (Addr×Obj)}{f:St}{H:Hp}{s:Ai}{A:Ce}{E:Value->Ai->Prop}{Q:Value->Ai->Prop}{c:Value}{b:Bool}
inductive TyOf (K:PySem.W.Frag) (H:Hp):V->Value->Prop where
 | non:TyOf K H .non (.type "NoneType")
 | bl (x:Bool):TyOf K H (.bl x) (.type "bool")
 | int (i:Int):TyOf K H (.int i) (.type "int")
 | str (x:Str):TyOf K H (.str x) (.type "str")
 | flt (x:UInt64):TyOf K H (.flt x) (.type "float")
 | lst {a:Addr} {xs:List V} (e:H a=some (.lst xs)):TyOf K H (.ref a) (.type "list")
 | frz {a:Addr} {o:Obj} {xs:List V} (e:H a=some (.frz o (.lst xs))):TyOf K H (.ref a) (.type "list")
 | tup {a:Addr} {xs:List V} (e:H a=some (.tup xs)):TyOf K H (.ref a) (.type "tuple")
 | dK {a:Addr} {kvs:List (Jo×V)} (e:H a=some (.dK kvs)):TyOf K H (.ref a) (.type "dict")
 | dT {a:Addr} {kvs:List (List Jo×V)} (e:H a=some (.dT kvs)):TyOf K H (.ref a) (.type "dict")
 | ins {a C dx:Addr} {fs:List (Str×V)} (e:H a=some (.ins C dx fs)) (cl:Cls K C) (ha:PySem.W.findIn K (.ref C) "__class__" = some (some (.builtin "object.__class__")))
   (hn:PySem.W.specialIn K (.builtin "object.__class__") "__get__" = some (some (.builtin "getset_descriptor.__get__"))) (htk:PySem.W.takesIn K (.builtin "object.__class__")=some true)
   (hm:PySem.W.mroIn K C (.type "object")=some true):TyOf K H (.ref a) (.ref C)
theorem xH{x:V}{u t:Value}(I:Inv X d f H s)(g:RelV x u)(ty:TyOf X.K H x t)(e:PySem.W.kitOne X.K t c=some b)(h:∀N,Q (.bool b) { s with toks:=N }):wpAny (model X.prog X.w) A (call (.builtin "isinstance") [u,c]) Q E s:=by
 cases ty with
 | non=>cases (show u=Fp from g); exact PySem.W.kia_one PySem.W.kitx_none I.kIn Jq e (λz=>nomatch z) h
 | bl y=>cases (show u=Value.bool y from g); exact PySem.W.kia_one PySem.W.kitx_bool I.kIn Jq e (λz=>nomatch z) h
 | int i=>obtain ⟨t,q⟩:=(show ∃t,u=Lb i t from g); cases q; exact PySem.W.kia_one PySem.W.kitx_int I.kIn Jq e (λz=>nomatch z) h
 | str y=>obtain ⟨t,q⟩:=(show ∃t,u=Value.str y t from g); cases q; exact PySem.W.kia_one PySem.W.kitx_str I.kIn Jq e (λz=>nomatch z) h
 | flt y=>obtain ⟨t,q⟩:=(show ∃t,u=Value.float y t from g); cases q; exact PySem.W.kia_one PySem.W.kitx_float I.kIn Jq e (λz=>nomatch z) h
 | @lst a m j =>
  cases (show u=Ay a from g)
  obtain ⟨_,_,n,_,k⟩:=(show Hl X.prog X.w H s.heap a (.lst m) from I.hok a _ j)
  exact PySem.W.kia_one PySem.W.kitx_list I.kIn ⟨_,k,rfl⟩ e (λz=>nomatch z) h
 | @frz a L m j =>
  cases (show u=Ay a from g)
  obtain ⟨_,_,_,n,_,k⟩:=(show Hl X.prog X.w H s.heap a (.frz L (.lst m)) from I.hok a _ j)
  exact PySem.W.kia_one PySem.W.kitx_list I.kIn ⟨_,k,rfl⟩ e (λz=>nomatch z) h
 | @tup a m j =>
  cases (show u=Ay a from g)
  obtain ⟨_,_,_,p⟩:=(show Hl X.prog X.w H s.heap a (.tup m) from I.hok a _ j)
  obtain ⟨o,k,r,_⟩:=p
  exact PySem.W.kia_one PySem.W.kitx_tuple I.kIn ⟨o,k,r⟩ e (λz=>nomatch z) h
 | @dK a l j =>
  cases (show u=Ay a from g)
  obtain ⟨_,_,vs,_,p⟩:=(show Hl X.prog X.w H s.heap a (.dK l) from I.hok a _ j)
  obtain ⟨o,P,G,k,r,_⟩:=p
  exact PySem.W.kia_one PySem.W.kitx_dict I.kIn ⟨o,k,r.1⟩ e (λz=>nomatch z) h
 | @dT a l j =>
  cases (show u=Ay a from g)
  obtain ⟨_,_,m,_,o,P,G,k,r,_⟩:=(show Hl X.prog X.w H s.heap a (.dT l) from I.hok a _ j)
  exact PySem.W.kia_one PySem.W.kitx_dict I.kIn ⟨o,k,r.1⟩ e (λz=>nomatch z) h
 | @ins a C S fs j B M F v D =>
  cases (show u=Ay a from g)
  obtain ⟨R,O,_⟩:=Q9 I.hok j
  obtain ⟨T,J,_⟩:=O.look
  exact PySem.W.kia_one (PySem.W.kitx_own (B.get _) B.hd M F v D) I.kIn J e (λz=>nomatch z) h
end
structure Room(k:Nat)(A:Ce):Prop where
 hd:A.handled=none
 dp:A.depth+3 * k+5<recursionLimit
 un:A.units+16 * k+200<cLine
 gd:A.guards=some []
theorem Room.mono{j k:Nat}{A:Ce}(r:Room k A)(h:j<=k):Room j A:=⟨r.hd,by have:=r.dp; omega,by have:=r.un; omega,r.gd⟩
theorem Room.deeper{k:Nat}{A:Ce}(r:Room (k+1) A)(env:Env):Room k (A.deeper env) :=
 ⟨r.hd,by have:=r.dp; show A.depth+1+3 * k+5<_; omega,by have:=r.un; show A.units+3+16 * k+200<_; omega,r.gd⟩
theorem Room.depth{k:Nat}{A:Ce}(r:Room k A):A.depth<recursionLimit:=by have:=r.dp; omega
theorem Room.units{k:Nat}{A:Ce}(r:Room k A):A.units+64<cLine:=by have:=r.un; omega
def DW:TA:=λ_ H Q=>Q [] H
def FB(c:TE)(tr:TA):TA:=λa H Q=>c a H λx d=>tr a d λe b=>Q (x::e) b
section
variable{X:Cx}{e:Expr}{es:List Expr}{a:TE}{t:TA}{pos:Pos}
theorem Np:PA X [] DW:=λ_ _ _ _ H Q I h=>Rn ⟨[],H,I,.nil,h⟩
theorem Hy(o:PE X e a)(g:PA X es t)(q:Bn (e::es) X.env=(false,eval e X.env)::Bn es X.env:=by rfl):PA X (e::es) (FB a t):=by
 intro pos b s d H Q I h
 rw[q]
 show wpAny _ _ (spliced ((false,eval e X.env)::Hj pos (Bn es X.env))) _ _ s
 refine Lz (Gb (o b s d H _ I h) λu r c => ?_)
 obtain ⟨x,p,m,k,l⟩ := c
 exact Gb (g pos b r d p _ m l) λw y ⟨v,f,n,i,j⟩=>⟨x::v,f,n,.cons k i,j⟩
def HN(t:TA):TE:=λc H Q=>t c H λa b=>a.length<=Aq/\∀p,b p=none->Q (.ref p) (upd b p (.tup a))
def HV(t:TA):TE:=λc H Q=>t c H λa b=>a.length<=Aq/\∀p,b p=none->Q (.ref p) (upd b p (.lst a))
theorem Z1{x1}(h:PA X es t):PE X (.Tuple es x1 pos) (HN t):=by
 intro a s i H Q I g
 refine wpAny_Tuple_spliced (Gb (h pos a s i H _ I g) λj c ⟨l,f,d,r,z,q⟩=>⟨by rw[<- r.length]; exact z,?_⟩)
 have k:f c.heap.objs.size=none:=d.hok.fresh (Aj _)
 refine ⟨.ref c.heap.objs.size,upd f c.heap.objs.size (.tup l),d.laid (t':=c.toks) (λb u e=>Ah _ e) (Aj _) ?_,rfl,q _ k⟩
 exact ⟨z,j,r,⟨_,Ap _ rfl,rfl,_,rfl⟩⟩
theorem qM(h:PA X es t):PE X (.List es pos) (HV t):=by
 intro a s i H Q I g
 refine wpAny_List_spliced (Gb (h pos a s i H _ I g) λj c ⟨l,f,d,r,z,q⟩=>⟨by rw[<- r.length]; exact z,?_⟩)
 have k:f c.heap.objs.size=none:=d.hok.fresh (Aj _)
 refine ⟨.ref c.heap.objs.size,upd f c.heap.objs.size (.lst l),d.laid (t':=c.toks) (λb u e=>Ah _ e) (Aj _) ?_,rfl,q _ k⟩
 exact ⟨z,j,0,r,Ap _ rfl⟩
end
abbrev Sp:=List V->Hp->VK->XK->Prop
abbrev uR:=List Env->Hp->Ai->XK->Value->Ai->Prop
structure Env0(P:Bl)(w:World)(K:PySem.W.Frag)(mg:Str->Option Value)(base:Heap)(A:Ce)(outer:List Env)(s:Ai)(H:Hp):Prop where
 frames:A.frames=some outer
 mod:Mod K mg base
 bs:∀b o,base.get? b=some o->s.heap.get? b=some o/\H b=none
 bsz:base.objs.size<=s.heap.objs.size
 funs:s.heap.FunFrames base outer
 frf:∀b∈gA outer,H b=none
 hok:Vh P w H s.heap
 bare:Wn s.gens
def CE(outer:List Env)(P:Bl)(w:World)(H:Hp)(s:Ai)(Q:VK)(u:Value)(s':Ai):Prop :=
 ∃v a,s'.os=s.os/\Wn s'.gens/\Un (gA outer) [] H a s.heap s'.heap/\Vh P w a s'.heap/\RelV v u/\Q v a
def CR(CX:uR)(outer:List Env)(P:Bl)(w:World)(H:Hp)(s:Ai)(Q:VK)(E:XK)(r:Result)(s':Ai):Prop :=
 match r with
 | .ok (.ret u)=>CE outer P w H s Q u s'
 | .ok _=>False
 | .error e=>CX outer H s E e s'
structure FnOk(P:Bl)(w:World)(K:PySem.W.Frag)(mg:Str->Option Value)(base:Heap)(CX:uR)(k:Nat)(f:Addr)(fd:Dc)(ps:List Str)(sp:Sp):Prop where
 len:∀vs H Q E,sp vs H Q E->vs.length=ps.length
 run:∀(A:Ce) (outer:List Env) (s:Ai) (H:Hp) (args:Args) (us:List Value) (vs:List V) (Q:VK) (E:XK),Room k A->Env0 P w K mg base A outer s H->BindsTo s fd args (ps.zip us)->Gf vs us->sp vs H Q E ->
  Hb (model P w) A (.call (.ref f) args) (CR CX outer P w H s Q E) s
theorem FnOk.imp{P:Bl}{w:World}{K:PySem.W.Frag}{mg:Str->Option Value}{base:Heap}{CX:uR}{k:Nat}{f:Addr}{d:Dc}{ps:List Str}{sp b:Sp}(F:FnOk P w K mg base CX k f d ps sp)(h:∀vs H Q E,b vs H Q E->sp vs H Q E):FnOk P w K mg base CX k f d ps b :=
 ⟨λvs H Q E q=>F.len vs H Q E (h _ _ _ _ q),λA a s H c j vs Q E e i g l m=>F.run A a s H c j vs Q E e i g l (h _ _ _ _ m)⟩
section
variable{X:Cx}{a:List (Addr×Obj)}{c:St}{H:Hp}{s s':Ai}
theorem Inv.env0(I:Inv X a c H s):Env0 X.prog X.w X.K X.mg X.base X.A X.stack s H :=
 ⟨I.ok.frames,I.ok.mod,I.bs,Cg I.ok.bsz I.sz,I.stack,I.stkFree,I.hok,I.bare⟩
theorem Inv.after{Q:VK}{u:Value}(I:Inv X a c H s)(h:CE X.stack X.prog X.w H s Q u s'):EP X a c Q u s':=by
 obtain ⟨v,j,os,e,un,f,r,q⟩:=h
 obtain ⟨k,g,d,t,i⟩:=s'
 obtain rfl:i=s.os:=os
 exact ⟨v,j,I.call (h':=k) (g':=g) (d':=d) (t':=t) (ch:=[]) un f e (λb z=>absurd z (by simp)),r,q⟩
end
def V9(sp:Sp)(a:List V)(E:XK)(t:TA):TE:=λb H Q=>t b H λvs c=>sp (vs++a) c Q E
def Binds(K:PySem.W.Frag)(b:Dc)(ps:List Str)(ds:List Value):Prop :=
 ∀(s:Ai) (a:List Value),K.In s.heap->(a++ds).length=ps.length->BindsTo s b ⟨a,[]⟩ (ps.zip (a++ds))
theorem Binds.all{K:PySem.W.Frag}{b:Dc}{ps:List Str}(h:∀us:List Value,us.length=ps.length->bindArgs b ⟨us,[]⟩=pure (ps.zip us)):Binds K b ps []:=λs us _ a=>by
 rw[Ec] at a ⊢
 exact .of_eq (h us a)
def Sg(CX:uR)(X:Cx)(E:XK):Prop:=∀(a:List (Addr×Obj)) (c:St) (H:Hp) (s:Ai) (e:Value) (b:Ai),Inv X a c H s->CX X.stack H s E e b->X.xe e b
section
variable{X:Cx}{CX:uR}{k:Nat}{f C:Addr}{b:Dc}{ps:List Str}{sp:Sp}{a:List V}{ds:List Value}{E:XK}{x m:Str}{p pos c:Pos}{e o:Expr}{es:List Expr}{d:TE}{t:TA}
theorem A4{c:List (Addr×Obj)}{g:St}{H:Hp}{s:Ai}{Q:VK}{us:List Value}{vs:List V}(F:FnOk X.prog X.w X.K X.mg X.base CX k f b ps sp)(j:Room k X.A)(hb:Binds X.K b ps ds)(hd:Gf a ds)(o:Sg CX X E)(I:Inv X c g H s)(r:Gf vs us)(h:sp (vs++a) H Q E):wpAny (model X.prog X.w) X.A (call (.ref f) us) (EP X c g Q) X.xe s:=by
 have i:Gf (vs++a) (us++ds):=r.append hd
 have l:(us++ds).length=ps.length:=by rw[<- i.length]; exact F.len _ _ _ _ h
 refine wpAny_call (Nz (F.run X.A X.stack s H ⟨us,[]⟩ (us++ds) (vs++a) Q E j I.env0 (hb s us I.kIn l) i h) λr m d=>?_)
 cases r with
 | error e=>exact o c g H s e m I d
 | ok n =>
  cases n with
  | ret u=>exact I.after d
  | next=>exact Kw d
  | brk=>exact Kw d
  | cont=>exact Kw d
theorem aR(F:FnOk X.prog X.w X.K X.mg X.base CX k f b ps sp)(j:Room k X.A)(u:Gl X x)(l:X.mg x=some (.ref f))(o:PySem.W.keepIn X.K (.ref f)=true)(hb:Binds X.K b ps ds)(hd:Gf a ds)(y:Sg CX X E)(v:PA X (e::es) t)(g:(x == ("__debug__" : Str))=false:=by decide)(n:Bn (e::es) X.env=(false,eval e X.env)::Bn es X.env:=by rfl)(d:(Hj pos (Bn es X.env)).any (·.1)=false:=by rfl):PE X (.Call (.Name x p) (e::es) [] pos) (V9 sp a E t):=by
 intro c s m H Q I h
 refine Su (sX I u l ?_ g)
 refine PySem.W.callWith_K (h₀:=X.base) I.ok.mod.kin o (Gb (v pos c s m H _ I h) λz C ⟨vs,B,i,r,q⟩=>⟨i.kIn,?_⟩) n d
 exact A4 F j hb hd y i r q
theorem B5(F:FnOk X.prog X.w X.K X.mg X.base CX k f b ps sp)(e:Room k X.A)(j:Gl X x)(g:X.mg x=some (.ref f))(i:PySem.W.keepIn X.K (.ref f)=true)(hb:Binds X.K b ps ds)(hd:Gf a ds)(l:Sg CX X E)(c:(x == ("__debug__" : Str))=false:=by decide):PE X (.Call (.Name x p) [] [] pos) (V9 sp a E DW):=by
 intro d s m H Q I h
 refine Su (sX I j g ?_ c)
 exact PySem.W.callWith_K0 I.kIn i (A4 (us:=[]) F e hb hd l I .nil h)
end
structure FnScope(N P:List Str)(sc:Scope):Prop where
 kind:sc.kind=.function
 co:sc.isCoroutine=false
 gen:sc.isGenerator=false
 nd:N.Nodup
 pre:N.take P.length=P
 par:∀x∈P,sc.names.lookup x=some .local\/sc.names.lookup x=some .cell
 nofree:∀y∈sc.names,y.2≠.free
theorem fV{kindOf:Str->Option Qm}{x:Str}:∀{binds:List (Str×Value)} {m:Str->Option Value},(∀v,(x,v)∉binds)->bindL kindOf binds m x=m x
 | [],_,_=>rfl
 | (n,v)::r,m,h=>by
  unfold bindL
  rw[fV λw a=>h w (Ad _ a)]
  split
  ·have : x≠n:=by rintro rfl; exact h v Ab
   simp [this]
  ·rfl
theorem fX{kindOf:Str->Option Qm}{x:Str}:∀{binds:List (Str×Value)} {m:Str->Option Value},(∀v,(x,v)∉binds)->bindC kindOf binds m x=m x
 | [],_,_=>rfl
 | (n,v)::r,m,h=>by
  unfold bindC
  rw[fX λw a=>h w (Ad _ a)]
  split
  ·rfl
  ·have : x≠n:=by rintro rfl; exact h v Ab
   simp [this]
theorem fB{kindOf:Str->Option Qm}{x:Str}{v:Value}:∀{P:List Str} {vs:List Value} {i:Nat} {m:Str->Option Value},P.Nodup->P[i]? = some x->vs[i]? = some v->kindOf x=some .local->bindL kindOf (P.zip vs) m x=some v
 | [],_,_,_,_,h,_,_=>by simp at h
 | _::_,[],_,_,_,_,h,_=>by simp at h
 | p::P,w::vs,0,m,nd,h1,h2,hk=>by
  simp at h1 h2; subst h1; subst h2
  show bindL kindOf ((p,w)::P.zip vs) m p=_
  unfold bindL
  rw[fV λv a=>(Co.mp nd).1 (List.of_mem_zip a).1,if_pos hk]
  simp
 | p::P,w::vs,i+1,m,nd,h1,h2,hk=>by
  show bindL kindOf ((p,w)::P.zip vs) m x=_
  unfold bindL
  exact fB (i:=i) (Co.mp nd).2 (by simpa using h1) (by simpa using h2) hk
theorem fL{kindOf:Str->Option Qm}{x:Str}{v:Value}:∀{P:List Str} {vs:List Value} {i:Nat} {m:Str->Option Value},P.Nodup->P[i]? = some x->vs[i]? = some v->kindOf x≠some .local->bindC kindOf (P.zip vs) m x=some v
 | [],_,_,_,_,h,_,_=>by simp at h
 | _::_,[],_,_,_,_,h,_=>by simp at h
 | p::P,w::vs,0,m,nd,h1,h2,hk=>by
  simp at h1 h2; subst h1; subst h2
  show bindC kindOf ((p,w)::P.zip vs) m p=_
  unfold bindC
  rw[fX λv a=>(Co.mp nd).1 (List.of_mem_zip a).1,if_neg hk]
  simp
 | p::P,w::vs,i+1,m,nd,h1,h2,hk=>by
  show bindC kindOf ((p,w)::P.zip vs) m x=_
  unfold bindC
  exact fL (i:=i) (Co.mp nd).2 (by simpa using h1) (by simpa using h2) hk
def start(N:List Str)(vs:List V):St:=vs.map some++Bz (N.length - vs.length) none
def Qo(CX:uR)(P:Bl)(w:World)(K:PySem.W.Frag)(mg:Str->Option Value)(base:Heap)(N:List Str)(b:Str)(a:Scope)(f:Addr)(d:Value)(A:Ce)(outer:List Env)(s:Ai)(H:Hp)(E:XK):Cx where
 prog:=P
 w:=w
 K:=K
 mg:=mg
 base:=base
 A:=A.deeper (Sv b a s.heap.objs.size f d)
 N:=N
 s₀:=s
 H₀:=H
 env:=Sv b a s.heap.objs.size f d
 outer:=outer
 stack:=Sv b a s.heap.objs.size f d::outer
 ex:=[]
 calm:=true
 fn:=λ_=>true
 pn:=[]
 xe:=λe g=>wpAny (model P w) (A.deeper (Sv b a s.heap.objs.size f d)) (leaving (Sv b a s.heap.objs.size f d) e) (λ_ c=>CX outer H s E e c) (λh c=>CX outer H s E h c) g
theorem lZ{a:Scope}{n:Nat}{x:Str}(h:a.names.lookup x=some .cell):∃c,(Ek n a.names []).lookup x=some c:=by
 have q:=PySem.W.cellsFrom_some a.names n [] (.inl h)
 exact Rl.mp q
theorem vE{CX:uR}{P:Bl}{w:World}{K:PySem.W.Frag}{mg:Str->Option Value}{base:Heap}{N ps:List Str}{g:Str}{d:Scope}{f:Addr}{D:Value}{A:Ce}{outer:List Env}{s I:Ai}{H:Hp}{E:XK}{us:List Value}{vs:List V}(S:FnScope N ps d)(hd:A.handled=none)(l:Env0 P w K mg base A outer s H)(O:vs.length=ps.length)(r:Gf vs us)(x:InCallC s s.heap.objs.size (bindL (Sv g d s.heap.objs.size f D).kindOf (ps.zip us) λ_=>none) (Ek (s.heap.objs.size+1) d.names []) (bindC (Sv g d s.heap.objs.size f D).kindOf (ps.zip us) λ_=>none) I):Inv (Qo CX P w K mg base N g d f D A outer s H E) [] (start N vs) H I:=by
 have J:ps.length<=N.length:=by have:=congrArg Ft S.pre; rw[Du] at this; omega
 obtain ⟨C,R,rfl,F⟩:=x.done
 have m:∀b:Addr,b∉(Qo CX P w K mg base N g d f D A outer s H E).ex:=λb z=>absurd (show b∈([]:List Addr) from z) (by simp)
 refine ⟨⟨l.mod,S.kind,rfl,rfl,Aj _,λy z c C j=>?_,λy hy=>?_,λy c _ h=>?_,λ_=>hd,Around.frames_deeper l.frames,.inr ⟨rfl,rfl⟩,λb z=>absurd z (m b),l.bs,l.bsz,λb _ _=>m b,λb z=>absurd z (m b),l.funs,l.frf⟩,
  rfl,l.bare,Un.kept F,⟨_,x.toInCall.ns,λi y v C j Q=>?_⟩,λy c h=>⟨_,x.cell y c h⟩,l.hok.fresh (Aj _),λy c h=>?_,λp o=>absurd (show p∈([]:List (Addr×Obj)) from o) (by simp),l.hok.kept F,?_⟩
 ·exact name_of_addr x.apart (PySem.mem_of_lookup C) (PySem.mem_of_lookup j)
 ·have hy:d.names.lookup y=some .cell\/d.names.lookup y=some .free:=hy
  rcases hy with hy | hy
  ·exact lZ hy
  ·exact absurd rfl (S.nofree _ (PySem.mem_of_lookup hy))
 ·exact Jw (x.above y c (PySem.mem_of_lookup h))
 ·have B:i<vs.length:=by
   unfold start at j
   by_cases B:i<vs.length
   ·exact B
   ·rw[Gh (by simpa using B)] at j
    rw[List.getElem?_replicate] at j
    split at j <;> cases j
  have M:vs[i]? = some v:=by
   unfold start at j
   rw[Li (by simpa using B),Bj] at j
   cases e:vs[i]? with
   | none=>rw[e] at j; cases j
   | some a=>rw[e] at j; cases j; rfl
  obtain ⟨u,G,L⟩:=r.get M
  have o:ps[i]? = some y:=by
   rw[<- S.pre,Iy (by omega)]; exact C
  have t:ps.Nodup:=by rw[<- S.pre]; exact S.nd.sublist (Io _ _)
  refine ⟨u,L,?_⟩
  rcases S.par y (Be o) with k | k
  ·exact .inl ⟨k,fB t o G k⟩
  ·obtain ⟨c,e⟩:=lZ (n:=s.heap.objs.size+1) k
   refine .inr ⟨.inl k,c,e,?_⟩
   have q:=x.cell y c e
   rw[fL t o G (by show d.names.lookup y≠_; rw[k]; decide)] at q
   exact q
 ·exact l.hok.fresh (Jw (x.above y c (PySem.mem_of_lookup h)))
 ·unfold start
  show _=N.length
  rw[Bf,Af,Hx]
  omega
theorem DR{CX:uR}{P:Bl}{w:World}{K:PySem.W.Frag}{mg:Str->Option Value}{base:Heap}{k:Nat}{f:Addr}{name c:Str}{g:Arguments}{h:List Stmt}{a:Scope}{dV kV z Z d ct oc:Value}{T od:Option Addr}{O:Array (Option Value)}{N ps:List Str}{sp:Sp}(lk:K.lookup f=some ⟨oc,od,.func (PySem.W.fnOf name c g h a dV kV z Z T d ct),O⟩)(F:PySem.W.codeIn K d c=true)(S:FnScope N ps a)(len:∀vs H Q E,sp vs H Q E->vs.length=ps.length)(l:∀(A:Ce) (outer:List Env) (s:Ai) (H:Hp) (vs:List V) (Q:VK) (E:XK),Room k (A.deeper (Sv c a s.heap.objs.size f d))->sp vs H Q E->∃t,tP (Qo CX P w K mg base N c a f d A outer s H E) h t/\t { nx:=λ_ j=>Q .non j,rt:=Q } (start N vs) H):FnOk P w K mg base CX (k+1) f (PySem.W.fnOf name c g h a dV kV z Z T d ct) ps sp:=by
 refine ⟨len,λA outer s H X us vs Q E L C hb r D=>?_⟩
 have hl:=len _ _ _ _ D
 have U:K.In s.heap:=C.mod.kin.keeps λb o e=>(C.bs b o e).1
 have R:s.heap.NoLimit:=C.mod.nolimit.keeps λb o e=>(C.bs b o e).1
 have m:∀y∈ps.zip us,a.names.lookup y.1=some .local\/(a.names.lookup y.1=some .cell/\((Ek (s.heap.objs.size+1) a.names []).lookup y.1).isSome=true):=λ⟨n,v⟩ hy=>by
  rcases S.par n (List.of_mem_zip hy).1 with q | q
  ·exact .inl q
  ·exact .inr ⟨q,PySem.W.cellsFrom_some _ _ _ (.inl q)⟩
 refine codeAny_call_function L.depth (U _ _ lk) rfl S.co S.gen rfl (PySem.W.codeRec_of U F) (hb _ _ _ _ ?_)
 refine wpAny_newFunctionEnv_cells S.kind m λh0 he Y x=>?_
 subst he
 refine ⟨R.keeps x.toInCall.keep,codeAny_func ?_⟩
 obtain ⟨t,ht,hq⟩:=l A outer s H vs Q E (L.deeper _) D
 have I:Inv (Qo CX P w K mg base N c a f d A outer s H E) [] (start N vs) H Y:=vE S L.hd C hl r x
 refine Cq (ht [] Y (start N vs) H _ I hq) (λfl G p=>?_) λe G p=>p
 have B:∀{i:St} {j:Hp} {v:V} {u:Value},Inv (Qo CX P w K mg base N c a f d A outer s H E) [] i j G->RelV v u->Q v j->CE outer P w H s Q u G :=
  λ{i j v u} J M q=>⟨v,j,J.os,J.bare,J.base,J.hok,M,q⟩
 cases fl with
 | ret u =>
  obtain ⟨v,i,j,J,M,q⟩:=p
  exact B J M q
 | next =>
  obtain ⟨i,j,J,q⟩:=p
  exact B (v:=V.non) (u:=Fp) J rfl q
 | brk =>
  obtain ⟨_,_,_,q⟩:=p
  exact Kw q
 | cont =>
  obtain ⟨_,_,_,q⟩:=p
  exact Kw q
section
variable{X:Cx}{x:Str}{p pos:Pos}{e:Expr}{es:List Expr}{t:TA}{id T:String}{r:List V->Hp->VK->Prop}
def IK(r:List V->Hp->VK->Prop)(t:TA):TE:=λa H Q=>t a H λvs b=>r vs b Q
theorem aY(i:Mf X (.builtin id) r)(u:Gl X x)(f:X.mg x=none)(o:Kl x=some (.builtin id))(v:PA X (e::es) t)(n:x ≠ "__name__" := by decide)(c:(x == ("__debug__" : Str))=false:=by decide)(m:Bn (e::es) X.env=(false,eval e X.env)::Bn es X.env:=by rfl)(b:(Hj pos (Bn es X.env)).any (·.1)=false:=by rfl):PE X (.Call (.Name x p) (e::es) [] pos) (IK r t):=by
 intro a s d H Q I h
 refine Su (Ry I u f o ?_ n c)
 exact PyProof.Rows.callWith_builtin1 (Gb (v pos a s d H _ I h) λl w ⟨vs,q,k,g,j⟩=>i a w d q vs l Q k g j) m b
theorem Mv(i:Mf X (.type T) r)(u:Gl X x)(f:X.mg x=none)(o:Kl x=some (.type T))(v:PA X (e::es) t)(n:x ≠ "__name__" := by decide)(c:(x == ("__debug__" : Str))=false:=by decide)(m:Bn (e::es) X.env=(false,eval e X.env)::Bn es X.env:=by rfl)(b:(Hj pos (Bn es X.env)).any (·.1)=false:=by rfl):PE X (.Call (.Name x p) (e::es) [] pos) (IK r t):=by
 intro a s d H Q I h
 refine Su (Ry I u f o ?_ n c)
 exact Fi (Gb (v pos a s d H _ I h) λl w ⟨vs,q,k,g,j⟩=>i a w d q vs l Q k g j) m b
end
end L2
namespace HT
open PySem PyProof.Rows
def lexLt:List Int->List Int->Bool
 | [],[]=>false
 | [],_::_=>true
 | _::_,[]=>false
 | x::xs,y::ys=>if x=y then lexLt xs ys else decide (x<y)
theorem lexLt_cons(x y:Int)(xs ys:List Int):lexLt (x::xs) (y::ys)=if x=y then lexLt xs ys else decide (x<y):=rfl
theorem lexLt_nil_nil:lexLt [] []=false:=rfl
theorem lexLt_nil_cons(y:Int)(ys:List Int):lexLt [] (y::ys)=true:=rfl
theorem lexLt_cons_nil(x:Int)(xs:List Int):lexLt (x::xs) []=false:=rfl
theorem o4(A:Ce)(s:Ai)(a:Int)(t:Tok)(c:Int)(u:Tok):∃e,Nj A s (.int a t) (.int c u) e/\(e=true↔a=c) :=
 ⟨(a == c),SeqAt.EqAt.int_int a t c u,by simp⟩
theorem zY(A:Ce)(s:Ai)(a:Int)(t:Tok)(c:Int)(u:Tok)(prog:Bl)(w:World)(E:Value->Ai->Prop)(Q:Value->Ai->Prop)(h:Q (.bool (decide (a<c))) s):wpAny (model prog w) A (richCompare .Lt (.int a t) (.int c u)) Q E s :=
 (PyProof.Rows.lt_int h:wpAny (model prog w) A (Iz .Lt (.int a t) (.int c u)) Q E s)
section
open PySem.SeqAt
open PySem.AutoSeq1 (wpAny_loadPart')
open PySem.MeetsSeq PySem.MeetsSeq2 PySem.MeetsSeq3
theorem tuple_lt_ints(l b:Addr)(i f:Array Value)(n X:Nat)(U N:Option Addr)(sl J:Array (Option Value))(ns F:List Int)(O:Ez i.toList ns)(P:Ez f.toList F):Meets (Builtin.«tuple.__lt__» ⟨[.ref l,.ref b],[]⟩) (λ_ R s=>s.heap.get? l=some { cls:=.type "tuple",dict:=U,data:=.seq i n,slots:=sl }/\s.heap.get? b=some { cls:=.type "tuple",dict:=N,data:=.seq f X,slots:=J }/\R (.ok (.ret (.bool (lexLt ns F)))) s) :=
 .of_wp λv w A R s h=>by
  obtain ⟨G,g,d,I,os⟩:=s; obtain ⟨T,V,h⟩:=h
  have f2:=AutoSeq1.sub_tuple_tuple
  have z1:i.size=ns.length:=by rw[<- O.length]; simp
  have Z:f.size=F.length:=by rw[<- P.length]; simp
  wp_walk using Xo T,Xo V,wpAny_forIn_list _ (λHt b L=>b.1=none/\L=⟨G,g,d,I,os⟩/\∃(vs H:List Value) (m k:List Int),Ht=vs.zip H /\
   Ez vs m/\Ez H k/\m.length+f.size=k.length+i.size/\R (.ok (.ret (.bool (lexLt m k)))) ⟨G,g,d,I,os⟩) _
  case turn =>
   (rintro ⟨y,x⟩ Ht b L M; obtain ⟨C,rfl,vs,H,m,k,p,B,o,j,z⟩ := M)
   cases B with
   | nil=>rw[List.zip_nil_left] at p; cases p
   | cons a t E =>
    cases o with
    | nil=>rw[List.zip_nil_right] at p; cases p
    | cons c u D =>
     rw[Mh] at p
     injection p with hyx hrest
     injection hyx with hy hx
     subst hy hx
     rw[lexLt_cons] at z
     simp only[Bm] at j
     obtain ⟨e,W,r⟩:=o4 A.in1 ⟨G,g,d,I,os⟩ a t c u
     refine Aa (W v w _ _ ?_)
     cases e with
     | true =>
      rw[if_pos (r.mp rfl)] at z
      wp_walk
      exact ⟨rfl,rfl,_,_,_,_,hrest,E,D,by omega,z⟩
     | false =>
      rw[if_neg (λq=>absurd (r.mpr q) Bp)] at z
      have K:=zY A.in1 ⟨G,g,d,I,os⟩ a t c u v w
      wp_walk using K
      exact ⟨_,rfl,by simpa using z⟩
  case fin =>
   (rintro ⟨b1,Y⟩ L M; obtain ⟨C,rfl,vs,H,m,k,p,B,o,j,z⟩ := M)
   simp only at C
   subst C
   have Q:lexLt m k=decide (i.size<f.size):=by
    cases B with
    | nil =>
     cases o with
     | nil =>
      simp only[Ij] at j
      rw[lexLt_nil_nil]
      exact (decide_eq_false (by omega)).symm
     | cons c u S =>
      simp only[Ij,Bm] at j
      rw[lexLt_nil_cons]
      exact (decide_eq_true (by omega)).symm
    | cons a t Q =>
     cases o with
     | nil =>
      simp only[Ij,Bm] at j
      rw[lexLt_cons_nil]
      exact (decide_eq_false (by omega)).symm
     | cons c u S =>
      rw[Mh] at p
      cases p
   rw[Q] at z
   wp_walk
   exact ⟨_,rfl,by simpa [Builtin.Tuple.tupleCompareSizes] using z⟩
  case h =>
   exact ⟨rfl,rfl,i.toList,f.toList,ns,F,rfl,O,P,by omega,h⟩
end
section
variable{prog:Bl}{w:World}{A:Ce}{E:Value->Ai->Prop}{s:Ai}
theorem lt_tupInts{l b:Addr}{c a:Array Value}{ns e:List Int}{Q:Value->Ai->Prop}(t:IsTup s.heap l c)(hb:IsTup s.heap b a)(u:Ez c.toList ns)(v:Ez a.toList e)(r:A.units<cLine)(h:Q (.bool (lexLt ns e)) s):wpAny (model prog w) A (Iz .Lt (.ref l) (.ref b)) Q E s:=by
 obtain ⟨⟨z,y,m,B⟩,o,k,n,p⟩:=id t
 obtain ⟨⟨q,j,data2,i⟩,d,f,C,g⟩:=id hb
 simp only at k p f g
 subst k p f g
 exact richCompare_meets_room (op:=.Lt) ⟨_,o,rfl⟩ ⟨_,d,rfl⟩ PySem.F.slot_tuple_lt PySem.F.entry_tuple_lt (PySem.F.args_tuple_lt_2 _ _) (tuple_lt_ints l b c a n C y j B i ns e u v)
  ⟨o,d,show Value.bool (lexLt ns e)≠Value.notImplemented/\Q (.bool (lexLt ns e)) s from ⟨(λx=>nomatch x),h⟩⟩ r
theorem cat_tup{t b:Addr}{vs a:List Value}{Q:Value->Ai->Prop}(v:IsTup s.heap t vs.toArray)(hb:IsTup s.heap b a.toArray)(p:vs≠[])(x:a=[]->Q (.ref t) s)(u:a≠[]->Q (.ref s.heap.objs.size) { s with heap:=s.heap.push { cls:=.type "tuple",data:=.seq (vs++a).toArray } })(hsz:vs.length+a.length<=Aq):wpAny (model prog w) A (Jb .Add (.ref t) (.ref b)) Q E s:=by
 obtain ⟨⟨cls,q,data,l⟩,j,m,n,r⟩:=id v
 obtain ⟨⟨k,g,data2,d⟩,c,f,o,h⟩:=id hb
 simp only at m r f h
 subst m r f h
 have e:vs.toArray++a.toArray=(vs++a).toArray:=by simp
 by_cases i:a=[]
 ·exact concat_meets ⟨_,j,rfl⟩ ⟨_,c,rfl⟩ kG seq_tuple_add PySem.F.slot_tuple_add PySem.F.entry_tuple_add (PySem.F.args_tuple_add_2 _ _)
   (tuple_addW1 t b vs.toArray a.toArray n o q g l d (by simpa using p) (by simp [i])) ⟨j,c,x i⟩
 ·refine concat_meets ⟨_,j,rfl⟩ ⟨_,c,rfl⟩ kG seq_tuple_add PySem.F.slot_tuple_add PySem.F.entry_tuple_add (PySem.F.args_tuple_add_2 _ _)
   (tuple_addW2 t b vs.toArray a.toArray n o q g l d (by simpa using p) (by simpa using i) (by rw[Ar,Ar]; exact hsz)) ⟨j,c,?_⟩
  rw[e]
  exact u i
def sIx(n d:Nat):Option Int->Nat
 | none=>d
 | some v=>if v<0 then (v+(n:Int)).toNat else min v.toNat n
theorem sIx_none(n d:Nat):sIx n d none=d:=rfl
theorem sIx_nat(n d k:Nat):sIx n d (some (k:Int))=min k n:=by
 show (if (k:Int)<0 then ((k:Int)+(n:Int)).toNat else min (k:Int).toNat n)=min k n
 rw[if_neg (by omega),Hg]
theorem BQ(n d:Nat)(hd:d<=n)(o:Option Int):sIx n d o<=n:=by
 cases o with
 | none=>exact hd
 | some v =>
  show (if v<0 then (v+(n:Int)).toNat else min v.toNat n)<=n
  by_cases a:v<0
  ·rw[if_pos a]; omega
  ·rw[if_neg a]; exact Nat.min_le_right _ _
theorem tQ(v:Int)(n d:Nat):(if v<0 then max (v+(n:Int)) 0 else min v (n:Int))=((sIx n d (some v):Nat):Int):=by
 show (if v<0 then max (v+(n:Int)) 0 else min v (n:Int))=(((if v<0 then (v+(n:Int)).toNat else min v.toNat n):Nat):Int)
 by_cases a:v<0
 ·simp only[if_pos a]; omega
 ·simp only[if_neg a]; omega
theorem rK(lo a:Option Int)(n:Nat):Og lo a 1 (n:Int)=(((sIx n 0 lo:Nat):Int),((sIx n n a:Nat):Int)):=by
 have b:¬ ((1:Int)<0):=by omega
 unfold Og
 simp only[b,if_false]
 refine Prod.ext ?_ ?_
 ·cases lo with
  | none=>rfl
  | some v=>exact tQ v n 0
 ·cases a with
  | none=>rfl
  | some v=>exact tQ v n n
theorem rE(i j:Nat):Jz (i:Int) (j:Int) 1=j - i:=by
 unfold Jz
 have a:(1:Int) > 0:=by omega
 simp only[a,if_true,Int.ediv_one]
 split <;> omega
theorem cH{v:Value}{o:Option Int}{Q:Option Int->Ai->Prop}(p:Zt v o)(h:Q o s):wpAny (model prog w) A (Builtin.Slice.slicePartIndex v) Q E s:=by
 cases p with
 | none=>exact slicePart_none h
 | int i t=>exact slicePart_int h
theorem sliceApplied_gen{sl:Addr}{d e:Value}{lo a:Option Int}{n:Nat}{Q:Int×Int×Nat->Ai->Prop}(f:s.heap.IsSliceOf sl d e .none)(i:Zt d lo)(j:Zt e a)(h:Q (((sIx n 0 lo:Nat):Int),1,sIx n n a - sIx n 0 lo) s):wpAny (model prog w) A (Xz (.ref sl) (pure (n:Int))) Q E s:=by
 obtain ⟨os,b,g,c⟩:=id f
 unfold Xz Builtin.Slice.sliceFields
 refine Aa (Aa (Ew b c (x:=d) rfl (Aa (Ew b c (x:=e) rfl (Aa (Ew b c (x:=.none) rfl (Ac ?_)))))))
 refine Aa (slicePart_none ?_)
 show wpAny _ _ (if ((1:Int) == 0)=true then _ else _) _ _ s
 rw[if_neg (by decide)]
 refine Aa (cH i (Aa (cH j (Aa (Ac ?_)))))
 show wpAny _ _ (match Og lo a 1 (n:Int) with | (lo,a)=>pure (lo,(1:Int),Jz lo a 1)) _ _ s
 rw[rK lo a n]
 show wpAny _ _ (pure (((sIx n 0 lo:Nat):Int),(1:Int),Jz ((sIx n 0 lo:Nat):Int) ((sIx n n a:Nat):Int) 1)) _ _ s
 rw[rE]
 exact Ac h
theorem zN(xs:Array Value)(i k:Nat):((Cd k).filterMap λ(m:Nat)=>xs[((i:Int)+(m:Int) * 1).toNat]?).toArray=((xs.toList.drop i).take k).toArray:=by
 have e:(λ(m:Nat)=>xs[((i:Int)+(m:Int) * 1).toNat]?)=λm=>xs[i+m]?:=by
  funext m
  have : ((i:Int)+(m:Int) * 1).toNat=i+m:=by omega
  rw[this]
 rw[e]
 have:=pick_run xs i k
 rw[List.filterMap_map] at this
 have a:((λx=>xs[x]?) ∘ λx=>i+x)=λm=>xs[i+m]?:=rfl
 rw[a] at this
 rw[this]
theorem getItem_tuple_cut{t sl:Addr}{a:Array Value}{j l:Value}{lo c:Option Int}{Q:Value->Ai->Prop}(d:IsTup s.heap t a)(k:s.heap.IsSliceOf sl j l .none)(o:Zt j lo)(p:Zt l c)(hw:¬ (sIx a.size 0 lo=0/\sIx a.size a.size c=a.size))(h:Q (.ref s.heap.objs.size) { s with heap:=s.heap.push { cls:=.type "tuple",data:=.seq ((a.toList.drop (sIx a.size 0 lo)).take (sIx a.size a.size c - sIx a.size 0 lo)).toArray } })(hsz:a.size<=Aq):wpAny (model prog w) A (Ud (.ref t) (.ref sl)) Q E s:=by
 have b:sizeOk (.seq ((a.toList.drop (sIx a.size 0 lo)).take (sIx a.size a.size c - sIx a.size 0 lo)).toArray):=by
  show ((a.toList.drop (sIx a.size 0 lo)).take (sIx a.size a.size c - sIx a.size 0 lo)).toArray.size<=Aq
  rw[Ar,Du,Nt,Am]
  omega
 have v:sIx a.size a.size c<=a.size:=BQ _ _ (Aj _) c
 obtain ⟨os,f,i,n⟩:=id k
 have e:s.TypeIs (.ref sl) "slice" := ⟨os,f,i⟩
 unfold Ud
 try with_reducible refine Ck ?_
 first | refine Aa (Ac ?_) | skip
 refine Aa (gE d.typeIs (by decide) ?_)
 refine Aa (Cu (name:=Dq "__getitem__") d.typeIs Es
  (Cn Es d.typeIs entry_tuple_getitem ?_ (args_tuple_getitem _ _)))
 show wpAny _ _ (Xx (.ref t) >>= _) _ _ s
 refine Aa (tupleItemsOf_ d ?_)
 refine Aa (Hv e ?_)
 rw[if_pos (by decide)]
 refine Aa (sliceApplied_gen k o p ?_)
 have g:¬ ((((sIx a.size 0 lo:Nat):Int) == 0 && (1:Int) == 1 && (sIx a.size a.size c - sIx a.size 0 lo) == a.size)=true):=by
  intro q
  rw[Fu,Fu] at q
  have u:((sIx a.size 0 lo:Nat):Int)=0:=Dz q.1.1
  have r:sIx a.size a.size c - sIx a.size 0 lo=a.size:=Dz q.2
  exact hw ⟨by omega,by omega⟩
 show wpAny _ _ (if (((sIx a.size 0 lo:Nat):Int) == 0 && (1:Int) == 1 && (sIx a.size a.size c - sIx a.size 0 lo) == a.size)=true then _ else _) _ _ s
 rw[if_neg g,zN]
 first
  | exact Aa (m:=Gj _) (Ca (Ac ⟨_,rfl,Ac h⟩) b)
  | exact Aa (m:=Gj _) (Ca (Aa (Ac (Ac ⟨_,rfl,Ac h⟩))) b)
  | exact Aa (Aa (m:=Gj _) (Ca (Ac (Ac ⟨_,rfl,Ac h⟩)) b))
  | exact Aa (Aa (m:=Gj _) (Ca (Ac ⟨_,rfl,Ac h⟩) b))
end
end HT
namespace L2
open PySem PySem.Spec PyProof.Rows
abbrev TO:=St->Hp->(Option Int->Hp->Prop)->Prop
def PO(X:Cx)(e:Option Expr)(t:TO):Prop :=
 ∀(a:List (Addr×Obj)) (s:Ai) (b:St) (H:Hp) (Q:Option Int->Hp->Prop),Inv X a b H s->t b H Q ->
  wpAny (model X.prog X.w) X.A (evalPart e X.env) (λu d=>∃o c,Inv X a b c d/\Zt u o/\Q o c) X.xe s
def Q4:TO:=λ_ H Q=>Q none H
def DY(t:TE):TO:=λa H Q=>t a H λx b=>∃i,x=.int i/\Q (some i) b
theorem intsAre_of{ns:List Int}:∀{us:List Value},Gf (ns.map V.int) us->Ez us ns:=by
 induction ns with
 | nil=>intro us r; rw[Py] at r; cases r; exact .nil
 | cons n ns b =>
  intro us r
  rw[Ao] at r
  cases r with
  | cons c a =>
   obtain ⟨t,e⟩:=c
   subst e
   exact .cons n t (b a)
section
variable{X:Cx}{e:Expr}{d:TE}{lo c:Option Expr}{f g:TO}{pos j:Pos}
theorem E5:PO X none Q4:=by
 intro a s b H Q I h
 rw[evalPart_none]
 exact Ac ⟨none,H,I,.none,h⟩
theorem J3(h:PE X e d):PO X (some e) (DY d):=by
 intro a s g H Q I c
 rw[evalPart_some]
 refine Gb (h a s g H _ I c) λu m b => ?_
 obtain ⟨x,l,k,f,j⟩ := b
 obtain ⟨i,rfl,q⟩:=j
 obtain ⟨t,rfl⟩:=f
 exact ⟨some i,l,k,.int i t,q⟩
def CH(X:Cx)(r:V->Option Int->Option Int->Hp->VK->Prop):Prop :=
 ∀(a:List (Addr×Obj)) (s:Ai) (e:St) (H:Hp) (x:V) (v d f:Value) (lo c:Option Int) (b:Addr) (Q:VK),Inv X a e H s->RelV x v->s.heap.IsSliceOf b d f .none->Zt d lo->Zt f c->r x lo c H Q ->
  ∃T id,dJ (.type T) "__getitem__" = pure (some (.builtin id))/\s.TypeIs v T/\wpAny (model X.prog X.w) X.A (Ud v (.ref b)) (EP X a e Q) X.xe s
theorem CH.or{r g:V->Option Int->Option Int->Hp->VK->Prop}(h:CH X r)(h':CH X g):CH X (λx lo c H Q=>r x lo c H Q\/g x lo c H Q):=by
 intro a s f H x v e k lo c d Q I b i j l q
 rcases q with q | q
 ·exact h a s f H x v e k lo c d Q I b i j l q
 ·exact h' a s f H x v e k lo c d Q I b i j l q
def KI(r:V->Option Int->Option Int->Hp->VK->Prop)(d:TE)(f g:TO):TE:=λa H Q=>d a H λx c=>f a c λl b=>g a b λu e=>r x l u e Q
theorem mQ{r:V->Option Int->Option Int->Hp->VK->Prop}(G:CH X r)(N:PE X e d)(D:PO X lo f)(y:PO X c g):PE X (.Subscript e (.Slice lo c none j) pos) (KI r d f g):=by
 intro a s m H Q I h
 refine Subscript_ (Gb (N a s m H _ I h) λv S k => ?_)
 obtain ⟨x,O,M,L,F⟩ := k
 refine wpAny_Slice (Gb (D a S m O _ M F) λn z ⟨l,t,W,R,K⟩=>Gb (y a z m t _ W K) λo i k => ?_)
 obtain ⟨u,p,J,U,P⟩ := k
 rw[evalPart_none]
 refine Ac ?_
 have C:Inv X a m p { i with heap:=i.heap.push { cls:=.type "slice",data:=.fields #[n,o,.none] } }:=J.kept (t':=i.toks) λb Z q=>Ah _ q
 obtain ⟨T,id,B,E,Y⟩:=G a { i with heap:=i.heap.push { cls:=.type "slice",data:=.fields #[n,o,.none] } } m p x v n o l u i.heap.objs.size Q C L (Heap.IsSliceOf.new ..) R U P
 show wpAny (model X.prog X.w) X.A (subscriptTail e (.Slice lo c none j) v (.ref i.heap.objs.size)) (EP X a m Q) X.xe { i with heap:=i.heap.push { cls:=.type "slice",data:=.fields #[n,o,.none] } }
 exact tail_any (ops:=[.ref i.heap.objs.size,v]) E B Y (by with_unfolding_all rfl)
def cI(xs:List V)(lo c:Option Int):List V:=(xs.drop (HT.sIx xs.length 0 lo)).take (HT.sIx xs.length xs.length c - HT.sIx xs.length 0 lo)
theorem Zh(xs:List V)(lo c:Option Int):(cI xs lo c).length<=xs.length:=by
 unfold cI
 rw[Du,Nt]
 omega
def HR(K:PySem.W.Frag):V->Option Int->Option Int->Hp->VK->Prop:=λx lo c H Q=>∃a b,x=.ref a/\Ta K H a b /\
 ¬ (HT.sIx b.length 0 lo=0/\HT.sIx b.length b.length c=b.length)/\∀p,H p=none->Q (.ref p) (upd H p (.tup (cI b lo c)))
theorem BH:CH X (HR X.K):=by
 intro j s y H x v w A lo c u Q I l m n p h
 obtain ⟨a,e,rfl,t,k,q⟩:=h
 cases l
 obtain ⟨f,r,g,i⟩:=I.tuple t
 have d:f.toArray.size=e.length:=by rw[Ar]; exact r.length.symm
 refine ⟨"tuple",_,Es.lookup,g.typeIs,?_⟩
 refine HT.getItem_tuple_cut g m n p (by rw[d]; exact k) ?_ (by rw[d]; exact i)
 rw[d]
 refine ⟨.ref s.heap.objs.size,_,I.laid (t':=s.toks) (o:=.tup (cI e lo c)) (λb z q=>Ah _ q) (Aj _) ?_,rfl,q _ (I.hok.fresh (Aj _))⟩
 exact ⟨Cg (Zh e lo c) i,_,(r.drop (HT.sIx e.length 0 lo)).take (HT.sIx e.length e.length c - HT.sIx e.length 0 lo),IsTup.new _ _⟩
def EG(K:PySem.W.Frag):R2:=λx y H Q=>∃a b d c,x=.ref a/\y=.ref b/\Ta K H a d/\Ta K H b c/\d≠[]/\d.length+c.length<=Aq /\
 (c=[]->Q (.ref a) H)/\(c≠[]->∀p,H p=none->Q (.ref p) (upd H p (.tup (d++c))))
theorem Gf.nil_iff{xs:List V}{us:List Value}(r:Gf xs us):us=[]↔xs=[]:=by
 cases r with
 | nil=>simp
 | cons _ _=>simp
theorem K7:Xu X (Jb .Add) (EG X.K):=by
 intro f s D H x y v u Q I i l h
 obtain ⟨a,b,B,t,rfl,rfl,r,k,C,g,n,m⟩:=h
 cases i
 cases l
 obtain ⟨p,d,A,_⟩:=I.tuple r
 obtain ⟨e,c,j,_⟩:=I.tuple k
 refine HT.cat_tup A j (λz=>C (d.nil_iff.mp z)) (λz=>⟨.ref a,H,I,rfl,n (c.nil_iff.mp z)⟩) (λz=>?_) (by rw[<- d.length,<- c.length]; exact g)
 refine ⟨.ref s.heap.objs.size,_,I.laid (t':=s.toks) (o:=.tup (B++t)) (λb E q=>Ah _ q) (Aj _) ?_,rfl,m (λw=>z (c.nil_iff.mpr w)) _ (I.hok.fresh (Aj _))⟩
 exact ⟨by rw[Bf]; exact g,_,d.append c,IsTup.new _ _⟩
end
def xO(n:Nat)(i:Int):Option Nat:=if 0<=i then (if i<n then some i.toNat else none) else if -(n:Int)<=i then some (i+n).toNat else none
def Vp{a:Type}(xs:List a)(i:Int):Option a:=(xO xs.length i).bind λj=>xs[j]?
theorem uA{n:Nat}{i:Int}{j:Nat}(h:xO n i=some j):seqIndex? i n=some j/\j<n /\ -(n:Int)<=i/\i<n:=by
 unfold xO at h
 by_cases b:0<=i
 ·rw[if_pos b] at h
  by_cases a:i<n
  ·rw[if_pos a] at h
   have e:i.toNat=j:=Bv h
   exact ⟨by rw[seqIndex_of b a,e],by omega,by omega,a⟩
  ·rw[if_neg a] at h; cases h
 ·rw[if_neg b] at h
  by_cases a:-(n:Int)<=i
  ·rw[if_pos a] at h
   have e:(i+n).toNat=j:=Bv h
   exact ⟨by rw[seqIndex_neg (by omega) a,e],by omega,a,by omega⟩
  ·rw[if_neg a] at h; cases h
theorem jY{a:Type}{xs:List a}{i:Int}{v:a}(h:Vp xs i=some v):∃j,seqIndex? i xs.length=some j/\xs[j]? = some v/\j<xs.length /\ -(xs.length:Int)<=i/\i<xs.length:=by
 unfold Vp at h
 cases e:xO xs.length i with
 | none=>rw[e] at h; cases h
 | some j =>
  rw[e] at h
  obtain ⟨c,b,f,d⟩:=uA e
  exact ⟨j,c,h,b,f,d⟩
theorem iD{a:Type}{xs:List a}{j:Nat}{v:a}(h:xs[j]? = some v):Vp xs (j:Int)=some v:=by
 have b:j<xs.length:=(Av.mp h).1
 have e:xO xs.length (j:Int)=some j:=by
  unfold xO
  rw[if_pos (by omega),if_pos (by omega)]; simp
 unfold Vp; rw[e]; exact h
def gU(b:Expr):Prop:=∀o i,subscripted b false o i=operate [o,i] (Ud o i)
def E8(X:Cx)(r:R2):Prop :=
 ∀(c a:Expr) (b:List (Addr×Obj)) (s:Ai) (d:St) (H:Hp) (x y:V) (v u:Value) (Q:VK),Inv X b d H s->RelV x v->RelV y u->r x y H Q ->
  subscripted a false v u=operate [v,u] (Ud v u)->wpAny (model X.prog X.w) X.A (subscriptTail c a v u) (EP X b d Q) X.xe s
def KH(X:Cx)(id:String)(r:V->List V->Hp->VK->Prop):Prop :=
 ∀(a:List (Addr×Obj)) (s:Ai) (b:St) (H:Hp) (x:V) (c:List V) (v:Value) (d:List Value) (Q:VK),Inv X a b H s->RelV x v->Gf c d->r x c H Q ->
  wpAny (model X.prog X.w) X.A (call (.builtin id) (v::d)) (EP X a b Q) X.xe s
section
variable{X:Cx}{a b:Expr}{A B:TE}{pos:Pos}
theorem E8.or{r g:R2}(h:E8 X r)(h':E8 X g):E8 X (λx y H Q=>r x y H Q\/g x y H Q):=by
 intro b a c s f H x y v u Q I d e q i
 rcases q with q | q
 ·exact h b a c s f H x y v u Q I d e q i
 ·exact h' b a c s f H x y v u Q I d e q i
theorem Ze{r:R2}(f:E8 X r)(m:PE X a A)(hb:PE X b B)(k:gU b):PE X (.Subscript a b pos) (GN r A B):=by
 intro c s i H Q I h
 exact Subscript_ (AX m hb I h λv u l x y d j e g q=>f a b c l i d x y v u Q j e g q (k _ _))
def FW(K:PySem.W.Frag):R2:=λx y H Q=>∃p a i v,x=.ref p/\y=.int i/\Pq K H p a/\Vp a i=some v/\Q v H
def EX(K:PySem.W.Frag):R2:=λx y H Q=>∃p a i v,x=.ref p/\y=.int i/\Ta K H p a/\Vp a i=some v/\Q v H
def ES:R2:=λx y H Q=>∃z i c,x=.str z/\y=.int i/\z.length<=Aq/\Vp z.cps.toList i=some c/\Q (.str ⟨#[c]⟩) H
theorem Uo:E8 X (FW X.K):=by
 intro l d a s m H x y v u Q I J D h n
 obtain ⟨p,P,i,z,rfl,rfl,B,L,q⟩:=h
 cases J
 obtain ⟨t,rfl⟩:=D
 obtain ⟨g,r,k,O⟩:=I.list B
 obtain ⟨j,c,C,R,E,M⟩:=jY L
 obtain ⟨w,A,e⟩:=r.get C
 have F:=r.length
 have N:=Yy
 have b:EP X a m Q w s:=⟨z,H,I,e,q⟩
 by_cases o:0<=i
 ·have f:i.toNat=j:=by
   rw[seqIndex_of o M] at c
   exact Bv c
  exact item_listR k.isList o (by omega) (by rw[f]; simpa using A) b n
 ·have f:(i+(g.toArray.size:Int)).toNat=j:=by
   rw[seqIndex_neg (by omega) E] at c
   rw[Ar,<- F]
   exact Bv c
  exact E3 (x:=w) k.isList.typeIs GV.lookup
   (wpAny_getItem_list_neg (Q:=λr G=>r=w/\EP X a m Q r G) k.isList (by omega) (by rw[Ar] <;> omega) (by omega) (by rw[f]; simpa using A) ⟨rfl,b⟩) n
theorem X3:E8 X (EX X.K):=by
 intro e b a s f H x y v u Q I C m h n
 obtain ⟨p,M,i,z,rfl,rfl,k,F,q⟩:=h
 cases C
 obtain ⟨t,rfl⟩:=m
 obtain ⟨E,r,g,L⟩:=I.tuple k
 obtain ⟨j,D,l,N,G,O⟩:=jY F
 obtain ⟨w,A,c⟩:=r.get l
 have o:=r.length
 have J:=Yy
 have d:EP X a f Q w s:=⟨z,H,I,c,q⟩
 exact E3 (x:=w) g.typeIs slot_tuple_getitem.lookup
  (getItem_tuple (j:=j) (Q:=λr B=>r=w/\EP X a f Q r B) g (by omega) (by omega) (by rw[Ar,<- o]; exact D) (by simpa using A) ⟨rfl,d⟩) n
theorem CK:E8 X ES:=by
 intro b a d s A H x y v u Q I n g h l
 obtain ⟨z,i,c,rfl,rfl,C,o,q⟩:=h
 obtain ⟨t,rfl⟩:=n
 obtain ⟨E,rfl⟩:=g
 obtain ⟨j,e,f,D,k,p⟩:=jY o
 have m:z.cps.toList.length=z.length:=by simp [Str.length]
 rw[m] at e k p
 have B:=Yy
 exact tail_any (typeIs_str s z t) slot_str_getitem.lookup (getItem_str (c:=c) (by
  have w:decide (i < -(2 ^ 63:Int))=false:=decide_eq_false (by omega)
  have r:decide (i ≥ 2 ^ 63)=false:=decide_eq_false (by omega)
  rw[w,r,Bool.or_false]) (by rw[e]; simpa using f) ⟨.str ⟨#[c]⟩,H,I.tok _,⟨_,rfl⟩,q⟩) l
def JD(K:PySem.W.Frag):R2:=λx y H Q=>FW K x y H Q\/EX K x y H Q\/ES x y H Q
theorem AF:E8 X (JD X.K):=Uo.or (X3.or CK)
theorem pA(a:List Value)(n j:Nat)(u:Value):Eg (·.setIfInBounds j u) { cls:=.type "list",data:=.seq a.toArray n }={ cls:=.type "list",data:=.seq (a.set j u).toArray n }:=by
 simp [Eg]
theorem Inv.lst{b:List (Addr×Obj)}{c:St}{H:Hp}{s:Ai}{p:Addr}{xs:List V}(I:Inv X b c H s)(h:H p=some (.lst xs)):∃(a:List Value) (n:Nat),Gf xs a/\s.heap.get? p=some { cls:=.type "list",data:=.seq a.toArray n }/\xs.length<=Aq:=by
 obtain ⟨z,a,n,r,e⟩:=I.hok p _ h
 exact ⟨a,n,r,e,z⟩
theorem Inv.lstUpd{a:List (Addr×Obj)}{d:St}{H:Hp}{s:Ai}{p:Addr}{xs ys:List V}{c its':List Value}{n n':Nat}{f:Obj->Obj}(I:Inv X a d H s)(h:H p=some (.lst xs))(j:s.heap.get? p=some { cls:=.type "list",data:=.seq c.toArray n })(g:f { cls:=.type "list",data:=.seq c.toArray n }={ cls:=.type "list",data:=.seq its'.toArray n' })(r:Gf ys its')(hz:ys.length<=Aq)(t:Nat):Inv X a d (upd H p (.lst ys)) { s with heap:=s.heap.update p f,toks:=t }:=by
 have e:(s.heap.update p f).get? p=some { cls:=.type "list",data:=.seq its'.toArray n' }:=by
  rw[Eu f j (by rw[g] <;> rfl),g]
 refine I.write (x:=p) (e:=p) (by rw[h]; trivial) (.inl rfl) (λb u i q=>(rP _ _ (Ln i)).trans q) ⟨_,e⟩ ?_
 exact ⟨hz,its',n',r,e⟩
def FX:V->V->V->Hp->(Hp->Prop)->Prop:=λo i v H Q=>∃p a k j,o=.ref p/\i=.int k/\H p=some (.lst a)/\xO a.length k=some j/\Q (upd H p (.lst (a.set j v)))
theorem cY:EE X FX:=by
 intro a s y H o i v G K u Q I C z B h
 obtain ⟨p,E,k,j,rfl,rfl,w,A,q⟩:=h
 cases C
 obtain ⟨t,rfl⟩:=z
 obtain ⟨b,n,r,f,D⟩:=I.lst w
 obtain ⟨c,F,x,l⟩:=uA A
 have e:=r.length
 have J:=Yy
 have g:Inv X a y (upd H p (.lst (E.set j v))) { s with heap:=s.heap.update p (Eg (·.setIfInBounds j u)) } :=
  I.lstUpd w f (pA b n j u) (r.set B j) (by rw[Po]; exact D) s.toks
 by_cases m:0<=k
 ·have d:k.toNat=j:=by
   rw[seqIndex_of m l] at c
   exact Bv c
  exact PySem.W.ki_setAt f m (by omega) (by rw[Ar,<- e]; exact l) (by rw[d]; exact ⟨_,g,q⟩)
 ·have d:(k+(b.toArray.size:Int)).toNat=j:=by
   rw[seqIndex_neg (by omega) x] at c
   rw[Ar,<- e]
   exact Bv c
  exact PySem.W.ki_setBack f (by omega) (by rw[Ar,<- e]; exact x) (by omega) (by rw[d]; exact ⟨_,g,q⟩)
theorem jC(lo a:Option Int)(n:Nat):(Qj lo a none n).1=((HT.sIx n 0 lo:Nat):Int)/\(Qj lo a none n).2.1=((HT.sIx n n a:Nat):Int)/\(Qj lo a none n).2.2=1:=by
 refine ⟨?_,?_,rfl⟩
 ·cases lo with
  | none=>simp [Qj,HT.sIx]
  | some i =>
   simp only[Qj,HT.sIx,Option.getD_none,show (1:Int) > 0 by decide,if_true]
   by_cases h:i<0
   ·simp only[h,if_true] <;> omega
   ·simp only[h,if_false] <;> omega
 ·cases a with
  | none=>simp [Qj,HT.sIx]
  | some i =>
   simp only[Qj,HT.sIx,Option.getD_none,show (1:Int) > 0 by decide,if_true]
   by_cases h:i<0
   ·simp only[h,if_true] <;> omega
   ·simp only[h,if_false] <;> omega
theorem dU(a:List Value)(lo b:Option Int):slicePick a.toArray lo b none=((a.drop (HT.sIx a.length 0 lo)).take (HT.sIx a.length a.length b - HT.sIx a.length 0 lo)).toArray:=by
 obtain ⟨d,c,e⟩:=jC lo b a.toArray.size
 unfold slicePick
 rw[d,c,e]
 simp only[sliceRange_one,pick_run,Ar] <;> rfl
def BX(K:PySem.W.Frag):V->Option Int->Option Int->Hp->VK->Prop:=λx lo c H Q=>∃a b,x=.ref a/\Pq K H a b/\∀p,H p=none->Q (.ref p) (upd H p (.lst (cI b lo c)))
theorem K5:CH X (BX X.K):=by
 intro g s w H x v u z lo e t Q I i l k n h
 obtain ⟨a,c,rfl,p,q⟩:=h
 cases i
 obtain ⟨j,r,f,m⟩:=I.list p
 have d:=r.length
 refine ⟨"list",_,GV.lookup,f.isList.typeIs,?_⟩
 refine wpAny_getItem_list_slice f.isList l k n .none (by simp) ?_ (by rw[Ar] <;> omega)
 rw[dU,<- d]
 refine ⟨.ref s.heap.objs.size,_,I.laid (t':=s.toks) (o:=.lst (cI c lo e)) (λb y q=>Ah _ q) (Aj _) ?_,rfl,q _ (I.hok.fresh (Aj _))⟩
 exact ⟨Cg (Zh c lo e) m,_,0,(r.drop (HT.sIx c.length 0 lo)).take (HT.sIx c.length c.length e - HT.sIx c.length 0 lo),Ap _ rfl⟩
theorem iA:Mf X (.type "list") (λxs H Q=>∃p ys,xs=[.ref p]/\(Pq X.K H p ys\/Ta X.K H p ys)/\∀l,H l=none->Q (.ref l) (upd H l (.lst ys))):=by
 intro i s A H xs B Q I r h
 obtain ⟨p,ys,rfl,hq,q⟩:=h
 obtain ⟨u,rfl,z⟩:=vals1 r
 cases z
 have k:∀(a:List Value),Gf ys a->ys.length<=Aq->∀(c:Heap) (d:Nat),(∀b y,s.heap.get? b=some y->c.get? b=some y) ->
   c.get? s.heap.objs.size=some { cls:=.type "list",dict:=none,data:=.seq a.toArray d,slots:=#[] }->EP X i A Q (.ref s.heap.objs.size) { s with heap:=c }:=λa f j c d kp e =>
  ⟨.ref s.heap.objs.size,_,I.laid (t':=s.toks) kp (Aj _) (show Hl X.prog X.w _ c _ (.lst ys) from ⟨j,a,d,f,e⟩),rfl,q _ (I.hok.fresh (Aj _))⟩
 rcases hq with hq | hq
 ·obtain ⟨a,f,v,j⟩:=I.list hq
  have g:=f.length
  obtain ⟨o,t,m,n,x⟩:=v.isList
  exact call_list_seq p (.inl rfl) t m x (λc d kp e=>k a f j c d kp e) (by simp only[Ar] <;> omega)
 ·obtain ⟨a,f,v,j⟩:=I.tuple hq
  have g:=f.length
  obtain ⟨o,t,m,n,x⟩:=v
  exact call_list_seq p (.inr rfl) t m x (λc d kp e=>k a f j c d kp e) (by simp only[Ar] <;> omega)
theorem Vg:Mf X (.type "tuple") (λxs H Q=>∃p ys,xs=[.ref p]/\((Pq X.K H p ys/\∀l,H l=none->Q (.ref l) (upd H l (.tup ys)))\/(Ta X.K H p ys/\Q (.ref p) H))):=by
 intro a s k H xs x Q I r h
 obtain ⟨p,ys,rfl,h⟩:=h
 obtain ⟨u,rfl,t⟩:=vals1 r
 cases t
 rcases h with ⟨f,q⟩ | ⟨f,q⟩
 ·obtain ⟨c,g,i,n⟩:=I.list f
  have j:=g.length
  refine call_tuple_list i.isList (λd kp=>?_) (by simp only[Ar] <;> omega)
  have m:Inv X a k H { s with heap:=d }:=I.kept (t':=s.toks) kp
  have v:Inv X a k (upd H d.objs.size (.tup ys)) { s with heap:=d.push { cls:=.type "tuple",data:=.seq c.toArray } } :=
   m.laid (t':=s.toks) (λb o e=>Ah _ e) (Aj _) (show Hl X.prog X.w _ _ _ (.tup ys) from ⟨n,c,g,IsTup.new _ _⟩)
  exact ⟨.ref d.objs.size,_,v,rfl,q _ (m.hok.fresh (Aj _))⟩
 ·obtain ⟨c,g,i,n⟩:=I.tuple f
  exact call_tuple_same i ⟨.ref p,H,I,rfl,q⟩
def JB(K:PySem.W.Frag)(T:String)(x:V)(H:Hp):Prop:=match x with
 | .str _=>T = "str"
 | .int _=>T = "int"
 | .ref p=>(T = "list" /\ ∃b,Pq K H p b)\/(T = "tuple" /\ ∃o,K.lookup p=some o/\o.cls=.type "tuple" /\ o.dict=none) \/
   (T = "dict" /\ ((∃a,H p=some (.dK a))\/∃a,H p=some (.dT a)))\/(T = "set" /\ ∃S n,H p=some (.set S n))
 | _=>False
theorem CI{f:List (Addr×Obj)}{q:St}{H:Hp}{s:Ai}{T:String}{x:V}{v:Value}(I:Inv X f q H s)(r:RelV x v)(ty:JB X.K T x H):s.TypeIs v T/\∀a,v=.ref a->∃k,s.heap.get? a=some k/\k.dict=none:=by
 cases x with
 | str z =>
  obtain ⟨t,rfl⟩:=r
  cases (show T = "str" from ty)
  exact ⟨typeIs_str s z t,λ_ e=>nomatch e⟩
 | int i =>
  obtain ⟨t,rfl⟩:=r
  cases (show T = "int" from ty)
  exact ⟨typeIs_int s i t,λ_ e=>nomatch e⟩
 | ref p =>
  cases r
  rcases ty with ⟨rfl,y,m⟩ | ⟨rfl,o,b,w,j⟩ | ⟨rfl,b⟩ | ⟨rfl,S,n,b⟩
  ·obtain ⟨u,_,l,_⟩:=I.list m
   refine ⟨l.isList.typeIs,λa e=>?_⟩
   cases e
   obtain ⟨o,n,e,c,j,_⟩:=l
   exact ⟨o,e,j⟩
  ·refine ⟨⟨o,I.kIn p o b,w⟩,λa e=>?_⟩
   cases e
   exact ⟨o,I.kIn _ o b,j⟩
  ·have z:∃o,s.heap.get? p=some o/\o.ExactDict:=by
    rcases b with ⟨h,b⟩ | ⟨h,b⟩
    ·obtain ⟨_,_,_,_,o,_,_,e,d,_⟩:=I.hok p _ b
     exact ⟨o,e,d⟩
    ·obtain ⟨_,_,_,_,o,_,_,e,d,_⟩:=I.hok p _ b
     exact ⟨o,e,d⟩
   obtain ⟨o,e,d⟩:=z
   refine ⟨⟨o,e,d.1⟩,λa g=>?_⟩
   cases g
   exact ⟨o,e,d.2.1⟩
  ·obtain ⟨o,_,_,_,e,d,_⟩:=I.hok p _ b
   refine ⟨⟨o,e,d.1⟩,λa g=>?_⟩
   cases g
   exact ⟨o,e,d.2.1⟩
 | _=>exact Kw ty
def JZ(K:PySem.W.Frag)(T:String)(r:V->List V->Hp->VK->Prop)(m:TE)(t:TA):TE:=λa H Q=>m a H λx b=>JB K T x b/\t a b λd c=>r x d c Q
variable{o e:Expr}{es:List Expr}{m:TE}{t:TA}{name:Str}{g d:Pos}{T id:String}{r:V->List V->Hp->VK->Prop}
theorem U7(C:PlainAttrs T)(slot:Slot T name id)(k:typeOf (.builtin id)=pure (.type "method_descriptor"))(y:KH X id r)(G:PE X o m)(O:PA X (e::es) t)
  (c:Mr o name X.env (eval o X.env)=eval o X.env:=by rfl)
  (i:((Hj d (Bn (e::es) X.env)).all (λx=>!x.1) && (backToKw d (Zp [] X.env)).all (λx=>x.1.isSome)
   && decide ((e::es).length+([]:List Uh).length+(if ([]:List Uh).isEmpty then 0 else 1)<30))=true:=by rfl)
  (f:(g.endLine == d.line)=true:=by rfl) (z:Bn (e::es) X.env=(false,eval e X.env)::Bn es X.env:=by rfl) (b:(Hj d (Bn es X.env)).any (·.1)=false:=by rfl) :
  PE X (.Call (.Attribute o name g) (e::es) [] d) (JZ X.K T r m t):=by
 intro a s j H Q I h
 refine wpAny_Call_method_late c i f rfl (Gb (G a s j H _ I h) λv L l => ?_)
 obtain ⟨x,J,q,p,ty,B⟩ := l
 obtain ⟨F,w⟩:=CI q p ty
 refine ⟨T,id,C,slot,k,F,w,?_⟩
 have n:=O d a L j J _ q B
 rw[z] at n ⊢
 refine Mt (by show (false || (Hj d (Bn es X.env)).any (·.1))=false; rw[b] <;> rfl) (Vl ?_)
 exact Gb n λD A ⟨vs,u,N,M,E⟩=>y a A j u x vs v D Q N p M E
end
def JM(X:Cx)(id:String)(r:V->List V->Hp->VK->Prop):Prop :=
 ∀(a:List (Addr×Obj)) (s:Ai) (b:St) (H:Hp) (x:V) (c:List V) (v:Value) (d:List Value) (Q:VK),Inv X a b H s->RelV x v->Gf c d->r x c H Q ->
  wpAny (model X.prog X.w) X.A (call (.builtin id) (v::d)) (EP X a b Q) X.xe s
theorem Gf.one:∀{x:V} {us:List Value},Gf [x] us->∃u,us=[u]/\RelV x u
 | _,_,.cons r .nil=>⟨_,rfl,r⟩
theorem Gf.rep{xs:List V}{us:List Value}(h:Gf xs us):∀k:Nat,Gf (Bz k xs).flatten (Bz k us).flatten
 | 0=>.nil
 | k+1=>by
  rw[Gi,Gi,Iq,Iq]
  exact Gf.append h (Gf.rep h k)
theorem foldl_rep(a:List Value):∀(k:Nat) (b:List Value),List.foldl (λd f=>d++f) b.toArray (Bz k a.toArray)=(b++(Bz k a).flatten).toArray
 | 0,b=>by simp
 | k+1,b=>by
  have e:b.toArray++a.toArray=(b++a).toArray:=by simp
  have c:(b++a)++(Bz k a).flatten=b++(Bz (k+1) a).flatten:=by
   rw[Gi,Iq,Bt]
  rw[<- c,<- foldl_rep a k (b++a),<- e,Gi,List.foldl_cons]
section
variable{X:Cx}{a:List (Addr×Obj)}{c:St}{H:Hp}{s:Ai}{l b:Addr}{xs ys d:List V}
theorem Inv.lset{b its':List Value}{n:Nat}{f:Array Value->Array Value}{t':Nat}(I:Inv X a c H s)(g:H l=some (.lst xs))(e:s.heap.get? l=some { cls:=.type "list",data:=.seq b.toArray n })(j:f b.toArray=its'.toArray)(h:Gf ys its')(hz:ys.length<=Aq):Inv X a c (upd H l (.lst ys)) { s with heap:=s.heap.update l (Eg f),toks:=t' }:=by
 have q:=PySem.IsL.update e f
 rw[j] at q
 refine I.write (x:=l) (e:=l) (by rw[g]; exact trivial) (.inl rfl) (λk u d i=>(rP s.heap (Eg f) (Ln d)).trans i) ⟨_,q⟩ ?_
 exact ⟨hz,its',_,h,q⟩
theorem Inv.lnew{b:List Value}{t':Nat}(I:Inv X a c H s)(d:Gf ys b)(hz:ys.length<=Aq):Inv X a c (upd H s.heap.objs.size (.lst ys)) { s with heap:=s.heap.push { cls:=.type "list",data:=.seq b.toArray },toks:=t' } :=
 I.laid (λ_ _ q=>Ah _ q) (Aj _) ⟨hz,b,0,d,Ap _ rfl⟩
theorem Inv.fresh(I:Inv X a c H s):H s.heap.objs.size=none:=I.hok.fresh (Aj _)
theorem Inv.lstM(I:Inv X a c H s)(d:H l=some (.lst xs)):xs.length<=Aq/\∃(b:List Value) (n:Nat),Gf xs b/\xs.length=b.length/\s.heap.get? l=some { cls:=.type "list",data:=.seq b.toArray n }:=by
 obtain ⟨z,b,n,r,e⟩:=I.hok l _ d
 exact ⟨z,b,n,r,r.length,e⟩
theorem lJ{n:Nat}(h:n<=Aq):Ku n=false:=by
 unfold Ku
 exact decide_eq_false (by omega)
end
section
variable{X:Cx}
def K8:V->List V->Hp->VK->Prop:=λx vs H Q=>∃l a y,x=.ref l/\vs=[y]/\H l=some (.lst a)/\a.length<Aq/\Q .non (upd H l (.lst (a++[y])))
theorem Ot:JM X "list.append" K8:=by
 intro c s j H x vs v k Q I d f h
 obtain ⟨l,o,y,rfl,rfl,b,m,q⟩:=h
 cases d
 obtain ⟨u,rfl,g⟩:=f.one
 obtain ⟨z,a,n,r,i,e⟩:=I.lstM b
 refine dP F.slot_list_append ⟨_,e,rfl⟩ F.entry_list_append (F.args_list_append_2 _ _) (PySem.list_append l a.toArray n u (by rw[Ar]; omega)) ⟨e,?_⟩
 refine ⟨.non,_,I.lset (its':=a++[u]) b e (by simp) (r.append (.cons g .nil)) ?_,rfl,q⟩
 rw[Bf,Fl]
 omega
def O6:V->List V->Hp->VK->Prop:=λx vs H Q=>∃l b a c,x=.ref l/\vs=[.ref b]/\H l=some (.lst a)/\H b=some (.lst c)/\a.length+c.length<=Aq/\Q .non (upd H l (.lst (a++c)))
theorem CW:JM X "list.extend" O6:=by
 intro g s A H x vs v D Q I m p h
 obtain ⟨l,b,G,J,rfl,rfl,i,o,E,q⟩:=h
 cases m
 obtain ⟨u,rfl,j⟩:=p.one
 cases j
 obtain ⟨z,c,n,r,C,e⟩:=I.lstM i
 obtain ⟨B,a,t,y,k,w⟩:=I.lstM o
 have f:c.toArray.size+a.toArray.size<=Aq:=by rw[Ar,Ar]; omega
 have d:¬ (!c.toArray.isEmpty && Ku (c.toArray.size+a.toArray.size))=true:=by
  rw[lJ f,Wg]
  exact Bp
 refine dP F.slot_list_extend ⟨_,e,rfl⟩ F.entry_list_extend (F.args_list_extend_2 _ _)
  (AutoSeq1.list_extend_list_list_0 l c.toArray n b a.toArray t d (by rw[Ar]; omega) (by omega)) ⟨e,w,?_⟩
 refine ⟨.non,_,I.lset (its':=c++a) i e (by simp) (r.append y) ?_,rfl,q⟩
 rw[Bf]
 omega
def ER:R2:=λx y H Q=>∃l b a c,x=.ref l/\y=.ref b/\H l=some (.lst a)/\H b=some (.lst c)/\a.length+c.length<=Aq/\∀p,H p=none->Q (.ref p) (upd H p (.lst (a++c)))
theorem Y8:Xu X (Jb .Add) ER:=by
 intro d s A H x y v u Q I g k h
 obtain ⟨l,b,E,C,rfl,rfl,m,j,D,q⟩:=h
 cases g
 cases k
 obtain ⟨z,c,n,r,w,e⟩:=I.lstM m
 obtain ⟨t,a,B,i,p,f⟩:=I.lstM j
 refine PySem.P.add_list e f ?_ (by rw[Ar,Ar]; omega)
 have o:c.toArray++a.toArray=(c++a).toArray:=by simp
 rw[o]
 exact ⟨.ref _,_,I.lnew (t':=s.toks) (r.append i) (by rw[Bf]; omega),rfl,q _ I.fresh⟩
def EW:R2:=λx y H Q=>∃l k a,x=.ref l/\y=.int k/\H l=some (.lst a) /\ -(2 ^ 63)<=k/\k<2 ^ 63/\a.length * k.toNat<=Aq /\
 ∀p,H p=none->Q (.ref p) (upd H p (.lst (Bz k.toNat a).flatten))
theorem sF{b:Type}(xs:List b)(k:Nat):(Bz k xs).flatten.length=k * xs.length:=by
 induction k with
 | zero=>simp
 | succ k a=>rw[Gi,Iq,Bf,a,Nat.succ_mul,Nat.add_comm]
theorem AW:Xu X (Jb .Mult) EW:=by
 intro p s L H x y v u Q I G B h
 obtain ⟨l,k,N,rfl,rfl,K,J,A,w,q⟩:=h
 cases G
 obtain ⟨t,rfl⟩:=B
 obtain ⟨z,b,n,r,C,e⟩:=I.lstM K
 have g:b.toArray.size * k.toNat<=Aq:=by rw[Ar,<- C]; exact w
 have i:¬ b.toArray.size * k.toNat > (2 ^ 63 - 1) / 8:=by
  have : (Aq:Nat)<=(2 ^ 63 - 1) / 8:=by decide
  omega
 have d:¬ (!Builtin.List.listFitsIndex k)=true:=by
  rw[fitsIndex_both J A]
  exact Bp
 have c:¬ Ku (b.toArray.size * k.toNat)=true:=by
  rw[lJ g]
  exact Bp
 have f:List.foldl (λo j=>o++j) #[] (Bz (if b.toArray.isEmpty=true then 0 else k.toNat) b.toArray)=(Bz k.toNat b).flatten.toArray:=by
  have D:∀m:Nat,List.foldl (λo j=>o++j) #[] (Bz m b.toArray)=(Bz m b).flatten.toArray:=λm=>by
   have:=foldl_rep b m []
   rw[Va] at this
   exact this
  rw[D]
  cases b with
  | nil=>simp
  | cons a M=>rw[if_neg (by simp)]
 refine wpAny_binaryOp_repeat_ref (T := "list") (U := "int") (by decide) ⟨_,e,rfl⟩ (λE=>typeIs_int E k t) noFill_list_mul F.fills_int_mul F.slot_int_rmul repeat_list F.slot_int_index.lookup
  (dP F.slot_int_rmul (typeIs_int s k t) F.entry_int_rmul (F.args_int_rmul_2 _ _) (int___rmul___int_list k t l b.toArray n)
   ⟨e,rfl,⟨_,e,rfl⟩,dP F.slot_list_mul ⟨_,e,rfl⟩ F.entry_list_mul (F.args_list_mul_2 _ _) (AutoListH.list___mul___list_int_3 l b.toArray n k t d i c) ⟨e,?_⟩⟩)
 rw[f]
 exact ⟨.ref _,_,I.lnew (t':=s.toks) (r.rep k.toNat) (by rw[sF,Nat.mul_comm]; exact w),rfl,q _ I.fresh⟩
end
end L2
namespace Att
open PySem PySem.W PySem.Calls PyProof.Rows
theorem Zx{P:Params}{h:Heap}:∀(ns:List Int) (vs:List Value),WellAll P h vs (ns.map WData.int)->Ez vs ns:=by
 intro ns
 induction ns with
 | nil =>
  intro vs w
  rw[Py] at w
  cases w
  exact .nil
 | cons n ns c =>
  intro vs w
  rw[Ao] at w
  cases w with
  | cons a b =>
   cases a
   exact .cons _ _ (c _ b)
theorem vD{l:OpenLaw}{n:Nat}(v:l.most=some n){P:Params}{h:Heap}{args:List WData}{c:List Value}(b:l.row.toRowW.claim.pre args=true)(j:WellAll P h c args):∃a vs ns,c=[Ay a]/\args=[WData.list (ns.map WData.int)]/\h.get? a=some { cls:=.type "list",data:=.seq vs.toArray }/\Ez vs ns/\ns.length<=n:=by
 have k:WShape.hasAll [] args [.list .int]=true:=(pre_splitW b).1
 have m:l.pre.holds [] { args:=args }=true:=(pre_splitW b).2
 obtain ⟨d,r,rfl,s,o⟩:=hasAllW_cons k
 obtain rfl:=hasAllW_nil o
 obtain ⟨y,rfl,x⟩:=hasW_list s
 obtain ⟨ns,rfl⟩:=items_int x
 have e:ns.length<=n:=by
  unfold OpenLaw.pre at m
  have g:(WTm.not (.lt (.lit (.int (n:Int))) (.len (.arg 0)))).holds [] { args:=[.list (ns.map .int)] }=true:=by
   have g:=(holds_andW m).1
   rw[v] at g
   exact g
  have i:=condW_of g (w_not (w_lt w_lit (w_len_list (w_arg rfl))))
  rw[Af] at i
  refine Nat.le_of_not_lt λq=>?_
  have w:(n:Int)<((ns.length:Nat):Int):=by omega
  first
   | (rw[decide_eq_true w] at i; exact absurd i (by decide))
   | (simp at i; omega)
 cases j with
 | cons p t =>
  cases t
  cases p with
  | list u f=>exact ⟨_,_,ns,rfl,rfl,u,Zx ns _ f,e⟩
theorem xA(l:OpenLaw)(args:List WData):l.row.toRowW.claim.post args (.bool true) args=true :=
 postW_of (r:=l.row.toRowW) (X:=(true == true))
  (show WShape.has [] (.bool true) .bool=true by first | rfl | decide | simp [WShape.has,WShape.arms,WShape.armsAll])
  (show (WTm.eq .res (.lit (.bool true))).value [] { args:=args,res:=some (.bool true),after:=args }=some (.bool (true == true)) from w_eq_bool (w_res rfl) w_lit) rfl
theorem attach_call{l:OpenLaw}{n:Nat}{q:Bl}{c:List Str}{C:(Str->Option Value)->Heap->Prop}{z:World->Heap->Prop}{d:DefRec}(L:l.most=some n)(u:d.params.defaults=[])(call:∀(w:World) (s₀ b:Ai) (mg t:Str->Option Value) (i:Addr) (o:Obj) (x m g:Value) (a:Addr) (vs:List Value) (ns:List Int),Ground q c [] C w s₀ mg t b.heap->z w b.heap->b.heap.get? i=some o->o.data=.func (docDef d.name d.params d.body d.scope x m g)->b.heap.CodeRec m d.name->mg d.name=some (.ref i)->b.heap.get? a=some { cls:=.type "list",data:=.seq vs.toArray }->Ez vs ns->ns.length<=n->b.gens=#[]->Hb (model l.prog w) callerA (.call (.ref i) ⟨[.ref a],[]⟩) (λr s'=>r=.ok (.ret (.bool true))/\OldK b.heap s'.heap/\s'.os=b.os/\Wn s'.gens) b):WalkO q c C z l.row.toRowW d [] (λf vs=>PySem.call f vs):=by
 intro w s₀ b mg t G Y i o x m g dV kV K O p y s P B D Q k A N v J
 obtain rfl:dV=.none:=Dflts.none y u
 obtain rfl:kV=.none:=Dflts.noKw y
 obtain ⟨a,vs,ns,rfl,rfl,h,e,j⟩:=vD L k v
 refine enter_call (Nz (call w s₀ b mg t i o x m g a vs ns G Y K (fd_plain O) p s h e j P) λr s' H=>?_)
 obtain ⟨rfl,E,M,I⟩:=H
 exact ⟨.inl ⟨.bool true,.bool true,[],rfl,λ_=>rfl,.bool true,xA l _,λ_=>⟨Ea,λ_ F=>(nomatch F)⟩⟩,E,M,I⟩
end Att
namespace L2
open PySem PySem.Spec PyProof.Rows
theorem fM:∀{vs:List Value} {ns:List Int},Ez vs ns->Gf (ns.map V.int) vs
 | _,_,.nil=>.nil
 | _,_,.cons n t h=>.cons ⟨t,rfl⟩ (fM h)
def X8(H:Hp):Prop:=∀b,H b=none\/∃o a,H b=some (.frz o (.lst a))
def Qe(s:Stmt):Arguments:=match s with
 | .FunctionDef _ a _ _ _ _ _ _ _ _=>a
 | _=>{ posonlyargs:=[],args:=[],vararg:=none,kwonlyargs:=[],kw_defaults:=[],kwarg:=none,defaults:=[] }
def Kt(s:Stmt):List Stmt:=match s with
 | .FunctionDef _ _ b _ _ _ _ _ _ _=>b
 | _=>[]
def Cf(s:Stmt):Scope:=match s with
 | .FunctionDef _ _ _ _ _ _ a _ _ _=>a
 | _=>{ kind:=.function,names:=[],isGenerator:=false,isCoroutine:=false }
abbrev La:uR:=λ_ _ _ _ _ _=>False
abbrev E0:XK:=λ_ _ _=>False
theorem Ji{X:Cx}:Sg La X E0:=λ_ _ _ _ _ _ _ h=>h.elim
structure Fun(K:PySem.W.Frag)(x qual:Str)(st:Stmt)(f:Addr)(fd:Dc):Prop where
 ex:∃(oc:Value) (od:Option Addr) (kV doc pm:Value) (an:Option Addr) (cdv ct:Value) (osl:Array (Option Value)),
  fd=PySem.W.fnOf x qual (Qe st) (Kt st) (Cf st) .none kV doc pm an cdv ct/\K.lookup f=some ⟨oc,od,.func fd,osl⟩/\PySem.W.codeIn K cdv qual=true
 kp:PySem.W.keepIn K (.ref f)=true
section
variable{P:Bl}{w:World}{K:PySem.W.Frag}{mg:Str->Option Value}{base:Heap}
theorem Fun.ok{x a:Str}{st:Stmt}{f:Addr}{g:Dc}{N ps:List Str}{k:Nat}{sp:Sp}(F:Fun K x a st f g)(S:FnScope N ps (Cf st))(len:∀vs H Q E,sp vs H Q E->vs.length=ps.length)(c:∀(b:Value) (A:Ce) (outer:List Env) (s:Ai) (H:Hp) (vs:List V) (Q:VK) (E:XK),Room k (A.deeper (Sv a (Cf st) s.heap.objs.size f b))->sp vs H Q E->∃t,tP (Qo La P w K mg base N a (Cf st) f b A outer s H E).nox (Kt st) t/\t { nx:=λ_ j=>Q .non j,rt:=Q } (start N vs) H):FnOk P w K mg base La (k+1) f g ps sp:=by
 obtain ⟨r,u,kV,n,v,o,b,p,l,rfl,m,e⟩:=F.ex
 refine DR m e S len λA outer s H vs Q E i d=>?_
 obtain ⟨t,h,q⟩:=c b A outer s H vs Q E i d
 exact ⟨t,h.nox,q⟩
theorem Fun.binds{x a:Str}{st:Stmt}{f:Addr}{g:Dc}{ps:List Str}(F:Fun K x a st f g)(h:∀(kV c e:Value) (d:Option Addr) (b ct:Value) (us:List Value),us.length=ps.length->bindArgs (PySem.W.fnOf x a (Qe st) (Kt st) (Cf st) .none kV c e d b ct) ⟨us,[]⟩=pure (ps.zip us)):Binds K g ps []:=by
 obtain ⟨k,l,kV,c,e,d,b,ct,i,rfl,m,j⟩:=F.ex
 exact .all (h kV c e d b ct)
theorem A8{x a:Str}{st:Stmt}{f:Addr}{i:Value}{j g:Option Addr}{e:Array (Option Value)}{kV d h b ct:Value}(l:K.lookup f=some ⟨i,j,.func (PySem.W.fnOf x a (Qe st) (Kt st) (Cf st) .none kV d h g b ct),e⟩)(c:PySem.W.codeIn K b a=true)(k:PySem.W.keepIn K (.ref f)=true):Fun K x a st f (PySem.W.fnOf x a (Qe st) (Kt st) (Cf st) .none kV d h g b ct):=⟨⟨i,j,kV,d,h,g,b,ct,e,rfl,l,c⟩,k⟩
end
theorem wC{n:Nat}(h:n<=1000):n<Aq:=Nat.lt_of_le_of_lt h (by decide)
section
variable{X:Cx}
theorem pv(i:Nat){x:Str}{pos:Pos}(b:X.N[i]? = some x:=by rfl)(c:GY X.env.scope x:=by first | exact Dw rfl | exact Or.inr (Dw rfl) | exact Or.inr (Or.inr rfl))(hd:(x == ("__debug__" : Str))=false:=by decide)(a:(x == ("__classdict__" : Str))=false:=by decide):PE X (.Name x pos) (eM i):=AN b c hd a
end
theorem oK{A B:Prop}(h:B):if false=true then A else B:=by
 rw[if_neg Bp]
 exact h
theorem mF{A B:Prop}(h:A):if true=true then A else B:=by
 rw[if_pos rfl]
 exact h
theorem DD{c A B:Prop}[Decidable c](a:c->A)(b:¬ c->B):if c then A else B:=by
 by_cases h:c
 ·rw[if_pos h]
  exact a h
 ·rw[if_neg h]
  exact b h
def Sx(H a:Hp):Prop:=∀b o,H b=some o->a b=some o
theorem Sx.refl(H:Hp):Sx H H:=λ_ _ h=>h
theorem Sx.trans{H e d:Hp}(a:Sx H e)(b:Sx e d):Sx H d:=λc o h=>b c o (a c o h)
theorem Sx.free{H a:Hp}(e:Sx H a){l:Addr}(h:a l=Qv):H l=Qv:=by
 cases q:H l with
 | none=>rfl
 | some o =>
  rw[e l o q] at h
  cases h
end L2
namespace Nd
open PySem PySem.Spec PyProof.Rows L2
def Dm(X:Cx)(a:Scope)(b:List (Str×Addr))(N:List Str)(fp:List Addr)(s:Ai)(H:Hp):Cx where
 prog:=X.prog
 w:=X.w
 K:=X.K
 mg:=X.mg
 base:=X.base
 A:=X.A
 N:=N
 s₀:=s
 H₀:=H
 env:=Vk a (Ek (s.heap.objs.size+1) a.names b) s.heap.objs.size X.env
 outer:=X.stack
 stack:=X.stack
 ex:=fp
 fn:=λy=>decide (a.names.lookup y=some Eb)
 calm:=X.calm
 pn:=[]
 xe:=λ_ _=>False
section
variable{prog:Bl}{w:World}{A:Ce}{R:Result->Ai->Prop}{s:Ai}
theorem Vy{b f iter:Expr}{e:List Expr}{a:Scope}{pos:Pos}{it d:Value}{env:Env}(J:Nat->Ai->Prop) (turn:∀n s,J n s->wpAny (model prog w) A (Hi it) (λr i=>match r with
    | none=>R (.ok .next) i
    | some v=>wpAny (model prog w) A (Ho f it v) (λ_ q=>wpAny (model prog w) A (Oc f env v) (λ_ o =>
      wpAny (model prog w) A (forIn e true λc r=>if r=true then (do
        let ok <- isTrue c env (eval c env)
        pure (El ok)) else pure (El r)) (λok g =>
       if ok=true then
        wpAny (model prog w) A (eval b env) (λx l=>wpAny (model prog w) A (call (.builtin "list.append") [d,x]) (λ_ p=>∃m,m<n/\J m p) (λ_ _=>False) l) (λ_ _=>False) g
       else ∃m,m<n/\J m g) (λ_ _=>False) o) (λ_ _=>False) q) (λ_ _=>False) i) (λ_ _=>False) s)
  (n:Nat) (h:J n s):Hb (model prog w) A (.compLoop (.ListComp b [⟨f,iter,e,0⟩] a pos) 0 it d env) R s:=by
 refine gH rfl J (λn s B=>?_) n h
 show wpAny _ A (Sem.onRaise (compTurn (.ListComp b [⟨f,iter,e,0⟩] a pos) 0 it d env) (λx=>do noteFrame x env; theTreesLotGoes x)) _ _ s
 refine wpAny_noted ?_
 rw[compTurn_list]
 refine Aa (Ib (Aa (Cq (turn n s B) (λr i j=>?_) λ_ _ z=>z.elim)))
 cases r with
 | none=>exact Ac j
 | some v =>
  refine Aa (Cq j (λ_ q t=>?_) λ_ _ z=>z.elim)
  refine Aa (Cq t (λ_ o C=>?_) λ_ _ z=>z.elim)
  refine Aa (Cq C (λok g k=>?_) λ_ _ z=>z.elim)
  cases ok with
  | false=>exact Ac ⟨rfl,k⟩
  | true =>
   refine Aa (Aa (Cq k (λx l y=>?_) λ_ _ z=>z.elim))
   exact Aa (Cq y (λ_ p u=>Ac (Ac ⟨rfl,u⟩)) λ_ _ z=>z.elim)
end
section
variable{X:Cx}{a:List (Addr×Obj)}{b:L2.St}{H:Hp}{s:Ai}{scope:Scope}{cl:List (Str×Addr)}{fp:List Addr}{N:List Str}
def cZ(scope:Scope)(x:Str):Prop:=scope.names.lookup x=some .local\/scope.names.lookup x=some .cell
structure CompScope(X:Cx)(scope:Scope)(cl:List (Str×Addr))(x:Str)(ys:List Str)(js:List Nat):Prop where
 clos:closureFor scope X.env=pure cl
 oc:(∀y∈scope.names,y.2≠.cell)\/∃z:Str,(∀n,Ek n scope.names []=[(z,n)])/\scope.names.lookup z=some .cell/\∀y∈scope.names,y.2=.cell->y.1=z
 kind:scope.kind=.function
 locs:∀y∈scope.names,y.2=.local->scope.names.lookup y.1=some .local
 own:cZ scope x
 sub:∀y c,cl.lookup y=some c->X.env.cells.lookup y=some c
 has_:(scope.names.all λy=>!(y.2 == En) || (cl.lookup y.1).isSome)=true
 nd:(x::ys).Nodup
 len:ys.length=js.length
 at_:∀(k:Nat) (y:Str) (j:Nat),ys[k]? = some y->js[k]? = some j->X.N[j]? = some y/\scope.names.lookup y=some .free/\(X.env.kindOf y=some .cell\/X.env.kindOf y=some .free)
theorem CompScope.has{x:Str}{ys:List Str}{b:List Nat}(C:CompScope X scope cl x ys b):∀y∈scope.names,y.2=.free->(cl.lookup y.1).isSome=true:=λy a e=>by
 have h:=List.all_eq_true.mp C.has_ y a
 rw[e] at h
 simpa using h
theorem To{env:Env}{y:Str}{k:Qm}:∀{names:List (Str×Qm)},
  (names.map λ(n,k)=>if (k == En && env.scope.kind == .function && env.kindOf n == some .cell) then (n,Eb) else (n,k)).lookup y=some k ->
  ∃c,names.lookup y=some c/\(k=c\/(c=.free/\k=.cell))
 | [],h=>by simp at h
 | (n,c)::r,h=>by
  have i:=@To env y k r
  rw[Ao] at h
  by_cases d:(c == En && env.scope.kind == .function && env.kindOf n == some .cell)=true
  ·have a:Mj y ((n,Eb)::(r.map λ(n,k)=>if (k == En && env.scope.kind == .function && env.kindOf n == some .cell) then (n,Eb) else (n,k)))=some k:=by
    simpa [d] using h
   cases b:y == n with
   | true =>
    rw[Cb,b] at a
    have e:k=Eb:=by simpa using a.symm
    refine ⟨c,by rw[Cb,b],.inr ⟨?_,e⟩⟩
    rw[Fu,Fu] at d
    exact Dz d.1.1
   | false =>
    rw[Cb,b] at a
    obtain ⟨q,g,f⟩:=i a
    exact ⟨q,by rw[Cb,b]; exact g,f⟩
  ·have a:Mj y ((n,c)::(r.map λ(n,k)=>if (k == En && env.scope.kind == .function && env.kindOf n == some .cell) then (n,Eb) else (n,k)))=some k:=by
    simpa [d] using h
   cases b:y == n with
   | true =>
    rw[Cb,b] at a
    exact ⟨c,by rw[Cb,b],.inl (by simpa using a.symm)⟩
   | false =>
    rw[Cb,b] at a
    obtain ⟨q,g,f⟩:=i a
    exact ⟨q,by rw[Cb,b]; exact g,f⟩
theorem Wo{env:Env}{y:Str}:∀{names:List (Str×Qm)},names.lookup y=some .free ->
  (names.map λ(n,k)=>if (k == En && env.scope.kind == .function && env.kindOf n == some .cell) then (n,Eb) else (n,k)).lookup y=some .cell \/
  (names.map λ(n,k)=>if (k == En && env.scope.kind == .function && env.kindOf n == some .cell) then (n,Eb) else (n,k)).lookup y=some .free
 | [],h=>by simp at h
 | (n,k0)::r,h=>by
  have c:=@Wo env y r
  show Mj y ((if (k0 == En && env.scope.kind == .function && env.kindOf n == some .cell)=true then (n,Eb) else (n,k0))::_)=_\/Mj y ((if (k0 == En && env.scope.kind == .function && env.kindOf n == some .cell)=true then (n,Eb) else (n,k0))::_)=_
  by_cases b:(k0 == En && env.scope.kind == .function && env.kindOf n == some .cell)=true
  ·rw[if_pos b]
   cases a:y == n with
   | true=>exact .inl (by rw[Cb,a])
   | false =>
    rw[Cb,a] at h
    simp only[Cb,a]
    exact c h
  ·rw[if_neg b]
   cases a:y == n with
   | true =>
    rw[Cb,a] at h
    exact .inr (by rw[Cb,a]; exact h)
   | false =>
    rw[Cb,a] at h
    simp only[Cb,a]
    exact c h
theorem Gw{a c:Type}[BEq a][LawfulBEq a]{y:a}{k:c}:∀{l:List (a×c)},l.lookup y=some k->(y,k)∈l
 | [],h=>by simp at h
 | (n,v)::r,h=>by
  cases b:y == n with
  | true =>
   rw[Cb,b] at h
   have e:=Dz b
   subst e
   have : v=k:=by simpa using h
   subst this
   exact Ab
  | false =>
   rw[Cb,b] at h
   exact Ad _ (Gw h)
end
theorem jI{a c:Nat}(h:c<a)(e:c=a+1):False:=by omega
theorem Jl:∀(names:List (Str×Qm)) (n:Nat) (a:List (Str×Addr)),Ek n names a=Ek n names []++a
 | [],_,_=>rfl
 | (x,k)::r,n,a=>by
  unfold Ek
  by_cases h:(k == Eb)=true
  ·rw[if_pos h,if_pos h,Jl r _ ((x,n)::a),Jl r _ [(x,n)],Bt]; rfl
  ·rw[if_neg h,if_neg h]; exact Jl r n a
theorem Pi:∀(names:List (Str×Qm)) (n:Nat) (a:List (Str×Addr)),(∀y∈names,y.2≠.cell)->Ek n names a=a
 | [],_,_,_=>rfl
 | (x,k)::r,n,a,h=>by
  unfold Ek
  rw[if_neg (by have:=h (x,k) Ab; simpa using this)]
  exact Pi r n a λy b=>h y (Ad _ b)
theorem Xk{env:Env}{y:Str}:∀{names:List (Str×Qm)},names.lookup y=some .cell->(names.map λ(n,k)=>if (k == En && env.scope.kind == .function && env.kindOf n == some .cell) then (n,Eb) else (n,k)).lookup y=some .cell
 | [],h=>by simp at h
 | (n,k0)::r,h=>by
  have c:=@Xk env y r
  show Mj y ((if (k0 == En && env.scope.kind == .function && env.kindOf n == some .cell)=true then (n,Eb) else (n,k0))::_)=_
  by_cases b:(k0 == En && env.scope.kind == .function && env.kindOf n == some .cell)=true
  ·rw[if_pos b]
   cases a:y == n with
   | true=>rw[Cb,a]
   | false=>rw[Cb,a] at h ⊢; exact c h
  ·rw[if_neg b]
   cases a:y == n with
   | true=>rw[Cb,a] at h ⊢; exact h
   | false=>rw[Cb,a] at h ⊢; exact c h
theorem On{env:Env}{a:Scope}{x:Str}(o:cZ a x):Loc (relabel a env) x:=o.imp lookup_relabel_local Xk
section
variable{X:Cx}{a:Scope}{d:List (Str×Addr)}{x y:Str}{ys:List Str}{f:List Nat}{n c:Nat}{N:List Str}{fp:List Addr}{s:Ai}{H:Hp}
theorem Ru(o:cZ a x):(Dm X a d N fp s H).fn x=true\/(Dm X a d N fp s H).env.scope.names.lookup x=some .local:=by
 rcases o with o | o
 ·exact .inr (lookup_relabel_local o)
 ·exact .inl (decide_eq_true o)
theorem CompScope.split(C:CompScope X a d x ys f)(h:(Ek n a.names d).lookup y=some c):d.lookup y=some c\/(c=n/\Ek 0 a.names []=[(y,0)]/\Ek n a.names []=[(y,n)]/\a.names.lookup y=some .cell):=by
 rcases C.oc with o | ⟨z,g,k,_⟩
 ·rw[Pi _ _ _ o] at h; exact .inl h
 ·rw[Jl,g] at h
  have b:Mj y ((z,n)::d)=some c:=h
  rw[Cb] at b
  cases e:y == z with
  | true =>
   rw[e] at b
   have i:c=n:=(Bv b).symm
   have j:=Dz e
   subst j
   exact .inr ⟨i,g 0,g n,k⟩
  | false=>rw[e] at b; exact .inl b
theorem CompScope.find(C:CompScope X a d x ys f)(h:d.lookup y=some c)(b:a.names.lookup y=some .free):(Ek n a.names d).lookup y=some c:=by
 rcases C.oc with o | ⟨z,i,g,_⟩
 ·rw[Pi _ _ _ o]; exact h
 ·rw[Jl,i]
  show Mj y ((z,n)::d)=some c
  rw[Cb]
  cases e:y == z with
  | true=>rw[Dz e,g] at b; cases b
  | false=>exact h
theorem CompScope.cellAt(C:CompScope X a d x ys f)(b:(y,Eb)∈a.names):(Ek n a.names d).lookup y=some n:=by
 rcases C.oc with o | ⟨z,e,h,c⟩
 ·exact absurd rfl (o _ b)
 ·have g:y=z:=c _ b rfl
  subst g
  rw[Jl,e]
  show Mj y ((y,n)::d)=some n
  rw[Cb,beq_self_eq_true]
theorem Ri{M:Model}{A:Ce}{E:Value->Ai->Prop}{Q:Env->Ai->Prop}(C:CompScope X a d x ys f)(i:∀g,g.Ns s.heap.objs.size (λ_=>none)->(∀b u,s.heap.get? b=some u->g.get? b=some u)->(∀z n,Ek (s.heap.objs.size+1) a.names []=[(z,n)]->g.IsCell n none)->Q (newEnv a s.heap.objs.size X.env.globals (Ek (s.heap.objs.size+1) a.names d) X.env.qual none .none (some X.env) builtinsNs) { s with heap:=g,toks:=s.toks+([]:List (Str×Value)).length }):wpAny M A (Ly a X.env.globals d [] X.env.qual none .none (some X.env)) Q E s:=by
 simp only[Ly,Option.isSome_some,if_true]
 refine Aa (wpAny_alloc (Aa (wpAny_layCells _ (λx k j=>by cases e:k == Eb <;> simp [e]) _ _ _ _ ?_)))
 have c:({ s with heap:=s.heap.push { cls:=.type "dict",data:=.dict #[] } }:Ai).heap.objs.size=s.heap.objs.size+1:=Fc ..
 rw[c]
 refine Aa (Ac (Ac (i _ ((Heap.Ns.new s.heap (.type "dict")).keeps (pushCells_keeps _ _)) (λb u e=>pushCells_keeps _ _ b u (Ah _ e)) λz n e=>?_)))
 have ok:=(cellsFrom_ok a.names (s.heap.push { cls:=.type "dict",data:=.dict #[] }) 0 [] ⟨λ_ _ h=>(nomatch h),Ea⟩ (Di _)).empty z n
 rw[show (s.heap.push { cls:=.type "dict",data:=.dict #[] }).objs.size=s.heap.objs.size+1 from c,e] at ok
 exact (ok (Al.mpr rfl)).1
end
section
variable{X:Cx}{f:List (Addr×Obj)}{g:L2.St}{H:Hp}{s:Ai}{a:Scope}{t:List (Str×Addr)}{fp:List Addr}{N:List Str}
theorem R3{x:Str}{ys:List Str}{G:List Nat}(C:CompScope X a t x ys G)(I:Inv X f g H s)(v:∀b∈fp,Ml X f H b)(F:∀b∈fp,∃o,s.heap.get? b=some o):(Dm X a t N fp s H).Ok where
 mod:=I.ok.mod
 kind:=C.kind
 glob:=I.ok.glob
 blt:=I.ok.blt
 above:=Aj _
 inj:=λy z c u l=>by
  have lt:∀y,t.lookup y=some c->c<s.heap.objs.size:=λy e=>let ⟨_,q⟩:=I.cell y c (C.sub y c e); q.lt
  rcases C.split u with u | ⟨e1,E,_⟩
  ·rcases C.split l with l | ⟨w,_⟩
   ·exact I.ok.inj y z c (C.sub y c u) (C.sub z c l)
   ·exact (jI (lt y u) w).elim
  ·rcases C.split l with l | ⟨w,D,_⟩
   ·exact (jI (lt z l) e1).elim
   ·rw[E] at D
    simpa using D
 has:=λy hy=>by
  have r:∀k,(k=Eb\/k=En)->(Vk a t s.heap.objs.size X.env).kindOf y=some k->∃c,(Ek (s.heap.objs.size+1) a.names t).lookup y=some c:=by
   intro k hk e
   obtain ⟨A,B,e1⟩:=To (names:=a.names) (env:=X.env) (y:=y) (k:=k) e
   have m:=Gw B
   by_cases p:A=.cell
   ·exact ⟨_,C.cellAt (p▸m)⟩
   have d:A=.free:=by
    rcases e1 with e1 | e1
    ·subst e1
     rcases hk with hk | hk
     ·exact absurd hk p
     ·exact hk
    ·exact e1.1
   obtain ⟨c,j⟩:=Rl.mp (C.has _ m d)
   exact ⟨c,C.find j (d▸B)⟩
  rcases hy with hy | hy
  ·exact r _ (.inl rfl) hy
  ·exact r _ (.inr rfl) hy
 cab:=λy c h e=>by
  have h:a.names.lookup y=some .cell:=of_decide_eq_true h
  have:=(C.cellAt (n:=s.heap.objs.size+1) (Gw h)).symm.trans e
  show s.heap.objs.size<=c
  have:=Bv this
  omega
 hd:=I.ok.hd
 frames:=I.ok.frames
 stk:=.inl rfl
 exf:=λb i=>by
  obtain ⟨o,e⟩:=F b i
  refine ⟨Bu (Au e),λy c j=>?_⟩
  rcases C.split j with j | ⟨j,_⟩
  ·exact (v b i).2.2.2.2.1 y c (C.sub y c j)
  ·exact λz=>jI (Au e) (z.symm.trans j)
 bs:=I.bs
 bsz:=Cg I.ok.bsz I.sz
 noex:=λb o e i=>by
  rcases (v b i).2.2.2.1 with z | z
  ·exact I.ok.noex b o e z
  ·exact absurd (Cc (Au (I.ok.bs b o e).1) z) (Fo _)
 exfs:=λb i z=>by
  rcases An.mp (I.stkSub b z) with e | e
  ·exact (v b i).2.1 e
  ·exact (v b i).2.2.1 e
 funs:=I.stack
 frf:=I.stkFree
def Ei(g:L2.St)(a:List Nat):L2.St:=a.map λj=>(g[j]?).join
theorem Pk{x:Str}{pre ys:List Str}{B:List Nat}{D:Heap}{U:Nat}{P:Str->Option Value}(C:CompScope X a t x ys B)(I:Inv X f g H s)(hf:∀b∈fp,Ml X f H b)(ho:∀b∈fp,∃o,s.heap.get? b=some o)(O:D.Ns s.heap.objs.size P)(keep:∀b u,s.heap.get? b=some u->D.get? b=some u)(M:∀z n,Ek (s.heap.objs.size+1) a.names []=[(z,n)]->D.IsCell n none):Inv (Dm X a t (pre++ys) fp s H) [] (pre.map (λ_=>none)++Ei g B) H { s with heap:=D,toks:=U }:=by
 have w:∀y c,t.lookup y=some c->∃v,s.heap.IsCell c v/\D.IsCell c v:=λy c e=>by
  obtain ⟨v,o,q,d⟩:=I.cell y c (C.sub y c e)
  exact ⟨v,⟨o,q,d⟩,o,keep c o q,d⟩
 refine ⟨R3 C I hf ho,rfl,I.bare,Un.kept keep,⟨P,O,λi y v J m _=>?_⟩,λy c e=>?_,I.hok.fresh (Aj _),λy c e=>?_,λp Z=>?_,I.hok.kept keep,?_⟩
 ·have m:(pre.map (λ_=>(none:Option V))++Ei g B)[i]? = some (some v):=m
  have J:(pre++ys)[i]? = some y:=J
  by_cases Y:i<pre.length
  ·rw[Li (by rw[Af]; exact Y),Bj] at m
   cases q:pre[i]? with
   | none=>rw[q] at m; cases m
   | some z=>rw[q] at m; cases m
  ·rw[Gh (by rw[Af]; omega),Af] at m
   rw[Gh (by omega)] at J
   have F:=J
   have h:=m
   generalize i - pre.length=k at F h
   unfold Ei at h
   rw[Bj] at h
   cases N:B[k]? with
   | none=>rw[N] at h; simp at h
   | some j =>
    rw[N] at h
    have E:(g[j]?).join=some v:=by simpa using h
    have e4:g[j]? = some (some v):=by
     cases q:g[j]? with
     | none=>rw[q] at E; simp at E
     | some z=>rw[q] at E; simp at E; rw[E]
    obtain ⟨a1,L,a3⟩:=C.at_ k y j F N
    obtain ⟨m0,_,W⟩:=I.loc
    have K:GY X.env.scope y:=a3.elim (λa3=>.inr (.inl a3)) λa3=>.inr (.inr a3)
    obtain ⟨u,r,l⟩:=W j y v a1 e4 K
    refine ⟨u,r,?_⟩
    rcases l with ⟨Q,_⟩ | ⟨_,c,S,hv⟩
    ·rcases a3 with a3 | a3 <;> rw[Q] at a3 <;> cases a3
    ·obtain ⟨G,A⟩:=Rl.mp (C.has _ (Gw L) rfl)
     have R:G=c:=by
      have:=C.sub y G A
      rw[S] at this
      exact (Bv this).symm
     subst R
     obtain ⟨o,q,d⟩:=hv
     exact .inr ⟨Wo L,G,C.find A L,o,keep G o q,d⟩
 ·rcases C.split e with e | ⟨e,_,T,_⟩
  ·obtain ⟨v,_,z⟩:=w y c e
   exact ⟨v,z⟩
  ·exact ⟨_,e▸M _ _ T⟩
 ·rcases C.split e with e | ⟨e,_⟩
  ·exact I.freeC y c (C.sub y c e)
  ·exact I.hok.fresh (by omega)
 ·cases (show p∈([]:List (Addr×Obj)) from Z)
 ·show (pre.map (λ_=>(none:Option V))++Ei g B).length=(pre++ys).length
  simp [Ei,C.len]
end
section
variable{X:Cx}
def DJ(J:It)(l:List Nat)(n:TT)(o:TE)(g:L2.St)(j:Hp)(Q:VK):Prop:=∀D,j D=none->∃W:Nat->Nat->Hp->Prop,(∃m,W 0 m (upd j D (.lst [])))/\∀i m H,W i m H ->
 (J.stop i H/\Q (.ref D) H)\/(J.go i H/\∀x f,J.yld i H x f->∃(k:Hp->Prop) (h:VK),(∀b,k b->∃d,d<m/\W (i+1) d b) /\
  (∀y e,h y e->∃a,e D=some (.lst a)/\a.length<Aq/\∃d,d<m/\W (i+1) d (upd e D (.lst (a++[y])))) /\
  n (some x::Ei g l) f λc b=>if c=true then o (some x::Ei g l) b h else k b)
def lM(d:TI)(e:List Nat)(b:TT)(f:TE):TE:=λa H Q=>d a H λJ c=>DJ J e b f a c Q
def Sh:TT:=λ_ H Q=>Q true H
def rF(X:Cx)(d:List Expr)(t:TT):Prop :=
 ∀(a:List (Addr×Obj)) (s:Ai) (b:L2.St) (H:Hp) (Q:Bool->Hp->Prop),Inv X a b H s->t b H Q ->
  wpAny (model X.prog X.w) X.A (forIn d true λc r=>if r=true then (do
   let ok <- isTrue c X.env (eval c X.env)
   pure (El ok)) else pure (El r)) (TP X a b Q) X.xe s
theorem yC:rF X [] Sh:=λa s b H Q I h=>wpAny_tests_nil ⟨H,I,h⟩
theorem E6{c:Expr}{t:TT}(h:PT X c t):rF X [c] t:=λa s b H Q I q=>wpAny_tests_one (h a s b H Q I q)
theorem rZ{S iter:Expr}{x:Str}{px pos:Pos}{V:List Expr}{a:Scope}{O:List (Str×Addr)}{ys:List Str}{U:List Nat}{wi:TI}{tc:TT}{te:TE}(C:CompScope X a O x ys U)(hc:X.calm=true)(hi:PI X (.Name x px) iter wi)(ht:∀fp s H,rF (Dm X a O (x::ys) fp s H) V tc)(he:∀fp s H,PE (Dm X a O (x::ys) fp s H) S te)(hs:∀x,Cz iter X.env x=pure x:=by intro _; rfl):PE X (.ListComp S [⟨.Name x px,iter,V,0⟩] a pos) (lM wi U tc te):=by
 intro l s M H Q I h
 rw[eval_ListComp]
 refine Jh (use:=none) rfl hs C.clos C.kind C.locs (Gb (hi l s M H _ I h) λv s1 h1=>Gb h1 λx6 j h2=>?_)
 obtain ⟨it,fp,tn,J,G,e,I2,T,k6,f2,q2⟩:=h2
 subst e
 have fD:G j.heap.objs.size=none:=I2.hok.fresh (Aj _)
 obtain ⟨W,⟨m0,w0⟩,h6⟩:=q2 j.heap.objs.size fD
 refine Ca ?_
 have I3:Inv X l M (upd G j.heap.objs.size (.lst [])) { j with heap:=j.heap.push { cls:=.type "list",dict:=none,data:=.seq ([]:List Value).toArray } } :=
  I2.laid (t':=j.toks) (λb u q=>Ah _ q) (Aj _) ⟨Di _,[],0,.nil,Ap _ rfl⟩
 have q7:∀b∈fp,b≠j.heap.objs.size:=λb d z=>by
  obtain ⟨o,q,_⟩:=T.obj _ _ k6 b d
  have:=Au q
  rw[z] at this
  exact absurd this (Fo _)
 have f3:∀b∈fp,Ml X l (upd G j.heap.objs.size (.lst [])) b:=λb d=>⟨by rw[Dr (q7 b d)]; exact (f2 b d).1,(f2 b d).2⟩
 generalize j0:({ j with heap:=j.heap.push { cls:=.type "list",dict:=none,data:=.seq ([]:List Value).toArray } }:Ai)=s3 at I3
 have q1:tn 0 s3.heap:=T.keep 0 _ _ k6 λb d o q=>by rw[<- j0]; exact Ah _ q
 have o3:∀b∈fp,∃o,s3.heap.get? b=some o:=λb d=>let ⟨o,q,_⟩:=T.obj _ _ q1 b d; ⟨o,q⟩
 show wpAny _ _ (Ly a X.env.globals O [] X.env.qual none .none (some X.env)) _ _ _
 refine Ri C λh4 k1 B k4=>?_
 have I4:∀tk,Inv (Dm X a O (x::ys) fp s3 (upd G j.heap.objs.size (.lst []))) [] (none::Ei M U) (upd G j.heap.objs.size (.lst [])) { s3 with heap:=h4,toks:=tk }:=λtk=>Pk (pre:=[x]) C I3 f3 o3 k1 B k4
 have h0:tn 0 h4:=T.keep 0 _ _ q1 λb d o q=>B b o q
 generalize g:Dm X a O (x::ys) fp s3 (upd G j.heap.objs.size (.lst []))=X' at I4
 have eP:X'.prog=X.prog:=by rw[<- g]; rfl
 have eW:X'.w=X.w:=by rw[<- g]; rfl
 have eK:X'.K=X.K:=by rw[<- g]; rfl
 have eA:X'.A=X.A:=by rw[<- g]; rfl
 have eC:X'.calm=true:=by rw[<- g]; exact hc
 have t:∀{k:Hp},(∀b∈fp,k b=none)->∀b∈fp,Ml X' [] k b:=λ{k} hn b d=>by
  have ok:=(I4 0).ok
  have E:b∈X'.ex:=by rw[<- g]; exact d
  exact ⟨hn b d,(ok.exf b E).1,ok.exfs b E,.inl E,(ok.exf b E).2,λp hp=>by rw[<- g] at hp; cases (show p∈([]:List (Addr×Obj)) from hp)⟩
 have N:∀s5:Ai,s5={ s3 with heap:=h4,toks:=s3.toks+([]:List (Str×Value)).length } ->
   Hb (model X.prog X.w) X.A (.compLoop (.ListComp S [⟨.Name x px,iter,V,0⟩] a pos) 0 (.ref it) (.ref j.heap.objs.size) (Vk a (Ek (s3.heap.objs.size+1) a.names O) s3.heap.objs.size X.env))
    (compPost (model X.prog X.w) X.A X.xe none (EP X l M Q) (.ref j.heap.objs.size) s3.heap.objs.size) s5:=by
  rintro s5 rfl
  refine Vy (λn s'=>∃i o k,Inv X' [] (o::Ei M U) k s'/\tn i s'.heap/\(∀b∈fp,k b=none)/\W i n k) ?_ m0
   ⟨0,none,_,I4 _,h0,λb d=>(f3 b d).1,w0⟩
  (intro n s6 q_; obtain ⟨i,o,L,I6,k5,q0,w6⟩ := q_)
  rcases h6 i n L w6 with ⟨k9,qn⟩ | ⟨go,step⟩
  ·have hd:=T.done X' eP eW eK eC i [] s6 _ L (λ_ _=>False) I6 (t q0) k5 k9
   rw[eA] at hd
   refine Gb hd λr s7 f => ?_
   obtain ⟨hr,Z⟩ := f
   subst hr
   obtain ⟨m7,k7,_⟩:=Z.loc
   have k8:s7.heap.Ns s3.heap.objs.size m7:=by rw[<- g] at k7; exact k7
   refine ⟨m7,k8,λh8 D=>?_⟩
   have h5:L s3.heap.objs.size=none:=by have:=Z.free; rw[<- g] at this; exact this
   have Y:Un (gA X.stack) fp (upd G j.heap.objs.size (.lst [])) L s3.heap s7.heap:=by have:=Z.base; rw[<- g] at this; exact this
   have R:∀b o,s3.heap.get? b=some o->b≠s3.heap.objs.size:=λb o q=>Bu (Au q)
   have u8:Un (gA X.stack) fp (upd G j.heap.objs.size (.lst [])) L s3.heap h8:=by
    refine ⟨λb o q n d hx=>(D.2 b (R b o q)).trans (Y.keep b o q n d hx),λb o q n d hx=>?_,Y.free,λb o q hx=>?_,Y.tups,Y.frzs,Y.tbls⟩
    ·obtain ⟨sl,z⟩:=Y.slot b o q n d hx
     exact ⟨sl,(D.2 b (R b o q)).trans z⟩
    ·obtain ⟨o',z⟩:=Y.there b o q hx
     exact ⟨o',(D.2 b (R b o q)).trans z⟩
   have h9:Vh X.prog X.w L h8:=λb ob e=>by
    have k2:=Z.hok
    rw[eP,eW] at k2
    refine (k2 b ob e).stay (λc w' hcc q=>(D.2 c ?_).trans q) (λ_ q=>q) λ_ _ q=>q
    rintro rfl
    rcases hcc with rfl | hcc
    ·rw[h5] at e; cases e
    ·rw[h5] at hcc; cases hcc
   have q9:s7.os=s3.os:=by have:=Z.os; rw[<- g] at this; exact this
   exact ⟨.ref j.heap.objs.size,L,I3.call' (s':={ s7 with heap:=h8 }) (ch:=fp) q9 u8 h9 Z.bare (λb d=>⟨(f3 b d).2.2.2.1,(f3 b d).2.1,(f3 b d).2.2.2.2.1,(f3 b d).2.2.2.2.2⟩),rfl,qn⟩
  ·have k0:=T.item X' eP eW eK eC i [] s6 _ L (λ_ _=>False) I6 (t q0) k5 go
   rw[eA] at k0
   refine Gb k0 λr s7 f => ?_
   obtain ⟨u,hr,h7⟩ := f
   subst hr
   refine Gb h7 λ_ s8 f => ?_
   obtain ⟨y,H8,I8,r8,y8,P,j7⟩ := f
   have j8:=I8.pinned (t j7) (T.obj _ _ P)
   obtain ⟨N1,N2,q6,j5,q5⟩:=step y H8 y8
   have again:∀{H9:Hp} {s9:Ai} {m':Nat},Inv X' ([]++Oz fp s8.heap) (some y::Ei M U) H9 s9->m'<n->W (i+1) m' H9->∃m,m<n/\∃i o k,Inv X' [] (o::Ei M U) k s9/\tn i s9.heap/\(∀b∈fp,k b=none)/\W i m k:=λ{H9 s9 m'} I9 hm w9=>by
    refine ⟨m',hm,i+1,some y,H9,I9.unpinned,T.keep _ _ _ P λb d o e=>(I9.pin (b,o) (Ag _ (Ag _ (Fz d e)))).1,λb d=>?_,w9⟩
    obtain ⟨o,e,_⟩:=T.obj _ _ P b d
    exact (I9.pin (b,o) (Ag _ (Ag _ (Fz d e)))).2.1
   subst g
   refine Gb (Mc (i:=0) (x:=x) (pos:=px) C.nd rfl (On C.own) (Ru C.own) _ s8 _ H8 y u (λj4 k=>j4=some y::Ei M U/\k=H8) j8 r8 ⟨rfl,rfl⟩) λ_ s9 f => ?_
   obtain ⟨x4,H9,I9,e9,x1⟩ := f
   subst e9 x1
   refine Gb (ht fp s3 _ _ s9 _ _ _ I9 q5) λok x2 f => ?_
   obtain ⟨x3,h3,F⟩ := f
   cases ok with
   | false =>
    rw[if_neg Bp] at F ⊢
    obtain ⟨m',hm,x0⟩:=q6 _ F
    exact again h3 hm x0
   | true =>
    rw[if_pos rfl] at F ⊢
    refine Gb (he fp s3 _ _ x2 _ _ _ h3 F) λz q8 f => ?_
    obtain ⟨vz,k3,j9,q4,j6⟩ := f
    obtain ⟨q3,ha,hz,m',hm,j3⟩:=j5 _ _ j6
    refine Gb (Ot _ q8 _ k3 (.ref j.heap.objs.size) [vz] (.ref j.heap.objs.size) [z] (λ_ k=>k=upd k3 j.heap.objs.size (.lst (q3++[vz]))) j9 rfl (.cons q4 .nil) ⟨_,q3,vz,rfl,rfl,ha,hz,rfl⟩) λ_ x7 f => ?_
    obtain ⟨_,x5,j1,_,j2⟩ := f
    subst j2
    exact again j1 hm j3
 exact Oa (N _ rfl) (T.self X.A 0 _ _ _ h0 (N _ rfl))
end
theorem Fe{H:Hp}{p:Addr}(h:H p=none)(o:HO):Sx H (upd H p o):=λb u q=>by rw[Dr (Fn q h)]; exact q
theorem Gs{a:Type}{xs:List a}{i:Nat}{x:a}(h:xs[i]? = some x):xs.take (i+1)=xs.take i++[x]:=by
 rw[List.take_succ,h]; rfl
mutual
inductive RdV (K:PySem.W.Frag) (H:Hp):V->Ae->Prop
 | non:RdV K H .non .none
 | bl (b:Bool):RdV K H (.bl b) (.bool b)
 | int (i:Int):RdV K H (.int i) (.int i)
 | str (x:Str):RdV K H (.str x) (.str x)
 | lst {a:Addr} {xs:List V} {ds:List Ae}:Pq K H a xs->RdVs K H xs ds->RdV K H (.ref a) (.list ds)
 | tup {a:Addr} {xs:List V} {ds:List Ae}:Ta K H a xs->RdVs K H xs ds->RdV K H (.ref a) (.tuple ds)
inductive RdVs (K:PySem.W.Frag) (H:Hp):List V->List Ae->Prop
 | nil:RdVs K H [] []
 | cons {x:V} {d:Ae} {xs:List V} {ds:List Ae}:RdV K H x d->RdVs K H xs ds->RdVs K H (x::xs) (d::ds)
end
mutual
def FE(b:Nat):Ae->Prop
 | .none=>True
 | .bool _=>True
 | .int i=>i.natAbs<10 ^ b
 | .str x=>(reprText x).length<=b
 | .list a=>jA b a
 | .tuple a=>jA b a
 | .dict _=>False
def jA(b:Nat):List Ae->Prop
 | []=>True
 | x::xs=>FE b x/\jA b xs
end
mutual
def T6:Ae->Nat
 | .list a=>cP a+1
 | .tuple a=>cP a+1
 | _=>1
def cP:List Ae->Nat
 | []=>0
 | x::xs=>T6 x+cP xs
end
theorem pK(ns:List Int):Bs (ns.map Ax)=0:=by
 induction ns with
 | nil=>rfl
 | cons n ns a=>simp only[Ao,Bs,Dy,a,Nat.max_self]
theorem Zl{m:Nat}:∀{xs:List Ae},(∀x∈xs,x.depth<=m)->Bs xs<=m
 | [],_=>by simp [Bs]
 | x::xs,h=>by
  have b:=h x (Ab ..)
  have c:=Zl (xs:=xs) λy a=>h y (Ad _ a)
  simp only[Bs]
  omega
section
variable{X:Cx}{a:List (Addr×Obj)}{c:L2.St}{H:Hp}{s:Ai}{A:Ce}
theorem Yv(A:Ce):A.in1.units<=A.units+1:=by
 first | exact Aj _ | (simp [Around.in1]; done) | (unfold Around.in1; simp)
theorem kJ:Mf X (.builtin "isinstance") (λxs H Q=>∃x n t b,xs=[x,.ty n]/\TyOf X.K H x t/\PySem.W.kitOne X.K t (.type n)=some b/\Q (.bl b) H):=by
 intro a s c H xs i Q I r h
 obtain ⟨x,n,t,b,rfl,ty,e,q⟩:=h
 obtain ⟨u,v,rfl,f,d⟩:=vals2 r
 cases d
 exact xH I f ty e λg=>⟨.bl b,H,I.tok _,rfl,q⟩
end
section
variable{prog:Bl}{w:World}{A:Ce}{E:Value->Ai->Prop}{s:Ai}
theorem Vc{t sl:Addr}{a:Array Value}{i l:Value}{lo j:Option Int}{Q:Value->Ai->Prop}(b:IsTup s.heap t a)(k:s.heap.IsSliceOf sl i l .none)(o:Zt i lo)(p:Zt l j)(hw:HT.sIx a.size 0 lo=0/\HT.sIx a.size a.size j=a.size)(h:Q (.ref t) s):wpAny (model prog w) A (Ud (.ref t) (.ref sl)) Q E s:=by
 obtain ⟨os,f,g,n⟩:=id k
 have d:s.TypeIs (.ref sl) "slice" := ⟨os,f,g⟩
 unfold Ud
 try with_reducible refine Ck ?_
 first | refine Aa (Ac ?_) | skip
 refine Aa (gE b.typeIs (by decide) ?_)
 refine Aa (Cu (name:=Dq "__getitem__") b.typeIs Es
  (Cn Es b.typeIs entry_tuple_getitem ?_ (args_tuple_getitem _ _)))
 show wpAny _ _ (Xx (.ref t) >>= _) _ _ s
 refine Aa (tupleItemsOf_ b ?_)
 refine Aa (Hv d ?_)
 rw[if_pos (by decide)]
 refine Aa (HT.sliceApplied_gen k o p ?_)
 rw[hw.1,hw.2]
 have c:(((0:Nat):Int) == 0 && (1:Int) == 1 && (a.size - 0) == a.size)=true:=by simp
 show wpAny _ _ (if (((0:Nat):Int) == 0 && (1:Int) == 1 && (a.size - 0) == a.size)=true then _ else _) _ _ s
 rw[if_pos c]
 have e:∀{R:Bool->Ai->Prop},R true s->wpAny (model prog w) A.in1 (Xy (.ref t)) R E s:=λ{R} m=>by
  unfold Xy
  refine Aa (Hv b.typeIs (Ac ?_))
  rw[beq_self_eq_true]
  exact m
 refine Aa (e ?_)
 rw[if_pos rfl]
 exact Aa (Kk (Ac ⟨_,rfl,Ac h⟩))
end
mutual
def Ef:Ae->Ae->Bool
 | .none,.none=>true
 | .bool a,.bool b=>a == b
 | .bool a,.int b=>(if a then 1 else 0) == b
 | .int a,.bool b=>a == (if b then 1 else 0)
 | .int a,.int b=>a == b
 | .str a,.str b=>a == b
 | .list xs,.list ys=>Pd xs ys
 | .tuple xs,.tuple ys=>Pd xs ys
 | _,_=>false
def Pd:List Ae->List Ae->Bool
 | [],[]=>true
 | x::xs,y::ys=>Ef x y && Pd xs ys
 | _,_=>false
end
theorem Pf:∀ds es:List Ae,(((Cd (min ds.length es.length)).all λj=>Ef (ds.getD j .none) (es.getD j .none)) && ds.length == es.length)=Pd ds es
 | [],[]=>by simp [Pd]
 | [],_::_=>by simp [Pd]
 | _::_,[]=>by simp [Pd]
 | d::ds,e::es=>by
  have c:=Pf ds es
  rw[Pd,<- c]
  have a:min (d::ds).length (e::es).length=min ds.length es.length+1:=by simp only[Bm]; omega
  rw[a,List.range_succ_eq_map,List.all_cons,List.all_map]
  have b:((d::ds).length == (e::es).length)=(ds.length == es.length):=by
   rw[Bool.eq_iff_iff]; simp
  rw[b,Bool.and_assoc]
  rfl
section
variable{X:Cx}{a:List (Addr×Obj)}{c:L2.St}{H:Hp}{s:Ai}{K:PySem.W.Frag}
mutual
theorem RdV.eqD_self:∀{v:V} {d:Ae},RdV K H v d->Ef d d=true
 | _,_,.non=>by simp [Ef]
 | _,_,.bl b=>by simp [Ef]
 | _,_,.int i=>by simp [Ef]
 | _,_,.str x=>by simp [Ef]
 | _,_,.lst _ h=>by rw[Ef]; exact RdVs.eqDs_self h
 | _,_,.tup _ h=>by rw[Ef]; exact RdVs.eqDs_self h
theorem RdVs.eqDs_self:∀{vs:List V} {ds:List Ae},RdVs K H vs ds->Pd ds ds=true
 | _,_,.nil=>by simp [Pd]
 | _,_,.cons h t=>by rw[Pd,RdV.eqD_self h,RdVs.eqDs_self t]; rfl
end
theorem kH(I:Inv X pins σ H s){a:Addr}{xs ys:List V}(c:Pq X.K H a xs)(b:Ta X.K H a ys):False:=by
 obtain ⟨f,_,e,_⟩:=I.list c
 obtain ⟨vs,_,d,_⟩:=I.tuple b
 exact SeqAt.ne_of_list_tuple e.isList d rfl
mutual
theorem RdV.det(I:Inv X pins σ H s):∀{v:V} {d e:Ae},RdV X.K H v d->RdV X.K H v e->d=e
 | _,_,_,.non,h=>by cases h; rfl
 | _,_,_,.bl b,h=>by cases h; rfl
 | _,_,_,.int i,h=>by cases h; rfl
 | _,_,_,.str x,h=>by cases h; rfl
 | _,_,_,.lst q r,h=>by
  cases h with
  | lst a c =>
   have e:=I.list_inj q a
   subst e
   rw[RdVs.det I r c]
  | tup a c=>exact (kH I q a).elim
 | _,_,_,.tup q r,h=>by
  cases h with
  | lst a c=>exact (kH I a q).elim
  | tup a c =>
   have e:=I.tuple_inj q a
   subst e
   rw[RdVs.det I r c]
theorem RdVs.det(I:Inv X pins σ H s):∀{vs:List V} {ds es:List Ae},RdVs X.K H vs ds->RdVs X.K H vs es->ds=es
 | _,_,_,.nil,h=>by cases h; rfl
 | _,_,_,.cons r t,h=>by
  cases h with
  | cons b a=>rw[RdV.det I r b,RdVs.det I t a]
end
theorem RdVs.length:∀{vs:List V} {ds:List Ae},RdVs K H vs ds->vs.length=ds.length
 | _,_,.nil=>rfl
 | _,_,.cons _ t=>by rw[Bm,Bm,RdVs.length t]
theorem Yt{A:Ce}{n:Nat}(h:A.units+(n+1)<cLine):A.in1.units+n<cLine:=by
 have:=Yv A
 omega
theorem lH{A:Ce}{a b:Addr}{us vs:List Value}{ds es:List Ae}(l:PlainL s.heap a us.toArray)(k:PlainL s.heap b vs.toArray)(l1:us.length=ds.length)(l2:vs.length=es.length)(i:A.units<cLine)(n:∀j (g:j<us.length) (f:j<vs.length),Nj A.in1 s us[j] vs[j] (Ef (ds.getD j .none) (es.getD j .none))):SeqAt.RcAt A s (.ref a) (.ref b) (Pd ds es):=by
 rw[<- Pf]
 by_cases c:ds.length=es.length
 ·have d:us.toArray.size=vs.toArray.size:=by rw[Ar,Ar,l1,l2,c]
  have h:=SeqAt.RcAt.lists (A:=A) (e:=λj=>Ef (ds.getD j .none) (es.getD j .none)) l.isList k.isList d i (λj g f=>by simpa using n j (by simpa using g) (by simpa using f))
  rw[Ar,l1] at h
  rw[c,Nat.min_self,beq_self_eq_true,Bool.and_true,<- c]
  exact h
 ·have d:(us.toArray.size != vs.toArray.size)=true:=by rw[Ar,Ar,l1,l2]; simpa using c
  have h:=SeqAt.RcAt.lists_lengths (A:=A) l.isList k.isList d i
  have m:(ds.length == es.length)=false:=by simpa using c
  rw[m,Wg]
  exact h
theorem gD{A:Ce}{a b:Addr}{us vs:List Value}{ds es:List Ae}(k:IsTup s.heap a us.toArray)(i:IsTup s.heap b vs.toArray)(l1:us.length=ds.length)(l2:vs.length=es.length)(g:A.units<cLine)(f:∀j (d:j<us.length) (c:j<vs.length),Nj A.in1 s us[j] vs[j] (Ef (ds.getD j .none) (es.getD j .none))):SeqAt.RcAt A s (.ref a) (.ref b) (Pd ds es):=by
 rw[<- Pf]
 have h:=SeqAt.RcAt.tuples (A:=A) (e:=λj=>Ef (ds.getD j .none) (es.getD j .none)) (show s.heap.IsTuple a us.toArray from k) (show s.heap.IsTuple b vs.toArray from i) g (λj d c=>by simpa using f j (by simpa using d) (by simpa using c))
 rw[Ar,Ar,l1,l2] at h
 exact h
mutual
theorem yD(I:Inv X pins σ H s):∀{A:Ce} {x y:V} {d e:Ae} {u v:Value},RdV X.K H x d->RdV X.K H y e->RelV x u->RelV y v->A.units+d.depth<cLine->Nj A s u v (Ef d e)
 | A,_,_,_,_,_,_,.non,h,ru,rv,hu=>by
  cases ru
  have c:A.units<cLine:=by omega
  cases h with
  | non=>cases rv; rw[Ef]; exact SeqAt.EqAt.same _
  | bl b=>cases rv; rw[Ef]; exact SeqAt.EqAt.none_bool b; all_goals simp
  | int b=>obtain ⟨t,rfl⟩:=rv; rw[Ef]; exact SeqAt.EqAt.none_int b t; all_goals simp
  | str b=>obtain ⟨t,rfl⟩:=rv; rw[Ef]; exact SeqAt.EqAt.none_str b t; all_goals simp
  | lst q r=>cases rv; obtain ⟨l,_,p,_⟩:=I.list q; rw[Ef]; exact SeqAt.EqAt.none_list p.isList c; all_goals simp
  | tup q r=>cases rv; obtain ⟨l,_,p,_⟩:=I.tuple q; rw[Ef]; exact SeqAt.EqAt.none_tuple p c; all_goals simp
 | A,_,_,_,_,_,_,.bl a,h,ru,rv,hu=>by
  cases ru
  have c:A.units<cLine:=by omega
  cases h with
  | non=>cases rv; rw[Ef]; exact SeqAt.EqAt.bool_none a; all_goals simp
  | bl b=>cases rv; rw[Ef]; exact SeqAt.EqAt.bool_bool a b
  | int b=>obtain ⟨t,rfl⟩:=rv; rw[Ef]; exact SeqAt.EqAt.bool_int a b t
  | str b=>obtain ⟨t,rfl⟩:=rv; rw[Ef]; exact SeqAt.EqAt.bool_str a b t; all_goals simp
  | lst q r=>cases rv; obtain ⟨l,_,p,_⟩:=I.list q; rw[Ef]; exact SeqAt.EqAt.bool_list a p.isList c; all_goals simp
  | tup q r=>cases rv; obtain ⟨l,_,p,_⟩:=I.tuple q; rw[Ef]; exact SeqAt.EqAt.bool_tuple a p c; all_goals simp
 | A,_,_,_,_,_,_,.int a,h,ru,rv,hu=>by
  obtain ⟨g,rfl⟩:=ru
  have c:A.units<cLine:=by omega
  cases h with
  | non=>cases rv; rw[Ef]; exact SeqAt.EqAt.int_none a g; all_goals simp
  | bl b=>cases rv; rw[Ef]; exact SeqAt.EqAt.int_bool a g b
  | int b=>obtain ⟨t,rfl⟩:=rv; rw[Ef]; exact SeqAt.EqAt.int_int a g b t
  | str b=>obtain ⟨t,rfl⟩:=rv; rw[Ef]; exact SeqAt.EqAt.int_str a g b t; all_goals simp
  | lst q r=>cases rv; obtain ⟨l,_,p,_⟩:=I.list q; rw[Ef]; exact SeqAt.EqAt.int_list a g p.isList c; all_goals simp
  | tup q r=>cases rv; obtain ⟨l,_,p,_⟩:=I.tuple q; rw[Ef]; exact SeqAt.EqAt.int_tuple a g p c; all_goals simp
 | A,_,_,_,_,_,_,.str a,h,ru,rv,hu=>by
  obtain ⟨g,rfl⟩:=ru
  have c:A.units<cLine:=by omega
  cases h with
  | non=>cases rv; rw[Ef]; exact SeqAt.EqAt.str_none a g; all_goals simp
  | bl b=>cases rv; rw[Ef]; exact SeqAt.EqAt.str_bool a g b; all_goals simp
  | int b=>obtain ⟨t,rfl⟩:=rv; rw[Ef]; exact SeqAt.EqAt.str_int a g b t; all_goals simp
  | str b=>obtain ⟨t,rfl⟩:=rv; rw[Ef]; exact SeqAt.EqAt.str_str a g b t
  | lst q r=>cases rv; obtain ⟨l,_,p,_⟩:=I.list q; rw[Ef]; exact SeqAt.EqAt.str_list a g p.isList c; all_goals simp
  | tup q r=>cases rv; obtain ⟨l,_,p,_⟩:=I.tuple q; rw[Ef]; exact SeqAt.EqAt.str_tuple a g p c; all_goals simp
 | A,_,_,_,_,_,_,@RdV.lst _ _ a xs ds q r,h,ru,rv,hu=>by
  cases ru
  have c:A.units<cLine:=by omega
  obtain ⟨l,o,p,_⟩:=I.list q
  cases h with
  | non=>cases rv; rw[Ef]; exact SeqAt.EqAt.list_none p.isList c; all_goals simp
  | bl b=>cases rv; rw[Ef]; exact SeqAt.EqAt.list_bool b p.isList c; all_goals simp
  | int b=>obtain ⟨t,rfl⟩:=rv; rw[Ef]; exact SeqAt.EqAt.list_int b t p.isList c; all_goals simp
  | str b=>obtain ⟨t,rfl⟩:=rv; rw[Ef]; exact SeqAt.EqAt.list_str b t p.isList c; all_goals simp
  | @lst b B C k f =>
   cases rv
   obtain ⟨vs,n,m,_⟩:=I.list k
   rw[Ef]
   by_cases i:a=b
   ·subst i
    have e:=I.list_inj q k
    subst e
    rw[<- RdVs.det I r f,RdVs.eqDs_self r]
    exact SeqAt.EqAt.same _
   ·refine SeqAt.EqAt.of_refs i (lH p m (o.length.symm.trans r.length) (n.length.symm.trans f.length) c λj z w=>?_)
    exact Sf I r f o n (Yt (by simpa only [Dy] using hu)) j z w
  | tup k f=>cases rv; obtain ⟨vs,_,m,_⟩:=I.tuple k; rw[Ef]; exact SeqAt.EqAt.list_tuple p.isList m c; all_goals simp
 | A,_,_,_,_,_,_,@RdV.tup _ _ a xs ds q r,h,ru,rv,hu=>by
  cases ru
  have c:A.units<cLine:=by omega
  obtain ⟨l,o,p,_⟩:=I.tuple q
  cases h with
  | non=>cases rv; rw[Ef]; exact SeqAt.EqAt.tuple_none p c; all_goals simp
  | bl b=>cases rv; rw[Ef]; exact SeqAt.EqAt.tuple_bool b p c; all_goals simp
  | int b=>obtain ⟨t,rfl⟩:=rv; rw[Ef]; exact SeqAt.EqAt.tuple_int b t p c; all_goals simp
  | str b=>obtain ⟨t,rfl⟩:=rv; rw[Ef]; exact SeqAt.EqAt.tuple_str b t p c; all_goals simp
  | lst k f=>cases rv; obtain ⟨vs,_,m,_⟩:=I.list k; rw[Ef]; exact SeqAt.EqAt.tuple_list p m.isList c; all_goals simp
  | @tup b B C k f =>
   cases rv
   obtain ⟨vs,n,m,_⟩:=I.tuple k
   rw[Ef]
   by_cases i:a=b
   ·subst i
    have e:=I.tuple_inj q k
    subst e
    rw[<- RdVs.det I r f,RdVs.eqDs_self r]
    exact SeqAt.EqAt.same _
   ·refine SeqAt.EqAt.of_refs i (gD p m (o.length.symm.trans r.length) (n.length.symm.trans f.length) c λj z w=>?_)
    exact Sf I r f o n (Yt (by simpa only [Dy] using hu)) j z w
theorem Sf(I:Inv X pins σ H s):∀{A:Ce} {xs ys:List V} {ds es:List Ae} {us vs:List Value},RdVs X.K H xs ds->RdVs X.K H ys es->Gf xs us->Gf ys vs->A.units+Bs ds<cLine->∀j (b:j<us.length) (a:j<vs.length),Nj A s us[j] vs[j] (Ef (ds.getD j .none) (es.getD j .none))
 | _,_,_,_,_,_,_,.nil,_,r1,_,_=>λj b a=>by cases r1; exact absurd b (Ka _)
 | A,_,_,_,_,_,_,@RdVs.cons _ _ x d xs ds r t,h,r1,r2,hu=>λj b a=>by
  cases h with
  | nil=>cases r2; exact absurd a (Ka _)
  | cons g l =>
   cases r1 with
   | cons k f =>
    cases r2 with
    | cons e i =>
     have c:A.units+d.depth<cLine/\A.units+Bs ds<cLine:=by
      simp only[Bs] at hu
      omega
     cases j with
     | zero=>simpa using yD I r g k e c.1
     | succ j=>simpa using Sf I t l f i c.2 j (by simpa using b) (by simpa using a)
end
end
section
variable{X:Cx}{c:List (Addr×Obj)}{d:L2.St}{H:Hp}{s:Ai}{K:PySem.W.Frag}
theorem wF{A:Ce}{a b:Addr}{us vs:List Value}{ds es:List Ae}(l:PlainL s.heap a us.toArray)(k:PlainL s.heap b vs.toArray)(l1:us.length=ds.length)(l2:vs.length=es.length)(i:A.units<cLine)(n:∀j (g:j<us.length) (f:j<vs.length),Nj A.in1 s us[j] vs[j] (Ef (ds.getD j .none) (es.getD j .none))):SeqAt.RcNeAt A s (.ref a) (.ref b) (!Pd ds es):=by
 rw[<- Pf]
 by_cases c:ds.length=es.length
 ·have d:us.toArray.size=vs.toArray.size:=by rw[Ar,Ar,l1,l2,c]
  have h:=SeqAt.RcNeAt.lists (A:=A) (e:=λj=>Ef (ds.getD j .none) (es.getD j .none)) l.isList k.isList d i (λj g f=>by simpa using n j (by simpa using g) (by simpa using f))
  rw[Ar,l1] at h
  rw[c,Nat.min_self,beq_self_eq_true,Bool.and_true,<- c]
  exact h
 ·have d:(us.toArray.size != vs.toArray.size)=true:=by rw[Ar,Ar,l1,l2]; simpa using c
  have h:=SeqAt.RcNeAt.lists_lengths (A:=A) l.isList k.isList d i
  have m:(ds.length == es.length)=false:=by simpa using c
  rw[m,Wg]
  exact h
theorem qV{A:Ce}{a b:Addr}{us vs:List Value}{ds es:List Ae}(k:IsTup s.heap a us.toArray)(i:IsTup s.heap b vs.toArray)(l1:us.length=ds.length)(l2:vs.length=es.length)(g:A.units<cLine)(f:∀j (d:j<us.length) (c:j<vs.length),Nj A.in1 s us[j] vs[j] (Ef (ds.getD j .none) (es.getD j .none))):SeqAt.RcNeAt A s (.ref a) (.ref b) (!Pd ds es):=by
 rw[<- Pf]
 have h:=SeqAt.RcNeAt.tuples (A:=A) (e:=λj=>Ef (ds.getD j .none) (es.getD j .none)) (show s.heap.IsTuple a us.toArray from k) (show s.heap.IsTuple b vs.toArray from i) g (λj d c=>by simpa using f j (by simpa using d) (by simpa using c))
 rw[Ar,Ar,l1,l2] at h
 exact h
end
section
variable{X:Cx}
def EV(K:PySem.W.Frag):R2:=λx y H Q=>∃d e,RdV K H x d/\RdV K H y e/\d.depth<=60/\Q (.bl (Ef d e)) H
def EH(K:PySem.W.Frag):R2:=λx y H Q=>∃d e,RdV K H x d/\RdV K H y e/\d.depth<=60/\Q (.bl (!Ef d e)) H
theorem q8(N:X.A.units+64<cLine):Xu X (Iz .Eq) (EV X.K):=by
 intro E s M H x y v u Q I z f h
 obtain ⟨d,e,C,w,F,q⟩:=h
 have c:X.A.units<cLine:=by omega
 cases C with
 | non =>
  cases z
  cases w with
  | non=>cases f; rw[Ef] at q; exact SeqAt.RcAt.none_none _ _ _ _ ⟨.bl _,H,I,rfl,q⟩
  | bl b=>cases f; rw[Ef] at q; exact SeqAt.RcAt.none_bool b _ _ _ _ ⟨.bl _,H,I,rfl,q⟩; all_goals simp
  | int b=>obtain ⟨t,rfl⟩:=f; rw[Ef] at q; exact SeqAt.RcAt.none_int b t _ _ _ _ ⟨.bl _,H,I,rfl,q⟩; all_goals simp
  | str b=>obtain ⟨t,rfl⟩:=f; rw[Ef] at q; exact SeqAt.RcAt.none_str b t _ _ _ _ ⟨.bl _,H,I,rfl,q⟩; all_goals simp
  | @lst b n o i g=>cases f; obtain ⟨vs,l,k,_⟩:=I.list i; rw[Ef] at q; exact SeqAt.RcAt.none_list k.isList c _ _ _ _ ⟨.bl _,H,I,rfl,q⟩; all_goals simp
  | @tup b n o i g=>cases f; obtain ⟨vs,l,k,_⟩:=I.tuple i; rw[Ef] at q; exact SeqAt.RcAt.none_tuple k c _ _ _ _ ⟨.bl _,H,I,rfl,q⟩; all_goals simp
 | bl a =>
  cases z
  cases w with
  | non=>cases f; rw[Ef] at q; exact SeqAt.RcAt.bool_none a _ _ _ _ ⟨.bl _,H,I,rfl,q⟩; all_goals simp
  | bl b=>cases f; rw[Ef] at q; exact SeqAt.RcAt.bool_bool a b _ _ _ _ ⟨.bl _,H,I,rfl,q⟩
  | int b=>obtain ⟨t,rfl⟩:=f; rw[Ef] at q; exact SeqAt.RcAt.bool_int a b t _ _ _ _ ⟨.bl _,H,I,rfl,q⟩
  | str b=>obtain ⟨t,rfl⟩:=f; rw[Ef] at q; exact SeqAt.RcAt.bool_str a b t _ _ _ _ ⟨.bl _,H,I,rfl,q⟩; all_goals simp
  | @lst b n o i g=>cases f; obtain ⟨vs,l,k,_⟩:=I.list i; rw[Ef] at q; exact SeqAt.RcAt.bool_list a k.isList c _ _ _ _ ⟨.bl _,H,I,rfl,q⟩; all_goals simp
  | @tup b n o i g=>cases f; obtain ⟨vs,l,k,_⟩:=I.tuple i; rw[Ef] at q; exact SeqAt.RcAt.bool_tuple a k c _ _ _ _ ⟨.bl _,H,I,rfl,q⟩; all_goals simp
 | int a =>
  obtain ⟨m,rfl⟩:=z
  cases w with
  | non=>cases f; rw[Ef] at q; exact SeqAt.RcAt.int_none a m _ _ _ _ ⟨.bl _,H,I,rfl,q⟩; all_goals simp
  | bl b=>cases f; rw[Ef] at q; exact SeqAt.RcAt.int_bool a m b _ _ _ _ ⟨.bl _,H,I,rfl,q⟩
  | int b=>obtain ⟨t,rfl⟩:=f; rw[Ef] at q; exact SeqAt.RcAt.int_int a m b t _ _ _ _ ⟨.bl _,H,I,rfl,q⟩
  | str b=>obtain ⟨t,rfl⟩:=f; rw[Ef] at q; exact SeqAt.RcAt.int_str a m b t _ _ _ _ ⟨.bl _,H,I,rfl,q⟩; all_goals simp
  | @lst b n o i g=>cases f; obtain ⟨vs,l,k,_⟩:=I.list i; rw[Ef] at q; exact SeqAt.RcAt.int_list a m k.isList c _ _ _ _ ⟨.bl _,H,I,rfl,q⟩; all_goals simp
  | @tup b n o i g=>cases f; obtain ⟨vs,l,k,_⟩:=I.tuple i; rw[Ef] at q; exact SeqAt.RcAt.int_tuple a m k c _ _ _ _ ⟨.bl _,H,I,rfl,q⟩; all_goals simp
 | str a =>
  obtain ⟨m,rfl⟩:=z
  cases w with
  | non=>cases f; rw[Ef] at q; exact SeqAt.RcAt.str_none a m _ _ _ _ ⟨.bl _,H,I,rfl,q⟩; all_goals simp
  | bl b=>cases f; rw[Ef] at q; exact SeqAt.RcAt.str_bool a m b _ _ _ _ ⟨.bl _,H,I,rfl,q⟩; all_goals simp
  | int b=>obtain ⟨t,rfl⟩:=f; rw[Ef] at q; exact SeqAt.RcAt.str_int a m b t _ _ _ _ ⟨.bl _,H,I,rfl,q⟩; all_goals simp
  | str b=>obtain ⟨t,rfl⟩:=f; rw[Ef] at q; exact SeqAt.RcAt.str_str a m b t _ _ _ _ ⟨.bl _,H,I,rfl,q⟩
  | @lst b n o i g=>cases f; obtain ⟨vs,l,k,_⟩:=I.list i; rw[Ef] at q; exact SeqAt.RcAt.str_list a m k.isList c _ _ _ _ ⟨.bl _,H,I,rfl,q⟩; all_goals simp
  | @tup b n o i g=>cases f; obtain ⟨vs,l,k,_⟩:=I.tuple i; rw[Ef] at q; exact SeqAt.RcAt.str_tuple a m k c _ _ _ _ ⟨.bl _,H,I,rfl,q⟩; all_goals simp
 | @lst a L J D r =>
  cases z
  obtain ⟨G,B,p,_⟩:=I.list D
  cases w with
  | non=>cases f; rw[Ef] at q; exact SeqAt.RcAt.list_none p.isList c _ _ _ _ ⟨.bl _,H,I,rfl,q⟩; all_goals simp
  | bl b=>cases f; rw[Ef] at q; exact SeqAt.RcAt.list_bool b p.isList c _ _ _ _ ⟨.bl _,H,I,rfl,q⟩; all_goals simp
  | int b=>obtain ⟨t,rfl⟩:=f; rw[Ef] at q; exact SeqAt.RcAt.list_int b t p.isList c _ _ _ _ ⟨.bl _,H,I,rfl,q⟩; all_goals simp
  | str b=>obtain ⟨t,rfl⟩:=f; rw[Ef] at q; exact SeqAt.RcAt.list_str b t p.isList c _ _ _ _ ⟨.bl _,H,I,rfl,q⟩; all_goals simp
  | @lst b n o i g=>cases f; obtain ⟨vs,l,k,_⟩:=I.list i; rw[Ef] at q; exact lH p k (B.length.symm.trans r.length) (l.length.symm.trans g.length) c (λj C w=>Sf I r g B l (Yt (by simp only[Dy] at F; omega)) j C w) _ _ _ _ ⟨.bl _,H,I,rfl,q⟩
  | @tup b n o i g=>cases f; obtain ⟨vs,l,k,_⟩:=I.tuple i; rw[Ef] at q; exact SeqAt.RcAt.list_tuple p.isList k c _ _ _ _ ⟨.bl _,H,I,rfl,q⟩; all_goals simp
 | @tup a L J D r =>
  cases z
  obtain ⟨G,B,p,_⟩:=I.tuple D
  cases w with
  | non=>cases f; rw[Ef] at q; exact SeqAt.RcAt.tuple_none p c _ _ _ _ ⟨.bl _,H,I,rfl,q⟩; all_goals simp
  | bl b=>cases f; rw[Ef] at q; exact SeqAt.RcAt.tuple_bool b p c _ _ _ _ ⟨.bl _,H,I,rfl,q⟩; all_goals simp
  | int b=>obtain ⟨t,rfl⟩:=f; rw[Ef] at q; exact SeqAt.RcAt.tuple_int b t p c _ _ _ _ ⟨.bl _,H,I,rfl,q⟩; all_goals simp
  | str b=>obtain ⟨t,rfl⟩:=f; rw[Ef] at q; exact SeqAt.RcAt.tuple_str b t p c _ _ _ _ ⟨.bl _,H,I,rfl,q⟩; all_goals simp
  | @lst b n o i g=>cases f; obtain ⟨vs,l,k,_⟩:=I.list i; rw[Ef] at q; exact SeqAt.RcAt.tuple_list p k.isList c _ _ _ _ ⟨.bl _,H,I,rfl,q⟩; all_goals simp
  | @tup b n o i g=>cases f; obtain ⟨vs,l,k,_⟩:=I.tuple i; rw[Ef] at q; exact gD p k (B.length.symm.trans r.length) (l.length.symm.trans g.length) c (λj C w=>Sf I r g B l (Yt (by simp only[Dy] at F; omega)) j C w) _ _ _ _ ⟨.bl _,H,I,rfl,q⟩
theorem CG(N:X.A.units+64<cLine):Xu X (Iz .NotEq) (EH X.K):=by
 intro E s M H x y v u Q I z f h
 obtain ⟨d,e,C,w,F,q⟩:=h
 have c:X.A.units<cLine:=by omega
 cases C with
 | non =>
  cases z
  cases w with
  | non=>cases f; rw[Ef] at q; exact SeqAt.RcNeAt.none_none _ _ _ _ ⟨.bl _,H,I,rfl,q⟩
  | bl b=>cases f; rw[Ef] at q; exact SeqAt.RcNeAt.none_bool b _ _ _ _ ⟨.bl _,H,I,rfl,q⟩; all_goals simp
  | int b=>obtain ⟨t,rfl⟩:=f; rw[Ef] at q; exact SeqAt.RcNeAt.none_int b t _ _ _ _ ⟨.bl _,H,I,rfl,q⟩; all_goals simp
  | str b=>obtain ⟨t,rfl⟩:=f; rw[Ef] at q; exact SeqAt.RcNeAt.none_str b t _ _ _ _ ⟨.bl _,H,I,rfl,q⟩; all_goals simp
  | @lst b n o i g=>cases f; obtain ⟨vs,l,k,_⟩:=I.list i; rw[Ef] at q; exact SeqAt.RcNeAt.none_list k.isList c _ _ _ _ ⟨.bl _,H,I,rfl,q⟩; all_goals simp
  | @tup b n o i g=>cases f; obtain ⟨vs,l,k,_⟩:=I.tuple i; rw[Ef] at q; exact SeqAt.RcNeAt.none_tuple k c _ _ _ _ ⟨.bl _,H,I,rfl,q⟩; all_goals simp
 | bl a =>
  cases z
  cases w with
  | non=>cases f; rw[Ef] at q; exact SeqAt.RcNeAt.bool_none a _ _ _ _ ⟨.bl _,H,I,rfl,q⟩; all_goals simp
  | bl b=>cases f; rw[Ef] at q; exact SeqAt.RcNeAt.bool_bool a b _ _ _ _ ⟨.bl _,H,I,rfl,q⟩
  | int b=>obtain ⟨t,rfl⟩:=f; rw[Ef] at q; exact SeqAt.RcNeAt.bool_int a b t _ _ _ _ ⟨.bl _,H,I,rfl,q⟩
  | str b=>obtain ⟨t,rfl⟩:=f; rw[Ef] at q; exact SeqAt.RcNeAt.bool_str a b t _ _ _ _ ⟨.bl _,H,I,rfl,q⟩; all_goals simp
  | @lst b n o i g=>cases f; obtain ⟨vs,l,k,_⟩:=I.list i; rw[Ef] at q; exact SeqAt.RcNeAt.bool_list a k.isList c _ _ _ _ ⟨.bl _,H,I,rfl,q⟩; all_goals simp
  | @tup b n o i g=>cases f; obtain ⟨vs,l,k,_⟩:=I.tuple i; rw[Ef] at q; exact SeqAt.RcNeAt.bool_tuple a k c _ _ _ _ ⟨.bl _,H,I,rfl,q⟩; all_goals simp
 | int a =>
  obtain ⟨m,rfl⟩:=z
  cases w with
  | non=>cases f; rw[Ef] at q; exact SeqAt.RcNeAt.int_none a m _ _ _ _ ⟨.bl _,H,I,rfl,q⟩; all_goals simp
  | bl b=>cases f; rw[Ef] at q; exact SeqAt.RcNeAt.int_bool a m b _ _ _ _ ⟨.bl _,H,I,rfl,q⟩
  | int b=>obtain ⟨t,rfl⟩:=f; rw[Ef] at q; exact SeqAt.RcNeAt.int_int a m b t _ _ _ _ ⟨.bl _,H,I,rfl,q⟩
  | str b=>obtain ⟨t,rfl⟩:=f; rw[Ef] at q; exact SeqAt.RcNeAt.int_str a m b t _ _ _ _ ⟨.bl _,H,I,rfl,q⟩; all_goals simp
  | @lst b n o i g=>cases f; obtain ⟨vs,l,k,_⟩:=I.list i; rw[Ef] at q; exact SeqAt.RcNeAt.int_list a m k.isList c _ _ _ _ ⟨.bl _,H,I,rfl,q⟩; all_goals simp
  | @tup b n o i g=>cases f; obtain ⟨vs,l,k,_⟩:=I.tuple i; rw[Ef] at q; exact SeqAt.RcNeAt.int_tuple a m k c _ _ _ _ ⟨.bl _,H,I,rfl,q⟩; all_goals simp
 | str a =>
  obtain ⟨m,rfl⟩:=z
  cases w with
  | non=>cases f; rw[Ef] at q; exact SeqAt.RcNeAt.str_none a m _ _ _ _ ⟨.bl _,H,I,rfl,q⟩; all_goals simp
  | bl b=>cases f; rw[Ef] at q; exact SeqAt.RcNeAt.str_bool a m b _ _ _ _ ⟨.bl _,H,I,rfl,q⟩; all_goals simp
  | int b=>obtain ⟨t,rfl⟩:=f; rw[Ef] at q; exact SeqAt.RcNeAt.str_int a m b t _ _ _ _ ⟨.bl _,H,I,rfl,q⟩; all_goals simp
  | str b=>obtain ⟨t,rfl⟩:=f; rw[Ef] at q; exact SeqAt.RcNeAt.str_str a m b t _ _ _ _ ⟨.bl _,H,I,rfl,q⟩
  | @lst b n o i g=>cases f; obtain ⟨vs,l,k,_⟩:=I.list i; rw[Ef] at q; exact SeqAt.RcNeAt.str_list a m k.isList c _ _ _ _ ⟨.bl _,H,I,rfl,q⟩; all_goals simp
  | @tup b n o i g=>cases f; obtain ⟨vs,l,k,_⟩:=I.tuple i; rw[Ef] at q; exact SeqAt.RcNeAt.str_tuple a m k c _ _ _ _ ⟨.bl _,H,I,rfl,q⟩; all_goals simp
 | @lst a L J D r =>
  cases z
  obtain ⟨G,B,p,_⟩:=I.list D
  cases w with
  | non=>cases f; rw[Ef] at q; exact SeqAt.RcNeAt.list_none p.isList c _ _ _ _ ⟨.bl _,H,I,rfl,q⟩; all_goals simp
  | bl b=>cases f; rw[Ef] at q; exact SeqAt.RcNeAt.list_bool b p.isList c _ _ _ _ ⟨.bl _,H,I,rfl,q⟩; all_goals simp
  | int b=>obtain ⟨t,rfl⟩:=f; rw[Ef] at q; exact SeqAt.RcNeAt.list_int b t p.isList c _ _ _ _ ⟨.bl _,H,I,rfl,q⟩; all_goals simp
  | str b=>obtain ⟨t,rfl⟩:=f; rw[Ef] at q; exact SeqAt.RcNeAt.list_str b t p.isList c _ _ _ _ ⟨.bl _,H,I,rfl,q⟩; all_goals simp
  | @lst b n o i g=>cases f; obtain ⟨vs,l,k,_⟩:=I.list i; rw[Ef] at q; exact wF p k (B.length.symm.trans r.length) (l.length.symm.trans g.length) c (λj C w=>Sf I r g B l (Yt (by simp only[Dy] at F; omega)) j C w) _ _ _ _ ⟨.bl _,H,I,rfl,q⟩
  | @tup b n o i g=>cases f; obtain ⟨vs,l,k,_⟩:=I.tuple i; rw[Ef] at q; exact SeqAt.RcNeAt.list_tuple p.isList k c _ _ _ _ ⟨.bl _,H,I,rfl,q⟩; all_goals simp
 | @tup a L J D r =>
  cases z
  obtain ⟨G,B,p,_⟩:=I.tuple D
  cases w with
  | non=>cases f; rw[Ef] at q; exact SeqAt.RcNeAt.tuple_none p c _ _ _ _ ⟨.bl _,H,I,rfl,q⟩; all_goals simp
  | bl b=>cases f; rw[Ef] at q; exact SeqAt.RcNeAt.tuple_bool b p c _ _ _ _ ⟨.bl _,H,I,rfl,q⟩; all_goals simp
  | int b=>obtain ⟨t,rfl⟩:=f; rw[Ef] at q; exact SeqAt.RcNeAt.tuple_int b t p c _ _ _ _ ⟨.bl _,H,I,rfl,q⟩; all_goals simp
  | str b=>obtain ⟨t,rfl⟩:=f; rw[Ef] at q; exact SeqAt.RcNeAt.tuple_str b t p c _ _ _ _ ⟨.bl _,H,I,rfl,q⟩; all_goals simp
  | @lst b n o i g=>cases f; obtain ⟨vs,l,k,_⟩:=I.list i; rw[Ef] at q; exact SeqAt.RcNeAt.tuple_list p k.isList c _ _ _ _ ⟨.bl _,H,I,rfl,q⟩; all_goals simp
  | @tup b n o i g=>cases f; obtain ⟨vs,l,k,_⟩:=I.tuple i; rw[Ef] at q; exact qV p k (B.length.symm.trans r.length) (l.length.symm.trans g.length) c (λj C w=>Sf I r g B l (Yt (by simp only[Dy] at F; omega)) j C w) _ _ _ _ ⟨.bl _,H,I,rfl,q⟩
theorem B7{z a:V}{v:Value}(h:RelV z v)(h':RelV a v):z=a:=by
 cases z <;> cases a <;> simp only[L2.RelV] at h h' <;> first | rfl | (subst h; cases h'; rfl) | (subst h; cases h'; done) | (obtain ⟨t,rfl⟩:=h; obtain ⟨b,e⟩:=h'; cases e; rfl) | (obtain ⟨t,rfl⟩:=h; obtain ⟨b,e⟩:=h'; cases e; done) | (obtain ⟨t,rfl⟩:=h; cases h'; done) | (subst h; obtain ⟨b,e⟩:=h'; cases e)
open Classical in
noncomputable def Nu(K:PySem.W.Frag)(H:Hp)(d:Ae)(v:Value):Bool:=if h:∃e z,RdV K H z e/\RelV z v then Ef h.choose d else false
theorem mV{a:List (Addr×Obj)}{c:L2.St}{H:Hp}{s:Ai}(I:Inv X a c H s){d e:Ae}{z:V}{v:Value}(h:RdV X.K H z e)(r:RelV z v):Nu X.K H d v=Ef e d:=by
 unfold Nu
 have b:∃e z,RdV X.K H z e/\RelV z v:=⟨e,z,h,r⟩
 rw[dif_pos b]
 obtain ⟨j,f,g⟩:=b.choose_spec
 have i:=B7 g r
 subst i
 rw[RdV.det I f h]
theorem Re{a:List (Addr×Obj)}{b:L2.St}{H:Hp}{s:Ai}(I:Inv X a b H s){d:Ae}:∀{xs:List V} {ds:List Ae} {us:List Value},RdVs X.K H xs ds->Gf xs us->us.any (Nu X.K H d)=ds.any λe=>Ef e d
 | _,_,_,.nil,r=>by cases r; rfl
 | _,_,_,.cons h t,r=>by
  cases r with
  | cons f c=>rw[Of,Of,mV I h f,Re I t c]
theorem Rb{a:List (Addr×Obj)}{j:L2.St}{H:Hp}{s:Ai}(I:Inv X a j H s){A:Ce}{x:V}{d:Ae}{u:Value}(g:RdV X.K H x d)(b:RelV x u):∀{xs:List V} {ds:List Ae} {us:List Value},RdVs X.K H xs ds->Gf xs us->A.units+Bs ds<cLine->∀v∈us,Nj A s v u (Nu X.K H d v)
 | _,_,_,.nil,r,_=>λv hv=>by cases r; cases hv
 | _,_,_,@RdVs.cons _ _ y e ys es h t,r,hu=>λv hv=>by
  have c:A.units+e.depth<cLine/\A.units+Bs es<cLine:=by
   simp only[Bs] at hu
   omega
  cases r with
  | cons f i =>
   rcases An.mp hv with rfl | hv
   ·rw[mV I h f]; exact yD I h g f b c.1
   ·exact Rb I g b t i c.2 v hv
def W9(K:PySem.W.Frag)(neg:Bool):R2:=λx y H Q=>∃p b d a,y=.ref p/\(Pq K H p b\/Ta K H p b)/\RdV K H x d/\RdVs K H b a/\Bs a<=60/\Q (.bl (if neg then !(a.any λe=>Ef e d) else a.any λe=>Ef e d)) H
theorem Y9(o:X.A.units+64<cLine):Xu X (Iz .In) (W9 X.K false):=by
 intro i s n H x y v u Q I g k h
 obtain ⟨p,z,d,l,rfl,hq,j,c,t,q⟩:=h
 cases k
 have b:X.A.in1.units+Bs l<cLine:=by have:=Yv X.A; omega
 rcases hq with hq | hq
 ·obtain ⟨a,r,f,m⟩:=I.list hq
  refine SeqAt.in_listAt (Nu X.K H d) f.isList (λw e=>Rb I j g c r b w (by simpa using e)) ⟨.bl _,H,I,rfl,?_⟩
  rw[show a.toArray.any (Nu X.K H d)=a.any (Nu X.K H d) by simp,Re I c r]
  exact q
 ·obtain ⟨a,r,f,m⟩:=I.tuple hq
  refine SeqAt.in_tupleAt (Nu X.K H d) f (λw e=>Rb I j g c r b w (by simpa using e)) ⟨.bl _,H,I,rfl,?_⟩
  rw[show a.toArray.any (Nu X.K H d)=a.any (Nu X.K H d) by simp,Re I c r]
  exact q
theorem vF(o:X.A.units+64<cLine):Xu X (Iz .NotIn) (W9 X.K true):=by
 intro i s n H x y v u Q I g k h
 obtain ⟨p,z,d,l,rfl,hq,j,c,t,q⟩:=h
 cases k
 have b:X.A.in1.units+Bs l<cLine:=by have:=Yv X.A; omega
 rcases hq with hq | hq
 ·obtain ⟨a,r,f,m⟩:=I.list hq
  refine SeqAt.notIn_listAt (Nu X.K H d) f.isList (λw e=>Rb I j g c r b w (by simpa using e)) ⟨.bl _,H,I,rfl,?_⟩
  rw[show a.toArray.any (Nu X.K H d)=a.any (Nu X.K H d) by simp,Re I c r]
  exact q
 ·obtain ⟨a,r,f,m⟩:=I.tuple hq
  refine SeqAt.notIn_tupleAt (Nu X.K H d) f (λw e=>Rb I j g c r b w (by simpa using e)) ⟨.bl _,H,I,rfl,?_⟩
  rw[show a.toArray.any (Nu X.K H d)=a.any (Nu X.K H d) by simp,Re I c r]
  exact q
end
def IL(K:PySem.W.Frag)(a:Addr):It :=
 ⟨λi H=>∃b x,Pq K H a b/\b[i]? = some x,λi H x c=>∃p y,x=.ref p/\H p=none/\c=upd H p (.tup [.int i,y])/\∀b,Pq K H a b->b[i]? = some y,λi H=>∃b,Pq K H a b/\b.length<=i⟩
section
variable{X:Cx}{a:List (Addr×Obj)}{d:L2.St}{H:Hp}{s:Ai}{h':Heap}
theorem Rr{t':Nat}{fp:List Addr}(I:Inv X a d H s)(k:∀b o,b∉fp->s.heap.get? b=some o->h'.get? b=some o)(h:∀b∈fp,Ml X a H b):Inv X a d H { s with heap:=h',toks:=t' }:=by
 have g:∀b u,H b=some u->b∉fp:=λb u e z=>by rw[(h b z).1] at e; cases e
 refine I.step (g':=s.gens) (d':=s.drawn) (ch:=fp) (λb p=>?_) (λb o _ _ f e _=>k b o f e) (λb o _ _ f e _=>⟨o.slots,k b o f e⟩) (λ_ _ _ _ n=>n)
  (λb o f e=>⟨o,k b o f e⟩) (λ_ _ e=>e) (λ_ _ _ e=>e) (λb B e=>⟨#[],by rw[e]; simp⟩) (λm l=>?_) (λb u e=>?_) I.bare
 ·obtain ⟨_,i,_,y,j,t⟩:=h b p
  exact ⟨y,i,j,t⟩
 ·obtain ⟨o,A,x,w,r⟩:=l
  exact ⟨o,A,x,k _ o (λz=>(h _ z).2.1 rfl) w,r⟩
 ·refine (I.hok b u e).stay (λc v f q=>k c v ?_ q) (λ_ q=>q) λ_ _ q=>q
  rcases f with z | z
  ·rw[z]; exact g b u e
  ·exact g c _ z
end
theorem uS{P:Bl}{w:World}{K:PySem.W.Frag}{A:List Expr}{k:Nat}{pos:Pos}(a e it:Addr)(V:e≠it):Turn P w K (.Tuple A k pos) (IL K a) [e,it] e (λi h=>(∃g,IsEnum h e it ((i:Nat):Int) g)/\h.IsListIter it a i) where
 mem:=Ab
 obj:=λi h st b f=>by
  obtain ⟨⟨g,j⟩,o,e1,c,d⟩:=st
  rcases An.mp f with z | z
  ·subst z
   exact ⟨_,j,λv z=>by cases z⟩
  ·rw[Al.mp z]
   exact ⟨o,e1,λv z=>by rw[d] at z; cases z⟩
 keep:=λi h h' st kp=>⟨let ⟨g,j⟩:=st.1; ⟨g,kp e Ab _ j⟩,st.2.at λo q=>kp it (Ad _ Ab) o q⟩
 item:=by
  intro X M L F T i m s U H E I C st R
  subst M L F
  obtain ⟨xs,x,B,J⟩:=R
  obtain ⟨N,O,p,hz⟩:=I.list B
  obtain ⟨u,hu,ru⟩:=O.get J
  obtain ⟨⟨g,j⟩,l⟩:=st
  have el:e<s.heap.objs.size:=Au j
  have il:it<s.heap.objs.size:=by obtain ⟨_,q,_⟩:=l; exact Au q
  refine wpAny_pyNext_enum_item j l p.isList (x:=u) (by simpa using hu) V λY ho t hT h0 hk=>⟨_,rfl,wpAny_letOwnedTupleGo_enum ho λS Q D=>?_⟩
  have n:Ct e Y S:=D
  -- the pair laid,then the iterators turned
  have I1:Inv X m U (upd H s.heap.objs.size (.tup [.int i,x])) { s with heap:=s.heap.push { cls:=.type "tuple",data:=.seq #[.int i s.toks,u] } } :=
   I.laid (t':=s.toks) (λb o q=>Ah _ q) (Aj _) ⟨by show 2<=Aq; decide,[.int i s.toks,u],.cons ⟨_,rfl⟩ (.cons ru .nil),_,Ap _ rfl,rfl,0,rfl⟩
  have nT:∀b∈[e,it],b≠s.heap.objs.size:=λb f=>by
   rcases An.mp f with z | z
   ·rw[z]; exact Bu el
   ·rw[Al.mp z]; exact Bu il
  have Z:∀b∈[e,it],(upd H s.heap.objs.size (.tup [.int i,x])) b=none:=λb f=>by rw[Dr (nT b f)]; exact (C b f).1
  refine ⟨.ref s.heap.objs.size,_,Rr (fp:=[e,it]) (s:={ s with heap:=s.heap.push { cls:=.type "tuple",data:=.seq #[.int i s.toks,u] } }) (h':=S) (t':=s.toks+1) I1 (λb o f q=>?_) (λb f=>⟨Z b f,(C b f).2⟩),rfl,⟨_,x,rfl,I.hok.fresh (Aj _),rfl,λys hy=>by rw[I.list_inj hy B]; exact J⟩,⟨⟨u,?_⟩,?_⟩,Z⟩
  ·have y:b≠e:=λz=>f (by rw[z]; exact Ab)
   have G:b≠it:=λz=>f (by rw[z]; exact Ad _ Ab)
   refine (n.2 b y).trans ?_
   by_cases r:b=s.heap.objs.size
   ·subst r
    have q':=(Ap s.heap (o:={ cls:=.type "tuple",data:=.seq #[.int i s.toks,u] }) rfl).symm.trans q
    rw[hT]
    exact q'
   ·refine hk b o y G ?_
    have q0:(s.heap.push { cls:=.type "tuple",data:=.seq #[.int i s.toks,u] }).get? b=some o:=q
    rcases Heap.get?_push_cases q0 with z | z
    ·exact absurd z.1 r
    ·exact z
  ·have : ((i+1:Nat):Int)=(i:Int)+1:=by omega
   rw[this]
   exact Q
  ·exact t.at λo q=>(n.2 it (Ln V)).trans q
 done:=by
  intro X M L F T i m s U H E I C st R
  subst M L F
  obtain ⟨xs,B,J⟩:=R
  obtain ⟨N,O,p,hz⟩:=I.list B
  obtain ⟨⟨g,j⟩,l⟩:=st
  have hl:=O.length
  exact wpAny_pyNext_enum_end (I.ok.hd T) j l p.isList (by simp; omega) λY eb=>⟨rfl,Rr (fp:=[e,it]) (t':=s.toks) I (λb o f q=>eb b o (λz=>f (by rw[z]; exact Ad _ Ab)) q) C⟩
 self:=λ_ _ _ _ _ st h=>let ⟨_,j⟩:=st.1; wpAny_pyIter_enum j h
section
variable{X:Cx}
def EC(K:PySem.W.Frag)(e:TA):TI:=λc H R=>e c H λvs b=>∃a,vs=[.ref a]/\(∃d,Pq K b a d)/\R (IL K a) b
theorem F7{g:List Expr}{k:Nat}{B:Pos}{a:Expr}{j:TA}{p pos:Pos}(J:Gl X "enumerate")(r:X.mg "enumerate" = none)(L:PA X [a] j)(w:Bn [a] X.env=[(false,eval a X.env)]:=by rfl):PI X (.Tuple g k B) (.Call (.Name "enumerate" p) [a] [] pos) (EC X.K j):=by
 intro c s t H R I h
 refine Call_ (Ry I J r (u:=.type "enumerate") (by decide +kernel) (Fi (Gb (L pos c s t H _ I h) λN f ⟨vs,n,d,D,y⟩=>?_) w rfl))
 obtain ⟨l,e,⟨P,o⟩,q⟩:=y
 subst e
 obtain ⟨u,rfl,x⟩:=vals1 D
 cases x
 obtain ⟨E,O,F,Q⟩:=d.list o
 refine call_enumerate_list F.isList λM m i A v=>wpAny_pyIter_enum m ?_
 have G:∀b∈[f.heap.objs.size+1,f.heap.objs.size],Ml X c n b:=λb C=>by
  rcases An.mp C with z | z
  ·rw[z]; exact d.fpOk (Ox _) (d.hok.fresh (Ox _))
  ·rw[Al.mp z]; exact d.fpOk (Aj _) (d.hok.fresh (Aj _))
 exact ⟨f.heap.objs.size+1,[f.heap.objs.size+1,f.heap.objs.size],_,_,n,rfl,d.kept (t':=f.toks) v,uS l _ _ (Nat.succ_ne_self _),⟨⟨_,m⟩,i⟩,G,q⟩
end
section
variable{X:Cx}
def AA(K:PySem.W.Frag)(J:It)(o:List Nat)(p:TT)(q:TE)(j:L2.St)(l:Hp)(Q:VK):Prop:=∀D,l D=none->∃W:Nat->Nat->Hp->Prop,(∃m,W 0 m (upd l D (.lst [])))/\∀i m H,W i m H ->
 (J.stop i H/\Q (.ref D) H)\/(J.go i H/\∀x f,J.yld i H x f->∃(t:Addr) (h g:V),x=.ref t/\Ta K f t [h,g]/\∃(n:Hp->Prop) (k:VK),(∀b,n b->∃d,d<m/\W (i+1) d b) /\
  (∀y e,k y e->∃a,e D=some (.lst a)/\a.length<Aq/\∃d,d<m/\W (i+1) d (upd e D (.lst (a++[y])))) /\
  p (some h::some g::Ei j o) f λc b=>if c=true then q (some h::some g::Ei j o) b k else n b)
def yW(K:PySem.W.Frag)(d:TI)(e:List Nat)(b:TT)(f:TE):TE:=λa H Q=>d a H λJ c=>AA K J e b f a c Q
theorem zD{Y iter:Expr}{x t:Str}{px M pt pos:Pos}{kt:Nat}{h0:List Expr}{a:Scope}{F:List (Str×Addr)}{ys:List Str}{Z:List Nat}{wi:TI}{tc:TT}{te:TE}(C:CompScope X a F x ys Z)(O:cZ a t)(k0:(x::t::ys).Nodup)(hc:X.calm=true)(hi:PI X (.Tuple [.Name x px,.Name t M] kt pt) iter wi)(ht:∀fp s H,rF (Dm X a F (x::t::ys) fp s H) h0 tc)(he:∀fp s H,PE (Dm X a F (x::t::ys) fp s H) Y te)(hs:∀x,Cz iter X.env x=pure x:=by intro _; rfl):PE X (.ListComp Y [⟨.Tuple [.Name x px,.Name t M] kt pt,iter,h0,0⟩] a pos) (yW X.K wi Z tc te):=by
 intro l s R H Q I h
 rw[eval_ListComp]
 refine Jh (use:=none) rfl hs C.clos C.kind C.locs (Gb (hi l s R H _ I h) λv s1 h1=>Gb h1 λy0 j h2=>?_)
 obtain ⟨it,fp,tn,J,E,e,I2,T,k8,f2,q2⟩:=h2
 subst e
 have fD:E j.heap.objs.size=none:=I2.hok.fresh (Aj _)
 obtain ⟨W,⟨m0,w0⟩,h9⟩:=q2 j.heap.objs.size fD
 refine Ca ?_
 have I3:Inv X l R (upd E j.heap.objs.size (.lst [])) { j with heap:=j.heap.push { cls:=.type "list",dict:=none,data:=.seq ([]:List Value).toArray } } :=
  I2.laid (t':=j.toks) (λb u q=>Ah _ q) (Aj _) ⟨Di _,[],0,.nil,Ap _ rfl⟩
 have q9:∀b∈fp,b≠j.heap.objs.size:=λb d z=>by
  obtain ⟨o,q,_⟩:=T.obj _ _ k8 b d
  have:=Au q
  rw[z] at this
  exact absurd this (Fo _)
 have f3:∀b∈fp,Ml X l (upd E j.heap.objs.size (.lst [])) b:=λb d=>⟨by rw[Dr (q9 b d)]; exact (f2 b d).1,(f2 b d).2⟩
 generalize j2:({ j with heap:=j.heap.push { cls:=.type "list",dict:=none,data:=.seq ([]:List Value).toArray } }:Ai)=s3 at I3
 have q4:tn 0 s3.heap:=T.keep 0 _ _ k8 λb d o q=>by rw[<- j2]; exact Ah _ q
 have o3:∀b∈fp,∃o,s3.heap.get? b=some o:=λb d=>let ⟨o,q,_⟩:=T.obj _ _ q4 b d; ⟨o,q⟩
 show wpAny _ _ (Ly a X.env.globals F [] X.env.qual none .none (some X.env)) _ _ _
 refine Ri C λh4 k3 D k6=>?_
 have I4:∀tk,Inv (Dm X a F (x::t::ys) fp s3 (upd E j.heap.objs.size (.lst []))) [] (none::none::Ei R Z) (upd E j.heap.objs.size (.lst [])) { s3 with heap:=h4,toks:=tk }:=λtk=>Pk (pre:=[x,t]) C I3 f3 o3 k3 D k6
 have h3:tn 0 h4:=T.keep 0 _ _ q4 λb d o q=>D b o q
 generalize g:Dm X a F (x::t::ys) fp s3 (upd E j.heap.objs.size (.lst []))=X' at I4
 have eP:X'.prog=X.prog:=by rw[<- g]; rfl
 have eW:X'.w=X.w:=by rw[<- g]; rfl
 have eK:X'.K=X.K:=by rw[<- g]; rfl
 have eA:X'.A=X.A:=by rw[<- g]; rfl
 have eC:X'.calm=true:=by rw[<- g]; exact hc
 have B:∀{k:Hp},(∀b∈fp,k b=none)->∀b∈fp,Ml X' [] k b:=λ{k} hn b d=>by
  have ok:=(I4 0).ok
  have L:b∈X'.ex:=by rw[<- g]; exact d
  exact ⟨hn b d,(ok.exf b L).1,ok.exfs b L,.inl L,(ok.exf b L).2,λp hp=>by rw[<- g] at hp; cases (show p∈([]:List (Addr×Obj)) from hp)⟩
 have S:∀s5:Ai,s5={ s3 with heap:=h4,toks:=s3.toks+([]:List (Str×Value)).length } ->
   Hb (model X.prog X.w) X.A (.compLoop (.ListComp Y [⟨.Tuple [.Name x px,.Name t M] kt pt,iter,h0,0⟩] a pos) 0 (.ref it) (.ref j.heap.objs.size) (Vk a (Ek (s3.heap.objs.size+1) a.names F) s3.heap.objs.size X.env))
    (compPost (model X.prog X.w) X.A X.xe none (EP X l R Q) (.ref j.heap.objs.size) s3.heap.objs.size) s5:=by
  rintro s5 rfl
  refine Vy (λn s'=>∃i o o2 k,Inv X' [] (o::o2::Ei R Z) k s'/\tn i s'.heap/\(∀b∈fp,k b=none)/\W i n k) ?_ m0
   ⟨0,none,none,_,I4 _,h3,λb d=>(f3 b d).1,w0⟩
  (intro n s6 q_; obtain ⟨i,o,o2,P,I6,k7,q3,w6⟩ := q_)
  rcases h9 i n P w6 with ⟨q1,qn⟩ | ⟨go,step⟩
  ·have hd:=T.done X' eP eW eK eC i [] s6 _ P (λ_ _=>False) I6 (B q3) k7 q1
   rw[eA] at hd
   refine Gb hd λr s7 f => ?_
   obtain ⟨hr,I7⟩ := f
   subst hr
   obtain ⟨m7,k9,_⟩:=I7.loc
   have q0:s7.heap.Ns s3.heap.objs.size m7:=by rw[<- g] at k9; exact k9
   refine ⟨m7,q0,λh8 G=>?_⟩
   have h6:P s3.heap.objs.size=none:=by have:=I7.free; rw[<- g] at this; exact this
   have b7:Un (gA X.stack) fp (upd E j.heap.objs.size (.lst [])) P s3.heap s7.heap:=by have:=I7.base; rw[<- g] at this; exact this
   have V:∀b o,s3.heap.get? b=some o->b≠s3.heap.objs.size:=λb o q=>Bu (Au q)
   have u8:Un (gA X.stack) fp (upd E j.heap.objs.size (.lst [])) P s3.heap h8:=by
    refine ⟨λb o q n d hx=>(G.2 b (V b o q)).trans (b7.keep b o q n d hx),λb o q n d hx=>?_,b7.free,λb o q hx=>?_,b7.tups,b7.frzs,b7.tbls⟩
    ·obtain ⟨sl,z⟩:=b7.slot b o q n d hx
     exact ⟨sl,(G.2 b (V b o q)).trans z⟩
    ·obtain ⟨o',z⟩:=b7.there b o q hx
     exact ⟨o',(G.2 b (V b o q)).trans z⟩
   have k1:Vh X.prog X.w P h8:=λb ob e=>by
    have k4:=I7.hok
    rw[eP,eW] at k4
    refine (k4 b ob e).stay (λc w' hcc q=>(G.2 c ?_).trans q) (λ_ q=>q) λ_ _ q=>q
    rintro rfl
    rcases hcc with rfl | hcc
    ·rw[h6] at e; cases e
    ·rw[h6] at hcc; cases hcc
   have j1:s7.os=s3.os:=by have:=I7.os; rw[<- g] at this; exact this
   exact ⟨.ref j.heap.objs.size,P,I3.call' (s':={ s7 with heap:=h8 }) (ch:=fp) j1 u8 k1 I7.bare (λb d=>⟨(f3 b d).2.2.2.1,(f3 b d).2.1,(f3 b d).2.2.2.2.1,(f3 b d).2.2.2.2.2⟩),rfl,qn⟩
  ·have k2:=T.item X' eP eW eK eC i [] s6 _ P (λ_ _=>False) I6 (B q3) k7 go
   rw[eA] at k2
   refine Gb k2 λr s7 f => ?_
   obtain ⟨u,hr,h7⟩ := f
   subst hr
   refine Gb h7 λ_ s8 f => ?_
   obtain ⟨y,H8,I8,r8,y8,U,j9⟩ := f
   have x0:=I8.pinned (B j9) (T.obj _ _ U)
   obtain ⟨tp,w1,w2,ey,x3,N1,N2,q8,j7,q7⟩:=step y H8 y8
   have again:∀{H9:Hp} {s9:Ai} {m':Nat},Inv X' ([]++Oz fp s8.heap) (some w1::some w2::Ei R Z) H9 s9->m'<n->W (i+1) m' H9->∃m,m<n/\∃i o o2 k,Inv X' [] (o::o2::Ei R Z) k s9/\tn i s9.heap/\(∀b∈fp,k b=none)/\W i m k:=λ{H9 s9 m'} I9 hm w9=>by
    refine ⟨m',hm,i+1,some w1,some w2,H9,I9.unpinned,T.keep _ _ _ U λb d o e=>(I9.pin (b,o) (Ag _ (Ag _ (Fz d e)))).1,λb d=>?_,w9⟩
    obtain ⟨o,e,_⟩:=T.obj _ _ U b d
    exact (I9.pin (b,o) (Ag _ (Ag _ (Fz d e)))).2.1
   subst g
   have g1:PG (Dm X a F (x::t::ys) fp s3 (upd E j.heap.objs.size (.lst []))) (.Tuple [.Name x px,.Name t M] kt pt) (Q3 X.K 2 (bA (Sq 0) (bA (Sq 1) O0))) :=
    iE (X:=Dm X a F (x::t::ys) fp s3 (upd E j.heap.objs.size (.lst []))) hc (Pj (Mc (i:=0) (x:=x) k0 rfl (On C.own) (Ru C.own)) (Pj (Mc (i:=1) (x:=t) k0 rfl (On O) (Ru O)) aM))
   refine Gb (g1 _ s8 _ H8 y u (λj6 k=>j6=some w1::some w2::Ei R Z/\k=H8) x0 r8 ⟨tp,[w1,w2],ey,x3,rfl,_,_,rfl,_,_,rfl,rfl,rfl,rfl⟩) λ_ s9 f => ?_
   obtain ⟨x8,H9,I9,e9,x5⟩ := f
   subst e9 x5
   refine Gb (ht fp s3 _ _ s9 _ _ _ I9 q7) λok x6 f => ?_
   obtain ⟨x7,h5,N⟩ := f
   cases ok with
   | false =>
    rw[if_neg Bp] at N ⊢
    obtain ⟨m',hm,x4⟩:=q8 _ N
    exact again h5 hm x4
   | true =>
    rw[if_pos rfl] at N ⊢
    refine Gb (he fp s3 _ _ x6 _ _ _ h5 N) λz j0 f => ?_
    obtain ⟨vz,k5,x1,q6,j8⟩ := f
    obtain ⟨q5,ha,hz,m',hm,j5⟩:=j7 _ _ j8
    refine Gb (Ot _ j0 _ k5 (.ref j.heap.objs.size) [vz] (.ref j.heap.objs.size) [z] (λ_ k=>k=upd k5 j.heap.objs.size (.lst (q5++[vz]))) x1 rfl (.cons q6 .nil) ⟨_,q5,vz,rfl,rfl,ha,hz,rfl⟩) λ_ y1 f => ?_
    obtain ⟨_,x9,j3,_,j4⟩ := f
    subst j4
    exact again j3 hm j5
 exact Oa (S _ rfl) (T.self X.A 0 _ _ _ h3 (S _ rfl))
end
section
variable{X:Cx}
theorem Q7{t iter:Expr}{x S:Str}{px py pos V:Pos}{i0:Nat}{B:List Expr}{a:Scope}{cl:List (Str×Addr)}{ys:List Str}{R:List Nat}{wi:TI}{tc:TT}{te:TE}(hN:X.N.Nodup)(x7:X.N[i0]? = some S)(k1:X.env.scope.names.lookup S=some .local)(C:CompScope X a cl x ys R)(hc:X.calm=true)(hi:PI X (.Name x px) iter wi)(ht:∀fp s H,rF (Dm X a cl (x::ys) fp s H) B tc)(he:∀fp s H,PE (Dm X a cl (x::ys) fp s H) t te)(hs:∀x,Cz iter X.env x=pure x:=by intro _; rfl)(x4:Nh (.ListComp t [⟨.Name x px,iter,B,0⟩] a pos) (some (.Name S py)) V.line X.env=pure true:=by rfl):PS X (.Assign [.Name S py] (.ListComp t [⟨.Name x px,iter,B,0⟩] a pos) V) (G3 (lM wi R tc te) (Sq i0)):=by
 intro c s l H De I h
 have h:lM wi R tc te l H λv H1=>De.nx (l.set i0 (some v)) H1:=h
 rw[exec_Assign_Name_used _ _ _ _ x4]
 refine Aa (Ib (Aa ?_))
 show wpAny _ X.A (do let _ <- comprehension (.ListComp t [⟨.Name x px,iter,B,0⟩] a pos) a X.env _ (newList []) false (eval iter X.env) (some (Oc (.Name S py) X.env))) _ _ s
 refine Aa (Cq (Jh (use:=some (Oc (.Name S py) X.env)) (Q:=λ_ s'=>SP X c De .next s') rfl hs C.clos C.kind C.locs (Gb (hi c s l H _ I h) λv s1 h1=>Gb h1 λy4 j h2=>?_)) (λ_ s' hq=>Ac (Ac hq)) λ_ _ e=>e)
 obtain ⟨it,fp,tn,J,H2,e,I2,T,q1,f2,q2⟩:=h2
 subst e
 have fD:H2 j.heap.objs.size=none:=I2.hok.fresh (Aj _)
 obtain ⟨W,⟨m0,w0⟩,k0⟩:=q2 j.heap.objs.size fD
 refine Ca ?_
 have I3:Inv X c l (upd H2 j.heap.objs.size (.lst [])) { j with heap:=j.heap.push { cls:=.type "list",dict:=none,data:=.seq ([]:List Value).toArray } } :=
  I2.laid (t':=j.toks) (λb u q=>Ah _ q) (Aj _) ⟨Di _,[],0,.nil,Ap _ rfl⟩
 have j2:∀b∈fp,b≠j.heap.objs.size:=λb f z=>by
  obtain ⟨o,q,_⟩:=T.obj _ _ q1 b f
  have:=Au q
  rw[z] at this
  exact absurd this (Fo _)
 have f3:∀b∈fp,Ml X c (upd H2 j.heap.objs.size (.lst [])) b:=λb f=>⟨by rw[Dr (j2 b f)]; exact (f2 b f).1,(f2 b f).2⟩
 generalize j5:({ j with heap:=j.heap.push { cls:=.type "list",dict:=none,data:=.seq ([]:List Value).toArray } }:Ai)=s3 at I3
 have q6:tn 0 s3.heap:=T.keep 0 _ _ q1 λb f o q=>by rw[<- j5]; exact Ah _ q
 have o3:∀b∈fp,∃o,s3.heap.get? b=some o:=λb f=>let ⟨o,q,_⟩:=T.obj _ _ q6 b f; ⟨o,q⟩
 show wpAny _ _ (Ly a X.env.globals cl [] X.env.qual none .none (some X.env)) _ _ _
 refine Ri C λh4 k3 F k8=>?_
 have I4:∀tk,Inv (Dm X a cl (x::ys) fp s3 (upd H2 j.heap.objs.size (.lst []))) [] (none::Ei l R) (upd H2 j.heap.objs.size (.lst [])) { s3 with heap:=h4,toks:=tk }:=λtk=>Pk (pre:=[x]) C I3 f3 o3 k3 F k8
 have h6:tn 0 h4:=T.keep 0 _ _ q6 λb f o q=>F b o q
 generalize g:Dm X a cl (x::ys) fp s3 (upd H2 j.heap.objs.size (.lst []))=X' at I4
 have eP:X'.prog=X.prog:=by rw[<- g]; rfl
 have eW:X'.w=X.w:=by rw[<- g]; rfl
 have eK:X'.K=X.K:=by rw[<- g]; rfl
 have eA:X'.A=X.A:=by rw[<- g]; rfl
 have eC:X'.calm=true:=by rw[<- g]; exact hc
 have E:∀{k:Hp},(∀b∈fp,k b=none)->∀b∈fp,Ml X' [] k b:=λ{k} hn b f=>by
  have ok:=(I4 0).ok
  have M:b∈X'.ex:=by rw[<- g]; exact f
  exact ⟨hn b f,(ok.exf b M).1,ok.exfs b M,.inl M,(ok.exf b M).2,λp hp=>by rw[<- g] at hp; cases (show p∈([]:List (Addr×Obj)) from hp)⟩
 have U:∀s5:Ai,s5={ s3 with heap:=h4,toks:=s3.toks+([]:List (Str×Value)).length } ->
   Hb (model X.prog X.w) X.A (.compLoop (.ListComp t [⟨.Name x px,iter,B,0⟩] a pos) 0 (.ref it) (.ref j.heap.objs.size) (Vk a (Ek (s3.heap.objs.size+1) a.names cl) s3.heap.objs.size X.env))
    (compPost (model X.prog X.w) X.A X.xe (some (Oc (.Name S py) X.env)) (λ_ s'=>SP X c De .next s') (.ref j.heap.objs.size) s3.heap.objs.size) s5:=by
  rintro s5 rfl
  refine Vy (λn s'=>∃i o k,Inv X' [] (o::Ei l R) k s'/\tn i s'.heap/\(∀b∈fp,k b=none)/\W i n k) ?_ m0
   ⟨0,none,_,I4 _,h6,λb f=>(f3 b f).1,w0⟩
  (intro n s6 q_; obtain ⟨i,o,D,I6,k9,q5,w6⟩ := q_)
  rcases k0 i n D w6 with ⟨q4,qn⟩ | ⟨go,step⟩
  ·have hd:=T.done X' eP eW eK eC i [] s6 _ D (λ_ _=>False) I6 (E q5) k9 q4
   rw[eA] at hd
   refine Gb hd λr L d => ?_
   obtain ⟨hr,I7⟩ := d
   subst hr
   obtain ⟨m7,q3,_⟩:=I7.loc
   have Y:L.heap.Ns s3.heap.objs.size m7:=by rw[<- g] at q3; exact q3
   have h9:D s3.heap.objs.size=none:=by have:=I7.free; rw[<- g] at this; exact this
   have b7:Un (gA X.stack) fp (upd H2 j.heap.objs.size (.lst [])) D s3.heap L.heap:=by have:=I7.base; rw[<- g] at this; exact this
   have j4:L.os=s3.os:=by have:=I7.os; rw[<- g] at this; exact this
   have q0:Vh X.prog X.w D L.heap:=by have:=I7.hok; rw[eP,eW] at this; exact this
   have J7:Inv X c l D L:=I3.call' (s':=L) (ch:=fp) j4 b7 q0 I7.bare (λb f=>⟨(f3 b f).2.2.2.1,(f3 b f).2.1,(f3 b f).2.2.2.2.1,(f3 b f).2.2.2.2.2⟩)
   have fC:Ml X c D s3.heap.objs.size:=I3.fpOk (Aj _) h9
   obtain ⟨oC,y3,y6,k7,rC⟩:=id Y
   have J8:Inv X (c++[(s3.heap.objs.size,oC)]) l D L:=J7.pins_of λp hp=>by
    rcases Aw.mp hp with z | z
    ·have q:=J7.pin p (Ag _ z)
     exact q
    ·rw[Al.mp z]
     exact ⟨k7,h9,fC.2.1,fC.2.2.1,λv hv=>by rw[rC.1] at hv; cases hv⟩
   refine Gb (Mc (X:=X) (i:=i0) (x:=S) (pos:=py) hN x7 (.inl k1) (.inr k1) (c++[(s3.heap.objs.size,oC)]) L l D (.ref j.heap.objs.size) (.ref j.heap.objs.size) (λh3 k=>h3=l.set i0 (some (.ref j.heap.objs.size))/\k=D) J8 rfl ⟨rfl,rfl⟩) λ_ P d => ?_
   obtain ⟨j1,Z,G,e9,h5⟩ := d
   subst e9 h5
   have k4:=(G.pin (s3.heap.objs.size,oC) (Ag _ (Ag _ Ab))).1
   have x5:Inv X c (l.set i0 (some (.ref j.heap.objs.size))) Z P:=G.pins_of λp hp=>G.pin p (Ag _ (Ak _ hp))
   refine ⟨m7,Y.at λo e=>by rw[k7] at e; cases e; exact k4,λy2 k6=>?_⟩
   exact ⟨_,Z,Rr (t':=P.toks) (fp:=[s3.heap.objs.size]) x5 (λb o f e=>(k6.2 b (λz=>f (by rw[z]; exact Ab))).trans e) (λb f=>by rw[Al.mp f]; exact fC),qn⟩
  ·have k2:=T.item X' eP eW eK eC i [] s6 _ D (λ_ _=>False) I6 (E q5) k9 go
   rw[eA] at k2
   refine Gb k2 λr L d => ?_
   obtain ⟨u,hr,h7⟩ := d
   subst hr
   refine Gb h7 λ_ s8 d => ?_
   obtain ⟨y,H8,I8,r8,y8,h0,x1⟩ := d
   have x2:=I8.pinned (E x1) (T.obj _ _ h0)
   obtain ⟨N1,N2,j0,j9,q9⟩:=step y H8 y8
   have again:∀{Z:Hp} {P:Ai} {m':Nat},Inv X' ([]++Oz fp s8.heap) (some y::Ei l R) Z P->m'<n->W (i+1) m' Z->∃m,m<n/\∃i o k,Inv X' [] (o::Ei l R) k P/\tn i P.heap/\(∀b∈fp,k b=none)/\W i m k:=λ{Z P m'} G hm w9=>by
    refine ⟨m',hm,i+1,some y,Z,G.unpinned,T.keep _ _ _ h0 λb f o e=>(G.pin (b,o) (Ag _ (Ag _ (Fz f e)))).1,λb f=>?_,w9⟩
    obtain ⟨o,e,_⟩:=T.obj _ _ h0 b f
    exact (G.pin (b,o) (Ag _ (Ag _ (Fz f e)))).2.1
   subst g
   refine Gb (Mc (i:=0) (x:=x) (pos:=px) C.nd rfl (On C.own) (Ru C.own) _ s8 _ H8 y u (λh3 k=>h3=some y::Ei l R/\k=H8) x2 r8 ⟨rfl,rfl⟩) λ_ P d => ?_
   obtain ⟨j1,Z,G,e9,h5⟩ := d
   subst e9 h5
   refine Gb (ht fp s3 _ _ P _ _ _ G q9) λok x8 d => ?_
   obtain ⟨x9,h8,O⟩ := d
   cases ok with
   | false =>
    rw[if_neg Bp] at O ⊢
    obtain ⟨m',hm,x6⟩:=j0 _ O
    exact again h8 hm x6
   | true =>
    rw[if_pos rfl] at O ⊢
    refine Gb (he fp s3 _ _ x8 _ _ _ h8 O) λz j3 d => ?_
    obtain ⟨vz,k5,x3,q8,x0⟩ := d
    obtain ⟨q7,ha,hz,m',hm,j8⟩:=j9 _ _ x0
    refine Gb (Ot _ j3 _ k5 (.ref j.heap.objs.size) [vz] (.ref j.heap.objs.size) [z] (λ_ k=>k=upd k5 j.heap.objs.size (.lst (q7++[vz]))) x3 rfl (.cons q8 .nil) ⟨_,q7,vz,rfl,rfl,ha,hz,rfl⟩) λ_ y5 d => ?_
    obtain ⟨_,y1,j6,_,j7⟩ := d
    subst j7
    exact again j6 hm j8
 exact Oa (U _ rfl) (T.self X.A 0 _ _ _ h6 (U _ rfl))
end
end Nd
namespace Nd
open PySem L2
def V7(K:PySem.W.Frag):R2:=λx y H Q=>∃a b c d,x=.ref a/\y=.ref b/\Ta K H a c/\Ta K H b d/\c.length+d.length<=Aq/\(c=[]->Q (.ref b) H)/\(d=[]->Q (.ref a) H)/\(∀p,H p=none->Q (.ref p) (upd H p (.tup (c++d))))
open PyProof.Rows in
theorem R8{X:Cx}:Xu X (Jb .Add) (V7 X.K):=by
 intro c s z H x y v u Q I n j h
 obtain ⟨a,b,q,C,rfl,rfl,w,o,P,E,O,J⟩:=h
 by_cases g:q=[]
 ·cases n
  cases j
  obtain ⟨i,L,G,_⟩:=I.tuple w
  obtain ⟨t,V,N,_⟩:=I.tuple o
  have d:i=[]:=L.nil_iff.mpr g
  subst d
  obtain ⟨⟨T,B,S,e⟩,m,k,R,d⟩:=id G
  obtain ⟨⟨U,D,A,f⟩,p,l,M,r⟩:=id N
  simp only at k d l r
  subst k d l r
  exact concat_meets ⟨_,m,rfl⟩ ⟨_,p,rfl⟩ kG seq_tuple_add PySem.F.slot_tuple_add PySem.F.entry_tuple_add (PySem.F.args_tuple_add_2 _ _)
   (tuple_addW0 a b _ _ R M B D e f rfl) ⟨m,p,⟨.ref b,H,I,rfl,E g⟩⟩
 ·exact K7 c s z H (.ref a) (.ref b) v u Q I n j ⟨a,b,q,C,rfl,rfl,w,o,g,P,O,λ_=>J⟩
theorem Yx:∀{l:List Int},l.Nodup->l.Pairwise (·<=·)->l.Pairwise (· < ·)
 | [],_,_=>.nil
 | a::l,n,p=>by
  obtain ⟨e,d⟩:=Bb.mp p
  obtain ⟨f,g⟩:=Co.mp n
  refine Bb.mpr ⟨λb c=>?_,Yx g d⟩
  have:=e b c
  have : a≠b:=λz=>f (by rw[z]; exact c)
  omega
end Nd
namespace Nd
open PySem PySem.Spec PyProof.Rows L2
end Nd
namespace Nd
open PySem L2
def JF(K:PySem.W.Frag):List V->Hp->VK->Prop:=λa H Q=>∃x n t b,a=[x,.ty n]/\TyOf K H x t/\PySem.W.kitOne K t (.type n)=some b/\Q (.bl b) H
theorem pB{X:Cx}:Mf X (.builtin "isinstance") (JF X.K):=kJ
theorem Z4{K:PySem.W.Frag}{T:String}:PySem.W.kitOne K (.type T) (.type T)=some true:=by
 unfold PySem.W.kitOne
 rw[if_pos (by simp)]
theorem compScope0{X:Cx}{a:Scope}{x:Str}(c:closureFor a X.env=pure [])(b:∀y∈a.names,y.2≠.cell)(kind:a.kind=.function)(locs:∀y∈a.names,y.2=.local->a.names.lookup y.1=some .local)(e:a.names.lookup x=some .local)(d:(a.names.all λy=>!(y.2 == En) || (([]:List (Str×Addr)).lookup y.1).isSome)=true):CompScope X a [] x [] [] :=
 ⟨c,.inl b,kind,locs,.inl e,λ_ _ h=>by simp at h,d,Co.mpr ⟨Bd,Dv⟩,rfl,λk y j f _=>by simp at f⟩
theorem sz{n:Nat}(h:n<=1000:=by first | decide | simp | (simp; omega)):n<=Aq:=Jw (wC h)
end Nd
namespace Nd
open PySem PySem.Spec PyProof.Rows L2
theorem AU{K:PySem.W.Frag}{T n:String}{b:Bool}(a:(Gd T == Gd n)=false)(c:PySem.W.kitMeta n=true)(d:(fastBuiltinMro T).map (λx=>x.contains (Gd n))=some b):PySem.W.kitOne K (.type T) (.type n)=some b:=by
 unfold PySem.W.kitOne PySem.W.kitCls
 rw[a,if_neg (by decide)]
 dsimp only
 rw[if_pos c]
 exact d
theorem C6:∀{vs:List Value} {ns:List Int},Ez vs ns->Gf (ns.map V.int) vs
 | _,_,.nil=>.nil
 | _,_,.cons n t h=>.cons ⟨t,rfl⟩ (C6 h)
end Nd
namespace NdS
open PySem
theorem mR{mask finger moves:Nat}{led plain:Bool}{c:Array Int}{t:Cj}{order:Array Nat}(h:Jm mask finger moves led plain c=some (t,order)):t.led=led/\t.mask=mask/\t.plain=plain/\t.dummies=#[]:=by
 unfold Jm at h
 cases b:Qk mask c with
 | none=>rw[b] at h; cases h
 | some a =>
  rw[b] at h
  cases h
  exact ⟨rfl,rfl,rfl,rfl⟩
def st(m i:Nat):Nat:=(i * 5+1) % m
def it(m:Nat):Nat->Nat->Nat
 | 0,i=>i
 | t+1,i=>it m t (st m i)
theorem jQ(m:Nat):∀(a b i:Nat),it m (a+b) i=it m b (it m a i)
 | 0,b,i=>by rw[Mz]; rfl
 | a+1,b,i=>by rw[Nat.add_right_comm]; exact jQ m a b (st m i)
def GX(m:Nat):Nat->Nat->List Nat
 | 0,_=>[]
 | f+1,i=>i::GX m f (st m i)
theorem jV{m:Nat}:∀{f i e:Nat},e∈GX m f i->∃t,t<f/\it m t i=e
 | 0,_,_,h=>by cases h
 | f+1,i,e,h=>by
  rcases An.mp h with z | z
  ·exact ⟨0,aU _,z.symm⟩
  ·obtain ⟨t,a,b⟩:=jV z
   exact ⟨t+1,Nat.succ_lt_succ a,b⟩
def Pb(m:Nat):Prop:=0<m/\it m m 0=0/\∀e,e<m->e∈GX m m 0
theorem Qz{m:Nat}(b:0<m)(a:(it m m 0 == 0)=true)(d:((Cd m).all λe=>(GX m m 0).contains e)=true):Pb m :=
 ⟨b,by simpa using a,λe c=>by
  have:=List.all_eq_true.mp d e (Ky.mpr c)
  simpa using this⟩
theorem W5:Pb 8:=Qz (by decide) (by decide +kernel) (by decide +kernel)
theorem CL:Pb 16:=Qz (by decide) (by decide +kernel) (by decide +kernel)
theorem BF:Pb 32:=Qz (by decide) (by decide +kernel) (by decide +kernel)
theorem BZ:Pb 64:=Qz (by decide) (by decide +kernel) (by decide +kernel)
theorem R6:Pb 128:=Qz (by decide) (by decide +kernel) (by decide +kernel)
theorem M6:Pb 256:=Qz (by decide) (by decide +kernel) (by decide +kernel)
theorem EL{m:Nat}(g:Pb m){i e:Nat}(j:i<m)(l:e<m):∃t,t<m/\it m t i=e:=by
 obtain ⟨o,k,d⟩:=g
 obtain ⟨a,p,h⟩:=jV (d i j)
 obtain ⟨b,n,f⟩:=jV (d e l)
 by_cases c:a<=b
 ·refine ⟨b - a,by omega,?_⟩
  rw[<- h,<- jQ,Nat.add_sub_cancel' c]
  exact f
 ·refine ⟨b+m - a,by omega,?_⟩
  rw[<- h,<- jQ,show a+(b+m - a)=m+b by omega,jQ,k]
  exact f
def lp(m:Nat):Nat->Nat->Nat->Nat×Nat
 | 0,i,p=>(i,p)
 | t+1,i,p=>lp m t ((i * 5+1+p / 32) % m) (p / 32)
theorem yP(m:Nat):∀(a b i p:Nat),lp m (a+b) i p=lp m b (lp m a i p).1 (lp m a i p).2
 | 0,b,i,p=>by rw[Mz]; rfl
 | a+1,b,i,p=>by rw[Nat.add_right_comm]; exact yP m a b _ _
theorem uB(m:Nat):∀(t i:Nat),lp m t i 0=(it m t i,0)
 | 0,_=>rfl
 | t+1,i=>uB m t (st m i)
theorem lN{m:Nat}:∀(n i p:Nat),p<32 ^ n->(lp m n i p).2=0
 | 0,i,p,h=>by show p=0; simpa using h
 | n+1,i,p,h=>lN n _ _ (by rw[Nat.pow_succ] at h; exact Nat.div_lt_of_lt_mul (by omega))
theorem T5{m:Nat}(a:0<m):∀(n i p:Nat),i<m->(lp m n i p).1<m
 | 0,i,p,h=>h
 | n+1,i,p,h=>T5 a n _ _ (Uy _ a)
theorem oN{m:Nat}(g:Pb m){i p e:Nat}(c:i<m)(b:p<2 ^ 64)(d:e<m):∃t,t<m+14/\(lp m t i p).1=e:=by
 have a:=lN (m:=m) 13 i p (Cc b (by decide))
 obtain ⟨t,h,f⟩:=EL g (T5 g.1 13 i p c) d
 refine ⟨13+t,by omega,?_⟩
 rw[yP,a,uB]
 exact f
theorem Yw(mask i:Nat):i<=Hw mask i:=by unfold Hw; split <;> omega
theorem eX{mask:Nat}{owner:Array (Option Nat)}:∀(fuel i p t:Nat),t<fuel->(owner.getD (lp (mask+1) t i p).1 (some 0)).isNone=true->∃j,Kv mask owner fuel i p=some j/\(owner.getD j (some 0)).isNone=true
 | 0,_,_,_,h,_=>absurd h (Ka _)
 | fuel+1,i,p,t,h,hn=>by
  unfold Kv
  split
  ·rename_i k a
   exact ⟨i+k,rfl,by have:=List.find?_some a; exact this⟩
  ·rename_i a
   rw[List.find?_eq_none] at a
   cases t with
   | zero =>
    have:=a 0 (Ky.mpr (by have:=Yw mask i; omega))
    exact absurd hn (by simpa [lp] using this)
   | succ t =>
    exact eX fuel _ _ t (by omega) hn
theorem Vt{L:List (Option Nat)}:∀{j x:Nat},L[j]? = some none->((L.set j (some x)).filterMap id).Perm (x::L.filterMap id):=by
 induction L with
 | nil=>intro j x h; simp at h
 | cons a L d =>
  intro j x h
  cases j with
  | zero =>
   simp at h
   subst h
   simp
  | succ j =>
   have c:L[j]? = some none:=by simpa using h
   have:=d (x:=x) c
   cases a with
   | none=>simpa using this
   | some b=>simpa using (Iv b this).trans (Dk x b _)
theorem uQ{L:List (Option Nat)}:(L.filterMap id).length<L.length->∃j:Nat,L[j]? = some none:=by
 induction L with
 | nil=>intro h; simp at h
 | cons a L d =>
  intro h
  cases a with
  | none=>exact ⟨0,rfl⟩
  | some b =>
   have : (L.filterMap id).length<L.length:=by simpa using h
   obtain ⟨j,c⟩:=d this
   exact ⟨j+1,by simpa using c⟩
theorem sD(h:Int):Da h<2 ^ 64:=by
 unfold Da
 have a:=Int.emod_nonneg h (show (2 ^ 64:Int)≠0 by decide)
 have b:=Int.emod_lt_of_pos h (show (0:Int)<2 ^ 64 by decide)
 omega
def Y7(mask:Nat)(a:Option (Array (Option Nat)×Nat))(h:Int):Option (Array (Option Nat)×Nat):=do
 let (owner,k) <- a
 let j <- Kv mask owner (Hm mask) (Da h % (mask+1)) (Da h)
 pure (owner.setIfInBounds j (some k),k+1)
theorem kX{mask:Nat}(g:Pb (mask+1)):∀(b:List Int) (owner:Array (Option Nat)) (n:Nat),owner.size=mask+1->(owner.toList.filterMap id).Perm (Cd n)->n+b.length<=mask->∃a:Array (Option Nat),b.foldl (Y7 mask) (some (owner,n))=some (a,n+b.length)/\a.size=mask+1/\(a.toList.filterMap id).Perm (Cd (n+b.length))
 | [],owner,n,h1,h2,_=>⟨owner,rfl,h1,h2⟩
 | h::b,owner,n,h1,h2,h3=>by
  rw[Bm] at h3
  have len:(owner.toList.filterMap id).length=n:=by rw[h2.length_eq,Dh]
  obtain ⟨e,k⟩:=uQ (L:=owner.toList) (by rw[len,Am]; omega)
  have d:e<mask+1:=by
   have:=(Av.mp k).1
   rw[Am] at this
   omega
  obtain ⟨t,z,r⟩:=oN g (i:=Da h % (mask+1)) (p:=Da h) (e:=e) (Uy _ g.1) (sD h) d
  have o:(owner.getD (lp (mask+1) t (Da h % (mask+1)) (Da h)).1 (some 0)).isNone=true:=by
   rw[r,Cs,<- Fh,k]
   rfl
  obtain ⟨j,x,c⟩:=eX (mask:=mask) (owner:=owner) (Hm mask) _ _ t (by unfold Hm; omega) o
  have f:owner.toList[j]? = some none:=by
   rw[Cs,<- Fh] at c
   cases q:owner.toList[j]? with
   | none=>rw[q] at c; simp at c
   | some v =>
    rw[q] at c
    cases v with
    | none=>rfl
    | some v=>simp at c
  have s:Y7 mask (some (owner,n)) h=some (owner.setIfInBounds j (some n),n+1):=by
   show (do
    let j <- Kv mask owner (Hm mask) (Da h % (mask+1)) (Da h)
    pure (owner.setIfInBounds j (some n),n+1))=_
   rw[x]
   rfl
  rw[List.foldl_cons,s]
  have u:((owner.setIfInBounds j (some n)).toList.filterMap id).Perm (Cd (n+1)):=by
   rw[gN]
   refine (Vt f).trans ?_
   rw[List.range_succ]
   exact (Iv n h2).trans (Et (l₁:=[n]) (l₂:=Cd n))
  obtain ⟨y,m,l,w⟩:=kX g b (owner.setIfInBounds j (some n)) (n+1) (by rw[Ro]; exact h1) u (by omega)
  refine ⟨y,?_,l,?_⟩
  ·rw[m,Bm]
   congr 2
   omega
  ·rw[Bm,show n+(b.length+1)=n+1+b.length by omega]
   exact w
theorem oP{mask:Nat}(g:Pb (mask+1))(a:Array Int)(e:a.size<=mask):∃owner:Array (Option Nat),Qk mask a=some owner/\owner.size=mask+1/\(owner.toList.filterMap id).Perm (Cd a.size):=by
 have f:((Array.replicate (mask+1) (none:Option Nat)).toList.filterMap id).Perm (Cd 0):=by
  rw[Array.toList_replicate]
  simp
 obtain ⟨o,b,d,c⟩:=kX g a.toList (Array.replicate (mask+1) none) 0 (by simp) f (by simpa using e)
 rw[Am,Mz] at b c
 refine ⟨o,?_,d,c⟩
 unfold Qk
 rw[<- Array.foldl_toList]
 show (a.toList.foldl (Y7 mask) (some (Array.replicate (mask+1) none,0))).map (·.1)=some o
 rw[b]
 rfl
theorem qD(owner:Array (Option Nat)):((Cd owner.size).filterMap λj=>(owner.getD j none).map λx=>(j,x)).map (·.2)=owner.toList.filterMap id:=by
 obtain ⟨L⟩:=owner
 simp only[Ar]
 have h:∀(L:List (Option Nat)) (c:List (Option Nat)),((List.range' c.length L.length).filterMap λj=>(((c++L)[j]?).getD none).map λx=>(j,x)).map (·.2)=L.filterMap id:=by
  intro L
  induction L with
  | nil=>intro c; rfl
  | cons a L f =>
   intro c
   rw[Bm,List.range'_succ,Lq]
   have e:((c++a::L)[c.length]?).getD none=a:=by simp
   have d:=f (c++[a])
   rw[Bf,Fl,Bt,List.singleton_append] at d
   cases a with
   | none =>
    simp only[e,Option.map_none,List.filterMap_cons_none,id]
    exact d
   | some b =>
    simp only[e,Oo,Ao,List.filterMap_cons_some,id]
    rw[d]
    simp
 have:=h L []
 rw[Ij,<- List.range_eq_range',Va] at this
 rw[<- this]
 congr 1
 congr 1
 funext j
 rw[Cs]
 simp
theorem O1{mask finger moves:Nat}{led plain:Bool}(g:Pb (mask+1))(a:Array Int)(d:a.size<=mask):∃(t:Cj) (order:Array Nat),Jm mask finger moves led plain a=some (t,order)/\order.toList.Perm (Cd a.size)/\t.fits a.size=true/\t.led=led:=by
 obtain ⟨o,f,c,b⟩:=oP g a d
 have e:Jm mask finger moves led plain a=some ({ mask:=mask,place:=(((Cd (mask+1)).filterMap λj=>(o.getD j none).map λx=>(j,x)).map (·.1)).toArray,dummies:=#[],finger:=finger,led:=led,moves:=moves,plain:=plain },
   (((Cd (mask+1)).filterMap λj=>(o.getD j none).map λx=>(j,x)).map (·.2)).toArray):=by
  unfold Jm
  rw[f]
  rfl
 have lo:=qD o
 rw[c] at lo
 have len:((Cd (mask+1)).filterMap λj=>(o.getD j none).map λx=>(j,x)).length=a.size:=by
  have:=congrArg Ft lo
  rw[Af,b.length_eq,Dh] at this
  exact this
 refine ⟨_,_,e,by rw[List.toList_toArray,lo]; exact b,?_,rfl⟩
 simp only[SetTable.fits,Qp,Ar,Af,len,Fu,beq_self_eq_true,true_and,decide_eq_true_eq]
 show a.size+0<=mask
 omega
theorem qU{a:Type}(es:Array a){order:Array Nat}(p:order.toList.Perm (Cd es.size)):(order.filterMap (es[·]?)).toList.Perm es.toList/\(order.filterMap (es[·]?)).size=es.size:=by
 have e:(order.filterMap (es[·]?)).toList.Perm es.toList:=by
  rw[Array.toList_filterMap]
  have:=p.filterMap (es[·]?)
  rw[filterMap_getElem?_range] at this
  exact this
 exact ⟨e,by rw[<- Am,e.length_eq,Am]⟩
theorem Tj{n:Nat}(h:n<256):∃m,Dt n=m+1/\Pb (m+1)/\n<=m:=by
 have a:∀k:Fin 256,(Dt k.1 == 8 && decide (k.1<8)) || (Dt k.1 == 16 && decide (k.1<16)) || (Dt k.1 == 32 && decide (k.1<32)) || (Dt k.1 == 64 && decide (k.1<64)) || (Dt k.1 == 128 && decide (k.1<128)) || (Dt k.1 == 256 && decide (k.1<256))=true:=by decide +kernel
 have q:=a ⟨n,h⟩
 simp only[Bool.or_eq_true,Fu,beq_iff_eq,decide_eq_true_eq] at q
 rcases q with ((((q | q) | q) | q) | q) | q
 ·exact ⟨7,q.1,W5,by omega⟩
 ·exact ⟨15,q.1,CL,by omega⟩
 ·exact ⟨31,q.1,BF,by omega⟩
 ·exact ⟨63,q.1,BZ,by omega⟩
 ·exact ⟨127,q.1,R6,by omega⟩
 ·exact ⟨255,q.1,M6,by omega⟩
abbrev iU(p:Array Nat):Prop:=p.toList.Pairwise (· < ·)
theorem Up{p:Array Nat}(r:iU p){i j:Nat}(h:i<j)(a:j<p.size):p[i]'(by omega)<p[j]:=by
 have:=Lh.mp r i j (by rw[Am]; omega) (by rw[Am]; exact a) h
 simpa using this
structure Below(p:Array Nat)(j b:Nat):Prop where
 le:b<=p.size
 lo:∀i (h:i<p.size),i<b->p[i]<j
 hi:∀i (h:i<p.size),b<=i->j<=p[i]
theorem cD{p:Array Nat}{j:Nat}(r:iU p):∀(fuel lo a:Nat),a<=p.size->lo<=a->a - lo<=fuel->(∀i (h:i<p.size),i<lo->p[i]<j)->(∀i (h:i<p.size),a<=i->j<=p[i])->Below p j (Ue p j fuel lo a)
 | 0,lo,a,h1,h2,h3,h4,h5=>by
  unfold Ue
  have e:lo=a:=by omega
  exact ⟨by omega,λi h b=>h4 i h b,λi h b=>h5 i h (by omega)⟩
 | fuel+1,lo,a,h1,h2,h3,h4,h5=>by
  unfold Ue
  split
  ·rename_i b
   have f:(lo+a) / 2<p.size:=by omega
   have e:p.getD ((lo+a) / 2) j=p[(lo+a) / 2]:=by simp [Array.getD,f]
   dsimp only
   rw[e]
   split
   ·rename_i d
    refine cD r fuel _ a h1 (by omega) (by omega) (λi h c=>?_) h5
    by_cases z:i=(lo+a) / 2
    ·subst z; exact d
    ·exact Uz (Up r (show i<(lo+a) / 2 by omega) f) d
   ·rename_i d
    refine cD r fuel lo _ (by omega) (by omega) (by omega) h4 (λi h c=>?_)
    by_cases z:i=(lo+a) / 2
    ·subst z; omega
    ·exact Cg (by omega) (Jw (Up r (show (lo+a) / 2<i by omega) h))
  ·exact ⟨by omega,λi h b=>h4 i h b,λi h b=>h5 i h (by omega)⟩
theorem Wr{p:Array Nat}(r:iU p)(j:Nat):Below p j (Cm p j) :=
 cD r _ _ _ (Aj _) (Di _) (by omega) (λi h a=>absurd a (Ka _)) (λi h a=>absurd a (by omega))
theorem Below.eq{p:Array Nat}{j b a:Nat}(x:Below p j b)(y:Below p j a):b=a:=by
 rcases Nat.lt_trichotomy b a with z | z | z
 ·have h:b<p.size:=Cc z y.le
  exact absurd (y.lo b h z) (Nat.not_lt.mpr (x.hi b h (Aj _)))
 ·exact z
 ·have h:a<p.size:=Cc z x.le
  exact absurd (x.lo a h z) (Nat.not_lt.mpr (y.hi a h (Aj _)))
theorem lD{p:Array Nat}(r:iU p):Cm p 0=0 :=
 (Wr r 0).eq ⟨Di _,λi h a=>absurd a (Ka _),λi h _=>Di _⟩
theorem rB{p:Array Nat}(r:iU p){i:Nat}(h:i<p.size):Cm p (p[i]+1)=i+1 :=
 (Wr r _).eq ⟨h,λk a b=>by
  by_cases z:k=i
  ·subst z; exact Tb _
  ·exact Fg (Up r (show k<i by omega) h),λk a b=>Up r (show i<k by omega) a⟩
structure TabOk(n:Nat)(t:Cj):Prop where
 good:Pb (t.mask+1)
 dum:t.dummies=#[]
 plain:t.plain=true
 rise:iU t.place
 top:∀j∈t.place.toList,j<=t.mask
 size:t.place.size=n
structure Tab(n:Nat)(t:Cj):Prop extends TabOk n t where
 room:n * 5<t.mask * 3
theorem iP{t:Cj}{n:Nat}(x:Tab n t):n+1<=t.mask:=by have:=x.room; omega
theorem TabOk.fits{t:Cj}{n:Nat}(x:TabOk n t)(h:n<=t.mask):t.fits n=true:=by
 simp only[SetTable.fits,Qp,x.dum,x.size,Fu,beq_self_eq_true,true_and,decide_eq_true_eq]
 show n+0<=t.mask
 omega
theorem Tab.fits{t:Cj}{n:Nat}(x:Tab n t):t.fits n=true:=x.toTabOk.fits (by have:=iP x; omega)
theorem Vw{t:Cj}{n j:Nat}(x:TabOk n t):t.slot j=.empty↔j∉t.place.toList:=by
 have m:SetTable.has t.dummies j=false:=by rw[x.dum]; rfl
 unfold SetTable.slot
 dsimp only
 rw[m]
 constructor
 ·intro h l
  obtain ⟨i,a,e⟩:=Gx.mp l
  rw[Am] at a
  have c:t.place[i]=j:=by simpa using e
  have b:Cm t.place j=i:=(Wr x.rise j).eq ⟨Jw a,λk f d=>by rw[<- c]; exact Up x.rise d a,λk f d=>by
   by_cases z:i=k
   ·subst z; exact Nat.le_of_eq c.symm
   ·rw[<- c]; exact Jw (Up x.rise (show i<k by omega) f)⟩
  rw[b,Ig a,c,if_pos (by simp)] at h
  cases h
 ·intro h
  rw[if_neg (λz=>h ?_)]
  ·rfl
  ·have g:t.place[Cm t.place j]? = some j:=by simpa using z
   have:=Array.mem_of_getElem? g
   exact Array.mem_def.mp this
theorem bO{t:Cj}{n j:Nat}(x:TabOk n t):t.slot j≠.dummy:=by
 have a:SetTable.has t.dummies j=false:=by rw[x.dum]; rfl
 unfold SetTable.slot
 dsimp only
 rw[a]
 split
 ·intro h; cases h
 ·intro h; cases h
theorem eY{mask i:Nat}(h:i<=mask):Hw mask i<=mask:=by unfold Hw; split <;> omega
theorem Um(mask i:Nat):Hw mask i - i<=9:=by unfold Hw; split <;> omega
theorem O5(mask i p:Nat):SetTable.leap mask i p=((i * 5+1+p / 32) % (mask+1),p / 32):=rfl
theorem cS{t:Cj}{n:Nat}{h:Int}(x:TabOk n t):∀(fuel u:Nat) (p:SetTable.Probe),p.more<=9->p.j+p.more<=t.mask->p.dummy=none->p.more+2+10 * u<=fuel->t.slot (lp (t.mask+1) (u+1) p.i p.perturb).1=.empty->∃j,Od t (λ_=>h+1) h fuel p=some (.empty j none)/\t.slot j=.empty/\j<=t.mask
 | 0,u,p,_,_,_,h3,_=>absurd h3 (by omega)
 | fuel+1,u,p,h1,h2,hd,h3,h4=>by
  unfold Od
  split
  ·rename_i b
   exact ⟨p.j,by rw[hd],b,by omega⟩
  ·rename_i b
   exact absurd b (bO x)
  ·rw[if_neg (by simp; omega)]
   unfold SetTable.advance
   split
   ·rename_i d
    exact cS x fuel u _ (by dsimp only; omega) (by dsimp only; omega) hd (by dsimp only; omega) h4
   ·rename_i d
    rw[O5]
    dsimp only
    have c:(p.i * 5+1+p.perturb / 32) % (t.mask+1)<=t.mask:=gJ.mp (Uy _ (aU _))
    cases u with
    | zero =>
     cases fuel with
     | zero=>omega
     | succ fuel =>
      unfold Od
      dsimp only
      have a:t.slot ((p.i * 5+1+p.perturb / 32) % (t.mask+1))=.empty:=h4
      rw[a]
      exact ⟨_,by rw[hd],a,c⟩
    | succ u =>
     refine cS x fuel u _ (Um _ _) ?_ hd ?_ h4
     ·dsimp only
      have:=eY c
      have:=Yw t.mask ((p.i * 5+1+p.perturb / 32) % (t.mask+1))
      omega
     ·dsimp only
      have:=Um t.mask ((p.i * 5+1+p.perturb / 32) % (t.mask+1))
      omega
theorem yN:∀{l1 l2:List Nat},l1.Nodup->(∀e∈l1,e∈l2)->l1.length<=l2.length
 | [],_,_,_=>Di _
 | a::l1,l2,nd,h=>by
  have b:=Co.mp nd
  have c:=h a (Ab ..)
  have:=yN (l2:=l2.erase a) b.2 λe d=>(List.mem_erase_of_ne (show e≠a from λz=>b.1 (by rw[<- z]; exact d))).mpr (h e (Ad _ d))
  rw[oS c] at this
  have p:0<l2.length:=rM c
  rw[Bm]
  omega
theorem M7{m:Nat}{l:List Nat}(b:l.Pairwise (· < ·))(h:l.length<m):∃e,e<m/\e∉l:=by
 refine Pr λz=>?_
 have all:∀e,e∈Cd m->e∈l:=λe a=>Pr λq=>z ⟨e,Ky.mp a,q⟩
 have:=yN List.nodup_range all
 rw[Dh] at this
 omega
theorem kK{t:Cj}{n:Nat}(x:Tab n t)(h:Int):∃j,t.freeSlot h=some (j,false)/\j∉t.place.toList/\j<=t.mask:=by
 have v:=iP x
 obtain ⟨e,q,d⟩:=M7 (m:=t.mask+1) x.rise (by rw[Am,x.size]; omega)
 obtain ⟨u,w,g⟩:=oN x.good (i:=Da h % (t.mask+1)) (p:=Da h) (e:=e) (Uy _ (aU _)) (sD h) q
 have c:Da h % (t.mask+1)<=t.mask:=gJ.mp (Uy _ (aU _))
 have b:∃j,t.probe (λ_=>h+1) h (t.probeStart h)=some (.empty j none)/\t.slot j=.empty/\j<=t.mask:=by
  unfold SetTable.probe
  cases u with
  | zero =>
   have l:t.slot (Da h % (t.mask+1))=.empty:=(Vw x.toTabOk).mpr (by rw[show Da h % (t.mask+1)=e from g]; exact d)
   obtain ⟨f,r⟩ : ∃f,10 * Hm t.mask=f+1:=⟨10 * Hm t.mask - 1,by unfold Hm; omega⟩
   rw[r]
   unfold Od
   have a:t.slot (t.probeStart h).j=.empty:=l
   rw[a]
   exact ⟨_,rfl,a,c⟩
  | succ u =>
   refine cS x.toTabOk _ u (t.probeStart h) (Um _ _) ?_ rfl ?_ ?_
   ·have:=eY c
    have:=Yw t.mask (Da h % (t.mask+1))
    show Da h % (t.mask+1)+(Hw t.mask (Da h % (t.mask+1)) - Da h % (t.mask+1))<=t.mask
    omega
   ·have:=Um t.mask (Da h % (t.mask+1))
    show Hw t.mask (Da h % (t.mask+1)) - Da h % (t.mask+1)+2+10 * u<=10 * Hm t.mask
    unfold Hm
    omega
   ·exact (Vw x.toTabOk).mpr (by rw[show (lp (t.mask+1) (u+1) (t.probeStart h).i (t.probeStart h).perturb).1=e from g]; exact d)
 obtain ⟨j,o,k,s⟩:=b
 refine ⟨j,?_,(Vw x.toTabOk).mp k,s⟩
 unfold SetTable.freeSlot
 rw[o]
 rfl
theorem oG{p:Array Nat}(r:iU p){j:Nat}(h:j∉p.toList):iU (Gv p (Cm p j) j):=by
  have b:=Wr r j
  show (Gv p (Cm p j) j).toList.Pairwise (· < ·)
  rw[SetTable.toList_insertAt]
  have n:(p.toList.take (Cm p j)).Pairwise (· < ·):=r.sublist (Io _ _)
  have m:(p.toList.drop (Cm p j)).Pairwise (· < ·):=r.sublist (Iu _ _)
  have lo:∀e∈p.toList.take (Cm p j),e<j:=λe k=>by
    obtain ⟨i,d,l⟩:=List.mem_take_iff_getElem.mp k
    rw[Am] at d
    have:=b.lo i (by omega) (by omega)
    rw[<- l]
    simpa using this
  have d:∀e∈p.toList.drop (Cm p j),j<e:=λe k=>by
    have o:e∈p.toList:=Wa k
    obtain ⟨i,d,l⟩:=List.mem_drop_iff_getElem.mp k
    rw[Am] at d
    have:=b.hi (i+Cm p j) (by omega) (by omega)
    have q:j<=e:=by
      rw[<- l]
      simpa [Nat.add_comm] using this
    exact Nat.lt_of_le_of_ne q λz=>h (by rw[z]; exact o)
  simp only[List.pairwise_append,List.pairwise_cons,An,Aw]
  first
    | exact ⟨n,⟨d,m⟩,λa g c f=>by
        rcases f with z | z
        · rw[z]; exact lo a g
        · exact Uz (lo a g) (d c z)⟩
    | (refine ⟨⟨n,⟨by simp,Ea⟩,λa g c f=>?_⟩,m,λa g c f=>?_⟩
       · have z:c=j:=by simpa using f
         rw[z]; exact lo a g
       · rcases g with z | z | z
         · exact Uz (lo a z) (d c f)
         · rw[z]; exact d c f
         · cases z)
theorem Z0{t:Cj}{es:Array (Int×Value)}(x:Tab es.size t)(h:Int)(v:Value):∃(a:Array (Int×Value)) (c:Cj),layNew t es h v=(a,c,false,false)/\a.toList.Perm (es.toList++[(h,v)])/\a.size=es.size+1/\TabOk a.size c/\c.mask=t.mask/\c.led=t.led:=by
 obtain ⟨j,i,g,m⟩:=kK x h
 have n:=iP x
 have perm:=kB es (Cm t.place j) (h,v)
 rw[Il] at perm
 have size:(Gv es (Cm t.place j) (h,v)).size=es.size+1:=by
  rw[<- Am,perm.length_eq,Bf,Am]
  rfl
 have d:=kB t.place (Cm t.place j) j
 rw[Il] at d
 have b:(Gv t.place (Cm t.place j) j).size=es.size+1:=by
  rw[<- Am,d.length_eq,Bf,Am,x.size]
  rfl
 have l:SetTable.has t.dummies j=false:=by rw[x.dum]; rfl
 have ok:TabOk (es.size+1) { t with place:=Gv t.place (Cm t.place j) j } :=
  ⟨x.good,x.dum,x.plain,oG x.rise g,λe k=>by
   rcases Aw.mp (d.mem_iff.mp k) with z | z
   ·exact x.top e z
   ·rw[Al.mp z]; exact m,b⟩
 refine ⟨_,{ t with place:=Gv t.place (Cm t.place j) j },?_,perm,size,by rw[size]; exact ok,rfl,rfl⟩
 have f:({ t with place:=Gv t.place (Cm t.place j) j }:Cj).fits (Gv es (Cm t.place j) (h,v)).size=true:=by
  rw[size]
  exact ok.fits (by omega)
 unfold layNew
 rw[i]
 simp only[SetTable.put,l,Bw,if_false,SetTable.orStandIn,f,if_true,Sm]
theorem wY{mask finger moves:Nat}{led plain:Bool}{r:Array Int}{t:Cj}{order:Array Nat}(h:Jm mask finger moves led plain r=some (t,order)):iU t.place/\(∀j∈t.place.toList,j<=mask):=by
 unfold Jm at h
 cases i:Qk mask r with
 | none=>rw[i] at h; cases h
 | some b =>
  rw[i] at h
  cases h
  have sub:∀(l:List Nat),l.Pairwise (· < ·)->(((l.filterMap λj=>(b.getD j none).map λx=>(j,x)).map (·.1)).Pairwise (· < ·))/\∀j∈((l.filterMap λj=>(b.getD j none).map λx=>(j,x)).map (·.1)),j∈l:=by
   intro l i
   have m:∀j∈((l.filterMap λj=>(b.getD j none).map λx=>(j,x)).map (·.1)),j∈l:=λj f=>by
    obtain ⟨q,o,rfl⟩:=Df.mp f
    obtain ⟨k,p,c⟩:=Zb.mp o
    cases n:b.getD k none with
    | none=>rw[n] at c; cases c
    | some v=>rw[n] at c; cases c; exact p
   refine ⟨?_,m⟩
   clear m
   induction l with
   | nil=>exact Ea
   | cons a l s =>
    have e:=Bb.mp i
    have d:=s e.2
    rw[Lq]
    cases n:b.getD a none with
    | none=>simpa [n] using d
    | some v =>
     simp only[Oo,Ao,List.pairwise_cons]
     refine ⟨λj f=>?_,d⟩
     obtain ⟨q,o,rfl⟩:=Df.mp f
     obtain ⟨k,p,c⟩:=Zb.mp o
     cases g:b.getD k none with
     | none=>rw[g] at c; cases c
     | some y=>rw[g] at c; cases c; exact e.1 k p
  obtain ⟨w,u⟩:=sub (Cd (mask+1)) List.pairwise_lt_range
  exact ⟨w,λj f=>gJ.mp (Ky.mp (u j f))⟩
theorem mH{mask finger moves:Nat}{led:Bool}(g:Pb (mask+1))(a:Array Int)(h:a.size * 5<mask * 3):∃(t:Cj) (order:Array Nat),Jm mask finger moves led true a=some (t,order)/\order.toList.Perm (Cd a.size)/\Tab a.size t/\t.led=led:=by
 obtain ⟨t,order,b,e,l,m⟩:=O1 (finger:=finger) (moves:=moves) (led:=led) (plain:=true) g a (by omega)
 obtain ⟨i,c,j,k⟩:=mR b
 obtain ⟨f,d⟩:=wY b
 have sz:t.place.size=a.size:=by
  have:=l
  simp only[SetTable.fits,Fu,beq_iff_eq] at this
  exact this.1
 exact ⟨t,order,b,e,⟨⟨by rw[c]; exact g,k,j,f,by rw[c]; exact d,sz⟩,by rw[c]; exact h⟩,i⟩
theorem lR{t:Cj}{es:Array (Int×Value)}{wanted:Nat}(d:t.plain=true)(hw:wanted<256)(i:es.size * 2<=wanted):∃(t':Cj) (order:Array Nat),t.relaid (es.map (·.1)) wanted=some (t',order)/\order.toList.Perm (Cd es.size)/\Tab es.size t'/\t'.led=t.led:=by
 obtain ⟨m,f,g,j⟩:=Tj hw
 have sz:(es.map (·.1)).size=es.size:=Vn ..
 have l:7<=m:=by
  have : 8<=Dt wanted:=by
   have a:∀k:Fin 256,decide (8<=Dt k.1)=true:=by decide +kernel
   exact of_decide_eq_true (a ⟨wanted,hw⟩)
  omega
 obtain ⟨t',order,e,b,c,h⟩:=mH (mask:=m) (finger:=t.finger) (moves:=t.movedTo m) (led:=t.led) g (es.map (·.1)) (by rw[sz]; omega)
 rw[sz] at b c
 refine ⟨t',order,?_,b,c,h⟩
 unfold SetTable.relaid
 rw[f,Nat.add_sub_cancel,d]
 exact e
theorem nV{t:Cj}{es:Array (Int×Value)}(g:t.plain=true)(l:es.size<64):∃(a:Array (Int×Value)) (t':Cj),relayAll t es (SetTable.grown es.size)=(a,t',false)/\a.toList.Perm es.toList/\a.size=es.size/\Tab a.size t'/\t'.led=t.led:=by
 have i:SetTable.grown es.size=es.size * 4:=by unfold SetTable.grown; rw[if_neg (by omega)]
 obtain ⟨t',order,h,d,e,k⟩:=lR (t:=t) (es:=es) (wanted:=es.size * 4) g (by omega) (by omega)
 obtain ⟨j,b⟩:=qU es d
 refine ⟨order.filterMap (es[·]?),t',?_,j,b,by rw[b]; exact e,k⟩
 unfold relayAll
 rw[i,h]
 dsimp only
 have c:coversAll order es.size=true:=by
  unfold coversAll
  exact List.isPerm_iff.mpr d
 have f:t'.fits (order.filterMap (es[·]?)).size=true:=by rw[b]; exact e.fits
 rw[c,f]
 rfl
abbrev bt(w:World):Bool:=w.params.followText "set-order"
def Na:Int×Value->Int
 | (_,.int k _)=>k
 | _=>0
def Wx(e:Int×Value):Prop:=∃k a,e=(hashInt k,Lb k a)
abbrev keys(es:Array (Int×Value)):List Int:=es.toList.map Na
abbrev Kx(es:Array (Int×Value))(ep:Nat)(t:Cj):Obj:={ cls:=.type "set",dict:=none,data:=.set es ep t }
structure SetS(w:World)(h:Heap)(a:Addr)(es:Array (Int×Value))(ep:Nat)(t:Cj):Prop where
 obj:h.get? a=some (Kx es ep t)
 ent:∀e∈es.toList,Wx e
 nd:(keys es).Nodup
 tab:Tab es.size t
 led:bt w=false->t.led=true
 few:es.size<64
theorem SetS.keep{w:World}{h h':Heap}{a:Addr}{es:Array (Int×Value)}{ep:Nat}{t:Cj}(S:SetS w h a es ep t)(k:∀o,h.get? a=some o->h'.get? a=some o):SetS w h' a es ep t :=
 ⟨k _ S.obj,S.ent,S.nd,S.tab,S.led,S.few⟩
def ins(k:Int)(l:List Int):List Int:=if k∈l then l else k::l
theorem U9{prog:Bl}{w:World}{h:Heap}{a:Addr}{es:Array (Int×Value)}{ep:Nat}{t:Cj}(S:SetS w h a es ep t):ElemsOf (Wk prog w) es.toList:=λe b=>by
 obtain ⟨k,c,rfl⟩:=S.ent e b
 exact ⟨⟨k,intKind_is _ _ _ _,rfl⟩,rfl⟩
theorem zP{prog:Bl}{w:World}{e:Int×Value}(h:Wx e)(k:Int):(Wk prog w).is k e.2=true↔Na e=k:=by
 obtain ⟨a,b,rfl⟩:=h
 show Value.isInt k (.int a b)=true↔a=k
 simp [Value.isInt]
 try exact eq_comm
theorem small{n:Nat}(h:n<64):n<=Aq:=by rw[Hh]; omega
theorem sG{es:Array (Int×Value)}{ep:Nat}{t:Cj}(a:Array (Int×Value))(t':Cj):Obj.putSet a t' (Kx es ep t)=Kx a (ep+1) t':=putSet_of a t' rfl
theorem aN{h:Heap}{a:Addr}{es:Array (Int×Value)}{ep:Nat}{t:Cj}(c:h.get? a=some (Kx es ep t))(b:Array (Int×Value))(t':Cj):(h.update a (Obj.putSet b t')).get? a=some (Kx b (ep+1) t'):=by
 have:=Eu (Obj.putSet b t') c (by rw[sG]; rfl)
 rw[sG] at this
 exact this
section
variable{prog:Bl}{w:World}{A:Ce}{E:Value->Ai->Prop}{s:Ai}
theorem Ha{a:Addr}{es:Array (Int×Value)}{ep:Nat}{t:Cj}{Q:(Array (Int×Value)×Nat×Cj)->Ai->Prop}(S:SetS w s.heap a es ep t)(h:Q (es,ep,t) s):wpAny (model prog w) A (setState a) Q E s :=
 wpAny_setState_of S.obj rfl S.tab.fits h
theorem Yh{a:Addr}{es b:Array (Int×Value)}{ep:Nat}{t t':Cj}{Q:Unit->Ai->Prop}(S:SetS w s.heap a es ep t)(f:∀e∈b.toList,Wx e)(g:(keys b).Nodup)(d:Tab b.size t')(led:bt w=false->t'.led=true)(c:b.size<64)(h:∀h',Ct a s.heap h'->SetS w h' a b (ep+1) t'->Q () { s with heap:=h' }):wpAny (model prog w) A (storeSet a b t') Q E s :=
 Ub S.obj rfl (h _ (Bo ..) ⟨aN S.obj b t',f,g,d,led,c⟩) (small c)
theorem eU{es:Array (Int×Value)}{k:Int}(c:∀e∈es.toList,Wx e):es.toList.findIdx? (λe=>(Wk prog w).is k e.2)=none↔k∉keys es:=by
 rw[List.findIdx?_eq_none_iff]
 constructor
 ·intro h b
  obtain ⟨e,a,rfl⟩:=Df.mp b
  have:=h e a
  rw[(zP (c e a) _).mpr rfl] at this
  cases this
 ·intro h e b
  cases q:(Wk prog w).is k e.2 with
  | false=>rfl
  | true=>exact absurd (Df.mpr ⟨e,b,(zP (c e b) k).mp q⟩) h
theorem yV{a:Addr}{es:Array (Int×Value)}{ep:Nat}{t:Cj}{k:Int}{B:Tok}{Q:Bool->Ai->Prop}(S:SetS w s.heap a es ep t)(U:es.size<63)(h:∀b p F t' h',Ct a s.heap h'->SetS w h' a p F t'->(keys p).Perm (ins k (keys es))->Q b { s with heap:=h' }):wpAny (model prog w) A (setAddHashed a (.int k B) (hashInt k)) Q E s:=by
 unfold setAddHashed setAddHashedIn
 refine Ck (Aa (Ha S ?_))
 dsimp only
 rw[byScan_of (knd:=Wk prog w) (x:=.int k B) rfl (Uz S.few (by decide)) (U9 S),if_pos rfl]
 unfold setAddByScan
 refine Aa (Aa (Kk (Aa ?_)))
 refine wpAny_setScan_of (knd:=Wk prog w) (k:=k) (intKind_is _ _ _ _) S.obj rfl S.tab.fits (U9 S) ?_
 cases G:es.toList.findIdx? (λe=>(Wk prog w).is k e.2) with
 | some j =>
  dsimp only
  have o:k∈keys es:=Pr λz=>by
   rw[(eU (prog:=prog) (w:=w) S.ent).mpr z] at G
   cases G
  refine Ac (Ac ?_)
  have:=h false es ep t s.heap (Oy a s.heap) S (by unfold ins; rw[if_pos o])
  exact this
 | none =>
  dsimp only
  have o:k∉keys es:=(eU (prog:=prog) (w:=w) S.ent).mp G
  obtain ⟨c,i,P,J,T,f,V,M⟩:=Z0 S.tab (hashInt k) (.int k B)
  rw[P]
  dsimp only
  have l:∀e∈c.toList,Wx e:=λe H=>by
   rcases Aw.mp (J.mem_iff.mp H) with z | z
   ·exact S.ent e z
   ·rw[Al.mp z]; exact ⟨k,B,rfl⟩
  have n:(keys c).Perm (k::keys es):=by
   have:=J.map Na
   rw[Bh] at this
   exact this.trans Et
  have D:(keys c).Nodup:=n.nodup_iff.mpr (Co.mpr ⟨o,S.nd⟩)
  have d:c.size<64:=by omega
  have y:bt w=false->i.led=true:=λz=>by rw[M]; exact S.led z
  refine Aa (m:=(pure ():Sem Unit)) (Ac ?_)
  rw[f.plain,if_pos rfl]
  refine Aa (m:=hashByValue 8 (.int k B)) (Ac ?_)
  simp only[if_true]
  by_cases C:i.tooFull=true
  ·obtain ⟨g,I,O,K,R,q,N⟩:=nV (es:=c) f.plain d
   have u:∀e∈g.toList,Wx e:=λe H=>l e (K.mem_iff.mp H)
   have r:(keys g).Perm (k::keys es):=(K.map Na).trans n
   refine Aa (Ub S.obj rfl ?_ (small d))
   rw[C,if_pos (by decide),O]
   dsimp only
   refine Aa (m:=(pure ():Sem Unit)) (Ac ?_)
   have L:=aN S.obj c i
   refine Aa (Ub L rfl (Ac ?_) (small (by omega)))
   dsimp only
   refine Ac (h true g (ep+1+1) I _ ((Bo s.heap a _).trans (Bo _ a _)) ⟨aN L g I,u,r.nodup_iff.mpr (Co.mpr ⟨o,S.nd⟩),q,λz=>by rw[N,M]; exact S.led z,by omega⟩ ?_)
   unfold ins
   rw[if_neg o]
   exact r
  ·have v:c.size * 5<i.mask * 3:=by
    have : ¬ (i.fill * 5 ≥ i.mask * 3):=λz=>C (by unfold SetTable.tooFull; exact decide_eq_true z)
    have e:i.fill=c.size:=by
     unfold Qp
     rw[f.dum,f.size]
     rfl
    omega
   refine Aa (Ub S.obj rfl ?_ (small d))
   rw[Bool.not_eq_true] at C
   rw[C]
   simp only[Wg,Bw,if_false]
   refine Ac ?_
   dsimp only
   refine Ac (h true c (ep+1) i _ (Bo s.heap a _) ⟨aN S.obj c i,l,D,⟨f,v⟩,y,d⟩ ?_)
   unfold ins
   rw[if_neg o]
   exact n
end
theorem Lm{b:Type}:∀{l:List b} {i:Nat} (h:i<l.length),(l[i]::l.eraseIdx i).Perm l
 | [],_,h=>absurd h (Ka _)
 | a::l,0,h=>Hk _
 | a::l,i+1,h=>by
  have:=Lm (l:=l) (i:=i) (by simpa using h)
  exact (Dk a _ _).trans (Iv a this)
theorem tW{b:Type}(next:Nat->Nat):∀(fuel k:Nat) (left:List b) (out:Array b),left.length=fuel->(pickOrder.go next fuel k left out).toList.Perm (out.toList++left)
 | 0,k,left,out,h=>by
  unfold pickOrder.go
  have : left=[]:=dQ h
  subst this
  simp
 | fuel+1,k,left,out,h=>by
  unfold pickOrder.go
  have a:next k % left.length<left.length:=Uy _ (by omega)
  rw[Bx a]
  dsimp only
  refine (tW next fuel (k+1) _ _ (by rw[List.length_eraseIdx,if_pos a]; omega)).trans ?_
  rw[Il,Bt]
  exact Jn _ (Lm a)
theorem wK{a:Type}(next:Nat->Nat)(xs:Array a):(Vj next xs).toList.Perm xs.toList:=by
 unfold Vj
 simpa using tW next xs.size 0 xs.toList #[] (by simp)
section
variable{prog:Bl}{w:World}{A:Ce}{E:Value->Ai->Prop}{s:Ai}
theorem Rk{Q:Bool->Ai->Prop}(h:Q (bt w) s):wpAny (model prog w) A setsByText Q E s:=by
 unfold setsByText
 exact Aa (Vi (Ac h))
theorem tS{a:Addr}{es:Array (Int×Value)}{ep:Nat}{t:Cj}{Q:Array (Int×Value)->Ai->Prop}(S:SetS w s.heap a es ep t)(h:Q (if bt w then Vj (w.params.setOrder a ep) es else es) s):wpAny (model prog w) A (setWalk a) Q E s:=by
 unfold setWalk
 refine Aa (Ha S ?_)
 dsimp only
 refine Aa (Rk ?_)
 cases f:bt w with
 | true =>
  rw[f] at h
  rw[if_pos rfl] at h ⊢
  exact Aa (Vi (Ac h))
 | false =>
  have n:=S.led f
  have l:=S.tab.plain
  rw[f] at h
  obtain ⟨k,d,b,c,e,i,plain⟩:=t
  have g:e=true:=n
  have j:plain=true:=l
  subst g j
  exact Aa (m:=(pure ():Sem Unit)) (Ac (Ac h))
theorem fW{a:Addr}{es:Array (Int×Value)}{ep:Nat}:(if bt w then Vj (w.params.setOrder a ep) es else es).toList.Perm es.toList:=by
 cases bt w with
 | true=>exact wK _ _
 | false=>exact Hk _
theorem vL{a:Addr}{d:List Addr}{b:Option Addr}{es:Array (Int×Value)}{ep:Nat}{t:Cj}{Q:Array (Int×Value)->Ai->Prop}(S:SetS w s.heap a es ep t)(h:Q (if bt w then Vj (w.params.setOrder a ep) es else es) s) :
  wpAny (model prog w) A (setWalkUnseen a d b) Q E s:=by
 unfold setWalkUnseen
 refine Aa (Ha S ?_)
 dsimp only
 refine Aa (Rk ?_)
 have c:(bt w || (t.led && t.plain) || decide (es.size<=1))=true:=by
  cases e:bt w with
  | true=>rfl
  | false=>rw[S.led e,S.tab.plain]; rfl
 rw[if_pos c]
 exact tS S h
theorem xK{a:Addr}{es:Array (Int×Value)}{ep:Nat}{t:Cj}{wanted:Nat}{Q:Unit->Ai->Prop}(S:SetS w s.heap a es ep t)(hw:wanted<256)(j:es.size * 2<=wanted)(h:∀c t' h',Ct a s.heap h'->SetS w h' a c (ep+1) t'->(keys c).Perm (keys es)->wanted<=t'.mask->7<=t'.mask->Q () { s with heap:=h' }):wpAny (model prog w) A (setRelay a wanted) Q E s:=by
 obtain ⟨t',order,d,l,q,r⟩:=lR (es:=es) S.tab.plain hw j
 obtain ⟨i,f⟩:=qU es l
 obtain ⟨m,o,g,x⟩:=Tj hw
 have mk:t'.mask=m:=by
  unfold SetTable.relaid at d
  rw[(mR d).2.1,o]
  rfl
 have v:7<=t'.mask:=by
  have : 8<=Dt wanted:=by
   have b:∀k:Fin 256,decide (8<=Dt k.1)=true:=by decide +kernel
   exact of_decide_eq_true (b ⟨wanted,hw⟩)
  omega
 have sz:Dt wanted<=256:=by
  have b:∀k:Fin 256,decide (Dt k.1<=256)=true:=by decide +kernel
  exact of_decide_eq_true (b ⟨wanted,hw⟩)
 unfold setRelay
 refine Aa (Ha S ?_)
 dsimp only
 rw[if_neg (by rw[Hh]; omega),d]
 refine Aa ?_
 show wpAny (model prog w) A (do
  if (order.filterMap (es[·]?)).size != es.size then unsupported "internal:set-table-lost-an-element"
  pure (order.filterMap (es[·]?),t')) _ _ _
 rw[if_neg (by rw[f]; simp)]
 refine Ac ?_
 dsimp only
 refine Yh S (λe n=>S.ent e (i.mem_iff.mp n)) ((i.map Na).nodup_iff.mpr S.nd) (by rw[f]; exact q) (λz=>by rw[r]; exact S.led z) (by rw[f]; exact S.few) λh' p u=>?_
 exact h _ _ h' p u (i.map Na) (by omega) v
theorem vR{es a:Array (Int×Value)}(p:(keys a).Perm (keys es)):a.size=es.size:=by
 have:=p.length_eq
 rw[Af,Af,Am,Am] at this
 exact this
theorem L4{a:Addr}{es:Array (Int×Value)}{ep more:Nat}{t:Cj}{Q:Unit->Ai->Prop}(S:SetS w s.heap a es ep t)(i:es.size+more<128)(h:∀b d t' h',Ct a s.heap h'->SetS w h' a b d t'->(keys b).Perm (keys es)->(es.size+more) * 5<t'.mask * 3->Q () { s with heap:=h' }):wpAny (model prog w) A (setRoomFor a more) Q E s:=by
 have e:t.fill=es.size:=by
  unfold Qp
  rw[S.tab.dum,S.tab.size]
  rfl
 unfold setRoomFor
 refine Aa (Ha S ?_)
 dsimp only
 unfold SetTable.roomFor
 rw[e,S.tab.size]
 by_cases c:(es.size+more) * 5 ≥ t.mask * 3
 ·rw[if_pos c]
  dsimp only
  refine xK S (by omega) (by omega) λb t' h' f g p j k=>h b _ t' h' f g p ?_
  omega
 ·rw[if_neg c]
  dsimp only
  exact Ac (h es ep t s.heap (Oy _ _) S (Hk _) (by omega))
end
def Among(U:List Int)(l:List Int):Prop:=∀x∈l,x∈U
theorem len_leI:∀{l1 l2:List Int},l1.Nodup->(∀e∈l1,e∈l2)->l1.length<=l2.length
 | [],_,_,_=>Di _
 | a::l1,l2,nd,h=>by
  have b:=Co.mp nd
  have c:=h a (Ab ..)
  have:=len_leI (l2:=l2.erase a) b.2 λe d=>(List.mem_erase_of_ne (show e≠a from λz=>b.1 (by rw[<- z]; exact d))).mpr (h e (Ad _ d))
  rw[oS c] at this
  have p:0<l2.length:=rM c
  rw[Bm]
  omega
theorem Among.size{U:List Int}{es:Array (Int×Value)}(h:Among U (keys es))(a:(keys es).Nodup):es.size<=U.length:=by
 have:=len_leI a h
 rw[Af,Am] at this
 exact this
theorem rS{x k:Int}{l:List Int}:x∈ins k l↔x=k\/x∈l:=by
 unfold ins
 split
 ·rename_i h
  constructor
  ·exact .inr
  ·rintro (z | z)
   ·rw[z]; exact h
   ·exact z
 ·rw[An]
section
variable{prog:Bl}{w:World}{A:Ce}{E:Value->Ai->Prop}
theorem cN{U:List Int}(O:U.length<=62){a o:Addr}(F:a≠o){C:Array (Int×Value)}{c:Nat}{p:Cj}{each:Sem Unit}
  (D:∀(s:Ai) (Q:Unit->Ai->Prop),SetS w s.heap o C c p->Q () s->wpAny (model prog w) A each Q E s) :
  ∀(l:List (Int×Value)) (s:Ai) (es:Array (Int×Value)) (ep:Nat) (t:Cj) (Q:Unit->Ai->Prop),(∀e∈l,Wx e)->Among U (l.map Na)->Among U (keys es)->SetS w s.heap a es ep t->SetS w s.heap o C c p ->
   (∀g u t' h',Ct a s.heap h'->SetS w h' a g u t'->(∀x,x∈keys g↔x∈keys es\/x∈l.map Na)->Q () { s with heap:=h' }) ->
   wpAny (model prog w) A (forIn l PUnit.unit λ(x:Int×Value) _=>do
    let _ <- Ny [x.2] (setAddHashed a x.2 x.1)
    each
    if (<- setState o).2.1 != c then unsupported "set.changed-during-merge"
    pure (El PUnit.unit)) Q E s
 | [],s,es,ep,t,Q,_,_,_,S,_,h=>by
  rw[Qq]
  exact Ac (h es ep t s.heap (Oy _ _) S (by simp))
 | e::l,s,es,ep,t,Q,he,hl,hk,S,So,h=>by
  obtain ⟨k,V,rfl⟩:=he e (Ab ..)
  rw[Pp]
  have R:=hk.size S.nd
  refine Aa (Aa (Ck (yV S (by omega) λb f B M j i J L=>?_)))
  have d:SetS w j o C c p:=So.keep λT q=>(i.2 o (Ln F)).trans q
  refine Aa (D { s with heap:=j } _ d ?_)
  refine Aa (Ha (s:={ s with heap:=j }) d ?_)
  dsimp only
  rw[if_neg (by simp)]
  refine Ac ?_
  have G:∀x,x∈keys f↔x=k\/x∈keys es:=λx=>by rw[L.mem_iff,rS]
  have r:Among U (keys f):=λx n=>by
   rcases (G x).mp n with z | z
   ·rw[z]; exact hl k (Ab ..)
   ·exact hk x z
  refine cN O F D l { s with heap:=j } f B M Q (λe I=>he e (Ad _ I)) (λx n=>hl x (Ad _ n)) r J d λm y K H v N P=>?_
  refine h m y K H (i.trans v) N λx=>?_
  rw[P,G,Ao,An]
  show (x=k\/x∈keys es)\/x∈l.map Na↔x∈keys es\/x=k\/x∈l.map Na
  constructor
  ·rintro ((z | z) | z)
   ·exact .inr (.inl z)
   ·exact .inl z
   ·exact .inr (.inr z)
  ·rintro (z | z | z)
   ·exact .inl (.inr z)
   ·exact .inl (.inl z)
   ·exact .inr z
end
section
variable{prog:Bl}{w:World}{A:Ce}{E:Value->Ai->Prop}{s:Ai}
theorem lK{U:List Int}(hU:U.length<=62){a o:Addr}(F:a≠o){es c:Array (Int×Value)}{ep f:Nat}{t i:Cj}{each:Sem Unit}{Q:Unit->Ai->Prop}(X:∀(s:Ai) (Q:Unit->Ai->Prop),SetS w s.heap o c f i->Q () s->wpAny (model prog w) A each Q E s)(S:SetS w s.heap a es ep t)(O:SetS w s.heap o c f i)(R:Among U (keys es))(V:Among U (keys c))(h:∀u I t' h',Ct a s.heap h'->SetS w h' a u I t'->(∀x,x∈keys u↔x∈keys es\/x∈keys c)->Q () { s with heap:=h' }):wpAny (model prog w) A (setMerge a o each) Q E s:=by
 have n1:=R.size S.nd
 have n2:=V.size O.nd
 unfold setMerge
 rw[if_neg (by simpa using F)]
 refine Aa (Ha O ?_)
 dsimp only
 by_cases em:c.isEmpty=true
 ·rw[if_pos em]
  have : c=#[]:=by simpa using em
  refine Ac (h es ep t s.heap (Oy _ _) S λx=>?_)
  rw[this]
  simp
 rw[if_neg em]
 refine Aa (L4 S (by omega) λN K d B l g H r1=>?_)
 have b:SetS w B o c f i:=O.keep λob q=>(l.2 o (Ln F)).trans q
 refine Aa (Ha (s:={ s with heap:=B }) g ?_)
 dsimp only
 have z1:=vR H
 have fl:d.fill=es.size:=by
  unfold Qp
  rw[g.tab.dum,g.tab.size]
  exact z1
 have k:d.fill=0->∀x,x∉keys es:=λz x p=>by
  have : es.size=0:=by omega
  have e:es=#[]:=Array.eq_empty_of_size_eq_zero this
  rw[e] at p
  simp at p
 cases m:d.road i with
 | slotForSlot =>
  unfold SetTable.road at m
  split at m
  ·cases m
  ·rename_i M
   have n:d.fill=0:=by simpa using M
   split at m
   ·rename_i Y
    simp only[Fu,beq_iff_eq] at Y
    refine Yh g b.ent b.nd (t':={ i with finger:=d.finger,led:=d.led && i.led,moves:=d.moves,plain:=d.plain && i.plain }) ⟨⟨b.tab.good,b.tab.dum,by show (d.plain && i.plain)=true; rw[g.tab.plain,b.tab.plain]; rfl,b.tab.rise,b.tab.top,b.tab.size⟩,b.tab.room⟩
     (λz=>by show (d.led && i.led)=true; rw[g.led z,b.led z]; rfl) b.few λr j v=>?_
    refine h c _ _ r (l.trans j) v λx=>⟨.inr,λz=>z.elim (λq=>absurd q (k n x)) id⟩
   ·cases m
 | clean =>
  have n:d.fill=0:=by
   unfold SetTable.road at m
   split at m
   ·cases m
   ·rename_i M
    simpa using M
  have sz:(c.map (·.1)).size=c.size:=Vn ..
  obtain ⟨G,order,Z,T,W,q4⟩:=mH (mask:=d.mask) (finger:=d.finger) (moves:=d.moves) (led:=d.led && i.led) g.tab.good (c.map (·.1)) (by rw[sz]; omega)
  rw[sz] at T W
  obtain ⟨P,C⟩:=qU c T
  dsimp only
  have pl:(d.plain && i.plain)=true:=by rw[g.tab.plain,b.tab.plain]; rfl
  rw[pl,Z]
  refine Aa ?_
  show wpAny (model prog w) A (do
   if (order.filterMap (c[·]?)).size != c.size then unsupported "internal:set-table-lost-an-element"
   pure (order.filterMap (c[·]?),G)) _ _ _
  rw[if_neg (by rw[C]; simp)]
  refine Ac ?_
  dsimp only
  refine Yh g (λe L=>b.ent e (P.mem_iff.mp L)) ((P.map Na).nodup_iff.mpr b.nd) (by rw[C]; exact W) (λz=>by rw[q4,g.led z,b.led z]; rfl) (by rw[C]; exact b.few) λr j v=>?_
  refine h _ _ _ r (l.trans j) v λx=>?_
  rw[(P.map Na).mem_iff]
  exact ⟨.inr,λz=>z.elim (λq=>absurd q (k n x)) id⟩
 | oneByOne =>
  dsimp only
  refine Aa (vL (s:={ s with heap:=B }) b ?_)
  have y:=fW (w:=w) (a:=o) (es:=c) (ep:=f)
  generalize (if bt w then Vj (w.params.setOrder o f) c else c)=arr at y
  rw[<- Yb]
  refine Aa (cN hU F X arr.toList { s with heap:=B } N K d _ (λe L=>b.ent e (y.mem_iff.mp L)) (λx p=>V x ((y.map Na).mem_iff.mp p)) (λx p=>R x (H.mem_iff.mp p)) g b λD J G r j v m2=>Ac ?_)
  refine h D J G r (l.trans j) v λx=>?_
  rw[m2,H.mem_iff,(y.map Na).mem_iff]
end
theorem iF:entryFor table "set.__or__" = some Builtin.«frozenset.__or__» :=
 Zs (id' := "frozenset.__or__") (by kernel_rfl) (by first | rfl | decide +kernel) (by decide +kernel) (by kernel_rfl)
theorem Qb:isSubtype (.type "set") (.type "set")=pure true:=by rw[Zq]; kernel_rfl
section
variable{prog:Bl}{w:World}{A:Ce}{E:Value->Ai->Prop}{s:Ai}
theorem SetS.ty{a:Addr}{es:Array (Int×Value)}{ep:Nat}{t:Cj}(S:SetS w s.heap a es ep t):s.TypeIs (.ref a) "set" := ⟨_,S.obj,rfl⟩
theorem fT{h:Heap}:SetS w (h.push (Kx #[] 0 (.fresh 0 0 (!bt w)))) h.objs.size #[] 0 (.fresh 0 0 (!bt w)) :=
 ⟨Ap _ rfl,(λe b=>by simp at b),Ea,⟨⟨W5,rfl,rfl,Ea,(λj a=>by simp [SetTable.fresh] at a),rfl⟩,by show 0 * 5<7 * 3; decide⟩,(λz=>by show (!bt w)=true; rw[z]; rfl),by decide⟩
theorem vJ{Q:Value->Ai->Prop}(h:Q (.ref s.heap.objs.size) { s with heap:=s.heap.push (Kx #[] 0 (.fresh 0 0 (!bt w))) }):wpAny (model prog w) A (newSet (.type "set")) Q E s:=by
 unfold newSet
 refine Aa (Rk ?_)
 dsimp only
 simp only[newObj]
 exact Aa (wpAny_alloc (Ac h))
theorem Yf{a:Addr}{Q:Bool->Ai->Prop}(T:s.TypeIs (.ref a) "set")(h:Q true s):wpAny (model prog w) A (Je (.ref a)) Q E s:=by
 unfold Je
 exact Aa (Gy T Qb (Ac h))
theorem R9{a:Addr}{Q:Value->Ai->Prop}(T:s.TypeIs (.ref a) "set")(h:Q (.type "set") s):wpAny (model prog w) A (Wm a) Q E s:=by
 unfold Wm
 exact Aa (Gy T Qb (Ac h))
theorem sT{h h' c:Heap}{a:Addr}(k:∀b o,h.get? b=some o->h'.get? b=some o)(n:h.get? a=none)(d:Ct a h' c):∀b o,h.get? b=some o->c.get? b=some o:=λb o e =>
 (d.2 b (λz=>by rw[z,n] at e; cases e)).trans (k b o e)
theorem G6{U:List Int}(k:U.length<=62){a:Addr}{es:Array (Int×Value)}{ep:Nat}{t:Cj}{Q:Value->Ai->Prop}(S:SetS w s.heap a es ep t)(g:Among U (keys es))(h:∀c d t' h',(∀b o,s.heap.get? b=some o->h'.get? b=some o)->SetS w h' s.heap.objs.size c d t'->(∀x,x∈keys c↔x∈keys es)->Q (.ref s.heap.objs.size) { s with heap:=h' }):wpAny (model prog w) A (Nk a) Q E s:=by
 have lt:=Au S.obj
 have j:s.heap.objs.size≠a:=Ql lt
 unfold Nk
 refine Aa (R9 S.ty (Aa (vJ ?_)))
 refine Aa (m:=Eh (.ref s.heap.objs.size)) (Ac ?_)
 refine Aa (lK (s:={ s with heap:=s.heap.push (Kx #[] 0 (.fresh 0 0 (!bt w))) }) k j (each:=pure ()) (λp n _ q=>Ac q) fT (S.keep λo q=>Ah _ q) (λx l=>by simp at l) g λc d t' h' i f m=>Ac ?_)
 exact h c d t' h' (sT (λb o e=>Ah _ e) (Wd (Aj _)) i) f λx=>by rw[m]; simp
theorem DP{U:List Int}(D:U.length<=62){a b:Addr}(S:a≠b){u j:Array (Int×Value)}{p f:Nat}{I C:Cj}{Q:Value->Ai->Prop}(g:SetS w s.heap a u p I)(k:SetS w s.heap b j f C)(B:Among U (keys u))(P:Among U (keys j))(h:∀e n t' h',(∀c o,s.heap.get? c=some o->h'.get? c=some o)->SetS w h' s.heap.objs.size e n t'->(∀x,x∈keys e↔x∈keys u\/x∈keys j)->Q (.ref s.heap.objs.size) { s with heap:=h' }):wpAny (model prog w) A (Jb .BitOr (.ref a) (.ref b)) Q E s:=by
 refine wpAny_binaryOp_same (id := "set.__or__") g.ty k.ty PySem.F.fills_set_or PySem.F.slot_set_or (Cn PySem.F.slot_set_or g.ty iF ?_ (PySem.F.args_set_or_2 _ _))
 show wpAny (model prog w) _ (do
  let (self,other) <- Xt "__or__" ⟨[.ref a,.ref b],[]⟩
  let (l,r):=(self,other)
  if !(<- Je l <&&> Je r) then rule s!"frozenset.{"__or__"}.declined"; return <- ret .notImplemented
  ret (<- (do
   let result <- Nk (<- Eh l)
   if r != .ref (<- Eh l) then Ny [result] (Ma s!"frozenset.{"__or__"}" (<- Eh result) r)
   return result))) _ _ _
 refine Aa (m:=Xt "__or__" ⟨[.ref a,.ref b],[]⟩) (Ja (a:=(Ay a,Ay b)) rfl ?_)
 dsimp only
 refine Aa (Aa (Yf g.ty ?_))
 refine Yf k.ty ?_
 simp only[Sm,Bw,if_false]
 refine Aa (Aa (m:=Eh (.ref a)) (Ac (Aa (G6 D g B λe1 X Y i y L G=>?_))))
 have J:s.heap.objs.size≠b:=Ql (Au k.obj)
 have V:s.heap.get? s.heap.objs.size=none:=Wd (Aj _)
 have d:SetS w i b j f C:=k.keep λo q=>y b o q
 refine Aa (m:=Eh (.ref a)) (Ac ?_)
 rw[if_pos (show (Ay b != Ay a)=true by simpa using Ln S)]
 refine Aa (m:=Eh (.ref s.heap.objs.size)) (Ac (Aa (Ck ?_)))
 unfold Ma
 refine Aa (Yf (s:={ s with heap:=i }) (w:=w) d.ty ?_)
 rw[if_pos rfl]
 refine Aa (m:=Eh (.ref b)) (Ac ?_)
 unfold Builtin.Frozenset.merge setEpoch
 refine Aa (Aa (Ha (s:={ s with heap:=i }) d (Ac ?_)))
 refine lK (s:={ s with heap:=i }) D J (λZ Q' v W=>?_) L d (λx K=>B x ((G x).mp K)) P λR O M H t N T=>?_
 ·unfold Builtin.Frozenset.unchanged setEpoch
  refine Aa (Aa (Ha v (Ac ?_)))
  dsimp only
  rw[if_neg (by simp)]
  exact Ac W
 ·refine Ac (Ac ⟨_,rfl,(λz=>nomatch z),h R O M H (sT y V t) N λx=>by rw[T,G]⟩)
end
end NdS
namespace NdS
open PySem PyProof.Rows
section
variable{prog:Bl}{w:World}{A:Ce}{R:Result->Ai->Prop}
theorem cR{U:List Int}(hU:U.length<=62){a it l:Addr}(G:a≠it)(n2:a≠l)(X:l≠it){c:Array Value}{ns:List Int}(M:Ez c.toList ns)(hN:Among U ns)(hh:A.in1.handled=none):∀(k i:Nat) (s:Ai) (es:Array (Int×Value)) (ep:Nat) (t:Cj),c.size - i=k->i<=c.size->s.heap.IsTupleIter it l i->s.heap.IsTuple l c->SetS w s.heap a es ep t->Among U (keys es)->(∀h D t' h' p,(∀b o,b≠a->b≠it->s.heap.get? b=some o->h'.get? b=some o)->SetS w h' a h D t'->(∀x,x∈keys h↔x∈keys es\/x∈ns.drop i)->R (.ok (.ret .none)) { s with heap:=h',toks:=p })->Hb (model prog w) A (.builtin "set.update.loop" ⟨[.ref a,.ref it],[]⟩) R s:=by
 have len:ns.length=c.size:=by rw[<- M.length,Am]
 intro k
 induction k with
 | zero =>
  intro i s es ep t T Z g n S y B
  have e:i=c.size:=by omega
  refine Fw Sk ?_
  rw[Fs Jx _]
  show wpAny _ A.in1 (Hi (.ref it) >>= _) _ _ s
  refine Aa (E2 hh g n (by rw[e]; simp) λh' x=>?_)
  refine Ac (B es ep t h' s.toks (λb o _ q e=>x b o q e) (S.keep λo q=>x a o G q) λx=>?_)
  rw[e,<- len,List.drop_length]
  simp
 | succ k P =>
  intro i s es ep t T Z g n S y B
  have lt:i<c.size:=by omega
  have lt':i<ns.length:=by omega
  obtain ⟨p,N⟩:=IntsAre.int_at M i c[i] (by simp [lt])
  have eg:ns.getD i 0=ns[i]:=by simp [List.getD,lt']
  rw[eg] at N
  refine Fw Sk ?_
  rw[Fs Jx _]
  show wpAny _ A.in1 (Hi (.ref it) >>= _) _ _ s
  refine Aa (C8 g n (x:=c[i]) (by simp [lt]) λK m f=>?_)
  rw[N]
  show wpAny _ A.in1 (Ny [Lb ns[i] p] (setAdd a (.int ns[i] p)) >>= _) _ _ _
  refine Aa (Ck ?_)
  unfold setAdd
  refine Ck (Aa ((Wk prog w).pyHash (k:=ns[i]) (intKind_is _ _ _ _) ?_))
  have H:SetS w K a es ep t:=S.keep λo q=>(f.2 a G).trans q
  have z:=y.size H.nd
  refine yV (s:={ s with heap:=K,toks:=s.toks+1 }) H (by omega) λb j E t2 O d S2 p2=>?_
  have L:∀x,x∈keys j↔x=ns[i]\/x∈keys es:=λx=>by rw[p2.mem_iff,rS]
  refine Ac ⟨Px Jx _,?_⟩
  refine P (i+1) { s with heap:=O,toks:=s.toks+1 } j E t2 (by omega) lt ?_ ?_ S2 (λx Y=>?_) λu C W h3 v V S3 Q=>?_
  ·obtain ⟨o,F,r⟩:=m
   exact ⟨o,(d.2 it (Ln G)).trans F,r⟩
  ·obtain ⟨o,F,r⟩:=n
   exact ⟨o,(d.2 l (Ln n2)).trans ((f.2 l X).trans F),r⟩
  ·rcases (L x).mp Y with q | q
   ·rw[q]; exact hN _ (List.getElem_mem lt')
   ·exact y x q
  ·refine B u C W h3 v (λb o I J e=>V b o I J ((d.2 b I).trans ((f.2 b J).trans e))) S3 λx=>?_
   rw[Q,L,Rm lt',An]
   constructor
   ·rintro ((q | q) | q)
    ·exact .inr (.inl q)
    ·exact .inl q
    ·exact .inr (.inr q)
   ·rintro (q | q | q)
    ·exact .inl (.inr q)
    ·exact .inl (.inl q)
    ·exact .inr q
end
section
variable{prog:Bl}{w:World}{A:Ce}{E:Value->Ai->Prop}{s:Ai}
theorem yA(v:Value){Q:Value->Ai->Prop}(h:Q (.ref s.heap.objs.size) { s with heap:=s.heap.push (Kx #[] 0 (.fresh 0 0 (!bt w))) }):Hb (model prog w) A (.call (.builtin "set.__new__") ⟨[.type "set",v],[]⟩) (wants Q E) s:=by
 have sub:=Qb
 obtain ⟨b,g,d,a,os⟩:=s
 refine Xq (show wpAny _ A.in1 (do checkBuiltinCall "set.__new__" ⟨[.type "set",v],[]⟩; again (.builtin "set.__new__" ⟨[.type "set",v],[]⟩)) _ _ _ from ?_)
 refine Aa (Ja (PySem.F.newCall_set_1 v) (Ac ⟨Px PySem.F.plain_set_new _,Fw PySem.F.entry_set_new ?_⟩))
 rw[Fs PySem.F.plain_set_new _]
 unfold Builtin.«set.__new__» Builtin.Frozenset.newClass
 dsimp only
 wp_walk
 refine Vi (Ac ?_)
 dsimp only
 simp only[newObj]
 exact Aa (wpAny_alloc (Ac (Ac h)))
theorem O4{U:List Int}(W:U.length<=62){l:Addr}{a:Array Value}{ns:List Int}{Q:Value->Ai->Prop}(hh:A.handled=none)(N:s.heap.IsTuple l a)(Z:Ez a.toList ns)(hN:Among U ns)(h:∀es ep t h' f,(∀b o,s.heap.get? b=some o->h'.get? b=some o)->SetS w h' s.heap.objs.size es ep t->(∀x,x∈keys es↔x∈ns)->Q (.ref s.heap.objs.size) { s with heap:=h',toks:=f }):wpAny (model prog w) A (call (.type "set") [.ref l]) Q E s:=by
 obtain ⟨c,tl,D⟩:=PySem.F.called_set.mro
 have i:=PySem.F.called_set.made
 have H:=PySem.F.called_set.sub
 have h1:=PySem.F.called_set.notType
 have h2:=PySem.F.called_set.canCreate
 have P:=PySem.F.typeCall_set_1 (.ref l)
 refine wpAny_call (Xq (show wpAny _ _ (callAny (.type "set") _) _ _ _ from ?_))
 refine Ac ⟨Code.quiet_builtin _ (by decide +kernel),Fw PySem.F.entry_type_call ?_⟩
 rw[Around.under_plain (weight_type_call_type "set" [.ref l] []) rfl]
 repeat (any_goals (first | assumption | wp_step))
 refine Nz (yA (.ref l) (E:=E) (Q:=λv K=>v=.ref s.heap.objs.size/\K={ s with heap:=s.heap.push (Kx #[] 0 (.fresh 0 0 (!bt w))) }) ⟨rfl,rfl⟩) λr K d=>?_
 rcases r with e | (_ | _ | _ | v)
 ·exact d
 ·exact d.elim
 ·exact d.elim
 ·exact d.elim
 obtain ⟨rfl,rfl⟩:=d
 have J:=fT (w:=w) (h:=s.heap)
 have S:Shared.TypeIs { s with heap:=s.heap.push (Kx #[] 0 (.fresh 0 0 (!bt w))) } (.ref s.heap.objs.size) "set" := ⟨_,J.obj,rfl⟩
 have h0:=PySem.F.called_set.init.lookup
 have V:=PySem.F.called_set.init.bind (.ref s.heap.objs.size)
 repeat (any_goals (first | assumption | wp_step))
 refine Nz (codeAny_call_builtin (R:=wants (λr C=>r=.none/\∃es ep t h' f,C={ s with heap:=h',toks:=f }/\(∀b o,s.heap.get? b=some o->h'.get? b=some o)/\SetS w h' s.heap.objs.size es ep t/\∀x,x∈keys es↔x∈ns) E)
  PySem.F.called_set.init.plain PySem.F.entry_set_init (check_set_init_1 S ?_)) λr C d=>?_
 ·obtain ⟨⟨T,od,m,Y⟩,I,L,n,X⟩:=id N
  have p:T=.type "tuple" := L
  have y:m=.seq a n:=X
  subst p y
  have g:=Ah (Kx #[] 0 (.fresh 0 0 (!bt w))) I
  have k:(s.heap.push (Kx #[] 0 (.fresh 0 0 (!bt w)))).IsTuple l a:=⟨_,g,rfl,n,rfl⟩
  have f1:=PySem.F.sub_tuple_set
  have f2:=PySem.F.sub_tuple_frozenset
  have f3:(Gd "tuple" == Gd "dict")=false:=by decide
  have lt:=Au I
  unfold Builtin.«set.__init__» noKeywords Ma
  generalize u:Zo=PI
  wp_walk
  subst u
  refine wpAny_pyIter_tuple k (Aa (wpAny_runValue ?_))
  have sz:(s.heap.push (Kx #[] 0 (.fresh 0 0 (!bt w)))).objs.size=s.heap.objs.size+1:=Fc _ _
  have O:((s.heap.push (Kx #[] 0 (.fresh 0 0 (!bt w)))).push { cls:=.type "tuple_iterator",data:=.fields #[.ref l,.int 0 0] }).get? (s.heap.push (Kx #[] 0 (.fresh 0 0 (!bt w)))).objs.size=some { cls:=.type "tuple_iterator",data:=.fields #[.ref l,.int 0 0] }:=Ap _ rfl
  refine cR W (by rw[sz]; exact Bu (Tb _)) (Ql lt) (by rw[sz]; exact Bu (Fg lt)) Z hN (by simp [hh]) (a.size - 0) 0 _ #[] 0 (.fresh 0 0 (!bt w)) rfl (Di _) ⟨_,O,rfl,rfl⟩ ⟨_,Ah _ g,rfl,n,rfl⟩
   (J.keep λo q=>Ah _ q) (λx M=>by simp at M) λes ep t h' f B j z=>?_
  refine Ac (Ac ⟨rfl,es,ep,t,h',f,rfl,λb o e=>?_,j,λx=>?_⟩)
  ·have G:=Au e
   exact B b o (Bu G) (by rw[sz]; exact Bu (Fg G)) (Ah _ (Ah _ e))
  ·rw[z,Wc]
   simp
 ·rcases r with e | (_ | _ | _ | v)
  ·exact d
  ·exact d.elim
  ·exact d.elim
  ·exact d.elim
  obtain ⟨rfl,es,ep,t,h',f,rfl,B,j,z⟩:=d
  repeat (any_goals (first | assumption | wp_step))
  exact h es ep t h' f B j z
end
theorem Ut:Slot "set_iterator" "__next__" "set_iterator.__next__" :=
 .of (owner := "set_iterator") (n := "__next__") (by rw[Xp,Pm]; kernel_rfl) (by decide +kernel) (by decide +kernel) (by decide +kernel) (by first | exact .inl (by decide +kernel) | exact .inr (by decide +kernel)) (by rw[Zq]; kernel_rfl)
theorem cB:entryFor table "set_iterator.__next__" = some Builtin.«set_iterator.__next__»:=entryFor_of_tree (by kernel_rfl)
theorem fH(a:Value):argsOk "set_iterator.__next__" ⟨[a],[]⟩:=by unfold argsOk; kernel_rfl
theorem pC:entryFor table "set.__iter__" = some Builtin.«frozenset.__iter__» :=
 Zs (id' := "frozenset.__iter__") (by kernel_rfl) (by first | rfl | decide +kernel) (by decide +kernel) (by kernel_rfl)
abbrev rV(f i:Nat)(a:Addr)(n ep:Nat):Obj:={ cls:=.type "set_iterator",data:=.fields #[Er f,Er i,.ref a,Er n,Er ep] }
def arrOf(w:World)(a:Addr)(ep:Nat)(es:Array (Int×Value)):Array (Int×Value):=if bt w then Vj (w.params.setOrder a ep) es else es
theorem B1{w:World}{a:Addr}{ep:Nat}{es:Array (Int×Value)}:(arrOf w a ep es).toList.Perm es.toList:=fW
theorem Rc{w:World}{a:Addr}{ep:Nat}{es:Array (Int×Value)}:(arrOf w a ep es).size=es.size:=by
 have:=(B1 (w:=w) (a:=a) (ep:=ep) (es:=es)).length_eq
 rw[Am,Am] at this
 exact this
def oF(w:World)(I a:Addr)(es:Array (Int×Value))(ep:Nat)(t:Cj)(i:Nat)(h:Heap):Prop :=
 (∃f,h.get? I=some (rV f i a es.size ep)/\(bt w=false->Cm t.place f=i))/\SetS w h a es ep t
section
variable{prog:Bl}{w:World}{A:Ce}{E:Value->Ai->Prop}{s:Ai}
theorem L9{a:Addr}{es:Array (Int×Value)}{ep:Nat}{t:Cj}{Q:Value->Ai->Prop}(S:SetS w s.heap a es ep t)(h:Q (.ref s.heap.objs.size) { s with heap:=s.heap.push (rV 0 0 a es.size ep) }):wpAny (model prog w) A (Zo (.ref a)) Q E s:=by
 refine Uc S.ty PySem.F.slot_set_iter (Cn PySem.F.slot_set_iter S.ty pC ?_ (PySem.F.args_set_iter_1 _))
 unfold Builtin.«frozenset.__iter__»
 refine Aa (m:=Builtin.Frozenset.slot0 "__iter__" ⟨[.ref a],[]⟩) (Ja (a:=a) rfl ?_)
 unfold Builtin.Frozenset.sizeOf dO setDrawn setEpoch
 refine Aa (Aa (Aa (Ha S (Ac (Ac ?_)))))
 refine Aa (Aa (Ha S ?_))
 dsimp only
 refine Aa (Rk (Ac ?_))
 have o:=S.tab.plain
 have b:wpAny (model prog w) A.in1 (do
   let first <- (pure (Er 0):Sem Value)
   ret (<- newFields "set_iterator" [first,Er 0,.ref a,Er es.size,Er (<- (do return (<- setState a).2.1))])) (λi k=>∃v,i=.done (.ret v)/\∃l r,k.TypeIs v l/\dJ (.type l) "__next__" = pure (some r)/\Q v k) E s:=by
  refine Aa (Ac ?_)
  refine Aa (Aa (Ha S (Ac ?_)))
  refine Aa (Ca (Ac ⟨_,rfl, "set_iterator",_,⟨_,Ap _ rfl,rfl⟩,Ut.lookup,h⟩))
 obtain ⟨j,e,c,d,n,g,plain⟩:=t
 have f:plain=true:=o
 subst f
 cases p:bt w with
 | true=>exact b
 | false=>exact b
theorem cK{a:Addr}{es:Array (Int×Value)}{ep f i:Nat}{t:Cj}{Q:Option (Value×Nat)->Ai->Prop}(S:SetS w s.heap a es ep t)(D:bt w=false->Cm t.place f=i)(u:∀(b:i<es.size) y,(bt w=false->Cm t.place y=i+1)->Q (some (((arrOf w a ep es)[i]'(by rw[Rc]; exact b)).2,y)) s)(r:es.size<=i->Q none s):wpAny (model prog w) A (setNext a f i ep) Q E s:=by
 unfold setNext
 refine Aa (Ha S ?_)
 dsimp only
 refine Aa (Rk ?_)
 cases k:bt w with
 | true =>
  rw[if_pos rfl,if_neg (by simp)]
  refine Aa (tS S (Ac ?_))
  show Q (((arrOf w a ep es)[i]?).map λe=>(e.2,f)) s
  by_cases b:i<es.size
  ·rw[Ig (by rw[Rc]; exact b)]
   exact u b f (λz=>by rw[k] at z; cases z)
  ·rw[Mu (by rw[Rc]; omega)]
   exact r (by omega)
 | false =>
  have C:=S.led k
  have B:=S.tab.plain
  have g:wpAny (model prog w) A (pure (match es[Cm t.place f]?,t.place[Cm t.place f]? with
    | some (_,x),some j=>some (x,j+1)
    | _,_=>none):Sem (Option (Value×Nat))) Q E s:=by
   rw[D k]
   by_cases b:i<es.size
   ·have c:i<t.place.size:=by rw[S.tab.size]; exact b
    rw[Ig b,Ig c]
    refine Ac ?_
    have:=u b (t.place[i]+1) (λ_=>rB S.tab.rise c)
    have e:arrOf w a ep es=es:=by unfold arrOf; rw[k]; rfl
    simp only[e] at this
    exact this
   ·rw[Mu (by omega)]
    exact Ac (r (by omega))
  obtain ⟨v,n,d,h,l,p,plain⟩:=t
  have o:l=true:=C
  have q:plain=true:=B
  subst o q
  exact Aa (m:=(pure ():Sem Unit)) (Ac g)
theorem xF{I a:Addr}{es:Array (Int×Value)}{ep:Nat}{t:Cj}{i:Nat}{Q:Option Value->Ai->Prop}(st:oF w I a es ep t i s.heap)(j:a≠I)(g:i<es.size)(h:∀h',oF w I a es ep t (i+1) h'->Ct I s.heap h'->Q (some ((arrOf w a ep es)[i]'(by rw[Rc]; exact g)).2) { s with heap:=h' }):wpAny (model prog w) A (Hi (.ref I)) Q E s:=by
 obtain ⟨⟨f,b,k⟩,S⟩:=st
 have T:s.TypeIs (.ref I) "set_iterator" := ⟨_,b,rfl⟩
 unfold Hi
 refine Aa (Ic (Cu (name:=Dq "__next__") T Ut (Cn Ut T cB ?_ (fH _))))
 unfold Builtin.«set_iterator.__next__»
 refine Aa (m:=slotArgs "__next__" 0 ⟨[.ref I],[]⟩) (Ja (a:=(Ay I,[])) rfl ?_)
 dsimp only
 refine Aa (Nx b rfl ?_)
 show wpAny (model prog w) A.in1 (do
  if (((<- dO a).size:Nat):Int) != (es.size:Int) then
   rule "set_iterator.__next__.size-changed"
   Mp (.ref I) 3 (Er (-1))
   raiseError "RuntimeError" "Set changed size during iteration"
  match <- setNext a (f:Int).toNat (i:Int).toNat (ep:Int).toNat with
  | some (x,next) =>
   Mp (.ref I) 0 (Er next)
   Mp (.ref I) 1 (Er ((i:Int)+1))
   ret x
  | none=>Mp (.ref I) 2 .none; raiseNew (<- newExc (.type "StopIteration") [])) _ _ _
 unfold dO
 refine Aa (Aa (Ha S (Ac ?_)))
 rw[if_neg (by simp)]
 simp only[Hg]
 refine Aa (cK S k (λ_ d c=>?_) (λz=>absurd g (by omega)))
 dsimp only
 refine Aa (Lx b rfl (by simp) ?_)
 have e:(s.heap.update I (Oq (·.setIfInBounds 0 (Er d)))).get? I=some (rV d i a es.size ep):=Eu _ b rfl
 refine Aa (Lx e rfl (by simp) (Ac ⟨_,rfl,Ac (h _ ⟨⟨d,?_,c⟩,?_⟩ ((Bo ..).trans (Bo ..)))⟩))
 ·exact Eu _ e rfl
 ·refine S.keep λo q=>?_
  exact ((Bo _ _ _).2 a j).trans (((Bo _ _ _).2 a j).trans q)
theorem j3{I a:Addr}{es:Array (Int×Value)}{ep:Nat}{t:Cj}{Q:Option Value->Ai->Prop}(e:A.handled=none)(st:oF w I a es ep t es.size s.heap)(h:∀h',We I s.heap h'->Q none { s with heap:=h' }):wpAny (model prog w) A (Hi (.ref I)) Q E s:=by
 obtain ⟨⟨f,c,d⟩,S⟩:=st
 have T:s.TypeIs (.ref I) "set_iterator" := ⟨_,c,rfl⟩
 unfold Hi
 refine Aa (Ic (Cu (name:=Dq "__next__") T Ut (Cn Ut T cB ?_ (fH _))))
 unfold Builtin.«set_iterator.__next__»
 refine Aa (m:=slotArgs "__next__" 0 ⟨[.ref I],[]⟩) (Ja (a:=(Ay I,[])) rfl ?_)
 dsimp only
 refine Aa (Nx c rfl ?_)
 show wpAny (model prog w) A.in1 (do
  if (((<- dO a).size:Nat):Int) != (es.size:Int) then
   rule "set_iterator.__next__.size-changed"
   Mp (.ref I) 3 (Er (-1))
   raiseError "RuntimeError" "Set changed size during iteration"
  match <- setNext a (f:Int).toNat (es.size:Int).toNat (ep:Int).toNat with
  | some (x,next) =>
   Mp (.ref I) 0 (Er next)
   Mp (.ref I) 1 (Er ((es.size:Int)+1))
   ret x
  | none=>Mp (.ref I) 2 .none; raiseNew (<- newExc (.type "StopIteration") [])) _ _ _
 unfold dO
 refine Aa (Aa (Ha S (Ac ?_)))
 rw[if_neg (by simp)]
 simp only[Hg]
 refine Aa (cK S d (λz _ _=>absurd z (Fo _)) (λ_=>?_))
 dsimp only
 refine Aa (Lx c rfl (by simp) (Aa ?_))
 simp only[newExc,newTuple]
 refine Aa (Ca ?_ (by size_fits))
 refine Aa (m:=Jv _ _) (Ja (a:=Fp) (by first | rfl | (simp only[Jv]; rfl)) (Ca ?_ (by size_fits)))
 simp only[raiseNew]
 refine Aa (wpAny_handled ?_)
 rw[show A.in1.handled=none from e]
 refine Aa (Ac (wpAny_throw ?_))
 refine Aa (Gy (T := "StopIteration") (b:=true) ⟨_,Ap _ rfl,rfl⟩ Zr ?_)
 exact Ac (h _ (((Bo ..).extBut.push _).push _))
end
theorem fA:Slot "set_iterator" "__iter__" "set_iterator.__iter__" :=
 .of (owner := "set_iterator") (n := "__iter__") (by rw[Xp,Pm]; kernel_rfl) (by decide +kernel) (by decide +kernel) (by decide +kernel) (by first | exact .inl (by decide +kernel) | exact .inr (by decide +kernel)) (by rw[Zq]; kernel_rfl)
theorem qY:entryFor table "set_iterator.__iter__" = some Builtin.«dict_keyiterator.__iter__» :=
 Zs (id' := "dict_keyiterator.__iter__") (by kernel_rfl) (by first | rfl | decide +kernel) (by decide +kernel) (by kernel_rfl)
theorem vG(a:Value):argsOk "set_iterator.__iter__" ⟨[a],[]⟩:=by unfold argsOk; kernel_rfl
section
variable{prog:Bl}{w:World}{A:Ce}{E:Value->Ai->Prop}{s:Ai}
theorem xE(p:A.handled=none){I a:Addr}(u:a≠I)(es:Array (Int×Value))(ep:Nat)(t:Cj):Walks prog w A I [I,a] [I] es.size (λi v=>∃e,(arrOf w a ep es)[i]? = some e/\v=e.2) (λi h=>oF w I a es ep t i h) where
 sub:=λb c=>by simp at c; simp [c]
 frame:=λi h g ⟨⟨f,k,n⟩,S⟩ m=>⟨⟨f,m I (by simp) _ k,n⟩,S.keep λo q=>m a (by simp) o q⟩
 item:=λi s Q E l st d=>xF st u l λg j r=>d _ g s.toks ⟨_,Ig (by rw[Rc]; exact l),rfl⟩ j λb o c e=>(r.2 b (λz=>c (by simp [z]))).trans e
 done:=λs Q E st d=>j3 p st λg x=>d g s.toks λb o c e=>x b o (λz=>c (by simp [z])) e
 self:=λi s Q E st d=>by
  obtain ⟨⟨f,k,n⟩,S⟩:=st
  have T:s.TypeIs (.ref I) "set_iterator" := ⟨_,k,rfl⟩
  refine Uc T fA (Cn fA T qY ?_ (vG _))
  exact Ac ⟨_,rfl, "set_iterator",_,T,Ut.lookup,d⟩
theorem yE{r:Addr}{Q:Bool->Ai->Prop}(c:s.TypeIs (.ref r) "set")(h:Q false s):wpAny (model prog w) A (Ya (.ref r)) Q E s:=by
 unfold Ya
 refine Aa (wpAny_specialOf c PySem.F.slot_set_len.lookup ?_)
 generalize a:("set.__len__" : String)=id0
 wp_delta
 rw[show splitId id0=some ("set", "__len__") from by subst a; decide +kernel]
 subst a
 refine Aa (Gy (T := "set") (b:=true) c Qb ?_)
 refine wpAny_ite_split (λz=>absurd z (by decide)) (λ_=>wpAny_ite_split (λ_=>?_) (λz=>absurd (by decide +kernel) z))
 exact Aa (Hv c (Ac h))
theorem J5(a:Addr)(es:Array (Int×Value))(ep:Nat)(t:Cj):PySem.W.KdlSrc prog w "set" a a es.size (λi v=>∃e,(arrOf w a ep es)[i]? = some e/\v=e.2) (λh=>SetS w h a es ep t) where
 type:=λs S=>S.ty
 there:=λh S=>⟨Au S.obj,Au S.obj⟩
 keep:=λh c S k=>S.keep λo q=>k a (.inl rfl) o q
 notList:=by decide
 notTuple:=by decide
 hint:=λA E s Q S h=>yE S.ty h
 iter:=λA s b S=>by
  have lt:=Au S.obj
  refine ⟨rV 0 0 a es.size ep,λi h=>oF w s.heap.objs.size a es ep t i h,λE Q h=>L9 S h,?_,⟨⟨0,Ap _ rfl,λ_=>lD S.tab.rise⟩,S.keep λo q=>Ah _ q⟩⟩
  exact xE b (Bu lt) es ep t
theorem eQ{a:Array (Int×Value)}(d:∀e∈a.toList,Wx e){b:Array Value}(h:ItemsOf (λi v=>∃e,a[i]? = some e/\v=e.2) b a.size):Ez b.toList (a.toList.map Na):=by
 have n:∀(l:List (Int×Value)) (vs:List Value),(∀e∈l,Wx e)->vs.length=l.length->(∀(j:Nat) v,vs[j]? = some v->∃e,l[j]? = some e/\v=e.2)->Ez vs (l.map Na):=by
  intro l
  induction l with
  | nil =>
   intro vs _ c _
   cases vs with
   | nil=>exact .nil
   | cons v vs=>cases c
  | cons e l q =>
   intro vs d c o
   cases vs with
   | nil=>cases c
   | cons v vs =>
    obtain ⟨k,r,rfl⟩:=d e (Ab ..)
    obtain ⟨s,g,f⟩:=o 0 v rfl
    cases g
    subst f
    exact .cons k r (q vs (λe p=>d e (Ad _ p)) (by simpa using c) λj u m=>o (j+1) u (by simpa using m))
 refine n a.toList b.toList d (by rw[Am,Am]; exact h.1) λj v m=>?_
 obtain ⟨e,g,f⟩:=h.2 j v (by rw[<- Fh]; exact m)
 exact ⟨e,by rw[Fh]; exact g,f⟩
theorem qE{a:Addr}{es:Array (Int×Value)}{ep:Nat}{t:Cj}{Q:Value->Ai->Prop}(D:A.handled=none)(S:SetS w s.heap a es ep t)(h:∀(p:Addr) (out:Array Value) (ns:List Int) (n:Nat) (d h':Heap) (j:Nat),Ez out.toList ns->ns.Perm (keys es)->ns.Pairwise (·<=·)->(∀b o,s.heap.get? b=some o->d.get? b=some o)->d.objs.size<=p->(∀b o,d.get? b=some o->h'.get? b=some o)->h'.get? p=some (Ej "list" out n)->Q (.ref p) { s with heap:=h',toks:=j }):wpAny (model prog w) A (call (.builtin "sorted") [.ref a]) Q E s:=by
 refine Qx kind_sorted plain_sorted entry_sorted (args_sorted1 _) ?_
 unfold Xw
 refine Aa (m:=checkCount "sorted" 1 1 _) (Ac (Aa (PySem.W.kdu_collect (A:=A.in1) (J5 a es ep t) D S (small S.few) λd j c u f=>?_)))
 have g:ItemsOf (λi v=>∃e,(arrOf w a ep es)[i]? = some e/\v=e.2) c (arrOf w a ep es).size:=by rw[Rc]; exact f
 have C:=eQ (λe y=>S.ent e (B1.mem_iff.mp y)) g
 have len:c.toList.length<64:=by rw[Am,f.1]; exact S.few
 refine Aa (Uw ?_ (Cg (Jw len) (by rw[Hh]; decide)))
 have k:(d.push (Ej "list" c.toList.toArray 0)).get? d.objs.size=some (Ej "list" c.toList.toArray 0):=Ap _ rfl
 refine Aa (Ck (Cn slot_list_sort ⟨_,k,rfl⟩ entry_list_sort (list_sort_tree (s:={ s with heap:=d.push (Ej "list" c.toList.toArray 0),toks:=j }) k C len λout l x F r=>⟨_,rfl,?_⟩) (args_list_sort _)))
 refine Ac ⟨_,rfl,?_⟩
 have G:=Mx k (λ_=>#[])
 have z:=Ah (Ej "list" #[] 0) (Ah (Ej "tuple" c.toList.toArray 0) G)
 have B:=Mx z (λ_=>out)
 refine h d.objs.size out l _ d _ j x (F.trans (B1.map Na)) r u (Aj _) (λb o e=>?_) B
 have q:b≠d.objs.size:=Bu (Au e)
 exact ((Bo _ _ _).2 b q).trans (Ah _ (Ah _ (((Bo _ _ _).2 b q).trans (Ah _ e))))
end
end NdS
namespace Nd
open PySem PySem.Spec PyProof.Rows L2 NdS
def zK(w:World)(a:Addr)(ks:List Int)(h:Heap):Prop:=∃b c t,SetS w h a b c t/\∀x,x∈keys b↔x∈ks
abbrev Ys(w:World)(a:Addr)(ks:List Int):HO:=.ext (zK w a ks)
theorem sH{P:Bl}{w c:World}{H:Hp}{h:Heap}{a:Addr}{ks:List Int}(e:zK w a ks h):Hl P c H h a (Ys w a ks) :=
 ⟨e,let ⟨_,_,_,S,_⟩:=e; ⟨_,S.obj⟩,λg f ⟨d,b,t,S,m⟩ k=>⟨d,b,t,S.keep λo q=>k o q,m⟩⟩
theorem cU{P:Bl}{w:World}{H:Hp}{h:Heap}{a:Addr}{ks:List Int}(ok:Vh P w H h)(e:H a=some (Ys w a ks)):zK w a ks h :=
 (show Hl P w H h a (Ys w a ks) from ok a _ e).1
section
variable{X:Cx}
def AK(w:World)(K:PySem.W.Frag):List V->Hp->VK->Prop:=λc H Q=>∃(a:Addr) (b U:List Int),c=[.ref a]/\Ta K H a (b.map V.int)/\U.length<=62/\Among U b/\∀p,H p=none->Q (.ref p) (upd H p (Ys w p b))
theorem bF(d:X.calm=true):Mf X (.type "set") (AK X.w X.K):=by
 intro c s z H E B Q I r h
 obtain ⟨a,C,U,rfl,v,y,j,q⟩:=h
 obtain ⟨u,rfl,p⟩:=vals1 r
 cases p
 obtain ⟨f,g,⟨o,e,b,n,l⟩,_⟩:=I.tuple v
 refine O4 y (I.ok.hd d) ⟨o,e,b,n,l⟩ (by simpa using intsAre_of g) j λx i t A D k S m=>?_
 exact ⟨.ref s.heap.objs.size,_,I.laid k (Aj _) (sH ⟨x,i,t,S,m⟩),rfl,q _ (I.hok.fresh (Aj _))⟩
def JK(w:World):R2:=λx y H Q=>∃(a b:Addr) (c d U:List Int),x=.ref a/\y=.ref b/\a≠b/\H a=some (Ys w a c)/\H b=some (Ys w b d)/\U.length<=62/\Among U c/\Among U d/\∀p,H p=none->Q (.ref p) (upd H p (Ys w p (c++d)))
theorem yR:Xu X (Jb .BitOr) (JK X.w):=by
 intro d s D H x y v u Q I o i h
 obtain ⟨a,b,G,N,U,rfl,rfl,l,C,p,A,r,g,q⟩:=h
 cases o
 cases i
 obtain ⟨O,J,E,j,f⟩:=cU I.hok C
 obtain ⟨L,F,M,z,e⟩:=cU I.hok p
 refine DP A l j z (λx c=>r x ((f x).mp c)) (λx c=>g x ((e x).mp c)) λn B t K k S m=>?_
 exact ⟨.ref s.heap.objs.size,_,I.laid (t':=s.toks) k (Aj _) (sH ⟨n,B,t,S,λx=>by rw[m,f,e,Aw]⟩),rfl,q _ (I.hok.fresh (Aj _))⟩
theorem Xf:∀{vs:List Value} {ns:List Int},Ez vs ns->Gf (ns.map V.int) vs
 | _,_,.nil=>.nil
 | _,_,.cons n t h=>.cons ⟨t,rfl⟩ (Xf h)
def tY(w:World):List V->Hp->VK->Prop:=λd H Q=>∃(a:Addr) (c:List Int),d=[.ref a]/\H a=some (Ys w a c)/\∀(p:Addr) (b:List Int),H p=none->b.Nodup->b.Pairwise (·<=·)->(∀x,x∈b↔x∈c)->Q (.ref p) (upd H p (.lst (b.map V.int)))
theorem Xd(j:X.calm=true):Mf X (.builtin "sorted") (tY X.w):=by
 intro b s k H K G Q I r h
 obtain ⟨a,F,rfl,C,q⟩:=h
 obtain ⟨u,rfl,o⟩:=vals1 r
 cases o
 obtain ⟨D,L,t,S,m⟩:=cU I.hok C
 refine qE (I.ok.hd j) S λp out d n z J g y e l i c v B=>?_
 have f:Inv X b k H { s with heap:=z,toks:=g }:=I.kept i
 have A:d.Nodup:=e.nodup_iff.mpr S.nd
 have E:d.length<64:=by
  rw[e.length_eq,Af,Am]
  exact S.few
 refine ⟨.ref p,upd H p (.lst (d.map V.int)),f.laid (t':=g) v c ⟨by rw[Af,Hh]; omega,out.toList,n,Xf y,by simpa using B⟩,rfl,q p d (f.hok.fresh c) A l λx=>by rw[e.mem_iff,m]⟩
end
end Nd
namespace Nd
open PySem L2
def Zf(d:Addr)(H a:Hp):Prop:=∀b o,b≠d->H b=some o->a b=some o
theorem Zf.trans{d:Addr}{H f e:Hp}(a:Zf d H f)(b:Zf d f e):Zf d H e:=λc o n h=>b c o n (a c o n h)
theorem Zf.upd{d:Addr}{H:Hp}{o:HO}:Zf d H (upd H d o):=λb o n h=>by rw[Dr n]; exact h
theorem Sx.tup{K:PySem.W.Frag}{H b:Hp}{a:Addr}{xs:List V}(e:Sx H b)(h:Ta K H a xs):Ta K b a xs:=by
 rcases h with (h | ⟨o,h⟩) | h
 ·exact .inl (.inl (e _ _ h))
 ·exact .inl (.inr ⟨o,e _ _ h⟩)
 ·exact .inr h
theorem kE{n:Nat}(h:n<=1000000):n<=Aq:=by rw[Hh]; omega
theorem jW(a b:Int)(h:0<b):0<=a % b/\a % b<b:=⟨Int.emod_nonneg _ (by omega),Int.emod_lt_of_pos _ h⟩
def Gn(h:Int)(ns:List Int):Prop:=ns.Pairwise (· < ·)/\∀x∈ns,0<=x/\x<h
theorem Gn.nil(h:Int):Gn h []:=⟨Ea,λx a=>by cases a⟩
theorem Gn.more{h:Int}{ns:List Int}(r:Gn h ns)(f:0<=h):Gn (h+1) (ns++[h]) :=
 ⟨Cr.mpr ⟨r.1,Ey _ _,λa c b d=>by rw[Al.mp d]; exact (r.2 a c).2⟩,λx e=>by
  rcases Aw.mp e with z | z
  ·have:=r.2 x z; omega
  ·have:=Al.mp z; omega⟩
theorem Gn.up{h h':Int}{ns:List Int}(r:Gn h ns)(l:h<=h'):Gn h' ns:=⟨r.1,λx a=>by have:=r.2 x a; omega⟩
def gV(H:Hp)(d:Addr)(c k:Int)(f:Bool):Prop:=H d=some (.lst [.int c,.int k,.bl f])
def yL:Sp:=λvs H Q _=>∃(d:Addr) (c k:Int) (f:Bool),vs=[.ref d]/\gV H d c k f/\0<=k/\k<=1000000/\∀(r b:Int) (a:Hp),gV a d b (k+1) f->Zf d H a->Q (.int r) a
def Br(ns:List Int):Ae:=.tuple (ns.map Ax)
theorem qC(ns:List Int):(Br ns).depth<=1:=by
 have : (Br ns).depth<=Bs (ns.map Ax)+1:=by simp [Br,Dy]
 rw[pK] at this
 exact this
def CS:List Int:=(Cd 60).map λi:Nat=>(i:Int)
theorem Xn{x:Int}(b:0<=x)(a:x<60):x∈CS:=Df.mpr ⟨x.toNat,Ky.mpr (by omega),by omega⟩
theorem M9(TD:List Ae):Ef (.list TD) (.list [])=TD.isEmpty:=by cases TD <;> simp [Ef,Pd]
theorem fI:∀{l1 l2:List Int},l1.Pairwise (· < ·)->l2.Pairwise (· < ·)->(∀x,x∈l1↔x∈l2)->l1=l2
 | [],[],_,_,_=>rfl
 | [],b::l,_,_,h=>by have:=(h b).mpr Ab; cases this
 | a::l,[],_,_,h=>by have:=(h a).mp Ab; cases this
 | a::l1,b::l2,p1,p2,h=>by
  obtain ⟨f,i⟩:=Bb.mp p1
  obtain ⟨d,g⟩:=Bb.mp p2
  have e:a=b:=by
   rcases An.mp ((h a).mp Ab) with z | z
   ·exact z
   ·rcases An.mp ((h b).mpr Ab) with y | y
    ·exact y.symm
    ·have:=f b y; have:=d a z; omega
  subst e
  rw[fI i g λx=>⟨λc=>?_,λc=>?_⟩]
  ·rcases An.mp ((h x).mp (Ad _ c)) with z | z
   ·have:=f x c; omega
   ·exact z
  ·rcases An.mp ((h x).mpr (Ad _ c)) with z | z
   ·have:=d x c; omega
   ·exact z
theorem sZ{ns:List Int}(r:Gn 60 ns):NdS.Among CS ns:=λx a=>Xn (r.2 x a).1 (r.2 x a).2
def V6(K:PySem.W.Frag):Sp:=λvs H Q _=>∃(a b:Addr) (e d:List Int),vs=[.ref a,.ref b]/\Ta K H a (e.map V.int)/\Ta K H b (d.map V.int)/\Gn 60 e/\Gn 60 d /\
 ∀(r:Addr) (c:List Int) (f:Hp),H r=none->f r=some (.tup (c.map V.int))->c.Nodup->c.Pairwise (·<=·)->(∀x,x∈c↔x∈e++d)->Sx H f->Q (.ref r) f
def order{c:Type}(a b:c)(l:List c):Option Bool->List c
 | none=>l
 | some true=>[a,b]
 | some false=>[b,a]
structure TD(K:PySem.W.Frag)(H:Hp)(x:V)(d:Ae)(n m:Nat):Prop where
 rd:RdV K H x d
 fits:FE 22 d
 nd:T6 d<=n
 dp:d.depth<=m
abbrev V8(K:PySem.W.Frag):List V->Hp->VK->Prop:=λb H Q=>∃p a,b=[V.ref p]/\(Pq K H p a\/Ta K H p a)/\∀l,H l=none->Q (.ref l) (upd H l (.lst a))
theorem E7{X:Cx}:Mf X (.type "list") (V8 X.K):=iA
abbrev V4(K:PySem.W.Frag):List V->Hp->VK->Prop:=λb H Q=>∃p a,b=[V.ref p]/\((Pq K H p a/\∀l,H l=none->Q (.ref l) (upd H l (.tup a)))\/(Ta K H p a/\Q (.ref p) H))
theorem bJ{X:Cx}:Mf X (.type "tuple") (V4 X.K):=Vg
end Nd
namespace DL
open PySem L2 Nd
def KL(K:PySem.W.Frag)(H:Hp)(a:Addr)(xs:List V):Prop :=
 (∃o,H a=some (.frz o (.lst xs)))\/∃(b:Array Value) (n:Nat),K.lookup a=some { cls:=.type "list",data:=.seq b n }/\b.size<=Aq/\Gf xs b.toList
def nW:Nat->Ae
 | 0=>.none
 | n+1=>.tuple [nW n]
def Ou(ks:List (List Int×Ae)):List (Ae×Ae):=(nW 100,.none)::ks.map λp=>(Br p.1,p.2)
def Lc(w:List Int):List Jo:=w.map Xr
mutual
inductive RdF (K:PySem.W.Frag) (H:Hp):V->Ae->List Addr->Prop
 | non:RdF K H .non .none []
 | bl (b:Bool):RdF K H (.bl b) (.bool b) []
 | int (i:Int):RdF K H (.int i) (.int i) []
 | str (x:Str):RdF K H (.str x) (.str x) []
 | lst {a:Addr} {xs:List V} {ds:List Ae} {F:List Addr}:H a=some (.lst xs)->ds.length<=Aq->RdFs K H xs ds F->RdF K H (.ref a) (.list ds) (a::F)
 | tup {a:Addr} {xs:List V} {ds:List Ae} {F:List Addr}:H a=some (.tup xs)->ds.length<=Aq->RdFs K H xs ds F->RdF K H (.ref a) (.tuple ds) F
 | dic {a:Addr} {kv:List (List Jo×V)} {ks:List (List Int×Ae)}:H a=some (.dT kv)->kv.map (·.1)=ks.map (λp=>Lc p.1)->RdFs K H (kv.map (·.2)) (ks.map (·.2)) []->RdF K H (.ref a) (.dict (Ou ks)) [a]
inductive RdFs (K:PySem.W.Frag) (H:Hp):List V->List Ae->List Addr->Prop
 | nil:RdFs K H [] [] []
 | cons {x:V} {d:Ae} {xs:List V} {ds:List Ae} {F G:List Addr}:RdF K H x d F->RdFs K H xs ds G->RdFs K H (x::xs) (d::ds) (F++G)
end
def KG(o:HO):Prop:=(∃a,o=.tup a)\/∃b u,o=.frz b u
def Kp(F:List Addr)(H a:Hp):Prop:=∀b o,H b=some o->(b∈F\/KG o)->a b=some o
theorem Kp.of{F:List Addr}{H a:Hp}(s:Sx H a):Kp F H a:=λb o e _=>s b o e
theorem Kp.sub{F G:List Addr}{H c:Hp}(k:Kp F H c)(h:∀a∈G,a∈F):Kp G H c:=λb o e z=>k b o e (z.imp (h b) id)
section
variable{K:PySem.W.Frag}{H c:Hp}
theorem KL.kp{a:Addr}{xs:List V}{F:List Addr}(h:KL K H a xs)(k:Kp F H c):KL K c a xs:=by
 rcases h with ⟨o,h⟩ | h
 ·exact .inl ⟨o,k _ _ h (.inr (.inr ⟨_,_,rfl⟩))⟩
 ·exact .inr h
theorem KL.sq{a:Addr}{xs:List V}(h:KL K H a xs):Pq K H a xs:=by
 rcases h with ⟨o,h⟩ | ⟨b,n,h,c,r⟩
 ·exact .inl (.inr ⟨o,h⟩)
 ·exact .inr ⟨_,b,n,h,rfl,rfl,rfl,c,r⟩
mutual
theorem RdF.kp:∀{v:V} {d:Ae} {F:List Addr},RdF K H v d F->Kp F H c->RdF K c v d F
 | _,_,_,.non,_=>.non
 | _,_,_,.bl b,_=>.bl b
 | _,_,_,.int i,_=>.int i
 | _,_,_,.str x,_=>.str x
 | _,_,_,.lst h l hs,k=>.lst (k _ _ h (.inl Ab)) l (RdFs.kp hs (k.sub λ_ z=>Ad _ z))
 | _,_,_,.tup h l hs,k=>.tup (k _ _ h (.inr (.inl ⟨_,rfl⟩))) l (RdFs.kp hs k)
 | _,_,_,.dic h e hs,k=>.dic (k _ _ h (.inl Ab)) e (RdFs.kp hs (k.sub λ_ z=>nomatch z))
theorem RdFs.kp:∀{v:List V} {d:List Ae} {F:List Addr},RdFs K H v d F->Kp F H c->RdFs K c v d F
 | _,_,_,.nil,_=>.nil
 | _,_,_,.cons h hs,k=>.cons (RdF.kp h (k.sub λ_ z=>Ak _ z)) (RdFs.kp hs (k.sub λ_ z=>Ag _ z))
end
theorem Zg:∀n,(nW n).depth=n
 | 0=>by simp [nW,Dy]
 | n+1=>by
  have:=Zg n
  simp only[nW,Dy,Bs,this]
  omega
theorem C1{ks:List (List Int×Ae)}:100<=(PyData.dict (Ou ks)).depth:=by
 have:=Zg 100
 simp only[Ou,Dy,PyData.depthKv,this]
 omega
mutual
theorem RdF.rd:∀{v:V} {d:Ae} {F:List Addr},RdF K H v d F->d.depth<=90->RdV K H v d
 | _,_,_,.non,_=>.non
 | _,_,_,.bl b,_=>.bl b
 | _,_,_,.int i,_=>.int i
 | _,_,_,.str x,_=>.str x
 | _,_,_,.lst h l hs,z=>.lst (Pq.of h) (RdFs.rd hs (by simp only[Dy] at z; omega))
 | _,_,_,.tup h l hs,z=>.tup (Ta.of h) (RdFs.rd hs (by simp only[Dy] at z; omega))
 | _,_,_,.dic h e hs,z=>absurd (Cg C1 z) (by decide)
theorem RdFs.rd:∀{v:List V} {d:List Ae} {F:List Addr},RdFs K H v d F->Bs d<=90->RdVs K H v d
 | _,_,_,.nil,_=>.nil
 | _,_,_,.cons h hs,z=>.cons (RdF.rd h (by simp only[Bs] at z; omega)) (RdFs.rd hs (by simp only[Bs] at z; omega))
end
mutual
theorem RdF.dom:∀{v:V} {d:Ae} {F:List Addr},RdF K H v d F->∀a∈F,∃o,H a=some o
 | _,_,_,.non,_,z=>nomatch z
 | _,_,_,.bl b,_,z=>nomatch z
 | _,_,_,.int i,_,z=>nomatch z
 | _,_,_,.str x,_,z=>nomatch z
 | _,_,_,.lst h l hs,b,z=>by
  rcases An.mp z with rfl | z
  ·exact ⟨_,h⟩
  ·exact RdFs.dom hs b z
 | _,_,_,.tup h l hs,b,z=>RdFs.dom hs b z
 | _,_,_,.dic h e hs,b,z=>⟨_,Al.mp z▸h⟩
theorem RdFs.dom:∀{v:List V} {d:List Ae} {F:List Addr},RdFs K H v d F->∀a∈F,∃o,H a=some o
 | _,_,_,.nil,_,z=>nomatch z
 | _,_,_,.cons h hs,b,z=>by
  rcases Aw.mp z with z | z
  ·exact RdF.dom h b z
  ·exact RdFs.dom hs b z
end
theorem RdFs.len:∀{v:List V} {d:List Ae} {F:List Addr},RdFs K H v d F->v.length=d.length
 | _,_,_,.nil=>rfl
 | _,_,_,.cons _ t=>by rw[Bm,Bm,RdFs.len t]
theorem RdFs.get:∀{v:List V} {d:List Ae} {F:List Addr} {i:Nat} {e:Ae},RdFs K H v d F->d[i]? = some e->∃x G,v[i]? = some x/\RdF K H x e G/\G.Sublist F
 | _,_,_,_,_,.nil,z=>by simp at z
 | _,_,_,0,_,.cons h _,z=>by
  simp at z
  subst z
  exact ⟨_,_,rfl,h,List.sublist_append_left _ _⟩
 | _,_,_,i+1,e,.cons _ t,z=>by
  obtain ⟨x,G,a,b,c⟩:=RdFs.get (i:=i) (e:=e) t (by simpa using z)
  exact ⟨x,G,by simpa using a,b,c.trans (Bk _ _)⟩
theorem RdFs.app:∀{v w:List V} {d e:List Ae} {F G:List Addr},RdFs K H v d F->RdFs K H w e G->RdFs K H (v++w) (d++e) (F++G)
 | _,_,_,_,_,_,.nil,h=>h
 | _,_,_,_,_,_,.cons a t,h=>by
  rw[Bt]
  exact .cons a (RdFs.app t h)
theorem RdFs.snoc{v:List V}{d:List Ae}{F G:List Addr}{x:V}{e:Ae}(t:RdFs K H v d F)(h:RdF K H x e G):RdFs K H (v++[x]) (d++[e]) (F++G):=by
 have:=t.app (.cons h .nil)
 rw[Ec] at this
 exact this
end
mutual
def imm:Ae->Bool
 | .list _=>false
 | .dict _=>false
 | .tuple a=>Ed a
 | _=>true
def Ed:List Ae->Bool
 | []=>true
 | x::xs=>imm x && Ed xs
end
theorem qJ:∀{xs:List Ae},Ed xs=true↔∀x∈xs,imm x=true
 | []=>by simp [Ed]
 | x::xs=>by simp [Ed,qJ (xs:=xs)]
theorem Vu{b:Type}{f:b->Ae}(h:∀a,imm (f a)=true)(l:List b):Ed (l.map f)=true:=qJ.mpr λx c=>by
 obtain ⟨a,_,rfl⟩:=Df.mp c
 exact h a
theorem yG(ns:List Int):imm (Br ns)=true:=by
 unfold Br
 rw[imm]
 exact Vu (λ_=>by simp [imm]) ns
section
variable{K:PySem.W.Frag}{H a:Hp}
mutual
theorem RdF.imm:∀{v:V} {d:Ae} {F:List Addr},RdF K H v d F->DL.imm d=true->F=[]
 | _,_,_,.non,_=>rfl
 | _,_,_,.bl b,_=>rfl
 | _,_,_,.int i,_=>rfl
 | _,_,_,.str x,_=>rfl
 | _,_,_,.lst h l hs,k=>by simp [DL.imm] at k
 | _,_,_,.tup h l hs,k=>RdFs.imm hs (by simpa [DL.imm] using k)
 | _,_,_,.dic h e hs,k=>by simp [DL.imm] at k
theorem RdFs.imm:∀{v:List V} {d:List Ae} {F:List Addr},RdFs K H v d F->Ed d=true->F=[]
 | _,_,_,.nil,_=>rfl
 | _,_,_,.cons h hs,k=>by
  rw[Ed,Fu] at k
  rw[RdF.imm h k.1,RdFs.imm hs k.2]
  rfl
end
end
inductive Md where
 | pk | sh | tp | ow
 deriving DecidableEq
inductive DV where
 | un
 | dat (m:Md) (d:Ae)
 | drw
 | dT (kvs:List (List Jo×Ae))
 | val (v:V)
 | scr (ns:List Int)
 | acc (ds:List Ae)
 | grd (Hc:Hp)
 | tpl (xs:List V)
structure DS where
 sl:List DV
 n:Nat
structure Ent where
 v:Option V
 x:DV
 F:List Addr
def Pu:DV->Bool
 | .dat .pk _=>true
 | _=>false
def FY:DV->Bool
 | .drw=>true
 | _=>false
def X6:DV->Bool
 | .drw=>true
 | .acc _=>true
 | .dT _=>true
 | .grd _=>true
 | _=>false
def cells(e:Ent):List Addr:=match e.x with
 | .dat .ow _=>e.F
 | .dat .tp _=>e.F.take 1
 | .drw=>e.F
 | .dT _=>e.F
 | .acc _=>e.F.take 1
 | .grd _=>e.F
 | _=>[]
theorem Gu(e:Ent):∀a∈cells e,a∈e.F:=by
 obtain ⟨v,x,F⟩:=e
 intro a h
 cases x with
 | un=>exact nomatch h
 | val _=>exact nomatch h
 | scr _=>exact nomatch h
 | drw=>exact h
 | dT _=>exact h
 | grd _=>exact h
 | tpl _=>exact nomatch h
 | acc _=>exact (Io _ _).subset h
 | dat m d =>
  cases m with
  | pk=>exact nomatch h
  | sh=>exact nomatch h
  | tp=>exact (Io _ _).subset h
  | ow=>exact h
def Xg(e f:Ent):Prop:=((Pu f.x=false\/X6 e.x=true)->∀a∈cells e,a∉f.F)/\((Pu e.x=false\/X6 f.x=true)->∀a∈cells f,a∉e.F)
theorem Xg.symm{e f:Ent}(h:Xg e f):Xg f e:=⟨h.2,h.1⟩
def Gr(K:PySem.W.Frag)(H:Hp)(n:Nat)(e:Ent):Prop:=match e.x with
 | .un=>e.F=[]
 | .dat m d=>∃v,e.v=some v/\RdF K H v d e.F/\(m=.ow->e.F.Nodup)/\(m=.tp->∀a l,e.F=a::l->a∉l)
 | .drw=>∃i c k f,e.v=some (.ref i)/\e.F=[i]/\gV H i c k f/\0<=k/\k<=(n:Int)
 | .dT b=>∃a h,e.v=some (.ref a)/\e.F=[a]/\H a=some (.dT h)/\h.map (·.1)=b.map (·.1)/\RdFs K H (h.map (·.2)) (b.map (·.2)) []
 | .val v=>e.v=some v/\e.F=[]
 | .scr j=>∃a,e.v=some (.ref a)/\e.F=[]/\KL K H a (j.map V.int)/\j.length<=63
 | .acc p=>∃a g G,e.v=some (.ref a)/\e.F=a::G/\H a=some (.lst g)/\RdFs K H g p G/\p.length<=Aq/\a∉G
 | .grd q=>∀a∈e.F,∃o,q a=some o/\H a=some o
 | .tpl g=>∃t,e.v=some (.ref t)/\H t=some (.tup g)/\e.F=[]
structure At(K:PySem.W.Frag)(H0:Hp)(X:Addr->Prop)(n:Nat)(E:List Ent)(H:Hp):Prop where
 ok:∀e∈E,Gr K H n e
 sep:E.Pairwise Xg
 new:∀e∈E,∀a∈cells e,H0 a=none\/(X a/\FY e.x=true)
 same:∀b o,¬ X b->H0 b=some o->H b=some o
 dom:∀b o,H0 b=some o->∃o',H b=some o'
 xd:∀b,X b->H0 b≠none/\∃c k f,gV H b c k f/\0<=k/\k<=(n:Int)
section
variable{K:PySem.W.Frag}{i H j:Hp}{X:Addr->Prop}{n n':Nat}{E y S T:List Ent}{e f:Ent}
theorem At.perm(h:At K i X n E H)(p:E.Perm y):At K i X n y H :=
 ⟨λe c=>h.ok e (p.mem_iff.mpr c),(p.pairwise_iff λ{a b}=>Xg.symm).mp h.sep,λe c=>h.new e (p.mem_iff.mpr c),h.same,h.dom,h.xd⟩
theorem At.sub(h:At K i X n E H)(p:y.Sublist E):At K i X n y H :=
 ⟨λe a=>h.ok e (p.subset a),h.sep.sublist p,λe a=>h.new e (p.subset a),h.same,h.dom,h.xd⟩
theorem At.drop(h:At K i X n (S++e::T) H):At K i X n (S++T) H:=h.sub ((Ci S).append (Cy _ _))
theorem t8:(S++e::T).Perm (e::(S++T)):=Dj
theorem At.mid(h:At K i X n (S++e::T) H):At K i X n (e::(S++T)) H:=h.perm t8
theorem At.tomid(h:At K i X n (e::(S++T)) H):At K i X n (S++e::T) H:=h.perm t8.symm
theorem Gr.dom(h:Gr K H n e):∀a∈e.F,∃o,H a=some o:=by
 obtain ⟨v,x,F⟩:=e
 intro a ha
 cases x with
 | un=>rw[show F=[] from h] at ha; cases ha
 | val _=>rw[show F=[] from h.2] at ha; cases ha
 | scr _ =>
  obtain ⟨_,_,g,_⟩:=h
  rw[show F=[] from g] at ha; cases ha
 | dat m d =>
  obtain ⟨w,_,h,_⟩:=h
  obtain ⟨i,z⟩:=h.dom a ha
  exact ⟨_,z⟩
 | drw =>
  obtain ⟨p,c,k,f,_,g,h,_⟩:=h
  rw[show F=[p] from g] at ha
  rw[Al.mp ha]
  exact ⟨_,h⟩
 | grd s =>
  obtain ⟨o,_,z⟩:=h a ha
  exact ⟨o,z⟩
 | tpl i =>
  obtain ⟨_,_,_,g⟩:=h
  rw[show F=[] from g] at ha; cases ha
 | dT q =>
  obtain ⟨b,l,_,g,h,_⟩:=h
  rw[show F=[b] from g] at ha
  rw[Al.mp ha]
  exact ⟨_,h⟩
 | acc r =>
  obtain ⟨b,l,G,_,g,h,j,_⟩:=h
  rw[show F=b::G from g] at ha
  rcases An.mp ha with rfl | ha
  ·exact ⟨_,h⟩
  ·obtain ⟨i,z⟩:=j.dom a ha
   exact ⟨_,z⟩
theorem Gr.kp(h:Gr K H n e)(k:Kp e.F H j)(C:n<=n'):Gr K j n' e:=by
 obtain ⟨v,x,F⟩:=e
 cases x with
 | un=>exact h
 | val _=>exact h
 | scr _ =>
  obtain ⟨a,i,g,p,q⟩:=h
  exact ⟨a,i,g,p.kp k,q⟩
 | dat m d =>
  obtain ⟨w,i,g,p⟩:=h
  exact ⟨w,i,g.kp k,p⟩
 | drw =>
  obtain ⟨u,c,A,f,i,r,g,p,q⟩:=h
  have l:F=[u]:=r
  subst l
  exact ⟨u,c,A,f,i,rfl,k _ _ g (.inl Ab),p,by omega⟩
 | tpl E =>
  obtain ⟨t,i,g,p⟩:=h
  exact ⟨t,i,k _ _ g (.inr (.inl ⟨_,rfl⟩)),p⟩
 | grd I =>
  intro a y
  obtain ⟨o,i,g⟩:=h a y
  exact ⟨o,i,k _ _ g (.inl y)⟩
 | dT B =>
  obtain ⟨b,s,i,r,g,p,q⟩:=h
  have l:F=[b]:=r
  subst l
  exact ⟨b,s,i,rfl,k _ _ g (.inl Ab),p,q.kp (k.sub λ_ z=>nomatch z)⟩
 | acc D =>
  obtain ⟨b,s,G,i,r,g,p,q⟩:=h
  have l:F=b::G:=r
  subst l
  exact ⟨b,s,G,i,rfl,k _ _ g (.inl Ab),p.kp (k.sub λ_ z=>Ad _ z),q⟩
theorem At.grow(h:At K i X n E H)(s:Sx H j)(l:n<=n'):At K i X n' E j :=
 ⟨λe a=>(h.ok e a).kp (Kp.of s) l,h.sep,h.new,λb o g e=>s _ _ (h.same b o g e),λb o e=>let ⟨o',q⟩:=h.dom b o e; ⟨o',s _ _ q⟩,λb d=>let ⟨z,c,k,f,h1,h2,h3⟩:=h.xd b d; ⟨z,c,k,f,s _ _ h1,h2,by omega⟩⟩
theorem At.free(h:At K i X n E H){a:Addr}(b:H a=none):∀e∈E,a∉e.F:=λe c z=>by
 obtain ⟨o,q⟩:=(h.ok e c).dom a z
 rw[b] at q; cases q
theorem At.push(h:At K i X n E H)(ok:Gr K H n e)(c:∀f∈E,Xg e f)(b:∀a∈cells e,i a=none\/(X a/\FY e.x=true)):At K i X n (e::E) H :=
 ⟨λg hg=>by
  rcases An.mp hg with rfl | hg
  ·exact ok
  ·exact h.ok g hg,Bb.mpr ⟨c,h.sep⟩,λg hg=>by
  rcases An.mp hg with rfl | hg
  ·exact b
  ·exact h.new g hg,h.same,h.dom,h.xd⟩
theorem At.new0(h:At K i X n E H){p:Addr}(a:H p=none):i p=none:=by
 cases q:i p with
 | none=>rfl
 | some o =>
  obtain ⟨b,z⟩:=h.dom p o q
  rw[a] at z; cases z
theorem F8{v:Option V}{m:Md}{d:Ae}:Xg ⟨v,.dat m d,[]⟩ f:=by
 refine ⟨λ_ a b=>?_,λ_ a _=>Bd⟩
 have:=Gu _ a b
 cases this
theorem At.pushI(h:At K i X n (S++T) H){v:V}{m:Md}{d:Ae}(r:RdF K H v d []):At K i X n (S++⟨some v,.dat m d,[]⟩::T) H :=
 (h.push (e:=⟨some v,.dat m d,[]⟩) ⟨v,rfl,r,λ_=>Dv,λ_ a l z=>nomatch z⟩ (λf _=>F8) (λa b=>nomatch Gu _ a b)).tomid
def wk:Md->Md->Bool
 | _,.pk=>true
 | .pk,_=>false
 | _,.sh=>true
 | .sh,_=>false
 | _,.tp=>true
 | .tp,.ow=>false
 | .ow,.ow=>true
theorem oJ{v:Option V}{m c:Md}{d:Ae}{F:List Addr}(w:wk m c=true):∀a∈cells ⟨v,.dat c d,F⟩,a∈cells ⟨v,.dat m d,F⟩:=by
 intro a b
 cases m <;> cases c <;> first | exact absurd w (by decide) | exact b | exact absurd b Bd | exact (Io 1 F).subset b
theorem wA{b:Type}{F:List b}(h:F.Nodup):∀a l,F=a::l->a∉l:=λa l e=>by
 subst e
 exact (Co.mp h).1
theorem Gr.wk{v:Option V}{m a:Md}{d:Ae}{F:List Addr}(w:wk m a=true)(h:Gr K H n ⟨v,.dat m d,F⟩):Gr K H n ⟨v,.dat a d,F⟩:=by
 obtain ⟨u,f,c,b,g⟩:=h
 refine ⟨u,f,c,λe=>?_,λe=>?_⟩
 ·subst e
  cases m <;> first | exact absurd w (by decide) | exact b rfl
 ·subst e
  cases m <;> first | exact absurd w (by decide) | exact g rfl | exact wA (b rfl)
theorem Xg.wk{v:Option V}{m c:Md}{d:Ae}{F:List Addr}(w:wk m c=true)(h:Xg ⟨v,.dat m d,F⟩ f):Xg ⟨v,.dat c d,F⟩ f:=by
 refine ⟨λhp a b=>?_,λhp a b=>?_⟩
 ·rcases hp with hp | hp
  ·exact h.1 (.inl hp) a (oJ w a b)
  ·cases hp
 ·rcases hp with hp | hp
  ·refine h.2 (.inl ?_) a b
   cases m <;> cases c <;> first | rfl | exact absurd w (by decide) | exact absurd hp (by show ¬ (true=false); decide)
  ·exact h.2 (.inr hp) a b
theorem At.wk{v:Option V}{m b:Md}{d:Ae}{F:List Addr}(w:wk m b=true)(h:At K i X n (⟨v,.dat m d,F⟩::E) H):At K i X n (⟨v,.dat b d,F⟩::E) H:=by
 have g:=Bb.mp h.sep
 refine (h.sub (Cy _ _)).push ((h.ok _ Ab).wk w) (λf e=>(g.1 f e).wk w) λa c=>?_
 rcases h.new _ Ab a (oJ w a c) with z | z
 ·exact .inl z
 ·cases z.2
end
abbrev DE:=DS->(DV->DS->Prop)->Prop
abbrev DT:=DS->(Bool->DS->Prop)->Prop
abbrev DA:=DS->(List DV->DS->Prop)->Prop
structure DEnds where
 nx:DS->Prop
 rt:DV->DS->Prop
 bk:DS->Prop:=λ_=>False
 ct:DS->Prop:=λ_=>False
abbrev DB:=DEnds->DS->Prop
abbrev DG:=DV->DS->(DS->Prop)->Prop
abbrev C9:=List DV->DS->(DS->Prop)->Prop
def vs(S:List Ent):L2.St:=S.map Ent.v
def Sl(S:List Ent)(a:DS):Prop:=S.map Ent.x=a.sl
section
variable(K:PySem.W.Frag)
def LE(g:DE):TE:=λf H Q=>∃(d:Hp) (X:Addr->Prop) (S T:List Ent) (b:DS) (P:DV->DS->Prop),vs S=f/\Sl S b/\At K d X b.n (S++T) H/\g b P /\
 ∀x a v F c e,vs c=f->Sl c a->At K d X a.n (c++⟨some v,x,F⟩::T) e->P x a->Q v e
def LT(dt:DT):TT:=λg H Q=>∃(e:Hp) (X:Addr->Prop) (S T:List Ent) (c:DS) (P:Bool->DS->Prop),vs S=g/\Sl S c/\At K e X c.n (S++T) H/\dt c P /\
 ∀b a d f,vs d=g->Sl d a->At K e X a.n (d++T) f->P b a->Q b f
def LA(j:DA):TA:=λg H Q=>∃(e:Hp) (X:Addr->Prop) (S T:List Ent) (c:DS) (P:List DV->DS->Prop),vs S=g/\Sl S c/\At K e X c.n (S++T) H/\j c P /\
 ∀i a b h d f,vs d=g->Sl d a->b.map Ent.x=i->b.map Ent.v=h.map some->At K e X a.n (d++(b++T)) f->P i a->Q h f
def LS(h:DB):TS:=λD g H=>∃(d:Hp) (X:Addr->Prop) (S T:List Ent) (f:DS) (P:DEnds),vs S=g/\Sl S f/\(∀e∈T,Pu e.x=false)/\At K d X f.n (S++T) H/\h P f /\
 (∀a b c,Sl b a->At K d X a.n (b++T) c->P.nx a->D.nx (vs b) c) /\
 (∀x a v F b c,Sl b a->At K d X a.n (b++⟨some v,x,F⟩::T) c->P.rt x a->D.rt v c) /\
 (∀a b c,Sl b a->At K d X a.n (b++T) c->P.bk a->D.bk (vs b) c) /\
 (∀a b c,Sl b a->At K d X a.n (b++T) c->P.ct a->D.ct (vs b) c)
def LG(g:DG):TG:=λv f H Q=>∃(d:Hp) (X:Addr->Prop) (S T:List Ent) (b:DS) (x:DV) (F:List Addr) (P:DS->Prop),vs S=f/\Sl S b/\At K d X b.n (S++⟨some v,x,F⟩::T) H/\g x b P /\
 ∀a c e,Sl c a->At K d X a.n (c++T) e->P a->Q (vs c) e
def KJ(i:C9):P4:=λh g H Q=>∃(e:Hp) (X:Addr->Prop) (S T b:List Ent) (c:DS) (P:DS->Prop),vs S=g/\Sl S c/\b.map Ent.v=h.map some/\At K e X c.n (S++(b++T)) H/\i (b.map Ent.x) c P /\
 ∀a d f,Sl d a->At K e X a.n (d++T) f->P a->Q (vs d) f
end
abbrev Fm(X:Cx)(e:Expr)(a:DE):Prop:=PE X e (LE X.K a)
abbrev nS(X:Cx)(e:Expr)(dt:DT):Prop:=PT X e (LT X.K dt)
abbrev Y0(X:Cx)(e:Expr)(dt:DT):Prop:=PW X e (LT X.K dt)
abbrev oT(X:Cx)(es:List Expr)(a:DA):Prop:=PA X es (LA X.K a)
abbrev xM(X:Cx)(st:Stmt)(a:DB):Prop:=PS X st (LS X.K a)
abbrev cG(X:Cx)(st:List Stmt)(a:DB):Prop:=tP X st (LS X.K a)
abbrev HJ(X:Cx)(a:Expr)(b:DG):Prop:=PG X a (LG X.K b)
abbrev Q0(X:Cx)(a:List Expr)(b:C9):Prop:=BN X a (KJ X.K b)
theorem PE.imp{X:Cx}{e:Expr}{t t':TE}(h:PE X e t)(k:∀a H Q,t' a H Q->t a H Q):PE X e t':=λb s a H Q I q=>h b s a H Q I (k a H Q q)
theorem PT.imp{X:Cx}{e:Expr}{t t':TT}(h:PT X e t)(k:∀a H Q,t' a H Q->t a H Q):PT X e t':=λb s a H Q I q=>h b s a H Q I (k a H Q q)
theorem PW.imp{X:Cx}{e:Expr}{t t':TT}(h:PW X e t)(k:∀a H Q,t' a H Q->t a H Q):PW X e t':=λc b s a H Q I q=>h c b s a H Q I (k a H Q q)
theorem PA.imp{X:Cx}{e:List Expr}{t t':TA}(h:PA X e t)(k:∀a H Q,t' a H Q->t a H Q):PA X e t':=λc b s a H Q I q=>h c b s a H Q I (k a H Q q)
theorem PG.imp{X:Cx}{e:Expr}{t t':TG}(h:PG X e t)(k:∀v a H Q,t' v a H Q->t v a H Q):PG X e t':=λb s a H v u Q I r q=>h b s a H v u Q I r (k v a H Q q)
theorem BN.imp{X:Cx}{e:List Expr}{t t':P4}(h:BN X e t)(k:∀v a H Q,t' v a H Q->t v a H Q):BN X e t':=λb s a H v u Q I r q=>h b s a H v u Q I r (k v a H Q q)
section
variable{K:PySem.W.Frag}{H:Hp}{v:V}{F:List Addr}
theorem RdF.int_inv{i:Int}(h:RdF K H v (.int i) F):v=.int i/\F=[]:=by cases h; exact ⟨rfl,rfl⟩
theorem RdF.bl_inv{i:Bool}(h:RdF K H v (.bool i) F):v=.bl i/\F=[]:=by cases h; exact ⟨rfl,rfl⟩
theorem RdF.str_inv{i:Str}(h:RdF K H v (.str i) F):v=.str i/\F=[]:=by cases h; exact ⟨rfl,rfl⟩
theorem RdF.list_inv{ds:List Ae}(h:RdF K H v (.list ds) F):∃a xs G,v=.ref a/\H a=some (.lst xs)/\RdFs K H xs ds G/\F=a::G/\ds.length<=Aq:=by
 cases h with
 | lst h l b=>exact ⟨_,_,_,rfl,h,b,rfl,l⟩
theorem RdF.tup_inv{ds:List Ae}(h:RdF K H v (.tuple ds) F):∃a xs,v=.ref a/\H a=some (.tup xs)/\RdFs K H xs ds F/\ds.length<=Aq:=by
 cases h with
 | tup h l b=>exact ⟨_,_,rfl,h,b,l⟩
end
section
variable{K:PySem.W.Frag}{a H b:Hp}{X:Addr->Prop}{n:Nat}{E S T:List Ent}{v:V}{m:Md}{d:Ae}{F:List Addr}
theorem At.told(h:At K a X n E H)(c:⟨some v,.dat m d,F⟩∈E):RdF K H v d F:=by
 obtain ⟨w,e,b,_⟩:=h.ok _ c
 cases e
 exact b
theorem mem_mid{e:Ent}:e∈S++e::T:=Ag _ Ab
theorem Fd{e f:Ent}:f∈S++e::f::T:=Ag _ (Ad _ Ab)
theorem At.drop2{e f:Ent}(h:At K a X n (S++e::f::T) H):At K a X n (S++T) H:=h.drop.drop
theorem At.dropL{As:List Ent}(h:At K a X n (S++(As++T)) H):At K a X n (S++T) H:=h.sub ((Ci S).append (Bk As T))
end
def mN:Md->Md
 | .ow=>.pk
 | .tp=>.pk
 | m=>m
def CM(i:Nat):DE:=λa P=>match a.sl[i]? with
 | some (.dat m d)=>P (.dat (mN m) d) a
 | _=>False
def dC(d:Ae):DE:=λa P=>P (.dat .ow d) a
theorem Ks{S:List Ent}{b:DS}{i:Nat}{x:DV}(h:Sl S b)(e:b.sl[i]? = some x):∃a,S[i]? = some a/\a.x=x:=by
 unfold Sl at h
 rw[<- h,Bj] at e
 cases q:S[i]? with
 | none=>rw[q] at e; cases e
 | some a=>rw[q] at e; exact ⟨a,rfl,Bv e⟩
theorem Nv{S:List Ent}{i:Nat}{e:Ent}(h:S[i]? = some e):(vs S)[i]? = some e.v:=by
 unfold vs
 rw[Bj,h]
 rfl
theorem At.look{K:PySem.W.Frag}{i H:Hp}{X:Addr->Prop}{n:Nat}{S T:List Ent}{u:Option V}{v:V}{m:Md}{d:Ae}{F:List Addr}(h:At K i X n (S++T) H)(o:⟨u,.dat m d,F⟩∈S)(p:u=some v):At K i X n (S++⟨some v,.dat (mN m) d,F⟩::T) H:=by
 subst p
 obtain ⟨j,k,rfl⟩:=List.append_of_mem o
 have g:((j++⟨some v,.dat m d,F⟩::k)++T).Perm (⟨some v,.dat m d,F⟩::(j++(k++T))):=by
  rw[Bt,Do]
  exact Dj
 have c:=h.perm g
 have r:=Bb.mp c.sep
 refine (h.push (e:=⟨some v,.dat (mN m) d,F⟩) ?_ (λf hf=>?_) λa b=>?_).tomid
 ·obtain ⟨w,q,l,_⟩:=c.ok _ Ab
  refine ⟨w,q,l,λz=>?_,λz=>?_⟩ <;> cases m <;> cases z
 ·refine ⟨λ_ a b=>?_,λhq a b=>?_⟩
  ·cases m <;> exact nomatch b
  ·rcases An.mp (g.mem_iff.mp hf) with rfl | hf
   ·rcases hq with hq | hq
    ·cases m <;> first | cases hq; done | exact nomatch b
    ·cases hq
   ·refine (r.1 f hf).2 ?_ a b
    rcases hq with hq | hq
    ·refine .inl ?_
     cases m <;> first | rfl | exact hq
    ·exact .inr hq
 ·cases m <;> exact nomatch b
section
variable{X:Cx}{e:Expr}
theorem Bc{i:Nat}(h:PE X e (eM i)):Fm X e (CM i):=by
 refine PE.imp h λr H Q h=>?_
 obtain ⟨q,Y,S,T,o,P,rfl,g,l,b,k⟩:=h
 unfold CM at b
 split at b
 ·rename_i m d n
  obtain ⟨a,c,p⟩:=Ks g n
  have f:a∈S:=Be c
  obtain ⟨u,x,F⟩:=a
  subst p
  obtain ⟨v,j,_⟩:=l.ok _ (Ak _ f)
  refine ⟨v,by rw[Nv c]; exact congrArg some j,k _ o v F S H rfl g (l.look f j) b⟩
 ·exact b.elim
theorem qP{v:V}{d:Ae}(h:PE X e (tC v))(r:∀H,RdF X.K H v d []):Fm X e (dC d):=by
 refine PE.imp h λi H Q h=>?_
 obtain ⟨g,Y,S,T,b,P,rfl,a,c,f,k⟩:=h
 exact k _ b v [] S H rfl a (c.pushI (r H)) f
theorem Cp{i j pos}:Fm X (.Constant (.int i) j pos) (dC (.int i)):=qP Fq λ_=>.int i
theorem B0{i j pos}:Fm X (.Constant (.bool i) j pos) (dC (.bool i)):=qP zH λ_=>.bl i
theorem aZ{i j pos}:Fm X (.Constant (.str i) j pos) (dC (.str i)):=qP AQ λ_=>.str i
end
def GU(c:DE):DE:=λb P=>c b λx a=>match x with
 | .dat _ d=>imm d=true/\P (.dat .ow d) a
 | _=>False
theorem Rw{X:Cx}{e:Expr}{c:DE}(h:Fm X e c):Fm X e (GU c):=by
 refine PE.imp h λt H Q h=>?_
 obtain ⟨j,Y,S,T,o,P,rfl,i,n,s,k⟩:=h
 refine ⟨j,Y,S,T,o,_,rfl,i,n,s,λx b v F q g l f a p=>?_⟩
 cases x with
 | dat m d =>
  have r:=a.told mem_mid
  obtain rfl:=r.imm p.1
  exact k _ b v [] q g l f (a.drop.pushI r) p.2
 | _=>exact p.elim
def i3(i:Nat):DE:=λa P=>match a.sl[i]? with
 | some (.dat m d)=>P (.dat m d) ⟨a.sl.set i .un,a.n⟩
 | _=>False
theorem Tx{a:Type}:∀{l:List a} {i:Nat} {x y:a},l[i]? = some x->(y::l).Perm (x::l.set i y)
 | [],i,x,y,h=>by simp at h
 | z::l,0,x,y,h=>by
  simp at h
  subst h
  exact Dk _ _ _
 | z::l,i+1,x,y,h=>by
  have b:=Tx (l:=l) (i:=i) (x:=x) (y:=y) (by simpa using h)
  rw[List.set_cons_succ]
  exact (Dk z y l).trans ((b.cons z).trans (Dk x z _))
theorem iX{X:Cx}{e:Expr}{i:Nat}(h:PE X e (eM i)):Fm X e (i3 i):=by
 refine PE.imp h λG H Q h=>?_
 obtain ⟨I,Y,S,T,E,P,rfl,o,s,g,k⟩:=h
 unfold i3 at g
 split at g
 ·rename_i m d C
  obtain ⟨b,c,A⟩:=Ks o C
  have t:b∈S:=Be c
  obtain ⟨u,x,F⟩:=b
  subst A
  obtain ⟨v,D,B⟩:=s.ok _ (Ak _ t)
  have q:u=some v:=D
  subst q
  refine ⟨v,by rw[Nv c],k _ _ v F (S.set i ⟨some v,.un,[]⟩) H ?_ ?_ ?_ g⟩
  ·unfold vs
   rw[Ip]
   apply Ir
   intro j
   rw[Ko]
   split
   ·rename_i p
    subst p
    rw[Bj,c]
    split
    ·rfl
    ·rename_i r
     rw[Af] at r
     exact absurd (Av.mp c).1 r
   ·rfl
  ·unfold Sl at o ⊢
   rw[Ip,o]
  ·have z:=s.push (e:=⟨some v,.un,[]⟩) (show Gr X.K H E.n ⟨some v,.un,[]⟩ from rfl) (λf _=>⟨λ_ a l=>(nomatch l),λ_ a _=>Bd⟩) (λa l=>(nomatch l))
   have w:(⟨some v,.un,[]⟩::(S++T)).Perm ((S.set i ⟨some v,.un,[]⟩)++⟨some v,.dat m d,F⟩::T):=by
    rw[<- Do]
    exact ((Tx (y:=(⟨some v,.un,[]⟩ : Ent)) c).append_right T).trans (by rw[Do]; exact List.perm_middle.symm)
   exact z.perm w
 ·exact g.elim
abbrev D2:=DV->DV->(DV->Prop)->Prop
def qZ(K:PySem.W.Frag)(r:R2)(rd:D2):Prop:=∀(b:Hp) (X:Addr->Prop) (n:Nat) (S T:List Ent) (x y:DV) (v w:V) (F G:List Addr) (H:Hp) (Q:VK) (P:DV->Prop),
 At K b X n (S++⟨some w,y,G⟩::⟨some v,x,F⟩::T) H->rd x y P->(∀z u c a,At K b X n (S++⟨some u,z,c⟩::T) a->P z->Q u a)->r v w H Q
def aI(rd:D2)(e c:DE):DE:=λd P=>e d λx a=>c a λy b=>rd x y λz=>P z b
theorem lY{K:PySem.W.Frag}{r:R2}{rd:D2}{l i:DE}(o:qZ K r rd):∀b H Q,LE K (aI rd l i) b H Q->GN r (LE K l) (LE K i) b H Q:=by
 intro b H Q h
 obtain ⟨e,Y,S,T,N,P,rfl,s,A,J,k⟩:=h
 refine ⟨e,Y,S,T,N,_,rfl,s,A,J,λx g v F p O M L d t=>?_⟩
 refine ⟨e,Y,p,⟨some v,x,F⟩::T,g,_,M,L,d,t,λy a w G j m I C f D=>?_⟩
 exact o e Y a.n j T x y v w F G m Q _ f D λz u B q c E=>k z a u B j q I C c E
section
variable{X:Cx}{a b:Expr}{d c:DE}{pos:Pos}{r:R2}{rd:D2}
theorem Zj{op:Operator}(f:Xu X (Jb op) r)(o:qZ X.K r rd)(e:Fm X a d)(hb:Fm X b c):Fm X (.BinOp a op b pos) (aI rd d c):=PE.imp (Jt f e hb) (lY o)
theorem qR{op:CmpOp}(g:Xu X (Iz op) r)(o:qZ X.K r rd)(e:Fm X a d)(hb:Fm X b c)(f:Hd op b=false):Fm X (.Compare a [op] [b] pos) (aI rd d c):=PE.imp (P7 g e hb f) (lY o)
theorem GJ(f:E8 X r)(o:qZ X.K r rd)(e:Fm X a d)(hb:Fm X b c)(g:gU b):Fm X (.Subscript a b pos) (aI rd d c):=PE.imp (Ze f e hb g) (lY o)
end
def CY(C:Int->Int->Prop)(g:Int->Int->Ae):D2:=λx y P=>match x,y with
 | .dat _ (.int i),.dat _ (.int j)=>C i j/\P (.dat .ow (g i j))
 | _,_=>False
def qF(g:Int->Int->Ae):D2:=λx y P=>match x,y with
 | .dat _ (.int i),.dat _ (.int j)=>P (.dat .ow (g i j))
 | _,_=>False
section
variable{K:PySem.W.Frag}
theorem BY{C:Int->Int->Prop}{g:Int->Int->V}{g':Int->Int->Ae}(h:∀i j H,RdF K H (g i j) (g' i j) []):qZ K (rI C g) (CY C g'):=by
 intro c X n S T x y v w F G H Q P b a k
 unfold CY at a
 split at a
 ·obtain ⟨rfl,_⟩:=(b.told Fd).int_inv
  obtain ⟨rfl,_⟩:=(b.told mem_mid).int_inv
  exact ⟨_,_,rfl,rfl,a.1,k _ _ [] H (b.drop2.pushI (h _ _ H)) a.2⟩
 ·exact a.elim
theorem kP{g:Int->Int->V}{g':Int->Int->Ae}(h:∀i j H,RdF K H (g i j) (g' i j) []):qZ K (V2 g) (qF g'):=by
 intro c X n S T x y v w F G H Q P b a k
 unfold qF at a
 split at a
 ·obtain ⟨rfl,_⟩:=(b.told Fd).int_inv
  obtain ⟨rfl,_⟩:=(b.told mem_mid).int_inv
  exact ⟨_,_,rfl,rfl,k _ _ [] H (b.drop2.pushI (h _ _ H)) a⟩
 ·exact a.elim
end
abbrev rdAdd:D2:=qF λi j=>.int (i+j)
abbrev rdSub:D2:=qF λi j=>.int (i - j)
abbrev rdMul:D2:=CY zI λi j=>.int (i * j)
abbrev rdDiv:D2:=CY AZ λi j=>.int (i / j)
abbrev rdMod:D2:=CY (λ_ j=>0<j) λi j=>.int (i % j)
abbrev rdLt:D2:=qF λi j=>.bool (decide (i<j))
abbrev rdGt:D2:=qF λi j=>.bool (decide (j<i))
section
variable{X:Cx}{a b:Expr}{d c:DE}{pos:Pos}
theorem Yo(e:Fm X a d)(hb:Fm X b c):Fm X (.BinOp a .Add b pos) (aI rdAdd d c):=Zj bT (kP λ_ _ _=>.int _) e hb
theorem pM(e:Fm X a d)(hb:Fm X b c):Fm X (.BinOp a .Sub b pos) (aI rdSub d c):=Zj BS (kP λ_ _ _=>.int _) e hb
theorem q9(e:Fm X a d)(hb:Fm X b c):Fm X (.BinOp a .Mult b pos) (aI rdMul d c):=Zj Yc (BY λ_ _ _=>.int _) e hb
theorem Vz(e:Fm X a d)(hb:Fm X b c):Fm X (.BinOp a .FloorDiv b pos) (aI rdDiv d c):=Zj jK (BY λ_ _ _=>.int _) e hb
theorem Kf(e:Fm X a d)(hb:Fm X b c):Fm X (.BinOp a .Mod b pos) (aI rdMod d c):=Zj Vx (BY λ_ _ _=>.int _) e hb
theorem GQ(e:Fm X a d)(hb:Fm X b c):Fm X (.Compare a [.Lt] [b] pos) (aI rdLt d c):=qR T9 (kP λ_ _ _=>.bl _) e hb (Vs _)
theorem S9(e:Fm X a d)(hb:Fm X b c):Fm X (.Compare a [.Gt] [b] pos) (aI rdGt d c):=qR GH (kP λ_ _ _=>.bl _) e hb (Vs _)
end
def iO(a:Bool):D2:=λx y P=>match x,y with
 | .dat _ d,.dat _ e=>d.depth<=60/\e.depth<=60/\P (.dat .ow (.bool (match a with | true=>!Ef d e | false=>Ef d e)))
 | _,_=>False
def uJ(a:Bool):D2:=λx y P=>match x,y with
 | .dat _ d,.dat _ (.list es)=>Bs es<=60/\d.depth<=60/\P (.dat .ow (.bool (match a with | true=>!(es.any λe=>Ef e d) | false=>es.any λe=>Ef e d)))
 | .dat _ d,.dat _ (.tuple es)=>Bs es<=60/\d.depth<=60/\P (.dat .ow (.bool (match a with | true=>!(es.any λe=>Ef e d) | false=>es.any λe=>Ef e d)))
 | _,_=>False
section
variable{K:PySem.W.Frag}
theorem S8:qZ K (EV K) (iO false):=by
 intro c X n S T x y v w F G H Q P b a k
 unfold iO at a
 split at a
 ·exact ⟨_,_,(b.told Fd).rd (Cg a.1 (by decide)),(b.told mem_mid).rd (Cg a.2.1 (by decide)),a.1,k _ _ [] H (b.drop2.pushI (.bl _)) a.2.2⟩
 ·exact a.elim
theorem GD:qZ K (EH K) (iO true):=by
 intro c X n S T x y v w F G H Q P b a k
 unfold iO at a
 split at a
 ·exact ⟨_,_,(b.told Fd).rd (Cg a.1 (by decide)),(b.told mem_mid).rd (Cg a.2.1 (by decide)),a.1,k _ _ [] H (b.drop2.pushI (.bl _)) a.2.2⟩
 ·exact a.elim
theorem U8{d:Bool}:qZ K (W9 K d) (uJ d):=by
 intro i X n S T x y v w F G H Q P c b k
 unfold uJ at b
 split at b
 ·obtain ⟨a,g,h,rfl,e,f,_,_⟩:=(c.told mem_mid).list_inv
  refine ⟨a,g,_,_,rfl,.inl (Pq.of e),(c.told Fd).rd (Cg b.2.1 (by decide)),f.rd (Cg b.1 (by decide)),b.1,?_⟩
  cases d with
  | true=>exact k _ _ [] H (c.drop2.pushI (.bl _)) b.2.2
  | false=>exact k _ _ [] H (c.drop2.pushI (.bl _)) b.2.2
 ·obtain ⟨a,g,rfl,e,f,_⟩:=(c.told mem_mid).tup_inv
  refine ⟨a,g,_,_,rfl,.inr (Ta.of e),(c.told Fd).rd (Cg b.2.1 (by decide)),f.rd (Cg b.1 (by decide)),b.1,?_⟩
  cases d with
  | true=>exact k _ _ [] H (c.drop2.pushI (.bl _)) b.2.2
  | false=>exact k _ _ [] H (c.drop2.pushI (.bl _)) b.2.2
 ·exact b.elim
end
section
variable{X:Cx}{a b:Expr}{d c:DE}{pos:Pos}
theorem tM(f:X.A.units+64<cLine)(e:Fm X a d)(hb:Fm X b c):Fm X (.Compare a [.Eq] [b] pos) (aI (iO false) d c):=qR (q8 f) S8 e hb (Vs _)
end
def Pw:Md->Md
 | .ow=>.ow
 | .tp=>.sh
 | m=>m
theorem At.part{K:PySem.W.Frag}{i H:Hp}{X:Addr->Prop}{n:Nat}{S T:List Ent}{v w:V}{m:Md}{d e:Ae}{F G:List Addr}(h:At K i X n (S++⟨some v,.dat m d,F⟩::T) H)(r:RdF K H w e G)(g:G.Sublist F):At K i X n (S++⟨some w,.dat (Pw m) e,G⟩::T) H:=by
 have c:=h.mid
 have l:=Bb.mp c.sep
 obtain ⟨t,s,q,o,p⟩:=c.ok _ Ab
 have j:∀a∈cells ⟨some w,.dat (Pw m) e,G⟩,a∈cells ⟨some v,.dat m d,F⟩:=λa b=>by
  cases m with
  | ow=>exact g.subset b
  | tp=>exact nomatch b
  | sh=>exact nomatch b
  | pk=>exact nomatch b
 refine (h.drop.push (e:=⟨some w,.dat (Pw m) e,G⟩) ⟨w,rfl,r,λz=>?_,λz=>?_⟩ (λf k=>?_) λa b=>?_).tomid
 ·cases m with
  | ow=>exact (o rfl).sublist g
  | _=>cases z
 ·cases m <;> cases z
 ·refine ⟨λhp a b=>(l.1 f k).1 ?_ a (j a b),λhp a b z=>(l.1 f k).2 ?_ a b (g.subset z)⟩
  ·rcases hp with hp | hp
   ·exact .inl hp
   ·cases hp
  ·rcases hp with hp | hp
   ·refine .inl ?_
    cases m <;> first | rfl | exact hp
   ·exact .inr hp
 ·rcases c.new _ Ab a (j a b) with z | z
  ·exact .inl z
  ·cases z.2
def B8:D2:=λx y P=>match x,y with
 | .dat m (.list ds),.dat _ (.int i)=>∃d,Vp ds i=some d/\P (.dat (Pw m) d)
 | .dat m (.tuple ds),.dat _ (.int i)=>∃d,Vp ds i=some d/\P (.dat (Pw m) d)
 | .dat _ (.str z),.dat _ (.int i)=>z.length<=Aq/\∃c,Vp z.cps.toList i=some c/\P (.dat .ow (.str ⟨#[c]⟩))
 | _,_=>False
theorem j4{K:PySem.W.Frag}{H:Hp}{xs:List V}{ds:List Ae}{F:List Addr}{i:Int}{d:Ae}(r:RdFs K H xs ds F)(h:Vp ds i=some d):∃x G,Vp xs i=some x/\RdF K H x d G/\G.Sublist F:=by
 unfold Vp at h ⊢
 rw[r.len]
 cases e:xO ds.length i with
 | none=>rw[e] at h; cases h
 | some j =>
  rw[e] at h
  exact r.get h
theorem FJ{K:PySem.W.Frag}:qZ K (JD K) B8:=by
 intro u X n S T x y v w F G H Q P b f k
 unfold B8 at f
 split at f
 ·obtain ⟨d,g,p⟩:=f
  obtain ⟨rfl,_⟩:=(b.told mem_mid).int_inv
  have r:=b.told Fd
  have e:=b.drop
  obtain ⟨a,q,z,rfl,h,m,t,_⟩:=r.list_inv
  obtain ⟨x,l,j,i,o⟩:=j4 m g
  subst t
  exact .inl ⟨_,_,_,_,rfl,rfl,Pq.of h,j,k _ _ l H (e.part i (o.trans (Cy _ _))) p⟩
 ·obtain ⟨d,g,p⟩:=f
  obtain ⟨rfl,_⟩:=(b.told mem_mid).int_inv
  have r:=b.told Fd
  have e:=b.drop
  obtain ⟨a,q,rfl,h,m,_⟩:=r.tup_inv
  obtain ⟨x,l,j,i,o⟩:=j4 m g
  exact .inr (.inl ⟨_,_,_,_,rfl,rfl,Ta.of h,j,k _ _ l H (e.part i o) p⟩)
 ·obtain ⟨s,c,g,p⟩:=f
  obtain ⟨rfl,_⟩:=(b.told mem_mid).int_inv
  obtain ⟨rfl,_⟩:=(b.told Fd).str_inv
  exact .inr (.inr ⟨_,_,_,rfl,rfl,s,g,k _ _ [] H (b.drop2.pushI (.str _)) p⟩)
 ·exact f.elim
theorem Lk{X:Cx}{a b:Expr}{c d:DE}{pos:Pos}(e:Fm X a c)(hb:Fm X b d)(f:gU b:=by intro _ _; rfl):Fm X (.Subscript a b pos) (aI B8 c d):=GJ AF FJ e hb f
def tR:Md->Md
 | .ow=>.ow
 | .pk=>.pk
 | _=>.tp
def Zm(i:Bool)(m:Md)(ds:List Ae)(P:DV->Prop):Prop:=match i with
 | true=>Ed ds=true/\P (.dat .ow (.list ds))
 | false=>P (.dat (tR m) (.list ds))
def jS(i:Bool)(m:Md)(ds:List Ae)(P:DV->Prop):Prop:=match i with
 | true=>Ed ds=true/\P (.dat .ow (.tuple ds))
 | false=>P (.dat (Pw m) (.tuple ds))
section
variable{K:PySem.W.Frag}{b H:Hp}{X:Addr->Prop}{n:Nat}{S T:List Ent}{v w:V}{m:Md}{d e:Ae}{F G:List Addr}{p:Addr}{xs:List V}{ds:List Ae}{P:DV->Prop}{i:Bool}
theorem At.newI(h:At K b X n (S++T) H)(r:RdFs K H xs ds G)(j:Ed ds=true)(hz:ds.length<=Aq)(d:H p=none)(m:Md):At K b X n (S++⟨some (.ref p),.dat m (.list ds),[p]⟩::T) (upd H p (.lst xs)):=by
 obtain rfl:=r.imm j
 have i:=Fe d (.lst xs)
 have k:=h.grow (n':=n) i (Aj _)
 refine (k.push (e:=⟨some (.ref p),.dat m (.list ds),[p]⟩) ⟨_,rfl,.lst Ds hz (r.kp (Kp.of i)),λ_=>Co.mpr ⟨Bd,Dv⟩,λ_ a l z=>by cases z; exact Bd⟩ (λf o=>?_) λa c=>?_).tomid
 ·have g:=h.free d f o
  refine ⟨λ_ a c z=>?_,λ_ a c z=>?_⟩
  ·have:=Gu _ a c
   rw[Al.mp this] at z
   exact g z
  ·rw[Al.mp z] at c
   exact g (Gu _ _ c)
 ·have:=Gu _ a c
  rw[Al.mp this]
  exact .inl (h.new0 d)
theorem At.newL(h:At K b X n (S++⟨some v,.dat m d,F⟩::T) H)(r:RdFs K H xs ds G)(o:G.Sublist F)(hz:ds.length<=Aq)(j:H p=none)(q:Zm i m ds P):∃z C,At K b X n (S++⟨some (.ref p),z,C⟩::T) (upd H p (.lst xs))/\P z:=by
 cases i with
 | true=>exact ⟨_,_,h.drop.newI r q.1 hz j .ow,q.2⟩
 | false =>
  have q:P (.dat (tR m) (.list ds)):=q
  refine ⟨_,p::G,?_,q⟩
  have y:=Fe j (.lst xs)
  have g:=h.mid
  have x:=Bb.mp g.sep
  obtain ⟨E,D,_,B,_⟩:=g.ok _ Ab
  have A:=h.drop.grow (n':=n) y (Aj _)
  have s:p∉F:=g.free j _ Ab
  have k:p∉G:=λz=>s (o.subset z)
  have w:∀a∈cells ⟨some (.ref p),.dat (tR m) (.list ds),p::G⟩,a=p\/(a∈cells ⟨some v,.dat m d,F⟩):=λa c=>by
   cases m with
   | ow =>
    rcases An.mp c with z | z
    ·exact .inl z
    ·exact .inr (o.subset z)
   | tp=>exact .inl (Al.mp c)
   | sh=>exact .inl (Al.mp c)
   | pk=>exact nomatch c
  refine (A.push (e:=⟨some (.ref p),.dat (tR m) (.list ds),p::G⟩) ⟨_,rfl,.lst Ds hz (r.kp (Kp.of y)),λz=>?_,λz a l e=>?_⟩ (λf t=>?_) λa c=>?_).tomid
  ·cases m with
   | ow=>exact Co.mpr ⟨k,(B rfl).sublist o⟩
   | _=>cases z
  ·cases e
   exact k
  ·have u:=g.free j f (Ad _ t)
   refine ⟨λhq a c z=>?_,λhq a c z=>?_⟩
   ·rcases w a c with rfl | hc
    ·exact u z
    ·refine (x.1 f t).1 ?_ a hc z
     rcases hq with hq | hq
     ·exact .inl hq
     ·cases hq
   ·rcases An.mp z with rfl | z
    ·exact u (Gu _ _ c)
    ·refine (x.1 f t).2 ?_ a c (o.subset z)
     rcases hq with hq | hq
     ·refine .inl ?_
      cases m <;> first | rfl | exact hq
     ·exact .inr hq
  ·rcases w a c with rfl | hc
   ·exact .inl (g.new0 j)
   ·rcases g.new _ Ab a hc with z | z
    ·exact .inl z
    ·cases z.2
theorem At.newT(h:At K b X n (S++⟨some v,.dat m d,F⟩::T) H)(r:RdFs K H xs ds G)(f:G.Sublist F)(hz:ds.length<=Aq)(e:H p=none)(q:jS i m ds P):∃z g,At K b X n (S++⟨some (.ref p),z,g⟩::T) (upd H p (.tup xs))/\P z:=by
 have a:=Fe e (.tup xs)
 have c:=h.grow (n':=n) a (Aj _)
 cases i with
 | true =>
  obtain rfl:=r.imm q.1
  exact ⟨_,[],c.drop.pushI (.tup Ds hz (r.kp (Kp.of a))),q.2⟩
 | false=>exact ⟨_,G,c.part (.tup Ds hz (r.kp (Kp.of a))) f,q⟩
theorem At.oldT{t:Addr}(h:At K b X n (S++⟨some v,.dat m d,F⟩::T) H)(r:RdFs K H xs ds G)(c:G.Sublist F)(hz:ds.length<=Aq)(a:H t=some (.tup xs))(q:jS i m ds P):∃z e,At K b X n (S++⟨some (.ref t),z,e⟩::T) H/\P z:=by
 cases i with
 | true =>
  obtain rfl:=r.imm q.1
  exact ⟨_,[],h.drop.pushI (.tup a hz r),q.2⟩
 | false=>exact ⟨_,G,h.part (.tup a hz r) c,q⟩
end
def W8:DA:=λa P=>P [] a
def T4(c:DE)(f:DA):DA:=λd P=>c d λx b=>f b λe a=>P (x::e) a
section
variable{X:Cx}{e:Expr}{es:List Expr}{b:DE}{a:DA}
theorem Bq:oT X [] W8:=by
 refine PA.imp Np λf H Q h=>?_
 obtain ⟨e,Y,S,T,b,P,rfl,a,c,d,k⟩:=h
 exact k [] b [] [] S H rfl a rfl rfl c d
theorem Ba(I:Fm X e b)(u:oT X es a)(m:Bn (e::es) X.env=(false,eval e X.env)::Bn es X.env:=by rfl):oT X (e::es) (T4 b a):=by
 refine PA.imp (Hy I u m) λJ H Q h=>?_
 obtain ⟨j,Y,S,T,G,P,rfl,p,t,B,k⟩:=h
 refine ⟨j,Y,S,T,G,_,rfl,p,t,B,λx g v F o K D C c s=>?_⟩
 refine ⟨j,Y,o,⟨some v,x,F⟩::T,g,_,D,C,c,s,λz d E q i l A w r n f y=>?_⟩
 refine k (x::z) d (⟨some v,x,F⟩::E) (v::q) i l A w (by rw[Ao,r]) (by rw[Ao,Ao,n]) (f.perm ((Hk i).append ?_)) y
 exact Dj
end
def allOw:List DV->Bool
 | []=>true
 | .dat .ow _::xs=>allOw xs
 | _=>false
def noPk:List DV->Bool
 | []=>true
 | .dat .pk _::_=>false
 | .dat _ _::xs=>noPk xs
 | _=>false
def datas:List DV->Option (List Ae)
 | []=>some []
 | .dat _ d::xs=>(datas xs).map (d::·)
 | _=>none
def pkMd(top:Md)(xs:List DV):Md:=if allOw xs=true then .ow else if noPk xs=true then top else .pk
section
variable{K:PySem.W.Frag}{c H:Hp}{X:Addr->Prop}{n:Nat}{S T As:List Ent}
theorem Tg:∀{As:List Ent} {us:List V} {ds:List Ae},As.map Ent.v=us.map some->datas (As.map Ent.x)=some ds->(∀e∈As,Gr K H n e)->RdFs K H us ds (As.flatMap Ent.F)
 | [],us,ds,e,h,_=>by
  cases us with
  | nil=>cases h; exact .nil
  | cons _ _=>cases e
 | ent::As,us,ds,e,h,ok=>by
  cases us with
  | nil=>cases e
  | cons u us =>
   rw[Ao,Ao] at e
   obtain ⟨g,c⟩:=Ie e
   obtain ⟨v,x,F⟩:=ent
   have b:v=some u:=g
   subst b
   rw[Ao] at h
   cases x with
   | dat m d =>
    rw[show datas (DV.dat m d::As.map Ent.x)=(datas (As.map Ent.x)).map (d::·) from rfl] at h
    cases q:datas (As.map Ent.x) with
    | none=>rw[q] at h; cases h
    | some k =>
     rw[q] at h
     cases h
     obtain ⟨w,j,a,_⟩:=ok _ Ab
     cases j
     rw[aE]
     exact .cons a (Tg c q λf i=>ok f (Ad _ i))
   | _=>cases h
theorem Rj:∀{As:List Ent},allOw (As.map Ent.x)=true->∀e∈As,∃d,e.x=.dat .ow d
 | [],_,_,h=>nomatch h
 | ⟨v,x,F⟩::As,h,e,he=>by
  rw[Ao] at h
  have a:(∃d,x=.dat .ow d)/\allOw (As.map Ent.x)=true:=by
   cases x with
   | dat m d=>cases m <;> first | exact ⟨⟨d,rfl⟩,h⟩ | cases h
   | _=>cases h
  rcases An.mp he with rfl | he
  ·exact a.1
  ·exact Rj a.2 e he
theorem kZ:∀{As:List Ent},noPk (As.map Ent.x)=true->∀e∈As,Pu e.x=false
 | [],_,_,h=>nomatch h
 | ⟨v,x,F⟩::As,h,e,he=>by
  rw[Ao] at h
  have a:Pu x=false/\noPk (As.map Ent.x)=true:=by
   cases x with
   | dat m d=>cases m <;> first | exact ⟨rfl,h⟩ | cases h
   | _=>cases h
  rcases An.mp he with rfl | he
  ·exact a.1
  ·exact kZ a.2 e he
theorem cX:∀{As:List Ent},(∀e∈As,∃d,e.x=.dat .ow d)->(∀e∈As,Gr K H n e)->As.Pairwise Xg->(As.flatMap Ent.F).Nodup
 | [],_,_,_=>Dv
 | ent::As,ho,ok,hs=>by
  rw[aE]
  have i:=Bb.mp hs
  obtain ⟨v,x,F⟩:=ent
  obtain ⟨d,m⟩:=ho _ Ab
  have c:x=.dat .ow d:=m
  subst c
  obtain ⟨w,_,_,k,_⟩:=ok _ Ab
  refine He.mpr ⟨k rfl,cX (λe h=>ho e (Ad _ h)) (λe h=>ok e (Ad _ h)) i.2,λa l b g z=>?_⟩
  subst z
  obtain ⟨f,j,g⟩:=Nr.mp g
  obtain ⟨o,c⟩:=ho f (Ad _ j)
  exact (i.1 f j).1 (.inl (by rw[c]; rfl)) a l g
theorem At.pack{v:V}{d:Ae}{N:List Addr}{D:Hp}{top:Md}(h:At K c X n (S++(As++T)) H)(s:Sx H D)(M:∀a∈N,H a=none)(I:N.Nodup)(o:(top=.tp/\N.length=1)\/(top=.sh/\N=[]))(r:RdF K D v d (N++As.flatMap Ent.F)):At K c X n (S++⟨some v,.dat (pkMd top (As.map Ent.x)) d,N++As.flatMap Ent.F⟩::T) D:=by
 have Q:(S++(As++T)).Perm (As++(S++T)):=by
  rw[<- Bt,<- Bt]
  exact Et.append_right T
 have w:=h.perm Q
 have C:=Cr.mp w.sep
 have u:=(h.dropL).grow (n':=n) s (Aj _)
 have E:∀a∈N,∀f∈As++(S++T),a∉f.F:=λa i f p=>w.free (M a i) f p
 have j:∀a∈N,a∉As.flatMap Ent.F:=λa i z=>by
  obtain ⟨f,p,z⟩:=Nr.mp z
  exact E a i f (Ak _ p) z
 have L:∀a∈cells ⟨some v,.dat (pkMd top (As.map Ent.x)) d,N++As.flatMap Ent.F⟩,a∈N\/(allOw (As.map Ent.x)=true/\∃f∈As,a∈cells f):=λa i=>by
  unfold pkMd at i
  by_cases k:allOw (As.map Ent.x)=true
  ·rw[if_pos k] at i
   rcases Aw.mp i with z | z
   ·exact .inl z
   ·obtain ⟨f,p,z⟩:=Nr.mp z
    obtain ⟨J,m⟩:=Rj k f p
    refine .inr ⟨k,f,p,?_⟩
    unfold cells
    rw[m]
    exact z
  ·rw[if_neg k] at i
   by_cases y:noPk (As.map Ent.x)=true
   ·rw[if_pos y] at i
    rcases o with ⟨rfl,u⟩ | ⟨rfl,rfl⟩
    ·match N,u,i with
     | [b],_,i=>exact .inl i
    ·exact nomatch i
   ·rw[if_neg y] at i
    exact nomatch i
 refine (u.push (e:=⟨some v,.dat (pkMd top (As.map Ent.x)) d,N++As.flatMap Ent.F⟩) ⟨_,rfl,r,λz=>?_,λz a l e=>?_⟩ (λf p=>?_) λa i=>?_).tomid
 ·have k:allOw (As.map Ent.x)=true:=by
   unfold pkMd at z
   by_cases k:allOw (As.map Ent.x)=true
   ·exact k
   ·rw[if_neg k] at z
    split at z
    ·rcases o with ⟨rfl,_⟩ | ⟨rfl,_⟩ <;> cases z
    ·cases z
  refine He.mpr ⟨I,cX (Rj k) (λe R=>w.ok e (Ak _ R)) C.1,λa i b P e=>?_⟩
  subst e
  exact j a i P
 ·have O:top=.tp:=by
   unfold pkMd at z
   split at z
   ·cases z
   ·split at z
    ·exact z
    ·cases z
  subst O
  rcases o with ⟨_,u⟩ | ⟨u,_⟩
  ·match N,u,e,j with
   | [b],_,e,j =>
    cases e
    exact j a Ab
  ·cases u
 ·have A:f∈As++(S++T):=Ag _ p
  refine ⟨λhq a i z=>?_,λhq a i z=>?_⟩
  ·rcases L a i with G | ⟨_,g,t,B⟩
   ·exact E a G f A z
   ·refine (C.2.2 g t f p).1 ?_ a B z
    rcases hq with hq | hq
    ·exact .inl hq
    ·cases hq
  ·rcases Aw.mp z with z | z
   ·exact E a z f A (Gu _ _ i)
   ·obtain ⟨g,t,z⟩:=Nr.mp z
    refine (C.2.2 g t f p).2 ?_ a i z
    rcases hq with hq | hq
    ·refine .inl ?_
     have q:Pu (.dat (pkMd top (As.map Ent.x)) d)=false:=hq
     unfold pkMd at q
     by_cases k:allOw (As.map Ent.x)=true
     ·obtain ⟨J,m⟩:=Rj k g t
      rw[m]
      rfl
     ·rw[if_neg k] at q
      by_cases y:noPk (As.map Ent.x)=true
      ·exact kZ y g t
      ·rw[if_neg y] at q
       cases q
    ·exact .inr hq
 ·rcases L a i with G | ⟨_,g,t,B⟩
  ·exact .inl (w.new0 (M a G))
  ·rcases w.new g (Ak _ t) a B with z | z
   ·exact .inl z
   ·obtain ⟨J,m⟩:=Rj (by assumption) g t
    rw[m] at z
    cases z.2
end
def EM(e:DA):DE:=λd P=>e d λc a=>match datas c with
 | some b=>b.length<=1000/\P (.dat (pkMd .sh c) (.tuple b)) a
 | none=>False
def GC(e:DA):DE:=λd P=>e d λc a=>match datas c with
 | some b=>b.length<=1000/\P (.dat (pkMd .tp c) (.list b)) a
 | none=>False
section
variable{X:Cx}{es:List Expr}{b:DA}{pos:Pos}
theorem Rp{x1}(h:oT X es b):Fm X (.Tuple es x1 pos) (EM b):=by
 refine PE.imp (Z1 h) λC H Q h=>?_
 obtain ⟨o,Y,S,T,B,P,rfl,i,n,x,k⟩:=h
 refine ⟨o,Y,S,T,B,_,rfl,i,n,x,λw c F l f D A y m g a p=>?_⟩
 cases q:datas w with
 | none=>rw[q] at p; exact p.elim
 | some u =>
  rw[q] at p
  subst m
  have r:=Tg g q λe s=>a.ok e (Ag _ (Ak _ s))
  have E:=r.len
  have v:u.length<=Aq:=sz p.1
  refine ⟨by omega,λt j=>?_⟩
  have d:=Fe j (.tup l)
  exact k _ c _ _ f _ A y (a.pack (N:=[]) d (λ_ z=>nomatch z) Dv (.inr ⟨rfl,rfl⟩) (.tup Ds v (r.kp (Kp.of d)))) p.2
theorem Ll(h:oT X es b):Fm X (.List es pos) (GC b):=by
 refine PE.imp (qM h) λD H Q h=>?_
 obtain ⟨s,Y,S,T,C,P,rfl,l,o,y,k⟩:=h
 refine ⟨s,Y,S,T,C,_,rfl,l,o,y,λx d G m i E B A n j c p=>?_⟩
 cases q:datas x with
 | none=>rw[q] at p; exact p.elim
 | some v =>
  rw[q] at p
  subst n
  have r:=Tg j q λe u=>c.ok e (Ag _ (Ak _ u))
  have F:=r.len
  have w:v.length<=Aq:=sz p.1
  refine ⟨by omega,λt f=>?_⟩
  have g:=Fe f (.lst m)
  exact k _ d _ _ i _ B A (c.pack (N:=[t]) g (λa z=>by rw[Al.mp z]; exact f) (Co.mpr ⟨Bd,Dv⟩) (.inl ⟨rfl,rfl⟩) (.lst Ds w (r.kp (Kp.of g)))) p.2
end
end DL
namespace Nd
open PySem PySem.Spec PyProof.Rows L2
section
variable{X:Cx}
def U6:V->Option Int->Option Int->Hp->VK->Prop:=λx lo d H Q=>∃a c,x=.ref a/\H a=some (.tup c)/\∀p b,b p=some (.tup (cI c lo d))->Sx H b->Q (.ref p) b
theorem O7:CH X U6:=by
 intro c s u H x v t z lo k y Q I w i m n h
 obtain ⟨a,b,rfl,d,q⟩:=h
 have j:Ta X.K H a b:=Ta.of d
 cases w
 by_cases f:HT.sIx b.length 0 lo=0/\HT.sIx b.length b.length k=b.length
 ·obtain ⟨g,r,l,A⟩:=I.tuple j
  have e:g.toArray.size=b.length:=by rw[Ar]; exact r.length.symm
  refine ⟨"tuple",_,Es.lookup,l.typeIs,?_⟩
  refine Vc l i m n (by rw[e]; exact f) ⟨.ref a,H,I,rfl,q a H ?_ (Sx.refl _)⟩
  unfold cI
  rw[f.1,f.2,Wc,Nat.sub_zero,Ff]
  exact d
 ·exact BH c s u H (.ref a) (.ref a) t z lo k y Q I rfl i m n ⟨a,b,rfl,j,f,λp o=>q p _ Ds (Fe o _)⟩
end
end Nd
namespace Ts
open PySem PyProof.Rows
def Uq:Bool->Keyed->Array Keyed->Nat->Nat->Nat->StateT By Sem (Option Nat):=sortPriv% PySem.Builtin.gallop
structure Cmp(prog:Bl)(w:World)(A:Ce)(s:Ai)(kd:Ms)(Ok:Keyed->Prop)(blt:Keyed->Keyed->Bool):Prop where
 run:∀(x y:Keyed) (Q:Bool->Ai->Prop) (E:Value->Ai->Prop),Ok x->Ok y->Q (blt x y) s->wpAny (model prog w) A (keyLt' kd x.1 y.1) Q E s
 irr:∀x,blt x x=false
 tr:∀x y z,blt x y=true->blt y z=true->blt x z=true
 neg:∀x y z,blt x z=true->blt x y=true\/blt y z=true
def le(blt:Keyed->Keyed->Bool)(x y:Keyed):Prop:=blt y x=false
section
variable{prog:Bl}{w:World}{A:Ce}{s:Ai}{d:Ms}{Ok:Keyed->Prop}{blt:Keyed->Keyed->Bool}
theorem Cmp.refl(C:Cmp prog w A s d Ok blt)(x:Keyed):le blt x x:=C.irr x
theorem Cmp.ofLt(C:Cmp prog w A s d Ok blt){x y:Keyed}(h:blt x y=true):le blt x y:=by
 unfold le
 cases q:blt y x with
 | false=>rfl
 | true=>have:=C.tr _ _ _ h q; rw[C.irr] at this; cases this
theorem Cmp.trans(C:Cmp prog w A s d Ok blt){x y z:Keyed}(a:le blt x y)(b:le blt y z):le blt x z:=by
 unfold le at *
 cases q:blt z x with
 | false=>rfl
 | true =>
  rcases C.neg _ y _ q with h | h
  ·rw[b] at h; cases h
  ·rw[a] at h; cases h
theorem Cmp.ltLe(C:Cmp prog w A s d Ok blt){x y z:Keyed}(b:blt x y=true)(a:le blt y z):blt x z=true:=by
 unfold le at a
 rcases C.neg _ z _ b with h | h
 ·exact h
 ·rw[a] at h; cases h
theorem Cmp.leLt(C:Cmp prog w A s d Ok blt){x y z:Keyed}(a:le blt x y)(b:blt y z=true):blt x z=true:=by
 unfold le at a
 rcases C.neg _ x _ b with h | h
 ·rw[a] at h; cases h
 ·exact h
variable{E:Value->Ai->Prop}
structure Kept(st st':By):Prop where
 kind:kindOf st'=kindOf st
 arr:arrOf st'=arrOf st
 pend:Bg st'=Bg st
 fail:Mq st'=Mq st
theorem Kept.refl(st:By):Kept st st:=⟨rfl,rfl,rfl,rfl⟩
theorem Kept.trans{a b c:By}(h:Kept a b)(k:Kept b c):Kept a c:=⟨k.kind.trans h.kind,k.arr.trans h.arr,k.pend.trans h.pend,k.fail.trans h.fail⟩
theorem nJ(C:Cmp prog w A s d Ok blt){st:By}{x y:Keyed}{Q:Option Bool->By->Prop}(b:kindOf st=d)(a:Ok x)(c:Ok y)(h:Q (some (blt x y)) st):wpS (model prog w) A E s (lt' x y) Q st:=by
 rw[lt'_eq]
 refine Az (Nw ?_)
 rw[b]
 exact Az (wpS_lift (Ic (C.run x y _ _ a c ⟨rfl,Bi h⟩)))
theorem Ga{st:By}{xs:Array Keyed}{i:Nat}{p:Keyed}{Q:Keyed->By->Prop}(h:xs[i]? = some p)(q:Q p st):wpS (model prog w) A E s (elem' xs i) Q st:=by
 rw[elem'_eq,h]
 exact Bi q
def Us(left:Bool)(a:Keyed)(b:Array Keyed)(base i:Nat):StateT By Sem (Option Bool):=do
 let x <- elem' b (base+i)
 if left then lt' x a else return (<- lt' a x).map (!·)
def tH(left:Bool)(b:Keyed)(c:Array Keyed)(base n d a:Nat):StateT By Sem (Option Nat):=do
 let mut lo:=d
 let mut hi:=a
 for _ in [0:n] do
  if lo ≥ hi then break
  let mid:=lo+(hi - lo) / 2
  let some up <- Us left b c base mid | return none
  if up then lo:=mid+1 else hi:=mid
 return some hi
theorem qG(left:Bool)(a:Keyed)(b:Array Keyed)(base n hint:Nat):Uq left a b base n hint=(do
  let some right <- Us left a b base hint | return none
  let mut last:=0
  let mut ofs:=1
  if right then
   let top:=n - hint
   for _ in [0:n] do
    if ofs ≥ top then break
    let some up <- Us left a b base (hint+ofs) | return none
    if !up then break
    last:=ofs
    ofs:=2 * ofs+1
   tH left a b base n (hint+last+1) (hint+min ofs top)
  else
   let top:=hint+1
   for _ in [0:n] do
    if ofs ≥ top then break
    let some got <- Us left a b base (hint - ofs) | return none
    if got then break
    last:=ofs
    ofs:=2 * ofs+1
   tH left a b base n (hint+1 - min ofs top) (hint - last)):=rfl
def Hf(blt:Keyed->Keyed->Bool)(left:Bool)(a x:Keyed):Bool:=if left then blt x a else !blt a x
structure Row(Ok:Keyed->Prop)(arr:Array Keyed)(base n:Nat)(el:Nat->Keyed):Prop where
 at_:∀i,i<n->arr[base+i]? = some (el i)
 ok:∀i,i<n->Ok (el i)
theorem Uj(C:Cmp prog w A s d Ok blt){st:By}{left:Bool}{a:Keyed}{b:Array Keyed}{base n i:Nat}{f:Nat->Keyed}(R:Row Ok b base n f)(ok:Ok a)(e:kindOf st=d)(c:i<n){Q:Option Bool->By->Prop}(h:Q (some (Hf blt left a (f i))) st):wpS (model prog w) A E s (Us left a b base i) Q st:=by
 unfold Us
 refine Az (Ga (R.at_ i c) ?_)
 cases left with
 | true =>
  rw[if_pos rfl]
  exact nJ C e (R.ok i c) ok h
 | false =>
  rw[if_neg Bp]
  exact Az (nJ C e ok (R.ok i c) (Bi h))
theorem rY(C:Cmp prog w A s d Ok blt){st:By}{left:Bool}{a:Keyed}{u:Array Keyed}{base n lo g:Nat}{f:Nat->Keyed}(R:Row Ok u base n f)(ok:Ok a)(F:kindOf st=d)(mono:∀i j,i<=j->j<n->Hf blt left a (f j)=true->Hf blt left a (f i)=true)(J:lo<=g)(D:g<=n)(H:∀i,i<lo->Hf blt left a (f i)=true)(G:∀i,g<=i->i<n->Hf blt left a (f i)=false){Q:Option Nat->By->Prop}(h:∀k,k<=n->(∀i,i<k->Hf blt left a (f i)=true)->(∀i,k<=i->i<n->Hf blt left a (f i)=false)->Q (some k) st):wpS (model prog w) A E s (tH left a u base n lo g) Q st:=by
 unfold tH
 refine Az (Hr (Ep (I:=λx c b=>∃l r,c=(none,l,r)/\b=st/\l<=r/\r<=n/\r - l+x<=n/\(∀i,i<l->Hf blt left a (f i)=true)/\(∀i,r<=i->i<n->Hf blt left a (f i)=false))
  (Q:=λc b=>∃r,c=(none,r,r)/\b=st/\r<=n/\(∀i,i<r->Hf blt left a (f i)=true)/\(∀i,r<=i->i<n->Hf blt left a (f i)=false)) ?_ ?_ ⟨lo,g,rfl,rfl,J,D,by omega,H,G⟩) ?_)
 ·(intro x c b _ M v; obtain ⟨l,r,rfl,rfl,L,o,B,p,m⟩ := v)
  dsimp only
  by_cases t:l ≥ r
  ·rw[if_pos t]
   have e:l=r:=by omega
   subst e
   exact Bi ⟨l,rfl,rfl,o,p,m⟩
  ·rw[if_neg t]
   have z:l+(r - l) / 2<n:=by omega
   refine Az (Uj C R ok F z ?_)
   dsimp only
   cases y:Hf blt left a (f (l+(r - l) / 2)) with
   | true =>
    rw[if_pos rfl]
    exact Bi ⟨l+(r - l) / 2+1,r,rfl,rfl,by omega,o,by omega,λi g=>mono i _ (by omega) z y,m⟩
   | false =>
    rw[if_neg Bp]
    refine Bi ⟨l,l+(r - l) / 2,rfl,rfl,by omega,by omega,by omega,p,λi g K=>?_⟩
    cases q:Hf blt left a (f i) with
    | false=>rfl
    | true=>rw[mono _ i g K q] at y; cases y
 ·(intro c b v; obtain ⟨l,r,rfl,rfl,L,o,B,p,m⟩ := v)
  have e:l=r:=by
   have : max 0 n=n:=by omega
   rw[this] at B
   omega
  subst e
  exact ⟨l,rfl,rfl,o,p,m⟩
 ·(intro c b v; obtain ⟨r,rfl,rfl,o,p,m⟩ := v)
  exact Bi (h r o p m)
theorem Ow(C:Cmp prog w A s d Ok blt){st:By}{left:Bool}{a:Keyed}{D:Array Keyed}{base n hint:Nat}{f:Nat->Keyed}(R:Row Ok D base n f)(ok:Ok a)(B:kindOf st=d)(O:hint<n)(mono:∀i j,i<=j->j<n->Hf blt left a (f j)=true->Hf blt left a (f i)=true){Q:Option Nat->By->Prop}(h:∀k,k<=n->(∀i,i<k->Hf blt left a (f i)=true)->(∀i,k<=i->i<n->Hf blt left a (f i)=false)->Q (some k) st):wpS (model prog w) A E s (Uq left a D base n hint) Q st:=by
 have t:∀i j,i<=j->j<n->Hf blt left a (f i)=false->Hf blt left a (f j)=false:=λi j H N q=>by
  cases z:Hf blt left a (f j) with
  | false=>rfl
  | true=>rw[mono i j H N z] at q; cases q
 rw[qG]
 refine Az (Uj C R ok B O ?_)
 dsimp only
 cases L:Hf blt left a (f hint) with
 | true =>
  rw[if_pos rfl]
  refine Az (Hr (Ep (I:=λx c e=>∃b o,c=(none,b,o)/\e=st/\b<o/\x+1<=o/\hint+b<n/\Hf blt left a (f (hint+b))=true)
   (Q:=λc e=>∃b o,c=(none,b,o)/\e=st/\b<o/\hint+b<n/\Hf blt left a (f (hint+b))=true/\(o ≥ n - hint\/(hint+o<n/\Hf blt left a (f (hint+o))=false))) ?_ ?_
   ⟨0,1,rfl,rfl,by omega,by omega,by omega,L⟩) ?_)
  ·(intro x c e _ M p; obtain ⟨b,o,rfl,rfl,r,F,l,g⟩ := p)
   dsimp only
   by_cases v:o ≥ n - hint
   ·rw[if_pos v]
    exact Bi ⟨b,o,rfl,rfl,r,l,g,.inl v⟩
   ·rw[if_neg v]
    have y:hint+o<n:=by omega
    refine Az (Uj C R ok B y ?_)
    dsimp only
    cases m:Hf blt left a (f (hint+o)) with
    | true =>
     simp only[Sm,Bw,if_false]
     exact Bi ⟨o,2 * o+1,rfl,rfl,by omega,by omega,y,m⟩
    | false =>
     simp only[Bool.not_false,if_true]
     exact Bi ⟨b,o,rfl,rfl,r,l,g,.inr ⟨y,m⟩⟩
  ·(intro c e p; obtain ⟨b,o,rfl,rfl,r,F,l,g⟩ := p)
   have : max 0 n=n:=by omega
   rw[this] at F
   exact ⟨b,o,rfl,rfl,r,l,g,.inl (by omega)⟩
  ·(intro c e p; obtain ⟨b,o,rfl,rfl,r,l,g,u⟩ := p)
   dsimp only
   refine rY C R ok B mono (by omega) (by omega) (λi G=>mono i _ (by omega) l g) (λi G J=>?_) h
   rcases u with u | ⟨u,K⟩
   ·exfalso; omega
   ·exact t _ i (by omega) J K
 | false =>
  rw[if_neg Bp]
  refine Az (Hr (Ep (I:=λx c e=>∃b o,c=(none,b,o)/\e=st/\b<o/\x+1<=o/\b<=hint/\Hf blt left a (f (hint - b))=false)
   (Q:=λc e=>∃b o,c=(none,b,o)/\e=st/\b<o/\b<=hint/\Hf blt left a (f (hint - b))=false/\(o ≥ hint+1\/(o<=hint/\Hf blt left a (f (hint - o))=true))) ?_ ?_
   ⟨0,1,rfl,rfl,by omega,by omega,by omega,L⟩) ?_)
  ·(intro x c e _ M p; obtain ⟨b,o,rfl,rfl,r,F,l,g⟩ := p)
   dsimp only
   by_cases v:o ≥ hint+1
   ·rw[if_pos v]
    exact Bi ⟨b,o,rfl,rfl,r,l,g,.inl v⟩
   ·rw[if_neg v]
    have y:hint - o<n:=by omega
    refine Az (Uj C R ok B y ?_)
    dsimp only
    cases m:Hf blt left a (f (hint - o)) with
    | true =>
     rw[if_pos rfl]
     exact Bi ⟨b,o,rfl,rfl,r,l,g,.inr ⟨by omega,m⟩⟩
    | false =>
     rw[if_neg Bp]
     exact Bi ⟨o,2 * o+1,rfl,rfl,by omega,by omega,by omega,m⟩
  ·(intro c e p; obtain ⟨b,o,rfl,rfl,r,F,l,g⟩ := p)
   have : max 0 n=n:=by omega
   rw[this] at F
   exact ⟨b,o,rfl,rfl,r,l,g,.inl (by omega)⟩
  ·(intro c e p; obtain ⟨b,o,rfl,rfl,r,l,g,u⟩ := p)
   dsimp only
   refine rY C R ok B mono (by omega) (by omega) (λi G=>?_) (λi G J=>t _ i G J g) h
   rcases u with u | ⟨u,K⟩
   ·exfalso; omega
   ·exact mono i _ (by omega) (by omega) K
end
structure MI{α:Type}(R:α->α->Prop)(xs ys out:List α)(i j:Nat):Prop where
 perm:out.Perm (xs.take i++ys.take j)
 srt:out.Pairwise R
 lx:∀o∈out,∀z∈xs.drop i,R o z
 ly:∀o∈out,∀z∈ys.drop j,R o z
section
variable{c:Type}{R:c->c->Prop}{xs ys out:List c}{i j:Nat}
theorem eT{l:List c}{n:Nat}{a:c}(h:l[n]? = some a):l.drop n=a::l.drop (n+1):=by
 obtain ⟨b,e⟩:=Av.mp h
 rw[Rm b,e]
theorem take_snoc{l:List c}{n:Nat}{a:c}(h:l[n]? = some a):l.take (n+1)=l.take n++[a]:=by
 rw[List.take_succ,h]; rfl
theorem MI.pushY(M:MI R xs ys out i j)(g:ys.Pairwise R){y:c}(d:ys[j]? = some y)(k:∀z∈xs.drop i,R y z):MI R xs ys (out++[y]) i (j+1):=by
 have b:=eT d
 have f:(y::ys.drop (j+1)).Pairwise R:=by rw[<- b]; exact Jd (Iu _ _) g
 obtain ⟨h,l⟩:=Bb.mp f
 refine ⟨?_,?_,λo ho z a=>?_,λo ho z a=>?_⟩
 ·rw[take_snoc d,<- Bt]
  exact M.perm.append_right _
 ·refine Cr.mpr ⟨M.srt,Ey _ _,λo ho z a=>?_⟩
  have e:z=y:=by simpa using a
  rw[e]
  exact M.ly o ho y (by rw[b]; exact Ab)
 ·rcases Aw.mp ho with ho | ho
  ·exact M.lx o ho z a
  ·have e:o=y:=by simpa using ho
   rw[e]; exact k z a
 ·rcases Aw.mp ho with ho | ho
  ·exact M.ly o ho z (by rw[b]; exact Ad _ a)
  ·have e:o=y:=by simpa using ho
   rw[e]; exact h z a
theorem MI.pushX(M:MI R xs ys out i j)(f:xs.Pairwise R){x:c}(d:xs[i]? = some x)(h:∀z∈ys.drop j,R x z):MI R xs ys (out++[x]) (i+1) j:=by
 have b:=eT d
 have g:(x::xs.drop (i+1)).Pairwise R:=by rw[<- b]; exact Jd (Iu _ _) f
 obtain ⟨l,m⟩:=Bb.mp g
 refine ⟨?_,?_,λo ho z a=>?_,λo ho z a=>?_⟩
 ·rw[take_snoc d]
  have k:(out++[x]).Perm ((xs.take i++ys.take j)++[x]):=M.perm.append_right _
  refine k.trans ?_
  rw[Bt,Bt]
  exact Jn _ Et
 ·refine Cr.mpr ⟨M.srt,Ey _ _,λo ho z a=>?_⟩
  have e:z=x:=by simpa using a
  rw[e]
  exact M.lx o ho x (by rw[b]; exact Ab)
 ·rcases Aw.mp ho with ho | ho
  ·exact M.lx o ho z (by rw[b]; exact Ad _ a)
  ·have e:o=x:=by simpa using ho
   rw[e]; exact l z a
 ·rcases Aw.mp ho with ho | ho
  ·exact M.ly o ho z a
  ·have e:o=x:=by simpa using ho
   rw[e]; exact h z a
theorem Tz{l:List c}{n k:Nat}{a:c}(h:l[n+k]? = some a):(l.drop n).take (k+1)=(l.drop n).take k++[a]:=take_snoc (by rw[Zd]; exact h)
theorem MI.blockX(M:MI R xs ys out i j)(b:xs.Pairwise R):∀k,i+k<=xs.length->(∀m,m<k->∀x,xs[i+m]? = some x->∀z∈ys.drop j,R x z)->MI R xs ys (out++(xs.drop i).take k) (i+k) j
 | 0,_,_=>by simpa using M
 | k+1,hk,h=>by
  have c:=MI.blockX M b k (by omega) λm d=>h m (by omega)
  obtain ⟨x,a⟩ : ∃x,xs[i+k]? = some x:=⟨xs[i+k],by simp⟩
  rw[Tz a,<- Bt]
  exact c.pushX b a (h k (by omega) x a)
theorem MI.blockY(M:MI R xs ys out i j)(b:ys.Pairwise R):∀k,j+k<=ys.length->(∀m,m<k->∀y,ys[j+m]? = some y->∀z∈xs.drop i,R y z)->MI R xs ys (out++(ys.drop j).take k) i (j+k)
 | 0,_,_=>by simpa using M
 | k+1,hk,h=>by
  have c:=MI.blockY M b k (by omega) λm d=>h m (by omega)
  obtain ⟨y,a⟩ : ∃y,ys[j+k]? = some y:=⟨ys[j+k],by simp⟩
  rw[Tz a,<- Bt]
  exact c.pushY b a (h k (by omega) y a)
theorem MI.endX(M:MI R xs ys out i j)(c:xs.Pairwise R)(a:ys.length<=j):(out++xs.drop i++ys.drop j).Perm (xs++ys)/\(out++xs.drop i++ys.drop j).Pairwise R:=by
 rw[List.drop_eq_nil_of_le a,Ec]
 constructor
 ·have b:(out++xs.drop i).Perm ((xs.take i++ys.take j)++xs.drop i):=M.perm.append_right _
  refine b.trans ?_
  rw[Js a]
  have d:(xs.take i++ys++xs.drop i).Perm (xs.take i++(xs.drop i++ys)):=by
   rw[Bt]
   exact Jn _ Et
  refine d.trans ?_
  rw[<- Bt,Fj]
 ·exact Cr.mpr ⟨M.srt,Jd (Iu _ _) c,M.lx⟩
theorem MI.endYX(M:MI R xs ys out i j)(d:xs.Pairwise R)(e:ys.Pairwise R)(h:∀y∈ys.drop j,∀x∈xs.drop i,R y x):(out++ys.drop j++xs.drop i).Perm (xs++ys)/\(out++ys.drop j++xs.drop i).Pairwise R:=by
 constructor
 ·have g:(out++(ys.drop j++xs.drop i)).Perm ((xs.take i++ys.take j)++(ys.drop j++xs.drop i)):=M.perm.append_right _
  rw[Bt]
  refine g.trans ?_
  rw[Bt,<- Bt (ys.take j),Fj]
  have f:(xs.take i++(ys++xs.drop i)).Perm (xs.take i++(xs.drop i++ys)):=Jn _ Et
  refine f.trans ?_
  rw[<- Bt,Fj]
 ·refine Cr.mpr ⟨Cr.mpr ⟨M.srt,Jd (Iu _ _) e,M.ly⟩,Jd (Iu _ _) d,λa ha b c=>?_⟩
  rcases Aw.mp ha with ha | ha
  ·exact M.lx a ha b c
  ·exact h a ha b c
end
def kS:Array Keyed->Array Keyed->StateT By Sem (Array Keyed):=sortPriv% PySem.Builtin.mergeLo
def aH:Nat->StateT By Sem Unit:=sortPriv% PySem.Builtin.setMinGallop
abbrev BV(st:By)(g:Nat):By:=SortSt.mk' (kindOf st) (arrOf st) (Bg st) g (Mq st)
theorem rH(g:Nat):aH g=modify λst=>BV st g:=rfl
theorem aK(p:Array Keyed)(i:Nat):(p.extract i p.size).toList=p.toList.drop i:=by
 rw[Oh,Lj,Js]
 rw[Nt,Am]
 exact Aj _
theorem Xj(p:Array Keyed)(i k:Nat):(p.extract i (i+k)).toList=(p.toList.drop i).take k:=by
 rw[Oh,Lj,Nat.add_sub_cancel_left]
abbrev dn(p q out:Array Keyed)(i j:Nat):Array Keyed:=out++p.extract i p.size++q.extract j q.size
abbrev lst(p q out:Array Keyed)(i j:Nat):Array Keyed:=out++q.extract j q.size++p.extract i p.size
theorem J1(p q out:Array Keyed)(i j:Nat):(dn p q out i j).toList=out.toList++p.toList.drop i++q.toList.drop j:=by
 rw[Dx,Dx,aK,aK]
theorem u0(p q out:Array Keyed)(i j:Nat):(lst p q out i j).toList=out.toList++q.toList.drop j++p.toList.drop i:=by
 rw[Dx,Dx,aK,aK]
abbrev Q1:=Option (Array Keyed)×Array Keyed×Nat×Nat×Nat×Nat×Nat
def P9(p q out:Array Keyed)(i j g a k:Nat):StateT By Sem (ForInStep Q1):=do
 let x <- elem' p i
 if (i+1+1 == p.size)=true then pure (Cv (some (lst p q (out.push x) (i+1) j),out.push x,i+1,j,g,a,k))
 else if (decide (a<7) && decide (k<7))=true then pure (Cv (none,out.push x,i+1,j,g,a,k))
 else pure (El (none,out.push x,i+1,j,g,a,k))
def K9(p q out:Array Keyed)(i j g a b:Nat):StateT By Sem (ForInStep Q1):=do
 let y <- elem' q j
 if (j+1 == q.size)=true then pure (Cv (some (dn p q (out.push y) i (j+1)),out.push y,i,j+1,g,a,b))
 else do
  let x <- elem' p i
  let some k <- Uq true x q (j+1) (q.size - (j+1)) 0 | pure (Cv (some (dn p q (out.push y) i (j+1)),out.push y,i,j+1,g,a,b))
  if k > 0 then
   if (j+1+k == q.size)=true then pure (Cv (some (dn p q (out.push y++q.extract (j+1) (j+1+k)) i (j+1+k)),out.push y++q.extract (j+1) (j+1+k),i,j+1+k,g,a,k))
   else P9 p q (out.push y++q.extract (j+1) (j+1+k)) i (j+1+k) g a k
  else P9 p q (out.push y) i (j+1) g a k
def W7(p q out:Array Keyed)(i j g b a:Nat):StateT By Sem (ForInStep Q1):=do
 aH g
 let y <- elem' q j
 let some k <- Uq false y p i (p.size - i) 0 | pure (Cv (some (dn p q out i j),out,i,j,g,b,a))
 if k > 0 then
  if (i+k+1 == p.size)=true then pure (Cv (some (lst p q (out++p.extract i (i+k)) (i+k) j),out++p.extract i (i+k),i+k,j,g,k,a))
  else if (i+k == p.size)=true then pure (Cv (some (dn p q (out++p.extract i (i+k)) (i+k) j),out++p.extract i (i+k),i+k,j,g,k,a))
  else K9 p q (out++p.extract i (i+k)) (i+k) j g k a
 else K9 p q out i j g k a
section
variable{prog:Bl}{w:World}{A:Ce}{s:Ai}{d:Ms}{Ok:Keyed->Prop}{blt:Keyed->Keyed->Bool}{E:Value->Ai->Prop}
theorem Uv{st:By}{x:String}{Q:Unit->By->Prop}(h:Q () st):wpS (model prog w) A E s (liftM (rule x):StateT By Sem Unit) Q st:=wpS_lift (Kk ⟨rfl,h⟩)
theorem Uk{st:By}{g:Nat}{Q:Unit->By->Prop}(h:∀a,Kept st a->Q () a):wpS (model prog w) A E s (aH g) Q st:=by
 rw[rH]
 exact Kj (h _ ⟨rfl,rfl,rfl,rfl⟩)
structure Two(Ok:Keyed->Prop)(blt:Keyed->Keyed->Bool)(p q:Array Keyed)(x0 y0 xl:Keyed):Prop where
 op:∀x∈p.toList,Ok x
 oq:∀x∈q.toList,Ok x
 sp:p.toList.Pairwise (le blt)
 sq:q.toList.Pairwise (le blt)
 hx0:p[0]? = some x0
 hy0:q[0]? = some y0
 hxl:p[p.size - 1]? = some xl
 first:blt y0 x0=true
 last:∀y∈q.toList,blt y xl=true
abbrev pP(blt:Keyed->Keyed->Bool)(p q r:Array Keyed):Prop:=r.toList.Perm (p.toList++q.toList)/\r.toList.Pairwise (le blt)
theorem Em{p:Array Keyed}{i:Nat}{x:Keyed}(h:p[i]? = some x):p.toList[i]? = some x:=by simpa using h
theorem Ge{p:Array Keyed}{i:Nat}(h:i<p.size):∃x,p[i]? = some x:=⟨p[i],by simp [h]⟩
theorem Kd{p:Array Keyed}{i:Nat}{x:Keyed}(h:p[i]? = some x):x∈p.toList:=Be (Em h)
theorem nH{a:Type}{l:List a}{i:Nat}{z:a}(h:z∈l.drop i):∃k,l[i+k]? = some z:=by
 obtain ⟨k,b,e⟩:=Gx.mp h
 exact ⟨k,by rw[<- Zd,Bx b,e]⟩
theorem Ls(C:Cmp prog w A s d Ok blt){l:List Keyed}(sl:l.Pairwise (le blt)){i j:Nat}{x y:Keyed}(k:i<=j)(b:l[i]? = some x)(a:l[j]? = some y):le blt x y:=by
 by_cases e:i=j
 ·subst e
  rw[b] at a
  cases a
  exact C.refl x
 ·obtain ⟨c,g⟩:=Av.mp b
  obtain ⟨f,h⟩:=Av.mp a
  have:=Lh.mp sl i j c f (by omega)
  rw[g,h] at this
  exact this
theorem Qc(C:Cmp prog w A s d Ok blt){l:List Keyed}(sl:l.Pairwise (le blt)){i:Nat}{x y:Keyed}(c:l[i]? = some x)(h:le blt y x):∀z∈l.drop i,le blt y z:=λz a=>by
 obtain ⟨k,b⟩:=nH a
 exact C.trans h (Ls C sl (Oe i k) c b)
abbrev LI(blt:Keyed->Keyed->Bool)(p q out:Array Keyed)(i j:Nat):Prop:=MI (le blt) p.toList q.toList out.toList i j
theorem Os(out:Array Keyed)(x:Keyed):(out.push x).toList=out.toList++[x]:=by simp
theorem Two.last_end(C:Cmp prog w A s d Ok blt){p q out:Array Keyed}{g c b:Keyed}(T:Two Ok blt p q g c b){i j:Nat}(M:LI blt p q out i j)(m:i+1=p.size):pP blt p q (lst p q out i j):=by
 have h:=M.endYX T.sp T.sq (λy f x l=>?_)
 ·rw[<- u0] at h
  exact h
 ·obtain ⟨k,a⟩:=nH l
  have : k=0:=by
   have:=(Av.mp a).1
   rw[Am] at this
   omega
  subst this
  have e:x=b:=by
   have:=Em T.hxl
   rw[show p.size - 1=i+0 by omega,a] at this
   exact Bv this
  rw[e]
  exact C.ofLt (T.last y (Wa f))
theorem Two.done_end{p q out:Array Keyed}{c a d:Keyed}(T:Two Ok blt p q c a d){i j:Nat}(M:LI blt p q out i j)(b:q.size<=j):pP blt p q (dn p q out i j):=by
 have h:=M.endX T.sp (by rw[Am]; exact b)
 rw[<- J1] at h
 exact h
def CZ(blt:Keyed->Keyed->Bool)(p q:Array Keyed)(st:By)(n:Nat)(r:ForInStep Q1)(a:By):Prop:=Kept st a/\match r with
 | .done (some r,_)=>pP blt p q r
 | .done (none,out,i,j,_)=>LI blt p q out i j/\i+1<p.size/\j<q.size/\n<i+j
 | .yield (none,out,i,j,_)=>LI blt p q out i j/\i+1<p.size/\j<q.size/\n<i+j
 | .yield (some _,_)=>False
theorem sO(C:Cmp prog w A s d Ok blt){p q out:Array Keyed}{r m o:Keyed}(T:Two Ok blt p q r m o){i j g f k n:Nat}{a st:By}(kp:Kept a st)(M:LI blt p q out i j)(t:i+1<p.size)(e:j<q.size)(u:n<=i+j){x:Keyed}(h:p[i]? = some x)(l:∀z∈q.toList.drop j,le blt x z):wpS (model prog w) A E s (P9 p q out i j g f k) (CZ blt p q a n) st:=by
 unfold P9
 refine Az (Ga h ?_)
 have M1:LI blt p q (out.push x) (i+1) j:=by
  have:=M.pushX T.sp (Em h) l
  rw[<- Os] at this
  exact this
 by_cases b:i+1+1=p.size
 ·rw[if_pos (by rw[b]; exact beq_self_eq_true _)]
  exact Bi ⟨kp,T.last_end C M1 b⟩
 ·rw[if_neg (λz=>b (Dz z))]
  by_cases c:(decide (f<7) && decide (k<7))=true
  ·rw[if_pos c]
   exact Bi ⟨kp,M1,by omega,e,by omega⟩
  ·rw[if_neg c]
   exact Bi ⟨kp,M1,by omega,e,by omega⟩
theorem sP(C:Cmp prog w A s d Ok blt){p q out:Array Keyed}{x0 U P:Keyed}(T:Two Ok blt p q x0 U P){i j g V Q n:Nat}{r st:By}(kp:Kept r st)(O:kindOf st=d)(M:LI blt p q out i j)(G:i+1<p.size)(hj:j<q.size)(hn:n<=i+j){x y:Keyed}(h:p[i]? = some x)(L:q[j]? = some y)(u:blt y x=true):wpS (model prog w) A E s (K9 p q out i j g V Q) (CZ blt p q r n) st:=by
 unfold K9
 refine Az (Ga L ?_)
 have M1:LI blt p q (out.push y) i (j+1):=by
  have:=M.pushY T.sq (Em L) (Qc C T.sp (Em h) (C.ofLt u))
  rw[<- Os] at this
  exact this
 by_cases J:j+1=q.size
 ·rw[if_pos (by rw[J]; exact beq_self_eq_true _)]
  exact Bi ⟨kp,T.done_end M1 (by omega)⟩
 ·rw[if_neg (λz=>J (Dz z))]
  refine Az (Ga h ?_)
  have R:Row Ok q (j+1) (q.size - (j+1)) (λm=>q.getD (j+1+m) y):=⟨λm v=>?_,λm v=>?_⟩
  ·refine Az (Ow C R (T.op x (Kd h)) O (by omega) (λa b Z hb H=>?_) λk Y X I=>?_)
   ·obtain ⟨o,c⟩:=Ge (p:=q) (i:=j+1+a) (by omega)
    obtain ⟨S,K⟩:=Ge (p:=q) (i:=j+1+b) (by omega)
    have ga:q.getD (j+1+a) y=o:=by simp [Cs,c]
    have gb:q.getD (j+1+b) y=S:=by simp [Cs,K]
    simp only[ga,gb,Hf,if_true] at H ⊢
    exact C.leLt (Ls C T.sq (by omega) (Em c) (Em K)) H
   ·dsimp only
    have val:∀m f,q[j+1+m]? = some f->q.getD (j+1+m) y=f:=λm f e=>by simp [Cs,e]
    have M2:LI blt p q (out.push y++q.extract (j+1) (j+1+k)) i (j+1+k):=by
     have:=M1.blockY T.sq k (by rw[Am]; omega) (λm v f W=>by
      have B:q[j+1+m]? = some f:=by simpa using W
      have:=X m v
      rw[val m f B] at this
      simp only[Hf,if_true] at this
      exact Qc C T.sp (Em h) (C.ofLt this))
     rw[<- Xj,<- Dx] at this
     exact this
    by_cases F:k > 0
    ·rw[if_pos F]
     by_cases N:j+1+k=q.size
     ·rw[if_pos (by rw[N]; exact beq_self_eq_true _)]
      exact Bi ⟨kp,T.done_end M2 (by omega)⟩
     ·rw[if_neg (λz=>N (Dz z))]
      obtain ⟨t,l⟩:=Ge (p:=q) (i:=j+1+k) (by omega)
      refine sO C T kp M2 G (by omega) (by omega) h (Qc C T.sq (Em l) ?_)
      have:=I k (Aj _) (by omega)
      rw[val k t l] at this
      have z:blt t x=false:=by simpa only [Hf,if_true] using this
      exact z
    ·rw[if_neg F]
     have D:k=0:=by omega
     subst D
     obtain ⟨t,l⟩:=Ge (p:=q) (i:=j+1) (by omega)
     refine sO C T kp M1 G (by omega) (by omega) h (Qc C T.sq (Em l) ?_)
     have:=I 0 (Aj _) (by omega)
     rw[val 0 t l] at this
     have z:blt t x=false:=by simpa only [Hf,if_true] using this
     exact z
  ·obtain ⟨o,c⟩:=Ge (p:=q) (i:=j+1+m) (by omega)
   rw[c]
   simp [Cs,c]
  ·obtain ⟨o,c⟩:=Ge (p:=q) (i:=j+1+m) (by omega)
   have : q.getD (j+1+m) y=o:=by simp [Cs,c]
   rw[this]
   exact T.oq o (Kd c)
theorem M8(C:Cmp prog w A s d Ok blt){p q out:Array Keyed}{x0 W B:Keyed}(T:Two Ok blt p q x0 W B){i j g Z U n:Nat}{v st:By}(kp:Kept v st)(S:kindOf st=d)(M:LI blt p q out i j)(V:i+1<p.size)(D:j<q.size)(hn:n<=i+j):wpS (model prog w) A E s (W7 p q out i j g Z U) (CZ blt p q v n) st:=by
 unfold W7
 refine Az (Uk λF u=>?_)
 have h:=kp.trans u
 have f:kindOf F=d:=u.kind.trans S
 obtain ⟨y,o⟩:=Ge (p:=q) D
 refine Az (Ga o ?_)
 have val:∀m r,p[i+m]? = some r->p.getD (i+m) y=r:=λm r e=>by simp [Cs,e]
 have R:Row Ok p i (p.size - i) (λm=>p.getD (i+m) y):=⟨λm x=>by
  obtain ⟨l,c⟩:=Ge (p:=p) (i:=i+m) (by omega)
  rw[val m l c,c],λm x=>by
  obtain ⟨l,c⟩:=Ge (p:=p) (i:=i+m) (by omega)
  show Ok (p.getD (i+m) y)
  rw[val m l c]
  exact T.op l (Kd c)⟩
 refine Az (Ow C R (T.oq y (Kd o)) f (by omega) (λa b h1 hb L=>?_) λk h0 N X=>?_)
 ·obtain ⟨l,c⟩:=Ge (p:=p) (i:=i+a) (by omega)
  obtain ⟨xb,P⟩:=Ge (p:=p) (i:=i+b) (by omega)
  simp only[val a l c,val b xb P,Hf,Bw,if_false,Kq] at L ⊢
  exact C.trans (Ls C T.sp (by omega) (Em c) (Em P)) L
 ·dsimp only
  -- the last one is beyond y: so k does not reach it
  have Q:i+k+1<=p.size:=by
   rcases Nat.lt_or_ge (i+k) p.size with z | z
   ·omega
   ·exfalso
    have:=N (p.size - 1 - i) (by omega)
    have e:p[i+(p.size - 1 - i)]? = some B:=by
     rw[show i+(p.size - 1 - i)=p.size - 1 by omega]
     exact T.hxl
    rw[val _ B e] at this
    simp only[Hf,Bw,if_false,T.last y (Kd o),Sm] at this
  have M1:LI blt p q (out++p.extract i (i+k)) (i+k) j:=by
   have:=M.blockX T.sp k (by rw[Am]; omega) (λm x r Y=>by
    have H:p[i+m]? = some r:=by simpa using Y
    have:=N m x
    rw[val m r H] at this
    simp only[Hf,Bw,if_false,Kq] at this
    exact Qc C T.sq (Em o) this)
   rw[<- Xj,<- Dx] at this
   exact this
  obtain ⟨O,G⟩:=Ge (p:=p) (i:=i+k) (by omega)
  have t:blt y O=true:=by
   have:=X k (Aj _) (by omega)
   rw[val k O G] at this
   simpa only [Hf,Bw,if_false,Qt] using this
  by_cases K:k > 0
  ·rw[if_pos K]
   by_cases J:i+k+1=p.size
   ·rw[if_pos (by rw[J]; exact beq_self_eq_true _)]
    exact Bi ⟨h,T.last_end C M1 J⟩
   ·rw[if_neg (λz=>J (Dz z)),if_neg (λz=>by have:=Dz z; omega)]
    exact sP C T h f M1 (by omega) D (by omega) G o t
  ·rw[if_neg K]
   have I:k=0:=by omega
   subst I
   exact sP C T h f M V D hn G o t
theorem pU(C:Cmp prog w A s d Ok blt){p q:Array Keyed}{x0 X xl:Keyed}(T:Two Ok blt p q x0 X xl){st:By}(W:kindOf st=d){Q:Array Keyed->By->Prop}(h:∀r a,Kept st a->pP blt p q r->Q r a):wpS (model prog w) A E s (kS p q) Q st:=by
 have p0:0<p.size:=by
  have:=(Hs.mp T.hx0).1
  exact this
 have q0:0<q.size:=by
  have:=(Hs.mp T.hy0).1
  exact this
 have R:LI blt p q #[X] 0 1:=by
  have m:LI blt p q #[] 0 0:=⟨by simp,by simp,λo S=>by simp at S,λo S=>by simp at S⟩
  have:=m.pushY T.sq (Em T.hy0) (Qc C T.sp (Em T.hx0) (C.ofLt T.first))
  simpa using this
 unfold kS
 refine Az (Uv ?_)
 refine Az (Ga T.hy0 ?_)
 dsimp only
 by_cases Z:1=q.size
 ·rw[if_pos (by rw[<- Z]; rfl)]
  exact Bi (h _ _ (Kept.refl _) (T.done_end R (by omega)))
 rw[if_neg (λz=>Z (Dz z))]
 by_cases V:0+1=p.size
 ·rw[if_pos (by rw[<- V]; rfl)]
  exact Bi (h _ _ (Kept.refl _) (T.last_end C R (by omega)))
 rw[if_neg (λz=>V (Dz z))]
 refine Az (Nw ?_)
 refine Az (Hr (Ep
  (I:=λx c a=>Kept st a/\∃out i j g,c=(none,out,i,j,g)/\LI blt p q out i j/\i+1<p.size/\j<q.size/\x+1<=i+j)
  (Q:=λc a=>Kept st a/\∃r Ht,c=(some r,Ht)/\pP blt p q r) ?_ ?_ ⟨Kept.refl _,_,0,1,_,rfl,R,by omega,by omega,by omega⟩) ?_)
 ·(intro x c B _ G u; obtain ⟨t,out,i,j,g,rfl,M,n,l,v⟩ := u)
  dsimp only
  -- one by one
  refine Az (Hr (Ep
   (I:=λ_ c a=>a=B/\∃out i j e b,c=(none,out,i,j,e,b)/\LI blt p q out i j/\i+1<p.size/\j<q.size/\x+1<=i+j)
   (Q:=λc a=>a=B/\((∃r Ht,c=(some r,Ht)/\pP blt p q r)\/∃out i j e b,c=(none,out,i,j,e,b)/\LI blt p q out i j/\i+1<p.size/\j<q.size/\x+1<=i+j)) ?_ ?_ ⟨rfl,out,i,j,0,0,rfl,M,n,l,v⟩) ?_)
  ·(intro z c J _ hz u; obtain ⟨rfl,out,i,j,e,b,rfl,M,n,l,v⟩ := u)
   dsimp only
   obtain ⟨N,H⟩:=Ge (p:=q) l
   obtain ⟨U,G⟩:=Ge (p:=p) (i:=i) (by omega)
   refine Az (Ga H ?_)
   refine Az (Ga G ?_)
   refine Az (nJ C (t.kind.trans W) (T.oq N (Kd H)) (T.op U (Kd G)) ?_)
   dsimp only
   cases Y:blt N U with
   | true =>
    rw[if_pos rfl]
    refine Az (Ga H ?_)
    have M1:LI blt p q (out.push N) i (j+1):=by
     have:=M.pushY T.sq (Em H) (Qc C T.sp (Em G) (C.ofLt Y))
     rw[<- Os] at this
     exact this
    by_cases K:j+1=q.size
    ·rw[if_pos (by rw[K]; exact beq_self_eq_true _)]
     exact Bi ⟨rfl,.inl ⟨_,_,rfl,T.done_end M1 (by omega)⟩⟩
    ·rw[if_neg (λz=>K (Dz z))]
     split
     ·exact Bi ⟨rfl,.inr ⟨_,_,_,_,_,rfl,M1,n,by omega,by omega⟩⟩
     ·exact Bi ⟨rfl,_,_,_,_,_,rfl,M1,n,by omega,by omega⟩
   | false =>
    rw[if_neg Bp]
    refine Az (Ga G ?_)
    have M1:LI blt p q (out.push U) (i+1) j:=by
     have:=M.pushX T.sp (Em G) (Qc C T.sq (Em H) Y)
     rw[<- Os] at this
     exact this
    by_cases K:i+1+1=p.size
    ·rw[if_pos (by rw[K]; exact beq_self_eq_true _)]
     exact Bi ⟨rfl,.inl ⟨_,_,rfl,T.last_end C M1 (by omega)⟩⟩
    ·rw[if_neg (λz=>K (Dz z))]
     split
     ·exact Bi ⟨rfl,.inr ⟨_,_,_,_,_,rfl,M1,by omega,l,by omega⟩⟩
     ·exact Bi ⟨rfl,_,_,_,_,_,rfl,M1,by omega,l,by omega⟩
  ·(intro c J u; obtain ⟨rfl,out,i,j,e,b,rfl,M⟩ := u)
   exact ⟨rfl,.inr ⟨out,i,j,e,b,rfl,M⟩⟩
  ·rintro c J ⟨rfl,hc⟩
   rcases hc with hc | hc
   ·obtain ⟨r,Ht,rfl,f⟩:=hc
    exact Bi ⟨t,r,_,rfl,f⟩
   ·obtain ⟨out,i,j,e,b,rfl,M,n,l,v⟩:=hc
    dsimp only
    refine Az (Uv ?_)
    -- the gallop
    refine Az (Hr (Ep
     (I:=λy c a=>Kept st a/\∃out i j g e b,c=(none,out,i,j,g,e,b)/\LI blt p q out i j/\i+1<p.size/\j<q.size/\(if y=0 then x+1<=i+j else x+2<=i+j))
     (Q:=λc a=>Kept st a/\((∃r Ht,c=(some r,Ht)/\pP blt p q r)\/∃out i j g e b,c=(none,out,i,j,g,e,b)/\LI blt p q out i j/\i+1<p.size/\j<q.size/\x+2<=i+j)) ?_ ?_
     ⟨t,out,i,j,_,e,b,rfl,M,n,l,by rw[if_pos rfl]; exact v⟩) ?_)
    ·(intro y c F _ H u; obtain ⟨k,out,i,j,g,e,b,rfl,M,n,l,v⟩ := u)
     have P:x+1<=i+j:=by split at v <;> omega
     have L:∀g',wpS (model prog w) A E s (W7 p q out i j g' e b) (CZ blt p q st (x+1)) F:=λg'=>M8 C T k (k.kind.trans W) M n l P
     dsimp only
     refine Hr (?_:wpS (model prog w) A E s _ (CZ blt p q st (x+1)) F) λr O f=>?_
     ·by_cases hg:g > 1
      ·rw[if_pos hg]
       exact L _
      ·rw[if_neg hg]
       exact L _
     ·obtain ⟨D,f⟩:=f
      match r,f with
      | .done (some r,Ht),f=>exact ⟨D,.inl ⟨r,Ht,rfl,f⟩⟩
      | .done (none,out,i,j,g,e,b),f=>exact ⟨D,.inr ⟨out,i,j,g,e,b,rfl,f.1,f.2.1,f.2.2.1,by have:=f.2.2.2; omega⟩⟩
      | .yield (none,out,i,j,g,e,b),f=>exact ⟨D,out,i,j,g,e,b,rfl,f.1,f.2.1,f.2.2.1,by rw[if_neg (by omega)]; have:=f.2.2.2; omega⟩
    ·(intro c F u; obtain ⟨k,out,i,j,g,e,b,rfl,M,n,l,v⟩ := u)
     rw[if_neg (by omega)] at v
     exact ⟨k,.inr ⟨out,i,j,g,e,b,rfl,M,n,l,v⟩⟩
    ·rintro c F ⟨k,hc⟩
     rcases hc with hc | hc
     ·obtain ⟨r,Ht,rfl,f⟩:=hc
      exact Bi ⟨k,r,_,rfl,f⟩
     ·obtain ⟨out,i,j,g,e,b,rfl,M,n,l,v⟩:=hc
      dsimp only
      refine Az (Uk λO D=>?_)
      exact Bi ⟨k.trans D,out,i,j,_,rfl,M,n,l,by omega⟩
 ·(intro c B u; obtain ⟨t,out,i,j,g,rfl,M,n,l,v⟩ := u)
  exfalso
  have : max 0 (p.size+q.size)=p.size+q.size:=by omega
  rw[this] at v
  omega
 ·(intro c B u; obtain ⟨t,r,Ht,rfl,f⟩ := u)
  exact Bi (h r B t f)
end
def mM:Array Keyed->Array Keyed->StateT By Sem (Array Keyed):=sortPriv% PySem.Builtin.mergeHi
abbrev Y2(p q out:Array Keyed)(m n:Nat):Array Keyed:=p.extract 0 m++q.extract 0 n++out.reverse
abbrev HB(p q out:Array Keyed)(m n:Nat):Array Keyed:=q.extract 0 n++p.extract 0 m++out.reverse
abbrev K1:=Option (Array Keyed)×Nat×Nat×Array Keyed×Nat×Nat×Nat
def K0(p q out:Array Keyed)(m n g a k:Nat):StateT By Sem (ForInStep K1):=do
 let x <- elem' p (m - 1)
 if (m - 1 == 0)=true then pure (Cv (some (Y2 p q (out.push x) (m - 1) n),m - 1,n,out.push x,g,a,k))
 else if (decide (a<7) && decide (k<7))=true then pure (Cv (none,m - 1,n,out.push x,g,a,k))
 else pure (El (none,m - 1,n,out.push x,g,a,k))
def J9(p q out:Array Keyed)(m n g a b:Nat):StateT By Sem (ForInStep K1):=do
 let y <- elem' q (n - 1)
 if (n - 1 == 1)=true then pure (Cv (some (HB p q (out.push y) m (n - 1)),m,n - 1,out.push y,g,a,b))
 else do
  let x <- elem' p (m - 1)
  let some t <- Uq true x q 0 (n - 1) (n - 1 - 1) | pure (Cv (some (Y2 p q (out.push y) m (n - 1)),m,n - 1,out.push y,g,a,b))
  if n - 1 - t > 0 then
   if (t == 1)=true then pure (Cv (some (HB p q (out.push y++(q.extract t (n - 1)).reverse) m t),m,t,out.push y++(q.extract t (n - 1)).reverse,g,a,n - 1 - t))
   else if (t == 0)=true then pure (Cv (some (Y2 p q (out.push y++(q.extract t (n - 1)).reverse) m t),m,t,out.push y++(q.extract t (n - 1)).reverse,g,a,n - 1 - t))
   else K0 p q (out.push y++(q.extract t (n - 1)).reverse) m t g a (n - 1 - t)
  else K0 p q (out.push y) m (n - 1) g a (n - 1 - t)
def Z2(p q out:Array Keyed)(m n g b a:Nat):StateT By Sem (ForInStep K1):=do
 aH g
 let y <- elem' q (n - 1)
 let some t <- Uq false y p 0 m (m - 1) | pure (Cv (some (Y2 p q out m n),m,n,out,g,b,a))
 if m - t > 0 then
  if (t == 0)=true then pure (Cv (some (Y2 p q (out++(p.extract t m).reverse) t n),t,n,out++(p.extract t m).reverse,g,m - t,a))
  else J9 p q (out++(p.extract t m).reverse) t n g (m - t) a
 else J9 p q out m n g (m - t) a
section
variable{a:Type}{R:a->a->Prop}{xs ys out:List a}{i j:Nat}
theorem MI.swap(M:MI R xs ys out i j):MI R ys xs out j i:=⟨M.perm.trans Et,M.srt,M.ly,M.lx⟩
theorem MI.endXY(M:MI R xs ys out i j)(a:xs.Pairwise R)(b:ys.Pairwise R)(h:∀x∈xs.drop i,∀y∈ys.drop j,R x y):(out++xs.drop i++ys.drop j).Perm (xs++ys)/\(out++xs.drop i++ys.drop j).Pairwise R:=by
 have:=M.swap.endYX b a h
 exact ⟨this.1.trans Et,this.2⟩
end
abbrev ge(blt:Keyed->Keyed->Bool)(x y:Keyed):Prop:=le blt y x
abbrev HI(blt:Keyed->Keyed->Bool)(p q out:Array Keyed)(m n:Nat):Prop:=MI (ge blt) p.toList.reverse q.toList.reverse out.toList (p.size - m) (q.size - n)
theorem Kc(p:Array Keyed){m:Nat}(h:m<=p.size):p.toList.reverse.drop (p.size - m)=(p.toList.take m).reverse:=by
 rw[List.drop_reverse,Am]
 congr 2
 omega
theorem n9{p:Array Keyed}{m:Nat}{x:Keyed}(a:0<m)(h:m<=p.size)(e:p[m - 1]? = some x):p.toList.reverse[p.size - m]? = some x:=by
 rw[Ve (by rw[Am]; omega),Am,show p.size - 1 - (p.size - m)=m - 1 by omega]
 exact Em e
theorem R0(p:Array Keyed)(m:Nat):(p.extract 0 m).toList=p.toList.take m:=by
 rw[Oh,Lj,Wc,Nat.sub_zero]
theorem DU(p:Array Keyed){t m:Nat}(b:t<=m)(a:m<=p.size):(p.extract t m).reverse.toList=(p.toList.reverse.drop (p.size - m)).take (m - t):=by
 rw[Kc p a,List.take_reverse,Vm,Oh,Lj,Du,Am,List.drop_take]
 congr 2
 ·omega
 ·congr 1
  omega
section
variable{prog:Bl}{w:World}{A:Ce}{s:Ai}{d:Ms}{Ok:Keyed->Prop}{blt:Keyed->Keyed->Bool}{E:Value->Ai->Prop}
theorem Kb{l:List Keyed}(h:l.Pairwise (le blt)):l.reverse.Pairwise (ge blt):=Vd.mpr h
theorem Two.dn_end{p q out:Array Keyed}{j g i:Keyed}(T:Two Ok blt p q j g i){m n:Nat}(M:HI blt p q out m n)(b:m<=p.size)(c:n<=q.size)(h:m=0\/n=0):pP blt p q (Y2 p q out m n):=by
 have a:=M.endYX (Kb T.sp) (Kb T.sq) (λy d x f=>by
  rw[Kc p b] at f
  rw[Kc q c] at d
  rcases h with h | h
  ·subst h; simp at f
  ·subst h; simp at d)
 rw[Kc p b,Kc q c] at a
 have e:(Y2 p q out m n).toList=(out.toList++(q.toList.take n).reverse++(p.toList.take m).reverse).reverse:=by
  rw[Dx,Dx,R0,R0,Vm]
  simp
 refine ⟨?_,?_⟩
 ·rw[e]
  refine (Kn _).trans (a.1.trans ?_)
  exact List.Perm.append (Kn _) (Kn _)
 ·rw[e]
  exact Vd.mpr a.2
theorem Two.fs_end(C:Cmp prog w A s d Ok blt){p q out:Array Keyed}{v j u:Keyed}(T:Two Ok blt p q v j u){m n:Nat}(M:HI blt p q out m n)(i:m<=p.size)(r:n=1)(h:1<=q.size):pP blt p q (HB p q out m n):=by
 subst r
 have c:=M.endXY (Kb T.sp) (Kb T.sq) (λx o y l=>by
  rw[Kc p i] at o
  rw[Kc q h] at l
  have t:y=j:=by
   have : y∈q.toList.take 1:=Sy.mp l
   obtain ⟨k,b,e⟩:=Gx.mp this
   have g:k=0:=by
    rw[Du] at b
    omega
   subst g
   have a:q.toList[0]? = some y:=by
    rw[<- e,<- Bx b,Iy (by omega)]
   rw[Em T.hy0] at a
   exact (Bv a).symm
  rw[t]
  have f:x∈p.toList:=List.mem_of_mem_take (Sy.mp o)
  obtain ⟨k,b,e⟩:=Gx.mp f
  have a:p.toList[k]? = some x:=by rw[<- e,Bx b]
  exact C.trans (C.ofLt T.first) (Ls C T.sp (Di k) (Em T.hx0) a))
 rw[Kc p i,Kc q h] at c
 have e:(HB p q out m 1).toList=(out.toList++(p.toList.take m).reverse++(q.toList.take 1).reverse).reverse:=by
  rw[Dx,Dx,R0,R0,Vm]
  simp
 refine ⟨?_,?_⟩
 ·rw[e]
  refine (Kn _).trans (c.1.trans ?_)
  exact List.Perm.append (Kn _) (Kn _)
 ·rw[e]
  exact Vd.mpr c.2
theorem Ul(C:Cmp prog w A s d Ok blt){p:Array Keyed}(sp:p.toList.Pairwise (le blt)){m:Nat}{x y:Keyed}(i:0<m)(f:m<=p.size)(g:p[m - 1]? = some x)(h:le blt x y):∀z∈p.toList.reverse.drop (p.size - m),ge blt y z:=λz b=>by
 rw[Kc p f] at b
 obtain ⟨k,a,e⟩:=Gx.mp (Sy.mp b)
 have c:p.toList[k]? = some z:=by
  rw[Du] at a
  rw[<- e,<- Bx (by rw[Du]; exact a),Iy (by omega)]
 rw[Du] at a
 exact C.trans (Ls C sp (by omega) c (Em g)) h
theorem HI.pushX(C:Cmp prog w A s d Ok blt){p q out:Array Keyed}{f b e:Keyed}(T:Two Ok blt p q f b e){m n:Nat}(M:HI blt p q out m n)(c:0<m)(a:m<=p.size){x:Keyed}(g:p[m - 1]? = some x)(h:∀z∈q.toList.reverse.drop (q.size - n),ge blt x z):HI blt p q (out.push x) (m - 1) n:=by
 have:=MI.pushX M (Kb T.sp) (n9 c a g) h
 rw[<- Os,show p.size - m+1=p.size - (m - 1) by omega] at this
 exact this
theorem HI.pushY(C:Cmp prog w A s d Ok blt){p q out:Array Keyed}{g a f:Keyed}(T:Two Ok blt p q g a f){m n:Nat}(M:HI blt p q out m n)(b:0<n)(c:n<=q.size){y:Keyed}(e:q[n - 1]? = some y)(h:∀z∈p.toList.reverse.drop (p.size - m),ge blt y z):HI blt p q (out.push y) m (n - 1):=by
 have:=MI.pushY M (Kb T.sq) (n9 b c e) h
 rw[<- Os,show q.size - n+1=q.size - (n - 1) by omega] at this
 exact this
def DN(blt:Keyed->Keyed->Bool)(p q:Array Keyed)(st:By)(b:Nat)(r:ForInStep K1)(a:By):Prop:=Kept st a/\match r with
 | .done (some r,_)=>pP blt p q r
 | .done (none,m,n,out,_)=>HI blt p q out m n/\0<m/\m<=p.size/\1<n/\n<=q.size/\m+n<b
 | .yield (none,m,n,out,_)=>HI blt p q out m n/\0<m/\m<=p.size/\1<n/\n<=q.size/\m+n<b
 | .yield (some _,_)=>False
theorem uC(C:Cmp prog w A s d Ok blt){p q out:Array Keyed}{v r t:Keyed}(T:Two Ok blt p q v r t){m n g i k b:Nat}{a st:By}(kp:Kept a st)(M:HI blt p q out m n)(u:0<m)(o:m<=p.size)(h:1<n)(e:n<=q.size)(hb:m+n<=b){x:Keyed}(j:p[m - 1]? = some x)(l:∀z∈q.toList.reverse.drop (q.size - n),ge blt x z):wpS (model prog w) A E s (K0 p q out m n g i k) (DN blt p q a b) st:=by
 unfold K0
 refine Az (Ga j ?_)
 have M1:=HI.pushX C T M u o j l
 by_cases c:m - 1=0
 ·rw[if_pos (by rw[c]; rfl)]
  exact Bi ⟨kp,T.dn_end M1 (by omega) e (.inl c)⟩
 ·rw[if_neg (λz=>c (Dz z))]
  by_cases f:(decide (i<7) && decide (k<7))=true
  ·rw[if_pos f]
   exact Bi ⟨kp,M1,by omega,by omega,h,e,by omega⟩
  ·rw[if_neg f]
   exact Bi ⟨kp,M1,by omega,by omega,h,e,by omega⟩
theorem tF(C:Cmp prog w A s d Ok blt){p q out:Array Keyed}{x0 Y V:Keyed}(T:Two Ok blt p q x0 Y V){m n g ac W b:Nat}{v st:By}(kp:Kept v st)(S:kindOf st=d)(M:HI blt p q out m n)(B:0<m)(j:m<=p.size)(n0:1<n)(hn:n<=q.size)(hb:m+n<=b){x y:Keyed}(o:p[m - 1]? = some x)(P:q[n - 1]? = some y)(I:le blt x y):wpS (model prog w) A E s (J9 p q out m n g ac W) (DN blt p q v b) st:=by
 unfold J9
 refine Az (Ga P ?_)
 have M1:=HI.pushY C T M (by omega) hn P (Ul C T.sp B j o I)
 by_cases G:n - 1=1
 ·rw[if_pos (by rw[G]; rfl)]
  exact Bi ⟨kp,T.fs_end C M1 j G (by omega)⟩
 rw[if_neg (λz=>G (Dz z))]
 refine Az (Ga o ?_)
 have val:∀i l,q[i]? = some l->q.getD (0+i) y=l:=λi l e=>by rw[Mz]; simp [Cs,e]
 have R:Row Ok q 0 (n - 1) (λi=>q.getD (0+i) y):=⟨λi L=>by
  obtain ⟨r,h⟩:=Ge (p:=q) (i:=i) (by omega)
  rw[val i r h,Mz,h],λi L=>by
  obtain ⟨r,h⟩:=Ge (p:=q) (i:=i) (by omega)
  show Ok (q.getD (0+i) y)
  rw[val i r h]
  exact T.oq r (Kd h)⟩
 refine Az (Ow C R (T.op x (Kd o)) S (by omega) (λa c F hc N=>?_) λt ht t1 Z=>?_)
 ·obtain ⟨r,h⟩:=Ge (p:=q) (i:=a) (by omega)
  obtain ⟨X,K⟩:=Ge (p:=q) (i:=c) (by omega)
  simp only[val a r h,val c X K,Hf,if_true] at N ⊢
  exact C.leLt (Ls C T.sq F (Em h) (Em K)) N
 dsimp only
 have M2:HI blt p q (out.push y++(q.extract t (n - 1)).reverse) m t:=by
  have:=MI.blockY M1 (Kb T.sq) (n - 1 - t) (by rw[List.length_reverse,Am]; omega) (λi L l O=>by
   have e1:q[n - 1 - i - 1]? = some l:=by
    rw[Ve (by rw[Am]; omega),Am,show q.size - 1 - (q.size - (n - 1)+i)=n - 1 - i - 1 by omega] at O
    simpa using O
   have:=Z (n - 1 - i - 1) (by omega) (by omega)
   rw[val _ l e1] at this
   have z:blt l x=false:=by simpa only [Hf,if_true] using this
   exact Ul C T.sp B j o z)
  rw[<- DU q (by omega) (by omega),<- Dx,show q.size - (n - 1)+(n - 1 - t)=q.size - t by omega] at this
  exact this
 -- what is left of q is f x
 have f:∀z∈q.toList.reverse.drop (q.size - t),ge blt x z:=λz Q=>by
  rw[Kc q (by omega)] at Q
  obtain ⟨k,u,e⟩:=Gx.mp (Sy.mp Q)
  rw[Du] at u
  have e2:q.toList[k]? = some z:=by
   rw[<- e,<- Bx (by rw[Du]; exact u),Iy (by omega)]
  have e3:q[k]? = some z:=by simpa using e2
  have:=t1 k (by omega)
  rw[val k z e3] at this
  exact C.ofLt (by simpa only [Hf,if_true] using this)
 by_cases J:n - 1 - t > 0
 ·rw[if_pos J]
  by_cases H:t=1
  ·rw[if_pos (by rw[H]; rfl)]
   exact Bi ⟨kp,T.fs_end C M2 j H (by omega)⟩
  ·rw[if_neg (λz=>H (Dz z))]
   by_cases D:t=0
   ·rw[if_pos (by rw[D]; rfl)]
    exact Bi ⟨kp,T.dn_end M2 j (by omega) (.inr D)⟩
   ·rw[if_neg (λz=>D (Dz z))]
    exact uC C T kp M2 B j (by omega) (by omega) (by omega) o f
 ·rw[if_neg J]
  have U:t=n - 1:=by omega
  rw[U] at f
  exact uC C T kp M1 B j (by omega) (by omega) (by omega) o f
theorem Q6(C:Cmp prog w A s d Ok blt){p q out:Array Keyed}{x0 X V:Keyed}(T:Two Ok blt p q x0 X V){m n g Z W b:Nat}{v st:By}(kp:Kept v st)(S:kindOf st=d)(M:HI blt p q out m n)(Q:0<m)(J:m<=p.size)(L:1<n)(D:n<=q.size)(hb:m+n<=b):wpS (model prog w) A E s (Z2 p q out m n g Z W) (DN blt p q v b) st:=by
 unfold Z2
 refine Az (Uk λF u=>?_)
 have o:=kp.trans u
 have k:kindOf F=d:=u.kind.trans S
 obtain ⟨y,B⟩:=Ge (p:=q) (i:=n - 1) (by omega)
 refine Az (Ga B ?_)
 have val:∀i l,p[i]? = some l->p.getD (0+i) y=l:=λi l e=>by rw[Mz]; simp [Cs,e]
 have R:Row Ok p 0 m (λi=>p.getD (0+i) y):=⟨λi N=>by
  obtain ⟨r,h⟩:=Ge (p:=p) (i:=i) (by omega)
  rw[val i r h,Mz,h],λi N=>by
  obtain ⟨r,h⟩:=Ge (p:=p) (i:=i) (by omega)
  show Ok (p.getD (0+i) y)
  rw[val i r h]
  exact T.op r (Kd h)⟩
 refine Az (Ow C R (T.oq y (Kd B)) k (by omega) (λa c G hc O=>?_) λt ht t1 Y=>?_)
 ·obtain ⟨r,h⟩:=Ge (p:=p) (i:=a) (by omega)
  obtain ⟨xc,K⟩:=Ge (p:=p) (i:=c) (by omega)
  simp only[val a r h,val c xc K,Hf,Bw,if_false,Kq] at O ⊢
  exact C.trans (Ls C T.sp G (Em h) (Em K)) O
 dsimp only
 have M1:HI blt p q (out++(p.extract t m).reverse) t n:=by
  have:=MI.blockX M (Kb T.sp) (m - t) (by rw[List.length_reverse,Am]; omega) (λi N l P=>by
   have e1:p[m - i - 1]? = some l:=by
    rw[Ve (by rw[Am]; omega),Am,show p.size - 1 - (p.size - m+i)=m - i - 1 by omega] at P
    simpa using P
   have:=Y (m - i - 1) (by omega) (by omega)
   rw[val _ l e1] at this
   have z:blt y l=true:=by simpa only [Hf,Bw,if_false,Qt] using this
   exact Ul C T.sq (by omega) D B (C.ofLt z))
  rw[<- DU p (by omega) J,<- Dx,show p.size - m+(m - t)=p.size - t by omega] at this
  exact this
 have f:∀x,0<t->p[t - 1]? = some x->le blt x y:=λx h0 j=>by
  have:=t1 (t - 1) (by omega)
  rw[val _ x j] at this
  have z:blt y x=false:=by simpa only [Hf,Bw,if_false,Kq] using this
  exact z
 by_cases I:m - t > 0
 ·rw[if_pos I]
  by_cases H:t=0
  ·rw[if_pos (by rw[H]; rfl)]
   exact Bi ⟨o,T.dn_end M1 (by omega) D (.inl H)⟩
  ·rw[if_neg (λz=>H (Dz z))]
   obtain ⟨x,j⟩:=Ge (p:=p) (i:=t - 1) (by omega)
   exact tF C T o k M1 (by omega) (by omega) L D (by omega) j B (f x (by omega) j)
 ·rw[if_neg I]
  have U:t=m:=by omega
  subst U
  obtain ⟨x,j⟩:=Ge (p:=p) (i:=t - 1) (by omega)
  exact tF C T o k M Q J L D hb j B (f x Q j)
theorem pO(C:Cmp prog w A s d Ok blt){p q:Array Keyed}{x0 y0 xl:Keyed}(T:Two Ok blt p q x0 y0 xl){st:By}(hk:kindOf st=d){Q:Array Keyed->By->Prop}(h:∀r a,Kept st a->pP blt p q r->Q r a):wpS (model prog w) A E s (mM p q) Q st:=by
 have p0:0<p.size:=(Hs.mp T.hx0).1
 have q0:0<q.size:=(Hs.mp T.hy0).1
 obtain ⟨yl,O⟩:=Ge (p:=q) (i:=q.size - 1) (by omega)
 have X:HI blt p q #[xl] (p.size - 1) q.size:=by
  have m:HI blt p q #[] p.size q.size:=⟨by simp,by simp,λo Y=>by simp at Y,λo Y=>by simp at Y⟩
  have:=HI.pushX C T m p0 (Aj _) T.hxl (Ul C T.sq q0 (Aj _) O (C.ofLt (T.last yl (Kd O))))
  simpa using this
 unfold mM
 refine Az (Uv ?_)
 refine Az (Ga T.hxl ?_)
 dsimp only
 by_cases W:p.size - 1=0
 ·rw[if_pos (by rw[W]; rfl)]
  exact Bi (h _ _ (Kept.refl _) (T.dn_end X (by omega) (by omega) (.inl W)))
 rw[if_neg (λz=>W (Dz z))]
 by_cases U:q.size=1
 ·rw[if_pos (by rw[U]; rfl)]
  exact Bi (h _ _ (Kept.refl _) (T.fs_end C X (by omega) U (by omega)))
 rw[if_neg (λz=>U (Dz z))]
 refine Az (Nw ?_)
 refine Az (Hr (Ep
  (I:=λx c a=>Kept st a/\∃m n out g,c=(none,m,n,out,g)/\HI blt p q out m n/\0<m/\m<=p.size/\1<n/\n<=q.size/\m+n+x+1<=p.size+q.size)
  (Q:=λc a=>Kept st a/\∃r Ht,c=(some r,Ht)/\pP blt p q r) ?_ ?_ ⟨Kept.refl _,_,_,_,_,rfl,X,by omega,by omega,by omega,by omega,by omega⟩) ?_)
 ·(intro x c F _ K B; obtain ⟨v,m,n,out,g,rfl,M,t,j,u,k,D⟩ := B)
  dsimp only
  -- one by one
  refine Az (Hr (Ep
   (I:=λ_ c a=>a=F/\∃m n out f e,c=(none,m,n,out,f,e)/\HI blt p q out m n/\0<m/\m<=p.size/\1<n/\n<=q.size/\m+n+x+1<=p.size+q.size)
   (Q:=λc a=>a=F/\((∃r Ht,c=(some r,Ht)/\pP blt p q r)\/∃m n out f e,c=(none,m,n,out,f,e)/\HI blt p q out m n/\0<m/\m<=p.size/\1<n/\n<=q.size/\m+n+x+1<=p.size+q.size)) ?_ ?_ ⟨rfl,m,n,out,0,0,rfl,M,t,j,u,k,D⟩) ?_)
  ·(intro z c P _ hz B; obtain ⟨rfl,m,n,out,f,e,rfl,M,t,j,u,k,D⟩ := B)
   dsimp only
   obtain ⟨Z,L⟩:=Ge (p:=q) (i:=n - 1) (by omega)
   obtain ⟨xx,K⟩:=Ge (p:=p) (i:=m - 1) (by omega)
   refine Az (Ga L ?_)
   refine Az (Ga K ?_)
   refine Az (nJ C (v.kind.trans hk) (T.oq Z (Kd L)) (T.op xx (Kd K)) ?_)
   dsimp only
   cases R:blt Z xx with
   | true =>
    rw[if_pos rfl]
    refine Az (Ga K ?_)
    have M1:=HI.pushX C T M t j K (Ul C T.sq (by omega) k L (C.ofLt R))
    by_cases J:m - 1=0
    ·rw[if_pos (by rw[J]; rfl)]
     exact Bi ⟨rfl,.inl ⟨_,_,rfl,T.dn_end M1 (by omega) k (.inl J)⟩⟩
    ·rw[if_neg (λz=>J (Dz z))]
     split
     ·exact Bi ⟨rfl,.inr ⟨_,_,_,_,_,rfl,M1,by omega,by omega,u,k,by omega⟩⟩
     ·exact Bi ⟨rfl,_,_,_,_,_,rfl,M1,by omega,by omega,u,k,by omega⟩
   | false =>
    rw[if_neg Bp]
    refine Az (Ga L ?_)
    have M1:=HI.pushY C T M (by omega) k L (Ul C T.sp t j K R)
    by_cases J:n - 1=1
    ·rw[if_pos (by rw[J]; rfl)]
     exact Bi ⟨rfl,.inl ⟨_,_,rfl,T.fs_end C M1 j J (by omega)⟩⟩
    ·rw[if_neg (λz=>J (Dz z))]
     split
     ·exact Bi ⟨rfl,.inr ⟨_,_,_,_,_,rfl,M1,t,j,by omega,by omega,by omega⟩⟩
     ·exact Bi ⟨rfl,_,_,_,_,_,rfl,M1,t,j,by omega,by omega,by omega⟩
  ·(intro c P B; obtain ⟨rfl,m,n,out,f,e,rfl,M⟩ := B)
   exact ⟨rfl,.inr ⟨m,n,out,f,e,rfl,M⟩⟩
  ·rintro c P ⟨rfl,hc⟩
   rcases hc with hc | hc
   ·obtain ⟨r,Ht,rfl,b⟩:=hc
    exact Bi ⟨v,r,_,rfl,b⟩
   ·obtain ⟨m,n,out,f,e,rfl,M,t,j,u,k,D⟩:=hc
    dsimp only
    refine Az (Uv ?_)
    -- the gallop
    refine Az (Hr (Ep
     (I:=λy c a=>Kept st a/\∃m n out g f e,c=(none,m,n,out,g,f,e)/\HI blt p q out m n/\0<m/\m<=p.size/\1<n/\n<=q.size/\(if y=0 then m+n+x+1<=p.size+q.size else m+n+x+2<=p.size+q.size))
     (Q:=λc a=>Kept st a/\((∃r Ht,c=(some r,Ht)/\pP blt p q r)\/∃m n out g f e,c=(none,m,n,out,g,f,e)/\HI blt p q out m n/\0<m/\m<=p.size/\1<n/\n<=q.size/\m+n+x+2<=p.size+q.size)) ?_ ?_
     ⟨v,m,n,out,_,f,e,rfl,M,t,j,u,k,by rw[if_pos rfl]; exact D⟩) ?_)
    ·(intro y c H _ L B; obtain ⟨l,m,n,out,g,f,e,rfl,M,t,j,u,k,D⟩ := B)
     have h0:m+n+x+1<=p.size+q.size:=by split at D <;> omega
     have S:∀N,wpS (model prog w) A E s (Z2 p q out m n N f e) (DN blt p q st (m+n)) H:=λN=>Q6 C T l (l.kind.trans hk) M t j u k (Aj _)
     dsimp only
     refine Hr (?_:wpS (model prog w) A E s _ (DN blt p q st (m+n)) H) λr V b=>?_
     ·by_cases hg:g > 1
      ·rw[if_pos hg]
       exact S _
      ·rw[if_neg hg]
       exact S _
     ·obtain ⟨G,b⟩:=b
      match r,b with
      | .done (some r,Ht),b=>exact ⟨G,.inl ⟨r,Ht,rfl,b⟩⟩
      | .done (none,m',n',out',N,ac',bc'),b=>exact ⟨G,.inr ⟨m',n',out',N,ac',bc',rfl,b.1,b.2.1,b.2.2.1,b.2.2.2.1,b.2.2.2.2.1,by have:=b.2.2.2.2.2; omega⟩⟩
      | .yield (none,m',n',out',N,ac',bc'),b=>exact ⟨G,m',n',out',N,ac',bc',rfl,b.1,b.2.1,b.2.2.1,b.2.2.2.1,b.2.2.2.2.1,by rw[if_neg (by omega)]; have:=b.2.2.2.2.2; omega⟩
    ·(intro c H B; obtain ⟨l,m,n,out,g,f,e,rfl,M,t,j,u,k,D⟩ := B)
     rw[if_neg (by omega)] at D
     exact ⟨l,.inr ⟨m,n,out,g,f,e,rfl,M,t,j,u,k,D⟩⟩
    ·rintro c H ⟨l,hc⟩
     rcases hc with hc | hc
     ·obtain ⟨r,Ht,rfl,b⟩:=hc
      exact Bi ⟨l,r,_,rfl,b⟩
     ·obtain ⟨m,n,out,g,f,e,rfl,M,t,j,u,k,D⟩:=hc
      dsimp only
      refine Az (Uk λV G=>?_)
      exact Bi ⟨l.trans G,m,n,out,_,rfl,M,t,j,u,k,by omega⟩
 ·(intro c F B; obtain ⟨v,m,n,out,g,rfl,M,t,j,u,k,D⟩ := B)
  exfalso
  have : max 0 (p.size+q.size)=p.size+q.size:=by omega
  rw[this] at D
  omega
 ·(intro c F B; obtain ⟨v,r,Ht,rfl,b⟩ := B)
  exact Bi (h r F v b)
end
def fG:Nat->Nat->StateT By Sem (Option Nat):=sortPriv% PySem.Builtin.countRun
def Zi:Nat->Nat->Nat->StateT By Sem Bool:=sortPriv% PySem.Builtin.binarySort
def X(xs:Array Keyed)(i:Nat):Keyed:=xs[i]?.getD (Fp,Fp)
theorem aB{xs:Array Keyed}{i:Nat}(h:i<xs.size):xs[i]? = some (X xs i):=by
 unfold X
 rw[getElem?_pos xs i h]
 rfl
theorem Sj{xs ys:Array Keyed}{i j:Nat}(h:xs[i]? = ys[j]?):X xs i=X ys j:=by unfold X; rw[h]
theorem Tf{xs:Array Keyed}{i j:Nat}(a:j<=xs.size)(k:Nat):X (mirror xs i j ((j - i) / 2)) k=if i<=k/\k<j then X xs (i+j - 1 - k) else X xs k:=by
 have e:=getElem?_mirror_all (i:=i) a k
 by_cases h:i<=k/\k<j
 ·rw[if_pos h] at e ⊢; exact Sj e
 ·rw[if_neg h] at e ⊢; exact Sj e
theorem C2{xs:Array Keyed}{src d:Nat}(c:src<xs.size)(hd:d<=src)(k:Nat):X (bubble xs src d) k=if k=src - d then X xs src else if src - d<k/\k<=src then X xs (k - 1) else X xs k:=by
 have e:=getElem?_bubble c d hd k
 by_cases a:k=src - d
 ·rw[if_pos a] at e ⊢; exact Sj e
 ·rw[if_neg a] at e ⊢
  by_cases b:src - d<k/\k<=src
  ·rw[if_pos b] at e ⊢; exact Sj e
  ·rw[if_neg b] at e ⊢; exact Sj e
def Ua(blt:Keyed->Keyed->Bool)(xs:Array Keyed)(a b:Nat):Prop:=∀i j,a<=i->i<=j->j<b->le blt (X xs i) (X xs j)
def xN(blt:Keyed->Keyed->Bool)(xs:Array Keyed)(a b:Nat):Prop:=∀i j,a<=i->i<=j->j<b->le blt (X xs j) (X xs i)
structure Good(kd:Ms)(a₀:Array Keyed)(pend:Array (Nat×Nat×Nat))(st:By):Prop where
 kind:kindOf st=kd
 fail:Mq st=none
 perm:(arrOf st).Perm a₀
 pd:Bg st=pend
def kD(xs ys:Array Keyed)(a b:Nat):Prop:=∀i,(i<a\/b<=i)->X ys i=X xs i
theorem kD.refl(xs:Array Keyed)(a b:Nat):kD xs xs a b:=λ_ _=>rfl
theorem kD.trans{xs ys c:Array Keyed}{a b:Nat}(h:kD xs ys a b)(k:kD ys c a b):kD xs c a b:=λi d=>(k i d).trans (h i d)
section
variable{prog:Bl}{w:World}{A:Ce}{s:Ai}{f:Ms}{Ok:Keyed->Prop}{blt:Keyed->Keyed->Bool}{E:Value->Ai->Prop}{a₀:Array Keyed}{d:Array (Nat×Nat×Nat)}
theorem Good.size{st:By}(g:Good f a₀ d st):(arrOf st).size=a₀.size:=g.perm.size_eq
theorem Good.okX{st:By}(g:Good f a₀ d st)(a:∀x∈a₀.toList,Ok x){i:Nat}(b:i<a₀.size):Ok (X (arrOf st) i):=by
 have e:=aB (xs:=arrOf st) (i:=i) (by rw[g.size]; exact b)
 exact a _ ((Qn.mp g.perm).mem_iff.mp (Kd e))
theorem Good.set{st:By}(g:Good f a₀ d st){xs:Array Keyed}(h:xs.Perm (arrOf st)):Good f a₀ d (setArr st xs):=⟨g.kind,g.fail,h.trans g.perm,g.pd⟩
theorem Ws(C:Cmp prog w A s f Ok blt){st:By}(g:Good f a₀ d st)(a:∀x∈a₀.toList,Ok x){i j:Nat}(c:i<a₀.size)(b:j<a₀.size){Q:Option Bool->By->Prop}(h:Q (some (blt (X (arrOf st) i) (X (arrOf st) j))) st):wpS (model prog w) A E s (ltAt' i j) Q st:=by
 rw[ltAt'_eq]
 refine Az (Nw ?_)
 refine Az (Ga (aB (by rw[g.size]; exact c)) ?_)
 refine Az (Ga (aB (by rw[g.size]; exact b)) ?_)
 exact nJ C g.kind (g.okX a c) (g.okX a b) h
theorem Rz{st:By}{i j:Nat}{Q:Unit->By->Prop}(h:Q () (setArr st (mirror (arrOf st) i j ((j - i) / 2)))):wpS (model prog w) A E s (Ux i j) Q st:=by
 rw[reverseSlice'_eq]
 exact Kj h
def FN(lo a b:Nat):StateT By Sem (Option (Option Nat)×Nat) :=
 forIn [a:b] ((none,a):Option (Option Nat)×Nat) λ_ c=>do
  let some eO <- ltAt' (lo+c.2) (lo+c.2 - 1) | pure (Cv (some none,c.2))
  if eO=true then pure (Cv (none,c.2)) else pure (El (none,c.2+1))
theorem xU(C:Cmp prog w A s f Ok blt){st:By}(g:Good f a₀ d st)(y:∀x∈a₀.toList,Ok x){lo a b:Nat}(hb:lo+b<=a₀.size)(F:1<=a)(l:a<=b)(v:Ua blt (arrOf st) lo (lo+a)){Q:Option (Option Nat)×Nat->By->Prop}(h:∀n,a<=n->n<=b->Ua blt (arrOf st) lo (lo+n)->(n=b\/blt (X (arrOf st) (lo+n)) (X (arrOf st) (lo+n - 1))=true)->Q (none,n) st):wpS (model prog w) A E s (FN lo a b) Q st:=by
 unfold FN
 refine Ep (I:=λx c e=>e=st/\c=(none,x)/\Ua blt (arrOf st) lo (lo+x)) ?_ ?_ ⟨rfl,rfl,v⟩
 ·(intro x c e r z o; obtain ⟨rfl,rfl,k⟩ := o)
  dsimp only
  refine Az (Ws C g y (by omega) (by omega) ?_)
  dsimp only
  cases t:blt (X (arrOf e) (lo+x)) (X (arrOf e) (lo+x - 1)) with
  | true =>
   rw[if_pos rfl]
   exact Bi (h x r (by omega) k (.inr t))
  | false =>
   rw[if_neg Bp]
   refine Bi ⟨rfl,rfl,λi j u p D=>?_⟩
   by_cases q:j<lo+x
   ·exact k i j u p q
   ·have B:j=lo+x:=by omega
    subst B
    by_cases m:i=lo+x
    ·subst m; exact C.refl _
    ·exact C.trans (k i (lo+x - 1) u (by omega) (by omega)) t
 ·(intro c e o; obtain ⟨rfl,rfl,k⟩ := o)
  rw[show max a b=b by omega] at k ⊢
  exact h b l (Aj _) k (.inl rfl)
theorem pZ{xs:Array Keyed}{lo n:Nat}(a:lo+n<=xs.size)(h:xN blt xs lo (lo+n)):Ua blt (mirror xs lo (lo+n) ((lo+n - lo) / 2)) lo (lo+n):=λi j d b c=>by
 rw[Tf a,Tf a,if_pos (by omega),if_pos (by omega)]
 exact h _ _ (by omega) (by omega) (by omega)
theorem Yd{xs:Array Keyed}{lo n b e:Nat}(m:lo+n<=xs.size)(l:e<=lo+n)(hb:lo<=b)(h:xN blt xs lo (lo+n))(c:∀i j,b<=i->i<e->b<=j->j<e->le blt (X xs i) (X xs j)):xN blt (mirror xs b e ((e - b) / 2)) lo (lo+n):=λi j f d k=>by
 rw[Tf (by omega),Tf (by omega)]
 by_cases g:b<=j/\j<e
 ·rw[if_pos g]
  by_cases a:b<=i/\i<e
  ·rw[if_pos a]
   exact c _ _ (by omega) (by omega) (by omega) (by omega)
  ·rw[if_neg a]
   exact h _ _ f (by omega) (by omega)
 ·rw[if_neg g]
  by_cases a:b<=i/\i<e
  ·rw[if_pos a]
   exact h _ _ (by omega) (by omega) (by omega)
  ·rw[if_neg a]
   exact h i j f d k
theorem Sd{xs:Array Keyed}{a b i j:Nat}(d:a<=i)(e:j<=b)(c:j<=xs.size):kD xs (mirror xs i j ((j - i) / 2)) a b:=λk f=>by
 rw[Tf c,if_neg (by omega)]
def C0(lo n b:Nat):StateT By Sem (Option Nat):=do
 Ux lo (lo+n)
 let mut m:=n
 for _ in [n:b] do
  let some eO <- ltAt' (lo+m) (lo+m - 1) | return none
  if eO then break
  m:=m+1
 return some m
theorem sV(C:Cmp prog w A s f Ok blt){st:By}(g:Good f a₀ d st)(l:∀x∈a₀.toList,Ok x){lo n b:Nat}(hb:lo+b<=a₀.size)(p:1<=n)(i:n<=b)(k:xN blt (arrOf st) lo (lo+n)){Q:Option Nat->By->Prop}(h:∀m a,Good f a₀ d a->1<=m->m<=b->Ua blt (arrOf a) lo (lo+m)->kD (arrOf st) (arrOf a) lo (lo+b)->Q (some m) a):wpS (model prog w) A E s (C0 lo n b) Q st:=by
 unfold C0
 have c:lo+n<=(arrOf st).size:=by rw[g.size]; omega
 refine Az (Rz ?_)
 have j:Good f a₀ d (setArr st (mirror (arrOf st) lo (lo+n) ((lo+n - lo) / 2))):=g.set (mirror_perm _ _ _ _)
 refine Az (xU C j l hb p i (pZ c k) λm o e q _=>?_)
 exact Bi (h m _ j (by omega) e q (Sd (Aj _) (by omega) c))
abbrev AD:=Option (Option Nat)×Nat×Nat
def FC(lo a b:Nat):StateT By Sem AD :=
 forIn [a:b] ((none,a,0):AD) λ_ c=>do
  let some eO <- ltAt' (lo+c.2.1) (lo+c.2.1 - 1) | pure (Cv (some none,c.2.1,c.2.2))
  if eO=true then
   if c.2.2 > 0 then do
    Ux (lo+c.2.1 - (c.2.2+1)) (lo+c.2.1)
    pure (El (none,c.2.1+1,0))
   else pure (El (none,c.2.1+1,0))
  else do
   let some more <- ltAt' (lo+c.2.1 - 1) (lo+c.2.1) | pure (Cv (some none,c.2.1,c.2.2))
   if more=true then pure (Cv (none,c.2.1,c.2.2)) else pure (El (none,c.2.1+1,c.2.2+1))
def R7(blt:Keyed->Keyed->Bool)(xs:Array Keyed)(lo n e:Nat):Prop:=e+1<=n/\∀i j,lo+n - (e+1)<=i->i<lo+n->lo+n - (e+1)<=j->j<lo+n->le blt (X xs i) (X xs j)
theorem n6(C:Cmp prog w A s f Ok blt){xs:Array Keyed}{lo n:Nat}(h:1<=n):R7 blt xs lo n 0:=⟨by omega,λi j d b c a=>by
 have e:i=j:=by omega
 subst e
 exact C.refl _⟩
theorem Xh(C:Cmp prog w A s f Ok blt){xs:Array Keyed}{lo n:Nat}(l:1<=n)(h:xN blt xs lo (lo+n))(e:le blt (X xs (lo+n)) (X xs (lo+n - 1))):xN blt xs lo (lo+(n+1)):=λi j d b k=>by
 by_cases c:j<lo+n
 ·exact h i j d b c
 ·have g:j=lo+n:=by omega
  subst g
  by_cases a:i=lo+n
  ·subst a; exact C.refl _
  ·exact C.trans e (h i (lo+n - 1) d (by omega) (by omega))
theorem Q2(C:Cmp prog w A s f Ok blt){st:By}(g:Good f a₀ d st)(K:∀x∈a₀.toList,Ok x){lo a b:Nat}(hb:lo+b<=a₀.size)(M:1<=a)(t:a<=b)(P:xN blt (arrOf st) lo (lo+a)){Q:AD->By->Prop}(h:∀n e k,Good f a₀ d k->a<=n->n<=b->xN blt (arrOf k) lo (lo+n)->R7 blt (arrOf k) lo n e->kD (arrOf st) (arrOf k) lo (lo+b)->Q (none,n,e) k):wpS (model prog w) A E s (FC lo a b) Q st:=by
 unfold FC
 refine Ep (I:=λx c k=>∃e,c=(none,x,e)/\Good f a₀ d k/\xN blt (arrOf k) lo (lo+x)/\R7 blt (arrOf k) lo x e/\kD (arrOf st) (arrOf k) lo (lo+b)) ?_ ?_
  ⟨0,rfl,g,P,n6 C M,kD.refl _ _ _⟩
 ·(intro x c k B N u; obtain ⟨e,rfl,m,o,l,p⟩ := u)
  have O:(arrOf k).size=a₀.size:=m.size
  dsimp only
  refine Az (Ws C m K (by omega) (by omega) ?_)
  dsimp only
  cases J:blt (X (arrOf k) (lo+x)) (X (arrOf k) (lo+x - 1)) with
  | true =>
   rw[if_pos rfl]
   have G:=Xh C (by omega) o (C.ofLt J)
   have one:∀H:Array Keyed,R7 blt H lo (x+1) 0:=λH=>⟨by omega,λi j z q r y=>by
    have : i=j:=by omega
    subst this
    exact C.refl _⟩
   by_cases L:e > 0
   ·rw[if_pos L]
    refine Az (Rz ?_)
    refine Bi ⟨0,rfl,m.set (mirror_perm _ _ _ _),?_,one _,p.trans (Sd (by have:=l.1; omega) (by omega) (by omega))⟩
    exact Yd (by omega) (by omega) (by have:=l.1; omega) G λi j z q r y=>l.2 i j z q r y
   ·rw[if_neg L]
    exact Bi ⟨0,rfl,m,G,one _,p⟩
  | false =>
   rw[if_neg Bp]
   refine Az (Ws C m K (by omega) (by omega) ?_)
   dsimp only
   cases D:blt (X (arrOf k) (lo+x - 1)) (X (arrOf k) (lo+x)) with
   | true =>
    rw[if_pos rfl]
    exact Bi (h x e k m B (by omega) o l p)
   | false =>
    rw[if_neg Bp]
    refine Bi ⟨e+1,rfl,m,Xh C (by omega) o D,⟨by have:=l.1; omega,λi j z q r y=>?_⟩,p⟩
    have S:le blt (X (arrOf k) (lo+x - 1)) (X (arrOf k) (lo+x)):=J
    have R:le blt (X (arrOf k) (lo+x)) (X (arrOf k) (lo+x - 1)):=D
    by_cases F:i=lo+x
    ·by_cases v:j=lo+x
     ·rw[F,v]; exact C.refl _
     ·rw[F]
      exact C.trans R (l.2 (lo+x - 1) j (by omega) (by omega) (by omega) (by omega))
    ·by_cases v:j=lo+x
     ·rw[v]
      exact C.trans (l.2 i (lo+x - 1) (by omega) (by omega) (by omega) (by omega)) S
     ·exact l.2 i j (by omega) (by omega) (by omega) (by omega)
 ·(intro c k u; obtain ⟨e,rfl,m,o,l,p⟩ := u)
  rw[show max a b=b by omega] at o l ⊢
  exact h b e k m t (Aj _) o l p
def T8(lo n b:Nat):StateT By Sem (Option Nat):=do
 liftM (rule "list.sort.descending-run")
 let mut m:=n+1
 let mut e:=0
 for _ in [m:b] do
  let some eO <- ltAt' (lo+m) (lo+m - 1) | return none
  if eO then
   if e > 0 then Ux (lo+m - (e+1)) (lo+m)
   e:=0
  else
   let some more <- ltAt' (lo+m - 1) (lo+m) | return none
   if more then break
   e:=e+1
  m:=m+1
 if e > 0 then Ux (lo+m - (e+1)) (lo+m)
 C0 lo m b
theorem tU(C:Cmp prog w A s f Ok blt){st:By}(g:Good f a₀ d st)(t:∀x∈a₀.toList,Ok x){lo n b:Nat}(hb:lo+b<=a₀.size)(q:n+1<=b)(K:xN blt (arrOf st) lo (lo+(n+1))){Q:Option Nat->By->Prop}(h:∀m a,Good f a₀ d a->1<=m->m<=b->Ua blt (arrOf a) lo (lo+m)->kD (arrOf st) (arrOf a) lo (lo+b)->Q (some m) a):wpS (model prog w) A E s (T8 lo n b) Q st:=by
 unfold T8
 refine Az (Uv ?_)
 refine Az (Q2 C g t hb (by omega) q K λk e u r N D B p G=>?_)
 dsimp only
 have J:(arrOf u).size=a₀.size:=r.size
 by_cases F:e > 0
 ·rw[if_pos F]
  refine Az (Rz ?_)
  refine sV C (r.set (mirror_perm _ _ _ _)) t hb (by omega) D (Yd (by omega) (by omega) (by have:=p.1; omega) B λi j M H I L=>p.2 i j M H I L) λm c v z y o l=>?_
  exact h m c v z y o ((G.trans (Sd (by have:=p.1; omega) (by omega) (by omega))).trans l)
 ·rw[if_neg F]
  exact sV C r t hb (by omega) D B λm c v z y o l=>h m c v z y o (G.trans l)
theorem yB(C:Cmp prog w A s f Ok blt){st:By}(g:Good f a₀ d st)(q:∀x∈a₀.toList,Ok x){lo b:Nat}(hb:lo+b<=a₀.size)(I:1<=b){Q:Option Nat->By->Prop}(h:∀m a,Good f a₀ d a->1<=m->m<=b->Ua blt (arrOf a) lo (lo+m)->kD (arrOf st) (arrOf a) lo (lo+b)->Q (some m) a):wpS (model prog w) A E s (fG lo b) Q st:=by
 unfold fG
 have J:(arrOf st).size=a₀.size:=g.size
 refine Az (xU C g q hb (Aj _) I (λi j o t k=>by
  have : i=j:=by omega
  subst this
  exact C.refl _) λn y D p v=>?_)
 dsimp only
 by_cases e:n=b
 ·rw[if_pos (by rw[e]; exact beq_self_eq_true _)]
  exact Bi (h n st g y D p (kD.refl _ _ _))
 rw[if_neg (λz=>e (Dz z))]
 have l:blt (X (arrOf st) (lo+n)) (X (arrOf st) (lo+n - 1))=true:=v.resolve_left e
 by_cases F:n > 1
 ·rw[if_pos F]
  refine Az (Ws C g q (by omega) (by omega) ?_)
  dsimp only
  cases K:blt (X (arrOf st) lo) (X (arrOf st) (lo+n - 1)) with
  | true =>
   rw[if_pos rfl]
   exact Bi (h n st g y D p (kD.refl _ _ _))
  | false =>
   rw[if_neg Bp]
   refine Az (Rz ?_)
   -- all of it are alike
   have c:∀i j,lo<=i->i<lo+n->lo<=j->j<lo+n->le blt (X (arrOf st) i) (X (arrOf st) j):=λi j o t k M =>
    C.trans (p i (lo+n - 1) o (by omega) (by omega)) (C.trans K (p lo j (Aj _) k M))
   have r:xN blt (arrOf st) lo (lo+(n+1)):=Xh C y (λi j o t k=>c j i (by omega) k o (by omega)) (C.ofLt l)
   exact tU C (g.set (mirror_perm _ _ _ _)) q hb (by omega) (Yd (by omega) (by omega) (Aj _) r c) λm u L O N H B=>h m u L O N H ((Sd (Aj _) (by omega) (by omega)).trans B)
 ·rw[if_neg F]
  have G:n=1:=by omega
  subst G
  have r:xN blt (arrOf st) lo (lo+(1+1)):=Xh C (Aj _) (λi j o t k=>by
   have : i=j:=by omega
   subst this
   exact C.refl _) (C.ofLt l)
  exact tU C g q hb (by omega) r h
end
def Xl:Nat->StateT By Sem Bool:=sortPriv% PySem.Builtin.mergeAt
section
variable{prog:Bl}{w:World}{A:Ce}{s:Ai}{b:Ms}{Ok:Keyed->Prop}{blt:Keyed->Keyed->Bool}{E:Value->Ai->Prop}{a₀:Array Keyed}{a:Array (Nat×Nat×Nat)}
theorem nZ{st:By}{i j:Nat}{Q:Unit->By->Prop}(h:Q () (setArr st (bubble (arrOf st) i (i - j)))):wpS (model prog w) A E s (moveDown' i j) Q st:=by
 rw[moveDown'_eq]
 exact Kj h
theorem uW(C:Cmp prog w A s b Ok blt){st:By}(g:Good b a₀ a st)(V:∀x∈a₀.toList,Ok x){lo n ok:Nat}(hb:lo+n<=a₀.size)(S:Ua blt (arrOf st) lo (lo+ok))(U:ok<=n){Q:Bool->By->Prop}(h:∀f,Good b a₀ a f->Ua blt (arrOf f) lo (lo+n)->kD (arrOf st) (arrOf f) lo (lo+n)->Q true f):wpS (model prog w) A E s (Zi lo n ok) Q st:=by
 unfold Zi
 refine Az (Hr (Ep
  (I:=λk c f=>c=(none,())/\Good b a₀ a f/\Ua blt (arrOf f) lo (lo+k)/\kD (arrOf st) (arrOf f) lo (lo+n))
  (Q:=λc f=>c=(none,())/\Good b a₀ a f/\Ua blt (arrOf f) lo (lo+n)/\kD (arrOf st) (arrOf f) lo (lo+n)) ?_ ?_ ⟨rfl,g,?_,kD.refl _ _ _⟩) ?_)
 ·(intro k c m Z W p; obtain ⟨rfl,t,q,F⟩ := p)
  have Y:(arrOf m).size=a₀.size:=t.size
  dsimp only
  refine Az (Hr (Ep
   (I:=λy c f=>f=m/\∃l r,c=(none,l,r)/\l<=r/\r<=k/\r - l+y<=k/\(∀i,i<l->le blt (X (arrOf m) (lo+i)) (X (arrOf m) (lo+k)))/\(∀i,r<=i->i<k->blt (X (arrOf m) (lo+k)) (X (arrOf m) (lo+i))=true))
   (Q:=λc f=>f=m/\∃l,c=(none,l,l)/\l<=k/\(∀i,i<l->le blt (X (arrOf m) (lo+i)) (X (arrOf m) (lo+k)))/\(∀i,l<=i->i<k->blt (X (arrOf m) (lo+k)) (X (arrOf m) (lo+i))=true)) ?_ ?_
   ⟨rfl,0,k,rfl,by omega,by omega,by omega,λi M=>by omega,λi S h2=>by omega⟩) ?_)
  ·(intro y c o _ hy p; obtain ⟨rfl,l,r,rfl,a1,D,P,v,u⟩ := p)
   dsimp only
   by_cases z:l ≥ r
   ·rw[if_pos z]
    have e:l=r:=by omega
    subst e
    exact Bi ⟨rfl,l,rfl,D,v,u⟩
   ·rw[if_neg z]
    refine Az (Ws C t V (by omega) (by omega) ?_)
    dsimp only
    cases L:blt (X (arrOf o) (lo+k)) (X (arrOf o) (lo+(l+r) / 2)) with
    | true =>
     rw[if_pos rfl]
     exact Bi ⟨rfl,l,(l+r) / 2,rfl,by omega,by omega,by omega,v,λi H B=>C.ltLe L (q _ _ (by omega) (by omega) (by omega))⟩
    | false =>
     rw[if_neg Bp]
     exact Bi ⟨rfl,(l+r) / 2+1,r,rfl,by omega,D,by omega,λi M=>C.trans (q _ _ (by omega) (by omega) (by omega)) L,u⟩
  ·(intro c o p; obtain ⟨rfl,l,r,rfl,a1,D,P,v,u⟩ := p)
   have : max 0 k=k:=by omega
   rw[this] at P
   have e:l=r:=by omega
   subst e
   exact ⟨rfl,l,rfl,D,v,u⟩
  ·(intro c o p; obtain ⟨rfl,l,rfl,D,v,u⟩ := p)
   dsimp only
   refine Az (nZ ?_)
   have K:=λi=>C2 (xs:=arrOf o) (src:=lo+k) (d:=lo+k - (lo+l)) (by omega) (by omega) i
   have O:lo+k - (lo+k - (lo+l))=lo+l:=by omega
   refine Bi ⟨rfl,t.set (bubble_perm _ _ _),λi j H B N=>?_,F.trans λi M=>?_⟩
   ·show le blt (X (bubble (arrOf o) (lo+k) (lo+k - (lo+l))) i) (X (bubble (arrOf o) (lo+k) (lo+k - (lo+l))) j)
    rw[K,K,O]
    by_cases T:i=lo+l
    ·rw[if_pos T]
     by_cases G:j=lo+l
     ·rw[if_pos G]; exact C.refl _
     ·rw[if_neg G]
      by_cases J:lo+l<j/\j<=lo+k
      ·rw[if_pos J]
       have:=u (j - 1 - lo) (by omega) (by omega)
       rw[show lo+(j - 1 - lo)=j - 1 by omega] at this
       exact C.ofLt this
      ·exfalso; omega
    ·rw[if_neg T]
     by_cases G:j=lo+l
     ·rw[if_pos G,if_neg (by omega)]
      have:=v (i - lo) (by omega)
      rw[show lo+(i - lo)=i by omega] at this
      exact this
     ·rw[if_neg G]
      by_cases J:lo+l<i/\i<=lo+k
      ·rw[if_pos J,if_pos (by omega)]
       exact q _ _ (by omega) (by omega) (by omega)
      ·rw[if_neg J]
       by_cases R:lo+l<j/\j<=lo+k
       ·rw[if_pos R]
        exact q _ _ (by omega) (by omega) (by omega)
       ·rw[if_neg R]
        exact q _ _ (by omega) (by omega) (by omega)
   ·show X (bubble (arrOf o) (lo+k) (lo+k - (lo+l))) i=X (arrOf o) i
    rw[K,O,if_neg (by omega),if_neg (by omega)]
 ·(intro c m p; obtain ⟨rfl,t,q,F⟩ := p)
  refine ⟨rfl,t,λi j H B N=>q i j H B (by omega),F⟩
 ·intro i j H B N
  by_cases e:i=j
  ·subst e; exact C.refl _
  ·exact S i j H B (by omega)
 ·(intro c m p; obtain ⟨rfl,t,q,F⟩ := p)
  exact Bi (h m t q F)
end
abbrev Pc(xs:Array Keyed)(b:Nat)(l:List (Keyed×Nat)):Array Keyed:=l.foldl (λa x=>match x with | (p,j)=>a.setIfInBounds (b+j) p) xs
theorem cQ(b:Nat):∀(l:List Keyed) (o:Nat) (xs:Array Keyed),b+o+l.length<=xs.size->(Pc xs b (l.zipIdx o)).size=xs.size/\∀i:Nat,(Pc xs b (l.zipIdx o))[i]? = if b+o<=i/\i<b+o+l.length then l[i - (b+o)]? else xs[i]?
 | [],o,xs,_=>⟨rfl,λi=>by rw[if_neg (by rw[Ij]; omega)]; rfl⟩
 | x::l,o,xs,h=>by
  rw[Bm] at h
  have c:=cQ b l (o+1) (xs.setIfInBounds (b+o) x) (by rw[Ro]; omega)
  have e:Pc xs b ((x::l).zipIdx o)=Pc (xs.setIfInBounds (b+o) x) b (l.zipIdx (o+1)):=by
   rw[Nq]
   rfl
  rw[e]
  refine ⟨c.1.trans (Ro),λi=>?_⟩
  rw[c.2 i,Bm]
  by_cases a:b+(o+1)<=i/\i<b+(o+1)+l.length
  ·rw[if_pos a,if_pos (by omega)]
   rw[show i - (b+o)=(i - (b+(o+1)))+1 by omega,oU]
  ·rw[if_neg a]
   by_cases d:i=b+o
   ·subst d
    rw[if_pos (by omega),Array.getElem?_setIfInBounds_self_of_lt (by omega),Nat.sub_self]
    rfl
   ·rw[if_neg (by omega),Array.getElem?_setIfInBounds_ne (by omega)]
theorem rD{xs m:Array Keyed}{b n:Nat}(hb:b+n<=xs.size)(g:m.size=n)(f:m.toList.Perm ((xs.toList.drop b).take n)):(Pc xs b m.toList.zipIdx).Perm xs:=by
 have h:=cQ b m.toList 0 xs (by rw[Am]; omega)
 have e:(Pc xs b m.toList.zipIdx).toList=xs.toList.take b++(m.toList++xs.toList.drop (b+n)):=by
  apply Ir
  intro i
  have a:=h.2 i
  rw[Am,g] at a
  have d:(Pc xs b m.toList.zipIdx).toList[i]? = (Pc xs b m.toList.zipIdx)[i]?:=by simp
  rw[d,a]
  have lt:(xs.toList.take b).length=b:=by rw[Du,Am]; omega
  by_cases j:i<b
  ·rw[if_neg (by omega),Li (by omega),Iy j]
   simp
  ·rw[Gh (by omega),lt]
   by_cases k:i<b+n
   ·rw[if_pos (by omega),Li (by rw[Am]; omega)]
    congr 1
   ·rw[if_neg (by omega),Gh (by rw[Am]; omega),Zd,Am]
    rw[show b+n+(i - b - m.size)=i by omega]
    simp
 refine Array.perm_iff_toList_perm.mpr ?_
 rw[e]
 have c:xs.toList=xs.toList.take b++((xs.toList.drop b).take n++xs.toList.drop (b+n)):=by
  conv=>lhs; rw[<- Fj b xs.toList]
  congr 1
  conv=>lhs; rw[<- Fj n (xs.toList.drop b)]
  rw[List.drop_drop]
 conv=>rhs; rw[c]
 exact Jn _ (List.Perm.append_right _ f)
theorem Yp{xs:Array Keyed}{a n:Nat}(h:a+n<=xs.size){i:Nat}(b:i<n):(xs.extract a (a+n))[i]? = some (X xs (a+i)):=by
 rw[Array.getElem?_extract,if_pos (by omega)]
 exact aB (by omega)
theorem Tq{xs:Array Keyed}{a n:Nat}(h:a+n<=xs.size):(xs.extract a (a+n)).size=n:=by
 rw[Array.size_extract]
 omega
theorem Ww{xs:Array Keyed}{a n:Nat}(h:a+n<=xs.size){x:Keyed}(f:x∈(xs.extract a (a+n)).toList):∃i,i<n/\x=X xs (a+i):=by
 obtain ⟨i,b,e⟩:=Gx.mp f
 rw[Am,Tq h] at b
 refine ⟨i,b,?_⟩
 have d:=Yp h b
 have c:(xs.extract a (a+n)).toList[i]? = some x:=by rw[<- e,<- Bx]
 rw[Fh,d] at c
 exact (Bv c).symm
section
variable{prog:Bl}{w:World}{A:Ce}{s:Ai}{kd:Ms}{Ok:Keyed->Prop}{blt:Keyed->Keyed->Bool}{E:Value->Ai->Prop}{a₀:Array Keyed}{f:Array (Nat×Nat×Nat)}
theorem bC(C:Cmp prog w A s kd Ok blt){xs:Array Keyed}{a n c d:Nat}(h:a+n<=xs.size)(m:Ua blt xs c d)(q:c<=a)(p:a+n<=d):(xs.extract a (a+n)).toList.Pairwise (le blt):=by
 rw[Lh]
 intro i j b e l
 rw[Am,Tq h] at b e
 have k:(xs.extract a (a+n)).toList[i]? = some (X xs (a+i)):=by rw[Fh]; exact Yp h b
 have f:(xs.extract a (a+n)).toList[j]? = some (X xs (a+j)):=by rw[Fh]; exact Yp h e
 obtain ⟨_,g⟩:=Av.mp k
 obtain ⟨_,o⟩:=Av.mp f
 rw[g,o]
 exact m _ _ (by omega) (by omega) (by omega)
theorem mD(C:Cmp prog w A s kd Ok blt){xs:Array Keyed}{a b c:Nat}(l:a<b)(f:Ua blt xs a b)(d:Ua blt xs b c)(h:le blt (X xs (b - 1)) (X xs b)):Ua blt xs a c:=λi j k e g=>by
 by_cases n:j<b
 ·exact f i j k e n
 ·by_cases m:b<=i
  ·exact d i j m e g
  ·exact C.trans (f i (b - 1) k (by omega) (by omega)) (C.trans h (d b j (Aj _) (by omega) g))
structure Good0(kd:Ms)(a₀:Array Keyed)(st:By):Prop where
 kind:kindOf st=kd
 fail:Mq st=none
 perm:(arrOf st).Perm a₀
theorem Good0.size{st:By}(g:Good0 kd a₀ st):(arrOf st).size=a₀.size:=g.perm.size_eq
theorem Good0.okX{st:By}(g:Good0 kd a₀ st)(a:∀x∈a₀.toList,Ok x){i:Nat}(b:i<a₀.size):Ok (X (arrOf st) i):=by
 have e:=aB (xs:=arrOf st) (i:=i) (by rw[g.size]; exact b)
 exact a _ ((Qn.mp g.perm).mem_iff.mp (Kd e))
theorem u6{st:By}(g:Good0 kd a₀ st)(a:∀x∈a₀.toList,Ok x){b n:Nat}(h:b+n<=a₀.size):Row Ok (arrOf st) b n (λi=>X (arrOf st) (b+i)) :=
 ⟨λi c=>aB (by rw[g.size]; omega),λi c=>g.okX a (by omega)⟩
theorem AS{st a:By}{Q:Unit->By->Prop}(h:Q () a):wpS (model prog w) A E s (set a:StateT By Sem Unit) Q st:=by
 unfold wpS
 rw[StateT.run_set]
 exact Ac ⟨rfl,h⟩
theorem pW(C:Cmp prog w A s kd Ok blt){st:By}(g:Good0 kd a₀ st)(N:∀x∈a₀.toList,Ok x){i f p U j q pb:Nat}(hi:(Bg st)[i]? = some (f,p,U))(hj:(Bg st)[i+1]? = some (j,q,pb))(e1:j=f+p)(n1:1<=p)(n2:1<=q)(hz:j+q<=a₀.size)(K:Ua blt (arrOf st) f j)(F:Ua blt (arrOf st) j (j+q)){Q:Bool->By->Prop}(h:∀v,Good0 kd a₀ v->Bg v=((Bg st).setIfInBounds i (f,p+q,U)).eraseIdxIfInBounds (i+1)->Ua blt (arrOf v) f (j+q)->kD (arrOf st) (arrOf v) f (j+q)->Q true v):wpS (model prog w) A E s (Xl i) Q st:=by
 have W:(arrOf st).size=a₀.size:=g.size
 unfold Xl
 refine Az (Nw ?_)
 rw[hi,hj]
 dsimp only
 refine Az (AS ?_)
 refine Az (Ga (aB (xs:=arrOf st) (i:=j) (by rw[W]; omega)) ?_)
 show wpS (model prog w) A E s _ _ (SortSt.mk' (kindOf st) (arrOf st) (((Bg st).setIfInBounds i (f,p+q,U)).eraseIdxIfInBounds (i+1)) (gallopOf st) (Mq st))
 generalize t:SortSt.mk' (kindOf st) (arrOf st) (((Bg st).setIfInBounds i (f,p+q,U)).eraseIdxIfInBounds (i+1)) (gallopOf st) (Mq st)=st1
 have M:kindOf st1=kd:=by rw[<- t]; exact g.kind
 have D:arrOf st1=arrOf st:=by rw[<- t]
 have Y:Bg st1=((Bg st).setIfInBounds i (f,p+q,U)).eraseIdxIfInBounds (i+1):=by rw[<- t]
 have R:Mq st1=none:=by rw[<- t]; exact g.fail
 have g1:Good0 kd a₀ st1:=⟨M,R,by rw[D]; exact g.perm⟩
 have same:Good0 kd a₀ st1->Ua blt (arrOf st) f (j+q)->Q true st1:=λgg as=>h st1 gg Y (by rw[D]; exact as) (by rw[D]; exact kD.refl _ _ _)
 refine Az (Ow C (hint:=0) (n:=p) (u6 g N (b:=f) (n:=p) (by omega)) (g.okX N (i:=j) (by omega)) M (by omega) (λa c h5 hc S=>?_) λk kn t1 t2=>?_)
 ·simp only[Hf,Bw,if_false,Kq] at S ⊢
  exact C.trans (K _ _ (by omega) (by omega) (by omega)) S
 dsimp only
 have f1:∀m,m<k->le blt (X (arrOf st) (f+m)) (X (arrOf st) j):=λm u=>by
  have:=t1 m u
  have z:blt (X (arrOf st) j) (X (arrOf st) (f+m))=false:=by simpa only [Hf,Bw,if_false,Kq] using this
  exact z
 by_cases O:p - k=0
 ·rw[if_pos (by rw[O]; rfl)]
  refine Bi (same g1 (mD C (by omega) K F ?_))
  have:=f1 (p - 1) (by omega)
  rw[show f+(p - 1)=j - 1 by omega] at this
  exact this
 rw[if_neg (λz=>O (Dz z))]
 have f2:blt (X (arrOf st) j) (X (arrOf st) (f+k))=true:=by
  have:=t2 k (Aj _) (by omega)
  simpa only [Hf,Bw,if_false,Qt] using this
 have el:f+k+(p - k) - 1=j - 1:=by omega
 rw[el]
 refine Az (Ga (aB (xs:=arrOf st) (i:=j - 1) (by rw[W]; omega)) ?_)
 refine Az (Ow C (hint:=q - 1) (n:=q) (u6 g N (b:=j) (n:=q) (by omega)) (g.okX N (i:=j - 1) (by omega)) M (by omega) (λa c h5 hc S=>?_) λl ln u1 u2=>?_)
 ·simp only[Hf,if_true] at S ⊢
  exact C.leLt (F _ _ (by omega) (by omega) (by omega)) S
 dsimp only
 have f3:∀m,m<l->blt (X (arrOf st) (j+m)) (X (arrOf st) (j - 1))=true:=λm u=>by
  have:=u1 m u
  simpa only [Hf,if_true] using this
 have f4:∀m,l<=m->m<q->le blt (X (arrOf st) (j - 1)) (X (arrOf st) (j+m)):=λm h1 h2=>by
  have:=u2 m h1 h2
  have z:blt (X (arrOf st) (j+m)) (X (arrOf st) (j - 1))=false:=by simpa only [Hf,if_true] using this
  exact z
 by_cases c2:l=0
 ·rw[if_pos (by rw[c2]; rfl)]
  subst c2
  exact Bi (same g1 (mD C (by omega) K F (f4 0 (Aj _) (by omega))))
 rw[if_neg (λz=>c2 (Dz z))]
 have ep:(arrOf st).extract (f+k) j=(arrOf st).extract (f+k) (f+k+(p - k)):=by rw[show f+k+(p - k)=j by omega]
 rw[ep]
 have J:f+k+(p - k)<=(arrOf st).size:=by omega
 have L:j+l<=(arrOf st).size:=by omega
 have T:Two Ok blt ((arrOf st).extract (f+k) (f+k+(p - k))) ((arrOf st).extract j (j+l)) (X (arrOf st) (f+k)) (X (arrOf st) j) (X (arrOf st) (j - 1)):=by
  refine ⟨λx P=>?_,λx P=>?_,bC C J K (by omega) (by omega),bC C L F (by omega) (by omega),?_,?_,?_,f2,λy hy=>?_⟩
  ·obtain ⟨m,u,rfl⟩:=Ww J P
   exact g.okX N (by omega)
  ·obtain ⟨m,u,rfl⟩:=Ww L P
   exact g.okX N (by omega)
  ·exact Yp J (by omega)
  ·exact Yp L (by omega)
  ·rw[Tq J,Yp J (by omega),show f+k+(p - k - 1)=j - 1 by omega]
  ·obtain ⟨m,u,rfl⟩:=Ww L hy
   exact f3 m u
 -- rA the merge
 have Z:∀(r:Array Keyed) (o:By),Kept st1 o->pP blt ((arrOf st).extract (f+k) (f+k+(p - k))) ((arrOf st).extract j (j+l)) r ->
   Q (Mq (setArr o (Pc (arrOf o) (f+k) r.toList.zipIdx))).isNone (setArr o (Pc (arrOf o) (f+k) r.toList.zipIdx)):=by
  intro r o kp G
  have H:arrOf o=arrOf st:=kp.arr.trans D
  have h8:Mq o=none:=kp.fail.trans R
  have h3:r.size=p - k+l:=by
   have:=G.1.length_eq
   rw[Bf,Am,Am,Am,Tq J,Tq L] at this
   exact this
  have h6:((arrOf st).toList.drop (f+k)).take (p - k+l)=((arrOf st).extract (f+k) (f+k+(p - k))).toList++((arrOf st).extract j (j+l)).toList:=by
   rw[Xj,Xj,List.take_add,List.drop_drop,show f+k+(p - k)=j by omega]
  have h4:=cQ (f+k) r.toList 0 (arrOf st) (by rw[Am]; omega)
  have I:∀m,X (Pc (arrOf st) (f+k) r.toList.zipIdx) m=if f+k<=m/\m<j+l then X r (m - (f+k)) else X (arrOf st) m:=λm=>by
   have:=h4.2 m
   rw[Am,h3,Nat.add_zero] at this
   by_cases u:f+k<=m/\m<j+l
   ·rw[if_pos u]
    rw[if_pos (by omega)] at this
    refine Sj (this.trans ?_)
    simp
   ·rw[if_neg u]
    rw[if_neg (by omega)] at this
    exact Sj this
  -- each thing of the merged is one of the two runs'
  have B:∀m,m<p - k+l->(∃c,f+k<=c/\c<j/\X r m=X (arrOf st) c)\/(∃c,j<=c/\c<j+l/\X r m=X (arrOf st) c):=λm u=>by
   have P:=Kd (aB (xs:=r) (i:=m) (by omega))
   rcases Aw.mp (G.1.mem_iff.mp P) with z | z
   ·obtain ⟨c,hc,e⟩:=Ww J z
    exact .inl ⟨f+k+c,by omega,by omega,e⟩
   ·obtain ⟨c,hc,e⟩:=Ww L z
    exact .inr ⟨j+c,by omega,by omega,e⟩
  have rs:∀m n,m<=n->n<p - k+l->le blt (X r m) (X r n):=λm n h7 hn=>Ls C G.2 h7 (Em (aB (by omega))) (Em (aB (by omega)))
  have e3:Mq (setArr o (Pc (arrOf o) (f+k) r.toList.zipIdx))=none:=h8
  rw[e3]
  refine h _ ⟨kp.kind.trans M,e3,?_⟩ (kp.pend.trans Y) ?_ ?_
  ·show (Pc (arrOf o) (f+k) r.toList.zipIdx).Perm a₀
   rw[H]
   refine (rD (by omega) h3 ?_).trans g.perm
   rw[h6]
   exact G.1
  ·show Ua blt (Pc (arrOf o) (f+k) r.toList.zipIdx) f (j+q)
   rw[H]
   intro c d O cd d1
   rw[I,I]
   by_cases zc:f+k<=c/\c<j+l
   ·rw[if_pos zc]
    by_cases zd:f+k<=d/\d<j+l
    ·rw[if_pos zd]
     exact rs _ _ (by omega) (by omega)
    ·rw[if_neg zd]
     rcases B (c - (f+k)) (by omega) with ⟨b,V,b2,e⟩ | ⟨b,V,b2,e⟩
     ·rw[e]
      refine C.trans (K b (j - 1) (by omega) (by omega) (by omega)) ?_
      have:=f4 (d - j) (by omega) (by omega)
      rw[show j+(d - j)=d by omega] at this
      exact this
     ·rw[e]
      exact F b d V (by omega) (by omega)
   ·rw[if_neg zc]
    by_cases zd:f+k<=d/\d<j+l
    ·rw[if_pos zd]
     rcases B (d - (f+k)) (by omega) with ⟨b,V,b2,e⟩ | ⟨b,V,b2,e⟩
     ·rw[e]
      exact K c b O (by omega) b2
     ·rw[e]
      have:=f1 (c - f) (by omega)
      rw[show f+(c - f)=c by omega] at this
      exact C.trans this (F j b (Aj _) V (by omega))
    ·rw[if_neg zd]
     by_cases y1:d<j
     ·exact K c d O cd y1
     ·by_cases y2:j<=c
      ·exact F c d y2 cd d1
      ·have:=f1 (c - f) (by omega)
       rw[show f+(c - f)=c by omega] at this
       exact C.trans this (F j d (Aj _) (by omega) d1)
  ·show kD (arrOf st) (Pc (arrOf o) (f+k) r.toList.zipIdx) f (j+q)
   rw[H]
   intro m u
   rw[I,if_neg (by omega)]
 by_cases c3:p - k<=l
 ·rw[if_pos c3]
  refine Az (pU C T M λr o kp G=>?_)
  exact Az (Kj (Az (Nw (Bi (Z r o kp G)))))
 ·rw[if_neg c3]
  refine Az (pO C T M λr o kp G=>?_)
  exact Az (Kj (Az (Nw (Bi (Z r o kp G)))))
end
def fP:StateT By Sem Unit:=sortPriv% PySem.Builtin.sortRuns
def Runs(blt:Keyed->Keyed->Bool)(xs:Array Keyed):List (Nat×Nat×Nat)->Nat->Nat->Prop
 | [],a,b=>a=b
 | (s,n,_)::r,a,b=>s=a/\1<=n/\Ua blt xs a (a+n)/\Runs blt xs r (a+n) b
variable{blt:Keyed->Keyed->Bool}
theorem Runs.len{xs:Array Keyed}:∀{l:List (Nat×Nat×Nat)} {a b:Nat},Runs blt xs l a b->a+l.length<=b
 | [],a,b,h=>by
  have e:a=b:=h
  rw[Ij]
  omega
 | (s,n,p)::r,a,b,h=>by
  have:=Runs.len h.2.2.2
  have:=h.2.1
  rw[Bm]
  omega
theorem Ua.out{xs ys:Array Keyed}{a b c d:Nat}(h:Ua blt xs a b)(o:kD xs ys c d)(e:b<=c\/d<=a):Ua blt ys a b:=λi j k f g=>by
 rw[o i (by omega),o j (by omega)]
 exact h i j k f g
theorem Runs.out{xs ys:Array Keyed}{c d:Nat}(o:kD xs ys c d):∀{l:List (Nat×Nat×Nat)} {a b:Nat},(b<=c\/d<=a)->Runs blt xs l a b->Runs blt ys l a b
 | [],_,_,_,h=>h
 | (s,n,p)::r,a,b,e,h=>by
  have f:=Runs.len h.2.2.2
  exact ⟨h.1,h.2.1,h.2.2.1.out o (by omega),Runs.out o (by omega) h.2.2.2⟩
theorem Runs.push{xs:Array Keyed}{m q:Nat}(c:1<=m):∀{l:List (Nat×Nat×Nat)} {a b:Nat},Runs blt xs l a b->Ua blt xs b (b+m)->Runs blt xs (l++[(b,m,q)]) a (b+m)
 | [],a,b,h,hs=>by
  have e:a=b:=h
  subst e
  exact ⟨rfl,c,hs,rfl⟩
 | (s,n,p)::r,a,b,h,hs=>⟨h.1,h.2.1,h.2.2.1,Runs.push c h.2.2.2 hs⟩
theorem Runs.power{xs:Array Keyed}{c:Nat}:∀{l:List (Nat×Nat×Nat)} {a b:Nat} (k:Nat),Runs blt xs l a b->Runs blt xs (l.modify k λx=>(x.1,x.2.1,c)) a b
 | [],_,_,k,h=>by simpa using h
 | (s,n,p)::r,a,b,0,h=>by
  rw[List.modify_zero_cons]
  exact h
 | (s,n,p)::r,a,b,k+1,h=>by
  rw[List.modify_succ_cons]
  exact ⟨h.1,h.2.1,h.2.2.1,Runs.power k h.2.2.2⟩
theorem Runs.two{xs:Array Keyed}:∀{l:List (Nat×Nat×Nat)} {a b i d g k c f j:Nat},Runs blt xs l a b->l[i]? = some (d,g,k)->l[i+1]? = some (c,f,j)->c=d+g/\1<=g/\1<=f/\a<=d/\c+f<=b/\Ua blt xs d c/\Ua blt xs c (c+f)
 | [],_,_,_,_,_,_,_,_,_,_,h,_=>by simp at h
 | (s,n,p)::r,a,b,0,d,g,k,c,f,j,h,h1,h2=>by
  obtain ⟨e,D,z,C⟩:=h
  have q:s=d/\n=g/\p=k:=by simpa using h1
  obtain ⟨t,u,v⟩:=q
  subst t u v
  subst e
  cases r with
  | nil=>simp at h2
  | cons y G =>
   obtain ⟨B,F,A⟩:=y
   have E:B=c/\F=f/\A=j:=by simpa using h2
   obtain ⟨t,u,v⟩:=E
   subst t u v
   obtain ⟨o,m,x,w⟩:=C
   have:=Runs.len w
   exact ⟨o,D,m,Aj _,by omega,by rw[o]; exact z,by rw[o]; exact x⟩
 | (s,n,p)::r,a,b,i+1,d,g,k,c,f,j,h,h1,h2=>by
  have:=Runs.two h.2.2.2 (by simpa using h1) (by simpa using h2)
  exact ⟨this.1,this.2.1,this.2.2.1,by have:=this.2.2.2.1; have:=h.2.1; omega,this.2.2.2.2.1,this.2.2.2.2.2⟩
theorem Runs.merge{xs ys:Array Keyed}:∀{l:List (Nat×Nat×Nat)} {a b i c j g f d m:Nat},Runs blt xs l a b->l[i]? = some (c,j,g)->l[i+1]? = some (f,d,m)->kD xs ys c (f+d)->Ua blt ys c (f+d)->Runs blt ys ((l.set i (c,j+d,g)).eraseIdx (i+1)) a b
 | [],_,_,_,_,_,_,_,_,_,_,h,_,_,_=>by simp at h
 | (s,n,p)::r,a,b,0,c,j,g,f,d,m,h,h1,h2,o,as=>by
  have z:=Runs.two h h1 h2
  obtain ⟨e,I,F,C⟩:=h
  have q:s=c/\n=j/\p=g:=by simpa using h1
  obtain ⟨t,u,v⟩:=q
  subst t u v
  subst e
  cases r with
  | nil=>simp at h2
  | cons y H =>
   obtain ⟨x,k,B⟩:=y
   have E:x=f/\k=d/\B=m:=by simpa using h2
   obtain ⟨t,u,v⟩:=E
   subst t u v
   obtain ⟨G,A,D,w⟩:=C
   rw[List.set_cons_zero,Sz,List.eraseIdx_cons_zero]
   refine ⟨rfl,by omega,?_,?_⟩
   ·rw[show s+(n+k)=x+k by omega]
    exact as
   ·rw[show s+(n+k)=s+n+k by omega]
    exact Runs.out o (.inr (by omega)) w
 | (s,n,p)::r,a,b,i+1,c,j,g,f,d,m,h,h1,h2,o,as=>by
  have z:=Runs.two (i:=i) h.2.2.2 (by simpa using h1) (by simpa using h2)
  rw[List.set_cons_succ,Sz]
  exact ⟨h.1,h.2.1,h.2.2.1.out o (.inl z.2.2.2.1),Runs.merge h.2.2.2 (by simpa using h1) (by simpa using h2) o as⟩
theorem fR(P:Array (Nat×Nat×Nat))(i:Nat)(v:Nat×Nat×Nat):((P.setIfInBounds i v).eraseIdxIfInBounds (i+1)).toList=(P.toList.set i v).eraseIdx (i+1):=by
 rw[Array.toList_eraseIdxIfInBounds,gN]
section
variable{prog:Bl}{w:World}{A:Ce}{s:Ai}{a:Ms}{Ok:Keyed->Prop}{E:Value->Ai->Prop}{a₀:Array Keyed}
theorem Qa{a:Type}{c:Prop}[Decidable c]{p q:StateT By Sem a}{Q:a->By->Prop}{st:By}(b:c->wpS (model prog w) A E s p Q st)(d:¬ c->wpS (model prog w) A E s q Q st):wpS (model prog w) A E s (if c then p else q) Q st:=by
 by_cases h:c
 ·rw[if_pos h]; exact b h
 ·rw[if_neg h]; exact d h
theorem jM(C:Cmp prog w A s a Ok blt){st:By}(g:Good0 a a₀ st)(B:∀x∈a₀.toList,Ok x){lo i:Nat}(H:lo<=a₀.size)(j:Runs blt (arrOf st) (Bg st).toList 0 lo)(y:i+1<(Bg st).size){Q:Bool->By->Prop}(h:∀b,Good0 a a₀ b->Runs blt (arrOf b) (Bg b).toList 0 lo->(Bg b).size+1=(Bg st).size->(∀c d,lo<=c->Ua blt (arrOf st) c d->Ua blt (arrOf b) c d)->Q true b):wpS (model prog w) A E s (Xl i) Q st:=by
 obtain ⟨⟨G,J,D⟩,n⟩ : ∃x,(Bg st)[i]? = some x:=⟨(Bg st)[i],by simp⟩
 obtain ⟨⟨K,I,r⟩,l⟩ : ∃x,(Bg st)[i+1]? = some x:=⟨(Bg st)[i+1],by simp⟩
 have k:(Bg st).toList[i]? = some (G,J,D):=by simpa using n
 have f:(Bg st).toList[i+1]? = some (K,I,r):=by simpa using l
 obtain ⟨F,z,q,N,M,v,o⟩:=j.two k f
 refine pW C g B n l F z q (by omega) v o λb p e t m=>?_
 refine h b p ?_ ?_ λc d L u=>u.out m (.inr (by omega))
 ·rw[e,fR]
  exact j.merge k f m t
 ·have : (Bg b).toList.length+1=(Bg st).toList.length:=by
   rw[e,fR,List.length_eraseIdx,Po,Am,if_pos y]
   omega
  simpa using this
theorem K6{st:By}(g:Good0 a a₀ st):Good a a₀ (Bg st) st:=⟨g.kind,g.fail,g.perm,rfl⟩
theorem mU{st:By}{p:Array (Nat×Nat×Nat)}(g:Good a a₀ p st):Good0 a a₀ st:=⟨g.kind,g.fail,g.perm⟩
theorem vU(C:Cmp prog w A s a Ok blt){st:By}(g:Good0 a a₀ st)(U:∀x∈a₀.toList,Ok x)(hp:Bg st=#[])(hz:1<=a₀.size){Q:Unit->By->Prop}(h:∀d,Good0 a a₀ d->Ua blt (arrOf d) 0 a₀.size->Q () d):wpS (model prog w) A E s fP Q st:=by
 unfold fP
 refine Az (Nw ?_)
 have h3:(arrOf st).size=a₀.size:=g.size
 dsimp only
 rw[h3]
 generalize (sortPriv% PySem.Builtin.minRun) a₀.size a₀.size 0=mr
 refine Az (Hr (Ep
  (I:=λx c d=>∃lo,c=(none,lo)/\Good0 a a₀ d/\Runs blt (arrOf d) (Bg d).toList 0 lo/\lo<=a₀.size/\x<=lo)
  (Q:=λc d=>c=(none,a₀.size)/\Good0 a a₀ d/\Runs blt (arrOf d) (Bg d).toList 0 a₀.size) ?_ ?_ ⟨0,rfl,g,by rw[hp]; exact rfl,by omega,by omega⟩) ?_)
 ·(intro x c V _ hx t; obtain ⟨lo,rfl,N,J,O,X⟩ := t)
  dsimp only
  by_cases Z:lo ≥ a₀.size
  ·rw[if_pos Z]
   have e:lo=a₀.size:=by omega
   subst e
   exact Bi ⟨rfl,N,J⟩
  rw[if_neg Z]
  refine Az (yB C (K6 N) U (lo:=lo) (b:=a₀.size - lo) (by omega) (by omega) λm j B m1 m2 M ou=>?_)
  dsimp only
  have k:Runs blt (arrOf j) (Bg j).toList 0 lo:=by
   rw[B.pd]
   exact J.out ou (.inl (Aj _))
  have D:=mU B
  clear J N
  refine Qa (λH=>?_) (λH=>?_)
  ·refine Az (Uv ?_)
   refine Az (uW C B U (lo:=lo) (n:=min (a₀.size - lo) mr) (ok:=m) (by omega) M (by omega) λo K R T=>?_)
   refine Qa (λz=>absurd z (by decide)) (λ_=>?_)
   have W:1<=min (a₀.size - lo) mr:=by omega
   have S:lo+min (a₀.size - lo) mr<=a₀.size:=by omega
   have v:Runs blt (arrOf o) (Bg o).toList 0 lo:=by
    rw[K.pd,<- B.pd]
    exact k.out T (.inl (Aj _))
   have G:=mU K
   generalize min (a₀.size - lo) mr=n at R W S
   clear B D k M ou T K m1 m2 H
   refine Az (Nw ?_)
   cases hb:(Bg o).back? with
   | none =>
    dsimp only
    refine Az (Kj ?_)
    refine Bi ⟨lo+n,rfl,⟨G.kind,G.fail,G.perm⟩,?_,S,by omega⟩
    show Runs blt (arrOf o) ((Bg o).push (lo,n,0)).toList 0 (lo+n)
    rw[Il]
    exact v.push W R
   | some y =>
    obtain ⟨s1,l1,p1⟩:=y
    dsimp only
    refine Az (Hr (Ep
     (I:=λ_ c d=>c=(none,())/\Good0 a a₀ d/\Runs blt (arrOf d) (Bg d).toList 0 lo/\Ua blt (arrOf d) lo (lo+n))
     (Q:=λc d=>c=(none,())/\Good0 a a₀ d/\Runs blt (arrOf d) (Bg d).toList 0 lo/\Ua blt (arrOf d) lo (lo+n)) ?_ (λ_ _ z=>z) ⟨rfl,G,v,R⟩) ?_)
    ·(intro z c f _ _ t; obtain ⟨rfl,u,p,q⟩ := t)
     refine Az (Nw ?_)
     by_cases F:(Bg f).size > 1
     ·rw[if_pos F]
      obtain ⟨⟨a1,b1,P⟩,ho⟩ : ∃x,(Bg f)[(Bg f).size - 2]? = some x:=⟨(Bg f)[(Bg f).size - 2],by simp⟩
      rw[ho]
      dsimp only
      refine Qa (λ_=>Bi ⟨rfl,u,p,q⟩) (λ_=>?_)
      refine Az (jM C u U O p (i:=(Bg f).size - 2) (show (Bg f).size - 2+1<(Bg f).size by omega) λh2 g5 L _ keep=>?_)
      refine Qa (λz=>absurd z (by decide)) (λ_=>?_)
      exact Bi ⟨rfl,g5,L,keep _ _ (Aj _) q⟩
     ·rw[if_neg F]
      exact Bi ⟨rfl,u,p,q⟩
    ·(intro c f t; obtain ⟨rfl,u,p,q⟩ := t)
     dsimp only
     refine Az (Kj ?_)
     refine Az (Kj ?_)
     refine Bi ⟨lo+n,rfl,⟨u.kind,u.fail,u.perm⟩,?_,S,by omega⟩
     show Runs blt (arrOf f) (((Bg f).modify ((Bg f).size - 1) _).push (lo,n,0)).toList 0 (lo+n)
     rw[Il,Array.toList_modify]
     exact (p.power _).push W q
  ·have S:lo+m<=a₀.size:=by omega
   refine Az (Nw ?_)
   cases hb:(Bg j).back? with
   | none =>
    dsimp only
    refine Az (Kj ?_)
    refine Bi ⟨lo+m,rfl,⟨D.kind,D.fail,D.perm⟩,?_,S,by omega⟩
    show Runs blt (arrOf j) ((Bg j).push (lo,m,0)).toList 0 (lo+m)
    rw[Il]
    exact k.push m1 M
   | some y =>
    obtain ⟨s1,l1,p1⟩:=y
    dsimp only
    refine Az (Hr (Ep
     (I:=λ_ c d=>c=(none,())/\Good0 a a₀ d/\Runs blt (arrOf d) (Bg d).toList 0 lo/\Ua blt (arrOf d) lo (lo+m))
     (Q:=λc d=>c=(none,())/\Good0 a a₀ d/\Runs blt (arrOf d) (Bg d).toList 0 lo/\Ua blt (arrOf d) lo (lo+m)) ?_ (λ_ _ z=>z) ⟨rfl,D,k,M⟩) ?_)
    ·(intro z c f _ _ t; obtain ⟨rfl,u,p,q⟩ := t)
     refine Az (Nw ?_)
     by_cases F:(Bg f).size > 1
     ·rw[if_pos F]
      obtain ⟨⟨a1,b1,P⟩,ho⟩ : ∃x,(Bg f)[(Bg f).size - 2]? = some x:=⟨(Bg f)[(Bg f).size - 2],by simp⟩
      rw[ho]
      dsimp only
      refine Qa (λ_=>Bi ⟨rfl,u,p,q⟩) (λ_=>?_)
      refine Az (jM C u U O p (i:=(Bg f).size - 2) (show (Bg f).size - 2+1<(Bg f).size by omega) λh2 g5 L _ keep=>?_)
      refine Qa (λz=>absurd z (by decide)) (λ_=>?_)
      exact Bi ⟨rfl,g5,L,keep _ _ (Aj _) q⟩
     ·rw[if_neg F]
      exact Bi ⟨rfl,u,p,q⟩
    ·(intro c f t; obtain ⟨rfl,u,p,q⟩ := t)
     dsimp only
     refine Az (Kj ?_)
     refine Az (Kj ?_)
     refine Bi ⟨lo+m,rfl,⟨u.kind,u.fail,u.perm⟩,?_,S,by omega⟩
     show Runs blt (arrOf f) (((Bg f).modify ((Bg f).size - 1) _).push (lo,m,0)).toList 0 (lo+m)
     rw[Il,Array.toList_modify]
     exact (p.power _).push m1 q
 ·(intro c V t; obtain ⟨lo,rfl,N,J,O,X⟩ := t)
  have : max 0 a₀.size=a₀.size:=by omega
  rw[this] at X
  have e:lo=a₀.size:=by omega
  subst e
  exact ⟨rfl,N,J⟩
 ·(intro c V t; obtain ⟨rfl,N,J⟩ := t)
  dsimp only
  have Y:=Runs.len J
  rw[Am] at Y
  refine Az (Hr (Ep
   (I:=λx c d=>c=(none,())/\Good0 a a₀ d/\Runs blt (arrOf d) (Bg d).toList 0 a₀.size/\((Bg d).size<=1\/(Bg d).size+x<=a₀.size))
   (Q:=λc d=>c=(none,())/\Good0 a a₀ d/\Runs blt (arrOf d) (Bg d).toList 0 a₀.size/\(Bg d).size<=1) ?_ ?_ ⟨rfl,N,J,.inr (by omega)⟩) ?_)
  ·(intro x c j _ hx t; obtain ⟨rfl,B,k,hs⟩ := t)
   refine Az (Nw ?_)
   refine Qa (λh1=>Bi ⟨rfl,B,k,h1⟩) (λh1=>?_)
   have h6:¬ (Bg j).size<=1:=h1
   generalize hB:Option.any _ _=bb
   have h5:∀i,i+1<(Bg j).size->wpS (model prog w) A E s (Xl i) (λr o=>r=true/\Good0 a a₀ o/\Runs blt (arrOf o) (Bg o).toList 0 a₀.size/\(Bg o).size+1=(Bg j).size) j :=
    λi hi=>jM C B U (Aj _) k hi λo K v sz _=>⟨rfl,K,v,sz⟩
   refine Az (Hr (h5 _ ?_) λr o ⟨er,K,v,sz⟩=>?_)
   ·cases bb with
    | true=>show (Bg j).size - 2 - 1+1<(Bg j).size; omega
    | false=>show (Bg j).size - 2+1<(Bg j).size; omega
   subst er
   refine Qa (λz=>absurd z (by decide)) (λ_=>?_)
   exact Bi ⟨rfl,K,v,.inr (by omega)⟩
  ·(intro c j t; obtain ⟨rfl,B,k,hs⟩ := t)
   have : max 0 a₀.size=a₀.size:=by omega
   rw[this] at hs
   exact ⟨rfl,B,k,by omega⟩
  ·(intro c j t; obtain ⟨rfl,B,k,hs⟩ := t)
   dsimp only
   refine Bi (h j B ?_)
   generalize hl:(Bg j).toList=l at k
   have h4:l.length<=1:=by rw[<- hl,Am]; exact hs
   match l,k,h4 with
   | [],k,_ =>
    have e:0=a₀.size:=k
    omega
   | [(s1,W,p1)],k,_ =>
    obtain ⟨_,_,M,e⟩:=k
    have e':0+W=a₀.size:=e
    rw[e'] at M
    exact M
end
end Ts
namespace Ts
open PySem PyProof.Rows L2
theorem aT:∀l:List Int,HT.lexLt l l=false
 | []=>rfl
 | x::r=>by rw[HT.lexLt_cons,if_pos rfl]; exact aT r
theorem bH:∀{a b c:List Int},HT.lexLt a b=true->HT.lexLt b c=true->HT.lexLt a c=true
 | [],[],_,h,_=>by rw[HT.lexLt_nil_nil] at h; cases h
 | [],_::_,[],_,h=>by rw[HT.lexLt_cons_nil] at h; cases h
 | [],_::_,_::_,_,_=>HT.lexLt_nil_cons _ _
 | _::_,[],_,h,_=>by rw[HT.lexLt_cons_nil] at h; cases h
 | _::_,_::_,[],_,h=>by rw[HT.lexLt_cons_nil] at h; cases h
 | x::a,y::b,z::c,h1,h2=>by
  rw[HT.lexLt_cons] at h1 h2 ⊢
  by_cases e:x=y
  ·subst e
   rw[if_pos rfl] at h1
   by_cases d:x=z
   ·subst d
    rw[if_pos rfl] at h2 ⊢
    exact bH h1 h2
   ·rw[if_neg d] at h2 ⊢
    exact h2
  ·rw[if_neg e] at h1
   have g:x<y:=of_decide_eq_true h1
   by_cases d:y=z
   ·subst d
    rw[if_neg e]
    exact h1
   ·rw[if_neg d] at h2
    have f:y<z:=of_decide_eq_true h2
    rw[if_neg (by omega)]
    exact decide_eq_true (by omega)
theorem iY:∀{a b:List Int},HT.lexLt a b=false->HT.lexLt b a=false->a=b
 | [],[],_,_=>rfl
 | [],_::_,h,_=>by rw[HT.lexLt_nil_cons] at h; cases h
 | _::_,[],_,h=>by rw[HT.lexLt_nil_cons] at h; cases h
 | x::a,y::b,h1,h2=>by
  rw[HT.lexLt_cons] at h1 h2
  by_cases e:x=y
  ·subst e
   rw[if_pos rfl] at h1 h2
   rw[iY h1 h2]
  ·rw[if_neg e] at h1
   rw[if_neg (Ln e)] at h2
   have d:=of_decide_eq_false h1
   have c:=of_decide_eq_false h2
   omega
theorem gZ{a b c:List Int}(h:HT.lexLt a c=true):HT.lexLt a b=true\/HT.lexLt b c=true:=by
 cases e:HT.lexLt a b with
 | true=>exact .inl rfl
 | false =>
  cases d:HT.lexLt b a with
  | true=>exact .inr (bH d h)
  | false =>
   rw[<- iY e d]
   exact .inr h
def JL(c:Addr->List Int)(x:Keyed):List Int:=match x.1 with
 | .ref a=>c a
 | _=>[]
def JY(c:Addr->List Int)(x y:Keyed):Bool:=HT.lexLt (JL c x) (JL c y)
def L1(c:Addr->List Int)(b:List Addr)(h:Heap):Prop:=∀r∈b,∃a:List Value,Ez a (c r)/\IsTup h r a.toArray
section
variable{prog:Bl}{w:World}{A:Ce}{E:Value->Ai->Prop}{s:Ai}{c:Addr->List Int}{d:List Addr}
theorem vP(k:L1 c d s.heap)(q:A.units<cLine){a b:Addr}(z:a∈d)(hb:b∈d){Q:Bool->Ai->Prop}(h:Q (HT.lexLt (c a) (c b)) s):wpAny (model prog w) A (oneLt' true (.ref a) (.ref b)) Q E s:=by
 obtain ⟨G,t,⟨B,o,y,e⟩,g,i,x,m⟩:=k a z
 obtain ⟨C,r,⟨D,p,n,f⟩,v,j,u,l⟩:=k b hb
 simp only at i m j l
 subst i m j l
 rw[oneLt'_eq]
 simp only[if_true]
 refine Aa (wpAny_cRoomFor q (Aa (wpAny_callSpecialIfBound?_slot ⟨_,g,rfl⟩ PySem.F.slot_tuple_lt ?_)))
 refine dP PySem.F.slot_tuple_lt ⟨_,g,rfl⟩ PySem.F.entry_tuple_lt (PySem.F.args_tuple_lt_2 _ _) (HT.tuple_lt_ints a b _ _ x u o p e f (c a) (c b) (by simpa using t) (by simpa using r)) ⟨g,v,?_⟩
 exact Le h
theorem L3(j:L1 c d s.heap)(k:A.units<cLine):Cmp prog w A s oneType' (λx=>∃r∈d,x.1=.ref r) (JY c) where
 run:=λx y Q E ⟨r,f,b⟩ ⟨m,a,e⟩ h=>by
  obtain ⟨n,p⟩:=x
  obtain ⟨o,l⟩:=y
  simp only at b e
  subst b e
  rw[keyLt'_oneType]
  exact vP j k f a h
 irr:=λx=>aT _
 tr:=λx y z i g=>bH i g
 neg:=λx y z h=>gZ h
theorem Vo:∀{l:List Addr} {Q:List (Option Value)->Ai->Prop},(∀r∈l,∃j:List Value,Ez j (c r)/\IsTup s.heap r j.toArray)->(∀fs:List (Option Value),fs.length=l.length->(∀(i:Nat) (r:Addr),l[i]? = some r->∃f,fs[i]? = some f/\(f.isSome=true↔c r≠[]))->Q fs s)->wpAny (model prog w) A ((l.map Ay).mapM dG) Q E s
 | [],Q,_,h=>by
  rw[Py,List.mapM_nil]
  exact Ac (h [] rfl λi r e=>by simp at e)
 | r::l,Q,hH,h=>by
  obtain ⟨j,y,o,g,k,n,e⟩:=hH r Ab
  rw[Ao,List.mapM_cons]
  have one:∀{R:Option Value->Ai->Prop},R j.toArray[0]? s->wpAny (model prog w) A (dG (.ref r)) R E s:=λ{R} u=>by
   unfold dG
   refine Aa (Hv (T := "tuple") ⟨o,g,k⟩ ?_)
   rw[if_neg (by simp)]
   exact Aa (gG g e (Ac u))
  refine Aa (one (Aa (Vo (λm q=>hH m (Ad _ q)) λfs x B=>Ac (h _ (by rw[Bm,Bm,x]) λi m t=>?_))))
  cases i with
  | zero =>
   have C:r=m:=by simpa using t
   subst C
   refine ⟨_,rfl,?_⟩
   have d:=y.length
   cases j with
   | nil =>
    cases p:c r with
    | nil=>simp
    | cons _ _=>rw[p] at d; simp at d
   | cons a b =>
    cases p:c r with
    | nil=>rw[p] at d; simp at d
    | cons _ _=>simp
  | succ i =>
   obtain ⟨f,z,v⟩:=B i m (by simpa using t)
   exact ⟨f,by simpa using z,v⟩
theorem fN:∀{l:List Addr} {Q:List Value->Ai->Prop},(∀r∈l,∃a:List Value,Ez a (c r)/\IsTup s.heap r a.toArray)->Q (l.map λ_=>Gd "tuple") s->wpAny (model prog w) A ((l.map Ay).mapM typeOf) Q E s
 | [],Q,_,h=>by
  rw[Py,List.mapM_nil]
  exact Ac h
 | r::l,Q,hH,h=>by
  obtain ⟨a,f,o,g,k,n,e⟩:=hH r Ab
  rw[Ao,List.mapM_cons]
  exact Aa (Hv (T := "tuple") ⟨o,g,k⟩ (Aa (fN (λd b=>hH d (Ad _ b)) (Ac h))))
theorem n8{r:Addr}{l:List Addr}(b:L1 c (r::l) s.heap)(i:c r=[]){Q:Ms->Ai->Prop}(h:Q oneType' s):wpAny (model prog w) A (keyKind' ((r::l).map Ay).toArray) Q E s:=by
 rw[keyKind'_eq,aD]
 refine Aa ?_
 show wpAny (model prog w) A (List.toArray <$> ((r::l).map Ay).mapM dG) _ E s
 rw[map_eq_pure_bind]
 refine Aa (Vo b λfs o m=>Ac ?_)
 obtain ⟨f,a,e⟩:=m 0 r rfl
 have k:f=none:=by
  cases f with
  | none=>rfl
  | some v=>exact absurd i (e.mp rfl)
 subst k
 have d:¬ (fs.toArray.all λx=>x.isSome)=true:=by
  intro z
  have:=Array.all_eq_true'.mp z none (by
   have:=Be a
   simpa using this)
  simp at this
 have j:¬ (fs.toArray[0]?.bind id).isSome=true:=by
  rw[List.getElem?_toArray,a]
  simp
 rw[if_neg d,if_neg j,oneTypeOnly'_eq,aD]
 refine Aa (Aa ?_)
 show wpAny (model prog w) A (List.toArray <$> ((r::l).map Ay).mapM typeOf) _ E s
 rw[map_eq_pure_bind]
 refine Aa (fN b (Ac ?_))
 have g:((r::l).map λ_=>Gd "tuple").toArray[0]? = some (Gd "tuple"):=by simp
 have n:(((r::l).map λ_=>Gd "tuple").toArray.all λx=>x == Gd "tuple")=true:=by
  simp only[List.all_toArray,List.all_map,List.all_eq_true]
  intro _ _
  rfl
 rw[g]
 dsimp only
 rw[n,if_pos rfl]
 exact Ac (Ac h)
end
theorem fE:∀{b:List Addr} {us:List Value},Gf (b.map V.ref) us->us=b.map Ay
 | [],_,r=>by cases r; rfl
 | a::l,_,r=>by
  rw[Ao] at r
  cases r with
  | cons d c =>
   cases d
   rw[fE c]
   rfl
theorem eR:∀a:List Addr,Gf (a.map V.ref) (a.map Ay)
 | []=>.nil
 | _::l=>.cons rfl (eR l)
section
variable{prog:Bl}{w:World}{A:Ce}{E:Value->Ai->Prop}{s:Ai}{c:Addr->List Int}{a:List Addr}
theorem Zy{h:Heap}{vs:List Value}{out:Array Value}{b:Addr}{o:Obj}(e:h.get? b=some o):(aC h vs out).get? b=some o:=by
 have lt:=Au e
 unfold aC sortedHeap
 have c:((h.push (Ej "list" #[] 0)).update h.objs.size (Eg (·++vs.toArray))).objs.size=h.objs.size+1:=by rw[Lg,dN]
 have a:b≠h.objs.size+1:=Bu (Fg lt)
 refine ((Bo _ _ _).2 b a).trans (Ah _ (Ah _ (((Bo _ _ _).2 b a).trans (Ah _ ?_))))
 exact ((Bo _ _ _).2 b (Bu lt)).trans (Ah _ e)
theorem dW{h:Heap}{vs:List Value}{out:Array Value}:∃n,(aC h vs out).get? (h.objs.size+1)=some (Ej "list" out n):=by
 unfold aC sortedHeap
 have b:((h.push (Ej "list" #[] 0)).update h.objs.size (Eg (·++vs.toArray))).objs.size=h.objs.size+1:=by rw[Lg,dN]
 have d:(((h.push (Ej "list" #[] 0)).update h.objs.size (Eg (·++vs.toArray))).push (Ej "list" vs.toArray 0)).get? (h.objs.size+1)=some (Ej "list" vs.toArray 0):=by
  rw[<- b]
  exact Ap _ rfl
 have a:=Mx d (λ_=>#[])
 have c:=Ah (Ej "list" #[] 0) (Ah (Ej "tuple" vs.toArray 0) a)
 exact ⟨_,Mx c (λ_=>out)⟩
end
def GM{b:Type}(c:Addr->b)(d0:b)(x:Keyed):b:=match x.1 with
 | .ref a=>c a
 | _=>d0
def JC{a:Type}(c:Addr->a)(d0:a)(lt_:a->a->Bool)(x y:Keyed):Bool:=lt_ (GM c d0 x) (GM c d0 y)
def pT{a:Type}(prog:Bl)(w:World)(A:Ce)(s:Ai)(b:List Addr)(c:Addr->a)(d0:a)(lt_:a->a->Bool):Prop :=
 ∃d,(∀(R:Ms->Ai->Prop) (E:Value->Ai->Prop),R d s->wpAny (model prog w) A (keyKind' (b.map Ay).toArray) R E s)/\Cmp prog w A s d (λx=>∃r∈b,x.1=.ref r) (JC c d0 lt_)
section
variable{prog:Bl}{w:World}{A:Ce}{E:Value->Ai->Prop}{s:Ai}{f:Type}{c:Addr->f}{d0:f}{lt_:f->f->Bool}{d:List Addr}
theorem qS{a:Addr}{n:Nat}{P:Fin->Ai->Prop}(H:s.heap.get? a=some (Ej "list" (d.map Ay).toArray n))(Z:∀h':Heap,(∀b o,b≠a->s.heap.get? b=some o->h'.get? b=some o)->2<=d.length->pT prog w A { s with heap:=h' } d c d0 lt_)(hz:d.length<=Aq)(h:∀f:List Addr,f.Perm d->f.Pairwise (λx y=>lt_ (c y) (c x)=false)->P (.done (.ret .none)) { s with heap:=sortedHeap s.heap a (d.map Ay) (f.map Ay).toArray }):wpAny (model prog w) A (Builtin.«list.sort» ⟨[.ref a],[]⟩) P E s:=by
 have lt:=Au H
 have t:(d.map Ay).toArray.size=d.length:=by simp
 rw[list_sort_plain]
 refine Aa (gG H rfl (Aa (dF H rfl ?_ (by rw[t]; exact hz))))
 obtain ⟨M,B⟩ : ∃M,(s.heap.update a (Eg λ_=>#[])).get? a=some (Ej "list" #[] M):=⟨_,Mx H (λ_=>#[])⟩
 refine Aa (seqEpoch_at B rfl (Aa (wpAny_newTuple (Aa (Uw (Ck ?_)) ))))
 have u:(((s.heap.update a (Eg λ_=>#[])).push (Ej "tuple" (d.map Ay).toArray 0)).push (Ej "list" #[] 0)).get? a=some (Ej "list" #[] M):=by
  rw[Heap.get?_push_ne _ _ _ (by rw[dN,Lg]; exact Bu (Fg lt)),
   Heap.get?_push_ne _ _ _ (by rw[Lg]; exact Bu lt)]
  exact B
 have kept:∀b o,b≠a->s.heap.get? b=some o->(((s.heap.update a (Eg λ_=>#[])).push (Ej "tuple" (d.map Ay).toArray 0)).push (Ej "list" #[] 0)).get? b=some o:=λb o hb e=>by
  refine Ah _ (Ah _ ?_)
  exact ((Bo s.heap a _).2 b hb).trans e
 show wpAny (model prog w) A _ P E { s with heap:=((s.heap.update a (Eg λ_=>#[])).push (Ej "tuple" (d.map Ay).toArray 0)).push (Ej "list" #[] 0) }
 dsimp only
 -- what is left rA the runs
 have F:∀(out:Array Value) (f:List Addr),out=(f.map Ay).toArray->f.Perm d->f.Pairwise (λx y=>lt_ (c y) (c x)=false) ->
   P (.done (.ret .none)) { s with heap:=sortedHeap s.heap a (d.map Ay) out }:=λout f e p1 p2=>by rw[e]; exact h f p1 p2
 by_cases q:(d.map Ay).toArray.size<2
 ·rw[if_pos q,if_pos q]
  refine Aa (Ac ?_)
  rw[StateT.run_pure]
  refine Aa (Ac (Aa (seqEpoch_at u rfl (Aa (dF u rfl ?_ (by simp) ?_)))))
  ·simp only[bne_self_eq_false,Bw,if_false]
   refine Ac (F _ d ?_ (Hk _) ?_)
   ·show Array.map (λx=>x.2) ((d.map Ay).toArray.zip (d.map Ay).toArray)=_
    apply Array.ext'
    simp [List.map_snd_zip]
   ·rw[t] at q
    match d,q with
    | [],_=>exact Ea
    | [_],_=>exact Ey _ _
    | _::_::_,q=>simp only[Bm] at q; omega
  ·show (Array.map (λx:Keyed=>x.2) ((d.map Ay).toArray.zip (d.map Ay).toArray)).size<=Aq+1
   rw[Vn,Array.size_zip,t]
   omega
 ·rw[if_neg q,if_neg q]
  rw[t] at q
  obtain ⟨O,G,C⟩:=Z (((s.heap.update a (Eg λ_=>#[])).push (Ej "tuple" (d.map Ay).toArray 0)).push (Ej "list" #[] 0)) kept (by omega)
  refine Aa (G _ _ ?_)
  have N:(pairsOf (d.map Ay)).size=d.length:=by rw[pairsOf_size,Af]
  refine Aa (Cq (vU C (a₀:=pairsOf (d.map Ay)) (st:=SortSt.mk' O ((d.map Ay).toArray.zip (d.map Ay).toArray) #[] 7 none) (E:=E)
   (Q:=λ_ m=>Good0 O (pairsOf (d.map Ay)) m/\Ua (JC c d0 lt_) (arrOf m) 0 (pairsOf (d.map Ay)).size)
   ⟨rfl,rfl,Array.Perm.refl _⟩ (λx v=>?_) rfl (by rw[N]; omega) λm g J=>⟨g,J⟩) ?_ λ_ _ z=>z)
  ·rw[pairsOf_toList] at v
   obtain ⟨_,I⟩:=mem_zip_self v
   obtain ⟨r,K,e⟩:=Df.mp I
   exact ⟨r,K,e.symm⟩
  ·(rintro ⟨⟨⟩,m⟩ s' q_; obtain ⟨rfl,g,J⟩ := q_)
   dsimp only
   -- the things of the new order
   have L:(arrOf m).toList.Perm ((d.map Ay).zip (d.map Ay)):=by rw[<- pairsOf_toList]; exact Qn.mp g.perm
   have D:∀x∈(arrOf m).toList,∃r∈d,x=(Ay r,Ay r):=λx v=>by
    obtain ⟨e,I⟩:=mem_zip_self (L.mem_iff.mp v)
    obtain ⟨r,K,U⟩:=Df.mp I
    refine ⟨r,K,?_⟩
    obtain ⟨x1,x2⟩:=x
    simp only at e U
    rw[<- e,U]
   have ex:∀l:List Keyed,(∀x∈l,∃r∈d,x=(Ay r,Ay r))->∃f:List Addr,l=f.map λr=>(Ay r,Ay r):=by
    intro l
    induction l with
    | nil=>intro _; exact ⟨[],rfl⟩
    | cons x l W =>
     intro v
     obtain ⟨r,_,e⟩:=v x Ab
     obtain ⟨f,e'⟩:=W λy hy=>v y (Ad _ hy)
     exact ⟨r::f,by rw[Ao,e,e']⟩
   obtain ⟨f,p⟩:=ex _ D
   have zz:(d.map Ay).zip (d.map Ay)=d.map λr=>(Ay r,Ay r):=by
    rw[List.zip_map',]
   rw[p,zz] at L
   have inj:∀x:Keyed,∃a:Addr,True:=λ_=>⟨0,trivial⟩
   have S:f.Perm d:=by
    have:=L.map (λx:Keyed=>match x.1 with | .ref a=>a | _=>0)
    rw[Dn,Dn] at this
    simpa [Function.comp_def] using this
   have so:f.Pairwise (λx y=>lt_ (c y) (c x)=false):=by
    rw[Lh]
    intro i j hi R h0
    have ls:(arrOf m).size=f.length:=by
     have:=congrArg Ft p
     rw[Am,Af] at this
     exact this
    have T:∀k (G:k<f.length),X (arrOf m) k=(Ay f[k],Ay f[k]):=λk G=>by
     have V:=Em (aB (xs:=arrOf m) (i:=k) (by omega))
     rw[p,Bj,Bx G] at V
     exact (Bv V).symm
    have:=J i j (Di _) (by omega) (by rw[N,<- S.length_eq]; exact R)
    rw[T i hi,T j R] at this
    exact this
   refine Aa (seqEpoch_at u rfl (Aa (dF u rfl ?_ (by simp) ?_)))
   ·have Y:Mq m=none:=g.fail
    rw[Y]
    simp only[bne_self_eq_false,Bw,if_false]
    refine Ac (F _ f ?_ S so)
    apply Array.ext'
    rw[Array.toList_map,p,Dn]
    rfl
   ·show (Array.map (λx:Keyed=>x.2) (arrOf m)).size<=Aq+1
    rw[Vn,g.size,N]
    omega
theorem jZ{l:Addr}{Q:Value->Ai->Prop}(k:s.heap.IsList l (d.map Ay).toArray)(q:∀(f:Ce) (h':Heap),f.units<=A.units+2->f.handled=A.handled->(∀b o,s.heap.get? b=some o->h'.get? b=some o)->2<=d.length->pT prog w f { s with heap:=h' } d c d0 lt_)(hz:d.length<=Aq)(h:∀a:List Addr,a.Perm d->a.Pairwise (λx y=>lt_ (c y) (c x)=false)->Q (.ref (s.heap.objs.size+1)) { s with heap:=aC s.heap (d.map Ay) (a.map Ay).toArray }):wpAny (model prog w) A (call (.builtin "sorted") [.ref l]) Q E s:=by
 refine Qx (by exact kind_sorted) plain_sorted entry_sorted (args_sorted1 _) ?_
 unfold Xw
 refine Aa (m:=checkCount "sorted" 1 1 _) (Ac (Aa (collect_list k (Aa (Uw ?_)) (by rw[Af]; exact hz))))
 have i:((s.heap.push (Ej "list" #[] 0)).update s.heap.objs.size (Eg (·++(d.map Ay).toArray))).objs.size=s.heap.objs.size+1:=by rw[Lg,dN]
 have g:(((s.heap.push (Ej "list" #[] 0)).update s.heap.objs.size (Eg (·++(d.map Ay).toArray))).push (Ej "list" (d.map Ay).toArray 0)).get? (s.heap.objs.size+1)=some (Ej "list" (d.map Ay).toArray 0):=by
  rw[<- i]
  exact Ap _ rfl
 have kept:∀b o,s.heap.get? b=some o->(((s.heap.push (Ej "list" #[] 0)).update s.heap.objs.size (Eg (·++(d.map Ay).toArray))).push (Ej "list" (d.map Ay).toArray 0)).get? b=some o:=λb o e=>by
  refine Ah _ (((Bo _ _ _).2 b (Bu (Au e))).trans (Ah _ e))
 show wpAny _ _ _ _ _ { s with heap:=((s.heap.push (Ej "list" #[] 0)).update s.heap.objs.size (Eg (·++(d.map Ay).toArray))).push (Ej "list" (d.map Ay).toArray 0) }
 rw[i]
 refine Aa (Ck (Cn slot_list_sort ⟨_,g,rfl⟩ entry_list_sort (qS g (λh' n j=>q _ h' ?_ ?_ (λb o e=>n b o (Bu (Fg (Au e))) (kept b o e)) j) hz λa r p=>⟨_,rfl,?_⟩) (args_list_sort _)))
 ·first | exact Aj _ | (show A.units+1<=A.units+2; omega) | (show A.units<=A.units+2; omega)
 ·rfl
 ·exact Ac ⟨_,rfl,h a r p⟩
end
section
variable{prog:Bl}{w:World}{A:Ce}{E:Value->Ai->Prop}{s:Ai}{c:Addr->List Int}{a:List Addr}
theorem J6{b:Bool}{x y:Int}{t u:Tok}{Q:Bool->Ai->Prop}(h:Q (decide (x<y)) s):wpAny (model prog w) A (oneLt' b (.int x t) (.int y u)) Q E s:=by
 cases b with
 | true=>exact oneLt_int h
 | false=>exact PySem.W.kat_one _ _ (lt_int h)
theorem nM{b:Bool}{Q:Bool->Ai->Prop}:∀{xs ys:List Value} {ns c:List Int} (i:Nat),Ez xs ns->Ez ys c->Q (HT.lexLt ns c) s->PySem.W.KatLex prog w A b (decide (xs.length<ys.length)) Q (xs.zip ys) i s
 | _,_,_,_,i,.nil,.nil,h=>h
 | _,_,_,_,i,.nil,.cons m u k,h=>h
 | _,_,_,_,i,.cons n t k,.nil,h=>h
 | _,_,_,_,i,.cons (vs:=xs) n t k,.cons (vs:=ys) m u k2,h=>by
  rw[Mh]
  refine PySem.W.kat_cons (wpAny_eqBool_int ?_)
  rw[HT.lexLt_cons] at h
  cases a:(n == m) with
  | true =>
   have e:n=m:=by simpa using a
   rw[if_pos e] at h
   refine PySem.W.kat_yes ?_
   have : decide ((Lb n t::xs).length<(Lb m u::ys).length)=decide (xs.length<ys.length):=by simp
   rw[this]
   exact nM (i+1) k k2 h
  | false =>
   have e:¬ n=m:=by simpa using a
   rw[if_neg e] at h
   exact PySem.W.kat_no (J6 h)
theorem bD:∀{l:List Addr},(∀r∈l,∃a:List Value,Ez a (c r)/\IsTup s.heap r a.toArray)->(∀r∈l,c r≠[])->∃fs:List Value,PySem.W.KatTups s.heap (l.map Ay) fs/\fs.length=l.length/\∀v∈fs,∃i t,v=.int i t
 | [],_,_=>⟨[],.nil,rfl,λ_ h=>(nomatch h)⟩
 | r::l,hH,hn=>by
  obtain ⟨fs,u,q,w⟩:=bD (λj d=>hH j (Ad _ d)) (λj d=>hn j (Ad _ d))
  obtain ⟨a,b,o,g,k,n,e⟩:=hH r Ab
  have f:=hn r Ab
  match a,b with
  | [],b=>cases p:c r with
   | nil=>exact absurd p f
   | cons _ _=>rw[p] at b; cases b
  | v::a,b =>
   have : ∃i t,v=.int i t:=by
    revert b
    generalize c r=cr
    intro b
    cases b with
    | cons m t k=>exact ⟨_,_,rfl⟩
   refine ⟨v::fs,PySem.W.KatTups.cons g k e (by simp) u,by rw[Bm,Bm,q],λx hx=>?_⟩
   rcases An.mp hx with rfl | hx
   ·exact this
   ·exact w x hx
theorem oE(d:L1 c a s.heap)(H:A.units<cLine)(K:2<=a.length):pT prog w A s a c [] HT.lexLt:=by
 obtain ⟨r,l,rfl⟩ : ∃r l,a=r::l:=by
  cases a with
  | nil=>simp at K
  | cons r l=>exact ⟨r,l,rfl⟩
 by_cases I:c r=[]
 ·exact ⟨oneType',λR E h=>n8 d I h,L3 d H⟩
 by_cases b:∀C∈r::l,c C≠[]
 ·obtain ⟨fs,f1,X,N⟩:=bD d b
  refine ⟨tuples' true,λR E h=>?_,?_⟩
  ·refine PySem.W.kat_kind (T:=.type "int") f1 (by rw[X]; simp) (λv hv=>?_) (by decide) h
   obtain ⟨i,t,rfl⟩:=N v hv
   exact .now
  ·refine ⟨λx y Q E ⟨n,j,k⟩ ⟨o,g,m⟩ h=>?_,λx=>aT _,λx y z=>bH,λx y z=>gZ⟩
   obtain ⟨Z,O⟩:=x
   obtain ⟨M,U⟩:=y
   simp only at k m
   subst k m
   obtain ⟨q,D,o1,P,k1,n1,e1⟩:=d n j
   obtain ⟨p,u,o2,g2,k2,n2,e2⟩:=d o g
   refine PySem.W.kat_lt P e1 g2 e2 ?_
   have e:(decide (q.toArray.size<p.toArray.size))=decide (q.length<p.length):=by simp
   rw[e]
   exact nM 0 D u h
 ·refine ⟨general',λR E h=>?_,?_⟩
  ·rw[kat_kind_eq,aD,map_eq_pure_bind]
   refine Aa (Aa (Vo d λfs hl J=>Ac ?_))
   have na:¬ (fs.toArray.all λx=>x.isSome)=true:=by
    intro z
    refine b λC G=>?_
    obtain ⟨i,S⟩:=List.getElem?_of_mem G
    obtain ⟨f,B,F⟩:=J i C S
    refine F.mp ?_
    exact Array.all_eq_true'.mp z f (by have:=Be B; simpa using this)
   obtain ⟨f,B,F⟩:=J 0 r rfl
   have L:(fs.toArray[0]?.bind id).isSome=true:=by
    rw[List.getElem?_toArray,B]
    simpa using F.mpr I
   rw[if_neg na,if_pos L]
   exact Ac h
  ·refine ⟨λx y Q E ⟨n,j,k⟩ ⟨o,g,m⟩ h=>?_,λx=>aT _,λx y z=>bH,λx y z=>gZ⟩
   obtain ⟨Z,O⟩:=x
   obtain ⟨M,U⟩:=y
   simp only at k m
   subst k m
   obtain ⟨q,D,V⟩:=d n j
   obtain ⟨p,u,Y⟩:=d o g
   show wpAny (model prog w) A (oneLt' false (.ref n) (.ref o)) Q E s
   exact PySem.W.kat_one _ _ (HT.lt_tupInts V Y (show Ez q.toArray.toList (c n) by simpa using D) (show Ez p.toArray.toList (c o) by simpa using u) H h)
end
section
variable{X:Cx}
def rSortI(K:PySem.W.Frag):List V->Hp->VK->Prop:=λe H Q=>∃(a:Addr) (d:List Addr) (c:Addr->List Int),e=[.ref a]/\Pq K H a (d.map V.ref)/\(∀r∈d,Ta K H r ((c r).map V.int)) /\
  ∀(p:Addr) (b:List Addr),H p=none->b.Perm d->b.Pairwise (λx y=>HT.lexLt (c y) (c x)=false)->Q (.ref p) (upd H p (.lst (b.map V.ref)))
theorem call_sortedI(J:X.A.units+64<cLine):Mf X (.builtin "sorted") (rSortI X.K):=by
 intro i s G H P M Q I r h
 obtain ⟨a,F,c,rfl,v,m,q⟩:=h
 obtain ⟨u,rfl,t⟩:=vals1 r
 cases t
 obtain ⟨z,B,E,f⟩:=I.list v
 have e:=fE B
 subst e
 rw[Af] at f
 refine jZ (c:=c) (d0:=[]) (lt_:=HT.lexLt) E.isList (λL O N _ p l=>oE (λr x=>?_) (by omega) l) f λd j D=>?_
 ·obtain ⟨y,w,⟨o,g,k⟩,_⟩:=I.tuple (m r x)
  exact ⟨y,intsAre_of w,o,p _ _ g,k⟩
 ·obtain ⟨n,C⟩:=dW (h:=s.heap) (vs:=F.map Ay) (out:=(d.map Ay).toArray)
  refine ⟨.ref (s.heap.objs.size+1),upd H (s.heap.objs.size+1) (.lst (d.map V.ref)),I.laid (t':=s.toks) (λb o e=>Zy e) (Ox _) ⟨?_,_,n,eR d,C⟩,rfl,q _ d (I.hok.fresh (Ox _)) j D⟩
  rw[Af,j.length_eq]
  exact f
end
end Ts
namespace DL
open PySem L2 Nd
def Pt{a:Type}(xs:List a)(lo b:Option Int):List a:=(xs.drop (HT.sIx xs.length 0 lo)).take (HT.sIx xs.length xs.length b - HT.sIx xs.length 0 lo)
theorem oM{a c:Type}(f:a->c)(xs:List a)(lo b:Option Int):Pt (xs.map f) lo b=(Pt xs lo b).map f:=by
 unfold Pt
 rw[Af,List.map_take,List.map_drop]
theorem bY{b:Type}(xs:List b)(lo a:Option Int):(Pt xs lo a).Sublist xs:=(Io _ _).trans (Iu _ _)
theorem vN{a:Type}(xs:List a)(k:Nat):Pt xs none (some (k:Int))=xs.take k:=by
 unfold Pt
 rw[HT.sIx_none,HT.sIx_nat,Wc,Nat.sub_zero]
 by_cases h:k<=xs.length
 ·rw[Nat.min_eq_left h]
 ·rw[Nat.min_eq_right (by omega),Ff,Js (by omega)]
section
variable{K:PySem.W.Frag}{H:Hp}
theorem RdFs.drop:∀(n:Nat) {xs:List V} {ds:List Ae} {F:List Addr},RdFs K H xs ds F->∃G,RdFs K H (xs.drop n) (ds.drop n) G/\G.Sublist F
 | 0,_,_,F,h=>⟨F,h,Ci _⟩
 | n+1,_,_,_,.nil=>⟨[],.nil,Ci _⟩
 | n+1,_,_,_,.cons _ t=>by
  obtain ⟨G,a,b⟩:=RdFs.drop n t
  exact ⟨G,a,b.trans (Bk _ _)⟩
theorem RdFs.take:∀(n:Nat) {xs:List V} {ds:List Ae} {F:List Addr},RdFs K H xs ds F->∃G,RdFs K H (xs.take n) (ds.take n) G/\G.Sublist F
 | 0,_,_,F,h=>⟨[],.nil,List.nil_sublist _⟩
 | n+1,_,_,_,.nil=>⟨[],.nil,Ci _⟩
 | n+1,_,_,_,.cons a t=>by
  obtain ⟨G,b,c⟩:=RdFs.take n t
  exact ⟨_,.cons a b,(Ci _).append c⟩
theorem RdFs.cut{xs:List V}{ds:List Ae}{F:List Addr}(h:RdFs K H xs ds F)(lo a:Option Int):∃G,RdFs K H (cI xs lo a) (Pt ds lo a) G/\G.Sublist F:=by
 unfold cI Pt
 rw[h.len]
 obtain ⟨G,c,b⟩:=h.drop (HT.sIx ds.length 0 lo)
 obtain ⟨e,f,d⟩:=c.take (HT.sIx ds.length ds.length a - HT.sIx ds.length 0 lo)
 exact ⟨e,f,d.trans b⟩
theorem RdFs.rep{xs:List V}{ds:List Ae}(h:RdFs K H xs ds []):∀k:Nat,RdFs K H (Bz k xs).flatten (Bz k ds).flatten []
 | 0=>.nil
 | k+1=>by
  rw[Gi,Gi,Iq,Iq]
  exact h.app (RdFs.rep h k)
theorem RdFs.ints:∀ns:List Int,RdFs K H (ns.map V.int) (ns.map Ax) []
 | []=>.nil
 | n::ns=>RdFs.cons (F:=[]) (.int n) (RdFs.ints ns)
theorem RdFs.ints_inv:∀{ns:List Int} {xs:List V} {F:List Addr},RdFs K H xs (ns.map Ax) F->xs=ns.map V.int/\F=[]
 | [],_,_,h=>by cases h; exact ⟨rfl,rfl⟩
 | n::ns,_,_,h=>by
  rw[Ao] at h
  cases h with
  | cons a t =>
   obtain ⟨rfl,rfl⟩:=a.int_inv
   obtain ⟨rfl,rfl⟩:=RdFs.ints_inv t
   exact ⟨rfl,rfl⟩
end
theorem cC{a b:List Ae}:Ed (a++b)=(Ed a && Ed b):=by
 induction a with
 | nil=>simp [Ed]
 | cons x a c=>simp [Ed,c,Bool.and_assoc]
theorem Nb(ns:List Int):Ed (ns.map Ax)=true:=Vu (λ_=>by simp [imm]) ns
def sY:D2:=λx y P=>match x,y with
 | .dat _ (.list ds),.dat _ (.list es)=>Ed ds=true/\Ed es=true/\ds.length+es.length<=1000000/\P (.dat .ow (.list (ds++es)))
 | _,_=>False
def jL:D2:=λx y P=>match x,y with
 | .dat _ (.tuple ds),.dat _ (.tuple es)=>Ed ds=true/\Ed es=true/\ds.length+es.length<=1000000/\P (.dat .ow (.tuple (ds++es)))
 | _,_=>False
def tL:D2:=λx y P=>match x,y with
 | .dat _ (.list ds),.dat _ (.int k)=>Ed ds=true /\ -1000000<=k/\k<=1000000/\ds.length * k.toNat<=1000000/\P (.dat .ow (.list (Bz k.toNat ds).flatten))
 | _,_=>False
section
variable{K:PySem.W.Frag}
theorem Z5:qZ K ER sY:=by
 intro s X n S T x y v w F G H Q P d c k
 unfold sY at c
 split at c
 ·obtain ⟨o,i,A,p⟩:=c
  obtain ⟨b,l,r,rfl,h,e,_,_⟩:=(d.told mem_mid).list_inv
  obtain ⟨a,m,u,rfl,j,f,_,_⟩:=(d.told Fd).list_inv
  have t:=f.len
  have z:=e.len
  refine ⟨a,b,m,l,rfl,rfl,j,h,kE (by omega),λq g=>?_⟩
  exact k _ _ _ _ (d.drop2.newI (f.app e) (by rw[cC,o,i]; rfl) (by rw[Bf]; exact kE (by omega)) g .ow) p
 ·exact c.elim
theorem AG:qZ K EW tL:=by
 intro u X n S T x y v w F G H Q P e c k
 unfold tL at c
 split at c
 ·obtain ⟨f,s,t,g,p⟩:=c
  obtain ⟨rfl,_⟩:=(e.told mem_mid).int_inv
  obtain ⟨a,r,A,rfl,o,d,_,_⟩:=(e.told Fd).list_inv
  have m:=d.len
  obtain rfl:=d.imm f
  rename_i j
  refine ⟨a,_,r,rfl,rfl,o,by omega,by omega,kE (by rw[m]; exact g),λq h=>?_⟩
  refine k _ _ _ _ (e.drop2.newI (d.rep _) ?_ (by rw[sF,Nat.mul_comm]; exact kE g) h .ow) p
  refine qJ.mpr λz b=>?_
  obtain ⟨l,i,b⟩:=List.mem_flatten.mp b
  rw[(Hu.mp i).2] at b
  exact qJ.mp f z b
 ·exact c.elim
theorem G5:qZ K (V7 K) jL:=by
 intro B X n S T x y v w F G H Q P c g k
 unfold jL at g
 split at g
 ·obtain ⟨A,t,C,p⟩:=g
  obtain ⟨b,j,rfl,h,d,s⟩:=(c.told mem_mid).tup_inv
  obtain ⟨a,m,rfl,i,f,o⟩:=(c.told Fd).tup_inv
  have u:=f.len
  have z:=d.len
  obtain rfl:=f.imm A
  obtain rfl:=d.imm t
  refine ⟨a,b,m,j,rfl,rfl,Ta.of i,Ta.of h,kE (by omega),λe=>?_,λe=>?_,λq r=>?_⟩
  ·subst e
   obtain rfl:=Mk.mp (u.symm.trans rfl)
   exact k _ _ [] _ (c.drop2.pushI (.tup h s d)) p
  ·subst e
   obtain rfl:=Mk.mp (z.symm.trans rfl)
   rw[Ec] at p
   exact k _ _ [] _ (c.drop2.pushI (.tup i o f)) p
  ·have l:=Fe r (.tup (m++j))
   exact k _ _ [] _ ((c.drop2.grow l (Aj _)).pushI (.tup Ds (by rw[Bf]; exact kE (by omega)) ((f.app d).kp (Kp.of l)))) p
 ·exact g.elim
end
section
variable{X:Cx}{a b:Expr}{d c:DE}{pos:Pos}
theorem cW(e:Fm X a d)(hb:Fm X b c):Fm X (.BinOp a .Add b pos) (aI sY d c):=Zj Y8 Z5 e hb
theorem aG(e:Fm X a d)(hb:Fm X b c):Fm X (.BinOp a .Add b pos) (aI jL d c):=Zj R8 G5 e hb
theorem X7(e:Fm X a d)(hb:Fm X b c):Fm X (.BinOp a .Mult b pos) (aI tL d c):=Zj AW AG e hb
end
abbrev DO:=DS->(Option Int->DS->Prop)->Prop
def LO(K:PySem.W.Frag)(d:DO):TO:=λg H Q=>∃(e:Hp) (X:Addr->Prop) (S T:List Ent) (b:DS) (P:Option Int->DS->Prop),vs S=g/\Sl S b/\At K e X b.n (S++T) H/\d b P /\
 ∀o a c f,vs c=g->Sl c a->At K e X a.n (c++T) f->P o a->Q o f
abbrev CO(X:Cx)(e:Option Expr)(d:DO):Prop:=PO X e (LO X.K d)
theorem PO.imp{X:Cx}{e:Option Expr}{t t':TO}(h:PO X e t)(k:∀a H Q,t' a H Q->t a H Q):PO X e t':=λb s a H Q I q=>h b s a H Q I (k a H Q q)
def rQ:DO:=λa P=>P none a
def S6(c:DE):DO:=λb P=>c b λx a=>match x with
 | .dat _ (.int i)=>P (some i) a
 | _=>False
section
variable{X:Cx}{e:Expr}{b:DE}{lo c:Option Expr}{dl d:DO}{pos f:Pos}
theorem nK:CO X none rQ:=by
 refine PO.imp E5 λf H Q h=>?_
 obtain ⟨e,Y,S,T,b,P,rfl,a,c,d,k⟩:=h
 exact k _ b S H rfl a c d
theorem lE(h:Fm X e b):CO X (some e) (S6 b):=by
 refine PO.imp (J3 h) λq H Q h=>?_
 obtain ⟨f,Y,S,T,m,P,rfl,g,l,o,k⟩:=h
 refine ⟨f,Y,S,T,m,_,rfl,g,l,o,λx c v F n i j d a p=>?_⟩
 split at p
 ·obtain ⟨rfl,_⟩:=(a.told mem_mid).int_inv
  exact ⟨_,rfl,k _ c n i j d a.drop p⟩
 ·exact p.elim
def IZ(i:Bool)(b:DE)(dl d:DO):DE:=λf P=>b f λx e=>dl e λl c=>d c λh a=>match x with
 | .dat m (.list ds)=>Zm i m (Pt ds l h) λz=>P z a
 | .dat m (.tuple ds)=>jS i m (Pt ds l h) λz=>P z a
 | _=>False
def IG(K:PySem.W.Frag):V->Option Int->Option Int->Hp->VK->Prop:=λx lo c H Q=>BX K x lo c H Q\/U6 x lo c H Q
theorem zB{i:Bool}(he:Fm X e b)(U:CO X lo dl)(hh:CO X c d):Fm X (.Subscript e (.Slice lo c none f) pos) (IZ i b dl d):=by
 refine PE.imp (mQ (r:=IG X.K) (K5.or O7) he U hh) λσ H Q h=>?_
 obtain ⟨w,Y,S,T,δ,P,rfl,V,hA,hd,k⟩:=h
 refine ⟨w,Y,S,T,δ,_,rfl,V,hA,hd,λx J v F R H1 e1 e2 s W=>?_⟩
 refine ⟨w,Y,R,⟨some v,x,F⟩::T,J,_,e1,e2,s,W,λl C Z H2 e3 e4 E f=>?_⟩
 refine ⟨w,Y,Z,⟨some v,x,F⟩::T,C,_,e3,e4,E,f,λh m N H3 M L g n=>?_⟩
 split at n
 ·obtain ⟨a,B,G,rfl,I,q,rfl,A⟩:=(g.told mem_mid).list_inv
  refine .inl ⟨a,B,rfl,Pq.of I,λp u=>?_⟩
  obtain ⟨G',y,o⟩:=q.cut l h
  obtain ⟨z,t,j,D⟩:=g.newL y (o.trans (Cy _ _)) (Cg (bY _ _ _).length_le A) u n
  exact k z m _ t N _ M L j D
 ·obtain ⟨a,B,rfl,I,q,A⟩:=(g.told mem_mid).tup_inv
  refine .inr ⟨a,B,rfl,I,λp H' u O=>?_⟩
  obtain ⟨G',y,o⟩:=q.cut l h
  obtain ⟨z,t,j,D⟩:=(g.grow O (Aj _)).oldT (y.kp (Kp.of O)) o (Cg (bY _ _ _).length_le A) u n
  exact k z m _ t N _ M L j D
 ·exact n.elim
end
end DL
namespace NdS
open PySem PyProof.Rows
end NdS
namespace Nd
open PySem PySem.Spec PyProof.Rows L2 NdS
end Nd
namespace DL
open PySem L2 Nd
def lO(x:Int):List Int->List Int
 | []=>[x]
 | y::l=>if x<y then x::y::l else if x=y then y::l else y::lO x l
def Ol(ns:List Int):List Int:=ns.foldr lO []
theorem lU{x z:Int}:∀{l:List Int},z∈lO x l↔z=x\/z∈l
 | []=>by simp [lO]
 | y::l=>by
  unfold lO
  split
  ·simp
  ·split
   ·rename_i b a
    subst a
    simp
   ·simp only[An,lU (l:=l)]
    constructor
    ·rintro (h | h | h) <;> simp [h]
    ·rintro (h | h | h) <;> simp [h]
theorem fS{x:Int}:∀{l:List Int},l.Pairwise (· < ·)->(lO x l).Pairwise (· < ·)
 | [],_=>Ey _ _
 | y::l,h=>by
  obtain ⟨a,c⟩:=Bb.mp h
  unfold lO
  split
  ·rename_i b
   refine Bb.mpr ⟨λz hz=>?_,h⟩
   rcases An.mp hz with rfl | hz
   ·exact b
   ·exact Int.lt_trans b (a z hz)
  ·split
   ·exact h
   ·refine Bb.mpr ⟨λz hz=>?_,fS c⟩
    rcases lU.mp hz with rfl | hz
    ·omega
    ·exact a z hz
theorem Qy:∀ns:List Int,(Ol ns).Pairwise (· < ·)
 | []=>Ea
 | n::ns=>fS (Qy ns)
theorem bN{x:Int}:∀{ns:List Int},x∈Ol ns↔x∈ns
 | []=>Iff.rfl
 | n::ns=>by
  rw[show Ol (n::ns)=lO n (Ol ns) from rfl,lU,bN (ns:=ns),An]
theorem iL{l ns:List Int}(h:l.Pairwise (· < ·))(m:∀x,x∈l↔x∈ns):l=Ol ns:=fI h (Qy ns) λx=>(m x).trans bN.symm
theorem E4{l:List Int}(h:l.Pairwise (· < ·)):Ol l=l:=(iL h λ_=>Iff.rfl).symm
theorem bR:∀{l m:List Int},l.Perm m->l.Pairwise (·<=·)->m.Pairwise (·<=·)->l=m
 | [],m,p,_,_=>(List.nil_perm.mp p).symm
 | a::l,[],p,_,_=>(List.perm_nil.mp p)
 | a::l,b::m,p,h1,h2=>by
  obtain ⟨g,f⟩:=Bb.mp h1
  obtain ⟨c,d⟩:=Bb.mp h2
  have e:a=b:=by
   rcases An.mp (p.mem_iff.mp Ab) with z | z
   ·exact z
   ·rcases An.mp (p.mem_iff.mpr Ab) with y | y
    ·exact y.symm
    ·have:=c a z; have:=g b y; omega
  subst e
  rw[bR (List.perm_cons _ |>.mp p) f d]
def wX(x:Int):List Int->List Int
 | []=>[x]
 | y::l=>if x<=y then x::y::l else y::wX x l
def cJ(ns:List Int):List Int:=ns.foldr wX []
theorem wN{x:Int}:∀{l:List Int},(wX x l).Perm (x::l)
 | []=>Hk _
 | y::l=>by
  unfold wX
  split
  ·exact Hk _
  ·exact ((wN (l:=l)).cons y).trans (Dk _ _ _)
theorem Vq:∀ns:List Int,(cJ ns).Perm ns
 | []=>Hk _
 | n::ns=>wN.trans ((Vq ns).cons n)
theorem tG{x:Int}:∀{l:List Int},l.Pairwise (·<=·)->(wX x l).Pairwise (·<=·)
 | [],_=>Ey _ _
 | y::l,h=>by
  obtain ⟨a,c⟩:=Bb.mp h
  unfold wX
  split
  ·rename_i b
   refine Bb.mpr ⟨λz hz=>?_,h⟩
   rcases An.mp hz with rfl | hz
   ·exact b
   ·exact Int.le_trans b (a z hz)
  ·refine Bb.mpr ⟨λz hz=>?_,tG c⟩
   rcases An.mp (wN.mem_iff.mp hz) with rfl | hz
   ·omega
   ·exact a z hz
theorem nR:∀ns:List Int,(cJ ns).Pairwise (·<=·)
 | []=>Ea
 | n::ns=>tG (nR ns)
theorem lC{l ns:List Int}(p:l.Perm ns)(h:l.Pairwise (·<=·)):l=cJ ns:=bR (p.trans (Vq ns).symm) h (nR ns)
theorem uP(ns:List Int):(cJ ns).length=ns.length:=(Vq ns).length_eq
abbrev DC:=List DV->(DV->Prop)->Prop
def Tt(K:PySem.W.Frag)(r:List V->Hp->VK->Prop)(rd:DC):Prop:=∀(b:Hp) (X:Addr->Prop) (n:Nat) (S T a:List Ent) (d:List V) (H:Hp) (Q:VK) (P:DV->Prop),
 a.map Ent.v=d.map some->At K b X n (S++(a++T)) H->rd (a.map Ent.x) P->(∀z u e c,At K b X n (S++⟨some u,z,e⟩::T) c->P z->Q u c)->r d H Q
def GZ(rd:DC)(d:DA):DE:=λb P=>d b λc a=>rd c λz=>P z a
section
variable{X:Cx}{x:Str}{p pos:Pos}{e:Expr}{es:List Expr}{a:DA}{id T:String}{r:List V->Hp->VK->Prop}{rd:DC}
theorem U5{K:PySem.W.Frag}(o:Tt K r rd):∀c H Q,LE K (GZ rd a) c H Q->IK r (LA K a) c H Q:=by
 intro c H Q h
 obtain ⟨i,Y,S,T,C,P,rfl,m,t,x,k⟩:=h
 refine ⟨i,Y,S,T,C,_,rfl,m,t,x,λD b B q g l A y s j f p=>?_⟩
 subst s
 exact o i Y b.n g T B q l Q _ j f p λz u v e d w=>k z b u v g e A y d w
theorem Jk(f:Mf X (.builtin id) r)(o:Tt X.K r rd)(j:Gl X x)(d:X.mg x=none)(h:Kl x=some (.builtin id))(k:oT X (e::es) a)(i:x ≠ "__name__" := by decide)(c:(x == ("__debug__" : Str))=false:=by decide)(g:Bn (e::es) X.env=(false,eval e X.env)::Bn es X.env:=by rfl)(b:(Hj pos (Bn es X.env)).any (·.1)=false:=by rfl):Fm X (.Call (.Name x p) (e::es) [] pos) (GZ rd a) :=
 PE.imp (aY f j d h k i c g b) (U5 o)
theorem Ov(f:Mf X (.type T) r)(o:Tt X.K r rd)(j:Gl X x)(d:X.mg x=none)(h:Kl x=some (.type T))(k:oT X (e::es) a)(i:x ≠ "__name__" := by decide)(c:(x == ("__debug__" : Str))=false:=by decide)(g:Bn (e::es) X.env=(false,eval e X.env)::Bn es X.env:=by rfl)(b:(Hj pos (Bn es X.env)).any (·.1)=false:=by rfl):Fm X (.Call (.Name x p) (e::es) [] pos) (GZ rd a) :=
 PE.imp (Mv f j d h k i c g b) (U5 o)
end
theorem AY{c b:Type}{f:c->b}{l:List c}{x:b}(h:l.map f=[x]):∃a,l=[a]/\f a=x:=by
 cases l with
 | nil=>cases h
 | cons a t =>
  obtain ⟨d,e⟩:=Ie h
  exact ⟨a,by rw[xP.mp e],d⟩
theorem FR{c d:Type}{f:c->d}{l:List c}{x y:d}(h:l.map f=[x,y]):∃a b,l=[a,b]/\f a=x/\f b=y:=by
 cases l with
 | nil=>cases h
 | cons a t =>
  obtain ⟨g,e⟩:=Ie h
  obtain ⟨b,rfl,i⟩:=AY e
  exact ⟨a,b,rfl,g,i⟩
theorem Jf{K:PySem.W.Frag}{c H:Hp}{X:Addr->Prop}{n:Nat}{S T As:List Ent}{us:List V}{x:DV}(g:As.map Ent.v=us.map some)(f:At K c X n (S++(As++T)) H)(ex:As.map Ent.x=[x]):∃v F,us=[v]/\At K c X n (S++⟨some v,x,F⟩::T) H:=by
 obtain ⟨⟨v,y,F⟩,rfl,e⟩:=AY ex
 obtain ⟨u,rfl,d⟩:=AY g.symm
 have a:y=x:=e
 have b:some u=v:=d
 subst a b
 exact ⟨u,F,rfl,f⟩
theorem Wy{K:PySem.W.Frag}{e H:Hp}{X:Addr->Prop}{n:Nat}{S T As:List Ent}{us:List V}{x y:DV}(m:As.map Ent.v=us.map some)(l:At K e X n (S++(As++T)) H)(ex:As.map Ent.x=[x,y]):∃v F w G,us=[v,w]/\At K e X n (S++⟨some v,x,F⟩::⟨some w,y,G⟩::T) H:=by
 obtain ⟨⟨v,i,F⟩,⟨w,h,G⟩,rfl,j,g⟩:=FR ex
 obtain ⟨u,f,rfl,o,k⟩:=FR m.symm
 have c:i=x:=j
 have d:h=y:=g
 have b:some u=v:=o
 have a:some f=w:=k
 subst c d b a
 exact ⟨u,F,f,G,rfl,l⟩
def rR:DC:=λa P=>match a with
 | [.dat _ (.list ds)]=>P (.dat .ow (.int ds.length))
 | [.dat _ (.tuple ds)]=>P (.dat .ow (.int ds.length))
 | [.dat _ (.str z)]=>z.length<=1000000/\P (.dat .ow (.int z.length))
 | _=>False
def pG(i:Bool):DC:=λa P=>match a with
 | [.dat m (.list ds)]=>Zm i m ds P
 | [.dat m (.tuple ds)]=>Zm i m ds P
 | _=>False
def jJ(i:Bool):DC:=λa P=>match a with
 | [.dat m (.list ds)]=>jS i m ds P
 | [.dat m (.tuple ds)]=>P (.dat m (.tuple ds))
 | _=>False
def yK:DC:=λa P=>match a with
 | [.dat _ (.int i)]=>P (.dat .ow (.int i))
 | [.dat _ (.bool b)]=>P (.dat .ow (.int (if b=true then 1 else 0)))
 | _=>False
def qH:DC:=λa P=>match a with
 | [.dat _ (.int i),.dat _ (.int j)]=>P (.dat .ow (.int (if j > i then j else i)))
 | _=>False
def D0:Ae->String
 | .none => "NoneType"
 | .bool _ => "bool"
 | .int _ => "int"
 | .str _ => "str"
 | .list _ => "list"
 | .tuple _ => "tuple"
 | .dict _ => "dict"
def jF(d:Ae)(n:String):Bool:=D0 d == n || (D0 d == "bool" && n == "int")
def xV:DC:=λa P=>match a with
 | [.dat _ d,.val (.ty n)]=>(n = "int" \/ n = "bool" \/ n = "str" \/ n = "list" \/ n = "tuple")/\P (.dat .ow (.bool (jF d n)))
 | _=>False
section
variable{K:PySem.W.Frag}
theorem cM:Tt K (λxs H Q=>∃x n,xs=[x]/\EJ K x H n/\Q (.int n) H) rR:=by
 intro h X n S T j i H Q P g b c k
 unfold rR at c
 split at c
 ·rename_i d
  obtain ⟨v,F,rfl,b⟩:=Jf g b d
  obtain ⟨a,xs,G,rfl,f,e,_,_⟩:=(b.told mem_mid).list_inv
  exact ⟨_,_,rfl,.inl ⟨xs,Pq.of f,e.len.symm⟩,k _ _ [] H (b.drop.pushI (.int _)) c⟩
 ·rename_i d
  obtain ⟨v,F,rfl,b⟩:=Jf g b d
  obtain ⟨a,xs,rfl,f,e,_⟩:=(b.told mem_mid).tup_inv
  exact ⟨_,_,rfl,.inr ⟨xs,Ta.of f,e.len.symm⟩,k _ _ [] H (b.drop.pushI (.int _)) c⟩
 ·rename_i d
  obtain ⟨v,F,rfl,b⟩:=Jf g b d
  obtain ⟨rfl,_⟩:=(b.told mem_mid).str_inv
  exact ⟨_,_,rfl,⟨kE c.1,rfl⟩,k _ _ [] H (b.drop.pushI (.int _)) c.2⟩
 ·exact c.elim
theorem P3{i:Bool}:Tt K (V8 K) (pG i):=by
 intro r X n S T t s H Q P p b c k
 unfold pG at c
 split at c
 ·rename_i g
  obtain ⟨v,F,rfl,b⟩:=Jf p b g
  obtain ⟨a,o,G,rfl,h,j,rfl,m⟩:=(b.told mem_mid).list_inv
  refine ⟨a,o,rfl,.inl (Pq.of h),λl e=>?_⟩
  obtain ⟨z,q,f,d⟩:=b.newL j (Cy _ _) m e c
  exact k _ _ _ _ f d
 ·rename_i g
  obtain ⟨v,F,rfl,b⟩:=Jf p b g
  obtain ⟨a,o,rfl,h,j,m⟩:=(b.told mem_mid).tup_inv
  refine ⟨a,o,rfl,.inr (Ta.of h),λl e=>?_⟩
  obtain ⟨z,q,f,d⟩:=b.newL j (Ci _) m e c
  exact k _ _ _ _ f d
 ·exact c.elim
theorem bL{i:Bool}:Tt K (V4 K) (jJ i):=by
 intro q X n S T s r H Q P j b c k
 unfold jJ at c
 split at c
 ·rename_i d
  obtain ⟨v,F,rfl,b⟩:=Jf j b d
  obtain ⟨a,f,G,rfl,e,g,rfl,h⟩:=(b.told mem_mid).list_inv
  refine ⟨a,f,rfl,.inl ⟨Pq.of e,λl o=>?_⟩⟩
  obtain ⟨z,t,p,m⟩:=b.newT g (Cy _ _) h o c
  exact k _ _ _ _ p m
 ·rename_i d
  obtain ⟨v,F,rfl,b⟩:=Jf j b d
  obtain ⟨a,f,rfl,e,g,h⟩:=(b.told mem_mid).tup_inv
  exact ⟨a,f,rfl,.inr ⟨Ta.of e,k _ _ F H b c⟩⟩
 ·exact c.elim
theorem zE:Tt K (λxs H Q=>(∃i,xs=[V.int i]/\Q (.int i) H)\/∃k,xs=[V.bl k]/\Q (.int (if k then 1 else 0)) H) yK:=by
 intro e X n S T g f H Q P d a b k
 unfold yK at b
 split at b
 ·rename_i c
  obtain ⟨v,F,rfl,a⟩:=Jf d a c
  obtain ⟨rfl,_⟩:=(a.told mem_mid).int_inv
  exact .inl ⟨_,rfl,k _ _ [] H (a.drop.pushI (.int _)) b⟩
 ·rename_i c
  obtain ⟨v,F,rfl,a⟩:=Jf d a c
  obtain ⟨rfl,_⟩:=(a.told mem_mid).bl_inv
  exact .inr ⟨_,rfl,k _ _ [] H (a.drop.pushI (.int _)) b⟩
 ·exact b.elim
theorem K3:Tt K (λxs H Q=>∃i j,xs=[V.int i,V.int j]/\Q (.int (if j > i then j else i)) H) qH:=by
 intro e X n S T g f H Q P d a b k
 unfold qH at b
 split at b
 ·rename_i c
  obtain ⟨v,F,w,G,rfl,a⟩:=Wy d a c
  obtain ⟨rfl,_⟩:=(a.told mem_mid).int_inv
  obtain ⟨rfl,_⟩:=(a.told Fd).int_inv
  exact ⟨_,_,rfl,k _ _ [] H (a.drop2.pushI (.int _)) b⟩
 ·exact b.elim
theorem L5{T n:String}{b:Bool}(a:(Gd T == Gd n)=false)(c:PySem.W.kitMeta n=true)(d:(fastBuiltinMro T).map (λx=>x.contains (Gd n))=some b):PySem.W.kitOne K (.type T) (.type n)=some b:=AU a c d
theorem F5{d:Ae}{n:String}(c:n = "int" \/ n = "bool" \/ n = "str" \/ n = "list" \/ n = "tuple"):PySem.W.kitOne K (.type (D0 d)) (.type n)=some (jF d n):=by
 have a:∀T:String,(T = "NoneType" \/ T = "bool" \/ T = "int" \/ T = "str" \/ T = "list" \/ T = "tuple" \/ T = "dict")->PySem.W.kitOne K (.type T) (.type n)=some (T == n || (T == "bool" && n == "int")):=by
  intro T b
  rcases b with rfl | rfl | rfl | rfl | rfl | rfl | rfl <;> rcases c with rfl | rfl | rfl | rfl | rfl <;> first | exact Z4 | exact L5 (by decide +kernel) (by decide +kernel) (by decide +kernel)
 unfold jF
 refine a _ ?_
 cases d <;> simp [D0]
theorem qK:Tt K (JF K) xV:=by
 intro m X n S T p o H Q P j a c k
 unfold xV at c
 split at c
 ·rename_i g
  obtain ⟨v,F,w,G,rfl,a⟩:=Wy j a g
  have f:w=.ty _:=Bv (a.ok _ Fd).1
  subst f
  have r:=a.told mem_mid
  refine ⟨v,_,.type (D0 _),_,rfl,?_,F5 c.1,k _ _ [] H (a.drop2.pushI (.bl _)) c.2⟩
  ·cases r with
   | non=>exact .non
   | bl b=>exact .bl b
   | int i=>exact .int i
   | str x=>exact .str x
   | lst h l d=>exact .lst h
   | tup h l d=>exact .tup h
   | dic h e d=>exact .dT h
 ·exact c.elim
end
def dV(v:V):DE:=λa P=>P (.val v) a
section
variable{X:Cx}{e:Expr}
theorem BP{v:V}(h:PE X e (tC v)):Fm X e (dV v):=by
 refine PE.imp h λl H Q h=>?_
 obtain ⟨j,Y,S,T,d,P,rfl,c,g,i,k⟩:=h
 exact k _ d v [] S H rfl c ((g.push (e:=⟨some v,.val v,[]⟩) ⟨rfl,rfl⟩ (λf _=>⟨λ_ a b=>(nomatch b),λ_ a _=>Bd⟩) (λa b=>(nomatch b))).tomid) i
theorem w5{x:Str}{n:String}{pos:Pos}(b:Gl X x)(c:X.mg x=none)(a:Kl x=some (.type n))(d:x ≠ "__name__" := by decide)(hd:(x == ("__debug__" : Str))=false:=by decide):Fm X (.Name x pos) (dV (.ty n)):=BP (R1 b c a rfl d hd)
end
theorem kM{ns:List Int}(h:∀x∈ns,0<=x/\x<60):(Ol ns).length<=60 :=
 Cg (NdS.len_leI ((Qy ns).imp λ{x y} h=>aV h) λe a=>Xn (h e (bN.mp a)).1 (h e (bN.mp a)).2) (by decide)
end DL
namespace Nd
open PySem PySem.Spec PyProof.Rows L2
theorem wG(I l1 l2:Nat)(a:l1<I)(b:l2<I):Sw (I+4) (I+2) (I+3) I (I+1) l1 l2:=by
 constructor <;> (intro e; have c:(_:Nat)=_:=e; omega)
end Nd
namespace Nd
open PySem PySem.Spec PyProof.Rows L2
open AutoSeq1 (wpAny_loadPart')
end Nd
namespace DL
open PySem L2 Nd
def dB(d:DE):DT:=λc P=>d c λx a=>match x with
 | .dat _ (.bool b)=>P b a
 | _=>False
def V5(dt:DT):DT:=λc P=>dt c λb a=>P (!b) a
def W4(dt c:DT):DT:=λd P=>dt d λb a=>match b with
 | true=>c a P
 | false=>P false a
def GE(dt c:DT):DT:=λd P=>dt d λb a=>match b with
 | true=>P true a
 | false=>c a P
def GA(c b:DE):DE:=λd P=>c d λx a=>match x with
 | .dat _ (.bool true)=>b a P
 | .dat _ (.bool false)=>P (.dat .ow (.bool false)) a
 | _=>False
def DX(dt:DT)(d c:DE):DE:=λe P=>dt e λb a=>match b with
 | true=>d a P
 | false=>c a P
def DQ(c:DE):DE:=λb P=>c b λx a=>match x with
 | .dat _ (.int i)=>P (.dat .ow (.int (-i))) a
 | _=>False
section
variable{K:PySem.W.Frag}{a:DE}
theorem EU:∀c H Q,LT K (dB a) c H Q->LE K a c H λx g=>∃k,x=.bl k/\Q k g:=by
 intro c H Q h
 obtain ⟨l,Y,S,T,p,P,rfl,i,o,q,k⟩:=h
 refine ⟨l,Y,S,T,p,_,rfl,i,o,q,λx e v F j n m f b d=>?_⟩
 split at d
 ·obtain ⟨rfl,_⟩:=(b.told mem_mid).bl_inv
  exact ⟨_,rfl,k _ e j n m f b.drop d⟩
 ·exact d.elim
end
section
variable{X:Cx}{a b c e:Expr}{d f i:DE}{dt g:DT}{pos:Pos}{Ht:List Expr}
theorem qT(h:Fm X e i)(b:∀a,isTrue e X.env a=(do let v <- a; Wj e.pos; Ny [v] (truthy v)):=by intro _; rfl):nS X e (dB i):=PT.imp (zG h b) EU
theorem bZ{op:CmpOp}{r:R2}{rd:D2}(i:Xu X (Iz op) r)(o:qZ X.K r rd)(g:Fm X a d)(hb:Fm X b f)(e:Hd op b=false):nS X (.Compare a [op] [b] pos) (dB (aI rd d f)):=by
 refine PT.imp (rX i g hb e) λc H Q h=>?_
 exact lY o _ _ _ (EU c H Q h)
theorem T3(c:Fm X a d)(hb:Fm X b f):nS X (.Compare a [.Lt] [b] pos) (dB (aI rdLt d f)):=bZ T9 (kP λ_ _ _=>.bl _) c hb (Vs _)
theorem cT(e:X.A.units+64<cLine)(c:Fm X a d)(hb:Fm X b f):nS X (.Compare a [.Eq] [b] pos) (dB (aI (iO false) d f)):=bZ (q8 e) S8 c hb (Vs _)
theorem sS(e:X.A.units+64<cLine)(c:Fm X a d)(hb:Fm X b f):nS X (.Compare a [.NotEq] [b] pos) (dB (aI (iO true) d f)):=bZ (CG e) GD c hb (Vs _)
theorem FZ(g:X.A.units+64<cLine)(c:Fm X a d)(hb:Fm X b f)(e:Hd .In b=false:=by with_unfolding_all rfl):nS X (.Compare a [.In] [b] pos) (dB (aI (uJ false) d f)):=bZ (Y9 g) U8 c hb e
theorem mP(g:X.A.units+64<cLine)(c:Fm X a d)(hb:Fm X b f)(e:Hd .NotIn b=false:=by with_unfolding_all rfl):nS X (.Compare a [.NotIn] [b] pos) (dB (aI (uJ true) d f)):=bZ (vF g) U8 c hb e
theorem j8(h:nS X a dt):nS X (.UnaryOp .Not a pos) (V5 dt):=by
 refine PT.imp (X9 h) λq H Q h=>?_
 obtain ⟨f,Y,S,T,m,P,rfl,g,l,o,k⟩:=h
 exact ⟨f,Y,S,T,m,_,rfl,g,l,o,λb d n i j e c p=>k _ d n i j e c p⟩
theorem tE(h:nS X a dt):Y0 X (.BoolOp .And [a] pos) dt:=N9 h
theorem zR(h:nS X a dt):Y0 X (.BoolOp .Or [a] pos) dt:=AR h
theorem yF(h:nS X a dt)(hb:Y0 X (.BoolOp .And (b::Ht) pos) g):Y0 X (.BoolOp .And (a::b::Ht) pos) (W4 dt g):=by
 refine PW.imp (BM h hb) λr H Q h=>?_
 obtain ⟨f,Y,S,T,o,P,rfl,l,n,q,k⟩:=h
 refine ⟨f,Y,S,T,o,_,rfl,l,n,q,λb d j m i e c p=>?_⟩
 cases b with
 | true=>exact mF ⟨f,Y,j,T,d,P,i,e,c,p,k⟩
 | false=>exact oK (k _ d j m i e c p)
theorem U1(h:nS X a dt)(hb:Y0 X (.BoolOp .Or (b::Ht) pos) g):Y0 X (.BoolOp .Or (a::b::Ht) pos) (GE dt g):=by
 refine PW.imp (GT h hb) λr H Q h=>?_
 obtain ⟨f,Y,S,T,o,P,rfl,l,n,q,k⟩:=h
 refine ⟨f,Y,S,T,o,_,rfl,l,n,q,λb d j m i e c p=>?_⟩
 cases b with
 | true=>exact mF (k _ d j m i e c p)
 | false=>exact oK ⟨f,Y,j,T,d,P,i,e,c,p,k⟩
theorem N6(h:Y0 X a dt):nS X a dt:=PW.pt h
theorem i8{op}(h:Fm X a d):Fm X (.BoolOp op [a] pos) d:=CB h
theorem jB(h:Fm X a d)(hb:Fm X (.BoolOp .And (b::Ht) pos) f):Fm X (.BoolOp .And (a::b::Ht) pos) (GA d f):=by
 refine PE.imp (Z3 h hb) λs H Q h=>?_
 obtain ⟨j,Y,S,T,q,P,rfl,n,p,r,k⟩:=h
 refine ⟨j,Y,S,T,q,_,rfl,n,p,r,λx e v F l o m i c g=>?_⟩
 split at g
 ·obtain ⟨rfl,_⟩:=(c.told mem_mid).bl_inv
  exact ⟨_,rfl,mF ⟨j,Y,l,T,e,P,m,i,c.drop,g,k⟩⟩
 ·obtain ⟨rfl,_⟩:=(c.told mem_mid).bl_inv
  exact ⟨_,rfl,oK (k _ e _ [] l o m i (c.drop.pushI (.bl _)) g)⟩
 ·exact g.elim
theorem oV(h:Fm X a d):Fm X (.UnaryOp .USub a pos) (DQ d):=by
 refine PE.imp (GI AO h) λq H Q h=>?_
 obtain ⟨g,Y,S,T,o,P,rfl,i,n,p,k⟩:=h
 refine ⟨g,Y,S,T,o,_,rfl,i,n,p,λx e v F j m l f b c=>?_⟩
 split at c
 ·obtain ⟨rfl,_⟩:=(b.told mem_mid).int_inv
  exact ⟨_,rfl,k _ e _ [] j m l f (b.drop.pushI (.int _)) c⟩
 ·exact c.elim
theorem CF(o:nS X c dt)(q:Fm X a d)(hb:Fm X b f):Fm X (.IfExp c a b pos) (DX dt d f):=by
 refine PE.imp (A9 o q hb) λv H Q h=>?_
 obtain ⟨i,Y,S,T,s,P,rfl,n,r,t,k⟩:=h
 refine ⟨i,Y,S,T,s,_,rfl,n,r,t,λb g m u l j e p=>?_⟩
 cases b with
 | true=>exact mF ⟨i,Y,m,T,g,P,l,j,e,p,k⟩
 | false=>exact oK ⟨i,Y,m,T,g,P,l,j,e,p,k⟩
end
theorem PS.impD{X:Cx}{st:Stmt}{t t':TS}(h:PS X st t)(k:∀D a H,t' D a H->t D a H):PS X st t':=λb s a H D I q=>h b s a H D I (k D a H q)
theorem tP.impD{X:Cx}{st:List Stmt}{t t':TS}(h:tP X st t)(k:∀D a H,t' D a H->t D a H):tP X st t':=λb s a H D I q=>h b s a H D I (k D a H q)
def V3:DB:=λD a=>D.nx a
def EK(t u:DB):DB:=λD b=>t { D with nx:=λa=>u D a } b
def GS(b:DE):DB:=λD a=>b a D.rt
def JJ(dt:DT)(t u:DB):DB:=λD c=>dt c λb a=>match b with
 | true=>t D a
 | false=>u D a
def p8(d:DE)(b:DG):DB:=λD c=>d c λx a=>b x a D.nx
section
variable{X:Cx}{st:Stmt}{e i c:Expr}{t u:DB}{Ht:List Stmt}{d:DE}{f:DG}{dt:DT}{pos:Pos}
theorem Nn:cG X [] V3:=by
 refine tP.impD iK λD j H h=>?_
 obtain ⟨i,Y,S,T,d,P,rfl,b,f,c,e,a,g,k,l⟩:=h
 exact a d S H b c e
theorem Dd(m:xM X st t)(j:cG X Ht u):cG X (st::Ht) (EK t u):=by
 refine tP.impD (Me m j) λD v H h=>?_
 obtain ⟨e,Y,S,T,o,P,rfl,l,c,n,r,k,d,f,g⟩:=h
 exact ⟨e,Y,S,T,o,_,rfl,l,c,n,r,λb q s i a p=>⟨e,Y,q,T,b,P,rfl,i,c,a,p,k,d,f,g⟩,d,f,g⟩
theorem Eo(a:xM X st t):cG X [st] t:=Ur a
theorem Iw(k:Fm X e d):xM X (.Return (some e) pos) (GS d):=by
 refine PS.impD (Ym k) λD s H h=>?_
 obtain ⟨j,Y,S,T,m,P,rfl,i,q,l,o,r,f,t,w⟩:=h
 exact ⟨j,Y,S,T,m,_,rfl,i,l,o,λx b v F n g u c a p=>f x b v F n g c a p⟩
theorem Sn{a b:List Stmt}(q:nS X c dt)(x:cG X a t)(hb:cG X b u):xM X (.If c a b pos) (JJ dt t u):=by
 refine PS.impD (x5 q x hb) λD y H h=>?_
 obtain ⟨f,Y,S,T,w,P,rfl,r,k,s,v,g,l,i,m⟩:=h
 refine ⟨f,Y,S,T,w,_,rfl,r,s,v,λb d j z o n e p=>?_⟩
 cases b with
 | true=>exact mF ⟨f,Y,j,T,d,P,o,n,k,e,p,g,l,i,m⟩
 | false=>exact oK ⟨f,Y,j,T,d,P,o,n,k,e,p,g,l,i,m⟩
theorem oZ{K:PySem.W.Frag}{k:TE}{g:TG}(u:∀a H Q,LE K d a H Q->k a H Q)(m:∀v a H Q,LG K f v a H Q->g v a H Q):∀D a H,LS K (p8 d f) D a H->G3 k g D a H:=by
 intro D a H h
 obtain ⟨j,Y,S,T,B,P,rfl,r,E,t,y,n,G,C,J⟩:=h
 refine u _ _ _ ⟨j,Y,S,T,B,_,rfl,r,t,y,λx b v F o I A z e p=>?_⟩
 exact m _ _ _ _ ⟨j,Y,o,T,b,x,F,P.nx,A,z,e,p,λc s l w i q=>n c s l w i q⟩
end
def Tw(i:Nat):DG:=λx a P=>match x with
 | .dat .pk _=>False
 | .dat _ d=>P ⟨a.sl.set i (.dat .sh d),a.n⟩
 | .val v=>P ⟨a.sl.set i (.val v),a.n⟩
 | .drw=>P ⟨a.sl.set i .drw,a.n⟩
 | .dT b=>P ⟨a.sl.set i (.dT b),a.n⟩
 | _=>False
def fQ(i:Nat):DG:=λx a P=>match x with
 | .dat .ow d=>P ⟨a.sl.set i (.dat .ow d),a.n⟩
 | .dat .tp d=>P ⟨a.sl.set i (.dat .tp d),a.n⟩
 | _=>False
theorem At.store{K:PySem.W.Frag}{a H:Hp}{X:Addr->Prop}{n:Nat}{S T:List Ent}{e:Ent}{i:Nat}(h:At K a X n (S++e::T) H):At K a X n (S.set i e++T) H:=by
 by_cases c:i<S.length
 ·have b:S[i]? = some S[i]:=by simp [c]
  have p:(S++e::T).Perm (S[i]::(S.set i e++T)):=by
   refine Dj.trans ?_
   rw[<- Do,<- Do]
   exact (Tx b).append_right T
  exact (h.perm p).sub (Cy _ _)
 ·rw[List.set_eq_of_length_le (by omega)]
  exact h.drop
theorem iR{S:List Ent}{i:Nat}{v:V}{x:DV}{F:List Addr}:vs (S.set i ⟨some v,x,F⟩)=(vs S).set i (some v):=by
 unfold vs
 rw[Ip]
theorem jD{S:List Ent}{a:DS}{i n:Nat}{v:V}{x:DV}{F:List Addr}(h:Sl S a):Sl (S.set i ⟨some v,x,F⟩) ⟨a.sl.set i x,n⟩:=by
 unfold Sl at h ⊢
 rw[Ip,h]
theorem hZ{K:PySem.W.Frag}{i:Nat}:∀v e H Q,LG K (Tw i) v e H Q->Sq i v e H Q:=by
 intro v e H Q h
 obtain ⟨l,Y,S,T,g,x,F,P,rfl,o,c,b,k⟩:=h
 show Q ((vs S).set i (some v)) H
 have a:∀y,At K l Y g.n (S++⟨some v,y,F⟩::T) H->P ⟨g.sl.set i y,g.n⟩->Q ((vs S).set i (some v)) H:=λy f p=>by
  rw[<- iR (x:=y) (F:=F)]
  exact k _ _ H (jD o) f.store p
 unfold Tw at b
 split at b
 ·exact b.elim
 ·rename_i m d j
  refine a _ ?_ b
  refine (c.mid.wk ?_).tomid
  cases m <;> first | rfl | exact (j rfl).elim
 ·exact a _ c b
 ·exact a _ c b
 ·exact a _ c b
 ·exact b.elim
theorem yI{K:PySem.W.Frag}{i:Nat}:∀v c H Q,LG K (fQ i) v c H Q->Sq i v c H Q:=by
 intro v c H Q h
 obtain ⟨g,Y,S,T,e,x,F,P,rfl,j,f,b,k⟩:=h
 show Q ((vs S).set i (some v)) H
 have a:∀y,At K g Y e.n (S++⟨some v,y,F⟩::T) H->P ⟨e.sl.set i y,e.n⟩->Q ((vs S).set i (some v)) H:=λy d p=>by
  rw[<- iR (x:=y) (F:=F)]
  exact k _ _ H (jD j) d.store p
 unfold fQ at b
 split at b
 ·exact a _ f b
 ·exact a _ f b
 ·exact b.elim
section
variable{X:Cx}{pos:Pos}
theorem Kr{i:Nat}{x:Str}(a:X.N.Nodup)(d:X.N[i]? = some x)(c:Loc X.env.scope x)(b:X.fn x=true\/X.env.scope.names.lookup x=some .local:=by first | exact .inl rfl | exact .inr rfl | assumption):HJ X (.Name x pos) (Tw i):=PG.imp (Mc a d c b) hZ
theorem Gg{i:Nat}{x:Str}{e:Expr}{b:DE}{a:Pos}(f:X.N.Nodup)(c:X.N[i]? = some x)(k:Loc X.env.scope x)(d:Fm X e b)(j:Nh e (some (.Name x a)) pos.line X.env=pure false:=by rfl)(g:X.fn x=true\/X.env.scope.names.lookup x=some .local:=by first | exact .inl rfl | exact .inr rfl | assumption):xM X (.Assign [.Name x a] e pos) (p8 b (Tw i)):=PS.impD (Yr f c k d j g) (oZ (λ_ _ _ h=>h) hZ)
theorem aO{i:Nat}{x:Str}{e:Expr}{b:DE}{a:Pos}(f:X.N.Nodup)(c:X.N[i]? = some x)(k:Loc X.env.scope x)(d:Fm X e b)(j:Nh e (some (.Name x a)) pos.line X.env=pure false:=by rfl)(g:X.fn x=true\/X.env.scope.names.lookup x=some .local:=by first | exact .inl rfl | exact .inr rfl | assumption):xM X (.Assign [.Name x a] e pos) (p8 b (fQ i)):=PS.impD (Yr f c k d j g) (oZ (λ_ _ _ h=>h) yI)
end
def yH:C9:=λa b P=>match a with
 | []=>P b
 | _=>False
def sE(g:DG)(b:C9):C9:=λc d P=>match c with
 | x::r=>g x d λa=>b r a P
 | []=>False
def zS(n:Nat)(a:C9):DG:=λx b P=>match x with
 | .dat m (.tuple ds)=>ds.length=n/\a (ds.map λd=>.dat (Pw m) d) b P
 | _=>False
theorem At.unpack{K:PySem.W.Frag}{j H:Hp}{X:Addr->Prop}{n:Nat}{m:Md}:∀{us:List V} {ds:List Ae} {F:List Addr} {E:List Ent},RdFs K H us ds F->(m=.ow->F.Nodup)->(∀f∈E,Xg ⟨none,.dat (Pw m) .none,F⟩ f)->(∀a∈cells ⟨none,.dat (Pw m) .none,F⟩,j a=none)->At K j X n E H->∃As:List Ent,As.map Ent.v=us.map some/\As.map Ent.x=ds.map (λd=>.dat (Pw m) d)/\(∀e∈As,∀a∈e.F,a∈F)/\At K j X n (As++E) H
 | _,_,_,_,.nil,_,_,_,h=>⟨[],rfl,rfl,λ_ z=>(nomatch z),h⟩
 | _,_,_,E,.cons (x:=x) (d:=d) (F:=F1) (G:=G1) a t,hn,hs,hnew,h=>by
  have k:∀{G:List Addr} {u:Option V} {g:Ae},(∀b∈G,b∈F1++G1)->∀b∈cells ⟨u,.dat (Pw m) g,G⟩,b∈cells ⟨none,.dat (Pw m) .none,F1++G1⟩:=λ{G u g} i b c=>by
   cases m with
   | ow=>exact i b c
   | _=>exact nomatch c
  have sub:∀{G:List Addr} {u:Option V} {g:Ae} {f:Ent},(∀b∈G,b∈F1++G1)->Xg ⟨none,.dat (Pw m) .none,F1++G1⟩ f->Xg ⟨u,.dat (Pw m) g,G⟩ f:=λ{G u g f} i q=>by
   refine ⟨λhp b c=>q.1 ?_ b (k i b c),λhp b c z=>q.2 ?_ b c (i b z)⟩
   ·rcases hp with hp | hp
    ·exact .inl hp
    ·cases hp
   ·rcases hp with hp | hp
    ·refine .inl ?_
     cases m <;> exact hp
    ·exact .inr hp
  obtain ⟨As,r,o,l,s⟩:=At.unpack (m:=m) t (λz=>(He.mp (hn z)).2.1) (λf hf=>sub (λb c=>Ag _ c) (hs f hf)) (λb c=>hnew b (k (λb c=>Ag _ c) b c)) h
  refine ⟨⟨some x,.dat (Pw m) d,F1⟩::As,by rw[Ao,Ao,r],by rw[Ao,Ao,o],λe he b c=>?_,?_⟩
  ·rcases An.mp he with rfl | he
   ·exact Ak _ c
   ·exact Ag _ (l e he b c)
  ·refine s.push ⟨x,rfl,a,λz=>?_,λz=>?_⟩ (λf hf=>?_) λb c=>.inl (hnew b (k (λb c=>Ak _ c) b c))
   ·cases m with
    | ow=>exact (He.mp (hn rfl)).1
    | _=>cases z
   ·cases m <;> cases z
   ·rcases Aw.mp hf with hf | hf
    ·have p:f.x∈As.map Ent.x:=Df.mpr ⟨f,hf,rfl⟩
     rw[o] at p
     obtain ⟨g,_,w⟩:=Df.mp p
     refine ⟨λhp b c z=>?_,λhp b c z=>?_⟩
     ·cases m with
      | ow=>exact (He.mp (hn rfl)).2.2 b c b (l f hf b z) rfl
      | _=>exact nomatch c
     ·cases m with
      | ow=>exact (He.mp (hn rfl)).2.2 b z b (l f hf b (Gu _ _ c)) rfl
      | _ =>
       unfold cells at c
       rw[<- w] at c
       exact nomatch c
    ·exact sub (λb c=>Ak _ c) (hs f hf)
section
variable{X:Cx}{pos:Pos}
theorem E9:Q0 X [] yH:=by
 refine BN.imp aM λe j H Q h=>?_
 obtain ⟨i,Y,S,T,f,g,P,rfl,d,c,b,a,k⟩:=h
 match f,b,a,c with
 | [],b,a,c =>
  cases e with
  | nil=>exact ⟨rfl,k g S H d b a⟩
  | cons _ _=>cases c
 | _::_,b,a,c=>exact a.elim
theorem nE{e:Expr}{es:List Expr}{g:DG}{n:C9}(t:HJ X e g)(o:Q0 X es n)(q:(Km (e::es) X.env).map (·.2)=Oc e X.env::(Km es X.env).map (·.2):=by rfl):Q0 X (e::es) (sE g n):=by
 refine BN.imp (Pj t o q) λi B H Q h=>?_
 obtain ⟨m,Y,S,T,d,A,P,rfl,s,a,c,b,k⟩:=h
 match d,c,b,a with
 | [],c,b,a=>exact b.elim
 | ⟨v,x,F⟩::d,c,b,a =>
  cases i with
  | nil=>cases a
  | cons u i =>
   rw[Ao,Ao] at a
   obtain ⟨z,y⟩:=Ie a
   have l:v=some u:=z
   subst l
   refine ⟨u,i,rfl,m,Y,S,d++T,A,x,F,_,rfl,s,c,b,λf r C w j p=>?_⟩
   exact ⟨m,Y,r,T,d,f,P,rfl,w,y,j,p,k⟩
theorem AI{es:List Expr}{y:Nat}{r:C9}{n:Nat}(t:X.calm=true)(h:Q0 X es r)(D:(Km es X.env).length=n:=by rfl)(g:(Km es X.env).findIdx? (·.1)=none:=by rfl):HJ X (.Tuple es y pos) (zS n r):=by
 refine PG.imp (iE t h D g) λv M H Q h=>?_
 obtain ⟨B,Y,S,T,K,x,F,P,rfl,A,i,d,k⟩:=h
 unfold zS at d
 split at d
 ·rename_i m G
  obtain ⟨a,I,rfl,L,o,N⟩:=(i.told mem_mid).tup_inv
  have e:=i.mid
  have p:=Bb.mp e.sep
  obtain ⟨w,_,_,j,_⟩:=e.ok _ Ab
  have l:∀b∈cells ⟨none,.dat (Pw m) .none,F⟩,b∈cells ⟨some (.ref a),.dat m (.tuple G),F⟩:=λb c=>by
   cases m with
   | ow=>exact c
   | _=>exact nomatch c
  obtain ⟨J,C,s,O,u⟩:=At.unpack (m:=m) (E:=S++T) o j (λf q=>by
   refine ⟨λhq b c=>(p.1 f q).1 ?_ b (l b c),λhq b c=>(p.1 f q).2 ?_ b c⟩
   ·rcases hq with hq | hq
    ·exact .inl hq
    ·cases hq
   ·rcases hq with hq | hq
    ·refine .inl ?_
     cases m <;> first | rfl | exact hq
    ·exact .inr hq) (λb c=>by
   rcases e.new _ Ab b (l b c) with z | z
   ·exact z
   ·cases z.2) i.drop
  refine ⟨a,I,rfl,Ta.of L,by rw[o.len]; exact d.1,B,Y,S,T,J,K,P,rfl,A,C,u.perm ?_,by rw[s]; exact d.2,k⟩
  rw[<- Bt,<- Bt]
  exact Et.append_right T
 ·exact d.elim
end
theorem oY{K:PySem.W.Frag}{d H:Hp}{X:Addr->Prop}{n:Nat}{E:List Ent}(h:At K d X n E H):∀{e f:Ent},e∈E->f∈E->e=f\/Xg e f:=by
 have a:∀{E:List Ent},E.Pairwise Xg->∀{e f:Ent},e∈E->f∈E->e=f\/Xg e f:=by
  intro E
  induction E with
  | nil=>intro _ e f he; cases he
  | cons g E i =>
   intro c e f he hf
   have b:=Bb.mp c
   rcases An.mp he with he | he
   ·subst he
    rcases An.mp hf with hf | hf
    ·exact .inl hf.symm
    ·exact .inr (b.1 f hf)
   ·rcases An.mp hf with hf | hf
    ·rw[hf]
     exact .inr (b.1 e he).symm
    ·exact i b.2 he hf
 intro e f he hf
 exact a h.sep he hf
abbrev DI:=DS->(Md->List Ae->DS->Prop)->Prop
structure IterOk(K:PySem.W.Frag)(J:It)(hid:List Ent)(m:Md)(ds:List Ae):Prop where
 md:m=.sh\/m=.pk
 hd:∀e∈hid,cells e=[]
 np:m=.sh->∀e∈hid,Pu e.x=false
 go:∀H n i,(∀e∈hid,Gr K H n e)->i<ds.length->J.go i H
 yld:∀H n i x H',(∀e∈hid,Gr K H n e)->i<ds.length->J.yld i H x H'->Sx H H'/\∃d F,ds[i]? = some d/\RdF K H' x d F/\∀a∈F,∃e∈hid,a∈e.F
 stop:∀H n,(∀e∈hid,Gr K H n e)->J.stop ds.length H
def LI(K:PySem.W.Frag)(i:DI):TI:=λh H R=>∃(f:Hp) (X:Addr->Prop) (S T:List Ent) (d:DS) (P:Md->List Ae->DS->Prop),vs S=h/\Sl S d/\At K f X d.n (S++T) H/\i d P /\
 ∀m c a J b e g,vs e=h->Sl e a->At K f X a.n (e++(b++T)) g->IterOk K J b m c->c.length<=Aq->P m c a->R J g
abbrev wD(X:Cx)(a iter:Expr)(b:DI):Prop:=PI X a iter (LI X.K b)
theorem PI.imp{X:Cx}{c e:Expr}{t t':TI}(h:PI X c e t)(k:∀a H Q,t' a H Q->t a H Q):PI X c e t':=λb s a H Q I q=>h b s a H Q I (k a H Q q)
def Ke:Md->Md
 | .pk=>.pk
 | _=>.sh
theorem Xi(m:Md):wk m (Ke m)=true:=by cases m <;> rfl
theorem At.item{K:PySem.W.Frag}{k H g:Hp}{X:Addr->Prop}{n:Nat}{S T b:List Ent}{m:Md}{v:V}{d:Ae}{F:List Addr}(h:At K k X n (S++(b++T)) H)(s:Sx H g)(r:RdF K g v d F)(o:∀a∈F,∃e∈b,a∈e.F)(md:m=.sh\/m=.pk)(t:∀e∈b,cells e=[])(np:m=.sh->∀e∈b,Pu e.x=false):At K k X n (S++⟨some v,.dat m d,F⟩::(b++T)) g:=by
 have p:=h.grow (n':=n) s (Aj _)
 have l:∀a,a∉cells ⟨some v,.dat m d,F⟩:=λa c=>by
  rcases md with rfl | rfl <;> exact nomatch c
 refine (p.push (e:=⟨some v,.dat m d,F⟩) ⟨v,rfl,r,λz=>?_,λz=>?_⟩ (λf w=>⟨λ_ a c=>absurd c (l a),λhq a c z=>?_⟩) λa c=>absurd c (l a)).tomid
 ·rcases md with rfl | rfl <;> cases z
 ·rcases md with rfl | rfl <;> cases z
 ·obtain ⟨e,i,u⟩:=o a z
  have j:e∈S++(b++T):=Ag _ (Ak _ i)
  rcases oY h j w with rfl | q
  ·rw[t e i] at c
   cases c
  ·refine q.2 ?_ a c u
   rcases hq with hq | hq
   ·refine .inl (np ?_ e i)
    rcases md with rfl | rfl
    ·rfl
    ·cases hq
   ·exact .inr hq
def JI(c:DE):DI:=λb P=>c b λx a=>match x with
 | .dat m (.list ds)=>P (Ke m) ds a
 | .dat m (.tuple ds)=>P (Ke m) ds a
 | _=>False
def nP(c:DA):DI:=λd P=>c d λb a=>match b with
 | [.dat _ (.int j)]=>-1000000<=j/\j<=1000000/\P .sh ((Cd j.toNat).map λi:Nat=>.int i) a
 | _=>False
def w4(c:DA):DI:=λd P=>c d λb a=>match b with
 | [.dat m (.list ds)]=>P (Ke m) (ds.zipIdx.map λp=>.tuple [.int p.2,p.1]) a
 | _=>False
def HC(c:DA):DI:=λd P=>c d λb a=>match b with
 | [.dat m (.tuple ds)]=>P (Ke m) (ds.zipIdx.map λp=>.tuple [.int p.2,p.1]) a
 | _=>False
def mdZip:Md->Md->Md
 | .pk,_=>.pk
 | _,.pk=>.pk
 | _,_=>.sh
section
variable{K:PySem.W.Frag}
theorem Jg{H:Hp}{n:Nat}{v:V}{m:Md}{d:Ae}{F:List Addr}{a:List Ent}(h:∀e∈a,Gr K H n e)(c:⟨some v,.dat m d,F⟩∈a):RdF K H v d F:=by
 obtain ⟨w,f,b,_⟩:=h _ c
 cases f
 exact b
theorem dA{v:Option V}{m:Md}{d:Ae}{F:List Addr}:cells ⟨v,.dat (Ke m) d,F⟩=[]:=by cases m <;> rfl
theorem pY{v:Option V}{m:Md}{d:Ae}{F:List Addr}:∀e∈[(⟨v,.dat (Ke m) d,F⟩ : Ent)],cells e=[]:=λe a=>by
 rw[Al.mp a]
 exact dA
theorem A5{v:Option V}{m:Md}{d:Ae}{F:List Addr}:Ke m=.sh->∀e∈[(⟨v,.dat (Ke m) d,F⟩ : Ent)],Pu e.x=false:=λz e a=>by
 rw[Al.mp a]
 show Pu (.dat (Ke m) d)=false
 rw[z]
 rfl
theorem iG(m:Md):Ke m=.sh\/Ke m=.pk:=by cases m <;> simp [Ke]
theorem xG{a:Addr}{m:Md}{ds:List Ae}{F:List Addr}:IterOk K (HQ K a) [⟨some (.ref a),.dat (Ke m) (.list ds),F⟩] (Ke m) ds where
 md:=iG m
 hd:=pY
 np:=A5
 go:=λH n i h j=>by
  obtain ⟨b,d,G,e,f,g,_,_⟩:=(Jg h Ab).list_inv
  cases e
  have t:=g.len
  exact ⟨d,d[i],Pq.of f,by simp [show i<d.length by omega]⟩
 yld:=λH n i x s h j y=>by
  obtain ⟨b,d,G,e,f,g,rfl,_⟩:=(Jg h Ab).list_inv
  cases e
  obtain ⟨rfl,y⟩:=y
  have q:=y d (Pq.of f)
  obtain ⟨u,r,k,l,p⟩:=g.get (i:=i) (e:=ds[i]) (by simp [j])
  rw[q] at k
  cases k
  exact ⟨Sx.refl _,ds[i],r,by simp [j],l,λc o=>⟨_,Ab,Ad _ (p.subset o)⟩⟩
 stop:=λH n h=>by
  obtain ⟨b,d,G,e,f,g,_,_⟩:=(Jg h Ab).list_inv
  cases e
  exact ⟨d,Pq.of f,by rw[g.len]; exact Aj _⟩
theorem u3{a:Addr}{m:Md}{ds:List Ae}{F:List Addr}:IterOk K (IB K a) [⟨some (.ref a),.dat (Ke m) (.tuple ds),F⟩] (Ke m) ds where
 md:=iG m
 hd:=pY
 np:=A5
 go:=λH n i h j=>by
  obtain ⟨b,d,e,f,g,_⟩:=(Jg h Ab).tup_inv
  cases e
  have t:=g.len
  exact ⟨d,d[i],Ta.of f,by simp [show i<d.length by omega]⟩
 yld:=λH n i x s h j y=>by
  obtain ⟨b,d,e,f,g,_⟩:=(Jg h Ab).tup_inv
  cases e
  obtain ⟨rfl,y⟩:=y
  have q:=y d (Ta.of f)
  obtain ⟨u,r,k,l,p⟩:=g.get (i:=i) (e:=ds[i]) (by simp [j])
  rw[q] at k
  cases k
  exact ⟨Sx.refl _,ds[i],r,by simp [j],l,λc o=>⟨_,Ab,p.subset o⟩⟩
 stop:=λH n h=>by
  obtain ⟨b,d,e,f,g,_⟩:=(Jg h Ab).tup_inv
  cases e
  exact ⟨d,Ta.of f,by rw[g.len]; exact Aj _⟩
theorem qX{lo:Int}{n:Nat}:IterOk K (FO lo n) [] .sh ((Cd n).map λi:Nat=>.int (lo+i)) where
 md:=.inl rfl
 hd:=λ_ z=>nomatch z
 np:=λ_ _ z=>nomatch z
 go:=λH k i h a=>by
  show i<n
  simpa using a
 yld:=λH k i x b h a y=>by
  obtain ⟨rfl,rfl⟩:=y
  rw[Af,Dh] at a
  exact ⟨Sx.refl _,.int (lo+i),[],by simp [a],.int _,λ_ z=>nomatch z⟩
 stop:=λH k h=>by simp [FO]
theorem wW{a:Addr}{m:Md}{ds:List Ae}{F:List Addr}:IterOk K (IL K a) [⟨some (.ref a),.dat (Ke m) (.list ds),F⟩] (Ke m) (ds.zipIdx.map λp=>.tuple [.int p.2,p.1]) where
 md:=iG m
 hd:=pY
 np:=A5
 go:=λH n i h j=>by
  obtain ⟨b,d,G,e,f,g,_,_⟩:=(Jg h Ab).list_inv
  cases e
  have A:=g.len
  rw[Af,Mi] at j
  exact ⟨d,d[i],Pq.of f,by simp [show i<d.length by omega]⟩
 yld:=λH n i x w h j y=>by
  obtain ⟨b,d,G,e,f,g,rfl,_⟩:=(Jg h Ab).list_inv
  cases e
  rw[Af,Mi] at j
  obtain ⟨t,z,rfl,r,rfl,y⟩:=y
  have u:=y d (Pq.of f)
  obtain ⟨B,v,k,o,s⟩:=g.get (i:=i) (e:=ds[i]) (by simp [j])
  rw[u] at k
  cases k
  have l:=Fe r (.tup [.int i,z])
  refine ⟨l,.tuple [.int i,ds[i]],v,by simp [j],.tup Ds (by simp [Hh]) ?_,λc q=>⟨_,Ab,Ad _ (s.subset q)⟩⟩
  have:=RdFs.cons (F:=[]) (.int (i:Int)) (RdFs.cons (o.kp (Kp.of l)) RdFs.nil)
  rw[Ec] at this
  exact this
 stop:=λH n h=>by
  obtain ⟨b,d,G,e,f,g,_,_⟩:=(Jg h Ab).list_inv
  cases e
  exact ⟨d,Pq.of f,by rw[Af,Mi,g.len]; exact Aj _⟩
end
section
variable{X:Cx}{g e:Expr}{c:DE}{l:DI}
def dL(c:DE):DI:=λb P=>c b λx a=>match x with
 | .dat m (.list ds)=>P (Ke m) ds a
 | _=>False
def JA(c:DE):DI:=λb P=>c b λx a=>match x with
 | .dat m (.tuple ds)=>P (Ke m) ds a
 | _=>False
theorem E1(h:Fm X e c):wD X g e (dL c):=by
 refine PI.imp (P8 h) λw H R h=>?_
 obtain ⟨j,Y,S,T,r,P,rfl,l,q,u,k⟩:=h
 refine ⟨j,Y,S,T,r,_,rfl,l,q,u,λx f v F m o n i b d=>?_⟩
 split at d
 ·obtain ⟨a,t,G,rfl,s,y,rfl,p⟩:=(b.told mem_mid).list_inv
  exact ⟨a,rfl,⟨t,Pq.of s⟩,k _ _ f _ [_] m o n i ((b.mid.wk (Xi _)).tomid) xG p d⟩
 ·exact d.elim
theorem JH(h:Fm X e c):wD X g e (JA c):=by
 refine PI.imp (Y5 h) λw H R h=>?_
 obtain ⟨j,Y,S,T,r,P,rfl,l,q,u,k⟩:=h
 refine ⟨j,Y,S,T,r,_,rfl,l,q,u,λx f v F m o n i b d=>?_⟩
 split at d
 ·obtain ⟨a,t,rfl,s,y,p⟩:=(b.told mem_mid).tup_inv
  exact ⟨a,rfl,⟨t,Ta.of s⟩,k _ _ f _ [_] m o n i ((b.mid.wk (Xi _)).tomid) u3 p d⟩
 ·exact d.elim
variable{es:List Expr}{f:DA}{a b:Expr}{p pos i:Pos}{d:List Expr}{j:Nat}
theorem Lu(x:Gl X "range")(e:X.mg "range" = none)(z:oT X [a] f)(j:Bn [a] X.env=[(false,eval a X.env)]:=by rfl):wD X g (.Call (.Name "range" p) [a] [] pos) (nP f):=by
 refine PI.imp (xJ x e z j) λA H R h=>?_
 obtain ⟨s,Y,S,T,y,P,rfl,o,r,t,k⟩:=h
 refine ⟨s,Y,S,T,y,_,rfl,o,r,t,λE c G C l n w u q m d p=>?_⟩
 split at p
 ·obtain ⟨v,F,rfl,b⟩:=Jf m d q
  obtain ⟨rfl,_⟩:=(b.told mem_mid).int_inv
  obtain ⟨B,D,i⟩:=p
  refine ⟨_,rfl,by omega,by omega,k _ _ c _ [] l n w u b.drop qX (by rw[Af,Dh]; exact kE (by omega)) ?_⟩
  simpa using i
 ·exact p.elim
theorem J4(B:Gl X "enumerate")(m:X.mg "enumerate" = none)(g:oT X [a] f)(n:Bn [a] X.env=[(false,eval a X.env)]:=by rfl):wD X (.Tuple d j i) (.Call (.Name "enumerate" p) [a] [] pos) (w4 f):=by
 refine PI.imp (F7 B m g n) λD H R h=>?_
 obtain ⟨w,Y,S,T,C,P,rfl,s,u,y,k⟩:=h
 refine ⟨w,Y,S,T,C,_,rfl,s,u,y,λl c J E o r A z t q e p=>?_⟩
 split at p
 ·obtain ⟨v,F,rfl,b⟩:=Jf q e t
  obtain ⟨a,l,G,rfl,g,I,rfl,x⟩:=(b.told mem_mid).list_inv
  exact ⟨a,rfl,⟨l,Pq.of g⟩,k _ _ c _ [_] o r A z ((b.mid.wk (Xi _)).tomid) wW (by rw[Af,Mi]; exact x) p⟩
 ·exact p.elim
end
def FG(h:DI)(j:DG)(f:DB):DB:=λD g=>h g λm e c=>m=.sh/\∃I:Nat->DS->Prop,I 0 c /\
 (∀i d a,e[i]? = some d->I i a->j (.dat .sh d) a λb=>f { D with nx:=I (i+1),ct:=I (i+1),bk:=D.nx } b)/\∀a,I e.length a->D.nx a
section
variable{X:Cx}{b iter:Expr}{f:DI}{g:DG}{c:DB}{a:List Stmt}{pos:Pos}
theorem At.dropH{K:PySem.W.Frag}{b H:Hp}{X:Addr->Prop}{n:Nat}{S T a:List Ent}{e:Ent}(h:At K b X n (S++e::(a++T)) H):At K b X n (S++e::T) H:=h.sub ((Ci S).append ((Bk a T).cons₂ e))
theorem Nl(hp:PassesOwn (model X.prog X.w) X.A X.env X.xe)(hc:X.calm=true)(hi:wD X b iter f)(hg:HJ X b g)(hb:cG X a c)(Q:∀x,Cz iter X.env x=pure x:=by intro _; rfl):xM X (.For b iter a [] pos) (FG f g c):=by
 refine PS.impD (BW hp hc hi hg hb Q) λD N H h=>?_
 obtain ⟨E,Y,S,T,r,P,rfl,hS,hT,hA,hd,Z,k2,k3,k4⟩:=h
 refine ⟨E,Y,S,T,r,_,rfl,hS,hA,hd,λm C W J p S1 H1 e1 e2 V it hz p1=>?_⟩
 obtain ⟨rfl,I,h0,Q,hf⟩:=p1
 rw[<- e1]
 have O:∀e∈p++T,Pu e.x=false:=λe he=>by
  rcases Aw.mp he with he | he
  ·exact it.np rfl e he
  ·exact hT e he
 refine ⟨λi q N H=>q=C.length - i/\i<=C.length/\∃S r,vs S=N/\Sl S r/\At X.K E Y r.n (S++(p++T)) H/\I i r,⟨C.length,by simp,Di _,S1,W,rfl,e2,V,h0⟩,?_⟩
 (intro i q N H q_; obtain ⟨rfl,hi,S2,k,rfl,e3,B,hI⟩ := q_)
 have j:∀e∈p,Gr X.K H k.n e:=λe he=>B.ok e (Ag _ (Ak _ he))
 by_cases u:i<C.length
 ·refine .inr ⟨it.go H k.n i j u,λG M=>∃S r,vs S=G/\Sl S r/\At X.K E Y r.n (S++(p++T)) M/\I (i+1) r,λG M q=>⟨C.length - (i+1),by omega,rfl,u,q⟩,λx M y=>?_⟩
  obtain ⟨s1,d,F,h1,h2,h3⟩:=it.yld H k.n i x M j u y
  refine ⟨E,Y,S2,p++T,k,.dat .sh d,F,_,rfl,e3,B.item s1 h2 h3 it.md it.hd it.np,Q i d k h1 hI,λU S3 H3 e4 R p3=>?_⟩
  refine ⟨E,Y,S3,p++T,U,_,rfl,e4,O,R,p3,λl s L t o z=>⟨s,l,rfl,t,o,z⟩,λx l v F s L t o z=>k2 x l v F s L t o.dropH z,
   λl s L t o z=>Z l s L t o.dropL z,λl s L t o z=>⟨s,l,rfl,t,o,z⟩⟩
 ·have e:i=C.length:=by omega
  subst e
  exact .inl ⟨it.stop H k.n j,Z k S2 H e3 B.dropL (hf k hI)⟩
end
end DL
namespace Nd
open PySem PySem.Spec PyProof.Rows L2
theorem eE(b e f g d:Expr)(a:Scope)(pos:Pos)(it c:Value)(env:Env) :
  compTurn (.ListComp b [⟨e,f,[],0⟩,⟨g,d,[],0⟩] a pos) 0 it c env=(do
   Wj f.pos
   match <- Hi it with
   | none=>pure (.done .next)
   | some v =>
    Ho e it v
    Oc e env v
    let x <- eval d env
    Wj d.pos
    let x <- Cz d env x
    let it2 <- Ny [x] (Zo x)
    let _ <- runOwn (.compStart (.ListComp b [⟨e,f,[],0⟩,⟨g,d,[],0⟩] a pos) 1 it2 c env) env
    again (.compLoop (.ListComp b [⟨e,f,[],0⟩,⟨g,d,[],0⟩] a pos) 0 it c env)):=by rfl
theorem eJ(b f g d e:Expr)(a:Scope)(pos:Pos)(it c:Value)(env:Env) :
  compTurn (.ListComp b [⟨f,g,[],0⟩,⟨d,e,[],0⟩] a pos) 1 it c env=(do
   Wj e.pos
   match <- Hi it with
   | none=>pure (.done .next)
   | some v =>
    Ho d it v
    Oc d env v
    (do let _ <- call (.builtin "list.append") [c,<- eval b env])
    again (.compLoop (.ListComp b [⟨f,g,[],0⟩,⟨d,e,[],0⟩] a pos) 1 it c env)):=by rfl
section
variable{prog:Bl}{w:World}{A:Ce}{R:Result->Ai->Prop}{s:Ai}
theorem dX{b:Expr}{g:Comprehension}{f e:Expr}{a:Scope}{pos:Pos}{it c:Value}{env:Env}(j:Hb (model prog w) A (.compLoop (.ListComp b [g,⟨f,e,[],0⟩] a pos) 1 it c env) R s)(h:wpAny (model prog w) A (Zo it) (λd s'=>Hb (model prog w) A (.compLoop (.ListComp b [g,⟨f,e,[],0⟩] a pos) 1 d c env) R s') (λ_ _=>False) s):Hb (model prog w) A (.compStart (.ListComp b [g,⟨f,e,[],0⟩] a pos) 1 it c env) R s:=by
 refine Xq ?_
 show wpAny _ _ ((compStart (.ListComp b [g,⟨f,e,[],0⟩] a pos) 1 it c env).onRaise (λx=>do noteFrame x env; Wj theWindowsPlace)) _ _ s
 refine wpAny_notedAt ?_
 unfold compStart
 show wpAny _ _ (ask >>= _) _ _ s
 refine Aa (Vi (wpAny_ite ?_))
 split
 ·first
   | exact Aa (Ac (Ac (And.intro rfl j)))
   | exact Ac (And.intro rfl j)
 ·first
   | exact Aa (Kk (Aa (Ib (Aa (Cq h (λd s' i=>Ac (And.intro rfl i)) λ_ _ x=>x.elim)))))
   | (refine Aa (Kk ?_); show wpAny _ _ (Wj e.pos >>= _) _ _ s; exact Aa (Ib (Aa (Cq h (λd s' i=>Ac (And.intro rfl i)) λ_ _ x=>x.elim))))
theorem mG{b g o k d:Expr}{a:Scope}{pos:Pos}{it c:Value}{env:Env}(j:∀x,Cz d env x=pure x)(J:Nat->Ai->Prop) (turn:∀n s,J n s->wpAny (model prog w) A (Hi it) (λr l=>match r with
    | none=>R (.ok .next) l
    | some v=>wpAny (model prog w) A (Ho g it v) (λ_ q=>wpAny (model prog w) A (Oc g env v) (λ_ y =>
      wpAny (model prog w) A (eval d env) (λx C=>wpAny (model prog w) A (Zo x) (λi u =>
       Hb (model prog w) A (.compStart (.ListComp b [⟨g,o,[],0⟩,⟨k,d,[],0⟩] a pos) 1 i c env) (λr B=>match r with | .ok _=>∃m,m<n/\J m B | .error _=>False) u) (λ_ _=>False) C) (λ_ _=>False) y) (λ_ _=>False) q) (λ_ _=>False) l) (λ_ _=>False) s)
  (n:Nat) (h:J n s):Hb (model prog w) A (.compLoop (.ListComp b [⟨g,o,[],0⟩,⟨k,d,[],0⟩] a pos) 0 it c env) R s:=by
 refine gH rfl J (λn s F=>?_) n h
 show wpAny _ A (Sem.onRaise (compTurn (.ListComp b [⟨g,o,[],0⟩,⟨k,d,[],0⟩] a pos) 0 it c env) (λx=>do noteFrame x env; theTreesLotGoes x)) _ _ s
 refine wpAny_noted ?_
 rw[eE]
 refine Aa (Ib (Aa (Cq (turn n s F) (λr l t=>?_) λ_ _ z=>z.elim)))
 cases r with
 | none=>exact Ac t
 | some v =>
  refine Aa (Cq t (λ_ q D=>?_) λ_ _ z=>z.elim)
  refine Aa (Cq D (λ_ y G=>?_) λ_ _ z=>z.elim)
  refine Aa (Cq G (λx C E=>?_) λ_ _ z=>z.elim)
  refine Aa (Ib (Aa (Ja (j x) (Aa (Ck (Cq E (λi u H=>?_) λ_ _ z=>z.elim))))))
  refine Aa (wpAny_runOwn ?_)
  refine Nz H λr B p=>?_
  cases r with
  | ok f=>exact Ac ⟨rfl,p⟩
  | error e=>exact p.elim
theorem nX{b l p d f:Expr}{a:Scope}{pos:Pos}{it c:Value}{env:Env}(J:Nat->Ai->Prop) (turn:∀n s,J n s->wpAny (model prog w) A (Hi it) (λr e=>match r with
    | none=>R (.ok .next) e
    | some v=>wpAny (model prog w) A (Ho d it v) (λ_ o=>wpAny (model prog w) A (Oc d env v) (λ_ j =>
      wpAny (model prog w) A (eval b env) (λx i=>wpAny (model prog w) A (call (.builtin "list.append") [c,x]) (λ_ k=>∃m,m<n/\J m k) (λ_ _=>False) i) (λ_ _=>False) j) (λ_ _=>False) o) (λ_ _=>False) e) (λ_ _=>False) s)
  (n:Nat) (h:J n s):Hb (model prog w) A (.compLoop (.ListComp b [⟨l,p,[],0⟩,⟨d,f,[],0⟩] a pos) 1 it c env) R s:=by
 refine gH rfl J (λn s u=>?_) n h
 show wpAny _ A (Sem.onRaise (compTurn (.ListComp b [⟨l,p,[],0⟩,⟨d,f,[],0⟩] a pos) 1 it c env) (λx=>do noteFrame x env; theTreesLotGoes x)) _ _ s
 refine wpAny_noted ?_
 rw[eJ]
 refine Aa (Ib (Aa (Cq (turn n s u) (λr e g=>?_) λ_ _ z=>z.elim)))
 cases r with
 | none=>exact Ac g
 | some v =>
  refine Aa (Cq g (λ_ o t=>?_) λ_ _ z=>z.elim)
  refine Aa (Cq t (λ_ j y=>?_) λ_ _ z=>z.elim)
  refine Aa (Aa (Cq y (λx i B=>?_) λ_ _ z=>z.elim))
  exact Aa (Cq B (λ_ k q=>Ac (Ac ⟨rfl,q⟩)) λ_ _ z=>z.elim)
end
section
variable{X:Cx}
def BC(J:It)(r:List Nat)(h:TI)(t:TE)(k:L2.St)(n:Hp)(Q:VK):Prop:=∀D,n D=none->∃W:Nat->Nat->Hp->Prop,(∃m,W 0 m (upd n D (.lst [])))/\∀i m H,W i m H ->
 (J.stop i H/\Q (.ref D) H)\/(J.go i H/\∀x j,J.yld i H x j->∀o:Option V,h (some x::o::Ei k r) j λf s=>∃g:Nat->Nat->Hp->Prop,(∃e,g 0 e s)/\∀b e c,g b e c ->
  (f.stop b c/\∃l,l<m/\W (i+1) l c)\/(f.go b c/\∀y p,f.yld b c y p->t (some x::some y::Ei k r) p λz q=>∃a,q D=some (.lst a)/\a.length<Aq/\∃d,d<e/\g (b+1) d (upd q D (.lst (a++[z])))))
def BK(d:TI)(e:List Nat)(a:TI)(f:TE):TE:=λb H Q=>d b H λJ c=>BC J e a f b c Q
end
end Nd
namespace DL
open PySem L2 Nd
def al(e:Ent):Ent:=match e.x with
 | .dat m d=>⟨e.v,.dat (mN m) d,e.F⟩
 | .val _=>e
 | .scr _=>e
 | _=>⟨e.v,.un,[]⟩
def alD:DV->DV
 | .dat m d=>.dat (mN m) d
 | .val v=>.val v
 | .scr a=>.scr a
 | _=>.un
def x3(S:List Ent)(j:Nat):Ent:=match S[j]? with
 | some e=>al e
 | none=>⟨none,.un,[]⟩
def Vb(S:List Ent)(a:List Nat):List Ent:=a.map (x3 S)
def frD1(sl:List DV)(j:Nat):DV:=match sl[j]? with
 | some x=>alD x
 | none=>.un
def frD(sl:List DV)(a:List Nat):List DV:=a.map (frD1 sl)
theorem IH(e:Ent):(al e).v=e.v:=by
 obtain ⟨v,x,F⟩:=e
 cases x <;> rfl
theorem IX(e:Ent):(al e).x=alD e.x:=by
 obtain ⟨v,x,F⟩:=e
 cases x <;> rfl
theorem bX(S:List Ent)(a:List Nat):vs (Vb S a)=Ei (vs S) a:=by
 unfold vs Vb Ei
 rw[Dn]
 refine Jc λj _=>?_
 rw[Bj]
 simp only[Function.comp,x3]
 cases S[j]? with
 | none=>rfl
 | some e=>exact IH e
theorem cA{S:List Ent}{b:DS}(h:Sl S b)(a:List Nat):(Vb S a).map Ent.x=frD b.sl a:=by
 unfold Sl at h
 unfold Vb frD
 rw[Dn]
 refine Jc λj _=>?_
 simp only[Function.comp,x3,frD1]
 rw[<- h,Bj]
 cases S[j]? with
 | none=>rfl
 | some e=>exact IX e
section
variable{K:PySem.W.Frag}{g H i:Hp}{X:Addr->Prop}{n:Nat}{E S T:List Ent}
theorem oA(e:Ent):cells (al e)=[]:=by
 obtain ⟨v,x,F⟩:=e
 cases x with
 | dat m d=>cases m <;> rfl
 | _=>rfl
theorem At.view1(h:At K g X n E H){e:Ent}(c:e∈E):At K g X n (al e::E) H:=by
 refine h.push ?_ (λf o=>⟨λ_ a b=>(by rw[oA] at b; cases b),λhq a b z=>?_⟩) λa b=>(by rw[oA] at b; cases b)
 ·have:=h.ok e c
  obtain ⟨v,x,F⟩:=e
  cases x with
  | dat m d =>
   obtain ⟨w,k,i,_⟩:=this
   exact ⟨w,k,i,λz=>(by cases m <;> cases z),λz=>(by cases m <;> cases z)⟩
  | val v=>exact this
  | scr l=>exact this
  | _=>exact (rfl:([]:List Addr)=[])
 ·obtain ⟨v,x,F⟩:=e
  cases x with
  | dat m d =>
   rcases oY h c o with rfl | q
   ·rcases hq with hq | hq
    ·cases m <;> first | cases hq; done | exact nomatch b
    ·cases hq
   ·refine q.2 ?_ a b z
    rcases hq with hq | hq
    ·refine .inl ?_
     cases m <;> first | rfl | exact hq
    ·exact .inr hq
  | val v =>
   rw[show F=[] from (h.ok _ c).2] at z
   cases z
  | scr l =>
   obtain ⟨_,_,j,_⟩:=h.ok _ c
   rw[show F=[] from j] at z
   cases z
  | _=>exact nomatch z
theorem At.blank(h:At K g X n E H){v:Option V}:At K g X n (⟨v,.un,[]⟩::E) H :=
 h.push (rfl:([]:List Addr)=[]) (λf _=>⟨λ_ a b=>(nomatch b),λ_ a _=>Bd⟩) (λa b=>(nomatch b))
theorem At.view(h:At K g X n E H)(c:∀e∈S,e∈E):∀a:List Nat,At K g X n (Vb S a++E) H
 | []=>h
 | j::a=>by
  have b:=At.view h c a
  show At K g X n (x3 S j::(Vb S a++E)) H
  unfold x3
  cases e:S[j]? with
  | none=>exact b.blank
  | some x=>exact b.view1 (Ag _ (c x (Be e)))
theorem At.accNew(h:At K g X n E H){D:Addr}(c:H D=Qv):At K g X n (⟨some (.ref D),.acc [],[D]⟩::E) (upd H D (.lst [])):=by
 have i:=Fe c (.lst [])
 refine (h.grow (n':=n) i (Aj _)).push ⟨D,[],[],rfl,rfl,Ds,.nil,Di _,Bd⟩ (λf e=>?_) λa b=>?_
 ·have d:=h.free c f e
  refine ⟨λ_ a b z=>?_,λ_ a b z=>?_⟩
  ·rw[Al.mp b] at z
   exact d z
  ·rw[Al.mp z] at b
   exact d (Gu _ _ b)
 ·rw[Al.mp b]
  exact .inl (h.new0 c)
theorem At.accPutG{D:Addr}{ds:List Ae}{v:V}{m:Md}{e:Ae}{F G:List Addr}(h:At K g X n (⟨some (.ref D),.acc ds,D::G⟩::⟨some v,.dat m e,F⟩::E) H)(I:m≠.pk)(hz:ds.length+1<=Aq):∃xs,H D=some (.lst xs)/\xs.length=ds.length/\At K g X n (⟨some (.ref D),.acc (ds++[e]),D::(G++F)⟩::E) (upd H D (.lst (xs++[v]))):=by
 obtain ⟨a,xs,J,O,N,A,u,_,x⟩:=h.ok _ Ab
 have t:some (V.ref D)=some (V.ref a):=O
 cases t
 have s:D::G=D::J:=N
 cases s
 have r:RdF K H v e F:=h.told (Ad _ Ab)
 have j:=Bb.mp h.sep
 have i:=Bb.mp j.2
 have p:=(h.sub (Cy _ _)).sub (Cy _ _)
 have npk:Pu (.dat m e)=false:=by cases m <;> first | rfl | exact absurd rfl I
 have y:D∉F:=(j.1 _ Ab).1 (.inr rfl) D Ab
 have kp:∀{F:List Addr},D∉F->Kp F H (upd H D (.lst (xs++[v]))):=λ{F} M b o q z=>by
  have : b≠D:=by
   rintro rfl
   rw[A] at q
   cases q
   rcases z with z | z
   ·exact M z
   ·rcases z with ⟨_,z⟩ | ⟨_,_,z⟩ <;> cases z
  rw[Dr this]
  exact q
 have l:g D=Qv:=by
  rcases h.new _ Ab D Ab with z | z
  ·exact z
  ·cases z.2
 refine ⟨xs,A,u.len,?_⟩
 refine ⟨λf hf=>?_,?_,λf hf=>?_,λb o P q=>?_,λb o q=>?_,λb L=>?_⟩
 rotate_right
 ·obtain ⟨z,c,k,f,p,C⟩:=h.xd b L
  refine ⟨z,c,k,f,(Dr ?_).trans p,C⟩
  rintro rfl
  exact z l
 ·rcases An.mp hf with rfl | hf
  ·exact ⟨D,xs++[v],G++F,rfl,rfl,Ds,(u.kp (kp x)).snoc (r.kp (kp y)),by rw[Bf]; exact hz,λz=>(Aw.mp z).elim x y⟩
  ·exact (p.ok f hf).kp (kp ((j.1 f (Ad _ hf)).1 (.inr rfl) D Ab)) (Aj _)
 ·refine Bb.mpr ⟨λf hf=>⟨λB a d=>(j.1 f (Ad _ hf)).1 (.inr rfl) a d,λB a d z=>?_⟩,i.2⟩
  have w:=(j.1 f (Ad _ hf)).2 (.inl rfl) a d
  rcases An.mp z with z | z
  ·exact w (z▸Ab)
  ·rcases Aw.mp z with z | z
   ·exact w (Ad _ z)
   ·exact (i.1 f hf).2 (.inl npk) a d z
 ·rcases An.mp hf with rfl | hf
  ·intro a d
   rw[Al.mp d]
   exact .inl l
  ·exact p.new f hf
 ·rw[Dr (Fn q l)]
  exact h.same b o P q
 ·rw[Dr (Fn q l)]
  exact h.dom b o q
theorem At.accPut{D:Addr}{ds:List Ae}{v:V}{e:Ae}(h:At K g X n (⟨some (.ref D),.acc ds,[D]⟩::E) H)(r:RdF K H v e [])(hz:ds.length+1<=Aq):∃xs,H D=some (.lst xs)/\xs.length=ds.length/\At K g X n (⟨some (.ref D),.acc (ds++[e]),[D]⟩::E) (upd H D (.lst (xs++[v]))) :=
 At.accPutG (m:=.ow) (At.pushI (S:=[⟨some (.ref D),.acc ds,[D]⟩]) h r) (by decide) hz
def Ss:Bool->Md
 | true=>.ow
 | false=>.tp
theorem At.accGetG{D:Addr}{ds:List Ae}{b:Bool}{G:List Addr}(h:At K g X n (⟨some (.ref D),.acc ds,D::G⟩::E) H)(hb:b=true->G=[]):At K g X n (⟨some (.ref D),.dat (Ss b) (.list ds),D::G⟩::E) H:=by
 obtain ⟨a,w,u,r,q,v,s,t,p⟩:=h.ok _ Ab
 have i:some (V.ref D)=some (V.ref a):=r
 cases i
 have d:D::G=D::u:=q
 cases d
 have m:=Bb.mp h.sep
 have j:∀a∈cells ⟨some (.ref D),.dat (Ss b) (.list ds),D::G⟩,a=D:=λa c=>by
  cases b with
  | true=>rw[hb rfl] at c; exact Al.mp c
  | false=>exact Al.mp c
 refine (h.sub (Cy _ _)).push ⟨_,rfl,.lst v t s,λz=>?_,λ_ a l e=>?_⟩ (λf k=>⟨λo a c=>?_,λo a c=>(m.1 f k).2 (.inl rfl) a c⟩) λa c=>?_
 ·cases b with
  | true=>rw[hb rfl]; exact Co.mpr ⟨Bd,Dv⟩
  | false=>cases z
 ·have e:D::G=a::l:=e
  cases e
  exact p
 ·rw[j a c]
  exact (m.1 f k).1 (.inr rfl) D Ab
 ·rw[j a c]
  rcases h.new _ Ab D Ab with z | z
  ·exact .inl z
  ·cases z.2
theorem At.accGet{D:Addr}{ds:List Ae}(h:At K g X n (⟨some (.ref D),.acc ds,[D]⟩::E) H):At K g X n (⟨some (.ref D),.dat .ow (.list ds),[D]⟩::E) H:=At.accGetG (b:=true) h λ_=>rfl
end
def My:DT:=λa P=>P true a
def AV(b:Bool)(m:Md)(e:Ae):Prop:=match b with
 | true=>imm e=true
 | false=>m≠.pk
def Lw(b:Bool)(dc:DT)(g:DE)(h:DS)(f:Ae->Nat->Prop)(i:Nat->Prop):Prop:=dc h λc a=>match c with
 | true=>g a λy d=>match y with
  | .dat m e=>AV b m e/\f e d.n
  | _=>False
 | false=>i a.n
def yT(b:Bool)(l:DI)(k:List Nat)(dc:DT)(h:DE):DE:=λj P=>l j λm g c=>∃I:Nat->List Ae->Nat->Prop,I 0 [] c.n /\
 (∀i d a n,g[i]? = some d->I i a n->Lw b dc h ⟨.dat m d::frD c.sl k,n⟩ (λe f=>I (i+1) (a++[e]) f) (λf=>I (i+1) a f)) /\
 ∀a n,I g.length a n->P (.dat (Ss b) (.list a)) ⟨c.sl,n⟩
def uF(b:Bool)(p:DI)(o:List Nat)(dc:DT)(k:DE):DE:=λl P=>p l λm j c=>∃I:Nat->List Ae->Nat->Prop,I 0 [] c.n /\
 (∀i d a n,j[i]? = some d->I i a n->∃g h,d=.tuple [g,h]/\Lw b dc k ⟨.dat m g::.dat m h::frD c.sl o,n⟩ (λe f=>I (i+1) (a++[e]) f) (λf=>I (i+1) a f)) /\
 ∀a n,I j.length a n->P (.dat (Ss b) (.list a)) ⟨c.sl,n⟩
def Ph:DT->DE->DS->(Ae->Nat->Prop)->(Nat->Prop)->Prop:=Lw true
def u5:DI->List Nat->DT->DE->DE:=yT true
def xR:DI->List Nat->DT->DE->DE:=uF true
section
variable{K:PySem.W.Frag}{f H g:Hp}{Y:Addr->Prop}{n:Nat}{E S T:List Ent}
theorem Xm{b:Bool}{dc:DT}{t:DE}{l:DS}{j:Ae->Nat->Prop}{x:Nat->Prop}{D:Addr}{G:List Addr}{a:List Ae}{N1:Hp->Prop}{N2:VK}(A:Sl S l)(hb:b=true->G=[])(C:At K f Y l.n (S++⟨some (.ref D),.acc a,D::G⟩::T) H)(h:Lw b dc t l j x)(hz:a.length+1<=Aq)(k1:∀n' g,At K f Y n' (⟨some (.ref D),.acc a,D::G⟩::T) g->x n'->N1 g)(k2:∀e n' v g u,(b=true->u=[])->(∃xs,g D=some (.lst xs)/\xs.length=a.length/\At K f Y n' (⟨some (.ref D),.acc (a++[e]),D::u⟩::T) (upd g D (.lst (xs++[v]))))->j e n'->N2 v g):LT K dc (vs S) H λc o=>if c=true then LE K t (vs S) o N2 else N1 o:=by
 refine ⟨f,Y,S,⟨some (.ref D),.acc a,D::G⟩::T,l,_,rfl,A,C,h,λc s B o J I k w=>?_⟩
 cases c with
 | false=>exact oK (k1 _ _ (k.sub (Bk _ _)) w)
 | true =>
  refine mF ⟨f,Y,B,⟨some (.ref D),.acc a,D::G⟩::T,s,_,J,I,k,w,λy q v F L E N M d i=>?_⟩
  split at i
  ·rename_i m e
   have r:=d.told mem_mid
   cases b with
   | true =>
    obtain rfl:=r.imm i.1
    obtain rfl:=hb rfl
    exact k2 _ _ _ _ [] (λ_=>rfl) ((d.drop.sub (Bk _ _)).accPut r hz) i.2
   | false =>
    have p:At K f Y q.n (⟨some v,.dat m e,F⟩::⟨some (.ref D),.acc a,D::G⟩::T) E:=d.sub (Bk _ _)
    exact k2 _ _ _ _ (G++F) (λz=>nomatch z) ((p.perm (Dk _ _ _)).accPutG i.1 hz) i.2
  ·exact i.elim
theorem Ye{dt:TT}:∀a H Q,LT K My a H Q->Sh a H Q:=by
 intro a H Q h
 obtain ⟨f,Y,S,T,c,P,rfl,b,d,e,k⟩:=h
 exact k true c S H rfl b d e
theorem rF.imp{X:Cx}{e:List Expr}{t t':TT}(h:rF X e t)(k:∀a H Q,t' a H Q->t a H Q):rF X e t':=λb s a H Q I q=>h b s a H Q I (k a H Q q)
theorem sL{b:Bool}{X:DI}{s:List Nat}{dc:DT}{Z:DE}:∀E H Q,LE K (yT b X s dc Z) E H Q->lM (LI K X) s (LT K dc) (LE K Z) E H Q:=by
 intro E H Q h
 obtain ⟨f,Y,S,T,δ,P,rfl,hS,hA,hd,k⟩:=h
 refine ⟨f,Y,S,T,δ,_,rfl,hS,hA,hd,λm r A J l j H1 e1 e2 M it hz p1=>?_⟩
 obtain ⟨I,h0,hs,hf⟩:=p1
 rw[<- e1]
 intro D hD
 refine ⟨λi q H=>q=r.length - i/\i<=r.length/\∃a n G,(b=true->G=[])/\At K f Y n (⟨some (.ref D),.acc a,D::G⟩::(j++(l++T))) H/\a.length<=i/\I i a n,⟨r.length,by simp,Di _,[],A.n,[],λ_=>rfl,M.accNew hD,Aj _,h0⟩,?_⟩
 (intro i q H q_; obtain ⟨rfl,hi,a,n,G,V,z,hl,hI⟩ := q_)
 have c:∀e∈l,Gr K H n e:=λe R=>z.ok e (Ad _ (Ag _ (Ak _ R)))
 by_cases o:i<r.length
 ·refine .inr ⟨it.go H n i c o,λx g y=>?_⟩
  obtain ⟨s1,d,F,h1,h2,h3⟩:=it.yld H n i x g c o y
  have u:At K f Y n ((⟨some (.ref D),.acc a,D::G⟩::j)++⟨some x,.dat m d,F⟩::(l++T)) g:=At.item (S:=⟨some (.ref D),.acc a,D::G⟩::j) z s1 h2 h3 it.md it.hd it.np
  have t:=u.mid
  have C:=At.view (S:=j) t (λe R=>Ad _ (Ak _ (Ad _ R))) s
  have L:At K f Y n ((⟨some x,.dat m d,F⟩::Vb j s)++⟨some (.ref D),.acc a,D::G⟩::(j++(l++T))) g:=C.mid
  have O:Sl (⟨some x,.dat m d,F⟩::Vb j s) ⟨.dat m d::frD A.sl s,n⟩:=by
   unfold Sl
   rw[Ao,cA e2]
  have hv:vs (⟨some x,.dat m d,F⟩::Vb j s)=some x::Ei (vs j) s:=by
   rw[<- bX]
   rfl
  refine ⟨λB=>∃U,U<r.length - i/\_,λy H3=>∃a,H3 D=some (.lst a)/\a.length<Aq/\∃U,U<r.length - i/\_,λB q=>q,λy H3 q=>q,?_⟩
  rw[<- hv]
  refine Xm O V L (hs i d a n h1 hI) (by omega) (λW B w p=>?_) (λe W v B G' N w p=>?_)
  ·exact ⟨r.length - (i+1),by omega,rfl,o,a,W,G,V,w,by omega,p⟩
  ·obtain ⟨xs,g1,g2,g3⟩:=w
   exact ⟨xs,g1,by omega,r.length - (i+1),by omega,rfl,o,a++[e],W,G',N,g3,by rw[Bf]; simp; omega,p⟩
 ·have e:i=r.length:=by omega
  subst e
  refine .inl ⟨it.stop H n c,k _ ⟨A.sl,n⟩ _ (D::G) j H e1 e2 ?_ (hf a n hI)⟩
  have u:=z.accGetG V
  have t:At K f Y n (⟨some (.ref D),.dat (Ss b) (.list a),D::G⟩::(j++T)) H:=u.sub (((Ci j).append (Bk l T)).cons₂ _)
  exact t.tomid
theorem C7{b:Bool}{di:DI}{A:List Nat}{dc:DT}{de:DE}:∀σ H Q,LE K (uF b di A dc de) σ H Q->yW K (LI K di) A (LT K dc) (LE K de) σ H Q:=by
 intro σ H Q h
 obtain ⟨f,Y,S,T,δ,P,rfl,hS,hA,hd,k⟩:=h
 refine ⟨f,Y,S,T,δ,_,rfl,hS,hA,hd,λm s R J l o H1 e1 e2 h7 it hz p1=>?_⟩
 obtain ⟨I,h0,hs,hf⟩:=p1
 rw[<- e1]
 intro D hD
 refine ⟨λi q H=>q=s.length - i/\i<=s.length/\∃c n G,(b=true->G=[])/\At K f Y n (⟨some (.ref D),.acc c,D::G⟩::(o++(l++T))) H/\c.length<=i/\I i c n,⟨s.length,by simp,Di _,[],R.n,[],λ_=>rfl,h7.accNew hD,Aj _,h0⟩,?_⟩
 (intro i q H q_; obtain ⟨rfl,hi,c,n,G,hG,O,hl,hI⟩ := q_)
 have j:∀e∈l,Gr K H n e:=λe he=>O.ok e (Ad _ (Ag _ (Ak _ he)))
 by_cases r:i<s.length
 ·refine .inr ⟨it.go H n i j r,λx g y=>?_⟩
  obtain ⟨s1,d,F,h1,h2,h3⟩:=it.yld H n i x g j r y
  obtain ⟨w,U,rfl,h5⟩:=hs i d c n h1 hI
  obtain ⟨t,Z,rfl,ht,X,_⟩:=h2.tup_inv
  cases X with
  | @cons u _ Z _ C _ r1 X =>
   cases X with
   | @cons N _ Z _ V G r2 X =>
    cases X
    have E:At K f Y n ((⟨some (.ref D),.acc c,D::G⟩::o)++⟨some u,.dat m w,C⟩::(l++T)) g:=At.item (S:=⟨some (.ref D),.acc c,D::G⟩::o) O s1 r1 (λa ha=>h3 a (Ak _ ha)) it.md it.hd it.np
    have W:At K f Y n ((⟨some u,.dat m w,C⟩::⟨some (.ref D),.acc c,D::G⟩::o)++(l++T)) g:=E.mid
    have M:At K f Y n ((⟨some u,.dat m w,C⟩::⟨some (.ref D),.acc c,D::G⟩::o)++⟨some N,.dat m U,V⟩::(l++T)) g:=At.item W (Sx.refl _) r2 (λa ha=>h3 a (Ag _ (Ak _ ha))) it.md it.hd it.np
    have B:At K f Y n (⟨some u,.dat m w,C⟩::⟨some N,.dat m U,V⟩::⟨some (.ref D),.acc c,D::G⟩::(o++(l++T))) g:=M.mid.perm (Dk _ _ _)
    have h4:=At.view (S:=o) B (λe he=>Ad _ (Ad _ (Ad _ (Ak _ he)))) A
    have h6:At K f Y n ((⟨some u,.dat m w,C⟩::⟨some N,.dat m U,V⟩::Vb o A)++⟨some (.ref D),.acc c,D::G⟩::(o++(l++T))) g:=by
     have z:=h4.mid
     refine z.perm ?_
     exact (Dj).cons _
    have h9:Sl (⟨some u,.dat m w,C⟩::⟨some N,.dat m U,V⟩::Vb o A) ⟨.dat m w::.dat m U::frD R.sl A,n⟩:=by
     unfold Sl
     rw[Ao,Ao,cA e2]
    have hv:vs (⟨some u,.dat m w,C⟩::⟨some N,.dat m U,V⟩::Vb o A)=some u::some N::Ei (vs o) A:=by
     rw[<- bX]
     rfl
    refine ⟨t,u,N,rfl,Ta.of ht,λH2=>∃m',m'<s.length - i/\_,λy H3=>∃c,H3 D=some (.lst c)/\c.length<Aq/\∃m',m'<s.length - i/\_,λH2 q=>q,λy H3 q=>q,?_⟩
    rw[<- hv]
    refine Xm h9 hG h6 h5 (by omega) (λn' H2 L p=>?_) (λe n' v H2 G' h8 L p=>?_)
    ·exact ⟨s.length - (i+1),by omega,rfl,r,c,n',G,hG,L,by omega,p⟩
    ·obtain ⟨Z,g1,g2,g3⟩:=L
     exact ⟨Z,g1,by omega,s.length - (i+1),by omega,rfl,r,c++[e],n',G',h8,g3,by rw[Bf]; simp; omega,p⟩
 ·have e:i=s.length:=by omega
  subst e
  refine .inl ⟨it.stop H n j,k _ ⟨R.sl,n⟩ _ (D::G) o H e1 e2 ?_ (hf c n hI)⟩
  have E:=O.accGetG hG
  have B:At K f Y n (⟨some (.ref D),.dat (Ss b) (.list c),D::G⟩::(o++T)) H:=E.sub (((Ci o).append (Bk l T)).cons₂ _)
  exact B.tomid
end
section
variable{X:Cx}{b iter c:Expr}{x k p:Str}{g n pt q pos f:Pos}{r i0:Nat}{d:List Expr}{a:Scope}{e:List (Str×Addr)}{ys:List Str}{l:List Nat}{m:DI}{dc:DT}{j:DE}
theorem Nc:rF X [] (LT X.K My):=rF.imp yC (Ye (dt:=Sh))
theorem rT(h:nS X c dc):rF X [c] (LT X.K dc):=E6 h
theorem Wt(C:CompScope X a e x ys l)(f:X.calm=true)(c:wD X (.Name x g) iter m)(h:∀fp s H,rF (Dm X a e (x::ys) fp s H) d (LT X.K dc))(i:∀fp s H,Fm (Dm X a e (x::ys) fp s H) b j)(k:∀x,Cz iter X.env x=pure x:=by intro _; rfl):Fm X (.ListComp b [⟨.Name x g,iter,d,0⟩] a pos) (u5 m l dc j):=PE.imp (rZ C f c h i k) sL
theorem yU(C:CompScope X a e x ys l)(c:cZ a k)(f:(x::k::ys).Nodup)(i:X.calm=true)(o:wD X (.Tuple [.Name x g,.Name k n] r pt) iter m)(h:∀fp s H,rF (Dm X a e (x::k::ys) fp s H) d (LT X.K dc))(p:∀fp s H,Fm (Dm X a e (x::k::ys) fp s H) b j)(q:∀x,Cz iter X.env x=pure x:=by intro _; rfl):Fm X (.ListComp b [⟨.Tuple [.Name x g,.Name k n] r pt,iter,d,0⟩] a pos) (xR m l dc j):=PE.imp (zD C c f i o h p q) C7
def HZ(o:Bool)(i:Nat):DG:=match o with
 | true=>fQ i
 | false=>Tw i
theorem IA{K:PySem.W.Frag}{o:Bool}{i:Nat}:∀v a H Q,LG K (HZ o i) v a H Q->Sq i v a H Q:=by
 cases o with
 | true=>exact yI
 | false=>exact hZ
theorem Q8{o:Bool}(u:X.N.Nodup)(h:X.N[i0]? = some p)(i:X.env.scope.names.lookup p=some .local)(C:CompScope X a e x ys l)(n:X.calm=true)(r:wD X (.Name x g) iter m)(k:∀fp s H,rF (Dm X a e (x::ys) fp s H) d (LT X.K dc))(t:∀fp s H,Fm (Dm X a e (x::ys) fp s H) b j)(v:∀x,Cz iter X.env x=pure x:=by intro _; rfl)(c:Nh (.ListComp b [⟨.Name x g,iter,d,0⟩] a pos) (some (.Name p q)) f.line X.env=pure true:=by rfl):xM X (.Assign [.Name p q] (.ListComp b [⟨.Name x g,iter,d,0⟩] a pos) f) (p8 (u5 m l dc j) (HZ o i0)):=PS.impD (Q7 u h i C n r k t v c) (oZ sL IA)
end
end DL
namespace DL
open PySem PySem.Spec PyProof.Rows L2 Nd
section
variable{K:PySem.W.Frag}{g H i:Hp}{X:Addr->Prop}{n n':Nat}{E S T:List Ent}
theorem At.pushF(h:At K g X n E H){v:V}{d:Ae}{F:List Addr}(r:RdF K H v d F)(i:F.Nodup)(c:∀a∈F,∀f∈E,a∉f.F)(j:∀a∈F,g a=none):At K g X n (⟨some v,.dat .ow d,F⟩::E) H:=by
 refine h.push ⟨v,rfl,r,λ_=>i,λz=>nomatch z⟩ (λf e=>⟨λ_ a b z=>c a b f e z,λ_ a b z=>c a z f e (Gu _ _ b)⟩) λa b=>.inl (j a b)
theorem At.drawn(h:At K g X n E H){e:Ent}{a:Addr}(A:e∈E)(L:e.x=.drw)(P:e.v=some (.ref a))(s:Zf a H i)(hd:∃c k f,gV i a c k f/\0<=k/\k<=(n':Int))(N:n<=n'):At K g X n' E i:=by
 obtain ⟨v,x,F⟩:=e
 have u:x=.drw:=L
 subst u
 obtain ⟨t,S,T,R,p,O,y,_⟩:=h.ok _ A
 have Q:some (V.ref a)=some (V.ref t):=P.symm.trans p
 cases Q
 have w:F=[a]:=O
 subst w
 refine ⟨λf D=>?_,h.sep,h.new,λb o J q=>?_,λb o q=>?_,λb d=>?_⟩
 rotate_right
 ·obtain ⟨z,c,k,f,m,r,G⟩:=h.xd b d
  by_cases l:b=a
  ·subst l
   exact ⟨z,hd⟩
  ·exact ⟨z,c,k,f,s _ _ l m,r,by omega⟩
 ·rcases oY h A D with rfl | q
  ·obtain ⟨c,k,B,m,r,G⟩:=hd
   exact ⟨a,c,k,B,p,rfl,m,r,G⟩
  ·have M:a∉f.F:=q.1 (.inr rfl) a Ab
   refine (h.ok f D).kp (λb o C z=>?_) N
   by_cases d:b=a
   ·subst d
    rcases z with z | z
    ·exact absurd z M
    ·have j:H b=some (.lst _):=y
     rw[C] at j
     cases j
     rcases z with ⟨_,z⟩ | ⟨_,_,z⟩ <;> cases z
   ·exact s b o d C
 ·have d:b≠a:=by
   rintro rfl
   rcases h.new _ A b Ab with z | z
   ·rw[z] at q; cases q
   ·exact J z.1
  exact s b o d (h.same b o J q)
 ·by_cases d:b=a
  ·subst d
   obtain ⟨c,k,B,m,_⟩:=hd
   exact ⟨_,m⟩
  ·obtain ⟨I,z⟩:=h.dom b o q
   exact ⟨I,s b I d z⟩
end
abbrev PF:=List Ae->(Ae->Prop)->Prop
abbrev DF:=List Ae->Nat->(Ae->Nat->Prop)->Prop
def cF(K:PySem.W.Frag)(h:PF):Sp:=λg H Q _=>∃(c:List Ent) (n:Nat) (f:List Ae) (R:Ae->Prop),c.map Ent.v=g.map some/\(∀e∈c,Gr K H n e)/\datas (c.map Ent.x)=some f/\h f R /\
 ∀v d F b,R d->RdF K b v d F->F.Nodup->(∀a∈F,H a=none)->Sx H b->Q v b
def rL(K:PySem.W.Frag)(o:DF):Sp:=λm H Q _=>∃(b:Addr) (j:List V) (h:List Ent) (n:Nat) (l:List Ae) (R:Ae->Nat->Prop),m=.ref b::j/\h.map Ent.v=j.map some/\(∀e∈h,Gr K H n e)/\(∀e∈h,b∉e.F)/\(∃c k f,gV H b c k f/\0<=k/\k<=(n:Int))/\datas (h.map Ent.x)=some l/\o l n R /\
 ∀v d F i g,n<=i->R d i->RdF K g v d F->F.Nodup->(∀a∈F,H a=none)->(∃c k f,gV g b c k f/\0<=k/\k<=(i:Int))->Zf b H g->Q v g
def B3(f:PF)(g:DA):DE:=λc P=>g c λe a=>match datas e with
 | some b=>f b λd=>P (.dat .ow d) a
 | none=>False
def pV(i:Nat)(e:DF)(h:DA):DE:=λb P=>match b.sl[i]? with
 | some .drw=>h b λf a=>match a.sl[i]? with
  | some .drw=>match datas f with
   | some c=>e c a.n λd g=>P (.dat .ow d) ⟨a.sl,g⟩
   | none=>False
  | _=>False
 | _=>False
section
variable{X:Cx}{CX:uR}{k:Nat}{f:Addr}{g:Dc}{ps:List Str}{j:PF}{m:DF}{E:XK}{x:Str}{p pos:Pos}{e l:Expr}{es:List Expr}{b:DA}
theorem Om(F:FnOk X.prog X.w X.K X.mg X.base CX k f g ps (cF X.K j))(O:Room k X.A)(hg:Gl X x)(B:X.mg x=some (.ref f))(C:PySem.W.keepIn X.K (.ref f)=true)(hb:Binds X.K g ps [])(J:Sg CX X E)(l:oT X (e::es) b)(m:(x == ("__debug__" : Str))=false:=by decide)(u:Bn (e::es) X.env=(false,eval e X.env)::Bn es X.env:=by rfl)(o:(Hj pos (Bn es X.env)).any (·.1)=false:=by rfl):Fm X (.Call (.Name x p) (e::es) [] pos) (B3 j b):=by
 refine PE.imp (aR F O hg B C hb .nil J l m u o) λσ H Q h=>?_
 obtain ⟨R,Y,S,T,δ,P,rfl,L,N,V,D⟩:=h
 refine ⟨R,Y,S,T,δ,_,rfl,L,N,V,λxs i z us G H' e1 Z M I c p=>?_⟩
 subst M
 cases q:datas (z.map Ent.x) with
 | none=>rw[q] at p; exact p.elim
 | some U =>
  rw[q] at p
  rw[Ec]
  refine ⟨z,i.n,U,_,I,λe u=>c.ok e (Ag _ (Ak _ u)),q,p,λv d F t r rd nd y s=>?_⟩
  exact D _ i v F G t e1 Z (((c.dropL.grow s (Aj _)).pushF rd nd (λa l=>c.dropL.free (y a l)) (λa l=>c.new0 (y a l))).tomid) r
theorem FT(F:FnOk X.prog X.w X.K X.mg X.base CX k f g ps (cF X.K j))(q:Room k X.A)(D:Gl X x)(t:X.mg x=some (.ref f))(z:PySem.W.keepIn X.K (.ref f)=true)(hb:Binds X.K g ps [])(G:Sg CX X E)(c:(x == ("__debug__" : Str))=false:=by decide):Fm X (.Call (.Name x p) [] [] pos) (B3 j W8):=by
 refine PE.imp (B5 F q D t z hb .nil G c) λL H Q h=>?_
 obtain ⟨J,Y,S,T,o,P,rfl,u,b,I,B⟩:=h
 show cF X.K j [] H Q E
 refine ⟨[],o.n,[],_,rfl,λe y=>(nomatch y),rfl,I,λv d F l r rd C m s=>?_⟩
 exact B _ o v F S l rfl u (((b.grow s (Aj _)).pushF rd C (λa i=>b.free (m a i)) (λa i=>b.new0 (m a i))).tomid) r
theorem Hz{i:Nat}(F:FnOk X.prog X.w X.K X.mg X.base CX k f g ps (rL X.K m))(hr:Room k X.A)(hg:Gl X x)(hm:X.mg x=some (.ref f))(hk:PySem.W.keepIn X.K (.ref f)=true)(hb:Binds X.K g ps [])(hx:Sg CX X E)(h0:PE X l (eM i))(L:oT X es b)(R:(x == ("__debug__" : Str))=false:=by decide)(B:Bn (l::es) X.env=(false,eval l X.env)::Bn es X.env:=by rfl)(h1:(Hj pos (Bn es X.env)).any (·.1)=false:=by rfl):Fm X (.Call (.Name x p) (l::es) [] pos) (pV i m b):=by
 refine PE.imp (aR F hr hg hm hk hb .nil hx (Hy h0 L B) R B h1) λσ H Q h=>?_
 obtain ⟨H0,Y,S,T,δ,P,rfl,hS,hA,N,kk⟩:=h
 unfold pV at N
 split at N
 case h_2=>exact N.elim
 rename_i G
 have J:∀w,(vs S)[i]? = some (some w)->LA X.K b (vs S) H λxs H2=>rL X.K m ((w::xs)++[]) H2 Q E:=λw M=>by
  refine ⟨H0,Y,S,T,δ,_,rfl,hS,hA,N,λxs D As us U H' e1 e2 ex eu j p=>?_⟩
  subst ex
  split at p
  ·rename_i h2
   obtain ⟨c,I,O⟩:=Ks e2 h2
   have o:c∈U:=Be I
   have hv:c.v=some w:=by
    have:=Nv I
    rw[e1,M] at this
    exact (Bv this).symm
   obtain ⟨u,z,F⟩:=c
   have t:z=.drw:=O
   subst t
   have hE:(⟨u,.drw,F⟩ : Ent)∈U++(As++T):=Ak _ o
   obtain ⟨C,c0,k0,f0,y,h5,h7,h8,h3⟩:=j.ok _ hE
   have ew:some w=some (V.ref C):=hv.symm.trans y
   cases ew
   have Z:F=[C]:=h5
   subst Z
   cases q:datas (As.map Ent.x) with
   | none=>rw[q] at p; exact p.elim
   | some ds =>
    rw[q] at p
    rw[Ec]
    refine ⟨C,us,As,D.n,ds,_,rfl,eu,λe B=>j.ok e (Ag _ (Ak _ B)),λe B=>?_,⟨c0,k0,f0,h7,h8,h3⟩,q,p,λv d F n' h4 hn r rd nd fr h6 s=>?_⟩
    ·obtain ⟨_,_,hp⟩ := Cr.mp j.sep
     exact (hp _ o e (Ak _ B)).1 (.inr rfl) C Ab
    ·have h9:=j.dropL.drawn (Ak _ o) rfl hv s h6 hn
     exact kk _ ⟨D.sl,n'⟩ v F U h4 e1 e2 ((h9.pushF rd nd (λa L=>j.dropL.free (fr a L)) (λa L=>j.new0 (fr a L))).tomid) r
  ·exact p.elim
 obtain ⟨c,I,O⟩:=Ks hS G
 have o:c∈S:=Be I
 obtain ⟨u,z,F⟩:=c
 have t:z=.drw:=O
 subst t
 obtain ⟨C,c0,k0,f0,y,_⟩:=hA.ok _ (Ak _ o)
 have M:(vs S)[i]? = some (some (.ref C)):=(Nv I).trans (congrArg some y)
 exact ⟨_,M,J _ M⟩
def Wp:Sp:=λvs H Q _=>∃c:Int,vs=[.int c]/\∀(p:Addr) (b:Int) (f:Bool) (a:Hp),H p=none->gV a p b 0 f->Sx H a->Q (.ref p) a
def yX(b:DA):DE:=λd P=>b d λc a=>match c with
 | [.dat _ (.int _)]=>P .drw a
 | _=>False
theorem zC(F:FnOk X.prog X.w X.K X.mg X.base CX k f g ps Wp)(O:Room k X.A)(hg:Gl X x)(y:X.mg x=some (.ref f))(B:PySem.W.keepIn X.K (.ref f)=true)(hb:Binds X.K g ps [])(J:Sg CX X E)(d:oT X (e::es) b)(j:(x == ("__debug__" : Str))=false:=by decide)(U:Bn (e::es) X.env=(false,eval e X.env)::Bn es X.env:=by rfl)(l:(Hj pos (Bn es X.env)).any (·.1)=false:=by rfl):Fm X (.Call (.Name x p) (e::es) [] pos) (yX b):=by
 refine PE.imp (aR F O hg y B hb .nil J d j U l) λσ H Q h=>?_
 obtain ⟨R,Y,S,T,δ,P,rfl,L,N,hd,C⟩:=h
 refine ⟨R,Y,S,T,δ,_,rfl,L,N,hd,λxs i As us D H' e1 e2 M G r p=>?_⟩
 split at p
 ·obtain ⟨v,F,rfl,c⟩:=Jf G r M
  obtain ⟨rfl,_⟩:=(c.told mem_mid).int_inv
  refine ⟨_,rfl,λq c' I m t o s=>?_⟩
  have Z:=c.drop.grow (n':=i.n) s (Aj _)
  refine C _ i _ [q] D m e1 e2 ((Z.push (e:=⟨some (.ref q),.drw,[q]⟩) ⟨q,_,0,I,rfl,rfl,o,by decide,by omega⟩ (λf V=>?_) λa d=>?_).tomid) p
  ·have u:=c.drop.free t f V
   refine ⟨λ_ a d z=>?_,λ_ a d z=>?_⟩
   ·rw[Al.mp d] at z
    exact u z
   ·rw[Al.mp z] at d
    exact u (Gu _ _ d)
  ·rw[Al.mp d]
   exact .inl (c.new0 t)
 ·exact p.elim
end
def args0(ds:List Ae)(k:Nat):List DV:=ds.map (λd=>.dat .sh d)++Bz k .un
def eI(e:Ent):Ent:=match e.x with
 | .dat _ d=>⟨e.v,.dat .sh d,e.F⟩
 | _=>e
theorem Lv:∀{xs:List DV} {ds:List Ae},datas xs=some ds->xs.length=ds.length
 | [],ds,h=>by cases h; rfl
 | x::xs,ds,h=>by
  cases x with
  | dat m d =>
   cases q:datas xs with
   | none=>simp [datas,q] at h
   | some a =>
    simp [datas,q] at h
    subst h
    rw[Bm,Bm,Lv q]
  | _=>cases h
theorem Wq:∀{As:List Ent} {ds:List Ae},datas (As.map Ent.x)=some ds->(As.map eI).map Ent.x=ds.map (λd=>.dat .sh d)
 | [],ds,h=>by cases h; rfl
 | ⟨v,x,F⟩::As,ds,h=>by
  rw[Ao] at h
  cases x with
  | dat m d =>
   cases q:datas (As.map Ent.x) with
   | none=>simp [datas,q] at h
   | some a =>
    simp [datas,q] at h
    subst h
    rw[Ao,Ao,Ao,Wq q]
    rfl
  | _=>cases h
theorem Yj:∀{As:List Ent} {ds:List Ae},datas (As.map Ent.x)=some ds->∀e∈As,∃m d,e.x=.dat m d
 | [],ds,h,e,he=>nomatch he
 | ⟨v,x,F⟩::As,ds,h,e,he=>by
  rw[Ao] at h
  cases x with
  | dat m d =>
   cases q:datas (As.map Ent.x) with
   | none=>simp [datas,q] at h
   | some a =>
    rcases An.mp he with rfl | he
    ·exact ⟨m,d,rfl⟩
    ·exact Yj q e he
  | _=>cases h
theorem BD(As:List Ent):(As.map eI).map Ent.v=As.map Ent.v:=by
 rw[Dn]
 refine Jc λe _=>?_
 obtain ⟨v,x,F⟩:=e
 cases x <;> rfl
def Jp(k:Nat):List Ent:=Bz k ⟨none,.un,[]⟩
theorem jX{As:List Ent}{ds:List Ae}(q:datas (As.map Ent.x)=some ds)(k:Nat):∀e∈As.map eI++Jp k,cells e=[]/\X6 e.x=false:=λe he=>by
 rcases Aw.mp he with he | he
 ·obtain ⟨f,b,rfl⟩:=Df.mp he
  obtain ⟨m,d,c⟩:=Yj q f b
  obtain ⟨v,x,F⟩:=f
  have a:x=.dat m d:=c
  subst a
  exact ⟨rfl,rfl⟩
 ·rw[(Hu.mp he).2]
  exact ⟨rfl,rfl⟩
theorem Tr{c:Type}{R:c->c->Prop}:∀{l:List c},(∀a∈l,∀b∈l,R a b)->l.Pairwise R
 | [],_=>Ea
 | a::l,h=>Bb.mpr ⟨λb e=>h a Ab b (Ad _ e),Tr λx f y d=>h x (Ad _ f) y (Ad _ d)⟩
theorem e8{K:PySem.W.Frag}{H:Hp}{n:Nat}{As:List Ent}{ds:List Ae}(q:datas (As.map Ent.x)=some ds)(ok:∀e∈As,Gr K H n e)(k:Nat):∀e∈As.map eI++Jp k,Gr K H n e:=λe he=>by
 rcases Aw.mp he with he | he
 ·obtain ⟨f,b,rfl⟩:=Df.mp he
  obtain ⟨m,d,h⟩:=Yj q f b
  have o:=ok f b
  obtain ⟨v,x,F⟩:=f
  have a:x=.dat m d:=h
  subst a
  obtain ⟨w,g,c,_⟩:=o
  exact ⟨w,g,c,λz=>(nomatch z),λz=>(nomatch z)⟩
 ·rw[(Hu.mp he).2]
  exact (rfl:([]:List Addr)=[])
theorem Qi{b c:Type}(f:b->c)(k:Nat)(a:b):(Bz k a).map f=Bz k (f a):=by
 rw[Zc]
def retE(R:Ae->Prop):DEnds where
 nx:=λ_=>R .none
 rt:=λx _=>∃d,x=.dat .ow d/\R d
def retW(n:Nat)(R:Ae->Nat->Prop):DEnds where
 nx:=λa=>n<=a.n/\R .none a.n
 rt:=λx a=>n<=a.n/\∃d,x=.dat .ow d/\R d a.n
section
variable{P:Bl}{w:World}{K:PySem.W.Frag}{mg:Str->Option Value}{base:Heap}
theorem Qf{x g:Str}{st:Stmt}{f:Addr}{V:Dc}{N ps:List Str}{k:Nat}{X:PF}{U:DB}(F:Fun K x g st f V)(S:FnScope N ps (Cf st))(hb:∀(i:Value) (A:Ce) (outer:List Env) (s:Ai) (H:Hp) (E:XK),Room k (A.deeper (Sv g (Cf st) s.heap.objs.size f i))->cG (Qo La P w K mg base N g (Cf st) f i A outer s H E).nox (Kt st) U)(h:∀ds R,X ds R->ds.length=ps.length/\U (retE R) ⟨args0 ds (N.length - ps.length),0⟩):FnOk P w K mg base La (k+1) f V ps (cF K X):=by
 refine F.ok S (λvs H Q E z=>?_) λi A outer s H Z Q E hr z=>?_
 ·obtain ⟨W,n,ds,R,y,ok,q,J,_⟩:=z
  have l1:=(h ds R J).1
  have O:=Lv q
  rw[Af] at O
  have M:=congrArg Ft y
  rw[Af,Af] at M
  omega
 ·obtain ⟨W,n,ds,R,y,ok,q,J,T⟩:=z
  obtain ⟨l1,hd⟩:=h ds R J
  have O:=Lv q
  rw[Af] at O
  have M:=congrArg Ft y
  rw[Af,Af] at M
  refine ⟨_,hb i A outer s H E hr,H,λ_=>False,W.map eI++Jp (N.length - ps.length),[],⟨args0 ds (N.length - ps.length),0⟩,retE R,?_,?_,λ_ z=>(nomatch z),?_,hd,λD C G e1 j p=>?_,λx D v I C G e1 j p=>?_,λ_ _ _ _ _ p=>p.elim,λ_ _ _ _ _ p=>p.elim⟩
  ·unfold vs L2.start Jp
   rw[Bh,BD,y,Qi,show Z.length=ps.length by omega]
  ·unfold Sl args0 Jp
   rw[Bh,Wq q,Qi]
  ·rw[Ec]
   have t:=jX q (N.length - ps.length)
   refine ⟨λe B=>?_,Tr λa l b L=>⟨λY c m=>?_,λY c m=>?_⟩,λe B a l=>?_,λb o _ e=>e,λb o e=>⟨o,e⟩,λb hb=>hb.elim⟩
   ·have:=e8 q ok (N.length - ps.length) e B
    obtain ⟨v,x,F⟩:=e
    cases x with
    | drw=>exact absurd (t _ B).2 (by show ¬ (true=false); decide)
    | _=>exact this
   ·rw[(t a l).1] at m; cases m
   ·rw[(t b L).1] at m; cases m
   ·rw[(t e B).1] at l; cases l
  ·exact T .non .none [] G p .non Dv (λ_ z=>(nomatch z)) λb o e=>j.same b o (λz=>z) e
  ·obtain ⟨d,rfl,r⟩:=p
   rw[show C++[(⟨some v,.dat .ow d,I⟩ : Ent)]=C++⟨some v,.dat .ow d,I⟩::[] from rfl] at j
   obtain ⟨u,e2,rd,nd,_⟩:=j.ok _ mem_mid
   cases e2
   refine T v d I G r rd (nd rfl) (λa l=>?_) λb o e=>j.same b o (λz=>z) e
   rcases j.new _ mem_mid a l with z | z
   ·exact z
   ·exact z.1.elim
theorem iN{x g:Str}{st:Stmt}{f:Addr}{fd:Dc}{N ps:List Str}{B:Str}{k:Nat}{df:DF}{db:DB}(F:Fun K x g st f fd)(S:FnScope N (B::ps) (Cf st))(hb:∀(m:Value) (A:Ce) (outer:List Env) (s:Ai) (H:Hp) (E:XK),Room k (A.deeper (Sv g (Cf st) s.heap.objs.size f m))->cG (Qo La P w K mg base N g (Cf st) f m A outer s H E).nox (Kt st) db)(h:∀ds n R,df ds n R->ds.length=ps.length/\db (retW n R) ⟨.drw::args0 ds (N.length - (B::ps).length),n⟩):FnOk P w K mg base La (k+1) f fd (B::ps) (rL K df):=by
 refine F.ok S (λvs H Q E z=>?_) λm A outer s H us Q E hr z=>?_
 ·obtain ⟨l,ws,As,n,ds,R,rfl,M,ok,nd,D,q,Z,_⟩:=z
  have l1:=(h ds n R Z).1
  have l2:=Lv q
  rw[Af] at l2
  have l3:=congrArg Ft M
  rw[Af,Af] at l3
  rw[Bm,Bm]
  omega
 ·obtain ⟨l,ws,As,n,ds,R,rfl,M,ok,h0,D,q,Z,k1⟩:=z
  obtain ⟨l1,hd⟩:=h ds n R Z
  have l2:=Lv q
  rw[Af] at l2
  have l3:=congrArg Ft M
  rw[Af,Af] at l3
  -- what the end tells of the draws: they stand in an old cell
  have y:∀{E':List Ent} {n':Nat} {I:Hp},At K H (·=l) n' E' I->∀b o,b≠l->H b=some o->I b=some o:=λj b o nb e=>j.same b o nb e
  refine ⟨_,hb m A outer s H E hr,H,(·=l),⟨some (.ref l),.drw,[l]⟩::(As.map eI++Jp (N.length - (B::ps).length)),[],⟨.drw::args0 ds (N.length - (B::ps).length),n⟩,retW n R,?_,?_,λ_ z=>(nomatch z),?_,hd,λC V I e1 j p=>?_,λx C v Y V I e1 j p=>?_,λ_ _ _ _ _ p=>p.elim,λ_ _ _ _ _ p=>p.elim⟩
  ·unfold vs L2.start Jp
   rw[Ao,Bh,BD,M,Qi,Bm,Bm,show ws.length=ps.length by omega]
   rfl
  ·unfold Sl args0 Jp
   rw[Ao,Bh,Wq q,Qi]
  ·rw[Ec]
   have L:=jX q (N.length - (B::ps).length)
   have J:∀e∈As.map eI++Jp (N.length - (B::ps).length),l∉e.F:=λe he=>by
    rcases Aw.mp he with he | he
    ·obtain ⟨f,hf,rfl⟩:=Df.mp he
     obtain ⟨v,x,F⟩:=f
     have:=h0 _ hf
     cases x <;> exact this
    ·rw[(Hu.mp he).2]
     exact Bd
   refine ⟨λe he=>?_,Bb.mpr ⟨λb t=>⟨λT c i=>?_,λT c i=>?_⟩,Tr λa G b t=>⟨λT c i=>?_,λT c i=>?_⟩⟩,λe he a G=>?_,λb o _ e=>e,λb o e=>⟨o,e⟩,λb hb=>?_⟩
   rotate_right
   ·subst hb
    obtain ⟨c,U,W,O,X⟩:=D
    exact ⟨λz=>(by rw[show H b=some _ from O] at z; cases z),c,U,W,O,X⟩
   ·rcases An.mp he with rfl | he
    ·obtain ⟨c,U,W,O,X,z3⟩:=D
     exact ⟨l,c,U,W,rfl,rfl,O,X,z3⟩
    ·exact e8 q ok _ e he
   ·rw[Al.mp i]
    exact J b t
   ·rw[(L b t).1] at i; cases i
   ·rw[(L a G).1] at i; cases i
   ·rw[(L b t).1] at i; cases i
   ·rcases An.mp he with rfl | he
    ·rw[Al.mp G]
     exact .inr ⟨rfl,rfl⟩
    ·rw[(L e he).1] at G; cases G
  ·exact k1 .non .none [] C.n I p.1 p.2 .non Dv (λ_ z=>(nomatch z)) (j.xd l rfl).2 (y j)
  ·obtain ⟨hn,d,rfl,r⟩:=p
   rw[show V++[(⟨some v,.dat .ow d,Y⟩ : Ent)]=V++⟨some v,.dat .ow d,Y⟩::[] from rfl] at j
   obtain ⟨u,e2,rd,nd,_⟩:=j.ok _ mem_mid
   cases e2
   refine k1 v d Y C.n I hn r rd (nd rfl) (λa G=>?_) (j.xd l rfl).2 (y j)
   rcases j.new _ mem_mid a G with z | z
   ·exact z
   ·cases z.2
end
end DL
namespace L2
open PySem PySem.Spec PyProof.Rows
theorem uN{P:Bl}{w:World}{K:PySem.W.Frag}{mg Q:Str->Option Value}{CX:uR}{k:Nat}{O a:Addr}{Z:Dc}{x:Str}{sp:Sp}{c:Ai}{vs:List Value}{ns:List Int}(Y:K.In c.heap)(G:c.heap.Ns Dg mg)(hb:c.heap.Ns builtinsNs Q)(R:∀x:Str,x ≠ "__name__" -> Q x=Kl x)(C:c.heap.NoLimit)(hg:c.gens=#[])(I:c.heap.get? a=some { cls:=.type "list",data:=.seq vs.toArray })(U:Ez vs ns)(T:ns.length<=Aq)(hr:Room k callerA)(F:∀base:Heap,K.In base->base.Ns Dg mg->FnOk P w K mg base CX k O Z [x] sp)(j:∀(s:Ai) (u:Value),BindsTo s Z ⟨[u],[]⟩ [(x,u)])(S:∀H:Hp,X8 H->DL.KL K H a (ns.map V.int)->sp [.ref a] H (λv _=>v=.bl true) λ_ _ _=>False)(L:∀H e s',CX [] H c (λ_ _ _=>False) e s'->False):Hb (model P w) callerA (.call (.ref O) ⟨[.ref a],[]⟩) (λr s'=>r=.ok (.ret (.bool true))/\OldK c.heap s'.heap/\s'.os=c.os/\Wn s'.gens) c:=by
 have rv:=fM U
 have p:=U.length
 -- from an abstract heap in which nothing but the script may be tracked
 have i:∀H:Hp,X8 H->DL.KL K H a (ns.map V.int)->Vh P w H c.heap->(∀b,H b≠none->b=a)->(H a≠none->K.lookup a=none) ->
   Hb (model P w) callerA (.call (.ref O) ⟨[.ref a],[]⟩) (λr s'=>r=.ok (.ret (.bool true))/\OldK c.heap s'.heap/\s'.os=c.os/\Wn s'.gens) c:=by
  intro H hO hS l X hK
  have f:∀{b:Addr} {o:Obj},c.heap.get? b=some o->H b=none->(jR c.heap H).get? b=some o:=λe n=>xS e n
  have N:∀{b:Addr} {o:Obj} {y:Array Gz} {E:Nat},c.heap.get? b=some o->o.data=.dict y E->H b=none:=λ{b o y E} e d=>by
   cases q:H b with
   | none=>rfl
   | some u =>
    have M:b=a:=X b (by rw[q]; simp)
    subst M
    rw[I] at e; cases e
    have d':Data.seq vs.toArray _=Data.dict y E:=d
    cases d'
  have g:∀{b:Addr} {m:Str->Option Value},c.heap.Ns b m->(jR c.heap H).Ns b m:=λ{b m} ⟨o,y,E,e,d,r⟩=>⟨o,y,E,f e (N e d),d,r⟩
  have D:K.In (jR c.heap H):=λb o e=>f (Y b o e) (by
   cases q:H b with
   | none=>rfl
   | some u =>
    have M:b=a:=X b (by rw[q]; simp)
    subst M
    rw[hK (by rw[q]; simp)] at e; cases e)
  have hM:Mod K mg (jR c.heap H):=⟨D,g G,⟨Q,g hb,R⟩,let ⟨mc,h1,h2⟩:=C; ⟨mc,g h1,h2⟩⟩
  have e0:Env0 P w K mg (jR c.heap H) callerA [] c H:=⟨rfl,hM,λb o e=>I0 e,Nat.le_of_eq (xC _ _),trivial,λb hb=>absurd (show b∈([]:List Addr) from hb) (by simp),l,.of_eq hg⟩
  refine Nz ((F _ D (g G)).run callerA [] c H ⟨[.ref a],[]⟩ [.ref a] [.ref a] _ _ hr e0 (j c (.ref a)) (.cons rfl .nil) (S H hO hS)) λr s' h=>?_
  cases r with
  | error e=>exact (L H e s' h).elim
  | ok fl =>
   cases fl with
   | next=>exact Kw h
   | brk=>exact Kw h
   | cont=>exact Kw h
   | ret u =>
    obtain ⟨v,H',os,t,un,B,r',q⟩:=h
    have q':v=.bl true:=q
    subst q'
    obtain rfl:u=Value.bool true:=r'
    refine ⟨rfl,OldK.of_keep λb o e=>?_,os,t⟩
    cases q:H b with
    | none=>exact un.keep b o e q (by intro z; exact absurd (show b∈([]:List Addr) from z) (by simp)) (by simp)
    | some u =>
     rcases hO b with z | ⟨ob,xs,z⟩
     ·rw[q] at z; cases z
     ·have z2:=un.frzs b ob _ z
      obtain ⟨e1,_⟩:=l b _ z
      obtain ⟨e2,_⟩:=B b _ z2
      rw[e] at e1; cases e1
      exact e2
 cases J:K.lookup a with
 | some o =>
  -- the script is one of the module's own objects
  have e:=Y a o J
  rw[I] at e
  cases e
  refine i (λ_=>none) (λ_=>.inl rfl) (.inr ⟨vs.toArray,_,J,by rw[Ar,p]; exact T,by simpa using rv⟩) (λb u z=>by have A:(none:Option HO)=some u:=z; cases A) (λb z=>absurd rfl z) λz=>absurd rfl z
 | none =>
  refine i (λb=>if b=a then some (.frz { cls:=.type "list",data:=.seq vs.toArray } (.lst (ns.map V.int))) else none) (λb=>?_) (.inl ⟨{ cls:=.type "list",data:=.seq vs.toArray },if_pos rfl⟩) (λb u z=>?_) (λb z=>?_) λ_=>J
  ·by_cases hb:b=a
   ·exact .inr ⟨_,_,if_pos hb⟩
   ·exact .inl (if_neg hb)
  ·by_cases hb:b=a
   ·have A:=(if_pos hb).symm.trans z
    cases A
    subst hb
    exact ⟨I,by rw[Af]; exact T,vs,_,rv,I⟩
   ·have A:=(if_neg hb).symm.trans z
    cases A
  ·by_cases hb:b=a
   ·exact hb
   ·exact absurd (if_neg hb) z
theorem walk_ofD{l:PySem.W.OpenLaw}{n k:Nat}{q:Bl}{j:List Str}{X:(Str->Option Value)->Heap->Prop}{D:World->Heap->Prop}{d:DefRec}{K:Params->PySem.W.Frag}{CX:World->uR}{sp:World->Sp}{x:Str}(Q:l.most=some n)(z:n<=Aq)(B:d.params.defaults=[])(N:Room k callerA)(P:∀(w:World) (h:Heap),D w h->(K w.params).In h)(F:∀(w:World) (mg:Str->Option Value) (r:Addr) (h:Heap),(K w.params).In h->h.Ns Dg mg->mg d.name=some (.ref r)->∃A:Dc,(∀(s:Ai) (u:Value),BindsTo s A ⟨[u],[]⟩ [(x,u)])/\∀base:Heap,(K w.params).In base->base.Ns Dg mg->FnOk l.prog w (K w.params) mg base (CX w) k r A [x] (sp w))(C:∀(w:World) (H:Hp) (a:Addr) (ns:List Int),ns.length<=n->X8 H->DL.KL (K w.params) H a (ns.map V.int)->sp w [.ref a] H (λv _=>v=.bl true) λ_ _ _=>False)(t:∀(w:World) (H:Hp) (s:Ai) (e:Value) (s':Ai),CX w [] H s (λ_ _ _=>False) e s'->False):PySem.W.WalkO q j X D l.row.toRowW d [] (λf vs=>PySem.call f vs):=by
 refine Att.attach_call Q B λw I p mg Z r o pm cd M a vs ns G Y ho hd J y m i c U=>?_
 have E:=P w _ Y
 obtain ⟨A,O,R⟩:=F w mg r _ E G.T.g y
 exact uN E G.T.g G.T.b G.T.builtins G.T.nolimit U m i (Cg c z) N R O (λH S L=>C w H a ns c S L) λH e s'=>t w H p e s'
end L2
namespace DL
open PySem PySem.Spec PyProof.Rows L2 Nd
def npk:List DV->Bool
 | []=>true
 | .dat .pk _::_=>false
 | _::xs=>npk xs
theorem gY:∀{S:List Ent} {sl:List DV},S.map Ent.x=sl->npk sl=true->∀e∈S,Pu e.x=false
 | [],_,_,_,e,he=>nomatch he
 | ⟨v,x,F⟩::S,_,h,hn,e,he=>by
  subst h
  rw[Ao] at hn
  have : Pu x=false/\npk (S.map Ent.x)=true:=by
   cases x with
   | dat m d=>cases m <;> first | exact ⟨rfl,hn⟩ | cases hn
   | _=>exact ⟨rfl,hn⟩
  rcases An.mp he with rfl | he
  ·exact this.1
  ·exact gY rfl this.2 e he
def own1:Md->Bool
 | .ow=>true
 | .tp=>true
 | _=>false
section
variable{K:PySem.W.Frag}{d H:Hp}{X:Addr->Prop}{n:Nat}{E:List Ent}
theorem At.write{v:Option V}{m:Md}{ds es:List Ae}{a:Addr}{F G:List Addr}{ys:List V}(h:At K d X n (⟨v,.dat m (.list ds),a::F⟩::E) H)(j:own1 m=true)(R:v=some (.ref a))(np:∀e∈E,Pu e.x=false)(r:RdFs K H ys es G)(t:G.Sublist F)(hz:es.length<=Aq):At K d X n (⟨v,.dat m (.list es),a::G⟩::E) (upd H a (.lst ys)):=by
 obtain ⟨w,e1,rd,D,N⟩:=h.ok _ Ab
 obtain ⟨b,Y,T,Z,S,W,L,_⟩:=rd.list_inv
 have A:a::F=b::T:=L
 cases A
 have s:=Bb.mp h.sep
 have B:a∉F:=by
  cases m with
  | ow=>exact (Co.mp (D rfl)).1
  | tp=>exact N rfl a F rfl
  | sh=>cases j
  | pk=>cases j
 have I:a∈cells ⟨v,.dat m (.list ds),a::F⟩:=by
  cases m <;> first | exact Ab | cases j
 have kp:∀{y:List Addr},a∉y->Kp y H (upd H a (.lst ys)):=λ{y} Q b o q z=>by
  have : b≠a:=by
   rintro rfl
   rw[S] at q
   cases q
   rcases z with z | z
   ·exact Q z
   ·rcases z with ⟨_,z⟩ | ⟨_,_,z⟩ <;> cases z
  rw[Dr this]
  exact q
 have u:d a=none:=by
  rcases h.new _ Ab a I with z | z
  ·exact z
  ·cases z.2
 have C:∀c∈cells ⟨v,.dat m (.list es),a::G⟩,c∈cells ⟨v,.dat m (.list ds),a::F⟩:=λc g=>by
  cases m with
  | ow =>
   rcases An.mp g with z | z
   ·exact An.mpr (.inl z)
   ·exact An.mpr (.inr (t.subset z))
  | tp=>exact g
  | sh=>cases j
  | pk=>cases j
 have p:∀c∈a::G,c∈a::F:=λc g=>by
  rcases An.mp g with z | z
  ·exact An.mpr (.inl z)
  ·exact An.mpr (.inr (t.subset z))
 have i:a∉G:=λz=>B (t.subset z)
 refine ⟨λf hf=>?_,?_,λf hf=>?_,λb o U q=>?_,λb o q=>?_,λb O=>?_⟩
 ·rcases An.mp hf with rfl | hf
  ·refine ⟨.ref a,R,.lst Ds hz (r.kp (kp i)),λz=>?_,λz c l e=>?_⟩
   ·exact Co.mpr ⟨i,(Co.mp (D z)).2.sublist t⟩
   ·cases e
    exact i
  ·exact (h.ok f (Ad _ hf)).kp (kp ((s.1 f hf).1 (.inl (np f hf)) a I)) (Aj _)
 ·refine Bb.mpr ⟨λf hf=>⟨λJ c g=>(s.1 f hf).1 (.inl (np f hf)) c (C c g),λJ c g z=>(s.1 f hf).2 (.inl ?_) c g (p c z)⟩,s.2⟩
  cases m <;> first | rfl | cases j
 ·rcases An.mp hf with rfl | hf
  ·exact λc g=>h.new _ Ab c (C c g)
  ·exact h.new f (Ad _ hf)
 ·rw[Dr (Fn q u)]
  exact h.same b o U q
 ·rw[Dr (Fn q u)]
  exact h.dom b o q
 ·obtain ⟨z,c,k,f,P,M⟩:=h.xd b O
  refine ⟨z,c,k,f,(Dr ?_).trans P,M⟩
  rintro rfl
  exact z u
end
theorem Lm{a:Type}:∀{l:List a} {i:Nat} {x:a},l[i]? = some x->l.Perm (x::l.eraseIdx i)
 | [],i,x,h=>by simp at h
 | z::l,0,x,h=>by
  simp at h
  subst h
  exact Hk _
 | z::l,i+1,x,h=>by
  have b:=Lm (l:=l) (i:=i) (x:=x) (by simpa using h)
  rw[Sz]
  exact (b.cons z).trans (Dk x z _)
theorem fZ{b:Type}{l:List b}{i:Nat}{x y:b}(h:l[i]? = some x):(l.set i y).Perm (y::l.eraseIdx i):=by
 have a:=(Av.mp h).1
 have q:=Lm (l:=l.set i y) (i:=i) (x:=y) (by rw[Ko]; simp [a])
 rw[List.eraseIdx_set_eq] at q
 exact q
theorem cE{K:PySem.W.Frag}{t H:Hp}{X:Addr->Prop}{S T:List Ent}{b:DS}{i:Nat}{m:Md}{ds es:List Ae}(f:Sl S b)(A:∀e∈T,Pu e.x=false)(s:At K t X b.n (S++T) H)(B:b.sl[i]? = some (.dat m (.list ds)))(E:own1 m=true)(np:npk b.sl=true):∃a xs G,(vs S)[i]? = some (some (.ref a))/\H a=some (.lst xs)/\RdFs K H xs ds G/\ds.length<=Aq/\∀ys g,RdFs K H ys es g->g.Sublist G->es.length<=Aq->∃h,vs h=vs S/\Sl h ⟨b.sl.set i (.dat m (.list es)),b.n⟩/\At K t X b.n (h++T) (upd H a (.lst ys)):=by
 obtain ⟨d,c,M⟩:=Ks f B
 have z:d∈S:=Be c
 obtain ⟨u,x,F⟩:=d
 have p:x=.dat m (.list ds):=M
 subst p
 obtain ⟨v,w,rd,_⟩:=s.ok _ (Ak _ z)
 obtain ⟨a,xs,G,rfl,N,C,y,J⟩:=rd.list_inv
 have o:F=a::G:=y
 subst o
 refine ⟨a,xs,G,by rw[Nv c]; exact congrArg some w,N,C,J,λys g r L l=>?_⟩
 have I:=gY f np
 have O:(S++T).Perm (⟨u,.dat m (.list ds),a::G⟩::(S.eraseIdx i++T)):=by
  exact (Lm c).append_right T
 have D:=(s.perm O).write (es:=es) (ys:=ys) E w (λe he=>?_) r L l
 ·refine ⟨S.set i ⟨u,.dat m (.list es),a::g⟩,?_,?_,D.perm ?_⟩
  ·unfold vs
   rw[Ip]
   apply Ir
   intro j
   rw[Ko]
   split
   ·rename_i k
    subst k
    rw[Bj,c]
    split
    ·rfl
    ·rename_i q
     rw[Af] at q
     exact absurd (Av.mp c).1 q
   ·rfl
  ·unfold Sl at f ⊢
   rw[Ip,f]
  ·exact ((fZ c).append_right T).symm
 ·rcases Aw.mp he with he | he
  ·exact I e ((List.eraseIdx_sublist S i).subset he)
  ·exact A e he
def jU(i:Nat)(c:DE):DB:=λD b=>match b.sl[i]? with
 | some (.dat _ (.list _))=>c b λy a=>match a.sl[i]?,y with
  | some (.dat m (.list ds)),.dat _ e=>own1 m=true/\npk a.sl=true/\imm e=true/\ds.length<1000000/\D.nx ⟨a.sl.set i (.dat m (.list (ds++[e]))),a.n⟩
  | _,_=>False
 | _=>False
section
variable{X:Cx}{o e:Expr}{f:DE}{d c pos:Pos}{i:Nat}
theorem fU(ho:PE X o (eM i))(he:Fm X e f)(j:Mr o "append" X.env (eval o X.env)=eval o X.env:=by rfl)
  (l:((Hj c (Bn [e] X.env)).all (λx=>!x.1) && (backToKw c (Zp [] X.env)).all (λx=>x.1.isSome)
   && decide (([e]:List Expr).length+([]:List Uh).length+(if ([]:List Uh).isEmpty then 0 else 1)<30))=true:=by rfl)
  (k:(d.endLine == c.line)=true:=by rfl) (L:Bn [e] X.env=(false,eval e X.env)::Bn [] X.env:=by rfl) (g:(Hj c (Bn [] X.env)).any (·.1)=false:=by rfl)
  (I:Nh (.Call (.Attribute o "append" d) [e] [] c) none pos.line X.env=pure false:=by rfl) :
  xM X (.Expr (.Call (.Attribute o "append" d) [e] [] c) pos) (jU i f):=by
 refine PS.impD (sC (U7 PySem.F.plainAttrs_list PySem.F.slot_list_append PySem.F.type_list_append Ot ho (Hy he Np L) j l k L g) I) λD σ H h=>?_
 obtain ⟨H0,Y,S,T,δ,P,rfl,M,hT,O,A,k1,k2,k3,k4⟩:=h
 unfold jU at A
 split at A
 case h_2=>exact A.elim
 rename_i m0 B C
 obtain ⟨t,E,e3⟩:=Ks M C
 have W:t∈S:=Be E
 obtain ⟨u,x,F⟩:=t
 have J:x=.dat m0 (.list B):=e3
 subst J
 obtain ⟨v,R,rd,_⟩:=O.ok _ (Ak _ W)
 obtain ⟨a,xs,G,rfl,ha,ra,eF,hz⟩:=rd.list_inv
 refine ⟨.ref a,by rw[Nv E]; exact congrArg some R,.inl ⟨rfl,xs,Pq.of ha⟩,H0,Y,S,T,δ,_,rfl,M,O,A,λy h0 w F1 S1 H1 Q e5 s q=>?_⟩
 split at q
 ·rename_i m ds m' e' p
  obtain ⟨q,p2,p3,p4,p5⟩:=q
  have r:=s.told mem_mid
  obtain rfl:=r.imm p3
  obtain ⟨b,z,G1,N,g2,K,g4,U⟩:=cE (es:=ds++[e']) e5 hT s.drop p q p2
  rw[Q,Nv E] at N
  have : some (V.ref b)=some (V.ref a):=(Bv N).symm.trans R
  cases this
  obtain ⟨S2,h1,Z,h3⟩:=U (z++[w]) (G1++[]) (K.snoc r) (by rw[Ec]; exact Ci _) (by rw[Bf]; exact kE (by simp; omega))
  have hl:=K.len
  refine ⟨a,z,w,rfl,rfl,g2,Cc (by omega) (kE (n:=1000000) (Aj _)),?_⟩
  rw[<- Q,<- h1]
  exact k1 ⟨_,_⟩ S2 _ Z h3 p5
 ·exact q.elim
end
def U3(i:Nat)(c d:DE):DB:=λD f=>d f λy b=>match b.sl[i]? with
 | some (.dat _ (.list _))=>c b λz a=>match a.sl[i]?,y,z with
  | some (.dat m (.list ds)),.dat _ e,.dat _ (.int k)=>own1 m=true/\npk a.sl=true/\imm e=true/\Ed ds=true/\∃j,xO ds.length k=some j/\D.nx ⟨a.sl.set i (.dat m (.list (ds.set j e))),a.n⟩
  | _,_,_=>False
 | _=>False
theorem RdFs.setI{K:PySem.W.Frag}{H:Hp}:∀{xs:List V} {ds:List Ae} {j:Nat} {v:V} {e:Ae},RdFs K H xs ds []->RdF K H v e []->RdFs K H (xs.set j v) (ds.set j e) []:=by
 have b:∀{xs:List V} {ds:List Ae} {F:List Addr} {j:Nat} {v:V} {e:Ae},RdFs K H xs ds F->F=[]->RdF K H v e []->RdFs K H (xs.set j v) (ds.set j e) []:=by
  intro xs ds F j v e h
  induction j generalizing xs ds F with
  | zero =>
   intro c r
   cases h with
   | nil=>exact .nil
   | cons a t =>
    obtain ⟨rfl,rfl⟩:=Ug.mp c
    exact RdFs.cons (F:=[]) r t
  | succ j d =>
   intro c r
   cases h with
   | nil=>exact .nil
   | cons a t =>
    obtain ⟨rfl,rfl⟩:=Ug.mp c
    exact RdFs.cons (F:=[]) a (d t rfl r)
 intro xs ds j v e h r
 exact b h rfl r
section
variable{X:Cx}{o d e:Expr}{g f:DE}{pos c:Pos}{i:Nat}
theorem R4(ho:PE X o (eM i))(hk:Fm X d f)(he:Fm X e g)
  (Z:∀v,Oc (.Subscript o d c) X.env v=(do
   let ov <- Ny [v] (eval o X.env)
   let iv <- Ny [v,ov] (eval d X.env)
   Wj c
   Ny [v,ov,iv] (setItem ov iv v)
   release [v,ov,iv] []):=by intro _; rfl)
  (hs:swapsWithSole [.Subscript o d c] e pos.line X.env=pure false:=by rfl) (hw:swappedStores [.Subscript o d c] e X.env=pure none:=by rfl)
  (I:(Km [.Subscript o d c] X.env).map (·.2)=[Oc (.Subscript o d c) X.env]:=by rfl):xM X (.Assign [.Subscript o d c] e pos) (U3 i f g):=by
 refine PS.impD (oX he (pL ho hk cY Z) hs hw I) λD σ H h=>?_
 obtain ⟨U,Y,S,T,δ,P,rfl,hS,hT,hA,hd,k1,k2,k3,k4⟩:=h
 refine ⟨U,Y,S,T,δ,_,rfl,hS,hA,hd,λy L w F1 O H1 E R p B=>?_⟩
 split at B
 case h_2=>exact B.elim
 rename_i m0 t C
 obtain ⟨q,K,e3⟩:=Ks R C
 have hm:q∈O:=Be K
 obtain ⟨u,x,F⟩:=q
 have M:x=.dat m0 (.list t):=e3
 subst M
 obtain ⟨v,W,rd,_⟩:=p.ok _ (Ak _ hm)
 obtain ⟨a,xs,G,rfl,Z,ra,eF,hz⟩:=rd.list_inv
 refine ⟨.ref a,by rw[<- E,Nv K]; exact congrArg some W,U,Y,O,⟨some w,y,F1⟩::T,L,_,E,R,p,B,λz h4 w2 F2 S2 H2 N e7 l J=>?_⟩
 split at J
 ·rename_i m ds m' e' h0 k n
  obtain ⟨q1,q2,q3,q4,j,q5,q6⟩:=J
  obtain ⟨rfl,_⟩:=(l.told mem_mid).int_inv
  have r:=l.told Fd
  obtain rfl:=r.imm q3
  obtain ⟨b,s,G1,Q,g2,A,g4,g5⟩:=cE (es:=ds.set j e') e7 hT l.drop2 n q1 q2
  rw[N,<- E,Nv K] at Q
  have : some (V.ref b)=some (V.ref a):=(Bv Q).symm.trans W
  cases this
  obtain rfl:=A.imm q4
  obtain ⟨S3,I,h2,h3⟩:=g5 (s.set j w) [] (A.setI r) (Ci _) (by rw[Po]; exact g4)
  refine ⟨a,s,k,j,rfl,rfl,g2,by rw[A.len]; exact q5,?_⟩
  rw[<- N,<- I]
  exact k1 ⟨_,_⟩ S3 _ h2 h3 q6
 ·exact J.elim
end
def spLawD(K:PySem.W.Frag):Sp:=λc H Q _=>∃(a:Addr) (b:List Int),c=[.ref a]/\KL K H a (b.map V.int)/\b.length<=63/\∀d,Q (.bl true) d
def retL:DEnds where
 nx:=λ_=>False
 rt:=λx _=>∃m,x=.dat m (.bool true)
section
variable{P:Bl}{w:World}{K:PySem.W.Frag}{mg:Str->Option Value}{base:Heap}
theorem Z6{x d u:Str}{st:Stmt}{f:Addr}{D:Dc}{N:List Str}{k:Nat}{B:DB}(F:Fun K x d st f D)(S:FnScope N [u] (Cf st))(hb:∀(g:Value) (A:Ce) (outer:List Env) (s:Ai) (H:Hp) (E:XK),Room k (A.deeper (Sv d (Cf st) s.heap.objs.size f g))->cG (Qo La P w K mg base N d (Cf st) f g A outer s H E).nox (Kt st) B)(h:∀ns:List Int,ns.length<=63->B retL ⟨.scr ns::Bz (N.length - 1) .un,0⟩):FnOk P w K mg base La (k+1) f D [u] (spLawD K):=by
 refine F.ok S (λvs H Q E z=>?_) λg A outer s H O Q E L z=>?_
 ·obtain ⟨a,ns,rfl,_⟩:=z
  rfl
 ·obtain ⟨a,ns,rfl,J,i,I⟩:=z
  refine ⟨_,hb g A outer s H E L,H,λ_=>False,⟨some (.ref a),.scr ns,[]⟩::Jp (N.length - 1),[],⟨.scr ns::Bz (N.length - 1) .un,0⟩,retL,?_,?_,λ_ z=>(nomatch z),?_,h ns i,λq n y M r p=>p.elim,λx q v C n y M r p=>?_,λ_ _ _ _ _ p=>p.elim,λ_ _ _ _ _ p=>p.elim⟩
  ·unfold vs L2.start Jp
   rw[Ao,Qi]
   rfl
  ·unfold Sl Jp
   rw[Ao,Qi]
  ·rw[Ec]
   have l:∀e∈(⟨some (.ref a),.scr ns,[]⟩::Jp (N.length - 1):List Ent),cells e=[]:=λe he=>by
    rcases An.mp he with rfl | he
    ·rfl
    ·rw[(Hu.mp he).2]
     rfl
   refine ⟨λe he=>?_,Tr λa j b t=>⟨λG c z=>?_,λG c z=>?_⟩,λe he a j=>?_,λb o _ e=>e,λb o e=>⟨o,e⟩,λb hb=>hb.elim⟩
   ·rcases An.mp he with rfl | he
    ·exact ⟨a,rfl,rfl,J,i⟩
    ·rw[(Hu.mp he).2]
     exact (rfl:([]:List Addr)=[])
   ·rw[l a j] at z; cases z
   ·rw[l b t] at z; cases z
   ·rw[l e he] at j; cases j
  ·obtain ⟨m,rfl⟩:=p
   rw[show n++[(⟨some v,.dat m (.bool true),C⟩ : Ent)]=n++⟨some v,.dat m (.bool true),C⟩::[] from rfl] at r
   obtain ⟨rfl,_⟩:=(r.told mem_mid).bl_inv
   exact I y
end
def rG(i:Nat)(dl d:DO):DE:=λc P=>match c.sl[i]? with
 | some (.scr ns)=>dl c λl a=>d a λh b=>P (.dat .ow (.list ((Pt ns l h).map Ax))) b
 | _=>False
def HG(i:Nat)(c:DE):DE:=λb P=>match b.sl[i]? with
 | some (.scr ns)=>c b λy a=>match y with
  | .dat _ (.list es)=>Ed es=true/\ns.length+es.length<=1000000/\P (.dat .ow (.list (ns.map Ax++es))) a
  | _=>False
 | _=>False
section
variable{X:Cx}{e b:Expr}{g:DE}{lo c:Option Expr}{dl f:DO}{pos d:Pos}{i:Nat}
theorem BR{K:PySem.W.Frag}{l H:Hp}{Y:Addr->Prop}{S T:List Ent}{f:DS}{ns:List Int}(m:Sl S f)(p:At K l Y f.n (S++T) H)(c:f.sl[i]? = some (.scr ns)):∃a,(vs S)[i]? = some (some (.ref a))/\(⟨some (.ref a),.scr ns,[]⟩ : Ent)∈S/\KL K H a (ns.map V.int)/\ns.length<=63:=by
 obtain ⟨b,h,q⟩:=Ks m c
 have j:b∈S:=Be h
 obtain ⟨u,x,F⟩:=b
 have g:x=.scr ns:=q
 subst g
 obtain ⟨a,o,k,r⟩:=p.ok _ (Ak _ j)
 have d:u=some (.ref a):=o
 have e:F=[]:=k
 subst d e
 exact ⟨a,by rw[Nv h],j,r⟩
theorem r9(L:PE X e (eM i))(C:CO X lo dl)(O:CO X c f):Fm X (.Subscript e (.Slice lo c none d) pos) (rG i dl f):=by
 refine PE.imp (mQ (r:=BX X.K) K5 L C O) λW H Q h=>?_
 obtain ⟨t,Y,S,T,y,P,rfl,w,x,j,k⟩:=h
 unfold rG at j
 split at j
 case h_2=>exact j.elim
 rename_i b q
 obtain ⟨a,R,z,Z,A⟩:=BR w x q
 have o:At X.K t Y y.n (S++⟨some (.ref a),.scr b,[]⟩::T) H:=(At.view1 x (Ak _ z)).tomid
 refine ⟨.ref a,R,t,Y,S,⟨some (.ref a),.scr b,[]⟩::T,y,_,rfl,w,o,j,λl u D U N I v d=>?_⟩
 refine ⟨t,Y,D,⟨some (.ref a),.scr b,[]⟩::T,u,_,N,I,v,d,λh s F H3 E B g M=>?_⟩
 obtain ⟨a',J,_,m,_⟩:=g.ok _ mem_mid
 cases J
 refine ⟨a,_,rfl,m.sq,λp G=>?_⟩
 have : cI (b.map V.int) l h=(Pt b l h).map V.int:=by
  rw[<- oM]; rfl
 rw[this]
 refine k _ s _ _ F _ E B (g.drop.newI (RdFs.ints _) (Nb _) ?_ G .ow) M
 rw[Af]
 have l1:=(bY b l h).length_le
 exact sz (by omega)
end
def Ra(p:Nat)(dc:DT)(f:DE)(g:DS)(d:Ae->Nat->Prop)(h:Nat->Prop):Prop:=dc g λb a=>match b with
 | true=>f a λy c=>match y with
  | .dat _ e=>imm e=true/\c.sl[p]? = some .drw/\d e c.n
  | _=>False
 | false=>a.sl[p]? = some .drw/\h a.n
def pH(j:DI)(js1:List Nat)(j0:Nat)(js2:List Nat)(dc:DT)(g:DE):DE:=λh P=>j h λm f b=>b.sl[j0]? = some .drw/\∃I:Nat->List Ae->Nat->Prop,I 0 [] b.n /\
 (∀i d a n,f[i]? = some d->I i a n->Ra (js1.length+1) dc g ⟨.dat m d::(frD (b.sl.set j0 .un) js1++.drw::frD (b.sl.set j0 .un) js2),n⟩ (λe c=>I (i+1) (a++[e]) c) (λc=>I (i+1) a c)) /\
 ∀a n,I f.length a n->P (.dat .ow (.list a)) ⟨b.sl,n⟩
section
variable{K:PySem.W.Frag}{a H g:Hp}{Y:Addr->Prop}{n n':Nat}{E S T:List Ent}
theorem At.re(h:At K a Y n E H)(ok:∀e∈E,Gr K g n' e)(s:∀b o,¬ Y b->a b=some o->g b=some o)(i:∀b o,a b=some o->∃j,g b=some j)(d:∀b,Y b->a b≠none/\∃c k f,gV g b c k f/\0<=k/\k<=(n':Int)):At K a Y n' E g:=⟨ok,h.sep,h.new,s,i,d⟩
theorem xZ{g:List Ent}{o:DS}{p:Nat}{b:Addr}(v:At K a Y n E H)(q:∀e∈g,e∈E)(t:Sl g o)(w:o.sl[p]? = some .drw)(m:(vs g)[p]? = some (some (.ref b))):Gr K H n ⟨some (.ref b),.drw,[b]⟩:=by
 obtain ⟨d,l,z⟩:=Ks t w
 have r:d∈g:=Be l
 rw[Nv l] at m
 obtain ⟨u,x,F⟩:=d
 have j:x=.drw:=z
 subst j
 have s:u=some (.ref b):=Bv m
 subst s
 obtain ⟨h,c,k,f,y,B,A⟩:=v.ok _ (q _ r)
 have i:some (V.ref b)=some (V.ref h):=y
 cases i
 exact ⟨b,c,k,f,rfl,rfl,A⟩
theorem xT{p:Nat}{j:Addr}{dc:DT}{u:DE}{m:DS}{l:Ae->Nat->Prop}{A:Nat->Prop}{D:Addr}{d:List Ae}{N1:Hp->Prop}{N2:VK}(B:Sl S m)(E:At K a Y m.n (S++⟨some (.ref D),.acc d,[D]⟩::T) H)(w:(vs S)[p]? = some (some (.ref j)))(h:Ra p dc u m l A)(k1:∀n' g,At K a Y n' (⟨some (.ref D),.acc d,[D]⟩::T) g->Gr K g n' ⟨some (.ref j),.drw,[j]⟩->A n'->N1 g)(k2:∀e n' v g,At K a Y n' (⟨some (.ref D),.acc d,[D]⟩::T) g->Gr K g n' ⟨some (.ref j),.drw,[j]⟩->RdF K g v e []->l e n'->N2 v g):LT K dc (vs S) H λc o=>if c=true then LE K u (vs S) o N2 else N1 o:=by
 refine ⟨a,Y,S,⟨some (.ref D),.acc d,[D]⟩::T,m,_,rfl,B,E,h,λb t C o z x i s=>?_⟩
 cases b with
 | false=>exact oK (k1 _ _ (i.sub (Bk _ _)) (xZ i (λe q=>Ak _ q) x s.1 (by rw[z]; exact w)) s.2)
 | true =>
  refine mF ⟨a,Y,C,⟨some (.ref D),.acc d,[D]⟩::T,t,_,z,x,i,s,λy G v F L M J I f k=>?_⟩
  split at k
  ·have r:=f.told mem_mid
   obtain rfl:=r.imm k.1
   exact k2 _ _ _ _ (f.drop.sub (Bk _ _)) (xZ f (λe q=>Ak _ q) I k.2.1 (by rw[J]; exact w)) r k.2.2
  ·exact k.elim
theorem A0{di:DI}{js1 js2:List Nat}{j0:Nat}{dc:DT}{de:DE}:∀σ H Q,LE K (pH di js1 j0 js2 dc de) σ H Q->lM (LI K di) (js1++j0::js2) (LT K dc) (LE K de) σ H Q:=by
 intro σ H Q h
 obtain ⟨a,Y,S,T,δ,P,rfl,hS,hA,hd,k⟩:=h
 refine ⟨a,Y,S,T,δ,_,rfl,hS,hA,hd,λm w r J l f H1 e1 e2 Z it hz p1=>?_⟩
 obtain ⟨hj,I,h0,hs,hf⟩:=p1
 rw[<- e1]
 obtain ⟨h4,O,s2⟩:=Ks e2 hj
 have k3:h4∈f:=Be O
 obtain ⟨u,x,F0⟩:=h4
 have h8:x=.drw:=s2
 subst h8
 obtain ⟨b,_,_,_,k4,k1,_⟩:=Z.ok _ (Ak _ k3)
 have W:u=some (.ref b):=k4
 have h6:F0=[b]:=k1
 subst W h6
 intro D hD
 refine ⟨λi q H=>q=w.length - i/\i<=w.length/\∃c n,At K a Y n (⟨some (.ref D),.acc c,[D]⟩::(f++(l++T))) H/\c.length<=i/\I i c n,⟨w.length,by simp,Di _,[],r.n,Z.accNew hD,Aj _,h0⟩,?_⟩
 (intro i q H q_; obtain ⟨rfl,hi,c,n,z,hl,hI⟩ := q_)
 have o:∀e∈l,Gr K H n e:=λe he=>z.ok e (Ad _ (Ag _ (Ak _ he)))
 by_cases t:i<w.length
 ·refine .inr ⟨it.go H n i o t,λx g y=>?_⟩
  obtain ⟨k6,d,F,h1,h2,h3⟩:=it.yld H n i x g o t y
  have C:At K a Y n ((⟨some (.ref D),.acc c,[D]⟩::f)++⟨some x,.dat m d,F⟩::(l++T)) g:=At.item (S:=⟨some (.ref D),.acc c,[D]⟩::f) z k6 h2 h3 it.md it.hd it.np
  -- the draws are taken out of their slot
  have N:At K a Y n (⟨some (.ref b),.drw,[b]⟩::⟨some x,.dat m d,F⟩::⟨some (.ref D),.acc c,[D]⟩::(f.set j0 ⟨some (.ref b),.un,[]⟩++(l++T))) g:=by
   have q:=C.mid.blank (v:=some (.ref b))
   refine q.perm ?_
   have pS:(⟨some (.ref b),.un,[]⟩::f:List Ent).Perm (⟨some (.ref b),.drw,[b]⟩::f.set j0 ⟨some (.ref b),.un,[]⟩):=Tx O
   have p2:=pS.append_right (l++T)
   -- un::x::D::f.. ~ x::D::un::f..
   have a1:((⟨some (.ref b),.un,[]⟩ : Ent)::⟨some x,.dat m d,F⟩::((⟨some (.ref D),.acc c,[D]⟩::f)++(l++T))).Perm (⟨some x,.dat m d,F⟩::⟨some (.ref D),.acc c,[D]⟩::⟨some (.ref b),.un,[]⟩::(f++(l++T))) :=
    (Dk _ _ _).trans ((Dk _ _ _).cons _)
   have a2:((⟨some x,.dat m d,F⟩ : Ent)::⟨some (.ref D),.acc c,[D]⟩::⟨some (.ref b),.drw,[b]⟩::(f.set j0 ⟨some (.ref b),.un,[]⟩++(l++T))).Perm (⟨some (.ref b),.drw,[b]⟩::⟨some x,.dat m d,F⟩::⟨some (.ref D),.acc c,[D]⟩::(f.set j0 ⟨some (.ref b),.un,[]⟩++(l++T))) :=
    ((Dk _ _ _).cons _).trans (Dk _ _ _)
   exact a1.trans (((p2.cons _).cons _).trans a2)
  have V:Sl (f.set j0 ⟨some (.ref b),.un,[]⟩) ⟨r.sl.set j0 .un,n⟩:=jD e2
  have vS:vs (f.set j0 ⟨some (.ref b),.un,[]⟩)=vs f:=by
   rw[iR]
   apply Ir
   intro j
   rw[Ko]
   split
   ·rename_i k0
    subst k0
    rw[Nv O]
    split
    ·rfl
    ·rename_i G
     unfold vs at G
     rw[Af] at G
     exact absurd (Av.mp O).1 G
   ·rfl
  have B:∀e∈f.set j0 ⟨some (.ref b),.un,[]⟩,e∈(⟨some (.ref b),.drw,[b]⟩::⟨some x,.dat m d,F⟩::⟨some (.ref D),.acc c,[D]⟩::(f.set j0 ⟨some (.ref b),.un,[]⟩++(l++T)):List Ent):=λe he=>Ad _ (Ad _ (Ad _ (Ak _ he)))
  have h7:=At.view (S:=f.set j0 ⟨some (.ref b),.un,[]⟩) N B js2
  have h5:=At.view (S:=f.set j0 ⟨some (.ref b),.un,[]⟩) h7 (λe he=>Ag _ (B e he)) js1
  have k7:At K a Y n ((⟨some x,.dat m d,F⟩::(Vb (f.set j0 ⟨some (.ref b),.un,[]⟩) js1++⟨some (.ref b),.drw,[b]⟩::Vb (f.set j0 ⟨some (.ref b),.un,[]⟩) js2))++⟨some (.ref D),.acc c,[D]⟩::(f.set j0 ⟨some (.ref b),.un,[]⟩++(l++T))) g:=by
   refine h5.perm ?_
   generalize Vb (f.set j0 ⟨some (.ref b),.un,[]⟩) js1=A1
   generalize Vb (f.set j0 ⟨some (.ref b),.un,[]⟩) js2=A2
   generalize (⟨some (.ref D),.acc c,[D]⟩::(f.set j0 ⟨some (.ref b),.un,[]⟩++(l++T)):List Ent)=R
   have b1:(A2++((⟨some (.ref b),.drw,[b]⟩ : Ent)::⟨some x,.dat m d,F⟩::R)).Perm ((⟨some x,.dat m d,F⟩ : Ent)::⟨some (.ref b),.drw,[b]⟩::(A2++R)) :=
    (Dj.trans ((Dj).cons _)).trans (Dk _ _ _)
   have b2:=b1.append_left A1
   refine b2.trans (Dj.trans ?_)
   rw[Do,Bt,Do]
  have k2:Sl (⟨some x,.dat m d,F⟩::(Vb (f.set j0 ⟨some (.ref b),.un,[]⟩) js1++⟨some (.ref b),.drw,[b]⟩::Vb (f.set j0 ⟨some (.ref b),.un,[]⟩) js2)) ⟨.dat m d::(frD (r.sl.set j0 .un) js1++.drw::frD (r.sl.set j0 .un) js2),n⟩:=by
   unfold Sl
   rw[Ao,Bh,Ao,cA V,cA V]
  have hv:vs (⟨some x,.dat m d,F⟩::(Vb (f.set j0 ⟨some (.ref b),.un,[]⟩) js1++⟨some (.ref b),.drw,[b]⟩::Vb (f.set j0 ⟨some (.ref b),.un,[]⟩) js2))=some x::Ei (vs f) (js1++j0::js2):=by
   have f1:=bX (f.set j0 ⟨some (.ref b),.un,[]⟩) js1
   have f2:=bX (f.set j0 ⟨some (.ref b),.un,[]⟩) js2
   rw[vS] at f1 f2
   unfold vs at f1 f2 ⊢
   rw[Ao,Bh,Ao,f1,f2]
   unfold Ei
   rw[Bh,Ao,Bj,O]
   rfl
  have h9:(vs (⟨some x,.dat m d,F⟩::(Vb (f.set j0 ⟨some (.ref b),.un,[]⟩) js1++⟨some (.ref b),.drw,[b]⟩::Vb (f.set j0 ⟨some (.ref b),.un,[]⟩) js2)))[js1.length+1]? = some (some (.ref b)):=by
   unfold vs
   rw[Ao,oU,Bh,Gh (by rw[Af]; unfold Vb; rw[Af]; exact Aj _)]
   rw[Af]
   unfold Vb
   rw[Af,Nat.sub_self]
   rfl
  -- s to the outer names
  have s:∀{n':Nat} {A:Hp},At K a Y n' (⟨some (.ref D),.acc c,[D]⟩::(f.set j0 ⟨some (.ref b),.un,[]⟩++(l++T))) A->Gr K A n' ⟨some (.ref b),.drw,[b]⟩->At K a Y n' (⟨some (.ref D),.acc c,[D]⟩::(f++(l++T))) A:=λ{n' A} U k5=>by
   refine z.re (λe he=>?_) U.same U.dom U.xd
   rcases An.mp he with rfl | he
   ·exact U.ok _ Ab
   ·rcases Aw.mp he with he | he
    ·obtain ⟨j,E⟩:=List.getElem?_of_mem he
     by_cases X:j=j0
     ·subst X
      rw[O] at E
      cases E
      exact k5
     ·refine U.ok e (Ad _ (Ak _ (Be (i:=j) ?_)))
      rw[Wb (Ln X)]
      exact E
    ·exact U.ok e (Ad _ (Ag _ he))
  refine ⟨λA=>∃m',m'<w.length - i/\_,λy H3=>∃c,H3 D=some (.lst c)/\c.length<Aq/\∃m',m'<w.length - i/\_,λA q=>q,λy H3 q=>q,?_⟩
  rw[<- hv]
  refine xT k2 k7 h9 (hs i d c n h1 hI) (λn' A L M p=>?_) (λe n' v A L M r7 p=>?_)
  ·exact ⟨w.length - (i+1),by omega,rfl,t,c,n',s L M,by omega,p⟩
  ·obtain ⟨xs,g1,g2,g3⟩:=(s L M).accPut r7 (by omega)
   exact ⟨xs,g1,by omega,w.length - (i+1),by omega,rfl,t,c++[e],n',g3,by rw[Bf]; simp; omega,p⟩
 ·have e:i=w.length:=by omega
  subst e
  refine .inl ⟨it.stop H n o,k _ ⟨r.sl,n⟩ _ [D] f H e1 e2 ?_ (hf c n hI)⟩
  have C:=z.accGet
  have N:At K a Y n (⟨some (.ref D),.dat .ow (.list c),[D]⟩::(f++T)) H:=C.sub (((Ci f).append (Bk l T)).cons₂ _)
  exact N.tomid
end
section
variable{X:Cx}{b iter c:Expr}{x j:Str}{f k pos h:Pos}{i0:Nat}{d:List Expr}{a:Scope}{e:List (Str×Addr)}{ys:List Str}{js1 js2:List Nat}{j0:Nat}{i:DI}{dc:DT}{g:DE}
theorem mB(C:CompScope X a e x ys (js1++j0::js2))(h:X.calm=true)(c:wD X (.Name x f) iter i)(j:∀fp s H,rF (Dm X a e (x::ys) fp s H) d (LT X.K dc))(k:∀fp s H,Fm (Dm X a e (x::ys) fp s H) b g)(l:∀x,Cz iter X.env x=pure x:=by intro _; rfl):Fm X (.ListComp b [⟨.Name x f,iter,d,0⟩] a pos) (pH i js1 j0 js2 dc g):=PE.imp (rZ C h c j k l) A0
end
def DH(i j:Int):Prop:=0<=j/\(Builtin.Int.intBits i:Int) * j<=2 ^ 27
theorem O2{X:Cx}:Xu X (Jb .Pow) (rI DH λi j=>.int (i ^ j.toNat)):=EB λ_ _ _ _ _ _ _ a q=>pow_int a.1 a.2 q
def Yi:DF:=λa n R=>a=[]/\n<=100000/\∀r:Int,R (.int r) (n+1)
theorem G7{P:Bl}{w:World}{K:PySem.W.Frag}{mg:Str->Option Value}{base:Heap}{k:Nat}{f:Addr}{j:Dc}{ps:List Str}(F:FnOk P w K mg base La k f j ps yL):FnOk P w K mg base La k f j ps (rL K Yi):=by
 refine F.imp λB H Q E h=>?_
 obtain ⟨y,l,A,n,D,R,rfl,o,ok,I,⟨c,g,i,b,v,C⟩,q,x,m⟩:=h
 obtain ⟨rfl,G,p⟩:=x
 have a:A=[]:=by
  have:=Lv q
  rw[Af] at this
  exact Mk.mp this
 subst a
 have e:l=[]:=by
  cases l with
  | nil=>rfl
  | cons _ _=>cases o
 subst e
 refine ⟨y,c,g,i,rfl,b,v,by omega,λr t u d s=>?_⟩
 exact m (.int r) (.int r) [] (n+1) u (by omega) (p r) (.int r) Dv (λ_ z=>(nomatch z)) ⟨t,g+1,i,d,by omega,by omega⟩ s
def j9:PF:=λc R=>∃a b:List Int,c=[Br a,Br b]/\Gn 60 a/\Gn 60 b/\R (Br (Ol (a++b)))
theorem bK{ns:List Int}(r:Gn 60 ns):ns.length<=60:=Cg (NdS.len_leI (r.1.imp λ{x y} h=>aV h) λe a=>Xn (r.2 e a).1 (r.2 e a).2) (by decide)
theorem oO{K:PySem.W.Frag}{H:Hp}{v:V}{F:List Addr}{ns:List Int}(r:RdF K H v (Br ns) F):∃a,v=.ref a/\H a=some (.tup (ns.map V.int)):=by
 obtain ⟨a,d,rfl,b,c,_⟩:=RdF.tup_inv (ds:=ns.map Ax) r
 obtain ⟨rfl,_⟩:=c.ints_inv
 exact ⟨a,rfl,b⟩
theorem J0{K:PySem.W.Frag}{H:Hp}{a:Addr}{ns:List Int}(h:H a=some (.tup (ns.map V.int)))(l:ns.length<=1000000):RdF K H (.ref a) (Br ns) []:=.tup h (by rw[Af]; exact kE l) (RdFs.ints ns)
theorem p7{K:PySem.W.Frag}{H:Hp}{n:Nat}{As:List Ent}{us:List V}{g d:Ae}(j:As.map Ent.v=us.map some)(ok:∀e∈As,Gr K H n e)(q:datas (As.map Ent.x)=some [g,d]):∃c f h i,us=[c,f]/\RdF K H c g h/\RdF K H f d i:=by
 have r:=Tg j q ok
 generalize As.flatMap Ent.F=G0 at r
 cases r with
 | cons a t =>
  cases t with
  | cons b t =>
   cases t
   exact ⟨_,_,_,_,rfl,a,b⟩
section
variable{P:Bl}{w:World}{K:PySem.W.Frag}{mg:Str->Option Value}{base:Heap}{k:Nat}{f:Addr}{c:Dc}{ps:List Str}
theorem AE(F:FnOk P w K mg base La k f c ps (V6 K)):FnOk P w K mg base La k f c ps (cF K j9):=by
 refine F.imp λS H Q E h=>?_
 obtain ⟨U,n,T,R,m,ok,q,v,l⟩:=h
 obtain ⟨a,b,rfl,i,g,p⟩:=v
 obtain ⟨O,L,N,M,rfl,y,C⟩:=p7 m ok q
 obtain ⟨u,rfl,A⟩:=oO y
 obtain ⟨B,rfl,j⟩:=oO C
 refine ⟨u,B,a,b,rfl,Ta.of A,Ta.of j,i,g,λr J t V I D G d s=>?_⟩
 have e:J=Ol (a++b):=iL (Yx D G) d
 subst e
 refine l (.ref r) _ [] t p (J0 I ?_) Dv (λ_ z=>(nomatch z)) s
 have:=kM (ns:=a++b) (λx o=>by
  rcases Aw.mp o with z | z
  ·exact i.2 x z
  ·exact g.2 x z)
 omega
end
end DL
namespace Nd
open PySem PySem.Spec PyProof.Rows L2
end Nd
namespace DL
open PySem PySem.Spec PyProof.Rows L2 Nd
end DL
namespace Nd
open PySem PySem.Spec PyProof.Rows
section
variable{prog:Bl}{w:World}{i:Type}[DecidableEq i](knd:HeapKind prog w i)
def DictE(h:Heap)(d:Addr)(xs:List (i×Addr×Value)):Prop :=
 ∃(o:Obj) (a:Array Gz) (b:Nat),h.get? d=some o/\o.ExactDict/\o.data=.dict a b/\a.toList=xs.map (Wl knd)/\(∀x∈xs,knd.is h x.1 x.2.1)/\(xs.map (·.1)).Nodup/\b=a.size
variable{knd}
theorem DictE.of{h:Heap}{d:Addr}{xs:List (i×Addr×Value)}(x:DictE knd h d xs):h.DictOfH knd d xs:=let ⟨o,es,ep,a,b,c,e,f,g,_⟩:=x; ⟨o,es,ep,a,b,c,e,f,g⟩
variable{A:Ce}{E:Value->Ai->Prop}{s:Ai}{d a:Addr}{xs:List (i×Addr×Value)}{k:i}{v:Value}
theorem wQ{xs:List (i×Addr×Value)}{k:i}{a:Addr}{v:Value}(d:(xs.map (·.1)).Nodup)(c:k∉xs.map (·.1)):((xs++[(k,a,v)]).map (·.1)).Nodup:=by
 rw[Bh,List.nodup_append]
 refine ⟨d,by simp,λx f y b e=>c ?_⟩
 rw[Ao,Py,Al] at b
 have b:y=k:=b
 rw[<- b,<- e]
 exact f
theorem zX{o:Obj}{es:Array Gz}{ep:Nat}{h:Heap}(f:h.get? d=some o)(g:o.ExactDict)(hd:o.data=.dict es ep)(i:es.toList=xs.map (Wl knd))(c:∀x∈xs,knd.is h x.1 x.2.1)(l:(xs.map (·.1)).Nodup)(e:ep=es.size)(b:knd.is h k a)(m:atKey xs k=none)(j:k∉xs.map (·.1)):DictE knd (h.update d (Obj.mapDictKeys λes=>es.push ⟨knd.hash k,.ref a,v⟩)) d (storedH xs k a v):=by
 rw[storedH_new m]
 refine ⟨_,_,ep+1,Eu _ f (Obj.isFreed_of_dict (Obj.data_mapDictKeys hd _)),g.mapDictKeys _,Obj.data_mapDictKeys hd _,by simp [i,Wl],λx n=>?_,wQ l j,by rw[e,Array.size_push]⟩
 rcases Aw.mp n with z | z
 ·exact knd.keeps (c x z) f hd (Bo ..)
 ·rw[Al.mp z]
  exact knd.keeps b f hd (Bo ..)
theorem aX{Q:Unit->Ai->Prop}(t:knd.room A)(b:knd.is s.heap k a)(B:DictE knd s.heap d xs)(q:∀h',DictE knd h' d (storedH xs k a v)->Ct d s.heap h'->Q () { s with heap:=h',toks:=s.toks+knd.draws k })(hz:xs.length<=Aq):wpAny (model prog w) A (dictSet d (.ref a) v) Q E s:=by
 obtain ⟨o,F,D,g,n,f,m,c,i,h⟩:=B
 unfold dictSet
 try with_reducible refine Ck ?_
 refine Aa (knd.pyHash t b ?_)
 unfold dictSetHashed
 try with_reducible refine Ck ?_
 refine Aa (wpAny_dictFind_heap (s:={ s with toks:=s.toks+knd.draws k }) t b g f m c i (λz=>?_) λj p r=>?_)
 ·exact Aa (Kk (wpAny_updateDictKeys (hz:=by have e:=size_of_entries m; omega) (s:={ s with toks:=s.toks+knd.draws k }) g f (q _ (zX g n f m c i h b (atKey_none_of_get z) (not_mem_keys_of_get z)) (Bo ..))))
 ·refine Aa (Kk (Aa (wpAny_updateDict (s:={ s with toks:=s.toks+knd.draws k }) g f (wpAny_point (q _ ?_ (Bo ..))))))
  rw[storedH_old (atKey_of_get i r)]
  refine ⟨_,_,D,Eu _ g (Obj.isFreed_of_dict (Obj.data_mapDict f _)),n.mapDict _,Obj.data_mapDict f _,?_,λx G=>?_,by rw[keys_map_putAt]; exact i,by rw[h]; simp⟩
  ·have u:=modify_map_putAt (Wl knd) (λe:Gz=>{ e with val:=v }) k v (λ_ _=>rfl) i r
   rw[<- m] at u
   obtain ⟨l⟩:=F
   simpa using u
  ·obtain ⟨y,C,rfl⟩:=Df.mp G
   unfold putAt
   split <;> exact knd.keeps (c y C) g f (Bo ..)
theorem setItemE{Q:Unit->Ai->Prop}(g:knd.room A.in1)(c:knd.is s.heap k a)(f:DictE knd s.heap d xs)(q:∀h',DictE knd h' d (storedH xs k a v)->Ct d s.heap h'->Q () { s with heap:=h',toks:=s.toks+knd.draws k })(hz:xs.length<=Aq):wpAny (model prog w) A (setItem (.ref d) (.ref a) v) Q E s:=by
 have e:=f.of.typeIs
 unfold setItem
 try with_reducible refine Ck ?_
 refine Aa (gE e (by decide) ?_)
 refine Aa (Cu (name:=Dq "__setitem__") e slot_dict_setitem (Cn slot_dict_setitem e entry_dict_setitem ?_ (args_dict_setitem _ _ _)))
 show wpAny _ _ (bind (Builtin.Dict.notOrdered "__setitem__" ⟨[.ref d,.ref a,v],[]⟩) _) _ _ s
 refine Aa (Pl e ?_)
 show wpAny _ _ (bind (dictSet d (.ref a) v) _) _ _ s
 exact Aa (aX g c f (λh' a b=>Ac ⟨.none,rfl,Ac (q h' a b)⟩) hz)
end
end Nd
namespace L2
open PySem PySem.Spec PyProof.Rows
section
variable{a:Type}[DecidableEq a]
def Yq(b:List (a×V))(k:a):Option V:=(b.find? λc=>decide (c.1=k)).map (·.2)
def Oj(b:List (a×V))(k:a)(v:V):List (a×V) :=
 if (b.any λc=>decide (c.1=k))=true then b.map (λc=>if c.1=k then (c.1,v) else c) else b++[(k,v)]
theorem Wv{p:a×V}{r:List (a×V)}{k:a}(e:p.1=k):Yq (p::r) k=some p.2:=by simp [Yq,Ik,e]
theorem Xb{p:a×V}{r:List (a×V)}{k:a}(e:¬ p.1=k):Yq (p::r) k=Yq r k:=by simp [Yq,Ik,e]
theorem kY(k:a):∀b:List (a×V),(b.any λkv=>decide (kv.1=k))=(Yq b k).isSome
 | []=>rfl
 | p::r=>by
  rw[Of]
  by_cases e:p.1=k
  ·simp only[Wv e,decide_eq_true e,Bool.true_or,Option.isSome_some]
  ·rw[Xb e,decide_eq_false e,Bool.false_or]; exact kY k r
theorem Qd(b:List (a×V))(k:a)(v:V):(Oj b k v).length<=b.length+1:=by
 unfold Oj
 split
 ·rw[Af]; omega
 ·rw[Bf,Bm,Ij]; omega
theorem oI.isSome_eq{o:Option V}{u:Option Value}(r:oI o u):o.isSome=u.isSome:=by
 cases o with
 | none=>cases u with
  | none=>rfl
  | some _=>exact (show False from r).elim
 | some _=>cases u with
  | none=>exact (show False from r).elim
  | some _=>rfl
theorem oI.getD{o:Option V}{u:Option Value}{d:V}{d':Value}(r:oI o u)(rd:RelV d d'):RelV (o.getD d) (u.getD d'):=by
 cases o with
 | none=>cases u with
  | none=>exact rd
  | some _=>exact (show False from r).elim
 | some _=>cases u with
  | none=>exact (show False from r).elim
  | some _=>exact r
theorem KV.val{c:List (a×V)}{vs:List (a×Value)}(r:KV c vs)(k:a):oI (Yq c k) (valueAt vs k):=by
 unfold KV at r
 induction r with
 | nil=>exact Jq
 | @cons p q l d h t j =>
  obtain ⟨g,i⟩:=h
  by_cases e:p.1=k
  ·have f:q.1=k:=g.symm.trans e
   have b:valueAt (q::d) k=some q.2:=by simp [valueAt,Ik,f]
   rw[Wv e,b]; exact i
  ·have f:¬ q.1=k:=λz=>e (g.trans z)
   have b:valueAt (q::d) k=valueAt d k:=by simp [valueAt,Ik,f]
   rw[Xb e,b]; exact j
theorem KV.any{b:List (a×V)}{vs:List (a×Value)}(r:KV b vs)(k:a):(b.any λkv=>decide (kv.1=k))=vs.any λkv=>decide (kv.1=k):=by
 unfold KV at r
 induction r with
 | nil=>rfl
 | cons h t c=>rw[Of,Of,c,h.1]
theorem KV.repl{b:List (a×V)}{vs:List (a×Value)}(r:KV b vs)(k:a){y:V}{u:Value}(g:RelV y u):KV (b.map λkv=>if kv.1=k then (kv.1,y) else kv) (vs.map λkv=>if kv.1=k then (kv.1,u) else kv):=by
 unfold KV at r ⊢
 induction r with
 | nil=>exact .nil
 | @cons p q i j h t f =>
  rw[Ao,Ao]
  refine .cons ?_ f
  obtain ⟨c,d⟩:=h
  by_cases e:p.1=k
  ·rw[if_pos e,if_pos (c.symm.trans e)]; exact ⟨c,g⟩
  ·rw[if_neg e,if_neg (λz=>e (c.trans z))]; exact ⟨c,d⟩
theorem KV.put{b:List (a×V)}{vs:List (a×Value)}(r:KV b vs)(k:a){y:V}{u:Value}(c:RelV y u):KV (Oj b k y) (stored vs k u):=by
 unfold Oj stored
 rw[r.any k]
 by_cases e:(vs.any λd=>decide (d.1=k))=true
 ·rw[if_pos e,if_pos e]; exact r.repl k c
 ·rw[if_neg e,if_neg e]; exact Paired.snoc r ⟨rfl,c⟩
theorem KV.length{b:List (a×V)}{vs:List (a×Value)}(r:KV b vs):b.length=vs.length:=Paired.length r
end
theorem sW{P:Bl}{w:World}{k:Jo}{u:Value}(r:RelV (kV k) u):(Hn P w).is k u=true:=by
 cases k with
 | inl i=>obtain ⟨t,e⟩:=(show ∃t,u=Lb i t from r); subst e; exact lP P w i t
 | inr x=>obtain ⟨t,e⟩:=(show ∃t,u=Value.str x t from r); subst e; exact kI P w x t
theorem eV{P:Bl}{w:World}:∀{ks:List Jo} {us:List Value},Gf (ks.map kV) us->ItemsAre (Hn P w) ks us
 | [],_,r=>by rw[Py] at r; cases r; exact .nil
 | k::ks,_,r=>by
  rw[Ao] at r
  cases r with
  | cons h t=>exact .cons (sW h) (eV t)
abbrev KT(H:Hp):List (List Jo×V)->List (List Jo×Addr×Value)->Prop:=Paired λp q=>p.1=q.1/\H q.2.1=some (.tup (p.1.map kV))/\RelV p.2 q.2.2
theorem KT.val{H:Hp}{a:List (List Jo×V)}{xs:List (List Jo×Addr×Value)}(r:KT H a xs)(k:List Jo):oI (Yq a k) ((atKey xs k).map (·.2)):=by
 induction r with
 | nil=>exact Jq
 | @cons p q j c h t i =>
  obtain ⟨f,_,g⟩:=h
  by_cases e:p.1=k
  ·have d:q.1=k:=f.symm.trans e
   have b:atKey (q::c) k=some q.2:=by simp [atKey,Ik,d]
   rw[Wv e,b]; exact g
  ·have d:¬ q.1=k:=λz=>e (f.trans z)
   have b:atKey (q::c) k=atKey c k:=by simp [atKey,Ik,d]
   rw[Xb e,b]; exact i
theorem KT.repl{H:Hp}{a:List (List Jo×V)}{xs:List (List Jo×Addr×Value)}(r:KT H a xs)(k:List Jo){y:V}{u:Value}(f:RelV y u):KT H (a.map λkv=>if kv.1=k then (kv.1,y) else kv) (xs.map (putAt k u)):=by
 induction r with
 | nil=>exact .nil
 | @cons p q i j h t d =>
  rw[Ao,Ao]
  refine .cons ?_ d
  obtain ⟨b,c,g⟩:=h
  unfold putAt
  by_cases e:p.1=k
  ·rw[if_pos e,if_pos (b.symm.trans e)]; exact ⟨b,c,f⟩
  ·rw[if_neg e,if_neg (λz=>e (b.trans z))]; exact ⟨b,c,g⟩
theorem KT.put{H:Hp}{a:List (List Jo×V)}{xs:List (List Jo×Addr×Value)}(r:KT H a xs)(k:List Jo){b:Addr}{y:V}{u:Value}(hb:H b=some (.tup (k.map kV)))(c:RelV y u):KT H (Oj a k y) (storedH xs k b u):=by
 have e:(a.any λd=>decide (d.1=k))=(atKey xs k).isSome:=by
  rw[kY,(r.val k).isSome_eq,Option.isSome_map]
 unfold Oj storedH
 rw[e]
 by_cases q:(atKey xs k).isSome=true
 ·rw[if_pos q,if_pos q]; exact r.repl k c
 ·rw[if_neg q,if_neg q]; exact Paired.snoc r ⟨rfl,hb,c⟩
theorem KT.keeps{H c:Hp}{a:List (List Jo×V)}{xs:List (List Jo×Addr×Value)}(r:KT H a xs)(d:∀b ys,H b=some (.tup ys)->c b=some (.tup ys)):KT c a xs :=
 Paired.mapP r λ_ _ z=>⟨z.1,d _ _ z.2.1,z.2.2⟩
section
variable{P:Bl}{w:World}{H:Hp}{h:Heap}{a:Addr}
theorem zU{u:HO}(ok:Vh P w H h)(e:Rd H a u):Hl P w H h a u:=e.ok ok
theorem nQ{b:List (Jo×V)}(ok:Vh P w H h)(e:Rd H a (.dK b)):b.length<=Aq/\(a == Gm)=false/\∃vs,KV b vs/\h.DictOf (Hn P w) a vs :=
 show Hl P w H h a (.dK b) from zU ok e
theorem FI{b:List (Jo×V)}(ok:Vh P w H h)(e:H a=some (.dK b)):b.length<=Aq/\(a == Gm)=false/\∃vs,KV b vs/\h.DictOf (Hn P w) a vs:=nQ ok (.inl e)
theorem Vv{ks:List Jo}(ok:Vh P w H h)(e:H a=some (.tup (ks.map kV))):(Ng (Hn P w)).is h ks a:=by
 obtain ⟨_,b,r,o,c,d,n,f⟩:=(show Hl P w H h a (.tup (ks.map kV)) from ok a _ e)
 exact ⟨o,b.toArray,n,c,d,f,by simpa using eV r⟩
theorem rW{b:List (List Jo×V)}(ok:Vh P w H h)(e:Rd H a (.dT b)):b.length<=Aq/\(a == Gm)=false/\∃xs,KT H b xs/\h.DictOfH (Ng (Hn P w)) a xs:=by
 obtain ⟨z,y,xs,r,o,n,j,g,d,k,i,s,u⟩:=(show Hl P w H h a (.dT b) from zU ok e)
 refine ⟨z,y,xs,r,o,n,j,g,d,k,i,λx hx=>?_,s⟩
 have all:∀{l:List (List Jo×V)} {m:List (List Jo×Addr×Value)},KT H l m->∀x∈m,(Ng (Hn P w)).is h x.1 x.2.1:=by
  intro l m q
  induction q with
  | nil=>intro x hx; exact nomatch hx
  | @cons p q v A c t f =>
   intro x hx
   rcases An.mp hx with e | hx
   ·subst e
    exact Vv ok (by rw[<- c.1]; exact c.2.1)
   ·exact f x hx
 exact all r x hx
theorem jP{b:List (List Jo×V)}(ok:Vh P w H h)(e:Rd H a (.dT b)):b.length<=Aq/\(a == Gm)=false/\∃xs,KT H b xs/\Nd.DictE (Ng (Hn P w)) h a xs:=by
 obtain ⟨z,y,xs,r,o,s,k,i,d,n,j,u,g⟩:=(show Hl P w H h a (.dT b) from zU ok e)
 refine ⟨z,y,xs,r,o,s,k,i,d,n,j,λx hx=>?_,u,g⟩
 have all:∀{l:List (List Jo×V)} {m:List (List Jo×Addr×Value)},KT H l m->∀x∈m,(Ng (Hn P w)).is h x.1 x.2.1:=by
  intro l m q
  induction q with
  | nil=>intro x hx; exact nomatch hx
  | @cons p q v A c t f =>
   intro x hx
   rcases An.mp hx with e | hx
   ·subst e
    exact Vv ok (by rw[<- c.1]; exact c.2.1)
   ·exact f x hx
 exact all r x hx
end
def qW(H:Hp)(a:Addr)(y:V)(r:Option V):Prop :=
 (∃c k,Rd H a (.dK c)/\y=kV k/\r=Yq c k)\/∃c k b,Rd H a (.dT c)/\y=.ref b/\H b=some (.tup (k.map kV))/\r=Yq c k
def Y3(H:Hp)(a:Addr)(y v:V)(d:Hp):Prop :=
 (∃c k,H a=some (.dK c)/\y=kV k/\c.length<Aq/\d=upd H a (.dK (Oj c k v))) \/
 ∃c k b,H a=some (.dT c)/\y=.ref b/\H b=some (.tup (k.map kV))/\c.length<Aq/\d=upd H a (.dT (Oj c k v))
theorem qW.t{H:Hp}{a b:Addr}{c:List (List Jo×V)}{k:List Jo}(e:H a=some (.dT c))(d:H b=some (.tup (k.map kV))):qW H a (.ref b) (Yq c k):=.inr ⟨c,k,b,.inl e,rfl,d,rfl⟩
theorem Y3.t{H:Hp}{a b:Addr}{c:List (List Jo×V)}{k:List Jo}{v:V}(e:H a=some (.dT c))(d:H b=some (.tup (k.map kV)))(f:c.length<Aq):Y3 H a (.ref b) v (upd H a (.dT (Oj c k v))):=.inr ⟨c,k,b,e,rfl,d,f,rfl⟩
section
variable{X:Cx}{d:List (Addr×Obj)}{f:St}{H:Hp}{s:Ai}{a:Addr}{y v:V}{u r:Value}{o:Option V}{A:Ce}{E:Value->Ai->Prop}
theorem Inv.big(I:Inv X d f H s):Gm<s.heap.objs.size:=by
 have h:Dg<s.heap.objs.size:=(I.mod.glob.keeps I.bk).lt
 exact Uz (by decide) h
theorem uY{Q:Value->Ai->Prop}(D:A.units+1<cLine)(I:Inv X d f H s)(g:qW H a y (some v))(x:RelV y u)(h:∀j s',Inv X d f H s'->RelV v j->Q j s'):wpAny (model X.prog X.w) A (Ud (.ref a) u) Q E s:=by
 rcases g with ⟨r,k,e,q,l⟩ | ⟨r,k,b,e,q,C,l⟩
 ·subst q
  obtain ⟨z,G,vs,i,t⟩:=nQ I.hok e
  obtain ⟨j,m,c⟩:=oI.some_of (v:=v) (o:=valueAt vs k) (by rw[l]; exact i.val k)
  exact wpAny_getItem_of (sW x) t.mapOf m (h j _ (I.tok _) c)
 ·subst q
  cases (show u=Ay b from x)
  obtain ⟨z,G,F,i,t⟩:=rW I.hok e
  obtain ⟨j,m,c⟩:=oI.some_of (v:=v) (o:=(atKey F k).map (·.2)) (by rw[l]; exact i.val k)
  obtain ⟨p,B,n⟩:=Option.map_eq_some_iff.mp m
  refine wpAny_getItem_heap (dM D) (Vv I.hok C) t B ?_
  rw[n]
  exact h j _ (I.tok _) c
theorem aQ{h':Heap}{t':Nat}{g:HO}(I:Inv X d f H s)(k:DM (H a))(j:Ct a s.heap h')(i:∃q,h'.get? a=some q)(c:Hl X.prog X.w (upd H a g) h' a g):Inv X d f (upd H a g) { s with heap:=h',toks:=t' } :=
 I.write (x:=a) (e:=a) k (.inl rfl) (λb q h z=>(j.2 b h).trans z) i c
theorem Y4{P:Bl}{w:World}{e:Hp}{h':Heap}{b:List (Jo×V)}{vs:List (Jo×Value)}(z:b.length<=Aq)(hd:(a == Gm)=false)(c:KV b vs)(d:h'.DictOf (Hn P w) a vs):Hl P w e h' a (.dK b):=⟨z,hd,vs,c,d⟩
theorem wB{G:Hp}{Q:Unit->Ai->Prop}(O:A.units+1<cLine)(I:Inv X d f H s)(g:Y3 H a y v G)(D:RelV y u)(K:RelV v r)(h:∀s',Inv X d f G s'->Q () s'):wpAny (model X.prog X.w) A (setItem (.ref a) u r) Q E s:=by
 rcases g with ⟨i,k,e,t,l,B⟩ | ⟨i,k,b,e,t,L,l,B⟩
 ·subst t B
  obtain ⟨z,C,vs,j,x⟩:=FI I.hok e
  have hz:vs.length<=Aq:=by rw[<- j.length]; exact z
  have p:(Oj i k v).length<=Aq:=by have:=Qd i k v; omega
  refine wpAny_setItem_pairs (hsz:=hz) (sW D) x λJ m o=>h _ ?_
  have R:∃q,J.get? a=some q:=let ⟨q,_,_,n,_⟩:=m; ⟨q,n⟩
  exact aQ I (by rw[e]; exact Jq) o R (Y4 p C (j.put k K) m)
 ·subst t B
  cases (show u=Ay b from D)
  obtain ⟨z,C,S,j,x⟩:=jP I.hok (.inl e)
  have hz:S.length<=Aq:=by rw[<- Paired.length j]; exact z
  have p:(Oj i k v).length<=Aq:=by have:=Qd i k v; omega
  refine Nd.setItemE (hz:=hz) (dM O) (Vv I.hok L) x λJ m o=>h _ ?_
  obtain ⟨q,P,V,n,M,T,N,_,U⟩:=m
  refine aQ I (by rw[e]; exact Jq) o ⟨q,n⟩ ⟨p,C,_,(j.put k L K).keeps λc W F=>?_,q,P,V,n,M,T,N,U⟩
  rw[Dr (B4 F e (λz=>nomatch z))]
  exact F
end
def BE(i:Expr):Prop:=∀a b,subscripted i false a b=operate [a,b] (Ud a b)
theorem G4{prog:Bl}{w:World}{A:Ce}{E:Value->Ai->Prop}{s:Ai}{env:Env}{b a:Expr}{pos:Pos}{T id:String}{Q:Value->Ai->Prop}(m:dJ (.type T) "__getitem__" = pure (some (.builtin id)))(n:BE a)(h:wpAny (model prog w) A (eval b env) (λo e=>wpAny (model prog w) A (eval a env) (λi c=>c.TypeIs o T/\wpAny (model prog w) A (Ud o i) Q E c) E e) E s):wpAny (model prog w) A (eval (.Subscript b a pos) env) Q E s:=by
 refine Subscript_ (Cq h (λo e k=>Cq k (λi c d=>?_) λ_ _ x=>x) λ_ _ x=>x)
 obtain ⟨l,d⟩:=d
 unfold subscriptTail
 refine Aa ?_
 rw[getitemInPython_of_ne l.not_modules]
 refine Aa (wpAny_specialOf l m ?_)
 have g:wpAny (model prog w) A (subscripted a false o i) (λr f=>wpAny (model prog w) A (letTemporaryGo b o r >>= λ_=>pure r) Q E f) E c:=by
  rw[n o i]
  exact wpAny_operating (Cq d (λr f j=>Aa (wpAny_letTemporaryGo (Ac j))) λ_ _ x=>x)
 first
  | exact Ac (Aa g)
  | exact Aa (Ac (Aa g))
  | exact Aa g
theorem kT{X:Cx}{c:List (Addr×Obj)}{h:St}{H:Hp}{s:Ai}{a:Addr}{y:V}{o:Option V}(I:Inv X c h H s)(g:qW H a y o):s.TypeIs (.ref a) "dict" := by
 rcases g with ⟨d,k,e,_,_⟩ | ⟨d,k,b,e,_,_,_⟩
 ·obtain ⟨_,_,vs,_,f⟩:=nQ I.hok e
  exact f.typeIs
 ·obtain ⟨_,_,i,_,f⟩:=rW I.hok e
  exact f.typeIs
def GB(e ty:TE):TE:=λb H Q=>e b H λx d=>ty b d λy c=>∃a v,x=.ref a/\qW c a y (some v)/\Q v c
def GG(g ty h:TE):TS:=λD b H=>h b H λv f=>g b f λx d=>ty b d λy e=>∃a c,x=.ref a/\Y3 e a y v c/\D.nx b c
section
variable{X:Cx}{o i e b:Expr}{pos c f:Pos}{d ty j:TE}
theorem F6(m:X.A.units+1<cLine)(C:PE X o d)(p:PE X i ty)(n:BE i):PE X (.Subscript o i pos) (GB d ty):=by
 intro b s f H Q I h
 refine G4 PySem.F.slot_dict_getitem.lookup n (Gb (C b s f H _ I h) λu E ⟨x,D,B,w,q⟩=>Gb (p b E f D _ B q) λK G e => ?_)
 obtain ⟨y,k,j,l,a,v,r,g,z⟩ := e
 subst r
 obtain rfl:u=Ay a:=w
 exact ⟨kT j g,uY m j g l λJ L t c=>⟨v,k,t,c,z⟩⟩
theorem N8(m:X.A.units+1<cLine)(J:PE X o d)(t:PE X i ty)(O:PE X b j)(n:Nh b (some (.Subscript o i c)) pos.line X.env=pure false):PS X (.Assign [.Subscript o i c] b pos) (GG d ty j):=by
 intro e s f H D I h
 refine wpAny_Assign_Subscript (Gb (O e s f H _ I h) λr M ⟨v,K,F,G,w⟩=>Gb (J e M f K _ F w) λu p ⟨x,k,N,C,E⟩=>Gb (t e p f k _ N E) λR S ⟨y,Q,B,l,a,P,z,g,L⟩=>?_) n
 subst z
 obtain rfl:u=Ay a:=C
 exact wB m B g l G λT q=>⟨f,P,q,L⟩
end
theorem lT{P:Bl}{w:World}{H:Hp}(h:Heap)(hb:Gm<h.objs.size):Hl P w H (h.push { cls:=.type "dict",data:=.dict #[] }) h.objs.size (.dT []) :=
 ⟨Di _,beq_eq_false_iff_ne.mpr (Ln (Bu hb)),[],.nil,_,#[],0,Ap _ rfl,⟨rfl,rfl,rfl⟩,rfl,rfl,Dv,rfl⟩
structure M1(X:Cx)(o:Expr)(m:Str)(apos:Pos)(e:Expr)(cpos:Pos):Prop where
 base:Mr o m X.env (eval o X.env)=eval o X.env
 few:((Hj cpos (Bn [e] X.env)).all (λx=>!x.1) && (backToKw cpos (Zp [] X.env)).all (λx=>x.1.isSome)
  && decide (([e]:List Expr).length+([]:List Uh).length+(if ([]:List Uh).isEmpty then 0 else 1)<30))=true
 line:(apos.endLine == cpos.line)=true
 trees:Hj cpos (Bn [e] X.env)=[(false,eval e X.env)]
structure M2(X:Cx)(o:Expr)(m:Str)(apos:Pos)(e f:Expr)(cpos:Pos):Prop where
 base:Mr o m X.env (eval o X.env)=eval o X.env
 few:((Hj cpos (Bn [e,f] X.env)).all (λx=>!x.1) && (backToKw cpos (Zp [] X.env)).all (λx=>x.1.isSome)
  && decide (([e,f]:List Expr).length+([]:List Uh).length+(if ([]:List Uh).isEmpty then 0 else 1)<30))=true
 line:(apos.endLine == cpos.line)=true
 trees:Hj cpos (Bn [e,f] X.env)=[(false,eval e X.env),(false,eval f X.env)]
def JR(H:Hp)(a:Addr):Prop:=(∃b,Rd H a (.dK b))\/∃b,Rd H a (.dT b)
theorem u4{X:Cx}{f:List (Addr×Obj)}{l:St}{H:Hp}{s:Ai}{a:Addr}(I:Inv X f l H s)(d:JR H a):s.TypeIs (.ref a) "dict" /\ (∀b,Ay a=.ref b->∃c,s.heap.get? b=some c/\c.dict=none)/\(a == Gm)=false:=by
 rcases d with ⟨j,e⟩ | ⟨j,e⟩
 ·obtain ⟨_,k,vs,_,g⟩:=nQ I.hok e
  refine ⟨g.typeIs,λb q=>?_,k⟩
  cases q
  obtain ⟨c,_,_,i,h,_⟩:=g
  exact ⟨c,i,h.2.1⟩
 ·obtain ⟨_,k,m,_,g⟩:=rW I.hok e
  refine ⟨g.typeIs,λb q=>?_,k⟩
  cases q
  obtain ⟨c,_,_,i,h,_⟩:=g
  exact ⟨c,i,h.2.1⟩
section
variable{X:Cx}{c:List (Addr×Obj)}{f:St}{H:Hp}{s:Ai}{a:Addr}{y d:V}{u r:Value}{o:Option V}{A:Ce}{E:Value->Ai->Prop}
theorem AH{Q:Value->Ai->Prop}(x:A.units+1<cLine)(I:Inv X c f H s)(g:qW H a y o)(q:RelV y u)(rd:RelV d r)(h:∀t s',Inv X c f H s'->RelV (o.getD d) t->Q t s'):wpAny (model X.prog X.w) A (call (.builtin "dict.get") [.ref a,u,r]) Q E s:=by
 rcases g with ⟨n,k,e,m,l⟩ | ⟨n,k,b,e,m,v,l⟩
 ·subst m
  obtain ⟨z,p,vs,i,j⟩:=nQ I.hok e
  refine call_meetsIn PySem.F.slot_dict_get j.typeIs PySem.F.entry_dict_get (PySem.F.args_dict_get_3 _ _ _) (meets_dict_get_default (Hn X.prog X.w) a (sW q) p r) ⟨_,j.mapOf,h _ _ (I.tok _) ?_⟩
  rw[l]
  exact (i.val k).getD rd
 ·subst m
  cases (show u=Ay b from q)
  obtain ⟨z,p,B,i,j⟩:=rW I.hok e
  refine call_meetsIn PySem.F.slot_dict_get j.typeIs PySem.F.entry_dict_get (PySem.F.args_dict_get_3 _ _ _) (meetsH_dict_get_default (Ng (Hn X.prog X.w)) a b p r) ⟨dM x,k,B,Vv I.hok v,j,h _ _ (I.tok _) ?_⟩
  rw[l]
  exact (i.val k).getD rd
end
def B9(g ty f:TE):TE:=λb H Q=>g b H λx d=>∃a,x=.ref a/\JR d a/\ty b d λy e=>f b e λz c=>∃o,qW c a y o/\Q (o.getD z) c
section
variable{X:Cx}{o e f:Expr}{c b:Pos}{i ty j:TE}
theorem C3(v:X.A.units+1<cLine)(O:PE X o i)(N:PE X e ty)(P:PE X f j)(m:M2 X o "get" c e f b):PE X (.Call (.Attribute o "get" c) [e,f] [] b) (B9 i ty j):=by
 intro k s l H Q I h
 refine wpAny_Call_method m.base m.few m.line PySem.F.plainAttrs_dict PySem.F.slot_dict_get PySem.F.type_dict_get (Gb (O k s l H _ I h) λu T p => ?_)
 obtain ⟨x,S,q,K,a,E,d,C⟩ := p
 subst E
 obtain rfl:u=Ay a:=K
 obtain ⟨G,D,_⟩:=u4 q d
 refine ⟨G,D,?_⟩
 rw[m.trees]
 refine Mt rfl (Vl (Lz (Gb (N k T l S _ q C) λZ w ⟨y,r,V,t,L⟩ =>
  Lz (Gb (P k w l r _ V L) λfv s3 ⟨z,M,J,U,W,g,R⟩=>Rn ?_))))
 exact AH v J g t U λY s4 B n=>⟨_,M,B,n,R⟩
end
end L2
namespace Nd
open PySem PySem.Spec PyProof.Rows L2
end Nd
namespace DL
open PySem PySem.Spec PyProof.Rows L2 Nd
def Xc(ks:List (List Int×Ae))(w:List Int):Option Ae:=(ks.find? λp=>decide (p.1=w)).map (·.2)
def Rh(ks:List (List Int×Ae))(w:List Int)(d:Ae):List (List Int×Ae) :=
 if (ks.any λp=>decide (p.1=w))=true then ks.map (λp=>if p.1=w then (p.1,d) else p) else ks++[(w,d)]
theorem aS{c i:Type}{f:c->i}(d:∀a b,f a=f b->a=b):∀{l m:List c},l.map f=m.map f->l=m
 | [],[],_=>rfl
 | [],_::_,h=>by cases h
 | _::_,[],h=>by cases h
 | a::l,b::m,h=>by
  obtain ⟨g,e⟩:=Ie h
  rw[d a b g,aS d e]
theorem Ti{a b:List Int}(h:Br a=Br b):a=b:=aS (λx y e=>by cases e; rfl) (PyData.tuple.inj h)
theorem Ju{a b:List (List Int×Ae)}(h:Ou a=Ou b):a=b:=aS (λx y e=>by
 obtain ⟨d,c⟩:=Prod.mk.inj e
 exact Prod.ext (Ti d) c) (Ie h).2
theorem bV{a b:List Int}(h:Lc a=Lc b):a=b:=aS (λx y e=>by cases e; rfl) h
theorem iB(w:List Int):(Lc w).map kV=w.map V.int:=by
 unfold Lc
 rw[Dn]
 rfl
section
variable{K:PySem.W.Frag}{H b:Hp}
structure DRel(K:PySem.W.Frag)(H:Hp)(kv:List (List Jo×V))(ks:List (List Int×Ae)):Prop where
 key:kv.map (·.1)=ks.map λp=>Lc p.1
 val:RdFs K H (kv.map (·.2)) (ks.map (·.2)) []
theorem RdF.dict_inv{v:V}{X:List (Ae×Ae)}{F:List Addr}(h:RdF K H v (.dict X) F):∃a kv ks,v=.ref a/\X=Ou ks/\H a=some (.dT kv)/\DRel K H kv ks/\F=[a]:=by
 cases h with
 | dic h e b=>exact ⟨_,_,_,rfl,rfl,h,⟨e,b⟩,rfl⟩
theorem RdFs.cons_nil{x:V}{d:Ae}{xs:List V}{ds:List Ae}{F:List Addr}(h:RdFs K H (x::xs) (d::ds) F)(b:F=[]):RdF K H x d []/\RdFs K H xs ds []:=by
 cases h with
 | cons a t =>
  obtain ⟨rfl,rfl⟩:=Ug.mp b
  exact ⟨a,t⟩
theorem Rf{kv:List (List Jo×V)}{ks:List (List Int×Ae)}(r:DRel K H kv ks):kv.length=ks.length:=by
 have:=congrArg Ft r.key
 simpa using this
theorem bS(w:List Int):∀{kv:List (List Jo×V)} {ks:List (List Int×Ae)},DRel K H kv ks->(Yq kv (Lc w)=none/\Xc ks w=none)\/∃v d,Yq kv (Lc w)=some v/\Xc ks w=some d/\RdF K H v d []
 | [],[],_=>.inl ⟨rfl,rfl⟩
 | [],_::_,r=>by cases r.key
 | _::_,[],r=>by cases r.key
 | (k,v)::kv,(u,d)::ks,r=>by
  obtain ⟨a,b⟩:=Ie r.key
  have a:k=Lc u:=a
  obtain ⟨e,c⟩:=RdFs.cons_nil r.val rfl
  by_cases h:u=w
  ·subst h a
   refine .inr ⟨v,d,Wv rfl,by simp [Xc],e⟩
  ·have f:¬ k=Lc w:=λz=>h (bV (a.symm.trans z))
   rw[Xb f,show Xc ((u,d)::ks) w=Xc ks w by simp [Xc,h]]
   exact bS w ⟨b,c⟩
theorem yJ(w:List Int){kv:List (List Jo×V)}{ks:List (List Int×Ae)}(r:DRel K H kv ks):(kv.any λp=>decide (p.1=Lc w))=(ks.any λp=>decide (p.1=w)):=by
 have a:(kv.any λp=>decide (p.1=Lc w))=((kv.map (·.1)).any λk=>decide (k=Lc w)):=by rw[aF]; rfl
 rw[a,r.key,aF]
 congr 1
 funext p
 exact decide_eq_decide.mpr ⟨λz=>bV z,λz=>by show Lc p.1=Lc w; rw[z]⟩
theorem gB(w:List Int){v:V}{d:Ae}(c:RdF K H v d []):∀{kv:List (List Jo×V)} {ks:List (List Int×Ae)},DRel K H kv ks->DRel K H (kv.map λp=>if p.1=Lc w then (p.1,v) else p) (ks.map λp=>if p.1=w then (p.1,d) else p)
 | [],[],r=>r
 | [],_::_,r=>by cases r.key
 | _::_,[],r=>by cases r.key
 | (k,v')::kv,(u,d')::ks,r=>by
  obtain ⟨a,e⟩:=Ie r.key
  have a:k=Lc u:=a
  obtain ⟨g,f⟩:=RdFs.cons_nil r.val rfl
  have b:=gB w c (kv:=kv) (ks:=ks) ⟨e,f⟩
  rw[Ao,Ao]
  by_cases h:u=w
  ·rw[if_pos (show k=Lc w by rw[a,h]),if_pos h]
   exact ⟨by rw[Ao,Ao,b.key]; exact congrArg (·::_) a,RdFs.cons (F:=[]) (G:=[]) c b.val⟩
  ·have i:¬ k=Lc w:=λz=>h (bV (a.symm.trans z))
   rw[if_neg (show ¬ (k,v').1=Lc w from i),if_neg (show ¬ (u,d').1=w from h)]
   exact ⟨by rw[Ao,Ao,b.key]; exact congrArg (·::_) a,RdFs.cons (F:=[]) (G:=[]) g b.val⟩
theorem mL(w:List Int){v:V}{d:Ae}(a:RdF K H v d []){kv:List (List Jo×V)}{ks:List (List Int×Ae)}(r:DRel K H kv ks):DRel K H (Oj kv (Lc w) v) (Rh ks w d):=by
 unfold Oj Rh
 rw[yJ w r]
 split
 ·exact gB w a r
 ·refine ⟨by rw[Bh,Bh,r.key]; rfl,?_⟩
  rw[Bh,Bh]
  exact r.val.snoc a
theorem DRel.kp{kv:List (List Jo×V)}{ks:List (List Int×Ae)}(r:DRel K H kv ks)(k:Kp [] H b):DRel K b kv ks:=⟨r.key,r.val.kp k⟩
end
def DZ:R2:=λx y H Q=>∃a v,x=.ref a/\qW H a y (some v)/\Q v H
def jO:D2:=λx y P=>match x,y with
 | .dat _ (.dict X),.dat _ k=>∃a w d,X=Ou a/\k=Br w/\Xc a w=some d/\P (.dat .ow d)
 | _,_=>False
section
variable{K:PySem.W.Frag}
theorem Ui{H:Hp}{v:V}{w:List Int}{F:List Addr}(r:RdF K H v (Br w) F):∃b,v=.ref b/\H b=some (.tup ((Lc w).map kV)):=by
 obtain ⟨b,d,rfl,a,c,_⟩:=r.tup_inv
 obtain ⟨rfl,_⟩:=c.ints_inv
 exact ⟨b,rfl,by rw[iB]; exact a⟩
theorem N3:qZ K DZ jO:=by
 intro A X n S T x y v w F G H Q P g e k
 unfold jO at e
 split at e
 ·obtain ⟨B,u,d,rfl,rfl,c,p⟩:=e
  obtain ⟨b,rfl,i⟩:=Ui (g.told mem_mid)
  obtain ⟨a,C,l,rfl,o,q,f,_⟩:=(g.told Fd).dict_inv
  obtain rfl:=Ju o
  rcases bS u f with ⟨_,z⟩ | ⟨r,s,j,h,m⟩
  ·rw[z] at c; cases c
  ·rw[h] at c; cases c
   exact ⟨a,r,rfl,j▸qW.t q i,k _ _ [] H (g.drop2.pushI m) p⟩
 ·exact e.elim
end
section
variable{X:Cx}{a b:Expr}{d c:DE}{pos:Pos}
theorem HL{n:Nat}(a:n+64<cLine):n+1<cLine:=by omega
theorem aP(f:X.A.units+64<cLine)(e:Fm X a d)(hb:Fm X b c)(g:BE b:=by intro _ _; rfl):Fm X (.Subscript a b pos) (aI jO d c):=PE.imp (F6 (HL f) e hb g) (lY N3)
end
theorem At.newD{K:PySem.W.Frag}{d H:Hp}{X:Addr->Prop}{n:Nat}{S T:List Ent}{p:Addr}(h:At K d X n (S++T) H)(c:H p=none):At K d X n (S++⟨some (.ref p),.dat .ow (.dict (Ou [])),[p]⟩::T) (upd H p (.dT [])):=by
 have j:=Fe c (.dT [])
 refine ((h.grow (n':=n) j (Aj _)).push (e:=⟨some (.ref p),.dat .ow (.dict (Ou [])),[p]⟩) ⟨_,rfl,.dic Ds rfl .nil,λ_=>Co.mpr ⟨Bd,Dv⟩,λz=>nomatch z⟩ (λf i=>?_) λa b=>?_).tomid
 ·have g:=h.free c f i
  refine ⟨λ_ a b z=>?_,λ_ a b z=>?_⟩
  ·rw[Al.mp b] at z
   exact g z
  ·rw[Al.mp z] at b
   exact g (Gu _ _ b)
 ·rw[Al.mp b]
  exact .inl (h.new0 c)
theorem At.writeD{K:PySem.W.Frag}{l H:Hp}{X:Addr->Prop}{n:Nat}{E:List Ent}{v:Option V}{ks ks':List (List Int×Ae)}{a:Addr}{kv':List (List Jo×V)}(h:At K l X n (⟨v,.dat .ow (.dict (Ou ks)),[a]⟩::E) H)(C:v=some (.ref a))(np:∀e∈E,Pu e.x=false)(r:DRel K H kv' ks'):At K l X n (⟨v,.dat .ow (.dict (Ou ks')),[a]⟩::E) (upd H a (.dT kv')):=by
 obtain ⟨w,N,rd,J,G⟩:=h.ok _ Ab
 obtain ⟨b,L,u,M,I,D,_,s⟩:=rd.dict_inv
 have m:[a]=[b]:=s
 cases m
 have g:=Bb.mp h.sep
 have kp:∀{j:List Addr},a∉j->Kp j H (upd H a (.dT kv')):=λ{j} B b o q z=>by
  have : b≠a:=by
   rintro rfl
   rw[D] at q
   cases q
   rcases z with z | z
   ·exact B z
   ·rcases z with ⟨_,z⟩ | ⟨_,_,z⟩ <;> cases z
  rw[Dr this]
  exact q
 have i:l a=none:=by
  rcases h.new _ Ab a Ab with z | z
  ·exact z
  ·cases z.2
 refine ⟨λf hf=>?_,Bb.mpr ⟨λf hf=>⟨λp c d=>(g.1 f hf).1 (.inl (np f hf)) c d,λp c d=>(g.1 f hf).2 (.inl rfl) c d⟩,g.2⟩,λf hf=>?_,λb o F q=>?_,λb o q=>?_,λb y=>?_⟩
 ·rcases An.mp hf with rfl | hf
  ·exact ⟨.ref a,C,.dic Ds r.key (r.val.kp (kp Bd)),λ_=>Co.mpr ⟨Bd,Dv⟩,λz=>nomatch z⟩
  ·exact (h.ok f (Ad _ hf)).kp (kp ((g.1 f hf).1 (.inl (np f hf)) a Ab)) (Aj _)
 ·rcases An.mp hf with rfl | hf
  ·exact λc d=>h.new _ Ab c d
  ·exact h.new f (Ad _ hf)
 ·rw[Dr (Fn q i)]
  exact h.same b o F q
 ·rw[Dr (Fn q i)]
  exact h.dom b o q
 ·obtain ⟨z,c,k,f,A,t⟩:=h.xd b y
  refine ⟨z,c,k,f,(Dr ?_).trans A,t⟩
  rintro rfl
  exact z i
theorem oB{K:PySem.W.Frag}{q H:Hp}{X:Addr->Prop}{S T:List Ent}{b:DS}{i:Nat}{ks ks':List (List Int×Ae)}(f:Sl S b)(z:∀e∈T,Pu e.x=false)(p:At K q X b.n (S++T) H)(A:b.sl[i]? = some (.dat .ow (.dict (Ou ks))))(np:npk b.sl=true):∃a kv,(vs S)[i]? = some (some (.ref a))/\H a=some (.dT kv)/\DRel K H kv ks/\∀kv',DRel K H kv' ks'->∃g,vs g=vs S/\Sl g ⟨b.sl.set i (.dat .ow (.dict (Ou ks'))),b.n⟩/\At K q X b.n (g++T) (upd H a (.dT kv')):=by
 obtain ⟨d,c,E⟩:=Ks f A
 have w:d∈S:=Be c
 obtain ⟨u,x,F⟩:=d
 have m:x=.dat .ow (.dict (Ou ks)):=E
 subst m
 obtain ⟨v,s,rd,_⟩:=p.ok _ (Ak _ w)
 obtain ⟨a,kv,y,rfl,B,G,l,t⟩:=rd.dict_inv
 obtain rfl:=Ju B
 have k:F=[a]:=t
 subst k
 refine ⟨a,kv,by rw[Nv c]; exact congrArg some s,G,l,λkv' r=>?_⟩
 have D:=gY f np
 have C:=(p.perm ((Lm c).append_right T)).writeD (ks':=ks') (kv':=kv') s (λe he=>?_) r
 ·refine ⟨S.set i ⟨u,.dat .ow (.dict (Ou ks')),[a]⟩,?_,?_,C.perm ((fZ c).append_right T).symm⟩
  ·unfold vs
   rw[Ip]
   apply Ir
   intro j
   rw[Ko]
   split
   ·rename_i h
    subst h
    rw[Bj,c]
    split
    ·rfl
    ·rename_i o
     rw[Af] at o
     exact absurd (Av.mp c).1 o
   ·rfl
  ·unfold Sl at f ⊢
   rw[Ip,f]
 ·rcases Aw.mp he with he | he
  ·exact D e ((List.eraseIdx_sublist S i).subset he)
  ·exact z e he
def dputB(i:Nat)(y z:DV)(a:DS)(D:DEnds):Prop:=match a.sl[i]?,y,z with
 | some (.dat .ow (.dict X)),.dat _ e,.dat _ k=>npk a.sl=true/\imm e=true/\∃b w,X=Ou b/\k=Br w/\b.length<1000000/\D.nx ⟨a.sl.set i (.dat .ow (.dict (Ou (Rh b w e)))),a.n⟩
 | _,_,_=>False
def isDct:Option DV->Bool
 | some (.dat _ (.dict _))=>true
 | _=>false
def T7(i:Nat)(c d:DE):DB:=λD e=>d e λy a=>isDct a.sl[i]? = true/\c a λz b=>dputB i y z b D
section
variable{X:Cx}{o i e:Expr}{f j:DE}{g l pos c:Pos}{n:Nat}
theorem i9{K:PySem.W.Frag}{h H:Hp}{Y:Addr->Prop}{S T:List Ent}{c:DS}(i:Sl S c)(k:At K h Y c.n (S++T) H)(b:isDct c.sl[n]? = true):∃a kv,(vs S)[n]? = some (some (.ref a))/\H a=some (.dT kv):=by
 cases q:c.sl[n]? with
 | none=>rw[q] at b; cases b
 | some x =>
  rw[q] at b
  obtain ⟨d,f,o⟩:=Ks i q
  obtain ⟨u,y,F⟩:=d
  have e:y=x:=o
  subst e
  have g:(⟨u,y,F⟩ : Ent)∈S:=Be f
  match y,b with
  | .dat m (.dict X),_ =>
   obtain ⟨v,j,rd,_⟩:=k.ok _ (Ak _ g)
   obtain ⟨a,kv,p,rfl,_,l,_⟩:=rd.dict_inv
   exact ⟨a,kv,by rw[Nv f]; exact congrArg some j,l⟩
theorem Q5(O:X.A.units+64<cLine)(ho:PE X o (eM n))(W:Fm X i f)(he:Fm X e j)(Q:Nh e (some (.Subscript o i c)) pos.line X.env=pure false:=by rfl):xM X (.Assign [.Subscript o i c] e pos) (T7 n f j):=by
 refine PS.impD (N8 (HL O) ho W he Q) λD σ H h=>?_
 obtain ⟨I,Y,S,T,δ,P,rfl,V,R,hA,hd,N,k2,k3,k4⟩:=h
 refine ⟨I,Y,S,T,δ,_,rfl,V,hA,hd,λy B v F U H1 L K m q=>?_⟩
 obtain ⟨q,p2⟩:=q
 obtain ⟨a,kv,x,ha⟩:=i9 K m.drop q
 rw[L] at x
 refine ⟨.ref a,x,I,Y,U,⟨some v,y,F⟩::T,B,_,L,K,m,p2,λz h0 w G S2 H2 J e4 g l=>?_⟩
 unfold dputB at l
 split at l
 ·rename_i X0 m1 d m2 k s
  obtain ⟨l,p4,Z,u,rfl,rfl,p5,p6⟩:=l
  obtain ⟨b,rfl,hb⟩:=Ui (g.told mem_mid)
  have r:=g.told Fd
  obtain rfl:=r.imm p4
  obtain ⟨a',p,E,g2,C,g4⟩:=oB (ks':=Rh Z u d) e4 R g.drop2 s l
  rw[J,x] at E
  cases E
  obtain ⟨S3,h1,M,h3⟩:=g4 (Oj p (Lc u) v) (mL u r C)
  refine ⟨a,_,rfl,Y3.t g2 hb (by rw[Rf C]; exact Cc p5 (kE (n:=1000000) (Aj _))),?_⟩
  rw[<- J,<- h1]
  exact N ⟨_,_⟩ S3 _ M h3 p6
 ·exact l.elim
end
def S7:V->Int
 | .int i=>i
 | _=>0
def W6(H:Hp)(r:Addr):List Int:=match H r with
 | some (.tup xs)=>xs.map S7
 | _=>[]
theorem AB{H:Hp}{r:Addr}{w:List Int}(h:H r=some (.tup (w.map V.int))):W6 H r=w:=by
 unfold W6
 rw[h]
 show (w.map V.int).map S7=w
 rw[Dn]
 exact List.map_id' w
section
variable{K:PySem.W.Frag}{H:Hp}
theorem nO:∀{d:List (List Int)} {xs:List V} {ds:List Ae} {G:List Addr},RdFs K H xs ds G->ds=d.map Br->∃b:List Addr,xs=b.map V.ref/\d=b.map (W6 H)/\G=[]/\(∀r∈b,H r=some (.tup ((W6 H r).map V.int)))/\∀r∈b,RdF K H (.ref r) (Br (W6 H r)) []
 | [],_,_,_,h,e=>by
  subst e
  cases h
  exact ⟨[],rfl,rfl,rfl,(λ_ z=>nomatch z),(λ_ z=>nomatch z)⟩
 | w::d,_,_,_,h,e=>by
  cases h with
  | nil=>cases e
  | cons a t =>
   obtain ⟨k,g⟩:=Ie e
   obtain ⟨b,rfl,rfl,rfl,j,i⟩:=nO t g
   subst k
   obtain ⟨r,rfl,c⟩:=Ui a
   rw[iB] at c
   have f:=AB c
   obtain rfl:=a.imm (show imm (Br w)=true from Nb w)
   refine ⟨r::b,rfl,by rw[Ao,f],rfl,λx hx=>?_,λx hx=>?_⟩
   ·rcases An.mp hx with rfl | hx
    ·rw[f]; exact c
    ·exact j x hx
   ·rcases An.mp hx with rfl | hx
    ·rw[f]; exact a
    ·exact i x hx
theorem bP:∀{a:List Addr},(∀r∈a,RdF K H (.ref r) (Br (W6 H r)) [])->RdFs K H (a.map V.ref) ((a.map (W6 H)).map Br) []
 | [],_=>.nil
 | r::a,h=>RdFs.cons (F:=[]) (G:=[]) (h r (Ab ..)) (bP λx b=>h x (Ad _ b))
theorem Pg:∀L:List (List Int),Ed (L.map Br)=true
 | []=>rfl
 | w::L=>by
  show (imm (Br w) && Ed (L.map Br))=true
  rw[Pg L,show imm (Br w)=true from Nb w]; rfl
def iT:DC:=λb P=>match b with
 | [.dat _ (.list ds)]=>∃a:List (List Int),ds=a.map Br/\∀L:List (List Int),L.Perm a->L.Pairwise (λx y=>HT.lexLt y x=false)->P (.dat .ow (.list (L.map Br)))
 | _=>False
theorem kU:Tt K (Ts.rSortI K) iT:=by
 intro x X n S T A w H Q P h b c k
 unfold iT at c
 split at c
 ·rename_i j
  obtain ⟨v,F,rfl,b⟩:=Jf h b j
  obtain ⟨y,rfl,o⟩:=c
  obtain ⟨a,z,G,rfl,u,l,rfl,p⟩:=(b.told mem_mid).list_inv
  obtain ⟨t,rfl,rfl,rfl,i,m⟩:=nO l rfl
  refine ⟨a,t,W6 H,rfl,Pq.of u,λr d=>Ta.of (i r d),λq g f e s=>?_⟩
  refine k _ _ _ _ (b.drop.newI (bP λr d=>m r (e.mem_iff.mp d)) (Pg _) (by rw[Af,Af,e.length_eq]; simpa using p) f .ow) (o _ (e.map _) (List.pairwise_map.mpr s))
 ·exact c.elim
end
end DL
namespace Nd
open PySem PySem.Spec PyProof.Rows L2
def Td(h:Heap)(d:Addr)(es:Array Gz)(ep:Nat):Prop:=∃a,h.get? d=some a/\a.ExactDict/\a.data=.dict es ep
theorem Td.at{h h':Heap}{d:Addr}{es:Array Gz}{ep:Nat}(x:Td h d es ep)(k:∀o,h.get? d=some o->h'.get? d=some o):Td h' d es ep:=let ⟨ob,e,r⟩:=x; ⟨ob,k ob e,r⟩
section
variable{prog:Bl}{w:World}{A:Ce}{E:Value->Ai->Prop}{s:Ai}{it d:Addr}{es:Array Gz}{i ep:Nat}
theorem iQ{Q:Option Value->Ai->Prop}{x:Gz}(g:s.heap.IsKeyIter it d i es.size ep)(l:Td s.heap d es ep)(f:es[i]? = some x)(k:∀h',h'.IsKeyIter it d (i+1) es.size ep->Ct it s.heap h'->Q (some x.key) { s with heap:=h' }):wpAny (model prog w) A (callSpecial? (.ref it) (Dq "__next__")) Q E s:=by
 obtain ⟨r,c,m,b⟩:=id g
 obtain ⟨p,j,q,h⟩:=id l
 have a:=g.typeIs
 refine Cu (name:=Dq "__next__") a PySem.F.slot_dict_keyiterator_next (Cn PySem.F.slot_dict_keyiterator_next a PySem.F.entry_dict_keyiterator_next ?_ (PySem.F.args_dict_keyiterator_next_1 _))
 refine Aa (Ac (Aa (Aa ?_)))
 first | refine Aa (Kh a (Ac ?_)) | refine Aa (Mo a (Ac ?_))
 refine Aa (Nx c b ?_)
 simp only[show Gk "dict_keyiterator" = false by decide,Bw,if_false]
 show wpAny _ _ (ite ((Ay d == Fp)=true) _ _) _ _ s
 rw[if_neg (show ¬ (Ay d == Fp)=true from Bp)]
 refine Aa (Ac (Aa (Lf j h ?_)))
 rw[if_neg (by simp)]
 refine Aa (Ac (Aa (Mw j h ?_)))
 rw[if_neg (by simp)]
 refine Ac ?_
 obtain ⟨n,o⟩:=Hs.mp f
 simp only[show ¬ ((i:Int)<0) from by omega,Hg,if_false,f]
 refine Aa ?_
 first | refine Aa (Kh a (Ac ?_)) | refine Aa (Mo a (Ac ?_))
 refine Aa (wpAny_isOneOf_keyiter a ?_)
 show wpAny _ _ (bind (Mp (.ref it) 1 (Er ((i:Int)+1))) _) _ _ s
 refine Aa (Lx c b (by simp) ?_)
 have e:(s.heap.update it (Oq (·.setIfInBounds 1 (Er ((i:Int)+1))))).IsKeyIter it d (i+1) es.size ep :=
  ⟨_,Eu _ c (Obj.isFreed_of_fields (Qw b _)),(Obj.cls_mapFields ..).trans m,by rw[Qw b]; simp [Er]⟩
 refine Aa (Ck (Aa (wpAny_isOneOf_keyiter (s:={ s with heap:=s.heap.update it (Oq (·.setIfInBounds 1 (Er ((i:Int)+1)))) }) e.typeIs ?_)))
 show wpAny _ _ (pure x.key) _ _ _
 exact Ac (Ac ⟨_,rfl,k _ e (Bo ..)⟩)
theorem vZ{Q:Option Value->Ai->Prop}(g:A.handled=none)(c:s.heap.IsKeyIter it d es.size es.size ep)(l:Td s.heap d es ep)(k:∀h' e,We it s.heap h'->(∃o,h'.get? e=some o/\o.cls=.type "StopIteration")->E (.ref e) { s with heap:=h' }):wpAny (model prog w) A (callSpecial? (.ref it) (Dq "__next__")) Q E s:=by
 obtain ⟨r,h,n,j⟩:=id c
 obtain ⟨p,i,q,f⟩:=id l
 have b:=c.typeIs
 refine Cu (name:=Dq "__next__") b PySem.F.slot_dict_keyiterator_next (Cn PySem.F.slot_dict_keyiterator_next b PySem.F.entry_dict_keyiterator_next ?_ (PySem.F.args_dict_keyiterator_next_1 _))
 refine Aa (Ac (Aa (Aa ?_)))
 first | refine Aa (Kh b (Ac ?_)) | refine Aa (Mo b (Ac ?_))
 refine Aa (Nx h j ?_)
 simp only[show Gk "dict_keyiterator" = false by decide,Bw,if_false]
 show wpAny _ _ (ite ((Ay d == Fp)=true) _ _) _ _ s
 rw[if_neg (show ¬ (Ay d == Fp)=true from Bp)]
 refine Aa (Ac (Aa (Lf i f ?_)))
 rw[if_neg (by simp)]
 refine Aa (Ac (Aa (Mw i f ?_)))
 rw[if_neg (by simp)]
 refine Ac ?_
 simp only[show ¬ ((es.size:Int)<0) from by omega,Hg,if_false,Mu (Aj es.size)]
 refine Aa ?_
 first | refine Aa (Kh b (Ac ?_)) | refine Aa (Mo b (Ac ?_))
 show wpAny _ _ (bind (Mp (.ref it) 0 .none) _) _ _ s
 refine Aa (Lx h j (by simp) ?_)
 show wpAny _ _ (bind (newExc (.type "StopIteration") []) _) _ _ _
 refine Aa ?_
 simp only[newTuple,newExc]
 refine Aa (Ca ?_ (by size_fits))
 refine Aa (m:=Jv _ _) (Ja (a:=Fp) (by first | rfl | (simp only[Jv]; rfl)) (Ca ?_ (by size_fits)))
 simp only[raiseNew]
 refine Aa (wpAny_handled ?_)
 first | rw[show A.in1.handled=none from g] | rw[g]
 refine Aa (Ac (wpAny_throw ?_))
 exact k _ _ (((Bo ..).extBut.push _).push _) ⟨_,Ap _ rfl,rfl⟩
theorem wZ{Q:Value->Ai->Prop}(hd:(d == Gm)=false)(e:Td s.heap d es ep)(k:Q (.ref s.heap.objs.size) { s with heap:=s.heap.push { cls:=.type "dict_keyiterator",data:=.fields #[.ref d,.int 0 0,.int es.size 0,.int ep 0] } }):wpAny (model prog w) A (Zo (.ref d)) Q E s:=by
 obtain ⟨f,b,g,c⟩:=id e
 have a:s.TypeIs (.ref d) "dict" := ⟨f,b,g.1⟩
 refine Uc a PySem.F.slot_dict_iter (Cn PySem.F.slot_dict_iter a PySem.F.entry_dict_iter ?_ (PySem.F.args_dict_iter_1 _))
 unfold Builtin.«dict.__iter__» Builtin.Dict.dictSlotNone
 refine Aa (Aa (Pl a ?_))
 show wpAny _ _ (pure (.ref d:Value)) _ _ s
 refine Ac ?_
 show wpAny _ _ (bind (Mb d) _) _ _ s
 unfold Mb
 rw[if_neg (by rw[hd]; exact Bp)]
 refine Aa (Ac (Aa (Lf b c (Aa (Mw b c ?_)))))
 refine Aa (Ca (Ac ⟨_,rfl, "dict_keyiterator",_,⟨_,Ap _ rfl,rfl⟩,PySem.F.slot_dict_keyiterator_next.lookup,?_⟩))
 exact k
end
theorem eZ{prog:Bl}{w:World}{A:Ce}(l:A.handled=none)(it d:Addr)(a:d≠it)(es:Array Gz)(ep:Nat):Draws prog w A it [it,d] es.size (λi v=>∃x,es[i]? = some x/\v=x.key) (λi h=>h.IsKeyIter it d i es.size ep/\Td h d es ep) where
 live:=λ_ _ st=>let ⟨o,ho,_⟩:=st.1; ⟨o,ho⟩
 frame:=λ_ _ _ st c=>⟨st.1.at λo e=>c it (by simp) o e,st.2.at λo e=>c d (by simp) o e⟩
 item:=λi s Q E b st m=>by
  unfold Dl
  refine Aa (iQ st.1 st.2 (x:=es[i]) (by simp [b]) λj k f=>Ac ?_)
  exact m _ j s.toks ⟨_,by simp [b],rfl⟩ ⟨k,st.2.at λo e=>(f.2 d a).trans e⟩ f
 done:=λs Q E st g=>by
  unfold Dl
  exact Aa (vZ l st.1 st.2 g)
structure ZApart(z TI TO i1 i2:Addr)(f1 f2:List Addr):Prop where
 tiz:TI≠z
 toz:TO≠z
 z1:i1≠z
 z2:i2≠z
 tito:TI≠TO
 ti1:TI≠i1
 ti2:TI≠i2
 to1:TO≠i1
 to2:TO≠i2
 i12:i1≠i2
 zf1:z∉f1
 zf2:z∉f2
 of1:TO∉f1
 of2:TO∉f2
 if1:i2∉f1
 if2:i1∉f2
section
variable{prog:Bl}{w:World}{A:Ce}{E:Value->Ai->Prop}{s:Ai}{z TI TO j l:Addr}{r u:List Addr}{p t i:Nat}{C B:Nat->Value->Prop}{n m:Nat->Heap->Prop}
theorem Gq{a b:Addr}{f:List Addr}(h:a∉f)(hb:b∈f):b≠a:=λe=>h (e▸hb)
theorem uL{a b:Value}{Q:Value->Ai->Prop}(Z:Draws prog w A j r p C n)(D2:Draws prog w A l u t B m)(f:ZApart z TI TO j l r u)(V:IsZip s.heap z TI TO .none)(gI:Gc s.heap TI (.ref j) (.ref l))(gO:Gc s.heap TO a b)(g1:n i s.heap)(g2:m i s.heap)(l1:i<p)(l2:i<t)(k:∀x y h' tk,C i x->B i y->IsZip h' z TI TO (Er s.heap.objs.size)->Gc h' TO x y->n (i+1) h'->m (i+1) h'->Gc h' s.heap.objs.size x y->h'.objs.size=s.heap.objs.size+1->(∀c o,c≠z->c≠TO->c≠j->c≠l->s.heap.get? c=some o->h'.get? c=some o)->Q (.ref s.heap.objs.size) { s with heap:=h',toks:=tk }):wpAny (model prog w) A (Builtin.«zip.__next__» ⟨[.ref z],[]⟩) (λfin s'=>∃v,fin=.done (.ret v)/\Q v s') E s:=by
 obtain ⟨hp,g,d,k8,os⟩:=s
 show wpAny _ _ (bind (field (.ref z) 2) _) _ _ _
 refine Aa (Ew V rfl (x:=.bool false) rfl ?_)
 show wpAny _ _ (bind (field (.ref z) 3) _) _ _ _
 refine Aa (Ew V rfl (x:=.ref TI) rfl (Aa (Ii gI rfl ?_)))
 show wpAny _ _ (bind (Cw (.ref z)) _) _ _ _
 refine Aa ?_
 unfold Cw
 refine Aa (Ew V rfl (x:=.none) rfl (Ac ?_))
 simp only[if_true]
 refine Aa (Kk (Aa (Ew V rfl (x:=.ref TO) rfl (Aa (Ih V (by simp) λT J L=>?_)))))
 replace J:IsZip T z TI TO .ellipsis:=J
 replace L:Ct z hp T:=L
 refine Aa ?_
 simp only[Pp,Qq,Nq,List.zipIdx_nil]
 have k1:n i T:=Z.frame _ _ _ g1 λb h o q=>(L.2 b (Gq f.zf1 h)).trans q
 have k2:m i T:=D2.frame _ _ _ g2 λb h o q=>(L.2 b (Gq f.zf2 h)).trans q
 refine Aa (Aa (dD ?_))
 show wpAny _ _ (bind (Dl (.ref j)) _) _ _ _
 refine Aa (Z.item i _ _ _ l1 k1 λx h2 k7 px k4 H=>Ac ?_)
 replace H:Ct j T h2:=H
 have R:Gc h2 TO a b:=(H.2 TO f.to1).trans ((L.2 TO f.toz).trans gO)
 refine Aa (Ii R rfl (Aa (Zn R λY K N=>?_)))
 replace K:Gc Y TO x b:=K
 replace N:Ct TO h2 Y:=N
 refine Aa (wpAny_letGo (Ac ?_))
 have k6:m i Y:=D2.frame _ _ _ k2 λb h o q=>(N.2 b (Gq f.of2 h)).trans ((H.2 b (Gq f.if2 h)).trans q)
 refine Aa (Aa (dD ?_))
 show wpAny _ _ (bind (Dl (.ref l)) _) _ _ _
 refine Aa (D2.item i _ _ _ l2 k6 λy h4 h9 py k3 O=>Ac ?_)
 replace O:Ct l Y h4:=O
 have S:Gc h4 TO x b:=(O.2 TO f.to2).trans K
 refine Aa (Ii S rfl (Aa (Zn S λD G M=>?_)))
 replace G:Gc D TO x y:=G
 replace M:Ct TO h4 D:=M
 refine Aa (wpAny_letGo (Ac (Ac ?_)))
 refine Aa (Ii G rfl (Aa (wpAny_newTuple ?_)))
 have sz:D.objs.size=hp.objs.size:=by rw[M.1,O.1,N.1,H.1,L.1]
 have W:IsZip D z TI TO .ellipsis:=(M.2 z f.toz.symm).trans ((O.2 z f.z2.symm).trans ((N.2 z f.toz.symm).trans ((H.2 z f.z1.symm).trans J)))
 have k5:∀c o,c≠z->c≠TO->c≠j->c≠l->hp.get? c=some o->D.get? c=some o:=λc o I X c3 c4 e =>
  (M.2 c X).trans ((O.2 c c4).trans ((N.2 c X).trans ((H.2 c c3).trans ((L.2 c I).trans e))))
 have k0:n (i+1) D:=Z.frame _ _ _ k4 λb h o q=>(M.2 b (Gq f.of1 h)).trans ((O.2 b (Gq f.if1 h)).trans ((N.2 b (Gq f.of1 h)).trans q))
 have h0:m (i+1) D:=D2.frame _ _ _ k3 λb h o q=>(M.2 b (Gq f.of2 h)).trans q
 have zl:z<D.objs.size:=Au W
 show wpAny _ _ (bind (Qs (.ref z) (.ref D.objs.size)) _) _ _ _
 refine Aa ?_
 unfold Qs
 have h6:IsZip (D.push { cls:=.type "tuple",data:=.seq #[x,y] }) z TI TO .ellipsis:=Ah _ W
 refine Aa (Ih h6 (by simp) λh7 P s7=>?_)
 replace P:IsZip h7 z TI TO (Er D.objs.size):=P
 refine Ih P (by simp) λU F s8=>?_
 replace F:IsZip U z TI TO (Er D.objs.size):=F
 have up:∀c o,c≠z->D.get? c=some o->U.get? c=some o:=λc o I e=>(s8.2 c I).trans ((s7.2 c I).trans (Ah _ e))
 have gT:Gc U D.objs.size x y:=(s8.2 _ (Ql zl)).trans ((s7.2 _ (Ql zl)).trans (Ap _ rfl))
 have z8:U.objs.size=D.objs.size+1:=by rw[s8.1,s7.1,Fc]
 rw[sz] at F gT z8
 refine Ac ⟨_,rfl,?_⟩
 show Q (.ref D.objs.size) _
 rw[sz]
 exact k x y U h9 px py F (up _ _ f.toz G) (Z.frame _ _ _ k0 λb h o q=>up b o (Gq f.zf1 h) q) (D2.frame _ _ _ h0 λb h o q=>up b o (Gq f.zf2 h) q) gT z8 λc o I X c3 c4 e=>up c o I (k5 c o I X c3 c4 e)
theorem yZ{a b:Value}{Q:Fin->Ai->Prop}(Y:Draws prog w A j r p C n)(D2:Draws prog w A l u t B m)(f:ZApart z TI TO j l r u)(O:IsZip s.heap z TI TO .none)(gI:Gc s.heap TI (.ref j) (.ref l))(gO:Gc s.heap TO a b)(g1:n i s.heap)(g2:m i s.heap)(hn:i=p\/(i<p/\i=t))(k:∀h' e tk,(∀c o,c≠z->c≠TO->c≠j->c≠l->s.heap.get? c=some o->h'.get? c=some o)->(∃o,h'.get? e=some o/\o.cls=.type "StopIteration")->E (.ref e) { s with heap:=h',toks:=tk }):wpAny (model prog w) A (Builtin.«zip.__next__» ⟨[.ref z],[]⟩) Q E s:=by
 obtain ⟨hp,g,d,h8,os⟩:=s
 show wpAny _ _ (bind (field (.ref z) 2) _) _ _ _
 refine Aa (Ew O rfl (x:=.bool false) rfl ?_)
 show wpAny _ _ (bind (field (.ref z) 3) _) _ _ _
 refine Aa (Ew O rfl (x:=.ref TI) rfl (Aa (Ii gI rfl ?_)))
 show wpAny _ _ (bind (Cw (.ref z)) _) _ _ _
 refine Aa ?_
 unfold Cw
 refine Aa (Ew O rfl (x:=.none) rfl (Ac ?_))
 simp only[if_true]
 refine Aa (Kk (Aa (Ew O rfl (x:=.ref TO) rfl (Aa (Ih O (by simp) λH h y=>?_)))))
 replace h:IsZip H z TI TO .ellipsis:=h
 replace y:Ct z hp H:=y
 refine Aa ?_
 simp only[Pp,Qq,Nq,List.zipIdx_nil]
 have K:n i H:=Y.frame _ _ _ g1 λb G o q=>(y.2 b (Gq f.zf1 G)).trans q
 have V:m i H:=D2.frame _ _ _ g2 λb G o q=>(y.2 b (Gq f.zf2 G)).trans q
 refine Aa (Aa (dD ?_))
 show wpAny _ _ (bind (Dl (.ref j)) _) _ _ _
 rcases hn with rfl | ⟨l1,rfl⟩
 ·refine Aa (Y.done _ _ _ K λD e R U=>?_)
  obtain ⟨X,ge,I⟩:=U
  replace R:We j H D:=R
  have M:IsZip D z TI TO .ellipsis:=R _ _ f.z1.symm h
  have W:e≠z:=λx=>by subst x; rw[M] at ge; cases ge; simp at I
  exact Ih M (by simp) λP _ v=>k P e _ (λc o J _ T _ x=>(v.2 c J).trans (R _ _ T ((y.2 c J).trans x))) ⟨X,(v.2 e W).trans ge,I⟩
 ·refine Aa (Y.item _ _ _ _ l1 K λx D h0 px h7 F=>Ac ?_)
  replace F:Ct j H D:=F
  have L:Gc D TO a b:=(F.2 TO f.to1).trans ((y.2 TO f.toz).trans gO)
  refine Aa (Ii L rfl (Aa (Zn L λP h6 v=>?_)))
  replace v:Ct TO D P:=v
  refine Aa (wpAny_letGo (Ac (Aa (Aa (dD ?_)))))
  have Z:m i P:=D2.frame _ _ _ V λb G o q=>(v.2 b (Gq f.of2 G)).trans ((F.2 b (Gq f.if2 G)).trans q)
  show wpAny _ _ (bind (Dl (.ref l)) _) _ _ _
  refine Aa (D2.done _ _ _ Z λh4 e S U=>?_)
  obtain ⟨X,ge,I⟩:=U
  replace S:We l P h4:=S
  have N:IsZip h4 z TI TO .ellipsis:=S _ _ f.z2.symm ((v.2 z f.toz.symm).trans ((F.2 z f.z1.symm).trans h))
  have W:e≠z:=λx=>by subst x; rw[N] at ge; cases ge; simp at I
  exact Ih N (by simp) λh5 _ s5=>k h5 e _ (λc o J c2 T c4 x=>(s5.2 c J).trans (S _ _ c4 ((v.2 c c2).trans ((F.2 c T).trans ((y.2 c J).trans x))))) ⟨X,(s5.2 e W).trans ge,I⟩
theorem uV{a b:Value}{Q:Option Value->Ai->Prop}(M:Draws prog w A.in1 j r p C n)(D2:Draws prog w A.in1 l u t B m)(v:ZApart z TI TO j l r u)(f:IsZip s.heap z TI TO .none)(G:Gc s.heap TI (.ref j) (.ref l))(q:Gc s.heap TO a b)(g1:n i s.heap)(g2:m i s.heap)(l1:i<p)(l2:i<t)(k:∀x y h' d,C i x->B i y->IsZip h' z TI TO (Er s.heap.objs.size)->Gc h' TO x y->n (i+1) h'->m (i+1) h'->Gc h' s.heap.objs.size x y->h'.objs.size=s.heap.objs.size+1->(∀c o,c≠z->c≠TO->c≠j->c≠l->s.heap.get? c=some o->h'.get? c=some o)->Q (some (.ref s.heap.objs.size)) { s with heap:=h',toks:=d }):wpAny (model prog w) A (Hi (.ref z)) Q E s:=by
 have e:s.TypeIs (.ref z) "zip" := ⟨_,f,rfl⟩
 unfold Hi
 refine Aa (Ic (Cu (name:=Dq "__next__") e PySem.F.slot_zip_next (Cn PySem.F.slot_zip_next e PySem.F.entry_zip_next ?_ (PySem.F.args_zip_next_1 _))))
 exact uL M D2 v f G q g1 g2 l1 l2 λx y h' d J I D K g L h N H=>Ac (k x y h' d J I D K g L h N H)
theorem uZ{a b:Value}{Q:Option Value->Ai->Prop}(H:Draws prog w A.in1 j r p C n)(D2:Draws prog w A.in1 l u t B m)(y:ZApart z TI TO j l r u)(h:IsZip s.heap z TI TO .none)(I:Gc s.heap TI (.ref j) (.ref l))(q:Gc s.heap TO a b)(g1:n i s.heap)(g2:m i s.heap)(G:i=p\/(i<p/\i=t))(k:∀h' d,(∀c o,c≠z->c≠TO->c≠j->c≠l->s.heap.get? c=some o->h'.get? c=some o)->Q none { s with heap:=h',toks:=d }):wpAny (model prog w) A (Hi (.ref z)) Q E s:=by
 have g:s.TypeIs (.ref z) "zip" := ⟨_,h,rfl⟩
 unfold Hi
 refine Aa (Ic (Cu (name:=Dq "__next__") g PySem.F.slot_zip_next (Cn PySem.F.slot_zip_next g PySem.F.entry_zip_next ?_ (PySem.F.args_zip_next_1 _))))
 refine yZ H D2 y h I q g1 g2 G λh' e d x f => ?_
 obtain ⟨o,D,v⟩ := f
 exact Aa (Gy (T := "StopIteration") (b:=true) ⟨o,D,v⟩ Zr (Ac (k h' d x)))
end
abbrev GR(h:Heap)(d:Addr)(n ep:Nat):Heap:=h.push { cls:=.type "dict_keyiterator",data:=.fields #[.ref d,.int 0 0,.int n 0,.int ep 0] }
abbrev HK(h:Heap)(d:Addr)(n ep:Nat)(l:Addr):Heap:=(GR h d n ep).push { cls:=.type "list_iterator",data:=.fields #[.ref l,.int 0 0] }
abbrev HH(h:Heap)(d:Addr)(n ep:Nat)(l:Addr):Heap:=(HK h d n ep l).push { cls:=.type "tuple",data:=.seq #[.ref h.objs.size,.ref (GR h d n ep).objs.size] }
abbrev HA(h:Heap)(d:Addr)(n ep:Nat)(l:Addr):Heap:=(HH h d n ep l).push { cls:=.type "tuple",data:=.seq #[.none,.none] }
abbrev CQ(h:Heap)(d:Addr)(n ep:Nat)(l:Addr):Heap:=(HA h d n ep l).push { cls:=.type "zip",data:=.fields #[.none,.bool false,.bool false,.ref (HK h d n ep l).objs.size,.ref (HH h d n ep l).objs.size] }
theorem mW(d l:Addr)(es:Array Gz)(ep:Nat)(ys:Array Value)(hd:(d == Gm)=false):Meets (Builtin.«zip.__new__» ⟨[.type "zip",.ref d,.ref l],[]⟩) (λ_ R s=>Td s.heap d es ep/\s.heap.IsList l ys/\R (.ok (.ret (.ref (HA s.heap d es.size ep l).objs.size))) { s with heap:=CQ s.heap d es.size ep l }) :=
 .of_wp λb w A R s h=>by
  obtain ⟨a,g,e,c,os⟩:=s
  obtain ⟨i,k,q⟩:=h
  have f:=sub_zip
  have m:Td (Shared.heap ⟨a,g,e,c,os⟩) d es ep:=i
  have j:Heap.IsList (Shared.heap ⟨GR a d es.size ep,g,e,c,os⟩) l ys:=Heap.IsList.push k _
  wp_walk using wZ hd m,wpAny_pyIter_list j
  exact ⟨_,rfl,q⟩
section
variable{prog:Bl}{w:World}{A:Ce}{E:Value->Ai->Prop}{s:Ai}
theorem pD{d l:Addr}{es:Array Gz}{ep:Nat}{ys:Array Value}{Q:Value->Ai->Prop}(hd:(d == Gm)=false)(t:Td s.heap d es ep)(v:s.heap.IsList l ys)(k:∀h',IsZip h' (s.heap.objs.size+4) (s.heap.objs.size+2) (s.heap.objs.size+3) .none->Gc h' (s.heap.objs.size+2) (.ref s.heap.objs.size) (.ref (s.heap.objs.size+1))->Gc h' (s.heap.objs.size+3) .none .none->h'.IsKeyIter s.heap.objs.size d 0 es.size ep->h'.IsListIter (s.heap.objs.size+1) l 0->(∀c o,s.heap.get? c=some o->h'.get? c=some o)->Q (.ref (s.heap.objs.size+4)) { s with heap:=h' }):wpAny (model prog w) A (call (.type "zip") [.ref d,.ref l]) Q E s:=by
 refine callType_new PySem.F.called_zip (by decide) (PySem.F.typeCall_zip_2 _ _) (PySem.F.newCall_zip_2 _ _) (λj=>PySem.F.args_object_init_3 j _ _) PySem.F.entry_zip_new (mW d l es ep ys hd) ⟨t,v,?_⟩
 have i:(GR s.heap d es.size ep).objs.size=s.heap.objs.size+1:=Fc ..
 have f:(HK s.heap d es.size ep l).objs.size=s.heap.objs.size+2:=by rw[Fc,i]
 have m:(HH s.heap d es.size ep l).objs.size=s.heap.objs.size+3:=by rw[Fc,f]
 have n:(HA s.heap d es.size ep l).objs.size=s.heap.objs.size+4:=by rw[Fc,m]
 have b:∀{h:Heap} {a:Addr} {u:Obj} (o:Obj),h.get? a=some u->(h.push o).get? a=some u:=λo e=>Ah _ e
 have g:(CQ s.heap d es.size ep l).get? (HA s.heap d es.size ep l).objs.size=some _:=Ap _ rfl
 have q:(CQ s.heap d es.size ep l).get? (HH s.heap d es.size ep l).objs.size=some _:=b _ (Ap _ rfl)
 have p:(CQ s.heap d es.size ep l).get? (HK s.heap d es.size ep l).objs.size=some _:=b _ (b _ (Ap _ rfl))
 have r:(CQ s.heap d es.size ep l).get? (GR s.heap d es.size ep).objs.size=some _:=b _ (b _ (b _ (Ap _ rfl)))
 have y:(CQ s.heap d es.size ep l).get? s.heap.objs.size=some _:=b _ (b _ (b _ (b _ (Ap _ rfl))))
 show _/\_
 rw[f,m,n] at g
 rw[i,f] at p
 rw[m] at q
 rw[i] at r
 rw[n]
 exact ⟨⟨_,g,rfl⟩,k _ g p q ⟨_,y,rfl,rfl⟩ ⟨_,r,rfl,rfl⟩ λc o x=>b _ (b _ (b _ (b _ (b _ x))))⟩
end
theorem pF{P:Bl}{w:World}{H:Hp}{h:Heap}{a:Addr}{c:List (List Jo×V)}(ok:Vh P w H h)(e:H a=some (.dT c)):∃(es:Array Gz),(a == Gm)=false/\Td h a es c.length/\es.size=c.length/\∀(i:Nat) (x:Gz),es[i]? = some x->∃k b v,c[i]? = some (k,v)/\x.key=.ref b/\H b=some (.tup (k.map kV))/\k.length<=Aq:=by
 obtain ⟨_,D,l,g,o,es,I,C,u,F,t,_,m⟩:=(show Hl P w H h a (.dT c) from ok a _ e)
 have s:es.size=c.length:=by
  have:=congrArg Ft t
  rw[Af,<- Paired.length g] at this
  simpa using this
 refine ⟨es,D,⟨o,C,u,by rw[F,m,s]⟩,s,λi x G=>?_⟩
 have d:es.toList[i]? = some x:=by rw[Fh]; exact G
 rw[t,Bj] at d
 cases q:l[i]? with
 | none=>rw[q] at d; cases d
 | some y =>
  rw[q] at d
  cases d
  have E:∀{c:List (List Jo×V)} {l:List (List Jo×Addr×Value)} {i:Nat},Paired (λ(p:List Jo×V) (q:List Jo×Addr×Value)=>p.1=q.1/\H q.2.1=some (.tup (p.1.map kV))/\RelV p.2 q.2.2) c l->l[i]? = some y->∃p,c[i]? = some p/\H y.2.1=some (.tup (p.1.map kV)):=by
   intro c l i r
   induction r generalizing i with
   | nil=>intro z; simp at z
   | cons B _ A =>
    intro z
    cases i with
    | zero=>simp at z; subst z; exact ⟨_,rfl,B.2.1⟩
    | succ j=>exact A (by simpa using z)
  obtain ⟨p,n,f⟩:=E g q
  refine ⟨p.1,y.2.1,p.2,n,rfl,f,?_⟩
  have:=(show Hl P w H h y.2.1 (.tup (p.1.map kV)) from ok _ _ f).1
  rwa [Af] at this
def BL(K:PySem.W.Frag)(a b:Addr)(n:Nat):It :=
  ⟨λi H=>∃c d y,H a=some (.dT c)/\c.length=n/\Pq K H b d/\i<n/\d[i]? = some y,
   λi H x e=>∃p t k v u,x=.ref p/\H p=none/\e=upd H p (.tup [.ref t,u])/\(∀c,H a=some (.dT c)->c[i]? = some (k,v))/\H t=some (.tup (k.map kV))/\k.length<=Aq/\∀d,Pq K H b d->d[i]? = some u,
   λi H=>∃c d,H a=some (.dT c)/\c.length=n/\Pq K H b d/\(i=n\/(i<n/\i=d.length))⟩
theorem xD{P:Bl}{w:World}{K:PySem.W.Frag}{Q:List Expr}{k:Nat}{pos:Pos}{n:Nat}(a b z TI TO l m:Addr)(r:ZApart z TI TO l m [l,a] [m,b])(na:a≠l)(nb:b≠m):Turn P w K (.Tuple Q k pos) (BL K a b n) [z,TI,TO,l,m] z (λi h=>IsZip h z TI TO .none/\Gc h TI (.ref l) (.ref m)/\(∃u v,Gc h TO u v)/\h.IsKeyIter l a i n n/\h.IsListIter m b i) where
 mem:=Ab
 obj:=λi h st c d=>by
  obtain ⟨J,e,⟨u,v,j⟩,⟨o1,e1,c1,d1⟩,⟨o2,e2,c2,d2⟩⟩:=st
  simp only[An,Bd,or_false] at d
  rcases d with rfl | rfl | rfl | rfl | rfl
  ·exact ⟨_,J,λv z=>by cases z⟩
  ·exact ⟨_,e,λv z=>by cases z⟩
  ·exact ⟨_,j,λv z=>by cases z⟩
  ·exact ⟨o1,e1,λv z=>by rw[d1] at z; cases z⟩
  ·exact ⟨o2,e2,λv z=>by rw[d2] at z; cases z⟩
 keep:=λi h h' st kp=>by
  obtain ⟨J,e,⟨u,v,j⟩,M,V⟩:=st
  exact ⟨kp z (by simp) _ J,kp TI (by simp) _ e,⟨u,v,kp TO (by simp) _ j⟩,M.at λo q=>kp l (by simp) o q,V.at λo q=>kp m (by simp) o q⟩
 item:=by
  intro X hP hw hK d i F s σ H E I T st hg
  subst hP hw hK
  obtain ⟨kv,ys,y,U,rfl,C,hx,hy⟩:=hg
  obtain ⟨O,hd,hE,p,G⟩:=pF I.hok U
  obtain ⟨g,t,p2,h0⟩:=I.list C
  obtain ⟨J,e,⟨o1,o2,j⟩,B,D⟩:=st
  have S:X.A.in1.handled=none:=I.ok.hd d
  have D1:=eZ (prog:=X.prog) (w:=X.w) (A:=X.A.in1) S l a na O O.size
  have D2:=Draws.list (prog:=X.prog) (w:=X.w) (A:=X.A.in1) S m b nb g.toArray
  have h6:=t.length
  have ly:i<g.length:=by
   have:=(Av.mp hy).1
   omega
  have zl:z<s.heap.objs.size:=Au J
  have k4:TI<s.heap.objs.size:=Au e
  have k2:TO<s.heap.objs.size:=Au j
  have k5:l<s.heap.objs.size:=by obtain ⟨_,q,_⟩:=B; exact Au q
  have k1:m<s.heap.objs.size:=by obtain ⟨_,q,_⟩:=D; exact Au q
  refine uV D1 D2 r J e j ⟨by rw[p]; exact B,by rw[p]; exact hE⟩ ⟨D,p2.isList⟩ (by omega) (by simpa using ly) λu1 L M Z q1 q2 a1 a2 a3 a4 a5 a6 Y=>⟨_,rfl,wpAny_letOwnedTupleGo_zip (s:={ s with heap:=M,toks:=Z }) a1 λV k0 h4=>?_⟩
  have f:Ct z M V:=h4
  obtain ⟨x1,h3,rfl⟩:=q1
  obtain ⟨kk,x,vv,ek,eb,hb,h5⟩:=G i x1 h3
  rw[eb] at a2 a5
  have h8:g[i]? = some L:=by simpa using q2
  obtain ⟨k6,N,h9⟩:=t.get hy
  rw[h8] at N
  cases N
  have I1:Inv X F σ (upd H s.heap.objs.size (.tup [.ref x,y])) { s with heap:=s.heap.push { cls:=.type "tuple",data:=.seq #[.ref x,L] } } :=
   I.laid (t':=s.toks) (λb o q=>Ah _ q) (Aj _) ⟨by show 2<=Aq; decide,[.ref x,L],.cons rfl (.cons h9 .nil),_,Ap _ rfl,rfl,0,rfl⟩
  have nT:∀c∈[z,TI,TO,l,m],c≠s.heap.objs.size:=λc d=>by
   simp only[An,Bd,or_false] at d
   rcases d with rfl | rfl | rfl | rfl | rfl <;> exact Bu (by assumption)
  have fr:∀c∈[z,TI,TO,l,m],(upd H s.heap.objs.size (.tup [.ref x,y])) c=none:=λc d=>by rw[Dr (nT c d)]; exact (T c d).1
  refine ⟨.ref s.heap.objs.size,_,Rr (fp:=[z,TI,TO,l,m]) (s:={ s with heap:=s.heap.push { cls:=.type "tuple",data:=.seq #[.ref x,L] } }) (h':=V) (t':=Z) I1 (λc o d q=>?_) (λc d=>⟨fr c d,(T c d).2⟩),rfl,⟨_,x,kk,vv,y,rfl,I.hok.fresh (Aj _),rfl,(λk3 h'=>by rw[U] at h'; cases h'; exact ek),hb,h5,λzs h7=>by rw[I.list_inj h7 C]; exact hy⟩,⟨k0,?_,⟨.ref x,L,?_⟩,?_,?_⟩,fr⟩
  ·simp only[An,Bd,or_false,not_or] at d
   refine (f.2 c d.1).trans ?_
   by_cases R:c=s.heap.objs.size
   ·subst R
    have q':=(Ap s.heap (o:={ cls:=.type "tuple",data:=.seq #[.ref x,L] }) rfl).symm.trans q
    rw[show M.get? s.heap.objs.size=_ from a5]
    exact q'
   ·refine Y c o d.1 d.2.2.1 d.2.2.2.1 d.2.2.2.2 ?_
    have q0:(s.heap.push { cls:=.type "tuple",data:=.seq #[.ref x,L] }).get? c=some o:=q
    rcases Heap.get?_push_cases q0 with zz | zz
    ·exact absurd zz.1 R
    ·exact zz
  ·exact (f.2 TI r.tiz).trans (Y TI _ r.tiz r.tito r.ti1 r.ti2 e)
  ·exact (f.2 TO r.toz).trans a2
  ·rw[p] at a3
   exact a3.1.at λo q=>(f.2 l r.z1).trans q
  ·exact a4.1.at λo q=>(f.2 m r.z2).trans q
 done:=by
  intro X hP hw hK d i F s σ H E I T st hg
  subst hP hw hK
  obtain ⟨kv,ys,U,rfl,C,hx⟩:=hg
  obtain ⟨O,hd,hE,p,G⟩:=pF I.hok U
  obtain ⟨g,t,p2,h0⟩:=I.list C
  obtain ⟨J,e,⟨o1,o2,j⟩,B,D⟩:=st
  have S:X.A.in1.handled=none:=I.ok.hd d
  have D1:=eZ (prog:=X.prog) (w:=X.w) (A:=X.A.in1) S l a na O O.size
  have D2:=Draws.list (prog:=X.prog) (w:=X.w) (A:=X.A.in1) S m b nb g.toArray
  have h6:=t.length
  refine uZ D1 D2 r J e j ⟨by rw[p]; exact B,by rw[p]; exact hE⟩ ⟨D,p2.isList⟩ ?_ λM Z Y=>⟨rfl,Rr (fp:=[z,TI,TO,l,m]) (t':=Z) I (λc o d q=>?_) T⟩
  ·rw[p,Ar]
   omega
  ·simp only[An,Bd,or_false,not_or] at d
   exact Y c o d.1 d.2.2.1 d.2.2.2.1 d.2.2.2.2 q
 self:=λ_ _ _ _ _ st h=>kF st.1 h
theorem BB(I a b:Nat)(d:a<I)(f:b<I):ZApart (I+4) (I+2) (I+3) I (I+1) [I,a] [I+1,b]:=by
 constructor <;> (first | (intro e; have c:(_:Nat)=_:=e; omega) | (intro e; simp only[An,Bd,or_false] at e; rcases e with e | e <;> (have c:(_:Nat)=_:=e; omega)))
section
variable{X:Cx}
def FQ(K:PySem.W.Frag)(f:TA):TI:=λe H R=>f e H λvs c=>∃a b d,vs=[.ref a,.ref b]/\c a=some (.dT d)/\(∃g,Pq K c b g)/\R (BL K a b d.length) c
theorem N0{t:List Expr}{k:Nat}{Y:Pos}{a b:Expr}{G:TA}{p pos:Pos}(hg:Gl X "zip")(P:X.mg "zip" = none)(ha:PA X [a,b] G)(U:Bn [a,b] X.env=(false,eval a X.env)::Bn [b] X.env:=by rfl)(Z:(Hj pos (Bn [b] X.env)).any (·.1)=false:=by rfl):PI X (.Tuple t k Y) (.Call (.Name "zip" p) [a,b] [] pos) (FQ X.K G):=by
 intro d s Q H R I h
 refine Call_ (Ry I hg P (u:=.type "zip") (by decide +kernel) (Fi (Gb (ha pos d s Q H _ I h) λus g ⟨vs,x,m,r1,W⟩=>?_) U Z))
 obtain ⟨O,L,kv,e,C,⟨ys,A⟩,q⟩:=W
 subst e
 obtain ⟨u1,u2,rfl,y,D⟩:=vals2 r1
 cases y
 cases D
 obtain ⟨es,hd,E,z,J⟩:=pF m.hok C
 obtain ⟨N,V,r,T⟩:=m.list A
 have i:O<g.heap.objs.size:=let ⟨o,q,_⟩:=E; Au q
 have j:L<g.heap.objs.size:=let ⟨o,q,_⟩:=r.isList; Au q
 refine pD hd E r.isList λh2 M B w l v S=>kF M ?_
 have f:∀n,Ml X d x (g.heap.objs.size+n):=λn=>m.fpOk (Oe _ _) (m.hok.fresh (Oe _ _))
 have fr:∀c∈[g.heap.objs.size+4,g.heap.objs.size+2,g.heap.objs.size+3,g.heap.objs.size,g.heap.objs.size+1],Ml X d x c:=λc F=>by
  simp only[An,Bd,or_false] at F
  rcases F with rfl | rfl | rfl | rfl | rfl
  ·exact f 4
  ·exact f 2
  ·exact f 3
  ·exact f 0
  ·exact f 1
 rw[z] at l
 exact ⟨g.heap.objs.size+4,_,_,_,x,rfl,m.kept (t':=g.toks) S,xD O L _ _ _ _ _ (BB _ _ _ i j) (Bu i) (Bu (Fg j)),⟨M,B,⟨_,_,w⟩,l,v⟩,fr,q⟩
end
section
variable{prog:Bl}{w:World}{A:Ce}{R:Result->Ai->Prop}{s:Ai}
theorem nB{p o e iter:Expr}{b:List Expr}{a:Scope}{pos:Pos}{it:Value}{D:Addr}{env:Env}(J:Nat->Ai->Prop) (turn:∀n s,J n s->wpAny (model prog w) A (Hi it) (λr d=>match r with
    | none=>R (.ok .next) d
    | some v=>wpAny (model prog w) A (Ho e it v) (λ_ i=>wpAny (model prog w) A (Oc e env v) (λ_ t =>
      wpAny (model prog w) A (forIn b true λc r=>if r=true then (do
        let ok <- isTrue c env (eval c env)
        pure (El ok)) else pure (El r)) (λok f =>
       if ok=true then
        wpAny (model prog w) A (eval p env) (λk q=>wpAny (model prog w) A (eval o env) (λy u=>wpAny (model prog w) A (dictSet D k y) (λ_ l=>∃m,m<n/\J m l) (λ_ _=>False) u) (λ_ _=>False) q) (λ_ _=>False) f
       else ∃m,m<n/\J m f) (λ_ _=>False) t) (λ_ _=>False) i) (λ_ _=>False) d) (λ_ _=>False) s)
  (n:Nat) (h:J n s):Hb (model prog w) A (.compLoop (.DictComp p o [⟨e,iter,b,0⟩] a pos) 0 it (.ref D) env) R s:=by
 refine gH rfl J (λn s C=>wpAny_noted ?_) n h
 rw[compTurn_dict]
 refine Aa (Ib (Aa (Cq (turn n s C) (λr d j=>?_) λ_ _ z=>z.elim)))
 cases r with
 | none=>exact Ac j
 | some v =>
  refine Aa (Cq j (λ_ i x=>Aa (Cq x (λ_ t F=>Aa (Cq F (λok f g=>?_) λ_ _ z=>z.elim)) λ_ _ z=>z.elim)) λ_ _ z=>z.elim)
  cases ok with
  | false=>exact Ac ⟨rfl,g⟩
  | true =>
   refine Aa (Aa (Cq g (λk q G=>Aa (Ck (Cq G (λy u B=>?_) λ_ _ z=>z.elim))) λ_ _ z=>z.elim))
   exact Aa (Ib (Ck (Cq B (λ_ l E=>Ac ⟨rfl,E⟩) λ_ _ z=>z.elim)))
end
section
variable{X:Cx}{f:List (Addr×Obj)}{g:L2.St}{H:Hp}{s:Ai}{a b:Addr}{v:V}{r:Value}{A:Ce}{E:Value->Ai->Prop}{d:List (List Jo×V)}{k:List Jo}
theorem wH{Q:Unit->Ai->Prop}(u:A.units+1<cLine)(I:Inv X f g H s)(e:H a=some (.dT d))(o:H b=some (.tup (k.map kV)))(l:d.length<Aq)(D:RelV v r)(h:∀s',Inv X f g (upd H a (.dT (Oj d k v))) s'->Q () s'):wpAny (model X.prog X.w) A (dictSet a (.ref b) r) Q E s:=by
 obtain ⟨z,K,F,i,C⟩:=jP I.hok (.inl e)
 have hz:F.length<=Aq:=by rw[<- Paired.length i]; exact z
 have B:(Oj d k v).length<=Aq:=by have:=Qd d k v; omega
 refine aX (hz:=hz) (show (Ng _).room A from Nat.lt_of_succ_lt u) (Vv I.hok o) C λN j x=>h _ ?_
 obtain ⟨q,y,L,m,p,G,t,_,J⟩:=j
 refine aQ I (by rw[e]; exact Jq) x ⟨q,m⟩ ⟨B,K,_,(i.put k o D).keeps λc M n=>(Dr (B4 n e (λz=>nomatch z))).trans n,q,y,L,m,p,G,t,J⟩
end
section
variable{X:Cx}
def M3(K:PySem.W.Frag)(J:It)(o:List Nat)(u:TT)(v w:TE)(n:L2.St)(r:Hp)(Q:VK):Prop:=∀D,r D=none->∃W:Nat->Nat->Hp->Prop,(∃m,W 0 m (upd r D (.dT [])))/\∀i m H,W i m H ->
 (J.stop i H/\Q (.ref D) H)\/(J.go i H/\∀x l,J.yld i H x l->∃(t:Addr) (j g:V),x=.ref t/\Ta K l t [j,g]/\∃(s:Hp->Prop) (p:V->VK),(∀e,s e->∃f,f<m/\W (i+1) f e) /\
  (∀h q d,p h q d->∃a k b,d D=some (.dT a)/\h=.ref b/\d b=some (.tup (k.map kV))/\a.length<Aq/\∃f,f<m/\W (i+1) f (upd d D (.dT (Oj a k q)))) /\
  u (some j::some g::Ei n o) l λc e=>if c=true then v (some j::some g::Ei n o) e (λh d=>w (some j::some g::Ei n o) d (p h)) else s e)
def tJ(K:PySem.W.Frag)(g:TI)(e:List Nat)(b:TT)(d f:TE):TE:=λa H Q=>g a H λJ c=>M3 K J e b d f a c Q
theorem uT{kx vx iter:Expr}{x k:Str}{px M pt pos:Pos}{kt:Nat}{Z:List Expr}{a:Scope}{B:List (Str×Addr)}{ys:List Str}{Y:List Nat}{wi:TI}{tc:TT}{tk tv:TE}(C:CompScope X a B x ys Y)(O:cZ a k)(h9:(x::k::ys).Nodup)(hc:X.calm=true)(hu:X.A.units+1<cLine)(hi:PI X (.Tuple [.Name x px,.Name k M] kt pt) iter wi)(ht:∀fp s H,rF (Dm X a B (x::k::ys) fp s H) Z tc)(hk:∀fp s H,PE (Dm X a B (x::k::ys) fp s H) kx tk)(hv:∀fp s H,PE (Dm X a B (x::k::ys) fp s H) vx tv)(hs:∀x,Cz iter X.env x=pure x:=by intro _; rfl):PE X (.DictComp kx vx [⟨.Tuple [.Name x px,.Name k M] kt pt,iter,Z,0⟩] a pos) (tJ X.K wi Y tc tk tv):=by
 intro l s R H Q I h
 rw[arm_eval_DictComp]
 show wpAny _ _ (comprehension _ a X.env _ newDict false (eval iter X.env) none) _ _ s
 refine Jh (use:=none) rfl hs C.clos C.kind C.locs (Gb (hi l s R H _ I h) λv s1 h1=>Gb h1 λy2 j h2=>?_)
 obtain ⟨it,fp,tn,J,D,e,I2,T,k6,f2,q2⟩:=h2
 subst e
 have fD:D j.heap.objs.size=none:=I2.hok.fresh (Aj _)
 obtain ⟨W,⟨m0,w0⟩,h6⟩:=q2 j.heap.objs.size fD
 refine Ca ?_
 have I3:Inv X l R (upd D j.heap.objs.size (.dT [])) { j with heap:=j.heap.push { cls:=.type "dict",data:=.dict #[] } } :=
  I2.laid (t':=j.toks) (λb u q=>Ah _ q) (Aj _) (lT j.heap I2.big)
 have q6:∀b∈fp,b≠j.heap.objs.size:=λb d z=>by
  obtain ⟨o,q,_⟩:=T.obj _ _ k6 b d
  have:=Au q
  rw[z] at this
  exact absurd this (Fo _)
 have f3:∀b∈fp,Ml X l (upd D j.heap.objs.size (.dT [])) b:=λb d=>⟨by rw[Dr (q6 b d)]; exact (f2 b d).1,(f2 b d).2⟩
 generalize q9:({ j with heap:=j.heap.push { cls:=.type "dict",data:=.dict #[] } }:Ai)=s3 at I3
 have q1:tn 0 s3.heap:=T.keep 0 _ _ k6 λb d o q=>by rw[<- q9]; exact Ah _ q
 have o3:∀b∈fp,∃o,s3.heap.get? b=some o:=λb d=>let ⟨o,q,_⟩:=T.obj _ _ q1 b d; ⟨o,q⟩
 show wpAny _ _ (Ly a X.env.globals B [] X.env.qual none .none (some X.env)) _ _ _
 refine Ri C λh4 k2 F k4=>?_
 have I4:∀tk,Inv (Dm X a B (x::k::ys) fp s3 (upd D j.heap.objs.size (.dT []))) [] (none::none::Ei R Y) (upd D j.heap.objs.size (.dT [])) { s3 with heap:=h4,toks:=tk }:=λtk=>Pk (pre:=[x,k]) C I3 f3 o3 k2 F k4
 have h0:tn 0 h4:=T.keep 0 _ _ q1 λb d o q=>F b o q
 generalize g:Dm X a B (x::k::ys) fp s3 (upd D j.heap.objs.size (.dT []))=X' at I4
 have eP:X'.prog=X.prog:=by rw[<- g]; rfl
 have eW:X'.w=X.w:=by rw[<- g]; rfl
 have eK:X'.K=X.K:=by rw[<- g]; rfl
 have eA:X'.A=X.A:=by rw[<- g]; rfl
 have eC:X'.calm=true:=by rw[<- g]; exact hc
 have E:∀{t:Hp},(∀b∈fp,t b=none)->∀b∈fp,Ml X' [] t b:=λ{t} hn b d=>by
  have ok:=(I4 0).ok
  have L:b∈X'.ex:=by rw[<- g]; exact d
  exact ⟨hn b d,(ok.exf b L).1,ok.exfs b L,.inl L,(ok.exf b L).2,λp hp=>by rw[<- g] at hp; cases (show p∈([]:List (Addr×Obj)) from hp)⟩
 have S:∀s5:Ai,s5={ s3 with heap:=h4,toks:=s3.toks+([]:List (Str×Value)).length } ->
   Hb (model X.prog X.w) X.A (.compLoop (.DictComp kx vx [⟨.Tuple [.Name x px,.Name k M] kt pt,iter,Z,0⟩] a pos) 0 (.ref it) (.ref j.heap.objs.size) (Vk a (Ek (s3.heap.objs.size+1) a.names B) s3.heap.objs.size X.env))
    (compPost (model X.prog X.w) X.A X.xe none (EP X l R Q) (.ref j.heap.objs.size) s3.heap.objs.size) s5:=by
  rintro s5 rfl
  refine nB (λn s'=>∃i o o2 t,Inv X' [] (o::o2::Ei R Y) t s'/\tn i s'.heap/\(∀b∈fp,t b=none)/\W i n t) ?_ m0
   ⟨0,none,none,_,I4 _,h0,λb d=>(f3 b d).1,w0⟩
  (intro n s6 q_; obtain ⟨i,o,o2,P,I6,k5,q0,w6⟩ := q_)
  rcases h6 i n P w6 with ⟨k9,qn⟩ | ⟨go,step⟩
  ·have hd:=T.done X' eP eW eK eC i [] s6 _ P (λ_ _=>False) I6 (E q0) k5 k9
   rw[eA] at hd
   refine Gb hd λr s7 f => ?_
   obtain ⟨hr,I7⟩ := f
   subst hr
   obtain ⟨m7,k7,_⟩:=I7.loc
   have k8:s7.heap.Ns s3.heap.objs.size m7:=by rw[<- g] at k7; exact k7
   refine ⟨m7,k8,λh8 G=>?_⟩
   have h5:P s3.heap.objs.size=none:=by have:=I7.free; rw[<- g] at this; exact this
   have b7:Un (gA X.stack) fp (upd D j.heap.objs.size (.dT [])) P s3.heap s7.heap:=by have:=I7.base; rw[<- g] at this; exact this
   have V:∀b o,s3.heap.get? b=some o->b≠s3.heap.objs.size:=λb o q=>Bu (Au q)
   have u8:Un (gA X.stack) fp (upd D j.heap.objs.size (.dT [])) P s3.heap h8:=by
    refine ⟨λb o q n d hx=>(G.2 b (V b o q)).trans (b7.keep b o q n d hx),λb o q n d hx=>?_,b7.free,λb o q hx=>?_,b7.tups,b7.frzs,b7.tbls⟩
    ·obtain ⟨sl,z⟩:=b7.slot b o q n d hx
     exact ⟨sl,(G.2 b (V b o q)).trans z⟩
    ·obtain ⟨o',z⟩:=b7.there b o q hx
     exact ⟨o',(G.2 b (V b o q)).trans z⟩
   have k0:Vh X.prog X.w P h8:=λb ob e=>by
    have k3:=I7.hok
    rw[eP,eW] at k3
    refine (k3 b ob e).stay (λc w' hcc q=>(G.2 c ?_).trans q) (λ_ q=>q) λ_ _ q=>q
    rintro rfl
    rcases hcc with rfl | hcc
    ·rw[h5] at e; cases e
    ·rw[h5] at hcc; cases hcc
   have q8:s7.os=s3.os:=by have:=I7.os; rw[<- g] at this; exact this
   exact ⟨.ref j.heap.objs.size,P,I3.call' (s':={ s7 with heap:=h8 }) (ch:=fp) q8 u8 k0 I7.bare (λb d=>⟨(f3 b d).2.2.2.1,(f3 b d).2.1,(f3 b d).2.2.2.2.1,(f3 b d).2.2.2.2.2⟩),rfl,qn⟩
  ·have k1:=T.item X' eP eW eK eC i [] s6 _ P (λ_ _=>False) I6 (E q0) k5 go
   rw[eA] at k1
   refine Gb k1 λr s7 f => ?_
   obtain ⟨u,hr,h7⟩ := f
   subst hr
   refine Gb h7 λ_ s8 f => ?_
   obtain ⟨y,H8,I8,r8,y8,U,j6⟩ := f
   have j8:=I8.pinned (E j6) (T.obj _ _ U)
   obtain ⟨tp,w1,w2,ey,x1,N1,N2,q5,j3,q4⟩:=step y H8 y8
   have again:∀{H9:Hp} {s9:Ai} {m':Nat},Inv X' ([]++Oz fp s8.heap) (some w1::some w2::Ei R Y) H9 s9->m'<n->W (i+1) m' H9->∃m,m<n/\∃i o o2 t,Inv X' [] (o::o2::Ei R Y) t s9/\tn i s9.heap/\(∀b∈fp,t b=none)/\W i m t:=λ{H9 s9 m'} I9 hm w9=>by
    refine ⟨m',hm,i+1,some w1,some w2,H9,I9.unpinned,T.keep _ _ _ U λb d o e=>(I9.pin (b,o) (Ag _ (Ag _ (Fz d e)))).1,λb d=>?_,w9⟩
    obtain ⟨o,e,_⟩:=T.obj _ _ U b d
    exact (I9.pin (b,o) (Ag _ (Ag _ (Fz d e)))).2.1
   subst g
   have g1:PG (Dm X a B (x::k::ys) fp s3 (upd D j.heap.objs.size (.dT []))) (.Tuple [.Name x px,.Name k M] kt pt) (Q3 X.K 2 (bA (Sq 0) (bA (Sq 1) O0))) :=
    iE (X:=Dm X a B (x::k::ys) fp s3 (upd D j.heap.objs.size (.dT []))) hc (Pj (Mc (i:=0) (x:=x) h9 rfl (On C.own) (Ru C.own)) (Pj (Mc (i:=1) (x:=k) h9 rfl (On O) (Ru O)) aM))
   refine Gb (g1 _ s8 _ H8 y u (λj2 t=>j2=some w1::some w2::Ei R Y/\t=H8) j8 r8 ⟨tp,[w1,w2],ey,x1,rfl,_,_,rfl,_,_,rfl,rfl,rfl,rfl⟩) λ_ s9 f => ?_
   obtain ⟨x7,H9,I9,e9,x4⟩ := f
   subst e9 x4
   refine Gb (ht fp s3 _ _ s9 _ _ _ I9 q4) λok x5 f => ?_
   obtain ⟨x6,h3,N⟩ := f
   cases ok with
   | false =>
    rw[if_neg Bp] at N ⊢
    obtain ⟨m',hm,x3⟩:=q5 _ N
    exact again h3 hm x3
   | true =>
    rw[if_pos rfl] at N ⊢
    refine Gb (hk fp s3 _ _ x5 _ _ _ h3 N) λzk q7 f => ?_
    obtain ⟨vk,x9,j9,q3,j5⟩ := f
    refine Gb (hv fp s3 _ _ q7 _ _ _ j9 j5) λzv y3 f => ?_
    obtain ⟨vv,y0,j1,j7,j4⟩ := f
    obtain ⟨x8,kk,b,ha,eb,d,hz,m',hm,j0⟩:=j3 _ _ _ j4
    subst eb
    cases (show zk=Ay b from q3)
    exact wH (X:=Dm X a B (x::k::ys) fp s3 (upd D j.heap.objs.size (.dT []))) (A:=X.A) hu j1 ha d hz j7 λy1 x0=>again x0 hm j0
 exact codeAny_compStart_dict (S _ rfl) (T.self X.A 0 _ _ _ h0 (S _ rfl))
end
end Nd
namespace DL
open PySem PySem.Spec PyProof.Rows L2 Nd
section
variable{K:PySem.W.Frag}
theorem X2{H:Hp}{kv:List (List Jo×V)}{ks:List (List Int×Ae)}{i:Nat}{k:List Jo}{v:V}(r:DRel K H kv ks)(h:kv[i]? = some (k,v)):∃w d,ks[i]? = some (w,d)/\k=Lc w:=by
 have e:=congrArg (λl=>l[i]?) r.key
 simp only[Bj,h,Oo] at e
 cases q:ks[i]? with
 | none=>rw[q] at e; cases e
 | some p=>rw[q] at e; exact ⟨p.1,p.2,rfl,Bv e⟩
theorem K4{H:Hp}{t:Addr}{w:List Int}(h:H t=some (.tup ((Lc w).map kV)))(a:(Lc w).length<=Aq):RdF K H (.ref t) (Br w) []:=by
 rw[iB] at h
 refine .tup h ?_ (RdFs.ints w)
 unfold Lc at a
 rw[Af] at a ⊢
 exact a
theorem xB{a b:Addr}{m s:Md}{ks:List (List Int×Ae)}{es:List Ae}{F G:List Addr}:IterOk K (BL K a b ks.length) [⟨some (.ref a),.dat (Ke m) (.dict (Ou ks)),F⟩,⟨some (.ref b),.dat (Ke s) (.list es),G⟩] (mdZip m s) ((ks.zip es).map λp=>.tuple [Br p.1.1,p.2]) where
 md:=by cases m <;> cases s <;> simp [mdZip]
 hd:=λe he=>by
  rcases An.mp he with rfl | he
  ·exact dA
  ·rw[Al.mp he]
   exact dA
 np:=λz e he=>by
  rcases An.mp he with rfl | he
  ·cases m <;> cases s <;> first | rfl | cases z
  ·rw[Al.mp he]
   cases m <;> cases s <;> first | rfl | cases z
 go:=λH n i h I=>by
  obtain ⟨c,r,o,e,q,C,j,_⟩:=(Jg h Ab).dict_inv
  cases e
  obtain rfl:=Ju q
  obtain ⟨N,l,O,A,f,g,_,_⟩:=(Jg h (Ad _ Ab)).list_inv
  cases A
  have U:=g.len
  rw[Af,Pn] at I
  exact ⟨r,l,l[i],C,Rf j,Pq.of f,by omega,by simp [show i<l.length by omega]⟩
 yld:=λH n i x Y h I y=>by
  obtain ⟨c,r,o,e,q,C,j,_⟩:=(Jg h Ab).dict_inv
  cases e
  obtain rfl:=Ju q
  obtain ⟨N,l,O,A,f,g,rfl,_⟩:=(Jg h (Ad _ Ab)).list_inv
  cases A
  rw[Af,Pn] at I
  obtain ⟨p,t,k,v,u,rfl,M,rfl,R,S,V,T⟩:=y
  obtain ⟨w,d,W,rfl⟩:=X2 j (R r C)
  have E:=T l (Pq.of f)
  obtain ⟨X,Q,B,D,J⟩:=g.get (i:=i) (e:=es[i]) (by simp [show i<es.length by omega])
  rw[E] at B
  cases B
  have L:=Fe M (.tup [.ref t,u])
  refine ⟨L,.tuple [Br w,es[i]],Q,?_,.tup Ds (by simp [Hh]) ?_,λc P=>⟨_,Ad _ Ab,Ad _ (J.subset P)⟩⟩
  ·rw[Bj,show (ks.zip es)[i]? = some ((w,d),es[i]) from List.getElem?_zip_eq_some.mpr ⟨W,by simp [show i<es.length by omega]⟩]
   rfl
  ·have:=RdFs.cons ((K4 (K:=K) S V).kp (Kp.of L)) (RdFs.cons (D.kp (Kp.of L)) RdFs.nil)
   rw[Ec] at this
   exact this
 stop:=λH n h=>by
  obtain ⟨c,r,o,e,q,C,j,_⟩:=(Jg h Ab).dict_inv
  cases e
  obtain rfl:=Ju q
  obtain ⟨N,l,O,A,f,g,_,_⟩:=(Jg h (Ad _ Ab)).list_inv
  cases A
  have U:=g.len
  refine ⟨r,l,C,Rf j,Pq.of f,?_⟩
  rw[Af,Pn]
  omega
end
def IJ(d:DE):DI:=λc P=>d c λx a=>match x with
 | .dat m (.dict X)=>∃b,X=Ou b/\b.length<=1000000/\P (Ke m) (b.map λp=>Br p.1) a
 | _=>False
def zV(e:DA):DI:=λc P=>e c λd a=>match d with
 | [.dat m (.dict X),.dat m' (.list es)]=>∃b,X=Ou b/\P (mdZip m m') ((b.zip es).map λp=>.tuple [Br p.1.1,p.2]) a
 | _=>False
section
variable{X:Cx}{i e a b:Expr}{g:DE}{d:DA}{c:List Expr}{k:Nat}{f p pos:Pos}
theorem gW(W:Gl X "zip")(t:X.mg "zip" = none)(h:oT X [a,b] d)(v:Bn [a,b] X.env=(false,eval a X.env)::Bn [b] X.env:=by rfl)(I:(Hj pos (Bn [b] X.env)).any (·.1)=false:=by rfl):wD X (.Tuple c k f) (.Call (.Name "zip" p) [a,b] [] pos) (zV d):=by
 refine PI.imp (N0 W t h v I) λσ H R h=>?_
 obtain ⟨q,Y,S,T,Z,P,rfl,z,F,Q,k⟩:=h
 refine ⟨q,Y,S,T,Z,_,rfl,z,F,Q,λxs i As us o r V U C w j g=>?_⟩
 split at g
 ·rename_i m X' N x
  obtain ⟨A,rfl,g⟩:=g
  obtain ⟨v1,y,v2,F2,rfl,e⟩:=Wy w j C
  obtain ⟨a,M,D,rfl,E,ha,l,_⟩:=(e.told mem_mid).dict_inv
  obtain rfl:=Ju E
  obtain ⟨b,u,G,rfl,J,rb,rfl,O⟩:=(e.told Fd).list_inv
  refine ⟨a,b,M,rfl,ha,⟨u,Pq.of J⟩,?_⟩
  rw[Rf l]
  have B:=(e.mid.wk (Xi _)).tomid
  have L:At X.K q Y i.n ((o++[⟨some (.ref a),.dat (Ke m) (.dict (Ou A)),y⟩])++⟨some (.ref b),.dat N (.list x),b::G⟩::T) r:=by rw[Bt]; exact B
  have s:=(L.mid.wk (Xi _)).tomid
  rw[Bt] at s
  exact k _ _ i _ [_,_] o r V U s xB (by rw[Af,Pn]; exact Cg (Nat.min_le_right _ _) O) g
 ·exact g.elim
end
def dI(ks:List (List Int×Ae)):List (List Jo×Ae):=ks.map λp=>(Lc p.1,p.2)
section
variable{K:PySem.W.Frag}{d H g:Hp}{X:Addr->Prop}{n:Nat}{E S T:List Ent}
theorem zL{kv:List (List Jo×V)}{ks:List (List Int×Ae)}(a:kv.map (·.1)=(dI ks).map (·.1))(b:RdFs K H (kv.map (·.2)) ((dI ks).map (·.2)) []):DRel K H kv ks:=by
 unfold dI at a b
 rw[Dn] at a b
 exact ⟨a,b⟩
theorem X1{kv:List (List Jo×V)}{ks:List (List Int×Ae)}(r:DRel K H kv ks):kv.map (·.1)=(dI ks).map (·.1)/\RdFs K H (kv.map (·.2)) ((dI ks).map (·.2)) []:=by
 unfold dI
 rw[Dn,Dn]
 exact ⟨r.key,r.val⟩
theorem At.dNew(h:At K d X n E H){D:Addr}(c:H D=Qv):At K d X n (⟨some (.ref D),.dT (dI []),[D]⟩::E) (upd H D (.dT [])):=by
 have i:=Fe c (.dT [])
 refine (h.grow (n':=n) i (Aj _)).push ⟨D,[],rfl,rfl,Ds,rfl,.nil⟩ (λf g=>?_) λa b=>?_
 ·have e:=h.free c f g
  refine ⟨λ_ a b z=>?_,λ_ a b z=>?_⟩
  ·rw[Al.mp b] at z
   exact e z
  ·rw[Al.mp z] at b
   exact e (Gu _ _ b)
 ·rw[Al.mp b]
  exact .inl (h.new0 c)
theorem At.dPut{D:Addr}{ks:List (List Int×Ae)}{w:List Int}{v:V}{e:Ae}(h:At K d X n (⟨some (.ref D),.dT (dI ks),[D]⟩::E) H)(r:RdF K H v e []):∃kv,H D=some (.dT kv)/\kv.length=ks.length/\At K d X n (⟨some (.ref D),.dT (dI (Rh ks w e)),[D]⟩::E) (upd H D (.dT (Oj kv (Lc w) v))):=by
 obtain ⟨a,kv,I,L,y,t,s⟩:=h.ok _ Ab
 have u:some (V.ref D)=some (V.ref a):=I
 cases u
 have i:=zL t s
 have l:=Bb.mp h.sep
 have x:=h.sub (Cy _ _)
 have kp:∀{F:List Addr},D∉F->Kp F H (upd H D (.dT (Oj kv (Lc w) v))):=λ{F} B b o q z=>by
  have : b≠D:=by
   rintro rfl
   rw[y] at q
   cases q
   rcases z with z | z
   ·exact B z
   ·rcases z with ⟨_,z⟩ | ⟨_,_,z⟩ <;> cases z
  rw[Dr this]
  exact q
 have m:d D=Qv:=by
  rcases h.new _ Ab D Ab with z | z
  ·exact z
  ·cases z.2
 have j:=(mL w r i).kp (kp Bd)
 obtain ⟨C,G⟩:=X1 j
 refine ⟨kv,y,Rf i,?_⟩
 refine ⟨λf hf=>?_,Bb.mpr ⟨λf hf=>⟨λp a g=>(l.1 f hf).1 p a g,λp a g=>(l.1 f hf).2 (p.imp id id) a g⟩,l.2⟩,λf hf=>?_,λb o J q=>?_,λb o q=>?_,λb A=>?_⟩
 rotate_right
 ·obtain ⟨z,c,k,f,t,s⟩:=h.xd b A
  refine ⟨z,c,k,f,(Dr ?_).trans t,s⟩
  rintro rfl
  exact z m
 ·rcases An.mp hf with rfl | hf
  ·exact ⟨D,_,rfl,rfl,Ds,C,G⟩
  ·exact (x.ok f hf).kp (kp ((l.1 f hf).1 (.inr rfl) D Ab)) (Aj _)
 ·rcases An.mp hf with rfl | hf
  ·intro a g
   rw[Al.mp g]
   exact .inl m
  ·exact x.new f hf
 ·rw[Dr (Fn q m)]
  exact h.same b o J q
 ·rw[Dr (Fn q m)]
  exact h.dom b o q
theorem At.dGot{D:Addr}{ks:List (List Int×Ae)}(h:At K d X n (⟨some (.ref D),.dT (dI ks),[D]⟩::E) H):At K d X n (⟨some (.ref D),.dat .ow (.dict (Ou ks)),[D]⟩::E) H:=by
 obtain ⟨a,q,m,p,o,l,k⟩:=h.ok _ Ab
 have e:some (V.ref D)=some (V.ref a):=m
 cases e
 have c:=zL l k
 have i:=Bb.mp h.sep
 refine (h.sub (Cy _ _)).push ⟨_,rfl,.dic o c.key c.val,λ_=>Co.mpr ⟨Bd,Dv⟩,λz=>nomatch z⟩ (λf g=>⟨λj a b=>(i.1 f g).1 (.inr rfl) a b,λj a b=>(i.1 f g).2 (.inl rfl) a b⟩) λa b=>?_
 rcases h.new _ Ab a b with z | z
 ·exact .inl z
 ·cases z.2
end
def mJ(a:List Int->Ae->Nat->Prop)(y z:DV)(b:DS):Prop:=match y,z with
 | .dat _ k,.dat _ e=>∃w,k=Br w/\imm e=true/\a w e b.n
 | _,_=>False
def iZ(dc:DT)(f h:DE)(g:DS)(e:List Int->Ae->Nat->Prop)(i:Nat->Prop):Prop:=dc g λc a=>match c with
 | true=>f a λy d=>h d λz b=>mJ e y z b
 | false=>i a.n
def iS(p:DI)(o:List Nat)(dc:DT)(j l:DE):DE:=λk P=>p k λm c b=>c.length<=1000000/\∃I:Nat->List (List Int×Ae)->Nat->Prop,I 0 [] b.n /\
 (∀i d a n,c[i]? = some d->I i a n->∃g h,d=.tuple [g,h]/\iZ dc j l ⟨.dat m g::.dat m h::frD b.sl o,n⟩ (λw e f=>I (i+1) (Rh a w e) f) (λf=>I (i+1) a f)) /\
 ∀a n,I c.length a n->P (.dat .ow (.dict (Ou a))) ⟨b.sl,n⟩
theorem kN(ks:List (List Int×Ae))(w:List Int)(d:Ae):(Rh ks w d).length<=ks.length+1:=by
 unfold Rh
 split
 ·rw[Af]; omega
 ·rw[Bf]; simp
section
variable{K:PySem.W.Frag}{f H g:Hp}{Y:Addr->Prop}{n:Nat}{E S T:List Ent}
theorem vY{di:DI}{A:List Nat}{dc:DT}{dk dv:DE}:∀σ H Q,LE K (iS di A dc dk dv) σ H Q->tJ K (LI K di) A (LT K dc) (LE K dk) (LE K dv) σ H Q:=by
 intro σ H Q h
 obtain ⟨f,Y,S,T,δ,P,rfl,hS,hA,hd,k⟩:=h
 refine ⟨f,Y,S,T,δ,_,rfl,hS,hA,hd,λm u C J l p H1 e1 e2 k4 it hz p1=>?_⟩
 obtain ⟨k8,I,h0,hs,hf⟩:=p1
 have k7:=kE (n:=1000000) (Aj _)
 rw[<- e1]
 intro D hD
 refine ⟨λi q H=>q=u.length - i/\i<=u.length/\∃j n,At K f Y n (⟨some (.ref D),.dT (dI j),[D]⟩::(p++(l++T))) H/\j.length<=i/\I i j n,⟨u.length,by simp,Di _,[],C.n,k4.dNew hD,Aj _,h0⟩,?_⟩
 (intro i q H q_; obtain ⟨rfl,hi,j,n,R,hl,hI⟩ := q_)
 have o:∀e∈l,Gr K H n e:=λe he=>R.ok e (Ad _ (Ag _ (Ak _ he)))
 by_cases s:i<u.length
 ·refine .inr ⟨it.go H n i o s,λx g y=>?_⟩
  obtain ⟨s1,d,F,h1,h2,h3⟩:=it.yld H n i x g o s y
  obtain ⟨B,U,rfl,k0⟩:=hs i d j n h1 hI
  obtain ⟨t,xs,rfl,ht,rt,_⟩:=h2.tup_inv
  cases rt with
  | @cons v _ xs _ M _ r1 rt =>
   cases rt with
   | @cons N _ xs _ X G r2 rt =>
    cases rt
    have k1:At K f Y n ((⟨some (.ref D),.dT (dI j),[D]⟩::p)++⟨some v,.dat m B,M⟩::(l++T)) g:=At.item (S:=⟨some (.ref D),.dT (dI j),[D]⟩::p) R s1 r1 (λa ha=>h3 a (Ak _ ha)) it.md it.hd it.np
    have h6:At K f Y n ((⟨some v,.dat m B,M⟩::⟨some (.ref D),.dT (dI j),[D]⟩::p)++(l++T)) g:=k1.mid
    have L:At K f Y n ((⟨some v,.dat m B,M⟩::⟨some (.ref D),.dT (dI j),[D]⟩::p)++⟨some N,.dat m U,X⟩::(l++T)) g:=At.item h6 (Sx.refl _) r2 (λa ha=>h3 a (Ag _ (Ak _ ha))) it.md it.hd it.np
    have O:At K f Y n (⟨some v,.dat m B,M⟩::⟨some N,.dat m U,X⟩::⟨some (.ref D),.dT (dI j),[D]⟩::(p++(l++T))) g:=L.mid.perm (Dk _ _ _)
    have h9:=At.view (S:=p) O (λe he=>Ad _ (Ad _ (Ad _ (Ak _ he)))) A
    have k6:At K f Y n ((⟨some v,.dat m B,M⟩::⟨some N,.dat m U,X⟩::Vb p A)++⟨some (.ref D),.dT (dI j),[D]⟩::(p++(l++T))) g:=by
     have z:=h9.mid
     refine z.perm ?_
     exact (Dj).cons _
    have k2:Sl (⟨some v,.dat m B,M⟩::⟨some N,.dat m U,X⟩::Vb p A) ⟨.dat m B::.dat m U::frD C.sl A,n⟩:=by
     unfold Sl
     rw[Ao,Ao,cA e2]
    have hv:vs (⟨some v,.dat m B,M⟩::⟨some N,.dat m U,X⟩::Vb p A)=some v::some N::Ei (vs p) A:=by
     rw[<- bX]
     rfl
    refine ⟨t,v,N,rfl,Ta.of ht,λH2=>∃m',m'<u.length - i/\_,λkx vx H3=>∃(Z:List (List Jo×V)) (k:List Jo) (b:Addr),H3 D=some (.dT Z)/\kx=.ref b/\H3 b=some (.tup (k.map kV))/\Z.length<Aq/\∃m',m'<u.length - i/\_,λH2 q=>q,λkx vx H3 q=>q,?_⟩
    rw[<- hv]
    refine ⟨f,Y,_,⟨some (.ref D),.dT (dI j),[D]⟩::(p++(l++T)),_,_,rfl,k2,k6,k0,λc h7 S2 H2 f1 f2 h4 p2=>?_⟩
    cases c with
    | false=>exact oK ⟨u.length - (i+1),by omega,rfl,s,j,h7.n,h4.sub (Bk _ _),by omega,p2⟩
    | true =>
     refine mF ⟨f,Y,S2,⟨some (.ref D),.dT (dI j),[D]⟩::(p++(l++T)),h7,_,f1,f2,h4,p2,λyk k3 vk Fk S3 H3 f3 f4 k5 p3=>?_⟩
     refine ⟨f,Y,S3,⟨some vk,yk,Fk⟩::⟨some (.ref D),.dT (dI j),[D]⟩::(p++(l++T)),k3,_,f3,f4,k5,p3,λyv W vv Fv S4 H4 f5 f6 E p4=>?_⟩
     unfold mJ at p4
     split at p4
     ·rename_i mk k9 mv h8
      obtain ⟨w,rfl,im,p5⟩:=p4
      obtain ⟨b,rfl,hb⟩:=Ui (E.told Fd)
      have r:=E.told mem_mid
      obtain rfl:=r.imm im
      have h5:At K f Y W.n (⟨some (.ref D),.dT (dI j),[D]⟩::(p++(l++T))) H4:=E.drop2.sub (Bk _ _)
      obtain ⟨kv,g1,g2,g3⟩:=h5.dPut (w:=w) r
      have:=kN j w h8
      exact ⟨kv,Lc w,b,g1,rfl,hb,by omega,u.length - (i+1),by omega,rfl,s,Rh j w h8,W.n,g3,by omega,p5⟩
     ·exact p4.elim
 ·have e:i=u.length:=by omega
  subst e
  refine .inl ⟨it.stop H n o,k _ ⟨C.sl,n⟩ _ [D] p H e1 e2 ?_ (hf j n hI)⟩
  have O:At K f Y n (⟨some (.ref D),.dat .ow (.dict (Ou j)),[D]⟩::(p++T)) H:=R.dGot.sub (((Ci p).append (Bk l T)).cons₂ _)
  exact O.tomid
end
section
variable{X:Cx}{h i iter:Expr}{x b:Str}{g c pt pos:Pos}{l:Nat}{d:List Expr}{a:Scope}{e:List (Str×Addr)}{ys:List Str}{k:List Nat}{m:DI}{dc:DT}{f j:DE}
theorem wV(u:X.A.units+64<cLine)(C:CompScope X a e x ys k)(n:cZ a b)(o:(x::b::ys).Nodup)(q:X.calm=true)(r:wD X (.Tuple [.Name x g,.Name b c] l pt) iter m)(p:∀fp s H,rF (Dm X a e (x::b::ys) fp s H) d (LT X.K dc))(t:∀fp s H,Fm (Dm X a e (x::b::ys) fp s H) h f)(v:∀fp s H,Fm (Dm X a e (x::b::ys) fp s H) i j)(w:∀x,Cz iter X.env x=pure x:=by intro _; rfl):Fm X (.DictComp h i [⟨.Tuple [.Name x g,.Name b c] l pt,iter,d,0⟩] a pos) (iS m k dc f j):=PE.imp (uT C n o q (HL u) r p t v w) vY
end
end DL
namespace Nd
open PySem PySem.Spec PySem.Calls PyProof.Rows PyProof.V L2
def EI(r:Addr)(j:Int)(h:Heap):Prop:=∃t u v,IsRange h r 0 j 1 t u v
abbrev A6(r:Addr)(j:Int):HO:=.ext (EI r j)
section
variable{prog:Bl}{w:World}{A:Ce}{E:Value->Ai->Prop}{s:Ai}
theorem eD{R:List Value->Ai->Prop}{r:Addr}{a b c:Int}{t u v:Tok}{n:Nat}(O:A.handled=none)(M:IsRange s.heap r a b c t u v)(k:Builtin.Range.small a b c=true)(N:Kz a b c=n)(C:n<=2 ^ 24)(h:∀(h':Heap) (m:Nat) (D:Array Value),(∀b o,s.heap.get? b=some o->h'.get? b=some o)->ItemsOf (λi v=>∃t,v=.int (a+i * c) t) D n->R D.toList { s with heap:=h',toks:=m }):wpAny (model prog w) A (collect (.ref r)) R E s:=by
 unfold collect
 refine Aa (wpAny_runValue (Fw PyProof.Rows.entry_proto_collect' ?_))
 rw[Fs PySem.F.plain_proto_collect _]
 show wpAny _ A.in1 (newList [] >>= λl=>again (.builtin "list.__iadd__" ⟨[l,.ref r],[]⟩)) _ _ s
 refine Aa (Ca ?_)
 refine Ac ⟨Px PySem.F.plain_list_iadd _,Fw PyProof.Rows.entry_list_iadd' ?_⟩
 rw[Fs PySem.F.plain_list_iadd _]
 have p:(s.heap.push { cls:=.type "list",data:=.seq ([]:List Value).toArray }).get? s.heap.objs.size=some { cls:=.type "list",data:=.seq #[] }:=Ap _ rfl
 show wpAny _ A.in1 (Ni (.ref s.heap.objs.size) (.ref r) (.ref s.heap.objs.size)) _ _ _
 have I:=wpAny_extend_range (prog:=prog) (w:=w) (A:=A) (s:={ s with heap:=s.heap.push { cls:=.type "list",data:=.seq ([]:List Value).toArray } })
  (R:=λ(q:Result) (G:Ai)=>∃(h':Heap) (m:Nat) (d:Array Value) (B:Nat),q=.ok (.ret (.ref s.heap.objs.size))/\G={ s with heap:=h',toks:=m } /\
   (∀b o,s.heap.get? b=some o->h'.get? b=some o)/\h'.get? s.heap.objs.size=some { cls:=.type "list",dict:=none,data:=.seq d B,slots:=#[] }/\ItemsOf (λi v=>∃t,v=.int (a+i * c) t) d n)
  O (Ah _ M) k N C s.heap.objs.size (.ref s.heap.objs.size) 0 p
  (λh' m d B z j g=>⟨h',m,d,B,rfl,rfl,λb o e=>z b o (Bu (Au e)) (Ah _ e),j,g⟩)
 refine Cq I (λH G x=>?_) λe G x=>?_
 ·cases H with
  | done f =>
   obtain ⟨h',m,d,B,e,rfl,z,j,g⟩:=x
   cases e
   show wpAny _ A (load s.heap.objs.size >>= _) _ _ _
   refine Aa (Wi j ?_)
   exact Ac (h h' m d z g)
  | again K =>
   refine ⟨x.1,Nz x.2 λq J y=>?_⟩
   obtain ⟨h',m,d,B,rfl,rfl,z,j,g⟩:=y
   show wpAny _ A (load s.heap.objs.size >>= _) _ _ _
   refine Aa (Wi j ?_)
   exact Ac (h h' m d z g)
 ·obtain ⟨_,_,_,_,L,_⟩:=x
  cases L
theorem Yg{Q₁:Value->Ai->Prop}{r:Addr}{a b c:Int}{t u v:Tok}{n:Nat}(C:A.handled=none)(q:IsRange s.heap r a b c t u v)(f:Builtin.Range.small a b c=true)(z:Kz a b c=n)(p:n<=1000)(h:∀(h':Heap) (m:Nat) (d:Array Value),(∀b o,s.heap.get? b=some o->h'.get? b=some o)->ItemsOf (λi v=>∃t,v=.int (a+i * c) t) d n->Q₁ (.ref h'.objs.size) { s with heap:=h'.push { cls:=.type "tuple",data:=.seq d },toks:=m }):Hb (model prog w) A (.call (.builtin "tuple.__new__") ⟨[.type "tuple",.ref r],[]⟩) (wants Q₁ E) s:=by
 refine Xq ?_
 show wpAny _ A.in1 (do checkBuiltinCall "tuple.__new__" ⟨[.type "tuple",.ref r],[]⟩; again (.builtin "tuple.__new__" ⟨[.type "tuple",.ref r],[]⟩)) _ _ s
 refine Aa (Ja (F.newCall_tuple_1 _) (Ac ⟨Px F.plain_tuple_new _,Fw F.entry_tuple_new ?_⟩))
 rw[Fs F.plain_tuple_new _]
 have x:=sub_tuple_self
 have j:=init_tuple_lookup
 have B:=madeHere_tuple
 have l:s.TypeIs (.ref r) "range" := ⟨_,q,rfl⟩
 have k:A.in1.handled=none:=C
 wp_walk using Hv l,eD k q f z (by omega)
 intro h' m d y g
 show wpAny _ _ (Gj d.toList.toArray >>= λv=>ret v) _ _ _
 unfold Gj
 refine Aa (Ca ?_ (by show d.toList.toArray.size<=Aq; simp only[Array.toArray_toList]; rw[g.1,Hh]; omega))
 refine Ac ?_
 have e:d.toList.toArray=d:=by simp
 rw[e]
 exact h h' m d y g
end
theorem eG:∀{n:Nat} {a:Array Value},a.size=n->(∀(i:Nat) v,a[i]? = some v->∃t,v=Lb (i:Int) t)->Ez a.toList ((Cd n).map λk:Nat=>(k:Int)):=by
 intro n a g h
 have b:∀(l:List Value) (m:Nat),(∀(i:Nat) v,l[i]? = some v->∃t,v=Lb ((m+i:Nat):Int) t)->Ez l ((List.range' m l.length).map λk:Nat=>(k:Int)):=by
  intro l
  induction l with
  | nil=>intro m _; exact .nil
  | cons x l f =>
   intro m d
   obtain ⟨t,e⟩:=d 0 x rfl
   have:=f (m+1) λi v c=>by
    obtain ⟨t,e⟩:=d (i+1) v c
    exact ⟨t,by rw[e]; congr 1; omega⟩
   rw[Bm,List.range'_succ,Ao]
   rw[e]
   exact .cons _ t this
 have:=b a.toList 0 λi v c=>by
  obtain ⟨t,e⟩:=h i v (by simpa using c)
  exact ⟨t,by rw[e]; congr 1; omega⟩
 rw[List.range_eq_range']
 have e:a.toList.length=n:=by simpa using g
 rw[e] at this
 exact this
section
variable{X:Cx}
def GP:List V->Hp->VK->Prop:=λa H Q=>∃j:Int,a=[.int j]/\∀r,H r=none->Q (.ref r) (upd H r (A6 r j))
theorem lW:Mf X (.type "range") GP:=by
 intro c s f H l i Q I r h
 obtain ⟨j,rfl,q⟩:=h
 obtain ⟨u,rfl,t,rfl⟩:=vals1 r
 refine call_range_1 ⟨.ref s.heap.objs.size,_,I.laid (a:=s.heap.objs.size) (o:=A6 s.heap.objs.size j) (t':=s.toks+1+1) (λb o e=>Ah _ e) (Aj _) ?_,rfl,q _ (I.hok.fresh (Aj _))⟩
 refine ⟨⟨_,_,_,Ap _ rfl⟩,⟨_,Ap _ rfl⟩,λg d ⟨t,u,v,e⟩ k=>⟨t,u,v,k _ e⟩⟩
def EN:List V->Hp->VK->Prop:=λa H Q=>∃(r:Addr) (j:Int),a=[.ref r]/\H r=some (A6 r j)/\0<=j/\j<=1000/\∀l,H l=none->Q (.ref l) (upd H l (.tup (((Cd j.toNat).map λn:Nat=>(n:Int)).map V.int)))
theorem kQ(C:X.calm=true):Mf X (.type "tuple") EN:=by
 intro f s m H P N Q I r h
 obtain ⟨p,j,rfl,K,M,O,q⟩:=h
 obtain ⟨u,rfl,G⟩:=vals1 r
 cases G
 obtain ⟨⟨t,u,v,J⟩,_,_⟩:=(show Hl X.prog X.w H s.heap p (A6 p j) from I.hok p _ K)
 have L:Kz 0 j 1=((j.toNat:Nat):Int):=by rw[rangeSize_one]; split <;> omega
 refine callType_codes (Q₁:=λd c=>c.TypeIs d "tuple" /\ EP X f m Q d c) F.called_tuple (F.typeCall_tuple_1 _) F.entry_object_init
  (Yg (prog:=X.prog) (w:=X.w) (E:=X.xe) (Q₁:=λd c=>c.TypeIs d "tuple" /\ EP X f m Q d c) (A:=X.A.in1) (show X.A.in1.handled=none from I.ok.hd C) J (small_one (by omega) (by omega) (by omega) (by omega)) L (by omega) λx B k D l=>⟨⟨_,Ap _ rfl,rfl⟩,?_⟩) λd c g=>?_
 ·have z:Inv X f m H { s with heap:=x,toks:=B }:=I.kept D
  have y:Gf (((Cd j.toNat).map λn:Nat=>(n:Int)).map V.int) k.toList:=by
   refine C6 (eG ?_ ?_)
   ·exact l.1
   ·intro i v y
    obtain ⟨t,e⟩:=l.2 i v y
    exact ⟨t,by rw[e]; congr 1; omega⟩
  refine ⟨.ref x.objs.size,_,z.laid (a:=x.objs.size) (o:=.tup (((Cd j.toNat).map λn:Nat=>(n:Int)).map V.int)) (t':=B) (λb o e=>Ah _ e) (Aj _) ⟨?_,k.toList,y,?_⟩,rfl,q _ (z.hok.fresh (Aj _))⟩
  ·rw[Af,Af,Dh]; exact sz (by omega)
  ·have e:k=k.toList.toArray:=by simp
   rw[e]
   exact IsTup.new _ _
 ·exact ⟨g.1,F.args_object_init_2 d _,object_init_meets F.called_tuple.init.lookup F.called_tuple.made (by decide) X.prog X.w X.A.in1 _ c ⟨g.1,rfl,g.2⟩⟩
end
end Nd
namespace DL
open PySem PySem.Spec PyProof.Rows L2 Nd
def HF(K:PySem.W.Frag)(h:PF):Sp:=λg H Q _=>∃(b:List Ent) (n:Nat) (f:List Ae) (R:Ae->Prop) (C:List Addr),b.map Ent.v=g.map some/\(∀e∈b,Gr K H n e)/\datas (b.map Ent.x)=some f/\h f R/\(∀a∈C,H a≠none/\∀e∈b,a∉e.F) /\
 ∀v d F c,R d->RdF K c v d F->(∀a∈F,a∉C)->Sx H c->Q v c
def retA(R:Ae->Prop):DEnds where
 nx:=λ_=>R .none
 rt:=λx _=>∃m d,x=.dat m d/\m≠.pk/\R d
section
variable{K:PySem.W.Frag}{b H c:Hp}{X:Addr->Prop}{n:Nat}{E S T:List Ent}
theorem At.pushS(h:At K b X n E H){v:V}{d:Ae}{F:List Addr}(r:RdF K H v d F)(g:∀f∈E,∀a∈cells f,a∉F):At K b X n (⟨some v,.dat .sh d,F⟩::E) H :=
 h.push ⟨v,rfl,r,λz=>(nomatch z),λz=>(nomatch z)⟩ (λf e=>⟨λ_ a c=>(nomatch c),λ_ a c=>g f e a c⟩) λa c=>(nomatch c)
end
section
variable{P:Bl}{w:World}{K:PySem.W.Frag}{mg:Str->Option Value}{base:Heap}
theorem IT{As:List Ent}{k:Nat}:∀e∈As.map eI++Jp k,∀a∈e.F,∃f∈As,a∈f.F:=λe he a b=>by
 rcases Aw.mp he with he | he
 ·obtain ⟨f,c,rfl⟩:=Df.mp he
  refine ⟨f,c,?_⟩
  obtain ⟨v,x,F⟩:=f
  cases x <;> exact b
 ·rw[(Hu.mp he).2] at b
  exact nomatch b
theorem zZ{x j:Str}{st:Stmt}{f:Addr}{fd:Dc}{N ps:List Str}{k:Nat}{pf:PF}{db:DB}(F:Fun K x j st f fd)(S:FnScope N ps (Cf st))(hb:∀(l:Value) (A:Ce) (outer:List Env) (s:Ai) (H:Hp) (E:XK),Room k (A.deeper (Sv j (Cf st) s.heap.objs.size f l))->cG (Qo La P w K mg base N j (Cf st) f l A outer s H E).nox (Kt st) db)(h:∀ds R,pf ds R->ds.length=ps.length/\db (retA R) ⟨args0 ds (N.length - ps.length),0⟩):FnOk P w K mg base La (k+1) f fd ps (HF K pf):=by
 refine F.ok S (λvs H Q E z=>?_) λl A outer s H us Q E hr z=>?_
 ·obtain ⟨As,n,ds,R,C,T,ok,q,V,_⟩:=z
  have l1:=(h ds R V).1
  have X:=Lv q
  rw[Af] at X
  have W:=congrArg Ft T
  rw[Af,Af] at W
  omega
 ·obtain ⟨As,n,ds,R,C,T,ok,q,V,hG,Y⟩:=z
  obtain ⟨l1,hd⟩:=h ds R V
  have X:=Lv q
  rw[Af] at X
  have W:=congrArg Ft T
  rw[Af,Af] at W
  let M:Hp:=λa=>open Classical in if a∈C then none else H a
  have G:∀{a},a∈C->M a=none:=λz=>if_pos z
  have D:∀{a},a∉C->M a=H a:=λz=>if_neg z
  -- what holds at the end
  have y:∀{E':List Ent} {n':Nat} {t:Hp},At K M (λ_=>False) n' (E'++[⟨none,.grd H,C⟩]) t->Sx H t:=λ{E' n' t} B b o e=>by
   by_cases hb:b∈C
   ·obtain ⟨o',g1,g2⟩:=B.ok _ (Ag _ Ab) b hb
    rw[e] at g1
    cases g1
    exact g2
   ·exact B.same b o (λz=>z) (by rw[D hb]; exact e)
  refine ⟨_,hb l A outer s H E hr,M,λ_=>False,As.map eI++Jp (N.length - ps.length),[⟨none,.grd H,C⟩],⟨args0 ds (N.length - ps.length),0⟩,retA R,?_,?_,λe z=>?_,?_,hd,λL Z t e1 B p=>?_,λx L v F' Z t e1 B p=>?_,λ_ _ _ _ _ p=>p.elim,λ_ _ _ _ _ p=>p.elim⟩
  ·unfold vs L2.start Jp
   rw[Bh,BD,T,Qi,show us.length=ps.length by omega]
  ·unfold Sl args0 Jp
   rw[Bh,Wq q,Qi]
  ·rw[Al.mp z]; rfl
  ·have J:=jX q (N.length - ps.length)
   have hF:=IT (As:=As) (k:=N.length - ps.length)
   have gF:∀e∈As.map eI++Jp (N.length - ps.length),∀a∈C,a∉e.F:=λe he a g z=>by
    obtain ⟨f,hf,zf⟩:=hF e he a z
    exact (hG _ g).2 f hf zf
   refine ⟨λe he=>?_,Cr.mpr ⟨Tr λa g b I=>⟨λU c i=>?_,λU c i=>?_⟩,Ey _ _,λa g b I=>⟨λU c i=>?_,λU c i=>?_⟩⟩,λe he a g=>?_,λb o _ e=>?_,λb o e=>?_,λb hb=>hb.elim⟩
   ·rcases Aw.mp he with he | he
    ·have:=e8 q ok (N.length - ps.length) e he
     obtain ⟨v,x,F⟩:=e
     cases x with
     | drw=>exact absurd (J _ he).2 (by show ¬ (true=false); decide)
     | _=>exact this
    ·rw[Al.mp he]
     intro a g
     have:=(hG _ g).1
     cases q:H a with
     | none=>exact absurd q this
     | some o=>exact ⟨o,by first | rfl | exact q,by first | rfl | exact q⟩
   ·rw[(J a g).1] at i; cases i
   ·rw[(J b I).1] at i; cases i
   ·rw[(J a g).1] at i; cases i
   ·rw[Al.mp I] at i
    exact gF a g c i
   ·rcases Aw.mp he with he | he
    ·rw[(J e he).1] at g; cases g
    ·rw[Al.mp he] at g
     exact .inl (G g)
   ·by_cases hb:b∈C
    ·rw[G hb] at e; cases e
    ·rw[D hb] at e; exact e
   ·by_cases hb:b∈C
    ·rw[G hb] at e; cases e
    ·rw[D hb] at e; exact ⟨o,e⟩
  ·exact Y .non .none [] t p .non (λ_ z=>(nomatch z)) (y B)
  ·obtain ⟨m,d,rfl,hm,r⟩:=p
   obtain ⟨u,e2,rd,_⟩:=B.ok _ mem_mid
   cases e2
   have O:At K M (λ_=>False) L.n ((Z++[⟨some v,.dat m d,F'⟩])++[⟨none,.grd H,C⟩]) t:=by rw[Bt]; exact B
   refine Y v d F' t r rd (λa g=>?_) (y O)
   have sp:=(Cr.mp O.sep).2.2 _ (Ag _ Ab) _ Ab
   exact λz=>sp.2 (.inr rfl) a z g
end
def j5(f:PF)(g:DA):DE:=λe P=>g e λb a=>noPk b=true/\match datas b with
 | some c=>f c λd=>P (.dat .sh d) a
 | none=>False
theorem mX:∀{As:List Ent},noPk (As.map Ent.x)=true->∀e∈As,Pu e.x=false
 | [],_,e,he=>nomatch he
 | ⟨v,x,F⟩::As,h,e,he=>by
  rw[Ao] at h
  have a:Pu x=false/\noPk (As.map Ent.x)=true:=by
   cases x with
   | dat m d=>cases m <;> first | exact ⟨rfl,h⟩ | (simp [noPk] at h)
   | _=>exact ⟨rfl,by simpa [noPk] using h⟩
  rcases An.mp he with rfl | he
  ·exact a.1
  ·exact mX a.2 e he
section
variable{X:Cx}{CX:uR}{k:Nat}{f:Addr}{i:Dc}{ps:List Str}{c:PF}{E:XK}{x:Str}{p pos:Pos}{e:Expr}{es:List Expr}{b:DA}
theorem x6(F:FnOk X.prog X.w X.K X.mg X.base CX k f i ps (HF X.K c))(hr:Room k X.A)(hg:Gl X x)(N:X.mg x=some (.ref f))(O:PySem.W.keepIn X.K (.ref f)=true)(hb:Binds X.K i ps [])(V:Sg CX X E)(y:oT X (e::es) b)(B:(x == ("__debug__" : Str))=false:=by decide)(j:Bn (e::es) X.env=(false,eval e X.env)::Bn es X.env:=by rfl)(C:(Hj pos (Bn es X.env)).any (·.1)=false:=by rfl):Fm X (.Call (.Name x p) (e::es) [] pos) (j5 c b):=by
 refine PE.imp (aR F hr hg N O hb .nil V y B j C) λσ H Q h=>?_
 obtain ⟨H0,Y,S,T,δ,P,rfl,Z,hA,hd,R⟩:=h
 refine ⟨H0,Y,S,T,δ,_,rfl,Z,hA,hd,λxs t L us J H' e1 e2 ex U m p=>?_⟩
 subst ex
 obtain ⟨M,p⟩:=p
 cases q:datas (L.map Ent.x) with
 | none=>rw[q] at p; exact p.elim
 | some ds =>
  rw[q] at p
  rw[Ec]
  have u:=mX M
  have I:=m.dropL
  refine ⟨L,t.n,ds,_,(J++T).flatMap cells,U,λe j=>m.ok e (Ag _ (Ak _ j)),q,p,λa y=>?_,λv d F D r rd fr s=>?_⟩
  ·obtain ⟨g,hg1,l⟩:=Nr.mp y
   refine ⟨λz=>?_,λe j=>?_⟩
   ·obtain ⟨o,q⟩:=(I.ok g hg1).dom a (Gu _ _ l)
    rw[z] at q; cases q
   ·obtain ⟨_,G,hp⟩ := Cr.mp m.sep
    rcases Aw.mp hg1 with hg1 | hg1
    ·exact (hp g hg1 e (Ak _ j)).1 (.inl (u e j)) a l
    ·exact ((Cr.mp G).2.2 e j g hg1).2 (.inl (u e j)) a l
  ·refine R _ t v F J D e1 e2 (((I.grow s (Aj _)).pushS rd λf hf a y z=>fr a z (List.mem_flatMap.mpr ⟨f,hf,y⟩)).tomid) r
end
def ET(e:DA):DE:=λc P=>e c λd a=>match d with
 | [.dat _ (.tuple ds)]=>∃b:List Int,ds=b.map Ax/\(∀x∈b,0<=x/\x<60)/\P (.dat .ow (.list ((Ol b).map Ax))) a
 | _=>False
section
variable{X:Cx}{p c pos b:Pos}{e:Expr}{d:DA}
theorem Y1(u:X.calm=true)(hg:Gl X "sorted")(A:X.mg "sorted" = none)(j:Gl X "set")(t:X.mg "set" = none)(s:oT X [e] d)(M:Bn [e] X.env=[(false,eval e X.env)]:=by rfl)(f:Bn [.Call (.Name "set" c) [e] [] b] X.env=[(false,eval (.Call (.Name "set" c) [e] [] b) X.env)]:=by rfl):Fm X (.Call (.Name "sorted" p) [.Call (.Name "set" c) [e] [] b] [] pos) (ET d):=by
 refine PE.imp (aY (Xd u) hg A (by decide +kernel) (Hy (Mv (bF u) j t (by decide +kernel) s (by decide) (by decide) M rfl) Np f) (by decide) (by decide) f rfl) λσ H Q h=>?_
 obtain ⟨L,Y,S,T,δ,P,rfl,E,K,R,k⟩:=h
 refine ⟨L,Y,S,T,δ,_,rfl,E,K,R,λO i As G C H' V U I D n p=>?_⟩
 split at p
 ·obtain ⟨v,F,rfl,g⟩:=Jf D n I
  obtain ⟨o,rfl,l,B⟩:=p
  obtain ⟨a,O,rfl,s,J,hz⟩:=(g.told mem_mid).tup_inv
  obtain ⟨rfl,_⟩:=J.ints_inv
  refine ⟨a,o,CS,rfl,Ta.of s,by decide,λx y=>Xn (l x y).1 (l x y).2,λq z=>?_⟩
  refine ⟨q,o,rfl,Ds,λr G nr W Z m=>?_⟩
  rw[iL (Yx W Z) m]
  have N:=Fe z (Ys X.w q o)
  exact k _ i _ _ C _ V U ((g.drop.grow N (Aj _)).newI (RdFs.ints _) (Nb _) (by rw[Af]; exact sz (by have:=kM l; omega)) nr .ow) B
 ·exact p.elim
end
def Pe(j:Nat):List Int:=(Cd j).map λn:Nat=>(n:Int)
def HD(x:DV)(a:DS)(P:DV->DS->Prop):Prop:=match x with
 | .dat _ (.int j)=>0<=j/\j<=1000/\P (.dat .ow (Br (Pe j.toNat))) a
 | _=>False
def JQ(c:DE):DE:=λb P=>c b λx a=>HD x a P
section
variable{X:Cx}{p b pos a:Pos}{e:Expr}{c:DE}
theorem xI(s:X.calm=true)(I:Gl X "tuple")(q:X.mg "tuple" = none)(i:Gl X "range")(n:X.mg "range" = none)(L:Fm X e c)(o:Bn [e] X.env=[(false,eval e X.env)]:=by rfl)(d:Bn [.Call (.Name "range" b) [e] [] a] X.env=[(false,eval (.Call (.Name "range" b) [e] [] a) X.env)]:=by rfl):Fm X (.Call (.Name "tuple" p) [.Call (.Name "range" b) [e] [] a] [] pos) (JQ c):=by
 refine PE.imp (Mv (kQ s) I q (by decide +kernel) (Hy (Mv lW i n (by decide +kernel) (Hy L Np o) (by decide) (by decide) o rfl) Np d) (by decide) (by decide) d rfl) λN H Q h=>?_
 obtain ⟨B,Y,S,T,K,P,rfl,y,A,D,k⟩:=h
 refine ⟨B,Y,S,T,K,_,rfl,y,A,D,λx g v F w O G E f p=>?_⟩
 unfold HD at p
 split at p
 ·rename_i m j
  obtain ⟨t,z,p⟩:=p
  obtain ⟨rfl,_⟩:=(f.told mem_mid).int_inv
  refine ⟨j,rfl,λr J=>⟨r,j,rfl,Ds,t,z,λl M=>?_⟩⟩
  have C:=Fe J (A6 r j)
  have u:=Fe M (.tup ((Pe j.toNat).map V.int))
  refine k _ g _ _ w _ G E (((f.drop.grow C (Aj _)).grow u (Aj _)).pushI (RdF.tup Ds ?_ (RdFs.ints _))) p
  rw[Af]
  unfold Pe
  rw[Af,Dh]
  exact kE (by omega)
 ·exact p.elim
end
abbrev PX:=List Ae->(Ae->Prop)->(Addr->Prop)->Prop
end DL
namespace Nd
open PySem PySem.Spec PyProof.Rows L2
section
variable{X:Cx}
def BJ(K:PySem.W.Frag)(J:It)(u:List Nat)(g:TI)(w:TE)(n:L2.St)(q:Hp)(Q:VK):Prop:=∀D,q D=none->∃W:Nat->Nat->Hp->Prop,(∃m,W 0 m (upd q D (.lst [])))/\∀i m H,W i m H ->
 (J.stop i H/\Q (.ref D) H)\/(J.go i H/\∀x f,J.yld i H x f->∃(t:Addr) (l j:V),x=.ref t/\Ta K f t [l,j]/\∀o:Option V,g (some l::some j::o::Ei n u) f λh v=>∃k:Nat->Nat->Hp->Prop,(∃e,k 0 e v)/\∀b e c,k b e c ->
  (h.stop b c/\∃p,p<m/\W (i+1) p c)\/(h.go b c/\∀y r,h.yld b c y r->w (some l::some j::some y::Ei n u) r λz s=>∃a,s D=some (.lst a)/\a.length<Aq/\∃d,d<e/\k (b+1) d (upd s D (.lst (a++[z])))))
def o7(K:PySem.W.Frag)(d:TI)(e:List Nat)(a:TI)(f:TE):TE:=λb H Q=>d b H λJ c=>BJ K J e a f b c Q
theorem yY{Z iter l:Expr}{x t B:Str}{px R S pt pos:Pos}{kt:Nat}{a:Scope}{F:List (Str×Addr)}{ys:List Str}{Y:List Nat}{wi q8:TI}{te:TE}(C:CompScope X a F x ys Y)(h6:cZ a t)(h9:cZ a B)(k6:(x::t::B::ys).Nodup)(hc:X.calm=true)(hi:PI X (.Tuple [.Name x px,.Name t R] kt pt) iter wi)(a0:∀fp s H,PI (Dm X a F (x::t::B::ys) fp s H) (.Name B S) l q8)(he:∀fp s H,PE (Dm X a F (x::t::B::ys) fp s H) Z te)(hs:∀x,Cz iter X.env x=pure x:=by intro _; rfl)(y7:∀fp s H v,Cz l (Dm X a F (x::t::B::ys) fp s H).env v=pure v:=by intro _ _ _ _; rfl):PE X (.ListComp Z [⟨.Tuple [.Name x px,.Name t R] kt pt,iter,[],0⟩,⟨.Name B S,l,[],0⟩] a pos) (o7 X.K wi Y q8 te):=by
 intro E s O H Q I h
 rw[eval_ListComp]
 refine Jh (use:=none) rfl hs C.clos C.kind C.locs (Gb (hi E s O H _ I h) λv s1 h1=>Gb h1 λb6 j h2=>?_)
 obtain ⟨it,fp,tn,J,G,e,I2,T,x1,f2,q2⟩:=h2
 subst e
 have fD:G j.heap.objs.size=none:=I2.hok.fresh (Aj _)
 obtain ⟨W,⟨m0,w0⟩,q6⟩:=q2 j.heap.objs.size fD
 refine Ca ?_
 have I3:Inv X E O (upd G j.heap.objs.size (.lst [])) { j with heap:=j.heap.push { cls:=.type "list",dict:=none,data:=.seq ([]:List Value).toArray } } :=
  I2.laid (t':=j.toks) (λb u q=>Ah _ q) (Aj _) ⟨Di _,[],0,.nil,Ap _ rfl⟩
 have y6:∀b∈fp,b≠j.heap.objs.size:=λb f z=>by
  obtain ⟨o,q,_⟩:=T.obj _ _ x1 b f
  have:=Au q
  rw[z] at this
  exact absurd this (Fo _)
 have f3:∀b∈fp,Ml X E (upd G j.heap.objs.size (.lst [])) b:=λb f=>⟨by rw[Dr (y6 b f)]; exact (f2 b f).1,(f2 b f).2⟩
 generalize z1:({ j with heap:=j.heap.push { cls:=.type "list",dict:=none,data:=.seq ([]:List Value).toArray } }:Ai)=s3 at I3
 have x9:tn 0 s3.heap:=T.keep 0 _ _ x1 λb f o q=>by rw[<- z1]; exact Ah _ q
 have o3:∀b∈fp,∃o,s3.heap.get? b=some o:=λb f=>let ⟨o,q,_⟩:=T.obj _ _ x9 b f; ⟨o,q⟩
 show wpAny _ _ (Ly a X.env.globals F [] X.env.qual none .none (some X.env)) _ _ _
 refine Ri C λh4 j2 U j8=>?_
 have I4:∀tk,Inv (Dm X a F (x::t::B::ys) fp s3 (upd G j.heap.objs.size (.lst []))) [] (none::none::none::Ei O Y) (upd G j.heap.objs.size (.lst [])) { s3 with heap:=h4,toks:=tk }:=λtk=>Pk (pre:=[x,t,B]) C I3 f3 o3 j2 U j8
 have q4:tn 0 h4:=T.keep 0 _ _ x9 λb f o q=>U b o q
 generalize k:Dm X a F (x::t::B::ys) fp s3 (upd G j.heap.objs.size (.lst []))=X' at I4
 have eP:X'.prog=X.prog:=by rw[<- k]; rfl
 have eW:X'.w=X.w:=by rw[<- k]; rfl
 have eK:X'.K=X.K:=by rw[<- k]; rfl
 have eA:X'.A=X.A:=by rw[<- k]; rfl
 have eC:X'.calm=true:=by rw[<- k]; exact hc
 have N:∀{g:Hp},(∀b∈fp,g b=none)->∀b∈fp,Ml X' [] g b:=λ{g} hn b f=>by
  have ok:=(I4 0).ok
  have h3:b∈X'.ex:=by rw[<- k]; exact f
  exact ⟨hn b f,(ok.exf b h3).1,ok.exfs b h3,.inl h3,(ok.exf b h3).2,λp hp=>by rw[<- k] at hp; cases (show p∈([]:List (Addr×Obj)) from hp)⟩
 have k0:∀s5:Ai,s5={ s3 with heap:=h4,toks:=s3.toks+([]:List (Str×Value)).length } ->
   Hb (model X.prog X.w) X.A (.compLoop (.ListComp Z [⟨.Tuple [.Name x px,.Name t R] kt pt,iter,[],0⟩,⟨.Name B S,l,[],0⟩] a pos) 0 (.ref it) (.ref j.heap.objs.size) (Vk a (Ek (s3.heap.objs.size+1) a.names F) s3.heap.objs.size X.env))
    (compPost (model X.prog X.w) X.A X.xe none (EP X E O Q) (.ref j.heap.objs.size) s3.heap.objs.size) s5:=by
  rintro s5 rfl
  refine mG (λv=>y7 fp s3 (upd G j.heap.objs.size (.lst [])) v) (λn s'=>∃i o ob L g,Inv X' [] (o::ob::L::Ei O Y) g s'/\tn i s'.heap/\(∀b∈fp,g b=none)/\W i n g) ?_ m0
   ⟨0,none,none,none,_,I4 _,q4,λb f=>(f3 b f).1,w0⟩
  (intro n s6 q_; obtain ⟨i,o,ob,L,H6,I6,x0,x8,w6⟩ := q_)
  rcases q6 i n H6 w6 with ⟨x6,qn⟩ | ⟨go,step⟩
  ·have hd:=T.done X' eP eW eK eC i [] s6 _ H6 (λ_ _=>False) I6 (N x8) x0 x6
   rw[eA] at hd
   refine Gb hd λr s7 d => ?_
   obtain ⟨hr,I7⟩ := d
   subst hr
   obtain ⟨m7,x4,_⟩:=I7.loc
   have x5:s7.heap.Ns s3.heap.objs.size m7:=by rw[<- k] at x4; exact x4
   refine ⟨m7,x5,λh8 h0=>?_⟩
   have q5:H6 s3.heap.objs.size=none:=by have:=I7.free; rw[<- k] at this; exact this
   have b7:Un (gA X.stack) fp (upd G j.heap.objs.size (.lst [])) H6 s3.heap s7.heap:=by have:=I7.base; rw[<- k] at this; exact this
   have k5:∀b o,s3.heap.get? b=some o->b≠s3.heap.objs.size:=λb o q=>Bu (Au q)
   have u8:Un (gA X.stack) fp (upd G j.heap.objs.size (.lst [])) H6 s3.heap h8:=by
    refine ⟨λb o q n f hx=>(h0.2 b (k5 b o q)).trans (b7.keep b o q n f hx),λb o q n f hx=>?_,b7.free,λb o q hx=>?_,b7.tups,b7.frzs,b7.tbls⟩
    ·obtain ⟨sl,z⟩:=b7.slot b o q n f hx
     exact ⟨sl,(h0.2 b (k5 b o q)).trans z⟩
    ·obtain ⟨o',z⟩:=b7.there b o q hx
     exact ⟨o',(h0.2 b (k5 b o q)).trans z⟩
   have q9:Vh X.prog X.w H6 h8:=λb ob e=>by
    have j3:=I7.hok
    rw[eP,eW] at j3
    refine (j3 b ob e).stay (λc w' hcc q=>(h0.2 c ?_).trans q) (λ_ q=>q) λ_ _ q=>q
    rintro rfl
    rcases hcc with rfl | hcc
    ·rw[q5] at e; cases e
    ·rw[q5] at hcc; cases hcc
   have z0:s7.os=s3.os:=by have:=I7.os; rw[<- k] at this; exact this
   exact ⟨.ref j.heap.objs.size,H6,I3.call' (s':={ s7 with heap:=h8 }) (ch:=fp) z0 u8 q9 I7.bare (λb f=>⟨(f3 b f).2.2.2.1,(f3 b f).2.1,(f3 b f).2.2.2.2.1,(f3 b f).2.2.2.2.2⟩),rfl,qn⟩
  ·have j1:=T.item X' eP eW eK eC i [] s6 _ H6 (λ_ _=>False) I6 (N x8) x0 go
   rw[eA] at j1
   refine Gb j1 λr s7 d => ?_
   obtain ⟨u,hr,h7⟩ := d
   subst hr
   refine Gb h7 λ_ s8 d => ?_
   obtain ⟨y,H8,I8,r8,y8,k3,z9⟩ := d
   have v5:=I8.pinned (N z9) (T.obj _ _ k3)
   obtain ⟨tp,w1,w2,ey,a2,j6⟩:=step y H8 y8
   have v4:=j6 L
   have again:∀{H9:Hp} {s9:Ai} {m':Nat} {o9:Option V},Inv X' ([]++Oz fp s8.heap) (some w1::some w2::o9::Ei O Y) H9 s9->m'<n->W (i+1) m' H9->∃m,m<n/\∃i o ob L g,Inv X' [] (o::ob::L::Ei O Y) g s9/\tn i s9.heap/\(∀b∈fp,g b=none)/\W i m g:=λ{H9 s9 m' o9} I9 hm w9=>by
    refine ⟨m',hm,i+1,some w1,some w2,o9,H9,I9.unpinned,T.keep _ _ _ k3 λb f o e=>(I9.pin (b,o) (Ag _ (Ag _ (Fz f e)))).1,λb f=>?_,w9⟩
    obtain ⟨o,e,_⟩:=T.obj _ _ k3 b f
    exact (I9.pin (b,o) (Ag _ (Ag _ (Fz f e)))).2.1
   subst k
   have g1:PG (Dm X a F (x::t::B::ys) fp s3 (upd G j.heap.objs.size (.lst []))) (.Tuple [.Name x px,.Name t R] kt pt) (Q3 X.K 2 (bA (Sq 0) (bA (Sq 1) O0))) :=
    iE (X:=Dm X a F (x::t::B::ys) fp s3 (upd G j.heap.objs.size (.lst []))) hc (Pj (Mc (i:=0) (x:=x) k6 rfl (On C.own) (Ru C.own)) (Pj (Mc (i:=1) (x:=t) k6 rfl (On h6) (Ru h6)) aM))
   refine Gb (g1 _ s8 _ H8 y u (λk9 g=>k9=some w1::some w2::L::Ei O Y/\g=H8) v5 r8 ⟨tp,[w1,w2],ey,a2,rfl,_,_,rfl,_,_,rfl,rfl,rfl,rfl⟩) λ_ s9 d => ?_
   obtain ⟨b3,H9,I9,e9,a5⟩ := d
   subst e9 a5
   refine Gb (a0 fp s3 _ _ s9 _ _ _ I9 v4) λv2 b8 w5=>Gb w5 λb2 y9 z6=>?_
   obtain ⟨w4,k7,w8,J2,z7,v0,v6,T2,h5,j7,W2,⟨b0,a9⟩,q1⟩:=z6
   subst v0
   have D:∀{g:Hp},(∀b∈k7,g b=none)->∀b∈k7,Ml (Dm X a F (x::t::B::ys) fp s3 (upd G j.heap.objs.size (.lst []))) ([]++Oz fp s8.heap) g b:=λhn b f=>⟨hn b f,(j7 b f).2⟩
   have M:Hb (model X.prog X.w) X.A (.compLoop (.ListComp Z [⟨.Tuple [.Name x px,.Name t R] kt pt,iter,[],0⟩,⟨.Name B S,l,[],0⟩] a pos) 1 (.ref w4) (.ref j.heap.objs.size) (Vk a (Ek (s3.heap.objs.size+1) a.names F) s3.heap.objs.size X.env))
     (λr s6=>match r with | .ok _=>∃m,m<n/\∃i o ob L g,Inv (Dm X a F (x::t::B::ys) fp s3 (upd G j.heap.objs.size (.lst []))) [] (o::ob::L::Ei O Y) g s6/\tn i s6.heap/\(∀b∈fp,g b=none)/\W i m g | .error _=>False) y9:=by
    refine nX (λn2 s'=>∃i2 L g,Inv (Dm X a F (x::t::B::ys) fp s3 (upd G j.heap.objs.size (.lst []))) ([]++Oz fp s8.heap) (some w1::some w2::L::Ei O Y) g s'/\w8 i2 s'.heap/\(∀b∈k7,g b=none)/\W2 i2 n2 g) ?_ b0
     ⟨0,L,z7,v6,h5,λb f=>(j7 b f).1,a9⟩
    (intro n2 x7 q_; obtain ⟨i2,p2,q0,j0,k1,k2,z2⟩ := q_)
    rcases q1 i2 n2 q0 z2 with ⟨k8,m',y4,w'⟩ | ⟨v8,q3⟩
    ·have hd:=T2.done _ rfl rfl rfl hc i2 _ x7 _ q0 (λ_ _=>False) j0 (D k2) k1 k8
     refine Gb hd λr a4 d => ?_
     obtain ⟨hr,w7⟩ := d
     subst hr
     exact again w7 y4 w'
    ·have j5:=T2.item _ rfl rfl rfl hc i2 _ x7 _ q0 (λ_ _=>False) j0 (D k2) k1 v8
     refine Gb j5 λr a4 d => ?_
     obtain ⟨u2,hr,v3⟩ := d
     subst hr
     refine Gb v3 λ_ a1 d => ?_
     obtain ⟨z,j9,v9,a7,a8,P,y1⟩ := d
     have q7:=v9.pinned (D y1) (T2.obj _ _ P)
     refine Gb (Mc (i:=2) (x:=B) (pos:=S) k6 rfl (On h9) (Ru h9) _ a1 _ j9 z u2 (λk9 g=>k9=some w1::some w2::some z::Ei O Y/\g=j9) q7 a7 ⟨rfl,rfl⟩) λ_ z3 d => ?_
     obtain ⟨b1,y3,v1,w3,j4⟩ := d
     subst w3 j4
     refine Gb (he fp s3 _ _ z3 _ _ _ v1 (q3 z y3 a8)) λzv z8 d => ?_
     obtain ⟨vz,x3,y2,v7,z4⟩ := d
     obtain ⟨y0,ha,hz,y5,z5,a3⟩:=z4
     refine Gb (Ot _ z8 _ x3 (.ref j.heap.objs.size) [vz] (.ref j.heap.objs.size) [zv] (λ_ g=>g=upd x3 j.heap.objs.size (.lst (y0++[vz]))) y2 rfl (.cons v7 .nil) ⟨_,y0,vz,rfl,rfl,ha,hz,rfl⟩) λ_ b5 d => ?_
     obtain ⟨_,b4,k4,_,a6⟩ := d
     subst a6
     refine ⟨y5,z5,i2+1,some z,_,k4.unpinned,T2.keep _ _ _ P λb f o e=>(k4.pin (b,o) (Ag _ (Ag _ (Fz f e)))).1,λb f=>?_,a3⟩
     obtain ⟨o,e,_⟩:=T2.obj _ _ P b f
     exact (k4.pin (b,o) (Ag _ (Ag _ (Fz f e)))).2.1
   exact dX M (T2.self X.A 0 _ _ _ h5 M)
 exact Oa (k0 _ rfl) (T.self X.A 0 _ _ _ q4 (k0 _ rfl))
end
end Nd
namespace DL
open PySem PySem.Spec PyProof.Rows L2 Nd
def Z9(b:Bool)(v:DI)(p:List Nat)(l:DI)(r:DE):DE:=λu P=>v u λm o f=>∃I:Nat->List Ae->Nat->Prop,I 0 [] f.n /\
 (∀i d c n,o[i]? = some d->I i c n->l ⟨.dat m d::.un::frD f.sl p,n⟩ λs q k=>∃h:Nat->List Ae->Nat->Prop,h 0 c k.n /\
  (∀j e a g,q[j]? = some e->h j a g->a.length+1<=Aq/\Lw b My r ⟨.dat m d::.dat s e::frD f.sl p,g⟩ (λz t=>h (j+1) (a++[z]) t) (λ_=>False)) /\
  ∀a g,h q.length a g->I (i+1) a g) /\
 ∀c n,I o.length c n->P (.dat (Ss b) (.list c)) ⟨f.sl,n⟩
def pN(b:Bool)(x:DI)(r:List Nat)(p:DI)(t:DE):DE:=λw P=>x w λm q f=>∃I:Nat->List Ae->Nat->Prop,I 0 [] f.n /\
 (∀i d c n,q[i]? = some d->I i c n->∃k l,d=.tuple [k,l]/\p ⟨.dat m k::.dat m l::.un::frD f.sl r,n⟩ λu s o=>∃h:Nat->List Ae->Nat->Prop,h 0 c o.n /\
  (∀j e a g,s[j]? = some e->h j a g->a.length+1<=Aq/\Lw b My t ⟨.dat m k::.dat m l::.dat u e::frD f.sl r,g⟩ (λz v=>h (j+1) (a++[z]) v) (λ_=>False)) /\
  ∀a g,h s.length a g->I (i+1) a g) /\
 ∀c n,I q.length c n->P (.dat (Ss b) (.list c)) ⟨f.sl,n⟩
theorem iI{v:Option V}{m:Md}{d:Ae}{F:List Addr}(h:m=.sh\/m=.pk):al ⟨v,.dat m d,F⟩=⟨v,.dat m d,F⟩:=by
 rcases h with rfl | rfl <;> rfl
section
variable{K:PySem.W.Frag}
theorem ED{b:Bool}{di h5:DI}{B:List Nat}{de:DE}:∀σ H Q,LE K (Z9 b di B h5 de) σ H Q->BK (LI K di) B (LI K h5) (LE K de) σ H Q:=by
 intro σ H Q h
 obtain ⟨t,Y,S,T,δ,P,rfl,hS,hA,hd,k⟩:=h
 refine ⟨t,Y,S,T,δ,_,rfl,hS,hA,hd,λm W C J c g H1 e1 e2 k6 it hz p1=>?_⟩
 obtain ⟨I,h0,hs,hf⟩:=p1
 rw[<- e1]
 intro D hD
 refine ⟨λi q H=>q=W.length - i/\i<=W.length/\∃a n G,(b=true->G=[])/\At K t Y n (⟨some (.ref D),.acc a,D::G⟩::(g++(c++T))) H/\I i a n,⟨W.length,by simp,Di _,[],C.n,[],λ_=>rfl,k6.accNew hD,h0⟩,?_⟩
 (intro i q H q_; obtain ⟨rfl,hi,a,n,G,hG,V,hI⟩ := q_)
 have l:∀e∈c,Gr K H n e:=λe Z=>V.ok e (Ad _ (Ag _ (Ak _ Z)))
 by_cases O:i<W.length
 ·refine .inr ⟨it.go H n i l O,λx H' y o=>?_⟩
  obtain ⟨s1,d,F,h1,h2,h3⟩:=it.yld H n i x H' l O y
  have N:At K t Y n ((⟨some (.ref D),.acc a,D::G⟩::g)++⟨some x,.dat m d,F⟩::(c++T)) H':=At.item (S:=⟨some (.ref D),.acc a,D::G⟩::g) V s1 h2 h3 it.md it.hd it.np
  have U:At K t Y n (⟨some (.ref D),.acc a,D::G⟩::⟨some x,.dat m d,F⟩::(g++(c++T))) H':=(N.mid).perm (Dk _ _ _)
  have view:∀{n:Nat} {H:Hp} {e0:Ent} {hid2:List Ent} (u:Ent),At K t Y n (u::e0::⟨some x,.dat m d,F⟩::(g++hid2)) H->At K t Y n ((⟨some x,.dat m d,F⟩::u::Vb g B)++e0::⟨some x,.dat m d,F⟩::(g++hid2)) H:=λ{n H e0 hid2} u h=>by
   have g1:=At.view (S:=g) h (λe Z=>Ad _ (Ad _ (Ad _ (Ak _ Z)))) B
   have g2:=g1.view1 (e:=⟨some x,.dat m d,F⟩) (Ag _ (Ad _ (Ad _ Ab)))
   rw[iI it.md] at g2
   refine g2.perm ?_
   rw[Do,Do]
   exact (Dj).cons _
  have X:∀(u:Ent) (n:Nat),Sl (⟨some x,.dat m d,F⟩::u::Vb g B) ⟨.dat m d::u.x::frD C.sl B,n⟩:=λu n=>by
   unfold Sl
   rw[Ao,Ao,cA e2]
  have hv:∀(u:Ent),vs (⟨some x,.dat m d,F⟩::u::Vb g B)=some x::u.v::Ei (vs g) B:=λu=>by
   rw[<- bX]
   rfl
  have hB:=view (hid2:=c++T) ⟨o,.un,[]⟩ U.blank
  refine ⟨t,Y,_,_,⟨.dat m d::.un::frD C.sl B,n⟩,_,hv ⟨o,.un,[]⟩,X ⟨o,.un,[]⟩ n,hB,hs i d a n h1 hI,λm2 E h8 J2 hid2 S2 H2 f1 f2 k0 s k9 p2=>?_⟩
  obtain ⟨I2,g0,gs,gf⟩:=p2
  have k8:At K t Y h8.n (⟨some (.ref D),.acc a,D::G⟩::(⟨some x,.dat m d,F⟩::(g++(hid2++(c++T))))) H2:=by
   have z:=k0.sub (Bk S2 _)
   refine z.perm ?_
   refine Dj.trans (Iv _ ?_)
   refine Dj.trans (Iv _ ?_)
   exact gK _ _ _
  refine ⟨λr q2 H=>q2=E.length - r/\r<=E.length/\∃a n G,(b=true->G=[])/\At K t Y n (⟨some (.ref D),.acc a,D::G⟩::(⟨some x,.dat m d,F⟩::(g++(hid2++(c++T))))) H/\I2 r a n,⟨E.length,by simp,Di _,a,h8.n,G,hG,k8,g0⟩,?_⟩
  (intro r q2 H3 q_; obtain ⟨rfl,q0,j,L,G2,h7,R,h9⟩ := q_)
  have f:∀e∈hid2,Gr K H3 L e:=λe Z=>R.ok e (Ad _ (Ad _ (Ag _ (Ak _ Z))))
  by_cases A:r<E.length
  ·refine .inr ⟨s.go H3 L r f A,λy2 H4 yy=>?_⟩
   obtain ⟨s2,d2,F2,k1,k2,k3⟩:=s.yld H3 L r y2 H4 f A yy
   obtain ⟨lz,st⟩:=gs r d2 j L k1 h9
   have k7:At K t Y L ((⟨some (.ref D),.acc j,D::G2⟩::⟨some x,.dat m d,F⟩::g)++⟨some y2,.dat m2 d2,F2⟩::(hid2++(c++T))) H4:=At.item (S:=⟨some (.ref D),.acc j,D::G2⟩::⟨some x,.dat m d,F⟩::g) R s2 k2 k3 s.md s.hd s.np
   have k5:=view (hid2:=hid2++(c++T)) ⟨some y2,.dat m2 d2,F2⟩ k7.mid
   have z:=Xm (dc:=My) (N1:=λ_=>False) (N2:=λv H5=>∃a,H5 D=some (.lst a)/\a.length<Aq/\∃h4,h4<E.length - r/\(h4=E.length - (r+1)/\r+1<=E.length/\∃M n G,(b=true->G=[])/\At K t Y n (⟨some (.ref D),.acc M,D::G⟩::(⟨some x,.dat m d,F⟩::(g++(hid2++(c++T))))) (upd H5 D (.lst (a++[v])))/\I2 (r+1) M n)) (X ⟨some y2,.dat m2 d2,F2⟩ L) h7 k5 st lz (λ_ _ _ z=>z) (λe n' v H5 G' k4 h6 p=>?_)
   ·rw[hv] at z
    have w:=Ye (dt:=Sh) _ _ _ z
    unfold Sh at w
    dsimp only at w
    rw[if_pos rfl] at w
    exact w
   ·obtain ⟨xs,l1,l2,l3⟩:=h6
    exact ⟨xs,l1,by omega,E.length - (r+1),by omega,rfl,A,j++[e],n',G',k4,l3,p⟩
  ·have e:r=E.length:=by omega
   subst e
   refine .inl ⟨s.stop H3 L f,W.length - (i+1),by omega,rfl,O,j,L,G2,h7,?_,gf j L h9⟩
   refine R.sub (List.Sublist.cons₂ _ (Vf _ ?_))
   exact (Ci g).append (Bk hid2 _)
 ·have e:i=W.length:=by omega
  subst e
  refine .inl ⟨it.stop H n l,k _ ⟨C.sl,n⟩ _ (D::G) g H e1 e2 ?_ (hf a n hI)⟩
  have N:=V.accGetG hG
  have U:At K t Y n (⟨some (.ref D),.dat (Ss b) (.list a),D::G⟩::(g++T)) H:=N.sub (((Ci g).append (Bk c T)).cons₂ _)
  exact U.tomid
theorem zA{b:Bool}{di k4:DI}{R:List Nat}{de:DE}:∀σ H Q,LE K (pN b di R k4 de) σ H Q->o7 K (LI K di) R (LI K k4) (LE K de) σ H Q:=by
 intro σ H Q h
 obtain ⟨E,Y,S,T,δ,P,rfl,hS,hA,hd,k⟩:=h
 refine ⟨E,Y,S,T,δ,_,rfl,hS,hA,hd,λm ds U J g l H1 e1 e2 q5 it hz p1=>?_⟩
 obtain ⟨I,h0,hs,hf⟩:=p1
 rw[<- e1]
 intro D hD
 refine ⟨λi q H=>q=ds.length - i/\i<=ds.length/\∃c n G,(b=true->G=[])/\At K E Y n (⟨some (.ref D),.acc c,D::G⟩::(l++(g++T))) H/\I i c n,⟨ds.length,by simp,Di _,[],U.n,[],λ_=>rfl,q5.accNew hD,h0⟩,?_⟩
 (intro i q H q_; obtain ⟨rfl,hi,c,n,G,hG,h8,hI⟩ := q_)
 have s:∀e∈g,Gr K H n e:=λe he=>h8.ok e (Ad _ (Ag _ (Ak _ he)))
 by_cases h4:i<ds.length
 ·refine .inr ⟨it.go H n i s h4,λx H' y=>?_⟩
  obtain ⟨s1,d,F,h1,h2,h3⟩:=it.yld H n i x H' s h4 y
  obtain ⟨t,f,rfl,q1⟩:=hs i d c n h1 hI
  obtain ⟨tt,q9,rfl,ht,rt,_⟩:=h2.tup_inv
  cases rt with
  | @cons u _ j2 _ A _ r1 rt =>
  cases rt with
  | @cons B _ j1 _ M G0 r2 rt =>
  cases rt
  refine ⟨tt,u,B,rfl,Ta.of ht,λo=>?_⟩
  have Z:At K E Y n ((⟨some (.ref D),.acc c,D::G⟩::l)++⟨some u,.dat m t,A⟩::(g++T)) H':=At.item (S:=⟨some (.ref D),.acc c,D::G⟩::l) h8 s1 r1 (λa ha=>h3 a (Ak _ ha)) it.md it.hd it.np
  have k6:At K E Y n ((⟨some u,.dat m t,A⟩::⟨some (.ref D),.acc c,D::G⟩::l)++(g++T)) H':=Z.mid
  have h6:At K E Y n ((⟨some u,.dat m t,A⟩::⟨some (.ref D),.acc c,D::G⟩::l)++⟨some B,.dat m f,M⟩::(g++T)) H':=At.item k6 (Sx.refl _) r2 (λa ha=>h3 a (Ag _ (Ak _ ha))) it.md it.hd it.np
  have h7:At K E Y n (⟨some (.ref D),.acc c,D::G⟩::⟨some u,.dat m t,A⟩::⟨some B,.dat m f,M⟩::(l++(g++T))) H':=(h6.mid).perm (((Dk _ _ _).trans ((Dk _ _ _).cons _)).trans (Dk _ _ _))
  have view:∀{n:Nat} {H:Hp} {e0:Ent} {hid2:List Ent} (N:Ent),At K E Y n (N::e0::⟨some u,.dat m t,A⟩::⟨some B,.dat m f,M⟩::(l++hid2)) H->At K E Y n ((⟨some u,.dat m t,A⟩::⟨some B,.dat m f,M⟩::N::Vb l R)++e0::⟨some u,.dat m t,A⟩::⟨some B,.dat m f,M⟩::(l++hid2)) H:=λ{n H e0 hid2} N h=>by
   have g1:=At.view (S:=l) h (λe he=>Ad _ (Ad _ (Ad _ (Ad _ (Ak _ he))))) R
   have g2:=g1.view1 (e:=⟨some B,.dat m f,M⟩) (Ag _ (Ad _ (Ad _ (Ad _ Ab))))
   rw[iI it.md] at g2
   have g3:=g2.view1 (e:=⟨some u,.dat m t,A⟩) (Ad _ (Ag _ (Ad _ (Ad _ Ab))))
   rw[iI it.md] at g3
   refine g3.perm ?_
   rw[Do,Do,Do]
   exact ((Dj).cons _).cons _
  have h9:∀(N:Ent) (n:Nat),Sl (⟨some u,.dat m t,A⟩::⟨some B,.dat m f,M⟩::N::Vb l R) ⟨.dat m t::.dat m f::N.x::frD U.sl R,n⟩:=λN n=>by
   unfold Sl
   rw[Ao,Ao,Ao,cA e2]
  have hv:∀(N:Ent),vs (⟨some u,.dat m t,A⟩::⟨some B,.dat m f,M⟩::N::Vb l R)=some u::some B::N.v::Ei (vs l) R:=λN=>by
   rw[<- bX]
   rfl
  have hB:=view (hid2:=g++T) ⟨o,.un,[]⟩ h7.blank
  refine ⟨E,Y,_,_,⟨.dat m t::.dat m f::.un::frD U.sl R,n⟩,_,hv ⟨o,.un,[]⟩,h9 ⟨o,.un,[]⟩ n,hB,q1,λm2 V k8 J2 hid2 S2 H2 f1 f2 q0 L q8 p2=>?_⟩
  obtain ⟨I2,g0,gs,gf⟩:=p2
  have q7:At K E Y k8.n (⟨some (.ref D),.acc c,D::G⟩::(⟨some u,.dat m t,A⟩::⟨some B,.dat m f,M⟩::(l++(hid2++(g++T))))) H2:=by
   have z:=q0.sub (Bk S2 _)
   refine z.perm ?_
   refine Dj.trans (Iv _ ?_)
   refine Dj.trans (Iv _ ?_)
   refine Dj.trans (Iv _ ?_)
   exact gK _ _ _
  refine ⟨λC q2 H=>q2=V.length - C/\C<=V.length/\∃c n G,(b=true->G=[])/\At K E Y n (⟨some (.ref D),.acc c,D::G⟩::(⟨some u,.dat m t,A⟩::⟨some B,.dat m f,M⟩::(l++(hid2++(g++T))))) H/\I2 C c n,⟨V.length,by simp,Di _,c,k8.n,G,hG,q7,g0⟩,?_⟩
  (intro C q2 H3 q_; obtain ⟨rfl,j0,r,W,G2,k7,h5,k9⟩ := q_)
  have j:∀e∈hid2,Gr K H3 W e:=λe he=>h5.ok e (Ad _ (Ad _ (Ad _ (Ag _ (Ak _ he)))))
  by_cases O:C<V.length
  ·refine .inr ⟨L.go H3 W C j O,λy2 H4 yy=>?_⟩
   obtain ⟨s2,d2,F2,k1,k2,k3⟩:=L.yld H3 W C y2 H4 j O yy
   obtain ⟨lz,st⟩:=gs C d2 r W k1 k9
   have q6:At K E Y W ((⟨some (.ref D),.acc r,D::G2⟩::⟨some u,.dat m t,A⟩::⟨some B,.dat m f,M⟩::l)++⟨some y2,.dat m2 d2,F2⟩::(hid2++(g++T))) H4:=At.item (S:=⟨some (.ref D),.acc r,D::G2⟩::⟨some u,.dat m t,A⟩::⟨some B,.dat m f,M⟩::l) h5 s2 k2 k3 L.md L.hd L.np
   have q4:=view (hid2:=hid2++(g++T)) ⟨some y2,.dat m2 d2,F2⟩ q6.mid
   have z:=Xm (dc:=My) (N1:=λ_=>False) (N2:=λv H5=>∃c,H5 D=some (.lst c)/\c.length<Aq/\∃k0,k0<V.length - C/\(k0=V.length - (C+1)/\C+1<=V.length/\∃X n G,(b=true->G=[])/\At K E Y n (⟨some (.ref D),.acc X,D::G⟩::(⟨some u,.dat m t,A⟩::⟨some B,.dat m f,M⟩::(l++(hid2++(g++T))))) (upd H5 D (.lst (c++[v])))/\I2 (C+1) X n)) (h9 ⟨some y2,.dat m2 d2,F2⟩ W) k7 q4 st lz (λ_ _ _ z=>z) (λe n' v H5 G' q3 k5 p=>?_)
   ·rw[hv] at z
    have w:=Ye (dt:=Sh) _ _ _ z
    unfold Sh at w
    dsimp only at w
    rw[if_pos rfl] at w
    exact w
   ·obtain ⟨xs,l1,l2,l3⟩:=k5
    exact ⟨xs,l1,by omega,V.length - (C+1),by omega,rfl,O,r++[e],n',G',q3,l3,p⟩
  ·have e:C=V.length:=by omega
   subst e
   refine .inl ⟨L.stop H3 W j,ds.length - (i+1),by omega,rfl,h4,r,W,G2,k7,?_,gf r W k9⟩
   refine h5.sub (List.Sublist.cons₂ _ (Vf _ (Vf _ ?_)))
   exact (Ci l).append (Bk hid2 _)
 ·have e:i=ds.length:=by omega
  subst e
  refine .inl ⟨it.stop H n s,k _ ⟨U.sl,n⟩ _ (D::G) l H e1 e2 ?_ (hf c n hI)⟩
  have Z:=h8.accGetG hG
  have h7:At K E Y n (⟨some (.ref D),.dat (Ss b) (.list c),D::G⟩::(l++T)) H:=Z.sub (((Ci l).append (Bk g T)).cons₂ _)
  exact h7.tomid
end
section
variable{X:Cx}{f iter c:Expr}{x e d q:Str}{k g i pt r pos m:Pos}{o:Nat}{a:Scope}{j:List (Str×Addr)}{ys:List Str}{n:List Nat}{p h:DI}{l:DE}
theorem j7{b:Bool}(C:CompScope X a j x ys n)(q:cZ a e)(m:cZ a d)(u:(x::e::d::ys).Nodup)(y:X.calm=true)(w:wD X (.Tuple [.Name x k,.Name e g] o pt) iter p)(r:∀fp s H,wD (Dm X a j (x::e::d::ys) fp s H) (.Name d i) c h)(z:∀fp s H,Fm (Dm X a j (x::e::d::ys) fp s H) f l)(A:∀x,Cz iter X.env x=pure x:=by intro _; rfl)(t:∀fp s H v,Cz c (Dm X a j (x::e::d::ys) fp s H).env v=pure v:=by intro _ _ _ _; rfl):Fm X (.ListComp f [⟨.Tuple [.Name x k,.Name e g] o pt,iter,[],0⟩,⟨.Name d i,c,[],0⟩] a pos) (pN b p n h l):=PE.imp (yY C q m u y w r z A t) zA
end
def BG(b:Bool)(j:DE)(pre c:List DV)(i:List Ae)(fin:List Ae->Nat->Prop)(k:Md)(es:List Ae)(h:DS):Prop:=∃f:Nat->List Ae->Nat->Prop,f 0 i h.n /\
 (∀g e a d,es[g]? = some e->f g a d->a.length+1<=Aq/\Lw b My j ⟨pre++.dat k e::c,d⟩ (λz l=>f (g+1) (a++[z]) l) (λ_=>False)) /\
 ∀a d,f es.length a d->fin a d
def EY(b:Bool)(h:List Nat)(g:DI)(j:DE)(P:DV->DS->Prop)(m:Md)(ds:List Ae)(c:DS):Prop:=∃I:Nat->List Ae->Nat->Prop,I 0 [] c.n /\
 (∀i d a n,ds[i]? = some d->I i a n->∃e f,d=.tuple [e,f]/\g ⟨.dat m e::.dat m f::.un::frD c.sl h,n⟩ (BG b j [.dat m e,.dat m f] (frD c.sl h) a (I (i+1)))) /\
 ∀a n,I ds.length a n->P (.dat (Ss b) (.list a)) ⟨c.sl,n⟩
section
variable{b:Bool}{p:List Nat}{t k:DI}{o:DE}{P:DV->DS->Prop}{s c j:DS}{m q:Md}{ds es:List Ae}
theorem II{r:Type}{l:List r}{g:r->Ae}{pre h:List DV}{c:List Ae}{fin:List Ae->Nat->Prop}(e:es=l.map g)(f:r->Ae)(hz:c.length+l.length<=Aq)(t:∀y∈l,∀m:Ae->Nat->Prop,m (f y) j.n->Lw b My o ⟨pre++.dat q (g y)::h,j.n⟩ m (λ_=>False))(s:fin (c++l.map f) j.n):BG b o pre h c fin q es j:=by
 subst e
 refine ⟨λi a n=>a=c++(l.take i).map f/\n=j.n,⟨by simp,rfl⟩,?_,?_⟩
 ·rintro i d _ _ p ⟨rfl,rfl⟩
  rw[Bj] at p
  cases k:l[i]? with
  | none=>rw[k] at p; cases p
  | some y =>
   rw[k] at p
   obtain rfl:g y=d:=Bv p
   have u:=(Av.mp k).1
   refine ⟨?_,t y (Be k) _ ⟨?_,rfl⟩⟩
   ·rw[Bf,Af,Du]
    omega
   ·rw[Gs k,Bh,Bt]
    rfl
 ·rintro _ _ ⟨rfl,rfl⟩
  rw[Af,Ff]
  exact s
theorem lF{b c:Type}(r:b->List c){l:List b}{i:Nat}{a:b}(h:l[i]? = some a):((l.take i).flatMap r).length+(r a).length<=(l.flatMap r).length:=by
 have e:l.take (i+1)=l.take i++[a]:=Gs h
 have : ((l.take (i+1)).flatMap r).length<=(l.flatMap r).length:=by
  conv=>rhs; rw[<- Fj (i+1) l,Lp,Bf]
  omega
 rw[e,Lp,Bf] at this
 simpa using this
theorem FD{j:Type}{l:List j}{g1 g2:j->Ae}(e:ds=l.map λa=>.tuple [g1 a,g2 a])(r:j->List Ae)(hz:(l.flatMap r).length<=Aq)(s:∀a∈l,∀(f:List Ae) (fin:List Ae->Nat->Prop),f.length+(r a).length<=Aq->fin (f++r a) c.n->k ⟨.dat m (g1 a)::.dat m (g2 a)::.un::frD c.sl p,c.n⟩ (BG b o [.dat m (g1 a),.dat m (g2 a)] (frD c.sl p) f fin))(q:P (.dat (Ss b) (.list (l.flatMap r))) ⟨c.sl,c.n⟩):EY b p k o P m ds c:=by
 subst e
 refine ⟨λi a n=>a=(l.take i).flatMap r/\n=c.n,⟨by simp,rfl⟩,?_,?_⟩
 ·rintro i d _ _ h ⟨rfl,rfl⟩
  rw[Bj] at h
  cases g:l[i]? with
  | none=>rw[g] at h; cases h
  | some y =>
   rw[g] at h
   obtain rfl:Yz [g1 y,g2 y]=d:=Bv h
   refine ⟨g1 y,g2 y,rfl,s y (Be g) _ _ (Cg (lF r g) hz) ⟨?_,rfl⟩⟩
   rw[Gs g,Lp]
   simp
 ·rintro _ _ ⟨rfl,rfl⟩
  rw[Af,Ff]
  exact q
end
def tV(i:Nat)(ds:List Ae)(k:Nat)(c y:Ae)(a:DS)(D:DEnds):Prop:=match y with
 | .list b=>npk (a.sl.set i .un)=true/\imm c=true/\b.length<1000000/\D.nx ⟨a.sl.set i (.dat .ow (.tuple (ds.set k (.list (b++[c]))))),a.n⟩
 | _=>False
def x8(i k:Nat)(c:Ae):DB:=λD a=>match a.sl[i]? with
 | some (.dat .ow (.tuple ds))=>∃y,ds[k]? = some y/\tV i ds k c y a D
 | _=>False
theorem oD:∀l:List Ae,datas (l.map λd=>DV.dat .ow d)=some l
 | []=>rfl
 | d::l=>by
  rw[Ao,datas,oD l]
  rfl
theorem lX:∀l:List Ae,allOw (l.map λd=>DV.dat .ow d)=true
 | []=>rfl
 | d::l=>by
  rw[Ao,allOw]
  exact lX l
section
variable{X:Cx}{o e:Expr}{l g pos p sp:Pos}{j:Nat}{i k:Nat}{c:Ae}{w:V}
theorem F4(ho:PE X o (eM i))(he:PE X e (tC w))(hr:∀H,RdF X.K H w c [])
  (C:Mr (.Subscript o (.Constant (.int (k:Int)) j p) sp) "append" X.env (eval (.Subscript o (.Constant (.int (k:Int)) j p) sp) X.env)=eval (.Subscript o (.Constant (.int (k:Int)) j p) sp) X.env:=by rfl)
  (V:((Hj g (Bn [e] X.env)).all (λx=>!x.1) && (backToKw g (Zp [] X.env)).all (λx=>x.1.isSome)
   && decide (([e]:List Expr).length+([]:List Uh).length+(if ([]:List Uh).isEmpty then 0 else 1)<30))=true:=by rfl)
  (I:(l.endLine == g.line)=true:=by rfl) (hs:Bn [e] X.env=(false,eval e X.env)::Bn [] X.env:=by rfl) (B:(Hj g (Bn [] X.env)).any (·.1)=false:=by rfl)
  (k5:Nh (.Call (.Attribute (.Subscript o (.Constant (.int (k:Int)) j p) sp) "append" l) [e] [] g) none pos.line X.env=pure false:=by rfl) :
  xM X (.Expr (.Call (.Attribute (.Subscript o (.Constant (.int (k:Int)) j p) sp) "append" l) [e] [] g) pos) (x8 i k c):=by
 refine PS.impD (sC (U7 PySem.F.plainAttrs_list PySem.F.slot_list_append PySem.F.type_list_append Ot (Ze X3 ho Fq (λ_ _=>rfl)) (Hy he Np hs) C V I hs B) k5) λD σ H h=>?_
 obtain ⟨H0,Y,S,T,δ,P,rfl,hS,hT,hA,A,k1,k2,k3,k4⟩:=h
 unfold x8 at A
 split at A
 case h_2=>exact A.elim
 rename_i J k0
 obtain ⟨y,hy,A⟩:=A
 unfold tV at A
 split at A
 case h_2=>exact A.elim
 rename_i es
 obtain ⟨hn,hc,hz,hD⟩:=A
 obtain ⟨W,M,e3⟩:=Ks hS k0
 have hm:W∈S:=Be M
 obtain ⟨u,x,F⟩:=W
 have h9:x=.dat .ow (.tuple J):=e3
 subst h9
 obtain ⟨v,hv,rd,nd,_⟩:=hA.ok _ (Ak _ hm)
 have h8:u=some v:=hv
 subst h8
 obtain ⟨t,U,rfl,ht,ra,lz⟩:=rd.tup_inv
 -- the slot out of its row
 have p1:((⟨some (.ref t),.un,[]⟩ : Ent)::(S++T)).Perm (⟨some (.ref t),.dat .ow (.tuple J),F⟩::(S.set i ⟨some (.ref t),.un,[]⟩++T)):=by
  rw[<- Do]
  exact (Tx (y:=(⟨some (.ref t),.un,[]⟩ : Ent)) M).append_right T
 have s:=(hA.blank (v:=some (.ref t))).perm p1
 generalize Z:S.set i ⟨some (.ref t),.un,[]⟩=S' at s
 have hp:=Bb.mp s.sep
 obtain ⟨r,a1,a2,a3,a4⟩:=At.unpack (m:=.ow) (E:=S'++T) ra (λ_=>nd rfl) (λf hf=>by
  refine ⟨λhq b O=>(hp.1 f hf).1 ?_ b O,λhq b O=>(hp.1 f hf).2 ?_ b O⟩
  ·rcases hq with hq | hq
   ·exact .inl hq
   ·cases hq
  ·rcases hq with hq | hq
   ·exact .inl hq
   ·exact .inr hq) (λb O=>by
  rcases s.new _ Ab b O with z | z
  ·exact z
  ·cases z.2) (s.sub (Cy _ _))
 -- the item
 have lA:r.length=J.length:=by have:=congrArg Ft a2; simpa using this
 have hk:k<r.length:=by rw[lA]; exact (Av.mp hy).1
 have eA:r=r.take k++r[k]::r.drop (k+1):=by rw[<- Rm hk,Fj]
 have kx:r[k].x=.dat .ow (.list es):=by
  have:=congrArg (·[k]?) a2
  simp only[Bj,hy,Bx hk,Oo] at this
  exact Bv this
 generalize hE:r[k]=E at eA kx
 obtain ⟨v1,x1,F1⟩:=E
 have k7:x1=.dat .ow (.list es):=kx
 subst k7
 obtain ⟨v2,k8,h7,_⟩:=a4.ok ⟨v1,.dat .ow (.list es),F1⟩ (Ak _ (by rw[eA]; exact mem_mid))
 have Q:v1=some v2:=k8
 subst Q
 obtain ⟨a,ys,G,rfl,ha,ry,rfl,q0⟩:=h7.list_inv
 have kv:U[k]? = some (.ref a):=by
  have:=congrArg (·[k]?) a1
  simp only[Bj,Bx hk,hE,Oo] at this
  cases q:U[k]? with
  | none=>rw[q] at this; cases this
  | some z =>
   rw[q] at this
   exact congrArg some (Bv (Bv this)).symm
 refine ⟨.ref t,by rw[Nv M],t,U,(k:Int),.ref a,rfl,rfl,Ta.of ht,iD kv,.inl ⟨rfl,ys,Pq.of ha⟩,a,ys,w,rfl,rfl,ha,Cc (by rw[ry.len]; omega) (kE (n:=1000000) (Aj _)),?_⟩
 have k9:∀f∈S',Pu f.x=false:=gY (sl:=δ.sl.set i .un) (by rw[<- Z,Ip,hS]) hn
 have q1:(r++(S'++T)).Perm (⟨some (.ref a),.dat .ow (.list es),a::G⟩::((r.take k++r.drop (k+1))++(S'++T))):=by
  conv=>lhs; rw[eA]
  rw[<- Do]
  exact (Dj).append_right _
 have R:∀f∈r,Pu f.x=false:=λf hf=>by
  have:=Xs (f:=Ent.x) hf
  rw[a2] at this
  obtain ⟨d,_,z⟩:=Df.mp this
  rw[<- z]
  rfl
 have h1:=(a4.perm q1).write (es:=es++[c]) (ys:=ys++[w]) (G:=G++[]) rfl rfl (λf hf=>by
  rcases Aw.mp hf with hf | hf
  ·rcases Aw.mp hf with hf | hf
   ·exact R f (List.mem_of_mem_take hf)
   ·exact R f (Wa hf)
  ·rcases Aw.mp hf with hf | hf
   ·exact k9 f hf
   ·exact hT f hf) (ry.snoc (hr H)) (by rw[Ec]; exact Ci _) (by rw[Bf]; exact kE (by simp; omega))
 have q2:((⟨some (.ref a),.dat .ow (.list (es++[c])),a::(G++[])⟩ : Ent)::((r.take k++r.drop (k+1))++(S'++T))).Perm ([]++((r.take k++⟨some (.ref a),.dat .ow (.list (es++[c])),a::(G++[])⟩::r.drop (k+1))++(S'++T))):=by
  rw[<- Do,Va]
  exact (List.perm_middle.symm).append_right _
 have h2:=h1.perm q2
 generalize L:r.take k++(⟨some (.ref a),.dat .ow (.list (es++[c])),a::(G++[])⟩ : Ent)::r.drop (k+1)=As' at h2
 have b1:As'.map Ent.v=U.map some:=by
  rw[<- L,<- a1]
  conv=>rhs; rw[eA]
  rw[Bh,Bh,Ao,Ao]
 have b2:As'.map Ent.x=(J.set k (.list (es++[c]))).map λd=>DV.dat .ow d:=by
  rw[<- L,Bh,Ao,List.map_take,List.map_drop,a2,<- List.map_take,<- List.map_drop]
  rw[List.set_eq_take_append_cons_drop,if_pos (by rw[<- lA]; exact hk),Bh,Ao]
  rfl
 have r2:=Tg b1 (by rw[b2]; exact oD _) λf hf=>h2.ok f (Ag _ (Ak _ hf))
 have k6:(upd H a (.lst (ys++[w]))) t=some (.tup U):=by
  rw[Dr (λz=>by rw[z,ha] at ht; cases ht)]
  exact ht
 have h3:=h2.pack (N:=[]) (top:=.sh) (Sx.refl _) (λ_ z=>(nomatch z)) Dv (.inr ⟨rfl,rfl⟩) (.tup (F:=As'.flatMap Ent.F) k6 (by rw[Po]; exact lz) r2)
 rw[show pkMd .sh (As'.map Ent.x)=.ow by unfold pkMd; rw[b2,lX,if_pos rfl]] at h3
 have h4:At X.K H0 Y δ.n (S'++⟨some (.ref t),.dat .ow (.tuple (J.set k (.list (es++[c])))),[]++As'.flatMap Ent.F⟩::T) (upd H a (.lst (ys++[w]))):=h3.tomid
 have h5:=h4.store (i:=i)
 rw[<- Z,List.set_set] at h5
 have h6:=k1 ⟨δ.sl.set i (.dat .ow (.tuple (J.set k (.list (es++[c]))))),δ.n⟩ _ _ (jD hS) h5 hD
 have e9:(vs S).set i (some (.ref t))=vs S:=by
  apply Ir
  intro j2
  rw[Ko]
  split
  ·rename_i h0
   subst h0
   rw[Nv M]
   split
   ·rfl
   ·rename_i hj
    unfold vs at hj
    rw[Af] at hj
    exact absurd (Av.mp M).1 hj
  ·rfl
 rw[iR,e9] at h6
 exact h6
end
end DL
namespace Nd
open PySem PySem.Spec PyProof.Rows L2
abbrev ZF(h:Heap)(z TI TO:Addr)(b a:Value):Prop:=h.get? z=some { cls:=.type "zip",dict:=none,data:=.fields #[b,a,.bool false,.ref TI,.ref TO],slots:=#[] }
section
variable{prog:Bl}{w:World}{A:Ce}{E:Value->Ai->Prop}{s:Ai}
theorem lG{a:Addr}{o:Obj}{Q:Option Obj->Ai->Prop}(b:s.heap.get? a=some o)(h:Q (some o) s):wpAny (model prog w) A (loadIfAlive a) Q E s:=λc p _=>by
 unfold loadIfAlive
 rw[Sem.wp_loadIfAlive,b]
 exact (Sem.wp_pure ..)▸h
theorem cV{z TI TO a:Addr}{f:Obj}{e:Bool}(hz:ZF s.heap z TI TO (Er (a:Int)) (.bool e))(h:s.heap.get? a=some f):wpAny (model prog w) A (Cw (.ref z)) (λb s'=>b=false/\∃h',s'={ s with heap:=h' }/\ZF h' z TI TO (Er (a:Int)) (.bool true)/\Ct z s.heap h') E s:=by
 unfold Cw
 refine Aa (Ew hz rfl (x:=Er (a:Int)) rfl ?_)
 show wpAny _ _ (loadIfAlive ((a:Int).toNat) >>= _) _ _ _
 refine Aa (lG (a:=(a:Int).toNat) (o:=f) (by rw[Hg]; exact h) ?_)
 simp only[Option.isNone_some,Bw,if_false]
 refine Aa (Ew hz rfl (x:=.bool e) rfl ?_)
 cases e with
 | false =>
  rw[if_pos (by decide)]
  exact Aa (Ih hz (by simp) λg d c=>Ac ⟨rfl,g,rfl,d,c⟩)
 | true =>
  rw[if_neg (by decide)]
  exact Ac ⟨rfl,s.heap,rfl,hz,⟨rfl,λ_ _=>rfl⟩⟩
theorem vB{z TI TO h g l1 l2 a:Addr}{G:Obj}{B:Bool}{k1 k2:Nat}{xs ys:Array Value}{x y:Value}{Q:Value->Ai->Prop}(D:Sw z TI TO h g l1 l2)(hz:ZF s.heap z TI TO (Er (a:Int)) (.bool B))(N:s.heap.get? a=some G)(t:Gc s.heap TI (.ref h) (.ref g))(J:s.heap.IsListIter h l1 k1)(u:s.heap.IsListIter g l2 k2)(k:s.heap.IsList l1 xs)(n:s.heap.IsList l2 ys)(C:xs[k1]? = some x)(L:ys[k2]? = some y)(H:∀h',ZF h' z TI TO (Er (a:Int)) (.bool true)->h'.IsListIter h l1 (k1+1)->h'.IsListIter g l2 (k2+1)->Gc h' s.heap.objs.size x y->h'.objs.size=s.heap.objs.size+1->(∀c o,c≠z->c≠h->c≠g->s.heap.get? c=some o->h'.get? c=some o)->Q (.ref s.heap.objs.size) { s with heap:=h' }):wpAny (model prog w) A (Builtin.«zip.__next__» ⟨[.ref z],[]⟩) (λfin s'=>∃v,fin=.done (.ret v)/\Q v s') E s:=by
 unfold Builtin.«zip.__next__»
 refine Aa (Ac (Aa (Ew hz rfl (x:=.bool false) rfl (Aa (Ew hz rfl (x:=.ref TI) rfl (Aa (Ii t rfl ?_)))))))
 show wpAny _ _ (Cw (.ref z) >>= _) _ _ _
 refine Aa (Gb (cV (E:=E) hz N) λS P q => ?_)
 obtain ⟨K,O,M,m,b⟩ := q
 subst K M
 simp only[Bw,if_false]
 simp only[<- Yb,Pp,Qq]
 refine Aa (Aa (Aa (Ck ?_)))
 show wpAny _ _ (Dl (.ref h) >>= _) _ _ _
 refine Aa (Wh (J.extBut b.extBut D.i1z) (k.extBut b.extBut D.l1z) C λR F d=>Ac (Ac ?_))
 refine Aa (Aa (Ck ?_))
 show wpAny _ _ (Dl (.ref g) >>= _) _ _ _
 refine Aa (Wh ((u.extBut b.extBut D.i2z).extBut d.extBut D.i12.symm) ((n.extBut b.extBut D.l2z).extBut d.extBut D.l2i1) L λi I f=>Ac (Ac (Ac ?_)))
 show wpAny _ _ (newTuple [x,y] >>= _) _ _ _
 refine Aa (wpAny_newTuple ?_)
 have sz:i.objs.size=s.heap.objs.size:=by rw[f.1,d.1,b.1]
 have up:∀c o,c≠z->c≠h->c≠g->s.heap.get? c=some o->i.get? c=some o:=λc o j p l e=>f.extBut _ _ l (d.extBut _ _ p (b.extBut _ _ j e))
 have r:ZF i z TI TO (Er (a:Int)) (.bool true):=f.extBut _ _ D.i2z.symm (d.extBut _ _ D.i1z.symm m)
 have fin:=H (i.push { cls:=.type "tuple",data:=.seq #[x,y] }) (Ah _ r) ((F.extBut f.extBut D.i12).at λo e=>Ah _ e) (I.at λo e=>Ah _ e) (by rw[<- sz]; exact Ap _ rfl) (by rw[Fc,sz]) (λc o j p l e=>Ah _ (up c o j p l e))
 refine Ac ⟨_,rfl,?_⟩
 rw[<- sz] at fin
 exact fin
theorem dY{z TI TO i g l1 l2 a:Addr}{J:Obj}{G:Bool}{k1 k2:Nat}{xs ys:Array Value}{Q:PySem.Fin->Ai->Prop}(B:A.handled=none)(D:Sw z TI TO i g l1 l2)(hz:ZF s.heap z TI TO (Er (a:Int)) (.bool G))(N:s.heap.get? a=some J)(t:Gc s.heap TI (.ref i) (.ref g))(v:s.heap.IsListIter i l1 k1)(C:s.heap.IsListIter g l2 k2)(f:s.heap.IsList l1 xs)(l:s.heap.IsList l2 ys)(h:xs[k1]? = none\/ys[k2]? = none)(u:∀h' e,(∀c o,c≠z->c≠i->c≠g->s.heap.get? c=some o->h'.get? c=some o)->(∃o,h'.get? e=some o/\o.cls=.type "StopIteration")->E (.ref e) { s with heap:=h' }):wpAny (model prog w) A (Builtin.«zip.__next__» ⟨[.ref z],[]⟩) Q E s:=by
 unfold Builtin.«zip.__next__»
 refine Aa (Ac (Aa (Ew hz rfl (x:=.bool false) rfl (Aa (Ew hz rfl (x:=.ref TI) rfl (Aa (Ii t rfl ?_)))))))
 show wpAny _ _ (Cw (.ref z) >>= _) _ _ _
 refine Aa (Gb (cV (E:=E) hz N) λS R p => ?_)
 obtain ⟨K,O,M,I,b⟩ := p
 subst K M
 simp only[Bw,if_false]
 simp only[<- Yb,Pp,Qq]
 refine Aa (Aa (Aa (Ck ?_)))
 show wpAny _ _ (Dl (.ref i) >>= _) _ _ _
 cases k:xs[k1]? with
 | none =>
  refine Aa (wpAny_nextOf_list_end B (v.extBut b.extBut D.i1z) (f.extBut b.extBut D.l1z) k λy e d n=>?_)
  exact u y e (λc o j m _ q=>d _ _ m (b.extBut _ _ j q)) n
 | some x =>
  have L:ys[k2]? = none:=h.resolve_left λq=>by rw[k] at q; cases q
  refine Aa (Wh (v.extBut b.extBut D.i1z) (f.extBut b.extBut D.l1z) k λy P d=>Ac (Ac ?_))
  refine Aa (Aa (Ck ?_))
  show wpAny _ _ (Dl (.ref g) >>= _) _ _ _
  refine Aa (wpAny_nextOf_list_end B ((C.extBut b.extBut D.i2z).extBut d.extBut D.i12.symm) ((l.extBut b.extBut D.l2z).extBut d.extBut D.l2i1) L λF e r n=>?_)
  exact u F e (λc o j m H q=>r _ _ H (d.extBut _ _ m (b.extBut _ _ j q))) n
theorem pE{z TI TO d b l1 l2 a:Addr}{m:Obj}{k:Bool}{k1 k2:Nat}{xs ys:Array Value}{x y:Value}{Q:Option Value->Ai->Prop}(D:Sw z TI TO d b l1 l2)(hz:ZF s.heap z TI TO (Er (a:Int)) (.bool k))(j:s.heap.get? a=some m)(g:Gc s.heap TI (.ref d) (.ref b))(q:s.heap.IsListIter d l1 k1)(h:s.heap.IsListIter b l2 k2)(e:s.heap.IsList l1 xs)(f:s.heap.IsList l2 ys)(l:xs[k1]? = some x)(t:ys[k2]? = some y)(n:∀h',ZF h' z TI TO (Er (a:Int)) (.bool true)->h'.IsListIter d l1 (k1+1)->h'.IsListIter b l2 (k2+1)->Gc h' s.heap.objs.size x y->h'.objs.size=s.heap.objs.size+1->(∀c o,c≠z->c≠d->c≠b->s.heap.get? c=some o->h'.get? c=some o)->Q (some (.ref s.heap.objs.size)) { s with heap:=h' }):wpAny (model prog w) A (Hi (.ref z)) Q E s:=by
 have ty:s.TypeIs (.ref z) "zip" := ⟨_,hz,rfl⟩
 unfold Hi
 refine Aa (Ic (Cu (name:=Dq "__next__") ty Wf (Cn Wf ty F.entry_zip_next (vB D hz j g q h e f l t λB p i v C r u=>Ac (n B p i v C r u)) (F.args_zip_next_1 _))))
theorem bG{z TI TO g f l1 l2 a:Addr}{p:Obj}{v:Bool}{k1 k2:Nat}{xs ys:Array Value}{Q:Option Value->Ai->Prop}(r:A.handled=none)(D:Sw z TI TO g f l1 l2)(hz:ZF s.heap z TI TO (Er (a:Int)) (.bool v))(u:s.heap.get? a=some p)(h:Gc s.heap TI (.ref g) (.ref f))(m:s.heap.IsListIter g l1 k1)(k:s.heap.IsListIter f l2 k2)(i:s.heap.IsList l1 xs)(j:s.heap.IsList l2 ys)(d:xs[k1]? = none\/ys[k2]? = none)(t:∀h',(∀c o,c≠z->c≠g->c≠f->s.heap.get? c=some o->h'.get? c=some o)->Q none { s with heap:=h' }):wpAny (model prog w) A (Hi (.ref z)) Q E s:=by
 have ty:s.TypeIs (.ref z) "zip" := ⟨_,hz,rfl⟩
 unfold Hi
 refine Aa (Ic (Cu (name:=Dq "__next__") ty Wf (Cn Wf ty F.entry_zip_next (dY r D hz u h m k i j d λx e kp n=>?_) (F.args_zip_next_1 _))))
 obtain ⟨o,q,l⟩:=n
 exact Aa (Gy (T := "StopIteration") (b:=true) ⟨o,q,l⟩ Zr (Ac (t _ kp)))
end
end Nd
namespace Nd
open PySem PySem.Spec
theorem gQ:entryFor table "zip.__getattribute__" = some Builtin.«object.__getattribute__» :=
 Zs (id' := "object.__getattribute__") (by kernel_rfl) (by first | rfl | decide +kernel) (by decide +kernel) (by kernel_rfl)
theorem lS:dJ (.type "zip") "keys" = pure none:=by rw[Xp,Pm]; kernel_rfl
section
variable{prog:Bl}{w:World}{A:Ce}{E:Value->Ai->Prop}{h:Heap}{g:Array GenState}{d:Drawn}{t:Nat}{os:OsState}{a:Addr}{fs:Array Value}
theorem bW:isSubtype (.type "AttributeError") (.type "AttributeError")=pure true:=by rw[Zq]; kernel_rfl
theorem pJ(args:List Value):Jv (.type "AttributeError") args=pure Fp:=by
 have h:((Manifest.find? "AttributeError").elim false λt=>t.mro.contains "StopIteration" || t.mro.contains "SystemExit")=false:=by decide +kernel
 simp only[Jv,h]
 rfl
theorem qB{k:Type}{name a:Str}{v:Value}{Q:k->Ai->Prop}(p:A.handled=none)(m:a.length<=Aq)(l:∀h' t' e,(∀c o,h.get? c=some o->h'.get? c=some o)->t<=t'->(∃o,h'.get? e=some o/\o.cls=.type "AttributeError")->E (.ref e) ⟨h',g,d,t',os⟩):wpAny (model prog w) A (raiseAttrError v name a:Sem k) Q E ⟨h,g,d,t,os⟩:=by
 unfold raiseAttrError newExc newTuple
 refine Aa (wpAny_mkStr' ?_ m)
 refine Aa (Aa (Ca ?_ (by show (1:Nat)<=Aq; decide)))
 refine Aa (Ja (pJ _) (Ca ?_))
 generalize f:h.push { cls:=.type "tuple",data:=.seq [Value.str a t].toArray }=h1
 have j:∀c o,h.get? c=some o->h1.get? c=some o:=λc o q=>by rw[<- f]; exact Ah _ q
 have b:(h1.push { cls:=.type "AttributeError",data:=.fields #[.ref h.objs.size,.none,.none,.none,.bool false,.none,Ki,Ki] }).get? h1.objs.size=some { cls:=.type "AttributeError",data:=.fields #[.ref h.objs.size,.none,.none,.none,.bool false,.none,Ki,Ki] }:=Ap _ rfl
 show wpAny _ _ _ _ _ ⟨h1.push { cls:=.type "AttributeError",data:=.fields #[.ref h.objs.size,.none,.none,.none,.bool false,.none,Ki,Ki] },g,d,t+1,os⟩
 have i:∀c o,h1.get? c=some o->(h1.push { cls:=.type "AttributeError",data:=.fields #[.ref h.objs.size,.none,.none,.none,.bool false,.none,Ki,Ki] }).get? c=some o:=λc o q=>Ah _ q
 have n:∀c o,h1.get? c=some o->c≠h1.objs.size:=λc o q=>Bu (Au q)
 generalize h1.push { cls:=.type "AttributeError",data:=.fields #[.ref h.objs.size,.none,.none,.none,.bool false,.none,Ki,Ki] }=h2 at b i ⊢
 refine Aa (wpAny_mkText ?_)
 refine Aa ?_
 unfold noteAttr
 show wpAny _ _ (lacksNameAndObj (.ref h1.objs.size) >>= _) _ _ _
 refine Aa ?_
 unfold lacksNameAndObj
 have ty:(⟨h2,g,d,t+1+1,os⟩ : Ai).TypeIs (.ref h1.objs.size) "AttributeError" := ⟨_,b,rfl⟩
 refine Aa (Gy ty bW ?_)
 simp only[Sm,Bw,if_false]
 refine Aa (Wi b ?_)
 show wpAny _ _ (pure true) _ _ _
 refine Ac ?_
 simp only[if_true]
 refine Aa (Kk ?_)
 refine Aa (Hv ty ?_)
 show wpAny _ _ (layMembers h1.objs.size 6 _) _ _ _
 unfold layMembers
 refine Aa (Wi b ?_)
 refine wpAny_update b ?_
 refine wpAny_raiseNew_none p (l _ _ _ (λc o q=>?_) (by show t<=t+1+1; omega) ⟨_,Eu _ b rfl,rfl⟩)
 exact Heap.get?_update_of_ne _ (n c o (j c o q)).symm (i c o (j c o q))
theorem pX{i:Tok}{Q:PySem.Fin->Ai->Prop}(f:A.handled=none)(j:h.get? a=some { cls:=.type "zip",dict:=none,data:=.fields fs,slots:=#[] })(b:∀h' t' e,(∀c o,h.get? c=some o->h'.get? c=some o)->t<=t'->(∃o,h'.get? e=some o/\o.cls=.type "AttributeError")->E (.ref e) ⟨h',g,d,t',os⟩):wpAny (model prog w) A (Builtin.«object.__getattribute__» ⟨[.ref a,.str "keys" i],[]⟩) Q E ⟨h,g,d,t,os⟩:=by
 have k:(⟨h,g,d,t,os⟩ : Ai).TypeIs (.ref a) "zip" := ⟨_,j,rfl⟩
 have l:=lS
 repeat (any_goals (first | assumption | wp_step))
 exact qB f (by decide +kernel) b
theorem uO{f:Tok}{R:Result->Ai->Prop}(j:A.handled=none)(b:h.get? a=some { cls:=.type "zip",dict:=none,data:=.fields fs,slots:=#[] })(i:∀h' t' e,(∀c o,h.get? c=some o->h'.get? c=some o)->t<=t'->(∃o,h'.get? e=some o/\o.cls=.type "AttributeError")->R (.error (.ref e)) ⟨h',g,d,t',os⟩):Hb (model prog w) A (.call (.builtin "zip.__getattribute__") ⟨[.ref a,.str "keys" f],[]⟩) R ⟨h,g,d,t,os⟩ :=
 codeAny_call_builtin F.slot_zip_getattribute.plain gQ (F.slot_zip_getattribute.check _ _ _ _ _ _ _ _ (show (⟨h,g,d,t,os⟩ : Ai).TypeIs (.ref a) "zip" from ⟨_,b,rfl⟩) (F.args_zip_getattribute_2 _ _) (pX j b i))
theorem uM:dJ (.type "zip") "__getattr__" = pure none:=by rw[Xp,Pm]; kernel_rfl
theorem L8{m:Tok}{Q:Value->Ai->Prop}(l:A.handled=none)(i:h.get? a=some { cls:=.type "zip",dict:=none,data:=.fields fs,slots:=#[] })(j:∀h' t' e,(∀c o,h.get? c=some o->h'.get? c=some o)->t<=t'->(∃o,h'.get? e=some o/\o.cls=.type "AttributeError")->E (.ref e) ⟨h',g,d,t',os⟩):wpAny (model prog w) A (getAttrBy (.ref a) (.str "keys" m) false) Q E ⟨h,g,d,t,os⟩:=by
 have p:(⟨h,g,d,t,os⟩ : Ai).TypeIs (.ref a) "zip" := ⟨_,i,rfl⟩
 have u:=F.slot_zip_getattribute.lookup
 have s:=F.slot_zip_getattribute.bind (.ref a)
 have r:=uM
 repeat (any_goals (first | assumption | wp_step))
 refine uO l i λh' t' e kp lt k=>?_
 obtain ⟨o,f,b⟩:=k
 have ty:(⟨h',g,d,t',os⟩ : Ai).TypeIs (.ref e) "AttributeError" := ⟨_,f,b⟩
 have q:=bW
 have n:=j h' t' e kp lt ⟨o,f,b⟩
 repeat (any_goals (first | assumption | wp_step))
theorem vA{Q:Option Value->Ai->Prop}(j:A.handled=none)(m:h.get? a=some { cls:=.type "zip",dict:=none,data:=.fields fs,slots:=#[] })(l:∀h' t',(∀c o,h.get? c=some o->h'.get? c=some o)->t<=t'->Q none ⟨h',g,d,t',os⟩):wpAny (model prog w) A (getAttr? (.ref a) "keys") Q E ⟨h,g,d,t,os⟩:=by
 unfold getAttr? getAttrBy?
 refine Aa (wpAny_mkText (Aa (Ic (L8 j m λh' t' e kp lt i=>?_))))
 obtain ⟨o,k,f⟩:=i
 exact Aa (Gy (T := "AttributeError") (b:=true) ⟨o,k,f⟩ bW (Ac (l _ _ kp (Nat.le_of_succ_le lt))))
end
end Nd
namespace Nd
open PySem PySem.Spec PyProof.Rows L2
theorem Tc:entryFor table "dict.update.loop" = some Builtin.«dict.update.loop»:=entryFor_of_tree (by kernel_rfl)
theorem Mg:plainId "dict.update.loop" = true:=by decide +kernel
def CN(h:Heap)(z TI TO c b l1 l2:Addr)(k:Nat):Prop:=Gc h TI (.ref c) (.ref b)/\h.IsListIter c l1 k/\h.IsListIter b l2 k /\
 ((IsZip h z TI TO .none/\∃u v,Gc h TO u v)\/∃(a:Addr) (e:Obj) (d:Bool),ZF h z TI TO (Er (Int.ofNat a)) (.bool d)/\h.get? a=some e)
theorem CN.keep{h h':Heap}{z TI TO i g l1 l2 D:Addr}{k:Nat}(st:CN h z TI TO i g l1 l2 k)(f:∀c,c≠D->h'.get? c=h.get? c)(t:∃o,h'.get? D=some o)(n:∀c∈[z,TI,TO,i,g],c≠D):CN h' z TI TO i g l1 l2 k:=by
 obtain ⟨a,b,c,d⟩:=st
 have j:=n z (by simp)
 have m:=n TI (by simp)
 have x:=n TO (by simp)
 have s:=n i (by simp)
 have w:=n g (by simp)
 refine ⟨(f TI m).trans a,b.at λo q=>(f i s).trans q,c.at λo q=>(f g w).trans q,?_⟩
 rcases d with ⟨d,u,v,e⟩ | ⟨a,p,l,d,e⟩
 ·exact .inl ⟨(f z j).trans d,u,v,(f TO x).trans e⟩
 ·refine .inr ?_
  by_cases q:a=D
  ·obtain ⟨o,r⟩:=t
   exact ⟨a,o,l,(f z j).trans d,by rw[q]; exact r⟩
  ·exact ⟨a,p,l,(f z j).trans d,(f a q).trans e⟩
section
variable{prog:Bl}{w:World}{A:Ce}{E:Value->Ai->Prop}{s:Ai}{z TI TO g f l1 l2:Addr}{k:Nat}{xs ys:Array Value}{x y:Value}{Q:Option Value->Ai->Prop}
theorem t9(D:Sw z TI TO g f l1 l2)(st:CN s.heap z TI TO g f l1 l2 k)(l:s.heap.IsList l1 xs)(m:s.heap.IsList l2 ys)(F:xs[k]? = some x)(J:ys[k]? = some y)(I:∀h',CN h' z TI TO g f l1 l2 (k+1)->Gc h' s.heap.objs.size x y->(∀c o,c∉[z,TI,TO,g,f]->s.heap.get? c=some o->h'.get? c=some o)->Q (some (.ref s.heap.objs.size)) { s with heap:=h' }):wpAny (model prog w) A (Hi (.ref z)) Q E s:=by
 obtain ⟨a,b,c,d⟩:=st
 rcases d with ⟨d,u,v,e⟩ | ⟨i,L,M,d,e⟩
 ·refine wpAny_pyNext_zip_item D d a e b c l m F J λh' j r n B t p H=>I h' ⟨H TI _ D.TIz D.TITO D.TIi1 D.TIi2 a,n,B,.inr ⟨_,_,false,j,t⟩⟩ t λc o h q=>?_
  simp only[An,Bd,or_false,not_or] at h
  exact H c o h.1 h.2.2.1 h.2.2.2.1 h.2.2.2.2 q
 ·refine pE D d e a b c l m F J λh' j r n B t p=>?_
  have up:∀c o,c∉[z,TI,TO,g,f]->s.heap.get? c=some o->h'.get? c=some o:=λc o h q=>by
   simp only[An,Bd,or_false,not_or] at h
   exact p c o h.1 h.2.2.2.1 h.2.2.2.2 q
  refine I h' ⟨p TI _ D.TIz D.TIi1 D.TIi2 a,r,n,.inr ?_⟩ B up
  by_cases G:i=z
  ·subst G
   exact ⟨i,_,true,j,j⟩
  by_cases K:i=g
  ·subst K
   obtain ⟨o,q,_⟩:=r
   exact ⟨i,o,true,j,q⟩
  by_cases C:i=f
  ·subst C
   obtain ⟨o,q,_⟩:=n
   exact ⟨i,o,true,j,q⟩
  exact ⟨i,L,true,j,p i _ G K C e⟩
theorem L6(m:A.handled=none)(D:Sw z TI TO g f l1 l2)(st:CN s.heap z TI TO g f l1 l2 k)(i:s.heap.IsList l1 xs)(j:s.heap.IsList l2 ys)(l:xs[k]? = none\/ys[k]? = none)(n:∀h',(∀c o,c∉[z,TI,TO,g,f]->s.heap.get? c=some o->h'.get? c=some o)->Q none { s with heap:=h' }):wpAny (model prog w) A (Hi (.ref z)) Q E s:=by
 obtain ⟨a,b,c,d⟩:=st
 rcases d with ⟨d,u,v,e⟩ | ⟨t,x,y,d,e⟩
 ·refine wpAny_pyNext_zip_end m D d a e b c i j l λh' p=>n h' λc o h q=>?_
  simp only[An,Bd,or_false,not_or] at h
  exact p c o h.1 h.2.2.1 h.2.2.2.1 h.2.2.2.2 q
 ·refine bG m D d e a b c i j l λh' r=>n h' λc o h q=>?_
  simp only[An,Bd,or_false,not_or] at h
  exact r c o h.1 h.2.2.2.1 h.2.2.2.2 q
end
section
variable{X:Cx}{f:List (Addr×Obj)}{j:L2.St}{H:Hp}{s:Ai}{a b:Addr}{v:V}{r:Value}{A:Ce}{E:Value->Ai->Prop}{d:List (List Jo×V)}{k:List Jo}
theorem pQ{Q:Unit->Ai->Prop}(B:A.units+1<cLine)(I:Inv X f j H s)(e:H a=some (.dT d))(t:H b=some (.tup (k.map kV)))(l:d.length<Aq)(G:RelV v r)(h:∀s',Inv X f j (upd H a (.dT (Oj d k v))) s'->(∀c,c≠a->s'.heap.get? c=s.heap.get? c)->(∃o,s'.heap.get? a=some o)->Q () s'):wpAny (model X.prog X.w) A (dictSet a (.ref b) r) Q E s:=by
 obtain ⟨z,M,J,g,F⟩:=jP I.hok (.inl e)
 have hz:J.length<=Aq:=by rw[<- Paired.length g]; exact z
 have D:(Oj d k v).length<=Aq:=by have:=Qd d k v; omega
 refine aX (hz:=hz) (show (Ng _).room A from Nat.lt_of_succ_lt B) (Vv I.hok t) F λP m p=>?_
 obtain ⟨q,C,N,i,u,K,y,_,L⟩:=m
 exact h _ (aQ I (by rw[e]; exact Jq) p ⟨q,i⟩ ⟨D,M,_,(g.put k t G).keeps λc O n=>(Dr (B4 n e (λz=>nomatch z))).trans n,q,C,N,i,u,K,y,L⟩) (λc x=>p.2 c x) ⟨q,i⟩
theorem cR{R:Result->Ai->Prop}{z TI TO B v l1 l2 D:Addr}{xs ys:List V}(hh:A.handled=none)(hu:A.units+2<cLine)(Z:Sw z TI TO B v l1 l2)(W:Nat->Hp->Prop)(hW:∀i H x y,xs[i]? = some x->ys[i]? = some y->W i H->Pq X.K H l1 xs/\Pq X.K H l2 ys/\∃d k p,H D=some (.dT d)/\x=.ref p/\H p=some (.tup (k.map kV))/\d.length<Aq/\W (i+1) (upd H D (.dT (Oj d k y))))(U:∀H,W (min xs.length ys.length) H->Pq X.K H l1 xs/\Pq X.K H l2 ys)(hR:∀H s',W (min xs.length ys.length) H->Inv X f j H s'->R (.ok (.ret .none)) s'):∀n i s H,n=min xs.length ys.length - i->i<=min xs.length ys.length->Inv X f j H s->CN s.heap z TI TO B v l1 l2 i->(∀c∈[z,TI,TO,B,v],Ml X f H c)->W i H->Hb (model X.prog X.w) A (.builtin "dict.update.loop" ⟨[.ref D,.ref z,Er (i:Int),.none],[]⟩) R s:=by
 intro n
 induction n with
 | zero =>
  intro i s H hn hi I st h u
  have e:i=min xs.length ys.length:=by omega
  subst e
  obtain ⟨F,L⟩:=U H u
  obtain ⟨r,b,G,_⟩:=I.list F
  obtain ⟨o,a,N,_⟩:=I.list L
  have h0:=b.length
  have h1:=a.length
  refine Fw Tc ?_
  rw[Fs Mg _]
  unfold Builtin.«dict.update.loop»
  refine Aa (L6 (A:=A.in1) hh Z st G.isList N.isList ?_ λT kp=>?_)
  ·by_cases q:xs.length<=min xs.length ys.length
   ·exact .inl (by simp; omega)
   ·exact .inr (by simp; omega)
  have C:=Rr (t':=s.toks) I kp h
  show wpAny _ _ (Builtin.Dict.addKeywords D [] >>= _) _ _ _
  exact Aa (Ac (Ac (hR _ _ u C)))
 | succ n Y =>
  intro i s H hn hi I st h u
  have l1:i<xs.length:=by omega
  have l2:i<ys.length:=by omega
  obtain ⟨F,L,d,k,p,Q,ex,hp,hz,w1⟩:=hW i H _ _ (Bx l1) (Bx l2) u
  obtain ⟨r,b,G,_⟩:=I.list F
  obtain ⟨o,a,N,_⟩:=I.list L
  obtain ⟨u1,M,m⟩:=b.get (Bx l1)
  obtain ⟨J,O,P⟩:=a.get (Bx l2)
  rw[ex] at m
  cases (show u1=Ay p from m)
  refine Fw Tc ?_
  rw[Fs Mg _]
  unfold Builtin.«dict.update.loop»
  refine Aa (t9 (A:=A.in1) Z st G.isList N.isList (x:=.ref p) (y:=J) (by simpa using M) (by simpa using O) λT E t kp=>?_)
  have C:=Rr (t':=s.toks) I kp h
  have S:∀c∈[z,TI,TO,B,v],c≠D:=λc l e=>by
   have:=(h c l).1
   rw[e,Q] at this
   cases this
  refine Aa (Ck ?_)
  refine Aa (wpAny_tryCatch ?_)
  unfold Builtin.Dict.pairItems
  have ty:({ s with heap:=T }:Ai).TypeIs (.ref s.heap.objs.size) "tuple" := ⟨_,t,rfl⟩
  refine Aa (Hv ty ?_)
  rw[if_pos (by decide)]
  refine Aa (Ii t rfl (Ac ?_))
  show wpAny _ _ (Ny [.ref p,J] (dictSet D (.ref p) J)) _ _ _
  refine Ck (pQ (A:=A.in1) hu C Q hp hz P λs2 I2 k2 o2=>?_)
  refine Ac ⟨Px Mg _,?_⟩
  have g:=Y (i+1) s2 _ (by omega) (by omega) I2 (E.keep k2 o2 S) (λc l=>⟨by rw[Dr (S c l)]; exact (h c l).1,(h c l).2⟩) w1
  rw[show ((i+1:Nat):Int)=(i:Int)+1 by omega] at g
  exact g
theorem oQ{Q:Value->Ai->Prop}{z TI TO n l l1 l2:Addr}{xs ys:List V}{s:Ai}{m:Hp}(R:A.handled=none)(U:A.units+8<cLine)(Z:Sw z TI TO n l l1 l2)(I:Inv X f j m s)(hz:IsZip s.heap z TI TO .none)(t:Gc s.heap TI (.ref n) (.ref l))(a:∃u v,Gc s.heap TO u v)(O:s.heap.IsListIter n l1 0)(M:s.heap.IsListIter l l2 0)(P:∀c∈[z,TI,TO,n,l],Ml X f m c)(T:∀D,m D=none->∃W:Nat->Hp->Prop,W 0 (upd m D (.dT []))/\(∀i H x y,xs[i]? = some x->ys[i]? = some y->W i H->Pq X.K H l1 xs/\Pq X.K H l2 ys/\∃d k p,H D=some (.dT d)/\x=.ref p/\H p=some (.tup (k.map kV))/\d.length<Aq/\W (i+1) (upd H D (.dT (Oj d k y))))/\∀H,W (min xs.length ys.length) H->Pq X.K H l1 xs/\Pq X.K H l2 ys/\∀s',Inv X f j H s'->Q (.ref D) s'):wpAny (model X.prog X.w) A (call (.type "dict") [.ref z]) Q E s:=by
 refine callType_codes (Q₁:=λr e=>r=.ref s.heap.objs.size/\e={ s with heap:=s.heap.push { cls:=.type "dict",data:=.dict #[] } }) F.kt_called_dict (F.kt_typeCall_dict_1 _) F.entry_dict_init (kt_code_dict_new _ ⟨rfl,rfl⟩) ?_
 rintro r e ⟨rfl,rfl⟩
 have fD:m s.heap.objs.size=none:=I.hok.fresh (Aj _)
 obtain ⟨W,w0,Y,C⟩:=T s.heap.objs.size fD
 have D0:({ s with heap:=s.heap.push { cls:=.type "dict",data:=.dict #[] } }:Ai).TypeIs (.ref s.heap.objs.size) "dict" := ⟨_,Ap _ rfl,rfl⟩
 have I3:Inv X f j (upd m s.heap.objs.size (.dT [])) { s with heap:=s.heap.push { cls:=.type "dict",data:=.dict #[] } } :=
  I.laid (t':=s.toks) (λb u q=>Ah _ q) (Aj _) (lT s.heap I.big)
 have L:IsZip (s.heap.push { cls:=.type "dict",data:=.dict #[] }) z TI TO .none:=Ah _ hz
 have G:({ s with heap:=s.heap.push { cls:=.type "dict",data:=.dict #[] } }:Ai).TypeIs (.ref z) "zip" := ⟨_,L,rfl⟩
 refine ⟨D0,F.args_dict_init_2 _ _,?_⟩
 unfold Builtin.«dict.__init__»
 refine Aa ?_
 unfold Builtin.Dict.selfAndRest
 refine Aa (Pl D0 ?_)
 show wpAny _ _ (pure (s.heap.objs.size,[Ay z])) _ _ _
 refine Ac ?_
 show wpAny _ _ (aW "dict.__init__" s.heap.objs.size (.ref z) [] .none) _ _ _
 unfold aW
 refine Aa (Hv G ?_)
 rw[if_pos (by decide)]
 refine Aa (vA (A:=A.in1.in1) R L λB t4 g _=>?_)
 simp only[Option.isNone_none,if_true]
 refine Aa (Kk ?_)
 have N:IsZip B z TI TO .none:=g _ _ L
 refine Aa (kF N ?_)
 have I4:=I3.kept (h':=B) (t':=t4) g
 have up:∀c o,s.heap.get? c=some o->B.get? c=some o:=λc o q=>g c o (Ah _ q)
 obtain ⟨u,v,a⟩:=a
 have J:CN B z TI TO n l l1 l2 0:=⟨up _ _ t,O.at λo q=>up _ _ q,M.at λo q=>up _ _ q,.inl ⟨N,u,v,up _ _ a⟩⟩
 have nz:∀c∈[z,TI,TO,n,l],c≠s.heap.objs.size:=λc h=>by
  obtain ⟨o1,e1,_⟩:=O
  obtain ⟨o2,e2,_⟩:=M
  simp only[An,Bd,or_false] at h
  rcases h with rfl | rfl | rfl | rfl | rfl
  ·exact Bu (Au hz)
  ·exact Bu (Au t)
  ·exact Bu (Au a)
  ·exact Bu (Au e1)
  ·exact Bu (Au e2)
 refine Ac ⟨Px Mg _,?_⟩
 exact cR (A:=A.in1) R (Nat.lt_of_le_of_lt (Jw (show A.in1.units+2<A.units+8 from by show A.units+1+2<A.units+8; omega)) U) Z W Y (λH w=>⟨(C H w).1,(C H w).2.1⟩) (λH s' w S=>⟨rfl,(C H w).2.2 s' S⟩) _ 0 _ _ rfl (Di _) I4 J (λc h=>⟨by rw[Dr (nz c h)]; exact (P c h).1,(P c h).2⟩) w0
end
section
variable{X:Cx}
def u9(K:PySem.W.Frag)(h:TA):TE:=λg H Q=>h g H λvs e=>∃d f c b,vs=[.ref d,.ref f]/\Pq K e d c/\Pq K e f b/\∀D,e D=none->∃W:Nat->Hp->Prop,W 0 (upd e D (.dT [])) /\
   (∀i H x y,c[i]? = some x->b[i]? = some y->W i H->Pq K H d c/\Pq K H f b/\∃a k p,H D=some (.dT a)/\x=.ref p/\H p=some (.tup (k.map kV))/\a.length<Aq/\W (i+1) (upd H D (.dT (Oj a k y)))) /\
   ∀H,W (min c.length b.length) H->Pq K H d c/\Pq K H f b/\Q (.ref D) H
theorem B6{a b:Expr}{M:TA}{p p2 pos i:Pos}(F:Gl X "dict")(B:X.mg "dict" = none)(hg:Gl X "zip")(S:X.mg "zip" = none)(t:X.calm=true)(hu:X.A.units+64<cLine)(ha:PA X [a,b] M)(hs:Bn [a,b] X.env=(false,eval a X.env)::Bn [b] X.env:=by rfl)(hp:(Hj pos (Bn [b] X.env)).any (·.1)=false:=by rfl):PE X (.Call (.Name "dict" p2) [.Call (.Name "zip" p) [a,b] [] pos] [] i) (u9 X.K M):=by
 intro d s T H R I h
 refine Call_ (Ry I F B (u:=.type "dict") (by decide +kernel) (Fi ?_ rfl rfl))
 show wpAny _ _ (spliced ((false,eval (.Call (.Name "zip" p) [a,b] [] pos) X.env)::Hj i (Bn [] X.env))) _ _ s
 refine Lz ?_
 refine Call_ (Ry I hg S (u:=.type "zip") (by decide +kernel) (Fi (Gb (ha pos d s T H _ I h) λus g ⟨vs,N,k,r1,q1⟩=>?_) hs hp))
 obtain ⟨l1,l2,xs,ys,e,J,E,q⟩:=q1
 subst e
 obtain ⟨u1,u2,rfl,C,L⟩:=vals2 r1
 cases C
 cases L
 obtain ⟨P,h4,j,h1⟩:=k.list J
 obtain ⟨O,h0,l,Z⟩:=k.list E
 have m:l1<g.heap.objs.size:=let ⟨o,q,_⟩:=j.isList; Au q
 have r:l2<g.heap.objs.size:=let ⟨o,q,_⟩:=l.isList; Au q
 refine call_zip_2 j.isList l.isList λh2 hz G z y v h3 U=>?_
 have f:∀n,Ml X d N (g.heap.objs.size+n):=λn=>k.fpOk (Oe _ _) (k.hok.fresh (Oe _ _))
 have fr:∀c∈[g.heap.objs.size+4,g.heap.objs.size+2,g.heap.objs.size+3,g.heap.objs.size,g.heap.objs.size+1],Ml X d N c:=λc t=>by
  simp only[An,Bd,or_false] at t
  rcases t with rfl | rfl | rfl | rfl | rfl
  ·exact f 4
  ·exact f 2
  ·exact f 3
  ·exact f 0
  ·exact f 1
 refine Rn ?_
 refine oQ (xs:=xs) (ys:=ys) (I.ok.hd t) (by omega) (wG _ _ _ m r) (k.kept (t':=g.toks) U) hz G ⟨_,_,z⟩ y v fr λD Y=>?_
 obtain ⟨W,w0,V,x⟩:=q D Y
 exact ⟨W,w0,V,λH w=>⟨(x H w).1,(x H w).2.1,λs' Q=>⟨.ref D,H,Q,rfl,(x H w).2.2⟩⟩⟩
end
end Nd
namespace DL
open PySem PySem.Spec PyProof.Rows L2 Nd
def Sr(b:List (List Int×Ae))(l:List (List Int×Ae)):List (List Int×Ae):=l.foldl (λa p=>Rh a p.1 p.2) b
def jH(xs:List DV)(b:DS)(P:DV->DS->Prop):Prop:=match xs with
 | [.dat _ (.list ds),.dat _ (.list es)]=>ds.length<=1000000/\Ed es=true/\∃a:List (List Int),ds=a.map Br/\P (.dat .ow (.dict (Ou (Sr [] (a.zip es))))) b
 | _=>False
def qQ(c:DA):DE:=λd P=>c d λb a=>jH b a P
theorem eS:∀(l:List (List Int×Ae)) (a:List (List Int×Ae)),(Sr a l).length<=a.length+l.length
 | [],a=>Aj _
 | p::l,a=>by
  have b:=eS l (Rh a p.1 p.2)
  have c:=kN a p.1 p.2
  show (Sr (Rh a p.1 p.2) l).length<=_
  rw[Bm]
  omega
theorem qN{a:List (List Int)}{es:List Ae}{i:Nat}{w:List Int}{e:Ae}(b:a[i]? = some w)(c:es[i]? = some e):Sr [] ((a.zip es).take (i+1))=Rh (Sr [] ((a.zip es).take i)) w e:=by
 have d:(a.zip es)[i]? = some (w,e):=by
  rw[List.getElem?_zip_eq_some]
  exact ⟨b,c⟩
 rw[List.take_add_one,d]
 unfold Sr
 rw[List.foldl_append]
 rfl
section
variable{X:Cx}{a b:Expr}{d:DA}{p e pos c:Pos}
theorem zQ{K:PySem.W.Frag}:∀I H Q,LE K (qQ d) I H Q->u9 K (LA K d) I H Q:=by
 intro I H Q h
 obtain ⟨H0,Y,S,T,δ,P,rfl,hS,hA,hd,k⟩:=h
 refine ⟨H0,Y,S,T,δ,_,rfl,hS,hA,hd,λs o As us M H' C t ex eu V p=>?_⟩
 unfold jH at p
 split at p
 ·rename_i m ds m' f
  obtain ⟨hl,im,e,rfl,pk⟩:=p
  obtain ⟨v,F,w,G,rfl,g⟩:=Wy eu V ex
  obtain ⟨a,s,G1,rfl,E,ra,rfl,hz⟩:=(g.told mem_mid).list_inv
  obtain ⟨b,J,G2,rfl,B,rb,rfl,h3⟩:=(g.told Fd).list_inv
  refine ⟨a,b,s,J,rfl,Pq.of E,Pq.of B,λD L=>?_⟩
  have h7:=kE (n:=1000000) (Aj _)
  have r:a≠D:=λz=>by rw[z,L] at E; cases E
  have u:b≠D:=λz=>by rw[z,L] at B; cases B
  have l1:e.length=s.length:=by have:=ra.len; rw[Af] at this; exact this.symm
  have l2:=rb.len
  refine ⟨λi H=>H a=some (.lst s)/\H b=some (.lst J)/\At K H0 Y o.n (⟨some (.ref D),.dT (dI (Sr [] ((e.zip f).take i))),[D]⟩::(M++(⟨some (.ref a),.dat m (.list (e.map Br)),a::G1⟩::⟨some (.ref b),.dat m' (.list f),b::G2⟩::T))) H,⟨?_,?_,?_⟩,?_,?_⟩
  ·rw[Dr r]; exact E
  ·rw[Dr u]; exact B
  ·exact g.dNew L
  ·(intro i H x y Z hy O; obtain ⟨q,l,c⟩ := O)
   have li:=(Av.mp Z).1
   have h4:=(Av.mp hy).1
   obtain ⟨a2,h5,F2,ea,A,U,_,_⟩:=(c.told (Ad _ mem_mid)).list_inv
   cases ea
   rw[q] at A
   cases A
   obtain ⟨b2,h6,F3,eb,j,R,_,_⟩:=(c.told (Ad _ Fd)).list_inv
   cases eb
   rw[l] at j
   cases j
   have C:e[i]? = some (e[i]'(by omega)):=Bx _
   have t:f[i]? = some (f[i]'(by omega)):=Bx _
   obtain ⟨x',Fx,g1,g2,_⟩:=U.get (by rw[Bj,C]; rfl)
   rw[Z] at g1
   cases g1
   obtain ⟨p,rfl,hp⟩:=Ui g2
   obtain ⟨y',Fy,X,g4,_⟩:=R.get t
   rw[hy] at X
   cases X
   obtain rfl:=g4.imm (qJ.mp im _ (Be t))
   obtain ⟨kv,q1,q2,q3⟩:=c.dPut (w:=e[i]'(by omega)) g4
   refine ⟨Pq.of q,Pq.of l,kv,Lc _,p,q1,rfl,hp,?_,?_,?_,?_⟩
   ·have:=eS ((e.zip f).take i) []
    rw[Du] at this
    rw[Af] at hl
    rw[q2]
    show _<Aq
    have h0:([]:List (List Int×Ae)).length=0:=rfl
    omega
   ·rw[Dr r]; exact q
   ·rw[Dr u]; exact l
   ·rw[qN C t]
    exact q3
  ·(intro H O; obtain ⟨q,l,c⟩ := O)
   refine ⟨Pq.of q,Pq.of l,k _ o _ [D] M H C t ?_ pk⟩
   have et:(e.zip f).take (min s.length J.length)=e.zip f:=Js (by rw[Pn]; omega)
   rw[et] at c
   have N:=c.dGot
   exact (N.sub (((Ci M).append ((Ci T).cons _ |>.cons _)).cons₂ _)).tomid
 ·exact p.elim
theorem zF(k:X.A.units+64<cLine)(g:Gl X "dict")(f:X.mg "dict" = none)(l:Gl X "zip")(i:X.mg "zip" = none)(j:X.calm=true)(n:oT X [a,b] d)(m:Bn [a,b] X.env=(false,eval a X.env)::Bn [b] X.env:=by rfl)(h:(Hj pos (Bn [b] X.env)).any (·.1)=false:=by rfl):Fm X (.Call (.Name "dict" e) [.Call (.Name "zip" p) [a,b] [] pos] [] c) (qQ d):=PE.imp (B6 g f l i j k n m h) zQ
end
end DL
namespace Nd
open PySem PySem.Spec PyProof.Rows L2
section
variable{prog:Bl}{w:World}{A:Ce}{E:Value->Ai->Prop}{s:Ai}{it d:Addr}{es:Array Gz}{i ep:Nat}
theorem vT{Q:Option Value->Ai->Prop}{x:Gz}(f:s.heap.IsValIter it d i es.size ep)(j:Td s.heap d es ep)(m:es[i]? = some x)(k:∀h',h'.IsValIter it d (i+1) es.size ep->Ct it s.heap h'->Q (some x.val) { s with heap:=h' }):wpAny (model prog w) A (Hi (.ref it)) Q E s:=by
 obtain ⟨p,e,l,b⟩:=id f
 obtain ⟨n,h,o,g⟩:=id j
 have a:=f.typeIs
 unfold Hi
 refine Aa (Ic (Cu (name:=Dq "__next__") a PySem.F.slot_dict_valueiterator_next (Cn PySem.F.slot_dict_valueiterator_next a PySem.F.entry_dict_valueiterator_next ?_ (PySem.F.args_dict_valueiterator_next_1 _))))
 refine Aa (Ac (Aa (Aa ?_)))
 first | refine Aa (Kg a (Ac ?_)) | refine Aa (Mn a (Ac ?_))
 refine Aa (Nx e b ?_)
 simp only[show Gk "dict_valueiterator" = false by decide,Bw,if_false]
 show wpAny _ _ (ite ((Ay d == Fp)=true) _ _) _ _ s
 rw[if_neg (show ¬ (Ay d == Fp)=true from Bp)]
 refine Aa (Ac (Aa (Lf h g ?_)))
 rw[if_neg (by simp)]
 refine Aa (Ac (Aa (Mw h g ?_)))
 rw[if_neg (by simp)]
 refine Ac ?_
 simp only[show ¬ ((i:Int)<0) from by omega,Hg,if_false,m]
 refine Aa ?_
 first | refine Aa (Kg a (Ac ?_)) | refine Aa (Mn a (Ac ?_))
 refine Aa (Xv a ?_)
 show wpAny _ _ (bind (Mp (.ref it) 1 (Er ((i:Int)+1))) _) _ _ s
 refine Aa (Lx e b (by simp) ?_)
 have c:(s.heap.update it (Oq (·.setIfInBounds 1 (Er ((i:Int)+1))))).IsValIter it d (i+1) es.size ep :=
  ⟨_,Eu _ e (Obj.isFreed_of_fields (Qw b _)),(Obj.cls_mapFields ..).trans l,by rw[Qw b]; simp [Er]⟩
 refine Aa (Ck (Aa (Xv (s:={ s with heap:=s.heap.update it (Oq (·.setIfInBounds 1 (Er ((i:Int)+1)))) }) c.typeIs (Aa (Xv (s:={ s with heap:=s.heap.update it (Oq (·.setIfInBounds 1 (Er ((i:Int)+1)))) }) c.typeIs ?_)))))
 show wpAny _ _ (pure x.val) _ _ _
 exact Ac (Ac ⟨_,rfl,Ac (k _ c (Bo ..))⟩)
theorem i7{Q:Option Value->Ai->Prop}(g:A.handled=none)(e:s.heap.IsValIter it d es.size es.size ep)(l:Td s.heap d es ep)(k:∀h',We it s.heap h'->Q none { s with heap:=h' }):wpAny (model prog w) A (Hi (.ref it)) Q E s:=by
 obtain ⟨q,h,n,j⟩:=id e
 obtain ⟨o,i,p,f⟩:=id l
 have c:=e.typeIs
 unfold Hi
 refine Aa (Ic (Cu (name:=Dq "__next__") c PySem.F.slot_dict_valueiterator_next (Cn PySem.F.slot_dict_valueiterator_next c PySem.F.entry_dict_valueiterator_next ?_ (PySem.F.args_dict_valueiterator_next_1 _))))
 refine Aa (Ac (Aa (Aa ?_)))
 first | refine Aa (Kg c (Ac ?_)) | refine Aa (Mn c (Ac ?_))
 refine Aa (Nx h j ?_)
 simp only[show Gk "dict_valueiterator" = false by decide,Bw,if_false]
 show wpAny _ _ (ite ((Ay d == Fp)=true) _ _) _ _ s
 rw[if_neg (show ¬ (Ay d == Fp)=true from Bp)]
 refine Aa (Ac (Aa (Lf i f ?_)))
 rw[if_neg (by simp)]
 refine Aa (Ac (Aa (Mw i f ?_)))
 rw[if_neg (by simp)]
 refine Ac ?_
 simp only[show ¬ ((es.size:Int)<0) from by omega,Hg,if_false,Mu (Aj es.size)]
 refine Aa ?_
 first | refine Aa (Kg c (Ac ?_)) | refine Aa (Mn c (Ac ?_))
 show wpAny _ _ (bind (Mp (.ref it) 0 .none) _) _ _ s
 refine Aa (Lx h j (by simp) ?_)
 show wpAny _ _ (bind (newExc (.type "StopIteration") []) _) _ _ _
 refine Aa ?_
 simp only[newTuple,newExc]
 refine Aa (Ca ?_ (by size_fits))
 refine Aa (m:=Jv _ _) (Ja (a:=Fp) (by first | rfl | (simp only[Jv]; rfl)) (Ca ?_ (by size_fits)))
 simp only[raiseNew]
 refine Aa (wpAny_handled ?_)
 first | rw[show A.in1.handled=none from g] | rw[g]
 refine Aa (Ac (wpAny_throw ?_))
 refine Aa (Gy (T := "StopIteration") (b:=true) ⟨_,Ap _ rfl,rfl⟩ Zr (Ac (k _ (((Bo ..).extBut.push _).push _))))
theorem wO{v:Addr}{Q:Value->Ai->Prop}(b:s.heap.IsValuesView v d)(g:Td s.heap d es ep)(k:Q (.ref s.heap.objs.size) { s with heap:=s.heap.push { cls:=.type "dict_valueiterator",data:=.fields #[.ref d,.int 0 0,.int es.size 0,.int ep 0] } }):wpAny (model prog w) A (Zo (.ref v)) Q E s:=by
 obtain ⟨j,a,h,c⟩:=id b
 obtain ⟨i,f,l,e⟩:=id g
 refine Uc b.typeIs PySem.F.slot_dict_values_iter (Cn PySem.F.slot_dict_values_iter b.typeIs PySem.F.entry_dict_values_iter ?_ (PySem.F.args_dict_values_iter_1 _))
 unfold Builtin.«dict_values.__iter__»
 refine Aa (Ac (Aa ?_))
 unfold Builtin.Dict_items.dictOf
 refine Aa (Ew a c (x:=.ref d) rfl (Ac (Aa ?_)))
 unfold Builtin.Dict_items.newIterator
 refine Aa (Lf f e (Aa (Mw f e ?_)))
 simp only[show Gk "dict_valueiterator" = false by decide,Bw,if_false]
 refine Ca (Ac ⟨_,rfl, "dict_valueiterator",_,⟨_,Ap _ rfl,rfl⟩,PySem.F.slot_dict_valueiterator_next.lookup,?_⟩)
 exact k
theorem wU{Q:Value->Ai->Prop}(hd:(d == Gm)=false)(b:Td s.heap d es ep)(k:Q (.ref s.heap.objs.size) { s with heap:=s.heap.push { cls:=.type "dict_values",data:=.fields #[.ref d] } }):wpAny (model prog w) A (call (.builtin "dict.values") [.ref d]) Q E s:=by
 obtain ⟨c,f,e,g⟩:=id b
 have a:s.TypeIs (.ref d) "dict" := ⟨c,f,e.1⟩
 refine Cn PySem.F.slot_dict_values a PySem.F.entry_dict_values ?_ (PySem.F.args_dict_values_1 _)
 refine Aa ?_
 unfold Builtin.Dict.noArgs
 refine Aa (Pl a ?_)
 show wpAny _ _ (pure d) _ _ s
 refine Ac ?_
 show wpAny _ _ (bind (Mb d) _) _ _ s
 unfold Mb
 rw[if_neg (by rw[hd]; exact Bp)]
 exact Aa (Ac (Aa (Ca (Ac ⟨_,rfl,k⟩))))
end
theorem CJ{prog:Bl}{w:World}{A:Ce}(p:A.handled=none)(it d:Addr)(g:d≠it)(es:Array Gz)(ep:Nat):Walks prog w A it [it,d] [it] es.size (λi v=>∃x,es[i]? = some x/\v=x.val) (λi h=>h.IsValIter it d i es.size ep/\Td h d es ep) where
 sub:=λb a=>by simp at a; simp [a]
 frame:=λ_ _ _ st l=>⟨let ⟨o,e,r⟩:=st.1; ⟨o,l it (by simp) o e,r⟩,st.2.at λo e=>l d (by simp) o e⟩
 item:=λi s Q E k st c=>by
  refine vT st.1 st.2 (x:=es[i]) (by simp [k]) λf n m=>?_
  exact c _ f s.toks ⟨_,by simp [k],rfl⟩ ⟨n,st.2.at λo e=>(m.2 d g).trans e⟩ λb o a e=>m.extBut b o (λh=>a (by simp [h])) e
 done:=λs Q E st c=>i7 p st.1 st.2 λf j=>c f s.toks λb o a e=>j b o (λh=>a (by simp [h])) e
 self:=λ_ _ _ _ st c=>wpAny_pyIter_valiter st.1 c
section
variable{X:Cx}
theorem gC{b a:Type}{R:b->a->Prop}:∀{xs:List b} {ys:List a} {i:Nat} {y:a},Paired R xs ys->ys[i]? = some y->∃x,xs[i]? = some x/\R x y
 | _,_,0,y,.cons r _,h=>⟨_,rfl,by cases h; exact r⟩
 | _,_,i+1,y,.cons _ rs,h=>gC (i:=i) rs h
def S5(e:TE):TE:=λd H Q=>e d H λx c=>∃a b,x=.ref a/\c a=some (.dT b)/\b≠[]/\∃f:List Int,b.map (·.2)=f.map V.int/\∀M∈f,(∀z∈f,M<=z)->Q (.int M) c
theorem G9{o:Expr}{Y:TE}{p c d pos:Pos}(hg:Gl X "min")(hm:X.mg "min" = none)(hc:X.calm=true)(ho:PE X o Y)(r:Mr o "values" X.env (eval o X.env)=eval o X.env:=by rfl)(B:(c.endLine == d.line)=true:=by rfl):PE X (.Call (.Name "min" p) [.Call (.Attribute o "values" c) [] [] d] [] pos) (S5 Y):=by
 intro D s σ H Q I h
 refine Call_ (Ry I hg hm (u:=.builtin "min") (by decide +kernel) (Mt rfl (Vl ?_)))
 show wpAny _ _ (spliced ((false,eval (.Call (.Attribute o "values" c) [] [] d) X.env)::Hj pos (Bn [] X.env))) _ _ s
 refine Lz ?_
 refine wpAny_Call_method0_late r B (Gb (ho D s σ H _ I h) λv l S => ?_)
 obtain ⟨x,H1,O,r1,a,k,ex,ha,ne,f,ef,q⟩ := S
 subst ex
 obtain rfl:v=Ay a:=r1
 obtain ⟨t1,t2,E⟩:=u4 O (.inr ⟨k,.inl ha⟩)
 obtain ⟨hz,_,xs,K,ob,C,T,U,g2,g3,W,_⟩:=jP O.hok (.inl ha)
 have Z:Td l.heap a C T:=⟨ob,U,g2,g3⟩
 refine ⟨_,_,PySem.F.plainAttrs_dict,PySem.F.slot_dict_values,PySem.F.type_dict_values,t1,t2,Mt rfl (PySem.evalArgs_none (wU E Z (Rn ?_)))⟩
 have lt:=Au U
 have L:Td (l.heap.push { cls:=.type "dict_values",data:=.fields #[.ref a] }) a C T:=Z.at λo q=>Ah _ q
 have el:C.size=k.length:=by
  have:=congrArg Ft W
  rw[Af,<- Paired.length K] at this
  simpa using this
 have fl:f.length=k.length:=by
  have:=congrArg Ft ef
  simpa using this.symm
 have nz:0<k.length:=Lo.mpr ne
 have val:∀(i:Nat) (v:Value),(∃x:Gz,C[i]? = some x/\v=x.val)->∃t,v=Lb (f.getD i 0) t:=by
  (intro i v q_; obtain ⟨x,hx,rfl⟩ := q_)
  have g:(xs.map (Wl (Ng (Hn X.prog X.w))))[i]? = some x:=by rw[<- W]; simpa using hx
  rw[Bj] at g
  cases R:xs[i]? with
  | none=>rw[R] at g; cases g
  | some y =>
   rw[R] at g
   cases g
   obtain ⟨z,e1,_,_,e3⟩:=gC K R
   have J:(k.map (·.2))[i]? = some z.2:=by rw[Bj,e1]; rfl
   rw[ef,Bj] at J
   cases P:f[i]? with
   | none=>rw[P] at J; cases J
   | some n =>
    rw[P] at J
    have e5:V.int n=z.2:=Bv J
    rw[<- e5] at e3
    obtain ⟨t,e6⟩:=e3
    refine ⟨t,?_⟩
    rw[kC,P]
    exact e6
 refine call_min_walk (wO (A:=X.A.in1) ⟨_,Ap _ rfl,rfl,rfl⟩ L ⟨_,_,_,_,_,_,_,rfl,CJ (A:=X.A.in1) (I.ok.hd hc) _ a ?_ C T,⟨⟨_,Ap _ rfl,rfl,rfl⟩,L.at λo q=>Ah _ q⟩,?_,by omega,CmpOf.ints_lt (λi=>f.getD i 0) val,λv h' tk hP hk=>?_⟩)
 ·rw[Fc]; exact Bu (Fg lt)
 ·intro b M
  simp only[An,Bd,or_false] at M
  show b<((l.heap.push _).push _).objs.size
  rw[Fc,Fc]
  rcases M with rfl | rfl
  ·show (l.heap.push _).objs.size<_
   rw[Fc]
   exact Tb _
  ·exact Fg (Fg lt)
 ·obtain ⟨t,rfl⟩:=val _ _ hP
  obtain ⟨b1,b2⟩:=argBest_lt (λi=>f.getD i 0) (C.size - 1)
  have kp:∀b o,l.heap.get? b=some o->h'.get? b=some o:=λb o e=>by
   have G:=Au e
   refine hk b o ?_ (Ah _ (Ah _ e))
   intro M
   rw[Al.mp M] at G
   have sz:(l.heap.push { cls:=.type "dict_values",data:=.fields #[.ref a] }).objs.size=l.heap.objs.size+1:=Fc ..
   have m:(l.heap.push { cls:=.type "dict_values",data:=.fields #[.ref a] }).objs.size<l.heap.objs.size:=G
   rw[sz] at m
   exact absurd m (Nat.not_lt.mpr (Ox _))
  refine ⟨.int _,H1,O.kept kp,⟨t,rfl⟩,q _ (getD_mem (by omega)) λz N=>?_⟩
  obtain ⟨j,hj,rfl⟩:=mem_getD N
  exact b2 j (by omega)
end
end Nd
namespace DL
open PySem PySem.Spec PyProof.Rows L2 Nd
def sN(x:DV)(b:DS)(P:DV->DS->Prop):Prop:=match x with
 | .dat _ (.dict X)=>∃(a:List (List Int×Ae)) (f:List Int),X=Ou a/\a≠[]/\a.map (·.2)=f.map Ax/\∀M∈f,(∀z∈f,M<=z)->P (.dat .ow (.int M)) b
 | _=>False
def w8(c:DE):DE:=λb P=>c b λx a=>sN x a P
def tK(x y z:DV)(b:DS)(P:DV->DS->Prop):Prop:=match x,y,z with
 | .dat _ (.dict X),.dat _ k,.dat _ e=>∃(a:List (List Int×Ae)) (w:List Int),X=Ou a/\k=Br w/\imm e=true/\P (.dat .ow ((Xc a w).getD e)) b
 | _,_,_=>False
def r0:DV->Bool
 | .dat _ (.dict _)=>true
 | _=>false
def B2(g d f:DE):DE:=λe P=>g e λx c=>r0 x=true/\d c λy a=>f a λz b=>tK x y z b P
section
variable{K:PySem.W.Frag}
theorem M4{i:DE}:∀e H Q,LE K (w8 i) e H Q->S5 (LE K i) e H Q:=by
 intro e H Q h
 obtain ⟨t,Y,S,T,G,P,rfl,n,r,C,k⟩:=h
 refine ⟨t,Y,S,T,G,_,rfl,n,r,C,λx g v F m y E D b d=>?_⟩
 unfold sN at d
 split at d
 ·obtain ⟨J,f,rfl,l,u,p⟩:=d
  obtain ⟨a,w,o,rfl,q,I,c,_⟩:=(b.told mem_mid).dict_inv
  obtain rfl:=Ju q
  have j:=c.val
  rw[u] at j
  obtain ⟨B,_⟩:=j.ints_inv
  refine ⟨a,w,rfl,I,λz=>l ?_,f,B,λM s A=>k _ g _ [] m y E D (b.drop.pushI (.int _)) (p M s A)⟩
  have:=Rf c
  rw[z] at this
  exact Mk.mp this.symm
 ·exact d.elim
theorem N4{N J R:DE}:∀o H Q,LE K (B2 N J R) o H Q->B9 (LE K N) (LE K J) (LE K R) o H Q:=by
 intro o H Q h
 obtain ⟨B,Y,S,T,δ,P,rfl,hS,hA,hd,k⟩:=h
 refine ⟨B,Y,S,T,δ,_,rfl,hS,hA,hd,λx I v F Z H1 e1 e2 i u=>?_⟩
 obtain ⟨W,u⟩:=u
 match x,W with
 | .dat m (.dict X),_ =>
  obtain ⟨a,kv,h0,rfl,rfl,ha,h5,_⟩:=(i.told mem_mid).dict_inv
  refine ⟨a,rfl,.inr ⟨kv,.inl ha⟩,B,Y,Z,_::T,I,_,e1,e2,i,u,λy E v2 F2 S2 H2 e3 e4 G p2=>?_⟩
  refine ⟨B,Y,S2,_::_::T,E,_,e3,e4,G,p2,λz d v3 F3 A O M L c l=>?_⟩
  unfold tK at l
  split at l
  ·rename_i s
   obtain ⟨ks,w,ek,rfl,im,p⟩:=l
   have U:∀{e f g:Ent},g∈A++e::f::g::T:=λ{e f g}=>Ag _ (Ad _ (Ad _ Ab))
   obtain ⟨a',V,h4,ea,q,D,j,_⟩:=(c.told U).dict_inv
   cases ea
   cases s
   obtain rfl:=Ju q
   obtain rfl:=Ju ek
   obtain ⟨b,rfl,hb⟩:=Ui (c.told Fd)
   have r:=c.told mem_mid
   obtain rfl:=r.imm im
   refine ⟨_,qW.t D hb,?_⟩
   rcases bS w j with ⟨C,n⟩ | ⟨v',d',C,n,h3⟩
   ·rw[C]
    rw[n] at p
    exact k _ d _ [] A O M L (c.drop2.drop.pushI r) p
   ·rw[C]
    rw[n] at p
    exact k _ d _ [] A O M L (c.drop2.drop.pushI h3) p
  ·exact l.elim
end
section
variable{X:Cx}{o e f:Expr}{c d g:DE}{p a b pos:Pos}
theorem P5(i:Gl X "min")(f:X.mg "min" = none)(g:X.calm=true)(h:Fm X o c)(d:Mr o "values" X.env (eval o X.env)=eval o X.env:=by rfl)(e:(a.endLine == b.line)=true:=by rfl):Fm X (.Call (.Name "min" p) [.Call (.Attribute o "values" a) [] [] b] [] pos) (w8 c):=PE.imp (G9 i f g h d e) M4
theorem O3(k:X.A.units+64<cLine)(j:Fm X o c)(h:Fm X e d)(i:Fm X f g)(m:M2 X o "get" a e f b):Fm X (.Call (.Attribute o "get" a) [e,f] [] b) (B2 c d g):=PE.imp (C3 (HL k) j h i m) N4
end
end DL
namespace Nd
open PySem PySem.Spec PyProof.Rows L2
section
variable{prog:Bl}{w:World}{A:Ce}{E:Value->Ai->Prop}{s:Ai}
theorem mK{l:Addr}{o:Obj}{n:Nat}{vs:List Value}{Q:List Value->Ai->Prop}(c:s.heap.get? l=some o)(a:o.cls=.type "tuple")(hd:o.data=.seq vs.toArray n)(h:Q vs { s with heap:=(s.heap.push (Ej "list" #[] 0)).update s.heap.objs.size (Eg (·++vs.toArray)) })(hsz:vs.length<=Aq):wpAny (model prog w) A (collect (.ref l)) Q E s:=by
 unfold collect
 refine Aa (wpAny_runValue (Fw entry_proto_collect' ?_))
 show wpAny _ _ (bind (newList []) λq=>again (.builtin "list.__iadd__" ⟨[q,.ref l],[]⟩)) _ _ s
 refine Aa (Uw (Ac ⟨Code.quiet_builtin _ (by decide +kernel),Fw entry_list_iadd' ?_⟩))
 show wpAny _ _ (Ni (.ref s.heap.objs.size) (.ref l) (.ref s.heap.objs.size)) _ _ { s with heap:=s.heap.push (Ej "list" #[] 0) }
 unfold Ni
 have g:(s.heap.push (Ej "list" #[] 0)).get? l=some o:=Ah _ c
 refine Aa (Hv (T := "tuple") ⟨o,g,a⟩ ?_)
 rw[if_pos (by rw[show (Gd "tuple" == Gd "tuple")=true from rfl,Bool.or_true])]
 refine Aa (gG g hd (Aa (gG (xs:=#[]) (n:=0) (Ap _ rfl) rfl ?_)))
 rw[if_neg (by simp)]
 refine Aa (dF (xs:=#[]) (n:=0) (Ap _ rfl) rfl (Ac ?_) (Di _) (by show (#[]++vs.toArray).size<=Aq+1; simp only[Array.size_append,Ar,Ij]; omega))
 have b:((s.heap.push (Ej "list" #[] 0)).update s.heap.objs.size (Eg (·++vs.toArray))).get? s.heap.objs.size=some _:=Mx (Ap _ rfl) _
 refine Aa (Wi b ?_)
 show wpAny _ _ (pure ((#[]:Array Value)++vs.toArray).toList) Q E _
 rw[show ((#[]:Array Value)++vs.toArray).toList=vs by simp]
 exact Ac h
theorem qL{l:Addr}{o:Obj}{n:Nat}{vs:List Value}{ns:List Int}{Q:Value->Ai->Prop}(i:s.heap.get? l=some o)(d:o.cls=.type "tuple")(hd:o.data=.seq vs.toArray n)(f:Ez vs ns)(b:vs.length<64)(h:∀(out:Array Value) (a:List Int),Ez out.toList a->a.Perm ns->a.Pairwise (·<=·)->Q (.ref (s.heap.objs.size+1)) { s with heap:=aC s.heap vs out }):wpAny (model prog w) A (call (.builtin "sorted") [.ref l]) Q E s:=by
 refine Qx kind_sorted plain_sorted entry_sorted (args_sorted1 _) ?_
 unfold Xw
 refine Aa (m:=checkCount "sorted" 1 1 _) (Ac (Aa (mK i d hd (Aa (Uw ?_)) (by rw[Hh]; omega))))
 have z:((s.heap.push (Ej "list" #[] 0)).update s.heap.objs.size (Eg (·++vs.toArray))).objs.size=s.heap.objs.size+1:=by
  rw[Lg,dN]
 have g:(((s.heap.push (Ej "list" #[] 0)).update s.heap.objs.size (Eg (·++vs.toArray))).push (Ej "list" vs.toArray 0)).get? (s.heap.objs.size+1)=some (Ej "list" vs.toArray 0):=by
  rw[<- z]; exact Ap _ rfl
 show wpAny _ _ _ _ _ { s with heap:=((s.heap.push (Ej "list" #[] 0)).update s.heap.objs.size (Eg (·++vs.toArray))).push (Ej "list" vs.toArray 0) }
 rw[z]
 refine Aa (Ck (Cn slot_list_sort ⟨_,g,rfl⟩ entry_list_sort (list_sort_tree g f b λout a e j c=>⟨_,rfl,?_⟩) (args_list_sort _)))
 exact Ac ⟨_,rfl,h out a e j c⟩
end
section
variable{X:Cx}
def nA(K:PySem.W.Frag):List V->Hp->VK->Prop:=λd H Q=>∃(a:Addr) (b:List Int),d=[.ref a]/\H a=some (.tup (b.map V.int))/\b.length<64 /\
 ∀(p:Addr) (c:List Int),H p=none->c.Perm b->c.Pairwise (·<=·)->Q (.ref p) (upd H p (.lst (c.map V.int)))
theorem jN:Mf X (.builtin "sorted") (nA X.K):=by
 intro d s x H A y Q I r h
 obtain ⟨a,B,rfl,l,f,q⟩:=h
 obtain ⟨u,rfl,k⟩:=vals1 r
 cases k
 obtain ⟨_,b,i,o,t,j,n,v⟩:=I.hok a _ l
 have len:b.length<64:=by rw[<- i.length,Af]; exact f
 refine qL t j v (intsAre_of i) len λout c w g m=>?_
 obtain ⟨e,p⟩:=sortedAll_at s.heap b out
 have z:c.length<64:=by rw[g.length_eq]; exact f
 exact ⟨.ref (s.heap.objs.size+1),_,I.laid (t':=s.toks) (o:=.lst (c.map V.int)) (λ_ _=>sortedAll_old) (Ox _) ⟨by rw[Af,Hh]; omega,out.toList,e,C6 w,by simpa using p⟩,rfl,q _ c (I.hok.fresh (Ox _)) g m⟩
end
end Nd
namespace DL
open PySem PySem.Spec PyProof.Rows L2 Nd
def iM:DC:=λb P=>match b with
 | [.dat _ (.tuple ds)]=>∃a:List Int,ds=a.map Ax/\a.length<64/\P (.dat .ow (.list ((cJ a).map Ax)))
 | _=>False
theorem zT{K:PySem.W.Frag}:Tt K (nA K) iM:=by
 intro r X n S T s g H Q P p b c k
 unfold iM at c
 split at c
 ·rename_i h
  obtain ⟨v,F,rfl,b⟩:=Jf p b h
  obtain ⟨i,rfl,f,e⟩:=c
  obtain ⟨a,t,rfl,o,l,_⟩:=(b.told mem_mid).tup_inv
  obtain ⟨rfl,_⟩:=l.ints_inv
  refine ⟨a,i,rfl,o,f,λq g d m j=>?_⟩
  rw[lC m j]
  exact k _ _ _ _ (b.drop.newI (RdFs.ints _) (Nb _) (by rw[Af,uP]; exact sz (by omega)) d .ow) e
 ·exact c.elim
def CU(t u:DB)(D:DEnds)(b:Bool)(a:DS):Prop:=match b with
 | true=>t D a
 | false=>u D a
def FM(x:DV)(a:DS)(P:DV->DS->Prop):Prop:=match x with
 | .dat _ d=>imm d=true/\P (.dat .ow d) a
 | _=>False
def JV(i:Nat)(s:Option DV)(a:DS)(P:DV->DS->Prop):Prop:=match s with
 | some (.dat .pk _)=>False
 | some (.dat _ d)=>P (.dat .sh d) ⟨a.sl.set i (.dat .sh d),a.n⟩
 | _=>False
def tupB(xs:List DV)(b:DS)(P:DV->DS->Prop):Prop:=match datas xs with
 | some a=>a.length<=1000/\P (.dat (pkMd .sh xs) (.tuple a)) b
 | none=>False
def lstB(xs:List DV)(b:DS)(P:DV->DS->Prop):Prop:=match datas xs with
 | some a=>a.length<=1000/\P (.dat (pkMd .tp xs) (.list a)) b
 | none=>False
def V0(x:DV)(a:DS)(P:Option Int->DS->Prop):Prop:=match x with
 | .dat _ (.int i)=>P (some i) a
 | _=>False
def JP(i:Bool)(x:DV)(l h:Option Int)(a:DS)(P:DV->DS->Prop):Prop:=match x with
 | .dat m (.list ds)=>Zm i m (Pt ds l h) λz=>P z a
 | .dat m (.tuple ds)=>jS i m (Pt ds l h) λz=>P z a
 | _=>False
def KM(xs:List DV)(b:DS)(P:DV->DS->Prop):Prop:=match xs with
 | [.dat _ (.list ds)]=>∃a:List Int,ds=a.map Ax/\(∀x∈a,0<=x/\x<60)/\P (.dat .ow (.list ((Ol a).map Ax))) b
 | [.dat _ (.tuple ds)]=>∃a:List Int,ds=a.map Ax/\(∀x∈a,0<=x/\x<60)/\P (.dat .ow (.list ((Ol a).map Ax))) b
 | _=>False
def bB(x:DV)(a:DS)(P:Bool->DS->Prop):Prop:=match x with
 | .dat _ (.bool b)=>P b a
 | _=>False
def P0(c:DT)(b:Bool)(a:DS)(P:Bool->DS->Prop):Prop:=match b with
 | true=>c a P
 | false=>P false a
def JE(c:DT)(b:Bool)(a:DS)(P:Bool->DS->Prop):Prop:=match b with
 | true=>P true a
 | false=>c a P
def FK(b:DE)(x:DV)(a:DS)(P:DV->DS->Prop):Prop:=match x with
 | .dat _ (.bool true)=>b a P
 | .dat _ (.bool false)=>P (.dat .ow (.bool false)) a
 | _=>False
def JS(d c:DE)(b:Bool)(a:DS)(P:DV->DS->Prop):Prop:=match b with
 | true=>d a P
 | false=>c a P
def FA(x:DV)(a:DS)(P:DV->DS->Prop):Prop:=match x with
 | .dat _ (.int i)=>P (.dat .ow (.int (-i))) a
 | _=>False
def lB(x:DV)(a:DS)(P:Md->List Ae->DS->Prop):Prop:=match x with
 | .dat m (.list ds)=>P (Ke m) ds a
 | _=>False
def JG(x:DV)(a:DS)(P:Md->List Ae->DS->Prop):Prop:=match x with
 | .dat m (.tuple ds)=>P (Ke m) ds a
 | _=>False
def W0(xs:List DV)(a:DS)(P:Md->List Ae->DS->Prop):Prop:=match xs with
 | [.dat _ (.int j)]=>-1000000<=j/\j<=1000000/\P .sh ((Cd j.toNat).map λi:Nat=>.int i) a
 | _=>False
def W3(xs:List DV)(a:DS)(P:Md->List Ae->DS->Prop):Prop:=match xs with
 | [.dat m (.list ds)]=>P (Ke m) (ds.zipIdx.map λp=>.tuple [.int p.2,p.1]) a
 | _=>False
def ID(xs:List DV)(a:DS)(P:Md->List Ae->DS->Prop):Prop:=match xs with
 | [.dat m (.tuple ds)]=>P (Ke m) (ds.zipIdx.map λp=>.tuple [.int p.2,p.1]) a
 | _=>False
def GO(f:DG)(e:DB)(D:DEnds)(m:Md)(ds:List Ae)(c:DS):Prop:=m=.sh/\∃I:Nat->DS->Prop,I 0 c /\
 (∀i d a,ds[i]? = some d->I i a->f (.dat .sh d) a λb=>e { D with nx:=I (i+1),ct:=I (i+1),bk:=D.nx } b)/\∀a,I ds.length a->D.nx a
def C4(g:List Nat)(dc:DT)(f:DE)(P:DV->DS->Prop)(m:Md)(ds:List Ae)(b:DS):Prop:=∃I:Nat->List Ae->Nat->Prop,I 0 [] b.n /\
 (∀i d a n,ds[i]? = some d->I i a n->Ph dc f ⟨.dat m d::frD b.sl g,n⟩ (λe c=>I (i+1) (a++[e]) c) (λc=>I (i+1) a c)) /\
 ∀a n,I ds.length a n->P (.dat .ow (.list a)) ⟨b.sl,n⟩
def p9(j:List Nat)(dc:DT)(h:DE)(P:DV->DS->Prop)(m:Md)(ds:List Ae)(b:DS):Prop:=∃I:Nat->List Ae->Nat->Prop,I 0 [] b.n /\
 (∀i d a n,ds[i]? = some d->I i a n->∃f g,d=.tuple [f,g]/\Ph dc h ⟨.dat m f::.dat m g::frD b.sl j,n⟩ (λe c=>I (i+1) (a++[e]) c) (λc=>I (i+1) a c)) /\
 ∀a n,I ds.length a n->P (.dat .ow (.list a)) ⟨b.sl,n⟩
def i5(js1:List Nat)(j0:Nat)(js2:List Nat)(dc:DT)(f:DE)(P:DV->DS->Prop)(m:Md)(ds:List Ae)(b:DS):Prop:=b.sl[j0]? = some .drw/\∃I:Nat->List Ae->Nat->Prop,I 0 [] b.n /\
 (∀i d a n,ds[i]? = some d->I i a n->Ra (js1.length+1) dc f ⟨.dat m d::(frD (b.sl.set j0 .un) js1++.drw::frD (b.sl.set j0 .un) js2),n⟩ (λe c=>I (i+1) (a++[e]) c) (λc=>I (i+1) a c)) /\
 ∀a n,I ds.length a n->P (.dat .ow (.list a)) ⟨b.sl,n⟩
def L7(a:Ae->Nat->Prop)(y:DV)(b:DS):Prop:=match y with
 | .dat _ e=>imm e=true/\a e b.n
 | _=>False
def o5(e:DE)(c:Ae->Nat->Prop)(f:Nat->Prop)(b:Bool)(d:DS):Prop:=match b with
 | true=>e d λy a=>L7 c y a
 | false=>f d.n
def zM(p:Nat)(a:Ae->Nat->Prop)(y:DV)(b:DS):Prop:=match y with
 | .dat _ e=>imm e=true/\b.sl[p]? = some .drw/\a e b.n
 | _=>False
def i4(p:Nat)(e:DE)(d:Ae->Nat->Prop)(f:Nat->Prop)(b:Bool)(a:DS):Prop:=match b with
 | true=>e a λy c=>zM p d y c
 | false=>a.sl[p]? = some .drw/\f a.n
def callB(a:PF)(xs:List DV)(b:DS)(P:DV->DS->Prop):Prop:=match datas xs with
 | some c=>a c λd=>P (.dat .ow d) b
 | none=>False
def callBW(i:Nat)(c:DF)(xs:List DV)(a:DS)(P:DV->DS->Prop):Prop:=match a.sl[i]? with
 | some .drw=>match datas xs with
  | some e=>c e a.n λd b=>P (.dat .ow d) ⟨a.sl,b⟩
  | none=>False
 | _=>False
def yQ(xs:List DV)(a:DS)(P:DV->DS->Prop):Prop:=match xs with
 | [.dat _ (.int _)]=>P .drw a
 | _=>False
def appB(i:Nat)(y:DV)(a:DS)(D:DEnds):Prop:=match a.sl[i]?,y with
 | some (.dat m (.list ds)),.dat _ e=>own1 m=true/\npk a.sl=true/\imm e=true/\ds.length<1000000/\D.nx ⟨a.sl.set i (.dat m (.list (ds++[e]))),a.n⟩
 | _,_=>False
def setB(i:Nat)(y z:DV)(a:DS)(D:DEnds):Prop:=match a.sl[i]?,y,z with
 | some (.dat m (.list ds)),.dat _ e,.dat _ (.int k)=>own1 m=true/\npk a.sl=true/\imm e=true/\Ed ds=true/\∃j,xO ds.length k=some j/\D.nx ⟨a.sl.set i (.dat m (.list (ds.set j e))),a.n⟩
 | _,_,_=>False
def callAB(a:PF)(xs:List DV)(b:DS)(P:DV->DS->Prop):Prop:=match datas xs with
 | some c=>a c λd=>P (.dat .sh d) b
 | none=>False
def GK(xs:List DV)(b:DS)(P:DV->DS->Prop):Prop:=match xs with
 | [.dat _ (.tuple ds)]=>∃a:List Int,ds=a.map Ax/\(∀x∈a,0<=x/\x<60)/\P (.dat .ow (.list ((Ol a).map Ax))) b
 | _=>False
def JT(x:DV)(b:DS)(P:Md->List Ae->DS->Prop):Prop:=match x with
 | .dat m (.dict X)=>∃a,X=Ou a/\a.length<=1000000/\P (Ke m) (a.map λp=>Br p.1) b
 | _=>False
def W1(xs:List DV)(b:DS)(P:Md->List Ae->DS->Prop):Prop:=match xs with
 | [.dat m (.dict X),.dat m' (.list es)]=>∃a,X=Ou a/\P (mdZip m m') ((a.zip es).map λp=>.tuple [Br p.1.1,p.2]) b
 | _=>False
def JN(f g:DE)(d:List Int->Ae->Nat->Prop)(h:Nat->Prop)(c:Bool)(e:DS):Prop:=match c with
 | true=>f e λy b=>g b λz a=>mJ d y z a
 | false=>h e.n
def sU(k:List Nat)(dc:DT)(h j:DE)(P:DV->DS->Prop)(m:Md)(ds:List Ae)(b:DS):Prop:=ds.length<=1000000/\∃I:Nat->List (List Int×Ae)->Nat->Prop,I 0 [] b.n /\
 (∀i d a n,ds[i]? = some d->I i a n->∃f g,d=.tuple [f,g]/\iZ dc h j ⟨.dat m f::.dat m g::frD b.sl k,n⟩ (λw e c=>I (i+1) (Rh a w e) c) (λc=>I (i+1) a c)) /\
 ∀a n,I ds.length a n->P (.dat .ow (.dict (Ou a))) ⟨b.sl,n⟩
theorem e_seq{t u:DB}{D:DEnds}{b:DS}:EK t u D b=(t { D with nx:=λa=>u D a } b):=rfl
theorem e_skip{D:DEnds}{a:DS}:V3 D a=(D.nx a):=rfl
theorem e_ret{b:DE}{D:DEnds}{a:DS}:GS b D a=(b a D.rt):=rfl
theorem e_if{dt:DT}{t u:DB}{D:DEnds}{a:DS}:JJ dt t u D a=(dt a (CU t u D)):=rfl
theorem e_asg{d:DE}{b:DG}{D:DEnds}{c:DS}:p8 d b D c=(d c λx a=>b x a D.nx):=rfl
theorem e_name{i:Nat}{m:Md}{d:Ae}{a:DS}{Q:DS->Prop}:Tw i (.dat .ow d) a Q=(Q ⟨a.sl.set i (.dat .sh d),a.n⟩):=rfl
theorem e_name2{i:Nat}{m:Md}{d:Ae}{a:DS}{Q:DS->Prop}:Tw i (.dat .sh d) a Q=(Q ⟨a.sl.set i (.dat .sh d),a.n⟩):=rfl
theorem e_name4{i:Nat}{a:DS}{Q:DS->Prop}:Tw i .drw a Q=(Q ⟨a.sl.set i .drw,a.n⟩):=rfl
theorem e_own{i:Nat}{d:Ae}{a:DS}{Q:DS->Prop}:fQ i (.dat .ow d) a Q=(Q ⟨a.sl.set i (.dat .ow d),a.n⟩):=rfl
theorem e_nT{i:Nat}{x:DV}{a:DS}{Q:DS->Prop}:HZ true i x a Q=(fQ i x a Q):=rfl
theorem e_gtup{n:Nat}{a:C9}{m:Md}{ds:List Ae}{b:DS}{Q:DS->Prop}:zS n a (.dat m (.tuple ds)) b Q=(ds.length=n/\a (ds.map λd=>.dat (Pw m) d) b Q):=rfl
theorem e_gsn{a:DS}{Q:DS->Prop}:yH [] a Q=(Q a):=rfl
theorem e_gsc{g:DG}{b:C9}{x:DV}{r:List DV}{c:DS}{Q:DS->Prop}:sE g b (x::r) c Q=(g x c λa=>b r a Q):=rfl
theorem e_op{rd:D2}{e c:DE}{d:DS}{P:DV->DS->Prop}:aI rd e c d P=(e d λx a=>c a λy b=>rd x y λz=>P z b):=rfl
theorem e_var{i:Nat}{a:DS}{P:DV->DS->Prop}:CM i a P=(match a.sl[i]? with | some (.dat m d)=>P (.dat (mN m) d) a | _=>False):=rfl
theorem e_c{d:Ae}{a:DS}{P:DV->DS->Prop}:dC d a P=(P (.dat .ow d) a):=rfl
theorem e_imm{c:DE}{b:DS}{P:DV->DS->Prop}:GU c b P=(c b λx a=>FM x a P):=rfl
theorem e_immB{m:Md}{d:Ae}{a:DS}{P:DV->DS->Prop}:FM (.dat m d) a P=(imm d=true/\P (.dat .ow d) a):=rfl
theorem e_take{i:Nat}{a:DS}{P:DV->DS->Prop}:i3 i a P=(match a.sl[i]? with | some (.dat m d)=>P (.dat m d) ⟨a.sl.set i .un,a.n⟩ | _=>False):=rfl
theorem e_I{C:Int->Int->Prop}{g:Int->Int->Ae}{i j:Int}{m a:Md}{P:DV->Prop}:CY C g (.dat m (.int i)) (.dat a (.int j)) P=(C i j/\P (.dat .ow (g i j))):=rfl
theorem e_I0{g:Int->Int->Ae}{i j:Int}{m a:Md}{P:DV->Prop}:qF g (.dat m (.int i)) (.dat a (.int j)) P=(P (.dat .ow (g i j))):=rfl
theorem e_eqF{d e:Ae}{m a:Md}{P:DV->Prop}:iO false (.dat m d) (.dat a e) P=(d.depth<=60/\e.depth<=60/\P (.dat .ow (.bool (Ef d e)))):=rfl
theorem e_eqT{d e:Ae}{m a:Md}{P:DV->Prop}:iO true (.dat m d) (.dat a e) P=(d.depth<=60/\e.depth<=60/\P (.dat .ow (.bool (!Ef d e)))):=rfl
theorem e_inFt_w1{a:List Int}{d:Ae}{es:List Ae}{m b:Md}{P:DV->Prop}:uJ false (.dat m d) (.dat b (Br a)) P=(Bs (a.map Ax)<=60/\d.depth<=60/\P (.dat .ow (.bool ((a.map Ax).any λe=>Ef e d)))):=rfl
theorem e_inTt_w1{a:List Int}{d:Ae}{es:List Ae}{m b:Md}{P:DV->Prop}:uJ true (.dat m d) (.dat b (Br a)) P=(Bs (a.map Ax)<=60/\d.depth<=60/\P (.dat .ow (.bool (!((a.map Ax).any λe=>Ef e d))))):=rfl
theorem e_ixl{ds:List Ae}{i:Int}{m a:Md}{P:DV->Prop}:B8 (.dat m (.list ds)) (.dat a (.int i)) P=(∃d,Vp ds i=some d/\P (.dat (Pw m) d)):=rfl
theorem e_ixt{ds:List Ae}{i:Int}{m a:Md}{P:DV->Prop}:B8 (.dat m (.tuple ds)) (.dat a (.int i)) P=(∃d,Vp ds i=some d/\P (.dat (Pw m) d)):=rfl
theorem e_cat{ds es:List Ae}{m a:Md}{P:DV->Prop}:sY (.dat m (.list ds)) (.dat a (.list es)) P=(Ed ds=true/\Ed es=true/\ds.length+es.length<=1000000/\P (.dat .ow (.list (ds++es)))):=rfl
theorem e_catT_w1{a:List Int}{ds es:List Ae}{m b:Md}{P:DV->Prop}:jL (.dat m (Br a)) (.dat b (.tuple es)) P=(Ed (a.map Ax)=true/\Ed es=true/\(a.map Ax).length+es.length<=1000000/\P (.dat .ow (.tuple ((a.map Ax)++es)))):=rfl
theorem e_rep{ds:List Ae}{k:Int}{m a:Md}{P:DV->Prop}:tL (.dat m (.list ds)) (.dat a (.int k)) P=(Ed ds=true /\ -1000000<=k/\k<=1000000/\ds.length * k.toNat<=1000000/\P (.dat .ow (.list (Bz k.toNat ds).flatten))):=rfl
theorem e_nlT{m:Md}{ds:List Ae}{P:DV->Prop}:Zm true m ds P=(Ed ds=true/\P (.dat .ow (.list ds))):=rfl
theorem e_ntT{m:Md}{ds:List Ae}{P:DV->Prop}:jS true m ds P=(Ed ds=true/\P (.dat .ow (.tuple ds))):=rfl
theorem e_pkOfsh  : mN .sh=(Md.sh):=rfl
theorem e_pkOfow  : mN .ow=(Md.pk):=rfl
theorem e_mdInpk  : Pw .pk=(Md.pk):=rfl
theorem e_mdInsh  : Pw .sh=(Md.sh):=rfl
theorem e_mdInow  : Pw .ow=(Md.ow):=rfl
theorem e_mdItsh  : Ke .sh=(Md.sh):=rfl
theorem e_mdItow  : Ke .ow=(Md.sh):=rfl
theorem e_nil{a:DS}{P:List DV->DS->Prop}:W8 a P=(P [] a):=rfl
theorem e_cons{c:DE}{e:DA}{d:DS}{P:List DV->DS->Prop}:T4 c e d P=(c d λx b=>e b λxs a=>P (x::xs) a):=rfl
theorem e_tup{b:DA}{c:DS}{P:DV->DS->Prop}:EM b c P=(b c λxs a=>tupB xs a P):=rfl
theorem e_lst{b:DA}{c:DS}{P:DV->DS->Prop}:GC b c P=(b c λxs a=>lstB xs a P):=rfl
theorem e_noPart{a:DS}{P:Option Int->DS->Prop}:rQ a P=(P none a):=rfl
theorem e_part{c:DE}{b:DS}{P:Option Int->DS->Prop}:S6 c b P=(c b λx a=>V0 x a P):=rfl
theorem e_partB{m:Md}{i:Int}{a:DS}{P:Option Int->DS->Prop}:V0 (.dat m (.int i)) a P=(P (some i) a):=rfl
theorem e_sl{i:Bool}{d:DE}{dl e:DO}{f:DS}{P:DV->DS->Prop}:IZ i d dl e f P=(d f λx c=>dl c λl a=>e a λh b=>JP i x l h b P):=rfl
theorem e_slBl{i:Bool}{m:Md}{ds:List Ae}{l h:Option Int}{a:DS}{P:DV->DS->Prop}:JP i (.dat m (.list ds)) l h a P=(Zm i m (Pt ds l h) λz=>P z a):=rfl
theorem e_cb{rd:DC}{c:DA}{b:DS}{P:DV->DS->Prop}:GZ rd c b P=(c b λxs a=>rd xs λz=>P z a):=rfl
theorem e_lenl{ds:List Ae}{m a:Md}{P:DV->Prop}:rR [.dat m (.list ds)] P=(P (.dat .ow (.int ds.length))):=rfl
theorem e_lent{ds:List Ae}{m a:Md}{P:DV->Prop}:rR [.dat m (.tuple ds)] P=(P (.dat .ow (.int ds.length))):=rfl
theorem e_listl{i:Bool}{ds:List Ae}{m a:Md}{P:DV->Prop}:pG i [.dat m (.list ds)] P=(Zm i m ds P):=rfl
theorem e_tuplel{i:Bool}{ds:List Ae}{m a:Md}{P:DV->Prop}:jJ i [.dat m (.list ds)] P=(jS i m ds P):=rfl
theorem e_intb{i:Bool}{m a:Md}{P:DV->Prop}:yK [.dat m (.bool i)] P=(P (.dat .ow (.int (if i=true then 1 else 0)))):=rfl
theorem e_max2{i j:Int}{m a:Md}{P:DV->Prop}:qH [.dat m (.int i),.dat a (.int j)] P=(P (.dat .ow (.int (if j > i then j else i)))):=rfl
theorem e_sortT{ds:List Ae}{m a:Md}{P:DV->Prop}:iM [.dat m (.tuple ds)] P=(∃ns:List Int,ds=ns.map Ax/\ns.length<64/\P (.dat .ow (.list ((cJ ns).map Ax)))):=rfl
theorem e_isi{d:Ae}{n:String}{m a:Md}{P:DV->Prop}:xV [.dat m d,.val (.ty n)] P=((n = "int" \/ n = "bool" \/ n = "str" \/ n = "list" \/ n = "tuple")/\P (.dat .ow (.bool (jF d n)))):=rfl
theorem e_v{v:V}{a:DS}{P:DV->DS->Prop}:dV v a P=(P (.val v) a):=rfl
theorem e_b{c:DE}{b:DS}{P:Bool->DS->Prop}:dB c b P=(c b λx a=>bB x a P):=rfl
theorem e_bB{m:Md}{b:Bool}{a:DS}{P:Bool->DS->Prop}:bB (.dat m (.bool b)) a P=(P b a):=rfl
theorem e_notT{dt:DT}{c:DS}{P:Bool->DS->Prop}:V5 dt c P=(dt c λb a=>P (!b) a):=rfl
theorem e_andT{dt c:DT}{d:DS}{P:Bool->DS->Prop}:W4 dt c d P=(dt d λb a=>P0 c b a P):=rfl
theorem e_orT{dt c:DT}{d:DS}{P:Bool->DS->Prop}:GE dt c d P=(dt d λb a=>JE c b a P):=rfl
theorem e_orTf{a:DT}{b:DS}{P:Bool->DS->Prop}:JE a false b P=(a b P):=rfl
theorem e_and{c b:DE}{d:DS}{P:DV->DS->Prop}:GA c b d P=(c d λx a=>FK b x a P):=rfl
theorem e_andt{a:DE}{m:Md}{b:DS}{P:DV->DS->Prop}:FK a (.dat m (.bool true)) b P=(a b P):=rfl
theorem e_ifE{dt:DT}{d c:DE}{e:DS}{P:DV->DS->Prop}:DX dt d c e P=(dt e λb a=>JS d c b a P):=rfl
theorem e_neg{c:DE}{b:DS}{P:DV->DS->Prop}:DQ c b P=(c b λx a=>FA x a P):=rfl
theorem e_negB{m:Md}{i:Int}{a:DS}{P:DV->DS->Prop}:FA (.dat m (.int i)) a P=(P (.dat .ow (.int (-i))) a):=rfl
theorem e_dL{c:DE}{b:DS}{P:Md->List Ae->DS->Prop}:dL c b P=(c b λx a=>lB x a P):=rfl
theorem e_dTp{c:DE}{b:DS}{P:Md->List Ae->DS->Prop}:JA c b P=(c b λx a=>JG x a P):=rfl
theorem e_lB{m:Md}{ds:List Ae}{a:DS}{P:Md->List Ae->DS->Prop}:lB (.dat m (.list ds)) a P=(P (Ke m) ds a):=rfl
theorem e_tpB_w1{a:List Int}{m:Md}{ds:List Ae}{b:DS}{P:Md->List Ae->DS->Prop}:JG (.dat m (Br a)) b P=(P (Ke m) (a.map Ax) b):=rfl
theorem e_range1{b:DA}{c:DS}{P:Md->List Ae->DS->Prop}:nP b c P=(b c λxs a=>W0 xs a P):=rfl
theorem e_rng1B{m:Md}{j:Int}{a:DS}{P:Md->List Ae->DS->Prop}:W0 [.dat m (.int j)] a P=(-1000000<=j/\j<=1000000/\P .sh ((Cd j.toNat).map λi:Nat=>.int i) a):=rfl
theorem e_enum{b:DA}{c:DS}{P:Md->List Ae->DS->Prop}:w4 b c P=(b c λxs a=>W3 xs a P):=rfl
theorem e_enumB{m:Md}{ds:List Ae}{a:DS}{P:Md->List Ae->DS->Prop}:W3 [.dat m (.list ds)] a P=(P (Ke m) (ds.zipIdx.map λp=>.tuple [.int p.2,p.1]) a):=rfl
theorem e_for{c:DI}{d:DG}{b:DB}{D:DEnds}{a:DS}:FG c d b D a=(c a (GO d b D)):=rfl
theorem e_comp{d:DI}{a:List Nat}{dc:DT}{b:DE}{c:DS}{P:DV->DS->Prop}:u5 d a dc b c P=(d c (C4 a dc b P)):=rfl
theorem e_comp2{d:DI}{a:List Nat}{dc:DT}{b:DE}{c:DS}{P:DV->DS->Prop}:xR d a dc b c P=(d c (p9 a dc b P)):=rfl
theorem e_compD{c:DI}{js1 js2:List Nat}{j0:Nat}{dc:DT}{a:DE}{b:DS}{P:DV->DS->Prop}:pH c js1 j0 js2 dc a b P=(c b (i5 js1 j0 js2 dc a P)):=rfl
theorem e_noTest{a:DS}{P:Bool->DS->Prop}:My a P=(P true a):=rfl
theorem e_step{dc:DT}{d:DE}{e:DS}{a:Ae->Nat->Prop}{f:Nat->Prop}:Ph dc d e a f=(dc e λb c=>o5 d a f b c):=rfl
theorem e_stepT{c:DE}{d:DS}{a:Ae->Nat->Prop}{e:Nat->Prop}:o5 c a e true d=(c d λy b=>L7 a y b):=rfl
theorem e_yesB{m:Md}{e:Ae}{b:DS}{a:Ae->Nat->Prop}:L7 a (.dat m e) b=(imm e=true/\a e b.n):=rfl
theorem e_stepD{p:Nat}{dc:DT}{d:DE}{e:DS}{a:Ae->Nat->Prop}{f:Nat->Prop}:Ra p dc d e a f=(dc e λb c=>i4 p d a f b c):=rfl
theorem e_stepDT{p:Nat}{c:DE}{d:DS}{a:Ae->Nat->Prop}{e:Nat->Prop}:i4 p c a e true d=(c d λy b=>zM p a y b):=rfl
theorem e_yesBD{p:Nat}{m:Md}{e:Ae}{b:DS}{a:Ae->Nat->Prop}:zM p a (.dat m e) b=(imm e=true/\b.sl[p]? = some .drw/\a e b.n):=rfl
theorem e_call{c:PF}{d:DA}{b:DS}{P:DV->DS->Prop}:B3 c d b P=(d b λxs a=>callB c xs a P):=rfl
theorem e_callW{i:Nat}{d:DF}{c:DA}{a:DS}{P:DV->DS->Prop}:pV i d c a P=(match a.sl[i]? with | some .drw=>c a λxs b=>callBW i d xs b P | _=>False):=rfl
theorem e_draws{c:DA}{b:DS}{P:DV->DS->Prop}:yX c b P=(c b λxs a=>yQ xs a P):=rfl
theorem e_drawsB{m:Md}{i:Int}{a:DS}{P:DV->DS->Prop}:yQ [.dat m (.int i)] a P=(P .drw a):=rfl
theorem e_append{i:Nat}{c:DE}{D:DEnds}{b:DS}:jU i c D b=(match b.sl[i]? with | some (.dat _ (.list _))=>c b λy a=>appB i y a D | _=>False):=rfl
theorem e_setI{i:Nat}{c d:DE}{D:DEnds}{e:DS}:U3 i c d D e=(d e λy a=>match a.sl[i]? with | some (.dat _ (.list _))=>c a λz b=>setB i y z b D | _=>False):=rfl
theorem e_scrSl{i:Nat}{dl d:DO}{b:DS}{P:DV->DS->Prop}:rG i dl d b P=(match b.sl[i]? with | some (.scr ns)=>dl b λl a=>d a λh c=>P (.dat .ow (.list ((Pt ns l h).map Ax))) c | _=>False):=rfl
theorem e_sortW{m:Md}{ds:List Ae}{P:DV->Prop}:iT [.dat m (.list ds)] P=(∃a:List (List Int),ds=a.map Br/\∀L:List (List Int),L.Perm a->L.Pairwise (λx y=>HT.lexLt y x=false)->P (.dat .ow (.list (L.map Br)))):=rfl
theorem e_dput{i:Nat}{c d:DE}{D:DEnds}{e:DS}:T7 i c d D e=(d e λy a=>isDct a.sl[i]? = true/\c a λz b=>dputB i y z b D):=rfl
theorem e_zipD{b:DA}{c:DS}{P:Md->List Ae->DS->Prop}:zV b c P=(b c λxs a=>W1 xs a P):=rfl
theorem e_zipDB{m a:Md}{X:List (Ae×Ae)}{es:List Ae}{b:DS}{P:Md->List Ae->DS->Prop}:W1 [.dat m (.dict X),.dat a (.list es)] b P=(∃ks,X=Ou ks/\P (mdZip m a) ((ks.zip es).map λp=>.tuple [Br p.1.1,p.2]) b):=rfl
theorem e_dcomp2{e:DI}{d:List Nat}{dc:DT}{a c:DE}{b:DS}{P:DV->DS->Prop}:iS e d dc a c b P=(e b (sU d dc a c P)):=rfl
theorem e_dcStep{dc:DT}{d f:DE}{e:DS}{a:List Int->Ae->Nat->Prop}{g:Nat->Prop}:iZ dc d f e a g=(dc e λc b=>JN d f a g c b):=rfl
theorem e_dcBT{d f:DE}{e:DS}{a:List Int->Ae->Nat->Prop}{g:Nat->Prop}:JN d f a g true e=(d e λy c=>f c λz b=>mJ a y z b):=rfl
theorem e_dcYes{m c:Md}{k e:Ae}{b:DS}{a:List Int->Ae->Nat->Prop}:mJ a (.dat m k) (.dat c e) b=(∃w,k=Br w/\imm e=true/\a w e b.n):=rfl
theorem e_appI{i k:Nat}{c:Ae}{D:DEnds}{a:DS}:x8 i k c D a=(match a.sl[i]? with | some (.dat .ow (.tuple ds))=>∃y,ds[k]? = some y/\tV i ds k c y a D | _=>False):=rfl
theorem e_appIB{i k:Nat}{ds es:List Ae}{c:Ae}{D:DEnds}{a:DS}:tV i ds k c (.list es) a D=(npk (a.sl.set i .un)=true/\imm c=true/\es.length<1000000/\D.nx ⟨a.sl.set i (.dat .ow (.tuple (ds.set k (.list (es++[c]))))),a.n⟩):=rfl
theorem e_dictZ{b:DA}{c:DS}{P:DV->DS->Prop}:qQ b c P=(b c λxs a=>jH xs a P):=rfl
theorem e_dictZB{m c:Md}{ds es:List Ae}{b:DS}{P:DV->DS->Prop}:jH [.dat m (.list ds),.dat c (.list es)] b P=(ds.length<=1000000/\Ed es=true/\∃a:List (List Int),ds=a.map Br/\P (.dat .ow (.dict (Ou (Sr [] (a.zip es))))) b):=rfl
theorem e_minV{c:DE}{b:DS}{P:DV->DS->Prop}:w8 c b P=(c b λx a=>sN x a P):=rfl
theorem e_getD{g d f:DE}{e:DS}{P:DV->DS->Prop}:B2 g d f e P=(g e λx c=>r0 x=true/\d c λy a=>f a λz b=>tK x y z b P):=rfl
theorem e_isDc2{m:Md}{X:List (Ae×Ae)}:r0 (.dat m (.dict X))=(true):=rfl
theorem e_compP{b:Bool}{g a:DI}{f:List Nat}{d:DE}{e:DS}{P:DV->DS->Prop}:pN b g f a d e P=(g e λm ds c=>EY b f a d P m ds c):=rfl
theorem e_callA{c:PF}{d:DA}{b:DS}{P:DV->DS->Prop}:j5 c d b P=(d b λxs a=>noPk xs=true/\callAB c xs a P):=rfl
theorem e_ssT{c:DA}{b:DS}{P:DV->DS->Prop}:ET c b P=(c b λxs a=>GK xs a P):=rfl
theorem e_ssTt{m:Md}{ds:List Ae}{a:DS}{P:DV->DS->Prop}:GK [.dat m (.tuple ds)] a P=(∃ns:List Int,ds=ns.map Ax/\(∀x∈ns,0<=x/\x<60)/\P (.dat .ow (.list ((Ol ns).map Ax))) a):=rfl
theorem e_tr{c:DE}{b:DS}{P:DV->DS->Prop}:JQ c b P=(c b λx a=>HD x a P):=rfl
theorem e_trB{m:Md}{j:Int}{a:DS}{P:DV->DS->Prop}:HD (.dat m (.int j)) a P=(0<=j/\j<=1000/\P (.dat .ow (Br (Pe j.toNat))) a):=rfl
section
variable{t u:DB}{D:DEnds}{c b:DS}
theorem Zu{m:Type}{n:DG}{k:DB}{ds:List Ae}{l:List m}{g:m->Ae}(e:ds=l.map g)(I:Nat->DS->Prop)(o:I 0 b)(s:∀i a c,l[i]? = some a->I i c->n (.dat .sh (g a)) c λj=>k { D with nx:=I (i+1),ct:=I (i+1),bk:=D.nx } j)(r:∀c,I l.length c->D.nx c):GO n k D .sh ds b:=by
 subst e
 refine ⟨rfl,I,o,λi d c f p=>?_,λc h=>r c (by rw[Af] at h; exact h)⟩
 rw[Bj] at f
 cases q:l[i]? with
 | none=>rw[q] at f; cases f
 | some a=>rw[q] at f; cases f; exact s i a c q p
end
section
variable{k:List Nat}{dc:DT}{j:DE}{P:DV->DS->Prop}{m:Md}{ds:List Ae}{b:DS}{c:Type}
theorem xX{l:List c}{g:c->Ae}(e:ds=l.map g)(p:c->Bool)(f:c->Ae)(h:∀a∈l,∀(r:Ae->Nat->Prop) (w:Nat->Prop),(p a=true->r (f a) b.n)->(p a=false->w b.n)->Ph dc j ⟨.dat m (g a)::frD b.sl k,b.n⟩ r w)(q:P (.dat .ow (.list ((l.filter p).map f))) b):C4 k dc j P m ds b:=by
 subst e
 refine ⟨λi o n=>n=b.n/\o=((l.take i).filter p).map f,⟨rfl,by simp⟩,λi d o n s ⟨u,v⟩=>?_,λo n ⟨u,v⟩=>?_⟩
 ·subst u v
  rw[Bj] at s
  cases q:l[i]? with
  | none=>rw[q] at s; cases s
  | some a =>
   rw[q] at s
   cases s
   refine h a (Be q) _ _ (λt=>⟨rfl,?_⟩) (λt=>⟨rfl,?_⟩)
   ·rw[Gs q,Qr,Bh]; simp [t]
   ·rw[Gs q,Qr,Bh]; simp [t]
 ·subst u v
  rw[Af,Ff]
  exact q
theorem sI{l:List c}{g:c->Ae}(e:ds=l.map g)(f:c->Ae)(h:∀a∈l,∀(d:Ae->Nat->Prop) (i:Nat->Prop),d (f a) b.n->Ph dc j ⟨.dat m (g a)::frD b.sl k,b.n⟩ d i)(q:P (.dat .ow (.list (l.map f))) b):C4 k dc j P m ds b:=by
 refine xX e (λ_=>true) f (λa p d i o _=>h a p d i (o rfl)) ?_
 rw[xQ.mpr λ_ _=>rfl]
 exact q
theorem X4{l:List c}{g1 g2:c->Ae}(e:ds=l.map λa=>.tuple [g1 a,g2 a])(p:c->Bool)(f:c->Ae)(h:∀a∈l,∀(o:Ae->Nat->Prop) (v:Nat->Prop),(p a=true->o (f a) b.n)->(p a=false->v b.n)->Ph dc j ⟨.dat m (g1 a)::.dat m (g2 a)::frD b.sl k,b.n⟩ o v)(q:P (.dat .ow (.list ((l.filter p).map f))) b):p9 k dc j P m ds b:=by
 subst e
 refine ⟨λi g n=>n=b.n/\g=((l.take i).filter p).map f,⟨rfl,by simp⟩,λi d g n r ⟨t,u⟩=>?_,λg n ⟨t,u⟩=>?_⟩
 ·subst t u
  rw[Bj] at r
  cases q:l[i]? with
  | none=>rw[q] at r; cases r
  | some a =>
   rw[q] at r
   cases r
   refine ⟨_,_,rfl,h a (Be q) _ _ (λs=>⟨rfl,?_⟩) (λs=>⟨rfl,?_⟩)⟩
   ·rw[Gs q,Qr,Bh]; simp [s]
   ·rw[Gs q,Qr,Bh]; simp [s]
 ·subst t u
  rw[Af,Ff]
  exact q
theorem uD{js1 js2:List Nat}{j0:Nat}{l:List c}{g:c->Ae}(e:ds=l.map g)(r:b.sl[j0]? = some .drw)(I:Nat->List Ae->Nat->Prop)(p:I 0 [] b.n)(h:∀i a f n,l[i]? = some a->I i f n->Ra (js1.length+1) dc j ⟨.dat m (g a)::(frD (b.sl.set j0 .un) js1++.drw::frD (b.sl.set j0 .un) js2),n⟩ (λe n'=>I (i+1) (f++[e]) n') (λn'=>I (i+1) f n'))(q:∀f n,I l.length f n->P (.dat .ow (.list f)) ⟨b.sl,n⟩):i5 js1 j0 js2 dc j P m ds b:=by
 subst e
 refine ⟨r,I,p,λi d f n k o=>?_,λf n o=>q f n (by rw[Af] at o; exact o)⟩
 rw[Bj] at k
 cases q:l[i]? with
 | none=>rw[q] at k; cases k
 | some a=>rw[q] at k; cases k; exact h i a f n q o
end
theorem Zk{t u:DB}{D:DEnds}{b:Bool}{a:DS}(c:b=true->t D a)(d:b=false->u D a):CU t u D b a:=by
 cases b with
 | true=>exact c rfl
 | false=>exact d rfl
theorem DK{d c:DE}{b:Bool}{a:DS}{P:DV->DS->Prop}(f:b=true->d a P)(e:b=false->c a P):JS d c b a P:=by
 cases b with
 | true=>exact f rfl
 | false=>exact e rfl
theorem zJ{c:DT}{b:Bool}{a:DS}{P:Bool->DS->Prop}(d:b=true->c a P)(e:b=false->P false a):P0 c b a P:=by
 cases b with
 | true=>exact d rfl
 | false=>exact e rfl
theorem sR{e:DE}{a:Ae->Nat->Prop}{f:Nat->Prop}{b:Bool}{c:DS}(h:b=true->e c λy d=>L7 a y d)(g:b=false->f c.n):o5 e a f b c:=by
 cases b with
 | true=>exact h rfl
 | false=>exact g rfl
class Im (d:Ae):Prop where
 h:imm d=true
class ImA (ds:List Ae):Prop where
 h:Ed ds=true
theorem im{d:Ae}[h:Im d]:imm d=true:=h.h
instance {i:Int}:Im (.int i):=⟨by simp [imm]⟩
instance {i:Bool}:Im (.bool i):=⟨by simp [imm]⟩
instance {i:Str}:Im (.str i):=⟨by simp [imm]⟩
instance:Im .none:=⟨by simp [imm]⟩
instance {ds:List Ae} [h:ImA ds]:Im (.tuple ds):=⟨by rw[imm]; exact h.h⟩
instance {ns:List Int}:Im (Br ns):=⟨yG ns⟩
instance:ImA []:=⟨by simp [Ed]⟩
instance {d:Ae} {ds:List Ae} [h:Im d] [t:ImA ds]:ImA (d::ds):=⟨by rw[Ed,h.h,t.h]; rfl⟩
instance {α:Type} {f:α->Ae} {l:List α} [h:∀a,Im (f a)]:ImA (l.map f):=⟨Vu (λa=>(h a).h) l⟩
instance {a b:List Ae} [h:ImA a] [k:ImA b]:ImA (a++b):=⟨by rw[cC,h.h,k.h]; rfl⟩
class Dp (d:Ae) (k:outParam Nat):Prop where
 h:d.depth<=k
class DpA (ds:List Ae) (k:outParam Nat):Prop where
 h:Bs ds<=k
theorem dp{d:Ae}{k:Nat}[h:Dp d k](a:k<=60:=by decide):d.depth<=60:=Cg h.h a
instance {i:Int}:Dp (.int i) 0:=⟨by simp [Dy]⟩
instance {i:Bool}:Dp (.bool i) 0:=⟨by simp [Dy]⟩
instance {i:Str}:Dp (.str i) 0:=⟨by simp [Dy]⟩
instance:Dp .none 0:=⟨by simp [Dy]⟩
instance {ds:List Ae} {k:Nat} [h:DpA ds k]:Dp (.tuple ds) (k+1):=⟨by have:=h.h; simp only[Dy]; omega⟩
instance {ds:List Ae} {k:Nat} [h:DpA ds k]:Dp (.list ds) (k+1):=⟨by have:=h.h; simp only[Dy]; omega⟩
instance {ns:List Int}:Dp (Br ns) 1:=⟨qC ns⟩
instance:DpA [] 0:=⟨by simp [Bs]⟩
instance {d:Ae} {ds:List Ae} {k j:Nat} [h:Dp d k] [t:DpA ds j]:DpA (d::ds) (k+j):=⟨by have:=h.h; have:=t.h; simp only[Bs]; omega⟩
instance {α:Type} {f:α->Ae} {l:List α} {k:Nat} [h:∀a,Dp (f a) k]:DpA (l.map f) k:=⟨Zl λx hx=>by
 obtain ⟨a,_,rfl⟩:=Df.mp hx
 exact (h a).h⟩
theorem iW{a b:List Ae}:Bs (a++b)<=Bs a+Bs b:=by
 induction a with
 | nil=>simp [Bs]
 | cons x a c=>simp only[Do,Bs]; omega
instance {a b:List Ae} {k j:Nat} [h:DpA a k] [t:DpA b j]:DpA (a++b) (k+j):=⟨by have:=h.h; have:=t.h; have:=iW (a:=a) (b:=b); omega⟩
theorem eqD_str(i j:Str):Ef (.str i) (.str j)=(i == j):=by simp [Ef]
theorem lV(a b:List Ae):Ef (.list a) (.list b)=Pd a b:=by simp [Ef]
theorem N5(a b:List Ae):Ef (.tuple a) (.tuple b)=Pd a b:=by simp [Ef]
theorem Xa{c:Type}[DecidableEq c]{f:c->Ae}(h:∀a b,Ef (f a) (f b)=decide (a=b)):∀l m:List c,Pd (l.map f) (m.map f)=decide (l=m)
 | [],[]=>by simp [Pd]
 | [],_::_=>by simp [Pd]
 | _::_,[]=>by simp [Pd]
 | a::l,b::m=>by simp [Pd,h,Xa h l m]
theorem eqD_intd(i j:Int):Ef (.int i) (.int j)=decide (i=j):=by simp [Ef]; rfl
theorem yS(a b:List Int):Ef (Br a) (Br b)=decide (a=b):=by
 unfold Br
 rw[N5,Xa eqD_intd]
def wordsD(a:List (List Int)):Ae:=.list (a.map Br)
instance {ws:List (List Int)}:Dp (wordsD ws) 2:=⟨(inferInstance:Dp (.list (ws.map Br)) 2).h⟩
theorem vI(a b:List (List Int)):Ef (wordsD a) (wordsD b)=decide (a=b):=by
 unfold wordsD
 rw[lV,Xa yS]
def sJ(ns:List Int):Ae:=.list (ns.map Ax)
instance {ns:List Int}:Dp (sJ ns) 1:=⟨(inferInstance:Dp (.list (ns.map Ax)) 1).h⟩
theorem j6(a b:List Int):Ef (sJ a) (sJ b)=decide (a=b):=by
 unfold sJ
 rw[lV,Xa eqD_intd]
theorem any_int(ns:List Int)(i:Int):((ns.map Ax).any λe=>Ef e (.int i))=decide (i∈ns):=by
 rw[aF]
 induction ns with
 | nil=>rfl
 | cons n ns a =>
  rw[Of,a]
  simp only[Function.comp,eqD_intd,An]
  by_cases h:n=i
  ·subst h; simp
  ·have : ¬ i=n:=λz=>h z.symm
   simp [h,this]
theorem P6{a b:Type}(f:a->b)(l:List a):(l.map f).zipIdx=l.zipIdx.map λp=>(f p.1,p.2):=by
 rw[List.zipIdx_map]
 rfl
theorem tN{a b:Type}(f:a->b)(l:List a)(i:Int):Vp (l.map f) i=(Vp l i).map f:=by
 unfold Vp
 rw[Af]
 cases xO l.length i with
 | none=>rfl
 | some j=>simp
theorem bU{c:Type}{l:List c}{i:Int}(e:0<=i)(d:i<l.length):∃a,l[i.toNat]? = some a/\Vp l i=some a/\a∈l:=by
 have b:i.toNat<l.length:=by omega
 refine ⟨l[i.toNat],by simp [b],?_,List.getElem_mem b⟩
 have q:Vp l ((i.toNat:Nat):Int)=some l[i.toNat]:=iD (by simp [b])
 rwa [show ((i.toNat:Nat):Int)=i by omega] at q
theorem im_e{d:Ae}[h:Im d]:(imm d=true)=True:=eq_true h.h
theorem ima_e{ds:List Ae}[h:ImA ds]:(Ed ds=true)=True:=eq_true h.h
theorem dp_e{d:Ae}{k:Nat}[h:Dp d k](a:k<=60):(d.depth<=60)=True:=eq_true (Cg h.h a)
theorem dpa_e{ds:List Ae}{k:Nat}[h:DpA ds k](a:k<=60):(Bs ds<=60)=True:=eq_true (Cg h.h a)
theorem BO(a b:List (List Int)):Ef (.list (a.map Br)) (.list (b.map Br))=decide (a=b):=vI a b
theorem eqD_li(a b:List Int):Ef (.list (a.map Ax)) (.list (b.map Ax))=decide (a=b):=j6 a b
theorem eqD_l0(a:List Ae):Ef (.list a) (.list [])=a.isEmpty:=M9 a
theorem ow_e{d:Ae}{R:Ae->Prop}:(∃e,DV.dat .ow d=.dat .ow e/\R e)=R d:=by
 apply propext
 constructor
 ·(intro a; obtain ⟨e,h,r⟩ := a); cases h; exact r
 ·intro r; exact ⟨d,rfl,r⟩
theorem tt_e{m:Md}{b:Bool}:(∃a,DV.dat m (.bool b)=.dat a (.bool true))=(b=true):=by
 apply propext
 constructor
 ·rintro ⟨e,h⟩; cases h; rfl
 ·intro r; subst r; exact ⟨m,rfl⟩
theorem cdiv_e{i j:Int}:AZ i j=(0<j/\j<1073741824):=rfl
theorem Tu{sl a:List DV}{n n':Nat}(h:sl=a)(h':n=n'):(⟨sl,n⟩ : DS)=⟨a,n'⟩:=by subst h h'; rfl
theorem Rg{j i a:Nat}(h:(Cd j)[i]? = some a):a=i/\i<j:=by
 obtain ⟨b,c⟩:=Av.mp h
 rw[Dh] at b
 rw[List.getElem_range] at c
 exact ⟨c.symm,b⟩
def NP(v:DV):Prop:=∀l,npk (v::l)=npk l
theorem Qg:NP .un:=λ_=>rfl
theorem Jj{d:Ae}:NP (.dat .sh d):=λ_=>rfl
theorem U4{d:Ae}:NP (.dat .ow d):=λ_=>rfl
theorem AJ:NP .drw:=λ_=>rfl
theorem U0{t u:DB}{D:DEnds}(X:(Bool->DS->Prop)->Prop)(J:DS->Prop)(h:∀N:DS->Prop,(∀a,J a->N a)->X (CU t u { D with nx:=N }))(k:∀a,J a->D.nx a):X (CU t u D):=h D.nx k
theorem EO{a:Type}(x y:a)(b:Bool):Vp [x,y] (if b=true then 1 else 0)=some (if b=true then y else x):=by cases b <;> rfl
theorem fold_w(w:List Int):Yz (List.map Ax w)=Br w:=rfl
theorem Z7:∀x∈([]:List DV),NP x:=λ_ z=>nomatch z
theorem isi_li(ds:List Ae):jF (.list ds) "list" = true:=by simp [jF,D0]
theorem isi_tt(ds:List Ae):jF (.tuple ds) "tuple" = true:=by simp [jF,D0]
theorem isi_wt(w:List Int):jF (Br w) "tuple" = true:=isi_tt _
theorem vX{a:List (List Int)}{i:Int}(d:0<=i)(c:i<a.length):∃w∈a,Vp (a.map Br) i=some (Br w):=by
 obtain ⟨w,_,b,e⟩:=bU (l:=a) d c
 exact ⟨w,e,by rw[tN,b]; rfl⟩
theorem FU{ns:List Int}(k:Nat):(Pt ns none (some (k:Int))).length<=k:=by
 rw[vN,Du]
 exact Nat.min_le_left _ _
theorem ifB_lt{t u:DB}{D:DEnds}{a:DS}:CU t u D true a=t D a:=rfl
theorem ifB_lf{t u:DB}{D:DEnds}{a:DS}:CU t u D false a=u D a:=rfl
theorem str_self(s:Str):(s == s)=true:=by simp
theorem V1{c:Type}{l:List c}{i:Nat}{a:c}(h:l[i]? = some a):Vp l (i:Int)=some a:=by
 obtain ⟨b,e,d,_⟩:=bU (l:=l) (i:=(i:Int)) (by omega) (by have:=(Av.mp h).1; omega)
 rw[d,<- e,<- h]; rfl
theorem atI_0{a:Type}(x:a)(l:List a):Vp (x::l) 0=some x:=V1 (i:=0) rfl
theorem atI_1{a:Type}(x y:a)(l:List a):Vp (x::y::l) 1=some y:=V1 (i:=1) rfl
theorem some_e{b:Type}{a:b}{R:b->Prop}:(∃d,some a=some d/\R d)=R a:=propext ⟨λ⟨_,e,h⟩=>by cases e; exact h,λh=>⟨a,rfl,h⟩⟩
theorem st_never_deck:(Dq "never" == Dq "deck")=false:=by decide +kernel
theorem dk_e{ks:List (List Int×Ae)}{w:List Int}{Q:List (List Int×Ae)->List Int->Prop}:(∃ks' a,Ou ks=Ou ks'/\Br w=Br a/\Q ks' a)=Q ks w:=propext ⟨λ⟨ks',a,c,b,h⟩=>by cases Ju c; cases Ti b; exact h,λh=>⟨ks,w,rfl,rfl,h⟩⟩
theorem dget_e{ks:List (List Int×Ae)}{w:List Int}{m e:Md}{P:DV->Prop}:jO (.dat m (.dict (Ou ks))) (.dat e (Br w)) P=∃d,Xc ks w=some d/\P (.dat .ow d):=propext ⟨λ⟨b,f,d,c,a,h⟩=>by cases Ju c; cases Ti a; exact ⟨d,h⟩,λ⟨d,h⟩=>⟨ks,w,d,rfl,rfl,h⟩⟩
theorem minV_e{ks:List (List Int×Ae)}{m:Md}{b:DS}{P:DV->DS->Prop}:sN (.dat m (.dict (Ou ks))) b P=(ks≠[]/\∃f:List Int,ks.map (·.2)=f.map Ax/\∀M∈f,(∀z∈f,M<=z)->P (.dat .ow (.int M)) b):=propext ⟨λ⟨c,f,d,h⟩=>by cases Ju d; exact ⟨h.1,f,h.2⟩,λ⟨a,f,h⟩=>⟨ks,f,rfl,a,h⟩⟩
theorem getD_e{ks:List (List Int×Ae)}{w:List Int}{e:Ae}{m g c:Md}{a:DS}{P:DV->DS->Prop}:tK (.dat m (.dict (Ou ks))) (.dat g (Br w)) (.dat c e) a P=(imm e=true/\P (.dat .ow ((Xc ks w).getD e)) a):=propext ⟨λ⟨d,i,f,b,h⟩=>by cases Ju f; cases Ti b; exact h,λh=>⟨ks,w,rfl,rfl,h⟩⟩
theorem wd_e{k:List Int}{R:List Int->Prop}:(∃w,Br k=Br w/\R w)=R k:=by
 apply propext
 constructor
 ·(intro a; obtain ⟨w,h,r⟩ := a); rw[Ti h]; exact r
 ·intro r; exact ⟨k,rfl,r⟩
theorem R5{A:List Nat}{dc:DT}{w y:DE}{P:DV->DS->Prop}{m:Md}{ds:List Ae}{b:DS}{p:Type}{l:List p}{g1 g2:p->Ae}(e:ds=l.map λa=>.tuple [g1 a,g2 a])(C:l.length<=1000000)(f:p->List Int)(r:p->Ae)(G:(l.map f).Nodup)(h:∀a∈l,∀(k:List Int->Ae->Nat->Prop) (F:Nat->Prop),k (f a) (r a) b.n->iZ dc w y ⟨.dat m (g1 a)::.dat m (g2 a)::frD b.sl A,b.n⟩ k F)(q:P (.dat .ow (.dict (Ou (l.map λa=>(f a,r a))))) b):sU A dc w y P m ds b:=by
 subst e
 refine ⟨by rw[Af]; exact C,λi g n=>n=b.n/\g=(l.take i).map λa=>(f a,r a),⟨rfl,by simp⟩,λi d g n o ⟨t,v⟩=>?_,λg n ⟨t,v⟩=>?_⟩
 ·subst t v
  rw[Bj] at o
  cases q:l[i]? with
  | none=>rw[q] at o; cases o
  | some a =>
   rw[q] at o
   cases o
   refine ⟨_,_,rfl,h a (Be q) _ _ ⟨rfl,?_⟩⟩
   rw[Gs q,Bh]
   unfold Rh
   rw[if_neg]
   ·rfl
   ·rw[aF,dH]
    (intro E; obtain ⟨x,B,c⟩ := E)
    have c:f x=f a:=of_decide_eq_true c
    obtain ⟨H,D⟩:=Av.mp q
    obtain ⟨j,s⟩:=uG.mp B
    have u:=(Av.mp s).1
    rw[Du] at u
    rw[List.getElem?_take,if_pos (by omega)] at s
    have z:=(List.getElem?_inj (l:=l.map f) (i:=j) (j:=i) (by rw[Af]; omega) G).mp (by rw[Bj,Bj,s,q]; exact congrArg some c)
    omega
 ·subst t v
  rw[Af,Ff]
  exact q
theorem dkv_e{ks:List (List Int×Ae)}{R:List (List Int×Ae)->Prop}:(∃ks',Ou ks=Ou ks'/\R ks')=R ks:=propext ⟨λ⟨ks',e,h⟩=>by cases Ju e; exact h,λh=>⟨ks,rfl,h⟩⟩
theorem retA_sh{d:Ae}{R:Ae->Prop}:(∃m d',DV.dat .sh d=.dat m d'/\m≠.pk/\R d')=R d:=propext ⟨λ⟨m,d',e,_,h⟩=>by cases e; exact h,λh=>⟨_,_,rfl,by decide,h⟩⟩
end DL
namespace K52
open PySem L2 Nd DL
def top(i:Nat):Stmt:=PySem.Challenge.pw_needledeck_k52_back_from_counts.main.body.getD i (.Pass ⟨0,0,0,0⟩)
abbrev Rv:Stmt:=top 1
abbrev Qh:Stmt:=top 2
abbrev Rq:Stmt:=top 4
abbrev Wu:Stmt:=top 5
abbrev Te:Stmt:=top 6
abbrev Uu:Stmt:=top 7
abbrev gX:Stmt:=top 9
abbrev sQ:Stmt:=top 10
abbrev Oi:Stmt:=top 11
abbrev Pz:Stmt:=top 12
abbrev Rx:Stmt:=top 13
abbrev Tp:Stmt:=top 15
abbrev Pa:Stmt:=top 16
abbrev Gp:Stmt:=top 17
abbrev Si:Stmt:=top 18
abbrev hV:Stmt:=top 19
section
variable{P:Bl}{w:World}{K:PySem.W.Frag}{mg:Str->Option Value}{base:Heap}
theorem KA:FnScope ["_law_cell"] ["_law_cell"] (Cf gX):=⟨rfl,rfl,rfl,by decide +kernel,rfl,by decide +kernel,by decide +kernel⟩
theorem u7{f:Addr}{d:Dc}(F:Fun K "_law_draws" "_law_draws" gX f d):FnOk P w K mg base La 1 f d ["_law_cell"] Wp:=by
 refine F.ok KA (λvs H Q E h=>?_) (λe A b s H vs Q E g h=>?_)
 ·obtain ⟨c,rfl,_⟩:=h
  rfl
 obtain ⟨c,rfl,q⟩:=h
 refine ⟨_,Me (x5 (rX FS (pv 0) (Jt iJ Fq Fq) (Vs _)) (Ur (Ym (qM (Hy (Jt Vx (pv 0) (Jt O2 (Jt iJ Fq Fq) Fq)) (Hy Fq (Hy zH Np)))))) iK)
  (Ur (Ym (qM (Hy (Jt Vx (pv 0) Fq) (Hy Fq (Hy zH Np)))))),?_⟩
 refine ⟨_,rfl,10,18,rfl,rfl,⟨by decide,by decide,by decide⟩,_,_,rfl,rfl,_,rfl,DD (λ_=>?_) (λ_=>?_)⟩
 ·refine ⟨_,rfl,10,60,rfl,rfl,⟨by decide,by decide,by decide⟩,_,16,rfl,rfl,⟨by decide,by show (Builtin.Int.intBits (10 ^ (60:Int).toNat):Int) * 16<=2 ^ 27; decide +kernel⟩,_,_,rfl,rfl,(by show (0:Int)<(10 ^ (60:Int).toNat) ^ (16:Int).toNat; decide +kernel),(by show 3<=Aq; decide),λp a=>?_⟩
  exact q p _ _ _ a Ds (Fe a _)
 ·refine ⟨_,rfl,_,_,rfl,rfl,(by show (0:Int)<1000003; decide),(by show 3<=Aq; decide),λp a=>?_⟩
  exact q p _ _ _ a Ds (Fe a _)
theorem KF:FnScope ["_law_draws_here", "_law_k", "_law_number"] ["_law_draws_here"] (Cf sQ):=⟨rfl,rfl,rfl,by decide +kernel,rfl,by decide +kernel,by decide +kernel⟩
theorem K2{f:Addr}{j:Dc}(F:Fun K "_law_next" "_law_next" sQ f j):FnOk P w K mg base La 1 f j ["_law_draws_here"] yL:=by
 refine F.ok KF (λvs H Q E h=>?_) (λn A g s H vs Q E r h=>?_)
 ·obtain ⟨d,c,k,b,rfl,_⟩:=h
  rfl
 obtain ⟨d,c,k,b,rfl,l,t,u,q⟩:=h
 refine ⟨_,Me (oX (Jt bT (Ze Uo (pv 0) Fq (λ_ _=>rfl)) Fq) (pL (pv 0) Fq cY))
  (Me (x5 (zG (Ze Uo (pv 0) Fq (λ_ _=>rfl)))
   (Me (Yr (i:=2) KF.nd rfl (Dw rfl) (Jt Vx (Ze Uo (pv 0) Fq (λ_ _=>rfl)) (Jt iJ Fq Fq)))
    (Me (oX (Jt jK (Ze Uo (pv 0) Fq (λ_ _=>rfl)) (Jt iJ Fq Fq)) (pL (pv 0) Fq cY))
    (Ur (Ym (pv 2))))) iK)
  (Me (Yr (i:=1) KF.nd rfl (Dw rfl) (Ze Uo (pv 0) Fq (λ_ _=>rfl)))
  (Me (Yr (i:=2) KF.nd rfl (Dw rfl) (Jt Vx (Jt Yc (Jt bT (Jt bT (Ze Uo (pv 0) Fq (λ_ _=>rfl)) (Jt Yc (Jt Yc (pv 1) (pv 1)) Fq)) (pv 1)) Fq) Fq))
  (Me (Yr (i:=2) KF.nd rfl (Dw rfl) (Jt Vx (Jt Yc (pv 2) (pv 2)) Fq))
  (Ur (Ym (Jt jK (Jt Vx (Jt Yc (pv 2) (Jt bT (pv 2) Fq)) Fq) Fq))))))),?_⟩
 -- draws[1]=draws[1]+1
 refine ⟨_,rfl,d,_,1,_,rfl,rfl,Pq.of l,rfl,_,_,rfl,rfl,_,rfl,d,_,1,1,rfl,rfl,l,rfl,?_⟩
 have a:(upd H d (.lst ([V.int c,V.int k,V.bl b].set 1 (V.int (k+1))))) d=some (.lst [.int c,.int (k+1),.bl b]):=Ds
 generalize e:upd H d (.lst ([V.int c,V.int k,V.bl b].set 1 (V.int (k+1))))=H1 at a
 have m:Zf d H H1:=by rw[<- e]; exact Zf.upd
 refine ⟨_,rfl,d,_,2,_,rfl,rfl,Pq.of a,rfl,_,rfl,?_⟩
 refine DD (λ_=>?_) (λ_=>?_)
 ·refine ⟨_,rfl,d,_,0,_,rfl,rfl,Pq.of a,rfl,10,6,rfl,rfl,⟨by decide,by decide,by decide⟩,_,_,rfl,rfl,(by show (0:Int)<10 ^ (6:Int).toNat; decide),?_⟩
  refine ⟨_,rfl,d,_,0,_,rfl,rfl,Pq.of a,rfl,10,6,rfl,rfl,⟨by decide,by decide,by decide⟩,_,_,rfl,rfl,⟨by decide,by decide⟩,_,rfl,d,_,0,0,rfl,rfl,a,rfl,_,rfl,?_⟩
  exact q _ _ _ Ds (m.trans Zf.upd)
 ·refine ⟨_,rfl,d,_,1,_,rfl,rfl,Pq.of a,rfl,?_⟩
  have p:=jW ((c+(k+1) * (k+1) * 7919+(k+1)) * 48271) 2147483629 (by decide)
  refine ⟨_,rfl,d,_,0,_,rfl,rfl,Pq.of a,rfl,_,rfl,_,rfl,_,_,rfl,rfl,.inl ⟨by omega,by omega⟩,_,_,rfl,rfl,.inr ⟨by decide,by decide⟩,_,_,rfl,rfl,_,rfl,_,_,rfl,rfl,
   _,_,rfl,rfl,.inr ⟨by decide,by decide⟩,_,_,rfl,rfl,(by show (0:Int)<2147483629; decide),?_⟩
  generalize ((c+(k+1) * (k+1) * 7919+(k+1)) * 48271) % 2147483629=x at p
  have o:=jW (x * x) 2147483587 (by decide)
  refine ⟨_,rfl,_,rfl,_,_,rfl,rfl,.inl ⟨by omega,by omega⟩,_,_,rfl,rfl,(by show (0:Int)<2147483587; decide),?_⟩
  generalize (x * x) % 2147483587=y at o
  refine ⟨_,rfl,_,rfl,_,_,rfl,rfl,_,_,rfl,rfl,.inl ⟨by omega,by omega⟩,_,_,rfl,rfl,(by show (0:Int)<2147483579; decide),_,_,rfl,rfl,⟨by decide,by decide⟩,?_⟩
  exact q _ _ _ a m
theorem vK{f:Addr}{a:Dc}(F:Fun K "_law_draws" "_law_draws" gX f a):FnOk P w K mg base La 1 f a ["_law_cell"] Wp:=u7 F
theorem A3{f:Addr}{a:Dc}(F:Fun K "_law_next" "_law_next" sQ f a):FnOk P w K mg base La 1 f a ["_law_draws_here"] (rL K Yi):=G7 (K2 F)
end
end K52
namespace DL
open PySem L2 Nd
def sub(a b:List Int):Bool:=a.all λi=>decide (i∈b)
def eO(a b:List Int):List Int:=a.filter λi=>decide (i∉b)
theorem G8{a b:List Int}:sub a b=true↔∀i∈a,i∈b:=by
 unfold sub
 simp [List.all_eq_true]
theorem xW{a b:List Int}:eO a b=[]↔sub a b=true:=by
 unfold eO
 rw[List.filter_eq_nil_iff,G8]
 simp
theorem xY{h:Int}{a:List Int}(r:Gn h a):a.Nodup:=r.1.imp λ{x y} h=>aV h
theorem vM{a:List Int}(c:a.Nodup)(h:∀x∈a,0<=x/\x<60):a.length<=60:=Cg (NdS.len_leI c λe b=>Xn (h e b).1 (h e b).2) (by decide)
theorem Nm(a:Int){b:Int}(h:0<b):0<=a % b/\a % b<b:=jW a b h
end DL
namespace Nd
open PySem L2 Ts
def Ee:Nat->List (List Int)
 | 0=>[[]]
 | n+1=>Ee n++(Ee n).map (·++[(n:Int)])
theorem bI:∀n,(Ee n).length=2 ^ n
 | 0=>rfl
 | n+1=>by
  show (Ee n++(Ee n).map (·++[(n:Int)])).length=2 ^ (n+1)
  rw[Bf,Af,bI n,Nat.pow_succ]
  omega
theorem Se{n:Nat}(h:n<=10):(Ee n).length<=1024:=by
 rw[bI]
 exact Nat.pow_le_pow_right (by decide) h
theorem Nf:∀n,∀w∈Ee n,w.length<=n
 | 0,w,h=>by
  have : w=[]:=by simpa [Ee] using h
  rw[this]
  exact Aj _
 | n+1,w,h=>by
  rcases Aw.mp (show w∈Ee n++(Ee n).map (·++[(n:Int)]) from h) with h | h
  ·exact Nat.le_succ_of_le (Nf n w h)
  ·obtain ⟨v,a,e⟩:=Df.mp h
   rw[<- e,Bf,Fl]
   exact Nat.succ_le_succ (Nf n v a)
def Ord(l:List (List Int)):Prop:=l.Pairwise λx y=>HT.lexLt y x=false
theorem lI:∀{l m:List (List Int)},l.Perm m->Ord l->Ord m->l=m
 | [],m,p,_,_=>(List.Perm.nil_eq p)
 | x::l,[],p,_,_=>by
  have:=p.length_eq
  simp at this
 | x::l,y::m,p,h1,h2=>by
  obtain ⟨b,c⟩:=Bb.mp h1
  obtain ⟨d,a⟩:=Bb.mp h2
  have e:x=y:=by
   have mx:x∈y::m:=p.mem_iff.mp Ab
   have my:y∈x::l:=p.mem_iff.mpr Ab
   rcases An.mp mx with e | mx
   ·exact e
   ·rcases An.mp my with e | my
    ·exact e.symm
    ·exact iY (d x mx) (b y my) |>.symm▸rfl
  subst e
  rw[lI ((List.perm_cons x).mp p) c a]
end Nd
namespace Nd
open PySem L2
def ch:Nat->Nat->Nat
 | _,0=>1
 | 0,_+1=>0
 | n+1,k+1=>ch n k+ch n (k+1)
theorem tT(n k:Nat):ch (n+1) (k+1)=ch n k+ch n (k+1):=rfl
theorem bM:∀{n k:Nat},n<k->ch n k=0
 | 0,0,h=>absurd h (Fo _)
 | 0,k+1,_=>rfl
 | n+1,0,h=>absurd h (Ka _)
 | n+1,k+1,h=>by rw[tT,bM (by omega:n<k),bM (by omega:n<k+1)]
theorem O8:∀n:Nat,ch n n=1
 | 0=>rfl
 | n+1=>by rw[tT,O8 n,bM (Tb n)]
def cw:Nat->Int->Nat->List (List Int)
 | _,_,0=>[[]]
 | 0,_,_+1=>[]
 | d+1,p,m+1=>(cw d (p+1) m).map (p::·)++cw d (p+1) (m+1)
def rA(top:Int):Nat->List Int->Nat
 | _,[]=>0
 | m,x::w=>ch (top - 1 - x).toNat m+rA top (m - 1) w
theorem bQ:∀{n:Nat} {w:List Int},w∈Ee n↔Gn n w
 | 0,w=>by
  show w∈[[]]↔_
  rw[Al]
  constructor
  ·rintro rfl; exact Gn.nil _
  ·rintro ⟨_,h⟩
   match w with
   | []=>rfl
   | x::w=>have:=h x Ab; omega
 | n+1,w=>by
  show w∈Ee n++(Ee n).map (·++[(n:Int)])↔_
  rw[Aw,List.mem_map,bQ]
  constructor
  ·rintro (h | ⟨v,hv,rfl⟩)
   ·exact h.up (by omega)
   ·have:=(bQ.mp hv).more (by omega)
    exact this.up (by omega)
  ·intro h
   by_cases b:(n:Int)∈w
   ·refine .inr ⟨w.dropLast,bQ.mpr ?_,?_⟩
    ·have a:w≠[]:=λz=>by rw[z] at b; cases b
     have g:w.getLast a=n:=by
      have i:=h.2 _ (List.getLast_mem a)
      by_cases e:w.getLast a=n
      ·exact e
      ·exfalso
       have d:=Jy a
       rw[<- d] at b
       rcases Aw.mp b with z | z
       ·have c:=h.1
        rw[<- d] at c
        have:=(Cr.mp c).2.2 _ z _ (Al.mpr rfl)
        omega
       ·exact e (Al.mp z).symm
     have d:=Jy a
     have c:=h.1
     rw[<- d,g] at c
     obtain ⟨j,_,k⟩:=Cr.mp c
     exact ⟨j,λx f=>⟨(h.2 x (List.dropLast_subset w f)).1,k x f _ (Al.mpr rfl)⟩⟩
    ·have a:w≠[]:=λz=>by rw[z] at b; cases b
     have g:w.getLast a=n:=by
      have i:=h.2 _ (List.getLast_mem a)
      by_cases e:w.getLast a=n
      ·exact e
      ·exfalso
       have d:=Jy a
       rw[<- d] at b
       rcases Aw.mp b with z | z
       ·have c:=h.1
        rw[<- d] at c
        have:=(Cr.mp c).2.2 _ z _ (Al.mpr rfl)
        omega
       ·exact e (Al.mp z).symm
     rw[<- g]
     exact Jy a
   ·refine .inl ⟨h.1,λx f=>?_⟩
    have:=h.2 x f
    have : x≠n:=λz=>b (by rw[<- z]; exact f)
    omega
theorem Rt:∀n:Nat,(Ee n).Nodup
 | 0=>Co.mpr ⟨Bd,Dv⟩
 | n+1=>by
  show (Ee n++(Ee n).map (·++[(n:Int)])).Nodup
  refine He.mpr ⟨Rt n,?_,λx d y c e=>?_⟩
  ·exact List.Pairwise.map _ (λa b h e=>h (List.append_cancel_right e)) (Rt n)
  ·subst e
   obtain ⟨v,_,rfl⟩:=Df.mp c
   have:=(bQ.mp d).2 n (Ag _ (Al.mpr rfl))
   omega
end Nd
namespace DL
open PySem L2 Nd
def aJ:PF:=λa R=>∃h:Int,a=[.int h]/\0<=h/\h<=10/\∀L:List (List Int),L.Perm (Ee h.toNat)->Ord L->R (wordsD L)
theorem Yu{L:List (List Int)}{n:Nat}(b:n<=10)(p:L.Perm (Ee n)):L.length<=1024/\∀w∈L,Gn n w/\w.length<=10:=⟨by rw[p.length_eq]; exact Se b,λw a=>⟨bQ.mp (p.mem_iff.mp a),Cg (Nf n w (p.mem_iff.mp a)) b⟩⟩
def A7(L:List (List Int)):List (List Int×Ae):=L.zipIdx.map λp=>(p.1,.int (p.2:Int))
def uH(L:List (List Int)):Ae:=.dict (Ou (A7 L))
def Yn(L:List (List Int))(f:List Int->Int):Ae:=.list ((L.map f).map Ax)
instance {L:List (List Int)} {f:List Int->Int}:Dp (Yn L f) 1:=⟨(inferInstance:Dp (.list ((L.map f).map Ax)) 1).h⟩
theorem kO{w:List Int}:∀{L:List (List Int)} (k:Nat),w∈L->∃i:Nat,L[i]? = some w/\(((L.zipIdx k).map λp=>(p.1,Ax (p.2:Int))).find? λp=>decide (p.1=w))=some (w,.int ((i+k:Nat):Int))
 | [],_,h=>nomatch h
 | x::L,k,h=>by
  rw[Nq,Ao,Ik]
  by_cases e:x=w
  ·subst e
   exact ⟨0,rfl,by simp⟩
  ·obtain ⟨i,a,b⟩:=kO (k+1) ((An.mp h).resolve_left λz=>e z.symm)
   refine ⟨i+1,by simpa using a,?_⟩
   have c:decide (x=w)=false:=decide_eq_false e
   simp only[c,b]
   congr 3
   omega
theorem N7{L:List (List Int)}{w:List Int}(h:w∈L):∃i:Nat,L[i]? = some w/\Xc (A7 L) w=some (.int (i:Int)):=by
 obtain ⟨i,a,b⟩:=kO 0 h
 refine ⟨i,a,?_⟩
 unfold Xc A7
 rw[b]
 rfl
theorem tO{f:List Int->Ae}:∀(L:List (List Int)) (k:Nat),((((L.zipIdx k).map λp=>(p.1,Ax (p.2:Int)))).zip (L.map f)).map (λp=>Yz [Br p.1.1,p.2])=L.map λw=>.tuple [Br w,f w]
 | [],_=>rfl
 | x::L,k=>by
  rw[Nq,Ao,Ao,Mh,Ao,Ao,tO L (k+1)]
theorem iC(L:List (List Int))(f:List Int->Int):(((A7 L).zip ((L.map f).map Ax)).map λp=>Yz [Br p.1.1,p.2])=L.map λw=>.tuple [Br w,.int (f w)]:=by
 rw[Dn]
 exact tO (f:=λw=>.int (f w)) L 0
theorem BI{L:List (List Int)}{f:List Int->Int}{i:Nat}{w:List Int}(h:L[i]? = some w):Vp ((L.map f).map Ax) (i:Int)=some (.int (f w)):=iD (by rw[Bj,Bj,h]; rfl)
theorem AL{L:List (List Int)}(c:L.Nodup){ns:List Int}(e:ns.length=L.length):∃f,ns=L.map f:=by
 refine ⟨λw=>ns.getD (L.idxOf w) 0,?_⟩
 apply Ir
 intro j
 rw[Bj]
 cases q:L[j]? with
 | none =>
  rw[List.getElem?_eq_none_iff] at q
  exact List.getElem?_eq_none_iff.mpr (by omega)
 | some v =>
  obtain ⟨g,h⟩:=Av.mp q
  have a:v∈L:=Be q
  have b:L.idxOf v=j:=by
   have d:L[L.idxOf v]? = some v:=by
    rw[Bx (gL a)]
    exact congrArg some (List.getElem_idxOf _)
   exact (List.getElem?_inj (l:=L) (i:=L.idxOf v) (j:=j) (gL a) c).mp (by rw[d,q])
  show ns[j]? = some (ns.getD (L.idxOf v) 0)
  rw[b,kC,Bx (by omega)]
  rfl
def Wz(p t:Int)(f:List Int->Int)(w:List Int):Int:=if p∈w then f w else f w+t * f (Ol (w++[p]))
def uE:PF:=λa R=>∃h:Int,a=[.int h]/\0<=h/\h<=10/\∀L:List (List Int),L.Perm (Ee h.toNat)->Ord L->R (uH L)
def T1:PF:=λa R=>∃(n:Nat) (L:List (List Int)) (f:List Int->Int) (p t:Int),a=[Yn L f,uH L,.int p,.int t]/\n<=10/\L.Perm (Ee n)/\0<=p/\p<n/\(t=1\/t = -1)/\R (Yn L (Wz p t f))
def pI(a:List (List Int))(w:List Int):Int:=(a.countP λc=>sub w c:Nat)
theorem Tn{L:List (List Int)}{n:Nat}(p:L.Perm (Ee n)):L.Nodup:=p.nodup_iff.mpr (Rt n)
theorem Yk{L:List (List Int)}{n:Nat}(p:L.Perm (Ee n)){w:List Int}:w∈L↔Gn n w:=p.mem_iff.trans bQ
theorem Vr{n:Int}{w:List Int}{p:Int}(r:Gn n w)(c:0<=p)(a:p<n):Gn n (Ol (w++[p])):=⟨Qy _,λx b=>by
 rcases Aw.mp (bN.mp b) with z | z
 ·exact r.2 x z
 ·rw[Al.mp z]; exact ⟨c,a⟩⟩
theorem HE{w:List Int}{p i:Int}:i∈Ol (w++[p])↔i∈w\/i=p:=by
 rw[bN,Aw,Al]
def Lr(Q:List Int)(f:List Int->Int):List Int->Int:=Q.foldl (λf q=>Wz q (-1) f) f
theorem Yl(Q:List Int)(q:Int)(f:List Int->Int):Lr (Q++[q]) f=Wz q (-1) (Lr Q f):=by
 unfold Lr
 rw[List.foldl_append]
 rfl
def kW:PF:=λa R=>∃(n:Nat) (L:List (List Int)) (f:List Int->Int) (Q:List Int),a=[uH L,Yn L f,Br Q]/\n<=10/\L.Perm (Ee n)/\(∀q∈Q,0<=q/\q<n)/\R (Yn L (Lr Q f))
end DL
namespace DL
open PySem PySem.Spec PyProof.Rows L2 Nd
def Pv(L:List (List Int))(f:List Int->Int):List (List Int×Ae):=L.map λw=>(w,.int (f w))
theorem nY:∀(L:List (List Int)) (es:List Ae) (a:List (List Int×Ae)),L.length=es.length->L.Nodup->(∀w∈L,∀p∈a,p.1≠w)->Sr a (L.zip es)=a++L.zip es
 | [],es,a,_,_,_=>by simp [Sr]
 | w::L,[],a,h,_,_=>by cases h
 | w::L,e::es,a,h,nd,hn=>by
  have c:Rh a w e=a++[(w,e)]:=by
   unfold Rh
   rw[if_neg]
   rw[dH]
   (intro f; obtain ⟨p,c,z⟩ := f)
   exact hn w Ab p c (of_decide_eq_true z)
  have b:=Co.mp nd
  show Sr (Rh a w e) (L.zip es)=_
  rw[c,nY L es _ (Nat.succ.inj h) b.2 λv d p c=>?_]
  ·rw[Bt]; rfl
  ·rcases Aw.mp c with z | z
   ·exact hn v (Ad _ d) p z
   ·rw[Al.mp z]
    rintro rfl
    exact b.1 d
theorem mY:∀(L:List (List Int)) (f:List Int->Int),L.zip ((L.map f).map Ax)=Pv L f
 | [],f=>rfl
 | w::L,f=>by
  have a:=mY L f
  unfold Pv at a ⊢
  rw[Ao,Ao,Mh,a]
  rfl
theorem i6{L:List (List Int)}(b:L.Nodup)(f:List Int->Int):Sr [] (L.zip ((L.map f).map Ax))=Pv L f:=by
 rw[nY L _ [] (by rw[Af,Af]) b λ_ _ p a=>(nomatch a),Va,mY]
theorem Xe{w:List Int}{f:List Int->Int}:∀{L:List (List Int)},w∈L->Xc (Pv L f) w=some (.int (f w))
 | [],h=>(nomatch h)
 | v::L,h=>by
  unfold Xc Pv
  rw[Ao,Ik]
  by_cases e:v=w
  ·subst e
   rw[show decide ((v,Ax (f v)).1=v)=true from decide_eq_true rfl]
   rfl
  ·rw[show decide ((v,Ax (f v)).1=w)=false from decide_eq_false e]
   have a:=Xe (f:=f) (List.mem_of_ne_of_mem (λz=>e z.symm) h)
   exact a
theorem M5{L:List (List Int)}{w:List Int}{f:List Int->Int}(h:w∈L)(z:Int):Rh (Pv L f) w (.int z)=Pv L λv=>if v=w then z else f v:=by
 unfold Rh
 rw[if_pos]
 ·unfold Pv
  rw[Dn]
  refine Jc λv _=>?_
  show (if v=w then (v,Ax z) else (v,Ax (f v)))=(v,Ax (if v=w then z else f v))
  split <;> rfl
 ·rw[dH]
  exact ⟨(w,.int (f w)),Df.mpr ⟨w,h,rfl⟩,decide_eq_true rfl⟩
theorem qI{L:List (List Int)}{f g:List Int->Int}(h:∀w∈L,f w=g w):Pv L f=Pv L g:=by
 unfold Pv
 refine Jc λw a=>?_
 rw[h w a]
theorem sM{L:List (List Int)}{f:List Int->Int}(h:L≠[]):Pv L f≠[]:=by
 unfold Pv
 intro z
 exact h (xP.mp z)
theorem fK(L:List (List Int))(f:List Int->Int):(Pv L f).map (·.2)=(L.map f).map Ax:=by
 unfold Pv
 rw[Dn,Dn]
 rfl
def Mm(p:Int)(g:List Int->Int)(T:List (List Int))(w:List Int):Int:=if w∈T then Wz p (-1) g w else g w
theorem F9{p:Int}{g:List Int->Int}{T:List (List Int)}{w:List Int}(h:p∈w):Mm p g T w=g w:=by
 unfold Mm Wz
 rw[if_pos h,ite_self]
theorem sum_map_add{b:Type}(f g:b->Int):∀l:List b,(l.map λx=>f x+g x).sum=(l.map f).sum+(l.map g).sum
 | []=>rfl
 | a::l=>by rw[Ao,Ao,Ao,Hq,Hq,Hq,sum_map_add f g l]; omega
theorem fY(n:Nat):Pe (n+1)=Pe n++[(n:Int)]:=by
 unfold Pe
 rw[List.range_succ,Bh]
 rfl
theorem L0(n:Nat)(g:List Int->Int):((Ee (n+1)).map (Wz n (-1) g)).sum=((Ee n).map g).sum:=by
 have e:Ee (n+1)=Ee n++(Ee n).map (λw=>w++[(n:Int)]):=rfl
 rw[e,Bh,List.sum_append,Dn,<- sum_map_add]
 congr 1
 refine Jc λw a=>?_
 have r:=bQ.mp a
 have d:(n:Int)∉w:=λz=>by have:=r.2 _ z; omega
 have c:(n:Int)∈w++[(n:Int)]:=Ag _ Ab
 have b:Gn ((n:Int)+1) (w++[(n:Int)]):=r.more (by omega)
 show Wz n (-1) g w+Wz n (-1) g (w++[(n:Int)])=g w
 unfold Wz
 rw[if_neg d,if_pos c,E4 b.1]
 omega
theorem mZ(f:List Int->Int):∀n:Nat,((Ee n).map (Lr (Pe n) f)).sum=f []
 | 0=>by show f []+0=f []; omega
 | n+1=>by rw[fY,Yl,L0,mZ f n]
theorem zO{l m:List Int}(h:l.Perm m):l.sum=m.sum:=by
 induction h with
 | nil=>rfl
 | cons x _ c=>rw[Hq,Hq,c]
 | swap x y l=>rw[Hq,Hq,Hq,Hq]; omega
 | trans _ _ a b=>exact a.trans b
end DL
namespace K52
open PySem L2 Nd DL
local macro_rules | `(tactic| array_get_dec) => do
  let ids:=(("e_seq e_skip e_ret e_if e_asg e_name e_name2 e_name4 e_own e_nT e_gtup e_gsn e_gsc e_op e_var e_c e_imm e_immB e_take e_I e_I0 e_eqF e_eqT e_inFt_w1 e_inTt_w1 e_ixl e_ixt e_cat e_catT_w1 e_rep e_nlT e_ntT e_pkOfsh e_pkOfow e_mdInpk e_mdInsh e_mdInow e_mdItsh e_mdItow e_nil e_cons e_tup e_lst e_noPart e_part e_partB e_sl e_slBl e_cb e_lenl e_lent e_listl e_tuplel e_intb e_max2 e_sortT e_isi e_v e_b e_bB e_notT e_andT e_orT e_orTf e_and e_andt e_ifE e_neg e_negB e_dL e_dTp e_lB e_tpB_w1 e_range1 e_rng1B e_enum e_enumB e_for e_comp e_comp2 e_compD e_noTest e_step e_stepT e_yesB e_stepD e_stepDT e_yesBD e_call e_callW e_draws e_drawsB e_append e_setI e_scrSl e_sortW e_dput e_zipD e_zipDB e_dcomp2 e_dcStep e_dcBT e_dcYes e_appI e_appIB e_dictZ e_dictZB e_minV e_getD e_isDc2 e_compP e_callA e_ssT e_ssTt e_tr e_trB minV_e getD_e callAB retA retA_sh wd_e dkv_e isDct dputB dk_e dget_e wordsD callB callBW tupB lstB datas pkMd allOw noPk appB setB own1 npk retE retW retL args0 frD frD1 alD List.map_cons List.map_nil List.replicate List.getElem?_cons_zero List.getElem?_cons_succ List.set_cons_zero List.set_cons_succ List.cons_append List.nil_append Option.map_some List.length_cons List.length_nil List.append_nil rdAdd rdSub rdMul rdDiv rdMod rdLt rdGt if_true mdZip Nat.reduceAdd Nat.reduceSub Nat.reduceLeDiff true_and im_e ima_e dp_e dpa_e any_int eqD_intd eqD_str eqD_li eqD_l0 ow_e tt_e cdiv_e Int.reduceLT Int.reduceLE Int.reduceNeg and_self Int.reduceToNat fold_w isi_li isi_tt isi_wt Bool.not_true decide_true String.reduceEq or_true true_or ifB_lt ifB_lf str_self Int.cast_ofNat_Int atI_0 atI_1 some_e st_never_deck" : String).splitOn " ").toArray.map λ(x:String)=>Lean.mkIdent x.toName
  `(tactic| try simp only [$[$ids:ident],*])
section
variable{P:Bl}{w:World}{K:PySem.W.Frag}{mg:Str->Option Value}{base:Heap}
theorem HW:FnScope ["one", "other"] ["one", "other"] (Cf Rv):=⟨rfl,rfl,rfl,by decide +kernel,rfl,by decide +kernel,by decide +kernel⟩
theorem kR{f:Addr}{n:Dc}(F:Fun K "together" "together" Rv f n)(D:mg "tuple" = none)(z:mg "sorted" = none)(v:mg "set" = none):FnOk P w K mg base La 1 f n ["one", "other"] (V6 K):=by
 refine F.ok HW (λvs H Q E h=>?_) (λG A e s H vs Q E W h=>?_)
 ·obtain ⟨a,b,d,c,rfl,_⟩:=h
  rfl
 obtain ⟨a,b,d,c,rfl,I,J,m,p,q⟩:=h
 refine ⟨_,Ur (Ym (Mv Vg rfl D (by decide +kernel) (Hy (aY (r:=tY w) (Xd rfl) rfl z (by decide +kernel) (Hy
  (Jt (r:=JK w) yR (Mv (r:=AK w K) (bF rfl) rfl v (by decide +kernel) (Hy (pv 0) Np)) (Mv (r:=AK w K) (bF rfl) rfl v (by decide +kernel) (Hy (pv 1) Np))) Np)) Np))),?_⟩
 refine ⟨_,rfl,a,d,CS,rfl,I,(by show CS.length<=62; decide),sZ m,λl M=>?_⟩
 have x:=Fe M (Ys w l d)
 refine ⟨_,rfl,b,c,CS,rfl,Sx.tup x J,(by show CS.length<=62; decide),sZ p,λt o=>?_⟩
 have j:=Fe o (Ys w t c)
 refine ⟨l,t,d,c,CS,rfl,rfl,Fn Ds o,j _ _ Ds,Ds,(by show CS.length<=62; decide),sZ m,sZ p,λu C=>?_⟩
 have R:=Fe C (Ys w u (d++c))
 refine ⟨u,_,rfl,Ds,λN i B O S g=>?_⟩
 have U:=Fe B (.lst (i.map V.int))
 refine ⟨N,_,rfl,.inl ⟨Pq.of Ds,λL y=>?_⟩⟩
 have T:=Fe y (.tup (i.map V.int))
 have k:=((x.trans j).trans (R.trans U))
 exact q L i _ (k.free y) Ds O S g (k.trans T)
theorem gP{f:Addr}{a:Dc}(F:Fun K "together" "together" Rv f a)(b:mg "tuple" = none)(d:mg "sorted" = none)(c:mg "set" = none):FnOk P w K mg base La 1 f a ["one", "other"] (cF K j9):=AE (kR F b d c)
theorem iV:FnScope ["holes", "words", "place"] ["holes"] (Cf Qh):=⟨rfl,rfl,rfl,by decide +kernel,rfl,by decide +kernel,by decide +kernel⟩
theorem kA{f   : Addr}{B  : Dc}(F:Fun K "all_words" "all_words" Qh f B)(e:mg "range" = none)(d:mg "sorted" = none):FnOk P w K mg base La 1 f B ["holes"] (cF K (aJ)):=by
 refine' Qf (k:=0) F iV (λt A m s H E G=>?hb) ?h
 case hb =>
  have p:=G.units
  have u:∀{b:Scope} (h:b={ kind:=.function,names:=[(".0",.local),("word",.local),("place",.free)],isGenerator:=false,isCoroutine:=false }),
    CompScope (Qo La P w K mg base ["holes", "words", "place"] "all_words" (Cf Qh) f t A m s H E).nox b [("place",s.heap.objs.size+1)] "word" ["place"] [2]:=by
   rintro b rfl
   refine ⟨by rfl,.inl (by decide +kernel),by rfl,by decide +kernel,.inl rfl,λy c h=>?_,by rfl,by decide +kernel,rfl,λk y j q r=>?_⟩
   ·have z:=Gw h
    simp only[An,Bd,or_false,Jr] at z
    obtain ⟨rfl,rfl⟩:=z; rfl
   ·match k,q,r with
    | 0,q,r=>cases q; cases r; exact ⟨rfl,rfl,by first | exact .inl rfl | exact .inr rfl⟩
    | k+1,q,r=>cases q
  exact Dd (Gg (i:=1) iV.nd rfl (Dw rfl) (Ll (Ba (Rp Bq) Bq)))
   (Dd (Nl Ex rfl (Lu rfl e (Ba (Bc (pv 0)) Bq)) (Kr (i:=2) iV.nd rfl (Or.inr rfl))
   (Eo (Gg (i:=1) iV.nd rfl (Dw rfl) (cW (Bc (pv 1)) (Wt (u rfl) rfl (E1 (Bc (pv 1))) (λ_ _ _=>Nc) (λ_ _ _=>aG (Bc (pv 0)) (Rp (Ba (Rw (Bc (pv 1))) Bq))))))))
   (Eo (Iw (Jk (Ts.call_sortedI p) kU rfl d (by decide +kernel) (Ba (Bc (pv 1)) Bq)))))
 case h =>
  (intro V R o; obtain ⟨h,rfl,U,S,D⟩ := o)
  refine ⟨rfl,?_⟩
  array_get_dec
  refine ⟨by omega,by omega,?_⟩
  refine Zu (l:=Cd h.toNat) (g:=λi:Nat=>.int i) rfl (λi N=>∃v:DV,N=⟨[.dat .sh (.int h),.dat .sh (.list ((Ee i).map Br)),v],0⟩/\NP v) ?_ ?_ ?_
  ·exact ⟨_,rfl,Qg⟩
  ·(intro i a _ Q o; obtain ⟨v,rfl,J⟩ := o)
   obtain ⟨rfl,T⟩:=Rg Q
   have X:=Se (n:=a) (by omega)
   array_get_dec
   refine sI (l:=Ee a) (g:=Br) rfl (λw=>Br (w++[(a:Int)])) (λw C I W x=>?_) ?_
   ·have Y:=Nf a w C
    array_get_dec
    refine ⟨by rw[Af]; omega,?_⟩
    unfold Br at x
    rw[Bh] at x
    exact x
   ·array_get_dec
    refine ⟨by rw[Af,Af]; omega,.dat .sh (.int a),Tu ?_ rfl,Jj⟩
    show _=[DV.dat .sh (.int h),.dat .sh (.list ((Ee a++(Ee a).map (·++[(a:Int)])).map Br)),.dat .sh (.int a)]
    rw[Bh,Dn]
    rfl
  ·(intro _ o; obtain ⟨v,rfl,J⟩ := o)
   rw[Dh]
   array_get_dec
   exact ⟨_,rfl,λL O M=>D L O M⟩
theorem eN:FnScope ["_law_holes", "_law_found", "_law_place"] ["_law_holes"] (Cf Oi):=⟨rfl,rfl,rfl,by decide +kernel,rfl,by decide +kernel,by decide +kernel⟩
theorem eL{f   : Addr}{B  : Dc}(F:Fun K "_law_words" "_law_words" Oi f B)(e:mg "range" = none)(d:mg "sorted" = none):FnOk P w K mg base La 1 f B ["_law_holes"] (cF K (aJ)):=by
 refine' Qf (k:=0) F eN (λt A m s H E G=>?hb) ?h
 case hb =>
  have p:=G.units
  have u:∀{b:Scope} (h:b={ kind:=.function,names:=[(".0",.local),("_law_word",.local),("_law_place",.free)],isGenerator:=false,isCoroutine:=false }),
    CompScope (Qo La P w K mg base ["_law_holes", "_law_found", "_law_place"] "_law_words" (Cf Oi) f t A m s H E).nox b [("_law_place",s.heap.objs.size+1)] "_law_word" ["_law_place"] [2]:=by
   rintro b rfl
   refine ⟨by rfl,.inl (by decide +kernel),by rfl,by decide +kernel,.inl rfl,λy c h=>?_,by rfl,by decide +kernel,rfl,λk y j q r=>?_⟩
   ·have z:=Gw h
    simp only[An,Bd,or_false,Jr] at z
    obtain ⟨rfl,rfl⟩:=z; rfl
   ·match k,q,r with
    | 0,q,r=>cases q; cases r; exact ⟨rfl,rfl,by first | exact .inl rfl | exact .inr rfl⟩
    | k+1,q,r=>cases q
  exact Dd (Gg (i:=1) eN.nd rfl (Dw rfl) (Ll (Ba (Rp Bq) Bq)))
   (Dd (Nl Ex rfl (Lu rfl e (Ba (Bc (pv 0)) Bq)) (Kr (i:=2) eN.nd rfl (Or.inr rfl))
   (Eo (Gg (i:=1) eN.nd rfl (Dw rfl) (cW (Bc (pv 1)) (Wt (u rfl) rfl (E1 (Bc (pv 1))) (λ_ _ _=>Nc) (λ_ _ _=>aG (Bc (pv 0)) (Rp (Ba (Rw (Bc (pv 1))) Bq))))))))
   (Eo (Iw (Jk (Ts.call_sortedI p) kU rfl d (by decide +kernel) (Ba (Bc (pv 1)) Bq)))))
 case h =>
  (intro V R o; obtain ⟨h,rfl,U,S,D⟩ := o)
  refine ⟨rfl,?_⟩
  array_get_dec
  refine ⟨by omega,by omega,?_⟩
  refine Zu (l:=Cd h.toNat) (g:=λi:Nat=>.int i) rfl (λi N=>∃v:DV,N=⟨[.dat .sh (.int h),.dat .sh (.list ((Ee i).map Br)),v],0⟩/\NP v) ?_ ?_ ?_
  ·exact ⟨_,rfl,Qg⟩
  ·(intro i a _ Q o; obtain ⟨v,rfl,J⟩ := o)
   obtain ⟨rfl,T⟩:=Rg Q
   have X:=Se (n:=a) (by omega)
   array_get_dec
   refine sI (l:=Ee a) (g:=Br) rfl (λw=>Br (w++[(a:Int)])) (λw C I W x=>?_) ?_
   ·have Y:=Nf a w C
    array_get_dec
    refine ⟨by rw[Af]; omega,?_⟩
    unfold Br at x
    rw[Bh] at x
    exact x
   ·array_get_dec
    refine ⟨by rw[Af,Af]; omega,.dat .sh (.int a),Tu ?_ rfl,Jj⟩
    show _=[DV.dat .sh (.int h),.dat .sh (.list ((Ee a++(Ee a).map (·++[(a:Int)])).map Br)),.dat .sh (.int a)]
    rw[Bh,Dn]
    rfl
  ·(intro _ o; obtain ⟨v,rfl,J⟩ := o)
   rw[Dh]
   array_get_dec
   exact ⟨_,rfl,λL O M=>D L O M⟩
end
def tZ:DF:=λb n R=>∃h:Int,b=[.int h]/\0<h/\h<=60/\n<=90000/\∀a,Gn h a->R (Br a) (n+1)
def x9:DF:=λb n R=>∃h m:Int,b=[.int h,.int m]/\0<h/\h<=10/\0<=m/\m<=60/\n<=50000/\∀(a:List (List Int)) n',n<=n'->n'<=n+200->a.length<=60->(∀c∈a,Gn h c)->R (.list (a.map Br)) n'
def C5:PF:=λc R=>∃a b:List Int,c=[Br a,Br b]/\R (.bool (sub a b))
section
variable{P:Bl}{w:World}{K:PySem.W.Frag}{mg:Str->Option Value}{base:Heap}
theorem eB:FnScope ["_law_draws_here", "_law_holes", "_law_pick", "_law_told", "_law_place"] ["_law_draws_here", "_law_holes"] (Cf Rx):=⟨rfl,rfl,rfl,by decide +kernel,rfl,by decide +kernel,by decide +kernel⟩
theorem dR{f b  : Addr}{D c:Dc}(F:Fun K "_law_small" "_law_small" Rx f D)(d:FnOk P w K mg base La 1 b c ["_law_draws_here"] (rL K Yi))(o:Binds K c ["_law_draws_here"] [])(m:PySem.W.keepIn K (.ref b)=true)(j:mg "_law_next" = some (.ref b))(e:mg "range" = none)(q:mg "tuple" = none):FnOk P w K mg base La 2 f D ["_law_draws_here", "_law_holes"] (rL K (tZ)):=by
 refine' iN (k:=1) F eB (λI A z s H E r=>?hb) ?h
 case hb =>
  have B:Room 1 _:=r.mono (by decide)
  have y:=r.units
  exact Dd (Gg (i:=2) eB.nd rfl (Dw rfl) (Hz d B rfl j m o Ji (pv 0) Bq))
   (Dd (aO (i:=3) eB.nd rfl (Dw rfl) (Ll Bq))
   (Dd (Nl Ex rfl (Lu rfl e (Ba (Bc (pv 1)) Bq)) (Kr (i:=4) eB.nd rfl (Dw rfl))
   (Dd (Sn (cT y (Kf (Bc (pv 2)) Cp) Cp)
    (Eo (fU (pv 3) (Bc (pv 4)))) Nn)
    (Eo (Gg (i:=2) eB.nd rfl (Dw rfl) (Vz (Bc (pv 2)) Cp)))))
   (Eo (Iw (Ov bJ (bL (i:=true)) rfl q (by decide +kernel) (Ba (Bc (pv 3)) Bq))))))
 case h =>
  (intro X n R u; obtain ⟨h,rfl,S,U,V,J⟩ := u)
  refine ⟨rfl,?_⟩
  array_get_dec
  refine ⟨rfl,by omega,λT=>?_⟩
  array_get_dec
  refine ⟨by omega,by omega,?_⟩
  refine Zu (l:=Cd h.toNat) (g:=λi:Nat=>.int i) rfl (λi N=>∃(p:Int) (t:List Int) (v:DV),N=⟨[.drw,.dat .sh (.int h),.dat .sh (.int p),.dat .ow (.list (t.map Ax)),v],n+1⟩/\Gn i t/\NP v) ?_ ?_ ?_
  ·exact ⟨_,[],_,rfl,Gn.nil _,Qg⟩
  ·(intro i a _ O u; obtain ⟨p,t,v,rfl,r,M⟩ := u)
   obtain ⟨rfl,Q⟩:=Rg O
   have L:=vM (xY r) (λx G=>by have:=r.2 x G; omega)
   array_get_dec
   refine Zk (λC=>?_) (λC=>?_)
   ·array_get_dec
    refine ⟨by rw[Af]; omega,?_⟩
    refine ⟨_,t++[(a:Int)],_,Tu (by rw[Bh]; rfl) rfl,r.more (by omega),Jj⟩
   ·array_get_dec
    exact ⟨_,t,_,rfl,r.up (by omega),Jj⟩
  ·(intro _ u; obtain ⟨p,t,v,rfl,r,M⟩ := u)
   rw[Dh] at r
   array_get_dec
   exact ⟨by omega,J t (by rwa [show ((h.toNat:Nat):Int)=h by omega] at r)⟩
theorem iH:FnScope ["_law_one", "_law_other"] ["_law_one", "_law_other"] (Cf Pz):=⟨rfl,rfl,rfl,by decide +kernel,rfl,by decide +kernel,by decide +kernel⟩
theorem jG{f   : Addr}{t  : Dc}(F:Fun K "_law_lies" "_law_lies" Pz f t):FnOk P w K mg base La 1 f t ["_law_one", "_law_other"] (cF K (C5)):=by
 refine' Qf (k:=0) F iH (λq A n s H E v=>?hb) ?h
 case hb =>
  have m:=v.units
  have r:∀{d:Scope} (h:d={ kind:=.function,names:=[(".0",.local),("_law_place",.local),("_law_other",.free)],isGenerator:=false,isCoroutine:=false }),
    CompScope (Qo La P w K mg base ["_law_one", "_law_other"] "_law_lies" (Cf Pz) f q A n s H E).nox d [("_law_other",s.heap.objs.size+1)] "_law_place" ["_law_other"] [1]:=by
   rintro d rfl
   refine ⟨by rfl,.inl (by decide +kernel),by rfl,by decide +kernel,.inl rfl,λy c h=>?_,by rfl,by decide +kernel,rfl,λk y j o p=>?_⟩
   ·have z:=Gw h
    simp only[An,Bd,or_false,Jr] at z
    obtain ⟨rfl,rfl⟩:=z; rfl
   ·match k,o,p with
    | 0,o,p=>cases o; cases p; exact ⟨rfl,rfl,by first | exact .inl rfl | exact .inr rfl⟩
    | k+1,o,p=>cases o
  exact Eo (Iw (tM m (Wt (r rfl) rfl (JH (Bc (pv 0))) (λ_ _ _=>rT (mP m (Bc (pv 0)) (Bc (pv 1)))) (λ_ _ _=>Bc (pv 0))) (Ll Bq)))
 case h =>
  (intro G R x; obtain ⟨a,b,rfl,u⟩ := x)
  refine ⟨rfl,?_⟩
  array_get_dec
  refine xX (l:=a) (g:=Ax) rfl (λi=>decide (i∉b)) (λi=>.int i) (λi _ D I C B=>?_) ?_
  ·array_get_dec
   refine sR (λh=>?_) (λh=>?_)
   ·array_get_dec
    exact C (by simpa using h)
   ·exact B (by simpa using h)
  ·array_get_dec
   have e:((a.filter λi=>decide (i∉b)).map Ax).isEmpty=sub a b:=by
    rw[Bool.eq_iff_iff,List.isEmpty_iff,List.map_eq_nil_iff]
    exact xW
   rw[e]
   exact u
theorem jE:FnScope ["_law_draws_here", "_law_holes", "_law_limit", "_law_deck_here", "_law_k", "_law_card", "_law_pick", "_law_place"] ["_law_draws_here", "_law_holes", "_law_limit"] (Cf Tp):=⟨rfl,rfl,rfl,by decide +kernel,rfl,by decide +kernel,by decide +kernel⟩
theorem gR{f o j  : Addr}{fd t p:Dc}(F:Fun K "_law_deck" "_law_deck" Tp f fd)(r:FnOk P w K mg base La 1 o t ["_law_draws_here"] (rL K Yi))(y:Binds K t ["_law_draws_here"] [])(v:PySem.W.keepIn K (.ref o)=true)(u:mg "_law_next" = some (.ref o))(D:FnOk P w K mg base La 2 j p ["_law_draws_here", "_law_holes"] (rL K (tZ)))(G:Binds K p ["_law_draws_here", "_law_holes"] [])(B:PySem.W.keepIn K (.ref j)=true)(C:mg "_law_small" = some (.ref j))(Q:mg "range" = none)(M:mg "len" = none)(L:mg "sorted" = none)(T:mg "set" = none)(S:mg "tuple" = none):FnOk P w K mg base La 3 f fd ["_law_draws_here", "_law_holes", "_law_limit"] (rL K (x9)):=by
 refine' iN (k:=2) F jE (λk2 A h8 s H E hr=>?hb) ?h
 case hb =>
  have h4:Room 1 _:=hr.mono (by decide)
  have h5:Room 2 _:=hr.mono (by decide)
  have O:=hr.units
  exact Dd (aO (i:=3) jE.nd rfl (Dw rfl) (Ll Bq))
   (Dd (Nl Ex rfl (Lu rfl Q (Ba (Kf (Hz r h4 rfl u v y Ji (pv 0) Bq) (Yo (Bc (pv 2)) Cp)) Bq)) (Kr (i:=4) jE.nd rfl (Dw rfl))
   (Dd (Gg (i:=5) jE.nd rfl (Dw rfl) (Hz D h5 rfl C B G Ji (pv 0) (Ba (Bc (pv 1)) Bq)))
    (Dd (Gg (i:=6) jE.nd rfl (Dw rfl) (Hz r h4 rfl u v y Ji (pv 0) Bq))
    (Dd (Sn (N6 (yF (sS O (Bc (pv 3)) (Ll Bq)) (tE (cT O (Kf (Bc (pv 6)) Cp) Cp))))
    (Eo (Gg (i:=5) jE.nd rfl (Dw rfl) (Rw (Lk (Bc (pv 3)) (Kf (Vz (Bc (pv 6)) Cp) (Jk Tv cM rfl M (by decide +kernel) (Ba (Bc (pv 3)) Bq))))))) Nn)
    (Dd (Sn (N6 (yF (sS O (Bc (pv 3)) (Ll Bq)) (tE (cT O (Kf (Bc (pv 6)) Cp) Cp))))
    (Dd (Gg (i:=5) jE.nd rfl (Dw rfl) (Rw (Lk (Bc (pv 3)) (Kf (Vz (Bc (pv 6)) Cp) (Jk Tv cM rfl M (by decide +kernel) (Ba (Bc (pv 3)) Bq))))))
     (Dd (Gg (i:=7) jE.nd rfl (Dw rfl) (Kf (Vz (Bc (pv 6)) Cp) (Bc (pv 1))))
     (Eo (Gg (i:=5) jE.nd rfl (Dw rfl) (Ov bJ (bL (i:=true)) rfl S (by decide +kernel) (Ba (Y1 rfl rfl L rfl T (Ba (aG (Bc (pv 5)) (Rp (Ba (Rw (Bc (pv 7))) Bq))) Bq)) Bq)))))) Nn)
    (Eo (fU (pv 3) (Bc (pv 5)))))))))
   (Eo (Iw (iX (pv 3)))))
 case h =>
  (intro ds n R V; obtain ⟨h,m,rfl,h0,h1,m0,m1,hn,hR⟩ := V)
  refine ⟨rfl,?_⟩
  array_get_dec
  refine ⟨rfl,by omega,λr1=>?_⟩
  array_get_dec
  have bm:=Nm r1 (b:=m+1) (by omega)
  refine ⟨by omega,by omega,by omega,?_⟩
  refine Zu (l:=Cd (r1 % (m+1)).toNat) (g:=λi:Nat=>.int i) rfl (λi δ=>∃(d:List (List Int)) (v4 v5 v6 U:DV) (n':Nat),δ=⟨[.drw,.dat .sh (.int h),.dat .sh (.int m),.dat .ow (.list (d.map Br)),v4,v5,v6,U],n'⟩/\n'=n+1+2 * i/\d.length=i/\(∀c∈d,Gn h c)/\NP v4/\NP v5/\NP v6/\NP U) ?_ ?_ ?_
  ·exact ⟨[],_,_,_,_,_,rfl,rfl,rfl,λ_ z=>(nomatch z),Qg,Qg,Qg,Qg⟩
  ·(intro i a _ ha V; obtain ⟨d,v4,v5,v6,U,n1,rfl,k1,ld,hd,k0,h7,h6,J⟩ := V)
   obtain ⟨rfl,hi⟩:=Rg ha
   array_get_dec
   refine ⟨h,rfl,h0,by omega,by omega,λw h3=>?_⟩
   array_get_dec
   refine ⟨rfl,by omega,λr2=>?_⟩
   array_get_dec
   have X:∀q:Int,d≠[]->∃c∈d,Vp (d.map Br) (q % ((d.map Br).length:Int))=some (Br c):=λq I=>by
    have hl:0<d.length:=Lo.mpr I
    have bl:=Nm q (b:=((d.map Br).length:Int)) (by rw[Af]; omega)
    rw[Af] at bl ⊢
    exact vX bl.1 bl.2
   refine U0 (λP=>P0 _ _ _ P) (λδ=>∃(c:List Int),δ=⟨[.drw,.dat .sh (.int h),.dat .sh (.int m),.dat .ow (.list (d.map Br)),.dat .sh (.int a),.dat .sh (Br c),.dat .sh (.int r2),U],n1+1+1⟩/\Gn h c) (λN hN=>?_) ?_
   ·refine zJ (λY=>?_) (λY=>?_)
    ·have I:d≠[]:=λz=>by rw[z] at Y; cases Y
     array_get_dec
     refine Zk (λZ=>?_) (λZ=>?_)
     ·obtain ⟨c,hc,e⟩:=X (r2 / 3) I
      have hl:0<d.length:=Lo.mpr I
      array_get_dec
      rw[e]
      refine ⟨by rw[Af]; omega,Br c,rfl,?_⟩
      try array_get_dec
      exact hN _ ⟨c,rfl,hd c hc⟩
     ·array_get_dec
      exact hN _ ⟨w,rfl,h3⟩
    ·array_get_dec
     exact hN _ ⟨w,rfl,h3⟩
   ·(intro _ V; obtain ⟨c,rfl,rc⟩ := V)
    array_get_dec
    refine U0 (λP=>P0 _ _ _ P) (λδ=>∃(c:List Int) (U:DV),δ=⟨[.drw,.dat .sh (.int h),.dat .sh (.int m),.dat .ow (.list (d.map Br)),.dat .sh (.int a),.dat .sh (Br c),.dat .sh (.int r2),U],n1+1+1⟩/\Gn h c/\NP U) (λN hN=>?_) ?_
    ·refine zJ (λY=>?_) (λY=>?_)
     ·have I:d≠[]:=λz=>by rw[z] at Y; cases Y
      array_get_dec
      refine Zk (λZ=>?_) (λZ=>?_)
      ·obtain ⟨c2,h9,e⟩:=X (r2 / 3) I
       have hl:0<d.length:=Lo.mpr I
       have bh:=Nm (r2 / 300) h0
       have h2:=hd c2 h9
       have k3:=bK (h2.up (show h<=60 by omega))
       array_get_dec
       rw[e]
       refine ⟨by rw[Af]; omega,Br c2,rfl,?_⟩
       array_get_dec
       refine ⟨by omega,by rw[Af]; omega,c2++[r2 / 300 % h],by rw[Bh]; rfl,λx hx=>?_,?_⟩
       ·rcases Aw.mp hx with z | z
        ·have:=h2.2 x z; omega
        ·rw[Al.mp z]; omega
       ·try array_get_dec
        exact hN _ ⟨_,_,rfl,Vr h2 bh.1 bh.2,Jj⟩
      ·array_get_dec
       exact hN _ ⟨c,_,rfl,rc,J⟩
     ·array_get_dec
      exact hN _ ⟨c,_,rfl,rc,J⟩
    ·clear J
     (intro _ V; obtain ⟨c,U,rfl,rc,J⟩ := V)
     array_get_dec
     refine ⟨by simp [npk,J _],by rw[Af]; omega,?_⟩
     refine ⟨d++[c],_,_,_,_,_,Tu (by rw[Bh]; rfl) rfl,by omega,by rw[Bf,Fl]; omega,λx hx=>?_,Jj,Jj,Jj,J⟩
     rcases Aw.mp hx with z | z
     ·exact hd x z
     ·rw[Al.mp z]; exact rc
  ·(intro _ V; obtain ⟨d,v4,v5,v6,U,n1,rfl,k1,ld,hd,k0,h7,h6,J⟩ := V)
   rw[Dh] at k1 ld
   array_get_dec
   exact ⟨by omega,hR d _ (by omega) (by omega) (by omega) hd⟩
theorem nC:FnScope ["holes"] ["holes"] (Cf Rq):=⟨rfl,rfl,rfl,by decide +kernel,rfl,by decide +kernel,by decide +kernel⟩
theorem lQ{f a  : Addr}{y b:Dc}(F:Fun K "order_of" "order_of" Rq f y)(d:FnOk P w K mg base La 1 a b ["holes"] (cF K (aJ)))(g:Binds K b ["holes"] [])(i:PySem.W.keepIn K (.ref a)=true)(e:mg "all_words" = some (.ref a))(c:mg "enumerate" = none):FnOk P w K mg base La 2 f y ["holes"] (cF K (uE)):=by
 refine' Qf (k:=1) F nC (λq A m s H E x=>?hb) ?h
 case hb =>
  have t:Room 1 _:=x.mono (by decide)
  have o:=x.units
  have r:∀{j:Scope} (h:j={ kind:=.function,names:=[(".0",.local),("number",.local),("word",.local)],isGenerator:=false,isCoroutine:=false }),
    CompScope (Qo La P w K mg base ["holes"] "order_of" (Cf Rq) f q A m s H E).nox j [] "number" [] []:=by
   rintro j rfl
   exact Nd.compScope0 (by rfl) (by decide +kernel) (by rfl) (by decide +kernel) (by rfl) (by rfl)
  exact Eo (Iw (wV o (r rfl) (.inl rfl) (by decide +kernel) rfl (J4 rfl c (Ba (Om d t rfl e i g Ji (Ba (Bc (pv 0)) Bq)) Bq)) (λ_ _ _=>Nc) (λ_ _ _=>Bc (pv 1)) (λ_ _ _=>Bc (pv 0))))
 case h =>
  (intro N R C; obtain ⟨h,rfl,B,u,z⟩ := C)
  refine ⟨rfl,?_⟩
  array_get_dec
  refine ⟨h,rfl,B,u,λL v G=>?_⟩
  have J:=Tn v
  have M:=(Yu (n:=h.toNat) (by omega) v).1
  array_get_dec
  refine R5 (l:=L.zipIdx) (g1:=λp=>.int p.2) (g2:=λp=>Br p.1) (by rw[P6,Dn]; rfl) (by rw[Mi]; omega) (λp=>p.1) (λp=>.int p.2) (by rw[List.zipIdx_map_fst]; exact J) (λp _ I O D=>?_) ?_
  ·array_get_dec
   exact D
  ·array_get_dec
   exact z L v G
theorem vQ:FnScope ["numbers", "order", "place", "times"] ["numbers", "order", "place", "times"] (Cf Wu):=⟨rfl,rfl,rfl,by decide +kernel,rfl,by decide +kernel,by decide +kernel⟩
theorem vO{f a  : Addr}{Q b:Dc}(F:Fun K "put_to" "put_to" Wu f Q)(d:FnOk P w K mg base La 1 a b ["one", "other"] (cF K j9))(m:Binds K b ["one", "other"] [])(e:PySem.W.keepIn K (.ref a)=true)(g:mg "together" = some (.ref a))(u:mg "zip" = none):FnOk P w K mg base La 2 f Q ["numbers", "order", "place", "times"] (cF K (T1)):=by
 refine' Qf (k:=1) F vQ (λI A C s H E O=>?hb) ?h
 case hb =>
  have M:Room 1 _:=O.mono (by decide)
  have v:=O.units
  have J:∀{o:Scope} (h:o={ kind:=.function,names:=[(".0",.local),("word",.local),("number",.local),("together",.globalImplicit),("numbers",.free),("order",.free),("place",.free),("times",.free)],isGenerator:=false,isCoroutine:=false }),
    CompScope (Qo La P w K mg base ["numbers", "order", "place", "times"] "put_to" (Cf Wu) f I A C s H E).nox o [("times",s.heap.objs.size+4),("place",s.heap.objs.size+3),("order",s.heap.objs.size+2),("numbers",s.heap.objs.size+1)] "word" ["numbers", "order", "place", "times"] [0,1,2,3]:=by
   rintro o rfl
   refine ⟨by rfl,.inl (by decide +kernel),by rfl,by decide +kernel,.inl rfl,λy c h=>?_,by rfl,by decide +kernel,rfl,λk y j q r=>?_⟩
   ·have z:=Gw h
    simp only[An,Bd,or_false,Jr] at z
    rcases z with ⟨rfl,rfl⟩ | ⟨rfl,rfl⟩ | ⟨rfl,rfl⟩ | ⟨rfl,rfl⟩ <;> rfl
   ·match k,q,r with
    | 0,q,r=>cases q; cases r; exact ⟨rfl,rfl,by first | exact .inl rfl | exact .inr rfl⟩
    | 1,q,r=>cases q; cases r; exact ⟨rfl,rfl,by first | exact .inl rfl | exact .inr rfl⟩
    | 2,q,r=>cases q; cases r; exact ⟨rfl,rfl,by first | exact .inl rfl | exact .inr rfl⟩
    | 3,q,r=>cases q; cases r; exact ⟨rfl,rfl,by first | exact .inl rfl | exact .inr rfl⟩
    | k+4,q,r=>cases q
  exact Eo (Iw (yU (J rfl) (.inl rfl) (by decide +kernel) rfl (gW rfl u (Ba (Bc (pv 1)) (Ba (Bc (pv 0)) Bq))) (λ_ _ _=>Nc) (λ_ _ _=>CF (FZ v (Bc (pv 4)) (Bc (pv 0))) (Bc (pv 1)) (Yo (Bc (pv 1)) (q9 (Bc (pv 5)) (Lk (Bc (pv 2)) (aP v (Bc (pv 3)) (Om d M rfl g e m Ji (Ba (Bc (pv 0)) (Ba (Rp (Ba (Rw (Bc (pv 4))) Bq)) Bq))))))))))
 case h =>
  (intro ds R Z; obtain ⟨n,L,f,p,t,rfl,hn,pe,S,X,V,G⟩ := Z)
  refine ⟨rfl,?_⟩
  have N:=λw=>(Yk (w:=w) pe)
  unfold Yn uH
  array_get_dec
  rw[iC]
  refine X4 (l:=L) (g1:=Br) (g2:=λw=>.int (f w)) rfl (λ_=>true) (λw=>.int (Wz p t f w)) (λw U h0 no B _=>?_) ?_
  ·have B:=B rfl
   have D:=(N w).mp U
   unfold Wz at B
   array_get_dec
   refine DK (λh=>?_) (λh=>?_)
   ·array_get_dec
    rw[if_pos (of_decide_eq_true h)] at B
    exact B
   ·rw[if_neg (of_decide_eq_false h)] at B
    have Y:=Vr D S X
    obtain ⟨i,q,r⟩:=N7 ((N _).mpr Y)
    have e3:=BI (f:=f) q
    array_get_dec
    refine ⟨w,[p],rfl,D.up (by omega),⟨Ey _ _,λx T=>by rw[Al.mp T]; omega⟩,?_⟩
    array_get_dec
    refine ⟨_,r,?_⟩
    array_get_dec
    refine ⟨_,e3,?_⟩
    have ct:zI t (f (Ol (w++[p]))):=by rcases V with rfl | rfl <;> exact .inl ⟨by decide,by decide⟩
    array_get_dec
    exact ⟨ct,B⟩
  ·rw[xQ.mpr λ_ _=>rfl]
   array_get_dec
   unfold Yn at G
   rw[Dn] at G
   exact G
theorem gS:FnScope ["order", "numbers", "places", "told", "place"] ["order", "numbers", "places"] (Cf Te):=⟨rfl,rfl,rfl,by decide +kernel,rfl,by decide +kernel,by decide +kernel⟩
theorem jT{f a  : Addr}{y b:Dc}(F:Fun K "parted_by" "parted_by" Te f y)(d:FnOk P w K mg base La 2 a b ["numbers", "order", "place", "times"] (cF K (T1)))(c:Binds K b ["numbers", "order", "place", "times"] [])(j:PySem.W.keepIn K (.ref a)=true)(e:mg "put_to" = some (.ref a)):FnOk P w K mg base La 3 f y ["order", "numbers", "places"] (HF K (kW)):=by
 refine' zZ (k:=2) F gS (λB A t s H E r=>?hb) ?h
 case hb =>
  have J:Room 1 _:=r.mono (by decide)
  have p:Room 2 _:=r.mono (by decide)
  have z:=r.units
  exact Dd (Gg (i:=3) gS.nd rfl (Dw rfl) (Bc (pv 1)))
   (Dd (Nl Ex rfl (JH (Bc (pv 2))) (Kr (i:=4) gS.nd rfl (Dw rfl))
   (Eo (Gg (i:=3) gS.nd rfl (Dw rfl) (Om d p rfl e j c Ji (Ba (Bc (pv 3)) (Ba (Bc (pv 0)) (Ba (Bc (pv 4)) (Ba (oV Cp) Bq))))))))
   (Eo (Iw (Bc (pv 3)))))
 case h =>
  (intro N R m; obtain ⟨n,L,f,Q,rfl,G,I,D,C⟩ := m)
  refine ⟨rfl,?_⟩
  array_get_dec
  refine Zu (l:=Q) (g:=Ax) rfl (λi M=>∃(o:DV),M=⟨[.dat .sh (uH L),.dat .sh (Yn L f),.dat .sh (Br Q),.dat .sh (Yn L (Lr (Q.take i) f)),o],0⟩/\NP o) ?_ ?_ ?_
  ·exact ⟨_,rfl,Qg⟩
  ·(intro i q _ x m; obtain ⟨o,rfl,u⟩ := m)
   have v:=D q (Be x)
   array_get_dec
   refine ⟨n,L,Lr (Q.take i) f,q,-1,rfl,G,I,v.1,v.2,.inr rfl,?_⟩
   try array_get_dec
   refine ⟨.dat .sh (.int q),Tu ?_ rfl,Jj⟩
   rw[Gs x,Yl]
  ·(intro _ m; obtain ⟨o,rfl,u⟩ := m)
   rw[Ff]
   array_get_dec
   exact C
end
def Ld(L:List (List Int))(c:List Int->Int):List Ae:=L.flatMap λw=>Bz (c w).toNat (Br w)
def oR:PF:=λa R=>∃(h:Int) (L:List (List Int)) (f:List Int->Int),a=[.int h,Yn L f]/\0<=h/\h<=10/\L.Perm (Ee h.toNat)/\Ord L /\
 ((∀w∈L,0<=Lr (Pe h.toNat) f w)->(Ld L (Lr (Pe h.toNat) f)).length<=10000/\R (.tuple [.str (Dq "deck"),.list (Ld L (Lr (Pe h.toNat) f))])) /\
 ∀w∈L,Lr (Pe h.toNat) f w<0->R (.tuple [.str (Dq "never"),Br w])
section
variable{P:Bl}{w:World}{K:PySem.W.Frag}{mg:Str->Option Value}{base:Heap}
theorem qA:FnScope ["holes", "numbers", "order", "many", "word", "cards"] ["holes", "numbers"] (Cf Uu):=⟨rfl,rfl,rfl,by decide +kernel,rfl,by decide +kernel,by decide +kernel⟩
theorem rJ{f d a  : Addr}{fd j e:Dc}(F:Fun K "deck_of" "deck_of" Uu f fd)(B:FnOk P w K mg base La 2 d j ["holes"] (cF K (uE)))(C:Binds K j ["holes"] [])(u:PySem.W.keepIn K (.ref d)=true)(v:mg "order_of" = some (.ref d))(t:FnOk P w K mg base La 3 a e ["order", "numbers", "places"] (HF K (kW)))(o:Binds K e ["order", "numbers", "places"] [])(r:PySem.W.keepIn K (.ref a)=true)(p:mg "parted_by" = some (.ref a))(I:mg "tuple" = none)(m:mg "range" = none)(G:mg "zip" = none):FnOk P w K mg base La 4 f fd ["holes", "numbers"] (cF K (oR)):=by
 refine' Qf (k:=3) F qA (λY A M s H E T=>?hb) ?h
 case hb =>
  have h8:Room 1 _:=T.mono (by decide)
  have V:Room 2 _:=T.mono (by decide)
  have h1:Room 3 _:=T.mono (by decide)
  have h5:=T.units
  have h2:∀{D:Scope} (h:D={ kind:=.function,names:=[(".0",.local),("word",.local),("cards",.local),("card",.local),("range",.globalImplicit)],isGenerator:=false,isCoroutine:=false }),
    CompScope (Qo La P w K mg base ["holes", "numbers", "order", "many", "word", "cards"] "deck_of" (Cf Uu) f Y A M s H E).nox D [] "word" [] []:=by
   rintro D rfl
   exact Nd.compScope0 (by rfl) (by decide +kernel) (by rfl) (by decide +kernel) (by rfl) (by rfl)
  exact Dd (Gg (i:=2) qA.nd rfl (Dw rfl) (Om B V rfl v u C Ji (Ba (Bc (pv 0)) Bq)))
   (Dd (Gg (i:=3) qA.nd rfl (Dw rfl) (x6 t h1 rfl p r o Ji (Ba (Bc (pv 2)) (Ba (Bc (pv 1)) (Ba (xI rfl rfl I rfl m (Bc (pv 0))) Bq)))))
   (Dd (Nl Ex rfl (gW rfl G (Ba (Bc (pv 2)) (Ba (Bc (pv 3)) Bq))) (AI (n:=2) rfl (nE (Kr (i:=4) qA.nd rfl (Dw rfl)) (nE (Kr (i:=5) qA.nd rfl (Dw rfl)) E9)))
   (Eo (Sn (T3 (Bc (pv 5)) Cp)
    (Eo (Iw (Rp (Ba aZ (Ba (Rw (Bc (pv 4))) Bq))))) Nn)))
   (Eo (Iw (Rp (Ba aZ (Ba (j7 (b:=true) (h2 rfl) (.inl rfl) (.inl rfl) (by decide +kernel) rfl (gW rfl G (Ba (Bc (pv 2)) (Ba (Bc (pv 3)) Bq))) (λ_ _ _=>Lu rfl m (Ba (Bc (pv 1)) Bq)) (λ_ _ _=>Bc (pv 0))) Bq)))))))
 case h =>
  (intro ds R O; obtain ⟨h,L,f,rfl,h0,h4,pe,po,hD,hN⟩ := O)
  refine ⟨rfl,?_⟩
  have en:((h.toNat:Nat):Int)=h:=by omega
  array_get_dec
  refine ⟨h,rfl,h0,h4,λJ Z h3=>?_⟩
  obtain rfl:J=L:=lI (Z.trans pe.symm) h3 po
  array_get_dec
  refine ⟨h0,by omega,?_⟩
  array_get_dec
  refine ⟨h.toNat,J,f,Pe h.toNat,rfl,by omega,pe,λq hq=>?_,?_⟩
  ·unfold Pe at hq
   obtain ⟨k,hk,rfl⟩:=Df.mp hq
   have:=Ky.mp hk
   omega
  generalize Lr (Pe h.toNat) f=c at hD hN
  unfold uH Yn
  array_get_dec
  rw[iC]
  refine Zu (l:=J) (g:=λw=>.tuple [Br w,.int (c w)]) rfl (λi δ=>∃(X v5:DV),δ=⟨[.dat .sh (.int h),.dat .sh (.list ((J.map f).map Ax)),.dat .sh (.dict (Ou (A7 J))),.dat .sh (.list ((J.map c).map Ax)),X,v5],0⟩/\∀w∈J.take i,0<=c w) ?_ ?_ ?_
  ·exact ⟨_,_,rfl,λ_ z=>(nomatch z)⟩
  ·(intro i w _ N O; obtain ⟨X,v5,rfl,S⟩ := O)
   array_get_dec
   refine Zk (λU=>?_) (λU=>?_)
   ·array_get_dec
    exact hN w (Be N) (of_decide_eq_true U)
   ·array_get_dec
    refine ⟨_,_,rfl,λx hx=>?_⟩
    rw[Gs N] at hx
    rcases Aw.mp hx with z | z
    ·exact S x z
    ·rw[Al.mp z]
     have:=of_decide_eq_false U
     omega
  ·(intro _ O; obtain ⟨X,v5,rfl,S⟩ := O)
   rw[Ff] at S
   obtain ⟨hl,hR⟩:=hD S
   array_get_dec
   rw[iC]
   refine FD (l:=J) (g1:=Br) (g2:=λw=>.int (c w)) rfl (λw=>Bz (c w).toNat (Br w)) (kE (Cg hl (by decide))) (λw N h9 h6 hz hf=>?_) ?_
   ·have c0:=S w N
    have c1:(c w).toNat<=10000:=by
     obtain ⟨i,hi⟩:=uG.mp N
     have:=lF (λw=>Bz (c w).toNat (Br w)) hi
     rw[Hx] at this
     unfold Ld at hl
     omega
    array_get_dec
    refine ⟨by omega,by omega,II (l:=Cd (c w).toNat) (g:=λi:Nat=>.int i) rfl (λ_=>Br w) (by rw[Dh]; rw[Hx] at hz; exact hz) (λy hy h7 Q=>?_) ?_⟩
    ·show Ph My _ _ _ _
     array_get_dec
     exact Q
    ·rw[List.map_const',Dh]
     exact hf
   ·array_get_dec
    exact ⟨_,rfl,hR⟩
end
def CT(L:List (List Int)):Ae:=.list (L.map Br)
def mI:PF:=λa R=>∃(h:Int) (L:List (List Int)) (f:List Int->Int),a=[CT L,Yn L f,.int h]/\0<=h/\h<=10/\L.Perm (Ee h.toNat)/\R (.dict (Ou (Pv L (Lr (Pe h.toNat) f))))
theorem vC{n:Int}{w:List Int}{p:Int}(r:Gn n w)(e:p∉w):cJ (w++[p])=Ol (w++[p]):=by
 have c:(Ol (w++[p])).Pairwise (· < ·):=Qy _
 have i:(Ol (w++[p])).Nodup:=c.imp λh=>aV h
 have f:(w++[p]).Nodup:=He.mpr ⟨xY r,by simp,λa g b d=>by rw[Al.mp d]; rintro rfl; exact e g⟩
 exact (lC ((List.perm_ext_iff_of_nodup i f).mpr λa=>bN) (c.imp λh=>Int.le_of_lt h)).symm
theorem o6{a:Type}{L:List a}{j:Nat}{w:a}(b:L.Nodup)(h:L[j]? = some w):w∉L.take j:=by
 have n:=b.sublist (Io (j+1) L)
 rw[Gs h,List.nodup_append] at n
 exact λz=>n.2.2 w z w Ab rfl
theorem vW{p:Int}{g:List Int->Int}{T:List (List Int)}{w:List Int}(hw:w∉T)(a:p∉w):(λv=>if v=w then Mm p g T w - Mm p g T (Ol (w++[p])) else Mm p g T v)=Mm p g (T++[w]):=by
 funext v
 by_cases e:v=w
 ·subst e
  rw[if_pos rfl,F9 (w:=Ol (v++[p])) (HE.mpr (.inr rfl))]
  unfold Mm
  rw[if_neg hw,if_pos (Ag _ Ab)]
  unfold Wz
  rw[if_neg a]
  omega
 ·rw[if_neg e]
  unfold Mm
  by_cases z:v∈T
  ·rw[if_pos z,if_pos (Ak _ z)]
  ·rw[if_neg z,if_neg λq=>(Aw.mp q).elim z λq=>e (Al.mp q)]
theorem vH{p:Int}{g:List Int->Int}{T:List (List Int)}{w:List Int}(a:p∈w):Mm p g T=Mm p g (T++[w]):=by
 funext v
 unfold Mm
 by_cases z:v∈T
 ·rw[if_pos z,if_pos (Ak _ z)]
 ·rw[if_neg z]
  by_cases e:v=w
  ·subst e
   rw[if_pos (Ag _ Ab)]
   unfold Wz
   rw[if_pos a]
  ·rw[if_neg λq=>(Aw.mp q).elim z λq=>e (Al.mp q)]
section
variable{P:Bl}{w:World}{K:PySem.W.Frag}{mg:Str->Option Value}{base:Heap}
theorem Zv:FnScope ["_law_words_here", "_law_numbers_here", "_law_holes", "_law_told", "_law_place", "_law_word"] ["_law_words_here", "_law_numbers_here", "_law_holes"] (Cf Pa):=⟨rfl,rfl,rfl,by decide +kernel,rfl,by decide +kernel,by decide +kernel⟩
theorem Zz{f   : Addr}{N  : Dc}(F:Fun K "_law_just_so" "_law_just_so" Pa f N)(o:mg "dict" = none)(r:mg "zip" = none)(e:mg "range" = none)(d:mg "sorted" = none)(m:mg "tuple" = none):FnOk P w K mg base La 1 f N ["_law_words_here", "_law_numbers_here", "_law_holes"] (cF K (mI)):=by
 refine' Qf (k:=0) F Zv (λS A D s H E V=>?hb) ?h
 case hb =>
  have b:=V.units
  exact Dd (aO (i:=3) Zv.nd rfl (Dw rfl) (zF b rfl o rfl r rfl (Ba (Bc (pv 0)) (Ba (Bc (pv 1)) Bq))))
   (Dd (Nl Ex rfl (Lu rfl e (Ba (Bc (pv 2)) Bq)) (Kr (i:=4) Zv.nd rfl (Dw rfl))
   (Eo (Nl Ex rfl (E1 (Bc (pv 0))) (Kr (i:=5) Zv.nd rfl (Dw rfl))
    (Eo (Sn (mP b (Bc (pv 4)) (Bc (pv 5)))
     (Eo (Q5 b (pv 3) (Bc (pv 5)) (pM (aP b (Bc (pv 3)) (Bc (pv 5))) (aP b (Bc (pv 3)) (Ov bJ (bL (i:=true)) rfl m (by decide +kernel) (Ba (Jk jN zT rfl d (by decide +kernel) (Ba (aG (Bc (pv 5)) (Rp (Ba (Rw (Bc (pv 4))) Bq))) Bq)) Bq)))))) Nn)))))
   (Eo (Iw (iX (pv 3)))))
 case h =>
  (intro ds R q; obtain ⟨h,L,f,rfl,h0,Z,J,T⟩ := q)
  refine ⟨rfl,?_⟩
  have O:=Tn J
  have ll:=(Yu (n:=h.toNat) (by omega) J).1
  have M:=λw=>(Yk (w:=w) J)
  unfold CT Yn
  array_get_dec
  refine ⟨by rw[Af]; omega,L,rfl,by omega,by omega,?_⟩
  rw[i6 O f]
  refine Zu (l:=Cd h.toNat) (g:=λi:Nat=>.int i) rfl (λi I=>∃(B p:DV),I=⟨[.dat .sh (.list (L.map Br)),.dat .sh (.list ((L.map f).map Ax)),.dat .sh (.int h),.dat .ow (.dict (Ou (Pv L (Lr (Pe i) f)))),B,p],0⟩/\NP B/\NP p) ?_ ?_ ?_
  ·exact ⟨_,_,rfl,Qg,Qg⟩
  ·(intro i a _ Y q; obtain ⟨B,p,rfl,G,c⟩ := q)
   obtain ⟨rfl,hi⟩:=Rg Y
   array_get_dec
   rw[fY,Yl]
   generalize Lr (Pe a) f=g
   refine Zu (l:=L) (g:=Br) rfl (λj I=>∃(p:DV),I=⟨[.dat .sh (.list (L.map Br)),.dat .sh (.list ((L.map f).map Ax)),.dat .sh (.int h),.dat .ow (.dict (Ou (Pv L (Mm a g (L.take j))))),.dat .sh (.int a),p],0⟩/\NP p) ?_ ?_ ?_
   ·refine ⟨_,Tu ?_ rfl,c⟩
    rw[show Mm (a:Int) g (L.take 0)=g by funext v; unfold Mm; rw[if_neg (λz=>nomatch z)]]
   ·clear c
    (intro j w _ u q; obtain ⟨p,rfl,c⟩ := q)
    have C:=Be u
    have t:=(M w).mp C
    have U:(a:Int)∉w->Gn (h.toNat:Int) (Ol (w++[(a:Int)])):=λ_=>Vr t (by omega) (by omega)
    have lw:=bK (t.up (show ((h.toNat:Nat):Int)<=60 by omega))
    have Q:w∉L.take j:=o6 O u
    have X:=Xe (f:=Mm a g (L.take j)) C
    array_get_dec
    refine Zk (λx=>?_) (λx=>?_)
    ·have y:(a:Int)∉w:=λz=>by rw[decide_eq_true z] at x; cases x
     have W:=Xe (f:=Mm a g (L.take j)) ((M _).mpr (U y))
     array_get_dec
     refine ⟨_,X,by rw[Af]; omega,w++[(a:Int)],by rw[Bh]; rfl,by rw[Bf,Fl]; omega,_,by rw[vC t y]; exact W,?_⟩
     array_get_dec
     refine ⟨by unfold Pv; rw[Af]; omega,?_⟩
     refine ⟨.dat .sh (Br w),Tu ?_ rfl,Jj⟩
     rw[M5 C,vW Q y,Gs u]
    ·have y:(a:Int)∈w:=of_decide_eq_true (by rw[Qt] at x; exact x)
     array_get_dec
     refine ⟨.dat .sh (Br w),Tu ?_ rfl,Jj⟩
     rw[Gs u,<- vH y]
   ·clear c
    (intro _ q; obtain ⟨p,rfl,c⟩ := q)
    rw[Ff]
    refine ⟨.dat .sh (.int a),p,Tu ?_ rfl,Jj,c⟩
    rw[qI (f:=Mm a g L) (g:=Wz a (-1) g) λw u=>by unfold Mm; rw[if_pos u]]
  ·(intro _ q; obtain ⟨B,p,rfl,G,c⟩ := q)
   rw[Dh]
   array_get_dec
   exact T
end
def U2(L:List (List Int))(c:List Int->Int):List (List Int):=L.flatMap λw=>Bz (c w).toNat w
theorem nU(L:List (List Int))(c:List Int->Int):Ld L c=(U2 L c).map Br:=by
 unfold Ld U2
 rw[List.map_flatMap]
 congr 1
 funext w
 rw[Zc]
theorem oH{b:Type}(a:b):∀n:Nat,(Bz n [a]).flatten=Bz n a
 | 0=>rfl
 | n+1=>by rw[Gi,Iq,oH a n]; rfl
def FV(L:List (List Int))(c:List Int->Int)(t:Ae):Prop:=(∃w∈L,c w<0/\t=.tuple [.str (Dq "never"),Br w])\/((∀w∈L,0<=c w)/\(Ld L c).length<=10000/\t=.tuple [.str (Dq "deck"),.list (Ld L c)])
def tX:PF:=λa R=>∃(L:List (List Int)) (c:List Int->Int) (t:Ae),a=[CT L,t,.dict (Ou (Pv L c))]/\L≠[]/\L.length<=1024/\FV L c t/\R (.bool true)
section
variable{P:Bl}{w:World}{K:PySem.W.Frag}{mg:Str->Option Value}{base:Heap}
theorem dZ:FnScope ["_law_words_here", "_law_told", "_law_just_so_here", "_law_due", "_law_word"] ["_law_words_here", "_law_told", "_law_just_so_here"] (Cf Si):=⟨rfl,rfl,rfl,by decide +kernel,rfl,by decide +kernel,by decide +kernel⟩
theorem dS{f   : Addr}{I  : Dc}(F:Fun K "_law_right" "_law_right" Si f I)(o:mg "len" = none)(e:mg "tuple" = none)(a:mg "isinstance" = none)(m:mg "min" = none)(j:mg "list" = none):FnOk P w K mg base La 1 f I ["_law_words_here", "_law_told", "_law_just_so_here"] (cF K (tX)):=by
 refine' Qf (k:=0) F dZ (λN A v s H E S=>?hb) ?h
 case hb =>
  have b:=S.units
  exact Dd (Sn (N6 (U1 (j8 (qT (Jk pB qK rfl a (by decide +kernel) (Ba (Bc (pv 1)) (Ba (w5 (n := "tuple") rfl e (by decide +kernel)) Bq))))) (zR (sS b (Jk Tv cM rfl o (by decide +kernel) (Ba (Bc (pv 1)) Bq)) Cp))))
   (Eo (Iw B0)) Nn)
   (Dd (Sn (T3 (P5 rfl m rfl (Bc (pv 2))) Cp)
   (Eo (Iw (jB (tM b (Lk (Bc (pv 1)) Cp) aZ) (jB (Jk pB qK rfl a (by decide +kernel) (Ba (Lk (Bc (pv 1)) Cp) (Ba (w5 (n := "tuple") rfl e (by decide +kernel)) Bq))) (i8 (GQ (O3 b (Bc (pv 2)) (Lk (Bc (pv 1)) Cp) Cp ⟨rfl,rfl,rfl,rfl⟩) Cp)))))) Nn)
   (Dd (Gg (i:=3) dZ.nd rfl (Dw rfl) (Ll Bq))
   (Dd (Nl Ex rfl (E1 (Bc (pv 0))) (Kr (i:=4) dZ.nd rfl (Dw rfl))
   (Eo (Gg (i:=3) dZ.nd rfl (Dw rfl) (cW (Bc (pv 3)) (X7 (Ll (Ba (Rw (Bc (pv 4))) Bq)) (aP b (Bc (pv 2)) (Bc (pv 4))))))))
   (Eo (Iw (jB (tM b (Lk (Bc (pv 1)) Cp) aZ) (jB (Jk pB qK rfl a (by decide +kernel) (Ba (Lk (Bc (pv 1)) Cp) (Ba (w5 (n := "list") rfl j (by decide +kernel)) Bq))) (i8 (tM b (Lk (Bc (pv 1)) Cp) (Bc (pv 3)))))))))))
 case h =>
  (intro Y R q; obtain ⟨L,c,t,rfl,B,V,O,D⟩ := q)
  refine ⟨rfl,?_⟩
  unfold CT
  rcases O with ⟨w,p,cw,rfl⟩ | ⟨z,W,rfl⟩
  ·array_get_dec
   refine ⟨sM B,L.map c,fK L c,λM G J=>?_⟩
   array_get_dec
   have : M<0:=Int.lt_of_le_of_lt (J _ (Xs p)) cw
   have y:=Xe (f:=c) p
   rw[decide_eq_true this]
   array_get_dec
   rw[y]
   show ∃d,DV.dat .ow (.bool (decide (c w<0)))=.dat .ow d/\R d
   refine ⟨_,rfl,?_⟩
   rw[decide_eq_true cw]
   exact D
  ·array_get_dec
   refine ⟨sM B,L.map c,fK L c,λM G J=>?_⟩
   array_get_dec
   obtain ⟨Q,u,rfl⟩:=Df.mp G
   rw[decide_eq_false (Int.not_lt.mpr (z Q u))]
   array_get_dec
   refine Zu (l:=L) (g:=Br) rfl (λi U=>∃r:DV,U=⟨[.dat .sh (.list (L.map Br)),.dat .sh (.tuple [.str (Dq "deck"),.list (Ld L c)]),.dat .sh (.dict (Ou (Pv L c))),.dat .sh (.list (Ld (L.take i) c)),r],0⟩/\NP r) ?_ ?_ ?_
   ·exact ⟨_,rfl,Qg⟩
   ·(intro i w _ C q; obtain ⟨r,rfl,x⟩ := q)
    have p:=Be C
    have y:=Xe (f:=c) p
    have X:=z w p
    have em:Ld (L.take (i+1)) c=Ld (L.take i) c++Bz (c w).toNat (Br w):=by
     unfold Ld
     rw[Gs C,Lp]
     simp
    have T:(Ld (L.take (i+1)) c).length<=(Ld L c).length:=by
     have:=congrArg Ft (show Ld (L.take (i+1)++L.drop (i+1)) c=Ld (L.take (i+1)) c++Ld (L.drop (i+1)) c by unfold Ld; rw[Lp])
     rw[Fj,Bf] at this
     omega
    array_get_dec
    refine ⟨_,y,?_⟩
    rw[em,Bf,Hx] at T
    array_get_dec
    rw[oH]
    refine ⟨by omega,by omega,by omega,by rw[nU]; exact Pg _,by rw[<- Zc]; exact Pg _,by rw[Hx]; omega,.dat .sh (Br w),Tu ?_ rfl,Jj⟩
    rw[em]
   ·(intro _ q; obtain ⟨r,rfl,x⟩ := q)
    rw[Ff]
    array_get_dec
    rw[nU]
    refine ⟨dp,dp,?_⟩
    rw[BO,decide_eq_true rfl]
    exact D
end
theorem wJ{a:Type}(xs:List a)(k:Nat):Pt xs (some (k:Int)) none=xs.drop k:=by
 unfold Pt
 rw[HT.sIx_none,HT.sIx_nat]
 by_cases h:k<=xs.length
 ·rw[Nat.min_eq_left h,Js (by rw[Nt]; exact Aj _)]
 ·rw[Nat.min_eq_right (by omega),rO (by omega),rO (by omega),List.take_nil]
def fO:DF:=λd n R=>∃(L a:List (List Int)),d=[CT L,.list (a.map Br)]/\L≠[]/\L.length<=1024/\a.length<=60/\n<=50000/\∀(c:List Int) b,n<=b->b<=n+2000->c.length=L.length->(∀x∈c,-1000<=x/\x<=1000)->R (.list (c.map Ax)) b
section
variable{P:Bl}{w:World}{K:PySem.W.Frag}{mg:Str->Option Value}{base:Heap}
theorem Zw:FnScope ["_law_draws_here", "_law_words_here", "_law_deck_here", "_law_due", "_law_way", "_law_turn", "_law_at"] ["_law_draws_here", "_law_words_here", "_law_deck_here"] (Cf Gp):=⟨rfl,rfl,rfl,by decide +kernel,rfl,by decide +kernel,by decide +kernel⟩
theorem aA{f B C  : Addr}{fd M J:Dc}(F:Fun K "_law_numbers" "_law_numbers" Gp f fd)(r:FnOk P w K mg base La 1 B M ["_law_draws_here"] (rL K Yi))(u:Binds K M ["_law_draws_here"] [])(e:PySem.W.keepIn K (.ref B)=true)(t:mg "_law_next" = some (.ref B))(U:FnOk P w K mg base La 1 C J ["_law_one", "_law_other"] (cF K (C5)))(T:Binds K J ["_law_one", "_law_other"] [])(V:PySem.W.keepIn K (.ref C)=true)(Y:mg "_law_lies" = some (.ref C))(S:mg "len" = none)(X:mg "range" = none)(h2:mg "int" = none):FnOk P w K mg base La 2 f fd ["_law_draws_here", "_law_words_here", "_law_deck_here"] (rL K (fO)):=by
 refine' iN (k:=1) F Zw (λh0 A G s H E hr=>?hb) ?h
 case hb =>
  have N:Room 1 _:=hr.mono (by decide)
  have h1:=hr.units
  have h5:∀{d:Scope} (h:d={ kind:=.function,names:=[(".0",.local),("_law_word",.cell),("len",.globalImplicit),("_law_deck_here",.free)],isGenerator:=false,isCoroutine:=false }),
    CompScope (Qo La P w K mg base ["_law_draws_here", "_law_words_here", "_law_deck_here", "_law_due", "_law_way", "_law_turn", "_law_at"] "_law_numbers" (Cf Gp) f h0 A G s H E).nox d [("_law_deck_here",s.heap.objs.size+2)] "_law_word" ["_law_deck_here"] [2]:=by
   rintro d rfl
   refine ⟨by rfl,.inr ⟨"_law_word",λ_=>rfl,rfl,by decide +kernel⟩,by rfl,by decide +kernel,.inr rfl,λy c h=>?_,by rfl,by decide +kernel,rfl,λk y j D I=>?_⟩
   ·have z:=Gw h
    simp only[An,Bd,or_false,Jr] at z
    obtain ⟨rfl,rfl⟩:=z; rfl
   ·match k,D,I with
    | 0,D,I=>cases D; cases I; exact ⟨rfl,rfl,by first | exact .inl rfl | exact .inr rfl⟩
    | k+1,D,I=>cases D
  have h8:∀{d:Scope} (h:d={ kind:=.function,names:=[(".0",.local),("_law_card",.local),("_law_lies",.globalImplicit),("_law_word",.free)],isGenerator:=false,isCoroutine:=false }) (h3:List Addr) (s0:Ai) (H0:Hp),
    CompScope (Dm (Qo La P w K mg base ["_law_draws_here", "_law_words_here", "_law_deck_here", "_law_due", "_law_way", "_law_turn", "_law_at"] "_law_numbers" (Cf Gp) f h0 A G s H E).nox { kind:=.function,names:=[(".0",.local),("_law_word",.cell),("len",.globalImplicit),("_law_deck_here",.free)],isGenerator:=false,isCoroutine:=false } [("_law_deck_here",s.heap.objs.size+2)] ["_law_word", "_law_deck_here"] h3 s0 H0) d [("_law_word",s0.heap.objs.size+1)] "_law_card" ["_law_word"] [0]:=by
   rintro d rfl h3 s0 H0
   refine ⟨by rfl,.inl (by decide +kernel),by rfl,by decide +kernel,.inl rfl,λy c h=>?_,by rfl,by decide +kernel,rfl,λk y j D I=>?_⟩
   ·have z:=Gw h
    simp only[An,Bd,or_false,Jr] at z
    obtain ⟨rfl,rfl⟩:=z; rfl
   ·match k,D,I with
    | 0,D,I=>cases D; cases I; exact ⟨rfl,rfl,by first | exact .inl rfl | exact .inr rfl⟩
    | k+1,D,I=>cases D
  have h6:∀{d:Scope} (h:d={ kind:=.function,names:=[(".0",.local),("_law_word",.local),("_law_next",.globalImplicit),("_law_draws_here",.free)],isGenerator:=false,isCoroutine:=false }),
    CompScope (Qo La P w K mg base ["_law_draws_here", "_law_words_here", "_law_deck_here", "_law_due", "_law_way", "_law_turn", "_law_at"] "_law_numbers" (Cf Gp) f h0 A G s H E).nox d [("_law_draws_here",s.heap.objs.size+1)] "_law_word" ["_law_draws_here"] [0]:=by
   rintro d rfl
   refine ⟨by rfl,.inl (by decide +kernel),by rfl,by decide +kernel,.inl rfl,λy c h=>?_,by rfl,by decide +kernel,rfl,λk y j D I=>?_⟩
   ·have z:=Gw h
    simp only[An,Bd,or_false,Jr] at z
    obtain ⟨rfl,rfl⟩:=z; rfl
   ·match k,D,I with
    | 0,D,I=>cases D; cases I; exact ⟨rfl,rfl,by first | exact .inl rfl | exact .inr rfl⟩
    | k+1,D,I=>cases D
  have k6:∀{d:Scope} (h:d={ kind:=.function,names:=[(".0",.local),("_law_word",.local),("_law_next",.globalImplicit),("_law_draws_here",.free)],isGenerator:=false,isCoroutine:=false }),
    CompScope (Qo La P w K mg base ["_law_draws_here", "_law_words_here", "_law_deck_here", "_law_due", "_law_way", "_law_turn", "_law_at"] "_law_numbers" (Cf Gp) f h0 A G s H E).nox d [("_law_draws_here",s.heap.objs.size+1)] "_law_word" ["_law_draws_here"] [0]:=by
   rintro d rfl
   refine ⟨by rfl,.inl (by decide +kernel),by rfl,by decide +kernel,.inl rfl,λy c h=>?_,by rfl,by decide +kernel,rfl,λk y j D I=>?_⟩
   ·have z:=Gw h
    simp only[An,Bd,or_false,Jr] at z
    obtain ⟨rfl,rfl⟩:=z; rfl
   ·match k,D,I with
    | 0,D,I=>cases D; cases I; exact ⟨rfl,rfl,by first | exact .inl rfl | exact .inr rfl⟩
    | k+1,D,I=>cases D
  have k4:∀{d:Scope} (h:d={ kind:=.function,names:=[(".0",.local),("_law_word",.local)],isGenerator:=false,isCoroutine:=false }),
    CompScope (Qo La P w K mg base ["_law_draws_here", "_law_words_here", "_law_deck_here", "_law_due", "_law_way", "_law_turn", "_law_at"] "_law_numbers" (Cf Gp) f h0 A G s H E).nox d [] "_law_word" [] []:=by
   rintro d rfl
   exact Nd.compScope0 (by rfl) (by decide +kernel) (by rfl) (by decide +kernel) (by rfl) (by rfl)
  exact Dd (Q8 (o:=true) (i0:=3) Zw.nd rfl rfl (h5 rfl) rfl (E1 (Bc (pv 1))) (λ_ _ _=>Nc) (λ_ _ _=>Jk Tv cM rfl S (by decide +kernel) (Ba (Wt (h8 rfl _ _ _) rfl (E1 (Bc (pv 1))) (λ_ _ _=>rT (qT (Om U N rfl Y V T Ji (Ba (Bc (pv 1)) (Ba (Bc (pv 0)) Bq))))) (λ_ _ _=>Bc (pv 0))) Bq)))
   (Dd (Gg (i:=4) Zw.nd rfl (Dw rfl) (Kf (Hz r N rfl t e u Ji (pv 0) Bq) Cp))
   (Dd (Nl Ex rfl (Lu rfl X (Ba (Lk (Ll (Ba Cp (Ba Cp (Ba Cp (Ba Cp (Ba Cp (Ba Cp (Ba Cp (Ba Cp (Ba Cp Bq)))))))))) (Bc (pv 4))) Bq)) (Kr (i:=5) Zw.nd rfl (Dw rfl))
   (Dd (Gg (i:=6) Zw.nd rfl (Dw rfl) (q9 (Kf (Hz r N rfl t e u Ji (pv 0) Bq) (Jk Tv cM rfl S (by decide +kernel) (Ba (Bc (pv 1)) Bq))) (Ov fF zE rfl h2 (by decide +kernel) (Ba (S9 (Kf (Hz r N rfl t e u Ji (pv 0) Bq) Cp) Cp) Bq))))
    (Eo (R4 (pv 3) (Bc (pv 6)) (Yo (Lk (Bc (pv 3)) (Bc (pv 6))) (Lk (Ll (Ba Cp (Ba (oV Cp) (Ba Cp (Ba (oV Cp) Bq))))) (Kf (Hz r N rfl t e u Ji (pv 0) Bq) Cp)))))))
   (Dd (Sn (cT h1 (Bc (pv 4)) Cp)
   (Eo (Iw (mB (js1:=[]) (j0:=0) (js2:=[]) (h6 rfl) rfl (E1 (Bc (pv 1))) (λ_ _ _=>Nc) (λ_ _ _=>pM (Kf (Hz r N rfl t e u Ji (pv 1) Bq) Cp) Cp)))) Nn)
   (Dd (Sn (cT h1 (Bc (pv 4)) Cp)
   (Eo (Iw (mB (js1:=[]) (j0:=0) (js2:=[]) (k6 rfl) rfl (E1 (Bc (pv 1))) (λ_ _ _=>Nc) (λ_ _ _=>Vz (Kf (Hz r N rfl t e u Ji (pv 1) Bq) Cp) Cp)))) Nn)
   (Dd (Sn (cT h1 (Bc (pv 4)) Cp)
   (Eo (Iw (cW (Ll (Ba (Yo Cp (Kf (Hz r N rfl t e u Ji (pv 0) Bq) Cp)) Bq)) (Wt (k4 rfl) rfl (E1 (zB (i:=true) (Bc (pv 1)) (lE Cp) nK)) (λ_ _ _=>Nc) (λ_ _ _=>Cp))))) Nn)
   (Eo (Iw (iX (pv 3)))))))))
 case h =>
  (intro ds n R Z; obtain ⟨L,v,rfl,ne,ll,ld,hn,hR⟩ := Z)
  refine ⟨rfl,?_⟩
  unfold CT
  have lp:0<L.length:=Lo.mpr ne
  array_get_dec
  refine sI (l:=L) (g:=Br) rfl (λw=>.int (pI v w)) (λw hw h9 no hy=>?_) ?_
  ·array_get_dec
   refine xX (l:=v) (g:=Br) rfl (λc=>sub w c) Br (λc hc k7 k9 k3 h7=>?_) ?_
   ·array_get_dec
    refine ⟨w,c,rfl,?_⟩
    refine sR (λhb=>?_) (λhb=>?_)
    ·array_get_dec
     exact k3 hb
    ·exact h7 hb
   ·array_get_dec
    rw[Af,<- List.countP_eq_length_filter]
    exact hy
  rw[show L.map (λw=>Ax (pI v w))=(L.map (pI v)).map Ax by rw[Dn]; rfl]
  have b0:∀x∈L.map (pI v),-100<=x/\x<=100:=λx hx=>by
   obtain ⟨w,_,rfl⟩:=Df.mp hx
   unfold pI
   have:=List.countP_le_length (p:=λc=>sub w c) (l:=v)
   omega
  have l0:(L.map (pI v)).length=L.length:=Af ..
  generalize L.map (pI v)=ns0 at b0 l0
  array_get_dec
  refine ⟨rfl,by omega,λr1=>?_⟩
  array_get_dec
  have b9:=Nm r1 (b:=9) (by decide)
  obtain ⟨k,ek,k0,k2⟩ : ∃k:Int,Vp [Ax 0,.int 0,.int 1,.int 1,.int 1,.int 2,.int 0,.int 0,.int 0] (r1 % 9)=some (.int k)/\0<=k/\k<=2:=by
   have : r1 % 9=0\/r1 % 9=1\/r1 % 9=2\/r1 % 9=3\/r1 % 9=4\/r1 % 9=5\/r1 % 9=6\/r1 % 9=7\/r1 % 9=8:=by omega
   rcases this with z | z | z | z | z | z | z | z | z <;> rw[z] <;> exact ⟨_,rfl,by decide,by decide⟩
  generalize r1 % 9=way at b9 ek
  refine ⟨_,ek,?_⟩
  array_get_dec
  refine ⟨by omega,by omega,?_⟩
  refine Zu (l:=Cd k.toNat) (g:=λi:Nat=>.int i) rfl (λi δ=>∃(ns:List Int) (v5 v6:DV) (n':Nat),δ=⟨[.drw,.dat .sh (.list (L.map Br)),.dat .sh (.list (v.map Br)),.dat .ow (.list (ns.map Ax)),.dat .sh (.int way),v5,v6],n'⟩/\n'=n+1+3 * i/\ns.length=L.length/\(∀x∈ns,-100 - 2 * (i:Int)<=x/\x<=100+2 * (i:Int))/\NP v5/\NP v6) ?_ ?_ ?_
  ·exact ⟨ns0,_,_,_,rfl,rfl,l0,λx hx=>by have:=b0 x hx; omega,Qg,Qg⟩
  ·(intro i a _ ha Z; obtain ⟨ns,v5,v6,n1,rfl,k1,ln,bn,k5,h4⟩ := Z)
   obtain ⟨rfl,hi⟩:=Rg ha
   array_get_dec
   refine ⟨rfl,by omega,λr2=>?_⟩
   array_get_dec
   refine ⟨by rw[Af]; omega,rfl,by omega,λr3=>?_⟩
   have bl:=Nm r2 (b:=((L.map Br).length:Int)) (by rw[Af]; omega)
   rw[Af] at bl ⊢
   array_get_dec
   have cm:zI (r2 % (L.length:Int)) (if decide (0<r3 % 4)=true then 1 else 0):=by
    cases decide (0<r3 % 4)
    ·exact .inr ⟨by decide,by decide⟩
    ·exact .inr ⟨by decide,by decide⟩
   obtain ⟨q,eq,q0,q1⟩ : ∃q:Int,(r2 % (L.length:Int) * if decide (0<r3 % 4)=true then 1 else 0)=q/\0<=q/\q<L.length:=by
    cases decide (0<r3 % 4)
    ·exact ⟨0,Int.mul_zero _,by omega,by omega⟩
    ·exact ⟨r2 % (L.length:Int),Int.mul_one _,by omega,by omega⟩
   rw[eq]
   obtain ⟨x,D,I,xm⟩:=bU (l:=ns) (i:=q) q0 (by omega)
   have bx:=bn x xm
   refine ⟨cm,.int x,by rw[tN,I]; rfl,rfl,by omega,λr4=>?_⟩
   array_get_dec
   have b4:=Nm r4 (b:=4) (by decide)
   obtain ⟨z,ez,z0,z1⟩ : ∃z:Int,Vp [Ax 1,.int (-1),.int 2,.int (-2)] (r4 % 4)=some (.int z) /\ -2<=z/\z<=2:=by
    have : r4 % 4=0\/r4 % 4=1\/r4 % 4=2\/r4 % 4=3:=by omega
    rcases this with z | z | z | z <;> rw[z] <;> exact ⟨_,rfl,by decide,by decide⟩
   refine ⟨_,ez,?_⟩
   array_get_dec
   refine ⟨q.toNat,by unfold xO; rw[if_pos q0,if_pos (by rw[Af]; omega)],?_⟩
   refine ⟨ns.set q.toNat (x+z),.dat .sh (.int a),.dat .sh (.int q),n1+1+1+1,Tu (by rw[Ip]) rfl,by omega,by rw[Po]; exact ln,λy hy=>?_,Jj,Jj⟩
   rcases List.mem_or_eq_of_mem_set hy with m | m
   ·have:=bn y m; omega
   ·rw[m]; omega
  ·(intro _ Z; obtain ⟨ns,v5,v6,n1,rfl,k1,ln,bn,k5,h4⟩ := Z)
   rw[Dh] at k1 bn
   array_get_dec
   refine Zk (λhb=>?_) (λhb=>?_)
   ·array_get_dec
    refine uD (l:=L) (g:=Br) (js1:=[]) (js2:=[]) rfl rfl (λi Q m=>∃O:List Int,Q=O.map Ax/\m=n1+i/\O.length=i/\∀x∈O,-1000<=x/\x<=1000) ?_ ?_ ?_
    ·exact ⟨[],rfl,rfl,rfl,λ_ z=>(nomatch z)⟩
    ·(intro i w Q m hw Z; obtain ⟨O,rfl,rfl,lm,bm⟩ := Z)
     have hi:=(Av.mp hw).1
     array_get_dec
     refine ⟨rfl,by omega,λr5=>?_⟩
     array_get_dec
     have b5:=Nm r5 (b:=121) (by decide)
     refine ⟨O++[r5 % 121 - 60],by rw[Bh]; rfl,by omega,by rw[Bf,Fl,lm],λx hx=>?_⟩
     rcases Aw.mp hx with z | z
     ·exact bm x z
     ·rw[Al.mp z]; omega
    ·(intro Q m Z; obtain ⟨O,rfl,rfl,lm,bm⟩ := Z)
     array_get_dec
     exact ⟨by omega,hR O _ (by omega) (by omega) lm bm⟩
   ·array_get_dec
    refine Zk (λhb=>?_) (λhb=>?_)
    ·array_get_dec
     refine uD (l:=L) (g:=Br) (js1:=[]) (js2:=[]) rfl rfl (λi Q m=>∃O:List Int,Q=O.map Ax/\m=n1+i/\O.length=i/\∀x∈O,-1000<=x/\x<=1000) ?_ ?_ ?_
     ·exact ⟨[],rfl,rfl,rfl,λ_ z=>(nomatch z)⟩
     ·(intro i w Q m hw Z; obtain ⟨O,rfl,rfl,lm,bm⟩ := Z)
      have hi:=(Av.mp hw).1
      array_get_dec
      refine ⟨rfl,by omega,λr5=>?_⟩
      array_get_dec
      have b5:=Nm r5 (b:=3) (by decide)
      refine ⟨O++[r5 % 3 / 2],by rw[Bh]; rfl,by omega,by rw[Bf,Fl,lm],λx hx=>?_⟩
      rcases Aw.mp hx with z | z
      ·exact bm x z
      ·rw[Al.mp z]; omega
     ·(intro Q m Z; obtain ⟨O,rfl,rfl,lm,bm⟩ := Z)
      array_get_dec
      exact ⟨by omega,hR O _ (by omega) (by omega) lm bm⟩
    ·array_get_dec
     refine Zk (λhb=>?_) (λhb=>?_)
     ·array_get_dec
      refine ⟨rfl,by omega,λr6=>?_⟩
      array_get_dec
      have b6:=Nm r6 (b:=20) (by decide)
      rw[show Pt (L.map Br) (some 1) none=(L.drop 1).map Br by rw[oM]; exact congrArg _ (wJ L 1)]
      refine ⟨Pg _,sI (l:=L.drop 1) (g:=Br) rfl (λ_=>.int 0) (λw hw h9 no hy=>?_) ?_⟩
      ·array_get_dec
       exact hy
      ·rw[show (L.drop 1).map (λ_=>Ax 0)=((L.drop 1).map λ_=>(0:Int)).map Ax by rw[Dn]; rfl]
       array_get_dec
       have k8:(L.drop 1).length=L.length - 1:=Nt
       have e0:Ax (41+r6 % 20)::((L.drop 1).map λ_=>(0:Int)).map Ax=((41+r6 % 20)::(L.drop 1).map λ_=>(0:Int)).map Ax:=rfl
       rw[e0]
       refine ⟨by rw[Af,Af]; omega,by omega,hR _ _ (by omega) (by omega) (by rw[Bm,Af]; omega) λx hx=>?_⟩
       rcases An.mp hx with z | z
       ·rw[z]; omega
       ·obtain ⟨_,_,rfl⟩:=Df.mp z
        omega
     ·array_get_dec
      exact ⟨by omega,hR ns _ (by omega) (by omega) ln λx hx=>by have:=bn x hx; omega⟩
end
theorem Th{b:Type}{n:Nat}:∀{l:List b},l.length=n+1->∃v a,l=v::a/\a.length=n
 | v::l,h=>⟨v,l,rfl,Nat.succ.inj h⟩
theorem AC{u:Type}{l:List u}(h:l.length=11):∃f d n e k i g m j b a,l=[f,d,n,e,k,i,g,m,j,b,a]:=by
 obtain ⟨f,H,rfl,w⟩:=Th h
 obtain ⟨d,F,rfl,p⟩:=Th w
 obtain ⟨n,E,rfl,y⟩:=Th p
 obtain ⟨e,G,rfl,s⟩:=Th y
 obtain ⟨k,C,rfl,z⟩:=Th s
 obtain ⟨i,J,rfl,q⟩:=Th z
 obtain ⟨g,I,rfl,v⟩:=Th q
 obtain ⟨m,B,rfl,x⟩:=Th v
 obtain ⟨j,D,rfl,t⟩:=Th x
 obtain ⟨b,r,rfl,o⟩:=Th t
 obtain ⟨a,A,rfl,c⟩:=Th o
 cases dQ c
 exact ⟨f,d,n,e,k,i,g,m,j,b,a,rfl⟩
theorem zW{L:List (List Int)}{c:List Int->Int}:(∀w∈L,0<=c w)->((Ld L c).length:Int)=(L.map c).sum:=by
 unfold Ld
 induction L with
 | nil=>intro _; rfl
 | cons w L a =>
  intro h
  rw[aE,Bf,Hx,Ao,Hq,<- a λv b=>h v (Ad _ b)]
  have:=h w Ab
  omega
theorem cO{L:List (List Int)}{f:List Int->Int}{n:Nat}(p:L.Perm (Ee n))(h:∀w∈L,0<=Lr (Pe n) f w)(b:f []<=10000):(Ld L (Lr (Pe n) f)).length<=10000:=by
 have e:=zW h
 rw[zO (p.map _),mZ f n] at e
 omega
section
variable{P:Bl}{w:World}{K:PySem.W.Frag}{mg:Str->Option Value}{base:Heap}
theorem CA:FnScope ["_law_script", "_law_cell", "_law_draws_here", "_law_pick", "_law_holes", "_law_words_here", "_law_deck_here", "_law_numbers_here", "_law_just_so_here", "_law_handed", "_law_turn", "_law_told"] ["_law_script"] (Cf hV):=⟨rfl,rfl,rfl,by decide +kernel,rfl,by decide +kernel,by decide +kernel⟩
theorem BA{f o r y p B d e t  : Addr}{fd C D J G M x u I:Dc}(F:Fun K "law" "law" hV f fd)(h6:FnOk P w K mg base La 4 o C ["holes", "numbers"] (cF K (oR)))(k8:Binds K C ["holes", "numbers"] [])(h7:PySem.W.keepIn K (.ref o)=true)(q0:mg "deck_of" = some (.ref o))(k5:FnOk P w K mg base La 1 r D ["_law_cell"] (Wp))(k0:Binds K D ["_law_cell"] [])(k7:PySem.W.keepIn K (.ref r)=true)(h4:mg "_law_draws" = some (.ref r))(q7:FnOk P w K mg base La 1 y J ["_law_draws_here"] (rL K Yi))(q9:Binds K J ["_law_draws_here"] [])(q2:PySem.W.keepIn K (.ref y)=true)(q8:mg "_law_next" = some (.ref y))(h5:FnOk P w K mg base La 1 p G ["_law_holes"] (cF K (aJ)))(k9:Binds K G ["_law_holes"] [])(h8:PySem.W.keepIn K (.ref p)=true)(k6:mg "_law_words" = some (.ref p))(q1:FnOk P w K mg base La 3 B M ["_law_draws_here", "_law_holes", "_law_limit"] (rL K (x9)))(q3:Binds K M ["_law_draws_here", "_law_holes", "_law_limit"] [])(q4:PySem.W.keepIn K (.ref B)=true)(q5:mg "_law_deck" = some (.ref B))(S:FnOk P w K mg base La 1 d x ["_law_words_here", "_law_numbers_here", "_law_holes"] (cF K (mI)))(T:Binds K x ["_law_words_here", "_law_numbers_here", "_law_holes"] [])(V:PySem.W.keepIn K (.ref d)=true)(N:mg "_law_just_so" = some (.ref d))(R:FnOk P w K mg base La 2 e u ["_law_draws_here", "_law_words_here", "_law_deck_here"] (rL K (fO)))(O:Binds K u ["_law_draws_here", "_law_words_here", "_law_deck_here"] [])(Q:PySem.W.keepIn K (.ref e)=true)(U:mg "_law_numbers" = some (.ref e))(h9:FnOk P w K mg base La 1 t I ["_law_words_here", "_law_told", "_law_just_so_here"] (cF K (tX)))(h3:Binds K I ["_law_words_here", "_law_told", "_law_just_so_here"] [])(h2:PySem.W.keepIn K (.ref t)=true)(Z:mg "_law_right" = some (.ref t))(j5:mg "max" = none)(j6:mg "int" = none)(j4:mg "list" = none)(q6:mg "range" = none):FnOk P w K mg base La 5 f fd ["_law_script"] (spLawD K):=by
 refine' Z6 (k:=4) F CA (λy1 A x4 s H E hr=>?hb) ?h
 case hb =>
  have j2:Room 1 _:=hr.mono (by decide)
  have x2:Room 2 _:=hr.mono (by decide)
  have x3:Room 3 _:=hr.mono (by decide)
  have x1:Room 4 _:=hr.mono (by decide)
  have j9:=hr.units
  exact Dd (Nl Ex rfl (E1 (cW (r9 (pv 0) nK (lE Cp)) (Ll (Ba Cp Bq)))) (Kr (i:=1) CA.nd rfl (Dw rfl))
   (Dd (Gg (i:=2) CA.nd rfl (Dw rfl) (zC k5 j2 rfl h4 k7 k0 Ji (Ba (Bc (pv 1)) Bq)))
    (Dd (Gg (i:=3) CA.nd rfl (Dw rfl) (Hz q7 j2 rfl q8 q2 q9 Ji (pv 2) Bq))
    (Dd (Gg (i:=4) CA.nd rfl (Dw rfl) (Lk (Ll (Ba (Yo Cp (Kf (Vz (Bc (pv 3)) Cp) Cp)) (Ba Cp (Ba (Yo Cp (Kf (Vz (Bc (pv 3)) Cp) Cp)) Bq)))) (Jk (uU rfl) K3 rfl j5 (by decide +kernel) (Ba Cp (Ba (pM (Kf (Bc (pv 3)) Cp) Cp) Bq)))))
    (Dd (Gg (i:=5) CA.nd rfl (Dw rfl) (Om h5 j2 rfl k6 h8 k9 Ji (Ba (Bc (pv 4)) Bq)))
    (Dd (Gg (i:=6) CA.nd rfl (Dw rfl) (Hz q1 x3 rfl q5 q4 q3 Ji (pv 2) (Ba (Bc (pv 4)) (Ba (Lk (Ll (Ba Cp (Ba Cp Bq))) (Ov fF zE rfl j6 (by decide +kernel) (Ba (S9 (Bc (pv 4)) Cp) Bq))) Bq))))
    (Dd (Gg (i:=7) CA.nd rfl (Dw rfl) (Hz R x2 rfl U Q O Ji (pv 2) (Ba (Bc (pv 5)) (Ba (Bc (pv 6)) Bq))))
    (Dd (Gg (i:=8) CA.nd rfl (Dw rfl) (Om S j2 rfl N V T Ji (Ba (Bc (pv 5)) (Ba (Bc (pv 7)) (Ba (Bc (pv 4)) Bq)))))
    (Dd (Gg (i:=9) CA.nd rfl (Dw rfl) (Ov E7 (P3 (i:=true)) rfl j4 (by decide +kernel) (Ba (Bc (pv 7)) Bq)))
    (Eo (Nl Ex rfl (Lu rfl q6 (Ba Cp Bq)) (Kr (i:=10) CA.nd rfl (Dw rfl))
    (Dd (aO (i:=11) CA.nd rfl (Dw rfl) (Om h6 x1 rfl q0 h7 k8 Ji (Ba (Bc (pv 4)) (Ba (Bc (pv 9)) Bq))))
     (Dd (Sn (N6 (U1 (sS j9 (Bc (pv 9)) (Bc (pv 7))) (zR (j8 (qT (Om h9 j2 rfl Z h2 h3 Ji (Ba (Bc (pv 5)) (Ba (Bc (pv 11)) (Ba (Bc (pv 8)) Bq)))))))))
     (Eo (Iw B0)) Nn)
     (Eo (Sn (cT j9 (Lk (Bc (pv 11)) Cp) aZ)
     (Eo (F4 (k:=1) (pv 11) Z8 (λ_=>.non))) Nn)))))))))))))))
   (Eo (Iw B0))
 case h =>
  intro ns y0
  array_get_dec
  have lc:(Pt ns none (some 3)).length<=3:=FU 3
  refine ⟨by rw[Af]; omega,?_⟩
  refine Zu (l:=Pt ns none (some 3)++[0]) (g:=Ax) (by rw[Bh]; rfl) (λi δ=>∃(l:List DV) (n':Nat),δ=⟨.scr ns::l,n'⟩/\l.length=11/\(∀v∈l,NP v)/\n'<=3000 * i) ?_ ?_ ?_
  ·exact ⟨_,_,rfl,rfl,by simp [Qg],by omega⟩
  ·(intro i c _ hc q_; obtain ⟨l,n0,rfl,hl,hv,hn⟩ := q_)
   have hi:i<4:=by
    have:=(Av.mp hc).1
    rw[Bf,Fl] at this
    omega
   obtain ⟨v1,v2,v3,v4,v5,v6,v7,v8,v9,j3,j0,rfl⟩:=AC hl
   simp only[List.forall_mem_cons] at hv
   obtain ⟨x5,y6,y4,x8,y5,x7,y3,x6,y2,X,Y,-⟩:=hv
   array_get_dec
   refine ⟨rfl,by omega,λr1=>?_⟩
   array_get_dec
   obtain ⟨h,eh,h0,h1⟩ : ∃h:Int,Vp [Ax (1+r1 / 8 % 5),.int 7,.int (8+r1 / 8 % 3)] (if r1 % 8 - 5 > 0 then r1 % 8 - 5 else 0)=some (.int h)/\0<h/\h<=10:=by
    have b5:=Nm (r1 / 8) (b:=5) (by decide)
    have b3:=Nm (r1 / 8) (b:=3) (by decide)
    have b8:=Nm r1 (b:=8) (by decide)
    by_cases z:r1 % 8 - 5 > 0
    ·rw[if_pos z]
     rcases (show r1 % 8 - 5=1\/r1 % 8 - 5=2 by omega) with q | q <;> rw[q]
     ·exact ⟨7,rfl,by decide,by decide⟩
     ·exact ⟨8+r1 / 8 % 3,rfl,by omega,by omega⟩
    ·rw[if_neg z]
     exact ⟨1+r1 / 8 % 5,rfl,by omega,by omega⟩
   refine ⟨_,eh,h,rfl,by omega,h1,λL pe po=>?_⟩
   have nd:=Tn pe
   have ll:=(Yu (n:=h.toNat) (by omega) pe).1
   have nL:[]∈L:=(Yk pe).mpr ⟨Ea,λ_ z=>(nomatch z)⟩
   array_get_dec
   obtain ⟨m,em,m0,m1⟩ : ∃m:Int,Vp [Ax 40,.int 12] (if decide (5<h)=true then 1 else 0)=some (.int m)/\0<=m/\m<=60:=by
    rw[EO]
    cases decide (5<h)
    ·exact ⟨40,rfl,by decide,by decide⟩
    ·exact ⟨12,rfl,by decide,by decide⟩
   refine ⟨_,em,h,m,rfl,h0,h1,m0,m1,by omega,λj7 n1 k1 k2 ld hd=>?_⟩
   refine ⟨L,j7,rfl,Za nL,ll,ld,by omega,λms n2 k3 k4 lm bm=>?_⟩
   obtain ⟨f,rfl⟩:=AL nd lm
   have f0:f []<=10000:=by have:=bm _ (Xs nL); omega
   refine ⟨h,L,f,rfl,by omega,h1,pe,?_⟩
   array_get_dec
   refine Zu (l:=Cd 3) (g:=λi:Nat=>.int i) rfl (λi δ=>∃(j3 j0:DV),δ=⟨[.scr ns,.dat .sh (.int c),.drw,.dat .sh (.int r1),.dat .sh (.int h),.dat .sh (.list (L.map Br)),.dat .sh (.list (j7.map Br)),.dat .sh (.list ((L.map f).map Ax)),.dat .sh (.dict (Ou (Pv L (Lr (Pe h.toNat) f)))),.dat .sh (.list ((L.map f).map Ax)),j3,j0],n2⟩/\NP j3/\NP j0) ?_ ?_ ?_
   ·exact ⟨_,_,rfl,X,Y⟩
   ·clear X Y
    (intro j a _ ha q_; obtain ⟨j3,j0,rfl,X,Y⟩ := q_)
    array_get_dec
    refine ⟨h,L,f,rfl,by omega,h1,pe,po,λj1=>⟨cO pe j1 f0,?_⟩,λw hw x0=>?_⟩
    ·have hs:=cO pe j1 f0
     array_get_dec
     refine ⟨L,Lr (Pe h.toNat) f,_,rfl,Za nL,ll,.inr ⟨j1,hs,rfl⟩,?_⟩
     array_get_dec
     exact ⟨by omega,_,_,rfl,Jj,U4⟩
    ·array_get_dec
     refine ⟨L,Lr (Pe h.toNat) f,_,rfl,Za nL,ll,.inl ⟨w,hw,x0,rfl⟩,?_⟩
     array_get_dec
     exact ⟨_,_,rfl,Jj,U4⟩
   ·(intro _ q_; obtain ⟨j3,j0,rfl,X,Y⟩ := q_)
    exact ⟨_,_,rfl,rfl,by simp only[List.forall_mem_cons]; exact ⟨Jj,AJ,Jj,Jj,Jj,Jj,Jj,Jj,Jj,X,Y,Z7⟩,by omega⟩
  ·(intro _ q_; obtain ⟨l,n0,rfl,hl,hv,hn⟩ := q_)
   array_get_dec
end
structure Def(K:PySem.W.Frag)(x:Str)(st:Stmt)(f:Addr)(fd:Dc):Prop where
 nm:PySem.W.nsIn K Dg x=some (some (.ref f))
 fn:Fun K x x st f fd
theorem def_mk{K:PySem.W.Frag}{x:Str}{st:Stmt}{f:Addr}{h d:Option Addr}{sl:Array (Option Value)}{g kV dc e b ct:Value}(a:PySem.W.nsIn K Dg x=some (some (.ref f)))(l:K.lookup f=some ⟨g,h,.func (PySem.W.fnOf x x (Qe st) (Kt st) (Cf st) .none kV dc e d b ct),sl⟩)(c:PySem.W.codeIn K b x=true)(k:PySem.W.keepIn K (.ref f)=true):Def K x st f (PySem.W.fnOf x x (Qe st) (Kt st) (Cf st) .none kV dc e d b ct):=⟨a,A8 l c k⟩
theorem JW{P:List Value->Prop}(h:P []):∀us:List Value,us.length=0->P us
 | [],_=>h
theorem GW{P:List Value->Prop}{n:Nat}(h:∀a (us:List Value),us.length=n->P (a::us)):∀us:List Value,us.length=n+1->P us
 | a::us,e=>h a us (Nat.succ.inj e)
theorem CP{P:List Value->Prop}(h:∀b,P [b]):∀us:List Value,us.length=1->P us:=GW λa us e=>JW (P:=λus=>P (a::us)) (h a) us e
theorem EA{P:List Value->Prop}(h:∀b a1,P [b,a1]):∀us:List Value,us.length=2->P us:=GW λa us e=>CP (P:=λus=>P (a::us)) (h a) us e
theorem CV{P:List Value->Prop}(h:∀b a1 a2,P [b,a1,a2]):∀us:List Value,us.length=3->P us:=GW λa us e=>EA (P:=λus=>P (a::us)) (h a) us e
theorem JU{P:List Value->Prop}(h:∀b a1 a2 a3,P [b,a1,a2,a3]):∀us:List Value,us.length=4->P us:=GW λa us e=>CV (P:=λus=>P (a::us)) (h a) us e
theorem all_mk{l:PySem.W.OpenLaw}{w:World}{K:PySem.W.Frag}{h:Heap}{mg:Str->Option Value}{fa f1 f2 f3 f4 f5 f6 f7 f8 f9 h5 h4 h0 h1 k4 h2 j:Addr}{d1 d2 d3 d4 d5 d6 d7 d8 d9 U I k3 k0 F L:Dc}(X:K.In h)(G:h.Ns Dg mg)(R:mg "law" = some (.ref fa)){od an:Option Addr}{sl:Array (Option Value)}{oc kV dc pm cd ct:Value}(t:Def K "_law_draws" gX f1 d1)(D2:Def K "_law_next" sQ f2 d2)(u:Def K "together" Rv f3 d3)(z:Def K "all_words" Qh f4 d4)(p:Def K "_law_words" Oi f5 d5)(q:Def K "_law_small" Rx f6 d6)(y:Def K "_law_lies" Pz f7 d7)(A:Def K "_law_deck" Tp f8 d8)(r:Def K "order_of" Rq f9 d9)(c:Def K "put_to" Wu h5 U)(d:Def K "parted_by" Te h4 I)(g:Def K "deck_of" Uu h0 k3)(f:Def K "_law_just_so" Pa h1 k0)(a:Def K "_law_right" Si k4 F)(b:Def K "_law_numbers" Gp h2 L)(aL:PySem.W.nsIn K Dg "law" = some (some (.ref j)))(lL:K.lookup j=some ⟨oc,od,.func (PySem.W.fnOf "law" "law" (Qe hV) (Kt hV) (Cf hV) .none kV dc pm an cd ct),sl⟩)(cL:PySem.W.codeIn K cd "law" = true)(kL:PySem.W.keepIn K (.ref j)=true)(z1:PySem.W.nsIn K Dg "tuple" = some none)(z2:PySem.W.nsIn K Dg "sorted" = some none)(z3:PySem.W.nsIn K Dg "set" = some none)(z4:PySem.W.nsIn K Dg "range" = some none)(z5:PySem.W.nsIn K Dg "len" = some none)(z6:PySem.W.nsIn K Dg "enumerate" = some none)(z7:PySem.W.nsIn K Dg "zip" = some none)(z8:PySem.W.nsIn K Dg "dict" = some none)(z9:PySem.W.nsIn K Dg "isinstance" = some none)(z10:PySem.W.nsIn K Dg "min" = some none)(z11:PySem.W.nsIn K Dg "list" = some none)(z12:PySem.W.nsIn K Dg "int" = some none)(z13:PySem.W.nsIn K Dg "max" = some none):∃fd:Dc,(∀(s:Ai) (v:Value),BindsTo s fd ⟨[v],[]⟩ [("_law_script",v)])/\∀base:Heap,K.In base->base.Ns Dg mg->FnOk l.prog w K mg base La 5 fa fd ["_law_script"] (DL.spLawD K):=by
 have e:=R.symm.trans (PySem.W.mg_of X G aL)
 cases e
 have FL:=A8 (st:=hV) lL cL kL
 have b1:=t.fn.binds (ps:=["_law_cell"]) λ_ _ _ _ _ _=>CP (λ_=>rfl)
 have x:=D2.fn.binds (ps:=["_law_draws_here"]) λ_ _ _ _ _ _=>CP (λ_=>rfl)
 have b3:=u.fn.binds (ps:=["one", "other"]) λ_ _ _ _ _ _=>EA (λ_ _=>rfl)
 have b4:=z.fn.binds (ps:=["holes"]) λ_ _ _ _ _ _=>CP (λ_=>rfl)
 have b5:=p.fn.binds (ps:=["_law_holes"]) λ_ _ _ _ _ _=>CP (λ_=>rfl)
 have b6:=q.fn.binds (ps:=["_law_draws_here", "_law_holes"]) λ_ _ _ _ _ _=>EA (λ_ _=>rfl)
 have b7:=y.fn.binds (ps:=["_law_one", "_law_other"]) λ_ _ _ _ _ _=>EA (λ_ _=>rfl)
 have b8:=A.fn.binds (ps:=["_law_draws_here", "_law_holes", "_law_limit"]) λ_ _ _ _ _ _=>CV (λ_ _ _=>rfl)
 have b9:=r.fn.binds (ps:=["holes"]) λ_ _ _ _ _ _=>CP (λ_=>rfl)
 have M:=c.fn.binds (ps:=["numbers", "order", "place", "times"]) λ_ _ _ _ _ _=>JU (λ_ _ _ _=>rfl)
 have h3:=d.fn.binds (ps:=["order", "numbers", "places"]) λ_ _ _ _ _ _=>CV (λ_ _ _=>rfl)
 have T:=g.fn.binds (ps:=["holes", "numbers"]) λ_ _ _ _ _ _=>EA (λ_ _=>rfl)
 have H:=f.fn.binds (ps:=["_law_words_here", "_law_numbers_here", "_law_holes"]) λ_ _ _ _ _ _=>CV (λ_ _ _=>rfl)
 have h6:=a.fn.binds (ps:=["_law_words_here", "_law_told", "_law_just_so_here"]) λ_ _ _ _ _ _=>CV (λ_ _ _=>rfl)
 have k1:=b.fn.binds (ps:=["_law_draws_here", "_law_words_here", "_law_deck_here"]) λ_ _ _ _ _ _=>CV (λ_ _ _=>rfl)
 have m1:=PySem.W.mg_of X G t.nm
 have C:=PySem.W.mg_of X G D2.nm
 have m3:=PySem.W.mg_of X G u.nm
 have m4:=PySem.W.mg_of X G z.nm
 have m5:=PySem.W.mg_of X G p.nm
 have m6:=PySem.W.mg_of X G q.nm
 have m7:=PySem.W.mg_of X G y.nm
 have m8:=PySem.W.mg_of X G A.nm
 have m9:=PySem.W.mg_of X G r.nm
 have Z:=PySem.W.mg_of X G c.nm
 have k2:=PySem.W.mg_of X G d.nm
 have h7:=PySem.W.mg_of X G g.nm
 have h9:=PySem.W.mg_of X G f.nm
 have S:=PySem.W.mg_of X G a.nm
 have D:=PySem.W.mg_of X G b.nm
 have k:=PySem.W.mg_none_of X G z1
 have m:=PySem.W.mg_none_of X G z2
 have y3:=PySem.W.mg_none_of X G z3
 have i:=PySem.W.mg_none_of X G z4
 have y5:=PySem.W.mg_none_of X G z5
 have y6:=PySem.W.mg_none_of X G z6
 have y7:=PySem.W.mg_none_of X G z7
 have y8:=PySem.W.mg_none_of X G z8
 have y9:=PySem.W.mg_none_of X G z9
 have J:=PySem.W.mg_none_of X G z10
 have o:=PySem.W.mg_none_of X G z11
 have n:=PySem.W.mg_none_of X G z12
 have O:=PySem.W.mg_none_of X G z13
 refine ⟨PySem.W.fnOf "law" "law" (Qe hV) (Kt hV) (Cf hV) .none kV dc pm an cd ct,λs v=>.of_eq rfl,λbase _ _=>?_⟩
 have g1:=vK (P:=l.prog) (w:=w) (mg:=mg) (base:=base) t.fn
 have B:=A3 (P:=l.prog) (w:=w) (mg:=mg) (base:=base) D2.fn
 have g3:=gP (P:=l.prog) (w:=w) (mg:=mg) (base:=base) u.fn k m y3
 have g4:=kA (P:=l.prog) (w:=w) (mg:=mg) (base:=base) z.fn i m
 have g5:=eL (P:=l.prog) (w:=w) (mg:=mg) (base:=base) p.fn i m
 have g6:=dR (P:=l.prog) (w:=w) (mg:=mg) (base:=base) q.fn B x D2.fn.kp C i k
 have g7:=jG (P:=l.prog) (w:=w) (mg:=mg) (base:=base) y.fn
 have g8:=gR (P:=l.prog) (w:=w) (mg:=mg) (base:=base) A.fn B x D2.fn.kp C g6 b6 q.fn.kp m6 i y5 m y3 k
 have g9:=lQ (P:=l.prog) (w:=w) (mg:=mg) (base:=base) r.fn g4 b4 z.fn.kp m4 y6
 have Y:=vO (P:=l.prog) (w:=w) (mg:=mg) (base:=base) c.fn g3 b3 u.fn.kp m3 y7
 have Q:=jT (P:=l.prog) (w:=w) (mg:=mg) (base:=base) d.fn Y M c.fn.kp Z
 have V:=rJ (P:=l.prog) (w:=w) (mg:=mg) (base:=base) g.fn g9 b9 r.fn.kp m9 Q h3 d.fn.kp k2 k i y7
 have N:=Zz (P:=l.prog) (w:=w) (mg:=mg) (base:=base) f.fn y8 y7 i m k
 have h8:=dS (P:=l.prog) (w:=w) (mg:=mg) (base:=base) a.fn y5 k y9 J o
 have E:=aA (P:=l.prog) (w:=w) (mg:=mg) (base:=base) b.fn B x D2.fn.kp C g7 b7 y.fn.kp m7 y5 i n
 exact BA FL V T g.fn.kp h7 g1 b1 t.fn.kp m1 B x D2.fn.kp C g5 b5 p.fn.kp m5 g8 b8 A.fn.kp m8 N H f.fn.kp h9 E k1 b.fn.kp D h8 h6 a.fn.kp S O n o i
theorem walk{l:PySem.W.OpenLaw}{q:Bl}{b:List Str}{t:(Str->Option Value)->Heap->Prop}{i:World->Heap->Prop}{d:DefRec}{K:Params->PySem.W.Frag}(p:l.most=some 63)(c:d.params.defaults=[])(o:∀(w:World) (h:Heap),i w h->(K w.params).In h)(F:∀(w:World) (mg:Str->Option Value) (e:Addr) (h:Heap),(K w.params).In h->h.Ns Dg mg->mg d.name=some (.ref e)->∃g:Dc,(∀(s:Ai) (u:Value),BindsTo s g ⟨[u],[]⟩ [("_law_script",u)])/\∀base:Heap,(K w.params).In base->base.Ns Dg mg->FnOk l.prog w (K w.params) mg base La 5 e g ["_law_script"] (DL.spLawD (K w.params))):PySem.W.WalkO q b t i l.row.toRowW d [] (λf vs=>PySem.call f vs) :=
 L2.walk_ofD (n:=63) (k:=5) (x := "_law_script") (CX:=λ_=>La) (sp:=λw=>DL.spLawD (K w.params)) p (by decide) c ⟨rfl,by decide,by decide,rfl⟩ o F (λ_ _ a r j _ m=>⟨a,r,rfl,m,j,λ_=>rfl⟩) λ_ _ _ _ _ z=>z
end K52
open PySem PySem.W PyProof.Rows
set_option maxRecDepth 100000 in
set_option maxHeartbeats 0 in
theorem PySem.Challenge.cw_needledeck_k52_back_from_counts_holds : PySem.Challenge.rw_needledeck_k52_back_from_counts.Holds := by
 w_on; o_law; k_head; (case hw=>w_witness2)
 k_fill
 refine K52.walk (l:=PySem.Challenge.rw_needledeck_k52_back_from_counts) rfl rfl (λw h Y=>PySem.W.kIn_of Y) ?F
 case F =>
  intro w mg fa h KX G hmg
  refine' K52.all_mk KX G hmg (K52.def_mk ?a1 ?l1 ?c1 ?k1) (K52.def_mk ?a2 ?l2 ?c2 ?k2) (K52.def_mk ?a3 ?l3 ?c3 ?k3) (K52.def_mk ?a4 ?l4 ?c4 ?k4) (K52.def_mk ?a5 ?l5 ?c5 ?k5) (K52.def_mk ?a6 ?l6 ?c6 ?k6) (K52.def_mk ?a7 ?l7 ?c7 ?k7) (K52.def_mk ?a8 ?l8 ?c8 ?k8) (K52.def_mk ?a9 ?l9 ?c9 ?k9) (K52.def_mk ?a10 ?l10 ?c10 ?k10) (K52.def_mk ?a11 ?l11 ?c11 ?k11) (K52.def_mk ?a12 ?l12 ?c12 ?k12) (K52.def_mk ?a13 ?l13 ?c13 ?k13) (K52.def_mk ?a14 ?l14 ?c14 ?k14) (K52.def_mk ?a15 ?l15 ?c15 ?k15) ?aL ?lL ?cL ?kL ?z1 ?z2 ?z3 ?z4 ?z5 ?z6 ?z7 ?z8 ?z9 ?z10 ?z11 ?z12 ?z13
  (case a1=>k_is); (case l1=>k_is); (case c1=>k_is); (case k1=>k_is)
  (case a2=>k_is); (case l2=>k_is); (case c2=>k_is); (case k2=>k_is)
  (case a3=>k_is); (case l3=>k_is); (case c3=>k_is); (case k3=>k_is)
  (case a4=>k_is); (case l4=>k_is); (case c4=>k_is); (case k4=>k_is)
  (case a5=>k_is); (case l5=>k_is); (case c5=>k_is); (case k5=>k_is)
  (case a6=>k_is); (case l6=>k_is); (case c6=>k_is); (case k6=>k_is)
  (case a7=>k_is); (case l7=>k_is); (case c7=>k_is); (case k7=>k_is)
  (case a8=>k_is); (case l8=>k_is); (case c8=>k_is); (case k8=>k_is)
  (case a9=>k_is); (case l9=>k_is); (case c9=>k_is); (case k9=>k_is)
  (case a10=>k_is); (case l10=>k_is); (case c10=>k_is); (case k10=>k_is)
  (case a11=>k_is); (case l11=>k_is); (case c11=>k_is); (case k11=>k_is)
  (case a12=>k_is); (case l12=>k_is); (case c12=>k_is); (case k12=>k_is)
  (case a13=>k_is); (case l13=>k_is); (case c13=>k_is); (case k13=>k_is)
  (case a14=>k_is); (case l14=>k_is); (case c14=>k_is); (case k14=>k_is)
  (case a15=>k_is); (case l15=>k_is); (case c15=>k_is); (case k15=>k_is)
  (case aL=>k_is); (case lL=>k_is); (case cL=>k_is); (case kL=>k_is)
  (case z1=>k_is); (case z2=>k_is); (case z3=>k_is); (case z4=>k_is); (case z5=>k_is); (case z6=>k_is); (case z7=>k_is); (case z8=>k_is); (case z9=>k_is); (case z10=>k_is); (case z11=>k_is); (case z12=>k_is); (case z13=>k_is)