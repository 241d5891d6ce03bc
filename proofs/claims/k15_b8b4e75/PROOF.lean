import PyProof.Rows.All
import KE.KLam
import Wide.All
import OpenK.AllK
import Wide.FinOn
import Lean
import PyProof.EqAt
import PyProof.EqKinds
import PyProof.TupleCall
import PyProof.FactsAll.set
import PyProof.FactsAll.subtypes
import KE.KTupSum
import KE.KMinBuiltin
import PyProof.Draws
import PyProof.DictWalks
import PyProof.DictCompW
import PyProof.IsiH_tuple
import PyProof.FactsAll.zip
import KE.KDictOf
import PyProof.DictValues
import KE.KSortKey
import PyProof.WalkInts
import PyProof.TupleKey
import PyProof.SetRoads
import PyProof.IsRules
import PyProof.StrCalls5
import PyProof.MeetsStr3
import KE.KIntText
import PyProof.StrWalks
import PySem.Challenge.RW_needledeck_k15_chains_looked_at
set_option Elab.async false
set_option linter.all false
set_option maxRecDepth 100000
set_option maxHeartbeats 4000000
set_option genSizeOf false
local macro_rules|`(tactic|omega)=>`(tactic|first|lia|omega +splitDisjunctions)
theorem e0a2{A B:Prop}{G:Prop}(k:A→B→G)(h:A∧B):G:=k h.1 h.2
theorem e0a3{A B C:Prop}{G:Prop}(k:A→B→C→G)(h:A∧B∧C):G:=k h.1 h.2.1 h.2.2
theorem e0a4{A B C D:Prop}{G:Prop}(k:A→B→C→D→G)(h:A∧B∧C∧D):G:=k h.1 h.2.1 h.2.2.1 h.2.2.2
theorem e0a5{A B C D E:Prop}{G:Prop}(k:A→B→C→D→E→G)(h:A∧B∧C∧D∧E):G:=k h.1 h.2.1 h.2.2.1 h.2.2.2.1 h.2.2.2.2
theorem e0a6{A B C D E F:Prop}{G:Prop}(k:A→B→C→D→E→F→G)(h:A∧B∧C∧D∧E∧F):G:=k h.1 h.2.1 h.2.2.1 h.2.2.2.1 h.2.2.2.2.1 h.2.2.2.2.2
theorem e1a1{a:Type}{A:a→Prop}{G:Prop}(k:∀x,A x→G)(h:∃x,A x):G:=h.elim λx h=>k x h
theorem e1a2{a:Type}{A B:a→Prop}{G:Prop}(k:∀x,A x→B x→G)(h:∃x,A x∧B x):G:=h.elim λx h=>k x h.1 h.2
theorem e1a3{a:Type}{A B C:a→Prop}{G:Prop}(k:∀x,A x→B x→C x→G)(h:∃x,A x∧B x∧C x):G:=h.elim λx h=>k x h.1 h.2.1 h.2.2
theorem e1a4{a:Type}{A B C D:a→Prop}{G:Prop}(k:∀x,A x→B x→C x→D x→G)(h:∃x,A x∧B x∧C x∧D x):G:=h.elim λx h=>k x h.1 h.2.1 h.2.2.1 h.2.2.2
theorem e2a1{b a:Type}{A:b→a→Prop}{G:Prop}(k:∀x y,A x y→G)(h:∃x y,A x y):G:=h.elim λx h=>h.elim λy h=>k x y h
theorem e2a2{b a:Type}{A B:b→a→Prop}{G:Prop}(k:∀x y,A x y→B x y→G)(h:∃x y,A x y∧B x y):G:=h.elim λx h=>h.elim λy h=>k x y h.1 h.2
theorem e2a3{b a:Type}{A B C:b→a→Prop}{G:Prop}(k:∀x y,A x y→B x y→C x y→G)(h:∃x y,A x y∧B x y∧C x y):G:=h.elim λx h=>h.elim λy h=>k x y h.1 h.2.1 h.2.2
theorem e2a4{b a:Type}{A B C D:b→a→Prop}{G:Prop}(k:∀x y,A x y→B x y→C x y→D x y→G)(h:∃x y,A x y∧B x y∧C x y∧D x y):G:=h.elim λx h=>h.elim λy h=>k x y h.1 h.2.1 h.2.2.1 h.2.2.2
theorem e3a1{c a b:Type}{A:c→a→b→Prop}{G:Prop}(k:∀x y z,A x y z→G)(h:∃x y z,A x y z):G:=h.elim λx h=>h.elim λy h=>h.elim λz h=>k x y z h
theorem e3a3{c a b:Type}{A B C:c→a→b→Prop}{G:Prop}(k:∀x y z,A x y z→B x y z→C x y z→G)(h:∃x y z,A x y z∧B x y z∧C x y z):G:=h.elim λx h=>h.elim λy h=>h.elim λz h=>k x y z h.1 h.2.1 h.2.2
theorem e3a4{c a b:Type}{A B C D:c→a→b→Prop}{G:Prop}(k:∀x y z,A x y z→B x y z→C x y z→D x y z→G)(h:∃x y z,A x y z∧B x y z∧C x y z∧D x y z):G:=h.elim λx h=>h.elim λy h=>h.elim λz h=>k x y z h.1 h.2.1 h.2.2.1 h.2.2.2
theorem e3a5{c a b:Type}{A B C D E:c→a→b→Prop}{G:Prop}(k:∀x y z,A x y z→B x y z→C x y z→D x y z→E x y z→G)(h:∃x y z,A x y z∧B x y z∧C x y z∧D x y z∧E x y z):G:=h.elim λx h=>h.elim λy h=>h.elim λz h=>k x y z h.1 h.2.1 h.2.2.1 h.2.2.2.1 h.2.2.2.2
theorem e4a1{c a b d:Type}{A:c→a→b→d→Prop}{G:Prop}(k:∀x y z w,A x y z w→G)(h:∃x y z w,A x y z w):G:=h.elim λx h=>h.elim λy h=>h.elim λz h=>h.elim λw h=>k x y z w h
theorem e4a2{c a b d:Type}{A B:c→a→b→d→Prop}{G:Prop}(k:∀x y z w,A x y z w→B x y z w→G)(h:∃x y z w,A x y z w∧B x y z w):G:=h.elim λx h=>h.elim λy h=>h.elim λz h=>h.elim λw h=>k x y z w h.1 h.2
theorem e5a2{d c e b a:Type}{A B:d→c→e→b→a→Prop}{G:Prop}(k:∀x y z w u,A x y z w u→B x y z w u→G)(h:∃x y z w u,A x y z w u∧B x y z w u):G:=h.elim λx h=>h.elim λy h=>h.elim λz h=>h.elim λw h=>h.elim λu h=>k x y z w u h.1 h.2
theorem e4a5{c a b d:Type}{A B C D E:c→a→b→d→Prop}{G:Prop}(k:∀x y z w,A x y z w→B x y z w→C x y z w→D x y z w→E x y z w→G)(h:∃x y z w,A x y z w∧B x y z w∧C x y z w∧D x y z w∧E x y z w):G:=h.elim λx h=>h.elim λy h=>h.elim λz h=>h.elim λw h=>k x y z w h.1 h.2.1 h.2.2.1 h.2.2.2.1 h.2.2.2.2
theorem e5a5{d c e b a:Type}{A B C D E:d→c→e→b→a→Prop}{G:Prop}(k:∀x y z w u,A x y z w u→B x y z w u→C x y z w u→D x y z w u→E x y z w u→G)(h:∃x y z w u,A x y z w u∧B x y z w u∧C x y z w u∧D x y z w u∧E x y z w u):G:=h.elim λx h=>h.elim λy h=>h.elim λz h=>h.elim λw h=>h.elim λu h=>k x y z w u h.1 h.2.1 h.2.2.1 h.2.2.2.1 h.2.2.2.2
theorem e6a5{d c e b a f:Type}{A B C D E:d→c→e→b→a→f→Prop}{G:Prop}(k:∀x y z w u v,A x y z w u v→B x y z w u v→C x y z w u v→D x y z w u v→E x y z w u v→G)(h:∃x y z w u v,A x y z w u v∧B x y z w u v∧C x y z w u v∧D x y z w u v∧E x y z w u v):G:=h.elim λx h=>h.elim λy h=>h.elim λz h=>h.elim λw h=>h.elim λu h=>h.elim λv h=>k x y z w u v h.1 h.2.1 h.2.2.1 h.2.2.2.1 h.2.2.2.2
theorem e4a7{c a b d:Type}{A B C D E F H:c→a→b→d→Prop}{G:Prop}(k:∀x y z w,A x y z w→B x y z w→C x y z w→D x y z w→E x y z w→F x y z w→H x y z w→G)(h:∃x y z w,A x y z w∧B x y z w∧C x y z w∧D x y z w∧E x y z w∧F x y z w∧H x y z w):G:=h.elim λx h=>h.elim λy h=>h.elim λz h=>h.elim λw h=>k x y z w h.1 h.2.1 h.2.2.1 h.2.2.2.1 h.2.2.2.2.1 h.2.2.2.2.2.1 h.2.2.2.2.2.2
theorem e5a7{d c e b a:Type}{A B C D E F H:d→c→e→b→a→Prop}{G:Prop}(k:∀x y z w u,A x y z w u→B x y z w u→C x y z w u→D x y z w u→E x y z w u→F x y z w u→H x y z w u→G)(h:∃x y z w u,A x y z w u∧B x y z w u∧C x y z w u∧D x y z w u∧E x y z w u∧F x y z w u∧H x y z w u):G:=h.elim λx h=>h.elim λy h=>h.elim λz h=>h.elim λw h=>h.elim λu h=>k x y z w u h.1 h.2.1 h.2.2.1 h.2.2.2.1 h.2.2.2.2.1 h.2.2.2.2.2.1 h.2.2.2.2.2.2
theorem e6a7{d c e b a f:Type}{A B C D E F H:d→c→e→b→a→f→Prop}{G:Prop}(k:∀x y z w u v,A x y z w u v→B x y z w u v→C x y z w u v→D x y z w u v→E x y z w u v→F x y z w u v→H x y z w u v→G)(h:∃x y z w u v,A x y z w u v∧B x y z w u v∧C x y z w u v∧D x y z w u v∧E x y z w u v∧F x y z w u v∧H x y z w u v):G:=h.elim λx h=>h.elim λy h=>h.elim λz h=>h.elim λw h=>h.elim λu h=>h.elim λv h=>k x y z w u v h.1 h.2.1 h.2.2.1 h.2.2.2.1 h.2.2.2.2.1 h.2.2.2.2.2.1 h.2.2.2.2.2.2
local macro_rules|`(tactic|obtain $p:rcasesPatMed:=$v:term)=>do
 let c s:=((p.raw.reprint.getD "").splitOn s).length
 if c ","<3||c "|">1||c ":">1 then Lean.Macro.throwUnsupported
 let T (a:Lean.Syntax):Lean.TSyntax `Lean.Parser.Tactic.rcasesPatMed:=⟨a⟩
 let q:=p.raw
 let x:=q[0][0]
 let l:=x[1].getSepArgs
 let mut a:Array (Lean.TSyntax ``Lean.Parser.Tactic.tacticSeq):=#[]
 let mut y:Array Lean.Term:=#[]
 let mut z:Array (Array (Lean.TSyntax `tactic)):=#[]
 for o in l do
  let u:=o[0][0][0]
  let f:=Lean.mkIdent (←Lean.Macro.addMacroScope (.mkSimple s!"f{y.size}"))
  if u[0].getId==`rfl then
   y:=y.push f
   z:=z.push #[←`(tactic|subst $f:term)]
  else if u[0].isIdent then
   y:=y.push ⟨u[0]⟩
   z:=z.push #[]
  else if u[1].isMissing then
   y:=y.push (←`(_))
   z:=z.push #[]
  else
   y:=y.push f
   z:=z.push #[←`(tactic|obtain $(T o[0]):rcasesPatMed:=$f)]
 for j in [0:l.size] do
  if j==1 then continue
  let n:=l.size-j
  let mut i:=y.extract 0 n
  let mut w:=(z.extract 0 n).flatten
  if j>0 then
   i:=i.push (←`(r_))
   w:=w.push (←`(tactic|obtain $(T (q.setArg 0 (q[0].setArg 0 (x.setArg 1 (Lean.mkNullNode (Lean.mkSepArray (l.extract n l.size) (Lean.mkAtom ","))))))):rcasesPatMed:=r_))
  for k in [0:i.size] do
   let m:=Lean.mkIdent (.mkSimple s!"e{k}a{i.size-k}")
   let g←if v.raw.isIdent then `(tactic|(revert $(⟨v⟩):ident;refine $m fun $i*=>?_)) else `(tactic|refine $m (fun $i*=>?_) $v)
   a:=a.push (←`(Lean.Parser.Tactic.tacticSeq| $g:tactic;$[$w];*))
  if j==0&& !v.raw.isIdent then
   a:=a.push (←`(Lean.Parser.Tactic.tacticSeq| have h_ := $v; obtain $p := h_))
   break
 a:=a.push (←`(Lean.Parser.Tactic.tacticSeq| rcases $v:term with $p))
 `(tactic|first $[| $a]*)
open Array renaming length_toList → Al, getD_eq_getD_getElem? → By, toList_append → Ea, getElem?_eq_getElem → Fg, getElem?_toList → Gm, getElem?_eq_some_iff → Iz, toList_push → Jk, perm_iff_toList_perm → Lr, size_setIfInBounds → Mp, toList_extract → Ot, replicate → Pc, size_map → Qm, toList_reverse → Wa, map → Wp, getElem?_setIfInBounds → fZ, toList_setIfInBounds → jB, toList_filterMap → pQ
open Bool renaming false_eq_true → Bx, false_ne_true → Cw, and_eq_true → Fn, not_eq_true' → Jn, not_true → Ms, and_false → Wo, not_eq_false' → Zr
open Classical renaming propDecidable → Fp, byContradiction → Hl
open False renaming elim → Lq
open ForInStep renaming done → Dd, yield → Hg
open Function renaming comp_def → Yg
open Int renaming eq_ofNat_of_zero_le → Gy
open LawfulBEq renaming eq_of_beq → Ef
open List renaming mem_cons_self → Aa, mem_singleton → Ab, length_map → Ac, mem_cons_of_mem → Ae, mem_append_left → Af, mem_append_right → Ag, mem_append → Ai, mem_cons → Aj, getElem?_eq_some_iff → An, mem_of_getElem? → Ao, size_toArray → Av, map_cons → Aw, pairwise_cons → Ay, length_append → Az, getElem?_eq_getElem → Ba, map_append → Bc, length_cons → Bg, pairwise_append → Bi, getElem?_map → Bo, nodup_cons → Bp, mem_map → Bs, not_mem_nil → Bt, mem_flatMap → Bv, append_assoc → Bw, sublist_append_right → Ci, range → Ck, lookup_cons → Cm, pairwise_singleton → Cn, sublist_cons_self → Cq, nodup_append → Dh, length_take → Dl, take_append_drop → Dn, nodup_nil → Do, take_length → Dr, take_of_length_le → Dt, perm_middle → Du, length_singleton → Dv, map_map → Dz, getElem_mem → Ec, dropLast_concat_getLast → Ed, take_succ_eq_append_getElem → Ee, length → Ek, eraseIdx_sublist → El, length_reverse → En, append_nil → Et, cons_append → Eu, length_range → Ex, getElem?_set → Ey, pairwise_iff_getElem → Fh, drop_eq_getElem_cons → Fi, set_eq_take_append_cons_drop → Fm, perm_append_comm → Fo, getElem?_append_right → Fz, length_set → Ge, take_add_one → Gi, getLast?_eq_some_getLast → Gj, length_nil → Gv, mem_range → Hj, ext_getElem? → Hk, map_set → Hv, mem_iff_getElem → Hw, length_dropLast → Hx, drop_sublist → Ia, flatten_append → Ig, filterMap_cons → Ih, map_id' → Iq, length_drop → Iu, replicate → Ja, take_sublist → Jl, dropLast_subset → Jm, getElem?_take_of_lt → Jt, map_congr_left → Jz, length_pos_iff → Ka, mem_reverse → Ke, drop_zero → Kf, mem_replicate → Kr, mem_filterMap → Ks, length_pos_of_mem → Kt, dropLast_sublist → Lf, reverse_perm → Li, getLastD_eq_getLast? → Mb, getElem?_append_left → Mc, extract_eq_take_drop → Me, sum_cons → Mq, length_erase_of_mem → Mr, lookup → Nj, length_eraseIdx_le → Nk, length_eq_zero_iff → Nl, reverse_cons → Oa, append_eq_nil_iff → Od, mem_erase_of_ne → Oy, sum_append → Px, mem_filter → Py, length_flatten → Qb, zip_cons_cons → Qu, set_cons_succ → Qv, filter_append → Qw, mem_take_iff_getElem → Rq, mem_or_eq_of_mem_set → Rr, mem_of_find?_eq_some → Rt, pairwise_map → Rv, flatMap_cons → Rw, map_take → Sv, getLast_mem → Td, getElem?_cons_succ → Te, eraseIdx_cons_succ → Tf, singleton_sublist → Uj, getElem?_set_self → Uk, length_zip → Vi, find?_some → Vj, pairwise_reverse → Vp, getElem?_reverse → Vq, mem_of_mem_drop → Wm, getElem?_set_ne → Wn, map_drop → Yj, map_inj_right → Zm, getElem?_drop → Zn, filterMap_map → Zo, map_nil → aW, map_dropLast → aX, mapM_toArray → aY, flatten_cons → aZ, all_map → bA, eraseIdx_eq_take_drop_succ → bT, sublist_nil → fS, append_cancel_right → pP, drop_of_length_le → sQ, drop_eq_nil_of_le → sR, mem_iff_getElem? → vQ, filter_eq_self → yI, find?_eq_none → J2
open List.Pairwise renaming nil → Eh, sublist → Kb
open List.Perm renaming swap → Ds, refl → Ii, cons → Kx, append_left → Nn
open List.Sublist renaming refl → Cs
open List.cons renaming inj → Oc
open Nat renaming le_refl → Ak, le_trans → Br, lt_of_lt_of_le → Cc, ne_of_lt → Cz, zero_le → Em, not_lt_zero → Fl, pow_le_pow_right → Gd, mod_eq_of_lt → Iy, zero_add → Jq, lt_irrefl → Ju, lt_succ_of_lt → Ll, le_of_lt → Ma, le_succ → Pb, min_eq_left → Qa, pow_succ → Qk, mod_lt → Qz, lt_of_le_of_lt → Ra, lt_trichotomy → Ss, add_mod → Su, le_add_right → Th, succ_pos → Vh, add_right_comm → aJ, min_eq_right → fY, lt_succ_iff → iZ
open Ne renaming symm → Qt
open Option renaming isSome_iff_exists → Rp
open Option.some renaming inj → Bu
open Or renaming inl → Dw
open Prod.mk renaming injEq → Oi
open PyProof.Rows renaming wpS_bind → Bb, pendingOf → Bj, wpS_pure → Bn, SortSt → Ce, slot_tuple_getitem → Dg, seqObj → Di, wpS_forRange → Fk, IntsAre → Ib, wpS_mono → Iw, wpS_modify → Lg, failedOf → Mn, SortKind → Mo, listUpdate_at → Np, callWith_type1 → Oh, wpS_get → Oq, get?_update_seq → Qy, size_push' → Tb, seqEpoch_at → Ug, AllBare → Ul, reverseSlice' → Vf, sortedAll → Vx, sortedHeap → Wq, listItems_at → Wr, slicePart_none → aE, pairsOf_toList → aF, pairsOf → aU, entry_tuple_getitem → bS, subscriptTail → fO, firstOfTuple' → fQ, args_tuple_getitem → fX, mem_zip_self → iX, subscriptTail_builtinR → J6
open PyProof.Rows.F renaming plain_set_update_loop → Ht, entry_set_update_loop → Sr
open PyProof.Rows.SortSt renaming mk' → Yd
open PySem renaming PyData → Ad, wpAny_bind → Ah, Shared → Ap, wpAny_pure → Au, sizeLine → Bf, starEach → Bl, Program → Bz, tupleKeyHash → Cb, SetTable → Cj, intKind → Cp, FuncData → Cu, mainGlobals → Dj, Around → Dm, wpAny_holding → Fq, foldedSetIterable → Fu, assignEach → Gg, cellsFrom → Gh, wpAny_newObj_type → Gu, backTo → Hf, IsTupleKey → Ho, behindInMarks → Hz, wpAny_truthy_bool → Ip, swapsWith → Jf, compareOp → Jg, holding → Jy, wpAny_mono → Kg, attributeBase → Kh, Keyword → Ku, sliceBounds → Ld, sizeLine_eq → Le, bootBuiltins → Lh, binaryOp → Lp, keywordEach → Mm, wpAny_typeOf → Mt, wpAny_call_entry → Mu, assign → Ni, getItem → Ny, codeAny_builtin → Nz, ofAClassStatement → Os, wpAny_newList → Qc, subscripted → Qj, NameKind → Ql, wpAny_passesOwn → Qx, codeAny → Ru, wpAny_Call_Name_kw → Ta, backToKw → Tc, wpAny_field → Ue, strLen_append → Vd, setSearchFrom → Ve, wpAny_forIn_list → Vv, wpAny_callSpecial?_slot → Vw, noFill_tuple_add → Vy, codeAny_mono → Wt, builtinsNs → Wu, wpAny_loadPart' → Yb, letOwnedTupleGo → Yc, newFunctionEnv → aG, hashByValue → aH, IsPart → aK, callerA → aV, swapsWithSole → fM, swappedStores → fN, seq_tuple_add → fP, evalPart_none → fR, call_meets → fW, wpAny_sequenceKey → iU, wpAny_pyIter_list → iV, slot_list_getitem → iW, concat_meets → iY, wpAny_getItem_list_slice → yG, wpAny_comprehension_free → yH, wpAny_pyNext_list_item → J5, codeAny_compStart_list → J9
open PySem.Around renaming under_plainId → Vr
open PySem.Builtin renaming sorted → Yk
open PySem.Builtin.List renaming listTooLong → Pz, listExtendWith → Ym, listFitsIndex → Zq
open PySem.Builtin.Slice renaming slicePlaces → Eo, sliceAdjust → Ij, sliceApplied → Km, sliceFields → Zp
open PySem.Builtin.Tuple renaming tupleExact → Ff, tupleItemsOf → Ol, tupleIsExact → Yl
open PySem.Calls renaming call_function_entry → Rb, Name_function_global → jA
open PySem.F renaming slot_list_insert → bU
open PySem.Heap renaming get?_push_of_some → Aq, lt_size → Bq, get?_push_size → Ca, size_update → Hu, SameBut → Lx, get?_push_ne → Rx, get?_update_other → sS
open PySem.Heap.SameBut renaming update → Gc
open PySem.NameKind renaming free → Er, cell → Es
open PySem.Obj renaming mapSeq → Ct, putSet → aI
open PySem.PassesOwn renaming never → Eb
open PySem.PyData renaming depthAll → Bd, int → Be, depth → Bm, list → Ki, showable → Kq, hasDict → Nm, shownAll → Ox, tuple → Pu, shown → Pw, showableAll → Ye, hasDictAll → Zl
open PySem.SeqAt renaming EqAt → Oj
open PySem.SetTable renaming below → Co, insertAt → Cr, bits → Dc, runEnd → Dk, Probe → Dx, turns → Fj, laid → Ie, layClean → Kw, advance → Lk, toList_insertAt → Qs, insertAt_perm → Sq, slot → Vz, sizeAbove → Wl
open PySem.SetTable.below renaming go → Ui
open PySem.SetTable.layClean renaming free → Dy
open PySem.SetTable.probe renaming go → Uh
open PySem.SetTable.sizeAbove renaming go → Lu
open PySem.Str renaming ofString → Lz
open PySem.Value renaming ref → Am, type → Ep, int → Wk, none → Yi
open Sum renaming inl → Vg
open True renaming intro → Zk
namespace L2
open PySem PySem.Spec PyProof.Rows
abbrev bM:=Sum Int Str
def W4:bM->Value->Bool
 | .inl k,v=>Value.isInt k v
 | .inr x,v=>Value.isStrOf x v
def ID(w:World):bM->Int
 | .inl k=>hashInt k
 | .inr x=>hashStr w x
theorem Je:∀{k:bM} {v:Value},W4 k v=true->(∃i t,k=Vg i/\v=Wk i t)\/(∃x t,k=Sum.inr x/\v=Value.str x t)
 | .inl i,v,h=>by
  obtain ⟨t,e⟩:=Value.isInt_shape (k:=i) (v:=v) h
  exact .inl ⟨i,t,rfl,e⟩
 | .inr x,v,h=>by
  obtain ⟨t,e⟩:=Value.isStrOf_shape (x:=x) (v:=v) h
  exact .inr ⟨x,t,rfl,e⟩
theorem BC(a b:Int):decide ((Vg a:bM)=Vg b)=(a == b):=by
 by_cases e:a=b
 ·subst e; simp
 ·have h:¬ (Vg a:bM)=Vg b:=λq=>e (Sum.inl.inj q)
  rw[decide_eq_false h]
  exact (beq_eq_false_iff_ne.mpr e).symm
theorem BD(a b:Str):decide ((Sum.inr a:bM)=Sum.inr b)=decide (a=b):=by
 by_cases e:a=b
 ·subst e; simp
 ·have h:¬ (Sum.inr a:bM)=Sum.inr b:=λq=>e (Sum.inr.inj q)
  rw[decide_eq_false h,decide_eq_false e]
theorem BM(a:Int)(b:Str):decide ((Vg a:bM)=Sum.inr b)=false:=decide_eq_false (λq=>nomatch q)
theorem CG(a:Str)(b:Int):decide ((Sum.inr a:bM)=Vg b)=false:=decide_eq_false (λq=>nomatch q)
def jC(prog:Bz)(w:World):PySem.KeyKind prog w bM where
 is:=W4
 hash:=ID w
 inj:=λv a b f d=>by
  rcases Je f with ⟨i,t,rfl,rfl⟩ | ⟨x,t,rfl,rfl⟩
  ·rcases Je d with ⟨j,u,rfl,e⟩ | ⟨y,u,rfl,e⟩
   ·injection e with e1 _; rw[e1]
   ·exact nomatch e
  ·rcases Je d with ⟨j,u,rfl,e⟩ | ⟨y,u,rfl,e⟩
   ·exact nomatch e
   ·injection e with e1 _; rw[e1]
 byValue:=λk v h=>by
  rcases Je h with ⟨i,t,rfl,rfl⟩ | ⟨x,t,rfl,rfl⟩ <;> rfl
 pyHash:=λc h=>by
  rcases Je c with ⟨i,t,rfl,rfl⟩ | ⟨x,t,rfl,rfl⟩
  ·exact wpAny_pyHash_int h
  ·exact wpAny_pyHash_str h
 eqBool:=λg c h=>by
  rcases Je g with ⟨i,t,rfl,rfl⟩ | ⟨x,t,rfl,rfl⟩
  ·rcases Je c with ⟨j,u,rfl,rfl⟩ | ⟨y,u,rfl,rfl⟩
   ·rw[BC] at h; exact wpAny_eqBool_int h
   ·rw[BM] at h; exact SeqAt.EqAt.int_str i t y u _ _ _ _ h
  ·rcases Je c with ⟨j,u,rfl,rfl⟩ | ⟨y,u,rfl,rfl⟩
   ·rw[CG] at h; exact SeqAt.EqAt.str_int x t j u _ _ _ _ h
   ·rw[BD] at h; exact wpAny_eqBool_str h
 «strs»:=λk x t v h=>by
  rcases Je h with ⟨i,u,rfl,e⟩ | ⟨y,u,rfl,e⟩
  ·exact nomatch e
  ·injection e with e1 _
   subst e1
   cases v <;> rfl
inductive V where
 | non | bl (b:Bool) | int (i:Int) | str (x:Str) | byt (b:Array UInt8) | flt (b:UInt64) | ref (a:Addr) | ty (n:String)
 deriving DecidableEq
def RelV:V->Value->Prop
 | .non,u=>u=Yi
 | .bl b,u=>u=Value.bool b
 | .int i,u=>∃t,u=Wk i t
 | .str x,u=>∃t,u=Value.str x t
 | .byt b,u=>∃t,u=Value.bytes b t
 | .flt b,u=>∃t,u=Value.float b t
 | .ref a,u=>u=Am a
 | .ty n,u=>u=Ep n
abbrev Gw:List V->List Value->Prop:=Paired RelV
theorem Gw.length{xs:List V}{us:List Value}(r:Gw xs us):xs.length=us.length:=Paired.length r
theorem Gw.get:∀{xs:List V} {us:List Value} {i:Nat} {x:V},Gw xs us->xs[i]? = some x->∃u,us[i]? = some u/\RelV x u
 | _,_,_,_,.nil,e=>by simp at e
 | _,_,0,_,.cons r _,e=>by simp at e; subst e; exact ⟨_,rfl,r⟩
 | _,_,i+1,x,.cons _ t,e=>by
  obtain ⟨u,b,a⟩:=Gw.get (i:=i) (x:=x) t (by simpa using e)
  exact ⟨u,by simpa using b,a⟩
theorem Gw.set{x:V}{u:Value}(r:RelV x u):∀{xs:List V} {us:List Value} (i:Nat),Gw xs us->Gw (xs.set i x) (us.set i u)
 | _,_,_,.nil=>.nil
 | _,_,0,.cons _ t=>.cons r t
 | _,_,i+1,.cons q t=>.cons q (Gw.set r i t)
theorem Gw.append:∀{xs ys:List V} {us ws:List Value},Gw xs us->Gw ys ws->Gw (xs++ys) (us++ws)
 | _,_,_,_,.nil,s=>s
 | _,_,_,_,.cons r t,s=>.cons r (Gw.append t s)
theorem Gw.take:∀{xs:List V} {us:List Value} (n:Nat),Gw xs us->Gw (xs.take n) (us.take n)
 | _,_,0,_=>.nil
 | _,_,_+1,.nil=>.nil
 | _,_,n+1,.cons r t=>.cons r (Gw.take n t)
theorem Gw.drop:∀{xs:List V} {us:List Value} (n:Nat),Gw xs us->Gw (xs.drop n) (us.drop n)
 | _,_,0,r=>r
 | _,_,_+1,.nil=>.nil
 | _,_,n+1,.cons _ t=>Gw.drop n t
def AX:Option V->Option Value->Prop
 | some v,some u=>RelV v u
 | none,none=>True
 | _,_=>False
def KV{a:Type}:List (a×V)->List (a×Value)->Prop:=Paired λ(p:a×V) (q:a×Value)=>p.1=q.1/\RelV p.2 q.2
def kV:bM->V
 | .inl i=>.int i
 | .inr x=>.str x
inductive HO where
 /-- a list -/
 | lst (xs:List V)
 /-- a tuple (never changes) -/
 | tup (xs:List V)
 /-- a dict whose Q3 are ints and texts; one whose Q3 are tuples of ints and texts (the empty one is both) -/
 | dK (kvs:List (bM×V)) | dT (kvs:List (List bM×V))
 /-- a set of ints: its members,its size -/
 | set (S:Int->Bool) (n:Nat)
 /-- an instance of the class at C,its dict at dx,its attributes -/
 | ins (C dx:Addr) (fs:List (Str×V))
 /-- the dict of the instance at x -/
 | own (x:Addr)
 /-- the dict of an exception -/
 | xd (fs:List (Str×V))
 /-- a bound method,f of x -/
 | met (f x:Addr)
 /-- a range object lo,lo+1,.. below hi -/
 | rng (lo hi:Int)
 /-- a thing that is known to the object (the script; a dict while a loop walks it): read,never written while it is so -/
 | frz (o:Obj) (u:HO)
 /-- a code object's table -/
 | tbl (ps:Array Value)
 /-- any other thing,by what is true of its one object (a def of one's own: JF a S n:=HO.ext λh=>..) -/
 | ext (φ:Heap->Prop)
abbrev Hp:=Addr->Option HO
def upd(H:Hp)(a:Addr)(o:HO):Hp:=λb=>if b=a then some o else H b
theorem Dq{H:Hp}{a:Addr}{o:HO}:upd H a o a=some o:=by unfold upd; rw[if_pos rfl]
theorem Ei{H:Hp}{a b:Addr}{o:HO}(h:b≠a):upd H a o b=H b:=by unfold upd; rw[if_neg h]
theorem GN{H:Hp}{a b:Addr}{o u:HO}(h:H a=some o)(h':H b=some u)(d:o≠u):a≠b:=by
 intro e; subst e; rw[h] at h'; exact d (Bu h')
theorem Hn{H:Hp}{a b:Addr}{o:HO}(h:H a=some o)(h':H b=none):a≠b:=by
 intro e; subst e; rw[h] at h'; cases h'
section
variable(P:Bz)(w:World)
def Mj(H:Hp)(h:Heap)(a:Addr):HO->Prop
 | .lst e=>e.length<=Bf/\∃(b:List Value) (n:Nat),Gw e b/\h.get? a=some { cls:=.type "list",data:=.seq b.toArray n }
 | .tup e=>e.length<=Bf/\∃b:List Value,Gw e b/\IsTup h a b.toArray
 | .dK d=>d.length<=Bf/\(a == sysModules)=false/\∃vs,KV d vs/\h.DictOf (jC P w) a vs
 | .dT d=>d.length<=Bf/\(a == sysModules)=false/\∃e:List (List bM×Addr×Value),
   Paired (λ(p:List bM×V) (q:List bM×Addr×Value)=>p.1=q.1/\H q.2.1=some (.tup (p.1.map kV))/\RelV p.2 q.2.2) d e /\
   ∃o m y,h.get? a=some o/\o.ExactDict/\o.data=.dict m y/\m.toList=e.map (entryOfKey (tupleKind (jC P w)))/\(e.map (·.1)).Nodup/\y=m.size
 | .set S n=>h.SetOf (Cp P w) a S n
 | .ins C i fs=>H i=some (.own a)/\fs.length<=1000/\i≠a/\h.get? a=some (PySem.W.instObj C i) /\
   ∃g,h.Ns1 i g/\(∀f,AX (fs.lookup f) (g f))/\PySem.Within g (fs.map (·.1))
 | .own _=>∃o,h.get? a=some o
 | .xd fs=>∃g,h.Ns1 a g/\∀f,AX (fs.lookup f) (g f)
 | .rng lo E=>∃t u v,h.get? a=some { cls:=.type "range",data:=.fields #[.int lo t,.int E u,.int 1 v] }
 | .frz o u=>h.get? a=some o/\Mj H h a u
 | .tbl D=>∃j:Array Value,h.get? a=some { cls:=.none,data:=.fields j }/\TriplesOk j.toList/\∀(l:Pos) (v:Value),codeAmong l j.toList=some v->∃(c:Addr) (r:Obj) (s:Array Value) (q:Str) (t B:Tok),v=.ref c/\H c=some (.own a)/\h.get? c=some r/\r.data=.fields s/\s[1]? = some (.str q t)/\D[0]? = some (.str q B)
 | .met f x=>h.get? a=some (PySem.W.methodObj (.ref f) (.ref x))
 | .ext k=>k h/\(∃o,h.get? a=some o)/\∀z A:Heap,k z->(∀o,z.get? a=some o->A.get? a=some o)->k A
def fT(H:Hp)(h:Heap):Prop:=∀a o,H a=some o->Mj P w H h a o
end
section
variable{P:Bz}{w:World}{H H':Hp}{h h':Heap}{a:Addr}{o:HO}
theorem Mj.lt(x:Mj P w H h a o):a<h.objs.size:=by
 cases o with
 | lst c=>obtain ⟨_,_,_,_,e⟩:=x; exact Bq e
 | tup c=>obtain ⟨_,_,_,p⟩:=x; exact p.lt
 | dK b=>obtain ⟨_,_,_,_,o,_,_,e,_⟩:=x; exact Bq e
 | dT b=>obtain ⟨_,_,_,_,o,_,_,e,_⟩:=x; exact Bq e
 | set S n=>obtain ⟨o,_,_,_,e,_⟩:=x; exact Bq e
 | ins C g fs=>obtain ⟨_,_,_,e,_⟩:=x; exact Bq e
 | own y=>obtain ⟨_,e⟩:=x; exact Bq e
 | xd fs=>obtain ⟨_,⟨_,_,_,e,_⟩,_⟩:=x; exact Bq e
 | rng lo j=>obtain ⟨_,_,_,e⟩:=x; exact Bq e
 | frz k u=>obtain ⟨e,_⟩:=x; exact Bq e
 | tbl i=>obtain ⟨_,e,_⟩:=x; exact Bq e
 | met f y=>exact Bq (show h.get? a=some _ from x)
 | ext d=>obtain ⟨_,⟨_,e⟩,_⟩:=x; exact Bq e
theorem Paired.mapP{d c:Type}{F G:d->c->Prop}:∀{l₁:List d} {l₂:List c},Paired F l₁ l₂->(∀a b,F a b->G a b)->Paired G l₁ l₂
 | _,_,.nil,_=>.nil
 | _,_,.cons r t,f=>.cons (f _ _ r) (Paired.mapP t f)
theorem Mj.stay(x:Mj P w H h a o)(k:∀b u,(b=a\/H b=some (.own a))->h.get? b=some u->h'.get? b=some u)(D:∀b,H b=some (.own a)->H' b=some (.own a))(F:∀b xs,H b=some (.tup xs)->H' b=some (.tup xs)):Mj P w H' h' a o:=by
 induction o with
 | lst xs=>obtain ⟨z,l,n,r,e⟩:=x; exact ⟨z,l,n,r,k _ _ (.inl rfl) e⟩
 | tup xs=>obtain ⟨z,l,r,g,e,c⟩:=x; exact ⟨z,l,r,g,k _ _ (.inl rfl) e,c⟩
 | dK m=>obtain ⟨z,y,vs,r,g,i,j,e,c⟩:=x; exact ⟨z,y,vs,r,g,i,j,k _ _ (.inl rfl) e,c⟩
 | dT m =>
  obtain ⟨z,y,xs,r,g,i,j,e,c⟩:=x
  exact ⟨z,y,xs,Paired.mapP r λp q z=>⟨z.1,F _ _ z.2.1,z.2.2⟩,g,i,j,k _ _ (.inl rfl) e,c⟩
 | set S n=>obtain ⟨g,i,j,t,e,c⟩:=x; exact ⟨g,i,j,t,k _ _ (.inl rfl) e,c⟩
 | ins C T fs =>
  obtain ⟨d,z,G,e,A,⟨B,i,j,O,c⟩,r⟩:=x
  exact ⟨D _ d,z,G,k _ _ (.inl rfl) e,A,⟨B,i,j,k _ _ (.inr d) O,c⟩,r⟩
 | own y=>obtain ⟨g,e⟩:=x; exact ⟨g,k _ _ (.inl rfl) e⟩
 | xd fs=>obtain ⟨A,⟨B,i,j,e,c⟩,r⟩:=x; exact ⟨A,⟨B,i,j,k _ _ (.inl rfl) e,c⟩,r⟩
 | rng lo V=>obtain ⟨t,u,v,e⟩:=x; exact ⟨t,u,v,k _ _ (.inl rfl) e⟩
 | frz g u R=>obtain ⟨e,q⟩:=x; exact ⟨k _ _ (.inl rfl) e,R q⟩
 | tbl U =>
  obtain ⟨J,e,t,z⟩:=x
  exact ⟨J,k _ _ (.inl rfl) e,t,λs v y=>by
   obtain ⟨c,I,K,q,t,M,L,E,Q,N⟩:=z s v y
   exact ⟨c,I,K,q,t,M,L,D _ E,k _ _ (.inr E) Q,N⟩⟩
 | met f y =>
  have e:h.get? a=some (PySem.W.methodObj (.ref f) (.ref y)):=x
  show h'.get? a=some (PySem.W.methodObj (.ref f) (.ref y))
  exact k a _ (.inl rfl) e
 | ext X=>obtain ⟨p,⟨o,e⟩,st⟩:=x; exact ⟨st _ _ p λo q=>k _ _ (.inl rfl) q,⟨o,k _ _ (.inl rfl) e⟩,st⟩
theorem fT.lt(x:fT P w H h)(e:H a=some o):a<h.objs.size:=(x a o e).lt
theorem fT.fresh(x:fT P w H h)(e:h.objs.size<=a):H a=none:=by
 cases q:H a with
 | none=>rfl
 | some u=>exact absurd (Cc (x.lt q) e) (Ju _)
theorem fT.kept(x:fT P w H h)(k:∀b u,h.get? b=some u->h'.get? b=some u):fT P w H h':=λa o e =>
 (x a o e).stay (λb u _ q=>k b u q) (λ_ q=>q) λ_ _ q=>q
theorem fT.laid(x:fT P w H h)(k:∀b u,h.get? b=some u->h'.get? b=some u)(i:h.objs.size<=a)(d:Mj P w (upd H a o) h' a o):fT P w (upd H a o) h':=λb u e=>by
 have f:=x.fresh i
 by_cases g:b=a
 ·subst g; rw[Dq] at e; cases e; exact d
 ·rw[Ei g] at e
  exact (x b u e).stay (λc v _ q=>k c v q) (λc q=>by rw[Ei (Hn q f)]; exact q) λc j q=>by rw[Ei (Hn q f)]; exact q
end
def Rd(H:Hp)(a:Addr)(u:HO):Prop:=H a=some u\/∃o,H a=some (.frz o u)
theorem Rd.ok{P:Bz}{w:World}{H:Hp}{h:Heap}{a:Addr}{u:HO}(r:Rd H a u)(x:fT P w H h):Mj P w H h a u:=by
 rcases r with r | ⟨o,r⟩
 ·exact x a u r
 ·obtain ⟨_,q⟩:=x a _ r
  exact q
def HX:Option HO->Prop
 | some (.lst _)=>True
 | some (.dK _)=>True
 | some (.dT _)=>True
 | some (.set _ _)=>True
 | some (.ins _ _ _)=>True
 | some (.ext _)=>True
 | _=>False
section
variable{P:Bz}{w:World}{H:Hp}{h h':Heap}{x e:Addr}{a:HO}
theorem fT.write(ok:fT P w H h)(i:HX (H x))(n:e=x\/H e=some (.own x))(k:∀b u,b≠e->h.get? b=some u->h'.get? b=some u)(m:∃u,h'.get? e=some u)(l:Mj P w (upd H x a) h' x a):fT P w (upd H x a) h':=λb u q=>by
 have f:∀c y,H c=some (.own y)->c≠x:=λc y r z=>by subst z; rw[r] at i; exact i
 have dA:∀c j,H c=some (.tup j)->c≠x:=λc j r z=>by subst z; rw[r] at i; exact i
 by_cases g:b=x
 ·subst g; rw[Dq] at q; cases q; exact l
 ·rw[Ei g] at q
  by_cases d:b=e
  ·have o:H b=some (.own x):=by
    rcases n with z | z
    ·exact absurd (d.trans z) g
    ·rw[d]; exact z
   rw[q] at o; cases o
   obtain ⟨v,p⟩:=m
   exact ⟨v,by rw[d]; exact p⟩
  ·refine (ok b u q).stay (λc v hc r=>k c v ?_ r) (λc r=>by rw[Ei (f c b r)]; exact r) λc j r=>by rw[Ei (dA c j r)]; exact r
   rcases hc with rfl | hc
   ·exact d
   ·rintro rfl
    rcases n with z | z
    ·exact f c b hc z
    ·rw[hc] at z; cases z; exact g rfl
end
structure Un(fs ex:List Addr)(H H':Hp)(h h':Heap):Prop where
 keep:∀b o,h.get? b=some o->H b=none->b∉fs->b∉ex->h'.get? b=some o
 slot:∀b o,h.get? b=some o->H b=none->b∈fs->b∉ex->∃sl,h'.get? b=some { o with slots:=sl }
 free:∀b o,h.get? b=some o->H b=none->b∉ex->H' b=none
 there:∀b o,h.get? b=some o->b∉ex->∃o',h'.get? b=some o'
 tups:∀b xs,H b=some (.tup xs)->H' b=some (.tup xs)
 frzs:∀b o u,H b=some (.frz o u)->H' b=some (.frz o u)
 tbls:∀b ps,H b=some (.tbl ps)->∃more,H' b=some (.tbl (ps++more))
section
variable{fs d ex c:List Addr}{H f g:Hp}{h h1 i h':Heap}{a x e:Addr}{o:HO}
theorem Un.any(u:Un fs ex H f h h1){b:Addr}{a:Obj}(q:h.get? b=some a)(n:H b=none)(c:b∉ex):∃e,h1.get? b=some { a with slots:=e }:=by
 by_cases d:b∈fs
 ·exact u.slot b a q n d c
 ·exact ⟨a.slots,u.keep b a q n d c⟩
theorem Un.kept(k:∀b u,h.get? b=some u->h'.get? b=some u):Un fs ex H H h h' :=
 ⟨λb a q _ _ _=>k b a q,λb a q _ _ _=>⟨a.slots,k b a q⟩,λ_ _ _ n _=>n,λb a q _=>⟨a,k b a q⟩,λ_ _ q=>q,λ_ _ _ q=>q,λ_ c q=>⟨#[],by rw[q]; simp⟩⟩
theorem Un.refl:Un fs ex H H h h:=Un.kept λ_ _ q=>q
theorem Un.laid(k:∀b u,h.get? b=some u->h'.get? b=some u)(d:h.objs.size<=a)(c:H a=none):Un fs ex H (upd H a o) h h' where
 keep:=λb u q _ _ _=>k b u q
 slot:=λb u q _ _ _=>⟨u.slots,k b u q⟩
 free:=λb u q n _=>by rw[Ei (Cz (Cc (Bq q) d))]; exact n
 there:=λb u q _=>⟨u,k b u q⟩
 tups:=λb e q=>by rw[Ei (Hn q c)]; exact q
 frzs:=λb u e q=>by rw[Ei (Hn q c)]; exact q
 tbls:=λb f q=>⟨#[],by rw[Ei (Hn q c),q]; simp⟩
theorem Un.write(c:HX (H x))(j:e=x\/H e=some (.own x))(k:∀b u,b≠e->h.get? b=some u->h'.get? b=some u)(d:∃u,h'.get? e=some u):Un fs ex H (upd H x o) h h':=by
 have g:∀b,H b=none->b≠x:=λb n z=>by subst z; rw[n] at c; exact c
 have i:∀b,H b=none->b≠e:=λb n z=>by
  subst z
  rcases j with r | r
  ·exact g b n r
  ·rw[n] at r; cases r
 have f:∀b u,H b=some u->¬ HX (some u)->b≠x:=λb u q l z=>by subst z; rw[q] at c; exact l c
 refine ⟨λb u q n _ _=>k b u (i b n) q,λb u q n _ _=>⟨u.slots,k b u (i b n) q⟩,λb u q n _=>by rw[Ei (g b n)]; exact n,λb u q _=>?_,
  λb m q=>by rw[Ei (f b _ q λz=>z)]; exact q,λb u m q=>by rw[Ei (f b _ q λz=>z)]; exact q,λb p q=>⟨#[],by rw[Ei (f b _ q λz=>z),q]; simp⟩⟩
 by_cases a:b=e
 ·subst a; exact d
 ·exact ⟨u,k b u a q⟩
end
def HL(h:Heap)(H:Hp):List Addr:=(Ck h.objs.size).filter λa=>(H a).isSome
def gE(h:Heap)(H:Hp):Heap:=PySem.W.hideAll h (HL h H)
theorem yC(h:Heap)(H:Hp):(gE h H).objs.size=h.objs.size:=PySem.W.hideAll_size _ _
theorem n9{h:Heap}{H:Hp}{b:Addr}{o:Obj}(e:h.get? b=some o)(n:H b=none):(gE h H).get? b=some o :=
 PySem.W.hideAll_get _ e λa=>by
  have q:(H b).isSome=true:=(Py.mp a).2
  rw[n] at q; simp at q
theorem T6{h:Heap}{H:Hp}{b:Addr}{o:Obj}(e:(gE h H).get? b=some o):h.get? b=some o/\H b=none:=by
 have a:h.get? b=some o:=PySem.W.of_hideAll (HL h H) e
 refine ⟨a,?_⟩
 cases q:H b with
 | none=>rfl
 | some x =>
  have c:b∈HL h H:=List.mem_filter.mpr ⟨Hj.mpr (Bq a),by simp [q]⟩
  have z:(gE h H).get? b=none:=PySem.W.hideAll_none (HL h H) c
  rw[z] at e; cases e
def L9(g h:Heap)(L:Addr):List (Addr×Obj):=(Ck h.objs.size).filterMap λa=>if a=L\/(g.get? a).isSome=true then none else (h.get? a).map λo=>(a,o)
def Gx(g h:Heap)(L d:Addr):List (Addr×Obj):=(L9 g h L).filter λp=>decide (p.1≠d)
structure Mod(K:PySem.W.Frag)(mg:Str->Option Value)(base:Heap):Prop where
 kin:K.In base
 glob:base.Ns Dj mg
 blt:∃mb,base.Ns Wu mb/\∀x:Str,x ≠ "__name__" -> mb x=Lh x
 nolimit:base.NoLimit
def Xg:List Str:=["often", "cut_by"]
def CD(x:Str):Str:=x ++ ".<locals>." ++ "<lambda>"
def X7(H:Hp)(P:Addr)(q:Str):Prop:=∃(a:Array Value) (b:Tok),H P=some (.tbl a)/\a[0]? = some (.str q b)
def zT(K:PySem.W.Frag)(mg:Str->Option Value)(base:Heap)(H:Hp):Prop:=∀x∈Xg,∀c P,PySem.W.tabIn K x=some (c,P)->PySem.W.CodeHd base c P/\base.BuiltinsAt mg P/\X7 H P (CD x)
theorem zT.un{K:PySem.W.Frag}{mg:Str->Option Value}{base:Heap}{fs ex:List Addr}{H H':Hp}{h h':Heap}(t:zT K mg base H)(u:Un fs ex H H' h h'):zT K mg base H':=λx j c P e=>by
 obtain ⟨g,l,a,i,d,b⟩:=t x j c P e
 obtain ⟨more,k⟩:=u.tbls P a d
 refine ⟨g,l,a++more,i,k,?_⟩
 have f:0<a.size:=by
  rcases Nat.eq_zero_or_pos a.size with z | z
  ·rw[Array.getElem?_eq_none (by omega)] at b; cases b
  ·exact z
 rw[Array.getElem?_append_left f]
 exact b
structure Cx where
 prog:Bz
 w:World
 K:PySem.W.Frag
 mg:Str->Option Value
 base:Heap
 A:Dm
 N:List Str
 s₀:Ap
 H₀:Hp
 env:Env
 outer:List Env
 stack:List Env
 ex:List Addr
 fn:Str->Bool
 calm:Bool
 pn:List (Addr×Obj)
 xe:Value->Ap->Prop
def yB(l:List Env):List Addr:=l.filterMap (·.frame)
abbrev Cx.fs(X:Cx):List Addr:=yB X.outer
def HM(a:Scope)(x:Str):Prop:=a.names.lookup x=some .local\/a.names.lookup x=some .cell\/a.names.lookup x=some .free
def Loc(a:Scope)(x:Str):Prop:=a.names.lookup x=some .local\/a.names.lookup x=some .cell
def JE(env:Env)(h:Heap)(m:Str->Option Value)(x:Str)(u:Value):Prop :=
 (env.kindOf x=some .local/\m x=some u)\/((env.kindOf x=some .cell\/env.kindOf x=some .free)/\∃c,env.cells.lookup x=some c/\h.IsCell c (some u))
structure Cx.Ok(X:Cx):Prop where
 mod:Mod X.K X.mg X.base
 kind:X.env.scope.kind=.function
 glob:X.env.globals=Dj
 blt:X.env.builtins=Wu
 above:X.s₀.heap.objs.size<=X.env.locals
 inj:∀x y c,X.env.cells.lookup x=some c->X.env.cells.lookup y=some c->x=y
 has:∀x,(X.env.kindOf x=some .cell\/X.env.kindOf x=some .free)->∃c,X.env.cells.lookup x=some c
 cab:∀x c,X.fn x=true->X.env.cells.lookup x=some c->X.s₀.heap.objs.size<=c
 hd:X.calm=true->X.A.handled=none
 frames:X.A.frames=some X.stack
 stk:X.stack=X.outer\/(X.stack=X.env::X.outer/\X.env.frame=some X.env.locals)
 exf:∀b∈X.ex,b≠X.env.locals/\∀x c,X.env.cells.lookup x=some c->c≠b
 bs:∀b o,X.base.get? b=some o->X.s₀.heap.get? b=some o/\X.H₀ b=none
 bsz:X.base.objs.size<=X.s₀.heap.objs.size
 noex:∀b o,X.base.get? b=some o->b∉X.ex
 exfs:∀b∈X.ex,b∉X.fs
 funs:X.s₀.heap.FunFrames X.base X.outer
 frf:∀b∈X.fs,X.H₀ b=none
 tab:zT X.K X.mg X.base X.H₀
structure Inv(X:Cx)(pins:List (Addr×Obj))(σ:List (Option V))(H:Hp)(s:Ap):Prop where
 ok:X.Ok
 os:s.os=X.s₀.os
 bare:Ul s.gens
 base:Un X.fs X.ex X.H₀ H X.s₀.heap s.heap
 loc:∃m,s.heap.Ns X.env.locals m/\∀(i:Nat) (x:Str) (v:V),X.N[i]? = some x->σ[i]? = some (some v)->HM X.env.scope x->∃u,RelV v u/\JE X.env s.heap m x u
 cell:∀x c,X.env.cells.lookup x=some c->∃v,s.heap.IsCell c v
 free:H X.env.locals=none
 freeC:∀x c,X.env.cells.lookup x=some c->H c=none
 pin:∀p∈X.pn++pins,s.heap.get? p.1=some p.2/\H p.1=none/\p.1≠X.env.locals/\p.1∉X.fs/\∀v,p.2.data≠.cell v
 hok:fT X.prog X.w H s.heap
 len:σ.length=X.N.length
section
variable{X:Cx}{f:List (Addr×Obj)}{g:List (Option V)}{H H':Hp}{s:Ap}{h':Heap}
theorem Cx.Ok.nofr(ok:X.Ok){b:Addr}{o:Obj}(e:X.base.get? b=some o):b∉X.fs:=λa=>by
 have:=(ok.funs.mem a).1
 rw[e] at this; cases this
theorem Inv.bs(I:Inv X f g H s):∀b o,X.base.get? b=some o->s.heap.get? b=some o/\H b=none:=λb o e =>
 ⟨I.base.keep b o (I.ok.bs b o e).1 (I.ok.bs b o e).2 (I.ok.nofr e) (I.ok.noex b o e),I.base.free b o (I.ok.bs b o e).1 (I.ok.bs b o e).2 (I.ok.noex b o e)⟩
theorem Inv.bk(I:Inv X f g H s):∀b o,X.base.get? b=some o->s.heap.get? b=some o:=λb o e=>(I.bs b o e).1
theorem Inv.mod(I:Inv X f g H s):Mod X.K X.mg X.base:=I.ok.mod
theorem Inv.kIn(I:Inv X f g H s):X.K.In s.heap:=I.ok.mod.kin.keeps I.bk
theorem Inv.lt(I:Inv X f g H s):X.env.locals<s.heap.objs.size:=let ⟨_,hn,_⟩:=I.loc; hn.lt
theorem Inv.sz(I:Inv X f g H s):X.s₀.heap.objs.size<=s.heap.objs.size:=Br I.ok.above (Ma I.lt)
theorem Inv.nofs(I:Inv X f g H s){a:Addr}(h:s.heap.objs.size<=a):a∉X.fs:=λb=>by
 obtain ⟨_,o,c,_⟩:=I.ok.funs.mem b
 exact absurd (Cc (Bq c) (Br I.sz h)) (Ju _)
theorem Inv.cne(I:Inv X f g H s):∀x c,X.env.cells.lookup x=some c->c≠X.env.locals:=λx c e z=>by
 obtain ⟨v,o,h,d⟩:=I.cell x c e
 obtain ⟨m,⟨i,k,j,b,a,_⟩,_⟩:=I.loc
 rw[z,b] at h; cases h; rw[a] at d; cases d
theorem Inv.funs(I:Inv X f g H s):s.heap.FunFrames X.base X.outer:=by
 have all:∀(l:List Env),(∀b∈yB l,b∈X.fs)->X.s₀.heap.FunFrames X.base l->s.heap.FunFrames X.base l:=by
  intro l
  induction l with
  | nil=>intro _ _; trivial
  | cons j r p =>
   intro h m
   obtain ⟨i,⟨L,o,a,n,t,q⟩,k⟩:=m
   have d:L∈X.fs:=h L (by unfold yB; rw[Ih,a]; exact Aa)
   obtain ⟨u,e⟩:=I.base.slot L o t (I.ok.frf L d) d λz=>I.ok.exfs L z d
   exact ⟨i,⟨L,_,a,n,e,q⟩,p (λb c=>h b (by unfold yB; rw[Ih,a]; exact Ae _ c)) k⟩
 exact all X.outer (λ_ c=>c) I.ok.funs
theorem Inv.stack(I:Inv X f g H s):s.heap.FunFrames X.base X.stack:=by
 rcases I.ok.stk with e | ⟨e,b⟩
 ·rw[e]; exact I.funs
 ·rw[e]
  obtain ⟨m,a,_⟩:=I.loc
  refine .cons (by rw[I.ok.kind]; decide) b a ?_ I.funs
  exact Heap.get?_none_of_le (Br I.ok.bsz I.ok.above)
theorem Inv.stkSub(I:Inv X f g H s):∀b∈yB X.stack,b∈X.env.locals::X.fs:=λb a=>by
 rcases I.ok.stk with e | ⟨e,c⟩
 ·rw[e] at a; exact Ae _ a
 ·rw[e] at a
  unfold yB at a
  rw[Ih,c] at a
  exact a
theorem Inv.stkFree(I:Inv X f g H s):∀b∈yB X.stack,H b=none:=λb hb=>by
 rcases Aj.mp (I.stkSub b hb) with e | hb
 ·rw[e]; exact I.free
 ·obtain ⟨_,o,a,_⟩:=I.ok.funs.mem hb
  exact I.base.free b o a (I.ok.frf b hb) λz=>I.ok.exfs b z hb
theorem Inv.step{g':Array GenState}{t':Nat}{d':Drawn}{ch:List Addr}(I:Inv X f g H s)(t:∀b∈ch,(b∈X.ex\/X.s₀.heap.objs.size<=b)/\b≠X.env.locals/\(∀x c,X.env.cells.lookup x=some c->c≠b)/\∀p∈X.pn++f,p.1≠b)(keep:∀b o,b≠X.env.locals->b∉X.fs->b∉ch->s.heap.get? b=some o->H b=none->h'.get? b=some o)(slot:∀b o,b≠X.env.locals->b∈X.fs->b∉ch->s.heap.get? b=some o->H b=none->∃L,h'.get? b=some { o with slots:=L })(free:∀b o,b∉ch->s.heap.get? b=some o->H b=none->H' b=none)(there:∀b o,b∉ch->s.heap.get? b=some o->∃D,h'.get? b=some D)(tups:∀b xs,H b=some (.tup xs)->H' b=some (.tup xs))(frzs:∀b o u,H b=some (.frz o u)->H' b=some (.frz o u))(tbls:∀b ps,H b=some (.tbl ps)->∃more,H' b=some (.tbl (ps++more)))(ns:∀m,s.heap.Ns X.env.locals m->h'.Ns X.env.locals m)(G:fT X.prog X.w H' h')(T:Ul g'):Inv X f g H' { s with heap:=h',gens:=g',drawn:=d',toks:=t' }:=by
 have E:∀b o,X.s₀.heap.get? b=some o->b≠X.env.locals:=λb o e=>Cz (Cc (Bq e) I.ok.above)
 have A:∀b o,X.s₀.heap.get? b=some o->b∉X.ex->b∉ch:=λb o e a B=>by
  rcases (t b B).1 with z | z
  ·exact a z
  ·exact absurd (Cc (Bq e) z) (Ju _)
 have h:∀x c,X.env.cells.lookup x=some c->∀v,s.heap.IsCell c v->h'.IsCell c v:=λx c e v ⟨o,C,K⟩=>by
  have j:c∉ch:=λz=>(t c z).2.2.1 x c e rfl
  by_cases M:c∈X.fs
  ·obtain ⟨L,q⟩:=slot c o (I.cne x c e) M j C (I.freeC x c e)
   exact ⟨_,q,K⟩
  ·exact ⟨o,keep c o (I.cne x c e) M j C (I.freeC x c e),K⟩
 refine ⟨I.ok,I.os,T,⟨λb o e n B a=>?_,λb o e n B a=>?_,λb o e n a=>?_,λb o e a=>?_,λb xs e=>tups b xs (I.base.tups b xs e),λb o xs e=>frzs b o xs (I.base.frzs b o xs e),λb ps e=>?_⟩,?_,λx c e=>?_,?_,λx c e=>?_,λp N=>?_,G,I.len⟩
 ·exact keep b o (E b o e) B (A b o e a) (I.base.keep b o e n B a) (I.base.free b o e n a)
 ·obtain ⟨L,y⟩:=I.base.slot b o e n B a
  obtain ⟨J,F⟩:=slot b _ (E b o e) B (A b o e a) y (I.base.free b o e n a)
  exact ⟨J,F⟩
 ·obtain ⟨D,y⟩:=I.base.there b o e a
  exact free b D (A b o e a) y (I.base.free b o e n a)
 ·obtain ⟨D,y⟩:=I.base.there b o e a
  exact there b D (A b o e a) y
 ·obtain ⟨V,y⟩:=I.base.tbls b ps e
  obtain ⟨Q,F⟩:=tbls b _ y
  exact ⟨V++Q,by rw[F,Array.append_assoc]⟩
 ·obtain ⟨m,S,R⟩:=I.loc
  refine ⟨m,ns m S,λi x v y F U=>?_⟩
  obtain ⟨u,r,l⟩:=R i x v y F U
  refine ⟨u,r,?_⟩
  rcases l with l | ⟨k,c,e,z⟩
  ·exact .inl l
  ·exact .inr ⟨k,c,e,h x c e _ z⟩
 ·obtain ⟨v,z⟩:=I.cell x c e
  exact ⟨v,h x c e v z⟩
 ·obtain ⟨m,⟨o,_,_,C,_⟩,_⟩:=I.loc
  exact free _ o (λz=>(t _ z).2.1 rfl) C I.free
 ·obtain ⟨v,o,C,K⟩:=I.cell x c e
  exact free c o (λz=>(t c z).2.2.1 x c e rfl) C (I.freeC x c e)
 ·obtain ⟨e,n,O,P,d⟩:=I.pin p N
  have j:p.1∉ch:=λz=>(t p.1 z).2.2.2 p N rfl
  exact ⟨keep p.1 p.2 O P j e n,free p.1 p.2 j e n,O,P,d⟩
theorem Inv.un{t':Nat}(I:Inv X f g H s)(u:Un X.fs [] H H' s.heap h')(c:fT X.prog X.w H' h'):Inv X f g H' { s with heap:=h',toks:=t' }:=by
 obtain ⟨m,⟨o,x,v,j,r⟩,_⟩:=id I.loc
 obtain ⟨y,l⟩:=u.any j I.free (by simp)
 exact I.step (g':=s.gens) (d':=s.drawn) (ch:=[]) (λ_ z=>nomatch z) (λb o _ h _ e n=>u.keep b o e n h (by simp)) (λb o _ h _ e n=>u.slot b o e n h (by simp)) (λb o _ e n=>u.free b o e n (by simp)) (λb o _ e=>u.there b o e (by simp)) u.tups u.frzs u.tbls (λq p=>by
  obtain ⟨t,d,i,a,k⟩:=p
  rw[j] at a; cases a
  exact ⟨_,d,i,l,k⟩) c I.bare
theorem Inv.call{g':Array GenState}{t':Nat}{d':Drawn}{ch:List Addr}(I:Inv X f g H s)(u:Un (yB X.stack) ch H H' s.heap h')(i:fT X.prog X.w H' h')(y:Ul g')(h:∀b∈ch,(b∈X.ex\/X.s₀.heap.objs.size<=b)/\b≠X.env.locals/\(∀x c,X.env.cells.lookup x=some c->c≠b)/\∀p∈X.pn++f,p.1≠b):Inv X f g H' { s with heap:=h',gens:=g',drawn:=d',toks:=t' }:=by
 obtain ⟨m,⟨o,E,D,q,r⟩,_⟩:=id I.loc
 obtain ⟨F,k⟩:=u.any q I.free λz=>(h _ z).2.1 rfl
 exact I.step (ch:=ch) h (λb o k v a e n=>u.keep b o e n (λz=>(Aj.mp (I.stkSub b z)).elim k v) a) (λb o _ _ a e n=>u.any e n a) (λb o a e n=>u.free b o e n a) (λb o a e=>u.there b o e a) u.tups u.frzs u.tbls (λB t=>by
  obtain ⟨C,j,l,d,A⟩:=t
  rw[q] at d; cases d
  exact ⟨_,j,l,k,A⟩) i y
theorem Inv.turned{t':Nat}{it:Addr}(I:Inv X f g H s)(k:∀b o,b≠it->s.heap.get? b=some o->h'.get? b=some o)(t:H it=none)(h:it≠X.env.locals)(h1:it∈X.ex\/X.s₀.heap.objs.size<=it)(B:∀x c,X.env.cells.lookup x=some c->c≠it)(j:∀p∈X.pn++f,p.1≠it):Inv X f g H { s with heap:=h',toks:=t' }:=by
 have d:∀b u,H b=some u->b≠it:=λb u e z=>by rw[z,t] at e; cases e
 refine I.step (g':=s.gens) (d':=s.drawn) (ch:=[it]) (λb y=>?_) (λb o _ _ a e _=>k b o (λz=>a (by simp [z])) e) (λb o _ _ a e _=>⟨o.slots,k b o (λz=>a (by simp [z])) e⟩) (λ_ _ _ _ n=>n)
  (λb o a e=>⟨o,k b o (λz=>a (by simp [z])) e⟩) (λ_ _ e=>e) (λ_ _ _ e=>e) (λb C e=>⟨#[],by rw[e]; simp⟩) (λm i=>?_) (λb u e=>?_) I.bare
 ·have e:b=it:=by simpa using y
  subst e
  exact ⟨h1,h,B,j⟩
 ·obtain ⟨o,w,l,A,r⟩:=i
  exact ⟨o,w,l,k _ o (Qt h) A,r⟩
 ·refine (I.hok b u e).stay (λc v a q=>k c v ?_ q) (λ_ q=>q) λ_ _ q=>q
  rcases a with z | z
  ·rw[z]; exact d b u e
  ·exact d c _ z
theorem Inv.tok(I:Inv X f g H s)(t:Nat):Inv X f g H { s with toks:=t }:=I.un (h':=s.heap) (t':=t) Un.refl I.hok
theorem Inv.kept{t':Nat}(I:Inv X f g H s)(k:∀b u,s.heap.get? b=some u->h'.get? b=some u):Inv X f g H { s with heap:=h',toks:=t' }:=I.un (Un.kept k) (I.hok.kept k)
theorem Inv.laid{a:Addr}{o:HO}{t':Nat}(I:Inv X f g H s)(k:∀b u,s.heap.get? b=some u->h'.get? b=some u)(c:s.heap.objs.size<=a)(d:Mj X.prog X.w (upd H a o) h' a o):Inv X f g (upd H a o) { s with heap:=h',toks:=t' }:=I.un (Un.laid k c (I.hok.fresh c)) (I.hok.laid k c d)
theorem Inv.write{x e:Addr}{o:HO}{t':Nat}(I:Inv X f g H s)(h:HX (H x))(d:e=x\/H e=some (.own x))(k:∀b u,b≠e->s.heap.get? b=some u->h'.get? b=some u)(a:∃u,h'.get? e=some u)(c:Mj X.prog X.w (upd H x o) h' x o):Inv X f g (upd H x o) { s with heap:=h',toks:=t' }:=I.un (Un.write h d k a) (I.hok.write h d k a c)
theorem Inv.pins_of{a:List (Addr×Obj)}(I:Inv X f g H s)(h:∀p∈a,s.heap.get? p.1=some p.2/\H p.1=none/\p.1≠X.env.locals/\p.1∉X.fs/\∀v,p.2.data≠.cell v):Inv X a g H s :=
 ⟨I.ok,I.os,I.bare,I.base,I.loc,I.cell,I.free,I.freeC,λp b=>(Ai.mp b).elim (λz=>I.pin p (Af _ z)) (h p),I.hok,I.len⟩
theorem mJ{N:List Str}(c:N.Nodup){i j:Nat}{x:Str}(a:N[i]? = some x)(b:N[j]? = some x):i=j:=by
 obtain ⟨f,d⟩:=An.mp a
 obtain ⟨g,e⟩:=An.mp b
 exact (List.getElem_inj c).mp (d.trans e.symm)
theorem xD{M:Model}{A:Dm}{E:Value->Ap->Prop}{i:Nat}{x:Str}{v:V}{u:Value}{Q:Unit->Ap->Prop}(I:Inv X f g H s)(hN:X.N.Nodup)(R:X.N[i]? = some x)(C:Loc X.env.scope x)(r:RelV v u)(h:∀s',Inv X f (g.set i (some v)) H s'->(∃a,Lx a s.heap s'.heap/\(a=X.env.locals\/X.env.cells.lookup x=some a))->Q () s')(hf:X.fn x=true\/X.env.scope.names.lookup x=some .local:=by first | exact .inl rfl | exact .inr rfl | assumption):wpAny M A (storeName X.env x u) Q E s:=by
 obtain ⟨m,hn,hl⟩:=id I.loc
 have O:(X.env.scope.kind == .class || (X.env.scope.kind == .module && X.env.locals != X.env.globals))=false:=by rw[I.ok.kind]; rfl
 have G:i<g.length:=by rw[I.len]; exact (An.mp R).1
 have cne:=I.cne
 have B:∀{a:Addr} {h':Heap},(∃o,s.heap.get? a=some o/\H a=none)->Lx a s.heap h'->fT X.prog X.w H h':=λ{a h'} ha l b ob e=>by
  obtain ⟨_,_,D⟩:=ha
  refine (I.hok b ob e).stay (λc Y hc q=>(l.2 c ?_).trans q) (λ_ q=>q) λ_ _ q=>q
  rintro rfl
  rcases hc with rfl | hc
  ·rw[D] at e; cases e
  ·rw[D] at hc; cases hc
 rcases C with hk | hk
 ·refine wpAny_storeName_local hk hn (λh' h0 l=>?_) O
  obtain ⟨oL,_,_,h1,_⟩:=id hn
  refine h _ ⟨I.ok,I.os,I.bare,⟨λb o e n L C=>?_,λb o e n L C=>?_,I.base.free,λb o e C=>?_,I.base.tups,I.base.frzs,I.base.tbls⟩,⟨_,h0,λj y v' t F e3=>?_⟩,λy c e=>?_,I.free,I.freeC,λp hp=>?_,B ⟨oL,h1,I.free⟩ l,by simpa using I.len⟩ ⟨_,l,.inl rfl⟩
  ·exact (l.2 b (Cz (Cc (Bq e) I.ok.above))).trans (I.base.keep b o e n L C)
  ·obtain ⟨sl,t⟩:=I.base.slot b o e n L C
   exact ⟨sl,(l.2 b (Cz (Cc (Bq e) I.ok.above))).trans t⟩
  ·obtain ⟨o',t⟩:=I.base.there b o e C
   exact ⟨o',(l.2 b (Cz (Cc (Bq e) I.ok.above))).trans t⟩
  ·by_cases K:j=i
   ·subst K
    rw[R] at t; cases t
    rw[Uk G] at F
    cases F
    exact ⟨u,r,.inl ⟨hk,by simp⟩⟩
   ·rw[Wn (Qt K)] at F
    obtain ⟨u',r',q⟩:=hl j y v' t F e3
    refine ⟨u',r',?_⟩
    rcases q with ⟨k,e⟩ | ⟨k,c,e,z⟩
    ·refine .inl ⟨k,?_⟩
     have : y≠x:=λe=>K (mJ hN t (e▸R))
     simp [this,e]
    ·exact .inr ⟨k,c,e,z.sameBut l (cne y c e)⟩
  ·obtain ⟨Y,z⟩:=I.cell y c e
   exact ⟨Y,z.sameBut l (cne y c e)⟩
  ·obtain ⟨e,n,W,nf,d⟩:=I.pin p hp
   exact ⟨(l.2 p.1 W).trans e,n,W,nf,d⟩
 ·have J:X.fn x=true:=by
   rcases hf with z | z
   ·exact z
   ·rw[z] at hk; cases hk
  obtain ⟨c,hc⟩:=I.ok.has x (.inl hk)
  obtain ⟨Y,z⟩:=I.cell x c hc
  refine wpAny_storeName_cell I.ok.kind hk hc z (λh' T l=>?_)
  obtain ⟨oc,S,P⟩:=id z
  refine h { s with heap:=h' } ⟨I.ok,I.os,I.bare,⟨λb o e n L C=>?_,λb o e n L C=>?_,I.base.free,λb o e C=>?_,I.base.tups,I.base.frzs,I.base.tbls⟩,⟨m,hn.sameBut l (Qt (cne x c hc)),λj y v' t F e3=>?_⟩,λy Z e=>?_,I.free,I.freeC,λp hp=>?_,B ⟨oc,S,I.freeC x c hc⟩ l,by simpa using I.len⟩ ⟨c,l,.inr hc⟩
  ·exact (l.2 b (Cz (Cc (Bq e) (I.ok.cab x c J hc)))).trans (I.base.keep b o e n L C)
  ·obtain ⟨sl,t⟩:=I.base.slot b o e n L C
   exact ⟨sl,(l.2 b (Cz (Cc (Bq e) (I.ok.cab x c J hc)))).trans t⟩
  ·obtain ⟨o',t⟩:=I.base.there b o e C
   exact ⟨o',(l.2 b (Cz (Cc (Bq e) (I.ok.cab x c J hc)))).trans t⟩
  ·by_cases K:j=i
   ·subst K
    rw[R] at t; cases t
    rw[Uk G] at F
    cases F
    exact ⟨u,r,.inr ⟨.inl hk,c,hc,T⟩⟩
   ·rw[Wn (Qt K)] at F
    obtain ⟨u',r',q⟩:=hl j y v' t F e3
    refine ⟨u',r',?_⟩
    rcases q with q | ⟨k,Z,e,z'⟩
    ·exact .inl q
    ·refine .inr ⟨k,Z,e,z'.sameBut l ?_⟩
     rintro rfl
     exact K (mJ hN t (I.ok.inj _ _ _ e hc▸R))
  ·by_cases U:Z=c
   ·subst U; exact ⟨_,T⟩
   ·obtain ⟨w2,z2⟩:=I.cell y Z e
    exact ⟨w2,z2.sameBut l U⟩
  ·obtain ⟨e,n,W,nf,d⟩:=I.pin p hp
   refine ⟨(l.2 p.1 ?_).trans e,n,W,nf,d⟩
   intro q
   rw[q,S] at e
   have q':oc=p.2:=Bu e
   exact d Y (by rw[<- q']; exact P)
theorem nI{M:Model}{A:Dm}{E:Value->Ap->Prop}{i:Nat}{x:Str}{v:V}{u:Value}{Q:Unit->Ap->Prop}(I:Inv X f g H s)(d:X.N.Nodup)(e:X.N[i]? = some x)(c:Loc X.env.scope x)(r:RelV v u)(h:∀s',Inv X f (g.set i (some v)) H s'->Q () s')(b:X.fn x=true\/X.env.scope.names.lookup x=some .local:=by first | exact .inl rfl | exact .inr rfl | assumption):wpAny M A (storeName X.env x u) Q E s :=
 xD I d e c r (λs' a _=>h s' a) b
theorem Inv.call'{s':Ap}{ch:List Addr}(I:Inv X f g H s)(j:s'.os=s.os)(u:Un (yB X.stack) ch H H' s.heap s'.heap)(a:fT X.prog X.w H' s'.heap)(i:Ul s'.gens)(d:∀b∈ch,(b∈X.ex\/X.s₀.heap.objs.size<=b)/\b≠X.env.locals/\(∀x c,X.env.cells.lookup x=some c->c≠b)/\∀p∈X.pn++f,p.1≠b):Inv X f g H' s':=by
 obtain ⟨h',g',d',t',h⟩:=s'
 have e:h=s.os:=j
 subst e
 exact I.call (g':=g') (t':=t') (d':=d') u a i d
end
abbrev XK:=Value->Option Addr->Hp->Prop
abbrev St:=List (Option V)
abbrev VK:=V->Hp->Prop
abbrev TE:=St->Hp->VK->Prop
abbrev TT:=St->Hp->(Bool->Hp->Prop)->Prop
abbrev TA:=St->Hp->(List V->Hp->Prop)->Prop
structure Ends where
 nx:St->Hp->Prop
 rt:VK
 bk:St->Hp->Prop:=λ_ _=>False
 ct:St->Hp->Prop:=λ_ _=>False
abbrev TS:=Ends->St->Hp->Prop
def EP(X:Cx)(a:List (Addr×Obj))(c:St)(Q:VK)(u:Value)(s':Ap):Prop:=∃v b,Inv X a c b s'/\RelV v u/\Q v b
def TP(X:Cx)(a:List (Addr×Obj))(d:St)(Q:Bool->Hp->Prop)(b:Bool)(s':Ap):Prop:=∃c,Inv X a d c s'/\Q b c
def AP(X:Cx)(a:List (Addr×Obj))(c:St)(Q:List V->Hp->Prop)(us:List Value)(s':Ap):Prop:=∃vs b,Inv X a c b s'/\Gw vs us/\Q vs b
def SP(X:Cx)(b:List (Addr×Obj))(D:Ends)(f:Flow)(s':Ap):Prop :=
 match f with
 | .next=>∃a c,Inv X b a c s'/\D.nx a c
 | .brk=>∃a c,Inv X b a c s'/\D.bk a c
 | .cont=>∃a c,Inv X b a c s'/\D.ct a c
 | .ret u=>∃v a c,Inv X b a c s'/\RelV v u/\D.rt v c
def PE(X:Cx)(e:Expr)(t:TE):Prop :=
 ∀(a:List (Addr×Obj)) (s:Ap) (b:St) (H:Hp) (Q:VK),Inv X a b H s->t b H Q->wpAny (model X.prog X.w) X.A (eval e X.env) (EP X a b Q) X.xe s
def PT(X:Cx)(e:Expr)(t:TT):Prop :=
 ∀(a:List (Addr×Obj)) (s:Ap) (b:St) (H:Hp) (Q:Bool->Hp->Prop),Inv X a b H s->t b H Q->wpAny (model X.prog X.w) X.A (isTrue e X.env (eval e X.env)) (TP X a b Q) X.xe s
def PW(X:Cx)(e:Expr)(t:TT):Prop :=
 ∀(b:Sem Value) (a:List (Addr×Obj)) (s:Ap) (c:St) (H:Hp) (Q:Bool->Hp->Prop),Inv X a c H s->t c H Q->wpAny (model X.prog X.w) X.A (isTrue e X.env b) (TP X a c Q) X.xe s
theorem PW.pt{X:Cx}{e:Expr}{t:TT}(h:PW X e t):PT X e t:=h _
def PA(X:Cx)(es:List Expr)(t:TA):Prop :=
 ∀(c:Pos) (a:List (Addr×Obj)) (s:Ap) (b:St) (H:Hp) (Q:List V->Hp->Prop),Inv X a b H s->t b H Q->wpAny (model X.prog X.w) X.A (spliced (Hf c (Bl es X.env))) (AP X a b Q) X.xe s
def PS(X:Cx)(st:Stmt)(t:TS):Prop :=
 ∀(a:List (Addr×Obj)) (s:Ap) (b:St) (H:Hp) (D:Ends),Inv X a b H s->t D b H->wpAny (model X.prog X.w) X.A (exec st X.env) (SP X a D) X.xe s
def uU(X:Cx)(st:List Stmt)(t:TS):Prop :=
 ∀(a:List (Addr×Obj)) (s:Ap) (b:St) (H:Hp) (D:Ends),Inv X a b H s->t D b H->wpAny (model X.prog X.w) X.A (execs st X.env) (SP X a D) X.xe s
theorem Kj{b:Type}{t:Sem b}{Q c:b->Ap->Prop}{M:Model}{A:Dm}{E:Value->Ap->Prop}{s:Ap}(h:wpAny M A t Q E s)(d:∀a s,Q a s->c a s):wpAny M A t c E s:=Kg h d λ_ _ x=>x
section
variable{X:Cx}
theorem LK{a b:Expr}{g o:TE}(B:PE X a g)(hb:PE X b o){c:List (Addr×Obj)}{s:Ap}{e:St}{H:Hp}{R:V->V->Hp->Prop}(I:Inv X c e H s)(h:g e H λx m=>o e m λy i=>R x y i){n:Type}{Q:n->Ap->Prop}{f:Value->Value->Sem n}(t:∀v u l x y i,Inv X c e i l->RelV x v->RelV y u->R x y i->wpAny (model X.prog X.w) X.A (f v u) Q X.xe l):wpAny (model X.prog X.w) X.A (eval a X.env) (λv k=>wpAny (model X.prog X.w) X.A (eval b X.env) (λu j=>wpAny (model X.prog X.w) X.A (f v u) Q X.xe j) X.xe k) X.xe s:=by
 refine Kj (B c s e H _ I h) λv C d => ?_
 obtain ⟨x,m,p,r,D⟩ := d
 refine Kj (hb c C e m _ p D) λu l d => ?_
 obtain ⟨y,i,q,z,E⟩ := d
 exact t v u l x y i q r z E
def Lj(i:Nat):TE:=λa H Q=>∃v,a[i]? = some (some v)/\Q v H
def tC(v:V):TE:=λ_ H Q=>Q v H
theorem AM{i:Nat}{x:Str}{pos:Pos}(p:X.N[i]? = some x)(o:HM X.env.scope x)(hd:(x == ("__debug__" : Str))=false:=by decide)(f:(x == ("__classdict__" : Str))=false:=by decide):PE X (.Name x pos) (Lj i):=by
 intro d s k H Q I h
 obtain ⟨v,e,h⟩:=h
 obtain ⟨m,n,j⟩:=I.loc
 obtain ⟨u,r,l⟩:=j i x v p e o
 have b:EP X d k Q u s:=⟨v,H,I,r,h⟩
 rcases l with ⟨hk,q⟩ | ⟨hk,c,g,a⟩
 ·exact wpAny_Name (wpAny_loadName_local I.ok.kind hk n q b) hd
 ·rcases hk with hk | hk
  ·exact wpAny_Name (wpAny_loadName_cell I.ok.kind hk g a b) hd
  ·exact wpAny_Name (wpAny_loadName_free I.ok.kind hk g a b f) hd
theorem Hi{i j pos}:PE X (.Constant (.int i) j pos) (tC (.int i)):=λ_ _ _ H _ I h=>wpAny_Constant_int ⟨.int i,H,I.tok _,⟨_,rfl⟩,h⟩
theorem GD{b j pos}:PE X (.Constant (.bool b) j pos) (tC (.bl b)):=λ_ _ _ H _ I h=>Constant_bool ⟨.bl b,H,I,rfl,h⟩
theorem DH{j pos}:PE X (.Constant .none j pos) (tC .non):=λ_ _ _ H _ I h=>Constant_none ⟨.non,H,I,rfl,h⟩
theorem CA{x j pos}:PE X (.Constant (.str x) j pos) (tC (.str x)):=λ_ _ _ H _ I h=>Calls.Constant_str ⟨.str x,H,I.tok _,⟨_,rfl⟩,h⟩
def Gl(X:Cx)(x:Str):Prop:=X.env.kindOf x=some .globalImplicit
theorem tE{E:Value->Ap->Prop}{a:List (Addr×Obj)}{s:Ap}{d:St}{H:Hp}{x:Str}{u:Value}{pos:Pos}{Q:Value->Ap->Prop}(I:Inv X a d H s)(c:Gl X x)(b:X.mg x=some u)(h:Q u s)(hd:(x == ("__debug__" : Str))=false:=by decide):wpAny (model X.prog X.w) X.A (eval (.Name x pos) X.env) Q E s :=
 jA I.ok.kind c (Calls.loadGlobal_global (by rw[I.ok.glob]; exact I.mod.glob.keeps I.bk) b h) hd
theorem cG{E:Value->Ap->Prop}{a:List (Addr×Obj)}{s:Ap}{c:St}{H:Hp}{x:Str}{u:Value}{pos:Pos}{Q:Value->Ap->Prop}(I:Inv X a c H s)(e:Gl X x)(g:X.mg x=none)(f:Lh x=some u)(h:Q u s)(b:x ≠ "__name__" := by decide)(hd:(x == ("__debug__" : Str))=false:=by decide):wpAny (model X.prog X.w) X.A (eval (.Name x pos) X.env) Q E s:=by
 obtain ⟨j,d,i⟩:=I.mod.blt
 exact jA I.ok.kind e (Calls.loadGlobal_builtin (by rw[I.ok.glob]; exact I.mod.glob.keeps I.bk) g (by rw[I.ok.blt]; exact d.keeps I.bk) ((i x b).trans f) h) hd
theorem P2{x:Str}{v:V}{u:Value}{pos:Pos}(a:Gl X x)(c:X.mg x=none)(d:Lh x=some u)(r:RelV v u)(b:x ≠ "__name__" := by decide)(hd:(x == ("__debug__" : Str))=false:=by decide):PE X (.Name x pos) (tC v) :=
 λ_ _ _ H _ I h=>cG I a c d ⟨v,H,I,r,h⟩ b hd
variable{a b:Expr}{g o:TE}{pos:Pos}
def PC(X:Cx)(op:CmpOp)(a b:Expr)(t:TE):Prop :=
 ∀(c:List (Addr×Obj)) (s:Ap) (f:St) (H:Hp) (Q:VK),Inv X c f H s->t f H Q ->
  wpAny (model X.prog X.w) X.A (eval a X.env) (λv e=>wpAny (model X.prog X.w) X.A (eval b X.env) (λu d=>wpAny (model X.prog X.w) X.A (Jg op v u) (EP X c f Q) X.xe d) X.xe e) X.xe s
theorem e8(b:Expr){op:CmpOp}(h:op≠.In)(c:op≠.NotIn):Hz op b=false:=by
 have a:(op == CmpOp.In)=false:=by cases op <;> first | rfl | exact absurd rfl h
 have d:(op == CmpOp.NotIn)=false:=by cases op <;> first | rfl | exact absurd rfl c
 cases b <;> simp [Hz,a,d]
def tB(t:TE):TT:=λa H Q=>t a H λx b=>∃c,x=.bl c/\Q c b
theorem IV{op:CmpOp}{t:TE}(h:PC X op a b t)(h1:Hz op b=false:=by first | exact e8 _ (by decide) (by decide) | rfl):PT X (.Compare a [op] [b] pos) (tB t):=by
 intro e s j H Q I g
 refine wpAny_isTrue_Compare1 (Kj (h e s j H _ I g) λv n h1=>Kj h1 λu p l=>Kj l λc o ⟨x,m,f,i,k⟩=>?_) h1
 obtain ⟨d,rfl,q⟩:=k
 cases i
 exact Ip ⟨m,f,q⟩
theorem B9{e:Expr}{t:TE}(h:PE X e t)(c:∀a,isTrue e X.env a=(do let v <- a; standAt e.pos; Jy [v] (truthy v)):=by intro _; rfl):PT X e (tB t):=by
 intro b s j H Q I g
 refine isTrue_plain (Kj (h b s j H _ I g) λv m ⟨x,l,f,i,k⟩=>?_) (c _)
 obtain ⟨d,rfl,q⟩:=k
 cases i
 exact Ip ⟨l,f,q⟩
variable{k n:TT}{Gx:List Expr}
def JG(t u:TT):TT:=λa H Q=>t a H λc b=>if c=true then u a b Q else Q false b
def LC(t u:TT):TT:=λa H Q=>t a H λc b=>if c=true then Q true b else u a b Q
def JQ(t:TT):TT:=λa H Q=>t a H λc b=>Q (!c) b
theorem K3(f:PT X a k):PW X (.BoolOp .And [a] pos) k:=by
 intro i b s d H Q I h
 refine isTrue_and (Kj (f b s d H Q I h) λc g e=>?_)
 cases c with
 | true=>exact isTrue_and_nil e
 | false=>exact e
theorem CK(f:PT X a k):PW X (.BoolOp .Or [a] pos) k:=by
 intro i b s d H Q I h
 refine isTrue_or (Kj (f b s d H Q I h) λc g e=>?_)
 cases c with
 | false=>exact isTrue_or_nil e
 | true=>exact e
theorem CQ(l:PT X a k)(hb:PW X (.BoolOp .And (b::Gx) pos) n):PW X (.BoolOp .And (a::b::Gx) pos) (JG k n):=by
 intro o d s g H Q I h
 refine isTrue_and (Kj (l d s g H _ I h) λc m e => ?_)
 obtain ⟨j,f,i⟩ := e
 cases c with
 | true=>exact hb o d m g j Q f i
 | false=>exact ⟨j,f,i⟩
theorem HF(l:PT X a k)(hb:PW X (.BoolOp .Or (b::Gx) pos) n):PW X (.BoolOp .Or (a::b::Gx) pos) (LC k n):=by
 intro o d s g H Q I h
 refine isTrue_or (Kj (l d s g H _ I h) λc m e => ?_)
 obtain ⟨j,f,i⟩ := e
 cases c with
 | true=>exact ⟨j,f,i⟩
 | false=>exact hb o d m g j Q f i
theorem BA(d:PT X a k):PT X (.UnaryOp .Not a pos) (JQ k):=by
 intro b s e H Q I h
 exact isTrue_not (d b s e H (λc f=>Q (!c) f) I h)
def EH(g o:TE):TE:=λa H Q=>g a H λx b=>∃c,x=.bl c/\if c=true then o a b Q else Q (.bl false) b
def ER(g:TE):TE:=λa H Q=>g a H λx b=>∃c,x=.bl c/\Q (.bl (!c)) b
theorem AS{op}{t:TE}(h:PE X a t):PE X (.BoolOp op [a] pos) t:=λb s c H Q I d=>BoolOp_one (h b s c H Q I d)
theorem Z8(m:PE X a g)(hb:PE X (.BoolOp .And (b::Gx) pos) o):PE X (.BoolOp .And (a::b::Gx) pos) (EH g o):=by
 intro d s j H Q I h
 refine BoolOp_and (Kj (m d s j H _ I h) λv n f => ?_)
 obtain ⟨x,k,i,l,e⟩ := f
 obtain ⟨c,rfl,e⟩:=e
 cases l
 refine Ip ?_
 cases c with
 | true=>exact hb d n j k Q i e
 | false=>exact ⟨.bl false,k,i,rfl,e⟩
theorem DR(k:PE X a g):PE X (.UnaryOp .Not a pos) (ER g):=by
 intro b s j H Q I h
 refine UnaryOp_ (Kj (k b s j H _ I h) λv m d => ?_)
 obtain ⟨x,l,f,i,e⟩ := d
 obtain ⟨c,rfl,e⟩:=e
 cases i
 exact not_of (Ip ⟨.bl (!c),l,f,rfl,e⟩)
end
def Sx(K:PySem.W.Frag)(H:Hp)(a:Addr)(xs:List V):Prop :=
 Rd H a (.lst xs) \/
  ∃(o:Obj) (b:Array Value) (n:Nat),K.lookup a=some o/\o.cls=.type "list" /\ o.dict=none/\o.data=.seq b n/\b.size<=Bf/\Gw xs b.toList
def Vm(K:PySem.W.Frag)(H:Hp)(a:Addr)(xs:List V):Prop :=
 Rd H a (.tup xs) \/
  ∃(o:Obj) (b:Array Value) (n:Nat),K.lookup a=some o/\o.cls=.type "tuple" /\ o.data=.seq b n/\b.size<=Bf/\Gw xs b.toList
def JB:Value->Option V
 | .none=>some .non
 | .bool b=>some (.bl b)
 | .int i _=>some (.int i)
 | .str x _=>some (.str x)
 | .bytes b _=>some (.byt b)
 | .float b _=>some (.flt b)
 | .ref a=>some (.ref a)
 | .type n=>some (.ty n)
 | _=>none
theorem RelV.abs{x:V}{u:Value}(r:RelV x u):JB u=some x:=by
 cases x with
 | non=>cases r; rfl
 | bl _=>cases r; rfl
 | int _=>obtain ⟨t,rfl⟩:=r; rfl
 | str _=>obtain ⟨t,rfl⟩:=r; rfl
 | byt _=>obtain ⟨t,rfl⟩:=r; rfl
 | flt _=>obtain ⟨t,rfl⟩:=r; rfl
 | ref _=>cases r; rfl
 | ty _=>cases r; rfl
theorem RelV.inj{x y:V}{u:Value}(r:RelV x u)(q:RelV y u):x=y:=Bu (r.abs.symm.trans q.abs)
theorem Gw.inj:∀{xs ys:List V} {us:List Value},Gw xs us->Gw ys us->xs=ys
 | _,_,_,.nil,.nil=>rfl
 | _,_,_,.cons r t,.cons r' t'=>by rw[r.inj r',Gw.inj t t']
section
variable{X:Cx}{b:List (Addr×Obj)}{c:St}{H:Hp}{s:Ap}{a:Addr}{xs ys:List V}
theorem Sx.of{K:PySem.W.Frag}(h:H a=some (.lst xs)):Sx K H a xs:=.inl (.inl h)
theorem Vm.of{K:PySem.W.Frag}(h:H a=some (.tup xs)):Vm K H a xs:=.inl (.inl h)
theorem Inv.list(I:Inv X b c H s)(h:Sx X.K H a xs):∃d:List Value,Gw xs d/\PlainL s.heap a d.toArray/\xs.length<=Bf:=by
 rcases h with h | ⟨o,d,n,g,f,j,i,k,r⟩
 ·obtain ⟨z,d,n,r,e⟩:=h.ok I.hok
  exact ⟨d,r,⟨_,n,e,rfl,rfl,rfl⟩,z⟩
 ·refine ⟨d.toList,r,⟨o,n,I.kIn a o g,f,j,by simpa using i⟩,?_⟩
  have e:=r.length
  simp only[Al] at e
  omega
theorem Inv.tuple(I:Inv X b c H s)(h:Vm X.K H a xs):∃d:List Value,Gw xs d/\IsTup s.heap a d.toArray/\xs.length<=Bf:=by
 rcases h with h | ⟨o,d,n,g,f,i,j,r⟩
 ·obtain ⟨z,d,r,p⟩:=h.ok I.hok
  exact ⟨d,r,p,z⟩
 ·refine ⟨d.toList,r,⟨o,I.kIn a o g,f,n,by simpa using i⟩,?_⟩
  have e:=r.length
  simp only[Al] at e
  omega
theorem Inv.list_inj(I:Inv X b c H s)(h:Sx X.K H a xs)(h':Sx X.K H a ys):xs=ys:=by
 obtain ⟨g,r,⟨o,n,e,_,_,d⟩,_⟩:=I.list h
 obtain ⟨f,k,⟨m,l,j,_,_,i⟩,_⟩:=I.list h'
 rw[e] at j; cases j
 rw[d] at i
 injection i with d1 _
 have : g=f:=by simpa using congrArg Array.toList d1
 subst this
 exact r.inj k
theorem Inv.tuple_inj(I:Inv X b c H s)(h:Vm X.K H a xs)(h':Vm X.K H a ys):xs=ys:=by
 obtain ⟨g,r,⟨o,e,_,n,d⟩,_⟩:=I.tuple h
 obtain ⟨f,k,⟨m,j,_,l,i⟩,_⟩:=I.tuple h'
 rw[e] at j; cases j
 rw[d] at i
 injection i with d1 _
 have : g=f:=by simpa using congrArg Array.toList d1
 subst this
 exact r.inj k
end
abbrev Cx.wish(X:Cx)(E:Value->Ap->Prop):Cx:={ X with xe:=E }
abbrev Cx.nox(X:Cx):Cx:=X.wish λ_ _=>False
theorem Cx.Ok.wish{X:Cx}(ok:X.Ok)(E:Value->Ap->Prop):(X.wish E).Ok :=
 ⟨ok.mod,ok.kind,ok.glob,ok.blt,ok.above,ok.inj,ok.has,ok.cab,ok.hd,ok.frames,ok.stk,ok.exf,ok.bs,ok.bsz,ok.noex,ok.exfs,ok.funs,ok.frf,ok.tab⟩
theorem Cx.Ok.unwish{X:Cx}{E:Value->Ap->Prop}(ok:(X.wish E).Ok):X.Ok :=
 ⟨ok.mod,ok.kind,ok.glob,ok.blt,ok.above,ok.inj,ok.has,ok.cab,ok.hd,ok.frames,ok.stk,ok.exf,ok.bs,ok.bsz,ok.noex,ok.exfs,ok.funs,ok.frf,ok.tab⟩
section
variable{X:Cx}{a:List (Addr×Obj)}{b:St}{H:Hp}{s:Ap}{E:Value->Ap->Prop}
theorem Inv.wish(I:Inv X a b H s)(E:Value->Ap->Prop):Inv (X.wish E) a b H s:=⟨I.ok.wish E,I.os,I.bare,I.base,I.loc,I.cell,I.free,I.freeC,I.pin,I.hok,I.len⟩
theorem Inv.unwish(I:Inv (X.wish E) a b H s):Inv X a b H s:=⟨I.ok.unwish,I.os,I.bare,I.base,I.loc,I.cell,I.free,I.freeC,I.pin,I.hok,I.len⟩
theorem SP.unwish{D:Ends}{f:Flow}{s':Ap}(h:SP (X.wish E) a D f s'):SP X a D f s':=by
 cases f with
 | next=>obtain ⟨b,c,I,q⟩:=h; exact ⟨b,c,I.unwish,q⟩
 | brk=>obtain ⟨b,c,I,q⟩:=h; exact ⟨b,c,I.unwish,q⟩
 | cont=>obtain ⟨b,c,I,q⟩:=h; exact ⟨b,c,I.unwish,q⟩
 | ret u=>obtain ⟨v,b,c,I,r,q⟩:=h; exact ⟨v,b,c,I.unwish,r,q⟩
theorem uU.nox{st:List Stmt}{t:TS}(h:uU X.nox st t):uU X st t:=λa s b H D I c =>
 Kg (h a s b H D (I.wish _) c) (λ_ _ q=>q.unwish) λ_ _ z=>Lq z
end
section
variable{X:Cx}{st:Stmt}{Gx:List Stmt}{t u:TS}{e:Expr}{te:TE}{pos:Pos}
def EJ:TS:=λD a H=>D.nx a H
def JL(t u:TS):TS:=λD a H=>t { D with nx:=u D } a H
theorem tV:uU X [] EJ:=λ_ _ a H _ I h=>wpAny_execs_nil ⟨a,H,I,h⟩
theorem Lw(h1:PS X st t)(i:uU X Gx u):uU X (st::Gx) (JL t u):=by
 intro a s d H D I h
 refine wpAny_execs_cons (Kj (h1 a s d H { D with nx:=u D } I h) λf g q=>?_)
 cases f with
 | next =>
  obtain ⟨b,e,c,q⟩:=q
  exact i a g b e D c q
 | ret v=>exact q
 | brk=>exact q
 | cont=>exact q
theorem Ux(h1:PS X st t):uU X [st] t:=by
 intro a s b H D I h
 refine wpAny_execs_cons (Kj (h1 a s b H D I h) λf c q=>?_)
 cases f with
 | next=>exact wpAny_execs_nil q
 | ret v=>exact q
 | brk=>exact q
 | cont=>exact q
theorem Inv.quiet{a:List (Addr×Obj)}{b:St}{H:Hp}{s:Ap}(I:Inv X a b H s):interactive X.env=false:=by simp [interactive,I.ok.kind]
def GK(te:TE):TS:=λD a H=>te a H λ_ b=>D.nx a b
theorem Uw(c:PE X e te)(f:Jf e none pos.line X.env=pure false:=by rfl):PS X (.Expr e pos) (GK te):=by
 intro a s b H D I h
 exact wpAny_Expr_any (Kj (c a s b H _ I h) λv k ⟨x,i,d,j,g⟩=>⟨b,i,d,g⟩) I.quiet f
def JA(te:TE):TS:=λD a H=>te a H D.rt
theorem Yq(c:PE X e te):PS X (.Return (some e) pos) (JA te):=by
 intro a s b H D I h
 exact wpAny_Return_some (Kj (c a s b H _ I h) λv j ⟨x,i,d,f,g⟩=>⟨x,b,i,d,f,g⟩)
def IF(c:TT)(t u:TS):TS:=λD a H=>c a H λb d=>if b=true then t D a d else u D a d
theorem W8{c:Expr}{a b:List Stmt}{k:TT}(n:PT X c k)(o:uU X a t)(hb:uU X b u):PS X (.If c a b pos) (IF k t u):=by
 intro e s g H D I h
 refine wpAny_If (Kj (n e s g H _ I h) λd j f => ?_)
 obtain ⟨m,i,l⟩ := f
 cases d with
 | true=>exact o e j g m D i l
 | false=>exact hb e j g m D i l
end
abbrev TG:=V->St->Hp->(St->Hp->Prop)->Prop
abbrev O1:=List V->St->Hp->(St->Hp->Prop)->Prop
def PG(X:Cx)(a:Expr)(t:TG):Prop :=
 ∀(b:List (Addr×Obj)) (s:Ap) (d:St) (H:Hp) (v:V) (u:Value) (Q:St->Hp->Prop),Inv X b d H s->RelV v u->t v d H Q ->
  wpAny (model X.prog X.w) X.A (Ni a X.env u) (λ_ f=>∃c e,Inv X b c e f/\Q c e) X.xe s
def BV(X:Cx)(f:List Expr)(t:O1):Prop :=
 ∀(a:List (Addr×Obj)) (s:Ap) (d:St) (H:Hp) (vs:List V) (c:List Value) (Q:St->Hp->Prop),Inv X a d H s->Gw vs c->t vs d H Q ->
  wpAny (model X.prog X.w) X.A (assignInOrder ((Gg f X.env).map (·.2)) c) (λ_ g=>∃b e,Inv X a b e g/\Q b e) X.xe s
abbrev AC:=V->V->V->Hp->(Hp->Prop)->Prop
def HB(X:Cx)(t:AC):Prop :=
 ∀(a:List (Addr×Obj)) (s:Ap) (c:St) (H:Hp) (o i v:V) (b e u:Value) (Q:Hp->Prop),Inv X a c H s->RelV o b->RelV i e->RelV v u->t o i v H Q ->
  wpAny (model X.prog X.w) X.A (setItem b e u) (λ_ f=>∃d,Inv X a c d f/\Q d) X.xe s
section
variable{X:Cx}{pos:Pos}
def gP(i:Nat):TG:=λv a H Q=>Q (a.set i (some v)) H
theorem Wx{i:Nat}{x:Str}(e:X.N.Nodup)(f:X.N[i]? = some x)(d:Loc X.env.scope x)(c:X.fn x=true\/X.env.scope.names.lookup x=some .local:=by first | exact .inl rfl | exact .inr rfl | assumption):PG X (.Name x pos) (gP i):=by
 intro a s g H v u Q I r h
 exact wpAny_assign_Name (nI I e f d r (λj b=>⟨_,H,b,h⟩) c)
def JM:O1:=λvs a H Q=>vs=[]/\Q a H
def ES(t:TG)(u:O1):O1:=λvs b H Q=>∃v r,vs=v::r/\t v b H λa c=>u r a c Q
theorem tM:BV X [] JM:=by
 intro a s b H vs c Q I r h
 obtain ⟨e,h⟩:=h
 subst e
 cases r
 exact assignInOrder_nil ⟨b,H,I,h⟩
theorem eZ{e:Expr}{es:List Expr}{t:TG}{u:O1}(h1:PG X e t)(g:BV X es u)(f:(Gg (e::es) X.env).map (·.2)=Ni e X.env::(Gg es X.env).map (·.2):=by rfl):BV X (e::es) (ES t u):=by
 intro a s j H vs p Q I r h
 obtain ⟨v,o,m,h⟩:=h
 subst m
 cases r with
 | cons r i =>
  rw[f]
  refine assignInOrder_cons (Kj (h1 a s j H _ _ _ I r h) λ_ k b => ?_)
  obtain ⟨c,n,d,l⟩ := b
  exact g a k c n _ _ Q d i l
def IS(K:PySem.W.Frag)(n:Nat)(t:O1):TG:=λv c H Q=>∃a b,v=.ref a/\Vm K H a b/\b.length=n/\t b c H Q
theorem C3{es:List Expr}{k:Nat}{t:O1}{n:Nat}(j:X.calm=true)(h:BV X es t)(w:(Gg es X.env).length=n:=by rfl)(f:(Gg es X.env).findIdx? (·.1)=none:=by rfl):PG X (.Tuple es k pos) (IS X.K n t):=by
 intro c s i H v u Q I r d
 obtain ⟨a,B,A,z,q,d⟩:=d
 subst A
 cases r
 obtain ⟨p,g,l,C⟩:=I.tuple z
 refine assign_Tuple_tuple (I.ok.hd j) l (by simp [w,<- q,g.length]) f λx y=>?_
 have m:Inv X c i H { s with heap:=x }:=I.kept (t':=s.toks) λb o e=>y b o (Cz (Bq e)) e
 exact h c _ i H B _ Q m (by simpa using g) d
def IG(c ti:TE)(t:AC):TG:=λv a H Q=>c a H λo e=>ti a e λi d=>t o i v d λb=>Q a b
theorem Zh{o i:Expr}{f ti:TE}{t:AC}(m:PE X o f)(z:PE X i ti)(E:HB X t)
  (w:∀v,Ni (.Subscript o i pos) X.env v=(do
   let c <- Jy [v] (eval o X.env)
   let d <- Jy [v,c] (eval i X.env)
   standAt pos
   Jy [v,c,d] (setItem c d v)
   release [v,c,d] []):=by intro _; rfl):PG X (.Subscript o i pos) (IG f ti t):=by
 intro b s e H v u Q I r h
 rw[w]
 refine Ah (Fq (Kj (m b s e H _ I h) λc k a => ?_))
 obtain ⟨x,G,g,j,B⟩ := a
 refine Ah (Fq (Kj (z b k e G _ g B) λd l a => ?_))
 obtain ⟨y,C,p,q,F⟩ := a
 refine Ah (wpAny_standAt (Ah (Fq (Kj (E b l e C x y v c d u _ p j q r F) λ_ J a => ?_))))
 obtain ⟨n,D,A⟩ := a
 exact wpAny_release ⟨e,n,D,A⟩
def N6(te:TE)(g:TG):TS:=λD a H=>te a H λx b=>g x a b D.nx
theorem cX{b e:Expr}{te:TE}{g:TG}(d:PE X e te)(k:PG X b g)(i:fM [b] e pos.line X.env=pure false:=by rfl)(hw:fN [b] e X.env=pure none:=by rfl)(h1:(Gg [b] X.env).map (·.2)=[Ni b X.env]:=by rfl):PS X (.Assign [b] e pos) (N6 te g):=by
 intro a s c H D I h
 refine wpAny_Assign_stores (Kj (d a s c H _ I h) λv l ⟨x,n,f,j,m⟩=>?_) i hw
 rw[h1]
 exact Kj (k a l c n x v _ f j m) λ_ o q=>q
theorem Ua{i:Nat}{x:Str}{e:Expr}{te:TE}{a:Pos}(n:X.N.Nodup)(p:X.N[i]? = some x)(m:Loc X.env.scope x)(c:PE X e te)(g:Jf e (some (.Name x a)) pos.line X.env=pure false:=by rfl)(l:X.fn x=true\/X.env.scope.names.lookup x=some .local:=by first | exact .inl rfl | exact .inr rfl | assumption):PS X (.Assign [.Name x a] e pos) (N6 te (gP i)):=by
 intro b s k H D I h
 refine wpAny_Assign_Name (Kj (c b s k H _ I h) λv r ⟨y,q,d,j,o⟩=>?_) g
 exact nI d n p m j (λt f=>⟨_,q,f,o⟩) l
end
structure It where
 go:Nat->Hp->Prop
 yld:Nat->Hp->V->Hp->Prop
 stop:Nat->Hp->Prop
def Sk(X:Cx)(a:List (Addr×Obj))(H:Hp)(b:Addr):Prop :=
 H b=none/\b≠X.env.locals/\b∉X.fs/\(b∈X.ex\/X.s₀.heap.objs.size<=b)/\(∀x c,X.env.cells.lookup x=some c->c≠b)/\∀p∈X.pn++a,p.1≠b
theorem Inv.fpOk{X:Cx}{a:List (Addr×Obj)}{g:St}{H H':Hp}{s:Ap}{b:Addr}(I:Inv X a g H s)(hb:s.heap.objs.size<=b)(f:H' b=none):Sk X a H' b:=by
 refine ⟨f,Nat.ne_of_gt (Cc I.lt hb),I.nofs hb,.inr (Br I.sz hb),λx c e z=>?_,λp d z=>?_⟩
 ·obtain ⟨v,q⟩:=I.cell x c e
  exact absurd (Cc q.lt (by rw[z]; exact hb)) (Ju _)
 ·exact absurd (Cc (Bq (I.pin p d).1) (by rw[z]; exact hb)) (Ju _)
structure Turn(P:Bz)(w:World)(K:PySem.W.Frag)(tg:Expr)(J:It)(fp:List Addr)(it:Addr)(tn:Nat->Heap->Prop):Prop where
 mem:it∈fp
 obj:∀i h,tn i h->∀b∈fp,∃o,h.get? b=some o/\∀v,o.data≠.cell v
 keep:∀i h h',tn i h->(∀b∈fp,∀o,h.get? b=some o->h'.get? b=some o)->tn i h'
 item:∀(X:Cx),X.prog=P->X.w=w->X.K=K->X.calm=true->∀(i:Nat) (pins:List (Addr×Obj)) (s:Ap) (σ:St) (H:Hp) (E:Value->Ap->Prop),Inv X pins σ H s->(∀b∈fp,Sk X pins H b)->tn i s.heap->J.go i H ->
  wpAny (model P w) X.A (pyNext (.ref it)) (λr s1=>∃u,r=some u /\
   wpAny (model P w) X.A (Yc tg (.ref it) u) (λ_ s2=>∃x H',Inv X pins σ H' s2/\RelV x u/\J.yld i H x H'/\tn (i+1) s2.heap/\∀b∈fp,H' b=none) E s1) E s
 done:∀(X:Cx),X.prog=P->X.w=w->X.K=K->X.calm=true->∀(i:Nat) (pins:List (Addr×Obj)) (s:Ap) (σ:St) (H:Hp) (E:Value->Ap->Prop),Inv X pins σ H s->(∀b∈fp,Sk X pins H b)->tn i s.heap->J.stop i H ->
  wpAny (model P w) X.A (pyNext (.ref it)) (λr s1=>r=none/\Inv X pins σ H s1) E s
 self:∀(A:Dm) (i:Nat) (s:Ap) (Q:Value->Ap->Prop) (E:Value->Ap->Prop),tn i s.heap->Q (.ref it) s->wpAny (model P w) A (pyIter (.ref it)) Q E s
abbrev TI:=St->Hp->(It->Hp->Prop)->Prop
def KF(X:Cx)(a:List (Addr×Obj))(h:St)(i:Expr)(R:It->Hp->Prop)(d:Value)(f:Ap):Prop :=
 ∃(it:Addr) (g:List Addr) (e:Nat->Heap->Prop) (J:It) (c:Hp),d=.ref it/\Inv X a h c f/\Turn X.prog X.w X.K i J g it e/\e 0 f.heap/\(∀b∈g,Sk X a c b)/\R J c
def PI(X:Cx)(d b:Expr)(f:TI):Prop :=
 ∀(a:List (Addr×Obj)) (s:Ap) (c:St) (H:Hp) (R:It->Hp->Prop),Inv X a c H s->f c H R ->
  wpAny (model X.prog X.w) X.A (eval b X.env) (λv e=>wpAny (model X.prog X.w) X.A (pyIter v) (KF X a c d R) X.xe e) X.xe s
theorem B4{M:Model}{A:Dm}{E:Value->Ap->Prop}{s:Ap}{b:Expr}{it:Addr}{u:Value}{o:Obj}{n:String}{vs:Array Value}{Q:Unit->Ap->Prop}(e:s.heap.get? it=some o)(c:o.cls=.type n)(hd:o.data=.fields vs)(d:["enumerate", "zip", "dict_itemiterator", "dict_reverseitemiterator", "odict_iterator", "itertools.zip_longest", "itertools.pairwise"].contains n=false)(a:Q () s):wpAny M A (Yc b (.ref it) u) Q E s:=by
  unfold Yc
  cases b <;> first
    | exact Au a
    | (cases u <;> first
        | exact Au a
        | (refine Ah (wpAny_load e ?_)
           rw[c,hd]
           show wpAny M A (if (["enumerate", "zip", "dict_itemiterator", "dict_reverseitemiterator", "odict_iterator", "itertools.zip_longest", "itertools.pairwise"].contains n && vs[0]? == some (rawInt _))=true then _ else _) Q E s
           rw[if_neg (by intro h; rw[d,Bool.false_and] at h; cases h)]
           exact Au a))
def HP(K:PySem.W.Frag)(a:Addr):It :=
 ⟨λi H=>∃b x,Sx K H a b/\b[i]? = some x,λi H x c=>c=H/\∀b,Sx K H a b->b[i]? = some x,λi H=>∃b,Sx K H a b/\b.length<=i⟩
def IA(K:PySem.W.Frag)(a:Addr):It :=
 ⟨λi H=>∃b x,Vm K H a b/\b[i]? = some x,λi H x c=>c=H/\∀b,Vm K H a b->b[i]? = some x,λi H=>∃b,Vm K H a b/\b.length<=i⟩
def X4(lo:Int)(n:Nat):It:=⟨λi _=>i<n,λi H x a=>a=H/\x=.int (lo+i),λi _=>n<=i⟩
theorem xS{P:Bz}{w:World}{K:PySem.W.Frag}{T:Expr}(a it:Addr):Turn P w K T (HP K a) [it] it (λi h=>h.IsListIter it a i) where
 mem:=by simp
 obj:=λi h st b g=>by
  have e:b=it:=by simpa using g
  subst e
  obtain ⟨o,e,c,d⟩:=st
  exact ⟨o,e,λv z=>by rw[d] at z; cases z⟩
 keep:=λi h l st k=>st.at λo e=>k it (by simp) o e
 item:=by
  intro X C G A M i f s N H E I n st L
  subst C G A
  obtain ⟨Q,x,m,B⟩:=L
  obtain ⟨r,q,p,hz⟩:=I.list m
  obtain ⟨u,R,Y⟩:=q.get B
  obtain ⟨y,F,Z,t,J,D⟩:=n it (by simp)
  refine J5 st p.isList (x:=u) (by simpa using R) λl j S=>?_
  have O:Inv X f N H { s with heap:=l }:=I.turned (t':=s.toks) (λb o g e=>(S.2 b g).trans e) y F t J D
  obtain ⟨o,e,c,d⟩:=id j
  exact ⟨u,rfl,B4 (s:={ s with heap:=l }) e c d (by decide) ⟨x,H,O,Y,⟨rfl,λys V=>by rw[I.list_inj V m]; exact B⟩,j,λb g=>(n b g).1⟩⟩
 done:=by
  intro X C G A M i f s N H E I n st L
  subst C G A
  obtain ⟨Q,m,B⟩:=L
  obtain ⟨r,q,p,hz⟩:=I.list m
  obtain ⟨y,F,Z,t,J,D⟩:=n it (by simp)
  have hl:=q.length
  exact wpAny_pyNext_list_end (I.ok.hd M) st p.isList (by simp; omega) λl U=>⟨rfl,I.turned (t':=s.toks) (λb o g e=>U b o g e) y F t J D⟩
 self:=λ_ _ _ _ _ st h=>wpAny_pyIter_listiter st h
theorem rH{P:Bz}{w:World}{K:PySem.W.Frag}{T:Expr}(a it:Addr):Turn P w K T (IA K a) [it] it (λi h=>h.IsTupleIter it a i) where
 mem:=by simp
 obj:=λi h st b j=>by
  have e:b=it:=by simpa using j
  subst e
  obtain ⟨o,e,c,d⟩:=st
  exact ⟨o,e,λv z=>by rw[d] at z; cases z⟩
 keep:=λi h m st k=>st.at λo e=>k it (by simp) o e
 item:=by
  intro X C G A M i f s N H E I q st L
  subst C G A
  obtain ⟨Q,x,n,B⟩:=L
  obtain ⟨g,r,p,hz⟩:=I.tuple n
  obtain ⟨u,R,Y⟩:=r.get B
  obtain ⟨y,F,Z,t,J,D⟩:=q it (by simp)
  refine wpAny_pyNext_tuple_item st (show s.heap.IsTuple a g.toArray from p) (x:=u) (by simpa using R) λm l S=>?_
  have O:Inv X f N H { s with heap:=m }:=I.turned (t':=s.toks) (λb o j e=>(S.2 b j).trans e) y F t J D
  obtain ⟨o,e,c,d⟩:=id l
  exact ⟨u,rfl,B4 (s:={ s with heap:=m }) e c d (by decide) ⟨x,H,O,Y,⟨rfl,λys V=>by rw[I.tuple_inj V n]; exact B⟩,l,λb j=>(q b j).1⟩⟩
 done:=by
  intro X C G A M i f s N H E I q st L
  subst C G A
  obtain ⟨Q,n,B⟩:=L
  obtain ⟨g,r,p,hz⟩:=I.tuple n
  obtain ⟨y,F,Z,t,J,D⟩:=q it (by simp)
  have hl:=r.length
  exact wpAny_pyNext_tuple_end (I.ok.hd M) st (show s.heap.IsTuple a g.toArray from p) (by simp; omega) λm U=>⟨rfl,I.turned (t':=s.toks) (λb o j e=>U b o j e) y F t J D⟩
 self:=λ_ _ _ _ _ st h=>wpAny_pyIter_tupleiter st h
theorem rX{P:Bz}{w:World}{K:PySem.W.Frag}{F:Expr}(it:Addr)(lo:Int)(n:Nat):Turn P w K F (X4 lo n) [it] it (λi h=>IsRangeIter h it (lo+(i:Nat) * 1) ((n:Int) - (i:Nat)) 1) where
 mem:=by simp
 obj:=λi h st b c=>by
  have e:b=it:=by simpa using c
  subst e
  exact ⟨_,st,λv z=>by
   have J:Data.fields _=Data.cell v:=z
   cases J⟩
 keep:=λi h f st k=>k it (by simp) _ st
 item:=by
  intro X q x p j i a s C H E I g st A
  subst q x p
  obtain ⟨m,u,L,l,y,r⟩:=g it (by simp)
  have W:=Walks.range (prog:=X.prog) (w:=X.w) (I.ok.hd j) it lo 1 n
  refine W.item i s _ _ A st λv f B M d N=>?_
  obtain ⟨t,rfl⟩:=M
  have D:Inv X a C H { s with heap:=f,toks:=B }:=I.turned (λb o c e=>N b o (by simpa using c) e) m u l y r
  refine ⟨_,rfl,B4 (s:={ s with heap:=f,toks:=B }) (n := "range_iterator") d rfl rfl (by decide) ⟨.int (lo+i),H,D,⟨t,?_⟩,⟨rfl,rfl⟩,d,λb c=>(g b c).1⟩⟩
  rw[Int.mul_one]
 done:=by
  intro X q x p j i a s C H E I g st A
  subst q x p
  obtain ⟨m,u,L,l,y,r⟩:=g it (by simp)
  exact wpAny_pyNext_range_end (I.ok.hd j) st (by have : n<=i:=A; omega) λf G=>⟨rfl,I.turned (t':=s.toks) (λb o c e=>G b o c e) m u l y r⟩
 self:=λ_ _ _ _ _ st h=>wpAny_pyIter_rangeiter st h
section
variable{X:Cx}{c:Expr}
def W1(K:PySem.W.Frag)(d:TE):TI:=λc H R=>d c H λx b=>∃a,x=.ref a/\(∃e,Sx K b a e)/\R (HP K a) b
def IZ(K:PySem.W.Frag)(d:TE):TI:=λc H R=>d c H λx b=>∃a,x=.ref a/\(∃e,Vm K b a e)/\R (IA K a) b
theorem kE{l:Expr}{j:TE}(hl:PE X l j):PI X c l (W1 X.K j):=by
 intro d s n H R I h
 refine Kj (hl d s n H _ I h) λv g i => ?_
 obtain ⟨x,w,f,m,u⟩ := i
 obtain ⟨a,e,⟨z,t⟩,q⟩:=u
 subst e
 cases m
 obtain ⟨k,y,p,A⟩:=f.list t
 refine iV p.isList ?_
 refine ⟨g.heap.objs.size,[g.heap.objs.size],_,_,w,rfl,f.kept (t':=g.toks) λb o e=>Aq _ e,xS a _,⟨_,Ca _ rfl,rfl,rfl⟩,λb r=>?_,q⟩
 have e:b=g.heap.objs.size:=by simpa using r
 subst e
 exact f.fpOk (Ak _) (f.hok.fresh (Ak _))
theorem AG{l:Expr}{k:TE}(hl:PE X l k):PI X c l (IZ X.K k):=by
 intro d s n H R I h
 refine Kj (hl d s n H _ I h) λv f i => ?_
 obtain ⟨x,w,g,m,u⟩ := i
 obtain ⟨a,e,⟨z,t⟩,q⟩:=u
 subst e
 cases m
 obtain ⟨j,y,p,A⟩:=g.tuple t
 refine wpAny_pyIter_tuple (show f.heap.IsTuple a j.toArray from p) ?_
 refine ⟨f.heap.objs.size,[f.heap.objs.size],_,_,w,rfl,g.kept (t':=f.toks) λb o e=>Aq _ e,rH a _,⟨_,Ca _ rfl,rfl,rfl⟩,λb r=>?_,q⟩
 have e:b=f.heap.objs.size:=by simpa using r
 subst e
 exact g.fpOk (Ak _) (g.hok.fresh (Ak _))
theorem h9{d:List (Addr×Obj)}{g:St}{H:Hp}{s:Ap}{R:It->Hp->Prop}{E:Value->Ap->Prop}{lo a:Int}{t u v:Tok}{h:Nat}(I:Inv X d g H s)(h1:-(2 ^ 62)<=lo)(m:lo<2 ^ 62)(i:-(2 ^ 62)<=a)(j:a<2 ^ 62)(q:R (X4 lo (a - lo).toNat) H):wpAny (model X.prog X.w) X.A (pyIter (.ref s.heap.objs.size)) (KF X d g c R) E { s with heap:=s.heap.push { cls:=.type "range",data:=.fields #[.int lo t,.int a u,.int 1 v] },toks:=h }:=by
 refine wpAny_pyIter_range (IsRange.new ..) (small_one h1 m i j) ?_
 have f:Inv X d g H { s with heap:=s.heap.push { cls:=.type "range",data:=.fields #[.int lo t,.int a u,.int 1 v] },toks:=h }:=I.kept λb o e=>Aq _ e
 refine ⟨(s.heap.push { cls:=.type "range",data:=.fields #[.int lo t,.int a u,.int 1 v] }).objs.size,[(s.heap.push { cls:=.type "range",data:=.fields #[.int lo t,.int a u,.int 1 v] }).objs.size],_,_,H,rfl,
  f.kept (t':=h) λb o e=>Aq _ e,rX _ lo (a - lo).toNat,?_,λb k=>?_,q⟩
 ·have l:lo+((0:Nat):Int) * 1=lo:=by simp
  have n:(((a - lo).toNat:Nat):Int) - ((0:Nat):Int)=Builtin.Range.rangeSize lo a 1:=by rw[rangeSize_one]; split <;> omega
  show IsRangeIter _ _ (lo+((0:Nat):Int) * 1) ((((a - lo).toNat:Nat):Int) - ((0:Nat):Int)) 1
  rw[l,n]
  exact Ca _ rfl
 ·have e:b=(s.heap.push { cls:=.type "range",data:=.fields #[.int lo t,.int a u,.int 1 v] }).objs.size:=by simpa using k
  subst e
  exact f.fpOk (Ak _) (f.hok.fresh (Ak _))
def GM(b:TA):TI:=λa H R=>b a H λvs c=>∃j:Int,vs=[.int j] /\ -(2 ^ 62)<=j/\j<2 ^ 62/\R (X4 0 j.toNat) c
theorem iI{a:Expr}{f:TA}{p pos:Pos}(o:Gl X "range")(v:X.mg "range" = none)(n:PA X [a] f)(i:Bl [a] X.env=[(false,eval a X.env)]:=by rfl):PI X c (.Call (.Name "range" p) [a] [] pos) (GM f):=by
 intro b s m H R I h
 refine Call_ (cG I o v boot_range (Oh (Kj (n pos b s m H _ I h) λw x ⟨vs,y,g,k,d⟩=>?_) i rfl))
 obtain ⟨j,e,d,u,q⟩:=d
 subst e
 cases k with
 | cons r l =>
  cases l
  obtain ⟨t,rfl⟩:=r
  exact call_range_1 (h9 g (by omega) (by omega) d u (by simpa using q))
def IC(h:TI)(g:TG)(f:TS):TS:=λD a H=>h a H λJ k=>∃W:Nat->Nat->St->Hp->Prop,(∃m,W 0 m a k)/\∀i m a H,W i m a H ->
 (J.stop i H/\D.nx a H)\/(J.go i H/\∃N:St->Hp->Prop,(∀c b,N c b->∃e,e<m/\W (i+1) e c b)/\∀x b,J.yld i H x b->g x a b λd j=>f { D with nx:=N,ct:=N,bk:=D.nx } d j)
def Ze(fp:List Addr)(h:Heap):List (Addr×Obj):=fp.filterMap λb=>(h.get? b).map λo=>(b,o)
theorem Nx{fp:List Addr}{h:Heap}{b:Addr}{o:Obj}(hb:b∈fp)(e:h.get? b=some o):(b,o)∈Ze fp h:=Ks.mpr ⟨b,hb,by rw[e]; rfl⟩
theorem wY{fp:List Addr}{h:Heap}{p:Addr×Obj}(a:p∈Ze fp h):p.1∈fp/\h.get? p.1=some p.2:=by
 obtain ⟨b,c,e⟩:=Ks.mp a
 cases q:h.get? b with
 | none=>rw[q] at e; cases e
 | some o =>
  rw[q] at e
  have d:(b,o)=p:=Bu e
  subst d
  exact ⟨c,q⟩
theorem Inv.pinned{a:List (Addr×Obj)}{c:St}{H:Hp}{s:Ap}{fp:List Addr}(I:Inv X a c H s)(i:∀b∈fp,Sk X a H b)(l:∀b∈fp,∃o,s.heap.get? b=some o/\∀v,o.data≠.cell v):Inv X (a++Ze fp s.heap) c H s :=
 I.pins_of λp h=>(Ai.mp h).elim (λz=>I.pin p (Ag _ z)) λz=>by
  obtain ⟨f,e⟩:=wY z
  obtain ⟨j,m,k,_⟩:=i p.1 f
  obtain ⟨o,g,d⟩:=l p.1 f
  rw[e] at g; cases g
  exact ⟨e,j,m,k,d⟩
theorem Inv.unpinned{a d:List (Addr×Obj)}{b:St}{H:Hp}{s:Ap}(I:Inv X (a++d) b H s):Inv X a b H s:=I.pins_of λp c=>I.pin p (Ag _ (Af _ c))
theorem E7{z:Expr}{E:List Stmt}{wi:TI}{g:TG}{tb:TS}{pos:Pos}(G:PassesOwn (model X.prog X.w) X.A X.env X.xe)(hc:X.calm=true)(hi:PI X c z wi)(hg:PG X c g)(hb:uU X E tb)(hs:∀x,Fu z X.env x=pure x:=by intro _; rfl):PS X (.For c z E [] pos) (IC wi g tb):=by
 intro j s σ H D I h
 refine wpAny_For (Kj (hi j s σ H _ I h) λv s1 h1=>Kj h1 λh0 s2 h2=>?_) hs
 obtain ⟨it,M,tn,J,H2,e,I2,T,R,f2,W,⟨m0,w0⟩,O⟩:=h2
 subst e
 -- what stays true of the iterator's objects through the loop
 have p:∀{B:Hp},(∀b∈M,B b=none)->∀b∈M,Sk X j B b:=λhn b hb=>⟨hn b hb,(f2 b hb).2⟩
 refine codeAny_forLoop_any (λn s'=>∃i q B,Inv X j q B s'/\tn i s'.heap/\(∀b∈M,B b=none)/\W i n q B) ?_ m0 ⟨0,σ,H2,I2,R,λb hb=>(f2 b hb).1,w0⟩
 (intro n s3 q_; obtain ⟨i,t,Q,I3,Vk,P,w3⟩ := q_)
 rcases O i n t Q w3 with ⟨L,qn⟩ | ⟨go,N,hN,step⟩
 ·refine Qx G (Kj (T.done X rfl rfl rfl hc i j s3 t Q X.xe I3 (p P) Vk L) λr s4 k => ?_)
  obtain ⟨Y,I4⟩ := k
  subst Y
  exact wpAny_execs_nil ⟨t,Q,I4,qn⟩
 ·refine Qx G (Kj (T.item X rfl rfl rfl hc i j s3 t Q X.xe I3 (p P) Vk go) λr s4 k => ?_)
  obtain ⟨u,Y,h4⟩ := k
  subst Y
  refine Qx G (Kj h4 λ_ s5 k => ?_)
  obtain ⟨x,H5,I5,r5,y5,F,S⟩ := k
  have Z:=I5.pinned (p S) (T.obj _ _ F)
  refine Qx G (Kj (hg _ s5 t H5 x u _ Z r5 (step x H5 y5)) λ_ s6 k => ?_)
  obtain ⟨U,H6,I6,q6⟩ := k
  refine Qx G (Kj (hb _ s6 U H6 _ I6 q6) λf V C=>?_)
  have again:∀{a:St} {y:Hp},Inv X (j++Ze M s5.heap) a y V->N a y->∃m,m<n/\∃i q B,Inv X j q B V/\tn i V.heap/\(∀b∈M,B b=none)/\W i m q B:=λ{a y} l K=>by
   obtain ⟨m',hm,w7⟩:=hN a y K
   refine ⟨m',hm,i+1,a,y,l.unpinned,T.keep _ _ _ F λb hb o e=>(l.pin (b,o) (Ag _ (Ag _ (Nx hb e)))).1,λb hb=>?_,w7⟩
   obtain ⟨o,e,d⟩:=T.obj _ _ F b hb
   exact (l.pin (b,o) (Ag _ (Ag _ (Nx hb e)))).2.1
  cases f with
  | next=>obtain ⟨a,y,l,K⟩:=C; exact again l K
  | cont=>obtain ⟨a,y,l,K⟩:=C; exact again l K
  | brk=>obtain ⟨a,y,l,C⟩:=C; exact ⟨a,y,l.unpinned,C⟩
  | ret v=>obtain ⟨x7,a,y,l,r7,C⟩:=C; exact ⟨x7,a,y,l.unpinned,r7,C⟩
end
theorem wJ{lo:Int}{n:Nat}{g:TG}{k:TS}{D:Ends}{a:St}{H:Hp}(c:Nat->St->Hp->Prop)(h0:c 0 a H)(o:∀i a H,i<n->c i a H->g (.int (lo+i)) a H λd h=>k { D with nx:=c (i+1),ct:=c (i+1),bk:=D.nx } d h)(hd:∀a H,c n a H->D.nx a H):∃W:Nat->Nat->St->Hp->Prop,(∃m,W 0 m a H)/\∀i m a H,W i m a H->((X4 lo n).stop i H/\D.nx a H)\/((X4 lo n).go i H/\∃N:St->Hp->Prop,(∀f H',N f H'->∃j,j<m/\W (i+1) j f H')/\∀x H',(X4 lo n).yld i H x H'->g x a H' λd h=>k { D with nx:=N,ct:=N,bk:=D.nx } d h):=by
 refine ⟨λi m a H=>m=n - i/\i<=n/\c i a H,⟨n,by simp,Em _,h0⟩,?_⟩
 (intro i m a H l; obtain ⟨rfl,r,p⟩ := l)
 by_cases b:i<n
 ·refine .inr ⟨b,c (i+1),λf H' q=>⟨n - (i+1),by omega,rfl,b,q⟩,λx H' y=>?_⟩
  obtain ⟨e,y⟩:=y
  subst e y
  exact o i a _ b p
 ·have e:i=n:=by omega
  subst e
  exact .inl ⟨Ak _,hd a H p⟩
abbrev R2:=V->V->Hp->VK->Prop
def Yh(X:Cx)(f:Value->Value->Sem Value)(r:R2):Prop :=
 ∀(a:List (Addr×Obj)) (s:Ap) (b:St) (H:Hp) (x y:V) (v u:Value) (Q:VK),Inv X a b H s->RelV x v->RelV y u->r x y H Q ->
  wpAny (model X.prog X.w) X.A (f v u) (EP X a b Q) X.xe s
def IY(X:Cx)(f:Value->Sem Value)(r:V->Hp->VK->Prop):Prop :=
 ∀(a:List (Addr×Obj)) (s:Ap) (b:St) (H:Hp) (x:V) (v:Value) (Q:VK),Inv X a b H s->RelV x v->r x H Q ->
  wpAny (model X.prog X.w) X.A (f v) (EP X a b Q) X.xe s
def Nf(X:Cx)(f:Value)(r:List V->Hp->VK->Prop):Prop :=
 ∀(a:List (Addr×Obj)) (s:Ap) (c:St) (H:Hp) (d:List V) (b:List Value) (Q:VK),Inv X a c H s->Gw d b->r d H Q ->
  wpAny (model X.prog X.w) X.A (call f b) (EP X a c Q) X.xe s
def IX(X:Cx)(r:V->Hp->(Bool->Hp->Prop)->Prop):Prop :=
 ∀(a:List (Addr×Obj)) (s:Ap) (b:St) (H:Hp) (x:V) (v:Value) (Q:Bool->Hp->Prop),Inv X a b H s->RelV x v->r x H Q ->
  wpAny (model X.prog X.w) X.A (truthy v) (TP X a b Q) X.xe s
def EO(r:R2)(c b:TE):TE:=λa H Q=>c a H λx e=>b a e λy d=>r x y d Q
def LD(r:V->Hp->VK->Prop)(b:TE):TE:=λa H Q=>b a H λx c=>r x c Q
def rI(C:Int->Int->Prop)(g:Int->Int->V):R2:=λx y H Q=>∃i j,x=.int i/\y=.int j/\C i j/\Q (g i j) H
def L1(g:Int->Int->V):R2:=λx y H Q=>∃i j,x=.int i/\y=.int j/\Q (g i j) H
def rU(g:Int->V):V->Hp->VK->Prop:=λx H Q=>∃i,x=.int i/\Q (g i) H
section
variable{X:Cx}{a b c:Expr}{d e k:TE}{pos:Pos}
theorem BK(z:PE X a d)(hb:PE X b e){c:List (Addr×Obj)}{s:Ap}{i:St}{H:Hp}{R:V->V->Hp->Prop}(I:Inv X c i H s)(h:d i H λx n=>e i n λy j=>R x y j){Q:Value->Ap->Prop}{f:Value->Value->Sem Value}(r:∀v u m x y j,Inv X c i j m->RelV x v->RelV y u->R x y j->wpAny (model X.prog X.w) X.A (f v u) Q X.xe m):wpAny (model X.prog X.w) X.A (eval a X.env) (λv l=>wpAny (model X.prog X.w) X.A (eval b X.env) (λu k=>wpAny (model X.prog X.w) X.A (f v u) Q X.xe k) X.xe l) X.xe s:=by
 refine Kj (z c s i H _ I h) λv B g => ?_
 obtain ⟨x,n,o,q,C⟩ := g
 refine Kj (hb c B i n _ o C) λu m g => ?_
 obtain ⟨y,j,p,t,D⟩ := g
 exact r v u m x y j p q t D
theorem Lo{op:Operator}{r:R2}(n:Yh X (Lp op) r)(k:PE X a d)(hb:PE X b e):PE X (.BinOp a op b pos) (EO r d e):=by
 intro c s j H Q I h
 exact wpAny_BinOp (BK k hb I h λv u m x y l i f g q=>n c m j l x y v u Q i f g q)
theorem vL{op:UnaryOp}{r:V->Hp->VK->Prop}(k:IY X (unaryOp op) r)(g:PE X a d):PE X (.UnaryOp op a pos) (LD r d):=by
 intro b s c H Q I h
 exact UnaryOp_ (Kj (g b s c H _ I h) λv i ⟨x,l,e,f,j⟩=>k b i c l x v Q e f j)
theorem FJ{f:Value->Value->Sem Value}{C:Int->Int->Prop}{g:Int->Int->Int}(rule:∀(i j:Int) (t u:Tok) (s:Ap) (Q:Value->Ap->Prop) (E:Value->Ap->Prop),C i j->Q (.int (g i j) s.toks) { s with toks:=s.toks+1 }->wpAny (model X.prog X.w) X.A (f (.int i t) (.int j u)) Q E s):Yh X f (rI C λi j=>.int (g i j)):=by
 intro a s k H x y v u Q I c d h
 obtain ⟨i,j,rfl,rfl,b,q⟩:=h
 obtain ⟨t,rfl⟩:=c
 obtain ⟨e,rfl⟩:=d
 exact rule i j t e s _ _ b ⟨.int (g i j),H,I.tok _,⟨_,rfl⟩,q⟩
theorem GH{f:Value->Value->Sem Value}{g:Int->Int->Int}(rule:∀(i j:Int) (t u:Tok) (s:Ap) (Q:Value->Ap->Prop) (E:Value->Ap->Prop),Q (.int (g i j) s.toks) { s with toks:=s.toks+1 }->wpAny (model X.prog X.w) X.A (f (.int i t) (.int j u)) Q E s):Yh X f (L1 λi j=>.int (g i j)):=by
 intro a s e H x y v u Q I b c h
 obtain ⟨i,j,rfl,rfl,q⟩:=h
 obtain ⟨t,rfl⟩:=b
 obtain ⟨d,rfl⟩:=c
 exact rule i j t d s _ _ ⟨.int (g i j),H,I.tok _,⟨_,rfl⟩,q⟩
theorem N5{f:Value->Value->Sem Value}{g:Int->Int->Bool}(rule:∀(i j:Int) (t u:Tok) (s:Ap) (Q:Value->Ap->Prop) (E:Value->Ap->Prop),Q (.bool (g i j)) s->wpAny (model X.prog X.w) X.A (f (.int i t) (.int j u)) Q E s):Yh X f (L1 λi j=>.bl (g i j)):=by
 intro a s e H x y v u Q I b c h
 obtain ⟨i,j,rfl,rfl,q⟩:=h
 obtain ⟨t,rfl⟩:=b
 obtain ⟨d,rfl⟩:=c
 exact rule i j t d s _ _ ⟨.bl (g i j),H,I,rfl,q⟩
def CU(i j:Int):Prop:=0<j/\j<1073741824
def T2(i j:Int):Prop:=0<=j/\j<=1000000/\i.natAbs<2 ^ 64
def N8(i j:Int):Prop:=(-(2 ^ 64)<i/\i<2 ^ 64)\/(-(2 ^ 64)<j/\j<2 ^ 64)
theorem N8.ok{i j:Int}(h:N8 i j):IntMulOk i j:=by
 rcases h with ⟨b,a⟩ | ⟨b,a⟩
 ·exact .of_left (intBits_le_64 b a)
 ·exact .of_right (intBits_le_64 b a)
theorem eV:Yh X (Lp .Add) (L1 λi j=>.int (i+j)):=GH λ_ _ _ _ _ _ _ q=>add_int q
theorem AO:Yh X (Lp .Sub) (L1 λi j=>.int (i - j)):=GH λ_ _ _ _ _ _ _ q=>sub_int q
theorem Yt:Yh X (Lp .Mult) (rI N8 λi j=>.int (i * j)):=FJ λ_ _ _ _ _ _ _ a q=>mul_int q a.ok
theorem lM:Yh X (Lp .FloorDiv) (rI CU λi j=>.int (i / j)):=FJ λi j _ _ _ _ _ a q=>by
 have c:(0:Int)<j:=a.1
 have b:j<1073741824:=a.2
 exact floordiv_int (by omega) (by rw[Int.fdiv_eq_ediv_of_nonneg i (by omega)]; exact q) (.inl (PyProof.noPylong_small (by omega)))
theorem Zj:Yh X (Lp .Mod) (rI (λ_ j=>0<j) λi j=>.int (i % j)):=FJ λi j _ _ _ _ _ a q=>by
 have b:(0:Int)<j:=a
 exact mod_int' (by omega) (by rw[Int.fmod_eq_emod_of_nonneg i (by omega)]; exact q)
theorem rN:Yh X (Lp .Pow) (rI T2 λi j=>.int (i ^ j.toNat)):=FJ λ_ _ _ _ _ _ _ a q=>pow_int_small a.1 a.2.1 a.2.2 q
theorem CT:Yh X (Lp .LShift) (rI T2 λi j=>.int (i * 2 ^ j.toNat)):=FJ λ_ _ _ _ _ _ _ a q=>lshift_int_small a.1 a.2.1 a.2.2 q
theorem KS{f:Value->Sem Value}{g:Int->Int}(rule:∀(i:Int) (t:Tok) (s:Ap) (Q:Value->Ap->Prop) (E:Value->Ap->Prop),Q (.int (g i) s.toks) { s with toks:=s.toks+1 }->wpAny (model X.prog X.w) X.A (f (.int i t)) Q E s):IY X f (rU λi=>.int (g i)):=by
 intro a s c H x v Q I b h
 obtain ⟨i,rfl,q⟩:=h
 obtain ⟨t,rfl⟩:=b
 exact rule i t s _ _ ⟨.int (g i),H,I.tok _,⟨_,rfl⟩,q⟩
theorem jT:IY X (unaryOp .USub) (rU λi=>.int (-i)):=KS λ_ _ _ _ _ q=>neg_int q
end
section
variable{X:Cx}{a b c:Expr}{f d g:TE}{pos:Pos}
theorem FD:Yh X (Jg .Lt) (L1 λi j=>.bl (decide (i<j))):=N5 λ_ _ _ _ _ _ _ q=>lt_int q
theorem op_le:Yh X (Jg .LtE) (L1 λi j=>.bl (decide (i<=j))):=N5 λ_ _ _ _ _ _ _ q=>le_int q
theorem GU:Yh X (Jg .Gt) (L1 λi j=>.bl (decide (j<i))):=N5 λ_ _ _ _ _ _ _ q=>gt_int q
theorem X3:Yh X (Jg .GtE) (L1 λi j=>.bl (decide (j<=i))):=N5 λ_ _ _ _ _ _ _ q=>ge_int q
theorem Tx(b:Expr){op:CmpOp}(h:op≠.In:=by decide)(c:op≠.NotIn:=by decide):Hz op b=false:=by
 have a:(op == CmpOp.In)=false:=by cases op <;> first | rfl | exact absurd rfl h
 have d:(op == CmpOp.NotIn)=false:=by cases op <;> first | rfl | exact absurd rfl c
 cases b <;> simp [Hz,a,d]
theorem vD{op:CmpOp}{r:R2}(o:Yh X (Jg op) r)(l:PE X a f)(hb:PE X b d)(e:Hz op b=false):PE X (.Compare a [op] [b] pos) (EO r f d):=by
 intro c s k H Q I h
 exact wpAny_Compare1 (BK l hb I h λv u n x y m j g i q=>o c n k m x y v u Q j g i q) e
def ET(t:TE):TT:=λa H Q=>t a H λx b=>∃k,x=.bl k/\Q k b
theorem P1{op:CmpOp}{r:R2}(p:Yh X (Jg op) r)(B:PE X a f)(hb:PE X b d)(q:Hz op b=false):PT X (.Compare a [op] [b] pos) (ET (EO r f d)):=by
 intro g s i H Q I h
 refine wpAny_isTrue_Compare1 (Kj (B g s i H _ I h) λv n ⟨x,J,j,l,D⟩=>Kj (hb g n i J _ j D) λu o ⟨y,E,w,A,G⟩ =>
  Kj (p g o i E x y v u _ w l A G) λc K ⟨z,t,F,m,k,e,C⟩=>?_) q
 subst e
 cases m
 exact Ip ⟨t,F,C⟩
def IU(K:PySem.W.Frag)(x:V)(H:Hp)(k:Bool):Prop :=
 match x with
 | .non=>k=false
 | .bl b=>k=b
 | .int i=>k=(i != 0)
 | .str y=>y.length<=Bf/\k=((y.length:Int) != 0)
 | .byt y=>y.size<=Bf/\k=((y.size:Int) != 0)
 | .ref p=>(∃a,Sx K H p a/\k = !a.isEmpty)\/(∃a,Vm K H p a/\k = !a.isEmpty)\/∃c,H p=some (.dK c)/\k = !c.isEmpty
 | _=>False
theorem sP{b:Type}{a:List (b×V)}{vs:List (b×Value)}(r:KV a vs):(!vs.isEmpty) = !a.isEmpty:=by
 cases r <;> rfl
theorem dP{xs:List V}{a:List Value}(r:Gw xs a):(!a.toArray.isEmpty) = !xs.isEmpty:=by
 cases r <;> simp
theorem Zi:(Bf:Nat)<2 ^ 63:=by rw[Le]; decide
theorem JI:IX X (λx H Q=>∃k,IU X.K x H k/\Q k H):=by
 intro o s D H x v Q I g h
 obtain ⟨k,e,q⟩:=h
 have C:=Zi
 have B:Bf=16777216:=Le
 cases x with
 | non =>
  cases g
  have a:k=false:=e
  subst a
  exact truthy_none ⟨H,I,q⟩
 | bl b =>
  cases g
  have a:k=b:=e
  subst a
  exact Ip ⟨H,I,q⟩
 | int i =>
  obtain ⟨t,rfl⟩:=g
  have a:k=(i != 0):=e
  subst a
  exact PySem.P.truthy_int ⟨H,I,q⟩
 | str y =>
  obtain ⟨t,rfl⟩:=g
  obtain ⟨z,a⟩ : y.length<=Bf/\k=((y.length:Int) != 0):=e
  subst a
  exact PySem.P.truthy_str (by omega) ⟨H,I.tok _,q⟩
 | byt y =>
  obtain ⟨t,rfl⟩:=g
  obtain ⟨z,a⟩ : y.size<=Bf/\k=((y.size:Int) != 0):=e
  subst a
  exact PySem.W.truthy_bytes (by omega) ⟨H,I.tok _,q⟩
 | ref p =>
  cases g
  have a:(∃f,Sx X.K H p f/\k = !f.isEmpty)\/(∃f,Vm X.K H p f/\k = !f.isEmpty)\/∃c,H p=some (.dK c)/\k = !c.isEmpty:=e
  rcases a with ⟨f,j,a⟩ | ⟨f,j,a⟩ | ⟨c,j,a⟩
  ·subst a
   obtain ⟨n,r,l,u⟩:=I.list j
   have d:=r.length
   exact wpAny_truthy_list l.isList (by simp only[Av]; omega) ⟨H,I.tok _,by rw[dP r]; exact q⟩
  ·subst a
   obtain ⟨n,r,l,u⟩:=I.tuple j
   have d:=r.length
   exact truthy_tuple l (by simp only[Av]; omega) ⟨H,I.tok _,by rw[dP r]; exact q⟩
  ·subst a
   obtain ⟨u,A,vs,r,m⟩ : c.length<=Bf/\(p == sysModules)=false/\∃vs,KV c vs/\s.heap.DictOf (jC X.prog X.w) p vs:=I.hok p _ j
   have d:c.length=vs.length:=Paired.length r
   exact wpAny_truthy_dict A m (by omega) ⟨H,I.tok _,by rw[sP r]; exact q⟩
 | _=>exact (show False from e).elim
theorem vals1{x:V}{us:List Value}(r:Gw [x] us):∃u,us=[u]/\RelV x u:=by
 cases r with
 | cons a b=>cases b; exact ⟨_,rfl,a⟩
theorem vals2{x y:V}{us:List Value}(r:Gw [x,y] us):∃u a,us=[u,a]/\RelV x u/\RelV y a:=by
 cases r with
 | cons b d =>
  cases d with
  | cons c e=>cases e; exact ⟨_,_,rfl,b,c⟩
theorem iN:Nf X (.type "int") (λxs H Q=>(∃i,xs=[.int i]/\Q (.int i) H)\/∃k,xs=[.bl k]/\Q (.int (if k then 1 else 0)) H):=by
 intro a s c H xs d Q I r h
 rcases h with ⟨i,rfl,q⟩ | ⟨k,rfl,q⟩
 ·obtain ⟨u,rfl,t,rfl⟩:=vals1 r
  exact call_int_int ⟨.int i,H,I,⟨_,rfl⟩,q⟩
 ·obtain ⟨u,rfl,b⟩:=vals1 r
  cases b
  exact call_int_bool ⟨.int (if k then 1 else 0),H,I.tok _,⟨_,rfl⟩,q⟩
def FP(K:PySem.W.Frag)(x:V)(H:Hp)(n:Nat):Prop :=
 match x with
 | .str y=>y.length<=Bf/\n=y.length
 | .byt y=>y.size<=Bf/\n=y.size
 | .ref p=>(∃a,Sx K H p a/\n=a.length)\/∃a,Vm K H p a/\n=a.length
 | _=>False
theorem Js:Nf X (.builtin "len") (λxs H Q=>∃x n,xs=[x]/\FP X.K x H n/\Q (.int n) H):=by
 intro j s w H xs v Q I r h
 obtain ⟨x,n,rfl,e,q⟩:=h
 obtain ⟨u,rfl,c⟩:=vals1 r
 have o:=Zi
 have m:Bf=16777216:=Le
 cases x with
 | str y =>
  obtain ⟨t,rfl⟩:=c
  obtain ⟨k,b⟩ : y.length<=Bf/\n=y.length:=e
  subst b
  exact len_str (by omega) ⟨.int _,H,I.tok _,⟨_,rfl⟩,q⟩
 | byt y =>
  obtain ⟨t,rfl⟩:=c
  obtain ⟨k,b⟩ : y.size<=Bf/\n=y.size:=e
  subst b
  exact PySem.W.len_bytes (by omega) ⟨.int _,H,I.tok _,⟨_,rfl⟩,q⟩
 | ref p =>
  cases c
  have b:(∃xs,Sx X.K H p xs/\n=xs.length)\/∃xs,Vm X.K H p xs/\n=xs.length:=e
  rcases b with ⟨xs,g,b⟩ | ⟨xs,g,b⟩
  ·subst b
   obtain ⟨f,i,d,l⟩:=I.list g
   have a:=i.length
   exact Calls.call_len_list d.isList (by simp only[Av]; omega) ⟨.int xs.length,H,I.tok _,⟨_,by simp only[Av]; rw[a]⟩,q⟩
  ·subst b
   obtain ⟨f,i,d,l⟩:=I.tuple g
   have a:=i.length
   exact len_tuple d (by simp only[Av]; omega) ⟨.int xs.length,H,I.tok _,⟨_,by simp only[Av]; rw[a]⟩,q⟩
 | _=>exact (show False from e).elim
end
structure ObjM(h:Heap)(x dx C:Addr)(mA:Str->Option Value):Prop where
 obj:h.get? x=some (PySem.W.instObj C dx)
 ns:h.Ns1 dx mA
 ne:dx≠x
theorem yA{h:Heap}{g:Addr}{f:Str->Option Value}(n:h.Ns1 g f):∃c,h.get? g=some c/\∀name,PySem.W.lookIn name c=some (f name):=by
 obtain ⟨o,d,r,p,m,i,_,j⟩:=n
 refine ⟨o,p,λname=>?_⟩
 have e:=j name
 unfold nsFind findBy at e
 rw[<- Array.find?_toList] at e
 unfold PySem.W.lookIn
 rw[m]
 dsimp only
 split
 ·rename_i y q
  rw[q] at e
  exact congrArg some e
 ·rename_i q
  rw[q] at e
  have a:d.toList.any (·.refKey)=false:=by
   rw[List.any_eq_false]
   intro y k
   obtain ⟨z,t,b⟩:=i y (Array.mem_toList_iff.mp k)
   simp [DictEntry.refKey,b]
  have l:¬ d.toList.any (·.refKey)=true:=by rw[a]; exact Cw
  rw[if_neg l]
  exact congrArg some e
theorem ObjM.look{h:Heap}{x b C:Addr}{c:Str->Option Value}(I:ObjM h x b C c):∃a,PySem.W.InstAt h x (PySem.W.instObj C b) C (some a)/\∀name,PySem.W.lookIn name a=some (c name) :=
 let ⟨a,ho,hl⟩:=yA I.ns
 ⟨a,⟨I.obj,rfl,rfl,ho⟩,hl⟩
section
variable{P:Bz}{w:World}{H H':Hp}{h h':Heap}{a C b:Addr}{fs c:List (Str×V)}
theorem P6(g:fT P w H h)(e:H a=some (.ins C b fs)):∃c,ObjM h a b C c/\(∀f,AX (fs.lookup f) (c f))/\PySem.Within c (fs.map (·.1))/\fs.length<=1000/\H b=some (.own a):=by
 obtain ⟨d,z,i,j,c,n,r,q⟩:=(show Mj P w H h a (.ins C b fs) from g a _ e)
 exact ⟨c,⟨j,n,i⟩,r,q,z,d⟩
end
structure Cls(K:PySem.W.Frag)(C:Addr):Prop where
 pg:PySem.W.plainGet K C Str.empty=true
 hd:PySem.W.hasDictIn K C=true
 po:PySem.W.plainOver K C=true
 sa:PySem.W.findIn K (.ref C) "__setattr__" = some (some (.builtin "object.__setattr__"))
theorem Cls.get{K:PySem.W.Frag}{C:Addr}(c:Cls K C)(f:Str):PySem.W.plainGet K C f=true:=c.pg
section
variable{X:Cx}{d:List (Addr×Obj)}{f:St}{H:Hp}{s:Ap}{A:Dm}{E:Value->Ap->Prop}{Q:Value->Ap->Prop}{c:Value}{b:Bool}
inductive TyOf (K:PySem.W.Frag) (H:Hp):V->Value->Prop where
 | non:TyOf K H .non (.type "NoneType")
 | bl (x:Bool):TyOf K H (.bl x) (.type "bool")
 | int (i:Int):TyOf K H (.int i) (.type "int")
 | str (x:Str):TyOf K H (.str x) (.type "str")
 | flt (x:UInt64):TyOf K H (.flt x) (.type "float")
 | lst {a:Addr} {xs:List V} (e:H a=some (.lst xs)):TyOf K H (.ref a) (.type "list")
 | frz {a:Addr} {o:Obj} {xs:List V} (e:H a=some (.frz o (.lst xs))):TyOf K H (.ref a) (.type "list")
 | tup {a:Addr} {xs:List V} (e:H a=some (.tup xs)):TyOf K H (.ref a) (.type "tuple")
 | dK {a:Addr} {kvs:List (bM×V)} (e:H a=some (.dK kvs)):TyOf K H (.ref a) (.type "dict")
 | dT {a:Addr} {kvs:List (List bM×V)} (e:H a=some (.dT kvs)):TyOf K H (.ref a) (.type "dict")
 | ins {a C dx:Addr} {fs:List (Str×V)} (e:H a=some (.ins C dx fs)) (cl:Cls K C) (ha:PySem.W.findIn K (.ref C) "__class__" = some (some (.builtin "object.__class__")))
   (hn:PySem.W.specialIn K (.builtin "object.__class__") "__get__" = some (some (.builtin "getset_descriptor.__get__"))) (htk:PySem.W.takesIn K (.builtin "object.__class__")=some true)
   (hm:PySem.W.mroIn K C (.type "object")=some true):TyOf K H (.ref a) (.ref C)
theorem wK{x:V}{u t:Value}(I:Inv X d f H s)(g:RelV x u)(G:TyOf X.K H x t)(e:PySem.W.kitOne X.K t c=some b)(h:∀L,Q (.bool b) { s with toks:=L }):wpAny (model X.prog X.w) A (call (.builtin "isinstance") [u,c]) Q E s:=by
 cases G with
 | non=>cases (show u=Yi from g); exact PySem.W.kia_one PySem.W.kitx_none I.kIn Zk e (λz=>nomatch z) h
 | bl y=>cases (show u=Value.bool y from g); exact PySem.W.kia_one PySem.W.kitx_bool I.kIn Zk e (λz=>nomatch z) h
 | int i=>obtain ⟨t,q⟩:=(show ∃t,u=Wk i t from g); cases q; exact PySem.W.kia_one PySem.W.kitx_int I.kIn Zk e (λz=>nomatch z) h
 | str y=>obtain ⟨t,q⟩:=(show ∃t,u=Value.str y t from g); cases q; exact PySem.W.kia_one PySem.W.kitx_str I.kIn Zk e (λz=>nomatch z) h
 | flt y=>obtain ⟨t,q⟩:=(show ∃t,u=Value.float y t from g); cases q; exact PySem.W.kia_one PySem.W.kitx_float I.kIn Zk e (λz=>nomatch z) h
 | @lst a m j =>
  cases (show u=Am a from g)
  obtain ⟨_,_,n,_,k⟩:=(show Mj X.prog X.w H s.heap a (.lst m) from I.hok a _ j)
  exact PySem.W.kia_one PySem.W.kitx_list I.kIn ⟨_,k,rfl⟩ e (λz=>nomatch z) h
 | @frz a R m j =>
  cases (show u=Am a from g)
  obtain ⟨_,_,_,n,_,k⟩:=(show Mj X.prog X.w H s.heap a (.frz R (.lst m)) from I.hok a _ j)
  exact PySem.W.kia_one PySem.W.kitx_list I.kIn ⟨_,k,rfl⟩ e (λz=>nomatch z) h
 | @tup a m j =>
  cases (show u=Am a from g)
  obtain ⟨_,_,_,p⟩:=(show Mj X.prog X.w H s.heap a (.tup m) from I.hok a _ j)
  obtain ⟨o,k,r,_⟩:=p
  exact PySem.W.kia_one PySem.W.kitx_tuple I.kIn ⟨o,k,r⟩ e (λz=>nomatch z) h
 | @dK a l j =>
  cases (show u=Am a from g)
  obtain ⟨_,_,vs,_,p⟩:=(show Mj X.prog X.w H s.heap a (.dK l) from I.hok a _ j)
  obtain ⟨o,M,N,k,r,_⟩:=p
  exact PySem.W.kia_one PySem.W.kitx_dict I.kIn ⟨o,k,r.1⟩ e (λz=>nomatch z) h
 | @dT a l j =>
  cases (show u=Am a from g)
  obtain ⟨_,_,m,_,o,M,N,k,r,_⟩:=(show Mj X.prog X.w H s.heap a (.dT l) from I.hok a _ j)
  exact PySem.W.kia_one PySem.W.kitx_dict I.kIn ⟨o,k,r.1⟩ e (λz=>nomatch z) h
 | @ins a C S fs j B F P v D =>
  cases (show u=Am a from g)
  obtain ⟨T,O,_⟩:=P6 I.hok j
  obtain ⟨U,J,_⟩:=O.look
  exact PySem.W.kia_one (PySem.W.kitx_own (B.get _) B.hd F P v D) I.kIn J e (λz=>nomatch z) h
end
structure Room(k:Nat)(A:Dm):Prop where
 hd:A.handled=none
 dp:A.depth+3 * k+5<recursionLimit
 un:A.units+16 * k+200<cLine
 gd:A.guards=some []
theorem Room.mono{j k:Nat}{A:Dm}(r:Room k A)(h:j<=k):Room j A:=⟨r.hd,by have:=r.dp; omega,by have:=r.un; omega,r.gd⟩
theorem Room.deeper{k:Nat}{A:Dm}(r:Room (k+1) A)(env:Env):Room k (A.deeper env) :=
 ⟨r.hd,by have:=r.dp; show A.depth+1+3 * k+5<_; omega,by have:=r.un; show A.units+3+16 * k+200<_; omega,r.gd⟩
theorem Room.depth{k:Nat}{A:Dm}(r:Room k A):A.depth<recursionLimit:=by have:=r.dp; omega
theorem Room.units{k:Nat}{A:Dm}(r:Room k A):A.units+64<cLine:=by have:=r.un; omega
def u4:TA:=λ_ H Q=>Q [] H
def tJ(b:TE)(tr:TA):TA:=λa H Q=>b a H λx e=>tr a e λd c=>Q (x::d) c
section
variable{X:Cx}{e:Expr}{es:List Expr}{te:TE}{t:TA}{pos:Pos}
theorem Mg:PA X [] u4:=λ_ _ _ _ H Q I h=>Calls.spliced_nil ⟨[],H,I,.nil,h⟩
theorem Hq(l:PE X e te)(d:PA X es t)(i:Bl (e::es) X.env=(false,eval e X.env)::Bl es X.env:=by rfl):PA X (e::es) (tJ te t):=by
 intro pos a s c H Q I h
 rw[i]
 show wpAny _ _ (spliced ((false,eval e X.env)::Hf pos (Bl es X.env))) _ _ s
 refine Calls.spliced_cons (Kj (l a s c H _ I h) λu m b => ?_)
 obtain ⟨x,r,f,j,n⟩ := b
 exact Kj (d pos a m c r _ f n) λv w ⟨q,p,g,k,o⟩=>⟨x::q,p,g,.cons j k,o⟩
def JK(t:TA):TE:=λc H Q=>t c H λa b=>a.length<=Bf/\∀p,b p=none->Q (.ref p) (upd b p (.tup a))
def JH(t:TA):TE:=λc H Q=>t c H λa b=>a.length<=Bf/\∀p,b p=none->Q (.ref p) (upd b p (.lst a))
theorem qG{x1}(h:PA X es t):PE X (.Tuple es x1 pos) (JK t):=by
 intro a s i H Q I k
 refine wpAny_Tuple_spliced (Kj (h pos a s i H _ I k) λg c ⟨l,f,d,r,z,q⟩=>⟨by rw[<- r.length]; exact z,?_⟩)
 have j:f c.heap.objs.size=none:=d.hok.fresh (Ak _)
 refine ⟨.ref c.heap.objs.size,upd f c.heap.objs.size (.tup l),d.laid (t':=c.toks) (λb u e=>Aq _ e) (Ak _) ?_,rfl,q _ j⟩
 exact ⟨z,g,r,⟨_,Ca _ rfl,rfl,_,rfl⟩⟩
theorem pR(h:PA X es t):PE X (.List es pos) (JH t):=by
 intro a s i H Q I k
 refine wpAny_List_spliced (Kj (h pos a s i H _ I k) λg c ⟨l,f,d,r,z,q⟩=>⟨by rw[<- r.length]; exact z,?_⟩)
 have j:f c.heap.objs.size=none:=d.hok.fresh (Ak _)
 refine ⟨.ref c.heap.objs.size,upd f c.heap.objs.size (.lst l),d.laid (t':=c.toks) (λb u e=>Aq _ e) (Ak _) ?_,rfl,q _ j⟩
 exact ⟨z,g,0,r,Ca _ rfl⟩
end
abbrev Sp:=List V->Hp->VK->XK->Prop
abbrev vO:=List Env->Hp->Ap->XK->Value->Ap->Prop
structure Env0(P:Bz)(w:World)(K:PySem.W.Frag)(mg:Str->Option Value)(base:Heap)(A:Dm)(outer:List Env)(s:Ap)(H:Hp):Prop where
 frames:A.frames=some outer
 mod:Mod K mg base
 bs:∀b o,base.get? b=some o->s.heap.get? b=some o/\H b=none
 bsz:base.objs.size<=s.heap.objs.size
 funs:s.heap.FunFrames base outer
 frf:∀b∈yB outer,H b=none
 hok:fT P w H s.heap
 bare:Ul s.gens
 tab:zT K mg base H
def CE(outer:List Env)(P:Bz)(w:World)(H:Hp)(s:Ap)(Q:VK)(u:Value)(s':Ap):Prop :=
 ∃v a,s'.os=s.os/\Ul s'.gens/\Un (yB outer) [] H a s.heap s'.heap/\fT P w a s'.heap/\RelV v u/\Q v a
def CR(CX:vO)(outer:List Env)(P:Bz)(w:World)(H:Hp)(s:Ap)(Q:VK)(E:XK)(r:Result)(s':Ap):Prop :=
 match r with
 | .ok (.ret u)=>CE outer P w H s Q u s'
 | .ok _=>False
 | .error e=>CX outer H s E e s'
structure FnOk(P:Bz)(w:World)(K:PySem.W.Frag)(mg:Str->Option Value)(base:Heap)(CX:vO)(k:Nat)(f:Addr)(fd:Cu)(ps:List Str)(sp:Sp):Prop where
 len:∀vs H Q E,sp vs H Q E->vs.length=ps.length
 run:∀(A:Dm) (outer:List Env) (s:Ap) (H:Hp) (args:Args) (us:List Value) (vs:List V) (Q:VK) (E:XK),Room k A->Env0 P w K mg base A outer s H->BindsTo s fd args (ps.zip us)->Gw vs us->sp vs H Q E ->
  Ru (model P w) A (.call (.ref f) args) (CR CX outer P w H s Q E) s
theorem FnOk.imp{P:Bz}{w:World}{K:PySem.W.Frag}{mg:Str->Option Value}{base:Heap}{CX:vO}{k:Nat}{f:Addr}{d:Cu}{ps:List Str}{sp c:Sp}(F:FnOk P w K mg base CX k f d ps sp)(h:∀vs H Q E,c vs H Q E->sp vs H Q E):FnOk P w K mg base CX k f d ps c :=
 ⟨λvs H Q E q=>F.len vs H Q E (h _ _ _ _ q),λA a s H b j vs Q E g e l m i=>F.run A a s H b j vs Q E g e l m (h _ _ _ _ i)⟩
section
variable{X:Cx}{a:List (Addr×Obj)}{c:St}{H:Hp}{s s':Ap}
theorem Inv.env0(I:Inv X a c H s):Env0 X.prog X.w X.K X.mg X.base X.A X.stack s H :=
 ⟨I.ok.frames,I.ok.mod,I.bs,Br I.ok.bsz I.sz,I.stack,I.stkFree,I.hok,I.bare,I.ok.tab.un I.base⟩
theorem Inv.after{Q:VK}{u:Value}(I:Inv X a c H s)(h:CE X.stack X.prog X.w H s Q u s'):EP X a c Q u s':=by
 obtain ⟨v,j,os,e,un,i,r,q⟩:=h
 obtain ⟨k,g,d,t,f⟩:=s'
 obtain rfl:f=s.os:=os
 exact ⟨v,j,I.call (h':=k) (g':=g) (d':=d) (t':=t) (ch:=[]) un i e (λb z=>absurd z (by simp)),r,q⟩
end
def Y4(sp:Sp)(a:List V)(E:XK)(t:TA):TE:=λb H Q=>t b H λvs c=>sp (vs++a) c Q E
def Binds(K:PySem.W.Frag)(c:Cu)(ps:List Str)(b:List Value):Prop :=
 ∀(s:Ap) (a:List Value),K.In s.heap->(a++b).length=ps.length->BindsTo s c ⟨a,[]⟩ (ps.zip (a++b))
theorem Binds.all{K:PySem.W.Frag}{b:Cu}{ps:List Str}(h:∀us:List Value,us.length=ps.length->bindArgs b ⟨us,[]⟩=pure (ps.zip us)):Binds K b ps []:=λs us _ a=>by
 rw[Et] at a ⊢
 exact .of_eq (h us a)
def Qq(CX:vO)(X:Cx)(E:XK):Prop:=∀(a:List (Addr×Obj)) (c:St) (H:Hp) (s:Ap) (e:Value) (b:Ap),Inv X a c H s->CX X.stack H s E e b->X.xe e b
section
variable{X:Cx}{CX:vO}{k:Nat}{f C:Addr}{c:Cu}{ps:List Str}{sp:Sp}{a:List V}{b:List Value}{E:XK}{x m:Str}{p pos d:Pos}{e o:Expr}{es:List Expr}{g:TE}{t:TA}
theorem E5{d:List (Addr×Obj)}{i:St}{H:Hp}{s:Ap}{Q:VK}{us:List Value}{vs:List V}(F:FnOk X.prog X.w X.K X.mg X.base CX k f c ps sp)(m:Room k X.A)(hb:Binds X.K c ps b)(hd:Gw a b)(o:Qq CX X E)(I:Inv X d i H s)(r:Gw vs us)(h:sp (vs++a) H Q E):wpAny (model X.prog X.w) X.A (call (.ref f) us) (EP X d i Q) X.xe s:=by
 have j:Gw (vs++a) (us++b):=r.append hd
 have n:(us++b).length=ps.length:=by rw[<- j.length]; exact F.len _ _ _ _ h
 refine wpAny_call (Wt (F.run X.A X.stack s H ⟨us,[]⟩ (us++b) (vs++a) Q E m I.env0 (hb s us I.kIn n) j h) λr p g=>?_)
 cases r with
 | error e=>exact o d i H s e p I g
 | ok l =>
  cases l with
  | ret u=>exact I.after g
  | next=>exact Lq g
  | brk=>exact Lq g
  | cont=>exact Lq g
theorem Ww(F:FnOk X.prog X.w X.K X.mg X.base CX k f c ps sp)(n:Room k X.A)(y:Gl X x)(z:X.mg x=some (.ref f))(l:PySem.W.keepIn X.K (.ref f)=true)(hb:Binds X.K c ps b)(hd:Gw a b)(v:Qq CX X E)(u:PA X (e::es) t)(g:(x == ("__debug__" : Str))=false:=by decide)(m:Bl (e::es) X.env=(false,eval e X.env)::Bl es X.env:=by rfl)(i:(Hf pos (Bl es X.env)).any (·.1)=false:=by rfl):PE X (.Call (.Name x p) (e::es) [] pos) (Y4 sp a E t):=by
 intro d s o H Q I h
 refine Ta (tE I y z ?_ g)
 refine PySem.W.callWith_K (h₀:=X.base) I.ok.mod.kin l (Kj (u pos d s o H _ I h) λB C ⟨vs,D,j,r,q⟩=>⟨j.kIn,?_⟩) m i
 exact E5 F n hb hd v j r q
theorem t8(F:FnOk X.prog X.w X.K X.mg X.base CX k f c ps sp)(i:Room k X.A)(l:Gl X x)(m:X.mg x=some (.ref f))(g:PySem.W.keepIn X.K (.ref f)=true)(hb:Binds X.K c ps b)(hd:Gw a b)(j:Qq CX X E)(d:(x == ("__debug__" : Str))=false:=by decide):PE X (.Call (.Name x p) [] [] pos) (Y4 sp a E u4):=by
 intro e s n H Q I h
 refine Ta (tE I l m ?_ d)
 exact PySem.W.callWith_K0 I.kIn g (E5 (us:=[]) F i hb hd j I .nil h)
end
structure FnScope(N P:List Str)(sc:Scope):Prop where
 kind:sc.kind=.function
 co:sc.isCoroutine=false
 gen:sc.isGenerator=false
 nd:N.Nodup
 pre:N.take P.length=P
 par:∀x∈P,sc.names.lookup x=some .local\/sc.names.lookup x=some .cell
 nofree:∀y∈sc.names,y.2≠.free
theorem hZ{kindOf:Str->Option Ql}{x:Str}:∀{binds:List (Str×Value)} {m:Str->Option Value},(∀v,(x,v)∉binds)->bindL kindOf binds m x=m x
 | [],_,_=>rfl
 | (n,v)::r,m,h=>by
  unfold bindL
  rw[hZ λw a=>h w (Ae _ a)]
  split
  ·have : x≠n:=by rintro rfl; exact h v Aa
   simp [this]
  ·rfl
theorem iP{kindOf:Str->Option Ql}{x:Str}:∀{binds:List (Str×Value)} {m:Str->Option Value},(∀v,(x,v)∉binds)->bindC kindOf binds m x=m x
 | [],_,_=>rfl
 | (n,v)::r,m,h=>by
  unfold bindC
  rw[iP λw a=>h w (Ae _ a)]
  split
  ·rfl
  ·have : x≠n:=by rintro rfl; exact h v Aa
   simp [this]
theorem iM{kindOf:Str->Option Ql}{x:Str}{v:Value}:∀{P:List Str} {vs:List Value} {i:Nat} {m:Str->Option Value},P.Nodup->P[i]? = some x->vs[i]? = some v->kindOf x=some .local->bindL kindOf (P.zip vs) m x=some v
 | [],_,_,_,_,h,_,_=>by simp at h
 | _::_,[],_,_,_,_,h,_=>by simp at h
 | p::P,w::vs,0,m,nd,h1,h2,hk=>by
  simp at h1 h2; subst h1; subst h2
  show bindL kindOf ((p,w)::P.zip vs) m p=_
  unfold bindL
  rw[hZ λv a=>(Bp.mp nd).1 (List.of_mem_zip a).1,if_pos hk]
  simp
 | p::P,w::vs,i+1,m,nd,h1,h2,hk=>by
  show bindL kindOf ((p,w)::P.zip vs) m x=_
  unfold bindL
  exact iM (i:=i) (Bp.mp nd).2 (by simpa using h1) (by simpa using h2) hk
theorem iO{kindOf:Str->Option Ql}{x:Str}{v:Value}:∀{P:List Str} {vs:List Value} {i:Nat} {m:Str->Option Value},P.Nodup->P[i]? = some x->vs[i]? = some v->kindOf x≠some .local->bindC kindOf (P.zip vs) m x=some v
 | [],_,_,_,_,h,_,_=>by simp at h
 | _::_,[],_,_,_,_,h,_=>by simp at h
 | p::P,w::vs,0,m,nd,h1,h2,hk=>by
  simp at h1 h2; subst h1; subst h2
  show bindC kindOf ((p,w)::P.zip vs) m p=_
  unfold bindC
  rw[iP λv a=>(Bp.mp nd).1 (List.of_mem_zip a).1,if_neg hk]
  simp
 | p::P,w::vs,i+1,m,nd,h1,h2,hk=>by
  show bindC kindOf ((p,w)::P.zip vs) m x=_
  unfold bindC
  exact iO (i:=i) (Bp.mp nd).2 (by simpa using h1) (by simpa using h2) hk
def start(N:List Str)(vs:List V):St:=vs.map some++Ja (N.length - vs.length) none
def Pj(CX:vO)(P:Bz)(w:World)(K:PySem.W.Frag)(mg:Str->Option Value)(base:Heap)(N:List Str)(b:Str)(a:Scope)(f:Addr)(d:Value)(A:Dm)(outer:List Env)(s:Ap)(H:Hp)(E:XK):Cx where
 prog:=P
 w:=w
 K:=K
 mg:=mg
 base:=base
 A:=A.deeper (envOfC b a s.heap.objs.size f d)
 N:=N
 s₀:=s
 H₀:=H
 env:=envOfC b a s.heap.objs.size f d
 outer:=outer
 stack:=envOfC b a s.heap.objs.size f d::outer
 ex:=[]
 calm:=true
 fn:=λ_=>true
 pn:=[]
 xe:=λe h=>wpAny (model P w) (A.deeper (envOfC b a s.heap.objs.size f d)) (leaving (envOfC b a s.heap.objs.size f d) e) (λ_ c=>CX outer H s E e c) (λg c=>CX outer H s E g c) h
theorem nE{a:Scope}{n:Nat}{x:Str}(h:a.names.lookup x=some .cell):∃c,(Gh n a.names []).lookup x=some c:=by
 have q:=PySem.W.cellsFrom_some a.names n [] (.inl h)
 exact Rp.mp q
theorem xQ{CX:vO}{P:Bz}{w:World}{K:PySem.W.Frag}{mg:Str->Option Value}{base:Heap}{N ps:List Str}{g:Str}{d:Scope}{f:Addr}{B:Value}{A:Dm}{outer:List Env}{s G:Ap}{H:Hp}{E:XK}{us:List Value}{vs:List V}(S:FnScope N ps d)(hd:A.handled=none)(l:Env0 P w K mg base A outer s H)(hl:vs.length=ps.length)(r:Gw vs us)(x:InCallC s s.heap.objs.size (bindL (envOfC g d s.heap.objs.size f B).kindOf (ps.zip us) λ_=>none) (Gh (s.heap.objs.size+1) d.names []) (bindC (envOfC g d s.heap.objs.size f B).kindOf (ps.zip us) λ_=>none) G):Inv (Pj CX P w K mg base N g d f B A outer s H E) [] (start N vs) H G:=by
 have M:ps.length<=N.length:=by have:=congrArg Ek S.pre; rw[Dl] at this; omega
 obtain ⟨C,Q,rfl,F⟩:=x.done
 have m:∀b:Addr,b∉(Pj CX P w K mg base N g d f B A outer s H E).ex:=λb z=>absurd (show b∈([]:List Addr) from z) (by simp)
 refine ⟨⟨l.mod,S.kind,rfl,rfl,Ak _,λy z c C j=>?_,λy hy=>?_,λy c _ h=>?_,λ_=>hd,Around.frames_deeper l.frames,.inr ⟨rfl,rfl⟩,λb z=>absurd z (m b),l.bs,l.bsz,λb _ _=>m b,λb z=>absurd z (m b),l.funs,l.frf,l.tab⟩,
  rfl,l.bare,Un.kept F,⟨_,x.toInCall.ns,λi y v C j O=>?_⟩,λy c h=>⟨_,x.cell y c h⟩,l.hok.fresh (Ak _),λy c h=>?_,λp o=>absurd (show p∈([]:List (Addr×Obj)) from o) (by simp),l.hok.kept F,?_⟩
 ·exact name_of_addr x.apart (PySem.mem_of_lookup C) (PySem.mem_of_lookup j)
 ·have hy:d.names.lookup y=some .cell\/d.names.lookup y=some .free:=hy
  rcases hy with hy | hy
  ·exact nE hy
  ·exact absurd rfl (S.nofree _ (PySem.mem_of_lookup hy))
 ·exact Ma (x.above y c (PySem.mem_of_lookup h))
 ·have D:i<vs.length:=by
   unfold start at j
   by_cases D:i<vs.length
   ·exact D
   ·rw[Fz (by simpa using D)] at j
    rw[List.getElem?_replicate] at j
    split at j <;> cases j
  have L:vs[i]? = some v:=by
   unfold start at j
   rw[Mc (by simpa using D),Bo] at j
   cases e:vs[i]? with
   | none=>rw[e] at j; cases j
   | some a=>rw[e] at j; cases j; rfl
  obtain ⟨u,I,J⟩:=r.get L
  have o:ps[i]? = some y:=by
   rw[<- S.pre,Jt (by omega)]; exact C
  have t:ps.Nodup:=by rw[<- S.pre]; exact S.nd.sublist (Jl _ _)
  refine ⟨u,J,?_⟩
  rcases S.par y (Ao o) with k | k
  ·exact .inl ⟨k,iM t o I k⟩
  ·obtain ⟨c,e⟩:=nE (n:=s.heap.objs.size+1) k
   refine .inr ⟨.inl k,c,e,?_⟩
   have q:=x.cell y c e
   rw[iO t o I (by show d.names.lookup y≠_; rw[k]; decide)] at q
   exact q
 ·exact l.hok.fresh (Ma (x.above y c (PySem.mem_of_lookup h)))
 ·unfold start
  show _=N.length
  rw[Az,Ac,List.length_replicate]
  omega
theorem FW{CX:vO}{P:Bz}{w:World}{K:PySem.W.Frag}{mg:Str->Option Value}{base:Heap}{k:Nat}{f:Addr}{name c:Str}{g:Arguments}{h:List Stmt}{a:Scope}{dV kV C U d ct oc:Value}{R od:Option Addr}{L:Array (Option Value)}{N ps:List Str}{sp:Sp}(lk:K.lookup f=some ⟨oc,od,.func (PySem.W.fnOf name c g h a dV kV C U R d ct),L⟩)(F:PySem.W.codeIn K d c=true)(S:FnScope N ps a)(len:∀vs H Q E,sp vs H Q E->vs.length=ps.length)(l:∀(A:Dm) (outer:List Env) (s:Ap) (H:Hp) (vs:List V) (Q:VK) (E:XK),Room k (A.deeper (envOfC c a s.heap.objs.size f d))->sp vs H Q E->∃t,uU (Pj CX P w K mg base N c a f d A outer s H E) h t/\t { nx:=λ_ H'=>Q .non H',rt:=Q } (start N vs) H):FnOk P w K mg base CX (k+1) f (PySem.W.fnOf name c g h a dV kV C U R d ct) ps sp:=by
 refine ⟨len,λA outer s H X us vs Q E M p hb r B=>?_⟩
 have hl:=len _ _ _ _ B
 have Y:K.In s.heap:=p.mod.kin.keeps λb o e=>(p.bs b o e).1
 have G:s.heap.NoLimit:=p.mod.nolimit.keeps λb o e=>(p.bs b o e).1
 have j:∀y∈ps.zip us,a.names.lookup y.1=some .local\/(a.names.lookup y.1=some .cell/\((Gh (s.heap.objs.size+1) a.names []).lookup y.1).isSome=true):=λ⟨n,v⟩ hy=>by
  rcases S.par n (List.of_mem_zip hy).1 with q | q
  ·exact .inl q
  ·exact .inr ⟨q,PySem.W.cellsFrom_some _ _ _ (.inl q)⟩
 refine codeAny_call_function M.depth (Y _ _ lk) rfl S.co S.gen rfl (PySem.W.codeRec_of Y F) (hb _ _ _ _ ?_)
 refine wpAny_newFunctionEnv_cells S.kind j λh0 he T x=>?_
 subst he
 refine ⟨G.keeps x.toInCall.keep,codeAny_func ?_⟩
 obtain ⟨t,Z,hq⟩:=l A outer s H vs Q E (M.deeper _) B
 have I:Inv (Pj CX P w K mg base N c a f d A outer s H E) [] (start N vs) H T:=xQ S M.hd p hl r x
 refine Kg (Z [] T (start N vs) H _ I hq) (λfl O m=>?_) λe O m=>m
 have z:∀{i:St} {H':Hp} {v:V} {u:Value},Inv (Pj CX P w K mg base N c a f d A outer s H E) [] i H' O->RelV v u->Q v H'->CE outer P w H s Q u O :=
  λ{i H' v u} J D q=>⟨v,H',J.os,J.bare,J.base,J.hok,D,q⟩
 cases fl with
 | ret u =>
  obtain ⟨v,i,H',J,D,q⟩:=m
  exact z J D q
 | next =>
  obtain ⟨i,H',J,q⟩:=m
  exact z (v:=V.non) (u:=Yi) J rfl q
 | brk =>
  obtain ⟨_,_,_,q⟩:=m
  exact Lq q
 | cont =>
  obtain ⟨_,_,_,q⟩:=m
  exact Lq q
section
variable{X:Cx}{x:Str}{p pos:Pos}{e:Expr}{es:List Expr}{t:TA}{id T:String}{r:List V->Hp->VK->Prop}
def ED(r:List V->Hp->VK->Prop)(t:TA):TE:=λa H Q=>t a H λvs b=>r vs b Q
theorem dR(f:Nf X (.builtin id) r)(n:Gl X x)(v:X.mg x=none)(q:Lh x=some (.builtin id))(m:PA X (e::es) t)(l:x ≠ "__name__" := by decide)(b:(x == ("__debug__" : Str))=false:=by decide)(g:Bl (e::es) X.env=(false,eval e X.env)::Bl es X.env:=by rfl)(c:(Hf pos (Bl es X.env)).any (·.1)=false:=by rfl):PE X (.Call (.Name x p) (e::es) [] pos) (ED r t):=by
 intro a s d H Q I h
 refine Ta (cG I n v q ?_ l b)
 exact PyProof.Rows.callWith_builtin1 (Kj (m pos a s d H _ I h) λk o ⟨vs,w,i,j,u⟩=>f a o d w vs k Q i j u) g c
theorem Yx(f:Nf X (.type T) r)(n:Gl X x)(v:X.mg x=none)(q:Lh x=some (.type T))(m:PA X (e::es) t)(l:x ≠ "__name__" := by decide)(b:(x == ("__debug__" : Str))=false:=by decide)(g:Bl (e::es) X.env=(false,eval e X.env)::Bl es X.env:=by rfl)(c:(Hf pos (Bl es X.env)).any (·.1)=false:=by rfl):PE X (.Call (.Name x p) (e::es) [] pos) (ED r t):=by
 intro a s d H Q I h
 refine Ta (cG I n v q ?_ l b)
 exact Oh (Kj (m pos a s d H _ I h) λk o ⟨vs,w,i,j,u⟩=>f a o d w vs k Q i j u) g c
end
end L2
namespace HT
open PySem PyProof.Rows
def lexLt:List Int->List Int->Bool
 | [],[]=>false
 | [],_::_=>true
 | _::_,[]=>false
 | x::xs,y::ys=>if x=y then lexLt xs ys else decide (x<y)
theorem lexLt_cons(x y:Int)(xs ys:List Int):lexLt (x::xs) (y::ys)=if x=y then lexLt xs ys else decide (x<y):=rfl
theorem lexLt_nil_nil:lexLt [] []=false:=rfl
theorem lexLt_nil_cons(y:Int)(ys:List Int):lexLt [] (y::ys)=true:=rfl
theorem lexLt_cons_nil(x:Int)(xs:List Int):lexLt (x::xs) []=false:=rfl
theorem G8(A:Dm)(s:Ap)(a:Int)(t:Tok)(c:Int)(u:Tok):∃e,Oj A s (.int a t) (.int c u) e/\(e=true↔a=c) :=
 ⟨(a == c),SeqAt.EqAt.int_int a t c u,by simp⟩
theorem E2(A:Dm)(s:Ap)(a:Int)(t:Tok)(c:Int)(u:Tok)(prog:Bz)(w:World)(E:Value->Ap->Prop)(Q:Value->Ap->Prop)(h:Q (.bool (decide (a<c))) s):wpAny (model prog w) A (richCompare .Lt (.int a t) (.int c u)) Q E s :=
 (PyProof.Rows.lt_int h:wpAny (model prog w) A (Jg .Lt (.int a t) (.int c u)) Q E s)
section
open PySem.SeqAt
open PySem.AutoSeq1 (wpAny_loadPart')
open PySem.MeetsSeq PySem.MeetsSeq2 PySem.MeetsSeq3
theorem tuple_lt_ints(l b:Addr)(i f:Array Value)(n S:Nat)(W L:Option Addr)(Y K:Array (Option Value))(ns I:List Int)(P:Ib i.toList ns)(O:Ib f.toList I):Meets (Builtin.«tuple.__lt__» ⟨[.ref l,.ref b],[]⟩) (λ_ R s=>s.heap.get? l=some { cls:=.type "tuple",dict:=W,data:=.seq i n,slots:=Y }/\s.heap.get? b=some { cls:=.type "tuple",dict:=L,data:=.seq f S,slots:=K }/\R (.ok (.ret (.bool (lexLt ns I)))) s) :=
 .of_wp λv w A R s h=>by
  obtain ⟨F,g,d,H,os⟩:=s; obtain ⟨V,T,h⟩:=h
  have f2:=AutoSeq1.sub_tuple_tuple
  have z1:i.size=ns.length:=by rw[<- P.length]; simp
  have z2:f.size=I.length:=by rw[<- O.length]; simp
  wp_walk using Yb V,Yb T,Vv _ (λGx b N=>b.1=none/\N=⟨F,g,d,H,os⟩/\∃(vs G:List Value) (k m:List Int),Gx=vs.zip G /\
   Ib vs k/\Ib G m/\k.length+f.size=m.length+i.size/\R (.ok (.ret (.bool (lexLt k m)))) ⟨F,g,d,H,os⟩) _
  case turn =>
   (rintro ⟨y,x⟩ Gx b N M; obtain ⟨C,rfl,vs,G,k,m,o,B,p,j,z⟩ := M)
   cases B with
   | nil=>rw[List.zip_nil_left] at o; cases o
   | cons a t D =>
    cases p with
    | nil=>rw[List.zip_nil_right] at o; cases o
    | cons c u E =>
     rw[Qu] at o
     injection o with hyx hrest
     injection hyx with hy hx
     subst hy hx
     rw[lexLt_cons] at z
     simp only[Bg] at j
     obtain ⟨e,U,r⟩:=G8 A.in1 ⟨F,g,d,H,os⟩ a t c u
     refine Ah (U v w _ _ ?_)
     cases e with
     | true =>
      rw[if_pos (r.mp rfl)] at z
      wp_walk
      exact ⟨rfl,rfl,_,_,_,_,hrest,D,E,by omega,z⟩
     | false =>
      rw[if_neg (λq=>absurd (r.mpr q) Cw)] at z
      have J:=E2 A.in1 ⟨F,g,d,H,os⟩ a t c u v w
      wp_walk using J
      exact ⟨_,rfl,by simpa using z⟩
  case fin =>
   (rintro ⟨b1,Z⟩ N M; obtain ⟨C,rfl,vs,G,k,m,o,B,p,j,z⟩ := M)
   simp only at C
   subst C
   have Q:lexLt k m=decide (i.size<f.size):=by
    cases B with
    | nil =>
     cases p with
     | nil =>
      simp only[Gv] at j
      rw[lexLt_nil_nil]
      exact (decide_eq_false (by omega)).symm
     | cons c u X =>
      simp only[Gv,Bg] at j
      rw[lexLt_nil_cons]
      exact (decide_eq_true (by omega)).symm
    | cons a t Q =>
     cases p with
     | nil =>
      simp only[Gv,Bg] at j
      rw[lexLt_cons_nil]
      exact (decide_eq_false (by omega)).symm
     | cons c u X =>
      rw[Qu] at o
      cases o
   rw[Q] at z
   wp_walk
   exact ⟨_,rfl,by simpa [Builtin.Tuple.tupleCompareSizes] using z⟩
  case h =>
   exact ⟨rfl,rfl,i.toList,f.toList,ns,I,rfl,P,O,by omega,h⟩
end
section
variable{prog:Bz}{w:World}{A:Dm}{E:Value->Ap->Prop}{s:Ap}
theorem lt_tupInts{l b:Addr}{c a:Array Value}{ns g:List Int}{Q:Value->Ap->Prop}(hl:IsTup s.heap l c)(hb:IsTup s.heap b a)(u:Ib c.toList ns)(r:Ib a.toList g)(v:A.units<cLine)(h:Q (.bool (lexLt ns g)) s):wpAny (model prog w) A (Jg .Lt (.ref l) (.ref b)) Q E s:=by
 obtain ⟨⟨z,y,q,B⟩,m,k,n,p⟩:=id hl
 obtain ⟨⟨o,j,data2,i⟩,d,f,t,e⟩:=id hb
 simp only at k p f e
 subst k p f e
 exact richCompare_meets_room (op:=.Lt) ⟨_,m,rfl⟩ ⟨_,d,rfl⟩ PySem.F.slot_tuple_lt PySem.F.entry_tuple_lt (PySem.F.args_tuple_lt_2 _ _) (tuple_lt_ints l b c a n t y j B i ns g u r)
  ⟨m,d,show Value.bool (lexLt ns g)≠Value.notImplemented/\Q (.bool (lexLt ns g)) s from ⟨(λx=>nomatch x),h⟩⟩ v
theorem cat_tup{t b:Addr}{vs ws:List Value}{Q:Value->Ap->Prop}(u:IsTup s.heap t vs.toArray)(hb:IsTup s.heap b ws.toArray)(q:vs≠[])(h1:ws=[]->Q (.ref t) s)(v:ws≠[]->Q (.ref s.heap.objs.size) { s with heap:=s.heap.push { cls:=.type "tuple",data:=.seq (vs++ws).toArray } })(j:vs.length+ws.length<=Bf):wpAny (model prog w) A (Lp .Add (.ref t) (.ref b)) Q E s:=by
 obtain ⟨⟨cls,o,data,p⟩,i,k,n,r⟩:=id u
 obtain ⟨⟨m,f,data2,d⟩,a,c,l,g⟩:=id hb
 simp only at k r c g
 subst k r c g
 have e:vs.toArray++ws.toArray=(vs++ws).toArray:=by simp
 by_cases h:ws=[]
 ·exact iY ⟨_,i,rfl⟩ ⟨_,a,rfl⟩ Vy fP PySem.F.slot_tuple_add PySem.F.entry_tuple_add (PySem.F.args_tuple_add_2 _ _)
   (tuple_addW1 t b vs.toArray ws.toArray n l o f p d (by simpa using q) (by simp [h])) ⟨i,a,h1 h⟩
 ·refine iY ⟨_,i,rfl⟩ ⟨_,a,rfl⟩ Vy fP PySem.F.slot_tuple_add PySem.F.entry_tuple_add (PySem.F.args_tuple_add_2 _ _)
   (tuple_addW2 t b vs.toArray ws.toArray n l o f p d (by simpa using q) (by simpa using h) (by rw[Av,Av]; exact j)) ⟨i,a,?_⟩
  rw[e]
  exact v h
def sIx(n d:Nat):Option Int->Nat
 | none=>d
 | some v=>if v<0 then (v+(n:Int)).toNat else min v.toNat n
theorem sIx_none(n d:Nat):sIx n d none=d:=rfl
theorem sIx_nat(n d k:Nat):sIx n d (some (k:Int))=min k n:=by
 show (if (k:Int)<0 then ((k:Int)+(n:Int)).toNat else min (k:Int).toNat n)=min k n
 rw[if_neg (by omega),Int.toNat_natCast]
theorem AV(n d:Nat)(hd:d<=n)(o:Option Int):sIx n d o<=n:=by
 cases o with
 | none=>exact hd
 | some v =>
  show (if v<0 then (v+(n:Int)).toNat else min v.toNat n)<=n
  by_cases a:v<0
  ·rw[if_pos a]; omega
  ·rw[if_neg a]; exact Nat.min_le_right _ _
theorem uY(v:Int)(n d:Nat):(if v<0 then max (v+(n:Int)) 0 else min v (n:Int))=((sIx n d (some v):Nat):Int):=by
 show (if v<0 then max (v+(n:Int)) 0 else min v (n:Int))=(((if v<0 then (v+(n:Int)).toNat else min v.toNat n):Nat):Int)
 by_cases a:v<0
 ·simp only[if_pos a]; omega
 ·simp only[if_neg a]; omega
theorem rP(lo a:Option Int)(n:Nat):Ij lo a 1 (n:Int)=(((sIx n 0 lo:Nat):Int),((sIx n n a:Nat):Int)):=by
 have b:¬ ((1:Int)<0):=by omega
 unfold Ij
 simp only[b,if_false]
 refine Prod.ext ?_ ?_
 ·cases lo with
  | none=>rfl
  | some v=>exact uY v n 0
 ·cases a with
  | none=>rfl
  | some v=>exact uY v n n
theorem pZ(i j:Nat):Eo (i:Int) (j:Int) 1=j - i:=by
 unfold Eo
 have a:(1:Int) > 0:=by omega
 simp only[a,if_true,Int.ediv_one]
 split <;> omega
theorem dD{v:Value}{o:Option Int}{Q:Option Int->Ap->Prop}(p:aK v o)(h:Q o s):wpAny (model prog w) A (Builtin.Slice.slicePartIndex v) Q E s:=by
 cases p with
 | none=>exact aE h
 | int i t=>exact slicePart_int h
theorem sliceApplied_gen{f:Addr}{d e:Value}{lo c:Option Int}{n:Nat}{Q:Int×Int×Nat->Ap->Prop}(g:s.heap.IsSliceOf f d e .none)(i:aK d lo)(k:aK e c)(h:Q (((sIx n 0 lo:Nat):Int),1,sIx n n c - sIx n 0 lo) s):wpAny (model prog w) A (Km (.ref f) (pure (n:Int))) Q E s:=by
 obtain ⟨os,a,j,b⟩:=id g
 unfold Km Zp
 refine Ah (Ah (Ue a b (x:=d) rfl (Ah (Ue a b (x:=e) rfl (Ah (Ue a b (x:=.none) rfl (Au ?_)))))))
 refine Ah (aE ?_)
 show wpAny _ _ (if ((1:Int) == 0)=true then _ else _) _ _ s
 rw[if_neg (by decide)]
 refine Ah (dD i (Ah (dD k (Ah (Au ?_)))))
 show wpAny _ _ (match Ij lo c 1 (n:Int) with | (lo,c)=>pure (lo,(1:Int),Eo lo c 1)) _ _ s
 rw[rP lo c n]
 show wpAny _ _ (pure (((sIx n 0 lo:Nat):Int),(1:Int),Eo ((sIx n 0 lo:Nat):Int) ((sIx n n c:Nat):Int) 1)) _ _ s
 rw[pZ]
 exact Au h
theorem C2(xs:Array Value)(i k:Nat):((Ck k).filterMap λ(m:Nat)=>xs[((i:Int)+(m:Int) * 1).toNat]?).toArray=((xs.toList.drop i).take k).toArray:=by
 have e:(λ(m:Nat)=>xs[((i:Int)+(m:Int) * 1).toNat]?)=λm=>xs[i+m]?:=by
  funext m
  have : ((i:Int)+(m:Int) * 1).toNat=i+m:=by omega
  rw[this]
 rw[e]
 have:=pick_run xs i k
 rw[Zo] at this
 have a:((λx=>xs[x]?) ∘ λx=>i+x)=λm=>xs[i+m]?:=rfl
 rw[a] at this
 rw[this]
theorem getItem_tuple_cut{t i:Addr}{a:Array Value}{k l:Value}{lo c:Option Int}{Q:Value->Ap->Prop}(d:IsTup s.heap t a)(n:s.heap.IsSliceOf i k l .none)(p:aK k lo)(r:aK l c)(hw:¬ (sIx a.size 0 lo=0/\sIx a.size a.size c=a.size))(h:Q (.ref s.heap.objs.size) { s with heap:=s.heap.push { cls:=.type "tuple",data:=.seq ((a.toList.drop (sIx a.size 0 lo)).take (sIx a.size a.size c - sIx a.size 0 lo)).toArray } })(o:a.size<=Bf):wpAny (model prog w) A (Ny (.ref t) (.ref i)) Q E s:=by
 have b:sizeOk (.seq ((a.toList.drop (sIx a.size 0 lo)).take (sIx a.size a.size c - sIx a.size 0 lo)).toArray):=by
  show ((a.toList.drop (sIx a.size 0 lo)).take (sIx a.size a.size c - sIx a.size 0 lo)).toArray.size<=Bf
  rw[Av,Dl,Iu,Al]
  omega
 have v:sIx a.size a.size c<=a.size:=AV _ _ (Ak _) c
 obtain ⟨os,e,g,u⟩:=id n
 have j:s.TypeIs (.ref i) "slice" := ⟨os,e,g⟩
 unfold Ny
 try with_reducible refine Fq ?_
 first | refine Ah (Au ?_) | skip
 refine Ah (iU d.typeIs (by decide) ?_)
 refine Ah (Vw (name:=Lz "__getitem__") d.typeIs Dg
  (Mu Dg d.typeIs bS ?_ (fX _ _)))
 show wpAny _ _ (Ol (.ref t) >>= _) _ _ s
 refine Ah (tupleItemsOf_ d ?_)
 refine Ah (Mt j ?_)
 rw[if_pos (by decide)]
 refine Ah (sliceApplied_gen n p r ?_)
 have f:¬ ((((sIx a.size 0 lo:Nat):Int) == 0 && (1:Int) == 1 && (sIx a.size a.size c - sIx a.size 0 lo) == a.size)=true):=by
  intro q
  rw[Fn,Fn] at q
  have x:((sIx a.size 0 lo:Nat):Int)=0:=Ef q.1.1
  have y:sIx a.size a.size c - sIx a.size 0 lo=a.size:=Ef q.2
  exact hw ⟨by omega,by omega⟩
 show wpAny _ _ (if (((sIx a.size 0 lo:Nat):Int) == 0 && (1:Int) == 1 && (sIx a.size a.size c - sIx a.size 0 lo) == a.size)=true then _ else _) _ _ s
 rw[if_neg f,C2]
 first
  | exact Ah (m:=Ff _) (Gu (Au ⟨_,rfl,Au h⟩) b)
  | exact Ah (m:=Ff _) (Gu (Ah (Au (Au ⟨_,rfl,Au h⟩))) b)
  | exact Ah (Ah (m:=Ff _) (Gu (Au (Au ⟨_,rfl,Au h⟩)) b))
  | exact Ah (Ah (m:=Ff _) (Gu (Au ⟨_,rfl,Au h⟩) b))
end
end HT
namespace L2
open PySem PySem.Spec PyProof.Rows
abbrev TO:=St->Hp->(Option Int->Hp->Prop)->Prop
def PO(X:Cx)(e:Option Expr)(t:TO):Prop :=
 ∀(a:List (Addr×Obj)) (s:Ap) (b:St) (H:Hp) (Q:Option Int->Hp->Prop),Inv X a b H s->t b H Q ->
  wpAny (model X.prog X.w) X.A (evalPart e X.env) (λu d=>∃o c,Inv X a b c d/\aK u o/\Q o c) X.xe s
def M9:TO:=λ_ H Q=>Q none H
def FM(t:TE):TO:=λa H Q=>t a H λx b=>∃i,x=.int i/\Q (some i) b
theorem intsAre_of{ns:List Int}:∀{us:List Value},Gw (ns.map V.int) us->Ib us ns:=by
 induction ns with
 | nil=>intro us r; rw[aW] at r; cases r; exact .nil
 | cons n ns b =>
  intro us r
  rw[Aw] at r
  cases r with
  | cons a c =>
   obtain ⟨t,e⟩:=a
   subst e
   exact .cons n t (b c)
section
variable{X:Cx}{e:Expr}{te:TE}{lo c:Option Expr}{g d:TO}{pos f:Pos}
theorem Q7:PO X none M9:=by
 intro a s b H Q I h
 rw[fR]
 exact Au ⟨none,H,I,.none,h⟩
theorem S7(h:PE X e te):PO X (some e) (FM te):=by
 intro a s g H Q I d
 rw[evalPart_some]
 refine Kj (h a s g H _ I d) λu l b => ?_
 obtain ⟨x,k,c,f,j⟩ := b
 obtain ⟨i,rfl,q⟩:=j
 obtain ⟨t,rfl⟩:=f
 exact ⟨some i,k,c,.int i t,q⟩
def Z7(X:Cx)(r:V->Option Int->Option Int->Hp->VK->Prop):Prop :=
 ∀(a:List (Addr×Obj)) (s:Ap) (d:St) (H:Hp) (x:V) (v b f:Value) (lo c:Option Int) (e:Addr) (Q:VK),Inv X a d H s->RelV x v->s.heap.IsSliceOf e b f .none->aK b lo->aK f c->r x lo c H Q ->
  ∃T id,typeLookup (.type T) "__getitem__" = pure (some (.builtin id))/\s.TypeIs v T/\wpAny (model X.prog X.w) X.A (Ny v (.ref e)) (EP X a d Q) X.xe s
theorem Z7.or{r j:V->Option Int->Option Int->Hp->VK->Prop}(h:Z7 X r)(h':Z7 X j):Z7 X (λx lo c H Q=>r x lo c H Q\/j x lo c H Q):=by
 intro a s g H x v f k lo c i Q I b d e l q
 rcases q with q | q
 ·exact h a s g H x v f k lo c i Q I b d e l q
 ·exact h' a s g H x v f k lo c i Q I b d e l q
def KU(r:V->Option Int->Option Int->Hp->VK->Prop)(te:TE)(g d:TO):TE:=λa H Q=>te a H λx b=>g a b λl e=>d a e λu c=>r x l u c Q
theorem nH{r:V->Option Int->Option Int->Hp->VK->Prop}(P:Z7 X r)(K:PE X e te)(hl:PO X lo g)(J:PO X c d):PE X (.Subscript e (.Slice lo c none f) pos) (KU r te g d):=by
 intro a s k H Q I h
 refine Subscript_ (Kj (K a s k H _ I h) λv z j => ?_)
 obtain ⟨x,U,t,y,M⟩ := j
 refine wpAny_Slice (Kj (hl a z k U _ t M) λm C ⟨l,N,E,F,S⟩=>Kj (J a C k N _ E S) λn i j => ?_)
 obtain ⟨u,o,O,G,L⟩ := j
 rw[fR]
 refine Au ?_
 have B:Inv X a k o { i with heap:=i.heap.push { cls:=.type "slice",data:=.fields #[m,n,.none] } }:=O.kept (t':=i.toks) λb W q=>Aq _ q
 obtain ⟨T,id,p,D,R⟩:=P a { i with heap:=i.heap.push { cls:=.type "slice",data:=.fields #[m,n,.none] } } k o x v m n l u i.heap.objs.size Q B y (Heap.IsSliceOf.new ..) F G L
 show wpAny (model X.prog X.w) X.A (fO e (.Slice lo c none f) v (.ref i.heap.objs.size)) (EP X a k Q) X.xe { i with heap:=i.heap.push { cls:=.type "slice",data:=.fields #[m,n,.none] } }
 exact tail_any (ops:=[.ref i.heap.objs.size,v]) D p R (by with_unfolding_all rfl)
def dY(xs:List V)(lo c:Option Int):List V:=(xs.drop (HT.sIx xs.length 0 lo)).take (HT.sIx xs.length xs.length c - HT.sIx xs.length 0 lo)
theorem aC(xs:List V)(lo c:Option Int):(dY xs lo c).length<=xs.length:=by
 unfold dY
 rw[Dl,Iu]
 omega
def IR(K:PySem.W.Frag):V->Option Int->Option Int->Hp->VK->Prop:=λx lo c H Q=>∃a b,x=.ref a/\Vm K H a b /\
 ¬ (HT.sIx b.length 0 lo=0/\HT.sIx b.length b.length c=b.length)/\∀p,H p=none->Q (.ref p) (upd H p (.tup (dY b lo c)))
theorem BG:Z7 X (IR X.K):=by
 intro j s w H x v u z lo c y Q I k m n t h
 obtain ⟨a,e,rfl,p,l,q⟩:=h
 cases k
 obtain ⟨f,r,g,i⟩:=I.tuple p
 have d:f.toArray.size=e.length:=by rw[Av]; exact r.length.symm
 refine ⟨"tuple",_,Dg.lookup,g.typeIs,?_⟩
 refine HT.getItem_tuple_cut g m n t (by rw[d]; exact l) ?_ (by rw[d]; exact i)
 rw[d]
 refine ⟨.ref s.heap.objs.size,_,I.laid (t':=s.toks) (o:=.tup (dY e lo c)) (λb A q=>Aq _ q) (Ak _) ?_,rfl,q _ (I.hok.fresh (Ak _))⟩
 exact ⟨Br (aC e lo c) i,_,(r.drop (HT.sIx e.length 0 lo)).take (HT.sIx e.length e.length c - HT.sIx e.length 0 lo),IsTup.new _ _⟩
def EI(K:PySem.W.Frag):R2:=λx y H Q=>∃a b d c,x=.ref a/\y=.ref b/\Vm K H a d/\Vm K H b c/\d≠[]/\d.length+c.length<=Bf /\
 (c=[]->Q (.ref a) H)/\(c≠[]->∀p,H p=none->Q (.ref p) (upd H p (.tup (d++c))))
theorem Gw.nil_iff{xs:List V}{us:List Value}(r:Gw xs us):us=[]↔xs=[]:=by
 cases r with
 | nil=>simp
 | cons _ _=>simp
theorem vG:Yh X (Lp .Add) (EI X.K):=by
 intro g s D H x y v u Q I j k h
 obtain ⟨a,b,C,A,rfl,rfl,m,n,p,e,t,B⟩:=h
 cases j
 cases k
 obtain ⟨l,d,r,_⟩:=I.tuple m
 obtain ⟨i,c,f,_⟩:=I.tuple n
 refine HT.cat_tup r f (λz=>p (d.nil_iff.mp z)) (λz=>⟨.ref a,H,I,rfl,t (c.nil_iff.mp z)⟩) (λz=>?_) (by rw[<- d.length,<- c.length]; exact e)
 refine ⟨.ref s.heap.objs.size,_,I.laid (t':=s.toks) (o:=.tup (C++A)) (λb E q=>Aq _ q) (Ak _) ?_,rfl,B (λw=>z (c.nil_iff.mpr w)) _ (I.hok.fresh (Ak _))⟩
 exact ⟨by rw[Az]; exact e,_,d.append c,IsTup.new _ _⟩
end
def fV(n:Nat)(i:Int):Option Nat:=if 0<=i then (if i<n then some i.toNat else none) else if -(n:Int)<=i then some (i+n).toNat else none
def aQ{a:Type}(xs:List a)(i:Int):Option a:=(fV xs.length i).bind λj=>xs[j]?
theorem jG{n:Nat}{i:Int}{j:Nat}(h:fV n i=some j):seqIndex? i n=some j/\j<n /\ -(n:Int)<=i/\i<n:=by
 unfold fV at h
 by_cases b:0<=i
 ·rw[if_pos b] at h
  by_cases a:i<n
  ·rw[if_pos a] at h
   have e:i.toNat=j:=Bu h
   exact ⟨by rw[seqIndex_of b a,e],by omega,by omega,a⟩
  ·rw[if_neg a] at h; cases h
 ·rw[if_neg b] at h
  by_cases a:-(n:Int)<=i
  ·rw[if_pos a] at h
   have e:(i+n).toNat=j:=Bu h
   exact ⟨by rw[seqIndex_neg (by omega) a,e],by omega,a,by omega⟩
  ·rw[if_neg a] at h; cases h
theorem kO{a:Type}{xs:List a}{i:Int}{v:a}(h:aQ xs i=some v):∃j,seqIndex? i xs.length=some j/\xs[j]? = some v/\j<xs.length /\ -(xs.length:Int)<=i/\i<xs.length:=by
 unfold aQ at h
 cases e:fV xs.length i with
 | none=>rw[e] at h; cases h
 | some j =>
  rw[e] at h
  obtain ⟨c,f,b,d⟩:=jG e
  exact ⟨j,c,h,f,b,d⟩
theorem Hb{a:Type}{xs:List a}{j:Nat}{v:a}(h:xs[j]? = some v):aQ xs (j:Int)=some v:=by
 have b:j<xs.length:=(An.mp h).1
 have e:fV xs.length (j:Int)=some j:=by
  unfold fV
  rw[if_pos (by omega),if_pos (by omega)]; simp
 unfold aQ; rw[e]; exact h
theorem pJ{a:Type}(xs:List a)(v:a):aQ (xs++[v]) (-1)=some v:=by
 have b:(xs++[v]).length=xs.length+1:=by simp
 have e:fV (xs++[v]).length (-1)=some xs.length:=by
  unfold fV
  rw[b,if_neg (by decide),if_pos (by omega)]
  congr 1
  omega
 unfold aQ
 rw[e]
 show (xs++[v])[xs.length]? = some v
 simp
def kY(b:Expr):Prop:=∀o i,Qj b false o i=operate [o,i] (Ny o i)
def R6(X:Cx)(r:R2):Prop :=
 ∀(c a:Expr) (b:List (Addr×Obj)) (s:Ap) (d:St) (H:Hp) (x y:V) (v u:Value) (Q:VK),Inv X b d H s->RelV x v->RelV y u->r x y H Q ->
  Qj a false v u=operate [v,u] (Ny v u)->wpAny (model X.prog X.w) X.A (fO c a v u) (EP X b d Q) X.xe s
def LF(X:Cx)(id:String)(r:V->List V->Hp->VK->Prop):Prop :=
 ∀(a:List (Addr×Obj)) (s:Ap) (c:St) (H:Hp) (x:V) (d:List V) (v:Value) (b:List Value) (Q:VK),Inv X a c H s->RelV x v->Gw d b->r x d H Q ->
  wpAny (model X.prog X.w) X.A (call (.builtin id) (v::b)) (EP X a c Q) X.xe s
section
variable{X:Cx}{a b:Expr}{B A:TE}{pos:Pos}
theorem R6.or{r i:R2}(h:R6 X r)(h':R6 X i):R6 X (λx y H Q=>r x y H Q\/i x y H Q):=by
 intro b a c s g H x y v u Q I d e q f
 rcases q with q | q
 ·exact h b a c s g H x y v u Q I d e q f
 ·exact h' b a c s g H x y v u Q I d e q f
theorem Sy{r:R2}(e:R6 X r)(k:PE X a B)(hb:PE X b A)(i:kY b):PE X (.Subscript a b pos) (EO r B A):=by
 intro c s j H Q I h
 exact Subscript_ (BK k hb I h λv u m x y l g d f q=>e a b c m j l x y v u Q g d f q (i _ _))
def pT(K:PySem.W.Frag):R2:=λx y H Q=>∃p a i v,x=.ref p/\y=.int i/\Sx K H p a/\aQ a i=some v/\Q v H
def FI(K:PySem.W.Frag):R2:=λx y H Q=>∃p a i v,x=.ref p/\y=.int i/\Vm K H p a/\aQ a i=some v/\Q v H
def EG:R2:=λx y H Q=>∃z i c,x=.str z/\y=.int i/\z.length<=Bf/\aQ z.cps.toList i=some c/\Q (.str ⟨#[c]⟩) H
theorem Mz:R6 X (pT X.K):=by
 intro g k a s A H x y v u Q I J C h o
 obtain ⟨p,O,i,z,rfl,rfl,E,F,q⟩:=h
 cases J
 obtain ⟨t,rfl⟩:=C
 obtain ⟨d,r,f,N⟩:=I.list E
 obtain ⟨j,c,L,P,D,B⟩:=kO F
 obtain ⟨w,m,l⟩:=r.get L
 have G:=r.length
 have R:=Zi
 have b:EP X a A Q w s:=⟨z,H,I,l,q⟩
 by_cases n:0<=i
 ·have e:i.toNat=j:=by
   rw[seqIndex_of n B] at c
   exact Bu c
  exact item_listR f.isList n (by omega) (by rw[e]; simpa using m) b o
 ·have e:(i+(d.toArray.size:Int)).toNat=j:=by
   rw[seqIndex_neg (by omega) D] at c
   rw[Av,<- G]
   exact Bu c
  exact J6 (x:=w) f.isList.typeIs iW.lookup
   (wpAny_getItem_list_neg (Q:=λr M=>r=w/\EP X a A Q r M) f.isList (by omega) (by rw[Av] <;> omega) (by omega) (by rw[e]; simpa using m) ⟨rfl,b⟩) o
theorem IW:R6 X (FI X.K):=by
 intro c d a s g H x y v u Q I C l h D
 obtain ⟨p,M,i,z,rfl,rfl,o,A,q⟩:=h
 cases C
 obtain ⟨t,rfl⟩:=l
 obtain ⟨k,r,f,G⟩:=I.tuple o
 obtain ⟨j,m,E,N,L,J⟩:=kO A
 obtain ⟨w,n,e⟩:=r.get E
 have B:=r.length
 have O:=Zi
 have b:EP X a g Q w s:=⟨z,H,I,e,q⟩
 exact J6 (x:=w) f.typeIs slot_tuple_getitem.lookup
  (getItem_tuple (j:=j) (Q:=λr F=>r=w/\EP X a g Q r F) f (by omega) (by omega) (by rw[Av,<- B]; exact m) (by simpa using n) ⟨rfl,b⟩) D
theorem CH:R6 X EG:=by
 intro a b e s C H x y v u Q I p k h r
 obtain ⟨z,i,c,rfl,rfl,E,n,q⟩:=h
 obtain ⟨t,rfl⟩:=p
 obtain ⟨A,rfl⟩:=k
 obtain ⟨j,d,w,B,l,f⟩:=kO n
 have o:z.cps.toList.length=z.length:=by simp [Str.length]
 rw[o] at d l f
 have D:=Zi
 exact tail_any (typeIs_str s z t) slot_str_getitem.lookup (getItem_str (c:=c) (by
  have g:decide (i < -(2 ^ 63:Int))=false:=decide_eq_false (by omega)
  have m:decide (i ≥ 2 ^ 63)=false:=decide_eq_false (by omega)
  rw[g,m,Bool.or_false]) (by rw[d]; simpa using w) ⟨.str ⟨#[c]⟩,H,I.tok _,⟨_,rfl⟩,q⟩) r
def KG(K:PySem.W.Frag):R2:=λx y H Q=>pT K x y H Q\/FI K x y H Q\/EG x y H Q
theorem CS:R6 X (KG X.K):=Mz.or (IW.or CH)
theorem qL(a:List Value)(n j:Nat)(u:Value):Ct (·.setIfInBounds j u) { cls:=.type "list",data:=.seq a.toArray n }={ cls:=.type "list",data:=.seq (a.set j u).toArray n }:=by
 simp [Ct]
theorem Inv.lst{b:List (Addr×Obj)}{c:St}{H:Hp}{s:Ap}{p:Addr}{xs:List V}(I:Inv X b c H s)(h:H p=some (.lst xs)):∃(a:List Value) (n:Nat),Gw xs a/\s.heap.get? p=some { cls:=.type "list",data:=.seq a.toArray n }/\xs.length<=Bf:=by
 obtain ⟨z,a,n,r,e⟩:=I.hok p _ h
 exact ⟨a,n,r,e,z⟩
theorem Inv.lstUpd{a:List (Addr×Obj)}{d:St}{H:Hp}{s:Ap}{p:Addr}{xs ys:List V}{c its':List Value}{n n':Nat}{f:Obj->Obj}(I:Inv X a d H s)(h:H p=some (.lst xs))(j:s.heap.get? p=some { cls:=.type "list",data:=.seq c.toArray n })(g:f { cls:=.type "list",data:=.seq c.toArray n }={ cls:=.type "list",data:=.seq its'.toArray n' })(r:Gw ys its')(k:ys.length<=Bf)(t:Nat):Inv X a d (upd H p (.lst ys)) { s with heap:=s.heap.update p f,toks:=t }:=by
 have e:(s.heap.update p f).get? p=some { cls:=.type "list",data:=.seq its'.toArray n' }:=by
  rw[Heap.get?_update_self f j (by rw[g] <;> rfl),g]
 refine I.write (x:=p) (e:=p) (by rw[h]; trivial) (.inl rfl) (λb u i q=>(sS _ _ (Qt i)).trans q) ⟨_,e⟩ ?_
 exact ⟨k,its',n',r,e⟩
def GR:V->V->V->Hp->(Hp->Prop)->Prop:=λo i v H Q=>∃p a k j,o=.ref p/\i=.int k/\H p=some (.lst a)/\fV a.length k=some j/\Q (upd H p (.lst (a.set j v)))
theorem Rl:HB X GR:=by
 intro b s D H o i v F G u Q I z B y h
 obtain ⟨p,C,k,j,rfl,rfl,g,A,q⟩:=h
 cases z
 obtain ⟨t,rfl⟩:=B
 obtain ⟨a,n,r,d,E⟩:=I.lst g
 obtain ⟨c,K,w,l⟩:=jG A
 have e:=r.length
 have J:=Zi
 have x:Inv X b D (upd H p (.lst (C.set j v))) { s with heap:=s.heap.update p (Ct (·.setIfInBounds j u)) } :=
  I.lstUpd g d (qL a n j u) (r.set y j) (by rw[Ge]; exact E) s.toks
 by_cases m:0<=k
 ·have f:k.toNat=j:=by
   rw[seqIndex_of m l] at c
   exact Bu c
  exact PySem.W.ki_setAt d m (by omega) (by rw[Av,<- e]; exact l) (by rw[f]; exact ⟨_,x,q⟩)
 ·have f:(k+(a.toArray.size:Int)).toNat=j:=by
   rw[seqIndex_neg (by omega) w] at c
   rw[Av,<- e]
   exact Bu c
  exact PySem.W.ki_setBack d (by omega) (by rw[Av,<- e]; exact w) (by omega) (by rw[f]; exact ⟨_,x,q⟩)
theorem jI(lo a:Option Int)(n:Nat):(Ld lo a none n).1=((HT.sIx n 0 lo:Nat):Int)/\(Ld lo a none n).2.1=((HT.sIx n n a:Nat):Int)/\(Ld lo a none n).2.2=1:=by
 refine ⟨?_,?_,rfl⟩
 ·cases lo with
  | none=>simp [Ld,HT.sIx]
  | some i =>
   simp only[Ld,HT.sIx,Option.getD_none,show (1:Int) > 0 by decide,if_true]
   by_cases h:i<0
   ·simp only[h,if_true] <;> omega
   ·simp only[h,if_false] <;> omega
 ·cases a with
  | none=>simp [Ld,HT.sIx]
  | some i =>
   simp only[Ld,HT.sIx,Option.getD_none,show (1:Int) > 0 by decide,if_true]
   by_cases h:i<0
   ·simp only[h,if_true] <;> omega
   ·simp only[h,if_false] <;> omega
theorem gC(a:List Value)(lo b:Option Int):slicePick a.toArray lo b none=((a.drop (HT.sIx a.length 0 lo)).take (HT.sIx a.length a.length b - HT.sIx a.length 0 lo)).toArray:=by
 obtain ⟨d,e,c⟩:=jI lo b a.toArray.size
 unfold slicePick
 rw[d,e,c]
 simp only[sliceRange_one,pick_run,Av] <;> rfl
def DM(K:PySem.W.Frag):V->Option Int->Option Int->Hp->VK->Prop:=λx lo c H Q=>∃a b,x=.ref a/\Sx K H a b/\∀p,H p=none->Q (.ref p) (upd H p (.lst (dY b lo c)))
theorem K2:Z7 X (DM X.K):=by
 intro g s u H x v t y lo e w Q I i k l p h
 obtain ⟨a,c,rfl,n,q⟩:=h
 cases i
 obtain ⟨m,r,f,j⟩:=I.list n
 have d:=r.length
 refine ⟨"list",_,iW.lookup,f.isList.typeIs,?_⟩
 refine yG f.isList k l p .none (by simp) ?_ (by rw[Av] <;> omega)
 rw[gC,<- d]
 refine ⟨.ref s.heap.objs.size,_,I.laid (t':=s.toks) (o:=.lst (dY c lo e)) (λb z q=>Aq _ q) (Ak _) ?_,rfl,q _ (I.hok.fresh (Ak _))⟩
 exact ⟨Br (aC c lo e) j,_,0,(r.drop (HT.sIx c.length 0 lo)).take (HT.sIx c.length c.length e - HT.sIx c.length 0 lo),Ca _ rfl⟩
theorem kQ:Nf X (.type "list") (λxs H Q=>∃p ys,xs=[.ref p]/\(Sx X.K H p ys\/Vm X.K H p ys)/\∀l,H l=none->Q (.ref l) (upd H l (.lst ys))):=by
 intro g s A H xs B Q I r h
 obtain ⟨p,ys,rfl,hq,q⟩:=h
 obtain ⟨u,rfl,z⟩:=vals1 r
 cases z
 have j:∀(a:List Value),Gw ys a->ys.length<=Bf->∀(c:Heap) (f:Nat),(∀b y,s.heap.get? b=some y->c.get? b=some y) ->
   c.get? s.heap.objs.size=some { cls:=.type "list",dict:=none,data:=.seq a.toArray f,slots:=#[] }->EP X g A Q (.ref s.heap.objs.size) { s with heap:=c }:=λa d k c f kp e =>
  ⟨.ref s.heap.objs.size,_,I.laid (t':=s.toks) kp (Ak _) (show Mj X.prog X.w _ c _ (.lst ys) from ⟨k,a,f,d,e⟩),rfl,q _ (I.hok.fresh (Ak _))⟩
 rcases hq with hq | hq
 ·obtain ⟨a,d,t,k⟩:=I.list hq
  have i:=d.length
  obtain ⟨o,x,m,n,v⟩:=t.isList
  exact call_list_seq p (.inl rfl) x m v (λc f kp e=>j a d k c f kp e) (by simp only[Av] <;> omega)
 ·obtain ⟨a,d,t,k⟩:=I.tuple hq
  have i:=d.length
  obtain ⟨o,x,m,n,v⟩:=t
  exact call_list_seq p (.inr rfl) x m v (λc f kp e=>j a d k c f kp e) (by simp only[Av] <;> omega)
theorem gJ:Nf X (.type "tuple") (λxs H Q=>∃p ys,xs=[.ref p]/\((Sx X.K H p ys/\∀l,H l=none->Q (.ref l) (upd H l (.tup ys)))\/(Vm X.K H p ys/\Q (.ref p) H))):=by
 intro a s k H xs x Q I r h
 obtain ⟨p,ys,rfl,h⟩:=h
 obtain ⟨u,rfl,t⟩:=vals1 r
 cases t
 rcases h with ⟨i,q⟩ | ⟨i,q⟩
 ·obtain ⟨c,g,f,n⟩:=I.list i
  have m:=g.length
  refine call_tuple_list f.isList (λd kp=>?_) (by simp only[Av] <;> omega)
  have j:Inv X a k H { s with heap:=d }:=I.kept (t':=s.toks) kp
  have v:Inv X a k (upd H d.objs.size (.tup ys)) { s with heap:=d.push { cls:=.type "tuple",data:=.seq c.toArray } } :=
   j.laid (t':=s.toks) (λb o e=>Aq _ e) (Ak _) (show Mj X.prog X.w _ _ _ (.tup ys) from ⟨n,c,g,IsTup.new _ _⟩)
  exact ⟨.ref d.objs.size,_,v,rfl,q _ (j.hok.fresh (Ak _))⟩
 ·obtain ⟨c,g,f,n⟩:=I.tuple i
  exact call_tuple_same f ⟨.ref p,H,I,rfl,q⟩
def KI(K:PySem.W.Frag)(T:String)(x:V)(H:Hp):Prop:=match x with
 | .str _=>T = "str"
 | .int _=>T = "int"
 | .ref p=>(T = "list" /\ ∃b,Sx K H p b)\/(T = "tuple" /\ ∃o,K.lookup p=some o/\o.cls=.type "tuple" /\ o.dict=none) \/
   (T = "dict" /\ ((∃a,H p=some (.dK a))\/∃a,H p=some (.dT a)))\/(T = "set" /\ ∃S n,H p=some (.set S n))
 | _=>False
theorem AD{f:List (Addr×Obj)}{w:St}{H:Hp}{s:Ap}{T:String}{x:V}{v:Value}(I:Inv X f w H s)(r:RelV x v)(g:KI X.K T x H):s.TypeIs v T/\∀a,v=.ref a->∃m,s.heap.get? a=some m/\m.dict=none:=by
 cases x with
 | str z =>
  obtain ⟨t,rfl⟩:=r
  cases (show T = "str" from g)
  exact ⟨typeIs_str s z t,λ_ e=>nomatch e⟩
 | int i =>
  obtain ⟨t,rfl⟩:=r
  cases (show T = "int" from g)
  exact ⟨typeIs_int s i t,λ_ e=>nomatch e⟩
 | ref p =>
  cases r
  rcases g with ⟨rfl,A,y⟩ | ⟨rfl,o,b,q,j⟩ | ⟨rfl,b⟩ | ⟨rfl,S,n,b⟩
  ·obtain ⟨u,_,l,_⟩:=I.list y
   refine ⟨l.isList.typeIs,λa e=>?_⟩
   cases e
   obtain ⟨o,n,e,c,j,_⟩:=l
   exact ⟨o,e,j⟩
  ·refine ⟨⟨o,I.kIn p o b,q⟩,λa e=>?_⟩
   cases e
   exact ⟨o,I.kIn _ o b,j⟩
  ·have z:∃o,s.heap.get? p=some o/\o.ExactDict:=by
    rcases b with ⟨k,b⟩ | ⟨k,b⟩
    ·obtain ⟨_,_,_,_,o,_,_,e,d,_⟩:=I.hok p _ b
     exact ⟨o,e,d⟩
    ·obtain ⟨_,_,_,_,o,_,_,e,d,_⟩:=I.hok p _ b
     exact ⟨o,e,d⟩
   obtain ⟨o,e,d⟩:=z
   refine ⟨⟨o,e,d.1⟩,λa h=>?_⟩
   cases h
   exact ⟨o,e,d.2.1⟩
  ·obtain ⟨o,_,_,_,e,d,_⟩:=I.hok p _ b
   refine ⟨⟨o,e,d.1⟩,λa h=>?_⟩
   cases h
   exact ⟨o,e,d.2.1⟩
 | _=>exact Lq g
def KO(K:PySem.W.Frag)(T:String)(r:V->List V->Hp->VK->Prop)(m:TE)(t:TA):TE:=λb H Q=>m b H λx a=>KI K T x a/\t b a λc d=>r x c d Q
variable{o e:Expr}{es:List Expr}{m:TE}{t:TA}{name:Str}{g d:Pos}{T id:String}{r:V->List V->Hp->VK->Prop}
theorem iK(F:PlainAttrs T)(slot:Slot T name id)(j:typeOf (.builtin id)=pure (.type "method_descriptor"))(z:LF X id r)(y:PE X o m)(E:PA X (e::es) t)
  (c:Kh o name X.env (eval o X.env)=eval o X.env:=by rfl)
  (i:((Hf d (Bl (e::es) X.env)).all (λx=>!x.1) && (Tc d (Mm [] X.env)).all (λx=>x.1.isSome)
   && decide ((e::es).length+([]:List Ku).length+(if ([]:List Ku).isEmpty then 0 else 1)<30))=true:=by rfl)
  (f:(g.endLine == d.line)=true:=by rfl) (M:Bl (e::es) X.env=(false,eval e X.env)::Bl es X.env:=by rfl) (b:(Hf d (Bl es X.env)).any (·.1)=false:=by rfl) :
  PE X (.Call (.Attribute o name g) (e::es) [] d) (KO X.K T r m t):=by
 intro a s l H Q I h
 refine wpAny_Call_method_late c i f rfl (Kj (y a s l H _ I h) λv u k => ?_)
 obtain ⟨x,P,n,p,G,J⟩ := k
 obtain ⟨C,O⟩:=AD n p G
 refine ⟨T,id,F,slot,j,C,O,?_⟩
 have q:=E d a u l P _ n J
 rw[M] at q ⊢
 refine Calls.callWith_builtin (by show (false || (Hf d (Bl es X.env)).any (·.1))=false; rw[b] <;> rfl) (Calls.evalArgs_plain ?_)
 exact Kj q λB w ⟨vs,L,A,D,N⟩=>z a w l L x vs v B Q A p D N
end
def HW(X:Cx)(id:String)(r:V->List V->Hp->VK->Prop):Prop :=
 ∀(a:List (Addr×Obj)) (s:Ap) (c:St) (H:Hp) (x:V) (d:List V) (v:Value) (b:List Value) (Q:VK),Inv X a c H s->RelV x v->Gw d b->r x d H Q ->
  wpAny (model X.prog X.w) X.A (call (.builtin id) (v::b)) (EP X a c Q) X.xe s
theorem Gw.one:∀{x:V} {us:List Value},Gw [x] us->∃u,us=[u]/\RelV x u
 | _,_,.cons r .nil=>⟨_,rfl,r⟩
theorem Gw.two{x y:V}{us:List Value}(h:Gw [x,y] us):∃u v,us=[u,v]/\RelV x u/\RelV y v:=by
 cases h with
 | cons r t =>
  cases t with
  | cons q t =>
   cases t
   exact ⟨_,_,rfl,r,q⟩
theorem Gw.eraseIdx:∀{xs:List V} {us:List Value} (i:Nat),Gw xs us->Gw (xs.eraseIdx i) (us.eraseIdx i)
 | _,_,_,.nil=>.nil
 | _,_,0,.cons _ t=>t
 | _,_,i+1,.cons r t=>.cons r (Gw.eraseIdx i t)
theorem Gw.reverse{xs:List V}{us:List Value}(h:Gw xs us):Gw xs.reverse us.reverse:=by
 induction h with
 | nil=>exact .nil
 | cons r t a=>rw[Oa,Oa]; exact Gw.append a (.cons r .nil)
theorem gX{a:Type}:∀(l:List a) (i:Nat),(l.eraseIdx i).length<=l.length
 | [],_=>Ak _
 | _::_,0=>Pb _
 | _::r,i+1=>Nat.succ_le_succ (gX r i)
section
variable{X:Cx}{a:List (Addr×Obj)}{c:St}{H:Hp}{s:Ap}{l b:Addr}{xs ys d:List V}
theorem Inv.lset{b its':List Value}{n:Nat}{f:Array Value->Array Value}{t':Nat}(I:Inv X a c H s)(j:H l=some (.lst xs))(e:s.heap.get? l=some { cls:=.type "list",data:=.seq b.toArray n })(g:f b.toArray=its'.toArray)(i:Gw ys its')(d:ys.length<=Bf):Inv X a c (upd H l (.lst ys)) { s with heap:=s.heap.update l (Ct f),toks:=t' }:=by
 have q:=PySem.IsL.update e f
 rw[g] at q
 refine I.write (x:=l) (e:=l) (by rw[j]; exact trivial) (.inl rfl) (λm u h k=>(sS s.heap (Ct f) (Qt h)).trans k) ⟨_,q⟩ ?_
 exact ⟨d,its',_,i,q⟩
theorem Inv.lnew{b:List Value}{t':Nat}(I:Inv X a c H s)(d:Gw ys b)(e:ys.length<=Bf):Inv X a c (upd H s.heap.objs.size (.lst ys)) { s with heap:=s.heap.push { cls:=.type "list",data:=.seq b.toArray },toks:=t' } :=
 I.laid (λ_ _ q=>Aq _ q) (Ak _) ⟨e,b,0,d,Ca _ rfl⟩
theorem Inv.fresh(I:Inv X a c H s):H s.heap.objs.size=none:=I.hok.fresh (Ak _)
theorem Inv.lstM(I:Inv X a c H s)(d:H l=some (.lst xs)):xs.length<=Bf/\∃(b:List Value) (n:Nat),Gw xs b/\xs.length=b.length/\s.heap.get? l=some { cls:=.type "list",data:=.seq b.toArray n }:=by
 obtain ⟨z,b,n,r,e⟩:=I.hok l _ d
 exact ⟨z,b,n,r,r.length,e⟩
theorem B5{n:Nat}(h:n<=Bf):Pz n=false:=by
 unfold Pz
 exact decide_eq_false (by omega)
end
section
variable{X:Cx}
def P0:V->List V->Hp->VK->Prop:=λx vs H Q=>∃l a y,x=.ref l/\vs=[y]/\H l=some (.lst a)/\a.length<Bf/\Q .non (upd H l (.lst (a++[y])))
theorem Us:HW X "list.append" P0:=by
 intro b s k H x vs v i Q I d f h
 obtain ⟨l,m,y,rfl,rfl,c,o,q⟩:=h
 cases d
 obtain ⟨u,rfl,g⟩:=f.one
 obtain ⟨z,a,n,r,j,e⟩:=I.lstM c
 refine fW F.slot_list_append ⟨_,e,rfl⟩ F.entry_list_append (F.args_list_append_2 _ _) (PySem.list_append l a.toArray n u (by rw[Av]; omega)) ⟨e,?_⟩
 refine ⟨.non,_,I.lset (its':=a++[u]) c e (by simp) (r.append (.cons g .nil)) ?_,rfl,q⟩
 rw[Az,Dv]
 omega
def R8:V->List V->Hp->VK->Prop:=λx vs H Q=>∃l b c a,x=.ref l/\vs=[.ref b]/\H l=some (.lst c)/\H b=some (.lst a)/\c.length+a.length<=Bf/\Q .non (upd H l (.lst (c++a)))
theorem wN:HW X "list.extend" R8:=by
 intro i s J H x vs v B Q I t j h
 obtain ⟨l,b,E,C,rfl,rfl,g,y,A,q⟩:=h
 cases t
 obtain ⟨u,rfl,w⟩:=j.one
 cases w
 obtain ⟨z,c,n,r,G,e⟩:=I.lstM g
 obtain ⟨D,a,m,o,k,p⟩:=I.lstM y
 have f:c.toArray.size+a.toArray.size<=Bf:=by rw[Av,Av]; omega
 have d:¬ (!c.toArray.isEmpty && Pz (c.toArray.size+a.toArray.size))=true:=by
  rw[B5 f,Wo]
  exact Cw
 refine fW F.slot_list_extend ⟨_,e,rfl⟩ F.entry_list_extend (F.args_list_extend_2 _ _)
  (AutoSeq1.list_extend_list_list_0 l c.toArray n b a.toArray m d (by rw[Av]; omega) (by omega)) ⟨e,p,?_⟩
 refine ⟨.non,_,I.lset (its':=c++a) g e (by simp) (r.append o) ?_,rfl,q⟩
 rw[Az]
 omega
def AL:V->List V->Hp->VK->Prop:=λx vs H Q=>∃l a i k y,x=.ref l/\vs=[.int i]/\H l=some (.lst a) /\ -(2 ^ 63)<=i/\i<2 ^ 63/\seqIndex? i a.length=some k/\a[k]? = some y/\Q y (upd H l (.lst (a.eraseIdx k)))
theorem p7:HW X "list.pop" AL:=by
 intro c s G H x vs v E Q I g m h
 obtain ⟨l,D,i,k,y,rfl,rfl,d,A,C,f,j,q⟩:=h
 cases g
 obtain ⟨u,rfl,B⟩:=m.one
 obtain ⟨t,rfl⟩:=B
 obtain ⟨z,a,n,r,p,e⟩:=I.lstM d
 obtain ⟨w,o,b⟩:=r.get j
 refine fW F.slot_list_pop ⟨_,e,rfl⟩ F.entry_list_pop (F.args_list_pop_2 _ _)
  (MeetsSeq.list_pop_at l a.toArray n i t k w (fitsIndex_both A C) (by rw[Av,<- p]; exact f) (by rw[<- Gm]; exact o) (by rw[Av]; omega)) ⟨e,?_⟩
 refine ⟨y,_,I.lset (its':=a.eraseIdx k) d e ?_ (r.eraseIdx k) ?_,b,q⟩
 ·show a.toArray.eraseIdxIfInBounds k=(a.eraseIdx k).toArray
  rw[List.eraseIdxIfInBounds_toArray]
 ·have:=gX D k
  omega
def CM:R2:=λx y H Q=>∃l b c a,x=.ref l/\y=.ref b/\H l=some (.lst c)/\H b=some (.lst a)/\c.length+a.length<=Bf/\∀p,H p=none->Q (.ref p) (upd H p (.lst (c++a)))
theorem qR:Yh X (Lp .Add) CM:=by
 intro d s C H x y v u Q I f g h
 obtain ⟨l,b,E,A,rfl,rfl,m,p,t,q⟩:=h
 cases f
 cases g
 obtain ⟨z,c,n,r,B,e⟩:=I.lstM m
 obtain ⟨D,a,w,j,i,o⟩:=I.lstM p
 refine PySem.P.add_list e o ?_ (by rw[Av,Av]; omega)
 have k:c.toArray++a.toArray=(c++a).toArray:=by simp
 rw[k]
 exact ⟨.ref _,_,I.lnew (t':=s.toks) (r.append j) (by rw[Az]; omega),rfl,q _ I.fresh⟩
end
end L2
namespace Att
open PySem PySem.W PySem.Calls PyProof.Rows
theorem aP{P:Params}{h:Heap}:∀(ns:List Int) (vs:List Value),WellAll P h vs (ns.map WData.int)->Ib vs ns:=by
 intro ns
 induction ns with
 | nil =>
  intro vs w
  rw[aW] at w
  cases w
  exact .nil
 | cons n ns c =>
  intro vs w
  rw[Aw] at w
  cases w with
  | cons a b =>
   cases a
   exact .cons _ _ (c _ b)
theorem wC{l:OpenLaw}{n:Nat}(p:l.most=some n){P:Params}{h:Heap}{args:List WData}{c:List Value}(b:l.row.toRowW.claim.pre args=true)(j:WellAll P h c args):∃a vs ns,c=[Am a]/\args=[WData.list (ns.map WData.int)]/\h.get? a=some { cls:=.type "list",data:=.seq vs.toArray }/\Ib vs ns/\ns.length<=n:=by
 have k:WShape.hasAll [] args [.list .int]=true:=(pre_splitW b).1
 have m:l.pre.holds [] { args:=args }=true:=(pre_splitW b).2
 obtain ⟨d,r,rfl,s,x⟩:=hasAllW_cons k
 obtain rfl:=hasAllW_nil x
 obtain ⟨y,rfl,o⟩:=hasW_list s
 obtain ⟨ns,rfl⟩:=items_int o
 have f:ns.length<=n:=by
  unfold OpenLaw.pre at m
  have g:(WTm.not (.lt (.lit (.int (n:Int))) (.len (.arg 0)))).holds [] { args:=[.list (ns.map .int)] }=true:=by
   have g:=(holds_andW m).1
   rw[p] at g
   exact g
  have i:=condW_of g (w_not (w_lt w_lit (w_len_list (w_arg rfl))))
  rw[Ac] at i
  refine Nat.le_of_not_lt λq=>?_
  have v:(n:Int)<((ns.length:Nat):Int):=by omega
  first
   | (rw[decide_eq_true v] at i; exact absurd i (by decide))
   | (simp at i; omega)
 cases j with
 | cons t u =>
  cases u
  cases t with
  | list w e=>exact ⟨_,_,ns,rfl,rfl,w,aP ns _ e,f⟩
theorem wI(l:OpenLaw)(args:List WData):l.row.toRowW.claim.post args (.bool true) args=true :=
 postW_of (r:=l.row.toRowW) (X:=(true == true))
  (show WShape.has [] (.bool true) .bool=true by first | rfl | decide | simp [WShape.has,WShape.arms,WShape.armsAll])
  (show (WTm.eq .res (.lit (.bool true))).value [] { args:=args,res:=some (.bool true),after:=args }=some (.bool (true == true)) from w_eq_bool (w_res rfl) w_lit) rfl
theorem attach_call{l:OpenLaw}{n:Nat}{q:Bz}{loose:List Str}{XP:(Str->Option Value)->Heap->Prop}{YP:World->Heap->Prop}{d:DefRec}(K:l.most=some n)(v:d.params.defaults=[])(call:∀(w:World) (s₀ b:Ap) (mg s:Str->Option Value) (j:Addr) (o:Obj) (t k c:Value) (a:Addr) (vs:List Value) (ns:List Int),Ground q loose [] XP w s₀ mg s b.heap->YP w b.heap->b.heap.get? j=some o->o.data=.func (docDef d.name d.params d.body d.scope t k c)->b.heap.CodeRec k d.name->mg d.name=some (.ref j)->b.heap.get? a=some { cls:=.type "list",data:=.seq vs.toArray }->Ib vs ns->ns.length<=n->b.gens=#[]->Ru (model l.prog w) aV (.call (.ref j) ⟨[.ref a],[]⟩) (λr s'=>r=.ok (.ret (.bool true))/\OldK b.heap s'.heap/\s'.os=b.os/\Ul s'.gens) b):WalkO q loose XP YP l.row.toRowW d [] (λf vs=>PySem.call f vs):=by
 intro w s₀ b mg s G Y j o t k c dV kV B I m y p L z A N h x E u J
 obtain rfl:dV=.none:=Dflts.none y v
 obtain rfl:kV=.none:=Dflts.noKw y
 obtain ⟨a,vs,ns,rfl,rfl,g,e,i⟩:=wC K h u
 refine enter_call (Wt (call w s₀ b mg s j o t k c a vs ns G Y B (fd_plain I) m p g e i L) λr s' F=>?_)
 obtain ⟨rfl,M,H,D⟩:=F
 exact ⟨.inl ⟨.bool true,.bool true,[],rfl,λ_=>rfl,.bool true,wI l _,λ_=>⟨Eh,λ_ C=>(nomatch C)⟩⟩,M,H,D⟩
end Att
namespace L2
open PySem PySem.Spec PyProof.Rows
theorem iG:∀{vs:List Value} {ns:List Int},Ib vs ns->Gw (ns.map V.int) vs
 | _,_,.nil=>.nil
 | _,_,.cons n t h=>.cons ⟨t,rfl⟩ (iG h)
def Qe(s:Stmt):Arguments:=match s with
 | .FunctionDef _ a _ _ _ _ _ _ _ _=>a
 | _=>{ posonlyargs:=[],args:=[],vararg:=none,kwonlyargs:=[],kw_defaults:=[],kwarg:=none,defaults:=[] }
def Kv(s:Stmt):List Stmt:=match s with
 | .FunctionDef _ _ b _ _ _ _ _ _ _=>b
 | _=>[]
def Cg(s:Stmt):Scope:=match s with
 | .FunctionDef _ _ _ _ _ _ a _ _ _=>a
 | _=>{ kind:=.function,names:=[],isGenerator:=false,isCoroutine:=false }
abbrev Ko:vO:=λ_ _ _ _ _ _=>False
abbrev E0:XK:=λ_ _ _=>False
theorem Ji{X:Cx}:Qq Ko X E0:=λ_ _ _ _ _ _ _ h=>h.elim
structure Fun(K:PySem.W.Frag)(x qual:Str)(st:Stmt)(f:Addr)(fd:Cu):Prop where
 ex:∃(oc:Value) (od:Option Addr) (kV doc pm:Value) (an:Option Addr) (cdv ct:Value) (osl:Array (Option Value)),
  fd=PySem.W.fnOf x qual (Qe st) (Kv st) (Cg st) .none kV doc pm an cdv ct/\K.lookup f=some ⟨oc,od,.func fd,osl⟩/\PySem.W.codeIn K cdv qual=true
 kp:PySem.W.keepIn K (.ref f)=true
section
variable{P:Bz}{w:World}{K:PySem.W.Frag}{mg:Str->Option Value}{base:Heap}
theorem Fun.ok{x a:Str}{st:Stmt}{f:Addr}{g:Cu}{N ps:List Str}{k:Nat}{sp:Sp}(F:Fun K x a st f g)(S:FnScope N ps (Cg st))(len:∀vs H Q E,sp vs H Q E->vs.length=ps.length)(c:∀(b:Value) (A:Dm) (outer:List Env) (s:Ap) (H:Hp) (vs:List V) (Q:VK) (E:XK),Room k (A.deeper (envOfC a (Cg st) s.heap.objs.size f b))->sp vs H Q E->∃t,uU (Pj Ko P w K mg base N a (Cg st) f b A outer s H E).nox (Kv st) t/\t { nx:=λ_ H'=>Q .non H',rt:=Q } (start N vs) H):FnOk P w K mg base Ko (k+1) f g ps sp:=by
 obtain ⟨o,r,kV,l,n,p,b,u,m,rfl,j,e⟩:=F.ex
 refine FW j e S len λA outer s H vs Q E i d=>?_
 obtain ⟨t,h,q⟩:=c b A outer s H vs Q E i d
 exact ⟨t,h.nox,q⟩
theorem Fun.binds{x a:Str}{st:Stmt}{f:Addr}{g:Cu}{ps:List Str}(F:Fun K x a st f g)(h:∀(kV b d:Value) (e:Option Addr) (c ct:Value) (us:List Value),us.length=ps.length->bindArgs (PySem.W.fnOf x a (Qe st) (Kv st) (Cg st) .none kV b d e c ct) ⟨us,[]⟩=pure (ps.zip us)):Binds K g ps []:=by
 obtain ⟨l,m,kV,b,d,e,c,ct,j,rfl,k,i⟩:=F.ex
 exact .all (h kV b d e c ct)
theorem u5{x a:Str}{st:Stmt}{f:Addr}{j:Value}{i h:Option Addr}{e:Array (Option Value)}{kV d g b ct:Value}(l:K.lookup f=some ⟨j,i,.func (PySem.W.fnOf x a (Qe st) (Kv st) (Cg st) .none kV d g h b ct),e⟩)(c:PySem.W.codeIn K b a=true)(k:PySem.W.keepIn K (.ref f)=true):Fun K x a st f (PySem.W.fnOf x a (Qe st) (Kv st) (Cg st) .none kV d g h b ct):=⟨⟨j,i,kV,d,g,h,b,ct,e,rfl,l,c⟩,k⟩
end
theorem iR{n:Nat}(h:n<=1000):n<Bf:=Ra h (by decide)
section
variable{X:Cx}
theorem pv(i:Nat){x:Str}{pos:Pos}(c:X.N[i]? = some x:=by rfl)(b:HM X.env.scope x:=by first | exact Dw rfl | exact Or.inr (Dw rfl) | exact Or.inr (Or.inr rfl))(hd:(x == ("__debug__" : Str))=false:=by decide)(a:(x == ("__classdict__" : Str))=false:=by decide):PE X (.Name x pos) (Lj i):=AM c b hd a
end
theorem sC{A B:Prop}(h:B):if false=true then A else B:=by
 rw[if_neg Cw]
 exact h
theorem nM{A B:Prop}(h:A):if true=true then A else B:=by
 rw[if_pos rfl]
 exact h
theorem IH{c A B:Prop}[Decidable c](h1:c->A)(a:¬ c->B):if c then A else B:=by
 by_cases h:c
 ·rw[if_pos h]
  exact h1 h
 ·rw[if_neg h]
  exact a h
def Pq(H H':Hp):Prop:=∀b o,H b=some o->H' b=some o
theorem Pq.refl(H:Hp):Pq H H:=λ_ _ h=>h
theorem Pq.trans{H d e:Hp}(a:Pq H d)(b:Pq d e):Pq H e:=λc o h=>b c o (a c o h)
theorem Pq.free{H H':Hp}(e:Pq H H'){l:Addr}(h:H' l=Option.none):H l=Option.none:=by
 cases q:H l with
 | none=>rfl
 | some o =>
  rw[e l o q] at h
  cases h
end L2
namespace Nd
open PySem PySem.Spec PyProof.Rows L2
def Hd(X:Cx)(a:Scope)(cl:List (Str×Addr))(N:List Str)(fp:List Addr)(s:Ap)(H:Hp):Cx where
 prog:=X.prog
 w:=X.w
 K:=X.K
 mg:=X.mg
 base:=X.base
 A:=X.A
 N:=N
 s₀:=s
 H₀:=H
 env:=compEnvC a (Gh (s.heap.objs.size+1) a.names cl) s.heap.objs.size X.env
 outer:=X.stack
 stack:=X.stack
 ex:=fp
 fn:=λy=>decide (a.names.lookup y=some Es)
 calm:=X.calm
 pn:=[]
 xe:=λ_ _=>False
section
variable{prog:Bz}{w:World}{A:Dm}{R:Result->Ap->Prop}{s:Ap}
theorem dE{f g b:Expr}{e:List Expr}{a:Scope}{pos:Pos}{it d:Value}{env:Env}(J:Nat->Ap->Prop) (turn:∀n s,J n s->wpAny (model prog w) A (pyNext it) (λr j=>match r with
    | none=>R (.ok .next) j
    | some v=>wpAny (model prog w) A (Yc g it v) (λ_ k=>wpAny (model prog w) A (Ni g env v) (λ_ q =>
      wpAny (model prog w) A (forIn e true λc r=>if r=true then (do
        let ok <- isTrue c env (eval c env)
        pure (Hg ok)) else pure (Hg r)) (λok i =>
       if ok=true then
        wpAny (model prog w) A (eval f env) (λx t=>wpAny (model prog w) A (call (.builtin "list.append") [d,x]) (λ_ p=>∃m,m<n/\J m p) (λ_ _=>False) t) (λ_ _=>False) i
       else ∃m,m<n/\J m i) (λ_ _=>False) q) (λ_ _=>False) k) (λ_ _=>False) j) (λ_ _=>False) s)
  (n:Nat) (h:J n s):Ru (model prog w) A (.compLoop (.ListComp f [⟨g,b,e,0⟩] a pos) 0 it d env) R s:=by
 refine codeAny_loop rfl J (λn s B=>?_) n h
 show wpAny _ A (Sem.onRaise (compTurn (.ListComp f [⟨g,b,e,0⟩] a pos) 0 it d env) (λx=>do noteFrame x env; theTreesLotGoes x)) _ _ s
 refine wpAny_noted ?_
 rw[compTurn_list]
 refine Ah (wpAny_standAt (Ah (Kg (turn n s B) (λr j l=>?_) λ_ _ z=>z.elim)))
 cases r with
 | none=>exact Au l
 | some v =>
  refine Ah (Kg l (λ_ k D=>?_) λ_ _ z=>z.elim)
  refine Ah (Kg D (λ_ q C=>?_) λ_ _ z=>z.elim)
  refine Ah (Kg C (λok i o=>?_) λ_ _ z=>z.elim)
  cases ok with
  | false=>exact Au ⟨rfl,o⟩
  | true =>
   refine Ah (Ah (Kg o (λx t y=>?_) λ_ _ z=>z.elim))
   exact Ah (Kg y (λ_ p u=>Au (Au ⟨rfl,u⟩)) λ_ _ z=>z.elim)
end
section
variable{X:Cx}{a:List (Addr×Obj)}{b:L2.St}{H:Hp}{s:Ap}{scope:Scope}{cl:List (Str×Addr)}{fp:List Addr}{N:List Str}
def CJ(scope:Scope)(x:Str):Prop:=scope.names.lookup x=some .local\/scope.names.lookup x=some .cell
structure CompScope(X:Cx)(scope:Scope)(cl:List (Str×Addr))(x:Str)(ys:List Str)(js:List Nat):Prop where
 clos:closureFor scope X.env=pure cl
 oc:(∀y∈scope.names,y.2≠.cell)\/∃z:Str,(∀n,Gh n scope.names []=[(z,n)])/\scope.names.lookup z=some .cell/\∀y∈scope.names,y.2=.cell->y.1=z
 kind:scope.kind=.function
 locs:∀y∈scope.names,y.2=.local->scope.names.lookup y.1=some .local
 own:CJ scope x
 sub:∀y c,cl.lookup y=some c->X.env.cells.lookup y=some c
 has_:(scope.names.all λy=>!(y.2 == Er) || (cl.lookup y.1).isSome)=true
 nd:(x::ys).Nodup
 len:ys.length=js.length
 at_:∀(k:Nat) (y:Str) (j:Nat),ys[k]? = some y->js[k]? = some j->X.N[j]? = some y/\scope.names.lookup y=some .free/\(X.env.kindOf y=some .cell\/X.env.kindOf y=some .free)
theorem CompScope.has{x:Str}{ys:List Str}{b:List Nat}(C:CompScope X scope cl x ys b):∀y∈scope.names,y.2=.free->(cl.lookup y.1).isSome=true:=λy a e=>by
 have h:=List.all_eq_true.mp C.has_ y a
 rw[e] at h
 simpa using h
theorem qE{x y:Str}{j:Nat}(e:closureFor scope X.env=pure cl)(a:∀y∈scope.names,y.2≠.cell)(kind:scope.kind=.function)(locs:∀y∈scope.names,y.2=.local->scope.names.lookup y.1=some .local)(f:scope.names.lookup x=some .local)(sub:∀y c,cl.lookup y=some c->X.env.cells.lookup y=some c)(d:(scope.names.all λy=>!(y.2 == Er) || (cl.lookup y.1).isSome)=true)(l:[x,y].Nodup)(o:X.N[j]? = some y)(b:scope.names.lookup y=some .free)(h:X.env.kindOf y=some .cell):CompScope X scope cl x [y] [j] :=
 ⟨e,.inl a,kind,locs,.inl f,sub,d,l,rfl,λk z i g p=>by
  cases k with
  | zero =>
   have n:y=z:=by simpa using g
   have m:j=i:=by simpa using p
   subst n m
   exact ⟨o,b,.inl h⟩
  | succ k=>simp at g⟩
theorem Tp{env:Env}{y:Str}{k:Ql}:∀{names:List (Str×Ql)},
  (names.map λ(n,k)=>if (k == Er && env.scope.kind == .function && env.kindOf n == some .cell) then (n,Es) else (n,k)).lookup y=some k ->
  ∃c,names.lookup y=some c/\(k=c\/(c=.free/\k=.cell))
 | [],h=>by simp at h
 | (n,c)::r,h=>by
  have i:=@Tp env y k r
  rw[Aw] at h
  by_cases d:(c == Er && env.scope.kind == .function && env.kindOf n == some .cell)=true
  ·have b:Nj y ((n,Es)::(r.map λ(n,k)=>if (k == Er && env.scope.kind == .function && env.kindOf n == some .cell) then (n,Es) else (n,k)))=some k:=by
    simpa [d] using h
   cases a:y == n with
   | true =>
    rw[Cm,a] at b
    have e:k=Es:=by simpa using b.symm
    refine ⟨c,by rw[Cm,a],.inr ⟨?_,e⟩⟩
    rw[Fn,Fn] at d
    exact Ef d.1.1
   | false =>
    rw[Cm,a] at b
    obtain ⟨q,f,g⟩:=i b
    exact ⟨q,by rw[Cm,a]; exact f,g⟩
  ·have b:Nj y ((n,c)::(r.map λ(n,k)=>if (k == Er && env.scope.kind == .function && env.kindOf n == some .cell) then (n,Es) else (n,k)))=some k:=by
    simpa [d] using h
   cases a:y == n with
   | true =>
    rw[Cm,a] at b
    exact ⟨c,by rw[Cm,a],.inl (by simpa using b.symm)⟩
   | false =>
    rw[Cm,a] at b
    obtain ⟨q,f,g⟩:=i b
    exact ⟨q,by rw[Cm,a]; exact f,g⟩
theorem Xl{env:Env}{y:Str}:∀{names:List (Str×Ql)},names.lookup y=some .free ->
  (names.map λ(n,k)=>if (k == Er && env.scope.kind == .function && env.kindOf n == some .cell) then (n,Es) else (n,k)).lookup y=some .cell \/
  (names.map λ(n,k)=>if (k == Er && env.scope.kind == .function && env.kindOf n == some .cell) then (n,Es) else (n,k)).lookup y=some .free
 | [],h=>by simp at h
 | (n,k0)::r,h=>by
  have c:=@Xl env y r
  show Nj y ((if (k0 == Er && env.scope.kind == .function && env.kindOf n == some .cell)=true then (n,Es) else (n,k0))::_)=_\/Nj y ((if (k0 == Er && env.scope.kind == .function && env.kindOf n == some .cell)=true then (n,Es) else (n,k0))::_)=_
  by_cases b:(k0 == Er && env.scope.kind == .function && env.kindOf n == some .cell)=true
  ·rw[if_pos b]
   cases a:y == n with
   | true=>exact .inl (by rw[Cm,a])
   | false =>
    rw[Cm,a] at h
    simp only[Cm,a]
    exact c h
  ·rw[if_neg b]
   cases a:y == n with
   | true =>
    rw[Cm,a] at h
    exact .inr (by rw[Cm,a]; exact h)
   | false =>
    rw[Cm,a] at h
    simp only[Cm,a]
    exact c h
theorem Jh{a c:Type}[BEq a][LawfulBEq a]{y:a}{k:c}:∀{l:List (a×c)},l.lookup y=some k->(y,k)∈l
 | [],h=>by simp at h
 | (n,v)::r,h=>by
  cases b:y == n with
  | true =>
   rw[Cm,b] at h
   have e:=Ef b
   subst e
   have : v=k:=by simpa using h
   subst this
   exact Aa
  | false =>
   rw[Cm,b] at h
   exact Ae _ (Jh h)
end
theorem lF{a c:Nat}(h:c<a)(e:c=a+1):False:=by omega
theorem Kl:∀(names:List (Str×Ql)) (n:Nat) (a:List (Str×Addr)),Gh n names a=Gh n names []++a
 | [],_,_=>rfl
 | (x,k)::r,n,a=>by
  unfold Gh
  by_cases h:(k == Es)=true
  ·rw[if_pos h,if_pos h,Kl r _ ((x,n)::a),Kl r _ [(x,n)],Bw]; rfl
  ·rw[if_neg h,if_neg h]; exact Kl r n a
theorem Pi:∀(names:List (Str×Ql)) (n:Nat) (a:List (Str×Addr)),(∀y∈names,y.2≠.cell)->Gh n names a=a
 | [],_,_,_=>rfl
 | (x,k)::r,n,a,h=>by
  unfold Gh
  rw[if_neg (by have:=h (x,k) Aa; simpa using this)]
  exact Pi r n a λy b=>h y (Ae _ b)
theorem Xo{env:Env}{y:Str}:∀{names:List (Str×Ql)},names.lookup y=some .cell->(names.map λ(n,k)=>if (k == Er && env.scope.kind == .function && env.kindOf n == some .cell) then (n,Es) else (n,k)).lookup y=some .cell
 | [],h=>by simp at h
 | (n,k0)::r,h=>by
  have c:=@Xo env y r
  show Nj y ((if (k0 == Er && env.scope.kind == .function && env.kindOf n == some .cell)=true then (n,Es) else (n,k0))::_)=_
  by_cases b:(k0 == Er && env.scope.kind == .function && env.kindOf n == some .cell)=true
  ·rw[if_pos b]
   cases a:y == n with
   | true=>rw[Cm,a]
   | false=>rw[Cm,a] at h ⊢; exact c h
  ·rw[if_neg b]
   cases a:y == n with
   | true=>rw[Cm,a] at h ⊢; exact h
   | false=>rw[Cm,a] at h ⊢; exact c h
theorem vC{env:Env}{a:Scope}{x:Str}(o:CJ a x):Loc (relabel a env) x:=o.imp lookup_relabel_local Xo
section
variable{X:Cx}{a:Scope}{cl:List (Str×Addr)}{x y:Str}{ys:List Str}{d:List Nat}{n c:Nat}{N:List Str}{fp:List Addr}{s:Ap}{H:Hp}
theorem q9(o:CJ a x):(Hd X a cl N fp s H).fn x=true\/(Hd X a cl N fp s H).env.scope.names.lookup x=some .local:=by
 rcases o with o | o
 ·exact .inr (lookup_relabel_local o)
 ·exact .inl (decide_eq_true o)
theorem CompScope.split(C:CompScope X a cl x ys d)(h:(Gh n a.names cl).lookup y=some c):cl.lookup y=some c\/(c=n/\Gh 0 a.names []=[(y,0)]/\Gh n a.names []=[(y,n)]/\a.names.lookup y=some .cell):=by
 rcases C.oc with o | ⟨z,f,j,_⟩
 ·rw[Pi _ _ _ o] at h; exact .inl h
 ·rw[Kl,f] at h
  have b:Nj y ((z,n)::cl)=some c:=h
  rw[Cm] at b
  cases e:y == z with
  | true =>
   rw[e] at b
   have g:c=n:=(Bu b).symm
   have i:=Ef e
   subst i
   exact .inr ⟨g,f 0,f n,j⟩
  | false=>rw[e] at b; exact .inl b
theorem CompScope.find(C:CompScope X a cl x ys d)(h:cl.lookup y=some c)(b:a.names.lookup y=some .free):(Gh n a.names cl).lookup y=some c:=by
 rcases C.oc with o | ⟨z,g,f,_⟩
 ·rw[Pi _ _ _ o]; exact h
 ·rw[Kl,g]
  show Nj y ((z,n)::cl)=some c
  rw[Cm]
  cases e:y == z with
  | true=>rw[Ef e,f] at b; cases b
  | false=>exact h
theorem CompScope.cellAt(C:CompScope X a cl x ys d)(b:(y,Es)∈a.names):(Gh n a.names cl).lookup y=some n:=by
 rcases C.oc with o | ⟨z,e,g,f⟩
 ·exact absurd rfl (o _ b)
 ·have c:y=z:=f _ b rfl
  subst c
  rw[Kl,e]
  show Nj y ((y,n)::cl)=some n
  rw[Cm,beq_self_eq_true]
theorem gS{M:Model}{A:Dm}{E:Value->Ap->Prop}{Q:Env->Ap->Prop}(C:CompScope X a cl x ys d)(g:∀f,f.Ns s.heap.objs.size (λ_=>none)->(∀b u,s.heap.get? b=some u->f.get? b=some u)->(∀z n,Gh (s.heap.objs.size+1) a.names []=[(z,n)]->f.IsCell n none)->Q (newEnv a s.heap.objs.size X.env.globals (Gh (s.heap.objs.size+1) a.names cl) X.env.qual none .none (some X.env) Wu) { s with heap:=f,toks:=s.toks+([]:List (Str×Value)).length }):wpAny M A (aG a X.env.globals cl [] X.env.qual none .none (some X.env)) Q E s:=by
 simp only[aG,Option.isSome_some,if_true]
 refine Ah (wpAny_alloc (Ah (wpAny_layCells _ (λx k i=>by cases e:k == Es <;> simp [e]) _ _ _ _ ?_)))
 have c:({ s with heap:=s.heap.push { cls:=.type "dict",data:=.dict #[] } }:Ap).heap.objs.size=s.heap.objs.size+1:=Heap.size_push ..
 rw[c]
 refine Ah (Au (Au (g _ ((Heap.Ns.new s.heap (.type "dict")).keeps (pushCells_keeps _ _)) (λb u e=>pushCells_keeps _ _ b u (Aq _ e)) λz n e=>?_)))
 have ok:=(cellsFrom_ok a.names (s.heap.push { cls:=.type "dict",data:=.dict #[] }) 0 [] ⟨λ_ _ h=>(nomatch h),Eh⟩ (Em _)).empty z n
 rw[show (s.heap.push { cls:=.type "dict",data:=.dict #[] }).objs.size=s.heap.objs.size+1 from c,e] at ok
 exact (ok (Ab.mpr rfl)).1
end
section
variable{X:Cx}{f:List (Addr×Obj)}{g:L2.St}{H:Hp}{s:Ap}{a:Scope}{cl:List (Str×Addr)}{fp:List Addr}{N:List Str}
theorem R7{x:Str}{ys:List Str}{D:List Nat}(C:CompScope X a cl x ys D)(I:Inv X f g H s)(u:∀b∈fp,Sk X f H b)(F:∀b∈fp,∃o,s.heap.get? b=some o):(Hd X a cl N fp s H).Ok where
 mod:=I.ok.mod
 kind:=C.kind
 glob:=I.ok.glob
 blt:=I.ok.blt
 above:=Ak _
 inj:=λy z c t l=>by
  have lt:∀y,cl.lookup y=some c->c<s.heap.objs.size:=λy e=>let ⟨_,q⟩:=I.cell y c (C.sub y c e); q.lt
  rcases C.split t with t | ⟨e1,E,_⟩
  ·rcases C.split l with l | ⟨B,_⟩
   ·exact I.ok.inj y z c (C.sub y c t) (C.sub z c l)
   ·exact (lF (lt y t) B).elim
  ·rcases C.split l with l | ⟨B,w,_⟩
   ·exact (lF (lt z l) e1).elim
   ·rw[E] at w
    simpa using w
 has:=λy hy=>by
  have p:∀k,(k=Es\/k=Er)->(compEnvC a cl s.heap.objs.size X.env).kindOf y=some k->∃c,(Gh (s.heap.objs.size+1) a.names cl).lookup y=some c:=by
   intro k hk e
   obtain ⟨A,v,e1⟩:=Tp (names:=a.names) (env:=X.env) (y:=y) (k:=k) e
   have m:=Jh v
   by_cases r:A=.cell
   ·exact ⟨_,C.cellAt (r▸m)⟩
   have d:A=.free:=by
    rcases e1 with e1 | e1
    ·subst e1
     rcases hk with hk | hk
     ·exact absurd hk r
     ·exact hk
    ·exact e1.1
   obtain ⟨c,i⟩:=Rp.mp (C.has _ m d)
   exact ⟨c,C.find i (d▸v)⟩
  rcases hy with hy | hy
  ·exact p _ (.inl rfl) hy
  ·exact p _ (.inr rfl) hy
 cab:=λy c h e=>by
  have h:a.names.lookup y=some .cell:=of_decide_eq_true h
  have:=(C.cellAt (n:=s.heap.objs.size+1) (Jh h)).symm.trans e
  show s.heap.objs.size<=c
  have:=Bu this
  omega
 hd:=I.ok.hd
 frames:=I.ok.frames
 stk:=.inl rfl
 exf:=λb j=>by
  obtain ⟨o,e⟩:=F b j
  refine ⟨Cz (Bq e),λy c i=>?_⟩
  rcases C.split i with i | ⟨i,_⟩
  ·exact (u b j).2.2.2.2.1 y c (C.sub y c i)
  ·exact λz=>lF (Bq e) (z.symm.trans i)
 bs:=I.bs
 bsz:=Br I.ok.bsz I.sz
 noex:=λb o e j=>by
  rcases (u b j).2.2.2.1 with z | z
  ·exact I.ok.noex b o e z
  ·exact absurd (Cc (Bq (I.ok.bs b o e).1) z) (Ju _)
 exfs:=λb j z=>by
  rcases Aj.mp (I.stkSub b z) with e | e
  ·exact (u b j).2.1 e
  ·exact (u b j).2.2.1 e
 funs:=I.stack
 frf:=I.stkFree
 tab:=I.ok.tab.un I.base
def Jx(g:L2.St)(a:List Nat):L2.St:=a.map λj=>(g[j]?).join
theorem fK{x:Str}{pre ys:List Str}{w:List Nat}{h1:Heap}{U:Nat}{N:Str->Option Value}(C:CompScope X a cl x ys w)(I:Inv X f g H s)(hf:∀b∈fp,Sk X f H b)(S:∀b∈fp,∃o,s.heap.get? b=some o)(G:h1.Ns s.heap.objs.size N)(keep:∀b u,s.heap.get? b=some u->h1.get? b=some u)(K:∀z n,Gh (s.heap.objs.size+1) a.names []=[(z,n)]->h1.IsCell n none):Inv (Hd X a cl (pre++ys) fp s H) [] (pre.map (λ_=>none)++Jx g w) H { s with heap:=h1,toks:=U }:=by
 have t:∀y c,cl.lookup y=some c->∃v,s.heap.IsCell c v/\h1.IsCell c v:=λy c e=>by
  obtain ⟨v,o,q,d⟩:=I.cell y c (C.sub y c e)
  exact ⟨v,⟨o,q,d⟩,o,keep c o q,d⟩
 refine ⟨R7 C I hf S,rfl,I.bare,Un.kept keep,⟨N,G,λi y v E m _=>?_⟩,λy c e=>?_,I.hok.fresh (Ak _),λy c e=>?_,λp P=>?_,I.hok.kept keep,?_⟩
 ·have m:(pre.map (λ_=>(none:Option V))++Jx g w)[i]? = some (some v):=m
  have E:(pre++ys)[i]? = some y:=E
  by_cases W:i<pre.length
  ·rw[Mc (by rw[Ac]; exact W),Bo] at m
   cases q:pre[i]? with
   | none=>rw[q] at m; cases m
   | some z=>rw[q] at m; cases m
  ·rw[Fz (by rw[Ac]; omega),Ac] at m
   rw[Fz (by omega)] at E
   have B:=E
   have h:=m
   generalize i - pre.length=k at B h
   unfold Jx at h
   rw[Bo] at h
   cases J:w[k]? with
   | none=>rw[J] at h; simp at h
   | some j =>
    rw[J] at h
    have D:(g[j]?).join=some v:=by simpa using h
    have R:g[j]? = some (some v):=by
     cases q:g[j]? with
     | none=>rw[q] at D; simp at D
     | some z=>rw[q] at D; simp at D; rw[D]
    obtain ⟨Q,L,a3⟩:=C.at_ k y j B J
    obtain ⟨m0,_,Z⟩:=I.loc
    have M:HM X.env.scope y:=a3.elim (λa3=>.inr (.inl a3)) λa3=>.inr (.inr a3)
    obtain ⟨u,r,l⟩:=Z j y v Q R M
    refine ⟨u,r,?_⟩
    rcases l with ⟨T,_⟩ | ⟨_,c,O,hv⟩
    ·rcases a3 with a3 | a3 <;> rw[T] at a3 <;> cases a3
    ·obtain ⟨F,A⟩:=Rp.mp (C.has _ (Jh L) rfl)
     have Y:F=c:=by
      have:=C.sub y F A
      rw[O] at this
      exact (Bu this).symm
     subst Y
     obtain ⟨o,q,d⟩:=hv
     exact .inr ⟨Xl L,F,C.find A L,o,keep F o q,d⟩
 ·rcases C.split e with e | ⟨e,_,e',_⟩
  ·obtain ⟨v,_,z⟩:=t y c e
   exact ⟨v,z⟩
  ·exact ⟨_,e▸K _ _ e'⟩
 ·rcases C.split e with e | ⟨e,_⟩
  ·exact I.freeC y c (C.sub y c e)
  ·exact I.hok.fresh (by omega)
 ·cases (show p∈([]:List (Addr×Obj)) from P)
 ·show (pre.map (λ_=>(none:Option V))++Jx g w).length=(pre++ys).length
  simp [Jx,C.len]
end
section
variable{X:Cx}
def U6(J:It)(g:List Nat)(n:TT)(te:TE)(f:L2.St)(l:Hp)(Q:VK):Prop:=∀D,l D=none->∃W:Nat->Nat->Hp->Prop,(∃m,W 0 m (upd l D (.lst [])))/\∀i m H,W i m H ->
 (J.stop i H/\Q (.ref D) H)\/(J.go i H/\∀x h,J.yld i H x h->∃(k:Hp->Prop) (j:VK),(∀d,k d->∃b,b<m/\W (i+1) b d) /\
  (∀y e,j y e->∃a,e D=some (.lst a)/\a.length<Bf/\∃b,b<m/\W (i+1) b (upd e D (.lst (a++[y])))) /\
  n (some x::Jx f g) h λc d=>if c=true then te (some x::Jx f g) d j else k d)
def cI(d:TI)(b:List Nat)(c:TT)(te:TE):TE:=λa H Q=>d a H λJ e=>U6 J b c te a e Q
def Xz:TT:=λ_ H Q=>Q true H
theorem A4{f:L2.St}{H:Hp}{te:TE}{d:Hp->Prop}{b:VK}{a:L2.St}(h:te a H b):Xz f H λc e=>if c=true then te a e b else d e:=by
 show if true=true then te a H b else d H
 exact nM h
def tL(X:Cx)(b:List Expr)(t:TT):Prop :=
 ∀(a:List (Addr×Obj)) (s:Ap) (d:L2.St) (H:Hp) (Q:Bool->Hp->Prop),Inv X a d H s->t d H Q ->
  wpAny (model X.prog X.w) X.A (forIn b true λc r=>if r=true then (do
   let ok <- isTrue c X.env (eval c X.env)
   pure (Hg ok)) else pure (Hg r)) (TP X a d Q) X.xe s
theorem fF:tL X [] Xz:=λa s b H Q I h=>wpAny_tests_nil ⟨H,I,h⟩
theorem P3{c:Expr}{t:TT}(h:PT X c t):tL X [c] t:=λa s b H Q I q=>wpAny_tests_one (h a s b H Q I q)
theorem rL{X D:Cx}{d:List (Addr×Obj)}{G F:L2.St}{u r:Hp}{f i:Ap}{k:Scope}{cl:List (Str×Addr)}{N:List Str}{fp:List Addr}(a:Hd X k cl N fp f u=D)(K:Inv X d G u f)(B:∀b∈fp,Sk X d u b)(m:Inv D [] F r i):∃C,i.heap.Ns f.heap.objs.size C/\∀p,Lx f.heap.objs.size i.heap p->Inv X d G r { i with heap:=p }:=by
 have L:D.prog=X.prog:=by rw[<- a]; rfl
 have J:D.w=X.w:=by rw[<- a]; rfl
 obtain ⟨C,s,_⟩:=m.loc
 have v:i.heap.Ns f.heap.objs.size C:=by rw[<- a] at s; exact s
 refine ⟨C,v,λp g=>?_⟩
 have t:r f.heap.objs.size=none:=by have:=m.free; rw[<- a] at this; exact this
 have j:Un (yB X.stack) fp u r f.heap i.heap:=by have:=m.base; rw[<- a] at this; exact this
 have l:∀b o,f.heap.get? b=some o->b≠f.heap.objs.size:=λb o q=>Cz (Bq q)
 have I:Un (yB X.stack) fp u r f.heap p:=by
  refine ⟨λb o q n h x=>(g.2 b (l b o q)).trans (j.keep b o q n h x),λb o q n h x=>?_,j.free,λb o q x=>?_,j.tups,j.frzs,j.tbls⟩
  ·obtain ⟨M,z⟩:=j.slot b o q n h x
   exact ⟨M,(g.2 b (l b o q)).trans z⟩
  ·obtain ⟨H,z⟩:=j.there b o q x
   exact ⟨H,(g.2 b (l b o q)).trans z⟩
 have y:fT X.prog X.w r p:=λb O e=>by
  have A:=m.hok
  rw[L,J] at A
  refine (A b O e).stay (λc P hcc q=>(g.2 c ?_).trans q) (λ_ q=>q) λ_ _ q=>q
  rintro rfl
  rcases hcc with rfl | hcc
  ·rw[t] at e; cases e
  ·rw[t] at hcc; cases hcc
 have E:i.os=f.os:=by have:=m.os; rw[<- a] at this; exact this
 exact K.call' (s':={ i with heap:=p }) (ch:=fp) E I y m.bare (λb h=>⟨(B b h).2.2.2.1,(B b h).2.1,(B b h).2.2.2.2.1,(B b h).2.2.2.2.2⟩)
theorem gK{X e:Cx}{f:L2.St}{i k:Hp}{m l:Ap}{c:Scope}{cl:List (Str×Addr)}{N:List Str}{fp:List Addr}(d:Hd X c cl N fp m i=e)(n:Inv e [] f k l){H':Hp}(j:∀b∈fp,H' b=none):∀b∈fp,Sk e [] H' b:=λb h=>by
 have ok:=n.ok
 have a:b∈e.ex:=by rw[<- d]; exact h
 exact ⟨j b h,(ok.exf b a).1,ok.exfs b a,.inl a,(ok.exf b a).2,λp g=>by rw[<- d] at g; cases (show p∈([]:List (Addr×Obj)) from g)⟩
theorem oQ{X b:Cx}{e:Hp}{f:Ap}{a:Scope}{cl:List (Str×Addr)}{N:List Str}{fp:List Addr}(d:X.calm=true)(c:Hd X a cl N fp f e=b):b.prog=X.prog/\b.w=X.w/\b.K=X.K/\b.A=X.A/\b.calm=true:=by
 subst c
 exact ⟨rfl,rfl,rfl,rfl,d⟩
theorem wW{X o:Cx}{a:List (Addr×Obj)}{p m:L2.St}{i l:Hp}{h g:Ap}{c:Scope}{cl:List (Str×Addr)}{N:List Str}{fp:List Addr}(n:Hd X c cl N fp h i=o)(q:Inv X a p i h)(e:∀b∈fp,Sk X a i b)(d:Inv o [] m l g):(∃k,g.heap.Ns h.heap.objs.size k)/\l h.heap.objs.size=none/\Inv X a p l g:=by
 subst n
 obtain ⟨k,j,_⟩:=d.loc
 exact ⟨⟨k,j⟩,d.free,q.call' (s':=g) (ch:=fp) d.os d.base d.hok d.bare (λb f=>⟨(e b f).2.2.2.1,(e b f).2.1,(e b f).2.2.2.2.1,(e b f).2.2.2.2.2⟩)⟩
theorem lY{X:Cx}{a:List (Addr×Obj)}{j:L2.St}{g:Hp}{c:Ap}{l:Expr}{J:It}{fp:List Addr}{it:Addr}{f:Nat->Heap->Prop}(m:Inv X a j g c)(T:Turn X.prog X.w X.K l J fp it f)(e:f 0 c.heap)(k:∀b∈fp,Sk X a g b){h:Obj}{i:HO}(n:Inv X a j (upd g c.heap.objs.size i) { c with heap:=c.heap.push h }):(∀b∈fp,Sk X a (upd g c.heap.objs.size i) b)/\f 0 (c.heap.push h)/\∀b∈fp,∃o,(c.heap.push h).get? b=some o:=by
 have Vk:f 0 (c.heap.push h):=T.keep 0 _ _ e λb d o q=>Aq _ q
 refine ⟨λb d=>⟨?_,(k b d).2⟩,Vk,λb d=>?_⟩
 ·rw[Ei ?_]
  ·exact (k b d).1
  ·intro z
   obtain ⟨o,q,_⟩:=T.obj _ _ e b d
   have:=Bq q
   rw[z] at this
   exact absurd this (Ju _)
 ·obtain ⟨o,q,_⟩:=T.obj _ _ Vk b d
  exact ⟨o,q⟩
theorem bP{G g:Expr}{x:Str}{px pos:Pos}{K:List Expr}{a:Scope}{cl:List (Str×Addr)}{ys:List Str}{F:List Nat}{wi:TI}{tc:TT}{te:TE}(C:CompScope X a cl x ys F)(hc:X.calm=true)(hi:PI X (.Name x px) g wi)(ht:∀fp s H,tL (Hd X a cl (x::ys) fp s H) K tc)(he:∀fp s H,PE (Hd X a cl (x::ys) fp s H) G te)(hs:∀x,Fu g X.env x=pure x:=by intro _; rfl):PE X (.ListComp G [⟨.Name x px,g,K,0⟩] a pos) (cI wi F tc te):=by
 intro l s D H Q I h
 rw[eval_ListComp]
 refine yH (use:=none) rfl hs C.clos C.kind C.locs (Kj (hi l s D H _ I h) λv s1 h1=>Kj h1 λj6 d h2=>?_)
 obtain ⟨it,fp,tn,J,U,e,I2,T,j0,f2,q2⟩:=h2
 subst e
 have fD:U d.heap.objs.size=none:=I2.hok.fresh (Ak _)
 obtain ⟨W,⟨m0,w0⟩,Y⟩:=q2 d.heap.objs.size fD
 refine Gu ?_
 have I3:Inv X l D (upd U d.heap.objs.size (.lst [])) { d with heap:=d.heap.push { cls:=.type "list",dict:=none,data:=.seq ([]:List Value).toArray } } :=
  I2.laid (t':=d.toks) (λb u q=>Aq _ q) (Ak _) ⟨Em _,[],0,.nil,Ca _ rfl⟩
 obtain ⟨f3,k2,q7⟩:=lY I2 T j0 f2 I3
 generalize O:({ d with heap:=d.heap.push { cls:=.type "list",dict:=none,data:=.seq ([]:List Value).toArray } }:Ap)=s3 at I3
 have Vk:tn 0 s3.heap:=by rw[<- O]; exact k2
 have o3:∀b∈fp,∃o,s3.heap.get? b=some o:=by rw[<- O]; exact q7
 show wpAny _ _ (aG a X.env.globals cl [] X.env.qual none .none (some X.env)) _ _ _
 refine gS C λh4 h0 k h5=>?_
 have I4:∀tk,Inv (Hd X a cl (x::ys) fp s3 (upd U d.heap.objs.size (.lst []))) [] (none::Jx D F) (upd U d.heap.objs.size (.lst [])) { s3 with heap:=h4,toks:=tk }:=λtk=>fK (pre:=[x]) C I3 f3 o3 h0 k h5
 have R:tn 0 h4:=T.keep 0 _ _ Vk λb E o q=>k b o q
 generalize t:Hd X a cl (x::ys) fp s3 (upd U d.heap.objs.size (.lst []))=X' at I4
 obtain ⟨eP,eW,eK,eA,eC⟩:=oQ hc t
 have j:∀{f:Hp},(∀b∈fp,f b=none)->∀b∈fp,Sk X' [] f b:=λ{f} hn=>gK t (I4 0) hn
 have B:∀s5:Ap,s5={ s3 with heap:=h4,toks:=s3.toks+([]:List (Str×Value)).length } ->
   Ru (model X.prog X.w) X.A (.compLoop (.ListComp G [⟨.Name x px,g,K,0⟩] a pos) 0 (.ref it) (.ref d.heap.objs.size) (compEnvC a (Gh (s3.heap.objs.size+1) a.names cl) s3.heap.objs.size X.env))
    (compPost (model X.prog X.w) X.A X.xe none (EP X l D Q) (.ref d.heap.objs.size) s3.heap.objs.size) s5:=by
  rintro s5 rfl
  refine dE (λn s'=>∃i o f,Inv X' [] (o::Jx D F) f s'/\tn i s'.heap/\(∀b∈fp,f b=none)/\W i n f) ?_ m0
   ⟨0,none,_,I4 _,R,λb E=>(f3 b E).1,w0⟩
  (intro n s6 q_; obtain ⟨i,o,H6,I6,S,V,w6⟩ := q_)
  rcases Y i n H6 w6 with ⟨k1,qn⟩ | ⟨go,step⟩
  ·have hd:=T.done X' eP eW eK eC i [] s6 _ H6 (λ_ _=>False) I6 (j V) S k1
   rw[eA] at hd
   refine Kj hd λr s7 c => ?_
   obtain ⟨hr,I7⟩ := c
   subst hr
   obtain ⟨m7,j2,h3⟩:=rL t I3 f3 I7
   exact ⟨m7,j2,λh8 k7=>⟨.ref d.heap.objs.size,H6,h3 h8 k7,rfl,qn⟩⟩
  ·have h9:=T.item X' eP eW eK eC i [] s6 _ H6 (λ_ _=>False) I6 (j V) S go
   rw[eA] at h9
   refine Kj h9 λr s7 c => ?_
   obtain ⟨u,hr,h7⟩ := c
   subst hr
   refine Kj h7 λ_ s8 c => ?_
   obtain ⟨y,H8,I8,r8,y8,L,q0⟩ := c
   have k5:=I8.pinned (j q0) (T.obj _ _ L)
   obtain ⟨N1,N2,j3,q4,k4⟩:=step y H8 y8
   have again:∀{H9:Hp} {N:Ap} {M:Nat},Inv X' ([]++Ze fp s8.heap) (some y::Jx D F) H9 N->M<n->W (i+1) M H9->∃m,m<n/\∃i o f,Inv X' [] (o::Jx D F) f N/\tn i N.heap/\(∀b∈fp,f b=none)/\W i m f:=λ{H9 N M} I9 P w9=>by
    refine ⟨M,P,i+1,some y,H9,I9.unpinned,T.keep _ _ _ L λb E o e=>(I9.pin (b,o) (Ag _ (Ag _ (Nx E e)))).1,λb E=>?_,w9⟩
    obtain ⟨o,e,_⟩:=T.obj _ _ L b E
    exact (I9.pin (b,o) (Ag _ (Ag _ (Nx E e)))).2.1
   subst t
   refine Kj (Wx (i:=0) (x:=x) (pos:=px) C.nd rfl (vC C.own) (q9 C.own) _ s8 _ H8 y u (λq3 f=>q3=some y::Jx D F/\f=H8) k5 r8 ⟨rfl,rfl⟩) λ_ N c => ?_
   obtain ⟨j9,H9,I9,e9,j1⟩ := c
   subst e9 j1
   refine Kj (ht fp s3 _ _ N _ _ _ I9 k4) λok q6 c => ?_
   obtain ⟨j8,Z,p⟩ := c
   cases ok with
   | false =>
    rw[if_neg Cw] at p ⊢
    obtain ⟨M,P,k6⟩:=j3 _ p
    exact again Z P k6
   | true =>
    rw[if_pos rfl] at p ⊢
    refine Kj (he fp s3 _ _ q6 _ _ _ Z p) λz j4 c => ?_
    obtain ⟨vz,h6,q8,k8,k3⟩ := c
    obtain ⟨k0,ha,hz,M,P,k9⟩:=q4 _ _ k3
    refine Kj (Us _ j4 _ h6 (.ref d.heap.objs.size) [vz] (.ref d.heap.objs.size) [z] (λ_ f=>f=upd h6 d.heap.objs.size (.lst (k0++[vz]))) q8 rfl (.cons k8 .nil) ⟨_,k0,vz,rfl,rfl,ha,hz,rfl⟩) λ_ j5 c => ?_
    obtain ⟨_,j7,q1,_,q5⟩ := c
    subst q5
    exact again q1 P k9
 exact J9 (B _ rfl) (T.self X.A 0 _ _ _ R (B _ rfl))
end
structure Walked(J:It)(G:Hp->Prop)(xs:List V):Prop where
 go:∀i H,i<xs.length->G H->J.go i H
 yld:∀i H x H',i<xs.length->G H->J.yld i H x H'->H'=H/\xs[i]? = some x
 stop:∀H,G H->J.stop xs.length H
theorem Zx{K:PySem.W.Frag}{a:Addr}{xs:List V}:Walked (HP K a) (λH=>Sx K H a xs) xs where
 go:=λi H h q=>⟨xs,xs[i],q,by simp [h]⟩
 yld:=λi H x b _ q y=>⟨y.1,y.2 xs q⟩
 stop:=λH q=>⟨xs,q,Ak _⟩
theorem uR{J:It}{G:Hp->Prop}{xs:List V}{k:List Nat}{r:TT}{te:TE}{n:L2.St}{j:Hp}{Q:VK}(wk:Walked J G xs)(A:xs.length<=Bf)(d:Addr->Nat->List V->Hp->Prop)
  (h0:∀D,j D=none->d D 0 [] (upd j D (.lst []))) (w:∀D i a H,d D i a H->G H)
  (v:∀D i x a H,j D=none->xs[i]? = some x->H D=some (.lst a)->d D i a H->r (some x::Jx n k) H λc f=>if c=true then te (some x::Jx n k) f λy h=>h D=some (.lst a)/\d D (i+1) (a++[y]) (upd h D (.lst (a++[y])))
   else f D=some (.lst a)/\d D (i+1) a f)
  (hd:∀D a H,j D=none->H D=some (.lst a)->d D xs.length a H->Q (.ref D) H):U6 J k r te n j Q:=by
 intro D l
 refine ⟨λi m H=>m=xs.length - i/\i<=xs.length/\∃a,H D=some (.lst a)/\a.length<=i/\d D i a H,⟨xs.length,by simp,Em _,[],Dq,Ak _,h0 D l⟩,?_⟩
 (intro i m H u; obtain ⟨rfl,B,a,o,C,p⟩ := u)
 have g:=w D i a H p
 by_cases b:i<xs.length
 ·refine .inr ⟨wk.go i H b g,λx s y=>?_⟩
  obtain ⟨e,t⟩:=wk.yld i H x s b g y
  subst e
  refine ⟨λf=>f D=some (.lst a)/\d D (i+1) a f,λy h=>h D=some (.lst a)/\d D (i+1) (a++[y]) (upd h D (.lst (a++[y]))),λf q=>?_,λz h q=>?_,v D i x a _ l t o p⟩
  ·exact ⟨xs.length - (i+1),by omega,rfl,b,a,q.1,by omega,q.2⟩
  ·exact ⟨a,q.1,by omega,xs.length - (i+1),by omega,rfl,b,a++[z],Dq,by rw[Az,Dv]; omega,q.2⟩
 ·have e:i=xs.length:=by omega
  subst e
  exact .inl ⟨wk.stop H g,hd D a H l o p⟩
theorem Fs{H:Hp}{p:Addr}(h:H p=none)(o:HO):Pq H (upd H p o):=λb u q=>by rw[Ei (Hn q h)]; exact q
theorem Re{a:Type}{xs:List a}{i:Nat}{x:a}(h:xs[i]? = some x):xs.take (i+1)=xs.take i++[x]:=by
 rw[List.take_succ,h]; rfl
mutual
inductive RdV (K:PySem.W.Frag) (H:Hp):V->Ad->Prop
 | non:RdV K H .non .none
 | bl (b:Bool):RdV K H (.bl b) (.bool b)
 | int (i:Int):RdV K H (.int i) (.int i)
 | str (x:Str):RdV K H (.str x) (.str x)
 | lst {a:Addr} {xs:List V} {ds:List Ad}:Sx K H a xs->RdVs K H xs ds->RdV K H (.ref a) (.list ds)
 | tup {a:Addr} {xs:List V} {ds:List Ad}:Vm K H a xs->RdVs K H xs ds->RdV K H (.ref a) (.tuple ds)
inductive RdVs (K:PySem.W.Frag) (H:Hp):List V->List Ad->Prop
 | nil:RdVs K H [] []
 | cons {x:V} {d:Ad} {xs:List V} {ds:List Ad}:RdV K H x d->RdVs K H xs ds->RdVs K H (x::xs) (d::ds)
end
section
variable{X:Cx}{a:List (Addr×Obj)}{c:L2.St}{H H':Hp}{s:Ap}{K:PySem.W.Frag}
mutual
theorem RdV.reads(I:Inv X a c H s):∀{v:V} {d:Ad} {u:Value},RdV X.K H v d->RelV v u->∃as,Reads s.heap u d as
 | _,_,_,.non,r=>by cases r; exact ⟨_,.none⟩
 | _,_,_,.bl b,r=>by cases r; exact ⟨_,.bool b⟩
 | _,_,_,.int i,r=>by obtain ⟨t,rfl⟩:=r; exact ⟨_,.int i t⟩
 | _,_,_,.str x,r=>by obtain ⟨t,rfl⟩:=r; exact ⟨_,.str x t⟩
 | _,_,_,.lst h hs,r=>by
  cases r
  obtain ⟨j,g,⟨o,n,e,f,_,l⟩,_⟩:=I.list h
  obtain ⟨as,k⟩:=RdVs.reads I hs g
  exact ⟨_,.list e f l (by simpa using k)⟩
 | _,_,_,.tup h hs,r=>by
  cases r
  obtain ⟨j,g,⟨o,e,f,n,l⟩,_⟩:=I.tuple h
  obtain ⟨as,k⟩:=RdVs.reads I hs g
  exact ⟨_,.tuple e f l (by simpa using k)⟩
theorem RdVs.reads(I:Inv X a c H s):∀{vs:List V} {b:List Ad} {us:List Value},RdVs X.K H vs b->Gw vs us->∃as,ReadsAll s.heap us b as
 | _,_,_,.nil,r=>by cases r; exact ⟨_,.nil⟩
 | _,_,_,.cons h hs,r=>by
  cases r with
  | cons r f =>
   obtain ⟨as,d⟩:=RdV.reads I h r
   obtain ⟨bs,e⟩:=RdVs.reads I hs f
   exact ⟨_,.cons d e⟩
end
mutual
theorem RdV.noDict:∀{v:V} {d:Ad},RdV K H v d->d.hasDict=false
 | _,_,.non=>by simp only[Nm]
 | _,_,.bl b=>by simp only[Nm]
 | _,_,.int i=>by simp only[Nm]
 | _,_,.str x=>by simp only[Nm]
 | _,_,.lst h hs=>by simp only[Nm]; exact RdVs.noDict hs
 | _,_,.tup h hs=>by simp only[Nm]; exact RdVs.noDict hs
theorem RdVs.noDict:∀{vs:List V} {a:List Ad},RdVs K H vs a->Zl a=false
 | _,_,.nil=>by simp only[Zl]
 | _,_,.cons h hs=>by simp only[Zl,RdV.noDict h,RdVs.noDict hs,Bool.or_self]
end
end
mutual
def Ir(b:Nat):Ad->Prop
 | .none=>True
 | .bool _=>True
 | .int i=>i.natAbs<10 ^ b
 | .str x=>(reprText x).length<=b
 | .list a=>Kc b a
 | .tuple a=>Kc b a
 | .dict _=>False
def Kc(b:Nat):List Ad->Prop
 | []=>True
 | x::xs=>Ir b x/\Kc b xs
end
mutual
def Fe:Ad->Nat
 | .list a=>Gs a+1
 | .tuple a=>Gs a+1
 | _=>1
def Gs:List Ad->Nat
 | []=>0
 | x::xs=>Fe x+Gs xs
end
theorem nC{b:Nat}:∀{xs:List Ad},Kc b xs↔∀x∈xs,Ir b x
 | []=>by simp [Kc]
 | x::xs=>by simp only[Kc,Aj,forall_eq_or_imp,nC (xs:=xs)]
theorem Zy{m:Nat}:∀{xs:List Ad},(∀x∈xs,Fe x<=m)->Gs xs<=m * xs.length
 | [],_=>by simp [Gs]
 | x::xs,h=>by
  have c:=h x (Aa ..)
  have b:=Zy (xs:=xs) λy a=>h y (Ae _ a)
  simp only[Gs,Bg,Nat.mul_add,Nat.mul_one]
  omega
theorem dW(ns:List Int):Gs (ns.map Be)=ns.length:=by
 induction ns with
 | nil=>rfl
 | cons n ns a=>simp only[Aw,Gs,Fe,a,Bg]; omega
theorem rM(ns:List Int):Bd (ns.map Be)=0:=by
 induction ns with
 | nil=>rfl
 | cons n ns a=>simp only[Aw,Bd,Bm,a,Nat.max_self]
theorem Zu{m:Nat}:∀{xs:List Ad},(∀x∈xs,x.depth<=m)->Bd xs<=m
 | [],_=>by simp [Bd]
 | x::xs,h=>by
  have c:=h x (Aa ..)
  have b:=Zu (xs:=xs) λy a=>h y (Ae _ a)
  simp only[Bd]
  omega
theorem lX(a:List Str):(listText a).length<=piled a+2:=by
 cases a with
 | nil=>rw[listText_nil]; decide
 | cons t r =>
  have h:=textFrom_length_pos r 1 (("[" : Str)++(if (0:Nat) > 0 then ", " else "" : String)++t) (Vh 0)
  have e:((("[" : Str)++(if (0:Nat) > 0 then ", " else "" : String)++t)).length=1+t.length:=by
   rw[Vd,Vd]; rfl
  have b:(listText (t::r)).length=(textFrom 0 "[" (t::r)).length+1:=by
   show (textFrom 0 "[" (t::r) ++ "]").length=_
   rw[Vd]; rfl
  have c:(textFrom 0 "[" (t::r)).length=(textFrom 1 (("[" : Str)++(if (0:Nat) > 0 then ", " else "" : String)++t) r).length:=rfl
  rw[b,c,h,e,piled_cons]; omega
theorem jJ(a:List Str):(tupleText a).length<=piled a+3:=by
 unfold tupleText
 rw[Vd,Vd]
 have b:((("(" : String):Str)).length=1:=rfl
 have c:(((if a.length == 1 then ",)" else ")" : String):Str)).length<=2:=by split <;> decide
 rw[b]
 by_cases h:a=[]
 ·subst h
  have : (Str.join ", " []).length=0:=rfl
  omega
 ·have:=join_length_add a h
  omega
mutual
theorem nK{b:Nat}:∀{d:Ad},Ir b d->d.shown.length+4<=(b+12) * Fe d
 | .none,_=>by simp only[Pw,Fe]; show 4+4<=_; omega
 | .bool c,_=>by
  simp only[Pw,Fe]
  cases c
  ·show 5+4<=_; omega
  ·show 4+4<=_; omega
 | .int i,h=>by
  simp only[Pw,Fe]
  have f:i.natAbs<10 ^ b:=by simpa only [Ir] using h
  have e:i.natAbs<10 ^ (b+1):=Cc f (Gd (by decide) (by omega))
  have j:(Lz (toString i)).length<=b+2:=by
   have l:=int_text_length_le10 (a:=i) (k:=b+1) (by omega) e
   have n:(Lz (toString i)).length=(toString i).length:=PySem.ofString_length _
   omega
  have m:((toString i:String):Str).length=(Lz (toString i)).length:=rfl
  omega
 | .str x,h=>by
  simp only[Pw,Fe]
  have f:(reprText x).length<=b:=by simpa only [Ir] using h
  omega
 | .list xs,h=>by
  simp only[Pw,Fe]
  have g:=Tt (b:=b) (xs:=xs) (by simpa only [Ir] using h)
  have e:=lX (Ox xs)
  rw[Nat.mul_add]
  omega
 | .tuple xs,h=>by
  simp only[Pw,Fe]
  have g:=Tt (b:=b) (xs:=xs) (by simpa only [Ir] using h)
  have e:=jJ (Ox xs)
  rw[Nat.mul_add]
  omega
 | .dict kvs,h=>by simp only[Ir] at h
theorem Tt{b:Nat}:∀{xs:List Ad},Kc b xs->piled (Ox xs)<=(b+12) * Gs xs
 | [],_=>by simp only[Ox,Gs,piled_nil]; omega
 | x::xs,h=>by
  simp only[Kc] at h
  have c:=nK h.1
  have a:=Tt h.2
  simp only[Ox,Gs,piled_cons]
  rw[Nat.mul_add]
  omega
end
theorem xB{b i:Nat}(hb:b<=400)(h:i<10 ^ b):i.log2<1920:=by
 have a:i<2 ^ 1920:=Cc h (Br (Gd (by decide) hb) (by decide +kernel))
 by_cases z:i=0
 ·subst z; decide
 ·exact (Nat.log2_lt z).mpr a
mutual
theorem Zt{b:Nat}(hb:b<=400):∀{d:Ad},Ir b d->d.showable=true
 | .none,_=>by simp only[Kq]
 | .bool c,_=>by simp only[Kq]
 | .int i,h=>by
  simp only[Kq]
  exact decide_eq_true (xB hb (by simpa only [Ir] using h))
 | .str x,h=>by simp only[Kq]
 | .list xs,h=>by simp only[Kq]; exact showableAll_of hb (by simpa only [Ir] using h)
 | .tuple xs,h=>by simp only[Kq]; exact showableAll_of hb (by simpa only [Ir] using h)
 | .dict kvs,h=>by simp only[Ir] at h
theorem showableAll_of{b:Nat}(hb:b<=400):∀{xs:List Ad},Kc b xs->Ye xs=true
 | [],_=>by simp only[Ye]
 | x::xs,h=>by
  simp only[Kc] at h
  simp only[Ye,Zt hb h.1,showableAll_of hb h.2,Bool.and_self]
end
def qV:Ad->Str
 | .str x=>x
 | d=>d.shown
structure Tells(K:PySem.W.Frag)(H:Hp)(x:V)(d:Ad):Prop where
 rd:RdV K H x d
 fits:∃b,b<=400/\Ir b d/\(b+12) * Fe d<=Bf
 depth:d.depth<=90
def GW(K:PySem.W.Frag):List V->Hp->VK->Prop:=λa H Q=>∃x d,a=[x]/\Tells K H x d/\Q (.str (qV d)) H
theorem iF{X:Cx}(o:X.A.guards=some [])(G:X.A.units+100<cLine):Nf X (.type "str") (GW X.K):=by
 intro n s L H F E Q I r h
 obtain ⟨x,d,rfl,⟨j,⟨b,B,m,N⟩,J⟩,q⟩:=h
 obtain ⟨u,rfl,a⟩:=vals1 r
 have k:=Zt B m
 have l:d.shown.length<=Bf:=by have:=nK m; omega
 have f:=j.noDict
 obtain ⟨M,p⟩:=j.reads I a
 cases j with
 | non=>cases a; exact PySem.P.str_of_none ⟨.str _,H,I.tok _,⟨_,rfl⟩,q⟩
 | bl c=>cases a; exact PySem.P.str_of_bool ⟨.str _,H,I.tok _,⟨_,rfl⟩,by cases c <;> exact q⟩
 | int i =>
  obtain ⟨t,rfl⟩:=a
  exact PySem.P.str_of_int (by simpa [Kq] using k) ⟨.str _,H,I.tok _,⟨_,rfl⟩,q⟩
 | str y =>
  obtain ⟨t,rfl⟩:=a
  exact PySem.P.str_of_str ⟨.str _,H,I,⟨_,rfl⟩,q⟩
 | lst v D =>
  cases a
  exact str_of_reads p k (λz=>by rw[f] at z; cases z) o (by omega) (λ_ _ e=>e) (λw u C g=>⟨.str _,H,I.kept g,⟨_,rfl⟩,q⟩) l
 | tup v D =>
  cases a
  exact str_of_reads p k (λz=>by rw[f] at z; cases z) o (by omega) (λ_ _ e=>e) (λw u C g=>⟨.str _,H,I.kept g,⟨_,rfl⟩,q⟩) l
theorem Gw.at'{xs:List V}{us:List Value}(r:Gw xs us){j:Nat}(h:j<us.length):∃x,xs[j]? = some x/\RelV x us[j]:=by
 have d:=r.length
 have a:j<xs.length:=by omega
 obtain ⟨u,b,c⟩:=r.get (i:=j) (x:=xs[j]) (by simp [a])
 rw[Ba h] at b
 cases b
 exact ⟨xs[j],by simp [a],c⟩
section
variable{X:Cx}{a:List (Addr×Obj)}{c:L2.St}{H:Hp}{s:Ap}{A:Dm}
theorem Yv(A:Dm):A.in1.units<=A.units+1:=by
 first | exact Ak _ | (simp [Around.in1]; done) | (unfold Around.in1; simp)
theorem mZ:Nf X (.builtin "isinstance") (λxs H Q=>∃x n t b,xs=[x,.ty n]/\TyOf X.K H x t/\PySem.W.kitOne X.K t (.type n)=some b/\Q (.bl b) H):=by
 intro a s c H xs i Q I r h
 obtain ⟨x,n,t,b,rfl,g,e,q⟩:=h
 obtain ⟨u,v,rfl,f,d⟩:=vals2 r
 cases d
 exact wK I f g e λj=>⟨.bl b,H,I.tok _,rfl,q⟩
theorem yP(E:X.calm=true):Nf X (.builtin "all") (λxs H Q=>∃(p:Addr) (bs:List Bool),xs=[.ref p]/\Sx X.K H p (bs.map V.bl)/\Q (.bl (bs.all id)) H):=by
 intro a s c H xs U Q I r h
 obtain ⟨p,bs,rfl,F,q⟩:=h
 obtain ⟨u,rfl,R⟩:=vals1 r
 cases R
 obtain ⟨d,w,n,_⟩:=I.list F
 have m:d.toArray.size=bs.length:=by
  have:=w.length
  rw[Ac] at this
  rw[Av]; omega
 refine call_all_walk (iV n.isList ?_)
 have O:X.A.in1.handled=none:=I.ok.hd E
 have G:p≠s.heap.objs.size:=Cz (let ⟨o,q,_⟩:=n.isList; Bq q)
 refine ⟨s.heap.objs.size,_,_,_,_,_,λi=>bs.getD i false,rfl,Walks.list O s.heap.objs.size p G d.toArray,⟨⟨_,Ca _ rfl,rfl,rfl⟩,n.isList.push _⟩,?_,?_⟩
 ·intro i v T N W S J
  have f:d[i]? = some v:=by simpa using S
  have B:i<d.length:=(An.mp f).1
  obtain ⟨x,k,C⟩:=Gw.at' w B
  rw[Ba B] at f
  have l:d[i]=v:=Bu f
  rw[l] at C
  rw[Bo] at k
  cases t:bs[i]? with
  | none=>rw[t] at k; cases k
  | some b =>
   rw[t] at k
   cases k
   cases C
   have : bs.getD i false=b:=by simp [List.getD_eq_getElem?_getD,t]
   have g:N (bs.getD i false) T:=J
   rw[this] at g
   exact Ip g
 ·intro h' L P
  have e:((Ck d.toArray.size).all λi=>bs.getD i false)=bs.all id:=by
   rw[m]
   have : bs=(Ck bs.length).map (λj=>bs.getD j false):=(range_getD bs false).symm
   conv=>rhs; rw[this]
   rw[bA]
   rfl
  rw[e]
  refine ⟨.bl _,H,I.kept (h':=h') (t':=L) (λb o y=>P b o ?_ (Aq _ y)),rfl,q⟩
  intro z
  have M:b=s.heap.objs.size:=by simpa using z
  have D:=Bq y
  rw[M] at D
  exact absurd D (Ju _)
end
section
variable{prog:Bz}{w:World}{A:Dm}{E:Value->Ap->Prop}{s:Ap}
theorem Vn{t f:Addr}{a:Array Value}{k l:Value}{lo m:Option Int}{Q:Value->Ap->Prop}(b:IsTup s.heap t a)(j:s.heap.IsSliceOf f k l .none)(n:aK k lo)(o:aK l m)(hw:HT.sIx a.size 0 lo=0/\HT.sIx a.size a.size m=a.size)(h:Q (.ref t) s):wpAny (model prog w) A (Ny (.ref t) (.ref f)) Q E s:=by
 obtain ⟨os,e,g,p⟩:=id j
 have i:s.TypeIs (.ref f) "slice" := ⟨os,e,g⟩
 unfold Ny
 try with_reducible refine Fq ?_
 first | refine Ah (Au ?_) | skip
 refine Ah (iU b.typeIs (by decide) ?_)
 refine Ah (Vw (name:=Lz "__getitem__") b.typeIs Dg
  (Mu Dg b.typeIs bS ?_ (fX _ _)))
 show wpAny _ _ (Ol (.ref t) >>= _) _ _ s
 refine Ah (tupleItemsOf_ b ?_)
 refine Ah (Mt i ?_)
 rw[if_pos (by decide)]
 refine Ah (HT.sliceApplied_gen j n o ?_)
 rw[hw.1,hw.2]
 have c:(((0:Nat):Int) == 0 && (1:Int) == 1 && (a.size - 0) == a.size)=true:=by simp
 show wpAny _ _ (if (((0:Nat):Int) == 0 && (1:Int) == 1 && (a.size - 0) == a.size)=true then _ else _) _ _ s
 rw[if_pos c]
 have d:∀{R:Bool->Ap->Prop},R true s->wpAny (model prog w) A.in1 (Yl (.ref t)) R E s:=λ{R} q=>by
  unfold Yl
  refine Ah (Mt b.typeIs (Au ?_))
  rw[beq_self_eq_true]
  exact q
 refine Ah (d ?_)
 rw[if_pos rfl]
 exact Ah (wpAny_rule (Au ⟨_,rfl,Au h⟩))
end
mutual
def Ew:Ad->Ad->Bool
 | .none,.none=>true
 | .bool a,.bool b=>a == b
 | .bool a,.int b=>(if a then 1 else 0) == b
 | .int a,.bool b=>a == (if b then 1 else 0)
 | .int a,.int b=>a == b
 | .str a,.str b=>a == b
 | .list xs,.list ys=>Ph xs ys
 | .tuple xs,.tuple ys=>Ph xs ys
 | _,_=>false
def Ph:List Ad->List Ad->Bool
 | [],[]=>true
 | x::xs,y::ys=>Ew x y && Ph xs ys
 | _,_=>false
end
theorem Pm:∀a es:List Ad,(((Ck (min a.length es.length)).all λj=>Ew (a.getD j .none) (es.getD j .none)) && a.length == es.length)=Ph a es
 | [],[]=>by simp [Ph]
 | [],_::_=>by simp [Ph]
 | _::_,[]=>by simp [Ph]
 | d::a,e::es=>by
  have b:=Pm a es
  rw[Ph,<- b]
  have f:min (d::a).length (e::es).length=min a.length es.length+1:=by simp only[Bg]; omega
  rw[f,List.range_succ_eq_map,List.all_cons,bA]
  have c:((d::a).length == (e::es).length)=(a.length == es.length):=by
   rw[Bool.eq_iff_iff]; simp
  rw[c,Bool.and_assoc]
  rfl
section
variable{X:Cx}{a:List (Addr×Obj)}{c:L2.St}{H:Hp}{s:Ap}{K:PySem.W.Frag}
mutual
theorem RdV.eqD_self:∀{v:V} {d:Ad},RdV K H v d->Ew d d=true
 | _,_,.non=>by simp [Ew]
 | _,_,.bl b=>by simp [Ew]
 | _,_,.int i=>by simp [Ew]
 | _,_,.str x=>by simp [Ew]
 | _,_,.lst _ h=>by rw[Ew]; exact RdVs.eqDs_self h
 | _,_,.tup _ h=>by rw[Ew]; exact RdVs.eqDs_self h
theorem RdVs.eqDs_self:∀{vs:List V} {a:List Ad},RdVs K H vs a->Ph a a=true
 | _,_,.nil=>by simp [Ph]
 | _,_,.cons h t=>by rw[Ph,RdV.eqD_self h,RdVs.eqDs_self t]; rfl
end
theorem nP(I:Inv X pins σ H s){a:Addr}{xs ys:List V}(h1:Sx X.K H a xs)(d:Vm X.K H a ys):False:=by
 obtain ⟨e,_,b,_⟩:=I.list h1
 obtain ⟨vs,_,c,_⟩:=I.tuple d
 exact SeqAt.ne_of_list_tuple b.isList c rfl
mutual
theorem RdV.det(I:Inv X pins σ H s):∀{v:V} {d e:Ad},RdV X.K H v d->RdV X.K H v e->d=e
 | _,_,_,.non,h=>by cases h; rfl
 | _,_,_,.bl b,h=>by cases h; rfl
 | _,_,_,.int i,h=>by cases h; rfl
 | _,_,_,.str x,h=>by cases h; rfl
 | _,_,_,.lst q r,h=>by
  cases h with
  | lst a c =>
   have e:=I.list_inj q a
   subst e
   rw[RdVs.det I r c]
  | tup a c=>exact (nP I q a).elim
 | _,_,_,.tup q r,h=>by
  cases h with
  | lst a c=>exact (nP I a q).elim
  | tup a c =>
   have e:=I.tuple_inj q a
   subst e
   rw[RdVs.det I r c]
theorem RdVs.det(I:Inv X pins σ H s):∀{vs:List V} {a es:List Ad},RdVs X.K H vs a->RdVs X.K H vs es->a=es
 | _,_,_,.nil,h=>by cases h; rfl
 | _,_,_,.cons r t,h=>by
  cases h with
  | cons b c=>rw[RdV.det I r b,RdVs.det I t c]
end
theorem RdVs.length:∀{vs:List V} {a:List Ad},RdVs K H vs a->vs.length=a.length
 | _,_,.nil=>rfl
 | _,_,.cons _ t=>by rw[Bg,Bg,RdVs.length t]
theorem Zc{A:Dm}{n:Nat}(h:A.units+(n+1)<cLine):A.in1.units+n<cLine:=by
 have:=Yv A
 omega
theorem oY{A:Dm}{a b:Addr}{us vs:List Value}{c es:List Ad}(i:PlainL s.heap a us.toArray)(g:PlainL s.heap b vs.toArray)(l1:us.length=c.length)(l2:vs.length=es.length)(l:A.units<cLine)(n:∀j (h1:j<us.length) (k:j<vs.length),Oj A.in1 s us[j] vs[j] (Ew (c.getD j .none) (es.getD j .none))):SeqAt.RcAt A s (.ref a) (.ref b) (Ph c es):=by
 rw[<- Pm]
 by_cases d:c.length=es.length
 ·have f:us.toArray.size=vs.toArray.size:=by rw[Av,Av,l1,l2,d]
  have h:=SeqAt.RcAt.lists (A:=A) (e:=λj=>Ew (c.getD j .none) (es.getD j .none)) i.isList g.isList f l (λj h1 k=>by simpa using n j (by simpa using h1) (by simpa using k))
  rw[Av,l1] at h
  rw[d,Nat.min_self,beq_self_eq_true,Bool.and_true,<- d]
  exact h
 ·have f:(us.toArray.size != vs.toArray.size)=true:=by rw[Av,Av,l1,l2]; simpa using d
  have h:=SeqAt.RcAt.lists_lengths (A:=A) i.isList g.isList f l
  have m:(c.length == es.length)=false:=by simpa using d
  rw[m,Wo]
  exact h
theorem gU{A:Dm}{a b:Addr}{us vs:List Value}{c es:List Ad}(i:IsTup s.heap a us.toArray)(g:IsTup s.heap b vs.toArray)(l1:us.length=c.length)(l2:vs.length=es.length)(k:A.units<cLine)(f:∀j (h1:j<us.length) (d:j<vs.length),Oj A.in1 s us[j] vs[j] (Ew (c.getD j .none) (es.getD j .none))):SeqAt.RcAt A s (.ref a) (.ref b) (Ph c es):=by
 rw[<- Pm]
 have h:=SeqAt.RcAt.tuples (A:=A) (e:=λj=>Ew (c.getD j .none) (es.getD j .none)) (show s.heap.IsTuple a us.toArray from i) (show s.heap.IsTuple b vs.toArray from g) k (λj h1 d=>by simpa using f j (by simpa using h1) (by simpa using d))
 rw[Av,Av,l1,l2] at h
 exact h
mutual
theorem C6(I:Inv X pins σ H s):∀{A:Dm} {x y:V} {d e:Ad} {u v:Value},RdV X.K H x d->RdV X.K H y e->RelV x u->RelV y v->A.units+d.depth<cLine->Oj A s u v (Ew d e)
 | A,_,_,_,_,_,_,.non,h,ru,rv,hu=>by
  cases ru
  have c:A.units<cLine:=by omega
  cases h with
  | non=>cases rv; rw[Ew]; exact SeqAt.EqAt.same _
  | bl b=>cases rv; rw[Ew]; exact SeqAt.EqAt.none_bool b; all_goals simp
  | int b=>obtain ⟨t,rfl⟩:=rv; rw[Ew]; exact SeqAt.EqAt.none_int b t; all_goals simp
  | str b=>obtain ⟨t,rfl⟩:=rv; rw[Ew]; exact SeqAt.EqAt.none_str b t; all_goals simp
  | lst q r=>cases rv; obtain ⟨k,_,p,_⟩:=I.list q; rw[Ew]; exact SeqAt.EqAt.none_list p.isList c; all_goals simp
  | tup q r=>cases rv; obtain ⟨k,_,p,_⟩:=I.tuple q; rw[Ew]; exact SeqAt.EqAt.none_tuple p c; all_goals simp
 | A,_,_,_,_,_,_,.bl a,h,ru,rv,hu=>by
  cases ru
  have c:A.units<cLine:=by omega
  cases h with
  | non=>cases rv; rw[Ew]; exact SeqAt.EqAt.bool_none a; all_goals simp
  | bl b=>cases rv; rw[Ew]; exact SeqAt.EqAt.bool_bool a b
  | int b=>obtain ⟨t,rfl⟩:=rv; rw[Ew]; exact SeqAt.EqAt.bool_int a b t
  | str b=>obtain ⟨t,rfl⟩:=rv; rw[Ew]; exact SeqAt.EqAt.bool_str a b t; all_goals simp
  | lst q r=>cases rv; obtain ⟨k,_,p,_⟩:=I.list q; rw[Ew]; exact SeqAt.EqAt.bool_list a p.isList c; all_goals simp
  | tup q r=>cases rv; obtain ⟨k,_,p,_⟩:=I.tuple q; rw[Ew]; exact SeqAt.EqAt.bool_tuple a p c; all_goals simp
 | A,_,_,_,_,_,_,.int a,h,ru,rv,hu=>by
  obtain ⟨g,rfl⟩:=ru
  have c:A.units<cLine:=by omega
  cases h with
  | non=>cases rv; rw[Ew]; exact SeqAt.EqAt.int_none a g; all_goals simp
  | bl b=>cases rv; rw[Ew]; exact SeqAt.EqAt.int_bool a g b
  | int b=>obtain ⟨t,rfl⟩:=rv; rw[Ew]; exact SeqAt.EqAt.int_int a g b t
  | str b=>obtain ⟨t,rfl⟩:=rv; rw[Ew]; exact SeqAt.EqAt.int_str a g b t; all_goals simp
  | lst q r=>cases rv; obtain ⟨k,_,p,_⟩:=I.list q; rw[Ew]; exact SeqAt.EqAt.int_list a g p.isList c; all_goals simp
  | tup q r=>cases rv; obtain ⟨k,_,p,_⟩:=I.tuple q; rw[Ew]; exact SeqAt.EqAt.int_tuple a g p c; all_goals simp
 | A,_,_,_,_,_,_,.str a,h,ru,rv,hu=>by
  obtain ⟨g,rfl⟩:=ru
  have c:A.units<cLine:=by omega
  cases h with
  | non=>cases rv; rw[Ew]; exact SeqAt.EqAt.str_none a g; all_goals simp
  | bl b=>cases rv; rw[Ew]; exact SeqAt.EqAt.str_bool a g b; all_goals simp
  | int b=>obtain ⟨t,rfl⟩:=rv; rw[Ew]; exact SeqAt.EqAt.str_int a g b t; all_goals simp
  | str b=>obtain ⟨t,rfl⟩:=rv; rw[Ew]; exact SeqAt.EqAt.str_str a g b t
  | lst q r=>cases rv; obtain ⟨k,_,p,_⟩:=I.list q; rw[Ew]; exact SeqAt.EqAt.str_list a g p.isList c; all_goals simp
  | tup q r=>cases rv; obtain ⟨k,_,p,_⟩:=I.tuple q; rw[Ew]; exact SeqAt.EqAt.str_tuple a g p c; all_goals simp
 | A,_,_,_,_,_,_,@RdV.lst _ _ a xs ds q r,h,ru,rv,hu=>by
  cases ru
  have c:A.units<cLine:=by omega
  obtain ⟨k,n,p,_⟩:=I.list q
  cases h with
  | non=>cases rv; rw[Ew]; exact SeqAt.EqAt.list_none p.isList c; all_goals simp
  | bl b=>cases rv; rw[Ew]; exact SeqAt.EqAt.list_bool b p.isList c; all_goals simp
  | int b=>obtain ⟨t,rfl⟩:=rv; rw[Ew]; exact SeqAt.EqAt.list_int b t p.isList c; all_goals simp
  | str b=>obtain ⟨t,rfl⟩:=rv; rw[Ew]; exact SeqAt.EqAt.list_str b t p.isList c; all_goals simp
  | @lst b C B l f =>
   cases rv
   obtain ⟨vs,o,m,_⟩:=I.list l
   rw[Ew]
   by_cases i:a=b
   ·subst i
    have e:=I.list_inj q l
    subst e
    rw[<- RdVs.det I r f,RdVs.eqDs_self r]
    exact SeqAt.EqAt.same _
   ·refine SeqAt.EqAt.of_refs i (oY p m (n.length.symm.trans r.length) (o.length.symm.trans f.length) c λj w z=>?_)
    exact Sh I r f n o (Zc (by simpa only [Bm] using hu)) j w z
  | tup l f=>cases rv; obtain ⟨vs,_,m,_⟩:=I.tuple l; rw[Ew]; exact SeqAt.EqAt.list_tuple p.isList m c; all_goals simp
 | A,_,_,_,_,_,_,@RdV.tup _ _ a xs ds q r,h,ru,rv,hu=>by
  cases ru
  have c:A.units<cLine:=by omega
  obtain ⟨k,n,p,_⟩:=I.tuple q
  cases h with
  | non=>cases rv; rw[Ew]; exact SeqAt.EqAt.tuple_none p c; all_goals simp
  | bl b=>cases rv; rw[Ew]; exact SeqAt.EqAt.tuple_bool b p c; all_goals simp
  | int b=>obtain ⟨t,rfl⟩:=rv; rw[Ew]; exact SeqAt.EqAt.tuple_int b t p c; all_goals simp
  | str b=>obtain ⟨t,rfl⟩:=rv; rw[Ew]; exact SeqAt.EqAt.tuple_str b t p c; all_goals simp
  | lst l f=>cases rv; obtain ⟨vs,_,m,_⟩:=I.list l; rw[Ew]; exact SeqAt.EqAt.tuple_list p m.isList c; all_goals simp
  | @tup b C B l f =>
   cases rv
   obtain ⟨vs,o,m,_⟩:=I.tuple l
   rw[Ew]
   by_cases i:a=b
   ·subst i
    have e:=I.tuple_inj q l
    subst e
    rw[<- RdVs.det I r f,RdVs.eqDs_self r]
    exact SeqAt.EqAt.same _
   ·refine SeqAt.EqAt.of_refs i (gU p m (n.length.symm.trans r.length) (o.length.symm.trans f.length) c λj w z=>?_)
    exact Sh I r f n o (Zc (by simpa only [Bm] using hu)) j w z
theorem Sh(I:Inv X pins σ H s):∀{A:Dm} {xs ys:List V} {a es:List Ad} {us vs:List Value},RdVs X.K H xs a->RdVs X.K H ys es->Gw xs us->Gw ys vs->A.units+Bd a<cLine->∀j (h1:j<us.length) (b:j<vs.length),Oj A s us[j] vs[j] (Ew (a.getD j .none) (es.getD j .none))
 | _,_,_,_,_,_,_,.nil,_,r1,_,_=>λj h1 b=>by cases r1; exact absurd h1 (Fl _)
 | A,_,_,_,_,_,_,@RdVs.cons _ _ x d xs a r t,h,r1,r2,hu=>λj h1 b=>by
  cases h with
  | nil=>cases r2; exact absurd b (Fl _)
  | cons g f =>
   cases r1 with
   | cons k i =>
    cases r2 with
    | cons l e =>
     have c:A.units+d.depth<cLine/\A.units+Bd a<cLine:=by
      simp only[Bd] at hu
      omega
     cases j with
     | zero=>simpa using C6 I r g k l c.1
     | succ j=>simpa using Sh I t f i e c.2 j (by simpa using h1) (by simpa using b)
end
end
section
variable{X:Cx}{c:List (Addr×Obj)}{d:L2.St}{H:Hp}{s:Ap}{K:PySem.W.Frag}
theorem xI{A:Dm}{a b:Addr}{us vs:List Value}{c es:List Ad}(i:PlainL s.heap a us.toArray)(g:PlainL s.heap b vs.toArray)(l1:us.length=c.length)(l2:vs.length=es.length)(l:A.units<cLine)(n:∀j (h1:j<us.length) (k:j<vs.length),Oj A.in1 s us[j] vs[j] (Ew (c.getD j .none) (es.getD j .none))):SeqAt.RcNeAt A s (.ref a) (.ref b) (!Ph c es):=by
 rw[<- Pm]
 by_cases d:c.length=es.length
 ·have f:us.toArray.size=vs.toArray.size:=by rw[Av,Av,l1,l2,d]
  have h:=SeqAt.RcNeAt.lists (A:=A) (e:=λj=>Ew (c.getD j .none) (es.getD j .none)) i.isList g.isList f l (λj h1 k=>by simpa using n j (by simpa using h1) (by simpa using k))
  rw[Av,l1] at h
  rw[d,Nat.min_self,beq_self_eq_true,Bool.and_true,<- d]
  exact h
 ·have f:(us.toArray.size != vs.toArray.size)=true:=by rw[Av,Av,l1,l2]; simpa using d
  have h:=SeqAt.RcNeAt.lists_lengths (A:=A) i.isList g.isList f l
  have m:(c.length == es.length)=false:=by simpa using d
  rw[m,Wo]
  exact h
theorem rV{A:Dm}{a b:Addr}{us vs:List Value}{c es:List Ad}(i:IsTup s.heap a us.toArray)(g:IsTup s.heap b vs.toArray)(l1:us.length=c.length)(l2:vs.length=es.length)(k:A.units<cLine)(f:∀j (h1:j<us.length) (d:j<vs.length),Oj A.in1 s us[j] vs[j] (Ew (c.getD j .none) (es.getD j .none))):SeqAt.RcNeAt A s (.ref a) (.ref b) (!Ph c es):=by
 rw[<- Pm]
 have h:=SeqAt.RcNeAt.tuples (A:=A) (e:=λj=>Ew (c.getD j .none) (es.getD j .none)) (show s.heap.IsTuple a us.toArray from i) (show s.heap.IsTuple b vs.toArray from g) k (λj h1 d=>by simpa using f j (by simpa using h1) (by simpa using d))
 rw[Av,Av,l1,l2] at h
 exact h
end
section
variable{X:Cx}
def EM(K:PySem.W.Frag):R2:=λx y H Q=>∃d e,RdV K H x d/\RdV K H y e/\d.depth<=60/\Q (.bl (Ew d e)) H
def GG(K:PySem.W.Frag):R2:=λx y H Q=>∃d e,RdV K H x d/\RdV K H y e/\d.depth<=60/\Q (.bl (!Ew d e)) H
theorem zQ(M:X.A.units+64<cLine):Yh X (Jg .Eq) (EM X.K):=by
 intro F s N H x y v u Q I z f h
 obtain ⟨d,e,C,w,E,q⟩:=h
 have c:X.A.units<cLine:=by omega
 cases C with
 | non =>
  cases z
  cases w with
  | non=>cases f; rw[Ew] at q; exact SeqAt.RcAt.none_none _ _ _ _ ⟨.bl _,H,I,rfl,q⟩
  | bl b=>cases f; rw[Ew] at q; exact SeqAt.RcAt.none_bool b _ _ _ _ ⟨.bl _,H,I,rfl,q⟩; all_goals simp
  | int b=>obtain ⟨t,rfl⟩:=f; rw[Ew] at q; exact SeqAt.RcAt.none_int b t _ _ _ _ ⟨.bl _,H,I,rfl,q⟩; all_goals simp
  | str b=>obtain ⟨t,rfl⟩:=f; rw[Ew] at q; exact SeqAt.RcAt.none_str b t _ _ _ _ ⟨.bl _,H,I,rfl,q⟩; all_goals simp
  | @lst b o n k g=>cases f; obtain ⟨vs,l,i,_⟩:=I.list k; rw[Ew] at q; exact SeqAt.RcAt.none_list i.isList c _ _ _ _ ⟨.bl _,H,I,rfl,q⟩; all_goals simp
  | @tup b o n k g=>cases f; obtain ⟨vs,l,i,_⟩:=I.tuple k; rw[Ew] at q; exact SeqAt.RcAt.none_tuple i c _ _ _ _ ⟨.bl _,H,I,rfl,q⟩; all_goals simp
 | bl a =>
  cases z
  cases w with
  | non=>cases f; rw[Ew] at q; exact SeqAt.RcAt.bool_none a _ _ _ _ ⟨.bl _,H,I,rfl,q⟩; all_goals simp
  | bl b=>cases f; rw[Ew] at q; exact SeqAt.RcAt.bool_bool a b _ _ _ _ ⟨.bl _,H,I,rfl,q⟩
  | int b=>obtain ⟨t,rfl⟩:=f; rw[Ew] at q; exact SeqAt.RcAt.bool_int a b t _ _ _ _ ⟨.bl _,H,I,rfl,q⟩
  | str b=>obtain ⟨t,rfl⟩:=f; rw[Ew] at q; exact SeqAt.RcAt.bool_str a b t _ _ _ _ ⟨.bl _,H,I,rfl,q⟩; all_goals simp
  | @lst b o n k g=>cases f; obtain ⟨vs,l,i,_⟩:=I.list k; rw[Ew] at q; exact SeqAt.RcAt.bool_list a i.isList c _ _ _ _ ⟨.bl _,H,I,rfl,q⟩; all_goals simp
  | @tup b o n k g=>cases f; obtain ⟨vs,l,i,_⟩:=I.tuple k; rw[Ew] at q; exact SeqAt.RcAt.bool_tuple a i c _ _ _ _ ⟨.bl _,H,I,rfl,q⟩; all_goals simp
 | int a =>
  obtain ⟨m,rfl⟩:=z
  cases w with
  | non=>cases f; rw[Ew] at q; exact SeqAt.RcAt.int_none a m _ _ _ _ ⟨.bl _,H,I,rfl,q⟩; all_goals simp
  | bl b=>cases f; rw[Ew] at q; exact SeqAt.RcAt.int_bool a m b _ _ _ _ ⟨.bl _,H,I,rfl,q⟩
  | int b=>obtain ⟨t,rfl⟩:=f; rw[Ew] at q; exact SeqAt.RcAt.int_int a m b t _ _ _ _ ⟨.bl _,H,I,rfl,q⟩
  | str b=>obtain ⟨t,rfl⟩:=f; rw[Ew] at q; exact SeqAt.RcAt.int_str a m b t _ _ _ _ ⟨.bl _,H,I,rfl,q⟩; all_goals simp
  | @lst b o n k g=>cases f; obtain ⟨vs,l,i,_⟩:=I.list k; rw[Ew] at q; exact SeqAt.RcAt.int_list a m i.isList c _ _ _ _ ⟨.bl _,H,I,rfl,q⟩; all_goals simp
  | @tup b o n k g=>cases f; obtain ⟨vs,l,i,_⟩:=I.tuple k; rw[Ew] at q; exact SeqAt.RcAt.int_tuple a m i c _ _ _ _ ⟨.bl _,H,I,rfl,q⟩; all_goals simp
 | str a =>
  obtain ⟨m,rfl⟩:=z
  cases w with
  | non=>cases f; rw[Ew] at q; exact SeqAt.RcAt.str_none a m _ _ _ _ ⟨.bl _,H,I,rfl,q⟩; all_goals simp
  | bl b=>cases f; rw[Ew] at q; exact SeqAt.RcAt.str_bool a m b _ _ _ _ ⟨.bl _,H,I,rfl,q⟩; all_goals simp
  | int b=>obtain ⟨t,rfl⟩:=f; rw[Ew] at q; exact SeqAt.RcAt.str_int a m b t _ _ _ _ ⟨.bl _,H,I,rfl,q⟩; all_goals simp
  | str b=>obtain ⟨t,rfl⟩:=f; rw[Ew] at q; exact SeqAt.RcAt.str_str a m b t _ _ _ _ ⟨.bl _,H,I,rfl,q⟩
  | @lst b o n k g=>cases f; obtain ⟨vs,l,i,_⟩:=I.list k; rw[Ew] at q; exact SeqAt.RcAt.str_list a m i.isList c _ _ _ _ ⟨.bl _,H,I,rfl,q⟩; all_goals simp
  | @tup b o n k g=>cases f; obtain ⟨vs,l,i,_⟩:=I.tuple k; rw[Ew] at q; exact SeqAt.RcAt.str_tuple a m i c _ _ _ _ ⟨.bl _,H,I,rfl,q⟩; all_goals simp
 | @lst a L G D r =>
  cases z
  obtain ⟨J,B,p,_⟩:=I.list D
  cases w with
  | non=>cases f; rw[Ew] at q; exact SeqAt.RcAt.list_none p.isList c _ _ _ _ ⟨.bl _,H,I,rfl,q⟩; all_goals simp
  | bl b=>cases f; rw[Ew] at q; exact SeqAt.RcAt.list_bool b p.isList c _ _ _ _ ⟨.bl _,H,I,rfl,q⟩; all_goals simp
  | int b=>obtain ⟨t,rfl⟩:=f; rw[Ew] at q; exact SeqAt.RcAt.list_int b t p.isList c _ _ _ _ ⟨.bl _,H,I,rfl,q⟩; all_goals simp
  | str b=>obtain ⟨t,rfl⟩:=f; rw[Ew] at q; exact SeqAt.RcAt.list_str b t p.isList c _ _ _ _ ⟨.bl _,H,I,rfl,q⟩; all_goals simp
  | @lst b o n k g=>cases f; obtain ⟨vs,l,i,_⟩:=I.list k; rw[Ew] at q; exact oY p i (B.length.symm.trans r.length) (l.length.symm.trans g.length) c (λj C w=>Sh I r g B l (Zc (by simp only[Bm] at E; omega)) j C w) _ _ _ _ ⟨.bl _,H,I,rfl,q⟩
  | @tup b o n k g=>cases f; obtain ⟨vs,l,i,_⟩:=I.tuple k; rw[Ew] at q; exact SeqAt.RcAt.list_tuple p.isList i c _ _ _ _ ⟨.bl _,H,I,rfl,q⟩; all_goals simp
 | @tup a L G D r =>
  cases z
  obtain ⟨J,B,p,_⟩:=I.tuple D
  cases w with
  | non=>cases f; rw[Ew] at q; exact SeqAt.RcAt.tuple_none p c _ _ _ _ ⟨.bl _,H,I,rfl,q⟩; all_goals simp
  | bl b=>cases f; rw[Ew] at q; exact SeqAt.RcAt.tuple_bool b p c _ _ _ _ ⟨.bl _,H,I,rfl,q⟩; all_goals simp
  | int b=>obtain ⟨t,rfl⟩:=f; rw[Ew] at q; exact SeqAt.RcAt.tuple_int b t p c _ _ _ _ ⟨.bl _,H,I,rfl,q⟩; all_goals simp
  | str b=>obtain ⟨t,rfl⟩:=f; rw[Ew] at q; exact SeqAt.RcAt.tuple_str b t p c _ _ _ _ ⟨.bl _,H,I,rfl,q⟩; all_goals simp
  | @lst b o n k g=>cases f; obtain ⟨vs,l,i,_⟩:=I.list k; rw[Ew] at q; exact SeqAt.RcAt.tuple_list p i.isList c _ _ _ _ ⟨.bl _,H,I,rfl,q⟩; all_goals simp
  | @tup b o n k g=>cases f; obtain ⟨vs,l,i,_⟩:=I.tuple k; rw[Ew] at q; exact gU p i (B.length.symm.trans r.length) (l.length.symm.trans g.length) c (λj C w=>Sh I r g B l (Zc (by simp only[Bm] at E; omega)) j C w) _ _ _ _ ⟨.bl _,H,I,rfl,q⟩
theorem DN(M:X.A.units+64<cLine):Yh X (Jg .NotEq) (GG X.K):=by
 intro F s N H x y v u Q I z f h
 obtain ⟨d,e,C,w,E,q⟩:=h
 have c:X.A.units<cLine:=by omega
 cases C with
 | non =>
  cases z
  cases w with
  | non=>cases f; rw[Ew] at q; exact SeqAt.RcNeAt.none_none _ _ _ _ ⟨.bl _,H,I,rfl,q⟩
  | bl b=>cases f; rw[Ew] at q; exact SeqAt.RcNeAt.none_bool b _ _ _ _ ⟨.bl _,H,I,rfl,q⟩; all_goals simp
  | int b=>obtain ⟨t,rfl⟩:=f; rw[Ew] at q; exact SeqAt.RcNeAt.none_int b t _ _ _ _ ⟨.bl _,H,I,rfl,q⟩; all_goals simp
  | str b=>obtain ⟨t,rfl⟩:=f; rw[Ew] at q; exact SeqAt.RcNeAt.none_str b t _ _ _ _ ⟨.bl _,H,I,rfl,q⟩; all_goals simp
  | @lst b o n k g=>cases f; obtain ⟨vs,l,i,_⟩:=I.list k; rw[Ew] at q; exact SeqAt.RcNeAt.none_list i.isList c _ _ _ _ ⟨.bl _,H,I,rfl,q⟩; all_goals simp
  | @tup b o n k g=>cases f; obtain ⟨vs,l,i,_⟩:=I.tuple k; rw[Ew] at q; exact SeqAt.RcNeAt.none_tuple i c _ _ _ _ ⟨.bl _,H,I,rfl,q⟩; all_goals simp
 | bl a =>
  cases z
  cases w with
  | non=>cases f; rw[Ew] at q; exact SeqAt.RcNeAt.bool_none a _ _ _ _ ⟨.bl _,H,I,rfl,q⟩; all_goals simp
  | bl b=>cases f; rw[Ew] at q; exact SeqAt.RcNeAt.bool_bool a b _ _ _ _ ⟨.bl _,H,I,rfl,q⟩
  | int b=>obtain ⟨t,rfl⟩:=f; rw[Ew] at q; exact SeqAt.RcNeAt.bool_int a b t _ _ _ _ ⟨.bl _,H,I,rfl,q⟩
  | str b=>obtain ⟨t,rfl⟩:=f; rw[Ew] at q; exact SeqAt.RcNeAt.bool_str a b t _ _ _ _ ⟨.bl _,H,I,rfl,q⟩; all_goals simp
  | @lst b o n k g=>cases f; obtain ⟨vs,l,i,_⟩:=I.list k; rw[Ew] at q; exact SeqAt.RcNeAt.bool_list a i.isList c _ _ _ _ ⟨.bl _,H,I,rfl,q⟩; all_goals simp
  | @tup b o n k g=>cases f; obtain ⟨vs,l,i,_⟩:=I.tuple k; rw[Ew] at q; exact SeqAt.RcNeAt.bool_tuple a i c _ _ _ _ ⟨.bl _,H,I,rfl,q⟩; all_goals simp
 | int a =>
  obtain ⟨m,rfl⟩:=z
  cases w with
  | non=>cases f; rw[Ew] at q; exact SeqAt.RcNeAt.int_none a m _ _ _ _ ⟨.bl _,H,I,rfl,q⟩; all_goals simp
  | bl b=>cases f; rw[Ew] at q; exact SeqAt.RcNeAt.int_bool a m b _ _ _ _ ⟨.bl _,H,I,rfl,q⟩
  | int b=>obtain ⟨t,rfl⟩:=f; rw[Ew] at q; exact SeqAt.RcNeAt.int_int a m b t _ _ _ _ ⟨.bl _,H,I,rfl,q⟩
  | str b=>obtain ⟨t,rfl⟩:=f; rw[Ew] at q; exact SeqAt.RcNeAt.int_str a m b t _ _ _ _ ⟨.bl _,H,I,rfl,q⟩; all_goals simp
  | @lst b o n k g=>cases f; obtain ⟨vs,l,i,_⟩:=I.list k; rw[Ew] at q; exact SeqAt.RcNeAt.int_list a m i.isList c _ _ _ _ ⟨.bl _,H,I,rfl,q⟩; all_goals simp
  | @tup b o n k g=>cases f; obtain ⟨vs,l,i,_⟩:=I.tuple k; rw[Ew] at q; exact SeqAt.RcNeAt.int_tuple a m i c _ _ _ _ ⟨.bl _,H,I,rfl,q⟩; all_goals simp
 | str a =>
  obtain ⟨m,rfl⟩:=z
  cases w with
  | non=>cases f; rw[Ew] at q; exact SeqAt.RcNeAt.str_none a m _ _ _ _ ⟨.bl _,H,I,rfl,q⟩; all_goals simp
  | bl b=>cases f; rw[Ew] at q; exact SeqAt.RcNeAt.str_bool a m b _ _ _ _ ⟨.bl _,H,I,rfl,q⟩; all_goals simp
  | int b=>obtain ⟨t,rfl⟩:=f; rw[Ew] at q; exact SeqAt.RcNeAt.str_int a m b t _ _ _ _ ⟨.bl _,H,I,rfl,q⟩; all_goals simp
  | str b=>obtain ⟨t,rfl⟩:=f; rw[Ew] at q; exact SeqAt.RcNeAt.str_str a m b t _ _ _ _ ⟨.bl _,H,I,rfl,q⟩
  | @lst b o n k g=>cases f; obtain ⟨vs,l,i,_⟩:=I.list k; rw[Ew] at q; exact SeqAt.RcNeAt.str_list a m i.isList c _ _ _ _ ⟨.bl _,H,I,rfl,q⟩; all_goals simp
  | @tup b o n k g=>cases f; obtain ⟨vs,l,i,_⟩:=I.tuple k; rw[Ew] at q; exact SeqAt.RcNeAt.str_tuple a m i c _ _ _ _ ⟨.bl _,H,I,rfl,q⟩; all_goals simp
 | @lst a L G D r =>
  cases z
  obtain ⟨J,B,p,_⟩:=I.list D
  cases w with
  | non=>cases f; rw[Ew] at q; exact SeqAt.RcNeAt.list_none p.isList c _ _ _ _ ⟨.bl _,H,I,rfl,q⟩; all_goals simp
  | bl b=>cases f; rw[Ew] at q; exact SeqAt.RcNeAt.list_bool b p.isList c _ _ _ _ ⟨.bl _,H,I,rfl,q⟩; all_goals simp
  | int b=>obtain ⟨t,rfl⟩:=f; rw[Ew] at q; exact SeqAt.RcNeAt.list_int b t p.isList c _ _ _ _ ⟨.bl _,H,I,rfl,q⟩; all_goals simp
  | str b=>obtain ⟨t,rfl⟩:=f; rw[Ew] at q; exact SeqAt.RcNeAt.list_str b t p.isList c _ _ _ _ ⟨.bl _,H,I,rfl,q⟩; all_goals simp
  | @lst b o n k g=>cases f; obtain ⟨vs,l,i,_⟩:=I.list k; rw[Ew] at q; exact xI p i (B.length.symm.trans r.length) (l.length.symm.trans g.length) c (λj C w=>Sh I r g B l (Zc (by simp only[Bm] at E; omega)) j C w) _ _ _ _ ⟨.bl _,H,I,rfl,q⟩
  | @tup b o n k g=>cases f; obtain ⟨vs,l,i,_⟩:=I.tuple k; rw[Ew] at q; exact SeqAt.RcNeAt.list_tuple p.isList i c _ _ _ _ ⟨.bl _,H,I,rfl,q⟩; all_goals simp
 | @tup a L G D r =>
  cases z
  obtain ⟨J,B,p,_⟩:=I.tuple D
  cases w with
  | non=>cases f; rw[Ew] at q; exact SeqAt.RcNeAt.tuple_none p c _ _ _ _ ⟨.bl _,H,I,rfl,q⟩; all_goals simp
  | bl b=>cases f; rw[Ew] at q; exact SeqAt.RcNeAt.tuple_bool b p c _ _ _ _ ⟨.bl _,H,I,rfl,q⟩; all_goals simp
  | int b=>obtain ⟨t,rfl⟩:=f; rw[Ew] at q; exact SeqAt.RcNeAt.tuple_int b t p c _ _ _ _ ⟨.bl _,H,I,rfl,q⟩; all_goals simp
  | str b=>obtain ⟨t,rfl⟩:=f; rw[Ew] at q; exact SeqAt.RcNeAt.tuple_str b t p c _ _ _ _ ⟨.bl _,H,I,rfl,q⟩; all_goals simp
  | @lst b o n k g=>cases f; obtain ⟨vs,l,i,_⟩:=I.list k; rw[Ew] at q; exact SeqAt.RcNeAt.tuple_list p i.isList c _ _ _ _ ⟨.bl _,H,I,rfl,q⟩; all_goals simp
  | @tup b o n k g=>cases f; obtain ⟨vs,l,i,_⟩:=I.tuple k; rw[Ew] at q; exact rV p i (B.length.symm.trans r.length) (l.length.symm.trans g.length) c (λj C w=>Sh I r g B l (Zc (by simp only[Bm] at E; omega)) j C w) _ _ _ _ ⟨.bl _,H,I,rfl,q⟩
theorem C9{z a:V}{v:Value}(h:RelV z v)(h':RelV a v):z=a:=by
 cases z <;> cases a <;> simp only[L2.RelV] at h h' <;> first | rfl | (subst h; cases h'; rfl) | (subst h; cases h'; done) | (obtain ⟨t,rfl⟩:=h; obtain ⟨b,e⟩:=h'; cases e; rfl) | (obtain ⟨t,rfl⟩:=h; obtain ⟨b,e⟩:=h'; cases e; done) | (obtain ⟨t,rfl⟩:=h; cases h'; done) | (subst h; obtain ⟨b,e⟩:=h'; cases e)
open Classical in
noncomputable def On(K:PySem.W.Frag)(H:Hp)(d:Ad)(v:Value):Bool:=if h:∃e z,RdV K H z e/\RelV z v then Ew h.choose d else false
theorem mN{a:List (Addr×Obj)}{f:L2.St}{H:Hp}{s:Ap}(I:Inv X a f H s){d e:Ad}{z:V}{v:Value}(h:RdV X.K H z e)(r:RelV z v):On X.K H d v=Ew e d:=by
 unfold On
 have b:∃e z,RdV X.K H z e/\RelV z v:=⟨e,z,h,r⟩
 rw[dif_pos b]
 obtain ⟨j,g,i⟩:=b.choose_spec
 have c:=C9 i r
 subst c
 rw[RdV.det I g h]
theorem Rg{a:List (Addr×Obj)}{f:L2.St}{H:Hp}{s:Ap}(I:Inv X a f H s){d:Ad}:∀{xs:List V} {b:List Ad} {us:List Value},RdVs X.K H xs b->Gw xs us->us.any (On X.K H d)=b.any λe=>Ew e d
 | _,_,_,.nil,r=>by cases r; rfl
 | _,_,_,.cons h t,r=>by
  cases r with
  | cons c g=>rw[List.any_cons,List.any_cons,mN I h c,Rg I t g]
theorem Rk{a:List (Addr×Obj)}{j:L2.St}{H:Hp}{s:Ap}(I:Inv X a j H s){A:Dm}{x:V}{d:Ad}{u:Value}(g:RdV X.K H x d)(b:RelV x u):∀{xs:List V} {c:List Ad} {us:List Value},RdVs X.K H xs c->Gw xs us->A.units+Bd c<cLine->∀v∈us,Oj A s v u (On X.K H d v)
 | _,_,_,.nil,r,_=>λv hv=>by cases r; cases hv
 | _,_,_,@RdVs.cons _ _ y e ys es h t,r,hu=>λv hv=>by
  have i:A.units+e.depth<cLine/\A.units+Bd es<cLine:=by
   simp only[Bd] at hu
   omega
  cases r with
  | cons f k =>
   rcases Aj.mp hv with rfl | hv
   ·rw[mN I h f]; exact C6 I h g f b i.1
   ·exact Rk I g b t k i.2 v hv
def BX(K:PySem.W.Frag)(neg:Bool):R2:=λx y H Q=>∃p b d a,y=.ref p/\(Sx K H p b\/Vm K H p b)/\RdV K H x d/\RdVs K H b a/\Bd a<=60/\Q (.bl (if neg then !(a.any λe=>Ew e d) else a.any λe=>Ew e d)) H
theorem BZ(z:X.A.units+64<cLine):Yh X (Jg .In) (BX X.K false):=by
 intro i s n H x y v u Q I g m h
 obtain ⟨p,t,d,l,rfl,hq,j,c,o,q⟩:=h
 cases m
 have b:X.A.in1.units+Bd l<cLine:=by have:=Yv X.A; omega
 rcases hq with hq | hq
 ·obtain ⟨a,r,f,k⟩:=I.list hq
  refine SeqAt.in_listAt (On X.K H d) f.isList (λw e=>Rk I j g c r b w (by simpa using e)) ⟨.bl _,H,I,rfl,?_⟩
  rw[show a.toArray.any (On X.K H d)=a.any (On X.K H d) by simp,Rg I c r]
  exact q
 ·obtain ⟨a,r,f,k⟩:=I.tuple hq
  refine SeqAt.in_tupleAt (On X.K H d) f (λw e=>Rk I j g c r b w (by simpa using e)) ⟨.bl _,H,I,rfl,?_⟩
  rw[show a.toArray.any (On X.K H d)=a.any (On X.K H d) by simp,Rg I c r]
  exact q
theorem wD(z:X.A.units+64<cLine):Yh X (Jg .NotIn) (BX X.K true):=by
 intro i s n H x y v u Q I g m h
 obtain ⟨p,t,d,l,rfl,hq,j,c,o,q⟩:=h
 cases m
 have b:X.A.in1.units+Bd l<cLine:=by have:=Yv X.A; omega
 rcases hq with hq | hq
 ·obtain ⟨a,r,f,k⟩:=I.list hq
  refine SeqAt.notIn_listAt (On X.K H d) f.isList (λw e=>Rk I j g c r b w (by simpa using e)) ⟨.bl _,H,I,rfl,?_⟩
  rw[show a.toArray.any (On X.K H d)=a.any (On X.K H d) by simp,Rg I c r]
  exact q
 ·obtain ⟨a,r,f,k⟩:=I.tuple hq
  refine SeqAt.notIn_tupleAt (On X.K H d) f (λw e=>Rk I j g c r b w (by simpa using e)) ⟨.bl _,H,I,rfl,?_⟩
  rw[show a.toArray.any (On X.K H d)=a.any (On X.K H d) by simp,Rg I c r]
  exact q
end
section
variable{X:Cx}{a:List (Addr×Obj)}{d:L2.St}{H:Hp}{s:Ap}{h':Heap}
theorem lI{t':Nat}{fp:List Addr}(I:Inv X a d H s)(k:∀b o,b∉fp->s.heap.get? b=some o->h'.get? b=some o)(h:∀b∈fp,Sk X a H b):Inv X a d H { s with heap:=h',toks:=t' }:=by
 have g:∀b u,H b=some u->b∉fp:=λb u e z=>by rw[(h b z).1] at e; cases e
 refine I.step (g':=s.gens) (d':=s.drawn) (ch:=fp) (λb w=>?_) (λb o _ _ f e _=>k b o f e) (λb o _ _ f e _=>⟨o.slots,k b o f e⟩) (λ_ _ _ _ n=>n)
  (λb o f e=>⟨o,k b o f e⟩) (λ_ _ e=>e) (λ_ _ _ e=>e) (λb B e=>⟨#[],by rw[e]; simp⟩) (λm j=>?_) (λb u e=>?_) I.bare
 ·obtain ⟨_,A,_,i,t,x⟩:=h b w
  exact ⟨i,A,t,x⟩
 ·obtain ⟨o,p,l,y,r⟩:=j
  exact ⟨o,p,l,k _ o (λz=>(h _ z).2.1 rfl) y,r⟩
 ·refine (I.hok b u e).stay (λc v f q=>k c v ?_ q) (λ_ q=>q) λ_ _ q=>q
  rcases f with z | z
  ·rw[z]; exact g b u e
  ·exact g c _ z
end
section
variable{X:Cx}
theorem bR{t f:Expr}{x S:Str}{px py pos R:Pos}{i0:Nat}{D:List Expr}{a:Scope}{cl:List (Str×Addr)}{ys:List Str}{O:List Nat}{wi:TI}{tc:TT}{te:TE}(hN:X.N.Nodup)(j8:X.N[i0]? = some S)(q0:X.env.scope.names.lookup S=some .local)(C:CompScope X a cl x ys O)(hc:X.calm=true)(hi:PI X (.Name x px) f wi)(ht:∀fp s H,tL (Hd X a cl (x::ys) fp s H) D tc)(he:∀fp s H,PE (Hd X a cl (x::ys) fp s H) t te)(hs:∀x,Fu f X.env x=pure x:=by intro _; rfl)(j3:Jf (.ListComp t [⟨.Name x px,f,D,0⟩] a pos) (some (.Name S py)) R.line X.env=pure true:=by rfl):PS X (.Assign [.Name S py] (.ListComp t [⟨.Name x px,f,D,0⟩] a pos) R) (N6 (cI wi O tc te) (gP i0)):=by
 intro d s k H De I h
 have h:cI wi O tc te k H λv H1=>De.nx (k.set i0 (some v)) H1:=h
 rw[exec_Assign_Name_used _ _ _ _ j3]
 refine Ah (wpAny_standAt (Ah ?_))
 show wpAny _ X.A (do let _ <- comprehension (.ListComp t [⟨.Name x px,f,D,0⟩] a pos) a X.env _ (newList []) false (eval f X.env) (some (Ni (.Name S py) X.env))) _ _ s
 refine Ah (Kg (yH (use:=some (Ni (.Name S py) X.env)) (Q:=λ_ Y=>SP X d De .next Y) rfl hs C.clos C.kind C.locs (Kj (hi d s k H _ I h) λv s1 h1=>Kj h1 λx9 g h2=>?_)) (λ_ Y hq=>Au (Au hq)) λ_ _ e=>e)
 obtain ⟨it,fp,tn,J,H2,e,I2,T,x0,f2,q2⟩:=h2
 subst e
 have fD:H2 g.heap.objs.size=none:=I2.hok.fresh (Ak _)
 obtain ⟨W,⟨m0,w0⟩,k3⟩:=q2 g.heap.objs.size fD
 refine Gu ?_
 have I3:Inv X d k (upd H2 g.heap.objs.size (.lst [])) { g with heap:=g.heap.push { cls:=.type "list",dict:=none,data:=.seq ([]:List Value).toArray } } :=
  I2.laid (t':=g.toks) (λb u q=>Aq _ q) (Ak _) ⟨Em _,[],0,.nil,Ca _ rfl⟩
 obtain ⟨f3,q3,j7⟩:=lY I2 T x0 f2 I3
 generalize h5:({ g with heap:=g.heap.push { cls:=.type "list",dict:=none,data:=.seq ([]:List Value).toArray } }:Ap)=s3 at I3
 have Vk:tn 0 s3.heap:=by rw[<- h5]; exact q3
 have o3:∀b∈fp,∃o,s3.heap.get? b=some o:=by rw[<- h5]; exact j7
 show wpAny _ _ (aG a X.env.globals cl [] X.env.qual none .none (some X.env)) _ _ _
 refine gS C λh4 k5 E k6=>?_
 have I4:∀tk,Inv (Hd X a cl (x::ys) fp s3 (upd H2 g.heap.objs.size (.lst []))) [] (none::Jx k O) (upd H2 g.heap.objs.size (.lst [])) { s3 with heap:=h4,toks:=tk }:=λtk=>fK (pre:=[x]) C I3 f3 o3 k5 E k6
 have k0:tn 0 h4:=T.keep 0 _ _ Vk λb l o q=>E b o q
 generalize G:Hd X a cl (x::ys) fp s3 (upd H2 g.heap.objs.size (.lst []))=X' at I4
 obtain ⟨eP,eW,eK,eA,eC⟩:=oQ hc G
 have B:∀{j:Hp},(∀b∈fp,j b=none)->∀b∈fp,Sk X' [] j b:=λ{j} hn=>gK G (I4 0) hn
 have M:∀s5:Ap,s5={ s3 with heap:=h4,toks:=s3.toks+([]:List (Str×Value)).length } ->
   Ru (model X.prog X.w) X.A (.compLoop (.ListComp t [⟨.Name x px,f,D,0⟩] a pos) 0 (.ref it) (.ref g.heap.objs.size) (compEnvC a (Gh (s3.heap.objs.size+1) a.names cl) s3.heap.objs.size X.env))
    (compPost (model X.prog X.w) X.A X.xe (some (Ni (.Name S py) X.env)) (λ_ Y=>SP X d De .next Y) (.ref g.heap.objs.size) s3.heap.objs.size) s5:=by
  rintro s5 rfl
  refine dE (λn Y=>∃i o j,Inv X' [] (o::Jx k O) j Y/\tn i Y.heap/\(∀b∈fp,j b=none)/\W i n j) ?_ m0
   ⟨0,none,_,I4 _,k0,λb l=>(f3 b l).1,w0⟩
  (intro n s6 q_; obtain ⟨i,o,H6,I6,k1,k2,w6⟩ := q_)
  rcases k3 i n H6 w6 with ⟨q1,qn⟩ | ⟨go,step⟩
  ·have hd:=T.done X' eP eW eK eC i [] s6 _ H6 (λ_ _=>False) I6 (B k2) k1 q1
   rw[eA] at hd
   refine Kj hd λr s7 c => ?_
   obtain ⟨hr,I7⟩ := c
   subst hr
   obtain ⟨⟨m7,P⟩,h3,J7⟩:=wW G I3 f3 I7
   have fC:Sk X d H6 s3.heap.objs.size:=I3.fpOk (Ak _) h3
   obtain ⟨oC,x5,x7,h8,rC⟩:=id P
   have J8:Inv X (d++[(s3.heap.objs.size,oC)]) k H6 s7:=J7.pins_of λp hp=>by
    rcases Ai.mp hp with z | z
    ·have q:=J7.pin p (Ag _ z)
     exact q
    ·rw[Ab.mp z]
     exact ⟨h8,h3,fC.2.1,fC.2.2.1,λv hv=>by rw[rC.1] at hv; cases hv⟩
   refine Kj (Wx (X:=X) (i:=i0) (x:=S) (pos:=py) hN j8 (.inl q0) (.inr q0) (d++[(s3.heap.objs.size,oC)]) s7 k H6 (.ref g.heap.objs.size) (.ref g.heap.objs.size) (λV j=>V=k.set i0 (some (.ref g.heap.objs.size))/\j=H6) J8 rfl ⟨rfl,rfl⟩) λ_ L c => ?_
   obtain ⟨x4,U,K,e9,Z⟩ := c
   subst e9 Z
   have h9:=(K.pin (s3.heap.objs.size,oC) (Ag _ (Ag _ Aa))).1
   have x3:Inv X d (k.set i0 (some (.ref g.heap.objs.size))) U L:=K.pins_of λp hp=>K.pin p (Ag _ (Af _ hp))
   refine ⟨m7,P.at λo e=>by rw[h8] at e; cases e; exact h9,λx6 h6=>?_⟩
   exact ⟨_,U,lI (t':=L.toks) (fp:=[s3.heap.objs.size]) x3 (λb o l e=>(h6.2 b (λz=>l (by rw[z]; exact Aa))).trans e) (λb l=>by rw[Ab.mp l]; exact fC),qn⟩
  ·have k8:=T.item X' eP eW eK eC i [] s6 _ H6 (λ_ _=>False) I6 (B k2) k1 go
   rw[eA] at k8
   refine Kj k8 λr s7 c => ?_
   obtain ⟨u,hr,h7⟩ := c
   subst hr
   refine Kj h7 λ_ s8 c => ?_
   obtain ⟨y,H8,I8,r8,y8,h0,j1⟩ := c
   have q6:=I8.pinned (B j1) (T.obj _ _ h0)
   obtain ⟨N1,N2,x1,j4,q5⟩:=step y H8 y8
   have again:∀{U:Hp} {L:Ap} {m':Nat},Inv X' ([]++Ze fp s8.heap) (some y::Jx k O) U L->m'<n->W (i+1) m' U->∃m,m<n/\∃i o j,Inv X' [] (o::Jx k O) j L/\tn i L.heap/\(∀b∈fp,j b=none)/\W i m j:=λ{U L m'} K hm w9=>by
    refine ⟨m',hm,i+1,some y,U,K.unpinned,T.keep _ _ _ h0 λb l o e=>(K.pin (b,o) (Ag _ (Ag _ (Nx l e)))).1,λb l=>?_,w9⟩
    obtain ⟨o,e,_⟩:=T.obj _ _ h0 b l
    exact (K.pin (b,o) (Ag _ (Ag _ (Nx l e)))).2.1
   subst G
   refine Kj (Wx (i:=0) (x:=x) (pos:=px) C.nd rfl (vC C.own) (q9 C.own) _ s8 _ H8 y u (λV j=>V=some y::Jx k O/\j=H8) q6 r8 ⟨rfl,rfl⟩) λ_ L c => ?_
   obtain ⟨x4,U,K,e9,Z⟩ := c
   subst e9 Z
   refine Kj (ht fp s3 _ _ L _ _ _ K q5) λok j6 c => ?_
   obtain ⟨y2,k4,F⟩ := c
   cases ok with
   | false =>
    rw[if_neg Cw] at F ⊢
    obtain ⟨m',hm,q7⟩:=x1 _ F
    exact again k4 hm q7
   | true =>
    rw[if_pos rfl] at F ⊢
    refine Kj (he fp s3 _ _ j6 _ _ _ k4 F) λz x2 c => ?_
    obtain ⟨vz,k7,j9,q8,q4⟩ := c
    obtain ⟨k9,ha,hz,m',hm,j0⟩:=j4 _ _ q4
    refine Kj (Us _ x2 _ k7 (.ref g.heap.objs.size) [vz] (.ref g.heap.objs.size) [z] (λ_ j=>j=upd k7 g.heap.objs.size (.lst (k9++[vz]))) j9 rfl (.cons q8 .nil) ⟨_,k9,vz,rfl,rfl,ha,hz,rfl⟩) λ_ x8 c => ?_
    obtain ⟨_,y1,j2,_,j5⟩ := c
    subst j5
    exact again j2 hm j0
 exact J9 (M _ rfl) (T.self X.A 0 _ _ _ k0 (M _ rfl))
end
end Nd
namespace Nd
open PySem L2
def W2(K:PySem.W.Frag):R2:=λx y H Q=>∃a b c d,x=.ref a/\y=.ref b/\Vm K H a c/\Vm K H b d/\c.length+d.length<=Bf/\(c=[]->Q (.ref b) H)/\(d=[]->Q (.ref a) H)/\(∀p,H p=none->Q (.ref p) (upd H p (.tup (c++d))))
open PyProof.Rows in
theorem K5{X:Cx}:Yh X (Lp .Add) (W2 X.K):=by
 intro c s P H x y v u Q I w j h
 obtain ⟨a,b,q,O,rfl,rfl,l,m,S,N,J,R⟩:=h
 by_cases i:q=[]
 ·cases w
  cases j
  obtain ⟨f,z,L,_⟩:=I.tuple l
  obtain ⟨o,T,A,_⟩:=I.tuple m
  have d:f=[]:=z.nil_iff.mpr i
  subst d
  obtain ⟨⟨U,G,D,e⟩,t,n,B,d⟩:=id L
  obtain ⟨⟨V,E,M,g⟩,r,k,C,p⟩:=id A
  simp only at n d k p
  subst n d k p
  exact iY ⟨_,t,rfl⟩ ⟨_,r,rfl⟩ Vy fP PySem.F.slot_tuple_add PySem.F.entry_tuple_add (PySem.F.args_tuple_add_2 _ _)
   (tuple_addW0 a b _ _ B C G E e g rfl) ⟨t,r,⟨.ref b,H,I,rfl,N i⟩⟩
 ·exact vG c s P H (.ref a) (.ref b) v u Q I w j ⟨a,b,q,O,rfl,rfl,l,m,i,S,J,λ_=>R⟩
theorem gW:∀{l:List Int},l.Nodup->l.Pairwise (·<=·)->l.Pairwise (· < ·)
 | [],_,_=>.nil
 | a::l,n,p=>by
  obtain ⟨d,e⟩:=Ay.mp p
  obtain ⟨g,f⟩:=Bp.mp n
  refine Ay.mpr ⟨λb c=>?_,gW f e⟩
  have:=d b c
  have : a≠b:=λz=>g (by rw[z]; exact c)
  omega
end Nd
namespace Nd
open PySem PySem.Spec PyProof.Rows L2
end Nd
namespace Nd
open PySem L2
def KH(K:PySem.W.Frag):List V->Hp->VK->Prop:=λa H Q=>∃x n t b,a=[x,.ty n]/\TyOf K H x t/\PySem.W.kitOne K t (.type n)=some b/\Q (.bl b) H
theorem Pp{X:Cx}:Nf X (.builtin "isinstance") (KH X.K):=mZ
theorem CC{K:PySem.W.Frag}{T:String}:PySem.W.kitOne K (.type T) (.type T)=some true:=by
 unfold PySem.W.kitOne
 rw[if_pos (by simp)]
theorem compScope0{X:Cx}{a:Scope}{x:Str}(d:closureFor a X.env=pure [])(b:∀y∈a.names,y.2≠.cell)(kind:a.kind=.function)(locs:∀y∈a.names,y.2=.local->a.names.lookup y.1=some .local)(e:a.names.lookup x=some .local)(c:(a.names.all λy=>!(y.2 == Er) || (([]:List (Str×Addr)).lookup y.1).isSome)=true):CompScope X a [] x [] [] :=
 ⟨d,.inl b,kind,locs,.inl e,λ_ _ h=>by simp at h,c,Bp.mpr ⟨Bt,Do⟩,rfl,λk y j f _=>by simp at f⟩
theorem sz{n:Nat}(h:n<=1000:=by first | decide | simp | (simp; omega)):n<=Bf:=Ma (iR h)
end Nd
namespace Nd
open PySem PySem.Spec PyProof.Rows L2
theorem BW{K:PySem.W.Frag}{T n:String}{b:Bool}(h1:(Ep T == Ep n)=false)(a:PySem.W.kitMeta n=true)(c:(fastBuiltinMro T).map (λx=>x.contains (Ep n))=some b):PySem.W.kitOne K (.type T) (.type n)=some b:=by
 unfold PySem.W.kitOne PySem.W.kitCls
 rw[h1,if_neg (by decide)]
 dsimp only
 rw[if_pos a]
 exact c
theorem mY(xs:Array Value):((Ck xs.size).filterMap λ(k:Nat)=>xs[((xs.size:Int) - 1+(k:Int) * (-1)).toNat]?).toArray=xs.toList.reverse.toArray:=by
 congr 1
 have h:∀n,n<=xs.size->((Ck n).filterMap λ(k:Nat)=>xs[((xs.size:Int) - 1+(k:Int) * (-1)).toNat]?)=xs.toList.reverse.take n:=by
  intro n
  induction n with
  | zero=>intro _; simp
  | succ n a =>
   intro b
   rw[List.range_succ,List.filterMap_append,a (by omega)]
   have e:((xs.size:Int) - 1+(n:Int) * (-1)).toNat=xs.size - 1 - n:=by omega
   have lt:n<xs.toList.reverse.length:=by rw[En,Al]; omega
   rw[Gi,Ba lt]
   congr 1
   simp only[Ih,List.filterMap_nil,e]
   rw[Fg (by omega),List.getElem_reverse]
   simp
 have:=h xs.size (Ak _)
 rw[this]
 rw[Dt (by rw[En,Al]; exact Ak _)]
section
variable{X:Cx}{e k:Expr}{te:TE}{pos d c:Pos}
theorem mQ{prog:Bz}{w:World}{A:Dm}{E:Value->Ap->Prop}{s:Ap}{c:Addr}{os:Obj}{t:Tok}{n:Nat}{Q:Int×Int×Nat->Ap->Prop}(a:s.heap.get? c=some os)(b:os.data=.fields #[.none,.none,.int (-1) t])(h:Q ((n:Int) - 1,-1,n) s):wpAny (model prog w) A (Km (.ref c) (pure (n:Int))) Q E s:=by
 unfold Km Zp
 refine Ah (Ah (Ue a b (x:=.none) rfl (Ah (Ue a b (x:=.none) rfl (Ah (Ue a b (x:=.int (-1) t) rfl (Au ?_)))))))
 refine Ah (slicePart_int ?_)
 show wpAny _ _ (if ((-1:Int) == 0)=true then _ else _) _ _ s
 rw[if_neg (by decide)]
 refine Ah (aE (Ah (aE (Ah (Au ?_)))))
 have d:Ij none none (-1) (n:Int)=((n:Int) - 1,-1):=rfl
 have e:Eo ((n:Int) - 1) (-1) (-1)=n:=by
  unfold Eo
  rw[if_neg (by decide),show (-(-1):Int)=1 from rfl,Int.ediv_one]
  split <;> omega
 show wpAny _ _ (match Ij none none (-1) (n:Int) with | (lo,hi)=>pure (lo,(-1:Int),Eo lo hi (-1))) _ _ s
 rw[d]
 show wpAny _ _ (pure ((n:Int) - 1,(-1:Int),Eo ((n:Int) - 1) (-1) (-1))) _ _ s
 rw[e]
 exact Au h
theorem mK{prog:Bz}{w:World}{A:Dm}{E:Value->Ap->Prop}{s:Ap}{f e:Addr}{a:Array Value}{os:Obj}{t:Tok}{Q:Value->Ap->Prop}(c:IsTup s.heap f a)(b:s.heap.get? e=some os)(g:os.cls=.type "slice")(j:os.data=.fields #[.none,.none,.int (-1) t])(h:Q (.ref s.heap.objs.size) { s with heap:=s.heap.push { cls:=.type "tuple",data:=.seq a.toList.reverse.toArray } })(d:a.size<=Bf):wpAny (model prog w) A (Ny (.ref f) (.ref e)) Q E s:=by
 have i:s.TypeIs (.ref e) "slice" := ⟨os,b,g⟩
 have sz:sizeOk (.seq a.toList.reverse.toArray):=by
  show a.toList.reverse.toArray.size<=Bf
  rw[Av,En,Al]
  exact d
 unfold Ny
 try with_reducible refine Fq ?_
 first | refine Ah (Au ?_) | skip
 refine Ah (iU c.typeIs (by decide) ?_)
 refine Ah (Vw (name:=Lz "__getitem__") c.typeIs Dg (Mu Dg c.typeIs bS ?_ (fX _ _)))
 show wpAny _ _ (Ol (.ref f) >>= _) _ _ s
 refine Ah (tupleItemsOf_ c (Ah (Mt i ?_)))
 rw[if_pos (by decide)]
 refine Ah (mQ b j ?_)
 show wpAny _ _ (if (((a.size:Int) - 1) == 0 && (-1:Int) == 1 && a.size == a.size)=true then _ else _) _ _ s
 rw[if_neg (by simp),mY]
 first
  | exact Ah (m:=Ff _) (Gu (Au ⟨_,rfl,Au h⟩) sz)
  | exact Ah (m:=Ff _) (Gu (Ah (Au (Au ⟨_,rfl,Au h⟩))) sz)
  | exact Ah (Ah (m:=Ff _) (Gu (Au (Au ⟨_,rfl,Au h⟩)) sz))
  | exact Ah (Ah (m:=Ff _) (Gu (Au ⟨_,rfl,Au h⟩) sz))
theorem BP(O:PE X e te){C:TE}(S:PE X k C)(n:∀g H Q,Q (.int (-1)) H->C g H Q):PE X (.Subscript e (.Slice none none (some k) c) pos) (λg H Q=>te g H λx j=>∃a xs,x=.ref a/\Vm X.K j a xs/\∀p,j p=none->Q (.ref p) (upd j p (.tup xs.reverse))):=by
 intro d s g H Q I h
 refine Subscript_ (Kj (O d s g H _ I h) λv G i => ?_)
 obtain ⟨x,j,E,F,a,xs,J,R,q⟩ := i
 subst J
 cases F
 refine wpAny_Slice ?_
 rw[fR]
 refine Au (Au ?_)
 rw[evalPart_some]
 refine Kj (S d G g j (λy u=>y=.int (-1)/\u=j) E (n _ _ _ ⟨rfl,rfl⟩)) λV f i => ?_
 obtain ⟨y,u,L,M,N,U⟩ := i
 subst N
 subst U
 obtain ⟨t,rfl⟩:=M
 have z:Inv X d g u { f with heap:=f.heap.push { cls:=.type "slice",data:=.fields #[.none,.none,.int (-1) t] } }:=L.kept (t':=f.toks) λb P q=>Aq _ q
 obtain ⟨l,r,B,D⟩:=z.tuple R
 show wpAny (model X.prog X.w) X.A (fO e (.Slice none none (some k) c) (.ref a) (.ref f.heap.objs.size)) (EP X d g Q) X.xe { f with heap:=f.heap.push { cls:=.type "slice",data:=.fields #[.none,.none,.int (-1) t] } }
 have m:l.toArray.size=xs.length:=by rw[Av]; exact r.length.symm
 refine tail_any (ops:=[.ref a,.ref f.heap.objs.size]) (T := "tuple") B.typeIs Dg.lookup (mK B (Ca _ rfl) rfl rfl ?_ (by rw[m]; exact D)) (by with_unfolding_all rfl)
 refine ⟨.ref _,_,z.laid (o:=.tup xs.reverse) (t':=f.toks) (λb P q=>Aq _ q) (Ak _) ⟨by rw[En]; exact D,l.reverse,r.reverse,_,Ca _ rfl,rfl,0,by simp⟩,rfl,q _ (z.hok.fresh (Ak _))⟩
end
theorem Y8:∀{vs:List Value} {ns:List Int},Ib vs ns->Gw (ns.map V.int) vs
 | _,_,.nil=>.nil
 | _,_,.cons n t h=>.cons ⟨t,rfl⟩ (Y8 h)
section
variable{X:Cx}
theorem n4(xs:Array Value):slicePick xs none none (some (-1))=xs.toList.reverse.toArray:=by
 rw[<- mY]
 unfold slicePick
 congr 1
 have a:sliceRange (Ld none none (some (-1)) xs.size).1 (Ld none none (some (-1)) xs.size).2.1 (Ld none none (some (-1)) xs.size).2.2=(Ck xs.size).map λ(k:Nat)=>((xs.size:Int) - 1+(k:Int) * (-1)).toNat:=by
  show sliceRange ((xs.size:Int) - 1) (-1) (-1)=_
  unfold sliceRange
  have c:(if (-1:Int) > 0 then (if (xs.size:Int) - 1 < -1 then (-1 - ((xs.size:Int) - 1) + -1 - 1) / -1 else 0) else (if (xs.size:Int) - 1 > -1 then ((xs.size:Int) - 1 - -1 - -1 - 1) / (- -1) else 0)).toNat=xs.size:=by
   rw[if_neg (by decide),show (- -1:Int)=1 from rfl,Int.ediv_one]
   split <;> omega
  dsimp only
  rw[c]
  refine Jz λk _=>?_
  congr 1
  omega
 rw[a,Zo]
 rfl
theorem T7{e k:Expr}{te C:TE}{pos u:Pos}(P:PE X e te)(S:PE X k C)(l:∀f H Q,Q (.int (-1)) H->C f H Q):PE X (.Subscript e (.Slice none none (some k) u) pos) (λf H Q=>te f H λx i=>∃a xs,x=.ref a/\Sx X.K i a xs/\∀p,i p=none->Q (.ref p) (upd i p (.lst xs.reverse))):=by
 intro c s f H Q I h
 refine Subscript_ (Kj (P c s f H _ I h) λv J g => ?_)
 obtain ⟨x,i,F,G,a,xs,L,R,q⟩ := g
 subst L
 cases G
 refine wpAny_Slice ?_
 rw[fR]
 refine Au (Au ?_)
 rw[evalPart_some]
 refine Kj (S c J f i (λy m=>y=.int (-1)/\m=i) F (l _ _ _ ⟨rfl,rfl⟩)) λW d g => ?_
 obtain ⟨y,m,M,N,O,U⟩ := g
 subst O
 subst U
 obtain ⟨t,rfl⟩:=N
 have n:Inv X c f m { d with heap:=d.heap.push { cls:=.type "slice",data:=.fields #[.none,.none,.int (-1) t] } }:=M.kept (t':=d.toks) λb V q=>Aq _ q
 obtain ⟨j,r,B,E⟩:=n.list R
 have D:=r.length
 show wpAny (model X.prog X.w) X.A (fO e (.Slice none none (some k) u) (.ref a) (.ref d.heap.objs.size)) (EP X c f Q) X.xe { d with heap:=d.heap.push { cls:=.type "slice",data:=.fields #[.none,.none,.int (-1) t] } }
 refine tail_any (ops:=[.ref a,.ref d.heap.objs.size]) (T := "list") B.isList.typeIs iW.lookup (yG B.isList (Heap.IsSliceOf.new ..) .none .none (.int (-1) t) (by simp) ?_ (by rw[Av] <;> omega)) (by with_unfolding_all rfl)
 rw[n4]
 exact ⟨.ref _,_,n.laid (o:=.lst xs.reverse) (t':=d.toks) (λb V q=>Aq _ q) (Ak _) ⟨by rw[En]; exact E,j.reverse,0,r.reverse,by
  have z:=Ca (d.heap.push { cls:=.type "slice",data:=.fields #[.none,.none,.int (-1) t] }) (o:={ cls:=.type "list",data:=.seq j.toArray.toList.reverse.toArray }) rfl
  simpa using z⟩,rfl,q _ (n.hok.fresh (Ak _))⟩
end
end Nd
namespace NdS
open PySem
theorem Xm{mask finger moves:Nat}{led plain:Bool}{c:Array Int}{t:Cj}{order:Array Nat}(h:Ie mask finger moves led plain c=some (t,order)):t.led=led/\t.mask=mask/\t.plain=plain/\t.dummies=#[]:=by
 unfold Ie at h
 cases b:Kw mask c with
 | none=>rw[b] at h; cases h
 | some a =>
  rw[b] at h
  cases h
  exact ⟨rfl,rfl,rfl,rfl⟩
def st(m i:Nat):Nat:=(i * 5+1) % m
def it(m:Nat):Nat->Nat->Nat
 | 0,i=>i
 | t+1,i=>it m t (st m i)
theorem eX(m:Nat):∀(a b i:Nat),it m (a+b) i=it m b (it m a i)
 | 0,b,i=>by rw[Jq]; rfl
 | a+1,b,i=>by rw[aJ]; exact eX m a b (st m i)
def FX(m:Nat):Nat->Nat->List Nat
 | 0,_=>[]
 | f+1,i=>i::FX m f (st m i)
theorem bG{m:Nat}:∀{f i e:Nat},e∈FX m f i->∃t,t<f/\it m t i=e
 | 0,_,_,h=>by cases h
 | f+1,i,e,h=>by
  rcases Aj.mp h with z | z
  ·exact ⟨0,Vh _,z.symm⟩
  ·obtain ⟨t,b,a⟩:=bG z
   exact ⟨t+1,Nat.succ_lt_succ b,a⟩
def Lc(m:Nat):Prop:=0<m/\it m m 0=0/\∀e,e<m->e∈FX m m 0
theorem Rm{m:Nat}(h0:0<m)(h1:(it m m 0 == 0)=true)(b:((Ck m).all λe=>(FX m m 0).contains e)=true):Lc m :=
 ⟨h0,by simpa using h1,λe a=>by
  have:=List.all_eq_true.mp b e (Hj.mpr a)
  simpa using this⟩
theorem X5:Lc 8:=Rm (by decide) (by decide +kernel) (by decide +kernel)
theorem DY:Lc 16:=Rm (by decide) (by decide +kernel) (by decide +kernel)
theorem AK:Lc 32:=Rm (by decide) (by decide +kernel) (by decide +kernel)
theorem BL:Lc 64:=Rm (by decide) (by decide +kernel) (by decide +kernel)
theorem S9:Lc 128:=Rm (by decide) (by decide +kernel) (by decide +kernel)
theorem tG:Lc 256:=Rm (by decide) (by decide +kernel) (by decide +kernel)
theorem cover{m:Nat}(g:Lc m){i e:Nat}(l:i<m)(j:e<m):∃t,t<m/\it m t i=e:=by
 obtain ⟨p,k,d⟩:=g
 obtain ⟨a,n,h⟩:=bG (d i l)
 obtain ⟨b,o,f⟩:=bG (d e j)
 by_cases c:a<=b
 ·refine ⟨b - a,by omega,?_⟩
  rw[<- h,<- eX,Nat.add_sub_cancel' c]
  exact f
 ·refine ⟨b+m - a,by omega,?_⟩
  rw[<- h,<- eX,show a+(b+m - a)=m+b by omega,eX,k]
  exact f
def lp(m:Nat):Nat->Nat->Nat->Nat×Nat
 | 0,i,p=>(i,p)
 | t+1,i,p=>lp m t ((i * 5+1+p / 32) % m) (p / 32)
theorem x3(m:Nat):∀(a b i p:Nat),lp m (a+b) i p=lp m b (lp m a i p).1 (lp m a i p).2
 | 0,b,i,p=>by rw[Jq]; rfl
 | a+1,b,i,p=>by rw[aJ]; exact x3 m a b _ _
theorem vB(m:Nat):∀(t i:Nat),lp m t i 0=(it m t i,0)
 | 0,_=>rfl
 | t+1,i=>vB m t (st m i)
theorem pH{m:Nat}:∀(n i p:Nat),p<32 ^ n->(lp m n i p).2=0
 | 0,i,p,h=>by show p=0; simpa using h
 | n+1,i,p,h=>pH n _ _ (by rw[Qk] at h; exact Nat.div_lt_of_lt_mul (by omega))
theorem X6{m:Nat}(h0:0<m):∀(n i p:Nat),i<m->(lp m n i p).1<m
 | 0,i,p,h=>h
 | n+1,i,p,h=>X6 h0 n _ _ (Qz _ h0)
theorem pI{m:Nat}(g:Lc m){i p e:Nat}(f:i<m)(c:p<2 ^ 64)(b:e<m):∃t,t<m+14/\(lp m t i p).1=e:=by
 have a:=pH (m:=m) 13 i p (Cc c (by decide))
 obtain ⟨t,h,d⟩:=cover g (X6 g.1 13 i p f) b
 refine ⟨13+t,by omega,?_⟩
 rw[x3,a,vB]
 exact d
theorem Ur(mask i:Nat):i<=Dk mask i:=by unfold Dk; split <;> omega
theorem iS{mask:Nat}{owner:Array (Option Nat)}:∀(fuel i p t:Nat),t<fuel->(owner.getD (lp (mask+1) t i p).1 (some 0)).isNone=true->∃j,Dy mask owner fuel i p=some j/\(owner.getD j (some 0)).isNone=true
 | 0,_,_,_,h,_=>absurd h (Fl _)
 | fuel+1,i,p,t,h,hn=>by
  unfold Dy
  split
  ·rename_i k a
   exact ⟨i+k,rfl,by have:=Vj a; exact this⟩
  ·rename_i a
   rw[List.find?_eq_none] at a
   cases t with
   | zero =>
    have:=a 0 (Hj.mpr (by have:=Ur mask i; omega))
    exact absurd hn (by simpa [lp] using this)
   | succ t =>
    exact iS fuel _ _ t (by omega) hn
theorem Wi{L:List (Option Nat)}:∀{j x:Nat},L[j]? = some none->((L.set j (some x)).filterMap id).Perm (x::L.filterMap id):=by
 induction L with
 | nil=>intro j x h; simp at h
 | cons a L c =>
  intro j x h
  cases j with
  | zero =>
   simp at h
   subst h
   simp
  | succ j =>
   have d:L[j]? = some none:=by simpa using h
   have:=c (x:=x) d
   cases a with
   | none=>simpa using this
   | some b=>simpa using (Kx b this).trans (Ds x b _)
theorem xK{L:List (Option Nat)}:(L.filterMap id).length<L.length->∃j:Nat,L[j]? = some none:=by
 induction L with
 | nil=>intro h; simp at h
 | cons a L d =>
  intro h
  cases a with
  | none=>exact ⟨0,rfl⟩
  | some b =>
   have : (L.filterMap id).length<L.length:=by simpa using h
   obtain ⟨j,c⟩:=d this
   exact ⟨j+1,by simpa using c⟩
theorem sX(h:Int):Dc h<2 ^ 64:=by
 unfold Dc
 have b:=Int.emod_nonneg h (show (2 ^ 64:Int)≠0 by decide)
 have a:=Int.emod_lt_of_pos h (show (0:Int)<2 ^ 64 by decide)
 omega
def kJ(mask:Nat)(a:Option (Array (Option Nat)×Nat))(h:Int):Option (Array (Option Nat)×Nat):=do
 let (owner,k) <- a
 let j <- Dy mask owner (Fj mask) (Dc h % (mask+1)) (Dc h)
 pure (owner.setIfInBounds j (some k),k+1)
theorem oV{mask:Nat}(g:Lc (mask+1)):∀(b:List Int) (owner:Array (Option Nat)) (n:Nat),owner.size=mask+1->(owner.toList.filterMap id).Perm (Ck n)->n+b.length<=mask->∃a:Array (Option Nat),b.foldl (kJ mask) (some (owner,n))=some (a,n+b.length)/\a.size=mask+1/\(a.toList.filterMap id).Perm (Ck (n+b.length))
 | [],owner,n,h1,h2,_=>⟨owner,rfl,h1,h2⟩
 | h::b,owner,n,h1,h2,h3=>by
  rw[Bg] at h3
  have len:(owner.toList.filterMap id).length=n:=by rw[h2.length_eq,Ex]
  obtain ⟨e,k⟩:=xK (L:=owner.toList) (by rw[len,Al]; omega)
  have f:e<mask+1:=by
   have:=(An.mp k).1
   rw[Al] at this
   omega
  obtain ⟨t,z,r⟩:=pI g (i:=Dc h % (mask+1)) (p:=Dc h) (e:=e) (Qz _ g.1) (sX h) f
  have o:(owner.getD (lp (mask+1) t (Dc h % (mask+1)) (Dc h)).1 (some 0)).isNone=true:=by
   rw[r,By,<- Gm,k]
   rfl
  obtain ⟨j,x,c⟩:=iS (mask:=mask) (owner:=owner) (Fj mask) _ _ t (by unfold Fj; omega) o
  have d:owner.toList[j]? = some none:=by
   rw[By,<- Gm] at c
   cases q:owner.toList[j]? with
   | none=>rw[q] at c; simp at c
   | some v =>
    rw[q] at c
    cases v with
    | none=>rfl
    | some v=>simp at c
  have y:kJ mask (some (owner,n)) h=some (owner.setIfInBounds j (some n),n+1):=by
   show (do
    let j <- Dy mask owner (Fj mask) (Dc h % (mask+1)) (Dc h)
    pure (owner.setIfInBounds j (some n),n+1))=_
   rw[x]
   rfl
  rw[List.foldl_cons,y]
  have s:((owner.setIfInBounds j (some n)).toList.filterMap id).Perm (Ck (n+1)):=by
   rw[jB]
   refine (Wi d).trans ?_
   rw[List.range_succ]
   exact (Kx n h2).trans (Fo (l₁:=[n]) (l₂:=Ck n))
  obtain ⟨l,u,w,m⟩:=oV g b (owner.setIfInBounds j (some n)) (n+1) (by rw[Mp]; exact h1) s (by omega)
  refine ⟨l,?_,w,?_⟩
  ·rw[u,Bg]
   congr 2
   omega
  ·rw[Bg,show n+(b.length+1)=n+1+b.length by omega]
   exact m
theorem lZ{mask:Nat}(g:Lc (mask+1))(a:Array Int)(hl:a.size<=mask):∃owner:Array (Option Nat),Kw mask a=some owner/\owner.size=mask+1/\(owner.toList.filterMap id).Perm (Ck a.size):=by
 have d:((Pc (mask+1) (none:Option Nat)).toList.filterMap id).Perm (Ck 0):=by
  rw[Array.toList_replicate]
  simp
 obtain ⟨o,c,e,b⟩:=oV g a.toList (Pc (mask+1) none) 0 (by simp) d (by simpa using hl)
 rw[Al,Jq] at c b
 refine ⟨o,?_,e,b⟩
 unfold Kw
 rw[<- Array.foldl_toList]
 show (a.toList.foldl (kJ mask) (some (Pc (mask+1) none,0))).map (·.1)=some o
 rw[c]
 rfl
theorem rW(owner:Array (Option Nat)):((Ck owner.size).filterMap λj=>(owner.getD j none).map λx=>(j,x)).map (·.2)=owner.toList.filterMap id:=by
 obtain ⟨L⟩:=owner
 simp only[Av]
 have h:∀(L:List (Option Nat)) (c:List (Option Nat)),((List.range' c.length L.length).filterMap λj=>(((c++L)[j]?).getD none).map λx=>(j,x)).map (·.2)=L.filterMap id:=by
  intro L
  induction L with
  | nil=>intro c; rfl
  | cons a L f =>
   intro c
   rw[Bg,List.range'_succ,Ih]
   have e:((c++a::L)[c.length]?).getD none=a:=by simp
   have d:=f (c++[a])
   rw[Az,Dv,Bw,List.singleton_append] at d
   cases a with
   | none =>
    simp only[e,Option.map_none,List.filterMap_cons_none,id]
    exact d
   | some b =>
    simp only[e,Option.map_some,Aw,List.filterMap_cons_some,id]
    rw[d]
    simp
 have:=h L []
 rw[Gv,<- List.range_eq_range',List.nil_append] at this
 rw[<- this]
 congr 1
 congr 1
 funext j
 rw[By]
 simp
theorem Q4{mask finger moves:Nat}{led plain:Bool}(g:Lc (mask+1))(a:Array Int)(hl:a.size<=mask):∃(t:Cj) (order:Array Nat),Ie mask finger moves led plain a=some (t,order)/\order.toList.Perm (Ck a.size)/\t.fits a.size=true/\t.led=led:=by
 obtain ⟨o,d,c,b⟩:=lZ g a hl
 have e:Ie mask finger moves led plain a=some ({ mask:=mask,place:=(((Ck (mask+1)).filterMap λj=>(o.getD j none).map λx=>(j,x)).map (·.1)).toArray,dummies:=#[],finger:=finger,led:=led,moves:=moves,plain:=plain },
   (((Ck (mask+1)).filterMap λj=>(o.getD j none).map λx=>(j,x)).map (·.2)).toArray):=by
  unfold Ie
  rw[d]
  rfl
 have lo:=rW o
 rw[c] at lo
 have len:((Ck (mask+1)).filterMap λj=>(o.getD j none).map λx=>(j,x)).length=a.size:=by
  have:=congrArg Ek lo
  rw[Ac,b.length_eq,Ex] at this
  exact this
 refine ⟨_,_,e,by rw[List.toList_toArray,lo]; exact b,?_,rfl⟩
 simp only[SetTable.fits,SetTable.fill,Av,Ac,len,Fn,beq_self_eq_true,true_and,decide_eq_true_eq]
 show a.size+0<=mask
 omega
theorem AR{a:Type}(es:Array a){order:Array Nat}(p:order.toList.Perm (Ck es.size)):(order.filterMap (es[·]?)).toList.Perm es.toList/\(order.filterMap (es[·]?)).size=es.size:=by
 have e:(order.filterMap (es[·]?)).toList.Perm es.toList:=by
  rw[pQ]
  have:=p.filterMap (es[·]?)
  rw[filterMap_getElem?_range] at this
  exact this
 exact ⟨e,by rw[<- Al,e.length_eq,Al]⟩
abbrev qS(p:Array Nat):Prop:=p.toList.Pairwise (· < ·)
theorem bD{p:Array Nat}(r:qS p){i j:Nat}(h:i<j)(a:j<p.size):p[i]'(by omega)<p[j]:=by
 have:=Fh.mp r i j (by rw[Al]; omega) (by rw[Al]; exact a) h
 simpa using this
structure Below(p:Array Nat)(j b:Nat):Prop where
 le:b<=p.size
 lo:∀i (h:i<p.size),i<b->p[i]<j
 hi:∀i (h:i<p.size),b<=i->j<=p[i]
theorem cM{p:Array Nat}{j:Nat}(r:qS p):∀(fuel lo a:Nat),a<=p.size->lo<=a->a - lo<=fuel->(∀i (h:i<p.size),i<lo->p[i]<j)->(∀i (h:i<p.size),a<=i->j<=p[i])->Below p j (Ui p j fuel lo a)
 | 0,lo,a,h1,h2,h3,h4,h5=>by
  unfold Ui
  have e:lo=a:=by omega
  exact ⟨by omega,λi h b=>h4 i h b,λi h b=>h5 i h (by omega)⟩
 | fuel+1,lo,a,h1,h2,h3,h4,h5=>by
  unfold Ui
  split
  ·rename_i b
   have f:(lo+a) / 2<p.size:=by omega
   have e:p.getD ((lo+a) / 2) j=p[(lo+a) / 2]:=by simp [Array.getD,f]
   dsimp only
   rw[e]
   split
   ·rename_i c
    refine cM r fuel _ a h1 (by omega) (by omega) (λi h d=>?_) h5
    by_cases z:i=(lo+a) / 2
    ·subst z; exact c
    ·exact Nat.lt_trans (bD r (show i<(lo+a) / 2 by omega) f) c
   ·rename_i c
    refine cM r fuel lo _ (by omega) (by omega) (by omega) h4 (λi h d=>?_)
    by_cases z:i=(lo+a) / 2
    ·subst z; omega
    ·exact Br (by omega) (Ma (bD r (show (lo+a) / 2<i by omega) h))
  ·exact ⟨by omega,λi h b=>h4 i h b,λi h b=>h5 i h (by omega)⟩
theorem cH{p:Array Nat}(r:qS p)(j:Nat):Below p j (Co p j) :=
 cM r _ _ _ (Ak _) (Em _) (by omega) (λi h a=>absurd a (Fl _)) (λi h a=>absurd a (by omega))
theorem Below.eq{p:Array Nat}{j b a:Nat}(x:Below p j b)(y:Below p j a):b=a:=by
 rcases Ss b a with z | z | z
 ·have h:b<p.size:=Cc z y.le
  exact absurd (y.lo b h z) (Nat.not_lt.mpr (x.hi b h (Ak _)))
 ·exact z
 ·have h:a<p.size:=Cc z x.le
  exact absurd (x.lo a h z) (Nat.not_lt.mpr (y.hi a h (Ak _)))
structure TabOk(n:Nat)(t:Cj):Prop where
 good:Lc (t.mask+1)
 dum:t.dummies=#[]
 plain:t.plain=true
 rise:qS t.place
 top:∀j∈t.place.toList,j<=t.mask
 size:t.place.size=n
structure Tab(n:Nat)(t:Cj):Prop extends TabOk n t where
 room:n * 5<t.mask * 3
theorem bL{t:Cj}{n:Nat}(x:Tab n t):n+1<=t.mask:=by have:=x.room; omega
theorem TabOk.fits{t:Cj}{n:Nat}(x:TabOk n t)(h:n<=t.mask):t.fits n=true:=by
 simp only[SetTable.fits,SetTable.fill,x.dum,x.size,Fn,beq_self_eq_true,true_and,decide_eq_true_eq]
 show n+0<=t.mask
 omega
theorem Tab.fits{t:Cj}{n:Nat}(x:Tab n t):t.fits n=true:=x.toTabOk.fits (by have:=bL x; omega)
theorem Pe{t:Cj}{n j:Nat}(x:TabOk n t):t.slot j=.empty↔j∉t.place.toList:=by
 have g:SetTable.has t.dummies j=false:=by rw[x.dum]; rfl
 unfold Vz
 dsimp only
 rw[g]
 constructor
 ·intro h l
  obtain ⟨i,c,e⟩:=Hw.mp l
  rw[Al] at c
  have a:t.place[i]=j:=by simpa using e
  have b:Co t.place j=i:=(cH x.rise j).eq ⟨Ma c,λk d f=>by rw[<- a]; exact bD x.rise f c,λk d f=>by
   by_cases z:i=k
   ·subst z; exact Nat.le_of_eq a.symm
   ·rw[<- a]; exact Ma (bD x.rise (show i<k by omega) d)⟩
  rw[b,Fg c,a,if_pos (by simp)] at h
  cases h
 ·intro h
  rw[if_neg (λz=>h ?_)]
  ·rfl
  ·have m:t.place[Co t.place j]? = some j:=by simpa using z
   have:=Array.mem_of_getElem? m
   exact Array.mem_def.mp this
theorem cF{t:Cj}{n j:Nat}(x:TabOk n t):t.slot j≠.dummy:=by
 have a:SetTable.has t.dummies j=false:=by rw[x.dum]; rfl
 unfold Vz
 dsimp only
 rw[a]
 split
 ·intro h; cases h
 ·intro h; cases h
theorem iE{mask i:Nat}(h:i<=mask):Dk mask i<=mask:=by unfold Dk; split <;> omega
theorem Zf(mask i:Nat):Dk mask i - i<=9:=by unfold Dk; split <;> omega
theorem jH(mask i p:Nat):SetTable.leap mask i p=((i * 5+1+p / 32) % (mask+1),p / 32):=rfl
theorem i4:∀{l1 l2:List Nat},l1.Nodup->(∀e∈l1,e∈l2)->l1.length<=l2.length
 | [],_,_,_=>Em _
 | a::l1,l2,nd,h=>by
  have b:=Bp.mp nd
  have c:=h a (Aa ..)
  have:=i4 (l2:=l2.erase a) b.2 λe d=>(Oy (show e≠a from λz=>b.1 (by rw[<- z]; exact d))).mpr (h e (Ae _ d))
  rw[Mr c] at this
  have p:0<l2.length:=Kt c
  rw[Bg]
  omega
theorem P5{m:Nat}{l:List Nat}(b:l.Pairwise (· < ·))(h:l.length<m):∃e,e<m/\e∉l:=by
 refine Hl λz=>?_
 have all:∀e,e∈Ck m->e∈l:=λe a=>Hl λq=>z ⟨e,Hj.mp a,q⟩
 have:=i4 List.nodup_range all
 rw[Ex] at this
 omega
theorem lU{p:Array Nat}(r:qS p){j:Nat}(h:j∉p.toList):qS (Cr p (Co p j) j):=by
  have b:=cH r j
  show (Cr p (Co p j) j).toList.Pairwise (· < ·)
  rw[Qs]
  have m:(p.toList.take (Co p j)).Pairwise (· < ·):=r.sublist (Jl _ _)
  have n:(p.toList.drop (Co p j)).Pairwise (· < ·):=r.sublist (Ia _ _)
  have lo:∀e∈p.toList.take (Co p j),e<j:=λe k=>by
    obtain ⟨i,d,l⟩:=Rq.mp k
    rw[Al] at d
    have:=b.lo i (by omega) (by omega)
    rw[<- l]
    simpa using this
  have d:∀e∈p.toList.drop (Co p j),j<e:=λe k=>by
    have o:e∈p.toList:=Wm k
    obtain ⟨i,d,l⟩:=List.mem_drop_iff_getElem.mp k
    rw[Al] at d
    have:=b.hi (i+Co p j) (by omega) (by omega)
    have q:j<=e:=by
      rw[<- l]
      simpa [Nat.add_comm] using this
    exact Nat.lt_of_le_of_ne q λz=>h (by rw[z]; exact o)
  simp only[List.pairwise_append,List.pairwise_cons,Aj,Ai]
  first
    | exact ⟨m,⟨d,n⟩,λa g c f=>by
        rcases f with z | z
        · rw[z]; exact lo a g
        · exact Nat.lt_trans (lo a g) (d c z)⟩
    | (refine ⟨⟨m,⟨by simp,Eh⟩,λa g c f=>?_⟩,n,λa g c f=>?_⟩
       · have z:c=j:=by simpa using f
         rw[z]; exact lo a g
       · rcases g with z | z | z
         · exact Nat.lt_trans (lo a z) (d c f)
         · rw[z]; exact d c f
         · cases z)
theorem wB{mask finger moves:Nat}{led plain:Bool}{r:Array Int}{t:Cj}{order:Array Nat}(h:Ie mask finger moves led plain r=some (t,order)):qS t.place/\(∀j∈t.place.toList,j<=mask):=by
 unfold Ie at h
 cases i:Kw mask r with
 | none=>rw[i] at h; cases h
 | some b =>
  rw[i] at h
  cases h
  have sub:∀(l:List Nat),l.Pairwise (· < ·)->(((l.filterMap λj=>(b.getD j none).map λx=>(j,x)).map (·.1)).Pairwise (· < ·))/\∀j∈((l.filterMap λj=>(b.getD j none).map λx=>(j,x)).map (·.1)),j∈l:=by
   intro l i
   have m:∀j∈((l.filterMap λj=>(b.getD j none).map λx=>(j,x)).map (·.1)),j∈l:=λj e=>by
    obtain ⟨q,p,rfl⟩:=Bs.mp e
    obtain ⟨k,o,c⟩:=Ks.mp p
    cases n:b.getD k none with
    | none=>rw[n] at c; cases c
    | some v=>rw[n] at c; cases c; exact o
   refine ⟨?_,m⟩
   clear m
   induction l with
   | nil=>exact Eh
   | cons a l u =>
    have g:=Ay.mp i
    have f:=u g.2
    rw[Ih]
    cases n:b.getD a none with
    | none=>simpa [n] using f
    | some v =>
     simp only[Option.map_some,Aw,List.pairwise_cons]
     refine ⟨λj e=>?_,f⟩
     obtain ⟨q,p,rfl⟩:=Bs.mp e
     obtain ⟨k,o,c⟩:=Ks.mp p
     cases d:b.getD k none with
     | none=>rw[d] at c; cases c
     | some y=>rw[d] at c; cases c; exact g.1 k o
  obtain ⟨s,w⟩:=sub (Ck (mask+1)) List.pairwise_lt_range
  exact ⟨s,λj e=>iZ.mp (Hj.mp (w j e))⟩
theorem B0{mask finger moves:Nat}{led:Bool}(g:Lc (mask+1))(a:Array Int)(hl:a.size * 5<mask * 3):∃(t:Cj) (order:Array Nat),Ie mask finger moves led true a=some (t,order)/\order.toList.Perm (Ck a.size)/\Tab a.size t/\t.led=led:=by
 obtain ⟨t,order,c,j,e,l⟩:=Q4 (finger:=finger) (moves:=moves) (led:=led) (plain:=true) g a (by omega)
 obtain ⟨k,b,h,d⟩:=Xm c
 obtain ⟨f,i⟩:=wB c
 have sz:t.place.size=a.size:=by
  have:=e
  simp only[SetTable.fits,Fn,beq_iff_eq] at this
  exact this.1
 exact ⟨t,order,c,j,⟨⟨by rw[b]; exact g,d,h,f,by rw[b]; exact i,sz⟩,by rw[b]; exact hl⟩,k⟩
abbrev bt(w:World):Bool:=w.params.followText "set-order"
def GY:Int×Value->Int
 | (_,.int k _)=>k
 | _=>0
def GV(e:Int×Value):Prop:=∃k a,e=(hashInt k,Wk k a)
abbrev Q3(es:Array (Int×Value)):List Int:=es.toList.map GY
abbrev Kn(es:Array (Int×Value))(a:Nat)(t:Cj):Obj:={ cls:=.type "set",dict:=none,data:=.set es a t }
structure SetS(w:World)(h:Heap)(a:Addr)(es:Array (Int×Value))(ep:Nat)(t:Cj):Prop where
 obj:h.get? a=some (Kn es ep t)
 ent:∀e∈es.toList,GV e
 nd:(Q3 es).Nodup
 tab:Tab es.size t
 led:bt w=false->t.led=true
 few:es.size<64
def ins(k:Int)(l:List Int):List Int:=if k∈l then l else k::l
theorem V2{n:Nat}(h:n<64):n<=Bf:=by rw[Le]; omega
theorem uG{es:Array (Int×Value)}{b:Nat}{t:Cj}(a:Array (Int×Value))(t':Cj):aI a t' (Kn es b t)=Kn a (b+1) t':=putSet_of a t' rfl
theorem uL{h:Heap}{a:Addr}{es:Array (Int×Value)}{c:Nat}{t:Cj}(d:h.get? a=some (Kn es c t))(b:Array (Int×Value))(t':Cj):(h.update a (aI b t')).get? a=some (Kn b (c+1) t'):=by
 have:=Heap.get?_update_self (aI b t') d (by rw[uG]; rfl)
 rw[uG] at this
 exact this
theorem len_leI:∀{l1 l2:List Int},l1.Nodup->(∀e∈l1,e∈l2)->l1.length<=l2.length
 | [],_,_,_=>Em _
 | a::l1,l2,nd,h=>by
  have b:=Bp.mp nd
  have c:=h a (Aa ..)
  have:=len_leI (l2:=l2.erase a) b.2 λe d=>(Oy (show e≠a from λz=>b.1 (by rw[<- z]; exact d))).mpr (h e (Ae _ d))
  rw[Mr c] at this
  have p:0<l2.length:=Kt c
  rw[Bg]
  omega
theorem pO:isSubtype (.type "set") (.type "set")=pure true:=by rw[isSubtype_type]; kernel_rfl
end NdS
namespace NdS
open PySem PyProof.Rows
section
variable{prog:Bz}{w:World}{A:Dm}{E:Value->Ap->Prop}{s:Ap}
theorem B6(v:Value){Q:Value->Ap->Prop}(h:Q (.ref s.heap.objs.size) { s with heap:=s.heap.push (Kn #[] 0 (.fresh 0 0 (!bt w))) }):Ru (model prog w) A (.call (.builtin "set.__new__") ⟨[.type "set",v],[]⟩) (wants Q E) s:=by
 have sub:=pO
 obtain ⟨a,g,d,b,os⟩:=s
 refine codeAny_of_tree (show wpAny _ A.in1 (do checkBuiltinCall "set.__new__" ⟨[.type "set",v],[]⟩; again (.builtin "set.__new__" ⟨[.type "set",v],[]⟩)) _ _ _ from ?_)
 refine Ah (wpAny_of_eq (PySem.F.newCall_set_1 v) (Au ⟨plainId_quiet PySem.F.plain_set_new _,Nz PySem.F.entry_set_new ?_⟩))
 rw[Vr PySem.F.plain_set_new _]
 unfold Builtin.«set.__new__» Builtin.Frozenset.newClass
 dsimp only
 wp_walk
 refine wpAny_askSetting (Au ?_)
 dsimp only
 simp only[newObj]
 exact Ah (wpAny_alloc (Au (Au h)))
end
def arrOf(w:World)(a:Addr)(b:Nat)(es:Array (Int×Value)):Array (Int×Value):=if bt w then pickOrder (w.params.setOrder a b) es else es
end NdS
namespace Nd
open PySem PySem.Spec PyProof.Rows L2 NdS
def GT(w:World)(a:Addr)(d:List Int)(h:Heap):Prop:=∃b c t,SetS w h a b c t/\∀x,x∈Q3 b↔x∈d
abbrev JF(w:World)(a:Addr)(b:List Int):HO:=.ext (GT w a b)
end Nd
namespace Nd
open PySem L2
def Vs(d:Addr)(H H':Hp):Prop:=∀b o,b≠d->H b=some o->H' b=some o
theorem Vs.trans{d:Addr}{H e f:Hp}(a:Vs d H e)(b:Vs d e f):Vs d H f:=λc o n h=>b c o n (a c o n h)
theorem Vs.upd{d:Addr}{H:Hp}{o:HO}:Vs d H (upd H d o):=λb o n h=>by rw[Ei n]; exact h
theorem V2{n:Nat}(h:n<=1000):n<=Bf:=Ma (iR h)
theorem gG{n:Nat}(h:n<=1000000):n<=Bf:=by rw[Le]; omega
theorem bQ(a b:Int)(h:0<b):0<=a % b/\a % b<b:=⟨Int.emod_nonneg _ (by omega),Int.emod_lt_of_pos _ h⟩
def Eg(h:Int)(ns:List Int):Prop:=ns.Pairwise (· < ·)/\∀x∈ns,0<=x/\x<h
theorem Eg.nil(h:Int):Eg h []:=⟨Eh,λx a=>by cases a⟩
theorem Eg.more{h:Int}{ns:List Int}(r:Eg h ns)(h0:0<=h):Eg (h+1) (ns++[h]) :=
 ⟨Bi.mpr ⟨r.1,Cn _ _,λa e b d=>by rw[Ab.mp d]; exact (r.2 a e).2⟩,λx c=>by
  rcases Ai.mp c with z | z
  ·have:=r.2 x z; omega
  ·have:=Ab.mp z; omega⟩
theorem Eg.up{h h':Int}{ns:List Int}(r:Eg h ns)(l:h<=h'):Eg h' ns:=⟨r.1,λx a=>by have:=r.2 x a; omega⟩
def Vl(H:Hp)(d:Addr)(c k:Int)(f:Bool):Prop:=H d=some (.lst [.int c,.int k,.bl f])
def tP:Sp:=λvs H Q _=>∃c:Int,vs=[.int c]/\∀(p:Addr) (f:Bool) (a:Hp),H p=none->Vl a p c 0 f->Pq H a->Q (.ref p) a
def G7:Sp:=λvs H Q _=>∃(d:Addr) (c k:Int) (f:Bool),vs=[.ref d]/\Vl H d c k f/\0<=k/\k<=1000000/\∀(r b:Int) (a:Hp),Vl a d b (k+1) f->Vs d H a->Q (.int r) a
def Bk(ns:List Int):Ad:=.tuple (ns.map Be)
theorem sH(ns:List Int):(Bk ns).depth<=1:=by
 have : (Bk ns).depth<=Bd (ns.map Be)+1:=by simp [Bk,Bm]
 rw[rM] at this
 exact this
def KN:List Int:=(Ck 60).map λi:Nat=>(i:Int)
theorem L0{x:Int}(h0:0<=x)(h1:x<60):x∈KN:=Bs.mpr ⟨x.toNat,Hj.mpr (by omega),by omega⟩
theorem R4(TD:List Ad):Ew (.list TD) (.list [])=TD.isEmpty:=by cases TD <;> simp [Ew,Ph]
theorem Yr:∀{l1 l2:List Int},l1.Pairwise (· < ·)->l2.Pairwise (· < ·)->(∀x,x∈l1↔x∈l2)->l1=l2
 | [],[],_,_,_=>rfl
 | [],b::l,_,_,h=>by have:=(h b).mpr Aa; cases this
 | a::l,[],_,_,h=>by have:=(h a).mp Aa; cases this
 | a::l1,b::l2,p1,p2,h=>by
  obtain ⟨d,g⟩:=Ay.mp p1
  obtain ⟨f,i⟩:=Ay.mp p2
  have e:a=b:=by
   rcases Aj.mp ((h a).mp Aa) with z | z
   ·exact z
   ·rcases Aj.mp ((h b).mpr Aa) with y | y
    ·exact y.symm
    ·have:=d b y; have:=f a z; omega
  subst e
  rw[Yr g i λx=>⟨λc=>?_,λc=>?_⟩]
  ·rcases Aj.mp ((h x).mp (Ae _ c)) with z | z
   ·have:=d x c; omega
   ·exact z
  ·rcases Aj.mp ((h x).mpr (Ae _ c)) with z | z
   ·have:=f x c; omega
   ·exact z
def A9(b:Bool):Str:=if b=true then "back" else "front"
def order{c:Type}(a b:c)(l:List c):Option Bool->List c
 | none=>l
 | some true=>[a,b]
 | some false=>[b,a]
structure TD(K:PySem.W.Frag)(H:Hp)(x:V)(d:Ad)(n m:Nat):Prop where
 rd:RdV K H x d
 fits:Ir 22 d
 nd:Fe d<=n
 dp:d.depth<=m
abbrev mX(K:PySem.W.Frag):List V->Hp->VK->Prop:=λb H Q=>∃p a,b=[V.ref p]/\(Sx K H p a\/Vm K H p a)/\∀l,H l=none->Q (.ref l) (upd H l (.lst a))
theorem uQ{X:Cx}:Nf X (.type "list") (mX X.K):=kQ
abbrev U1(K:PySem.W.Frag):List V->Hp->VK->Prop:=λb H Q=>∃p a,b=[V.ref p]/\((Sx K H p a/\∀l,H l=none->Q (.ref l) (upd H l (.tup a)))\/(Vm K H p a/\Q (.ref p) H))
theorem dN{X:Cx}:Nf X (.type "tuple") (U1 X.K):=gJ
end Nd
namespace DL
open PySem L2 Nd
def KL(K:PySem.W.Frag)(H:Hp)(a:Addr)(xs:List V):Prop :=
 (∃o,H a=some (.frz o (.lst xs)))\/∃(b:Array Value) (n:Nat),K.lookup a=some { cls:=.type "list",data:=.seq b n }/\b.size<=Bf/\Gw xs b.toList
def cW:Nat->Ad
 | 0=>.none
 | n+1=>.tuple [cW n]
def EC(a:List (List Int×Ad)):List (Ad×Ad):=(cW 100,.none)::a.map λp=>(Bk p.1,p.2)
def IQ(a:List (Int×Ad)):List (Ad×Ad):=(cW 100,.bool true)::a.map λp=>(.int p.1,p.2)
def IJ(a:Addr)(b:List (List Int×Ad)):List (Ad×Ad):=(cW 100,.int a)::b.map λp=>(Bk p.1,p.2)
def zJ(w:List Int):List bM:=w.map Vg
mutual
inductive RdF (K:PySem.W.Frag) (H:Hp):V->Ad->List Addr->Prop
 | non:RdF K H .non .none []
 | bl (b:Bool):RdF K H (.bl b) (.bool b) []
 | int (i:Int):RdF K H (.int i) (.int i) []
 | str (x:Str):RdF K H (.str x) (.str x) []
 | lst {a:Addr} {xs:List V} {ds:List Ad} {F:List Addr}:H a=some (.lst xs)->ds.length<=Bf->RdFs K H xs ds F->RdF K H (.ref a) (.list ds) (a::F)
 | tup {a:Addr} {xs:List V} {ds:List Ad} {F:List Addr}:H a=some (.tup xs)->ds.length<=Bf->RdFs K H xs ds F->RdF K H (.ref a) (.tuple ds) F
 | dic {a:Addr} {kv:List (List bM×V)} {ks:List (List Int×Ad)}:H a=some (.dT kv)->kv.map (·.1)=ks.map (λp=>zJ p.1)->RdFs K H (kv.map (·.2)) (ks.map (·.2)) []->RdF K H (.ref a) (.dict (EC ks)) [a]
 | dik {a:Addr} {kv:List (bM×V)} {ks:List (Int×Ad)}:H a=some (.dK kv)->kv.map (·.1)=ks.map (λp=>(Vg p.1:bM))->RdFs K H (kv.map (·.2)) (ks.map (·.2)) []->RdF K H (.ref a) (.dict (IQ ks)) [a]
 | dnm {a:Addr} {kv:List (List bM×V)} {ks:List (List Int×Ad)}:H a=some (.dT kv)->kv.map (·.1)=ks.map (λp=>zJ p.1)->RdFs K H (kv.map (·.2)) (ks.map (·.2)) []->RdF K H (.ref a) (.dict (IJ a ks)) [a]
inductive RdFs (K:PySem.W.Frag) (H:Hp):List V->List Ad->List Addr->Prop
 | nil:RdFs K H [] [] []
 | cons {x:V} {d:Ad} {xs:List V} {ds:List Ad} {F G:List Addr}:RdF K H x d F->RdFs K H xs ds G->RdFs K H (x::xs) (d::ds) (F++G)
end
def W6(o:HO):Prop:=(∃a,o=.tup a)\/∃b u,o=.frz b u
def Kp(F:List Addr)(H H':Hp):Prop:=∀b o,H b=some o->(b∈F\/W6 o)->H' b=some o
theorem Kp.of{F:List Addr}{H H':Hp}(s:Pq H H'):Kp F H H':=λb o e _=>s b o e
theorem Kp.sub{F G:List Addr}{H H':Hp}(k:Kp F H H')(h:∀a∈G,a∈F):Kp G H H':=λb o e z=>k b o e (z.imp (h b) id)
section
variable{K:PySem.W.Frag}{H H':Hp}
theorem KL.kp{a:Addr}{xs:List V}{F:List Addr}(h:KL K H a xs)(k:Kp F H H'):KL K H' a xs:=by
 rcases h with ⟨o,h⟩ | h
 ·exact .inl ⟨o,k _ _ h (.inr (.inr ⟨_,_,rfl⟩))⟩
 ·exact .inr h
theorem KL.sq{a:Addr}{xs:List V}(h:KL K H a xs):Sx K H a xs:=by
 rcases h with ⟨o,h⟩ | ⟨b,n,h,c,r⟩
 ·exact .inl (.inr ⟨o,h⟩)
 ·exact .inr ⟨_,b,n,h,rfl,rfl,rfl,c,r⟩
mutual
theorem RdF.kp:∀{v:V} {d:Ad} {F:List Addr},RdF K H v d F->Kp F H H'->RdF K H' v d F
 | _,_,_,.non,_=>.non
 | _,_,_,.bl b,_=>.bl b
 | _,_,_,.int i,_=>.int i
 | _,_,_,.str x,_=>.str x
 | _,_,_,.lst h l hs,k=>.lst (k _ _ h (.inl Aa)) l (RdFs.kp hs (k.sub λ_ z=>Ae _ z))
 | _,_,_,.tup h l hs,k=>.tup (k _ _ h (.inr (.inl ⟨_,rfl⟩))) l (RdFs.kp hs k)
 | _,_,_,.dic h e hs,k=>.dic (k _ _ h (.inl Aa)) e (RdFs.kp hs (k.sub λ_ z=>nomatch z))
 | _,_,_,.dik h e hs,k=>.dik (k _ _ h (.inl Aa)) e (RdFs.kp hs (k.sub λ_ z=>nomatch z))
 | _,_,_,.dnm h e hs,k=>.dnm (k _ _ h (.inl Aa)) e (RdFs.kp hs (k.sub λ_ z=>nomatch z))
theorem RdFs.kp:∀{v:List V} {d:List Ad} {F:List Addr},RdFs K H v d F->Kp F H H'->RdFs K H' v d F
 | _,_,_,.nil,_=>.nil
 | _,_,_,.cons h hs,k=>.cons (RdF.kp h (k.sub λ_ z=>Af _ z)) (RdFs.kp hs (k.sub λ_ z=>Ag _ z))
end
theorem Qf:∀n,(cW n).depth=n
 | 0=>by simp [cW,Bm]
 | n+1=>by
  have:=Qf n
  simp only[cW,Bm,Bd,this]
  omega
theorem yJ{a:List (Int×Ad)}:100<=(PyData.dict (IQ a)).depth:=by
 have:=Qf 100
 simp only[IQ,Bm,PyData.depthKv,this]
 omega
theorem yS{a:Addr}{b:List (List Int×Ad)}:100<=(PyData.dict (IJ a b)).depth:=by
 have:=Qf 100
 simp only[IJ,Bm,PyData.depthKv,this]
 omega
theorem zO{a:List (List Int×Ad)}:100<=(PyData.dict (EC a)).depth:=by
 have:=Qf 100
 simp only[EC,Bm,PyData.depthKv,this]
 omega
mutual
theorem RdF.rd:∀{v:V} {d:Ad} {F:List Addr},RdF K H v d F->d.depth<=90->RdV K H v d
 | _,_,_,.non,_=>.non
 | _,_,_,.bl b,_=>.bl b
 | _,_,_,.int i,_=>.int i
 | _,_,_,.str x,_=>.str x
 | _,_,_,.lst h l hs,z=>.lst (Sx.of h) (RdFs.rd hs (by simp only[Bm] at z; omega))
 | _,_,_,.tup h l hs,z=>.tup (Vm.of h) (RdFs.rd hs (by simp only[Bm] at z; omega))
 | _,_,_,.dic h e hs,z=>absurd (Br zO z) (by decide)
 | _,_,_,.dik h e hs,z=>absurd (Br yJ z) (by decide)
 | _,_,_,.dnm h e hs,z=>absurd (Br yS z) (by decide)
theorem RdFs.rd:∀{v:List V} {d:List Ad} {F:List Addr},RdFs K H v d F->Bd d<=90->RdVs K H v d
 | _,_,_,.nil,_=>.nil
 | _,_,_,.cons h hs,z=>.cons (RdF.rd h (by simp only[Bd] at z; omega)) (RdFs.rd hs (by simp only[Bd] at z; omega))
end
mutual
theorem RdF.dom:∀{v:V} {d:Ad} {F:List Addr},RdF K H v d F->∀a∈F,∃o,H a=some o
 | _,_,_,.non,_,z=>nomatch z
 | _,_,_,.bl b,_,z=>nomatch z
 | _,_,_,.int i,_,z=>nomatch z
 | _,_,_,.str x,_,z=>nomatch z
 | _,_,_,.lst h l hs,b,z=>by
  rcases Aj.mp z with rfl | z
  ·exact ⟨_,h⟩
  ·exact RdFs.dom hs b z
 | _,_,_,.tup h l hs,b,z=>RdFs.dom hs b z
 | _,_,_,.dic h e hs,b,z=>⟨_,Ab.mp z▸h⟩
 | _,_,_,.dik h e hs,b,z=>⟨_,Ab.mp z▸h⟩
 | _,_,_,.dnm h e hs,b,z=>⟨_,Ab.mp z▸h⟩
theorem RdFs.dom:∀{v:List V} {d:List Ad} {F:List Addr},RdFs K H v d F->∀a∈F,∃o,H a=some o
 | _,_,_,.nil,_,z=>nomatch z
 | _,_,_,.cons h hs,b,z=>by
  rcases Ai.mp z with z | z
  ·exact RdF.dom h b z
  ·exact RdFs.dom hs b z
end
theorem RdFs.len:∀{v:List V} {d:List Ad} {F:List Addr},RdFs K H v d F->v.length=d.length
 | _,_,_,.nil=>rfl
 | _,_,_,.cons _ t=>by rw[Bg,Bg,RdFs.len t]
theorem RdFs.get:∀{v:List V} {d:List Ad} {F:List Addr} {i:Nat} {e:Ad},RdFs K H v d F->d[i]? = some e->∃x G,v[i]? = some x/\RdF K H x e G/\G.Sublist F
 | _,_,_,_,_,.nil,z=>by simp at z
 | _,_,_,0,_,.cons h _,z=>by
  simp at z
  subst z
  exact ⟨_,_,rfl,h,List.sublist_append_left _ _⟩
 | _,_,_,i+1,e,.cons _ t,z=>by
  obtain ⟨x,G,c,a,b⟩:=RdFs.get (i:=i) (e:=e) t (by simpa using z)
  exact ⟨x,G,by simpa using c,a,b.trans (Ci _ _)⟩
theorem RdFs.app:∀{v w:List V} {d e:List Ad} {F G:List Addr},RdFs K H v d F->RdFs K H w e G->RdFs K H (v++w) (d++e) (F++G)
 | _,_,_,_,_,_,.nil,h=>h
 | _,_,_,_,_,_,.cons a t,h=>by
  rw[Bw]
  exact .cons a (RdFs.app t h)
theorem RdFs.snoc{v:List V}{d:List Ad}{F G:List Addr}{x:V}{e:Ad}(t:RdFs K H v d F)(h:RdF K H x e G):RdFs K H (v++[x]) (d++[e]) (F++G):=by
 have:=t.app (.cons h .nil)
 rw[Et] at this
 exact this
end
mutual
def imm:Ad->Bool
 | .list _=>false
 | .dict _=>false
 | .tuple a=>Cv a
 | _=>true
def Cv:List Ad->Bool
 | []=>true
 | x::xs=>imm x && Cv xs
end
theorem rS:∀{xs:List Ad},Cv xs=true↔∀x∈xs,imm x=true
 | []=>by simp [Cv]
 | x::xs=>by simp [Cv,rS (xs:=xs)]
theorem Sj{b:Type}{f:b->Ad}(h:∀a,imm (f a)=true)(l:List b):Cv (l.map f)=true:=rS.mpr λx c=>by
 obtain ⟨a,_,rfl⟩:=Bs.mp c
 exact h a
theorem Pn(ns:List Int):imm (Bk ns)=true:=by
 unfold Bk
 rw[imm]
 exact Sj (λ_=>by simp [imm]) ns
section
variable{K:PySem.W.Frag}{H H':Hp}
mutual
theorem RdF.imm:∀{v:V} {d:Ad} {F:List Addr},RdF K H v d F->DL.imm d=true->F=[]
 | _,_,_,.non,_=>rfl
 | _,_,_,.bl b,_=>rfl
 | _,_,_,.int i,_=>rfl
 | _,_,_,.str x,_=>rfl
 | _,_,_,.lst h l hs,k=>by simp [DL.imm] at k
 | _,_,_,.tup h l hs,k=>RdFs.imm hs (by simpa [DL.imm] using k)
 | _,_,_,.dic h e hs,k=>by simp [DL.imm] at k
 | _,_,_,.dik h e hs,k=>by simp [DL.imm] at k
 | _,_,_,.dnm h e hs,k=>by simp [DL.imm] at k
theorem RdFs.imm:∀{v:List V} {d:List Ad} {F:List Addr},RdFs K H v d F->Cv d=true->F=[]
 | _,_,_,.nil,_=>rfl
 | _,_,_,.cons h hs,k=>by
  rw[Cv,Fn] at k
  rw[RdF.imm h k.1,RdFs.imm hs k.2]
  rfl
end
end
inductive Md where
 | pk | sh | tp | ow
 deriving DecidableEq
inductive DV where
 | un
 | dat (m:Md) (d:Ad)
 | drw
 | dT (kvs:List (List bM×Ad))
 | val (v:V)
 | scr (ns:List Int)
 | acc (ds:List Ad)
 | grd (Hc:Hp)
 | tpl (xs:List V)
structure DS where
 sl:List DV
 n:Nat
structure Ent where
 v:Option V
 x:DV
 F:List Addr
def Kz:DV->Bool
 | .dat .pk _=>true
 | _=>false
def HG:DV->Bool
 | .drw=>true
 | _=>false
def CW:DV->Bool
 | .drw=>true
 | .acc _=>true
 | .dT _=>true
 | .grd _=>true
 | _=>false
def cells(e:Ent):List Addr:=match e.x with
 | .dat .ow _=>e.F
 | .dat .tp _=>e.F.take 1
 | .drw=>e.F
 | .dT _=>e.F
 | .acc _=>e.F.take 1
 | .grd _=>e.F
 | _=>[]
theorem Fv(e:Ent):∀a∈cells e,a∈e.F:=by
 obtain ⟨v,x,F⟩:=e
 intro a h
 cases x with
 | un=>exact nomatch h
 | val _=>exact nomatch h
 | scr _=>exact nomatch h
 | drw=>exact h
 | dT _=>exact h
 | grd _=>exact h
 | tpl _=>exact nomatch h
 | acc _=>exact (Jl _ _).subset h
 | dat m d =>
  cases m with
  | pk=>exact nomatch h
  | sh=>exact nomatch h
  | tp=>exact (Jl _ _).subset h
  | ow=>exact h
def Wf(e f:Ent):Prop:=((Kz f.x=false\/CW e.x=true)->∀a∈cells e,a∉f.F)/\((Kz e.x=false\/CW f.x=true)->∀a∈cells f,a∉e.F)
theorem Wf.symm{e f:Ent}(h:Wf e f):Wf f e:=⟨h.2,h.1⟩
def Il(K:PySem.W.Frag)(H:Hp)(n:Nat)(e:Ent):Prop:=match e.x with
 | .un=>e.F=[]
 | .dat m d=>∃v,e.v=some v/\RdF K H v d e.F/\(m=.ow->e.F.Nodup)/\(m=.tp->∀a l,e.F=a::l->a∉l)
 | .drw=>∃h c k f,e.v=some (.ref h)/\e.F=[h]/\Vl H h c k f/\0<=k/\k<=(n:Int)
 | .dT b=>∃a i,e.v=some (.ref a)/\e.F=[a]/\H a=some (.dT i)/\i.map (·.1)=b.map (·.1)/\RdFs K H (i.map (·.2)) (b.map (·.2)) []
 | .val v=>e.v=some v/\e.F=[]
 | .scr p=>∃a,e.v=some (.ref a)/\e.F=[]/\KL K H a (p.map V.int)/\p.length<=63
 | .acc j=>∃a g G,e.v=some (.ref a)/\e.F=a::G/\H a=some (.lst g)/\RdFs K H g j G/\j.length<=Bf/\a∉G
 | .grd q=>∀a∈e.F,∃o,q a=some o/\H a=some o
 | .tpl g=>∃t,e.v=some (.ref t)/\H t=some (.tup g)/\e.F=[]
structure At(K:PySem.W.Frag)(H0:Hp)(X:Addr->Prop)(n:Nat)(E:List Ent)(H:Hp):Prop where
 ok:∀e∈E,Il K H n e
 sep:E.Pairwise Wf
 new:∀e∈E,∀a∈cells e,H0 a=none\/(X a/\HG e.x=true)
 same:∀b o,¬ X b->H0 b=some o->H b=some o
 dom:∀b o,H0 b=some o->∃o',H b=some o'
 xd:∀b,X b->H0 b≠none/\∃c k f,Vl H b c k f/\0<=k/\k<=(n:Int)
section
variable{K:PySem.W.Frag}{i H H':Hp}{X:Addr->Prop}{n n':Nat}{E E' S T:List Ent}{e f:Ent}
theorem At.perm(h:At K i X n E H)(p:E.Perm E'):At K i X n E' H :=
 ⟨λe c=>h.ok e (p.mem_iff.mpr c),(p.pairwise_iff λ{a b}=>Wf.symm).mp h.sep,λe c=>h.new e (p.mem_iff.mpr c),h.same,h.dom,h.xd⟩
theorem At.sub(h:At K i X n E H)(p:E'.Sublist E):At K i X n E' H :=
 ⟨λe a=>h.ok e (p.subset a),h.sep.sublist p,λe a=>h.new e (p.subset a),h.same,h.dom,h.xd⟩
theorem At.drop(h:At K i X n (S++e::T) H):At K i X n (S++T) H:=h.sub ((Cs S).append (Cq _ _))
theorem zU:(S++e::T).Perm (e::(S++T)):=Du
theorem At.mid(h:At K i X n (S++e::T) H):At K i X n (e::(S++T)) H:=h.perm zU
theorem At.tomid(h:At K i X n (e::(S++T)) H):At K i X n (S++e::T) H:=h.perm zU.symm
theorem Il.dom(h:Il K H n e):∀a∈e.F,∃o,H a=some o:=by
 obtain ⟨v,x,F⟩:=e
 intro a ha
 cases x with
 | un=>rw[show F=[] from h] at ha; cases ha
 | val _=>rw[show F=[] from h.2] at ha; cases ha
 | scr _ =>
  obtain ⟨_,_,g,_⟩:=h
  rw[show F=[] from g] at ha; cases ha
 | dat m d =>
  obtain ⟨w,_,h,_⟩:=h
  obtain ⟨i,z⟩:=h.dom a ha
  exact ⟨_,z⟩
 | drw =>
  obtain ⟨l,c,k,f,_,g,h,_⟩:=h
  rw[show F=[l] from g] at ha
  rw[Ab.mp ha]
  exact ⟨_,h⟩
 | grd s =>
  obtain ⟨o,_,z⟩:=h a ha
  exact ⟨o,z⟩
 | tpl i =>
  obtain ⟨_,_,_,g⟩:=h
  rw[show F=[] from g] at ha; cases ha
 | dT q =>
  obtain ⟨b,p,_,g,h,_⟩:=h
  rw[show F=[b] from g] at ha
  rw[Ab.mp ha]
  exact ⟨_,h⟩
 | acc r =>
  obtain ⟨b,p,G,_,g,h,j,_⟩:=h
  rw[show F=b::G from g] at ha
  rcases Aj.mp ha with rfl | ha
  ·exact ⟨_,h⟩
  ·obtain ⟨i,z⟩:=j.dom a ha
   exact ⟨_,z⟩
theorem Il.kp(h:Il K H n e)(k:Kp e.F H H')(D:n<=n'):Il K H' n' e:=by
 obtain ⟨v,x,F⟩:=e
 cases x with
 | un=>exact h
 | val _=>exact h
 | scr _ =>
  obtain ⟨a,g,i,j,p⟩:=h
  exact ⟨a,g,i,j.kp k,p⟩
 | dat m d =>
  obtain ⟨w,g,i,j⟩:=h
  exact ⟨w,g,i.kp k,j⟩
 | drw =>
  obtain ⟨u,c,y,f,g,q,i,j,p⟩:=h
  have l:F=[u]:=q
  subst l
  exact ⟨u,c,y,f,g,rfl,k _ _ i (.inl Aa),j,by omega⟩
 | tpl E =>
  obtain ⟨t,g,i,j⟩:=h
  exact ⟨t,g,k _ _ i (.inr (.inl ⟨_,rfl⟩)),j⟩
 | grd C =>
  intro a s
  obtain ⟨o,g,i⟩:=h a s
  exact ⟨o,g,k _ _ i (.inl s)⟩
 | dT A =>
  obtain ⟨b,r,g,q,i,j,p⟩:=h
  have l:F=[b]:=q
  subst l
  exact ⟨b,r,g,rfl,k _ _ i (.inl Aa),j,p.kp (k.sub λ_ z=>nomatch z)⟩
 | acc B =>
  obtain ⟨b,r,G,g,q,i,j,p⟩:=h
  have l:F=b::G:=q
  subst l
  exact ⟨b,r,G,g,rfl,k _ _ i (.inl Aa),j.kp (k.sub λ_ z=>Ae _ z),p⟩
theorem At.grow(h:At K i X n E H)(s:Pq H H')(g:n<=n'):At K i X n' E H' :=
 ⟨λe j=>(h.ok e j).kp (Kp.of s) g,h.sep,h.new,λb o a e=>s _ _ (h.same b o a e),λb o e=>let ⟨o',q⟩:=h.dom b o e; ⟨o',s _ _ q⟩,λb d=>let ⟨z,c,k,f,h1,h2,h3⟩:=h.xd b d; ⟨z,c,k,f,s _ _ h1,h2,by omega⟩⟩
theorem At.free(h:At K i X n E H){a:Addr}(b:H a=none):∀e∈E,a∉e.F:=λe c z=>by
 obtain ⟨o,q⟩:=(h.ok e c).dom a z
 rw[b] at q; cases q
theorem At.push(h:At K i X n E H)(ok:Il K H n e)(c:∀f∈E,Wf e f)(b:∀a∈cells e,i a=none\/(X a/\HG e.x=true)):At K i X n (e::E) H :=
 ⟨λg hg=>by
  rcases Aj.mp hg with rfl | hg
  ·exact ok
  ·exact h.ok g hg,Ay.mpr ⟨c,h.sep⟩,λg hg=>by
  rcases Aj.mp hg with rfl | hg
  ·exact b
  ·exact h.new g hg,h.same,h.dom,h.xd⟩
theorem At.new0(h:At K i X n E H){p:Addr}(a:H p=none):i p=none:=by
 cases q:i p with
 | none=>rfl
 | some o =>
  obtain ⟨b,z⟩:=h.dom p o q
  rw[a] at z; cases z
theorem L4{v:Option V}{m:Md}{d:Ad}:Wf ⟨v,.dat m d,[]⟩ f:=by
 refine ⟨λ_ a b=>?_,λ_ a _=>Bt⟩
 have:=Fv _ a b
 cases this
theorem At.pushI(h:At K i X n (S++T) H){v:V}{m:Md}{d:Ad}(r:RdF K H v d []):At K i X n (S++⟨some v,.dat m d,[]⟩::T) H :=
 (h.push (e:=⟨some v,.dat m d,[]⟩) ⟨v,rfl,r,λ_=>Do,λ_ a l z=>nomatch z⟩ (λf _=>L4) (λa b=>nomatch Fv _ a b)).tomid
def wk:Md->Md->Bool
 | _,.pk=>true
 | .pk,_=>false
 | _,.sh=>true
 | .sh,_=>false
 | _,.tp=>true
 | .tp,.ow=>false
 | .ow,.ow=>true
theorem lW{v:Option V}{m b:Md}{d:Ad}{F:List Addr}(w:wk m b=true):∀a∈cells ⟨v,.dat b d,F⟩,a∈cells ⟨v,.dat m d,F⟩:=by
 intro a c
 cases m <;> cases b <;> first | exact absurd w (by decide) | exact c | exact absurd c Bt | exact (Jl 1 F).subset c
theorem xX{b:Type}{F:List b}(h:F.Nodup):∀a l,F=a::l->a∉l:=λa l e=>by
 subst e
 exact (Bp.mp h).1
theorem Il.wk{v:Option V}{m a:Md}{d:Ad}{F:List Addr}(w:wk m a=true)(h:Il K H n ⟨v,.dat m d,F⟩):Il K H n ⟨v,.dat a d,F⟩:=by
 obtain ⟨u,c,g,b,f⟩:=h
 refine ⟨u,c,g,λe=>?_,λe=>?_⟩
 ·subst e
  cases m <;> first | exact absurd w (by decide) | exact b rfl
 ·subst e
  cases m <;> first | exact absurd w (by decide) | exact f rfl | exact xX (b rfl)
theorem Wf.wk{v:Option V}{m c:Md}{d:Ad}{F:List Addr}(w:wk m c=true)(h:Wf ⟨v,.dat m d,F⟩ f):Wf ⟨v,.dat c d,F⟩ f:=by
 refine ⟨λhp a b=>?_,λhp a b=>?_⟩
 ·rcases hp with hp | hp
  ·exact h.1 (.inl hp) a (lW w a b)
  ·cases hp
 ·rcases hp with hp | hp
  ·refine h.2 (.inl ?_) a b
   cases m <;> cases c <;> first | rfl | exact absurd w (by decide) | exact absurd hp (by show ¬ (true=false); decide)
  ·exact h.2 (.inr hp) a b
theorem At.wk{v:Option V}{m b:Md}{d:Ad}{F:List Addr}(w:wk m b=true)(h:At K i X n (⟨v,.dat m d,F⟩::E) H):At K i X n (⟨v,.dat b d,F⟩::E) H:=by
 have g:=Ay.mp h.sep
 refine (h.sub (Cq _ _)).push ((h.ok _ Aa).wk w) (λf e=>(g.1 f e).wk w) λa c=>?_
 rcases h.new _ Aa a (lW w a c) with z | z
 ·exact .inl z
 ·cases z.2
end
abbrev DE:=DS->(DV->DS->Prop)->Prop
abbrev DT:=DS->(Bool->DS->Prop)->Prop
abbrev DA:=DS->(List DV->DS->Prop)->Prop
structure DEnds where
 nx:DS->Prop
 rt:DV->DS->Prop
 bk:DS->Prop:=λ_=>False
 ct:DS->Prop:=λ_=>False
abbrev DB:=DEnds->DS->Prop
abbrev DG:=DV->DS->(DS->Prop)->Prop
abbrev x9:=List DV->DS->(DS->Prop)->Prop
def vs(S:List Ent):L2.St:=S.map Ent.v
def Sl(S:List Ent)(δ:DS):Prop:=S.map Ent.x=δ.sl
section
variable(K:PySem.W.Frag)
def LE(g:DE):TE:=λd H Q=>∃(f:Hp) (X:Addr->Prop) (S T:List Ent) (b:DS) (P:DV->DS->Prop),vs S=d/\Sl S b/\At K f X b.n (S++T) H/\g b P /\
 ∀x a v F c e,vs c=d->Sl c a->At K f X a.n (c++⟨some v,x,F⟩::T) e->P x a->Q v e
def LT(dt:DT):TT:=λe H Q=>∃(g:Hp) (X:Addr->Prop) (S T:List Ent) (c:DS) (P:Bool->DS->Prop),vs S=e/\Sl S c/\At K g X c.n (S++T) H/\dt c P /\
 ∀b a d f,vs d=e->Sl d a->At K g X a.n (d++T) f->P b a->Q b f
def LA(j:DA):TA:=λf H Q=>∃(i:Hp) (X:Addr->Prop) (S T:List Ent) (b:DS) (P:List DV->DS->Prop),vs S=f/\Sl S b/\At K i X b.n (S++T) H/\j b P /\
 ∀h a c e d g,vs d=f->Sl d a->c.map Ent.x=h->c.map Ent.v=e.map some->At K i X a.n (d++(c++T)) g->P h a->Q e g
def LS(g:DB):TS:=λD h H=>∃(d:Hp) (X:Addr->Prop) (S T:List Ent) (f:DS) (P:DEnds),vs S=h/\Sl S f/\(∀e∈T,Kz e.x=false)/\At K d X f.n (S++T) H/\g P f /\
 (∀a b c,Sl b a->At K d X a.n (b++T) c->P.nx a->D.nx (vs b) c) /\
 (∀x a v F b c,Sl b a->At K d X a.n (b++⟨some v,x,F⟩::T) c->P.rt x a->D.rt v c) /\
 (∀a b c,Sl b a->At K d X a.n (b++T) c->P.bk a->D.bk (vs b) c) /\
 (∀a b c,Sl b a->At K d X a.n (b++T) c->P.ct a->D.ct (vs b) c)
def LG(g:DG):TG:=λv f H Q=>∃(e:Hp) (X:Addr->Prop) (S T:List Ent) (b:DS) (x:DV) (F:List Addr) (P:DS->Prop),vs S=f/\Sl S b/\At K e X b.n (S++⟨some v,x,F⟩::T) H/\g x b P /\
 ∀a c d,Sl c a->At K e X a.n (c++T) d->P a->Q (vs c) d
def KY(i:x9):O1:=λg h H Q=>∃(f:Hp) (X:Addr->Prop) (S T c:List Ent) (b:DS) (P:DS->Prop),vs S=h/\Sl S b/\c.map Ent.v=g.map some/\At K f X b.n (S++(c++T)) H/\i (c.map Ent.x) b P /\
 ∀a d e,Sl d a->At K f X a.n (d++T) e->P a->Q (vs d) e
end
abbrev Gq(X:Cx)(e:Expr)(a:DE):Prop:=PE X e (LE X.K a)
abbrev lR(X:Cx)(e:Expr)(dt:DT):Prop:=PT X e (LT X.K dt)
abbrev AY(X:Cx)(e:Expr)(dt:DT):Prop:=PW X e (LT X.K dt)
abbrev rK(X:Cx)(es:List Expr)(a:DA):Prop:=PA X es (LA X.K a)
abbrev gA(X:Cx)(st:Stmt)(a:DB):Prop:=PS X st (LS X.K a)
abbrev aS(X:Cx)(st:List Stmt)(a:DB):Prop:=uU X st (LS X.K a)
abbrev HY(X:Cx)(b:Expr)(a:DG):Prop:=PG X b (LG X.K a)
abbrev Q5(X:Cx)(b:List Expr)(a:x9):Prop:=BV X b (KY X.K a)
theorem PE.imp{X:Cx}{e:Expr}{t t':TE}(h:PE X e t)(k:∀b H Q,t' b H Q->t b H Q):PE X e t':=λa s b H Q I q=>h a s b H Q I (k b H Q q)
theorem PT.imp{X:Cx}{e:Expr}{t t':TT}(h:PT X e t)(k:∀b H Q,t' b H Q->t b H Q):PT X e t':=λa s b H Q I q=>h a s b H Q I (k b H Q q)
theorem PW.imp{X:Cx}{e:Expr}{t t':TT}(h:PW X e t)(k:∀b H Q,t' b H Q->t b H Q):PW X e t':=λc a s b H Q I q=>h c a s b H Q I (k b H Q q)
theorem PA.imp{X:Cx}{e:List Expr}{t t':TA}(h:PA X e t)(k:∀b H Q,t' b H Q->t b H Q):PA X e t':=λc a s b H Q I q=>h c a s b H Q I (k b H Q q)
theorem PG.imp{X:Cx}{e:Expr}{t t':TG}(h:PG X e t)(k:∀v b H Q,t' v b H Q->t v b H Q):PG X e t':=λa s b H v u Q I r q=>h a s b H v u Q I r (k v b H Q q)
theorem BV.imp{X:Cx}{e:List Expr}{t t':O1}(h:BV X e t)(k:∀v b H Q,t' v b H Q->t v b H Q):BV X e t':=λa s b H v u Q I r q=>h a s b H v u Q I r (k v b H Q q)
section
variable{K:PySem.W.Frag}{H:Hp}{v:V}{F:List Addr}
theorem RdF.int_inv{i:Int}(h:RdF K H v (.int i) F):v=.int i/\F=[]:=by cases h; exact ⟨rfl,rfl⟩
theorem RdF.bl_inv{i:Bool}(h:RdF K H v (.bool i) F):v=.bl i/\F=[]:=by cases h; exact ⟨rfl,rfl⟩
theorem RdF.str_inv{i:Str}(h:RdF K H v (.str i) F):v=.str i/\F=[]:=by cases h; exact ⟨rfl,rfl⟩
theorem RdF.list_inv{b:List Ad}(h:RdF K H v (.list b) F):∃a xs G,v=.ref a/\H a=some (.lst xs)/\RdFs K H xs b G/\F=a::G/\b.length<=Bf:=by
 cases h with
 | lst h l c=>exact ⟨_,_,_,rfl,h,c,rfl,l⟩
theorem RdF.tup_inv{b:List Ad}(h:RdF K H v (.tuple b) F):∃a xs,v=.ref a/\H a=some (.tup xs)/\RdFs K H xs b F/\b.length<=Bf:=by
 cases h with
 | tup h l c=>exact ⟨_,_,rfl,h,c,l⟩
end
section
variable{K:PySem.W.Frag}{a H H':Hp}{X:Addr->Prop}{n:Nat}{E S T:List Ent}{v:V}{m:Md}{d:Ad}{F:List Addr}
theorem At.told(h:At K a X n E H)(b:⟨some v,.dat m d,F⟩∈E):RdF K H v d F:=by
 obtain ⟨w,c,e,_⟩:=h.ok _ b
 cases c
 exact e
theorem mem_mid{e:Ent}:e∈S++e::T:=Ag _ Aa
theorem Hs{e f:Ent}:f∈S++e::f::T:=Ag _ (Ae _ Aa)
theorem At.drop2{e f:Ent}(h:At K a X n (S++e::f::T) H):At K a X n (S++T) H:=h.drop.drop
theorem At.dropL{As:List Ent}(h:At K a X n (S++(As++T)) H):At K a X n (S++T) H:=h.sub ((Cs S).append (Ci As T))
end
def mW:Md->Md
 | .ow=>.pk
 | .tp=>.pk
 | m=>m
def CF(i:Nat):DE:=λa P=>match a.sl[i]? with
 | some (.dat m d)=>P (.dat (mW m) d) a
 | _=>False
def dC(d:Ad):DE:=λa P=>P (.dat .ow d) a
theorem Gk{S:List Ent}{δ:DS}{i:Nat}{x:DV}(h:Sl S δ)(e:δ.sl[i]? = some x):∃a,S[i]? = some a/\a.x=x:=by
 unfold Sl at h
 rw[<- h,Bo] at e
 cases q:S[i]? with
 | none=>rw[q] at e; cases e
 | some a=>rw[q] at e; exact ⟨a,rfl,Bu e⟩
theorem Jc{S:List Ent}{i:Nat}{e:Ent}(h:S[i]? = some e):(vs S)[i]? = some e.v:=by
 unfold vs
 rw[Bo,h]
 rfl
theorem At.look{K:PySem.W.Frag}{k H:Hp}{X:Addr->Prop}{n:Nat}{S T:List Ent}{u:Option V}{v:V}{m:Md}{d:Ad}{F:List Addr}(h:At K k X n (S++T) H)(l:⟨u,.dat m d,F⟩∈S)(q:u=some v):At K k X n (S++⟨some v,.dat (mW m) d,F⟩::T) H:=by
 subst q
 obtain ⟨g,c,rfl⟩:=List.append_of_mem l
 have j:((g++⟨some v,.dat m d,F⟩::c)++T).Perm (⟨some v,.dat m d,F⟩::(g++(c++T))):=by
  rw[Bw,Eu]
  exact Du
 have i:=h.perm j
 have o:=Ay.mp i.sep
 refine (h.push (e:=⟨some v,.dat (mW m) d,F⟩) ?_ (λf hf=>?_) λa b=>?_).tomid
 ·obtain ⟨w,r,p,_⟩:=i.ok _ Aa
  refine ⟨w,r,p,λz=>?_,λz=>?_⟩ <;> cases m <;> cases z
 ·refine ⟨λ_ a b=>?_,λhq a b=>?_⟩
  ·cases m <;> exact nomatch b
  ·rcases Aj.mp (j.mem_iff.mp hf) with rfl | hf
   ·rcases hq with hq | hq
    ·cases m <;> first | cases hq; done | exact nomatch b
    ·cases hq
   ·refine (o.1 f hf).2 ?_ a b
    rcases hq with hq | hq
    ·refine .inl ?_
     cases m <;> first | rfl | exact hq
    ·exact .inr hq
 ·cases m <;> exact nomatch b
section
variable{X:Cx}{e:Expr}
theorem Ax{i:Nat}(h:PE X e (Lj i)):Gq X e (CF i):=by
 refine PE.imp h λq H Q h=>?_
 obtain ⟨r,Y,S,T,n,P,rfl,c,g,b,k⟩:=h
 unfold CF at b
 split at b
 ·rename_i m d p
  obtain ⟨a,l,o⟩:=Gk c p
  have j:a∈S:=Ao l
  obtain ⟨u,x,F⟩:=a
  subst o
  obtain ⟨v,f,_⟩:=g.ok _ (Af _ j)
  refine ⟨v,by rw[Jc l]; exact congrArg some f,k _ n v F S H rfl c (g.look j f) b⟩
 ·exact b.elim
theorem kH{v:V}{d:Ad}(h:PE X e (tC v))(r:∀H,RdF X.K H v d []):Gq X e (dC d):=by
 refine PE.imp h λg H Q h=>?_
 obtain ⟨i,Y,S,T,a,P,rfl,b,c,f,k⟩:=h
 exact k _ a v [] S H rfl b (c.pushI (r H)) f
theorem Cy{i j pos}:Gq X (.Constant (.int i) j pos) (dC (.int i)):=kH Hi λ_=>.int i
theorem Lm{i j pos}:Gq X (.Constant (.bool i) j pos) (dC (.bool i)):=kH GD λ_=>.bl i
theorem CY{i j pos}:Gq X (.Constant (.str i) j pos) (dC (.str i)):=kH CA λ_=>.str i
theorem kN{j pos}:Gq X (.Constant .none j pos) (dC .none):=kH DH λ_=>.non
end
def FG(b:DE):DE:=λc P=>b c λx a=>match x with
 | .dat _ d=>imm d=true/\P (.dat .ow d) a
 | _=>False
theorem Mv{X:Cx}{e:Expr}{c:DE}(h:Gq X e c):Gq X e (FG c):=by
 refine PE.imp h λt H Q h=>?_
 obtain ⟨s,Y,S,T,f,P,rfl,i,j,l,k⟩:=h
 refine ⟨s,Y,S,T,f,_,rfl,i,j,l,λx b v F n g o q a p=>?_⟩
 cases x with
 | dat m d =>
  have r:=a.told mem_mid
  obtain rfl:=r.imm p.1
  exact k _ b v [] n g o q (a.drop.pushI r) p.2
 | _=>exact p.elim
def zM(i:Nat):DE:=λa P=>match a.sl[i]? with
 | some (.dat m d)=>P (.dat m d) ⟨a.sl.set i .un,a.n⟩
 | _=>False
theorem Ro{a:Type}:∀{l:List a} {i:Nat} {x y:a},l[i]? = some x->(y::l).Perm (x::l.set i y)
 | [],i,x,y,h=>by simp at h
 | z::l,0,x,y,h=>by
  simp at h
  subst h
  exact Ds _ _ _
 | z::l,i+1,x,y,h=>by
  have b:=Ro (l:=l) (i:=i) (x:=x) (y:=y) (by simpa using h)
  rw[Qv]
  exact (Ds z y l).trans ((b.cons z).trans (Ds x z _))
theorem Xd{X:Cx}{e:Expr}{i:Nat}(h:PE X e (Lj i)):Gq X e (zM i):=by
 refine PE.imp h λI H Q h=>?_
 obtain ⟨G,Y,S,T,C,P,rfl,q,s,g,k⟩:=h
 unfold zM at g
 split at g
 ·rename_i m d z
  obtain ⟨c,b,E⟩:=Gk q z
  have w:c∈S:=Ao b
  obtain ⟨u,x,F⟩:=c
  subst E
  obtain ⟨v,D,A⟩:=s.ok _ (Af _ w)
  have o:u=some v:=D
  subst o
  refine ⟨v,by rw[Jc b],k _ _ v F (S.set i ⟨some v,.un,[]⟩) H ?_ ?_ ?_ g⟩
  ·unfold vs
   rw[Hv]
   apply Hk
   intro j
   rw[Ey]
   split
   ·rename_i p
    subst p
    rw[Bo,b]
    split
    ·rfl
    ·rename_i r
     rw[Ac] at r
     exact absurd (An.mp b).1 r
   ·rfl
  ·unfold Sl at q ⊢
   rw[Hv,q]
  ·have t:=s.push (e:=⟨some v,.un,[]⟩) (show Il X.K H C.n ⟨some v,.un,[]⟩ from rfl) (λf _=>⟨λ_ a l=>(nomatch l),λ_ a _=>Bt⟩) (λa l=>(nomatch l))
   have B:(⟨some v,.un,[]⟩::(S++T)).Perm ((S.set i ⟨some v,.un,[]⟩)++⟨some v,.dat m d,F⟩::T):=by
    rw[<- Eu]
    exact ((Ro (y:=(⟨some v,.un,[]⟩ : Ent)) b).append_right T).trans (by rw[Eu]; exact List.perm_middle.symm)
   exact t.perm B
 ·exact g.elim
abbrev D2:=DV->DV->(DV->Prop)->Prop
def uP(K:PySem.W.Frag)(r:R2)(rd:D2):Prop:=∀(b:Hp) (X:Addr->Prop) (n:Nat) (S T:List Ent) (x y:DV) (v w:V) (F G:List Addr) (H:Hp) (Q:VK) (P:DV->Prop),
 At K b X n (S++⟨some w,y,G⟩::⟨some v,x,F⟩::T) H->rd x y P->(∀z u c a,At K b X n (S++⟨some u,z,c⟩::T) a->P z->Q u a)->r v w H Q
def aN(rd:D2)(e c:DE):DE:=λd P=>e d λx a=>c a λy b=>rd x y λz=>P z b
theorem op_le{K:PySem.W.Frag}{r:R2}{rd:D2}{l i:DE}(o:uP K r rd):∀g H Q,LE K (aN rd l i) g H Q->EO r (LE K l) (LE K i) g H Q:=by
 intro g H Q h
 obtain ⟨c,Y,S,T,I,P,rfl,J,M,E,k⟩:=h
 refine ⟨c,Y,S,T,I,_,rfl,J,M,E,λx b v F B O t A e C=>?_⟩
 refine ⟨c,Y,B,⟨some v,x,F⟩::T,b,_,t,A,e,C,λy a w G j D N s d m=>?_⟩
 exact o c Y a.n j T x y v w F G D Q _ d m λz u q p f L=>k z a u q j p N s f L
section
variable{X:Cx}{a b:Expr}{d c:DE}{pos:Pos}{r:R2}{rd:D2}
theorem Xk{op:Operator}(f:Yh X (Lp op) r)(o:uP X.K r rd)(e:Gq X a d)(hb:Gq X b c):Gq X (.BinOp a op b pos) (aN rd d c):=PE.imp (Lo f e hb) (op_le o)
theorem zX{op:CmpOp}(f:Yh X (Jg op) r)(o:uP X.K r rd)(e:Gq X a d)(hb:Gq X b c)(g:Hz op b=false):Gq X (.Compare a [op] [b] pos) (aN rd d c):=PE.imp (vD f e hb g) (op_le o)
theorem FE(f:R6 X r)(o:uP X.K r rd)(e:Gq X a d)(hb:Gq X b c)(g:kY b):Gq X (.Subscript a b pos) (aN rd d c):=PE.imp (Sy f e hb g) (op_le o)
end
def AE(C:Int->Int->Prop)(g:Int->Int->Ad):D2:=λx y P=>match x,y with
 | .dat _ (.int i),.dat _ (.int j)=>C i j/\P (.dat .ow (g i j))
 | _,_=>False
def jP(g:Int->Int->Ad):D2:=λx y P=>match x,y with
 | .dat _ (.int i),.dat _ (.int j)=>P (.dat .ow (g i j))
 | _,_=>False
section
variable{K:PySem.W.Frag}
theorem M8{C:Int->Int->Prop}{g:Int->Int->V}{g':Int->Int->Ad}(h:∀i j H,RdF K H (g i j) (g' i j) []):uP K (rI C g) (AE C g'):=by
 intro c X n S T x y v w F G H Q P b a k
 unfold AE at a
 split at a
 ·obtain ⟨rfl,_⟩:=(b.told Hs).int_inv
  obtain ⟨rfl,_⟩:=(b.told mem_mid).int_inv
  exact ⟨_,_,rfl,rfl,a.1,k _ _ [] H (b.drop2.pushI (h _ _ H)) a.2⟩
 ·exact a.elim
theorem gL{g:Int->Int->V}{g':Int->Int->Ad}(h:∀i j H,RdF K H (g i j) (g' i j) []):uP K (L1 g) (jP g'):=by
 intro c X n S T x y v w F G H Q P b a k
 unfold jP at a
 split at a
 ·obtain ⟨rfl,_⟩:=(b.told Hs).int_inv
  obtain ⟨rfl,_⟩:=(b.told mem_mid).int_inv
  exact ⟨_,_,rfl,rfl,k _ _ [] H (b.drop2.pushI (h _ _ H)) a⟩
 ·exact a.elim
end
abbrev rdAdd:D2:=jP λi j=>.int (i+j)
abbrev rdSub:D2:=jP λi j=>.int (i - j)
abbrev rdMul:D2:=AE N8 λi j=>.int (i * j)
abbrev rdDiv:D2:=AE CU λi j=>.int (i / j)
abbrev rdMod:D2:=AE (λ_ j=>0<j) λi j=>.int (i % j)
abbrev rdShl:D2:=AE T2 λi j=>.int (i * 2 ^ j.toNat)
abbrev rdLt:D2:=jP λi j=>.bool (decide (i<j))
abbrev rdLe:D2:=jP λi j=>.bool (decide (i<=j))
abbrev rdGt:D2:=jP λi j=>.bool (decide (j<i))
abbrev rdGe:D2:=jP λi j=>.bool (decide (j<=i))
section
variable{X:Cx}{a b:Expr}{d c:DE}{pos:Pos}
theorem Tv(e:Gq X a d)(hb:Gq X b c):Gq X (.BinOp a .Add b pos) (aN rdAdd d c):=Xk eV (gL λ_ _ _=>.int _) e hb
theorem CV(e:Gq X a d)(hb:Gq X b c):Gq X (.BinOp a .Sub b pos) (aN rdSub d c):=Xk AO (gL λ_ _ _=>.int _) e hb
theorem AN(e:Gq X a d)(hb:Gq X b c):Gq X (.BinOp a .Mult b pos) (aN rdMul d c):=Xk Yt (M8 λ_ _ _=>.int _) e hb
theorem I0(e:Gq X a d)(hb:Gq X b c):Gq X (.BinOp a .FloorDiv b pos) (aN rdDiv d c):=Xk lM (M8 λ_ _ _=>.int _) e hb
theorem Mf(e:Gq X a d)(hb:Gq X b c):Gq X (.BinOp a .Mod b pos) (aN rdMod d c):=Xk Zj (M8 λ_ _ _=>.int _) e hb
theorem BF(e:Gq X a d)(hb:Gq X b c):Gq X (.BinOp a .LShift b pos) (aN rdShl d c):=Xk CT (M8 λ_ _ _=>.int _) e hb
end
def kX(a:Bool):D2:=λx y P=>match x,y with
 | .dat _ d,.dat _ e=>d.depth<=60/\e.depth<=60/\P (.dat .ow (.bool (match a with | true=>!Ew d e | false=>Ew d e)))
 | _,_=>False
def vZ(a:Bool):D2:=λx y P=>match x,y with
 | .dat _ d,.dat _ (.list es)=>Bd es<=60/\d.depth<=60/\P (.dat .ow (.bool (match a with | true=>!(es.any λe=>Ew e d) | false=>es.any λe=>Ew e d)))
 | .dat _ d,.dat _ (.tuple es)=>Bd es<=60/\d.depth<=60/\P (.dat .ow (.bool (match a with | true=>!(es.any λe=>Ew e d) | false=>es.any λe=>Ew e d)))
 | _,_=>False
section
variable{K:PySem.W.Frag}
theorem Y3:uP K (EM K) (kX false):=by
 intro c X n S T x y v w F G H Q P b a k
 unfold kX at a
 split at a
 ·exact ⟨_,_,(b.told Hs).rd (Br a.1 (by decide)),(b.told mem_mid).rd (Br a.2.1 (by decide)),a.1,k _ _ [] H (b.drop2.pushI (.bl _)) a.2.2⟩
 ·exact a.elim
theorem FN:uP K (GG K) (kX true):=by
 intro c X n S T x y v w F G H Q P b a k
 unfold kX at a
 split at a
 ·exact ⟨_,_,(b.told Hs).rd (Br a.1 (by decide)),(b.told mem_mid).rd (Br a.2.1 (by decide)),a.1,k _ _ [] H (b.drop2.pushI (.bl _)) a.2.2⟩
 ·exact a.elim
theorem V8{d:Bool}:uP K (BX K d) (vZ d):=by
 intro i X n S T x y v w F G H Q P c b k
 unfold vZ at b
 split at b
 ·obtain ⟨a,g,h,rfl,f,e,_,_⟩:=(c.told mem_mid).list_inv
  refine ⟨a,g,_,_,rfl,.inl (Sx.of f),(c.told Hs).rd (Br b.2.1 (by decide)),e.rd (Br b.1 (by decide)),b.1,?_⟩
  cases d with
  | true=>exact k _ _ [] H (c.drop2.pushI (.bl _)) b.2.2
  | false=>exact k _ _ [] H (c.drop2.pushI (.bl _)) b.2.2
 ·obtain ⟨a,g,rfl,f,e,_⟩:=(c.told mem_mid).tup_inv
  refine ⟨a,g,_,_,rfl,.inr (Vm.of f),(c.told Hs).rd (Br b.2.1 (by decide)),e.rd (Br b.1 (by decide)),b.1,?_⟩
  cases d with
  | true=>exact k _ _ [] H (c.drop2.pushI (.bl _)) b.2.2
  | false=>exact k _ _ [] H (c.drop2.pushI (.bl _)) b.2.2
 ·exact b.elim
end
section
variable{X:Cx}{a b:Expr}{d c:DE}{pos:Pos}
theorem iB(f:X.A.units+64<cLine)(e:Gq X a d)(hb:Gq X b c):Gq X (.Compare a [.Eq] [b] pos) (aN (kX false) d c):=zX (zQ f) Y3 e hb (Tx _)
theorem EW(g:X.A.units+64<cLine)(e:Gq X a d)(hb:Gq X b c)(f:Hz .In b=false:=by with_unfolding_all rfl):Gq X (.Compare a [.In] [b] pos) (aN (vZ false) d c):=zX (BZ g) V8 e hb f
end
def Ow:Md->Md
 | .ow=>.ow
 | .tp=>.sh
 | m=>m
theorem At.part{K:PySem.W.Frag}{l H:Hp}{X:Addr->Prop}{n:Nat}{S T:List Ent}{v w:V}{m:Md}{d e:Ad}{F G:List Addr}(h:At K l X n (S++⟨some v,.dat m d,F⟩::T) H)(r:RdF K H w e G)(g:G.Sublist F):At K l X n (S++⟨some w,.dat (Ow m) e,G⟩::T) H:=by
 have c:=h.mid
 have i:=Ay.mp c.sep
 obtain ⟨s,t,q,o,p⟩:=c.ok _ Aa
 have k:∀a∈cells ⟨some w,.dat (Ow m) e,G⟩,a∈cells ⟨some v,.dat m d,F⟩:=λa b=>by
  cases m with
  | ow=>exact g.subset b
  | tp=>exact nomatch b
  | sh=>exact nomatch b
  | pk=>exact nomatch b
 refine (h.drop.push (e:=⟨some w,.dat (Ow m) e,G⟩) ⟨w,rfl,r,λz=>?_,λz=>?_⟩ (λf j=>?_) λa b=>?_).tomid
 ·cases m with
  | ow=>exact (o rfl).sublist g
  | _=>cases z
 ·cases m <;> cases z
 ·refine ⟨λhp a b=>(i.1 f j).1 ?_ a (k a b),λhp a b z=>(i.1 f j).2 ?_ a b (g.subset z)⟩
  ·rcases hp with hp | hp
   ·exact .inl hp
   ·cases hp
  ·rcases hp with hp | hp
   ·refine .inl ?_
    cases m <;> first | rfl | exact hp
   ·exact .inr hp
 ·rcases c.new _ Aa a (k a b) with z | z
  ·exact .inl z
  ·cases z.2
def L7:D2:=λx y P=>match x,y with
 | .dat m (.list ds),.dat _ (.int i)=>∃d,aQ ds i=some d/\P (.dat (Ow m) d)
 | .dat m (.tuple ds),.dat _ (.int i)=>∃d,aQ ds i=some d/\P (.dat (Ow m) d)
 | .dat _ (.str z),.dat _ (.int i)=>z.length<=Bf/\∃c,aQ z.cps.toList i=some c/\P (.dat .ow (.str ⟨#[c]⟩))
 | _,_=>False
theorem A0{K:PySem.W.Frag}{H:Hp}{xs:List V}{a:List Ad}{F:List Addr}{i:Int}{d:Ad}(r:RdFs K H xs a F)(h:aQ a i=some d):∃x G,aQ xs i=some x/\RdF K H x d G/\G.Sublist F:=by
 unfold aQ at h ⊢
 rw[r.len]
 cases e:fV a.length i with
 | none=>rw[e] at h; cases h
 | some j =>
  rw[e] at h
  exact r.get h
theorem At.swap{K:PySem.W.Frag}{a H:Hp}{X:Addr->Prop}{n:Nat}{S T:List Ent}{e f:Ent}(h:At K a X n (S++e::f::T) H):At K a X n (S++f::e::T) H:=h.perm ((Ii S).append (Ds f e T))
theorem GS{K:PySem.W.Frag}:uP K (KG K) L7:=by
 intro z X n S T x y v w F G H Q P b f k
 unfold L7 at f
 split at f
 ·obtain ⟨d,g,p⟩:=f
  obtain ⟨rfl,_⟩:=(b.told mem_mid).int_inv
  have r:=b.told Hs
  have e:=b.drop
  obtain ⟨a,t,u,rfl,o,j,s,_⟩:=r.list_inv
  obtain ⟨x,h,m,l,i⟩:=A0 j g
  subst s
  exact .inl ⟨_,_,_,_,rfl,rfl,Sx.of o,m,k _ _ h H (e.part l (i.trans (Cq _ _))) p⟩
 ·obtain ⟨d,g,p⟩:=f
  obtain ⟨rfl,_⟩:=(b.told mem_mid).int_inv
  have r:=b.told Hs
  have e:=b.drop
  obtain ⟨a,t,rfl,o,j,_⟩:=r.tup_inv
  obtain ⟨x,h,m,l,i⟩:=A0 j g
  exact .inr (.inl ⟨_,_,_,_,rfl,rfl,Vm.of o,m,k _ _ h H (e.part l i) p⟩)
 ·obtain ⟨q,c,g,p⟩:=f
  obtain ⟨rfl,_⟩:=(b.told mem_mid).int_inv
  obtain ⟨rfl,_⟩:=(b.told Hs).str_inv
  exact .inr (.inr ⟨_,_,_,rfl,rfl,q,g,k _ _ [] H (b.drop2.pushI (.str _)) p⟩)
 ·exact f.elim
theorem Jr{X:Cx}{a b:Expr}{d c:DE}{pos:Pos}(e:Gq X a d)(hb:Gq X b c)(f:kY b:=by intro _ _; rfl):Gq X (.Subscript a b pos) (aN L7 d c):=FE CS GS e hb f
def gR:Md->Md
 | .ow=>.ow
 | .pk=>.pk
 | _=>.tp
def Xh(i:Bool)(m:Md)(a:List Ad)(P:DV->Prop):Prop:=match i with
 | true=>Cv a=true/\P (.dat .ow (.list a))
 | false=>P (.dat (gR m) (.list a))
def dA(i:Bool)(m:Md)(a:List Ad)(P:DV->Prop):Prop:=match i with
 | true=>Cv a=true/\P (.dat .ow (.tuple a))
 | false=>P (.dat (Ow m) (.tuple a))
section
variable{K:PySem.W.Frag}{c H:Hp}{X:Addr->Prop}{n:Nat}{S T:List Ent}{v w:V}{m:Md}{d e:Ad}{F G:List Addr}{p:Addr}{xs:List V}{b:List Ad}{P:DV->Prop}{i:Bool}
theorem At.newI(h:At K c X n (S++T) H)(r:RdFs K H xs b G)(s:Cv b=true)(k:b.length<=Bf)(g:H p=none)(m:Md):At K c X n (S++⟨some (.ref p),.dat m (.list b),[p]⟩::T) (upd H p (.lst xs)):=by
 obtain rfl:=r.imm s
 have i:=Fs g (.lst xs)
 have o:=h.grow (n':=n) i (Ak _)
 refine (o.push (e:=⟨some (.ref p),.dat m (.list b),[p]⟩) ⟨_,rfl,.lst Dq k (r.kp (Kp.of i)),λ_=>Bp.mpr ⟨Bt,Do⟩,λ_ a l z=>by cases z; exact Bt⟩ (λf q=>?_) λa d=>?_).tomid
 ·have j:=h.free g f q
  refine ⟨λ_ a d z=>?_,λ_ a d z=>?_⟩
  ·have:=Fv _ a d
   rw[Ab.mp this] at z
   exact j z
  ·rw[Ab.mp z] at d
   exact j (Fv _ _ d)
 ·have:=Fv _ a d
  rw[Ab.mp this]
  exact .inl (h.new0 g)
theorem At.newL(h:At K c X n (S++⟨some v,.dat m d,F⟩::T) H)(r:RdFs K H xs b G)(s:G.Sublist F)(B:b.length<=Bf)(k:H p=none)(q:Xh i m b P):∃z F',At K c X n (S++⟨some (.ref p),z,F'⟩::T) (upd H p (.lst xs))/\P z:=by
 cases i with
 | true=>exact ⟨_,_,h.drop.newI r q.1 B k .ow,q.2⟩
 | false =>
  have q:P (.dat (gR m) (.list b)):=q
  refine ⟨_,p::G,?_,q⟩
  have y:=Fs k (.lst xs)
  have j:=h.mid
  have w:=Ay.mp j.sep
  obtain ⟨E,I,_,C,_⟩:=j.ok _ Aa
  have D:=h.drop.grow (n':=n) y (Ak _)
  have u:p∉F:=j.free k _ Aa
  have o:p∉G:=λz=>u (s.subset z)
  have A:∀a∈cells ⟨some (.ref p),.dat (gR m) (.list b),p::G⟩,a=p\/(a∈cells ⟨some v,.dat m d,F⟩):=λa g=>by
   cases m with
   | ow =>
    rcases Aj.mp g with z | z
    ·exact .inl z
    ·exact .inr (s.subset z)
   | tp=>exact .inl (Ab.mp g)
   | sh=>exact .inl (Ab.mp g)
   | pk=>exact nomatch g
  refine (D.push (e:=⟨some (.ref p),.dat (gR m) (.list b),p::G⟩) ⟨_,rfl,.lst Dq B (r.kp (Kp.of y)),λz=>?_,λz a l e=>?_⟩ (λf t=>?_) λa g=>?_).tomid
  ·cases m with
   | ow=>exact Bp.mpr ⟨o,(C rfl).sublist s⟩
   | _=>cases z
  ·cases e
   exact o
  ·have x:=j.free k f (Ae _ t)
   refine ⟨λhq a g z=>?_,λhq a g z=>?_⟩
   ·rcases A a g with rfl | hc
    ·exact x z
    ·refine (w.1 f t).1 ?_ a hc z
     rcases hq with hq | hq
     ·exact .inl hq
     ·cases hq
   ·rcases Aj.mp z with rfl | z
    ·exact x (Fv _ _ g)
    ·refine (w.1 f t).2 ?_ a g (s.subset z)
     rcases hq with hq | hq
     ·refine .inl ?_
      cases m <;> first | rfl | exact hq
     ·exact .inr hq
  ·rcases A a g with rfl | hc
   ·exact .inl (j.new0 k)
   ·rcases j.new _ Aa a hc with z | z
    ·exact .inl z
    ·cases z.2
theorem At.newT(h:At K c X n (S++⟨some v,.dat m d,F⟩::T) H)(r:RdFs K H xs b G)(j:G.Sublist F)(f:b.length<=Bf)(g:H p=none)(q:dA i m b P):∃z F',At K c X n (S++⟨some (.ref p),z,F'⟩::T) (upd H p (.tup xs))/\P z:=by
 have a:=Fs g (.tup xs)
 have e:=h.grow (n':=n) a (Ak _)
 cases i with
 | true =>
  obtain rfl:=r.imm q.1
  exact ⟨_,[],e.drop.pushI (.tup Dq f (r.kp (Kp.of a))),q.2⟩
 | false=>exact ⟨_,G,e.part (.tup Dq f (r.kp (Kp.of a))) j,q⟩
theorem At.oldT{t:Addr}(h:At K c X n (S++⟨some v,.dat m d,F⟩::T) H)(r:RdFs K H xs b G)(f:G.Sublist F)(e:b.length<=Bf)(a:H t=some (.tup xs))(q:dA i m b P):∃z F',At K c X n (S++⟨some (.ref t),z,F'⟩::T) H/\P z:=by
 cases i with
 | true =>
  obtain rfl:=r.imm q.1
  exact ⟨_,[],h.drop.pushI (.tup a e r),q.2⟩
 | false=>exact ⟨_,G,h.part (.tup a e r) f,q⟩
end
def AJ:DA:=λa P=>P [] a
def Y0(d:DE)(f:DA):DA:=λc P=>d c λx a=>f a λe b=>P (x::e) b
section
variable{X:Cx}{e:Expr}{es:List Expr}{a:DE}{b:DA}
theorem Bh:rK X [] AJ:=by
 refine PA.imp Mg λe H Q h=>?_
 obtain ⟨f,Y,S,T,a,P,rfl,b,c,d,k⟩:=h
 exact k [] a [] [] S H rfl b rfl rfl c d
theorem Ar(p:Gq X e a)(z:rK X es b)(A:Bl (e::es) X.env=(false,eval e X.env)::Bl es X.env:=by rfl):rK X (e::es) (Y0 a b):=by
 refine PA.imp (Hq p z A) λJ H Q h=>?_
 obtain ⟨i,Y,S,T,B,P,rfl,C,G,y,k⟩:=h
 refine ⟨i,Y,S,T,B,_,rfl,C,G,y,λx c v F t K n r f u=>?_⟩
 refine ⟨i,Y,t,⟨some v,x,F⟩::T,c,_,n,r,f,u,λs g q o j w I m D E d l=>?_⟩
 refine k (x::s) g (⟨some v,x,F⟩::q) (v::o) j w I m (by rw[Aw,D]) (by rw[Aw,Aw,E]) (d.perm ((Ii j).append ?_)) l
 exact Du
end
def allOw:List DV->Bool
 | []=>true
 | .dat .ow _::xs=>allOw xs
 | _=>false
def noPk:List DV->Bool
 | []=>true
 | .dat .pk _::_=>false
 | .dat _ _::xs=>noPk xs
 | _=>false
def datas:List DV->Option (List Ad)
 | []=>some []
 | .dat _ d::xs=>(datas xs).map (d::·)
 | _=>none
def pkMd(top:Md)(xs:List DV):Md:=if allOw xs=true then .ow else if noPk xs=true then top else .pk
section
variable{K:PySem.W.Frag}{c H:Hp}{X:Addr->Prop}{n:Nat}{S T As:List Ent}
theorem Xc:∀{As:List Ent} {us:List V} {a:List Ad},As.map Ent.v=us.map some->datas (As.map Ent.x)=some a->(∀e∈As,Il K H n e)->RdFs K H us a (As.flatMap Ent.F)
 | [],us,a,e,h,_=>by
  cases us with
  | nil=>cases h; exact .nil
  | cons _ _=>cases e
 | ent::As,us,a,e,h,ok=>by
  cases us with
  | nil=>cases e
  | cons u us =>
   rw[Aw,Aw] at e
   obtain ⟨j,k⟩:=Oc e
   obtain ⟨v,x,F⟩:=ent
   have c:v=some u:=j
   subst c
   rw[Aw] at h
   cases x with
   | dat m d =>
    rw[show datas (DV.dat m d::As.map Ent.x)=(datas (As.map Ent.x)).map (d::·) from rfl] at h
    cases q:datas (As.map Ent.x) with
    | none=>rw[q] at h; cases h
    | some l =>
     rw[q] at h
     cases h
     obtain ⟨w,i,b,_⟩:=ok _ Aa
     cases i
     rw[Rw]
     exact .cons b (Xc k q λf g=>ok f (Ae _ g))
   | _=>cases h
theorem Rj:∀{As:List Ent},allOw (As.map Ent.x)=true->∀e∈As,∃d,e.x=.dat .ow d
 | [],_,_,h=>nomatch h
 | ⟨v,x,F⟩::As,h,e,he=>by
  rw[Aw] at h
  have a:(∃d,x=.dat .ow d)/\allOw (As.map Ent.x)=true:=by
   cases x with
   | dat m d=>cases m <;> first | exact ⟨⟨d,rfl⟩,h⟩ | cases h
   | _=>cases h
  rcases Aj.mp he with rfl | he
  ·exact a.1
  ·exact Rj a.2 e he
theorem mG:∀{As:List Ent},noPk (As.map Ent.x)=true->∀e∈As,Kz e.x=false
 | [],_,_,h=>nomatch h
 | ⟨v,x,F⟩::As,h,e,he=>by
  rw[Aw] at h
  have a:Kz x=false/\noPk (As.map Ent.x)=true:=by
   cases x with
   | dat m d=>cases m <;> first | exact ⟨rfl,h⟩ | cases h
   | _=>cases h
  rcases Aj.mp he with rfl | he
  ·exact a.1
  ·exact mG a.2 e he
theorem eB:∀{As:List Ent},(∀e∈As,∃d,e.x=.dat .ow d)->(∀e∈As,Il K H n e)->As.Pairwise Wf->(As.flatMap Ent.F).Nodup
 | [],_,_,_=>Do
 | ent::As,ho,ok,hs=>by
  rw[Rw]
  have i:=Ay.mp hs
  obtain ⟨v,x,F⟩:=ent
  obtain ⟨d,m⟩:=ho _ Aa
  have c:x=.dat .ow d:=m
  subst c
  obtain ⟨w,_,_,k,_⟩:=ok _ Aa
  refine Dh.mpr ⟨k rfl,eB (λe g=>ho e (Ae _ g)) (λe g=>ok e (Ae _ g)) i.2,λa l b h z=>?_⟩
  subst z
  obtain ⟨f,j,h⟩:=Bv.mp h
  obtain ⟨o,c⟩:=ho f (Ae _ j)
  exact (i.1 f j).1 (.inl (by rw[c]; rfl)) a l h
theorem At.pack{v:V}{d:Ad}{N:List Addr}{H':Hp}{top:Md}(h:At K c X n (S++(As++T)) H)(s:Pq H H')(J:∀a∈N,H a=none)(C:N.Nodup)(o:(top=.tp/\N.length=1)\/(top=.sh/\N=[]))(r:RdF K H' v d (N++As.flatMap Ent.F)):At K c X n (S++⟨some v,.dat (pkMd top (As.map Ent.x)) d,N++As.flatMap Ent.F⟩::T) H':=by
 have M:(S++(As++T)).Perm (As++(S++T)):=by
  rw[<- Bw,<- Bw]
  exact Fo.append_right T
 have A:=h.perm M
 have E:=Bi.mp A.sep
 have u:=(h.dropL).grow (n':=n) s (Ak _)
 have D:∀a∈N,∀f∈As++(S++T),a∉f.F:=λa i f p=>A.free (J a i) f p
 have j:∀a∈N,a∉As.flatMap Ent.F:=λa i z=>by
  obtain ⟨f,p,z⟩:=Bv.mp z
  exact D a i f (Af _ p) z
 have L:∀a∈cells ⟨some v,.dat (pkMd top (As.map Ent.x)) d,N++As.flatMap Ent.F⟩,a∈N\/(allOw (As.map Ent.x)=true/\∃f∈As,a∈cells f):=λa i=>by
  unfold pkMd at i
  by_cases k:allOw (As.map Ent.x)=true
  ·rw[if_pos k] at i
   rcases Ai.mp i with z | z
   ·exact .inl z
   ·obtain ⟨f,p,z⟩:=Bv.mp z
    obtain ⟨I,m⟩:=Rj k f p
    refine .inr ⟨k,f,p,?_⟩
    unfold cells
    rw[m]
    exact z
  ·rw[if_neg k] at i
   by_cases y:noPk (As.map Ent.x)=true
   ·rw[if_pos y] at i
    rcases o with ⟨rfl,u⟩ | ⟨rfl,rfl⟩
    ·match N,u,i with
     | [b],_,i=>exact .inl i
    ·exact nomatch i
   ·rw[if_neg y] at i
    exact nomatch i
 refine (u.push (e:=⟨some v,.dat (pkMd top (As.map Ent.x)) d,N++As.flatMap Ent.F⟩) ⟨_,rfl,r,λz=>?_,λz a l e=>?_⟩ (λf p=>?_) λa i=>?_).tomid
 ·have k:allOw (As.map Ent.x)=true:=by
   unfold pkMd at z
   by_cases k:allOw (As.map Ent.x)=true
   ·exact k
   ·rw[if_neg k] at z
    split at z
    ·rcases o with ⟨rfl,_⟩ | ⟨rfl,_⟩ <;> cases z
    ·cases z
  refine Dh.mpr ⟨C,eB (Rj k) (λe Q=>A.ok e (Af _ Q)) E.1,λa i b P e=>?_⟩
  subst e
  exact j a i P
 ·have O:top=.tp:=by
   unfold pkMd at z
   split at z
   ·cases z
   ·split at z
    ·exact z
    ·cases z
  subst O
  rcases o with ⟨_,u⟩ | ⟨u,_⟩
  ·match N,u,e,j with
   | [b],_,e,j =>
    cases e
    exact j a Aa
  ·cases u
 ·have w:f∈As++(S++T):=Ag _ p
  refine ⟨λhq a i z=>?_,λhq a i z=>?_⟩
  ·rcases L a i with G | ⟨_,g,t,B⟩
   ·exact D a G f w z
   ·refine (E.2.2 g t f p).1 ?_ a B z
    rcases hq with hq | hq
    ·exact .inl hq
    ·cases hq
  ·rcases Ai.mp z with z | z
   ·exact D a z f w (Fv _ _ i)
   ·obtain ⟨g,t,z⟩:=Bv.mp z
    refine (E.2.2 g t f p).2 ?_ a i z
    rcases hq with hq | hq
    ·refine .inl ?_
     have q:Kz (.dat (pkMd top (As.map Ent.x)) d)=false:=hq
     unfold pkMd at q
     by_cases k:allOw (As.map Ent.x)=true
     ·obtain ⟨I,m⟩:=Rj k g t
      rw[m]
      rfl
     ·rw[if_neg k] at q
      by_cases y:noPk (As.map Ent.x)=true
      ·exact mG y g t
      ·rw[if_neg y] at q
       cases q
    ·exact .inr hq
 ·rcases L a i with G | ⟨_,g,t,B⟩
  ·exact .inl (A.new0 (J a G))
  ·rcases A.new g (Af _ t) a B with z | z
   ·exact .inl z
   ·obtain ⟨I,m⟩:=Rj (by assumption) g t
    rw[m] at z
    cases z.2
end
def HC(e:DA):DE:=λd P=>e d λc a=>match datas c with
 | some b=>b.length<=1000/\P (.dat (pkMd .sh c) (.tuple b)) a
 | none=>False
def EK(e:DA):DE:=λd P=>e d λc a=>match datas c with
 | some b=>b.length<=1000/\P (.dat (pkMd .tp c) (.list b)) a
 | none=>False
section
variable{X:Cx}{es:List Expr}{b:DA}{pos:Pos}
theorem Qo{x1}(h:rK X es b):Gq X (.Tuple es x1 pos) (HC b):=by
 refine PE.imp (qG h) λF H Q h=>?_
 obtain ⟨o,Y,S,T,v,P,rfl,w,A,u,k⟩:=h
 refine ⟨o,Y,S,T,v,_,rfl,w,A,u,λm c D j l C g n x y a p=>?_⟩
 cases q:datas m with
 | none=>rw[q] at p; exact p.elim
 | some f =>
  rw[q] at p
  subst x
  have r:=Xc y q λe s=>a.ok e (Ag _ (Af _ s))
  have E:=r.len
  have B:f.length<=Bf:=sz p.1
  refine ⟨by omega,λt i=>?_⟩
  have d:=Fs i (.tup j)
  exact k _ c _ _ l _ g n (a.pack (N:=[]) d (λ_ z=>nomatch z) Do (.inr ⟨rfl,rfl⟩) (.tup Dq B (r.kp (Kp.of d)))) p.2
theorem Ft(h:rK X es b):Gq X (.List es pos) (EK b):=by
 refine PE.imp (pR h) λG H Q h=>?_
 obtain ⟨s,Y,S,T,w,P,rfl,x,B,v,k⟩:=h
 refine ⟨s,Y,S,T,w,_,rfl,x,B,v,λn d E l m D j o y A c p=>?_⟩
 cases q:datas n with
 | none=>rw[q] at p; exact p.elim
 | some i =>
  rw[q] at p
  subst y
  have r:=Xc A q λe u=>c.ok e (Ag _ (Af _ u))
  have F:=r.len
  have C:i.length<=Bf:=sz p.1
  refine ⟨by omega,λt g=>?_⟩
  have f:=Fs g (.lst l)
  exact k _ d _ _ m _ j o (c.pack (N:=[t]) f (λa z=>by rw[Ab.mp z]; exact g) (Bp.mpr ⟨Bt,Do⟩) (.inl ⟨rfl,rfl⟩) (.lst Dq C (r.kp (Kp.of f)))) p.2
end
end DL
namespace Nd
open PySem PySem.Spec PyProof.Rows L2
section
variable{X:Cx}
def Y6:V->Option Int->Option Int->Hp->VK->Prop:=λx lo d H Q=>∃a c,x=.ref a/\H a=some (.tup c)/\∀p b,b p=some (.tup (dY c lo d))->Pq H b->Q (.ref p) b
theorem O0:Z7 X Y6:=by
 intro e s y H x v o t lo l z Q I w n j k h
 obtain ⟨a,b,rfl,c,q⟩:=h
 have m:Vm X.K H a b:=Vm.of c
 cases w
 by_cases f:HT.sIx b.length 0 lo=0/\HT.sIx b.length b.length l=b.length
 ·obtain ⟨g,r,i,A⟩:=I.tuple m
  have d:g.toArray.size=b.length:=by rw[Av]; exact r.length.symm
  refine ⟨"tuple",_,Dg.lookup,i.typeIs,?_⟩
  refine Vn i n j k (by rw[d]; exact f) ⟨.ref a,H,I,rfl,q a H ?_ (Pq.refl _)⟩
  unfold dY
  rw[f.1,f.2,Kf,Nat.sub_zero,Dr]
  exact c
 ·exact BG e s y H (.ref a) (.ref a) o t lo l z Q I rfl n j k ⟨a,b,rfl,m,f,λp u=>q p _ Dq (Fs u _)⟩
end
end Nd
namespace Ts
open PySem PyProof.Rows
def Uv:Bool->Keyed->Array Keyed->Nat->Nat->Nat->StateT Ce Sem (Option Nat):=sortPriv% PySem.Builtin.gallop
structure Cmp(prog:Bz)(w:World)(A:Dm)(s:Ap)(kd:Mo)(Ok:Keyed->Prop)(blt:Keyed->Keyed->Bool):Prop where
 run:∀(x y:Keyed) (Q:Bool->Ap->Prop) (E:Value->Ap->Prop),Ok x->Ok y->Q (blt x y) s->wpAny (model prog w) A (keyLt' kd x.1 y.1) Q E s
 irr:∀x,blt x x=false
 tr:∀x y z,blt x y=true->blt y z=true->blt x z=true
 neg:∀x y z,blt x z=true->blt x y=true\/blt y z=true
def le(blt:Keyed->Keyed->Bool)(x y:Keyed):Prop:=blt y x=false
section
variable{prog:Bz}{w:World}{A:Dm}{s:Ap}{d:Mo}{Ok:Keyed->Prop}{blt:Keyed->Keyed->Bool}
theorem Cmp.refl(C:Cmp prog w A s d Ok blt)(x:Keyed):le blt x x:=C.irr x
theorem Cmp.ofLt(C:Cmp prog w A s d Ok blt){x y:Keyed}(h:blt x y=true):le blt x y:=by
 unfold le
 cases q:blt y x with
 | false=>rfl
 | true=>have:=C.tr _ _ _ h q; rw[C.irr] at this; cases this
theorem Cmp.trans(C:Cmp prog w A s d Ok blt){x y z:Keyed}(h1:le blt x y)(a:le blt y z):le blt x z:=by
 unfold le at *
 cases q:blt z x with
 | false=>rfl
 | true =>
  rcases C.neg _ y _ q with h | h
  ·rw[a] at h; cases h
  ·rw[h1] at h; cases h
theorem Cmp.ltLe(C:Cmp prog w A s d Ok blt){x y z:Keyed}(h1:blt x y=true)(a:le blt y z):blt x z=true:=by
 unfold le at a
 rcases C.neg _ z _ h1 with h | h
 ·exact h
 ·rw[a] at h; cases h
theorem Cmp.leLt(C:Cmp prog w A s d Ok blt){x y z:Keyed}(h1:le blt x y)(a:blt y z=true):blt x z=true:=by
 unfold le at h1
 rcases C.neg _ x _ a with h | h
 ·rw[h1] at h; cases h
 ·exact h
variable{E:Value->Ap->Prop}
structure Kept(st st':Ce):Prop where
 kind:kindOf st'=kindOf st
 arr:arrOf st'=arrOf st
 pend:Bj st'=Bj st
 fail:Mn st'=Mn st
theorem Kept.refl(st:Ce):Kept st st:=⟨rfl,rfl,rfl,rfl⟩
theorem Kept.trans{a b c:Ce}(h:Kept a b)(k:Kept b c):Kept a c:=⟨k.kind.trans h.kind,k.arr.trans h.arr,k.pend.trans h.pend,k.fail.trans h.fail⟩
theorem oK(C:Cmp prog w A s d Ok blt){st:Ce}{x y:Keyed}{Q:Option Bool->Ce->Prop}(a:kindOf st=d)(b:Ok x)(c:Ok y)(h:Q (some (blt x y)) st):wpS (model prog w) A E s (lt' x y) Q st:=by
 rw[lt'_eq]
 refine Bb (Oq ?_)
 rw[a]
 exact Bb (wpS_lift (wpAny_attempt (C.run x y _ _ b c ⟨rfl,Bn h⟩)))
theorem Ha{st:Ce}{xs:Array Keyed}{i:Nat}{p:Keyed}{Q:Keyed->Ce->Prop}(h:xs[i]? = some p)(q:Q p st):wpS (model prog w) A E s (elem' xs i) Q st:=by
 rw[elem'_eq,h]
 exact Bn q
def Ut(left:Bool)(a:Keyed)(b:Array Keyed)(base i:Nat):StateT Ce Sem (Option Bool):=do
 let x <- elem' b (base+i)
 if left then lt' x a else return (<- lt' a x).map (!·)
def tY(left:Bool)(c:Keyed)(a:Array Keyed)(base n b d:Nat):StateT Ce Sem (Option Nat):=do
 let mut lo:=b
 let mut hi:=d
 for _ in [0:n] do
  if lo ≥ hi then break
  let mid:=lo+(hi - lo) / 2
  let some up <- Ut left c a base mid | return none
  if up then lo:=mid+1 else hi:=mid
 return some hi
theorem qU(left:Bool)(b:Keyed)(a:Array Keyed)(base n hint:Nat):Uv left b a base n hint=(do
  let some right <- Ut left b a base hint | return none
  let mut last:=0
  let mut ofs:=1
  if right then
   let top:=n - hint
   for _ in [0:n] do
    if ofs ≥ top then break
    let some up <- Ut left b a base (hint+ofs) | return none
    if !up then break
    last:=ofs
    ofs:=2 * ofs+1
   tY left b a base n (hint+last+1) (hint+min ofs top)
  else
   let top:=hint+1
   for _ in [0:n] do
    if ofs ≥ top then break
    let some got <- Ut left b a base (hint - ofs) | return none
    if got then break
    last:=ofs
    ofs:=2 * ofs+1
   tY left b a base n (hint+1 - min ofs top) (hint - last)):=rfl
def Ic(blt:Keyed->Keyed->Bool)(left:Bool)(a x:Keyed):Bool:=if left then blt x a else !blt a x
structure Row(Ok:Keyed->Prop)(arr:Array Keyed)(base n:Nat)(el:Nat->Keyed):Prop where
 at_:∀i,i<n->arr[base+i]? = some (el i)
 ok:∀i,i<n->Ok (el i)
theorem Um(C:Cmp prog w A s d Ok blt){st:Ce}{left:Bool}{a:Keyed}{b:Array Keyed}{base n i:Nat}{f:Nat->Keyed}(R:Row Ok b base n f)(ok:Ok a)(e:kindOf st=d)(c:i<n){Q:Option Bool->Ce->Prop}(h:Q (some (Ic blt left a (f i))) st):wpS (model prog w) A E s (Ut left a b base i) Q st:=by
 unfold Ut
 refine Bb (Ha (R.at_ i c) ?_)
 cases left with
 | true =>
  rw[if_pos rfl]
  exact oK C e (R.ok i c) ok h
 | false =>
  rw[if_neg Cw]
  exact Bb (oK C e ok (R.ok i c) (Bn h))
theorem tO(C:Cmp prog w A s d Ok blt){st:Ce}{left:Bool}{a:Keyed}{t:Array Keyed}{base n lo g:Nat}{b:Nat->Keyed}(R:Row Ok t base n b)(ok:Ok a)(H:kindOf st=d)(mono:∀i j,i<=j->j<n->Ic blt left a (b j)=true->Ic blt left a (b i)=true)(h1:lo<=g)(K:g<=n)(F:∀i,i<lo->Ic blt left a (b i)=true)(G:∀i,g<=i->i<n->Ic blt left a (b i)=false){Q:Option Nat->Ce->Prop}(h:∀k,k<=n->(∀i,i<k->Ic blt left a (b i)=true)->(∀i,k<=i->i<n->Ic blt left a (b i)=false)->Q (some k) st):wpS (model prog w) A E s (tY left a t base n lo g) Q st:=by
 unfold tY
 refine Bb (Iw (Fk (I:=λx c f=>∃l r,c=(none,l,r)/\f=st/\l<=r/\r<=n/\r - l+x<=n/\(∀i,i<l->Ic blt left a (b i)=true)/\(∀i,r<=i->i<n->Ic blt left a (b i)=false))
  (Q:=λc f=>∃r,c=(none,r,r)/\f=st/\r<=n/\(∀i,i<r->Ic blt left a (b i)=true)/\(∀i,r<=i->i<n->Ic blt left a (b i)=false)) ?_ ?_ ⟨lo,g,rfl,rfl,h1,K,by omega,F,G⟩) ?_)
 ·(intro x c f _ L u; obtain ⟨l,r,rfl,rfl,D,o,B,p,m⟩ := u)
  dsimp only
  by_cases v:l ≥ r
  ·rw[if_pos v]
   have e:l=r:=by omega
   subst e
   exact Bn ⟨l,rfl,rfl,o,p,m⟩
  ·rw[if_neg v]
   have z:l+(r - l) / 2<n:=by omega
   refine Bb (Um C R ok H z ?_)
   dsimp only
   cases y:Ic blt left a (b (l+(r - l) / 2)) with
   | true =>
    rw[if_pos rfl]
    exact Bn ⟨l+(r - l) / 2+1,r,rfl,rfl,by omega,o,by omega,λi g=>mono i _ (by omega) z y,m⟩
   | false =>
    rw[if_neg Cw]
    refine Bn ⟨l,l+(r - l) / 2,rfl,rfl,by omega,by omega,by omega,p,λi g J=>?_⟩
    cases q:Ic blt left a (b i) with
    | false=>rfl
    | true=>rw[mono _ i g J q] at y; cases y
 ·(intro c f u; obtain ⟨l,r,rfl,rfl,D,o,B,p,m⟩ := u)
  have e:l=r:=by
   have : max 0 n=n:=by omega
   rw[this] at B
   omega
  subst e
  exact ⟨l,rfl,rfl,o,p,m⟩
 ·(intro c f u; obtain ⟨r,rfl,rfl,o,p,m⟩ := u)
  exact Bn (h r o p m)
theorem Oz(C:Cmp prog w A s d Ok blt){st:Ce}{left:Bool}{a:Keyed}{y:Array Keyed}{base n hint:Nat}{f:Nat->Keyed}(R:Row Ok y base n f)(ok:Ok a)(F:kindOf st=d)(O:hint<n)(mono:∀i j,i<=j->j<n->Ic blt left a (f j)=true->Ic blt left a (f i)=true){Q:Option Nat->Ce->Prop}(h:∀k,k<=n->(∀i,i<k->Ic blt left a (f i)=true)->(∀i,k<=i->i<n->Ic blt left a (f i)=false)->Q (some k) st):wpS (model prog w) A E s (Uv left a y base n hint) Q st:=by
 have t:∀i j,i<=j->j<n->Ic blt left a (f i)=false->Ic blt left a (f j)=false:=λi j J M q=>by
  cases z:Ic blt left a (f j) with
  | false=>rfl
  | true=>rw[mono i j J M z] at q; cases q
 rw[qU]
 refine Bb (Um C R ok F O ?_)
 dsimp only
 cases L:Ic blt left a (f hint) with
 | true =>
  rw[if_pos rfl]
  refine Bb (Iw (Fk (I:=λx c e=>∃b o,c=(none,b,o)/\e=st/\b<o/\x+1<=o/\hint+b<n/\Ic blt left a (f (hint+b))=true)
   (Q:=λc e=>∃b o,c=(none,b,o)/\e=st/\b<o/\hint+b<n/\Ic blt left a (f (hint+b))=true/\(o ≥ n - hint\/(hint+o<n/\Ic blt left a (f (hint+o))=false))) ?_ ?_
   ⟨0,1,rfl,rfl,by omega,by omega,by omega,L⟩) ?_)
  ·(intro x c e _ N p; obtain ⟨b,o,rfl,rfl,m,D,l,g⟩ := p)
   dsimp only
   by_cases u:o ≥ n - hint
   ·rw[if_pos u]
    exact Bn ⟨b,o,rfl,rfl,m,l,g,.inl u⟩
   ·rw[if_neg u]
    have B:hint+o<n:=by omega
    refine Bb (Um C R ok F B ?_)
    dsimp only
    cases r:Ic blt left a (f (hint+o)) with
    | true =>
     simp only[Ms,Bx,if_false]
     exact Bn ⟨o,2 * o+1,rfl,rfl,by omega,by omega,B,r⟩
    | false =>
     simp only[Bool.not_false,if_true]
     exact Bn ⟨b,o,rfl,rfl,m,l,g,.inr ⟨B,r⟩⟩
  ·(intro c e p; obtain ⟨b,o,rfl,rfl,m,D,l,g⟩ := p)
   have : max 0 n=n:=by omega
   rw[this] at D
   exact ⟨b,o,rfl,rfl,m,l,g,.inl (by omega)⟩
  ·(intro c e p; obtain ⟨b,o,rfl,rfl,m,l,g,v⟩ := p)
   dsimp only
   refine tO C R ok F mono (by omega) (by omega) (λi G=>mono i _ (by omega) l g) (λi G K=>?_) h
   rcases v with v | ⟨v,H⟩
   ·exfalso; omega
   ·exact t _ i (by omega) K H
 | false =>
  rw[if_neg Cw]
  refine Bb (Iw (Fk (I:=λx c e=>∃b o,c=(none,b,o)/\e=st/\b<o/\x+1<=o/\b<=hint/\Ic blt left a (f (hint - b))=false)
   (Q:=λc e=>∃b o,c=(none,b,o)/\e=st/\b<o/\b<=hint/\Ic blt left a (f (hint - b))=false/\(o ≥ hint+1\/(o<=hint/\Ic blt left a (f (hint - o))=true))) ?_ ?_
   ⟨0,1,rfl,rfl,by omega,by omega,by omega,L⟩) ?_)
  ·(intro x c e _ N p; obtain ⟨b,o,rfl,rfl,m,D,l,g⟩ := p)
   dsimp only
   by_cases u:o ≥ hint+1
   ·rw[if_pos u]
    exact Bn ⟨b,o,rfl,rfl,m,l,g,.inl u⟩
   ·rw[if_neg u]
    have B:hint - o<n:=by omega
    refine Bb (Um C R ok F B ?_)
    dsimp only
    cases r:Ic blt left a (f (hint - o)) with
    | true =>
     rw[if_pos rfl]
     exact Bn ⟨b,o,rfl,rfl,m,l,g,.inr ⟨by omega,r⟩⟩
    | false =>
     rw[if_neg Cw]
     exact Bn ⟨o,2 * o+1,rfl,rfl,by omega,by omega,by omega,r⟩
  ·(intro c e p; obtain ⟨b,o,rfl,rfl,m,D,l,g⟩ := p)
   have : max 0 n=n:=by omega
   rw[this] at D
   exact ⟨b,o,rfl,rfl,m,l,g,.inl (by omega)⟩
  ·(intro c e p; obtain ⟨b,o,rfl,rfl,m,l,g,v⟩ := p)
   dsimp only
   refine tO C R ok F mono (by omega) (by omega) (λi G=>?_) (λi G K=>t _ i G K g) h
   rcases v with v | ⟨v,H⟩
   ·exfalso; omega
   ·exact mono i _ (by omega) (by omega) H
end
structure MI{α:Type}(R:α->α->Prop)(xs ys out:List α)(i j:Nat):Prop where
 perm:out.Perm (xs.take i++ys.take j)
 srt:out.Pairwise R
 lx:∀o∈out,∀z∈xs.drop i,R o z
 ly:∀o∈out,∀z∈ys.drop j,R o z
section
variable{c:Type}{R:c->c->Prop}{xs ys out:List c}{i j:Nat}
theorem iJ{l:List c}{n:Nat}{a:c}(h:l[n]? = some a):l.drop n=a::l.drop (n+1):=by
 obtain ⟨b,e⟩:=An.mp h
 rw[Fi b,e]
theorem take_snoc{l:List c}{n:Nat}{a:c}(h:l[n]? = some a):l.take (n+1)=l.take n++[a]:=by
 rw[List.take_succ,h]; rfl
theorem MI.pushY(M:MI R xs ys out i j)(k:ys.Pairwise R){y:c}(d:ys[j]? = some y)(f:∀z∈xs.drop i,R y z):MI R xs ys (out++[y]) i (j+1):=by
 have b:=iJ d
 have g:(y::ys.drop (j+1)).Pairwise R:=by rw[<- b]; exact Kb (Ia _ _) k
 obtain ⟨h,l⟩:=Ay.mp g
 refine ⟨?_,?_,λo ho z a=>?_,λo ho z a=>?_⟩
 ·rw[take_snoc d,<- Bw]
  exact M.perm.append_right _
 ·refine Bi.mpr ⟨M.srt,Cn _ _,λo ho z a=>?_⟩
  have e:z=y:=by simpa using a
  rw[e]
  exact M.ly o ho y (by rw[b]; exact Aa)
 ·rcases Ai.mp ho with ho | ho
  ·exact M.lx o ho z a
  ·have e:o=y:=by simpa using ho
   rw[e]; exact f z a
 ·rcases Ai.mp ho with ho | ho
  ·exact M.ly o ho z (by rw[b]; exact Ae _ a)
  ·have e:o=y:=by simpa using ho
   rw[e]; exact h z a
theorem MI.pushX(M:MI R xs ys out i j)(l:xs.Pairwise R){x:c}(d:xs[i]? = some x)(f:∀z∈ys.drop j,R x z):MI R xs ys (out++[x]) (i+1) j:=by
 have b:=iJ d
 have g:(x::xs.drop (i+1)).Pairwise R:=by rw[<- b]; exact Kb (Ia _ _) l
 obtain ⟨h,m⟩:=Ay.mp g
 refine ⟨?_,?_,λo ho z a=>?_,λo ho z a=>?_⟩
 ·rw[take_snoc d]
  have k:(out++[x]).Perm ((xs.take i++ys.take j)++[x]):=M.perm.append_right _
  refine k.trans ?_
  rw[Bw,Bw]
  exact Nn _ Fo
 ·refine Bi.mpr ⟨M.srt,Cn _ _,λo ho z a=>?_⟩
  have e:z=x:=by simpa using a
  rw[e]
  exact M.lx o ho x (by rw[b]; exact Aa)
 ·rcases Ai.mp ho with ho | ho
  ·exact M.lx o ho z (by rw[b]; exact Ae _ a)
  ·have e:o=x:=by simpa using ho
   rw[e]; exact h z a
 ·rcases Ai.mp ho with ho | ho
  ·exact M.ly o ho z a
  ·have e:o=x:=by simpa using ho
   rw[e]; exact f z a
theorem Tn{l:List c}{n k:Nat}{a:c}(h:l[n+k]? = some a):(l.drop n).take (k+1)=(l.drop n).take k++[a]:=take_snoc (by rw[Zn]; exact h)
theorem MI.blockX(M:MI R xs ys out i j)(b:xs.Pairwise R):∀k,i+k<=xs.length->(∀m,m<k->∀x,xs[i+m]? = some x->∀z∈ys.drop j,R x z)->MI R xs ys (out++(xs.drop i).take k) (i+k) j
 | 0,_,_=>by simpa using M
 | k+1,hk,h=>by
  have c:=MI.blockX M b k (by omega) λm d=>h m (by omega)
  obtain ⟨x,a⟩ : ∃x,xs[i+k]? = some x:=⟨xs[i+k],by simp⟩
  rw[Tn a,<- Bw]
  exact c.pushX b a (h k (by omega) x a)
theorem MI.blockY(M:MI R xs ys out i j)(b:ys.Pairwise R):∀k,j+k<=ys.length->(∀m,m<k->∀y,ys[j+m]? = some y->∀z∈xs.drop i,R y z)->MI R xs ys (out++(ys.drop j).take k) i (j+k)
 | 0,_,_=>by simpa using M
 | k+1,hk,h=>by
  have c:=MI.blockY M b k (by omega) λm d=>h m (by omega)
  obtain ⟨y,a⟩ : ∃y,ys[j+k]? = some y:=⟨ys[j+k],by simp⟩
  rw[Tn a,<- Bw]
  exact c.pushY b a (h k (by omega) y a)
theorem MI.endX(M:MI R xs ys out i j)(d:xs.Pairwise R)(a:ys.length<=j):(out++xs.drop i++ys.drop j).Perm (xs++ys)/\(out++xs.drop i++ys.drop j).Pairwise R:=by
 rw[sR a,Et]
 constructor
 ·have b:(out++xs.drop i).Perm ((xs.take i++ys.take j)++xs.drop i):=M.perm.append_right _
  refine b.trans ?_
  rw[Dt a]
  have c:(xs.take i++ys++xs.drop i).Perm (xs.take i++(xs.drop i++ys)):=by
   rw[Bw]
   exact Nn _ Fo
  refine c.trans ?_
  rw[<- Bw,Dn]
 ·exact Bi.mpr ⟨M.srt,Kb (Ia _ _) d,M.lx⟩
theorem MI.endYX(M:MI R xs ys out i j)(f:xs.Pairwise R)(g:ys.Pairwise R)(h:∀y∈ys.drop j,∀x∈xs.drop i,R y x):(out++ys.drop j++xs.drop i).Perm (xs++ys)/\(out++ys.drop j++xs.drop i).Pairwise R:=by
 constructor
 ·have e:(out++(ys.drop j++xs.drop i)).Perm ((xs.take i++ys.take j)++(ys.drop j++xs.drop i)):=M.perm.append_right _
  rw[Bw]
  refine e.trans ?_
  rw[Bw,<- Bw (ys.take j),Dn]
  have d:(xs.take i++(ys++xs.drop i)).Perm (xs.take i++(xs.drop i++ys)):=Nn _ Fo
  refine d.trans ?_
  rw[<- Bw,Dn]
 ·refine Bi.mpr ⟨Bi.mpr ⟨M.srt,Kb (Ia _ _) g,M.ly⟩,Kb (Ia _ _) f,λa ha b c=>?_⟩
  rcases Ai.mp ha with ha | ha
  ·exact M.lx a ha b c
  ·exact h a ha b c
end
def oT:Array Keyed->Array Keyed->StateT Ce Sem (Array Keyed):=sortPriv% PySem.Builtin.mergeLo
def bE:Nat->StateT Ce Sem Unit:=sortPriv% PySem.Builtin.setMinGallop
abbrev DQ(st:Ce)(g:Nat):Ce:=Yd (kindOf st) (arrOf st) (Bj st) g (Mn st)
theorem qI(g:Nat):bE g=modify λst=>DQ st g:=rfl
theorem bH(p:Array Keyed)(i:Nat):(p.extract i p.size).toList=p.toList.drop i:=by
 rw[Ot,Me,Dt]
 rw[Iu,Al]
 exact Ak _
theorem Wy(p:Array Keyed)(i k:Nat):(p.extract i (i+k)).toList=(p.toList.drop i).take k:=by
 rw[Ot,Me,Nat.add_sub_cancel_left]
abbrev dn(p q out:Array Keyed)(i j:Nat):Array Keyed:=out++p.extract i p.size++q.extract j q.size
abbrev lst(p q out:Array Keyed)(i j:Nat):Array Keyed:=out++q.extract j q.size++p.extract i p.size
theorem M3(p q out:Array Keyed)(i j:Nat):(dn p q out i j).toList=out.toList++p.toList.drop i++q.toList.drop j:=by
 rw[Ea,Ea,bH,bH]
theorem A7(p q out:Array Keyed)(i j:Nat):(lst p q out i j).toList=out.toList++q.toList.drop j++p.toList.drop i:=by
 rw[Ea,Ea,bH,bH]
abbrev O8:=Option (Array Keyed)×Array Keyed×Nat×Nat×Nat×Nat×Nat
def Q6(p q out:Array Keyed)(i j g a k:Nat):StateT Ce Sem (ForInStep O8):=do
 let x <- elem' p i
 if (i+1+1 == p.size)=true then pure (Dd (some (lst p q (out.push x) (i+1) j),out.push x,i+1,j,g,a,k))
 else if (decide (a<7) && decide (k<7))=true then pure (Dd (none,out.push x,i+1,j,g,a,k))
 else pure (Hg (none,out.push x,i+1,j,g,a,k))
def K7(p q out:Array Keyed)(i j g a b:Nat):StateT Ce Sem (ForInStep O8):=do
 let y <- elem' q j
 if (j+1 == q.size)=true then pure (Dd (some (dn p q (out.push y) i (j+1)),out.push y,i,j+1,g,a,b))
 else do
  let x <- elem' p i
  let some k <- Uv true x q (j+1) (q.size - (j+1)) 0 | pure (Dd (some (dn p q (out.push y) i (j+1)),out.push y,i,j+1,g,a,b))
  if k > 0 then
   if (j+1+k == q.size)=true then pure (Dd (some (dn p q (out.push y++q.extract (j+1) (j+1+k)) i (j+1+k)),out.push y++q.extract (j+1) (j+1+k),i,j+1+k,g,a,k))
   else Q6 p q (out.push y++q.extract (j+1) (j+1+k)) i (j+1+k) g a k
  else Q6 p q (out.push y) i (j+1) g a k
def CN(p q out:Array Keyed)(i j g b a:Nat):StateT Ce Sem (ForInStep O8):=do
 bE g
 let y <- elem' q j
 let some k <- Uv false y p i (p.size - i) 0 | pure (Dd (some (dn p q out i j),out,i,j,g,b,a))
 if k > 0 then
  if (i+k+1 == p.size)=true then pure (Dd (some (lst p q (out++p.extract i (i+k)) (i+k) j),out++p.extract i (i+k),i+k,j,g,k,a))
  else if (i+k == p.size)=true then pure (Dd (some (dn p q (out++p.extract i (i+k)) (i+k) j),out++p.extract i (i+k),i+k,j,g,k,a))
  else K7 p q (out++p.extract i (i+k)) (i+k) j g k a
 else K7 p q out i j g k a
section
variable{prog:Bz}{w:World}{A:Dm}{s:Ap}{d:Mo}{Ok:Keyed->Prop}{blt:Keyed->Keyed->Bool}{E:Value->Ap->Prop}
theorem Uu{st:Ce}{x:String}{Q:Unit->Ce->Prop}(h:Q () st):wpS (model prog w) A E s (liftM (rule x):StateT Ce Sem Unit) Q st:=wpS_lift (wpAny_rule ⟨rfl,h⟩)
theorem Uo{st:Ce}{g:Nat}{Q:Unit->Ce->Prop}(h:∀a,Kept st a->Q () a):wpS (model prog w) A E s (bE g) Q st:=by
 rw[qI]
 exact Lg (h _ ⟨rfl,rfl,rfl,rfl⟩)
structure Two(Ok:Keyed->Prop)(blt:Keyed->Keyed->Bool)(p q:Array Keyed)(x0 y0 xl:Keyed):Prop where
 op:∀x∈p.toList,Ok x
 oq:∀x∈q.toList,Ok x
 sp:p.toList.Pairwise (le blt)
 sq:q.toList.Pairwise (le blt)
 hx0:p[0]? = some x0
 hy0:q[0]? = some y0
 hxl:p[p.size - 1]? = some xl
 first:blt y0 x0=true
 last:∀y∈q.toList,blt y xl=true
abbrev qH(blt:Keyed->Keyed->Bool)(p q r:Array Keyed):Prop:=r.toList.Perm (p.toList++q.toList)/\r.toList.Pairwise (le blt)
theorem Ez{p:Array Keyed}{i:Nat}{x:Keyed}(h:p[i]? = some x):p.toList[i]? = some x:=by simpa using h
theorem Hh{p:Array Keyed}{i:Nat}(h:i<p.size):∃x,p[i]? = some x:=⟨p[i],by simp [h]⟩
theorem La{p:Array Keyed}{i:Nat}{x:Keyed}(h:p[i]? = some x):x∈p.toList:=Ao (Ez h)
theorem pF{a:Type}{l:List a}{i:Nat}{z:a}(h:z∈l.drop i):∃k,l[i+k]? = some z:=by
 obtain ⟨k,b,e⟩:=Hw.mp h
 exact ⟨k,by rw[<- Zn,Ba b,e]⟩
theorem Mh(C:Cmp prog w A s d Ok blt){l:List Keyed}(f:l.Pairwise (le blt)){i j:Nat}{x y:Keyed}(h:i<=j)(b:l[i]? = some x)(a:l[j]? = some y):le blt x y:=by
 by_cases e:i=j
 ·subst e
  rw[b] at a
  cases a
  exact C.refl x
 ·obtain ⟨m,g⟩:=An.mp b
  obtain ⟨k,c⟩:=An.mp a
  have:=Fh.mp f i j m k (by omega)
  rw[g,c] at this
  exact this
theorem Qg(C:Cmp prog w A s d Ok blt){l:List Keyed}(b:l.Pairwise (le blt)){i:Nat}{x y:Keyed}(a:l[i]? = some x)(h:le blt y x):∀z∈l.drop i,le blt y z:=λz e=>by
 obtain ⟨k,c⟩:=pF e
 exact C.trans h (Mh C b (Th i k) a c)
abbrev LI(blt:Keyed->Keyed->Bool)(p q out:Array Keyed)(i j:Nat):Prop:=MI (le blt) p.toList q.toList out.toList i j
theorem Pa(out:Array Keyed)(x:Keyed):(out.push x).toList=out.toList++[x]:=by simp
theorem Two.last_end(C:Cmp prog w A s d Ok blt){p q out:Array Keyed}{l f b:Keyed}(T:Two Ok blt p q l f b){i j:Nat}(M:LI blt p q out i j)(m:i+1=p.size):qH blt p q (lst p q out i j):=by
 have h:=M.endYX T.sp T.sq (λy c x g=>?_)
 ·rw[<- A7] at h
  exact h
 ·obtain ⟨k,a⟩:=pF g
  have : k=0:=by
   have:=(An.mp a).1
   rw[Al] at this
   omega
  subst this
  have e:x=b:=by
   have:=Ez T.hxl
   rw[show p.size - 1=i+0 by omega,a] at this
   exact Bu this
  rw[e]
  exact C.ofLt (T.last y (Wm c))
theorem Two.done_end{p q out:Array Keyed}{d b c:Keyed}(T:Two Ok blt p q d b c){i j:Nat}(M:LI blt p q out i j)(a:q.size<=j):qH blt p q (dn p q out i j):=by
 have h:=M.endX T.sp (by rw[Al]; exact a)
 rw[<- M3] at h
 exact h
def FK(blt:Keyed->Keyed->Bool)(p q:Array Keyed)(st:Ce)(n:Nat)(r:ForInStep O8)(a:Ce):Prop:=Kept st a/\match r with
 | .done (some r,_)=>qH blt p q r
 | .done (none,out,i,j,_)=>LI blt p q out i j/\i+1<p.size/\j<q.size/\n<i+j
 | .yield (none,out,i,j,_)=>LI blt p q out i j/\i+1<p.size/\j<q.size/\n<i+j
 | .yield (some _,_)=>False
theorem vK(C:Cmp prog w A s d Ok blt){p q out:Array Keyed}{r l o:Keyed}(T:Two Ok blt p q r l o){i j g c k n:Nat}{a st:Ce}(kp:Kept a st)(M:LI blt p q out i j)(u:i+1<p.size)(f:j<q.size)(t:n<=i+j){x:Keyed}(e:p[i]? = some x)(m:∀z∈q.toList.drop j,le blt x z):wpS (model prog w) A E s (Q6 p q out i j g c k) (FK blt p q a n) st:=by
 unfold Q6
 refine Bb (Ha e ?_)
 have M1:LI blt p q (out.push x) (i+1) j:=by
  have:=M.pushX T.sp (Ez e) m
  rw[<- Pa] at this
  exact this
 by_cases b:i+1+1=p.size
 ·rw[if_pos (by rw[b]; exact beq_self_eq_true _)]
  exact Bn ⟨kp,T.last_end C M1 b⟩
 ·rw[if_neg (λz=>b (Ef z))]
  by_cases h:(decide (c<7) && decide (k<7))=true
  ·rw[if_pos h]
   exact Bn ⟨kp,M1,by omega,f,by omega⟩
  ·rw[if_neg h]
   exact Bn ⟨kp,M1,by omega,f,by omega⟩
theorem tH(C:Cmp prog w A s d Ok blt){p q out:Array Keyed}{x0 U W:Keyed}(T:Two Ok blt p q x0 U W){i j g ac Q n:Nat}{o st:Ce}(kp:Kept o st)(Y:kindOf st=d)(M:LI blt p q out i j)(H:i+1<p.size)(hj:j<q.size)(hn:n<=i+j){x y:Keyed}(h:p[i]? = some x)(N:q[j]? = some y)(F:blt y x=true):wpS (model prog w) A E s (K7 p q out i j g ac Q) (FK blt p q o n) st:=by
 unfold K7
 refine Bb (Ha N ?_)
 have M1:LI blt p q (out.push y) i (j+1):=by
  have:=M.pushY T.sq (Ez N) (Qg C T.sp (Ez h) (C.ofLt F))
  rw[<- Pa] at this
  exact this
 by_cases G:j+1=q.size
 ·rw[if_pos (by rw[G]; exact beq_self_eq_true _)]
  exact Bn ⟨kp,T.done_end M1 (by omega)⟩
 ·rw[if_neg (λz=>G (Ef z))]
  refine Bb (Ha h ?_)
  have R:Row Ok q (j+1) (q.size - (j+1)) (λm=>q.getD (j+1+m) y):=⟨λm B=>?_,λm B=>?_⟩
  ·refine Bb (Oz C R (T.op x (La h)) Y (by omega) (λa b V hb L=>?_) λk X S K=>?_)
   ·obtain ⟨r,c⟩:=Hh (p:=q) (i:=j+1+a) (by omega)
    obtain ⟨yb,J⟩:=Hh (p:=q) (i:=j+1+b) (by omega)
    have P:q.getD (j+1+a) y=r:=by simp [By,c]
    have Z:q.getD (j+1+b) y=yb:=by simp [By,J]
    simp only[P,Z,Ic,if_true] at L ⊢
    exact C.leLt (Mh C T.sq (by omega) (Ez c) (Ez J)) L
   ·dsimp only
    have f:∀m l,q[j+1+m]? = some l->q.getD (j+1+m) y=l:=λm l e=>by simp [By,e]
    have M2:LI blt p q (out.push y++q.extract (j+1) (j+1+k)) i (j+1+k):=by
     have:=M1.blockY T.sq k (by rw[Al]; omega) (λm B l ey=>by
      have v:q[j+1+m]? = some l:=by simpa using ey
      have:=S m B
      rw[f m l v] at this
      simp only[Ic,if_true] at this
      exact Qg C T.sp (Ez h) (C.ofLt this))
     rw[<- Wy,<- Ea] at this
     exact this
    by_cases O:k > 0
    ·rw[if_pos O]
     by_cases I:j+1+k=q.size
     ·rw[if_pos (by rw[I]; exact beq_self_eq_true _)]
      exact Bn ⟨kp,T.done_end M2 (by omega)⟩
     ·rw[if_neg (λz=>I (Ef z))]
      obtain ⟨t,u⟩:=Hh (p:=q) (i:=j+1+k) (by omega)
      refine vK C T kp M2 H (by omega) (by omega) h (Qg C T.sq (Ez u) ?_)
      have:=K k (Ak _) (by omega)
      rw[f k t u] at this
      have z:blt t x=false:=by simpa only [Ic,if_true] using this
      exact z
    ·rw[if_neg O]
     have D:k=0:=by omega
     subst D
     obtain ⟨t,u⟩:=Hh (p:=q) (i:=j+1) (by omega)
     refine vK C T kp M1 H (by omega) (by omega) h (Qg C T.sq (Ez u) ?_)
     have:=K 0 (Ak _) (by omega)
     rw[f 0 t u] at this
     have z:blt t x=false:=by simpa only [Ic,if_true] using this
     exact z
  ·obtain ⟨r,c⟩:=Hh (p:=q) (i:=j+1+m) (by omega)
   rw[c]
   simp [By,c]
  ·obtain ⟨r,c⟩:=Hh (p:=q) (i:=j+1+m) (by omega)
   have : q.getD (j+1+m) y=r:=by simp [By,c]
   rw[this]
   exact T.oq r (La c)
theorem T4(C:Cmp prog w A s d Ok blt){p q out:Array Keyed}{x0 V F:Keyed}(T:Two Ok blt p q x0 V F){i j g ac S n:Nat}{u st:Ce}(kp:Kept u st)(hk:kindOf st=d)(M:LI blt p q out i j)(Y:i+1<p.size)(B:j<q.size)(hn:n<=i+j):wpS (model prog w) A E s (CN p q out i j g ac S) (FK blt p q u n) st:=by
 unfold CN
 refine Bb (Uo λG v=>?_)
 have h:=kp.trans v
 have l:kindOf G=d:=v.kind.trans hk
 obtain ⟨y,t⟩:=Hh (p:=q) B
 refine Bb (Ha t ?_)
 have c:∀m o,p[i+m]? = some o->p.getD (i+m) y=o:=λm o e=>by simp [By,e]
 have R:Row Ok p i (p.size - i) (λm=>p.getD (i+m) y):=⟨λm D=>by
  obtain ⟨r,f⟩:=Hh (p:=p) (i:=i+m) (by omega)
  rw[c m r f,f],λm D=>by
  obtain ⟨r,f⟩:=Hh (p:=p) (i:=i+m) (by omega)
  show Ok (p.getD (i+m) y)
  rw[c m r f]
  exact T.op r (La f)⟩
 refine Bb (Oz C R (T.oq y (La t)) l (by omega) (λa b W hb P=>?_) λk h0 N Z=>?_)
 ·obtain ⟨r,f⟩:=Hh (p:=p) (i:=i+a) (by omega)
  obtain ⟨U,O⟩:=Hh (p:=p) (i:=i+b) (by omega)
  simp only[c a r f,c b U O,Ic,Bx,if_false,Jn] at P ⊢
  exact C.trans (Mh C T.sp (by omega) (Ez f) (Ez O)) P
 ·dsimp only
  -- the last one is beyond y: so k does not reach it
  have X:i+k+1<=p.size:=by
   rcases Nat.lt_or_ge (i+k) p.size with z | z
   ·omega
   ·exfalso
    have:=N (p.size - 1 - i) (by omega)
    have e:p[i+(p.size - 1 - i)]? = some F:=by
     rw[show i+(p.size - 1 - i)=p.size - 1 by omega]
     exact T.hxl
    rw[c _ F e] at this
    simp only[Ic,Bx,if_false,T.last y (La t),Ms] at this
  have M1:LI blt p q (out++p.extract i (i+k)) (i+k) j:=by
   have:=M.blockX T.sp k (by rw[Al]; omega) (λm D o ex=>by
    have H:p[i+m]? = some o:=by simpa using ex
    have:=N m D
    rw[c m o H] at this
    simp only[Ic,Bx,if_false,Jn] at this
    exact Qg C T.sq (Ez t) this)
   rw[<- Wy,<- Ea] at this
   exact this
  obtain ⟨L,J⟩:=Hh (p:=p) (i:=i+k) (by omega)
  have x:blt y L=true:=by
   have:=Z k (Ak _) (by omega)
   rw[c k L J] at this
   simpa only [Ic,Bx,if_false,Zr] using this
  by_cases Q:k > 0
  ·rw[if_pos Q]
   by_cases I:i+k+1=p.size
   ·rw[if_pos (by rw[I]; exact beq_self_eq_true _)]
    exact Bn ⟨h,T.last_end C M1 I⟩
   ·rw[if_neg (λz=>I (Ef z)),if_neg (λz=>by have:=Ef z; omega)]
    exact tH C T h l M1 (by omega) B (by omega) J t x
  ·rw[if_neg Q]
   have K:k=0:=by omega
   subst K
   exact tH C T h l M Y B hn J t x
theorem qP(C:Cmp prog w A s d Ok blt){p q:Array Keyed}{x0 U xl:Keyed}(T:Two Ok blt p q x0 U xl){st:Ce}(Y:kindOf st=d){Q:Array Keyed->Ce->Prop}(h:∀r a,Kept st a->qH blt p q r->Q r a):wpS (model prog w) A E s (oT p q) Q st:=by
 have p0:0<p.size:=by
  have:=(Iz.mp T.hx0).1
  exact this
 have q0:0<q.size:=by
  have:=(Iz.mp T.hy0).1
  exact this
 have N:LI blt p q #[U] 0 1:=by
  have m:LI blt p q #[] 0 0:=⟨by simp,by simp,λo O=>by simp at O,λo O=>by simp at O⟩
  have:=m.pushY T.sq (Ez T.hy0) (Qg C T.sp (Ez T.hx0) (C.ofLt T.first))
  simpa using this
 unfold oT
 refine Bb (Uu ?_)
 refine Bb (Ha T.hy0 ?_)
 dsimp only
 by_cases V:1=q.size
 ·rw[if_pos (by rw[<- V]; rfl)]
  exact Bn (h _ _ (Kept.refl _) (T.done_end N (by omega)))
 rw[if_neg (λz=>V (Ef z))]
 by_cases h2:0+1=p.size
 ·rw[if_pos (by rw[<- h2]; rfl)]
  exact Bn (h _ _ (Kept.refl _) (T.last_end C N (by omega)))
 rw[if_neg (λz=>h2 (Ef z))]
 refine Bb (Oq ?_)
 refine Bb (Iw (Fk
  (I:=λx c a=>Kept st a/\∃out i j g,c=(none,out,i,j,g)/\LI blt p q out i j/\i+1<p.size/\j<q.size/\x+1<=i+j)
  (Q:=λc a=>Kept st a/\∃r Gx,c=(some r,Gx)/\qH blt p q r) ?_ ?_ ⟨Kept.refl _,_,0,1,_,rfl,N,by omega,by omega,by omega⟩) ?_)
 ·(intro x c B _ F t; obtain ⟨u,out,i,j,g,rfl,M,n,l,v⟩ := t)
  dsimp only
  -- one by one
  refine Bb (Iw (Fk
   (I:=λ_ c a=>a=B/\∃out i j e b,c=(none,out,i,j,e,b)/\LI blt p q out i j/\i+1<p.size/\j<q.size/\x+1<=i+j)
   (Q:=λc a=>a=B/\((∃r Gx,c=(some r,Gx)/\qH blt p q r)\/∃out i j e b,c=(none,out,i,j,e,b)/\LI blt p q out i j/\i+1<p.size/\j<q.size/\x+1<=i+j)) ?_ ?_ ⟨rfl,out,i,j,0,0,rfl,M,n,l,v⟩) ?_)
  ·(intro z c H _ hz t; obtain ⟨rfl,out,i,j,e,b,rfl,M,n,l,v⟩ := t)
   dsimp only
   obtain ⟨R,G⟩:=Hh (p:=q) l
   obtain ⟨L,F⟩:=Hh (p:=p) (i:=i) (by omega)
   refine Bb (Ha G ?_)
   refine Bb (Ha F ?_)
   refine Bb (oK C (u.kind.trans Y) (T.oq R (La G)) (T.op L (La F)) ?_)
   dsimp only
   cases W:blt R L with
   | true =>
    rw[if_pos rfl]
    refine Bb (Ha G ?_)
    have M1:LI blt p q (out.push R) i (j+1):=by
     have:=M.pushY T.sq (Ez G) (Qg C T.sp (Ez F) (C.ofLt W))
     rw[<- Pa] at this
     exact this
    by_cases K:j+1=q.size
    ·rw[if_pos (by rw[K]; exact beq_self_eq_true _)]
     exact Bn ⟨rfl,.inl ⟨_,_,rfl,T.done_end M1 (by omega)⟩⟩
    ·rw[if_neg (λz=>K (Ef z))]
     split
     ·exact Bn ⟨rfl,.inr ⟨_,_,_,_,_,rfl,M1,n,by omega,by omega⟩⟩
     ·exact Bn ⟨rfl,_,_,_,_,_,rfl,M1,n,by omega,by omega⟩
   | false =>
    rw[if_neg Cw]
    refine Bb (Ha F ?_)
    have M1:LI blt p q (out.push L) (i+1) j:=by
     have:=M.pushX T.sp (Ez F) (Qg C T.sq (Ez G) W)
     rw[<- Pa] at this
     exact this
    by_cases K:i+1+1=p.size
    ·rw[if_pos (by rw[K]; exact beq_self_eq_true _)]
     exact Bn ⟨rfl,.inl ⟨_,_,rfl,T.last_end C M1 (by omega)⟩⟩
    ·rw[if_neg (λz=>K (Ef z))]
     split
     ·exact Bn ⟨rfl,.inr ⟨_,_,_,_,_,rfl,M1,by omega,l,by omega⟩⟩
     ·exact Bn ⟨rfl,_,_,_,_,_,rfl,M1,by omega,l,by omega⟩
  ·(intro c H t; obtain ⟨rfl,out,i,j,e,b,rfl,M⟩ := t)
   exact ⟨rfl,.inr ⟨out,i,j,e,b,rfl,M⟩⟩
  ·rintro c H ⟨rfl,hc⟩
   rcases hc with hc | hc
   ·obtain ⟨r,Gx,rfl,f⟩:=hc
    exact Bn ⟨u,r,_,rfl,f⟩
   ·obtain ⟨out,i,j,e,b,rfl,M,n,l,v⟩:=hc
    dsimp only
    refine Bb (Uu ?_)
    -- the gallop
    refine Bb (Iw (Fk
     (I:=λy c a=>Kept st a/\∃out i j g e b,c=(none,out,i,j,g,e,b)/\LI blt p q out i j/\i+1<p.size/\j<q.size/\(if y=0 then x+1<=i+j else x+2<=i+j))
     (Q:=λc a=>Kept st a/\((∃r Gx,c=(some r,Gx)/\qH blt p q r)\/∃out i j g e b,c=(none,out,i,j,g,e,b)/\LI blt p q out i j/\i+1<p.size/\j<q.size/\x+2<=i+j)) ?_ ?_
     ⟨u,out,i,j,_,e,b,rfl,M,n,l,by rw[if_pos rfl]; exact v⟩) ?_)
    ·(intro y c Vk _ G t; obtain ⟨k,out,i,j,g,e,b,rfl,M,n,l,v⟩ := t)
     have S:x+1<=i+j:=by split at v <;> omega
     have J:∀X,wpS (model prog w) A E s (CN p q out i j X e b) (FK blt p q st (x+1)) Vk:=λX=>T4 C T k (k.kind.trans Y) M n l S
     dsimp only
     refine Iw (?_:wpS (model prog w) A E s _ (FK blt p q st (x+1)) Vk) λr P f=>?_
     ·by_cases Z:g > 1
      ·rw[if_pos Z]
       exact J _
      ·rw[if_neg Z]
       exact J _
     ·obtain ⟨D,f⟩:=f
      match r,f with
      | .done (some r,Gx),f=>exact ⟨D,.inl ⟨r,Gx,rfl,f⟩⟩
      | .done (none,out,i,j,g,e,b),f=>exact ⟨D,.inr ⟨out,i,j,g,e,b,rfl,f.1,f.2.1,f.2.2.1,by have:=f.2.2.2; omega⟩⟩
      | .yield (none,out,i,j,g,e,b),f=>exact ⟨D,out,i,j,g,e,b,rfl,f.1,f.2.1,f.2.2.1,by rw[if_neg (by omega)]; have:=f.2.2.2; omega⟩
    ·(intro c Vk t; obtain ⟨k,out,i,j,g,e,b,rfl,M,n,l,v⟩ := t)
     rw[if_neg (by omega)] at v
     exact ⟨k,.inr ⟨out,i,j,g,e,b,rfl,M,n,l,v⟩⟩
    ·rintro c Vk ⟨k,hc⟩
     rcases hc with hc | hc
     ·obtain ⟨r,Gx,rfl,f⟩:=hc
      exact Bn ⟨k,r,_,rfl,f⟩
     ·obtain ⟨out,i,j,g,e,b,rfl,M,n,l,v⟩:=hc
      dsimp only
      refine Bb (Uo λP D=>?_)
      exact Bn ⟨k.trans D,out,i,j,_,rfl,M,n,l,by omega⟩
 ·(intro c B t; obtain ⟨u,out,i,j,g,rfl,M,n,l,v⟩ := t)
  exfalso
  have : max 0 (p.size+q.size)=p.size+q.size:=by omega
  rw[this] at v
  omega
 ·(intro c B t; obtain ⟨u,r,Gx,rfl,f⟩ := t)
  exact Bn (h r B u f)
end
def mT:Array Keyed->Array Keyed->StateT Ce Sem (Array Keyed):=sortPriv% PySem.Builtin.mergeHi
abbrev DK(p q out:Array Keyed)(m n:Nat):Array Keyed:=p.extract 0 m++q.extract 0 n++out.reverse
abbrev HQ(p q out:Array Keyed)(m n:Nat):Array Keyed:=q.extract 0 n++p.extract 0 m++out.reverse
abbrev P7:=Option (Array Keyed)×Nat×Nat×Array Keyed×Nat×Nat×Nat
def N7(p q out:Array Keyed)(m n g a k:Nat):StateT Ce Sem (ForInStep P7):=do
 let x <- elem' p (m - 1)
 if (m - 1 == 0)=true then pure (Dd (some (DK p q (out.push x) (m - 1) n),m - 1,n,out.push x,g,a,k))
 else if (decide (a<7) && decide (k<7))=true then pure (Dd (none,m - 1,n,out.push x,g,a,k))
 else pure (Hg (none,m - 1,n,out.push x,g,a,k))
def R5(p q out:Array Keyed)(m n g a b:Nat):StateT Ce Sem (ForInStep P7):=do
 let y <- elem' q (n - 1)
 if (n - 1 == 1)=true then pure (Dd (some (HQ p q (out.push y) m (n - 1)),m,n - 1,out.push y,g,a,b))
 else do
  let x <- elem' p (m - 1)
  let some t <- Uv true x q 0 (n - 1) (n - 1 - 1) | pure (Dd (some (DK p q (out.push y) m (n - 1)),m,n - 1,out.push y,g,a,b))
  if n - 1 - t > 0 then
   if (t == 1)=true then pure (Dd (some (HQ p q (out.push y++(q.extract t (n - 1)).reverse) m t),m,t,out.push y++(q.extract t (n - 1)).reverse,g,a,n - 1 - t))
   else if (t == 0)=true then pure (Dd (some (DK p q (out.push y++(q.extract t (n - 1)).reverse) m t),m,t,out.push y++(q.extract t (n - 1)).reverse,g,a,n - 1 - t))
   else N7 p q (out.push y++(q.extract t (n - 1)).reverse) m t g a (n - 1 - t)
  else N7 p q (out.push y) m (n - 1) g a (n - 1 - t)
def DJ(p q out:Array Keyed)(m n g b a:Nat):StateT Ce Sem (ForInStep P7):=do
 bE g
 let y <- elem' q (n - 1)
 let some t <- Uv false y p 0 m (m - 1) | pure (Dd (some (DK p q out m n),m,n,out,g,b,a))
 if m - t > 0 then
  if (t == 0)=true then pure (Dd (some (DK p q (out++(p.extract t m).reverse) t n),t,n,out++(p.extract t m).reverse,g,m - t,a))
  else R5 p q (out++(p.extract t m).reverse) t n g (m - t) a
 else R5 p q out m n g (m - t) a
section
variable{a:Type}{R:a->a->Prop}{xs ys out:List a}{i j:Nat}
theorem MI.swap(M:MI R xs ys out i j):MI R ys xs out j i:=⟨M.perm.trans Fo,M.srt,M.ly,M.lx⟩
theorem MI.endXY(M:MI R xs ys out i j)(a:xs.Pairwise R)(b:ys.Pairwise R)(h:∀x∈xs.drop i,∀y∈ys.drop j,R x y):(out++xs.drop i++ys.drop j).Perm (xs++ys)/\(out++xs.drop i++ys.drop j).Pairwise R:=by
 have:=M.swap.endYX b a h
 exact ⟨this.1.trans Fo,this.2⟩
end
abbrev ge(blt:Keyed->Keyed->Bool)(x y:Keyed):Prop:=le blt y x
abbrev HI(blt:Keyed->Keyed->Bool)(p q out:Array Keyed)(m n:Nat):Prop:=MI (ge blt) p.toList.reverse q.toList.reverse out.toList (p.size - m) (q.size - n)
theorem Lb(p:Array Keyed){m:Nat}(h:m<=p.size):p.toList.reverse.drop (p.size - m)=(p.toList.take m).reverse:=by
 rw[List.drop_reverse,Al]
 congr 2
 omega
theorem A3{p:Array Keyed}{m:Nat}{x:Keyed}(h0:0<m)(h:m<=p.size)(e:p[m - 1]? = some x):p.toList.reverse[p.size - m]? = some x:=by
 rw[Vq (by rw[Al]; omega),Al,show p.size - 1 - (p.size - m)=m - 1 by omega]
 exact Ez e
theorem T1(p:Array Keyed)(m:Nat):(p.extract 0 m).toList=p.toList.take m:=by
 rw[Ot,Me,Kf,Nat.sub_zero]
theorem GQ(p:Array Keyed){t m:Nat}(h1:t<=m)(a:m<=p.size):(p.extract t m).reverse.toList=(p.toList.reverse.drop (p.size - m)).take (m - t):=by
 rw[Lb p a,List.take_reverse,Wa,Ot,Me,Dl,Al,List.drop_take]
 congr 2
 ·omega
 ·congr 1
  omega
section
variable{prog:Bz}{w:World}{A:Dm}{s:Ap}{d:Mo}{Ok:Keyed->Prop}{blt:Keyed->Keyed->Bool}{E:Value->Ap->Prop}
theorem Ky{l:List Keyed}(h:l.Pairwise (le blt)):l.reverse.Pairwise (ge blt):=Vp.mpr h
theorem Two.dn_end{p q out:Array Keyed}{j g i:Keyed}(T:Two Ok blt p q j g i){m n:Nat}(M:HI blt p q out m n)(f:m<=p.size)(c:n<=q.size)(h:m=0\/n=0):qH blt p q (DK p q out m n):=by
 have a:=M.endYX (Ky T.sp) (Ky T.sq) (λy b x d=>by
  rw[Lb p f] at d
  rw[Lb q c] at b
  rcases h with h | h
  ·subst h; simp at d
  ·subst h; simp at b)
 rw[Lb p f,Lb q c] at a
 have e:(DK p q out m n).toList=(out.toList++(q.toList.take n).reverse++(p.toList.take m).reverse).reverse:=by
  rw[Ea,Ea,T1,T1,Wa]
  simp
 refine ⟨?_,?_⟩
 ·rw[e]
  refine (Li _).trans (a.1.trans ?_)
  exact List.Perm.append (Li _) (Li _)
 ·rw[e]
  exact Vp.mpr a.2
theorem Two.fs_end(C:Cmp prog w A s d Ok blt){p q out:Array Keyed}{v i u:Keyed}(T:Two Ok blt p q v i u){m n:Nat}(M:HI blt p q out m n)(o:m<=p.size)(t:n=1)(l:1<=q.size):qH blt p q (HQ p q out m n):=by
 subst t
 have c:=M.endXY (Ky T.sp) (Ky T.sq) (λx j y h=>by
  rw[Lb p o] at j
  rw[Lb q l] at h
  have r:y=i:=by
   have : y∈q.toList.take 1:=Ke.mp h
   obtain ⟨k,a,e⟩:=Hw.mp this
   have g:k=0:=by
    rw[Dl] at a
    omega
   subst g
   have b:q.toList[0]? = some y:=by
    rw[<- e,<- Ba a,Jt (by omega)]
   rw[Ez T.hy0] at b
   exact (Bu b).symm
  rw[r]
  have f:x∈p.toList:=List.mem_of_mem_take (Ke.mp j)
  obtain ⟨k,a,e⟩:=Hw.mp f
  have b:p.toList[k]? = some x:=by rw[<- e,Ba a]
  exact C.trans (C.ofLt T.first) (Mh C T.sp (Em k) (Ez T.hx0) b))
 rw[Lb p o,Lb q l] at c
 have e:(HQ p q out m 1).toList=(out.toList++(p.toList.take m).reverse++(q.toList.take 1).reverse).reverse:=by
  rw[Ea,Ea,T1,T1,Wa]
  simp
 refine ⟨?_,?_⟩
 ·rw[e]
  refine (Li _).trans (c.1.trans ?_)
  exact List.Perm.append (Li _) (Li _)
 ·rw[e]
  exact Vp.mpr c.2
theorem Uy(C:Cmp prog w A s d Ok blt){p:Array Keyed}(sp:p.toList.Pairwise (le blt)){m:Nat}{x y:Keyed}(h0:0<m)(f:m<=p.size)(c:p[m - 1]? = some x)(h:le blt x y):∀z∈p.toList.reverse.drop (p.size - m),ge blt y z:=λz b=>by
 rw[Lb p f] at b
 obtain ⟨k,a,e⟩:=Hw.mp (Ke.mp b)
 have g:p.toList[k]? = some z:=by
  rw[Dl] at a
  rw[<- e,<- Ba (by rw[Dl]; exact a),Jt (by omega)]
 rw[Dl] at a
 exact C.trans (Mh C sp (by omega) g (Ez c)) h
theorem HI.pushX(C:Cmp prog w A s d Ok blt){p q out:Array Keyed}{f a c:Keyed}(T:Two Ok blt p q f a c){m n:Nat}(M:HI blt p q out m n)(h0:0<m)(e:m<=p.size){x:Keyed}(b:p[m - 1]? = some x)(h:∀z∈q.toList.reverse.drop (q.size - n),ge blt x z):HI blt p q (out.push x) (m - 1) n:=by
 have:=MI.pushX M (Ky T.sp) (A3 h0 e b) h
 rw[<- Pa,show p.size - m+1=p.size - (m - 1) by omega] at this
 exact this
theorem HI.pushY(C:Cmp prog w A s d Ok blt){p q out:Array Keyed}{f c e:Keyed}(T:Two Ok blt p q f c e){m n:Nat}(M:HI blt p q out m n)(h0:0<n)(b:n<=q.size){y:Keyed}(a:q[n - 1]? = some y)(h:∀z∈p.toList.reverse.drop (p.size - m),ge blt y z):HI blt p q (out.push y) m (n - 1):=by
 have:=MI.pushY M (Ky T.sq) (A3 h0 b a) h
 rw[<- Pa,show q.size - n+1=q.size - (n - 1) by omega] at this
 exact this
def GE(blt:Keyed->Keyed->Bool)(p q:Array Keyed)(st:Ce)(b:Nat)(r:ForInStep P7)(a:Ce):Prop:=Kept st a/\match r with
 | .done (some r,_)=>qH blt p q r
 | .done (none,m,n,out,_)=>HI blt p q out m n/\0<m/\m<=p.size/\1<n/\n<=q.size/\m+n<b
 | .yield (none,m,n,out,_)=>HI blt p q out m n/\0<m/\m<=p.size/\1<n/\n<=q.size/\m+n<b
 | .yield (some _,_)=>False
theorem sY(C:Cmp prog w A s d Ok blt){p q out:Array Keyed}{v l t:Keyed}(T:Two Ok blt p q v l t){m n g f k b:Nat}{a st:Ce}(kp:Kept a st)(M:HI blt p q out m n)(o:0<m)(u:m<=p.size)(h:1<n)(c:n<=q.size)(hb:m+n<=b){x:Keyed}(i:p[m - 1]? = some x)(r:∀z∈q.toList.reverse.drop (q.size - n),ge blt x z):wpS (model prog w) A E s (N7 p q out m n g f k) (GE blt p q a b) st:=by
 unfold N7
 refine Bb (Ha i ?_)
 have M1:=HI.pushX C T M o u i r
 by_cases e:m - 1=0
 ·rw[if_pos (by rw[e]; rfl)]
  exact Bn ⟨kp,T.dn_end M1 (by omega) c (.inl e)⟩
 ·rw[if_neg (λz=>e (Ef z))]
  by_cases j:(decide (f<7) && decide (k<7))=true
  ·rw[if_pos j]
   exact Bn ⟨kp,M1,by omega,by omega,h,c,by omega⟩
  ·rw[if_neg j]
   exact Bn ⟨kp,M1,by omega,by omega,h,c,by omega⟩
theorem uN(C:Cmp prog w A s d Ok blt){p q out:Array Keyed}{x0 Y Z:Keyed}(T:Two Ok blt p q x0 Y Z){m n g ac W b:Nat}{v st:Ce}(kp:Kept v st)(hk:kindOf st=d)(M:HI blt p q out m n)(D:0<m)(l:m<=p.size)(n0:1<n)(hn:n<=q.size)(hb:m+n<=b){x y:Keyed}(u:p[m - 1]? = some x)(O:q[n - 1]? = some y)(F:le blt x y):wpS (model prog w) A E s (R5 p q out m n g ac W) (GE blt p q v b) st:=by
 unfold R5
 refine Bb (Ha O ?_)
 have M1:=HI.pushY C T M (by omega) hn O (Uy C T.sp D l u F)
 by_cases G:n - 1=1
 ·rw[if_pos (by rw[G]; rfl)]
  exact Bn ⟨kp,T.fs_end C M1 l G (by omega)⟩
 rw[if_neg (λz=>G (Ef z))]
 refine Bb (Ha u ?_)
 have h:∀i o,q[i]? = some o->q.getD (0+i) y=o:=λi o e=>by rw[Jq]; simp [By,e]
 have R:Row Ok q 0 (n - 1) (λi=>q.getD (0+i) y):=⟨λi K=>by
  obtain ⟨r,j⟩:=Hh (p:=q) (i:=i) (by omega)
  rw[h i r j,Jq,j],λi K=>by
  obtain ⟨r,j⟩:=Hh (p:=q) (i:=i) (by omega)
  show Ok (q.getD (0+i) y)
  rw[h i r j]
  exact T.oq r (La j)⟩
 refine Bb (Oz C R (T.op x (La u)) hk (by omega) (λa c I hc N=>?_) λt ht X t2=>?_)
 ·obtain ⟨r,j⟩:=Hh (p:=q) (i:=a) (by omega)
  obtain ⟨yc,L⟩:=Hh (p:=q) (i:=c) (by omega)
  simp only[h a r j,h c yc L,Ic,if_true] at N ⊢
  exact C.leLt (Mh C T.sq I (Ez j) (Ez L)) N
 dsimp only
 have M2:HI blt p q (out.push y++(q.extract t (n - 1)).reverse) m t:=by
  have:=MI.blockY M1 (Ky T.sq) (n - 1 - t) (by rw[En,Al]; omega) (λi K o P=>by
   have V:q[n - 1 - i - 1]? = some o:=by
    rw[Vq (by rw[Al]; omega),Al,show q.size - 1 - (q.size - (n - 1)+i)=n - 1 - i - 1 by omega] at P
    simpa using P
   have:=t2 (n - 1 - i - 1) (by omega) (by omega)
   rw[h _ o V] at this
   have z:blt o x=false:=by simpa only [Ic,if_true] using this
   exact Uy C T.sp D l u z)
  rw[<- GQ q (by omega) (by omega),<- Ea,show q.size - (n - 1)+(n - 1 - t)=q.size - t by omega] at this
  exact this
 -- what is left of q is f x
 have f:∀z∈q.toList.reverse.drop (q.size - t),ge blt x z:=λz S=>by
  rw[Lb q (by omega)] at S
  obtain ⟨k,B,e⟩:=Hw.mp (Ke.mp S)
  rw[Dl] at B
  have e2:q.toList[k]? = some z:=by
   rw[<- e,<- Ba (by rw[Dl]; exact B),Jt (by omega)]
  have e3:q[k]? = some z:=by simpa using e2
  have:=X k (by omega)
  rw[h k z e3] at this
  exact C.ofLt (by simpa only [Ic,if_true] using this)
 by_cases Q:n - 1 - t > 0
 ·rw[if_pos Q]
  by_cases J:t=1
  ·rw[if_pos (by rw[J]; rfl)]
   exact Bn ⟨kp,T.fs_end C M2 l J (by omega)⟩
  ·rw[if_neg (λz=>J (Ef z))]
   by_cases H:t=0
   ·rw[if_pos (by rw[H]; rfl)]
    exact Bn ⟨kp,T.dn_end M2 l (by omega) (.inr H)⟩
   ·rw[if_neg (λz=>H (Ef z))]
    exact sY C T kp M2 D l (by omega) (by omega) (by omega) u f
 ·rw[if_neg Q]
  have U:t=n - 1:=by omega
  rw[U] at f
  exact sY C T kp M1 D l (by omega) (by omega) (by omega) u f
theorem L3(C:Cmp prog w A s d Ok blt){p q out:Array Keyed}{x0 Y xl:Keyed}(T:Two Ok blt p q x0 Y xl){m n g ac W b:Nat}{v st:Ce}(kp:Kept v st)(hk:kindOf st=d)(M:HI blt p q out m n)(O:0<m)(K:m<=p.size)(J:1<n)(F:n<=q.size)(hb:m+n<=b):wpS (model prog w) A E s (DJ p q out m n g ac W) (GE blt p q v b) st:=by
 unfold DJ
 refine Bb (Uo λH D=>?_)
 have l:=kp.trans D
 have r:kindOf H=d:=D.kind.trans hk
 obtain ⟨y,B⟩:=Hh (p:=q) (i:=n - 1) (by omega)
 refine Bb (Ha B ?_)
 have f:∀i k,p[i]? = some k->p.getD (0+i) y=k:=λi k e=>by rw[Jq]; simp [By,e]
 have R:Row Ok p 0 m (λi=>p.getD (0+i) y):=⟨λi L=>by
  obtain ⟨u,j⟩:=Hh (p:=p) (i:=i) (by omega)
  rw[f i u j,Jq,j],λi L=>by
  obtain ⟨u,j⟩:=Hh (p:=p) (i:=i) (by omega)
  show Ok (p.getD (0+i) y)
  rw[f i u j]
  exact T.op u (La j)⟩
 refine Bb (Oz C R (T.oq y (La B)) r (by omega) (λa c G hc P=>?_) λt ht X t2=>?_)
 ·obtain ⟨u,j⟩:=Hh (p:=p) (i:=a) (by omega)
  obtain ⟨Z,N⟩:=Hh (p:=p) (i:=c) (by omega)
  simp only[f a u j,f c Z N,Ic,Bx,if_false,Jn] at P ⊢
  exact C.trans (Mh C T.sp G (Ez j) (Ez N)) P
 dsimp only
 have M1:HI blt p q (out++(p.extract t m).reverse) t n:=by
  have:=MI.blockX M (Ky T.sp) (m - t) (by rw[En,Al]; omega) (λi L k Q=>by
   have V:p[m - i - 1]? = some k:=by
    rw[Vq (by rw[Al]; omega),Al,show p.size - 1 - (p.size - m+i)=m - i - 1 by omega] at Q
    simpa using Q
   have:=t2 (m - i - 1) (by omega) (by omega)
   rw[f _ k V] at this
   have z:blt y k=true:=by simpa only [Ic,Bx,if_false,Zr] using this
   exact Uy C T.sq (by omega) F B (C.ofLt z))
  rw[<- GQ p (by omega) K,<- Ea,show p.size - m+(m - t)=p.size - t by omega] at this
  exact this
 have h:∀x,0<t->p[t - 1]? = some x->le blt x y:=λx h0 o=>by
  have:=X (t - 1) (by omega)
  rw[f _ x o] at this
  have z:blt y x=false:=by simpa only [Ic,Bx,if_false,Jn] using this
  exact z
 by_cases S:m - t > 0
 ·rw[if_pos S]
  by_cases I:t=0
  ·rw[if_pos (by rw[I]; rfl)]
   exact Bn ⟨l,T.dn_end M1 (by omega) F (.inl I)⟩
  ·rw[if_neg (λz=>I (Ef z))]
   obtain ⟨x,o⟩:=Hh (p:=p) (i:=t - 1) (by omega)
   exact uN C T l r M1 (by omega) (by omega) J F (by omega) o B (h x (by omega) o)
 ·rw[if_neg S]
  have U:t=m:=by omega
  subst U
  obtain ⟨x,o⟩:=Hh (p:=p) (i:=t - 1) (by omega)
  exact uN C T l r M O K J F hb o B (h x O o)
theorem sM(C:Cmp prog w A s d Ok blt){p q:Array Keyed}{x0 y0 Z:Keyed}(T:Two Ok blt p q x0 y0 Z){st:Ce}(hk:kindOf st=d){Q:Array Keyed->Ce->Prop}(h:∀r a,Kept st a->qH blt p q r->Q r a):wpS (model prog w) A E s (mT p q) Q st:=by
 have p0:0<p.size:=(Iz.mp T.hx0).1
 have q0:0<q.size:=(Iz.mp T.hy0).1
 obtain ⟨yl,R⟩:=Hh (p:=q) (i:=q.size - 1) (by omega)
 have S:HI blt p q #[Z] (p.size - 1) q.size:=by
  have m:HI blt p q #[] p.size q.size:=⟨by simp,by simp,λo U=>by simp at U,λo U=>by simp at U⟩
  have:=HI.pushX C T m p0 (Ak _) T.hxl (Uy C T.sq q0 (Ak _) R (C.ofLt (T.last yl (La R))))
  simpa using this
 unfold mT
 refine Bb (Uu ?_)
 refine Bb (Ha T.hxl ?_)
 dsimp only
 by_cases V:p.size - 1=0
 ·rw[if_pos (by rw[V]; rfl)]
  exact Bn (h _ _ (Kept.refl _) (T.dn_end S (by omega) (by omega) (.inl V)))
 rw[if_neg (λz=>V (Ef z))]
 by_cases X:q.size=1
 ·rw[if_pos (by rw[X]; rfl)]
  exact Bn (h _ _ (Kept.refl _) (T.fs_end C S (by omega) X (by omega)))
 rw[if_neg (λz=>X (Ef z))]
 refine Bb (Oq ?_)
 refine Bb (Iw (Fk
  (I:=λx c a=>Kept st a/\∃m n out g,c=(none,m,n,out,g)/\HI blt p q out m n/\0<m/\m<=p.size/\1<n/\n<=q.size/\m+n+x+1<=p.size+q.size)
  (Q:=λc a=>Kept st a/\∃r Gx,c=(some r,Gx)/\qH blt p q r) ?_ ?_ ⟨Kept.refl _,_,_,_,_,rfl,S,by omega,by omega,by omega,by omega,by omega⟩) ?_)
 ·(intro x c F _ J v; obtain ⟨B,m,n,out,g,rfl,M,t,j,u,k,D⟩ := v)
  dsimp only
  -- one by one
  refine Bb (Iw (Fk
   (I:=λ_ c a=>a=F/\∃m n out f e,c=(none,m,n,out,f,e)/\HI blt p q out m n/\0<m/\m<=p.size/\1<n/\n<=q.size/\m+n+x+1<=p.size+q.size)
   (Q:=λc a=>a=F/\((∃r Gx,c=(some r,Gx)/\qH blt p q r)\/∃m n out f e,c=(none,m,n,out,f,e)/\HI blt p q out m n/\0<m/\m<=p.size/\1<n/\n<=q.size/\m+n+x+1<=p.size+q.size)) ?_ ?_ ⟨rfl,m,n,out,0,0,rfl,M,t,j,u,k,D⟩) ?_)
  ·(intro z c N _ hz v; obtain ⟨rfl,m,n,out,f,e,rfl,M,t,j,u,k,D⟩ := v)
   dsimp only
   obtain ⟨yy,L⟩:=Hh (p:=q) (i:=n - 1) (by omega)
   obtain ⟨Y,J⟩:=Hh (p:=p) (i:=m - 1) (by omega)
   refine Bb (Ha L ?_)
   refine Bb (Ha J ?_)
   refine Bb (oK C (B.kind.trans hk) (T.oq yy (La L)) (T.op Y (La J)) ?_)
   dsimp only
   cases P:blt yy Y with
   | true =>
    rw[if_pos rfl]
    refine Bb (Ha J ?_)
    have M1:=HI.pushX C T M t j J (Uy C T.sq (by omega) k L (C.ofLt P))
    by_cases H:m - 1=0
    ·rw[if_pos (by rw[H]; rfl)]
     exact Bn ⟨rfl,.inl ⟨_,_,rfl,T.dn_end M1 (by omega) k (.inl H)⟩⟩
    ·rw[if_neg (λz=>H (Ef z))]
     split
     ·exact Bn ⟨rfl,.inr ⟨_,_,_,_,_,rfl,M1,by omega,by omega,u,k,by omega⟩⟩
     ·exact Bn ⟨rfl,_,_,_,_,_,rfl,M1,by omega,by omega,u,k,by omega⟩
   | false =>
    rw[if_neg Cw]
    refine Bb (Ha L ?_)
    have M1:=HI.pushY C T M (by omega) k L (Uy C T.sp t j J P)
    by_cases H:n - 1=1
    ·rw[if_pos (by rw[H]; rfl)]
     exact Bn ⟨rfl,.inl ⟨_,_,rfl,T.fs_end C M1 j H (by omega)⟩⟩
    ·rw[if_neg (λz=>H (Ef z))]
     split
     ·exact Bn ⟨rfl,.inr ⟨_,_,_,_,_,rfl,M1,t,j,by omega,by omega,by omega⟩⟩
     ·exact Bn ⟨rfl,_,_,_,_,_,rfl,M1,t,j,by omega,by omega,by omega⟩
  ·(intro c N v; obtain ⟨rfl,m,n,out,f,e,rfl,M⟩ := v)
   exact ⟨rfl,.inr ⟨m,n,out,f,e,rfl,M⟩⟩
  ·rintro c N ⟨rfl,hc⟩
   rcases hc with hc | hc
   ·obtain ⟨r,Gx,rfl,b⟩:=hc
    exact Bn ⟨B,r,_,rfl,b⟩
   ·obtain ⟨m,n,out,f,e,rfl,M,t,j,u,k,D⟩:=hc
    dsimp only
    refine Bb (Uu ?_)
    -- the gallop
    refine Bb (Iw (Fk
     (I:=λy c a=>Kept st a/\∃m n out g f e,c=(none,m,n,out,g,f,e)/\HI blt p q out m n/\0<m/\m<=p.size/\1<n/\n<=q.size/\(if y=0 then m+n+x+1<=p.size+q.size else m+n+x+2<=p.size+q.size))
     (Q:=λc a=>Kept st a/\((∃r Gx,c=(some r,Gx)/\qH blt p q r)\/∃m n out g f e,c=(none,m,n,out,g,f,e)/\HI blt p q out m n/\0<m/\m<=p.size/\1<n/\n<=q.size/\m+n+x+2<=p.size+q.size)) ?_ ?_
     ⟨B,m,n,out,_,f,e,rfl,M,t,j,u,k,by rw[if_pos rfl]; exact D⟩) ?_)
    ·(intro y c Vk _ L v; obtain ⟨l,m,n,out,g,f,e,rfl,M,t,j,u,k,D⟩ := v)
     have h0:m+n+x+1<=p.size+q.size:=by split at D <;> omega
     have O:∀K,wpS (model prog w) A E s (DJ p q out m n K f e) (GE blt p q st (m+n)) Vk:=λK=>L3 C T l (l.kind.trans hk) M t j u k (Ak _)
     dsimp only
     refine Iw (?_:wpS (model prog w) A E s _ (GE blt p q st (m+n)) Vk) λr W b=>?_
     ·by_cases hg:g > 1
      ·rw[if_pos hg]
       exact O _
      ·rw[if_neg hg]
       exact O _
     ·obtain ⟨G,b⟩:=b
      match r,b with
      | .done (some r,Gx),b=>exact ⟨G,.inl ⟨r,Gx,rfl,b⟩⟩
      | .done (none,m',n',out',K,ac',bc'),b=>exact ⟨G,.inr ⟨m',n',out',K,ac',bc',rfl,b.1,b.2.1,b.2.2.1,b.2.2.2.1,b.2.2.2.2.1,by have:=b.2.2.2.2.2; omega⟩⟩
      | .yield (none,m',n',out',K,ac',bc'),b=>exact ⟨G,m',n',out',K,ac',bc',rfl,b.1,b.2.1,b.2.2.1,b.2.2.2.1,b.2.2.2.2.1,by rw[if_neg (by omega)]; have:=b.2.2.2.2.2; omega⟩
    ·(intro c Vk v; obtain ⟨l,m,n,out,g,f,e,rfl,M,t,j,u,k,D⟩ := v)
     rw[if_neg (by omega)] at D
     exact ⟨l,.inr ⟨m,n,out,g,f,e,rfl,M,t,j,u,k,D⟩⟩
    ·rintro c Vk ⟨l,hc⟩
     rcases hc with hc | hc
     ·obtain ⟨r,Gx,rfl,b⟩:=hc
      exact Bn ⟨l,r,_,rfl,b⟩
     ·obtain ⟨m,n,out,g,f,e,rfl,M,t,j,u,k,D⟩:=hc
      dsimp only
      refine Bb (Uo λW G=>?_)
      exact Bn ⟨l.trans G,m,n,out,_,rfl,M,t,j,u,k,by omega⟩
 ·(intro c F v; obtain ⟨B,m,n,out,g,rfl,M,t,j,u,k,D⟩ := v)
  exfalso
  have : max 0 (p.size+q.size)=p.size+q.size:=by omega
  rw[this] at D
  omega
 ·(intro c F v; obtain ⟨B,r,Gx,rfl,b⟩ := v)
  exact Bn (h r F B b)
end
def gZ:Nat->Nat->StateT Ce Sem (Option Nat):=sortPriv% PySem.Builtin.countRun
def Zs:Nat->Nat->Nat->StateT Ce Sem Bool:=sortPriv% PySem.Builtin.binarySort
def X(xs:Array Keyed)(i:Nat):Keyed:=xs[i]?.getD (Yi,Yi)
theorem Yw{xs:Array Keyed}{i:Nat}(h:i<xs.size):xs[i]? = some (X xs i):=by
 unfold X
 rw[getElem?_pos xs i h]
 rfl
theorem Sm{xs ys:Array Keyed}{i j:Nat}(h:xs[i]? = ys[j]?):X xs i=X ys j:=by unfold X; rw[h]
theorem Tw{xs:Array Keyed}{i j:Nat}(a:j<=xs.size)(k:Nat):X (mirror xs i j ((j - i) / 2)) k=if i<=k/\k<j then X xs (i+j - 1 - k) else X xs k:=by
 have e:=getElem?_mirror_all (i:=i) a k
 by_cases h:i<=k/\k<j
 ·rw[if_pos h] at e ⊢; exact Sm e
 ·rw[if_neg h] at e ⊢; exact Sm e
theorem F9{xs:Array Keyed}{src d:Nat}(c:src<xs.size)(hd:d<=src)(k:Nat):X (bubble xs src d) k=if k=src - d then X xs src else if src - d<k/\k<=src then X xs (k - 1) else X xs k:=by
 have e:=getElem?_bubble c d hd k
 by_cases a:k=src - d
 ·rw[if_pos a] at e ⊢; exact Sm e
 ·rw[if_neg a] at e ⊢
  by_cases b:src - d<k/\k<=src
  ·rw[if_pos b] at e ⊢; exact Sm e
  ·rw[if_neg b] at e ⊢; exact Sm e
def Tg(blt:Keyed->Keyed->Bool)(xs:Array Keyed)(a b:Nat):Prop:=∀i j,a<=i->i<=j->j<b->le blt (X xs i) (X xs j)
def yF(blt:Keyed->Keyed->Bool)(xs:Array Keyed)(a b:Nat):Prop:=∀i j,a<=i->i<=j->j<b->le blt (X xs j) (X xs i)
structure Good(kd:Mo)(a₀:Array Keyed)(pend:Array (Nat×Nat×Nat))(st:Ce):Prop where
 kind:kindOf st=kd
 fail:Mn st=none
 perm:(arrOf st).Perm a₀
 pd:Bj st=pend
def lS(xs ys:Array Keyed)(a b:Nat):Prop:=∀i,(i<a\/b<=i)->X ys i=X xs i
theorem lS.refl(xs:Array Keyed)(a b:Nat):lS xs xs a b:=λ_ _=>rfl
theorem lS.trans{xs ys c:Array Keyed}{a b:Nat}(h:lS xs ys a b)(k:lS ys c a b):lS xs c a b:=λi d=>(k i d).trans (h i d)
section
variable{prog:Bz}{w:World}{A:Dm}{s:Ap}{f:Mo}{Ok:Keyed->Prop}{blt:Keyed->Keyed->Bool}{E:Value->Ap->Prop}{a₀:Array Keyed}{d:Array (Nat×Nat×Nat)}
theorem Good.size{st:Ce}(g:Good f a₀ d st):(arrOf st).size=a₀.size:=g.perm.size_eq
theorem Good.okX{st:Ce}(g:Good f a₀ d st)(h0:∀x∈a₀.toList,Ok x){i:Nat}(a:i<a₀.size):Ok (X (arrOf st) i):=by
 have e:=Yw (xs:=arrOf st) (i:=i) (by rw[g.size]; exact a)
 exact h0 _ ((Lr.mp g.perm).mem_iff.mp (La e))
theorem Good.set{st:Ce}(g:Good f a₀ d st){xs:Array Keyed}(h:xs.Perm (arrOf st)):Good f a₀ d (setArr st xs):=⟨g.kind,g.fail,h.trans g.perm,g.pd⟩
theorem Xx(C:Cmp prog w A s f Ok blt){st:Ce}(g:Good f a₀ d st)(h0:∀x∈a₀.toList,Ok x){i j:Nat}(b:i<a₀.size)(a:j<a₀.size){Q:Option Bool->Ce->Prop}(h:Q (some (blt (X (arrOf st) i) (X (arrOf st) j))) st):wpS (model prog w) A E s (ltAt' i j) Q st:=by
 rw[ltAt'_eq]
 refine Bb (Oq ?_)
 refine Bb (Ha (Yw (by rw[g.size]; exact b)) ?_)
 refine Bb (Ha (Yw (by rw[g.size]; exact a)) ?_)
 exact oK C g.kind (g.okX h0 b) (g.okX h0 a) h
theorem Si{st:Ce}{i j:Nat}{Q:Unit->Ce->Prop}(h:Q () (setArr st (mirror (arrOf st) i j ((j - i) / 2)))):wpS (model prog w) A E s (Vf i j) Q st:=by
 rw[reverseSlice'_eq]
 exact Lg h
def EV(lo a b:Nat):StateT Ce Sem (Option (Option Nat)×Nat) :=
 forIn [a:b] ((none,a):Option (Option Nat)×Nat) λ_ c=>do
  let some oS <- ltAt' (lo+c.2) (lo+c.2 - 1) | pure (Dd (some none,c.2))
  if oS=true then pure (Dd (none,c.2)) else pure (Hg (none,c.2+1))
theorem n6(C:Cmp prog w A s f Ok blt){st:Ce}(g:Good f a₀ d st)(h0:∀x∈a₀.toList,Ok x){lo a b:Nat}(hb:lo+b<=a₀.size)(z:1<=a)(o:a<=b)(h1:Tg blt (arrOf st) lo (lo+a)){Q:Option (Option Nat)×Nat->Ce->Prop}(h:∀n,a<=n->n<=b->Tg blt (arrOf st) lo (lo+n)->(n=b\/blt (X (arrOf st) (lo+n)) (X (arrOf st) (lo+n - 1))=true)->Q (none,n) st):wpS (model prog w) A E s (EV lo a b) Q st:=by
 unfold EV
 refine Fk (I:=λx c e=>e=st/\c=(none,x)/\Tg blt (arrOf st) lo (lo+x)) ?_ ?_ ⟨rfl,rfl,h1⟩
 ·(intro x c e l v r; obtain ⟨rfl,rfl,k⟩ := r)
  dsimp only
  refine Bb (Xx C g h0 (by omega) (by omega) ?_)
  dsimp only
  cases t:blt (X (arrOf e) (lo+x)) (X (arrOf e) (lo+x - 1)) with
  | true =>
   rw[if_pos rfl]
   exact Bn (h x l (by omega) k (.inr t))
  | false =>
   rw[if_neg Cw]
   refine Bn ⟨rfl,rfl,λi j u q B=>?_⟩
   by_cases p:j<lo+x
   ·exact k i j u q p
   ·have y:j=lo+x:=by omega
    subst y
    by_cases m:i=lo+x
    ·subst m; exact C.refl _
    ·exact C.trans (k i (lo+x - 1) u (by omega) (by omega)) t
 ·(intro c e r; obtain ⟨rfl,rfl,k⟩ := r)
  rw[show max a b=b by omega] at k ⊢
  exact h b o (Ak _) k (.inl rfl)
theorem qM{xs:Array Keyed}{lo n:Nat}(a:lo+n<=xs.size)(h:yF blt xs lo (lo+n)):Tg blt (mirror xs lo (lo+n) ((lo+n - lo) / 2)) lo (lo+n):=λi j d b c=>by
 rw[Tw a,Tw a,if_pos (by omega),if_pos (by omega)]
 exact h _ _ (by omega) (by omega) (by omega)
theorem Zg{xs:Array Keyed}{lo n b e:Nat}(m:lo+n<=xs.size)(l:e<=lo+n)(hb:lo<=b)(h:yF blt xs lo (lo+n))(c:∀i j,b<=i->i<e->b<=j->j<e->le blt (X xs i) (X xs j)):yF blt (mirror xs b e ((e - b) / 2)) lo (lo+n):=λi j g d k=>by
 rw[Tw (by omega),Tw (by omega)]
 by_cases f:b<=j/\j<e
 ·rw[if_pos f]
  by_cases a:b<=i/\i<e
  ·rw[if_pos a]
   exact c _ _ (by omega) (by omega) (by omega) (by omega)
  ·rw[if_neg a]
   exact h _ _ g (by omega) (by omega)
 ·rw[if_neg f]
  by_cases a:b<=i/\i<e
  ·rw[if_pos a]
   exact h _ _ (by omega) (by omega) (by omega)
  ·rw[if_neg a]
   exact h i j g d k
theorem Sb{xs:Array Keyed}{a b i j:Nat}(h1:a<=i)(e:j<=b)(c:j<=xs.size):lS xs (mirror xs i j ((j - i) / 2)) a b:=λk d=>by
 rw[Tw c,if_neg (by omega)]
def yW(lo n b:Nat):StateT Ce Sem (Option Nat):=do
 Vf lo (lo+n)
 let mut m:=n
 for _ in [n:b] do
  let some oS <- ltAt' (lo+m) (lo+m - 1) | return none
  if oS then break
  m:=m+1
 return some m
theorem uB(C:Cmp prog w A s f Ok blt){st:Ce}(g:Good f a₀ d st)(h0:∀x∈a₀.toList,Ok x){lo n b:Nat}(hb:lo+b<=a₀.size)(o:1<=n)(i:n<=b)(h1:yF blt (arrOf st) lo (lo+n)){Q:Option Nat->Ce->Prop}(h:∀m a,Good f a₀ d a->1<=m->m<=b->Tg blt (arrOf a) lo (lo+m)->lS (arrOf st) (arrOf a) lo (lo+b)->Q (some m) a):wpS (model prog w) A E s (yW lo n b) Q st:=by
 unfold yW
 have c:lo+n<=(arrOf st).size:=by rw[g.size]; omega
 refine Bb (Si ?_)
 have j:Good f a₀ d (setArr st (mirror (arrOf st) lo (lo+n) ((lo+n - lo) / 2))):=g.set (mirror_perm _ _ _ _)
 refine Bb (n6 C j h0 hb o i (qM c h1) λm l e k _=>?_)
 exact Bn (h m _ j (by omega) e k (Sb (Ak _) (by omega) c))
abbrev BJ:=Option (Option Nat)×Nat×Nat
def FT(lo a b:Nat):StateT Ce Sem BJ :=
 forIn [a:b] ((none,a,0):BJ) λ_ c=>do
  let some oS <- ltAt' (lo+c.2.1) (lo+c.2.1 - 1) | pure (Dd (some none,c.2.1,c.2.2))
  if oS=true then
   if c.2.2 > 0 then do
    Vf (lo+c.2.1 - (c.2.2+1)) (lo+c.2.1)
    pure (Hg (none,c.2.1+1,0))
   else pure (Hg (none,c.2.1+1,0))
  else do
   let some more <- ltAt' (lo+c.2.1 - 1) (lo+c.2.1) | pure (Dd (some none,c.2.1,c.2.2))
   if more=true then pure (Dd (none,c.2.1,c.2.2)) else pure (Hg (none,c.2.1+1,c.2.2+1))
def L8(blt:Keyed->Keyed->Bool)(xs:Array Keyed)(lo n e:Nat):Prop:=e+1<=n/\∀i j,lo+n - (e+1)<=i->i<lo+n->lo+n - (e+1)<=j->j<lo+n->le blt (X xs i) (X xs j)
theorem E8(C:Cmp prog w A s f Ok blt){xs:Array Keyed}{lo n:Nat}(h:1<=n):L8 blt xs lo n 0:=⟨by omega,λi j b c a d=>by
 have e:i=j:=by omega
 subst e
 exact C.refl _⟩
theorem Xp(C:Cmp prog w A s f Ok blt){xs:Array Keyed}{lo n:Nat}(g:1<=n)(h:yF blt xs lo (lo+n))(hl:le blt (X xs (lo+n)) (X xs (lo+n - 1))):yF blt xs lo (lo+(n+1)):=λi j d b k=>by
 by_cases c:j<lo+n
 ·exact h i j d b c
 ·have e:j=lo+n:=by omega
  subst e
  by_cases a:i=lo+n
  ·subst a; exact C.refl _
  ·exact C.trans hl (h i (lo+n - 1) d (by omega) (by omega))
theorem T9(C:Cmp prog w A s f Ok blt){st:Ce}(g:Good f a₀ d st)(h0:∀x∈a₀.toList,Ok x){lo a b:Nat}(hb:lo+b<=a₀.size)(N:1<=a)(v:a<=b)(h1:yF blt (arrOf st) lo (lo+a)){Q:BJ->Ce->Prop}(h:∀n e k,Good f a₀ d k->a<=n->n<=b->yF blt (arrOf k) lo (lo+n)->L8 blt (arrOf k) lo n e->lS (arrOf st) (arrOf k) lo (lo+b)->Q (none,n,e) k):wpS (model prog w) A E s (FT lo a b) Q st:=by
 unfold FT
 refine Fk (I:=λx c k=>∃e,c=(none,x,e)/\Good f a₀ d k/\yF blt (arrOf k) lo (lo+x)/\L8 blt (arrOf k) lo x e/\lS (arrOf st) (arrOf k) lo (lo+b)) ?_ ?_
  ⟨0,rfl,g,h1,E8 C N,lS.refl _ _ _⟩
 ·(intro x c k r L z; obtain ⟨e,rfl,m,p,l,o⟩ := z)
  have M:(arrOf k).size=a₀.size:=m.size
  dsimp only
  refine Bb (Xx C m h0 (by omega) (by omega) ?_)
  dsimp only
  cases H:blt (X (arrOf k) (lo+x)) (X (arrOf k) (lo+x - 1)) with
  | true =>
   rw[if_pos rfl]
   have F:=Xp C (by omega) p (C.ofLt H)
   have one:∀J:Array Keyed,L8 blt J lo (x+1) 0:=λJ=>⟨by omega,λi j B y u t=>by
    have : i=j:=by omega
    subst this
    exact C.refl _⟩
   by_cases G:e > 0
   ·rw[if_pos G]
    refine Bb (Si ?_)
    refine Bn ⟨0,rfl,m.set (mirror_perm _ _ _ _),?_,one _,o.trans (Sb (by have:=l.1; omega) (by omega) (by omega))⟩
    exact Zg (by omega) (by omega) (by have:=l.1; omega) F λi j B y u t=>l.2 i j B y u t
   ·rw[if_neg G]
    exact Bn ⟨0,rfl,m,F,one _,o⟩
  | false =>
   rw[if_neg Cw]
   refine Bb (Xx C m h0 (by omega) (by omega) ?_)
   dsimp only
   cases D:blt (X (arrOf k) (lo+x - 1)) (X (arrOf k) (lo+x)) with
   | true =>
    rw[if_pos rfl]
    exact Bn (h x e k m r (by omega) p l o)
   | false =>
    rw[if_neg Cw]
    refine Bn ⟨e+1,rfl,m,Xp C (by omega) p D,⟨by have:=l.1; omega,λi j B y u t=>?_⟩,o⟩
    have P:le blt (X (arrOf k) (lo+x - 1)) (X (arrOf k) (lo+x)):=H
    have O:le blt (X (arrOf k) (lo+x)) (X (arrOf k) (lo+x - 1)):=D
    by_cases K:i=lo+x
    ·by_cases q:j=lo+x
     ·rw[K,q]; exact C.refl _
     ·rw[K]
      exact C.trans O (l.2 (lo+x - 1) j (by omega) (by omega) (by omega) (by omega))
    ·by_cases q:j=lo+x
     ·rw[q]
      exact C.trans (l.2 i (lo+x - 1) (by omega) (by omega) (by omega) (by omega)) P
     ·exact l.2 i j (by omega) (by omega) (by omega) (by omega)
 ·(intro c k z; obtain ⟨e,rfl,m,p,l,o⟩ := z)
  rw[show max a b=b by omega] at p l ⊢
  exact h b e k m v (Ak _) p l o
def X8(lo n b:Nat):StateT Ce Sem (Option Nat):=do
 liftM (rule "list.sort.descending-run")
 let mut m:=n+1
 let mut e:=0
 for _ in [m:b] do
  let some oS <- ltAt' (lo+m) (lo+m - 1) | return none
  if oS then
   if e > 0 then Vf (lo+m - (e+1)) (lo+m)
   e:=0
  else
   let some more <- ltAt' (lo+m - 1) (lo+m) | return none
   if more then break
   e:=e+1
  m:=m+1
 if e > 0 then Vf (lo+m - (e+1)) (lo+m)
 yW lo m b
theorem tI(C:Cmp prog w A s f Ok blt){st:Ce}(g:Good f a₀ d st)(h0:∀x∈a₀.toList,Ok x){lo n b:Nat}(hb:lo+b<=a₀.size)(y:n+1<=b)(h1:yF blt (arrOf st) lo (lo+(n+1))){Q:Option Nat->Ce->Prop}(h:∀m a,Good f a₀ d a->1<=m->m<=b->Tg blt (arrOf a) lo (lo+m)->lS (arrOf st) (arrOf a) lo (lo+b)->Q (some m) a):wpS (model prog w) A E s (X8 lo n b) Q st:=by
 unfold X8
 refine Bb (Uu ?_)
 refine Bb (T9 C g h0 hb (by omega) y h1 λk e o t L z B q F=>?_)
 dsimp only
 have G:(arrOf o).size=a₀.size:=t.size
 by_cases D:e > 0
 ·rw[if_pos D]
  refine Bb (Si ?_)
  refine uB C (t.set (mirror_perm _ _ _ _)) h0 hb (by omega) z (Zg (by omega) (by omega) (by have:=q.1; omega) B λi j K J I H=>q.2 i j K J I H) λm c r u p v l=>?_
  exact h m c r u p v ((F.trans (Sb (by have:=q.1; omega) (by omega) (by omega))).trans l)
 ·rw[if_neg D]
  exact uB C t h0 hb (by omega) z B λm c r u p v l=>h m c r u p v (F.trans l)
theorem D0(C:Cmp prog w A s f Ok blt){st:Ce}(g:Good f a₀ d st)(h0:∀x∈a₀.toList,Ok x){lo b:Nat}(hb:lo+b<=a₀.size)(J:1<=b){Q:Option Nat->Ce->Prop}(h:∀m a,Good f a₀ d a->1<=m->m<=b->Tg blt (arrOf a) lo (lo+m)->lS (arrOf st) (arrOf a) lo (lo+b)->Q (some m) a):wpS (model prog w) A E s (gZ lo b) Q st:=by
 unfold gZ
 have F:(arrOf st).size=a₀.size:=g.size
 refine Bb (n6 C g h0 hb (Ak _) J (λi j o y l=>by
  have : i=j:=by omega
  subst this
  exact C.refl _) λn r B p t=>?_)
 dsimp only
 by_cases e:n=b
 ·rw[if_pos (by rw[e]; exact beq_self_eq_true _)]
  exact Bn (h n st g r B p (lS.refl _ _ _))
 rw[if_neg (λz=>e (Ef z))]
 have k:blt (X (arrOf st) (lo+n)) (X (arrOf st) (lo+n - 1))=true:=t.resolve_left e
 by_cases D:n > 1
 ·rw[if_pos D]
  refine Bb (Xx C g h0 (by omega) (by omega) ?_)
  dsimp only
  cases K:blt (X (arrOf st) lo) (X (arrOf st) (lo+n - 1)) with
  | true =>
   rw[if_pos rfl]
   exact Bn (h n st g r B p (lS.refl _ _ _))
  | false =>
   rw[if_neg Cw]
   refine Bb (Si ?_)
   -- all of it are alike
   have c:∀i j,lo<=i->i<lo+n->lo<=j->j<lo+n->le blt (X (arrOf st) i) (X (arrOf st) j):=λi j o y l G =>
    C.trans (p i (lo+n - 1) o (by omega) (by omega)) (C.trans K (p lo j (Ak _) l G))
   have u:yF blt (arrOf st) lo (lo+(n+1)):=Xp C r (λi j o y l=>c j i (by omega) l o (by omega)) (C.ofLt k)
   exact tI C (g.set (mirror_perm _ _ _ _)) h0 hb (by omega) (Zg (by omega) (by omega) (Ak _) u c) λm q I M H N v=>h m q I M H N ((Sb (Ak _) (by omega) (by omega)).trans v)
 ·rw[if_neg D]
  have L:n=1:=by omega
  subst L
  have u:yF blt (arrOf st) lo (lo+(1+1)):=Xp C (Ak _) (λi j o y l=>by
   have : i=j:=by omega
   subst this
   exact C.refl _) (C.ofLt k)
  exact tI C g h0 hb (by omega) u h
end
def Xy:Nat->StateT Ce Sem Bool:=sortPriv% PySem.Builtin.mergeAt
section
variable{prog:Bz}{w:World}{A:Dm}{s:Ap}{b:Mo}{Ok:Keyed->Prop}{blt:Keyed->Keyed->Bool}{E:Value->Ap->Prop}{a₀:Array Keyed}{a:Array (Nat×Nat×Nat)}
theorem nX{st:Ce}{i j:Nat}{Q:Unit->Ce->Prop}(h:Q () (setArr st (bubble (arrOf st) i (i - j)))):wpS (model prog w) A E s (moveDown' i j) Q st:=by
 rw[moveDown'_eq]
 exact Lg h
theorem xP(C:Cmp prog w A s b Ok blt){st:Ce}(g:Good b a₀ a st)(h0:∀x∈a₀.toList,Ok x){lo n ok:Nat}(hb:lo+n<=a₀.size)(h1:Tg blt (arrOf st) lo (lo+ok))(T:ok<=n){Q:Bool->Ce->Prop}(h:∀f,Good b a₀ a f->Tg blt (arrOf f) lo (lo+n)->lS (arrOf st) (arrOf f) lo (lo+n)->Q true f):wpS (model prog w) A E s (Zs lo n ok) Q st:=by
 unfold Zs
 refine Bb (Iw (Fk
  (I:=λk c f=>c=(none,())/\Good b a₀ a f/\Tg blt (arrOf f) lo (lo+k)/\lS (arrOf st) (arrOf f) lo (lo+n))
  (Q:=λc f=>c=(none,())/\Good b a₀ a f/\Tg blt (arrOf f) lo (lo+n)/\lS (arrOf st) (arrOf f) lo (lo+n)) ?_ ?_ ⟨rfl,g,?_,lS.refl _ _ _⟩) ?_)
 ·(intro k c m Y V p; obtain ⟨rfl,t,q,D⟩ := p)
  have W:(arrOf m).size=a₀.size:=t.size
  dsimp only
  refine Bb (Iw (Fk
   (I:=λy c f=>f=m/\∃l r,c=(none,l,r)/\l<=r/\r<=k/\r - l+y<=k/\(∀i,i<l->le blt (X (arrOf m) (lo+i)) (X (arrOf m) (lo+k)))/\(∀i,r<=i->i<k->blt (X (arrOf m) (lo+k)) (X (arrOf m) (lo+i))=true))
   (Q:=λc f=>f=m/\∃l,c=(none,l,l)/\l<=k/\(∀i,i<l->le blt (X (arrOf m) (lo+i)) (X (arrOf m) (lo+k)))/\(∀i,l<=i->i<k->blt (X (arrOf m) (lo+k)) (X (arrOf m) (lo+i))=true)) ?_ ?_
   ⟨rfl,0,k,rfl,by omega,by omega,by omega,λi R=>by omega,λi h1 Z=>by omega⟩) ?_)
  ·(intro y c o _ hy p; obtain ⟨rfl,l,r,rfl,U,F,P,v,u⟩ := p)
   dsimp only
   by_cases G:l ≥ r
   ·rw[if_pos G]
    have e:l=r:=by omega
    subst e
    exact Bn ⟨rfl,l,rfl,F,v,u⟩
   ·rw[if_neg G]
    refine Bb (Xx C t h0 (by omega) (by omega) ?_)
    dsimp only
    cases S:blt (X (arrOf o) (lo+k)) (X (arrOf o) (lo+(l+r) / 2)) with
    | true =>
     rw[if_pos rfl]
     exact Bn ⟨rfl,l,(l+r) / 2,rfl,by omega,by omega,by omega,v,λi H B=>C.ltLe S (q _ _ (by omega) (by omega) (by omega))⟩
    | false =>
     rw[if_neg Cw]
     exact Bn ⟨rfl,(l+r) / 2+1,r,rfl,by omega,F,by omega,λi R=>C.trans (q _ _ (by omega) (by omega) (by omega)) S,u⟩
  ·(intro c o p; obtain ⟨rfl,l,r,rfl,U,F,P,v,u⟩ := p)
   have : max 0 k=k:=by omega
   rw[this] at P
   have e:l=r:=by omega
   subst e
   exact ⟨rfl,l,rfl,F,v,u⟩
  ·(intro c o p; obtain ⟨rfl,l,rfl,F,v,u⟩ := p)
   dsimp only
   refine Bb (nX ?_)
   have K:=λi=>F9 (xs:=arrOf o) (src:=lo+k) (d:=lo+k - (lo+l)) (by omega) (by omega) i
   have M:lo+k - (lo+k - (lo+l))=lo+l:=by omega
   refine Bn ⟨rfl,t.set (bubble_perm _ _ _),λi j H B O=>?_,D.trans λi R=>?_⟩
   ·show le blt (X (bubble (arrOf o) (lo+k) (lo+k - (lo+l))) i) (X (bubble (arrOf o) (lo+k) (lo+k - (lo+l))) j)
    rw[K,K,M]
    by_cases N:i=lo+l
    ·rw[if_pos N]
     by_cases z:j=lo+l
     ·rw[if_pos z]; exact C.refl _
     ·rw[if_neg z]
      by_cases J:lo+l<j/\j<=lo+k
      ·rw[if_pos J]
       have:=u (j - 1 - lo) (by omega) (by omega)
       rw[show lo+(j - 1 - lo)=j - 1 by omega] at this
       exact C.ofLt this
      ·exfalso; omega
    ·rw[if_neg N]
     by_cases z:j=lo+l
     ·rw[if_pos z,if_neg (by omega)]
      have:=v (i - lo) (by omega)
      rw[show lo+(i - lo)=i by omega] at this
      exact this
     ·rw[if_neg z]
      by_cases J:lo+l<i/\i<=lo+k
      ·rw[if_pos J,if_pos (by omega)]
       exact q _ _ (by omega) (by omega) (by omega)
      ·rw[if_neg J]
       by_cases L:lo+l<j/\j<=lo+k
       ·rw[if_pos L]
        exact q _ _ (by omega) (by omega) (by omega)
       ·rw[if_neg L]
        exact q _ _ (by omega) (by omega) (by omega)
   ·show X (bubble (arrOf o) (lo+k) (lo+k - (lo+l))) i=X (arrOf o) i
    rw[K,M,if_neg (by omega),if_neg (by omega)]
 ·(intro c m p; obtain ⟨rfl,t,q,D⟩ := p)
  refine ⟨rfl,t,λi j H B O=>q i j H B (by omega),D⟩
 ·intro i j H B O
  by_cases e:i=j
  ·subst e; exact C.refl _
  ·exact h1 i j H B (by omega)
 ·(intro c m p; obtain ⟨rfl,t,q,D⟩ := p)
  exact Bn (h m t q D)
end
abbrev Po(xs:Array Keyed)(b:Nat)(l:List (Keyed×Nat)):Array Keyed:=l.foldl (λa x=>match x with | (p,j)=>a.setIfInBounds (b+j) p) xs
theorem dZ(b:Nat):∀(l:List Keyed) (o:Nat) (xs:Array Keyed),b+o+l.length<=xs.size->(Po xs b (l.zipIdx o)).size=xs.size/\∀i:Nat,(Po xs b (l.zipIdx o))[i]? = if b+o<=i/\i<b+o+l.length then l[i - (b+o)]? else xs[i]?
 | [],o,xs,_=>⟨rfl,λi=>by rw[if_neg (by rw[Gv]; omega)]; rfl⟩
 | x::l,o,xs,h=>by
  rw[Bg] at h
  have a:=dZ b l (o+1) (xs.setIfInBounds (b+o) x) (by rw[Mp]; omega)
  have e:Po xs b ((x::l).zipIdx o)=Po (xs.setIfInBounds (b+o) x) b (l.zipIdx (o+1)):=by
   rw[List.zipIdx_cons]
   rfl
  rw[e]
  refine ⟨a.1.trans (Mp),λi=>?_⟩
  rw[a.2 i,Bg]
  by_cases c:b+(o+1)<=i/\i<b+(o+1)+l.length
  ·rw[if_pos c,if_pos (by omega)]
   rw[show i - (b+o)=(i - (b+(o+1)))+1 by omega,Te]
  ·rw[if_neg c]
   by_cases d:i=b+o
   ·subst d
    rw[if_pos (by omega),Array.getElem?_setIfInBounds_self_of_lt (by omega),Nat.sub_self]
    rfl
   ·rw[if_neg (by omega),Array.getElem?_setIfInBounds_ne (by omega)]
theorem pY{xs m:Array Keyed}{b n:Nat}(hb:b+n<=xs.size)(d:m.size=n)(c:m.toList.Perm ((xs.toList.drop b).take n)):(Po xs b m.toList.zipIdx).Perm xs:=by
 have f:=dZ b m.toList 0 xs (by rw[Al]; omega)
 have e:(Po xs b m.toList.zipIdx).toList=xs.toList.take b++(m.toList++xs.toList.drop (b+n)):=by
  apply Hk
  intro i
  have a:=f.2 i
  rw[Al,d] at a
  have h:(Po xs b m.toList.zipIdx).toList[i]? = (Po xs b m.toList.zipIdx)[i]?:=by simp
  rw[h,a]
  have lt:(xs.toList.take b).length=b:=by rw[Dl,Al]; omega
  by_cases g:i<b
  ·rw[if_neg (by omega),Mc (by omega),Jt g]
   simp
  ·rw[Fz (by omega),lt]
   by_cases k:i<b+n
   ·rw[if_pos (by omega),Mc (by rw[Al]; omega)]
    congr 1
   ·rw[if_neg (by omega),Fz (by rw[Al]; omega),Zn,Al]
    rw[show b+n+(i - b - m.size)=i by omega]
    simp
 refine Array.perm_iff_toList_perm.mpr ?_
 rw[e]
 have j:xs.toList=xs.toList.take b++((xs.toList.drop b).take n++xs.toList.drop (b+n)):=by
  conv=>lhs; rw[<- Dn b xs.toList]
  congr 1
  conv=>lhs; rw[<- Dn n (xs.toList.drop b)]
  rw[List.drop_drop]
 conv=>rhs; rw[j]
 exact Nn _ (List.Perm.append_right _ c)
theorem Za{xs:Array Keyed}{a n:Nat}(h:a+n<=xs.size){i:Nat}(b:i<n):(xs.extract a (a+n))[i]? = some (X xs (a+i)):=by
 rw[Array.getElem?_extract,if_pos (by omega)]
 exact Yw (by omega)
theorem To{xs:Array Keyed}{a n:Nat}(h:a+n<=xs.size):(xs.extract a (a+n)).size=n:=by
 rw[Array.size_extract]
 omega
theorem Xe{xs:Array Keyed}{a n:Nat}(h:a+n<=xs.size){x:Keyed}(d:x∈(xs.extract a (a+n)).toList):∃i,i<n/\x=X xs (a+i):=by
 obtain ⟨i,b,e⟩:=Hw.mp d
 rw[Al,To h] at b
 refine ⟨i,b,?_⟩
 have f:=Za h b
 have c:(xs.extract a (a+n)).toList[i]? = some x:=by rw[<- e,<- Ba]
 rw[Gm,f] at c
 exact (Bu c).symm
section
variable{prog:Bz}{w:World}{A:Dm}{s:Ap}{kd:Mo}{Ok:Keyed->Prop}{blt:Keyed->Keyed->Bool}{E:Value->Ap->Prop}{a₀:Array Keyed}{f:Array (Nat×Nat×Nat)}
theorem cQ(C:Cmp prog w A s kd Ok blt){xs:Array Keyed}{a n c d:Nat}(h:a+n<=xs.size)(f:Tg blt xs c d)(h1:c<=a)(p:a+n<=d):(xs.extract a (a+n)).toList.Pairwise (le blt):=by
 rw[Fh]
 intro i j e b k
 rw[Al,To h] at e b
 have l:(xs.extract a (a+n)).toList[i]? = some (X xs (a+i)):=by rw[Gm]; exact Za h e
 have o:(xs.extract a (a+n)).toList[j]? = some (X xs (a+j)):=by rw[Gm]; exact Za h b
 obtain ⟨_,m⟩:=An.mp l
 obtain ⟨_,g⟩:=An.mp o
 rw[m,g]
 exact f _ _ (by omega) (by omega) (by omega)
theorem mC(C:Cmp prog w A s kd Ok blt){xs:Array Keyed}{a b c:Nat}(k:a<b)(h1:Tg blt xs a b)(e:Tg blt xs b c)(h:le blt (X xs (b - 1)) (X xs b)):Tg blt xs a c:=λi j d f g=>by
 by_cases l:j<b
 ·exact h1 i j d f l
 ·by_cases m:b<=i
  ·exact e i j m f g
  ·exact C.trans (h1 i (b - 1) d (by omega) (by omega)) (C.trans h (e b j (Ak _) (by omega) g))
structure Good0(kd:Mo)(a₀:Array Keyed)(st:Ce):Prop where
 kind:kindOf st=kd
 fail:Mn st=none
 perm:(arrOf st).Perm a₀
theorem Good0.size{st:Ce}(g:Good0 kd a₀ st):(arrOf st).size=a₀.size:=g.perm.size_eq
theorem Good0.okX{st:Ce}(g:Good0 kd a₀ st)(h0:∀x∈a₀.toList,Ok x){i:Nat}(a:i<a₀.size):Ok (X (arrOf st) i):=by
 have e:=Yw (xs:=arrOf st) (i:=i) (by rw[g.size]; exact a)
 exact h0 _ ((Lr.mp g.perm).mem_iff.mp (La e))
theorem C0{st:Ce}(g:Good0 kd a₀ st)(h0:∀x∈a₀.toList,Ok x){b n:Nat}(h:b+n<=a₀.size):Row Ok (arrOf st) b n (λi=>X (arrOf st) (b+i)) :=
 ⟨λi a=>Yw (by rw[g.size]; omega),λi a=>g.okX h0 (by omega)⟩
theorem BQ{st a:Ce}{Q:Unit->Ce->Prop}(h:Q () a):wpS (model prog w) A E s (set a:StateT Ce Sem Unit) Q st:=by
 unfold wpS
 rw[StateT.run_set]
 exact Au ⟨rfl,h⟩
theorem rQ(C:Cmp prog w A s kd Ok blt){st:Ce}(g:Good0 kd a₀ st)(h0:∀x∈a₀.toList,Ok x){i j p S f q pb:Nat}(hi:(Bj st)[i]? = some (j,p,S))(hj:(Bj st)[i+1]? = some (f,q,pb))(e1:f=j+p)(n1:1<=p)(n2:1<=q)(hz:f+q<=a₀.size)(I:Tg blt (arrOf st) j f)(F:Tg blt (arrOf st) f (f+q)){Q:Bool->Ce->Prop}(h:∀v,Good0 kd a₀ v->Bj v=((Bj st).setIfInBounds i (j,p+q,S)).eraseIdxIfInBounds (i+1)->Tg blt (arrOf v) j (f+q)->lS (arrOf st) (arrOf v) j (f+q)->Q true v):wpS (model prog w) A E s (Xy i) Q st:=by
 have R:(arrOf st).size=a₀.size:=g.size
 unfold Xy
 refine Bb (Oq ?_)
 rw[hi,hj]
 dsimp only
 refine Bb (BQ ?_)
 refine Bb (Ha (Yw (xs:=arrOf st) (i:=f) (by rw[R]; omega)) ?_)
 show wpS (model prog w) A E s _ _ (Yd (kindOf st) (arrOf st) (((Bj st).setIfInBounds i (j,p+q,S)).eraseIdxIfInBounds (i+1)) (gallopOf st) (Mn st))
 generalize t:Yd (kindOf st) (arrOf st) (((Bj st).setIfInBounds i (j,p+q,S)).eraseIdxIfInBounds (i+1)) (gallopOf st) (Mn st)=st1
 have L:kindOf st1=kd:=by rw[<- t]; exact g.kind
 have D:arrOf st1=arrOf st:=by rw[<- t]
 have O:Bj st1=((Bj st).setIfInBounds i (j,p+q,S)).eraseIdxIfInBounds (i+1):=by rw[<- t]
 have V:Mn st1=none:=by rw[<- t]; exact g.fail
 have g1:Good0 kd a₀ st1:=⟨L,V,by rw[D]; exact g.perm⟩
 have same:Good0 kd a₀ st1->Tg blt (arrOf st) j (f+q)->Q true st1:=λgg as=>h st1 gg O (by rw[D]; exact as) (by rw[D]; exact lS.refl _ _ _)
 refine Bb (Oz C (hint:=0) (n:=p) (C0 g h0 (b:=j) (n:=p) (by omega)) (g.okX h0 (i:=f) (by omega)) L (by omega) (λa c h7 hc Y=>?_) λk kn t1 t2=>?_)
 ·simp only[Ic,Bx,if_false,Jn] at Y ⊢
  exact C.trans (I _ _ (by omega) (by omega) (by omega)) Y
 dsimp only
 have f1:∀m,m<k->le blt (X (arrOf st) (j+m)) (X (arrOf st) f):=λm u=>by
  have:=t1 m u
  have z:blt (X (arrOf st) f) (X (arrOf st) (j+m))=false:=by simpa only [Ic,Bx,if_false,Jn] using this
  exact z
 by_cases Z:p - k=0
 ·rw[if_pos (by rw[Z]; rfl)]
  refine Bn (same g1 (mC C (by omega) I F ?_))
  have:=f1 (p - 1) (by omega)
  rw[show j+(p - 1)=f - 1 by omega] at this
  exact this
 rw[if_neg (λz=>Z (Ef z))]
 have f2:blt (X (arrOf st) f) (X (arrOf st) (j+k))=true:=by
  have:=t2 k (Ak _) (by omega)
  simpa only [Ic,Bx,if_false,Zr] using this
 have el:j+k+(p - k) - 1=f - 1:=by omega
 rw[el]
 refine Bb (Ha (Yw (xs:=arrOf st) (i:=f - 1) (by rw[R]; omega)) ?_)
 refine Bb (Oz C (hint:=q - 1) (n:=q) (C0 g h0 (b:=f) (n:=q) (by omega)) (g.okX h0 (i:=f - 1) (by omega)) L (by omega) (λa c h7 hc Y=>?_) λl ln u1 u2=>?_)
 ·simp only[Ic,if_true] at Y ⊢
  exact C.leLt (F _ _ (by omega) (by omega) (by omega)) Y
 dsimp only
 have f3:∀m,m<l->blt (X (arrOf st) (f+m)) (X (arrOf st) (f - 1))=true:=λm u=>by
  have:=u1 m u
  simpa only [Ic,if_true] using this
 have f4:∀m,l<=m->m<q->le blt (X (arrOf st) (f - 1)) (X (arrOf st) (f+m)):=λm h1 h2=>by
  have:=u2 m h1 h2
  have z:blt (X (arrOf st) (f+m)) (X (arrOf st) (f - 1))=false:=by simpa only [Ic,if_true] using this
  exact z
 by_cases c2:l=0
 ·rw[if_pos (by rw[c2]; rfl)]
  subst c2
  exact Bn (same g1 (mC C (by omega) I F (f4 0 (Ak _) (by omega))))
 rw[if_neg (λz=>c2 (Ef z))]
 have ep:(arrOf st).extract (j+k) f=(arrOf st).extract (j+k) (j+k+(p - k)):=by rw[show j+k+(p - k)=f by omega]
 rw[ep]
 have H:j+k+(p - k)<=(arrOf st).size:=by omega
 have M:f+l<=(arrOf st).size:=by omega
 have T:Two Ok blt ((arrOf st).extract (j+k) (j+k+(p - k))) ((arrOf st).extract f (f+l)) (X (arrOf st) (j+k)) (X (arrOf st) f) (X (arrOf st) (f - 1)):=by
  refine ⟨λx W=>?_,λx W=>?_,cQ C H I (by omega) (by omega),cQ C M F (by omega) (by omega),?_,?_,?_,f2,λy hy=>?_⟩
  ·obtain ⟨m,u,rfl⟩:=Xe H W
   exact g.okX h0 (by omega)
  ·obtain ⟨m,u,rfl⟩:=Xe M W
   exact g.okX h0 (by omega)
  ·exact Za H (by omega)
  ·exact Za M (by omega)
  ·rw[To H,Za H (by omega),show j+k+(p - k - 1)=f - 1 by omega]
  ·obtain ⟨m,u,rfl⟩:=Xe M hy
   exact f3 m u
 -- jR the merge
 have P:∀(r:Array Keyed) (o:Ce),Kept st1 o->qH blt ((arrOf st).extract (j+k) (j+k+(p - k))) ((arrOf st).extract f (f+l)) r ->
   Q (Mn (setArr o (Po (arrOf o) (j+k) r.toList.zipIdx))).isNone (setArr o (Po (arrOf o) (j+k) r.toList.zipIdx)):=by
  intro r o kp G
  have J:arrOf o=arrOf st:=kp.arr.trans D
  have h5:Mn o=none:=kp.fail.trans V
  have N:r.size=p - k+l:=by
   have:=G.1.length_eq
   rw[Az,Al,Al,Al,To H,To M] at this
   exact this
  have h4:((arrOf st).toList.drop (j+k)).take (p - k+l)=((arrOf st).extract (j+k) (j+k+(p - k))).toList++((arrOf st).extract f (f+l)).toList:=by
   rw[Wy,Wy,List.take_add,List.drop_drop,show j+k+(p - k)=f by omega]
  have h3:=dZ (j+k) r.toList 0 (arrOf st) (by rw[Al]; omega)
  have K:∀m,X (Po (arrOf st) (j+k) r.toList.zipIdx) m=if j+k<=m/\m<f+l then X r (m - (j+k)) else X (arrOf st) m:=λm=>by
   have:=h3.2 m
   rw[Al,N,Nat.add_zero] at this
   by_cases u:j+k<=m/\m<f+l
   ·rw[if_pos u]
    rw[if_pos (by omega)] at this
    refine Sm (this.trans ?_)
    simp
   ·rw[if_neg u]
    rw[if_neg (by omega)] at this
    exact Sm this
  -- each thing of the merged is one of the two runs'
  have B:∀m,m<p - k+l->(∃c,j+k<=c/\c<f/\X r m=X (arrOf st) c)\/(∃c,f<=c/\c<f+l/\X r m=X (arrOf st) c):=λm u=>by
   have W:=La (Yw (xs:=r) (i:=m) (by omega))
   rcases Ai.mp (G.1.mem_iff.mp W) with z | z
   ·obtain ⟨c,hc,e⟩:=Xe H z
    exact .inl ⟨j+k+c,by omega,by omega,e⟩
   ·obtain ⟨c,hc,e⟩:=Xe M z
    exact .inr ⟨f+c,by omega,by omega,e⟩
  have rs:∀m n,m<=n->n<p - k+l->le blt (X r m) (X r n):=λm n h6 hn=>Mh C G.2 h6 (Ez (Yw (by omega))) (Ez (Yw (by omega)))
  have e3:Mn (setArr o (Po (arrOf o) (j+k) r.toList.zipIdx))=none:=h5
  rw[e3]
  refine h _ ⟨kp.kind.trans L,e3,?_⟩ (kp.pend.trans O) ?_ ?_
  ·show (Po (arrOf o) (j+k) r.toList.zipIdx).Perm a₀
   rw[J]
   refine (pY (by omega) N ?_).trans g.perm
   rw[h4]
   exact G.1
  ·show Tg blt (Po (arrOf o) (j+k) r.toList.zipIdx) j (f+q)
   rw[J]
   intro c d Z cd d1
   rw[K,K]
   by_cases zc:j+k<=c/\c<f+l
   ·rw[if_pos zc]
    by_cases U:j+k<=d/\d<f+l
    ·rw[if_pos U]
     exact rs _ _ (by omega) (by omega)
    ·rw[if_neg U]
     rcases B (c - (j+k)) (by omega) with ⟨b,b1,b2,e⟩ | ⟨b,b1,b2,e⟩
     ·rw[e]
      refine C.trans (I b (f - 1) (by omega) (by omega) (by omega)) ?_
      have:=f4 (d - f) (by omega) (by omega)
      rw[show f+(d - f)=d by omega] at this
      exact this
     ·rw[e]
      exact F b d b1 (by omega) (by omega)
   ·rw[if_neg zc]
    by_cases U:j+k<=d/\d<f+l
    ·rw[if_pos U]
     rcases B (d - (j+k)) (by omega) with ⟨b,b1,b2,e⟩ | ⟨b,b1,b2,e⟩
     ·rw[e]
      exact I c b Z (by omega) b2
     ·rw[e]
      have:=f1 (c - j) (by omega)
      rw[show j+(c - j)=c by omega] at this
      exact C.trans this (F f b (Ak _) b1 (by omega))
    ·rw[if_neg U]
     by_cases y1:d<f
     ·exact I c d Z cd y1
     ·by_cases y2:f<=c
      ·exact F c d y2 cd d1
      ·have:=f1 (c - j) (by omega)
       rw[show j+(c - j)=c by omega] at this
       exact C.trans this (F f d (Ak _) (by omega) d1)
  ·show lS (arrOf st) (Po (arrOf o) (j+k) r.toList.zipIdx) j (f+q)
   rw[J]
   intro m u
   rw[K,if_neg (by omega)]
 by_cases c3:p - k<=l
 ·rw[if_pos c3]
  refine Bb (qP C T L λr o kp G=>?_)
  exact Bb (Lg (Bb (Oq (Bn (P r o kp G)))))
 ·rw[if_neg c3]
  refine Bb (sM C T L λr o kp G=>?_)
  exact Bb (Lg (Bb (Oq (Bn (P r o kp G)))))
end
def iD:StateT Ce Sem Unit:=sortPriv% PySem.Builtin.sortRuns
def Runs(blt:Keyed->Keyed->Bool)(xs:Array Keyed):List (Nat×Nat×Nat)->Nat->Nat->Prop
 | [],a,b=>a=b
 | (s,n,_)::r,a,b=>s=a/\1<=n/\Tg blt xs a (a+n)/\Runs blt xs r (a+n) b
variable{blt:Keyed->Keyed->Bool}
theorem Runs.len{xs:Array Keyed}:∀{l:List (Nat×Nat×Nat)} {a b:Nat},Runs blt xs l a b->a+l.length<=b
 | [],a,b,h=>by
  have e:a=b:=h
  rw[Gv]
  omega
 | (s,n,p)::r,a,b,h=>by
  have:=Runs.len h.2.2.2
  have:=h.2.1
  rw[Bg]
  omega
theorem Tg.out{xs ys:Array Keyed}{a b c d:Nat}(h:Tg blt xs a b)(o:lS xs ys c d)(e:b<=c\/d<=a):Tg blt ys a b:=λi j g k f=>by
 rw[o i (by omega),o j (by omega)]
 exact h i j g k f
theorem Runs.out{xs ys:Array Keyed}{c d:Nat}(o:lS xs ys c d):∀{l:List (Nat×Nat×Nat)} {a b:Nat},(b<=c\/d<=a)->Runs blt xs l a b->Runs blt ys l a b
 | [],_,_,_,h=>h
 | (s,n,p)::r,a,b,e,h=>by
  have f:=Runs.len h.2.2.2
  exact ⟨h.1,h.2.1,h.2.2.1.out o (by omega),Runs.out o (by omega) h.2.2.2⟩
theorem Runs.push{xs:Array Keyed}{m q:Nat}(c:1<=m):∀{l:List (Nat×Nat×Nat)} {a b:Nat},Runs blt xs l a b->Tg blt xs b (b+m)->Runs blt xs (l++[(b,m,q)]) a (b+m)
 | [],a,b,h,hs=>by
  have e:a=b:=h
  subst e
  exact ⟨rfl,c,hs,rfl⟩
 | (s,n,p)::r,a,b,h,hs=>⟨h.1,h.2.1,h.2.2.1,Runs.push c h.2.2.2 hs⟩
theorem Runs.power{xs:Array Keyed}{c:Nat}:∀{l:List (Nat×Nat×Nat)} {a b:Nat} (k:Nat),Runs blt xs l a b->Runs blt xs (l.modify k λx=>(x.1,x.2.1,c)) a b
 | [],_,_,k,h=>by simpa using h
 | (s,n,p)::r,a,b,0,h=>by
  rw[List.modify_zero_cons]
  exact h
 | (s,n,p)::r,a,b,k+1,h=>by
  rw[List.modify_succ_cons]
  exact ⟨h.1,h.2.1,h.2.2.1,Runs.power k h.2.2.2⟩
theorem Runs.two{xs:Array Keyed}:∀{l:List (Nat×Nat×Nat)} {a b i f g j c d k:Nat},Runs blt xs l a b->l[i]? = some (f,g,j)->l[i+1]? = some (c,d,k)->c=f+g/\1<=g/\1<=d/\a<=f/\c+d<=b/\Tg blt xs f c/\Tg blt xs c (c+d)
 | [],_,_,_,_,_,_,_,_,_,_,h,_=>by simp at h
 | (s,n,p)::r,a,b,0,f,g,j,c,d,k,h,h1,h2=>by
  obtain ⟨e,E,D,C⟩:=h
  have q:s=f/\n=g/\p=j:=by simpa using h1
  obtain ⟨v,x,o⟩:=q
  subst v x o
  subst e
  cases r with
  | nil=>simp at h2
  | cons y G =>
   obtain ⟨F,B,z⟩:=y
   have A:F=c/\B=d/\z=k:=by simpa using h2
   obtain ⟨v,x,o⟩:=A
   subst v x o
   obtain ⟨w,u,m,t⟩:=C
   have:=Runs.len t
   exact ⟨w,E,u,Ak _,by omega,by rw[w]; exact D,by rw[w]; exact m⟩
 | (s,n,p)::r,a,b,i+1,f,g,j,c,d,k,h,h1,h2=>by
  have:=Runs.two h.2.2.2 (by simpa using h1) (by simpa using h2)
  exact ⟨this.1,this.2.1,this.2.2.1,by have:=this.2.2.2.1; have:=h.2.1; omega,this.2.2.2.2.1,this.2.2.2.2.2⟩
theorem Runs.merge{xs ys:Array Keyed}:∀{l:List (Nat×Nat×Nat)} {a b i d g j f c m:Nat},Runs blt xs l a b->l[i]? = some (d,g,j)->l[i+1]? = some (f,c,m)->lS xs ys d (f+c)->Tg blt ys d (f+c)->Runs blt ys ((l.set i (d,g+c,j)).eraseIdx (i+1)) a b
 | [],_,_,_,_,_,_,_,_,_,_,h,_,_,_=>by simp at h
 | (s,n,p)::r,a,b,0,d,g,j,f,c,m,h,h1,h2,o,as=>by
  have x:=Runs.two h h1 h2
  obtain ⟨e,H,G,E⟩:=h
  have q:s=d/\n=g/\p=j:=by simpa using h1
  obtain ⟨v,w,t⟩:=q
  subst v w t
  subst e
  cases r with
  | nil=>simp at h2
  | cons y I =>
   obtain ⟨z,k,A⟩:=y
   have B:z=f/\k=c/\A=m:=by simpa using h2
   obtain ⟨v,w,t⟩:=B
   subst v w t
   obtain ⟨F,D,C,u⟩:=E
   rw[List.set_cons_zero,Tf,List.eraseIdx_cons_zero]
   refine ⟨rfl,by omega,?_,?_⟩
   ·rw[show s+(n+k)=z+k by omega]
    exact as
   ·rw[show s+(n+k)=s+n+k by omega]
    exact Runs.out o (.inr (by omega)) u
 | (s,n,p)::r,a,b,i+1,d,g,j,f,c,m,h,h1,h2,o,as=>by
  have x:=Runs.two (i:=i) h.2.2.2 (by simpa using h1) (by simpa using h2)
  rw[Qv,Tf]
  exact ⟨h.1,h.2.1,h.2.2.1.out o (.inl x.2.2.2.1),Runs.merge h.2.2.2 (by simpa using h1) (by simpa using h2) o as⟩
theorem iH(P:Array (Nat×Nat×Nat))(i:Nat)(v:Nat×Nat×Nat):((P.setIfInBounds i v).eraseIdxIfInBounds (i+1)).toList=(P.toList.set i v).eraseIdx (i+1):=by
 rw[Array.toList_eraseIdxIfInBounds,jB]
section
variable{prog:Bz}{w:World}{A:Dm}{s:Ap}{a:Mo}{Ok:Keyed->Prop}{E:Value->Ap->Prop}{a₀:Array Keyed}
theorem Qh{a:Type}{c:Prop}[Decidable c]{p q:StateT Ce Sem a}{Q:a->Ce->Prop}{st:Ce}(h1:c->wpS (model prog w) A E s p Q st)(b:¬ c->wpS (model prog w) A E s q Q st):wpS (model prog w) A E s (if c then p else q) Q st:=by
 by_cases h:c
 ·rw[if_pos h]; exact h1 h
 ·rw[if_neg h]; exact b h
theorem kS(C:Cmp prog w A s a Ok blt){st:Ce}(g:Good0 a a₀ st)(h0:∀x∈a₀.toList,Ok x){lo i:Nat}(B:lo<=a₀.size)(j:Runs blt (arrOf st) (Bj st).toList 0 lo)(u:i+1<(Bj st).size){Q:Bool->Ce->Prop}(h:∀b,Good0 a a₀ b->Runs blt (arrOf b) (Bj b).toList 0 lo->(Bj b).size+1=(Bj st).size->(∀c d,lo<=c->Tg blt (arrOf st) c d->Tg blt (arrOf b) c d)->Q true b):wpS (model prog w) A E s (Xy i) Q st:=by
 obtain ⟨⟨I,q,t⟩,k⟩ : ∃x,(Bj st)[i]? = some x:=⟨(Bj st)[i],by simp⟩
 obtain ⟨⟨v,G,H⟩,l⟩ : ∃x,(Bj st)[i+1]? = some x:=⟨(Bj st)[i+1],by simp⟩
 have f:(Bj st).toList[i]? = some (I,q,t):=by simpa using k
 have e:(Bj st).toList[i+1]? = some (v,G,H):=by simpa using l
 obtain ⟨r,y,o,L,M,p,z⟩:=j.two f e
 refine rQ C g h0 k l r y o (by omega) p z λb D m J n=>?_
 refine h b D ?_ ?_ λc d K F=>F.out n (.inr (by omega))
 ·rw[m,iH]
  exact j.merge f e n J
 ·have : (Bj b).toList.length+1=(Bj st).toList.length:=by
   rw[m,iH,List.length_eraseIdx,Ge,Al,if_pos u]
   omega
  simpa using this
theorem M5{st:Ce}(g:Good0 a a₀ st):Good a a₀ (Bj st) st:=⟨g.kind,g.fail,g.perm,rfl⟩
theorem mF{st:Ce}{p:Array (Nat×Nat×Nat)}(g:Good a a₀ p st):Good0 a a₀ st:=⟨g.kind,g.fail,g.perm⟩
theorem iC(C:Cmp prog w A s a Ok blt){st:Ce}(g:Good0 a a₀ st)(h0:∀x∈a₀.toList,Ok x)(hp:Bj st=#[])(hz:1<=a₀.size){Q:Unit->Ce->Prop}(h:∀d,Good0 a a₀ d->Tg blt (arrOf d) 0 a₀.size->Q () d):wpS (model prog w) A E s iD Q st:=by
 unfold iD
 refine Bb (Oq ?_)
 have h3:(arrOf st).size=a₀.size:=g.size
 dsimp only
 rw[h3]
 generalize (sortPriv% PySem.Builtin.minRun) a₀.size a₀.size 0=mr
 refine Bb (Iw (Fk
  (I:=λx c d=>∃lo,c=(none,lo)/\Good0 a a₀ d/\Runs blt (arrOf d) (Bj d).toList 0 lo/\lo<=a₀.size/\x<=lo)
  (Q:=λc d=>c=(none,a₀.size)/\Good0 a a₀ d/\Runs blt (arrOf d) (Bj d).toList 0 a₀.size) ?_ ?_ ⟨0,rfl,g,by rw[hp]; exact rfl,by omega,by omega⟩) ?_)
 ·(intro x c V _ hx q; obtain ⟨lo,rfl,N,H,M,U⟩ := q)
  dsimp only
  by_cases W:lo ≥ a₀.size
  ·rw[if_pos W]
   have e:lo=a₀.size:=by omega
   subst e
   exact Bn ⟨rfl,N,H⟩
  rw[if_neg W]
  refine Bb (D0 C (M5 N) h0 (lo:=lo) (b:=a₀.size - lo) (by omega) (by omega) λm j v m1 m2 P ou=>?_)
  dsimp only
  have k:Runs blt (arrOf j) (Bj j).toList 0 lo:=by
   rw[v.pd]
   exact H.out ou (.inl (Ak _))
  have D:=mF v
  clear H N
  refine Qh (λG=>?_) (λG=>?_)
  ·refine Bb (Uu ?_)
   refine Bb (xP C v h0 (lo:=lo) (n:=min (a₀.size - lo) mr) (ok:=m) (by omega) P (by omega) λVk K J X=>?_)
   refine Qh (λz=>absurd z (by decide)) (λ_=>?_)
   have T:1<=min (a₀.size - lo) mr:=by omega
   have R:lo+min (a₀.size - lo) mr<=a₀.size:=by omega
   have u:Runs blt (arrOf Vk) (Bj Vk).toList 0 lo:=by
    rw[K.pd,<- v.pd]
    exact k.out X (.inl (Ak _))
   have F:=mF K
   generalize min (a₀.size - lo) mr=n at J T R
   clear v D k P ou X K m1 m2 G
   refine Bb (Oq ?_)
   cases hb:(Bj Vk).back? with
   | none =>
    dsimp only
    refine Bb (Lg ?_)
    refine Bn ⟨lo+n,rfl,⟨F.kind,F.fail,F.perm⟩,?_,R,by omega⟩
    show Runs blt (arrOf Vk) ((Bj Vk).push (lo,n,0)).toList 0 (lo+n)
    rw[Jk]
    exact u.push T J
   | some y =>
    obtain ⟨s1,l1,p1⟩:=y
    dsimp only
    refine Bb (Iw (Fk
     (I:=λ_ c d=>c=(none,())/\Good0 a a₀ d/\Runs blt (arrOf d) (Bj d).toList 0 lo/\Tg blt (arrOf d) lo (lo+n))
     (Q:=λc d=>c=(none,())/\Good0 a a₀ d/\Runs blt (arrOf d) (Bj d).toList 0 lo/\Tg blt (arrOf d) lo (lo+n)) ?_ (λ_ _ z=>z) ⟨rfl,F,u,J⟩) ?_)
    ·(intro z c f _ _ q; obtain ⟨rfl,t,o,p⟩ := q)
     refine Bb (Oq ?_)
     by_cases B:(Bj f).size > 1
     ·rw[if_pos B]
      obtain ⟨⟨a1,b1,L⟩,ho⟩ : ∃x,(Bj f)[(Bj f).size - 2]? = some x:=⟨(Bj f)[(Bj f).size - 2],by simp⟩
      rw[ho]
      dsimp only
      refine Qh (λ_=>Bn ⟨rfl,t,o,p⟩) (λ_=>?_)
      refine Bb (kS C t h0 M o (i:=(Bj f).size - 2) (show (Bj f).size - 2+1<(Bj f).size by omega) λh4 g5 O _ keep=>?_)
      refine Qh (λz=>absurd z (by decide)) (λ_=>?_)
      exact Bn ⟨rfl,g5,O,keep _ _ (Ak _) p⟩
     ·rw[if_neg B]
      exact Bn ⟨rfl,t,o,p⟩
    ·(intro c f q; obtain ⟨rfl,t,o,p⟩ := q)
     dsimp only
     refine Bb (Lg ?_)
     refine Bb (Lg ?_)
     refine Bn ⟨lo+n,rfl,⟨t.kind,t.fail,t.perm⟩,?_,R,by omega⟩
     show Runs blt (arrOf f) (((Bj f).modify ((Bj f).size - 1) _).push (lo,n,0)).toList 0 (lo+n)
     rw[Jk,Array.toList_modify]
     exact (o.power _).push T p
  ·have R:lo+m<=a₀.size:=by omega
   refine Bb (Oq ?_)
   cases hb:(Bj j).back? with
   | none =>
    dsimp only
    refine Bb (Lg ?_)
    refine Bn ⟨lo+m,rfl,⟨D.kind,D.fail,D.perm⟩,?_,R,by omega⟩
    show Runs blt (arrOf j) ((Bj j).push (lo,m,0)).toList 0 (lo+m)
    rw[Jk]
    exact k.push m1 P
   | some y =>
    obtain ⟨s1,l1,p1⟩:=y
    dsimp only
    refine Bb (Iw (Fk
     (I:=λ_ c d=>c=(none,())/\Good0 a a₀ d/\Runs blt (arrOf d) (Bj d).toList 0 lo/\Tg blt (arrOf d) lo (lo+m))
     (Q:=λc d=>c=(none,())/\Good0 a a₀ d/\Runs blt (arrOf d) (Bj d).toList 0 lo/\Tg blt (arrOf d) lo (lo+m)) ?_ (λ_ _ z=>z) ⟨rfl,D,k,P⟩) ?_)
    ·(intro z c f _ _ q; obtain ⟨rfl,t,o,p⟩ := q)
     refine Bb (Oq ?_)
     by_cases B:(Bj f).size > 1
     ·rw[if_pos B]
      obtain ⟨⟨a1,b1,L⟩,ho⟩ : ∃x,(Bj f)[(Bj f).size - 2]? = some x:=⟨(Bj f)[(Bj f).size - 2],by simp⟩
      rw[ho]
      dsimp only
      refine Qh (λ_=>Bn ⟨rfl,t,o,p⟩) (λ_=>?_)
      refine Bb (kS C t h0 M o (i:=(Bj f).size - 2) (show (Bj f).size - 2+1<(Bj f).size by omega) λh4 g5 O _ keep=>?_)
      refine Qh (λz=>absurd z (by decide)) (λ_=>?_)
      exact Bn ⟨rfl,g5,O,keep _ _ (Ak _) p⟩
     ·rw[if_neg B]
      exact Bn ⟨rfl,t,o,p⟩
    ·(intro c f q; obtain ⟨rfl,t,o,p⟩ := q)
     dsimp only
     refine Bb (Lg ?_)
     refine Bb (Lg ?_)
     refine Bn ⟨lo+m,rfl,⟨t.kind,t.fail,t.perm⟩,?_,R,by omega⟩
     show Runs blt (arrOf f) (((Bj f).modify ((Bj f).size - 1) _).push (lo,m,0)).toList 0 (lo+m)
     rw[Jk,Array.toList_modify]
     exact (o.power _).push m1 p
 ·(intro c V q; obtain ⟨lo,rfl,N,H,M,U⟩ := q)
  have : max 0 a₀.size=a₀.size:=by omega
  rw[this] at U
  have e:lo=a₀.size:=by omega
  subst e
  exact ⟨rfl,N,H⟩
 ·(intro c V q; obtain ⟨rfl,N,H⟩ := q)
  dsimp only
  have S:=Runs.len H
  rw[Al] at S
  refine Bb (Iw (Fk
   (I:=λx c d=>c=(none,())/\Good0 a a₀ d/\Runs blt (arrOf d) (Bj d).toList 0 a₀.size/\((Bj d).size<=1\/(Bj d).size+x<=a₀.size))
   (Q:=λc d=>c=(none,())/\Good0 a a₀ d/\Runs blt (arrOf d) (Bj d).toList 0 a₀.size/\(Bj d).size<=1) ?_ ?_ ⟨rfl,N,H,.inr (by omega)⟩) ?_)
  ·(intro x c j _ hx q; obtain ⟨rfl,v,k,Y⟩ := q)
   refine Bb (Oq ?_)
   refine Qh (λh1=>Bn ⟨rfl,v,k,h1⟩) (λh1=>?_)
   have h5:¬ (Bj j).size<=1:=h1
   generalize hB:Option.any _ _=bb
   have Z:∀i,i+1<(Bj j).size->wpS (model prog w) A E s (Xy i) (λr Vk=>r=true/\Good0 a a₀ Vk/\Runs blt (arrOf Vk) (Bj Vk).toList 0 a₀.size/\(Bj Vk).size+1=(Bj j).size) j :=
    λi hi=>kS C v h0 (Ak _) k hi λVk K u sz _=>⟨rfl,K,u,sz⟩
   refine Bb (Iw (Z _ ?_) λr Vk ⟨er,K,u,sz⟩=>?_)
   ·cases bb with
    | true=>show (Bj j).size - 2 - 1+1<(Bj j).size; omega
    | false=>show (Bj j).size - 2+1<(Bj j).size; omega
   subst er
   refine Qh (λz=>absurd z (by decide)) (λ_=>?_)
   exact Bn ⟨rfl,K,u,.inr (by omega)⟩
  ·(intro c j q; obtain ⟨rfl,v,k,Y⟩ := q)
   have : max 0 a₀.size=a₀.size:=by omega
   rw[this] at Y
   exact ⟨rfl,v,k,by omega⟩
  ·(intro c j q; obtain ⟨rfl,v,k,Y⟩ := q)
   dsimp only
   refine Bn (h j v ?_)
   generalize hl:(Bj j).toList=l at k
   have h2:l.length<=1:=by rw[<- hl,Al]; exact Y
   match l,k,h2 with
   | [],k,_ =>
    have e:0=a₀.size:=k
    omega
   | [(s1,T,p1)],k,_ =>
    obtain ⟨_,_,P,e⟩:=k
    have e':0+T=a₀.size:=e
    rw[e'] at P
    exact P
end
end Ts
namespace Ts
open PySem PyProof.Rows L2
theorem bO:∀l:List Int,HT.lexLt l l=false
 | []=>rfl
 | x::r=>by rw[HT.lexLt_cons,if_pos rfl]; exact bO r
theorem cU:∀{a b c:List Int},HT.lexLt a b=true->HT.lexLt b c=true->HT.lexLt a c=true
 | [],[],_,h,_=>by rw[HT.lexLt_nil_nil] at h; cases h
 | [],_::_,[],_,h=>by rw[HT.lexLt_cons_nil] at h; cases h
 | [],_::_,_::_,_,_=>HT.lexLt_nil_cons _ _
 | _::_,[],_,h,_=>by rw[HT.lexLt_cons_nil] at h; cases h
 | _::_,_::_,[],_,h=>by rw[HT.lexLt_cons_nil] at h; cases h
 | x::a,y::b,z::c,h1,h2=>by
  rw[HT.lexLt_cons] at h1 h2 ⊢
  by_cases e:x=y
  ·subst e
   rw[if_pos rfl] at h1
   by_cases d:x=z
   ·subst d
    rw[if_pos rfl] at h2 ⊢
    exact cU h1 h2
   ·rw[if_neg d] at h2 ⊢
    exact h2
  ·rw[if_neg e] at h1
   have g:x<y:=of_decide_eq_true h1
   by_cases d:y=z
   ·subst d
    rw[if_neg e]
    exact h1
   ·rw[if_neg d] at h2
    have f:y<z:=of_decide_eq_true h2
    rw[if_neg (by omega)]
    exact decide_eq_true (by omega)
theorem kU:∀{a b:List Int},HT.lexLt a b=false->HT.lexLt b a=false->a=b
 | [],[],_,_=>rfl
 | [],_::_,h,_=>by rw[HT.lexLt_nil_cons] at h; cases h
 | _::_,[],_,h=>by rw[HT.lexLt_nil_cons] at h; cases h
 | x::a,y::b,h1,h2=>by
  rw[HT.lexLt_cons] at h1 h2
  by_cases e:x=y
  ·subst e
   rw[if_pos rfl] at h1 h2
   rw[kU h1 h2]
  ·rw[if_neg e] at h1
   rw[if_neg (Qt e)] at h2
   have d:=of_decide_eq_false h1
   have c:=of_decide_eq_false h2
   omega
theorem kW{a b c:List Int}(h:HT.lexLt a c=true):HT.lexLt a b=true\/HT.lexLt b c=true:=by
 cases e:HT.lexLt a b with
 | true=>exact .inl rfl
 | false =>
  cases d:HT.lexLt b a with
  | true=>exact .inr (cU d h)
  | false =>
   rw[<- kU e d]
   exact .inr h
def JX(c:Addr->List Int)(x:Keyed):List Int:=match x.1 with
 | .ref a=>c a
 | _=>[]
def JZ(c:Addr->List Int)(x y:Keyed):Bool:=HT.lexLt (JX c x) (JX c y)
def qC(c:Addr->List Int)(rs:List Addr)(h:Heap):Prop:=∀r∈rs,∃a:List Value,Ib a (c r)/\IsTup h r a.toArray
section
variable{prog:Bz}{w:World}{A:Dm}{E:Value->Ap->Prop}{s:Ap}{c:Addr->List Int}{rs:List Addr}
theorem vU(g:qC c rs s.heap)(t:A.units<cLine){a b:Addr}(p:a∈rs)(hb:b∈rs){Q:Bool->Ap->Prop}(h:Q (HT.lexLt (c a) (c b)) s):wpAny (model prog w) A (oneLt' true (.ref a) (.ref b)) Q E s:=by
 obtain ⟨D,n,⟨B,u,q,d⟩,f,k,m,i⟩:=g a p
 obtain ⟨z,v,⟨C,r,x,e⟩,y,j,o,l⟩:=g b hb
 simp only at k i j l
 subst k i j l
 rw[oneLt'_eq]
 simp only[if_true]
 refine Ah (wpAny_cRoomFor t (Ah (wpAny_callSpecialIfBound?_slot ⟨_,f,rfl⟩ PySem.F.slot_tuple_lt ?_)))
 refine fW PySem.F.slot_tuple_lt ⟨_,f,rfl⟩ PySem.F.entry_tuple_lt (PySem.F.args_tuple_lt_2 _ _) (HT.tuple_lt_ints a b _ _ m o u r d e (c a) (c b) (by simpa using n) (by simpa using v)) ⟨f,y,?_⟩
 exact Ip h
theorem tT(g:qC c rs s.heap)(j:A.units<cLine):Cmp prog w A s oneType' (λx=>∃r∈rs,x.1=.ref r) (JZ c) where
 run:=λx y Q E ⟨r,e,d⟩ ⟨o,a,b⟩ h=>by
  obtain ⟨m,k⟩:=x
  obtain ⟨n,l⟩:=y
  simp only at d b
  subst d b
  rw[keyLt'_oneType]
  exact vU g j e a h
 irr:=λx=>bO _
 tr:=λx y z f i=>cU f i
 neg:=λx y z h=>kW h
theorem Wj:∀{l:List Addr} {Q:List (Option Value)->Ap->Prop},(∀r∈l,∃j:List Value,Ib j (c r)/\IsTup s.heap r j.toArray)->(∀fs:List (Option Value),fs.length=l.length->(∀(i:Nat) (r:Addr),l[i]? = some r->∃f,fs[i]? = some f/\(f.isSome=true↔c r≠[]))->Q fs s)->wpAny (model prog w) A ((l.map Am).mapM fQ) Q E s
 | [],Q,_,h=>by
  rw[aW,List.mapM_nil]
  exact Au (h [] rfl λi r e=>by simp at e)
 | r::l,Q,hH,h=>by
  obtain ⟨j,ti,o,g,k,n,e⟩:=hH r Aa
  rw[Aw,List.mapM_cons]
  have one:∀{R:Option Value->Ap->Prop},R j.toArray[0]? s->wpAny (model prog w) A (fQ (.ref r)) R E s:=λ{R} z=>by
   unfold fQ
   refine Ah (Mt (T := "tuple") ⟨o,g,k⟩ ?_)
   rw[if_neg (by simp)]
   exact Ah (Wr g e (Au z))
  refine Ah (one (Ah (Wj (λm q=>hH m (Ae _ q)) λfs u x=>Au (h _ (by rw[Bg,Bg,u]) λi m t=>?_))))
  cases i with
  | zero =>
   have y:r=m:=by simpa using t
   subst y
   refine ⟨_,rfl,?_⟩
   have d:=ti.length
   cases j with
   | nil =>
    cases p:c r with
    | nil=>simp
    | cons _ _=>rw[p] at d; simp at d
   | cons a b =>
    cases p:c r with
    | nil=>rw[p] at d; simp at d
    | cons _ _=>simp
  | succ i =>
   obtain ⟨f,v,B⟩:=x i m (by simpa using t)
   exact ⟨f,by simpa using v,B⟩
theorem gO:∀{l:List Addr} {Q:List Value->Ap->Prop},(∀r∈l,∃a:List Value,Ib a (c r)/\IsTup s.heap r a.toArray)->Q (l.map λ_=>Ep "tuple") s->wpAny (model prog w) A ((l.map Am).mapM typeOf) Q E s
 | [],Q,_,h=>by
  rw[aW,List.mapM_nil]
  exact Au h
 | r::l,Q,hH,h=>by
  obtain ⟨a,ti,o,g,k,n,e⟩:=hH r Aa
  rw[Aw,List.mapM_cons]
  exact Ah (Mt (T := "tuple") ⟨o,g,k⟩ (Ah (gO (λd b=>hH d (Ae _ b)) (Au h))))
theorem nJ{r:Addr}{l:List Addr}(b:qC c (r::l) s.heap)(h0:c r=[]){Q:Mo->Ap->Prop}(h:Q oneType' s):wpAny (model prog w) A (keyKind' ((r::l).map Am).toArray) Q E s:=by
 rw[keyKind'_eq,aY]
 refine Ah ?_
 show wpAny (model prog w) A (List.toArray <$> ((r::l).map Am).mapM fQ) _ E s
 rw[map_eq_pure_bind]
 refine Ah (Wj b λfs n i=>Au ?_)
 obtain ⟨f,a,m⟩:=i 0 r rfl
 have e:f=none:=by
  cases f with
  | none=>rfl
  | some v=>exact absurd h0 (m.mp rfl)
 subst e
 have j:¬ (fs.toArray.all λx=>x.isSome)=true:=by
  intro z
  have:=Array.all_eq_true'.mp z none (by
   have:=Ao a
   simpa using this)
  simp at this
 have g:¬ (fs.toArray[0]?.bind id).isSome=true:=by
  rw[List.getElem?_toArray,a]
  simp
 rw[if_neg j,if_neg g,oneTypeOnly'_eq,aY]
 refine Ah (Ah ?_)
 show wpAny (model prog w) A (List.toArray <$> ((r::l).map Am).mapM typeOf) _ E s
 rw[map_eq_pure_bind]
 refine Ah (gO b (Au ?_))
 have d:((r::l).map λ_=>Ep "tuple").toArray[0]? = some (Ep "tuple"):=by simp
 have k:(((r::l).map λ_=>Ep "tuple").toArray.all λx=>x == Ep "tuple")=true:=by
  simp only[List.all_toArray,bA,List.all_eq_true]
  intro _ _
  rfl
 rw[d]
 dsimp only
 rw[k,if_pos rfl]
 exact Au (Au h)
theorem wR{a:Addr}{n:Nat}{P:Fin->Ap->Prop}(hl:s.heap.get? a=some (Di "list" (rs.map Am).toArray n))(hH:qC c rs s.heap)(h0:∀r l,rs=r::l->c r=[])(hu:A.units<cLine)(hz:rs.length<=Bf)(h:∀d:List Addr,d.Perm rs->d.Pairwise (λx y=>HT.lexLt (c y) (c x)=false)->P (.done (.ret .none)) { s with heap:=Wq s.heap a (rs.map Am) (d.map Am).toArray }):wpAny (model prog w) A (Builtin.«list.sort» ⟨[.ref a],[]⟩) P E s:=by
 have lt:=Bq hl
 have q:(rs.map Am).toArray.size=rs.length:=by simp
 rw[list_sort_plain]
 refine Ah (Wr hl rfl (Ah (Np hl rfl ?_ (by rw[q]; exact hz))))
 obtain ⟨S,H⟩ : ∃S,(s.heap.update a (Ct λ_=>#[])).get? a=some (Di "list" #[] S):=⟨_,Qy hl (λ_=>#[])⟩
 refine Ah (Ug H rfl (Ah (wpAny_newTuple (Ah (Qc (Fq ?_)) ))))
 have p:(((s.heap.update a (Ct λ_=>#[])).push (Di "tuple" (rs.map Am).toArray 0)).push (Di "list" #[] 0)).get? a=some (Di "list" #[] S):=by
  rw[Rx _ _ _ (by rw[Tb,Hu]; exact Cz (Ll lt)),
   Rx _ _ _ (by rw[Hu]; exact Cz lt)]
  exact H
 have kept:∀b o,b≠a->s.heap.get? b=some o->(((s.heap.update a (Ct λ_=>#[])).push (Di "tuple" (rs.map Am).toArray 0)).push (Di "list" #[] 0)).get? b=some o:=λb o hb e=>by
  refine Aq _ (Aq _ ?_)
  exact ((Gc s.heap a _).2 b hb).trans e
 have D:qC c rs (((s.heap.update a (Ct λ_=>#[])).push (Di "tuple" (rs.map Am).toArray 0)).push (Di "list" #[] 0)):=λr F=>by
  obtain ⟨K,t1,o,O,Y,m1,I⟩:=hH r F
  refine ⟨K,t1,o,kept r o ?_ O,Y,m1,I⟩
  rintro rfl
  rw[hl] at O
  cases O
  exact absurd Y (by simp)
 show wpAny (model prog w) A _ P E { s with heap:=((s.heap.update a (Ct λ_=>#[])).push (Di "tuple" (rs.map Am).toArray 0)).push (Di "list" #[] 0) }
 dsimp only
 -- what is left jR the runs
 have v:∀(out:Array Value) (d:List Addr),out=(d.map Am).toArray->d.Perm rs->d.Pairwise (λx y=>HT.lexLt (c y) (c x)=false) ->
   P (.done (.ret .none)) { s with heap:=Wq s.heap a (rs.map Am) out }:=λout d e p1 p2=>by rw[e]; exact h d p1 p2
 by_cases m:(rs.map Am).toArray.size<2
 ·rw[if_pos m,if_pos m]
  refine Ah (Au ?_)
  rw[StateT.run_pure]
  refine Ah (Au (Ah (Ug p rfl (Ah (Np p rfl ?_ (by simp) ?_)))))
  ·simp only[bne_self_eq_false,Bx,if_false]
   refine Au (v _ rs ?_ (Ii _) ?_)
   ·show Wp (λx=>x.2) ((rs.map Am).toArray.zip (rs.map Am).toArray)=_
    apply Array.ext'
    simp [List.map_snd_zip]
   ·rw[q] at m
    match rs,m with
    | [],_=>exact Eh
    | [_],_=>exact Cn _ _
    | _::_::_,m=>simp only[Bg] at m; omega
  ·show (Wp (λx:Keyed=>x.2) ((rs.map Am).toArray.zip (rs.map Am).toArray)).size<=Bf+1
   rw[Qm,Array.size_zip,q]
   omega
 ·rw[if_neg m,if_neg m]
  rw[q] at m
  obtain ⟨r0,Gx,U⟩ : ∃r l,rs=r::l:=by
   cases rs with
   | nil=>simp at m
   | cons r l=>exact ⟨r,l,rfl⟩
  have J:∀{R:Mo->Ap->Prop},R oneType' { s with heap:=((s.heap.update a (Ct λ_=>#[])).push (Di "tuple" (rs.map Am).toArray 0)).push (Di "list" #[] 0) } ->
    wpAny (model prog w) A (keyKind' (rs.map Am).toArray) R E { s with heap:=((s.heap.update a (Ct λ_=>#[])).push (Di "tuple" (rs.map Am).toArray 0)).push (Di "list" #[] 0) }:=λ{R} hR=>by
   have G:=D
   rw[U] at G hR ⊢
   exact nJ G (h0 r0 Gx U) hR
  refine Ah (J ?_)
  have C:=tT (prog:=prog) (w:=w) (A:=A) (s:={ s with heap:=((s.heap.update a (Ct λ_=>#[])).push (Di "tuple" (rs.map Am).toArray 0)).push (Di "list" #[] 0) }) D hu
  have N:(aU (rs.map Am)).size=rs.length:=by rw[pairsOf_size,Ac]
  refine Ah (Kg (iC C (a₀:=aU (rs.map Am)) (st:=Yd oneType' ((rs.map Am).toArray.zip (rs.map Am).toArray) #[] 7 none) (E:=E)
   (Q:=λ_ f=>Good0 oneType' (aU (rs.map Am)) f/\Tg (JZ c) (arrOf f) 0 (aU (rs.map Am)).size)
   ⟨rfl,rfl,Array.Perm.refl _⟩ (λx u=>?_) rfl (by rw[N]; omega) λf g T=>⟨g,T⟩) ?_ λ_ _ z=>z)
  ·rw[aF] at u
   obtain ⟨_,L⟩:=iX u
   obtain ⟨r,F,e⟩:=Bs.mp L
   exact ⟨r,F,e.symm⟩
  ·(rintro ⟨⟨⟩,f⟩ s' q_; obtain ⟨rfl,g,T⟩ := q_)
   dsimp only
   -- the things of the new order
   have M:(arrOf f).toList.Perm ((rs.map Am).zip (rs.map Am)):=by rw[<- aF]; exact Lr.mp g.perm
   have B:∀x∈(arrOf f).toList,∃r∈rs,x=(Am r,Am r):=λx u=>by
    obtain ⟨e,L⟩:=iX (M.mem_iff.mp u)
    obtain ⟨r,F,Z⟩:=Bs.mp L
    refine ⟨r,F,?_⟩
    obtain ⟨x1,x2⟩:=x
    simp only at e Z
    rw[<- e,Z]
   have ex:∀l:List Keyed,(∀x∈l,∃r∈rs,x=(Am r,Am r))->∃d:List Addr,l=d.map λr=>(Am r,Am r):=by
    intro l
    induction l with
    | nil=>intro _; exact ⟨[],rfl⟩
    | cons x l ih =>
     intro u
     obtain ⟨r,_,e⟩:=u x Aa
     obtain ⟨d,e'⟩:=ih λy hy=>u y (Ae _ hy)
     exact ⟨r::d,by rw[Aw,e,e']⟩
   obtain ⟨d,t⟩:=ex _ B
   have zz:(rs.map Am).zip (rs.map Am)=rs.map λr=>(Am r,Am r):=by
    rw[List.zip_map',]
   rw[t,zz] at M
   have inj:∀x:Keyed,∃a:Addr,True:=λ_=>⟨0,trivial⟩
   have W:d.Perm rs:=by
    have:=M.map (λx:Keyed=>match x.1 with | .ref a=>a | _=>0)
    rw[Dz,Dz] at this
    simpa [Yg] using this
   have so:d.Pairwise (λx y=>HT.lexLt (c y) (c x)=false):=by
    rw[Fh]
    intro i j hi V h1
    have ls:(arrOf f).size=d.length:=by
     have:=congrArg Ek t
     rw[Al,Ac] at this
     exact this
    have xe:∀k (J:k<d.length),X (arrOf f) k=(Am d[k],Am d[k]):=λk J=>by
     have I:=Ez (Yw (xs:=arrOf f) (i:=k) (by omega))
     rw[t,Bo,Ba J] at I
     exact (Bu I).symm
    have:=T i j (Em _) (by omega) (by rw[N,<- W.length_eq]; exact V)
    rw[xe i hi,xe j V] at this
    exact this
   refine Ah (Ug p rfl (Ah (Np p rfl ?_ (by simp) ?_)))
   ·have fl:Mn f=none:=g.fail
    rw[fl]
    simp only[bne_self_eq_false,Bx,if_false]
    refine Au (v _ d ?_ W so)
    apply Array.ext'
    rw[Array.toList_map,t,Dz]
    rfl
   ·show (Wp (λx:Keyed=>x.2) (arrOf f)).size<=Bf+1
    rw[Qm,g.size,N]
    omega
end
theorem Yp:∀{rs:List Addr} {us:List Value},Gw (rs.map V.ref) us->us=rs.map Am
 | [],_,r=>by cases r; rfl
 | a::l,_,r=>by
  rw[Aw] at r
  cases r with
  | cons b c =>
   cases b
   rw[Yp c]
   rfl
theorem Yn:∀rs:List Addr,Gw (rs.map V.ref) (rs.map Am)
 | []=>.nil
 | _::l=>.cons rfl (Yn l)
section
variable{prog:Bz}{w:World}{A:Dm}{E:Value->Ap->Prop}{s:Ap}{c:Addr->List Int}{rs:List Addr}
theorem lT{l:Addr}{Q:Value->Ap->Prop}(hl:s.heap.IsList l (rs.map Am).toArray)(v:qC c rs s.heap)(h0:∀r l,rs=r::l->c r=[])(j:A.units+2<cLine)(f:rs.length<=Bf)(h:∀a:List Addr,a.Perm rs->a.Pairwise (λx y=>HT.lexLt (c y) (c x)=false)->Q (.ref (s.heap.objs.size+1)) { s with heap:=Vx s.heap (rs.map Am) (a.map Am).toArray }):wpAny (model prog w) A (call (.builtin "sorted") [.ref l]) Q E s:=by
 refine Rb (by exact kind_sorted) plain_sorted entry_sorted (args_sorted1 _) ?_
 unfold Yk
 refine Ah (m:=checkCount "sorted" 1 1 _) (Au (Ah (collect_list hl (Ah (Qc ?_)) (by rw[Ac]; exact f))))
 have g:((s.heap.push (Di "list" #[] 0)).update s.heap.objs.size (Ct (·++(rs.map Am).toArray))).objs.size=s.heap.objs.size+1:=by rw[Hu,Tb]
 have i:(((s.heap.push (Di "list" #[] 0)).update s.heap.objs.size (Ct (·++(rs.map Am).toArray))).push (Di "list" (rs.map Am).toArray 0)).get? (s.heap.objs.size+1)=some (Di "list" (rs.map Am).toArray 0):=by
  rw[<- g]
  exact Ca _ rfl
 have kept:∀b o,s.heap.get? b=some o->(((s.heap.push (Di "list" #[] 0)).update s.heap.objs.size (Ct (·++(rs.map Am).toArray))).push (Di "list" (rs.map Am).toArray 0)).get? b=some o:=λb o e=>by
  refine Aq _ (((Gc _ _ _).2 b (Cz (Bq e))).trans (Aq _ e))
 show wpAny _ _ _ _ _ { s with heap:=((s.heap.push (Di "list" #[] 0)).update s.heap.objs.size (Ct (·++(rs.map Am).toArray))).push (Di "list" (rs.map Am).toArray 0) }
 rw[g]
 refine Ah (Fq (Mu slot_list_sort ⟨_,i,rfl⟩ entry_list_sort (wR i (λr k=>?_) h0 ?_ f λa u p=>⟨_,rfl,?_⟩) (args_list_sort _)))
 ·obtain ⟨d,n,o,z,t,q,B⟩:=v r k
  exact ⟨d,n,o,kept r o z,t,q,B⟩
 ·first | exact Ra (by show A.units+2<=A.units+2; exact Ak _) j | exact Ra (Th _ 2) j | (show A.units+1<cLine; omega) | trace_state
 ·exact Au ⟨_,rfl,h a u p⟩
theorem Sw{h:Heap}{vs:List Value}{out:Array Value}{b:Addr}{o:Obj}(e:h.get? b=some o):(Vx h vs out).get? b=some o:=by
 have lt:=Bq e
 unfold Vx Wq
 have c:((h.push (Di "list" #[] 0)).update h.objs.size (Ct (·++vs.toArray))).objs.size=h.objs.size+1:=by rw[Hu,Tb]
 have a:b≠h.objs.size+1:=Cz (Ll lt)
 refine ((Gc _ _ _).2 b a).trans (Aq _ (Aq _ (((Gc _ _ _).2 b a).trans (Aq _ ?_))))
 exact ((Gc _ _ _).2 b (Cz lt)).trans (Aq _ e)
theorem Vt{h:Heap}{vs:List Value}{out:Array Value}:∃n,(Vx h vs out).get? (h.objs.size+1)=some (Di "list" out n):=by
 unfold Vx Wq
 have a:((h.push (Di "list" #[] 0)).update h.objs.size (Ct (·++vs.toArray))).objs.size=h.objs.size+1:=by rw[Hu,Tb]
 have c:(((h.push (Di "list" #[] 0)).update h.objs.size (Ct (·++vs.toArray))).push (Di "list" vs.toArray 0)).get? (h.objs.size+1)=some (Di "list" vs.toArray 0):=by
  rw[<- a]
  exact Ca _ rfl
 have b:=Qy c (λ_=>#[])
 have d:=Aq (Di "list" #[] 0) (Aq (Di "tuple" vs.toArray 0) b)
 exact ⟨_,Qy d (λ_=>out)⟩
end
section
variable{X:Cx}
theorem call_sorted(B:X.A.units+2<cLine):Nf X (.builtin "sorted") (λxs H Q=>∃(a:Addr) (rs:List Addr) (c:Addr->List Int),xs=[.ref a]/\Sx X.K H a (rs.map V.ref)/\(∀r∈rs,Vm X.K H r ((c r).map V.int))/\(∀r l,rs=r::l->c r=[])/\∀(p:Addr) (d:List Addr),H p=none->d.Perm rs->d.Pairwise (λx y=>HT.lexLt (c y) (c x)=false)->Q (.ref p) (upd H p (.lst (d.map V.ref)))):=by
 intro i s L H xs J Q I r h
 obtain ⟨a,rs,c,rfl,C,j,z,q⟩:=h
 obtain ⟨u,rfl,G⟩:=vals1 r
 cases G
 obtain ⟨m,k,v,f⟩:=I.list C
 have e:=Yp k
 subst e
 rw[Ac] at f
 refine lT (c:=c) v.isList (λr E=>?_) z B f λd g t=>?_
 ·obtain ⟨ti,w,D,_⟩:=I.tuple (j r E)
  exact ⟨ti,intsAre_of w,D⟩
 ·obtain ⟨n,F⟩:=Vt (h:=s.heap) (vs:=rs.map Am) (out:=(d.map Am).toArray)
  refine ⟨.ref (s.heap.objs.size+1),upd H (s.heap.objs.size+1) (.lst (d.map V.ref)),I.laid (t':=s.toks) (λb o e=>Sw e) (Pb _) ⟨?_,_,n,Yn d,F⟩,rfl,q _ d (I.hok.fresh (Pb _)) g t⟩
  rw[Ac,g.length_eq]
  exact f
end
def GL{b:Type}(c:Addr->b)(d0:b)(x:Keyed):b:=match x.1 with
 | .ref a=>c a
 | _=>d0
def JU{a:Type}(c:Addr->a)(d0:a)(lt_:a->a->Bool)(x y:Keyed):Bool:=lt_ (GL c d0 x) (GL c d0 y)
def rD{a:Type}(prog:Bz)(w:World)(A:Dm)(s:Ap)(rs:List Addr)(c:Addr->a)(d0:a)(lt_:a->a->Bool):Prop :=
 ∃b,(∀(R:Mo->Ap->Prop) (E:Value->Ap->Prop),R b s->wpAny (model prog w) A (keyKind' (rs.map Am).toArray) R E s)/\Cmp prog w A s b (λx=>∃r∈rs,x.1=.ref r) (JU c d0 lt_)
section
variable{prog:Bz}{w:World}{A:Dm}{E:Value->Ap->Prop}{s:Ap}{d:Type}{c:Addr->d}{d0:d}{lt_:d->d->Bool}{rs:List Addr}
theorem rF{a:Addr}{n:Nat}{P:Fin->Ap->Prop}(hl:s.heap.get? a=some (Di "list" (rs.map Am).toArray n))(V:∀h':Heap,(∀b o,b≠a->s.heap.get? b=some o->h'.get? b=some o)->2<=rs.length->rD prog w A { s with heap:=h' } rs c d0 lt_)(hz:rs.length<=Bf)(h:∀d:List Addr,d.Perm rs->d.Pairwise (λx y=>lt_ (c y) (c x)=false)->P (.done (.ret .none)) { s with heap:=Wq s.heap a (rs.map Am) (d.map Am).toArray }):wpAny (model prog w) A (Builtin.«list.sort» ⟨[.ref a],[]⟩) P E s:=by
 have lt:=Bq hl
 have p:(rs.map Am).toArray.size=rs.length:=by simp
 rw[list_sort_plain]
 refine Ah (Wr hl rfl (Ah (Np hl rfl ?_ (by rw[p]; exact hz))))
 obtain ⟨K,D⟩ : ∃K,(s.heap.update a (Ct λ_=>#[])).get? a=some (Di "list" #[] K):=⟨_,Qy hl (λ_=>#[])⟩
 refine Ah (Ug D rfl (Ah (wpAny_newTuple (Ah (Qc (Fq ?_)) ))))
 have m:(((s.heap.update a (Ct λ_=>#[])).push (Di "tuple" (rs.map Am).toArray 0)).push (Di "list" #[] 0)).get? a=some (Di "list" #[] K):=by
  rw[Rx _ _ _ (by rw[Tb,Hu]; exact Cz (Ll lt)),
   Rx _ _ _ (by rw[Hu]; exact Cz lt)]
  exact D
 have kept:∀b o,b≠a->s.heap.get? b=some o->(((s.heap.update a (Ct λ_=>#[])).push (Di "tuple" (rs.map Am).toArray 0)).push (Di "list" #[] 0)).get? b=some o:=λb o W e=>by
  refine Aq _ (Aq _ ?_)
  exact ((Gc s.heap a _).2 b W).trans e
 show wpAny (model prog w) A _ P E { s with heap:=((s.heap.update a (Ct λ_=>#[])).push (Di "tuple" (rs.map Am).toArray 0)).push (Di "list" #[] 0) }
 dsimp only
 -- what is left jR the runs
 have v:∀(out:Array Value) (d:List Addr),out=(d.map Am).toArray->d.Perm rs->d.Pairwise (λx y=>lt_ (c y) (c x)=false) ->
   P (.done (.ret .none)) { s with heap:=Wq s.heap a (rs.map Am) out }:=λout d e p1 U=>by rw[e]; exact h d p1 U
 by_cases t:(rs.map Am).toArray.size<2
 ·rw[if_pos t,if_pos t]
  refine Ah (Au ?_)
  rw[StateT.run_pure]
  refine Ah (Au (Ah (Ug m rfl (Ah (Np m rfl ?_ (by simp) ?_)))))
  ·simp only[bne_self_eq_false,Bx,if_false]
   refine Au (v _ rs ?_ (Ii _) ?_)
   ·show Wp (λx=>x.2) ((rs.map Am).toArray.zip (rs.map Am).toArray)=_
    apply Array.ext'
    simp [List.map_snd_zip]
   ·rw[p] at t
    match rs,t with
    | [],_=>exact Eh
    | [_],_=>exact Cn _ _
    | _::_::_,t=>simp only[Bg] at t; omega
  ·show (Wp (λx:Keyed=>x.2) ((rs.map Am).toArray.zip (rs.map Am).toArray)).size<=Bf+1
   rw[Qm,Array.size_zip,p]
   omega
 ·rw[if_neg t,if_neg t]
  rw[p] at t
  obtain ⟨M,F,C⟩:=V (((s.heap.update a (Ct λ_=>#[])).push (Di "tuple" (rs.map Am).toArray 0)).push (Di "list" #[] 0)) kept (by omega)
  refine Ah (F _ _ ?_)
  have I:(aU (rs.map Am)).size=rs.length:=by rw[pairsOf_size,Ac]
  refine Ah (Kg (iC C (a₀:=aU (rs.map Am)) (st:=Yd M ((rs.map Am).toArray.zip (rs.map Am).toArray) #[] 7 none) (E:=E)
   (Q:=λ_ f=>Good0 M (aU (rs.map Am)) f/\Tg (JU c d0 lt_) (arrOf f) 0 (aU (rs.map Am)).size)
   ⟨rfl,rfl,Array.Perm.refl _⟩ (λx u=>?_) rfl (by rw[I]; omega) λf g L=>⟨g,L⟩) ?_ λ_ _ z=>z)
  ·rw[aF] at u
   obtain ⟨_,G⟩:=iX u
   obtain ⟨r,J,e⟩:=Bs.mp G
   exact ⟨r,J,e.symm⟩
  ·(rintro ⟨⟨⟩,f⟩ s' q_; obtain ⟨rfl,g,L⟩ := q_)
   dsimp only
   -- the things of the new order
   have H:(arrOf f).toList.Perm ((rs.map Am).zip (rs.map Am)):=by rw[<- aF]; exact Lr.mp g.perm
   have B:∀x∈(arrOf f).toList,∃r∈rs,x=(Am r,Am r):=λx u=>by
    obtain ⟨e,G⟩:=iX (H.mem_iff.mp u)
    obtain ⟨r,J,S⟩:=Bs.mp G
    refine ⟨r,J,?_⟩
    obtain ⟨x1,x2⟩:=x
    simp only at e S
    rw[<- e,S]
   have ex:∀l:List Keyed,(∀x∈l,∃r∈rs,x=(Am r,Am r))->∃d:List Addr,l=d.map λr=>(Am r,Am r):=by
    intro l
    induction l with
    | nil=>intro _; exact ⟨[],rfl⟩
    | cons x l ih =>
     intro u
     obtain ⟨r,_,e⟩:=u x Aa
     obtain ⟨d,e'⟩:=ih λy hy=>u y (Ae _ hy)
     exact ⟨r::d,by rw[Aw,e,e']⟩
   obtain ⟨d,q⟩:=ex _ B
   have Y:(rs.map Am).zip (rs.map Am)=rs.map λr=>(Am r,Am r):=by
    rw[List.zip_map',]
   rw[q,Y] at H
   have inj:∀x:Keyed,∃a:Addr,True:=λ_=>⟨0,trivial⟩
   have R:d.Perm rs:=by
    have:=H.map (λx:Keyed=>match x.1 with | .ref a=>a | _=>0)
    rw[Dz,Dz] at this
    simpa [Yg] using this
   have so:d.Pairwise (λx y=>lt_ (c y) (c x)=false):=by
    rw[Fh]
    intro i j Z N h0
    have ls:(arrOf f).size=d.length:=by
     have:=congrArg Ek q
     rw[Al,Ac] at this
     exact this
    have T:∀k (F:k<d.length),X (arrOf f) k=(Am d[k],Am d[k]):=λk F=>by
     have O:=Ez (Yw (xs:=arrOf f) (i:=k) (by omega))
     rw[q,Bo,Ba F] at O
     exact (Bu O).symm
    have:=L i j (Em _) (by omega) (by rw[I,<- R.length_eq]; exact N)
    rw[T i Z,T j N] at this
    exact this
   refine Ah (Ug m rfl (Ah (Np m rfl ?_ (by simp) ?_)))
   ·have fl:Mn f=none:=g.fail
    rw[fl]
    simp only[bne_self_eq_false,Bx,if_false]
    refine Au (v _ d ?_ R so)
    apply Array.ext'
    rw[Array.toList_map,q,Dz]
    rfl
   ·show (Wp (λx:Keyed=>x.2) (arrOf f)).size<=Bf+1
    rw[Qm,g.size,I]
    omega
theorem kT{l:Addr}{Q:Value->Ap->Prop}(hl:s.heap.IsList l (rs.map Am).toArray)(n:∀(d:Dm) (h':Heap),d.units<=A.units+2->d.handled=A.handled->(∀b o,s.heap.get? b=some o->h'.get? b=some o)->2<=rs.length->rD prog w d { s with heap:=h' } rs c d0 lt_)(i:rs.length<=Bf)(h:∀a:List Addr,a.Perm rs->a.Pairwise (λx y=>lt_ (c y) (c x)=false)->Q (.ref (s.heap.objs.size+1)) { s with heap:=Vx s.heap (rs.map Am) (a.map Am).toArray }):wpAny (model prog w) A (call (.builtin "sorted") [.ref l]) Q E s:=by
 refine Rb (by exact kind_sorted) plain_sorted entry_sorted (args_sorted1 _) ?_
 unfold Yk
 refine Ah (m:=checkCount "sorted" 1 1 _) (Au (Ah (collect_list hl (Ah (Qc ?_)) (by rw[Ac]; exact i))))
 have f:((s.heap.push (Di "list" #[] 0)).update s.heap.objs.size (Ct (·++(rs.map Am).toArray))).objs.size=s.heap.objs.size+1:=by rw[Hu,Tb]
 have g:(((s.heap.push (Di "list" #[] 0)).update s.heap.objs.size (Ct (·++(rs.map Am).toArray))).push (Di "list" (rs.map Am).toArray 0)).get? (s.heap.objs.size+1)=some (Di "list" (rs.map Am).toArray 0):=by
  rw[<- f]
  exact Ca _ rfl
 have kept:∀b o,s.heap.get? b=some o->(((s.heap.push (Di "list" #[] 0)).update s.heap.objs.size (Ct (·++(rs.map Am).toArray))).push (Di "list" (rs.map Am).toArray 0)).get? b=some o:=λb o e=>by
  refine Aq _ (((Gc _ _ _).2 b (Cz (Bq e))).trans (Aq _ e))
 show wpAny _ _ _ _ _ { s with heap:=((s.heap.push (Di "list" #[] 0)).update s.heap.objs.size (Ct (·++(rs.map Am).toArray))).push (Di "list" (rs.map Am).toArray 0) }
 rw[f]
 refine Ah (Fq (Mu slot_list_sort ⟨_,g,rfl⟩ entry_list_sort (rF g (λh' j q=>n _ h' ?_ ?_ (λb o e=>j b o (Cz (Ll (Bq e))) (kept b o e)) q) i λa p k=>⟨_,rfl,?_⟩) (args_list_sort _)))
 ·first | exact Ak _ | (show A.units+1<=A.units+2; omega) | (show A.units<=A.units+2; omega)
 ·rfl
 ·exact Au ⟨_,rfl,h a p k⟩
end
section
variable{prog:Bz}{w:World}{A:Dm}{E:Value->Ap->Prop}{s:Ap}{c:Addr->List Int}{rs:List Addr}
theorem K1{b:Bool}{x y:Int}{t u:Tok}{Q:Bool->Ap->Prop}(h:Q (decide (x<y)) s):wpAny (model prog w) A (oneLt' b (.int x t) (.int y u)) Q E s:=by
 cases b with
 | true=>exact oneLt_int h
 | false=>exact PySem.W.kat_one _ _ (lt_int h)
theorem nY{b:Bool}{Q:Bool->Ap->Prop}:∀{xs ys:List Value} {ns c:List Int} (i:Nat),Ib xs ns->Ib ys c->Q (HT.lexLt ns c) s->PySem.W.KatLex prog w A b (decide (xs.length<ys.length)) Q (xs.zip ys) i s
 | _,_,_,_,i,.nil,.nil,h=>h
 | _,_,_,_,i,.nil,.cons m u k,h=>h
 | _,_,_,_,i,.cons n t k,.nil,h=>h
 | _,_,_,_,i,.cons (vs:=xs) n t k,.cons (vs:=ys) m u k2,h=>by
  rw[Qu]
  refine PySem.W.kat_cons (wpAny_eqBool_int ?_)
  rw[HT.lexLt_cons] at h
  cases a:(n == m) with
  | true =>
   have e:n=m:=by simpa using a
   rw[if_pos e] at h
   refine PySem.W.kat_yes ?_
   have : decide ((Wk n t::xs).length<(Wk m u::ys).length)=decide (xs.length<ys.length):=by simp
   rw[this]
   exact nY (i+1) k k2 h
  | false =>
   have e:¬ n=m:=by simpa using a
   rw[if_neg e] at h
   exact PySem.W.kat_no (K1 h)
theorem dG:∀{l:List Addr},(∀r∈l,∃a:List Value,Ib a (c r)/\IsTup s.heap r a.toArray)->(∀r∈l,c r≠[])->∃fs:List Value,PySem.W.KatTups s.heap (l.map Am) fs/\fs.length=l.length/\∀v∈fs,∃i t,v=.int i t
 | [],_,_=>⟨[],.nil,rfl,λ_ h=>(nomatch h)⟩
 | r::l,hH,hn=>by
  obtain ⟨fs,q,u,p⟩:=dG (λf b=>hH f (Ae _ b)) (λf b=>hn f (Ae _ b))
  obtain ⟨a,ti,o,g,k,n,e⟩:=hH r Aa
  have d:=hn r Aa
  match a,ti with
  | [],ti=>cases j:c r with
   | nil=>exact absurd j d
   | cons _ _=>rw[j] at ti; cases ti
  | v::a,ti =>
   have : ∃i t,v=.int i t:=by
    revert ti
    generalize c r=cr
    intro ti
    cases ti with
    | cons m t k=>exact ⟨_,_,rfl⟩
   refine ⟨v::fs,PySem.W.KatTups.cons g k e (by simp) q,by rw[Bg,Bg,u],λx hx=>?_⟩
   rcases Aj.mp hx with rfl | hx
   ·exact this
   ·exact p x hx
theorem oF(a:qC c rs s.heap)(H:A.units<cLine)(h2:2<=rs.length):rD prog w A s rs c [] HT.lexLt:=by
 obtain ⟨r,l,rfl⟩ : ∃r l,rs=r::l:=by
  cases rs with
  | nil=>simp at h2
  | cons r l=>exact ⟨r,l,rfl⟩
 by_cases G:c r=[]
 ·exact ⟨oneType',λR E h=>nJ a G h,tT a H⟩
 by_cases b:∀D∈r::l,c D≠[]
 ·obtain ⟨fs,Z,f2,N⟩:=dG a b
  refine ⟨tuples' true,λR E h=>?_,?_⟩
  ·refine PySem.W.kat_kind (T:=.type "int") Z (by rw[f2]; simp) (λv hv=>?_) (by decide) h
   obtain ⟨i,t,rfl⟩:=N v hv
   exact .now
  ·refine ⟨λx y Q E ⟨j,d,n⟩ ⟨k,g,m⟩ h=>?_,λx=>bO _,λx y z=>cU,λx y z=>kW⟩
   obtain ⟨O,U⟩:=x
   obtain ⟨y1,V⟩:=y
   simp only at n m
   subst n m
   obtain ⟨o,q,o1,g1,k1,n1,M⟩:=a j d
   obtain ⟨p,B,o2,Y,k2,n2,S⟩:=a k g
   refine PySem.W.kat_lt g1 M Y S ?_
   have e:(decide (o.toArray.size<p.toArray.size))=decide (o.length<p.length):=by simp
   rw[e]
   exact nY 0 q B h
 ·refine ⟨general',λR E h=>?_,?_⟩
  ·rw[kat_kind_eq,aY,map_eq_pure_bind]
   refine Ah (Ah (Wj a λfs hl I=>Au ?_))
   have L:¬ (fs.toArray.all λx=>x.isSome)=true:=by
    intro z
    refine b λD u=>?_
    obtain ⟨i,P⟩:=List.getElem?_of_mem u
    obtain ⟨f,C,F⟩:=I i D P
    refine F.mp ?_
    exact Array.all_eq_true'.mp z f (by have:=Ao C; simpa using this)
   obtain ⟨f,C,F⟩:=I 0 r rfl
   have J:(fs.toArray[0]?.bind id).isSome=true:=by
    rw[List.getElem?_toArray,C]
    simpa using F.mpr G
   rw[if_neg L,if_pos J]
   exact Au h
  ·refine ⟨λx y Q E ⟨j,d,n⟩ ⟨k,g,m⟩ h=>?_,λx=>bO _,λx y z=>cU,λx y z=>kW⟩
   obtain ⟨O,U⟩:=x
   obtain ⟨y1,V⟩:=y
   simp only at n m
   subst n m
   obtain ⟨o,q,X⟩:=a j d
   obtain ⟨p,B,K⟩:=a k g
   show wpAny (model prog w) A (oneLt' false (.ref j) (.ref k)) Q E s
   exact PySem.W.kat_one _ _ (HT.lt_tupInts X K (show Ib o.toArray.toList (c j) by simpa using q) (show Ib p.toArray.toList (c k) by simpa using B) H h)
end
section
variable{X:Cx}
def rSortI(K:PySem.W.Frag):List V->Hp->VK->Prop:=λe H Q=>∃(a:Addr) (d:List Addr) (c:Addr->List Int),e=[.ref a]/\Sx K H a (d.map V.ref)/\(∀r∈d,Vm K H r ((c r).map V.int)) /\
  ∀(p:Addr) (b:List Addr),H p=none->b.Perm d->b.Pairwise (λx y=>HT.lexLt (c y) (c x)=false)->Q (.ref p) (upd H p (.lst (b.map V.ref)))
theorem call_sortedI(L:X.A.units+64<cLine):Nf X (.builtin "sorted") (rSortI X.K):=by
 intro j s M H J F Q I r h
 obtain ⟨a,D,c,rfl,x,l,q⟩:=h
 obtain ⟨u,rfl,C⟩:=vals1 r
 cases C
 obtain ⟨p,m,v,f⟩:=I.list x
 have e:=Yp m
 subst e
 rw[Ac] at f
 refine kT (c:=c) (d0:=[]) (lt_:=HT.lexLt) v.isList (λN G O _ y E=>oF (λr z=>?_) (by omega) E) f λd i t=>?_
 ·obtain ⟨ti,w,⟨o,g,k⟩,_⟩:=I.tuple (l r z)
  exact ⟨ti,intsAre_of w,o,y _ _ g,k⟩
 ·obtain ⟨n,B⟩:=Vt (h:=s.heap) (vs:=D.map Am) (out:=(d.map Am).toArray)
  refine ⟨.ref (s.heap.objs.size+1),upd H (s.heap.objs.size+1) (.lst (d.map V.ref)),I.laid (t':=s.toks) (λb o e=>Sw e) (Pb _) ⟨?_,_,n,Yn d,B⟩,rfl,q _ d (I.hok.fresh (Pb _)) i t⟩
  rw[Ac,i.length_eq]
  exact f
end
end Ts
namespace DL
open PySem L2 Nd
def Jv{a:Type}(xs:List a)(lo b:Option Int):List a:=(xs.drop (HT.sIx xs.length 0 lo)).take (HT.sIx xs.length xs.length b - HT.sIx xs.length 0 lo)
theorem oO{b c:Type}(f:b->c)(xs:List b)(lo a:Option Int):Jv (xs.map f) lo a=(Jv xs lo a).map f:=by
 unfold Jv
 rw[Ac,Sv,Yj]
theorem Lv{b:Type}(xs:List b)(lo a:Option Int):(Jv xs lo a).Sublist xs:=(Jl _ _).trans (Ia _ _)
theorem wL{a:Type}(xs:List a)(k:Nat):Jv xs none (some (k:Int))=xs.take k:=by
 unfold Jv
 rw[HT.sIx_none,HT.sIx_nat,Kf,Nat.sub_zero]
 by_cases h:k<=xs.length
 ·rw[Qa h]
 ·rw[fY (by omega),Dr,Dt (by omega)]
section
variable{K:PySem.W.Frag}{H:Hp}
theorem RdFs.drop:∀(n:Nat) {xs:List V} {a:List Ad} {F:List Addr},RdFs K H xs a F->∃G,RdFs K H (xs.drop n) (a.drop n) G/\G.Sublist F
 | 0,_,_,F,h=>⟨F,h,Cs _⟩
 | n+1,_,_,_,.nil=>⟨[],.nil,Cs _⟩
 | n+1,_,_,_,.cons _ t=>by
  obtain ⟨G,c,b⟩:=RdFs.drop n t
  exact ⟨G,c,b.trans (Ci _ _)⟩
theorem RdFs.take:∀(n:Nat) {xs:List V} {b:List Ad} {F:List Addr},RdFs K H xs b F->∃G,RdFs K H (xs.take n) (b.take n) G/\G.Sublist F
 | 0,_,_,F,h=>⟨[],.nil,List.nil_sublist _⟩
 | n+1,_,_,_,.nil=>⟨[],.nil,Cs _⟩
 | n+1,_,_,_,.cons a t=>by
  obtain ⟨G,d,c⟩:=RdFs.take n t
  exact ⟨_,.cons a d,(Cs _).append c⟩
theorem RdFs.cut{xs:List V}{a:List Ad}{F:List Addr}(h:RdFs K H xs a F)(lo b:Option Int):∃G,RdFs K H (dY xs lo b) (Jv a lo b) G/\G.Sublist F:=by
 unfold dY Jv
 rw[h.len]
 obtain ⟨G,f,e⟩:=h.drop (HT.sIx a.length 0 lo)
 obtain ⟨c,d,g⟩:=f.take (HT.sIx a.length a.length b - HT.sIx a.length 0 lo)
 exact ⟨c,d,g.trans e⟩
theorem RdFs.rev:∀{xs:List V} {b:List Ad},RdFs K H xs b []->RdFs K H xs.reverse b.reverse []:=λ{xs b} h=>by
 have : ∀{xs:List V} {b:List Ad} {F:List Addr},RdFs K H xs b F->F=[]->RdFs K H xs.reverse b.reverse []:=by
  intro xs b F h
  induction xs generalizing b F with
  | nil=>intro _; cases h; exact .nil
  | cons x xs c =>
   intro e
   cases h with
   | @cons _ d _ b F G a t =>
    obtain ⟨rfl,rfl⟩:=Od.mp e
    rw[Oa,Oa]
    exact (c t rfl).snoc a
 exact this h rfl
theorem RdFs.ints:∀ns:List Int,RdFs K H (ns.map V.int) (ns.map Be) []
 | []=>.nil
 | n::ns=>RdFs.cons (F:=[]) (.int n) (RdFs.ints ns)
theorem RdFs.ints_inv:∀{ns:List Int} {xs:List V} {F:List Addr},RdFs K H xs (ns.map Be) F->xs=ns.map V.int/\F=[]
 | [],_,_,h=>by cases h; exact ⟨rfl,rfl⟩
 | n::ns,_,_,h=>by
  rw[Aw] at h
  cases h with
  | cons a t =>
   obtain ⟨rfl,rfl⟩:=a.int_inv
   obtain ⟨rfl,rfl⟩:=RdFs.ints_inv t
   exact ⟨rfl,rfl⟩
theorem RdFs.bools_inv:∀{ns:List Bool} {xs:List V} {F:List Addr},RdFs K H xs (ns.map PyData.bool) F->xs=ns.map V.bl/\F=[]
 | [],_,_,h=>by cases h; exact ⟨rfl,rfl⟩
 | n::ns,_,_,h=>by
  rw[Aw] at h
  cases h with
  | cons a t =>
   obtain ⟨rfl,rfl⟩:=a.bl_inv
   obtain ⟨rfl,rfl⟩:=RdFs.bools_inv t
   exact ⟨rfl,rfl⟩
end
theorem fJ{a b:List Ad}:Cv (a++b)=(Cv a && Cv b):=by
 induction a with
 | nil=>simp [Cv]
 | cons x a c=>simp [Cv,c,Bool.and_assoc]
theorem Qi(ns:List Int):Cv (ns.map Be)=true:=Sj (λ_=>by simp [imm]) ns
def vE:D2:=λx y P=>match x,y with
 | .dat _ (.list ds),.dat _ (.list es)=>Cv ds=true/\Cv es=true/\ds.length+es.length<=1000000/\P (.dat .ow (.list (ds++es)))
 | _,_=>False
def dF:D2:=λx y P=>match x,y with
 | .dat _ (.tuple ds),.dat _ (.tuple es)=>Cv ds=true/\Cv es=true/\ds.length+es.length<=1000000/\P (.dat .ow (.tuple (ds++es)))
 | _,_=>False
def JT:D2:=λx y P=>match x,y with
 | .dat _ (.list ds),.dat _ (.int k)=>Cv ds=true /\ -1000000<=k/\k<=1000000/\ds.length * k.toNat<=1000000/\P (.dat .ow (.list (Ja k.toNat ds).flatten))
 | _,_=>False
section
variable{K:PySem.W.Frag}
theorem AI:uP K CM vE:=by
 intro A X n S T x y v w F G H Q P d c k
 unfold vE at c
 split at c
 ·obtain ⟨m,g,s,p⟩:=c
  obtain ⟨b,l,r,rfl,i,f,_,_⟩:=(d.told mem_mid).list_inv
  obtain ⟨a,o,z,rfl,h,e,_,_⟩:=(d.told Hs).list_inv
  have u:=e.len
  have t:=f.len
  refine ⟨a,b,o,l,rfl,rfl,h,i,gG (by omega),λq j=>?_⟩
  exact k _ _ _ _ (d.drop2.newI (e.app f) (by rw[fJ,m,g]; rfl) (by rw[Az]; exact gG (by omega)) j .ow) p
 ·exact c.elim
theorem P8:uP K (W2 K) dF:=by
 intro C X n S T x y v w F G H Q P c f k
 unfold dF at f
 split at f
 ·obtain ⟨A,t,B,p⟩:=f
  obtain ⟨b,l,rfl,i,g,s⟩:=(c.told mem_mid).tup_inv
  obtain ⟨a,m,rfl,h,d,o⟩:=(c.told Hs).tup_inv
  have z:=d.len
  have r:=g.len
  obtain rfl:=d.imm A
  obtain rfl:=g.imm t
  refine ⟨a,b,m,l,rfl,rfl,Vm.of h,Vm.of i,gG (by omega),λe=>?_,λe=>?_,λq u=>?_⟩
  ·subst e
   obtain rfl:=Nl.mp (z.symm.trans rfl)
   exact k _ _ [] _ (c.drop2.pushI (.tup i s g)) p
  ·subst e
   obtain rfl:=Nl.mp (r.symm.trans rfl)
   rw[Et] at p
   exact k _ _ [] _ (c.drop2.pushI (.tup h o d)) p
  ·have j:=Fs u (.tup (m++l))
   exact k _ _ [] _ ((c.drop2.grow j (Ak _)).pushI (.tup Dq (by rw[Az]; exact gG (by omega)) ((d.app g).kp (Kp.of j)))) p
 ·exact f.elim
end
section
variable{X:Cx}{a b:Expr}{d c:DE}{pos:Pos}
theorem qX(e:Gq X a d)(hb:Gq X b c):Gq X (.BinOp a .Add b pos) (aN vE d c):=Xk qR AI e hb
theorem vM(e:Gq X a d)(hb:Gq X b c):Gq X (.BinOp a .Add b pos) (aN dF d c):=Xk K5 P8 e hb
end
abbrev DO:=DS->(Option Int->DS->Prop)->Prop
def LO(K:PySem.W.Frag)(c:DO):TO:=λe H Q=>∃(g:Hp) (X:Addr->Prop) (S T:List Ent) (b:DS) (P:Option Int->DS->Prop),vs S=e/\Sl S b/\At K g X b.n (S++T) H/\c b P /\
 ∀o a d f,vs d=e->Sl d a->At K g X a.n (d++T) f->P o a->Q o f
abbrev EF(X:Cx)(e:Option Expr)(d:DO):Prop:=PO X e (LO X.K d)
theorem PO.imp{X:Cx}{e:Option Expr}{t t':TO}(h:PO X e t)(k:∀b H Q,t' b H Q->t b H Q):PO X e t':=λa s b H Q I q=>h a s b H Q I (k b H Q q)
def uC:DO:=λa P=>P none a
def U8(b:DE):DO:=λc P=>b c λx a=>match x with
 | .dat _ (.int i)=>P (some i) a
 | _=>False
section
variable{X:Cx}{e:Expr}{b:DE}{lo d:Option Expr}{dl f:DO}{pos c:Pos}
theorem Jb:EF X none uC:=by
 refine PO.imp Q7 λe H Q h=>?_
 obtain ⟨f,Y,S,T,a,P,rfl,b,c,d,k⟩:=h
 exact k _ a S H rfl b c d
theorem Hy(h:Gq X e b):EF X (some e) (U8 b):=by
 refine PO.imp (S7 h) λq H Q h=>?_
 obtain ⟨o,Y,S,T,d,P,rfl,g,i,j,k⟩:=h
 refine ⟨o,Y,S,T,d,_,rfl,g,i,j,λx c v F m f l n a p=>?_⟩
 split at p
 ·obtain ⟨rfl,_⟩:=(a.told mem_mid).int_inv
  exact ⟨_,rfl,k _ c m f l n a.drop p⟩
 ·exact p.elim
def JV(i:Bool)(b:DE)(dl f:DO):DE:=λe P=>b e λx c=>dl c λl d=>f d λh a=>match x with
 | .dat m (.list ds)=>Xh i m (Jv ds l h) λz=>P z a
 | .dat m (.tuple ds)=>dA i m (Jv ds l h) λz=>P z a
 | _=>False
def JO(K:PySem.W.Frag):V->Option Int->Option Int->Hp->VK->Prop:=λx lo d H Q=>DM K x lo d H Q\/Y6 x lo d H Q
theorem Jd{i:Bool}(he:Gq X e b)(hl:EF X lo dl)(hh:EF X d f):Gq X (.Subscript e (.Slice lo d none c) pos) (JV i b dl f):=by
 refine PE.imp (nH (r:=JO X.K) (K2.or O0) he hl hh) λσ H Q h=>?_
 obtain ⟨w,Y,S,T,δ,P,rfl,hS,hA,hd,k⟩:=h
 refine ⟨w,Y,S,T,δ,_,rfl,hS,hA,hd,λx t v F Z H1 U V C p1=>?_⟩
 refine ⟨w,Y,Z,⟨some v,x,F⟩::T,t,_,U,V,C,p1,λl E S2 H2 e3 R A c=>?_⟩
 refine ⟨w,Y,S2,⟨some v,x,F⟩::T,E,_,e3,R,A,c,λh m O H3 M N g n=>?_⟩
 split at n
 ·obtain ⟨a,y,G,rfl,u,D,rfl,J⟩:=(g.told mem_mid).list_inv
  refine .inl ⟨a,y,rfl,Sx.of u,λp o=>?_⟩
  obtain ⟨W,s,I⟩:=D.cut l h
  obtain ⟨z,q,j,B⟩:=g.newL s (I.trans (Cq _ _)) (Br (Lv _ _ _).length_le J) o n
  exact k z m _ q O _ M N j B
 ·obtain ⟨a,y,rfl,u,D,J⟩:=(g.told mem_mid).tup_inv
  refine .inr ⟨a,y,rfl,u,λp H' o L=>?_⟩
  obtain ⟨W,s,I⟩:=D.cut l h
  obtain ⟨z,q,j,B⟩:=(g.grow L (Ak _)).oldT (s.kp (Kp.of L)) I (Br (Lv _ _ _).length_le J) o n
  exact k z m _ q O _ M N j B
 ·exact n.elim
def V5(b:DE):DE:=λc P=>b c λx a=>match x with
 | .dat _ (.list ds)=>Cv ds=true/\P (.dat .ow (.list ds.reverse)) a
 | _=>False
def Y2(b:DE):DE:=λc P=>b c λx a=>match x with
 | .dat _ (.tuple ds)=>Cv ds=true/\P (.dat .ow (.tuple ds.reverse)) a
 | _=>False
theorem rZ{a:List Ad}(h:Cv a=true):Cv a.reverse=true:=rS.mpr λx b=>rS.mp h x (Ke.mp b)
theorem S8{k:Expr}{j:TE}(w:Gq X e b)(z:PE X k j)(g:∀m H Q,Q (.int (-1)) H->j m H Q):Gq X (.Subscript e (.Slice none none (some k) c) pos) (V5 b):=by
 refine PE.imp (T7 w z g) λm H Q h=>?_
 obtain ⟨s,Y,S,T,A,P,rfl,B,C,y,D⟩:=h
 refine ⟨s,Y,S,T,A,_,rfl,B,C,y,λx i v F u I o r f d=>?_⟩
 split at d
 ·obtain ⟨a,t,G,rfl,q,l,rfl,E⟩:=(f.told mem_mid).list_inv
  obtain rfl:=l.imm d.1
  refine ⟨a,t,rfl,Sx.of q,λp n=>?_⟩
  exact D _ i _ _ u _ o r (f.drop.newI l.rev (rZ d.1) (by rw[En]; exact E) n .ow) d.2
 ·exact d.elim
theorem K9{k:Expr}{l:TE}(y:Gq X e b)(A:PE X k l)(g:∀o H Q,Q (.int (-1)) H->l o H Q):Gq X (.Subscript e (.Slice none none (some k) c) pos) (Y2 b):=by
 refine PE.imp (BP y A g) λo H Q h=>?_
 obtain ⟨u,Y,S,T,B,P,rfl,C,D,z,E⟩:=h
 refine ⟨u,Y,S,T,B,_,rfl,C,D,z,λx i v F w I r t d f=>?_⟩
 split at f
 ·obtain ⟨a,m,rfl,s,n,G⟩:=(d.told mem_mid).tup_inv
  obtain rfl:=n.imm f.1
  refine ⟨a,m,rfl,Vm.of s,λp q=>?_⟩
  have j:=Fs q (.tup m.reverse)
  exact E _ i _ [] w _ r t ((d.drop.grow j (Ak _)).pushI (.tup Dq (by rw[En]; exact G) (n.rev.kp (Kp.of j)))) f.2
 ·exact f.elim
end
end DL
namespace NdS
open PySem PyProof.Rows
end NdS
namespace Nd
open PySem PySem.Spec PyProof.Rows L2 NdS
end Nd
namespace DL
open PySem L2 Nd
def u0(x:Int):List Int->List Int
 | []=>[x]
 | y::l=>if x<y then x::y::l else if x=y then y::l else y::u0 x l
def EY(ns:List Int):List Int:=ns.foldr u0 []
theorem B2{x z:Int}:∀{l:List Int},z∈u0 x l↔z=x\/z∈l
 | []=>by simp [u0]
 | y::l=>by
  unfold u0
  split
  ·simp
  ·split
   ·rename_i b a
    subst a
    simp
   ·simp only[Aj,B2 (l:=l)]
    constructor
    ·rintro (h | h | h) <;> simp [h]
    ·rintro (h | h | h) <;> simp [h]
theorem dH:∀{l m:List Int},l.Perm m->l.Pairwise (·<=·)->m.Pairwise (·<=·)->l=m
 | [],m,p,_,_=>(List.nil_perm.mp p).symm
 | a::l,[],p,_,_=>(List.perm_nil.mp p)
 | a::l,b::m,p,h1,h2=>by
  obtain ⟨d,c⟩:=Ay.mp h1
  obtain ⟨f,g⟩:=Ay.mp h2
  have e:a=b:=by
   rcases Aj.mp (p.mem_iff.mp Aa) with z | z
   ·exact z
   ·rcases Aj.mp (p.mem_iff.mpr Aa) with y | y
    ·exact y.symm
    ·have:=f a z; have:=d b y; omega
  subst e
  rw[dH (List.perm_cons _ |>.mp p) c g]
def wH(x:Int):List Int->List Int
 | []=>[x]
 | y::l=>if x<=y then x::y::l else y::wH x l
def dO(ns:List Int):List Int:=ns.foldr wH []
theorem xJ{x:Int}:∀{l:List Int},(wH x l).Perm (x::l)
 | []=>Ii _
 | y::l=>by
  unfold wH
  split
  ·exact Ii _
  ·exact ((xJ (l:=l)).cons y).trans (Ds _ _ _)
theorem Pr:∀ns:List Int,(dO ns).Perm ns
 | []=>Ii _
 | n::ns=>xJ.trans ((Pr ns).cons n)
theorem uD{x:Int}:∀{l:List Int},l.Pairwise (·<=·)->(wH x l).Pairwise (·<=·)
 | [],_=>Cn _ _
 | y::l,h=>by
  obtain ⟨b,c⟩:=Ay.mp h
  unfold wH
  split
  ·rename_i a
   refine Ay.mpr ⟨λz hz=>?_,h⟩
   rcases Aj.mp hz with rfl | hz
   ·exact a
   ·exact Int.le_trans a (b z hz)
  ·refine Ay.mpr ⟨λz hz=>?_,uD c⟩
   rcases Aj.mp (xJ.mem_iff.mp hz) with rfl | hz
   ·omega
   ·exact b z hz
theorem cE:∀ns:List Int,(dO ns).Pairwise (·<=·)
 | []=>Eh
 | n::ns=>uD (cE ns)
theorem yZ{l ns:List Int}(p:l.Perm ns)(h:l.Pairwise (·<=·)):l=dO ns:=dH (p.trans (Pr ns).symm) h (cE ns)
theorem wF(ns:List Int):(dO ns).length=ns.length:=(Pr ns).length_eq
abbrev DC:=List DV->(DV->Prop)->Prop
def Sz(K:PySem.W.Frag)(r:List V->Hp->VK->Prop)(rd:DC):Prop:=∀(d:Hp) (X:Addr->Prop) (n:Nat) (S T a:List Ent) (b:List V) (H:Hp) (Q:VK) (P:DV->Prop),
 a.map Ent.v=b.map some->At K d X n (S++(a++T)) H->rd (a.map Ent.x) P->(∀z u e c,At K d X n (S++⟨some u,z,e⟩::T) c->P z->Q u c)->r b H Q
def HN(rd:DC)(d:DA):DE:=λb P=>d b λc a=>rd c λz=>P z a
section
variable{X:Cx}{x:Str}{p pos:Pos}{e:Expr}{es:List Expr}{a:DA}{id T:String}{r:List V->Hp->VK->Prop}{rd:DC}
theorem W3{K:PySem.W.Frag}(o:Sz K r rd):∀f H Q,LE K (HN rd a) f H Q->ED r (LA K a) f H Q:=by
 intro f H Q h
 obtain ⟨i,Y,S,T,w,P,rfl,x,C,v,k⟩:=h
 refine ⟨i,Y,S,T,w,_,rfl,x,C,v,λD b s q g j m t y A c p=>?_⟩
 subst y
 exact o i Y b.n g T s q j Q _ A c p λz u l d e B=>k z b u l g d m t e B
theorem Ej(d:Nf X (.builtin id) r)(o:Sz X.K r rd)(i:Gl X x)(k:X.mg x=none)(j:Lh x=some (.builtin id))(h:rK X (e::es) a)(g:x ≠ "__name__" := by decide)(b:(x == ("__debug__" : Str))=false:=by decide)(f:Bl (e::es) X.env=(false,eval e X.env)::Bl es X.env:=by rfl)(c:(Hf pos (Bl es X.env)).any (·.1)=false:=by rfl):Gq X (.Call (.Name x p) (e::es) [] pos) (HN rd a) :=
 PE.imp (dR d i k j h g b f c) (W3 o)
theorem Ml(d:Nf X (.type T) r)(o:Sz X.K r rd)(i:Gl X x)(k:X.mg x=none)(j:Lh x=some (.type T))(h:rK X (e::es) a)(g:x ≠ "__name__" := by decide)(b:(x == ("__debug__" : Str))=false:=by decide)(f:Bl (e::es) X.env=(false,eval e X.env)::Bl es X.env:=by rfl)(c:(Hf pos (Bl es X.env)).any (·.1)=false:=by rfl):Gq X (.Call (.Name x p) (e::es) [] pos) (HN rd a) :=
 PE.imp (Yx d i k j h g b f c) (W3 o)
end
theorem CZ{c b:Type}{f:c->b}{l:List c}{x:b}(h:l.map f=[x]):∃a,l=[a]/\f a=x:=by
 cases l with
 | nil=>cases h
 | cons a t =>
  obtain ⟨d,e⟩:=Oc h
  exact ⟨a,by rw[List.map_eq_nil_iff.mp e],d⟩
theorem FS{d c:Type}{f:d->c}{l:List d}{x y:c}(h:l.map f=[x,y]):∃a b,l=[a,b]/\f a=x/\f b=y:=by
 cases l with
 | nil=>cases h
 | cons a t =>
  obtain ⟨g,i⟩:=Oc h
  obtain ⟨b,rfl,e⟩:=CZ i
  exact ⟨a,b,rfl,g,e⟩
theorem Jo{K:PySem.W.Frag}{c H:Hp}{X:Addr->Prop}{n:Nat}{S T As:List Ent}{us:List V}{x:DV}(e:As.map Ent.v=us.map some)(f:At K c X n (S++(As++T)) H)(ex:As.map Ent.x=[x]):∃v F,us=[v]/\At K c X n (S++⟨some v,x,F⟩::T) H:=by
 obtain ⟨⟨v,y,F⟩,rfl,d⟩:=CZ ex
 obtain ⟨u,rfl,g⟩:=CZ e.symm
 have a:y=x:=d
 have b:some u=v:=g
 subst a b
 exact ⟨u,F,rfl,f⟩
theorem oM{K:PySem.W.Frag}{f H:Hp}{X:Addr->Prop}{n:Nat}{S T As:List Ent}{us:List V}{x y:DV}(k:As.map Ent.v=us.map some)(m:At K f X n (S++(As++T)) H)(ex:As.map Ent.x=[x,y]):∃v F w G,us=[v,w]/\At K f X n (S++⟨some v,x,F⟩::⟨some w,y,G⟩::T) H:=by
 obtain ⟨⟨v,l,F⟩,⟨w,o,G⟩,rfl,i,h⟩:=FS ex
 obtain ⟨u,e,rfl,g,j⟩:=FS k.symm
 have b:l=x:=i
 have c:o=y:=h
 have a:some u=v:=g
 have d:some e=w:=j
 subst b c a d
 exact ⟨u,F,e,G,rfl,m⟩
def uJ:DC:=λa P=>match a with
 | [.dat _ (.list ds)]=>P (.dat .ow (.int ds.length))
 | [.dat _ (.tuple ds)]=>P (.dat .ow (.int ds.length))
 | [.dat _ (.str z)]=>z.length<=1000000/\P (.dat .ow (.int z.length))
 | _=>False
def sF(i:Bool):DC:=λa P=>match a with
 | [.dat m (.list ds)]=>Xh i m ds P
 | [.dat m (.tuple ds)]=>Xh i m ds P
 | _=>False
def lG(i:Bool):DC:=λa P=>match a with
 | [.dat m (.list ds)]=>dA i m ds P
 | [.dat m (.tuple ds)]=>P (.dat m (.tuple ds))
 | _=>False
def o8:DC:=λa P=>match a with
 | [.dat _ (.int i)]=>P (.dat .ow (.int i))
 | [.dat _ (.bool b)]=>P (.dat .ow (.int (if b=true then 1 else 0)))
 | _=>False
def IP:DC:=λb P=>match b with
 | [.dat _ (.list ds)]=>∃a:List Int,ds=a.map Be/\a≠[]/\∀M∈a,(∀x∈a,M<=x)->P (.dat .ow (.int M))
 | _=>False
def r9:DC:=λa P=>match a with
 | [.dat _ (.list ds)]=>∃bs:List Bool,ds=bs.map PyData.bool/\P (.dat .ow (.bool (bs.all id)))
 | _=>False
def i7:Ad->String
 | .none => "NoneType"
 | .bool _ => "bool"
 | .int _ => "int"
 | .str _ => "str"
 | .list _ => "list"
 | .tuple _ => "tuple"
 | .dict _ => "dict"
def Tu(d:Ad)(n:String):Bool:=i7 d == n || (i7 d == "bool" && n == "int")
def zN:DC:=λa P=>match a with
 | [.dat _ d,.val (.ty n)]=>(n = "int" \/ n = "bool" \/ n = "str" \/ n = "list" \/ n = "tuple")/\P (.dat .ow (.bool (Tu d n)))
 | _=>False
def o4:DC:=λa P=>match a with
 | [.dat _ d]=>(∃b,b<=400/\Ir b d/\(b+12) * Fe d<=Bf)/\d.depth<=90/\P (.dat .ow (.str (qV d)))
 | _=>False
section
variable{K:PySem.W.Frag}
theorem Nv:Sz K (λxs H Q=>∃x n,xs=[x]/\FP K x H n/\Q (.int n) H) uJ:=by
 intro j X n S T i h H Q P f b c k
 unfold uJ at c
 split at c
 ·rename_i d
  obtain ⟨v,F,rfl,b⟩:=Jo f b d
  obtain ⟨a,xs,G,rfl,e,g,_,_⟩:=(b.told mem_mid).list_inv
  exact ⟨_,_,rfl,.inl ⟨xs,Sx.of e,g.len.symm⟩,k _ _ [] H (b.drop.pushI (.int _)) c⟩
 ·rename_i d
  obtain ⟨v,F,rfl,b⟩:=Jo f b d
  obtain ⟨a,xs,rfl,e,g,_⟩:=(b.told mem_mid).tup_inv
  exact ⟨_,_,rfl,.inr ⟨xs,Vm.of e,g.len.symm⟩,k _ _ [] H (b.drop.pushI (.int _)) c⟩
 ·rename_i d
  obtain ⟨v,F,rfl,b⟩:=Jo f b d
  obtain ⟨rfl,_⟩:=(b.told mem_mid).str_inv
  exact ⟨_,_,rfl,⟨gG c.1,rfl⟩,k _ _ [] H (b.drop.pushI (.int _)) c.2⟩
 ·exact c.elim
theorem O4{i:Bool}:Sz K (mX K) (sF i):=by
 intro t X n S T s r H Q P p b c k
 unfold sF at c
 split at c
 ·rename_i g
  obtain ⟨v,F,rfl,b⟩:=Jo p b g
  obtain ⟨a,o,G,rfl,h,j,rfl,d⟩:=(b.told mem_mid).list_inv
  refine ⟨a,o,rfl,.inl (Sx.of h),λl e=>?_⟩
  obtain ⟨z,q,f,m⟩:=b.newL j (Cq _ _) d e c
  exact k _ _ _ _ f m
 ·rename_i g
  obtain ⟨v,F,rfl,b⟩:=Jo p b g
  obtain ⟨a,o,rfl,h,j,d⟩:=(b.told mem_mid).tup_inv
  refine ⟨a,o,rfl,.inr (Vm.of h),λl e=>?_⟩
  obtain ⟨z,q,f,m⟩:=b.newL j (Cs _) d e c
  exact k _ _ _ _ f m
 ·exact c.elim
theorem fL{i:Bool}:Sz K (U1 K) (lG i):=by
 intro t X n S T s q H Q P h b c k
 unfold lG at c
 split at c
 ·rename_i d
  obtain ⟨v,F,rfl,b⟩:=Jo h b d
  obtain ⟨a,f,G,rfl,e,j,rfl,g⟩:=(b.told mem_mid).list_inv
  refine ⟨a,f,rfl,.inl ⟨Sx.of e,λl m=>?_⟩⟩
  obtain ⟨z,r,o,p⟩:=b.newT j (Cq _ _) g m c
  exact k _ _ _ _ o p
 ·rename_i d
  obtain ⟨v,F,rfl,b⟩:=Jo h b d
  obtain ⟨a,f,rfl,e,j,g⟩:=(b.told mem_mid).tup_inv
  exact ⟨a,f,rfl,.inr ⟨Vm.of e,k _ _ F H b c⟩⟩
 ·exact c.elim
theorem yX:Sz K (λxs H Q=>(∃i,xs=[V.int i]/\Q (.int i) H)\/∃k,xs=[V.bl k]/\Q (.int (if k then 1 else 0)) H) o8:=by
 intro g X n S T f e H Q P d a b k
 unfold o8 at b
 split at b
 ·rename_i c
  obtain ⟨v,F,rfl,a⟩:=Jo d a c
  obtain ⟨rfl,_⟩:=(a.told mem_mid).int_inv
  exact .inl ⟨_,rfl,k _ _ [] H (a.drop.pushI (.int _)) b⟩
 ·rename_i c
  obtain ⟨v,F,rfl,a⟩:=Jo d a c
  obtain ⟨rfl,_⟩:=(a.told mem_mid).bl_inv
  exact .inr ⟨_,rfl,k _ _ [] H (a.drop.pushI (.int _)) b⟩
 ·exact b.elim
theorem BN:Sz K (λxs H Q=>∃(p:Addr) (bs:List Bool),xs=[.ref p]/\Sx K H p (bs.map V.bl)/\Q (.bl (bs.all id)) H) r9:=by
 intro m X n S T l j H Q P g b c k
 unfold r9 at c
 split at c
 ·rename_i e
  obtain ⟨v,F,rfl,b⟩:=Jo g b e
  obtain ⟨bs,rfl,d⟩:=c
  obtain ⟨a,xs,G,rfl,f,h,rfl,i⟩:=(b.told mem_mid).list_inv
  obtain ⟨rfl,_⟩:=h.bools_inv
  exact ⟨a,bs,rfl,Sx.of f,k _ _ [] H (b.drop.pushI (.bl _)) d⟩
 ·exact c.elim
theorem K4{T n:String}{b:Bool}(h1:(Ep T == Ep n)=false)(a:PySem.W.kitMeta n=true)(c:(fastBuiltinMro T).map (λx=>x.contains (Ep n))=some b):PySem.W.kitOne K (.type T) (.type n)=some b:=BW h1 a c
theorem K8{d:Ad}{n:String}(c:n = "int" \/ n = "bool" \/ n = "str" \/ n = "list" \/ n = "tuple"):PySem.W.kitOne K (.type (i7 d)) (.type n)=some (Tu d n):=by
 have a:∀T:String,(T = "NoneType" \/ T = "bool" \/ T = "int" \/ T = "str" \/ T = "list" \/ T = "tuple" \/ T = "dict")->PySem.W.kitOne K (.type T) (.type n)=some (T == n || (T == "bool" && n == "int")):=by
  intro T b
  rcases b with rfl | rfl | rfl | rfl | rfl | rfl | rfl <;> rcases c with rfl | rfl | rfl | rfl | rfl <;> first | exact CC | exact K4 (by decide +kernel) (by decide +kernel) (by decide +kernel)
 unfold Tu
 refine a _ ?_
 cases d <;> simp [i7]
theorem Pl:Sz K (KH K) zN:=by
 intro p X n S T o m H Q P j a c k
 unfold zN at c
 split at c
 ·rename_i g
  obtain ⟨v,F,w,G,rfl,a⟩:=oM j a g
  have f:w=.ty _:=Bu (a.ok _ Hs).1
  subst f
  have r:=a.told mem_mid
  refine ⟨v,_,.type (i7 _),_,rfl,?_,K8 c.1,k _ _ [] H (a.drop2.pushI (.bl _)) c.2⟩
  ·cases r with
   | non=>exact .non
   | bl b=>exact .bl b
   | int i=>exact .int i
   | str x=>exact .str x
   | lst h l d=>exact .lst h
   | tup h l d=>exact .tup h
   | dic h e d=>exact .dT h
   | dik h e d=>exact .dK h
   | dnm h e d=>exact .dT h
 ·exact c.elim
theorem x8:Sz K (GW K) o4:=by
 intro g X n S T f e H Q P d b a k
 unfold o4 at a
 split at a
 ·rename_i c
  obtain ⟨v,F,rfl,b⟩:=Jo d b c
  exact ⟨_,_,rfl,⟨(b.told mem_mid).rd a.2.1,a.1,a.2.1⟩,k _ _ [] H (b.drop.pushI (.str _)) a.2.2⟩
 ·exact a.elim
end
def dV(v:V):DE:=λa P=>P (.val v) a
section
variable{X:Cx}{e:Expr}
theorem BB{v:V}(h:PE X e (tC v)):Gq X e (dV v):=by
 refine PE.imp h λj H Q h=>?_
 obtain ⟨l,Y,S,T,c,P,rfl,d,g,i,k⟩:=h
 exact k _ c v [] S H rfl d ((g.push (e:=⟨some v,.val v,[]⟩) ⟨rfl,rfl⟩ (λf _=>⟨λ_ a b=>(nomatch b),λ_ a _=>Bt⟩) (λa b=>(nomatch b))).tomid) i
theorem Tz{x:Str}{n:String}{pos:Pos}(a:Gl X x)(c:X.mg x=none)(d:Lh x=some (.type n))(b:x ≠ "__name__" := by decide)(hd:(x == ("__debug__" : Str))=false:=by decide):Gq X (.Name x pos) (dV (.ty n)):=BB (P2 a c d rfl b hd)
end
end DL
namespace Nd
open PySem PySem.Spec PyProof.Rows L2
def IK(K:PySem.W.Frag)(a b:Addr):It :=
  ⟨λi H=>∃d c x y,Sx K H a d/\Sx K H b c/\d[i]? = some x/\c[i]? = some y,
   λi H x e=>∃p u v,x=.ref p/\H p=none/\e=upd H p (.tup [u,v])/\(∀d,Sx K H a d->d[i]? = some u)/\∀c,Sx K H b c->c[i]? = some v,
   λi H=>∃d c,Sx K H a d/\Sx K H b c/\(d.length<=i\/c.length<=i)⟩
theorem i6{P:Bz}{w:World}{K:PySem.W.Frag}{N:List Expr}{k:Nat}{pos:Pos}(a b z TI TO l j:Addr)(D:ZipApart z TI TO l j a b):Turn P w K (.Tuple N k pos) (IK K a b) [z,TI,TO,l,j] z (λi h=>IsZip h z TI TO .none/\IsPair h TI (.ref l) (.ref j)/\(∃u v,IsPair h TO u v)/\h.IsListIter l a i/\h.IsListIter j b i) where
 mem:=Aa
 obj:=λi h st c d=>by
  obtain ⟨A,e,⟨u,v,g⟩,⟨o1,e1,c1,d1⟩,⟨o2,e2,c2,d2⟩⟩:=st
  simp only[Aj,Bt,or_false] at d
  rcases d with rfl | rfl | rfl | rfl | rfl
  ·exact ⟨_,A,λv z=>by cases z⟩
  ·exact ⟨_,e,λv z=>by cases z⟩
  ·exact ⟨_,g,λv z=>by cases z⟩
  ·exact ⟨o1,e1,λv z=>by rw[d1] at z; cases z⟩
  ·exact ⟨o2,e2,λv z=>by rw[d2] at z; cases z⟩
 keep:=λi h h' st kp=>by
  obtain ⟨A,e,⟨u,v,g⟩,M,R⟩:=st
  exact ⟨kp z (by simp) _ A,kp TI (by simp) _ e,⟨u,v,kp TO (by simp) _ g⟩,M.at λo q=>kp l (by simp) o q,R.at λo q=>kp j (by simp) o q⟩
 item:=by
  intro X hP hw hK d i t s σ H E I S st hg
  subst hP hw hK
  obtain ⟨xs,ys,x,y,m,p,T,hy⟩:=hg
  obtain ⟨L,C,p1,Y⟩:=I.list m
  obtain ⟨O,F,Z,h0⟩:=I.list p
  obtain ⟨G,h6,h5⟩:=C.get T
  obtain ⟨J,h3,h4⟩:=F.get hy
  obtain ⟨A,e,⟨o1,o2,g⟩,n,r⟩:=st
  have zl:z<s.heap.objs.size:=Bq A
  have k2:TI<s.heap.objs.size:=Bq e
  have k0:TO<s.heap.objs.size:=Bq g
  have k1:l<s.heap.objs.size:=by obtain ⟨_,q,_⟩:=n; exact Bq q
  have h8:j<s.heap.objs.size:=by obtain ⟨_,q,_⟩:=r; exact Bq q
  refine wpAny_pyNext_zip_item D A e g n r p1.isList Z.isList (x:=G) (y:=J) (by simpa using h6) (by simpa using h3) λM a1 a2 a3 a4 a5 a6 U=>⟨_,rfl,wpAny_letOwnedTupleGo_zip a1 λR h7 V=>?_⟩
  have f:Lx z M R:=V
  have I1:Inv X t σ (upd H s.heap.objs.size (.tup [x,y])) { s with heap:=s.heap.push { cls:=.type "tuple",data:=.seq #[G,J] } } :=
   I.laid (t':=s.toks) (λb o q=>Aq _ q) (Ak _) ⟨by show 2<=Bf; decide,[G,J],.cons h5 (.cons h4 .nil),_,Ca _ rfl,rfl,0,rfl⟩
  have nT:∀c∈[z,TI,TO,l,j],c≠s.heap.objs.size:=λc d=>by
   simp only[Aj,Bt,or_false] at d
   rcases d with rfl | rfl | rfl | rfl | rfl <;> exact Cz (by assumption)
  have fr:∀c∈[z,TI,TO,l,j],(upd H s.heap.objs.size (.tup [x,y])) c=none:=λc d=>by rw[Ei (nT c d)]; exact (S c d).1
  refine ⟨.ref s.heap.objs.size,_,lI (fp:=[z,TI,TO,l,j]) (s:={ s with heap:=s.heap.push { cls:=.type "tuple",data:=.seq #[G,J] } }) (h':=R) (t':=s.toks) I1 (λc o d q=>?_) (λc d=>⟨fr c d,(S c d).2⟩),rfl,⟨_,x,y,rfl,I.hok.fresh (Ak _),rfl,(λzs B=>by rw[I.list_inj B m]; exact T),λzs B=>by rw[I.list_inj B p]; exact hy⟩,⟨h7,?_,⟨G,J,?_⟩,?_,?_⟩,fr⟩
  ·simp only[Aj,Bt,or_false,not_or] at d
   refine (f.2 c d.1).trans ?_
   by_cases Q:c=s.heap.objs.size
   ·subst Q
    have q':=(Ca s.heap (o:={ cls:=.type "tuple",data:=.seq #[G,J] }) rfl).symm.trans q
    rw[show M.get? s.heap.objs.size=_ from a5]
    exact q'
   ·refine U c o d.1 d.2.2.1 d.2.2.2.1 d.2.2.2.2 ?_
    have q0:(s.heap.push { cls:=.type "tuple",data:=.seq #[G,J] }).get? c=some o:=q
    rcases Heap.get?_push_cases q0 with zz | zz
    ·exact absurd zz.1 Q
    ·exact zz
  ·exact (f.2 TI D.TIz).trans (U TI _ D.TIz D.TITO D.TIi1 D.TIi2 e)
  ·exact (f.2 TO D.TOz).trans a2
  ·exact a3.at λo q=>(f.2 l D.i1z).trans q
  ·exact a4.at λo q=>(f.2 j D.i2z).trans q
 done:=by
  intro X hP hw hK d i t s σ H E I S st hg
  subst hP hw hK
  obtain ⟨xs,ys,m,p,T⟩:=hg
  obtain ⟨L,C,p1,Y⟩:=I.list m
  obtain ⟨O,F,Z,h0⟩:=I.list p
  obtain ⟨A,e,⟨o1,o2,g⟩,n,r⟩:=st
  have k3:=C.length
  have h9:=F.length
  refine wpAny_pyNext_zip_end (I.ok.hd d) D A e g n r p1.isList Z.isList ?_ λM U=>⟨rfl,lI (fp:=[z,TI,TO,l,j]) (t':=s.toks) I (λc o d q=>?_) S⟩
  ·rcases T with h | h
   ·exact .inl (by simp; omega)
   ·exact .inr (by simp; omega)
  ·simp only[Aj,Bt,or_false,not_or] at d
   exact U c o d.1 d.2.2.1 d.2.2.2.1 d.2.2.2.2 q
 self:=λ_ _ _ _ _ st h=>wpAny_pyIter_zip st.1 h
theorem wV(I l1 l2:Nat)(h1:l1<I)(a:l2<I):ZipApart (I+4) (I+2) (I+3) I (I+1) l1 l2:=by
 constructor <;> (intro e; have b:(_:Nat)=_:=e; omega)
section
variable{X:Cx}
def IM(K:PySem.W.Frag)(e:TA):TI:=λd H R=>e d H λvs c=>∃a b,vs=[.ref a,.ref b]/\(∃g,Sx K c a g)/\(∃f,Sx K c b f)/\R (IK K a b) c
theorem DX{l:List Expr}{k:Nat}{tp:Pos}{a b:Expr}{G:TA}{p pos:Pos}(hg:Gl X "zip")(U:X.mg "zip" = none)(Y:PA X [a,b] G)(hs:Bl [a,b] X.env=(false,eval a X.env)::Bl [b] X.env:=by rfl)(P:(Hf pos (Bl [b] X.env)).any (·.1)=false:=by rfl):PI X (.Tuple l k tp) (.Call (.Name "zip" p) [a,b] [] pos) (IM X.K G):=by
 intro f s σ H R I h
 refine Call_ (cG I hg U (u:=.type "zip") (by decide +kernel) (Oh (Kj (Y pos f s σ H _ I h) λus g ⟨vs,x,i,Q,Z⟩=>?_) hs P))
 obtain ⟨M,L,e,⟨xs,v⟩,⟨ys,C⟩,q⟩:=Z
 subst e
 obtain ⟨u1,u2,rfl,A,y⟩:=vals2 Q
 cases A
 cases y
 obtain ⟨F,T,m,O⟩:=i.list v
 obtain ⟨J,V,t,S⟩:=i.list C
 have r:M<g.heap.objs.size:=let ⟨o,q,_⟩:=m.isList; Bq q
 have j:L<g.heap.objs.size:=let ⟨o,q,_⟩:=t.isList; Bq q
 refine call_zip_2 m.isList t.isList λh2 N w B z D W hk=>wpAny_pyIter_zip N ?_
 have d:∀n,Sk X f x (g.heap.objs.size+n):=λn=>i.fpOk (Th _ _) (i.hok.fresh (Th _ _))
 have fr:∀c∈[g.heap.objs.size+4,g.heap.objs.size+2,g.heap.objs.size+3,g.heap.objs.size,g.heap.objs.size+1],Sk X f x c:=λc E=>by
  simp only[Aj,Bt,or_false] at E
  rcases E with rfl | rfl | rfl | rfl | rfl
  ·exact d 4
  ·exact d 2
  ·exact d 3
  ·exact d 0
  ·exact d 1
 exact ⟨g.heap.objs.size+4,_,_,_,x,rfl,i.kept (t':=g.toks) hk,i6 M L _ _ _ _ _ (wV _ _ _ r j),⟨N,w,⟨_,_,B⟩,z,D⟩,fr,q⟩
end
end Nd
namespace Nd
open PySem PySem.Spec PyProof.Rows L2
open AutoSeq1 (wpAny_loadPart')
end Nd
namespace DL
open PySem L2 Nd
def dB(c:DE):DT:=λd P=>c d λx a=>match x with
 | .dat _ (.bool b)=>P b a
 | _=>False
def U3(dt:DT):DT:=λc P=>dt c λb a=>P (!b) a
def Y5(dt d:DT):DT:=λc P=>dt c λb a=>match b with
 | true=>d a P
 | false=>P false a
def FU(dt d:DT):DT:=λc P=>dt c λb a=>match b with
 | true=>P true a
 | false=>d a P
def FY(c:DE):DE:=λd P=>c d λx a=>match x with
 | .dat _ (.bool b)=>P (.dat .ow (.bool (!b))) a
 | _=>False
def GA(d b:DE):DE:=λc P=>d c λx a=>match x with
 | .dat _ (.bool true)=>b a P
 | .dat _ (.bool false)=>P (.dat .ow (.bool false)) a
 | _=>False
def HD(b:DE):DE:=λc P=>b c λx a=>match x with
 | .dat _ (.int i)=>P (.dat .ow (.int (-i))) a
 | _=>False
section
variable{K:PySem.W.Frag}{a:DE}
theorem FB:∀c H Q,LT K (dB a) c H Q->LE K a c H λx H'=>∃k,x=.bl k/\Q k H':=by
 intro c H Q h
 obtain ⟨g,Y,S,T,i,P,rfl,j,l,m,k⟩:=h
 refine ⟨g,Y,S,T,i,_,rfl,j,l,m,λx d v F f p n o b e=>?_⟩
 split at e
 ·obtain ⟨rfl,_⟩:=(b.told mem_mid).bl_inv
  exact ⟨_,rfl,k _ d f p n o b.drop e⟩
 ·exact e.elim
end
section
variable{X:Cx}{a b c e:Expr}{d f i:DE}{dt g:DT}{pos:Pos}{Gx:List Expr}
theorem Mx(h:Gq X e i)(b:∀a,isTrue e X.env a=(do let v <- a; standAt e.pos; Jy [v] (truthy v)):=by intro _; rfl):lR X e (dB i):=PT.imp (B9 h b) FB
theorem Wb{op:CmpOp}{r:R2}{rd:D2}(e:Yh X (Jg op) r)(o:uP X.K r rd)(c:Gq X a d)(hb:Gq X b f)(i:Hz op b=false):lR X (.Compare a [op] [b] pos) (dB (aN rd d f)):=by
 refine PT.imp (P1 e c hb i) λg H Q h=>?_
 exact op_le o _ _ _ (FB g H Q h)
theorem J1(c:Gq X a d)(hb:Gq X b f):lR X (.Compare a [.Lt] [b] pos) (dB (aN rdLt d f)):=Wb FD (gL λ_ _ _=>.bl _) c hb (Tx _)
theorem GC(c:Gq X a d)(hb:Gq X b f):lR X (.Compare a [.LtE] [b] pos) (dB (aN rdLe d f)):=Wb L2.op_le (gL λ_ _ _=>.bl _) c hb (Tx _)
theorem U5(c:Gq X a d)(hb:Gq X b f):lR X (.Compare a [.Gt] [b] pos) (dB (aN rdGt d f)):=Wb GU (gL λ_ _ _=>.bl _) c hb (Tx _)
theorem V0(c:Gq X a d)(hb:Gq X b f):lR X (.Compare a [.GtE] [b] pos) (dB (aN rdGe d f)):=Wb X3 (gL λ_ _ _=>.bl _) c hb (Tx _)
theorem Oo(e:X.A.units+64<cLine)(c:Gq X a d)(hb:Gq X b f):lR X (.Compare a [.Eq] [b] pos) (dB (aN (kX false) d f)):=Wb (zQ e) Y3 c hb (Tx _)
theorem gV(e:X.A.units+64<cLine)(c:Gq X a d)(hb:Gq X b f):lR X (.Compare a [.NotEq] [b] pos) (dB (aN (kX true) d f)):=Wb (DN e) FN c hb (Tx _)
theorem yK(g:X.A.units+64<cLine)(c:Gq X a d)(hb:Gq X b f)(e:Hz .NotIn b=false:=by with_unfolding_all rfl):lR X (.Compare a [.NotIn] [b] pos) (dB (aN (vZ true) d f)):=Wb (wD g) V8 c hb e
theorem Nc(h:lR X a dt):lR X (.UnaryOp .Not a pos) (U3 dt):=by
 refine PT.imp (BA h) λq H Q h=>?_
 obtain ⟨o,Y,S,T,e,P,rfl,g,i,j,k⟩:=h
 exact ⟨o,Y,S,T,e,_,rfl,g,i,j,λb d l f m n c p=>k _ d l f m n c p⟩
theorem Q1(h:lR X a dt):AY X (.BoolOp .And [a] pos) dt:=K3 h
theorem Uc(h:lR X a dt):AY X (.BoolOp .Or [a] pos) dt:=CK h
theorem BY(h:lR X a dt)(hb:AY X (.BoolOp .And (b::Gx) pos) g):AY X (.BoolOp .And (a::b::Gx) pos) (Y5 dt g):=by
 refine PW.imp (CQ h hb) λr H Q h=>?_
 obtain ⟨j,Y,S,T,l,P,rfl,n,o,q,k⟩:=h
 refine ⟨j,Y,S,T,l,_,rfl,n,o,q,λb d f m e i c p=>?_⟩
 cases b with
 | true=>exact nM ⟨j,Y,f,T,d,P,e,i,c,p,k⟩
 | false=>exact sC (k _ d f m e i c p)
theorem Vu(h:lR X a dt)(hb:AY X (.BoolOp .Or (b::Gx) pos) g):AY X (.BoolOp .Or (a::b::Gx) pos) (FU dt g):=by
 refine PW.imp (HF h hb) λr H Q h=>?_
 obtain ⟨j,Y,S,T,l,P,rfl,n,o,q,k⟩:=h
 refine ⟨j,Y,S,T,l,_,rfl,n,o,q,λb d f m e i c p=>?_⟩
 cases b with
 | true=>exact nM (k _ d f m e i c p)
 | false=>exact sC ⟨j,Y,f,T,d,P,e,i,c,p,k⟩
theorem jZ(h:AY X a dt):lR X a dt:=PW.pt h
theorem pW{op}(h:Gq X a d):Gq X (.BoolOp op [a] pos) d:=AS h
theorem qQ(h:Gq X a d)(hb:Gq X (.BoolOp .And (b::Gx) pos) f):Gq X (.BoolOp .And (a::b::Gx) pos) (GA d f):=by
 refine PE.imp (Z8 h hb) λs H Q h=>?_
 obtain ⟨j,Y,S,T,n,P,rfl,o,p,q,k⟩:=h
 refine ⟨j,Y,S,T,n,_,rfl,o,p,q,λx e v F i r l m c g=>?_⟩
 split at g
 ·obtain ⟨rfl,_⟩:=(c.told mem_mid).bl_inv
  exact ⟨_,rfl,nM ⟨j,Y,i,T,e,P,l,m,c.drop,g,k⟩⟩
 ·obtain ⟨rfl,_⟩:=(c.told mem_mid).bl_inv
  exact ⟨_,rfl,sC (k _ e _ [] i r l m (c.drop.pushI (.bl _)) g)⟩
 ·exact g.elim
theorem B7(h:Gq X a d):Gq X (.UnaryOp .Not a pos) (FY d):=by
 refine PE.imp (DR h) λq H Q h=>?_
 obtain ⟨g,Y,S,T,i,P,rfl,j,l,m,k⟩:=h
 refine ⟨g,Y,S,T,i,_,rfl,j,l,m,λx c v F f p n o b e=>?_⟩
 split at e
 ·obtain ⟨rfl,_⟩:=(b.told mem_mid).bl_inv
  exact ⟨_,rfl,k _ c _ [] f p n o (b.drop.pushI (.bl _)) e⟩
 ·exact e.elim
theorem Tr(h:Gq X a d):Gq X (.UnaryOp .USub a pos) (HD d):=by
 refine PE.imp (vL jT h) λq H Q h=>?_
 obtain ⟨g,Y,S,T,i,P,rfl,j,l,m,k⟩:=h
 refine ⟨g,Y,S,T,i,_,rfl,j,l,m,λx c v F f p n o b e=>?_⟩
 split at e
 ·obtain ⟨rfl,_⟩:=(b.told mem_mid).int_inv
  exact ⟨_,rfl,k _ c _ [] f p n o (b.drop.pushI (.int _)) e⟩
 ·exact e.elim
end
theorem PS.impD{X:Cx}{st:Stmt}{t t':TS}(h:PS X st t)(k:∀D b H,t' D b H->t D b H):PS X st t':=λa s b H D I q=>h a s b H D I (k D b H q)
theorem uU.impD{X:Cx}{st:List Stmt}{t t':TS}(h:uU X st t)(k:∀D b H,t' D b H->t D b H):uU X st t':=λa s b H D I q=>h a s b H D I (k D b H q)
def V9:DB:=λD a=>D.nx a
def GP(t u:DB):DB:=λD b=>t { D with nx:=λa=>u D a } b
def GI(a:DE):DB:=λD b=>a b D.rt
def KC(dt:DT)(t u:DB):DB:=λD c=>dt c λb a=>match b with
 | true=>t D a
 | false=>u D a
def pK(c:DE)(b:DG):DB:=λD d=>c d λx a=>b x a D.nx
section
variable{X:Cx}{st:Stmt}{e i c:Expr}{t u:DB}{Gx:List Stmt}{d:DE}{f:DG}{dt:DT}{pos:Pos}
theorem Gp:aS X [] V9:=by
 refine uU.impD tV λD j H h=>?_
 obtain ⟨l,Y,S,T,a,P,rfl,b,g,d,e,c,i,f,k⟩:=h
 exact c a S H b d e
theorem Cf(h1:gA X st t)(i:aS X Gx u):aS X (st::Gx) (GP t u):=by
 refine uU.impD (Lw h1 i) λD r H h=>?_
 obtain ⟨g,Y,S,T,j,P,rfl,k,d,m,n,l,e,c,f⟩:=h
 exact ⟨g,Y,S,T,j,_,rfl,k,d,m,n,λb o s q a p=>⟨g,Y,o,T,b,P,rfl,q,d,a,p,l,e,c,f⟩,e,c,f⟩
theorem Df(h1:gA X st t):aS X [st] t:=Ux h1
theorem He(c:Gq X e d):gA X (.Return (some e) pos) (GI d):=by
 refine PS.impD (Yq c) λD s H h=>?_
 obtain ⟨o,Y,S,T,i,P,rfl,j,r,k,l,t,f,q,w⟩:=h
 exact ⟨o,Y,S,T,i,_,rfl,j,k,l,λx b v F m g u n a p=>f x b v F m g n a p⟩
theorem Ik{a b:List Stmt}(q:lR X c dt)(r:aS X a t)(hb:aS X b u):gA X (.If c a b pos) (KC dt t u):=by
 refine PS.impD (W8 q r hb) λD z H h=>?_
 obtain ⟨f,Y,S,T,v,P,rfl,w,g,x,s,l,k,j,n⟩:=h
 refine ⟨f,Y,S,T,v,_,rfl,w,x,s,λb e m y i o d p=>?_⟩
 cases b with
 | true=>exact nM ⟨f,Y,m,T,e,P,i,o,g,d,p,l,k,j,n⟩
 | false=>exact sC ⟨f,Y,m,T,e,P,i,o,g,d,p,l,k,j,n⟩
theorem Zb{K:PySem.W.Frag}{te:TE}{g:TG}(h1:∀a H Q,LE K d a H Q->te a H Q)(z:∀v a H Q,LG K f v a H Q->g v a H Q):∀D a H,LS K (pK d f) D a H->N6 te g D a H:=by
 intro D a H h
 obtain ⟨j,Y,S,T,t,P,rfl,u,A,w,s,l,E,C,G⟩:=h
 refine h1 _ _ _ ⟨j,Y,S,T,t,_,rfl,u,w,s,λx c v F m B k n b p=>?_⟩
 exact z _ _ _ _ ⟨j,Y,m,T,c,x,F,P.nx,k,n,b,p,λi o r y e q=>l i o r y e q⟩
end
def Qr(i:Nat):DG:=λx a P=>match x with
 | .dat .pk _=>False
 | .dat _ d=>P ⟨a.sl.set i (.dat .sh d),a.n⟩
 | .val v=>P ⟨a.sl.set i (.val v),a.n⟩
 | .drw=>P ⟨a.sl.set i .drw,a.n⟩
 | .dT b=>P ⟨a.sl.set i (.dT b),a.n⟩
 | _=>False
def eI(i:Nat):DG:=λx a P=>match x with
 | .dat .ow d=>P ⟨a.sl.set i (.dat .ow d),a.n⟩
 | .dat .tp d=>P ⟨a.sl.set i (.dat .tp d),a.n⟩
 | _=>False
theorem At.store{K:PySem.W.Frag}{a H:Hp}{X:Addr->Prop}{n:Nat}{S T:List Ent}{e:Ent}{i:Nat}(h:At K a X n (S++e::T) H):At K a X n (S.set i e++T) H:=by
 by_cases c:i<S.length
 ·have b:S[i]? = some S[i]:=by simp [c]
  have p:(S++e::T).Perm (S[i]::(S.set i e++T)):=by
   refine Du.trans ?_
   rw[<- Eu,<- Eu]
   exact (Ro b).append_right T
  exact (h.perm p).sub (Cq _ _)
 ·rw[List.set_eq_of_length_le (by omega)]
  exact h.drop
theorem fE{S:List Ent}{i:Nat}{v:V}{x:DV}{F:List Addr}:vs (S.set i ⟨some v,x,F⟩)=(vs S).set i (some v):=by
 unfold vs
 rw[Hv]
theorem eJ{S:List Ent}{δ:DS}{i n:Nat}{v:V}{x:DV}{F:List Addr}(h:Sl S δ):Sl (S.set i ⟨some v,x,F⟩) ⟨δ.sl.set i x,n⟩:=by
 unfold Sl at h ⊢
 rw[Hv,h]
theorem kR{K:PySem.W.Frag}{i:Nat}:∀v e H Q,LG K (Qr i) v e H Q->gP i v e H Q:=by
 intro v e H Q h
 obtain ⟨o,Y,S,T,f,x,F,P,rfl,j,c,b,k⟩:=h
 show Q ((vs S).set i (some v)) H
 have a:∀y,At K o Y f.n (S++⟨some v,y,F⟩::T) H->P ⟨f.sl.set i y,f.n⟩->Q ((vs S).set i (some v)) H:=λy g p=>by
  rw[<- fE (x:=y) (F:=F)]
  exact k _ _ H (eJ j) g.store p
 unfold Qr at b
 split at b
 ·exact b.elim
 ·rename_i m d l
  refine a _ ?_ b
  refine (c.mid.wk ?_).tomid
  cases m <;> first | rfl | exact (l rfl).elim
 ·exact a _ c b
 ·exact a _ c b
 ·exact a _ c b
 ·exact b.elim
theorem A5{K:PySem.W.Frag}{i:Nat}:∀v c H Q,LG K (eI i) v c H Q->gP i v c H Q:=by
 intro v c H Q h
 obtain ⟨j,Y,S,T,d,x,F,P,rfl,g,f,a,k⟩:=h
 show Q ((vs S).set i (some v)) H
 have b:∀y,At K j Y d.n (S++⟨some v,y,F⟩::T) H->P ⟨d.sl.set i y,d.n⟩->Q ((vs S).set i (some v)) H:=λy e p=>by
  rw[<- fE (x:=y) (F:=F)]
  exact k _ _ H (eJ g) e.store p
 unfold eI at a
 split at a
 ·exact b _ f a
 ·exact b _ f a
 ·exact a.elim
section
variable{X:Cx}{pos:Pos}
theorem Jp{i:Nat}{x:Str}(b:X.N.Nodup)(c:X.N[i]? = some x)(a:Loc X.env.scope x)(d:X.fn x=true\/X.env.scope.names.lookup x=some .local:=by first | exact .inl rfl | exact .inr rfl | assumption):HY X (.Name x pos) (Qr i):=PG.imp (Wx b c a d) kR
theorem Hr{i:Nat}{x:Str}{e:Expr}{b:DE}{a:Pos}(j:X.N.Nodup)(k:X.N[i]? = some x)(g:Loc X.env.scope x)(c:Gq X e b)(d:Jf e (some (.Name x a)) pos.line X.env=pure false:=by rfl)(f:X.fn x=true\/X.env.scope.names.lookup x=some .local:=by first | exact .inl rfl | exact .inr rfl | assumption):gA X (.Assign [.Name x a] e pos) (pK b (Qr i)):=PS.impD (Ua j k g c d f) (Zb (λ_ _ _ h=>h) kR)
theorem Sa{i:Nat}{x:Str}{e:Expr}{b:DE}{a:Pos}(j:X.N.Nodup)(k:X.N[i]? = some x)(g:Loc X.env.scope x)(c:Gq X e b)(d:Jf e (some (.Name x a)) pos.line X.env=pure false:=by rfl)(f:X.fn x=true\/X.env.scope.names.lookup x=some .local:=by first | exact .inl rfl | exact .inr rfl | assumption):gA X (.Assign [.Name x a] e pos) (pK b (eI i)):=PS.impD (Ua j k g c d f) (Zb (λ_ _ _ h=>h) A5)
end
def zB:x9:=λb a P=>match b with
 | []=>P a
 | _=>False
def sT(g:DG)(c:x9):x9:=λd b P=>match d with
 | x::r=>g x b λa=>c r a P
 | []=>False
def zF(n:Nat)(b:x9):DG:=λx a P=>match x with
 | .dat m (.tuple ds)=>ds.length=n/\b (ds.map λd=>.dat (Ow m) d) a P
 | _=>False
theorem At.unpack{K:PySem.W.Frag}{l H:Hp}{X:Addr->Prop}{n:Nat}{m:Md}:∀{us:List V} {o:List Ad} {F:List Addr} {E:List Ent},RdFs K H us o F->(m=.ow->F.Nodup)->(∀f∈E,Wf ⟨none,.dat (Ow m) .none,F⟩ f)->(∀a∈cells ⟨none,.dat (Ow m) .none,F⟩,l a=none)->At K l X n E H->∃As:List Ent,As.map Ent.v=us.map some/\As.map Ent.x=o.map (λd=>.dat (Ow m) d)/\(∀e∈As,∀a∈e.F,a∈F)/\At K l X n (As++E) H
 | _,_,_,_,.nil,_,_,_,h=>⟨[],rfl,rfl,λ_ z=>(nomatch z),h⟩
 | _,_,_,E,.cons (x:=x) (d:=d) (F:=F1) (G:=G1) a t,hn,hs,hnew,h=>by
  have k:∀{G:List Addr} {u:Option V} {g:Ad},(∀b∈G,b∈F1++G1)->∀b∈cells ⟨u,.dat (Ow m) g,G⟩,b∈cells ⟨none,.dat (Ow m) .none,F1++G1⟩:=λ{G u g} i b c=>by
   cases m with
   | ow=>exact i b c
   | _=>exact nomatch c
  have sub:∀{G:List Addr} {u:Option V} {g:Ad} {f:Ent},(∀b∈G,b∈F1++G1)->Wf ⟨none,.dat (Ow m) .none,F1++G1⟩ f->Wf ⟨u,.dat (Ow m) g,G⟩ f:=λ{G u g f} i q=>by
   refine ⟨λhp b c=>q.1 ?_ b (k i b c),λhp b c z=>q.2 ?_ b c (i b z)⟩
   ·rcases hp with hp | hp
    ·exact .inl hp
    ·cases hp
   ·rcases hp with hp | hp
    ·refine .inl ?_
     cases m <;> exact hp
    ·exact .inr hp
  obtain ⟨As,s,r,j,w⟩:=At.unpack (m:=m) t (λz=>(Dh.mp (hn z)).2.1) (λf hf=>sub (λb c=>Ag _ c) (hs f hf)) (λb c=>hnew b (k (λb c=>Ag _ c) b c)) h
  refine ⟨⟨some x,.dat (Ow m) d,F1⟩::As,by rw[Aw,Aw,s],by rw[Aw,Aw,r],λe he b c=>?_,?_⟩
  ·rcases Aj.mp he with rfl | he
   ·exact Af _ c
   ·exact Ag _ (j e he b c)
  ·refine w.push ⟨x,rfl,a,λz=>?_,λz=>?_⟩ (λf hf=>?_) λb c=>.inl (hnew b (k (λb c=>Af _ c) b c))
   ·cases m with
    | ow=>exact (Dh.mp (hn rfl)).1
    | _=>cases z
   ·cases m <;> cases z
   ·rcases Ai.mp hf with hf | hf
    ·have p:f.x∈As.map Ent.x:=Bs.mpr ⟨f,hf,rfl⟩
     rw[r] at p
     obtain ⟨g,_,y⟩:=Bs.mp p
     refine ⟨λhp b c z=>?_,λhp b c z=>?_⟩
     ·cases m with
      | ow=>exact (Dh.mp (hn rfl)).2.2 b c b (j f hf b z) rfl
      | _=>exact nomatch c
     ·cases m with
      | ow=>exact (Dh.mp (hn rfl)).2.2 b z b (j f hf b (Fv _ _ c)) rfl
      | _ =>
       unfold cells at c
       rw[<- y] at c
       exact nomatch c
    ·exact sub (λb c=>Af _ c) (hs f hf)
section
variable{X:Cx}{pos:Pos}
theorem vP:Q5 X [] zB:=by
 refine BV.imp tM λd i H Q h=>?_
 obtain ⟨j,Y,S,T,g,e,P,rfl,f,b,c,a,k⟩:=h
 match g,c,a,b with
 | [],c,a,b =>
  cases d with
  | nil=>exact ⟨rfl,k e S H f c a⟩
  | cons _ _=>cases b
 | _::_,c,a,b=>exact a.elim
theorem Xn{e:Expr}{es:List Expr}{g:DG}{m:x9}(h1:HY X e g)(q:Q5 X es m)(t:(Gg (e::es) X.env).map (·.2)=Ni e X.env::(Gg es X.env).map (·.2):=by rfl):Q5 X (e::es) (sT g m):=by
 refine BV.imp (eZ h1 q t) λi B H Q h=>?_
 obtain ⟨n,Y,S,T,c,w,P,rfl,y,a,d,b,k⟩:=h
 match c,d,b,a with
 | [],d,b,a=>exact b.elim
 | ⟨v,x,F⟩::c,d,b,a =>
  cases i with
  | nil=>cases a
  | cons u i =>
   rw[Aw,Aw] at a
   obtain ⟨o,s⟩:=Oc a
   have j:v=some u:=o
   subst j
   refine ⟨u,i,rfl,n,Y,S,c++T,w,x,F,_,rfl,y,d,b,λl r A z f p=>?_⟩
   exact ⟨n,Y,r,T,c,l,P,rfl,z,s,f,p,k⟩
theorem g0{es:List Expr}{K:Nat}{o:x9}{n:Nat}(s:X.calm=true)(h:Q5 X es o)(G:(Gg es X.env).length=n:=by rfl)(e:(Gg es X.env).findIdx? (·.1)=none:=by rfl):HY X (.Tuple es K pos) (zF n o):=by
 refine PG.imp (C3 s h G e) λv N H Q h=>?_
 obtain ⟨D,Y,S,T,I,x,F,P,rfl,J,j,d,k⟩:=h
 unfold zF at d
 split at d
 ·rename_i m t
  obtain ⟨a,C,rfl,A,q,O⟩:=(j.told mem_mid).tup_inv
  have g:=j.mid
  have l:=Ay.mp g.sep
  obtain ⟨w,_,_,i,_⟩:=g.ok _ Aa
  have r:∀b∈cells ⟨none,.dat (Ow m) .none,F⟩,b∈cells ⟨some (.ref a),.dat m (.tuple t),F⟩:=λb c=>by
   cases m with
   | ow=>exact c
   | _=>exact nomatch c
  obtain ⟨B,u,L,M,y⟩:=At.unpack (m:=m) (E:=S++T) q i (λf p=>by
   refine ⟨λhq b c=>(l.1 f p).1 ?_ b (r b c),λhq b c=>(l.1 f p).2 ?_ b c⟩
   ·rcases hq with hq | hq
    ·exact .inl hq
    ·cases hq
   ·rcases hq with hq | hq
    ·refine .inl ?_
     cases m <;> first | rfl | exact hq
    ·exact .inr hq) (λb c=>by
   rcases g.new _ Aa b (r b c) with z | z
   ·exact z
   ·cases z.2) j.drop
  refine ⟨a,C,rfl,Vm.of A,by rw[q.len]; exact d.1,D,Y,S,T,B,I,P,rfl,J,u,y.perm ?_,by rw[L]; exact d.2,k⟩
  rw[<- Bw,<- Bw]
  exact Fo.append_right T
 ·exact d.elim
end
theorem qJ{K:PySem.W.Frag}{i H:Hp}{X:Addr->Prop}{n:Nat}{E:List Ent}(h:At K i X n E H):∀{e f:Ent},e∈E->f∈E->e=f\/Wf e f:=by
 have a:∀{E:List Ent},E.Pairwise Wf->∀{e f:Ent},e∈E->f∈E->e=f\/Wf e f:=by
  intro E
  induction E with
  | nil=>intro _ e f he; cases he
  | cons g E d =>
   intro c e f he hf
   have b:=Ay.mp c
   rcases Aj.mp he with he | he
   ·subst he
    rcases Aj.mp hf with hf | hf
    ·exact .inl hf.symm
    ·exact .inr (b.1 f hf)
   ·rcases Aj.mp hf with hf | hf
    ·rw[hf]
     exact .inr (b.1 e he).symm
    ·exact d b.2 he hf
 intro e f he hf
 exact a h.sep he hf
abbrev DI:=DS->(Md->List Ad->DS->Prop)->Prop
structure IterOk(K:PySem.W.Frag)(J:It)(hid:List Ent)(m:Md)(ds:List Ad):Prop where
 md:m=.sh\/m=.pk
 hd:∀e∈hid,cells e=[]
 np:m=.sh->∀e∈hid,Kz e.x=false
 go:∀H n i,(∀e∈hid,Il K H n e)->i<ds.length->J.go i H
 yld:∀H n i x H',(∀e∈hid,Il K H n e)->i<ds.length->J.yld i H x H'->Pq H H'/\∃d F,ds[i]? = some d/\RdF K H' x d F/\∀a∈F,∃e∈hid,a∈e.F
 stop:∀H n,(∀e∈hid,Il K H n e)->J.stop ds.length H
def LI(K:PySem.W.Frag)(i:DI):TI:=λf H R=>∃(h:Hp) (X:Addr->Prop) (S T:List Ent) (d:DS) (P:Md->List Ad->DS->Prop),vs S=f/\Sl S d/\At K h X d.n (S++T) H/\i d P /\
 ∀m c a J b e g,vs e=f->Sl e a->At K h X a.n (e++(b++T)) g->IterOk K J b m c->c.length<=Bf->P m c a->R J g
abbrev p9(X:Cx)(b a:Expr)(c:DI):Prop:=PI X b a (LI X.K c)
theorem PI.imp{X:Cx}{c e:Expr}{t t':TI}(h:PI X c e t)(k:∀b H Q,t' b H Q->t b H Q):PI X c e t':=λa s b H Q I q=>h a s b H Q I (k b H Q q)
def Na:Md->Md
 | .pk=>.pk
 | _=>.sh
theorem bC(m:Md):wk m (Na m)=true:=by cases m <;> rfl
theorem At.item{K:PySem.W.Frag}{k H H':Hp}{X:Addr->Prop}{n:Nat}{S T b:List Ent}{m:Md}{v:V}{d:Ad}{F:List Addr}(h:At K k X n (S++(b++T)) H)(s:Pq H H')(r:RdF K H' v d F)(l:∀a∈F,∃e∈b,a∈e.F)(md:m=.sh\/m=.pk)(u:∀e∈b,cells e=[])(np:m=.sh->∀e∈b,Kz e.x=false):At K k X n (S++⟨some v,.dat m d,F⟩::(b++T)) H':=by
 have p:=h.grow (n':=n) s (Ak _)
 have j:∀a,a∉cells ⟨some v,.dat m d,F⟩:=λa c=>by
  rcases md with rfl | rfl <;> exact nomatch c
 refine (p.push (e:=⟨some v,.dat m d,F⟩) ⟨v,rfl,r,λz=>?_,λz=>?_⟩ (λf t=>⟨λ_ a c=>absurd c (j a),λhq a c z=>?_⟩) λa c=>absurd c (j a)).tomid
 ·rcases md with rfl | rfl <;> cases z
 ·rcases md with rfl | rfl <;> cases z
 ·obtain ⟨e,g,o⟩:=l a z
  have i:e∈S++(b++T):=Ag _ (Af _ g)
  rcases qJ h i t with rfl | q
  ·rw[u e g] at c
   cases c
  ·refine q.2 ?_ a c o
   rcases hq with hq | hq
   ·refine .inl (np ?_ e g)
    rcases md with rfl | rfl
    ·rfl
    ·cases hq
   ·exact .inr hq
def KD(b:DE):DI:=λc P=>b c λx a=>match x with
 | .dat m (.list ds)=>P (Na m) ds a
 | .dat m (.tuple ds)=>P (Na m) ds a
 | _=>False
def mD(d:DA):DI:=λb P=>d b λc a=>match c with
 | [.dat _ (.int j)]=>-1000000<=j/\j<=1000000/\P .sh ((Ck j.toNat).map λi:Nat=>.int i) a
 | _=>False
def II(d:DA):DI:=λb P=>d b λc a=>match c with
 | [.dat m (.list ds)]=>P (Na m) (ds.zipIdx.map λp=>.tuple [.int p.2,p.1]) a
 | _=>False
def HU(d:DA):DI:=λb P=>d b λc a=>match c with
 | [.dat m (.tuple ds)]=>P (Na m) (ds.zipIdx.map λp=>.tuple [.int p.2,p.1]) a
 | _=>False
def mdZip:Md->Md->Md
 | .pk,_=>.pk
 | _,.pk=>.pk
 | _,_=>.sh
def Z3(d:DA):DI:=λb P=>d b λc a=>match c with
 | [.dat m (.list ds),.dat m' (.list es)]=>P (mdZip m m') ((ds.zip es).map λp=>.tuple [p.1,p.2]) a
 | _=>False
section
variable{K:PySem.W.Frag}
theorem Ly{H:Hp}{n:Nat}{v:V}{m:Md}{d:Ad}{F:List Addr}{a:List Ent}(h:∀e∈a,Il K H n e)(b:⟨some v,.dat m d,F⟩∈a):RdF K H v d F:=by
 obtain ⟨w,f,c,_⟩:=h _ b
 cases f
 exact c
theorem cY{v:Option V}{m:Md}{d:Ad}{F:List Addr}:cells ⟨v,.dat (Na m) d,F⟩=[]:=by cases m <;> rfl
theorem zV{v:Option V}{m:Md}{d:Ad}{F:List Addr}:∀e∈[(⟨v,.dat (Na m) d,F⟩ : Ent)],cells e=[]:=λe a=>by
 rw[Ab.mp a]
 exact cY
theorem Z1{v:Option V}{m:Md}{d:Ad}{F:List Addr}:Na m=.sh->∀e∈[(⟨v,.dat (Na m) d,F⟩ : Ent)],Kz e.x=false:=λz e a=>by
 rw[Ab.mp a]
 show Kz (.dat (Na m) d)=false
 rw[z]
 rfl
theorem vJ(m:Md):Na m=.sh\/Na m=.pk:=by cases m <;> simp [Na]
theorem vT{a:Addr}{m:Md}{j:List Ad}{F:List Addr}:IterOk K (HP K a) [⟨some (.ref a),.dat (Na m) (.list j),F⟩] (Na m) j where
 md:=vJ m
 hd:=zV
 np:=Z1
 go:=λH n i h k=>by
  obtain ⟨b,d,G,e,f,g,_,_⟩:=(Ly h Aa).list_inv
  cases e
  have t:=g.len
  exact ⟨d,d[i],Sx.of f,by simp [show i<d.length by omega]⟩
 yld:=λH n i x u h k y=>by
  obtain ⟨b,d,G,e,f,g,rfl,_⟩:=(Ly h Aa).list_inv
  cases e
  obtain ⟨rfl,y⟩:=y
  have r:=y d (Sx.of f)
  obtain ⟨v,s,l,q,p⟩:=g.get (i:=i) (e:=j[i]) (by simp [k])
  rw[r] at l
  cases l
  exact ⟨Pq.refl _,j[i],s,by simp [k],q,λc o=>⟨_,Aa,Ae _ (p.subset o)⟩⟩
 stop:=λH n h=>by
  obtain ⟨b,d,G,e,f,g,_,_⟩:=(Ly h Aa).list_inv
  cases e
  exact ⟨d,Sx.of f,by rw[g.len]; exact Ak _⟩
theorem p6{a:Addr}{m:Md}{j:List Ad}{F:List Addr}:IterOk K (IA K a) [⟨some (.ref a),.dat (Na m) (.tuple j),F⟩] (Na m) j where
 md:=vJ m
 hd:=zV
 np:=Z1
 go:=λH n i h k=>by
  obtain ⟨b,d,e,f,g,_⟩:=(Ly h Aa).tup_inv
  cases e
  have t:=g.len
  exact ⟨d,d[i],Vm.of f,by simp [show i<d.length by omega]⟩
 yld:=λH n i x u h k y=>by
  obtain ⟨b,d,e,f,g,_⟩:=(Ly h Aa).tup_inv
  cases e
  obtain ⟨rfl,y⟩:=y
  have r:=y d (Vm.of f)
  obtain ⟨v,s,l,q,p⟩:=g.get (i:=i) (e:=j[i]) (by simp [k])
  rw[r] at l
  cases l
  exact ⟨Pq.refl _,j[i],s,by simp [k],q,λc o=>⟨_,Aa,p.subset o⟩⟩
 stop:=λH n h=>by
  obtain ⟨b,d,e,f,g,_⟩:=(Ly h Aa).tup_inv
  cases e
  exact ⟨d,Vm.of f,by rw[g.len]; exact Ak _⟩
theorem qD{lo:Int}{n:Nat}:IterOk K (X4 lo n) [] .sh ((Ck n).map λi:Nat=>.int (lo+i)) where
 md:=.inl rfl
 hd:=λ_ z=>nomatch z
 np:=λ_ _ z=>nomatch z
 go:=λH k i h a=>by
  show i<n
  simpa using a
 yld:=λH k i x b h a y=>by
  obtain ⟨rfl,rfl⟩:=y
  rw[Ac,Ex] at a
  exact ⟨Pq.refl _,.int (lo+i),[],by simp [a],.int _,λ_ z=>nomatch z⟩
 stop:=λH k h=>by simp [X4]
theorem x5{a b:Addr}{m r:Md}{k es:List Ad}{F G:List Addr}:IterOk K (IK K a b) [⟨some (.ref a),.dat (Na m) (.list k),F⟩,⟨some (.ref b),.dat (Na r) (.list es),G⟩] (mdZip m r) ((k.zip es).map λp=>.tuple [p.1,p.2]) where
 md:=by cases m <;> cases r <;> simp [mdZip]
 hd:=λe he=>by
  rcases Aj.mp he with rfl | he
  ·exact cY
  ·rw[Ab.mp he]
   exact cY
 np:=λz e he=>by
  rcases Aj.mp he with rfl | he
  ·cases m <;> cases r <;> first | rfl | cases z
  ·rw[Ab.mp he]
   cases m <;> cases r <;> first | rfl | cases z
 go:=λH n i h I=>by
  obtain ⟨P,l,N,q,d,j,_,_⟩:=(Ly h Aa).list_inv
  obtain ⟨O,o,Q,s,g,f,_,_⟩:=(Ly h (Ae _ Aa)).list_inv
  cases q
  cases s
  have V:=j.len
  have T:=f.len
  rw[Ac,Vi] at I
  exact ⟨l,o,l[i],o[i],Sx.of d,Sx.of g,by simp [show i<l.length by omega],by simp [show i<o.length by omega]⟩
 yld:=λH n i x Y h I y=>by
  obtain ⟨P,l,N,q,d,j,rfl,_⟩:=(Ly h Aa).list_inv
  obtain ⟨O,o,Q,s,g,f,rfl,_⟩:=(Ly h (Ae _ Aa)).list_inv
  cases q
  cases s
  rw[Ac,Vi] at I
  obtain ⟨t,u,v,rfl,X,rfl,W,U⟩:=y
  have D:=W l (Sx.of d)
  have C:=U o (Sx.of g)
  obtain ⟨Z,S,A,E,L⟩:=j.get (i:=i) (e:=k[i]) (by simp [show i<k.length by omega])
  obtain ⟨x2,R,w,M,J⟩:=f.get (i:=i) (e:=es[i]) (by simp [show i<es.length by omega])
  rw[D] at A
  cases A
  rw[C] at w
  cases w
  have B:=Fs X (.tup [u,v])
  refine ⟨B,.tuple [k[i],es[i]],S++R,?_,.tup Dq (by simp [Le]) ?_,λc hc=>?_⟩
  ·rw[Bo,show (k.zip es)[i]? = some (k[i],es[i]) from List.getElem?_zip_eq_some.mpr ⟨by simp [show i<k.length by omega],by simp [show i<es.length by omega]⟩]
   rfl
  ·have:=RdFs.cons (E.kp (Kp.of B)) (RdFs.cons (M.kp (Kp.of B)) RdFs.nil)
   rw[Et] at this
   exact this
  ·rcases Ai.mp hc with hc | hc
   ·exact ⟨_,Aa,Ae _ (L.subset hc)⟩
   ·exact ⟨_,Ae _ Aa,Ae _ (J.subset hc)⟩
 stop:=λH n h=>by
  obtain ⟨P,l,N,q,d,j,_,_⟩:=(Ly h Aa).list_inv
  obtain ⟨O,o,Q,s,g,f,_,_⟩:=(Ly h (Ae _ Aa)).list_inv
  cases q
  cases s
  have V:=j.len
  have T:=f.len
  refine ⟨l,o,Sx.of d,Sx.of g,?_⟩
  rw[Ac,Vi]
  omega
end
section
variable{X:Cx}{g e:Expr}{c:DE}{l:DI}
def dL(c:DE):DI:=λb P=>c b λx a=>match x with
 | .dat m (.list ds)=>P (Na m) ds a
 | _=>False
def JY(c:DE):DI:=λb P=>c b λx a=>match x with
 | .dat m (.tuple ds)=>P (Na m) ds a
 | _=>False
theorem wM(h:Gq X e c):p9 X g e (dL c):=by
 refine PI.imp (kE h) λw H R h=>?_
 obtain ⟨j,Y,S,T,l,P,rfl,m,o,r,k⟩:=h
 refine ⟨j,Y,S,T,l,_,rfl,m,o,r,λx d v F i q s p b f=>?_⟩
 split at f
 ·obtain ⟨a,t,G,rfl,n,y,rfl,u⟩:=(b.told mem_mid).list_inv
  exact ⟨a,rfl,⟨t,Sx.of n⟩,k _ _ d _ [_] i q s p ((b.mid.wk (bC _)).tomid) vT u f⟩
 ·exact f.elim
theorem FO(h:Gq X e c):p9 X g e (JY c):=by
 refine PI.imp (AG h) λw H R h=>?_
 obtain ⟨j,Y,S,T,l,P,rfl,m,o,r,k⟩:=h
 refine ⟨j,Y,S,T,l,_,rfl,m,o,r,λx d v F i q s p b f=>?_⟩
 split at f
 ·obtain ⟨a,t,rfl,n,y,u⟩:=(b.told mem_mid).tup_inv
  exact ⟨a,rfl,⟨t,Vm.of n⟩,k _ _ d _ [_] i q s p ((b.mid.wk (bC _)).tomid) p6 u f⟩
 ·exact f.elim
variable{es:List Expr}{f:DA}{a b:Expr}{p pos j:Pos}{d:List Expr}{i:Nat}
theorem Yu(y:Gl X "range")(i:X.mg "range" = none)(l:rK X [a] f)(s:Bl [a] X.env=[(false,eval a X.env)]:=by rfl):p9 X g (.Call (.Name "range" p) [a] [] pos) (mD f):=by
 refine PI.imp (iI y i l s) λG H R h=>?_
 obtain ⟨o,Y,S,T,t,P,rfl,u,z,r,k⟩:=h
 refine ⟨o,Y,S,T,t,_,rfl,u,z,r,λD d C A m e j n w x c p=>?_⟩
 split at p
 ·obtain ⟨v,F,rfl,b⟩:=Jo x c w
  obtain ⟨rfl,_⟩:=(b.told mem_mid).int_inv
  obtain ⟨E,B,q⟩:=p
  refine ⟨_,rfl,by omega,by omega,k _ _ d _ [] m e j n b.drop qD (by rw[Ac,Ex]; exact gG (by omega)) ?_⟩
  simpa using q
 ·exact p.elim
theorem i9(J:Gl X "zip")(r:X.mg "zip" = none)(g:rK X [a,b] f)(B:Bl [a,b] X.env=(false,eval a X.env)::Bl [b] X.env:=by rfl)(n:(Hf pos (Bl [b] X.env)).any (·.1)=false:=by rfl):p9 X (.Tuple d i j) (.Call (.Name "zip" p) [a,b] [] pos) (Z3 f):=by
 refine PI.imp (DX J r g B n) λU H R h=>?_
 obtain ⟨y,Y,S,T,C,P,rfl,D,K,A,k⟩:=h
 refine ⟨y,Y,S,T,C,_,rfl,D,K,A,λm l O N u q s x E I e p=>?_⟩
 split at p
 ·obtain ⟨v,F,w,G,rfl,c⟩:=oM I e E
  obtain ⟨a,m,L,rfl,g,Q,rfl,W⟩:=(c.told mem_mid).list_inv
  obtain ⟨b,z,V,rfl,t,M,rfl,o⟩:=(c.told Hs).list_inv
  refine ⟨a,b,rfl,⟨m,Sx.of g⟩,⟨z,Sx.of t⟩,k _ _ l _ [_,_] u q s x (((((c.mid.wk (bC _)).tomid).swap.mid.wk (bC _)).tomid).swap) x5 (by rw[Ac,Vi]; omega) p⟩
 ·exact p.elim
end
def GX(h:DI)(j:DG)(f:DB):DB:=λD g=>h g λm e b=>m=.sh/\∃I:Nat->DS->Prop,I 0 b /\
 (∀i d a,e[i]? = some d->I i a->j (.dat .sh d) a λc=>f { D with nx:=I (i+1),ct:=I (i+1),bk:=D.nx } c)/\∀a,I e.length a->D.nx a
section
variable{X:Cx}{c a:Expr}{g:DI}{j:DG}{f:DB}{b:List Stmt}{pos:Pos}
theorem At.dropH{K:PySem.W.Frag}{b H:Hp}{X:Addr->Prop}{n:Nat}{S T a:List Ent}{e:Ent}(h:At K b X n (S++e::(a++T)) H):At K b X n (S++e::T) H:=h.sub ((Cs S).append ((Ci a T).cons₂ e))
theorem My(hp:PassesOwn (model X.prog X.w) X.A X.env X.xe)(hc:X.calm=true)(hi:p9 X c a g)(hg:HY X c j)(hb:aS X b f)(V:∀x,Fu a X.env x=pure x:=by intro _; rfl):gA X (.For c a b [] pos) (GX g j f):=by
 refine PS.impD (E7 hp hc hi hg hb V) λD W H h=>?_
 obtain ⟨M,Y,S,T,s,P,rfl,hS,hT,hA,hd,k1,k2,k3,k4⟩:=h
 refine ⟨M,Y,S,T,s,_,rfl,hS,hA,hd,λm E O J r S1 H1 e1 e2 R it hz p1=>?_⟩
 obtain ⟨rfl,I,h0,V,hf⟩:=p1
 rw[<- e1]
 have Z:∀e∈r++T,Kz e.x=false:=λe he=>by
  rcases Ai.mp he with he | he
  ·exact it.np rfl e he
  ·exact hT e he
 refine ⟨λi q W H=>q=E.length - i/\i<=E.length/\∃S s,vs S=W/\Sl S s/\At X.K M Y s.n (S++(r++T)) H/\I i s,⟨E.length,by simp,Em _,S1,O,rfl,e2,R,h0⟩,?_⟩
 (intro i q W H q_; obtain ⟨rfl,hi,S2,l,rfl,e3,u,hI⟩ := q_)
 have k:∀e∈r,Il X.K H l.n e:=λe he=>u.ok e (Ag _ (Af _ he))
 by_cases t:i<E.length
 ·refine .inr ⟨it.go H l.n i k t,λG N=>∃S s,vs S=G/\Sl S s/\At X.K M Y s.n (S++(r++T)) N/\I (i+1) s,λG N q=>⟨E.length - (i+1),by omega,rfl,t,q⟩,λx N y=>?_⟩
  obtain ⟨s1,d,F,h1,h2,h3⟩:=it.yld H l.n i x N k t y
  refine ⟨M,Y,S2,r++T,l,.dat .sh d,F,_,rfl,e3,u.item s1 h2 h3 it.md it.hd it.np,V i d l h1 hI,λQ S3 H3 e4 U p3=>?_⟩
  refine ⟨M,Y,S3,r++T,Q,_,rfl,e4,Z,U,p3,λp C L z o B=>⟨C,p,rfl,z,o,B⟩,λx p v F C L z o B=>k2 x p v F C L z o.dropH B,
   λp C L z o B=>k1 p C L z o.dropL B,λp C L z o B=>⟨C,p,rfl,z,o,B⟩⟩
 ·have e:i=E.length:=by omega
  subst e
  exact .inl ⟨it.stop H l.n k,k1 l S2 H e3 u.dropL (hf l hI)⟩
end
end DL
namespace Nd
open PySem PySem.Spec PyProof.Rows L2
end Nd
namespace DL
open PySem L2 Nd
def al(e:Ent):Ent:=match e.x with
 | .dat m d=>⟨e.v,.dat (mW m) d,e.F⟩
 | .val _=>e
 | .scr _=>e
 | _=>⟨e.v,.un,[]⟩
def alD:DV->DV
 | .dat m d=>.dat (mW m) d
 | .val v=>.val v
 | .scr a=>.scr a
 | _=>.un
def G6(S:List Ent)(j:Nat):Ent:=match S[j]? with
 | some e=>al e
 | none=>⟨none,.un,[]⟩
def Vo(S:List Ent)(a:List Nat):List Ent:=a.map (G6 S)
def frD1(a:List DV)(j:Nat):DV:=match a[j]? with
 | some x=>alD x
 | none=>.un
def frD(b:List DV)(a:List Nat):List DV:=a.map (frD1 b)
theorem IB(e:Ent):(al e).v=e.v:=by
 obtain ⟨v,x,F⟩:=e
 cases x <;> rfl
theorem JN(e:Ent):(al e).x=alD e.x:=by
 obtain ⟨v,x,F⟩:=e
 cases x <;> rfl
theorem oD(S:List Ent)(a:List Nat):vs (Vo S a)=Jx (vs S) a:=by
 unfold vs Vo Jx
 rw[Dz]
 refine Jz λj _=>?_
 rw[Bo]
 simp only[Function.comp,G6]
 cases S[j]? with
 | none=>rfl
 | some e=>exact IB e
theorem pN{S:List Ent}{δ:DS}(h:Sl S δ)(a:List Nat):(Vo S a).map Ent.x=frD δ.sl a:=by
 unfold Sl at h
 unfold Vo frD
 rw[Dz]
 refine Jz λj _=>?_
 simp only[Function.comp,G6,frD1]
 rw[<- h,Bo]
 cases S[j]? with
 | none=>rfl
 | some e=>exact JN e
section
variable{K:PySem.W.Frag}{g H H':Hp}{X:Addr->Prop}{n:Nat}{E S T:List Ent}
theorem mV(e:Ent):cells (al e)=[]:=by
 obtain ⟨v,x,F⟩:=e
 cases x with
 | dat m d=>cases m <;> rfl
 | _=>rfl
theorem At.view1(h:At K g X n E H){e:Ent}(c:e∈E):At K g X n (al e::E) H:=by
 refine h.push ?_ (λf k=>⟨λ_ a b=>(by rw[mV] at b; cases b),λhq a b z=>?_⟩) λa b=>(by rw[mV] at b; cases b)
 ·have:=h.ok e c
  obtain ⟨v,x,F⟩:=e
  cases x with
  | dat m d =>
   obtain ⟨w,j,o,_⟩:=this
   exact ⟨w,j,o,λz=>(by cases m <;> cases z),λz=>(by cases m <;> cases z)⟩
  | val v=>exact this
  | scr l=>exact this
  | _=>exact (rfl:([]:List Addr)=[])
 ·obtain ⟨v,x,F⟩:=e
  cases x with
  | dat m d =>
   rcases qJ h c k with rfl | q
   ·rcases hq with hq | hq
    ·cases m <;> first | cases hq; done | exact nomatch b
    ·cases hq
   ·refine q.2 ?_ a b z
    rcases hq with hq | hq
    ·refine .inl ?_
     cases m <;> first | rfl | exact hq
    ·exact .inr hq
  | val v =>
   rw[show F=[] from (h.ok _ c).2] at z
   cases z
  | scr l =>
   obtain ⟨_,_,i,_⟩:=h.ok _ c
   rw[show F=[] from i] at z
   cases z
  | _=>exact nomatch z
theorem At.blank(h:At K g X n E H){v:Option V}:At K g X n (⟨v,.un,[]⟩::E) H :=
 h.push (rfl:([]:List Addr)=[]) (λf _=>⟨λ_ a b=>(nomatch b),λ_ a _=>Bt⟩) (λa b=>(nomatch b))
theorem At.view(h:At K g X n E H)(c:∀e∈S,e∈E):∀a:List Nat,At K g X n (Vo S a++E) H
 | []=>h
 | j::a=>by
  have b:=At.view h c a
  show At K g X n (G6 S j::(Vo S a++E)) H
  unfold G6
  cases e:S[j]? with
  | none=>exact b.blank
  | some x=>exact b.view1 (Ag _ (c x (Ao e)))
theorem At.accNew(h:At K g X n E H){D:Addr}(c:H D=Option.none):At K g X n (⟨some (.ref D),.acc [],[D]⟩::E) (upd H D (.lst [])):=by
 have i:=Fs c (.lst [])
 refine (h.grow (n':=n) i (Ak _)).push ⟨D,[],[],rfl,rfl,Dq,.nil,Em _,Bt⟩ (λf e=>?_) λa b=>?_
 ·have d:=h.free c f e
  refine ⟨λ_ a b z=>?_,λ_ a b z=>?_⟩
  ·rw[Ab.mp b] at z
   exact d z
  ·rw[Ab.mp z] at b
   exact d (Fv _ _ b)
 ·rw[Ab.mp b]
  exact .inl (h.new0 c)
theorem At.accPutG{D:Addr}{l:List Ad}{v:V}{m:Md}{e:Ad}{F G:List Addr}(h:At K g X n (⟨some (.ref D),.acc l,D::G⟩::⟨some v,.dat m e,F⟩::E) H)(I:m≠.pk)(R:l.length+1<=Bf):∃xs,H D=some (.lst xs)/\xs.length=l.length/\At K g X n (⟨some (.ref D),.acc (l++[e]),D::(G++F)⟩::E) (upd H D (.lst (xs++[v]))):=by
 obtain ⟨a,xs,N,J,C,w,A,_,y⟩:=h.ok _ Aa
 have u:some (V.ref D)=some (V.ref a):=J
 cases u
 have t:D::G=D::N:=C
 cases t
 have r:RdF K H v e F:=h.told (Ae _ Aa)
 have j:=Ay.mp h.sep
 have i:=Ay.mp j.2
 have p:=(h.sub (Cq _ _)).sub (Cq _ _)
 have npk:Kz (.dat m e)=false:=by cases m <;> first | rfl | exact absurd rfl I
 have B:D∉F:=(j.1 _ Aa).1 (.inr rfl) D Aa
 have kp:∀{F:List Addr},D∉F->Kp F H (upd H D (.lst (xs++[v]))):=λ{F} O b o q z=>by
  have : b≠D:=by
   rintro rfl
   rw[w] at q
   cases q
   rcases z with z | z
   ·exact O z
   ·rcases z with ⟨_,z⟩ | ⟨_,_,z⟩ <;> cases z
  rw[Ei this]
  exact q
 have s:g D=Option.none:=by
  rcases h.new _ Aa D Aa with z | z
  ·exact z
  ·cases z.2
 refine ⟨xs,w,A.len,?_⟩
 refine ⟨λf hf=>?_,?_,λf hf=>?_,λb o P q=>?_,λb o q=>?_,λb L=>?_⟩
 rotate_right
 ·obtain ⟨z,c,k,f,p,Q⟩:=h.xd b L
  refine ⟨z,c,k,f,(Ei ?_).trans p,Q⟩
  rintro rfl
  exact z s
 ·rcases Aj.mp hf with rfl | hf
  ·exact ⟨D,xs++[v],G++F,rfl,rfl,Dq,(A.kp (kp y)).snoc (r.kp (kp B)),by rw[Az]; exact R,λz=>(Ai.mp z).elim y B⟩
  ·exact (p.ok f hf).kp (kp ((j.1 f (Ae _ hf)).1 (.inr rfl) D Aa)) (Ak _)
 ·refine Ay.mpr ⟨λf hf=>⟨λM a d=>(j.1 f (Ae _ hf)).1 (.inr rfl) a d,λM a d z=>?_⟩,i.2⟩
  have x:=(j.1 f (Ae _ hf)).2 (.inl rfl) a d
  rcases Aj.mp z with z | z
  ·exact x (z▸Aa)
  ·rcases Ai.mp z with z | z
   ·exact x (Ae _ z)
   ·exact (i.1 f hf).2 (.inl npk) a d z
 ·rcases Aj.mp hf with rfl | hf
  ·intro a d
   rw[Ab.mp d]
   exact .inl s
  ·exact p.new f hf
 ·rw[Ei (Hn q s)]
  exact h.same b o P q
 ·rw[Ei (Hn q s)]
  exact h.dom b o q
theorem At.accPut{D:Addr}{a:List Ad}{v:V}{e:Ad}(h:At K g X n (⟨some (.ref D),.acc a,[D]⟩::E) H)(r:RdF K H v e [])(b:a.length+1<=Bf):∃xs,H D=some (.lst xs)/\xs.length=a.length/\At K g X n (⟨some (.ref D),.acc (a++[e]),[D]⟩::E) (upd H D (.lst (xs++[v]))) :=
 At.accPutG (m:=.ow) (At.pushI (S:=[⟨some (.ref D),.acc a,[D]⟩]) h r) (by decide) b
def uV:Bool->Md
 | true=>.ow
 | false=>.tp
theorem At.accGetG{D:Addr}{i:List Ad}{b:Bool}{G:List Addr}(h:At K g X n (⟨some (.ref D),.acc i,D::G⟩::E) H)(hb:b=true->G=[]):At K g X n (⟨some (.ref D),.dat (uV b) (.list i),D::G⟩::E) H:=by
 obtain ⟨a,x,q,v,p,r,u,w,s⟩:=h.ok _ Aa
 have d:some (V.ref D)=some (V.ref a):=v
 cases d
 have j:D::G=D::q:=p
 cases j
 have k:=Ay.mp h.sep
 have o:∀a∈cells ⟨some (.ref D),.dat (uV b) (.list i),D::G⟩,a=D:=λa c=>by
  cases b with
  | true=>rw[hb rfl] at c; exact Ab.mp c
  | false=>exact Ab.mp c
 refine (h.sub (Cq _ _)).push ⟨_,rfl,.lst r w u,λz=>?_,λ_ a l e=>?_⟩ (λf m=>⟨λt a c=>?_,λt a c=>(k.1 f m).2 (.inl rfl) a c⟩) λa c=>?_
 ·cases b with
  | true=>rw[hb rfl]; exact Bp.mpr ⟨Bt,Do⟩
  | false=>cases z
 ·have e:D::G=a::l:=e
  cases e
  exact s
 ·rw[o a c]
  exact (k.1 f m).1 (.inr rfl) D Aa
 ·rw[o a c]
  rcases h.new _ Aa D Aa with z | z
  ·exact .inl z
  ·cases z.2
theorem At.accGet{D:Addr}{a:List Ad}(h:At K g X n (⟨some (.ref D),.acc a,[D]⟩::E) H):At K g X n (⟨some (.ref D),.dat .ow (.list a),[D]⟩::E) H:=At.accGetG (b:=true) h λ_=>rfl
end
def jM:DT:=λa P=>P true a
def Z6(b:Bool)(m:Md)(e:Ad):Prop:=match b with
 | true=>imm e=true
 | false=>m≠.pk
def Nr(b:Bool)(g:DT)(h:DE)(δ:DS)(d:Ad->Nat->Prop)(i:Nat->Prop):Prop:=g δ λc a=>match c with
 | true=>h a λy f=>match y with
  | .dat m e=>Z6 b m e/\d e f.n
  | _=>False
 | false=>i a.n
def qA(b:Bool)(k:DI)(h:List Nat)(l:DT)(o:DE):DE:=λj P=>k j λm g c=>∃I:Nat->List Ad->Nat->Prop,I 0 [] c.n /\
 (∀i d a n,g[i]? = some d->I i a n->Nr b l o ⟨.dat m d::frD c.sl h,n⟩ (λe f=>I (i+1) (a++[e]) f) (λf=>I (i+1) a f)) /\
 ∀a n,I g.length a n->P (.dat (uV b) (.list a)) ⟨c.sl,n⟩
def Xq:DT->DE->DS->(Ad->Nat->Prop)->(Nat->Prop)->Prop:=Nr true
def yM:DI->List Nat->DT->DE->DE:=qA true
def rJ:DI->List Nat->DT->DE->DE:=qA false
section
variable{K:PySem.W.Frag}{a H H':Hp}{Y:Addr->Prop}{n:Nat}{E S T:List Ent}
theorem F6{b:Bool}{A:DT}{w:DE}{δ:DS}{i:Ad->Nat->Prop}{s:Nat->Prop}{D:Addr}{G:List Addr}{d:List Ad}{t:Hp->Prop}{x:VK}(L:Sl S δ)(hb:b=true->G=[])(M:At K a Y δ.n (S++⟨some (.ref D),.acc d,D::G⟩::T) H)(h:Nr b A w δ i s)(B:d.length+1<=Bf)(k1:∀n' H',At K a Y n' (⟨some (.ref D),.acc d,D::G⟩::T) H'->s n'->t H')(k2:∀e n' v H' u,(b=true->u=[])->(∃xs,H' D=some (.lst xs)/\xs.length=d.length/\At K a Y n' (⟨some (.ref D),.acc (d++[e]),D::u⟩::T) (upd H' D (.lst (xs++[v]))))->i e n'->x v H'):LT K A (vs S) H λc l=>if c=true then LE K w (vs S) l x else t l:=by
 refine ⟨a,Y,S,⟨some (.ref D),.acc d,D::G⟩::T,δ,_,rfl,L,M,h,λc p J l C I j q=>?_⟩
 cases c with
 | false=>exact sC (k1 _ _ (j.sub (Ci _ _)) q)
 | true =>
  refine nM ⟨a,Y,J,⟨some (.ref D),.acc d,D::G⟩::T,p,_,C,I,j,q,λy k v F O E P N f g=>?_⟩
  split at g
  ·rename_i m e
   have r:=f.told mem_mid
   cases b with
   | true =>
    obtain rfl:=r.imm g.1
    obtain rfl:=hb rfl
    exact k2 _ _ _ _ [] (λ_=>rfl) ((f.drop.sub (Ci _ _)).accPut r B) g.2
   | false =>
    have o:At K a Y k.n (⟨some v,.dat m e,F⟩::⟨some (.ref D),.acc d,D::G⟩::T) E:=f.sub (Ci _ _)
    exact k2 _ _ _ _ (G++F) (λz=>nomatch z) ((o.perm (Ds _ _ _)).accPutG g.1 B) g.2
  ·exact g.elim
theorem wQ{dt:TT}:∀b H Q,LT K jM b H Q->Xz b H Q:=by
 intro b H Q h
 obtain ⟨a,Y,S,T,c,P,rfl,d,e,f,k⟩:=h
 exact k true c S H rfl d e f
theorem tL.imp{X:Cx}{e:List Expr}{t t':TT}(h:tL X e t)(k:∀b H Q,t' b H Q->t b H Q):tL X e t':=λa s b H Q I q=>h a s b H Q I (k b H Q q)
theorem bI{b:Bool}{di:DI}{r:List Nat}{dc:DT}{de:DE}:∀U H Q,LE K (qA b di r dc de) U H Q->cI (LI K di) r (LT K dc) (LE K de) U H Q:=by
 intro U H Q h
 obtain ⟨a,Y,S,T,δ,P,rfl,hS,hA,hd,k⟩:=h
 refine ⟨a,Y,S,T,δ,_,rfl,hS,hA,hd,λm l t J j g H1 W Z L it hz p1=>?_⟩
 obtain ⟨I,h0,hs,hf⟩:=p1
 rw[<- W]
 intro D hD
 refine ⟨λi q H=>q=l.length - i/\i<=l.length/\∃c n G,(b=true->G=[])/\At K a Y n (⟨some (.ref D),.acc c,D::G⟩::(g++(j++T))) H/\c.length<=i/\I i c n,⟨l.length,by simp,Em _,[],t.n,[],λ_=>rfl,L.accNew hD,Ak _,h0⟩,?_⟩
 (intro i q H q_; obtain ⟨rfl,hi,c,n,G,B,u,hl,hI⟩ := q_)
 have f:∀e∈j,Il K H n e:=λe E=>u.ok e (Ae _ (Ag _ (Af _ E)))
 by_cases o:i<l.length
 ·refine .inr ⟨it.go H n i f o,λx H' y=>?_⟩
  obtain ⟨s1,d,F,h1,h2,h3⟩:=it.yld H n i x H' f o y
  have w:At K a Y n ((⟨some (.ref D),.acc c,D::G⟩::g)++⟨some x,.dat m d,F⟩::(j++T)) H':=At.item (S:=⟨some (.ref D),.acc c,D::G⟩::g) u s1 h2 h3 it.md it.hd it.np
  have z:=w.mid
  have V:=At.view (S:=g) z (λe E=>Ae _ (Af _ (Ae _ E))) r
  have R:At K a Y n ((⟨some x,.dat m d,F⟩::Vo g r)++⟨some (.ref D),.acc c,D::G⟩::(g++(j++T))) H':=V.mid
  have N:Sl (⟨some x,.dat m d,F⟩::Vo g r) ⟨.dat m d::frD t.sl r,n⟩:=by
   unfold Sl
   rw[Aw,pN Z]
  have hv:vs (⟨some x,.dat m d,F⟩::Vo g r)=some x::Jx (vs g) r:=by
   rw[<- oD]
   rfl
  refine ⟨λM=>∃A,A<l.length - i/\_,λy X=>∃c,X D=some (.lst c)/\c.length<Bf/\∃A,A<l.length - i/\_,λM q=>q,λy X q=>q,?_⟩
  rw[<- hv]
  refine F6 N B R (hs i d c n h1 hI) (by omega) (λO M s p=>?_) (λe O v M G' C s p=>?_)
  ·exact ⟨l.length - (i+1),by omega,rfl,o,c,O,G,B,s,by omega,p⟩
  ·obtain ⟨xs,g1,g2,g3⟩:=s
   exact ⟨xs,g1,by omega,l.length - (i+1),by omega,rfl,o,c++[e],O,G',C,g3,by rw[Az]; simp; omega,p⟩
 ·have e:i=l.length:=by omega
  subst e
  refine .inl ⟨it.stop H n f,k _ ⟨t.sl,n⟩ _ (D::G) g H W Z ?_ (hf c n hI)⟩
  have w:=u.accGetG B
  have z:At K a Y n (⟨some (.ref D),.dat (uV b) (.list c),D::G⟩::(g++T)) H:=w.sub (((Cs g).append (Ci j T)).cons₂ _)
  exact z.tomid
end
section
variable{X:Cx}{d b c:Expr}{x t l:Str}{j q pt p pos f:Pos}{r i0:Nat}{e:List Expr}{a:Scope}{cl:List (Str×Addr)}{ys:List Str}{k:List Nat}{m:DI}{g:DT}{n:DE}
theorem Rf:tL X [] (LT X.K jM):=tL.imp fF (wQ (dt:=Xz))
theorem jW(h:lR X c g):tL X [c] (LT X.K g):=P3 h
theorem tK(C:CompScope X a cl x ys k)(c:X.calm=true)(l:p9 X (.Name x j) b m)(f:∀fp s H,tL (Hd X a cl (x::ys) fp s H) e (LT X.K g))(h:∀fp s H,Gq (Hd X a cl (x::ys) fp s H) d n)(i:∀x,Fu b X.env x=pure x:=by intro _; rfl):Gq X (.ListComp d [⟨.Name x j,b,e,0⟩] a pos) (yM m k g n):=PE.imp (bP C c l f h i) bI
def CI(o:Bool)(i:Nat):DG:=match o with
 | true=>eI i
 | false=>Qr i
theorem Q2{K:PySem.W.Frag}{o:Bool}{i:Nat}:∀v a H Q,LG K (CI o i) v a H Q->gP i v a H Q:=by
 cases o with
 | true=>exact A5
 | false=>exact kR
theorem T8{o:Bool}(v:X.N.Nodup)(c:X.N[i0]? = some l)(h:X.env.scope.names.lookup l=some .local)(C:CompScope X a cl x ys k)(q:X.calm=true)(w:p9 X (.Name x j) b m)(r:∀fp s H,tL (Hd X a cl (x::ys) fp s H) e (LT X.K g))(t:∀fp s H,Gq (Hd X a cl (x::ys) fp s H) d n)(u:∀x,Fu b X.env x=pure x:=by intro _; rfl)(i:Jf (.ListComp d [⟨.Name x j,b,e,0⟩] a pos) (some (.Name l p)) f.line X.env=pure true:=by rfl):gA X (.Assign [.Name l p] (.ListComp d [⟨.Name x j,b,e,0⟩] a pos) f) (pK (yM m k g n) (CI o i0)):=PS.impD (bR v c h C q w r t u i) (Zb bI Q2)
theorem bV(C:CompScope X a cl x ys k)(c:X.calm=true)(l:p9 X (.Name x j) b m)(f:∀fp s H,tL (Hd X a cl (x::ys) fp s H) e (LT X.K g))(h:∀fp s H,Gq (Hd X a cl (x::ys) fp s H) d n)(i:∀x,Fu b X.env x=pure x:=by intro _; rfl):Gq X (.ListComp d [⟨.Name x j,b,e,0⟩] a pos) (rJ m k g n):=PE.imp (bP C c l f h i) bI
theorem yO{o:Bool}(v:X.N.Nodup)(c:X.N[i0]? = some l)(h:X.env.scope.names.lookup l=some .local)(C:CompScope X a cl x ys k)(q:X.calm=true)(w:p9 X (.Name x j) b m)(r:∀fp s H,tL (Hd X a cl (x::ys) fp s H) e (LT X.K g))(t:∀fp s H,Gq (Hd X a cl (x::ys) fp s H) d n)(u:∀x,Fu b X.env x=pure x:=by intro _; rfl)(i:Jf (.ListComp d [⟨.Name x j,b,e,0⟩] a pos) (some (.Name l p)) f.line X.env=pure true:=by rfl):gA X (.Assign [.Name l p] (.ListComp d [⟨.Name x j,b,e,0⟩] a pos) f) (pK (rJ m k g n) (CI o i0)):=PS.impD (bR v c h C q w r t u i) (Zb bI Q2)
end
end DL
namespace DL
open PySem PySem.Spec PyProof.Rows L2 Nd
section
variable{K:PySem.W.Frag}{g H H':Hp}{X:Addr->Prop}{n n':Nat}{E S T:List Ent}
theorem At.pushF(h:At K g X n E H){v:V}{d:Ad}{F:List Addr}(r:RdF K H v d F)(i:F.Nodup)(e:∀a∈F,∀f∈E,a∉f.F)(j:∀a∈F,g a=none):At K g X n (⟨some v,.dat .ow d,F⟩::E) H:=by
 refine h.push ⟨v,rfl,r,λ_=>i,λz=>nomatch z⟩ (λf c=>⟨λ_ a b z=>e a b f c z,λ_ a b z=>e a z f c (Fv _ _ b)⟩) λa b=>.inl (j a b)
theorem At.drawn(h:At K g X n E H){e:Ent}{a:Addr}(u:e∈E)(M:e.x=.drw)(P:e.v=some (.ref a))(s:Vs a H H')(hd:∃c k f,Vl H' a c k f/\0<=k/\k<=(n':Int))(O:n<=n'):At K g X n' E H':=by
 obtain ⟨v,x,F⟩:=e
 have w:x=.drw:=M
 subst w
 obtain ⟨t,S,R,Q,m,L,p,_⟩:=h.ok _ u
 have J:some (V.ref a)=some (V.ref t):=P.symm.trans m
 cases J
 have r:F=[a]:=L
 subst r
 refine ⟨λf D=>?_,h.sep,h.new,λb o G q=>?_,λb o q=>?_,λb d=>?_⟩
 rotate_right
 ·obtain ⟨z,c,k,f,j,y,B⟩:=h.xd b d
  by_cases l:b=a
  ·subst l
   exact ⟨z,hd⟩
  ·exact ⟨z,c,k,f,s _ _ l j,y,by omega⟩
 ·rcases qJ h u D with rfl | q
  ·obtain ⟨c,k,I,j,y,B⟩:=hd
   exact ⟨a,c,k,I,m,rfl,j,y,B⟩
  ·have N:a∉f.F:=q.1 (.inr rfl) a Aa
   refine (h.ok f D).kp (λb o C z=>?_) O
   by_cases d:b=a
   ·subst d
    rcases z with z | z
    ·exact absurd z N
    ·have i:H b=some (.lst _):=p
     rw[C] at i
     cases i
     rcases z with ⟨_,z⟩ | ⟨_,_,z⟩ <;> cases z
   ·exact s b o d C
 ·have d:b≠a:=by
   rintro rfl
   rcases h.new _ u b Aa with z | z
   ·rw[z] at q; cases q
   ·exact G z.1
  exact s b o d (h.same b o G q)
 ·by_cases d:b=a
  ·subst d
   obtain ⟨c,k,I,j,_⟩:=hd
   exact ⟨_,j⟩
  ·obtain ⟨A,z⟩:=h.dom b o q
   exact ⟨A,s b A d z⟩
end
abbrev PF:=List Ad->(Ad->Prop)->Prop
abbrev DF:=List Ad->Nat->(Ad->Nat->Prop)->Prop
def Zv(K:PySem.W.Frag)(h:PF):Sp:=λg H Q _=>∃(c:List Ent) (n:Nat) (f:List Ad) (R:Ad->Prop),c.map Ent.v=g.map some/\(∀e∈c,Il K H n e)/\datas (c.map Ent.x)=some f/\h f R /\
 ∀v d F b,R d->RdF K b v d F->F.Nodup->(∀a∈F,H a=none)->Pq H b->Q v b
def R9(K:PySem.W.Frag)(o:DF):Sp:=λm H Q _=>∃(b:Addr) (l:List V) (h:List Ent) (n:Nat) (j:List Ad) (R:Ad->Nat->Prop),m=.ref b::l/\h.map Ent.v=l.map some/\(∀e∈h,Il K H n e)/\(∀e∈h,b∉e.F)/\(∃c k f,Vl H b c k f/\0<=k/\k<=(n:Int))/\datas (h.map Ent.x)=some j/\o j n R /\
 ∀v d F i g,n<=i->R d i->RdF K g v d F->F.Nodup->(∀a∈F,H a=none)->(∃c k f,Vl g b c k f/\0<=k/\k<=(i:Int))->Vs b H g->Q v g
def F7(e:PF)(g:DA):DE:=λc P=>g c λf a=>match datas f with
 | some b=>e b λd=>P (.dat .ow d) a
 | none=>False
def rR(i:Nat)(f:DF)(h:DA):DE:=λb P=>match b.sl[i]? with
 | some .drw=>h b λg a=>match a.sl[i]? with
  | some .drw=>match datas g with
   | some e=>f e a.n λd c=>P (.dat .ow d) ⟨a.sl,c⟩
   | none=>False
  | _=>False
 | _=>False
section
variable{X:Cx}{CX:vO}{k:Nat}{f:Addr}{g:Cu}{ps:List Str}{j:PF}{m:DF}{E:XK}{x:Str}{p pos:Pos}{e l:Expr}{es:List Expr}{b:DA}
theorem Mw(F:FnOk X.prog X.w X.K X.mg X.base CX k f g ps (Zv X.K j))(R:Room k X.A)(hg:Gl X x)(C:X.mg x=some (.ref f))(O:PySem.W.keepIn X.K (.ref f)=true)(hb:Binds X.K g ps [])(M:Qq CX X E)(i:rK X (e::es) b)(o:(x == ("__debug__" : Str))=false:=by decide)(u:Bl (e::es) X.env=(false,eval e X.env)::Bl es X.env:=by rfl)(m:(Hf pos (Bl es X.env)).any (·.1)=false:=by rfl):Gq X (.Call (.Name x p) (e::es) [] pos) (F7 j b):=by
 refine PE.imp (Ww F R hg C O hb .nil M i o u m) λσ H Q h=>?_
 obtain ⟨J,Y,S,T,U,P,rfl,V,hA,N,kk⟩:=h
 refine ⟨J,Y,S,T,U,_,rfl,V,hA,N,λxs l y us G H' D I Z eu c p=>?_⟩
 subst Z
 cases q:datas (y.map Ent.x) with
 | none=>rw[q] at p; exact p.elim
 | some B =>
  rw[q] at p
  rw[Et]
  refine ⟨y,l.n,B,_,eu,λe u=>c.ok e (Ag _ (Af _ u)),q,p,λv d F t r rd L z s=>?_⟩
  exact kk _ l v F G t D I (((c.dropL.grow s (Ak _)).pushF rd L (λa i=>c.dropL.free (z a i)) (λa i=>c.new0 (z a i))).tomid) r
theorem GZ(F:FnOk X.prog X.w X.K X.mg X.base CX k f g ps (Zv X.K j))(u:Room k X.A)(C:Gl X x)(I:X.mg x=some (.ref f))(q:PySem.W.keepIn X.K (.ref f)=true)(hb:Binds X.K g ps [])(B:Qq CX X E)(c:(x == ("__debug__" : Str))=false:=by decide):Gq X (.Call (.Name x p) [] [] pos) (F7 j AJ):=by
 refine PE.imp (t8 F u C I q hb .nil B c) λJ H Q h=>?_
 obtain ⟨L,Y,S,T,m,P,rfl,z,l,D,G⟩:=h
 show Zv X.K j [] H Q E
 refine ⟨[],m.n,[],_,rfl,λe t=>(nomatch t),rfl,D,λv d F i r rd y o s=>?_⟩
 exact G _ m v F S i rfl z (((l.grow s (Ak _)).pushF rd y (λa b=>l.free (o a b)) (λa b=>l.new0 (o a b))).tomid) r
theorem Kk{i:Nat}(F:FnOk X.prog X.w X.K X.mg X.base CX k f g ps (R9 X.K m))(hr:Room k X.A)(hg:Gl X x)(hm:X.mg x=some (.ref f))(hk:PySem.W.keepIn X.K (.ref f)=true)(hb:Binds X.K g ps [])(hx:Qq CX X E)(h0:PE X l (Lj i))(G:rK X es b)(h2:(x == ("__debug__" : Str))=false:=by decide)(B:Bl (l::es) X.env=(false,eval l X.env)::Bl es X.env:=by rfl)(U:(Hf pos (Bl es X.env)).any (·.1)=false:=by rfl):Gq X (.Call (.Name x p) (l::es) [] pos) (rR i m b):=by
 refine PE.imp (Ww F hr hg hm hk hb .nil hx (Hq h0 G B) h2 B U) λσ H Q h=>?_
 obtain ⟨H0,Y,S,T,δ,P,rfl,hS,hA,M,kk⟩:=h
 unfold rR at M
 split at M
 case h_2=>exact M.elim
 rename_i J
 have I:∀w,(vs S)[i]? = some (some w)->LA X.K b (vs S) H λxs H2=>R9 X.K m ((w::xs)++[]) H2 Q E:=λw N=>by
  refine ⟨H0,Y,S,T,δ,_,rfl,hS,hA,M,λxs L As us S' H' e1 e2 ex eu c p=>?_⟩
  subst ex
  split at p
  ·rename_i h4
   obtain ⟨j,D,Z⟩:=Gk e2 h4
   have o:j∈S':=Ao D
   have hv:j.v=some w:=by
    have:=Jc D
    rw[e1,N] at this
    exact (Bu this).symm
   obtain ⟨u,z,F⟩:=j
   have t:z=.drw:=Z
   subst t
   have hE:(⟨u,.drw,F⟩ : Ent)∈S'++(As++T):=Af _ o
   obtain ⟨C,c0,k0,f0,y,h8,O,h7,h6⟩:=c.ok _ hE
   have ew:some w=some (V.ref C):=hv.symm.trans y
   cases ew
   have R:F=[C]:=h8
   subst R
   cases q:datas (As.map Ent.x) with
   | none=>rw[q] at p; exact p.elim
   | some ds =>
    rw[q] at p
    rw[Et]
    refine ⟨C,us,As,L.n,ds,_,rfl,eu,λe B=>c.ok e (Ag _ (Af _ B)),λe B=>?_,⟨c0,k0,f0,O,h7,h6⟩,q,p,λv d F n' h3 hn r rd nd fr h1 s=>?_⟩
    ·obtain ⟨_,_,hp⟩ := Bi.mp c.sep
     exact (hp _ o e (Af _ B)).1 (.inr rfl) C Aa
    ·have h5:=c.dropL.drawn (Af _ o) rfl hv s h1 hn
     exact kk _ ⟨L.sl,n'⟩ v F S' h3 e1 e2 ((h5.pushF rd nd (λa G=>c.dropL.free (fr a G)) (λa G=>c.new0 (fr a G))).tomid) r
  ·exact p.elim
 obtain ⟨j,D,Z⟩:=Gk hS J
 have o:j∈S:=Ao D
 obtain ⟨u,z,F⟩:=j
 have t:z=.drw:=Z
 subst t
 obtain ⟨C,c0,k0,f0,y,_⟩:=hA.ok _ (Af _ o)
 have N:(vs S)[i]? = some (some (.ref C)):=(Jc D).trans (congrArg some y)
 exact ⟨_,N,I _ N⟩
def Xj:Sp:=λvs H Q _=>∃c:Int,vs=[.int c]/\∀(p:Addr) (b:Int) (f:Bool) (a:Hp),H p=none->Vl a p b 0 f->Pq H a->Q (.ref p) a
def yL(b:DA):DE:=λc P=>b c λd a=>match d with
 | [.dat _ (.int _)]=>P .drw a
 | _=>False
theorem yQ(F:FnOk X.prog X.w X.K X.mg X.base CX k f g ps Xj)(U:Room k X.A)(hg:Gl X x)(y:X.mg x=some (.ref f))(O:PySem.W.keepIn X.K (.ref f)=true)(hb:Binds X.K g ps [])(M:Qq CX X E)(d:rK X (e::es) b)(o:(x == ("__debug__" : Str))=false:=by decide)(I:Bl (e::es) X.env=(false,eval e X.env)::Bl es X.env:=by rfl)(l:(Hf pos (Bl es X.env)).any (·.1)=false:=by rfl):Gq X (.Call (.Name x p) (e::es) [] pos) (yL b):=by
 refine PE.imp (Ww F U hg y O hb .nil M d o I l) λσ H Q h=>?_
 obtain ⟨G,Y,S,T,V,P,rfl,Z,hA,N,kk⟩:=h
 refine ⟨G,Y,S,T,V,_,rfl,Z,hA,N,λxs i As us C H' B D ex eu j p=>?_⟩
 split at p
 ·obtain ⟨v,F,rfl,c⟩:=Jo eu j ex
  obtain ⟨rfl,_⟩:=(c.told mem_mid).int_inv
  refine ⟨_,rfl,λq c' R r t m s=>?_⟩
  have J:=c.drop.grow (n':=i.n) s (Ak _)
  refine kk _ i _ [q] C r B D ((J.push (e:=⟨some (.ref q),.drw,[q]⟩) ⟨q,_,0,R,rfl,rfl,m,by decide,by omega⟩ (λf L=>?_) λa d=>?_).tomid) p
  ·have u:=c.drop.free t f L
   refine ⟨λ_ a d z=>?_,λ_ a d z=>?_⟩
   ·rw[Ab.mp d] at z
    exact u z
   ·rw[Ab.mp z] at d
    exact u (Fv _ _ d)
  ·rw[Ab.mp d]
   exact .inl (c.new0 t)
 ·exact p.elim
end
def args0(a:List Ad)(k:Nat):List DV:=a.map (λd=>.dat .sh d)++Ja k .un
def eU(e:Ent):Ent:=match e.x with
 | .dat _ d=>⟨e.v,.dat .sh d,e.F⟩
 | _=>e
theorem Mk:∀{xs:List DV} {a:List Ad},datas xs=some a->xs.length=a.length
 | [],a,h=>by cases h; rfl
 | x::xs,a,h=>by
  cases x with
  | dat m d =>
   cases q:datas xs with
   | none=>simp [datas,q] at h
   | some b =>
    simp [datas,q] at h
    subst h
    rw[Bg,Bg,Mk q]
  | _=>cases h
theorem Xa:∀{As:List Ent} {a:List Ad},datas (As.map Ent.x)=some a->(As.map eU).map Ent.x=a.map (λd=>.dat .sh d)
 | [],a,h=>by cases h; rfl
 | ⟨v,x,F⟩::As,a,h=>by
  rw[Aw] at h
  cases x with
  | dat m d =>
   cases q:datas (As.map Ent.x) with
   | none=>simp [datas,q] at h
   | some b =>
    simp [datas,q] at h
    subst h
    rw[Aw,Aw,Aw,Xa q]
    rfl
  | _=>cases h
theorem Ys:∀{As:List Ent} {a:List Ad},datas (As.map Ent.x)=some a->∀e∈As,∃m d,e.x=.dat m d
 | [],a,h,e,he=>nomatch he
 | ⟨v,x,F⟩::As,a,h,e,he=>by
  rw[Aw] at h
  cases x with
  | dat m d =>
   cases q:datas (As.map Ent.x) with
   | none=>simp [datas,q] at h
   | some b =>
    rcases Aj.mp he with rfl | he
    ·exact ⟨m,d,rfl⟩
    ·exact Ys q e he
  | _=>cases h
theorem BH(As:List Ent):(As.map eU).map Ent.v=As.map Ent.v:=by
 rw[Dz]
 refine Jz λe _=>?_
 obtain ⟨v,x,F⟩:=e
 cases x <;> rfl
def Io(k:Nat):List Ent:=Ja k ⟨none,.un,[]⟩
theorem jY{As:List Ent}{c:List Ad}(q:datas (As.map Ent.x)=some c)(k:Nat):∀e∈As.map eU++Io k,cells e=[]/\CW e.x=false:=λe he=>by
 rcases Ai.mp he with he | he
 ·obtain ⟨f,g,rfl⟩:=Bs.mp he
  obtain ⟨m,d,b⟩:=Ys q f g
  obtain ⟨v,x,F⟩:=f
  have a:x=.dat m d:=b
  subst a
  exact ⟨rfl,rfl⟩
 ·rw[(Kr.mp he).2]
  exact ⟨rfl,rfl⟩
theorem Ri{c:Type}{R:c->c->Prop}:∀{l:List c},(∀a∈l,∀b∈l,R a b)->l.Pairwise R
 | [],_=>Eh
 | a::l,h=>Ay.mpr ⟨λb e=>h a Aa b (Ae _ e),Ri λx d y f=>h x (Ae _ d) y (Ae _ f)⟩
theorem u7{K:PySem.W.Frag}{H:Hp}{n:Nat}{As:List Ent}{c:List Ad}(q:datas (As.map Ent.x)=some c)(ok:∀e∈As,Il K H n e)(k:Nat):∀e∈As.map eU++Io k,Il K H n e:=λe he=>by
 rcases Ai.mp he with he | he
 ·obtain ⟨f,b,rfl⟩:=Bs.mp he
  obtain ⟨m,d,h⟩:=Ys q f b
  have o:=ok f b
  obtain ⟨v,x,F⟩:=f
  have a:x=.dat m d:=h
  subst a
  obtain ⟨w,g,i,_⟩:=o
  exact ⟨w,g,i,λz=>(nomatch z),λz=>(nomatch z)⟩
 ·rw[(Kr.mp he).2]
  exact (rfl:([]:List Addr)=[])
theorem Of{b c:Type}(f:b->c)(k:Nat)(a:b):(Ja k a).map f=Ja k (f a):=by
 rw[List.map_replicate]
def retE(R:Ad->Prop):DEnds where
 nx:=λ_=>R .none
 rt:=λx _=>∃d,x=.dat .ow d/\R d
section
variable{P:Bz}{w:World}{K:PySem.W.Frag}{mg:Str->Option Value}{base:Heap}
theorem Ou{x g:Str}{st:Stmt}{f:Addr}{Y:Cu}{N ps:List Str}{k:Nat}{V:PF}{U:DB}(F:Fun K x g st f Y)(S:FnScope N ps (Cg st))(hb:∀(i:Value) (A:Dm) (outer:List Env) (s:Ap) (H:Hp) (E:XK),Room k (A.deeper (envOfC g (Cg st) s.heap.objs.size f i))->aS (Pj Ko P w K mg base N g (Cg st) f i A outer s H E).nox (Kv st) U)(h:∀j R,V j R->j.length=ps.length/\U (retE R) ⟨args0 j (N.length - ps.length),0⟩):FnOk P w K mg base Ko (k+1) f Y ps (Zv K V):=by
 refine F.ok S (λvs H Q E z=>?_) λi A outer s H us Q E hr z=>?_
 ·obtain ⟨X,n,j,R,C,ok,q,D,_⟩:=z
  have l1:=(h j R D).1
  have O:=Mk q
  rw[Ac] at O
  have J:=congrArg Ek C
  rw[Ac,Ac] at J
  omega
 ·obtain ⟨X,n,j,R,C,ok,q,D,W⟩:=z
  obtain ⟨l1,hd⟩:=h j R D
  have O:=Mk q
  rw[Ac] at O
  have J:=congrArg Ek C
  rw[Ac,Ac] at J
  refine ⟨_,hb i A outer s H E hr,H,λ_=>False,X.map eU++Io (N.length - ps.length),[],⟨args0 j (N.length - ps.length),0⟩,retE R,?_,?_,λ_ z=>(nomatch z),?_,hd,λT M G Z m p=>?_,λx T v I M G Z m p=>?_,λ_ _ _ _ _ p=>p.elim,λ_ _ _ _ _ p=>p.elim⟩
  ·unfold vs L2.start Io
   rw[Bc,BH,C,Of,show us.length=ps.length by omega]
  ·unfold Sl args0 Io
   rw[Bc,Xa q,Of]
  ·rw[Et]
   have B:=jY q (N.length - ps.length)
   refine ⟨λe y=>?_,Ri λa l b L=>⟨λhq c t=>?_,λhq c t=>?_⟩,λe y a l=>?_,λb o _ e=>e,λb o e=>⟨o,e⟩,λb hb=>hb.elim⟩
   ·have:=u7 q ok (N.length - ps.length) e y
    obtain ⟨v,x,F⟩:=e
    cases x with
    | drw=>exact absurd (B _ y).2 (by show ¬ (true=false); decide)
    | _=>exact this
   ·rw[(B a l).1] at t; cases t
   ·rw[(B b L).1] at t; cases t
   ·rw[(B e y).1] at l; cases l
  ·exact W .non .none [] G p .non Do (λ_ z=>(nomatch z)) λb o e=>m.same b o (λz=>z) e
  ·obtain ⟨d,rfl,r⟩:=p
   rw[show M++[(⟨some v,.dat .ow d,I⟩ : Ent)]=M++⟨some v,.dat .ow d,I⟩::[] from rfl] at m
   obtain ⟨u,e2,rd,nd,_⟩:=m.ok _ mem_mid
   cases e2
   refine W v d I G r rd (nd rfl) (λa l=>?_) λb o e=>m.same b o (λz=>z) e
   rcases m.new _ mem_mid a l with z | z
   ·exact z
   ·exact z.1.elim
end
end DL
namespace L2
open PySem PySem.Spec PyProof.Rows
def yY(H:Hp):Prop:=∀b,H b=none\/(∃o c,H b=some (.frz o (.lst c)))\/∃a,H b=some (.tbl a)
def oU(a:List (Addr×Addr×Str))(H:Hp):Hp:=λb=>match a.find? (λr=>r.2.1 == b) with | some t=>some (.tbl #[.str t.2.2 0]) | none=>H b
theorem Wd{a:List (Addr×Addr×Str)}{H:Hp}{b:Addr}{t:Addr×Addr×Str}(h:a.find? (λr=>r.2.1 == b)=some t):oU a H b=some (.tbl #[.str t.2.2 0]):=by unfold oU; rw[h]
theorem Nw{a:List (Addr×Addr×Str)}{H:Hp}{b:Addr}(h:a.find? (λr=>r.2.1 == b)=none):oU a H b=H b:=by unfold oU; rw[h]
def kI(q:Bz)(K:PySem.W.Frag):Prop:=∃a:List (Addr×Addr×Str),(∀t∈a,∃x d,(recsOf q).find? (λe=>e.name == x)=some d/\PySem.W.tabIn K x=some (t.1,t.2.1))/\(∀t∈a,∀t'∈a,t.2.1=t'.2.1->t=t') /\
 (∀x∈Xg,∀c P,PySem.W.tabIn K x=some (c,P)->(c,P,CD x)∈a)/\∀t∈a,K.lookup t.2.1=none
theorem O3{x:Str}(hx:x∈Xg):x = "often" \/ x = "cut_by" := by
 rcases Aj.mp hx with h | hx
 ·exact .inl h
 ·exact .inr (Ab.mp hx)
theorem xN{q:Bz}{K:PySem.W.Frag}(h1:PySem.W.tabIn K "often" = none)(b:PySem.W.tabIn K "cut_by" = none):kI q K:=by
 refine ⟨[],λ_ z=>(nomatch z),λ_ z=>(nomatch z),λx a c P e=>?_,λ_ z=>(nomatch z)⟩
 rcases O3 a with rfl | rfl
 ·rw[h1] at e; cases e
 ·rw[b] at e; cases e
theorem wO{P:Bz}{w:World}{K:PySem.W.Frag}{mg mb:Str->Option Value}{CX:vO}{k:Nat}{fa a:Addr}{fd:Cu}{x:Str}{sp:Sp}{f:Ap}{vs:List Value}{ns:List Int}(g:List (Addr×Addr×Str))(G:∀t∈g,PySem.W.CodeHd f.heap t.1 t.2.1/\f.heap.get? t.2.1=some (PySem.W.tabObj #[]))(hu:∀t∈g,∀t'∈g,t.2.1=t'.2.1->t=t')(hL:∀x∈Xg,∀c P,PySem.W.tabIn K x=some (c,P)->(c,P,CD x)∈g)(k4:∀t∈g,K.lookup t.2.1=none)(k7:∃U D,mg "__builtins__" = some (.ref U)/\U≠Wu/\f.heap.get? U=some D/\D.cls=.type "module" /\ D.dict=some Wu/\D.data=.plain)(KX:K.In f.heap)(M:f.heap.Ns Dj mg)(hb:f.heap.Ns Wu mb)(k8:∀x:Str,x ≠ "__name__" -> mb x=Lh x)(h7:f.heap.NoLimit)(hg:f.gens=#[])(J:f.heap.get? a=some { cls:=.type "list",data:=.seq vs.toArray })(hi:Ib vs ns)(hl:ns.length<=Bf)(hr:Room k aV)(F:∀base:Heap,K.In base->base.Ns Dj mg->FnOk P w K mg base CX k fa fd [x] sp)(I:∀(s:Ap) (u:Value),BindsTo s fd ⟨[u],[]⟩ [(x,u)])(k3:∀H:Hp,yY H->DL.KL K H a (ns.map V.int)->sp [.ref a] H (λv _=>v=.bl true) λ_ _ _=>False)(k2:∀H e s',CX [] H f (λ_ _ _=>False) e s'->False):Ru (model P w) aV (.call (.ref fa) ⟨[.ref a],[]⟩) (λr s'=>r=.ok (.ret (.bool true))/\OldK f.heap s'.heap/\s'.os=f.os/\Ul s'.gens) f:=by
 have rv:=iG hi
 have Y:=hi.length
 -- from an abstract heap in which nothing but the script may be tracked
 have S:∀H:Hp,yY H->DL.KL K H a (ns.map V.int)->fT P w H f.heap->(∀b,H b≠none->b=a\/∃t∈g,b=t.2.1)->(H a≠none->K.lookup a=none)->(∀t∈g,X7 H t.2.1 t.2.2) ->
   Ru (model P w) aV (.call (.ref fa) ⟨[.ref a],[]⟩) (λr s'=>r=.ok (.ret (.bool true))/\OldK f.heap s'.heap/\s'.os=f.os/\Ul s'.gens) f:=by
  intro H hO hS N hA hK k0
  have i:∀{b:Addr} {o:Obj},f.heap.get? b=some o->H b=none->(gE f.heap H).get? b=some o:=λe n=>n9 e n
  have k6:∀{b:Addr} {o:Obj} {O:Array DictEntry} {R:Nat},f.heap.get? b=some o->o.data=.dict O R->H b=none:=λ{b o O R} e d=>by
   cases q:H b with
   | none=>rfl
   | some u =>
    rcases hA b (by rw[q]; simp) with l | ⟨t,j,l⟩
    ·subst l
     rw[J] at e; cases e
     have d':Data.seq vs.toArray _=Data.dict O R:=d
     cases d'
    ·rw[l,(G t j).2] at e; cases e
     cases d
  have B:∀{b:Addr} {m:Str->Option Value},f.heap.Ns b m->(gE f.heap H).Ns b m:=λ{b m} ⟨o,O,R,e,d,r⟩=>⟨o,O,R,i e (k6 e d),d,r⟩
  have h9:K.In (gE f.heap H):=λb o e=>i (KX b o e) (by
   cases q:H b with
   | none=>rfl
   | some u =>
    rcases hA b (by rw[q]; simp) with l | ⟨t,j,l⟩
    ·subst l
     rw[hK (by rw[q]; simp)] at e; cases e
    ·rw[l,k4 t j] at e; cases e)
  have JC:∀{b:Addr} {o:Obj},f.heap.get? b=some o->o.cls≠.none->o.cls≠.type "list" -> H b=none:=λ{b o} e d d2=>by
   cases q:H b with
   | none=>rfl
   | some u =>
    rcases hA b (by rw[q]; simp) with l | ⟨t,j,l⟩
    ·subst l
     rw[J] at e; cases e
     exact absurd rfl d2
    ·rw[l,(G t j).2] at e; cases e
     exact absurd rfl d
  have k5:zT K mg (gE f.heap H) H:=λx hx c P e=>by
   have j:=hL x hx c P e
   obtain ⟨U,D,b1,b2,b3,b4,b5,b6⟩:=k7
   obtain ⟨⟨o,us,X,tf,L,tg,k1,h0,tt,A,r1,r2⟩,C⟩:=G _ j
   refine ⟨⟨o,us,X,tf,L,tg,k1,h0,tt,i A (JC A (by rw[r1]; nofun) (by rw[r1]; simp)),r1,r2⟩,⟨U,D,b1,b2,λz=>?_,λz=>?_,i b3 (JC b3 (by rw[b4]; nofun) (by rw[b4]; simp)),b4,b5,b6⟩,k0 _ j⟩
   ·obtain ⟨o',O,R,l,d,_⟩:=M
    rw[<- z,b3] at l; cases l; rw[b6] at d; cases d
   ·have C:f.heap.get? P=_:=C
    rw[<- z,b3] at C; cases C; cases b4
  have hM:Mod K mg (gE f.heap H):=⟨h9,B M,⟨mb,B hb,k8⟩,let ⟨mc,h1,h2⟩:=h7; ⟨mc,B h1,h2⟩⟩
  have e0:Env0 P w K mg (gE f.heap H) aV [] f H:=⟨rfl,hM,λb o e=>T6 e,Nat.le_of_eq (yC _ _),trivial,λb hb=>absurd (show b∈([]:List Addr) from hb) (by simp),N,.of_eq hg,k5⟩
  refine Wt ((F _ h9 (B M)).run aV [] f H ⟨[.ref a],[]⟩ [.ref a] [.ref a] _ _ hr e0 (I f (.ref a)) (.cons rfl .nil) (k3 H hO hS)) λr s' h=>?_
  cases r with
  | error e=>exact (k2 H e s' h).elim
  | ok fl =>
   cases fl with
   | next=>exact Lq h
   | brk=>exact Lq h
   | cont=>exact Lq h
   | ret u =>
    obtain ⟨v,H',os,h8,un,E,r',q⟩:=h
    have q':v=.bl true:=q
    subst q'
    obtain rfl:u=Value.bool true:=r'
    have h6:∀b o,f.heap.get? b=some o->s'.heap.get? b=some o\/∃t∈g,b=t.2.1:=λb o e=>by
     cases q:H b with
     | none=>exact .inl (un.keep b o e q (by intro z; exact absurd (show b∈([]:List Addr) from z) (by simp)) (by simp))
     | some u =>
      rcases hO b with z | ⟨D,xs,z⟩ | ⟨Q,z⟩
      ·rw[q] at z; cases z
      ·have z2:=un.frzs b D _ z
       obtain ⟨A,_⟩:=N b _ z
       obtain ⟨e2,_⟩:=E b _ z2
       rw[e] at A; cases A
       exact .inl e2
      ·rcases hA b (by rw[q]; simp) with l | h'
       ·obtain ⟨_,A,_⟩:=N b _ z
        rw[l,J] at A; cases A
       ·exact .inr h'
    have p:∀t∈g,∃Q,s'.heap.get? t.2.1=some (PySem.W.tabObj Q):=λt j=>by
     obtain ⟨Q,t0,h3,_⟩:=k0 t j
     obtain ⟨more,h5⟩:=un.tbls _ _ h3
     obtain ⟨qs,A,_⟩:=E _ _ h5
     exact ⟨qs,A⟩
    refine ⟨rfl,⟨λb o e=>?_,λb o e=>?_⟩,os,h8⟩
    ·rcases h6 b o e with z | ⟨t,j,rfl⟩
     ·exact .inl z
     ·obtain ⟨Q,C⟩:=p t j
      have e2:=(G t j).2
      rw[e] at e2
      cases e2
      exact .inr (.inl ⟨((G t j).1.tab (G t j).2).isCodeTable,rfl,#[],Q,rfl,by rw[Array.empty_append]; exact C⟩)
    ·rcases h6 b o e with z | ⟨t,j,rfl⟩
     ·exact ⟨_,z⟩
     ·obtain ⟨Q,C⟩:=p t j
      exact ⟨_,C⟩
 have T:∀(t:Addr×Addr×Str),t∈g->g.find? (λr=>r.2.1 == t.2.1)=some t:=λt j=>by
  cases q:g.find? (λr=>r.2.1 == t.2.1) with
  | none=>exact absurd (List.find?_eq_none.mp q t j) (by simp)
  | some r=>exact congrArg some (hu r (Rt q) t j (by have:=Vj q; simpa using this))
 have Z:∀t∈g,t.2.1≠a:=λt j z=>by
  have e:=(G t j).2
  rw[z,J] at e; cases e
 have all:∀H:Hp,(∀b,H b=none\/∃o xs,H b=some (.frz o (.lst xs)))->(∀b,H b≠none->b=a)->(H a≠none->K.lookup a=none)->DL.KL K H a (ns.map V.int)->fT P w H f.heap ->
   Ru (model P w) aV (.call (.ref fa) ⟨[.ref a],[]⟩) (λr s'=>r=.ok (.ret (.bool true))/\OldK f.heap s'.heap/\s'.os=f.os/\Ul s'.gens) f:=by
  intro H h1 h2 h3 h4 h5
  refine S (oU g H) (λb=>?_) ?_ (λb u z=>?_) (λb z=>?_) (λz=>?_) λt j=>?_
  ·cases q:g.find? (λr=>r.2.1 == b) with
   | some t=>exact .inr (.inr ⟨_,Wd q⟩)
   | none =>
    rcases h1 b with z | ⟨o,xs,z⟩
    ·exact .inl (by rw[Nw q]; exact z)
    ·exact .inr (.inl ⟨o,xs,by rw[Nw q]; exact z⟩)
  ·have na:g.find? (λr=>r.2.1 == a)=none:=J2.mpr λt j z=>Z t j (by simpa using z)
   rcases h4 with ⟨o,h⟩ | h
   ·exact .inl ⟨o,by rw[Nw na]; exact h⟩
   ·exact .inr h
  ·cases q:g.find? (λr=>r.2.1 == b) with
   | some t =>
    rw[Wd q] at z
    cases z
    have eb:t.2.1=b:=by have:=Vj q; simpa using this
    exact ⟨#[],by rw[<- eb]; exact (G t (Rt q)).2,by simp [TriplesOk],λk9 v y=>by simp [codeAmong] at y⟩
   | none =>
    rw[Nw q] at z
    rcases h1 b with y | ⟨o,xs,y⟩
    ·rw[z] at y; cases y
    ·rw[z] at y
     cases y
     exact h5 b _ z
  ·cases q:g.find? (λr=>r.2.1 == b) with
   | some t=>exact .inr ⟨t,Rt q,by have:=Vj q; exact (by simpa using this : t.2.1=b).symm⟩
   | none =>
    rw[Nw q] at z
    exact .inl (h2 b z)
  ·have na:g.find? (λr=>r.2.1 == a)=none:=J2.mpr λt j z=>Z t j (by simpa using z)
   rw[Nw na] at z
   exact h3 z
  ·exact ⟨#[.str t.2.2 0],0,Wd (T t j),rfl⟩
 cases hk:K.lookup a with
 | some o =>
  -- the script is one of the module's own objects
  have e:=KX a o hk
  rw[J] at e
  cases e
  exact all (λ_=>none) (λ_=>.inl rfl) (λb z=>absurd rfl z) (λz=>absurd rfl z) (.inr ⟨vs.toArray,_,hk,by rw[Av,Y]; exact hl,by simpa using rv⟩) (λb u z=>by have z':(none:Option HO)=some u:=z; cases z')
 | none =>
  refine all (λb=>if b=a then some (.frz { cls:=.type "list",data:=.seq vs.toArray } (.lst (ns.map V.int))) else none) (λb=>?_) (λb z=>?_) (λ_=>hk) (.inl ⟨{ cls:=.type "list",data:=.seq vs.toArray },if_pos rfl⟩) (λb u z=>?_)
  ·by_cases hb:b=a
   ·exact .inr ⟨_,_,if_pos hb⟩
   ·exact .inl (if_neg hb)
  ·by_cases hb:b=a
   ·exact hb
   ·exact absurd (if_neg hb) z
  ·by_cases hb:b=a
   ·have z':=(if_pos hb).symm.trans z
    cases z'
    subst hb
    exact ⟨J,by rw[Ac]; exact hl,vs,_,rv,J⟩
   ·have z':=(if_neg hb).symm.trans z
    cases z'
theorem walk_ofD{l:PySem.W.OpenLaw}{n k:Nat}{q:Bz}{loose:List Str}{XP:(Str->Option Value)->Heap->Prop}{YP:World->Heap->Prop}{d:DefRec}{K:Params->PySem.W.Frag}{CX:World->vO}{sp:World->Sp}{x:Str}(hn:l.most=some n)(y:n<=Bf)(E:d.params.defaults=[])(hr:Room k aV)(M:∀(w:World) (h:Heap),YP w h->(K w.params).In h)(F:∀(w:World) (mg:Str->Option Value) (r:Addr) (h:Heap),(K w.params).In h->h.Ns Dj mg->mg d.name=some (.ref r)->(kI q (K w.params))/\∃B:Cu,(∀(s:Ap) (u:Value),BindsTo s B ⟨[u],[]⟩ [(x,u)])/\∀base:Heap,(K w.params).In base->base.Ns Dj mg->FnOk l.prog w (K w.params) mg base (CX w) k r B [x] (sp w))(A:∀(w:World) (H:Hp) (a:Addr) (ns:List Int),ns.length<=n->yY H->DL.KL (K w.params) H a (ns.map V.int)->sp w [.ref a] H (λv _=>v=.bl true) λ_ _ _=>False)(C:∀(w:World) (H:Hp) (s:Ap) (e:Value) (s':Ap),CX w [] H s (λ_ _ _=>False) e s'->False):PySem.W.WalkO q loose XP YP l.row.toRowW d [] (λf vs=>PySem.call f vs):=by
 refine Att.attach_call hn E λw I m mg mb r o pm cd U a vs ns G Y ho hd L z j i c hg=>?_
 have D:=M w _ Y
 obtain ⟨⟨p,O,Z,J,P⟩,B,R,S⟩:=F w mg r _ D G.T.g z
 exact wO p (λt N=>by
  obtain ⟨x,d,Q,h2⟩:=O t N
  exact PySem.W.tab_of G.T D Q h2) Z J P G.T.bmain D G.T.g G.T.b G.T.builtins G.T.nolimit hg j i (Br c y) hr S R (λH X hS=>A w H a ns c X hS) λH e s'=>C w H m e s'
end L2
namespace DL
open PySem PySem.Spec PyProof.Rows L2 Nd
def npk:List DV->Bool
 | []=>true
 | .dat .pk _::_=>false
 | _::xs=>npk xs
theorem Tj:∀{S:List Ent} {a:List DV},S.map Ent.x=a->npk a=true->∀e∈S,Kz e.x=false
 | [],_,_,_,e,he=>nomatch he
 | ⟨v,x,F⟩::S,_,h,hn,e,he=>by
  subst h
  rw[Aw] at hn
  have : Kz x=false/\npk (S.map Ent.x)=true:=by
   cases x with
   | dat m d=>cases m <;> first | exact ⟨rfl,hn⟩ | cases hn
   | _=>exact ⟨rfl,hn⟩
  rcases Aj.mp he with rfl | he
  ·exact this.1
  ·exact Tj rfl this.2 e he
def own1:Md->Bool
 | .ow=>true
 | .tp=>true
 | _=>false
section
variable{K:PySem.W.Frag}{d H:Hp}{X:Addr->Prop}{n:Nat}{E:List Ent}
theorem At.write{v:Option V}{m:Md}{u es:List Ad}{a:Addr}{F G:List Addr}{ys:List V}(h:At K d X n (⟨v,.dat m (.list u),a::F⟩::E) H)(j:own1 m=true)(U:v=some (.ref a))(np:∀e∈E,Kz e.x=false)(r:RdFs K H ys es G)(s:G.Sublist F)(Y:es.length<=Bf):At K d X n (⟨v,.dat m (.list es),a::G⟩::E) (upd H a (.lst ys)):=by
 obtain ⟨w,Z,rd,I,L⟩:=h.ok _ Aa
 obtain ⟨b,xs,S,e2,N,ra,R,_⟩:=rd.list_inv
 have B:a::F=b::S:=R
 cases B
 have t:=Ay.mp h.sep
 have C:a∉F:=by
  cases m with
  | ow=>exact (Bp.mp (I rfl)).1
  | tp=>exact L rfl a F rfl
  | sh=>cases j
  | pk=>cases j
 have D:a∈cells ⟨v,.dat m (.list u),a::F⟩:=by
  cases m <;> first | exact Aa | cases j
 have kp:∀{A:List Addr},a∉A->Kp A H (upd H a (.lst ys)):=λ{A} Q b o q z=>by
  have : b≠a:=by
   rintro rfl
   rw[N] at q
   cases q
   rcases z with z | z
   ·exact Q z
   ·rcases z with ⟨_,z⟩ | ⟨_,_,z⟩ <;> cases z
  rw[Ei this]
  exact q
 have y:d a=none:=by
  rcases h.new _ Aa a D with z | z
  ·exact z
  ·cases z.2
 have J:∀c∈cells ⟨v,.dat m (.list es),a::G⟩,c∈cells ⟨v,.dat m (.list u),a::F⟩:=λc g=>by
  cases m with
  | ow =>
   rcases Aj.mp g with z | z
   ·exact Aj.mpr (.inl z)
   ·exact Aj.mpr (.inr (s.subset z))
  | tp=>exact g
  | sh=>cases j
  | pk=>cases j
 have p:∀c∈a::G,c∈a::F:=λc g=>by
  rcases Aj.mp g with z | z
  ·exact Aj.mpr (.inl z)
  ·exact Aj.mpr (.inr (s.subset z))
 have i:a∉G:=λz=>C (s.subset z)
 refine ⟨λf hf=>?_,?_,λf hf=>?_,λb o T q=>?_,λb o q=>?_,λb O=>?_⟩
 ·rcases Aj.mp hf with rfl | hf
  ·refine ⟨.ref a,U,.lst Dq Y (r.kp (kp i)),λz=>?_,λz c l e=>?_⟩
   ·exact Bp.mpr ⟨i,(Bp.mp (I z)).2.sublist s⟩
   ·cases e
    exact i
  ·exact (h.ok f (Ae _ hf)).kp (kp ((t.1 f hf).1 (.inl (np f hf)) a D)) (Ak _)
 ·refine Ay.mpr ⟨λf hf=>⟨λP c g=>(t.1 f hf).1 (.inl (np f hf)) c (J c g),λP c g z=>(t.1 f hf).2 (.inl ?_) c g (p c z)⟩,t.2⟩
  cases m <;> first | rfl | cases j
 ·rcases Aj.mp hf with rfl | hf
  ·exact λc g=>h.new _ Aa c (J c g)
  ·exact h.new f (Ae _ hf)
 ·rw[Ei (Hn q y)]
  exact h.same b o T q
 ·rw[Ei (Hn q y)]
  exact h.dom b o q
 ·obtain ⟨z,c,k,f,M,W⟩:=h.xd b O
  refine ⟨z,c,k,f,(Ei ?_).trans M,W⟩
  rintro rfl
  exact z y
end
theorem Gn{a:Type}:∀{l:List a} {i:Nat} {x:a},l[i]? = some x->l.Perm (x::l.eraseIdx i)
 | [],i,x,h=>by simp at h
 | z::l,0,x,h=>by
  simp at h
  subst h
  exact Ii _
 | z::l,i+1,x,h=>by
  have b:=Gn (l:=l) (i:=i) (x:=x) (by simpa using h)
  rw[Tf]
  exact (b.cons z).trans (Ds x z _)
theorem Nu{b:Type}{l:List b}{i:Nat}{x y:b}(h:l[i]? = some x):(l.set i y).Perm (y::l.eraseIdx i):=by
 have a:=(An.mp h).1
 have q:=Gn (l:=l.set i y) (i:=i) (x:=y) (by rw[Ey]; simp [a])
 rw[List.eraseIdx_set_eq] at q
 exact q
theorem bW{K:PySem.W.Frag}{s H:Hp}{X:Addr->Prop}{S T:List Ent}{δ:DS}{i:Nat}{m:Md}{c es:List Ad}(g:Sl S δ)(y:∀e∈T,Kz e.x=false)(w:At K s X δ.n (S++T) H)(I:δ.sl[i]? = some (.dat m (.list c)))(z:own1 m=true)(np:npk δ.sl=true):∃a xs G,(vs S)[i]? = some (some (.ref a))/\H a=some (.lst xs)/\RdFs K H xs c G/\c.length<=Bf/\∀ys f,RdFs K H ys es f->f.Sublist G->es.length<=Bf->∃o,vs o=vs S/\Sl o ⟨δ.sl.set i (.dat m (.list es)),δ.n⟩/\At K s X δ.n (o++T) (upd H a (.lst ys)):=by
 obtain ⟨d,b,N⟩:=Gk g I
 have A:d∈S:=Ao b
 obtain ⟨u,x,F⟩:=d
 have h:x=.dat m (.list c):=N
 subst h
 obtain ⟨v,t,rd,_⟩:=w.ok _ (Af _ A)
 obtain ⟨a,xs,G,rfl,E,L,J,O⟩:=rd.list_inv
 have l:F=a::G:=J
 subst l
 refine ⟨a,xs,G,by rw[Jc b]; exact congrArg some t,E,L,O,λys f r D k=>?_⟩
 have M:=Tj g np
 have B:(S++T).Perm (⟨u,.dat m (.list c),a::G⟩::(S.eraseIdx i++T)):=by
  exact (Gn b).append_right T
 have C:=(w.perm B).write (es:=es) (ys:=ys) z t (λe he=>?_) r D k
 ·refine ⟨S.set i ⟨u,.dat m (.list es),a::f⟩,?_,?_,C.perm ?_⟩
  ·unfold vs
   rw[Hv]
   apply Hk
   intro j
   rw[Ey]
   split
   ·rename_i p
    subst p
    rw[Bo,b]
    split
    ·rfl
    ·rename_i q
     rw[Ac] at q
     exact absurd (An.mp b).1 q
   ·rfl
  ·unfold Sl at g ⊢
   rw[Hv,g]
  ·exact ((Nu b).append_right T).symm
 ·rcases Ai.mp he with he | he
  ·exact M e ((El S i).subset he)
  ·exact y e he
def HV(i:Nat)(c:DE):DB:=λD b=>match b.sl[i]? with
 | some (.dat _ (.list _))=>c b λy a=>match a.sl[i]?,y with
  | some (.dat m (.list ds)),.dat _ e=>own1 m=true/\npk a.sl=true/\imm e=true/\ds.length<1000000/\D.nx ⟨a.sl.set i (.dat m (.list (ds++[e]))),a.n⟩
  | _,_=>False
 | _=>False
theorem RdFs.setI{K:PySem.W.Frag}{H:Hp}:∀{xs:List V} {b:List Ad} {j:Nat} {v:V} {e:Ad},RdFs K H xs b []->RdF K H v e []->RdFs K H (xs.set j v) (b.set j e) []:=by
 have c:∀{xs:List V} {b:List Ad} {F:List Addr} {j:Nat} {v:V} {e:Ad},RdFs K H xs b F->F=[]->RdF K H v e []->RdFs K H (xs.set j v) (b.set j e) []:=by
  intro xs b F j v e h
  induction j generalizing xs b F with
  | zero =>
   intro d r
   cases h with
   | nil=>exact .nil
   | cons a t =>
    obtain ⟨rfl,rfl⟩:=Od.mp d
    exact RdFs.cons (F:=[]) r t
  | succ j f =>
   intro d r
   cases h with
   | nil=>exact .nil
   | cons a t =>
    obtain ⟨rfl,rfl⟩:=Od.mp d
    exact RdFs.cons (F:=[]) a (f t rfl r)
 intro xs b j v e h r
 exact c h rfl r
def jE(i:Nat):DE:=λa P=>match a.sl[i]? with
 | some (.dat .pk _)=>False
 | some (.dat _ d)=>P (.dat .sh d) ⟨a.sl.set i (.dat .sh d),a.n⟩
 | _=>False
theorem Vb{X:Cx}{e:Expr}{i:Nat}(h:PE X e (Lj i)):Gq X e (jE i):=by
 refine PE.imp h λL H Q h=>?_
 obtain ⟨C,Y,S,T,s,P,rfl,t,w,c,k⟩:=h
 unfold jE at c
 split at c
 ·exact c.elim
 ·rename_i m d z A
  obtain ⟨f,a,I⟩:=Gk t A
  have o:f∈S:=Ao a
  obtain ⟨u,x,F⟩:=f
  have g:x=.dat m d:=I
  subst g
  obtain ⟨v,E,B⟩:=w.ok _ (Af _ o)
  have p:u=some v:=E
  subst p
  -- the same entry,shared
  obtain ⟨b,J⟩:=An.mp a
  have D:=Gn a
  have G:=Nu (y:=(⟨some v,.dat .sh d,F⟩ : Ent)) a
  have q:At X.K C Y s.n (S.set i ⟨some v,.dat .sh d,F⟩++T) H:=by
   refine At.perm (At.wk (m:=m) ?_ (w.perm (D.append_right T))) (G.append_right T).symm
   cases m <;> first | rfl | exact (z rfl).elim
  refine ⟨v,by rw[Jc a],k _ ⟨s.sl.set i (.dat .sh d),s.n⟩ v F (S.set i ⟨some v,.dat .sh d,F⟩) H ?_ ?_ (q.look (m:=.sh) (List.mem_set b _) rfl) c⟩
  ·rw[fE]
   apply Hk
   intro j
   rw[Ey]
   split
   ·rename_i r
    subst r
    rw[Jc a]
    split
    ·rfl
    ·rename_i l
     unfold vs at l
     rw[Ac] at l
     exact absurd b l
   ·rfl
  ·exact eJ t
 ·exact c.elim
def spLawD(K:PySem.W.Frag):Sp:=λc H Q _=>∃(a:Addr) (b:List Int),c=[.ref a]/\KL K H a (b.map V.int)/\b.length<=63/\∀d,Q (.bl true) d
def retL:DEnds where
 nx:=λ_=>False
 rt:=λx _=>∃m,x=.dat m (.bool true)
section
variable{P:Bz}{w:World}{K:PySem.W.Frag}{mg:Str->Option Value}{base:Heap}
theorem DU{x d D:Str}{st:Stmt}{f:Addr}{C:Cu}{N:List Str}{k:Nat}{u:DB}(F:Fun K x d st f C)(S:FnScope N [D] (Cg st))(hb:∀(g:Value) (A:Dm) (outer:List Env) (s:Ap) (H:Hp) (E:XK),Room k (A.deeper (envOfC d (Cg st) s.heap.objs.size f g))->aS (Pj Ko P w K mg base N d (Cg st) f g A outer s H E).nox (Kv st) u)(h:∀ns:List Int,ns.length<=63->u retL ⟨.scr ns::Ja (N.length - 1) .un,0⟩):FnOk P w K mg base Ko (k+1) f C [D] (spLawD K):=by
 refine F.ok S (λvs H Q E z=>?_) λg A outer s H O Q E M z=>?_
 ·obtain ⟨a,ns,rfl,_⟩:=z
  rfl
 ·obtain ⟨a,ns,rfl,L,i,I⟩:=z
  refine ⟨_,hb g A outer s H E M,H,λ_=>False,⟨some (.ref a),.scr ns,[]⟩::Io (N.length - 1),[],⟨.scr ns::Ja (N.length - 1) .un,0⟩,retL,?_,?_,λ_ z=>(nomatch z),?_,h ns i,λt q y G r p=>p.elim,λx t v B q y G r p=>?_,λ_ _ _ _ _ p=>p.elim,λ_ _ _ _ _ p=>p.elim⟩
  ·unfold vs L2.start Io
   rw[Aw,Of]
   rfl
  ·unfold Sl Io
   rw[Aw,Of]
  ·rw[Et]
   have l:∀e∈(⟨some (.ref a),.scr ns,[]⟩::Io (N.length - 1):List Ent),cells e=[]:=λe he=>by
    rcases Aj.mp he with rfl | he
    ·rfl
    ·rw[(Kr.mp he).2]
     rfl
   refine ⟨λe he=>?_,Ri λa j b n=>⟨λJ c z=>?_,λJ c z=>?_⟩,λe he a j=>?_,λb o _ e=>e,λb o e=>⟨o,e⟩,λb hb=>hb.elim⟩
   ·rcases Aj.mp he with rfl | he
    ·exact ⟨a,rfl,rfl,L,i⟩
    ·rw[(Kr.mp he).2]
     exact (rfl:([]:List Addr)=[])
   ·rw[l a j] at z; cases z
   ·rw[l b n] at z; cases z
   ·rw[l e he] at j; cases j
  ·obtain ⟨m,rfl⟩:=p
   rw[show q++[(⟨some v,.dat m (.bool true),B⟩ : Ent)]=q++⟨some v,.dat m (.bool true),B⟩::[] from rfl] at r
   obtain ⟨rfl,_⟩:=(r.told mem_mid).bl_inv
   exact I y
end
def pX(i:Nat)(dl d:DO):DE:=λc P=>match c.sl[i]? with
 | some (.scr ns)=>dl c λl b=>d b λh a=>P (.dat .ow (.list ((Jv ns l h).map Be))) a
 | _=>False
def HR(i:Nat)(c:DE):DE:=λb P=>match b.sl[i]? with
 | some (.scr ns)=>c b λy a=>match y with
  | .dat _ (.list es)=>Cv es=true/\ns.length+es.length<=1000000/\P (.dat .ow (.list (ns.map Be++es))) a
  | _=>False
 | _=>False
section
variable{X:Cx}{e b:Expr}{g:DE}{lo c:Option Expr}{dl f:DO}{pos d:Pos}{i:Nat}
theorem AW{K:PySem.W.Frag}{q H:Hp}{Y:Addr->Prop}{S T:List Ent}{δ:DS}{ns:List Int}(l:Sl S δ)(m:At K q Y δ.n (S++T) H)(c:δ.sl[i]? = some (.scr ns)):∃a,(vs S)[i]? = some (some (.ref a))/\(⟨some (.ref a),.scr ns,[]⟩ : Ent)∈S/\KL K H a (ns.map V.int)/\ns.length<=63:=by
 obtain ⟨b,h,o⟩:=Gk l c
 have g:b∈S:=Ao h
 obtain ⟨u,x,F⟩:=b
 have d:x=.scr ns:=o
 subst d
 obtain ⟨a,k,p,j⟩:=m.ok _ (Af _ g)
 have e:u=some (.ref a):=k
 have f:F=[]:=p
 subst e f
 exact ⟨a,by rw[Jc h],g,j⟩
theorem r6(G:PE X e (Lj i))(hl:EF X lo dl)(J:EF X c f):Gq X (.Subscript e (.Slice lo c none d) pos) (pX i dl f):=by
 refine PE.imp (nH (r:=DM X.K) K2 G hl J) λσ H Q h=>?_
 obtain ⟨o,Y,S,T,w,P,rfl,x,y,j,k⟩:=h
 unfold pX at j
 split at j
 case h_2=>exact j.elim
 rename_i b s
 obtain ⟨a,E,C,U,A⟩:=AW x y s
 have q:At X.K o Y w.n (S++⟨some (.ref a),.scr b,[]⟩::T) H:=(At.view1 y (Af _ C)).tomid
 refine ⟨.ref a,E,o,Y,S,⟨some (.ref a),.scr b,[]⟩::T,w,_,rfl,x,q,j,λl v F W O B t d=>?_⟩
 refine ⟨o,Y,F,⟨some (.ref a),.scr b,[]⟩::T,v,_,O,B,t,d,λh m M R I L g N=>?_⟩
 obtain ⟨a',D,_,u,_⟩:=g.ok _ mem_mid
 cases D
 refine ⟨a,_,rfl,u.sq,λp z=>?_⟩
 have : dY (b.map V.int) l h=(Jv b l h).map V.int:=by
  rw[<- oO]; rfl
 rw[this]
 refine k _ m _ _ M _ I L (g.drop.newI (RdFs.ints _) (Qi _) ?_ z .ow) N
 rw[Ac]
 have Z:=(Lv b l h).length_le
 exact sz (by omega)
end
def Rn(p:Nat)(f:DT)(g:DE)(δ:DS)(d:Ad->Nat->Prop)(h:Nat->Prop):Prop:=f δ λb a=>match b with
 | true=>g a λy c=>match y with
  | .dat _ e=>imm e=true/\c.sl[p]? = some .drw/\d e c.n
  | _=>False
 | false=>a.sl[p]? = some .drw/\h a.n
def sE(h:DI)(js1:List Nat)(j0:Nat)(js2:List Nat)(j:DT)(k:DE):DE:=λg P=>h g λm f b=>b.sl[j0]? = some .drw/\∃I:Nat->List Ad->Nat->Prop,I 0 [] b.n /\
 (∀i d a n,f[i]? = some d->I i a n->Rn (js1.length+1) j k ⟨.dat m d::(frD (b.sl.set j0 .un) js1++.drw::frD (b.sl.set j0 .un) js2),n⟩ (λe c=>I (i+1) (a++[e]) c) (λc=>I (i+1) a c)) /\
 ∀a n,I f.length a n->P (.dat .ow (.list a)) ⟨b.sl,n⟩
section
variable{K:PySem.W.Frag}{a H H':Hp}{Y:Addr->Prop}{n n':Nat}{E S T:List Ent}
theorem At.re(h:At K a Y n E H)(ok:∀e∈E,Il K H' n' e)(s:∀b o,¬ Y b->a b=some o->H' b=some o)(d:∀b o,a b=some o->∃g,H' b=some g)(i:∀b,Y b->a b≠none/\∃c k f,Vl H' b c k f/\0<=k/\k<=(n':Int)):At K a Y n' E H':=⟨ok,h.sep,h.new,s,d,i⟩
theorem C7{g:List Ent}{δ:DS}{p:Nat}{b:Addr}(v:At K a Y n E H)(s:∀e∈g,e∈E)(t:Sl g δ)(q:δ.sl[p]? = some .drw)(l:(vs g)[p]? = some (some (.ref b))):Il K H n ⟨some (.ref b),.drw,[b]⟩:=by
 obtain ⟨d,m,w⟩:=Gk t q
 have y:d∈g:=Ao m
 rw[Jc m] at l
 obtain ⟨u,x,F⟩:=d
 have h:x=.drw:=w
 subst h
 have z:u=some (.ref b):=Bu l
 subst z
 obtain ⟨j,c,k,f,r,A,o⟩:=v.ok _ (s _ y)
 have i:some (V.ref b)=some (V.ref j):=r
 cases i
 exact ⟨b,c,k,f,rfl,rfl,o⟩
theorem yN{p:Nat}{k:Addr}{B:DT}{z:DE}{δ:DS}{i:Ad->Nat->Prop}{u:Nat->Prop}{D:Addr}{d:List Ad}{w:Hp->Prop}{A:VK}(I:Sl S δ)(J:At K a Y δ.n (S++⟨some (.ref D),.acc d,[D]⟩::T) H)(s:(vs S)[p]? = some (some (.ref k)))(h:Rn p B z δ i u)(k1:∀n' H',At K a Y n' (⟨some (.ref D),.acc d,[D]⟩::T) H'->Il K H' n' ⟨some (.ref k),.drw,[k]⟩->u n'->w H')(k2:∀e n' v H',At K a Y n' (⟨some (.ref D),.acc d,[D]⟩::T) H'->Il K H' n' ⟨some (.ref k),.drw,[k]⟩->RdF K H' v e []->i e n'->A v H'):LT K B (vs S) H λc o=>if c=true then LE K z (vs S) o A else w o:=by
 refine ⟨a,Y,S,⟨some (.ref D),.acc d,[D]⟩::T,δ,_,rfl,I,J,h,λb q G o t x f l=>?_⟩
 cases b with
 | false=>exact sC (k1 _ _ (f.sub (Ci _ _)) (C7 f (λe m=>Af _ m) x l.1 (by rw[t]; exact s)) l.2)
 | true =>
  refine nM ⟨a,Y,G,⟨some (.ref D),.acc d,[D]⟩::T,q,_,t,x,f,l,λy E v F N M L C g j=>?_⟩
  split at j
  ·have r:=g.told mem_mid
   obtain rfl:=r.imm j.1
   exact k2 _ _ _ _ (g.drop.sub (Ci _ _)) (C7 g (λe m=>Af _ m) C j.2.1 (by rw[L]; exact s)) r j.2.2
  ·exact j.elim
theorem C8{di:DI}{js1 js2:List Nat}{j0:Nat}{dc:DT}{de:DE}:∀σ H Q,LE K (sE di js1 j0 js2 dc de) σ H Q->cI (LI K di) (js1++j0::js2) (LT K dc) (LE K de) σ H Q:=by
 intro σ H Q h
 obtain ⟨a,Y,S,T,δ,P,rfl,hS,hA,hd,k⟩:=h
 refine ⟨a,Y,S,T,δ,_,rfl,hS,hA,hd,λm s r J g f H1 e1 e2 V it hz p1=>?_⟩
 obtain ⟨hj,I,h0,hs,hf⟩:=p1
 rw[<- e1]
 obtain ⟨U,O,s2⟩:=Gk e2 hj
 have k3:U∈f:=Ao O
 obtain ⟨u,x,F0⟩:=U
 have h6:x=.drw:=s2
 subst h6
 obtain ⟨b,_,_,_,h7,k0,_⟩:=V.ok _ (Af _ k3)
 have X:u=some (.ref b):=h7
 have h5:F0=[b]:=k0
 subst X h5
 intro D hD
 refine ⟨λi q H=>q=s.length - i/\i<=s.length/\∃c n,At K a Y n (⟨some (.ref D),.acc c,[D]⟩::(f++(g++T))) H/\c.length<=i/\I i c n,⟨s.length,by simp,Em _,[],r.n,V.accNew hD,Ak _,h0⟩,?_⟩
 (intro i q H q_; obtain ⟨rfl,hi,c,n,w,hl,hI⟩ := q_)
 have l:∀e∈g,Il K H n e:=λe he=>w.ok e (Ae _ (Ag _ (Af _ he)))
 by_cases t:i<s.length
 ·refine .inr ⟨it.go H n i l t,λx H' y=>?_⟩
  obtain ⟨h8,d,F,h1,h2,h3⟩:=it.yld H n i x H' l t y
  have G:At K a Y n ((⟨some (.ref D),.acc c,[D]⟩::f)++⟨some x,.dat m d,F⟩::(g++T)) H':=At.item (S:=⟨some (.ref D),.acc c,[D]⟩::f) w h8 h2 h3 it.md it.hd it.np
  -- the draws are taken out of their slot
  have L:At K a Y n (⟨some (.ref b),.drw,[b]⟩::⟨some x,.dat m d,F⟩::⟨some (.ref D),.acc c,[D]⟩::(f.set j0 ⟨some (.ref b),.un,[]⟩++(g++T))) H':=by
   have q:=G.mid.blank (v:=some (.ref b))
   refine q.perm ?_
   have pS:(⟨some (.ref b),.un,[]⟩::f:List Ent).Perm (⟨some (.ref b),.drw,[b]⟩::f.set j0 ⟨some (.ref b),.un,[]⟩):=Ro O
   have p2:=pS.append_right (g++T)
   -- un::x::D::f.. ~ x::D::un::f..
   have a1:((⟨some (.ref b),.un,[]⟩ : Ent)::⟨some x,.dat m d,F⟩::((⟨some (.ref D),.acc c,[D]⟩::f)++(g++T))).Perm (⟨some x,.dat m d,F⟩::⟨some (.ref D),.acc c,[D]⟩::⟨some (.ref b),.un,[]⟩::(f++(g++T))) :=
    (Ds _ _ _).trans ((Ds _ _ _).cons _)
   have a2:((⟨some x,.dat m d,F⟩ : Ent)::⟨some (.ref D),.acc c,[D]⟩::⟨some (.ref b),.drw,[b]⟩::(f.set j0 ⟨some (.ref b),.un,[]⟩++(g++T))).Perm (⟨some (.ref b),.drw,[b]⟩::⟨some x,.dat m d,F⟩::⟨some (.ref D),.acc c,[D]⟩::(f.set j0 ⟨some (.ref b),.un,[]⟩++(g++T))) :=
    ((Ds _ _ _).cons _).trans (Ds _ _ _)
   exact a1.trans (((p2.cons _).cons _).trans a2)
  have h4:Sl (f.set j0 ⟨some (.ref b),.un,[]⟩) ⟨r.sl.set j0 .un,n⟩:=eJ e2
  have vS:vs (f.set j0 ⟨some (.ref b),.un,[]⟩)=vs f:=by
   rw[fE]
   apply Hk
   intro j
   rw[Ey]
   split
   ·rename_i k5
    subst k5
    rw[Jc O]
    split
    ·rfl
    ·rename_i M
     unfold vs at M
     rw[Ac] at M
     exact absurd (An.mp O).1 M
   ·rfl
  have A:∀e∈f.set j0 ⟨some (.ref b),.un,[]⟩,e∈(⟨some (.ref b),.drw,[b]⟩::⟨some x,.dat m d,F⟩::⟨some (.ref D),.acc c,[D]⟩::(f.set j0 ⟨some (.ref b),.un,[]⟩++(g++T)):List Ent):=λe he=>Ae _ (Ae _ (Ae _ (Af _ he)))
  have h9:=At.view (S:=f.set j0 ⟨some (.ref b),.un,[]⟩) L A js2
  have W:=At.view (S:=f.set j0 ⟨some (.ref b),.un,[]⟩) h9 (λe he=>Ag _ (A e he)) js1
  have k6:At K a Y n ((⟨some x,.dat m d,F⟩::(Vo (f.set j0 ⟨some (.ref b),.un,[]⟩) js1++⟨some (.ref b),.drw,[b]⟩::Vo (f.set j0 ⟨some (.ref b),.un,[]⟩) js2))++⟨some (.ref D),.acc c,[D]⟩::(f.set j0 ⟨some (.ref b),.un,[]⟩++(g++T))) H':=by
   refine W.perm ?_
   generalize Vo (f.set j0 ⟨some (.ref b),.un,[]⟩) js1=A1
   generalize Vo (f.set j0 ⟨some (.ref b),.un,[]⟩) js2=A2
   generalize (⟨some (.ref D),.acc c,[D]⟩::(f.set j0 ⟨some (.ref b),.un,[]⟩++(g++T)):List Ent)=R
   have b1:(A2++((⟨some (.ref b),.drw,[b]⟩ : Ent)::⟨some x,.dat m d,F⟩::R)).Perm ((⟨some x,.dat m d,F⟩ : Ent)::⟨some (.ref b),.drw,[b]⟩::(A2++R)) :=
    (Du.trans ((Du).cons _)).trans (Ds _ _ _)
   have b2:=b1.append_left A1
   refine b2.trans (Du.trans ?_)
   rw[Eu,Bw,Eu]
  have k4:Sl (⟨some x,.dat m d,F⟩::(Vo (f.set j0 ⟨some (.ref b),.un,[]⟩) js1++⟨some (.ref b),.drw,[b]⟩::Vo (f.set j0 ⟨some (.ref b),.un,[]⟩) js2)) ⟨.dat m d::(frD (r.sl.set j0 .un) js1++.drw::frD (r.sl.set j0 .un) js2),n⟩:=by
   unfold Sl
   rw[Aw,Bc,Aw,pN h4,pN h4]
  have hv:vs (⟨some x,.dat m d,F⟩::(Vo (f.set j0 ⟨some (.ref b),.un,[]⟩) js1++⟨some (.ref b),.drw,[b]⟩::Vo (f.set j0 ⟨some (.ref b),.un,[]⟩) js2))=some x::Jx (vs f) (js1++j0::js2):=by
   have f1:=oD (f.set j0 ⟨some (.ref b),.un,[]⟩) js1
   have f2:=oD (f.set j0 ⟨some (.ref b),.un,[]⟩) js2
   rw[vS] at f1 f2
   unfold vs at f1 f2 ⊢
   rw[Aw,Bc,Aw,f1,f2]
   unfold Jx
   rw[Bc,Aw,Bo,O]
   rfl
  have k1:(vs (⟨some x,.dat m d,F⟩::(Vo (f.set j0 ⟨some (.ref b),.un,[]⟩) js1++⟨some (.ref b),.drw,[b]⟩::Vo (f.set j0 ⟨some (.ref b),.un,[]⟩) js2)))[js1.length+1]? = some (some (.ref b)):=by
   unfold vs
   rw[Aw,Te,Bc,Fz (by rw[Ac]; unfold Vo; rw[Ac]; exact Ak _)]
   rw[Ac]
   unfold Vo
   rw[Ac,Nat.sub_self]
   rfl
  -- o to the outer names
  have o:∀{n':Nat} {z:Hp},At K a Y n' (⟨some (.ref D),.acc c,[D]⟩::(f.set j0 ⟨some (.ref b),.un,[]⟩++(g++T))) z->Il K z n' ⟨some (.ref b),.drw,[b]⟩->At K a Y n' (⟨some (.ref D),.acc c,[D]⟩::(f++(g++T))) z:=λ{n' z} N k2=>by
   refine w.re (λe he=>?_) N.same N.dom N.xd
   rcases Aj.mp he with rfl | he
   ·exact N.ok _ Aa
   ·rcases Ai.mp he with he | he
    ·obtain ⟨j,C⟩:=List.getElem?_of_mem he
     by_cases Z:j=j0
     ·subst Z
      rw[O] at C
      cases C
      exact k2
     ·refine N.ok e (Ae _ (Af _ (Ao (i:=j) ?_)))
      rw[Wn (Qt Z)]
      exact C
    ·exact N.ok e (Ae _ (Ag _ he))
  refine ⟨λz=>∃m',m'<s.length - i/\_,λy H3=>∃c,H3 D=some (.lst c)/\c.length<Bf/\∃m',m'<s.length - i/\_,λz q=>q,λy H3 q=>q,?_⟩
  rw[<- hv]
  refine yN k4 k6 k1 (hs i d c n h1 hI) (λn' z B E p=>?_) (λe n' v z B E r7 p=>?_)
  ·exact ⟨s.length - (i+1),by omega,rfl,t,c,n',o B E,by omega,p⟩
  ·obtain ⟨xs,g1,g2,g3⟩:=(o B E).accPut r7 (by omega)
   exact ⟨xs,g1,by omega,s.length - (i+1),by omega,rfl,t,c++[e],n',g3,by rw[Az]; simp; omega,p⟩
 ·have e:i=s.length:=by omega
  subst e
  refine .inl ⟨it.stop H n l,k _ ⟨r.sl,n⟩ _ [D] f H e1 e2 ?_ (hf c n hI)⟩
  have G:=w.accGet
  have L:At K a Y n (⟨some (.ref D),.dat .ow (.list c),[D]⟩::(f++T)) H:=G.sub (((Cs f).append (Ci g T)).cons₂ _)
  exact L.tomid
end
section
variable{X:Cx}{e b c:Expr}{x g:Str}{h i pos d:Pos}{i0:Nat}{f:List Expr}{a:Scope}{cl:List (Str×Addr)}{ys:List Str}{js1 js2:List Nat}{j0:Nat}{j:DI}{k:DT}{l:DE}
theorem n8{o:Bool}(u:X.N.Nodup)(c:X.N[i0]? = some g)(m:X.env.scope.names.lookup g=some .local)(C:CompScope X a cl x ys (js1++j0::js2))(p:X.calm=true)(v:p9 X (.Name x h) b j)(q:∀fp s H,tL (Hd X a cl (x::ys) fp s H) f (LT X.K k))(r:∀fp s H,Gq (Hd X a cl (x::ys) fp s H) e l)(t:∀x,Fu b X.env x=pure x:=by intro _; rfl)(n:Jf (.ListComp e [⟨.Name x h,b,f,0⟩] a pos) (some (.Name g i)) d.line X.env=pure true:=by rfl):gA X (.Assign [.Name g i] (.ListComp e [⟨.Name x h,b,f,0⟩] a pos) d) (pK (sE j js1 j0 js2 k l) (CI o i0)):=PS.impD (bR u c m C p v q r t n) (Zb C8 Q2)
end
theorem C5{P:Bz}{w:World}{K:PySem.W.Frag}{mg:Str->Option Value}{base:Heap}{k:Nat}{f:Addr}{a:Cu}{ps:List Str}(F:FnOk P w K mg base Ko k f a ps tP):FnOk P w K mg base Ko k f a ps Xj:=by
 refine F.imp λd H Q E h=>?_
 obtain ⟨c,rfl,h⟩:=h
 exact ⟨c,rfl,λp f b=>h p c f b⟩
def Wg:DF:=λa n R=>a=[]/\n<=100000/\∀r:Int,R (.int r) (n+1)
theorem Q9{P:Bz}{w:World}{K:PySem.W.Frag}{mg:Str->Option Value}{base:Heap}{k:Nat}{f:Addr}{i:Cu}{ps:List Str}(F:FnOk P w K mg base Ko k f i ps G7):FnOk P w K mg base Ko k f i ps (R9 K Wg):=by
 refine F.imp λC H Q E h=>?_
 obtain ⟨y,g,u,n,B,R,rfl,x,ok,G,⟨c,l,j,b,t,D⟩,q,m,p⟩:=h
 obtain ⟨rfl,I,v⟩:=m
 have a:u=[]:=by
  have:=Mk q
  rw[Ac] at this
  exact Nl.mp this
 subst a
 have e:g=[]:=by
  cases g with
  | nil=>rfl
  | cons _ _=>cases x
 subst e
 refine ⟨y,c,l,j,rfl,b,t,by omega,λr A o d s=>?_⟩
 exact p (.int r) (.int r) [] (n+1) o (by omega) (v r) (.int r) Do (λ_ z=>(nomatch z)) ⟨A,l+1,j,d,by omega,by omega⟩ s
theorem sO{ns:List Int}(r:Eg 60 ns):ns.length<=60:=Br (NdS.len_leI (r.1.imp λ{x y} h=>Int.ne_of_lt h) λe a=>L0 (r.2 e a).1 (r.2 e a).2) (by decide)
theorem K0{K:PySem.W.Frag}{H:Hp}{a:Addr}{ns:List Int}(h:H a=some (.tup (ns.map V.int)))(l:ns.length<=1000000):RdF K H (.ref a) (Bk ns) []:=.tup h (by rw[Ac]; exact gG l) (RdFs.ints ns)
theorem zR{K:PySem.W.Frag}{H:Hp}{n:Nat}{As:List Ent}{us:List V}{b:Ad}(f:As.map Ent.v=us.map some)(ok:∀e∈As,Il K H n e)(q:datas (As.map Ent.x)=some [b]):∃c d,us=[c]/\RdF K H c b d:=by
 have r:=Xc f q ok
 generalize As.flatMap Ent.F=G0 at r
 cases r with
 | cons a t =>
  cases t
  exact ⟨_,_,rfl,a⟩
def Jw{a:Type}(xs:List a)(k:Nat)(y:a):List a:=xs.take k++y::xs.drop k
def Q8:V->List V->Hp->VK->Prop:=λx b H Q=>∃(l:Addr) (a:List V) (k:Int) (y:V),x=.ref l/\b=[.int k,y]/\H l=some (.lst a)/\a.length<Bf/\0<=k/\k<=1000000/\Q .non (upd H l (.lst (Jw a k.toNat y)))
theorem qK{k:Int}(h0:0<=k)(h1:k<=1000000):Zq k=true:=by
 unfold Zq
 simp
 omega
theorem vX{a:Type}(xs:List a)(k:Nat)(y:a):Jw xs (min k xs.length) y=Jw xs k y:=by
 unfold Jw
 by_cases h:k<=xs.length
 ·rw[Qa h]
 ·rw[fY (by omega),Dr,List.drop_length,Dt (by omega),sR (by omega)]
theorem Rc{a:Type}(xs:List a)(k:Nat)(y:a):(Jw xs k y).length=xs.length+1:=by
 unfold Jw
 rw[Az,Bg,Dl,Iu]
 omega
section
variable{X:Cx}
theorem gY:HW X "list.insert" Q8:=by
 intro c s w H x vs v p Q I f g h
 obtain ⟨l,B,k,y,rfl,rfl,d,C,o,m,q⟩:=h
 cases f
 obtain ⟨A,b,rfl,i,j⟩:=g.two
 obtain ⟨t,rfl⟩:=i
 obtain ⟨z,a,n,r,u,e⟩:=I.lstM d
 refine fW bU ⟨_,e,rfl⟩ F.entry_list_insert (F.args_list_insert_3 _ _ _)
  (AutoSeq1.list_insert_list_int_val_1 l a.toArray n k t b (by simp [qK o m]) (by rw[Av]; omega)) ⟨e,?_⟩
 refine ⟨.non,_,I.lset (its':=Jw a k.toNat b) d e ?_ ?_ ?_,rfl,q⟩
 ·show (a.toArray.extract 0 (if k<0 then (k+(a.toArray.size:Int)).toNat else min k.toNat a.toArray.size)).push b++a.toArray.extract (if k<0 then (k+(a.toArray.size:Int)).toNat else min k.toNat a.toArray.size)=(Jw a k.toNat b).toArray
  rw[if_neg (by omega),Av,<- vX]
  unfold Jw
  simp
  exact Dt (by rw[Iu]; omega)
 ·exact (r.take _).append (.cons j (r.drop _))
 ·rw[Rc]
  omega
end
def insB(i:Nat)(z y:DV)(δ:DS)(D:DEnds):Prop:=match δ.sl[i]?,z,y with
 | some (.dat m (.list ds)),.dat _ (.int k),.dat _ e=>own1 m=true/\npk δ.sl=true/\imm e=true/\Cv ds=true/\ds.length<1000000/\0<=k/\k<=1000000/\D.nx ⟨δ.sl.set i (.dat m (.list (Jw ds k.toNat e))),δ.n⟩
 | _,_,_=>False
def jV(i:Nat)(d e:DE):DB:=λD c=>match c.sl[i]? with
 | some (.dat _ (.list _))=>d c λz a=>e a λy b=>insB i z y b D
 | _=>False
theorem RdFs.takeI{K:PySem.W.Frag}{H:Hp}{xs:List V}{b:List Ad}{F:List Addr}(h:RdFs K H xs b F)(c:Cv b=true)(k:Nat):RdFs K H (xs.take k) (b.take k) []:=by
 induction k generalizing xs b F with
 | zero=>exact .nil
 | succ k d =>
  cases h with
  | nil=>exact .nil
  | cons a t =>
   rw[Cv,Fn] at c
   obtain rfl:=a.imm c.1
   exact RdFs.cons (F:=[]) a (d t c.2)
theorem RdFs.dropI{K:PySem.W.Frag}{H:Hp}{xs:List V}{b:List Ad}{F:List Addr}(h:RdFs K H xs b F)(c:Cv b=true)(k:Nat):RdFs K H (xs.drop k) (b.drop k) []:=by
 induction k generalizing xs b F with
 | zero=>rw[Kf,Kf]; exact (h.imm c)▸h
 | succ k d =>
  cases h with
  | nil=>exact .nil
  | cons a t =>
   rw[Cv,Fn] at c
   exact d t c.2
section
variable{X:Cx}{o e f:Expr}{j g:DE}{d c pos:Pos}{i:Nat}
theorem xT(ho:PE X o (Lj i))(hk:Gq X f g)(he:Gq X e j)(q:Kh o "insert" X.env (eval o X.env)=eval o X.env:=by rfl)
  (t:((Hf c (Bl [f,e] X.env)).all (λx=>!x.1) && (Tc c (Mm [] X.env)).all (λx=>x.1.isSome)
   && decide (([f,e]:List Expr).length+([]:List Ku).length+(if ([]:List Ku).isEmpty then 0 else 1)<30))=true:=by rfl)
  (p:(d.endLine == c.line)=true:=by rfl) (C:Bl [f,e] X.env=(false,eval f X.env)::Bl [e] X.env:=by rfl) (hs:Bl [e] X.env=(false,eval e X.env)::Bl [] X.env:=by rfl) (l:(Hf c (Bl [e] X.env)).any (·.1)=false:=by rfl)
  (L:Jf (.Call (.Attribute o "insert" d) [f,e] [] c) none pos.line X.env=pure false:=by rfl) :
  gA X (.Expr (.Call (.Attribute o "insert" d) [f,e] [] c) pos) (jV i g j):=by
 refine PS.impD (Uw (iK PySem.F.plainAttrs_list bU F.type_list_insert gY ho (Hq hk (Hq he Mg hs) C) q t p C l) L) λD σ H h=>?_
 obtain ⟨H0,Y,S,T,δ,P,rfl,hS,hT,hA,J,k1,k2,k3,k4⟩:=h
 unfold jV at J
 split at J
 case h_2=>exact J.elim
 rename_i m0 N U
 obtain ⟨B,R,e3⟩:=Gk hS U
 have hm:B∈S:=Ao R
 obtain ⟨u,x,F⟩:=B
 have O:x=.dat m0 (.list N):=e3
 subst O
 obtain ⟨v,hv,rd,_⟩:=hA.ok _ (Af _ hm)
 obtain ⟨a,xs,G,rfl,ha,ra,eF,hz⟩:=rd.list_inv
 refine ⟨.ref a,by rw[Jc R]; exact congrArg some hv,.inl ⟨rfl,xs,Sx.of ha⟩,H0,Y,S,T,δ,_,rfl,hS,hA,J,λz Q w F1 S1 H1 e4 e5 M p1=>?_⟩
 refine ⟨H0,Y,S1,⟨some w,z,F1⟩::T,Q,_,e4,e5,M,p1,λy h0 Z F2 S2 H2 e6 e7 s I=>?_⟩
 unfold insB at I
 split at I
 ·rename_i m ds mz k my e' E
  obtain ⟨q1,q2,q3,q4,q5,q6,q7,q8⟩:=I
  obtain ⟨rfl,_⟩:=(s.told Hs).int_inv
  have r:=s.told mem_mid
  obtain rfl:=r.imm q3
  obtain ⟨b,A,G1,W,g2,K,g4,g5⟩:=bW (es:=Jw ds k.toNat e') e7 hT s.drop2 E q1 q2
  rw[e6,Jc R] at W
  have : some (V.ref b)=some (V.ref a):=(Bu W).symm.trans hv
  cases this
  have hl:=K.len
  obtain ⟨S3,h1,h2,h3⟩:=g5 (Jw A k.toNat Z) [] ((K.takeI q4 _).app (RdFs.cons (F:=[]) r (K.dropI q4 _))) (List.nil_sublist _) (by rw[Rc]; exact gG (by omega))
  refine ⟨a,A,k,Z,rfl,rfl,g2,Cc (by omega) (gG (n:=1000000) (Ak _)),q6,q7,?_⟩
  rw[<- e6,<- h1]
  exact k1 ⟨_,_⟩ S3 _ h2 h3 q8
 ·exact I.elim
end
def mmd:Md->Md->Md
 | .ow,.ow=>.ow
 | _,_=>.tp
section
variable{K:PySem.W.Frag}{d H:Hp}{X:Addr->Prop}{n:Nat}{E:List Ent}
theorem At.merge{v:Option V}{w:V}{m g:Md}{I es:List Ad}{e:Ad}{a:Addr}{F s G:List Addr}{ys:List V}(h:At K d X n (⟨v,.dat m (.list I),a::F⟩::⟨some w,.dat g e,s⟩::E) H)(L:own1 m=true)(hy:g≠.pk)(hv:v=some (.ref a))(np:∀e∈E,Kz e.x=false)(r:RdFs K H ys es G)(Q:∀c∈G,c∈F\/c∈s)(T:(F++s).Nodup->G.Nodup)(hz:es.length<=Bf):At K d X n (⟨v,.dat (mmd m g) (.list es),a::G⟩::E) (upd H a (.lst ys)):=by
 obtain ⟨w1,e1,rd,Y,ht⟩:=h.ok _ Aa
 obtain ⟨w2,h3,h4,O,h0⟩:=h.ok _ (Ae _ Aa)
 obtain ⟨b,xs,G0,e2,ha,ra,eF,_⟩:=rd.list_inv
 have P:a::F=b::G0:=eF
 cases P
 have A:=Ay.mp h.sep
 have j:=Ay.mp A.2
 have D:=A.1 _ Aa
 have t:Kz (DV.dat g e)=false:=by cases g <;> first | rfl | exact absurd rfl hy
 have C:Kz (DV.dat m (.list I))=false:=by cases m <;> first | rfl | cases L
 have R:a∉F:=by
  cases m with
  | ow=>exact (Bp.mp (Y rfl)).1
  | tp=>exact ht rfl a F rfl
  | sh=>cases L
  | pk=>cases L
 have B:a∈cells ⟨v,.dat m (.list I),a::F⟩:=by
  cases m <;> first | exact Aa | cases L
 have U:a∉s:=D.1 (.inl t) a B
 have p:a∉G:=λz=>(Q a z).elim R U
 have kp:∀{N:List Addr},a∉N->Kp N H (upd H a (.lst ys)):=λ{N} hF b o q z=>by
  have : b≠a:=by
   rintro rfl
   rw[ha] at q
   cases q
   rcases z with z | z
   ·exact hF z
   ·rcases z with ⟨_,z⟩ | ⟨_,_,z⟩ <;> cases z
  rw[Ei this]
  exact q
 have M:d a=none:=by
  rcases h.new _ Aa a B with z | z
  ·exact z
  ·cases z.2
 have Z:∀c∈cells ⟨v,.dat (mmd m g) (.list es),a::G⟩,c∈cells ⟨v,.dat m (.list I),a::F⟩\/c∈cells ⟨some w,.dat g e,s⟩:=λc i=>by
  by_cases J:m=.ow/\g=.ow
  ·obtain ⟨rfl,rfl⟩:=J
   rcases Aj.mp (show c∈a::G from i) with z | z
   ·rw[z]; exact .inl B
   ·rcases Q c z with z | z
    ·exact .inl (Ae _ z)
    ·exact .inr z
  ·have S:c∈[a]:=by
    cases m <;> cases g <;> first | exact i | exact absurd ⟨rfl,rfl⟩ J
   rw[Ab.mp S]; exact .inl B
 refine ⟨λf hf=>?_,?_,λf hf=>?_,λb o nx q=>?_,λb o q=>?_,λb hb=>?_⟩
 ·rcases Aj.mp hf with rfl | hf
  ·refine ⟨.ref a,hv,.lst Dq hz (r.kp (kp p)),λz=>?_,λz c l e=>?_⟩
   ·have J:m=.ow/\g=.ow:=by
     cases m <;> cases g <;> first | exact ⟨rfl,rfl⟩ | cases z
    obtain ⟨rfl,rfl⟩:=J
    refine Bp.mpr ⟨p,T (Dh.mpr ⟨(Bp.mp (Y rfl)).2,O rfl,λx hx y W e=>?_⟩)⟩
    subst e
    exact D.1 (.inl t) x (Ae _ hx) W
   ·cases e
    exact p
  ·have u:=Ae (⟨some w,.dat g e,s⟩ : Ent) hf
   exact (h.ok f (Ae _ u)).kp (kp ((A.1 f u).1 (.inl (np f hf)) a B)) (Ak _)
 ·refine Ay.mpr ⟨λf hf=>?_,j.2⟩
  have u:=Ae (⟨some w,.dat g e,s⟩ : Ent) hf
  refine ⟨λhq c i=>?_,λhq c i z=>?_⟩
  ·rcases Z c i with z | z
   ·exact (A.1 f u).1 (.inl (np f hf)) c z
   ·exact (j.1 f hf).1 (.inl (np f hf)) c z
  ·rcases Aj.mp z with z | z
   ·exact (A.1 f u).2 (.inl C) c i (by rw[z]; exact Aa)
   ·rcases Q c z with z | z
    ·exact (A.1 f u).2 (.inl C) c i (Ae _ z)
    ·exact (j.1 f hf).2 (.inl t) c i z
 ·rcases Aj.mp hf with rfl | hf
  ·intro c i
   rcases Z c i with z | z
   ·rcases h.new _ Aa c z with z | z
    ·exact .inl z
    ·cases z.2
   ·rcases h.new _ (Ae _ Aa) c z with z | z
    ·exact .inl z
    ·cases z.2
  ·exact h.new f (Ae _ (Ae _ hf))
 ·rw[Ei (Hn q M)]
  exact h.same b o nx q
 ·rw[Ei (Hn q M)]
  exact h.dom b o q
 ·obtain ⟨z,c,k,f,h1,h2⟩:=h.xd b hb
  refine ⟨z,c,k,f,(Ei ?_).trans h1,h2⟩
  rintro rfl
  exact z M
end
theorem qT{K:PySem.W.Frag}{A H:Hp}{X:Addr->Prop}{S T:List Ent}{δ:DS}{i:Nat}{m g:Md}{b:List Ad}{e:Ad}{w:V}{h:List Addr}(l:Sl S δ)(E:∀e∈T,Kz e.x=false)(s:At K A X δ.n (S++⟨some w,.dat g e,h⟩::T) H)(O:δ.sl[i]? = some (.dat m (.list b)))(I:own1 m=true)(Q:g≠.pk)(np:npk δ.sl=true)(hl:b.length<1000000):∃a xs,(vs S)[i]? = some (some (.ref a))/\H a=some (.lst xs)/\xs.length=b.length/\∃q,vs q=vs S/\Sl q ⟨δ.sl.set i (.dat (mmd m g) (.list (b++[e]))),δ.n⟩/\At K A X δ.n (q++T) (upd H a (.lst (xs++[w]))):=by
 obtain ⟨k,d,U⟩:=Gk l O
 have J:k∈S:=Ao d
 obtain ⟨u,x,F⟩:=k
 have o:x=.dat m (.list b):=U
 subst o
 obtain ⟨v,C,rd,_⟩:=s.ok _ (Af _ J)
 obtain ⟨a,xs,G,rfl,N,B,P,Y⟩:=rd.list_inv
 have p:F=a::G:=P
 subst p
 have t:=s.told mem_mid
 refine ⟨a,xs,by rw[Jc d]; exact congrArg some C,N,B.len,?_⟩
 have R:=Tj l np
 have L:(S++⟨some w,.dat g e,h⟩::T).Perm (⟨u,.dat m (.list b),a::G⟩::⟨some w,.dat g e,h⟩::(S.eraseIdx i++T)):=by
  refine ((Gn d).append_right _).trans ?_
  rw[Eu]
  exact Kx _ Du
 have M:=(s.perm L).merge (es:=b++[e]) (ys:=xs++[w]) (G:=G++h) I Q C (λf hf=>?_) (B.snoc t) (λc D=>Ai.mp D) (λz=>z) (by rw[Az]; exact gG (by simp; omega))
 ·refine ⟨S.set i ⟨u,.dat (mmd m g) (.list (b++[e])),a::(G++h)⟩,?_,?_,M.perm ?_⟩
  ·unfold vs
   rw[Hv]
   apply Hk
   intro j
   rw[Ey]
   split
   ·rename_i r
    subst r
    rw[Bo,d]
    split
    ·rfl
    ·rename_i y
     rw[Ac] at y
     exact absurd (An.mp d).1 y
   ·rfl
  ·unfold Sl at l ⊢
   rw[Hv,l]
  ·exact ((Nu d).append_right T).symm
 ·rcases Ai.mp hf with hf | hf
  ·exact R f ((El S i).subset hf)
  ·exact E f hf
def appOB(i:Nat)(y:DV)(δ:DS)(D:DEnds):Prop:=match δ.sl[i]?,y with
 | some (.dat m (.list ds)),.dat my e=>own1 m=true/\npk δ.sl=true/\my≠.pk/\ds.length<1000000/\D.nx ⟨δ.sl.set i (.dat (mmd m my) (.list (ds++[e]))),δ.n⟩
 | _,_=>False
def cT(i:Nat)(c:DE):DB:=λD b=>match b.sl[i]? with
 | some (.dat _ (.list _))=>c b λy a=>appOB i y a D
 | _=>False
section
variable{X:Cx}{o e:Expr}{f:DE}{d c pos:Pos}{i:Nat}
theorem Sf(W:PE X o (Lj i))(he:Gq X e f)(j:Kh o "append" X.env (eval o X.env)=eval o X.env:=by rfl)
  (p:((Hf c (Bl [e] X.env)).all (λx=>!x.1) && (Tc c (Mm [] X.env)).all (λx=>x.1.isSome)
   && decide (([e]:List Expr).length+([]:List Ku).length+(if ([]:List Ku).isEmpty then 0 else 1)<30))=true:=by rfl)
  (k:(d.endLine == c.line)=true:=by rfl) (L:Bl [e] X.env=(false,eval e X.env)::Bl [] X.env:=by rfl) (g:(Hf c (Bl [] X.env)).any (·.1)=false:=by rfl)
  (A:Jf (.Call (.Attribute o "append" d) [e] [] c) none pos.line X.env=pure false:=by rfl) :
  gA X (.Expr (.Call (.Attribute o "append" d) [e] [] c) pos) (cT i f):=by
 refine PS.impD (Uw (iK PySem.F.plainAttrs_list PySem.F.slot_list_append PySem.F.type_list_append Us W (Hq he Mg L) j p k L g) A) λD σ H h=>?_
 obtain ⟨H0,Y,S,T,δ,P,rfl,M,Q,O,s,k1,k2,k3,k4⟩:=h
 unfold cT at s
 split at s
 case h_2=>exact s.elim
 rename_i m0 z C
 obtain ⟨q,B,e3⟩:=Gk M C
 have Z:q∈S:=Ao B
 obtain ⟨u,x,F⟩:=q
 have t:x=.dat m0 (.list z):=e3
 subst t
 obtain ⟨v,N,rd,_⟩:=O.ok _ (Af _ Z)
 obtain ⟨a,xs,G,rfl,ha,ra,eF,hz⟩:=rd.list_inv
 refine ⟨.ref a,by rw[Jc B]; exact congrArg some N,.inl ⟨rfl,xs,Sx.of ha⟩,H0,Y,S,T,δ,_,rfl,M,O,s,λy h0 w F1 S1 H1 J e5 E l=>?_⟩
 unfold appOB at l
 split at l
 ·rename_i m ds my e' r
  obtain ⟨l,R,p3,p4,U⟩:=l
  obtain ⟨b,I,K,g2,g3,S2,h1,h2,h3⟩:=qT e5 Q E r l p3 R p4
  rw[J,Jc B] at K
  have : some (V.ref b)=some (V.ref a):=(Bu K).symm.trans N
  cases this
  refine ⟨a,I,w,rfl,rfl,g2,Cc (by omega) (gG (n:=1000000) (Ak _)),?_⟩
  rw[<- J,<- h1]
  exact k1 ⟨_,_⟩ S2 _ h2 h3 U
 ·exact l.elim
end
end DL
namespace Nd
open PySem PySem.Spec PyProof.Rows L2
end Nd
namespace DL
open PySem PySem.Spec PyProof.Rows L2 Nd
def KB(n:Nat)(b:x9):DG:=λx a P=>match x with
 | .dat m (.list ds)=>ds.length=n/\b (ds.map λd=>.dat (Ow m) d) a P
 | _=>False
def Tq:D2:=λx y P=>match x,y with
 | .dat m (.list ds),.dat m' (.list es)=>m≠.pk/\m'≠.pk/\ds.length+es.length<=1000000/\P (.dat .tp (.list (ds++es)))
 | _,_=>False
theorem aA{m:Md}{d:Ad}(h:m≠.pk):Kz (.dat m d)=false:=by cases m <;> first | rfl | exact absurd rfl h
theorem M4{K:PySem.W.Frag}:uP K CM Tq:=by
 intro Z X n S T x y v w F G H Q P g j k
 unfold Tq at j
 split at j
 ·rename_i m E Y R
  obtain ⟨V,U,hz,p⟩:=j
  obtain ⟨b,A,o,rfl,O,s,rfl,_⟩:=(g.told mem_mid).list_inv
  obtain ⟨a,u,D,rfl,N,B,rfl,_⟩:=(g.told Hs).list_inv
  have l1:=B.len
  have l2:=s.len
  refine ⟨a,b,u,A,rfl,rfl,N,O,gG (by omega),λq h=>?_⟩
  have r:=Fs h (.lst (u++A))
  have L:=Ay.mp g.mid.sep
  have J:=Ay.mp g.drop.mid.sep
  have t:∀f∈S++_::_::T,q∉f.F:=g.free h
  have I:q∉o:=λz=>t _ mem_mid (Ae _ z)
  have M:q∉D:=λz=>t _ Hs (Ae _ z)
  have C:=g.drop2.free h
  refine k _ _ _ _ (((g.drop2.grow (n':=n) r (Ak _)).push (e:=⟨some (.ref q),.dat .tp (.list (E++R)),q::(D++o)⟩) ⟨_,rfl,.lst Dq (by rw[Az]; exact gG (by omega)) ((B.app s).kp (Kp.of r)),λz=>(nomatch z),λ_ a l e=>?_⟩ (λf i=>⟨λ_ c d z=>?_,λ_ c d z=>?_⟩) λc d=>?_).tomid) p
  ·cases e
   exact λz=>(Ai.mp z).elim M I
  ·rw[Ab.mp d] at z
   exact C f i z
  ·rcases Aj.mp z with z | z
   ·rw[z] at d
    exact C f i (Fv _ _ d)
   ·rcases Ai.mp z with z | z
    ·exact (J.1 f i).2 (.inl (aA V)) c d (Ae _ z)
    ·exact (L.1 f ((Cs S).append (Cq _ T) |>.subset i)).2 (.inl (aA U)) c d (Ae _ z)
  ·rw[Ab.mp d]
   exact .inl (g.new0 h)
 ·exact j.elim
theorem Uq{X:Cx}{a b:Expr}{d c:DE}{pos:Pos}(e:Gq X a d)(hb:Gq X b c):Gq X (.BinOp a .Add b pos) (aN Tq d c):=Xk qR M4 e hb
end DL
namespace Nd
open PySem PySem.Spec PyProof.Rows
end Nd
namespace L2
open PySem PySem.Spec PyProof.Rows
structure M1(X:Cx)(o:Expr)(m:Str)(apos:Pos)(e:Expr)(cpos:Pos):Prop where
 base:Kh o m X.env (eval o X.env)=eval o X.env
 few:((Hf cpos (Bl [e] X.env)).all (λx=>!x.1) && (Tc cpos (Mm [] X.env)).all (λx=>x.1.isSome)
  && decide (([e]:List Expr).length+([]:List Ku).length+(if ([]:List Ku).isEmpty then 0 else 1)<30))=true
 line:(apos.endLine == cpos.line)=true
 trees:Hf cpos (Bl [e] X.env)=[(false,eval e X.env)]
structure M2(X:Cx)(o:Expr)(m:Str)(apos:Pos)(e f:Expr)(cpos:Pos):Prop where
 base:Kh o m X.env (eval o X.env)=eval o X.env
 few:((Hf cpos (Bl [e,f] X.env)).all (λx=>!x.1) && (Tc cpos (Mm [] X.env)).all (λx=>x.1.isSome)
  && decide (([e,f]:List Expr).length+([]:List Ku).length+(if ([]:List Ku).isEmpty then 0 else 1)<30))=true
 line:(apos.endLine == cpos.line)=true
 trees:Hf cpos (Bl [e,f] X.env)=[(false,eval e X.env),(false,eval f X.env)]
end L2
namespace Nd
open PySem PySem.Spec PyProof.Rows L2
end Nd
namespace DL
open PySem PySem.Spec PyProof.Rows L2 Nd
def IT(a:List (List Int×Ad))(w:List Int):Option Ad:=(a.find? λp=>decide (p.1=w)).map (·.2)
def JD(a:List (List Int×Ad))(w:List Int)(d:Ad):List (List Int×Ad) :=
 if (a.any λp=>decide (p.1=w))=true then a.map (λp=>if p.1=w then (p.1,d) else p) else a++[(w,d)]
theorem uK(w:List Int):(zJ w).map kV=w.map V.int:=by
 unfold zJ
 rw[Dz]
 rfl
def JS:D2:=λx y P=>match x,y with
 | .dat _ (.dict X),.dat _ k=>∃a w d,X=EC a/\k=Bk w/\IT a w=some d/\P (.dat .ow d)
 | _,_=>False
section
variable{K:PySem.W.Frag}
theorem Q0{H:Hp}{v:V}{w:List Int}{F:List Addr}(r:RdF K H v (Bk w) F):∃b,v=.ref b/\H b=some (.tup ((zJ w).map kV)):=by
 obtain ⟨b,d,rfl,a,c,_⟩:=r.tup_inv
 obtain ⟨rfl,_⟩:=c.ints_inv
 exact ⟨b,rfl,by rw[uK]; exact a⟩
end
def JW(i:Nat)(y z:DV)(δ:DS)(D:DEnds):Prop:=match δ.sl[i]?,y,z with
 | some (.dat .ow (.dict X)),.dat _ e,.dat _ k=>npk δ.sl=true/\imm e=true/\∃a w,X=EC a/\k=Bk w/\a.length<1000000/\D.nx ⟨δ.sl.set i (.dat .ow (.dict (EC (JD a w e)))),δ.n⟩
 | _,_,_=>False
def LH(i:Nat)(z:DV)(δ:DS)(D:DEnds):Prop:=match δ.sl[i]?,z with
 | some (.dat m (.list ds)),.dat _ (.int k)=>own1 m=true/\npk δ.sl=true/\Cv ds=true/\0<=k/\k<ds.length/\k<=1000000/\D.nx ⟨δ.sl.set i (.dat m (.list (ds.eraseIdx k.toNat))),δ.n⟩
 | _,_=>False
def isLst:Option DV->Bool
 | some (.dat _ (.list _))=>true
 | _=>false
theorem RdFs.erase{K:PySem.W.Frag}{H:Hp}{xs:List V}{a:List Ad}(j:Nat)(r:RdFs K H xs a []):RdFs K H (xs.eraseIdx j) (a.eraseIdx j) []:=by
 rw[bT,bT]
 obtain ⟨f,b,d⟩:=r.take j
 obtain ⟨g,c,e⟩:=r.drop (j+1)
 obtain rfl:=fS.mp d
 obtain rfl:=fS.mp e
 exact b.app c
def U4:V->Int
 | .int i=>i
 | _=>0
def M6(H:Hp)(r:Addr):List Int:=match H r with
 | some (.tup xs)=>xs.map U4
 | _=>[]
theorem AZ{H:Hp}{r:Addr}{w:List Int}(h:H r=some (.tup (w.map V.int))):M6 H r=w:=by
 unfold M6
 rw[h]
 show (w.map V.int).map U4=w
 rw[Dz]
 exact Iq w
section
variable{K:PySem.W.Frag}{H:Hp}
theorem dQ:∀{ws:List (List Int)} {xs:List V} {d:List Ad} {G:List Addr},RdFs K H xs d G->d=ws.map Bk->∃rs:List Addr,xs=rs.map V.ref/\ws=rs.map (M6 H)/\G=[]/\(∀r∈rs,H r=some (.tup ((M6 H r).map V.int)))/\∀r∈rs,RdF K H (.ref r) (Bk (M6 H r)) []
 | [],_,_,_,h,e=>by
  subst e
  cases h
  exact ⟨[],rfl,rfl,rfl,(λ_ z=>nomatch z),(λ_ z=>nomatch z)⟩
 | w::ws,_,_,_,h,e=>by
  cases h with
  | nil=>cases e
  | cons a t =>
   obtain ⟨g,j⟩:=Oc e
   obtain ⟨rs,rfl,rfl,rfl,f,i⟩:=dQ t j
   subst g
   obtain ⟨r,rfl,b⟩:=Q0 a
   rw[uK] at b
   have c:=AZ b
   obtain rfl:=a.imm (show imm (Bk w)=true from Qi w)
   refine ⟨r::rs,rfl,by rw[Aw,c],rfl,λx hx=>?_,λx hx=>?_⟩
   ·rcases Aj.mp hx with rfl | hx
    ·rw[c]; exact b
    ·exact f x hx
   ·rcases Aj.mp hx with rfl | hx
    ·rw[c]; exact a
    ·exact i x hx
theorem cB:∀{rs:List Addr},(∀r∈rs,RdF K H (.ref r) (Bk (M6 H r)) [])->RdFs K H (rs.map V.ref) ((rs.map (M6 H)).map Bk) []
 | [],_=>.nil
 | r::rs,h=>RdFs.cons (F:=[]) (G:=[]) (h r (Aa ..)) (cB λx a=>h x (Ae _ a))
theorem cO:∀L:List (List Int),Cv (L.map Bk)=true
 | []=>rfl
 | w::L=>by
  show (imm (Bk w) && Cv (L.map Bk))=true
  rw[cO L,show imm (Bk w)=true from Qi w]; rfl
def lE:DC:=λb P=>match b with
 | [.dat _ (.list ds)]=>∃a:List (List Int),ds=a.map Bk/\∀L:List (List Int),L.Perm a->L.Pairwise (λx y=>HT.lexLt y x=false)->P (.dat .ow (.list (L.map Bk)))
 | _=>False
theorem zC:Sz K (Ts.rSortI K) lE:=by
 intro A X n S T x w H Q P p c b k
 unfold lE at b
 split at b
 ·rename_i o
  obtain ⟨v,F,rfl,c⟩:=Jo p c o
  obtain ⟨y,rfl,h⟩:=b
  obtain ⟨a,z,G,rfl,i,l,rfl,u⟩:=(c.told mem_mid).list_inv
  obtain ⟨s,rfl,rfl,rfl,m,t⟩:=dQ l rfl
  refine ⟨a,s,M6 H,rfl,Sx.of i,λr e=>Vm.of (m r e),λq f g d j=>?_⟩
  refine k _ _ _ _ (c.drop.newI (cB λr e=>t r (d.mem_iff.mp e)) (cO _) (by rw[Ac,Ac,d.length_eq]; simpa using u) g .ow) (h _ (d.map _) (Rv.mpr j))
 ·exact b.elim
end
end DL
namespace Nd
open PySem PySem.Spec PyProof.Rows L2
end Nd
namespace DL
open PySem PySem.Spec PyProof.Rows L2 Nd
end DL
namespace Nd
open PySem PySem.Spec PySem.Calls PyProof.Rows PyProof.V L2
end Nd
namespace DL
open PySem PySem.Spec PyProof.Rows L2 Nd
def KW(K:PySem.W.Frag)(h:PF):Sp:=λg H Q _=>∃(b:List Ent) (n:Nat) (f:List Ad) (R:Ad->Prop) (C:List Addr),b.map Ent.v=g.map some/\(∀e∈b,Il K H n e)/\datas (b.map Ent.x)=some f/\h f R/\(∀a∈C,H a≠none/\∀e∈b,a∉e.F) /\
 ∀v d F c,R d->RdF K c v d F->(∀a∈F,a∉C)->Pq H c->Q v c
def GO(R:Ad->Prop):DEnds where
 nx:=λ_=>R .none
 rt:=λx _=>∃m d,x=.dat m d/\m≠.pk/\R d
section
variable{K:PySem.W.Frag}{b H H':Hp}{X:Addr->Prop}{n:Nat}{E S T:List Ent}
theorem At.pushS(h:At K b X n E H){v:V}{d:Ad}{F:List Addr}(r:RdF K H v d F)(e:∀f∈E,∀a∈cells f,a∉F):At K b X n (⟨some v,.dat .sh d,F⟩::E) H :=
 h.push ⟨v,rfl,r,λz=>(nomatch z),λz=>(nomatch z)⟩ (λf g=>⟨λ_ a c=>(nomatch c),λ_ a c=>e f g a c⟩) λa c=>(nomatch c)
end
section
variable{P:Bz}{w:World}{K:PySem.W.Frag}{mg:Str->Option Value}{base:Heap}
theorem GF{As:List Ent}{k:Nat}:∀e∈As.map eU++Io k,∀a∈e.F,∃f∈As,a∈f.F:=λe he a b=>by
 rcases Ai.mp he with he | he
 ·obtain ⟨f,c,rfl⟩:=Bs.mp he
  refine ⟨f,c,?_⟩
  obtain ⟨v,x,F⟩:=f
  cases x <;> exact b
 ·rw[(Kr.mp he).2] at b
  exact nomatch b
theorem FA{x j:Str}{st:Stmt}{f:Addr}{fd:Cu}{N ps:List Str}{k:Nat}{pf:PF}{Z:DB}(F:Fun K x j st f fd)(S:FnScope N ps (Cg st))(hb:∀(l:Value) (A:Dm) (outer:List Env) (s:Ap) (H:Hp) (E:XK),Room k (A.deeper (envOfC j (Cg st) s.heap.objs.size f l))->aS (Pj Ko P w K mg base N j (Cg st) f l A outer s H E).nox (Kv st) Z)(h:∀t R,pf t R->t.length=ps.length/\Z (GO R) ⟨args0 t (N.length - ps.length),0⟩):FnOk P w K mg base Ko (k+1) f fd ps (KW K pf):=by
 refine F.ok S (λvs H Q E z=>?_) λl A outer s H us Q E hr z=>?_
 ·obtain ⟨As,n,t,R,C,U,ok,q,V,_⟩:=z
  have l1:=(h t R V).1
  have Y:=Mk q
  rw[Ac] at Y
  have W:=congrArg Ek U
  rw[Ac,Ac] at W
  omega
 ·obtain ⟨As,n,t,R,C,U,ok,q,V,hG,k1⟩:=z
  obtain ⟨l1,hd⟩:=h t R V
  have Y:=Mk q
  rw[Ac] at Y
  have W:=congrArg Ek U
  rw[Ac,Ac] at W
  let L:Hp:=λa=>open Classical in if a∈C then none else H a
  have G:∀{a},a∈C->L a=none:=λz=>if_pos z
  have I:∀{a},a∉C->L a=H a:=λz=>if_neg z
  -- what holds at the end
  have B:∀{E':List Ent} {n':Nat} {y:Hp},At K L (λ_=>False) n' (E'++[⟨none,.grd H,C⟩]) y->Pq H y:=λ{E' n' y} J b o e=>by
   by_cases hb:b∈C
   ·obtain ⟨o',g1,g2⟩:=J.ok _ (Ag _ Aa) b hb
    rw[e] at g1
    cases g1
    exact g2
   ·exact J.same b o (λz=>z) (by rw[I hb]; exact e)
  refine ⟨_,hb l A outer s H E hr,L,λ_=>False,As.map eU++Io (N.length - ps.length),[⟨none,.grd H,C⟩],⟨args0 t (N.length - ps.length),0⟩,GO R,?_,?_,λe z=>?_,?_,hd,λT S' y e1 J p=>?_,λx T v F' S' y e1 J p=>?_,λ_ _ _ _ _ p=>p.elim,λ_ _ _ _ _ p=>p.elim⟩
  ·unfold vs L2.start Io
   rw[Bc,BH,U,Of,show us.length=ps.length by omega]
  ·unfold Sl args0 Io
   rw[Bc,Xa q,Of]
  ·rw[Ab.mp z]; rfl
  ·have O:=jY q (N.length - ps.length)
   have hF:=GF (As:=As) (k:=N.length - ps.length)
   have gF:∀e∈As.map eU++Io (N.length - ps.length),∀a∈C,a∉e.F:=λe he a g z=>by
    obtain ⟨f,hf,zf⟩:=hF e he a z
    exact (hG _ g).2 f hf zf
   refine ⟨λe he=>?_,Bi.mpr ⟨Ri λa g b D=>⟨λX c i=>?_,λX c i=>?_⟩,Cn _ _,λa g b D=>⟨λX c i=>?_,λX c i=>?_⟩⟩,λe he a g=>?_,λb o _ e=>?_,λb o e=>?_,λb hb=>hb.elim⟩
   ·rcases Ai.mp he with he | he
    ·have:=u7 q ok (N.length - ps.length) e he
     obtain ⟨v,x,F⟩:=e
     cases x with
     | drw=>exact absurd (O _ he).2 (by show ¬ (true=false); decide)
     | _=>exact this
    ·rw[Ab.mp he]
     intro a g
     have:=(hG _ g).1
     cases q:H a with
     | none=>exact absurd q this
     | some o=>exact ⟨o,by first | rfl | exact q,by first | rfl | exact q⟩
   ·rw[(O a g).1] at i; cases i
   ·rw[(O b D).1] at i; cases i
   ·rw[(O a g).1] at i; cases i
   ·rw[Ab.mp D] at i
    exact gF a g c i
   ·rcases Ai.mp he with he | he
    ·rw[(O e he).1] at g; cases g
    ·rw[Ab.mp he] at g
     exact .inl (G g)
   ·by_cases hb:b∈C
    ·rw[G hb] at e; cases e
    ·rw[I hb] at e; exact e
   ·by_cases hb:b∈C
    ·rw[G hb] at e; cases e
    ·rw[I hb] at e; exact ⟨o,e⟩
  ·exact k1 .non .none [] y p .non (λ_ z=>(nomatch z)) (B J)
  ·obtain ⟨m,d,rfl,hm,r⟩:=p
   obtain ⟨u,e2,rd,_⟩:=J.ok _ mem_mid
   cases e2
   have M:At K L (λ_=>False) T.n ((S'++[⟨some v,.dat m d,F'⟩])++[⟨none,.grd H,C⟩]) y:=by rw[Bw]; exact J
   refine k1 v d F' y r rd (λa g=>?_) (B M)
   have sp:=(Bi.mp M.sep).2.2 _ (Ag _ Aa) _ Aa
   exact λz=>sp.2 (.inr rfl) a z g
end
theorem oR:∀{As:List Ent},noPk (As.map Ent.x)=true->∀e∈As,Kz e.x=false
 | [],_,e,he=>nomatch he
 | ⟨v,x,F⟩::As,h,e,he=>by
  rw[Aw] at h
  have a:Kz x=false/\noPk (As.map Ent.x)=true:=by
   cases x with
   | dat m d=>cases m <;> first | exact ⟨rfl,h⟩ | (simp [noPk] at h)
   | _=>exact ⟨rfl,by simpa [noPk] using h⟩
  rcases Aj.mp he with rfl | he
  ·exact a.1
  ·exact oR a.2 e he
def kG(K:PySem.W.Frag)(o:DF):Sp:=λm H Q _=>∃(b:Addr) (l:List V) (g:List Ent) (n:Nat) (j:List Ad) (R:Ad->Nat->Prop) (C:List Addr),m=.ref b::l/\g.map Ent.v=l.map some/\(∀e∈g,Il K H n e)/\(∀e∈g,b∉e.F)/\(∃c k f,Vl H b c k f/\0<=k/\k<=(n:Int))/\datas (g.map Ent.x)=some j/\o j n R /\
 b∉C/\(∀a∈C,H a≠none/\∀e∈g,a∉e.F) /\
 ∀v d F i h,n<=i->R d i->RdF K h v d F->(∀a∈F,a∉C)->Vs b H h->(∃c k f,Vl h b c k f/\0<=k/\k<=(i:Int))->Q v h
def retWT(n:Nat)(R:Ad->Nat->Prop):DEnds where
 nx:=λa=>n<=a.n/\R .none a.n
 rt:=λx a=>n<=a.n/\∃m d,x=.dat m d/\m≠.pk/\R d a.n
section
variable{P:Bz}{w:World}{K:PySem.W.Frag}{mg:Str->Option Value}{base:Heap}
theorem eM{x l:Str}{st:Stmt}{f:Addr}{fd:Cu}{N ps:List Str}{D:Str}{k:Nat}{df:DF}{db:DB}(F:Fun K x l st f fd)(S:FnScope N (D::ps) (Cg st))(hb:∀(y:Value) (A:Dm) (outer:List Env) (s:Ap) (H:Hp) (E:XK),Room k (A.deeper (envOfC l (Cg st) s.heap.objs.size f y))->aS (Pj Ko P w K mg base N l (Cg st) f y A outer s H E).nox (Kv st) db)(h:∀J n R,df J n R->J.length=ps.length/\db (retWT n R) ⟨.drw::args0 J (N.length - (D::ps).length),n⟩):FnOk P w K mg base Ko (k+1) f fd (D::ps) (kG K df):=by
 refine F.ok S (λvs H Q E z=>?_) λy A outer s H us Q E hr z=>?_
 ·obtain ⟨j,ws,As,n,J,R,C,rfl,eu,ok,nd,t,q,hp,_⟩:=z
  have l1:=(h J n R hp).1
  have l2:=Mk q
  rw[Ac] at l2
  have l3:=congrArg Ek eu
  rw[Ac,Ac] at l3
  rw[Bg,Bg]
  omega
 ·obtain ⟨j,ws,As,n,J,R,C,rfl,eu,ok,h0,t,q,hp,hC,hG,k1⟩:=z
  obtain ⟨l1,hd⟩:=h J n R hp
  have l2:=Mk q
  rw[Ac] at l2
  have l3:=congrArg Ek eu
  rw[Ac,Ac] at l3
  let U:Hp:=λa=>open Classical in if a∈C then none else H a
  have T:∀{a},a∈C->U a=none:=λz=>if_pos z
  have B:∀{a},a∉C->U a=H a:=λz=>if_neg z
  have M:∀{E':List Ent} {n':Nat} {L:Hp},At K U (·=j) n' (E'++[⟨none,.grd H,C⟩]) L->Vs j H L:=λ{E' n' L} G b o nb e=>by
   by_cases hb:b∈C
   ·obtain ⟨o',g1,g2⟩:=G.ok _ (Ag _ Aa) b hb
    rw[e] at g1
    cases g1
    exact g2
   ·exact G.same b o nb (by rw[B hb]; exact e)
  refine ⟨_,hb y A outer s H E hr,U,(·=j),⟨some (.ref j),.drw,[j]⟩::(As.map eU++Io (N.length - (D::ps).length)),[⟨none,.grd H,C⟩],⟨.drw::args0 J (N.length - (D::ps).length),n⟩,retWT n R,?_,?_,λe z=>?_,?_,hd,λI S' L e1 G p=>?_,λx I v F' S' L e1 G p=>?_,λ_ _ _ _ _ p=>p.elim,λ_ _ _ _ _ p=>p.elim⟩
  ·unfold vs L2.start Io
   rw[Aw,Bc,BH,eu,Of,Bg,Bg,show ws.length=ps.length by omega]
   rfl
  ·unfold Sl args0 Io
   rw[Aw,Bc,Xa q,Of]
  ·rw[Ab.mp z]; rfl
  ·have Z:=jY q (N.length - (D::ps).length)
   have hF:=GF (As:=As) (k:=N.length - (D::ps).length)
   have gF:∀e∈As.map eU++Io (N.length - (D::ps).length),∀a∈C,a∉e.F:=λe he a i z=>by
    obtain ⟨f,hf,zf⟩:=hF e he a z
    exact (hG a i).2 f hf zf
   have V:∀e∈As.map eU++Io (N.length - (D::ps).length),j∉e.F:=λe he z=>by
    obtain ⟨f,hf,zf⟩:=hF e he j z
    exact h0 f hf zf
   have W:U j≠none:=by
    rw[B hC]
    obtain ⟨c,kk,fl,X,z2⟩:=t
    exact λz=>(by rw[show H j=some _ from X] at z; cases z)
   refine ⟨λe he=>?_,Ay.mpr ⟨λb hb'=>?_,Bi.mpr ⟨Ri λa i b hb'=>⟨λO c g=>?_,λO c g=>?_⟩,Cn _ _,λa i b hb'=>⟨λO c g=>?_,λO c g=>?_⟩⟩⟩,λe he a i=>?_,λb o _ e=>?_,λb o e=>?_,λb hb=>?_⟩
   ·rcases Aj.mp he with rfl | he
    ·obtain ⟨c,kk,fl,X,z2,z3⟩:=t
     exact ⟨j,c,kk,fl,rfl,rfl,X,z2,z3⟩
    ·rcases Ai.mp he with he | he
     ·exact u7 q ok _ e he
     ·rw[Ab.mp he]
      intro a i
      have:=(hG a i).1
      cases q:H a with
      | none=>exact absurd q this
      | some o=>exact ⟨o,by first | rfl | exact q,by first | rfl | exact q⟩
   ·rcases Ai.mp hb' with hb' | hb'
    ·refine ⟨λO c g=>?_,λO c g=>?_⟩
     ·rw[Ab.mp g]; exact V b hb'
     ·rw[(Z b hb').1] at g; cases g
    ·rw[Ab.mp hb']
     refine ⟨λO c g=>?_,λO c g z=>?_⟩
     ·rw[Ab.mp g]; exact hC
     ·rw[Ab.mp z] at g; exact hC g
   ·rw[(Z a i).1] at g; cases g
   ·rw[(Z b hb').1] at g; cases g
   ·rw[(Z a i).1] at g; cases g
   ·rw[Ab.mp hb'] at g
    exact gF a i c g
   ·rcases Aj.mp he with rfl | he
    ·rw[Ab.mp i]
     exact .inr ⟨rfl,rfl⟩
    ·rcases Ai.mp he with he | he
     ·rw[(Z e he).1] at i; cases i
     ·rw[Ab.mp he] at i
      exact .inl (T i)
   ·by_cases hb:b∈C
    ·rw[T hb] at e; cases e
    ·rw[B hb] at e; exact e
   ·by_cases hb:b∈C
    ·rw[T hb] at e; cases e
    ·rw[B hb] at e; exact ⟨o,e⟩
   ·subst hb
    obtain ⟨c,kk,fl,X,z2⟩:=t
    exact ⟨W,c,kk,fl,X,z2⟩
  ·exact k1 .non .none [] I.n L p.1 p.2 .non (λ_ z=>(nomatch z)) (M G) (G.xd j rfl).2
  ·obtain ⟨hn,m,d,rfl,hm,r⟩:=p
   obtain ⟨u,e2,rd,_⟩:=G.ok _ mem_mid
   cases e2
   have Y:At K U (·=j) I.n ((S'++[⟨some v,.dat m d,F'⟩])++[⟨none,.grd H,C⟩]) L:=by rw[Bw]; exact G
   refine k1 v d F' I.n L hn r rd (λa i=>?_) (M Y) (G.xd j rfl).2
   have sp:=(Bi.mp Y.sep).2.2 _ (Ag _ Aa) _ Aa
   exact λz=>sp.2 (.inr rfl) a z i
end
def Pd(p:Nat)(f:DT)(g:DE)(δ:DS)(d:Ad->Nat->Prop)(h:Nat->Prop):Prop:=f δ λb a=>match b with
 | true=>g a λy c=>match y with
  | .dat m e=>m≠.pk/\c.sl[p]? = some .drw/\d e c.n
  | _=>False
 | false=>a.sl[p]? = some .drw/\h a.n
def kK(h:DI)(js1:List Nat)(j0:Nat)(js2:List Nat)(j:DT)(k:DE):DE:=λg P=>h g λm f b=>b.sl[j0]? = some .drw/\∃I:Nat->List Ad->Nat->Prop,I 0 [] b.n /\
 (∀i d a n,f[i]? = some d->I i a n->Pd (js1.length+1) j k ⟨.dat m d::(frD (b.sl.set j0 .un) js1++.drw::frD (b.sl.set j0 .un) js2),n⟩ (λe c=>I (i+1) (a++[e]) c) (λc=>I (i+1) a c)) /\
 ∀a n,I f.length a n->P (.dat .tp (.list a)) ⟨b.sl,n⟩
section
variable{K:PySem.W.Frag}{a H H':Hp}{Y:Addr->Prop}{n n':Nat}{E S T:List Ent}
theorem J0{e:List Ent}{δ:DS}{p:Nat}{b:Addr}{R:List Ent}(m:At K a Y n (e++R) H)(t:Sl e δ)(r:δ.sl[p]? = some .drw)(l:(vs e)[p]? = some (some (.ref b))):At K a Y n (⟨some (.ref b),.drw,[b]⟩::R) H:=by
 obtain ⟨d,q,v⟩:=Gk t r
 have o:d∈e:=Ao q
 rw[Jc q] at l
 obtain ⟨u,x,F⟩:=d
 have g:x=.drw:=v
 subst g
 have y:u=some (.ref b):=Bu l
 subst y
 obtain ⟨j,c,k,f,s,w,z⟩:=m.ok _ (Af _ o)
 have h:some (V.ref b)=some (V.ref j):=s
 cases h
 have i:F=[b]:=w
 subst i
 exact m.sub ((Uj.mpr o).append (Cs R))
theorem vW{p:Nat}{j:Addr}{A:DT}{x:DE}{δ:DS}{f:Ad->Nat->Prop}{t:Nat->Prop}{D:Addr}{G:List Addr}{d:List Ad}{u:Hp->Prop}{z:VK}(I:Sl S δ)(J:At K a Y δ.n (S++⟨some (.ref D),.acc d,D::G⟩::T) H)(r:(vs S)[p]? = some (some (.ref j)))(h:Pd p A x δ f t)(k1:∀n' H',At K a Y n' (⟨some (.ref j),.drw,[j]⟩::⟨some (.ref D),.acc d,D::G⟩::T) H'->t n'->u H')(k2:∀e m n' v F H',At K a Y n' (⟨some (.ref j),.drw,[j]⟩::⟨some v,.dat m e,F⟩::⟨some (.ref D),.acc d,D::G⟩::T) H'->m≠.pk->f e n'->z v H'):LT K A (vs S) H λc l=>if c=true then LE K x (vs S) l z else u l:=by
 refine ⟨a,Y,S,⟨some (.ref D),.acc d,D::G⟩::T,δ,_,rfl,I,J,h,λb q E l s w g k=>?_⟩
 cases b with
 | false=>exact sC (k1 _ _ (J0 g w k.1 (by rw[s]; exact r)) k.2)
 | true =>
  refine nM ⟨a,Y,E,⟨some (.ref D),.acc d,D::G⟩::T,q,_,s,w,g,k,λy C v F N M L B o i=>?_⟩
  split at i
  ·exact k2 _ _ _ _ _ _ (J0 o B i.2.1 (by rw[L]; exact r)) i.1 i.2.2
  ·exact i.elim
theorem xM{di:DI}{js1 js2:List Nat}{j0:Nat}{dc:DT}{de:DE}:∀σ H Q,LE K (kK di js1 j0 js2 dc de) σ H Q->cI (LI K di) (js1++j0::js2) (LT K dc) (LE K de) σ H Q:=by
 intro σ H Q h
 obtain ⟨a,Y,S,T,δ,P,rfl,hS,hA,hd,k⟩:=h
 refine ⟨a,Y,S,T,δ,_,rfl,hS,hA,hd,λm t s J l g H1 e1 e2 X it hz p1=>?_⟩
 obtain ⟨hj,I,h0,hs,hf⟩:=p1
 rw[<- e1]
 obtain ⟨V,U,s2⟩:=Gk e2 hj
 have k3:V∈g:=Ao U
 obtain ⟨u,x,F0⟩:=V
 have h7:x=.drw:=s2
 subst h7
 obtain ⟨c,_,_,_,h8,k1,_⟩:=X.ok _ (Af _ k3)
 have h4:u=some (.ref c):=h8
 have h6:F0=[c]:=k1
 subst h4 h6
 intro D hD
 refine ⟨λi q H=>q=t.length - i/\i<=t.length/\∃f n G,At K a Y n (⟨some (.ref D),.acc f,D::G⟩::(g++(l++T))) H/\f.length<=i/\I i f n,⟨t.length,by simp,Em _,[],s.n,[],X.accNew hD,Ak _,h0⟩,?_⟩
 (intro i q H q_; obtain ⟨rfl,hi,f,n,G,O,hl,hI⟩ := q_)
 have o:∀e∈l,Il K H n e:=λe W=>O.ok e (Ae _ (Ag _ (Af _ W)))
 by_cases w:i<t.length
 ·refine .inr ⟨it.go H n i o w,λx H' y=>?_⟩
  obtain ⟨h9,d,F,h1,h2,h3⟩:=it.yld H n i x H' o w y
  have L:At K a Y n ((⟨some (.ref D),.acc f,D::G⟩::g)++⟨some x,.dat m d,F⟩::(l++T)) H':=At.item (S:=⟨some (.ref D),.acc f,D::G⟩::g) O h9 h2 h3 it.md it.hd it.np
  -- the draws are taken out of their slot
  have M:At K a Y n (⟨some (.ref c),.drw,[c]⟩::⟨some x,.dat m d,F⟩::⟨some (.ref D),.acc f,D::G⟩::(g.set j0 ⟨some (.ref c),.un,[]⟩++(l++T))) H':=by
   have q:=L.mid.blank (v:=some (.ref c))
   refine q.perm ?_
   have pS:(⟨some (.ref c),.un,[]⟩::g:List Ent).Perm (⟨some (.ref c),.drw,[c]⟩::g.set j0 ⟨some (.ref c),.un,[]⟩):=Ro U
   have p2:=pS.append_right (l++T)
   -- un::x::D::g.. ~ x::D::un::g..
   have a1:((⟨some (.ref c),.un,[]⟩ : Ent)::⟨some x,.dat m d,F⟩::((⟨some (.ref D),.acc f,D::G⟩::g)++(l++T))).Perm (⟨some x,.dat m d,F⟩::⟨some (.ref D),.acc f,D::G⟩::⟨some (.ref c),.un,[]⟩::(g++(l++T))) :=
    (Ds _ _ _).trans ((Ds _ _ _).cons _)
   have a2:((⟨some x,.dat m d,F⟩ : Ent)::⟨some (.ref D),.acc f,D::G⟩::⟨some (.ref c),.drw,[c]⟩::(g.set j0 ⟨some (.ref c),.un,[]⟩++(l++T))).Perm (⟨some (.ref c),.drw,[c]⟩::⟨some x,.dat m d,F⟩::⟨some (.ref D),.acc f,D::G⟩::(g.set j0 ⟨some (.ref c),.un,[]⟩++(l++T))) :=
    ((Ds _ _ _).cons _).trans (Ds _ _ _)
   exact a1.trans (((p2.cons _).cons _).trans a2)
  have h5:Sl (g.set j0 ⟨some (.ref c),.un,[]⟩) ⟨s.sl.set j0 .un,n⟩:=eJ e2
  have vS:vs (g.set j0 ⟨some (.ref c),.un,[]⟩)=vs g:=by
   rw[fE]
   apply Hk
   intro j
   rw[Ey]
   split
   ·rename_i k5
    subst k5
    rw[Jc U]
    split
    ·rfl
    ·rename_i N
     unfold vs at N
     rw[Ac] at N
     exact absurd (An.mp U).1 N
   ·rfl
  have A:∀e∈g.set j0 ⟨some (.ref c),.un,[]⟩,e∈(⟨some (.ref c),.drw,[c]⟩::⟨some x,.dat m d,F⟩::⟨some (.ref D),.acc f,D::G⟩::(g.set j0 ⟨some (.ref c),.un,[]⟩++(l++T)):List Ent):=λe W=>Ae _ (Ae _ (Ae _ (Af _ W)))
  have k0:=At.view (S:=g.set j0 ⟨some (.ref c),.un,[]⟩) M A js2
  have Z:=At.view (S:=g.set j0 ⟨some (.ref c),.un,[]⟩) k0 (λe W=>Ag _ (A e W)) js1
  have k6:At K a Y n ((⟨some x,.dat m d,F⟩::(Vo (g.set j0 ⟨some (.ref c),.un,[]⟩) js1++⟨some (.ref c),.drw,[c]⟩::Vo (g.set j0 ⟨some (.ref c),.un,[]⟩) js2))++⟨some (.ref D),.acc f,D::G⟩::(g.set j0 ⟨some (.ref c),.un,[]⟩++(l++T))) H':=by
   refine Z.perm ?_
   generalize Vo (g.set j0 ⟨some (.ref c),.un,[]⟩) js1=A1
   generalize Vo (g.set j0 ⟨some (.ref c),.un,[]⟩) js2=A2
   generalize (⟨some (.ref D),.acc f,D::G⟩::(g.set j0 ⟨some (.ref c),.un,[]⟩++(l++T)):List Ent)=R
   have b1:(A2++((⟨some (.ref c),.drw,[c]⟩ : Ent)::⟨some x,.dat m d,F⟩::R)).Perm ((⟨some x,.dat m d,F⟩ : Ent)::⟨some (.ref c),.drw,[c]⟩::(A2++R)) :=
    (Du.trans ((Du).cons _)).trans (Ds _ _ _)
   have b2:=b1.append_left A1
   refine b2.trans (Du.trans ?_)
   rw[Eu,Bw,Eu]
  have k4:Sl (⟨some x,.dat m d,F⟩::(Vo (g.set j0 ⟨some (.ref c),.un,[]⟩) js1++⟨some (.ref c),.drw,[c]⟩::Vo (g.set j0 ⟨some (.ref c),.un,[]⟩) js2)) ⟨.dat m d::(frD (s.sl.set j0 .un) js1++.drw::frD (s.sl.set j0 .un) js2),n⟩:=by
   unfold Sl
   rw[Aw,Bc,Aw,pN h5,pN h5]
  have hv:vs (⟨some x,.dat m d,F⟩::(Vo (g.set j0 ⟨some (.ref c),.un,[]⟩) js1++⟨some (.ref c),.drw,[c]⟩::Vo (g.set j0 ⟨some (.ref c),.un,[]⟩) js2))=some x::Jx (vs g) (js1++j0::js2):=by
   have f1:=oD (g.set j0 ⟨some (.ref c),.un,[]⟩) js1
   have f2:=oD (g.set j0 ⟨some (.ref c),.un,[]⟩) js2
   rw[vS] at f1 f2
   unfold vs at f1 f2 ⊢
   rw[Aw,Bc,Aw,f1,f2]
   unfold Jx
   rw[Bc,Aw,Bo,U]
   rfl
  have k2:(vs (⟨some x,.dat m d,F⟩::(Vo (g.set j0 ⟨some (.ref c),.un,[]⟩) js1++⟨some (.ref c),.drw,[c]⟩::Vo (g.set j0 ⟨some (.ref c),.un,[]⟩) js2)))[js1.length+1]? = some (some (.ref c)):=by
   unfold vs
   rw[Aw,Te,Bc,Fz (by rw[Ac]; unfold Vo; rw[Ac]; exact Ak _)]
   rw[Ac]
   unfold Vo
   rw[Ac,Nat.sub_self]
   rfl
  -- r to the outer names
  have r:∀{n':Nat} {E:Hp} {B:List Ent},At K a Y n' (⟨some (.ref c),.drw,[c]⟩::(B++(g.set j0 ⟨some (.ref c),.un,[]⟩++(l++T)))) E->At K a Y n' (B++(g++(l++T))) E:=λ{n' E B} hB=>by
   have pS:(⟨some (.ref c),.un,[]⟩::g:List Ent).Perm (⟨some (.ref c),.drw,[c]⟩::g.set j0 ⟨some (.ref c),.un,[]⟩):=Ro U
   have p2:=pS.append_right (l++T)
   have p3:((⟨some (.ref c),.drw,[c]⟩ : Ent)::(B++(g.set j0 ⟨some (.ref c),.un,[]⟩++(l++T)))).Perm (⟨some (.ref c),.un,[]⟩::(B++(g++(l++T)))) :=
    List.perm_middle.symm.trans ((p2.symm.append_left B).trans Du)
   exact (hB.perm p3).sub (Cq _ _)
  refine ⟨λE=>∃m',m'<t.length - i/\_,λy H3=>∃f,H3 D=some (.lst f)/\f.length<Bf/\∃m',m'<t.length - i/\_,λE q=>q,λy H3 q=>q,?_⟩
  rw[<- hv]
  refine vW k4 k6 k2 (hs i d f n h1 hI) (λn' E C p=>?_) (λe m' n' v F' E C hm p=>?_)
  ·exact ⟨t.length - (i+1),by omega,rfl,w,f,n',G,r (B:=[_]) C,by omega,p⟩
  ·obtain ⟨xs,g1,g2,g3⟩:=((r (B:=[_,_]) C).perm (Ds _ _ _)).accPutG hm (by omega)
   exact ⟨xs,g1,by omega,t.length - (i+1),by omega,rfl,w,f++[e],n',_,g3,by rw[Az]; simp; omega,p⟩
 ·have e:i=t.length:=by omega
  subst e
  refine .inl ⟨it.stop H n o,k _ ⟨s.sl,n⟩ _ (D::G) g H e1 e2 ?_ (hf f n hI)⟩
  have L:=O.accGetG (b:=false) (λz=>nomatch z)
  have M:At K a Y n (⟨some (.ref D),.dat .tp (.list f),D::G⟩::(g++T)) H:=L.sub (((Cs g).append (Ci l T)).cons₂ _)
  exact M.tomid
end
section
variable{X:Cx}{d b c:Expr}{x l:Str}{j k pos f:Pos}{i0:Nat}{e:List Expr}{a:Scope}{cl:List (Str×Addr)}{ys:List Str}{js1 js2:List Nat}{j0:Nat}{g:DI}{h:DT}{i:DE}
theorem xZ(C:CompScope X a cl x ys (js1++j0::js2))(c:X.calm=true)(m:p9 X (.Name x j) b g)(f:∀fp s H,tL (Hd X a cl (x::ys) fp s H) e (LT X.K h))(k:∀fp s H,Gq (Hd X a cl (x::ys) fp s H) d i)(l:∀x,Fu b X.env x=pure x:=by intro _; rfl):Gq X (.ListComp d [⟨.Name x j,b,e,0⟩] a pos) (kK g js1 j0 js2 h i):=PE.imp (bP C c m f k l) xM
end
abbrev PX:=List Ad->(Ad->Prop)->(Addr->Prop)->Prop
end DL
namespace Nd
open PySem PySem.Spec PyProof.Rows L2
end Nd
namespace DL
open PySem PySem.Spec PyProof.Rows L2 Nd
end DL
namespace Nd
open PySem PySem.Spec PyProof.Rows L2
end Nd
namespace Nd
open PySem PySem.Spec
end Nd
namespace Nd
open PySem PySem.Spec PyProof.Rows L2
end Nd
namespace DL
open PySem PySem.Spec PyProof.Rows L2 Nd
end DL
namespace Nd
open PySem PySem.Spec PyProof.Rows L2
end Nd
namespace DL
open PySem PySem.Spec PyProof.Rows L2 Nd
end DL
namespace Nd
open PySem PySem.Spec PyProof.Rows L2
section
variable{prog:Bz}{w:World}{A:Dm}{E:Value->Ap->Prop}{s:Ap}
theorem oI{l:Addr}{o:Obj}{n:Nat}{vs:List Value}{Q:List Value->Ap->Prop}(c:s.heap.get? l=some o)(a:o.cls=.type "tuple")(hd:o.data=.seq vs.toArray n)(h:Q vs { s with heap:=(s.heap.push (Di "list" #[] 0)).update s.heap.objs.size (Ct (·++vs.toArray)) })(d:vs.length<=Bf):wpAny (model prog w) A (collect (.ref l)) Q E s:=by
 unfold collect
 refine Ah (wpAny_runValue (Nz entry_proto_collect' ?_))
 show wpAny _ _ (bind (newList []) λq=>again (.builtin "list.__iadd__" ⟨[q,.ref l],[]⟩)) _ _ s
 refine Ah (Qc (Au ⟨Code.quiet_builtin _ (by decide +kernel),Nz entry_list_iadd' ?_⟩))
 show wpAny _ _ (Ym (.ref s.heap.objs.size) (.ref l) (.ref s.heap.objs.size)) _ _ { s with heap:=s.heap.push (Di "list" #[] 0) }
 unfold Ym
 have g:(s.heap.push (Di "list" #[] 0)).get? l=some o:=Aq _ c
 refine Ah (Mt (T := "tuple") ⟨o,g,a⟩ ?_)
 rw[if_pos (by rw[show (Ep "tuple" == Ep "tuple")=true from rfl,Bool.or_true])]
 refine Ah (Wr g hd (Ah (Wr (xs:=#[]) (n:=0) (Ca _ rfl) rfl ?_)))
 rw[if_neg (by simp)]
 refine Ah (Np (xs:=#[]) (n:=0) (Ca _ rfl) rfl (Au ?_) (Em _) (by show (#[]++vs.toArray).size<=Bf+1; simp only[Array.size_append,Av,Gv]; omega))
 have b:((s.heap.push (Di "list" #[] 0)).update s.heap.objs.size (Ct (·++vs.toArray))).get? s.heap.objs.size=some _:=Qy (Ca _ rfl) _
 refine Ah (wpAny_load b ?_)
 show wpAny _ _ (pure ((#[]:Array Value)++vs.toArray).toList) Q E _
 rw[show ((#[]:Array Value)++vs.toArray).toList=vs by simp]
 exact Au h
theorem sD{l:Addr}{o:Obj}{n:Nat}{vs:List Value}{ns:List Int}{Q:Value->Ap->Prop}(i:s.heap.get? l=some o)(c:o.cls=.type "tuple")(hd:o.data=.seq vs.toArray n)(j:Ib vs ns)(b:vs.length<64)(h:∀(out:Array Value) (a:List Int),Ib out.toList a->a.Perm ns->a.Pairwise (·<=·)->Q (.ref (s.heap.objs.size+1)) { s with heap:=Vx s.heap vs out }):wpAny (model prog w) A (call (.builtin "sorted") [.ref l]) Q E s:=by
 refine Rb kind_sorted plain_sorted entry_sorted (args_sorted1 _) ?_
 unfold Yk
 refine Ah (m:=checkCount "sorted" 1 1 _) (Au (Ah (oI i c hd (Ah (Qc ?_)) (by rw[Le]; omega))))
 have z:((s.heap.push (Di "list" #[] 0)).update s.heap.objs.size (Ct (·++vs.toArray))).objs.size=s.heap.objs.size+1:=by
  rw[Hu,Tb]
 have g:(((s.heap.push (Di "list" #[] 0)).update s.heap.objs.size (Ct (·++vs.toArray))).push (Di "list" vs.toArray 0)).get? (s.heap.objs.size+1)=some (Di "list" vs.toArray 0):=by
  rw[<- z]; exact Ca _ rfl
 show wpAny _ _ _ _ _ { s with heap:=((s.heap.push (Di "list" #[] 0)).update s.heap.objs.size (Ct (·++vs.toArray))).push (Di "list" vs.toArray 0) }
 rw[z]
 refine Ah (Fq (Mu slot_list_sort ⟨_,g,rfl⟩ entry_list_sort (list_sort_tree g j b λout a d e f=>⟨_,rfl,?_⟩) (args_list_sort _)))
 exact Au ⟨_,rfl,h out a d e f⟩
end
section
variable{X:Cx}
def mP(K:PySem.W.Frag):List V->Hp->VK->Prop:=λd H Q=>∃(a:Addr) (c:List Int),d=[.ref a]/\H a=some (.tup (c.map V.int))/\c.length<64 /\
 ∀(p:Addr) (b:List Int),H p=none->b.Perm c->b.Pairwise (·<=·)->Q (.ref p) (upd H p (.lst (b.map V.int)))
theorem jK:Nf X (.builtin "sorted") (mP X.K):=by
 intro i s B H A z Q I r h
 obtain ⟨a,y,rfl,v,f,q⟩:=h
 obtain ⟨u,rfl,w⟩:=vals1 r
 cases w
 obtain ⟨_,b,d,o,l,j,n,t⟩:=I.hok a _ v
 have len:b.length<64:=by rw[<- d.length,Ac]; exact f
 refine sD l j t (intsAre_of d) len λout c k g m=>?_
 obtain ⟨e,p⟩:=sortedAll_at s.heap b out
 have x:c.length<64:=by rw[g.length_eq]; exact f
 exact ⟨.ref (s.heap.objs.size+1),_,I.laid (t':=s.toks) (o:=.lst (c.map V.int)) (λ_ _=>sortedAll_old) (Pb _) ⟨by rw[Ac,Le]; omega,out.toList,e,Y8 k,by simpa using p⟩,rfl,q _ c (I.hok.fresh (Pb _)) g m⟩
end
end Nd
namespace DL
open PySem PySem.Spec PyProof.Rows L2 Nd
def lP:DC:=λb P=>match b with
 | [.dat _ (.tuple ds)]=>∃a:List Int,ds=a.map Be/\a.length<64/\P (.dat .ow (.list ((dO a).map Be)))
 | _=>False
theorem E3{K:PySem.W.Frag}:Sz K (mP K) lP:=by
 intro t X n S T s f H Q P j b c k
 unfold lP at c
 split at c
 ·rename_i h
  obtain ⟨v,F,rfl,b⟩:=Jo j b h
  obtain ⟨o,rfl,l,g⟩:=c
  obtain ⟨a,r,rfl,i,m,_⟩:=(b.told mem_mid).tup_inv
  obtain ⟨rfl,_⟩:=m.ints_inv
  refine ⟨a,o,rfl,i,l,λq f d e p=>?_⟩
  rw[yZ e p]
  exact k _ _ _ _ (b.drop.newI (RdFs.ints _) (Qi _) (by rw[Ac,wF]; exact sz (by omega)) d .ow) g
 ·exact c.elim
theorem At.spoil{K:PySem.W.Frag}{l H H':Hp}{X:Addr->Prop}{n:Nat}{E:List Ent}{v:Option V}{d:Ad}{F:List Addr}(h:At K l X n (⟨v,.dat .ow d,F⟩::E) H)(np:∀f∈E,Kz f.x=false)(g:∀b o,H b=some o->(b∉F\/W6 o)->H' b=some o):At K l X n E H':=by
 have s:=Ay.mp h.sep
 have i:∀a∈F,l a=none:=λa u=>by
  rcases h.new _ Aa a u with z | z
  ·exact z
  ·cases z.2
 refine At.re (h.sub (Cq _ _)) (λf j=>(h.ok f (Ae _ j)).kp (λb o e z=>g b o e (z.imp (λq r=>(s.1 f j).1 (.inl (np f j)) b r q) id)) (Ak _)) (λb o p q=>g b o (h.same b o p q) (.inl λz=>?_)) (λb o q=>?_) λb y=>?_
 ·rw[i b z] at q; cases q
 ·obtain ⟨m,e⟩:=h.dom b o q
  exact ⟨m,g b m e (.inl λz=>by rw[i b z] at q; cases q)⟩
 ·obtain ⟨z,c,k,f,t,A⟩:=h.xd b y
  exact ⟨z,c,k,f,g _ _ t (.inl λw=>z (i b w)),A⟩
end DL
namespace Ts
open PySem PyProof.Rows L2
end Ts
namespace DL
open PySem PySem.Spec PyProof.Rows L2 Nd Ts
end DL
namespace DL
open PySem PySem.Spec PyProof.Rows L2 Nd
end DL
namespace Nd
open PySem PySem.Spec PyProof.Rows L2
end Nd
namespace DL
open PySem PySem.Spec PyProof.Rows L2 Nd
end DL
namespace Nd
open PySem PySem.Spec PySem.Calls PyProof.Rows PyProof.V L2 Ts
end Nd
namespace DL
open PySem PySem.Spec PyProof.Rows L2 Nd Ts
theorem tab_no{K:PySem.W.Frag}{x:Str}(a:PySem.W.nsIn K Dj x=some none):PySem.W.tabIn K x=none:=by
 unfold PySem.W.tabIn
 rw[a]
end DL
namespace HT
open PySem PyProof.Rows
end HT
namespace Nd
open PySem PySem.Spec PySem.Calls PyProof.Rows PyProof.V L2 Ts
end Nd
namespace DL
open PySem PySem.Spec PyProof.Rows L2 Nd Ts
end DL
namespace DL
open PySem PySem.Spec PyProof.Rows L2 Nd
end DL
namespace DL
open PySem L2 Nd
end DL
namespace Nd
open PySem PySem.Spec PyProof.Rows L2
end Nd
namespace DL
open PySem PySem.Spec PyProof.Rows L2 Nd
theorem DD{K:PySem.W.Frag}{o H:Hp}{X:Addr->Prop}{S T:List Ent}{δ:DS}{i:Nat}(e:Sl S δ)(j:At K o X δ.n (S++T) H)(h:isLst δ.sl[i]? = true):∃a xs,(vs S)[i]? = some (some (.ref a))/\H a=some (.lst xs):=by
 cases q:δ.sl[i]? with
 | none=>rw[q] at h; cases h
 | some x =>
  rw[q] at h
  obtain ⟨c,d,k⟩:=Gk e q
  obtain ⟨u,y,F⟩:=c
  have b:y=x:=k
  subst b
  have l:(⟨u,y,F⟩ : Ent)∈S:=Ao d
  match y,h with
  | .dat m (.list ds),_ =>
   obtain ⟨v,g,rd,_⟩:=j.ok _ (Af _ l)
   obtain ⟨a,xs,G,rfl,f,_⟩:=rd.list_inv
   exact ⟨a,xs,by rw[Jc d]; exact congrArg some g,f⟩
theorem RdFs.part{K:PySem.W.Frag}{H:Hp}:∀(k:Nat) {xs:List V} {d:List Ad} {F:List Addr},RdFs K H xs d F->∃b c,F=b++c/\RdFs K H (xs.take k) (d.take k) b/\RdFs K H (xs.drop k) (d.drop k) c
 | 0,_,_,F,h=>⟨[],F,rfl,.nil,by rw[Kf,Kf]; exact h⟩
 | _+1,_,_,_,.nil=>⟨[],[],rfl,.nil,.nil⟩
 | k+1,_,_,_,.cons a t=>by
  obtain ⟨b,c,rfl,e,f⟩:=RdFs.part k t
  exact ⟨_++b,c,(Bw ..).symm,.cons a e,f⟩
theorem pE{K:PySem.W.Frag}{D H:Hp}{X:Addr->Prop}{S T:List Ent}{δ:DS}{i:Nat}{m h:Md}{b:List Ad}{e:Ad}{w:V}{d:List Addr}(k:Nat)(p:Sl S δ)(M:∀e∈T,Kz e.x=false)(y:At K D X δ.n (S++⟨some w,.dat h e,d⟩::T) H)(hi:δ.sl[i]? = some (.dat m (.list b)))(P:own1 m=true)(hy:h≠.pk)(np:npk δ.sl=true)(hl:b.length<1000000):∃a xs,(vs S)[i]? = some (some (.ref a))/\H a=some (.lst xs)/\xs.length=b.length/\∃s,vs s=vs S/\Sl s ⟨δ.sl.set i (.dat (mmd m h) (.list (Jw b k e))),δ.n⟩/\At K D X δ.n (s++T) (upd H a (.lst (Jw xs k w))):=by
 obtain ⟨l,g,e3⟩:=Gk p hi
 have Q:l∈S:=Ao g
 obtain ⟨u,x,F⟩:=l
 have q:x=.dat m (.list b):=e3
 subst q
 obtain ⟨v,J,rd,_⟩:=y.ok _ (Af _ Q)
 obtain ⟨a,xs,G,rfl,Z,I,eF,hz⟩:=rd.list_inv
 have r:F=a::G:=eF
 subst r
 have B:=y.told mem_mid
 refine ⟨a,xs,by rw[Jc g]; exact congrArg some J,Z,I.len,?_⟩
 have hn:=Tj p np
 have R:(S++⟨some w,.dat h e,d⟩::T).Perm (⟨u,.dat m (.list b),a::G⟩::⟨some w,.dat h e,d⟩::(S.eraseIdx i++T)):=by
  refine ((Gn g).append_right _).trans ?_
  rw[Eu]
  exact Kx _ Du
 obtain ⟨o,A,O,N,Y⟩:=I.part k
 have E:(o++(d++A)).Perm (G++d):=by
  rw[O,Bw]
  exact List.perm_append_comm.append_left o
 have U:=(y.perm R).merge (es:=Jw b k e) (ys:=Jw xs k w) (G:=o++(d++A)) P hy J (λf hf=>?_) (N.app (.cons B Y)) (λc L=>Ai.mp (E.mem_iff.mp L)) (λz=>E.nodup_iff.mpr z) (by rw[Rc]; exact gG (by omega))
 ·refine ⟨S.set i ⟨u,.dat (mmd m h) (.list (Jw b k e)),a::(o++(d++A))⟩,?_,?_,U.perm ?_⟩
  ·unfold vs
   rw[Hv]
   apply Hk
   intro j
   rw[Ey]
   split
   ·rename_i t
    subst t
    rw[Bo,g]
    split
    ·rfl
    ·rename_i C
     rw[Ac] at C
     exact absurd (An.mp g).1 C
   ·rfl
  ·unfold Sl at p ⊢
   rw[Hv,p]
  ·exact ((Nu g).append_right T).symm
 ·rcases Ai.mp hf with hf | hf
  ·exact hn f ((El S i).subset hf)
  ·exact M f hf
def uO(i:Nat)(z y:DV)(δ:DS)(D:DEnds):Prop:=match δ.sl[i]?,z,y with
 | some (.dat m (.list ds)),.dat _ (.int k),.dat my e=>own1 m=true/\npk δ.sl=true/\my≠.pk/\ds.length<1000000/\0<=k/\k<=1000000/\D.nx ⟨δ.sl.set i (.dat (mmd m my) (.list (Jw ds k.toNat e))),δ.n⟩
 | _,_,_=>False
def bZ(i:Nat)(d e:DE):DB:=λD c=>match c.sl[i]? with
 | some (.dat _ (.list _))=>d c λz a=>e a λy b=>uO i z y b D
 | _=>False
section
variable{X:Cx}{o e f:Expr}{j g:DE}{d c pos:Pos}{i:Nat}
theorem sL(ho:PE X o (Lj i))(hk:Gq X f g)(he:Gq X e j)(p:Kh o "insert" X.env (eval o X.env)=eval o X.env:=by rfl)
  (r:((Hf c (Bl [f,e] X.env)).all (λx=>!x.1) && (Tc c (Mm [] X.env)).all (λx=>x.1.isSome)
   && decide (([f,e]:List Expr).length+([]:List Ku).length+(if ([]:List Ku).isEmpty then 0 else 1)<30))=true:=by rfl)
  (q:(d.endLine == c.line)=true:=by rfl) (s:Bl [f,e] X.env=(false,eval f X.env)::Bl [e] X.env:=by rfl) (hs:Bl [e] X.env=(false,eval e X.env)::Bl [] X.env:=by rfl) (l:(Hf c (Bl [e] X.env)).any (·.1)=false:=by rfl)
  (L:Jf (.Call (.Attribute o "insert" d) [f,e] [] c) none pos.line X.env=pure false:=by rfl) :
  gA X (.Expr (.Call (.Attribute o "insert" d) [f,e] [] c) pos) (bZ i g j):=by
 refine PS.impD (Uw (iK PySem.F.plainAttrs_list bU F.type_list_insert gY ho (Hq hk (Hq he Mg hs) s) p r q s l) L) λD σ H h=>?_
 obtain ⟨W,Y,S,T,δ,P,rfl,hS,hT,hA,E,k1,k2,k3,k4⟩:=h
 unfold bZ at E
 split at E
 case h_2=>exact E.elim
 rename_i m0 J N
 obtain ⟨B,M,e3⟩:=Gk hS N
 have hm:B∈S:=Ao M
 obtain ⟨u,x,F⟩:=B
 have I:x=.dat m0 (.list J):=e3
 subst I
 obtain ⟨v,hv,rd,_⟩:=hA.ok _ (Af _ hm)
 obtain ⟨a,xs,G,rfl,ha,ra,eF,hz⟩:=rd.list_inv
 refine ⟨.ref a,by rw[Jc M]; exact congrArg some hv,.inl ⟨rfl,xs,Sx.of ha⟩,W,Y,S,T,δ,_,rfl,hS,hA,E,λz K w F1 S1 H1 e4 e5 O p1=>?_⟩
 refine ⟨W,Y,S1,⟨some w,z,F1⟩::T,K,_,e4,e5,O,p1,λy h0 Z F2 U H2 e6 e7 t C=>?_⟩
 unfold uO at C
 split at C
 ·rename_i m ds mz k my e' A
  obtain ⟨q1,q2,q3,q5,q6,q7,q8⟩:=C
  obtain ⟨rfl,_⟩:=(t.told Hs).int_inv
  have R:=t.sub (E':=U++⟨some Z,.dat my e',F2⟩::T) ((Cs U).append ((Cq _ T).cons₂ _))
  obtain ⟨b,Q,g1,g2,g3,S3,h1,h2,h3⟩:=pE k.toNat e7 hT R A q1 q3 q2 q5
  rw[e6,Jc M] at g1
  have : some (V.ref b)=some (V.ref a):=(Bu g1).symm.trans hv
  cases this
  refine ⟨a,Q,k,Z,rfl,rfl,g2,Cc (by omega) (gG (n:=1000000) (Ak _)),q6,q7,?_⟩
  rw[<- e6,<- h1]
  exact k1 ⟨_,_⟩ S3 _ h2 h3 q8
 ·exact C.elim
end
def qO:List Ad->Bool
 | [.int _,.int _,.bool _]=>true
 | _=>false
mutual
def Nq:Ad->Bool
 | .list a=>!qO a && Ud a
 | .tuple a=>Ud a
 | .dict _=>false
 | _=>true
def Ud:List Ad->Bool
 | []=>true
 | d::ds=>Nq d && Ud ds
end
theorem iQ{c:Type}{g:c->Ad}{l:List c}(h:∀a∈l,Nq (g a)=true):Ud (l.map g)=true:=by
 induction l with
 | nil=>rfl
 | cons a l e=>rw[Aw,Ud,h a Aa,e λb d=>h b (Ae _ d)]; rfl
theorem RdFs.drs{K:PySem.W.Frag}{H:Hp}{c k:Int}{f:Bool}{b:List Ad}{F:List Addr}(r:RdFs K H [.int c,.int k,.bl f] b F):qO b=true:=by
 cases r with
 | cons a t =>
 cases a with
 | int =>
 cases t with
 | cons a t =>
 cases a with
 | int =>
 cases t with
 | cons a t =>
 cases a with
 | bl =>
 cases t with
 | nil=>rfl
section
variable{K:PySem.W.Frag}{H:Hp}{e:Addr}{c k:Int}{f:Bool}
mutual
theorem RdF.nodr:∀{v:V} {d:Ad} {F:List Addr},Vl H e c k f->RdF K H v d F->Nq d=true->e∉F
 | _,_,_,_,.non,_=>λz=>(nomatch z)
 | _,_,_,_,.bl b,_=>λz=>(nomatch z)
 | _,_,_,_,.int i,_=>λz=>(nomatch z)
 | _,_,_,_,.str x,_=>λz=>(nomatch z)
 | _,_,_,hd,.lst ha hz r,hn=>by
  rw[Nq,Fn] at hn
  intro z
  rcases Aj.mp z with z | z
  ·rw[<- z,show H e=_ from hd] at ha
   cases ha
   rw[r.drs] at hn
   cases hn.1
  ·exact RdFs.nodr hd r hn.2 z
 | _,_,_,hd,.tup ha hz r,hn=>RdFs.nodr hd r (by rw[Nq] at hn; exact hn)
 | _,_,_,hd,.dic ..,hn=>by rw[Nq] at hn; cases hn
 | _,_,_,hd,.dik ..,hn=>by rw[Nq] at hn; cases hn
 | _,_,_,hd,.dnm ..,hn=>by rw[Nq] at hn; cases hn
theorem RdFs.nodr:∀{vs:List V} {b:List Ad} {F:List Addr},Vl H e c k f->RdFs K H vs b F->Ud b=true->e∉F
 | _,_,_,_,.nil,_=>λz=>(nomatch z)
 | _,_,_,hd,.cons a t,hn=>by
  rw[Ud,Fn] at hn
  intro z
  rcases Ai.mp z with z | z
  ·exact RdF.nodr hd a hn.1 z
  ·exact RdFs.nodr hd t hn.2 z
end
end
def lO(i:Nat)(a:DF)(xs:List DV)(δ:DS)(P:DV->DS->Prop):Prop:=match δ.sl[i]?,datas xs with
 | some .drw,some ds=>noPk xs=true/\a ds δ.n λd b=>Nq d=true/\P (.dat .sh d) ⟨δ.sl,b⟩
 | _,_=>False
def jF(i:Nat)(c:DF)(e:DA):DE:=λb P=>match b.sl[i]? with
 | some .drw=>e b λd a=>lO i c d a P
 | _=>False
section
variable{X:Cx}{CX:vO}{k:Nat}{f:Addr}{l:Cu}{ps:List Str}{c:DF}{E:XK}{x:Str}{p pos:Pos}{b:Expr}{es:List Expr}{j:DA}
theorem Yo{i:Nat}(F:FnOk X.prog X.w X.K X.mg X.base CX k f l ps (kG X.K c))(hr:Room k X.A)(hg:Gl X x)(hm:X.mg x=some (.ref f))(hk:PySem.W.keepIn X.K (.ref f)=true)(hb:Binds X.K l ps [])(hx:Qq CX X E)(h0:PE X b (Lj i))(R:rK X es j)(h8:(x == ("__debug__" : Str))=false:=by decide)(y:Bl (b::es) X.env=(false,eval b X.env)::Bl es X.env:=by rfl)(h6:(Hf pos (Bl es X.env)).any (·.1)=false:=by rfl):Gq X (.Call (.Name x p) (b::es) [] pos) (jF i c j):=by
 refine PE.imp (Ww F hr hg hm hk hb .nil hx (Hq h0 R y) h8 y h6) λσ H Q h=>?_
 obtain ⟨H0,Y,S,T,δ,P,rfl,hS,hA,hd,kk⟩:=h
 unfold jF at hd
 split at hd
 case h_2=>exact hd.elim
 rename_i h3
 have h2:∀w,(vs S)[i]? = some (some w)->LA X.K j (vs S) H λxs H2=>kG X.K c ((w::xs)++[]) H2 Q E:=λw hw=>by
  refine ⟨H0,Y,S,T,δ,_,rfl,hS,hA,hd,λxs O U us B H' e1 e2 ex eu I p=>?_⟩
  subst ex
  unfold lO at p
  split at p
  ·rename_i ds h9 q
   obtain ⟨np,p⟩:=p
   have Z:=oR np
   obtain ⟨m,G,s2⟩:=Gk e2 h9
   have N:m∈B:=Ao G
   have hv:m.v=some w:=by
    have:=Jc G
    rw[e1,hw] at this
    exact (Bu this).symm
   obtain ⟨u,z,F⟩:=m
   have J:z=.drw:=s2
   subst J
   have hE:(⟨u,.drw,F⟩ : Ent)∈B++(U++T):=Af _ N
   obtain ⟨C,c0,k0,f0,D,k7,h4,k4,k3⟩:=I.ok _ hE
   have ew:some w=some (V.ref C):=hv.symm.trans D
   cases ew
   have h5:F=[C]:=k7
   subst h5
   have pm:(B++(U++T)).Perm (⟨u,.drw,[C]⟩::(B.eraseIdx i++(U++T))):=((Gn G).append_right _)
   have hM:=I.perm pm
   have M:=Ay.mp hM.sep
   have h7:At X.K H0 Y O.n (B.eraseIdx i++T) H':=hM.sub (((Cs _).append (Ci U T)).cons _)
   rw[Et]
   refine ⟨C,us,U,O.n,ds,_,(B.eraseIdx i++T).flatMap cells,rfl,eu,λe y=>I.ok e (Ag _ (Af _ y)),λe y=>?_,⟨c0,k0,f0,h4,k4,k3⟩,q,p,λz=>?_,λa R=>?_,λv d F n' L hn r rd fr s h1=>?_⟩
   ·exact (M.1 e (Ag _ (Af _ y))).1 (.inr rfl) C Aa
   ·obtain ⟨g,hg1,t⟩:=Bv.mp z
    refine (M.1 g ?_).1 (.inr rfl) C Aa (Fv _ _ t)
    rcases Ai.mp hg1 with h | h
    ·exact Af _ h
    ·exact Ag _ (Ag _ h)
   ·obtain ⟨g,hg1,t⟩:=Bv.mp R
    refine ⟨λz=>?_,λe y=>?_⟩
    ·obtain ⟨o,q⟩:=(h7.ok g hg1).dom a (Fv _ _ t)
     rw[z] at q; cases q
    ·obtain ⟨_,k8,hp⟩ := Bi.mp M.2
     rcases Ai.mp hg1 with hg1 | hg1
     ·exact (hp g hg1 e (Af _ y)).1 (.inl (Z e y)) a t
     ·exact ((Bi.mp k8).2.2 e y g hg1).2 (.inl (Z e y)) a t
   ·obtain ⟨c1,k1,f1,hD,_⟩:=id h1
    have nF:=RdF.nodr hD rd r.1
    have k2:=hM.drawn Aa rfl D s h1 hn
    have k5:At X.K H0 Y n' (⟨u,.drw,[C]⟩::(B.eraseIdx i++T)) L:=k2.sub (((Cs _).append (Ci U T)).cons₂ _)
    have k6:At X.K H0 Y n' (B++T) L:=k5.perm (((Gn G).append_right T).symm)
    refine kk _ ⟨O.sl,n'⟩ v F B L e1 e2 ((k6.pushS rd λg hg a R z=>?_).tomid) r.2
    have hg':g∈(⟨u,.drw,[C]⟩ : Ent)::(B.eraseIdx i++T):=((Gn G).append_right T).mem_iff.mp hg
    rcases Aj.mp hg' with rfl | hg'
    ·rw[Ab.mp (Fv _ _ R)] at z
     exact nF z
    ·exact fr a z (Bv.mpr ⟨g,hg',R⟩)
  ·exact p.elim
 obtain ⟨m,G,s2⟩:=Gk hS h3
 have N:m∈S:=Ao G
 obtain ⟨u,z,F⟩:=m
 have J:z=.drw:=s2
 subst J
 obtain ⟨C,c0,k0,f0,D,_⟩:=hA.ok _ (Af _ N)
 have hw:(vs S)[i]? = some (some (.ref C)):=(Jc G).trans (congrArg some D)
 exact ⟨_,hw,h2 _ hw⟩
end
end DL
namespace NdS
open PySem
theorem kP{m:Nat}:∀{f i t:Nat},t<f->it m t i∈FX m f i
 | f+1,i,0,_=>Aa ..
 | f+1,i,t+1,h=>Ae _ (kP (Nat.lt_of_succ_lt_succ h))
theorem BI{m:Nat}(i:Nat):st (2 * m) i % m=st m (i % m):=by
 unfold st
 rw[Nat.mod_mod_of_dvd _ ⟨2,by omega⟩,Su,Nat.mul_mod]
 conv=>rhs; rw[Su,Nat.mul_mod,Nat.mod_mod]
theorem t9{m:Nat}:∀(t i:Nat),it (2 * m) t i % m=it m t (i % m)
 | 0,i=>rfl
 | t+1,i=>by
  show it (2 * m) t (st (2 * m) i) % m=it m t (st m (i % m))
  rw[t9 t,BI]
theorem W5{m i:Nat}(h:0<m):st m i<m:=Qz _ h
theorem Y1{m:Nat}(h:0<m):∀{t i:Nat},i<m->it m t i<m
 | 0,_,hi=>hi
 | t+1,i,hi=>Y1 h (t:=t) (W5 h)
theorem P9{m i:Nat}:st (2 * m) ((i+m) % (2 * m))=(st (2 * m) i+m) % (2 * m):=by
 unfold st
 have e:(i+m) * 5+1=i * 5+1+m+2 * (2 * m):=by omega
 rw[Su,Nat.mul_mod,Nat.mod_mod,<- Nat.mul_mod,<- Su,e,Nat.add_mul_mod_self_right,Su]
 conv=>rhs; rw[Su,Nat.mod_mod]
theorem uM{m:Nat}:∀(t i:Nat),i<2 * m->it (2 * m) t ((i+m) % (2 * m))=(it (2 * m) t i+m) % (2 * m)
 | 0,i,_=>rfl
 | t+1,i,h=>by
  show it (2 * m) t (st (2 * m) ((i+m) % (2 * m)))=_
  rw[P9,uM t _ (W5 (by omega))]
  rfl
theorem Pf{m:Nat}(g:Lc m)(h:it (2 * m) m 0=m):Lc (2 * m):=by
 obtain ⟨n,d,j⟩:=g
 have a:∀t,it (2 * m) (m+t) 0=(it (2 * m) t 0+m) % (2 * m):=λt=>by
  rw[eX,h]
  have:=uM (m:=m) t 0 (by omega)
  rw[Jq,Iy (show m<2 * m by omega)] at this
  exact this
 refine ⟨by omega,?_,λe b=>?_⟩
 ·have:=a m
  rw[h,show m+m=2 * m by omega,Nat.mod_self] at this
  exact this
 ·obtain ⟨t,p,l⟩:=bG (j (e % m) (Qz _ n))
  have k:=t9 (m:=m) t 0
  rw[Nat.zero_mod,l] at k
  have lt:it (2 * m) t 0<2 * m:=Y1 (by omega) (by omega)
  by_cases c:it (2 * m) t 0=e
  ·rw[<- c]; exact kP (by omega)
  ·have o:=a t
   have : (it (2 * m) t 0+m) % (2 * m)=e:=by
    generalize it (2 * m) t 0=x at k lt c
    have up:∀{y},m<=y->y<2 * m->y % m=y - m:=λ{y} d j=>by rw[Nat.mod_eq_sub_mod d,Iy (by omega)]
    by_cases i:x<m <;> by_cases f:e<m
    ·rw[Iy i,Iy f] at k; omega
    ·rw[Iy i,up (by omega) b] at k
     rw[Iy (by omega)]; omega
    ·rw[up (by omega) lt,Iy f] at k
     rw[show x+m=e+2 * m by omega,Nat.add_mod_right,Iy b]
    ·rw[up (by omega) lt,up (by omega) b] at k; omega
   rw[<- this,<- o]
   exact kP (by omega)
theorem vF:Lc 512:=Pf tG (by decide +kernel)
theorem pB:Lc 1024:=Pf vF (by decide +kernel)
theorem nW:Lc 2048:=Pf pB (by decide +kernel)
theorem oX:Lc 4096:=Pf nW (by decide +kernel)
theorem E6:Lc 8192:=Pf oX (by decide +kernel)
theorem x4:∀{i:Nat},i<=10->Lc (2 ^ (i+3))
 | 0,_=>X5 | 1,_=>DY | 2,_=>AK | 3,_=>BL | 4,_=>S9 | 5,_=>tG
 | 6,_=>vF | 7,_=>pB | 8,_=>nW | 9,_=>oX | 10,_=>E6
 | i+11,h=>absurd h (by omega)
theorem mH{n:Nat}(a:n<8192):∀(j i f:Nat),i+j=10->∃k,i<=k/\k<=10/\Lu n (f+j+1) (2 ^ (i+3))=2 ^ (k+3)/\n<2 ^ (k+3)
 | 0,i,f,h=>by
  have : i=10:=by omega
  subst this
  refine ⟨10,Ak _,Ak _,?_,a⟩
  unfold Lu
  rw[if_neg (by show ¬ 8192<=n; omega)]
 | j+1,i,f,h=>by
  by_cases c:2 ^ (i+3)<=n
  ·obtain ⟨k,g,d,b,e⟩:=mH a j (i+1) f (by omega)
   refine ⟨k,by omega,d,?_,e⟩
   rw[<- b,show f+(j+1)+1=(f+j+1)+1 by omega]
   show (if 2 ^ (i+3)<=n then Lu n (f+j+1) (2 ^ (i+3) * 2) else _)=_
   rw[if_pos c,<- Qk]
  ·refine ⟨i,Ak _,by omega,?_,Nat.lt_of_not_le c⟩
   show (if 2 ^ (i+3)<=n then Lu n (f+(j+1)) (2 ^ (i+3) * 2) else _)=_
   rw[if_neg c]
theorem B1{n:Nat}(b:n<8192):∃m,Wl n=m+1/\Lc (m+1)/\n<=m/\7<=m/\m<8192/\m % 2=1:=by
 obtain ⟨k,g,d,a,h⟩:=mH b 10 0 53 rfl
 have c:Wl n=2 ^ (k+3):=a
 have e:2 ^ (k+3)=2 ^ k * 8:=Nat.pow_add 2 k 3
 have p:0<2 ^ k:=Nat.pow_pos (by decide)
 have up:2 ^ (k+3)<=2 ^ 13:=Gd (by decide) (by omega)
 have f:2 ^ (k+3)<=8192:=up
 refine ⟨2 ^ (k+3) - 1,by omega,?_,by omega,by omega,by omega,by omega⟩
 rw[show 2 ^ (k+3) - 1+1=2 ^ (k+3) by omega]
 exact x4 d
theorem xF{t:Cj}{es:Array (Int×Value)}{a:Nat}(f:t.plain=true)(hw:a<8192)(n:es.size * 2<=a):∃(t':Cj) (order:Array Nat),t.relaid (es.map (·.1)) a=some (t',order)/\order.toList.Perm (Ck es.size)/\Tab es.size t'/\t'.mask % 2=1/\Wl a<=8192/\t'.led=t.led:=by
 obtain ⟨m,i,g,l,k,j,e⟩:=B1 hw
 have sz:(es.map (·.1)).size=es.size:=Qm ..
 obtain ⟨t',order,c,d,b,h⟩:=B0 (mask:=m) (finger:=t.finger) (moves:=t.movedTo m) (led:=t.led) g (es.map (·.1)) (by rw[sz]; omega)
 rw[sz] at d b
 refine ⟨t',order,?_,d,b,?_,by omega,h⟩
 ·unfold SetTable.relaid
  rw[i,Nat.add_sub_cancel,f]
  exact c
 ·rw[(Xm c).2.1]; exact e
def Ln(t:Cj):Nat->Dx->Dx
 | 0,p=>p
 | k+1,p=>Ln t k (t.advance p)
structure WayOk(t:Cj)(p:Dx):Prop where
 more:p.more<=9
 top:p.j+p.more<=t.mask
 dum:p.dummy=none
theorem WayOk.next{t:Cj}{p:Dx}(x:WayOk t p):WayOk t (t.advance p):=by
 obtain ⟨d,f,a⟩:=x
 unfold Lk
 split
 ·exact ⟨by dsimp only; omega,by dsimp only; omega,a⟩
 ·rw[jH]
  have b:(p.i * 5+1+p.perturb / 32) % (t.mask+1)<=t.mask:=iZ.mp (Qz _ (Vh _))
  have c:=iE b
  have e:=Ur t.mask ((p.i * 5+1+p.perturb / 32) % (t.mask+1))
  exact ⟨Zf _ _,by dsimp only; omega,a⟩
theorem Vc{t:Cj}(h:Int):WayOk t (t.probeStart h):=by
 have a:Dc h % (t.mask+1)<=t.mask:=iZ.mp (Qz _ (Vh _))
 have b:=iE a
 have c:=Ur t.mask (Dc h % (t.mask+1))
 exact ⟨Zf _ _,by show Dc h % (t.mask+1)+(Dk t.mask (Dc h % (t.mask+1)) - Dc h % (t.mask+1))<=t.mask; omega,rfl⟩
theorem jN{t:Cj}:∀(k:Nat) (p:Dx),p.more=k->∃q:Dx,Ln t (k+1) p=q/\q.j=((p.i * 5+1+p.perturb / 32) % (t.mask+1))/\q.i=q.j/\q.perturb=p.perturb / 32/\q.more<=9
 | 0,p,h=>by
  refine ⟨_,rfl,?_⟩
  show (t.advance p).j=_/\(t.advance p).i=(t.advance p).j/\(t.advance p).perturb=_/\(t.advance p).more<=9
  unfold Lk
  rw[if_neg (by omega),jH]
  exact ⟨rfl,rfl,rfl,Zf _ _⟩
 | k+1,p,h=>by
  have e:t.advance p={ p with j:=p.j+1,more:=p.more - 1 }:=by
   unfold Lk
   rw[if_pos (by omega)]
  obtain ⟨q,d,b,c,a,f⟩:=jN k (t.advance p) (by rw[e]; show p.more - 1=k; omega)
  rw[e] at b a
  exact ⟨q,d,b,c,a,f⟩
theorem Ng{t:Cj}:∀(a b:Nat) (p:Dx),Ln t (a+b) p=Ln t b (Ln t a p)
 | 0,b,p=>by rw[Jq]; rfl
 | a+1,b,p=>by rw[aJ]; exact Ng a b _
theorem gM{t:Cj}:∀(u:Nat) (p:Dx),p.more<=9->∃k,k<=p.more+1+10 * u/\(Ln t k p).j=(lp (t.mask+1) (u+1) p.i p.perturb).1
 | 0,p,h=>by
  obtain ⟨q,a,b,c,d,e⟩:=jN (t:=t) p.more p rfl
  exact ⟨p.more+1,by omega,by rw[a]; exact b⟩
 | u+1,p,h=>by
  obtain ⟨q,a,b,c,d,e⟩:=jN (t:=t) p.more p rfl
  obtain ⟨k,g,f⟩:=gM u q e
  refine ⟨p.more+1+k,by omega,?_⟩
  rw[Ng,a,f,c,b,d]
  rfl
theorem xV{t:Cj}{n:Nat}(x:Tab n t)(h:Int):∃k,k<10 * Fj t.mask/\t.slot (Ln t k (t.probeStart h)).j=.empty:=by
 have l:=bL x
 obtain ⟨e,c,a⟩:=P5 (m:=t.mask+1) x.rise (by rw[Al,x.size]; omega)
 obtain ⟨u,o,b⟩:=pI x.good (i:=Dc h % (t.mask+1)) (p:=Dc h) (e:=e) (Qz _ (Vh _)) (sX h) c
 have f:10 * Fj t.mask=10 * t.mask+150:=by unfold Fj; omega
 cases u with
 | zero=>exact ⟨0,by omega,(Pe x.toTabOk).mpr (by rw[show (Ln t 0 (t.probeStart h)).j=e from b]; exact a)⟩
 | succ u =>
  obtain ⟨k,g,d⟩:=gM (t:=t) u (t.probeStart h) (Vc h).more
  have:=(Vc (t:=t) h).more
  exact ⟨k,by omega,(Pe x.toTabOk).mpr (by rw[d,show (lp (t.mask+1) (u+1) (t.probeStart h).i (t.probeStart h).perturb).1=e from b]; exact a)⟩
theorem xW{t:Cj}{n j i:Nat}(x:TabOk n t)(h:t.slot j=.live i):i<n:=by
 unfold Vz at h
 dsimp only at h
 split at h
 ·rename_i c
  injection h with h
  subst h
  have a:t.place[Co t.place j]? = some j:=by simpa using c
  have:=(Iz.mp a).1
  rw[<- x.size]
  exact this
 ·split at h <;> cases h
end NdS
namespace NdS
open PySem PyProof.Rows
def wj(m:Nat)(p:Dx):Nat->Nat:=λk=>(Ln { mask:=m,place:=#[],dummies:=#[],finger:=0,led:=true,moves:=0,plain:=true } k p).j
theorem G4{t u:Cj}(h:t.mask=u.mask)(p:Dx):t.advance p=u.advance p:=by
 unfold Lk
 rw[h]
theorem dU{t u:Cj}(h:t.mask=u.mask):∀(k:Nat) (p:Dx),Ln t k p=Ln u k p
 | 0,_=>rfl
 | k+1,p=>by
  show Ln t k (t.advance p)=Ln u k (u.advance p)
  rw[G4 h,dU h k]
theorem cA{t u:Cj}(h:t.mask=u.mask)(x:Int):t.probeStart x=u.probeStart x:=by
 unfold SetTable.probeStart
 rw[h]
def aD(t:Cj)(P:Nat->Prop)(h:Int)(j:Nat):Prop:=∃k,(Ln t k (t.probeStart h)).j=j/\∀a,a<k->P (Ln t a (t.probeStart h)).j
theorem aD.mono{t u:Cj}{P Q:Nat->Prop}{h:Int}{j:Nat}(x:aD t P h j)(e:t.mask=u.mask)(s:∀i,P i->Q i):aD u Q h j:=by
 obtain ⟨k,d,c⟩:=x
 refine ⟨k,?_,λb a=>?_⟩
 ·rw[<- dU e,<- cA e]; exact d
 ·rw[<- dU e,<- cA e]; exact s _ (c b a)
def EA(t:Cj)(es:List Int):Prop:=∀x∈es.zip t.place.toList,aD t (·∈t.place.toList) x.1 x.2
theorem cR{t:Cj}:∀(k:Nat) (p:Dx),k<=p.more->Ln t k p={ p with j:=p.j+k,more:=p.more - k }
 | 0,_,_=>rfl
 | k+1,p,h=>by
  show Ln t k (t.advance p)=_
  have e:t.advance p={ p with j:=p.j+1,more:=p.more - 1 }:=by
   unfold Lk
   rw[if_pos (by omega)]
  rw[e,cR k _ (by show k<=p.more - 1; omega)]
  simp only[SetTable.Probe.mk.injEq,and_true,true_and]
  omega
def Sn(m i a:Nat):Dx:={ j:=i,more:=Dk m i - i,i:=i,perturb:=a,dummy:=none }
theorem F3{t:Cj}(i a:Nat):Ln t (Dk t.mask i - i+1) (Sn t.mask i a)=Sn t.mask ((i * 5+1+a / 32) % (t.mask+1)) (a / 32):=by
 rw[Ng,cR (Dk t.mask i - i) (Sn t.mask i a) (Ak _)]
 show t.advance _=_
 unfold Lk
 rw[if_neg (by show ¬ (Dk t.mask i - i - (Dk t.mask i - i) > 0); omega),jH]
 rfl
theorem mE{t:Cj}{owner:Array (Option Nat)}:∀(fuel i d j:Nat),Dy t.mask owner fuel i d=some j->∃k,(Ln t k (Sn t.mask i d)).j=j/\∀b,b<k->(owner.getD (Ln t b (Sn t.mask i d)).j (some 0)).isNone=false
 | 0,_,_,_,h=>by unfold Dy at h; cases h
 | fuel+1,i,d,j,h=>by
  unfold Dy at h
  split at h
  ·rename_i k m
   injection h with h
   obtain ⟨z,f,bs,w,q⟩:=List.find?_eq_some_iff_append.mp m
   have r:∀(n:Nat) (f bs:List Nat) (k:Nat),Ck n=f++k::bs->f=Ck k/\k<n:=λn f bs k e=>by
    have x:f.length<n:=by
     have:=congrArg Ek e
     rw[Ex,Az,Bg] at this
     omega
    have g:(Ck n)[f.length]? = some k:=by rw[e]; simp
    rw[List.getElem?_range x] at g
    injection g with g
    refine ⟨?_,by omega⟩
    have p:=congrArg (List.take f.length) e
    rw[List.take_left',List.take_range,Qa (by omega)] at p
    ·rw[<- p,g]
    ·rfl
   obtain ⟨v,y⟩:=r _ _ _ _ w
   refine ⟨k,?_,λb l=>?_⟩
   ·rw[cR k _ (by show k<=Dk t.mask i - i; omega)]
    exact h
   ·rw[cR b _ (by show b<=Dk t.mask i - i; omega)]
    have:=q b (by rw[v]; exact Hj.mpr l)
    show (owner.getD (i+b) (some 0)).isNone=false
    rw[Jn] at this
    exact this
  ·rename_i m
   have none:=List.find?_eq_none.mp m
   obtain ⟨k,u,s⟩:=mE fuel _ _ j h
   have o:Ln t (Dk t.mask i - i+1) (Sn t.mask i d)=Sn t.mask (SetTable.leap t.mask i d).1 (SetTable.leap t.mask i d).2:=F3 i d
   refine ⟨Dk t.mask i - i+1+k,by rw[Ng,o]; exact u,λb l=>?_⟩
   by_cases c:b<=Dk t.mask i - i
   ·rw[cR b _ c]
    have a:=Ur t.mask i
    have:=none b (Hj.mpr (by omega))
    show (owner.getD (i+b) (some 0)).isNone=false
    exact Bool.eq_false_iff.mpr this
   ·rw[show b=Dk t.mask i - i+1+(b - (Dk t.mask i - i+1)) by omega,Ng,o]
    exact s _ (by omega)
theorem F5{t:Cj}:∀(k:Nat) (p:Dx),WayOk t p->WayOk t (Ln t k p)
 | 0,_,h=>h
 | k+1,_,h=>F5 k _ h.next
theorem DW{t:Cj}(k:Nat)(h:Int):(Ln t k (t.probeStart h)).j<=t.mask:=by
 have:=(F5 k _ (Vc (t:=t) h)).top
 omega
def eQ(owner:Array (Option Nat))(i:Nat):Prop:=(owner.getD i (some 0)).isNone=false
def AA(t:Cj)(H:Nat->Int)(owner:Array (Option Nat)):Prop:=∀j k,owner[j]? = some (some k)->aD t (eQ owner) (H k) j
theorem oG{m:Nat}:∀a:List Int,a.foldl (kJ m) none=none
 | []=>rfl
 | h::a=>by rw[List.foldl_cons]; exact oG a
theorem iL{owner:Array (Option Nat)}{j n i:Nat}(h:eQ owner i):eQ (owner.setIfInBounds j (some n)) i:=by
 unfold eQ at *
 rw[By] at *
 rw[fZ]
 split
 ·split <;> rfl
 ·exact h
theorem tW{t:Cj}{H:Nat->Int}:∀(f:List Int) (owner:Array (Option Nat)) (n:Nat) (a:Array (Option Nat)) (n':Nat),f.foldl (kJ t.mask) (some (owner,n))=some (a,n')->(∀i h,f[i]? = some h->H (n+i)=h)->AA t H owner->AA t H a/\a.size=owner.size
 | [],owner,n,a,n',e,_,x=>by
  rw[List.foldl_nil] at e
  injection e with e
  injection e with d e2
  rw[<- d]
  exact ⟨x,rfl⟩
 | h::f,owner,n,a,n',e,eH,x=>by
  rw[List.foldl_cons] at e
  cases g:Dy t.mask owner (Fj t.mask) (Dc h % (t.mask+1)) (Dc h) with
  | none =>
   have d:kJ t.mask (some (owner,n)) h=none:=by
    show (do
     let j <- Dy t.mask owner (Fj t.mask) (Dc h % (t.mask+1)) (Dc h)
     pure (owner.setIfInBounds j (some n),n+1))=_
    rw[g]
    rfl
   rw[d,oG] at e
   cases e
  | some j =>
   have d:kJ t.mask (some (owner,n)) h=some (owner.setIfInBounds j (some n),n+1):=by
    show (do
     let j <- Dy t.mask owner (Fj t.mask) (Dc h % (t.mask+1)) (Dc h)
     pure (owner.setIfInBounds j (some n),n+1))=_
    rw[g]
    rfl
   rw[d] at e
   refine (λz=>⟨z.1,z.2.trans (Mp ..)⟩) (tW f _ _ a n' e (λi o q=>?_) λl k b=>?_)
   ·rw[show n+1+i=n+(i+1) by omega]
    exact eH (i+1) o q
   ·rw[fZ] at b
    split at b
    ·rename_i c
     split at b
     ·injection b with b
      injection b with b
      obtain ⟨s,p,m⟩:=mE (t:=t) _ _ _ _ g
      have r:H k=h:=by rw[<- b]; exact eH 0 h rfl
      rw[r,<- c]
      exact aD.mono (P:=eQ owner) ⟨s,p,m⟩ rfl λi z=>iL z
     ·cases b
    ·exact (x l k b).mono rfl λi z=>iL z
theorem vR{mask finger moves:Nat}{led plain:Bool}{c:Array Int}{t:Cj}{order:Array Nat}(h:Ie mask finger moves led plain c=some (t,order)):EA t (order.toList.map λk=>c.getD k 0):=by
 have p:=(Xm h).2.1
 unfold Ie at h
 cases b:Kw mask c with
 | none=>rw[b] at h; cases h
 | some a =>
  rw[b] at h
  have x:AA t (λk=>c.getD k 0) a/\a.size=mask+1:=by
   unfold Kw at b
   rw[<- Array.foldl_toList] at b
   replace b:(c.toList.foldl (kJ mask) (some (Pc (mask+1) none,0))).map (·.1)=some a:=b
   cases e:c.toList.foldl (kJ mask) (some (Pc (mask+1) none,0)) with
   | none=>rw[e] at b; cases b
   | some r =>
    obtain ⟨o,n⟩:=r
    rw[e] at b
    injection b with b
    rw[<- b]
    have E:=e
    rw[<- p] at e
    have z:=tW (t:=t) (H:=λk=>c.getD k 0) _ _ _ _ _ e (λi h u=>by
     rw[Jq,By,<- Gm,u]
     rfl) λj k f=>by
     rw[Array.getElem?_replicate] at f
     split at f <;> simp at f
    exact ⟨z.1,by rw[z.2,Array.size_replicate,p]⟩
  obtain ⟨x,sz⟩:=x
  cases h
  intro y g
  have w:∀i,i<=mask->eQ a i->i∈((Ck (mask+1)).filterMap λj=>(a.getD j none).map λx=>(j,x)).map (·.1):=λi u z=>by
   unfold eQ at z
   have lt:i<a.size:=by omega
   rw[By,Fg lt] at z
   cases q:a[i] with
   | none=>rw[q] at z; simp at z
   | some v =>
    refine Bs.mpr ⟨(i,v),Ks.mpr ⟨i,Hj.mpr (by omega),?_⟩,rfl⟩
    rw[By,Fg lt,q]
    rfl
  dsimp only at g ⊢
  rw[Dz,List.zip_map'] at g
  obtain ⟨⟨j,k⟩,l,rfl⟩:=Bs.mp g
  obtain ⟨F,I,d⟩:=Ks.mp l
  have D:a[j]? = some (some k):=by
   rw[By] at d
   cases q:a[F]? with
   | none=>rw[q] at d; cases d
   | some v =>
    rw[q] at d
    cases v with
    | none=>cases d
    | some v=>cases d; exact q
  have A:=x j k D
  obtain ⟨G,C,B⟩:=A
  refine ⟨G,C,λs m=>?_⟩
  exact w _ (DW s _) (B s m)
theorem EA.put{t:Cj}{a:List Int}{h:Int}{j p:Nat}(x:EA t a)(len:a.length=t.place.size)(o:aD t (·∈t.place.toList) h j):EA { t with place:=Cr t.place p j } (a.take p++h::a.drop p):=by
 have c:=Sq t.place p j
 rw[Jk] at c
 have up:∀i,i∈t.place.toList->i∈(Cr t.place p j).toList:=λi g=>c.mem_iff.mpr (Af _ g)
 intro y d
 have b:y∈(a.take p++h::a.drop p).zip (t.place.toList.take p++j::t.place.toList.drop p):=by
  have e:=Qs t.place p j
  have f:(Cr t.place p j).toList=t.place.toList.take p++j::t.place.toList.drop p:=by first | exact e | (rw[e]; simp)
  rw[<- f]
  exact d
 rw[List.zip_append (by rw[Dl,Dl,len,Al]),Qu] at b
 rcases Ai.mp b with z | z
 ·have : y∈a.zip t.place.toList:=by
   rw[List.zip_eq_zipWith,<- List.take_zipWith] at z
   exact List.mem_of_mem_take z
  exact (x y this).mono rfl up
 ·rcases Aj.mp z with rfl | z
  ·exact o.mono rfl up
  ·have : y∈a.zip t.place.toList:=by
    rw[List.zip_eq_zipWith,<- List.drop_zipWith] at z
    exact Wm z
   exact (x y this).mono rfl up
theorem pG{c:Type}{es:Array (Int×c)}:∀L:List Nat,(∀k∈L,k<es.size)->(L.filterMap (es[·]?)).map (·.1)=L.map λk=>(es.map (·.1)).getD k 0
 | [],_=>rfl
 | k::L,h=>by
  have a:=h k Aa
  rw[Ih,Fg a]
  dsimp only
  rw[Aw,Aw,pG L λi b=>h i (Ae _ b),By,Array.getElem?_map,Fg a]
  rfl
theorem oP{t:Cj}{n:Nat}(x:TabOk n t){f:Nat->Int}{h:Int}:∀(fuel k:Nat) (p:Dx),WayOk t p->k<fuel->t.slot (Ln t k p).j=.empty->(∃j m,Uh t f h fuel p=some (.empty j none)/\t.slot j=.empty/\j<=t.mask/\(Ln t m p).j=j/\∀l,l<m->t.slot (Ln t l p).j≠.empty/\∀i,t.slot (Ln t l p).j=.live i->f i≠h)\/(∃j i m s,Uh t f h fuel p=some (.candidate j i (Ln t (m+1) p))/\t.slot j=.live i/\f i=h/\s+m+1=k/\WayOk t (Ln t (m+1) p)/\t.slot (Ln t s (Ln t (m+1) p)).j=.empty/\(Ln t m p).j=j/\∀l,l<m->t.slot (Ln t l p).j≠.empty/\∀i,t.slot (Ln t l p).j=.live i->f i≠h)
 | 0,k,p,_,h,_=>absurd h (Fl _)
 | fuel+1,k,p,w,hk,he=>by
  unfold Uh
  split
  ·rename_i r
   exact .inl ⟨p.j,0,by rw[w.dum],r,by have:=w.top; omega,rfl,λl z=>absurd z (Fl _)⟩
  ·rename_i r
   exact absurd r (cF x)
  ·rename_i i r
   cases k with
   | zero=>exact absurd (show t.slot p.j=.empty from he) (by rw[r]; intro z; cases z)
   | succ k =>
    by_cases c:(f i == h)=true
    ·rw[if_pos c]
     exact .inr ⟨p.j,i,0,k,rfl,r,by simpa using c,by omega,w.next,he,rfl,λl z=>absurd z (Fl _)⟩
    ·rw[if_neg c]
     have v:t.slot p.j≠.empty/\∀i,t.slot p.j=.live i->f i≠h:=⟨by rw[r]; exact λz=>(by cases z),λu z=>by
      rw[r] at z
      injection z with z
      rw[<- z]
      simpa using c⟩
     have o:∀{m:Nat},(∀l,l<m->t.slot (Ln t l (t.advance p)).j≠.empty/\∀i,t.slot (Ln t l (t.advance p)).j=.live i->f i≠h)->∀l,l<m+1->t.slot (Ln t l p).j≠.empty/\∀i,t.slot (Ln t l p).j=.live i->f i≠h:=λ{m} q l y=>by
      cases l with
      | zero=>exact v
      | succ l=>exact q l (by omega)
     rcases oP x fuel k _ w.next (by omega) he with ⟨j,m,a,b,c,d,e⟩ | ⟨j,u,m,s,a,b,c,d,e,f,g,q⟩
     ·exact .inl ⟨j,m+1,a,b,c,d,o e⟩
     ·exact .inr ⟨j,u,m+1,s,a,b,c,by omega,e,f,g,o q⟩
theorem qF{t:Cj}{n j i:Nat}(x:TabOk n t)(h:t.place.toList[i]? = some j):t.slot j=.live i:=by
 have b:=cH x.rise j
 have e:Co t.place j=i:=by
  have c:=(An.mp h).1
  have a:i<t.place.size:=by rw[<- Al]; exact c
  have d:t.place[i]=j:=by
   have:=(An.mp h).2
   simpa using this
  rcases Ss (Co t.place j) i with z | z | z
  ·have:=b.hi (Co t.place j) (by omega) (Ak _)
   have:=Fh.mp x.rise (Co t.place j) i (by rw[Al]; omega) c z
   simp at this
   omega
  ·exact z
  ·have:=b.lo i a z
   omega
 unfold Vz
 dsimp only
 rw[e,<- Gm,h,if_pos (by simp)]
def zW(prog:Bz)(w:World)(U:List (List Int))(h:Heap)(e:Int×Value):Prop:=∃(b:Addr) (a:List Int),e=(Cb (Cp prog w) a,.ref b)/\Ho (Cp prog w) h a b/\a∈U
structure SetT(prog:Bz)(w:World)(U:List (List Int))(h:Heap)(a:Addr)(es:Array (Int×Value))(ep:Nat)(t:Cj):Prop where
 obj:h.get? a=some (Kn es ep t)
 ent:∀e∈es.toList,zW prog w U h e
 tab:Tab es.size t
 odd:t.mask % 2=1
 top:t.mask<8192
 few:es.size<=1100
 led:bt w=false->t.led=true
 nd:U.Nodup
 sz:es.size=U.length
 all:∀u∈U,∃e∈es.toList,∃b,e=(Cb (Cp prog w) u,Am b)/\Ho (Cp prog w) h u b
 ways:EA t (es.toList.map (·.1))
def Kept(h h':Heap):Prop:=∀b o,o.cls=.type "set" \/ o.cls=.type "tuple" -> h.get? b=some o->h'.get? b=some o
def Xv(h h':Heap):Prop:=∀b o,o.cls=.type "tuple" -> h.get? b=some o->h'.get? b=some o
theorem Kept.t{h h':Heap}(k:Kept h h'):Xv h h':=λb o c e=>k b o (.inr c) e
theorem zW.keep{prog:Bz}{w:World}{U V:List (List Int)}{h h':Heap}{e:Int×Value}(x:zW prog w U h e)(k:Xv h h')(s:∀y∈U,y∈V):zW prog w V h' e:=by
 obtain ⟨b,g,e,⟨o,a,n,i,c,f,j⟩,d⟩:=x
 exact ⟨b,g,e,⟨o,a,n,k b o c i,c,f,j⟩,s _ d⟩
theorem Uz{prog:Bz}{w:World}{h h':Heap}{d:List Int}{b:Addr}(x:Ho (Cp prog w) h d b)(k:Xv h h'):Ho (Cp prog w) h' d b:=by
 obtain ⟨o,a,n,f,c,e,g⟩:=x
 exact ⟨o,a,n,k b o c f,c,e,g⟩
theorem SetT.keep{prog:Bz}{w:World}{U:List (List Int)}{h h':Heap}{a:Addr}{es:Array (Int×Value)}{d:Nat}{t:Cj}(S:SetT prog w U h a es d t)(k:Kept h h'):SetT prog w U h' a es d t :=
 ⟨k _ _ (.inl rfl) S.obj,λe c=>(S.ent e c).keep k.t λ_ z=>z,S.tab,S.odd,S.top,S.few,S.led,S.nd,S.sz,λu g=>by obtain ⟨e,c,b,f,x⟩:=S.all u g; exact ⟨e,c,b,f,Uz x k.t⟩,S.ways⟩
theorem dX{h h':Heap}{a:Addr}{o:Obj}(f:h.get? a=some o)(d:o.cls≠.type "tuple")(g:Lx a h h'):Xv h h':=λb i c e=>by
 by_cases z:b=a
 ·subst z
  rw[f] at e
  cases e
  exact absurd c d
 ·exact (g.2 b z).trans e
theorem u6{n:Nat}(h:n<=1200):n<=Bf:=by rw[Le]; omega
section
variable{prog:Bz}{w:World}{A:Dm}{E:Value->Ap->Prop}{s:Ap}{U:List (List Int)}
theorem Up{a:Addr}{es:Array (Int×Value)}{b:Nat}{t:Cj}{Q:(Array (Int×Value)×Nat×Cj)->Ap->Prop}(S:SetT prog w U s.heap a es b t)(h:Q (es,b,t) s):wpAny (model prog w) A (setState a) Q E s :=
 wpAny_setState_of S.obj rfl S.tab.fits h
theorem A8{B:List Int}{a:Addr}{Q:Bool->Ap->Prop}(j:Ho (Cp prog w) s.heap B a)(h:Q true s):wpAny (model prog w) A (aH 8 (.ref a)) Q E s:=by
 have p:=j.typeIs
 obtain ⟨o,b,n,t,_,y,x⟩:=j
 unfold aH
 refine Ah (wpAny_specialOf p F.slot_tuple_hash.lookup ?_)
 dsimp only
 refine Ah (wpAny_seqItems t y ?_)
 refine Ah ?_
 show wpAny _ _ (forIn b _ _) _ _ s
 rw[<- Array.forIn_toList]
 refine Vv _ (λGx r g=>r.1=none/\g=s/\∃l,ItemsAre (Cp prog w) l Gx) _ ?_ ?_ _ _ ⟨rfl,rfl,_,x⟩
 ·(intro v Gx r g e; obtain ⟨f,rfl,l,d⟩ := e)
  cases d with
  | @cons k H q u i C =>
   obtain ⟨c,rfl⟩ : ∃c,v=.int k c:=by
    cases v <;> simp [Cp,Value.isInt] at i
    rename_i z c
    exact ⟨c,by rw[i]⟩
   refine Ah (m:=aH 7 (.int k c)) (wpAny_of_eq (a:=true) (show aH 7 (.int k c)=pure true by unfold aH; rfl) ?_)
   simp only[Ms,Bx,if_false]
   exact Au ⟨rfl,rfl,_,C⟩
 ·(rintro ⟨D,G⟩ g e; obtain ⟨f,rfl,_⟩ := e)
  simp only at f
  subst f
  exact Au h
theorem hW{B:List Int}{a:Addr}{Q:Bool->Ap->Prop}(j:Ho (Cp prog w) s.heap B a)(h:Q false s):wpAny (model prog w) A (Os 8 (.ref a)) Q E s:=by
 have p:=j.typeIs
 obtain ⟨o,b,n,t,_,y,x⟩:=j
 unfold Os
 refine Ah (Mt p ?_)
 dsimp only
 rw[if_pos (by decide)]
 refine Ah (Au ?_)
 simp only[Ms,Bx,if_false]
 refine Ah (wpAny_seqItems t y ?_)
 dsimp only
 refine Ah ?_
 show wpAny _ _ (forIn b _ _) _ _ s
 rw[<- Array.forIn_toList]
 refine Vv _ (λGx r g=>r.1=none/\g=s/\∃l,ItemsAre (Cp prog w) l Gx) _ ?_ ?_ _ _ ⟨rfl,rfl,_,x⟩
 ·(intro v Gx r g e; obtain ⟨f,rfl,l,d⟩ := e)
  cases d with
  | @cons k G q u i C =>
   obtain ⟨c,rfl⟩ : ∃c,v=.int k c:=by
    cases v <;> simp [Cp,Value.isInt] at i
    rename_i z c
    exact ⟨c,by rw[i]⟩
   refine Ah (m:=Os 7 (.int k c)) (wpAny_of_eq (a:=false) (show Os 7 (.int k c)=pure false by unfold Os; rfl) ?_)
   simp only[Bx,if_false]
   exact Au ⟨rfl,rfl,_,C⟩
 ·(rintro ⟨D,F⟩ g e; obtain ⟨f,rfl,_⟩ := e)
  simp only at f
  subst f
  exact Au h
theorem O5{x:Addr}{k:List Int}{stored:List Value}{Q:Bool->Ap->Prop}(j:Ho (Cp prog w) s.heap k x)(l:∀y∈stored,∃b d,y=Am b/\Ho (Cp prog w) s.heap d b)(h:Q false s):wpAny (model prog w) A (searchCouldBeSeen (.ref x) stored) Q E s:=by
 unfold searchCouldBeSeen
 refine Ah ?_
 refine Vv _ (λGx r i=>r.1=none/\i=s/\∀y∈Gx,∃b d,y=Am b/\Ho (Cp prog w) s.heap d b) _ ?_ ?_ _ _ ⟨rfl,rfl,l⟩
 ·(intro v Gx r i g; obtain ⟨f,rfl,c⟩ := g)
  obtain ⟨b,d,rfl,e⟩:=c _ (Aa ..)
  have a:=λy e=>c y (Ae _ e)
  dsimp only
  split
  ·exact Au ⟨rfl,rfl,a⟩
  ·refine Ah (wpAny_eqIsQuiet_tuple j ?_)
   simp only[Ms,Bx,if_false]
   refine Ah (wpAny_eqIsQuiet_tuple e ?_)
   simp only[Ms,Bx,if_false]
   refine Ah (hW j ?_)
   simp only[Bx,if_false]
   refine Ah (hW e ?_)
   simp only[Bx,if_false]
   exact Au ⟨rfl,rfl,a⟩
 ·(rintro ⟨m,n⟩ i g; obtain ⟨f,rfl,_⟩ := g)
  simp only at f
  subst f
  exact Au h
def W9(prog:Bz)(w:World)(h:Heap)(es:Array (Int×Value))(t:Cj)(c:List Int)(p:Dx):Prop :=
 ∃a i b,t.slot (Ln t a p).j=.live i/\es[i]? = some (Cb (Cp prog w) c,Am b)/\Ho (Cp prog w) h c b/\∀d,d<a->t.slot (Ln t d p).j≠.empty
theorem oH{a:Addr}{c:List Int}{es:Array (Int×Value)}{o:Nat}{t:Cj}(S:SetT prog w U s.heap a es o t)(h:c∈U):W9 prog w s.heap es t c (t.probeStart (Cb (Cp prog w) c)):=by
 obtain ⟨e,n,b,j,x⟩:=S.all c h
 obtain ⟨i,m,l⟩:=List.getElem_of_mem n
 have d:i<es.size:=by rw[<- Al]; exact m
 have g:i<t.place.toList.length:=by rw[Al,S.tab.size]; exact d
 have u:((es.toList.map (·.1)).zip t.place.toList)[i]? = some (Cb (Cp prog w) c,t.place.toList[i]):=by
  rw[List.getElem?_zip_eq_some]
  refine ⟨?_,Ba g⟩
  rw[Bo,Ba m,l,j]
  rfl
 obtain ⟨k,q,p⟩:=S.ways _ (Ao u)
 refine ⟨k,i,b,?_,?_,x,λr f=>?_⟩
 ·rw[q]
  exact qF S.tab.toTabOk (Ba g)
 ·rw[Fg d]
  have : es[i]=e:=by simpa using l
  rw[this,j]
 ·exact λz=>(Pe S.tab.toTabOk).mp z (p r f)
theorem aB{a x:Addr}{g:List Int}{es:Array (Int×Value)}{ep:Nat}{t:Cj}{Q:SetFound->Ap->Prop}(S:SetT prog w U s.heap a es ep t)(Y:A.units<cLine)(T:Ho (Cp prog w) s.heap g x)(h1:g∈U->Q (.there none) s)(h2:∀j,t.slot j=.empty->j<=t.mask->aD t (·∈t.place.toList) (Cb (Cp prog w) g) j->g∉U->Q (.free j false) s):∀(fuel k:Nat) (d:Option Dx),WayOk t (d.getD (t.probeStart (Cb (Cp prog w) g)))->k<fuel->k<10 * Fj t.mask->t.slot (Ln t k (d.getD (t.probeStart (Cb (Cp prog w) g)))).j=.empty->(∃o,Ln t o (t.probeStart (Cb (Cp prog w) g))=d.getD (t.probeStart (Cb (Cp prog w) g))/\∀v,v<o->t.slot (Ln t v (t.probeStart (Cb (Cp prog w) g))).j≠.empty)->(g∈U->W9 prog w s.heap es t g (d.getD (t.probeStart (Cb (Cp prog w) g))))->wpAny (model prog w) A (Ve a (.ref x) (Cb (Cp prog w) g) true fuel d) Q E s
 | 0,k,_,_,h,_,_,_,_=>absurd h (Fl _)
 | fuel+1,k,d,wo,hk,hk2,he,u,tgt=>by
  have gw:t.gaveWay=false:=by unfold SetTable.gaveWay; rw[S.odd]; rfl
  unfold Ve
  refine Ah (Up S ?_)
  dsimp only
  rw[gw]
  simp only[Bx,if_false]
  obtain ⟨o,q,u⟩:=u
  have Z:∀{i:Nat} {b:Addr},es[i]? = some (Cb (Cp prog w) g,Am b)->(es[i]?.map (·.1)).getD 0=Cb (Cp prog w) g:=λ{i b} e=>by rw[e]; rfl
  rcases oP S.tab.toTabOk (f:=λi=>(es[i]?.map (·.1)).getD 0) (h:=Cb (Cp prog w) g) (10 * Fj t.mask) k _ wo hk2 he with ⟨j,m,e,B,jm,em,F⟩ | ⟨j,i,m,v,e,B,ei,lt,O,P,em,F⟩
  ·have V:t.probe (λi=>(es[i]?.map (·.1)).getD 0) (Cb (Cp prog w) g) (d.getD (t.probeStart (Cb (Cp prog w) g)))=some (.empty j none):=e
   rw (transparency:=.all) [V]
   refine Au (h2 j B jm ⟨o+m,by rw[Ng,q]; exact em,λv h0=>?_⟩ λK=>?_)
   ·refine Hl λz=>?_
    have W:=(Pe S.tab.toTabOk).mpr z
    by_cases c:v<o
    ·exact u v c W
    ·rw[show v=o+(v - o) by omega,Ng,q] at W
     exact (F _ (by omega)).1 W
   ·obtain ⟨r,i,b,p,C,N,L⟩:=tgt K
    rcases Ss r m with z | z | z
    ·exact (F r z).2 i p (Z C)
    ·subst z
     rw[em,B] at p
     cases p
    ·exact L m z (by rw[em]; exact B)
  ·have V:t.probe (λi=>(es[i]?.map (·.1)).getD 0) (Cb (Cp prog w) g) (d.getD (t.probeStart (Cb (Cp prog w) g)))=some (.candidate j i (Ln t (m+1) (d.getD (t.probeStart (Cb (Cp prog w) g))))):=e
   rw (transparency:=.all) [V]
   dsimp only
   have hi:=xW S.tab.toTabOk B
   have D:es[i]? = some es[i]:=Fg hi
   obtain ⟨b,ky,R,I,K⟩:=S.ent es[i] (by simp)
   have Gx:wpAny (model prog w) A (do
     let some (_,y):=es[i]? | unsupported "internal:set-entry"
     let equal <- Jy [y] (eqBool y (.ref x))
     let (es',_,t') <- setState a
     if true && equal then return .there none
     let some same:=t'.sameMemory t.moves t.mask | unsupported "set.changed-during-lookup:is-the-new-block-at-the-old-address"
     let still <- match (if same then t'.slot j else .empty) with
      | .live H=>match es'[H]? with
       | some (_,y')=>do pure (if <- isSame y' y then some H else none)
       | none=>pure none
      | _=>pure none
     match still with
     | none=>rule "set.search.anew"; Ve a (.ref x) (Cb (Cp prog w) g) true fuel none
     | some H=>if equal then return .there (some H) else Ve a (.ref x) (Cb (Cp prog w) g) true fuel (some (Ln t (m+1) (d.getD (t.probeStart (Cb (Cp prog w) g)))))) Q E s:=by
    rw[D,R]
    dsimp only
    refine Ah (Fq (wpAny_eqBool_tuple Y I T ?_))
    refine Ah (Up S ?_)
    dsimp only
    by_cases c:ky=g
    ·rw[decide_eq_true c,if_pos (by decide)]
     exact Au (h1 (by rw[<- c]; exact K))
    ·rw[decide_eq_false c,if_neg (by decide)]
     have sm:t.sameMemory t.moves t.mask=some true:=by unfold SetTable.sameMemory; rw[if_pos (by simp)]
     rw[sm]
     dsimp only
     rw[if_pos rfl,B]
     dsimp only
     rw[D,R]
     dsimp only
     refine Ah (wpAny_isSame_ref_self (Ah (Au ?_)))
     rw[if_pos rfl]
     dsimp only
     rw[if_neg (by decide)]
     refine aB S Y T h1 h2 fuel v (some (Ln t (m+1) (d.getD (t.probeStart (Cb (Cp prog w) g))))) O (by omega) (by omega) P ⟨o+(m+1),by rw[Ng,q]; rfl,λn G z=>?_⟩ λM=>?_
     ·by_cases c:n<o
      ·exact u n c z
      ·rw[show n=o+(n - o) by omega,Ng,q] at z
       by_cases c2:n - o<m
       ·exact (F _ c2).1 z
       ·rw[show n - o=m by omega,em,B] at z
        cases z
     ·obtain ⟨r,X,b0,p,C,N,L⟩:=tgt M
      rcases Ss r m with z | z | z
      ·exact absurd (Z C) ((F r z).2 X p)
      ·subst z
       rw[em,B] at p
       injection p with p
       subst p
       rw[D,R] at C
       injection C with C
       injection C with a21 a22
       injection a22 with a22
       subst a22
       exact absurd (I.inj N) c
      ·refine ⟨r - (m+1),X,b0,?_,C,N,λn G=>?_⟩
       ·show t.slot (Ln t (r - (m+1)) (Ln t (m+1) _)).j=_
        rw[<- Ng,show m+1+(r - (m+1))=r by omega]
        exact p
       ·show t.slot (Ln t n (Ln t (m+1) _)).j≠_
        rw[<- Ng]
        exact L _ (by omega)
   by_cases l:t.led=true
   ·rw[l]
    simp only[Ms,Bx,if_false]
    exact Gx
   ·rw[Bool.not_eq_true] at l
    rw[l]
    simp only[Bool.not_false,if_true]
    refine Ah (O5 T (λy I=>?_) ?_)
    ·obtain ⟨e0,J,rfl⟩:=Bs.mp I
     obtain ⟨b',n,rfl,h3,_⟩:=S.ent e0 (by
      have:=Array.mem_def.mp (Array.mem_filter.mp (Array.mem_def.mpr J)).1
      exact this)
     exact ⟨b',n,rfl,h3⟩
    ·simp only[Bx,if_false]
     exact Gx
theorem xO{a x:Addr}{c:List Int}{es:Array (Int×Value)}{g:Nat}{t:Cj}{Q:SetFound->Ap->Prop}(S:SetT prog w U s.heap a es g t)(m:A.units<cLine)(i:Ho (Cp prog w) s.heap c x)(h1:c∈U->Q (.there none) s)(l:∀j,t.slot j=.empty->j<=t.mask->aD t (·∈t.place.toList) (Cb (Cp prog w) c) j->c∉U->Q (.free j false) s)(b k:Nat)(e:k<b)(d:k<10 * Fj t.mask)(f:t.slot (Ln t k (t.probeStart (Cb (Cp prog w) c))).j=.empty):wpAny (model prog w) A (Ve a (.ref x) (Cb (Cp prog w) c) true b none) Q E s :=
 aB S m i h1 l b k none (Vc _) e d f ⟨0,rfl,λn z=>absurd z (Fl _)⟩ λh=>oH S h
end
section
variable{prog:Bz}{w:World}{A:Dm}{E:Value->Ap->Prop}{s:Ap}{U:List (List Int)}
theorem IL{t:Cj}{es:Array (Int×Value)}(x:Tab es.size t)(e:Int×Value){j:Nat}(l:j∉t.place.toList)(g:j<=t.mask)(i:EA t (es.toList.map (·.1)))(d:aD t (·∈t.place.toList) e.1 j):∃b p,t.put j=(b,p)/\(Cr es p e).toList.Perm (es.toList++[e])/\(Cr es p e).size=es.size+1/\TabOk (es.size+1) b/\b.mask=t.mask/\b.plain=true/\b.led=t.led/\EA b ((Cr es p e).toList.map (·.1)):=by
 have m:=bL x
 have perm:=Sq es (Co t.place j) e
 rw[Jk] at perm
 have size:(Cr es (Co t.place j) e).size=es.size+1:=by
  rw[<- Al,perm.length_eq,Az,Al]
  rfl
 have c:=Sq t.place (Co t.place j) j
 rw[Jk] at c
 have a:(Cr t.place (Co t.place j) j).size=es.size+1:=by
  rw[<- Al,c.length_eq,Az,Al,x.size]
  rfl
 have h:SetTable.has t.dummies j=false:=by rw[x.dum]; rfl
 have ok:TabOk (es.size+1) { t with place:=Cr t.place (Co t.place j) j } :=
  ⟨x.good,x.dum,x.plain,lU x.rise l,λe f=>by
   rcases Ai.mp (c.mem_iff.mp f) with z | z
   ·exact x.top e z
   ·rw[Ab.mp z]; exact g,a⟩
 refine ⟨{ t with place:=Cr t.place (Co t.place j) j },Co t.place j,?_,perm,size,ok,rfl,x.plain,rfl,?_⟩
 ·unfold SetTable.put
  simp only[h,Bx,if_false]
 ·have k:(Cr es (Co t.place j) e).toList=es.toList.take (Co t.place j)++e::es.toList.drop (Co t.place j):=by
   have z:=Qs es (Co t.place j) e
   first | exact z | (rw[z]; simp)
  rw[k,Bc,Aw,Sv,Yj]
  exact i.put (by rw[Ac,Al,x.size]) d
theorem rE{a:Addr}{es:Array (Int×Value)}{J:Nat}{t:Cj}{c:Nat}{Q:Unit->Ap->Prop}(i:s.heap.get? a=some (Kn es J t))(q:∀e∈es.toList,zW prog w U s.heap e)(ok:TabOk es.size t)(le:es.size<=t.mask)(r:es.size<=1100)(led:bt w=false->t.led=true)(n:U.Nodup)(l:es.size=U.length)(g:∀u∈U,∃e∈es.toList,∃b,e=(Cb (Cp prog w) u,Am b)/\Ho (Cp prog w) s.heap u b)(hw:c<8192)(K:es.size * 2<=c)(h:∀d p t' h',Lx a s.heap h'->SetT prog w U h' a d p t'->d.size=es.size->d.toList.Perm es.toList->Q () { s with heap:=h' }):wpAny (model prog w) A (setRelay a c) Q E s:=by
 obtain ⟨t',order,j,B,D,H,L,G⟩:=xF (es:=es) ok.plain hw K
 obtain ⟨o,f⟩:=AR es B
 have mk:t'.mask<8192:=by
  unfold SetTable.relaid at j
  rw[(Xm j).2.1]
  omega
 unfold setRelay
 refine Ah (wpAny_setState_of i rfl (ok.fits le) ?_)
 dsimp only
 rw[if_neg (by rw[Le]; omega),j]
 refine Ah ?_
 show wpAny (model prog w) A (do
  if (order.filterMap (es[·]?)).size != es.size then unsupported "internal:set-table-lost-an-element"
  pure (order.filterMap (es[·]?),t')) _ _ _
 rw[if_neg (by rw[f]; simp)]
 refine Au ?_
 dsimp only
 refine wpAny_storeSet_of i rfl ?_ (u6 (by rw[f]; omega))
 have y:=Gc s.heap a (aI (order.filterMap (es[·]?)) t')
 have v:Xv s.heap _:=dX i (by show Ep "set" ≠ Ep "tuple"; decide) y
 exact h _ _ _ _ y ⟨uL i _ _,λe m=>(q e (o.mem_iff.mp m)).keep v λ_ z=>z,by rw[f]; exact D,H,mk,by rw[f]; exact r,λz=>by rw[G]; exact led z,n,by rw[f]; exact l,λu C=>by obtain ⟨e,m,b,F,x⟩:=g u C; exact ⟨e,o.mem_iff.mpr m,b,F,Uz x v⟩,by rw[pQ,pG _ λk I=>Hj.mp (B.mem_iff.mp I)]; exact vR j⟩ f o
theorem U0{a x:Addr}{c:List Int}{es:Array (Int×Value)}{ep:Nat}{t:Cj}{Q:Bool->Ap->Prop}(S:SetT prog w U s.heap a es ep t)(hn:es.size<1100)(hu:A.units<cLine)(D:Ho (Cp prog w) s.heap c x)(h0:c∈U->Q false s)(h:∀d n t' h',c∉U->Lx a s.heap h'->SetT prog w (c::U) h' a d n t'->(d.toList.map (·.2)).Perm (es.toList.map (·.2)++[Am x])->Q true { s with heap:=h' }):wpAny (model prog w) A (setAddHashed a (.ref x) (Cb (Cp prog w) c)) Q E s:=by
 unfold setAddHashed setAddHashedIn
 refine Fq (Ah (Up S ?_))
 dsimp only
 rw[if_neg (show ¬ (byScan (.ref x) es=true) from λz=>by simp [byScan,Value.scannable] at z)]
 obtain ⟨k,R,m⟩:=xV S.tab (Cb (Cp prog w) c)
 have O:k<100000:=by
  have:=S.top
  unfold Fj at R
  omega
 unfold setSearch
 refine Ah (xO S hu D (λP=>?_) (λj X jm Z K=>?_) 100000 k O R m)
 ·dsimp only
  refine Au ?_
  exact h0 P
 ·dsimp only
  refine Ah (Up S ?_)
  dsimp only
  obtain ⟨i,p,Y,F,L,f,V,N,B,J⟩:=IL S.tab (Cb (Cp prog w) c,Am x) ((Pe S.tab.toTabOk).mp X) jm S.ways Z
  rw[Y]
  dsimp only
  rw[N,if_pos rfl]
  refine Ah (A8 D ?_)
  rw[if_pos rfl]
  have I:(Cr es p (Cb (Cp prog w) c,Am x)).size<=1200:=by omega
  refine Ah (wpAny_storeSet_of S.obj rfl ?_ (u6 I))
  have M:=Gc s.heap a (aI (Cr es p (Cb (Cp prog w) c,Am x)) i)
  have G:Xv s.heap _:=dX S.obj (by show Ep "set" ≠ Ep "tuple"; decide) M
  have o:∀e∈(Cr es p (Cb (Cp prog w) c,Am x)).toList,zW prog w (c::U) s.heap e:=λe m=>by
   rcases Ai.mp (F.mem_iff.mp m) with z | z
   ·exact (S.ent e z).keep (λ_ _ _ z=>z) λ_ z=>Ae _ z
   ·rw[Ab.mp z]; exact ⟨x,c,rfl,D,Aa ..⟩
  have T:=uL S.obj (Cr es p (Cb (Cp prog w) c,Am x)) i
  have l:=λe m=>(o e m).keep G λ_ z=>z
  have P:=bL S.tab
  have y:(c::U).Nodup:=Bp.mpr ⟨K,S.nd⟩
  have r:(Cr es p (Cb (Cp prog w) c,Am x)).size=(c::U).length:=by rw[L,S.sz,Bg]
  have g:∀u∈c::U,∃e∈(Cr es p (Cb (Cp prog w) c,Am x)).toList,∃b,e=(Cb (Cp prog w) u,Am b)/\Ho (Cp prog w) _ u b:=λu hu=>by
   rcases Aj.mp hu with rfl | hu
   ·exact ⟨_,F.mem_iff.mpr (Ag _ (Ab.mpr rfl)),x,rfl,Uz D G⟩
   ·obtain ⟨e,m,b,eb,q⟩:=S.all u hu
    exact ⟨e,F.mem_iff.mpr (Af _ m),b,eb,Uz q G⟩
  have pv:((Cr es p (Cb (Cp prog w) c,Am x)).toList.map (·.2)).Perm (es.toList.map (·.2)++[Am x]):=by
   have:=F.map (·.2)
   rw[Bc] at this
   exact this
  by_cases C:i.tooFull=true
  ·rw[C,if_pos (by decide)]
   have W:SetTable.grown (es.size+1)=(es.size+1) * 4:=by unfold SetTable.grown; rw[if_neg (by omega)]
   rw[W]
   refine Ah (rE T l (by rw[L]; exact f) (by omega) (by omega) (λz=>by rw[B]; exact S.led z) y r g (by omega) (by omega) λd n t' h' H S' zz pz=>Au ?_)
   exact h d n t' h' K (M.trans H) S' ((pz.map (·.2)).trans pv)
  ·have v:(es.size+1) * 5<i.mask * 3:=by
    have : ¬ (i.fill * 5 ≥ i.mask * 3):=λz=>C (by unfold SetTable.tooFull; exact decide_eq_true z)
    have e:i.fill=es.size+1:=by
     unfold SetTable.fill
     rw[f.dum,f.size]
     rfl
    omega
   rw[Bool.not_eq_true] at C
   rw[C]
   simp only[Wo,Bx,if_false]
   refine Au ?_
   exact h _ _ i _ K M ⟨T,l,by rw[L]; exact ⟨f,v⟩,by rw[V]; exact S.odd,by rw[V]; exact S.top,by omega,λz=>by rw[B]; exact S.led z,y,r,g,J⟩ pv
end
section
variable{prog:Bz}{w:World}{A:Dm}{R:Result->Ap->Prop}
def Xb(prog:Bz)(w:World)(h:Heap)(vs:List Value)(ws:List (List Int)):Prop:=vs.length=ws.length/\∀(i:Nat) (c:i<vs.length) (a:i<ws.length),∃b,vs[i]=Am b/\Ho (Cp prog w) h ws[i] b
theorem Xb.keep{h h':Heap}{vs:List Value}{ws:List (List Int)}(x:Xb prog w h vs ws)(k:Xv h h'):Xb prog w h' vs ws :=
 ⟨x.1,λi c a=>by obtain ⟨b,e,z⟩:=x.2 i c a; exact ⟨b,e,Uz z k⟩⟩
theorem xG{a it l:Addr}(n1:a≠it)(n2:a≠l)(n3:l≠it){d:Array Value}{ws:List (List Int)}(h6:ws.length<=1100)(hh:A.in1.handled=none)(hu:A.in1.units<cLine):∀(k i:Nat) (s:Ap) (es:Array (Int×Value)) (J:Nat) (t:Cj) (U:List (List Int)),d.size - i=k->i<=d.size->s.heap.IsListIter it l i->s.heap.IsList l d->Xb prog w s.heap d.toList ws->SetT prog w U s.heap a es J t->es.size<=i->(∀x,x∈U↔x∈ws.take i)->(ws.Nodup->(es.toList.map (·.2)).Perm (d.toList.take i))->(∀v∈es.toList.map (·.2),v∈d.toList)->(∀y h4 t' h' G V,(∀b o,b≠a->b≠it->s.heap.get? b=some o->h'.get? b=some o)->SetT prog w V h' a y h4 t'->(∀x,x∈V↔x∈ws)->(ws.Nodup->(y.toList.map (·.2)).Perm d.toList)->(∀v∈y.toList.map (·.2),v∈d.toList)->R (.ok (.ret .none)) { s with heap:=h',toks:=G })->Ru (model prog w) A (.builtin "set.update.loop" ⟨[.ref a,.ref it],[]⟩) R s:=by
 intro k
 induction k with
 | zero =>
  intro i s es J t U hk hi m L I S hz C P N Z
  have len:d.size=ws.length:=by rw[<- I.1,Al]
  have e:i=d.size:=by omega
  refine Nz Sr ?_
  rw[Vr Ht _]
  show wpAny _ A.in1 (pyNext (.ref it) >>= _) _ _ s
  refine Ah (wpAny_pyNext_list_end hh m L (by rw[e]; simp) λh' x=>?_)
  have kp:Kept s.heap h':=λb o c q=>by
   refine x b o (λz=>?_) q
   subst z
   obtain ⟨o',B,c',_⟩:=m
   rw[B] at q
   cases q
   rw[c'] at c
   rcases c with c | c <;> exact absurd c (by decide)
  have S':=S.keep kp
  refine Au (Z es J t h' s.toks U (λb o _ q e=>x b o q e) S' (λx=>?_) (λz=>?_) N)
  ·rw[C x,Dt (by omega)]
  ·have q:=P z
   rw[e,Dt (by rw[Al]; exact Ak _)] at q
   exact q
 | succ k ih =>
  intro i s es J t U hk hi m L I S hz C P N Z
  have len:d.size=ws.length:=by rw[<- I.1,Al]
  have lt:i<d.size:=by omega
  have lt':i<ws.length:=by omega
  obtain ⟨b,O,hx⟩:=I.2 i (by rw[Al]; exact lt) lt'
  have X:d[i]=Am b:=by simpa using O
  refine Nz Sr ?_
  rw[Vr Ht _]
  show wpAny _ A.in1 (pyNext (.ref it) >>= _) _ _ s
  refine Ah (J5 m L (x:=d[i]) (by simp [lt]) λu E p=>?_)
  rw[X]
  show wpAny _ A.in1 (Jy [Am b] (setAdd a (.ref b)) >>= _) _ _ _
  refine Ah (Fq ?_)
  unfold setAdd
  have kp:Kept s.heap u:=λb o c q=>by
   refine (p.2 b λz=>?_).trans q
   subst z
   obtain ⟨o',B,c',_⟩:=m
   rw[B] at q
   cases q
   rw[c'] at c
   rcases c with c | c <;> exact absurd c (by decide)
  have W:=S.keep kp
  have D:=Uz hx kp.t
  refine Fq (Ah (wpAny_pyHash_tuple (s:={ s with heap:=u }) hu D ?_))
  have kt:∀(n:Heap) (f:Array (Int×Value)) (h:Nat) (H:Cj) (V:List (List Int)),Lx a u n->SetT prog w V n a f h H->f.size<=i+1->(∀x,x∈V↔x∈ws.take (i+1))->(ws.Nodup->(f.toList.map (·.2)).Perm (d.toList.take (i+1)))->(∀v∈f.toList.map (·.2),v∈d.toList)->∀G,Ru (model prog w) A (.builtin "set.update.loop" ⟨[.ref a,.ref it],[]⟩) R { s with heap:=n,toks:=G }:=λn f h H V g K l2 u2 M w2 G=>by
   have h5:Xv u n:=dX W.obj (by show Ep "set" ≠ Ep "tuple"; decide) g
   refine ih (i+1) { s with heap:=n,toks:=G } f h H V (by omega) lt ?_ ?_ (I.keep λb o c e=>h5 b o c (kp.t b o c e)) K l2 u2 M w2 λY Q t3 h3 h0 V3 k3 S3 u3 g3 w3=>?_
   ·obtain ⟨o,T,r⟩:=E
    exact ⟨o,(g.2 it (Qt n1)).trans T,r⟩
   ·obtain ⟨o,T,r⟩:=L
    exact ⟨o,(g.2 l (Qt n2)).trans ((p.2 l n3).trans T),r⟩
   ·exact Z Y Q t3 h3 h0 V3 (λb o q1 q2 e=>k3 b o q1 q2 ((g.2 b q1).trans ((p.2 b q2).trans e))) S3 u3 g3 w3
  have F:=Ee lt'
  refine U0 (s:={ s with heap:=u,toks:=s.toks+(ws[i].length+1) }) W (by omega) hu D (λhm=>?_) λf h H n nk g K M=>?_
  ·refine Au ⟨plainId_quiet Ht _,?_⟩
   refine kt u es J t U (Heap.SameBut.refl a u) W (by omega) (λx=>?_) (λz=>?_) N _
   ·rw[F,Ai,Ab,C x]
    exact ⟨.inl,λq=>q.elim id λq=>by rw[q]; exact (C _).mp hm⟩
   ·obtain ⟨j,hj,ej⟩:=Rq.mp ((C _).mp hm)
    exact absurd ej (Fh.mp z j i (by omega) lt' (by omega))
  ·refine Au ⟨plainId_quiet Ht _,?_⟩
   refine kt n f h H (ws[i]::U) g K (by rw[K.sz,Bg,<- S.sz]; omega) (λx=>?_) (λz=>?_) (λv hv=>?_) _
   ·rw[F,Ai,Ab,Aj,C x]
    exact Or.comm
   ·rw[Ee (by rw[Al]; exact lt),show d.toList[i]=Am b from O]
    exact M.trans ((P z).append_right _)
   ·rcases Ai.mp (M.mem_iff.mp hv) with q | q
    ·exact N v q
    ·rw[Ab.mp q,<- O]
     exact Ec _
end
section
variable{prog:Bz}{w:World}{A:Dm}{E:Value->Ap->Prop}{s:Ap}
theorem sN{h:Heap}:SetT prog w [] (h.push (Kn #[] 0 (.fresh 0 0 (!bt w)))) h.objs.size #[] 0 (.fresh 0 0 (!bt w)) :=
 ⟨Ca _ rfl,(λe c=>by simp at c),⟨⟨X5,rfl,rfl,Eh,(λj a=>by simp [SetTable.fresh] at a),rfl⟩,by show 0 * 5<7 * 3; decide⟩,by show 7 % 2=1; decide,by show 7<8192; decide,by show 0<=1100; decide,λz=>by show (!bt w)=true; rw[z]; rfl,Do,rfl,λu d=>by simp at d,λx b=>by simp at b⟩
theorem x6{l:Addr}{a:Array Value}{ws:List (List Int)}{Q:Value->Ap->Prop}(hh:A.handled=none)(hu:A.units+64<cLine)(hl:s.heap.IsList l a)(hw:Xb prog w s.heap a.toList ws)(I:ws.length<=1100)(h:∀es j t h' g U,(∀b o,s.heap.get? b=some o->h'.get? b=some o)->SetT prog w U h' s.heap.objs.size es j t->(∀x,x∈U↔x∈ws)->(ws.Nodup->(es.toList.map (·.2)).Perm a.toList)->(∀v∈es.toList.map (·.2),v∈a.toList)->Q (.ref s.heap.objs.size) { s with heap:=h',toks:=g }):wpAny (model prog w) A (call (.type "set") [.ref l]) Q E s:=by
 obtain ⟨c,tl,P⟩:=PySem.F.called_set.mro
 have y:=PySem.F.called_set.made
 have K:=PySem.F.called_set.sub
 have h1:=PySem.F.called_set.notType
 have h2:=PySem.F.called_set.canCreate
 have h0:=PySem.F.typeCall_set_1 (.ref l)
 refine wpAny_call (codeAny_of_tree (show wpAny _ _ (callAny (.type "set") _) _ _ _ from ?_))
 refine Au ⟨Code.quiet_builtin _ (by decide +kernel),Nz PySem.F.entry_type_call ?_⟩
 rw[Around.under_plain (weight_type_call_type "set" [.ref l] []) rfl]
 repeat (any_goals (first | assumption | wp_step))
 refine Wt (B6 (.ref l) (E:=E) (Q:=λv L=>v=.ref s.heap.objs.size/\L={ s with heap:=s.heap.push (Kn #[] 0 (.fresh 0 0 (!bt w))) }) ⟨rfl,rfl⟩) λr L d=>?_
 rcases r with e | (_ | _ | _ | v)
 ·exact d
 ·exact d.elim
 ·exact d.elim
 ·exact d.elim
 obtain ⟨rfl,rfl⟩:=d
 have M:=sN (prog:=prog) (w:=w) (h:=s.heap)
 have X:Shared.TypeIs { s with heap:=s.heap.push (Kn #[] 0 (.fresh 0 0 (!bt w))) } (.ref s.heap.objs.size) "set" := ⟨_,M.obj,rfl⟩
 have V:=PySem.F.called_set.init.lookup
 have T:=PySem.F.called_set.init.bind (.ref s.heap.objs.size)
 repeat (any_goals (first | assumption | wp_step))
 refine Wt (codeAny_call_builtin (R:=wants (λr N=>r=.none/\∃es j t h' g U,N={ s with heap:=h',toks:=g }/\(∀b o,s.heap.get? b=some o->h'.get? b=some o)/\SetT prog w U h' s.heap.objs.size es j t/\(∀x,x∈U↔x∈ws)/\(ws.Nodup->(es.toList.map (·.2)).Perm a.toList)/\(∀v∈es.toList.map (·.2),v∈a.toList)) E)
  PySem.F.called_set.init.plain PySem.F.entry_set_init (check_set_init_1 X ?_)) λr N d=>?_
 ·obtain ⟨⟨W,od,H,Z⟩,O,S,n,Y⟩:=id hl
  have B:W=.type "list" := S
  have z:H=.seq a n:=Y
  subst B z
  have k:=Aq (Kn #[] 0 (.fresh 0 0 (!bt w))) O
  have D:(s.heap.push (Kn #[] 0 (.fresh 0 0 (!bt w)))).IsList l a:=⟨_,k,rfl,n,rfl⟩
  have f1:=PySem.F.sub_list_set
  have f2:=PySem.F.sub_list_frozenset
  have f3:(Ep "list" == Ep "dict")=false:=by decide
  have lt:=Bq O
  unfold Builtin.«set.__init__» noKeywords Builtin.Frozenset.updateFrom
  generalize C:pyIter=PI
  wp_walk
  subst C
  refine iV D (Ah (wpAny_runValue ?_))
  have sz:(s.heap.push (Kn #[] 0 (.fresh 0 0 (!bt w)))).objs.size=s.heap.objs.size+1:=Heap.size_push _ _
  have g1:((s.heap.push (Kn #[] 0 (.fresh 0 0 (!bt w)))).push { cls:=.type "list_iterator",data:=.fields #[.ref l,.int 0 0] }).get? (s.heap.push (Kn #[] 0 (.fresh 0 0 (!bt w)))).objs.size=some { cls:=.type "list_iterator",data:=.fields #[.ref l,.int 0 0] }:=Ca _ rfl
  have G:Xv s.heap ((s.heap.push (Kn #[] 0 (.fresh 0 0 (!bt w)))).push { cls:=.type "list_iterator",data:=.fields #[.ref l,.int 0 0] }):=λb o _ e=>Aq _ (Aq _ e)
  refine xG (by rw[sz]; exact Cz (Nat.lt_succ_self _)) (Nat.ne_of_gt lt) (by rw[sz]; exact Cz (Ll lt)) I (by simp [hh]) (by simp; omega) (a.size - 0) 0 _ #[] 0 (.fresh 0 0 (!bt w)) [] rfl (Em _) ⟨_,g1,rfl,rfl⟩ ⟨_,Aq _ k,rfl,n,rfl⟩
   (hw.keep G) (M.keep λb o _ q=>Aq _ q) (Em _) (λx=>Iff.rfl) (λ_=>Ii _) (λv hv=>nomatch hv) λes j t h' g U p u m i f=>?_
  refine Au (Au ⟨rfl,es,j,t,h',g,U,rfl,λb o e=>?_,u,m,i,f⟩)
  ·have J:=Bq e
   exact p b o (Cz J) (by rw[sz]; exact Cz (Ll J)) (Aq _ (Aq _ e))
 ·rcases r with e | (_ | _ | _ | v)
  ·exact d
  ·exact d.elim
  ·exact d.elim
  ·exact d.elim
  obtain ⟨rfl,es,j,t,h',g,U,rfl,p,u,m,i,f⟩:=d
  repeat (any_goals (first | assumption | wp_step))
  exact h es j t h' g U p u m i f
end
end NdS
namespace Nd
open PySem PySem.Spec PyProof.Rows L2 NdS
def pV(a:Addr)(n:Nat)(h:Heap):Prop:=∃b c t,h.get? a=some (Kn b c t)/\t.fits b.size=true/\b.size=n
abbrev xY(a:Addr)(n:Nat):HO:=.ext (pV a n)
theorem S5{P:Bz}{b:World}{H:Hp}{h:Heap}{a:Addr}{n:Nat}(e:pV a n h):Mj P b H h a (xY a n) :=
 ⟨e,let ⟨_,_,_,S,_⟩:=e; ⟨_,S⟩,λf g ⟨d,c,t,S,m⟩ k=>⟨d,c,t,k _ S,m⟩⟩
theorem vY{P:Bz}{w:World}{H:Hp}{h:Heap}{a:Addr}{n:Nat}(ok:fT P w H h)(e:H a=some (xY a n)):pV a n h :=
 (show Mj P w H h a (xY a n) from ok a _ e).1
theorem oE{prog:Bz}{w:World}:∀{ns:List Int} {vs:List Value},Gw (ns.map V.int) vs->ItemsAre (Cp prog w) ns vs
 | [],_,h=>by cases h; exact .nil
 | n::ns,_,h=>by
  cases h with
  | cons a t =>
   obtain ⟨b,rfl⟩:=a
   exact .cons (intKind_is _ _ _ _) (oE t)
theorem uI:∀{rs:List Addr} {vs:List Value},Gw (rs.map V.ref) vs->vs=rs.map Am
 | [],_,h=>by cases h; rfl
 | r::rs,_,h=>by
  cases h with
  | cons a t =>
   cases a
   rw[uI t]
   rfl
theorem Wv{f:Type}[DecidableEq f]:∀{l1 l2:List f},l1.Nodup->(∀e∈l1,e∈l2)->l1.length<=l2.length
 | [],_,_,_=>Em _
 | a::l1,l2,nd,h=>by
  have b:=Bp.mp nd
  have c:=h a (Aa ..)
  have:=Wv (l2:=l2.erase a) b.2 λe d=>(Oy (show e≠a from λz=>b.1 (by rw[<- z]; exact d))).mpr (h e (Ae _ d))
  rw[Mr c] at this
  have p:0<l2.length:=Kt c
  rw[Bg]
  omega
theorem pM{e:Type}[DecidableEq e]:∀{l:List e},¬ l.Nodup->∃x∈l,x∈l.erase x
 | [],h=>absurd Do h
 | a::l,h=>by
  by_cases c:a∈l
  ·exact ⟨a,Aa ..,by rw[List.erase_cons_head]; exact c⟩
  ·obtain ⟨x,d,b⟩:=pM (l:=l) λz=>h (Bp.mpr ⟨c,z⟩)
   have f:¬ (a == x)=true:=λz=>c (by rw[show a=x by simpa using z]; exact d)
   exact ⟨x,Ae _ d,by rw[List.erase_cons_tail f]; exact Ae _ b⟩
theorem zY{i:Type}[DecidableEq i]{U ws:List i}(f:U.Nodup)(h:∀x,x∈U↔x∈ws):U.length<=ws.length/\(U.length=ws.length↔ws.Nodup):=by
 have g:=Wv f λe a=>(h e).mp a
 refine ⟨g,λe=>Hl λz=>?_,λj=>Nat.le_antisymm g (Wv j λe a=>(h e).mpr a)⟩
 obtain ⟨x,d,b⟩:=pM z
 have:=Wv (l2:=ws.erase x) f λe a=>by
  by_cases c:e=x
  ·rw[c]; exact b
  ·exact (Oy c).mpr ((h e).mp a)
 rw[Mr d] at this
 have p:0<ws.length:=Kt d
 omega
def FH(K:PySem.W.Frag):List V->Hp->VK->Prop:=λc H Q=>∃(a:Addr) (b:List Addr) (f:Addr->List Int),c=[.ref a]/\Sx K H a (b.map V.ref)/\(∀r∈b,Vm K H r ((f r).map V.int))/\b.length<=1100 /\
 ∀(p:Addr) (n:Nat),H p=none->n<=b.length->(n=b.length↔(b.map f).Nodup)->Q (.ref p) (upd H p (xY p n))
theorem wU{X:Cx}(p:X.calm=true)(C:X.A.units+64<cLine):Nf X (.type "set") (FH X.K):=by
 intro l s V H T M Q I r h
 obtain ⟨a,b,f,rfl,G,x,d,q⟩:=h
 obtain ⟨u,rfl,L⟩:=vals1 r
 cases L
 obtain ⟨w,v,y,_⟩:=I.list G
 have e:=uI v
 subst e
 refine x6 (ws:=b.map f) (I.ok.hd p) C y.isList ⟨by simp,λi z W=>?_⟩ (by rw[Ac]; exact d) λD J t O P U k S m R _=>?_
 ·have B:i<b.length:=by simpa using z
  obtain ⟨N,F,⟨o,e,c,n,E⟩,_⟩:=I.tuple (x b[i] (Ec B))
  exact ⟨b[i],by simp,o,_,n,e,c,E,by rw[List.getElem_map]; simpa using oE F⟩
 ·obtain ⟨j,g⟩:=zY S.nd m
  rw[Ac,<- S.sz] at j g
  exact ⟨.ref s.heap.objs.size,_,I.laid k (Ak _) (S5 ⟨D,J,t,S.obj,S.tab.fits,rfl⟩),rfl,q _ _ (I.hok.fresh (Ak _)) j g⟩
def HH:List V->Hp->VK->Prop:=λb H Q=>∃a n,b=[V.ref a]/\H a=some (xY a n)/\n<=1100/\Q (.int n) H
theorem yE{X:Cx}:Nf X (.builtin "len") HH:=by
 intro b s l H m i Q I r h
 obtain ⟨a,n,rfl,f,j,q⟩:=h
 obtain ⟨u,rfl,e⟩:=vals1 r
 cases e
 obtain ⟨c,k,t,g,d,rfl⟩:=vY I.hok f
 refine call_len_set g ⟨rfl,rfl,rfl⟩ rfl d (by omega) ?_
 exact ⟨.int c.size,H,I.tok _,⟨_,rfl⟩,q⟩
end Nd
namespace Nd
open PySem L2
end Nd
namespace DL
open PySem PySem.Spec PyProof.Rows L2 Nd
def HZ(xs:List DV)(δ:DS)(P:DV->DS->Prop):Prop:=match xs with
 | [.dat _ (.list ds)]=>∃a:List (List Int),ds=a.map Bk/\a.length<=1100/\∀n:Nat,n<=a.length->(a.Nodup->n=a.length)->(n=a.length->a.Nodup)->P (.dat .ow (.int n)) δ
 | _=>False
def tU(d:DA):DE:=λb P=>d b λc a=>HZ c a P
section
variable{X:Cx}{p c pos b:Pos}{e:Expr}{d:DA}
theorem wZ(I:X.A.units+64<cLine)(u:X.calm=true)(hg:Gl X "len")(y:X.mg "len" = none)(i:Gl X "set")(o:X.mg "set" = none)(m:rK X [e] d)(L:Bl [e] X.env=[(false,eval e X.env)]:=by rfl)(g:Bl [.Call (.Name "set" c) [e] [] b] X.env=[(false,eval (.Call (.Name "set" c) [e] [] b) X.env)]:=by rfl):Gq X (.Call (.Name "len" p) [.Call (.Name "set" c) [e] [] b] [] pos) (tU d):=by
 refine PE.imp (dR yE hg y (by decide +kernel) (Hq (Yx (wU u I) i o (by decide +kernel) m (by decide) (by decide) L rfl) Mg g) (by decide) (by decide) g rfl) λσ H Q h=>?_
 obtain ⟨K,Y,S,T,V,P,rfl,W,hA,O,k⟩:=h
 refine ⟨K,Y,S,T,V,_,rfl,W,hA,O,λE l As us D w z J Z eu j p=>?_⟩
 unfold HZ at p
 split at p
 ·obtain ⟨v,F,rfl,f⟩:=Jo eu j Z
  obtain ⟨ws,rfl,s,M⟩:=p
  obtain ⟨a,E,G,rfl,m,N,rfl,hz⟩:=(f.told mem_mid).list_inv
  obtain ⟨rs,rfl,rfl,rfl,R,c2⟩:=dQ N rfl
  rw[Ac] at s
  refine ⟨a,rs,M6 w,rfl,Sx.of m,λr U=>Vm.of (R r U),s,λq n C B t=>?_⟩
  refine ⟨q,n,rfl,Dq,by omega,?_⟩
  have x:=Fs C (xY q n)
  exact k _ l _ _ D _ z J ((f.drop.grow x (Ak _)).pushI (.int _)) (M n (by rw[Ac]; exact B) (by rw[Ac]; exact t.mpr) (by rw[Ac]; exact t.mp))
 ·exact p.elim
end
def T5(i:Nat)(y:DV)(δ:DS)(D:DEnds):Prop:=match δ.sl[i]?,y with
 | some (.dat m (.list ds)),.dat _ (.list es)=>own1 m=true/\npk δ.sl=true/\Cv es=true/\ds.length+es.length<1000000/\D.nx ⟨δ.sl.set i (.dat m (.list (ds++es))),δ.n⟩
 | _,_=>False
def sU(i:Nat)(c:DE):DB:=λD b=>isLst b.sl[i]? = true/\c b λy a=>T5 i y a D
section
variable{X:Cx}{o e:Expr}{f:DE}{d c pos:Pos}{i:Nat}
theorem xR(Q:PE X o (Lj i))(he:Gq X e f)(j:Kh o "extend" X.env (eval o X.env)=eval o X.env:=by rfl)
  (n:((Hf c (Bl [e] X.env)).all (λx=>!x.1) && (Tc c (Mm [] X.env)).all (λx=>x.1.isSome)
   && decide (([e]:List Expr).length+([]:List Ku).length+(if ([]:List Ku).isEmpty then 0 else 1)<30))=true:=by rfl)
  (k:(d.endLine == c.line)=true:=by rfl) (B:Bl [e] X.env=(false,eval e X.env)::Bl [] X.env:=by rfl) (g:(Hf c (Bl [] X.env)).any (·.1)=false:=by rfl)
  (u:Jf (.Call (.Attribute o "extend" d) [e] [] c) none pos.line X.env=pure false:=by rfl) :
  gA X (.Expr (.Call (.Attribute o "extend" d) [e] [] c) pos) (sU i f):=by
 refine PS.impD (Uw (iK PySem.F.plainAttrs_list PySem.F.slot_list_extend PySem.F.type_list_extend wN Q (Hq he Mg B) j n k B g) u) λD σ H h=>?_
 obtain ⟨H0,Y,S,T,δ,P,rfl,C,J,G,⟨s,hd⟩,W,k2,k3,k4⟩:=h
 obtain ⟨a,xs,E,Z⟩:=DD C G s
 refine ⟨.ref a,E,.inl ⟨rfl,xs,Sx.of Z⟩,H0,Y,S,T,δ,_,rfl,C,G,hd,λy U w F1 S1 H1 v e5 p l=>?_⟩
 unfold T5 at l
 split at l
 ·rename_i m K m' es r
  obtain ⟨l,L,p3,p4,M⟩:=l
  obtain ⟨b,A,Gz,rfl,hb,t,rfl,_⟩:=(p.told mem_mid).list_inv
  obtain rfl:=t.imm p3
  obtain ⟨a',q,I,g1,g2,z,g4,O⟩:=bW (es:=K++es) e5 J p.drop r l L
  have ea:some (V.ref a')=some (V.ref a):=Bu (by rw[<- g1,v]; exact E)
  cases ea
  obtain ⟨S2,R,h2,h3⟩:=O (q++A) (I++[]) (z.app t) (by rw[Et]; exact Cs _) (by rw[Az]; exact gG (by omega))
  have hl:=z.len
  have N:=t.len
  refine ⟨a,b,q,A,rfl,rfl,g2,hb,gG (by omega),?_⟩
  rw[<- v,<- R]
  exact W ⟨_,_⟩ S2 _ h2 h3 M
 ·exact l.elim
end
section
variable{K:PySem.W.Frag}
theorem Nb{k H:Hp}{X:Addr->Prop}{S T:List Ent}{δ:DS}{i:Nat}{m:Md}{d:Ad}(e:Sl S δ)(g:At K k X δ.n (S++T) H)(h:δ.sl[i]? = some (.dat m d)):∃v F,(vs S)[i]? = some (some v)/\RdF K H v d F:=by
 obtain ⟨b,c,j⟩:=Gk e h
 obtain ⟨u,y,F⟩:=b
 have a:y=.dat m d:=j
 subst a
 obtain ⟨v,f,rd,_⟩:=g.ok _ (Af _ (Ao c))
 exact ⟨v,F,by rw[Jc c]; exact congrArg some f,rd⟩
theorem Pk{H:Hp}{D:Addr}{l l2:List V}{F:List Addr}(a:H D=some (.lst l))(d:D∉F):Kp F H (upd H D (.lst l2)):=λb o e z=>by
 by_cases c:b=D
 ·subst c
  rw[a] at e
  cases e
  rcases z with z | z
  ·exact absurd z d
  ·rcases z with ⟨_,z⟩ | ⟨_,_,z⟩ <;> cases z
 ·rw[Ei c]; exact e
end
section
variable{K:PySem.W.Frag}
theorem eT{S:List Ent}{δ:DS}{i:Nat}{u:Option V}{x y:DV}{F F':List Addr}(c:S[i]? = some ⟨u,x,F⟩)(d:Sl S δ):vs (S.set i ⟨u,y,F'⟩)=vs S/\Sl (S.set i ⟨u,y,F'⟩) ⟨δ.sl.set i y,δ.n⟩:=by
 constructor
 ·unfold vs
  rw[Hv]
  apply Hk
  intro j
  rw[Ey]
  split
  ·rename_i a
   subst a
   rw[Bo,c]
   split
   ·rfl
   ·rename_i b
    rw[Ac] at b
    exact absurd (An.mp c).1 b
  ·rfl
 ·unfold Sl at d ⊢
  rw[Hv,d]
end
end DL
namespace NdW
open PySem PyProof.Rows NdS
end NdW
namespace Nd
open PySem PySem.Spec PyProof.Rows L2 NdS NdW
end Nd
namespace DL
open PySem PySem.Spec PyProof.Rows L2 Nd
def EB(t u:DB)(D:DEnds)(b:Bool)(δ:DS):Prop:=match b with
 | true=>t D δ
 | false=>u D δ
def FV(x:DV)(δ:DS)(P:DV->DS->Prop):Prop:=match x with
 | .dat _ d=>imm d=true/\P (.dat .ow d) δ
 | _=>False
def GB(i:Nat)(s:Option DV)(δ:DS)(P:DV->DS->Prop):Prop:=match s with
 | some (.dat .pk _)=>False
 | some (.dat _ d)=>P (.dat .sh d) ⟨δ.sl.set i (.dat .sh d),δ.n⟩
 | _=>False
def tupB(xs:List DV)(δ:DS)(P:DV->DS->Prop):Prop:=match datas xs with
 | some a=>a.length<=1000/\P (.dat (pkMd .sh xs) (.tuple a)) δ
 | none=>False
def lstB(xs:List DV)(δ:DS)(P:DV->DS->Prop):Prop:=match datas xs with
 | some a=>a.length<=1000/\P (.dat (pkMd .tp xs) (.list a)) δ
 | none=>False
def Y7(x:DV)(δ:DS)(P:Option Int->DS->Prop):Prop:=match x with
 | .dat _ (.int i)=>P (some i) δ
 | _=>False
def IE(i:Bool)(x:DV)(l h:Option Int)(δ:DS)(P:DV->DS->Prop):Prop:=match x with
 | .dat m (.list ds)=>Xh i m (Jv ds l h) λz=>P z δ
 | .dat m (.tuple ds)=>dA i m (Jv ds l h) λz=>P z δ
 | _=>False
def LJ(xs:List DV)(δ:DS)(P:DV->DS->Prop):Prop:=match xs with
 | [.dat _ (.list ds)]=>∃a:List Int,ds=a.map Be/\(∀x∈a,0<=x/\x<60)/\P (.dat .ow (.list ((EY a).map Be))) δ
 | [.dat _ (.tuple ds)]=>∃a:List Int,ds=a.map Be/\(∀x∈a,0<=x/\x<60)/\P (.dat .ow (.list ((EY a).map Be))) δ
 | _=>False
def bB(x:DV)(δ:DS)(P:Bool->DS->Prop):Prop:=match x with
 | .dat _ (.bool b)=>P b δ
 | _=>False
def CO(a:DT)(b:Bool)(δ:DS)(P:Bool->DS->Prop):Prop:=match b with
 | true=>a δ P
 | false=>P false δ
def HS(a:DT)(b:Bool)(δ:DS)(P:Bool->DS->Prop):Prop:=match b with
 | true=>P true δ
 | false=>a δ P
def FC(x:DV)(δ:DS)(P:DV->DS->Prop):Prop:=match x with
 | .dat _ (.bool b)=>P (.dat .ow (.bool (!b))) δ
 | _=>False
def EX(a:DE)(x:DV)(δ:DS)(P:DV->DS->Prop):Prop:=match x with
 | .dat _ (.bool true)=>a δ P
 | .dat _ (.bool false)=>P (.dat .ow (.bool false)) δ
 | _=>False
def EN(x:DV)(δ:DS)(P:DV->DS->Prop):Prop:=match x with
 | .dat _ (.int i)=>P (.dat .ow (.int (-i))) δ
 | _=>False
def lB(x:DV)(δ:DS)(P:Md->List Ad->DS->Prop):Prop:=match x with
 | .dat m (.list ds)=>P (Na m) ds δ
 | _=>False
def JP(x:DV)(δ:DS)(P:Md->List Ad->DS->Prop):Prop:=match x with
 | .dat m (.tuple ds)=>P (Na m) ds δ
 | _=>False
def X0(xs:List DV)(δ:DS)(P:Md->List Ad->DS->Prop):Prop:=match xs with
 | [.dat _ (.int j)]=>-1000000<=j/\j<=1000000/\P .sh ((Ck j.toNat).map λi:Nat=>.int i) δ
 | _=>False
def FF(xs:List DV)(δ:DS)(P:Md->List Ad->DS->Prop):Prop:=match xs with
 | [.dat m (.list ds),.dat m' (.list es)]=>P (mdZip m m') ((ds.zip es).map λp=>.tuple [p.1,p.2]) δ
 | _=>False
def HK(g:DG)(f:DB)(D:DEnds)(m:Md)(e:List Ad)(b:DS):Prop:=m=.sh/\∃I:Nat->DS->Prop,I 0 b /\
 (∀i d a,e[i]? = some d->I i a->g (.dat .sh d) a λc=>f { D with nx:=I (i+1),ct:=I (i+1),bk:=D.nx } c)/\∀a,I e.length a->D.nx a
def p8(g:List Nat)(h:DT)(j:DE)(P:DV->DS->Prop)(m:Md)(f:List Ad)(b:DS):Prop:=∃I:Nat->List Ad->Nat->Prop,I 0 [] b.n /\
 (∀i d a n,f[i]? = some d->I i a n->Xq h j ⟨.dat m d::frD b.sl g,n⟩ (λe c=>I (i+1) (a++[e]) c) (λc=>I (i+1) a c)) /\
 ∀a n,I f.length a n->P (.dat .ow (.list a)) ⟨b.sl,n⟩
def rO(g:List Nat)(h:DT)(j:DE)(P:DV->DS->Prop)(m:Md)(f:List Ad)(b:DS):Prop:=∃I:Nat->List Ad->Nat->Prop,I 0 [] b.n /\
 (∀i d a n,f[i]? = some d->I i a n->Nr false h j ⟨.dat m d::frD b.sl g,n⟩ (λe c=>I (i+1) (a++[e]) c) (λc=>I (i+1) a c)) /\
 ∀a n,I f.length a n->P (.dat .tp (.list a)) ⟨b.sl,n⟩
def zH(js1:List Nat)(j0:Nat)(js2:List Nat)(g:DT)(h:DE)(P:DV->DS->Prop)(m:Md)(f:List Ad)(b:DS):Prop:=b.sl[j0]? = some .drw/\∃I:Nat->List Ad->Nat->Prop,I 0 [] b.n /\
 (∀i d a n,f[i]? = some d->I i a n->Rn (js1.length+1) g h ⟨.dat m d::(frD (b.sl.set j0 .un) js1++.drw::frD (b.sl.set j0 .un) js2),n⟩ (λe c=>I (i+1) (a++[e]) c) (λc=>I (i+1) a c)) /\
 ∀a n,I f.length a n->P (.dat .ow (.list a)) ⟨b.sl,n⟩
def R3(a:Ad->Nat->Prop)(y:DV)(δ:DS):Prop:=match y with
 | .dat _ e=>imm e=true/\a e δ.n
 | _=>False
def F8(e:DE)(a:Ad->Nat->Prop)(d:Nat->Prop)(b:Bool)(δ:DS):Prop:=match b with
 | true=>e δ λy c=>R3 a y c
 | false=>d δ.n
def tX(a:Ad->Nat->Prop)(y:DV)(δ:DS):Prop:=match y with
 | .dat m e=>m≠.pk/\a e δ.n
 | _=>False
def qW(e:DE)(a:Ad->Nat->Prop)(d:Nat->Prop)(b:Bool)(δ:DS):Prop:=match b with
 | true=>e δ λy c=>tX a y c
 | false=>d δ.n
def zI(p:Nat)(a:Ad->Nat->Prop)(y:DV)(δ:DS):Prop:=match y with
 | .dat _ e=>imm e=true/\δ.sl[p]? = some .drw/\a e δ.n
 | _=>False
def o5(p:Nat)(e:DE)(a:Ad->Nat->Prop)(d:Nat->Prop)(b:Bool)(δ:DS):Prop:=match b with
 | true=>e δ λy c=>zI p a y c
 | false=>δ.sl[p]? = some .drw/\d δ.n
def callB(b:PF)(xs:List DV)(δ:DS)(P:DV->DS->Prop):Prop:=match datas xs with
 | some a=>b a λd=>P (.dat .ow d) δ
 | none=>False
def callBW(i:Nat)(a:DF)(xs:List DV)(δ:DS)(P:DV->DS->Prop):Prop:=match δ.sl[i]? with
 | some .drw=>match datas xs with
  | some c=>a c δ.n λd b=>P (.dat .ow d) ⟨δ.sl,b⟩
  | none=>False
 | _=>False
def o6(xs:List DV)(δ:DS)(P:DV->DS->Prop):Prop:=match xs with
 | [.dat _ (.int _)]=>P .drw δ
 | _=>False
def revLB(x:DV)(δ:DS)(P:DV->DS->Prop):Prop:=match x with
 | .dat _ (.list ds)=>Cv ds=true/\P (.dat .ow (.list ds.reverse)) δ
 | _=>False
def revTB(x:DV)(δ:DS)(P:DV->DS->Prop):Prop:=match x with
 | .dat _ (.tuple ds)=>Cv ds=true/\P (.dat .ow (.tuple ds.reverse)) δ
 | _=>False
def uZ(js1:List Nat)(j0:Nat)(js2:List Nat)(g:DT)(h:DE)(P:DV->DS->Prop)(m:Md)(f:List Ad)(b:DS):Prop:=b.sl[j0]? = some .drw/\∃I:Nat->List Ad->Nat->Prop,I 0 [] b.n /\
 (∀i d a n,f[i]? = some d->I i a n->Pd (js1.length+1) g h ⟨.dat m d::(frD (b.sl.set j0 .un) js1++.drw::frD (b.sl.set j0 .un) js2),n⟩ (λe c=>I (i+1) (a++[e]) c) (λc=>I (i+1) a c)) /\
 ∀a n,I f.length a n->P (.dat .tp (.list a)) ⟨b.sl,n⟩
def u9(p:Nat)(a:Ad->Nat->Prop)(y:DV)(δ:DS):Prop:=match y with
 | .dat m e=>m≠.pk/\δ.sl[p]? = some .drw/\a e δ.n
 | _=>False
def uF(p:Nat)(e:DE)(a:Ad->Nat->Prop)(d:Nat->Prop)(b:Bool)(δ:DS):Prop:=match b with
 | true=>e δ λy c=>u9 p a y c
 | false=>δ.sl[p]? = some .drw/\d δ.n
theorem e_lenSet{b:DA}{δ:DS}{P:DV->DS->Prop}:tU b δ P=(b δ λxs a=>HZ xs a P):=rfl
theorem e_lsB{m:Md}{a:List Ad}{δ:DS}{P:DV->DS->Prop}:HZ [.dat m (.list a)] δ P=(∃ws:List (List Int),a=ws.map Bk/\ws.length<=1100/\∀n:Nat,n<=ws.length->(ws.Nodup->n=ws.length)->(n=ws.length->ws.Nodup)->P (.dat .ow (.int n)) δ):=rfl
theorem e_extend{i:Nat}{b:DE}{D:DEnds}{δ:DS}:sU i b D δ=(isLst (δ.sl[i]?)=true/\b δ λy a=>T5 i y a D):=rfl
theorem e_extB{i:Nat}{y:DV}{D:DEnds}{δ:DS}:T5 i y δ D=(match δ.sl[i]?,y with | some (.dat m (.list ds)),.dat _ (.list es)=>own1 m=true/\npk δ.sl=true/\Cv es=true/\ds.length+es.length<1000000/\D.nx ⟨δ.sl.set i (.dat m (.list (ds++es))),δ.n⟩ | _,_=>False):=rfl
theorem e_insertO{i:Nat}{c d:DE}{D:DEnds}{δ:DS}:bZ i c d D δ=(match δ.sl[i]? with | some (.dat _ (.list _))=>c δ λz a=>d a λy b=>uO i z y b D | _=>False):=rfl
theorem e_insOB{i:Nat}{z y:DV}{D:DEnds}{δ:DS}:uO i z y δ D=(match δ.sl[i]?,z,y with | some (.dat m (.list ds)),.dat _ (.int k),.dat my e=>own1 m=true/\npk δ.sl=true/\my≠.pk/\ds.length<1000000/\0<=k/\k<=1000000/\D.nx ⟨δ.sl.set i (.dat (mmd m my) (.list (Jw ds k.toNat e))),δ.n⟩ | _,_,_=>False):=rfl
theorem e_callWV{i:Nat}{b:DF}{c:DA}{δ:DS}{P:DV->DS->Prop}:jF i b c δ P=(match δ.sl[i]? with | some .drw=>c δ λxs a=>lO i b xs a P | _=>False):=rfl
theorem e_callWVB{i:Nat}{a:DF}{xs:List DV}{δ:DS}{P:DV->DS->Prop}:lO i a xs δ P=(match δ.sl[i]?,datas xs with | some .drw,some ds=>noPk xs=true/\a ds δ.n λd n'=>Nq d=true/\P (.dat .sh d) ⟨δ.sl,n'⟩ | _,_=>False):=rfl
theorem e_seq{t u:DB}{D:DEnds}{δ:DS}:GP t u D δ=(t { D with nx:=λa=>u D a } δ):=rfl
theorem e_skip{D:DEnds}{δ:DS}:V9 D δ=(D.nx δ):=rfl
theorem e_ret{a:DE}{D:DEnds}{δ:DS}:GI a D δ=(a δ D.rt):=rfl
theorem e_if{dt:DT}{t u:DB}{D:DEnds}{δ:DS}:KC dt t u D δ=(dt δ (EB t u D)):=rfl
theorem e_asg{c:DE}{b:DG}{D:DEnds}{δ:DS}:pK c b D δ=(c δ λx a=>b x a D.nx):=rfl
theorem e_name{i:Nat}{m:Md}{d:Ad}{δ:DS}{Q:DS->Prop}:Qr i (.dat .ow d) δ Q=(Q ⟨δ.sl.set i (.dat .sh d),δ.n⟩):=rfl
theorem e_name2{i:Nat}{m:Md}{d:Ad}{δ:DS}{Q:DS->Prop}:Qr i (.dat .sh d) δ Q=(Q ⟨δ.sl.set i (.dat .sh d),δ.n⟩):=rfl
theorem e_name3{i:Nat}{m:Md}{d:Ad}{δ:DS}{Q:DS->Prop}:Qr i (.dat .tp d) δ Q=(Q ⟨δ.sl.set i (.dat .sh d),δ.n⟩):=rfl
theorem e_name4{i:Nat}{δ:DS}{Q:DS->Prop}:Qr i .drw δ Q=(Q ⟨δ.sl.set i .drw,δ.n⟩):=rfl
theorem e_own{i:Nat}{d:Ad}{δ:DS}{Q:DS->Prop}:eI i (.dat .ow d) δ Q=(Q ⟨δ.sl.set i (.dat .ow d),δ.n⟩):=rfl
theorem e_own2{i:Nat}{d:Ad}{δ:DS}{Q:DS->Prop}:eI i (.dat .tp d) δ Q=(Q ⟨δ.sl.set i (.dat .tp d),δ.n⟩):=rfl
theorem e_nT{i:Nat}{x:DV}{δ:DS}{Q:DS->Prop}:CI true i x δ Q=(eI i x δ Q):=rfl
theorem e_nF{i:Nat}{x:DV}{δ:DS}{Q:DS->Prop}:CI false i x δ Q=(Qr i x δ Q):=rfl
theorem e_gtup{n:Nat}{b:x9}{m:Md}{a:List Ad}{δ:DS}{Q:DS->Prop}:zF n b (.dat m (.tuple a)) δ Q=(a.length=n/\b (a.map λd=>.dat (Ow m) d) δ Q):=rfl
theorem e_gsn{δ:DS}{Q:DS->Prop}:zB [] δ Q=(Q δ):=rfl
theorem e_gsc{g:DG}{b:x9}{x:DV}{r:List DV}{δ:DS}{Q:DS->Prop}:sT g b (x::r) δ Q=(g x δ λa=>b r a Q):=rfl
theorem e_op{rd:D2}{d c:DE}{δ:DS}{P:DV->DS->Prop}:aN rd d c δ P=(d δ λx a=>c a λy b=>rd x y λz=>P z b):=rfl
theorem e_var{i:Nat}{δ:DS}{P:DV->DS->Prop}:CF i δ P=(match δ.sl[i]? with | some (.dat m d)=>P (.dat (mW m) d) δ | _=>False):=rfl
theorem e_c{d:Ad}{δ:DS}{P:DV->DS->Prop}:dC d δ P=(P (.dat .ow d) δ):=rfl
theorem e_imm{b:DE}{δ:DS}{P:DV->DS->Prop}:FG b δ P=(b δ λx a=>FV x a P):=rfl
theorem e_immB{m:Md}{d:Ad}{δ:DS}{P:DV->DS->Prop}:FV (.dat m d) δ P=(imm d=true/\P (.dat .ow d) δ):=rfl
theorem e_take{i:Nat}{δ:DS}{P:DV->DS->Prop}:zM i δ P=(match δ.sl[i]? with | some (.dat m d)=>P (.dat m d) ⟨δ.sl.set i .un,δ.n⟩ | _=>False):=rfl
theorem e_frz{i:Nat}{δ:DS}{P:DV->DS->Prop}:jE i δ P=(GB i (δ.sl[i]?) δ P):=rfl
theorem e_frzo{i:Nat}{d:Ad}{δ:DS}{P:DV->DS->Prop}:GB i (some (.dat .ow d)) δ P=(P (.dat .sh d) ⟨δ.sl.set i (.dat .sh d),δ.n⟩):=rfl
theorem e_I{C:Int->Int->Prop}{g:Int->Int->Ad}{i j:Int}{m a:Md}{P:DV->Prop}:AE C g (.dat m (.int i)) (.dat a (.int j)) P=(C i j/\P (.dat .ow (g i j))):=rfl
theorem e_I0{g:Int->Int->Ad}{i j:Int}{m a:Md}{P:DV->Prop}:jP g (.dat m (.int i)) (.dat a (.int j)) P=(P (.dat .ow (g i j))):=rfl
theorem e_eqF{d e:Ad}{m a:Md}{P:DV->Prop}:kX false (.dat m d) (.dat a e) P=(d.depth<=60/\e.depth<=60/\P (.dat .ow (.bool (Ew d e)))):=rfl
theorem e_eqT{d e:Ad}{m a:Md}{P:DV->Prop}:kX true (.dat m d) (.dat a e) P=(d.depth<=60/\e.depth<=60/\P (.dat .ow (.bool (!Ew d e)))):=rfl
theorem e_inFt_w1{a:List Int}{d:Ad}{es:List Ad}{m b:Md}{P:DV->Prop}:vZ false (.dat m d) (.dat b (Bk a)) P=(Bd (a.map Be)<=60/\d.depth<=60/\P (.dat .ow (.bool ((a.map Be).any λe=>Ew e d)))):=rfl
theorem e_inTt_w1{a:List Int}{d:Ad}{es:List Ad}{m b:Md}{P:DV->Prop}:vZ true (.dat m d) (.dat b (Bk a)) P=(Bd (a.map Be)<=60/\d.depth<=60/\P (.dat .ow (.bool (!((a.map Be).any λe=>Ew e d))))):=rfl
theorem e_ixl{a:List Ad}{i:Int}{m b:Md}{P:DV->Prop}:L7 (.dat m (.list a)) (.dat b (.int i)) P=(∃d,aQ a i=some d/\P (.dat (Ow m) d)):=rfl
theorem e_cat{a es:List Ad}{m b:Md}{P:DV->Prop}:vE (.dat m (.list a)) (.dat b (.list es)) P=(Cv a=true/\Cv es=true/\a.length+es.length<=1000000/\P (.dat .ow (.list (a++es)))):=rfl
theorem e_catT{a es:List Ad}{m b:Md}{P:DV->Prop}:dF (.dat m (.tuple a)) (.dat b (.tuple es)) P=(Cv a=true/\Cv es=true/\a.length+es.length<=1000000/\P (.dat .ow (.tuple (a++es)))):=rfl
theorem e_catT_w1{a:List Int}{c es:List Ad}{m b:Md}{P:DV->Prop}:dF (.dat m (Bk a)) (.dat b (.tuple es)) P=(Cv (a.map Be)=true/\Cv es=true/\(a.map Be).length+es.length<=1000000/\P (.dat .ow (.tuple ((a.map Be)++es)))):=rfl
theorem e_nlT{m:Md}{a:List Ad}{P:DV->Prop}:Xh true m a P=(Cv a=true/\P (.dat .ow (.list a))):=rfl
theorem e_nlF{m:Md}{a:List Ad}{P:DV->Prop}:Xh false m a P=(P (.dat (gR m) (.list a))):=rfl
theorem e_ntT{m:Md}{a:List Ad}{P:DV->Prop}:dA true m a P=(Cv a=true/\P (.dat .ow (.tuple a))):=rfl
theorem e_ntF{m:Md}{a:List Ad}{P:DV->Prop}:dA false m a P=(P (.dat (Ow m) (.tuple a))):=rfl
theorem e_pkOfsh  : mW .sh=(Md.sh):=rfl
theorem e_pkOfow  : mW .ow=(Md.pk):=rfl
theorem e_mdInpk  : Ow .pk=(Md.pk):=rfl
theorem e_mdInsh  : Ow .sh=(Md.sh):=rfl
theorem e_mdIntp  : Ow .tp=(Md.sh):=rfl
theorem e_mdInow  : Ow .ow=(Md.ow):=rfl
theorem e_mdNewsh  : gR .sh=(Md.tp):=rfl
theorem e_mdItsh  : Na .sh=(Md.sh):=rfl
theorem e_mdIttp  : Na .tp=(Md.sh):=rfl
theorem e_mdItow  : Na .ow=(Md.sh):=rfl
theorem e_nil{δ:DS}{P:List DV->DS->Prop}:AJ δ P=(P [] δ):=rfl
theorem e_cons{d:DE}{c:DA}{δ:DS}{P:List DV->DS->Prop}:Y0 d c δ P=(d δ λx a=>c a λxs b=>P (x::xs) b):=rfl
theorem e_tup{b:DA}{δ:DS}{P:DV->DS->Prop}:HC b δ P=(b δ λxs a=>tupB xs a P):=rfl
theorem e_lst{b:DA}{δ:DS}{P:DV->DS->Prop}:EK b δ P=(b δ λxs a=>lstB xs a P):=rfl
theorem e_noPart{δ:DS}{P:Option Int->DS->Prop}:uC δ P=(P none δ):=rfl
theorem e_part{b:DE}{δ:DS}{P:Option Int->DS->Prop}:U8 b δ P=(b δ λx a=>Y7 x a P):=rfl
theorem e_partB{m:Md}{i:Int}{δ:DS}{P:Option Int->DS->Prop}:Y7 (.dat m (.int i)) δ P=(P (some i) δ):=rfl
theorem e_sl{i:Bool}{e:DE}{dl d:DO}{δ:DS}{P:DV->DS->Prop}:JV i e dl d δ P=(e δ λx a=>dl a λl b=>d b λh c=>IE i x l h c P):=rfl
theorem e_slBl{i:Bool}{m:Md}{a:List Ad}{l h:Option Int}{δ:DS}{P:DV->DS->Prop}:IE i (.dat m (.list a)) l h δ P=(Xh i m (Jv a l h) λz=>P z δ):=rfl
theorem e_slBt{i:Bool}{m:Md}{a:List Ad}{l h:Option Int}{δ:DS}{P:DV->DS->Prop}:IE i (.dat m (.tuple a)) l h δ P=(dA i m (Jv a l h) λz=>P z δ):=rfl
theorem e_cb{rd:DC}{b:DA}{δ:DS}{P:DV->DS->Prop}:HN rd b δ P=(b δ λxs a=>rd xs λz=>P z a):=rfl
theorem e_lenl{a:List Ad}{m b:Md}{P:DV->Prop}:uJ [.dat m (.list a)] P=(P (.dat .ow (.int a.length))):=rfl
theorem e_lent_w1{a:List Int}{c:List Ad}{m b:Md}{P:DV->Prop}:uJ [.dat m (Bk a)] P=(P (.dat .ow (.int (a.map Be).length))):=rfl
theorem e_listt{i:Bool}{a:List Ad}{m b:Md}{P:DV->Prop}:sF i [.dat m (.tuple a)] P=(Xh i m a P):=rfl
theorem e_tuplel{i:Bool}{a:List Ad}{m b:Md}{P:DV->Prop}:lG i [.dat m (.list a)] P=(dA i m a P):=rfl
theorem e_intb{i:Bool}{m a:Md}{P:DV->Prop}:o8 [.dat m (.bool i)] P=(P (.dat .ow (.int (if i=true then 1 else 0)))):=rfl
theorem e_all{a:List Ad}{m b:Md}{P:DV->Prop}:r9 [.dat m (.list a)] P=(∃bs:List Bool,a=bs.map PyData.bool/\P (.dat .ow (.bool (bs.all id)))):=rfl
theorem e_sortT{a:List Ad}{m b:Md}{P:DV->Prop}:lP [.dat m (.tuple a)] P=(∃ns:List Int,a=ns.map Be/\ns.length<64/\P (.dat .ow (.list ((dO ns).map Be)))):=rfl
theorem e_isi{d:Ad}{n:String}{m a:Md}{P:DV->Prop}:zN [.dat m d,.val (.ty n)] P=((n = "int" \/ n = "bool" \/ n = "str" \/ n = "list" \/ n = "tuple")/\P (.dat .ow (.bool (Tu d n)))):=rfl
theorem e_str{d:Ad}{m a:Md}{P:DV->Prop}:o4 [.dat m d] P=((∃b,b<=400/\Ir b d/\(b+12) * Fe d<=Bf)/\d.depth<=90/\P (.dat .ow (.str (qV d)))):=rfl
theorem e_v{v:V}{δ:DS}{P:DV->DS->Prop}:dV v δ P=(P (.val v) δ):=rfl
theorem e_b{b:DE}{δ:DS}{P:Bool->DS->Prop}:dB b δ P=(b δ λx a=>bB x a P):=rfl
theorem e_bB{m:Md}{b:Bool}{δ:DS}{P:Bool->DS->Prop}:bB (.dat m (.bool b)) δ P=(P b δ):=rfl
theorem e_notT{dt:DT}{δ:DS}{P:Bool->DS->Prop}:U3 dt δ P=(dt δ λb a=>P (!b) a):=rfl
theorem e_andT{dt c:DT}{δ:DS}{P:Bool->DS->Prop}:Y5 dt c δ P=(dt δ λb a=>CO c b a P):=rfl
theorem e_orT{dt c:DT}{δ:DS}{P:Bool->DS->Prop}:FU dt c δ P=(dt δ λb a=>HS c b a P):=rfl
theorem e_orTt{a:DT}{δ:DS}{P:Bool->DS->Prop}:HS a true δ P=(P true δ):=rfl
theorem e_orTf{a:DT}{δ:DS}{P:Bool->DS->Prop}:HS a false δ P=(a δ P):=rfl
theorem e_not{b:DE}{δ:DS}{P:DV->DS->Prop}:FY b δ P=(b δ λx a=>FC x a P):=rfl
theorem e_notB{m:Md}{b:Bool}{δ:DS}{P:DV->DS->Prop}:FC (.dat m (.bool b)) δ P=(P (.dat .ow (.bool (!b))) δ):=rfl
theorem e_and{c b:DE}{δ:DS}{P:DV->DS->Prop}:GA c b δ P=(c δ λx a=>EX b x a P):=rfl
theorem e_neg{b:DE}{δ:DS}{P:DV->DS->Prop}:HD b δ P=(b δ λx a=>EN x a P):=rfl
theorem e_negB{m:Md}{i:Int}{δ:DS}{P:DV->DS->Prop}:EN (.dat m (.int i)) δ P=(P (.dat .ow (.int (-i))) δ):=rfl
theorem e_dL{b:DE}{δ:DS}{P:Md->List Ad->DS->Prop}:dL b δ P=(b δ λx a=>lB x a P):=rfl
theorem e_dTp{b:DE}{δ:DS}{P:Md->List Ad->DS->Prop}:JY b δ P=(b δ λx a=>JP x a P):=rfl
theorem e_lB{m:Md}{a:List Ad}{δ:DS}{P:Md->List Ad->DS->Prop}:lB (.dat m (.list a)) δ P=(P (Na m) a δ):=rfl
theorem e_tpB{m:Md}{a:List Ad}{δ:DS}{P:Md->List Ad->DS->Prop}:JP (.dat m (.tuple a)) δ P=(P (Na m) a δ):=rfl
theorem e_tpB_w1{a:List Int}{m:Md}{b:List Ad}{δ:DS}{P:Md->List Ad->DS->Prop}:JP (.dat m (Bk a)) δ P=(P (Na m) (a.map Be) δ):=rfl
theorem e_range1{b:DA}{δ:DS}{P:Md->List Ad->DS->Prop}:mD b δ P=(b δ λxs a=>X0 xs a P):=rfl
theorem e_rng1B{m:Md}{j:Int}{δ:DS}{P:Md->List Ad->DS->Prop}:X0 [.dat m (.int j)] δ P=(-1000000<=j/\j<=1000000/\P .sh ((Ck j.toNat).map λi:Nat=>.int i) δ):=rfl
theorem e_zip{b:DA}{δ:DS}{P:Md->List Ad->DS->Prop}:Z3 b δ P=(b δ λxs a=>FF xs a P):=rfl
theorem e_zipB{m a:Md}{b es:List Ad}{δ:DS}{P:Md->List Ad->DS->Prop}:FF [.dat m (.list b),.dat a (.list es)] δ P=(P (mdZip m a) ((b.zip es).map λp=>.tuple [p.1,p.2]) δ):=rfl
theorem e_for{c:DI}{b:DG}{a:DB}{D:DEnds}{δ:DS}:GX c b a D δ=(c δ (HK b a D)):=rfl
theorem e_comp{d:DI}{b:List Nat}{a:DT}{c:DE}{δ:DS}{P:DV->DS->Prop}:yM d b a c δ P=(d δ (p8 b a c P)):=rfl
theorem e_compL{d:DI}{b:List Nat}{a:DT}{c:DE}{δ:DS}{P:DV->DS->Prop}:rJ d b a c δ P=(d δ (rO b a c P)):=rfl
theorem e_stepL{d:DT}{e:DE}{δ:DS}{a:Ad->Nat->Prop}{f:Nat->Prop}:Nr false d e δ a f=(d δ λb c=>qW e a f b c):=rfl
theorem e_stepLT{c:DE}{δ:DS}{a:Ad->Nat->Prop}{d:Nat->Prop}:qW c a d true δ=(c δ λy b=>tX a y b):=rfl
theorem e_stepLF{c:DE}{δ:DS}{a:Ad->Nat->Prop}{b:Nat->Prop}:qW c a b false δ=(b δ.n):=rfl
theorem e_compD{c:DI}{js1 js2:List Nat}{j0:Nat}{a:DT}{b:DE}{δ:DS}{P:DV->DS->Prop}:sE c js1 j0 js2 a b δ P=(c δ (zH js1 j0 js2 a b P)):=rfl
theorem e_noTest{δ:DS}{P:Bool->DS->Prop}:jM δ P=(P true δ):=rfl
theorem e_step{d:DT}{e:DE}{δ:DS}{a:Ad->Nat->Prop}{f:Nat->Prop}:Xq d e δ a f=(d δ λb c=>F8 e a f b c):=rfl
theorem e_stepT{c:DE}{δ:DS}{a:Ad->Nat->Prop}{d:Nat->Prop}:F8 c a d true δ=(c δ λy b=>R3 a y b):=rfl
theorem e_yesB{m:Md}{e:Ad}{δ:DS}{a:Ad->Nat->Prop}:R3 a (.dat m e) δ=(imm e=true/\a e δ.n):=rfl
theorem e_stepD{p:Nat}{d:DT}{e:DE}{δ:DS}{a:Ad->Nat->Prop}{f:Nat->Prop}:Rn p d e δ a f=(d δ λb c=>o5 p e a f b c):=rfl
theorem e_stepDT{p:Nat}{c:DE}{δ:DS}{a:Ad->Nat->Prop}{d:Nat->Prop}:o5 p c a d true δ=(c δ λy b=>zI p a y b):=rfl
theorem e_yesBD{p:Nat}{m:Md}{e:Ad}{δ:DS}{a:Ad->Nat->Prop}:zI p a (.dat m e) δ=(imm e=true/\δ.sl[p]? = some .drw/\a e δ.n):=rfl
theorem e_call{c:PF}{b:DA}{δ:DS}{P:DV->DS->Prop}:F7 c b δ P=(b δ λxs a=>callB c xs a P):=rfl
theorem e_callW{i:Nat}{b:DF}{c:DA}{δ:DS}{P:DV->DS->Prop}:rR i b c δ P=(match δ.sl[i]? with | some .drw=>c δ λxs a=>callBW i b xs a P | _=>False):=rfl
theorem e_draws{b:DA}{δ:DS}{P:DV->DS->Prop}:yL b δ P=(b δ λxs a=>o6 xs a P):=rfl
theorem e_drawsB{m:Md}{i:Int}{δ:DS}{P:DV->DS->Prop}:o6 [.dat m (.int i)] δ P=(P .drw δ):=rfl
theorem e_insert{i:Nat}{c d:DE}{D:DEnds}{δ:DS}:jV i c d D δ=(match δ.sl[i]? with | some (.dat _ (.list _))=>c δ λz a=>d a λy b=>insB i z y b D | _=>False):=rfl
theorem e_revL{b:DE}{δ:DS}{P:DV->DS->Prop}:V5 b δ P=(b δ λx a=>revLB x a P):=rfl
theorem e_revT{b:DE}{δ:DS}{P:DV->DS->Prop}:Y2 b δ P=(b δ λx a=>revTB x a P):=rfl
theorem e_appendO{i:Nat}{b:DE}{D:DEnds}{δ:DS}:cT i b D δ=(match δ.sl[i]? with | some (.dat _ (.list _))=>b δ λy a=>appOB i y a D | _=>False):=rfl
theorem e_scrSl{i:Nat}{dl c:DO}{δ:DS}{P:DV->DS->Prop}:pX i dl c δ P=(match δ.sl[i]? with | some (.scr ns)=>dl δ λl b=>c b λh a=>P (.dat .ow (.list ((Jv ns l h).map Be))) a | _=>False):=rfl
theorem e_sortW{m:Md}{a:List Ad}{P:DV->Prop}:lE [.dat m (.list a)] P=(∃ws:List (List Int),a=ws.map Bk/\∀L:List (List Int),L.Perm ws->L.Pairwise (λx y=>HT.lexLt y x=false)->P (.dat .ow (.list (L.map Bk)))):=rfl
theorem e_compDL{c:DI}{js1 js2:List Nat}{j0:Nat}{a:DT}{b:DE}{δ:DS}{P:DV->DS->Prop}:kK c js1 j0 js2 a b δ P=(c δ (uZ js1 j0 js2 a b P)):=rfl
theorem e_stepDL{p:Nat}{d:DT}{e:DE}{δ:DS}{a:Ad->Nat->Prop}{f:Nat->Prop}:Pd p d e δ a f=(d δ λb c=>uF p e a f b c):=rfl
theorem e_stepDLT{p:Nat}{c:DE}{δ:DS}{a:Ad->Nat->Prop}{d:Nat->Prop}:uF p c a d true δ=(c δ λy b=>u9 p a y b):=rfl
section
variable{t u:DB}{D:DEnds}{δ b:DS}
theorem Xs{o:Type}{n:DG}{m:DB}{k:List Ad}{l:List o}{g:o->Ad}(e:k=l.map g)(I:Nat->DS->Prop)(h0:I 0 b)(p:∀i a c,l[i]? = some a->I i c->n (.dat .sh (g a)) c λj=>m { D with nx:=I (i+1),ct:=I (i+1),bk:=D.nx } j)(r:∀c,I l.length c->D.nx c):HK n m D .sh k b:=by
 subst e
 refine ⟨rfl,I,h0,λi d c f s=>?_,λc h=>r c (by rw[Ac] at h; exact h)⟩
 rw[Bo] at f
 cases q:l[i]? with
 | none=>rw[q] at f; cases f
 | some a=>rw[q] at f; cases f; exact p i a c q s
end
section
variable{r:List Nat}{k:DT}{o:DE}{P:DV->DS->Prop}{m:Md}{j:List Ad}{b:DS}{c:Type}
theorem Y9{l:List c}{g:c->Ad}(e:j=l.map g)(p:c->Bool)(f:c->Ad)(h:∀a∈l,∀(t:Ad->Nat->Prop) (y:Nat->Prop),(p a=true->t (f a) b.n)->(p a=false->y b.n)->Xq k o ⟨.dat m (g a)::frD b.sl r,b.n⟩ t y)(q:P (.dat .ow (.list ((l.filter p).map f))) b):p8 r k o P m j b:=by
 subst e
 refine ⟨λi s n=>n=b.n/\s=((l.take i).filter p).map f,⟨rfl,by simp⟩,λi d s n u ⟨w,x⟩=>?_,λs n ⟨w,x⟩=>?_⟩
 ·subst w x
  rw[Bo] at u
  cases q:l[i]? with
  | none=>rw[q] at u; cases u
  | some a =>
   rw[q] at u
   cases u
   refine h a (Ao q) _ _ (λv=>⟨rfl,?_⟩) (λv=>⟨rfl,?_⟩)
   ·rw[Re q,Qw,Bc]; simp [v]
   ·rw[Re q,Qw,Bc]; simp [v]
 ·subst w x
  rw[Ac,Dr]
  exact q
theorem V6{l:List c}{g:c->Ad}(e:j=l.map g)(f:c->Ad)(h:∀a∈l,∀(d:Ad->Nat->Prop) (i:Nat->Prop),d (f a) b.n->Xq k o ⟨.dat m (g a)::frD b.sl r,b.n⟩ d i)(q:P (.dat .ow (.list (l.map f))) b):p8 r k o P m j b:=by
 refine Y9 e (λ_=>true) f (λa p d i s _=>h a p d i (s rfl)) ?_
 rw[yI.mpr λ_ _=>rfl]
 exact q
theorem qY{l:List c}{g:c->Ad}(e:j=l.map g)(p:c->Bool)(f:c->Ad)(h:∀a∈l,∀(t:Ad->Nat->Prop) (y:Nat->Prop),(p a=true->t (f a) b.n)->(p a=false->y b.n)->Nr false k o ⟨.dat m (g a)::frD b.sl r,b.n⟩ t y)(q:P (.dat .tp (.list ((l.filter p).map f))) b):rO r k o P m j b:=by
 subst e
 refine ⟨λi s n=>n=b.n/\s=((l.take i).filter p).map f,⟨rfl,by simp⟩,λi d s n u ⟨w,x⟩=>?_,λs n ⟨w,x⟩=>?_⟩
 ·subst w x
  rw[Bo] at u
  cases q:l[i]? with
  | none=>rw[q] at u; cases u
  | some a =>
   rw[q] at u
   cases u
   refine h a (Ao q) _ _ (λv=>⟨rfl,?_⟩) (λv=>⟨rfl,?_⟩)
   ·rw[Re q,Qw,Bc]; simp [v]
   ·rw[Re q,Qw,Bc]; simp [v]
 ·subst w x
  rw[Ac,Dr]
  exact q
theorem i3{l:List c}{g:c->Ad}(e:j=l.map g)(f:c->Ad)(h:∀a∈l,∀(d:Ad->Nat->Prop) (i:Nat->Prop),d (f a) b.n->Nr false k o ⟨.dat m (g a)::frD b.sl r,b.n⟩ d i)(q:P (.dat .tp (.list (l.map f))) b):rO r k o P m j b:=by
 refine qY e (λ_=>true) f (λa p d i s _=>h a p d i (s rfl)) ?_
 rw[yI.mpr λ_ _=>rfl]
 exact q
theorem R1{js1 js2:List Nat}{j0:Nat}{l:List c}{g:c->Ad}(e:j=l.map g)(s:b.sl[j0]? = some .drw)(I:Nat->List Ad->Nat->Prop)(h0:I 0 [] b.n)(h:∀i a f n,l[i]? = some a->I i f n->Rn (js1.length+1) k o ⟨.dat m (g a)::(frD (b.sl.set j0 .un) js1++.drw::frD (b.sl.set j0 .un) js2),n⟩ (λe n'=>I (i+1) (f++[e]) n') (λn'=>I (i+1) f n'))(q:∀f n,I l.length f n->P (.dat .ow (.list f)) ⟨b.sl,n⟩):zH js1 j0 js2 k o P m j b:=by
 subst e
 refine ⟨s,I,h0,λi d f n p r=>?_,λf n r=>q f n (by rw[Ac] at r; exact r)⟩
 rw[Bo] at p
 cases q:l[i]? with
 | none=>rw[q] at p; cases p
 | some a=>rw[q] at p; cases p; exact h i a f n q r
end
theorem Zw{t u:DB}{D:DEnds}{b:Bool}{δ:DS}(h1:b=true->t D δ)(a:b=false->u D δ):EB t u D b δ:=by
 cases b with
 | true=>exact h1 rfl
 | false=>exact a rfl
theorem Z9{a:DT}{b:Bool}{δ:DS}{P:Bool->DS->Prop}(h1:b=true->a δ P)(c:b=false->P false δ):CO a b δ P:=by
 cases b with
 | true=>exact h1 rfl
 | false=>exact c rfl
theorem sV{a:DT}{b:Bool}{δ:DS}{P:Bool->DS->Prop}(h1:b=true->P true δ)(c:b=false->a δ P):HS a b δ P:=by
 cases b with
 | true=>exact h1 rfl
 | false=>exact c rfl
theorem qB{a:DE}{m:Md}{b:Bool}{δ:DS}{P:DV->DS->Prop}(h1:b=true->a δ P)(c:b=false->P (.dat .ow (.bool false)) δ):EX a (.dat m (.bool b)) δ P:=by
 cases b with
 | true=>exact h1 rfl
 | false=>exact c rfl
theorem S6{e:DE}{a:Ad->Nat->Prop}{d:Nat->Prop}{b:Bool}{δ:DS}(h1:b=true->e δ λy c=>R3 a y c)(f:b=false->d δ.n):F8 e a d b δ:=by
 cases b with
 | true=>exact h1 rfl
 | false=>exact f rfl
class Im (d:Ad):Prop where
 h:imm d=true
class ImA (ds:List Ad):Prop where
 h:Cv ds=true
theorem im{d:Ad}[h:Im d]:imm d=true:=h.h
theorem LB{a:List Ad}[h:ImA a]:Cv a=true:=h.h
instance {i:Int}:Im (.int i):=⟨by simp [imm]⟩
instance {i:Bool}:Im (.bool i):=⟨by simp [imm]⟩
instance {i:Str}:Im (.str i):=⟨by simp [imm]⟩
instance:Im .none:=⟨by simp [imm]⟩
instance {ds:List Ad} [h:ImA ds]:Im (.tuple ds):=⟨by rw[imm]; exact h.h⟩
instance {ns:List Int}:Im (Bk ns):=⟨Pn ns⟩
instance:ImA []:=⟨by simp [Cv]⟩
instance {d:Ad} {ds:List Ad} [h:Im d] [t:ImA ds]:ImA (d::ds):=⟨by rw[Cv,h.h,t.h]; rfl⟩
instance {α:Type} {f:α->Ad} {l:List α} [h:∀a,Im (f a)]:ImA (l.map f):=⟨Sj (λa=>(h a).h) l⟩
instance {a b:List Ad} [h:ImA a] [k:ImA b]:ImA (a++b):=⟨by rw[fJ,h.h,k.h]; rfl⟩
class Dp (d:Ad) (k:outParam Nat):Prop where
 h:d.depth<=k
class DpA (ds:List Ad) (k:outParam Nat):Prop where
 h:Bd ds<=k
theorem dp{d:Ad}{k:Nat}[h:Dp d k](a:k<=60:=by decide):d.depth<=60:=Br h.h a
instance {i:Int}:Dp (.int i) 0:=⟨by simp [Bm]⟩
instance {i:Bool}:Dp (.bool i) 0:=⟨by simp [Bm]⟩
instance {i:Str}:Dp (.str i) 0:=⟨by simp [Bm]⟩
instance:Dp .none 0:=⟨by simp [Bm]⟩
instance {ds:List Ad} {k:Nat} [h:DpA ds k]:Dp (.tuple ds) (k+1):=⟨by have:=h.h; simp only[Bm]; omega⟩
instance {ds:List Ad} {k:Nat} [h:DpA ds k]:Dp (.list ds) (k+1):=⟨by have:=h.h; simp only[Bm]; omega⟩
instance {ns:List Int}:Dp (Bk ns) 1:=⟨sH ns⟩
instance:DpA [] 0:=⟨by simp [Bd]⟩
instance {d:Ad} {ds:List Ad} {k j:Nat} [h:Dp d k] [t:DpA ds j]:DpA (d::ds) (k+j):=⟨by have:=h.h; have:=t.h; simp only[Bd]; omega⟩
instance {α:Type} {f:α->Ad} {l:List α} {k:Nat} [h:∀a,Dp (f a) k]:DpA (l.map f) k:=⟨Zu λx hx=>by
 obtain ⟨a,_,rfl⟩:=Bs.mp hx
 exact (h a).h⟩
theorem lH{a b:List Ad}:Bd (a++b)<=Bd a+Bd b:=by
 induction a with
 | nil=>simp [Bd]
 | cons x a c=>simp only[Eu,Bd]; omega
instance {a b:List Ad} {k j:Nat} [h:DpA a k] [t:DpA b j]:DpA (a++b) (k+j):=⟨by have:=h.h; have:=t.h; have:=lH (a:=a) (b:=b); omega⟩
theorem eqD_bl(i j:Bool):Ew (.bool i) (.bool j)=(i == j):=by simp [Ew]
theorem eqD_str(i j:Str):Ew (.str i) (.str j)=(i == j):=by simp [Ew]
theorem n5(a b:List Ad):Ew (.list a) (.list b)=Ph a b:=by simp [Ew]
theorem O2(a b:List Ad):Ew (.tuple a) (.tuple b)=Ph a b:=by simp [Ew]
theorem dJ{c:Type}[DecidableEq c]{f:c->Ad}(h:∀a b,Ew (f a) (f b)=decide (a=b)):∀l m:List c,Ph (l.map f) (m.map f)=decide (l=m)
 | [],[]=>by simp [Ph]
 | [],_::_=>by simp [Ph]
 | _::_,[]=>by simp [Ph]
 | a::l,b::m=>by simp [Ph,h,dJ h l m]
theorem eqD_intd(i j:Int):Ew (.int i) (.int j)=decide (i=j):=by simp [Ew]; rfl
theorem zG(a b:List Int):Ew (Bk a) (Bk b)=decide (a=b):=by
 unfold Bk
 rw[O2,dJ eqD_intd]
def wordsD(ws:List (List Int)):Ad:=.list (ws.map Bk)
instance {ws:List (List Int)}:Dp (wordsD ws) 2:=⟨(inferInstance:Dp (.list (ws.map Bk)) 2).h⟩
theorem vV(a b:List (List Int)):Ew (wordsD a) (wordsD b)=decide (a=b):=by
 unfold wordsD
 rw[n5,dJ zG]
def HJ(ns:List Int):Ad:=.list (ns.map Be)
instance {ns:List Int}:Dp (HJ ns) 1:=⟨(inferInstance:Dp (.list (ns.map Be)) 1).h⟩
theorem any_int(ns:List Int)(i:Int):((ns.map Be).any λe=>Ew e (.int i))=decide (i∈ns):=by
 rw[List.any_map]
 induction ns with
 | nil=>rfl
 | cons n ns a =>
  rw[List.any_cons,a]
  simp only[Function.comp,eqD_intd,Aj]
  by_cases h:n=i
  ·subst h; simp
  ·have : ¬ i=n:=λz=>h z.symm
   simp [h,this]
theorem L6{a b:Type}(f:a->b)(l:List a)(i:Int):aQ (l.map f) i=(aQ l i).map f:=by
 unfold aQ
 rw[Ac]
 cases fV l.length i with
 | none=>rfl
 | some j=>simp
theorem G5{c:Type}{l:List c}{i:Int}(h0:0<=i)(h1:i<l.length):∃a,l[i.toNat]? = some a/\aQ l i=some a/\a∈l:=by
 have b:i.toNat<l.length:=by omega
 refine ⟨l[i.toNat],by simp [b],?_,Ec b⟩
 have q:aQ l ((i.toNat:Nat):Int)=some l[i.toNat]:=Hb (by simp [b])
 rwa [show ((i.toNat:Nat):Int)=i by omega] at q
theorem im_e{d:Ad}[h:Im d]:(imm d=true)=True:=eq_true h.h
theorem ima_e{a:List Ad}[h:ImA a]:(Cv a=true)=True:=eq_true h.h
theorem dp_e{d:Ad}{k:Nat}[h:Dp d k](a:k<=60):(d.depth<=60)=True:=eq_true (Br h.h a)
theorem dpa_e{a:List Ad}{k:Nat}[h:DpA a k](b:k<=60):(Bd a<=60)=True:=eq_true (Br h.h b)
theorem eqD_l0(a:List Ad):Ew (.list a) (.list [])=a.isEmpty:=R4 a
theorem ow_e{d:Ad}{R:Ad->Prop}:(∃e,DV.dat .ow d=.dat .ow e/\R e)=R d:=by
 apply propext
 constructor
 ·(intro a; obtain ⟨e,h,r⟩ := a); cases h; exact r
 ·intro r; exact ⟨d,rfl,r⟩
theorem tt_e{m:Md}{b:Bool}:(∃a,DV.dat m (.bool b)=.dat a (.bool true))=(b=true):=by
 apply propext
 constructor
 ·rintro ⟨e,h⟩; cases h; rfl
 ·intro r; subst r; exact ⟨m,rfl⟩
theorem cdiv_e{i j:Int}:CU i j=(0<j/\j<1073741824):=rfl
theorem cpow_e{i j:Int}:T2 i j=(0<=j/\j<=1000000/\i.natAbs<2 ^ 64):=rfl
theorem cmul_l{i j:Int}(h:-18446744073709551616<i/\i<18446744073709551616):N8 i j=True:=eq_true (.inl h)
theorem iT{b a:List DV}{n n':Nat}(h:b=a)(h':n=n'):(⟨b,n⟩ : DS)=⟨a,n'⟩:=by subst h h'; rfl
theorem cS{j i a:Nat}(h:(Ck j)[i]? = some a):a=i/\i<j:=by
 obtain ⟨c,b⟩:=An.mp h
 rw[Ex] at c
 rw[List.getElem_range] at b
 exact ⟨b.symm,c⟩
def NP(v:DV):Prop:=∀l,npk (v::l)=npk l
theorem Jj:NP .un:=λ_=>rfl
theorem Iv{d:Ad}:NP (.dat .sh d):=λ_=>rfl
theorem DP:NP .drw:=λ_=>rfl
theorem EL{t u:DB}{D:DEnds}(X:(Bool->DS->Prop)->Prop)(J:DS->Prop)(h:∀N:DS->Prop,(∀a,J a->N a)->X (EB t u { D with nx:=N }))(k:∀a,J a->D.nx a):X (EB t u D):=h D.nx k
theorem EU{a:Type}(x y:a)(b:Bool):aQ [x,y] (if b=true then 1 else 0)=some (if b=true then y else x):=by cases b <;> rfl
theorem fold_w(w:List Int):Pu (List.map Be w)=Bk w:=rfl
theorem isi_li(a:List Ad):Tu (.list a) "list" = true:=by simp [Tu,i7]
theorem isi_tt(a:List Ad):Tu (.tuple a) "tuple" = true:=by simp [Tu,i7]
theorem isi_bb(i:Bool):Tu (.bool i) "bool" = true:=by simp [Tu,i7]
theorem EZ{ns:List Int}(k:Nat):(Jv ns none (some (k:Int))).length<=k:=by
 rw[wL,Dl]
 exact Nat.min_le_left _ _
theorem ifB_lt{t u:DB}{D:DEnds}{δ:DS}:EB t u D true δ=t D δ:=rfl
theorem ifB_lf{t u:DB}{D:DEnds}{δ:DS}:EB t u D false δ=u D δ:=rfl
theorem str_self(s:Str):(s == s)=true:=by simp
theorem yesL_ow{e:Ad}{δ:DS}{a:Ad->Nat->Prop}:tX a (.dat .ow e) δ=a e δ.n:=propext ⟨λh=>h.2,λh=>⟨by decide,h⟩⟩
theorem yesL_sh{e:Ad}{δ:DS}{a:Ad->Nat->Prop}:tX a (.dat .sh e) δ=a e δ.n:=propext ⟨λh=>h.2,λh=>⟨by decide,h⟩⟩
theorem kZ{m b:Md}{a es:List Ad}{P:DV->Prop}(h1:m≠.pk)(c:b≠.pk):Tq (.dat m (.list a)) (.dat b (.list es)) P=(a.length+es.length<=1000000/\P (.dat .tp (.list (a++es)))):=propext ⟨λh=>h.2.2,λh=>⟨h1,c,h⟩⟩
theorem catL_shsh{a es:List Ad}{P:DV->Prop}:Tq (.dat .sh (.list a)) (.dat .sh (.list es)) P=(a.length+es.length<=1000000/\P (.dat .tp (.list (a++es)))):=kZ (by decide) (by decide)
theorem catL_shtp{a es:List Ad}{P:DV->Prop}:Tq (.dat .sh (.list a)) (.dat .tp (.list es)) P=(a.length+es.length<=1000000/\P (.dat .tp (.list (a++es)))):=kZ (by decide) (by decide)
theorem catL_tpow{a es:List Ad}{P:DV->Prop}:Tq (.dat .tp (.list a)) (.dat .ow (.list es)) P=(a.length+es.length<=1000000/\P (.dat .tp (.list (a++es)))):=kZ (by decide) (by decide)
theorem catL_tptp{a es:List Ad}{P:DV->Prop}:Tq (.dat .tp (.list a)) (.dat .tp (.list es)) P=(a.length+es.length<=1000000/\P (.dat .tp (.list (a++es)))):=kZ (by decide) (by decide)
theorem pJ{c:Type}{l:List c}(h:l≠[]):∃a∈l,aQ l (-1)=some a/\l.getLast? = some a:=by
 have b:=Ka.mpr h
 refine ⟨l[l.length - 1],Ec _,?_,?_⟩
 ·unfold aQ fV
  rw[if_neg (by decide),if_pos (by omega),show ((-1:Int)+l.length).toNat=l.length - 1 by omega]
  simp [b]
 ·rw[List.getLast?_eq_getElem?]; simp [b]
theorem dec_self{b:Type}(a:b)[h:Decidable (a=a)]:decide (a=a)=true:=by simp
theorem isE_cons{b:Type}(a:b)(l:List b):(a::l).isEmpty=false:=rfl
theorem retA_sh{d:Ad}{R:Ad->Prop}:(∃m d',DV.dat .sh d=.dat m d'/\m≠.pk/\R d')=R d:=propext ⟨λ⟨m,d',e,_,h⟩=>by cases e; exact h,λh=>⟨_,_,rfl,by decide,h⟩⟩
theorem retA_ow{d:Ad}{R:Ad->Prop}:(∃m d',DV.dat .ow d=.dat m d'/\m≠.pk/\R d')=R d:=propext ⟨λ⟨m,d',e,_,h⟩=>by cases e; exact h,λh=>⟨_,_,rfl,by decide,h⟩⟩
theorem retA_tp{d:Ad}{R:Ad->Prop}:(∃m d',DV.dat .tp d=.dat m d'/\m≠.pk/\R d')=R d:=propext ⟨λ⟨m,d',e,_,h⟩=>by cases e; exact h,λh=>⟨_,_,rfl,by decide,h⟩⟩
theorem ow_npk:(Md.ow≠Md.pk)=True:=eq_true (by decide)
theorem E4{js1 js2:List Nat}{j0:Nat}{o:DT}{p:DE}{P:DV->DS->Prop}{m:Md}{k:List Ad}{c:DS}{r:Type}{l:List r}{g:r->Ad}(e:k=l.map g)(s:c.sl[j0]? = some .drw)(I:Nat->List Ad->Nat->Prop)(h0:I 0 [] c.n)(h:∀i a b n,l[i]? = some a->I i b n->Pd (js1.length+1) o p ⟨.dat m (g a)::(frD (c.sl.set j0 .un) js1++.drw::frD (c.sl.set j0 .un) js2),n⟩ (λe n'=>I (i+1) (b++[e]) n') (λn'=>I (i+1) b n'))(q:∀b n,I l.length b n->P (.dat .tp (.list b)) ⟨c.sl,n⟩):uZ js1 j0 js2 o p P m k c:=by
 subst e
 refine ⟨s,I,h0,λi d b n f j=>?_,λb n j=>q b n (by rw[Ac] at j; exact j)⟩
 rw[Bo] at f
 cases q:l[i]? with
 | none=>rw[q] at f; cases f
 | some a=>rw[q] at f; cases f; exact h i a b n q j
end DL
namespace K15
open PySem L2 Nd DL
def top(i:Nat):Stmt:=PySem.Challenge.pw_needledeck_k15_chains_looked_at.main.body.getD i (.Pass ⟨0,0,0,0⟩)
abbrev Wh:Stmt:=top 1
abbrev Yz:Stmt:=top 2
abbrev Xi:Stmt:=top 3
abbrev Wc:Stmt:=top 5
abbrev Sd:Stmt:=top 6
abbrev jD:Stmt:=top 8
abbrev vN:Stmt:=top 9
abbrev Oe:Stmt:=top 10
abbrev Pg:Stmt:=top 11
abbrev Og:Stmt:=top 12
abbrev Qp:Stmt:=top 13
abbrev Sg:Stmt:=top 14
abbrev Nh:Stmt:=top 15
abbrev Se:Stmt:=top 16
abbrev Nt:Stmt:=top 17
abbrev Mi:Stmt:=top 18
abbrev aT:Stmt:=top 19
section
variable{P:Bz}{w:World}{K:PySem.W.Frag}{mg:Str->Option Value}{base:Heap}
theorem KP:FnScope ["_law_cell"] ["_law_cell"] (Cg jD):=⟨rfl,rfl,rfl,by decide +kernel,rfl,by decide +kernel,by decide +kernel⟩
theorem C4{f:Addr}{d:Cu}(F:Fun K "_law_draws" "_law_draws" jD f d):FnOk P w K mg base Ko 1 f d ["_law_cell"] tP:=by
 refine F.ok KP (λvs H Q E h=>?_) (λe A a s H vs Q E g h=>?_)
 ·obtain ⟨c,rfl,_⟩:=h
  rfl
 obtain ⟨c,rfl,q⟩:=h
 refine ⟨_,Ux (Yq (pR (Hq (pv 0) (Hq Hi (Hq (vD X3 (pv 0) (Lo rN Hi Hi) (Tx _)) Mg))))),?_⟩
 refine ⟨_,rfl,_,rfl,10,18,rfl,rfl,⟨by decide,by decide,by decide⟩,_,_,rfl,rfl,(by show 3<=Bf; decide),λp b=>?_⟩
 exact q p _ _ b Dq (Fs b _)
theorem KM:FnScope ["_law_draws_here", "_law_k", "_law_number"] ["_law_draws_here"] (Cg vN):=⟨rfl,rfl,rfl,by decide +kernel,rfl,by decide +kernel,by decide +kernel⟩
theorem N9{f:Addr}{j:Cu}(F:Fun K "_law_next" "_law_next" vN f j):FnOk P w K mg base Ko 1 f j ["_law_draws_here"] G7:=by
 refine F.ok KM (λvs H Q E h=>?_) (λo A g s H vs Q E r h=>?_)
 ·obtain ⟨d,c,k,b,rfl,_⟩:=h
  rfl
 obtain ⟨d,c,k,b,rfl,m,v,t,q⟩:=h
 refine ⟨_,Lw (cX (Lo eV (Sy Mz (pv 0) Hi (λ_ _=>rfl)) Hi) (Zh (pv 0) Hi Rl))
  (Lw (Ua (i:=1) KM.nd rfl (Dw rfl) (Sy Mz (pv 0) Hi (λ_ _=>rfl)))
  (Lw (W8 (B9 (Sy Mz (pv 0) Hi (λ_ _=>rfl)))
   (Lw (Ua (i:=2) KM.nd rfl (Dw rfl) (Lo Zj (Sy Mz (pv 0) Hi (λ_ _=>rfl)) (Lo rN Hi Hi)))
    (Lw (cX (Lo lM (Sy Mz (pv 0) Hi (λ_ _=>rfl)) (Lo rN Hi Hi)) (Zh (pv 0) Hi Rl))
    (Ux (Yq (pv 2))))) tV)
  (Lw (Ua (i:=2) KM.nd rfl (Dw rfl) (Lo Zj (Lo Yt (Lo eV (Lo eV (Lo Zj (Sy Mz (pv 0) Hi (λ_ _=>rfl)) Hi) (Lo Yt (Lo Yt (pv 1) (pv 1)) Hi)) (pv 1)) Hi) Hi))
  (Lw (Ua (i:=2) KM.nd rfl (Dw rfl) (Lo Zj (Lo Yt (pv 2) (pv 2)) Hi))
  (Ux (Yq (Lo lM (Lo Zj (Lo Yt (pv 2) (Lo eV (pv 2) Hi)) Hi) Hi))))))),?_⟩
 -- draws[1]=draws[1]+1
 refine ⟨_,rfl,d,_,1,_,rfl,rfl,Sx.of m,rfl,_,_,rfl,rfl,_,rfl,d,_,1,1,rfl,rfl,m,rfl,?_⟩
 have a:(upd H d (.lst ([V.int c,V.int k,V.bl b].set 1 (V.int (k+1))))) d=some (.lst [.int c,.int (k+1),.bl b]):=Dq
 generalize e:upd H d (.lst ([V.int c,V.int k,V.bl b].set 1 (V.int (k+1))))=H1 at a
 have l:Vs d H H1:=by rw[<- e]; exact Vs.upd
 -- k=draws[1]; if draws[2]
 refine ⟨_,rfl,d,_,1,_,rfl,rfl,Sx.of a,rfl,_,rfl,d,_,2,_,rfl,rfl,Sx.of a,rfl,_,rfl,?_⟩
 refine IH (λ_=>?_) (λ_=>?_)
 ·refine ⟨_,rfl,d,_,0,_,rfl,rfl,Sx.of a,rfl,10,6,rfl,rfl,⟨by decide,by decide,by decide⟩,_,_,rfl,rfl,(by show (0:Int)<10 ^ (6:Int).toNat; decide),?_⟩
  refine ⟨_,rfl,d,_,0,_,rfl,rfl,Sx.of a,rfl,10,6,rfl,rfl,⟨by decide,by decide,by decide⟩,_,_,rfl,rfl,⟨by decide,by decide⟩,_,rfl,d,_,0,0,rfl,rfl,a,rfl,_,rfl,?_⟩
  exact q _ _ _ Dq (l.trans Vs.upd)
 ·have u:=bQ c 1000003 (by decide)
  have n:=bQ ((c % 1000003+(k+1) * (k+1) * 7919+(k+1)) * 48271) 2147483629 (by decide)
  refine ⟨_,rfl,d,_,0,_,rfl,rfl,Sx.of a,rfl,_,_,rfl,rfl,(by show (0:Int)<1000003; decide),_,rfl,_,rfl,_,_,rfl,rfl,.inl ⟨by omega,by omega⟩,_,_,rfl,rfl,.inr ⟨by decide,by decide⟩,_,_,rfl,rfl,_,rfl,_,_,rfl,rfl,
   _,_,rfl,rfl,.inr ⟨by decide,by decide⟩,_,_,rfl,rfl,(by show (0:Int)<2147483629; decide),?_⟩
  generalize ((c % 1000003+(k+1) * (k+1) * 7919+(k+1)) * 48271) % 2147483629=x at n
  have p:=bQ (x * x) 2147483587 (by decide)
  refine ⟨_,rfl,_,rfl,_,_,rfl,rfl,.inl ⟨by omega,by omega⟩,_,_,rfl,rfl,(by show (0:Int)<2147483587; decide),?_⟩
  generalize (x * x) % 2147483587=y at p
  refine ⟨_,rfl,_,rfl,_,_,rfl,rfl,_,_,rfl,rfl,.inl ⟨by omega,by omega⟩,_,_,rfl,rfl,(by show (0:Int)<2147483579; decide),_,_,rfl,rfl,⟨by decide,by decide⟩,?_⟩
  exact q _ _ _ a l
theorem xA{f:Addr}{a:Cu}(F:Fun K "_law_draws" "_law_draws" jD f a):FnOk P w K mg base Ko 1 f a ["_law_cell"] Xj:=C5 (C4 F)
theorem G9{f:Addr}{a:Cu}(F:Fun K "_law_next" "_law_next" vN f a):FnOk P w K mg base Ko 1 f a ["_law_draws_here"] (R9 K Wg):=Q9 (N9 F)
end
end K15
namespace DL
open PySem L2 Nd
def sub(a b:List Int):Bool:=a.all λi=>decide (i∈b)
def oS(a b:List Int):List Int:=a.filter λi=>decide (i∉b)
theorem Om(a:Int){b:Int}(h:0<b):0<=a % b/\a % b<b:=bQ a b h
def FR:PF:=λc R=>∃a b:List Int,c=[Bk a,Bk b]/\R (.bool (sub a b))
end DL
namespace Nd
open PySem L2 Ts
def V1(K:PySem.W.Frag):R2:=λx y H Q=>∃a b c d,x=.ref a/\y=.ref b/\Vm K H a c/\Vm K H b d/\d≠[]/\c.length+d.length<=Bf/\(c=[]->Q (.ref b) H)/\(c≠[]->∀p,H p=none->Q (.ref p) (upd H p (.tup (c++d))))
open PyProof.Rows in
theorem M7{X:Cx}:Yh X (Lp .Add) (V1 X.K):=by
 intro c s R H x y v u Q I w j h
 obtain ⟨a,b,q,O,rfl,rfl,l,m,P,T,N,S⟩:=h
 by_cases e:q=[]
 ·cases w
  cases j
  obtain ⟨g,A,L,_⟩:=I.tuple l
  obtain ⟨o,U,B,_⟩:=I.tuple m
  have d:g=[]:=A.nil_iff.mpr e
  subst d
  obtain ⟨⟨V,J,E,f⟩,t,n,C,d⟩:=id L
  obtain ⟨⟨W,G,M,i⟩,r,k,D,p⟩:=id B
  simp only at n d k p
  subst n d k p
  exact iY ⟨_,t,rfl⟩ ⟨_,r,rfl⟩ Vy fP PySem.F.slot_tuple_add PySem.F.entry_tuple_add (PySem.F.args_tuple_add_2 _ _)
   (tuple_addW0 a b _ _ C D J G f i rfl) ⟨t,r,⟨.ref b,H,I,rfl,N e⟩⟩
 ·exact vG c s R H (.ref a) (.ref b) v u Q I w j ⟨a,b,q,O,rfl,rfl,l,m,e,T,λz=>absurd z P,λ_=>S e⟩
def Gf:Nat->List (List Int)
 | 0=>[[]]
 | n+1=>Gf n++(Gf n).map (·++[(n:Int)])
theorem Pt:∀n,(Gf n).length=2 ^ n
 | 0=>rfl
 | n+1=>by
  show (Gf n++(Gf n).map (·++[(n:Int)])).length=2 ^ (n+1)
  rw[Az,Ac,Pt n,Qk]
  omega
theorem Xr{n:Nat}(h:n<=10):(Gf n).length<=1024:=by
 rw[Pt]
 exact Gd (by decide) h
theorem Qd:∀n,∀w∈Gf n,w.length<=n
 | 0,w,h=>by
  have : w=[]:=by simpa [Gf] using h
  rw[this]
  exact Ak _
 | n+1,w,h=>by
  rcases Ai.mp (show w∈Gf n++(Gf n).map (·++[(n:Int)]) from h) with h | h
  ·exact Nat.le_succ_of_le (Qd n w h)
  ·obtain ⟨v,a,e⟩:=Bs.mp h
   rw[<- e,Az,Dv]
   exact Nat.succ_le_succ (Qd n v a)
theorem Zz:∀n,∃r,Gf n=[]::r
 | 0=>⟨[],rfl⟩
 | n+1=>by
  obtain ⟨r,e⟩:=Zz n
  refine ⟨r++(Gf n).map (·++[(n:Int)]),?_⟩
  show Gf n++(Gf n).map (·++[(n:Int)])=_
  conv=>lhs; lhs; rw[e]
  rfl
def Ord(l:List (List Int)):Prop:=l.Pairwise λx y=>HT.lexLt y x=false
theorem mM:∀{l m:List (List Int)},l.Perm m->Ord l->Ord m->l=m
 | [],m,p,_,_=>(List.Perm.nil_eq p)
 | x::l,[],p,_,_=>by
  have:=p.length_eq
  simp at this
 | x::l,y::m,p,h1,h2=>by
  obtain ⟨c,a⟩:=Ay.mp h1
  obtain ⟨b,d⟩:=Ay.mp h2
  have e:x=y:=by
   have mx:x∈y::m:=p.mem_iff.mp Aa
   have my:y∈x::l:=p.mem_iff.mpr Aa
   rcases Aj.mp mx with e | mx
   ·exact e
   ·rcases Aj.mp my with e | my
    ·exact e.symm
    ·exact kU (b x mx) (c y my) |>.symm▸rfl
  subst e
  rw[mM ((List.perm_cons x).mp p) a d]
def Ws(H:Hp)(ws:List (Addr×List Int)):Prop:=∀p∈ws,H p.1=some (.tup (p.2.map V.int))
def BU(H:Hp)(a:Addr):List Int:=match H a with
 | some (.tup xs)=>xs.filterMap λx=>match x with | .int i=>some i | _=>none
 | _=>[]
theorem kC{H:Hp}{a:Addr}{w:List Int}(h:H a=some (.tup (w.map V.int))):BU H a=w:=by
 unfold BU
 rw[h]
 show (w.map V.int).filterMap _=w
 rw[Zo]
 exact List.filterMap_some
theorem Ws.c{H:Hp}{ws:List (Addr×List Int)}(h:Ws H ws):(ws.map (·.1)).map (BU H)=ws.map (·.2):=by
 rw[Dz]
 exact Jz λp a=>kC (h p a)
def sZ:Sp:=λvs H Q _=>∃h:Int,vs=[.int h]/\0<=h/\h<=10 /\
 ∀(p:Addr) (b:List Addr) (L:List (List Int)) (a:Hp),H p=none->a p=some (.lst (b.map V.ref))->(∀(i:Nat) (r:Addr) (w:List Int),b[i]? = some r->L[i]? = some w->a r=some (.tup (w.map V.int)))->b.length=L.length->L.Perm (Gf h.toNat)->Ord L->Pq H a->Q (.ref p) a
end Nd
namespace Nd
open PySem L2
def ch:Nat->Nat->Nat
 | _,0=>1
 | 0,_+1=>0
 | n+1,k+1=>ch n k+ch n (k+1)
theorem tF(n k:Nat):ch (n+1) (k+1)=ch n k+ch n (k+1):=rfl
theorem fA:∀{n k:Nat},n<k->ch n k=0
 | 0,0,h=>absurd h (Ju _)
 | 0,k+1,_=>rfl
 | n+1,0,h=>absurd h (Fl _)
 | n+1,k+1,h=>by rw[tF,fA (by omega:n<k),fA (by omega:n<k+1)]
theorem T3:∀n:Nat,ch n n=1
 | 0=>rfl
 | n+1=>by rw[tF,T3 n,fA (Nat.lt_succ_self n)]
def cw:Nat->Int->Nat->List (List Int)
 | _,_,0=>[[]]
 | 0,_,_+1=>[]
 | d+1,p,m+1=>(cw d (p+1) m).map (p::·)++cw d (p+1) (m+1)
def jR(top:Int):Nat->List Int->Nat
 | _,[]=>0
 | m,x::w=>ch (top - 1 - x).toNat m+jR top (m - 1) w
theorem sG:∀{n:Nat} {w:List Int},w∈Gf n↔Eg n w
 | 0,w=>by
  show w∈[[]]↔_
  rw[Ab]
  constructor
  ·rintro rfl; exact Eg.nil _
  ·rintro ⟨_,h⟩
   match w with
   | []=>rfl
   | x::w=>have:=h x Aa; omega
 | n+1,w=>by
  show w∈Gf n++(Gf n).map (·++[(n:Int)])↔_
  rw[Ai,List.mem_map,sG]
  constructor
  ·rintro (h | ⟨v,hv,rfl⟩)
   ·exact h.up (by omega)
   ·have:=(sG.mp hv).more (by omega)
    exact this.up (by omega)
  ·intro h
   by_cases b:(n:Int)∈w
   ·refine .inr ⟨w.dropLast,sG.mpr ?_,?_⟩
    ·have a:w≠[]:=λz=>by rw[z] at b; cases b
     have g:w.getLast a=n:=by
      have i:=h.2 _ (Td a)
      by_cases e:w.getLast a=n
      ·exact e
      ·exfalso
       have d:=Ed a
       rw[<- d] at b
       rcases Ai.mp b with z | z
       ·have c:=h.1
        rw[<- d] at c
        have:=(Bi.mp c).2.2 _ z _ (Ab.mpr rfl)
        omega
       ·exact e (Ab.mp z).symm
     have d:=Ed a
     have c:=h.1
     rw[<- d,g] at c
     obtain ⟨j,_,k⟩:=Bi.mp c
     exact ⟨j,λx f=>⟨(h.2 x (Jm w f)).1,k x f _ (Ab.mpr rfl)⟩⟩
    ·have a:w≠[]:=λz=>by rw[z] at b; cases b
     have g:w.getLast a=n:=by
      have i:=h.2 _ (Td a)
      by_cases e:w.getLast a=n
      ·exact e
      ·exfalso
       have d:=Ed a
       rw[<- d] at b
       rcases Ai.mp b with z | z
       ·have c:=h.1
        rw[<- d] at c
        have:=(Bi.mp c).2.2 _ z _ (Ab.mpr rfl)
        omega
       ·exact e (Ab.mp z).symm
     rw[<- g]
     exact Ed a
   ·refine .inl ⟨h.1,λx f=>?_⟩
    have:=h.2 x f
    have : x≠n:=λz=>b (by rw[<- z]; exact f)
    omega
theorem Ov:∀n:Nat,(Gf n).Nodup
 | 0=>Bp.mpr ⟨Bt,Do⟩
 | n+1=>by
  show (Gf n++(Gf n).map (·++[(n:Int)])).Nodup
  refine Dh.mpr ⟨Ov n,?_,λx c y d e=>?_⟩
  ·exact List.Pairwise.map _ (λa b h e=>h (pP e)) (Ov n)
  ·subst e
   obtain ⟨v,_,rfl⟩:=Bs.mp d
   have:=(sG.mp c).2 n (Ag _ (Ab.mpr rfl))
   omega
end Nd
namespace DL
open PySem L2 Nd
def bK:PF:=λa R=>∃h:Int,a=[.int h]/\0<=h/\h<=10/\∀L:List (List Int),L.Perm (Gf h.toNat)->Ord L->R (wordsD L)
theorem nQ{K:PySem.W.Frag}{H:Hp}:∀{rs:List Addr} {L:List (List Int)},(∀(i:Nat) (r:Addr) (w:List Int),rs[i]? = some r->L[i]? = some w->H r=some (.tup (w.map V.int)))->rs.length=L.length->(∀w∈L,w.length<=1000000)->RdFs K H (rs.map V.ref) (L.map Bk) []
 | [],[],_,_,_=>.nil
 | r::rs,w::L,h,l,hw=>by
  have a:=K0 (K:=K) (h 0 r w rfl rfl) (hw w (Aa ..))
  have t:=nQ (K:=K) (rs:=rs) (L:=L) (λi c b d e=>h (i+1) c b d e) (by simpa using l) (λb z=>hw b (Ae _ z))
  exact RdFs.cons a t
 | [],_::_,_,l,_=>by simp at l
 | _::_,[],_,l,_=>by simp at l
theorem xC{L:List (List Int)}{n:Nat}(a:n<=10)(p:L.Perm (Gf n)):L.length<=1024/\∀w∈L,Eg n w/\w.length<=10:=⟨by rw[p.length_eq]; exact Xr a,λw b=>⟨sG.mp (p.mem_iff.mp b),Br (Qd n w (p.mem_iff.mp b)) a⟩⟩
section
variable{P:Bz}{w:World}{K:PySem.W.Frag}{mg:Str->Option Value}{base:Heap}{k:Nat}{f:Addr}{b:Cu}{ps:List Str}
theorem F4(F:FnOk P w K mg base Ko k f b ps sZ):FnOk P w K mg base Ko k f b ps (Zv K bK):=by
 refine F.imp λC H Q E h=>?_
 obtain ⟨D,n,A,R,z,ok,q,c,m⟩:=h
 obtain ⟨h,rfl,o,i,u⟩:=c
 obtain ⟨J,B,rfl,d⟩:=zR z ok q
 obtain ⟨rfl,_⟩:=d.int_inv
 refine ⟨h,rfl,o,i,λp I L e j y v t c g s=>?_⟩
 obtain ⟨G,r⟩:=xC (n:=h.toNat) (by omega) c
 refine m (.ref p) _ [p] e (u L c g) (RdF.lst y (by rw[Ac]; exact gG (by omega)) (nQ v t λw x=>by have:=(r w x).2; omega)) (Bp.mpr ⟨Bt,Do⟩) (λa l=>?_) s
 rw[Ab.mp l]; exact j
end
def pairD(p:Nat×Nat):Ad:=.tuple [.int p.1,.int p.2]
instance {p:Nat×Nat}:Im (pairD p):=⟨(inferInstance:Im (.tuple [.int p.1,.int p.2])).h⟩
instance {p:Nat×Nat}:Dp (pairD p) 1:=⟨(inferInstance:Dp (.tuple [.int p.1,.int p.2]) 1).h⟩
def X2(p:Nat×Nat×List Int):Ad:=.tuple [.int p.1,.int p.2.1,Bk p.2.2]
instance {p:Nat×Nat×List Int}:Im (X2 p):=⟨(inferInstance:Im (.tuple [.int p.1,.int p.2.1,Bk p.2.2])).h⟩
instance {p:Nat×Nat×List Int}:Dp (X2 p) 2:=⟨(inferInstance:Dp (.tuple [.int p.1,.int p.2.1,Bk p.2.2]) 2).h⟩
def JJ(L:List (List Int))(f:List Int->Int):Ad:=.list ((L.map f).map Be)
instance {L:List (List Int)} {f:List Int->Int}:Dp (JJ L f) 1:=⟨(inferInstance:Dp (.list ((L.map f).map Be)) 1).h⟩
def jm(Q w c:List Int):Bool:=sub w c && c.all λi=>decide (i∈w\/i∉Q)
end DL
namespace DL
open PySem PySem.Spec PyProof.Rows L2 Nd
end DL
namespace DRow
open PySem L2 Nd DL
abbrev Cd:=List Int
def aM(w u:List Int):Bool:=w.all λi=>decide (i∈u)
def Z4(a b:List Int)(ps:List (List Int×Bool)):Option Bool:=ps.foldl (λst p=>if aM p.1 a=aM p.1 b then st else some (aM p.1 a == !p.2)) none
theorem N4(a b:List Int)(ps:List (List Int×Bool))(p:List Int×Bool):Z4 a b (ps++[p])=if aM p.1 a=aM p.1 b then Z4 a b ps else some (aM p.1 a == !p.2):=by
 unfold Z4
 rw[List.foldl_append]
 rfl
def cN(ps:List (List Int×Bool))(n:List Int):List Int:=ps.reverse.map λp=>if aM p.1 n=p.2 then 1 else 0
theorem gN(ps:List (List Int×Bool))(p:List Int×Bool)(n:List Int):cN (ps++[p]) n=(if aM p.1 n=p.2 then 1 else 0)::cN ps n:=by
 unfold cN
 rw[List.reverse_append,Bc]
 rfl
theorem yV{a:Type}{P:List a->Prop}(h0:P [])(h1:∀l x,P l->P (l++[x]))(l:List a):P l:=by
 have : ∀m:List a,P m.reverse:=λm=>by
  induction m with
  | nil=>exact h0
  | cons x m b=>rw[Oa]; exact h1 _ _ b
 have:=this l.reverse
 rwa [List.reverse_reverse] at this
theorem o7(b a:List Int)(ps:List (List Int×Bool)):(Z4 b a ps=none↔cN ps b=cN ps a)/\(Z4 b a ps=some true↔HT.lexLt (cN ps b) (cN ps a)=true):=by
 induction ps using yV with
 | h0=>exact ⟨⟨λ_=>rfl,λ_=>rfl⟩,⟨λh=>(by cases h),λh=>(by cases h)⟩⟩
 | h1 l p c =>
  rw[N4,gN,gN,HT.lexLt_cons]
  by_cases h:aM p.1 b=aM p.1 a
  ·rw[if_pos h,h,if_pos rfl]
   refine ⟨c.1.trans ⟨λe=>by rw[e],λe=>(Oc e).2⟩,c.2⟩
  ·rw[if_neg h]
   cases h1:aM p.1 b <;> cases d:aM p.1 a <;> cases f:p.2 <;> rw[h1,d] at h <;> first | exact absurd rfl h | simp
theorem Vk(x y:List Int)(ps:List (List Int×Bool)):Z4 x y ps=some false↔(¬ cN ps x=cN ps y/\¬ HT.lexLt (cN ps x) (cN ps y)=true):=by
 rw[<- (o7 x y ps).1,<- (o7 x y ps).2]
 cases Z4 x y ps with
 | none=>simp
 | some b=>cases b <;> simp
def two(x y:Cd):Cd->Bool:=λr=>decide (r=x) || decide (r=y)
abbrev Ps:=List Int×Bool
def U9(p:Ps):Ad:=.tuple [Bk p.1,.str (A9 p.2)]
instance {p:Ps}:Im (U9 p):=⟨(inferInstance:Im (.tuple [Bk p.1,.str (A9 p.2)])).h⟩
instance {p:Ps}:Dp (U9 p) 2:=⟨(inferInstance:Dp (.tuple [Bk p.1,.str (A9 p.2)]) _).h⟩
instance {α:Type} {f:α->Ad} {l:List α} {lo hi:Option Int} [h:∀a,Im (f a)]:ImA (Jv (l.map f) lo hi):=⟨by rw[oO]; exact LB⟩
theorem cutG_from{a:Type}(xs:List a)(k:Nat):Jv xs (some (k:Int)) none=xs.drop k:=by
 unfold Jv
 rw[HT.sIx_none,HT.sIx_nat]
 by_cases h:k<=xs.length
 ·rw[Qa h,Dt (by rw[Iu]; exact Ak _)]
 ·rw[fY (by omega),sQ (by omega),sQ (by omega),List.take_nil]
end DRow
namespace DL
open PySem PySem.Spec PyProof.Rows L2 Nd DRow
theorem eS{g i:Type}{f:g->i}:∀{l:List g},l.Nodup->(∀a∈l,∀b∈l,f a=f b->a=b)->(l.map f).Nodup
 | [],_,_=>Do
 | x::l,nd,h=>by
  have c:=Bp.mp nd
  rw[Aw,List.nodup_cons]
  refine ⟨λz=>?_,eS c.2 λa j b k=>h a (Ae _ j) b (Ae _ k)⟩
  obtain ⟨y,d,e⟩:=Bs.mp z
  have:=h y (Ae _ d) x Aa e
  rw[this] at d
  exact c.1 d
end DL
namespace K15
open PySem L2 Nd DL
local macro_rules | `(tactic| array_get_dec) => do
  let ids:=(("e_lenSet e_lsB e_extend e_extB e_insertO e_insOB e_callWV e_callWVB e_seq e_skip e_ret e_if e_asg e_name e_name2 e_name3 e_name4 e_own e_own2 e_nT e_nF e_gtup e_gsn e_gsc e_op e_var e_c e_imm e_immB e_take e_frz e_frzo e_I e_I0 e_eqF e_eqT e_inFt_w1 e_inTt_w1 e_ixl e_cat e_catT e_catT_w1 e_nlT e_nlF e_ntT e_ntF e_pkOfsh e_pkOfow e_mdInpk e_mdInsh e_mdIntp e_mdInow e_mdNewsh e_mdItsh e_mdIttp e_mdItow e_nil e_cons e_tup e_lst e_noPart e_part e_partB e_sl e_slBl e_slBt e_cb e_lenl e_lent_w1 e_listt e_tuplel e_intb e_all e_sortT e_isi e_str e_v e_b e_bB e_notT e_andT e_orT e_orTt e_orTf e_not e_notB e_and e_neg e_negB e_dL e_dTp e_lB e_tpB e_tpB_w1 e_range1 e_rng1B e_zip e_zipB e_for e_comp e_compL e_stepL e_stepLT e_stepLF e_compD e_noTest e_step e_stepT e_yesB e_stepD e_stepDT e_yesBD e_call e_callW e_draws e_drawsB e_insert e_revL e_revT e_appendO e_scrSl e_sortW e_compDL e_stepDL e_stepDLT ow_npk retWT retA_sh retA_ow retA_tp isLst wordsD callB callBW tupB lstB datas pkMd allOw noPk appOB mmd insB revLB revTB own1 npk retE retL args0 frD frD1 alD List.map_cons List.map_nil List.replicate List.getElem?_cons_zero List.getElem?_cons_succ List.set_cons_zero List.set_cons_succ List.cons_append List.nil_append Option.map_some List.length_cons List.length_nil List.append_nil rdAdd rdSub rdMul rdDiv rdMod rdShl rdLt rdLe rdGt rdGe if_true if_false Bool.false_eq_true mdZip List.append_assoc Nat.reduceAdd Nat.reduceSub Nat.reduceLeDiff true_and im_e ima_e dp_e dpa_e any_int eqD_intd eqD_bl eqD_str eqD_l0 ow_e tt_e cdiv_e cpow_e cmul_l Int.reduceLT Int.reduceNeg and_self fold_w isi_li isi_tt isi_bb Bool.not_true Bool.not_false decide_true String.reduceEq or_true true_or List.isEmpty_nil ifB_lt ifB_lf str_self decide_false Int.reduceEq dec_self isE_cons yesL_ow yesL_sh catL_shsh catL_shtp catL_tpow catL_tptp" : String).splitOn " ").toArray.map λ(x:String)=>Lean.mkIdent x.toName
  `(tactic| try simp only [$[↓$ids:ident],*])
section
variable{P:Bz}{w:World}{K:PySem.W.Frag}{mg:Str->Option Value}{base:Heap}
theorem xH:FnScope ["one", "other"] ["one", "other"] (Cg Xi):=⟨rfl,rfl,rfl,by decide +kernel,rfl,by decide +kernel,by decide +kernel⟩
theorem xU{f   : Addr}{t  : Cu}(F:Fun K "within" "within" Xi f t)(e:mg "all" = none):FnOk P w K mg base Ko 1 f t ["one", "other"] (Zv K (FR)):=by
 refine' Ou (k:=0) F xH (λq A m s H E v=>?hb) ?h
 case hb =>
  have n:=v.units
  have r:∀{d:Scope} (h:d={ kind:=.function,names:=[(".0",.local),("place",.local),("other",.free)],isGenerator:=false,isCoroutine:=false }),
    CompScope (Pj Ko P w K mg base ["one", "other"] "within" (Cg Xi) f q A m s H E).nox d [("other",s.heap.objs.size+1)] "place" ["other"] [1]:=by
   rintro d rfl
   refine ⟨by rfl,.inl (by decide +kernel),by rfl,by decide +kernel,.inl rfl,λy c h=>?_,by rfl,by decide +kernel,rfl,λk y j o p=>?_⟩
   ·have z:=Jh h
    simp only[Aj,Bt,or_false,Oi] at z
    obtain ⟨rfl,rfl⟩:=z; rfl
   ·match k,o,p with
    | 0,o,p=>cases o; cases p; exact ⟨rfl,rfl,by first | exact .inl rfl | exact .inr rfl⟩
    | k+1,o,p=>cases o
  exact Df (He (Ej (yP rfl) BN rfl e (by decide +kernel) (Ar (tK (r rfl) rfl (FO (Ax (pv 0))) (λ_ _ _=>Rf) (λ_ _ _=>EW n (Ax (pv 0)) (Ax (pv 1)))) Bh)))
 case h =>
  (intro D R x; obtain ⟨a,b,rfl,C⟩ := x)
  refine ⟨rfl,?_⟩
  array_get_dec
  refine V6 (l:=a) (g:=Be) rfl (λi=>.bool (decide (i∈b))) (λi _ B G u=>?_) ?_
  ·array_get_dec
   exact u
  ·array_get_dec
   refine ⟨a.map λi=>decide (i∈b),by rw[Dz]; rfl,?_⟩
   rw[bA]
   exact C
theorem dM:FnScope ["_law_holes", "_law_told", "_law_place"] ["_law_holes"] (Cg Pg):=⟨rfl,rfl,rfl,by decide +kernel,rfl,by decide +kernel,by decide +kernel⟩
theorem lJ{f:Addr}{fd:Cu}(F:Fun K "_law_all" "_law_all" Pg f fd)(mR:mg "range" = none)(mS:mg "sorted" = none):FnOk P w K mg base Ko 1 f fd ["_law_holes"] sZ:=by
 refine F.ok dM (λvs H Q E h=>?_) (λh6 A h7 s H vs Q E hr h=>?_)
 ·obtain ⟨h,rfl,_⟩:=h
  rfl
 obtain ⟨h,rfl,h0,h1,q⟩:=h
 have h4:(A.deeper (PyProof.Rows.envOfC "_law_all" (Cg Pg) s.heap.objs.size f h6)).units+2<cLine:=Ra (Nat.add_le_add_left (by decide:2<=64) _) hr.units
 refine ⟨_,Lw (Ua (i:=1) dM.nd rfl (Dw rfl) (pR (Hq (qG Mg) Mg)))
  (Lw (E7 Eb rfl (iI rfl mR (Hq (pv 0) Mg)) (Wx (i:=2) dM.nd rfl (Or.inr rfl))
   (Ux (Ua (i:=1) dM.nd rfl (Dw rfl) (Lo qR (pv 1)
    (bP (qE (x := "_law_word") (y := "_law_place") (j:=2) (cl:=[("_law_place",s.heap.objs.size+1)]) (by rfl) (by decide +kernel) (by rfl) (by decide +kernel) (by rfl) (λ_ _ h=>h) (by rfl) (by decide +kernel) (by rfl) (by rfl) (by rfl)) rfl (kE (pv 1)) (λ_ _ _=>fF)
     (λ_ _ _=>Lo (r:=V1 K) M7 (pv 0) (qG (Hq (pv 1) Mg))))))))
  (Ux (Yq (dR (Ts.call_sorted h4) rfl mS (by decide +kernel) (Hq (pv 1) Mg))))),?_⟩
 refine ⟨(by show 0<=Bf; decide),λe ne=>⟨(by show 1<=Bf; decide),λl nl=>?_⟩⟩
 have s1:=(Fs ne (.tup [])).trans (Fs nl (.lst [V.ref e]))
 have b1:(upd (upd H e (.tup [])) l (.lst [V.ref e])) l=some (.lst (([(e,[])].map λp:Addr×List Int=>p.1).map V.ref)):=Dq
 have b2:Ws (upd (upd H e (.tup [])) l (.lst [V.ref e])) [(e,[])]:=λp hp=>by
  have : p=(e,[]):=by simpa using hp
  rw[this]
  exact Fs nl _ _ _ Dq
 refine ⟨_,rfl,h,rfl,by omega,by omega,wJ (lo:=0) (n:=h.toNat) (λi σ m=>∃(l:Addr) (d:List (Addr×List Int)) (pl:Option V),σ=[some (.int h),some (.ref l),pl]/\m l=some (.lst ((d.map λp:Addr×List Int=>p.1).map V.ref))/\Ws m d/\(d.map λp:Addr×List Int=>p.2)=Gf i/\Pq H m)
  ⟨l,[(e,[])],none,rfl,b1,b2,rfl,s1⟩ ?_ ?_⟩
 ·(intro i σ m hi L; obtain ⟨l,d,pl,rfl,C,v,M,X⟩ := L)
  have O:i<=10:=by omega
  have lw:d.length=(Gf i).length:=by rw[<- M,Ac]
  have lz:=Xr O
  have hz:((d.map λp:Addr×List Int=>p.1).map V.ref).length=(Gf i).length:=by rw[Ac,Ac,lw]
  refine ⟨_,rfl,_,rfl,l,rfl,⟨_,Sx.of C⟩,uR (Zx (xs:=(d.map λp:Addr×List Int=>p.1).map V.ref)) (by rw[hz]; exact Br lz (by decide))
   (λD j u G=>∃vs:List (Addr×List Int),u=((vs.map λp:Addr×List Int=>p.1).map V.ref)/\Ws G vs/\(vs.map λp:Addr×List Int=>p.2)=((Gf i).take j).map (·++[(i:Int)])/\Pq m G)
   (λD nD=>⟨[],rfl,λp hp=>(nomatch hp),by simp,Fs nD _⟩) (λD j u G ⟨_,_,_,_,t⟩=>Sx.of (t _ _ C)) ?_ ?_⟩
  ·(intro D j x u G nD hx ha L; obtain ⟨vs,rfl,wv,N,t⟩ := L)
   refine A4 ?_
   rw[Dz,Bo] at hx
   cases Y:d[j]? with
   | none=>rw[Y] at hx; cases hx
   | some Z =>
    obtain ⟨a,g⟩:=Z
    rw[Y] at hx
    have ex:V.ref a=x:=Bu hx
    subst ex
    have h5:G a=some (.tup (g.map V.int)):=t _ _ (v (a,g) (Ao Y))
    have T:(Gf i)[j]? = some g:=by
     rw[<- M,Bo,Y]
     rfl
    have k2:g.length<=10:=Br (Qd i g (Ao T)) O
    -- the new word stands at r
    have S:∀(r:Addr) (J:Hp),Pq G J->J r=some (.tup ((g++[(i:Int)]).map V.int))->J D=some (.lst ((vs.map λp:Addr×List Int=>p.1).map V.ref)) /\
      ∃I:List (Addr×List Int),(vs.map λp:Addr×List Int=>p.1).map V.ref++[V.ref r]=(I.map λp:Addr×List Int=>p.1).map V.ref/\Ws (upd J D (.lst ((vs.map λp:Addr×List Int=>p.1).map V.ref++[V.ref r]))) I /\
       (I.map λp:Addr×List Int=>p.2)=((Gf i).take (j+1)).map (·++[(i:Int)])/\Pq m (upd J D (.lst ((vs.map λp:Addr×List Int=>p.1).map V.ref++[V.ref r]))):=λr J k h9=>by
     have W:=k _ _ ha
     refine ⟨W,vs++[(r,g++[(i:Int)])],by simp,λp hp=>?_,?_,λb o z=>?_⟩
     ·have R:J p.1=some (.tup (p.2.map V.int)):=by
       rcases Ai.mp hp with hp | hp
       ·exact k _ _ (wv p hp)
       ·have : p=(r,g++[(i:Int)]):=by simpa using hp
        rw[this]
        exact h9
      rw[Ei (GN R W (by intro z; cases z))]
      exact R
     ·rw[Bc,N,Re T,Bc]
      rfl
     ·rw[Ei (Hn z nD)]
      exact k _ _ (t _ _ z)
    refine ⟨_,rfl,_,rfl,(by show 1<=Bf; decide),λp1 k0=>?_⟩
    have k:=Fs k0 (.tup [V.int (0+(i:Int))])
    refine ⟨a,p1,_,_,rfl,rfl,Vm.of (k _ _ h5),Vm.of Dq,(λz=>nomatch z),?_,λz=>?_,λz p2 h3=>?_⟩
    ·rw[Ac]
     show g.length+1<=Bf
     exact V2 (by omega)
    ·have e0:g=[]:=by simpa using z
     subst e0
     exact S p1 _ k (by rw[Dq,Int.zero_add]; rfl)
    ·refine S p2 _ (k.trans (Fs h3 _)) ?_
     rw[Dq,Bc,Int.zero_add]
     rfl
  ·(intro D u G nD ha L; obtain ⟨vs,rfl,wv,N,t⟩ := L)
   rw[hz,Dr] at N
   have lv:vs.length=(Gf i).length:=by
    have:=congrArg Ek N
    rw[Ac,Ac] at this
    exact this
   refine ⟨l,D,_,_,rfl,rfl,t _ _ C,ha,?_,λp np=>?_⟩
   ·rw[Ac,Ac,Ac,Ac,lw,lv]
    exact Br (by omega:_<=2048) (by decide)
   ·have k:=Fs np (.lst ((d.map λp:Addr×List Int=>p.1).map V.ref++(vs.map λp:Addr×List Int=>p.1).map V.ref))
    refine ⟨p,d++vs,_,rfl,?_,λx hx=>?_,?_,(X.trans t).trans k⟩
    ·rw[Dq,Bc,Bc]
    ·rcases Ai.mp hx with hx | hx
     ·exact k _ _ (t _ _ (v x hx))
     ·exact k _ _ (wv x hx)
    ·rw[Bc,M,N]
     rfl
 ·(intro σ m L; obtain ⟨l,d,pl,rfl,C,v,M,X⟩ := L)
  have ec:=v.c
  refine ⟨_,rfl,l,d.map (λp:Addr×List Int=>p.1),BU m,rfl,Sx.of C,λr h8=>?_,λr Gx er=>?_,λp B np Z so=>?_⟩
  ·obtain ⟨x,hx,e⟩:=Bs.mp h8
   subst e
   rw[kC (v x hx)]
   exact Vm.of (v x hx)
  ·obtain ⟨tl,et⟩:=Zz h.toNat
   rw[<- M] at et
   cases d with
   | nil=>cases er
   | cons x k1 =>
    have C:x.1=r:=by
     have:=congrArg List.head? er
     simpa using this
    have e2:x.2=[]:=by
     have:=congrArg List.head? et
     simpa using this
    rw[<- C,kC (v x Aa),e2]
  ·have t:=Fs np (.lst (B.map V.ref))
   refine q p B (B.map (BU m)) _ (X.free np) Dq (λi r g h1 h2=>?_) (by rw[Ac]) ?_ ?_ (X.trans t)
   ·rw[Bo,h1] at h2
    have e2:BU m r=g:=Bu h2
    obtain ⟨x,hx,e⟩:=Bs.mp (Z.mem_iff.mp (Ao h1))
    have U:=v x hx
    have e':x.1=r:=e
    rw[<- e2,<- e',kC U]
    exact t _ _ U
   ·have:=Z.map (BU m)
    rw[ec,M] at this
    exact this
   ·exact Rv.mpr so
theorem oB{f:Addr}{a:Cu}(F:Fun K "_law_all" "_law_all" Pg f a)(c:mg "range" = none)(b:mg "sorted" = none):FnOk P w K mg base Ko 1 f a ["_law_holes"] (Zv K bK):=F4 (lJ F c b)
end
def Da(c:List (List Int)):Ad:=.list (c.map Bk)
def Hm(C:List (List (List Int))):Ad:=.list (C.map Da)
def lQ(w u:List Int):Bool:=w.all λi=>decide (i∈u)
theorem JR{w u:List Int}:lQ w u=true↔∀i∈w,i∈u:=by
 unfold lQ
 rw[List.all_eq_true]
 simp
def Ub(c:List (List Int)):List Int:=c.getLastD []
def AQ(c:List (List Int))(p:Int):List (List Int):=c.dropLast.map λw=>w++[p]
def kA(c:List (List Int))(p:Int):List (List (List Int)):=if AQ c p=[] then [c++[Ub c++[p]]] else [c++[Ub c++[p]],AQ c p]
def uE:Nat->List (List (List Int))
 | 0=>[[[]]]
 | n+1=>(uE n).flatMap λc=>kA c n
structure Cov(h:Nat)(C:List (List (List Int))):Prop where
 cover:∀w,Eg h w->∃c∈C,w∈c
 chain:∀c∈C,c.Pairwise λx y=>lQ x y=true
 words:∀c∈C,∀w∈c,Eg h w
 ne:∀c∈C,c≠[]
 len:∀c∈C,c.length<=h+1
 nd:∀c∈C,c.Nodup
theorem kM{c:List (List Int)}{w:List Int}(h:w∈c):w=Ub c\/w∈c.dropLast:=by
 have a:c≠[]:=λz=>by rw[z] at h; cases h
 have e:=Ed a
 rw[<- e] at h
 rcases Ai.mp h with h | h
 ·exact .inr h
 ·refine .inl ?_
  unfold Ub
  rw[Mb,Gj a]
  exact Ab.mp h
theorem tS{c:List (List Int)}(a:c≠[]):Ub c∈c:=by
 unfold Ub
 rw[Mb,Gj a]
 exact Td a
theorem mO{c:List (List Int)}(b:c.Pairwise λx y=>lQ x y=true){w:List Int}(h:w∈c):lQ w (Ub c)=true:=by
 rcases kM h with rfl | hd
 ·exact JR.mpr λ_ z=>z
 have a:c≠[]:=λz=>by rw[z] at h; cases h
 have e:=Ed a
 rw[<- e] at b
 have:=(Bi.mp b).2.2 w hd _ (Ab.mpr rfl)
 have d:Ub c=c.getLast a:=by
  unfold Ub
  rw[Mb,Gj a]
  rfl
 rw[d]
 exact this
theorem uW{x y:List Int}{p:Int}(h:lQ x y=true):lQ x (y++[p])=true/\lQ (x++[p]) (y++[p])=true:=by
 have h:=JR.mp h
 refine ⟨JR.mpr λi hi=>Af _ (h i hi),JR.mpr λi hi=>?_⟩
 rcases Ai.mp hi with hi | hi
 ·exact Af _ (h i hi)
 ·exact Ag _ hi
theorem Yy{n:Nat}{w:List Int}(h:Eg n w):Eg ((n+1:Nat):Int) w/\Eg ((n+1:Nat):Int) (w++[(n:Int)]):=by
 refine ⟨⟨h.1,λi hi=>by have:=h.2 i hi; omega⟩,Bi.mpr ⟨h.1,Cn ..,λa c b d=>?_⟩,λi hi=>?_⟩
 ·rw[Ab.mp d]; exact (h.2 a c).2
 ·rcases Ai.mp hi with hi | hi
  ·have:=h.2 i hi; omega
  ·rw[Ab.mp hi]; omega
theorem yR{n:Nat}{w:List Int}(h:Eg ((n+1:Nat):Int) w):Eg n w\/∃u,Eg n u/\w=u++[(n:Int)]:=by
 by_cases z:(n:Int)∈w
 ·right
  have c:w≠[]:=λe=>by rw[e] at z; cases z
  have e:=Ed c
  have d:=h.1
  rw[<- e] at d
  obtain ⟨j,_,g⟩:=Bi.mp d
  have f:w.getLast c=(n:Int):=by
   have m:=Td c
   have b:=h.2 _ m
   rw[<- e] at z
   rcases Ai.mp z with z | z
   ·have:=g _ z _ (Ab.mpr rfl); omega
   ·exact (Ab.mp z).symm
  refine ⟨w.dropLast,⟨j,λi a=>?_⟩,by rw[<- f]; exact e.symm⟩
  have:=g i a _ (Ab.mpr rfl)
  rw[f] at this
  exact ⟨(h.2 i (Jm _ a)).1,this⟩
 ·left
  refine ⟨h.1,λi a=>?_⟩
  have:=h.2 i a
  have : i≠(n:Int):=λq=>z (by rw[<- q]; exact a)
  omega
theorem E1{n:Nat}{C:List (List (List Int))}(h:Cov n C):Cov (n+1) (C.flatMap λc=>kA c n):=by
 have two:∀c∈C,∀d,d∈kA c n↔d=c++[Ub c++[(n:Int)]]\/(d=AQ c n/\AQ c n≠[]):=λc _ d=>by
  unfold kA
  by_cases z:AQ c n=[]
  ·rw[if_pos z]
   simp [z]
  ·rw[if_neg z]
   simp [z]
 refine ⟨λw hw=>?_,λd hd=>?_,λd hd w hw=>?_,λd hd=>?_,λd hd=>?_,λd hd=>?_⟩
 ·rcases yR hw with hw | ⟨u,k,rfl⟩
  ·obtain ⟨c,a,i⟩:=h.cover w hw
   exact ⟨_,Bv.mpr ⟨c,a,(two c a _).mpr (.inl rfl)⟩,Af _ i⟩
  ·obtain ⟨c,a,f⟩:=h.cover u k
   rcases kM f with rfl | hd
   ·exact ⟨_,Bv.mpr ⟨c,a,(two c a _).mpr (.inl rfl)⟩,Ag _ (Ab.mpr rfl)⟩
   ·have j:u++[(n:Int)]∈AQ c n:=List.mem_map_of_mem hd
    exact ⟨_,Bv.mpr ⟨c,a,(two c a _).mpr (.inr ⟨rfl,λz=>by rw[z] at j; cases j⟩)⟩,j⟩
 ·obtain ⟨c,a,hd⟩:=Bv.mp hd
  rcases (two c a d).mp hd with rfl | ⟨rfl,_⟩
  ·refine Bi.mpr ⟨h.chain c a,Cn ..,λx g y b=>?_⟩
   rw[Ab.mp b]
   exact (uW (mO (h.chain c a) g)).1
  ·refine Rv.mpr (((h.chain c a).sublist (Lf c)).imp λq=>(uW q).2)
 ·obtain ⟨c,a,hd⟩:=Bv.mp hd
  rcases (two c a d).mp hd with rfl | ⟨rfl,_⟩
  ·rcases Ai.mp hw with hw | hw
   ·exact (Yy (h.words c a w hw)).1
   ·rw[Ab.mp hw]
    exact (Yy (h.words c a _ (tS (h.ne c a)))).2
  ·obtain ⟨u,k,rfl⟩:=Bs.mp hw
   exact (Yy (h.words c a u (Jm _ k))).2
 ·obtain ⟨c,a,hd⟩:=Bv.mp hd
  rcases (two c a d).mp hd with rfl | ⟨rfl,z⟩
  ·simp
  ·exact z
 ·obtain ⟨c,a,hd⟩:=Bv.mp hd
  have:=h.len c a
  rcases (two c a d).mp hd with rfl | ⟨rfl,z⟩
  ·rw[Az,Dv]; omega
  ·unfold AQ; rw[Ac,Hx]; omega
 ·obtain ⟨c,a,hd⟩:=Bv.mp hd
  rcases (two c a d).mp hd with rfl | ⟨rfl,z⟩
  ·refine Dh.mpr ⟨h.nd c a,Bp.mpr ⟨Bt,Do⟩,λx g y b e=>?_⟩
   rw[Ab.mp b] at e
   have:=(h.words c a x g).2 (n:Int) (by rw[e]; exact Ag _ (Ab.mpr rfl))
   omega
  ·exact eS ((h.nd c a).sublist (Lf c)) λx _ y _ e=>pP e
theorem rB:∀n,Cov n (uE n)
 | 0=>by
  refine ⟨λw b=>⟨[[]],Ab.mpr rfl,?_⟩,λc a=>?_,λc a w b=>?_,λc a=>?_,λc a=>?_,λc a=>?_⟩
  ·cases w with
   | nil=>exact Ab.mpr rfl
   | cons x w=>have:=b.2 x Aa; omega
  all_goals rw[Ab.mp a] at *
  ·exact Cn ..
  ·rw[Ab.mp b]; exact ⟨Eh,λ_ z=>(nomatch z)⟩
  ·simp
  ·simp
  ·simp
 | n+1=>E1 (rB n)
theorem AU{a:Type}(xs:List a):Jv xs none (some (-1))=xs.dropLast:=by
 unfold Jv HT.sIx
 rw[List.dropLast_eq_take]
 simp only[Kf]
 congr 1
 by_cases z:xs.length=0
 ·simp [z]
 ·have : ¬ ((xs.length:Int) + -1<0):=by omega
  simp
  omega
theorem vI{a b:List Int}(h:a.map Be=b.map Be):a=b:=(Zm (λx y e=>by injection e)).mp h
def tR:Ad->Bool
 | .int _=>true
 | _=>false
theorem W7(d:Ad):tR d=(Tu d "int" && !Tu d "bool"):=by cases d <;> simp [tR,Tu,i7]
theorem V7{d:Ad}(h:tR d=true):∃i,d=.int i:=by
 cases d <;> simp [tR] at h
 exact ⟨_,rfl⟩
theorem zP{d:Ad}:(∃a,d=.tuple a)\/(Tu d "tuple" = false/\∀a,d≠.tuple a):=by
 cases d with
 | tuple a=>exact .inl ⟨a,rfl⟩
 | _=>exact .inr ⟨by simp [Tu,i7],by simp⟩
theorem jL{d:Ad}:(∃a,d=.list a)\/(Tu d "list" = false/\∀a,d≠.list a):=by
 cases d with
 | list a=>exact .inl ⟨a,rfl⟩
 | _=>exact .inr ⟨by simp [Tu,i7],by simp⟩
def bJ:PF:=λa R=>∃d,a=[d]/\R (.bool (tR d))
def lV:PF:=λa R=>∃(h:Int) (d:Ad),a=[.int h,d]/\(∀w,d=Bk w->Eg h w->R (.bool true))/\((∀w,d=Bk w->¬ Eg h w)->R (.bool false))
theorem FZ(c:List (List Int)):(((c.map Bk).zip (Jv (c.map Bk) (some 1) none)).map λp=>Pu [p.1,p.2])=(c.zip c.tail).map λp=>.tuple [Bk p.1,Bk p.2]:=by
 rw[show Jv (c.map Bk) (some 1) none=(c.map Bk).drop 1 from DRow.cutG_from (c.map Bk) 1,List.drop_one,<- List.map_tail,List.zip_map,Dz]
 rfl
def zS(p:List Int×List Int):Prop:=p.2.length=p.1.length+1/\lQ p.1 p.2=true
def GJ(c:List (List Int)):Prop:=∀p∈c.zip c.tail,zS p
section
variable{P:Bz}{w:World}{K:PySem.W.Frag}{mg:Str->Option Value}{base:Heap}
theorem oW:FnScope ["thing"] ["thing"] (Cg Wh):=⟨rfl,rfl,rfl,by decide +kernel,rfl,by decide +kernel,by decide +kernel⟩
theorem mU{f   : Addr}{j  : Cu}(F:Fun K "is_whole" "is_whole" Wh f j)(b:mg "bool" = none)(a:mg "isinstance" = none)(c:mg "int" = none):FnOk P w K mg base Ko 1 f j ["thing"] (Zv K (bJ)):=by
 refine' Ou (k:=0) F oW (λp A g s H E m=>?hb) ?h
 case hb =>
  have l:=m.units
  exact Df (He (qQ (Ej Pp Pl rfl a (by decide +kernel) (Ar (Ax (pv 0)) (Ar (Tz (n := "int") rfl c (by decide +kernel)) Bh))) (pW (B7 (Ej Pp Pl rfl a (by decide +kernel) (Ar (Ax (pv 0)) (Ar (Tz (n := "bool") rfl b (by decide +kernel)) Bh)))))))
 case h =>
  (intro q R o; obtain ⟨d,rfl,e⟩ := o)
  refine ⟨rfl,?_⟩
  rw[W7] at e
  array_get_dec
  refine qB (λi=>?_) (λi=>?_)
  ·array_get_dec
   rw[i] at e
   exact e
  ·rw[i] at e
   array_get_dec
   exact e
theorem rY:FnScope ["holes", "thing", "least", "place"] ["holes", "thing"] (Cg Yz):=⟨rfl,rfl,rfl,by decide +kernel,rfl,by decide +kernel,by decide +kernel⟩
theorem qZ{f j  : Addr}{fd m:Cu}(F:Fun K "is_word" "is_word" Yz f fd)(v:FnOk P w K mg base Ko 1 j m ["thing"] (Zv K (bJ)))(t:Binds K m ["thing"] [])(B:PySem.W.keepIn K (.ref j)=true)(C:mg "is_whole" = some (.ref j))(D:mg "tuple" = none)(o:mg "isinstance" = none):FnOk P w K mg base Ko 2 f fd ["holes", "thing"] (Zv K (lV)):=by
 refine' Ou (k:=1) F rY (λh1 A S s H E hr=>?hb) ?h
 case hb =>
  have O:Room 1 _:=hr.mono (by decide)
  have h0:=hr.units
  exact Cf (Ik (Nc (Mx (Ej Pp Pl rfl o (by decide +kernel) (Ar (Ax (pv 1)) (Ar (Tz (n := "tuple") rfl D (by decide +kernel)) Bh)))))
   (Df (He Lm)) Gp)
   (Cf (Hr (i:=2) rY.nd rfl (Dw rfl) Cy)
   (Cf (My Eb rfl (FO (Ax (pv 1))) (Jp (i:=3) rY.nd rfl (Dw rfl))
   (Cf (Ik (jZ (Vu (Nc (Mx (Mw v O rfl C B t Ji (Ar (Ax (pv 3)) Bh)))) (Vu (J1 (Ax (pv 3)) (Ax (pv 2))) (Uc (V0 (Ax (pv 3)) (Ax (pv 0)))))))
    (Df (He Lm)) Gp)
    (Df (Hr (i:=2) rY.nd rfl (Dw rfl) (Tv (Ax (pv 3)) Cy)))))
   (Df (He Lm))))
 case h =>
  (intro ds R I; obtain ⟨h,d,rfl,hT,hF⟩ := I)
  refine ⟨rfl,?_⟩
  array_get_dec
  rcases zP (d:=d) with ⟨G,rfl⟩ | ⟨e,ne⟩
  rotate_left
  ·rw[e]
   array_get_dec
   exact hF λw z=>absurd z (ne _)
  array_get_dec
  refine Xs (l:=G) (g:=λx=>x) (Iq _).symm (λi δ=>∃(w:List Int) (c:Int) (M:DV),δ=⟨[.dat .sh (.int h),.dat .sh (.tuple G),.dat .sh (.int c),M],0⟩/\NP M/\G.take i=w.map Be/\Eg h w/\(∀x∈w,x<c)/\0<=c/\(c=0\/c - 1∈w)) ?_ ?_ ?_
  ·exact ⟨[],_,_,rfl,Jj,rfl,Eg.nil _,(λx z=>nomatch z),Int.le_refl _,.inl rfl⟩
  ·(intro i x _ hx I; obtain ⟨w,c,M,rfl,T,L,r,lt,l0,Y⟩ := I)
   obtain ⟨i1,i2⟩:=An.mp hx
   have X:G.take (i+1)=w.map Be++[x]:=by rw[Ee i1,L,i2]
   have eD:G=w.map Be++x::G.drop (i+1):=by
    have:=(Dn (i+1) G).symm
    rw[X,Bw] at this
    exact this
   have N:(∀p,x=.int p->¬ (c<=p/\p<h))->R (.bool false):=λk=>hF λu e ru=>by
    unfold Bk at e
    injection e with e
    rw[eD] at e
    obtain ⟨u1,u2,rfl,Q,ex⟩:=List.map_eq_append_iff.mp e.symm
    obtain ⟨p,u3,rfl,ep,_⟩:=List.map_eq_cons_iff.mp ex
    have Q:u1=w:=vI Q
    subst Q
    obtain ⟨r1,r2,r3⟩:=Bi.mp ru.1
    have b:=ru.2 p (Ag _ Aa)
    refine k p ep.symm ⟨?_,b.2⟩
    rcases Y with z | z
    ·rw[z]; exact b.1
    ·have:=r3 _ z p Aa
     omega
   array_get_dec
   refine ⟨x,rfl,?_⟩
   array_get_dec
   cases V:tR x with
   | false =>
    array_get_dec
    exact N λp z=>by rw[z] at V; cases V
   | true =>
   obtain ⟨p,rfl⟩:=V7 V
   array_get_dec
   refine sV (λq=>?_) (λq=>?_)
   ·have q:p<c:=of_decide_eq_true q
    array_get_dec
    exact N λp' z=>by cases z; omega
   have q:¬ p<c:=of_decide_eq_false q
   array_get_dec
   refine Zw (λJ=>?_) (λJ=>?_)
   ·have J:=of_decide_eq_true J
    array_get_dec
    exact N λp' z=>by cases z; omega
   have J:=of_decide_eq_false J
   array_get_dec
   refine ⟨w++[p],_,_,rfl,Iv,by rw[X,Bc]; rfl,⟨Bi.mpr ⟨r.1,Cn _ _,λa ha b Z=>?_⟩,λy U=>?_⟩,λy U=>?_,by omega,.inr (by rw[Int.add_sub_cancel]; exact Ag _ Aa)⟩
   ·rw[Ab.mp Z]
    have:=lt a ha
    omega
   ·rcases Ai.mp U with z | z
    ·exact r.2 y z
    ·rw[Ab.mp z]; omega
   ·rcases Ai.mp U with z | z
    ·have:=lt y z; omega
    ·rw[Ab.mp z]; omega
  ·(intro _ I; obtain ⟨w,c,M,rfl,T,L,r,lt,l0,Y⟩ := I)
   rw[Dr] at L
   array_get_dec
   exact hT w (by rw[L]; rfl) r
end
theorem mB{a b:List Int}(h:Bk a=Bk b):a=b:=by
 unfold Bk at h
 injection h with h
 exact vI h
theorem CP{a b:List (List Int)}(h:a.map Bk=b.map Bk):a=b:=(Zm (λx y e=>mB e)).mp h
theorem Zd{a b:List (List Int)}(h:Da a=Da b):a=b:=by
 unfold Da at h
 injection h with h
 exact CP h
theorem dS{a b:List (List (List Int))}(h:a.map Da=b.map Da):a=b:=(Zm (λx y e=>Zd e)).mp h
def tQ(h:Int)(c:List (List Int)):Prop:=c≠[]/\(∀w∈c,Eg h w)/\GJ c
def DZ(h:Int)(d:Ad):Prop:=∃c,d=Da c/\tQ h c
def Rh:Ad->Nat
 | .list a=>a.length
 | _=>0
def cZ:Ad->Nat
 | .list a=>(a.map Rh).sum
 | _=>0
def pD(h:Int)(T:Ad):Prop:=∃C:List (List (List Int)),T=Hm C/\(∀c∈C,tQ h c)/\C.flatten.Nodup/\C.flatten.length=2 ^ h.toNat
theorem cJ{xs:List Ad}{C:List (List (List Int))}{i:Nat}(e:xs.take i=C.map Da):C.flatten.length<=(xs.map Rh).sum:=by
 have a:C.flatten.length=((xs.take i).map Rh).sum:=by
  rw[e,Dz,Qb]
  congr 1
  refine Jz λc _=>?_
  show c.length=(c.map Bk).length
  rw[Ac]
 rw[a]
 have b:=congrArg (λl=>(l.map Rh).sum) (Dn i xs)
 simp only[Bc,Px] at b
 omega
def gQ:PF:=λa R=>∃(h:Int) (d:Ad),a=[.int h,d]/\(DZ h d->R (.bool true))/\(¬ DZ h d->R (.bool false))
def lK:PF:=λa R=>∃(h:Int) (T:Ad),a=[.int h,T]/\1<=h/\h<=7/\cZ T<=1000/\T.depth<=40/\(pD h T->R (.bool true))/\(¬ pD h T->R (.bool false))
section
variable{P:Bz}{w:World}{K:PySem.W.Frag}{mg:Str->Option Value}{base:Heap}
theorem nV:FnScope ["holes", "thing", "word", "lower", "upper"] ["holes", "thing"] (Cg Wc):=⟨rfl,rfl,rfl,by decide +kernel,rfl,by decide +kernel,by decide +kernel⟩
theorem nU{f b m  : Addr}{fd o v:Cu}(F:Fun K "is_chain" "is_chain" Wc f fd)(B:FnOk P w K mg base Ko 2 b o ["holes", "thing"] (Zv K (lV)))(G:Binds K o ["holes", "thing"] [])(C:PySem.W.keepIn K (.ref b)=true)(D:mg "is_word" = some (.ref b))(M:FnOk P w K mg base Ko 1 m v ["one", "other"] (Zv K (FR)))(L:Binds K v ["one", "other"] [])(J:PySem.W.keepIn K (.ref m)=true)(I:mg "within" = some (.ref m))(y:mg "len" = none)(Q:mg "list" = none)(t:mg "isinstance" = none)(Y:mg "zip" = none):FnOk P w K mg base Ko 3 f fd ["holes", "thing"] (Zv K (gQ)):=by
 refine' Ou (k:=2) F nV (λk0 A h9 s H E hr=>?hb) ?h
 case hb =>
  have h5:Room 1 _:=hr.mono (by decide)
  have h8:Room 2 _:=hr.mono (by decide)
  have Z:=hr.units
  exact Cf (Ik (jZ (Vu (Nc (Mx (Ej Pp Pl rfl t (by decide +kernel) (Ar (Ax (pv 1)) (Ar (Tz (n := "list") rfl Q (by decide +kernel)) Bh))))) (Uc (Oo Z (Ej Js Nv rfl y (by decide +kernel) (Ar (Ax (pv 1)) Bh)) Cy))))
   (Df (He Lm)) Gp)
   (Cf (My Eb rfl (wM (Ax (pv 1))) (Jp (i:=2) nV.nd rfl (Dw rfl))
   (Df (Ik (Nc (Mx (Mw B h8 rfl D C G Ji (Ar (Ax (pv 0)) (Ar (Ax (pv 2)) Bh)))))
    (Df (He Lm)) Gp)))
   (Cf (My Eb rfl (i9 rfl Y (Ar (Ax (pv 1)) (Ar (Jd (i:=true) (Ax (pv 1)) (Hy Cy) Jb) Bh))) (g0 (n:=2) rfl (Xn (Jp (i:=3) nV.nd rfl (Dw rfl)) (Xn (Jp (i:=4) nV.nd rfl (Dw rfl)) vP)))
   (Df (Ik (jZ (Vu (gV Z (Ej Js Nv rfl y (by decide +kernel) (Ar (Ax (pv 4)) Bh)) (Tv (Ej Js Nv rfl y (by decide +kernel) (Ar (Ax (pv 3)) Bh)) Cy)) (Uc (Nc (Mx (Mw M h5 rfl I J L Ji (Ar (Ax (pv 3)) (Ar (Ax (pv 4)) Bh))))))))
    (Df (He Lm)) Gp)))
   (Df (He Lm))))
 case h =>
  (intro ds R V; obtain ⟨h,d,rfl,hT,hF⟩ := V)
  refine ⟨rfl,?_⟩
  array_get_dec
  rcases jL (d:=d) with ⟨xs,rfl⟩ | ⟨e,ne⟩
  rotate_left
  ·rw[e]
   array_get_dec
   exact hF λ⟨c,z,_⟩=>ne _ z
  array_get_dec
  refine Zw (λq=>?_) (λq=>?_)
  ·have q:=of_decide_eq_true q
   array_get_dec
   refine hF λ⟨c,z,ne,_⟩=>ne ?_
   unfold Da at z
   injection z with z
   rw[z,Ac] at q
   exact Nl.mp (by omega)
  have q:=of_decide_eq_false q
  array_get_dec
  refine Xs (l:=xs) (g:=λx=>x) (Iq _).symm (λi δ=>∃(c:List (List Int)) (X U T:DV),δ=⟨[.dat .sh (.int h),.dat .sh (.list xs),X,U,T],0⟩/\NP X/\NP U/\NP T/\xs.take i=c.map Bk/\∀w∈c,Eg h w) ?_ ?_ ?_
  ·exact ⟨[],_,_,_,rfl,Jj,Jj,Jj,rfl,λw z=>nomatch z⟩
  ·(intro i x _ hx V; obtain ⟨c,X,U,T,rfl,O,S,N,et,hw⟩ := V)
   obtain ⟨i1,i2⟩:=An.mp hx
   array_get_dec
   refine ⟨h,x,rfl,λw e r=>?_,λnr=>?_⟩
   ·array_get_dec
    refine ⟨c++[w],_,_,_,rfl,Iv,S,N,by rw[Ee i1,et,i2,e,Bc]; rfl,λu hu=>?_⟩
    rcases Ai.mp hu with z | z
    ·exact hw u z
    ·rw[Ab.mp z]; exact r
   ·array_get_dec
    refine hF λh7 => ?_
    obtain ⟨c',z,_,h6,_⟩ := h7
    unfold Da at z
    injection z with z
    have mx:=Ao hx
    rw[z] at mx
    obtain ⟨w,h4,rfl⟩:=Bs.mp mx
    exact nr w rfl (h6 w h4)
  ·(intro _ V; obtain ⟨c,X,U,T,rfl,O,S,N,et,hw⟩ := V)
   rw[Dr] at et
   subst et
   have h3:c≠[]:=λz=>q (by rw[z]; rfl)
   have hT:GJ c->R (.bool true):=λa=>hT ⟨c,rfl,h3,hw,a⟩
   have hF:¬ GJ c->R (.bool false):=λa=>hF λ⟨c',z,_,_,a'⟩=>a (by
    rw[show c=c' from Zd z]
    exact a')
   array_get_dec
   rw[FZ]
   refine Xs (l:=c.zip c.tail) (g:=λp=>.tuple [Bk p.1,Bk p.2]) rfl (λi δ=>(∃X U T:DV,δ=⟨[.dat .sh (.int h),.dat .sh (.list (c.map Bk)),X,U,T],0⟩/\NP X/\NP U/\NP T)/\∀(j:Nat) (p:List Int×List Int),j<i->(c.zip c.tail)[j]? = some p->zS p) ?_ ?_ ?_
   ·exact ⟨⟨_,_,_,rfl,O,S,N⟩,λj p z=>absurd z (Fl _)⟩
   ·(intro i p _ hp V; obtain ⟨⟨X,U,T,rfl,O,S,N⟩,hj⟩ := V)
    have h2:¬ zS p->R (.bool false):=λz=>hF λq=>z (q p (Ao hp))
    array_get_dec
    refine sV (λq=>?_) (λq=>?_)
    ·array_get_dec
     refine h2 λz=>?_
     rw[Ac,Ac,z.1] at q
     simp at q
    rw[Ac,Ac] at q
    array_get_dec
    refine ⟨p.1,p.2,rfl,?_⟩
    array_get_dec
    refine Zw (λhs=>?_) (λhs=>?_)
    ·array_get_dec
     refine h2 λz=>?_
     rw[show sub p.1 p.2=true from z.2] at hs
     cases hs
    ·array_get_dec
     refine ⟨⟨_,_,_,rfl,O,Iv,Iv⟩,λj p' h0 h1=>?_⟩
     by_cases z:j=i
     ·subst z
      rw[hp] at h1
      cases h1
      exact ⟨by simp at q; omega,show sub p.1 p.2=true by simpa using hs⟩
     ·exact hj j p' (by omega) h1
   ·(intro _ V; obtain ⟨⟨X,U,T,rfl,O,S,N⟩,hj⟩ := V)
    exact hT λp hp=>by
     obtain ⟨j,h0⟩:=vQ.mp hp
     exact hj j p (An.mp h0).1 h0
theorem gI:FnScope ["holes", "thing", "words", "chain"] ["holes", "thing"] (Cg Sd):=⟨rfl,rfl,rfl,by decide +kernel,rfl,by decide +kernel,by decide +kernel⟩
theorem gD{f a  : Addr}{fd b:Cu}(F:Fun K "shows_most" "shows_most" Sd f fd)(t:FnOk P w K mg base Ko 3 a b ["holes", "thing"] (Zv K (gQ)))(r:Binds K b ["holes", "thing"] [])(o:PySem.W.keepIn K (.ref a)=true)(p:mg "is_chain" = some (.ref a))(y:mg "list" = none)(j:mg "isinstance" = none)(m:mg "len" = none)(B:mg "set" = none):FnOk P w K mg base Ko 4 f fd ["holes", "thing"] (Zv K (lK)):=by
 refine' Ou (k:=3) F gI (λh4 A S s H E N=>?hb) ?h
 case hb =>
  have h0:Room 1 _:=N.mono (by decide)
  have h5:Room 2 _:=N.mono (by decide)
  have O:Room 3 _:=N.mono (by decide)
  have v:=N.units
  exact Cf (Ik (Nc (Mx (Ej Pp Pl rfl j (by decide +kernel) (Ar (Ax (pv 1)) (Ar (Tz (n := "list") rfl y (by decide +kernel)) Bh)))))
   (Df (He Lm)) Gp)
   (Cf (Sa (i:=2) gI.nd rfl (Dw rfl) (Ft Bh))
   (Cf (My Eb rfl (wM (Ax (pv 1))) (Jp (i:=3) gI.nd rfl (Dw rfl))
   (Cf (Ik (Nc (Mx (Mw t O rfl p o r Ji (Ar (Ax (pv 0)) (Ar (Ax (pv 3)) Bh)))))
    (Df (He Lm)) Gp)
    (Df (xR (pv 2) (Ax (pv 3))))))
   (Df (He (qQ (iB v (Ej Js Nv rfl m (by decide +kernel) (Ar (Ax (pv 2)) Bh)) (wZ v rfl rfl m rfl B (Ar (Ax (pv 2)) Bh))) (pW (iB v (Ej Js Nv rfl m (by decide +kernel) (Ar (Ax (pv 2)) Bh)) (BF Cy (Ax (pv 0))))))))))
 case h =>
  (intro ds R J; obtain ⟨h,T,rfl,h1,h7,Y,dT,hT,M⟩ := J)
  refine ⟨rfl,?_⟩
  array_get_dec
  rcases jL (d:=T) with ⟨G,rfl⟩ | ⟨e,ne⟩
  rotate_left
  ·rw[e]
   array_get_dec
   exact M λ⟨C,z,_⟩=>ne _ z
  array_get_dec
  have Y:(G.map Rh).sum<=1000:=Y
  refine Xs (l:=G) (g:=λx=>x) (Iq _).symm (λi δ=>∃(C:List (List (List Int))) (L:DV),δ=⟨[.dat .sh (.int h),.dat .sh (.list G),.dat .ow (.list (C.flatten.map Bk)),L],0⟩/\NP L/\G.take i=C.map Da/\∀c∈C,tQ h c) ?_ ?_ ?_
  ·exact ⟨[],_,rfl,Jj,rfl,λw z=>nomatch z⟩
  ·(intro i x _ hx J; obtain ⟨C,L,rfl,U,D,V⟩ := J)
   obtain ⟨i1,i2⟩:=An.mp hx
   array_get_dec
   refine ⟨h,x,rfl,λ⟨c,e,g⟩=>?_,λnr=>?_⟩
   ·subst e
    have I:G.take (i+1)=(C++[c]).map Da:=by rw[Ee i1,D,i2,Bc]; rfl
    have le:=cJ I
    rw[Ig,Az] at le
    have l2:[c].flatten=c:=by simp
    rw[l2] at le
    unfold Da
    array_get_dec
    refine ⟨by rw[Ac,Ac]; omega,C++[c],_,iT (by rw[Ig,l2,Bc]) rfl,Iv,I,λu hu=>?_⟩
    rcases Ai.mp hu with z | z
    ·exact V u z
    ·rw[Ab.mp z]; exact g
   ·array_get_dec
    refine M λQ => ?_
    obtain ⟨C',z,g',_⟩ := Q
    unfold Hm at z
    injection z with z
    have Z:=Ao hx
    rw[z] at Z
    obtain ⟨c,X,rfl⟩:=Bs.mp Z
    exact nr ⟨c,rfl,g' c X⟩
  ·(intro _ J; obtain ⟨C,L,rfl,U,D,V⟩ := J)
   have le:=cJ D
   rw[Dr] at D
   subst D
   have un:pD h (.list (C.map Da))->C.flatten.Nodup/\C.flatten.length=2 ^ h.toNat:=λ⟨C',z,_,n,l⟩=>by
    unfold Hm at z
    injection z with z
    rw[dS z]
    exact ⟨n,l⟩
   array_get_dec
   refine ⟨C.flatten,rfl,by omega,λn _ h2 h3=>?_⟩
   have e2:((2:Int) ^ h.toNat)=((2 ^ h.toNat:Nat):Int):=by simp
   refine qB (λq=>?_) (λq=>?_)
   ·rw[Ac] at q
    have q:=of_decide_eq_true q
    have nd:=h3 (by omega)
    array_get_dec
    refine ⟨⟨by omega,by omega,by decide⟩,?_⟩
    rw[Ac,Int.one_mul,e2,decide_eq_decide.mpr Int.ofNat_inj]
    by_cases z:C.flatten.length=2 ^ h.toNat
    ·rw[decide_eq_true z]
     exact hT ⟨C,rfl,V,nd,z⟩
    ·rw[decide_eq_false z]
     exact M λk=>z (un k).2
   ·rw[Ac] at q
    have q:=of_decide_eq_false q
    array_get_dec
    exact M λk=>q (by rw[h2 (un k).1])
end
theorem Ry{k:Nat}:∀{xs:List Ad},(∀x∈xs,x.depth<=k)->Bd xs<=k
 | [],_=>by rw[Bd]; omega
 | x::xs,h=>by
  have a:=h x Aa
  have b:=Ry (xs:=xs) λy c=>h y (Ae _ c)
  rw[Bd]
  omega
theorem Xu:∀{xs:List Ad} {x:Ad},x∈xs->x.depth<=Bd xs
 | x::xs,y,h=>by
  rw[Bd]
  rcases Aj.mp h with rfl | h
  ·omega
  ·have:=Xu h
   omega
def U2:PF:=λc R=>∃a b:List Int,c=[Bk a,Bk b]/\R (.bool (lQ a b))
theorem E9{xs:List Ad}(h:xs.filter (λd=>!tR d)=[]):∃w:List Int,xs=w.map Be:=by
 induction xs with
 | nil=>exact ⟨[],rfl⟩
 | cons x xs b =>
  rw[List.filter_cons] at h
  cases a:tR x with
  | false=>rw[a] at h; cases h
  | true =>
   rw[a] at h
   obtain ⟨w,rfl⟩:=b h
   obtain ⟨i,rfl⟩:=V7 a
   exact ⟨i::w,rfl⟩
theorem A6{w:List Int}:(w.map Be).filter (λd=>!tR d)=[]:=List.filter_eq_nil_iff.mpr λd a=>by
 obtain ⟨i,_,rfl⟩:=Bs.mp a
 simp [tR]
theorem eY{xs:List Ad}{p:Ad->Bool}(h:Bd xs<=40):(Ki (xs.filter p)).depth<=60:=by
 simp only[Bm]
 have:=Ry (k:=Bd xs) (xs:=xs.filter p) λx a=>Xu (Py.mp a).1
 omega
def iA:PF:=λa R=>∃(h:Int) (d:Ad),a=[.int h,d]/\d.depth<=40/\(∀w,d=Bk w->Eg h w->R (.bool true))/\((∀w,d=Bk w->¬ Eg h w)->R (.bool false))
section
variable{P:Bz}{w:World}{K:PySem.W.Frag}{mg:Str->Option Value}{base:Heap}
theorem dI:FnScope ["_law_one", "_law_other"] ["_law_one", "_law_other"] (Cg Oe):=⟨rfl,rfl,rfl,by decide +kernel,rfl,by decide +kernel,by decide +kernel⟩
theorem eE{f   : Addr}{q  : Cu}(F:Fun K "_law_within" "_law_within" Oe f q):FnOk P w K mg base Ko 1 f q ["_law_one", "_law_other"] (Zv K (U2)):=by
 refine' Ou (k:=0) F dI (λo A d s H E t=>?hb) ?h
 case hb =>
  have b:=t.units
  have p:∀{a:Scope} (h:a={ kind:=.function,names:=[(".0",.local),("_law_place",.local),("_law_other",.free)],isGenerator:=false,isCoroutine:=false }),
    CompScope (Pj Ko P w K mg base ["_law_one", "_law_other"] "_law_within" (Cg Oe) f o A d s H E).nox a [("_law_other",s.heap.objs.size+1)] "_law_place" ["_law_other"] [1]:=by
   rintro a rfl
   refine ⟨by rfl,.inl (by decide +kernel),by rfl,by decide +kernel,.inl rfl,λy c h=>?_,by rfl,by decide +kernel,rfl,λk y j m n=>?_⟩
   ·have z:=Jh h
    simp only[Aj,Bt,or_false,Oi] at z
    obtain ⟨rfl,rfl⟩:=z; rfl
   ·match k,m,n with
    | 0,m,n=>cases m; cases n; exact ⟨rfl,rfl,by first | exact .inl rfl | exact .inr rfl⟩
    | k+1,m,n=>cases m
  exact Df (He (iB b (tK (p rfl) rfl (FO (Ax (pv 0))) (λ_ _ _=>jW (yK b (Ax (pv 0)) (Ax (pv 1)))) (λ_ _ _=>Ax (pv 0))) (Ft Bh)))
 case h =>
  (intro G R x; obtain ⟨u,v,rfl,D⟩ := x)
  refine ⟨rfl,?_⟩
  array_get_dec
  refine Y9 (l:=u) (g:=Be) rfl (λi=>decide (i∉v)) (λi=>.int i) (λi _ C I r B=>?_) ?_
  ·array_get_dec
   refine S6 (λh=>?_) (λh=>?_)
   ·array_get_dec
    exact r (by simpa using h)
   ·exact B (by simpa using h)
  ·array_get_dec
   have e:(List.map (λi=>Be i) (List.filter (λi=>decide (i∉v)) u)).isEmpty=lQ u v:=by
    unfold lQ
    rw[Bool.eq_iff_iff]
    simp
   rw[e]
   exact D
theorem gB:FnScope ["_law_thing"] ["_law_thing"] (Cg Sg):=⟨rfl,rfl,rfl,by decide +kernel,rfl,by decide +kernel,by decide +kernel⟩
theorem gH{f   : Addr}{j  : Cu}(F:Fun K "_law_whole" "_law_whole" Sg f j)(b:mg "bool" = none)(a:mg "isinstance" = none)(c:mg "int" = none):FnOk P w K mg base Ko 1 f j ["_law_thing"] (Zv K (bJ)):=by
 refine' Ou (k:=0) F gB (λp A g s H E m=>?hb) ?h
 case hb =>
  have l:=m.units
  exact Df (He (qQ (Ej Pp Pl rfl a (by decide +kernel) (Ar (Ax (pv 0)) (Ar (Tz (n := "int") rfl c (by decide +kernel)) Bh))) (pW (B7 (Ej Pp Pl rfl a (by decide +kernel) (Ar (Ax (pv 0)) (Ar (Tz (n := "bool") rfl b (by decide +kernel)) Bh)))))))
 case h =>
  (intro q R o; obtain ⟨d,rfl,e⟩ := o)
  refine ⟨rfl,?_⟩
  rw[W7] at e
  array_get_dec
  refine qB (λi=>?_) (λi=>?_)
  ·array_get_dec
   rw[i] at e
   exact e
  ·rw[i] at e
   array_get_dec
   exact e
theorem aO:FnScope ["_law_holes", "_law_thing", "_law_place", "_law_last"] ["_law_holes", "_law_thing"] (Cg Nh):=⟨rfl,rfl,rfl,by decide +kernel,rfl,by decide +kernel,by decide +kernel⟩
theorem aR{f c  : Addr}{fd o:Cu}(F:Fun K "_law_is_word" "_law_is_word" Nh f fd)(D:FnOk P w K mg base Ko 1 c o ["_law_thing"] (Zv K (bJ)))(v:Binds K o ["_law_thing"] [])(B:PySem.W.keepIn K (.ref c)=true)(u:mg "_law_whole" = some (.ref c))(G:mg "tuple" = none)(t:mg "isinstance" = none):FnOk P w K mg base Ko 2 f fd ["_law_holes", "_law_thing"] (Zv K (iA)):=by
 refine' Ou (k:=1) F aO (λZ A I s H E hr=>?hb) ?h
 case hb =>
  have Y:Room 1 _:=hr.mono (by decide)
  have M:=hr.units
  have V:∀{C:Scope} (h:C={ kind:=.function,names:=[(".0",.local),("_law_place",.local),("_law_whole",.globalImplicit)],isGenerator:=false,isCoroutine:=false }),
    CompScope (Pj Ko P w K mg base ["_law_holes", "_law_thing", "_law_place", "_law_last"] "_law_is_word" (Cg Nh) f Z A I s H E).nox C [] "_law_place" [] []:=by
   rintro C rfl
   exact Nd.compScope0 (by rfl) (by decide +kernel) (by rfl) (by decide +kernel) (by rfl) (by rfl)
  exact Cf (Ik (jZ (Vu (Nc (Mx (Ej Pp Pl rfl t (by decide +kernel) (Ar (Ax (pv 1)) (Ar (Tz (n := "tuple") rfl G (by decide +kernel)) Bh))))) (Uc (gV M (bV (V rfl) rfl (FO (Ax (pv 1))) (λ_ _ _=>jW (Nc (Mx (Mw D Y rfl u B v Ji (Ar (Ax (pv 0)) Bh))))) (λ_ _ _=>Ax (pv 0))) (Ft Bh)))))
   (Df (He Lm)) Gp)
   (Cf (Hr (i:=3) aO.nd rfl (Dw rfl) (Tr Cy))
   (Cf (My Eb rfl (FO (Ax (pv 1))) (Jp (i:=2) aO.nd rfl (Dw rfl))
   (Cf (Ik (jZ (Vu (GC (Ax (pv 2)) (Ax (pv 3))) (Uc (V0 (Ax (pv 2)) (Ax (pv 0))))))
    (Df (He Lm)) Gp)
    (Df (Hr (i:=3) aO.nd rfl (Dw rfl) (Ax (pv 2))))))
   (Df (He Lm))))
 case h =>
  (intro ds R N; obtain ⟨h,d,rfl,dd,T,J⟩ := N)
  refine ⟨rfl,?_⟩
  array_get_dec
  rcases zP (d:=d) with ⟨xs,rfl⟩ | ⟨e,ne⟩
  rotate_left
  ·rw[e]
   array_get_dec
   exact J λw z=>absurd z (ne _)
  simp only[Bm] at dd
  array_get_dec
  refine qY (l:=xs) (g:=λx=>x) (Iq _).symm (λd=>!tR d) (λx=>x) (λd hd h3 no hy hn=>?_) ?_
  ·array_get_dec
   refine ⟨d,rfl,?_⟩
   array_get_dec
   cases hw:tR d with
   | false =>
    array_get_dec
    exact hy (by rw[hw]; rfl)
   | true =>
    array_get_dec
    exact hn (by rw[hw]; rfl)
  array_get_dec
  cases S:(xs.filter λd=>!tR d) with
  | cons y ys =>
   array_get_dec
   refine ⟨by have:=eY (p:=λd=>!tR d) (show Bd xs<=40 by omega); rw[S] at this; rw[Iq]; exact this,?_⟩
   refine J λq e _=>?_
   unfold Bk at e
   injection e with e
   rw[e,A6] at S
   cases S
  | nil =>
  obtain ⟨w,rfl⟩:=E9 S
  have T:Eg h w->R (.bool true):=λr=>T w rfl r
  have J:¬ Eg h w->R (.bool false):=λr=>J λw' e r'=>r (by rw[show w=w' from mB e]; exact r')
  array_get_dec
  refine Xs (l:=w) (g:=Be) rfl (λi δ=>(∃(m:Int) (Q:DV),δ=⟨[.dat .sh (.int h),.dat .sh (Bk w),Q,.dat .sh (.int m)],0⟩/\NP Q/\(m = -1\/∃j:Nat,j<i/\w[j]? = some m)/\(∀(j:Nat) (x:Int),j<i->w[j]? = some x->x<=m) /\ -1<=m)/\Eg h (w.take i)) ?_ ?_ ?_
  ·exact ⟨⟨_,_,rfl,Jj,.inl rfl,(λj x z=>absurd z (Fl _)),Int.le_refl _⟩,Eg.nil _⟩
  ·(intro i p _ L N; obtain ⟨⟨m,Q,rfl,h2,hl,hx,h1⟩,r⟩ := N)
   obtain ⟨i1,i2⟩:=An.mp L
   array_get_dec
   refine sV (λq=>?_) (λq=>?_)
   ·have q:p<=m:=of_decide_eq_true q
    array_get_dec
    refine J λz=>?_
    rcases hl with rfl | ⟨j,U,X⟩
    ·have:=z.2 p (Ao L); omega
    ·obtain ⟨j1,j2⟩:=An.mp X
     have:=Fh.mp z.1 j i j1 i1 U
     rw[i2,j2] at this
     omega
   have q:¬ p<=m:=of_decide_eq_false q
   array_get_dec
   refine Zw (λO=>?_) (λO=>?_)
   ·have O:=of_decide_eq_true O
    array_get_dec
    exact J λz=>by have:=z.2 p (Ao L); omega
   have O:=of_decide_eq_false O
   array_get_dec
   refine ⟨⟨_,_,rfl,Iv,.inr ⟨i,by omega,L⟩,λj x U ex=>?_,by omega⟩,?_⟩
   ·by_cases z:j=i
    ·subst z
     rw[L] at ex
     cases ex
     omega
    ·have:=hx j x (by omega) ex; omega
   ·rw[Ee i1,i2]
    refine ⟨Bi.mpr ⟨r.1,Cn _ _,λa ha b hb=>?_⟩,λx h0=>?_⟩
    ·obtain ⟨j,U,X⟩:=Rq.mp ha
     have:=hx j a (by omega) (by rw[Ba (by omega),X])
     rw[Ab.mp hb]
     omega
    ·rcases Ai.mp h0 with z | z
     ·exact r.2 x z
     ·rw[Ab.mp z]; omega
  ·(intro _ N; obtain ⟨⟨m,Q,rfl,h2,hl,hx,h1⟩,r⟩ := N)
   rw[Dr] at r
   array_get_dec
   exact T r
end
theorem nR{c:List (List Int)}:Jv (c.map Bk) none (some (-1))=c.dropLast.map Bk:=by
 rw[List.dropLast_eq_take,Sv]
 unfold Jv HT.sIx
 simp only[Ac]
 cases c with
 | nil=>rfl
 | cons a c =>
  have : ¬ (((a::c).length:Int) + -1<0):=by rw[Bg]; omega
  simp
  congr 1
  omega
theorem i8{c:List (List Int)}:Jv (c.map Bk) (some 1) none=c.tail.map Bk:=by
 unfold Jv HT.sIx
 cases c with
 | nil=>rfl
 | cons a c =>
  simp
  exact Dt (by simp)
theorem nS:∀c:List (List Int),c.dropLast.zip c.tail=c.zip c.tail
 | []=>rfl
 | [a]=>rfl
 | a::b::c=>by
  have d:=nS (b::c)
  show (a,b)::(b::c).dropLast.zip c=(a,b)::(b::c).zip c
  rw[show (b::c).dropLast.zip c=(b::c).dropLast.zip (b::c).tail from rfl,d]
  rfl
theorem wG{h:Nat}{l:List (List Int)}(a:l.Nodup)(r:∀w∈l,Eg h w)(e:l.length=2 ^ h):l.Perm (Gf h):=by
 refine (List.perm_ext_iff_of_nodup a (Ov h)).mpr λw=>⟨λz=>sG.mpr (r w z),λz=>?_⟩
 refine Hl λb=>?_
 have:=Wv (l1:=w::l) (l2:=Gf h) (Bp.mpr ⟨b,a⟩) λu c=>by
  rcases Aj.mp c with q | q
  ·rw[q]; exact z
  ·exact sG.mpr (r u q)
 rw[Bg,Pt] at this
 omega
section
variable{P:Bz}{w:World}{K:PySem.W.Frag}{mg:Str->Option Value}{base:Heap}
theorem nB:FnScope ["_law_holes", "_law_thing", "_law_met", "_law_chain", "_law_one", "_law_other"] ["_law_holes", "_law_thing"] (Cg Se):=⟨rfl,rfl,rfl,by decide +kernel,rfl,by decide +kernel,by decide +kernel⟩
theorem nO{f o B b  : Addr}{fd v U t:Cu}(F:Fun K "_law_due" "_law_due" Se f fd)(O:FnOk P w K mg base Ko 1 o v ["_law_one", "_law_other"] (Zv K (U2)))(Q:Binds K v ["_law_one", "_law_other"] [])(M:PySem.W.keepIn K (.ref o)=true)(N:mg "_law_within" = some (.ref o))(h4:FnOk P w K mg base Ko 1 B U ["_law_holes"] (Zv K bK))(h3:Binds K U ["_law_holes"] [])(h5:PySem.W.keepIn K (.ref B)=true)(h6:mg "_law_all" = some (.ref B))(I:FnOk P w K mg base Ko 2 b t ["_law_holes", "_law_thing"] (Zv K (iA)))(D:Binds K t ["_law_holes", "_law_thing"] [])(J:PySem.W.keepIn K (.ref b)=true)(G:mg "_law_is_word" = some (.ref b))(V:mg "list" = none)(m:mg "isinstance" = none)(h8:mg "zip" = none)(h2:mg "len" = none)(Y:mg "sorted" = none):FnOk P w K mg base Ko 3 f fd ["_law_holes", "_law_thing"] (Zv K (lK)):=by
 refine' Ou (k:=2) F nB (λq9 A k4 s H E hr=>?hb) ?h
 case hb =>
  have k6:Room 1 _:=hr.mono (by decide)
  have q8:Room 2 _:=hr.mono (by decide)
  have S:=hr.units
  have q3:∀{h0:Scope} (h:h0={ kind:=.function,names:=[(".0",.local),("_law_word",.local),("_law_is_word",.globalImplicit),("_law_holes",.free)],isGenerator:=false,isCoroutine:=false }),
    CompScope (Pj Ko P w K mg base ["_law_holes", "_law_thing", "_law_met", "_law_chain", "_law_one", "_law_other"] "_law_due" (Cg Se) f q9 A k4 s H E).nox h0 [("_law_holes",s.heap.objs.size+1)] "_law_word" ["_law_holes"] [0]:=by
   rintro h0 rfl
   refine ⟨by rfl,.inl (by decide +kernel),by rfl,by decide +kernel,.inl rfl,λy c h=>?_,by rfl,by decide +kernel,rfl,λk y j e1 e2=>?_⟩
   ·have z:=Jh h
    simp only[Aj,Bt,or_false,Oi] at z
    obtain ⟨rfl,rfl⟩:=z; rfl
   ·match k,e1,e2 with
    | 0,e1,e2=>cases e1; cases e2; exact ⟨rfl,rfl,by first | exact .inl rfl | exact .inr rfl⟩
    | k+1,e1,e2=>cases e1
  exact Cf (Ik (Nc (Mx (Ej Pp Pl rfl m (by decide +kernel) (Ar (Ax (pv 1)) (Ar (Tz (n := "list") rfl V (by decide +kernel)) Bh)))))
   (Df (He Lm)) Gp)
   (Cf (Hr (i:=2) nB.nd rfl (Dw rfl) (Ft Bh))
   (Cf (My Eb rfl (wM (Ax (pv 1))) (Jp (i:=3) nB.nd rfl (Dw rfl))
   (Cf (Ik (jZ (Vu (Nc (Mx (Ej Pp Pl rfl m (by decide +kernel) (Ar (Ax (pv 3)) (Ar (Tz (n := "list") rfl V (by decide +kernel)) Bh))))) (Uc (Oo S (Ax (pv 3)) (Ft Bh)))))
    (Df (He Lm)) Gp)
    (Cf (Ik (gV S (bV (q3 rfl) rfl (wM (Ax (pv 3))) (λ_ _ _=>jW (Nc (Mx (Mw I q8 rfl G J D Ji (Ar (Ax (pv 1)) (Ar (Ax (pv 0)) Bh)))))) (λ_ _ _=>Ax (pv 0))) (Ft Bh))
    (Df (He Lm)) Gp)
    (Cf (My Eb rfl (i9 rfl h8 (Ar (Jd (i:=false) (Ax (pv 3)) Jb (Hy (Tr Cy))) (Ar (Jd (i:=false) (Ax (pv 3)) (Hy Cy) Jb) Bh))) (g0 (n:=2) rfl (Xn (Jp (i:=4) nB.nd rfl (Dw rfl)) (Xn (Jp (i:=5) nB.nd rfl (Dw rfl)) vP)))
    (Df (Ik (jZ (Vu (gV S (Ej Js Nv rfl h2 (by decide +kernel) (Ar (Ax (pv 5)) Bh)) (Tv (Ej Js Nv rfl h2 (by decide +kernel) (Ar (Ax (pv 4)) Bh)) Cy)) (Uc (Nc (Mx (Mw O k6 rfl N M Q Ji (Ar (Ax (pv 4)) (Ar (Ax (pv 5)) Bh))))))))
     (Df (He Lm)) Gp)))
    (Df (Hr (i:=2) nB.nd rfl (Dw rfl) (Uq (Ax (pv 2)) (Ax (pv 3)))))))))
   (Df (He (iB S (Ej (Ts.call_sortedI S) zC rfl Y (by decide +kernel) (Ar (Ax (pv 2)) Bh)) (Mw h4 k6 rfl h6 h5 h3 Ji (Ar (Ax (pv 0)) Bh)))))))
 case h =>
  (intro ds R q_; obtain ⟨h,T,rfl,h1,h7,hc,dT,hT,hF⟩ := q_)
  refine ⟨rfl,?_⟩
  array_get_dec
  rcases jL (d:=T) with ⟨xs,rfl⟩ | ⟨e,ne⟩
  rotate_left
  ·rw[e]
   array_get_dec
   exact hF λ⟨C,z,_⟩=>ne _ z
  have hc:(xs.map Rh).sum<=1000:=hc
  simp only[Bm] at dT
  array_get_dec
  refine Xs (l:=xs) (g:=λx=>x) (Iq _).symm (λi δ=>∃(C:List (List (List Int))) (v3 v4 v5:DV),δ=⟨[.dat .sh (.int h),.dat .sh (.list xs),.dat .sh (.list (C.flatten.map Bk)),v3,v4,v5],0⟩/\NP v3/\NP v4/\NP v5/\xs.take i=C.map Da/\∀c∈C,tQ h c) ?_ ?_ ?_
  ·exact ⟨[],_,_,_,rfl,Jj,Jj,Jj,rfl,λw z=>nomatch z⟩
  ·(intro i x _ hx q_; obtain ⟨C,v3,v4,v5,rfl,j1,X,Z,et,hw⟩ := q_)
   have dx:=Xu (Ao hx)
   obtain ⟨i1,i2⟩:=An.mp hx
   have no:¬ DZ h x->R (.bool false):=λnr=>hF λ⟨C',z,g',_⟩=>by
    unfold Hm at z
    injection z with z
    have mx:=Ao hx
    rw[z] at mx
    obtain ⟨c,k9,rfl⟩:=Bs.mp mx
    exact nr ⟨c,rfl,g' c k9⟩
   array_get_dec
   rcases jL (d:=x) with ⟨ys,rfl⟩ | ⟨e,ne⟩
   rotate_left
   ·rw[e]
    array_get_dec
    exact no λ⟨c,z,_⟩=>ne _ z
   simp only[Bm] at dx
   array_get_dec
   refine ⟨by simp only[Bm]; omega,?_⟩
   cases e0:ys.isEmpty with
   | true =>
    array_get_dec
    refine no λ⟨c,z,ne,_⟩=>ne ?_
    unfold Da at z
    injection z with z
    rw[z] at e0
    cases c with
    | nil=>rfl
    | cons a c=>cases e0
   | false =>
   array_get_dec
   refine qY (l:=ys) (g:=λx=>x) (Iq _).symm (λd=>@decide (∀w,d=Bk w->¬ Eg h w) (Fp _)) (λx=>x) (λd hd j2 j3 hy hn=>?_) ?_
   ·array_get_dec
    refine ⟨h,d,rfl,by have:=Xu hd; omega,λw e r=>?_,λnr=>?_⟩
    ·array_get_dec
     exact hn (@decide_eq_false _ (Fp _) λz=>z w e r)
    ·array_get_dec
     exact hy (@decide_eq_true _ (Fp _) nr)
   cases hf:ys.filter (λd=>@decide (∀w,d=Bk w->¬ Eg h w) (Fp _)) with
   | cons y zs =>
    array_get_dec
    have my:y∈ys/\∀w,y=Bk w->¬ Eg h w:=by
     have : y∈ys.filter (λd=>@decide (∀w,d=Bk w->¬ Eg h w) (Fp _)):=by rw[hf]; exact Aa
     obtain ⟨q1,q2⟩:=Py.mp this
     exact ⟨q1,@of_decide_eq_true _ (Fp _) q2⟩
    refine ⟨?_,no λ⟨c,z,_,h9,_⟩=>?_⟩
    ·have:=eY (xs:=ys) (p:=λd=>@decide (∀w,d=Bk w->¬ Eg h w) (Fp _)) (by omega)
     rw[hf] at this
     rw[Iq]
     exact this
    ·unfold Da at z
     injection z with z
     rw[z] at my
     obtain ⟨w,k8,e⟩:=Bs.mp my.1
     exact my.2 w e.symm (h9 w k8)
   | nil =>
   have j0:∃c:List (List Int),ys=c.map Bk/\∀w∈c,Eg h w:=by
    have all:∀d∈ys,∃w,d=Bk w/\Eg h w:=λd hd=>Hl λz=>by
     have:=List.filter_eq_nil_iff.mp hf d hd
     exact this (@decide_eq_true _ (Fp _) λw e r=>z ⟨w,e,r⟩)
    clear hf e0 dx no hx i2 hT hF
    induction ys with
    | nil=>exact ⟨[],rfl,λq z=>nomatch z⟩
    | cons d ys ih =>
     obtain ⟨c,rfl,hP⟩:=ih λd hd=>all d (Ae _ hd)
     obtain ⟨w,rfl,r⟩:=all d Aa
     refine ⟨w::c,rfl,λu hu=>?_⟩
     rcases Aj.mp hu with z | z
     ·rw[z]; exact r
     ·exact hP u z
   obtain ⟨c,rfl,q0⟩:=j0
   have q6:c≠[]:=λz=>by rw[z] at e0; cases e0
   array_get_dec
   rw[nR,i8]
   array_get_dec
   rw[show (((c.dropLast.map Bk).zip (c.tail.map Bk)).map λp=>Pu [p.1,p.2])=(c.zip c.tail).map λp=>Pu [Bk p.1,Bk p.2] by rw[List.zip_map,Dz,nS]; rfl]
   have hF:¬ GJ c->R (.bool false):=λa=>no λ⟨c',z,_,_,a'⟩=>a (by rw[show c=c' from Zd z]; exact a')
   refine Xs (l:=c.zip c.tail) (g:=λp=>.tuple [Bk p.1,Bk p.2]) rfl (λi δ=>(∃v4 v5:DV,δ=⟨[.dat .sh (.int h),.dat .sh (.list xs),.dat .sh (.list (C.flatten.map Bk)),.dat .sh (.list (c.map Bk)),v4,v5],0⟩/\NP v4/\NP v5)/\∀(j:Nat) (p:List Int×List Int),j<i->(c.zip c.tail)[j]? = some p->zS p) ?_ ?_ ?_
   ·exact ⟨⟨_,_,rfl,X,Z⟩,λj p z=>absurd z (Fl _)⟩
   ·clear X Z
    (intro i p _ hp q_; obtain ⟨⟨v4,v5,rfl,X,Z⟩,hj⟩ := q_)
    have k5:¬ zS p->R (.bool false):=λz=>hF λq=>z (q p (Ao hp))
    array_get_dec
    refine sV (λq=>?_) (λq=>?_)
    ·array_get_dec
     refine k5 λz=>?_
     rw[Ac,Ac,z.1] at q
     simp at q
    rw[Ac,Ac] at q
    array_get_dec
    refine ⟨p.1,p.2,rfl,?_⟩
    array_get_dec
    refine Zw (λhs=>?_) (λhs=>?_)
    ·array_get_dec
     refine k5 λz=>?_
     rw[show lQ p.1 p.2=true from z.2] at hs
     cases hs
    ·array_get_dec
     refine ⟨⟨_,_,rfl,Iv,Iv⟩,λj p' k0 k3=>?_⟩
     by_cases z:j=i
     ·subst z
      rw[hp] at k3
      cases k3
      exact ⟨by simp at q; omega,show lQ p.1 p.2=true by simpa using hs⟩
     ·exact hj j p' (by omega) k3
   ·clear X Z
    (intro _ q_; obtain ⟨⟨v4,v5,rfl,X,Z⟩,hj⟩ := q_)
    have q7:GJ c:=λp hp=>by
     obtain ⟨j,k0⟩:=vQ.mp hp
     exact hj j p (An.mp k0).1 k0
    have k7:xs.take (i+1)=(C++[c]).map Da:=by rw[Ee i1,et,i2,Bc]; rfl
    have le:=cJ k7
    rw[Ig,Az] at le
    have l2:[c].flatten=c:=by simp
    rw[l2] at le
    array_get_dec
    refine ⟨by rw[Ac,Ac]; omega,C++[c],_,_,_,iT (by rw[Ig,l2,Bc]) rfl,Iv,X,Z,k7,λu hu=>?_⟩
    rcases Ai.mp hu with z | z
    ·exact hw u z
    ·rw[Ab.mp z]; exact ⟨q6,q0,q7⟩
  ·(intro _ q_; obtain ⟨C,v3,v4,v5,rfl,j1,X,Z,et,hw⟩ := q_)
   rw[Dr] at et
   subst et
   have un:pD h (.list (C.map Da))->C.flatten.Nodup/\C.flatten.length=2 ^ h.toNat:=λ⟨C',z,_,n,l⟩=>by
    unfold Hm at z
    injection z with z
    rw[dS z]
    exact ⟨n,l⟩
   have eh:((h.toNat:Nat):Int)=h:=by omega
   array_get_dec
   refine ⟨C.flatten,rfl,λL pL oL=>?_⟩
   refine ⟨h,rfl,by omega,by omega,λA pA oA=>?_⟩
   refine ⟨dp,?_⟩
   rw[show Ew (Ki (L.map Bk)) (wordsD A)=decide (L=A) from vV L A]
   by_cases e:L=A
   ·rw[decide_eq_true e]
    have pp:C.flatten.Perm (Gf h.toNat):=pL.symm.trans (by rw[e]; exact pA)
    exact hT ⟨C,rfl,hw,pp.nodup_iff.mpr (Ov _),by rw[pp.length_eq,Pt]⟩
   ·rw[decide_eq_false e]
    refine hF λk=>e ?_
    obtain ⟨k1,k2⟩:=un k
    have pp:=wG (h:=h.toNat) k1 (λw h9=>by
     obtain ⟨c,q5,q4⟩:=List.mem_flatten.mp h9
     rw[eh]
     exact (hw c q5).2.1 w q4) k2
    exact mM (pL.trans (pp.trans pA.symm)) oL oA
end
def Qn(p:Int)(w:List Int):List Int:=dO (w++[p])
theorem eR{p:Int}{w:List Int}{i:Int}:i∈Qn p w↔i∈w\/i=p:=by
 unfold Qn
 rw[(Pr _).mem_iff,Ai,Ab]
theorem mL{h:Nat}{p:Int}{w:List Int}(r:Eg h w)(np:p∉w)(a:0<=p)(b:p<h):Eg h (Qn p w):=by
 refine ⟨gW ((Pr _).nodup_iff.mpr (Dh.mpr ⟨r.1.imp λ{x y} q=>Int.ne_of_lt q,Bp.mpr ⟨Bt,Do⟩,λx hx y c e=>np (by rw[<- Ab.mp c,<- e]; exact hx)⟩)) (cE _),λx hx=>?_⟩
 rcases eR.mp hx with hx | hx
 ·exact r.2 x hx
 ·rw[hx]; exact ⟨a,b⟩
theorem C1{p:Int}{x y:List Int}(h:lQ x y=true):lQ x (Qn p y)=true/\lQ (Qn p x) (Qn p y)=true:=by
 have h:=JR.mp h
 refine ⟨JR.mpr λi hi=>eR.mpr (.inl (h i hi)),JR.mpr λi hi=>?_⟩
 rcases eR.mp hi with hi | hi
 ·exact eR.mpr (.inl (h i hi))
 ·exact eR.mpr (.inr hi)
structure CovP(h:Nat)(O:List Int)(C:List (List (List Int))):Prop where
 cover:∀w,Eg h w->(∀i∈w,i∈O)->∃c∈C,w∈c
 chain:∀c∈C,c.Pairwise λx y=>lQ x y=true
 words:∀c∈C,∀w∈c,Eg h w/\∀i∈w,i∈O
 ne:∀c∈C,c≠[]
 len:∀c∈C,c.length<=O.length+1
 nd:∀c∈C,c.Nodup
def Kd(p:Int)(c:List (List Int)):List (List (List Int)):=if 1<c.length then [c++[Qn p (Ub c)],(c.map (Qn p)).dropLast] else [c++[Qn p (Ub c)]]
theorem yD{h:Nat}{O:List Int}{C:List (List (List Int))}{p:Int}(k:CovP h O C)(np:p∉O)(n:0<=p)(r:p<h):CovP h (O++[p]) (C.flatMap (Kd p)):=by
 have two:∀c,∀d,d∈Kd p c↔d=c++[Qn p (Ub c)]\/(d=(c.dropLast).map (Qn p)/\1<c.length):=λc d=>by
  unfold Kd
  rw[<- aX]
  by_cases z:1<c.length
  ·rw[if_pos z]
   simp [z]
  ·rw[if_neg z]
   simp [z]
 have f:∀c∈C,∀w∈c,p∉w:=λc a w hw q=>np ((k.words c a w hw).2 p q)
 refine ⟨λw hw o=>?_,λd hd=>?_,λd hd w hw=>?_,λd hd=>?_,λd hd=>?_,λd hd=>?_⟩
 ·by_cases z:p∈w
  ·have m:Eg h (w.filter λi=>decide (i≠p)):=⟨hw.1.sublist List.filter_sublist,λi b=>hw.2 i (Py.mp b).1⟩
   obtain ⟨c,a,g⟩:=k.cover _ m λi b=>by
    obtain ⟨v,A⟩:=Py.mp b
    rcases Ai.mp (o i v) with q | q
    ·exact q
    ·exact absurd (Ab.mp q) (by simpa using A)
   have s:Qn p (w.filter λi=>decide (i≠p))=w:=by
    refine Yr (mL m (f c a _ g) n r).1 hw.1 λi=>?_
    rw[eR,List.mem_filter]
    by_cases e:i=p
    ·simp [e,z]
    ·simp [e]
   rcases kM g with e | hd
   ·refine ⟨_,Bv.mpr ⟨c,a,(two c _).mpr (.inl rfl)⟩,Ag _ (Ab.mpr ?_)⟩
    rw[<- e]
    exact s.symm
   ·refine ⟨_,Bv.mpr ⟨c,a,(two c _).mpr (.inr ⟨rfl,?_⟩)⟩,Bs.mpr ⟨_,hd,s⟩⟩
    have:=Kt hd
    rw[Hx] at this
    omega
  ·obtain ⟨c,a,g⟩:=k.cover w hw λi b=>by
    rcases Ai.mp (o i b) with q | q
    ·exact q
    ·exact absurd (by rw[<- Ab.mp q]; exact b) z
   exact ⟨_,Bv.mpr ⟨c,a,(two c _).mpr (.inl rfl)⟩,Af _ g⟩
 ·obtain ⟨c,a,hd⟩:=Bv.mp hd
  rcases (two c d).mp hd with rfl | ⟨rfl,_⟩
  ·refine Bi.mpr ⟨k.chain c a,Cn ..,λx l y j=>?_⟩
   rw[Ab.mp j]
   exact (C1 (mO (k.chain c a) l)).1
  ·refine Rv.mpr (((k.chain c a).sublist (Lf c)).imp λq=>(C1 q).2)
 ·obtain ⟨c,a,hd⟩:=Bv.mp hd
  have one:∀u∈c,Eg h (Qn p u)/\∀i∈Qn p u,i∈O++[p]:=λu m=>⟨mL (k.words c a u m).1 (f c a u m) n r,λi b=>by
   rcases eR.mp b with q | q
   ·exact Af _ ((k.words c a u m).2 i q)
   ·exact Ag _ (Ab.mpr q)⟩
  rcases (two c d).mp hd with rfl | ⟨rfl,_⟩
  ·rcases Ai.mp hw with hw | hw
   ·exact ⟨(k.words c a w hw).1,λi b=>Af _ ((k.words c a w hw).2 i b)⟩
   ·rw[Ab.mp hw]
    exact one _ (tS (k.ne c a))
  ·obtain ⟨u,m,rfl⟩:=Bs.mp hw
   exact one u (Jm _ m)
 ·obtain ⟨c,a,hd⟩:=Bv.mp hd
  rcases (two c d).mp hd with rfl | ⟨rfl,z⟩
  ·simp
  ·intro e
   have:=congrArg Ek e
   rw[Ac,Hx,Gv] at this
   omega
 ·obtain ⟨c,a,hd⟩:=Bv.mp hd
  have:=k.len c a
  rw[Az,Dv]
  rcases (two c d).mp hd with rfl | ⟨rfl,z⟩
  ·rw[Az,Dv]; omega
  ·rw[Ac,Hx]; omega
 ·obtain ⟨c,a,hd⟩:=Bv.mp hd
  rcases (two c d).mp hd with rfl | ⟨rfl,z⟩
  ·refine Dh.mpr ⟨k.nd c a,Bp.mpr ⟨Bt,Do⟩,λx l y j e=>?_⟩
   rw[Ab.mp j] at e
   exact f c a x l (by rw[e]; exact eR.mpr (.inr rfl))
  ·refine eS ((k.nd c a).sublist (Lf c)) λx l y j e=>?_
   have l:=Jm _ l
   have j:=Jm _ j
   refine Yr (k.words c a x l).1.1 (k.words c a y j).1.1 λi=>?_
   have q:i∈Qn p x↔i∈Qn p y:=by rw[e]
   rw[eR,eR] at q
   have t:=f c a x l
   have B:=f c a y j
   constructor
   ·intro b
    rcases q.mp (.inl b) with z | z
    ·exact z
    ·rw[z] at b; exact absurd b t
   ·intro b
    rcases q.mpr (.inl b) with z | z
    ·exact z
    ·rw[z] at b; exact absurd b B
theorem fI(p:Int):∀D:List (List (List Int)),(D.flatMap (Kd p)).length<=2 * D.length:=by
 intro D
 induction D with
 | nil=>simp
 | cons c D a =>
  rw[Rw,Az,Bg]
  have : (Kd p c).length<=2:=by
   unfold Kd
   split <;> simp
  omega
theorem AH(h:Nat):CovP h [] [[[]]]:=by
 refine ⟨λw b d=>⟨[[]],Ab.mpr rfl,?_⟩,λc a=>?_,λc a w b=>?_,λc a=>?_,λc a=>?_,λc a=>?_⟩
 ·cases w with
  | nil=>exact Ab.mpr rfl
  | cons x w=>exact nomatch d x Aa
 all_goals rw[Ab.mp a] at *
 ·exact Cn ..
 ·rw[Ab.mp b]; exact ⟨⟨Eh,λ_ z=>(nomatch z)⟩,λ_ z=>(nomatch z)⟩
 ·simp
 ·simp
 ·simp
theorem B8{h:Nat}{O:List Int}{C:List (List (List Int))}(k:CovP h O C)(e:∀i:Int,0<=i->i<h->i∈O)(hl:O.length=h):Cov h C :=
 ⟨λw a=>k.cover w a λi d=>e i (a.2 i d).1 (a.2 i d).2,k.chain,λc b w a=>(k.words c b w a).1,k.ne,λc b=>by have:=k.len c b; omega,k.nd⟩
theorem nA{a:Type}(xs:List a)(k:Nat)(y:a):(Jw xs k y).Perm (y::xs):=by
 unfold Jw
 refine Du.trans ?_
 rw[Dn]
theorem uT{a b:Type}(f:a->b)(xs:List a)(k:Nat)(y:a):Jw (xs.map f) k (f y)=(Jw xs k y).map f:=by
 unfold Jw
 rw[Bc,Aw,Sv,Yj]
theorem zL{c:Type}{xs:List c}{a:c}(h:xs.getLast? = some a):Jv xs (some (-1)) none=[a]:=by
 have b:xs≠[]:=λz=>by rw[z] at h; cases h
 have e:=Ed b
 have g:xs.getLast b=a:=by
  rw[Gj b] at h
  exact Bu h
 have lp:=Ka.mpr b
 unfold Jv HT.sIx
 have q:¬ ((xs.length:Int) + -1<0):=by omega
 have i:((xs.length:Int) + -1).toNat=xs.dropLast.length:=by rw[Hx]; omega
 have f:(-1+(xs.length:Int)).toNat=xs.dropLast.length:=by rw[Hx]; omega
 simp [q]
 have d:xs.drop xs.dropLast.length=[a]:=by
  conv=>lhs; rw[<- e]
  rw[List.dropLast_concat,List.drop_left,g]
 rw[f,d]
 refine Dt ?_
 rw[Hx,Dv]
 omega
theorem cV(p:Int):∀{C:List (List (List Int))},(∀c∈C,c≠[])->(C.flatMap (Kd p)).flatten.length=2 * C.flatten.length
 | [],_=>rfl
 | c::C,h=>by
  have b:=cV p (C:=C) λd a=>h d (Ae _ a)
  have e:=Ka.mpr (h c Aa)
  rw[Rw,Ig,Az,b,aZ,Az]
  unfold Kd
  split
  ·simp
   omega
  ·simp
   omega
theorem xE{A B:List (List (List Int))}(h:A.Perm B):A.flatten.length=B.flatten.length:=by
 rw[Qb,Qb]
 exact (h.map _).sum_nat
def o9:DF:=λb n R=>∃h:Int,b=[.int h]/\1<=h/\h<=7/\n<=90000/\∀(C:List (List (List Int))) (a:Nat),n<=a->a<=n+7->Cov h.toNat C->C.length<=2 ^ h.toNat->C.flatten.length=2 ^ h.toNat->R (Hm C) a
section
variable{P:Bz}{w:World}{K:PySem.W.Frag}{mg:Str->Option Value}{base:Heap}
theorem kB:FnScope ["_law_draws_here", "_law_holes", "_law_k", "_law_turn", "_law_order", "_law_told", "_law_place", "_law_more", "_law_chain", "_law_up"] ["_law_draws_here", "_law_holes"] (Cg Og):=⟨rfl,rfl,rfl,by decide +kernel,rfl,by decide +kernel,by decide +kernel⟩
theorem jS{f e  : Addr}{fd q:Cu}(F:Fun K "_law_made" "_law_made" Og f fd)(I:FnOk P w K mg base Ko 1 e q ["_law_draws_here"] (R9 K Wg))(N:Binds K q ["_law_draws_here"] [])(L:PySem.W.keepIn K (.ref e)=true)(B:mg "_law_next" = some (.ref e))(u:mg "range" = none)(v:mg "sorted" = none)(M:mg "tuple" = none)(X:mg "len" = none):FnOk P w K mg base Ko 2 f fd ["_law_draws_here", "_law_holes"] (kG K (o9)):=by
 refine' eM (k:=1) F kB (λh8 A T s H E hr=>?hb) ?h
 case hb =>
  have k4:Room 1 _:=hr.mono (by decide)
  have k7:=hr.units
  have h9:∀{d:Scope} (h:d={ kind:=.function,names:=[(".0",.local),("_law_k",.local),("_law_next",.globalImplicit),("_law_draws_here",.free)],isGenerator:=false,isCoroutine:=false }),
    CompScope (Pj Ko P w K mg base ["_law_draws_here", "_law_holes", "_law_k", "_law_turn", "_law_order", "_law_told", "_law_place", "_law_more", "_law_chain", "_law_up"] "_law_made" (Cg Og) f h8 A T s H E).nox d [("_law_draws_here",s.heap.objs.size+1)] "_law_k" ["_law_draws_here"] [0]:=by
   rintro d rfl
   refine ⟨by rfl,.inl (by decide +kernel),by rfl,by decide +kernel,.inl rfl,λy c h=>?_,by rfl,by decide +kernel,rfl,λk y j J Y=>?_⟩
   ·have z:=Jh h
    simp only[Aj,Bt,or_false,Oi] at z
    obtain ⟨rfl,rfl⟩:=z; rfl
   ·match k,J,Y with
    | 0,J,Y=>cases J; cases Y; exact ⟨rfl,rfl,by first | exact .inl rfl | exact .inr rfl⟩
    | k+1,J,Y=>cases J
  have k1:∀{d:Scope} (h:d={ kind:=.function,names:=[(".0",.local),("_law_word",.local),("tuple",.globalImplicit),("sorted",.globalImplicit),("_law_place",.free)],isGenerator:=false,isCoroutine:=false }),
    CompScope (Pj Ko P w K mg base ["_law_draws_here", "_law_holes", "_law_k", "_law_turn", "_law_order", "_law_told", "_law_place", "_law_more", "_law_chain", "_law_up"] "_law_made" (Cg Og) f h8 A T s H E).nox d [("_law_place",s.heap.objs.size+2)] "_law_word" ["_law_place"] [6]:=by
   rintro d rfl
   refine ⟨by rfl,.inl (by decide +kernel),by rfl,by decide +kernel,.inl rfl,λy c h=>?_,by rfl,by decide +kernel,rfl,λk y j J Y=>?_⟩
   ·have z:=Jh h
    simp only[Aj,Bt,or_false,Oi] at z
    obtain ⟨rfl,rfl⟩:=z; rfl
   ·match k,J,Y with
    | 0,J,Y=>cases J; cases Y; exact ⟨rfl,rfl,by first | exact .inl rfl | exact .inr rfl⟩
    | k+1,J,Y=>cases J
  exact Cf (n8 (o:=false) (i0:=3) kB.nd rfl rfl (js1:=[]) (j0:=0) (js2:=[]) (h9 rfl) rfl (Yu rfl u (Ar (Ax (pv 1)) Bh)) (λ_ _ _=>Rf) (λ_ _ _=>Mf (Kk I k4 rfl B L N Ji (pv 1) Bh) (Tv (Ax (pv 0)) Cy)))
   (Cf (Sa (i:=4) kB.nd rfl (Dw rfl) (Ft Bh))
   (Cf (My Eb rfl (Yu rfl u (Ar (Ax (pv 1)) Bh)) (Jp (i:=2) kB.nd rfl (Dw rfl))
   (Df (xT (pv 4) (Jr (Ax (pv 3)) (Ax (pv 2))) (Ax (pv 2)))))
   (Cf (Hr (i:=5) kB.nd rfl (Dw rfl) (Ft (Ar (Ft (Ar (Qo Bh) Bh)) Bh)))
   (Cf (My Eb rfl (wM (Vb (pv 4))) (Jp (i:=6) kB.nd rfl (Or.inr rfl))
   (Cf (Sa (i:=7) kB.nd rfl (Dw rfl) (Ft Bh))
    (Cf (My Eb rfl (wM (Ax (pv 5))) (Jp (i:=8) kB.nd rfl (Dw rfl))
    (Cf (T8 (o:=false) (i0:=9) kB.nd rfl rfl (k1 rfl) rfl (wM (Ax (pv 8))) (λ_ _ _=>Rf) (λ_ _ _=>Ml dN (fL (i:=true)) rfl M (by decide +kernel) (Ar (Ej jK E3 rfl v (by decide +kernel) (Ar (vM (Ax (pv 0)) (Qo (Ar (Mv (Ax (pv 1))) Bh))) Bh)) Bh)))
     (Cf (Sf (pv 7) (qX (Ax (pv 8)) (Jd (i:=true) (Ax (pv 9)) (Hy (Tr Cy)) Jb)))
     (Df (Ik (U5 (Ej Js Nv rfl X (by decide +kernel) (Ar (Ax (pv 8)) Bh)) Cy)
     (Df (Sf (pv 7) (Jd (i:=true) (Ax (pv 9)) Jb (Hy (Tr Cy))))) Gp)))))
    (Df (Hr (i:=5) kB.nd rfl (Dw rfl) (Xd (pv 7)))))))
   (Df (He (Ax (pv 5))))))))
 case h =>
  (intro ds n R G; obtain ⟨h,rfl,h0,h1,hn,hR⟩ := G)
  refine ⟨rfl,?_⟩
  array_get_dec
  refine ⟨by omega,by omega,?_⟩
  refine R1 (l:=Ck h.toNat) (g:=λi:Nat=>.int i) rfl rfl (λj h4 m=>(∃zs:List Int,h4=zs.map Be/\zs.length=j/\∀x∈zs,0<=x/\x<20)/\m=n+j) ⟨⟨[],rfl,rfl,λ_ z=>(nomatch z)⟩,rfl⟩ (λj a h4 m ha ⟨⟨zs,q1,q3,q4⟩,q2⟩=>?_) (λh4 m ⟨⟨ts,q1,q3,q4⟩,q2⟩=>?_)
  ·obtain ⟨rfl,hi⟩:=cS ha
   array_get_dec
   refine ⟨rfl,by omega,λr=>?_⟩
   array_get_dec
   have b:=Om r (b:=(a:Int)+1) (by omega)
   refine ⟨by omega,⟨zs++[r % ((a:Int)+1)],by rw[q1,Bc]; rfl,by rw[Az,q3]; rfl,λx hx=>?_⟩,by omega⟩
   rcases Ai.mp hx with hx | hx
   ·exact q4 x hx
   ·rw[Ab.mp hx]; omega
  subst q1 q2
  rw[Ex] at q3
  array_get_dec
  refine ⟨by omega,by omega,?_⟩
  refine Xs (l:=Ck h.toNat) (g:=λi:Nat=>.int i) rfl (λi δ=>∃(O:List Int) (v2:DV),δ=⟨[.drw,.dat .sh (.int h),v2,.dat .sh (.list (ts.map Be)),.dat .ow (.list (O.map Be)),.un,.un,.un,.un,.un],n+(Ck h.toNat).length⟩/\O.Nodup/\O.length=i/\(∀x:Int,x∈O↔0<=x/\x<i)/\NP v2) ?_ ?_ ?_
  ·exact ⟨[],_,rfl,Do,rfl,λx=>⟨λz=>(nomatch z),λz=>absurd z.2 (by omega)⟩,Jj⟩
  ·(intro i a _ ha G; obtain ⟨O,v2,rfl,nd,ol,om,h3⟩ := G)
   obtain ⟨rfl,hi⟩:=cS ha
   array_get_dec
   obtain ⟨t,ht,k6,k2⟩:=G5 (l:=ts) (i:=(a:Int)) (by omega) (by omega)
   have bt:=q4 t k2
   refine ⟨.int t,by rw[L6,k6]; rfl,?_⟩
   array_get_dec
   have pm:=nA O t.toNat (a:Int)
   refine ⟨by rw[Ac]; omega,by omega,by omega,Jw O t.toNat (a:Int),_,iT (by rw[uT]) rfl,pm.nodup_iff.mpr (Bp.mpr ⟨λz=>?_,nd⟩),by rw[Rc,ol],λx=>?_,Iv⟩
   ·have:=(om _).mp z
    omega
   ·rw[pm.mem_iff,Aj,om x]
    omega
  ·(intro _ G; obtain ⟨O,v2,rfl,nd,ol,om,h3⟩ := G)
   rw[Ex] at ol om
   array_get_dec
   refine Xs (l:=O) (g:=Be) rfl (λi δ=>∃(C:List (List (List Int))) (v6 v7 U V:DV),δ=⟨[.drw,.dat .sh (.int h),v2,.dat .sh (.list (ts.map Be)),.dat .sh (.list (O.map Be)),.dat .sh (Hm C),v6,v7,U,V],n+(Ck h.toNat).length⟩/\CovP h.toNat (O.take i) C/\C.length<=2 ^ i/\C.flatten.length=2 ^ i/\NP v6/\NP v7/\NP U/\NP V) ?_ ?_ ?_
   ·exact ⟨[[[]]],_,_,_,_,rfl,AH _,by simp,by simp,Jj,Jj,Jj,Jj⟩
   ·(intro i p _ hp G; obtain ⟨C,v6,v7,U,V,rfl,Z,cl,ct,k3,k5,Q,S⟩ := G)
    have hi:i<O.length:=(An.mp hp).1
    have p2:2 ^ (i+1)<=2 ^ 7:=Gd (by decide) (by omega)
    rw[Qk] at p2
    have h5:=(om p).mp (Ao hp)
    have et:O.take (i+1)=O.take i++[p]:=by rw[Gi,hp]; rfl
    have k0:p∉O.take i:=λz=>by
     have h6:=(Dn i O).symm▸nd
     rw[Fi hi] at h6
     have:=(Dh.mp h6).2.2 p z _ Aa
     exact this (An.mp hp).2.symm
    unfold Hm
    array_get_dec
    refine Xs (l:=C) (g:=Da) rfl (λj δ=>∃(U V:DV),δ=⟨[.drw,.dat .sh (.int h),v2,.dat .sh (.list (ts.map Be)),.dat .sh (.list (O.map Be)),.dat .sh (Hm C),.dat .sh (.int p),.dat .ow (Hm ((C.take j).flatMap (Kd p))),U,V],n+(Ck h.toNat).length⟩/\NP U/\NP V) ?_ ?_ ?_
    ·exact ⟨_,_,rfl,Q,S⟩
    ·(intro j c _ hc G; obtain ⟨U,V,rfl,Q,S⟩ := G)
     have cC:=Ao hc
     unfold Hm Da
     array_get_dec
     have lc:=Z.len c cC
     have lt:(O.take i).length<=7:=by rw[Dl]; omega
     have lw:∀w∈c,w.length<=60:=λw hw=>sO ((Z.words c cC w hw).1.up (show ((h.toNat:Nat):Int)<=60 by omega))
     refine V6 (l:=c) (g:=Bk) rfl (λw=>Bk (Qn p w)) (λw hw k8 no hy=>?_) ?_
     ·have:=lw w hw
      array_get_dec
      refine ⟨by rw[Ac]; omega,w++[p],by rw[Bc]; rfl,by rw[Az,Dv]; omega,?_⟩
      array_get_dec
      exact hy
     array_get_dec
     have h7:=Z.ne c cC
     have gl:(c.map λw=>Bk (Qn p w)).getLast? = some (Bk (Qn p (Ub c))):=by
      rw[List.getLast?_map,Gj h7]
      unfold Ub
      rw[Mb,Gj h7]
      rfl
     rw[zL gl]
     have fl:∀D:List (List (List Int)),(D.flatMap (Kd p)).length<=2 * D.length:=fI p
     have lf:=fl (C.take j)
     rw[Dl] at lf
     have J:Ki (c.map Bk++[Bk (Qn p (Ub c))])=Da (c++[Qn p (Ub c)]):=by
      unfold Da
      rw[Bc]
      rfl
     have ej:(C.take (j+1)).flatMap (Kd p)=(C.take j).flatMap (Kd p)++Kd p c:=by
      rw[Gi,hc,List.flatMap_append]
      simp
     refine ⟨by simp; omega,by simp [npk,h3 _],by rw[Ac]; omega,?_⟩
     rw[J]
     refine Zw (λhb=>?_) (λhb=>?_)
     ·have h2:1<c.length:=by
       have:=of_decide_eq_true hb
       rw[Ac] at this
       omega
      array_get_dec
      rw[AU]
      refine ⟨by simp [npk,h3 _],by rw[Az,Ac,Dv]; omega,_,_,iT (by rw[ej,Kd,if_pos h2,Bc,<- aX,<- aX]; unfold Da; simp [Yg]; exact ⟨rfl,rfl⟩) rfl,Iv,Iv⟩
     ·have h2:¬ 1<c.length:=by
       have:=of_decide_eq_false hb
       rw[Ac] at this
       omega
      array_get_dec
      refine ⟨_,_,iT (by rw[ej,Kd,if_neg h2,Bc]; rfl) rfl,Iv,Iv⟩
    ·(intro _ G; obtain ⟨U,V,rfl,Q,S⟩ := G)
     rw[Dr]
     unfold Hm
     array_get_dec
     refine ⟨_,_,_,_,_,rfl,?_,?_,?_,Iv,Jj,Q,S⟩
     ·rw[et]
      exact yD Z k0 h5.1 h5.2
     ·have:=fI p C
      rw[Qk]
      omega
     ·rw[cV p Z.ne,ct,Qk]
      omega
   ·(intro _ G; obtain ⟨C,v6,v7,U,V,rfl,Z,cl,ct,k3,k5,Q,S⟩ := G)
    array_get_dec
    rw[Dr] at Z
    rw[ol] at cl ct
    exact ⟨by omega,hR _ _ (by omega) (by rw[Ex]; omega) (B8 Z (λi i0 i1=>(om i).mpr ⟨i0,i1⟩) ol) cl ct⟩
end
def jX(c:List (List Int))(P:List (List (List Int))):Prop:=P.length<=2/\(∀w∈c,∃d∈P,w∈d)/\∀d∈P,d.Sublist c/\d≠[]
theorem uA{c:List (List Int)}(e:c≠[]):jX c [c]:=⟨by simp,λw b=>⟨c,Ab.mpr rfl,b⟩,λd a=>by rw[Ab.mp a]; exact ⟨Cs _,e⟩⟩
theorem O7{c:List (List Int)}{k:Nat}(b:0<k)(k1:k<c.length):jX c [c.take k,c.drop k]:=by
 refine ⟨by simp,λw a=>?_,λd hd=>?_⟩
 ·rw[<- Dn k c] at a
  rcases Ai.mp a with q | q
  ·exact ⟨_,Aa,q⟩
  ·exact ⟨_,Ae _ Aa,q⟩
 ·rcases Aj.mp hd with rfl | hd
  ·refine ⟨Jl ..,λz=>?_⟩
   have:=congrArg Ek z
   rw[Dl,Gv] at this
   omega
  ·rw[Ab.mp hd]
   refine ⟨Ia ..,λz=>?_⟩
   have:=congrArg Ek z
   rw[Iu,Gv] at this
   omega
def uX(C D:List (List (List Int))):Prop:=(∀c∈C,∀w∈c,∃d∈D,w∈d)/\∀d∈D,∃c∈C,d.Sublist c/\d≠[]
theorem wX{h:Nat}{C D:List (List (List Int))}(k:Cov h C)(s:uX C D):Cov h D:=by
 refine ⟨λw f=>?_,λd b=>?_,λd b w f=>?_,λd b=>?_,λd b=>?_,λd b=>?_⟩
 ·obtain ⟨c,a,g⟩:=k.cover w f
  exact s.1 c a w g
 all_goals obtain ⟨c,a,e,i⟩:=s.2 d b
 ·exact (k.chain c a).sublist e
 ·exact k.words c a w (e.subset f)
 ·exact i
 ·exact Br e.length_le (k.len c a)
 ·exact (k.nd c a).sublist e
theorem Z5{a:Type}{xs:List a}{k:Int}(b:0<=k)(k1:k<=xs.length):Jv xs none (some k)=xs.take k.toNat/\Jv xs (some k) none=xs.drop k.toNat:=by
 unfold Jv HT.sIx
 have q:¬ (k<0):=by omega
 have c:¬ ((xs.length:Int)<k):=by omega
 simp [q]
 rw[Qa (by omega)]
 exact Dt (by rw[Iu]; omega)
def oN:DF:=λb n R=>∃(h:Nat) (C:List (List (List Int))),b=[Hm C]/\h<=7/\Cov h C/\C.length<=128/\n<=90000/\∀(D:List (List (List Int))) (a:Nat),n<=a->a<=n+500->Cov h D->D.length<=256->D.flatten.length=C.flatten.length->R (Hm D) a
section
variable{P:Bz}{w:World}{K:PySem.W.Frag}{mg:Str->Option Value}{base:Heap}
theorem bX:FnScope ["_law_draws_here", "_law_made_here", "_law_told", "_law_chain", "_law_pick", "_law_at", "_law_parts", "_law_part"] ["_law_draws_here", "_law_made_here"] (Cg Qp):=⟨rfl,rfl,rfl,by decide +kernel,rfl,by decide +kernel,by decide +kernel⟩
theorem eO{f a  : Addr}{fd v:Cu}(F:Fun K "_law_parted" "_law_parted" Qp f fd)(q:FnOk P w K mg base Ko 1 a v ["_law_draws_here"] (R9 K Wg))(t:Binds K v ["_law_draws_here"] [])(u:PySem.W.keepIn K (.ref a)=true)(o:mg "_law_next" = some (.ref a))(y:mg "len" = none):FnOk P w K mg base Ko 2 f fd ["_law_draws_here", "_law_made_here"] (kG K (oN)):=by
 refine' eM (k:=1) F bX (λk4 A h6 s H E hr=>?hb) ?h
 case hb =>
  have U:Room 1 _:=hr.mono (by decide)
  have X:=hr.units
  exact Cf (Sa (i:=2) bX.nd rfl (Dw rfl) (Ft Bh))
   (Cf (My Eb rfl (wM (Ax (pv 1))) (Jp (i:=3) bX.nd rfl (Dw rfl))
   (Cf (Hr (i:=4) bX.nd rfl (Dw rfl) (Kk q U rfl o u t Ji (pv 0) Bh))
    (Cf (Hr (i:=5) bX.nd rfl (Dw rfl) (Mf (I0 (Ax (pv 4)) Cy) (Ej Js Nv rfl y (by decide +kernel) (Ar (Ax (pv 3)) Bh))))
    (Cf (Hr (i:=6) bX.nd rfl (Dw rfl) (Ft (Ar (Ax (pv 3)) Bh)))
    (Cf (Ik (jZ (BY (Oo X (Mf (Ax (pv 4)) Cy) Cy) (Q1 (U5 (Ax (pv 5)) Cy))))
    (Df (Hr (i:=6) bX.nd rfl (Dw rfl) (Ft (Ar (Jd (i:=true) (Ax (pv 3)) Jb (Hy (Ax (pv 5)))) (Ar (Jd (i:=true) (Ax (pv 3)) (Hy (Ax (pv 5))) Jb) Bh))))) Gp)
    (Df (My Eb rfl (wM (Ax (pv 6))) (Jp (i:=7) bX.nd rfl (Dw rfl))
    (Df (sL (pv 2) (Mf (Kk q U rfl o u t Ji (pv 0) Bh) (Tv (Ej Js Nv rfl y (by decide +kernel) (Ar (Ax (pv 2)) Bh)) Cy)) (Ax (pv 7)))))))))))
   (Df (He (Xd (pv 2)))))
 case h =>
  (intro ds n R I; obtain ⟨h,C,rfl,hh,cv,cl,hn,hR⟩ := I)
  refine ⟨rfl,?_⟩
  unfold Hm
  array_get_dec
  refine Xs (l:=C) (g:=Da) rfl (λi δ=>∃(D:List (List (List Int))) (m:Md) (v3 v4 v5 v6 J:DV) (O:Nat),δ=⟨[.drw,.dat .sh (Hm C),.dat m (Hm D),v3,v4,v5,v6,J],O⟩/\(m=.ow\/m=.tp)/\n<=O/\O<=n+3 * i/\D.length<=2 * i/\uX (C.take i) D/\D.flatten.length=(C.take i).flatten.length/\NP v3/\NP v4/\NP v5/\NP v6/\NP J) ?_ ?_ ?_
  ·exact ⟨[],_,_,_,_,_,_,_,rfl,.inl rfl,Ak _,Ak _,Ak _,⟨λ_ z=>(nomatch z),λ_ z=>(nomatch z)⟩,by simp,Jj,Jj,Jj,Jj,Jj⟩
  ·(intro i c _ T I; obtain ⟨D,m,v3,v4,v5,v6,J,O,rfl,M,q1,q2,dl,Z,L,h8,h0,h3,h9,G⟩ := I)
   have cC:=Ao T
   have Q:=cv.ne c cC
   have k0:=Ka.mpr Q
   have hi:=(An.mp T).1
   unfold Hm
   rw[show Da c=.list (c.map Bk) from rfl]
   array_get_dec
   refine ⟨rfl,by omega,λr=>?_⟩
   array_get_dec
   have bm:=Om (r / 3) (b:=((c.map Bk).length:Int)) (by rw[Ac]; omega)
   have k3:=cv.len c cC
   refine ⟨by rw[Ac]; omega,?_⟩
   refine EL (λP=>CO _ _ _ P) (λδ=>∃P:List (List (List Int)),δ=⟨[.drw,.dat .sh (.list (C.map Da)),.dat m (.list (D.map Da)),.dat .sh (.list (c.map Bk)),.dat .sh (.int r),.dat .sh (.int (r / 3 % ((c.map Bk).length:Nat))),.dat .sh (.list (P.map Da)),J],O+1⟩/\jX c P/\P.flatten.length=c.length) (λN hN=>?_) ?_
   ·refine Z9 (λS=>?_) (λS=>?_)
    ·array_get_dec
     refine Zw (λS=>?_) (λS=>?_)
     ·array_get_dec
      have S:=of_decide_eq_true S
      obtain ⟨k1,k2⟩:=Z5 (xs:=c.map Bk) bm.1 (by omega)
      rw[k1,k2,<- Sv,<- Yj]
      refine hN _ ⟨[c.take _,c.drop _],rfl,O7 ?_ ?_,by simp only[aZ,List.flatten_nil,Et,Dn]⟩
      ·omega
      ·have:=Ac (as:=c) Bk
       omega
     ·array_get_dec
      exact hN _ ⟨[c],rfl,uA Q,by simp⟩
    ·array_get_dec
     exact hN _ ⟨[c],rfl,uA Q,by simp⟩
   ·(intro _ I; obtain ⟨P,rfl,po,h4⟩ := I)
    array_get_dec
    refine Xs (l:=P) (g:=Da) rfl (λj δ=>∃(x:List (List (List Int))) (m:Md) (J:DV),δ=⟨[.drw,.dat .sh (.list (C.map Da)),.dat m (.list (x.map Da)),.dat .sh (.list (c.map Bk)),.dat .sh (.int r),.dat .sh (.int (r / 3 % ((c.map Bk).length:Nat))),.dat .sh (.list (P.map Da)),J],O+1+j⟩/\(m=.ow\/m=.tp)/\x.length=D.length+j/\(∀d∈D,d∈x)/\(∀d∈P.take j,d∈x)/\(∀d∈x,d∈D\/d∈P)/\x.flatten.length=D.flatten.length+(P.take j).flatten.length/\NP J) ?_ ?_ ?_
    ·exact ⟨D,_,_,rfl,M,rfl,λ_ z=>z,λ_ z=>(nomatch z),λ_ z=>.inl z,by simp,G⟩
    ·(intro j p _ hp I; obtain ⟨x,m,J,rfl,M,h1,g1,g2,g3,gt,G⟩ := I)
     have hj:=(An.mp hp).1
     have pl:=po.1
     array_get_dec
     refine ⟨rfl,by omega,λr2=>?_⟩
     array_get_dec
     have b2:=Om r2 (b:=((x.map Da).length:Int)+1) (by omega)
     have V:=nA x (r2 % (((x.map Da).length:Int)+1)).toNat p
     have k5:(x.map Da).length<=300:=by rw[Ac]; omega
     have h7:own1 m=true:=by rcases M with rfl | rfl <;> rfl
     have h5:NP (.dat m (.list (x.map Da))):=by rcases M with rfl | rfl <;> exact λ_=>rfl
     refine ⟨by omega,h7,by rw[h5]; simp [npk],by decide,by omega,b2.1,by omega,Jw x _ p,_,_,iT (by rw[uT]) (by omega),.inr rfl,by rw[Rc]; omega,λd hd=>V.mem_iff.mpr (Ae _ (g1 d hd)),λd hd=>?_,λd hd=>?_,?_,Iv⟩
     ·rw[Gi,hp] at hd
      rcases Ai.mp hd with hd | hd
      ·exact V.mem_iff.mpr (Ae _ (g2 d hd))
      ·obtain rfl:d=p:=by simpa using hd
       exact V.mem_iff.mpr Aa
     ·rcases Aj.mp (V.mem_iff.mp hd) with rfl | hd
      ·exact .inr (Ao hp)
      ·exact g3 d hd
     ·rw[xE V,aZ,Az,gt,Gi,hp,Ig,Az]
      simp
      omega
    ·(intro _ I; obtain ⟨x,m,J,rfl,M,h1,g1,g2,g3,gt,G⟩ := I)
     have pl:=po.1
     rw[Dr] at g2
     refine ⟨x,m,_,_,_,_,_,_,rfl,M,by omega,by omega,by omega,⟨λd hd w hw=>?_,λd hd=>?_⟩,?_,Iv,Iv,Iv,Iv,G⟩
     ·rw[Gi,T] at hd
      rcases Ai.mp hd with hd | hd
      ·obtain ⟨e,Y,B⟩:=Z.1 d hd w hw
       exact ⟨e,g1 e Y,B⟩
      ·obtain rfl:d=c:=by simpa using hd
       obtain ⟨e,Y,B⟩:=po.2.1 w hw
       exact ⟨e,g2 e Y,B⟩
     ·rcases g3 d hd with z | z
      ·obtain ⟨e,Y,B⟩:=Z.2 d z
       exact ⟨e,by rw[Gi]; exact Af _ Y,B⟩
      ·exact ⟨c,by rw[Gi,T]; exact Ag _ (by simp),po.2.2 d z⟩
     ·rw[Dr] at gt
      rw[gt,h4,L,Gi,T,Ig,Az]
      simp
  ·(intro _ I; obtain ⟨D,m,v3,v4,v5,v6,J,O,rfl,M,q1,q2,dl,Z,L,h8,h0,h3,h9,G⟩ := I)
   rw[Dr] at Z L
   have h2:=hR D O q1 (by omega) (wX cv Z) (by omega) L
   array_get_dec
   exact ⟨q1,m,_,rfl,by rcases M with rfl | rfl <;> decide,h2⟩
end
end K15
namespace DL
open PySem PySem.Spec PyProof.Rows L2 Nd
end DL
namespace Nd
open PySem PySem.Spec PyProof.Rows L2
def JC(c:Nat)(z:Str):Prop:=c∉z.cps.toList
end Nd
namespace DL
open PySem PySem.Spec PyProof.Rows L2 Nd
def sJ(i:Nat):DE:=λa P=>∃(m:Md) (C:List (List Ad)),a.sl[i]? = some (.dat m (.list (C.map Ki)))/\(∀c∈C,Cv c=true)/\P (.dat .ow (.list (C.map Ki))) a
section
variable{K:PySem.W.Frag}
theorem yU{a b:Type}{f:a->b}{l:List a}{i:Nat}{c:a}(h:l[i]? = some c):(l.take (i+1)).map f=(l.take i).map f++[f c]:=by
 rw[Gi,h,Bc]
 rfl
theorem K6{i:Nat}{js:List Nat}:∀Z H Q,LE K (sJ i) Z H Q->cI (W1 K (Lj i)) js Xz (ED (mX K) (tJ (Lj 0) u4)) Z H Q:=by
 intro Z H Q h
 obtain ⟨H0,Y,S,T,δ,P,rfl,hS,I,⟨m,C,h1,hC,hP⟩,k⟩:=h
 obtain ⟨v,F,hv,rd⟩:=Nb hS I h1
 obtain ⟨a,xs,Ga,rfl,s,ra,_,J⟩:=rd.list_inv
 have R:=ra.len
 rw[Ac] at R J
 refine ⟨.ref a,hv,a,rfl,⟨xs,Sx.of s⟩,?_⟩
 refine uR (Zx (K:=K) (a:=a) (xs:=xs)) (by rw[R]; exact J) (λD j d g=>H D=none/\∃G,g D=some (.lst d)/\RdFs K g d ((C.take j).map Ki) G/\(D::G).Nodup/\(∀b∈G,H b=none)/\Pq H g) ?_ ?_ ?_ ?_
 ·intro D p
  exact ⟨p,[],Dq,.nil,Bp.mpr ⟨Bt,Do⟩,λ_ z=>(nomatch z),Fs p _⟩
 ·(intro D j d g B; obtain ⟨p,G,_,_,_,_,n⟩ := B)
  exact Sx.of (n _ _ s)
 ·(intro D j x d g _ hx E B; obtain ⟨p,G,_,u,U,L,n⟩ := B)
  have O:j<C.length:=by
   have:=(An.mp hx).1
   omega
  have q:C[j]? = some C[j]:=Ba O
  have ic:=hC _ (Ao q)
  obtain ⟨x',Fx,w,rx,_⟩:=ra.get (i:=j) (e:=.list C[j]) (by rw[Bo,q]; rfl)
  rw[hx] at w
  cases w
  obtain ⟨b,y,Gb,rfl,hb,rb,_,V⟩:=rx.list_inv
  obtain rfl:=rb.imm ic
  have M:g b=some (.lst y):=n _ _ hb
  refine A4 (te:=ED (mX K) (tJ (Lj 0) u4)) ?_
  refine ⟨.ref b,rfl,b,y,rfl,.inl (Sx.of M),λl f=>?_⟩
  have sl:=Fs f (.lst y)
  have r:D≠l:=λz=>by rw[<- z,E] at f; cases f
  have A:upd g l (.lst y) D=some (.lst d):=by rw[Ei r]; exact E
  have N:l∉G:=λz=>by
   obtain ⟨o,e⟩:=u.dom l z
   rw[f] at e
   cases e
  obtain ⟨t,W⟩:=Bp.mp U
  refine ⟨A,p,G++[l],Dq,?_,?_,?_,λc o e=>?_⟩
  ·rw[yU q]
   have r1:RdF K (upd g l (.lst y)) (.ref l) (.list C[j]) [l]:=.lst Dq V (rb.kp (Kp.of (n.trans sl)))
   exact ((u.kp (Kp.of sl)).snoc r1).kp (Pk A λz=>by
    rcases Ai.mp z with z | z
    ·exact t z
    ·exact r (Ab.mp z))
  ·refine Bp.mpr ⟨λz=>?_,Dh.mpr ⟨W,Bp.mpr ⟨Bt,Do⟩,λc hc c' X e=>N (by rw[<- Ab.mp X,<- e]; exact hc)⟩⟩
   rcases Ai.mp z with z | z
   ·exact t z
   ·exact r (Ab.mp z)
  ·intro c hc
   rcases Ai.mp hc with hc | hc
   ·exact L c hc
   ·rw[Ab.mp hc]
    exact n.free f
  ·rw[Ei λz=>by rw[z,p] at e; cases e]
   exact sl _ _ (n _ _ e)
 ·(intro D d g _ E B; obtain ⟨p,G,_,u,U,L,n⟩ := B)
  rw[R,Dr] at u
  refine k _ δ (.ref D) (D::G) S g rfl hS ?_ hP
  have fr:∀b∈D::G,H b=none:=λb hb=>by
   rcases Aj.mp hb with rfl | hb
   ·exact p
   ·exact L b hb
  exact ((I.grow n (Ak _)).pushF (.lst E (by rw[Ac]; exact J) u) U (λa s=>I.free (fr a s)) (λa s=>I.new0 (fr a s))).tomid
end
section
variable{X:Cx}{d b:Expr}{x e:Str}{g f pos c:Pos}{i0 i:Nat}{a:Scope}{cl:List (Str×Addr)}{ys:List Str}{h:List Nat}
theorem sI{o:Bool}(q:X.N.Nodup)(j:X.N[i0]? = some e)(k:X.env.scope.names.lookup e=some .local)(C:CompScope X a cl x ys h)(m:X.calm=true)(r:PE X b (Lj i))(n:∀fp s H,PE (Hd X a cl (x::ys) fp s H) d (ED (mX X.K) (tJ (Lj 0) u4)))(p:∀x,Fu b X.env x=pure x:=by intro _; rfl)(l:Jf (.ListComp d [⟨.Name x g,b,[],0⟩] a pos) (some (.Name e f)) c.line X.env=pure true:=by rfl):gA X (.Assign [.Name e f] (.ListComp d [⟨.Name x g,b,[],0⟩] a pos) c) (pK (sJ i) (CI o i0)) :=
 PS.impD (bR q j k C m (kE r) (λ_ _ _=>fF) n p l) (Zb K6 Q2)
end
section
variable{K:PySem.W.Frag}{g H:Hp}{X:Addr->Prop}{S T:List Ent}{δ:DS}{i j:Nat}{d c:List Ad}
theorem Rz(hS:Sl S δ)(hT:∀e∈T,Kz e.x=false)(hA:At K g X δ.n (S++T) H)(h1:δ.sl[i]? = some (.dat .ow (.list d)))(hj:d[j]? = some (.list c))(im:Cv c=true)(np:npk δ.sl=true):∃t xs r ys,(vs S)[i]? = some (some (.ref t))/\H t=some (.lst xs)/\xs.length=d.length/\xs[j]? = some (.ref r)/\H r=some (.lst ys)/\RdFs K H ys c []/\c.length<=Bf/\r≠t/\∀h m,RdFs K H h m []->m.length<=Bf->∃S2,vs S2=vs S/\Sl S2 ⟨δ.sl.set i (.dat .ow (.list (d.set j (.list m)))),δ.n⟩/\At K g X δ.n (S2++T) (upd H r (.lst h)):=by
 obtain ⟨M,E,e3⟩:=Gk hS h1
 have V:M∈S:=Ao E
 obtain ⟨u,y,F'⟩:=M
 have Q:y=.dat .ow (.list d):=e3
 subst Q
 obtain ⟨v,hv,rd,nd,_⟩:=hA.ok _ (Af _ V)
 have h4:u=some v:=hv
 subst h4
 obtain ⟨t,xs,G,rfl,ht,ra,eF,hz⟩:=rd.list_inv
 have W:F'=t::G:=eF
 subst W
 have B:(t::G).Nodup:=nd rfl
 have l:=(An.mp hj).1
 have A:j<xs.length:=by rw[ra.len]; exact l
 obtain ⟨s,G2,rfl,h2,k⟩:=ra.part j
 have ed:d.drop j=.list c::d.drop (j+1):=by
  rw[Fi l,(An.mp hj).2]
 have ex:xs.drop j=xs[j]::xs.drop (j+1):=Fi A
 rw[ed,ex] at k
 generalize Y:xs[j]=w at k ex
 cases k with
 | @cons _ _ _ _ Fr F a h7 =>
 obtain ⟨r,ys,Gr,rfl,N,ry,rfl,P⟩:=a.list_inv
 obtain rfl:=ry.imm im
 obtain ⟨h0,h6⟩:=Bp.mp B
 have O:t≠r:=λz=>h0 (by rw[z]; exact Ag _ (Af _ Aa))
 obtain ⟨_,h8,Z⟩:=Dh.mp h6
 have D:r∉s:=λz=>Z r z r (Af _ Aa) rfl
 have J:r∉F:=λz=>(Dh.mp h8).2.2 r Aa r z rfl
 refine ⟨t,xs,r,ys,by rw[Jc E],ht,ra.len,by rw[Ba A,Y],N,ry,P,Qt O,λh m R I=>?_⟩
 have hn:=Tj hS np
 have pm:(S++T).Perm (⟨some (.ref t),.dat .ow (.list d),t::(s++([r]++F))⟩::(S.eraseIdx i++T)):=(Gn E).append_right T
 have C:∀f∈S.eraseIdx i++T,Kz f.x=false:=λf hf=>by
  rcases Ai.mp hf with hf | hf
  ·exact hn f ((El S i).subset hf)
  ·exact hT f hf
 have p:=hA.perm pm
 have keep:∀b o,H b=some o->(b∉t::(s++([r]++F))\/W6 o)->upd H r (.lst h) b=some o:=λb o e z=>by
  have nb:b≠r:=λq=>by
   subst q
   rcases z with z | z
   ·exact z (Ae _ (Ag _ (Af _ Aa)))
   ·rw[N] at e
    cases e
    rcases z with ⟨_,z⟩ | ⟨_,_,z⟩ <;> cases z
  rw[Ei nb]
  exact e
 have h5:=p.spoil C keep
 have L:=(Ay.mp p.sep).1
 have U:RdF K (upd H r (.lst h)) (.ref t) (.list (d.set j (.list m))) (t::(s++([r]++F))):=by
  refine .lst (by rw[Ei O]; exact ht) (by rw[Ge]; exact hz) ?_
  have r1:RdF K (upd H r (.lst h)) (.ref r) (.list m) [r]:=.lst Dq I (R.kp (Pk N (λz=>nomatch z)))
  have r2:=(h2.kp (Pk N D)).app (RdFs.cons r1 (h7.kp (Pk N J)))
  rw[Fm,if_pos l]
  rw[<- ex,Dn] at r2
  exact r2
 have h3:=h5.pushF U B (λa ha f hf=>(L f hf).1 (.inl (C f hf)) a ha) λa ha=>by
  rcases p.new _ Aa a ha with z | z
  ·exact z
  ·cases z.2
 obtain ⟨s1,s2⟩:=eT (y:=.dat .ow (.list (d.set j (.list m)))) (F':=t::(s++([r]++F))) E hS
 exact ⟨_,s1,s2,h3.perm ((Nu E).append_right T).symm⟩
end
def vH(i a b:Nat):DB:=λD d=>∃(e c:List Ad) (g f:Md) (j k:Nat),d.sl[i]? = some (.dat .ow (.list e))/\d.sl[a]? = some (.dat g (.int j))/\d.sl[b]? = some (.dat f (.int k))/\npk d.sl=true /\
 e[j]? = some (.list c)/\Cv c=true/\k<c.length/\c.length<1000000/\D.nx ⟨d.sl.set i (.dat .ow (.list (e.set j (.list (c.eraseIdx k))))),d.n⟩
def Z2(i a w:Nat):DB:=λD b=>∃(e c:List Ad) (g f:Md) (j:Nat) (d:Ad),b.sl[i]? = some (.dat .ow (.list e))/\b.sl[a]? = some (.dat g (.int j))/\b.sl[w]? = some (.dat f d)/\imm d=true/\npk b.sl=true /\
 e[j]? = some (.list c)/\Cv c=true/\c.length<1000000/\D.nx ⟨b.sl.set i (.dat .ow (.list (e.set j (.list (c++[d]))))),b.n⟩
section
variable{X:Cx}{o e l:Expr}{g f pos sp:Pos}{i a b w:Nat}
theorem sW(M:PE X o (Lj i))(Q:PE X l (Lj a))(W:PE X e (Lj b))(p:∀x y,Qj l false x y=operate [x,y] (Ny x y):=by intros; rfl)
  (m:Kh (.Subscript o l sp) "pop" X.env (eval (.Subscript o l sp) X.env)=eval (.Subscript o l sp) X.env:=by rfl)
  (q:((Hf f (Bl [e] X.env)).all (λx=>!x.1) && (Tc f (Mm [] X.env)).all (λx=>x.1.isSome)
   && decide (([e]:List Expr).length+([]:List Ku).length+(if ([]:List Ku).isEmpty then 0 else 1)<30))=true:=by rfl)
  (n:(g.endLine == f.line)=true:=by rfl) (B:Bl [e] X.env=(false,eval e X.env)::Bl [] X.env:=by rfl) (d:(Hf f (Bl [] X.env)).any (·.1)=false:=by rfl)
  (u:Jf (.Call (.Attribute (.Subscript o l sp) "pop" g) [e] [] f) none pos.line X.env=pure false:=by rfl) :
  gA X (.Expr (.Call (.Attribute (.Subscript o l sp) "pop" g) [e] [] f) pos) (vH i a b):=by
 refine PS.impD (Uw (iK PySem.F.plainAttrs_list PySem.F.slot_list_pop PySem.F.type_list_pop p7 (Sy (r:=pT X.K) Mz M Q p) (Hq W Mg B) m q n B d) u) λD σ H h=>?_
 obtain ⟨H0,Y,S,T,δ,P,rfl,v,E,w,⟨ds,c,ma,mb,j,k,N,h2,Z,O,I,C,hk,hz,U⟩,R,k2,k3,k4⟩:=h
 obtain ⟨va,_,ea,ra⟩:=Nb v w h2
 obtain ⟨rfl,_⟩:=ra.int_inv
 obtain ⟨vb,_,eb,L⟩:=Nb v w Z
 obtain ⟨rfl,_⟩:=L.int_inv
 obtain ⟨t,xs,r,s,g1,g2,g3,g4,z,A,g7,g8,g9⟩:=Rz v E w N I C O
 have ly:=A.len
 obtain ⟨V,G,J,s3⟩:=g9 (s.eraseIdx k) (c.eraseIdx k) (A.erase k) (Br (Nk _ _) g7)
 have yk:s[k]? = some (s[k]'(by omega)):=Ba _
 refine ⟨.ref t,g1,.int j,ea,t,_,j,.ref r,rfl,rfl,Sx.of g2,Hb g4,.inl ⟨rfl,_,Sx.of z⟩,.int k,eb,r,s,k,k,_,rfl,rfl,z,by omega,by omega,?_,yk,?_⟩
 ·have hx:fV s.length (k:Int)=some k:=by unfold fV; rw[if_pos (by omega),if_pos (by omega)]; simp
  exact (jG hx).1
 ·rw[<- G]
  exact R ⟨_,_⟩ V _ J s3 U
theorem O9(O:PE X o (Lj i))(V:PE X l (Lj a))(he:PE X e (Lj w))(p:∀x y,Qj l false x y=operate [x,y] (Ny x y):=by intros; rfl)
  (k:Kh (.Subscript o l sp) "append" X.env (eval (.Subscript o l sp) X.env)=eval (.Subscript o l sp) X.env:=by rfl)
  (q:((Hf f (Bl [e] X.env)).all (λx=>!x.1) && (Tc f (Mm [] X.env)).all (λx=>x.1.isSome)
   && decide (([e]:List Expr).length+([]:List Ku).length+(if ([]:List Ku).isEmpty then 0 else 1)<30))=true:=by rfl)
  (m:(g.endLine == f.line)=true:=by rfl) (G:Bl [e] X.env=(false,eval e X.env)::Bl [] X.env:=by rfl) (b:(Hf f (Bl [] X.env)).any (·.1)=false:=by rfl)
  (v:Jf (.Call (.Attribute (.Subscript o l sp) "append" g) [e] [] f) none pos.line X.env=pure false:=by rfl) :
  gA X (.Expr (.Call (.Attribute (.Subscript o l sp) "append" g) [e] [] f) pos) (Z2 i a w):=by
 refine PS.impD (Uw (iK PySem.F.plainAttrs_list PySem.F.slot_list_append PySem.F.type_list_append Us (Sy (r:=pT X.K) Mz O V p) (Hq he Mg G) k q m G b) v) λD σ H h=>?_
 obtain ⟨H0,Y,S,T,δ,P,rfl,z,J,A,⟨ds,c,ma,mw,j,d,R,Q,h3,im,U,M,I,hz,hD⟩,W,k2,k3,k4⟩:=h
 obtain ⟨va,_,ea,ra⟩:=Nb z A Q
 obtain ⟨rfl,_⟩:=ra.int_inv
 obtain ⟨u,Fw,Z,s⟩:=Nb z A h3
 obtain rfl:=s.imm im
 obtain ⟨t,xs,r,C,g1,g2,g3,g4,B,E,g7,g8,g9⟩:=Rz z J A R M I U
 have ly:=E.len
 obtain ⟨S2,L,N,s3⟩:=g9 (C++[u]) (c++[d]) (E.snoc s) (by rw[Az]; exact gG (by simp; omega))
 refine ⟨.ref t,g1,.int j,ea,t,_,j,.ref r,rfl,rfl,Sx.of g2,Hb g4,.inl ⟨rfl,_,Sx.of B⟩,u,Z,r,C,u,rfl,rfl,B,Cc (by omega) (gG (n:=1000000) (Ak _)),?_⟩
 rw[<- L]
 exact W ⟨_,_⟩ S2 _ N s3 hD
end
def zA(i a b c:Nat)(t:DE):DB:=λD s=>t s λy d=>∃(h e f:List Ad) (r q p o:Md) (k m j:Nat) (g l:Ad),y=.dat o (.tuple [g,l])/\imm g=true/\imm l=true/\o≠.pk /\
 d.sl[i]? = some (.dat .ow (.list h))/\d.sl[a]? = some (.dat r (.int k))/\d.sl[b]? = some (.dat q (.int j))/\d.sl[c]? = some (.dat p (.int m))/\a≠i/\b≠i/\c≠i/\npk d.sl=true /\
 h[k]? = some (.list e)/\Cv e=true/\j<e.length/\(h.set k (.list (e.set j g)))[m]? = some (.list f)/\Cv f=true/\0<f.length /\
 D.nx ⟨d.sl.set i (.dat .ow (.list ((h.set k (.list (e.set j g))).set m (.list (f.set (f.length - 1) l))))),d.n⟩
section
variable{X:Cx}{o s e u A k m:Expr}{F:DE}{E:TE}{pos sp j g f C:Pos}{B i a b c:Nat}
theorem vA:∀{l:List DV} {i:Nat} {d:Ad},npk l=true->npk (l.set i (.dat .ow d))=true
 | [],_,_,h=>h
 | x::l,0,d,h=>by
  rw[List.set_cons_zero]
  unfold npk at h ⊢
  split at h
  ·rename_i e; cases e
  ·cases h
  ·rename_i b c a e
   cases e
   exact h
 | x::l,i+1,d,h=>by
  rw[Qv]
  unfold npk at h ⊢
  split at h
  ·rename_i e; cases e
  ·cases h
  ·rename_i b c a e
   cases e
   split
   ·rename_i e; cases e
   ·rename_i e; cases e; exact absurd rfl (a _)
   ·rename_i e; cases e; exact vA h
theorem zE(h8:X.calm=true)(ho:PE X o (Lj i))(ha:PE X u (Lj a))(hb:PE X A (Lj b))(h9:PE X s (Lj i))(hc:PE X k (Lj c))(hn:PE X m E)(V:∀σ H Q,Q (.int (-1)) H->E σ H Q)(he:Gq X e F)
  (U:∀x y,Qj u false x y=operate [x,y] (Ny x y):=by intros; rfl) (J:∀x y,Qj k false x y=operate [x,y] (Ny x y):=by intros; rfl)
  (h1:∀v,Ni (.Subscript (.Subscript o u sp) A j) X.env v=(do
   let ov <- Jy [v] (eval (.Subscript o u sp) X.env)
   let iv <- Jy [v,ov] (eval A X.env)
   standAt j
   Jy [v,ov,iv] (setItem ov iv v)
   release [v,ov,iv] []):=by intro _; rfl)
  (h2:∀v,Ni (.Subscript (.Subscript s k g) m f) X.env v=(do
   let ov <- Jy [v] (eval (.Subscript s k g) X.env)
   let iv <- Jy [v,ov] (eval m X.env)
   standAt f
   Jy [v,ov,iv] (setItem ov iv v)
   release [v,ov,iv] []):=by intro _; rfl)
  (h6:(Gg [.Subscript (.Subscript o u sp) A j,.Subscript (.Subscript s k g) m f] X.env).length=2:=by rfl) (h0:(Gg [.Subscript (.Subscript o u sp) A j,.Subscript (.Subscript s k g) m f] X.env).findIdx? (·.1)=none:=by rfl)
  (q1:(Gg [.Subscript (.Subscript o u sp) A j,.Subscript (.Subscript s k g) m f] X.env).map (·.2)=Ni (.Subscript (.Subscript o u sp) A j) X.env::(Gg [.Subscript (.Subscript s k g) m f] X.env).map (·.2):=by rfl)
  (q2:(Gg [.Subscript (.Subscript s k g) m f] X.env).map (·.2)=Ni (.Subscript (.Subscript s k g) m f) X.env::(Gg [] X.env).map (·.2):=by rfl)
  (hs:fM [.Tuple [.Subscript (.Subscript o u sp) A j,.Subscript (.Subscript s k g) m f] B C] e pos.line X.env=pure false:=by rfl)
  (hw:fN [.Tuple [.Subscript (.Subscript o u sp) A j,.Subscript (.Subscript s k g) m f] B C] e X.env=pure none:=by rfl)
  (h3:(Gg [.Tuple [.Subscript (.Subscript o u sp) A j,.Subscript (.Subscript s k g) m f] B C] X.env).map (·.2)=[Ni (.Tuple [.Subscript (.Subscript o u sp) A j,.Subscript (.Subscript s k g) m f] B C) X.env]:=by rfl) :
  gA X (.Assign [.Tuple [.Subscript (.Subscript o u sp) A j,.Subscript (.Subscript s k g) m f] B C] e pos) (zA i a b c F):=by
 refine PS.impD (cX he (C3 h8 (eZ (Zh (Sy (r:=pT X.K) Mz ho ha U) hb Rl h1) (eZ (Zh (Sy (r:=pT X.K) Mz h9 hc J) hn Rl h2) tM q2) q1) h6 h0) hs hw h3) λD σ H h=>?_
 obtain ⟨H0,Y,S,T,δ,P,rfl,hS,hT,hA,hd,k1,k2,k3,k4⟩:=h
 refine ⟨H0,Y,S,T,δ,_,rfl,hS,hA,hd,λy d w F1 S1 H1 e4 Z R p1=>?_⟩
 obtain ⟨ds,ca,L,ma,mb,mc,my,ja,jb,l,d1,d2,rfl,k5,h5,k8,f1,f2,f3,f4,na,nb,nc,np,g1,g2,g3,g4,g5,g6,hD⟩:=p1
 have N:=R.told mem_mid
 obtain ⟨p,xs,rfl,hp,rp,_⟩:=N.tup_inv
 clear N
 have G:=R.drop
 cases rp with
 | @cons x1 _ k9 _ Fa Fb r1 h7 =>
 cases h7 with
 | @cons x2 _ k6 _ Fc Fd r2 O =>
 cases O
 obtain rfl:=r1.imm k5
 obtain rfl:=r2.imm h5
 obtain ⟨va,_,ea,ra⟩:=Nb Z G f2
 obtain ⟨rfl,_⟩:=ra.int_inv
 obtain ⟨vb,_,eb,rb⟩:=Nb Z G f3
 obtain ⟨rfl,_⟩:=rb.int_inv
 obtain ⟨vc,_,ec,rc⟩:=Nb Z G f4
 obtain ⟨rfl,_⟩:=rc.int_inv
 obtain ⟨t,xs,r,ys,j1,j2,j3,j4,j5,j6,j7,j8,j9⟩:=Rz Z hT G f1 g1 g2 np
 have ly:=j6.len
 obtain ⟨S2,s1,s2,s3⟩:=j9 (ys.set l x1) (ca.set l d1) (j6.setI r1) (by rw[Ge]; exact j7)
 have hi:i<d.sl.length:=(An.mp f1).1
 obtain ⟨W,k7,r',I,l1,l2,l3,l4,l5,l6,l7,l8,l9⟩:=Rz (δ:=⟨d.sl.set i (.dat .ow (.list (ds.set ja (.list (ca.set l d1))))),d.n⟩) s2 hT s3 (by show (d.sl.set i _)[i]? = _; rw[Uk hi]) g4 g5 (vA np)
 have et:W=t:=by
  rw[s1,j1] at l1
  cases l1
  rfl
 subst et
 have h4:=l6.len
 obtain ⟨S3,m1,m2,m3⟩:=l9 (I.set (L.length - 1) x2) (L.set (L.length - 1) d2) (l6.setI (r2.kp λb o e z=>by
  rcases z with z | z
  ·exact nomatch z
  ·rw[Ei λq=>by
    subst q
    rw[j5] at e
    cases e
    rcases z with ⟨_,z⟩ | ⟨_,_,z⟩ <;> cases z]
   exact e)) (by rw[Ge]; exact l7)
 have hx:fV ys.length (l:Int)=some l:=by unfold fV; rw[if_pos (by omega),if_pos (by omega)]; simp
 have k0:fV I.length (-1)=some (L.length - 1):=by
  unfold fV
  rw[if_neg (by decide),if_pos (by omega),h4]
  congr 1
  omega
 rw[<- e4]
 refine ⟨p,[x1,x2],rfl,Vm.of hp,rfl,x1,[x2],rfl,?_⟩
 refine ⟨.ref W,j1,.int ja,ea,W,_,ja,.ref r,rfl,rfl,Sx.of j2,Hb j4,.int l,eb,r,ys,l,l,rfl,rfl,j5,hx,?_⟩
 refine ⟨x2,[],rfl,.ref W,j1,.int jb,ec,W,_,jb,.ref r',rfl,rfl,Sx.of l2,Hb l4,?_⟩
 refine V _ _ _ ⟨r',I,-1,_,rfl,rfl,l5,k0,rfl,?_⟩
 rw[<- s1,<- m1]
 refine k1 ⟨d.sl.set i (.dat .ow (.list ((ds.set ja (.list (ca.set l d1))).set jb (.list (L.set (L.length - 1) d2))))),d.n⟩ S3 _ ?_ m3 hD
 have M:S3.map Ent.x=(d.sl.set i _).set i _:=m2
 rw[List.set_set] at M
 exact M
end
theorem RdFs.setO{K:PySem.W.Frag}{H:Hp}{xs:List V}{a:List Ad}{k:Nat}{w:V}{e:Ad}{F:List Addr}(h:RdFs K H xs a [])(b:k<a.length)(r:RdF K H w e F):RdFs K H (xs.set k w) (a.set k e) F:=by
 have g:k<xs.length:=by rw[h.len]; exact b
 obtain ⟨j,n,c,f,o⟩:=h.part k
 obtain ⟨rfl,rfl⟩:=Od.mp c.symm
 obtain ⟨m,d,i⟩:=h.drop (k+1)
 obtain rfl:=fS.mp i
 rw[Fm (l:=a),if_pos b,Fm (l:=xs),if_pos g]
 have q:=f.app (RdFs.cons r d)
 rw[Et,List.nil_append] at q
 exact q
section
variable{K:PySem.W.Frag}{m H:Hp}{X:Addr->Prop}{S T:List Ent}{δ:DS}{i j:Nat}{d c:List Ad}{w:V}{h:Md}{e:Ad}{g:List Addr}
theorem zZ(hS:Sl S δ)(hT:∀e∈T,Kz e.x=false)(hA:At K m X δ.n (S++⟨some w,.dat h e,g⟩::T) H)(hy:h≠.pk)(h1:δ.sl[i]? = some (.dat .ow (.list d)))(hj:d[j]? = some (.list c))(im:Cv c=true)(np:npk δ.sl=true):∃t xs r ys,(vs S)[i]? = some (some (.ref t))/\H t=some (.lst xs)/\xs.length=d.length/\xs[j]? = some (.ref r)/\H r=some (.lst ys)/\ys.length=c.length/\∀k,k<c.length->∃S2,vs S2=vs S/\Sl S2 ⟨δ.sl.set i (.dat .sh (.list (d.set j (.list (c.set k e))))),δ.n⟩/\At K m X δ.n (S2++T) (upd H r (.lst (ys.set k w))):=by
 obtain ⟨O,N,e3⟩:=Gk hS h1
 have W:O∈S:=Ao N
 obtain ⟨u,y,F'⟩:=O
 have U:y=.dat .ow (.list d):=e3
 subst U
 obtain ⟨v,hv,rd,nd,_⟩:=hA.ok _ (Af _ W)
 have h8:u=some v:=hv
 subst h8
 obtain ⟨t,xs,G,rfl,ht,ra,eF,hz⟩:=rd.list_inv
 have h0:F'=t::G:=eF
 subst h0
 have Y:(t::G).Nodup:=nd rfl
 have Z:=hA.told mem_mid
 have E:=(An.mp hj).1
 have L:j<xs.length:=by rw[ra.len]; exact E
 obtain ⟨s,G2,rfl,h6,A⟩:=ra.part j
 have ed:d.drop j=.list c::d.drop (j+1):=by
  rw[Fi E,(An.mp hj).2]
 have ex:xs.drop j=xs[j]::xs.drop (j+1):=Fi L
 rw[ed,ex] at A
 generalize h2:xs[j]=wj at A ex
 cases A with
 | @cons _ _ _ _ Fr C a k2 =>
 obtain ⟨r,ys,Gr,rfl,I,ry,rfl,R⟩:=a.list_inv
 obtain rfl:=ry.imm im
 obtain ⟨h4,k0⟩:=Bp.mp Y
 have k1:t≠r:=λz=>h4 (by rw[z]; exact Ag _ (Af _ Aa))
 obtain ⟨_,k3,h3⟩:=Dh.mp k0
 have M:r∉s:=λz=>h3 r z r (Af _ Aa) rfl
 have P:r∉C:=λz=>(Dh.mp k3).2.2 r Aa r z rfl
 refine ⟨t,xs,r,ys,by rw[Jc N],ht,ra.len,by rw[Ba L,h2],I,ry.len,λk hk=>?_⟩
 have hn:=Tj hS np
 have pm:(S++⟨some w,.dat h e,g⟩::T).Perm (⟨some (.ref t),.dat .ow (.list d),t::(s++([r]++C))⟩::⟨some w,.dat h e,g⟩::(S.eraseIdx i++T)) :=
  ((Gn N).append_right _).trans (Kx _ Du)
 have h5:∀f∈S.eraseIdx i++T,Kz f.x=false:=λf hf=>by
  rcases Ai.mp hf with hf | hf
  ·exact hn f ((El S i).subset hf)
  ·exact hT f hf
 have F:=hA.perm pm
 have p:=(Ay.mp F.sep).1
 have D:=(Ay.mp (Ay.mp F.sep).2).1
 have B:r∈t::(s++([r]++C)):=Ae _ (Ag _ (Af _ Aa))
 have J:r∉g:=(p _ Aa).1 (.inl (aA hy)) r B
 have keep:∀b o,H b=some o->(b∉t::(s++([r]++C))\/W6 o)->upd H r (.lst (ys.set k w)) b=some o:=λb o e z=>by
  have nb:b≠r:=λq=>by
   subst q
   rcases z with z | z
   ·exact z B
   ·rw[I] at e
    cases e
    rcases z with ⟨_,z⟩ | ⟨_,_,z⟩ <;> cases z
  rw[Ei nb]
  exact e
 have h9:=(F.spoil (λf hf=>by
  rcases Aj.mp hf with rfl | hf
  ·exact aA hy
  ·exact h5 f hf) keep).sub (Cq _ _)
 have V:RdF K (upd H r (.lst (ys.set k w))) (.ref t) (.list (d.set j (.list (c.set k e)))) (t::(s++((r::g)++C))):=by
  refine .lst (by rw[Ei k1]; exact ht) (by rw[Ge]; exact hz) ?_
  have r1:RdF K (upd H r (.lst (ys.set k w))) (.ref r) (.list (c.set k e)) (r::g):=.lst Dq (by rw[Ge]; exact R) ((ry.kp (Pk I (λz=>nomatch z))).setO hk (Z.kp (Pk I J)))
  have r2:=(h6.kp (Pk I M)).app (RdFs.cons r1 (k2.kp (Pk I P)))
  rw[Fm (l:=d),if_pos E]
  rw[<- ex,Dn] at r2
  exact r2
 have h7:=h9.pushS V λf hf a ha z=>by
  have Q:a∉t::(s++([r]++C)):=(p f (Ae _ hf)).2 (.inl rfl) a ha
  have n2:a∉g:=(D f hf).2 (.inl (aA hy)) a ha
  rcases Aj.mp z with z | z
  ·exact Q (by rw[z]; exact Aa)
  ·rcases Ai.mp z with z | z
   ·exact Q (Ae _ (Af _ z))
   ·rcases Ai.mp z with z | z
    ·rcases Aj.mp z with z | z
     ·exact Q (by rw[z]; exact B)
     ·exact n2 z
    ·exact Q (Ae _ (Ag _ (Ag _ z)))
 obtain ⟨s1,s2⟩:=eT (y:=.dat .sh (.list (d.set j (.list (c.set k e))))) (F':=t::(s++((r::g)++C))) N hS
 exact ⟨_,s1,s2,h7.perm ((Nu N).append_right T).symm⟩
end
section
variable{K:PySem.W.Frag}{h H:Hp}{X:Addr->Prop}{S T:List Ent}{δ:DS}{i j:Nat}{c:List Ad}{w:V}{g:Md}{e:Ad}{d:List Addr}
theorem N3(hS:Sl S δ)(hT:∀e∈T,Kz e.x=false)(hA:At K h X δ.n (S++⟨some w,.dat g e,d⟩::T) H)(hy:g≠.pk)(h1:δ.sl[i]? = some (.dat .ow (.list c)))(O:j<c.length)(np:npk δ.sl=true):∃t xs,(vs S)[i]? = some (some (.ref t))/\H t=some (.lst xs)/\xs.length=c.length/\∃Z,vs Z=vs S/\Sl Z ⟨δ.sl.set i (.dat .sh (.list (c.set j e))),δ.n⟩/\At K h X δ.n (Z++T) (upd H t (.lst (xs.set j w))):=by
 obtain ⟨I,F,e3⟩:=Gk hS h1
 have P:I∈S:=Ao F
 obtain ⟨u,y,F'⟩:=I
 have J:y=.dat .ow (.list c):=e3
 subst J
 obtain ⟨v,hv,rd,nd,_⟩:=hA.ok _ (Af _ P)
 have h2:u=some v:=hv
 subst h2
 obtain ⟨t,xs,G,rfl,C,ra,eF,hz⟩:=rd.list_inv
 have R:F'=t::G:=eF
 subst R
 have Q:(t::G).Nodup:=nd rfl
 have U:=hA.told mem_mid
 have B:j<xs.length:=by rw[ra.len]; exact O
 obtain ⟨s,G2,rfl,Y,k⟩:=ra.part j
 have ed:c.drop j=c[j]::c.drop (j+1):=Fi O
 have ex:xs.drop j=xs[j]::xs.drop (j+1):=Fi B
 rw[ed,ex] at k
 generalize xs[j]=wj at k ex
 generalize c[j]=dj at k ed
 cases k with
 | @cons _ _ _ _ Fr A a h4 =>
 obtain ⟨E,h5⟩:=Bp.mp Q
 have V:t∉s:=λz=>E (Af _ z)
 have L:t∉A:=λz=>E (Ag _ (Ag _ z))
 refine ⟨t,xs,by rw[Jc F],C,ra.len,?_⟩
 have hn:=Tj hS np
 have pm:(S++⟨some w,.dat g e,d⟩::T).Perm (⟨some (.ref t),.dat .ow (.list c),t::(s++(Fr++A))⟩::⟨some w,.dat g e,d⟩::(S.eraseIdx i++T)) :=
  ((Gn F).append_right _).trans (Kx _ Du)
 have W:∀f∈S.eraseIdx i++T,Kz f.x=false:=λf hf=>by
  rcases Ai.mp hf with hf | hf
  ·exact hn f ((El S i).subset hf)
  ·exact hT f hf
 have r:=hA.perm pm
 have m:=(Ay.mp r.sep).1
 have p:=(Ay.mp (Ay.mp r.sep).2).1
 have D:t∉d:=(m _ Aa).1 (.inl (aA hy)) t Aa
 have keep:∀b o,H b=some o->(b∉t::(s++(Fr++A))\/W6 o)->upd H t (.lst (xs.set j w)) b=some o:=λb o e z=>by
  have nb:b≠t:=λq=>by
   subst q
   rcases z with z | z
   ·exact z Aa
   ·rw[C] at e
    cases e
    rcases z with ⟨_,z⟩ | ⟨_,_,z⟩ <;> cases z
  rw[Ei nb]
  exact e
 have h3:=(r.spoil (λf hf=>by
  rcases Aj.mp hf with rfl | hf
  ·exact aA hy
  ·exact W f hf) keep).sub (Cq _ _)
 have M:RdF K (upd H t (.lst (xs.set j w))) (.ref t) (.list (c.set j e)) (t::(s++(d++A))):=by
  refine .lst Dq (by rw[Ge]; exact hz) ?_
  rw[Fm (l:=c),if_pos O,Fm (l:=xs),if_pos B]
  exact (Y.kp (Pk C V)).app (RdFs.cons (U.kp (Pk C D)) (h4.kp (Pk C L)))
 have h0:=h3.pushS M λf hf a ha z=>by
  have N:a∉t::(s++(Fr++A)):=(m f (Ae _ hf)).2 (.inl rfl) a ha
  have n2:a∉d:=(p f hf).2 (.inl (aA hy)) a ha
  rcases Aj.mp z with z | z
  ·exact N (by rw[z]; exact Aa)
  ·rcases Ai.mp z with z | z
   ·exact N (Ae _ (Af _ z))
   ·rcases Ai.mp z with z | z
    ·exact n2 z
    ·exact N (Ae _ (Ag _ (Ag _ z)))
 obtain ⟨s1,s2⟩:=eT (y:=.dat .sh (.list (c.set j e))) (F':=t::(s++(d++A))) F hS
 exact ⟨_,s1,s2,h0.perm ((Nu F).append_right T).symm⟩
end
def uH(i a:Nat)(j:DE):DB:=λD h=>j h λy b=>∃(c:List Ad) (g f:Md) (d:Nat) (e:Ad),y=.dat f e/\f≠.pk/\b.sl[i]? = some (.dat .ow (.list c))/\b.sl[a]? = some (.dat g (.int d))/\npk b.sl=true/\d<c.length /\
 D.nx ⟨b.sl.set i (.dat .sh (.list (c.set d e))),b.n⟩
def W0(i a b:Nat)(o:DE):DB:=λD m=>o m λy d=>∃(f c:List Ad) (l k j:Md) (h g:Nat) (e:Ad),y=.dat j e/\j≠.pk/\d.sl[i]? = some (.dat .ow (.list f))/\d.sl[a]? = some (.dat l (.int h))/\d.sl[b]? = some (.dat k (.int g))/\npk d.sl=true /\
 f[h]? = some (.list c)/\Cv c=true/\g<c.length/\D.nx ⟨d.sl.set i (.dat .sh (.list (f.set h (.list (c.set g e))))),d.n⟩
section
variable{X:Cx}{o e d g:Expr}{j:DE}{pos sp f:Pos}{i a b:Nat}
theorem jO(q:PE X o (Lj i))(u:PE X d (Lj a))(F:Gq X e j)
  (h1:∀v,Ni (.Subscript o d sp) X.env v=(do
   let ov <- Jy [v] (eval o X.env)
   let iv <- Jy [v,ov] (eval d X.env)
   standAt sp
   Jy [v,ov,iv] (setItem ov iv v)
   release [v,ov,iv] []):=by intro _; rfl)
  (N:fM [.Subscript o d sp] e pos.line X.env=pure false:=by rfl) (hw:fN [.Subscript o d sp] e X.env=pure none:=by rfl)
  (Z:(Gg [.Subscript o d sp] X.env).map (·.2)=[Ni (.Subscript o d sp) X.env]:=by rfl):gA X (.Assign [.Subscript o d sp] e pos) (uH i a j):=by
 refine PS.impD (cX F (Zh q u Rl h1) N hw Z) λD σ H h=>?_
 obtain ⟨C,Y,S,T,O,P,rfl,Q,k,W,K,z,k2,k3,k4⟩:=h
 refine ⟨C,Y,S,T,O,_,rfl,Q,W,K,λy x w F1 S1 H1 m g c G=>?_⟩
 obtain ⟨ds,ma,my,b,e',rfl,M,L,R,s,n,B⟩:=G
 obtain ⟨va,_,V,J⟩:=Nb g c.drop R
 obtain ⟨rfl,_⟩:=J.int_inv
 obtain ⟨t,f,A,r,j3,E,l,p,U⟩:=N3 g k c M L n s
 have I:fV f.length (b:Int)=some b:=by unfold fV; rw[if_pos (by omega),if_pos (by omega)]; simp
 rw[<- m]
 refine ⟨.ref t,A,.int b,V,t,f,b,b,rfl,rfl,r,I,?_⟩
 rw[<- l]
 exact z ⟨_,_⟩ E _ p U B
theorem N0(G:PE X o (Lj i))(M:PE X d (Lj a))(hb:PE X g (Lj b))(Z:Gq X e j)(m:∀x y,Qj d false x y=operate [x,y] (Ny x y):=by intros; rfl)
  (h1:∀v,Ni (.Subscript (.Subscript o d sp) g f) X.env v=(do
   let ov <- Jy [v] (eval (.Subscript o d sp) X.env)
   let iv <- Jy [v,ov] (eval g X.env)
   standAt f
   Jy [v,ov,iv] (setItem ov iv v)
   release [v,ov,iv] []):=by intro _; rfl)
  (hs:fM [.Subscript (.Subscript o d sp) g f] e pos.line X.env=pure false:=by rfl) (hw:fN [.Subscript (.Subscript o d sp) g f] e X.env=pure none:=by rfl)
  (h2:(Gg [.Subscript (.Subscript o d sp) g f] X.env).map (·.2)=[Ni (.Subscript (.Subscript o d sp) g f) X.env]:=by rfl):gA X (.Assign [.Subscript (.Subscript o d sp) g f] e pos) (W0 i a b j):=by
 refine PS.impD (cX Z (Zh (Sy (r:=pT X.K) Mz G M m) hb Rl h1) hs hw h2) λD σ H h=>?_
 obtain ⟨U,Y,S,T,δ,P,rfl,hS,z,hA,hd,Q,k2,k3,k4⟩:=h
 refine ⟨U,Y,S,T,δ,_,rfl,hS,hA,hd,λy O w F1 S1 H1 B n k p1=>?_⟩
 obtain ⟨ds,c,ma,mb,my,p,l,e',rfl,hy,f1,f2,I,L,C,s,hk,R⟩:=p1
 obtain ⟨va,_,ea,ra⟩:=Nb n k.drop f2
 obtain ⟨rfl,_⟩:=ra.int_inv
 obtain ⟨vb,_,eb,F⟩:=Nb n k.drop I
 obtain ⟨rfl,_⟩:=F.int_inv
 obtain ⟨t,xs,r,q,N,J,j3,V,j5,j6,u⟩:=zZ n z k hy f1 C s L
 obtain ⟨W,A,E,s3⟩:=u l hk
 have hx:fV q.length (l:Int)=some l:=by unfold fV; rw[if_pos (by omega),if_pos (by omega)]; simp
 rw[<- B]
 refine ⟨.ref t,N,.int p,ea,t,_,p,.ref r,rfl,rfl,Sx.of J,Hb V,.int l,eb,r,q,l,l,rfl,rfl,j5,hx,?_⟩
 rw[<- A]
 exact Q ⟨_,_⟩ W _ E s3 R
end
def Z0(a:Addr)(G:List Addr)(H H':Hp):Prop:=∀b o,b≠a->b∉G->H b=some o->H' b=some o
def w8(K:PySem.W.Frag)(o:DF):Sp:=λm H Q _=>∃(g:Addr) (l:List V) (b:List Ent) (n:Nat) (j:List Ad) (R:Ad->Nat->Prop) (C:List Addr),m=.ref g::l/\b.map Ent.v=l.map some/\(∀e∈b,Il K H n e)/\b.Pairwise Wf/\(∀e∈b,g∉e.F)/\(∃c k f,Vl H g c k f/\0<=k/\k<=(n:Int))/\b.map Ent.x=j.map (λd=>.dat .ow d)/\o j n R /\
 g∉C/\(∀a∈C,H a≠none/\∀e∈b,a∉e.F) /\
 ∀v d F i h,n<=i->R d i->RdF K h v d F->(∀a∈F,a∉C)->Z0 g (b.flatMap Ent.F) H h->(∃c k f,Vl h g c k f/\0<=k/\k<=(i:Int))->Q v h
def uS(a:List Ad)(k:Nat):List DV:=a.map (λd=>.dat .ow d)++Ja k .un
section
variable{K:PySem.W.Frag}{H:Hp}
mutual
theorem RdF.nstb:∀{v:V} {d:Ad} {F:List Addr},RdF K H v d F->∀a∈F,∀o,H a=some o->¬ W6 o
 | _,_,_,.non,_,z=>nomatch z
 | _,_,_,.bl b,_,z=>nomatch z
 | _,_,_,.int i,_,z=>nomatch z
 | _,_,_,.str x,_,z=>nomatch z
 | _,_,_,.lst h l hs,b,z=>by
  rcases Aj.mp z with rfl | z
  ·intro o e s
   rw[h] at e; cases e
   rcases s with ⟨_,s⟩ | ⟨_,_,s⟩ <;> cases s
  ·exact RdFs.nstb hs b z
 | _,_,_,.tup h l hs,b,z=>RdFs.nstb hs b z
 | _,_,_,.dic h e hs,b,z=>by
  intro o c s
  rw[Ab.mp z,h] at c; cases c
  rcases s with ⟨_,s⟩ | ⟨_,_,s⟩ <;> cases s
 | _,_,_,.dik h e hs,b,z=>by
  intro o c s
  rw[Ab.mp z,h] at c; cases c
  rcases s with ⟨_,s⟩ | ⟨_,_,s⟩ <;> cases s
 | _,_,_,.dnm h e hs,b,z=>by
  intro o c s
  rw[Ab.mp z,h] at c; cases c
  rcases s with ⟨_,s⟩ | ⟨_,_,s⟩ <;> cases s
theorem RdFs.nstb:∀{v:List V} {d:List Ad} {F:List Addr},RdFs K H v d F->∀a∈F,∀o,H a=some o->¬ W6 o
 | _,_,_,.nil,_,z=>nomatch z
 | _,_,_,.cons h hs,b,z=>by
  rcases Ai.mp z with z | z
  ·exact RdF.nstb h b z
  ·exact RdFs.nstb hs b z
end
end
section
variable{K:PySem.W.Frag}{i H H':Hp}{X:Addr->Prop}{n:Nat}{As E:List Ent}
theorem At.spoilL(h:At K i X n (As++E) H)(u:∀e∈As,∃d,e.x=.dat .ow d)(np:∀f∈E,Kz f.x=false)(l:∀b o,H b=some o->(b∉As.flatMap Ent.F\/W6 o)->H' b=some o):At K i X n E H':=by
 have D:=(Bi.mp h.sep).2.2
 have B:∀e∈As,cells e=e.F:=λe j=>by
  obtain ⟨d,q⟩:=u e j
  obtain ⟨v,x,F⟩:=e
  have L:x=.dat .ow d:=q
  subst L
  rfl
 have s:∀a∈As.flatMap Ent.F,i a=none:=λa I=>by
  obtain ⟨e,j,p⟩:=Bv.mp I
  rcases h.new e (Af _ j) a (by rw[B e j]; exact p) with z | z
  ·exact z
  ·obtain ⟨d,q⟩:=u e j
   rw[q] at z
   cases z.2
 refine At.re (h.sub (Ci _ _)) (λf t=>(h.ok f (Ag _ t)).kp (λb o e z=>l b o e (z.imp (λq r=>?_) id)) (Ak _)) (λb o C q=>l b o (h.same b o C q) (.inl λz=>?_)) (λb o q=>?_) λb J=>?_
 ·obtain ⟨g,A,m⟩:=Bv.mp r
  exact (D g A f t).1 (.inl (np f t)) b (by rw[B g A]; exact m) q
 ·rw[s b z] at q; cases q
 ·obtain ⟨y,e⟩:=h.dom b o q
  exact ⟨y,l b y e (.inl λz=>by rw[s b z] at q; cases q)⟩
 ·obtain ⟨z,c,k,f,G,M⟩:=h.xd b J
  exact ⟨z,c,k,f,l _ _ G (.inl λw=>z (s b w)),M⟩
theorem zK{x t:Str}{st:Stmt}{f:Addr}{fd:Cu}{N ps:List Str}{U:Str}{k:Nat}{df:DF}{db:DB}(F:Fun K x t st f fd)(S:FnScope N (U::ps) (Cg st))(hb:∀(B:Value) (A:Dm) (outer:List Env) (s:Ap) (H:Hp) (E:XK),Room k (A.deeper (envOfC t (Cg st) s.heap.objs.size f B))->aS (Pj Ko P w K mg base N t (Cg st) f B A outer s H E).nox (Kv st) db)(h:∀L n R,df L n R->L.length=ps.length/\db (retWT n R) ⟨.drw::uS L (N.length - (U::ps).length),n⟩):FnOk P w K mg base Ko (k+1) f fd (U::ps) (w8 K df):=by
 refine F.ok S (λvs H Q E z=>?_) λB A outer s H us Q E hr z=>?_
 ·obtain ⟨l,ws,As,n,L,R,C,rfl,eu,ok,Z,nd,y,q,hp,_⟩:=z
  have l1:=(h L n R hp).1
  have l2:=congrArg Ek q
  rw[Ac,Ac] at l2
  have l3:=congrArg Ek eu
  rw[Ac,Ac] at l3
  rw[Bg,Bg]
  omega
 ·obtain ⟨l,ws,As,n,L,R,C,rfl,eu,ok,Z,O,y,q,hp,hC,hG,k1⟩:=z
  obtain ⟨l1,hd⟩:=h L n R hp
  have l2:=congrArg Ek q
  rw[Ac,Ac] at l2
  have l3:=congrArg Ek eu
  rw[Ac,Ac] at l3
  have ax:∀e∈As,∃d,e.x=.dat .ow d:=λe he=>by
   have : e.x∈As.map Ent.x:=Bs.mpr ⟨e,he,rfl⟩
   rw[q] at this
   obtain ⟨d,_,e1⟩:=Bs.mp this
   exact ⟨d,e1.symm⟩
  have cl:∀e∈As,cells e=e.F:=λe he=>by
   obtain ⟨d,q⟩:=ax e he
   obtain ⟨v,x,F⟩:=e
   have q':x=.dat .ow d:=q
   subst q'
   rfl
  have h1:∀e∈As,Kz e.x=false:=λe he=>by
   obtain ⟨d,q⟩:=ax e he
   rw[q]; rfl
  let i:Hp:=λa=>open Classical in if a∈C\/a∈As.flatMap Ent.F then none else H a
  have G:∀{a},(a∈C\/a∈As.flatMap Ent.F)->i a=none:=λz=>if_pos z
  have D:∀{a},¬ (a∈C\/a∈As.flatMap Ent.F)->i a=H a:=λz=>if_neg z
  have M:∀{E':List Ent} {n':Nat} {H':Hp},At K i (·=l) n' (E'++[⟨none,.grd H,C⟩]) H'->Z0 l (As.flatMap Ent.F) H H':=λ{E' n' H'} I b o nb nF e=>by
   by_cases hb:b∈C
   ·obtain ⟨o',g1,g2⟩:=I.ok _ (Ag _ Aa) b hb
    rw[e] at g1
    cases g1
    exact g2
   ·exact I.same b o nb (by rw[D (λz=>z.elim hb nF)]; exact e)
  have T:∀e∈Io (N.length - (U::ps).length),e=⟨none,.un,[]⟩:=λe he=>(Kr.mp he).2
  have h0:l∉As.flatMap Ent.F:=λz=>by
   obtain ⟨e,he,hz⟩:=Bv.mp z
   exact O e he hz
  refine ⟨_,hb B A outer s H E hr,i,(·=l),⟨some (.ref l),.drw,[l]⟩::(As++Io (N.length - (U::ps).length)),[⟨none,.grd H,C⟩],⟨.drw::uS L (N.length - (U::ps).length),n⟩,retWT n R,?_,?_,λe z=>?_,?_,hd,λJ S' H' e1 I p=>?_,λx J v F' S' H' e1 I p=>?_,λ_ _ _ _ _ p=>p.elim,λ_ _ _ _ _ p=>p.elim⟩
  ·unfold vs L2.start Io
   rw[Aw,Bc,eu,Of,Bg,Bg,show ws.length=ps.length by omega]
   rfl
  ·unfold Sl uS Io
   rw[Aw,Bc,q,Of]
  ·rw[Ab.mp z]; rfl
  ·have V:i l≠none:=by
    rw[D (λz=>z.elim hC h0)]
    obtain ⟨c,kk,fl,W,Y⟩:=y
    exact λz=>(by rw[show H l=some _ from W] at z; cases z)
   refine ⟨λe he=>?_,Ay.mpr ⟨λb hb'=>?_,Bi.mpr ⟨Bi.mpr ⟨Z,Ri λa ha b hb'=>?_,λa ha b hb'=>?_⟩,Cn _ _,λa ha b hb'=>?_⟩⟩,λe he a ha=>?_,λb o _ e=>?_,λb o e=>?_,λb hb=>?_⟩
   ·rcases Aj.mp he with rfl | he
    ·obtain ⟨c,kk,fl,W,Y,z3⟩:=y
     exact ⟨l,c,kk,fl,rfl,rfl,W,Y,z3⟩
    ·rcases Ai.mp he with he | he
     ·rcases Ai.mp he with he | he
      ·exact ok e he
      ·rw[T e he]; rfl
     ·rw[Ab.mp he]
      intro a ha
      have:=(hG a ha).1
      cases q:H a with
      | none=>exact absurd q this
      | some o=>exact ⟨o,by first | rfl | exact q,by first | rfl | exact q⟩
   ·rcases Ai.mp hb' with hb' | hb'
    ·rcases Ai.mp hb' with hb' | hb'
     ·refine ⟨λj c g=>?_,λj c g z=>?_⟩
      ·rw[Ab.mp g]; exact O b hb'
      ·rw[Ab.mp z,cl b hb'] at g
       exact O b hb' g
     ·rw[T b hb']
      exact ⟨λj c g z=>(nomatch z),λj c g=>(nomatch g)⟩
    ·rw[Ab.mp hb']
     refine ⟨λj c g=>?_,λj c g z=>?_⟩
     ·rw[Ab.mp g]; exact hC
     ·rw[Ab.mp z] at g; exact hC g
   ·rw[T a ha]
    exact ⟨λj c g=>(nomatch g),λj c g z=>(nomatch z)⟩
   ·rw[T b hb']
    exact ⟨λj c g z=>(nomatch z),λj c g=>(nomatch g)⟩
   ·rw[Ab.mp hb']
    rcases Ai.mp ha with ha | ha
    ·refine ⟨λj c g z=>?_,λj c g z=>?_⟩
     ·rw[cl a ha] at g
      exact (hG c z).2 a ha g
     ·exact (hG c g).2 a ha z
    ·rw[T a ha]
     exact ⟨λj c g=>(nomatch g),λj c g z=>(nomatch z)⟩
   ·rcases Aj.mp he with rfl | he
    ·rw[Ab.mp ha]
     exact .inr ⟨rfl,rfl⟩
    ·rcases Ai.mp he with he | he
     ·rcases Ai.mp he with he | he
      ·exact .inl (G (.inr (Bv.mpr ⟨e,he,Fv _ _ ha⟩)))
      ·rw[T e he] at ha
       exact nomatch ha
     ·rw[Ab.mp he] at ha
      exact .inl (G (.inl ha))
   ·by_cases hb:b∈C\/b∈As.flatMap Ent.F
    ·rw[G hb] at e; cases e
    ·rw[D hb] at e; exact e
   ·by_cases hb:b∈C\/b∈As.flatMap Ent.F
    ·rw[G hb] at e; cases e
    ·rw[D hb] at e; exact ⟨o,e⟩
   ·subst hb
    obtain ⟨c,kk,fl,W,Y⟩:=y
    exact ⟨V,c,kk,fl,W,Y⟩
  ·exact k1 .non .none [] J.n H' p.1 p.2 .non (λ_ z=>(nomatch z)) (M I) (I.xd l rfl).2
  ·obtain ⟨hn,m,d,rfl,hm,r⟩:=p
   obtain ⟨u,e2,rd,_⟩:=I.ok _ mem_mid
   cases e2
   have X:At K i (·=l) J.n ((S'++[⟨some v,.dat m d,F'⟩])++[⟨none,.grd H,C⟩]) H':=by rw[Bw]; exact I
   refine k1 v d F' J.n H' hn r rd (λa ha=>?_) (M X) (I.xd l rfl).2
   have Z:=(Bi.mp X.sep).2.2 _ (Ag _ Aa) _ Aa
   exact λz=>Z.2 (.inr rfl) a z ha
end
def X1(i:Nat)(b:DF)(xs:List DV)(δ:DS)(D:DEnds):Prop:=∃a,δ.sl[i]? = some .drw/\xs=a.map (λd=>.dat .ow d)/\npk δ.sl=true/\b a δ.n λd c=>Nq d=true/\D.rt (.dat .sh d) ⟨δ.sl,c⟩
def rT(i:Nat)(c:DF)(e:DA):DB:=λD b=>match b.sl[i]? with
 | some .drw=>e b λd a=>X1 i c d a D
 | _=>False
section
variable{X:Cx}{CX:vO}{k:Nat}{f:Addr}{t:Cu}{ps:List Str}{l:DF}{E:XK}{x:Str}{p pos c:Pos}{j:Expr}{es:List Expr}{m:DA}
theorem yT{i:Nat}(F:FnOk X.prog X.w X.K X.mg X.base CX k f t ps (w8 X.K l))(hr:Room k X.A)(hg:Gl X x)(hm:X.mg x=some (.ref f))(hk:PySem.W.keepIn X.K (.ref f)=true)(hb:Binds X.K t ps [])(hx:Qq CX X E)(h0:PE X j (Lj i))(ha:rK X es m)(k8:(x == ("__debug__" : Str))=false:=by decide)(B:Bl (j::es) X.env=(false,eval j X.env)::Bl es X.env:=by rfl)(h7:(Hf pos (Bl es X.env)).any (·.1)=false:=by rfl):gA X (.Return (some (.Call (.Name x p) (j::es) [] pos)) c) (rT i l m):=by
 refine PS.impD (Yq (Ww F hr hg hm hk hb .nil hx (Hq h0 ha B) k8 B h7)) λD σ H h=>?_
 obtain ⟨H0,Y,S,T,δ,P,rfl,hS,hT,hA,hd,k1,k2,k3,k4⟩:=h
 unfold rT at hd
 split at hd
 case h_2=>exact hd.elim
 rename_i h5
 have h4:∀w,(vs S)[i]? = some (some w)->LA X.K m (vs S) H λxs H2=>w8 X.K l ((w::xs)++[]) H2 (λv H'=>D.rt v H') E:=λw hw=>by
  refine ⟨H0,Y,S,T,δ,_,rfl,hS,hA,hd,λxs N J us C H' e1 e2 ex eu Z p=>?_⟩
  subst ex
  obtain ⟨ds,q6,q,np,p⟩:=p
  have ax:∀e∈J,∃d,e.x=.dat .ow d:=λe B=>by
   have : e.x∈J.map Ent.x:=Bs.mpr ⟨e,B,rfl⟩
   rw[q] at this
   obtain ⟨d,_,e1⟩:=Bs.mp this
   exact ⟨d,e1.symm⟩
  have h2:∀e∈J,Kz e.x=false:=λe B=>by
   obtain ⟨d,q⟩:=ax e B
   rw[q]; rfl
  obtain ⟨G,O,s2⟩:=Gk e2 q6
  have U:G∈C:=Ao O
  have hv:G.v=some w:=by
   have:=Jc O
   rw[e1,hw] at this
   exact (Bu this).symm
  obtain ⟨u,z,F⟩:=G
  have Q:z=.drw:=s2
  subst Q
  have hE:(⟨u,.drw,F⟩ : Ent)∈C++(J++T):=Af _ U
  obtain ⟨y,c0,k0,f0,M,h8,q3,q1,k5⟩:=Z.ok _ hE
  have ew:some w=some (V.ref y):=hv.symm.trans M
  cases ew
  have k7:F=[y]:=h8
  subst k7
  have pm:(C++(J++T)).Perm (⟨u,.drw,[y]⟩::(C.eraseIdx i++(J++T))):=((Gn O).append_right _)
  have hM:=Z.perm pm
  have h1:=Ay.mp hM.sep
  have q4:At X.K H0 Y N.n (C.eraseIdx i++T) H':=hM.sub (((Cs _).append (Ci J T)).cons _)
  have k6:(⟨u,.drw,[y]⟩::(C.eraseIdx i++(J++T)):List Ent).Perm (J++(⟨u,.drw,[y]⟩::(C.eraseIdx i++T))):=by
   refine (Kx _ ?_).trans List.perm_middle.symm
   rw[<- Bw,<- Bw]
   exact Fo.append_right T
  have hB:=hM.perm k6
  have q5:∀g∈(⟨u,.drw,[y]⟩ : Ent)::(C.eraseIdx i++T),Kz g.x=false:=λg hg=>by
   rcases Aj.mp hg with rfl | hg
   ·rfl
   ·rcases Ai.mp hg with hg | hg
    ·exact Tj e2 np g ((El C i).subset hg)
    ·exact hT g hg
  have q0:∀e∈J,y∉e.F:=λe B=>(h1.1 e (Ag _ (Af _ B))).1 (.inr rfl) y Aa
  rw[Et]
  refine ⟨y,us,J,N.n,ds,_,(C.eraseIdx i++T).flatMap cells,rfl,eu,λe B=>Z.ok e (Ag _ (Af _ B)),(Bi.mp hB.sep).1,q0,⟨c0,k0,f0,q3,q1,k5⟩,q,p,λz=>?_,λa ha=>?_,λv d F n' I hn r rd fr s h3=>?_⟩
  ·obtain ⟨g,hg1,L⟩:=Bv.mp z
   refine (h1.1 g ?_).1 (.inr rfl) y Aa (Fv _ _ L)
   rcases Ai.mp hg1 with h | h
   ·exact Af _ h
   ·exact Ag _ (Ag _ h)
  ·obtain ⟨g,hg1,L⟩:=Bv.mp ha
   refine ⟨λz=>?_,λe B=>?_⟩
   ·obtain ⟨o,q⟩:=(q4.ok g hg1).dom a (Fv _ _ L)
    rw[z] at q; cases q
   ·obtain ⟨_,q8,hp⟩ := Bi.mp h1.2
    rcases Ai.mp hg1 with hg1 | hg1
    ·exact (hp g hg1 e (Af _ B)).1 (.inl (h2 e B)) a L
    ·exact ((Bi.mp q8).2.2 e B g hg1).2 (.inl (h2 e B)) a L
  ·obtain ⟨c1,k1,f1,hD,_⟩:=id h3
   have nF:=RdF.nodr hD rd r.1
   have h9:At X.K H0 Y N.n (⟨u,.drw,[y]⟩::(C.eraseIdx i++T)) (λb=>open Classical in if b=y then H' b else I b):=hB.spoilL ax q5 λb o eb hz=>by
    show (if b=y then H' b else I b)=some o
    by_cases R:b=y
    ·rw[if_pos R]; exact eb
    ·rw[if_neg R]
     refine s b o R (λz=>?_) eb
     rcases hz with hz | hz
     ·exact hz z
     ·obtain ⟨g,hg,h6⟩:=Bv.mp z
      obtain ⟨dd,qq⟩:=ax g hg
      obtain ⟨gv,gx,gF⟩:=g
      have k9:gx=.dat .ow dd:=qq
      subst k9
      obtain ⟨_,_,rg,_⟩:=hB.ok _ (Af _ hg)
      exact RdF.nstb rg b h6 o eb hz
   have q7:=h9.drawn (H':=I) Aa rfl M (λb o nb e=>by
    have e':(if b=y then H' b else I b)=some o:=e
    rw[if_neg nb] at e'
    exact e') h3 hn
   have q2:At X.K H0 Y n' (C++T) I:=q7.perm (((Gn O).append_right T).symm)
   refine k2 _ ⟨N.sl,n'⟩ v F C I e2 ((q2.pushS rd λg hg a ha z=>?_).tomid) r.2
   have hg':g∈(⟨u,.drw,[y]⟩ : Ent)::(C.eraseIdx i++T):=((Gn O).append_right T).mem_iff.mp hg
   rcases Aj.mp hg' with rfl | hg'
   ·rw[Ab.mp (Fv _ _ ha)] at z
    exact nF z
   ·exact fr a z (Bv.mpr ⟨g,hg',ha⟩)
 obtain ⟨G,O,s2⟩:=Gk hS h5
 have U:G∈S:=Ao O
 obtain ⟨u,z,F⟩:=G
 have Q:z=.drw:=s2
 subst Q
 obtain ⟨y,c0,k0,f0,M,_⟩:=hA.ok _ (Af _ U)
 have hw:(vs S)[i]? = some (some (.ref y)):=(Jc O).trans (congrArg some M)
 exact ⟨_,hw,h4 _ hw⟩
end
end DL
namespace K15
open PySem L2 Nd DL
local macro_rules | `(tactic| array_get_dec) => do
  let ids:=(("e_lenSet e_lsB e_extend e_extB e_insertO e_insOB e_callWV e_callWVB e_seq e_skip e_ret e_if e_asg e_name e_name2 e_name3 e_name4 e_own e_own2 e_nT e_nF e_gtup e_gsn e_gsc e_op e_var e_c e_imm e_immB e_take e_frz e_frzo e_I e_I0 e_eqF e_eqT e_inFt_w1 e_inTt_w1 e_ixl e_cat e_catT e_catT_w1 e_nlT e_nlF e_ntT e_ntF e_pkOfsh e_pkOfow e_mdInpk e_mdInsh e_mdIntp e_mdInow e_mdNewsh e_mdItsh e_mdIttp e_mdItow e_nil e_cons e_tup e_lst e_noPart e_part e_partB e_sl e_slBl e_slBt e_cb e_lenl e_lent_w1 e_listt e_tuplel e_intb e_all e_sortT e_isi e_str e_v e_b e_bB e_notT e_andT e_orT e_orTt e_orTf e_not e_notB e_and e_neg e_negB e_dL e_dTp e_lB e_tpB e_tpB_w1 e_range1 e_rng1B e_zip e_zipB e_for e_comp e_compL e_stepL e_stepLT e_stepLF e_compD e_noTest e_step e_stepT e_yesB e_stepD e_stepDT e_yesBD e_call e_callW e_draws e_drawsB e_insert e_revL e_revT e_appendO e_scrSl e_sortW e_compDL e_stepDL e_stepDLT ow_npk retWT retA_sh retA_ow retA_tp isLst wordsD callB callBW tupB lstB datas pkMd allOw noPk appOB mmd insB revLB revTB own1 npk retE retL args0 frD frD1 alD List.map_cons List.map_nil List.replicate List.getElem?_cons_zero List.getElem?_cons_succ List.set_cons_zero List.set_cons_succ List.cons_append List.nil_append Option.map_some List.length_cons List.length_nil List.append_nil rdAdd rdSub rdMul rdDiv rdMod rdShl rdLt rdLe rdGt rdGe if_true if_false Bool.false_eq_true mdZip List.append_assoc Nat.reduceAdd Nat.reduceSub Nat.reduceLeDiff true_and im_e ima_e dp_e dpa_e any_int eqD_intd eqD_bl eqD_str eqD_l0 ow_e tt_e cdiv_e cpow_e cmul_l Int.reduceLT Int.reduceNeg and_self fold_w isi_li isi_tt isi_bb Bool.not_true Bool.not_false decide_true String.reduceEq or_true true_or List.isEmpty_nil ifB_lt ifB_lf str_self decide_false Int.reduceEq dec_self isE_cons yesL_ow yesL_sh catL_shsh catL_shtp catL_tpow catL_tptp" : String).splitOn " ").toArray.map λ(x:String)=>Lean.mkIdent x.toName
  `(tactic| try simp only [$[↓$ids:ident],*])
def oZ:Ad->Bool
 | .int _=>false
 | _=>true
def Ti(x:Ad):Prop:=x.depth<=10/\Ir 12 x/\Fe x<=12/\Nq x=true
def St(x:Ad):Prop:=x.depth<=20/\Ir 12 x/\Nq x=true/\oZ x=true
def fU(a b:Nat)(xs:List Ad):Prop:=(∀x∈xs,St x)/\(xs.map Rh).sum<=a/\(xs.map Fe).sum<=b
def J4(T:Ad):Prop:=T.depth<=40/\Ir 12 T/\Fe T<=25000/\Nq T=true/\cZ T<=1000
theorem Xf:∀xs:List Ad,Gs xs=(xs.map Fe).sum
 | []=>rfl
 | x::xs=>by rw[Gs,Aw,Mq,Xf xs]
theorem Va{xs:List Ad}(h:∀x∈xs,Nq x=true):Ud xs=true:=by
 have:=iQ (g:=λx=>x) h
 rwa [Iq] at this
theorem pU{xs:List Ad}(h:∀x r,xs=x::r->oZ x=true):qO xs=false:=by
 unfold qO
 split
 ·cases h _ _ rfl
 ·rfl
theorem BS{xs:List Ad}(h:∀(b:Bool),PyData.bool b∉xs):qO xs=false:=by
 unfold qO
 split
 ·rename_i b
  exact absurd (by simp) (h b)
 ·rfl
theorem L5{xs:List Ad}{k:Nat}{y:Ad}(h:∀x∈xs,oZ x=true):qO (xs.set k y)=false:=by
 cases e:qO (xs.set k y) with
 | false=>rfl
 | true =>
  unfold qO at e
  split at e
  ·rename_i a b c q
   by_cases z:k=0
   ·have:=congrArg (λl=>l[1]?) q
    simp only[Ey,z] at this
    simp at this
    have:=h _ (Ao this)
    cases this
   ·have:=congrArg (λl=>l[0]?) q
    simp only[Ey,z] at this
    simp at this
    have:=h _ (Ao this)
    cases this
  ·cases e
theorem fU.app{a b c d:Nat}{xs ys:List Ad}(h:fU a b xs)(k:fU c d ys):fU (a+c) (b+d) (xs++ys):=by
 refine ⟨λx e=>(Ai.mp e).elim (h.1 x) (k.1 x),?_,?_⟩
 ·rw[Bc,Px]; have:=h.2.1; have:=k.2.1; omega
 ·rw[Bc,Px]; have:=h.2.2; have:=k.2.2; omega
theorem fU.one{a b:Nat}{x:Ad}(h:St x)(k:Rh x<=a)(l:Fe x<=b):fU a b [x]:=⟨λy c=>Ab.mp c▸h,by simpa using k,by simpa using l⟩
theorem bF{f:Ad->Nat}{xs ys:List Ad}(h:xs.Sublist ys):(xs.map f).sum<=(ys.map f).sum:=by
 induction h with
 | slnil=>exact Ak _
 | cons a _ b=>rw[Aw,Mq]; omega
 | cons_cons a _ b=>rw[Aw,Aw,Mq,Mq]; omega
theorem fU.sub{a b:Nat}{xs ys:List Ad}(h:fU a b ys)(k:xs.Sublist ys):fU a b xs:=⟨λx c=>h.1 x (k.subset c),Br (bF k) h.2.1,Br (bF k) h.2.2⟩
theorem fU.le{a b c d:Nat}{xs:List Ad}(h:fU a b xs)(k:a<=c)(l:b<=d):fU c d xs:=⟨h.1,Br h.2.1 k,Br h.2.2 l⟩
theorem kF{f:Ad->Nat}:∀{xs:List Ad} {j:Nat} {y:Ad},((xs.set j y).map f).sum<=(xs.map f).sum+f y
 | [],_,_=>by simp
 | x::xs,0,y=>by simp; omega
 | x::xs,j+1,y=>by
  have:=kF (f:=f) (xs:=xs) (j:=j) (y:=y)
  simp only[Qv,Aw,Mq]
  omega
theorem fU.set{a b c d j:Nat}{xs:List Ad}{y:Ad}(h:fU a b xs)(k:St y)(l:Rh y<=c)(m:Fe y<=d):fU (a+c) (b+d) (xs.set j y):=by
 refine ⟨λx e=>?_,?_,?_⟩
 ·rcases Rr e with z | z
  ·exact h.1 x z
  ·exact z▸k
 ·have:=kF (f:=Rh) (xs:=xs) (j:=j) (y:=y); have:=h.2.1; omega
 ·have:=kF (f:=Fe) (xs:=xs) (j:=j) (y:=y); have:=h.2.2; omega
theorem i5{xs:List Ad}(h:∀x∈xs,x.depth<=20/\Ir 12 x/\Nq x=true)(a:(xs.map Rh).sum<=1000)(b:(xs.map Fe).sum<=24000)(c:qO xs=false):J4 (.list xs):=by
 have e:=Ry (k:=20) (xs:=xs) λx d=>(h x d).1
 refine ⟨by simp only[Bm]; omega,by rw[Ir]; exact nC.mpr λx d=>(h x d).2.1,by rw[Fe,Xf]; omega,?_,a⟩
 rw[Nq,c,Va λx d=>(h x d).2.2]
 rfl
theorem Ls{a b:Nat}{xs:List Ad}(h:fU a b xs)(k:a<=1000)(l:b<=24000):J4 (.list xs) :=
 i5 (λx c=>⟨(h.1 x c).1,(h.1 x c).2.1,(h.1 x c).2.2.1⟩) (Br h.2.1 k) (Br h.2.2 l) (pU λx r e=>(h.1 x (by rw[e]; exact Aa)).2.2.2)
theorem R0{a b:Nat}{xs:List Ad}{y:Ad}(h:fU a b xs)(f:xs≠[])(d:y.depth<=20/\Ir 12 y/\Nq y=true)(k:a+Rh y<=1000)(l:b+Fe y<=24000):J4 (.list (xs++[y])):=by
 refine i5 (λx c=>?_) ?_ ?_ (pU λx r e=>?_)
 ·rcases Ai.mp c with z | z
  ·exact ⟨(h.1 x z).1,(h.1 x z).2.1,(h.1 x z).2.2.1⟩
  ·rw[Ab.mp z]; exact d
 ·rw[Bc,Px]; have:=h.2.1; simp; omega
 ·rw[Bc,Px]; have:=h.2.2; simp; omega
 ·cases xs with
  | nil=>exact absurd rfl f
  | cons a xs =>
   rw[Eu] at e
   injection e with e _
   rw[<- e]
   exact (h.1 a Aa).2.2.2
theorem fB{ys:List Ad}(h:∀y∈ys,Ti y)(k:qO ys=false):St (.list ys):=by
 have b:=Ry (k:=10) (xs:=ys) λx a=>(h x a).1
 refine ⟨by simp only[Bm]; omega,by rw[Ir]; exact nC.mpr λx a=>(h x a).2.1,?_,rfl⟩
 rw[Nq,k,Va λx a=>(h x a).2.2.2]
 rfl
theorem CL{ys:List Ad}(h:∀y∈ys,Ti y):St (.tuple ys):=by
 have b:=Ry (k:=10) (xs:=ys) λx a=>(h x a).1
 refine ⟨by simp only[Bm]; omega,by rw[Ir]; exact nC.mpr λx a=>(h x a).2.1,?_,rfl⟩
 rw[Nq]
 exact Va λx a=>(h x a).2.2.2
theorem nZ{ys:List Ad}(h:∀y∈ys,Ti y):Gs ys<=12 * ys.length:=Zy λy a=>(h y a).2.2.1
theorem bN{ys:List Ad}(h:∀y∈ys,Ti y):Fe (.list ys)<=12 * ys.length+1:=by rw[Fe]; have:=nZ h; omega
theorem AB{ys:List Ad}(h:∀y∈ys,Ti y):Fe (.tuple ys)<=12 * ys.length+1:=by rw[Fe]; have:=nZ h; omega
def WB(w:List Int):Prop:=w.length<=7/\∀p∈w,0<=p/\p<7
theorem We{l:List Int}(h:∀p∈l,p.natAbs<1000)(k:l.length<=10):Ti (.tuple (l.map Be))/\Ti (.list (l.map Be)):=by
 have j:Kc 12 (l.map Be):=nC.mpr λx a=>by
  obtain ⟨i,d,rfl⟩:=Bs.mp a
  have:=h i d
  rw[Ir]; omega
 have g:=dW (ns:=l)
 have m:=Ry (k:=0) (xs:=l.map Be) λx a=>by
  obtain ⟨i,d,rfl⟩:=Bs.mp a
  simp [Bm]
 have f:Ud (l.map Be)=true:=iQ λi _=>rfl
 have c:qO (l.map Be)=false:=BS λb c=>by
  obtain ⟨i,d,e⟩:=Bs.mp c
  cases e
 exact ⟨⟨by simp only[Bm]; omega,by rw[Ir]; exact j,by rw[Fe,g]; omega,by simp only[Nq]; exact f⟩,⟨by simp only[Bm]; omega,by rw[Ir]; exact j,by rw[Fe,g]; omega,by simp only[Nq]; rw[f,c]; rfl⟩⟩
theorem WB.ti{w:List Int}(h:WB w):Ti (Bk w):=(We (λp a=>by have:=h.2 p a; omega) (by have:=h.1; omega)).1
theorem V4{w:List Int}(h:WB w):Ti (.tuple [Bk w])/\Ti (.list [Bk w]):=by
 have b:=dW (ns:=w)
 have e:=h.1
 have f:Bd (w.map Be)<=0:=Ry (k:=0) (xs:=w.map Be) λx c=>by
  obtain ⟨i,j,rfl⟩:=Bs.mp c
  simp [Bm]
 have a:=h.ti
 have d:Bm (Bk w)<=1:=by unfold Bk; simp only[Bm]; omega
 have g:Fe (Bk w)<=8:=by unfold Bk; rw[Fe,b]; omega
 refine ⟨⟨?_,?_,?_,?_⟩,⟨?_,?_,?_,?_⟩⟩
 ·simp only[Bm,Bd]; omega
 ·rw[Ir]; exact ⟨a.2.1,trivial⟩
 ·simp only[Fe,Gs]; omega
 ·simp only[Nq,Ud]; rw[a.2.2.2]; rfl
 ·simp only[Bm,Bd]; omega
 ·rw[Ir]; exact ⟨a.2.1,trivial⟩
 ·simp only[Fe,Gs]; omega
 ·simp only[Nq,Ud]; rw[a.2.2.2]; rfl
def CB(C:List (List (List Int))):Prop:=C≠[]/\(∀c∈C,c≠[]/\∀w∈c,WB w)/\C.flatten.length<=128/\C.length<=256
theorem HE{c:List (List Int)}(h:∀w∈c,WB w):∀y∈c.map Bk,Ti y:=λy a=>by
 obtain ⟨w,b,rfl⟩:=Bs.mp a
 exact (h w b).ti
theorem X9{c:List (List Int)}:∀y∈c.map Bk,oZ y=true:=λy a=>by
 obtain ⟨w,b,rfl⟩:=Bs.mp a
 rfl
theorem B3{xs:List Ad}(h:∀x∈xs,oZ x=true):qO xs=false:=pU λx r e=>h x (by rw[e]; exact Aa)
theorem cK:∀{C:List (List (List Int))},(∀c∈C,∀w∈c,WB w)->fU C.flatten.length (12 * C.flatten.length+C.length) (C.map Da)
 | [],_=>⟨(λx z=>nomatch z),by simp,by simp⟩
 | c::C,h=>by
  have e:=cK (C:=C) λd b=>h d (Ae _ b)
  have a:=HE (h c Aa)
  have f:fU c.length (12 * c.length+1) [Da c]:=fU.one (fB a (B3 X9)) (by show (c.map Bk).length<=_; rw[Ac]; exact Ak _) (by have:=bN a; rw[Ac] at this; exact this)
  exact (f.app e).le (by simp) (by simp; omega)
theorem CB.okl{C:List (List (List Int))}(h:CB C):fU 128 1800 (C.map Da):=(cK λc a=>(h.2.1 c a).2).le h.2.2.1 (by have:=h.2.2.1; have:=h.2.2.2; omega)
theorem P4{C:List (List (List Int))}{c:List (List Int)}(h:c∈C):c.length<=(C.map Ek).sum:=by
 induction C with
 | nil=>cases h
 | cons d C a =>
  rw[Aw,Mq]
  rcases Aj.mp h with rfl | h
  ·omega
  ·have:=a h; omega
theorem CB.len{C:List (List (List Int))}(h:CB C){c:List (List Int)}(a:c∈C):0<c.length/\c.length<=128:=by
 refine ⟨Ka.mpr (h.2.1 c a).1,Br ?_ h.2.2.1⟩
 rw[Qb]
 exact P4 a
theorem BR(c:List (List Int)):Cv (c.map Bk)=true:=Sj (λw=>Pn w) c
def oJ(ys:List Ad):Prop:=∀y∈ys,Ti y/\oZ y=true/\imm y=true
theorem cP{c:List (List Int)}(h:∀w∈c,WB w):oJ (c.map Bk):=λy a=>by
 obtain ⟨w,b,rfl⟩:=Bs.mp a
 exact ⟨(h w b).ti,rfl,Pn w⟩
theorem oJ.sub{xs ys:List Ad}(h:oJ ys)(k:xs.Sublist ys):oJ xs:=λy a=>h y (k.subset a)
theorem oJ.app{xs ys:List Ad}(h:oJ xs)(k:oJ ys):oJ (xs++ys):=λy a=>(Ai.mp a).elim (h y) (k y)
theorem oJ.set{xs:List Ad}{k:Nat}{y:Ad}(h:oJ xs)(b:Ti y/\oZ y=true/\imm y=true):oJ (xs.set k y):=λx a=>by
 rcases Rr a with z | z
 ·exact h x z
 ·exact z▸b
theorem oJ.imm{ys:List Ad}(h:oJ ys):Cv ys=true:=rS.mpr λx a=>(h x a).2.2
theorem oJ.drl{ys:List Ad}(h:oJ ys):qO ys=false:=B3 λx a=>(h x a).2.1
theorem oJ.st{ys:List Ad}(h:oJ ys):St (.list ys):=fB (λy a=>(h y a).1) h.drl
theorem zD{w:List Int}(h:WB w):oJ [Bk w]:=λy a=>by
 rw[Ab.mp a]
 exact ⟨h.ti,rfl,Pn w⟩
theorem fU.put{a b j:Nat}{L ys:List Ad}(h:fU a b L)(k:∀y∈ys,Ti y)(d:qO ys=false)(l:ys.length<=260):fU (a+260) (b+3200) (L.set j (.list ys)) :=
 h.set (fB k d) l (by have:=bN k; omega)
theorem fU.putW{a b j:Nat}{L ys:List Ad}(h:fU a b L)(k:oJ ys)(l:ys.length<=260):fU (a+260) (b+3200) (L.set j (.list ys)):=h.put (λy c=>(k y c).1) k.drl l
theorem mI{ys:List Ad}(k:oJ ys)(l:ys.length<=260):fU 260 3200 [.list ys]:=fU.one k.st l (by have:=bN (λy a=>(k y a).1); omega)
theorem O6{xs:List Ad}(h:oJ xs)(l:0<xs.length):∃y,aQ xs (-1)=some y/\Ti y/\oZ y=true/\imm y=true:=by
 obtain ⟨y,a,e,_⟩:=pJ (l:=xs) (λz=>by rw[z] at l; cases l)
 exact ⟨y,e,h y a⟩
theorem BE{xs:List Ad}(h:∀x∈xs,∃p:Int,x=.int p/\p.natAbs<1000)(k:xs.length<=10):Ti (.tuple xs):=by
 have : ∃l:List Int,xs=l.map Be/\∀p∈l,p.natAbs<1000:=by
  clear k
  induction xs with
  | nil=>exact ⟨[],rfl,λp z=>nomatch z⟩
  | cons x xs d =>
   obtain ⟨l,rfl,a⟩:=d λy b=>h y (Ae _ b)
   obtain ⟨p,rfl,c⟩:=h _ Aa
   exact ⟨p::l,rfl,λq e=>(Aj.mp e).elim (λz=>z▸c) (a q)⟩
 obtain ⟨l,rfl,a⟩:=this
 exact (We a (by rwa [Ac] at k)).1
def tZ:DF:=λc n R=>∃(h:Int) (C:List (List (List Int))) (a o:Nat),c=[.int h,.list (C.map Da),.int a,.int o]/\1<=h/\h<=7/\CB C/\a<C.length/\o<C.length/\n<=70000/\∀(T:Ad) b,J4 T->n<=b->b<=n+10->R T b
section
variable{P:Bz}{w:World}{K:PySem.W.Frag}{mg:Str->Option Value}{base:Heap}
theorem Xw:FnScope ["_law_draws_here", "_law_holes", "_law_told", "_law_at", "_law_other", "_law_way", "_law_spot", "_law_word", "_law_new"] ["_law_draws_here", "_law_holes", "_law_told", "_law_at", "_law_other"] (Cg Nt):=⟨rfl,rfl,rfl,by decide +kernel,rfl,by decide +kernel,by decide +kernel⟩
theorem Wz{f g  : Addr}{fd t:Cu}(F:Fun K "_law_bent_word" "_law_bent_word" Nt f fd)(j:FnOk P w K mg base Ko 1 g t ["_law_draws_here"] (R9 K Wg))(r:Binds K t ["_law_draws_here"] [])(m:PySem.W.keepIn K (.ref g)=true)(e:mg "_law_next" = some (.ref g))(O:mg "len" = none)(M:mg "list" = none):FnOk P w K mg base Ko 2 f fd ["_law_draws_here", "_law_holes", "_law_told", "_law_at", "_law_other"] (w8 K (tZ)):=by
 refine' zK (k:=1) F Xw (λh9 A h6 s H E hr=>?hb) ?h
 case hb =>
  have Q:Room 1 _:=hr.mono (by decide)
  have D:=hr.units
  exact Cf (Hr (i:=5) Xw.nd rfl (Dw rfl) (Mf (Kk j Q rfl e m r Ji (pv 0) Bh) Cy))
   (Cf (Hr (i:=6) Xw.nd rfl (Dw rfl) (Mf (Kk j Q rfl e m r Ji (pv 0) Bh) (Ej Js Nv rfl O (by decide +kernel) (Ar (Jr (Ax (pv 2)) (Ax (pv 3))) Bh))))
   (Cf (Hr (i:=7) Xw.nd rfl (Dw rfl) (Mv (Jr (Jr (Ax (pv 2)) (Ax (pv 3))) (Ax (pv 6)))))
   (Cf (Hr (i:=8) Xw.nd rfl (Dw rfl) (Ft (Ar kN (Ar Cy (Ar CY (Ar Lm (Ar (Ml uQ (O4 (i:=true)) rfl M (by decide +kernel) (Ar (Ax (pv 7)) Bh)) (Ar (Qo (Ar (Mv (Ax (pv 7))) Bh)) (Ar (Qo (Ar (Mv (Ax (pv 1))) Bh)) (Ar (Qo (Ar (Tr Cy) Bh)) (Ar (Qo (Ar Lm Bh)) (Ar (K9 (Ax (pv 7)) (vL jT Hi) (λ_ _ _ h=>⟨_,rfl,h⟩)) (Ar (vM (Ax (pv 7)) (Jd (i:=true) (Ax (pv 7)) (Hy (Tr Cy)) Jb)) (Ar (Ft (Ar (Mv (Ax (pv 7))) Bh)) (Ar (Qo Bh) Bh)))))))))))))))
   (Cf (Ik (J1 (Ax (pv 5)) Cy)
   (Df (sW (pv 2) (pv 3) (pv 6))) Gp)
   (Cf (Ik (Oo D (Ax (pv 5)) Cy)
   (Df (O9 (pv 2) (pv 4) (pv 7))) Gp)
   (Cf (Ik (Oo D (Ax (pv 5)) Cy)
   (Df (zE rfl (pv 2) (pv 3) (pv 6) (pv 2) (pv 4) (vL jT Hi) (λ_ _ _ k=>⟨_,rfl,k⟩) (Qo (Ar (Mv (Jr (Jr (Ax (pv 2)) (Ax (pv 4))) (Tr Cy))) (Ar (Mv (Jr (Jr (Ax (pv 2)) (Ax (pv 3))) (Ax (pv 6)))) Bh))))) Gp)
   (Cf (Ik (Oo D (Ax (pv 5)) Cy)
   (Df (N0 (pv 2) (pv 3) (pv 6) (Jr (Ax (pv 8)) (Mf (Kk j Q rfl e m r Ji (pv 0) Bh) Cy)))) Gp)
   (Cf (Ik (Oo D (Ax (pv 5)) Cy)
   (Df (Sa (i:=2) Xw.nd rfl (Dw rfl) (Uq (Uq (Jd (i:=false) (Vb (pv 2)) Jb (Hy (Ax (pv 3)))) (Ft (Ar (Jd (i:=true) (Jr (Ax (pv 2)) (Ax (pv 3))) Jb (Hy (Ax (pv 6)))) (Ar (Jd (i:=true) (Jr (Ax (pv 2)) (Ax (pv 3))) (Hy (Ax (pv 6))) Jb) Bh)))) (Jd (i:=false) (Ax (pv 2)) (Hy (Tv (Ax (pv 3)) Cy)) Jb)))) Gp)
   (Cf (Ik (Oo D (Ax (pv 5)) Cy)
   (Cf (sW (pv 2) (pv 3) (pv 6))
    (Df (Sf (pv 2) (Ft (Ar (Mv (Ax (pv 7))) Bh))))) Gp)
   (Df (He (Xd (pv 2)))))))))))))
 case h =>
  (intro ds n R q_; obtain ⟨h,C,a,o,rfl,h1,h7,S,ha,ho,hn,T⟩ := q_)
  refine ⟨rfl,?_⟩
  unfold uS
  array_get_dec
  refine ⟨rfl,by omega,λr0=>?_⟩
  have b0:=Om r0 (b:=7) (by omega)
  array_get_dec
  generalize r0 % 7=Ln at b0
  refine ⟨rfl,by omega,λr1=>?_⟩
  array_get_dec
  have G:(C.map Da)[a]? = some (Da C[a]):=by rw[Bo,Ba ha]; rfl
  have V:(C.map Da)[o]? = some (Da C[o]):=by rw[Bo,Ba ho]; rfl
  have mc:=Ec ha
  have md:=Ec ho
  generalize C[a]=c at G mc
  generalize C[o]=d at V md
  obtain ⟨c0,c1⟩:=S.len mc
  obtain ⟨d0,d1⟩:=S.len md
  have Z:=(S.2.1 c mc).2
  have h5:=(S.2.1 d md).2
  have v:=S.okl
  have eL:(C.map Da).length=C.length:=Ac _
  generalize C.map Da=L at G V v eL ⊢
  have I:=cP Z
  have wd:=cP h5
  have lc:(c.map Bk).length=c.length:=Ac _
  have ld:(d.map Bk).length=d.length:=Ac _
  refine ⟨_,Hb G,?_⟩
  unfold Da at G V ⊢
  array_get_dec
  rw[lc]
  have b1:=Om r1 (b:=(c.length:Int)) (by omega)
  generalize r1 % (c.length:Int)=B at b1
  obtain ⟨B,rfl⟩:=Gy b1.1
  have hs:B<c.length:=by omega
  refine ⟨by omega,_,Hb G,?_⟩
  have es:(c.map Bk)[B]? = some (Bk c[B]):=by rw[Bo,Ba hs]; rfl
  have U:=Z _ (Ec hs)
  generalize c[B]=w at es U
  array_get_dec
  refine ⟨_,Hb es,?_⟩
  unfold Bk
  array_get_dec
  have cl:=(Lv (w.map Be) (some (-1)) none).length_le
  have wl:=U.1
  rw[Ac] at cl ⊢
  refine ⟨by omega,?_⟩
  have ww:=zD U
  have tN:∀x∈[PyData.none,.int 0,.str (Lz ""),.bool true,.list (w.map .int),.tuple [Bk w],.tuple [.int h],.tuple [.int (-1)],.tuple [.bool true],.tuple (w.map Be).reverse,.tuple (w.map Be++Jv (w.map Be) (some (-1)) none),.list [Bk w],.tuple []],Ti x:=by
   have hb:∀p∈w,p.natAbs<1000:=λp J=>by have:=U.2 p J; omega
   intro x X
   simp only[Aj,Bt,or_false] at X
   rcases X with rfl | rfl | rfl | rfl | rfl | rfl | rfl | rfl | rfl | rfl | rfl | rfl | rfl
   ·exact ⟨by simp [Bm],by simp [Ir],by simp [Fe],rfl⟩
   ·exact ⟨by simp [Bm],by simp [Ir],by simp [Fe],rfl⟩
   ·exact ⟨by simp [Bm],by rw[Ir]; decide +kernel,by simp [Fe],rfl⟩
   ·exact ⟨by simp [Bm],by simp [Ir],by simp [Fe],rfl⟩
   ·exact (We hb (by omega)).2
   ·exact (V4 U).1
   ·exact (We (l:=[h]) (λp J=>by rw[Ab.mp J]; omega) (by simp)).1
   ·exact (We (l:=[-1]) (λp J=>by rw[Ab.mp J]; omega) (by simp)).1
   ·exact ⟨by simp [Bm,Bd],by simp [Ir,Kc],by simp [Fe,Gs],rfl⟩
   ·have:=(We (l:=w.reverse) (λp J=>hb p (Ke.mp J)) (by rw[En]; omega)).1
    rw[List.map_reverse] at this
    exact this
   ·have hi:∀x∈w.map Be,∃p:Int,x=.int p/\p.natAbs<1000:=λx X=>by
     obtain ⟨p,J,rfl⟩:=Bs.mp X
     exact ⟨p,rfl,hb p J⟩
    have sb:=Lv (w.map Be) (some (-1)) none
    refine BE (λx X=>(Ai.mp X).elim (hi x) λz=>hi x (sb.subset z)) ?_
    rw[Az,Ac]
    have : (Jv (w.map Be) (some (-1)) none).length<=1:=by
     unfold Jv HT.sIx
     rw[Ac]
     cases w with
     | nil=>simp
     | cons a w=>simp; omega
    omega
   ·exact (V4 U).2
   ·exact (We (l:=[]) (λp J=>nomatch J) (by simp)).1
  rcases (show Ln=0\/Ln=1\/Ln=2\/Ln=3\/Ln=4\/Ln=5\/Ln=6 by omega) with rfl | rfl | rfl | rfl | rfl | rfl | rfl
  ·array_get_dec
   unfold vH
   array_get_dec
   exact ⟨L,_,_,_,a,B,rfl,rfl,rfl,G,I.imm,by omega,by omega,by omega,T _ _ (Ls (v.putW (I.sub (El _ _)) (by have:=Nk (c.map Bk) B; omega)) (by omega) (by omega)) (by omega) (by omega)⟩
  ·array_get_dec
   unfold vH
   array_get_dec
   exact ⟨L,_,_,_,a,B,rfl,rfl,rfl,G,I.imm,by omega,by omega,by omega,T _ _ (Ls (v.putW (I.sub (El _ _)) (by have:=Nk (c.map Bk) B; omega)) (by omega) (by omega)) (by omega) (by omega)⟩
  ·array_get_dec
   unfold Z2
   array_get_dec
   exact ⟨L,_,_,_,o,_,rfl,rfl,rfl,Pn w,V,wd.imm,by omega,by omega,T _ _ (Ls (v.putW (wd.app ww) (by rw[Az]; simp; omega)) (by omega) (by omega)) (by omega) (by omega)⟩
  ·array_get_dec
   unfold zA
   array_get_dec
   obtain ⟨u,eu,tu⟩:=O6 wd (by omega)
   refine ⟨_,Hb V,?_⟩
   array_get_dec
   refine ⟨_,eu,?_⟩
   array_get_dec
   refine ⟨tu.2.2,_,Hb G,?_⟩
   array_get_dec
   refine ⟨_,Hb es,?_⟩
   array_get_dec
   have h2:oJ ((c.map Bk).set B u):=I.set tu
   have k0:((c.map Bk).set B u).length=c.length:=by rw[Ge,lc]
   obtain ⟨Y,h4,h0,h3,h8⟩ : ∃Y,(L.set a (.list ((c.map Bk).set B u)))[o]? = some (.list Y)/\oJ Y/\0<Y.length/\Y.length<=128:=by
    rw[Ey]
    by_cases z:a=o
    ·rw[if_pos z,if_pos (by omega)]
     exact ⟨_,rfl,h2,by omega,by omega⟩
    ·rw[if_neg z]
     exact ⟨_,V,wd,by omega,by omega⟩
   exact ⟨L,c.map Bk,Y,.ow,.sh,.ow,.ow,a,o,B,u,Bk w,rfl,tu.2.2,Pn w,nofun,rfl,rfl,rfl,rfl,by decide,by decide,by decide,G,I.imm,by omega,h4,h0.imm,h3,by omega,T _ _ (Ls ((v.putW h2 (by omega)).putW (h0.set ⟨U.ti,rfl,Pn w⟩) (by rw[Ge]; omega)) (by omega) (by omega)) (by omega) (by omega)⟩
  ·array_get_dec
   unfold W0
   array_get_dec
   refine ⟨rfl,by omega,λr2=>?_⟩
   array_get_dec
   have b2:=Om r2 (b:=13) (by omega)
   generalize r2 % 13=q at b2
   obtain ⟨q,rfl⟩:=Gy b2.1
   generalize eN:[PyData.none,.int 0,.str (Lz ""),.bool true,.list (w.map .int),.tuple [Bk w],.tuple [.int h],.tuple [.int (-1)],.tuple [.bool true],.tuple (w.map Be).reverse,.tuple (w.map Be++Jv (w.map Be) (some (-1)) none),.list [Bk w],.tuple []]=N at tN ⊢
   have lN:N.length=13:=by rw[<- eN]; rfl
   have qN:q<N.length:=by omega
   have eq:=Ba qN
   have tq:=tN _ (Ec qN)
   generalize N[q]=x at eq tq
   refine ⟨_,Hb eq,?_⟩
   array_get_dec
   exact ⟨L,c.map Bk,_,_,_,a,B,x,rfl,nofun,rfl,rfl,rfl,G,I.imm,by omega,by omega,T _ _ (Ls (v.put (ys:=(c.map Bk).set B x) (λy hy=>(Rr hy).elim (λz=>(I y z).1) λz=>z▸tq) (L5 X9) (by rw[Ge]; omega)) (by omega) (by omega)) (by omega) (by omega)⟩
  ·array_get_dec
   refine ⟨_,Hb G,?_⟩
   array_get_dec
   refine ⟨_,Hb G,?_⟩
   array_get_dec
   have s1:=Lv L none (some (a:Int))
   have s2:=Lv L (some ((a:Int)+1)) none
   have s3:=Lv (c.map Bk) none (some (B:Int))
   have s4:=Lv (c.map Bk) (some (B:Int)) none
   have q1:=s1.length_le
   have q2:=s2.length_le
   have q3:=s3.length_le
   have q4:=s4.length_le
   have lC:=S.2.2.2
   exact ⟨by omega,by rw[Az]; simp; omega,by omega,T _ _ (Ls ((v.sub s1).app ((mI (I.sub s3) (by omega)).app ((mI (I.sub s4) (by omega)).app (v.sub s2)))) (by omega) (by omega)) (by omega) (by omega)⟩
  ·array_get_dec
   unfold vH
   array_get_dec
   refine ⟨L,_,_,_,a,B,rfl,rfl,rfl,G,I.imm,by omega,by omega,?_⟩
   array_get_dec
   exact ⟨by rw[Ge]; have:=S.2.2.2; omega,by omega,T _ _ (Ls ((v.putW (I.sub (El _ _)) (by have:=Nk (c.map Bk) B; omega)).app (mI ww (by simp))) (by omega) (by omega)) (by omega) (by omega)⟩
end
theorem gT{h:Nat}{w:List Int}(r:Eg h w):w.length<=h:=by
 have:=NdS.len_leI (l2:=(Ck h).map λi:Nat=>(i:Int)) (r.1.imp λ{x y} h=>Int.ne_of_lt h) λe a=>Bs.mpr ⟨e.toNat,Hj.mpr (by have:=r.2 e a; omega),by have:=r.2 e a; omega⟩
 rwa [Ac,Ex] at this
theorem bY:∀{A:List (List Int)},(∀w∈A,WB w)->fU A.length (20 * A.length) (A.map λw=>.list [Bk w])
 | [],_=>⟨(λx z=>nomatch z),by simp,by simp⟩
 | w::A,h=>by
  have e:=bY (A:=A) λd f=>h d (Ae _ f)
  have a:=zD (h w Aa)
  have c:fU 1 20 [.list [Bk w]]:=fU.one a.st (by simp [Rh]) (by have:=bN (λy b=>(a y b).1); simp at this; omega)
  exact (c.app e).le (by simp; omega) (by simp; omega)
theorem So{x:Ad}(a:x.depth<=20)(b:Ir 12 x)(c:Fe x<=20000)(d:Nq x=true)(e:cZ x<=1000):J4 x:=⟨by omega,b,by omega,d,e⟩
def z0:DF:=λb n R=>∃(h:Int) (C:List (List (List Int))),b=[.int h,.list (C.map Da)]/\1<=h/\h<=7/\CB C/\n<=60000/\∀(T:Ad) a,J4 T->n<=a->a<=n+20->R T a
section
variable{P:Bz}{w:World}{K:PySem.W.Frag}{mg:Str->Option Value}{base:Heap}
theorem jQ:FnScope ["_law_draws_here", "_law_holes", "_law_made_here", "_law_told", "_law_at", "_law_other", "_law_way", "_law_every"] ["_law_draws_here", "_law_holes", "_law_made_here"] (Cg Mi):=⟨rfl,rfl,rfl,by decide +kernel,rfl,by decide +kernel,by decide +kernel⟩
theorem jU{f G O j  : Addr}{fd V Y D:Cu}(F:Fun K "_law_bent" "_law_bent" Mi f fd)(u:FnOk P w K mg base Ko 1 G V ["_law_draws_here"] (R9 K Wg))(B:Binds K V ["_law_draws_here"] [])(v:PySem.W.keepIn K (.ref G)=true)(t:mg "_law_next" = some (.ref G))(h6:FnOk P w K mg base Ko 1 O Y ["_law_holes"] (Zv K bK))(h5:Binds K Y ["_law_holes"] [])(h8:PySem.W.keepIn K (.ref O)=true)(h9:mg "_law_all" = some (.ref O))(S:FnOk P w K mg base Ko 2 j D ["_law_draws_here", "_law_holes", "_law_told", "_law_at", "_law_other"] (w8 K (tZ)))(Q:Binds K D ["_law_draws_here", "_law_holes", "_law_told", "_law_at", "_law_other"] [])(M:PySem.W.keepIn K (.ref j)=true)(U:mg "_law_bent_word" = some (.ref j))(k0:mg "list" = none)(h3:mg "len" = none)(X:mg "tuple" = none):FnOk P w K mg base Ko 3 f fd ["_law_draws_here", "_law_holes", "_law_made_here"] (kG K (z0)):=by
  refine' eM (k:=2) F jQ (λk1 A h0 s H E hr=>?hb) ?h
  case hb =>
    have h4:Room 1 _:=hr.mono (by decide)
    have k6:Room 2 _:=hr.mono (by decide)
    have I:=hr.units
    have k3:∀{m:Scope} (h:m={ kind:=.function,names:=[(".0",.local),("_law_chain",.local),("list",.globalImplicit)],isGenerator:=false,isCoroutine:=false }),
        CompScope (Pj Ko P w K mg base ["_law_draws_here", "_law_holes", "_law_made_here", "_law_told", "_law_at", "_law_other", "_law_way", "_law_every"] "_law_bent" (Cg Mi) f k1 A h0 s H E).nox m [] "_law_chain" [] []:=by
      rintro m rfl
      exact Nd.compScope0 (by rfl) (by decide +kernel) (by rfl) (by decide +kernel) (by rfl) (by rfl)
    have k4:∀{m:Scope} (h:m={ kind:=.function,names:=[(".0",.local),("_law_one",.local)],isGenerator:=false,isCoroutine:=false }),
        CompScope (Pj Ko P w K mg base ["_law_draws_here", "_law_holes", "_law_made_here", "_law_told", "_law_at", "_law_other", "_law_way", "_law_every"] "_law_bent" (Cg Mi) f k1 A h0 s H E).nox m [] "_law_one" [] []:=by
      rintro m rfl
      exact Nd.compScope0 (by rfl) (by decide +kernel) (by rfl) (by decide +kernel) (by rfl) (by rfl)
    have k7:∀{m:Scope} (h:m={ kind:=.function,names:=[(".0",.local),("_law_one",.local)],isGenerator:=false,isCoroutine:=false }),
        CompScope (Pj Ko P w K mg base ["_law_draws_here", "_law_holes", "_law_made_here", "_law_told", "_law_at", "_law_other", "_law_way", "_law_every"] "_law_bent" (Cg Mi) f k1 A h0 s H E).nox m [] "_law_one" [] []:=by
      rintro m rfl
      exact Nd.compScope0 (by rfl) (by decide +kernel) (by rfl) (by decide +kernel) (by rfl) (by rfl)
    refine' Cf (sI (o:=true) (i0:=3) jQ.nd rfl rfl (k3 rfl) rfl (pv 2) (λ_ _ _=>Yx uQ rfl k0 (by decide +kernel) (Hq (pv 0) Mg))) ?w1
    case w1 =>
     refine' Cf (Hr (i:=4) jQ.nd rfl (Dw rfl) (Mf (Kk u h4 rfl t v B Ji (pv 0) Bh) (Ej Js Nv rfl h3 (by decide +kernel) (Ar (Ax (pv 3)) Bh)))) ?w2
     case w2 =>
      refine' Cf (Hr (i:=5) jQ.nd rfl (Dw rfl) (Mf (Kk u h4 rfl t v B Ji (pv 0) Bh) (Ej Js Nv rfl h3 (by decide +kernel) (Ar (Ax (pv 3)) Bh)))) ?w3
      case w3 =>
       refine' Cf (Hr (i:=6) jQ.nd rfl (Dw rfl) (Mf (Kk u h4 rfl t v B Ji (pv 0) Bh) Cy)) ?w4
       case w4 =>
        refine' Cf (Hr (i:=7) jQ.nd rfl (Dw rfl) (Mw h6 h4 rfl h9 h8 h5 Ji (Ar (Ax (pv 1)) Bh))) ?w5
        case w5 =>
         refine' Cf (Ik (J1 (Ax (pv 6)) Cy) (Df (yT S k6 rfl U M Q Ji (pv 0) (Ar (Mv (Ax (pv 1))) (Ar (Xd (pv 3)) (Ar (Mv (Ax (pv 4))) (Ar (Mv (Ax (pv 5))) Bh)))))) Gp) ?w6
         case w6 =>
          refine' Cf ?z7 ?w7
          case z7 =>
           refine' Ik ?z8 ?z9 Gp
           case z8 =>
            exact (Oo I (Ax (pv 6)) Cy)
           case z9 =>
            refine' Df ?z10
            case z10 =>
             refine' Sf (pv 3) ?z11
             case z11 =>
              refine' Jr ?z12 ?z13
              case z12 =>
               refine' Ft ?z14
               case z14 =>
                refine' Ar ?z15 ?z16
                case z15 =>
                 exact (Ft Bh)
                case z16 =>
                 refine' Ar kN ?z17
                 case z17 =>
                  refine' Ar ?z18 ?z19
                  case z18 =>
                   exact (Qo Bh)
                  case z19 =>
                   refine' Ar ?z20 ?z21
                   case z20 =>
                    exact (Ft (Ar (Qo Bh) Bh))
                   case z21 =>
                    refine' Ar Cy ?z22
                    case z22 =>
                     refine' Ar Lm ?z23
                     case z23 =>
                      refine' Ar ?z24 ?z25
                      case z24 =>
                       exact (Ft (Ar kN Bh))
                      case z25 =>
                       refine' Ar ?z26 Bh
                       case z26 =>
                        exact (Ft (Ar (Ft Bh) Bh))
              case z13 =>
               exact (Mf (Kk u h4 rfl t v B Ji (pv 0) Bh) Cy)
          case w7 =>
           refine' Cf (Ik (Oo I (Ax (pv 6)) Cy) (Df (jO (pv 3) (pv 4) (Ml dN (fL (i:=true)) rfl X (by decide +kernel) (Ar (Jr (Ax (pv 3)) (Ax (pv 4))) Bh)))) Gp) ?w27
           case w27 =>
            refine' Cf ?z28 ?w28
            case z28 =>
             refine' Ik ?z29 ?z30 Gp
             case z29 =>
              exact (Oo I (Ax (pv 6)) Cy)
             case z30 =>
              refine' Df ?z31
              case z31 =>
               refine' He ?z32
               case z32 =>
                refine' Jr ?z33 ?z34
                case z33 =>
                 refine' Ft ?z35
                 case z35 =>
                  refine' Ar ?z36 ?z37
                  case z36 =>
                   exact (Ml dN (fL (i:=false)) rfl X (by decide +kernel) (Ar (Vb (pv 3)) Bh))
                  case z37 =>
                   refine' Ar kN ?z38
                   case z38 =>
                    refine' Ar ?z39 ?z40
                    case z39 =>
                     exact (Ft Bh)
                    case z40 =>
                     refine' Ar ?z41 ?z42
                     case z41 =>
                      exact (Ft (Ar (Ft Bh) Bh))
                     case z42 =>
                      refine' Ar Cy ?z43
                      case z43 =>
                       refine' Ar Lm ?z44
                       case z44 =>
                        refine' Ar ?z45 ?z46
                        case z45 =>
                         exact (Ft (Ar (Ax (pv 7)) Bh))
                        case z46 =>
                         refine' Ar ?z47 Bh
                         case z47 =>
                          exact (Jr (Ax (pv 3)) Cy)
                case z34 =>
                 exact (Mf (Kk u h4 rfl t v B Ji (pv 0) Bh) Cy)
            case w28 =>
             refine' Cf (Ik (Oo I (Ax (pv 6)) Cy) (Df (jO (pv 3) (pv 4) (qX (Jr (Ax (pv 3)) (Ax (pv 4))) (Jr (Ax (pv 3)) (Ax (pv 5)))))) Gp) ?w48
             case w48 =>
              refine' Cf (Ik (Oo I (Ax (pv 6)) Cy) (Df (jO (pv 3) (pv 4) (S8 (Jr (Ax (pv 3)) (Ax (pv 4))) (vL jT Hi) (λ_ _ _ h=>⟨_,rfl,h⟩)))) Gp) ?w49
              case w49 =>
               refine' Cf (Ik (Oo I (Ax (pv 6)) Cy) (Df (Sa (i:=3) jQ.nd rfl (Dw rfl) (Uq (Vb (pv 3)) (Jd (i:=false) (Ax (pv 3)) (Hy (Ax (pv 4))) (Hy (Tv (Ax (pv 4)) Cy)))))) Gp) ?w50
               case w50 =>
                refine' Cf (Ik (Oo I (Ax (pv 6)) Cy) (Df (yO (o:=true) (i0:=3) jQ.nd rfl rfl (k4 rfl) rfl (wM (Ax (pv 7))) (λ_ _ _=>Rf) (λ_ _ _=>Ft (Ar (Mv (Ax (pv 0))) Bh)))) Gp) ?w51
                case w51 =>
                 refine' Cf (Ik (Oo I (Ax (pv 6)) Cy) (Df (Sa (i:=3) jQ.nd rfl (Dw rfl) (Uq (bV (k7 rfl) rfl (wM (Jd (i:=true) (Ax (pv 7)) Jb (Hy (Tr Cy)))) (λ_ _ _=>Rf) (λ_ _ _=>Ft (Ar (Mv (Ax (pv 0))) Bh))) (Ft (Ar (Ft (Ar (Mv (Jr (Ax (pv 7)) (Mf (Ax (pv 4)) Cy))) Bh)) Bh))))) Gp) ?w52
                 case w52 =>
                  exact Df (He (Xd (pv 3)))
  case h =>
    (intro ds n R q_; obtain ⟨h,C,rfl,h1,h7,hC,hn,hR⟩ := q_)
    refine ⟨rfl,?_⟩
    unfold sJ
    array_get_dec
    have e0:C.map Da=(C.map λc=>c.map Bk).map Ki:=by rw[Dz]; rfl
    refine ⟨_,C.map λc=>c.map Bk,by rw[e0],λc hc=>?_,?_⟩
    · obtain ⟨d,hd,rfl⟩:=Bs.mp hc
      exact BR d
    rw[<- e0]
    have J:=hC.okl
    have eL:(C.map Da).length=C.length:=Ac _
    have pC:0<C.length:=Ka.mpr hC.1
    refine ⟨rfl,by omega,λr0=>?_⟩
    array_get_dec
    rw[eL]
    have b0:=Om r0 (b:=(C.length:Int)) (by omega)
    generalize r0 % (C.length:Int)=a at b0
    obtain ⟨a,rfl⟩:=Gy b0.1
    refine ⟨by omega,rfl,by omega,λr1=>?_⟩
    array_get_dec
    try rw[eL]
    have b1:=Om r1 (b:=(C.length:Int)) (by omega)
    generalize r1 % (C.length:Int)=b at b1
    obtain ⟨b,rfl⟩:=Gy b1.1
    refine ⟨by omega,rfl,by omega,λr2=>?_⟩
    have ha:a<C.length:=by omega
    have hb:b<C.length:=by omega
    have ea:(C.map Da)[a]? = some (Da C[a]):=by rw[Bo,Ba ha]; rfl
    have eb:(C.map Da)[b]? = some (Da C[b]):=by rw[Bo,Ba hb]; rfl
    have mc:=Ec ha
    have md:=Ec hb
    generalize C[a]=c at ea mc
    generalize C[b]=d at eb md
    obtain ⟨c0,c1⟩:=hC.len mc
    obtain ⟨d0,d1⟩:=hC.len md
    have wc:=cP (hC.2.1 c mc).2
    have wd:=cP (hC.2.1 d md).2
    have lc:(c.map Bk).length=c.length:=Ac _
    have ld:(d.map Bk).length=d.length:=Ac _
    have lC:=hC.2.2.2
    have b2:=Om r2 (b:=16) (by omega)
    array_get_dec
    generalize r2 % 16=Ln at b2
    refine ⟨h,rfl,by omega,by omega,λA pA oA=>?_⟩
    have lA:A.length=2 ^ h.toNat:=by rw[pA.length_eq,Pt]
    have k8:2<=A.length/\A.length<=128:=by
      have : h.toNat<=7:=by omega
      have h2:=Gd (n:=2) (by omega) (show 1<=h.toNat by omega)
      rw[lA]
      exact ⟨h2,Br (Gd (by omega) this) (by decide)⟩
    array_get_dec
    refine Zw (λq=>?_) (λq=>?_)
    · unfold rT
      array_get_dec
      unfold X1
      array_get_dec
      exact ⟨[.int h,.list (C.map Da),.int a,.int b],rfl,h,C,a,b,rfl,h1,h7,hC,ha,hb,by omega,λT n' hT q1 q2=>⟨hT.2.2.2.1,by omega,hR T n' hT (by omega) (by omega)⟩⟩
    · have q:=of_decide_eq_false q
      have eW:∀l:List (List Int),wordsD l=.list (l.map Bk):=λ_=>rfl
      have rA:∀w∈A,WB w:=λw hw=>by
        have r:=sG.mp (pA.mem_iff.mp hw)
        have:=gT r
        exact ⟨by omega,λp hp=>by have:=r.2 p hp; omega⟩
      have wA:=cP rA
      have mA:(A.map Bk).length=A.length:=Ac _
      clear e0
      generalize eC:C.map Da=L at ea eb J eL ⊢
      unfold Da at ea eb
      have pL:0<L.length:=by omega
      have nL:L≠[]:=λz=>by rw[z] at pL; cases pL
      have hd:=Ba pL
      have mh:=Ec pL
      have Z:=J.1 _ mh
      have lh:Rh L[0]<=128:=Br (by
        have:=bF (f:=Rh) (Uj.mpr mh)
        simpa using this) J.2.1
      have nh:Fe L[0]<=1800:=Br (by
        have:=bF (f:=Fe) (Uj.mpr mh)
        simpa using this) J.2.2
      generalize L[0]=hd0 at hd mh Z lh nh
      rcases (show Ln=8\/Ln=9\/Ln=10\/Ln=11\/Ln=12\/Ln=13\/Ln=14\/Ln=15 by omega) with rfl | rfl | rfl | rfl | rfl | rfl | rfl | rfl
      · array_get_dec
        refine ⟨rfl,by omega,λr3=>?_⟩
        array_get_dec
        have b3:=Om r3 (b:=8) (by omega)
        generalize r3 % 8=k at b3
        obtain ⟨k,rfl⟩:=Gy b3.1
        have tN:∀x∈[Ki [],.none,.tuple [],.list [.tuple []],.int 0,.bool true,.list [.none],.list [.list []]],(x.depth<=20/\Ir 12 x/\Nq x=true)/\Rh x<=2/\Fe x<=5:=by
          intro x hx
          simp only[Aj,Bt,or_false] at hx
          rcases hx with rfl | rfl | rfl | rfl | rfl | rfl | rfl | rfl
          all_goals exact ⟨⟨by simp [Bm,Bd],by simp [Ir,Kc],rfl⟩,by simp [Rh],by simp [Fe,Gs]⟩
        generalize eN:[Ki [],.none,.tuple [],.list [.tuple []],.int 0,.bool true,.list [.none],.list [.list []]]=N at tN ⊢
        have lN:N.length=8:=by rw[<- eN]; rfl
        have qN:k<N.length:=by omega
        have eq:=Ba qN
        obtain ⟨t1,t2,t3⟩:=tN _ (Ec qN)
        generalize N[k]=x at eq t1 t2 t3
        refine ⟨_,Hb eq,?_⟩
        array_get_dec
        exact ⟨by omega,by omega,hR _ _ (R0 J nL t1 (by omega) (by omega)) (by omega) (by omega)⟩
      · array_get_dec
        unfold uH
        array_get_dec
        refine ⟨_,Hb ea,?_⟩
        array_get_dec
        exact ⟨L,_,_,a,_,rfl,nofun,rfl,rfl,by omega,by omega,hR _ _ (Ls (J.set (CL λy hy=>(wc y hy).1) (c:=0) (d:=1600) (by simp [Rh]) (by have:=AB (λy hy=>(wc y hy).1); omega)) (by omega) (by omega)) (by omega) (by omega)⟩
      · array_get_dec
        refine ⟨_,Hb hd,rfl,by omega,λr3=>?_⟩
        array_get_dec
        have b3:=Om r3 (b:=8) (by omega)
        generalize r3 % 8=k at b3
        obtain ⟨k,rfl⟩:=Gy b3.1
        have tN:∀x∈[Pu L,.none,.list [],.list [.list []],.int 0,.bool true,.list [.list (A.map Bk)],hd0],J4 x:=by
          intro x hx
          simp only[Aj,Bt,or_false] at hx
          rcases hx with rfl | rfl | rfl | rfl | rfl | rfl | rfl | rfl
          · have h1:=Ls J (by omega) (by omega)
            refine ⟨by have:=h1.1; simp only[Bm] at this ⊢; exact this,by have:=h1.2.1; rw[Ir] at this; rw[Ir]; exact this,by have:=h1.2.2.1; rw[Fe] at this; rw[Fe]; exact this,?_,by simp [cZ]⟩
            rw[Nq]
            exact Va λx hx=>(J.1 x hx).2.2.1
          · exact So (by simp [Bm]) (by simp [Ir]) (by simp [Fe]) rfl (by simp [cZ])
          · exact So (by simp [Bm,Bd]) (by simp [Ir,Kc]) (by simp [Fe,Gs]) rfl (by simp [cZ])
          · exact So (by simp [Bm,Bd]) (by simp [Ir,Kc]) (by simp [Fe,Gs]) rfl (by simp [cZ,Rh])
          · exact So (by simp [Bm]) (by simp [Ir]) (by simp [Fe]) rfl (by simp [cZ])
          · exact So (by simp [Bm]) (by simp [Ir]) (by simp [Fe]) rfl (by simp [cZ])
          · exact Ls (mI wA (by omega)) (by omega) (by omega)
          · cases x with
            | list ys =>
              refine So Z.1 Z.2.1 (by omega) Z.2.2.1 ?_
              have e:(Ki ys)∈C.map Da:=by rw[eC]; exact mh
              obtain ⟨c',k5,e⟩:=Bs.mp e
              unfold Da at e
              injection e with e
              rw[cZ,<- e,Dz]
              have : (c'.map (Rh ∘ Bk)).sum=0:=by
                clear e k5
                induction c' with
                | nil=>rfl
                | cons w c' ih=>rw[Aw,Mq,ih]; rfl
              omega
            | _=>exact So Z.1 Z.2.1 (by omega) Z.2.2.1 (by simp [cZ])
        generalize eN:[Pu L,.none,.list [],.list [.list []],.int 0,.bool true,.list [.list (A.map Bk)],hd0]=N at tN ⊢
        have lN:N.length=8:=by rw[<- eN]; rfl
        have qN:k<N.length:=by omega
        have eq:=Ba qN
        have tq:=tN _ (Ec qN)
        generalize N[k]=x at eq tq
        exact ⟨_,Hb eq,by omega,hR _ _ tq (by omega) (by omega)⟩
      · array_get_dec
        unfold uH
        array_get_dec
        refine ⟨_,Hb ea,_,Hb eb,?_⟩
        array_get_dec
        exact ⟨by omega,L,_,_,a,_,rfl,nofun,rfl,rfl,by omega,by omega,hR _ _ (Ls (J.putW (wc.app wd) (by rw[Az]; omega)) (by omega) (by omega)) (by omega) (by omega)⟩
      · array_get_dec
        unfold uH
        array_get_dec
        refine ⟨_,Hb ea,?_⟩
        array_get_dec
        exact ⟨L,_,_,a,_,rfl,nofun,rfl,rfl,by omega,by omega,hR _ _ (Ls (J.putW (λy hy=>wc y (Ke.mp hy)) (by rw[En]; omega)) (by omega) (by omega)) (by omega) (by omega)⟩
      · array_get_dec
        have s1:=Lv L (some (a:Int)) (some ((a:Int)+1))
        have q1:=s1.length_le
        exact ⟨by omega,by omega,hR _ _ (Ls (J.app (J.sub s1)) (by omega) (by omega)) (by omega) (by omega)⟩
      · array_get_dec
        refine i3 (l:=A) (g:=Bk) rfl (λw=>.list [Bk w]) (λw hw k2 no hy=>?_) ?_
        · array_get_dec
          exact hy
        array_get_dec
        exact ⟨by omega,hR _ _ (Ls (bY rA) (by omega) (by omega)) (by omega) (by omega)⟩
      · array_get_dec
        rw[nR]
        have sA:A.dropLast.Sublist A:=Lf A
        have lD:=sA.length_le
        refine i3 (l:=A.dropLast) (g:=Bk) rfl (λw=>.list [Bk w]) (λw hw k2 no hy=>?_) ?_
        · array_get_dec
          exact hy
        array_get_dec
        have b5:=Om (a:Int) (b:=2) (by omega)
        generalize (a:Int) % 2=e at b5
        obtain ⟨e,rfl⟩:=Gy b5.1
        have le:e<(A.map Bk).length:=by omega
        obtain ⟨t1,t2,t3⟩:=wA _ (Ec le)
        have ee:=Ba le
        generalize (A.map Bk)[e]=x at ee t1 t2 t3
        exact ⟨_,Hb ee,t3,by rw[Ac]; omega,by omega,hR _ _ (Ls ((bY (λw hw=>rA w (sA.subset hw))).app (mI (ys:=[x]) (λy hy=>Ab.mp hy▸⟨t1,t2,t3⟩) (by simp))) (by omega) (by omega)) (by omega) (by omega)⟩
end
theorem FQ{h:Nat}{w:List Int}(b:h<=7)(r:Eg h w):WB w:=⟨by have:=gT r; omega,λp a=>by have:=r.2 p a; omega⟩
theorem U7{h:Nat}{C:List (List (List Int))}(b:h<=7)(k:Cov h C)(l:C.flatten.length=2 ^ h)(m:C.length<=256):CB C:=by
 refine ⟨λz=>?_,λc a=>⟨k.ne c a,λw d=>FQ b (k.words c a w d)⟩,?_,m⟩
 ·rw[z] at l
  have:=Nat.one_le_two_pow (n:=h)
  simp only[List.flatten_nil,Gv] at l
  omega
 ·rw[l]
  exact Br (Gd (by omega) b) (by decide)
section
variable{P:Bz}{w:World}{K:PySem.W.Frag}{mg:Str->Option Value}{base:Heap}
theorem BO:FnScope ["_law_script", "_law_cell", "_law_draws_here", "_law_pick", "_law_holes", "_law_made_here", "_law_thing", "_law_kept", "_law_told"] ["_law_script"] (Cg aT):=⟨rfl,rfl,rfl,by decide +kernel,rfl,by decide +kernel,by decide +kernel⟩
theorem AF{f d o q p e v r  : Addr}{fd m u M O t R N:Cu}(F:Fun K "law" "law" aT f fd)(I:FnOk P w K mg base Ko 4 d m ["holes", "thing"] (Zv K (lK)))(G:Binds K m ["holes", "thing"] [])(L:PySem.W.keepIn K (.ref d)=true)(J:mg "shows_most" = some (.ref d))(X:FnOk P w K mg base Ko 1 o u ["_law_cell"] (Xj))(h1:Binds K u ["_law_cell"] [])(h3:PySem.W.keepIn K (.ref o)=true)(Y:mg "_law_draws" = some (.ref o))(k3:FnOk P w K mg base Ko 1 q M ["_law_draws_here"] (R9 K Wg))(q4:Binds K M ["_law_draws_here"] [])(k8:PySem.W.keepIn K (.ref q)=true)(k0:mg "_law_next" = some (.ref q))(k9:FnOk P w K mg base Ko 2 p O ["_law_draws_here", "_law_holes"] (kG K (o9)))(k4:Binds K O ["_law_draws_here", "_law_holes"] [])(k1:PySem.W.keepIn K (.ref p)=true)(k2:mg "_law_made" = some (.ref p))(U:FnOk P w K mg base Ko 2 e t ["_law_draws_here", "_law_made_here"] (kG K (oN)))(S:Binds K t ["_law_draws_here", "_law_made_here"] [])(V:PySem.W.keepIn K (.ref e)=true)(Q:mg "_law_parted" = some (.ref e))(j2:FnOk P w K mg base Ko 3 v R ["_law_holes", "_law_thing"] (Zv K (lK)))(q9:Binds K R ["_law_holes", "_law_thing"] [])(q6:PySem.W.keepIn K (.ref v)=true)(j1:mg "_law_due" = some (.ref v))(k6:FnOk P w K mg base Ko 3 r N ["_law_draws_here", "_law_holes", "_law_made_here"] (kG K (z0)))(k5:Binds K N ["_law_draws_here", "_law_holes", "_law_made_here"] [])(k7:PySem.W.keepIn K (.ref r)=true)(q0:mg "_law_bent" = some (.ref r))(h9:mg "int" = none)(q5:mg "range" = none)(h5:mg "str" = none)(q8:mg "bool" = none)(B:mg "isinstance" = none):FnOk P w K mg base Ko 5 f fd ["_law_script"] (spLawD K):=by
 refine' DU (k:=4) F BO (λj6 A h4 s H E hr=>?hb) ?h
 case hb =>
  have j8:Room 1 _:=hr.mono (by decide)
  have j9:Room 2 _:=hr.mono (by decide)
  have j7:Room 3 _:=hr.mono (by decide)
  have x0:Room 4 _:=hr.mono (by decide)
  have h8:=hr.units
  have x1:Room 4 (Pj Ko P w K mg base ["_law_script", "_law_cell", "_law_draws_here", "_law_pick", "_law_holes", "_law_made_here", "_law_thing", "_law_kept", "_law_told"] "law" (Cg aT) f j6 A h4 s H E).nox.A:=hr
  have q7:(Pj Ko P w K mg base ["_law_script", "_law_cell", "_law_draws_here", "_law_pick", "_law_holes", "_law_made_here", "_law_thing", "_law_kept", "_law_told"] "law" (Cg aT) f j6 A h4 s H E).nox.A.units+100<cLine:=by have:=x1.un; omega
  have x2:∀{h2:Scope} (h:h2={ kind:=.function,names:=[(".0",.local),("_law_k",.local),("_law_bent",.globalImplicit),("_law_draws_here",.free),("_law_holes",.free),("_law_made_here",.free)],isGenerator:=false,isCoroutine:=false }),
    CompScope (Pj Ko P w K mg base ["_law_script", "_law_cell", "_law_draws_here", "_law_pick", "_law_holes", "_law_made_here", "_law_thing", "_law_kept", "_law_told"] "law" (Cg aT) f j6 A h4 s H E).nox h2 [("_law_made_here",s.heap.objs.size+3),("_law_holes",s.heap.objs.size+2),("_law_draws_here",s.heap.objs.size+1)] "_law_k" ["_law_draws_here", "_law_holes", "_law_made_here"] [2,4,5]:=by
   rintro h2 rfl
   refine ⟨by rfl,.inl (by decide +kernel),by rfl,by decide +kernel,.inl rfl,λy c h=>?_,by rfl,by decide +kernel,rfl,λk y j e1 e2=>?_⟩
   ·have z:=Jh h
    simp only[Aj,Bt,or_false,Oi] at z
    rcases z with ⟨rfl,rfl⟩ | ⟨rfl,rfl⟩ | ⟨rfl,rfl⟩ <;> rfl
   ·match k,e1,e2 with
    | 0,e1,e2=>cases e1; cases e2; exact ⟨rfl,rfl,by first | exact .inl rfl | exact .inr rfl⟩
    | 1,e1,e2=>cases e1; cases e2; exact ⟨rfl,rfl,by first | exact .inl rfl | exact .inr rfl⟩
    | 2,e1,e2=>cases e1; cases e2; exact ⟨rfl,rfl,by first | exact .inl rfl | exact .inr rfl⟩
    | k+3,e1,e2=>cases e1
  exact Cf (My Eb rfl (wM (qX (r6 (pv 0) Jb (Hy Cy)) (Ft (Ar Cy Bh)))) (Jp (i:=1) BO.nd rfl (Dw rfl))
   (Cf (Hr (i:=2) BO.nd rfl (Or.inr rfl) (yQ X j8 rfl Y h3 h1 Ji (Ar (Ax (pv 1)) Bh)))
    (Cf (Hr (i:=3) BO.nd rfl (Dw rfl) (Kk k3 j8 rfl k0 k8 q4 Ji (pv 2) Bh))
    (Cf (Hr (i:=4) BO.nd rfl (Or.inr rfl) (Jr (Ft (Ar (Tv Cy (Mf (I0 (Ax (pv 3)) Cy) Cy)) (Ar Cy Bh))) (Ml iN yX rfl h9 (by decide +kernel) (Ar (iB h8 (Mf (Ax (pv 3)) Cy) Cy) Bh))))
    (Cf (Hr (i:=5) BO.nd rfl (Or.inr rfl) (Yo U j9 rfl Q V S Ji (pv 2) (Ar (Yo k9 j9 rfl k2 k1 k4 Ji (pv 2) (Ar (Ax (pv 4)) Bh)) Bh)))
    (Df (My Eb rfl (wM (Uq (Ft (Ar (Ax (pv 5)) Bh)) (xZ (js1:=[]) (j0:=2) (js2:=[4,5]) (x2 rfl) rfl (Yu rfl q5 (Ar (CV Cy (AN Cy (Ml iN yX rfl h9 (by decide +kernel) (Ar (iB h8 (Ax (pv 4)) Cy) Bh)))) Bh)) (λ_ _ _=>Rf) (λ_ _ _=>Yo k6 j7 rfl q0 k7 k5 Ji (pv 1) (Ar (Ax (pv 2)) (Ar (Ax (pv 3)) Bh)))))) (Jp (i:=6) BO.nd rfl (Dw rfl))
    (Cf (Hr (i:=7) BO.nd rfl (Dw rfl) (Ml (iF hr.gd q7) x8 rfl h5 (by decide +kernel) (Ar (Ax (pv 6)) Bh)))
     (Cf (Hr (i:=8) BO.nd rfl (Dw rfl) (Mw I x0 rfl J L G Ji (Ar (Ax (pv 4)) (Ar (Ax (pv 6)) Bh))))
     (Df (Ik (jZ (Vu (Nc (Mx (Ej Pp Pl rfl B (by decide +kernel) (Ar (Ax (pv 8)) (Ar (Tz (n := "bool") rfl q8 (by decide +kernel)) Bh))))) (Vu (gV h8 (Ax (pv 8)) (Mw j2 j7 rfl j1 q6 q9 Ji (Ar (Ax (pv 4)) (Ar (Ax (pv 6)) Bh)))) (Uc (gV h8 (Ml (iF hr.gd q7) x8 rfl h5 (by decide +kernel) (Ar (Ax (pv 6)) Bh)) (Ax (pv 7)))))))
     (Df (He Lm)) Gp)))))))))))
   (Df (He Lm))
 case h =>
  intro ns x4
  array_get_dec
  have lc:(Jv ns none (some 4)).length<=4:=EZ 4
  refine ⟨by rw[Ac]; omega,?_⟩
  refine Xs (l:=Jv ns none (some 4)++[0]) (g:=Be) (by rw[Bc]; rfl) (λi δ=>∃(v1 v2 v3 v4 v5 v6 v7 v8:DV) (n':Nat),δ=⟨[.scr ns,v1,v2,v3,v4,v5,v6,v7,v8],n'⟩/\NP v1/\NP v2/\NP v3/\NP v4/\NP v5/\NP v6/\NP v7/\NP v8/\n'<=3000 * i) ?_ ?_ ?_
  ·exact ⟨_,_,_,_,_,_,_,_,_,rfl,Jj,Jj,Jj,Jj,Jj,Jj,Jj,Jj,by omega⟩
  ·(intro i c _ hc q_; obtain ⟨v1,v2,v3,v4,v5,v6,v7,v8,n0,rfl,x6,x9,y0,x3,x7,j4,j5,j3,hn⟩ := q_)
   have hi:i<5:=by
    have:=(An.mp hc).1
    rw[Az,Dv] at this
    omega
   array_get_dec
   refine ⟨rfl,by omega,λr0=>?_⟩
   array_get_dec
   refine ⟨_,EU _ _ _,?_⟩
   obtain ⟨h,h0,h7,eh⟩ : ∃h:Int,1<=h/\h<=7/\(if decide (r0 % 8=1)=true then Be 7 else Be (1+r0 / 8 % 5))=.int h:=by
    cases decide (r0 % 8=1)
    ·exact ⟨1+r0 / 8 % 5,by omega,by omega,rfl⟩
    ·exact ⟨7,by omega,by omega,rfl⟩
   rw[eh]
   have hl:2 ^ h.toNat<=128:=Br (Gd (by omega) (show h.toNat<=7 by omega)) (by decide)
   have DZ:∀{C:List (List (List Int))},CB C->J4 (Hm C):=λk=>Ls k.okl (by omega) (by omega)
   refine ⟨h,rfl,h0,h7,by omega,λC n1 na nb cC lC tC=>⟨(DZ (U7 (by omega) cC (by omega) (by omega))).2.2.2.1,?_⟩⟩
   refine ⟨h.toNat,C,rfl,by omega,cC,by omega,by omega,λD n2 nc nd cD lD tD=>?_⟩
   have kD:=U7 (by omega) cD (by omega) lD
   refine ⟨(DZ kD).2.2.2.1,?_⟩
   array_get_dec
   refine ⟨by split <;> omega,by split <;> omega,?_⟩
   refine E4 (l:=Ck _) (g:=λi:Nat=>.int i) rfl rfl (λi q3 n=>q3.length=i/\(∀x∈q3,J4 x)/\n<=n2+20 * i) ⟨rfl,(λx z=>nomatch z),Ak _⟩ ?_ ?_
   ·(intro j a q3 n ha q_; obtain ⟨e1,e2,e3⟩ := q_)
    obtain ⟨rfl,hj⟩:=cS ha
    have l8:(8 - 5 * if decide (h=7)=true then (1:Int) else 0).toNat<=8:=by split <;> omega
    have x5:a<8:=Cc hj l8
    array_get_dec
    refine ⟨h,D,rfl,h0,h7,kD,by omega,λT n' hT q1 q2=>?_⟩
    array_get_dec
    refine ⟨hT.2.2.2.1,nofun,rfl,by rw[Az,Dv]; omega,λx hx=>?_,by show n'<=_; omega⟩
    rcases Ai.mp hx with z | z
    ·exact e2 x z
    ·rw[Ab.mp z]; exact hT
   ·(intro q3 n q_; obtain ⟨e1,e2,e3⟩ := q_)
    rw[Ex] at e1 e3
    have l8:(8 - 5 * if decide (h=7)=true then (1:Int) else 0).toNat<=8:=by split <;> omega
    array_get_dec
    refine ⟨by omega,?_⟩
    have all:∀x∈Hm D::q3,J4 x:=λx hx=>(Aj.mp hx).elim (λz=>z▸DZ kD) (e2 x)
    generalize Hm D::q3=Z at all
    refine Xs (l:=Z) (g:=λx=>x) (Iq _).symm (λ_ δ=>∃(v6 v7 v8:DV),δ=⟨[.scr ns,.dat .sh (.int c),.drw,.dat .sh (.int r0),.dat .sh (.int h),.dat .sh (Hm D),v6,v7,v8],n⟩/\NP v6/\NP v7/\NP v8) ?_ ?_ ?_
    ·exact ⟨_,_,_,rfl,j4,j5,j3⟩
    ·(intro j T _ hT q_; obtain ⟨v6,v7,v8,rfl,j4,j5,j3⟩ := q_)
     obtain ⟨t1,t2,t3,t4,t5⟩:=all T (Ao hT)
     have st:(∃b,b<=400/\Ir b T/\(b+12) * Fe T<=Bf):=⟨12,by decide,t2,gG (by omega)⟩
     array_get_dec
     refine ⟨st,by omega,?_⟩
     by_cases h6:pD h T
     ·refine ⟨h,T,rfl,h0,h7,t5,t1,λ_=>?_,λz=>absurd h6 z⟩
      array_get_dec
      refine ⟨h,T,rfl,h0,h7,t5,t1,λ_=>?_,λz=>absurd h6 z⟩
      array_get_dec
      refine ⟨st,by omega,?_⟩
      array_get_dec
      exact ⟨_,_,_,rfl,Iv,Iv,Iv⟩
     ·refine ⟨h,T,rfl,h0,h7,t5,t1,λz=>absurd z h6,λ_=>?_⟩
      array_get_dec
      refine ⟨h,T,rfl,h0,h7,t5,t1,λz=>absurd z h6,λ_=>?_⟩
      array_get_dec
      refine ⟨st,by omega,?_⟩
      array_get_dec
      exact ⟨_,_,_,rfl,Iv,Iv,Iv⟩
    ·(intro _ q_; obtain ⟨v6,v7,v8,rfl,j4,j5,j3⟩ := q_)
     exact ⟨_,_,_,_,_,_,_,_,_,rfl,Iv,DP,Iv,Iv,Iv,j4,j5,j3,by omega⟩
  ·(intro _ q_; obtain ⟨v1,v2,v3,v4,v5,v6,v7,v8,n0,rfl,_⟩ := q_)
   array_get_dec
end
structure Def(K:PySem.W.Frag)(x:Str)(st:Stmt)(f:Addr)(fd:Cu):Prop where
 nm:PySem.W.nsIn K Dj x=some (some (.ref f))
 fn:Fun K x x st f fd
theorem def_mk{K:PySem.W.Frag}{x:Str}{st:Stmt}{f:Addr}{i e:Option Addr}{j:Array (Option Value)}{h kV g d b ct:Value}(a:PySem.W.nsIn K Dj x=some (some (.ref f)))(l:K.lookup f=some ⟨h,i,.func (PySem.W.fnOf x x (Qe st) (Kv st) (Cg st) .none kV g d e b ct),j⟩)(c:PySem.W.codeIn K b x=true)(k:PySem.W.keepIn K (.ref f)=true):Def K x st f (PySem.W.fnOf x x (Qe st) (Kv st) (Cg st) .none kV g d e b ct):=⟨a,u5 l c k⟩
theorem KQ{P:List Value->Prop}(h:P []):∀us:List Value,us.length=0->P us
 | [],_=>h
theorem HA{P:List Value->Prop}{n:Nat}(h:∀a (us:List Value),us.length=n->P (a::us)):∀us:List Value,us.length=n+1->P us
 | a::us,e=>h a us (Nat.succ.inj e)
theorem EE{P:List Value->Prop}(h:∀b,P [b]):∀us:List Value,us.length=1->P us:=HA λa us e=>KQ (P:=λus=>P (a::us)) (h a) us e
theorem J3{P:List Value->Prop}(h:∀b a1,P [b,a1]):∀us:List Value,us.length=2->P us:=HA λa us e=>EE (P:=λus=>P (a::us)) (h a) us e
theorem KA{P:List Value->Prop}(h:∀b a1 a2,P [b,a1,a2]):∀us:List Value,us.length=3->P us:=HA λa us e=>J3 (P:=λus=>P (a::us)) (h a) us e
theorem KZ{P:List Value->Prop}(h:∀b a1 a2 a3,P [b,a1,a2,a3]):∀us:List Value,us.length=4->P us:=HA λa us e=>KA (P:=λus=>P (a::us)) (h a) us e
theorem KJ{P:List Value->Prop}(h:∀b a1 a2 a3 a4,P [b,a1,a2,a3,a4]):∀us:List Value,us.length=5->P us:=HA λa us e=>KZ (P:=λus=>P (a::us)) (h a) us e
theorem all_mk{l:PySem.W.OpenLaw}{q:Bz}{w:World}{K:PySem.W.Frag}{h:Heap}{mg:Str->Option Value}{fa f1 f2 f3 f4 f5 f6 f7 f8 f9 k6 k2 J h5 q1 q3 M n:Addr}{d1 d2 d3 d4 d5 d6 d7 d8 d9 h9 k8 h3 h4 h7 h6 O:Cu}(X:K.In h)(G:h.Ns Dj mg)(Y:mg "law" = some (.ref fa)){od an:Option Addr}{sl:Array (Option Value)}{oc kV dc pm cd ct:Value}(z:Def K "_law_draws" jD f1 d1)(D2:Def K "_law_next" vN f2 d2)(A:Def K "within" Xi f3 d3)(t:Def K "_law_all" Pg f4 d4)(F:Def K "is_whole" Wh f5 d5)(B:Def K "is_word" Yz f6 d6)(D:Def K "is_chain" Wc f7 d7)(C:Def K "shows_most" Sd f8 d8)(H:Def K "_law_within" Oe f9 d9)(d:Def K "_law_whole" Sg k6 h9)(k:Def K "_law_is_word" Nh k2 k8)(g:Def K "_law_due" Se J h3)(f:Def K "_law_made" Og h5 h4)(c:Def K "_law_parted" Qp q1 h7)(i:Def K "_law_bent_word" Nt q3 h6)(j:Def K "_law_bent" Mi M O)(aL:PySem.W.nsIn K Dj "law" = some (some (.ref n)))(lL:K.lookup n=some ⟨oc,od,.func (PySem.W.fnOf "law" "law" (Qe aT) (Kv aT) (Cg aT) .none kV dc pm an cd ct),sl⟩)(cL:PySem.W.codeIn K cd "law" = true)(kL:PySem.W.keepIn K (.ref n)=true)(z1:PySem.W.nsIn K Dj "all" = some none)(z2:PySem.W.nsIn K Dj "range" = some none)(z3:PySem.W.nsIn K Dj "sorted" = some none)(z4:PySem.W.nsIn K Dj "bool" = some none)(z5:PySem.W.nsIn K Dj "isinstance" = some none)(z6:PySem.W.nsIn K Dj "int" = some none)(z7:PySem.W.nsIn K Dj "tuple" = some none)(z8:PySem.W.nsIn K Dj "len" = some none)(z9:PySem.W.nsIn K Dj "list" = some none)(z10:PySem.W.nsIn K Dj "zip" = some none)(z11:PySem.W.nsIn K Dj "set" = some none)(z12:PySem.W.nsIn K Dj "str" = some none)(tz_often:PySem.W.nsIn K Dj "often" = some none)(tz_cut_by:PySem.W.nsIn K Dj "cut_by" = some none):kI q K/\∃fd:Cu,(∀(s:Ap) (v:Value),BindsTo s fd ⟨[v],[]⟩ [("_law_script",v)])/\∀base:Heap,K.In base->base.Ns Dj mg->FnOk l.prog w K mg base Ko 5 fa fd ["_law_script"] (DL.spLawD K):=by
 have e:=Y.symm.trans (PySem.W.mg_of X G aL)
 cases e
 have FL:=u5 (st:=aT) lL cL kL
 have b1:=z.fn.binds (ps:=["_law_cell"]) λ_ _ _ _ _ _=>EE (λ_=>rfl)
 have r:=D2.fn.binds (ps:=["_law_draws_here"]) λ_ _ _ _ _ _=>EE (λ_=>rfl)
 have b3:=A.fn.binds (ps:=["one", "other"]) λ_ _ _ _ _ _=>J3 (λ_ _=>rfl)
 have b4:=t.fn.binds (ps:=["_law_holes"]) λ_ _ _ _ _ _=>EE (λ_=>rfl)
 have b5:=F.fn.binds (ps:=["thing"]) λ_ _ _ _ _ _=>EE (λ_=>rfl)
 have b6:=B.fn.binds (ps:=["holes", "thing"]) λ_ _ _ _ _ _=>J3 (λ_ _=>rfl)
 have b7:=D.fn.binds (ps:=["holes", "thing"]) λ_ _ _ _ _ _=>J3 (λ_ _=>rfl)
 have b8:=C.fn.binds (ps:=["holes", "thing"]) λ_ _ _ _ _ _=>J3 (λ_ _=>rfl)
 have b9:=H.fn.binds (ps:=["_law_one", "_law_other"]) λ_ _ _ _ _ _=>J3 (λ_ _=>rfl)
 have h8:=d.fn.binds (ps:=["_law_thing"]) λ_ _ _ _ _ _=>EE (λ_=>rfl)
 have N:=k.fn.binds (ps:=["_law_holes", "_law_thing"]) λ_ _ _ _ _ _=>J3 (λ_ _=>rfl)
 have Z:=g.fn.binds (ps:=["_law_holes", "_law_thing"]) λ_ _ _ _ _ _=>J3 (λ_ _=>rfl)
 have h1:=f.fn.binds (ps:=["_law_draws_here", "_law_holes"]) λ_ _ _ _ _ _=>J3 (λ_ _=>rfl)
 have k9:=c.fn.binds (ps:=["_law_draws_here", "_law_made_here"]) λ_ _ _ _ _ _=>J3 (λ_ _=>rfl)
 have q2:=i.fn.binds (ps:=["_law_draws_here", "_law_holes", "_law_told", "_law_at", "_law_other"]) λ_ _ _ _ _ _=>KJ (λ_ _ _ _ _=>rfl)
 have L:=j.fn.binds (ps:=["_law_draws_here", "_law_holes", "_law_made_here"]) λ_ _ _ _ _ _=>KA (λ_ _ _=>rfl)
 have m1:=PySem.W.mg_of X G z.nm
 have y:=PySem.W.mg_of X G D2.nm
 have m3:=PySem.W.mg_of X G A.nm
 have m4:=PySem.W.mg_of X G t.nm
 have m5:=PySem.W.mg_of X G F.nm
 have m6:=PySem.W.mg_of X G B.nm
 have m7:=PySem.W.mg_of X G D.nm
 have m8:=PySem.W.mg_of X G C.nm
 have m9:=PySem.W.mg_of X G H.nm
 have h2:=PySem.W.mg_of X G d.nm
 have V:=PySem.W.mg_of X G k.nm
 have h0:=PySem.W.mg_of X G g.nm
 have k7:=PySem.W.mg_of X G f.nm
 have T:=PySem.W.mg_of X G c.nm
 have Q:=PySem.W.mg_of X G i.nm
 have U:=PySem.W.mg_of X G j.nm
 have y1:=PySem.W.mg_none_of X G z1
 have y2:=PySem.W.mg_none_of X G z2
 have y3:=PySem.W.mg_none_of X G z3
 have I:=PySem.W.mg_none_of X G z4
 have m:=PySem.W.mg_none_of X G z5
 have y6:=PySem.W.mg_none_of X G z6
 have E:=PySem.W.mg_none_of X G z7
 have o:=PySem.W.mg_none_of X G z8
 have p:=PySem.W.mg_none_of X G z9
 have x:=PySem.W.mg_none_of X G z10
 have k5:=PySem.W.mg_none_of X G z11
 have k1:=PySem.W.mg_none_of X G z12
 have b:=DL.tab_no tz_often
 have a:=DL.tab_no tz_cut_by
 refine ⟨xN b a,PySem.W.fnOf "law" "law" (Qe aT) (Kv aT) (Cg aT) .none kV dc pm an cd ct,λs v=>.of_eq rfl,λbase _ _=>?_⟩
 have g1:=xA (P:=l.prog) (w:=w) (mg:=mg) (base:=base) z.fn
 have u:=G9 (P:=l.prog) (w:=w) (mg:=mg) (base:=base) D2.fn
 have g3:=xU (P:=l.prog) (w:=w) (mg:=mg) (base:=base) A.fn y1
 have g4:=oB (P:=l.prog) (w:=w) (mg:=mg) (base:=base) t.fn y2 y3
 have g5:=mU (P:=l.prog) (w:=w) (mg:=mg) (base:=base) F.fn I m y6
 have g6:=qZ (P:=l.prog) (w:=w) (mg:=mg) (base:=base) B.fn g5 b5 F.fn.kp m5 E m
 have g7:=nU (P:=l.prog) (w:=w) (mg:=mg) (base:=base) D.fn g6 b6 B.fn.kp m6 g3 b3 A.fn.kp m3 o p m x
 have g8:=gD (P:=l.prog) (w:=w) (mg:=mg) (base:=base) C.fn g7 b7 D.fn.kp m7 p m o k5
 have g9:=eE (P:=l.prog) (w:=w) (mg:=mg) (base:=base) H.fn
 have q4:=gH (P:=l.prog) (w:=w) (mg:=mg) (base:=base) d.fn I m y6
 have k3:=aR (P:=l.prog) (w:=w) (mg:=mg) (base:=base) k.fn q4 h8 d.fn.kp h2 E m
 have R:=nO (P:=l.prog) (w:=w) (mg:=mg) (base:=base) g.fn g9 b9 H.fn.kp m9 g4 b4 t.fn.kp m4 k3 N k.fn.kp V p m x o y3
 have k4:=jS (P:=l.prog) (w:=w) (mg:=mg) (base:=base) f.fn u r D2.fn.kp y y2 y3 E o
 have q0:=eO (P:=l.prog) (w:=w) (mg:=mg) (base:=base) c.fn u r D2.fn.kp y o
 have S:=Wz (P:=l.prog) (w:=w) (mg:=mg) (base:=base) i.fn u r D2.fn.kp y o p
 have k0:=jU (P:=l.prog) (w:=w) (mg:=mg) (base:=base) j.fn u r D2.fn.kp y g4 b4 t.fn.kp m4 S q2 i.fn.kp Q p o E
 exact AF FL g8 b8 C.fn.kp m8 g1 b1 z.fn.kp m1 u r D2.fn.kp y k4 h1 f.fn.kp k7 q0 k9 c.fn.kp T R Z g.fn.kp h0 k0 L j.fn.kp U y6 y2 k1 I m
theorem walk{l:PySem.W.OpenLaw}{q:Bz}{loose:List Str}{XP:(Str->Option Value)->Heap->Prop}{YP:World->Heap->Prop}{d:DefRec}{K:Params->PySem.W.Frag}(i:l.most=some 63)(b:d.params.defaults=[])(o:∀(w:World) (h:Heap),YP w h->(K w.params).In h)(F:∀(w:World) (mg:Str->Option Value) (c:Addr) (h:Heap),(K w.params).In h->h.Ns Dj mg->mg d.name=some (.ref c)->kI q (K w.params)/\∃e:Cu,(∀(s:Ap) (u:Value),BindsTo s e ⟨[u],[]⟩ [("_law_script",u)])/\∀base:Heap,(K w.params).In base->base.Ns Dj mg->FnOk l.prog w (K w.params) mg base Ko 5 c e ["_law_script"] (DL.spLawD (K w.params))):PySem.W.WalkO q loose XP YP l.row.toRowW d [] (λf vs=>PySem.call f vs) :=
 L2.walk_ofD (n:=63) (k:=5) (x := "_law_script") (CX:=λ_=>Ko) (sp:=λw=>DL.spLawD (K w.params)) i (by decide) b ⟨rfl,by decide,by decide,rfl⟩ o F (λ_ _ a m g _ j=>⟨a,m,rfl,j,g,λ_=>rfl⟩) λ_ _ _ _ _ z=>z
end K15
theorem KR:PySem.Challenge.rw_needledeck_k15_chains_looked_at.wellSaid=true:=by kernel_rfl
open PySem PySem.W PyProof.Rows
local macro_rules | `(tactic| refine $h:ident (q := $q) (loose := $l) (Xt := $a) (XP := $b) (Yf := $c) (Ya := $d) (YP := $e) (N := $n) ?hl $y*) => `(tactic| refine $h:ident (q := $q) (loose := $l) (Xt := $a) (XP := $b) (Yf := $c) (Ya := $d) (YP := $e) (N := $n) (fun _ => by kernel_rfl) $y*)
set_option maxRecDepth 100000 in
set_option maxHeartbeats 0 in
theorem PySem.Challenge.cw_needledeck_k15_chains_looked_at_holds : PySem.Challenge.rw_needledeck_k15_chains_looked_at.Holds := by
 w_on; refine holds_law KR λsaid=>?_; k_head; (case hw=>w_witness2)
 k_fill
 refine K15.walk (l:=PySem.Challenge.rw_needledeck_k15_chains_looked_at) rfl rfl (λw h Y=>PySem.W.kIn_of Y) ?F
 case F =>
  intro w mg fa h KX G hmg
  refine' K15.all_mk KX G hmg (K15.def_mk ?a1 ?l1 ?c1 ?k1) (K15.def_mk ?a2 ?l2 ?c2 ?k2) (K15.def_mk ?a3 ?l3 ?c3 ?k3) (K15.def_mk ?a4 ?l4 ?c4 ?k4) (K15.def_mk ?a5 ?l5 ?c5 ?k5) (K15.def_mk ?a6 ?l6 ?c6 ?k6) (K15.def_mk ?a7 ?l7 ?c7 ?k7) (K15.def_mk ?a8 ?l8 ?c8 ?k8) (K15.def_mk ?a9 ?l9 ?c9 ?k9) (K15.def_mk ?a10 ?l10 ?c10 ?k10) (K15.def_mk ?a11 ?l11 ?c11 ?k11) (K15.def_mk ?a12 ?l12 ?c12 ?k12) (K15.def_mk ?a13 ?l13 ?c13 ?k13) (K15.def_mk ?a14 ?l14 ?c14 ?k14) (K15.def_mk ?a15 ?l15 ?c15 ?k15) (K15.def_mk ?a16 ?l16 ?c16 ?k16) ?aL ?lL ?cL ?kL ?z1 ?z2 ?z3 ?z4 ?z5 ?z6 ?z7 ?z8 ?z9 ?z10 ?z11 ?z12 ?tz_often ?tz_cut_by
  (case a1=>k_is); (case l1=>k_is); (case c1=>k_is); (case k1=>k_is)
  (case a2=>k_is); (case l2=>k_is); (case c2=>k_is); (case k2=>k_is)
  (case a3=>k_is); (case l3=>k_is); (case c3=>k_is); (case k3=>k_is)
  (case a4=>k_is); (case l4=>k_is); (case c4=>k_is); (case k4=>k_is)
  (case a5=>k_is); (case l5=>k_is); (case c5=>k_is); (case k5=>k_is)
  (case a6=>k_is); (case l6=>k_is); (case c6=>k_is); (case k6=>k_is)
  (case a7=>k_is); (case l7=>k_is); (case c7=>k_is); (case k7=>k_is)
  (case a8=>k_is); (case l8=>k_is); (case c8=>k_is); (case k8=>k_is)
  (case a9=>k_is); (case l9=>k_is); (case c9=>k_is); (case k9=>k_is)
  (case a10=>k_is); (case l10=>k_is); (case c10=>k_is); (case k10=>k_is)
  (case a11=>k_is); (case l11=>k_is); (case c11=>k_is); (case k11=>k_is)
  (case a12=>k_is); (case l12=>k_is); (case c12=>k_is); (case k12=>k_is)
  (case a13=>k_is); (case l13=>k_is); (case c13=>k_is); (case k13=>k_is)
  (case a14=>k_is); (case l14=>k_is); (case c14=>k_is); (case k14=>k_is)
  (case a15=>k_is); (case l15=>k_is); (case c15=>k_is); (case k15=>k_is)
  (case a16=>k_is); (case l16=>k_is); (case c16=>k_is); (case k16=>k_is)
  (case aL=>k_is); (case lL=>k_is); (case cL=>k_is); (case kL=>k_is)
  (case z1=>k_is); (case z2=>k_is); (case z3=>k_is); (case z4=>k_is); (case z5=>k_is); (case z6=>k_is); (case z7=>k_is); (case z8=>k_is); (case z9=>k_is); (case z10=>k_is); (case z11=>k_is); (case z12=>k_is)
  (case tz_often=>k_is)
  (case tz_cut_by=>k_is)