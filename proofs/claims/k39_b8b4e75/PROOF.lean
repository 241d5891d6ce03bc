import PyProof.Rows.All
import KE.KLam
import Wide.All
import OpenK.AllK
import Wide.FinOn
import Lean
import PyProof.EqAt
import PyProof.EqKinds
import PyProof.TupleCall
import PyProof.FactsAll.set
import PyProof.FactsAll.subtypes
import KE.KTupSum
import KE.KMinBuiltin
import PyProof.Draws
import PyProof.DictWalks
import PyProof.DictCompW
import PyProof.IsiH_tuple
import PyProof.FactsAll.zip
import KE.KDictOf
import PyProof.DictValues
import KE.KSortKey
import PyProof.WalkInts
import PyProof.TupleKey
import PyProof.SetRoads
import PyProof.IsRules
import PyProof.StrCalls5
import PyProof.MeetsStr3
import KE.KIntText
import PyProof.StrWalks
import PySem.Challenge.RW_needledeck_k39_whole_one_thing_other
set_option Elab.async false
set_option linter.all false
set_option maxRecDepth 100000
set_option maxHeartbeats 4000000
set_option genSizeOf false
local macro_rules|`(tactic|omega)=>`(tactic|first|lia|omega +splitDisjunctions)
theorem e0a2{A B:Prop}{G:Prop}(k:A→B→G)(h:A∧B):G:=k h.1 h.2
theorem e0a3{A B C:Prop}{G:Prop}(k:A→B→C→G)(h:A∧B∧C):G:=k h.1 h.2.1 h.2.2
theorem e0a4{A B C D:Prop}{G:Prop}(k:A→B→C→D→G)(h:A∧B∧C∧D):G:=k h.1 h.2.1 h.2.2.1 h.2.2.2
theorem e0a5{A B C D E:Prop}{G:Prop}(k:A→B→C→D→E→G)(h:A∧B∧C∧D∧E):G:=k h.1 h.2.1 h.2.2.1 h.2.2.2.1 h.2.2.2.2
theorem e0a6{A B C D E F:Prop}{G:Prop}(k:A→B→C→D→E→F→G)(h:A∧B∧C∧D∧E∧F):G:=k h.1 h.2.1 h.2.2.1 h.2.2.2.1 h.2.2.2.2.1 h.2.2.2.2.2
theorem e1a1{a:Type}{A:a→Prop}{G:Prop}(k:∀x,A x→G)(h:∃x,A x):G:=h.elim λx h=>k x h
theorem e1a2{a:Type}{A B:a→Prop}{G:Prop}(k:∀x,A x→B x→G)(h:∃x,A x∧B x):G:=h.elim λx h=>k x h.1 h.2
theorem e1a3{a:Type}{A B C:a→Prop}{G:Prop}(k:∀x,A x→B x→C x→G)(h:∃x,A x∧B x∧C x):G:=h.elim λx h=>k x h.1 h.2.1 h.2.2
theorem e1a4{a:Type}{A B C D:a→Prop}{G:Prop}(k:∀x,A x→B x→C x→D x→G)(h:∃x,A x∧B x∧C x∧D x):G:=h.elim λx h=>k x h.1 h.2.1 h.2.2.1 h.2.2.2
theorem e2a1{a b:Type}{A:a→b→Prop}{G:Prop}(k:∀x y,A x y→G)(h:∃x y,A x y):G:=h.elim λx h=>h.elim λy h=>k x y h
theorem e2a2{a b:Type}{A B:a→b→Prop}{G:Prop}(k:∀x y,A x y→B x y→G)(h:∃x y,A x y∧B x y):G:=h.elim λx h=>h.elim λy h=>k x y h.1 h.2
theorem e2a3{a b:Type}{A B C:a→b→Prop}{G:Prop}(k:∀x y,A x y→B x y→C x y→G)(h:∃x y,A x y∧B x y∧C x y):G:=h.elim λx h=>h.elim λy h=>k x y h.1 h.2.1 h.2.2
theorem e2a4{a b:Type}{A B C D:a→b→Prop}{G:Prop}(k:∀x y,A x y→B x y→C x y→D x y→G)(h:∃x y,A x y∧B x y∧C x y∧D x y):G:=h.elim λx h=>h.elim λy h=>k x y h.1 h.2.1 h.2.2.1 h.2.2.2
theorem e3a1{b c a:Type}{A:b→c→a→Prop}{G:Prop}(k:∀x y z,A x y z→G)(h:∃x y z,A x y z):G:=h.elim λx h=>h.elim λy h=>h.elim λz h=>k x y z h
theorem e3a3{b c a:Type}{A B C:b→c→a→Prop}{G:Prop}(k:∀x y z,A x y z→B x y z→C x y z→G)(h:∃x y z,A x y z∧B x y z∧C x y z):G:=h.elim λx h=>h.elim λy h=>h.elim λz h=>k x y z h.1 h.2.1 h.2.2
theorem e3a4{b c a:Type}{A B C D:b→c→a→Prop}{G:Prop}(k:∀x y z,A x y z→B x y z→C x y z→D x y z→G)(h:∃x y z,A x y z∧B x y z∧C x y z∧D x y z):G:=h.elim λx h=>h.elim λy h=>h.elim λz h=>k x y z h.1 h.2.1 h.2.2.1 h.2.2.2
theorem e3a5{b c a:Type}{A B C D E:b→c→a→Prop}{G:Prop}(k:∀x y z,A x y z→B x y z→C x y z→D x y z→E x y z→G)(h:∃x y z,A x y z∧B x y z∧C x y z∧D x y z∧E x y z):G:=h.elim λx h=>h.elim λy h=>h.elim λz h=>k x y z h.1 h.2.1 h.2.2.1 h.2.2.2.1 h.2.2.2.2
theorem e4a1{b d a c:Type}{A:b→d→a→c→Prop}{G:Prop}(k:∀x y z w,A x y z w→G)(h:∃x y z w,A x y z w):G:=h.elim λx h=>h.elim λy h=>h.elim λz h=>h.elim λw h=>k x y z w h
theorem e4a2{b d a c:Type}{A B:b→d→a→c→Prop}{G:Prop}(k:∀x y z w,A x y z w→B x y z w→G)(h:∃x y z w,A x y z w∧B x y z w):G:=h.elim λx h=>h.elim λy h=>h.elim λz h=>h.elim λw h=>k x y z w h.1 h.2
theorem e5a2{c a b e d:Type}{A B:c→a→b→e→d→Prop}{G:Prop}(k:∀x y z w u,A x y z w u→B x y z w u→G)(h:∃x y z w u,A x y z w u∧B x y z w u):G:=h.elim λx h=>h.elim λy h=>h.elim λz h=>h.elim λw h=>h.elim λu h=>k x y z w u h.1 h.2
theorem e4a5{b d a c:Type}{A B C D E:b→d→a→c→Prop}{G:Prop}(k:∀x y z w,A x y z w→B x y z w→C x y z w→D x y z w→E x y z w→G)(h:∃x y z w,A x y z w∧B x y z w∧C x y z w∧D x y z w∧E x y z w):G:=h.elim λx h=>h.elim λy h=>h.elim λz h=>h.elim λw h=>k x y z w h.1 h.2.1 h.2.2.1 h.2.2.2.1 h.2.2.2.2
theorem e5a5{c a b e d:Type}{A B C D E:c→a→b→e→d→Prop}{G:Prop}(k:∀x y z w u,A x y z w u→B x y z w u→C x y z w u→D x y z w u→E x y z w u→G)(h:∃x y z w u,A x y z w u∧B x y z w u∧C x y z w u∧D x y z w u∧E x y z w u):G:=h.elim λx h=>h.elim λy h=>h.elim λz h=>h.elim λw h=>h.elim λu h=>k x y z w u h.1 h.2.1 h.2.2.1 h.2.2.2.1 h.2.2.2.2
theorem e6a5{c a b e d t5:Type}{A B C D E:c→a→b→e→d→t5→Prop}{G:Prop}(k:∀x y z w u v,A x y z w u v→B x y z w u v→C x y z w u v→D x y z w u v→E x y z w u v→G)(h:∃x y z w u v,A x y z w u v∧B x y z w u v∧C x y z w u v∧D x y z w u v∧E x y z w u v):G:=h.elim λx h=>h.elim λy h=>h.elim λz h=>h.elim λw h=>h.elim λu h=>h.elim λv h=>k x y z w u v h.1 h.2.1 h.2.2.1 h.2.2.2.1 h.2.2.2.2
theorem e4a7{b d a c:Type}{A B C D E F H:b→d→a→c→Prop}{G:Prop}(k:∀x y z w,A x y z w→B x y z w→C x y z w→D x y z w→E x y z w→F x y z w→H x y z w→G)(h:∃x y z w,A x y z w∧B x y z w∧C x y z w∧D x y z w∧E x y z w∧F x y z w∧H x y z w):G:=h.elim λx h=>h.elim λy h=>h.elim λz h=>h.elim λw h=>k x y z w h.1 h.2.1 h.2.2.1 h.2.2.2.1 h.2.2.2.2.1 h.2.2.2.2.2.1 h.2.2.2.2.2.2
theorem e5a7{c a b e d:Type}{A B C D E F H:c→a→b→e→d→Prop}{G:Prop}(k:∀x y z w u,A x y z w u→B x y z w u→C x y z w u→D x y z w u→E x y z w u→F x y z w u→H x y z w u→G)(h:∃x y z w u,A x y z w u∧B x y z w u∧C x y z w u∧D x y z w u∧E x y z w u∧F x y z w u∧H x y z w u):G:=h.elim λx h=>h.elim λy h=>h.elim λz h=>h.elim λw h=>h.elim λu h=>k x y z w u h.1 h.2.1 h.2.2.1 h.2.2.2.1 h.2.2.2.2.1 h.2.2.2.2.2.1 h.2.2.2.2.2.2
theorem e6a7{c a b e d t5:Type}{A B C D E F H:c→a→b→e→d→t5→Prop}{G:Prop}(k:∀x y z w u v,A x y z w u v→B x y z w u v→C x y z w u v→D x y z w u v→E x y z w u v→F x y z w u v→H x y z w u v→G)(h:∃x y z w u v,A x y z w u v∧B x y z w u v∧C x y z w u v∧D x y z w u v∧E x y z w u v∧F x y z w u v∧H x y z w u v):G:=h.elim λx h=>h.elim λy h=>h.elim λz h=>h.elim λw h=>h.elim λu h=>h.elim λv h=>k x y z w u v h.1 h.2.1 h.2.2.1 h.2.2.2.1 h.2.2.2.2.1 h.2.2.2.2.2.1 h.2.2.2.2.2.2
local macro_rules|`(tactic|obtain $p:rcasesPatMed:=$v:term)=>do
 let c s:=((p.raw.reprint.getD "").splitOn s).length
 if c ","<3||c "|">1||c ":">1 then Lean.Macro.throwUnsupported
 let T (a:Lean.Syntax):Lean.TSyntax `Lean.Parser.Tactic.rcasesPatMed:=⟨a⟩
 let q:=p.raw
 let x:=q[0][0]
 let l:=x[1].getSepArgs
 let mut a:Array (Lean.TSyntax ``Lean.Parser.Tactic.tacticSeq):=#[]
 let mut y:Array Lean.Term:=#[]
 let mut z:Array (Array (Lean.TSyntax `tactic)):=#[]
 for o in l do
  let u:=o[0][0][0]
  let f:=Lean.mkIdent (←Lean.Macro.addMacroScope (.mkSimple s!"f{y.size}"))
  if u[0].getId==`rfl then
   y:=y.push f
   z:=z.push #[←`(tactic|subst $f:term)]
  else if u[0].isIdent then
   y:=y.push ⟨u[0]⟩
   z:=z.push #[]
  else if u[1].isMissing then
   y:=y.push (←`(_))
   z:=z.push #[]
  else
   y:=y.push f
   z:=z.push #[←`(tactic|obtain $(T o[0]):rcasesPatMed:=$f)]
 for j in [0:l.size] do
  if j==1 then continue
  let n:=l.size-j
  let mut i:=y.extract 0 n
  let mut w:=(z.extract 0 n).flatten
  if j>0 then
   i:=i.push (←`(r_))
   w:=w.push (←`(tactic|obtain $(T (q.setArg 0 (q[0].setArg 0 (x.setArg 1 (Lean.mkNullNode (Lean.mkSepArray (l.extract n l.size) (Lean.mkAtom ","))))))):rcasesPatMed:=r_))
  for k in [0:i.size] do
   let m:=Lean.mkIdent (.mkSimple s!"e{k}a{i.size-k}")
   let g←if v.raw.isIdent then `(tactic|(revert $(⟨v⟩):ident;refine $m fun $i*=>?_)) else `(tactic|refine $m (fun $i*=>?_) $v)
   a:=a.push (←`(Lean.Parser.Tactic.tacticSeq| $g:tactic;$[$w];*))
  if j==0&& !v.raw.isIdent then
   a:=a.push (←`(Lean.Parser.Tactic.tacticSeq| have h_ := $v; obtain $p := h_))
   break
 a:=a.push (←`(Lean.Parser.Tactic.tacticSeq| rcases $v:term with $p))
 `(tactic|first $[| $a]*)
open Array renaming length_toList → Ff, forIn_toList → Yd, perm_iff_toList_perm → gW, getElem?_eq_getElem → kP, getElem?_eq_none → oZ
open Bool renaming and_eq_true → Cd, false_ne_true → Cr, false_eq_true → Dh, eq_iff_iff → Vb
open Classical renaming propDecidable → Dr, byContradiction → Eg
open False renaming elim → Kn
open ForInStep renaming yield → Hv, done → Os
open Function renaming comp_def → Qd, comp → Vq
open Int renaming toNat_natCast → Cs, le_refl → Gs, toNat_of_nonneg → Pr, eq_ofNat_of_zero_le → sN
open LawfulBEq renaming eq_of_beq → Vp
open List renaming mem_cons_self → Aa, length_map → Ac, mem_cons_of_mem → Ae, getElem?_eq_some_iff → Af, getElem?_eq_getElem → Ag, mem_singleton → Ak, mem_cons → Ao, mem_append_left → Ap, getElem?_map → Aq, mem_of_getElem? → Au, size_toArray → Av, mem_append_right → Aw, map_cons → Ax, pairwise_cons → Ba, mem_append → Bf, map_append → Bg, mem_map → Bh, mem_filter → Bi, map_map → Bm, not_mem_nil → Bn, range → Bq, getD_eq_getElem?_getD → Br, length_cons → Bu, nodup_cons → Bw, mem_iff_getElem? → Bx, length_append → Bz, lookup_cons → Ca, sublist_append_right → Cf, replicate → Ci, length_range → Co, sublist_cons_self → Cw, pairwise_append → Da, append_assoc → Df, append_nil → Dk, nodup_nil → Dt, pairwise_iff_getElem → Du, map_set → Ea, mem_range → En, map_congr_left → Es, ext_getElem? → Eu, cons_append → Ez, all_eq_true → Fb, map_eq_nil_iff → Fh, length → Fi, getElem?_set → Fj, filter_append → Fn, take_length → Fp, length_take → Fq, replicate_succ → Ga, perm_middle → Gj, nodup_append → Gy, mem_map_of_mem → Hd, take_of_length_le → Hi, any_cons → Hl, zip_cons_cons → Ht, length_zipIdx → Hu, reverse_cons → Ig, flatten_cons → Ih, getElem?_take_of_lt → Ip, length_reverse → Iy, mem_flatMap → Jb, mem_replicate → Ji, map_nil → Jj, mem_zipIdx_iff_getElem? → Jo, length_nil → Jp, find?_cons → Jq, dropLast_concat_getLast → Jr, length_singleton → Kb, getElem?_toArray → Kc, eraseIdx_sublist → Kd, take_add_one → Kf, pairwise_map → Kg, getElem?_append_right → Kt, getElem_mem → Kz, drop_eq_getElem_cons → Lb, length_zip → Lv, pairwise_singleton → Mf, lookup → Mg, length_eq_zero_iff → Mh, take_sublist → Mz, append_eq_nil_iff → Na, all_map → Nb, mk_mem_zipIdx_iff_getElem? → Nr, getElem?_eq_none → Nx, getElem?_set_ne → On, filter_eq_self → Pl, filterMap_cons → Pm, any_map → Pp, mem_of_find?_eq_some → Qx, take_subset → Su, getElem?_set_self → Uh, filter_eq_nil_iff → Ui, nil_append → Va, perm_append_comm → Vj, getElem?_range → Xu, set_cons_succ → Zd, mapM_toArray → aC, foldl_append → aD, mem_reverse → dW, length_drop → dX, isEmpty_iff → dY, getElem?_append_left → kX, set_eq_of_length_le → oV, length_erase_of_mem → oW, mem_singleton_self → oX, length_pos_of_mem → sJ, drop_of_length_le → sL, length_pos_iff → yG, mem_filterMap → M9, find?_eq_none → N0
open List.Pairwise renaming nil → Lc
open List.Perm renaming swap → Fe, refl → Sx
open List.Sublist renaming refl → Cu
open List.cons renaming inj → Dd
open MonadExcept renaming tryCatch → Zo
open Nat renaming le_refl → Ar, lt_of_lt_of_le → Bs, ne_of_lt → By, le_trans → Ce, zero_le → Dg, pow_le_pow_right → Dj, lt_irrefl → Ey, lt_of_le_of_lt → Jn, le_of_lt → La, not_lt_zero → Me, le_add_right → Sw, le_succ → Wo, lt_succ_of_lt → aV, min_eq_right → eJ
open Ne renaming symm → Li
open Option renaming isSome_iff_exists → Qw, getD_some → aB
open Option.some renaming inj → Bo
open Or renaming inl → Cy, inr → Ie
open PyProof.Rows renaming seqObj → Cv, wpS_bind → Dx, SortSt → Eb, IntsAre → El, slot_tuple_getitem → Er, callWith_type1 → Fk, wpS_pure → Gc, callWith_kw → Hs, pendingOf → Ir, get?_update_seq → Iu, listUpdate_at → Kq, SortKind → Od, size_push' → Pj, envOfC → Pk, wpS_forRange → Qy, Subscript_ → Sk, seqEpoch_at → Ud, AllBare → Uk, subscriptTail → Ux, reverseSlice' → Uz, callWith_builtin1 → Wh, listItems_at → Wm, firstOfTuple' → dS, subscriptTail_builtinR → N4, call_function_entry_kw → N6
open PySem renaming wpAny_bind → Ab, PyData → Ad, Shared → Am, wpAny_pure → An, sizeLine → Az, starEach → Bl, Program → Bp, FuncData → Cb, wpAny_holding → Cc, mainGlobals → Ck, Around → Cn, foldedSetIterable → Cz, wpAny_newObj_type → Ek, wpAny_mono → Eo, sizeLine_eq → Fc, assignEach → Fd, cellsFrom → Fm, wpAny_Call_Name_kw → Ft, wpAny_callSpecial?_slot → Fu, wpAny_truthy_bool → Gd, wpAny_call_entry → Gq, backTo → Gr, plainId_quiet → Gx, swapsWith → Hg, compareOp → Hh, sysModules → Hk, codeAny_builtin → Iv, binaryOp → Iw, wpAny_tryCatch → Jl, rawInt → Jm, wpAny_typeNameOfWhole_keyiter → Jy, unsetMember → Jz, sliceBounds → Ka, bootBuiltins → Ke, wpAny_loadPart' → Km, behindInMarks → Kr, wpAny_seqItems → Lo, wpAny_letGo → Lp, wpAny_field → Lq, wpAny_typeOf → Ls, wpAny_typeNameOf_keyiter → Mn, wpAny_newList → Mo, wpAny_attempt → Mp, wpAny_updateSeq → Mx, holding → My, pyNext → Nh, closureFor → Ni, DictEntry → Nt, Arguments → Nu, recursionLimit → Oc, wpAny_rule → Pi, attributeBase → Po, Keyword → Pq, ZipApart → Qa, NameKind → Qb, wpAny_passesOwn → Qm, codeAny → Qz, tupleKind → Sa, codeAmong → Sb, wpAny_Name → Sh, intItems → Si, assign → Sj, IsPair → Sm, wpAny_pyIter_list → Ub, slot_list_getitem → Uc, keywordEach → Ue, getItem → Ug, wpAny_standAt → Uv, wpAny_getItem_list_slice → Uw, strLen_append → Uy, wpAny_isInstance → Vo, wpAny_nextOf_list_item → Wl, builtinsNs → Wn, letOwnedTupleGo → Xr, wpAny_notOrdered_dict → Xv, wpAny_newTuple → Zm, wpAny_loadName_local → Zn, firstArgMember → Zp, IsPart → Zq, callerA → aA, wpAny_loadName_free → aU, evalPart_none → dU, wpAny_load → eB, tupleKind_room_in1 → eE, entryOfKey → eG, call_meets → eI, wpAny_sequenceKey → gT, wpAny_dictEntries → gU, codeAny_mono → gV, wpAny_pyIter_zip → kU, noFill_tuple_add → kW, richCompare_meets_room → N5
open PySem.Around renaming under_plainId → Fo
open PySem.AutoSeq1 renaming sub_tuple_tuple → fM
open PySem.Builtin renaming sorted → Xy
open PySem.Builtin.Builtins renaming bindParams → Iq
open PySem.Builtin.Dict renaming updateFrom → aW
open PySem.Builtin.Dict_items renaming ownsTuple → Uj
open PySem.Builtin.List renaming listTooLong → Ph
open PySem.Builtin.Range renaming rangeSize → aE
open PySem.Builtin.Slice renaming slicePlaces → Js, sliceAdjust → Oe, sliceApplied → Yc
open PySem.Builtin.SmallTypes renaming ownedTupleIsFree → Gg, nextOf → Jc
open PySem.Builtin.Tuple renaming tupleExact → Kh, tupleCompareSizes → Vk, tupleItemsOf → Xz, tupleIsExact → Yb
open PySem.Calls renaming spliced_cons → Hq, spliced_nil → Mq, Name_function_global → Qe, loadGlobal_builtin → kY, callWith_builtin → oY
open PySem.F renaming slot_zip_next → Wi
open PySem.Heap renaming get?_push_of_some → Ai, lt_size → Bb, get?_push_size → Be, get?_update_other → Fw, get?_update_self → Gf, SameBut → Gk, size_update → Hm, get?_none_of_le → Ku
open PySem.Heap.IsSliceOf renaming new → Sv
open PySem.Heap.SameBut renaming update → Cj
open PySem.NameKind renaming cell → Ef, free → Em
open PySem.Obj renaming mapSeq → Cg
open PySem.PassesOwn renaming never → Dn
open PySem.PyData renaming int → Ah, depthAll → Bk, depth → Cm, showable → Jh, list → Lu, hasDict → Mj, shownAll → Om, shown → Pg, showableAll → Xs, hasDictAll → Zc
open PySem.PyData.list renaming inj → Qv
open PySem.SeqAt renaming EqAt → Nw
open PySem.Str renaming ofString → Do
open PySem.Value renaming ref → Bc, type → Ij, none → Jf, int → Nv, bool → Xx
open PySem.Walks renaming list → Xw
open Sum renaming inl → Sd
open ToString renaming toString → Lr
open True renaming intro → Ks
namespace L2
open PySem PySem.Spec PyProof.Rows
abbrev Ib:=Sum Int Str
def gH:Ib->Value->Bool
 | .inl k,v=>Value.isInt k v
 | .inr x,v=>Value.isStrOf x v
def LL(w:World):Ib->Int
 | .inl k=>hashInt k
 | .inr x=>hashStr w x
theorem Hy:∀{k:Ib} {v:Value},gH k v=true->(∃i t,k=Sd i/\v=Nv i t)\/(∃x t,k=Sum.inr x/\v=Value.str x t)
 | .inl i,v,h=>by
  obtain ⟨t,e⟩:=Value.isInt_shape (k:=i) (v:=v) h
  exact .inl ⟨i,t,rfl,e⟩
 | .inr x,v,h=>by
  obtain ⟨t,e⟩:=Value.isStrOf_shape (x:=x) (v:=v) h
  exact .inr ⟨x,t,rfl,e⟩
theorem xI(i:Int)(t:Tok):gH (.inl i) (.int i t)=true:=by simp [gH,Value.isInt]
theorem vW(x:Str)(t:Tok):gH (.inr x) (.str x t)=true:=by simp [gH,Value.isStrOf]
theorem BJ(a b:Int):decide ((Sd a:Ib)=Sd b)=(a == b):=by
 by_cases e:a=b
 ·subst e; simp
 ·have h:¬ (Sd a:Ib)=Sd b:=λq=>e (Sum.inl.inj q)
  rw[decide_eq_false h]
  exact (beq_eq_false_iff_ne.mpr e).symm
theorem FX(a b:Str):decide ((Sum.inr a:Ib)=Sum.inr b)=decide (a=b):=by
 by_cases e:a=b
 ·subst e; simp
 ·have h:¬ (Sum.inr a:Ib)=Sum.inr b:=λq=>e (Sum.inr.inj q)
  rw[decide_eq_false h,decide_eq_false e]
theorem DQ(a:Int)(b:Str):decide ((Sd a:Ib)=Sum.inr b)=false:=decide_eq_false (λq=>nomatch q)
theorem ET(a:Str)(b:Int):decide ((Sum.inr a:Ib)=Sd b)=false:=decide_eq_false (λq=>nomatch q)
def Hx(prog:Bp)(w:World):PySem.KeyKind prog w Ib where
 is:=gH
 hash:=LL w
 inj:=λv a b f d=>by
  rcases Hy f with ⟨i,t,rfl,rfl⟩ | ⟨x,t,rfl,rfl⟩
  ·rcases Hy d with ⟨j,u,rfl,e⟩ | ⟨y,u,rfl,e⟩
   ·injection e with e1 _; rw[e1]
   ·exact nomatch e
  ·rcases Hy d with ⟨j,u,rfl,e⟩ | ⟨y,u,rfl,e⟩
   ·exact nomatch e
   ·injection e with e1 _; rw[e1]
 byValue:=λk v h=>by
  rcases Hy h with ⟨i,t,rfl,rfl⟩ | ⟨x,t,rfl,rfl⟩ <;> rfl
 pyHash:=λc h=>by
  rcases Hy c with ⟨i,t,rfl,rfl⟩ | ⟨x,t,rfl,rfl⟩
  ·exact wpAny_pyHash_int h
  ·exact wpAny_pyHash_str h
 eqBool:=λg c h=>by
  rcases Hy g with ⟨i,t,rfl,rfl⟩ | ⟨x,t,rfl,rfl⟩
  ·rcases Hy c with ⟨j,u,rfl,rfl⟩ | ⟨y,u,rfl,rfl⟩
   ·rw[BJ] at h; exact wpAny_eqBool_int h
   ·rw[DQ] at h; exact SeqAt.EqAt.int_str i t y u _ _ _ _ h
  ·rcases Hy c with ⟨j,u,rfl,rfl⟩ | ⟨y,u,rfl,rfl⟩
   ·rw[ET] at h; exact SeqAt.EqAt.str_int x t j u _ _ _ _ h
   ·rw[FX] at h; exact wpAny_eqBool_str h
 «strs»:=λk x t v h=>by
  rcases Hy h with ⟨i,u,rfl,e⟩ | ⟨y,u,rfl,e⟩
  ·exact nomatch e
  ·injection e with e1 _
   subst e1
   cases v <;> rfl
theorem lS(prog:Bp)(w:World)(i:Int)(t:Tok):(Hx prog w).is (.inl i) (.int i t)=true:=xI i t
theorem nO(prog:Bp)(w:World)(x:Str)(t:Tok):(Hx prog w).is (.inr x) (.str x t)=true:=vW x t
inductive V where
 | non | bl (b:Bool) | int (i:Int) | str (x:Str) | byt (b:Array UInt8) | flt (b:UInt64) | ref (a:Addr) | ty (n:String)
 deriving DecidableEq
def RelV:V->Value->Prop
 | .non,u=>u=Jf
 | .bl b,u=>u=Xx b
 | .int i,u=>∃t,u=Nv i t
 | .str x,u=>∃t,u=Value.str x t
 | .byt b,u=>∃t,u=Value.bytes b t
 | .flt b,u=>∃t,u=Value.float b t
 | .ref a,u=>u=Bc a
 | .ty n,u=>u=Ij n
abbrev Fs:List V->List Value->Prop:=Paired RelV
theorem Fs.length(r:Fs xs us):xs.length=us.length:=Paired.length r
theorem Fs.get:∀{xs:List V} {us:List Value} {i:Nat} {x:V},Fs xs us->xs[i]? = some x->∃u,us[i]? = some u/\RelV x u
 | _,_,_,_,.nil,e=>by simp at e
 | _,_,0,_,.cons r _,e=>by simp at e; subst e; exact ⟨_,rfl,r⟩
 | _,_,i+1,x,.cons _ t,e=>by
  obtain ⟨u,a,b⟩:=Fs.get (i:=i) (x:=x) t (by simpa using e)
  exact ⟨u,by simpa using a,b⟩
theorem Fs.set(r:RelV x u):∀{xs:List V} {us:List Value} (i:Nat),Fs xs us->Fs (xs.set i x) (us.set i u)
 | _,_,_,.nil=>.nil
 | _,_,0,.cons _ t=>.cons r t
 | _,_,i+1,.cons q t=>.cons q (Fs.set r i t)
theorem Fs.append:∀{xs ys:List V} {us ws:List Value},Fs xs us->Fs ys ws->Fs (xs++ys) (us++ws)
 | _,_,_,_,.nil,s=>s
 | _,_,_,_,.cons r t,s=>.cons r (Fs.append t s)
theorem Fs.take:∀{xs:List V} {us:List Value} (n:Nat),Fs xs us->Fs (xs.take n) (us.take n)
 | _,_,0,_=>.nil
 | _,_,_+1,.nil=>.nil
 | _,_,n+1,.cons r t=>.cons r (Fs.take n t)
theorem Fs.drop:∀{xs:List V} {us:List Value} (n:Nat),Fs xs us->Fs (xs.drop n) (us.drop n)
 | _,_,0,r=>r
 | _,_,_+1,.nil=>.nil
 | _,_,n+1,.cons _ t=>Fs.drop n t
def kZ:Option V->Option Value->Prop
 | some v,some u=>RelV v u
 | none,none=>True
 | _,_=>False
def KV{a:Type}:List (a×V)->List (a×Value)->Prop:=Paired λ(p:a×V) (q:a×Value)=>p.1=q.1/\RelV p.2 q.2
def kV:Ib->V
 | .inl i=>.int i
 | .inr x=>.str x
inductive HO where
 /-- a list -/
 | lst (xs:List V)
 /-- a tuple (never changes) -/
 | tup (xs:List V)
 /-- a dict whose keys are ints and texts; one whose keys are tuples of ints and texts (the empty one is both) -/
 | dK (kvs:List (Ib×V)) | dT (kvs:List (List Ib×V))
 /-- a set of ints: its members,its size -/
 | set (S:Int->Bool) (n:Nat)
 /-- an instance of the class at C,its dict at dx,its attributes -/
 | ins (C dx:Addr) (fs:List (Str×V))
 /-- the dict of the instance at x -/
 | own (x:Addr)
 /-- the dict of an exception -/
 | xd (fs:List (Str×V))
 /-- a bound method,f of x -/
 | met (f x:Addr)
 /-- a range object lo,lo+1,.. below hi -/
 | rng (lo hi:Int)
 /-- a thing that is known to the object (the script; a dict while a loop walks it): read,never written while it is so -/
 | frz (o:Obj) (u:HO)
 /-- a code object's table -/
 | tbl (ps:Array Value)
 /-- any other thing,by what is true of its one object (a def of one's own: LN a S n:=HO.ext λh=>..) -/
 | ext (φ:Heap->Prop)
abbrev Hp:=Addr->Option HO
def upd(H:Hp)(a:Addr)(o:HO):Hp:=λb=>if b=a then some o else H b
theorem Dq:upd H a o a=some o:=by unfold upd; rw[if_pos rfl]
theorem Cp(h:b≠a):upd H a o b=H b:=by unfold upd; rw[if_neg h]
theorem AL{H:Hp}{a b:Addr}{o u:HO}(h:H a=some o)(h':H b=some u)(d:o≠u):a≠b:=by
 intro e; subst e; rw[h] at h'; exact d (Bo h')
theorem Dm{H:Hp}{a b:Addr}{o:HO}(h:H a=some o)(h':H b=none):a≠b:=by
 intro e; subst e; rw[h] at h'; cases h'
section
variable(P:Bp)(w:World)
def Hz(H:Hp)(h:Heap)(a:Addr):HO->Prop
 | .lst e=>e.length<=Az/\∃(b:List Value) (n:Nat),Fs e b/\h.get? a=some { cls:=.type "list",data:=.seq b.toArray n }
 | .tup e=>e.length<=Az/\∃b:List Value,Fs e b/\IsTup h a b.toArray
 | .dK d=>d.length<=Az/\(a == Hk)=false/\∃vs,KV d vs/\h.DictOf (Hx P w) a vs
 | .dT d=>d.length<=Az/\(a == Hk)=false/\∃e:List (List Ib×Addr×Value),
   Paired (λ(p:List Ib×V) (q:List Ib×Addr×Value)=>p.1=q.1/\H q.2.1=some (.tup (p.1.map kV))/\RelV p.2 q.2.2) d e /\
   ∃o l y,h.get? a=some o/\o.ExactDict/\o.data=.dict l y/\l.toList=e.map (eG (Sa (Hx P w)))/\(e.map (·.1)).Nodup/\y=l.size
 | .set S n=>h.SetOf (intKind P w) a S n
 | .ins C i fs=>H i=some (.own a)/\fs.length<=1000/\i≠a/\h.get? a=some (PySem.W.instObj C i) /\
   ∃g,h.Ns1 i g/\(∀f,kZ (fs.lookup f) (g f))/\PySem.Within g (fs.map (·.1))
 | .own _=>∃o,h.get? a=some o
 | .xd fs=>∃g,h.Ns1 a g/\∀f,kZ (fs.lookup f) (g f)
 | .rng lo E=>∃t u v,h.get? a=some { cls:=.type "range",data:=.fields #[.int lo t,.int E u,.int 1 v] }
 | .frz o u=>h.get? a=some o/\Hz H h a u
 | .tbl D=>∃j:Array Value,h.get? a=some { cls:=.none,data:=.fields j }/\TriplesOk j.toList/\∀(k:Pos) (v:Value),Sb k j.toList=some v->∃(c:Addr) (s:Obj) (r:Array Value) (q:Str) (t B:Tok),v=.ref c/\H c=some (.own a)/\h.get? c=some s/\s.data=.fields r/\r[1]? = some (.str q t)/\D[0]? = some (.str q B)
 | .met f x=>h.get? a=some (PySem.W.methodObj (.ref f) (.ref x))
 | .ext m=>m h/\(∃o,h.get? a=some o)/\∀z A:Heap,m z->(∀o,z.get? a=some o->A.get? a=some o)->m A
def Wq(H:Hp)(h:Heap):Prop:=∀a o,H a=some o->Hz P w H h a o
end
section
variable{P:Bp}{w:World}{H H':Hp}{h h':Heap}{a:Addr}{o:HO}
theorem Hz.lt(x:Hz P w H h a o):a<h.objs.size:=by
 cases o with
 | lst c=>obtain ⟨_,_,_,_,e⟩:=x; exact Bb e
 | tup c=>obtain ⟨_,_,_,p⟩:=x; exact p.lt
 | dK b=>obtain ⟨_,_,_,_,o,_,_,e,_⟩:=x; exact Bb e
 | dT b=>obtain ⟨_,_,_,_,o,_,_,e,_⟩:=x; exact Bb e
 | set S n=>obtain ⟨o,_,_,_,e,_⟩:=x; exact Bb e
 | ins C i fs=>obtain ⟨_,_,_,e,_⟩:=x; exact Bb e
 | own y=>obtain ⟨_,e⟩:=x; exact Bb e
 | xd fs=>obtain ⟨_,⟨_,_,_,e,_⟩,_⟩:=x; exact Bb e
 | rng lo g=>obtain ⟨_,_,_,e⟩:=x; exact Bb e
 | frz d u=>obtain ⟨e,_⟩:=x; exact Bb e
 | tbl j=>obtain ⟨_,e,_⟩:=x; exact Bb e
 | met f y=>exact Bb (show h.get? a=some _ from x)
 | ext k=>obtain ⟨_,⟨_,e⟩,_⟩:=x; exact Bb e
theorem Paired.mapP:∀{c:List g} {d:List e},Paired F c d->(∀a b,F a b->G a b)->Paired G c d
 | _,_,.nil,_=>.nil
 | _,_,.cons r t,f=>.cons (f _ _ r) (Paired.mapP t f)
theorem Hz.stay(x:Hz P w H h a o)(k:∀b u,(b=a\/H b=some (.own a))->h.get? b=some u->h'.get? b=some u)(E:∀b,H b=some (.own a)->H' b=some (.own a))(L:∀b xs,H b=some (.tup xs)->H' b=some (.tup xs)):Hz P w H' h' a o:=by
 induction o with
 | lst xs=>obtain ⟨z,l,n,r,e⟩:=x; exact ⟨z,l,n,r,k _ _ (.inl rfl) e⟩
 | tup xs=>obtain ⟨z,l,r,g,e,c⟩:=x; exact ⟨z,l,r,g,k _ _ (.inl rfl) e,c⟩
 | dK A=>obtain ⟨z,y,vs,r,g,j,i,e,c⟩:=x; exact ⟨z,y,vs,r,g,j,i,k _ _ (.inl rfl) e,c⟩
 | dT A =>
  obtain ⟨z,y,xs,r,g,j,i,e,c⟩:=x
  exact ⟨z,y,xs,Paired.mapP r λp q z=>⟨z.1,L _ _ z.2.1,z.2.2⟩,g,j,i,k _ _ (.inl rfl) e,c⟩
 | set S n=>obtain ⟨g,j,i,t,e,c⟩:=x; exact ⟨g,j,i,t,k _ _ (.inl rfl) e,c⟩
 | ins C T fs =>
  obtain ⟨d,z,J,e,m,⟨s,j,i,I,c⟩,r⟩:=x
  exact ⟨E _ d,z,J,k _ _ (.inl rfl) e,m,⟨s,j,i,k _ _ (.inr d) I,c⟩,r⟩
 | own y=>obtain ⟨g,e⟩:=x; exact ⟨g,k _ _ (.inl rfl) e⟩
 | xd fs=>obtain ⟨m,⟨s,j,i,e,c⟩,r⟩:=x; exact ⟨m,⟨s,j,i,k _ _ (.inl rfl) e,c⟩,r⟩
 | rng lo V=>obtain ⟨t,u,v,e⟩:=x; exact ⟨t,u,v,k _ _ (.inl rfl) e⟩
 | frz g u F=>obtain ⟨e,q⟩:=x; exact ⟨k _ _ (.inl rfl) e,F q⟩
 | tbl U =>
  obtain ⟨Q,e,t,z⟩:=x
  exact ⟨Q,k _ _ (.inl rfl) e,t,λB v y=>by
   obtain ⟨c,O,N,q,t,G,R,D,M,K⟩:=z B v y
   exact ⟨c,O,N,q,t,G,R,E _ D,k _ _ (.inr D) M,K⟩⟩
 | met f y =>
  have e:h.get? a=some (PySem.W.methodObj (.ref f) (.ref y)):=x
  show h'.get? a=some (PySem.W.methodObj (.ref f) (.ref y))
  exact k a _ (.inl rfl) e
 | ext X=>obtain ⟨p,⟨o,e⟩,st⟩:=x; exact ⟨st _ _ p λo q=>k _ _ (.inl rfl) q,⟨o,k _ _ (.inl rfl) e⟩,st⟩
theorem Wq.lt(x:Wq P w H h)(e:H a=some o):a<h.objs.size:=(x a o e).lt
theorem Wq.fresh(x:Wq P w H h)(e:h.objs.size<=a):H a=none:=by
 cases q:H a with
 | none=>rfl
 | some u=>exact absurd (Bs (x.lt q) e) (Ey _)
theorem Wq.kept(x:Wq P w H h)(k:∀b u,h.get? b=some u->h'.get? b=some u):Wq P w H h':=λa o e =>
 (x a o e).stay (λb u _ q=>k b u q) (λ_ q=>q) λ_ _ q=>q
theorem Wq.laid(x:Wq P w H h)(k:∀b u,h.get? b=some u->h'.get? b=some u)(i:h.objs.size<=a)(d:Hz P w (upd H a o) h' a o):Wq P w (upd H a o) h':=λb u e=>by
 have g:=x.fresh i
 by_cases f:b=a
 ·subst f; rw[Dq] at e; cases e; exact d
 ·rw[Cp f] at e
  exact (x b u e).stay (λc v _ q=>k c v q) (λc q=>by rw[Cp (Dm q g)]; exact q) λc j q=>by rw[Cp (Dm q g)]; exact q
end
def Rd(H:Hp)(a:Addr)(u:HO):Prop:=H a=some u\/∃o,H a=some (.frz o u)
theorem Rd.ok(r:Rd H a u)(x:Wq P w H h):Hz P w H h a u:=by
 rcases r with r | ⟨o,r⟩
 ·exact x a u r
 ·obtain ⟨_,q⟩:=x a _ r
  exact q
def JM:Option HO->Prop
 | some (.lst _)=>True
 | some (.dK _)=>True
 | some (.dT _)=>True
 | some (.set _ _)=>True
 | some (.ins _ _ _)=>True
 | some (.ext _)=>True
 | _=>False
section
variable{P:Bp}{w:World}{H:Hp}{h h':Heap}{x e:Addr}{a:HO}
theorem Wq.write(ok:Wq P w H h)(i:JM (H x))(n:e=x\/H e=some (.own x))(k:∀b u,b≠e->h.get? b=some u->h'.get? b=some u)(l:∃u,h'.get? e=some u)(m:Hz P w (upd H x a) h' x a):Wq P w (upd H x a) h':=λb u q=>by
 have f:∀c y,H c=some (.own y)->c≠x:=λc y r z=>by subst z; rw[r] at i; exact i
 have j7:∀c j,H c=some (.tup j)->c≠x:=λc j r z=>by subst z; rw[r] at i; exact i
 by_cases g:b=x
 ·subst g; rw[Dq] at q; cases q; exact m
 ·rw[Cp g] at q
  by_cases d:b=e
  ·have o:H b=some (.own x):=by
    rcases n with z | z
    ·exact absurd (d.trans z) g
    ·rw[d]; exact z
   rw[q] at o; cases o
   obtain ⟨v,p⟩:=l
   exact ⟨v,by rw[d]; exact p⟩
  ·refine (ok b u q).stay (λc v hc r=>k c v ?_ r) (λc r=>by rw[Cp (f c b r)]; exact r) λc j r=>by rw[Cp (j7 c j r)]; exact r
   rcases hc with rfl | hc
   ·exact d
   ·rintro rfl
    rcases n with z | z
    ·exact f c b hc z
    ·rw[hc] at z; cases z; exact g rfl
end
structure Un(fs ex:List Addr)(H H':Hp)(h h':Heap):Prop where
 keep:∀b o,h.get? b=some o->H b=none->b∉fs->b∉ex->h'.get? b=some o
 slot:∀b o,h.get? b=some o->H b=none->b∈fs->b∉ex->∃sl,h'.get? b=some { o with slots:=sl }
 free:∀b o,h.get? b=some o->H b=none->b∉ex->H' b=none
 there:∀b o,h.get? b=some o->b∉ex->∃o',h'.get? b=some o'
 tups:∀b xs,H b=some (.tup xs)->H' b=some (.tup xs)
 frzs:∀b o u,H b=some (.frz o u)->H' b=some (.frz o u)
 tbls:∀b ps,H b=some (.tbl ps)->∃more,H' b=some (.tbl (ps++more))
section
variable{fs c ex f:List Addr}{H d g:Hp}{h h1 i h':Heap}{a x e:Addr}{o:HO}
theorem Un.any(u:Un fs ex H d h h1){b:Addr}{a:Obj}(q:h.get? b=some a)(n:H b=none)(c:b∉ex):∃f,h1.get? b=some { a with slots:=f }:=by
 by_cases e:b∈fs
 ·exact u.slot b a q n e c
 ·exact ⟨a.slots,u.keep b a q n e c⟩
theorem Un.kept(k:∀b u,h.get? b=some u->h'.get? b=some u):Un fs ex H H h h' :=
 ⟨λb a q _ _ _=>k b a q,λb a q _ _ _=>⟨a.slots,k b a q⟩,λ_ _ _ n _=>n,λb a q _=>⟨a,k b a q⟩,λ_ _ q=>q,λ_ _ _ q=>q,λ_ c q=>⟨#[],by rw[q]; simp⟩⟩
theorem Un.refl:Un fs ex H H h h:=Un.kept λ_ _ q=>q
theorem Un.laid(k:∀b u,h.get? b=some u->h'.get? b=some u)(d:h.objs.size<=a)(c:H a=none):Un fs ex H (upd H a o) h h' where
 keep:=λb u q _ _ _=>k b u q
 slot:=λb u q _ _ _=>⟨u.slots,k b u q⟩
 free:=λb u q n _=>by rw[Cp (By (Bs (Bb q) d))]; exact n
 there:=λb u q _=>⟨u,k b u q⟩
 tups:=λb e q=>by rw[Cp (Dm q c)]; exact q
 frzs:=λb u e q=>by rw[Cp (Dm q c)]; exact q
 tbls:=λb f q=>⟨#[],by rw[Cp (Dm q c),q]; simp⟩
theorem Un.write(c:JM (H x))(j:e=x\/H e=some (.own x))(k:∀b u,b≠e->h.get? b=some u->h'.get? b=some u)(d:∃u,h'.get? e=some u):Un fs ex H (upd H x o) h h':=by
 have i:∀b,H b=none->b≠x:=λb n z=>by subst z; rw[n] at c; exact c
 have g:∀b,H b=none->b≠e:=λb n z=>by
  subst z
  rcases j with r | r
  ·exact i b n r
  ·rw[n] at r; cases r
 have f:∀b u,H b=some u->¬ JM (some u)->b≠x:=λb u q l z=>by subst z; rw[q] at c; exact l c
 refine ⟨λb u q n _ _=>k b u (g b n) q,λb u q n _ _=>⟨u.slots,k b u (g b n) q⟩,λb u q n _=>by rw[Cp (i b n)]; exact n,λb u q _=>?_,
  λb m q=>by rw[Cp (f b _ q λz=>z)]; exact q,λb u m q=>by rw[Cp (f b _ q λz=>z)]; exact q,λb p q=>⟨#[],by rw[Cp (f b _ q λz=>z),q]; simp⟩⟩
 by_cases a:b=e
 ·subst a; exact d
 ·exact ⟨u,k b u a q⟩
end
def KP(h:Heap)(H:Hp):List Addr:=(Bq h.objs.size).filter λa=>(H a).isSome
def eR(h:Heap)(H:Hp):Heap:=PySem.W.hideAll h (KP h H)
theorem vR(h:Heap)(H:Hp):(eR h H).objs.size=h.objs.size:=PySem.W.hideAll_size _ _
theorem z0(e:h.get? b=some o)(n:H b=none):(eR h H).get? b=some o :=
 PySem.W.hideAll_get _ e λa=>by
  have q:(H b).isSome=true:=(Bi.mp a).2
  rw[n] at q; simp at q
theorem N9(e:(eR h H).get? b=some o):h.get? b=some o/\H b=none:=by
 have a:h.get? b=some o:=PySem.W.of_hideAll (KP h H) e
 refine ⟨a,?_⟩
 cases q:H b with
 | none=>rfl
 | some x =>
  have c:b∈KP h H:=Bi.mpr ⟨En.mpr (Bb a),by simp [q]⟩
  have z:(eR h H).get? b=none:=PySem.W.hideAll_none (KP h H) c
  rw[z] at e; cases e
def Pz(g h:Heap)(L:Addr):List (Addr×Obj):=(Bq h.objs.size).filterMap λa=>if a=L\/(g.get? a).isSome=true then none else (h.get? a).map λo=>(a,o)
theorem nC(h1:a≠L)(c:g.get? a=none)(b:h.get? a=some o):(a,o)∈Pz g h L :=
 M9.mpr ⟨a,En.mpr (Bb b),by simp [h1,c,b]⟩
theorem bD(c:p∈Pz g h L):p.1≠L/\g.get? p.1=none/\h.get? p.1=some p.2:=by
 obtain ⟨b,_,e⟩:=List.mem_filterMap.mp c
 split at e
 ·cases e
 ·rename_i a
  cases q:h.get? b with
  | none=>rw[q] at e; simp at e
  | some u =>
   rw[q] at e
   simp only[Option.map_some,Option.some.injEq] at e
   subst e
   refine ⟨λz=>a (.inl z),?_,q⟩
   show g.get? b=none
   cases r:g.get? b with
   | none=>rfl
   | some v=>exact (a (.inr (by simp [r]))).elim
def Ms(g h:Heap)(L d:Addr):List (Addr×Obj):=(Pz g h L).filter λp=>decide (p.1≠d)
theorem B7:News g L h (Pz g h L):=λp d=>let ⟨a,b,c⟩:=bD d; ⟨c,a,b⟩
structure Mod(K:PySem.W.Frag)(mg:Str->Option Value)(base:Heap):Prop where
 kin:K.In base
 glob:base.Ns Ck mg
 blt:∃mb,base.Ns Wn mb/\∀x:Str,x ≠ "__name__" -> mb x=Ke x
 nolimit:base.NoLimit
def Qq:List Str:=["often", "cut_by"]
def dF(x:Str):Str:=x ++ ".<locals>." ++ "<lambda>"
def Y6(H:Hp)(P:Addr)(q:Str):Prop:=∃(a:Array Value) (b:Tok),H P=some (.tbl a)/\a[0]? = some (.str q b)
def w8(K:PySem.W.Frag)(mg:Str->Option Value)(base:Heap)(H:Hp):Prop:=∀x∈Qq,∀c P,PySem.W.tabIn K x=some (c,P)->PySem.W.CodeHd base c P/\base.BuiltinsAt mg P/\Y6 H P (dF x)
theorem w8.un{K:PySem.W.Frag}{mg:Str->Option Value}{base:Heap}{fs ex:List Addr}{H H':Hp}{h h':Heap}(t:w8 K mg base H)(u:Un fs ex H H' h h'):w8 K mg base H':=λx f c P e=>by
 obtain ⟨i,j,a,g,l,b⟩:=t x f c P e
 obtain ⟨more,d⟩:=u.tbls P a l
 refine ⟨i,j,a++more,g,d,?_⟩
 have k:0<a.size:=by
  rcases Nat.eq_zero_or_pos a.size with z | z
  ·rw[oZ (by omega)] at b; cases b
  ·exact z
 rw[Array.getElem?_append_left k]
 exact b
structure Cx where
 prog:Bp
 w:World
 K:PySem.W.Frag
 mg:Str->Option Value
 base:Heap
 A:Cn
 N:List Str
 s₀:Am
 H₀:Hp
 env:Env
 outer:List Env
 stack:List Env
 ex:List Addr
 fn:Str->Bool
 calm:Bool
 pn:List (Addr×Obj)
 xe:Value->Am->Prop
def vO(l:List Env):List Addr:=l.filterMap (·.frame)
abbrev Cx.fs(X:Cx):List Addr:=vO X.outer
def KR(a:Scope)(x:Str):Prop:=a.names.lookup x=some .local\/a.names.lookup x=some .cell\/a.names.lookup x=some .free
def Loc(a:Scope)(x:Str):Prop:=a.names.lookup x=some .local\/a.names.lookup x=some .cell
def MN(env:Env)(h:Heap)(m:Str->Option Value)(x:Str)(u:Value):Prop :=
 (env.kindOf x=some .local/\m x=some u)\/((env.kindOf x=some .cell\/env.kindOf x=some .free)/\∃c,env.cells.lookup x=some c/\h.IsCell c (some u))
structure Cx.Ok(X:Cx):Prop where
 mod:Mod X.K X.mg X.base
 kind:X.env.scope.kind=.function
 glob:X.env.globals=Ck
 blt:X.env.builtins=Wn
 above:X.s₀.heap.objs.size<=X.env.locals
 inj:∀x y c,X.env.cells.lookup x=some c->X.env.cells.lookup y=some c->x=y
 has:∀x,(X.env.kindOf x=some .cell\/X.env.kindOf x=some .free)->∃c,X.env.cells.lookup x=some c
 cab:∀x c,X.fn x=true->X.env.cells.lookup x=some c->X.s₀.heap.objs.size<=c
 hd:X.calm=true->X.A.handled=none
 frames:X.A.frames=some X.stack
 stk:X.stack=X.outer\/(X.stack=X.env::X.outer/\X.env.frame=some X.env.locals)
 exf:∀b∈X.ex,b≠X.env.locals/\∀x c,X.env.cells.lookup x=some c->c≠b
 bs:∀b o,X.base.get? b=some o->X.s₀.heap.get? b=some o/\X.H₀ b=none
 bsz:X.base.objs.size<=X.s₀.heap.objs.size
 noex:∀b o,X.base.get? b=some o->b∉X.ex
 exfs:∀b∈X.ex,b∉X.fs
 funs:X.s₀.heap.FunFrames X.base X.outer
 frf:∀b∈X.fs,X.H₀ b=none
 tab:w8 X.K X.mg X.base X.H₀
structure Inv(X:Cx)(pins:List (Addr×Obj))(σ:List (Option V))(H:Hp)(s:Am):Prop where
 ok:X.Ok
 os:s.os=X.s₀.os
 bare:Uk s.gens
 base:Un X.fs X.ex X.H₀ H X.s₀.heap s.heap
 loc:∃m,s.heap.Ns X.env.locals m/\∀(i:Nat) (x:Str) (v:V),X.N[i]? = some x->σ[i]? = some (some v)->KR X.env.scope x->∃u,RelV v u/\MN X.env s.heap m x u
 cell:∀x c,X.env.cells.lookup x=some c->∃v,s.heap.IsCell c v
 free:H X.env.locals=none
 freeC:∀x c,X.env.cells.lookup x=some c->H c=none
 pin:∀p∈X.pn++pins,s.heap.get? p.1=some p.2/\H p.1=none/\p.1≠X.env.locals/\p.1∉X.fs/\∀v,p.2.data≠.cell v
 hok:Wq X.prog X.w H s.heap
 len:σ.length=X.N.length
section
variable{X:Cx}{f:List (Addr×Obj)}{g:List (Option V)}{H H':Hp}{s:Am}{h':Heap}
theorem Cx.Ok.nofr(ok:X.Ok)(e:X.base.get? b=some o):b∉X.fs:=λa=>by
 have:=(ok.funs.mem a).1
 rw[e] at this; cases this
theorem Inv.bs(I:Inv X f g H s):∀b o,X.base.get? b=some o->s.heap.get? b=some o/\H b=none:=λb o e =>
 ⟨I.base.keep b o (I.ok.bs b o e).1 (I.ok.bs b o e).2 (I.ok.nofr e) (I.ok.noex b o e),I.base.free b o (I.ok.bs b o e).1 (I.ok.bs b o e).2 (I.ok.noex b o e)⟩
theorem Inv.bk(I:Inv X f g H s):∀b o,X.base.get? b=some o->s.heap.get? b=some o:=λb o e=>(I.bs b o e).1
theorem Inv.mod(I:Inv X f g H s):Mod X.K X.mg X.base:=I.ok.mod
theorem Inv.kIn(I:Inv X f g H s):X.K.In s.heap:=I.ok.mod.kin.keeps I.bk
theorem Inv.nolimit(I:Inv X f g H s):s.heap.NoLimit:=I.ok.mod.nolimit.keeps I.bk
theorem Inv.fr(I:Inv X f g H s):∃m,Fr X.base X.env.locals s.heap m :=
 let ⟨m,hn,_⟩:=I.loc
 ⟨m,hn,I.bk,Ce I.ok.bsz I.ok.above⟩
theorem Inv.lt(I:Inv X f g H s):X.env.locals<s.heap.objs.size:=let ⟨_,hn,_⟩:=I.loc; hn.lt
theorem Inv.sz(I:Inv X f g H s):X.s₀.heap.objs.size<=s.heap.objs.size:=Ce I.ok.above (La I.lt)
theorem Inv.nofs(I:Inv X f g H s){a:Addr}(h:s.heap.objs.size<=a):a∉X.fs:=λc=>by
 obtain ⟨_,o,b,_⟩:=I.ok.funs.mem c
 exact absurd (Bs (Bb b) (Ce I.sz h)) (Ey _)
theorem Inv.cne(I:Inv X f g H s):∀x c,X.env.cells.lookup x=some c->c≠X.env.locals:=λx c e z=>by
 obtain ⟨v,o,h,d⟩:=I.cell x c e
 obtain ⟨m,⟨k,j,i,a,b,_⟩,_⟩:=I.loc
 rw[z,a] at h; cases h; rw[b] at d; cases d
theorem Inv.funs(I:Inv X f g H s):s.heap.FunFrames X.base X.outer:=by
 have all:∀(l:List Env),(∀b∈vO l,b∈X.fs)->X.s₀.heap.FunFrames X.base l->s.heap.FunFrames X.base l:=by
  intro l
  induction l with
  | nil=>intro _ _; trivial
  | cons n r j =>
   intro h t
   obtain ⟨k,⟨L,o,c,m,p,i⟩,q⟩:=t
   have d:L∈X.fs:=h L (by unfold vO; rw[Pm,c]; exact Aa)
   obtain ⟨u,e⟩:=I.base.slot L o p (I.ok.frf L d) d λz=>I.ok.exfs L z d
   exact ⟨k,⟨L,_,c,m,e,i⟩,j (λb a=>h b (by unfold vO; rw[Pm,c]; exact Ae _ a)) q⟩
 exact all X.outer (λ_ a=>a) I.ok.funs
theorem Inv.stack(I:Inv X f g H s):s.heap.FunFrames X.base X.stack:=by
 rcases I.ok.stk with e | ⟨e,a⟩
 ·rw[e]; exact I.funs
 ·rw[e]
  obtain ⟨m,b,_⟩:=I.loc
  refine .cons (by rw[I.ok.kind]; decide) a b ?_ I.funs
  exact Ku (Ce I.ok.bsz I.ok.above)
theorem Inv.stkSub(I:Inv X f g H s):∀b∈vO X.stack,b∈X.env.locals::X.fs:=λb a=>by
 rcases I.ok.stk with e | ⟨e,c⟩
 ·rw[e] at a; exact Ae _ a
 ·rw[e] at a
  unfold vO at a
  rw[Pm,c] at a
  exact a
theorem Inv.stkFree(I:Inv X f g H s):∀b∈vO X.stack,H b=none:=λb hb=>by
 rcases Ao.mp (I.stkSub b hb) with e | hb
 ·rw[e]; exact I.free
 ·obtain ⟨_,o,a,_⟩:=I.ok.funs.mem hb
  exact I.base.free b o a (I.ok.frf b hb) λz=>I.ok.exfs b z hb
theorem Inv.step{g':Array GenState}{t':Nat}{d':Drawn}{ch:List Addr}(I:Inv X f g H s)(h:∀b∈ch,(b∈X.ex\/X.s₀.heap.objs.size<=b)/\b≠X.env.locals/\(∀x c,X.env.cells.lookup x=some c->c≠b)/\∀p∈X.pn++f,p.1≠b)(keep:∀b o,b≠X.env.locals->b∉X.fs->b∉ch->s.heap.get? b=some o->H b=none->h'.get? b=some o)(slot:∀b o,b≠X.env.locals->b∈X.fs->b∉ch->s.heap.get? b=some o->H b=none->∃L,h'.get? b=some { o with slots:=L })(free:∀b o,b∉ch->s.heap.get? b=some o->H b=none->H' b=none)(there:∀b o,b∉ch->s.heap.get? b=some o->∃F,h'.get? b=some F)(tups:∀b xs,H b=some (.tup xs)->H' b=some (.tup xs))(frzs:∀b o u,H b=some (.frz o u)->H' b=some (.frz o u))(tbls:∀b ps,H b=some (.tbl ps)->∃more,H' b=some (.tbl (ps++more)))(ns:∀m,s.heap.Ns X.env.locals m->h'.Ns X.env.locals m)(K:Wq X.prog X.w H' h')(U:Uk g'):Inv X f g H' { s with heap:=h',gens:=g',drawn:=d',toks:=t' }:=by
 have E:∀b o,X.s₀.heap.get? b=some o->b≠X.env.locals:=λb o e=>By (Bs (Bb e) I.ok.above)
 have y:∀b o,X.s₀.heap.get? b=some o->b∉X.ex->b∉ch:=λb o e a B=>by
  rcases (h b B).1 with z | z
  ·exact a z
  ·exact absurd (Bs (Bb e) z) (Ey _)
 have t:∀x c,X.env.cells.lookup x=some c->∀v,s.heap.IsCell c v->h'.IsCell c v:=λx c e v ⟨o,C,J⟩=>by
  have j:c∉ch:=λz=>(h c z).2.2.1 x c e rfl
  by_cases O:c∈X.fs
  ·obtain ⟨L,q⟩:=slot c o (I.cne x c e) O j C (I.freeC x c e)
   exact ⟨_,q,J⟩
  ·exact ⟨o,keep c o (I.cne x c e) O j C (I.freeC x c e),J⟩
 refine ⟨I.ok,I.os,U,⟨λb o e n B a=>?_,λb o e n B a=>?_,λb o e n a=>?_,λb o e a=>?_,λb xs e=>tups b xs (I.base.tups b xs e),λb o xs e=>frzs b o xs (I.base.frzs b o xs e),λb ps e=>?_⟩,?_,λx c e=>?_,?_,λx c e=>?_,λp M=>?_,K,I.len⟩
 ·exact keep b o (E b o e) B (y b o e a) (I.base.keep b o e n B a) (I.base.free b o e n a)
 ·obtain ⟨L,A⟩:=I.base.slot b o e n B a
  obtain ⟨G,D⟩:=slot b _ (E b o e) B (y b o e a) A (I.base.free b o e n a)
  exact ⟨G,D⟩
 ·obtain ⟨F,A⟩:=I.base.there b o e a
  exact free b F (y b o e a) A (I.base.free b o e n a)
 ·obtain ⟨F,A⟩:=I.base.there b o e a
  exact there b F (y b o e a) A
 ·obtain ⟨R,A⟩:=I.base.tbls b ps e
  obtain ⟨Q,D⟩:=tbls b _ A
  exact ⟨R++Q,by rw[D,Array.append_assoc]⟩
 ·obtain ⟨m,T,V⟩:=I.loc
  refine ⟨m,ns m T,λi x v A D S=>?_⟩
  obtain ⟨u,r,l⟩:=V i x v A D S
  refine ⟨u,r,?_⟩
  rcases l with l | ⟨k,c,e,z⟩
  ·exact .inl l
  ·exact .inr ⟨k,c,e,t x c e _ z⟩
 ·obtain ⟨v,z⟩:=I.cell x c e
  exact ⟨v,t x c e v z⟩
 ·obtain ⟨m,⟨o,_,_,C,_⟩,_⟩:=I.loc
  exact free _ o (λz=>(h _ z).2.1 rfl) C I.free
 ·obtain ⟨v,o,C,J⟩:=I.cell x c e
  exact free c o (λz=>(h c z).2.2.1 x c e rfl) C (I.freeC x c e)
 ·obtain ⟨e,n,N,P,d⟩:=I.pin p M
  have j:p.1∉ch:=λz=>(h p.1 z).2.2.2 p M rfl
  exact ⟨keep p.1 p.2 N P j e n,free p.1 p.2 j e n,N,P,d⟩
theorem Inv.un(I:Inv X f g H s)(u:Un X.fs [] H H' s.heap h')(h:Wq X.prog X.w H' h'):Inv X f g H' { s with heap:=h',toks:=t' }:=by
 obtain ⟨m,⟨o,t,q,j,r⟩,_⟩:=id I.loc
 obtain ⟨y,p⟩:=u.any j I.free (by simp)
 exact I.step (g':=s.gens) (d':=s.drawn) (ch:=[]) (λ_ z=>nomatch z) (λb o _ c _ e n=>u.keep b o e n c (by simp)) (λb o _ c _ e n=>u.slot b o e n c (by simp)) (λb o _ e n=>u.free b o e n (by simp)) (λb o _ e=>u.there b o e (by simp)) u.tups u.frzs u.tbls (λx l=>by
  obtain ⟨v,i,d,a,k⟩:=l
  rw[j] at a; cases a
  exact ⟨_,i,d,p,k⟩) h I.bare
theorem Inv.call(I:Inv X f g H s)(u:Un (vO X.stack) ch H H' s.heap h')(j:Wq X.prog X.w H' h')(A:Uk g')(d:∀b∈ch,(b∈X.ex\/X.s₀.heap.objs.size<=b)/\b≠X.env.locals/\(∀x c,X.env.cells.lookup x=some c->c≠b)/\∀p∈X.pn++f,p.1≠b):Inv X f g H' { s with heap:=h',gens:=g',drawn:=d',toks:=t' }:=by
 obtain ⟨m,⟨o,C,B,q,r⟩,_⟩:=id I.loc
 obtain ⟨F,l⟩:=u.any q I.free λz=>(d _ z).2.1 rfl
 exact I.step (ch:=ch) d (λb o l t a e n=>u.keep b o e n (λz=>(Ao.mp (I.stkSub b z)).elim l t) a) (λb o _ _ a e n=>u.any e n a) (λb o a e n=>u.free b o e n a) (λb o a e=>u.there b o e a) u.tups u.frzs u.tbls (λE y=>by
  obtain ⟨D,k,i,h,v⟩:=y
  rw[q] at h; cases h
  exact ⟨_,k,i,l,v⟩) j A
theorem Inv.turned(I:Inv X f g H s)(k:∀b o,b≠it->s.heap.get? b=some o->h'.get? b=some o)(l:H it=none)(h:it≠X.env.locals)(h1:it∈X.ex\/X.s₀.heap.objs.size<=it)(y:∀x c,X.env.cells.lookup x=some c->c≠it)(B:∀p∈X.pn++f,p.1≠it):Inv X f g H { s with heap:=h',toks:=t' }:=by
 have d:∀b u,H b=some u->b≠it:=λb u e z=>by rw[z,l] at e; cases e
 refine I.step (g':=s.gens) (d':=s.drawn) (ch:=[it]) (λb i=>?_) (λb o _ _ a e _=>k b o (λz=>a (by simp [z])) e) (λb o _ _ a e _=>⟨o.slots,k b o (λz=>a (by simp [z])) e⟩) (λ_ _ _ _ n=>n)
  (λb o a e=>⟨o,k b o (λz=>a (by simp [z])) e⟩) (λ_ _ e=>e) (λ_ _ _ e=>e) (λb C e=>⟨#[],by rw[e]; simp⟩) (λm w=>?_) (λb u e=>?_) I.bare
 ·have e:b=it:=by simpa using i
  subst e
  exact ⟨h1,h,y,B⟩
 ·obtain ⟨o,t,j,A,r⟩:=w
  exact ⟨o,t,j,k _ o (Li h) A,r⟩
 ·refine (I.hok b u e).stay (λc v a q=>k c v ?_ q) (λ_ q=>q) λ_ _ q=>q
  rcases a with z | z
  ·rw[z]; exact d b u e
  ·exact d c _ z
theorem Inv.tok(I:Inv X f g H s)(t:Nat):Inv X f g H { s with toks:=t }:=I.un (h':=s.heap) (t':=t) Un.refl I.hok
theorem Inv.kept(I:Inv X f g H s)(k:∀b u,s.heap.get? b=some u->h'.get? b=some u):Inv X f g H { s with heap:=h',toks:=t' }:=I.un (Un.kept k) (I.hok.kept k)
theorem Inv.laid{a:Addr}{o:HO}{t':Nat}(I:Inv X f g H s)(k:∀b u,s.heap.get? b=some u->h'.get? b=some u)(c:s.heap.objs.size<=a)(d:Hz X.prog X.w (upd H a o) h' a o):Inv X f g (upd H a o) { s with heap:=h',toks:=t' }:=I.un (Un.laid k c (I.hok.fresh c)) (I.hok.laid k c d)
theorem Inv.write(I:Inv X f g H s)(d:JM (H x))(h:e=x\/H e=some (.own x))(k:∀b u,b≠e->s.heap.get? b=some u->h'.get? b=some u)(a:∃u,h'.get? e=some u)(c:Hz X.prog X.w (upd H x o) h' x o):Inv X f g (upd H x o) { s with heap:=h',toks:=t' }:=I.un (Un.write d h k a) (I.hok.write d h k a c)
theorem Inv.pins_of(I:Inv X f g H s)(h:∀p∈a,s.heap.get? p.1=some p.2/\H p.1=none/\p.1≠X.env.locals/\p.1∉X.fs/\∀v,p.2.data≠.cell v):Inv X a g H s :=
 ⟨I.ok,I.os,I.bare,I.base,I.loc,I.cell,I.free,I.freeC,λp b=>(Bf.mp b).elim (λz=>I.pin p (Ap _ z)) (h p),I.hok,I.len⟩
theorem nV{N:List Str}(e:N.Nodup){i j:Nat}{x:Str}(a:N[i]? = some x)(b:N[j]? = some x):i=j:=by
 obtain ⟨f,c⟩:=Af.mp a
 obtain ⟨g,d⟩:=Af.mp b
 exact (List.getElem_inj e).mp (c.trans d.symm)
theorem vZ(I:Inv X f g H s)(hN:X.N.Nodup)(P:X.N[i]? = some x)(C:Loc X.env.scope x)(r:RelV v u)(h:∀s',Inv X f (g.set i (some v)) H s'->(∃a,Gk a s.heap s'.heap/\(a=X.env.locals\/X.env.cells.lookup x=some a))->Q () s')(hf:X.fn x=true\/X.env.scope.names.lookup x=some .local:=by first | exact .inl rfl | exact .inr rfl | assumption):wpAny M A (storeName X.env x u) Q E s:=by
 obtain ⟨m,hn,hl⟩:=id I.loc
 have O:(X.env.scope.kind == .class || (X.env.scope.kind == .module && X.env.locals != X.env.globals))=false:=by rw[I.ok.kind]; rfl
 have G:i<g.length:=by rw[I.len]; exact (Af.mp P).1
 have cne:=I.cne
 have t:∀{a:Addr} {h':Heap},(∃o,s.heap.get? a=some o/\H a=none)->Gk a s.heap h'->Wq X.prog X.w H h':=λ{a h'} ha l b ob e=>by
  obtain ⟨_,_,D⟩:=ha
  refine (I.hok b ob e).stay (λc W hc q=>(l.2 c ?_).trans q) (λ_ q=>q) λ_ _ q=>q
  rintro rfl
  rcases hc with rfl | hc
  ·rw[D] at e; cases e
  ·rw[D] at hc; cases hc
 rcases C with hk | hk
 ·refine wpAny_storeName_local hk hn (λh' h0 l=>?_) O
  obtain ⟨oL,_,_,h1,_⟩:=id hn
  refine h _ ⟨I.ok,I.os,I.bare,⟨λb o e n J C=>?_,λb o e n J C=>?_,I.base.free,λb o e C=>?_,I.base.tups,I.base.frzs,I.base.tbls⟩,⟨_,h0,λj y v' B F e3=>?_⟩,λy c e=>?_,I.free,I.freeC,λp hp=>?_,t ⟨oL,h1,I.free⟩ l,by simpa using I.len⟩ ⟨_,l,.inl rfl⟩
  ·exact (l.2 b (By (Bs (Bb e) I.ok.above))).trans (I.base.keep b o e n J C)
  ·obtain ⟨sl,B⟩:=I.base.slot b o e n J C
   exact ⟨sl,(l.2 b (By (Bs (Bb e) I.ok.above))).trans B⟩
  ·obtain ⟨o',B⟩:=I.base.there b o e C
   exact ⟨o',(l.2 b (By (Bs (Bb e) I.ok.above))).trans B⟩
  ·by_cases K:j=i
   ·subst K
    rw[P] at B; cases B
    rw[Uh G] at F
    cases F
    exact ⟨u,r,.inl ⟨hk,by simp⟩⟩
   ·rw[On (Li K)] at F
    obtain ⟨u',r',q⟩:=hl j y v' B F e3
    refine ⟨u',r',?_⟩
    rcases q with ⟨k,e⟩ | ⟨k,c,e,z⟩
    ·refine .inl ⟨k,?_⟩
     have : y≠x:=λe=>K (nV hN B (e▸P))
     simp [this,e]
    ·exact .inr ⟨k,c,e,z.sameBut l (cne y c e)⟩
  ·obtain ⟨W,z⟩:=I.cell y c e
   exact ⟨W,z.sameBut l (cne y c e)⟩
  ·obtain ⟨e,n,Y,nf,d⟩:=I.pin p hp
   exact ⟨(l.2 p.1 Y).trans e,n,Y,nf,d⟩
 ·have L:X.fn x=true:=by
   rcases hf with z | z
   ·exact z
   ·rw[z] at hk; cases hk
  obtain ⟨c,hc⟩:=I.ok.has x (.inl hk)
  obtain ⟨W,z⟩:=I.cell x c hc
  refine wpAny_storeName_cell I.ok.kind hk hc z (λh' S l=>?_)
  obtain ⟨oc,T,U⟩:=id z
  refine h { s with heap:=h' } ⟨I.ok,I.os,I.bare,⟨λb o e n J C=>?_,λb o e n J C=>?_,I.base.free,λb o e C=>?_,I.base.tups,I.base.frzs,I.base.tbls⟩,⟨m,hn.sameBut l (Li (cne x c hc)),λj y v' B F e3=>?_⟩,λy Z e=>?_,I.free,I.freeC,λp hp=>?_,t ⟨oc,T,I.freeC x c hc⟩ l,by simpa using I.len⟩ ⟨c,l,.inr hc⟩
  ·exact (l.2 b (By (Bs (Bb e) (I.ok.cab x c L hc)))).trans (I.base.keep b o e n J C)
  ·obtain ⟨sl,B⟩:=I.base.slot b o e n J C
   exact ⟨sl,(l.2 b (By (Bs (Bb e) (I.ok.cab x c L hc)))).trans B⟩
  ·obtain ⟨o',B⟩:=I.base.there b o e C
   exact ⟨o',(l.2 b (By (Bs (Bb e) (I.ok.cab x c L hc)))).trans B⟩
  ·by_cases K:j=i
   ·subst K
    rw[P] at B; cases B
    rw[Uh G] at F
    cases F
    exact ⟨u,r,.inr ⟨.inl hk,c,hc,S⟩⟩
   ·rw[On (Li K)] at F
    obtain ⟨u',r',q⟩:=hl j y v' B F e3
    refine ⟨u',r',?_⟩
    rcases q with q | ⟨k,Z,e,z'⟩
    ·exact .inl q
    ·refine .inr ⟨k,Z,e,z'.sameBut l ?_⟩
     rintro rfl
     exact K (nV hN B (I.ok.inj _ _ _ e hc▸P))
  ·by_cases R:Z=c
   ·subst R; exact ⟨_,S⟩
   ·obtain ⟨w2,z2⟩:=I.cell y Z e
    exact ⟨w2,z2.sameBut l R⟩
  ·obtain ⟨e,n,Y,nf,d⟩:=I.pin p hp
   refine ⟨(l.2 p.1 ?_).trans e,n,Y,nf,d⟩
   intro q
   rw[q,T] at e
   have q':oc=p.2:=Bo e
   exact d W (by rw[<- q']; exact U)
theorem nP(I:Inv X f g H s)(c:X.N.Nodup)(e:X.N[i]? = some x)(a:Loc X.env.scope x)(r:RelV v u)(h:∀s',Inv X f (g.set i (some v)) H s'->Q () s')(b:X.fn x=true\/X.env.scope.names.lookup x=some .local:=by first | exact .inl rfl | exact .inr rfl | assumption):wpAny M A (storeName X.env x u) Q E s :=
 vZ I c e a r (λs' d _=>h s' d) b
theorem Inv.call'(I:Inv X f g H s)(h:s'.os=s.os)(u:Un (vO X.stack) ch H H' s.heap s'.heap)(a:Wq X.prog X.w H' s'.heap)(i:Uk s'.gens)(d:∀b∈ch,(b∈X.ex\/X.s₀.heap.objs.size<=b)/\b≠X.env.locals/\(∀x c,X.env.cells.lookup x=some c->c≠b)/\∀p∈X.pn++f,p.1≠b):Inv X f g H' s':=by
 obtain ⟨h',g',d',t',j⟩:=s'
 have e:j=s.os:=h
 subst e
 exact I.call (g':=g') (t':=t') (d':=d') u a i d
end
abbrev XK:=Value->Option Addr->Hp->Prop
abbrev St:=List (Option V)
abbrev VK:=V->Hp->Prop
abbrev TE:=St->Hp->VK->Prop
abbrev TT:=St->Hp->(Bool->Hp->Prop)->Prop
abbrev TA:=St->Hp->(List V->Hp->Prop)->Prop
structure Ends where
 nx:St->Hp->Prop
 rt:VK
 bk:St->Hp->Prop:=λ_ _=>False
 ct:St->Hp->Prop:=λ_ _=>False
abbrev TS:=Ends->St->Hp->Prop
def EP(X:Cx)(a:List (Addr×Obj))(c:St)(Q:VK)(u:Value)(s':Am):Prop:=∃v b,Inv X a c b s'/\RelV v u/\Q v b
def TP(X:Cx)(a:List (Addr×Obj))(d:St)(Q:Bool->Hp->Prop)(b:Bool)(s':Am):Prop:=∃c,Inv X a d c s'/\Q b c
def AP(X:Cx)(a:List (Addr×Obj))(c:St)(Q:List V->Hp->Prop)(us:List Value)(s':Am):Prop:=∃vs b,Inv X a c b s'/\Fs vs us/\Q vs b
def SP(X:Cx)(b:List (Addr×Obj))(D:Ends)(f:Flow)(s':Am):Prop :=
 match f with
 | .next=>∃a c,Inv X b a c s'/\D.nx a c
 | .brk=>∃a c,Inv X b a c s'/\D.bk a c
 | .cont=>∃a c,Inv X b a c s'/\D.ct a c
 | .ret u=>∃v a c,Inv X b a c s'/\RelV v u/\D.rt v c
def PE(X:Cx)(e:Expr)(t:TE):Prop :=
 ∀(a:List (Addr×Obj)) (s:Am) (b:St) (H:Hp) (Q:VK),Inv X a b H s->t b H Q->wpAny (model X.prog X.w) X.A (eval e X.env) (EP X a b Q) X.xe s
def PT(X:Cx)(e:Expr)(t:TT):Prop :=
 ∀(a:List (Addr×Obj)) (s:Am) (b:St) (H:Hp) (Q:Bool->Hp->Prop),Inv X a b H s->t b H Q->wpAny (model X.prog X.w) X.A (isTrue e X.env (eval e X.env)) (TP X a b Q) X.xe s
def PW(X:Cx)(e:Expr)(t:TT):Prop :=
 ∀(b:Sem Value) (a:List (Addr×Obj)) (s:Am) (c:St) (H:Hp) (Q:Bool->Hp->Prop),Inv X a c H s->t c H Q->wpAny (model X.prog X.w) X.A (isTrue e X.env b) (TP X a c Q) X.xe s
theorem PW.pt(h:PW X e t):PT X e t:=h _
def PA(X:Cx)(es:List Expr)(t:TA):Prop :=
 ∀(b:Pos) (a:List (Addr×Obj)) (s:Am) (c:St) (H:Hp) (Q:List V->Hp->Prop),Inv X a c H s->t c H Q->wpAny (model X.prog X.w) X.A (spliced (Gr b (Bl es X.env))) (AP X a c Q) X.xe s
def PS(X:Cx)(st:Stmt)(t:TS):Prop :=
 ∀(a:List (Addr×Obj)) (s:Am) (b:St) (H:Hp) (D:Ends),Inv X a b H s->t D b H->wpAny (model X.prog X.w) X.A (exec st X.env) (SP X a D) X.xe s
def rJ(X:Cx)(st:List Stmt)(t:TS):Prop :=
 ∀(a:List (Addr×Obj)) (s:Am) (b:St) (H:Hp) (D:Ends),Inv X a b H s->t D b H->wpAny (model X.prog X.w) X.A (execs st X.env) (SP X a D) X.xe s
theorem Il{c:Type}{t:Sem c}{Q b:c->Am->Prop}{M:Model}{A:Cn}{E:Value->Am->Prop}{s:Am}(h:wpAny M A t Q E s)(d:∀a s,Q a s->b a s):wpAny M A t b E s:=Eo h d λ_ _ x=>x
section
variable{X:Cx}
def Tn(i:Nat):TE:=λa H Q=>∃v,a[i]? = some (some v)/\Q v H
def tC(v:V):TE:=λ_ H Q=>Q v H
theorem EH{i:Nat}{x:Str}{pos:Pos}(p:X.N[i]? = some x)(j:KR X.env.scope x)(hd:(x == ("__debug__" : Str))=false:=by decide)(f:(x == ("__classdict__" : Str))=false:=by decide):PE X (.Name x pos) (Tn i):=by
 intro d s k H Q I h
 obtain ⟨v,e,h⟩:=h
 obtain ⟨m,n,q⟩:=I.loc
 obtain ⟨u,r,l⟩:=q i x v p e j
 have b:EP X d k Q u s:=⟨v,H,I,r,h⟩
 rcases l with ⟨hk,o⟩ | ⟨hk,c,g,a⟩
 ·exact Sh (Zn I.ok.kind hk n o b) hd
 ·rcases hk with hk | hk
  ·exact Sh (wpAny_loadName_cell I.ok.kind hk g a b) hd
  ·exact Sh (aU I.ok.kind hk g a b f) hd
theorem Ew:PE X (.Constant (.int i) j pos) (tC (.int i)):=λ_ _ _ H _ I h=>wpAny_Constant_int ⟨.int i,H,I.tok _,⟨_,rfl⟩,h⟩
theorem e8:PE X (.Constant (.bool b) j pos) (tC (.bl b)):=λ_ _ _ H _ I h=>Constant_bool ⟨.bl b,H,I,rfl,h⟩
theorem C4:PE X (.Constant .none j pos) (tC .non):=λ_ _ _ H _ I h=>Constant_none ⟨.non,H,I,rfl,h⟩
theorem BU:PE X (.Constant (.str x) j pos) (tC (.str x)):=λ_ _ _ H _ I h=>Calls.Constant_str ⟨.str x,H,I.tok _,⟨_,rfl⟩,h⟩
def Gl(X:Cx)(x:Str):Prop:=X.env.kindOf x=some .globalImplicit
theorem Q6{E:Value->Am->Prop}{a:List (Addr×Obj)}{s:Am}{d:St}{H:Hp}{x:Str}{u:Value}{pos:Pos}{Q:Value->Am->Prop}(I:Inv X a d H s)(b:Gl X x)(c:X.mg x=some u)(h:Q u s)(hd:(x == ("__debug__" : Str))=false:=by decide):wpAny (model X.prog X.w) X.A (eval (.Name x pos) X.env) Q E s :=
 Qe I.ok.kind b (Calls.loadGlobal_global (by rw[I.ok.glob]; exact I.mod.glob.keeps I.bk) c h) hd
theorem Ld{E:Value->Am->Prop}{a:List (Addr×Obj)}{s:Am}{c:St}{H:Hp}{x:Str}{u:Value}{pos:Pos}{Q:Value->Am->Prop}(I:Inv X a c H s)(i:Gl X x)(f:X.mg x=none)(b:Ke x=some u)(h:Q u s)(d:x ≠ "__name__" := by decide)(hd:(x == ("__debug__" : Str))=false:=by decide):wpAny (model X.prog X.w) X.A (eval (.Name x pos) X.env) Q E s:=by
 obtain ⟨j,e,g⟩:=I.mod.blt
 exact Qe I.ok.kind i (kY (by rw[I.ok.glob]; exact I.mod.glob.keeps I.bk) f (by rw[I.ok.blt]; exact e.keeps I.bk) ((g x d).trans b) h) hd
theorem P1{x:Str}{v:V}{u:Value}{pos:Pos}(a:Gl X x)(c:X.mg x=none)(b:Ke x=some u)(r:RelV v u)(d:x ≠ "__name__" := by decide)(hd:(x == ("__debug__" : Str))=false:=by decide):PE X (.Name x pos) (tC v) :=
 λ_ _ _ H _ I h=>Ld I a c b ⟨v,H,I,r,h⟩ d hd
variable{a b:Expr}{ta k:TE}{pos:Pos}
def tB(t:TE):TT:=λa H Q=>t a H λx b=>∃c,x=.bl c/\Q c b
theorem zZ(h:PE X e t)(f:∀a,isTrue e X.env a=(do let v <- a; standAt e.pos; My [v] (truthy v)):=by intro _; rfl):PT X e (tB t):=by
 intro b s g H Q I l
 refine isTrue_plain (Il (h b s g H _ I l) λv m ⟨x,c,j,k,i⟩=>?_) (f _)
 obtain ⟨d,rfl,q⟩:=i
 cases k
 exact Gd ⟨c,j,q⟩
variable{f g:TT}{Ms:List Expr}
def MH(t u:TT):TT:=λa H Q=>t a H λc b=>if c=true then u a b Q else Q false b
def NX(t u:TT):TT:=λa H Q=>t a H λc b=>if c=true then Q true b else u a b Q
def LU(t:TT):TT:=λa H Q=>t a H λc b=>Q (!c) b
theorem O2(g:PT X a f):PW X (.BoolOp .And [a] pos) f:=by
 intro j b s d H Q I h
 refine isTrue_and (Il (g b s d H Q I h) λc i e=>?_)
 cases c with
 | true=>exact isTrue_and_nil e
 | false=>exact e
theorem GC(g:PT X a f):PW X (.BoolOp .Or [a] pos) f:=by
 intro j b s d H Q I h
 refine isTrue_or (Il (g b s d H Q I h) λc i e=>?_)
 cases c with
 | false=>exact isTrue_or_nil e
 | true=>exact e
theorem FR(n:PT X a f)(hb:PW X (.BoolOp .And (b::Ms) pos) g):PW X (.BoolOp .And (a::b::Ms) pos) (MH f g):=by
 intro o d s i H Q I h
 refine isTrue_and (Il (n d s i H _ I h) λc m e => ?_)
 obtain ⟨j,l,k⟩ := e
 cases c with
 | true=>exact hb o d m i j Q l k
 | false=>exact ⟨j,l,k⟩
theorem IL(n:PT X a f)(hb:PW X (.BoolOp .Or (b::Ms) pos) g):PW X (.BoolOp .Or (a::b::Ms) pos) (NX f g):=by
 intro o d s i H Q I h
 refine isTrue_or (Il (n d s i H _ I h) λc m e => ?_)
 obtain ⟨j,l,k⟩ := e
 cases c with
 | true=>exact ⟨j,l,k⟩
 | false=>exact hb o d m i j Q l k
theorem EM(d:PT X a f):PT X (.UnaryOp .Not a pos) (LU f):=by
 intro b s e H Q I h
 exact isTrue_not (d b s e H (λc g=>Q (!c) g) I h)
def HX(ta k:TE):TE:=λb H Q=>ta b H λx a=>∃c,x=.bl c/\if c=true then k b a Q else Q (.bl false) a
def JD(ta:TE):TE:=λa H Q=>ta a H λx b=>∃c,x=.bl c/\Q (.bl (!c)) b
theorem FM(h:PE X a t):PE X (.BoolOp op [a] pos) t:=λb s d H Q I c=>BoolOp_one (h b s d H Q I c)
theorem BI(m:PE X a ta)(hb:PE X (.BoolOp .And (b::Ms) pos) k):PE X (.BoolOp .And (a::b::Ms) pos) (HX ta k):=by
 intro d s i H Q I h
 refine BoolOp_and (Il (m d s i H _ I h) λv l f => ?_)
 obtain ⟨x,g,j,n,e⟩ := f
 obtain ⟨c,rfl,e⟩:=e
 cases n
 refine Gd ?_
 cases c with
 | true=>exact hb d l i g Q j e
 | false=>exact ⟨.bl false,g,j,rfl,e⟩
theorem EL(i:PE X a ta):PE X (.UnaryOp .Not a pos) (JD ta):=by
 intro b s g H Q I h
 refine UnaryOp_ (Il (i b s g H _ I h) λv l e => ?_)
 obtain ⟨x,f,j,k,d⟩ := e
 obtain ⟨c,rfl,d⟩:=d
 cases k
 exact not_of (Gd ⟨.bl (!c),f,j,rfl,d⟩)
def NO(t:TT)(ta k:TE):TE:=λa H Q=>t a H λc b=>if c=true then ta a b Q else k a b Q
theorem M5(o:PT X c f)(p:PE X a ta)(hb:PE X b k):PE X (.IfExp c a b pos) (NO f ta k):=by
 intro e s g H Q I h
 refine wpAny_IfExp (Il (o e s g H _ I h) λd j i => ?_)
 obtain ⟨l,n,m⟩ := i
 cases d with
 | true=>exact p e j g l Q n m
 | false=>exact hb e j g l Q n m
end
def Kv(K:PySem.W.Frag)(H:Hp)(a:Addr)(xs:List V):Prop :=
 Rd H a (.lst xs) \/
  ∃(o:Obj) (b:Array Value) (n:Nat),K.lookup a=some o/\o.cls=.type "list" /\ o.dict=none/\o.data=.seq b n/\b.size<=Az/\Fs xs b.toList
def Ve(K:PySem.W.Frag)(H:Hp)(a:Addr)(xs:List V):Prop :=
 Rd H a (.tup xs) \/
  ∃(o:Obj) (b:Array Value) (n:Nat),K.lookup a=some o/\o.cls=.type "tuple" /\ o.data=.seq b n/\b.size<=Az/\Fs xs b.toList
def MT:Value->Option V
 | .none=>some .non
 | .bool b=>some (.bl b)
 | .int i _=>some (.int i)
 | .str x _=>some (.str x)
 | .bytes b _=>some (.byt b)
 | .float b _=>some (.flt b)
 | .ref a=>some (.ref a)
 | .type n=>some (.ty n)
 | _=>none
theorem RelV.abs(r:RelV x u):MT u=some x:=by
 cases x with
 | non=>cases r; rfl
 | bl _=>cases r; rfl
 | int _=>obtain ⟨t,rfl⟩:=r; rfl
 | str _=>obtain ⟨t,rfl⟩:=r; rfl
 | byt _=>obtain ⟨t,rfl⟩:=r; rfl
 | flt _=>obtain ⟨t,rfl⟩:=r; rfl
 | ref _=>cases r; rfl
 | ty _=>cases r; rfl
theorem RelV.inj(r:RelV x u)(q:RelV y u):x=y:=Bo (r.abs.symm.trans q.abs)
theorem Fs.inj:∀{xs ys:List V} {us:List Value},Fs xs us->Fs ys us->xs=ys
 | _,_,_,.nil,.nil=>rfl
 | _,_,_,.cons r t,.cons r' t'=>by rw[r.inj r',Fs.inj t t']
section
variable{X:Cx}{b:List (Addr×Obj)}{c:St}{H:Hp}{s:Am}{a:Addr}{xs ys:List V}
theorem Kv.of{K:PySem.W.Frag}(h:H a=some (.lst xs)):Kv K H a xs:=.inl (.inl h)
theorem Ve.of{K:PySem.W.Frag}(h:H a=some (.tup xs)):Ve K H a xs:=.inl (.inl h)
theorem Inv.list(I:Inv X b c H s)(h:Kv X.K H a xs):∃its:List Value,Fs xs its/\PlainL s.heap a its.toArray/\xs.length<=Az:=by
 rcases h with h | ⟨o,its,n,f,i,d,g,j,r⟩
 ·obtain ⟨z,its,n,r,e⟩:=h.ok I.hok
  exact ⟨its,r,⟨_,n,e,rfl,rfl,rfl⟩,z⟩
 ·refine ⟨its.toList,r,⟨o,n,I.kIn a o f,i,d,by simpa using g⟩,?_⟩
  have e:=r.length
  simp only[Ff] at e
  omega
theorem Inv.tuple(I:Inv X b c H s)(h:Ve X.K H a xs):∃its:List Value,Fs xs its/\IsTup s.heap a its.toArray/\xs.length<=Az:=by
 rcases h with h | ⟨o,its,n,g,f,d,i,r⟩
 ·obtain ⟨z,its,r,p⟩:=h.ok I.hok
  exact ⟨its,r,p,z⟩
 ·refine ⟨its.toList,r,⟨o,I.kIn a o g,f,n,by simpa using d⟩,?_⟩
  have e:=r.length
  simp only[Ff] at e
  omega
theorem Inv.list_inj(I:Inv X b c H s)(h:Kv X.K H a xs)(h':Kv X.K H a ys):xs=ys:=by
 obtain ⟨g,r,⟨o,n,e,_,_,d⟩,_⟩:=I.list h
 obtain ⟨f,k,⟨m,l,i,_,_,j⟩,_⟩:=I.list h'
 rw[e] at i; cases i
 rw[d] at j
 injection j with d1 _
 have : g=f:=by simpa using congrArg Array.toList d1
 subst this
 exact r.inj k
theorem Inv.tuple_inj(I:Inv X b c H s)(h:Ve X.K H a xs)(h':Ve X.K H a ys):xs=ys:=by
 obtain ⟨g,r,⟨o,e,_,n,d⟩,_⟩:=I.tuple h
 obtain ⟨f,k,⟨m,i,_,l,j⟩,_⟩:=I.tuple h'
 rw[e] at i; cases i
 rw[d] at j
 injection j with d1 _
 have : g=f:=by simpa using congrArg Array.toList d1
 subst this
 exact r.inj k
end
abbrev Cx.wish(X:Cx)(E:Value->Am->Prop):Cx:={ X with xe:=E }
abbrev Cx.nox(X:Cx):Cx:=X.wish λ_ _=>False
theorem Cx.Ok.wish{X:Cx}(ok:X.Ok)(E:Value->Am->Prop):(X.wish E).Ok :=
 ⟨ok.mod,ok.kind,ok.glob,ok.blt,ok.above,ok.inj,ok.has,ok.cab,ok.hd,ok.frames,ok.stk,ok.exf,ok.bs,ok.bsz,ok.noex,ok.exfs,ok.funs,ok.frf,ok.tab⟩
theorem Cx.Ok.unwish{X:Cx}{E:Value->Am->Prop}(ok:(X.wish E).Ok):X.Ok :=
 ⟨ok.mod,ok.kind,ok.glob,ok.blt,ok.above,ok.inj,ok.has,ok.cab,ok.hd,ok.frames,ok.stk,ok.exf,ok.bs,ok.bsz,ok.noex,ok.exfs,ok.funs,ok.frf,ok.tab⟩
section
variable{X:Cx}{a:List (Addr×Obj)}{b:St}{H:Hp}{s:Am}{E:Value->Am->Prop}
theorem Inv.wish(I:Inv X a b H s)(E:Value->Am->Prop):Inv (X.wish E) a b H s:=⟨I.ok.wish E,I.os,I.bare,I.base,I.loc,I.cell,I.free,I.freeC,I.pin,I.hok,I.len⟩
theorem Inv.unwish(I:Inv (X.wish E) a b H s):Inv X a b H s:=⟨I.ok.unwish,I.os,I.bare,I.base,I.loc,I.cell,I.free,I.freeC,I.pin,I.hok,I.len⟩
theorem SP.unwish(h:SP (X.wish E) a D f s'):SP X a D f s':=by
 cases f with
 | next=>obtain ⟨b,c,I,q⟩:=h; exact ⟨b,c,I.unwish,q⟩
 | brk=>obtain ⟨b,c,I,q⟩:=h; exact ⟨b,c,I.unwish,q⟩
 | cont=>obtain ⟨b,c,I,q⟩:=h; exact ⟨b,c,I.unwish,q⟩
 | ret u=>obtain ⟨v,b,c,I,r,q⟩:=h; exact ⟨v,b,c,I.unwish,r,q⟩
theorem rJ.nox{st:List Stmt}{t:TS}(h:rJ X.nox st t):rJ X st t:=λa s b H D I c =>
 Eo (h a s b H D (I.wish _) c) (λ_ _ q=>q.unwish) λ_ _ z=>Kn z
end
section
variable{X:Cx}{st:Stmt}{Ms:List Stmt}{t u:TS}{e:Expr}{g:TE}{pos:Pos}
def GP:TS:=λD a H=>D.nx a H
def MI(t u:TS):TS:=λD a H=>t { D with nx:=u D } a H
theorem gZ:rJ X [] GP:=λ_ _ a H _ I h=>wpAny_execs_nil ⟨a,H,I,h⟩
theorem Mb(h1:PS X st t)(e:rJ X Ms u):rJ X (st::Ms) (MI t u):=by
 intro a s d H D I h
 refine wpAny_execs_cons (Il (h1 a s d H { D with nx:=u D } I h) λf c q=>?_)
 cases f with
 | next =>
  obtain ⟨b,i,g,q⟩:=q
  exact e a c b i D g q
 | ret v=>exact q
 | brk=>exact q
 | cont=>exact q
theorem Up(h1:PS X st t):rJ X [st] t:=by
 intro a s b H D I h
 refine wpAny_execs_cons (Il (h1 a s b H D I h) λf c q=>?_)
 cases f with
 | next=>exact wpAny_execs_nil q
 | ret v=>exact q
 | brk=>exact q
 | cont=>exact q
theorem Inv.quiet{a:List (Addr×Obj)}{b:St}{H:Hp}{s:Am}(I:Inv X a b H s):interactive X.env=false:=by simp [interactive,I.ok.kind]
def JR(g:TE):TS:=λD a H=>g a H λ_ b=>D.nx a b
theorem kI(c:PE X e g)(d:Hg e none pos.line X.env=pure false:=by rfl):PS X (.Expr e pos) (JR g):=by
 intro a s b H D I h
 exact wpAny_Expr_any (Il (c a s b H _ I h) λv k ⟨x,f,j,l,i⟩=>⟨b,f,j,i⟩) I.quiet d
def LB(g:TE):TS:=λD a H=>g a H D.rt
theorem cF(d:PE X e g):PS X (.Return (some e) pos) (LB g):=by
 intro a s b H D I h
 exact wpAny_Return_some (Il (d a s b H _ I h) λv k ⟨x,c,i,j,f⟩=>⟨x,b,c,i,j,f⟩)
def LF(c:TT)(t u:TS):TS:=λD a H=>c a H λb d=>if b=true then t D a d else u D a d
theorem C8(o:PT X c i)(n:rJ X a t)(hb:rJ X b u):PS X (.If c a b pos) (LF i t u):=by
 intro e s f H D I h
 refine wpAny_If (Il (o e s f H _ I h) λd j g => ?_)
 obtain ⟨k,m,l⟩ := g
 cases d with
 | true=>exact n e j f k D m l
 | false=>exact hb e j f k D m l
end
abbrev TG:=V->St->Hp->(St->Hp->Prop)->Prop
abbrev j5:=List V->St->Hp->(St->Hp->Prop)->Prop
def PG(X:Cx)(a:Expr)(t:TG):Prop :=
 ∀(b:List (Addr×Obj)) (s:Am) (d:St) (H:Hp) (v:V) (u:Value) (Q:St->Hp->Prop),Inv X b d H s->RelV v u->t v d H Q ->
  wpAny (model X.prog X.w) X.A (Sj a X.env u) (λ_ f=>∃c e,Inv X b c e f/\Q c e) X.xe s
def AO(X:Cx)(f:List Expr)(t:j5):Prop :=
 ∀(a:List (Addr×Obj)) (s:Am) (d:St) (H:Hp) (vs:List V) (c:List Value) (Q:St->Hp->Prop),Inv X a d H s->Fs vs c->t vs d H Q ->
  wpAny (model X.prog X.w) X.A (assignInOrder ((Fd f X.env).map (·.2)) c) (λ_ g=>∃b e,Inv X a b e g/\Q b e) X.xe s
abbrev CP:=V->V->V->Hp->(Hp->Prop)->Prop
def HH(X:Cx)(t:CP):Prop :=
 ∀(a:List (Addr×Obj)) (s:Am) (b:St) (H:Hp) (o i v:V) (d c u:Value) (Q:Hp->Prop),Inv X a b H s->RelV o d->RelV i c->RelV v u->t o i v H Q ->
  wpAny (model X.prog X.w) X.A (setItem d c u) (λ_ f=>∃e,Inv X a b e f/\Q e) X.xe s
section
variable{X:Cx}{pos:Pos}
def Se(i:Nat):TG:=λv a H Q=>Q (a.set i (some v)) H
theorem Rm(d:X.N.Nodup)(f:X.N[i]? = some x)(b:Loc X.env.scope x)(c:X.fn x=true\/X.env.scope.names.lookup x=some .local:=by first | exact .inl rfl | exact .inr rfl | assumption):PG X (.Name x pos) (Se i):=by
 intro a s j H v u Q I r h
 exact wpAny_assign_Name (nP I d f b r (λg e=>⟨_,H,e,h⟩) c)
def DK:j5:=λvs a H Q=>vs=[]/\Q a H
def nH(t:TG)(u:j5):j5:=λvs c H Q=>∃v r,vs=v::r/\t v c H λa b=>u r a b Q
theorem uT:AO X [] DK:=by
 intro a s b H vs c Q I r h
 obtain ⟨e,h⟩:=h
 subst e
 cases r
 exact assignInOrder_nil ⟨b,H,I,h⟩
theorem bV(h1:PG X e t)(n:AO X es u)(j:(Fd (e::es) X.env).map (·.2)=Sj e X.env::(Fd es X.env).map (·.2):=by rfl):AO X (e::es) (nH t u):=by
 intro a s f H vs o Q I r h
 obtain ⟨v,p,i,h⟩:=h
 subst i
 cases r with
 | cons r m =>
  rw[j]
  refine assignInOrder_cons (Il (h1 a s f H _ _ _ I r h) λ_ d b => ?_)
  obtain ⟨c,g,l,k⟩ := b
  exact n a d c g _ _ Q l m k
def FN(K:PySem.W.Frag)(n:Nat)(t:j5):TG:=λv c H Q=>∃a b,v=.ref a/\Ve K H a b/\b.length=n/\t b c H Q
theorem zX{es:List Expr}{k:Nat}{t:j5}{n:Nat}(x:X.calm=true)(h:AO X es t)(q:(Fd es X.env).length=n:=by rfl)(d:(Fd es X.env).findIdx? (·.1)=none:=by rfl):PG X (.Tuple es k pos) (FN X.K n t):=by
 intro c s g H v u Q I r f
 obtain ⟨a,B,l,m,w,f⟩:=f
 subst l
 cases r
 obtain ⟨A,i,z,C⟩:=I.tuple m
 refine assign_Tuple_tuple (I.ok.hd x) z (by simp [q,<- w,i.length]) d λp j=>?_
 have y:Inv X c g H { s with heap:=p }:=I.kept (t':=s.toks) λb o e=>j b o (By (Bb e)) e
 exact h c _ g H B _ Q y (by simpa using i) f
def MG(e f:TE)(t:CP):TG:=λv a H Q=>e a H λo c=>f a c λi b=>t o i v b λd=>Q a d
theorem sH(J:PE X o g)(B:PE X i f)(F:HH X t)
  (p:∀v,Sj (.Subscript o i pos) X.env v=(do
   let c <- My [v] (eval o X.env)
   let d <- My [v,c] (eval i X.env)
   standAt pos
   My [v,c,d] (setItem c d v)
   release [v,c,d] []):=by intro _; rfl):PG X (.Subscript o i pos) (MG g f t):=by
 intro b s e H v u Q I r h
 rw[p]
 refine Ab (Cc (Il (J b s e H _ I h) λc D a => ?_))
 obtain ⟨x,j,G,z,n⟩ := a
 refine Ab (Cc (Il (B b D e j _ G n) λd m a => ?_))
 obtain ⟨y,C,E,q,A⟩ := a
 refine Ab (Uv (Ab (Cc (Il (F b m e C x y v c d u _ E z q r A) λ_ K a => ?_))))
 obtain ⟨k,w,l⟩ := a
 exact wpAny_release ⟨e,k,w,l⟩
def F8(b:TE)(g:TG):TS:=λD a H=>b a H λx c=>g x a c D.nx
theorem iW(j:PE X e c)(o:PG X b g)(k:swapsWithSole [b] e pos.line X.env=pure false:=by rfl)(hw:swappedStores [b] e X.env=pure none:=by rfl)(h1:(Fd [b] X.env).map (·.2)=[Sj b X.env]:=by rfl):PS X (.Assign [b] e pos) (F8 c g):=by
 intro a s d H D I h
 refine wpAny_Assign_stores (Il (j a s d H _ I h) λv f ⟨x,i,m,n,l⟩=>?_) k hw
 rw[h1]
 exact Il (o a f d i x v _ m n l) λ_ p q=>q
theorem Yg(q:X.N.Nodup)(r:X.N[i]? = some x)(g:Loc X.env.scope x)(k:PE X e c)(l:Hg e (some (.Name x a)) pos.line X.env=pure false:=by rfl)(p:X.fn x=true\/X.env.scope.names.lookup x=some .local:=by first | exact .inl rfl | exact .inr rfl | assumption):PS X (.Assign [.Name x a] e pos) (F8 c (Se i)):=by
 intro b s j H D I h
 refine wpAny_Assign_Name (Il (k b s j H _ I h) λv t ⟨y,f,n,o,m⟩=>?_) l
 exact nP n q r g o (λu d=>⟨_,f,d,m⟩) p
end
structure It where
 go:Nat->Hp->Prop
 yld:Nat->Hp->V->Hp->Prop
 stop:Nat->Hp->Prop
def Np(X:Cx)(a:List (Addr×Obj))(H:Hp)(b:Addr):Prop :=
 H b=none/\b≠X.env.locals/\b∉X.fs/\(b∈X.ex\/X.s₀.heap.objs.size<=b)/\(∀x c,X.env.cells.lookup x=some c->c≠b)/\∀p∈X.pn++a,p.1≠b
theorem Inv.fpOk{X:Cx}{a:List (Addr×Obj)}{g:St}{H H':Hp}{s:Am}{b:Addr}(I:Inv X a g H s)(hb:s.heap.objs.size<=b)(f:H' b=none):Np X a H' b:=by
 refine ⟨f,Nat.ne_of_gt (Bs I.lt hb),I.nofs hb,.inr (Ce I.sz hb),λx c e z=>?_,λp d z=>?_⟩
 ·obtain ⟨v,q⟩:=I.cell x c e
  exact absurd (Bs q.lt (by rw[z]; exact hb)) (Ey _)
 ·exact absurd (Bs (Bb (I.pin p d).1) (by rw[z]; exact hb)) (Ey _)
structure Turn(P:Bp)(w:World)(K:PySem.W.Frag)(tg:Expr)(J:It)(fp:List Addr)(it:Addr)(tn:Nat->Heap->Prop):Prop where
 mem:it∈fp
 obj:∀i h,tn i h->∀b∈fp,∃o,h.get? b=some o/\∀v,o.data≠.cell v
 keep:∀i h h',tn i h->(∀b∈fp,∀o,h.get? b=some o->h'.get? b=some o)->tn i h'
 item:∀(X:Cx),X.prog=P->X.w=w->X.K=K->X.calm=true->∀(i:Nat) (pins:List (Addr×Obj)) (s:Am) (σ:St) (H:Hp) (E:Value->Am->Prop),Inv X pins σ H s->(∀b∈fp,Np X pins H b)->tn i s.heap->J.go i H ->
  wpAny (model P w) X.A (Nh (.ref it)) (λr s1=>∃u,r=some u /\
   wpAny (model P w) X.A (Xr tg (.ref it) u) (λ_ s2=>∃x H',Inv X pins σ H' s2/\RelV x u/\J.yld i H x H'/\tn (i+1) s2.heap/\∀b∈fp,H' b=none) E s1) E s
 done:∀(X:Cx),X.prog=P->X.w=w->X.K=K->X.calm=true->∀(i:Nat) (pins:List (Addr×Obj)) (s:Am) (σ:St) (H:Hp) (E:Value->Am->Prop),Inv X pins σ H s->(∀b∈fp,Np X pins H b)->tn i s.heap->J.stop i H ->
  wpAny (model P w) X.A (Nh (.ref it)) (λr s1=>r=none/\Inv X pins σ H s1) E s
 self:∀(A:Cn) (i:Nat) (s:Am) (Q:Value->Am->Prop) (E:Value->Am->Prop),tn i s.heap->Q (.ref it) s->wpAny (model P w) A (pyIter (.ref it)) Q E s
abbrev TI:=St->Hp->(It->Hp->Prop)->Prop
def LK(X:Cx)(a:List (Addr×Obj))(h:St)(i:Expr)(R:It->Hp->Prop)(c:Value)(g:Am):Prop :=
 ∃(it:Addr) (e:List Addr) (f:Nat->Heap->Prop) (J:It) (d:Hp),c=.ref it/\Inv X a h d g/\Turn X.prog X.w X.K i J e it f/\f 0 g.heap/\(∀b∈e,Np X a d b)/\R J d
def PI(X:Cx)(e b:Expr)(f:TI):Prop :=
 ∀(a:List (Addr×Obj)) (s:Am) (c:St) (H:Hp) (R:It->Hp->Prop),Inv X a c H s->f c H R ->
  wpAny (model X.prog X.w) X.A (eval b X.env) (λv d=>wpAny (model X.prog X.w) X.A (pyIter v) (LK X a c e R) X.xe d) X.xe s
theorem sO(e:s.heap.get? it=some o)(d:o.cls=.type n)(hd:o.data=.fields vs)(c:["enumerate", "zip", "dict_itemiterator", "dict_reverseitemiterator", "odict_iterator", "itertools.zip_longest", "itertools.pairwise"].contains n=false)(a:Q () s):wpAny M A (Xr b (.ref it) u) Q E s:=by
  unfold Xr
  cases b <;> first
    | exact An a
    | (cases u <;> first
        | exact An a
        | (refine Ab (eB e ?_)
           rw[d,hd]
           show wpAny M A (if (["enumerate", "zip", "dict_itemiterator", "dict_reverseitemiterator", "odict_iterator", "itertools.zip_longest", "itertools.pairwise"].contains n && vs[0]? == some (Jm _))=true then _ else _) Q E s
           rw[if_neg (by intro h; rw[c,Bool.false_and] at h; cases h)]
           exact An a))
def GG(K:PySem.W.Frag)(a:Addr):It :=
 ⟨λi H=>∃b x,Kv K H a b/\b[i]? = some x,λi H x c=>c=H/\∀b,Kv K H a b->b[i]? = some x,λi H=>∃b,Kv K H a b/\b.length<=i⟩
def KY(K:PySem.W.Frag)(a:Addr):It :=
 ⟨λi H=>∃b x,Ve K H a b/\b[i]? = some x,λi H x c=>c=H/\∀b,Ve K H a b->b[i]? = some x,λi H=>∃b,Ve K H a b/\b.length<=i⟩
def IU(lo:Int)(n:Nat):It:=⟨λi _=>i<n,λi H x a=>a=H/\x=.int (lo+i),λi _=>n<=i⟩
theorem xM{P:Bp}{w:World}{K:PySem.W.Frag}{T:Expr}(a it:Addr):Turn P w K T (GG K a) [it] it (λi h=>h.IsListIter it a i) where
 mem:=by simp
 obj:=λi h st b g=>by
  have e:b=it:=by simpa using g
  subst e
  obtain ⟨o,e,c,d⟩:=st
  exact ⟨o,e,λv z=>by rw[d] at z; cases z⟩
 keep:=λi h n st k=>st.at λo e=>k it (by simp) o e
 item:=by
  intro X A D C N i f s M H E I m st B
  subst A D C
  obtain ⟨xs,x,l,r⟩:=B
  obtain ⟨t,L,p,V⟩:=I.list l
  obtain ⟨u,R,Y⟩:=L.get r
  obtain ⟨G,J,O,F,y,q⟩:=m it (by simp)
  refine wpAny_pyNext_list_item st p.isList (x:=u) (by simpa using R) λn j S=>?_
  have Z:Inv X f M H { s with heap:=n }:=I.turned (t':=s.toks) (λb o g e=>(S.2 b g).trans e) G J F y q
  obtain ⟨o,e,c,d⟩:=id j
  exact ⟨u,rfl,sO (s:={ s with heap:=n }) e c d (by decide) ⟨x,H,Z,Y,⟨rfl,λys Q=>by rw[I.list_inj Q l]; exact r⟩,j,λb g=>(m b g).1⟩⟩
 done:=by
  intro X A D C N i f s M H E I m st B
  subst A D C
  obtain ⟨xs,l,r⟩:=B
  obtain ⟨t,L,p,V⟩:=I.list l
  obtain ⟨G,J,O,F,y,q⟩:=m it (by simp)
  have hl:=L.length
  exact wpAny_pyNext_list_end (I.ok.hd N) st p.isList (by simp; omega) λn U=>⟨rfl,I.turned (t':=s.toks) (λb o g e=>U b o g e) G J F y q⟩
 self:=λ_ _ _ _ _ st h=>wpAny_pyIter_listiter st h
theorem rZ{P:Bp}{w:World}{K:PySem.W.Frag}{T:Expr}(a it:Addr):Turn P w K T (KY K a) [it] it (λi h=>h.IsTupleIter it a i) where
 mem:=by simp
 obj:=λi h st b j=>by
  have e:b=it:=by simpa using j
  subst e
  obtain ⟨o,e,c,d⟩:=st
  exact ⟨o,e,λv z=>by rw[d] at z; cases z⟩
 keep:=λi h q st k=>st.at λo e=>k it (by simp) o e
 item:=by
  intro X A D C N i f s M H E I n st B
  subst A D C
  obtain ⟨xs,x,m,t⟩:=B
  obtain ⟨g,L,p,V⟩:=I.tuple m
  obtain ⟨u,R,Y⟩:=L.get t
  obtain ⟨G,J,O,F,y,r⟩:=n it (by simp)
  refine wpAny_pyNext_tuple_item st (show s.heap.IsTuple a g.toArray from p) (x:=u) (by simpa using R) λq l S=>?_
  have Z:Inv X f M H { s with heap:=q }:=I.turned (t':=s.toks) (λb o j e=>(S.2 b j).trans e) G J F y r
  obtain ⟨o,e,c,d⟩:=id l
  exact ⟨u,rfl,sO (s:={ s with heap:=q }) e c d (by decide) ⟨x,H,Z,Y,⟨rfl,λys Q=>by rw[I.tuple_inj Q m]; exact t⟩,l,λb j=>(n b j).1⟩⟩
 done:=by
  intro X A D C N i f s M H E I n st B
  subst A D C
  obtain ⟨xs,m,t⟩:=B
  obtain ⟨g,L,p,V⟩:=I.tuple m
  obtain ⟨G,J,O,F,y,r⟩:=n it (by simp)
  have hl:=L.length
  exact wpAny_pyNext_tuple_end (I.ok.hd N) st (show s.heap.IsTuple a g.toArray from p) (by simp; omega) λq U=>⟨rfl,I.turned (t':=s.toks) (λb o j e=>U b o j e) G J F y r⟩
 self:=λ_ _ _ _ _ st h=>wpAny_pyIter_tupleiter st h
theorem rM{P:Bp}{w:World}{K:PySem.W.Frag}{G:Expr}(it:Addr)(lo:Int)(n:Nat):Turn P w K G (IU lo n) [it] it (λi h=>IsRangeIter h it (lo+(i:Nat) * 1) ((n:Int) - (i:Nat)) 1) where
 mem:=by simp
 obj:=λi h st b c=>by
  have e:b=it:=by simpa using c
  subst e
  exact ⟨_,st,λv z=>by
   have M:Data.fields _=Data.cell v:=z
   cases M⟩
 keep:=λi h g st k=>k it (by simp) _ st
 item:=by
  intro X m u q r i a s B H E I f st p
  subst m u q
  obtain ⟨y,A,F,x,l,j⟩:=f it (by simp)
  have W:=Walks.range (prog:=X.prog) (w:=X.w) (I.ok.hd r) it lo 1 n
  refine W.item i s _ _ p st λv g C D d J=>?_
  obtain ⟨t,rfl⟩:=D
  have N:Inv X a B H { s with heap:=g,toks:=C }:=I.turned (λb o c e=>J b o (by simpa using c) e) y A x l j
  refine ⟨_,rfl,sO (s:={ s with heap:=g,toks:=C }) (n := "range_iterator") d rfl rfl (by decide) ⟨.int (lo+i),H,N,⟨t,?_⟩,⟨rfl,rfl⟩,d,λb c=>(f b c).1⟩⟩
  rw[Int.mul_one]
 done:=by
  intro X m u q r i a s B H E I f st p
  subst m u q
  obtain ⟨y,A,F,x,l,j⟩:=f it (by simp)
  exact wpAny_pyNext_range_end (I.ok.hd r) st (by have : n<=i:=p; omega) λg L=>⟨rfl,I.turned (t':=s.toks) (λb o c e=>L b o c e) y A x l j⟩
 self:=λ_ _ _ _ _ st h=>wpAny_pyIter_rangeiter st h
section
variable{X:Cx}{c:Expr}
def IC(K:PySem.W.Frag)(tl:TE):TI:=λc H R=>tl c H λx b=>∃a,x=.ref a/\(∃d,Kv K b a d)/\R (GG K a) b
def LY(K:PySem.W.Frag)(tl:TE):TI:=λc H R=>tl c H λx b=>∃a,x=.ref a/\(∃d,Ve K b a d)/\R (KY K a) b
theorem tM(hl:PE X l tl):PI X c l (IC X.K tl):=by
 intro d s m H R I h
 refine Il (hl d s m H _ I h) λv f i => ?_
 obtain ⟨x,k,g,t,r⟩ := i
 obtain ⟨a,e,⟨z,n⟩,q⟩:=r
 subst e
 cases t
 obtain ⟨u,y,p,w⟩:=g.list n
 refine Ub p.isList ?_
 refine ⟨f.heap.objs.size,[f.heap.objs.size],_,_,k,rfl,g.kept (t':=f.toks) λb o e=>Ai _ e,xM a _,⟨_,Be _ rfl,rfl,rfl⟩,λb j=>?_,q⟩
 have e:b=f.heap.objs.size:=by simpa using j
 subst e
 exact g.fpOk (Ar _) (g.hok.fresh (Ar _))
theorem FD(hl:PE X l tl):PI X c l (LY X.K tl):=by
 intro f s n H R I h
 refine Il (hl f s n H _ I h) λv d i => ?_
 obtain ⟨x,m,g,u,t⟩ := i
 obtain ⟨a,e,⟨z,r⟩,q⟩:=t
 subst e
 cases u
 obtain ⟨j,y,p,w⟩:=g.tuple r
 refine wpAny_pyIter_tuple (show d.heap.IsTuple a j.toArray from p) ?_
 refine ⟨d.heap.objs.size,[d.heap.objs.size],_,_,m,rfl,g.kept (t':=d.toks) λb o e=>Ai _ e,rZ a _,⟨_,Be _ rfl,rfl,rfl⟩,λb k=>?_,q⟩
 have e:b=d.heap.objs.size:=by simpa using k
 subst e
 exact g.fpOk (Ar _) (g.hok.fresh (Ar _))
theorem zY{d:List (Addr×Obj)}{f:St}{H:Hp}{s:Am}{R:It->Hp->Prop}{E:Value->Am->Prop}{lo a:Int}{t u v:Tok}{h:Nat}(I:Inv X d f H s)(h1:-(2 ^ 62)<=lo)(l:lo<2 ^ 62)(n:-(2 ^ 62)<=a)(m:a<2 ^ 62)(q:R (IU lo (a - lo).toNat) H):wpAny (model X.prog X.w) X.A (pyIter (.ref s.heap.objs.size)) (LK X d f c R) E { s with heap:=s.heap.push { cls:=.type "range",data:=.fields #[.int lo t,.int a u,.int 1 v] },toks:=h }:=by
 refine wpAny_pyIter_range (IsRange.new ..) (small_one h1 l n m) ?_
 have g:Inv X d f H { s with heap:=s.heap.push { cls:=.type "range",data:=.fields #[.int lo t,.int a u,.int 1 v] },toks:=h }:=I.kept λb o e=>Ai _ e
 refine ⟨(s.heap.push { cls:=.type "range",data:=.fields #[.int lo t,.int a u,.int 1 v] }).objs.size,[(s.heap.push { cls:=.type "range",data:=.fields #[.int lo t,.int a u,.int 1 v] }).objs.size],_,_,H,rfl,
  g.kept (t':=h) λb o e=>Ai _ e,rM _ lo (a - lo).toNat,?_,λb i=>?_,q⟩
 ·have k:lo+((0:Nat):Int) * 1=lo:=by simp
  have j:(((a - lo).toNat:Nat):Int) - ((0:Nat):Int)=aE lo a 1:=by rw[rangeSize_one]; split <;> omega
  show IsRangeIter _ _ (lo+((0:Nat):Int) * 1) ((((a - lo).toNat:Nat):Int) - ((0:Nat):Int)) 1
  rw[k,j]
  exact Be _ rfl
 ·have e:b=(s.heap.push { cls:=.type "range",data:=.fields #[.int lo t,.int a u,.int 1 v] }).objs.size:=by simpa using i
  subst e
  exact g.fpOk (Ar _) (g.hok.fresh (Ar _))
def JH(ta:TA):TI:=λa H R=>ta a H λvs b=>∃j:Int,vs=[.int j] /\ -(2 ^ 62)<=j/\j<2 ^ 62/\R (IU 0 j.toNat) b
theorem wI(u:Gl X "range")(n:X.mg "range" = none)(i:PA X [a] ta)(g:Bl [a] X.env=[(false,eval a X.env)]:=by rfl):PI X c (.Call (.Name "range" p) [a] [] pos) (JH ta):=by
 intro b s f H R I h
 refine Call_ (Ld I u n boot_range (Fk (Il (i pos b s f H _ I h) λv w ⟨vs,x,k,l,d⟩=>?_) g rfl))
 obtain ⟨j,e,d,o,q⟩:=d
 subst e
 cases l with
 | cons r m =>
  cases m
  obtain ⟨t,rfl⟩:=r
  exact call_range_1 (zY k (by omega) (by omega) d o (by simpa using q))
def MF(k:TI)(g:TG)(j:TS):TS:=λD a H=>k a H λJ h=>∃W:Nat->Nat->St->Hp->Prop,(∃m,W 0 m a h)/\∀i m a H,W i m a H ->
 (J.stop i H/\D.nx a H)\/(J.go i H/\∃N:St->Hp->Prop,(∀b c,N b c->∃e,e<m/\W (i+1) e b c)/\∀x c,J.yld i H x c->g x a c λd f=>j { D with nx:=N,ct:=N,bk:=D.nx } d f)
def dM(fp:List Addr)(h:Heap):List (Addr×Obj):=fp.filterMap λb=>(h.get? b).map λo=>(b,o)
theorem Rk(hb:b∈fp)(e:h.get? b=some o):(b,o)∈dM fp h:=M9.mpr ⟨b,hb,by rw[e]; rfl⟩
theorem xE(c:p∈dM fp h):p.1∈fp/\h.get? p.1=some p.2:=by
 obtain ⟨b,d,e⟩:=List.mem_filterMap.mp c
 cases q:h.get? b with
 | none=>rw[q] at e; cases e
 | some o =>
  rw[q] at e
  have a:(b,o)=p:=Bo e
  subst a
  exact ⟨d,q⟩
theorem Inv.pinned{a:List (Addr×Obj)}{f:St}{H:Hp}{s:Am}{fp:List Addr}(I:Inv X a f H s)(l:∀b∈fp,Np X a H b)(m:∀b∈fp,∃o,s.heap.get? b=some o/\∀v,o.data≠.cell v):Inv X (a++dM fp s.heap) f H s :=
 I.pins_of λp k=>(Bf.mp k).elim (λz=>I.pin p (Aw _ z)) λz=>by
  obtain ⟨g,e⟩:=xE z
  obtain ⟨i,j,h,_⟩:=l p.1 g
  obtain ⟨o,c,d⟩:=m p.1 g
  rw[e] at c; cases c
  exact ⟨e,i,j,h,d⟩
theorem Inv.unpinned{a c:List (Addr×Obj)}{b:St}{H:Hp}{s:Am}(I:Inv X (a++c) b H s):Inv X a b H s:=I.pins_of λp d=>I.pin p (Aw _ (Ap _ d))
theorem qY(G:PassesOwn (model X.prog X.w) X.A X.env X.xe)(hc:X.calm=true)(hi:PI X c z wi)(hg:PG X c g)(hb:rJ X E tb)(hs:∀x,Cz z X.env x=pure x:=by intro _; rfl):PS X (.For c z E [] pos) (MF wi g tb):=by
 intro j s σ H D I h
 refine wpAny_For (Il (hi j s σ H _ I h) λv s1 h1=>Il h1 λh0 s2 h2=>?_) hs
 obtain ⟨it,K,tn,J,H2,e,I2,T,Y,f2,W,⟨m0,w0⟩,O⟩:=h2
 subst e
 -- what stays true of the iterator's objects through the loop
 have q:∀{B:Hp},(∀b∈K,B b=none)->∀b∈K,Np X j B b:=λhn b hb=>⟨hn b hb,(f2 b hb).2⟩
 refine codeAny_forLoop_any (λn s'=>∃i t B,Inv X j t B s'/\tn i s'.heap/\(∀b∈K,B b=none)/\W i n t B) ?_ m0 ⟨0,σ,H2,I2,Y,λb hb=>(f2 b hb).1,w0⟩
 (intro n s3 q_; obtain ⟨i,l,Q,I3,zE,L,w3⟩ := q_)
 rcases O i n l Q w3 with ⟨M,qn⟩ | ⟨go,N,hN,step⟩
 ·refine Qm G (Il (T.done X rfl rfl rfl hc i j s3 l Q X.xe I3 (q L) zE M) λr s4 k => ?_)
  obtain ⟨V,I4⟩ := k
  subst V
  exact wpAny_execs_nil ⟨l,Q,I4,qn⟩
 ·refine Qm G (Il (T.item X rfl rfl rfl hc i j s3 l Q X.xe I3 (q L) zE go) λr s4 k => ?_)
  obtain ⟨u,V,h4⟩ := k
  subst V
  refine Qm G (Il h4 λ_ s5 k => ?_)
  obtain ⟨x,H5,I5,r5,y5,F,Z⟩ := k
  have S:=I5.pinned (q Z) (T.obj _ _ F)
  refine Qm G (Il (hg _ s5 l H5 x u _ S r5 (step x H5 y5)) λ_ s6 k => ?_)
  obtain ⟨R,H6,I6,q6⟩ := k
  refine Qm G (Il (hb _ s6 R H6 _ I6 q6) λf U C=>?_)
  have again:∀{a:St} {p:Hp},Inv X (j++dM K s5.heap) a p U->N a p->∃m,m<n/\∃i t B,Inv X j t B U/\tn i U.heap/\(∀b∈K,B b=none)/\W i m t B:=λ{a p} y P=>by
   obtain ⟨m',hm,w7⟩:=hN a p P
   refine ⟨m',hm,i+1,a,p,y.unpinned,T.keep _ _ _ F λb hb o e=>(y.pin (b,o) (Aw _ (Aw _ (Rk hb e)))).1,λb hb=>?_,w7⟩
   obtain ⟨o,e,d⟩:=T.obj _ _ F b hb
   exact (y.pin (b,o) (Aw _ (Aw _ (Rk hb e)))).2.1
  cases f with
  | next=>obtain ⟨a,p,y,P⟩:=C; exact again y P
  | cont=>obtain ⟨a,p,y,P⟩:=C; exact again y P
  | brk=>obtain ⟨a,p,y,C⟩:=C; exact ⟨a,p,y.unpinned,C⟩
  | ret v=>obtain ⟨x7,a,p,y,r7,C⟩:=C; exact ⟨x7,a,p,y.unpinned,r7,C⟩
end
theorem G6{K:PySem.W.Frag}{a:Addr}{xs:List V}{g:TG}{j:TS}{D:Ends}{b:St}{H:Hp}(Pv:Nat->St->Hp->Prop)(h0:Pv 0 b H)(hl:∀i b H,i<=xs.length->Pv i b H->Kv K H a xs)(l:∀i x b H,xs[i]? = some x->Pv i b H->g x b H λd h=>j { D with nx:=Pv (i+1),ct:=Pv (i+1),bk:=D.nx } d h)(hd:∀b H,Pv xs.length b H->D.nx b H):∃W:Nat->Nat->St->Hp->Prop,(∃m,W 0 m b H)/\∀i m b H,W i m b H->((GG K a).stop i H/\D.nx b H)\/((GG K a).go i H/\∃N:St->Hp->Prop,(∀c H',N c H'->∃k,k<m/\W (i+1) k c H')/\∀x H',(GG K a).yld i H x H'->g x b H' λd h=>j { D with nx:=N,ct:=N,bk:=D.nx } d h):=by
 refine ⟨λi m b H=>m=xs.length - i/\i<=xs.length/\Pv i b H,⟨xs.length,by simp,Dg _,h0⟩,?_⟩
 (intro i m b H o; obtain ⟨rfl,r,p⟩ := o)
 have q:=hl i b H r p
 by_cases f:i<xs.length
 ·refine .inr ⟨⟨xs,xs[i],q,by simp [f]⟩,Pv (i+1),λc H' n=>⟨xs.length - (i+1),by omega,rfl,f,n⟩,λx H' y=>?_⟩
  obtain ⟨e,y⟩:=y
  subst e
  exact l i x b _ (y xs q) p
 ·have e:i=xs.length:=by omega
  subst e
  exact .inl ⟨⟨xs,q,Ar _⟩,hd b H p⟩
abbrev R2:=V->V->Hp->VK->Prop
def Wk(X:Cx)(f:Value->Value->Sem Value)(r:R2):Prop :=
 ∀(a:List (Addr×Obj)) (s:Am) (b:St) (H:Hp) (x y:V) (v u:Value) (Q:VK),Inv X a b H s->RelV x v->RelV y u->r x y H Q ->
  wpAny (model X.prog X.w) X.A (f v u) (EP X a b Q) X.xe s
def LJ(X:Cx)(f:Value->Sem Value)(r:V->Hp->VK->Prop):Prop :=
 ∀(a:List (Addr×Obj)) (s:Am) (b:St) (H:Hp) (x:V) (v:Value) (Q:VK),Inv X a b H s->RelV x v->r x H Q ->
  wpAny (model X.prog X.w) X.A (f v) (EP X a b Q) X.xe s
def Pe(X:Cx)(f:Value)(r:List V->Hp->VK->Prop):Prop :=
 ∀(a:List (Addr×Obj)) (s:Am) (d:St) (H:Hp) (c:List V) (b:List Value) (Q:VK),Inv X a d H s->Fs c b->r c H Q ->
  wpAny (model X.prog X.w) X.A (call f b) (EP X a d Q) X.xe s
def MR(X:Cx)(r:V->Hp->(Bool->Hp->Prop)->Prop):Prop :=
 ∀(a:List (Addr×Obj)) (s:Am) (b:St) (H:Hp) (x:V) (v:Value) (Q:Bool->Hp->Prop),Inv X a b H s->RelV x v->r x H Q ->
  wpAny (model X.prog X.w) X.A (truthy v) (TP X a b Q) X.xe s
def JQ(r:R2)(ta b:TE):TE:=λa H Q=>ta a H λx d=>b a d λy c=>r x y c Q
def OB(r:V->Hp->VK->Prop)(ta:TE):TE:=λa H Q=>ta a H λx b=>r x b Q
def rI(C:Int->Int->Prop)(g:Int->Int->V):R2:=λx y H Q=>∃i j,x=.int i/\y=.int j/\C i j/\Q (g i j) H
def V1(g:Int->Int->V):R2:=λx y H Q=>∃i j,x=.int i/\y=.int j/\Q (g i j) H
def rU(g:Int->V):V->Hp->VK->Prop:=λx H Q=>∃i,x=.int i/\Q (g i) H
section
variable{X:Cx}{a b c:Expr}{ta d e:TE}{pos:Pos}
theorem FU(r:PE X a ta)(hb:PE X b d){c:List (Addr×Obj)}{s:Am}{i:St}{H:Hp}{R:V->V->Hp->Prop}(I:Inv X c i H s)(h:ta i H λx m=>d i m λy g=>R x y g){Q:Value->Am->Prop}{f:Value->Value->Sem Value}(B:∀v u l x y g,Inv X c i g l->RelV x v->RelV y u->R x y g->wpAny (model X.prog X.w) X.A (f v u) Q X.xe l):wpAny (model X.prog X.w) X.A (eval a X.env) (λv k=>wpAny (model X.prog X.w) X.A (eval b X.env) (λu j=>wpAny (model X.prog X.w) X.A (f v u) Q X.xe j) X.xe k) X.xe s:=by
 refine Il (r c s i H _ I h) λv n e => ?_
 obtain ⟨x,m,t,z,q⟩ := e
 refine Il (hb c n i m _ t q) λu l e => ?_
 obtain ⟨y,g,o,p,C⟩ := e
 exact B v u l x y g o z p C
theorem Ju(m:Wk X (Iw op) r)(k:PE X a ta)(hb:PE X b d):PE X (.BinOp a op b pos) (JQ r ta d):=by
 intro c s g H Q I h
 exact wpAny_BinOp (FU k hb I h λv u j x y e f i l q=>m c j g e x y v u Q f i l q)
theorem AH(k:LJ X (unaryOp op) r)(g:PE X a ta):PE X (.UnaryOp op a pos) (OB r ta):=by
 intro b s c H Q I h
 exact UnaryOp_ (Il (g b s c H _ I h) λv d ⟨x,e,i,j,f⟩=>k b d c e x v Q i j f)
theorem GD{f:Value->Value->Sem Value}{C:Int->Int->Prop}{g:Int->Int->Int}(rule:∀(i j:Int) (t u:Tok) (s:Am) (Q:Value->Am->Prop) (E:Value->Am->Prop),C i j->Q (.int (g i j) s.toks) { s with toks:=s.toks+1 }->wpAny (model X.prog X.w) X.A (f (.int i t) (.int j u)) Q E s):Wk X f (rI C λi j=>.int (g i j)):=by
 intro a s k H x y v u Q I b e h
 obtain ⟨i,j,rfl,rfl,d,q⟩:=h
 obtain ⟨t,rfl⟩:=b
 obtain ⟨c,rfl⟩:=e
 exact rule i j t c s _ _ d ⟨.int (g i j),H,I.tok _,⟨_,rfl⟩,q⟩
theorem CO{f:Value->Value->Sem Value}{g:Int->Int->Int}(rule:∀(i j:Int) (t u:Tok) (s:Am) (Q:Value->Am->Prop) (E:Value->Am->Prop),Q (.int (g i j) s.toks) { s with toks:=s.toks+1 }->wpAny (model X.prog X.w) X.A (f (.int i t) (.int j u)) Q E s):Wk X f (V1 λi j=>.int (g i j)):=by
 intro a s e H x y v u Q I b d h
 obtain ⟨i,j,rfl,rfl,q⟩:=h
 obtain ⟨t,rfl⟩:=b
 obtain ⟨c,rfl⟩:=d
 exact rule i j t c s _ _ ⟨.int (g i j),H,I.tok _,⟨_,rfl⟩,q⟩
theorem FZ{f:Value->Value->Sem Value}{g:Int->Int->Bool}(rule:∀(i j:Int) (t u:Tok) (s:Am) (Q:Value->Am->Prop) (E:Value->Am->Prop),Q (.bool (g i j)) s->wpAny (model X.prog X.w) X.A (f (.int i t) (.int j u)) Q E s):Wk X f (V1 λi j=>.bl (g i j)):=by
 intro a s e H x y v u Q I b d h
 obtain ⟨i,j,rfl,rfl,q⟩:=h
 obtain ⟨t,rfl⟩:=b
 obtain ⟨c,rfl⟩:=d
 exact rule i j t c s _ _ ⟨.bl (g i j),H,I,rfl,q⟩
def FG(i j:Int):Prop:=0<j/\j<1073741824
def O6(i j:Int):Prop:=0<=j/\j<=1000000/\i.natAbs<2 ^ 64
def FI(i j:Int):Prop:=(-(2 ^ 64)<i/\i<2 ^ 64)\/(-(2 ^ 64)<j/\j<2 ^ 64)
theorem FI.ok(h:FI i j):IntMulOk i j:=by
 rcases h with ⟨a,b⟩ | ⟨a,b⟩
 ·exact .of_left (intBits_le_64 a b)
 ·exact .of_right (intBits_le_64 a b)
theorem bC:Wk X (Iw .Add) (V1 λi j=>.int (i+j)):=CO λ_ _ _ _ _ _ _ q=>add_int q
theorem DJ:Wk X (Iw .Sub) (V1 λi j=>.int (i - j)):=CO λ_ _ _ _ _ _ _ q=>sub_int q
theorem Ye:Wk X (Iw .Mult) (rI FI λi j=>.int (i * j)):=GD λ_ _ _ _ _ _ _ a q=>mul_int q a.ok
theorem iO:Wk X (Iw .FloorDiv) (rI FG λi j=>.int (i / j)):=GD λi j _ _ _ _ _ a q=>by
 have b:(0:Int)<j:=a.1
 have c:j<1073741824:=a.2
 exact floordiv_int (by omega) (by rw[Int.fdiv_eq_ediv_of_nonneg i (by omega)]; exact q) (.inl (PyProof.noPylong_small (by omega)))
theorem Wg:Wk X (Iw .Mod) (rI (λ_ j=>0<j) λi j=>.int (i % j)):=GD λi j _ _ _ _ _ a q=>by
 have b:(0:Int)<j:=a
 exact mod_int' (by omega) (by rw[Int.fmod_eq_emod_of_nonneg i (by omega)]; exact q)
theorem kF:Wk X (Iw .Pow) (rI O6 λi j=>.int (i ^ j.toNat)):=GD λ_ _ _ _ _ _ _ a q=>pow_int_small a.1 a.2.1 a.2.2 q
theorem CS:Wk X (Iw .LShift) (rI O6 λi j=>.int (i * 2 ^ j.toNat)):=GD λ_ _ _ _ _ _ _ a q=>lshift_int_small a.1 a.2.1 a.2.2 q
theorem DM:Wk X (Iw .BitXor) (V1 λi j=>.int (Builtin.bitXor i j)):=CO λ_ _ _ _ _ _ _ q=>xor_int q
theorem NZ{f:Value->Sem Value}{g:Int->Int}(rule:∀(i:Int) (t:Tok) (s:Am) (Q:Value->Am->Prop) (E:Value->Am->Prop),Q (.int (g i) s.toks) { s with toks:=s.toks+1 }->wpAny (model X.prog X.w) X.A (f (.int i t)) Q E s):LJ X f (rU λi=>.int (g i)):=by
 intro a s c H x v Q I b h
 obtain ⟨i,rfl,q⟩:=h
 obtain ⟨t,rfl⟩:=b
 exact rule i t s _ _ ⟨.int (g i),H,I.tok _,⟨_,rfl⟩,q⟩
theorem zU:LJ X (unaryOp .USub) (rU λi=>.int (-i)):=NZ λ_ _ _ _ _ q=>neg_int q
end
section
variable{X:Cx}{a b c:Expr}{ta d f:TE}{pos:Pos}
theorem DH{a:List (Addr×Obj)}{c:St}{H:Hp}{s:Am}{Q:VK}{k b:Bool}(I:Inv X a c H s)(q:Q (.bl k) H)(e:k=b):EP X a c Q (.bool b) s:=by
 subst e
 exact ⟨.bl k,H,I,rfl,q⟩
theorem op_le:Wk X (Hh .LtE) (V1 λi j=>.bl (decide (i<=j))):=FZ λ_ _ _ _ _ _ _ q=>le_int q
theorem HV:Wk X (Hh .Gt) (V1 λi j=>.bl (decide (j<i))):=FZ λ_ _ _ _ _ _ _ q=>gt_int q
theorem J0:Wk X (Hh .GtE) (V1 λi j=>.bl (decide (j<=i))):=FZ λ_ _ _ _ _ _ _ q=>ge_int q
theorem CT:Wk X (Hh .Is) (λx y H Q=>y=.non/\Q (.bl (decide (x=.non))) H):=by
 intro b s d H x y v u Q I a c h
 obtain ⟨rfl,q⟩:=h
 cases c
 refine is_none_gen (DH I q ?_)
 cases x <;> first
  | (cases a; rfl)
  | (obtain ⟨t,rfl⟩:=a; rfl)
theorem Rh(b:Expr)(h:op≠.In:=by decide)(c:op≠.NotIn:=by decide):Kr op b=false:=by
 have a:(op == CmpOp.In)=false:=by cases op <;> first | rfl | exact absurd rfl h
 have d:(op == CmpOp.NotIn)=false:=by cases op <;> first | rfl | exact absurd rfl c
 cases b <;> simp [Kr,a,d]
theorem Q2(n:Wk X (Hh op) r)(k:PE X a ta)(hb:PE X b d)(m:Kr op b=false):PE X (.Compare a [op] [b] pos) (JQ r ta d):=by
 intro c s g H Q I h
 exact wpAny_Compare1 (FU k hb I h λv u j x y e f i l q=>n c j g e x y v u Q f i l q) m
def KI(t:TE):TT:=λb H Q=>t b H λx a=>∃k,x=.bl k/\Q k a
theorem uS(G:Wk X (Hh op) r)(o:PE X a ta)(hb:PE X b d)(A:Kr op b=false):PT X (.Compare a [op] [b] pos) (KI (JQ r ta d)):=by
 intro f s g H Q I h
 refine wpAny_isTrue_Compare1 (Il (o f s g H _ I h) λv D ⟨x,i,F,w,n⟩=>Il (hb f D g i _ F n) λu m ⟨y,C,E,q,B⟩ =>
  Il (G f m g C x y v u _ E w q B) λc J ⟨z,j,t,p,k,e,l⟩=>?_) A
 subst e
 cases p
 exact Gd ⟨j,t,l⟩
def V8(K:PySem.W.Frag)(x:V)(H:Hp)(k:Bool):Prop :=
 match x with
 | .non=>k=false
 | .bl b=>k=b
 | .int i=>k=(i != 0)
 | .str y=>y.length<=Az/\k=((y.length:Int) != 0)
 | .byt y=>y.size<=Az/\k=((y.size:Int) != 0)
 | .ref p=>(∃c,Kv K H p c/\k = !c.isEmpty)\/(∃c,Ve K H p c/\k = !c.isEmpty)\/∃a,H p=some (.dK a)/\k = !a.isEmpty
 | _=>False
theorem sE{b:Type}{a:List (b×V)}{vs:List (b×Value)}(r:KV a vs):(!vs.isEmpty) = !a.isEmpty:=by
 cases r <;> rfl
theorem bF(r:Fs xs its):(!its.toArray.isEmpty) = !xs.isEmpty:=by
 cases r <;> simp
theorem Tb:(Az:Nat)<2 ^ 63:=by rw[Fc]; decide
theorem CQ:MR X (λx H Q=>∃k,V8 X.K x H k/\Q k H):=by
 intro u s B H x v Q I g h
 obtain ⟨k,e,q⟩:=h
 have D:=Tb
 have C:Az=16777216:=Fc
 cases x with
 | non =>
  cases g
  have a:k=false:=e
  subst a
  exact truthy_none ⟨H,I,q⟩
 | bl b =>
  cases g
  have a:k=b:=e
  subst a
  exact Gd ⟨H,I,q⟩
 | int i =>
  obtain ⟨t,rfl⟩:=g
  have a:k=(i != 0):=e
  subst a
  exact PySem.P.truthy_int ⟨H,I,q⟩
 | str y =>
  obtain ⟨t,rfl⟩:=g
  obtain ⟨A,a⟩ : y.length<=Az/\k=((y.length:Int) != 0):=e
  subst a
  exact PySem.P.truthy_str (by omega) ⟨H,I.tok _,q⟩
 | byt y =>
  obtain ⟨t,rfl⟩:=g
  obtain ⟨A,a⟩ : y.size<=Az/\k=((y.size:Int) != 0):=e
  subst a
  exact PySem.W.truthy_bytes (by omega) ⟨H,I.tok _,q⟩
 | ref p =>
  cases g
  have a:(∃f,Kv X.K H p f/\k = !f.isEmpty)\/(∃f,Ve X.K H p f/\k = !f.isEmpty)\/∃c,H p=some (.dK c)/\k = !c.isEmpty:=e
  rcases a with ⟨f,j,a⟩ | ⟨f,j,a⟩ | ⟨c,j,a⟩
  ·subst a
   obtain ⟨n,r,l,o⟩:=I.list j
   have d:=r.length
   exact wpAny_truthy_list l.isList (by simp only[Av]; omega) ⟨H,I.tok _,by rw[bF r]; exact q⟩
  ·subst a
   obtain ⟨n,r,l,o⟩:=I.tuple j
   have d:=r.length
   exact truthy_tuple l (by simp only[Av]; omega) ⟨H,I.tok _,by rw[bF r]; exact q⟩
  ·subst a
   obtain ⟨o,z,vs,r,m⟩ : c.length<=Az/\(p == Hk)=false/\∃vs,KV c vs/\s.heap.DictOf (Hx X.prog X.w) p vs:=I.hok p _ j
   have d:c.length=vs.length:=Paired.length r
   exact wpAny_truthy_dict z m (by omega) ⟨H,I.tok _,by rw[sE r]; exact q⟩
 | _=>exact (show False from e).elim
theorem A5(j:PE X a ta)(f:∀b,isTrue a X.env b=(do let v <- b; standAt a.pos; My [v] (truthy v))) :
  PT X a (λd H Q=>ta d H λx H'=>∃k,V8 X.K x H' k/\Q k H'):=by
 intro c s d H Q I h
 exact isTrue_plain (Il (j c s d H _ I h) λv e ⟨x,g,m,l,i⟩=>CQ c e d g x v Q m l i) (f _)
theorem vals1(r:Fs [x] us):∃u,us=[u]/\RelV x u:=by
 cases r with
 | cons b a=>cases a; exact ⟨_,rfl,b⟩
theorem vals2(r:Fs [x,y] us):∃u a,us=[u,a]/\RelV x u/\RelV y a:=by
 cases r with
 | cons d b =>
  cases b with
  | cons e c=>cases c; exact ⟨_,_,rfl,d,e⟩
theorem vK(c:X.calm=true):Pe X (.builtin "max") (λxs H Q=>∃i j,xs=[.int i,.int j]/\Q (.int (if j > i then j else i)) H):=by
 intro b s e H xs d Q I r h
 obtain ⟨i,j,rfl,q⟩:=h
 obtain ⟨u,f,rfl,⟨t,rfl⟩,⟨l,rfl⟩⟩:=vals2 r
 refine max_two_ints (I.ok.hd c) λg m k=>⟨_,H,I.kept k,?_,q⟩
 by_cases a:j > i
 ·rw[if_pos a,if_pos a]; exact ⟨_,rfl⟩
 ·rw[if_neg a,if_neg a]; exact ⟨_,rfl⟩
theorem Yx:Pe X (.type "int") (λxs H Q=>(∃i,xs=[.int i]/\Q (.int i) H)\/∃k,xs=[.bl k]/\Q (.int (if k then 1 else 0)) H):=by
 intro a s d H xs c Q I r h
 rcases h with ⟨i,rfl,q⟩ | ⟨k,rfl,q⟩
 ·obtain ⟨u,rfl,t,rfl⟩:=vals1 r
  exact call_int_int ⟨.int i,H,I,⟨_,rfl⟩,q⟩
 ·obtain ⟨u,rfl,b⟩:=vals1 r
  cases b
  exact call_int_bool ⟨.int (if k then 1 else 0),H,I.tok _,⟨_,rfl⟩,q⟩
def IF(K:PySem.W.Frag)(x:V)(H:Hp)(n:Nat):Prop :=
 match x with
 | .str y=>y.length<=Az/\n=y.length
 | .byt y=>y.size<=Az/\n=y.size
 | .ref p=>(∃a,Kv K H p a/\n=a.length)\/∃a,Ve K H p a/\n=a.length
 | _=>False
theorem Gb:Pe X (.builtin "len") (λxs H Q=>∃x n,xs=[x]/\IF X.K x H n/\Q (.int n) H):=by
 intro j s o H xs m Q I r h
 obtain ⟨x,n,rfl,e,q⟩:=h
 obtain ⟨u,rfl,c⟩:=vals1 r
 have w:=Tb
 have v:Az=16777216:=Fc
 cases x with
 | str y =>
  obtain ⟨t,rfl⟩:=c
  obtain ⟨l,b⟩ : y.length<=Az/\n=y.length:=e
  subst b
  exact len_str (by omega) ⟨.int _,H,I.tok _,⟨_,rfl⟩,q⟩
 | byt y =>
  obtain ⟨t,rfl⟩:=c
  obtain ⟨l,b⟩ : y.size<=Az/\n=y.size:=e
  subst b
  exact PySem.W.len_bytes (by omega) ⟨.int _,H,I.tok _,⟨_,rfl⟩,q⟩
 | ref p =>
  cases c
  have b:(∃xs,Kv X.K H p xs/\n=xs.length)\/∃xs,Ve X.K H p xs/\n=xs.length:=e
  rcases b with ⟨xs,d,b⟩ | ⟨xs,d,b⟩
  ·subst b
   obtain ⟨i,f,g,k⟩:=I.list d
   have a:=f.length
   exact Calls.call_len_list g.isList (by simp only[Av]; omega) ⟨.int xs.length,H,I.tok _,⟨_,by simp only[Av]; rw[a]⟩,q⟩
  ·subst b
   obtain ⟨i,f,g,k⟩:=I.tuple d
   have a:=f.length
   exact len_tuple g (by simp only[Av]; omega) ⟨.int xs.length,H,I.tok _,⟨_,by simp only[Av]; rw[a]⟩,q⟩
 | _=>exact (show False from e).elim
end
structure ObjM(h:Heap)(x dx C:Addr)(mA:Str->Option Value):Prop where
 obj:h.get? x=some (PySem.W.instObj C dx)
 ns:h.Ns1 dx mA
 ne:dx≠x
theorem xV{h:Heap}{f:Addr}{d:Str->Option Value}(n:h.Ns1 f d):∃c,h.get? f=some c/\∀name,PySem.W.lookIn name c=some (d name):=by
 obtain ⟨o,g,r,m,i,j,_,l⟩:=n
 refine ⟨o,m,λname=>?_⟩
 have e:=l name
 unfold nsFind findBy at e
 rw[<- Array.find?_toList] at e
 unfold PySem.W.lookIn
 rw[i]
 dsimp only
 split
 ·rename_i y q
  rw[q] at e
  exact congrArg some e
 ·rename_i q
  rw[q] at e
  have a:g.toList.any (·.refKey)=false:=by
   rw[List.any_eq_false]
   intro y p
   obtain ⟨z,t,b⟩:=j y (Array.mem_toList_iff.mp p)
   simp [DictEntry.refKey,b]
  have k:¬ g.toList.any (·.refKey)=true:=by rw[a]; exact Cr
  rw[if_neg k]
  exact congrArg some e
theorem ObjM.look(I:ObjM h x c C b):∃a,PySem.W.InstAt h x (PySem.W.instObj C c) C (some a)/\∀name,PySem.W.lookIn name a=some (b name) :=
 let ⟨a,ho,hl⟩:=xV I.ns
 ⟨a,⟨I.obj,rfl,rfl,ho⟩,hl⟩
theorem kZ.some_of(r:kZ (some v) o):∃u,o=some u/\RelV v u:=by
 cases o with
 | none=>exact (show False from r).elim
 | some u=>exact ⟨u,rfl,r⟩
section
variable{P:Bp}{w:World}{H H':Hp}{h h':Heap}{a C b:Addr}{fs c:List (Str×V)}
theorem O3(g:Wq P w H h)(e:H a=some (.ins C b fs)):∃c,ObjM h a b C c/\(∀f,kZ (fs.lookup f) (c f))/\PySem.Within c (fs.map (·.1))/\fs.length<=1000/\H b=some (.own a):=by
 obtain ⟨d,z,j,i,c,n,r,q⟩:=(show Hz P w H h a (.ins C b fs) from g a _ e)
 exact ⟨c,⟨i,n,j⟩,r,q,z,d⟩
end
structure Cls(K:PySem.W.Frag)(C:Addr):Prop where
 pg:PySem.W.plainGet K C Str.empty=true
 hd:PySem.W.hasDictIn K C=true
 po:PySem.W.plainOver K C=true
 sa:PySem.W.findIn K (.ref C) "__setattr__" = some (some (.builtin "object.__setattr__"))
theorem Cls.get{K:PySem.W.Frag}{C:Addr}(c:Cls K C)(f:Str):PySem.W.plainGet K C f=true:=c.pg
section
variable{X:Cx}{d:List (Addr×Obj)}{f:St}{H:Hp}{s:Am}{A:Cn}{E:Value->Am->Prop}{Q:Value->Am->Prop}{c:Value}{b:Bool}
inductive TyOf (K:PySem.W.Frag) (H:Hp):V->Value->Prop where
 | non:TyOf K H .non (.type "NoneType")
 | bl (x:Bool):TyOf K H (.bl x) (.type "bool")
 | int (i:Int):TyOf K H (.int i) (.type "int")
 | str (x:Str):TyOf K H (.str x) (.type "str")
 | flt (x:UInt64):TyOf K H (.flt x) (.type "float")
 | lst {a:Addr} {xs:List V} (e:H a=some (.lst xs)):TyOf K H (.ref a) (.type "list")
 | frz {a:Addr} {o:Obj} {xs:List V} (e:H a=some (.frz o (.lst xs))):TyOf K H (.ref a) (.type "list")
 | tup {a:Addr} {xs:List V} (e:H a=some (.tup xs)):TyOf K H (.ref a) (.type "tuple")
 | dK {a:Addr} {kvs:List (Ib×V)} (e:H a=some (.dK kvs)):TyOf K H (.ref a) (.type "dict")
 | dT {a:Addr} {kvs:List (List Ib×V)} (e:H a=some (.dT kvs)):TyOf K H (.ref a) (.type "dict")
 | ins {a C dx:Addr} {fs:List (Str×V)} (e:H a=some (.ins C dx fs)) (cl:Cls K C) (ha:PySem.W.findIn K (.ref C) "__class__" = some (some (.builtin "object.__class__")))
   (hn:PySem.W.specialIn K (.builtin "object.__class__") "__get__" = some (some (.builtin "getset_descriptor.__get__"))) (htk:PySem.W.takesIn K (.builtin "object.__class__")=some true)
   (hm:PySem.W.mroIn K C (.type "object")=some true):TyOf K H (.ref a) (.ref C)
theorem vQ(I:Inv X d f H s)(j:RelV x u)(F:TyOf X.K H x t)(e:PySem.W.kitOne X.K t c=some b)(h:∀R,Q (.bool b) { s with toks:=R }):wpAny (model X.prog X.w) A (call (.builtin "isinstance") [u,c]) Q E s:=by
 cases F with
 | non=>cases (show u=Jf from j); exact PySem.W.kia_one PySem.W.kitx_none I.kIn Ks e (λz=>nomatch z) h
 | bl y=>cases (show u=Xx y from j); exact PySem.W.kia_one PySem.W.kitx_bool I.kIn Ks e (λz=>nomatch z) h
 | int i=>obtain ⟨t,q⟩:=(show ∃t,u=Nv i t from j); cases q; exact PySem.W.kia_one PySem.W.kitx_int I.kIn Ks e (λz=>nomatch z) h
 | str y=>obtain ⟨t,q⟩:=(show ∃t,u=Value.str y t from j); cases q; exact PySem.W.kia_one PySem.W.kitx_str I.kIn Ks e (λz=>nomatch z) h
 | flt y=>obtain ⟨t,q⟩:=(show ∃t,u=Value.float y t from j); cases q; exact PySem.W.kia_one PySem.W.kitx_float I.kIn Ks e (λz=>nomatch z) h
 | @lst a m g =>
  cases (show u=Bc a from j)
  obtain ⟨_,_,n,_,k⟩:=(show Hz X.prog X.w H s.heap a (.lst m) from I.hok a _ g)
  exact PySem.W.kia_one PySem.W.kitx_list I.kIn ⟨_,k,rfl⟩ e (λz=>nomatch z) h
 | @frz a N m g =>
  cases (show u=Bc a from j)
  obtain ⟨_,_,_,n,_,k⟩:=(show Hz X.prog X.w H s.heap a (.frz N (.lst m)) from I.hok a _ g)
  exact PySem.W.kia_one PySem.W.kitx_list I.kIn ⟨_,k,rfl⟩ e (λz=>nomatch z) h
 | @tup a m g =>
  cases (show u=Bc a from j)
  obtain ⟨_,_,_,p⟩:=(show Hz X.prog X.w H s.heap a (.tup m) from I.hok a _ g)
  obtain ⟨o,k,r,_⟩:=p
  exact PySem.W.kia_one PySem.W.kitx_tuple I.kIn ⟨o,k,r⟩ e (λz=>nomatch z) h
 | @dK a l g =>
  cases (show u=Bc a from j)
  obtain ⟨_,_,vs,_,p⟩:=(show Hz X.prog X.w H s.heap a (.dK l) from I.hok a _ g)
  obtain ⟨o,M,D,k,r,_⟩:=p
  exact PySem.W.kia_one PySem.W.kitx_dict I.kIn ⟨o,k,r.1⟩ e (λz=>nomatch z) h
 | @dT a l g =>
  cases (show u=Bc a from j)
  obtain ⟨_,_,m,_,o,M,D,k,r,_⟩:=(show Hz X.prog X.w H s.heap a (.dT l) from I.hok a _ g)
  exact PySem.W.kia_one PySem.W.kitx_dict I.kIn ⟨o,k,r.1⟩ e (λz=>nomatch z) h
 | @ins a C T fs g B L G v P =>
  cases (show u=Bc a from j)
  obtain ⟨S,O,_⟩:=O3 I.hok g
  obtain ⟨U,J,_⟩:=O.look
  exact PySem.W.kia_one (PySem.W.kitx_own (B.get _) B.hd L G v P) I.kIn J e (λz=>nomatch z) h
end
structure Room(k:Nat)(A:Cn):Prop where
 hd:A.handled=none
 dp:A.depth+3 * k+5<Oc
 un:A.units+16 * k+200<cLine
 gd:A.guards=some []
theorem Room.mono(r:Room k A)(h:j<=k):Room j A:=⟨r.hd,by have:=r.dp; omega,by have:=r.un; omega,r.gd⟩
theorem Room.deeper(r:Room (k+1) A)(env:Env):Room k (A.deeper env) :=
 ⟨r.hd,by have:=r.dp; show A.depth+1+3 * k+5<_; omega,by have:=r.un; show A.units+3+16 * k+200<_; omega,r.gd⟩
theorem Room.depth(r:Room k A):A.depth<Oc:=by have:=r.dp; omega
theorem Room.units(r:Room k A):A.units+64<cLine:=by have:=r.un; omega
def LV:TA:=λ_ H Q=>Q [] H
def HR(ta:TE)(tr:TA):TA:=λa H Q=>ta a H λx d=>tr a d λc b=>Q (x::c) b
section
variable{X:Cx}{e:Expr}{es:List Expr}{a:TE}{t:TA}{pos:Pos}
theorem Oz:PA X [] LV:=λ_ _ _ _ H Q I h=>Mq ⟨[],H,I,.nil,h⟩
theorem Gz(n:PE X e a)(r:PA X es t)(k:Bl (e::es) X.env=(false,eval e X.env)::Bl es X.env:=by rfl):PA X (e::es) (HR a t):=by
 intro pos b s d H Q I h
 rw[k]
 show wpAny _ _ (spliced ((false,eval e X.env)::Gr pos (Bl es X.env))) _ _ s
 refine Hq (Il (n b s d H _ I h) λu g c => ?_)
 obtain ⟨x,j,q,p,m⟩ := c
 exact Il (r pos b g d j _ q m) λw y ⟨v,f,i,l,o⟩=>⟨x::v,f,i,.cons p l,o⟩
def MS(t:TA):TE:=λc H Q=>t c H λa b=>a.length<=Az/\∀p,b p=none->Q (.ref p) (upd b p (.tup a))
def MJ(t:TA):TE:=λc H Q=>t c H λa b=>a.length<=Az/\∀p,b p=none->Q (.ref p) (upd b p (.lst a))
theorem BK(h:PA X es t):PE X (.Tuple es x1 pos) (MS t):=by
 intro a s i H Q I j
 refine wpAny_Tuple_spliced (Il (h pos a s i H _ I j) λg c ⟨l,d,f,r,z,q⟩=>⟨by rw[<- r.length]; exact z,?_⟩)
 have k:d c.heap.objs.size=none:=f.hok.fresh (Ar _)
 refine ⟨.ref c.heap.objs.size,upd d c.heap.objs.size (.tup l),f.laid (t':=c.toks) (λb u e=>Ai _ e) (Ar _) ?_,rfl,q _ k⟩
 exact ⟨z,g,r,⟨_,Be _ rfl,rfl,_,rfl⟩⟩
theorem jC(h:PA X es t):PE X (.List es pos) (MJ t):=by
 intro a s i H Q I j
 refine wpAny_List_spliced (Il (h pos a s i H _ I j) λg c ⟨l,d,f,r,z,q⟩=>⟨by rw[<- r.length]; exact z,?_⟩)
 have k:d c.heap.objs.size=none:=f.hok.fresh (Ar _)
 refine ⟨.ref c.heap.objs.size,upd d c.heap.objs.size (.lst l),f.laid (t':=c.toks) (λb u e=>Ai _ e) (Ar _) ?_,rfl,q _ k⟩
 exact ⟨z,g,0,r,Be _ rfl⟩
end
abbrev Sp:=List V->Hp->VK->XK->Prop
abbrev tN:=List Env->Hp->Am->XK->Value->Am->Prop
structure Env0(P:Bp)(w:World)(K:PySem.W.Frag)(mg:Str->Option Value)(base:Heap)(A:Cn)(outer:List Env)(s:Am)(H:Hp):Prop where
 frames:A.frames=some outer
 mod:Mod K mg base
 bs:∀b o,base.get? b=some o->s.heap.get? b=some o/\H b=none
 bsz:base.objs.size<=s.heap.objs.size
 funs:s.heap.FunFrames base outer
 frf:∀b∈vO outer,H b=none
 hok:Wq P w H s.heap
 bare:Uk s.gens
 tab:w8 K mg base H
def CE(outer:List Env)(P:Bp)(w:World)(H:Hp)(s:Am)(Q:VK)(u:Value)(s':Am):Prop :=
 ∃v a,s'.os=s.os/\Uk s'.gens/\Un (vO outer) [] H a s.heap s'.heap/\Wq P w a s'.heap/\RelV v u/\Q v a
def CR(CX:tN)(outer:List Env)(P:Bp)(w:World)(H:Hp)(s:Am)(Q:VK)(E:XK)(r:Result)(s':Am):Prop :=
 match r with
 | .ok (.ret u)=>CE outer P w H s Q u s'
 | .ok _=>False
 | .error e=>CX outer H s E e s'
structure FnOk(P:Bp)(w:World)(K:PySem.W.Frag)(mg:Str->Option Value)(base:Heap)(CX:tN)(k:Nat)(f:Addr)(fd:Cb)(ps:List Str)(sp:Sp):Prop where
 len:∀vs H Q E,sp vs H Q E->vs.length=ps.length
 run:∀(A:Cn) (outer:List Env) (s:Am) (H:Hp) (args:Args) (us:List Value) (vs:List V) (Q:VK) (E:XK),Room k A->Env0 P w K mg base A outer s H->BindsTo s fd args (ps.zip us)->Fs vs us->sp vs H Q E ->
  Qz (model P w) A (.call (.ref f) args) (CR CX outer P w H s Q E) s
theorem FnOk.imp{P:Bp}{w:World}{K:PySem.W.Frag}{mg:Str->Option Value}{base:Heap}{CX:tN}{k:Nat}{f:Addr}{d:Cb}{ps:List Str}{sp b:Sp}(F:FnOk P w K mg base CX k f d ps sp)(h:∀vs H Q E,b vs H Q E->sp vs H Q E):FnOk P w K mg base CX k f d ps b :=
 ⟨λvs H Q E q=>F.len vs H Q E (h _ _ _ _ q),λA a s H c g vs Q E m j i e l=>F.run A a s H c g vs Q E m j i e (h _ _ _ _ l)⟩
section
variable{X:Cx}{a:List (Addr×Obj)}{c:St}{H:Hp}{s s':Am}
theorem Inv.env0(I:Inv X a c H s):Env0 X.prog X.w X.K X.mg X.base X.A X.stack s H :=
 ⟨I.ok.frames,I.ok.mod,I.bs,Ce I.ok.bsz I.sz,I.stack,I.stkFree,I.hok,I.bare,I.ok.tab.un I.base⟩
theorem Inv.after(I:Inv X a c H s)(h:CE X.stack X.prog X.w H s Q u s'):EP X a c Q u s':=by
 obtain ⟨v,k,os,e,un,f,r,q⟩:=h
 obtain ⟨j,g,d,t,i⟩:=s'
 obtain rfl:i=s.os:=os
 exact ⟨v,k,I.call (h':=j) (g':=g) (d':=d) (t':=t) (ch:=[]) un f e (λb z=>absurd z (by simp)),r,q⟩
end
def JN(sp:Sp)(a:List V)(E:XK)(t:TA):TE:=λb H Q=>t b H λvs c=>sp (vs++a) c Q E
def Binds(K:PySem.W.Frag)(c:Cb)(ps:List Str)(b:List Value):Prop :=
 ∀(s:Am) (a:List Value),K.In s.heap->(a++b).length=ps.length->BindsTo s c ⟨a,[]⟩ (ps.zip (a++b))
theorem Binds.all{K:PySem.W.Frag}{b:Cb}{ps:List Str}(h:∀us:List Value,us.length=ps.length->bindArgs b ⟨us,[]⟩=pure (ps.zip us)):Binds K b ps []:=λs us _ a=>by
 rw[Dk] at a ⊢
 exact .of_eq (h us a)
def Ti(CX:tN)(X:Cx)(E:XK):Prop:=∀(a:List (Addr×Obj)) (c:St) (H:Hp) (s:Am) (e:Value) (b:Am),Inv X a c H s->CX X.stack H s E e b->X.xe e b
section
variable{X:Cx}{CX:tN}{k:Nat}{f C:Addr}{c:Cb}{ps:List Str}{sp:Sp}{a:List V}{b:List Value}{E:XK}{x m:Str}{p pos d:Pos}{e o:Expr}{es:List Expr}{ta:TE}{t:TA}
theorem CI{d:List (Addr×Obj)}{i:St}{H:Hp}{s:Am}{Q:VK}{us:List Value}{vs:List V}(F:FnOk X.prog X.w X.K X.mg X.base CX k f c ps sp)(o:Room k X.A)(hb:Binds X.K c ps b)(hd:Fs a b)(m:Ti CX X E)(I:Inv X d i H s)(r:Fs vs us)(h:sp (vs++a) H Q E):wpAny (model X.prog X.w) X.A (call (.ref f) us) (EP X d i Q) X.xe s:=by
 have j:Fs (vs++a) (us++b):=r.append hd
 have p:(us++b).length=ps.length:=by rw[<- j.length]; exact F.len _ _ _ _ h
 refine wpAny_call (gV (F.run X.A X.stack s H ⟨us,[]⟩ (us++b) (vs++a) Q E o I.env0 (hb s us I.kIn p) j h) λr l g=>?_)
 cases r with
 | error e=>exact m d i H s e l I g
 | ok n =>
  cases n with
  | ret u=>exact I.after g
  | next=>exact Kn g
  | brk=>exact Kn g
  | cont=>exact Kn g
theorem Wt(F:FnOk X.prog X.w X.K X.mg X.base CX k f c ps sp)(z:Room k X.A)(v:Gl X x)(y:X.mg x=some (.ref f))(l:PySem.W.keepIn X.K (.ref f)=true)(hb:Binds X.K c ps b)(hd:Fs a b)(n:Ti CX X E)(u:PA X (e::es) t)(i:(x == ("__debug__" : Str))=false:=by decide)(o:Bl (e::es) X.env=(false,eval e X.env)::Bl es X.env:=by rfl)(g:(Gr pos (Bl es X.env)).any (·.1)=false:=by rfl):PE X (.Call (.Name x p) (e::es) [] pos) (JN sp a E t):=by
 intro d s m H Q I h
 refine Ft (Q6 I v y ?_ i)
 refine PySem.W.callWith_K (h₀:=X.base) I.ok.mod.kin l (Il (u pos d s m H _ I h) λB C ⟨vs,D,j,r,q⟩=>⟨j.kIn,?_⟩) o g
 exact CI F z hb hd n j r q
end
structure FnScope(N P:List Str)(sc:Scope):Prop where
 kind:sc.kind=.function
 co:sc.isCoroutine=false
 gen:sc.isGenerator=false
 nd:N.Nodup
 pre:N.take P.length=P
 par:∀x∈P,sc.names.lookup x=some .local\/sc.names.lookup x=some .cell
 nofree:∀y∈sc.names,y.2≠.free
theorem fX{kindOf:Str->Option Qb}{x:Str}:∀{binds:List (Str×Value)} {m:Str->Option Value},(∀v,(x,v)∉binds)->bindL kindOf binds m x=m x
 | [],_,_=>rfl
 | (n,v)::r,m,h=>by
  unfold bindL
  rw[fX λw a=>h w (Ae _ a)]
  split
  ·have : x≠n:=by rintro rfl; exact h v Aa
   simp [this]
  ·rfl
theorem gE{kindOf:Str->Option Qb}{x:Str}:∀{binds:List (Str×Value)} {m:Str->Option Value},(∀v,(x,v)∉binds)->bindC kindOf binds m x=m x
 | [],_,_=>rfl
 | (n,v)::r,m,h=>by
  unfold bindC
  rw[gE λw a=>h w (Ae _ a)]
  split
  ·rfl
  ·have : x≠n:=by rintro rfl; exact h v Aa
   simp [this]
theorem fN{kindOf:Str->Option Qb}{x:Str}{v:Value}:∀{P:List Str} {vs:List Value} {i:Nat} {m:Str->Option Value},P.Nodup->P[i]? = some x->vs[i]? = some v->kindOf x=some .local->bindL kindOf (P.zip vs) m x=some v
 | [],_,_,_,_,h,_,_=>by simp at h
 | _::_,[],_,_,_,_,h,_=>by simp at h
 | p::P,w::vs,0,m,nd,h1,h2,hk=>by
  simp at h1 h2; subst h1; subst h2
  show bindL kindOf ((p,w)::P.zip vs) m p=_
  unfold bindL
  rw[fX λv a=>(Bw.mp nd).1 (List.of_mem_zip a).1,if_pos hk]
  simp
 | p::P,w::vs,i+1,m,nd,h1,h2,hk=>by
  show bindL kindOf ((p,w)::P.zip vs) m x=_
  unfold bindL
  exact fN (i:=i) (Bw.mp nd).2 (by simpa using h1) (by simpa using h2) hk
theorem gA{kindOf:Str->Option Qb}{x:Str}{v:Value}:∀{P:List Str} {vs:List Value} {i:Nat} {m:Str->Option Value},P.Nodup->P[i]? = some x->vs[i]? = some v->kindOf x≠some .local->bindC kindOf (P.zip vs) m x=some v
 | [],_,_,_,_,h,_,_=>by simp at h
 | _::_,[],_,_,_,_,h,_=>by simp at h
 | p::P,w::vs,0,m,nd,h1,h2,hk=>by
  simp at h1 h2; subst h1; subst h2
  show bindC kindOf ((p,w)::P.zip vs) m p=_
  unfold bindC
  rw[gE λv a=>(Bw.mp nd).1 (List.of_mem_zip a).1,if_neg hk]
  simp
 | p::P,w::vs,i+1,m,nd,h1,h2,hk=>by
  show bindC kindOf ((p,w)::P.zip vs) m x=_
  unfold bindC
  exact gA (i:=i) (Bw.mp nd).2 (by simpa using h1) (by simpa using h2) hk
def start(N:List Str)(vs:List V):St:=vs.map some++Ci (N.length - vs.length) none
def Sr(CX:tN)(P:Bp)(w:World)(K:PySem.W.Frag)(mg:Str->Option Value)(base:Heap)(N:List Str)(b:Str)(a:Scope)(f:Addr)(d:Value)(A:Cn)(outer:List Env)(s:Am)(H:Hp)(E:XK):Cx where
 prog:=P
 w:=w
 K:=K
 mg:=mg
 base:=base
 A:=A.deeper (Pk b a s.heap.objs.size f d)
 N:=N
 s₀:=s
 H₀:=H
 env:=Pk b a s.heap.objs.size f d
 outer:=outer
 stack:=Pk b a s.heap.objs.size f d::outer
 ex:=[]
 calm:=true
 fn:=λ_=>true
 pn:=[]
 xe:=λe g=>wpAny (model P w) (A.deeper (Pk b a s.heap.objs.size f d)) (leaving (Pk b a s.heap.objs.size f d) e) (λ_ c=>CX outer H s E e c) (λh c=>CX outer H s E h c) g
theorem lN{a:Scope}{n:Nat}{x:Str}(h:a.names.lookup x=some .cell):∃c,(Fm n a.names []).lookup x=some c:=by
 have q:=PySem.W.cellsFrom_some a.names n [] (.inl h)
 exact Qw.mp q
theorem wC{CX:tN}{P:Bp}{w:World}{K:PySem.W.Frag}{mg:Str->Option Value}{base:Heap}{N ps:List Str}{g:Str}{d:Scope}{f:Addr}{B:Value}{A:Cn}{outer:List Env}{s F:Am}{H:Hp}{E:XK}{us:List Value}{vs:List V}(S:FnScope N ps d)(hd:A.handled=none)(l:Env0 P w K mg base A outer s H)(hl:vs.length=ps.length)(r:Fs vs us)(x:InCallC s s.heap.objs.size (bindL (Pk g d s.heap.objs.size f B).kindOf (ps.zip us) λ_=>none) (Fm (s.heap.objs.size+1) d.names []) (bindC (Pk g d s.heap.objs.size f B).kindOf (ps.zip us) λ_=>none) F):Inv (Sr CX P w K mg base N g d f B A outer s H E) [] (start N vs) H F:=by
 have L:ps.length<=N.length:=by have:=congrArg Fi S.pre; rw[Fq] at this; omega
 obtain ⟨C,Q,rfl,G⟩:=x.done
 have m:∀b:Addr,b∉(Sr CX P w K mg base N g d f B A outer s H E).ex:=λb z=>absurd (show b∈([]:List Addr) from z) (by simp)
 refine ⟨⟨l.mod,S.kind,rfl,rfl,Ar _,λy z c C j=>?_,λy hy=>?_,λy c _ h=>?_,λ_=>hd,Around.frames_deeper l.frames,.inr ⟨rfl,rfl⟩,λb z=>absurd z (m b),l.bs,l.bsz,λb _ _=>m b,λb z=>absurd z (m b),l.funs,l.frf,l.tab⟩,
  rfl,l.bare,Un.kept G,⟨_,x.toInCall.ns,λi y v C j O=>?_⟩,λy c h=>⟨_,x.cell y c h⟩,l.hok.fresh (Ar _),λy c h=>?_,λp o=>absurd (show p∈([]:List (Addr×Obj)) from o) (by simp),l.hok.kept G,?_⟩
 ·exact name_of_addr x.apart (PySem.mem_of_lookup C) (PySem.mem_of_lookup j)
 ·have hy:d.names.lookup y=some .cell\/d.names.lookup y=some .free:=hy
  rcases hy with hy | hy
  ·exact lN hy
  ·exact absurd rfl (S.nofree _ (PySem.mem_of_lookup hy))
 ·exact La (x.above y c (PySem.mem_of_lookup h))
 ·have D:i<vs.length:=by
   unfold start at j
   by_cases D:i<vs.length
   ·exact D
   ·rw[Kt (by simpa using D)] at j
    rw[List.getElem?_replicate] at j
    split at j <;> cases j
  have J:vs[i]? = some v:=by
   unfold start at j
   rw[kX (by simpa using D),Aq] at j
   cases e:vs[i]? with
   | none=>rw[e] at j; cases j
   | some a=>rw[e] at j; cases j; rfl
  obtain ⟨u,I,M⟩:=r.get J
  have o:ps[i]? = some y:=by
   rw[<- S.pre,Ip (by omega)]; exact C
  have t:ps.Nodup:=by rw[<- S.pre]; exact S.nd.sublist (Mz _ _)
  refine ⟨u,M,?_⟩
  rcases S.par y (Au o) with k | k
  ·exact .inl ⟨k,fN t o I k⟩
  ·obtain ⟨c,e⟩:=lN (n:=s.heap.objs.size+1) k
   refine .inr ⟨.inl k,c,e,?_⟩
   have q:=x.cell y c e
   rw[gA t o I (by show d.names.lookup y≠_; rw[k]; decide)] at q
   exact q
 ·exact l.hok.fresh (La (x.above y c (PySem.mem_of_lookup h)))
 ·unfold start
  show _=N.length
  rw[Bz,Ac,List.length_replicate]
  omega
theorem Y0{CX:tN}{P:Bp}{w:World}{K:PySem.W.Frag}{mg:Str->Option Value}{base:Heap}{k:Nat}{f:Addr}{name c:Str}{g:Nu}{h:List Stmt}{a:Scope}{dV kV z T d ct oc:Value}{Y od:Option Addr}{G:Array (Option Value)}{N ps:List Str}{sp:Sp}(lk:K.lookup f=some ⟨oc,od,.func (PySem.W.fnOf name c g h a dV kV z T Y d ct),G⟩)(M:PySem.W.codeIn K d c=true)(S:FnScope N ps a)(len:∀vs H Q E,sp vs H Q E->vs.length=ps.length)(l:∀(A:Cn) (outer:List Env) (s:Am) (H:Hp) (vs:List V) (Q:VK) (E:XK),Room k (A.deeper (Pk c a s.heap.objs.size f d))->sp vs H Q E->∃t,rJ (Sr CX P w K mg base N c a f d A outer s H E) h t/\t { nx:=λ_ H'=>Q .non H',rt:=Q } (start N vs) H):FnOk P w K mg base CX (k+1) f (PySem.W.fnOf name c g h a dV kV z T Y d ct) ps sp:=by
 refine ⟨len,λA outer s H U us vs Q E L p hb r C=>?_⟩
 have hl:=len _ _ _ _ C
 have R:K.In s.heap:=p.mod.kin.keeps λb o e=>(p.bs b o e).1
 have D:s.heap.NoLimit:=p.mod.nolimit.keeps λb o e=>(p.bs b o e).1
 have j:∀y∈ps.zip us,a.names.lookup y.1=some .local\/(a.names.lookup y.1=some .cell/\((Fm (s.heap.objs.size+1) a.names []).lookup y.1).isSome=true):=λ⟨n,v⟩ hy=>by
  rcases S.par n (List.of_mem_zip hy).1 with q | q
  ·exact .inl q
  ·exact .inr ⟨q,PySem.W.cellsFrom_some _ _ _ (.inl q)⟩
 refine codeAny_call_function L.depth (R _ _ lk) rfl S.co S.gen rfl (PySem.W.codeRec_of R M) (hb _ _ _ _ ?_)
 refine wpAny_newFunctionEnv_cells S.kind j λZ he X x=>?_
 subst he
 refine ⟨D.keeps x.toInCall.keep,codeAny_func ?_⟩
 obtain ⟨t,ht,hq⟩:=l A outer s H vs Q E (L.deeper _) C
 have I:Inv (Sr CX P w K mg base N c a f d A outer s H E) [] (start N vs) H X:=wC S L.hd p hl r x
 refine Eo (ht [] X (start N vs) H _ I hq) (λfl F m=>?_) λe F m=>m
 have B:∀{i:St} {H':Hp} {v:V} {u:Value},Inv (Sr CX P w K mg base N c a f d A outer s H E) [] i H' F->RelV v u->Q v H'->CE outer P w H s Q u F :=
  λ{i H' v u} J O q=>⟨v,H',J.os,J.bare,J.base,J.hok,O,q⟩
 cases fl with
 | ret u =>
  obtain ⟨v,i,H',J,O,q⟩:=m
  exact B J O q
 | next =>
  obtain ⟨i,H',J,q⟩:=m
  exact B (v:=V.non) (u:=Jf) J rfl q
 | brk =>
  obtain ⟨_,_,_,q⟩:=m
  exact Kn q
 | cont =>
  obtain ⟨_,_,_,q⟩:=m
  exact Kn q
section
variable{X:Cx}{x:Str}{p pos:Pos}{e:Expr}{es:List Expr}{t:TA}{id T:String}{r:List V->Hp->VK->Prop}
def GN(r:List V->Hp->VK->Prop)(t:TA):TE:=λa H Q=>t a H λvs b=>r vs b Q
theorem yV(o:Pe X (.builtin id) r)(w:Gl X x)(v:X.mg x=none)(f:Ke x=some (.builtin id))(n:PA X (e::es) t)(l:x ≠ "__name__" := by decide)(c:(x == ("__debug__" : Str))=false:=by decide)(k:Bl (e::es) X.env=(false,eval e X.env)::Bl es X.env:=by rfl)(b:(Gr pos (Bl es X.env)).any (·.1)=false:=by rfl):PE X (.Call (.Name x p) (e::es) [] pos) (GN r t):=by
 intro a s d H Q I h
 refine Ft (Ld I w v f ?_ l c)
 exact Wh (Il (n pos a s d H _ I h) λg i ⟨vs,j,u,q,m⟩=>o a i d j vs g Q u q m) k b
theorem fQ(o:Pe X (.type T) r)(w:Gl X x)(v:X.mg x=none)(f:Ke x=some (.type T))(n:PA X (e::es) t)(l:x ≠ "__name__" := by decide)(c:(x == ("__debug__" : Str))=false:=by decide)(k:Bl (e::es) X.env=(false,eval e X.env)::Bl es X.env:=by rfl)(b:(Gr pos (Bl es X.env)).any (·.1)=false:=by rfl):PE X (.Call (.Name x p) (e::es) [] pos) (GN r t):=by
 intro a s d H Q I h
 refine Ft (Ld I w v f ?_ l c)
 exact Fk (Il (n pos a s d H _ I h) λg i ⟨vs,j,u,q,m⟩=>o a i d j vs g Q u q m) k b
end
end L2
namespace HT
open PySem PyProof.Rows
def lexLt:List Int->List Int->Bool
 | [],[]=>false
 | [],_::_=>true
 | _::_,[]=>false
 | x::xs,y::ys=>if x=y then lexLt xs ys else decide (x<y)
theorem lexLt_cons(x y:Int)(xs ys:List Int):lexLt (x::xs) (y::ys)=if x=y then lexLt xs ys else decide (x<y):=rfl
theorem lexLt_nil_nil:lexLt [] []=false:=rfl
theorem lexLt_nil_cons(y:Int)(ys:List Int):lexLt [] (y::ys)=true:=rfl
theorem lexLt_cons_nil(x:Int)(xs:List Int):lexLt (x::xs) []=false:=rfl
theorem oP(A:Cn)(s:Am)(a:Int)(t:Tok)(c:Int)(u:Tok):∃e,Nw A s (.int a t) (.int c u) e/\(e=true↔a=c) :=
 ⟨(a == c),SeqAt.EqAt.int_int a t c u,by simp⟩
theorem E8(A:Cn)(s:Am)(a:Int)(t:Tok)(c:Int)(u:Tok)(prog:Bp)(w:World)(E:Value->Am->Prop)(Q:Value->Am->Prop)(h:Q (.bool (decide (a<c))) s):wpAny (model prog w) A (richCompare .Lt (.int a t) (.int c u)) Q E s :=
 (PyProof.Rows.lt_int h:wpAny (model prog w) A (Hh .Lt (.int a t) (.int c u)) Q E s)
section
open PySem.SeqAt
open PySem.AutoSeq1 (wpAny_loadPart')
open PySem.MeetsSeq PySem.MeetsSeq2 PySem.MeetsSeq3
theorem tuple_lt_ints(l b:Addr)(i f:Array Value)(n U:Nat)(X J:Option Addr)(Y N:Array (Option Value))(ns G:List Int)(P:El i.toList ns)(Q:El f.toList G):Meets (Builtin.«tuple.__lt__» ⟨[.ref l,.ref b],[]⟩) (λ_ R s=>s.heap.get? l=some { cls:=.type "tuple",dict:=X,data:=.seq i n,slots:=Y }/\s.heap.get? b=some { cls:=.type "tuple",dict:=J,data:=.seq f U,slots:=N }/\R (.ok (.ret (.bool (lexLt ns G)))) s) :=
 .of_wp λr w A R s h=>by
  obtain ⟨F,g,d,I,os⟩:=s; obtain ⟨T,S,h⟩:=h
  have Z:=fM
  have z1:i.size=ns.length:=by rw[<- P.length]; simp
  have z2:f.size=G.length:=by rw[<- Q.length]; simp
  wp_walk using Km T,Km S,wpAny_forIn_list _ (λMs b K=>b.1=none/\K=⟨F,g,d,I,os⟩/\∃(vs H:List Value) (m k:List Int),Ms=vs.zip H /\
   El vs m/\El H k/\m.length+f.size=k.length+i.size/\R (.ok (.ret (.bool (lexLt m k)))) ⟨F,g,d,I,os⟩) _
  case turn =>
   (rintro ⟨y,x⟩ Ms b K M; obtain ⟨C,rfl,vs,H,m,k,p,B,o,j,z⟩ := M)
   cases B with
   | nil=>rw[List.zip_nil_left] at p; cases p
   | cons a t E =>
    cases o with
    | nil=>rw[List.zip_nil_right] at p; cases p
    | cons c u D =>
     rw[Ht] at p
     injection p with hyx hrest
     injection hyx with hy hx
     subst hy hx
     rw[lexLt_cons] at z
     simp only[Bu] at j
     obtain ⟨e,V,v⟩:=oP A.in1 ⟨F,g,d,I,os⟩ a t c u
     refine Ab (V r w _ _ ?_)
     cases e with
     | true =>
      rw[if_pos (v.mp rfl)] at z
      wp_walk
      exact ⟨rfl,rfl,_,_,_,_,hrest,E,D,by omega,z⟩
     | false =>
      rw[if_neg (λq=>absurd (v.mpr q) Cr)] at z
      have L:=E8 A.in1 ⟨F,g,d,I,os⟩ a t c u r w
      wp_walk using L
      exact ⟨_,rfl,by simpa using z⟩
  case fin =>
   (rintro ⟨b1,b2⟩ K M; obtain ⟨C,rfl,vs,H,m,k,p,B,o,j,z⟩ := M)
   simp only at C
   subst C
   have O:lexLt m k=decide (i.size<f.size):=by
    cases B with
    | nil =>
     cases o with
     | nil =>
      simp only[Jp] at j
      rw[lexLt_nil_nil]
      exact (decide_eq_false (by omega)).symm
     | cons c u W =>
      simp only[Jp,Bu] at j
      rw[lexLt_nil_cons]
      exact (decide_eq_true (by omega)).symm
    | cons a t O =>
     cases o with
     | nil =>
      simp only[Jp,Bu] at j
      rw[lexLt_cons_nil]
      exact (decide_eq_false (by omega)).symm
     | cons c u W =>
      rw[Ht] at p
      cases p
   rw[O] at z
   wp_walk
   exact ⟨_,rfl,by simpa [Vk] using z⟩
  case h =>
   exact ⟨rfl,rfl,i.toList,f.toList,ns,G,rfl,P,Q,by omega,h⟩
end
section
variable{prog:Bp}{w:World}{A:Cn}{E:Value->Am->Prop}{s:Am}
theorem lt_tupInts(hl:IsTup s.heap l c)(hb:IsTup s.heap b a)(u:El c.toList ns)(v:El a.toList d)(r:A.units<cLine)(h:Q (.bool (lexLt ns d)) s):wpAny (model prog w) A (Hh .Lt (.ref l) (.ref b)) Q E s:=by
 obtain ⟨⟨y,z,k,B⟩,q,p,n,o⟩:=id hl
 obtain ⟨⟨m,i,data2,j⟩,f,g,t,e⟩:=id hb
 simp only at p o g e
 subst p o g e
 exact N5 (op:=.Lt) ⟨_,q,rfl⟩ ⟨_,f,rfl⟩ PySem.F.slot_tuple_lt PySem.F.entry_tuple_lt (PySem.F.args_tuple_lt_2 _ _) (tuple_lt_ints l b c a n t z i B j ns d u v)
  ⟨q,f,show Xx (lexLt ns d)≠Value.notImplemented/\Q (.bool (lexLt ns d)) s from ⟨(λx=>nomatch x),h⟩⟩ r
theorem cat_tup(u:IsTup s.heap t vs.toArray)(hb:IsTup s.heap b ws.toArray)(j:vs≠[])(h1:ws=[]->Q (.ref t) s)(r:ws≠[]->Q (.ref s.heap.objs.size) { s with heap:=s.heap.push { cls:=.type "tuple",data:=.seq (vs++ws).toArray } })(hsz:vs.length+ws.length<=Az):wpAny (model prog w) A (Iw .Add (.ref t) (.ref b)) Q E s:=by
 obtain ⟨⟨cls,o,data,p⟩,i,m,n,k⟩:=id u
 obtain ⟨⟨q,c,data2,g⟩,a,f,l,d⟩:=id hb
 simp only at m k f d
 subst m k f d
 have e:vs.toArray++ws.toArray=(vs++ws).toArray:=by simp
 by_cases h:ws=[]
 ·exact concat_meets ⟨_,i,rfl⟩ ⟨_,a,rfl⟩ kW seq_tuple_add PySem.F.slot_tuple_add PySem.F.entry_tuple_add (PySem.F.args_tuple_add_2 _ _)
   (tuple_addW1 t b vs.toArray ws.toArray n l o c p g (by simpa using j) (by simp [h])) ⟨i,a,h1 h⟩
 ·refine concat_meets ⟨_,i,rfl⟩ ⟨_,a,rfl⟩ kW seq_tuple_add PySem.F.slot_tuple_add PySem.F.entry_tuple_add (PySem.F.args_tuple_add_2 _ _)
   (tuple_addW2 t b vs.toArray ws.toArray n l o c p g (by simpa using j) (by simpa using h) (by rw[Av,Av]; exact hsz)) ⟨i,a,?_⟩
  rw[e]
  exact r h
def sIx(n d:Nat):Option Int->Nat
 | none=>d
 | some v=>if v<0 then (v+(n:Int)).toNat else min v.toNat n
theorem sIx_none(n d:Nat):sIx n d none=d:=rfl
theorem sIx_nat(n d k:Nat):sIx n d (some (k:Int))=min k n:=by
 show (if (k:Int)<0 then ((k:Int)+(n:Int)).toNat else min (k:Int).toNat n)=min k n
 rw[if_neg (by omega),Cs]
theorem CN(n d:Nat)(hd:d<=n)(o:Option Int):sIx n d o<=n:=by
 cases o with
 | none=>exact hd
 | some v =>
  show (if v<0 then (v+(n:Int)).toNat else min v.toNat n)<=n
  by_cases a:v<0
  ·rw[if_pos a]; omega
  ·rw[if_neg a]; exact Nat.min_le_right _ _
theorem tP(v:Int)(n d:Nat):(if v<0 then max (v+(n:Int)) 0 else min v (n:Int))=((sIx n d (some v):Nat):Int):=by
 show (if v<0 then max (v+(n:Int)) 0 else min v (n:Int))=(((if v<0 then (v+(n:Int)).toNat else min v.toNat n):Nat):Int)
 by_cases a:v<0
 ·simp only[if_pos a]; omega
 ·simp only[if_neg a]; omega
theorem qC(lo a:Option Int)(n:Nat):Oe lo a 1 (n:Int)=(((sIx n 0 lo:Nat):Int),((sIx n n a:Nat):Int)):=by
 have b:¬ ((1:Int)<0):=by omega
 unfold Oe
 simp only[b,if_false]
 refine Prod.ext ?_ ?_
 ·cases lo with
  | none=>rfl
  | some v=>exact tP v n 0
 ·cases a with
  | none=>rfl
  | some v=>exact tP v n n
theorem pL(i j:Nat):Js (i:Int) (j:Int) 1=j - i:=by
 unfold Js
 have a:(1:Int) > 0:=by omega
 simp only[a,if_true,Int.ediv_one]
 split <;> omega
theorem bP(p:Zq v o)(h:Q o s):wpAny (model prog w) A (Builtin.Slice.slicePartIndex v) Q E s:=by
 cases p with
 | none=>exact slicePart_none h
 | int i t=>exact slicePart_int h
theorem sliceApplied_gen{f:Addr}{e d:Value}{lo c:Option Int}{n:Nat}{Q:Int×Int×Nat->Am->Prop}(g:s.heap.IsSliceOf f e d .none)(j:Zq e lo)(i:Zq d c)(h:Q (((sIx n 0 lo:Nat):Int),1,sIx n n c - sIx n 0 lo) s):wpAny (model prog w) A (Yc (.ref f) (pure (n:Int))) Q E s:=by
 obtain ⟨os,a,k,b⟩:=id g
 unfold Yc Builtin.Slice.sliceFields
 refine Ab (Ab (Lq a b (x:=e) rfl (Ab (Lq a b (x:=d) rfl (Ab (Lq a b (x:=.none) rfl (An ?_)))))))
 refine Ab (slicePart_none ?_)
 show wpAny _ _ (if ((1:Int) == 0)=true then _ else _) _ _ s
 rw[if_neg (by decide)]
 refine Ab (bP j (Ab (bP i (Ab (An ?_)))))
 show wpAny _ _ (match Oe lo c 1 (n:Int) with | (lo,c)=>pure (lo,(1:Int),Js lo c 1)) _ _ s
 rw[qC lo c n]
 show wpAny _ _ (pure (((sIx n 0 lo:Nat):Int),(1:Int),Js ((sIx n 0 lo:Nat):Int) ((sIx n n c:Nat):Int) 1)) _ _ s
 rw[pL]
 exact An h
theorem zB(xs:Array Value)(i k:Nat):((Bq k).filterMap λ(m:Nat)=>xs[((i:Int)+(m:Int) * 1).toNat]?).toArray=((xs.toList.drop i).take k).toArray:=by
 have e:(λ(m:Nat)=>xs[((i:Int)+(m:Int) * 1).toNat]?)=λm=>xs[i+m]?:=by
  funext m
  have : ((i:Int)+(m:Int) * 1).toNat=i+m:=by omega
  rw[this]
 rw[e]
 have:=pick_run xs i k
 rw[List.filterMap_map] at this
 have a:((λx=>xs[x]?) ∘ λx=>i+x)=λm=>xs[i+m]?:=rfl
 rw[a] at this
 rw[this]
theorem getItem_tuple_cut{t i:Addr}{a:Array Value}{n k:Value}{lo c:Option Int}{Q:Value->Am->Prop}(d:IsTup s.heap t a)(l:s.heap.IsSliceOf i n k .none)(p:Zq n lo)(o:Zq k c)(hw:¬ (sIx a.size 0 lo=0/\sIx a.size a.size c=a.size))(h:Q (.ref s.heap.objs.size) { s with heap:=s.heap.push { cls:=.type "tuple",data:=.seq ((a.toList.drop (sIx a.size 0 lo)).take (sIx a.size a.size c - sIx a.size 0 lo)).toArray } })(hsz:a.size<=Az):wpAny (model prog w) A (Ug (.ref t) (.ref i)) Q E s:=by
 have b:sizeOk (.seq ((a.toList.drop (sIx a.size 0 lo)).take (sIx a.size a.size c - sIx a.size 0 lo)).toArray):=by
  show ((a.toList.drop (sIx a.size 0 lo)).take (sIx a.size a.size c - sIx a.size 0 lo)).toArray.size<=Az
  rw[Av,Fq,dX,Ff]
  omega
 have u:sIx a.size a.size c<=a.size:=CN _ _ (Ar _) c
 obtain ⟨os,f,j,r⟩:=id l
 have e:s.TypeIs (.ref i) "slice" := ⟨os,f,j⟩
 unfold Ug
 try with_reducible refine Cc ?_
 first | refine Ab (An ?_) | skip
 refine Ab (gT d.typeIs (by decide) ?_)
 refine Ab (Fu (name:=Do "__getitem__") d.typeIs Er
  (Gq Er d.typeIs entry_tuple_getitem ?_ (args_tuple_getitem _ _)))
 show wpAny _ _ (Xz (.ref t) >>= _) _ _ s
 refine Ab (tupleItemsOf_ d ?_)
 refine Ab (Ls e ?_)
 rw[if_pos (by decide)]
 refine Ab (sliceApplied_gen l p o ?_)
 have g:¬ ((((sIx a.size 0 lo:Nat):Int) == 0 && (1:Int) == 1 && (sIx a.size a.size c - sIx a.size 0 lo) == a.size)=true):=by
  intro q
  rw[Cd,Cd] at q
  have v:((sIx a.size 0 lo:Nat):Int)=0:=Vp q.1.1
  have x:sIx a.size a.size c - sIx a.size 0 lo=a.size:=Vp q.2
  exact hw ⟨by omega,by omega⟩
 show wpAny _ _ (if (((sIx a.size 0 lo:Nat):Int) == 0 && (1:Int) == 1 && (sIx a.size a.size c - sIx a.size 0 lo) == a.size)=true then _ else _) _ _ s
 rw[if_neg g,zB]
 first
  | exact Ab (m:=Kh _) (Ek (An ⟨_,rfl,An h⟩) b)
  | exact Ab (m:=Kh _) (Ek (Ab (An (An ⟨_,rfl,An h⟩))) b)
  | exact Ab (Ab (m:=Kh _) (Ek (An (An ⟨_,rfl,An h⟩)) b))
  | exact Ab (Ab (m:=Kh _) (Ek (An ⟨_,rfl,An h⟩) b))
end
end HT
namespace L2
open PySem PySem.Spec PyProof.Rows
abbrev TO:=St->Hp->(Option Int->Hp->Prop)->Prop
def PO(X:Cx)(e:Option Expr)(t:TO):Prop :=
 ∀(a:List (Addr×Obj)) (s:Am) (b:St) (H:Hp) (Q:Option Int->Hp->Prop),Inv X a b H s->t b H Q ->
  wpAny (model X.prog X.w) X.A (evalPart e X.env) (λu d=>∃o c,Inv X a b c d/\Zq u o/\Q o c) X.xe s
def Q0:TO:=λ_ H Q=>Q none H
def HG(t:TE):TO:=λa H Q=>t a H λx b=>∃i,x=.int i/\Q (some i) b
theorem intsAre_of:∀{us:List Value},Fs (ns.map V.int) us->El us ns:=by
 induction ns with
 | nil=>intro us r; rw[Jj] at r; cases r; exact .nil
 | cons n ns b =>
  intro us r
  rw[Ax] at r
  cases r with
  | cons c a =>
   obtain ⟨t,e⟩:=c
   subst e
   exact .cons n t (b a)
section
variable{X:Cx}{e:Expr}{d:TE}{lo c:Option Expr}{tl f:TO}{pos g:Pos}
theorem T1:PO X none Q0:=by
 intro a s b H Q I h
 rw[dU]
 exact An ⟨none,H,I,.none,h⟩
theorem W4(h:PE X e d):PO X (some e) (HG d):=by
 intro a s f H Q I l
 rw[evalPart_some]
 refine Il (h a s f H _ I l) λu m b => ?_
 obtain ⟨x,c,j,k,g⟩ := b
 obtain ⟨i,rfl,q⟩:=g
 obtain ⟨t,rfl⟩:=k
 exact ⟨some i,c,j,.int i t,q⟩
def EC(X:Cx)(r:V->Option Int->Option Int->Hp->VK->Prop):Prop :=
 ∀(a:List (Addr×Obj)) (s:Am) (d:St) (H:Hp) (x:V) (v e b:Value) (lo c:Option Int) (f:Addr) (Q:VK),Inv X a d H s->RelV x v->s.heap.IsSliceOf f e b .none->Zq e lo->Zq b c->r x lo c H Q ->
  ∃T id,typeLookup (.type T) "__getitem__" = pure (some (.builtin id))/\s.TypeIs v T/\wpAny (model X.prog X.w) X.A (Ug v (.ref f)) (EP X a d Q) X.xe s
theorem EC.or(h:EC X r)(h':EC X j):EC X (λx lo c H Q=>r x lo c H Q\/j x lo c H Q):=by
 intro a s d H x v i b lo c l Q I e f k g q
 rcases q with q | q
 ·exact h a s d H x v i b lo c l Q I e f k g q
 ·exact h' a s d H x v i b lo c l Q I e f k g q
def NV(r:V->Option Int->Option Int->Hp->VK->Prop)(d:TE)(tl f:TO):TE:=λa H Q=>d a H λx b=>tl a b λl c=>f a c λu e=>r x l u e Q
theorem oF(E:EC X r)(G:PE X e d)(hl:PO X lo tl)(y:PO X c f):PE X (.Subscript e (.Slice lo c none g) pos) (NV r d tl f):=by
 intro a s k H Q I h
 refine Sk (Il (G a s k H _ I h) λv P j => ?_)
 obtain ⟨x,p,S,K,D⟩ := j
 refine wpAny_Slice (Il (hl a P k p _ S D) λn C ⟨l,O,R,U,N⟩=>Il (y a C k O _ R N) λm i j => ?_)
 obtain ⟨u,o,J,z,t⟩ := j
 rw[dU]
 refine An ?_
 have B:Inv X a k o { i with heap:=i.heap.push { cls:=.type "slice",data:=.fields #[n,m,.none] } }:=J.kept (t':=i.toks) λb W q=>Ai _ q
 obtain ⟨T,id,L,M,F⟩:=E a { i with heap:=i.heap.push { cls:=.type "slice",data:=.fields #[n,m,.none] } } k o x v n m l u i.heap.objs.size Q B K (Sv ..) U z t
 show wpAny (model X.prog X.w) X.A (Ux e (.Slice lo c none g) v (.ref i.heap.objs.size)) (EP X a k Q) X.xe { i with heap:=i.heap.push { cls:=.type "slice",data:=.fields #[n,m,.none] } }
 exact tail_any (ops:=[.ref i.heap.objs.size,v]) M L F (by with_unfolding_all rfl)
def bG(xs:List V)(lo c:Option Int):List V:=(xs.drop (HT.sIx xs.length 0 lo)).take (HT.sIx xs.length xs.length c - HT.sIx xs.length 0 lo)
theorem Zh(xs:List V)(lo c:Option Int):(bG xs lo c).length<=xs.length:=by
 unfold bG
 rw[Fq,dX]
 omega
def ML(K:PySem.W.Frag):V->Option Int->Option Int->Hp->VK->Prop:=λx lo c H Q=>∃a b,x=.ref a/\Ve K H a b /\
 ¬ (HT.sIx b.length 0 lo=0/\HT.sIx b.length b.length c=b.length)/\∀p,H p=none->Q (.ref p) (upd H p (.tup (bG b lo c)))
theorem EY:EC X (ML X.K):=by
 intro j s y H x v z u lo c A Q I k n p m h
 obtain ⟨a,e,rfl,l,t,q⟩:=h
 cases k
 obtain ⟨f,r,i,g⟩:=I.tuple l
 have d:f.toArray.size=e.length:=by rw[Av]; exact r.length.symm
 refine ⟨"tuple",_,Er.lookup,i.typeIs,?_⟩
 refine HT.getItem_tuple_cut i n p m (by rw[d]; exact t) ?_ (by rw[d]; exact g)
 rw[d]
 refine ⟨.ref s.heap.objs.size,_,I.laid (t':=s.toks) (o:=.tup (bG e lo c)) (λb w q=>Ai _ q) (Ar _) ?_,rfl,q _ (I.hok.fresh (Ar _))⟩
 exact ⟨Ce (Zh e lo c) g,_,(r.drop (HT.sIx e.length 0 lo)).take (HT.sIx e.length e.length c - HT.sIx e.length 0 lo),IsTup.new _ _⟩
def HE(K:PySem.W.Frag):R2:=λx y H Q=>∃a b d c,x=.ref a/\y=.ref b/\Ve K H a d/\Ve K H b c/\d≠[]/\d.length+c.length<=Az /\
 (c=[]->Q (.ref a) H)/\(c≠[]->∀p,H p=none->Q (.ref p) (upd H p (.tup (d++c))))
theorem Fs.nil_iff(r:Fs xs us):us=[]↔xs=[]:=by
 cases r with
 | nil=>simp
 | cons _ _=>simp
theorem U3:Wk X (Iw .Add) (HE X.K):=by
 intro i s E H x y v u Q I k r h
 obtain ⟨a,b,C,p,rfl,rfl,n,j,l,e,m,A⟩:=h
 cases k
 cases r
 obtain ⟨B,d,t,_⟩:=I.tuple n
 obtain ⟨f,c,g,_⟩:=I.tuple j
 refine HT.cat_tup t g (λz=>l (d.nil_iff.mp z)) (λz=>⟨.ref a,H,I,rfl,m (c.nil_iff.mp z)⟩) (λz=>?_) (by rw[<- d.length,<- c.length]; exact e)
 refine ⟨.ref s.heap.objs.size,_,I.laid (t':=s.toks) (o:=.tup (C++p)) (λb D q=>Ai _ q) (Ar _) ?_,rfl,A (λw=>z (c.nil_iff.mpr w)) _ (I.hok.fresh (Ar _))⟩
 exact ⟨by rw[Bz]; exact e,_,d.append c,IsTup.new _ _⟩
end
def yF(n:Nat)(i:Int):Option Nat:=if 0<=i then (if i<n then some i.toNat else none) else if -(n:Int)<=i then some (i+n).toNat else none
def Ss{a:Type}(xs:List a)(i:Int):Option a:=(yF xs.length i).bind λj=>xs[j]?
theorem vA(h:yF n i=some j):seqIndex? i n=some j/\j<n /\ -(n:Int)<=i/\i<n:=by
 unfold yF at h
 by_cases b:0<=i
 ·rw[if_pos b] at h
  by_cases a:i<n
  ·rw[if_pos a] at h
   have e:i.toNat=j:=Bo h
   exact ⟨by rw[seqIndex_of b a,e],by omega,by omega,a⟩
  ·rw[if_neg a] at h; cases h
 ·rw[if_neg b] at h
  by_cases a:-(n:Int)<=i
  ·rw[if_pos a] at h
   have e:(i+n).toNat=j:=Bo h
   exact ⟨by rw[seqIndex_neg (by omega) a,e],by omega,a,by omega⟩
  ·rw[if_neg a] at h; cases h
theorem jD{a:Type}{xs:List a}{i:Int}{v:a}(h:Ss xs i=some v):∃j,seqIndex? i xs.length=some j/\xs[j]? = some v/\j<xs.length /\ -(xs.length:Int)<=i/\i<xs.length:=by
 unfold Ss at h
 cases e:yF xs.length i with
 | none=>rw[e] at h; cases h
 | some j =>
  rw[e] at h
  obtain ⟨b,c,f,d⟩:=vA e
  exact ⟨j,b,h,c,f,d⟩
theorem Oh{a:Type}{xs:List a}{j:Nat}{v:a}(h:xs[j]? = some v):Ss xs (j:Int)=some v:=by
 have b:j<xs.length:=(Af.mp h).1
 have e:yF xs.length (j:Int)=some j:=by
  unfold yF
  rw[if_pos (by omega),if_pos (by omega)]; simp
 unfold Ss; rw[e]; exact h
def iT(b:Expr):Prop:=∀o i,subscripted b false o i=operate [o,i] (Ug o i)
def S6(X:Cx)(r:R2):Prop :=
 ∀(c a:Expr) (b:List (Addr×Obj)) (s:Am) (d:St) (H:Hp) (x y:V) (v u:Value) (Q:VK),Inv X b d H s->RelV x v->RelV y u->r x y H Q ->
  subscripted a false v u=operate [v,u] (Ug v u)->wpAny (model X.prog X.w) X.A (Ux c a v u) (EP X b d Q) X.xe s
def NB(X:Cx)(id:String)(r:V->List V->Hp->VK->Prop):Prop :=
 ∀(a:List (Addr×Obj)) (s:Am) (d:St) (H:Hp) (x:V) (c:List V) (v:Value) (b:List Value) (Q:VK),Inv X a d H s->RelV x v->Fs c b->r x c H Q ->
  wpAny (model X.prog X.w) X.A (call (.builtin id) (v::b)) (EP X a d Q) X.xe s
section
variable{X:Cx}{a b:Expr}{ta m:TE}{pos:Pos}
theorem S6.or(h:S6 X r)(h':S6 X g):S6 X (λx y H Q=>r x y H Q\/g x y H Q):=by
 intro b a c s d H x y v u Q I e i q f
 rcases q with q | q
 ·exact h b a c s d H x y v u Q I e i q f
 ·exact h' b a c s d H x y v u Q I e i q f
theorem Sg(n:S6 X r)(k:PE X a ta)(hb:PE X b m)(i:iT b):PE X (.Subscript a b pos) (JQ r ta m):=by
 intro c s f H Q I h
 exact Sk (FU k hb I h λv u j x y d e g l q=>n a b c j f d x y v u Q e g l q (i _ _))
def xS(K:PySem.W.Frag):R2:=λx y H Q=>∃p a i v,x=.ref p/\y=.int i/\Kv K H p a/\Ss a i=some v/\Q v H
def BS(K:PySem.W.Frag):R2:=λx y H Q=>∃p a i v,x=.ref p/\y=.int i/\Ve K H p a/\Ss a i=some v/\Q v H
def HF:R2:=λx y H Q=>∃z i c,x=.str z/\y=.int i/\z.length<=Az/\Ss z.cps.toList i=some c/\Q (.str ⟨#[c]⟩) H
theorem Ng:S6 X (xS X.K):=by
 intro f k a s m H x y v u Q I L F h A
 obtain ⟨p,R,i,z,rfl,rfl,E,J,q⟩:=h
 cases L
 obtain ⟨t,rfl⟩:=F
 obtain ⟨d,r,l,P⟩:=I.list E
 obtain ⟨j,c,C,O,M,B⟩:=jD J
 obtain ⟨w,o,e⟩:=r.get C
 have G:=r.length
 have N:=Tb
 have b:EP X a m Q w s:=⟨z,H,I,e,q⟩
 by_cases n:0<=i
 ·have g:i.toNat=j:=by
   rw[seqIndex_of n B] at c
   exact Bo c
  exact item_listR l.isList n (by omega) (by rw[g]; simpa using o) b A
 ·have g:(i+(d.toArray.size:Int)).toNat=j:=by
   rw[seqIndex_neg (by omega) M] at c
   rw[Av,<- G]
   exact Bo c
  exact N4 (x:=w) l.isList.typeIs Uc.lookup
   (wpAny_getItem_list_neg (Q:=λr D=>r=w/\EP X a m Q r D) l.isList (by omega) (by rw[Av] <;> omega) (by omega) (by rw[g]; simpa using o) ⟨rfl,b⟩) A
theorem EA:S6 X (BS X.K):=by
 intro d e a s f H x y v u Q I D o h E
 obtain ⟨p,O,i,z,rfl,rfl,n,C,q⟩:=h
 cases D
 obtain ⟨t,rfl⟩:=o
 obtain ⟨l,r,g,N⟩:=I.tuple n
 obtain ⟨j,F,k,M,L,G⟩:=jD C
 obtain ⟨w,B,b⟩:=r.get k
 have A:=r.length
 have J:=Tb
 have c:EP X a f Q w s:=⟨z,H,I,b,q⟩
 exact N4 (x:=w) g.typeIs slot_tuple_getitem.lookup
  (getItem_tuple (j:=j) (Q:=λr m=>r=w/\EP X a f Q r m) g (by omega) (by omega) (by rw[Av,<- A]; exact F) (by simpa using B) ⟨rfl,c⟩) E
theorem EW:S6 X HF:=by
 intro a b e s A H x y v u Q I o l h w
 obtain ⟨z,i,c,rfl,rfl,E,n,q⟩:=h
 obtain ⟨t,rfl⟩:=o
 obtain ⟨B,rfl⟩:=l
 obtain ⟨j,d,g,D,r,f⟩:=jD n
 have m:z.cps.toList.length=z.length:=by simp [Str.length]
 rw[m] at d r f
 have C:=Tb
 exact tail_any (typeIs_str s z t) slot_str_getitem.lookup (getItem_str (c:=c) (by
  have p:decide (i < -(2 ^ 63:Int))=false:=decide_eq_false (by omega)
  have k:decide (i ≥ 2 ^ 63)=false:=decide_eq_false (by omega)
  rw[p,k,Bool.or_false]) (by rw[d]; simpa using g) ⟨.str ⟨#[c]⟩,H,I.tok _,⟨_,rfl⟩,q⟩) w
def NJ(K:PySem.W.Frag):R2:=λx y H Q=>xS K x y H Q\/BS K x y H Q\/HF x y H Q
theorem FJ:S6 X (NJ X.K):=Ng.or (EA.or EW)
theorem rP(its:List Value)(n j:Nat)(u:Value):Cg (·.setIfInBounds j u) { cls:=.type "list",data:=.seq its.toArray n }={ cls:=.type "list",data:=.seq (its.set j u).toArray n }:=by
 simp [Cg]
theorem Inv.lst{a:List (Addr×Obj)}{b:St}{H:Hp}{s:Am}{p:Addr}{xs:List V}(I:Inv X a b H s)(h:H p=some (.lst xs)):∃(its:List Value) (n:Nat),Fs xs its/\s.heap.get? p=some { cls:=.type "list",data:=.seq its.toArray n }/\xs.length<=Az:=by
 obtain ⟨z,its,n,r,e⟩:=I.hok p _ h
 exact ⟨its,n,r,e,z⟩
theorem Inv.lstUpd{a:List (Addr×Obj)}{c:St}{H:Hp}{s:Am}{p:Addr}{xs ys:List V}{its its':List Value}{n n':Nat}{f:Obj->Obj}(I:Inv X a c H s)(h:H p=some (.lst xs))(i:s.heap.get? p=some { cls:=.type "list",data:=.seq its.toArray n })(d:f { cls:=.type "list",data:=.seq its.toArray n }={ cls:=.type "list",data:=.seq its'.toArray n' })(r:Fs ys its')(hz:ys.length<=Az)(t:Nat):Inv X a c (upd H p (.lst ys)) { s with heap:=s.heap.update p f,toks:=t }:=by
 have e:(s.heap.update p f).get? p=some { cls:=.type "list",data:=.seq its'.toArray n' }:=by
  rw[Gf f i (by rw[d] <;> rfl),d]
 refine I.write (x:=p) (e:=p) (by rw[h]; trivial) (.inl rfl) (λb u g q=>(Fw _ _ (Li g)).trans q) ⟨_,e⟩ ?_
 exact ⟨hz,its',n',r,e⟩
def IE:V->V->V->Hp->(Hp->Prop)->Prop:=λo i v H Q=>∃p a k j,o=.ref p/\i=.int k/\H p=some (.lst a)/\yF a.length k=some j/\Q (upd H p (.lst (a.set j v)))
theorem bK:HH X IE:=by
 intro b s y H o i v K J u Q I A z D h
 obtain ⟨p,E,k,j,rfl,rfl,g,B,q⟩:=h
 cases A
 obtain ⟨t,rfl⟩:=z
 obtain ⟨a,n,r,f,C⟩:=I.lst g
 obtain ⟨c,F,x,w⟩:=vA B
 have e:=r.length
 have G:=Tb
 have l:Inv X b y (upd H p (.lst (E.set j v))) { s with heap:=s.heap.update p (Cg (·.setIfInBounds j u)) } :=
  I.lstUpd g f (rP a n j u) (r.set D j) (by rw[List.length_set]; exact C) s.toks
 by_cases m:0<=k
 ·have d:k.toNat=j:=by
   rw[seqIndex_of m w] at c
   exact Bo c
  exact PySem.W.ki_setAt f m (by omega) (by rw[Av,<- e]; exact w) (by rw[d]; exact ⟨_,l,q⟩)
 ·have d:(k+(a.toArray.size:Int)).toNat=j:=by
   rw[seqIndex_neg (by omega) x] at c
   rw[Av,<- e]
   exact Bo c
  exact PySem.W.ki_setBack f (by omega) (by rw[Av,<- e]; exact x) (by omega) (by rw[d]; exact ⟨_,l,q⟩)
theorem hV(lo a:Option Int)(n:Nat):(Ka lo a none n).1=((HT.sIx n 0 lo:Nat):Int)/\(Ka lo a none n).2.1=((HT.sIx n n a:Nat):Int)/\(Ka lo a none n).2.2=1:=by
 refine ⟨?_,?_,rfl⟩
 ·cases lo with
  | none=>simp [Ka,HT.sIx]
  | some i =>
   simp only[Ka,HT.sIx,Option.getD_none,show (1:Int) > 0 by decide,if_true]
   by_cases h:i<0
   ·simp only[h,if_true] <;> omega
   ·simp only[h,if_false] <;> omega
 ·cases a with
  | none=>simp [Ka,HT.sIx]
  | some i =>
   simp only[Ka,HT.sIx,Option.getD_none,show (1:Int) > 0 by decide,if_true]
   by_cases h:i<0
   ·simp only[h,if_true] <;> omega
   ·simp only[h,if_false] <;> omega
theorem eO(its:List Value)(lo a:Option Int):slicePick its.toArray lo a none=((its.drop (HT.sIx its.length 0 lo)).take (HT.sIx its.length its.length a - HT.sIx its.length 0 lo)).toArray:=by
 obtain ⟨c,d,b⟩:=hV lo a its.toArray.size
 unfold slicePick
 rw[c,d,b]
 simp only[sliceRange_one,pick_run,Av] <;> rfl
def EN(K:PySem.W.Frag):V->Option Int->Option Int->Hp->VK->Prop:=λx lo c H Q=>∃a b,x=.ref a/\Kv K H a b/\∀p,H p=none->Q (.ref p) (upd H p (.lst (bG b lo c)))
theorem S8:EC X (EN X.K):=by
 intro f s w H x v y t lo e z Q I i l n k h
 obtain ⟨a,c,rfl,j,q⟩:=h
 cases i
 obtain ⟨p,r,g,m⟩:=I.list j
 have d:=r.length
 refine ⟨"list",_,Uc.lookup,g.isList.typeIs,?_⟩
 refine Uw g.isList l n k .none (by simp) ?_ (by rw[Av] <;> omega)
 rw[eO,<- d]
 refine ⟨.ref s.heap.objs.size,_,I.laid (t':=s.toks) (o:=.lst (bG c lo e)) (λb u q=>Ai _ q) (Ar _) ?_,rfl,q _ (I.hok.fresh (Ar _))⟩
 exact ⟨Ce (Zh c lo e) m,_,0,(r.drop (HT.sIx c.length 0 lo)).take (HT.sIx c.length c.length e - HT.sIx c.length 0 lo),Be _ rfl⟩
def NG(K:PySem.W.Frag)(T:String)(x:V)(H:Hp):Prop:=match x with
 | .str _=>T = "str"
 | .int _=>T = "int"
 | .ref p=>(T = "list" /\ ∃b,Kv K H p b)\/(T = "tuple" /\ ∃o,K.lookup p=some o/\o.cls=.type "tuple" /\ o.dict=none) \/
   (T = "dict" /\ ((∃a,H p=some (.dK a))\/∃a,H p=some (.dT a)))\/(T = "set" /\ ∃S n,H p=some (.set S n))
 | _=>False
theorem FE{f:List (Addr×Obj)}{q:St}{H:Hp}{s:Am}{T:String}{x:V}{v:Value}(I:Inv X f q H s)(r:RelV x v)(g:NG X.K T x H):s.TypeIs v T/\∀a,v=.ref a->∃l,s.heap.get? a=some l/\l.dict=none:=by
 cases x with
 | str z =>
  obtain ⟨t,rfl⟩:=r
  cases (show T = "str" from g)
  exact ⟨typeIs_str s z t,λ_ e=>nomatch e⟩
 | int i =>
  obtain ⟨t,rfl⟩:=r
  cases (show T = "int" from g)
  exact ⟨typeIs_int s i t,λ_ e=>nomatch e⟩
 | ref p =>
  cases r
  rcases g with ⟨rfl,A,u⟩ | ⟨rfl,o,b,w,h⟩ | ⟨rfl,b⟩ | ⟨rfl,S,n,b⟩
  ·obtain ⟨y,_,m,_⟩:=I.list u
   refine ⟨m.isList.typeIs,λa e=>?_⟩
   cases e
   obtain ⟨o,n,e,c,h,_⟩:=m
   exact ⟨o,e,h⟩
  ·refine ⟨⟨o,I.kIn p o b,w⟩,λa e=>?_⟩
   cases e
   exact ⟨o,I.kIn _ o b,h⟩
  ·have z:∃o,s.heap.get? p=some o/\o.ExactDict:=by
    rcases b with ⟨k,b⟩ | ⟨k,b⟩
    ·obtain ⟨_,_,_,_,o,_,_,e,d,_⟩:=I.hok p _ b
     exact ⟨o,e,d⟩
    ·obtain ⟨_,_,_,_,o,_,_,e,d,_⟩:=I.hok p _ b
     exact ⟨o,e,d⟩
   obtain ⟨o,e,d⟩:=z
   refine ⟨⟨o,e,d.1⟩,λa j=>?_⟩
   cases j
   exact ⟨o,e,d.2.1⟩
  ·obtain ⟨o,_,_,_,e,d,_⟩:=I.hok p _ b
   refine ⟨⟨o,e,d.1⟩,λa j=>?_⟩
   cases j
   exact ⟨o,e,d.2.1⟩
 | _=>exact Kn g
def NM(K:PySem.W.Frag)(T:String)(r:V->List V->Hp->VK->Prop)(l:TE)(t:TA):TE:=λb H Q=>l b H λx a=>NG K T x a/\t b a λd c=>r x d c Q
variable{o e:Expr}{es:List Expr}{l:TE}{t:TA}{name:Str}{g d:Pos}{T id:String}{r:V->List V->Hp->VK->Prop}
theorem sP(P:PlainAttrs T)(slot:Slot T name id)(k:typeOf (.builtin id)=pure (.type "method_descriptor"))(D:NB X id r)(O:PE X o l)(B:PA X (e::es) t)
  (c:Po o name X.env (eval o X.env)=eval o X.env:=by rfl)
  (i:((Gr d (Bl (e::es) X.env)).all (λx=>!x.1) && (backToKw d (Ue [] X.env)).all (λx=>x.1.isSome)
   && decide ((e::es).length+([]:List Pq).length+(if ([]:List Pq).isEmpty then 0 else 1)<30))=true:=by rfl)
  (f:(g.endLine == d.line)=true:=by rfl) (M:Bl (e::es) X.env=(false,eval e X.env)::Bl es X.env:=by rfl) (b:(Gr d (Bl es X.env)).any (·.1)=false:=by rfl) :
  PE X (.Call (.Attribute o name g) (e::es) [] d) (NM X.K T r l t):=by
 intro a s j H Q I h
 refine wpAny_Call_method_late c i f rfl (Il (O a s j H _ I h) λv J m => ?_)
 obtain ⟨x,u,q,p,w,A⟩ := m
 obtain ⟨N,y⟩:=FE q p w
 refine ⟨T,id,P,slot,k,N,y,?_⟩
 have n:=B d a J j u _ q A
 rw[M] at n ⊢
 refine oY (by show (false || (Gr d (Bl es X.env)).any (·.1))=false; rw[b] <;> rfl) (Calls.evalArgs_plain ?_)
 exact Il n λG z ⟨vs,F,L,C,E⟩=>D a z j F x vs v G Q L p C E
end
def OA(X:Cx)(id:String)(r:V->List V->Hp->VK->Prop):Prop :=
 ∀(a:List (Addr×Obj)) (s:Am) (d:St) (H:Hp) (x:V) (c:List V) (v:Value) (b:List Value) (Q:VK),Inv X a d H s->RelV x v->Fs c b->r x c H Q ->
  wpAny (model X.prog X.w) X.A (call (.builtin id) (v::b)) (EP X a d Q) X.xe s
theorem Fs.one:∀{x:V} {us:List Value},Fs [x] us->∃u,us=[u]/\RelV x u
 | _,_,.cons r .nil=>⟨_,rfl,r⟩
theorem Fs.reverse(h:Fs xs us):Fs xs.reverse us.reverse:=by
 induction h with
 | nil=>exact .nil
 | cons r t a=>rw[Ig,Ig]; exact Fs.append a (.cons r .nil)
theorem Fs.rep(h:Fs xs us):∀k:Nat,Fs (Ci k xs).flatten (Ci k us).flatten
 | 0=>.nil
 | k+1=>by
  rw[Ga,Ga,Ih,Ih]
  exact Fs.append h (Fs.rep h k)
theorem foldl_rep(its:List Value):∀(k:Nat) (a:List Value),List.foldl (λc d=>c++d) a.toArray (Ci k its.toArray)=(a++(Ci k its).flatten).toArray
 | 0,a=>by simp
 | k+1,a=>by
  have e:a.toArray++its.toArray=(a++its).toArray:=by simp
  have b:(a++its)++(Ci k its).flatten=a++(Ci (k+1) its).flatten:=by
   rw[Ga,Ih,Df]
  rw[<- b,<- foldl_rep its k (a++its),<- e,Ga,List.foldl_cons]
section
variable{X:Cx}{a:List (Addr×Obj)}{c:St}{H:Hp}{s:Am}{l b:Addr}{xs ys d:List V}
theorem Inv.lset{its its':List Value}{n:Nat}{f:Array Value->Array Value}{t':Nat}(I:Inv X a c H s)(i:H l=some (.lst xs))(e:s.heap.get? l=some { cls:=.type "list",data:=.seq its.toArray n })(h:f its.toArray=its'.toArray)(b:Fs ys its')(hz:ys.length<=Az):Inv X a c (upd H l (.lst ys)) { s with heap:=s.heap.update l (Cg f),toks:=t' }:=by
 have q:=PySem.IsL.update e f
 rw[h] at q
 refine I.write (x:=l) (e:=l) (by rw[i]; exact trivial) (.inl rfl) (λj u d g=>(Fw s.heap (Cg f) (Li d)).trans g) ⟨_,q⟩ ?_
 exact ⟨hz,its',_,b,q⟩
theorem Inv.lnew(I:Inv X a c H s)(b:Fs ys its)(hz:ys.length<=Az):Inv X a c (upd H s.heap.objs.size (.lst ys)) { s with heap:=s.heap.push { cls:=.type "list",data:=.seq its.toArray },toks:=t' } :=
 I.laid (λ_ _ q=>Ai _ q) (Ar _) ⟨hz,its,0,b,Be _ rfl⟩
theorem Inv.fresh(I:Inv X a c H s):H s.heap.objs.size=none:=I.hok.fresh (Ar _)
theorem Inv.lstM(I:Inv X a c H s)(b:H l=some (.lst xs)):xs.length<=Az/\∃(its:List Value) (n:Nat),Fs xs its/\xs.length=its.length/\s.heap.get? l=some { cls:=.type "list",data:=.seq its.toArray n }:=by
 obtain ⟨z,its,n,r,e⟩:=I.hok l _ b
 exact ⟨z,its,n,r,r.length,e⟩
theorem zN(h:n<=Az):Ph n=false:=by
 unfold Ph
 exact decide_eq_false (by omega)
end
section
variable{X:Cx}
def T5:V->List V->Hp->VK->Prop:=λx vs H Q=>∃l a y,x=.ref l/\vs=[y]/\H l=some (.lst a)/\a.length<Az/\Q .non (upd H l (.lst (a++[y])))
theorem Us:OA X "list.append" T5:=by
 intro b s j H x vs v i Q I d g h
 obtain ⟨l,o,y,rfl,rfl,c,k,q⟩:=h
 cases d
 obtain ⟨u,rfl,f⟩:=g.one
 obtain ⟨z,a,n,r,m,e⟩:=I.lstM c
 refine eI F.slot_list_append ⟨_,e,rfl⟩ F.entry_list_append (F.args_list_append_2 _ _) (PySem.list_append l a.toArray n u (by rw[Av]; omega)) ⟨e,?_⟩
 refine ⟨.non,_,I.lset (its':=a++[u]) c e (by simp) (r.append (.cons f .nil)) ?_,rfl,q⟩
 rw[Bz,Kb]
 omega
def CF:R2:=λx y H Q=>∃l b c a,x=.ref l/\y=.ref b/\H l=some (.lst c)/\H b=some (.lst a)/\c.length+a.length<=Az/\∀p,H p=none->Q (.ref p) (upd H p (.lst (c++a)))
theorem J6:Wk X (Iw .Add) CF:=by
 intro d s w H x y v u Q I f k h
 obtain ⟨l,b,E,C,rfl,rfl,p,j,A,q⟩:=h
 cases f
 cases k
 obtain ⟨z,c,n,r,B,e⟩:=I.lstM p
 obtain ⟨D,a,t,i,m,g⟩:=I.lstM j
 refine PySem.P.add_list e g ?_ (by rw[Av,Av]; omega)
 have o:c.toArray++a.toArray=(c++a).toArray:=by simp
 rw[o]
 exact ⟨.ref _,_,I.lnew (t':=s.toks) (r.append i) (by rw[Bz]; omega),rfl,q _ I.fresh⟩
def JJ:R2:=λx y H Q=>∃l k a,x=.ref l/\y=.int k/\H l=some (.lst a) /\ -(2 ^ 63)<=k/\k<2 ^ 63/\a.length * k.toNat<=Az /\
 ∀p,H p=none->Q (.ref p) (upd H p (.lst (Ci k.toNat a).flatten))
theorem uI{a:Type}(xs:List a)(k:Nat):(Ci k xs).flatten.length=k * xs.length:=by
 induction k with
 | zero=>simp
 | succ k b=>rw[Ga,Ih,Bz,b,Nat.succ_mul,Nat.add_comm]
theorem FH:Wk X (Iw .Mult) JJ:=by
 intro w s L H x y v u Q I E C h
 obtain ⟨l,k,N,rfl,rfl,G,K,A,p,q⟩:=h
 cases E
 obtain ⟨t,rfl⟩:=C
 obtain ⟨z,b,n,r,D,e⟩:=I.lstM G
 have i:b.toArray.size * k.toNat<=Az:=by rw[Av,<- D]; exact p
 have g:¬ b.toArray.size * k.toNat > (2 ^ 63 - 1) / 8:=by
  have : (Az:Nat)<=(2 ^ 63 - 1) / 8:=by decide
  omega
 have f:¬ (!Builtin.List.listFitsIndex k)=true:=by
  rw[fitsIndex_both K A]
  exact Cr
 have c:¬ Ph (b.toArray.size * k.toNat)=true:=by
  rw[zN i]
  exact Cr
 have d:List.foldl (λj o=>j++o) #[] (Ci (if b.toArray.isEmpty=true then 0 else k.toNat) b.toArray)=(Ci k.toNat b).flatten.toArray:=by
  have J:∀m:Nat,List.foldl (λj o=>j++o) #[] (Ci m b.toArray)=(Ci m b).flatten.toArray:=λm=>by
   have:=foldl_rep b m []
   rw[Va] at this
   exact this
  rw[J]
  cases b with
  | nil=>simp
  | cons a M=>rw[if_neg (by simp)]
 refine wpAny_binaryOp_repeat_ref (T := "list") (U := "int") (by decide) ⟨_,e,rfl⟩ (λB=>typeIs_int B k t) noFill_list_mul F.fills_int_mul F.slot_int_rmul repeat_list F.slot_int_index.lookup
  (eI F.slot_int_rmul (typeIs_int s k t) F.entry_int_rmul (F.args_int_rmul_2 _ _) (int___rmul___int_list k t l b.toArray n)
   ⟨e,rfl,⟨_,e,rfl⟩,eI F.slot_list_mul ⟨_,e,rfl⟩ F.entry_list_mul (F.args_list_mul_2 _ _) (AutoListH.list___mul___list_int_3 l b.toArray n k t f g c) ⟨e,?_⟩⟩)
 rw[d]
 exact ⟨.ref _,_,I.lnew (t':=s.toks) (r.rep k.toNat) (by rw[uI,Nat.mul_comm]; exact p),rfl,q _ I.fresh⟩
end
end L2
namespace Att
open PySem PySem.W PySem.Calls PyProof.Rows
theorem Zu:∀(ns:List Int) (vs:List Value),WellAll P h vs (ns.map WData.int)->El vs ns:=by
 intro ns
 induction ns with
 | nil =>
  intro vs w
  rw[Jj] at w
  cases w
  exact .nil
 | cons n ns c =>
  intro vs w
  rw[Ax] at w
  cases w with
  | cons a b =>
   cases a
   exact .cons _ _ (c _ b)
theorem wB{l:OpenLaw}{n:Nat}(o:l.most=some n){P:Params}{h:Heap}{args:List WData}{b:List Value}(c:l.row.toRowW.claim.pre args=true)(j:WellAll P h b args):∃a vs ns,b=[Bc a]/\args=[WData.list (ns.map WData.int)]/\h.get? a=some { cls:=.type "list",data:=.seq vs.toArray }/\El vs ns/\ns.length<=n:=by
 have k:WShape.hasAll [] args [.list .int]=true:=(pre_splitW c).1
 have m:l.pre.holds [] { args:=args }=true:=(pre_splitW c).2
 obtain ⟨d,r,rfl,t,u⟩:=hasAllW_cons k
 obtain rfl:=hasAllW_nil u
 obtain ⟨y,rfl,w⟩:=hasW_list t
 obtain ⟨ns,rfl⟩:=items_int w
 have f:ns.length<=n:=by
  unfold OpenLaw.pre at m
  have i:(WTm.not (.lt (.lit (.int (n:Int))) (.len (.arg 0)))).holds [] { args:=[.list (ns.map .int)] }=true:=by
   have i:=(holds_andW m).1
   rw[o] at i
   exact i
  have g:=condW_of i (w_not (w_lt w_lit (w_len_list (w_arg rfl))))
  rw[Ac] at g
  refine Nat.le_of_not_lt λq=>?_
  have s:(n:Int)<((ns.length:Nat):Int):=by omega
  first
   | (rw[decide_eq_true s] at g; exact absurd g (by decide))
   | (simp at g; omega)
 cases j with
 | cons x p =>
  cases p
  cases x with
  | list v e=>exact ⟨_,_,ns,rfl,rfl,v,Zu ns _ e,f⟩
theorem wU(l:OpenLaw)(args:List WData):l.row.toRowW.claim.post args (.bool true) args=true :=
 postW_of (r:=l.row.toRowW) (X:=(true == true))
  (show WShape.has [] (.bool true) .bool=true by first | rfl | decide | simp [WShape.has,WShape.arms,WShape.armsAll])
  (show (WTm.eq .res (.lit (.bool true))).value [] { args:=args,res:=some (.bool true),after:=args }=some (.bool (true == true)) from w_eq_bool (w_res rfl) w_lit) rfl
theorem attach_call{l:OpenLaw}{n:Nat}{q:Bp}{loose:List Str}{XP:(Str->Option Value)->Heap->Prop}{YP:World->Heap->Prop}{d:DefRec}(D:l.most=some n)(t:d.params.defaults=[])(call:∀(w:World) (s₀ b:Am) (mg s:Str->Option Value) (i:Addr) (o:Obj) (p k e:Value) (a:Addr) (vs:List Value) (ns:List Int),Ground q loose [] XP w s₀ mg s b.heap->YP w b.heap->b.heap.get? i=some o->o.data=.func (docDef d.name d.params d.body d.scope p k e)->b.heap.CodeRec k d.name->mg d.name=some (.ref i)->b.heap.get? a=some { cls:=.type "list",data:=.seq vs.toArray }->El vs ns->ns.length<=n->b.gens=#[]->Qz (model l.prog w) aA (.call (.ref i) ⟨[.ref a],[]⟩) (λr s'=>r=.ok (.ret (.bool true))/\OldK b.heap s'.heap/\s'.os=b.os/\Uk s'.gens) b):WalkO q loose XP YP l.row.toRowW d [] (λf vs=>PySem.call f vs):=by
 intro w s₀ b mg s G Y i o p k e dV kV L H v z u E x A N g y M m F
 obtain rfl:dV=.none:=Dflts.none z t
 obtain rfl:kV=.none:=Dflts.noKw z
 obtain ⟨a,vs,ns,rfl,rfl,j,c,h⟩:=wB D g m
 refine enter_call (gV (call w s₀ b mg s i o p k e a vs ns G Y L (fd_plain H) v u j c h E) λr s' C=>?_)
 obtain ⟨rfl,B,K,J⟩:=C
 exact ⟨.inl ⟨.bool true,.bool true,[],rfl,λ_=>rfl,.bool true,wU l _,λ_=>⟨Lc,λ_ I=>(nomatch I)⟩⟩,B,K,J⟩
end Att
namespace L2
open PySem PySem.Spec PyProof.Rows
theorem gN:∀{vs:List Value} {ns:List Int},El vs ns->Fs (ns.map V.int) vs
 | _,_,.nil=>.nil
 | _,_,.cons n t h=>.cons ⟨t,rfl⟩ (gN h)
def Pw(s:Stmt):Nu:=match s with
 | .FunctionDef _ a _ _ _ _ _ _ _ _=>a
 | _=>{ posonlyargs:=[],args:=[],vararg:=none,kwonlyargs:=[],kw_defaults:=[],kwarg:=none,defaults:=[] }
def Ja(s:Stmt):List Stmt:=match s with
 | .FunctionDef _ _ b _ _ _ _ _ _ _=>b
 | _=>[]
def Bv(s:Stmt):Scope:=match s with
 | .FunctionDef _ _ _ _ _ _ a _ _ _=>a
 | _=>{ kind:=.function,names:=[],isGenerator:=false,isCoroutine:=false }
abbrev Gv:tN:=λ_ _ _ _ _ _=>False
abbrev E0:XK:=λ_ _ _=>False
theorem Dv:Ti Gv X E0:=λ_ _ _ _ _ _ _ h=>h.elim
structure Fun(K:PySem.W.Frag)(x qual:Str)(st:Stmt)(f:Addr)(fd:Cb):Prop where
 ex:∃(oc:Value) (od:Option Addr) (kV doc pm:Value) (an:Option Addr) (cdv ct:Value) (osl:Array (Option Value)),
  fd=PySem.W.fnOf x qual (Pw st) (Ja st) (Bv st) .none kV doc pm an cdv ct/\K.lookup f=some ⟨oc,od,.func fd,osl⟩/\PySem.W.codeIn K cdv qual=true
 kp:PySem.W.keepIn K (.ref f)=true
section
variable{P:Bp}{w:World}{K:PySem.W.Frag}{mg:Str->Option Value}{base:Heap}
theorem Fun.ok{x a:Str}{st:Stmt}{f:Addr}{g:Cb}{N ps:List Str}{k:Nat}{sp:Sp}(F:Fun K x a st f g)(S:FnScope N ps (Bv st))(len:∀vs H Q E,sp vs H Q E->vs.length=ps.length)(c:∀(b:Value) (A:Cn) (outer:List Env) (s:Am) (H:Hp) (vs:List V) (Q:VK) (E:XK),Room k (A.deeper (Pk a (Bv st) s.heap.objs.size f b))->sp vs H Q E->∃t,rJ (Sr Gv P w K mg base N a (Bv st) f b A outer s H E).nox (Ja st) t/\t { nx:=λ_ H'=>Q .non H',rt:=Q } (start N vs) H):FnOk P w K mg base Gv (k+1) f g ps sp:=by
 obtain ⟨p,n,kV,j,r,u,b,o,i,rfl,l,e⟩:=F.ex
 refine Y0 l e S len λA outer s H vs Q E m d=>?_
 obtain ⟨t,h,q⟩:=c b A outer s H vs Q E m d
 exact ⟨t,h.nox,q⟩
theorem Fun.binds{x a:Str}{st:Stmt}{f:Addr}{g:Cb}{ps:List Str}(F:Fun K x a st f g)(h:∀(kV c d:Value) (e:Option Addr) (b ct:Value) (us:List Value),us.length=ps.length->bindArgs (PySem.W.fnOf x a (Pw st) (Ja st) (Bv st) .none kV c d e b ct) ⟨us,[]⟩=pure (ps.zip us)):Binds K g ps []:=by
 obtain ⟨l,k,kV,c,d,e,b,ct,i,rfl,m,j⟩:=F.ex
 exact .all (h kV c d e b ct)
theorem A8{x a:Str}{st:Stmt}{f:Addr}{j:Value}{i h:Option Addr}{e:Array (Option Value)}{kV d g b ct:Value}(l:K.lookup f=some ⟨j,i,.func (PySem.W.fnOf x a (Pw st) (Ja st) (Bv st) .none kV d g h b ct),e⟩)(c:PySem.W.codeIn K b a=true)(k:PySem.W.keepIn K (.ref f)=true):Fun K x a st f (PySem.W.fnOf x a (Pw st) (Ja st) (Bv st) .none kV d g h b ct):=⟨⟨j,i,kV,d,g,h,b,ct,e,rfl,l,c⟩,k⟩
end
theorem xU(h:n<=1000):n<Az:=Jn h (by decide)
section
variable{X:Cx}
theorem pv(i:Nat){x:Str}{pos:Pos}(c:X.N[i]? = some x:=by rfl)(b:KR X.env.scope x:=by first | exact Cy rfl | exact Ie (Cy rfl) | exact Ie (Ie rfl))(hd:(x == ("__debug__" : Str))=false:=by decide)(a:(x == ("__classdict__" : Str))=false:=by decide):PE X (.Name x pos) (Tn i):=EH c b hd a
end
theorem qF{A B:Prop}(h:B):if false=true then A else B:=by
 rw[if_neg Cr]
 exact h
theorem qE{A B:Prop}(h:A):if true=true then A else B:=by
 rw[if_pos rfl]
 exact h
theorem ID{c A B:Prop}[Decidable c](h1:c->A)(a:¬ c->B):if c then A else B:=by
 by_cases h:c
 ·rw[if_pos h]
  exact h1 h
 ·rw[if_neg h]
  exact a h
def Tf(H H':Hp):Prop:=∀b o,H b=some o->H' b=some o
theorem Tf.refl(H:Hp):Tf H H:=λ_ _ h=>h
end L2
namespace Nd
open PySem PySem.Spec PyProof.Rows L2
def Ed(X:Cx)(a:Scope)(b:List (Str×Addr))(N:List Str)(fp:List Addr)(s:Am)(H:Hp):Cx where
 prog:=X.prog
 w:=X.w
 K:=X.K
 mg:=X.mg
 base:=X.base
 A:=X.A
 N:=N
 s₀:=s
 H₀:=H
 env:=compEnvC a (Fm (s.heap.objs.size+1) a.names b) s.heap.objs.size X.env
 outer:=X.stack
 stack:=X.stack
 ex:=fp
 fn:=λy=>decide (a.names.lookup y=some Ef)
 calm:=X.calm
 pn:=[]
 xe:=λ_ _=>False
section
variable{prog:Bp}{w:World}{A:Cn}{R:Result->Am->Prop}{s:Am}
theorem pD(J:Nat->Am->Prop) (turn:∀n s,J n s->wpAny (model prog w) A (Nh it) (λr j=>match r with
    | none=>R (.ok .next) j
    | some v=>wpAny (model prog w) A (Xr g it v) (λ_ k=>wpAny (model prog w) A (Sj g env v) (λ_ o =>
      wpAny (model prog w) A (forIn e true λc r=>if r=true then (do
        let ok <- isTrue c env (eval c env)
        pure (Hv ok)) else pure (Hv r)) (λok i =>
       if ok=true then
        wpAny (model prog w) A (eval f env) (λx l=>wpAny (model prog w) A (call (.builtin "list.append") [d,x]) (λ_ q=>∃m,m<n/\J m q) (λ_ _=>False) l) (λ_ _=>False) i
       else ∃m,m<n/\J m i) (λ_ _=>False) o) (λ_ _=>False) k) (λ_ _=>False) j) (λ_ _=>False) s)
  (n:Nat) (h:J n s):Qz (model prog w) A (.compLoop (.ListComp f [⟨g,b,e,0⟩] a pos) 0 it d env) R s:=by
 refine codeAny_loop rfl J (λn s y=>?_) n h
 show wpAny _ A (Sem.onRaise (compTurn (.ListComp f [⟨g,b,e,0⟩] a pos) 0 it d env) (λx=>do noteFrame x env; theTreesLotGoes x)) _ _ s
 refine wpAny_noted ?_
 rw[compTurn_list]
 refine Ab (Uv (Ab (Eo (turn n s y) (λr j t=>?_) λ_ _ z=>z.elim)))
 cases r with
 | none=>exact An t
 | some v =>
  refine Ab (Eo t (λ_ k B=>?_) λ_ _ z=>z.elim)
  refine Ab (Eo B (λ_ o D=>?_) λ_ _ z=>z.elim)
  refine Ab (Eo D (λok i p=>?_) λ_ _ z=>z.elim)
  cases ok with
  | false=>exact An ⟨rfl,p⟩
  | true =>
   refine Ab (Ab (Eo p (λx l u=>?_) λ_ _ z=>z.elim))
   exact Ab (Eo u (λ_ q C=>An (An ⟨rfl,C⟩)) λ_ _ z=>z.elim)
end
section
variable{X:Cx}{a:List (Addr×Obj)}{b:L2.St}{H:Hp}{s:Am}{scope:Scope}{cl:List (Str×Addr)}{fp:List Addr}{N:List Str}
def iS(scope:Scope)(x:Str):Prop:=scope.names.lookup x=some .local\/scope.names.lookup x=some .cell
structure CompScope(X:Cx)(scope:Scope)(cl:List (Str×Addr))(x:Str)(ys:List Str)(js:List Nat):Prop where
 clos:Ni scope X.env=pure cl
 oc:(∀y∈scope.names,y.2≠.cell)\/∃z:Str,(∀n,Fm n scope.names []=[(z,n)])/\scope.names.lookup z=some .cell/\∀y∈scope.names,y.2=.cell->y.1=z
 kind:scope.kind=.function
 locs:∀y∈scope.names,y.2=.local->scope.names.lookup y.1=some .local
 own:iS scope x
 sub:∀y c,cl.lookup y=some c->X.env.cells.lookup y=some c
 has_:(scope.names.all λy=>!(y.2 == Em) || (cl.lookup y.1).isSome)=true
 nd:(x::ys).Nodup
 len:ys.length=js.length
 at_:∀(k:Nat) (y:Str) (j:Nat),ys[k]? = some y->js[k]? = some j->X.N[j]? = some y/\scope.names.lookup y=some .free/\(X.env.kindOf y=some .cell\/X.env.kindOf y=some .free)
theorem CompScope.has{x:Str}{ys:List Str}{b:List Nat}(C:CompScope X scope cl x ys b):∀y∈scope.names,y.2=.free->(cl.lookup y.1).isSome=true:=λy a e=>by
 have h:=Fb.mp C.has_ y a
 rw[e] at h
 simpa using h
theorem Tc{env:Env}{y:Str}{k:Qb}:∀{names:List (Str×Qb)},
  (names.map λ(n,k)=>if (k == Em && env.scope.kind == .function && env.kindOf n == some .cell) then (n,Ef) else (n,k)).lookup y=some k ->
  ∃c,names.lookup y=some c/\(k=c\/(c=.free/\k=.cell))
 | [],h=>by simp at h
 | (n,c)::r,h=>by
  have i:=@Tc env y k r
  rw[Ax] at h
  by_cases d:(c == Em && env.scope.kind == .function && env.kindOf n == some .cell)=true
  ·have a:Mg y ((n,Ef)::(r.map λ(n,k)=>if (k == Em && env.scope.kind == .function && env.kindOf n == some .cell) then (n,Ef) else (n,k)))=some k:=by
    simpa [d] using h
   cases b:y == n with
   | true =>
    rw[Ca,b] at a
    have e:k=Ef:=by simpa using a.symm
    refine ⟨c,by rw[Ca,b],.inr ⟨?_,e⟩⟩
    rw[Cd,Cd] at d
    exact Vp d.1.1
   | false =>
    rw[Ca,b] at a
    obtain ⟨q,f,g⟩:=i a
    exact ⟨q,by rw[Ca,b]; exact f,g⟩
  ·have a:Mg y ((n,c)::(r.map λ(n,k)=>if (k == Em && env.scope.kind == .function && env.kindOf n == some .cell) then (n,Ef) else (n,k)))=some k:=by
    simpa [d] using h
   cases b:y == n with
   | true =>
    rw[Ca,b] at a
    exact ⟨c,by rw[Ca,b],.inl (by simpa using a.symm)⟩
   | false =>
    rw[Ca,b] at a
    obtain ⟨q,f,g⟩:=i a
    exact ⟨q,by rw[Ca,b]; exact f,g⟩
theorem Xk{env:Env}{y:Str}:∀{names:List (Str×Qb)},names.lookup y=some .free ->
  (names.map λ(n,k)=>if (k == Em && env.scope.kind == .function && env.kindOf n == some .cell) then (n,Ef) else (n,k)).lookup y=some .cell \/
  (names.map λ(n,k)=>if (k == Em && env.scope.kind == .function && env.kindOf n == some .cell) then (n,Ef) else (n,k)).lookup y=some .free
 | [],h=>by simp at h
 | (n,k0)::r,h=>by
  have c:=@Xk env y r
  show Mg y ((if (k0 == Em && env.scope.kind == .function && env.kindOf n == some .cell)=true then (n,Ef) else (n,k0))::_)=_\/Mg y ((if (k0 == Em && env.scope.kind == .function && env.kindOf n == some .cell)=true then (n,Ef) else (n,k0))::_)=_
  by_cases b:(k0 == Em && env.scope.kind == .function && env.kindOf n == some .cell)=true
  ·rw[if_pos b]
   cases a:y == n with
   | true=>exact .inl (by rw[Ca,a])
   | false =>
    rw[Ca,a] at h
    simp only[Ca,a]
    exact c h
  ·rw[if_neg b]
   cases a:y == n with
   | true =>
    rw[Ca,a] at h
    exact .inr (by rw[Ca,a]; exact h)
   | false =>
    rw[Ca,a] at h
    simp only[Ca,a]
    exact c h
theorem Mw{a c:Type}[BEq a][LawfulBEq a]{y:a}{k:c}:∀{l:List (a×c)},l.lookup y=some k->(y,k)∈l
 | [],h=>by simp at h
 | (n,v)::r,h=>by
  cases b:y == n with
  | true =>
   rw[Ca,b] at h
   have e:=Vp b
   subst e
   have : v=k:=by simpa using h
   subst this
   exact Aa
  | false =>
   rw[Ca,b] at h
   exact Ae _ (Mw h)
end
theorem iQ(h:c<a)(e:c=a+1):False:=by omega
theorem Jd:∀(names:List (Str×Qb)) (n:Nat) (a:List (Str×Addr)),Fm n names a=Fm n names []++a
 | [],_,_=>rfl
 | (x,k)::r,n,a=>by
  unfold Fm
  by_cases h:(k == Ef)=true
  ·rw[if_pos h,if_pos h,Jd r _ ((x,n)::a),Jd r _ [(x,n)],Df]; rfl
  ·rw[if_neg h,if_neg h]; exact Jd r n a
theorem Ou:∀(names:List (Str×Qb)) (n:Nat) (a:List (Str×Addr)),(∀y∈names,y.2≠.cell)->Fm n names a=a
 | [],_,_,_=>rfl
 | (x,k)::r,n,a,h=>by
  unfold Fm
  rw[if_neg (by have:=h (x,k) Aa; simpa using this)]
  exact Ou r n a λy b=>h y (Ae _ b)
theorem Wu{env:Env}{y:Str}:∀{names:List (Str×Qb)},names.lookup y=some .cell->(names.map λ(n,k)=>if (k == Em && env.scope.kind == .function && env.kindOf n == some .cell) then (n,Ef) else (n,k)).lookup y=some .cell
 | [],h=>by simp at h
 | (n,k0)::r,h=>by
  have c:=@Wu env y r
  show Mg y ((if (k0 == Em && env.scope.kind == .function && env.kindOf n == some .cell)=true then (n,Ef) else (n,k0))::_)=_
  by_cases b:(k0 == Em && env.scope.kind == .function && env.kindOf n == some .cell)=true
  ·rw[if_pos b]
   cases a:y == n with
   | true=>rw[Ca,a]
   | false=>rw[Ca,a] at h ⊢; exact c h
  ·rw[if_neg b]
   cases a:y == n with
   | true=>rw[Ca,a] at h ⊢; exact h
   | false=>rw[Ca,a] at h ⊢; exact c h
theorem aK(o:iS a x):Loc (relabel a env) x:=o.imp lookup_relabel_local Wu
section
variable{X:Cx}{a:Scope}{d:List (Str×Addr)}{x y:Str}{ys:List Str}{f:List Nat}{n c:Nat}{N:List Str}{fp:List Addr}{s:Am}{H:Hp}
theorem jE(o:iS a x):(Ed X a d N fp s H).fn x=true\/(Ed X a d N fp s H).env.scope.names.lookup x=some .local:=by
 rcases o with o | o
 ·exact .inr (lookup_relabel_local o)
 ·exact .inl (decide_eq_true o)
theorem CompScope.split(C:CompScope X a d x ys f)(h:(Fm n a.names d).lookup y=some c):d.lookup y=some c\/(c=n/\Fm 0 a.names []=[(y,0)]/\Fm n a.names []=[(y,n)]/\a.names.lookup y=some .cell):=by
 rcases C.oc with o | ⟨z,g,i,_⟩
 ·rw[Ou _ _ _ o] at h; exact .inl h
 ·rw[Jd,g] at h
  have b:Mg y ((z,n)::d)=some c:=h
  rw[Ca] at b
  cases e:y == z with
  | true =>
   rw[e] at b
   have j:c=n:=(Bo b).symm
   have k:=Vp e
   subst k
   exact .inr ⟨j,g 0,g n,i⟩
  | false=>rw[e] at b; exact .inl b
theorem CompScope.find(C:CompScope X a d x ys f)(h:d.lookup y=some c)(b:a.names.lookup y=some .free):(Fm n a.names d).lookup y=some c:=by
 rcases C.oc with o | ⟨z,g,i,_⟩
 ·rw[Ou _ _ _ o]; exact h
 ·rw[Jd,g]
  show Mg y ((z,n)::d)=some c
  rw[Ca]
  cases e:y == z with
  | true=>rw[Vp e,i] at b; cases b
  | false=>exact h
theorem CompScope.cellAt(C:CompScope X a d x ys f)(b:(y,Ef)∈a.names):(Fm n a.names d).lookup y=some n:=by
 rcases C.oc with o | ⟨z,c,h,e⟩
 ·exact absurd rfl (o _ b)
 ·have g:y=z:=e _ b rfl
  subst g
  rw[Jd,c]
  show Mg y ((y,n)::d)=some n
  rw[Ca,beq_self_eq_true]
theorem yD(C:CompScope X a d x ys f)(h:∀g,g.Ns s.heap.objs.size (λ_=>none)->(∀b u,s.heap.get? b=some u->g.get? b=some u)->(∀z n,Fm (s.heap.objs.size+1) a.names []=[(z,n)]->g.IsCell n none)->Q (newEnv a s.heap.objs.size X.env.globals (Fm (s.heap.objs.size+1) a.names d) X.env.qual none .none (some X.env) Wn) { s with heap:=g,toks:=s.toks+([]:List (Str×Value)).length }):wpAny M A (newFunctionEnv a X.env.globals d [] X.env.qual none .none (some X.env)) Q E s:=by
 simp only[newFunctionEnv,Option.isSome_some,if_true]
 refine Ab (wpAny_alloc (Ab (wpAny_layCells _ (λx k cs=>by cases e:k == Ef <;> simp [e]) _ _ _ _ ?_)))
 have c:({ s with heap:=s.heap.push { cls:=.type "dict",data:=.dict #[] } }:Am).heap.objs.size=s.heap.objs.size+1:=Heap.size_push ..
 rw[c]
 refine Ab (An (An (h _ ((Heap.Ns.new s.heap (.type "dict")).keeps (pushCells_keeps _ _)) (λb u e=>pushCells_keeps _ _ b u (Ai _ e)) λz n e=>?_)))
 have ok:=(cellsFrom_ok a.names (s.heap.push { cls:=.type "dict",data:=.dict #[] }) 0 [] ⟨λ_ _ i=>(nomatch i),Lc⟩ (Dg _)).empty z n
 rw[show (s.heap.push { cls:=.type "dict",data:=.dict #[] }).objs.size=s.heap.objs.size+1 from c,e] at ok
 exact (ok (Ak.mpr rfl)).1
end
section
variable{X:Cx}{f:List (Addr×Obj)}{g:L2.St}{H:Hp}{s:Am}{a:Scope}{t:List (Str×Addr)}{fp:List Addr}{N:List Str}
theorem P7(C:CompScope X a t x ys E)(I:Inv X f g H s)(v:∀b∈fp,Np X f H b)(F:∀b∈fp,∃o,s.heap.get? b=some o):(Ed X a t N fp s H).Ok where
 mod:=I.ok.mod
 kind:=C.kind
 glob:=I.ok.glob
 blt:=I.ok.blt
 above:=Ar _
 inj:=λy z c u l=>by
  have lt:∀y,t.lookup y=some c->c<s.heap.objs.size:=λy e=>let ⟨_,q⟩:=I.cell y c (C.sub y c e); q.lt
  rcases C.split u with u | ⟨e1,G,_⟩
  ·rcases C.split l with l | ⟨D,_⟩
   ·exact I.ok.inj y z c (C.sub y c u) (C.sub z c l)
   ·exact (iQ (lt y u) D).elim
  ·rcases C.split l with l | ⟨D,B,_⟩
   ·exact (iQ (lt z l) e1).elim
   ·rw[G] at B
    simpa using B
 has:=λy hy=>by
  have r:∀k,(k=Ef\/k=Em)->(compEnvC a t s.heap.objs.size X.env).kindOf y=some k->∃c,(Fm (s.heap.objs.size+1) a.names t).lookup y=some c:=by
   intro k hk e
   obtain ⟨w,A,e1⟩:=Tc (names:=a.names) (env:=X.env) (y:=y) (k:=k) e
   have m:=Mw A
   by_cases p:w=.cell
   ·exact ⟨_,C.cellAt (p▸m)⟩
   have d:w=.free:=by
    rcases e1 with e1 | e1
    ·subst e1
     rcases hk with hk | hk
     ·exact absurd hk p
     ·exact hk
    ·exact e1.1
   obtain ⟨c,j⟩:=Qw.mp (C.has _ m d)
   exact ⟨c,C.find j (d▸A)⟩
  rcases hy with hy | hy
  ·exact r _ (.inl rfl) hy
  ·exact r _ (.inr rfl) hy
 cab:=λy c h e=>by
  have h:a.names.lookup y=some .cell:=of_decide_eq_true h
  have:=(C.cellAt (n:=s.heap.objs.size+1) (Mw h)).symm.trans e
  show s.heap.objs.size<=c
  have:=Bo this
  omega
 hd:=I.ok.hd
 frames:=I.ok.frames
 stk:=.inl rfl
 exf:=λb i=>by
  obtain ⟨o,e⟩:=F b i
  refine ⟨By (Bb e),λy c j=>?_⟩
  rcases C.split j with j | ⟨j,_⟩
  ·exact (v b i).2.2.2.2.1 y c (C.sub y c j)
  ·exact λz=>iQ (Bb e) (z.symm.trans j)
 bs:=I.bs
 bsz:=Ce I.ok.bsz I.sz
 noex:=λb o e i=>by
  rcases (v b i).2.2.2.1 with z | z
  ·exact I.ok.noex b o e z
  ·exact absurd (Bs (Bb (I.ok.bs b o e).1) z) (Ey _)
 exfs:=λb i z=>by
  rcases Ao.mp (I.stkSub b z) with e | e
  ·exact (v b i).2.1 e
  ·exact (v b i).2.2.1 e
 funs:=I.stack
 frf:=I.stkFree
 tab:=I.ok.tab.un I.base
def Io(g:L2.St)(a:List Nat):L2.St:=a.map λj=>(g[j]?).join
theorem pG(C:CompScope X a t x ys B)(I:Inv X f g H s)(Z:∀b∈fp,Np X f H b)(ho:∀b∈fp,∃o,s.heap.get? b=some o)(K:h1.Ns s.heap.objs.size O)(keep:∀b u,s.heap.get? b=some u->h1.get? b=some u)(M:∀z n,Fm (s.heap.objs.size+1) a.names []=[(z,n)]->h1.IsCell n none):Inv (Ed X a t (pre++ys) fp s H) [] (pre.map (λ_=>none)++Io g B) H { s with heap:=h1,toks:=tk }:=by
 have w:∀y c,t.lookup y=some c->∃v,s.heap.IsCell c v/\h1.IsCell c v:=λy c e=>by
  obtain ⟨v,o,q,d⟩:=I.cell y c (C.sub y c e)
  exact ⟨v,⟨o,q,d⟩,o,keep c o q,d⟩
 refine ⟨P7 C I Z ho,rfl,I.bare,Un.kept keep,⟨O,K,λi y v G m _=>?_⟩,λy c e=>?_,I.hok.fresh (Ar _),λy c e=>?_,λp Q=>?_,I.hok.kept keep,?_⟩
 ·have m:(pre.map (λ_=>(none:Option V))++Io g B)[i]? = some (some v):=m
  have G:(pre++ys)[i]? = some y:=G
  by_cases hi:i<pre.length
  ·rw[kX (by rw[Ac]; exact hi),Aq] at m
   cases q:pre[i]? with
   | none=>rw[q] at m; cases m
   | some z=>rw[q] at m; cases m
  ·rw[Kt (by rw[Ac]; omega),Ac] at m
   rw[Kt (by omega)] at G
   have D:=G
   have h:=m
   generalize i - pre.length=k at D h
   unfold Io at h
   rw[Aq] at h
   cases N:B[k]? with
   | none=>rw[N] at h; simp at h
   | some j =>
    rw[N] at h
    have A:(g[j]?).join=some v:=by simpa using h
    have U:g[j]? = some (some v):=by
     cases q:g[j]? with
     | none=>rw[q] at A; simp at A
     | some z=>rw[q] at A; simp at A; rw[A]
    obtain ⟨R,J,a3⟩:=C.at_ k y j D N
    obtain ⟨m0,_,W⟩:=I.loc
    have L:KR X.env.scope y:=a3.elim (λa3=>.inr (.inl a3)) λa3=>.inr (.inr a3)
    obtain ⟨u,r,l⟩:=W j y v R U L
    refine ⟨u,r,?_⟩
    rcases l with ⟨k1,_⟩ | ⟨_,c,Y,P⟩
    ·rcases a3 with a3 | a3 <;> rw[k1] at a3 <;> cases a3
    ·obtain ⟨F,E⟩:=Qw.mp (C.has _ (Mw J) rfl)
     have T:F=c:=by
      have:=C.sub y F E
      rw[Y] at this
      exact (Bo this).symm
     subst T
     obtain ⟨o,q,d⟩:=P
     exact .inr ⟨Xk J,F,C.find E J,o,keep F o q,d⟩
 ·rcases C.split e with e | ⟨e,_,S,_⟩
  ·obtain ⟨v,_,z⟩:=w y c e
   exact ⟨v,z⟩
  ·exact ⟨_,e▸M _ _ S⟩
 ·rcases C.split e with e | ⟨e,_⟩
  ·exact I.freeC y c (C.sub y c e)
  ·exact I.hok.fresh (by omega)
 ·cases (show p∈([]:List (Addr×Obj)) from Q)
 ·show (pre.map (λ_=>(none:Option V))++Io g B).length=(pre++ys).length
  simp [Io,C.len]
end
section
variable{X:Cx}
def Z1(J:It)(h:List Nat)(o:TT)(n:TE)(f:L2.St)(g:Hp)(Q:VK):Prop:=∀D,g D=none->∃W:Nat->Nat->Hp->Prop,(∃m,W 0 m (upd g D (.lst [])))/\∀i m H,W i m H ->
 (J.stop i H/\Q (.ref D) H)\/(J.go i H/\∀x l,J.yld i H x l->∃(k:Hp->Prop) (j:VK),(∀b,k b->∃d,d<m/\W (i+1) d b) /\
  (∀y e,j y e->∃a,e D=some (.lst a)/\a.length<Az/\∃d,d<m/\W (i+1) d (upd e D (.lst (a++[y])))) /\
  o (some x::Io f h) l λc b=>if c=true then n (some x::Io f h) b j else k b)
def tE(f:TI)(d:List Nat)(c:TT)(b:TE):TE:=λa H Q=>f a H λJ e=>Z1 J d c b a e Q
def jH:TT:=λ_ H Q=>Q true H
def iR(X:Cx)(b:List Expr)(t:TT):Prop :=
 ∀(a:List (Addr×Obj)) (s:Am) (d:L2.St) (H:Hp) (Q:Bool->Hp->Prop),Inv X a d H s->t d H Q ->
  wpAny (model X.prog X.w) X.A (forIn b true λc r=>if r=true then (do
   let ok <- isTrue c X.env (eval c X.env)
   pure (Hv ok)) else pure (Hv r)) (TP X a d Q) X.xe s
theorem B2:iR X [] jH:=λa s b H Q I h=>wpAny_tests_nil ⟨H,I,h⟩
theorem W2(h:PT X c t):iR X [c] t:=λa s b H Q I q=>wpAny_tests_one (h a s b H Q I q)
theorem rV{X C:Cx}{f:List (Addr×Obj)}{G E:L2.St}{t m:Hp}{d i:Am}{l:Scope}{I:List (Str×Addr)}{N:List Str}{fp:List Addr}(a:Ed X l I N fp d t=C)(L:Inv X f G t d)(D:∀b∈fp,Np X f t b)(r:Inv C [] E m i):∃B,i.heap.Ns d.heap.objs.size B/\∀p,Gk d.heap.objs.size i.heap p->Inv X f G m { i with heap:=p }:=by
 have O:C.prog=X.prog:=by rw[<- a]; rfl
 have H:C.w=X.w:=by rw[<- a]; rfl
 obtain ⟨B,u,_⟩:=r.loc
 have y:i.heap.Ns d.heap.objs.size B:=by rw[<- a] at u; exact u
 refine ⟨B,y,λp g=>?_⟩
 have v:m d.heap.objs.size=none:=by have:=r.free; rw[<- a] at this; exact this
 have k:Un (vO X.stack) fp t m d.heap i.heap:=by have:=r.base; rw[<- a] at this; exact this
 have j:∀b o,d.heap.get? b=some o->b≠d.heap.objs.size:=λb o q=>By (Bb q)
 have K:Un (vO X.stack) fp t m d.heap p:=by
  refine ⟨λb o q n h s=>(g.2 b (j b o q)).trans (k.keep b o q n h s),λb o q n h s=>?_,k.free,λb o q s=>?_,k.tups,k.frzs,k.tbls⟩
  ·obtain ⟨P,z⟩:=k.slot b o q n h s
   exact ⟨P,(g.2 b (j b o q)).trans z⟩
  ·obtain ⟨M,z⟩:=k.there b o q s
   exact ⟨M,(g.2 b (j b o q)).trans z⟩
 have A:Wq X.prog X.w m p:=λb J e=>by
  have x:=r.hok
  rw[O,H] at x
  refine (x b J e).stay (λc Q hcc q=>(g.2 c ?_).trans q) (λ_ q=>q) λ_ _ q=>q
  rintro rfl
  rcases hcc with rfl | hcc
  ·rw[v] at e; cases e
  ·rw[v] at hcc; cases hcc
 have F:i.os=d.os:=by have:=r.os; rw[<- a] at this; exact this
 exact L.call' (s':={ i with heap:=p }) (ch:=fp) F K A r.bare (λb h=>⟨(D b h).2.2.2.1,(D b h).2.1,(D b h).2.2.2.2.1,(D b h).2.2.2.2.2⟩)
theorem xN{X e:Cx}{f:L2.St}{k n:Hp}{m l:Am}{c:Scope}{o:List (Str×Addr)}{N:List Str}{fp:List Addr}(d:Ed X c o N fp m k=e)(i:Inv e [] f n l){H':Hp}(j:∀b∈fp,H' b=none):∀b∈fp,Np e [] H' b:=λb g=>by
 have ok:=i.ok
 have a:b∈e.ex:=by rw[<- d]; exact g
 exact ⟨j b g,(ok.exf b a).1,ok.exfs b a,.inl a,(ok.exf b a).2,λp h=>by rw[<- d] at h; cases (show p∈([]:List (Addr×Obj)) from h)⟩
theorem L4(e:X.calm=true)(c:Ed X a g N fp f d=b):b.prog=X.prog/\b.w=X.w/\b.K=X.K/\b.A=X.A/\b.calm=true:=by
 subst c
 exact ⟨rfl,rfl,rfl,rfl,e⟩
theorem xF{X o:Cx}{a:List (Addr×Obj)}{p k:L2.St}{l n:Hp}{g f:Am}{c:Scope}{r:List (Str×Addr)}{N:List Str}{fp:List Addr}(i:Ed X c r N fp g l=o)(q:Inv X a p l g)(h:∀b∈fp,Np X a l b)(d:Inv o [] k n f):(∃j,f.heap.Ns g.heap.objs.size j)/\n g.heap.objs.size=none/\Inv X a p n f:=by
 subst i
 obtain ⟨j,m,_⟩:=d.loc
 exact ⟨⟨j,m⟩,d.free,q.call' (s':=f) (ch:=fp) d.os d.base d.hok d.bare (λb e=>⟨(h b e).2.2.2.1,(h b e).2.1,(h b e).2.2.2.2.1,(h b e).2.2.2.2.2⟩)⟩
theorem n6{X:Cx}{a:List (Addr×Obj)}{j:L2.St}{f:Hp}{c:Am}{l:Expr}{J:It}{fp:List Addr}{it:Addr}{h:Nat->Heap->Prop}(m:Inv X a j f c)(T:Turn X.prog X.w X.K l J fp it h)(e:h 0 c.heap)(i:∀b∈fp,Np X a f b){g:Obj}{k:HO}(n:Inv X a j (upd f c.heap.objs.size k) { c with heap:=c.heap.push g }):(∀b∈fp,Np X a (upd f c.heap.objs.size k) b)/\h 0 (c.heap.push g)/\∀b∈fp,∃o,(c.heap.push g).get? b=some o:=by
 have zE:h 0 (c.heap.push g):=T.keep 0 _ _ e λb d o q=>Ai _ q
 refine ⟨λb d=>⟨?_,(i b d).2⟩,zE,λb d=>?_⟩
 ·rw[Cp ?_]
  ·exact (i b d).1
  ·intro z
   obtain ⟨o,q,_⟩:=T.obj _ _ e b d
   have:=Bb q
   rw[z] at this
   exact absurd this (Ey _)
 ·obtain ⟨o,q,_⟩:=T.obj _ _ zE b d
  exact ⟨o,q⟩
end
theorem Gi(h:H p=none)(o:HO):Tf H (upd H p o):=λb u q=>by rw[Cp (Dm q h)]; exact q
theorem Lj{a:Type}{xs:List a}{i:Nat}{x:a}(h:xs[i]? = some x):xs.take (i+1)=xs.take i++[x]:=by
 rw[List.take_succ,h]; rfl
mutual
inductive RdV (K:PySem.W.Frag) (H:Hp):V->Ad->Prop
 | non:RdV K H .non .none
 | bl (b:Bool):RdV K H (.bl b) (.bool b)
 | int (i:Int):RdV K H (.int i) (.int i)
 | str (x:Str):RdV K H (.str x) (.str x)
 | lst {a:Addr} {xs:List V} {ds:List Ad}:Kv K H a xs->RdVs K H xs ds->RdV K H (.ref a) (.list ds)
 | tup {a:Addr} {xs:List V} {ds:List Ad}:Ve K H a xs->RdVs K H xs ds->RdV K H (.ref a) (.tuple ds)
inductive RdVs (K:PySem.W.Frag) (H:Hp):List V->List Ad->Prop
 | nil:RdVs K H [] []
 | cons {x:V} {d:Ad} {xs:List V} {ds:List Ad}:RdV K H x d->RdVs K H xs ds->RdVs K H (x::xs) (d::ds)
end
section
variable{X:Cx}{a:List (Addr×Obj)}{c:L2.St}{H H':Hp}{s:Am}{K:PySem.W.Frag}
mutual
theorem RdV.reads(I:Inv X a c H s):∀{v:V} {d:Ad} {u:Value},RdV X.K H v d->RelV v u->∃as,Reads s.heap u d as
 | _,_,_,.non,r=>by cases r; exact ⟨_,.none⟩
 | _,_,_,.bl b,r=>by cases r; exact ⟨_,.bool b⟩
 | _,_,_,.int i,r=>by obtain ⟨t,rfl⟩:=r; exact ⟨_,.int i t⟩
 | _,_,_,.str x,r=>by obtain ⟨t,rfl⟩:=r; exact ⟨_,.str x t⟩
 | _,_,_,.lst h hs,r=>by
  cases r
  obtain ⟨k,l,⟨o,n,e,j,_,f⟩,_⟩:=I.list h
  obtain ⟨as,g⟩:=RdVs.reads I hs l
  exact ⟨_,.list e j f (by simpa using g)⟩
 | _,_,_,.tup h hs,r=>by
  cases r
  obtain ⟨k,l,⟨o,e,j,n,f⟩,_⟩:=I.tuple h
  obtain ⟨as,g⟩:=RdVs.reads I hs l
  exact ⟨_,.tuple e j f (by simpa using g)⟩
theorem RdVs.reads(I:Inv X a c H s):∀{vs:List V} {b:List Ad} {us:List Value},RdVs X.K H vs b->Fs vs us->∃as,ReadsAll s.heap us b as
 | _,_,_,.nil,r=>by cases r; exact ⟨_,.nil⟩
 | _,_,_,.cons h hs,r=>by
  cases r with
  | cons r f =>
   obtain ⟨as,e⟩:=RdV.reads I h r
   obtain ⟨bs,d⟩:=RdVs.reads I hs f
   exact ⟨_,.cons e d⟩
end
mutual
theorem RdV.noDict:∀{v:V} {d:Ad},RdV K H v d->d.hasDict=false
 | _,_,.non=>by simp only[Mj]
 | _,_,.bl b=>by simp only[Mj]
 | _,_,.int i=>by simp only[Mj]
 | _,_,.str x=>by simp only[Mj]
 | _,_,.lst h hs=>by simp only[Mj]; exact RdVs.noDict hs
 | _,_,.tup h hs=>by simp only[Mj]; exact RdVs.noDict hs
theorem RdVs.noDict:∀{vs:List V} {a:List Ad},RdVs K H vs a->Zc a=false
 | _,_,.nil=>by simp only[Zc]
 | _,_,.cons h hs=>by simp only[Zc,RdV.noDict h,RdVs.noDict hs,Bool.or_self]
end
end
mutual
def Oj(b:Nat):Ad->Prop
 | .none=>True
 | .bool _=>True
 | .int i=>i.natAbs<10 ^ b
 | .str x=>(reprText x).length<=b
 | .list a=>Gm b a
 | .tuple a=>Gm b a
 | .dict _=>False
def Gm(b:Nat):List Ad->Prop
 | []=>True
 | x::xs=>Oj b x/\Gm b xs
end
mutual
def Lk:Ad->Nat
 | .list a=>Hw a+1
 | .tuple a=>Hw a+1
 | _=>1
def Hw:List Ad->Nat
 | []=>0
 | x::xs=>Lk x+Hw xs
end
theorem lE:∀{xs:List Ad},Gm b xs↔∀x∈xs,Oj b x
 | []=>by simp [Gm]
 | x::xs=>by simp only[Gm,Ao,forall_eq_or_imp,lE (xs:=xs)]
theorem Zl:∀{xs:List Ad},(∀x∈xs,Lk x<=m)->Hw xs<=m * xs.length
 | [],_=>by simp [Hw]
 | x::xs,h=>by
  have b:=h x (Aa ..)
  have c:=Zl (xs:=xs) λy a=>h y (Ae _ a)
  simp only[Hw,Bu,Nat.mul_add,Nat.mul_one]
  omega
theorem Le(ns:List Int):Hw (ns.map Ah)=ns.length:=by
 induction ns with
 | nil=>rfl
 | cons n ns a=>simp only[Ax,Hw,Lk,a,Bu]; omega
theorem qH(ns:List Int):Bk (ns.map Ah)=0:=by
 induction ns with
 | nil=>rfl
 | cons n ns a=>simp only[Ax,Bk,Cm,a,Nat.max_self]
theorem Zk:∀{xs:List Ad},(∀x∈xs,x.depth<=m)->Bk xs<=m
 | [],_=>by simp [Bk]
 | x::xs,h=>by
  have b:=h x (Aa ..)
  have c:=Zk (xs:=xs) λy a=>h y (Ae _ a)
  simp only[Bk]
  omega
theorem oA(a:List Str):(listText a).length<=piled a+2:=by
 cases a with
 | nil=>rw[listText_nil]; decide
 | cons t r =>
  have h:=textFrom_length_pos r 1 (("[" : Str)++(if (0:Nat) > 0 then ", " else "" : String)++t) (Nat.succ_pos 0)
  have e:((("[" : Str)++(if (0:Nat) > 0 then ", " else "" : String)++t)).length=1+t.length:=by
   rw[Uy,Uy]; rfl
  have b:(listText (t::r)).length=(textFrom 0 "[" (t::r)).length+1:=by
   show (textFrom 0 "[" (t::r) ++ "]").length=_
   rw[Uy]; rfl
  have c:(textFrom 0 "[" (t::r)).length=(textFrom 1 (("[" : Str)++(if (0:Nat) > 0 then ", " else "" : String)++t) r).length:=rfl
  rw[b,c,h,e,piled_cons]; omega
theorem kG(a:List Str):(tupleText a).length<=piled a+3:=by
 unfold tupleText
 rw[Uy,Uy]
 have b:((("(" : String):Str)).length=1:=rfl
 have c:(((if a.length == 1 then ",)" else ")" : String):Str)).length<=2:=by split <;> decide
 rw[b]
 by_cases h:a=[]
 ·subst h
  have : (Str.join ", " []).length=0:=rfl
  omega
 ·have:=join_length_add a h
  omega
mutual
theorem oG:∀{d:Ad},Oj b d->d.shown.length+4<=(b+12) * Lk d
 | .none,_=>by simp only[Pg,Lk]; show 4+4<=_; omega
 | .bool c,_=>by
  simp only[Pg,Lk]
  cases c
  ·show 5+4<=_; omega
  ·show 4+4<=_; omega
 | .int i,h=>by
  simp only[Pg,Lk]
  have f:i.natAbs<10 ^ b:=by simpa only [Oj] using h
  have e:i.natAbs<10 ^ (b+1):=Bs f (Dj (by decide) (by omega))
  have n:(Do (Lr i)).length<=b+2:=by
   have m:=int_text_length_le10 (a:=i) (k:=b+1) (by omega) e
   have j:(Do (Lr i)).length=(Lr i).length:=PySem.ofString_length _
   omega
  have l:((Lr i:String):Str).length=(Do (Lr i)).length:=rfl
  omega
 | .str x,h=>by
  simp only[Pg,Lk]
  have f:(reprText x).length<=b:=by simpa only [Oj] using h
  omega
 | .list xs,h=>by
  simp only[Pg,Lk]
  have g:=Tq (b:=b) (xs:=xs) (by simpa only [Oj] using h)
  have e:=oA (Om xs)
  rw[Nat.mul_add]
  omega
 | .tuple xs,h=>by
  simp only[Pg,Lk]
  have g:=Tq (b:=b) (xs:=xs) (by simpa only [Oj] using h)
  have e:=kG (Om xs)
  rw[Nat.mul_add]
  omega
 | .dict kvs,h=>by simp only[Oj] at h
theorem Tq:∀{xs:List Ad},Gm b xs->piled (Om xs)<=(b+12) * Hw xs
 | [],_=>by simp only[Om,Hw,piled_nil]; omega
 | x::xs,h=>by
  simp only[Gm] at h
  have a:=oG h.1
  have c:=Tq h.2
  simp only[Om,Hw,piled_cons]
  rw[Nat.mul_add]
  omega
end
theorem vX(hb:b<=400)(h:i<10 ^ b):i.log2<1920:=by
 have a:i<2 ^ 1920:=Bs h (Ce (Dj (by decide) hb) (by decide +kernel))
 by_cases z:i=0
 ·subst z; decide
 ·exact (Nat.log2_lt z).mpr a
mutual
theorem Zi(hb:b<=400):∀{d:Ad},Oj b d->d.showable=true
 | .none,_=>by simp only[Jh]
 | .bool c,_=>by simp only[Jh]
 | .int i,h=>by
  simp only[Jh]
  exact decide_eq_true (vX hb (by simpa only [Oj] using h))
 | .str x,h=>by simp only[Jh]
 | .list xs,h=>by simp only[Jh]; exact showableAll_of hb (by simpa only [Oj] using h)
 | .tuple xs,h=>by simp only[Jh]; exact showableAll_of hb (by simpa only [Oj] using h)
 | .dict kvs,h=>by simp only[Oj] at h
theorem showableAll_of(hb:b<=400):∀{xs:List Ad},Gm b xs->Xs xs=true
 | [],_=>by simp only[Xs]
 | x::xs,h=>by
  simp only[Gm] at h
  simp only[Xs,Zi hb h.1,showableAll_of hb h.2,Bool.and_self]
end
def jN:Ad->Str
 | .str x=>x
 | d=>d.shown
structure Tells(K:PySem.W.Frag)(H:Hp)(x:V)(d:Ad):Prop where
 rd:RdV K H x d
 fits:∃b,b<=400/\Oj b d/\(b+12) * Lk d<=Az
 depth:d.depth<=90
def HW(K:PySem.W.Frag):List V->Hp->VK->Prop:=λa H Q=>∃x d,a=[x]/\Tells K H x d/\Q (.str (jN d)) H
theorem Oq(l:X.A.guards=some [])(G:X.A.units+100<cLine):Pe X (.type "str") (HW X.K):=by
 intro p s E H N L Q I r h
 obtain ⟨x,d,rfl,⟨j,⟨b,w,o,M⟩,J⟩,q⟩:=h
 obtain ⟨u,rfl,a⟩:=vals1 r
 have k:=Zi w o
 have m:d.shown.length<=Az:=by have:=oG o; omega
 have f:=j.noDict
 obtain ⟨F,n⟩:=j.reads I a
 cases j with
 | non=>cases a; exact PySem.P.str_of_none ⟨.str _,H,I.tok _,⟨_,rfl⟩,q⟩
 | bl c=>cases a; exact PySem.P.str_of_bool ⟨.str _,H,I.tok _,⟨_,rfl⟩,by cases c <;> exact q⟩
 | int i =>
  obtain ⟨t,rfl⟩:=a
  exact PySem.P.str_of_int (by simpa [Jh] using k) ⟨.str _,H,I.tok _,⟨_,rfl⟩,q⟩
 | str y =>
  obtain ⟨t,rfl⟩:=a
  exact PySem.P.str_of_str ⟨.str _,H,I,⟨_,rfl⟩,q⟩
 | lst D v =>
  cases a
  exact str_of_reads n k (λz=>by rw[f] at z; cases z) l (by omega) (λ_ _ e=>e) (λC u B g=>⟨.str _,H,I.kept g,⟨_,rfl⟩,q⟩) m
 | tup D v =>
  cases a
  exact str_of_reads n k (λz=>by rw[f] at z; cases z) l (by omega) (λ_ _ e=>e) (λC u B g=>⟨.str _,H,I.kept g,⟨_,rfl⟩,q⟩) m
theorem Fs.at'(r:Fs xs us)(h:j<us.length):∃x,xs[j]? = some x/\RelV x us[j]:=by
 have d:=r.length
 have b:j<xs.length:=by omega
 obtain ⟨u,a,c⟩:=r.get (i:=j) (x:=xs[j]) (by simp [b])
 rw[Ag h] at a
 cases a
 exact ⟨xs[j],by simp [b],c⟩
section
variable{X:Cx}{a:List (Addr×Obj)}{c:L2.St}{H:Hp}{s:Am}{A:Cn}
theorem Uu(A:Cn):A.in1.units<=A.units+1:=by
 first | exact Ar _ | (simp [Around.in1]; done) | (unfold Around.in1; simp)
theorem mQ:Pe X (.builtin "isinstance") (λxs H Q=>∃x n t b,xs=[x,.ty n]/\TyOf X.K H x t/\PySem.W.kitOne X.K t (.type n)=some b/\Q (.bl b) H):=by
 intro a s c H xs i Q I r h
 obtain ⟨x,n,t,b,rfl,f,e,q⟩:=h
 obtain ⟨u,v,rfl,d,g⟩:=vals2 r
 cases g
 exact vQ I d f e λj=>⟨.bl b,H,I.tok _,rfl,q⟩
theorem Xg(R:X.calm=true):Pe X (.builtin "all") (λxs H Q=>∃(p:Addr) (bs:List Bool),xs=[.ref p]/\Kv X.K H p (bs.map V.bl)/\Q (.bl (bs.all id)) H):=by
 intro a s c H xs W Q I r h
 obtain ⟨p,bs,rfl,G,q⟩:=h
 obtain ⟨u,rfl,T⟩:=vals1 r
 cases T
 obtain ⟨d,D,t,_⟩:=I.list G
 have k:d.toArray.size=bs.length:=by
  have:=D.length
  rw[Ac] at this
  rw[Av]; omega
 refine call_all_walk (Ub t.isList ?_)
 have P:X.A.in1.handled=none:=I.ok.hd R
 have O:p≠s.heap.objs.size:=By (let ⟨o,q,_⟩:=t.isList; Bb q)
 refine ⟨s.heap.objs.size,_,_,_,_,_,λi=>bs.getD i false,rfl,Xw P s.heap.objs.size p O d.toArray,⟨⟨_,Be _ rfl,rfl,rfl⟩,t.isList.push _⟩,?_,?_⟩
 ·intro i v J F U E N
  have f:d[i]? = some v:=by simpa using E
  have C:i<d.length:=(Af.mp f).1
  obtain ⟨x,m,B⟩:=Fs.at' D C
  rw[Ag C] at f
  have l:d[i]=v:=Bo f
  rw[l] at B
  rw[Aq] at m
  cases n:bs[i]? with
  | none=>rw[n] at m; cases m
  | some b =>
   rw[n] at m
   cases m
   cases B
   have : bs.getD i false=b:=by simp [Br,n]
   have g:F (bs.getD i false) J:=N
   rw[this] at g
   exact Gd g
 ·intro h' S L
  have e:((Bq d.toArray.size).all λi=>bs.getD i false)=bs.all id:=by
   rw[k]
   have : bs=(Bq bs.length).map (λj=>bs.getD j false):=(range_getD bs false).symm
   conv=>rhs; rw[this]
   rw[Nb]
   rfl
  rw[e]
  refine ⟨.bl _,H,I.kept (h':=h') (t':=S) (λb o w=>L b o ?_ (Ai _ w)),rfl,q⟩
  intro z
  have M:b=s.heap.objs.size:=by simpa using z
  have y:=Bb w
  rw[M] at y
  exact absurd y (Ey _)
end
section
variable{prog:Bp}{w:World}{A:Cn}{E:Value->Am->Prop}{s:Am}
theorem Vf{t g:Addr}{a:Array Value}{m j:Value}{lo k:Option Int}{Q:Value->Am->Prop}(b:IsTup s.heap t a)(l:s.heap.IsSliceOf g m j .none)(p:Zq m lo)(o:Zq j k)(hw:HT.sIx a.size 0 lo=0/\HT.sIx a.size a.size k=a.size)(h:Q (.ref t) s):wpAny (model prog w) A (Ug (.ref t) (.ref g)) Q E s:=by
 obtain ⟨os,f,i,q⟩:=id l
 have d:s.TypeIs (.ref g) "slice" := ⟨os,f,i⟩
 unfold Ug
 try with_reducible refine Cc ?_
 first | refine Ab (An ?_) | skip
 refine Ab (gT b.typeIs (by decide) ?_)
 refine Ab (Fu (name:=Do "__getitem__") b.typeIs Er
  (Gq Er b.typeIs entry_tuple_getitem ?_ (args_tuple_getitem _ _)))
 show wpAny _ _ (Xz (.ref t) >>= _) _ _ s
 refine Ab (tupleItemsOf_ b ?_)
 refine Ab (Ls d ?_)
 rw[if_pos (by decide)]
 refine Ab (HT.sliceApplied_gen l p o ?_)
 rw[hw.1,hw.2]
 have c:(((0:Nat):Int) == 0 && (1:Int) == 1 && (a.size - 0) == a.size)=true:=by simp
 show wpAny _ _ (if (((0:Nat):Int) == 0 && (1:Int) == 1 && (a.size - 0) == a.size)=true then _ else _) _ _ s
 rw[if_pos c]
 have e:∀{R:Bool->Am->Prop},R true s->wpAny (model prog w) A.in1 (Yb (.ref t)) R E s:=λ{R} n=>by
  unfold Yb
  refine Ab (Ls b.typeIs (An ?_))
  rw[beq_self_eq_true]
  exact n
 refine Ab (e ?_)
 rw[if_pos rfl]
 exact Ab (Pi (An ⟨_,rfl,An h⟩))
end
mutual
def Dw:Ad->Ad->Bool
 | .none,.none=>true
 | .bool a,.bool b=>a == b
 | .bool a,.int b=>(if a then 1 else 0) == b
 | .int a,.bool b=>a == (if b then 1 else 0)
 | .int a,.int b=>a == b
 | .str a,.str b=>a == b
 | .list xs,.list ys=>Mi xs ys
 | .tuple xs,.tuple ys=>Mi xs ys
 | _,_=>false
def Mi:List Ad->List Ad->Bool
 | [],[]=>true
 | x::xs,y::ys=>Dw x y && Mi xs ys
 | _,_=>false
end
theorem Pa:∀a es:List Ad,(((Bq (min a.length es.length)).all λj=>Dw (a.getD j .none) (es.getD j .none)) && a.length == es.length)=Mi a es
 | [],[]=>by simp [Mi]
 | [],_::_=>by simp [Mi]
 | _::_,[]=>by simp [Mi]
 | d::a,e::es=>by
  have b:=Pa a es
  rw[Mi,<- b]
  have f:min (d::a).length (e::es).length=min a.length es.length+1:=by simp only[Bu]; omega
  rw[f,List.range_succ_eq_map,List.all_cons,Nb]
  have c:((d::a).length == (e::es).length)=(a.length == es.length):=by
   rw[Vb]; simp
  rw[c,Bool.and_assoc]
  rfl
section
variable{X:Cx}{a:List (Addr×Obj)}{c:L2.St}{H:Hp}{s:Am}{K:PySem.W.Frag}
mutual
theorem RdV.eqD_self:∀{v:V} {d:Ad},RdV K H v d->Dw d d=true
 | _,_,.non=>by simp [Dw]
 | _,_,.bl b=>by simp [Dw]
 | _,_,.int i=>by simp [Dw]
 | _,_,.str x=>by simp [Dw]
 | _,_,.lst _ h=>by rw[Dw]; exact RdVs.eqDs_self h
 | _,_,.tup _ h=>by rw[Dw]; exact RdVs.eqDs_self h
theorem RdVs.eqDs_self:∀{vs:List V} {a:List Ad},RdVs K H vs a->Mi a a=true
 | _,_,.nil=>by simp [Mi]
 | _,_,.cons h t=>by rw[Mi,RdV.eqD_self h,RdVs.eqDs_self t]; rfl
end
theorem lU(I:Inv X pins σ H s){a:Addr}{xs ys:List V}(h1:Kv X.K H a xs)(c:Ve X.K H a ys):False:=by
 obtain ⟨e,_,d,_⟩:=I.list h1
 obtain ⟨vs,_,b,_⟩:=I.tuple c
 exact SeqAt.ne_of_list_tuple d.isList b rfl
mutual
theorem RdV.det(I:Inv X pins σ H s):∀{v:V} {d e:Ad},RdV X.K H v d->RdV X.K H v e->d=e
 | _,_,_,.non,h=>by cases h; rfl
 | _,_,_,.bl b,h=>by cases h; rfl
 | _,_,_,.int i,h=>by cases h; rfl
 | _,_,_,.str x,h=>by cases h; rfl
 | _,_,_,.lst q r,h=>by
  cases h with
  | lst a c =>
   have e:=I.list_inj q a
   subst e
   rw[RdVs.det I r c]
  | tup a c=>exact (lU I q a).elim
 | _,_,_,.tup q r,h=>by
  cases h with
  | lst a c=>exact (lU I a q).elim
  | tup a c =>
   have e:=I.tuple_inj q a
   subst e
   rw[RdVs.det I r c]
theorem RdVs.det(I:Inv X pins σ H s):∀{vs:List V} {a es:List Ad},RdVs X.K H vs a->RdVs X.K H vs es->a=es
 | _,_,_,.nil,h=>by cases h; rfl
 | _,_,_,.cons r t,h=>by
  cases h with
  | cons b c=>rw[RdV.det I r b,RdVs.det I t c]
end
theorem RdVs.length:∀{vs:List V} {a:List Ad},RdVs K H vs a->vs.length=a.length
 | _,_,.nil=>rfl
 | _,_,.cons _ t=>by rw[Bu,Bu,RdVs.length t]
theorem Yj{A:Cn}{n:Nat}(h:A.units+(n+1)<cLine):A.in1.units+n<cLine:=by
 have:=Uu A
 omega
theorem oR{A:Cn}{a b:Addr}{us vs:List Value}{c es:List Ad}(l:PlainL s.heap a us.toArray)(i:PlainL s.heap b vs.toArray)(l1:us.length=c.length)(l2:vs.length=es.length)(g:A.units<cLine)(n:∀j (h1:j<us.length) (k:j<vs.length),Nw A.in1 s us[j] vs[j] (Dw (c.getD j .none) (es.getD j .none))):SeqAt.RcAt A s (.ref a) (.ref b) (Mi c es):=by
 rw[<- Pa]
 by_cases d:c.length=es.length
 ·have f:us.toArray.size=vs.toArray.size:=by rw[Av,Av,l1,l2,d]
  have h:=SeqAt.RcAt.lists (A:=A) (e:=λj=>Dw (c.getD j .none) (es.getD j .none)) l.isList i.isList f g (λj h1 k=>by simpa using n j (by simpa using h1) (by simpa using k))
  rw[Av,l1] at h
  rw[d,Nat.min_self,beq_self_eq_true,Bool.and_true,<- d]
  exact h
 ·have f:(us.toArray.size != vs.toArray.size)=true:=by rw[Av,Av,l1,l2]; simpa using d
  have h:=SeqAt.RcAt.lists_lengths (A:=A) l.isList i.isList f g
  have m:(c.length == es.length)=false:=by simpa using d
  rw[m,Bool.and_false]
  exact h
theorem fT{A:Cn}{a b:Addr}{us vs:List Value}{c es:List Ad}(k:IsTup s.heap a us.toArray)(i:IsTup s.heap b vs.toArray)(l1:us.length=c.length)(l2:vs.length=es.length)(f:A.units<cLine)(g:∀j (h1:j<us.length) (d:j<vs.length),Nw A.in1 s us[j] vs[j] (Dw (c.getD j .none) (es.getD j .none))):SeqAt.RcAt A s (.ref a) (.ref b) (Mi c es):=by
 rw[<- Pa]
 have h:=SeqAt.RcAt.tuples (A:=A) (e:=λj=>Dw (c.getD j .none) (es.getD j .none)) (show s.heap.IsTuple a us.toArray from k) (show s.heap.IsTuple b vs.toArray from i) f (λj h1 d=>by simpa using g j (by simpa using h1) (by simpa using d))
 rw[Av,Av,l1,l2] at h
 exact h
mutual
theorem zV(I:Inv X pins σ H s):∀{A:Cn} {x y:V} {d e:Ad} {u v:Value},RdV X.K H x d->RdV X.K H y e->RelV x u->RelV y v->A.units+d.depth<cLine->Nw A s u v (Dw d e)
 | A,_,_,_,_,_,_,.non,h,ru,rv,hu=>by
  cases ru
  have c:A.units<cLine:=by omega
  cases h with
  | non=>cases rv; rw[Dw]; exact SeqAt.EqAt.same _
  | bl b=>cases rv; rw[Dw]; exact SeqAt.EqAt.none_bool b; all_goals simp
  | int b=>obtain ⟨t,rfl⟩:=rv; rw[Dw]; exact SeqAt.EqAt.none_int b t; all_goals simp
  | str b=>obtain ⟨t,rfl⟩:=rv; rw[Dw]; exact SeqAt.EqAt.none_str b t; all_goals simp
  | lst q r=>cases rv; obtain ⟨k,_,p,_⟩:=I.list q; rw[Dw]; exact SeqAt.EqAt.none_list p.isList c; all_goals simp
  | tup q r=>cases rv; obtain ⟨k,_,p,_⟩:=I.tuple q; rw[Dw]; exact SeqAt.EqAt.none_tuple p c; all_goals simp
 | A,_,_,_,_,_,_,.bl a,h,ru,rv,hu=>by
  cases ru
  have c:A.units<cLine:=by omega
  cases h with
  | non=>cases rv; rw[Dw]; exact SeqAt.EqAt.bool_none a; all_goals simp
  | bl b=>cases rv; rw[Dw]; exact SeqAt.EqAt.bool_bool a b
  | int b=>obtain ⟨t,rfl⟩:=rv; rw[Dw]; exact SeqAt.EqAt.bool_int a b t
  | str b=>obtain ⟨t,rfl⟩:=rv; rw[Dw]; exact SeqAt.EqAt.bool_str a b t; all_goals simp
  | lst q r=>cases rv; obtain ⟨k,_,p,_⟩:=I.list q; rw[Dw]; exact SeqAt.EqAt.bool_list a p.isList c; all_goals simp
  | tup q r=>cases rv; obtain ⟨k,_,p,_⟩:=I.tuple q; rw[Dw]; exact SeqAt.EqAt.bool_tuple a p c; all_goals simp
 | A,_,_,_,_,_,_,.int a,h,ru,rv,hu=>by
  obtain ⟨g,rfl⟩:=ru
  have c:A.units<cLine:=by omega
  cases h with
  | non=>cases rv; rw[Dw]; exact SeqAt.EqAt.int_none a g; all_goals simp
  | bl b=>cases rv; rw[Dw]; exact SeqAt.EqAt.int_bool a g b
  | int b=>obtain ⟨t,rfl⟩:=rv; rw[Dw]; exact SeqAt.EqAt.int_int a g b t
  | str b=>obtain ⟨t,rfl⟩:=rv; rw[Dw]; exact SeqAt.EqAt.int_str a g b t; all_goals simp
  | lst q r=>cases rv; obtain ⟨k,_,p,_⟩:=I.list q; rw[Dw]; exact SeqAt.EqAt.int_list a g p.isList c; all_goals simp
  | tup q r=>cases rv; obtain ⟨k,_,p,_⟩:=I.tuple q; rw[Dw]; exact SeqAt.EqAt.int_tuple a g p c; all_goals simp
 | A,_,_,_,_,_,_,.str a,h,ru,rv,hu=>by
  obtain ⟨g,rfl⟩:=ru
  have c:A.units<cLine:=by omega
  cases h with
  | non=>cases rv; rw[Dw]; exact SeqAt.EqAt.str_none a g; all_goals simp
  | bl b=>cases rv; rw[Dw]; exact SeqAt.EqAt.str_bool a g b; all_goals simp
  | int b=>obtain ⟨t,rfl⟩:=rv; rw[Dw]; exact SeqAt.EqAt.str_int a g b t; all_goals simp
  | str b=>obtain ⟨t,rfl⟩:=rv; rw[Dw]; exact SeqAt.EqAt.str_str a g b t
  | lst q r=>cases rv; obtain ⟨k,_,p,_⟩:=I.list q; rw[Dw]; exact SeqAt.EqAt.str_list a g p.isList c; all_goals simp
  | tup q r=>cases rv; obtain ⟨k,_,p,_⟩:=I.tuple q; rw[Dw]; exact SeqAt.EqAt.str_tuple a g p c; all_goals simp
 | A,_,_,_,_,_,_,@RdV.lst _ _ a xs ds q r,h,ru,rv,hu=>by
  cases ru
  have c:A.units<cLine:=by omega
  obtain ⟨k,o,p,_⟩:=I.list q
  cases h with
  | non=>cases rv; rw[Dw]; exact SeqAt.EqAt.list_none p.isList c; all_goals simp
  | bl b=>cases rv; rw[Dw]; exact SeqAt.EqAt.list_bool b p.isList c; all_goals simp
  | int b=>obtain ⟨t,rfl⟩:=rv; rw[Dw]; exact SeqAt.EqAt.list_int b t p.isList c; all_goals simp
  | str b=>obtain ⟨t,rfl⟩:=rv; rw[Dw]; exact SeqAt.EqAt.list_str b t p.isList c; all_goals simp
  | @lst b C B l f =>
   cases rv
   obtain ⟨vs,n,m,_⟩:=I.list l
   rw[Dw]
   by_cases i:a=b
   ·subst i
    have e:=I.list_inj q l
    subst e
    rw[<- RdVs.det I r f,RdVs.eqDs_self r]
    exact SeqAt.EqAt.same _
   ·refine SeqAt.EqAt.of_refs i (oR p m (o.length.symm.trans r.length) (n.length.symm.trans f.length) c λj w z=>?_)
    exact Rt I r f o n (Yj (by simpa only [Cm] using hu)) j w z
  | tup l f=>cases rv; obtain ⟨vs,_,m,_⟩:=I.tuple l; rw[Dw]; exact SeqAt.EqAt.list_tuple p.isList m c; all_goals simp
 | A,_,_,_,_,_,_,@RdV.tup _ _ a xs ds q r,h,ru,rv,hu=>by
  cases ru
  have c:A.units<cLine:=by omega
  obtain ⟨k,o,p,_⟩:=I.tuple q
  cases h with
  | non=>cases rv; rw[Dw]; exact SeqAt.EqAt.tuple_none p c; all_goals simp
  | bl b=>cases rv; rw[Dw]; exact SeqAt.EqAt.tuple_bool b p c; all_goals simp
  | int b=>obtain ⟨t,rfl⟩:=rv; rw[Dw]; exact SeqAt.EqAt.tuple_int b t p c; all_goals simp
  | str b=>obtain ⟨t,rfl⟩:=rv; rw[Dw]; exact SeqAt.EqAt.tuple_str b t p c; all_goals simp
  | lst l f=>cases rv; obtain ⟨vs,_,m,_⟩:=I.list l; rw[Dw]; exact SeqAt.EqAt.tuple_list p m.isList c; all_goals simp
  | @tup b C B l f =>
   cases rv
   obtain ⟨vs,n,m,_⟩:=I.tuple l
   rw[Dw]
   by_cases i:a=b
   ·subst i
    have e:=I.tuple_inj q l
    subst e
    rw[<- RdVs.det I r f,RdVs.eqDs_self r]
    exact SeqAt.EqAt.same _
   ·refine SeqAt.EqAt.of_refs i (fT p m (o.length.symm.trans r.length) (n.length.symm.trans f.length) c λj w z=>?_)
    exact Rt I r f o n (Yj (by simpa only [Cm] using hu)) j w z
theorem Rt(I:Inv X pins σ H s):∀{A:Cn} {xs ys:List V} {a es:List Ad} {us vs:List Value},RdVs X.K H xs a->RdVs X.K H ys es->Fs xs us->Fs ys vs->A.units+Bk a<cLine->∀j (h1:j<us.length) (b:j<vs.length),Nw A s us[j] vs[j] (Dw (a.getD j .none) (es.getD j .none))
 | _,_,_,_,_,_,_,.nil,_,r1,_,_=>λj h1 b=>by cases r1; exact absurd h1 (Me _)
 | A,_,_,_,_,_,_,@RdVs.cons _ _ x d xs a r t,h,r1,r2,hu=>λj h1 b=>by
  cases h with
  | nil=>cases r2; exact absurd b (Me _)
  | cons k i =>
   cases r1 with
   | cons f g =>
    cases r2 with
    | cons e l =>
     have c:A.units+d.depth<cLine/\A.units+Bk a<cLine:=by
      simp only[Bk] at hu
      omega
     cases j with
     | zero=>simpa using zV I r k f e c.1
     | succ j=>simpa using Rt I t i g l c.2 j (by simpa using h1) (by simpa using b)
end
end
section
variable{X:Cx}{c:List (Addr×Obj)}{d:L2.St}{H:Hp}{s:Am}{K:PySem.W.Frag}
theorem yB{A:Cn}{a b:Addr}{us vs:List Value}{c es:List Ad}(l:PlainL s.heap a us.toArray)(i:PlainL s.heap b vs.toArray)(l1:us.length=c.length)(l2:vs.length=es.length)(g:A.units<cLine)(n:∀j (h1:j<us.length) (k:j<vs.length),Nw A.in1 s us[j] vs[j] (Dw (c.getD j .none) (es.getD j .none))):SeqAt.RcNeAt A s (.ref a) (.ref b) (!Mi c es):=by
 rw[<- Pa]
 by_cases d:c.length=es.length
 ·have f:us.toArray.size=vs.toArray.size:=by rw[Av,Av,l1,l2,d]
  have h:=SeqAt.RcNeAt.lists (A:=A) (e:=λj=>Dw (c.getD j .none) (es.getD j .none)) l.isList i.isList f g (λj h1 k=>by simpa using n j (by simpa using h1) (by simpa using k))
  rw[Av,l1] at h
  rw[d,Nat.min_self,beq_self_eq_true,Bool.and_true,<- d]
  exact h
 ·have f:(us.toArray.size != vs.toArray.size)=true:=by rw[Av,Av,l1,l2]; simpa using d
  have h:=SeqAt.RcNeAt.lists_lengths (A:=A) l.isList i.isList f g
  have m:(c.length == es.length)=false:=by simpa using d
  rw[m,Bool.and_false]
  exact h
theorem pE{A:Cn}{a b:Addr}{us vs:List Value}{c es:List Ad}(k:IsTup s.heap a us.toArray)(i:IsTup s.heap b vs.toArray)(l1:us.length=c.length)(l2:vs.length=es.length)(f:A.units<cLine)(g:∀j (h1:j<us.length) (d:j<vs.length),Nw A.in1 s us[j] vs[j] (Dw (c.getD j .none) (es.getD j .none))):SeqAt.RcNeAt A s (.ref a) (.ref b) (!Mi c es):=by
 rw[<- Pa]
 have h:=SeqAt.RcNeAt.tuples (A:=A) (e:=λj=>Dw (c.getD j .none) (es.getD j .none)) (show s.heap.IsTuple a us.toArray from k) (show s.heap.IsTuple b vs.toArray from i) f (λj h1 d=>by simpa using g j (by simpa using h1) (by simpa using d))
 rw[Av,Av,l1,l2] at h
 exact h
end
section
variable{X:Cx}
def HM(K:PySem.W.Frag):R2:=λx y H Q=>∃d e,RdV K H x d/\RdV K H y e/\d.depth<=60/\Q (.bl (Dw d e)) H
def IH(K:PySem.W.Frag):R2:=λx y H Q=>∃d e,RdV K H x d/\RdV K H y e/\d.depth<=60/\Q (.bl (!Dw d e)) H
theorem A9(N:X.A.units+64<cLine):Wk X (Hh .Eq) (HM X.K):=by
 intro F s M H x y v u Q I z f h
 obtain ⟨d,e,C,w,E,q⟩:=h
 have c:X.A.units<cLine:=by omega
 cases C with
 | non =>
  cases z
  cases w with
  | non=>cases f; rw[Dw] at q; exact SeqAt.RcAt.none_none _ _ _ _ ⟨.bl _,H,I,rfl,q⟩
  | bl b=>cases f; rw[Dw] at q; exact SeqAt.RcAt.none_bool b _ _ _ _ ⟨.bl _,H,I,rfl,q⟩; all_goals simp
  | int b=>obtain ⟨t,rfl⟩:=f; rw[Dw] at q; exact SeqAt.RcAt.none_int b t _ _ _ _ ⟨.bl _,H,I,rfl,q⟩; all_goals simp
  | str b=>obtain ⟨t,rfl⟩:=f; rw[Dw] at q; exact SeqAt.RcAt.none_str b t _ _ _ _ ⟨.bl _,H,I,rfl,q⟩; all_goals simp
  | @lst b o n k g=>cases f; obtain ⟨vs,l,i,_⟩:=I.list k; rw[Dw] at q; exact SeqAt.RcAt.none_list i.isList c _ _ _ _ ⟨.bl _,H,I,rfl,q⟩; all_goals simp
  | @tup b o n k g=>cases f; obtain ⟨vs,l,i,_⟩:=I.tuple k; rw[Dw] at q; exact SeqAt.RcAt.none_tuple i c _ _ _ _ ⟨.bl _,H,I,rfl,q⟩; all_goals simp
 | bl a =>
  cases z
  cases w with
  | non=>cases f; rw[Dw] at q; exact SeqAt.RcAt.bool_none a _ _ _ _ ⟨.bl _,H,I,rfl,q⟩; all_goals simp
  | bl b=>cases f; rw[Dw] at q; exact SeqAt.RcAt.bool_bool a b _ _ _ _ ⟨.bl _,H,I,rfl,q⟩
  | int b=>obtain ⟨t,rfl⟩:=f; rw[Dw] at q; exact SeqAt.RcAt.bool_int a b t _ _ _ _ ⟨.bl _,H,I,rfl,q⟩
  | str b=>obtain ⟨t,rfl⟩:=f; rw[Dw] at q; exact SeqAt.RcAt.bool_str a b t _ _ _ _ ⟨.bl _,H,I,rfl,q⟩; all_goals simp
  | @lst b o n k g=>cases f; obtain ⟨vs,l,i,_⟩:=I.list k; rw[Dw] at q; exact SeqAt.RcAt.bool_list a i.isList c _ _ _ _ ⟨.bl _,H,I,rfl,q⟩; all_goals simp
  | @tup b o n k g=>cases f; obtain ⟨vs,l,i,_⟩:=I.tuple k; rw[Dw] at q; exact SeqAt.RcAt.bool_tuple a i c _ _ _ _ ⟨.bl _,H,I,rfl,q⟩; all_goals simp
 | int a =>
  obtain ⟨m,rfl⟩:=z
  cases w with
  | non=>cases f; rw[Dw] at q; exact SeqAt.RcAt.int_none a m _ _ _ _ ⟨.bl _,H,I,rfl,q⟩; all_goals simp
  | bl b=>cases f; rw[Dw] at q; exact SeqAt.RcAt.int_bool a m b _ _ _ _ ⟨.bl _,H,I,rfl,q⟩
  | int b=>obtain ⟨t,rfl⟩:=f; rw[Dw] at q; exact SeqAt.RcAt.int_int a m b t _ _ _ _ ⟨.bl _,H,I,rfl,q⟩
  | str b=>obtain ⟨t,rfl⟩:=f; rw[Dw] at q; exact SeqAt.RcAt.int_str a m b t _ _ _ _ ⟨.bl _,H,I,rfl,q⟩; all_goals simp
  | @lst b o n k g=>cases f; obtain ⟨vs,l,i,_⟩:=I.list k; rw[Dw] at q; exact SeqAt.RcAt.int_list a m i.isList c _ _ _ _ ⟨.bl _,H,I,rfl,q⟩; all_goals simp
  | @tup b o n k g=>cases f; obtain ⟨vs,l,i,_⟩:=I.tuple k; rw[Dw] at q; exact SeqAt.RcAt.int_tuple a m i c _ _ _ _ ⟨.bl _,H,I,rfl,q⟩; all_goals simp
 | str a =>
  obtain ⟨m,rfl⟩:=z
  cases w with
  | non=>cases f; rw[Dw] at q; exact SeqAt.RcAt.str_none a m _ _ _ _ ⟨.bl _,H,I,rfl,q⟩; all_goals simp
  | bl b=>cases f; rw[Dw] at q; exact SeqAt.RcAt.str_bool a m b _ _ _ _ ⟨.bl _,H,I,rfl,q⟩; all_goals simp
  | int b=>obtain ⟨t,rfl⟩:=f; rw[Dw] at q; exact SeqAt.RcAt.str_int a m b t _ _ _ _ ⟨.bl _,H,I,rfl,q⟩; all_goals simp
  | str b=>obtain ⟨t,rfl⟩:=f; rw[Dw] at q; exact SeqAt.RcAt.str_str a m b t _ _ _ _ ⟨.bl _,H,I,rfl,q⟩
  | @lst b o n k g=>cases f; obtain ⟨vs,l,i,_⟩:=I.list k; rw[Dw] at q; exact SeqAt.RcAt.str_list a m i.isList c _ _ _ _ ⟨.bl _,H,I,rfl,q⟩; all_goals simp
  | @tup b o n k g=>cases f; obtain ⟨vs,l,i,_⟩:=I.tuple k; rw[Dw] at q; exact SeqAt.RcAt.str_tuple a m i c _ _ _ _ ⟨.bl _,H,I,rfl,q⟩; all_goals simp
 | @lst a L G D r =>
  cases z
  obtain ⟨J,B,p,_⟩:=I.list D
  cases w with
  | non=>cases f; rw[Dw] at q; exact SeqAt.RcAt.list_none p.isList c _ _ _ _ ⟨.bl _,H,I,rfl,q⟩; all_goals simp
  | bl b=>cases f; rw[Dw] at q; exact SeqAt.RcAt.list_bool b p.isList c _ _ _ _ ⟨.bl _,H,I,rfl,q⟩; all_goals simp
  | int b=>obtain ⟨t,rfl⟩:=f; rw[Dw] at q; exact SeqAt.RcAt.list_int b t p.isList c _ _ _ _ ⟨.bl _,H,I,rfl,q⟩; all_goals simp
  | str b=>obtain ⟨t,rfl⟩:=f; rw[Dw] at q; exact SeqAt.RcAt.list_str b t p.isList c _ _ _ _ ⟨.bl _,H,I,rfl,q⟩; all_goals simp
  | @lst b o n k g=>cases f; obtain ⟨vs,l,i,_⟩:=I.list k; rw[Dw] at q; exact oR p i (B.length.symm.trans r.length) (l.length.symm.trans g.length) c (λj C w=>Rt I r g B l (Yj (by simp only[Cm] at E; omega)) j C w) _ _ _ _ ⟨.bl _,H,I,rfl,q⟩
  | @tup b o n k g=>cases f; obtain ⟨vs,l,i,_⟩:=I.tuple k; rw[Dw] at q; exact SeqAt.RcAt.list_tuple p.isList i c _ _ _ _ ⟨.bl _,H,I,rfl,q⟩; all_goals simp
 | @tup a L G D r =>
  cases z
  obtain ⟨J,B,p,_⟩:=I.tuple D
  cases w with
  | non=>cases f; rw[Dw] at q; exact SeqAt.RcAt.tuple_none p c _ _ _ _ ⟨.bl _,H,I,rfl,q⟩; all_goals simp
  | bl b=>cases f; rw[Dw] at q; exact SeqAt.RcAt.tuple_bool b p c _ _ _ _ ⟨.bl _,H,I,rfl,q⟩; all_goals simp
  | int b=>obtain ⟨t,rfl⟩:=f; rw[Dw] at q; exact SeqAt.RcAt.tuple_int b t p c _ _ _ _ ⟨.bl _,H,I,rfl,q⟩; all_goals simp
  | str b=>obtain ⟨t,rfl⟩:=f; rw[Dw] at q; exact SeqAt.RcAt.tuple_str b t p c _ _ _ _ ⟨.bl _,H,I,rfl,q⟩; all_goals simp
  | @lst b o n k g=>cases f; obtain ⟨vs,l,i,_⟩:=I.list k; rw[Dw] at q; exact SeqAt.RcAt.tuple_list p i.isList c _ _ _ _ ⟨.bl _,H,I,rfl,q⟩; all_goals simp
  | @tup b o n k g=>cases f; obtain ⟨vs,l,i,_⟩:=I.tuple k; rw[Dw] at q; exact fT p i (B.length.symm.trans r.length) (l.length.symm.trans g.length) c (λj C w=>Rt I r g B l (Yj (by simp only[Cm] at E; omega)) j C w) _ _ _ _ ⟨.bl _,H,I,rfl,q⟩
theorem CH(N:X.A.units+64<cLine):Wk X (Hh .NotEq) (IH X.K):=by
 intro F s M H x y v u Q I z f h
 obtain ⟨d,e,C,w,E,q⟩:=h
 have c:X.A.units<cLine:=by omega
 cases C with
 | non =>
  cases z
  cases w with
  | non=>cases f; rw[Dw] at q; exact SeqAt.RcNeAt.none_none _ _ _ _ ⟨.bl _,H,I,rfl,q⟩
  | bl b=>cases f; rw[Dw] at q; exact SeqAt.RcNeAt.none_bool b _ _ _ _ ⟨.bl _,H,I,rfl,q⟩; all_goals simp
  | int b=>obtain ⟨t,rfl⟩:=f; rw[Dw] at q; exact SeqAt.RcNeAt.none_int b t _ _ _ _ ⟨.bl _,H,I,rfl,q⟩; all_goals simp
  | str b=>obtain ⟨t,rfl⟩:=f; rw[Dw] at q; exact SeqAt.RcNeAt.none_str b t _ _ _ _ ⟨.bl _,H,I,rfl,q⟩; all_goals simp
  | @lst b o n k g=>cases f; obtain ⟨vs,l,i,_⟩:=I.list k; rw[Dw] at q; exact SeqAt.RcNeAt.none_list i.isList c _ _ _ _ ⟨.bl _,H,I,rfl,q⟩; all_goals simp
  | @tup b o n k g=>cases f; obtain ⟨vs,l,i,_⟩:=I.tuple k; rw[Dw] at q; exact SeqAt.RcNeAt.none_tuple i c _ _ _ _ ⟨.bl _,H,I,rfl,q⟩; all_goals simp
 | bl a =>
  cases z
  cases w with
  | non=>cases f; rw[Dw] at q; exact SeqAt.RcNeAt.bool_none a _ _ _ _ ⟨.bl _,H,I,rfl,q⟩; all_goals simp
  | bl b=>cases f; rw[Dw] at q; exact SeqAt.RcNeAt.bool_bool a b _ _ _ _ ⟨.bl _,H,I,rfl,q⟩
  | int b=>obtain ⟨t,rfl⟩:=f; rw[Dw] at q; exact SeqAt.RcNeAt.bool_int a b t _ _ _ _ ⟨.bl _,H,I,rfl,q⟩
  | str b=>obtain ⟨t,rfl⟩:=f; rw[Dw] at q; exact SeqAt.RcNeAt.bool_str a b t _ _ _ _ ⟨.bl _,H,I,rfl,q⟩; all_goals simp
  | @lst b o n k g=>cases f; obtain ⟨vs,l,i,_⟩:=I.list k; rw[Dw] at q; exact SeqAt.RcNeAt.bool_list a i.isList c _ _ _ _ ⟨.bl _,H,I,rfl,q⟩; all_goals simp
  | @tup b o n k g=>cases f; obtain ⟨vs,l,i,_⟩:=I.tuple k; rw[Dw] at q; exact SeqAt.RcNeAt.bool_tuple a i c _ _ _ _ ⟨.bl _,H,I,rfl,q⟩; all_goals simp
 | int a =>
  obtain ⟨m,rfl⟩:=z
  cases w with
  | non=>cases f; rw[Dw] at q; exact SeqAt.RcNeAt.int_none a m _ _ _ _ ⟨.bl _,H,I,rfl,q⟩; all_goals simp
  | bl b=>cases f; rw[Dw] at q; exact SeqAt.RcNeAt.int_bool a m b _ _ _ _ ⟨.bl _,H,I,rfl,q⟩
  | int b=>obtain ⟨t,rfl⟩:=f; rw[Dw] at q; exact SeqAt.RcNeAt.int_int a m b t _ _ _ _ ⟨.bl _,H,I,rfl,q⟩
  | str b=>obtain ⟨t,rfl⟩:=f; rw[Dw] at q; exact SeqAt.RcNeAt.int_str a m b t _ _ _ _ ⟨.bl _,H,I,rfl,q⟩; all_goals simp
  | @lst b o n k g=>cases f; obtain ⟨vs,l,i,_⟩:=I.list k; rw[Dw] at q; exact SeqAt.RcNeAt.int_list a m i.isList c _ _ _ _ ⟨.bl _,H,I,rfl,q⟩; all_goals simp
  | @tup b o n k g=>cases f; obtain ⟨vs,l,i,_⟩:=I.tuple k; rw[Dw] at q; exact SeqAt.RcNeAt.int_tuple a m i c _ _ _ _ ⟨.bl _,H,I,rfl,q⟩; all_goals simp
 | str a =>
  obtain ⟨m,rfl⟩:=z
  cases w with
  | non=>cases f; rw[Dw] at q; exact SeqAt.RcNeAt.str_none a m _ _ _ _ ⟨.bl _,H,I,rfl,q⟩; all_goals simp
  | bl b=>cases f; rw[Dw] at q; exact SeqAt.RcNeAt.str_bool a m b _ _ _ _ ⟨.bl _,H,I,rfl,q⟩; all_goals simp
  | int b=>obtain ⟨t,rfl⟩:=f; rw[Dw] at q; exact SeqAt.RcNeAt.str_int a m b t _ _ _ _ ⟨.bl _,H,I,rfl,q⟩; all_goals simp
  | str b=>obtain ⟨t,rfl⟩:=f; rw[Dw] at q; exact SeqAt.RcNeAt.str_str a m b t _ _ _ _ ⟨.bl _,H,I,rfl,q⟩
  | @lst b o n k g=>cases f; obtain ⟨vs,l,i,_⟩:=I.list k; rw[Dw] at q; exact SeqAt.RcNeAt.str_list a m i.isList c _ _ _ _ ⟨.bl _,H,I,rfl,q⟩; all_goals simp
  | @tup b o n k g=>cases f; obtain ⟨vs,l,i,_⟩:=I.tuple k; rw[Dw] at q; exact SeqAt.RcNeAt.str_tuple a m i c _ _ _ _ ⟨.bl _,H,I,rfl,q⟩; all_goals simp
 | @lst a L G D r =>
  cases z
  obtain ⟨J,B,p,_⟩:=I.list D
  cases w with
  | non=>cases f; rw[Dw] at q; exact SeqAt.RcNeAt.list_none p.isList c _ _ _ _ ⟨.bl _,H,I,rfl,q⟩; all_goals simp
  | bl b=>cases f; rw[Dw] at q; exact SeqAt.RcNeAt.list_bool b p.isList c _ _ _ _ ⟨.bl _,H,I,rfl,q⟩; all_goals simp
  | int b=>obtain ⟨t,rfl⟩:=f; rw[Dw] at q; exact SeqAt.RcNeAt.list_int b t p.isList c _ _ _ _ ⟨.bl _,H,I,rfl,q⟩; all_goals simp
  | str b=>obtain ⟨t,rfl⟩:=f; rw[Dw] at q; exact SeqAt.RcNeAt.list_str b t p.isList c _ _ _ _ ⟨.bl _,H,I,rfl,q⟩; all_goals simp
  | @lst b o n k g=>cases f; obtain ⟨vs,l,i,_⟩:=I.list k; rw[Dw] at q; exact yB p i (B.length.symm.trans r.length) (l.length.symm.trans g.length) c (λj C w=>Rt I r g B l (Yj (by simp only[Cm] at E; omega)) j C w) _ _ _ _ ⟨.bl _,H,I,rfl,q⟩
  | @tup b o n k g=>cases f; obtain ⟨vs,l,i,_⟩:=I.tuple k; rw[Dw] at q; exact SeqAt.RcNeAt.list_tuple p.isList i c _ _ _ _ ⟨.bl _,H,I,rfl,q⟩; all_goals simp
 | @tup a L G D r =>
  cases z
  obtain ⟨J,B,p,_⟩:=I.tuple D
  cases w with
  | non=>cases f; rw[Dw] at q; exact SeqAt.RcNeAt.tuple_none p c _ _ _ _ ⟨.bl _,H,I,rfl,q⟩; all_goals simp
  | bl b=>cases f; rw[Dw] at q; exact SeqAt.RcNeAt.tuple_bool b p c _ _ _ _ ⟨.bl _,H,I,rfl,q⟩; all_goals simp
  | int b=>obtain ⟨t,rfl⟩:=f; rw[Dw] at q; exact SeqAt.RcNeAt.tuple_int b t p c _ _ _ _ ⟨.bl _,H,I,rfl,q⟩; all_goals simp
  | str b=>obtain ⟨t,rfl⟩:=f; rw[Dw] at q; exact SeqAt.RcNeAt.tuple_str b t p c _ _ _ _ ⟨.bl _,H,I,rfl,q⟩; all_goals simp
  | @lst b o n k g=>cases f; obtain ⟨vs,l,i,_⟩:=I.list k; rw[Dw] at q; exact SeqAt.RcNeAt.tuple_list p i.isList c _ _ _ _ ⟨.bl _,H,I,rfl,q⟩; all_goals simp
  | @tup b o n k g=>cases f; obtain ⟨vs,l,i,_⟩:=I.tuple k; rw[Dw] at q; exact pE p i (B.length.symm.trans r.length) (l.length.symm.trans g.length) c (λj C w=>Rt I r g B l (Yj (by simp only[Cm] at E; omega)) j C w) _ _ _ _ ⟨.bl _,H,I,rfl,q⟩
theorem L8(h:RelV z v)(h':RelV a v):z=a:=by
 cases z <;> cases a <;> simp only[L2.RelV] at h h' <;> first | rfl | (subst h; cases h'; rfl) | (subst h; cases h'; done) | (obtain ⟨t,rfl⟩:=h; obtain ⟨b,e⟩:=h'; cases e; rfl) | (obtain ⟨t,rfl⟩:=h; obtain ⟨b,e⟩:=h'; cases e; done) | (obtain ⟨t,rfl⟩:=h; cases h'; done) | (subst h; obtain ⟨b,e⟩:=h'; cases e)
open Classical in
noncomputable def Mm(K:PySem.W.Frag)(H:Hp)(d:Ad)(v:Value):Bool:=if h:∃e z,RdV K H z e/\RelV z v then Dw h.choose d else false
theorem bZ{a:List (Addr×Obj)}{c:L2.St}{H:Hp}{s:Am}(I:Inv X a c H s){d e:Ad}{z:V}{v:Value}(h:RdV X.K H z e)(r:RelV z v):Mm X.K H d v=Dw e d:=by
 unfold Mm
 have b:∃e z,RdV X.K H z e/\RelV z v:=⟨e,z,h,r⟩
 rw[dif_pos b]
 obtain ⟨j,f,g⟩:=b.choose_spec
 have i:=L8 g r
 subst i
 rw[RdV.det I f h]
theorem Qu{a:List (Addr×Obj)}{c:L2.St}{H:Hp}{s:Am}(I:Inv X a c H s){d:Ad}:∀{xs:List V} {b:List Ad} {us:List Value},RdVs X.K H xs b->Fs xs us->us.any (Mm X.K H d)=b.any λe=>Dw e d
 | _,_,_,.nil,r=>by cases r; rfl
 | _,_,_,.cons h t,r=>by
  cases r with
  | cons g f=>rw[Hl,Hl,bZ I h g,Qu I t f]
theorem Oo{a:List (Addr×Obj)}{j:L2.St}{H:Hp}{s:Am}(I:Inv X a j H s){A:Cn}{x:V}{d:Ad}{u:Value}(c:RdV X.K H x d)(b:RelV x u):∀{xs:List V} {g:List Ad} {us:List Value},RdVs X.K H xs g->Fs xs us->A.units+Bk g<cLine->∀v∈us,Nw A s v u (Mm X.K H d v)
 | _,_,_,.nil,r,_=>λv hv=>by cases r; cases hv
 | _,_,_,@RdVs.cons _ _ y e ys es h t,r,hu=>λv hv=>by
  have i:A.units+e.depth<cLine/\A.units+Bk es<cLine:=by
   simp only[Bk] at hu
   omega
  cases r with
  | cons f k =>
   rcases Ao.mp hv with rfl | hv
   ·rw[bZ I h f]; exact zV I h c f b i.1
   ·exact Oo I c b t k i.2 v hv
def CC(K:PySem.W.Frag)(neg:Bool):R2:=λx y H Q=>∃p b d a,y=.ref p/\(Kv K H p b\/Ve K H p b)/\RdV K H x d/\RdVs K H b a/\Bk a<=60/\Q (.bl (if neg then !(a.any λe=>Dw e d) else a.any λe=>Dw e d)) H
theorem CA(o:X.A.units+64<cLine):Wk X (Hh .In) (CC X.K false):=by
 intro j s t H x y v u Q I g m h
 obtain ⟨p,z,d,l,rfl,hq,i,c,n,q⟩:=h
 cases m
 have b:X.A.in1.units+Bk l<cLine:=by have:=Uu X.A; omega
 rcases hq with hq | hq
 ·obtain ⟨a,r,e,k⟩:=I.list hq
  refine SeqAt.in_listAt (Mm X.K H d) e.isList (λw f=>Oo I i g c r b w (by simpa using f)) ⟨.bl _,H,I,rfl,?_⟩
  rw[show a.toArray.any (Mm X.K H d)=a.any (Mm X.K H d) by simp,Qu I c r]
  exact q
 ·obtain ⟨a,r,e,k⟩:=I.tuple hq
  refine SeqAt.in_tupleAt (Mm X.K H d) e (λw f=>Oo I i g c r b w (by simpa using f)) ⟨.bl _,H,I,rfl,?_⟩
  rw[show a.toArray.any (Mm X.K H d)=a.any (Mm X.K H d) by simp,Qu I c r]
  exact q
theorem xK(o:X.A.units+64<cLine):Wk X (Hh .NotIn) (CC X.K true):=by
 intro j s t H x y v u Q I g m h
 obtain ⟨p,z,d,l,rfl,hq,i,c,n,q⟩:=h
 cases m
 have b:X.A.in1.units+Bk l<cLine:=by have:=Uu X.A; omega
 rcases hq with hq | hq
 ·obtain ⟨a,r,e,k⟩:=I.list hq
  refine SeqAt.notIn_listAt (Mm X.K H d) e.isList (λw f=>Oo I i g c r b w (by simpa using f)) ⟨.bl _,H,I,rfl,?_⟩
  rw[show a.toArray.any (Mm X.K H d)=a.any (Mm X.K H d) by simp,Qu I c r]
  exact q
 ·obtain ⟨a,r,e,k⟩:=I.tuple hq
  refine SeqAt.notIn_tupleAt (Mm X.K H d) e (λw f=>Oo I i g c r b w (by simpa using f)) ⟨.bl _,H,I,rfl,?_⟩
  rw[show a.toArray.any (Mm X.K H d)=a.any (Mm X.K H d) by simp,Qu I c r]
  exact q
end
def KZ(K:PySem.W.Frag)(a:Addr):It :=
 ⟨λi H=>∃b x,Kv K H a b/\b[i]? = some x,λi H x c=>∃p y,x=.ref p/\H p=none/\c=upd H p (.tup [.int i,y])/\∀b,Kv K H a b->b[i]? = some y,λi H=>∃b,Kv K H a b/\b.length<=i⟩
section
variable{X:Cx}{a:List (Addr×Obj)}{d:L2.St}{H:Hp}{s:Am}{h':Heap}
theorem Og{t':Nat}{fp:List Addr}(I:Inv X a d H s)(k:∀b o,b∉fp->s.heap.get? b=some o->h'.get? b=some o)(h:∀b∈fp,Np X a H b):Inv X a d H { s with heap:=h',toks:=t' }:=by
 have g:∀b u,H b=some u->b∉fp:=λb u e z=>by rw[(h b z).1] at e; cases e
 refine I.step (g':=s.gens) (d':=s.drawn) (ch:=fp) (λb j=>?_) (λb o _ _ f e _=>k b o f e) (λb o _ _ f e _=>⟨o.slots,k b o f e⟩) (λ_ _ _ _ n=>n)
  (λb o f e=>⟨o,k b o f e⟩) (λ_ _ e=>e) (λ_ _ _ e=>e) (λb B e=>⟨#[],by rw[e]; simp⟩) (λm w=>?_) (λb u e=>?_) I.bare
 ·obtain ⟨_,x,_,A,i,l⟩:=h b j
  exact ⟨A,x,i,l⟩
 ·obtain ⟨o,t,p,y,r⟩:=w
  exact ⟨o,t,p,k _ o (λz=>(h _ z).2.1 rfl) y,r⟩
 ·refine (I.hok b u e).stay (λc v f q=>k c v ?_ q) (λ_ q=>q) λ_ _ q=>q
  rcases f with z | z
  ·rw[z]; exact g b u e
  ·exact g c _ z
end
theorem wZ{P:Bp}{w:World}{K:PySem.W.Frag}{t:List Expr}{k:Nat}{pos:Pos}(a e it:Addr)(U:e≠it):Turn P w K (.Tuple t k pos) (KZ K a) [e,it] e (λi h=>(∃g,IsEnum h e it ((i:Nat):Int) g)/\h.IsListIter it a i) where
 mem:=Aa
 obj:=λi h st b f=>by
  obtain ⟨⟨g,j⟩,o,e1,c,d⟩:=st
  rcases Ao.mp f with z | z
  ·subst z
   exact ⟨_,j,λv z=>by cases z⟩
  ·rw[Ak.mp z]
   exact ⟨o,e1,λv z=>by rw[d] at z; cases z⟩
 keep:=λi h h' st kp=>⟨let ⟨g,j⟩:=st.1; ⟨g,kp e Aa _ j⟩,st.2.at λo q=>kp it (Ae _ Aa) o q⟩
 item:=by
  intro X J Q N V i n s S H E I C st M
  subst J Q N
  obtain ⟨Z,x,B,D⟩:=M
  obtain ⟨F,R,p,hz⟩:=I.list B
  obtain ⟨u,hu,ru⟩:=R.get D
  obtain ⟨⟨g,j⟩,l⟩:=st
  have el:e<s.heap.objs.size:=Bb j
  have il:it<s.heap.objs.size:=by obtain ⟨_,q,_⟩:=l; exact Bb q
  refine wpAny_pyNext_enum_item j l p.isList (x:=u) (by simpa using hu) U λY ho A hT h0 hk=>⟨_,rfl,wpAny_letOwnedTupleGo_enum ho λT G L=>?_⟩
  have m:Gk e Y T:=L
  -- the pair laid,then the iterators turned
  have I1:Inv X n S (upd H s.heap.objs.size (.tup [.int i,x])) { s with heap:=s.heap.push { cls:=.type "tuple",data:=.seq #[.int i s.toks,u] } } :=
   I.laid (t':=s.toks) (λb o q=>Ai _ q) (Ar _) ⟨by show 2<=Az; decide,[.int i s.toks,u],.cons ⟨_,rfl⟩ (.cons ru .nil),_,Be _ rfl,rfl,0,rfl⟩
  have nT:∀b∈[e,it],b≠s.heap.objs.size:=λb f=>by
   rcases Ao.mp f with z | z
   ·rw[z]; exact By el
   ·rw[Ak.mp z]; exact By il
  have fr:∀b∈[e,it],(upd H s.heap.objs.size (.tup [.int i,x])) b=none:=λb f=>by rw[Cp (nT b f)]; exact (C b f).1
  refine ⟨.ref s.heap.objs.size,_,Og (fp:=[e,it]) (s:={ s with heap:=s.heap.push { cls:=.type "tuple",data:=.seq #[.int i s.toks,u] } }) (h':=T) (t':=s.toks+1) I1 (λb o f q=>?_) (λb f=>⟨fr b f,(C b f).2⟩),rfl,⟨_,x,rfl,I.hok.fresh (Ar _),rfl,λys hy=>by rw[I.list_inj hy B]; exact D⟩,⟨⟨u,?_⟩,?_⟩,fr⟩
  ·have r:b≠e:=λz=>f (by rw[z]; exact Aa)
   have O:b≠it:=λz=>f (by rw[z]; exact Ae _ Aa)
   refine (m.2 b r).trans ?_
   by_cases y:b=s.heap.objs.size
   ·subst y
    have q':=(Be s.heap (o:={ cls:=.type "tuple",data:=.seq #[.int i s.toks,u] }) rfl).symm.trans q
    rw[hT]
    exact q'
   ·refine hk b o r O ?_
    have q0:(s.heap.push { cls:=.type "tuple",data:=.seq #[.int i s.toks,u] }).get? b=some o:=q
    rcases Heap.get?_push_cases q0 with z | z
    ·exact absurd z.1 y
    ·exact z
  ·have : ((i+1:Nat):Int)=(i:Int)+1:=by omega
   rw[this]
   exact G
  ·exact A.at λo q=>(m.2 it (Li U)).trans q
 done:=by
  intro X J Q N V i n s S H E I C st M
  subst J Q N
  obtain ⟨Z,B,D⟩:=M
  obtain ⟨F,R,p,hz⟩:=I.list B
  obtain ⟨⟨g,j⟩,l⟩:=st
  have hl:=R.length
  exact wpAny_pyNext_enum_end (I.ok.hd V) j l p.isList (by simp; omega) λY eb=>⟨rfl,Og (fp:=[e,it]) (t':=s.toks) I (λb o f q=>eb b o (λz=>f (by rw[z]; exact Ae _ Aa)) q) C⟩
 self:=λ_ _ _ _ _ st h=>let ⟨_,j⟩:=st.1; wpAny_pyIter_enum j h
section
variable{X:Cx}
def IS(K:PySem.W.Frag)(ta:TA):TI:=λc H R=>ta c H λvs b=>∃a,vs=[.ref a]/\(∃d,Kv K b a d)/\R (KZ K a) b
theorem O4(A:Gl X "enumerate")(D:X.mg "enumerate" = none)(y:PA X [a] ta)(E:Bl [a] X.env=[(false,eval a X.env)]:=by rfl):PI X (.Tuple g k B) (.Call (.Name "enumerate" p) [a] [] pos) (IS X.K ta):=by
 intro c s n H R I h
 refine Call_ (Ld I A D (u:=.type "enumerate") (by decide +kernel) (Fk (Il (y pos c s n H _ I h) λL d ⟨vs,j,f,C,x⟩=>?_) E rfl))
 obtain ⟨l,e,⟨O,w⟩,q⟩:=x
 subst e
 obtain ⟨u,rfl,F⟩:=vals1 C
 cases F
 obtain ⟨o,N,G,M⟩:=f.list w
 refine call_enumerate_list G.isList λJ m i r t=>wpAny_pyIter_enum m ?_
 have fr:∀b∈[d.heap.objs.size+1,d.heap.objs.size],Np X c j b:=λb v=>by
  rcases Ao.mp v with z | z
  ·rw[z]; exact f.fpOk (Wo _) (f.hok.fresh (Wo _))
  ·rw[Ak.mp z]; exact f.fpOk (Ar _) (f.hok.fresh (Ar _))
 exact ⟨d.heap.objs.size+1,[d.heap.objs.size+1,d.heap.objs.size],_,_,j,rfl,f.kept (t':=d.toks) t,wZ l _ _ (Nat.succ_ne_self _),⟨⟨_,m⟩,i⟩,fr,q⟩
end
def rO(Bd:V->Hp->L2.St->Prop)(J:It)(k:List Nat)(p:TT)(o:TE)(h:L2.St)(j:Hp)(Q:VK):Prop:=∀D,j D=none->∃W:Nat->Nat->Hp->Prop,(∃m,W 0 m (upd j D (.lst [])))/\∀i m H,W i m H ->
 (J.stop i H/\Q (.ref D) H)\/(J.go i H/\∀x g,J.yld i H x g->∃f,Bd x g f/\∃(n:Hp->Prop) (l:VK),(∀b,n b->∃d,d<m/\W (i+1) d b) /\
  (∀y e,l y e->∃a,e D=some (.lst a)/\a.length<Az/\∃d,d<m/\W (i+1) d (upd e D (.lst (a++[y])))) /\
  p (f++Io h k) g λc b=>if c=true then o (f++Io h k) b l else n b)
section
variable{X:Cx}{d:List (Addr×Obj)}{j:L2.St}{H:Hp}{s:Am}{B f L:Expr}{l:List Expr}{a:Scope}{E:List (Str×Addr)}{x:Str}{ys:List Str}{k:List Nat}{G:TT}{F:TE}
theorem Ut(C:CompScope X a E x ys k)(hc:X.calm=true)(ht:∀fp s H,iR (Ed X a E (pre++ys) fp s H) l G)(he:∀fp s H,PE (Ed X a E (pre++ys) fp s H) B F)(hg:∀fp s H,PG (Ed X a E (pre++ys) fp s H) L g)(hb:∀(o ws:L2.St) (y:V) (H:Hp),o.length=pre.length->Bd y H ws->ws.length=pre.length/\g y (o++Io j k) H λQ H'=>Q=ws++Io j k/\H'=H)(hs:∀x,Cz f X.env x=pure x)(hR:∀J H1,R J H1->rO Bd J k G F j H1 Qc)(hi:wpAny (model X.prog X.w) X.A (eval f X.env) (λv s1=>wpAny (model X.prog X.w) X.A (pyIter v) (LK X d j L R) X.xe s1) X.xe s)(h9:∀(N:Cx) (h s7:Am) (H3 U:Hp) (fp:List Addr) (D:Addr) (Q:L2.St),Ed X a E (pre++ys) fp h H3=N->Inv X d j H3 h->(∀b∈fp,Np X d H3 b)->Inv N [] Q U s7->Qc (.ref D) U->compPost (model X.prog X.w) X.A X.xe use Qf (.ref D) h.heap.objs.size (.ok .next) s7):wpAny (model X.prog X.w) X.A (comprehension (.ListComp B [⟨L,f,l,0⟩] a pos) a X.env p2 (newList []) false (eval f X.env) use) Qf X.xe s:=by
 refine wpAny_comprehension_free (use:=use) rfl hs C.clos C.kind C.locs (Il hi λv s1 h1=>Il h1 λx0 p h2=>?_)
 obtain ⟨it,fp,tn,J,H2,e,I2,T,j6,f2,q2⟩:=h2
 subst e
 have fD:H2 p.heap.objs.size=none:=I2.hok.fresh (Ar _)
 obtain ⟨W,⟨m0,w0⟩,h0⟩:=hR _ _ q2 p.heap.objs.size fD
 refine Ek ?_
 have I3:Inv X d j (upd H2 p.heap.objs.size (.lst [])) { p with heap:=p.heap.push { cls:=.type "list",dict:=none,data:=.seq ([]:List Value).toArray } } :=
  I2.laid (t':=p.toks) (λb u q=>Ai _ q) (Ar _) ⟨Dg _,[],0,.nil,Be _ rfl⟩
 obtain ⟨f3,h3,j4⟩:=n6 I2 T j6 f2 I3
 generalize k1:({ p with heap:=p.heap.push { cls:=.type "list",dict:=none,data:=.seq ([]:List Value).toArray } }:Am)=h at I3
 have zE:tn 0 h.heap:=by rw[<- k1]; exact h3
 have o3:∀b∈fp,∃o,h.heap.get? b=some o:=by rw[<- k1]; exact j4
 show wpAny _ _ (newFunctionEnv a X.env.globals E [] X.env.qual none .none (some X.env)) _ _ _
 refine yD C λh4 k4 I k6=>?_
 have I4:∀tk,Inv (Ed X a E (pre++ys) fp h (upd H2 p.heap.objs.size (.lst []))) [] (pre.map (λ_=>none)++Io j k) (upd H2 p.heap.objs.size (.lst [])) { h with heap:=h4,toks:=tk }:=λtk=>pG (pre:=pre) C I3 f3 o3 k4 I k6
 have k0:tn 0 h4:=T.keep 0 _ _ zE λb hb o q=>I b o q
 generalize M:Ed X a E (pre++ys) fp h (upd H2 p.heap.objs.size (.lst []))=N at I4
 obtain ⟨eP,eW,eK,eA,eC⟩:=L4 hc M
 have t:∀{H':Hp},(∀b∈fp,H' b=none)->∀b∈fp,Np N [] H' b:=λ{H'} hn=>xN M (I4 0) hn
 have O:∀s5:Am,s5={ h with heap:=h4,toks:=h.toks+([]:List (Str×Value)).length } ->
   Qz (model X.prog X.w) X.A (.compLoop (.ListComp B [⟨L,f,l,0⟩] a pos) 0 (.ref it) (.ref p.heap.objs.size) (compEnvC a (Fm (h.heap.objs.size+1) a.names E) h.heap.objs.size X.env))
    (compPost (model X.prog X.w) X.A X.xe use Qf (.ref p.heap.objs.size) h.heap.objs.size) s5:=by
  rintro s5 rfl
  refine pD (λn s'=>∃(i:Nat) (o:L2.St) (H':Hp),o.length=pre.length/\Inv N [] (o++Io j k) H' s'/\tn i s'.heap/\(∀b∈fp,H' b=none)/\W i n H') ?_ m0
   ⟨0,_,_,Ac ..,I4 _,k0,λb hb=>(f3 b hb).1,w0⟩
  (intro n s6 q_; obtain ⟨i,o,U,lo,I6,k7,k3,w6⟩ := q_)
  rcases h0 i n U w6 with ⟨k5,qn⟩ | ⟨go,step⟩
  ·have hd:=T.done N eP eW eK eC i [] s6 _ U (λ_ _=>False) I6 (t k3) k7 k5
   rw[eA] at hd
   refine Il hd λr s7 c => ?_
   obtain ⟨hr,I7⟩ := c
   subst hr
   exact h9 _ _ _ _ _ _ _ _ M I3 f3 I7 qn
  ·have h8:=T.item N eP eW eK eC i [] s6 _ U (λ_ _=>False) I6 (t k3) k7 go
   rw[eA] at h8
   refine Il h8 λr s7 c => ?_
   obtain ⟨u,hr,h7⟩ := c
   subst hr
   refine Il h7 λ_ s8 c => ?_
   obtain ⟨y,H8,I8,r8,y8,P,j7⟩ := c
   have j0:=I8.pinned (t j7) (T.obj _ _ P)
   obtain ⟨ws,q1,N1,N2,q4,q0,k8⟩:=step y H8 y8
   obtain ⟨lw,q3⟩:=hb o ws y H8 lo q1
   have again:∀{H9:Hp} {Y:Am} {S:Nat},Inv N ([]++dM fp s8.heap) (ws++Io j k) H9 Y->S<n->W (i+1) S H9->∃m,m<n/\∃(i:Nat) (o:L2.St) (H':Hp),o.length=pre.length/\Inv N [] (o++Io j k) H' Y/\tn i Y.heap/\(∀b∈fp,H' b=none)/\W i m H':=λ{H9 Y S} I9 Z w9=>by
    refine ⟨S,Z,i+1,ws,H9,lw,I9.unpinned,T.keep _ _ _ P λb hb o e=>(I9.pin (b,o) (Aw _ (Aw _ (Rk hb e)))).1,λb hb=>?_,w9⟩
    obtain ⟨o,e,_⟩:=T.obj _ _ P b hb
    exact (I9.pin (b,o) (Aw _ (Aw _ (Rk hb e)))).2.1
   subst M
   refine Il (hg _ _ _ _ s8 _ H8 y u _ j0 r8 q3) λ_ Y c => ?_
   obtain ⟨x1,H9,I9,e9,q9⟩ := c
   subst e9 q9
   refine Il (ht fp h _ _ Y _ _ _ I9 k8) λok j3 c => ?_
   obtain ⟨x2,k2,K⟩ := c
   cases ok with
   | false =>
    rw[if_neg Cr] at K ⊢
    obtain ⟨S,Z,j5⟩:=q4 _ K
    exact again k2 Z j5
   | true =>
    rw[if_pos rfl] at K ⊢
    refine Il (he fp h _ _ j3 _ _ _ k2 K) λz q6 c => ?_
    obtain ⟨vz,h5,j1,k9,q8⟩ := c
    obtain ⟨h6,ha,hz,S,Z,q7⟩:=q0 _ _ q8
    refine Il (Us _ q6 _ h5 (.ref p.heap.objs.size) [vz] (.ref p.heap.objs.size) [z] (λ_ H'=>H'=upd h5 p.heap.objs.size (.lst (h6++[vz]))) j1 rfl (.cons k9 .nil) ⟨_,h6,vz,rfl,rfl,ha,hz,rfl⟩) λ_ j8 c => ?_
    obtain ⟨_,j9,q5,_,j2⟩ := c
    subst j2
    exact again q5 Z q7
 exact codeAny_compStart_list (O _ rfl) (T.self X.A 0 _ _ _ k0 (O _ rfl))
theorem nW(m:Cx)(h n:Am)(g k:Hp)(fp:List Addr)(D:Addr)(f:L2.St)(l:Ed X a E N fp h g=m)(t:Inv X d j g h)(p:∀b∈fp,Np X d g b)(s:Inv m [] f k n)(q:Q (.ref D) k):compPost (model X.prog X.w) X.A X.xe none (EP X d j Q) (.ref D) h.heap.objs.size (.ok .next) n:=by
 obtain ⟨r,i,c⟩:=rV l t p s
 exact ⟨r,i,λo e=>⟨.ref D,k,c o e,rfl,q⟩⟩
theorem lK(hN:X.N.Nodup)(C:X.N[i0]? = some t)(r:X.env.scope.names.lookup t=some .local)(Q:Cx)(c s:Am)(y h:Hp)(fp:List Addr)(D:Addr)(g:L2.St)(L:Ed X a E N fp c y=Q)(S:Inv X d j y c)(f3:∀b∈fp,Np X d y b)(I7:Inv Q [] g h s)(qn:U.nx (j.set i0 (some (.ref D))) h):compPost (model X.prog X.w) X.A X.xe (some (Sj (.Name t R) X.env)) (λ_ s'=>SP X d U .next s') (.ref D) c.heap.objs.size (.ok .next) s:=by
 obtain ⟨⟨Y,f⟩,l,T⟩:=xF L S f3 I7
 have u:Np X d h c.heap.objs.size:=S.fpOk (Ar _) l
 obtain ⟨H,h1,Z,n,W⟩:=id f
 have J8:Inv X (d++[(c.heap.objs.size,H)]) j h s:=T.pins_of λp F=>by
  rcases Bf.mp F with z | z
  ·have q:=T.pin p (Aw _ z)
   exact q
  ·rw[Ak.mp z]
   exact ⟨n,l,u.2.1,u.2.2.1,λv M=>by rw[W.1] at M; cases M⟩
 refine Il (Rm (X:=X) (i:=i0) (x:=t) (pos:=R) hN C (.inl r) (.inr r) (d++[(c.heap.objs.size,H)]) s j h (.ref D) (.ref D) (λg H'=>g=j.set i0 (some (.ref D))/\H'=h) J8 rfl ⟨rfl,rfl⟩) λ_ P K => ?_
 obtain ⟨h0,O,B,e9,I⟩ := K
 subst e9 I
 have k:=(B.pin (c.heap.objs.size,H) (Aw _ (Aw _ Aa))).1
 have J:Inv X d (j.set i0 (some (.ref D))) O P:=B.pins_of λp F=>B.pin p (Aw _ (Ap _ F))
 refine ⟨Y,f.at λo e=>by rw[n] at e; cases e; exact k,λV m=>?_⟩
 exact ⟨_,O,Og (t':=P.toks) (fp:=[c.heap.objs.size]) J (λb o G e=>(m.2 b (λz=>G (by rw[z]; exact Aa))).trans e) (λb G=>by rw[Ak.mp G]; exact u),qn⟩
def b1:V->Hp->L2.St->Prop:=λx _ a=>a=[some x]
def b2(K:PySem.W.Frag):V->Hp->L2.St->Prop:=λx H c=>∃(t:Addr) (a b:V),x=.ref t/\Ve K H t [a,b]/\c=[some a,some b]
theorem Y7{J:It}{a:Hp}{Q:VK}(q:Z1 J k G F j a Q):rO b1 J k G F j a Q:=λD b=>by
 obtain ⟨W,d,t⟩:=q D b
 exact ⟨W,d,λi m H w=>(t i m H w).imp id λ⟨c,st⟩=>⟨c,λx e y=>⟨_,rfl,st x e y⟩⟩⟩
def D0(K:PySem.W.Frag)(J:It)(k:List Nat)(G:TT)(F:TE)(j:L2.St)(l:Hp)(Q:VK):Prop:=∀D,l D=none->∃W:Nat->Nat->Hp->Prop,(∃m,W 0 m (upd l D (.lst [])))/\∀i m H,W i m H ->
 (J.stop i H/\Q (.ref D) H)\/(J.go i H/\∀x h,J.yld i H x h->∃(t:Addr) (g e:V),x=.ref t/\Ve K h t [g,e]/\∃(o:Hp->Prop) (n:VK),(∀b,o b->∃d,d<m/\W (i+1) d b) /\
  (∀y f,n y f->∃a,f D=some (.lst a)/\a.length<Az/\∃d,d<m/\W (i+1) d (upd f D (.lst (a++[y])))) /\
  G (some g::some e::Io j k) h λc b=>if c=true then F (some g::some e::Io j k) b n else o b)
def qO(K:PySem.W.Frag)(a:TI)(k:List Nat)(G:TT)(F:TE):TE:=λj H Q=>a j H λJ b=>D0 K J k G F j b Q
theorem BC{J:It}{a:Hp}{Q:VK}(q:D0 X.K J k G F j a Q):rO (b2 X.K) J k G F j a Q:=λD b=>by
 obtain ⟨W,f,t⟩:=q D b
 refine ⟨W,f,λi m H w=>(t i m H w).imp id λ⟨c,st⟩=>⟨c,λx h y=>?_⟩⟩
 obtain ⟨t,g,d,e,q,r⟩:=st x h y
 exact ⟨_,⟨t,g,d,e,q,rfl⟩,r⟩
theorem BG(o ws:L2.St)(y:V)(H:Hp)(lo:o.length=1)(h:b1 y H ws):ws.length=1/\Se 0 y (o++Io j k) H λa H'=>a=ws++Io j k/\H'=H:=by
 unfold b1 at h
 subst h
 match o,lo with
 | [_],_=>exact ⟨rfl,rfl,rfl⟩
theorem AB(o ws:L2.St)(y:V)(H:Hp)(lo:o.length=2)(h:b2 X.K y H ws):ws.length=2/\FN X.K 2 (nH (Se 0) (nH (Se 1) DK)) y (o++Io j k) H λa H'=>a=ws++Io j k/\H'=H:=by
 obtain ⟨t,c,b,e,q,rfl⟩:=h
 match o,lo with
 | [_,_],_=>exact ⟨rfl,t,[c,b],e,q,rfl,_,_,rfl,_,_,rfl,rfl,rfl,rfl⟩
theorem g2(C:CompScope X a E x ys k)(b:iS a c)(d:(x::c::ys).Nodup)(f:X.calm=true)(fp:List Addr)(s:Am)(H:Hp):PG (Ed X a E (x::c::ys) fp s H) (.Tuple [.Name x h,.Name c e] g pt) (FN X.K 2 (nH (Se 0) (nH (Se 1) DK))) :=
 zX (X:=Ed X a E (x::c::ys) fp s H) f (bV (Rm (i:=0) (x:=x) d rfl (aK C.own) (jE C.own)) (bV (Rm (i:=1) (x:=c) d rfl (aK b) (jE b)) uT))
theorem iI(C:CompScope X a E x ys k)(m:X.calm=true)(o:PI X (.Name x b) f c)(n:∀fp s H,iR (Ed X a E (x::ys) fp s H) l G)(e:∀fp s H,PE (Ed X a E (x::ys) fp s H) B F)(g:∀x,Cz f X.env x=pure x:=by intro _; rfl):PE X (.ListComp B [⟨.Name x b,f,l,0⟩] a pos) (tE c k G F):=by
 intro d s j H Q I h
 rw[eval_ListComp]
 exact Ut (pre:=[x]) C m n e (λ_ _ _=>Rm (i:=0) C.nd rfl (aK C.own) (jE C.own)) BG g (λ_ _=>Y7) (o d s j H _ I h) nW
theorem J2(C:CompScope X a E x ys k)(c:iS a b)(g:(x::b::ys).Nodup)(i:X.calm=true)(t:PI X (.Tuple [.Name x n,.Name b e] m pt) f o)(r:∀fp s H,iR (Ed X a E (x::b::ys) fp s H) l G)(p:∀fp s H,PE (Ed X a E (x::b::ys) fp s H) B F)(q:∀x,Cz f X.env x=pure x:=by intro _; rfl):PE X (.ListComp B [⟨.Tuple [.Name x n,.Name b e] m pt,f,l,0⟩] a pos) (qO X.K o k G F):=by
 intro d s j H Q I h
 rw[eval_ListComp]
 exact Ut (pre:=[x,b]) C i r p (g2 C c g i) AB q (λ_ _=>BC) (t d s j H _ I h) nW
theorem sR{c:Str}{p n pos b:Pos}{i0:Nat}{r:TI}(z:X.N.Nodup)(o:X.N[i0]? = some c)(g:X.env.scope.names.lookup c=some .local)(C:CompScope X a E x ys k)(w:X.calm=true)(A:PI X (.Name x p) f r)(y:∀fp s H,iR (Ed X a E (x::ys) fp s H) l G)(t:∀fp s H,PE (Ed X a E (x::ys) fp s H) B F)(u:∀x,Cz f X.env x=pure x:=by intro _; rfl)(q:Hg (.ListComp B [⟨(.Name x p),f,l,0⟩] a pos) (some (.Name c n)) b.line X.env=pure true:=by rfl):PS X (.Assign [.Name c n] (.ListComp B [⟨(.Name x p),f,l,0⟩] a pos) b) (F8 (tE r k G F) (Se i0)):=by
 intro d s j H J I h
 rw[exec_Assign_Name_used _ _ _ _ q]
 refine Ab (Uv (Ab ?_))
 exact Ab (m:=comprehension _ a X.env _ (newList []) false (eval f X.env) (some (Sj (.Name c n) X.env))) (Eo (Ut (pre:=[x]) C w y t (λ_ _ _=>Rm (i:=0) C.nd rfl (aK C.own) (jE C.own)) BG (hR:=λ_ _=>Y7) u (A d s j H _ I h) (lK z o g)) (λ_ D v=>An (An v)) λ_ _ e=>e)
theorem lH{c i:Str}{v g pt t pos b:Pos}{q i0:Nat}{w:TI}(A:X.N.Nodup)(o:X.N[i0]? = some i)(u:X.env.scope.names.lookup i=some .local)(C:CompScope X a E x ys k)(n:iS a c)(p:(x::c::ys).Nodup)(y:X.calm=true)(L:PI X (.Tuple [.Name x v,.Name c g] q pt) f w)(J:∀fp s H,iR (Ed X a E (x::c::ys) fp s H) l G)(D:∀fp s H,PE (Ed X a E (x::c::ys) fp s H) B F)(M:∀x,Cz f X.env x=pure x:=by intro _; rfl)(r:Hg (.ListComp B [⟨(.Tuple [.Name x v,.Name c g] q pt),f,l,0⟩] a pos) (some (.Name i t)) b.line X.env=pure true:=by rfl):PS X (.Assign [.Name i t] (.ListComp B [⟨(.Tuple [.Name x v,.Name c g] q pt),f,l,0⟩] a pos) b) (F8 (qO X.K w k G F) (Se i0)):=by
 intro d s j H P I h
 rw[exec_Assign_Name_used _ _ _ _ r]
 refine Ab (Uv (Ab ?_))
 exact Ab (m:=comprehension _ a X.env _ (newList []) false (eval f X.env) (some (Sj (.Name i t) X.env))) (Eo (Ut (pre:=[x,c]) C y J D (g2 C n p y) AB (hR:=λ_ _=>BC) M (L d s j H _ I h) (lK A o u)) (λ_ O z=>An (An z)) λ_ _ e=>e)
end
end Nd
namespace Nd
open PySem L2
def BB(K:PySem.W.Frag):R2:=λx y H Q=>∃a b d c,x=.ref a/\y=.ref b/\Ve K H a d/\Ve K H b c/\d.length+c.length<=Az/\(d=[]->Q (.ref b) H)/\(c=[]->Q (.ref a) H)/\(∀p,H p=none->Q (.ref p) (upd H p (.tup (d++c))))
open PyProof.Rows in
theorem X1:Wk X (Iw .Add) (BB X.K):=by
 intro c s z H x y v u Q I p o h
 obtain ⟨a,b,t,D,rfl,rfl,n,l,N,C,B,L⟩:=h
 by_cases e:t=[]
 ·cases p
  cases o
  obtain ⟨f,J,A,_⟩:=I.tuple n
  obtain ⟨k,U,G,_⟩:=I.tuple l
  have d:f=[]:=J.nil_iff.mpr e
  subst d
  obtain ⟨⟨S,R,O,i⟩,r,q,P,d⟩:=id A
  obtain ⟨⟨T,M,w,g⟩,g2,j,E,m⟩:=id G
  simp only at q d j m
  subst q d j m
  exact concat_meets ⟨_,r,rfl⟩ ⟨_,g2,rfl⟩ kW seq_tuple_add PySem.F.slot_tuple_add PySem.F.entry_tuple_add (PySem.F.args_tuple_add_2 _ _)
   (tuple_addW0 a b _ _ P E R M i g rfl) ⟨r,g2,⟨.ref b,H,I,rfl,C e⟩⟩
 ·exact U3 c s z H (.ref a) (.ref b) v u Q I p o ⟨a,b,t,D,rfl,rfl,n,l,e,N,B,λ_=>L⟩
end Nd
namespace Nd
open PySem PySem.Spec PyProof.Rows L2
end Nd
namespace Nd
open PySem L2
def NA(K:PySem.W.Frag):List V->Hp->VK->Prop:=λa H Q=>∃x n t b,a=[x,.ty n]/\TyOf K H x t/\PySem.W.kitOne K t (.type n)=some b/\Q (.bl b) H
theorem qV:Pe X (.builtin "isinstance") (NA X.K):=mQ
theorem ER:PySem.W.kitOne K (.type T) (.type T)=some true:=by
 unfold PySem.W.kitOne
 rw[if_pos (by simp)]
theorem sz(h:n<=1000:=by first | decide | simp | (simp; omega)):n<=Az:=La (xU h)
end Nd
namespace DL
open PySem PySem.Spec PyProof.Rows L2 Nd
def FP(a:Scope)(x:Str)(ys:List Str):Bool:=a.names.all (λy=>decide (y.2≠.cell)) && decide (a.kind=.function) && a.names.all (λy=>decide (y.2=.local->a.names.lookup y.1=some .local)) &&
 decide (a.names.lookup x=some .local) && decide (x::ys).Nodup && ys.all (λy=>decide (a.names.lookup y=some .free)) && a.names.all (λy=>decide (y.2=.free->y.1∈ys))
section
variable{X:Cx}{b:Scope}{x:Str}
theorem uW:∀{ys:List Str} {as:List Addr} {f:Str->Option Addr},ys.map f=as.map some->∀p∈ys.zip as,f p.1=some p.2
 | [],_,_,_=>λp h=>by simp at h
 | y::ys,[],_,h=>λp q=>by simp at q
 | y::ys,a::as,f,h=>λp q=>by
  rw[Ax,Ax,List.cons.injEq] at h
  rw[Ht] at q
  rcases Ao.mp q with rfl | q
  ·exact h.1
  ·exact uW h.2 p q
theorem vE:∀{l:List (Str×Addr)} {y:Str},y∈l.map (·.1)->(l.lookup y).isSome=true
 | [],y,h=>by simp at h
 | p::l,y,h=>by
  rw[Ca]
  split
  ·rfl
  ·rename_i a
   rcases Ao.mp h with rfl | h
   ·simp at a
   ·exact vE h
theorem cs(e:f=(ys.zip as).reverse)(h1:Ni b X.env=pure f)(i:FP b x ys=true)(l:ys.map (λy=>X.env.cells.lookup y)=as.map some)(o:d.map (λj=>X.N[j]?)=ys.map some)(r:ys.all (λy=>decide (X.env.kindOf y=some .cell\/X.env.kindOf y=some .free))=true):CompScope X b f x ys d:=by
 unfold FP at i
 simp only[Cd,Fb,decide_eq_true_eq] at i
 obtain ⟨⟨⟨⟨⟨⟨c1,c2⟩,c3⟩,c4⟩,c5⟩,c6⟩,c7⟩:=i
 have q:ys.length=d.length:=by
  have:=congrArg Fi o
  rw[Ac,Ac] at this
  exact this.symm
 have t:ys.length=as.length:=by
  have:=congrArg Fi l
  rwa [Ac,Ac] at this
 refine ⟨h1,.inl c1,c2,c3,.inl c4,λy c h=>?_,List.all_eq_true.mpr λy s=>?_,c5,q,λk y j g p=>⟨?_,c6 y (Au g),?_⟩⟩
 ·have m:=Mw h
  rw[e] at m
  exact uW l _ (dW.mp m)
 ·by_cases n:y.2=.free
  ·have : (f.lookup y.1).isSome=true:=by
    refine vE ?_
    rw[e,List.map_reverse,List.mem_reverse,List.map_fst_zip (by omega)]
    exact c7 y s n
   rw[this,Bool.or_true]
  ·have : (y.2 == Em)=false:=by simpa using n
   rw[this]; rfl
 ·have a:(d.map (λj=>X.N[j]?))[k]? = some (X.N[j]?):=by rw[Aq,p]; rfl
  rw[o,Aq,g] at a
  exact (Bo a).symm
 ·have:=Fb.mp r y (Au g)
  exact of_decide_eq_true this
theorem AW(h1:Ni b X.env=pure [])(a:FP b x []=true):CompScope X b [] x [] []:=cs (as:=[]) rfl h1 a rfl rfl rfl
theorem sX(a:Str)(j0:Nat)(h1:Ni b X.env=pure [(a,c)])(d:FP b x [a]=true)(e:[a].map (λy=>X.env.cells.lookup y)=[some c])(g:[j0].map (λj=>X.N[j]?)=[some a])(f:[a].all (λy=>decide (X.env.kindOf y=some .cell\/X.env.kindOf y=some .free))=true):CompScope X b [(a,c)] x [a] [j0]:=cs (as:=[c]) rfl h1 d e g f
theorem IM(a a1:Str)(j0 e:Nat)(h1:Ni b X.env=pure [(a1,c),(a,d)])(f:FP b x [a,a1]=true)(g:[a,a1].map (λy=>X.env.cells.lookup y)=[some d,some c])(i:[j0,e].map (λj=>X.N[j]?)=[some a,some a1])(h:[a,a1].all (λy=>decide (X.env.kindOf y=some .cell\/X.env.kindOf y=some .free))=true):CompScope X b [(a1,c),(a,d)] x [a,a1] [j0,e]:=cs (as:=[d,c]) rfl h1 f g i h
theorem GH(a a1 a2:Str)(j0 f g:Nat)(h1:Ni b X.env=pure [(a2,c),(a1,d),(a,e)])(h:FP b x [a,a1,a2]=true)(i:[a,a1,a2].map (λy=>X.env.cells.lookup y)=[some e,some d,some c])(l:[j0,f,g].map (λj=>X.N[j]?)=[some a,some a1,some a2])(k:[a,a1,a2].all (λy=>decide (X.env.kindOf y=some .cell\/X.env.kindOf y=some .free))=true):CompScope X b [(a2,c),(a1,d),(a,e)] x [a,a1,a2] [j0,f,g]:=cs (as:=[e,d,c]) rfl h1 h i l k
theorem ME(a a1 a2 a3:Str)(j0 h i g:Nat)(h1:Ni b X.env=pure [(a3,e),(a2,c),(a1,d),(a,f)])(k:FP b x [a,a1,a2,a3]=true)(l:[a,a1,a2,a3].map (λy=>X.env.cells.lookup y)=[some f,some d,some c,some e])(n:[j0,h,i,g].map (λj=>X.N[j]?)=[some a,some a1,some a2,some a3])(m:[a,a1,a2,a3].all (λy=>decide (X.env.kindOf y=some .cell\/X.env.kindOf y=some .free))=true):CompScope X b [(a3,e),(a2,c),(a1,d),(a,f)] x [a,a1,a2,a3] [j0,h,i,g]:=cs (as:=[f,d,c,e]) rfl h1 k l n m
end
end DL
namespace Nd
open PySem PySem.Spec PyProof.Rows L2
theorem DU{K:PySem.W.Frag}{T n:String}{b:Bool}(h1:(Ij T == Ij n)=false)(c:PySem.W.kitMeta n=true)(a:(fastBuiltinMro T).map (λx=>x.contains (Ij n))=some b):PySem.W.kitOne K (.type T) (.type n)=some b:=by
 unfold PySem.W.kitOne PySem.W.kitCls
 rw[h1,if_neg (by decide)]
 dsimp only
 rw[if_pos c]
 exact a
theorem F6(xs:Array Value):((Bq xs.size).filterMap λ(k:Nat)=>xs[((xs.size:Int) - 1+(k:Int) * (-1)).toNat]?).toArray=xs.toList.reverse.toArray:=by
 congr 1
 have h:∀n,n<=xs.size->((Bq n).filterMap λ(k:Nat)=>xs[((xs.size:Int) - 1+(k:Int) * (-1)).toNat]?)=xs.toList.reverse.take n:=by
  intro n
  induction n with
  | zero=>intro _; simp
  | succ n a =>
   intro b
   rw[List.range_succ,List.filterMap_append,a (by omega)]
   have e:((xs.size:Int) - 1+(n:Int) * (-1)).toNat=xs.size - 1 - n:=by omega
   have lt:n<xs.toList.reverse.length:=by rw[Iy,Ff]; omega
   rw[Kf,Ag lt]
   congr 1
   simp only[Pm,List.filterMap_nil,e]
   rw[kP (by omega),List.getElem_reverse]
   simp
 have:=h xs.size (Ar _)
 rw[this]
 rw[Hi (by rw[Iy,Ff]; exact Ar _)]
section
variable{X:Cx}
theorem mS(xs:Array Value):slicePick xs none none (some (-1))=xs.toList.reverse.toArray:=by
 rw[<- F6]
 unfold slicePick
 congr 1
 have a:sliceRange (Ka none none (some (-1)) xs.size).1 (Ka none none (some (-1)) xs.size).2.1 (Ka none none (some (-1)) xs.size).2.2=(Bq xs.size).map λ(k:Nat)=>((xs.size:Int) - 1+(k:Int) * (-1)).toNat:=by
  show sliceRange ((xs.size:Int) - 1) (-1) (-1)=_
  unfold sliceRange
  have c:(if (-1:Int) > 0 then (if (xs.size:Int) - 1 < -1 then (-1 - ((xs.size:Int) - 1) + -1 - 1) / -1 else 0) else (if (xs.size:Int) - 1 > -1 then ((xs.size:Int) - 1 - -1 - -1 - 1) / (- -1) else 0)).toNat=xs.size:=by
   rw[if_neg (by decide),show (- -1:Int)=1 from rfl,Int.ediv_one]
   split <;> omega
  dsimp only
  rw[c]
  refine Es λk _=>?_
  congr 1
  omega
 rw[a,List.filterMap_map]
 rfl
theorem U8(N:PE X e B)(G:PE X k E)(l:∀f H Q,Q (.int (-1)) H->E f H Q):PE X (.Subscript e (.Slice none none (some k) C) pos) (λf H Q=>B f H λx i=>∃a xs,x=.ref a/\Kv X.K i a xs/\∀p,i p=none->Q (.ref p) (upd i p (.lst xs.reverse))):=by
 intro c s f H Q I h
 refine Sk (Il (N c s f H _ I h) λv S g => ?_)
 obtain ⟨x,i,W,R,a,xs,O,F,q⟩ := g
 subst O
 cases R
 refine wpAny_Slice ?_
 rw[dU]
 refine An (An ?_)
 rw[evalPart_some]
 refine Il (G c S f i (λy n=>y=.int (-1)/\n=i) W (l _ _ _ ⟨rfl,rfl⟩)) λY d g => ?_
 obtain ⟨y,n,U,P,J,L⟩ := g
 subst J
 subst L
 obtain ⟨t,rfl⟩:=P
 have m:Inv X c f n { d with heap:=d.heap.push { cls:=.type "slice",data:=.fields #[.none,.none,.int (-1) t] } }:=U.kept (t':=d.toks) λb M q=>Ai _ q
 obtain ⟨j,r,D,V⟩:=m.list F
 have u:=r.length
 show wpAny (model X.prog X.w) X.A (Ux e (.Slice none none (some k) C) (.ref a) (.ref d.heap.objs.size)) (EP X c f Q) X.xe { d with heap:=d.heap.push { cls:=.type "slice",data:=.fields #[.none,.none,.int (-1) t] } }
 refine tail_any (ops:=[.ref a,.ref d.heap.objs.size]) (T := "list") D.isList.typeIs Uc.lookup (Uw D.isList (Sv ..) .none .none (.int (-1) t) (by simp) ?_ (by rw[Av] <;> omega)) (by with_unfolding_all rfl)
 rw[mS]
 exact ⟨.ref _,_,m.laid (o:=.lst xs.reverse) (t':=d.toks) (λb M q=>Ai _ q) (Ar _) ⟨by rw[Iy]; exact V,j.reverse,0,r.reverse,by
  have z:=Be (d.heap.push { cls:=.type "slice",data:=.fields #[.none,.none,.int (-1) t] }) (o:={ cls:=.type "list",data:=.seq j.toArray.toList.reverse.toArray }) rfl
  simpa using z⟩,rfl,q _ (m.hok.fresh (Ar _))⟩
end
end Nd
namespace NdS
open PySem
def st(m i:Nat):Nat:=(i * 5+1) % m
def it(m:Nat):Nat->Nat->Nat
 | 0,i=>i
 | t+1,i=>it m t (st m i)
def NI(m:Nat):Nat->Nat->List Nat
 | 0,_=>[]
 | f+1,i=>i::NI m f (st m i)
def HN(m:Nat):Prop:=0<m/\it m m 0=0/\∀e,e<m->e∈NI m m 0
def lp(m:Nat):Nat->Nat->Nat->Nat×Nat
 | 0,i,p=>(i,p)
 | t+1,i,p=>lp m t ((i * 5+1+p / 32) % m) (p / 32)
abbrev MK(p:Array Nat):Prop:=p.toList.Pairwise (· < ·)
structure TabOk(n:Nat)(t:SetTable):Prop where
 good:HN (t.mask+1)
 dum:t.dummies=#[]
 plain:t.plain=true
 rise:MK t.place
 Qj:∀j∈t.place.toList,j<=t.mask
 size:t.place.size=n
structure Tab(n:Nat)(t:SetTable):Prop extends TabOk n t where
 room:n * 5<t.mask * 3
abbrev bt(w:World):Bool:=w.params.followText "set-order"
def JI:Int×Value->Int
 | (_,.int k _)=>k
 | _=>0
def GZ(e:Int×Value):Prop:=∃k a,e=(hashInt k,Nv k a)
abbrev keys(es:Array (Int×Value)):List Int:=es.toList.map JI
abbrev DR(es:Array (Int×Value))(a:Nat)(t:SetTable):Obj:={ cls:=.type "set",dict:=none,data:=.set es a t }
structure SetS(w:World)(h:Heap)(a:Addr)(es:Array (Int×Value))(ep:Nat)(t:SetTable):Prop where
 obj:h.get? a=some (DR es ep t)
 ent:∀e∈es.toList,GZ e
 nd:(keys es).Nodup
 tab:Tab es.size t
 led:bt w=false->t.led=true
 few:es.size<64
def ins(k:Int)(l:List Int):List Int:=if k∈l then l else k::l
theorem len_leI:∀{l1 l2:List Int},l1.Nodup->(∀e∈l1,e∈l2)->l1.length<=l2.length
 | [],_,_,_=>Dg _
 | a::l1,l2,nd,h=>by
  have b:=Bw.mp nd
  have c:=h a (Aa ..)
  have:=len_leI (l2:=l2.erase a) b.2 λe d=>(List.mem_erase_of_ne (show e≠a from λz=>b.1 (by rw[<- z]; exact d))).mpr (h e (Ae _ d))
  rw[oW c] at this
  have p:0<l2.length:=sJ c
  rw[Bu]
  omega
end NdS
namespace NdS
open PySem PyProof.Rows
def arrOf(w:World)(a:Addr)(b:Nat)(es:Array (Int×Value)):Array (Int×Value):=if bt w then pickOrder (w.params.setOrder a b) es else es
end NdS
namespace Nd
open PySem PySem.Spec PyProof.Rows L2 NdS
def KJ(w:World)(a:Addr)(ks:List Int)(h:Heap):Prop:=∃b c t,SetS w h a b c t/\∀x,x∈keys b↔x∈ks
abbrev LN(w:World)(a:Addr)(ks:List Int):HO:=.ext (KJ w a ks)
end Nd
namespace Nd
open PySem L2
def Vl(d:Addr)(H H':Hp):Prop:=∀b o,b≠d->H b=some o->H' b=some o
theorem Vl.trans(a:Vl d H f)(b:Vl d f e):Vl d H e:=λc o n h=>b c o n (a c o n h)
theorem Vl.upd:Vl d H (upd H d o):=λb o n h=>by rw[Cp n]; exact h
theorem dZ(h:n<=1000000):n<=Az:=by rw[Fc]; omega
theorem jS(a b:Int)(h:0<b):0<=a % b/\a % b<b:=⟨Int.emod_nonneg _ (by omega),Int.emod_lt_of_pos _ h⟩
def Iz(h:Int)(ns:List Int):Prop:=ns.Pairwise (· < ·)/\∀x∈ns,0<=x/\x<h
theorem Iz.nil(h:Int):Iz h []:=⟨Lc,λx a=>by cases a⟩
theorem Iz.more(r:Iz h ns)(h0:0<=h):Iz (h+1) (ns++[h]) :=
 ⟨Da.mpr ⟨r.1,Mf _ _,λa c b e=>by rw[Ak.mp e]; exact (r.2 a c).2⟩,λx d=>by
  rcases Bf.mp d with z | z
  ·have:=r.2 x z; omega
  ·have:=Ak.mp z; omega⟩
theorem Iz.up(r:Iz h ns)(l:h<=h'):Iz h' ns:=⟨r.1,λx a=>by have:=r.2 x a; omega⟩
def cT(H:Hp)(d:Addr)(c k:Int)(f:Bool):Prop:=H d=some (.lst [.int c,.int k,.bl f])
def zK:Sp:=λvs H Q _=>∃(d:Addr) (c k:Int) (f:Bool),vs=[.ref d]/\cT H d c k f/\0<=k/\k<=1000000/\∀(r b:Int) (a:Hp),cT a d b (k+1) f->Vl d H a->Q (.int r) a
def Bj(ns:List Int):Ad:=.tuple (ns.map Ah)
theorem rF(ns:List Int):(Bj ns).depth<=1:=by
 have : (Bj ns).depth<=Bk (ns.map Ah)+1:=by simp [Bj,Cm]
 rw[qH] at this
 exact this
theorem S7(TD:List Ad):Dw (.list TD) (.list [])=TD.isEmpty:=by cases TD <;> simp [Dw,Mi]
def M3(b:Bool):Str:=if b=true then "back" else "front"
def order{c:Type}(a b:c)(l:List c):Option Bool->List c
 | none=>l
 | some true=>[a,b]
 | some false=>[b,a]
structure TD(K:PySem.W.Frag)(H:Hp)(x:V)(d:Ad)(n m:Nat):Prop where
 rd:RdV K H x d
 fits:Oj 22 d
 nd:Lk d<=n
 dp:d.depth<=m
end Nd
namespace DL
open PySem L2 Nd
def KL(K:PySem.W.Frag)(H:Hp)(a:Addr)(xs:List V):Prop :=
 (∃o,H a=some (.frz o (.lst xs)))\/∃(b:Array Value) (n:Nat),K.lookup a=some { cls:=.type "list",data:=.seq b n }/\b.size<=Az/\Fs xs b.toList
def bI:Nat->Ad
 | 0=>.none
 | n+1=>.tuple [bI n]
def Rg(ks:List (List Int×Ad)):List (Ad×Ad):=(bI 100,.none)::ks.map λp=>(Bj p.1,p.2)
def Zz(ks:List (Int×Ad)):List (Ad×Ad):=(bI 100,.bool true)::ks.map λp=>(.int p.1,p.2)
def T7:List (Ad×Ad)->Bool
 | (_,.none)::_=>true
 | _=>false
def vY:List (Ad×Ad)->Bool
 | (_,.bool _)::_=>true
 | _=>false
def Xn(a:Addr)(ks:List (List Int×Ad)):List (Ad×Ad):=(bI 100,.int a)::ks.map λp=>(Bj p.1,p.2)
def Ky(w:List Int):List Ib:=w.map Sd
mutual
inductive RdF (K:PySem.W.Frag) (H:Hp):V->Ad->List Addr->Prop
 | non:RdF K H .non .none []
 | bl (b:Bool):RdF K H (.bl b) (.bool b) []
 | int (i:Int):RdF K H (.int i) (.int i) []
 | str (x:Str):RdF K H (.str x) (.str x) []
 | lst {a:Addr} {xs:List V} {ds:List Ad} {F:List Addr}:H a=some (.lst xs)->ds.length<=Az->RdFs K H xs ds F->RdF K H (.ref a) (.list ds) (a::F)
 | tup {a:Addr} {xs:List V} {ds:List Ad} {F:List Addr}:H a=some (.tup xs)->ds.length<=Az->RdFs K H xs ds F->RdF K H (.ref a) (.tuple ds) F
 | dic {a:Addr} {kv:List (List Ib×V)} {ks:List (List Int×Ad)}:H a=some (.dT kv)->kv.map (·.1)=ks.map (λp=>Ky p.1)->RdFs K H (kv.map (·.2)) (ks.map (·.2)) []->RdF K H (.ref a) (.dict (Rg ks)) [a]
 | dik {a:Addr} {kv:List (Ib×V)} {ks:List (Int×Ad)}:H a=some (.dK kv)->kv.map (·.1)=ks.map (λp=>(Sd p.1:Ib))->RdFs K H (kv.map (·.2)) (ks.map (·.2)) []->RdF K H (.ref a) (.dict (Zz ks)) [a]
 | dnm {a:Addr} {kv:List (List Ib×V)} {ks:List (List Int×Ad)}:H a=some (.dT kv)->kv.map (·.1)=ks.map (λp=>Ky p.1)->RdFs K H (kv.map (·.2)) (ks.map (·.2)) []->RdF K H (.ref a) (.dict (Xn a ks)) [a]
inductive RdFs (K:PySem.W.Frag) (H:Hp):List V->List Ad->List Addr->Prop
 | nil:RdFs K H [] [] []
 | cons {x:V} {d:Ad} {xs:List V} {ds:List Ad} {F G:List Addr}:RdF K H x d F->RdFs K H xs ds G->RdFs K H (x::xs) (d::ds) (F++G)
end
def LH(o:HO):Prop:=(∃b,o=.tup b)\/∃a u,o=.frz a u
def Kp(F:List Addr)(H H':Hp):Prop:=∀b o,H b=some o->(b∈F\/LH o)->H' b=some o
theorem Kp.of(s:Tf H H'):Kp F H H':=λb o e _=>s b o e
theorem Kp.sub(k:Kp F H H')(h:∀a∈G,a∈F):Kp G H H':=λb o e z=>k b o e (z.imp (h b) id)
section
variable{K:PySem.W.Frag}{H H':Hp}
theorem KL.kp(h:KL K H a xs)(k:Kp F H H'):KL K H' a xs:=by
 rcases h with ⟨o,h⟩ | h
 ·exact .inl ⟨o,k _ _ h (.inr (.inr ⟨_,_,rfl⟩))⟩
 ·exact .inr h
theorem KL.sq(h:KL K H a xs):Kv K H a xs:=by
 rcases h with ⟨o,h⟩ | ⟨b,n,h,c,r⟩
 ·exact .inl (.inr ⟨o,h⟩)
 ·exact .inr ⟨_,b,n,h,rfl,rfl,rfl,c,r⟩
mutual
theorem RdF.kp:∀{v:V} {d:Ad} {F:List Addr},RdF K H v d F->Kp F H H'->RdF K H' v d F
 | _,_,_,.non,_=>.non
 | _,_,_,.bl b,_=>.bl b
 | _,_,_,.int i,_=>.int i
 | _,_,_,.str x,_=>.str x
 | _,_,_,.lst h l hs,k=>.lst (k _ _ h (.inl Aa)) l (RdFs.kp hs (k.sub λ_ z=>Ae _ z))
 | _,_,_,.tup h l hs,k=>.tup (k _ _ h (.inr (.inl ⟨_,rfl⟩))) l (RdFs.kp hs k)
 | _,_,_,.dic h e hs,k=>.dic (k _ _ h (.inl Aa)) e (RdFs.kp hs (k.sub λ_ z=>nomatch z))
 | _,_,_,.dik h e hs,k=>.dik (k _ _ h (.inl Aa)) e (RdFs.kp hs (k.sub λ_ z=>nomatch z))
 | _,_,_,.dnm h e hs,k=>.dnm (k _ _ h (.inl Aa)) e (RdFs.kp hs (k.sub λ_ z=>nomatch z))
theorem RdFs.kp:∀{v:List V} {d:List Ad} {F:List Addr},RdFs K H v d F->Kp F H H'->RdFs K H' v d F
 | _,_,_,.nil,_=>.nil
 | _,_,_,.cons h hs,k=>.cons (RdF.kp h (k.sub λ_ z=>Ap _ z)) (RdFs.kp hs (k.sub λ_ z=>Aw _ z))
end
theorem Pt:∀n,(bI n).depth=n
 | 0=>by simp [bI,Cm]
 | n+1=>by
  have:=Pt n
  simp only[bI,Cm,Bk,this]
  omega
theorem r9:100<=(PyData.dict (Zz ks)).depth:=by
 have:=Pt 100
 simp only[Zz,Cm,PyData.depthKv,this]
 omega
theorem o5:100<=(PyData.dict (Xn a ks)).depth:=by
 have:=Pt 100
 simp only[Xn,Cm,PyData.depthKv,this]
 omega
theorem yK:100<=(PyData.dict (Rg ks)).depth:=by
 have:=Pt 100
 simp only[Rg,Cm,PyData.depthKv,this]
 omega
mutual
theorem RdF.rd:∀{v:V} {d:Ad} {F:List Addr},RdF K H v d F->d.depth<=90->RdV K H v d
 | _,_,_,.non,_=>.non
 | _,_,_,.bl b,_=>.bl b
 | _,_,_,.int i,_=>.int i
 | _,_,_,.str x,_=>.str x
 | _,_,_,.lst h l hs,z=>.lst (Kv.of h) (RdFs.rd hs (by simp only[Cm] at z; omega))
 | _,_,_,.tup h l hs,z=>.tup (Ve.of h) (RdFs.rd hs (by simp only[Cm] at z; omega))
 | _,_,_,.dic h e hs,z=>absurd (Ce yK z) (by decide)
 | _,_,_,.dik h e hs,z=>absurd (Ce r9 z) (by decide)
 | _,_,_,.dnm h e hs,z=>absurd (Ce o5 z) (by decide)
theorem RdFs.rd:∀{v:List V} {d:List Ad} {F:List Addr},RdFs K H v d F->Bk d<=90->RdVs K H v d
 | _,_,_,.nil,_=>.nil
 | _,_,_,.cons h hs,z=>.cons (RdF.rd h (by simp only[Bk] at z; omega)) (RdFs.rd hs (by simp only[Bk] at z; omega))
end
mutual
theorem RdF.dom:∀{v:V} {d:Ad} {F:List Addr},RdF K H v d F->∀a∈F,∃o,H a=some o
 | _,_,_,.non,_,z=>nomatch z
 | _,_,_,.bl b,_,z=>nomatch z
 | _,_,_,.int i,_,z=>nomatch z
 | _,_,_,.str x,_,z=>nomatch z
 | _,_,_,.lst h l hs,b,z=>by
  rcases Ao.mp z with rfl | z
  ·exact ⟨_,h⟩
  ·exact RdFs.dom hs b z
 | _,_,_,.tup h l hs,b,z=>RdFs.dom hs b z
 | _,_,_,.dic h e hs,b,z=>⟨_,Ak.mp z▸h⟩
 | _,_,_,.dik h e hs,b,z=>⟨_,Ak.mp z▸h⟩
 | _,_,_,.dnm h e hs,b,z=>⟨_,Ak.mp z▸h⟩
theorem RdFs.dom:∀{v:List V} {d:List Ad} {F:List Addr},RdFs K H v d F->∀a∈F,∃o,H a=some o
 | _,_,_,.nil,_,z=>nomatch z
 | _,_,_,.cons h hs,b,z=>by
  rcases Bf.mp z with z | z
  ·exact RdF.dom h b z
  ·exact RdFs.dom hs b z
end
theorem RdFs.len:∀{v:List V} {d:List Ad} {F:List Addr},RdFs K H v d F->v.length=d.length
 | _,_,_,.nil=>rfl
 | _,_,_,.cons _ t=>by rw[Bu,Bu,RdFs.len t]
theorem RdFs.get:∀{v:List V} {d:List Ad} {F:List Addr} {i:Nat} {e:Ad},RdFs K H v d F->d[i]? = some e->∃x G,v[i]? = some x/\RdF K H x e G/\G.Sublist F
 | _,_,_,_,_,.nil,z=>by simp at z
 | _,_,_,0,_,.cons h _,z=>by
  simp at z
  subst z
  exact ⟨_,_,rfl,h,List.sublist_append_left _ _⟩
 | _,_,_,i+1,e,.cons _ t,z=>by
  obtain ⟨x,G,b,c,a⟩:=RdFs.get (i:=i) (e:=e) t (by simpa using z)
  exact ⟨x,G,by simpa using b,c,a.trans (Cf _ _)⟩
theorem RdFs.app:∀{v w:List V} {d e:List Ad} {F G:List Addr},RdFs K H v d F->RdFs K H w e G->RdFs K H (v++w) (d++e) (F++G)
 | _,_,_,_,_,_,.nil,h=>h
 | _,_,_,_,_,_,.cons a t,h=>by
  rw[Df]
  exact .cons a (RdFs.app t h)
theorem RdFs.snoc(t:RdFs K H v d F)(h:RdF K H x e G):RdFs K H (v++[x]) (d++[e]) (F++G):=by
 have:=t.app (.cons h .nil)
 rw[Dk] at this
 exact this
end
mutual
def imm:Ad->Bool
 | .list _=>false
 | .dict _=>false
 | .tuple a=>Dl a
 | _=>true
def Dl:List Ad->Bool
 | []=>true
 | x::xs=>imm x && Dl xs
end
theorem pK:∀{xs:List Ad},Dl xs=true↔∀x∈xs,imm x=true
 | []=>by simp [Dl]
 | x::xs=>by simp [Dl,pK (xs:=xs)]
theorem We{b:Type}{f:b->Ad}(h:∀a,imm (f a)=true)(l:List b):Dl (l.map f)=true:=pK.mpr λx c=>by
 obtain ⟨a,_,rfl⟩:=Bh.mp c
 exact h a
theorem lQ(ns:List Int):imm (Bj ns)=true:=by
 unfold Bj
 rw[imm]
 exact We (λ_=>by simp [imm]) ns
section
variable{K:PySem.W.Frag}{H H':Hp}
mutual
theorem RdF.imm:∀{v:V} {d:Ad} {F:List Addr},RdF K H v d F->DL.imm d=true->F=[]
 | _,_,_,.non,_=>rfl
 | _,_,_,.bl b,_=>rfl
 | _,_,_,.int i,_=>rfl
 | _,_,_,.str x,_=>rfl
 | _,_,_,.lst h l hs,k=>by simp [DL.imm] at k
 | _,_,_,.tup h l hs,k=>RdFs.imm hs (by simpa [DL.imm] using k)
 | _,_,_,.dic h e hs,k=>by simp [DL.imm] at k
 | _,_,_,.dik h e hs,k=>by simp [DL.imm] at k
 | _,_,_,.dnm h e hs,k=>by simp [DL.imm] at k
theorem RdFs.imm:∀{v:List V} {d:List Ad} {F:List Addr},RdFs K H v d F->Dl d=true->F=[]
 | _,_,_,.nil,_=>rfl
 | _,_,_,.cons h hs,k=>by
  rw[Dl,Cd] at k
  rw[RdF.imm h k.1,RdFs.imm hs k.2]
  rfl
end
end
inductive Md where
 | pk | sh | tp | ow
 deriving DecidableEq
inductive DV where
 | un
 | dat (m:Md) (d:Ad)
 | drw
 | dT (kvs:List (List Ib×Ad))
 | val (v:V)
 | scr (ns:List Int)
 | acc (ds:List Ad)
 | grd (Hc:Hp)
 | tpl (xs:List V)
structure DS where
 sl:List DV
 n:Nat
structure Ent where
 v:Option V
 x:DV
 F:List Addr
def Lf:DV->Bool
 | .dat .pk _=>true
 | _=>false
def HL:DV->Bool
 | .drw=>true
 | _=>false
def EU:DV->Bool
 | .drw=>true
 | .acc _=>true
 | .dT _=>true
 | .grd _=>true
 | _=>false
def cells(e:Ent):List Addr:=match e.x with
 | .dat .ow _=>e.F
 | .dat .tp _=>e.F.take 1
 | .drw=>e.F
 | .dT _=>e.F
 | .acc _=>e.F.take 1
 | .grd _=>e.F
 | _=>[]
theorem Et(e:Ent):∀a∈cells e,a∈e.F:=by
 obtain ⟨v,x,F⟩:=e
 intro a h
 cases x with
 | un=>exact nomatch h
 | val _=>exact nomatch h
 | scr _=>exact nomatch h
 | drw=>exact h
 | dT _=>exact h
 | grd _=>exact h
 | tpl _=>exact nomatch h
 | acc _=>exact (Mz _ _).subset h
 | dat m d =>
  cases m with
  | pk=>exact nomatch h
  | sh=>exact nomatch h
  | tp=>exact (Mz _ _).subset h
  | ow=>exact h
def Ws(e f:Ent):Prop:=((Lf f.x=false\/EU e.x=true)->∀a∈cells e,a∉f.F)/\((Lf e.x=false\/EU f.x=true)->∀a∈cells f,a∉e.F)
theorem Ws.symm(h:Ws e f):Ws f e:=⟨h.2,h.1⟩
def Ho(K:PySem.W.Frag)(H:Hp)(n:Nat)(e:Ent):Prop:=match e.x with
 | .un=>e.F=[]
 | .dat m d=>∃v,e.v=some v/\RdF K H v d e.F/\(m=.ow->e.F.Nodup)/\(m=.tp->∀a l,e.F=a::l->a∉l)
 | .drw=>∃i c k f,e.v=some (.ref i)/\e.F=[i]/\cT H i c k f/\0<=k/\k<=(n:Int)
 | .dT b=>∃a h,e.v=some (.ref a)/\e.F=[a]/\H a=some (.dT h)/\h.map (·.1)=b.map (·.1)/\RdFs K H (h.map (·.2)) (b.map (·.2)) []
 | .val v=>e.v=some v/\e.F=[]
 | .scr p=>∃a,e.v=some (.ref a)/\e.F=[]/\KL K H a (p.map V.int)/\p.length<=63
 | .acc j=>∃a g G,e.v=some (.ref a)/\e.F=a::G/\H a=some (.lst g)/\RdFs K H g j G/\j.length<=Az/\a∉G
 | .grd q=>∀a∈e.F,∃o,q a=some o/\H a=some o
 | .tpl g=>∃t,e.v=some (.ref t)/\H t=some (.tup g)/\e.F=[]
structure At(K:PySem.W.Frag)(H0:Hp)(X:Addr->Prop)(n:Nat)(E:List Ent)(H:Hp):Prop where
 ok:∀e∈E,Ho K H n e
 sep:E.Pairwise Ws
 new:∀e∈E,∀a∈cells e,H0 a=none\/(X a/\HL e.x=true)
 same:∀b o,¬ X b->H0 b=some o->H b=some o
 dom:∀b o,H0 b=some o->∃o',H b=some o'
 xd:∀b,X b->H0 b≠none/\∃c k f,cT H b c k f/\0<=k/\k<=(n:Int)
section
variable{K:PySem.W.Frag}{i H H':Hp}{X:Addr->Prop}{n n':Nat}{E E' S T:List Ent}{e f:Ent}
theorem At.perm(h:At K i X n E H)(p:E.Perm E'):At K i X n E' H :=
 ⟨λe c=>h.ok e (p.mem_iff.mpr c),(p.pairwise_iff λ{a b}=>Ws.symm).mp h.sep,λe c=>h.new e (p.mem_iff.mpr c),h.same,h.dom,h.xd⟩
theorem At.sub(h:At K i X n E H)(p:E'.Sublist E):At K i X n E' H :=
 ⟨λe a=>h.ok e (p.subset a),h.sep.sublist p,λe a=>h.new e (p.subset a),h.same,h.dom,h.xd⟩
theorem At.drop(h:At K i X n (S++e::T) H):At K i X n (S++T) H:=h.sub ((Cu S).append (Cw _ _))
theorem nR:(S++e::T).Perm (e::(S++T)):=Gj
theorem At.mid(h:At K i X n (S++e::T) H):At K i X n (e::(S++T)) H:=h.perm nR
theorem At.tomid(h:At K i X n (e::(S++T)) H):At K i X n (S++e::T) H:=h.perm nR.symm
theorem Ho.dom(h:Ho K H n e):∀a∈e.F,∃o,H a=some o:=by
 obtain ⟨v,x,F⟩:=e
 intro a ha
 cases x with
 | un=>rw[show F=[] from h] at ha; cases ha
 | val _=>rw[show F=[] from h.2] at ha; cases ha
 | scr _ =>
  obtain ⟨_,_,g,_⟩:=h
  rw[show F=[] from g] at ha; cases ha
 | dat m d =>
  obtain ⟨w,_,h,_⟩:=h
  obtain ⟨i,z⟩:=h.dom a ha
  exact ⟨_,z⟩
 | drw =>
  obtain ⟨l,c,k,f,_,g,h,_⟩:=h
  rw[show F=[l] from g] at ha
  rw[Ak.mp ha]
  exact ⟨_,h⟩
 | grd s =>
  obtain ⟨o,_,z⟩:=h a ha
  exact ⟨o,z⟩
 | tpl i =>
  obtain ⟨_,_,_,g⟩:=h
  rw[show F=[] from g] at ha; cases ha
 | dT q =>
  obtain ⟨b,j,_,g,h,_⟩:=h
  rw[show F=[b] from g] at ha
  rw[Ak.mp ha]
  exact ⟨_,h⟩
 | acc r =>
  obtain ⟨b,j,G,_,g,h,p,_⟩:=h
  rw[show F=b::G from g] at ha
  rcases Ao.mp ha with rfl | ha
  ·exact ⟨_,h⟩
  ·obtain ⟨i,z⟩:=p.dom a ha
   exact ⟨_,z⟩
theorem Ho.kp(h:Ho K H n e)(k:Kp e.F H H')(C:n<=n'):Ho K H' n' e:=by
 obtain ⟨v,x,F⟩:=e
 cases x with
 | un=>exact h
 | val _=>exact h
 | scr _ =>
  obtain ⟨a,g,i,l,p⟩:=h
  exact ⟨a,g,i,l.kp k,p⟩
 | dat m d =>
  obtain ⟨w,g,i,l⟩:=h
  exact ⟨w,g,i.kp k,l⟩
 | drw =>
  obtain ⟨u,c,y,f,g,q,i,l,p⟩:=h
  have j:F=[u]:=q
  subst j
  exact ⟨u,c,y,f,g,rfl,k _ _ i (.inl Aa),l,by omega⟩
 | tpl B =>
  obtain ⟨t,g,i,l⟩:=h
  exact ⟨t,g,k _ _ i (.inr (.inl ⟨_,rfl⟩)),l⟩
 | grd E =>
  intro a s
  obtain ⟨o,g,i⟩:=h a s
  exact ⟨o,g,k _ _ i (.inl s)⟩
 | dT A =>
  obtain ⟨b,r,g,q,i,l,p⟩:=h
  have j:F=[b]:=q
  subst j
  exact ⟨b,r,g,rfl,k _ _ i (.inl Aa),l,p.kp (k.sub λ_ z=>nomatch z)⟩
 | acc D =>
  obtain ⟨b,r,G,g,q,i,l,p⟩:=h
  have j:F=b::G:=q
  subst j
  exact ⟨b,r,G,g,rfl,k _ _ i (.inl Aa),l.kp (k.sub λ_ z=>Ae _ z),p⟩
theorem At.grow(h:At K i X n E H)(s:Tf H H')(g:n<=n'):At K i X n' E H' :=
 ⟨λe j=>(h.ok e j).kp (Kp.of s) g,h.sep,h.new,λb o a e=>s _ _ (h.same b o a e),λb o e=>let ⟨o',q⟩:=h.dom b o e; ⟨o',s _ _ q⟩,λb d=>let ⟨z,c,k,f,h1,h2,h3⟩:=h.xd b d; ⟨z,c,k,f,s _ _ h1,h2,by omega⟩⟩
theorem At.free(h:At K i X n E H)(b:H a=none):∀e∈E,a∉e.F:=λe c z=>by
 obtain ⟨o,q⟩:=(h.ok e c).dom a z
 rw[b] at q; cases q
theorem At.push(h:At K i X n E H)(ok:Ho K H n e)(b:∀f∈E,Ws e f)(c:∀a∈cells e,i a=none\/(X a/\HL e.x=true)):At K i X n (e::E) H :=
 ⟨λg hg=>by
  rcases Ao.mp hg with rfl | hg
  ·exact ok
  ·exact h.ok g hg,Ba.mpr ⟨b,h.sep⟩,λg hg=>by
  rcases Ao.mp hg with rfl | hg
  ·exact c
  ·exact h.new g hg,h.same,h.dom,h.xd⟩
theorem At.new0(h:At K i X n E H)(a:H p=none):i p=none:=by
 cases q:i p with
 | none=>rfl
 | some o =>
  obtain ⟨b,z⟩:=h.dom p o q
  rw[a] at z; cases z
theorem S9:Ws ⟨v,.dat m d,[]⟩ f:=by
 refine ⟨λ_ a b=>?_,λ_ a _=>Bn⟩
 have:=Et _ a b
 cases this
theorem At.pushI(h:At K i X n (S++T) H)(r:RdF K H v d []):At K i X n (S++⟨some v,.dat m d,[]⟩::T) H :=
 (h.push (e:=⟨some v,.dat m d,[]⟩) ⟨v,rfl,r,λ_=>Dt,λ_ a l z=>nomatch z⟩ (λf _=>S9) (λa b=>nomatch Et _ a b)).tomid
def wk:Md->Md->Bool
 | _,.pk=>true
 | .pk,_=>false
 | _,.sh=>true
 | .sh,_=>false
 | _,.tp=>true
 | .tp,.ow=>false
 | .ow,.ow=>true
theorem mX(w:wk m c=true):∀a∈cells ⟨v,.dat c d,F⟩,a∈cells ⟨v,.dat m d,F⟩:=by
 intro a b
 cases m <;> cases c <;> first | exact absurd w (by decide) | exact b | exact absurd b Bn | exact (Mz 1 F).subset b
theorem xP{b:Type}{F:List b}(h:F.Nodup):∀a l,F=a::l->a∉l:=λa l e=>by
 subst e
 exact (Bw.mp h).1
theorem Ho.wk(w:wk m b=true)(h:Ho K H n ⟨v,.dat m d,F⟩):Ho K H n ⟨v,.dat b d,F⟩:=by
 obtain ⟨u,c,f,a,g⟩:=h
 refine ⟨u,c,f,λe=>?_,λe=>?_⟩
 ·subst e
  cases m <;> first | exact absurd w (by decide) | exact a rfl
 ·subst e
  cases m <;> first | exact absurd w (by decide) | exact g rfl | exact xP (a rfl)
theorem Ws.wk(w:wk m c=true)(h:Ws ⟨v,.dat m d,F⟩ f):Ws ⟨v,.dat c d,F⟩ f:=by
 refine ⟨λhp a b=>?_,λhp a b=>?_⟩
 ·rcases hp with hp | hp
  ·exact h.1 (.inl hp) a (mX w a b)
  ·cases hp
 ·rcases hp with hp | hp
  ·refine h.2 (.inl ?_) a b
   cases m <;> cases c <;> first | rfl | exact absurd w (by decide) | exact absurd hp (by show ¬ (true=false); decide)
  ·exact h.2 (.inr hp) a b
theorem At.wk(w:wk m b=true)(h:At K i X n (⟨v,.dat m d,F⟩::E) H):At K i X n (⟨v,.dat b d,F⟩::E) H:=by
 have c:=Ba.mp h.sep
 refine (h.sub (Cw _ _)).push ((h.ok _ Aa).wk w) (λf g=>(c.1 f g).wk w) λa e=>?_
 rcases h.new _ Aa a (mX w a e) with z | z
 ·exact .inl z
 ·cases z.2
end
abbrev DE:=DS->(DV->DS->Prop)->Prop
abbrev DT:=DS->(Bool->DS->Prop)->Prop
abbrev DA:=DS->(List DV->DS->Prop)->Prop
structure DEnds where
 nx:DS->Prop
 rt:DV->DS->Prop
 bk:DS->Prop:=λ_=>False
 ct:DS->Prop:=λ_=>False
abbrev DB:=DEnds->DS->Prop
abbrev DG:=DV->DS->(DS->Prop)->Prop
abbrev wY:=List DV->DS->(DS->Prop)->Prop
def vs(S:List Ent):L2.St:=S.map Ent.v
def Sl(S:List Ent)(a:DS):Prop:=S.map Ent.x=a.sl
section
variable(K:PySem.W.Frag)
def LE(g:DE):TE:=λe H Q=>∃(d:Hp) (X:Addr->Prop) (S T:List Ent) (b:DS) (P:DV->DS->Prop),vs S=e/\Sl S b/\At K d X b.n (S++T) H/\g b P /\
 ∀x a v F c f,vs c=e->Sl c a->At K d X a.n (c++⟨some v,x,F⟩::T) f->P x a->Q v f
def LT(dt:DT):TT:=λf H Q=>∃(e:Hp) (X:Addr->Prop) (S T:List Ent) (c:DS) (P:Bool->DS->Prop),vs S=f/\Sl S c/\At K e X c.n (S++T) H/\dt c P /\
 ∀b a d g,vs d=f->Sl d a->At K e X a.n (d++T) g->P b a->Q b g
def LA(j:DA):TA:=λf H Q=>∃(g:Hp) (X:Addr->Prop) (S T:List Ent) (b:DS) (P:List DV->DS->Prop),vs S=f/\Sl S b/\At K g X b.n (S++T) H/\j b P /\
 ∀i a d e c h,vs c=f->Sl c a->d.map Ent.x=i->d.map Ent.v=e.map some->At K g X a.n (c++(d++T)) h->P i a->Q e h
def LS(h:DB):TS:=λD g H=>∃(d:Hp) (X:Addr->Prop) (S T:List Ent) (f:DS) (P:DEnds),vs S=g/\Sl S f/\(∀e∈T,Lf e.x=false)/\At K d X f.n (S++T) H/\h P f /\
 (∀a b c,Sl b a->At K d X a.n (b++T) c->P.nx a->D.nx (vs b) c) /\
 (∀x a v F b c,Sl b a->At K d X a.n (b++⟨some v,x,F⟩::T) c->P.rt x a->D.rt v c) /\
 (∀a b c,Sl b a->At K d X a.n (b++T) c->P.bk a->D.bk (vs b) c) /\
 (∀a b c,Sl b a->At K d X a.n (b++T) c->P.ct a->D.ct (vs b) c)
def LG(g:DG):TG:=λv f H Q=>∃(d:Hp) (X:Addr->Prop) (S T:List Ent) (b:DS) (x:DV) (F:List Addr) (P:DS->Prop),vs S=f/\Sl S b/\At K d X b.n (S++⟨some v,x,F⟩::T) H/\g x b P /\
 ∀a c e,Sl c a->At K d X a.n (c++T) e->P a->Q (vs c) e
def NQ(i:wY):j5:=λg h H Q=>∃(e:Hp) (X:Addr->Prop) (S T d:List Ent) (b:DS) (P:DS->Prop),vs S=h/\Sl S b/\d.map Ent.v=g.map some/\At K e X b.n (S++(d++T)) H/\i (d.map Ent.x) b P /\
 ∀a c f,Sl c a->At K e X a.n (c++T) f->P a->Q (vs c) f
end
abbrev Ee(X:Cx)(e:Expr)(a:DE):Prop:=PE X e (LE X.K a)
abbrev kT(X:Cx)(e:Expr)(dt:DT):Prop:=PT X e (LT X.K dt)
abbrev EF(X:Cx)(e:Expr)(dt:DT):Prop:=PW X e (LT X.K dt)
abbrev kB(X:Cx)(es:List Expr)(a:DA):Prop:=PA X es (LA X.K a)
abbrev iJ(X:Cx)(st:Stmt)(a:DB):Prop:=PS X st (LS X.K a)
abbrev Zb(X:Cx)(st:List Stmt)(a:DB):Prop:=rJ X st (LS X.K a)
abbrev EK(X:Cx)(a:Expr)(b:DG):Prop:=PG X a (LG X.K b)
abbrev J9(X:Cx)(a:List Expr)(b:wY):Prop:=AO X a (NQ X.K b)
theorem PE.imp(h:PE X e t)(k:∀b H Q,t' b H Q->t b H Q):PE X e t':=λa s b H Q I q=>h a s b H Q I (k b H Q q)
theorem PT.imp(h:PT X e t)(k:∀b H Q,t' b H Q->t b H Q):PT X e t':=λa s b H Q I q=>h a s b H Q I (k b H Q q)
theorem PW.imp(h:PW X e t)(k:∀b H Q,t' b H Q->t b H Q):PW X e t':=λc a s b H Q I q=>h c a s b H Q I (k b H Q q)
theorem PA.imp(h:PA X e t)(k:∀b H Q,t' b H Q->t b H Q):PA X e t':=λc a s b H Q I q=>h c a s b H Q I (k b H Q q)
theorem PG.imp(h:PG X e t)(k:∀v b H Q,t' v b H Q->t v b H Q):PG X e t':=λa s b H v u Q I r q=>h a s b H v u Q I r (k v b H Q q)
theorem AO.imp(h:AO X e t)(k:∀v b H Q,t' v b H Q->t v b H Q):AO X e t':=λa s b H v u Q I r q=>h a s b H v u Q I r (k v b H Q q)
section
variable{K:PySem.W.Frag}{H:Hp}{v:V}{F:List Addr}
theorem RdF.int_inv(h:RdF K H v (.int i) F):v=.int i/\F=[]:=by cases h; exact ⟨rfl,rfl⟩
theorem RdF.bl_inv(h:RdF K H v (.bool i) F):v=.bl i/\F=[]:=by cases h; exact ⟨rfl,rfl⟩
theorem RdF.str_inv(h:RdF K H v (.str i) F):v=.str i/\F=[]:=by cases h; exact ⟨rfl,rfl⟩
theorem RdF.non_inv(h:RdF K H v .none F):v=.non/\F=[]:=by cases h; exact ⟨rfl,rfl⟩
theorem RdF.list_inv(h:RdF K H v (.list b) F):∃a xs G,v=.ref a/\H a=some (.lst xs)/\RdFs K H xs b G/\F=a::G/\b.length<=Az:=by
 cases h with
 | lst h l c=>exact ⟨_,_,_,rfl,h,c,rfl,l⟩
theorem RdF.tup_inv(h:RdF K H v (.tuple b) F):∃a xs,v=.ref a/\H a=some (.tup xs)/\RdFs K H xs b F/\b.length<=Az:=by
 cases h with
 | tup h l c=>exact ⟨_,_,rfl,h,c,l⟩
end
section
variable{K:PySem.W.Frag}{a H H':Hp}{X:Addr->Prop}{n:Nat}{E S T:List Ent}{v:V}{m:Md}{d:Ad}{F:List Addr}
theorem At.told(h:At K a X n E H)(e:⟨some v,.dat m d,F⟩∈E):RdF K H v d F:=by
 obtain ⟨w,b,c,_⟩:=h.ok _ e
 cases b
 exact c
theorem mem_mid:e∈S++e::T:=Aw _ Aa
theorem Ec:f∈S++e::f::T:=Aw _ (Ae _ Aa)
theorem At.drop2(h:At K a X n (S++e::f::T) H):At K a X n (S++T) H:=h.drop.drop
theorem At.dropL(h:At K a X n (S++(As++T)) H):At K a X n (S++T) H:=h.sub ((Cu S).append (Cf As T))
end
def mE:Md->Md
 | .ow=>.pk
 | .tp=>.pk
 | m=>m
def DX(i:Nat):DE:=λa P=>match a.sl[i]? with
 | some (.dat m d)=>P (.dat (mE m) d) a
 | _=>False
def dC(d:Ad):DE:=λa P=>P (.dat .ow d) a
theorem Ge{S:List Ent}{b:DS}{i:Nat}{x:DV}(h:Sl S b)(e:b.sl[i]? = some x):∃a,S[i]? = some a/\a.x=x:=by
 unfold Sl at h
 rw[<- h,Aq] at e
 cases q:S[i]? with
 | none=>rw[q] at e; cases e
 | some a=>rw[q] at e; exact ⟨a,rfl,Bo e⟩
theorem Jk{S:List Ent}{i:Nat}{e:Ent}(h:S[i]? = some e):(vs S)[i]? = some e.v:=by
 unfold vs
 rw[Aq,h]
 rfl
theorem At.look(h:At K g X n (S++T) H)(o:⟨u,.dat m d,F⟩∈S)(l:u=some v):At K g X n (S++⟨some v,.dat (mE m) d,F⟩::T) H:=by
 subst l
 obtain ⟨i,c,rfl⟩:=List.append_of_mem o
 have j:((i++⟨some v,.dat m d,F⟩::c)++T).Perm (⟨some v,.dat m d,F⟩::(i++(c++T))):=by
  rw[Df,Ez]
  exact Gj
 have k:=h.perm j
 have q:=Ba.mp k.sep
 refine (h.push (e:=⟨some v,.dat (mE m) d,F⟩) ?_ (λf hf=>?_) λa b=>?_).tomid
 ·obtain ⟨w,p,r,_⟩:=k.ok _ Aa
  refine ⟨w,p,r,λz=>?_,λz=>?_⟩ <;> cases m <;> cases z
 ·refine ⟨λ_ a b=>?_,λhq a b=>?_⟩
  ·cases m <;> exact nomatch b
  ·rcases Ao.mp (j.mem_iff.mp hf) with rfl | hf
   ·rcases hq with hq | hq
    ·cases m <;> first | cases hq; done | exact nomatch b
    ·cases hq
   ·refine (q.1 f hf).2 ?_ a b
    rcases hq with hq | hq
    ·refine .inl ?_
     cases m <;> first | rfl | exact hq
    ·exact .inr hq
 ·cases m <;> exact nomatch b
section
variable{X:Cx}{e:Expr}
theorem Al(h:PE X e (Tn i)):Ee X e (DX i):=by
 refine PE.imp h λq H Q h=>?_
 obtain ⟨r,Y,S,T,p,P,rfl,c,l,b,k⟩:=h
 unfold DX at b
 split at b
 ·rename_i m d n
  obtain ⟨a,g,o⟩:=Ge c n
  have j:a∈S:=Au g
  obtain ⟨u,x,F⟩:=a
  subst o
  obtain ⟨v,f,_⟩:=l.ok _ (Ap _ j)
  refine ⟨v,by rw[Jk g]; exact congrArg some f,k _ p v F S H rfl c (l.look j f) b⟩
 ·exact b.elim
theorem jR(h:PE X e (tC v))(r:∀H,RdF X.K H v d []):Ee X e (dC d):=by
 refine PE.imp h λg H Q h=>?_
 obtain ⟨i,Y,S,T,c,P,rfl,b,f,a,k⟩:=h
 exact k _ c v [] S H rfl b (f.pushI (r H)) a
theorem Ct:Ee X (.Constant (.int i) j pos) (dC (.int i)):=jR Ew λ_=>.int i
theorem Ll:Ee X (.Constant (.bool i) j pos) (dC (.bool i)):=jR e8 λ_=>.bl i
theorem Rf:Ee X (.Constant (.str i) j pos) (dC (.str i)):=jR BU λ_=>.str i
theorem J5:Ee X (.Constant .none j pos) (dC .none):=jR C4 λ_=>.non
end
def JS(c:DE):DE:=λb P=>c b λx a=>match x with
 | .dat _ d=>imm d=true/\P (.dat .ow d) a
 | _=>False
theorem Tr(h:Ee X e c):Ee X e (JS c):=by
 refine PE.imp h λt H Q h=>?_
 obtain ⟨i,Y,S,T,n,P,rfl,g,q,f,k⟩:=h
 refine ⟨i,Y,S,T,n,_,rfl,g,q,f,λx b v F o s l j a p=>?_⟩
 cases x with
 | dat m d =>
  have r:=a.told mem_mid
  obtain rfl:=r.imm p.1
  exact k _ b v [] o s l j (a.drop.pushI r) p.2
 | _=>exact p.elim
def M4(i:Nat):DE:=λa P=>match a.sl[i]? with
 | some (.dat m d)=>P (.dat m d) ⟨a.sl.set i .un,a.n⟩
 | _=>False
theorem Xo{a:Type}:∀{l:List a} {i:Nat} {x y:a},l[i]? = some x->(y::l).Perm (x::l.set i y)
 | [],i,x,y,h=>by simp at h
 | z::l,0,x,y,h=>by
  simp at h
  subst h
  exact Fe _ _ _
 | z::l,i+1,x,y,h=>by
  have b:=Xo (l:=l) (i:=i) (x:=x) (y:=y) (by simpa using h)
  rw[Zd]
  exact (Fe z y l).trans ((b.cons z).trans (Fe x z _))
theorem aO(h:PE X e (Tn i)):Ee X e (M4 i):=by
 refine PE.imp h λG H Q h=>?_
 obtain ⟨I,Y,S,T,C,P,rfl,l,r,g,k⟩:=h
 unfold M4 at g
 split at g
 ·rename_i m d B
  obtain ⟨c,b,A⟩:=Ge l B
  have E:c∈S:=Au b
  obtain ⟨u,x,F⟩:=c
  subst A
  obtain ⟨v,t,D⟩:=r.ok _ (Ap _ E)
  have o:u=some v:=t
  subst o
  refine ⟨v,by rw[Jk b],k _ _ v F (S.set i ⟨some v,.un,[]⟩) H ?_ ?_ ?_ g⟩
  ·unfold vs
   rw[Ea]
   apply Eu
   intro j
   rw[Fj]
   split
   ·rename_i q
    subst q
    rw[Aq,b]
    split
    ·rfl
    ·rename_i s
     rw[Ac] at s
     exact absurd (Af.mp b).1 s
   ·rfl
  ·unfold Sl at l ⊢
   rw[Ea,l]
  ·have w:=r.push (e:=⟨some v,.un,[]⟩) (show Ho X.K H C.n ⟨some v,.un,[]⟩ from rfl) (λf _=>⟨λ_ a p=>(nomatch p),λ_ a _=>Bn⟩) (λa p=>(nomatch p))
   have z:(⟨some v,.un,[]⟩::(S++T)).Perm ((S.set i ⟨some v,.un,[]⟩)++⟨some v,.dat m d,F⟩::T):=by
    rw[<- Ez]
    exact ((Xo (y:=(⟨some v,.un,[]⟩ : Ent)) b).append_right T).trans (by rw[Ez]; exact List.perm_middle.symm)
   exact w.perm z
 ·exact g.elim
abbrev D2:=DV->DV->(DV->Prop)->Prop
def kQ(K:PySem.W.Frag)(r:R2)(rd:D2):Prop:=∀(b:Hp) (X:Addr->Prop) (n:Nat) (S T:List Ent) (x y:DV) (v w:V) (F G:List Addr) (H:Hp) (Q:VK) (P:DV->Prop),
 At K b X n (S++⟨some w,y,G⟩::⟨some v,x,F⟩::T) H->rd x y P->(∀z u c a,At K b X n (S++⟨some u,z,c⟩::T) a->P z->Q u a)->r v w H Q
def Wj(rd:D2)(e d:DE):DE:=λc P=>e c λx b=>d b λy a=>rd x y λz=>P z a
theorem op_le(o:kQ K r rd):∀b H Q,LE K (Wj rd l i) b H Q->JQ r (LE K l) (LE K i) b H Q:=by
 intro b H Q h
 obtain ⟨c,Y,S,T,J,P,rfl,m,D,E,k⟩:=h
 refine ⟨c,Y,S,T,J,_,rfl,m,D,E,λx e v F t O I A g p=>?_⟩
 refine ⟨c,Y,t,⟨some v,x,F⟩::T,e,_,I,A,g,p,λy a w G j N B C d L=>?_⟩
 exact o c Y a.n j T x y v w F G N Q _ d L λz u s M f q=>k z a u s j M B C f q
section
variable{X:Cx}{a b:Expr}{d c:DE}{pos:Pos}{r:R2}{rd:D2}
theorem Tu(f:Wk X (Iw op) r)(o:kQ X.K r rd)(e:Ee X a d)(hb:Ee X b c):Ee X (.BinOp a op b pos) (Wj rd d c):=PE.imp (Ju f e hb) (op_le o)
theorem cG(f:Wk X (Hh op) r)(o:kQ X.K r rd)(e:Ee X a d)(hb:Ee X b c)(g:Kr op b=false):Ee X (.Compare a [op] [b] pos) (Wj rd d c):=PE.imp (Q2 f e hb g) (op_le o)
theorem HP(f:S6 X r)(o:kQ X.K r rd)(g:Ee X a d)(hb:Ee X b c)(e:iT b):Ee X (.Subscript a b pos) (Wj rd d c):=PE.imp (Sg f g hb e) (op_le o)
end
def BY(C:Int->Int->Prop)(g:Int->Int->Ad):D2:=λx y P=>match x,y with
 | .dat _ (.int i),.dat _ (.int j)=>C i j/\P (.dat .ow (g i j))
 | _,_=>False
def iH(g:Int->Int->Ad):D2:=λx y P=>match x,y with
 | .dat _ (.int i),.dat _ (.int j)=>P (.dat .ow (g i j))
 | _,_=>False
section
variable{K:PySem.W.Frag}
theorem X2(h:∀i j H,RdF K H (g i j) (g' i j) []):kQ K (rI C g) (BY C g'):=by
 intro c X n S T x y v w F G H Q P b a k
 unfold BY at a
 split at a
 ·obtain ⟨rfl,_⟩:=(b.told Ec).int_inv
  obtain ⟨rfl,_⟩:=(b.told mem_mid).int_inv
  exact ⟨_,_,rfl,rfl,a.1,k _ _ [] H (b.drop2.pushI (h _ _ H)) a.2⟩
 ·exact a.elim
theorem cI(h:∀i j H,RdF K H (g i j) (g' i j) []):kQ K (V1 g) (iH g'):=by
 intro c X n S T x y v w F G H Q P b a k
 unfold iH at a
 split at a
 ·obtain ⟨rfl,_⟩:=(b.told Ec).int_inv
  obtain ⟨rfl,_⟩:=(b.told mem_mid).int_inv
  exact ⟨_,_,rfl,rfl,k _ _ [] H (b.drop2.pushI (h _ _ H)) a⟩
 ·exact a.elim
end
abbrev rdAdd:D2:=iH λi j=>.int (i+j)
abbrev rdSub:D2:=iH λi j=>.int (i - j)
abbrev rdMul:D2:=BY FI λi j=>.int (i * j)
abbrev rdDiv:D2:=BY FG λi j=>.int (i / j)
abbrev rdMod:D2:=BY (λ_ j=>0<j) λi j=>.int (i % j)
abbrev IW:D2:=BY O6 λi j=>.int (i * 2 ^ j.toNat)
abbrev rdXor:D2:=iH λi j=>.int (Builtin.bitXor i j)
abbrev rdLe:D2:=iH λi j=>.bool (decide (i<=j))
abbrev rdGt:D2:=iH λi j=>.bool (decide (j<i))
abbrev rdGe:D2:=iH λi j=>.bool (decide (j<=i))
section
variable{X:Cx}{a b:Expr}{d c:DE}{pos:Pos}
theorem Mu(e:Ee X a d)(hb:Ee X b c):Ee X (.BinOp a .Add b pos) (Wj rdAdd d c):=Tu bC (cI λ_ _ _=>.int _) e hb
theorem pP(e:Ee X a d)(hb:Ee X b c):Ee X (.BinOp a .Sub b pos) (Wj rdSub d c):=Tu DJ (cI λ_ _ _=>.int _) e hb
theorem FC(e:Ee X a d)(hb:Ee X b c):Ee X (.BinOp a .Mult b pos) (Wj rdMul d c):=Tu Ye (X2 λ_ _ _=>.int _) e hb
theorem BX(e:Ee X a d)(hb:Ee X b c):Ee X (.BinOp a .FloorDiv b pos) (Wj rdDiv d c):=Tu iO (X2 λ_ _ _=>.int _) e hb
theorem Ma(e:Ee X a d)(hb:Ee X b c):Ee X (.BinOp a .Mod b pos) (Wj rdMod d c):=Tu Wg (X2 λ_ _ _=>.int _) e hb
theorem FT(e:Ee X a d)(hb:Ee X b c):Ee X (.BinOp a .LShift b pos) (Wj IW d c):=Tu CS (X2 λ_ _ _=>.int _) e hb
theorem BM(e:Ee X a d)(hb:Ee X b c):Ee X (.BinOp a .BitXor b pos) (Wj rdXor d c):=Tu DM (cI λ_ _ _=>.int _) e hb
theorem HC(e:Ee X a d)(hb:Ee X b c):Ee X (.Compare a [.LtE] [b] pos) (Wj rdLe d c):=cG L2.op_le (cI λ_ _ _=>.bl _) e hb (Rh _)
theorem GW(e:Ee X a d)(hb:Ee X b c):Ee X (.Compare a [.Gt] [b] pos) (Wj rdGt d c):=cG HV (cI λ_ _ _=>.bl _) e hb (Rh _)
theorem Z6(e:Ee X a d)(hb:Ee X b c):Ee X (.Compare a [.GtE] [b] pos) (Wj rdGe d c):=cG J0 (cI λ_ _ _=>.bl _) e hb (Rh _)
end
def jG(a:Bool):D2:=λx y P=>match x,y with
 | .dat _ d,.dat _ e=>d.depth<=60/\e.depth<=60/\P (.dat .ow (.bool (match a with | true=>!Dw d e | false=>Dw d e)))
 | _,_=>False
def rQ(a:Bool):D2:=λx y P=>match x,y with
 | .dat _ d,.dat _ (.list es)=>Bk es<=60/\d.depth<=60/\P (.dat .ow (.bool (match a with | true=>!(es.any λe=>Dw e d) | false=>es.any λe=>Dw e d)))
 | .dat _ d,.dat _ (.tuple es)=>Bk es<=60/\d.depth<=60/\P (.dat .ow (.bool (match a with | true=>!(es.any λe=>Dw e d) | false=>es.any λe=>Dw e d)))
 | _,_=>False
section
variable{K:PySem.W.Frag}
theorem AJ:kQ K (HM K) (jG false):=by
 intro c X n S T x y v w F G H Q P b a k
 unfold jG at a
 split at a
 ·exact ⟨_,_,(b.told Ec).rd (Ce a.1 (by decide)),(b.told mem_mid).rd (Ce a.2.1 (by decide)),a.1,k _ _ [] H (b.drop2.pushI (.bl _)) a.2.2⟩
 ·exact a.elim
theorem JB:kQ K (IH K) (jG true):=by
 intro c X n S T x y v w F G H Q P b a k
 unfold jG at a
 split at a
 ·exact ⟨_,_,(b.told Ec).rd (Ce a.1 (by decide)),(b.told mem_mid).rd (Ce a.2.1 (by decide)),a.1,k _ _ [] H (b.drop2.pushI (.bl _)) a.2.2⟩
 ·exact a.elim
theorem Y3:kQ K (CC K d) (rQ d):=by
 intro h X n S T x y v w F G H Q P c b k
 unfold rQ at b
 split at b
 ·obtain ⟨a,e,i,rfl,g,f,_,_⟩:=(c.told mem_mid).list_inv
  refine ⟨a,e,_,_,rfl,.inl (Kv.of g),(c.told Ec).rd (Ce b.2.1 (by decide)),f.rd (Ce b.1 (by decide)),b.1,?_⟩
  cases d with
  | true=>exact k _ _ [] H (c.drop2.pushI (.bl _)) b.2.2
  | false=>exact k _ _ [] H (c.drop2.pushI (.bl _)) b.2.2
 ·obtain ⟨a,e,rfl,g,f,_⟩:=(c.told mem_mid).tup_inv
  refine ⟨a,e,_,_,rfl,.inr (Ve.of g),(c.told Ec).rd (Ce b.2.1 (by decide)),f.rd (Ce b.1 (by decide)),b.1,?_⟩
  cases d with
  | true=>exact k _ _ [] H (c.drop2.pushI (.bl _)) b.2.2
  | false=>exact k _ _ [] H (c.drop2.pushI (.bl _)) b.2.2
 ·exact b.elim
def Vt:Ad->Bool
 | .none=>true
 | _=>false
theorem V9(r:RdF K H v d F):decide (v=.non)=Vt d:=by
 cases r <;> simp [Vt]
def sT(a:Bool):D2:=λx y P=>match x,y with
 | .dat _ d,.dat _ .none=>P (.dat .ow (.bool (match a with | true=>!Vt d | false=>Vt d)))
 | _,_=>False
theorem ES:kQ K (λx y H Q=>y=.non/\Q (.bl (decide (x=.non))) H) (sT false):=by
 intro c X n S T x y v w F G H Q P b a k
 unfold sT at a
 split at a
 ·obtain ⟨rfl,_⟩:=(b.told mem_mid).non_inv
  refine ⟨rfl,k _ _ [] H (b.drop2.pushI (m:=.ow) (.bl _)) ?_⟩
  rw[V9 (b.told Ec)]
  exact a
 ·exact a.elim
end
section
variable{X:Cx}{a b:Expr}{d c:DE}{pos:Pos}
theorem fR(f:X.A.units+64<cLine)(e:Ee X a d)(hb:Ee X b c):Ee X (.Compare a [.Eq] [b] pos) (Wj (jG false) d c):=cG (A9 f) AJ e hb (Rh _)
theorem II(g:X.A.units+64<cLine)(e:Ee X a d)(hb:Ee X b c)(f:Kr .In b=false:=by with_unfolding_all rfl):Ee X (.Compare a [.In] [b] pos) (Wj (rQ false) d c):=cG (CA g) Y3 e hb f
end
def Nm:Md->Md
 | .ow=>.ow
 | .tp=>.sh
 | m=>m
theorem At.part(h:At K i X n (S++⟨some v,.dat m d,F⟩::T) H)(r:RdF K H w e G)(g:G.Sublist F):At K i X n (S++⟨some w,.dat (Nm m) e,G⟩::T) H:=by
 have c:=h.mid
 have j:=Ba.mp c.sep
 obtain ⟨p,o,q,l,s⟩:=c.ok _ Aa
 have cs:∀a∈cells ⟨some w,.dat (Nm m) e,G⟩,a∈cells ⟨some v,.dat m d,F⟩:=λa b=>by
  cases m with
  | ow=>exact g.subset b
  | tp=>exact nomatch b
  | sh=>exact nomatch b
  | pk=>exact nomatch b
 refine (h.drop.push (e:=⟨some w,.dat (Nm m) e,G⟩) ⟨w,rfl,r,λz=>?_,λz=>?_⟩ (λf k=>?_) λa b=>?_).tomid
 ·cases m with
  | ow=>exact (l rfl).sublist g
  | _=>cases z
 ·cases m <;> cases z
 ·refine ⟨λhp a b=>(j.1 f k).1 ?_ a (cs a b),λhp a b z=>(j.1 f k).2 ?_ a b (g.subset z)⟩
  ·rcases hp with hp | hp
   ·exact .inl hp
   ·cases hp
  ·rcases hp with hp | hp
   ·refine .inl ?_
    cases m <;> first | rfl | exact hp
   ·exact .inr hp
 ·rcases c.new _ Aa a (cs a b) with z | z
  ·exact .inl z
  ·cases z.2
def B5:D2:=λx y P=>match x,y with
 | .dat m (.list ds),.dat _ (.int i)=>∃d,Ss ds i=some d/\P (.dat (Nm m) d)
 | .dat m (.tuple ds),.dat _ (.int i)=>∃d,Ss ds i=some d/\P (.dat (Nm m) d)
 | .dat _ (.str z),.dat _ (.int i)=>z.length<=Az/\∃c,Ss z.cps.toList i=some c/\P (.dat .ow (.str ⟨#[c]⟩))
 | _,_=>False
theorem C1(r:RdFs K H xs a F)(h:Ss a i=some d):∃x G,Ss xs i=some x/\RdF K H x d G/\G.Sublist F:=by
 unfold Ss at h ⊢
 rw[r.len]
 cases e:yF a.length i with
 | none=>rw[e] at h; cases h
 | some j =>
  rw[e] at h
  exact r.get h
theorem At.swap(h:At K a X n (S++e::f::T) H):At K a X n (S++f::e::T) H:=h.perm ((Sx S).append (Fe f e T))
theorem IZ:kQ K (NJ K) B5:=by
 intro u X n S T x y v w F G H Q P b f k
 unfold B5 at f
 split at f
 ·obtain ⟨d,g,p⟩:=f
  obtain ⟨rfl,_⟩:=(b.told mem_mid).int_inv
  have r:=b.told Ec
  have e:=b.drop
  obtain ⟨a,t,z,rfl,i,h,s,_⟩:=r.list_inv
  obtain ⟨x,j,l,m,o⟩:=C1 h g
  subst s
  exact .inl ⟨_,_,_,_,rfl,rfl,Kv.of i,l,k _ _ j H (e.part m (o.trans (Cw _ _))) p⟩
 ·obtain ⟨d,g,p⟩:=f
  obtain ⟨rfl,_⟩:=(b.told mem_mid).int_inv
  have r:=b.told Ec
  have e:=b.drop
  obtain ⟨a,t,rfl,i,h,_⟩:=r.tup_inv
  obtain ⟨x,j,l,m,o⟩:=C1 h g
  exact .inr (.inl ⟨_,_,_,_,rfl,rfl,Ve.of i,l,k _ _ j H (e.part m o) p⟩)
 ·obtain ⟨q,c,g,p⟩:=f
  obtain ⟨rfl,_⟩:=(b.told mem_mid).int_inv
  obtain ⟨rfl,_⟩:=(b.told Ec).str_inv
  exact .inr (.inr ⟨_,_,_,rfl,rfl,q,g,k _ _ [] H (b.drop2.pushI (.str _)) p⟩)
 ·exact f.elim
theorem Dy(f:Ee X a d)(hb:Ee X b c)(e:iT b:=by intro _ _; rfl):Ee X (.Subscript a b pos) (Wj B5 d c):=HP FJ IZ f hb e
def Xa:Md->Md
 | .ow=>.ow
 | .pk=>.pk
 | _=>.tp
def Xf(i:Bool)(m:Md)(a:List Ad)(P:DV->Prop):Prop:=match i with
 | true=>Dl a=true/\P (.dat .ow (.list a))
 | false=>P (.dat (Xa m) (.list a))
def j7(i:Bool)(m:Md)(a:List Ad)(P:DV->Prop):Prop:=match i with
 | true=>Dl a=true/\P (.dat .ow (.tuple a))
 | false=>P (.dat (Nm m) (.tuple a))
section
variable{K:PySem.W.Frag}{c H:Hp}{X:Addr->Prop}{n:Nat}{S T:List Ent}{v w:V}{m:Md}{d e:Ad}{F G:List Addr}{p:Addr}{xs:List V}{b:List Ad}{P:DV->Prop}{i:Bool}
theorem At.newI(h:At K c X n (S++T) H)(r:RdFs K H xs b G)(q:Dl b=true)(hz:b.length<=Az)(g:H p=none)(m:Md):At K c X n (S++⟨some (.ref p),.dat m (.list b),[p]⟩::T) (upd H p (.lst xs)):=by
 obtain rfl:=r.imm q
 have i:=Gi g (.lst xs)
 have k:=h.grow (n':=n) i (Ar _)
 refine (k.push (e:=⟨some (.ref p),.dat m (.list b),[p]⟩) ⟨_,rfl,.lst Dq hz (r.kp (Kp.of i)),λ_=>Bw.mpr ⟨Bn,Dt⟩,λ_ a l z=>by cases z; exact Bn⟩ (λf o=>?_) λa d=>?_).tomid
 ·have j:=h.free g f o
  refine ⟨λ_ a d z=>?_,λ_ a d z=>?_⟩
  ·have:=Et _ a d
   rw[Ak.mp this] at z
   exact j z
  ·rw[Ak.mp z] at d
   exact j (Et _ _ d)
 ·have:=Et _ a d
  rw[Ak.mp this]
  exact .inl (h.new0 g)
theorem At.newL(h:At K c X n (S++⟨some v,.dat m d,F⟩::T) H)(r:RdFs K H xs b G)(s:G.Sublist F)(hz:b.length<=Az)(k:H p=none)(q:Xf i m b P):∃z A,At K c X n (S++⟨some (.ref p),z,A⟩::T) (upd H p (.lst xs))/\P z:=by
 cases i with
 | true=>exact ⟨_,_,h.drop.newI r q.1 hz k .ow,q.2⟩
 | false =>
  have q:P (.dat (Xa m) (.list b)):=q
  refine ⟨_,p::G,?_,q⟩
  have w:=Gi k (.lst xs)
  have j:=h.mid
  have x:=Ba.mp j.sep
  obtain ⟨E,D,_,B,_⟩:=j.ok _ Aa
  have C:=h.drop.grow (n':=n) w (Ar _)
  have t:p∉F:=j.free k _ Aa
  have o:p∉G:=λz=>t (s.subset z)
  have cs:∀a∈cells ⟨some (.ref p),.dat (Xa m) (.list b),p::G⟩,a=p\/(a∈cells ⟨some v,.dat m d,F⟩):=λa g=>by
   cases m with
   | ow =>
    rcases Ao.mp g with z | z
    ·exact .inl z
    ·exact .inr (s.subset z)
   | tp=>exact .inl (Ak.mp g)
   | sh=>exact .inl (Ak.mp g)
   | pk=>exact nomatch g
  refine (C.push (e:=⟨some (.ref p),.dat (Xa m) (.list b),p::G⟩) ⟨_,rfl,.lst Dq hz (r.kp (Kp.of w)),λz=>?_,λz a l e=>?_⟩ (λf u=>?_) λa g=>?_).tomid
  ·cases m with
   | ow=>exact Bw.mpr ⟨o,(B rfl).sublist s⟩
   | _=>cases z
  ·cases e
   exact o
  ·have y:=j.free k f (Ae _ u)
   refine ⟨λhq a g z=>?_,λhq a g z=>?_⟩
   ·rcases cs a g with rfl | hc
    ·exact y z
    ·refine (x.1 f u).1 ?_ a hc z
     rcases hq with hq | hq
     ·exact .inl hq
     ·cases hq
   ·rcases Ao.mp z with rfl | z
    ·exact y (Et _ _ g)
    ·refine (x.1 f u).2 ?_ a g (s.subset z)
     rcases hq with hq | hq
     ·refine .inl ?_
      cases m <;> first | rfl | exact hq
     ·exact .inr hq
  ·rcases cs a g with rfl | hc
   ·exact .inl (j.new0 k)
   ·rcases j.new _ Aa a hc with z | z
    ·exact .inl z
    ·cases z.2
theorem At.oldT(h:At K c X n (S++⟨some v,.dat m d,F⟩::T) H)(r:RdFs K H xs b G)(f:G.Sublist F)(hz:b.length<=Az)(a:H t=some (.tup xs))(q:j7 i m b P):∃z e,At K c X n (S++⟨some (.ref t),z,e⟩::T) H/\P z:=by
 cases i with
 | true =>
  obtain rfl:=r.imm q.1
  exact ⟨_,[],h.drop.pushI (.tup a hz r),q.2⟩
 | false=>exact ⟨_,G,h.part (.tup a hz r) f,q⟩
end
def HU:DA:=λa P=>P [] a
def AR(e:DE)(d:DA):DA:=λc P=>e c λx b=>d b λf a=>P (x::f) a
section
variable{X:Cx}{e:Expr}{es:List Expr}{a:DE}{b:DA}
theorem Ay:kB X [] HU:=by
 refine PA.imp Oz λf H Q h=>?_
 obtain ⟨e,Y,S,T,c,P,rfl,b,d,a,k⟩:=h
 exact k [] c [] [] S H rfl b rfl rfl d a
theorem Aj(t:Ee X e a)(w:kB X es b)(G:Bl (e::es) X.env=(false,eval e X.env)::Bl es X.env:=by rfl):kB X (e::es) (AR a b):=by
 refine PA.imp (Gz t w G) λK H Q h=>?_
 obtain ⟨i,Y,S,T,B,P,rfl,l,y,z,k⟩:=h
 refine ⟨i,Y,S,T,B,_,rfl,l,y,z,λx d v F q J A r g n=>?_⟩
 refine ⟨i,Y,q,⟨some v,x,F⟩::T,d,_,A,r,g,n,λI f o E j D s u m p c C=>?_⟩
 refine k (x::I) f (⟨some v,x,F⟩::o) (v::E) j D s u (by rw[Ax,m]) (by rw[Ax,Ax,p]) (c.perm ((Sx j).append ?_)) C
 exact Gj
end
def allOw:List DV->Bool
 | []=>true
 | .dat .ow _::xs=>allOw xs
 | _=>false
def noPk:List DV->Bool
 | []=>true
 | .dat .pk _::_=>false
 | .dat _ _::xs=>noPk xs
 | _=>false
def datas:List DV->Option (List Ad)
 | []=>some []
 | .dat _ d::xs=>(datas xs).map (d::·)
 | _=>none
def pkMd(Qj:Md)(xs:List DV):Md:=if allOw xs=true then .ow else if noPk xs=true then Qj else .pk
section
variable{K:PySem.W.Frag}{c H:Hp}{X:Addr->Prop}{n:Nat}{S T As:List Ent}
theorem bH:∀{As:List Ent} {us:List V} {a:List Ad},As.map Ent.v=us.map some->datas (As.map Ent.x)=some a->(∀e∈As,Ho K H n e)->RdFs K H us a (As.flatMap Ent.F)
 | [],us,a,e,h,_=>by
  cases us with
  | nil=>cases h; exact .nil
  | cons _ _=>cases e
 | ent::As,us,a,e,h,ok=>by
  cases us with
  | nil=>cases e
  | cons u us =>
   rw[Ax,Ax] at e
   obtain ⟨i,g⟩:=Dd e
   obtain ⟨v,x,F⟩:=ent
   have c:v=some u:=i
   subst c
   rw[Ax] at h
   cases x with
   | dat m d =>
    rw[show datas (DV.dat m d::As.map Ent.x)=(datas (As.map Ent.x)).map (d::·) from rfl] at h
    cases q:datas (As.map Ent.x) with
    | none=>rw[q] at h; cases h
    | some l =>
     rw[q] at h
     cases h
     obtain ⟨w,k,b,_⟩:=ok _ Aa
     cases k
     rw[List.flatMap_cons]
     exact .cons b (bH g q λf j=>ok f (Ae _ j))
   | _=>cases h
theorem Qs:∀{As:List Ent},allOw (As.map Ent.x)=true->∀e∈As,∃d,e.x=.dat .ow d
 | [],_,_,h=>nomatch h
 | ⟨v,x,F⟩::As,h,e,he=>by
  rw[Ax] at h
  have a:(∃d,x=.dat .ow d)/\allOw (As.map Ent.x)=true:=by
   cases x with
   | dat m d=>cases m <;> first | exact ⟨⟨d,rfl⟩,h⟩ | cases h
   | _=>cases h
  rcases Ao.mp he with rfl | he
  ·exact a.1
  ·exact Qs a.2 e he
theorem mG:∀{As:List Ent},noPk (As.map Ent.x)=true->∀e∈As,Lf e.x=false
 | [],_,_,h=>nomatch h
 | ⟨v,x,F⟩::As,h,e,he=>by
  rw[Ax] at h
  have a:Lf x=false/\noPk (As.map Ent.x)=true:=by
   cases x with
   | dat m d=>cases m <;> first | exact ⟨rfl,h⟩ | cases h
   | _=>cases h
  rcases Ao.mp he with rfl | he
  ·exact a.1
  ·exact mG a.2 e he
theorem bU:∀{As:List Ent},(∀e∈As,∃d,e.x=.dat .ow d)->(∀e∈As,Ho K H n e)->As.Pairwise Ws->(As.flatMap Ent.F).Nodup
 | [],_,_,_=>Dt
 | ent::As,ho,ok,hs=>by
  rw[List.flatMap_cons]
  have i:=Ba.mp hs
  obtain ⟨v,x,F⟩:=ent
  obtain ⟨d,k⟩:=ho _ Aa
  have c:x=.dat .ow d:=k
  subst c
  obtain ⟨w,_,_,l,_⟩:=ok _ Aa
  refine Gy.mpr ⟨l rfl,bU (λe h=>ho e (Ae _ h)) (λe h=>ok e (Ae _ h)) i.2,λa m b g z=>?_⟩
  subst z
  obtain ⟨f,j,g⟩:=Jb.mp g
  obtain ⟨o,c⟩:=ho f (Ae _ j)
  exact (i.1 f j).1 (.inl (by rw[c]; rfl)) a m g
theorem At.pack(h:At K c X n (S++(As++T)) H)(s:Tf H H')(I:∀a∈N,H a=none)(C:N.Nodup)(m:(Qj=.tp/\N.length=1)\/(Qj=.sh/\N=[]))(r:RdF K H' v d (N++As.flatMap Ent.F)):At K c X n (S++⟨some v,.dat (pkMd Qj (As.map Ent.x)) d,N++As.flatMap Ent.F⟩::T) H':=by
 have L:(S++(As++T)).Perm (As++(S++T)):=by
  rw[<- Df,<- Df]
  exact Vj.append_right T
 have w:=h.perm L
 have G:=Da.mp w.sep
 have u:=(h.dropL).grow (n':=n) s (Ar _)
 have E:∀a∈N,∀f∈As++(S++T),a∉f.F:=λa i f p=>w.free (I a i) f p
 have j:∀a∈N,a∉As.flatMap Ent.F:=λa i z=>by
  obtain ⟨f,p,z⟩:=Jb.mp z
  exact E a i f (Ap _ p) z
 have cs:∀a∈cells ⟨some v,.dat (pkMd Qj (As.map Ent.x)) d,N++As.flatMap Ent.F⟩,a∈N\/(allOw (As.map Ent.x)=true/\∃f∈As,a∈cells f):=λa i=>by
  unfold pkMd at i
  by_cases k:allOw (As.map Ent.x)=true
  ·rw[if_pos k] at i
   rcases Bf.mp i with z | z
   ·exact .inl z
   ·obtain ⟨f,p,z⟩:=Jb.mp z
    obtain ⟨J,o⟩:=Qs k f p
    refine .inr ⟨k,f,p,?_⟩
    unfold cells
    rw[o]
    exact z
  ·rw[if_neg k] at i
   by_cases y:noPk (As.map Ent.x)=true
   ·rw[if_pos y] at i
    rcases m with ⟨rfl,u⟩ | ⟨rfl,rfl⟩
    ·match N,u,i with
     | [b],_,i=>exact .inl i
    ·exact nomatch i
   ·rw[if_neg y] at i
    exact nomatch i
 refine (u.push (e:=⟨some v,.dat (pkMd Qj (As.map Ent.x)) d,N++As.flatMap Ent.F⟩) ⟨_,rfl,r,λz=>?_,λz a l e=>?_⟩ (λf p=>?_) λa i=>?_).tomid
 ·have k:allOw (As.map Ent.x)=true:=by
   unfold pkMd at z
   by_cases k:allOw (As.map Ent.x)=true
   ·exact k
   ·rw[if_neg k] at z
    split at z
    ·rcases m with ⟨rfl,_⟩ | ⟨rfl,_⟩ <;> cases z
    ·cases z
  refine Gy.mpr ⟨C,bU (Qs k) (λe O=>w.ok e (Ap _ O)) G.1,λa i b M e=>?_⟩
  subst e
  exact j a i M
 ·have P:Qj=.tp:=by
   unfold pkMd at z
   split at z
   ·cases z
   ·split at z
    ·exact z
    ·cases z
  subst P
  rcases m with ⟨_,u⟩ | ⟨u,_⟩
  ·match N,u,e,j with
   | [b],_,e,j =>
    cases e
    exact j a Aa
  ·cases u
 ·have A:f∈As++(S++T):=Aw _ p
  refine ⟨λhq a i z=>?_,λhq a i z=>?_⟩
  ·rcases cs a i with B | ⟨_,g,t,D⟩
   ·exact E a B f A z
   ·refine (G.2.2 g t f p).1 ?_ a D z
    rcases hq with hq | hq
    ·exact .inl hq
    ·cases hq
  ·rcases Bf.mp z with z | z
   ·exact E a z f A (Et _ _ i)
   ·obtain ⟨g,t,z⟩:=Jb.mp z
    refine (G.2.2 g t f p).2 ?_ a i z
    rcases hq with hq | hq
    ·refine .inl ?_
     have q:Lf (.dat (pkMd Qj (As.map Ent.x)) d)=false:=hq
     unfold pkMd at q
     by_cases k:allOw (As.map Ent.x)=true
     ·obtain ⟨J,o⟩:=Qs k g t
      rw[o]
      rfl
     ·rw[if_neg k] at q
      by_cases y:noPk (As.map Ent.x)=true
      ·exact mG y g t
      ·rw[if_neg y] at q
       cases q
    ·exact .inr hq
 ·rcases cs a i with B | ⟨_,g,t,D⟩
  ·exact .inl (w.new0 (I a B))
  ·rcases w.new g (Ap _ t) a D with z | z
   ·exact .inl z
   ·obtain ⟨J,o⟩:=Qs (by assumption) g t
    rw[o] at z
    cases z.2
end
def HA(e:DA):DE:=λd P=>e d λc a=>match datas c with
 | some b=>b.length<=1000/\P (.dat (pkMd .sh c) (.tuple b)) a
 | none=>False
def GQ(e:DA):DE:=λd P=>e d λc a=>match datas c with
 | some b=>b.length<=1000/\P (.dat (pkMd .tp c) (.list b)) a
 | none=>False
section
variable{X:Cx}{es:List Expr}{b:DA}{pos:Pos}
theorem Qg(h:kB X es b):Ee X (.Tuple es x1 pos) (HA b):=by
 refine PE.imp (BK h) λC H Q h=>?_
 obtain ⟨g,Y,S,T,v,P,rfl,f,n,o,k⟩:=h
 refine ⟨g,Y,S,T,v,_,rfl,f,n,o,λB c D x A F u m i l a p=>?_⟩
 cases q:datas B with
 | none=>rw[q] at p; exact p.elim
 | some j =>
  rw[q] at p
  subst i
  have r:=bH l q λe s=>a.ok e (Aw _ (Ap _ s))
  have E:=r.len
  have y:j.length<=Az:=sz p.1
  refine ⟨by omega,λt w=>?_⟩
  have d:=Gi w (.tup x)
  exact k _ c _ _ A _ u m (a.pack (N:=[]) d (λ_ z=>nomatch z) Dt (.inr ⟨rfl,rfl⟩) (.tup Dq y (r.kp (Kp.of d)))) p.2
theorem Fv(h:kB X es b):Ee X (.List es pos) (GQ b):=by
 refine PE.imp (jC h) λD H Q h=>?_
 obtain ⟨j,Y,S,T,x,P,rfl,i,s,u,k⟩:=h
 refine ⟨j,Y,S,T,x,_,rfl,i,s,u,λC d E y B G w o l n c p=>?_⟩
 cases q:datas C with
 | none=>rw[q] at p; exact p.elim
 | some m =>
  rw[q] at p
  subst l
  have r:=bH n q λe v=>c.ok e (Aw _ (Ap _ v))
  have F:=r.len
  have A:m.length<=Az:=sz p.1
  refine ⟨by omega,λt f=>?_⟩
  have g:=Gi f (.lst y)
  exact k _ d _ _ B _ w o (c.pack (N:=[t]) g (λa z=>by rw[Ak.mp z]; exact f) (Bw.mpr ⟨Bn,Dt⟩) (.inl ⟨rfl,rfl⟩) (.lst Dq A (r.kp (Kp.of g)))) p.2
end
end DL
namespace Nd
open PySem PySem.Spec PyProof.Rows L2
section
variable{X:Cx}
def AS:V->Option Int->Option Int->Hp->VK->Prop:=λx lo d H Q=>∃a c,x=.ref a/\H a=some (.tup c)/\∀p b,b p=some (.tup (bG c lo d))->Tf H b->Q (.ref p) b
theorem O7:EC X AS:=by
 intro e s o H x v y w lo l z Q I u m n j h
 obtain ⟨a,b,rfl,c,q⟩:=h
 have i:Ve X.K H a b:=Ve.of c
 cases u
 by_cases f:HT.sIx b.length 0 lo=0/\HT.sIx b.length b.length l=b.length
 ·obtain ⟨g,r,k,A⟩:=I.tuple i
  have d:g.toArray.size=b.length:=by rw[Av]; exact r.length.symm
  refine ⟨"tuple",_,Er.lookup,k.typeIs,?_⟩
  refine Vf k m n j (by rw[d]; exact f) ⟨.ref a,H,I,rfl,q a H ?_ (Tf.refl _)⟩
  unfold bG
  rw[f.1,f.2,List.drop_zero,Nat.sub_zero,Fp]
  exact c
 ·exact EY e s o H (.ref a) (.ref a) y w lo l z Q I rfl m n j ⟨a,b,rfl,i,f,λp t=>q p _ Dq (Gi t _)⟩
end
theorem Ry:∀{vs:List Value} {ns:List Int},Fs (ns.map V.int) vs->∃xs:List (Int×Tok),vs=xs.map (λp=>Nv p.1 p.2)/\xs.map (·.1)=ns
 | [],[],_=>⟨[],rfl,rfl⟩
 | v::vs,n::ns,h=>by
  cases h with
  | cons b c =>
   obtain ⟨t,rfl⟩:=b
   obtain ⟨xs,a,d⟩:=Ry c
   exact ⟨(n,t)::xs,by rw[a]; rfl,by rw[<- d]; rfl⟩
 | [],n::ns,h=>nomatch h
 | v::vs,[],h=>nomatch h
section
variable{X:Cx}
def AA(K:PySem.W.Frag):List V->Hp->VK->Prop:=λc H Q=>∃(a:Addr) (b:List Int),c=[.ref a]/\Kv K H a (b.map V.int)/\b≠[]/\∀M∈b,(∀x∈b,M<=x)->Q (.int M) H
def AX(K:PySem.W.Frag):List V->Hp->VK->Prop:=λc H Q=>∃(a:Addr) (b:List Int),c=[.ref a]/\Kv K H a (b.map V.int)/\b≠[]/\∀M∈b,(∀x∈b,x<=M)->Q (.int M) H
theorem Ur(w:X.calm=true):Pe X (.builtin "min") (AA X.K):=by
 intro d s C H L F Q I r h
 obtain ⟨p,D,rfl,g,n,q⟩:=h
 obtain ⟨u,rfl,z⟩:=vals1 r
 cases z
 obtain ⟨l,B,A,_⟩:=I.list g
 obtain ⟨a,rfl,rfl⟩:=Ry B
 have m:s.heap.IsList p (Si a.toArray):=by simpa [Si] using A.isList
 have b:0<a.toArray.size:=by rcases a with _ | ⟨x,a⟩ <;> simp at n ⊢
 refine min_intList (I.ok.hd w) m b λv G E e k=>?_
 obtain ⟨t,rfl⟩:=intItems_at e
 obtain ⟨J,i⟩:=argBest_lt (numAt a.toArray) (a.toArray.size - 1)
 refine ⟨.int _,H,I.kept k,⟨t,rfl⟩,q _ ?_ λx f=>?_⟩
 ·rw[numAt_eq]; exact getD_mem (by rw[Ac]; show _<a.length; have y:a.toArray.size=a.length:=Av; omega)
 ·obtain ⟨j,c,rfl⟩:=mem_getD f
  rw[Ac] at c
  have:=i j (by have y:a.toArray.size=a.length:=Av; have o:j<a.length:=c; omega)
  rw[numAt_eq a.toArray j] at this
  exact this
theorem Yp(w:X.calm=true):Pe X (.builtin "max") (AX X.K):=by
 intro d s C H L F Q I r h
 obtain ⟨p,D,rfl,g,n,q⟩:=h
 obtain ⟨u,rfl,z⟩:=vals1 r
 cases z
 obtain ⟨l,B,A,_⟩:=I.list g
 obtain ⟨a,rfl,rfl⟩:=Ry B
 have m:s.heap.IsList p (Si a.toArray):=by simpa [Si] using A.isList
 have b:0<a.toArray.size:=by rcases a with _ | ⟨x,a⟩ <;> simp at n ⊢
 refine max_intList (I.ok.hd w) m b λv G E e k=>?_
 obtain ⟨t,rfl⟩:=intItems_at e
 obtain ⟨J,i⟩:=argBest_gt (numAt a.toArray) (a.toArray.size - 1)
 refine ⟨.int _,H,I.kept k,⟨t,rfl⟩,q _ ?_ λx f=>?_⟩
 ·rw[numAt_eq]; exact getD_mem (by rw[Ac]; show _<a.length; have y:a.toArray.size=a.length:=Av; omega)
 ·obtain ⟨j,c,rfl⟩:=mem_getD f
  rw[Ac] at c
  have:=i j (by have y:a.toArray.size=a.length:=Av; have o:j<a.length:=c; omega)
  rw[numAt_eq a.toArray j] at this
  exact this
end
end Nd
namespace Ts
open PySem PyProof.Rows
structure Cmp(prog:Bp)(w:World)(A:Cn)(s:Am)(kd:Od)(Ok:Keyed->Prop)(blt:Keyed->Keyed->Bool):Prop where
 run:∀(x y:Keyed) (Q:Bool->Am->Prop) (E:Value->Am->Prop),Ok x->Ok y->Q (blt x y) s->wpAny (model prog w) A (keyLt' kd x.1 y.1) Q E s
 irr:∀x,blt x x=false
 tr:∀x y z,blt x y=true->blt y z=true->blt x z=true
 neg:∀x y z,blt x z=true->blt x y=true\/blt y z=true
def le(blt:Keyed->Keyed->Bool)(x y:Keyed):Prop:=blt y x=false
section
variable{prog:Bp}{w:World}{A:Cn}{s:Am}{a:Od}{Ok:Keyed->Prop}{blt:Keyed->Keyed->Bool}
theorem Cmp.refl(C:Cmp prog w A s a Ok blt)(x:Keyed):le blt x x:=C.irr x
theorem Cmp.ofLt(C:Cmp prog w A s a Ok blt)(h:blt x y=true):le blt x y:=by
 unfold le
 cases q:blt y x with
 | false=>rfl
 | true=>have:=C.tr _ _ _ h q; rw[C.irr] at this; cases this
theorem Cmp.trans(C:Cmp prog w A s a Ok blt)(h1:le blt x y)(b:le blt y z):le blt x z:=by
 unfold le at *
 cases q:blt z x with
 | false=>rfl
 | true =>
  rcases C.neg _ y _ q with h | h
  ·rw[b] at h; cases h
  ·rw[h1] at h; cases h
theorem Cmp.ltLe(C:Cmp prog w A s a Ok blt)(h1:blt x y=true)(b:le blt y z):blt x z=true:=by
 unfold le at b
 rcases C.neg _ z _ h1 with h | h
 ·exact h
 ·rw[b] at h; cases h
variable{E:Value->Am->Prop}
theorem IQ(C:Cmp prog w A s a Ok blt){st:Eb}{x y:Keyed}{Q:Option Bool->Eb->Prop}(b:kindOf st=a)(d:Ok x)(c:Ok y)(h:Q (some (blt x y)) st):wpS (model prog w) A E s (lt' x y) Q st:=by
 rw[lt'_eq]
 refine Dx (wpS_get ?_)
 rw[b]
 exact Dx (wpS_lift (Mp (C.run x y _ _ d c ⟨rfl,Gc h⟩)))
theorem tU{st:Eb}{xs:Array Keyed}{i:Nat}{p:Keyed}{Q:Keyed->Eb->Prop}(h:xs[i]? = some p)(q:Q p st):wpS (model prog w) A E s (elem' xs i) Q st:=by
 rw[elem'_eq,h]
 exact Gc q
end
abbrev lst(p q out:Array Keyed)(i j:Nat):Array Keyed:=out++q.extract j q.size++p.extract i p.size
section
variable{prog:Bp}{w:World}{A:Cn}{s:Am}{a:Od}{Ok:Keyed->Prop}{blt:Keyed->Keyed->Bool}{E:Value->Am->Prop}
theorem uJ{st:Eb}{x:String}{Q:Unit->Eb->Prop}(h:Q () st):wpS (model prog w) A E s (liftM (rule x):StateT Eb Sem Unit) Q st:=wpS_lift (Pi ⟨rfl,h⟩)
theorem uR{p:Array Keyed}{i:Nat}{x:Keyed}(h:p[i]? = some x):p.toList[i]? = some x:=by simpa using h
theorem DD{p:Array Keyed}{i:Nat}{x:Keyed}(h:p[i]? = some x):x∈p.toList:=Au (uR h)
end
def gQ:Nat->Nat->StateT Eb Sem (Option Nat):=sortPriv% PySem.Builtin.countRun
def Ze:Nat->Nat->Nat->StateT Eb Sem Bool:=sortPriv% PySem.Builtin.binarySort
def X(xs:Array Keyed)(i:Nat):Keyed:=xs[i]?.getD (Jf,Jf)
theorem yZ(h:i<xs.size):xs[i]? = some (X xs i):=by
 unfold X
 rw[getElem?_pos xs i h]
 rfl
theorem Xc(h:xs[i]? = ys[j]?):X xs i=X ys j:=by unfold X; rw[h]
theorem Tj(a:j<=xs.size)(k:Nat):X (mirror xs i j ((j - i) / 2)) k=if i<=k/\k<j then X xs (i+j - 1 - k) else X xs k:=by
 have e:=getElem?_mirror_all (i:=i) a k
 by_cases h:i<=k/\k<j
 ·rw[if_pos h] at e ⊢; exact Xc e
 ·rw[if_neg h] at e ⊢; exact Xc e
theorem t5(c:src<xs.size)(hd:d<=src)(k:Nat):X (bubble xs src d) k=if k=src - d then X xs src else if src - d<k/\k<=src then X xs (k - 1) else X xs k:=by
 have e:=getElem?_bubble c d hd k
 by_cases a:k=src - d
 ·rw[if_pos a] at e ⊢; exact Xc e
 ·rw[if_neg a] at e ⊢
  by_cases b:src - d<k/\k<=src
  ·rw[if_pos b] at e ⊢; exact Xc e
  ·rw[if_neg b] at e ⊢; exact Xc e
def kR(blt:Keyed->Keyed->Bool)(xs:Array Keyed)(a b:Nat):Prop:=∀i j,a<=i->i<=j->j<b->le blt (X xs i) (X xs j)
def yE(blt:Keyed->Keyed->Bool)(xs:Array Keyed)(a b:Nat):Prop:=∀i j,a<=i->i<=j->j<b->le blt (X xs j) (X xs i)
structure Good(kd:Od)(a₀:Array Keyed)(pend:Array (Nat×Nat×Nat))(st:Eb):Prop where
 kind:kindOf st=kd
 fail:failedOf st=none
 perm:(arrOf st).Perm a₀
 pd:Ir st=pend
def vT(xs ys:Array Keyed)(a b:Nat):Prop:=∀i,(i<a\/b<=i)->X ys i=X xs i
theorem vT.refl(xs:Array Keyed)(a b:Nat):vT xs xs a b:=λ_ _=>rfl
theorem vT.trans(h:vT xs ys a b)(k:vT ys c a b):vT xs c a b:=λi d=>(k i d).trans (h i d)
section
variable{prog:Bp}{w:World}{A:Cn}{s:Am}{f:Od}{Ok:Keyed->Prop}{blt:Keyed->Keyed->Bool}{E:Value->Am->Prop}{a₀:Array Keyed}{d:Array (Nat×Nat×Nat)}
theorem Good.size{st:Eb}(g:Good f a₀ d st):(arrOf st).size=a₀.size:=g.perm.size_eq
theorem Good.okX{st:Eb}(g:Good f a₀ d st)(h0:∀x∈a₀.toList,Ok x){i:Nat}(a:i<a₀.size):Ok (X (arrOf st) i):=by
 have e:=yZ (xs:=arrOf st) (i:=i) (by rw[g.size]; exact a)
 exact h0 _ ((gW.mp g.perm).mem_iff.mp (DD e))
theorem Good.set{st:Eb}(g:Good f a₀ d st){xs:Array Keyed}(h:xs.Perm (arrOf st)):Good f a₀ d (setArr st xs):=⟨g.kind,g.fail,h.trans g.perm,g.pd⟩
theorem Xb(C:Cmp prog w A s f Ok blt){st:Eb}(g:Good f a₀ d st)(h0:∀x∈a₀.toList,Ok x){i j:Nat}(a:i<a₀.size)(b:j<a₀.size){Q:Option Bool->Eb->Prop}(h:Q (some (blt (X (arrOf st) i) (X (arrOf st) j))) st):wpS (model prog w) A E s (ltAt' i j) Q st:=by
 rw[ltAt'_eq]
 refine Dx (wpS_get ?_)
 refine Dx (tU (yZ (by rw[g.size]; exact a)) ?_)
 refine Dx (tU (yZ (by rw[g.size]; exact b)) ?_)
 exact IQ C g.kind (g.okX h0 a) (g.okX h0 b) h
theorem Rq{st:Eb}{i j:Nat}{Q:Unit->Eb->Prop}(h:Q () (setArr st (mirror (arrOf st) i j ((j - i) / 2)))):wpS (model prog w) A E s (Uz i j) Q st:=by
 rw[reverseSlice'_eq]
 exact wpS_modify h
def GT(lo a b:Nat):StateT Eb Sem (Option (Option Nat)×Nat) :=
 forIn [a:b] ((none,a):Option (Option Nat)×Nat) λ_ c=>do
  let some mU <- ltAt' (lo+c.2) (lo+c.2 - 1) | pure (Os (some none,c.2))
  if mU=true then pure (Os (none,c.2)) else pure (Hv (none,c.2+1))
theorem M7(C:Cmp prog w A s f Ok blt){st:Eb}(g:Good f a₀ d st)(h0:∀x∈a₀.toList,Ok x){lo a b:Nat}(hb:lo+b<=a₀.size)(z:1<=a)(m:a<=b)(h1:kR blt (arrOf st) lo (lo+a)){Q:Option (Option Nat)×Nat->Eb->Prop}(h:∀n,a<=n->n<=b->kR blt (arrOf st) lo (lo+n)->(n=b\/blt (X (arrOf st) (lo+n)) (X (arrOf st) (lo+n - 1))=true)->Q (none,n) st):wpS (model prog w) A E s (GT lo a b) Q st:=by
 unfold GT
 refine Qy (I:=λx c e=>e=st/\c=(none,x)/\kR blt (arrOf st) lo (lo+x)) ?_ ?_ ⟨rfl,rfl,h1⟩
 ·(intro x c e q v o; obtain ⟨rfl,rfl,k⟩ := o)
  dsimp only
  refine Dx (Xb C g h0 (by omega) (by omega) ?_)
  dsimp only
  cases t:blt (X (arrOf e) (lo+x)) (X (arrOf e) (lo+x - 1)) with
  | true =>
   rw[if_pos rfl]
   exact Gc (h x q (by omega) k (.inr t))
  | false =>
   rw[if_neg Cr]
   refine Gc ⟨rfl,rfl,λi j u l B=>?_⟩
   by_cases p:j<lo+x
   ·exact k i j u l p
   ·have y:j=lo+x:=by omega
    subst y
    by_cases r:i=lo+x
    ·subst r; exact C.refl _
    ·exact C.trans (k i (lo+x - 1) u (by omega) (by omega)) t
 ·(intro c e o; obtain ⟨rfl,rfl,k⟩ := o)
  rw[show max a b=b by omega] at k ⊢
  exact h b m (Ar _) k (.inl rfl)
theorem pC{xs:Array Keyed}{lo n:Nat}(a:lo+n<=xs.size)(h:yE blt xs lo (lo+n)):kR blt (mirror xs lo (lo+n) ((lo+n - lo) / 2)) lo (lo+n):=λi j d b c=>by
 rw[Tj a,Tj a,if_pos (by omega),if_pos (by omega)]
 exact h _ _ (by omega) (by omega) (by omega)
theorem Yv{xs:Array Keyed}{lo n b e:Nat}(m:lo+n<=xs.size)(l:e<=lo+n)(hb:lo<=b)(h:yE blt xs lo (lo+n))(c:∀i j,b<=i->i<e->b<=j->j<e->le blt (X xs i) (X xs j)):yE blt (mirror xs b e ((e - b) / 2)) lo (lo+n):=λi j g d k=>by
 rw[Tj (by omega),Tj (by omega)]
 by_cases f:b<=j/\j<e
 ·rw[if_pos f]
  by_cases a:b<=i/\i<e
  ·rw[if_pos a]
   exact c _ _ (by omega) (by omega) (by omega) (by omega)
  ·rw[if_neg a]
   exact h _ _ g (by omega) (by omega)
 ·rw[if_neg f]
  by_cases a:b<=i/\i<e
  ·rw[if_pos a]
   exact h _ _ (by omega) (by omega) (by omega)
  ·rw[if_neg a]
   exact h i j g d k
theorem Re(h1:a<=i)(e:j<=b)(c:j<=xs.size):vT xs (mirror xs i j ((j - i) / 2)) a b:=λk d=>by
 rw[Tj c,if_neg (by omega)]
def C9(lo n b:Nat):StateT Eb Sem (Option Nat):=do
 Uz lo (lo+n)
 let mut m:=n
 for _ in [n:b] do
  let some mU <- ltAt' (lo+m) (lo+m - 1) | return none
  if mU then break
  m:=m+1
 return some m
theorem tL(C:Cmp prog w A s f Ok blt){st:Eb}(g:Good f a₀ d st)(h0:∀x∈a₀.toList,Ok x){lo n b:Nat}(hb:lo+b<=a₀.size)(o:1<=n)(i:n<=b)(h1:yE blt (arrOf st) lo (lo+n)){Q:Option Nat->Eb->Prop}(h:∀m a,Good f a₀ d a->1<=m->m<=b->kR blt (arrOf a) lo (lo+m)->vT (arrOf st) (arrOf a) lo (lo+b)->Q (some m) a):wpS (model prog w) A E s (C9 lo n b) Q st:=by
 unfold C9
 have c:lo+n<=(arrOf st).size:=by rw[g.size]; omega
 refine Dx (Rq ?_)
 have j:Good f a₀ d (setArr st (mirror (arrOf st) lo (lo+n) ((lo+n - lo) / 2))):=g.set (mirror_perm _ _ _ _)
 refine Dx (M7 C j h0 hb o i (pC c h1) λm l e k _=>?_)
 exact Gc (h m _ j (by omega) e k (Re (Ar _) (by omega) c))
abbrev GA:=Option (Option Nat)×Nat×Nat
def KH(lo a b:Nat):StateT Eb Sem GA :=
 forIn [a:b] ((none,a,0):GA) λ_ c=>do
  let some mU <- ltAt' (lo+c.2.1) (lo+c.2.1 - 1) | pure (Os (some none,c.2.1,c.2.2))
  if mU=true then
   if c.2.2 > 0 then do
    Uz (lo+c.2.1 - (c.2.2+1)) (lo+c.2.1)
    pure (Hv (none,c.2.1+1,0))
   else pure (Hv (none,c.2.1+1,0))
  else do
   let some more <- ltAt' (lo+c.2.1 - 1) (lo+c.2.1) | pure (Os (some none,c.2.1,c.2.2))
   if more=true then pure (Os (none,c.2.1,c.2.2)) else pure (Hv (none,c.2.1+1,c.2.2+1))
def O1(blt:Keyed->Keyed->Bool)(xs:Array Keyed)(lo n e:Nat):Prop:=e+1<=n/\∀i j,lo+n - (e+1)<=i->i<lo+n->lo+n - (e+1)<=j->j<lo+n->le blt (X xs i) (X xs j)
theorem E3(C:Cmp prog w A s f Ok blt){xs:Array Keyed}{lo n:Nat}(h:1<=n):O1 blt xs lo n 0:=⟨by omega,λi j b d a c=>by
 have e:i=j:=by omega
 subst e
 exact C.refl _⟩
theorem Wp(C:Cmp prog w A s f Ok blt){xs:Array Keyed}{lo n:Nat}(g:1<=n)(h:yE blt xs lo (lo+n))(hl:le blt (X xs (lo+n)) (X xs (lo+n - 1))):yE blt xs lo (lo+(n+1)):=λi j d a k=>by
 by_cases b:j<lo+n
 ·exact h i j d a b
 ·have e:j=lo+n:=by omega
  subst e
  by_cases c:i=lo+n
  ·subst c; exact C.refl _
  ·exact C.trans hl (h i (lo+n - 1) d (by omega) (by omega))
theorem U6(C:Cmp prog w A s f Ok blt){st:Eb}(g:Good f a₀ d st)(h0:∀x∈a₀.toList,Ok x){lo a b:Nat}(hb:lo+b<=a₀.size)(O:1<=a)(q:a<=b)(h1:yE blt (arrOf st) lo (lo+a)){Q:GA->Eb->Prop}(h:∀n e k,Good f a₀ d k->a<=n->n<=b->yE blt (arrOf k) lo (lo+n)->O1 blt (arrOf k) lo n e->vT (arrOf st) (arrOf k) lo (lo+b)->Q (none,n,e) k):wpS (model prog w) A E s (KH lo a b) Q st:=by
 unfold KH
 refine Qy (I:=λx c k=>∃e,c=(none,x,e)/\Good f a₀ d k/\yE blt (arrOf k) lo (lo+x)/\O1 blt (arrOf k) lo x e/\vT (arrOf st) (arrOf k) lo (lo+b)) ?_ ?_
  ⟨0,rfl,g,h1,E3 C O,vT.refl _ _ _⟩
 ·(intro x c k y N u; obtain ⟨e,rfl,m,p,l,o⟩ := u)
  have M:(arrOf k).size=a₀.size:=m.size
  dsimp only
  refine Dx (Xb C m h0 (by omega) (by omega) ?_)
  dsimp only
  cases G:blt (X (arrOf k) (lo+x)) (X (arrOf k) (lo+x - 1)) with
  | true =>
   rw[if_pos rfl]
   have K:=Wp C (by omega) p (C.ofLt G)
   have one:∀F:Array Keyed,O1 blt F lo (x+1) 0:=λF=>⟨by omega,λi j r z t v=>by
    have : i=j:=by omega
    subst this
    exact C.refl _⟩
   by_cases H:e > 0
   ·rw[if_pos H]
    refine Dx (Rq ?_)
    refine Gc ⟨0,rfl,m.set (mirror_perm _ _ _ _),?_,one _,o.trans (Re (by have:=l.1; omega) (by omega) (by omega))⟩
    exact Yv (by omega) (by omega) (by have:=l.1; omega) K λi j r z t v=>l.2 i j r z t v
   ·rw[if_neg H]
    exact Gc ⟨0,rfl,m,K,one _,o⟩
  | false =>
   rw[if_neg Cr]
   refine Dx (Xb C m h0 (by omega) (by omega) ?_)
   dsimp only
   cases J:blt (X (arrOf k) (lo+x - 1)) (X (arrOf k) (lo+x)) with
   | true =>
    rw[if_pos rfl]
    exact Gc (h x e k m y (by omega) p l o)
   | false =>
    rw[if_neg Cr]
    refine Gc ⟨e+1,rfl,m,Wp C (by omega) p J,⟨by have:=l.1; omega,λi j r z t v=>?_⟩,o⟩
    have P:le blt (X (arrOf k) (lo+x - 1)) (X (arrOf k) (lo+x)):=G
    have L:le blt (X (arrOf k) (lo+x)) (X (arrOf k) (lo+x - 1)):=J
    by_cases D:i=lo+x
    ·by_cases B:j=lo+x
     ·rw[D,B]; exact C.refl _
     ·rw[D]
      exact C.trans L (l.2 (lo+x - 1) j (by omega) (by omega) (by omega) (by omega))
    ·by_cases B:j=lo+x
     ·rw[B]
      exact C.trans (l.2 i (lo+x - 1) (by omega) (by omega) (by omega) (by omega)) P
     ·exact l.2 i j (by omega) (by omega) (by omega) (by omega)
 ·(intro c k u; obtain ⟨e,rfl,m,p,l,o⟩ := u)
  rw[show max a b=b by omega] at p l ⊢
  exact h b e k m q (Ar _) p l o
def AD(lo n b:Nat):StateT Eb Sem (Option Nat):=do
 liftM (rule "list.sort.descending-run")
 let mut m:=n+1
 let mut e:=0
 for _ in [m:b] do
  let some mU <- ltAt' (lo+m) (lo+m - 1) | return none
  if mU then
   if e > 0 then Uz (lo+m - (e+1)) (lo+m)
   e:=0
  else
   let some more <- ltAt' (lo+m - 1) (lo+m) | return none
   if more then break
   e:=e+1
  m:=m+1
 if e > 0 then Uz (lo+m - (e+1)) (lo+m)
 C9 lo m b
theorem uD(C:Cmp prog w A s f Ok blt){st:Eb}(g:Good f a₀ d st)(h0:∀x∈a₀.toList,Ok x){lo n b:Nat}(hb:lo+b<=a₀.size)(u:n+1<=b)(h1:yE blt (arrOf st) lo (lo+(n+1))){Q:Option Nat->Eb->Prop}(h:∀m a,Good f a₀ d a->1<=m->m<=b->kR blt (arrOf a) lo (lo+m)->vT (arrOf st) (arrOf a) lo (lo+b)->Q (some m) a):wpS (model prog w) A E s (AD lo n b) Q st:=by
 unfold AD
 refine Dx (uJ ?_)
 refine Dx (U6 C g h0 hb (by omega) u h1 λk e r v K y D t B=>?_)
 dsimp only
 have G:(arrOf r).size=a₀.size:=v.size
 by_cases z:e > 0
 ·rw[if_pos z]
  refine Dx (Rq ?_)
  refine tL C (v.set (mirror_perm _ _ _ _)) h0 hb (by omega) y (Yv (by omega) (by omega) (by have:=t.1; omega) D λi j F J H I=>t.2 i j F J H I) λm c g2 p o q l=>?_
  exact h m c g2 p o q ((B.trans (Re (by have:=t.1; omega) (by omega) (by omega))).trans l)
 ·rw[if_neg z]
  exact tL C v h0 hb (by omega) y D λm c g2 p o q l=>h m c g2 p o q (B.trans l)
theorem x9(C:Cmp prog w A s f Ok blt){st:Eb}(g:Good f a₀ d st)(h0:∀x∈a₀.toList,Ok x){lo b:Nat}(hb:lo+b<=a₀.size)(b1:1<=b){Q:Option Nat->Eb->Prop}(h:∀m a,Good f a₀ d a->1<=m->m<=b->kR blt (arrOf a) lo (lo+m)->vT (arrOf st) (arrOf a) lo (lo+b)->Q (some m) a):wpS (model prog w) A E s (gQ lo b) Q st:=by
 unfold gQ
 have I:(arrOf st).size=a₀.size:=g.size
 refine Dx (M7 C g h0 hb (Ar _) b1 (λi j k u l=>by
  have : i=j:=by omega
  subst this
  exact C.refl _) λn t D p q=>?_)
 dsimp only
 by_cases e:n=b
 ·rw[if_pos (by rw[e]; exact beq_self_eq_true _)]
  exact Gc (h n st g t D p (vT.refl _ _ _))
 rw[if_neg (λz=>e (Vp z))]
 have o:blt (X (arrOf st) (lo+n)) (X (arrOf st) (lo+n - 1))=true:=q.resolve_left e
 by_cases B:n > 1
 ·rw[if_pos B]
  refine Dx (Xb C g h0 (by omega) (by omega) ?_)
  dsimp only
  cases K:blt (X (arrOf st) lo) (X (arrOf st) (lo+n - 1)) with
  | true =>
   rw[if_pos rfl]
   exact Gc (h n st g t D p (vT.refl _ _ _))
  | false =>
   rw[if_neg Cr]
   refine Dx (Rq ?_)
   -- all of it are alike
   have c:∀i j,lo<=i->i<lo+n->lo<=j->j<lo+n->le blt (X (arrOf st) i) (X (arrOf st) j):=λi j k u l L =>
    C.trans (p i (lo+n - 1) k (by omega) (by omega)) (C.trans K (p lo j (Ar _) l L))
   have y:yE blt (arrOf st) lo (lo+(n+1)):=Wp C t (λi j k u l=>c j i (by omega) l k (by omega)) (C.ofLt o)
   exact uD C (g.set (mirror_perm _ _ _ _)) h0 hb (by omega) (Yv (by omega) (by omega) (Ar _) y c) λm r g2 G F H v=>h m r g2 G F H ((Re (Ar _) (by omega) (by omega)).trans v)
 ·rw[if_neg B]
  have J:n=1:=by omega
  subst J
  have y:yE blt (arrOf st) lo (lo+(1+1)):=Wp C (Ar _) (λi j k u l=>by
   have : i=j:=by omega
   subst this
   exact C.refl _) (C.ofLt o)
  exact uD C g h0 hb (by omega) y h
end
section
variable{prog:Bp}{w:World}{A:Cn}{s:Am}{b:Od}{Ok:Keyed->Prop}{blt:Keyed->Keyed->Bool}{E:Value->Am->Prop}{a₀:Array Keyed}{a:Array (Nat×Nat×Nat)}
theorem nU{st:Eb}{i j:Nat}{Q:Unit->Eb->Prop}(h:Q () (setArr st (bubble (arrOf st) i (i - j)))):wpS (model prog w) A E s (moveDown' i j) Q st:=by
 rw[moveDown'_eq]
 exact wpS_modify h
theorem xC(C:Cmp prog w A s b Ok blt){st:Eb}(g:Good b a₀ a st)(h0:∀x∈a₀.toList,Ok x){lo n ok:Nat}(hb:lo+n<=a₀.size)(h1:kR blt (arrOf st) lo (lo+ok))(V:ok<=n){Q:Bool->Eb->Prop}(h:∀f,Good b a₀ a f->kR blt (arrOf f) lo (lo+n)->vT (arrOf st) (arrOf f) lo (lo+n)->Q true f):wpS (model prog w) A E s (Ze lo n ok) Q st:=by
 unfold Ze
 refine Dx (wpS_mono (Qy
  (I:=λk c f=>c=(none,())/\Good b a₀ a f/\kR blt (arrOf f) lo (lo+k)/\vT (arrOf st) (arrOf f) lo (lo+n))
  (Q:=λc f=>c=(none,())/\Good b a₀ a f/\kR blt (arrOf f) lo (lo+n)/\vT (arrOf st) (arrOf f) lo (lo+n)) ?_ ?_ ⟨rfl,g,?_,vT.refl _ _ _⟩) ?_)
 ·(intro k c m U R p; obtain ⟨rfl,t,q,B⟩ := p)
  have S:(arrOf m).size=a₀.size:=t.size
  dsimp only
  refine Dx (wpS_mono (Qy
   (I:=λy c f=>f=m/\∃l r,c=(none,l,r)/\l<=r/\r<=k/\r - l+y<=k/\(∀i,i<l->le blt (X (arrOf m) (lo+i)) (X (arrOf m) (lo+k)))/\(∀i,r<=i->i<k->blt (X (arrOf m) (lo+k)) (X (arrOf m) (lo+i))=true))
   (Q:=λc f=>f=m/\∃l,c=(none,l,l)/\l<=k/\(∀i,i<l->le blt (X (arrOf m) (lo+i)) (X (arrOf m) (lo+k)))/\(∀i,l<=i->i<k->blt (X (arrOf m) (lo+k)) (X (arrOf m) (lo+i))=true)) ?_ ?_
   ⟨rfl,0,k,rfl,by omega,by omega,by omega,λi P=>by omega,λi h1 W=>by omega⟩) ?_)
  ·(intro y c o _ Y p; obtain ⟨rfl,l,r,rfl,T,u,O,b1,b2⟩ := p)
   dsimp only
   by_cases F:l ≥ r
   ·rw[if_pos F]
    have e:l=r:=by omega
    subst e
    exact Gc ⟨rfl,l,rfl,u,b1,b2⟩
   ·rw[if_neg F]
    refine Dx (Xb C t h0 (by omega) (by omega) ?_)
    dsimp only
    cases M:blt (X (arrOf o) (lo+k)) (X (arrOf o) (lo+(l+r) / 2)) with
    | true =>
     rw[if_pos rfl]
     exact Gc ⟨rfl,l,(l+r) / 2,rfl,by omega,by omega,by omega,b1,λi v D=>C.ltLe M (q _ _ (by omega) (by omega) (by omega))⟩
    | false =>
     rw[if_neg Cr]
     exact Gc ⟨rfl,(l+r) / 2+1,r,rfl,by omega,u,by omega,λi P=>C.trans (q _ _ (by omega) (by omega) (by omega)) M,b2⟩
  ·(intro c o p; obtain ⟨rfl,l,r,rfl,T,u,O,b1,b2⟩ := p)
   have : max 0 k=k:=by omega
   rw[this] at O
   have e:l=r:=by omega
   subst e
   exact ⟨rfl,l,rfl,u,b1,b2⟩
  ·(intro c o p; obtain ⟨rfl,l,rfl,u,b1,b2⟩ := p)
   dsimp only
   refine Dx (nU ?_)
   have H:=λi=>t5 (xs:=arrOf o) (src:=lo+k) (d:=lo+k - (lo+l)) (by omega) (by omega) i
   have J:lo+k - (lo+k - (lo+l))=lo+l:=by omega
   refine Gc ⟨rfl,t.set (bubble_perm _ _ _),λi j v D K=>?_,B.trans λi P=>?_⟩
   ·show le blt (X (bubble (arrOf o) (lo+k) (lo+k - (lo+l))) i) (X (bubble (arrOf o) (lo+k) (lo+k - (lo+l))) j)
    rw[H,H,J]
    by_cases N:i=lo+l
    ·rw[if_pos N]
     by_cases z:j=lo+l
     ·rw[if_pos z]; exact C.refl _
     ·rw[if_neg z]
      by_cases G:lo+l<j/\j<=lo+k
      ·rw[if_pos G]
       have:=b2 (j - 1 - lo) (by omega) (by omega)
       rw[show lo+(j - 1 - lo)=j - 1 by omega] at this
       exact C.ofLt this
      ·exfalso; omega
    ·rw[if_neg N]
     by_cases z:j=lo+l
     ·rw[if_pos z,if_neg (by omega)]
      have:=b1 (i - lo) (by omega)
      rw[show lo+(i - lo)=i by omega] at this
      exact this
     ·rw[if_neg z]
      by_cases G:lo+l<i/\i<=lo+k
      ·rw[if_pos G,if_pos (by omega)]
       exact q _ _ (by omega) (by omega) (by omega)
      ·rw[if_neg G]
       by_cases L:lo+l<j/\j<=lo+k
       ·rw[if_pos L]
        exact q _ _ (by omega) (by omega) (by omega)
       ·rw[if_neg L]
        exact q _ _ (by omega) (by omega) (by omega)
   ·show X (bubble (arrOf o) (lo+k) (lo+k - (lo+l))) i=X (arrOf o) i
    rw[H,J,if_neg (by omega),if_neg (by omega)]
 ·(intro c m p; obtain ⟨rfl,t,q,B⟩ := p)
  refine ⟨rfl,t,λi j v D K=>q i j v D (by omega),B⟩
 ·intro i j v D K
  by_cases e:i=j
  ·subst e; exact C.refl _
  ·exact h1 i j v D (by omega)
 ·(intro c m p; obtain ⟨rfl,t,q,B⟩ := p)
  exact Gc (h m t q B)
end
section
variable{prog:Bp}{w:World}{A:Cn}{s:Am}{kd:Od}{Ok:Keyed->Prop}{blt:Keyed->Keyed->Bool}{E:Value->Am->Prop}{a₀:Array Keyed}{a:Array (Nat×Nat×Nat)}
structure Good0(kd:Od)(a₀:Array Keyed)(st:Eb):Prop where
 kind:kindOf st=kd
 fail:failedOf st=none
 perm:(arrOf st).Perm a₀
theorem Good0.size{st:Eb}(g:Good0 kd a₀ st):(arrOf st).size=a₀.size:=g.perm.size_eq
end
def gD:StateT Eb Sem Unit:=sortPriv% PySem.Builtin.sortRuns
def R8:Nat->Nat->Nat->Nat:=sortPriv% PySem.Builtin.minRun
theorem jQ:∀n:Nat,n<64->R8 n n 0=n:=by decide +kernel
section
variable{blt:Keyed->Keyed->Bool}{prog:Bp}{w:World}{A:Cn}{s:Am}{a:Od}{Ok:Keyed->Prop}{E:Value->Am->Prop}{a₀:Array Keyed}
theorem kE{a:Type}{c:Prop}[Decidable c]{p q:StateT Eb Sem a}{Q:a->Eb->Prop}{st:Eb}(h1:c->wpS (model prog w) A E s p Q st)(b:¬ c->wpS (model prog w) A E s q Q st):wpS (model prog w) A E s (if c then p else q) Q st:=by
 by_cases h:c
 ·rw[if_pos h]; exact h1 h
 ·rw[if_neg h]; exact b h
theorem P3{st:Eb}(g:Good0 a a₀ st):Good a a₀ (Ir st) st:=⟨g.kind,g.fail,g.perm,rfl⟩
theorem nQ{st:Eb}{p:Array (Nat×Nat×Nat)}(g:Good a a₀ p st):Good0 a a₀ st:=⟨g.kind,g.fail,g.perm⟩
theorem fS(C:Cmp prog w A s a Ok blt){st:Eb}(g:Good0 a a₀ st)(h0:∀x∈a₀.toList,Ok x)(F:Ir st=#[])(hz:1<=a₀.size)(K:a₀.size<64){Q:Unit->Eb->Prop}(h:∀d,Good0 a a₀ d->kR blt (arrOf d) 0 a₀.size->Q () d):wpS (model prog w) A E s gD Q st:=by
 unfold gD
 refine Dx (wpS_get ?_)
 have r:(arrOf st).size=a₀.size:=g.size
 dsimp only
 rw[r]
 have H:(sortPriv% PySem.Builtin.minRun) a₀.size a₀.size 0=a₀.size:=jQ _ K
 rw[H]
 have u:∀{e:Eb} {n:Nat},Ir e=#[]->Good0 a a₀ e->n=a₀.size->kR blt (arrOf e) 0 (0+n) ->
   (λc d=>∃lo,c=(none,lo)/\Good0 a a₀ d/\lo=a₀.size/\kR blt (arrOf d) 0 a₀.size/\(Ir d).size<=1) ((none,0+n):Option Unit×Nat) (SortSt.mk' (kindOf e) (arrOf e) ((Ir e).push (0,n,0)) (gallopOf e) (failedOf e)):=by
  rintro e n k f rfl i
  refine ⟨_,rfl,⟨f.kind,f.fail,f.perm⟩,by omega,by rw[Nat.zero_add] at i; exact i,?_⟩
  show ((Ir e).push _).size<=1
  rw[k]
  exact Ar _
 refine Dx (wpS_mono (Qy
  (I:=λx c d=>(x=0/\c=(none,0)/\Good0 a a₀ d/\Ir d=#[])\/∃lo,c=(none,lo)/\Good0 a a₀ d/\lo=a₀.size/\kR blt (arrOf d) 0 a₀.size/\(Ir d).size<=1)
  (Q:=λc d=>c=(none,a₀.size)/\Good0 a a₀ d/\kR blt (arrOf d) 0 a₀.size/\(Ir d).size<=1) ?_ ?_ (.inl ⟨rfl,rfl,g,F⟩)) ?_)
 ·rintro x c e _ v (⟨rfl,rfl,f,k⟩ | ⟨lo,rfl,f,rfl,i,q⟩)
  ·dsimp only
   rw[if_neg (by omega)]
   refine Dx (x9 C (P3 f) h0 (lo:=0) (b:=a₀.size - 0) (by omega) (by omega) λm l g2 L M i N=>?_)
   dsimp only
   refine kE (λo=>?_) (λo=>?_)
   ·refine Dx (uJ ?_)
    refine Dx (xC C g2 h0 (lo:=0) (n:=min (a₀.size - 0) a₀.size) (ok:=m) (by omega) i (by omega) λzE B t J=>?_)
    refine kE (λz=>absurd z (by decide)) (λ_=>?_)
    refine Dx (wpS_get ?_)
    have j:Ir zE=#[]:=B.pd.trans k
    cases p:(Ir zE).back? with
    | some y=>rw[j] at p; cases p
    | none =>
    dsimp only
    refine Dx (wpS_modify ?_)
    exact Gc (.inr (u j (nQ B) (by omega) t))
   ·refine Dx (wpS_get ?_)
    have j:Ir l=#[]:=g2.pd.trans k
    cases p:(Ir l).back? with
    | some y=>rw[j] at p; cases p
    | none =>
    dsimp only
    refine Dx (wpS_modify ?_)
    exact Gc (.inr (u j (nQ g2) (by omega) i))
  ·dsimp only
   rw[if_pos (Ar _)]
   exact Gc ⟨rfl,f,i,q⟩
 ·rintro c e (⟨v,rfl,f,k⟩ | ⟨lo,rfl,f,rfl,i,q⟩)
  ·exfalso; omega
  ·exact ⟨rfl,f,i,q⟩
 ·(intro c e G; obtain ⟨rfl,f,i,q⟩ := G)
  dsimp only
  refine Dx (wpS_mono (Qy
   (I:=λx c d=>c=(none,())/\d=e)
   (Q:=λc d=>c=(none,())/\d=e) ?_ (λ_ _ z=>z) ⟨rfl,rfl⟩) ?_)
  ·rintro x c l _ v ⟨rfl,rfl⟩
   refine Dx (wpS_get ?_)
   exact kE (λD=>Gc ⟨rfl,rfl⟩) (λD=>absurd q D)
  ·rintro c l ⟨rfl,rfl⟩
   dsimp only
   exact Gc (h _ f i)
end
end Ts
namespace Ts
open PySem PyProof.Rows L2
theorem Uo:∀l:List Int,HT.lexLt l l=false
 | []=>rfl
 | x::r=>by rw[HT.lexLt_cons,if_pos rfl]; exact Uo r
theorem Wb:∀{a b c:List Int},HT.lexLt a b=true->HT.lexLt b c=true->HT.lexLt a c=true
 | [],[],_,h,_=>by rw[HT.lexLt_nil_nil] at h; cases h
 | [],_::_,[],_,h=>by rw[HT.lexLt_cons_nil] at h; cases h
 | [],_::_,_::_,_,_=>HT.lexLt_nil_cons _ _
 | _::_,[],_,h,_=>by rw[HT.lexLt_cons_nil] at h; cases h
 | _::_,_::_,[],_,h=>by rw[HT.lexLt_cons_nil] at h; cases h
 | x::a,y::b,z::c,h1,h2=>by
  rw[HT.lexLt_cons] at h1 h2 ⊢
  by_cases e:x=y
  ·subst e
   rw[if_pos rfl] at h1
   by_cases d:x=z
   ·subst d
    rw[if_pos rfl] at h2 ⊢
    exact Wb h1 h2
   ·rw[if_neg d] at h2 ⊢
    exact h2
  ·rw[if_neg e] at h1
   have g:x<y:=of_decide_eq_true h1
   by_cases d:y=z
   ·subst d
    rw[if_neg e]
    exact h1
   ·rw[if_neg d] at h2
    have f:y<z:=of_decide_eq_true h2
    rw[if_neg (by omega)]
    exact decide_eq_true (by omega)
theorem aG:∀{a b:List Int},HT.lexLt a b=false->HT.lexLt b a=false->a=b
 | [],[],_,_=>rfl
 | [],_::_,h,_=>by rw[HT.lexLt_nil_cons] at h; cases h
 | _::_,[],_,h=>by rw[HT.lexLt_nil_cons] at h; cases h
 | x::a,y::b,h1,h2=>by
  rw[HT.lexLt_cons] at h1 h2
  by_cases e:x=y
  ·subst e
   rw[if_pos rfl] at h1 h2
   rw[aG h1 h2]
  ·rw[if_neg e] at h1
   rw[if_neg (Li e)] at h2
   have d:=of_decide_eq_false h1
   have c:=of_decide_eq_false h2
   omega
theorem jX(h:HT.lexLt a c=true):HT.lexLt a b=true\/HT.lexLt b c=true:=by
 cases e:HT.lexLt a b with
 | true=>exact .inl rfl
 | false =>
  cases d:HT.lexLt b a with
  | true=>exact .inr (Wb d h)
  | false =>
   rw[<- aG e d]
   exact .inr h
def MX(c:Addr->List Int)(x:Keyed):List Int:=match x.1 with
 | .ref a=>c a
 | _=>[]
def NS(c:Addr->List Int)(x y:Keyed):Bool:=HT.lexLt (MX c x) (MX c y)
def N8(c:Addr->List Int)(b:List Addr)(h:Heap):Prop:=∀r∈b,∃a:List Value,El a (c r)/\IsTup h r a.toArray
section
variable{prog:Bp}{w:World}{A:Cn}{E:Value->Am->Prop}{s:Am}{c:Addr->List Int}{d:List Addr}
theorem wV(l:N8 c d s.heap)(p:A.units<cLine)(q:a∈d)(hb:b∈d)(h:Q (HT.lexLt (c a) (c b)) s):wpAny (model prog w) A (oneLt' true (.ref a) (.ref b)) Q E s:=by
 obtain ⟨z,n,⟨B,y,v,f⟩,g,m,x,k⟩:=l a q
 obtain ⟨D,u,⟨C,t,o,e⟩,g2,i,r,j⟩:=l b hb
 simp only at m k i j
 subst m k i j
 rw[oneLt'_eq]
 simp only[if_true]
 refine Ab (wpAny_cRoomFor p (Ab (wpAny_callSpecialIfBound?_slot ⟨_,g,rfl⟩ PySem.F.slot_tuple_lt ?_)))
 refine eI PySem.F.slot_tuple_lt ⟨_,g,rfl⟩ PySem.F.entry_tuple_lt (PySem.F.args_tuple_lt_2 _ _) (HT.tuple_lt_ints a b _ _ x r y t f e (c a) (c b) (by simpa using n) (by simpa using u)) ⟨g,g2,?_⟩
 exact Gd h
theorem U5(k:N8 c d s.heap)(f:A.units<cLine):Cmp prog w A s oneType' (λx=>∃r∈d,x.1=.ref r) (NS c) where
 run:=λx y Q E ⟨r,j,b⟩ ⟨n,a,e⟩ h=>by
  obtain ⟨l,p⟩:=x
  obtain ⟨o,m⟩:=y
  simp only at b e
  subst b e
  rw[keyLt'_oneType]
  exact wV k f j a h
 irr:=λx=>Uo _
 tr:=λx y z g i=>Wb g i
 neg:=λx y z h=>jX h
theorem Wc:∀{l:List Addr} {Q:List (Option Value)->Am->Prop},(∀r∈l,∃its:List Value,El its (c r)/\IsTup s.heap r its.toArray)->(∀fs:List (Option Value),fs.length=l.length->(∀(i:Nat) (r:Addr),l[i]? = some r->∃f,fs[i]? = some f/\(f.isSome=true↔c r≠[]))->Q fs s)->wpAny (model prog w) A ((l.map Bc).mapM dS) Q E s
 | [],Q,_,h=>by
  rw[Jj,List.mapM_nil]
  exact An (h [] rfl λi r e=>by simp at e)
 | r::l,Q,hH,h=>by
  obtain ⟨its,B,o,g,k,n,e⟩:=hH r Aa
  rw[Ax,List.mapM_cons]
  have one:∀{R:Option Value->Am->Prop},R its.toArray[0]? s->wpAny (model prog w) A (dS (.ref r)) R E s:=λ{R} u=>by
   unfold dS
   refine Ab (Ls (T := "tuple") ⟨o,g,k⟩ ?_)
   rw[if_neg (by simp)]
   exact Ab (Wm g e (An u))
  refine Ab (one (Ab (Wc (λj p=>hH j (Ae _ p)) λfs v z=>An (h _ (by rw[Bu,Bu,v]) λi j q=>?_))))
  cases i with
  | zero =>
   have t:r=j:=by simpa using q
   subst t
   refine ⟨_,rfl,?_⟩
   have d:=B.length
   cases its with
   | nil =>
    cases m:c r with
    | nil=>simp
    | cons _ _=>rw[m] at d; simp at d
   | cons a b =>
    cases m:c r with
    | nil=>rw[m] at d; simp at d
    | cons _ _=>simp
  | succ i =>
   obtain ⟨f,x,y⟩:=z i j (by simpa using q)
   exact ⟨f,by simpa using x,y⟩
theorem gJ:∀{l:List Addr} {Q:List Value->Am->Prop},(∀r∈l,∃its:List Value,El its (c r)/\IsTup s.heap r its.toArray)->Q (l.map λ_=>Ij "tuple") s->wpAny (model prog w) A ((l.map Bc).mapM typeOf) Q E s
 | [],Q,_,h=>by
  rw[Jj,List.mapM_nil]
  exact An h
 | r::l,Q,hH,h=>by
  obtain ⟨its,d,o,g,k,n,e⟩:=hH r Aa
  rw[Ax,List.mapM_cons]
  exact Ab (Ls (T := "tuple") ⟨o,g,k⟩ (Ab (gJ (λb a=>hH b (Ae _ a)) (An h))))
theorem E1(b:N8 c (r::l) s.heap)(h0:c r=[])(h:Q oneType' s):wpAny (model prog w) A (keyKind' ((r::l).map Bc).toArray) Q E s:=by
 rw[keyKind'_eq,aC]
 refine Ab ?_
 show wpAny (model prog w) A (List.toArray <$> ((r::l).map Bc).mapM dS) _ E s
 rw[map_eq_pure_bind]
 refine Ab (Wc b λfs n j=>An ?_)
 obtain ⟨f,a,k⟩:=j 0 r rfl
 have e:f=none:=by
  cases f with
  | none=>rfl
  | some v=>exact absurd h0 (k.mp rfl)
 subst e
 have g:¬ (fs.toArray.all λx=>x.isSome)=true:=by
  intro z
  have:=Array.all_eq_true'.mp z none (by
   have:=Au a
   simpa using this)
  simp at this
 have m:¬ (fs.toArray[0]?.bind id).isSome=true:=by
  rw[Kc,a]
  simp
 rw[if_neg g,if_neg m,oneTypeOnly'_eq,aC]
 refine Ab (Ab ?_)
 show wpAny (model prog w) A (List.toArray <$> ((r::l).map Bc).mapM typeOf) _ E s
 rw[map_eq_pure_bind]
 refine Ab (gJ b (An ?_))
 have d:((r::l).map λ_=>Ij "tuple").toArray[0]? = some (Ij "tuple"):=by simp
 have i:(((r::l).map λ_=>Ij "tuple").toArray.all λx=>x == Ij "tuple")=true:=by
  simp only[List.all_toArray,Nb,Fb]
  intro _ _
  rfl
 rw[d]
 dsimp only
 rw[i,if_pos rfl]
 exact An (An h)
end
theorem Qr:∀{b:List Addr} {us:List Value},Fs (b.map V.ref) us->us=b.map Bc
 | [],_,r=>by cases r; rfl
 | a::l,_,r=>by
  rw[Ax] at r
  cases r with
  | cons d c =>
   cases d
   rw[Qr c]
   rfl
theorem Yw:∀a:List Addr,Fs (a.map V.ref) (a.map Bc)
 | []=>.nil
 | _::l=>.cons rfl (Yw l)
section
variable{prog:Bp}{w:World}{A:Cn}{E:Value->Am->Prop}{s:Am}{c:Addr->List Int}{a:List Addr}
theorem Zx(e:h.get? b=some o):(sortedAll h vs out).get? b=some o:=by
 have lt:=Bb e
 unfold sortedAll sortedHeap
 have c:((h.push (Cv "list" #[] 0)).update h.objs.size (Cg (·++vs.toArray))).objs.size=h.objs.size+1:=by rw[Hm,Pj]
 have a:b≠h.objs.size+1:=By (aV lt)
 refine ((Cj _ _ _).2 b a).trans (Ai _ (Ai _ (((Cj _ _ _).2 b a).trans (Ai _ ?_))))
 exact ((Cj _ _ _).2 b (By lt)).trans (Ai _ e)
theorem fL:∃n,(sortedAll h vs out).get? (h.objs.size+1)=some (Cv "list" out n):=by
 unfold sortedAll sortedHeap
 have a:((h.push (Cv "list" #[] 0)).update h.objs.size (Cg (·++vs.toArray))).objs.size=h.objs.size+1:=by rw[Hm,Pj]
 have b:(((h.push (Cv "list" #[] 0)).update h.objs.size (Cg (·++vs.toArray))).push (Cv "list" vs.toArray 0)).get? (h.objs.size+1)=some (Cv "list" vs.toArray 0):=by
  rw[<- a]
  exact Be _ rfl
 have g2:=Iu b (λ_=>#[])
 have c:=Ai (Cv "list" #[] 0) (Ai (Cv "tuple" vs.toArray 0) g2)
 exact ⟨_,Iu c (λ_=>out)⟩
end
def HZ{b:Type}(c:Addr->b)(d0:b)(x:Keyed):b:=match x.1 with
 | .ref a=>c a
 | _=>d0
def MV{a:Type}(c:Addr->a)(d0:a)(lt_:a->a->Bool)(x y:Keyed):Bool:=lt_ (HZ c d0 x) (HZ c d0 y)
def qB{a:Type}(prog:Bp)(w:World)(A:Cn)(s:Am)(d:List Addr)(c:Addr->a)(d0:a)(lt_:a->a->Bool):Prop :=
 ∃b,(∀(R:Od->Am->Prop) (E:Value->Am->Prop),R b s->wpAny (model prog w) A (keyKind' (d.map Bc).toArray) R E s)/\Cmp prog w A s b (λx=>∃r∈d,x.1=.ref r) (MV c d0 lt_)
section
variable{prog:Bp}{w:World}{A:Cn}{E:Value->Am->Prop}{s:Am}{f:Type}{c:Addr->f}{d0:f}{lt_:f->f->Bool}{d:List Addr}
theorem pH(hl:s.heap.get? a=some (Cv "list" (d.map Bc).toArray n))(hC:∀h':Heap,(∀b o,b≠a->s.heap.get? b=some o->h'.get? b=some o)->2<=d.length->qB prog w A { s with heap:=h' } d c d0 lt_)(hz:d.length<=Az)(hs:d.length<64)(h:∀f:List Addr,f.Perm d->f.Pairwise (λx y=>lt_ (c y) (c x)=false)->P (.done (.ret .none)) { s with heap:=sortedHeap s.heap a (d.map Bc) (f.map Bc).toArray }):wpAny (model prog w) A (Builtin.«list.sort» ⟨[.ref a],[]⟩) P E s:=by
 have lt:=Bb hl
 have q:(d.map Bc).toArray.size=d.length:=by simp
 rw[list_sort_plain]
 refine Ab (Wm hl rfl (Ab (Kq hl rfl ?_ (by rw[q]; exact hz))))
 obtain ⟨J,G⟩ : ∃J,(s.heap.update a (Cg λ_=>#[])).get? a=some (Cv "list" #[] J):=⟨_,Iu hl (λ_=>#[])⟩
 refine Ab (Ud G rfl (Ab (Zm (Ab (Mo (Cc ?_)) ))))
 have u:(((s.heap.update a (Cg λ_=>#[])).push (Cv "tuple" (d.map Bc).toArray 0)).push (Cv "list" #[] 0)).get? a=some (Cv "list" #[] J):=by
  rw[Heap.get?_push_ne _ _ _ (by rw[Pj,Hm]; exact By (aV lt)),
   Heap.get?_push_ne _ _ _ (by rw[Hm]; exact By lt)]
  exact G
 have kept:∀b o,b≠a->s.heap.get? b=some o->(((s.heap.update a (Cg λ_=>#[])).push (Cv "tuple" (d.map Bc).toArray 0)).push (Cv "list" #[] 0)).get? b=some o:=λb o hb e=>by
  refine Ai _ (Ai _ ?_)
  exact ((Cj s.heap a _).2 b hb).trans e
 show wpAny (model prog w) A _ P E { s with heap:=((s.heap.update a (Cg λ_=>#[])).push (Cv "tuple" (d.map Bc).toArray 0)).push (Cv "list" #[] 0) }
 dsimp only
 -- what is left dN the runs
 have F:∀(B:Array Value) (f:List Addr),B=(f.map Bc).toArray->f.Perm d->f.Pairwise (λx y=>lt_ (c y) (c x)=false) ->
   P (.done (.ret .none)) { s with heap:=sortedHeap s.heap a (d.map Bc) B }:=λB f e Z p2=>by rw[e]; exact h f Z p2
 by_cases p:(d.map Bc).toArray.size<2
 ·rw[if_pos p,if_pos p]
  refine Ab (An ?_)
  rw[StateT.run_pure]
  refine Ab (An (Ab (Ud u rfl (Ab (Kq u rfl ?_ (by simp) ?_)))))
  ·simp only[bne_self_eq_false,Dh,if_false]
   refine An (F _ d ?_ (Sx _) ?_)
   ·show Array.map (λx=>x.2) ((d.map Bc).toArray.zip (d.map Bc).toArray)=_
    apply Array.ext'
    simp [List.map_snd_zip]
   ·rw[q] at p
    match d,p with
    | [],_=>exact Lc
    | [_],_=>exact Mf _ _
    | _::_::_,p=>simp only[Bu] at p; omega
  ·show (Array.map (λx:Keyed=>x.2) ((d.map Bc).toArray.zip (d.map Bc).toArray)).size<=Az+1
   rw[Array.size_map,Array.size_zip,q]
   omega
 ·rw[if_neg p,if_neg p]
  rw[q] at p
  obtain ⟨S,H,C⟩:=hC (((s.heap.update a (Cg λ_=>#[])).push (Cv "tuple" (d.map Bc).toArray 0)).push (Cv "list" #[] 0)) kept (by omega)
  refine Ab (H _ _ ?_)
  have I:(pairsOf (d.map Bc)).size=d.length:=by rw[pairsOf_size,Ac]
  refine Ab (Eo (fS C (a₀:=pairsOf (d.map Bc)) (st:=SortSt.mk' S ((d.map Bc).toArray.zip (d.map Bc).toArray) #[] 7 none) (E:=E)
   (Q:=λ_ m=>Good0 S (pairsOf (d.map Bc)) m/\kR (MV c d0 lt_) (arrOf m) 0 (pairsOf (d.map Bc)).size)
   ⟨rfl,rfl,Array.Perm.refl _⟩ (λx v=>?_) rfl (by rw[I]; omega) (by rw[I]; exact hs) λm g K=>⟨g,K⟩) ?_ λ_ _ z=>z)
  ·rw[pairsOf_toList] at v
   obtain ⟨_,M⟩:=mem_zip_self v
   obtain ⟨r,L,e⟩:=Bh.mp M
   exact ⟨r,L,e.symm⟩
  ·(rintro ⟨⟨⟩,m⟩ s' q_; obtain ⟨rfl,g,K⟩ := q_)
   dsimp only
   -- the things of the new order
   have N:(arrOf m).toList.Perm ((d.map Bc).zip (d.map Bc)):=by rw[<- pairsOf_toList]; exact gW.mp g.perm
   have D:∀x∈(arrOf m).toList,∃r∈d,x=(Bc r,Bc r):=λx v=>by
    obtain ⟨e,M⟩:=mem_zip_self (N.mem_iff.mp v)
    obtain ⟨r,L,R⟩:=Bh.mp M
    refine ⟨r,L,?_⟩
    obtain ⟨x1,x2⟩:=x
    simp only at e R
    rw[<- e,R]
   have Y:∀l:List Keyed,(∀x∈l,∃r∈d,x=(Bc r,Bc r))->∃f:List Addr,l=f.map λr=>(Bc r,Bc r):=by
    intro l
    induction l with
    | nil=>intro _; exact ⟨[],rfl⟩
    | cons x l W =>
     intro v
     obtain ⟨r,_,e⟩:=v x Aa
     obtain ⟨f,e'⟩:=W λy hy=>v y (Ae _ hy)
     exact ⟨r::f,by rw[Ax,e,e']⟩
   obtain ⟨f,t⟩:=Y _ D
   have zz:(d.map Bc).zip (d.map Bc)=d.map λr=>(Bc r,Bc r):=by
    rw[List.zip_map',]
   rw[t,zz] at N
   have inj:∀x:Keyed,∃a:Addr,True:=λ_=>⟨0,trivial⟩
   have O:f.Perm d:=by
    have:=N.map (λx:Keyed=>match x.1 with | .ref a=>a | _=>0)
    rw[Bm,Bm] at this
    simpa [Qd] using this
   have so:f.Pairwise (λx y=>lt_ (c y) (c x)=false):=by
    rw[List.pairwise_iff_getElem]
    intro i j hi V h0
    have ls:(arrOf m).size=f.length:=by
     have:=congrArg Fi t
     rw[Ff,Ac] at this
     exact this
    have T:∀k (H:k<f.length),X (arrOf m) k=(Bc f[k],Bc f[k]):=λk H=>by
     have U:=uR (yZ (xs:=arrOf m) (i:=k) (by omega))
     rw[t,Aq,Ag H] at U
     exact (Bo U).symm
    have:=K i j (Dg _) (by omega) (by rw[I,<- O.length_eq]; exact V)
    rw[T i hi,T j V] at this
    exact this
   refine Ab (Ud u rfl (Ab (Kq u rfl ?_ (by simp) ?_)))
   ·have fl:failedOf m=none:=g.fail
    rw[fl]
    simp only[bne_self_eq_false,Dh,if_false]
    refine An (F _ f ?_ O so)
    apply Array.ext'
    rw[Array.toList_map,t,Bm]
    rfl
   ·show (Array.map (λx:Keyed=>x.2) (arrOf m)).size<=Az+1
    rw[Array.size_map,g.size,I]
    omega
theorem Rj(hl:s.heap.IsList l (d.map Bc).toArray)(k:∀(f:Cn) (h':Heap),f.units<=A.units+2->f.handled=A.handled->(∀b o,s.heap.get? b=some o->h'.get? b=some o)->2<=d.length->qB prog w f { s with heap:=h' } d c d0 lt_)(hz:d.length<=Az)(n:d.length<64)(h:∀a:List Addr,a.Perm d->a.Pairwise (λx y=>lt_ (c y) (c x)=false)->Q (.ref (s.heap.objs.size+1)) { s with heap:=sortedAll s.heap (d.map Bc) (a.map Bc).toArray }):wpAny (model prog w) A (call (.builtin "sorted") [.ref l]) Q E s:=by
 refine Calls.call_function_entry (by exact kind_sorted) plain_sorted entry_sorted (args_sorted1 _) ?_
 unfold Xy
 refine Ab (m:=checkCount "sorted" 1 1 _) (An (Ab (collect_list hl (Ab (Mo ?_)) (by rw[Ac]; exact hz))))
 have g:((s.heap.push (Cv "list" #[] 0)).update s.heap.objs.size (Cg (·++(d.map Bc).toArray))).objs.size=s.heap.objs.size+1:=by rw[Hm,Pj]
 have i:(((s.heap.push (Cv "list" #[] 0)).update s.heap.objs.size (Cg (·++(d.map Bc).toArray))).push (Cv "list" (d.map Bc).toArray 0)).get? (s.heap.objs.size+1)=some (Cv "list" (d.map Bc).toArray 0):=by
  rw[<- g]
  exact Be _ rfl
 have kept:∀b o,s.heap.get? b=some o->(((s.heap.push (Cv "list" #[] 0)).update s.heap.objs.size (Cg (·++(d.map Bc).toArray))).push (Cv "list" (d.map Bc).toArray 0)).get? b=some o:=λb o e=>by
  refine Ai _ (((Cj _ _ _).2 b (By (Bb e))).trans (Ai _ e))
 show wpAny _ _ _ _ _ { s with heap:=((s.heap.push (Cv "list" #[] 0)).update s.heap.objs.size (Cg (·++(d.map Bc).toArray))).push (Cv "list" (d.map Bc).toArray 0) }
 rw[g]
 refine Ab (Cc (Gq slot_list_sort ⟨_,i,rfl⟩ entry_list_sort (pH i (λh' j q=>k _ h' ?_ ?_ (λb o e=>j b o (By (aV (Bb e))) (kept b o e)) q) hz n λa r p=>⟨_,rfl,?_⟩) (args_list_sort _)))
 ·first | exact Ar _ | (show A.units+1<=A.units+2; omega) | (show A.units<=A.units+2; omega)
 ·rfl
 ·exact An ⟨_,rfl,h a r p⟩
end
section
variable{prog:Bp}{w:World}{A:Cn}{E:Value->Am->Prop}{s:Am}{c:Addr->List Int}{a:List Addr}
theorem tQ(h:Q (decide (x<y)) s):wpAny (model prog w) A (oneLt' b (.int x t) (.int y u)) Q E s:=by
 cases b with
 | true=>exact oneLt_int h
 | false=>exact PySem.W.kat_one _ _ (lt_int h)
theorem lW:∀{xs ys:List Value} {ns c:List Int} (i:Nat),El xs ns->El ys c->Q (HT.lexLt ns c) s->PySem.W.KatLex prog w A b (decide (xs.length<ys.length)) Q (xs.zip ys) i s
 | _,_,_,_,i,.nil,.nil,h=>h
 | _,_,_,_,i,.nil,.cons m u k,h=>h
 | _,_,_,_,i,.cons n t k,.nil,h=>h
 | _,_,_,_,i,.cons (vs:=xs) n t k,.cons (vs:=ys) m u k2,h=>by
  rw[Ht]
  refine PySem.W.kat_cons (wpAny_eqBool_int ?_)
  rw[HT.lexLt_cons] at h
  cases a:(n == m) with
  | true =>
   have e:n=m:=by simpa using a
   rw[if_pos e] at h
   refine PySem.W.kat_yes ?_
   have : decide ((Nv n t::xs).length<(Nv m u::ys).length)=decide (xs.length<ys.length):=by simp
   rw[this]
   exact lW (i+1) k k2 h
  | false =>
   have e:¬ n=m:=by simpa using a
   rw[if_neg e] at h
   exact PySem.W.kat_no (tQ h)
theorem cC:∀{l:List Addr},(∀r∈l,∃its:List Value,El its (c r)/\IsTup s.heap r its.toArray)->(∀r∈l,c r≠[])->∃fs:List Value,PySem.W.KatTups s.heap (l.map Bc) fs/\fs.length=l.length/\∀v∈fs,∃i t,v=.int i t
 | [],_,_=>⟨[],.nil,rfl,λ_ h=>(nomatch h)⟩
 | r::l,hH,hn=>by
  obtain ⟨fs,p,q,u⟩:=cC (λf b=>hH f (Ae _ b)) (λf b=>hn f (Ae _ b))
  obtain ⟨its,a,o,g,k,n,e⟩:=hH r Aa
  have d:=hn r Aa
  match its,a with
  | [],a=>cases j:c r with
   | nil=>exact absurd j d
   | cons _ _=>rw[j] at a; cases a
  | v::its,a =>
   have : ∃i t,v=.int i t:=by
    revert a
    generalize c r=cr
    intro a
    cases a with
    | cons m t k=>exact ⟨_,_,rfl⟩
   refine ⟨v::fs,PySem.W.KatTups.cons g k e (by simp) p,by rw[Bu,Bu,q],λx hx=>?_⟩
   rcases Ao.mp hx with rfl | hx
   ·exact this
   ·exact u x hx
theorem oQ(b:N8 c a s.heap)(I:A.units<cLine)(M:2<=a.length):qB prog w A s a c [] HT.lexLt:=by
 obtain ⟨r,l,rfl⟩ : ∃r l,a=r::l:=by
  cases a with
  | nil=>simp at M
  | cons r l=>exact ⟨r,l,rfl⟩
 by_cases H:c r=[]
 ·exact ⟨oneType',λR E h=>E1 b H h,U5 b I⟩
 by_cases d:∀C∈r::l,c C≠[]
 ·obtain ⟨fs,f1,L,Z⟩:=cC b d
  refine ⟨tuples' true,λR E h=>?_,?_⟩
  ·refine PySem.W.kat_kind (T:=.type "int") f1 (by rw[L]; simp) (λv K=>?_) (by decide) h
   obtain ⟨i,t,rfl⟩:=Z v K
   exact .now
  ·refine ⟨λx y Q E ⟨n,j,k⟩ ⟨m,g,o⟩ h=>?_,λx=>Uo _,λx y z=>Wb,λx y z=>jX⟩
   obtain ⟨U,x2⟩:=x
   obtain ⟨P,y2⟩:=y
   simp only at k o
   subst k o
   obtain ⟨p,u,o1,g1,k1,n1,V⟩:=b n j
   obtain ⟨q,G,o2,g2,k2,n2,O⟩:=b m g
   refine PySem.W.kat_lt g1 V g2 O ?_
   have e:(decide (p.toArray.size<q.toArray.size))=decide (p.length<q.length):=by simp
   rw[e]
   exact lW 0 u G h
 ·refine ⟨general',λR E h=>?_,?_⟩
  ·rw[kat_kind_eq,aC,map_eq_pure_bind]
   refine Ab (Ab (Wc b λfs hl J=>An ?_))
   have na:¬ (fs.toArray.all λx=>x.isSome)=true:=by
    intro z
    refine d λC D=>?_
    obtain ⟨i,Y⟩:=List.getElem?_of_mem D
    obtain ⟨f,B,F⟩:=J i C Y
    refine F.mp ?_
    exact Array.all_eq_true'.mp z f (by have:=Au B; simpa using this)
   obtain ⟨f,B,F⟩:=J 0 r rfl
   have S:(fs.toArray[0]?.bind id).isSome=true:=by
    rw[Kc,B]
    simpa using F.mpr H
   rw[if_neg na,if_pos S]
   exact An h
  ·refine ⟨λx y Q E ⟨n,j,k⟩ ⟨m,g,o⟩ h=>?_,λx=>Uo _,λx y z=>Wb,λx y z=>jX⟩
   obtain ⟨U,x2⟩:=x
   obtain ⟨P,y2⟩:=y
   simp only at k o
   subst k o
   obtain ⟨p,u,N⟩:=b n j
   obtain ⟨q,G,X⟩:=b m g
   show wpAny (model prog w) A (oneLt' false (.ref n) (.ref m)) Q E s
   exact PySem.W.kat_one _ _ (HT.lt_tupInts N X (show El p.toArray.toList (c n) by simpa using u) (show El q.toArray.toList (c m) by simpa using G) I h)
end
section
variable{X:Cx}
def rSortI(K:PySem.W.Frag):List V->Hp->VK->Prop:=λe H Q=>∃(a:Addr) (d:List Addr) (c:Addr->List Int),e=[.ref a]/\Kv K H a (d.map V.ref)/\(∀r∈d,Ve K H r ((c r).map V.int))/\d.length<64 /\
  ∀(p:Addr) (b:List Addr),H p=none->b.Perm d->b.Pairwise (λx y=>HT.lexLt (c y) (c x)=false)->Q (.ref p) (upd H p (.lst (b.map V.ref)))
theorem call_sortedI(L:X.A.units+64<cLine):Pe X (.builtin "sorted") (rSortI X.K):=by
 intro j s J H R N Q I r h
 obtain ⟨a,z,c,rfl,y,C,D,q⟩:=h
 obtain ⟨u,rfl,E⟩:=vals1 r
 cases E
 obtain ⟨p,G,F,f⟩:=I.list y
 have e:=Qr G
 subst e
 rw[Ac] at f
 refine Rj (c:=c) (d0:=[]) (lt_:=HT.lexLt) F.isList (λO P M _ t m=>oQ (λr w=>?_) (by omega) m) f D λd i B=>?_
 ·obtain ⟨x,l,⟨o,g,k⟩,_⟩:=I.tuple (C r w)
  exact ⟨x,intsAre_of l,o,t _ _ g,k⟩
 ·obtain ⟨n,v⟩:=fL (h:=s.heap) (vs:=z.map Bc) (out:=(d.map Bc).toArray)
  refine ⟨.ref (s.heap.objs.size+1),upd H (s.heap.objs.size+1) (.lst (d.map V.ref)),I.laid (t':=s.toks) (λb o e=>Zx e) (Wo _) ⟨?_,_,n,Yw d,v⟩,rfl,q _ d (I.hok.fresh (Wo _)) i B⟩
  rw[Ac,i.length_eq]
  exact f
end
end Ts
namespace DL
open PySem L2 Nd
def Ny{a:Type}(xs:List a)(lo b:Option Int):List a:=(xs.drop (HT.sIx xs.length 0 lo)).take (HT.sIx xs.length xs.length b - HT.sIx xs.length 0 lo)
theorem oJ(f:b->c)(xs:List b)(lo a:Option Int):Ny (xs.map f) lo a=(Ny xs lo a).map f:=by
 unfold Ny
 rw[Ac,List.map_take,List.map_drop]
theorem Wx(xs:List b)(lo a:Option Int):(Ny xs lo a).Sublist xs:=(Mz _ _).trans (List.drop_sublist _ _)
theorem gO(xs:List a)(k:Nat):Ny xs none (some (k:Int))=xs.take k:=by
 unfold Ny
 rw[HT.sIx_none,HT.sIx_nat,List.drop_zero,Nat.sub_zero]
 by_cases h:k<=xs.length
 ·rw[Nat.min_eq_left h]
 ·rw[eJ (by omega),Fp,Hi (by omega)]
section
variable{K:PySem.W.Frag}{H:Hp}
theorem RdFs.drop:∀(n:Nat) {xs:List V} {a:List Ad} {F:List Addr},RdFs K H xs a F->∃G,RdFs K H (xs.drop n) (a.drop n) G/\G.Sublist F
 | 0,_,_,F,h=>⟨F,h,Cu _⟩
 | n+1,_,_,_,.nil=>⟨[],.nil,Cu _⟩
 | n+1,_,_,_,.cons _ t=>by
  obtain ⟨G,c,b⟩:=RdFs.drop n t
  exact ⟨G,c,b.trans (Cf _ _)⟩
theorem RdFs.take:∀(n:Nat) {xs:List V} {b:List Ad} {F:List Addr},RdFs K H xs b F->∃G,RdFs K H (xs.take n) (b.take n) G/\G.Sublist F
 | 0,_,_,F,h=>⟨[],.nil,List.nil_sublist _⟩
 | n+1,_,_,_,.nil=>⟨[],.nil,Cu _⟩
 | n+1,_,_,_,.cons a t=>by
  obtain ⟨G,d,c⟩:=RdFs.take n t
  exact ⟨_,.cons a d,(Cu _).append c⟩
theorem RdFs.cut(h:RdFs K H xs a F)(lo b:Option Int):∃G,RdFs K H (bG xs lo b) (Ny a lo b) G/\G.Sublist F:=by
 unfold bG Ny
 rw[h.len]
 obtain ⟨G,d,e⟩:=h.drop (HT.sIx a.length 0 lo)
 obtain ⟨c,g,f⟩:=d.take (HT.sIx a.length a.length b - HT.sIx a.length 0 lo)
 exact ⟨c,g,f.trans e⟩
theorem RdFs.rev:∀{xs:List V} {b:List Ad},RdFs K H xs b []->RdFs K H xs.reverse b.reverse []:=λ{xs b} h=>by
 have : ∀{xs:List V} {b:List Ad} {F:List Addr},RdFs K H xs b F->F=[]->RdFs K H xs.reverse b.reverse []:=by
  intro xs b F h
  induction xs generalizing b F with
  | nil=>intro _; cases h; exact .nil
  | cons x xs c =>
   intro e
   cases h with
   | @cons _ d _ b F G a t =>
    obtain ⟨rfl,rfl⟩:=Na.mp e
    rw[Ig,Ig]
    exact (c t rfl).snoc a
 exact this h rfl
theorem RdFs.rep(h:RdFs K H xs a []):∀k:Nat,RdFs K H (Ci k xs).flatten (Ci k a).flatten []
 | 0=>.nil
 | k+1=>by
  rw[Ga,Ga,Ih,Ih]
  exact h.app (RdFs.rep h k)
theorem RdFs.ints:∀ns:List Int,RdFs K H (ns.map V.int) (ns.map Ah) []
 | []=>.nil
 | n::ns=>RdFs.cons (F:=[]) (.int n) (RdFs.ints ns)
theorem RdFs.ints_inv:∀{ns:List Int} {xs:List V} {F:List Addr},RdFs K H xs (ns.map Ah) F->xs=ns.map V.int/\F=[]
 | [],_,_,h=>by cases h; exact ⟨rfl,rfl⟩
 | n::ns,_,_,h=>by
  rw[Ax] at h
  cases h with
  | cons a t =>
   obtain ⟨rfl,rfl⟩:=a.int_inv
   obtain ⟨rfl,rfl⟩:=RdFs.ints_inv t
   exact ⟨rfl,rfl⟩
theorem RdFs.bools_inv:∀{ns:List Bool} {xs:List V} {F:List Addr},RdFs K H xs (ns.map PyData.bool) F->xs=ns.map V.bl/\F=[]
 | [],_,_,h=>by cases h; exact ⟨rfl,rfl⟩
 | n::ns,_,_,h=>by
  rw[Ax] at h
  cases h with
  | cons a t =>
   obtain ⟨rfl,rfl⟩:=a.bl_inv
   obtain ⟨rfl,rfl⟩:=RdFs.bools_inv t
   exact ⟨rfl,rfl⟩
end
theorem dI:Dl (a++b)=(Dl a && Dl b):=by
 induction a with
 | nil=>simp [Dl]
 | cons x a c=>simp [Dl,c,Bool.and_assoc]
theorem Px(ns:List Int):Dl (ns.map Ah)=true:=We (λ_=>by simp [imm]) ns
def tX:D2:=λx y P=>match x,y with
 | .dat _ (.list ds),.dat _ (.list es)=>Dl ds=true/\Dl es=true/\ds.length+es.length<=1000000/\P (.dat .ow (.list (ds++es)))
 | _,_=>False
def iP:D2:=λx y P=>match x,y with
 | .dat _ (.tuple ds),.dat _ (.tuple es)=>Dl ds=true/\Dl es=true/\ds.length+es.length<=1000000/\P (.dat .ow (.tuple (ds++es)))
 | _,_=>False
def uH:D2:=λx y P=>match x,y with
 | .dat _ (.list ds),.dat _ (.int k)=>Dl ds=true /\ -1000000<=k/\k<=1000000/\ds.length * k.toNat<=1000000/\P (.dat .ow (.list (Ci k.toNat ds).flatten))
 | _,_=>False
section
variable{K:PySem.W.Frag}
theorem CU:kQ K CF tX:=by
 intro t X n S T x y v w F G H Q P d c k
 unfold tX at c
 split at c
 ·obtain ⟨i,j,z,p⟩:=c
  obtain ⟨b,m,s,rfl,g,e,_,_⟩:=(d.told mem_mid).list_inv
  obtain ⟨a,o,A,rfl,l,f,_,_⟩:=(d.told Ec).list_inv
  have u:=f.len
  have r:=e.len
  refine ⟨a,b,o,m,rfl,rfl,l,g,dZ (by omega),λq h=>?_⟩
  exact k _ _ _ _ (d.drop2.newI (f.app e) (by rw[dI,i,j]; rfl) (by rw[Bz]; exact dZ (by omega)) h .ow) p
 ·exact c.elim
theorem BR:kQ K JJ uH:=by
 intro u X n S T x y v w F G H Q P e c k
 unfold uH at c
 split at c
 ·obtain ⟨g,t,s,f,p⟩:=c
  obtain ⟨rfl,_⟩:=(e.told mem_mid).int_inv
  obtain ⟨a,r,A,rfl,m,d,_,_⟩:=(e.told Ec).list_inv
  have h:=d.len
  obtain rfl:=d.imm g
  rename_i j
  refine ⟨a,_,r,rfl,rfl,m,by omega,by omega,dZ (by rw[h]; exact f),λq i=>?_⟩
  refine k _ _ _ _ (e.drop2.newI (d.rep _) ?_ (by rw[uI,Nat.mul_comm]; exact dZ f) i .ow) p
  refine pK.mpr λz b=>?_
  obtain ⟨l,o,b⟩:=List.mem_flatten.mp b
  rw[(Ji.mp o).2] at b
  exact pK.mp g z b
 ·exact c.elim
theorem P4:kQ K (BB K) iP:=by
 intro B X n S T x y v w F G H Q P c d k
 unfold iP at d
 split at d
 ·obtain ⟨u,z,C,p⟩:=d
  obtain ⟨b,l,rfl,i,f,A⟩:=(c.told mem_mid).tup_inv
  obtain ⟨a,m,rfl,j,g,r⟩:=(c.told Ec).tup_inv
  have s:=g.len
  have o:=f.len
  obtain rfl:=g.imm u
  obtain rfl:=f.imm z
  refine ⟨a,b,m,l,rfl,rfl,Ve.of j,Ve.of i,dZ (by omega),λe=>?_,λe=>?_,λq t=>?_⟩
  ·subst e
   obtain rfl:=Mh.mp (s.symm.trans rfl)
   exact k _ _ [] _ (c.drop2.pushI (.tup i A f)) p
  ·subst e
   obtain rfl:=Mh.mp (o.symm.trans rfl)
   rw[Dk] at p
   exact k _ _ [] _ (c.drop2.pushI (.tup j r g)) p
  ·have h:=Gi t (.tup (m++l))
   exact k _ _ [] _ ((c.drop2.grow h (Ar _)).pushI (.tup Dq (by rw[Bz]; exact dZ (by omega)) ((g.app f).kp (Kp.of h)))) p
 ·exact d.elim
end
section
variable{X:Cx}{a b:Expr}{d c:DE}{pos:Pos}
theorem Sy(e:Ee X a d)(hb:Ee X b c):Ee X (.BinOp a .Add b pos) (Wj tX d c):=Tu J6 CU e hb
theorem sZ(e:Ee X a d)(hb:Ee X b c):Ee X (.BinOp a .Add b pos) (Wj iP d c):=Tu X1 P4 e hb
theorem x6(e:Ee X a d)(hb:Ee X b c):Ee X (.BinOp a .Mult b pos) (Wj uH d c):=Tu FH BR e hb
end
abbrev DO:=DS->(Option Int->DS->Prop)->Prop
def LO(K:PySem.W.Frag)(b:DO):TO:=λf H Q=>∃(e:Hp) (X:Addr->Prop) (S T:List Ent) (c:DS) (P:Option Int->DS->Prop),vs S=f/\Sl S c/\At K e X c.n (S++T) H/\b c P /\
 ∀o a d g,vs d=f->Sl d a->At K e X a.n (d++T) g->P o a->Q o g
abbrev GJ(X:Cx)(e:Option Expr)(d:DO):Prop:=PO X e (LO X.K d)
theorem PO.imp(h:PO X e t)(k:∀b H Q,t' b H Q->t b H Q):PO X e t':=λa s b H Q I q=>h a s b H Q I (k b H Q q)
def uQ:DO:=λa P=>P none a
def Z9(c:DE):DO:=λb P=>c b λx a=>match x with
 | .dat _ (.int i)=>P (some i) a
 | _=>False
section
variable{X:Cx}{e:Expr}{b:DE}{lo c:Option Expr}{dl f:DO}{pos d:Pos}
theorem Nk:GJ X none uQ:=by
 refine PO.imp T1 λf H Q h=>?_
 obtain ⟨e,Y,S,T,c,P,rfl,b,d,a,k⟩:=h
 exact k _ c S H rfl b d a
theorem Nn(h:Ee X e b):GJ X (some e) (Z9 b):=by
 refine PO.imp (W4 h) λq H Q h=>?_
 obtain ⟨g,Y,S,T,l,P,rfl,f,n,d,k⟩:=h
 refine ⟨g,Y,S,T,l,_,rfl,f,n,d,λx c v F m o j i a p=>?_⟩
 split at p
 ·obtain ⟨rfl,_⟩:=(a.told mem_mid).int_inv
  exact ⟨_,rfl,k _ c m o j i a.drop p⟩
 ·exact p.elim
def MW(i:Bool)(b:DE)(dl f:DO):DE:=λe P=>b e λx d=>dl d λl c=>f c λh a=>match x with
 | .dat m (.list ds)=>Xf i m (Ny ds l h) λz=>P z a
 | .dat m (.tuple ds)=>j7 i m (Ny ds l h) λz=>P z a
 | _=>False
def MO(K:PySem.W.Frag):V->Option Int->Option Int->Hp->VK->Prop:=λx lo c H Q=>EN K x lo c H Q\/AS x lo c H Q
theorem Ow(he:Ee X e b)(hl:GJ X lo dl)(R:GJ X c f):Ee X (.Subscript e (.Slice lo c none d) pos) (MW i b dl f):=by
 refine PE.imp (oF (r:=MO X.K) (S8.or O7) he hl R) λσ H Q h=>?_
 obtain ⟨o,Y,S,T,δ,P,rfl,U,hA,hd,k⟩:=h
 refine ⟨o,Y,S,T,δ,_,rfl,U,hA,hd,λx u v F S1 H1 e1 e2 I W=>?_⟩
 refine ⟨o,Y,S1,⟨some v,x,F⟩::T,u,_,e1,e2,I,W,λl C Z H2 e3 e4 t d=>?_⟩
 refine ⟨o,Y,Z,⟨some v,x,F⟩::T,C,_,e3,e4,t,d,λh m M H3 N L g n=>?_⟩
 split at n
 ·obtain ⟨a,J,G,rfl,A,y,rfl,D⟩:=(g.told mem_mid).list_inv
  refine .inl ⟨a,J,rfl,Kv.of A,λp q=>?_⟩
  obtain ⟨V,E,s⟩:=y.cut l h
  obtain ⟨z,w,j,B⟩:=g.newL E (s.trans (Cw _ _)) (Ce (Wx _ _ _).length_le D) q n
  exact k z m _ w M _ N L j B
 ·obtain ⟨a,J,rfl,A,y,D⟩:=(g.told mem_mid).tup_inv
  refine .inr ⟨a,J,rfl,A,λp H' q O=>?_⟩
  obtain ⟨V,E,s⟩:=y.cut l h
  obtain ⟨z,w,j,B⟩:=(g.grow O (Ar _)).oldT (E.kp (Kp.of O)) s (Ce (Wx _ _ _).length_le D) q n
  exact k z m _ w M _ N L j B
 ·exact n.elim
def Z7(b:DE):DE:=λc P=>b c λx a=>match x with
 | .dat _ (.list ds)=>Dl ds=true/\P (.dat .ow (.list ds.reverse)) a
 | _=>False
theorem rY(h:Dl a=true):Dl a.reverse=true:=pK.mpr λx b=>pK.mp h x (dW.mp b)
theorem O0(z:Ee X e b)(r:PE X k m)(i:∀j H Q,Q (.int (-1)) H->m j H Q):Ee X (.Subscript e (.Slice none none (some k) d) pos) (Z7 b):=by
 refine PE.imp (U8 z r i) λj H Q h=>?_
 obtain ⟨o,Y,S,T,C,P,rfl,n,w,y,B⟩:=h
 refine ⟨o,Y,S,T,C,_,rfl,n,w,y,λx g v F s I A t f c=>?_⟩
 split at c
 ·obtain ⟨a,E,G,rfl,u,l,rfl,D⟩:=(f.told mem_mid).list_inv
  obtain rfl:=l.imm c.1
  refine ⟨a,E,rfl,Kv.of u,λp q=>?_⟩
  exact B _ g _ _ s _ A t (f.drop.newI l.rev (rY c.1) (by rw[Iy]; exact D) q .ow) c.2
 ·exact c.elim
end
end DL
namespace NdS
open PySem PyProof.Rows
end NdS
namespace Nd
open PySem PySem.Spec PyProof.Rows L2 NdS
end Nd
namespace DL
open PySem L2 Nd
def HS(x:Int):List Int->List Int
 | []=>[x]
 | y::l=>if x<y then x::y::l else if x=y then y::l else y::HS x l
def FV(ns:List Int):List Int:=ns.foldr HS []
abbrev DC:=List DV->(DV->Prop)->Prop
def Pb(K:PySem.W.Frag)(r:List V->Hp->VK->Prop)(rd:DC):Prop:=∀(c:Hp) (X:Addr->Prop) (n:Nat) (S T a:List Ent) (b:List V) (H:Hp) (Q:VK) (P:DV->Prop),
 a.map Ent.v=b.map some->At K c X n (S++(a++T)) H->rd (a.map Ent.x) P->(∀z u e d,At K c X n (S++⟨some u,z,e⟩::T) d->P z->Q u d)->r b H Q
def FB(rd:DC)(b:DA):DE:=λc P=>b c λd a=>rd d λz=>P z a
section
variable{X:Cx}{x:Str}{p pos:Pos}{e:Expr}{es:List Expr}{a:DA}{id T:String}{r:List V->Hp->VK->Prop}{rd:DC}
theorem lO(o:Pb K r rd):∀c H Q,LE K (FB rd a) c H Q->GN r (LA K a) c H Q:=by
 intro c H Q h
 obtain ⟨g,Y,S,T,A,P,rfl,j,w,x,k⟩:=h
 refine ⟨g,Y,S,T,A,_,rfl,j,w,x,λD b q C i B y v l t d p=>?_⟩
 subst l
 exact o g Y b.n i T q C B Q _ t d p λz u s e f m=>k z b u s i e y v f m
theorem Di(h:Pe X (.builtin id) r)(o:Pb X.K r rd)(j:Gl X x)(k:X.mg x=none)(d:Ke x=some (.builtin id))(i:kB X (e::es) a)(g:x ≠ "__name__" := by decide)(c:(x == ("__debug__" : Str))=false:=by decide)(f:Bl (e::es) X.env=(false,eval e X.env)::Bl es X.env:=by rfl)(b:(Gr pos (Bl es X.env)).any (·.1)=false:=by rfl):Ee X (.Call (.Name x p) (e::es) [] pos) (FB rd a) :=
 PE.imp (yV h j k d i g c f b) (lO o)
theorem Ki(h:Pe X (.type T) r)(o:Pb X.K r rd)(j:Gl X x)(k:X.mg x=none)(d:Ke x=some (.type T))(i:kB X (e::es) a)(g:x ≠ "__name__" := by decide)(c:(x == ("__debug__" : Str))=false:=by decide)(f:Bl (e::es) X.env=(false,eval e X.env)::Bl es X.env:=by rfl)(b:(Gr pos (Bl es X.env)).any (·.1)=false:=by rfl):Ee X (.Call (.Name x p) (e::es) [] pos) (FB rd a) :=
 PE.imp (fQ h j k d i g c f b) (lO o)
end
theorem CZ{c b:Type}{f:c->b}{l:List c}{x:b}(h:l.map f=[x]):∃a,l=[a]/\f a=x:=by
 cases l with
 | nil=>cases h
 | cons a t =>
  obtain ⟨d,e⟩:=Dd h
  exact ⟨a,by rw[Fh.mp e],d⟩
theorem HJ{c d:Type}{f:c->d}{l:List c}{x y:d}(h:l.map f=[x,y]):∃a b,l=[a,b]/\f a=x/\f b=y:=by
 cases l with
 | nil=>cases h
 | cons a t =>
  obtain ⟨e,g⟩:=Dd h
  obtain ⟨b,rfl,i⟩:=CZ g
  exact ⟨a,b,rfl,e,i⟩
theorem Ii(d:As.map Ent.v=us.map some)(g:At K c X n (S++(As++T)) H)(ex:As.map Ent.x=[x]):∃v F,us=[v]/\At K c X n (S++⟨some v,x,F⟩::T) H:=by
 obtain ⟨⟨v,y,F⟩,rfl,e⟩:=CZ ex
 obtain ⟨u,rfl,f⟩:=CZ d.symm
 have b:y=x:=e
 have a:some u=v:=f
 subst b a
 exact ⟨u,F,rfl,g⟩
theorem Xh(g:As.map Ent.v=us.map some)(o:At K e X n (S++(As++T)) H)(ex:As.map Ent.x=[x,y]):∃v F w G,us=[v,w]/\At K e X n (S++⟨some v,x,F⟩::⟨some w,y,G⟩::T) H:=by
 obtain ⟨⟨v,h,F⟩,⟨w,l,G⟩,rfl,i,j⟩:=HJ ex
 obtain ⟨u,f,rfl,m,k⟩:=HJ g.symm
 have c:h=x:=i
 have b:l=y:=j
 have a:some u=v:=m
 have d:some f=w:=k
 subst c b a d
 exact ⟨u,F,f,G,rfl,o⟩
def vG:DC:=λa P=>match a with
 | [.dat _ (.list ds)]=>P (.dat .ow (.int ds.length))
 | [.dat _ (.tuple ds)]=>P (.dat .ow (.int ds.length))
 | [.dat _ (.str z)]=>z.length<=1000000/\P (.dat .ow (.int z.length))
 | _=>False
def B6:DC:=λa P=>match a with
 | [.dat _ (.int i)]=>P (.dat .ow (.int i))
 | [.dat _ (.bool b)]=>P (.dat .ow (.int (if b=true then 1 else 0)))
 | _=>False
def qQ:DC:=λa P=>match a with
 | [.dat _ (.int i),.dat _ (.int j)]=>P (.dat .ow (.int (if j > i then j else i)))
 | _=>False
def sG:DC:=λb P=>match b with
 | [.dat _ (.list ds)]=>∃a:List Int,ds=a.map Ah/\a≠[]/\∀M∈a,(∀x∈a,M<=x)->P (.dat .ow (.int M))
 | _=>False
def pR:DC:=λb P=>match b with
 | [.dat _ (.list ds)]=>∃a:List Int,ds=a.map Ah/\a≠[]/\∀M∈a,(∀x∈a,x<=M)->P (.dat .ow (.int M))
 | _=>False
def yO:DC:=λa P=>match a with
 | [.dat _ (.list ds)]=>∃bs:List Bool,ds=bs.map PyData.bool/\P (.dat .ow (.bool (bs.all id)))
 | _=>False
def uU:Ad->String
 | .none => "NoneType"
 | .bool _ => "bool"
 | .int _ => "int"
 | .str _ => "str"
 | .list _ => "list"
 | .tuple _ => "tuple"
 | .dict _ => "dict"
def Vx(d:Ad)(n:String):Bool:=uU d == n || (uU d == "bool" && n == "int")
def J1:DC:=λa P=>match a with
 | [.dat _ d,.val (.ty n)]=>(n = "int" \/ n = "bool" \/ n = "str" \/ n = "list" \/ n = "tuple")/\P (.dat .ow (.bool (Vx d n)))
 | _=>False
def i7:DC:=λa P=>match a with
 | [.dat _ d]=>(∃b,b<=400/\Oj b d/\(b+12) * Lk d<=Az)/\d.depth<=90/\P (.dat .ow (.str (jN d)))
 | _=>False
section
variable{K:PySem.W.Frag}
theorem Jg:Pb K (λxs H Q=>∃x n,xs=[x]/\IF K x H n/\Q (.int n) H) vG:=by
 intro i X n S T j h H Q P e b c k
 unfold vG at c
 split at c
 ·rename_i d
  obtain ⟨v,F,rfl,b⟩:=Ii e b d
  obtain ⟨a,xs,G,rfl,g,f,_,_⟩:=(b.told mem_mid).list_inv
  exact ⟨_,_,rfl,.inl ⟨xs,Kv.of g,f.len.symm⟩,k _ _ [] H (b.drop.pushI (.int _)) c⟩
 ·rename_i d
  obtain ⟨v,F,rfl,b⟩:=Ii e b d
  obtain ⟨a,xs,rfl,g,f,_⟩:=(b.told mem_mid).tup_inv
  exact ⟨_,_,rfl,.inr ⟨xs,Ve.of g,f.len.symm⟩,k _ _ [] H (b.drop.pushI (.int _)) c⟩
 ·rename_i d
  obtain ⟨v,F,rfl,b⟩:=Ii e b d
  obtain ⟨rfl,_⟩:=(b.told mem_mid).str_inv
  exact ⟨_,_,rfl,⟨dZ c.1,rfl⟩,k _ _ [] H (b.drop.pushI (.int _)) c.2⟩
 ·exact c.elim
theorem qS:Pb K (λxs H Q=>(∃i,xs=[V.int i]/\Q (.int i) H)\/∃k,xs=[V.bl k]/\Q (.int (if k then 1 else 0)) H) B6:=by
 intro f X n S T g e H Q P d a b k
 unfold B6 at b
 split at b
 ·rename_i c
  obtain ⟨v,F,rfl,a⟩:=Ii d a c
  obtain ⟨rfl,_⟩:=(a.told mem_mid).int_inv
  exact .inl ⟨_,rfl,k _ _ [] H (a.drop.pushI (.int _)) b⟩
 ·rename_i c
  obtain ⟨v,F,rfl,a⟩:=Ii d a c
  obtain ⟨rfl,_⟩:=(a.told mem_mid).bl_inv
  exact .inr ⟨_,rfl,k _ _ [] H (a.drop.pushI (.int _)) b⟩
 ·exact b.elim
theorem U1:Pb K (λxs H Q=>∃i j,xs=[V.int i,V.int j]/\Q (.int (if j > i then j else i)) H) qQ:=by
 intro f X n S T g e H Q P c a b k
 unfold qQ at b
 split at b
 ·rename_i d
  obtain ⟨v,F,w,G,rfl,a⟩:=Xh c a d
  obtain ⟨rfl,_⟩:=(a.told mem_mid).int_inv
  obtain ⟨rfl,_⟩:=(a.told Ec).int_inv
  exact ⟨_,_,rfl,k _ _ [] H (a.drop2.pushI (.int _)) b⟩
 ·exact b.elim
theorem aI:Pb K (AA K) sG:=by
 intro p X n S T r o H Q P d c b k
 unfold sG at b
 split at b
 ·rename_i e
  obtain ⟨v,F,rfl,c⟩:=Ii d c e
  obtain ⟨i,rfl,m,j⟩:=b
  obtain ⟨a,s,G,rfl,h,f,rfl,q⟩:=(c.told mem_mid).list_inv
  obtain ⟨rfl,_⟩:=f.ints_inv
  exact ⟨a,i,rfl,Kv.of h,m,λM g l=>k _ _ [] H (c.drop.pushI (.int _)) (j M g l)⟩
 ·exact b.elim
theorem jY:Pb K (AX K) pR:=by
 intro p X n S T r o H Q P d c b k
 unfold pR at b
 split at b
 ·rename_i e
  obtain ⟨v,F,rfl,c⟩:=Ii d c e
  obtain ⟨i,rfl,m,j⟩:=b
  obtain ⟨a,s,G,rfl,h,f,rfl,q⟩:=(c.told mem_mid).list_inv
  obtain ⟨rfl,_⟩:=f.ints_inv
  exact ⟨a,i,rfl,Kv.of h,m,λM g l=>k _ _ [] H (c.drop.pushI (.int _)) (j M g l)⟩
 ·exact b.elim
theorem iV:Pb K (λxs H Q=>∃(p:Addr) (bs:List Bool),xs=[.ref p]/\Kv K H p (bs.map V.bl)/\Q (.bl (bs.all id)) H) yO:=by
 intro j X n S T m i H Q P d c b k
 unfold yO at b
 split at b
 ·rename_i e
  obtain ⟨v,F,rfl,c⟩:=Ii d c e
  obtain ⟨bs,rfl,h⟩:=b
  obtain ⟨a,xs,G,rfl,g,f,rfl,l⟩:=(c.told mem_mid).list_inv
  obtain ⟨rfl,_⟩:=f.bools_inv
  exact ⟨a,bs,rfl,Kv.of g,k _ _ [] H (c.drop.pushI (.bl _)) h⟩
 ·exact b.elim
theorem X4(h1:(Ij T == Ij n)=false)(c:PySem.W.kitMeta n=true)(a:(fastBuiltinMro T).map (λx=>x.contains (Ij n))=some b):PySem.W.kitOne K (.type T) (.type n)=some b:=DU h1 c a
theorem R7(c:n = "int" \/ n = "bool" \/ n = "str" \/ n = "list" \/ n = "tuple"):PySem.W.kitOne K (.type (uU d)) (.type n)=some (Vx d n):=by
 have a:∀T:String,(T = "NoneType" \/ T = "bool" \/ T = "int" \/ T = "str" \/ T = "list" \/ T = "tuple" \/ T = "dict")->PySem.W.kitOne K (.type T) (.type n)=some (T == n || (T == "bool" && n == "int")):=by
  intro T b
  rcases b with rfl | rfl | rfl | rfl | rfl | rfl | rfl <;> rcases c with rfl | rfl | rfl | rfl | rfl <;> first | exact ER | exact X4 (by decide +kernel) (by decide +kernel) (by decide +kernel)
 unfold Vx
 refine a _ ?_
 cases d <;> simp [uU]
theorem qL:Pb K (NA K) J1:=by
 intro o X n S T p m H Q P f c a k
 unfold J1 at a
 split at a
 ·rename_i g
  obtain ⟨v,F,w,G,rfl,c⟩:=Xh f c g
  have j:w=.ty _:=Bo (c.ok _ Ec).1
  subst j
  have r:=c.told mem_mid
  refine ⟨v,_,.type (uU _),_,rfl,?_,R7 a.1,k _ _ [] H (c.drop2.pushI (.bl _)) a.2⟩
  ·cases r with
   | non=>exact .non
   | bl b=>exact .bl b
   | int i=>exact .int i
   | str x=>exact .str x
   | lst h l d=>exact .lst h
   | tup h l d=>exact .tup h
   | dic h e d=>exact .dT h
   | dik h e d=>exact .dK h
   | dnm h e d=>exact .dT h
 ·exact a.elim
theorem Yk:Pb K (HW K) i7:=by
 intro f X n S T g e H Q P c b a k
 unfold i7 at a
 split at a
 ·rename_i d
  obtain ⟨v,F,rfl,b⟩:=Ii c b d
  exact ⟨_,_,rfl,⟨(b.told mem_mid).rd a.2.1,a.1,a.2.1⟩,k _ _ [] H (b.drop.pushI (.str _)) a.2.2⟩
 ·exact a.elim
end
def dV(v:V):DE:=λa P=>P (.val v) a
section
variable{X:Cx}{e:Expr}
theorem BO(h:PE X e (tC v)):Ee X e (dV v):=by
 refine PE.imp h λj H Q h=>?_
 obtain ⟨l,Y,S,T,g,P,rfl,d,i,c,k⟩:=h
 exact k _ g v [] S H rfl d ((i.push (e:=⟨some v,.val v,[]⟩) ⟨rfl,rfl⟩ (λf _=>⟨λ_ a b=>(nomatch b),λ_ a _=>Bn⟩) (λa b=>(nomatch b))).tomid) c
theorem zR{x:Str}{n:String}{pos:Pos}(a:Gl X x)(c:X.mg x=none)(b:Ke x=some (.type n))(d:x ≠ "__name__" := by decide)(hd:(x == ("__debug__" : Str))=false:=by decide):Ee X (.Name x pos) (dV (.ty n)):=BO (P1 a c b rfl d hd)
end
end DL
namespace Nd
open PySem PySem.Spec PyProof.Rows L2
def MD(K:PySem.W.Frag)(a b:Addr):It :=
  ⟨λi H=>∃d c x y,Kv K H a d/\Kv K H b c/\d[i]? = some x/\c[i]? = some y,
   λi H x e=>∃p u v,x=.ref p/\H p=none/\e=upd H p (.tup [u,v])/\(∀d,Kv K H a d->d[i]? = some u)/\∀c,Kv K H b c->c[i]? = some v,
   λi H=>∃d c,Kv K H a d/\Kv K H b c/\(d.length<=i\/c.length<=i)⟩
theorem K4{P:Bp}{w:World}{K:PySem.W.Frag}{M:List Expr}{k:Nat}{pos:Pos}(a b z TI TO j l:Addr)(D:Qa z TI TO j l a b):Turn P w K (.Tuple M k pos) (MD K a b) [z,TI,TO,j,l] z (λi h=>IsZip h z TI TO .none/\Sm h TI (.ref j) (.ref l)/\(∃u v,Sm h TO u v)/\h.IsListIter j a i/\h.IsListIter l b i) where
 mem:=Aa
 obj:=λi h st c d=>by
  obtain ⟨t,e,⟨u,v,f⟩,⟨Z,e1,c1,d1⟩,⟨V,e2,c2,d2⟩⟩:=st
  simp only[Ao,Bn,or_false] at d
  rcases d with rfl | rfl | rfl | rfl | rfl
  ·exact ⟨_,t,λv z=>by cases z⟩
  ·exact ⟨_,e,λv z=>by cases z⟩
  ·exact ⟨_,f,λv z=>by cases z⟩
  ·exact ⟨Z,e1,λv z=>by rw[d1] at z; cases z⟩
  ·exact ⟨V,e2,λv z=>by rw[d2] at z; cases z⟩
 keep:=λi h h' st kp=>by
  obtain ⟨t,e,⟨u,v,f⟩,Q,S⟩:=st
  exact ⟨kp z (by simp) _ t,kp TI (by simp) _ e,⟨u,v,kp TO (by simp) _ f⟩,Q.at λo q=>kp j (by simp) o q,S.at λo q=>kp l (by simp) o q⟩
 item:=by
  intro X hP hw hK d i A s σ H E I U st hg
  subst hP hw hK
  obtain ⟨xs,ys,x,y,n,m,R,hy⟩:=hg
  obtain ⟨L,B,p1,h7⟩:=I.list n
  obtain ⟨O,J,p2,h6⟩:=I.list m
  obtain ⟨C,h5,h4⟩:=B.get R
  obtain ⟨G,Y,h8⟩:=J.get hy
  obtain ⟨t,e,⟨Z,V,f⟩,p,r⟩:=st
  have zl:z<s.heap.objs.size:=Bb t
  have k0:TI<s.heap.objs.size:=Bb e
  have h9:TO<s.heap.objs.size:=Bb f
  have k1:j<s.heap.objs.size:=by obtain ⟨_,q,_⟩:=p; exact Bb q
  have k4:l<s.heap.objs.size:=by obtain ⟨_,q,_⟩:=r; exact Bb q
  refine wpAny_pyNext_zip_item D t e f p r p1.isList p2.isList (x:=C) (y:=G) (by simpa using h5) (by simpa using Y) λQ a1 a2 a3 a4 a5 a6 T=>⟨_,rfl,wpAny_letOwnedTupleGo_zip a1 λS h0 h3=>?_⟩
  have g:Gk z Q S:=h3
  have I1:Inv X A σ (upd H s.heap.objs.size (.tup [x,y])) { s with heap:=s.heap.push { cls:=.type "tuple",data:=.seq #[C,G] } } :=
   I.laid (t':=s.toks) (λb o q=>Ai _ q) (Ar _) ⟨by show 2<=Az; decide,[C,G],.cons h4 (.cons h8 .nil),_,Be _ rfl,rfl,0,rfl⟩
  have nT:∀c∈[z,TI,TO,j,l],c≠s.heap.objs.size:=λc d=>by
   simp only[Ao,Bn,or_false] at d
   rcases d with rfl | rfl | rfl | rfl | rfl <;> exact By (by assumption)
  have fr:∀c∈[z,TI,TO,j,l],(upd H s.heap.objs.size (.tup [x,y])) c=none:=λc d=>by rw[Cp (nT c d)]; exact (U c d).1
  refine ⟨.ref s.heap.objs.size,_,Og (fp:=[z,TI,TO,j,l]) (s:={ s with heap:=s.heap.push { cls:=.type "tuple",data:=.seq #[C,G] } }) (h':=S) (t':=s.toks) I1 (λc o d q=>?_) (λc d=>⟨fr c d,(U c d).2⟩),rfl,⟨_,x,y,rfl,I.hok.fresh (Ar _),rfl,(λzs F=>by rw[I.list_inj F n]; exact R),λzs F=>by rw[I.list_inj F m]; exact hy⟩,⟨h0,?_,⟨C,G,?_⟩,?_,?_⟩,fr⟩
  ·simp only[Ao,Bn,or_false,not_or] at d
   refine (g.2 c d.1).trans ?_
   by_cases N:c=s.heap.objs.size
   ·subst N
    have q':=(Be s.heap (o:={ cls:=.type "tuple",data:=.seq #[C,G] }) rfl).symm.trans q
    rw[show Q.get? s.heap.objs.size=_ from a5]
    exact q'
   ·refine T c o d.1 d.2.2.1 d.2.2.2.1 d.2.2.2.2 ?_
    have q0:(s.heap.push { cls:=.type "tuple",data:=.seq #[C,G] }).get? c=some o:=q
    rcases Heap.get?_push_cases q0 with zz | zz
    ·exact absurd zz.1 N
    ·exact zz
  ·exact (g.2 TI D.TIz).trans (T TI _ D.TIz D.TITO D.TIi1 D.TIi2 e)
  ·exact (g.2 TO D.TOz).trans a2
  ·exact a3.at λo q=>(g.2 j D.i1z).trans q
  ·exact a4.at λo q=>(g.2 l D.i2z).trans q
 done:=by
  intro X hP hw hK d i A s σ H E I U st hg
  subst hP hw hK
  obtain ⟨xs,ys,n,m,R⟩:=hg
  obtain ⟨L,B,p1,h7⟩:=I.list n
  obtain ⟨O,J,p2,h6⟩:=I.list m
  obtain ⟨t,e,⟨Z,V,f⟩,p,r⟩:=st
  have k3:=B.length
  have k2:=J.length
  refine wpAny_pyNext_zip_end (I.ok.hd d) D t e f p r p1.isList p2.isList ?_ λQ T=>⟨rfl,Og (fp:=[z,TI,TO,j,l]) (t':=s.toks) I (λc o d q=>?_) U⟩
  ·rcases R with h | h
   ·exact .inl (by simp; omega)
   ·exact .inr (by simp; omega)
  ·simp only[Ao,Bn,or_false,not_or] at d
   exact T c o d.1 d.2.2.1 d.2.2.2.1 d.2.2.2.2 q
 self:=λ_ _ _ _ _ st h=>kU st.1 h
theorem fV(I l1 l2:Nat)(h1:l1<I)(b:l2<I):Qa (I+4) (I+2) (I+3) I (I+1) l1 l2:=by
 constructor <;> (intro e; have a:(_:Nat)=_:=e; omega)
section
variable{X:Cx}
def MQ(K:PySem.W.Frag)(ta:TA):TI:=λe H R=>ta e H λvs c=>∃a b,vs=[.ref a,.ref b]/\(∃f,Kv K c a f)/\(∃d,Kv K c b d)/\R (MD K a b) c
theorem FS{i:List Expr}{k:Nat}{W:Pos}{a b:Expr}{ta:TA}{p pos:Pos}(V:Gl X "zip")(Z:X.mg "zip" = none)(U:PA X [a,b] ta)(hs:Bl [a,b] X.env=(false,eval a X.env)::Bl [b] X.env:=by rfl)(P:(Gr pos (Bl [b] X.env)).any (·.1)=false:=by rfl):PI X (.Tuple i k W) (.Call (.Name "zip" p) [a,b] [] pos) (MQ X.K ta):=by
 intro f s N H R I h
 refine Call_ (Ld I V Z (u:=.type "zip") (by decide +kernel) (Fk (Il (U pos f s N H _ I h) λus g ⟨vs,w,t,Y,T⟩=>?_) hs P))
 obtain ⟨J,E,e,⟨xs,x⟩,⟨ys,v⟩,q⟩:=T
 subst e
 obtain ⟨u1,u2,rfl,A,D⟩:=vals2 Y
 cases A
 cases D
 obtain ⟨F,O,l,h1⟩:=t.list x
 obtain ⟨G,h3,j,h0⟩:=t.list v
 have m:J<g.heap.objs.size:=let ⟨o,q,_⟩:=l.isList; Bb q
 have r:E<g.heap.objs.size:=let ⟨o,q,_⟩:=j.isList; Bb q
 refine call_zip_2 l.isList j.isList λh2 M y z B C Q S=>kU M ?_
 have d:∀n,Np X f w (g.heap.objs.size+n):=λn=>t.fpOk (Sw _ _) (t.hok.fresh (Sw _ _))
 have fr:∀c∈[g.heap.objs.size+4,g.heap.objs.size+2,g.heap.objs.size+3,g.heap.objs.size,g.heap.objs.size+1],Np X f w c:=λc L=>by
  simp only[Ao,Bn,or_false] at L
  rcases L with rfl | rfl | rfl | rfl | rfl
  ·exact d 4
  ·exact d 2
  ·exact d 3
  ·exact d 0
  ·exact d 1
 exact ⟨g.heap.objs.size+4,_,_,_,w,rfl,t.kept (t':=g.toks) S,K4 J E _ _ _ _ _ (fV _ _ _ m r),⟨M,y,⟨_,_,z⟩,B,C⟩,fr,q⟩
end
end Nd
namespace Nd
open PySem PySem.Spec PyProof.Rows L2
open AutoSeq1 (wpAny_loadPart')
end Nd
namespace DL
open PySem L2 Nd
def dB(d:DE):DT:=λc P=>d c λx a=>match x with
 | .dat _ (.bool b)=>P b a
 | _=>False
def V0:Ad->Bool
 | .none=>false
 | .bool b=>b
 | .int i=>i != 0
 | .str s=>(s.length:Int) != 0
 | .list a=>!a.isEmpty
 | .tuple a=>!a.isEmpty
 | .dict _=>true
def JG:Ad->Prop
 | .str s=>s.length<=1000000
 | .dict _=>False
 | _=>True
def FW(c:DE):DT:=λb P=>c b λx a=>match x with
 | .dat _ d=>JG d/\P (V0 d) a
 | _=>False
def AK(dt:DT):DT:=λc P=>dt c λb a=>P (!b) a
def AI(dt d:DT):DT:=λc P=>dt c λb a=>match b with
 | true=>d a P
 | false=>P false a
def JO(dt d:DT):DT:=λc P=>dt c λb a=>match b with
 | true=>P true a
 | false=>d a P
def GY(d:DE):DE:=λc P=>d c λx a=>match x with
 | .dat _ (.bool b)=>P (.dat .ow (.bool (!b))) a
 | _=>False
def HD(d c:DE):DE:=λb P=>d b λx a=>match x with
 | .dat _ (.bool true)=>c a P
 | .dat _ (.bool false)=>P (.dat .ow (.bool false)) a
 | _=>False
def HK(dt:DT)(e d:DE):DE:=λc P=>dt c λb a=>match b with
 | true=>e a P
 | false=>d a P
def GU(c:DE):DE:=λb P=>c b λx a=>match x with
 | .dat _ (.int i)=>P (.dat .ow (.int (-i))) a
 | _=>False
section
variable{K:PySem.W.Frag}{a:DE}
theorem IA:∀d H Q,LT K (dB a) d H Q->LE K a d H λx H'=>∃k,x=.bl k/\Q k H':=by
 intro d H Q h
 obtain ⟨i,Y,S,T,o,P,rfl,g,p,f,k⟩:=h
 refine ⟨i,Y,S,T,o,_,rfl,g,p,f,λx c v F l j n m b e=>?_⟩
 split at e
 ·obtain ⟨rfl,_⟩:=(b.told mem_mid).bl_inv
  exact ⟨_,rfl,k _ c l j n m b.drop e⟩
 ·exact e.elim
theorem EV(r:RdF K H v d F)(h:JG d):V8 K v H (V0 d):=by
 cases r with
 | non=>rfl
 | bl b=>rfl
 | int i=>rfl
 | str x=>exact ⟨dZ h,rfl⟩
 | lst e l a =>
  refine .inl ⟨_,Kv.of e,?_⟩
  have:=a.len
  rename_i f c G
  cases f <;> cases c <;> first | rfl | cases this
 | tup e l a =>
  refine .inr (.inl ⟨_,Ve.of e,?_⟩)
  have:=a.len
  rename_i f c
  cases f <;> cases c <;> first | rfl | cases this
 | dic _ _ _=>exact h.elim
 | dik _ _ _=>exact h.elim
 | dnm _ _ _=>exact h.elim
theorem DN:∀e H Q,LT K (FW a) e H Q->LE K a e H λx H'=>∃k,V8 K x H' k/\Q k H':=by
 intro e H Q h
 obtain ⟨i,Y,S,T,o,P,rfl,g,p,f,k⟩:=h
 refine ⟨i,Y,S,T,o,_,rfl,g,p,f,λx d v F l j n m b c=>?_⟩
 split at c
 ·exact ⟨_,EV (b.told mem_mid) c.1,k _ d l j n m b.drop c.2⟩
 ·exact c.elim
end
section
variable{X:Cx}{a b c e:Expr}{d f i:DE}{dt g:DT}{pos:Pos}{Ms:List Expr}
theorem Ot(h:Ee X e i)(b:∀a,isTrue e X.env a=(do let v <- a; standAt e.pos; My [v] (truthy v)):=by intro _; rfl):kT X e (dB i):=PT.imp (zZ h b) IA
theorem dA(e:Wk X (Hh op) r)(o:kQ X.K r rd)(c:Ee X a d)(hb:Ee X b f)(g:Kr op b=false):kT X (.Compare a [op] [b] pos) (dB (Wj rd d f)):=by
 refine PT.imp (uS e c hb g) λi H Q h=>?_
 exact op_le o _ _ _ (IA i H Q h)
theorem Z4(c:Ee X a d)(hb:Ee X b f):kT X (.Compare a [.GtE] [b] pos) (dB (Wj rdGe d f)):=dA J0 (cI λ_ _ _=>.bl _) c hb (Rh _)
theorem Oy(e:X.A.units+64<cLine)(c:Ee X a d)(hb:Ee X b f):kT X (.Compare a [.Eq] [b] pos) (dB (Wj (jG false) d f)):=dA (A9 e) AJ c hb (Rh _)
theorem Nq(e:X.A.units+64<cLine)(c:Ee X a d)(hb:Ee X b f):kT X (.Compare a [.NotEq] [b] pos) (dB (Wj (jG true) d f)):=dA (CH e) JB c hb (Rh _)
theorem dE(g:X.A.units+64<cLine)(c:Ee X a d)(hb:Ee X b f)(e:Kr .NotIn b=false:=by with_unfolding_all rfl):kT X (.Compare a [.NotIn] [b] pos) (dB (Wj (rQ true) d f)):=dA (xK g) Y3 c hb e
theorem CD(c:Ee X a d)(hb:Ee X b f):kT X (.Compare a [.Is] [b] pos) (dB (Wj (sT false) d f)):=dA CT ES c hb (Rh _)
theorem oO(c:Ee X a d)(e:∀b,isTrue a X.env b=(do let v <- b; standAt a.pos; My [v] (truthy v)):=by intro _; rfl):kT X a (FW d):=PT.imp (A5 c e) DN
theorem cA(h:kT X a dt):kT X (.UnaryOp .Not a pos) (AK dt):=by
 refine PT.imp (EM h) λq H Q h=>?_
 obtain ⟨g,Y,S,T,l,P,rfl,f,n,e,k⟩:=h
 exact ⟨g,Y,S,T,l,_,rfl,f,n,e,λb c m o j i d p=>k _ c m o j i d p⟩
theorem Of(h:kT X a dt):EF X (.BoolOp .And [a] pos) dt:=O2 h
theorem kH(h:kT X a dt):EF X (.BoolOp .Or [a] pos) dt:=GC h
theorem Ru(h:kT X a dt)(hb:EF X (.BoolOp .And (b::Ms) pos) g):EF X (.BoolOp .And (a::b::Ms) pos) (AI dt g):=by
 refine PW.imp (FR h hb) λr H Q h=>?_
 obtain ⟨e,Y,S,T,n,P,rfl,m,o,l,k⟩:=h
 refine ⟨e,Y,S,T,n,_,rfl,m,o,l,λb c j q i f d p=>?_⟩
 cases b with
 | true=>exact qE ⟨e,Y,j,T,c,P,i,f,d,p,k⟩
 | false=>exact qF (k _ c j q i f d p)
theorem sQ(h:kT X a dt)(hb:EF X (.BoolOp .Or (b::Ms) pos) g):EF X (.BoolOp .Or (a::b::Ms) pos) (JO dt g):=by
 refine PW.imp (IL h hb) λr H Q h=>?_
 obtain ⟨e,Y,S,T,n,P,rfl,m,o,l,k⟩:=h
 refine ⟨e,Y,S,T,n,_,rfl,m,o,l,λb c j q i f d p=>?_⟩
 cases b with
 | true=>exact qE (k _ c j q i f d p)
 | false=>exact qF ⟨e,Y,j,T,c,P,i,f,d,p,k⟩
theorem Yi(h:EF X a dt):kT X a dt:=PW.pt h
theorem qZ(h:Ee X a d):Ee X (.BoolOp op [a] pos) d:=FM h
theorem qG(h:Ee X a d)(hb:Ee X (.BoolOp .And (b::Ms) pos) f):Ee X (.BoolOp .And (a::b::Ms) pos) (HD d f):=by
 refine PE.imp (BI h hb) λs H Q h=>?_
 obtain ⟨i,Y,S,T,q,P,rfl,o,r,n,k⟩:=h
 refine ⟨i,Y,S,T,q,_,rfl,o,r,n,λx e v F j p m l c g=>?_⟩
 split at g
 ·obtain ⟨rfl,_⟩:=(c.told mem_mid).bl_inv
  exact ⟨_,rfl,qE ⟨i,Y,j,T,e,P,m,l,c.drop,g,k⟩⟩
 ·obtain ⟨rfl,_⟩:=(c.told mem_mid).bl_inv
  exact ⟨_,rfl,qF (k _ e _ [] j p m l (c.drop.pushI (.bl _)) g)⟩
 ·exact g.elim
theorem EI(h:Ee X a d):Ee X (.UnaryOp .Not a pos) (GY d):=by
 refine PE.imp (EL h) λq H Q h=>?_
 obtain ⟨i,Y,S,T,o,P,rfl,g,p,f,k⟩:=h
 refine ⟨i,Y,S,T,o,_,rfl,g,p,f,λx c v F l j n m b e=>?_⟩
 split at e
 ·obtain ⟨rfl,_⟩:=(b.told mem_mid).bl_inv
  exact ⟨_,rfl,k _ c _ [] l j n m (b.drop.pushI (.bl _)) e⟩
 ·exact e.elim
theorem DP(h:Ee X a d):Ee X (.UnaryOp .USub a pos) (GU d):=by
 refine PE.imp (AH zU h) λq H Q h=>?_
 obtain ⟨i,Y,S,T,o,P,rfl,g,p,f,k⟩:=h
 refine ⟨i,Y,S,T,o,_,rfl,g,p,f,λx c v F l j n m b e=>?_⟩
 split at e
 ·obtain ⟨rfl,_⟩:=(b.told mem_mid).int_inv
  exact ⟨_,rfl,k _ c _ [] l j n m (b.drop.pushI (.int _)) e⟩
 ·exact e.elim
theorem zP(s:kT X c dt)(r:Ee X a d)(hb:Ee X b f):Ee X (.IfExp c a b pos) (HK dt d f):=by
 refine PE.imp (M5 s r hb) λu H Q h=>?_
 obtain ⟨i,Y,S,T,q,P,rfl,o,t,n,k⟩:=h
 refine ⟨i,Y,S,T,q,_,rfl,o,t,n,λb e m v l j g p=>?_⟩
 cases b with
 | true=>exact qE ⟨i,Y,m,T,e,P,l,j,g,p,k⟩
 | false=>exact qF ⟨i,Y,m,T,e,P,l,j,g,p,k⟩
end
theorem PS.impD(h:PS X st t)(k:∀D b H,t' D b H->t D b H):PS X st t':=λa s b H D I q=>h a s b H D I (k D b H q)
theorem rJ.impD(h:rJ X st t)(k:∀D b H,t' D b H->t D b H):rJ X st t':=λa s b H D I q=>h a s b H D I (k D b H q)
def AG:DB:=λD a=>D.nx a
def KC(t u:DB):DB:=λD b=>t { D with nx:=λa=>u D a } b
def JA(a:DE):DB:=λD b=>a b D.rt
def MZ(dt:DT)(t u:DB):DB:=λD c=>dt c λb a=>match b with
 | true=>t D a
 | false=>u D a
def iY(d:DE)(c:DG):DB:=λD b=>d b λx a=>c x a D.nx
section
variable{X:Cx}{st:Stmt}{e f c:Expr}{t u:DB}{Ms:List Stmt}{d:DE}{i:DG}{dt:DT}{pos:Pos}
theorem Hf:Zb X [] AG:=by
 refine rJ.impD gZ λD i H h=>?_
 obtain ⟨j,Y,S,T,d,P,rfl,c,k,e,b,a,f,l,g⟩:=h
 exact a d S H c e b
theorem Bt(h1:iJ X st t)(o:Zb X Ms u):Zb X (st::Ms) (KC t u):=by
 refine rJ.impD (Mb h1 o) λD r H h=>?_
 obtain ⟨e,Y,S,T,m,P,rfl,k,f,q,j,i,c,g,d⟩:=h
 exact ⟨e,Y,S,T,m,_,rfl,k,f,q,j,λa n s l b p=>⟨e,Y,n,T,a,P,rfl,l,f,b,p,i,c,g,d⟩,c,g,d⟩
theorem Cq(h1:iJ X st t):Zb X [st] t:=Up h1
theorem Ds(k:Ee X e d):iJ X (.Return (some e) pos) (JA d):=by
 refine PS.impD (cF k) λD s H h=>?_
 obtain ⟨i,Y,S,T,l,P,rfl,g,u,n,c,q,f,w,r⟩:=h
 exact ⟨i,Y,S,T,l,_,rfl,g,n,c,λx a v F m o t j b p=>f x a v F m o j b p⟩
theorem Jw(x:kT X c dt)(r:Zb X a t)(hb:Zb X b u):iJ X (.If c a b pos) (MZ dt t u):=by
 refine PS.impD (C8 x r hb) λD y H h=>?_
 obtain ⟨f,Y,S,T,w,P,rfl,q,l,s,v,m,g,o,i⟩:=h
 refine ⟨f,Y,S,T,w,_,rfl,q,s,v,λb e n z k j d p=>?_⟩
 cases b with
 | true=>exact qE ⟨f,Y,n,T,e,P,k,j,l,d,p,m,g,o,i⟩
 | false=>exact qF ⟨f,Y,n,T,e,P,k,j,l,d,p,m,g,o,i⟩
theorem Vy(h1:∀a H Q,LE K d a H Q->k a H Q)(m:∀v a H Q,LG K i v a H Q->g v a H Q):∀D a H,LS K (iY d i) D a H->F8 k g D a H:=by
 intro D a H h
 obtain ⟨j,Y,S,T,w,P,rfl,l,E,s,t,y,B,I,C⟩:=h
 refine h1 _ _ _ ⟨j,Y,S,T,w,_,rfl,l,s,t,λx f v F A G u o b p=>?_⟩
 exact m _ _ _ _ ⟨j,Y,A,T,f,x,F,P.nx,u,o,b,p,λe n z r c q=>y e n z r c q⟩
theorem B3(c:Ee X e d)(b:EK X f i)(a:swapsWithSole [f] e pos.line X.env=pure false:=by rfl)(hw:swappedStores [f] e X.env=pure none:=by rfl)(h1:(Fd [f] X.env).map (·.2)=[Sj f X.env]:=by rfl):iJ X (.Assign [f] e pos) (iY d i):=PS.impD (iW c b a hw h1) (Vy (λ_ _ _ h=>h) λ_ _ _ _ h=>h)
end
def Rx(i:Nat):DG:=λx a P=>match x with
 | .dat .pk _=>False
 | .dat _ d=>P ⟨a.sl.set i (.dat .sh d),a.n⟩
 | .val v=>P ⟨a.sl.set i (.val v),a.n⟩
 | .drw=>P ⟨a.sl.set i .drw,a.n⟩
 | .dT b=>P ⟨a.sl.set i (.dT b),a.n⟩
 | _=>False
def mP(i:Nat):DG:=λx a P=>match x with
 | .dat .ow d=>P ⟨a.sl.set i (.dat .ow d),a.n⟩
 | .dat .tp d=>P ⟨a.sl.set i (.dat .tp d),a.n⟩
 | _=>False
theorem At.store(h:At K a X n (S++e::T) H):At K a X n (S.set i e++T) H:=by
 by_cases c:i<S.length
 ·have b:S[i]? = some S[i]:=by simp [c]
  have p:(S++e::T).Perm (S[i]::(S.set i e++T)):=by
   refine Gj.trans ?_
   rw[<- Ez,<- Ez]
   exact (Xo b).append_right T
  exact (h.perm p).sub (Cw _ _)
 ·rw[oV (by omega)]
  exact h.drop
theorem rB:vs (S.set i ⟨some v,x,F⟩)=(vs S).set i (some v):=by
 unfold vs
 rw[Ea]
theorem pY(h:Sl S a):Sl (S.set i ⟨some v,x,F⟩) ⟨a.sl.set i x,n⟩:=by
 unfold Sl at h ⊢
 rw[Ea,h]
theorem iE:∀v e H Q,LG K (Rx i) v e H Q->Se i v e H Q:=by
 intro v e H Q h
 obtain ⟨l,Y,S,T,f,x,F,P,rfl,j,c,b,k⟩:=h
 show Q ((vs S).set i (some v)) H
 have a:∀y,At K l Y f.n (S++⟨some v,y,F⟩::T) H->P ⟨f.sl.set i y,f.n⟩->Q ((vs S).set i (some v)) H:=λy g p=>by
  rw[<- rB (x:=y) (F:=F)]
  exact k _ _ H (pY j) g.store p
 unfold Rx at b
 split at b
 ·exact b.elim
 ·rename_i m d o
  refine a _ ?_ b
  refine (c.mid.wk ?_).tomid
  cases m <;> first | rfl | exact (o rfl).elim
 ·exact a _ c b
 ·exact a _ c b
 ·exact a _ c b
 ·exact b.elim
theorem o9:∀v c H Q,LG K (mP i) v c H Q->Se i v c H Q:=by
 intro v c H Q h
 obtain ⟨j,Y,S,T,d,x,F,P,rfl,g,f,a,k⟩:=h
 show Q ((vs S).set i (some v)) H
 have b:∀y,At K j Y d.n (S++⟨some v,y,F⟩::T) H->P ⟨d.sl.set i y,d.n⟩->Q ((vs S).set i (some v)) H:=λy e p=>by
  rw[<- rB (x:=y) (F:=F)]
  exact k _ _ H (pY g) e.store p
 unfold mP at a
 split at a
 ·exact b _ f a
 ·exact b _ f a
 ·exact a.elim
section
variable{X:Cx}{pos:Pos}
theorem Ep(d:X.N.Nodup)(b:X.N[i]? = some x)(a:Loc X.env.scope x)(c:X.fn x=true\/X.env.scope.names.lookup x=some .local:=by first | exact .inl rfl | exact .inr rfl | assumption):EK X (.Name x pos) (Rx i):=PG.imp (Rm d b a c) iE
theorem Ej(j:X.N.Nodup)(k:X.N[i]? = some x)(d:Loc X.env.scope x)(c:Ee X e b)(f:Hg e (some (.Name x a)) pos.line X.env=pure false:=by rfl)(g:X.fn x=true\/X.env.scope.names.lookup x=some .local:=by first | exact .inl rfl | exact .inr rfl | assumption):iJ X (.Assign [.Name x a] e pos) (iY b (Rx i)):=PS.impD (Yg j k d c f g) (Vy (λ_ _ _ h=>h) iE)
theorem Py(j:X.N.Nodup)(k:X.N[i]? = some x)(d:Loc X.env.scope x)(c:Ee X e b)(f:Hg e (some (.Name x a)) pos.line X.env=pure false:=by rfl)(g:X.fn x=true\/X.env.scope.names.lookup x=some .local:=by first | exact .inl rfl | exact .inr rfl | assumption):iJ X (.Assign [.Name x a] e pos) (iY b (mP i)):=PS.impD (Yg j k d c f g) (Vy (λ_ _ _ h=>h) o9)
end
def n9:wY:=λb a P=>match b with
 | []=>P a
 | _=>False
def uE(g:DG)(c:wY):wY:=λd b P=>match d with
 | x::r=>g x b λa=>c r a P
 | []=>False
def yJ(n:Nat)(a:wY):DG:=λx b P=>match x with
 | .dat m (.tuple ds)=>ds.length=n/\a (ds.map λd=>.dat (Nm m) d) b P
 | _=>False
theorem At.unpack:∀{us:List V} {o:List Ad} {F:List Addr} {E:List Ent},RdFs K H us o F->(m=.ow->F.Nodup)->(∀f∈E,Ws ⟨none,.dat (Nm m) .none,F⟩ f)->(∀a∈cells ⟨none,.dat (Nm m) .none,F⟩,j a=none)->At K j X n E H->∃As:List Ent,As.map Ent.v=us.map some/\As.map Ent.x=o.map (λd=>.dat (Nm m) d)/\(∀e∈As,∀a∈e.F,a∈F)/\At K j X n (As++E) H
 | _,_,_,_,.nil,_,_,_,h=>⟨[],rfl,rfl,λ_ z=>(nomatch z),h⟩
 | _,_,_,E,.cons (x:=x) (d:=d) (F:=F1) (G:=G1) a t,hn,hs,hnew,h=>by
  have cs:∀{G:List Addr} {u:Option V} {g:Ad},(∀b∈G,b∈F1++G1)->∀b∈cells ⟨u,.dat (Nm m) g,G⟩,b∈cells ⟨none,.dat (Nm m) .none,F1++G1⟩:=λ{G u g} i b c=>by
   cases m with
   | ow=>exact i b c
   | _=>exact nomatch c
  have sub:∀{G:List Addr} {u:Option V} {g:Ad} {f:Ent},(∀b∈G,b∈F1++G1)->Ws ⟨none,.dat (Nm m) .none,F1++G1⟩ f->Ws ⟨u,.dat (Nm m) g,G⟩ f:=λ{G u g f} i q=>by
   refine ⟨λhp b c=>q.1 ?_ b (cs i b c),λhp b c z=>q.2 ?_ b c (i b z)⟩
   ·rcases hp with hp | hp
    ·exact .inl hp
    ·cases hp
   ·rcases hp with hp | hp
    ·refine .inl ?_
     cases m <;> exact hp
    ·exact .inr hp
  obtain ⟨As,s,p,k,w⟩:=At.unpack (m:=m) t (λz=>(Gy.mp (hn z)).2.1) (λf hf=>sub (λb c=>Aw _ c) (hs f hf)) (λb c=>hnew b (cs (λb c=>Aw _ c) b c)) h
  refine ⟨⟨some x,.dat (Nm m) d,F1⟩::As,by rw[Ax,Ax,s],by rw[Ax,Ax,p],λe he b c=>?_,?_⟩
  ·rcases Ao.mp he with rfl | he
   ·exact Ap _ c
   ·exact Aw _ (k e he b c)
  ·refine w.push ⟨x,rfl,a,λz=>?_,λz=>?_⟩ (λf hf=>?_) λb c=>.inl (hnew b (cs (λb c=>Ap _ c) b c))
   ·cases m with
    | ow=>exact (Gy.mp (hn rfl)).1
    | _=>cases z
   ·cases m <;> cases z
   ·rcases Bf.mp hf with hf | hf
    ·have l:f.x∈As.map Ent.x:=Bh.mpr ⟨f,hf,rfl⟩
     rw[p] at l
     obtain ⟨g,_,r⟩:=Bh.mp l
     refine ⟨λhp b c z=>?_,λhp b c z=>?_⟩
     ·cases m with
      | ow=>exact (Gy.mp (hn rfl)).2.2 b c b (k f hf b z) rfl
      | _=>exact nomatch c
     ·cases m with
      | ow=>exact (Gy.mp (hn rfl)).2.2 b z b (k f hf b (Et _ _ c)) rfl
      | _ =>
       unfold cells at c
       rw[<- r] at c
       exact nomatch c
    ·exact sub (λb c=>Ap _ c) (hs f hf)
section
variable{X:Cx}{pos:Pos}
theorem Wz:J9 X [] n9:=by
 refine AO.imp uT λe j H Q h=>?_
 obtain ⟨i,Y,S,T,g,f,P,rfl,d,b,c,a,k⟩:=h
 match g,c,a,b with
 | [],c,a,b =>
  cases e with
  | nil=>exact ⟨rfl,k f S H d c a⟩
  | cons _ _=>cases b
 | _::_,c,a,b=>exact a.elim
theorem Gh(h1:EK X e g)(q:J9 X es n)(y:(Fd (e::es) X.env).map (·.2)=Sj e X.env::(Fd es X.env).map (·.2):=by rfl):J9 X (e::es) (uE g n):=by
 refine AO.imp (bV h1 q y) λj A H Q h=>?_
 obtain ⟨m,Y,S,T,c,w,P,rfl,o,a,d,b,k⟩:=h
 match c,d,b,a with
 | [],d,b,a=>exact b.elim
 | ⟨v,x,F⟩::c,d,b,a =>
  cases j with
  | nil=>cases a
  | cons u j =>
   rw[Ax,Ax] at a
   obtain ⟨t,r⟩:=Dd a
   have i:v=some u:=t
   subst i
   refine ⟨u,j,rfl,m,Y,S,c++T,w,x,F,_,rfl,o,d,b,λl z B s f p=>?_⟩
   exact ⟨m,Y,z,T,c,l,P,rfl,s,r,f,p,k⟩
theorem rH{es:List Expr}{C:Nat}{p:wY}{n:Nat}(G:X.calm=true)(h:J9 X es p)(A:(Fd es X.env).length=n:=by rfl)(e:(Fd es X.env).findIdx? (·.1)=none:=by rfl):EK X (.Tuple es C pos) (yJ n p):=by
 refine PG.imp (zX G h A e) λv L H Q h=>?_
 obtain ⟨s,Y,S,T,D,x,F,P,rfl,r,g,d,k⟩:=h
 unfold yJ at d
 split at d
 ·rename_i m t
  obtain ⟨a,K,rfl,B,o,N⟩:=(g.told mem_mid).tup_inv
  have i:=g.mid
  have l:=Ba.mp i.sep
  obtain ⟨w,_,_,j,_⟩:=i.ok _ Aa
  have cs:∀b∈cells ⟨none,.dat (Nm m) .none,F⟩,b∈cells ⟨some (.ref a),.dat m (.tuple t),F⟩:=λb c=>by
   cases m with
   | ow=>exact c
   | _=>exact nomatch c
  obtain ⟨y,J,u,M,I⟩:=At.unpack (m:=m) (E:=S++T) o j (λf q=>by
   refine ⟨λhq b c=>(l.1 f q).1 ?_ b (cs b c),λhq b c=>(l.1 f q).2 ?_ b c⟩
   ·rcases hq with hq | hq
    ·exact .inl hq
    ·cases hq
   ·rcases hq with hq | hq
    ·refine .inl ?_
     cases m <;> first | rfl | exact hq
    ·exact .inr hq) (λb c=>by
   rcases i.new _ Aa b (cs b c) with z | z
   ·exact z
   ·cases z.2) g.drop
  refine ⟨a,K,rfl,Ve.of B,by rw[o.len]; exact d.1,s,Y,S,T,y,D,P,rfl,r,J,I.perm ?_,by rw[u]; exact d.2,k⟩
  rw[<- Df,<- Df]
  exact Vj.append_right T
 ·exact d.elim
end
theorem qJ(h:At K d X n E H):∀{e f:Ent},e∈E->f∈E->e=f\/Ws e f:=by
 have a:∀{E:List Ent},E.Pairwise Ws->∀{e f:Ent},e∈E->f∈E->e=f\/Ws e f:=by
  intro E
  induction E with
  | nil=>intro _ e f he; cases he
  | cons g E c =>
   intro i e f he hf
   have b:=Ba.mp i
   rcases Ao.mp he with he | he
   ·subst he
    rcases Ao.mp hf with hf | hf
    ·exact .inl hf.symm
    ·exact .inr (b.1 f hf)
   ·rcases Ao.mp hf with hf | hf
    ·rw[hf]
     exact .inr (b.1 e he).symm
    ·exact c b.2 he hf
 intro e f he hf
 exact a h.sep he hf
abbrev DI:=DS->(Md->List Ad->DS->Prop)->Prop
structure IterOk(K:PySem.W.Frag)(J:It)(hid:List Ent)(m:Md)(ds:List Ad):Prop where
 md:m=.sh\/m=.pk
 hd:∀e∈hid,cells e=[]
 np:m=.sh->∀e∈hid,Lf e.x=false
 go:∀H n i,(∀e∈hid,Ho K H n e)->i<ds.length->J.go i H
 yld:∀H n i x H',(∀e∈hid,Ho K H n e)->i<ds.length->J.yld i H x H'->Tf H H'/\∃d F,ds[i]? = some d/\RdF K H' x d F/\∀a∈F,∃e∈hid,a∈e.F
 stop:∀H n,(∀e∈hid,Ho K H n e)->J.stop ds.length H
def LI(K:PySem.W.Frag)(i:DI):TI:=λf H R=>∃(g:Hp) (X:Addr->Prop) (S T:List Ent) (c:DS) (P:Md->List Ad->DS->Prop),vs S=f/\Sl S c/\At K g X c.n (S++T) H/\i c P /\
 ∀m e a J b d h,vs d=f->Sl d a->At K g X a.n (d++(b++T)) h->IterOk K J b m e->e.length<=Az->P m e a->R J h
abbrev vF(X:Cx)(b a:Expr)(c:DI):Prop:=PI X b a (LI X.K c)
theorem PI.imp(h:PI X c e t)(k:∀b H Q,t' b H Q->t b H Q):PI X c e t':=λa s b H Q I q=>h a s b H Q I (k b H Q q)
def Kx:Md->Md
 | .pk=>.pk
 | _=>.sh
theorem Wv(m:Md):wk m (Kx m)=true:=by cases m <;> rfl
theorem At.item(h:At K k X n (S++(b++T)) H)(s:Tf H H')(r:RdF K H' v d F)(t:∀a∈F,∃e∈b,a∈e.F)(md:m=.sh\/m=.pk)(l:∀e∈b,cells e=[])(np:m=.sh->∀e∈b,Lf e.x=false):At K k X n (S++⟨some v,.dat m d,F⟩::(b++T)) H':=by
 have p:=h.grow (n':=n) s (Ar _)
 have j:∀a,a∉cells ⟨some v,.dat m d,F⟩:=λa c=>by
  rcases md with rfl | rfl <;> exact nomatch c
 refine (p.push (e:=⟨some v,.dat m d,F⟩) ⟨v,rfl,r,λz=>?_,λz=>?_⟩ (λf u=>⟨λ_ a c=>absurd c (j a),λhq a c z=>?_⟩) λa c=>absurd c (j a)).tomid
 ·rcases md with rfl | rfl <;> cases z
 ·rcases md with rfl | rfl <;> cases z
 ·obtain ⟨e,g,o⟩:=t a z
  have i:e∈S++(b++T):=Aw _ (Ap _ g)
  rcases qJ h i u with rfl | q
  ·rw[l e g] at c
   cases c
  ·refine q.2 ?_ a c o
   rcases hq with hq | hq
   ·refine .inl (np ?_ e g)
    rcases md with rfl | rfl
    ·rfl
    ·cases hq
   ·exact .inr hq
def MU(c:DE):DI:=λb P=>c b λx a=>match x with
 | .dat m (.list ds)=>P (Kx m) ds a
 | .dat m (.tuple ds)=>P (Kx m) ds a
 | _=>False
def mL(c:DA):DI:=λb P=>c b λd a=>match d with
 | [.dat _ (.int j)]=>-1000000<=j/\j<=1000000/\P .sh ((Bq j.toNat).map λi:Nat=>.int i) a
 | _=>False
def K9(c:DA):DI:=λb P=>c b λd a=>match d with
 | [.dat m (.list ds)]=>P (Kx m) (ds.zipIdx.map λp=>.tuple [.int p.2,p.1]) a
 | _=>False
def KQ(c:DA):DI:=λb P=>c b λd a=>match d with
 | [.dat m (.tuple ds)]=>P (Kx m) (ds.zipIdx.map λp=>.tuple [.int p.2,p.1]) a
 | _=>False
def mdZip:Md->Md->Md
 | .pk,_=>.pk
 | _,.pk=>.pk
 | _,_=>.sh
def Z3(c:DA):DI:=λb P=>c b λd a=>match d with
 | [.dat m (.list ds),.dat m' (.list es)]=>P (mdZip m m') ((ds.zip es).map λp=>.tuple [p.1,p.2]) a
 | _=>False
section
variable{K:PySem.W.Frag}
theorem Hj{H:Hp}{n:Nat}{v:V}{m:Md}{d:Ad}{F:List Addr}{a:List Ent}(h:∀e∈a,Ho K H n e)(f:⟨some v,.dat m d,F⟩∈a):RdF K H v d F:=by
 obtain ⟨w,b,c,_⟩:=h _ f
 cases b
 exact c
theorem bA:cells ⟨v,.dat (Kx m) d,F⟩=[]:=by cases m <;> rfl
theorem jV:∀e∈[(⟨v,.dat (Kx m) d,F⟩ : Ent)],cells e=[]:=λe a=>by
 rw[Ak.mp a]
 exact bA
theorem tK:Kx m=.sh->∀e∈[(⟨v,.dat (Kx m) d,F⟩ : Ent)],Lf e.x=false:=λz e a=>by
 rw[Ak.mp a]
 show Lf (.dat (Kx m) d)=false
 rw[z]
 rfl
theorem iM(m:Md):Kx m=.sh\/Kx m=.pk:=by cases m <;> simp [Kx]
theorem wJ:IterOk K (GG K a) [⟨some (.ref a),.dat (Kx m) (.list j),F⟩] (Kx m) j where
 md:=iM m
 hd:=jV
 np:=tK
 go:=λH n i h k=>by
  obtain ⟨b,d,G,e,f,g,_,_⟩:=(Hj h Aa).list_inv
  cases e
  have u:=g.len
  exact ⟨d,d[i],Kv.of f,by simp [show i<d.length by omega]⟩
 yld:=λH n i x v h k y=>by
  obtain ⟨b,d,G,e,f,g,rfl,_⟩:=(Hj h Aa).list_inv
  cases e
  obtain ⟨rfl,y⟩:=y
  have p:=y d (Kv.of f)
  obtain ⟨t,o,l,r,s⟩:=g.get (i:=i) (e:=j[i]) (by simp [k])
  rw[p] at l
  cases l
  exact ⟨Tf.refl _,j[i],o,by simp [k],r,λc q=>⟨_,Aa,Ae _ (s.subset q)⟩⟩
 stop:=λH n h=>by
  obtain ⟨b,d,G,e,f,g,_,_⟩:=(Hj h Aa).list_inv
  cases e
  exact ⟨d,Kv.of f,by rw[g.len]; exact Ar _⟩
theorem C5:IterOk K (KY K a) [⟨some (.ref a),.dat (Kx m) (.tuple j),F⟩] (Kx m) j where
 md:=iM m
 hd:=jV
 np:=tK
 go:=λH n i h k=>by
  obtain ⟨b,d,e,f,g,_⟩:=(Hj h Aa).tup_inv
  cases e
  have u:=g.len
  exact ⟨d,d[i],Ve.of f,by simp [show i<d.length by omega]⟩
 yld:=λH n i x v h k y=>by
  obtain ⟨b,d,e,f,g,_⟩:=(Hj h Aa).tup_inv
  cases e
  obtain ⟨rfl,y⟩:=y
  have p:=y d (Ve.of f)
  obtain ⟨t,o,l,r,s⟩:=g.get (i:=i) (e:=j[i]) (by simp [k])
  rw[p] at l
  cases l
  exact ⟨Tf.refl _,j[i],o,by simp [k],r,λc q=>⟨_,Aa,s.subset q⟩⟩
 stop:=λH n h=>by
  obtain ⟨b,d,e,f,g,_⟩:=(Hj h Aa).tup_inv
  cases e
  exact ⟨d,Ve.of f,by rw[g.len]; exact Ar _⟩
theorem qW:IterOk K (IU lo n) [] .sh ((Bq n).map λi:Nat=>.int (lo+i)) where
 md:=.inl rfl
 hd:=λ_ z=>nomatch z
 np:=λ_ _ z=>nomatch z
 go:=λH k i h a=>by
  show i<n
  simpa using a
 yld:=λH k i x b h a y=>by
  obtain ⟨rfl,rfl⟩:=y
  rw[Ac,Co] at a
  exact ⟨Tf.refl _,.int (lo+i),[],by simp [a],.int _,λ_ z=>nomatch z⟩
 stop:=λH k h=>by simp [IU]
theorem vI:IterOk K (KZ K a) [⟨some (.ref a),.dat (Kx m) (.list k),F⟩] (Kx m) (k.zipIdx.map λp=>.tuple [.int p.2,p.1]) where
 md:=iM m
 hd:=jV
 np:=tK
 go:=λH n i h j=>by
  obtain ⟨b,d,G,e,f,g,_,_⟩:=(Hj h Aa).list_inv
  cases e
  have B:=g.len
  rw[Ac,Hu] at j
  exact ⟨d,d[i],Kv.of f,by simp [show i<d.length by omega]⟩
 yld:=λH n i x C h j y=>by
  obtain ⟨b,d,G,e,f,g,rfl,_⟩:=(Hj h Aa).list_inv
  cases e
  rw[Ac,Hu] at j
  obtain ⟨t,z,rfl,u,rfl,y⟩:=y
  have r:=y d (Kv.of f)
  obtain ⟨A,q,o,v,w⟩:=g.get (i:=i) (e:=k[i]) (by simp [j])
  rw[r] at o
  cases o
  have l:=Gi u (.tup [.int i,z])
  refine ⟨l,.tuple [.int i,k[i]],q,by simp [j],.tup Dq (by simp [Fc]) ?_,λc s=>⟨_,Aa,Ae _ (w.subset s)⟩⟩
  have:=RdFs.cons (F:=[]) (.int (i:Int)) (RdFs.cons (v.kp (Kp.of l)) RdFs.nil)
  rw[Dk] at this
  exact this
 stop:=λH n h=>by
  obtain ⟨b,d,G,e,f,g,_,_⟩:=(Hj h Aa).list_inv
  cases e
  exact ⟨d,Kv.of f,by rw[Ac,Hu,g.len]; exact Ar _⟩
theorem zA:IterOk K (MD K a b) [⟨some (.ref a),.dat (Kx m) (.list k),F⟩,⟨some (.ref b),.dat (Kx s) (.list es),G⟩] (mdZip m s) ((k.zip es).map λp=>.tuple [p.1,p.2]) where
 md:=by cases m <;> cases s <;> simp [mdZip]
 hd:=λe he=>by
  rcases Ao.mp he with rfl | he
  ·exact bA
  ·rw[Ak.mp he]
   exact bA
 np:=λz e he=>by
  rcases Ao.mp he with rfl | he
  ·cases m <;> cases s <;> first | rfl | cases z
  ·rw[Ak.mp he]
   cases m <;> cases s <;> first | rfl | cases z
 go:=λH n i h J=>by
  obtain ⟨b1,o,N,A,d,f,_,_⟩:=(Hj h Aa).list_inv
  obtain ⟨b2,l,O,w,g,j,_,_⟩:=(Hj h (Ae _ Aa)).list_inv
  cases A
  cases w
  have S:=f.len
  have P:=j.len
  rw[Ac,Lv] at J
  exact ⟨o,l,o[i],l[i],Kv.of d,Kv.of g,by simp [show i<o.length by omega],by simp [show i<l.length by omega]⟩
 yld:=λH n i x X h J y=>by
  obtain ⟨b1,o,N,A,d,f,rfl,_⟩:=(Hj h Aa).list_inv
  obtain ⟨b2,l,O,w,g,j,rfl,_⟩:=(Hj h (Ae _ Aa)).list_inv
  cases A
  cases w
  rw[Ac,Lv] at J
  obtain ⟨t,u,v,rfl,Q,rfl,R,V⟩:=y
  have I:=R o (Kv.of d)
  have D:=V l (Kv.of g)
  obtain ⟨W,T,q,M,B⟩:=f.get (i:=i) (e:=k[i]) (by simp [show i<k.length by omega])
  obtain ⟨Y,U,r,C,E⟩:=j.get (i:=i) (e:=es[i]) (by simp [show i<es.length by omega])
  rw[I] at q
  cases q
  rw[D] at r
  cases r
  have L:=Gi Q (.tup [u,v])
  refine ⟨L,.tuple [k[i],es[i]],T++U,?_,.tup Dq (by simp [Fc]) ?_,λc hc=>?_⟩
  ·rw[Aq,show (k.zip es)[i]? = some (k[i],es[i]) from List.getElem?_zip_eq_some.mpr ⟨by simp [show i<k.length by omega],by simp [show i<es.length by omega]⟩]
   rfl
  ·have:=RdFs.cons (M.kp (Kp.of L)) (RdFs.cons (C.kp (Kp.of L)) RdFs.nil)
   rw[Dk] at this
   exact this
  ·rcases Bf.mp hc with hc | hc
   ·exact ⟨_,Aa,Ae _ (B.subset hc)⟩
   ·exact ⟨_,Ae _ Aa,Ae _ (E.subset hc)⟩
 stop:=λH n h=>by
  obtain ⟨b1,o,N,A,d,f,_,_⟩:=(Hj h Aa).list_inv
  obtain ⟨b2,l,O,w,g,j,_,_⟩:=(Hj h (Ae _ Aa)).list_inv
  cases A
  cases w
  have S:=f.len
  have P:=j.len
  refine ⟨o,l,Kv.of d,Kv.of g,?_⟩
  rw[Ac,Lv]
  omega
end
section
variable{X:Cx}{g e:Expr}{d:DE}{l:DI}
def dL(d:DE):DI:=λb P=>d b λx a=>match x with
 | .dat m (.list ds)=>P (Kx m) ds a
 | _=>False
def ND(d:DE):DI:=λb P=>d b λx a=>match x with
 | .dat m (.tuple ds)=>P (Kx m) ds a
 | _=>False
theorem Yo(h:Ee X e d):vF X g e (dL d):=by
 refine PI.imp (tM h) λw H R h=>?_
 obtain ⟨l,Y,S,T,q,P,rfl,j,t,i,k⟩:=h
 refine ⟨l,Y,S,T,q,_,rfl,j,t,i,λx c v F n m p o b f=>?_⟩
 split at f
 ·obtain ⟨a,u,G,rfl,s,y,rfl,r⟩:=(b.told mem_mid).list_inv
  exact ⟨a,rfl,⟨u,Kv.of s⟩,k _ _ c _ [_] n m p o ((b.mid.wk (Wv _)).tomid) wJ r f⟩
 ·exact f.elim
theorem MM(h:Ee X e d):vF X g e (ND d):=by
 refine PI.imp (FD h) λw H R h=>?_
 obtain ⟨l,Y,S,T,q,P,rfl,j,t,i,k⟩:=h
 refine ⟨l,Y,S,T,q,_,rfl,j,t,i,λx c v F n m p o b f=>?_⟩
 split at f
 ·obtain ⟨a,u,rfl,s,y,r⟩:=(b.told mem_mid).tup_inv
  exact ⟨a,rfl,⟨u,Ve.of s⟩,k _ _ c _ [_] n m p o ((b.mid.wk (Wv _)).tomid) C5 r f⟩
 ·exact f.elim
variable{es:List Expr}{f:DA}{a b:Expr}{p pos i:Pos}{c:List Expr}{j:Nat}
theorem Hb(o:Gl X "range")(u:X.mg "range" = none)(n:kB X [a] f)(x:Bl [a] X.env=[(false,eval a X.env)]:=by rfl):vF X g (.Call (.Name "range" p) [a] [] pos) (mL f):=by
 refine PI.imp (wI o u n x) λA H R h=>?_
 obtain ⟨i,Y,S,T,t,P,rfl,e,q,r,k⟩:=h
 refine ⟨i,Y,S,T,t,_,rfl,e,q,r,λG d B E y w s m j l c p=>?_⟩
 split at p
 ·obtain ⟨v,F,rfl,b⟩:=Ii l c j
  obtain ⟨rfl,_⟩:=(b.told mem_mid).int_inv
  obtain ⟨D,C,z⟩:=p
  refine ⟨_,rfl,by omega,by omega,k _ _ d _ [] y w s m b.drop qW (by rw[Ac,Co]; exact dZ (by omega)) ?_⟩
  simpa using z
 ·exact p.elim
theorem Ra(s:Gl X "enumerate")(y:X.mg "enumerate" = none)(e:kB X [a] f)(A:Bl [a] X.env=[(false,eval a X.env)]:=by rfl):vF X (.Tuple c j i) (.Call (.Name "enumerate" p) [a] [] pos) (K9 f):=by
 refine PI.imp (O4 s y e A) λD H R h=>?_
 obtain ⟨n,Y,S,T,x,P,rfl,m,t,u,k⟩:=h
 refine ⟨n,Y,S,T,x,_,rfl,m,t,u,λl g E J C z w r o q d p=>?_⟩
 split at p
 ·obtain ⟨v,F,rfl,b⟩:=Ii q d o
  obtain ⟨a,l,G,rfl,e,I,rfl,B⟩:=(b.told mem_mid).list_inv
  exact ⟨a,rfl,⟨l,Kv.of e⟩,k _ _ g _ [_] C z w r ((b.mid.wk (Wv _)).tomid) vI (by rw[Ac,Hu]; exact B) p⟩
 ·exact p.elim
theorem zI(y:Gl X "zip")(D:X.mg "zip" = none)(g:kB X [a,b] f)(I:Bl [a,b] X.env=(false,eval a X.env)::Bl [b] X.env:=by rfl)(r:(Gr pos (Bl [b] X.env)).any (·.1)=false:=by rfl):vF X (.Tuple c j i) (.Call (.Name "zip" p) [a,b] [] pos) (Z3 f):=by
 refine PI.imp (FS y D g I r) λL H R h=>?_
 obtain ⟨o,Y,S,T,C,P,rfl,n,z,A,k⟩:=h
 refine ⟨o,Y,S,T,C,_,rfl,n,z,A,λm l M V K E B u q s e p=>?_⟩
 split at p
 ·obtain ⟨v,F,w,G,rfl,d⟩:=Xh s e q
  obtain ⟨a,m,O,rfl,g,N,rfl,W⟩:=(d.told mem_mid).list_inv
  obtain ⟨b,x,U,rfl,t,Q,rfl,J⟩:=(d.told Ec).list_inv
  refine ⟨a,b,rfl,⟨m,Kv.of g⟩,⟨x,Kv.of t⟩,k _ _ l _ [_,_] K E B u (((((d.mid.wk (Wv _)).tomid).swap.mid.wk (Wv _)).tomid).swap) zA (by rw[Ac,Lv]; omega) p⟩
 ·exact p.elim
end
def JP(f:DI)(h:DG)(j:DB):DB:=λD g=>f g λm e c=>m=.sh/\∃I:Nat->DS->Prop,I 0 c /\
 (∀i d a,e[i]? = some d->I i a->h (.dat .sh d) a λb=>j { D with nx:=I (i+1),ct:=I (i+1),bk:=D.nx } b)/\∀a,I e.length a->D.nx a
section
variable{X:Cx}{c a:Expr}{f:DI}{g:DG}{j:DB}{b:List Stmt}{pos:Pos}
theorem At.dropH{K:PySem.W.Frag}{b H:Hp}{X:Addr->Prop}{n:Nat}{S T a:List Ent}{e:Ent}(h:At K b X n (S++e::(a++T)) H):At K b X n (S++e::T) H:=h.sub ((Cu S).append ((Cf a T).cons₂ e))
theorem Lx(hp:PassesOwn (model X.prog X.w) X.A X.env X.xe)(hc:X.calm=true)(hi:vF X c a f)(hg:EK X c g)(hb:Zb X b j)(V:∀x,Cz a X.env x=pure x:=by intro _; rfl):iJ X (.For c a b [] pos) (JP f g j):=by
 refine PS.impD (qY hp hc hi hg hb V) λD O H h=>?_
 obtain ⟨G,Y,S,T,s,P,rfl,hS,hT,hA,hd,k1,k2,k3,k4⟩:=h
 refine ⟨G,Y,S,T,s,_,rfl,hS,hA,hd,λm E Q J r S1 H1 e1 e2 Z it hz p1=>?_⟩
 obtain ⟨rfl,I,h0,V,hf⟩:=p1
 rw[<- e1]
 have R:∀e∈r++T,Lf e.x=false:=λe he=>by
  rcases Bf.mp he with he | he
  ·exact it.np rfl e he
  ·exact hT e he
 refine ⟨λi q O H=>q=E.length - i/\i<=E.length/\∃S s,vs S=O/\Sl S s/\At X.K G Y s.n (S++(r++T)) H/\I i s,⟨E.length,by simp,Dg _,S1,Q,rfl,e2,Z,h0⟩,?_⟩
 (intro i q O H q_; obtain ⟨rfl,hi,S2,l,rfl,e3,t,hI⟩ := q_)
 have k:∀e∈r,Ho X.K H l.n e:=λe he=>t.ok e (Aw _ (Ap _ he))
 by_cases C:i<E.length
 ·refine .inr ⟨it.go H l.n i k C,λM N=>∃S s,vs S=M/\Sl S s/\At X.K G Y s.n (S++(r++T)) N/\I (i+1) s,λM N q=>⟨E.length - (i+1),by omega,rfl,C,q⟩,λx N y=>?_⟩
  obtain ⟨s1,d,F,h1,h2,h3⟩:=it.yld H l.n i x N k C y
  refine ⟨G,Y,S2,r++T,l,.dat .sh d,F,_,rfl,e3,t.item s1 h2 h3 it.md it.hd it.np,V i d l h1 hI,λW S3 H3 e4 U p3=>?_⟩
  refine ⟨G,Y,S3,r++T,W,_,rfl,e4,R,U,p3,λo u L z p B=>⟨u,o,rfl,z,p,B⟩,λx o v F u L z p B=>k2 x o v F u L z p.dropH B,
   λo u L z p B=>k1 o u L z p.dropL B,λo u L z p B=>⟨u,o,rfl,z,p,B⟩⟩
 ·have e:i=E.length:=by omega
  subst e
  exact .inl ⟨it.stop H l.n k,k1 l S2 H e3 t.dropL (hf l hI)⟩
end
end DL
namespace Nd
open PySem PySem.Spec PyProof.Rows L2
end Nd
namespace DL
open PySem L2 Nd
def al(e:Ent):Ent:=match e.x with
 | .dat m d=>⟨e.v,.dat (mE m) d,e.F⟩
 | .val _=>e
 | .scr _=>e
 | _=>⟨e.v,.un,[]⟩
def alD:DV->DV
 | .dat m d=>.dat (mE m) d
 | .val v=>.val v
 | .scr a=>.scr a
 | _=>.un
def A7(S:List Ent)(j:Nat):Ent:=match S[j]? with
 | some e=>al e
 | none=>⟨none,.un,[]⟩
def aT(S:List Ent)(a:List Nat):List Ent:=a.map (A7 S)
def frD1(a:List DV)(j:Nat):DV:=match a[j]? with
 | some x=>alD x
 | none=>.un
def frD(a:List DV)(b:List Nat):List DV:=b.map (frD1 a)
theorem LZ(e:Ent):(al e).v=e.v:=by
 obtain ⟨v,x,F⟩:=e
 cases x <;> rfl
theorem LC(e:Ent):(al e).x=alD e.x:=by
 obtain ⟨v,x,F⟩:=e
 cases x <;> rfl
theorem tZ(S:List Ent)(a:List Nat):vs (aT S a)=Io (vs S) a:=by
 unfold vs aT Io
 rw[Bm]
 refine Es λj _=>?_
 rw[Aq]
 simp only[Vq,A7]
 cases S[j]? with
 | none=>rfl
 | some e=>exact LZ e
theorem uZ(h:Sl S a)(b:List Nat):(aT S b).map Ent.x=frD a.sl b:=by
 unfold Sl at h
 unfold aT frD
 rw[Bm]
 refine Es λj _=>?_
 simp only[Vq,A7,frD1]
 rw[<- h,Aq]
 cases S[j]? with
 | none=>rfl
 | some e=>exact LC e
section
variable{K:PySem.W.Frag}{g H H':Hp}{X:Addr->Prop}{n:Nat}{E S T:List Ent}
theorem nE(e:Ent):cells (al e)=[]:=by
 obtain ⟨v,x,F⟩:=e
 cases x with
 | dat m d=>cases m <;> rfl
 | _=>rfl
theorem At.view1(h:At K g X n E H)(c:e∈E):At K g X n (al e::E) H:=by
 refine h.push ?_ (λf o=>⟨λ_ a b=>(by rw[nE] at b; cases b),λhq a b z=>?_⟩) λa b=>(by rw[nE] at b; cases b)
 ·have:=h.ok e c
  obtain ⟨v,x,F⟩:=e
  cases x with
  | dat m d =>
   obtain ⟨w,i,l,_⟩:=this
   exact ⟨w,i,l,λz=>(by cases m <;> cases z),λz=>(by cases m <;> cases z)⟩
  | val v=>exact this
  | scr j=>exact this
  | _=>exact (rfl:([]:List Addr)=[])
 ·obtain ⟨v,x,F⟩:=e
  cases x with
  | dat m d =>
   rcases qJ h c o with rfl | q
   ·rcases hq with hq | hq
    ·cases m <;> first | cases hq; done | exact nomatch b
    ·cases hq
   ·refine q.2 ?_ a b z
    rcases hq with hq | hq
    ·refine .inl ?_
     cases m <;> first | rfl | exact hq
    ·exact .inr hq
  | val v =>
   rw[show F=[] from (h.ok _ c).2] at z
   cases z
  | scr j =>
   obtain ⟨_,_,k,_⟩:=h.ok _ c
   rw[show F=[] from k] at z
   cases z
  | _=>exact nomatch z
theorem At.blank(h:At K g X n E H):At K g X n (⟨v,.un,[]⟩::E) H :=
 h.push (rfl:([]:List Addr)=[]) (λf _=>⟨λ_ a b=>(nomatch b),λ_ a _=>Bn⟩) (λa b=>(nomatch b))
theorem At.view(h:At K g X n E H)(b:∀e∈S,e∈E):∀a:List Nat,At K g X n (aT S a++E) H
 | []=>h
 | j::a=>by
  have c:=At.view h b a
  show At K g X n (A7 S j::(aT S a++E)) H
  unfold A7
  cases e:S[j]? with
  | none=>exact c.blank
  | some x=>exact c.view1 (Aw _ (b x (Au e)))
theorem At.accNew(h:At K g X n E H)(c:H D=Option.none):At K g X n (⟨some (.ref D),.acc [],[D]⟩::E) (upd H D (.lst [])):=by
 have e:=Gi c (.lst [])
 refine (h.grow (n':=n) e (Ar _)).push ⟨D,[],[],rfl,rfl,Dq,.nil,Dg _,Bn⟩ (λf i=>?_) λa b=>?_
 ·have d:=h.free c f i
  refine ⟨λ_ a b z=>?_,λ_ a b z=>?_⟩
  ·rw[Ak.mp b] at z
   exact d z
  ·rw[Ak.mp z] at b
   exact d (Et _ _ b)
 ·rw[Ak.mp b]
  exact .inl (h.new0 c)
theorem At.accPutG(h:At K g X n (⟨some (.ref D),.acc l,D::G⟩::⟨some v,.dat m e,F⟩::E) H)(Q:m≠.pk)(hz:l.length+1<=Az):∃xs,H D=some (.lst xs)/\xs.length=l.length/\At K g X n (⟨some (.ref D),.acc (l++[e]),D::(G++F)⟩::E) (upd H D (.lst (xs++[v]))):=by
 obtain ⟨a,xs,I,P,C,x,w,_,A⟩:=h.ok _ Aa
 have u:some (V.ref D)=some (V.ref a):=P
 cases u
 have t:D::G=D::I:=C
 cases t
 have r:RdF K H v e F:=h.told (Ae _ Aa)
 have j:=Ba.mp h.sep
 have i:=Ba.mp j.2
 have s:=(h.sub (Cw _ _)).sub (Cw _ _)
 have npk:Lf (.dat m e)=false:=by cases m <;> first | rfl | exact absurd rfl Q
 have B:D∉F:=(j.1 _ Aa).1 (.inr rfl) D Aa
 have kp:∀{F:List Addr},D∉F->Kp F H (upd H D (.lst (xs++[v]))):=λ{F} J b o q z=>by
  have : b≠D:=by
   rintro rfl
   rw[x] at q
   cases q
   rcases z with z | z
   ·exact J z
   ·rcases z with ⟨_,z⟩ | ⟨_,_,z⟩ <;> cases z
  rw[Cp this]
  exact q
 have p:g D=Option.none:=by
  rcases h.new _ Aa D Aa with z | z
  ·exact z
  ·cases z.2
 refine ⟨xs,x,w.len,?_⟩
 refine ⟨λf hf=>?_,?_,λf hf=>?_,λb o N q=>?_,λb o q=>?_,λb M=>?_⟩
 rotate_right
 ·obtain ⟨z,c,k,f,s,L⟩:=h.xd b M
  refine ⟨z,c,k,f,(Cp ?_).trans s,L⟩
  rintro rfl
  exact z p
 ·rcases Ao.mp hf with rfl | hf
  ·exact ⟨D,xs++[v],G++F,rfl,rfl,Dq,(w.kp (kp A)).snoc (r.kp (kp B)),by rw[Bz]; exact hz,λz=>(Bf.mp z).elim A B⟩
  ·exact (s.ok f hf).kp (kp ((j.1 f (Ae _ hf)).1 (.inr rfl) D Aa)) (Ar _)
 ·refine Ba.mpr ⟨λf hf=>⟨λO a d=>(j.1 f (Ae _ hf)).1 (.inr rfl) a d,λO a d z=>?_⟩,i.2⟩
  have y:=(j.1 f (Ae _ hf)).2 (.inl rfl) a d
  rcases Ao.mp z with z | z
  ·exact y (z▸Aa)
  ·rcases Bf.mp z with z | z
   ·exact y (Ae _ z)
   ·exact (i.1 f hf).2 (.inl npk) a d z
 ·rcases Ao.mp hf with rfl | hf
  ·intro a d
   rw[Ak.mp d]
   exact .inl p
  ·exact s.new f hf
 ·rw[Cp (Dm q p)]
  exact h.same b o N q
 ·rw[Cp (Dm q p)]
  exact h.dom b o q
theorem At.accPut(h:At K g X n (⟨some (.ref D),.acc a,[D]⟩::E) H)(r:RdF K H v e [])(hz:a.length+1<=Az):∃xs,H D=some (.lst xs)/\xs.length=a.length/\At K g X n (⟨some (.ref D),.acc (a++[e]),[D]⟩::E) (upd H D (.lst (xs++[v]))) :=
 At.accPutG (m:=.ow) (At.pushI (S:=[⟨some (.ref D),.acc a,[D]⟩]) h r) (by decide) hz
def gL:Bool->Md
 | true=>.ow
 | false=>.tp
theorem At.accGetG(h:At K g X n (⟨some (.ref D),.acc i,D::G⟩::E) H)(hb:b=true->G=[]):At K g X n (⟨some (.ref D),.dat (gL b) (.list i),D::G⟩::E) H:=by
 obtain ⟨a,w,v,r,o,u,q,p,t⟩:=h.ok _ Aa
 have d:some (V.ref D)=some (V.ref a):=r
 cases d
 have j:D::G=D::v:=o
 cases j
 have k:=Ba.mp h.sep
 have cs:∀a∈cells ⟨some (.ref D),.dat (gL b) (.list i),D::G⟩,a=D:=λa c=>by
  cases b with
  | true=>rw[hb rfl] at c; exact Ak.mp c
  | false=>exact Ak.mp c
 refine (h.sub (Cw _ _)).push ⟨_,rfl,.lst u p q,λz=>?_,λ_ a l e=>?_⟩ (λf m=>⟨λs a c=>?_,λs a c=>(k.1 f m).2 (.inl rfl) a c⟩) λa c=>?_
 ·cases b with
  | true=>rw[hb rfl]; exact Bw.mpr ⟨Bn,Dt⟩
  | false=>cases z
 ·have e:D::G=a::l:=e
  cases e
  exact t
 ·rw[cs a c]
  exact (k.1 f m).1 (.inr rfl) D Aa
 ·rw[cs a c]
  rcases h.new _ Aa D Aa with z | z
  ·exact .inl z
  ·cases z.2
theorem At.accGet(h:At K g X n (⟨some (.ref D),.acc a,[D]⟩::E) H):At K g X n (⟨some (.ref D),.dat .ow (.list a),[D]⟩::E) H:=At.accGetG (b:=true) h λ_=>rfl
end
def kN:DT:=λa P=>P true a
def CM(b:Bool)(m:Md)(e:Ad):Prop:=match b with
 | true=>imm e=true
 | false=>m≠.pk
def Ik(b:Bool)(g:DT)(j:DE)(h:DS)(d:Ad->Nat->Prop)(i:Nat->Prop):Prop:=g h λc a=>match c with
 | true=>j a λy f=>match y with
  | .dat m e=>CM b m e/\d e f.n
  | _=>False
 | false=>i a.n
def pJ(b:Bool)(h:DI)(j:List Nat)(k:DT)(o:DE):DE:=λl P=>h l λm g c=>∃I:Nat->List Ad->Nat->Prop,I 0 [] c.n /\
 (∀i d a n,g[i]? = some d->I i a n->Ik b k o ⟨.dat m d::frD c.sl j,n⟩ (λe f=>I (i+1) (a++[e]) f) (λf=>I (i+1) a f)) /\
 ∀a n,I g.length a n->P (.dat (gL b) (.list a)) ⟨c.sl,n⟩
def jI(b:Bool)(k:DI)(l:List Nat)(o:DT)(q:DE):DE:=λp P=>k p λm h c=>∃I:Nat->List Ad->Nat->Prop,I 0 [] c.n /\
 (∀i d a n,h[i]? = some d->I i a n->∃j g,d=.tuple [j,g]/\Ik b o q ⟨.dat m j::.dat m g::frD c.sl l,n⟩ (λe f=>I (i+1) (a++[e]) f) (λf=>I (i+1) a f)) /\
 ∀a n,I h.length a n->P (.dat (gL b) (.list a)) ⟨c.sl,n⟩
def Qp:DT->DE->DS->(Ad->Nat->Prop)->(Nat->Prop)->Prop:=Ik true
def i9:DI->List Nat->DT->DE->DE:=pJ true
def rD:DI->List Nat->DT->DE->DE:=jI true
def j6:DI->List Nat->DT->DE->DE:=pJ false
def uX:DI->List Nat->DT->DE->DE:=jI false
section
variable{K:PySem.W.Frag}{f H H':Hp}{Y:Addr->Prop}{n:Nat}{E S T:List Ent}
theorem nA{b:Bool}{s:DT}{B:DE}{k:DS}{j:Ad->Nat->Prop}{t:Nat->Prop}{D:Addr}{G:List Addr}{a:List Ad}{x:Hp->Prop}{w:VK}(C:Sl S k)(hb:b=true->G=[])(L:At K f Y k.n (S++⟨some (.ref D),.acc a,D::G⟩::T) H)(h:Ik b s B k j t)(hz:a.length+1<=Az)(k1:∀n' H',At K f Y n' (⟨some (.ref D),.acc a,D::G⟩::T) H'->t n'->x H')(k2:∀e n' v H' u,(b=true->u=[])->(∃xs,H' D=some (.lst xs)/\xs.length=a.length/\At K f Y n' (⟨some (.ref D),.acc (a++[e]),D::u⟩::T) (upd H' D (.lst (xs++[v]))))->j e n'->w v H'):LT K s (vs S) H λc p=>if c=true then LE K B (vs S) p w else x p:=by
 refine ⟨f,Y,S,⟨some (.ref D),.acc a,D::G⟩::T,k,_,rfl,C,L,h,λc o I p M J i A=>?_⟩
 cases c with
 | false=>exact qF (k1 _ _ (i.sub (Cf _ _)) A)
 | true =>
  refine qE ⟨f,Y,I,⟨some (.ref D),.acc a,D::G⟩::T,o,_,M,J,i,A,λy q v F N E O P d g=>?_⟩
  split at g
  ·rename_i m e
   have r:=d.told mem_mid
   cases b with
   | true =>
    obtain rfl:=r.imm g.1
    obtain rfl:=hb rfl
    exact k2 _ _ _ _ [] (λ_=>rfl) ((d.drop.sub (Cf _ _)).accPut r hz) g.2
   | false =>
    have l:At K f Y q.n (⟨some v,.dat m e,F⟩::⟨some (.ref D),.acc a,D::G⟩::T) E:=d.sub (Cf _ _)
    exact k2 _ _ _ _ (G++F) (λz=>nomatch z) ((l.perm (Fe _ _ _)).accPutG g.1 hz) g.2
  ·exact g.elim
theorem vU{dt:TT}:∀a H Q,LT K kN a H Q->jH a H Q:=by
 intro a H Q h
 obtain ⟨f,Y,S,T,d,P,rfl,c,e,b,k⟩:=h
 exact k true d S H rfl c e b
theorem iR.imp(h:iR X e t)(k:∀b H Q,t' b H Q->t b H Q):iR X e t':=λa s b H Q I q=>h a s b H Q I (k b H Q q)
theorem iZ:∀A H Q,LE K (pJ b di r W de) A H Q->tE (LI K di) r (LT K W) (LE K de) A H Q:=by
 intro A H Q h
 obtain ⟨f,Y,S,T,δ,P,rfl,hS,hA,hd,k⟩:=h
 refine ⟨f,Y,S,T,δ,_,rfl,hS,hA,hd,λm l t J j g H1 e1 Z V it hz p1=>?_⟩
 obtain ⟨I,h0,hs,hf⟩:=p1
 rw[<- e1]
 intro D hD
 refine ⟨λi q H=>q=l.length - i/\i<=l.length/\∃a n G,(b=true->G=[])/\At K f Y n (⟨some (.ref D),.acc a,D::G⟩::(g++(j++T))) H/\a.length<=i/\I i a n,⟨l.length,by simp,Dg _,[],t.n,[],λ_=>rfl,V.accNew hD,Ar _,h0⟩,?_⟩
 (intro i q H q_; obtain ⟨rfl,hi,a,n,G,M,s,hl,hI⟩ := q_)
 have c:∀e∈j,Ho K H n e:=λe O=>s.ok e (Ae _ (Aw _ (Ap _ O)))
 by_cases o:i<l.length
 ·refine .inr ⟨it.go H n i c o,λx H' y=>?_⟩
  obtain ⟨s1,d,F,h1,h2,h3⟩:=it.yld H n i x H' c o y
  have w:At K f Y n ((⟨some (.ref D),.acc a,D::G⟩::g)++⟨some x,.dat m d,F⟩::(j++T)) H':=At.item (S:=⟨some (.ref D),.acc a,D::G⟩::g) s s1 h2 h3 it.md it.hd it.np
  have u:=w.mid
  have N:=At.view (S:=g) u (λe O=>Ae _ (Ap _ (Ae _ O))) r
  have U:At K f Y n ((⟨some x,.dat m d,F⟩::aT g r)++⟨some (.ref D),.acc a,D::G⟩::(g++(j++T))) H':=N.mid
  have L:Sl (⟨some x,.dat m d,F⟩::aT g r) ⟨.dat m d::frD t.sl r,n⟩:=by
   unfold Sl
   rw[Ax,uZ Z]
  have hv:vs (⟨some x,.dat m d,F⟩::aT g r)=some x::Io (vs g) r:=by
   rw[<- tZ]
   rfl
  refine ⟨λR=>∃C,C<l.length - i/\_,λy X=>∃a,X D=some (.lst a)/\a.length<Az/\∃C,C<l.length - i/\_,λR q=>q,λy X q=>q,?_⟩
  rw[<- hv]
  refine nA L M U (hs i d a n h1 hI) (by omega) (λE R z p=>?_) (λe E v R G' B z p=>?_)
  ·exact ⟨l.length - (i+1),by omega,rfl,o,a,E,G,M,z,by omega,p⟩
  ·obtain ⟨xs,g1,g2,g3⟩:=z
   exact ⟨xs,g1,by omega,l.length - (i+1),by omega,rfl,o,a++[e],E,G',B,g3,by rw[Bz]; simp; omega,p⟩
 ·have e:i=l.length:=by omega
  subst e
  refine .inl ⟨it.stop H n c,k _ ⟨t.sl,n⟩ _ (D::G) g H e1 Z ?_ (hf a n hI)⟩
  have w:=s.accGetG M
  have u:At K f Y n (⟨some (.ref D),.dat (gL b) (.list a),D::G⟩::(g++T)) H:=w.sub (((Cu g).append (Cf j T)).cons₂ _)
  exact u.tomid
theorem bM:∀Z H Q,LE K (jI b di u dc de) Z H Q->qO K (LI K di) u (LT K dc) (LE K de) Z H Q:=by
 intro Z H Q h
 obtain ⟨f,Y,S,T,δ,P,rfl,hS,hA,hd,k⟩:=h
 refine ⟨f,Y,S,T,δ,_,rfl,hS,hA,hd,λm o B J j l H1 e1 e2 h9 it hz p1=>?_⟩
 obtain ⟨I,h0,hs,hf⟩:=p1
 rw[<- e1]
 intro D hD
 refine ⟨λi q H=>q=o.length - i/\i<=o.length/\∃c n G,(b=true->G=[])/\At K f Y n (⟨some (.ref D),.acc c,D::G⟩::(l++(j++T))) H/\c.length<=i/\I i c n,⟨o.length,by simp,Dg _,[],B.n,[],λ_=>rfl,h9.accNew hD,Ar _,h0⟩,?_⟩
 (intro i q H q_; obtain ⟨rfl,hi,c,n,G,hG,A,hl,hI⟩ := q_)
 have g:∀e∈j,Ho K H n e:=λe he=>A.ok e (Ae _ (Aw _ (Ap _ he)))
 by_cases r:i<o.length
 ·refine .inr ⟨it.go H n i g r,λx H' y=>?_⟩
  obtain ⟨s1,d,F,h1,h2,h3⟩:=it.yld H n i x H' g r y
  obtain ⟨w,R,rfl,h4⟩:=hs i d c n h1 hI
  obtain ⟨t,X,rfl,ht,W,_⟩:=h2.tup_inv
  cases W with
  | @cons s _ X _ E _ r1 W =>
   cases W with
   | @cons O _ X _ V G r2 W =>
    cases W
    have M:At K f Y n ((⟨some (.ref D),.acc c,D::G⟩::l)++⟨some s,.dat m w,E⟩::(j++T)) H':=At.item (S:=⟨some (.ref D),.acc c,D::G⟩::l) A s1 r1 (λa ha=>h3 a (Ap _ ha)) it.md it.hd it.np
    have U:At K f Y n ((⟨some s,.dat m w,E⟩::⟨some (.ref D),.acc c,D::G⟩::l)++(j++T)) H':=M.mid
    have L:At K f Y n ((⟨some s,.dat m w,E⟩::⟨some (.ref D),.acc c,D::G⟩::l)++⟨some O,.dat m R,V⟩::(j++T)) H':=At.item U (Tf.refl _) r2 (λa ha=>h3 a (Aw _ (Ap _ ha))) it.md it.hd it.np
    have C:At K f Y n (⟨some s,.dat m w,E⟩::⟨some O,.dat m R,V⟩::⟨some (.ref D),.acc c,D::G⟩::(l++(j++T))) H':=L.mid.perm (Fe _ _ _)
    have h7:=At.view (S:=l) C (λe he=>Ae _ (Ae _ (Ae _ (Ap _ he)))) u
    have h8:At K f Y n ((⟨some s,.dat m w,E⟩::⟨some O,.dat m R,V⟩::aT l u)++⟨some (.ref D),.acc c,D::G⟩::(l++(j++T))) H':=by
     have z:=h7.mid
     refine z.perm ?_
     exact (Gj).cons _
    have h6:Sl (⟨some s,.dat m w,E⟩::⟨some O,.dat m R,V⟩::aT l u) ⟨.dat m w::.dat m R::frD B.sl u,n⟩:=by
     unfold Sl
     rw[Ax,Ax,uZ e2]
    have hv:vs (⟨some s,.dat m w,E⟩::⟨some O,.dat m R,V⟩::aT l u)=some s::some O::Io (vs l) u:=by
     rw[<- tZ]
     rfl
    refine ⟨t,s,O,rfl,Ve.of ht,λH2=>∃m',m'<o.length - i/\_,λy H3=>∃c,H3 D=some (.lst c)/\c.length<Az/\∃m',m'<o.length - i/\_,λH2 q=>q,λy H3 q=>q,?_⟩
    rw[<- hv]
    refine nA h6 hG h8 h4 (by omega) (λn' H2 N p=>?_) (λe n' v H2 G' h5 N p=>?_)
    ·exact ⟨o.length - (i+1),by omega,rfl,r,c,n',G,hG,N,by omega,p⟩
    ·obtain ⟨X,g1,g2,g3⟩:=N
     exact ⟨X,g1,by omega,o.length - (i+1),by omega,rfl,r,c++[e],n',G',h5,g3,by rw[Bz]; simp; omega,p⟩
 ·have e:i=o.length:=by omega
  subst e
  refine .inl ⟨it.stop H n g,k _ ⟨B.sl,n⟩ _ (D::G) l H e1 e2 ?_ (hf c n hI)⟩
  have M:=A.accGetG hG
  have C:At K f Y n (⟨some (.ref D),.dat (gL b) (.list c),D::G⟩::(l++T)) H:=M.sub (((Cu l).append (Cf j T)).cons₂ _)
  exact C.tomid
end
section
variable{X:Cx}{e b c:Expr}{x g q:Str}{l k pt u pos f:Pos}{t i0:Nat}{d:List Expr}{a:Scope}{j:List (Str×Addr)}{ys:List Str}{p:List Nat}{n:DI}{m:DT}{r:DE}
theorem Ei:iR X [] (LT X.K kN):=iR.imp B2 (vU (dt:=jH))
theorem Kk(h:kT X c m):iR X [c] (LT X.K m):=W2 h
theorem Gp(C:CompScope X a j x ys p)(g:X.calm=true)(i:vF X (.Name x l) b n)(h:∀fp s H,iR (Ed X a j (x::ys) fp s H) d (LT X.K m))(c:∀fp s H,Ee (Ed X a j (x::ys) fp s H) e r)(f:∀x,Cz b X.env x=pure x:=by intro _; rfl):Ee X (.ListComp e [⟨.Name x l,b,d,0⟩] a pos) (i9 n p m r):=PE.imp (iI C g i h c f) iZ
theorem bS(C:CompScope X a j x ys p)(c:iS a g)(f:(x::g::ys).Nodup)(o:X.calm=true)(u:vF X (.Tuple [.Name x l,.Name g k] t pt) b n)(q:∀fp s H,iR (Ed X a j (x::g::ys) fp s H) d (LT X.K m))(h:∀fp s H,Ee (Ed X a j (x::g::ys) fp s H) e r)(i:∀x,Cz b X.env x=pure x:=by intro _; rfl):Ee X (.ListComp e [⟨.Tuple [.Name x l,.Name g k] t pt,b,d,0⟩] a pos) (rD n p m r):=PE.imp (J2 C c f o u q h i) bM
def GM(o:Bool)(i:Nat):DG:=match o with
 | true=>mP i
 | false=>Rx i
theorem O9:∀v a H Q,LG K (GM o i) v a H Q->Se i v a H Q:=by
 cases o with
 | true=>exact o9
 | false=>exact iE
theorem Xl{o:Bool}(i:X.N.Nodup)(g:X.N[i0]? = some q)(c:X.env.scope.names.lookup q=some .local)(C:CompScope X a j x ys p)(v:X.calm=true)(y:vF X (.Name x l) b n)(w:∀fp s H,iR (Ed X a j (x::ys) fp s H) d (LT X.K m))(t:∀fp s H,Ee (Ed X a j (x::ys) fp s H) e r)(k:∀x,Cz b X.env x=pure x:=by intro _; rfl)(h:Hg (.ListComp e [⟨.Name x l,b,d,0⟩] a pos) (some (.Name q u)) f.line X.env=pure true:=by rfl):iJ X (.Assign [.Name q u] (.ListComp e [⟨.Name x l,b,d,0⟩] a pos) f) (iY (i9 n p m r) (GM o i0)):=PS.impD (sR i g c C v y w t k h) (Vy iZ O9)
theorem mW{o:Bool}(y:X.N.Nodup)(v:X.N[i0]? = some q)(h:X.env.scope.names.lookup q=some .local)(C:CompScope X a j x ys p)(c:iS a g)(i:(x::g::ys).Nodup)(B:X.calm=true)(E:vF X (.Tuple [.Name x l,.Name g k] t pt) b n)(D:∀fp s H,iR (Ed X a j (x::g::ys) fp s H) d (LT X.K m))(A:∀fp s H,Ee (Ed X a j (x::g::ys) fp s H) e r)(z:∀x,Cz b X.env x=pure x:=by intro _; rfl)(w:Hg (.ListComp e [⟨.Tuple [.Name x l,.Name g k] t pt,b,d,0⟩] a pos) (some (.Name q u)) f.line X.env=pure true:=by rfl):iJ X (.Assign [.Name q u] (.ListComp e [⟨.Tuple [.Name x l,.Name g k] t pt,b,d,0⟩] a pos) f) (iY (rD n p m r) (GM o i0)):=PS.impD (lH y v h C c i B E D A z w) (Vy bM O9)
theorem bQ(C:CompScope X a j x ys p)(g:X.calm=true)(i:vF X (.Name x l) b n)(h:∀fp s H,iR (Ed X a j (x::ys) fp s H) d (LT X.K m))(c:∀fp s H,Ee (Ed X a j (x::ys) fp s H) e r)(f:∀x,Cz b X.env x=pure x:=by intro _; rfl):Ee X (.ListComp e [⟨.Name x l,b,d,0⟩] a pos) (j6 n p m r):=PE.imp (iI C g i h c f) iZ
theorem wW{o:Bool}(y:X.N.Nodup)(v:X.N[i0]? = some q)(h:X.env.scope.names.lookup q=some .local)(C:CompScope X a j x ys p)(c:iS a g)(i:(x::g::ys).Nodup)(B:X.calm=true)(E:vF X (.Tuple [.Name x l,.Name g k] t pt) b n)(D:∀fp s H,iR (Ed X a j (x::g::ys) fp s H) d (LT X.K m))(A:∀fp s H,Ee (Ed X a j (x::g::ys) fp s H) e r)(z:∀x,Cz b X.env x=pure x:=by intro _; rfl)(w:Hg (.ListComp e [⟨.Tuple [.Name x l,.Name g k] t pt,b,d,0⟩] a pos) (some (.Name q u)) f.line X.env=pure true:=by rfl):iJ X (.Assign [.Name q u] (.ListComp e [⟨.Tuple [.Name x l,.Name g k] t pt,b,d,0⟩] a pos) f) (iY (uX n p m r) (GM o i0)):=PS.impD (lH y v h C c i B E D A z w) (Vy bM O9)
end
end DL
namespace DL
open PySem PySem.Spec PyProof.Rows L2 Nd
section
variable{K:PySem.W.Frag}{g H H':Hp}{X:Addr->Prop}{n n':Nat}{E S T:List Ent}
theorem At.pushF(h:At K g X n E H)(r:RdF K H v d F)(i:F.Nodup)(fr:∀a∈F,∀f∈E,a∉f.F)(e:∀a∈F,g a=none):At K g X n (⟨some v,.dat .ow d,F⟩::E) H:=by
 refine h.push ⟨v,rfl,r,λ_=>i,λz=>nomatch z⟩ (λf c=>⟨λ_ a b z=>fr a b f c z,λ_ a b z=>fr a z f c (Et _ _ b)⟩) λa b=>.inl (e a b)
theorem At.drawn(h:At K g X n E H)(w:e∈E)(L:e.x=.drw)(J:e.v=some (.ref a))(s:Vl a H H')(hd:∃c k f,cT H' a c k f/\0<=k/\k<=(n':Int))(N:n<=n'):At K g X n' E H':=by
 obtain ⟨v,x,F⟩:=e
 have t:x=.drw:=L
 subst t
 obtain ⟨p,R,Q,S,j,M,y,_⟩:=h.ok _ w
 have O:some (V.ref a)=some (V.ref p):=J.symm.trans j
 cases O
 have u:F=[a]:=M
 subst u
 refine ⟨λf C=>?_,h.sep,h.new,λb o A q=>?_,λb o q=>?_,λb d=>?_⟩
 rotate_right
 ·obtain ⟨z,c,k,f,m,r,D⟩:=h.xd b d
  by_cases l:b=a
  ·subst l
   exact ⟨z,hd⟩
  ·exact ⟨z,c,k,f,s _ _ l m,r,by omega⟩
 ·rcases qJ h w C with rfl | q
  ·obtain ⟨c,k,I,m,r,D⟩:=hd
   exact ⟨a,c,k,I,j,rfl,m,r,D⟩
  ·have P:a∉f.F:=q.1 (.inr rfl) a Aa
   refine (h.ok f C).kp (λb o B z=>?_) N
   by_cases d:b=a
   ·subst d
    rcases z with z | z
    ·exact absurd z P
    ·have i:H b=some (.lst _):=y
     rw[B] at i
     cases i
     rcases z with ⟨_,z⟩ | ⟨_,_,z⟩ <;> cases z
   ·exact s b o d B
 ·have d:b≠a:=by
   rintro rfl
   rcases h.new _ w b Aa with z | z
   ·rw[z] at q; cases q
   ·exact A z.1
  exact s b o d (h.same b o A q)
 ·by_cases d:b=a
  ·subst d
   obtain ⟨c,k,I,m,_⟩:=hd
   exact ⟨_,m⟩
  ·obtain ⟨G,z⟩:=h.dom b o q
   exact ⟨G,s b G d z⟩
end
abbrev PF:=List Ad->(Ad->Prop)->Prop
abbrev DF:=List Ad->Nat->(Ad->Nat->Prop)->Prop
def Ko(K:PySem.W.Frag)(h:PF):Sp:=λg H Q _=>∃(b:List Ent) (n:Nat) (f:List Ad) (R:Ad->Prop),b.map Ent.v=g.map some/\(∀e∈b,Ho K H n e)/\datas (b.map Ent.x)=some f/\h f R /\
 ∀v d F c,R d->RdF K c v d F->F.Nodup->(∀a∈F,H a=none)->Tf H c->Q v c
def JZ(K:PySem.W.Frag)(o:DF):Sp:=λm H Q _=>∃(b:Addr) (l:List V) (g:List Ent) (n:Nat) (j:List Ad) (R:Ad->Nat->Prop),m=.ref b::l/\g.map Ent.v=l.map some/\(∀e∈g,Ho K H n e)/\(∀e∈g,b∉e.F)/\(∃c k f,cT H b c k f/\0<=k/\k<=(n:Int))/\datas (g.map Ent.x)=some j/\o j n R /\
 ∀v d F i h,n<=i->R d i->RdF K h v d F->F.Nodup->(∀a∈F,H a=none)->(∃c k f,cT h b c k f/\0<=k/\k<=(i:Int))->Vl b H h->Q v h
def AQ(f:PF)(e:DA):DE:=λb P=>e b λg a=>match datas g with
 | some c=>f c λd=>P (.dat .ow d) a
 | none=>False
def rW(i:Nat)(e:DF)(g:DA):DE:=λb P=>match b.sl[i]? with
 | some .drw=>g b λh a=>match a.sl[i]? with
  | some .drw=>match datas h with
   | some f=>e f a.n λd c=>P (.dat .ow d) ⟨a.sl,c⟩
   | none=>False
  | _=>False
 | _=>False
section
variable{X:Cx}{CX:tN}{k:Nat}{f:Addr}{g:Cb}{ps:List Str}{m:PF}{l:DF}{E:XK}{x:Str}{p pos:Pos}{e j:Expr}{es:List Expr}{b:DA}
theorem Dc(F:FnOk X.prog X.w X.K X.mg X.base CX k f g ps (Ko X.K m))(M:Room k X.A)(N:Gl X x)(hm:X.mg x=some (.ref f))(I:PySem.W.keepIn X.K (.ref f)=true)(hb:Binds X.K g ps [])(C:Ti CX X E)(i:kB X (e::es) b)(u:(x == ("__debug__" : Str))=false:=by decide)(t:Bl (e::es) X.env=(false,eval e X.env)::Bl es X.env:=by rfl)(l:(Gr pos (Bl es X.env)).any (·.1)=false:=by rfl):Ee X (.Call (.Name x p) (e::es) [] pos) (AQ m b):=by
 refine PE.imp (Wt F M N hm I hb .nil C i u t l) λσ H Q h=>?_
 obtain ⟨D,Y,S,T,Z,P,rfl,z,O,R,V⟩:=h
 refine ⟨D,Y,S,T,Z,_,rfl,z,O,R,λxs j y us S' H' U L B J c p=>?_⟩
 subst B
 cases q:datas (y.map Ent.x) with
 | none=>rw[q] at p; exact p.elim
 | some G =>
  rw[q] at p
  rw[Dk]
  refine ⟨y,j.n,G,_,J,λe t=>c.ok e (Aw _ (Ap _ t)),q,p,λv d F o r rd nd fr s=>?_⟩
  exact V _ j v F S' o U L (((c.dropL.grow s (Ar _)).pushF rd nd (λa i=>c.dropL.free (fr a i)) (λa i=>c.new0 (fr a i))).tomid) r
theorem Jv(F:FnOk X.prog X.w X.K X.mg X.base CX k f g ps (JZ X.K l))(hr:Room k X.A)(hg:Gl X x)(hm:X.mg x=some (.ref f))(hk:PySem.W.keepIn X.K (.ref f)=true)(hb:Binds X.K g ps [])(hx:Ti CX X E)(h0:PE X j (Tn i))(G:kB X es b)(h8:(x == ("__debug__" : Str))=false:=by decide)(C:Bl (j::es) X.env=(false,eval j X.env)::Bl es X.env:=by rfl)(O:(Gr pos (Bl es X.env)).any (·.1)=false:=by rfl):Ee X (.Call (.Name x p) (j::es) [] pos) (rW i l b):=by
 refine PE.imp (Wt F hr hg hm hk hb .nil hx (Gz h0 G C) h8 C O) λσ H Q h=>?_
 obtain ⟨H0,Y,S,T,δ,P,rfl,hS,hA,M,kk⟩:=h
 unfold rW at M
 split at M
 case h_2=>exact M.elim
 rename_i D
 have L:∀w,(vs S)[i]? = some (some w)->LA X.K b (vs S) H λxs H2=>JZ X.K l ((w::xs)++[]) H2 Q E:=λw N=>by
  refine ⟨H0,Y,S,T,δ,_,rfl,hS,hA,M,λxs J Z us S' H' e1 e2 ex eu c p=>?_⟩
  subst ex
  split at p
  ·rename_i h4
   obtain ⟨m,I,s2⟩:=Ge e2 h4
   have o:m∈S':=Au I
   have hv:m.v=some w:=by
    have:=Jk I
    rw[e1,N] at this
    exact (Bo this).symm
   obtain ⟨u,z,F⟩:=m
   have y:z=.drw:=s2
   subst y
   have hE:(⟨u,.drw,F⟩ : Ent)∈S'++(Z++T):=Ap _ o
   obtain ⟨B,c0,k0,f0,t,R,h6,h7,h5⟩:=c.ok _ hE
   have ew:some w=some (V.ref B):=hv.symm.trans t
   cases ew
   have h3:F=[B]:=R
   subst h3
   cases q:datas (Z.map Ent.x) with
   | none=>rw[q] at p; exact p.elim
   | some ds =>
    rw[q] at p
    rw[Dk]
    refine ⟨B,us,Z,J.n,ds,_,rfl,eu,λe C=>c.ok e (Aw _ (Ap _ C)),λe C=>?_,⟨c0,k0,f0,h6,h7,h5⟩,q,p,λv d F n' h2 hn r rd nd fr h1 s=>?_⟩
    ·obtain ⟨_,_,hp⟩ := Da.mp c.sep
     exact (hp _ o e (Ap _ C)).1 (.inr rfl) B Aa
    ·have U:=c.dropL.drawn (Ap _ o) rfl hv s h1 hn
     exact kk _ ⟨J.sl,n'⟩ v F S' h2 e1 e2 ((U.pushF rd nd (λa G=>c.dropL.free (fr a G)) (λa G=>c.new0 (fr a G))).tomid) r
  ·exact p.elim
 obtain ⟨m,I,s2⟩:=Ge hS D
 have o:m∈S:=Au I
 obtain ⟨u,z,F⟩:=m
 have y:z=.drw:=s2
 subst y
 obtain ⟨B,c0,k0,f0,t,_⟩:=hA.ok _ (Ap _ o)
 have N:(vs S)[i]? = some (some (.ref B)):=(Jk I).trans (congrArg some t)
 exact ⟨_,N,L _ N⟩
def Xm:Sp:=λvs H Q _=>∃c:Int,vs=[.int c]/\∀(p:Addr) (b:Int) (f:Bool) (a:Hp),H p=none->cT a p b 0 f->Tf H a->Q (.ref p) a
def x4(b:DA):DE:=λc P=>b c λd a=>match d with
 | [.dat _ (.int _)]=>P .drw a
 | _=>False
theorem L9(F:FnOk X.prog X.w X.K X.mg X.base CX k f g ps Xm)(L:Room k X.A)(M:Gl X x)(hm:X.mg x=some (.ref f))(G:PySem.W.keepIn X.K (.ref f)=true)(hb:Binds X.K g ps [])(C:Ti CX X E)(d:kB X (e::es) b)(r:(x == ("__debug__" : Str))=false:=by decide)(R:Bl (e::es) X.env=(false,eval e X.env)::Bl es X.env:=by rfl)(j:(Gr pos (Bl es X.env)).any (·.1)=false:=by rfl):Ee X (.Call (.Name x p) (e::es) [] pos) (x4 b):=by
 refine PE.imp (Wt F L M hm G hb .nil C d r R j) λσ H Q h=>?_
 obtain ⟨D,Y,S,T,Z,P,rfl,y,N,O,V⟩:=h
 refine ⟨D,Y,S,T,Z,_,rfl,y,N,O,λxs i As us S' H' U J B I l p=>?_⟩
 split at p
 ·obtain ⟨v,F,rfl,c⟩:=Ii I l B
  obtain ⟨rfl,_⟩:=(c.told mem_mid).int_inv
  refine ⟨_,rfl,λq c' fl m t o s=>?_⟩
  have h3:=c.drop.grow (n':=i.n) s (Ar _)
  refine V _ i _ [q] S' m U J ((h3.push (e:=⟨some (.ref q),.drw,[q]⟩) ⟨q,_,0,fl,rfl,rfl,o,by decide,by omega⟩ (λf hf=>?_) λa d=>?_).tomid) p
  ·have u:=c.drop.free t f hf
   refine ⟨λ_ a d z=>?_,λ_ a d z=>?_⟩
   ·rw[Ak.mp d] at z
    exact u z
   ·rw[Ak.mp z] at d
    exact u (Et _ _ d)
  ·rw[Ak.mp d]
   exact .inl (c.new0 t)
 ·exact p.elim
end
def args0(a:List Ad)(k:Nat):List DV:=a.map (λd=>.dat .sh d)++Ci k .un
def Zr(e:Ent):Ent:=match e.x with
 | .dat _ d=>⟨e.v,.dat .sh d,e.F⟩
 | _=>e
theorem Je:∀{xs:List DV} {a:List Ad},datas xs=some a->xs.length=a.length
 | [],a,h=>by cases h; rfl
 | x::xs,a,h=>by
  cases x with
  | dat m d =>
   cases q:datas xs with
   | none=>simp [datas,q] at h
   | some b =>
    simp [datas,q] at h
    subst h
    rw[Bu,Bu,Je q]
  | _=>cases h
theorem Te:∀{As:List Ent} {a:List Ad},datas (As.map Ent.x)=some a->(As.map Zr).map Ent.x=a.map (λd=>.dat .sh d)
 | [],a,h=>by cases h; rfl
 | ⟨v,x,F⟩::As,a,h=>by
  rw[Ax] at h
  cases x with
  | dat m d =>
   cases q:datas (As.map Ent.x) with
   | none=>simp [datas,q] at h
   | some b =>
    simp [datas,q] at h
    subst h
    rw[Ax,Ax,Ax,Te q]
    rfl
  | _=>cases h
theorem Za:∀{As:List Ent} {a:List Ad},datas (As.map Ent.x)=some a->∀e∈As,∃m d,e.x=.dat m d
 | [],a,h,e,he=>nomatch he
 | ⟨v,x,F⟩::As,a,h,e,he=>by
  rw[Ax] at h
  cases x with
  | dat m d =>
   cases q:datas (As.map Ent.x) with
   | none=>simp [datas,q] at h
   | some b =>
    rcases Ao.mp he with rfl | he
    ·exact ⟨m,d,rfl⟩
    ·exact Za q e he
  | _=>cases h
theorem P6(As:List Ent):(As.map Zr).map Ent.v=As.map Ent.v:=by
 rw[Bm]
 refine Es λe _=>?_
 obtain ⟨v,x,F⟩:=e
 cases x <;> rfl
def Hr(k:Nat):List Ent:=Ci k ⟨none,.un,[]⟩
theorem aP{As:List Ent}{c:List Ad}(q:datas (As.map Ent.x)=some c)(k:Nat):∀e∈As.map Zr++Hr k,cells e=[]/\EU e.x=false:=λe he=>by
 rcases Bf.mp he with he | he
 ·obtain ⟨f,g,rfl⟩:=Bh.mp he
  obtain ⟨m,d,b⟩:=Za q f g
  obtain ⟨v,x,F⟩:=f
  have a:x=.dat m d:=b
  subst a
  exact ⟨rfl,rfl⟩
 ·rw[(Ji.mp he).2]
  exact ⟨rfl,rfl⟩
theorem Qt{c:Type}{R:c->c->Prop}:∀{l:List c},(∀a∈l,∀b∈l,R a b)->l.Pairwise R
 | [],_=>Lc
 | a::l,h=>Ba.mpr ⟨λb f=>h a Aa b (Ae _ f),Qt λx e y d=>h x (Ae _ e) y (Ae _ d)⟩
theorem tV{K:PySem.W.Frag}{H:Hp}{n:Nat}{As:List Ent}{g:List Ad}(q:datas (As.map Ent.x)=some g)(ok:∀e∈As,Ho K H n e)(k:Nat):∀e∈As.map Zr++Hr k,Ho K H n e:=λe he=>by
 rcases Bf.mp he with he | he
 ·obtain ⟨f,b,rfl⟩:=Bh.mp he
  obtain ⟨m,d,c⟩:=Za q f b
  have o:=ok f b
  obtain ⟨v,x,F⟩:=f
  have a:x=.dat m d:=c
  subst a
  obtain ⟨w,h,i,_⟩:=o
  exact ⟨w,h,i,λz=>(nomatch z),λz=>(nomatch z)⟩
 ·rw[(Ji.mp he).2]
  exact (rfl:([]:List Addr)=[])
theorem Nf{b c:Type}(f:b->c)(k:Nat)(a:b):(Ci k a).map f=Ci k (f a):=by
 rw[List.map_replicate]
def retE(R:Ad->Prop):DEnds where
 nx:=λ_=>R .none
 rt:=λx _=>∃d,x=.dat .ow d/\R d
section
variable{P:Bp}{w:World}{K:PySem.W.Frag}{mg:Str->Option Value}{base:Heap}
theorem Fz{x g:Str}{st:Stmt}{f:Addr}{Y:Cb}{N ps:List Str}{k:Nat}{W:PF}{U:DB}(F:Fun K x g st f Y)(S:FnScope N ps (Bv st))(hb:∀(i:Value) (A:Cn) (outer:List Env) (s:Am) (H:Hp) (E:XK),Room k (A.deeper (Pk g (Bv st) s.heap.objs.size f i))->Zb (Sr Gv P w K mg base N g (Bv st) f i A outer s H E).nox (Ja st) U)(h:∀j R,W j R->j.length=ps.length/\U (retE R) ⟨args0 j (N.length - ps.length),0⟩):FnOk P w K mg base Gv (k+1) f Y ps (Ko K W):=by
 refine F.ok S (λvs H Q E z=>?_) λi A outer s H us Q E hr z=>?_
 ·obtain ⟨V,n,j,R,y,ok,q,G,_⟩:=z
  have l1:=(h j R G).1
  have D:=Je q
  rw[Ac] at D
  have L:=congrArg Fi y
  rw[Ac,Ac] at L
  omega
 ·obtain ⟨V,n,j,R,y,ok,q,G,X⟩:=z
  obtain ⟨l1,hd⟩:=h j R G
  have D:=Je q
  rw[Ac] at D
  have L:=congrArg Fi y
  rw[Ac,Ac] at L
  refine ⟨_,hb i A outer s H E hr,H,λ_=>False,V.map Zr++Hr (N.length - ps.length),[],⟨args0 j (N.length - ps.length),0⟩,retE R,?_,?_,λ_ z=>(nomatch z),?_,hd,λO T M e1 m p=>?_,λx O v I T M e1 m p=>?_,λ_ _ _ _ _ p=>p.elim,λ_ _ _ _ _ p=>p.elim⟩
  ·unfold vs L2.start Hr
   rw[Bg,P6,y,Nf,show us.length=ps.length by omega]
  ·unfold Sl args0 Hr
   rw[Bg,Te q,Nf]
  ·rw[Dk]
   have C:=aP q (N.length - ps.length)
   refine ⟨λe B=>?_,Qt λa l b J=>⟨λhq c t=>?_,λhq c t=>?_⟩,λe B a l=>?_,λb o _ e=>e,λb o e=>⟨o,e⟩,λb hb=>hb.elim⟩
   ·have:=tV q ok (N.length - ps.length) e B
    obtain ⟨v,x,F⟩:=e
    cases x with
    | drw=>exact absurd (C _ B).2 (by show ¬ (true=false); decide)
    | _=>exact this
   ·rw[(C a l).1] at t; cases t
   ·rw[(C b J).1] at t; cases t
   ·rw[(C e B).1] at l; cases l
  ·exact X .non .none [] M p .non Dt (λ_ z=>(nomatch z)) λb o e=>m.same b o (λz=>z) e
  ·obtain ⟨d,rfl,r⟩:=p
   rw[show T++[(⟨some v,.dat .ow d,I⟩ : Ent)]=T++⟨some v,.dat .ow d,I⟩::[] from rfl] at m
   obtain ⟨u,Z,rd,nd,_⟩:=m.ok _ mem_mid
   cases Z
   refine X v d I M r rd (nd rfl) (λa l=>?_) λb o e=>m.same b o (λz=>z) e
   rcases m.new _ mem_mid a l with z | z
   ·exact z
   ·exact z.1.elim
end
end DL
namespace L2
open PySem PySem.Spec PyProof.Rows
def i6(H:Hp):Prop:=∀b,H b=none\/(∃o c,H b=some (.frz o (.lst c)))\/∃a,H b=some (.tbl a)
def oD(a:List (Addr×Addr×Str))(H:Hp):Hp:=λb=>match a.find? (λr=>r.2.1 == b) with | some t=>some (.tbl #[.str t.2.2 0]) | none=>H b
theorem Vz(h:a.find? (λr=>r.2.1 == b)=some t):oD a H b=some (.tbl #[.str t.2.2 0]):=by unfold oD; rw[h]
theorem Mv(h:a.find? (λr=>r.2.1 == b)=none):oD a H b=H b:=by unfold oD; rw[h]
def jP(q:Bp)(K:PySem.W.Frag):Prop:=∃a:List (Addr×Addr×Str),(∀t∈a,∃x d,(recsOf q).find? (λe=>e.name == x)=some d/\PySem.W.tabIn K x=some (t.1,t.2.1))/\(∀t∈a,∀t'∈a,t.2.1=t'.2.1->t=t') /\
 (∀x∈Qq,∀c P,PySem.W.tabIn K x=some (c,P)->(c,P,dF x)∈a)/\∀t∈a,K.lookup t.2.1=none
theorem V2(hx:x∈Qq):x = "often" \/ x = "cut_by" := by
 rcases Ao.mp hx with h | hx
 ·exact .inl h
 ·exact .inr (Ak.mp hx)
theorem yC{q:Bp}{K:PySem.W.Frag}{c P f a:Addr}{d d':DefRec}(h1:PySem.W.tabIn K "often" = some (c,P))(hd:(recsOf q).find? (λe=>e.name == ("often" : Str))=some d)(hl:K.lookup P=none)(i:PySem.W.tabIn K "cut_by" = some (f,a))(g:(recsOf q).find? (λe=>e.name == ("cut_by" : Str))=some d')(h:K.lookup a=none)(b:(P == a)=false):jP q K:=by
 have b:P≠a:=by simpa using b
 refine ⟨[(c,P,dF "often"),(f,a,dF "cut_by")],λt ht=>?_,λt ht k ht' e=>?_,λx j f a e=>?_,λt ht=>?_⟩
 ·rcases Ao.mp ht with rfl | ht
  ·exact ⟨"often",d,hd,h1⟩
  ·rw[Ak.mp ht]; exact ⟨"cut_by",d',g,i⟩
 ·rcases Ao.mp ht with rfl | ht <;> rcases Ao.mp ht' with rfl | ht'
  ·rfl
  ·rw[Ak.mp ht'] at e; exact absurd e b
  ·rw[Ak.mp ht] at e; exact absurd e.symm b
  ·rw[Ak.mp ht,Ak.mp ht']
 ·rcases V2 j with rfl | rfl
  ·rw[h1] at e; cases e; exact Aa
  ·rw[i] at e; cases e; exact Ae _ (Ak.mpr rfl)
 ·rcases Ao.mp ht with rfl | ht
  ·exact hl
  ·rw[Ak.mp ht]; exact h
theorem wD{P:Bp}{w:World}{K:PySem.W.Frag}{mg mb:Str->Option Value}{CX:tN}{k:Nat}{fa a:Addr}{fd:Cb}{x:Str}{sp:Sp}{f:Am}{vs:List Value}{ns:List Int}(g:List (Addr×Addr×Str))(C:∀t∈g,PySem.W.CodeHd f.heap t.1 t.2.1/\f.heap.get? t.2.1=some (PySem.W.tabObj #[]))(hu:∀t∈g,∀t'∈g,t.2.1=t'.2.1->t=t')(hL:∀x∈Qq,∀c P,PySem.W.tabIn K x=some (c,P)->(c,P,dF x)∈g)(k2:∀t∈g,K.lookup t.2.1=none)(k4:∃bm E,mg "__builtins__" = some (.ref bm)/\bm≠Wn/\f.heap.get? bm=some E/\E.cls=.type "module" /\ E.dict=some Wn/\E.data=.plain)(KX:K.In f.heap)(L:f.heap.Ns Ck mg)(hb:f.heap.Ns Wn mb)(k3:∀x:Str,x ≠ "__name__" -> mb x=Ke x)(S:f.heap.NoLimit)(hg:f.gens=#[])(M:f.heap.get? a=some { cls:=.type "list",data:=.seq vs.toArray })(hi:El vs ns)(hl:ns.length<=Az)(hr:Room k aA)(F:∀base:Heap,K.In base->base.Ns Ck mg->FnOk P w K mg base CX k fa fd [x] sp)(J:∀(s:Am) (u:Value),BindsTo s fd ⟨[u],[]⟩ [(x,u)])(k0:∀H:Hp,i6 H->DL.KL K H a (ns.map V.int)->sp [.ref a] H (λv _=>v=.bl true) λ_ _ _=>False)(k6:∀H e s',CX [] H f (λ_ _ _=>False) e s'->False):Qz (model P w) aA (.call (.ref fa) ⟨[.ref a],[]⟩) (λr s'=>r=.ok (.ret (.bool true))/\OldK f.heap s'.heap/\s'.os=f.os/\Uk s'.gens) f:=by
 have rv:=gN hi
 have h0:=hi.length
 -- from an abstract heap in which nothing but the script may be tracked
 have T:∀H:Hp,i6 H->DL.KL K H a (ns.map V.int)->Wq P w H f.heap->(∀b,H b≠none->b=a\/∃t∈g,b=t.2.1)->(H a≠none->K.lookup a=none)->(∀t∈g,Y6 H t.2.1 t.2.2) ->
   Qz (model P w) aA (.call (.ref fa) ⟨[.ref a],[]⟩) (λr s'=>r=.ok (.ret (.bool true))/\OldK f.heap s'.heap/\s'.os=f.os/\Uk s'.gens) f:=by
  intro H hO hS I hA hK h7
  have i:∀{b:Addr} {o:Obj},f.heap.get? b=some o->H b=none->(eR f.heap H).get? b=some o:=λe n=>z0 e n
  have k7:∀{b:Addr} {o:Obj} {O:Array Nt} {Q:Nat},f.heap.get? b=some o->o.data=.dict O Q->H b=none:=λ{b o O Q} e d=>by
   cases q:H b with
   | none=>rfl
   | some u =>
    rcases hA b (by rw[q]; simp) with l | ⟨t,j,l⟩
    ·subst l
     rw[M] at e; cases e
     have d':Data.seq vs.toArray _=Data.dict O Q:=d
     cases d'
    ·rw[l,(C t j).2] at e; cases e
     cases d
  have B:∀{b:Addr} {m:Str->Option Value},f.heap.Ns b m->(eR f.heap H).Ns b m:=λ{b m} ⟨o,O,Q,e,d,r⟩=>⟨o,O,Q,i e (k7 e d),d,r⟩
  have h9:K.In (eR f.heap H):=λb o e=>i (KX b o e) (by
   cases q:H b with
   | none=>rfl
   | some u =>
    rcases hA b (by rw[q]; simp) with l | ⟨t,j,l⟩
    ·subst l
     rw[hK (by rw[q]; simp)] at e; cases e
    ·rw[l,k2 t j] at e; cases e)
  have LR:∀{b:Addr} {o:Obj},f.heap.get? b=some o->o.cls≠.none->o.cls≠.type "list" -> H b=none:=λ{b o} e d d2=>by
   cases q:H b with
   | none=>rfl
   | some u =>
    rcases hA b (by rw[q]; simp) with l | ⟨t,j,l⟩
    ·subst l
     rw[M] at e; cases e
     exact absurd rfl d2
    ·rw[l,(C t j).2] at e; cases e
     exact absurd rfl d
  have k1:w8 K mg (eR f.heap H) H:=λx hx c P e=>by
   have j:=hL x hx c P e
   obtain ⟨bm,E,b1,b2,b3,b4,b5,b6⟩:=k4
   obtain ⟨⟨o,us,Y,tf,N,tg,k5,U,tt,A,r1,r2⟩,G⟩:=C _ j
   refine ⟨⟨o,us,Y,tf,N,tg,k5,U,tt,i A (LR A (by rw[r1]; nofun) (by rw[r1]; simp)),r1,r2⟩,⟨bm,E,b1,b2,λz=>?_,λz=>?_,i b3 (LR b3 (by rw[b4]; nofun) (by rw[b4]; simp)),b4,b5,b6⟩,h7 _ j⟩
   ·obtain ⟨o',O,Q,l,d,_⟩:=L
    rw[<- z,b3] at l; cases l; rw[b6] at d; cases d
   ·have G:f.heap.get? P=_:=G
    rw[<- z,b3] at G; cases G; cases b4
  have hM:Mod K mg (eR f.heap H):=⟨h9,B L,⟨mb,B hb,k3⟩,let ⟨mc,h1,h2⟩:=S; ⟨mc,B h1,h2⟩⟩
  have e0:Env0 P w K mg (eR f.heap H) aA [] f H:=⟨rfl,hM,λb o e=>N9 e,Nat.le_of_eq (vR _ _),trivial,λb hb=>absurd (show b∈([]:List Addr) from hb) (by simp),I,.of_eq hg,k1⟩
  refine gV ((F _ h9 (B L)).run aA [] f H ⟨[.ref a],[]⟩ [.ref a] [.ref a] _ _ hr e0 (J f (.ref a)) (.cons rfl .nil) (k0 H hO hS)) λr s' h=>?_
  cases r with
  | error e=>exact (k6 H e s' h).elim
  | ok fl =>
   cases fl with
   | next=>exact Kn h
   | brk=>exact Kn h
   | cont=>exact Kn h
   | ret u =>
    obtain ⟨v,H',os,X,un,D,r',q⟩:=h
    have q':v=.bl true:=q
    subst q'
    obtain rfl:u=Xx true:=r'
    have Z:∀b o,f.heap.get? b=some o->s'.heap.get? b=some o\/∃t∈g,b=t.2.1:=λb o e=>by
     cases q:H b with
     | none=>exact .inl (un.keep b o e q (by intro z; exact absurd (show b∈([]:List Addr) from z) (by simp)) (by simp))
     | some u =>
      rcases hO b with z | ⟨E,xs,z⟩ | ⟨R,z⟩
      ·rw[q] at z; cases z
      ·have z2:=un.frzs b E _ z
       obtain ⟨A,_⟩:=I b _ z
       obtain ⟨e2,_⟩:=D b _ z2
       rw[e] at A; cases A
       exact .inl e2
      ·rcases hA b (by rw[q]; simp) with l | h'
       ·obtain ⟨_,A,_⟩:=I b _ z
        rw[l,M] at A; cases A
       ·exact .inr h'
    have p:∀t∈g,∃R,s'.heap.get? t.2.1=some (PySem.W.tabObj R):=λt j=>by
     obtain ⟨R,t0,h3,_⟩:=h7 t j
     obtain ⟨more,h5⟩:=un.tbls _ _ h3
     obtain ⟨qs,A,_⟩:=D _ _ h5
     exact ⟨qs,A⟩
    refine ⟨rfl,⟨λb o e=>?_,λb o e=>?_⟩,os,X⟩
    ·rcases Z b o e with z | ⟨t,j,rfl⟩
     ·exact .inl z
     ·obtain ⟨R,G⟩:=p t j
      have e2:=(C t j).2
      rw[e] at e2
      cases e2
      exact .inr (.inl ⟨((C t j).1.tab (C t j).2).isCodeTable,rfl,#[],R,rfl,by rw[Array.empty_append]; exact G⟩)
    ·rcases Z b o e with z | ⟨t,j,rfl⟩
     ·exact ⟨_,z⟩
     ·obtain ⟨R,G⟩:=p t j
      exact ⟨_,G⟩
 have h6:∀(t:Addr×Addr×Str),t∈g->g.find? (λr=>r.2.1 == t.2.1)=some t:=λt j=>by
  cases q:g.find? (λr=>r.2.1 == t.2.1) with
  | none=>exact absurd (List.find?_eq_none.mp q t j) (by simp)
  | some r=>exact congrArg some (hu r (Qx q) t j (by have:=List.find?_some q; simpa using this))
 have h8:∀t∈g,t.2.1≠a:=λt j z=>by
  have e:=(C t j).2
  rw[z,M] at e; cases e
 have all:∀H:Hp,(∀b,H b=none\/∃o xs,H b=some (.frz o (.lst xs)))->(∀b,H b≠none->b=a)->(H a≠none->K.lookup a=none)->DL.KL K H a (ns.map V.int)->Wq P w H f.heap ->
   Qz (model P w) aA (.call (.ref fa) ⟨[.ref a],[]⟩) (λr s'=>r=.ok (.ret (.bool true))/\OldK f.heap s'.heap/\s'.os=f.os/\Uk s'.gens) f:=by
  intro H h1 h2 h3 h4 h5
  refine T (oD g H) (λb=>?_) ?_ (λb u z=>?_) (λb z=>?_) (λz=>?_) λt j=>?_
  ·cases q:g.find? (λr=>r.2.1 == b) with
   | some t=>exact .inr (.inr ⟨_,Vz q⟩)
   | none =>
    rcases h1 b with z | ⟨o,xs,z⟩
    ·exact .inl (by rw[Mv q]; exact z)
    ·exact .inr (.inl ⟨o,xs,by rw[Mv q]; exact z⟩)
  ·have na:g.find? (λr=>r.2.1 == a)=none:=N0.mpr λt j z=>h8 t j (by simpa using z)
   rcases h4 with ⟨o,h⟩ | h
   ·exact .inl ⟨o,by rw[Mv na]; exact h⟩
   ·exact .inr h
  ·cases q:g.find? (λr=>r.2.1 == b) with
   | some t =>
    rw[Vz q] at z
    cases z
    have eb:t.2.1=b:=by have:=List.find?_some q; simpa using this
    exact ⟨#[],by rw[<- eb]; exact (C t (Qx q)).2,by simp [TriplesOk],λk8 v y=>by simp [Sb] at y⟩
   | none =>
    rw[Mv q] at z
    rcases h1 b with y | ⟨o,xs,y⟩
    ·rw[z] at y; cases y
    ·rw[z] at y
     cases y
     exact h5 b _ z
  ·cases q:g.find? (λr=>r.2.1 == b) with
   | some t=>exact .inr ⟨t,Qx q,by have:=List.find?_some q; exact (by simpa using this : t.2.1=b).symm⟩
   | none =>
    rw[Mv q] at z
    exact .inl (h2 b z)
  ·have na:g.find? (λr=>r.2.1 == a)=none:=N0.mpr λt j z=>h8 t j (by simpa using z)
   rw[Mv na] at z
   exact h3 z
  ·exact ⟨#[.str t.2.2 0],0,Vz (h6 t j),rfl⟩
 cases hk:K.lookup a with
 | some o =>
  -- the script is one of the module's own objects
  have e:=KX a o hk
  rw[M] at e
  cases e
  exact all (λ_=>none) (λ_=>.inl rfl) (λb z=>absurd rfl z) (λz=>absurd rfl z) (.inr ⟨vs.toArray,_,hk,by rw[Av,h0]; exact hl,by simpa using rv⟩) (λb u z=>by have z':(none:Option HO)=some u:=z; cases z')
 | none =>
  refine all (λb=>if b=a then some (.frz { cls:=.type "list",data:=.seq vs.toArray } (.lst (ns.map V.int))) else none) (λb=>?_) (λb z=>?_) (λ_=>hk) (.inl ⟨{ cls:=.type "list",data:=.seq vs.toArray },if_pos rfl⟩) (λb u z=>?_)
  ·by_cases hb:b=a
   ·exact .inr ⟨_,_,if_pos hb⟩
   ·exact .inl (if_neg hb)
  ·by_cases hb:b=a
   ·exact hb
   ·exact absurd (if_neg hb) z
  ·by_cases hb:b=a
   ·have z':=(if_pos hb).symm.trans z
    cases z'
    subst hb
    exact ⟨M,by rw[Ac]; exact hl,vs,_,rv,M⟩
   ·have z':=(if_neg hb).symm.trans z
    cases z'
theorem walk_ofD{l:PySem.W.OpenLaw}{n k:Nat}{q:Bp}{loose:List Str}{XP:(Str->Option Value)->Heap->Prop}{YP:World->Heap->Prop}{d:DefRec}{K:Params->PySem.W.Frag}{CX:World->tN}{sp:World->Sp}{x:Str}(S:l.most=some n)(z:n<=Az)(C:d.params.defaults=[])(X:Room k aA)(P:∀(w:World) (h:Heap),YP w h->(K w.params).In h)(F:∀(w:World) (mg:Str->Option Value) (r:Addr) (h:Heap),(K w.params).In h->h.Ns Ck mg->mg d.name=some (.ref r)->(jP q (K w.params))/\∃E:Cb,(∀(s:Am) (u:Value),BindsTo s E ⟨[u],[]⟩ [(x,u)])/\∀base:Heap,(K w.params).In base->base.Ns Ck mg->FnOk l.prog w (K w.params) mg base (CX w) k r E [x] (sp w))(A:∀(w:World) (H:Hp) (a:Addr) (ns:List Int),ns.length<=n->i6 H->DL.KL (K w.params) H a (ns.map V.int)->sp w [.ref a] H (λv _=>v=.bl true) λ_ _ _=>False)(B:∀(w:World) (H:Hp) (s:Am) (e:Value) (s':Am),CX w [] H s (λ_ _ _=>False) e s'->False):PySem.W.WalkO q loose XP YP l.row.toRowW d [] (λf vs=>PySem.call f vs):=by
 refine Att.attach_call S C λw I m mg mb r o pm cd M a vs ns G Y ho hd h0 D p i c Z=>?_
 have y:=P w _ Y
 obtain ⟨⟨j,L,t2,N,U⟩,E,R,O⟩:=F w mg r _ y G.T.g D
 exact wD j (λt ht=>by
  obtain ⟨x,d,h1,Q⟩:=L t ht
  exact PySem.W.tab_of G.T y h1 Q) t2 N U G.T.bmain y G.T.g G.T.b G.T.builtins G.T.nolimit Z p i (Ce c z) X O R (λH hO J=>A w H a ns c hO J) λH e s'=>B w H m e s'
end L2
namespace DL
open PySem PySem.Spec PyProof.Rows L2 Nd
def npk:List DV->Bool
 | []=>true
 | .dat .pk _::_=>false
 | _::xs=>npk xs
theorem Yq:∀{S:List Ent} {a:List DV},S.map Ent.x=a->npk a=true->∀e∈S,Lf e.x=false
 | [],_,_,_,e,he=>nomatch he
 | ⟨v,x,F⟩::S,_,h,hn,e,he=>by
  subst h
  rw[Ax] at hn
  have : Lf x=false/\npk (S.map Ent.x)=true:=by
   cases x with
   | dat m d=>cases m <;> first | exact ⟨rfl,hn⟩ | cases hn
   | _=>exact ⟨rfl,hn⟩
  rcases Ao.mp he with rfl | he
  ·exact this.1
  ·exact Yq rfl this.2 e he
def own1:Md->Bool
 | .ow=>true
 | .tp=>true
 | _=>false
section
variable{K:PySem.W.Frag}{d H:Hp}{X:Addr->Prop}{n:Nat}{E:List Ent}
theorem At.write(h:At K d X n (⟨v,.dat m (.list u),a::F⟩::E) H)(j:own1 m=true)(J:v=some (.ref a))(np:∀e∈E,Lf e.x=false)(r:RdFs K H ys es G)(s:G.Sublist F)(hz:es.length<=Az):At K d X n (⟨v,.dat m (.list es),a::G⟩::E) (upd H a (.lst ys)):=by
 obtain ⟨w,Z,rd,D,S⟩:=h.ok _ Aa
 obtain ⟨b,xs,R,W,Q,Y,T,_⟩:=rd.list_inv
 have B:a::F=b::R:=T
 cases B
 have t:=Ba.mp h.sep
 have y:a∉F:=by
  cases m with
  | ow=>exact (Bw.mp (D rfl)).1
  | tp=>exact S rfl a F rfl
  | sh=>cases j
  | pk=>cases j
 have I:a∈cells ⟨v,.dat m (.list u),a::F⟩:=by
  cases m <;> first | exact Aa | cases j
 have kp:∀{A:List Addr},a∉A->Kp A H (upd H a (.lst ys)):=λ{A} L b o q z=>by
  have : b≠a:=by
   rintro rfl
   rw[Q] at q
   cases q
   rcases z with z | z
   ·exact L z
   ·rcases z with ⟨_,z⟩ | ⟨_,_,z⟩ <;> cases z
  rw[Cp this]
  exact q
 have C:d a=none:=by
  rcases h.new _ Aa a I with z | z
  ·exact z
  ·cases z.2
 have cs:∀c∈cells ⟨v,.dat m (.list es),a::G⟩,c∈cells ⟨v,.dat m (.list u),a::F⟩:=λc g=>by
  cases m with
  | ow =>
   rcases Ao.mp g with z | z
   ·exact Ao.mpr (.inl z)
   ·exact Ao.mpr (.inr (s.subset z))
  | tp=>exact g
  | sh=>cases j
  | pk=>cases j
 have p:∀c∈a::G,c∈a::F:=λc g=>by
  rcases Ao.mp g with z | z
  ·exact Ao.mpr (.inl z)
  ·exact Ao.mpr (.inr (s.subset z))
 have i:a∉G:=λz=>y (s.subset z)
 refine ⟨λf hf=>?_,?_,λf hf=>?_,λb o O q=>?_,λb o q=>?_,λb N=>?_⟩
 ·rcases Ao.mp hf with rfl | hf
  ·refine ⟨.ref a,J,.lst Dq hz (r.kp (kp i)),λz=>?_,λz c l e=>?_⟩
   ·exact Bw.mpr ⟨i,(Bw.mp (D z)).2.sublist s⟩
   ·cases e
    exact i
  ·exact (h.ok f (Ae _ hf)).kp (kp ((t.1 f hf).1 (.inl (np f hf)) a I)) (Ar _)
 ·refine Ba.mpr ⟨λf hf=>⟨λP c g=>(t.1 f hf).1 (.inl (np f hf)) c (cs c g),λP c g z=>(t.1 f hf).2 (.inl ?_) c g (p c z)⟩,t.2⟩
  cases m <;> first | rfl | cases j
 ·rcases Ao.mp hf with rfl | hf
  ·exact λc g=>h.new _ Aa c (cs c g)
  ·exact h.new f (Ae _ hf)
 ·rw[Cp (Dm q C)]
  exact h.same b o O q
 ·rw[Cp (Dm q C)]
  exact h.dom b o q
 ·obtain ⟨z,c,k,f,U,M⟩:=h.xd b N
  refine ⟨z,c,k,f,(Cp ?_).trans U,M⟩
  rintro rfl
  exact z C
end
theorem Ia{a:Type}:∀{l:List a} {i:Nat} {x:a},l[i]? = some x->l.Perm (x::l.eraseIdx i)
 | [],i,x,h=>by simp at h
 | z::l,0,x,h=>by
  simp at h
  subst h
  exact Sx _
 | z::l,i+1,x,h=>by
  have b:=Ia (l:=l) (i:=i) (x:=x) (by simpa using h)
  rw[List.eraseIdx_cons_succ]
  exact (b.cons z).trans (Fe x z _)
theorem Ln{b:Type}{l:List b}{i:Nat}{x y:b}(h:l[i]? = some x):(l.set i y).Perm (y::l.eraseIdx i):=by
 have a:=(Af.mp h).1
 have q:=Ia (l:=l.set i y) (i:=i) (x:=y) (by rw[Fj]; simp [a])
 rw[List.eraseIdx_set_eq] at q
 exact q
theorem aZ{K:PySem.W.Frag}{t H:Hp}{X:Addr->Prop}{S T:List Ent}{b:DS}{i:Nat}{m:Md}{d es:List Ad}(g:Sl S b)(I:∀e∈T,Lf e.x=false)(w:At K t X b.n (S++T) H)(L:b.sl[i]? = some (.dat m (.list d)))(P:own1 m=true)(np:npk b.sl=true):∃a xs G,(vs S)[i]? = some (some (.ref a))/\H a=some (.lst xs)/\RdFs K H xs d G/\d.length<=Az/\∀ys h,RdFs K H ys es h->h.Sublist G->es.length<=Az->∃q,vs q=vs S/\Sl q ⟨b.sl.set i (.dat m (.list es)),b.n⟩/\At K t X b.n (q++T) (upd H a (.lst ys)):=by
 obtain ⟨f,c,B⟩:=Ge g L
 have J:f∈S:=Au c
 obtain ⟨u,x,F⟩:=f
 have k:x=.dat m (.list d):=B
 subst k
 obtain ⟨v,s,rd,_⟩:=w.ok _ (Ap _ J)
 obtain ⟨a,xs,G,rfl,D,A,M,N⟩:=rd.list_inv
 have l:F=a::G:=M
 subst l
 refine ⟨a,xs,G,by rw[Jk c]; exact congrArg some s,D,A,N,λys h r E o=>?_⟩
 have C:=Yq g np
 have z:(S++T).Perm (⟨u,.dat m (.list d),a::G⟩::(S.eraseIdx i++T)):=by
  exact (Ia c).append_right T
 have O:=(w.perm z).write (es:=es) (ys:=ys) P s (λe he=>?_) r E o
 ·refine ⟨S.set i ⟨u,.dat m (.list es),a::h⟩,?_,?_,O.perm ?_⟩
  ·unfold vs
   rw[Ea]
   apply Eu
   intro j
   rw[Fj]
   split
   ·rename_i p
    subst p
    rw[Aq,c]
    split
    ·rfl
    ·rename_i y
     rw[Ac] at y
     exact absurd (Af.mp c).1 y
   ·rfl
  ·unfold Sl at g ⊢
   rw[Ea,g]
  ·exact ((Ln c).append_right T).symm
 ·rcases Bf.mp he with he | he
  ·exact C e ((Kd S i).subset he)
  ·exact I e he
def iL(i:Nat)(c:DE):DB:=λD b=>match b.sl[i]? with
 | some (.dat _ (.list _))=>c b λy a=>match a.sl[i]?,y with
  | some (.dat m (.list ds)),.dat _ e=>own1 m=true/\npk a.sl=true/\imm e=true/\ds.length<1000000/\D.nx ⟨a.sl.set i (.dat m (.list (ds++[e]))),a.n⟩
  | _,_=>False
 | _=>False
section
variable{X:Cx}{o e:Expr}{f:DE}{d c pos:Pos}{i:Nat}
theorem fY(ho:PE X o (Tn i))(he:Ee X e f)(j:Po o "append" X.env (eval o X.env)=eval o X.env:=by rfl)
  (p:((Gr c (Bl [e] X.env)).all (λx=>!x.1) && (backToKw c (Ue [] X.env)).all (λx=>x.1.isSome)
   && decide (([e]:List Expr).length+([]:List Pq).length+(if ([]:List Pq).isEmpty then 0 else 1)<30))=true:=by rfl)
  (k:(d.endLine == c.line)=true:=by rfl) (Q:Bl [e] X.env=(false,eval e X.env)::Bl [] X.env:=by rfl) (g:(Gr c (Bl [] X.env)).any (·.1)=false:=by rfl)
  (I:Hg (.Call (.Attribute o "append" d) [e] [] c) none pos.line X.env=pure false:=by rfl) :
  iJ X (.Expr (.Call (.Attribute o "append" d) [e] [] c) pos) (iL i f):=by
 refine PS.impD (kI (sP PySem.F.plainAttrs_list PySem.F.slot_list_append PySem.F.type_list_append Us ho (Gz he Oz Q) j p k Q g) I) λD σ H h=>?_
 obtain ⟨U,Y,S,T,δ,P,rfl,L,hT,N,A,k1,k2,k3,k4⟩:=h
 unfold iL at A
 split at A
 case h_2=>exact A.elim
 rename_i m0 J E
 obtain ⟨t,C,e3⟩:=Ge L E
 have hm:t∈S:=Au C
 obtain ⟨u,x,F⟩:=t
 have B:x=.dat m0 (.list J):=e3
 subst B
 obtain ⟨v,K,rd,_⟩:=N.ok _ (Ap _ hm)
 obtain ⟨a,xs,G,rfl,ha,ra,eF,hz⟩:=rd.list_inv
 refine ⟨.ref a,by rw[Jk C]; exact congrArg some K,.inl ⟨rfl,xs,Kv.of ha⟩,U,Y,S,T,δ,_,rfl,L,N,A,λy h0 w F1 S1 H1 M e5 z l=>?_⟩
 split at l
 ·rename_i m W m' e' s
  obtain ⟨l,p2,p3,p4,p5⟩:=l
  have r:=z.told mem_mid
  obtain rfl:=r.imm p3
  obtain ⟨b,q,G1,R,g2,O,g4,g5⟩:=aZ (es:=W++[e']) e5 hT z.drop s l p2
  rw[M,Jk C] at R
  have : some (V.ref b)=some (V.ref a):=(Bo R).symm.trans K
  cases this
  obtain ⟨S2,h1,Z,h3⟩:=g5 (q++[w]) (G1++[]) (O.snoc r) (by rw[Dk]; exact Cu _) (by rw[Bz]; exact dZ (by simp; omega))
  have hl:=O.len
  refine ⟨a,q,w,rfl,rfl,g2,Bs (by omega) (dZ (n:=1000000) (Ar _)),?_⟩
  rw[<- M,<- h1]
  exact k1 ⟨_,_⟩ S2 _ Z h3 p5
 ·exact l.elim
end
def Z8(i:Nat)(c f:DE):DB:=λD d=>f d λy b=>match b.sl[i]? with
 | some (.dat _ (.list _))=>c b λz a=>match a.sl[i]?,y,z with
  | some (.dat m (.list ds)),.dat _ e,.dat _ (.int k)=>own1 m=true/\npk a.sl=true/\imm e=true/\Dl ds=true/\∃j,yF ds.length k=some j/\D.nx ⟨a.sl.set i (.dat m (.list (ds.set j e))),a.n⟩
  | _,_,_=>False
 | _=>False
theorem RdFs.setI{K:PySem.W.Frag}{H:Hp}:∀{xs:List V} {b:List Ad} {j:Nat} {v:V} {e:Ad},RdFs K H xs b []->RdF K H v e []->RdFs K H (xs.set j v) (b.set j e) []:=by
 have c:∀{xs:List V} {b:List Ad} {F:List Addr} {j:Nat} {v:V} {e:Ad},RdFs K H xs b F->F=[]->RdF K H v e []->RdFs K H (xs.set j v) (b.set j e) []:=by
  intro xs b F j v e h
  induction j generalizing xs b F with
  | zero =>
   intro d r
   cases h with
   | nil=>exact .nil
   | cons a t =>
    obtain ⟨rfl,rfl⟩:=Na.mp d
    exact RdFs.cons (F:=[]) r t
  | succ j f =>
   intro d r
   cases h with
   | nil=>exact .nil
   | cons a t =>
    obtain ⟨rfl,rfl⟩:=Na.mp d
    exact RdFs.cons (F:=[]) a (f t rfl r)
 intro xs b j v e h r
 exact c h rfl r
section
variable{X:Cx}{o d e:Expr}{f g:DE}{pos c:Pos}{i:Nat}
theorem R1(ho:PE X o (Tn i))(hk:Ee X d g)(he:Ee X e f)
  (U:∀v,Sj (.Subscript o d c) X.env v=(do
   let ov <- My [v] (eval o X.env)
   let iv <- My [v,ov] (eval d X.env)
   standAt c
   My [v,ov,iv] (setItem ov iv v)
   release [v,ov,iv] []):=by intro _; rfl)
  (hs:swapsWithSole [.Subscript o d c] e pos.line X.env=pure false:=by rfl) (hw:swappedStores [.Subscript o d c] e X.env=pure none:=by rfl)
  (h1:(Fd [.Subscript o d c] X.env).map (·.2)=[Sj (.Subscript o d c) X.env]:=by rfl):iJ X (.Assign [.Subscript o d c] e pos) (Z8 i g f):=by
 refine PS.impD (iW he (sH ho hk bK U) hs hw h1) λD σ H h=>?_
 obtain ⟨O,Y,S,T,δ,P,rfl,Z,hT,hA,hd,k1,k2,k3,k4⟩:=h
 refine ⟨O,Y,S,T,δ,_,rfl,Z,hA,hd,λy B w F1 Q H1 E R n A=>?_⟩
 split at A
 case h_2=>exact A.elim
 rename_i m0 K I
 obtain ⟨s,C,e3⟩:=Ge R I
 have hm:s∈Q:=Au C
 obtain ⟨u,x,F⟩:=s
 have t:x=.dat m0 (.list K):=e3
 subst t
 obtain ⟨v,M,rd,_⟩:=n.ok _ (Ap _ hm)
 obtain ⟨a,xs,G,rfl,U,ra,eF,hz⟩:=rd.list_inv
 refine ⟨.ref a,by rw[<- E,Jk C]; exact congrArg some M,O,Y,Q,⟨some w,y,F1⟩::T,B,_,E,R,n,A,λz h0 w2 F2 S2 H2 N e7 l L=>?_⟩
 split at L
 ·rename_i m ds m' e' h4 k q
  obtain ⟨q1,q2,q3,q4,j,q5,q6⟩:=L
  obtain ⟨rfl,_⟩:=(l.told mem_mid).int_inv
  have r:=l.told Ec
  obtain rfl:=r.imm q3
  obtain ⟨b,p,G1,W,g2,J,g4,g5⟩:=aZ (es:=ds.set j e') e7 hT l.drop2 q q1 q2
  rw[N,<- E,Jk C] at W
  have : some (V.ref b)=some (V.ref a):=(Bo W).symm.trans M
  cases this
  obtain rfl:=J.imm q4
  obtain ⟨S3,h1,h2,h3⟩:=g5 (p.set j w) [] (J.setI r) (Cu _) (by rw[List.length_set]; exact g4)
  refine ⟨a,p,k,j,rfl,rfl,g2,by rw[J.len]; exact q5,?_⟩
  rw[<- N,<- h1]
  exact k1 ⟨_,_⟩ S3 _ h2 h3 q6
 ·exact L.elim
end
def spLawD(K:PySem.W.Frag):Sp:=λc H Q _=>∃(a:Addr) (b:List Int),c=[.ref a]/\KL K H a (b.map V.int)/\b.length<=63/\∀d,Q (.bl true) d
def retL:DEnds where
 nx:=λ_=>False
 rt:=λx _=>∃m,x=.dat m (.bool true)
section
variable{P:Bp}{w:World}{K:PySem.W.Frag}{mg:Str->Option Value}{base:Heap}
theorem BW{x d B:Str}{st:Stmt}{f:Addr}{D:Cb}{N:List Str}{k:Nat}{u:DB}(F:Fun K x d st f D)(S:FnScope N [B] (Bv st))(hb:∀(g:Value) (A:Cn) (outer:List Env) (s:Am) (H:Hp) (E:XK),Room k (A.deeper (Pk d (Bv st) s.heap.objs.size f g))->Zb (Sr Gv P w K mg base N d (Bv st) f g A outer s H E).nox (Ja st) u)(h:∀ns:List Int,ns.length<=63->u retL ⟨.scr ns::Ci (N.length - 1) .un,0⟩):FnOk P w K mg base Gv (k+1) f D [B] (spLawD K):=by
 refine F.ok S (λvs H Q E z=>?_) λg A outer s H O Q E I z=>?_
 ·obtain ⟨a,ns,rfl,_⟩:=z
  rfl
 ·obtain ⟨a,ns,rfl,J,i,M⟩:=z
  refine ⟨_,hb g A outer s H E I,H,λ_=>False,⟨some (.ref a),.scr ns,[]⟩::Hr (N.length - 1),[],⟨.scr ns::Ci (N.length - 1) .un,0⟩,retL,?_,?_,λ_ z=>(nomatch z),?_,h ns i,λr t C L l p=>p.elim,λx r v y t C L l p=>?_,λ_ _ _ _ _ p=>p.elim,λ_ _ _ _ _ p=>p.elim⟩
  ·unfold vs L2.start Hr
   rw[Ax,Nf]
   rfl
  ·unfold Sl Hr
   rw[Ax,Nf]
  ·rw[Dk]
   have n:∀e∈(⟨some (.ref a),.scr ns,[]⟩::Hr (N.length - 1):List Ent),cells e=[]:=λe he=>by
    rcases Ao.mp he with rfl | he
    ·rfl
    ·rw[(Ji.mp he).2]
     rfl
   refine ⟨λe he=>?_,Qt λa j b q=>⟨λG c z=>?_,λG c z=>?_⟩,λe he a j=>?_,λb o _ e=>e,λb o e=>⟨o,e⟩,λb hb=>hb.elim⟩
   ·rcases Ao.mp he with rfl | he
    ·exact ⟨a,rfl,rfl,J,i⟩
    ·rw[(Ji.mp he).2]
     exact (rfl:([]:List Addr)=[])
   ·rw[n a j] at z; cases z
   ·rw[n b q] at z; cases z
   ·rw[n e he] at j; cases j
  ·obtain ⟨m,rfl⟩:=p
   rw[show t++[(⟨some v,.dat m (.bool true),y⟩ : Ent)]=t++⟨some v,.dat m (.bool true),y⟩::[] from rfl] at l
   obtain ⟨rfl,_⟩:=(l.told mem_mid).bl_inv
   exact M C
end
def qM(i:Nat)(dl d:DO):DE:=λc P=>match c.sl[i]? with
 | some (.scr ns)=>dl c λl a=>d a λh b=>P (.dat .ow (.list ((Ny ns l h).map Ah))) b
 | _=>False
def KU(i:Nat)(c:DE):DE:=λb P=>match b.sl[i]? with
 | some (.scr ns)=>c b λy a=>match y with
  | .dat _ (.list es)=>Dl es=true/\ns.length+es.length<=1000000/\P (.dat .ow (.list (ns.map Ah++es))) a
  | _=>False
 | _=>False
section
variable{X:Cx}{e b:Expr}{g:DE}{lo c:Option Expr}{dl f:DO}{pos d:Pos}{i:Nat}
theorem FQ{K:PySem.W.Frag}{l H:Hp}{Y:Addr->Prop}{S T:List Ent}{f:DS}{ns:List Int}(k:Sl S f)(r:At K l Y f.n (S++T) H)(c:f.sl[i]? = some (.scr ns)):∃a,(vs S)[i]? = some (some (.ref a))/\(⟨some (.ref a),.scr ns,[]⟩ : Ent)∈S/\KL K H a (ns.map V.int)/\ns.length<=63:=by
 obtain ⟨b,h,m⟩:=Ge k c
 have j:b∈S:=Au h
 obtain ⟨u,x,F⟩:=b
 have g:x=.scr ns:=m
 subst g
 obtain ⟨a,o,p,q⟩:=r.ok _ (Ap _ j)
 have e:u=some (.ref a):=o
 have d:F=[]:=p
 subst e d
 exact ⟨a,by rw[Jk h],j,q⟩
theorem zD(M:PE X e (Tn i))(hl:GJ X lo dl)(z:GJ X c f):Ee X (.Subscript e (.Slice lo c none d) pos) (qM i dl f):=by
 refine PE.imp (oF (r:=EN X.K) S8 M hl z) λR H Q h=>?_
 obtain ⟨m,Y,S,T,y,P,rfl,w,x,j,k⟩:=h
 unfold qM at j
 split at j
 case h_2=>exact j.elim
 rename_i b s
 obtain ⟨a,L,N,Z,I⟩:=FQ w x s
 have q:At X.K m Y y.n (S++⟨some (.ref a),.scr b,[]⟩::T) H:=(At.view1 x (Ap _ N)).tomid
 refine ⟨.ref a,L,m,Y,S,⟨some (.ref a),.scr b,[]⟩::T,y,_,rfl,w,q,j,λl t E H2 G J o d=>?_⟩
 refine ⟨m,Y,E,⟨some (.ref a),.scr b,[]⟩::T,t,_,G,J,o,d,λh v D U F A g C=>?_⟩
 obtain ⟨W,O,_,u,_⟩:=g.ok _ mem_mid
 cases O
 refine ⟨a,_,rfl,u.sq,λp B=>?_⟩
 have : bG (b.map V.int) l h=(Ny b l h).map V.int:=by
  rw[<- oJ]; rfl
 rw[this]
 refine k _ v _ _ D _ F A (g.drop.newI (RdFs.ints _) (Px _) ?_ B .ow) C
 rw[Ac]
 have l1:=(Wx b l h).length_le
 exact sz (by omega)
end
def Qo(p:Nat)(f:DT)(i:DE)(g:DS)(d:Ad->Nat->Prop)(h:Nat->Prop):Prop:=f g λb a=>match b with
 | true=>i a λy c=>match y with
  | .dat _ e=>imm e=true/\c.sl[p]? = some .drw/\d e c.n
  | _=>False
 | false=>a.sl[p]? = some .drw/\h a.n
def jO(g:DI)(js1:List Nat)(j0:Nat)(js2:List Nat)(h:DT)(k:DE):DE:=λj P=>g j λm f b=>b.sl[j0]? = some .drw/\∃I:Nat->List Ad->Nat->Prop,I 0 [] b.n /\
 (∀i d a n,f[i]? = some d->I i a n->Qo (js1.length+1) h k ⟨.dat m d::(frD (b.sl.set j0 .un) js1++.drw::frD (b.sl.set j0 .un) js2),n⟩ (λe c=>I (i+1) (a++[e]) c) (λc=>I (i+1) a c)) /\
 ∀a n,I f.length a n->P (.dat .ow (.list a)) ⟨b.sl,n⟩
section
variable{K:PySem.W.Frag}{a H H':Hp}{Y:Addr->Prop}{n n':Nat}{E S T:List Ent}
theorem At.re(h:At K a Y n E H)(ok:∀e∈E,Ho K H' n' e)(s:∀b o,¬ Y b->a b=some o->H' b=some o)(d:∀b o,a b=some o->∃i,H' b=some i)(g:∀b,Y b->a b≠none/\∃c k f,cT H' b c k f/\0<=k/\k<=(n':Int)):At K a Y n' E H':=⟨ok,h.sep,h.new,s,d,g⟩
theorem E9{g:List Ent}{o:DS}{p:Nat}{b:Addr}(v:At K a Y n E H)(w:∀e∈g,e∈E)(q:Sl g o)(r:o.sl[p]? = some .drw)(l:(vs g)[p]? = some (some (.ref b))):Ho K H n ⟨some (.ref b),.drw,[b]⟩:=by
 obtain ⟨d,m,t⟩:=Ge q r
 have y:d∈g:=Au m
 rw[Jk m] at l
 obtain ⟨u,x,F⟩:=d
 have j:x=.drw:=t
 subst j
 have s:u=some (.ref b):=Bo l
 subst s
 obtain ⟨i,c,k,f,A,B,z⟩:=v.ok _ (w _ y)
 have h:some (V.ref b)=some (V.ref i):=A
 cases h
 exact ⟨b,c,k,f,rfl,rfl,z⟩
theorem h9{p:Nat}{k:Addr}{t:DT}{C:DE}{l:DS}{j:Ad->Nat->Prop}{u:Nat->Prop}{D:Addr}{d:List Ad}{A:Hp->Prop}{z:VK}(E:Sl S l)(L:At K a Y l.n (S++⟨some (.ref D),.acc d,[D]⟩::T) H)(w:(vs S)[p]? = some (some (.ref k)))(h:Qo p t C l j u)(k1:∀n' H',At K a Y n' (⟨some (.ref D),.acc d,[D]⟩::T) H'->Ho K H' n' ⟨some (.ref k),.drw,[k]⟩->u n'->A H')(k2:∀e n' v H',At K a Y n' (⟨some (.ref D),.acc d,[D]⟩::T) H'->Ho K H' n' ⟨some (.ref k),.drw,[k]⟩->RdF K H' v e []->j e n'->z v H'):LT K t (vs S) H λc s=>if c=true then LE K C (vs S) s z else A s:=by
 refine ⟨a,Y,S,⟨some (.ref D),.acc d,[D]⟩::T,l,_,rfl,E,L,h,λb m G s B x f q=>?_⟩
 cases b with
 | false=>exact qF (k1 _ _ (f.sub (Cf _ _)) (E9 f (λe o=>Ap _ o) x q.1 (by rw[B]; exact w)) q.2)
 | true =>
  refine qE ⟨a,Y,G,⟨some (.ref D),.acc d,[D]⟩::T,m,_,B,x,f,q,λy M v F O N I J g i=>?_⟩
  split at i
  ·have r:=g.told mem_mid
   obtain rfl:=r.imm i.1
   exact k2 _ _ _ _ (g.drop.sub (Cf _ _)) (E9 g (λe o=>Ap _ o) J i.2.1 (by rw[I]; exact w)) r i.2.2
  ·exact i.elim
theorem lG:∀σ H Q,LE K (jO di js1 j0 js2 dc de) σ H Q->tE (LI K di) (js1++j0::js2) (LT K dc) (LE K de) σ H Q:=by
 intro σ H Q h
 obtain ⟨a,Y,S,T,δ,P,rfl,hS,hA,hd,k⟩:=h
 refine ⟨a,Y,S,T,δ,_,rfl,hS,hA,hd,λm w r J g f H1 e1 e2 h4 it hz p1=>?_⟩
 obtain ⟨hj,I,h0,hs,hf⟩:=p1
 rw[<- e1]
 obtain ⟨h5,N,s2⟩:=Ge e2 hj
 have k3:h5∈f:=Au N
 obtain ⟨u,x,F0⟩:=h5
 have k1:x=.drw:=s2
 subst k1
 obtain ⟨b,_,_,_,k2,h6,_⟩:=h4.ok _ (Ap _ k3)
 have X:u=some (.ref b):=k2
 have W:F0=[b]:=h6
 subst X W
 intro D hD
 refine ⟨λi q H=>q=w.length - i/\i<=w.length/\∃c n,At K a Y n (⟨some (.ref D),.acc c,[D]⟩::(f++(g++T))) H/\c.length<=i/\I i c n,⟨w.length,by simp,Dg _,[],r.n,h4.accNew hD,Ar _,h0⟩,?_⟩
 (intro i q H q_; obtain ⟨rfl,hi,c,n,t,hl,hI⟩ := q_)
 have l:∀e∈g,Ho K H n e:=λe he=>t.ok e (Ae _ (Aw _ (Ap _ he)))
 by_cases s:i<w.length
 ·refine .inr ⟨it.go H n i l s,λx H' y=>?_⟩
  obtain ⟨k5,d,F,h1,h2,h3⟩:=it.yld H n i x H' l s y
  have G:At K a Y n ((⟨some (.ref D),.acc c,[D]⟩::f)++⟨some x,.dat m d,F⟩::(g++T)) H':=At.item (S:=⟨some (.ref D),.acc c,[D]⟩::f) t k5 h2 h3 it.md it.hd it.np
  -- the draws are taken out of their slot
  have E:At K a Y n (⟨some (.ref b),.drw,[b]⟩::⟨some x,.dat m d,F⟩::⟨some (.ref D),.acc c,[D]⟩::(f.set j0 ⟨some (.ref b),.un,[]⟩++(g++T))) H':=by
   have q:=G.mid.blank (v:=some (.ref b))
   refine q.perm ?_
   have pS:(⟨some (.ref b),.un,[]⟩::f:List Ent).Perm (⟨some (.ref b),.drw,[b]⟩::f.set j0 ⟨some (.ref b),.un,[]⟩):=Xo N
   have p2:=pS.append_right (g++T)
   -- un::x::D::f.. ~ x::D::un::f..
   have a1:((⟨some (.ref b),.un,[]⟩ : Ent)::⟨some x,.dat m d,F⟩::((⟨some (.ref D),.acc c,[D]⟩::f)++(g++T))).Perm (⟨some x,.dat m d,F⟩::⟨some (.ref D),.acc c,[D]⟩::⟨some (.ref b),.un,[]⟩::(f++(g++T))) :=
    (Fe _ _ _).trans ((Fe _ _ _).cons _)
   have a2:((⟨some x,.dat m d,F⟩ : Ent)::⟨some (.ref D),.acc c,[D]⟩::⟨some (.ref b),.drw,[b]⟩::(f.set j0 ⟨some (.ref b),.un,[]⟩++(g++T))).Perm (⟨some (.ref b),.drw,[b]⟩::⟨some x,.dat m d,F⟩::⟨some (.ref D),.acc c,[D]⟩::(f.set j0 ⟨some (.ref b),.un,[]⟩++(g++T))) :=
    ((Fe _ _ _).cons _).trans (Fe _ _ _)
   exact a1.trans (((p2.cons _).cons _).trans a2)
  have V:Sl (f.set j0 ⟨some (.ref b),.un,[]⟩) ⟨r.sl.set j0 .un,n⟩:=pY e2
  have vS:vs (f.set j0 ⟨some (.ref b),.un,[]⟩)=vs f:=by
   rw[rB]
   apply Eu
   intro j
   rw[Fj]
   split
   ·rename_i k7
    subst k7
    rw[Jk N]
    split
    ·rfl
    ·rename_i B
     unfold vs at B
     rw[Ac] at B
     exact absurd (Af.mp N).1 B
   ·rfl
  have z:∀e∈f.set j0 ⟨some (.ref b),.un,[]⟩,e∈(⟨some (.ref b),.drw,[b]⟩::⟨some x,.dat m d,F⟩::⟨some (.ref D),.acc c,[D]⟩::(f.set j0 ⟨some (.ref b),.un,[]⟩++(g++T)):List Ent):=λe he=>Ae _ (Ae _ (Ae _ (Ap _ he)))
  have h8:=At.view (S:=f.set j0 ⟨some (.ref b),.un,[]⟩) E z js2
  have Z:=At.view (S:=f.set j0 ⟨some (.ref b),.un,[]⟩) h8 (λe he=>Aw _ (z e he)) js1
  have k0:At K a Y n ((⟨some x,.dat m d,F⟩::(aT (f.set j0 ⟨some (.ref b),.un,[]⟩) js1++⟨some (.ref b),.drw,[b]⟩::aT (f.set j0 ⟨some (.ref b),.un,[]⟩) js2))++⟨some (.ref D),.acc c,[D]⟩::(f.set j0 ⟨some (.ref b),.un,[]⟩++(g++T))) H':=by
   refine Z.perm ?_
   generalize aT (f.set j0 ⟨some (.ref b),.un,[]⟩) js1=A1
   generalize aT (f.set j0 ⟨some (.ref b),.un,[]⟩) js2=A2
   generalize (⟨some (.ref D),.acc c,[D]⟩::(f.set j0 ⟨some (.ref b),.un,[]⟩++(g++T)):List Ent)=R
   have b1:(A2++((⟨some (.ref b),.drw,[b]⟩ : Ent)::⟨some x,.dat m d,F⟩::R)).Perm ((⟨some x,.dat m d,F⟩ : Ent)::⟨some (.ref b),.drw,[b]⟩::(A2++R)) :=
    (Gj.trans ((Gj).cons _)).trans (Fe _ _ _)
   have b2:=b1.append_left A1
   refine b2.trans (Gj.trans ?_)
   rw[Ez,Df,Ez]
  have k6:Sl (⟨some x,.dat m d,F⟩::(aT (f.set j0 ⟨some (.ref b),.un,[]⟩) js1++⟨some (.ref b),.drw,[b]⟩::aT (f.set j0 ⟨some (.ref b),.un,[]⟩) js2)) ⟨.dat m d::(frD (r.sl.set j0 .un) js1++.drw::frD (r.sl.set j0 .un) js2),n⟩:=by
   unfold Sl
   rw[Ax,Bg,Ax,uZ V,uZ V]
  have hv:vs (⟨some x,.dat m d,F⟩::(aT (f.set j0 ⟨some (.ref b),.un,[]⟩) js1++⟨some (.ref b),.drw,[b]⟩::aT (f.set j0 ⟨some (.ref b),.un,[]⟩) js2))=some x::Io (vs f) (js1++j0::js2):=by
   have f1:=tZ (f.set j0 ⟨some (.ref b),.un,[]⟩) js1
   have f2:=tZ (f.set j0 ⟨some (.ref b),.un,[]⟩) js2
   rw[vS] at f1 f2
   unfold vs at f1 f2 ⊢
   rw[Ax,Bg,Ax,f1,f2]
   unfold Io
   rw[Bg,Ax,Aq,N]
   rfl
  have h7:(vs (⟨some x,.dat m d,F⟩::(aT (f.set j0 ⟨some (.ref b),.un,[]⟩) js1++⟨some (.ref b),.drw,[b]⟩::aT (f.set j0 ⟨some (.ref b),.un,[]⟩) js2)))[js1.length+1]? = some (some (.ref b)):=by
   unfold vs
   rw[Ax,List.getElem?_cons_succ,Bg,Kt (by rw[Ac]; unfold aT; rw[Ac]; exact Ar _)]
   rw[Ac]
   unfold aT
   rw[Ac,Nat.sub_self]
   rfl
  -- o to the outer names
  have o:∀{n':Nat} {A:Hp},At K a Y n' (⟨some (.ref D),.acc c,[D]⟩::(f.set j0 ⟨some (.ref b),.un,[]⟩++(g++T))) A->Ho K A n' ⟨some (.ref b),.drw,[b]⟩->At K a Y n' (⟨some (.ref D),.acc c,[D]⟩::(f++(g++T))) A:=λ{n' A} O k4=>by
   refine t.re (λe he=>?_) O.same O.dom O.xd
   rcases Ao.mp he with rfl | he
   ·exact O.ok _ Aa
   ·rcases Bf.mp he with he | he
    ·obtain ⟨j,C⟩:=List.getElem?_of_mem he
     by_cases U:j=j0
     ·subst U
      rw[N] at C
      cases C
      exact k4
     ·refine O.ok e (Ae _ (Ap _ (Au (i:=j) ?_)))
      rw[On (Li U)]
      exact C
    ·exact O.ok e (Ae _ (Aw _ he))
  refine ⟨λA=>∃m',m'<w.length - i/\_,λy H3=>∃c,H3 D=some (.lst c)/\c.length<Az/\∃m',m'<w.length - i/\_,λA q=>q,λy H3 q=>q,?_⟩
  rw[<- hv]
  refine h9 k6 k0 h7 (hs i d c n h1 hI) (λn' A L M p=>?_) (λe n' v A L M r7 p=>?_)
  ·exact ⟨w.length - (i+1),by omega,rfl,s,c,n',o L M,by omega,p⟩
  ·obtain ⟨xs,g1,g2,g3⟩:=(o L M).accPut r7 (by omega)
   exact ⟨xs,g1,by omega,w.length - (i+1),by omega,rfl,s,c++[e],n',g3,by rw[Bz]; simp; omega,p⟩
 ·have e:i=w.length:=by omega
  subst e
  refine .inl ⟨it.stop H n l,k _ ⟨r.sl,n⟩ _ [D] f H e1 e2 ?_ (hf c n hI)⟩
  have G:=t.accGet
  have E:At K a Y n (⟨some (.ref D),.dat .ow (.list c),[D]⟩::(f++T)) H:=G.sub (((Cu f).append (Cf g T)).cons₂ _)
  exact E.tomid
end
section
variable{X:Cx}{e b c:Expr}{x k:Str}{h m pos f:Pos}{i0:Nat}{d:List Expr}{a:Scope}{g:List (Str×Addr)}{ys:List Str}{js1 js2:List Nat}{j0:Nat}{i:DI}{j:DT}{l:DE}
theorem mF(C:CompScope X a g x ys (js1++j0::js2))(k:X.calm=true)(n:vF X (.Name x h) b i)(m:∀fp s H,iR (Ed X a g (x::ys) fp s H) d (LT X.K j))(c:∀fp s H,Ee (Ed X a g (x::ys) fp s H) e l)(f:∀x,Cz b X.env x=pure x:=by intro _; rfl):Ee X (.ListComp e [⟨.Name x h,b,d,0⟩] a pos) (jO i js1 j0 js2 j l):=PE.imp (iI C k n m c f) lG
theorem lV{o:Bool}(q:X.N.Nodup)(n:X.N[i0]? = some k)(c:X.env.scope.names.lookup k=some .local)(C:CompScope X a g x ys (js1++j0::js2))(u:X.calm=true)(w:vF X (.Name x h) b i)(v:∀fp s H,iR (Ed X a g (x::ys) fp s H) d (LT X.K j))(t:∀fp s H,Ee (Ed X a g (x::ys) fp s H) e l)(r:∀x,Cz b X.env x=pure x:=by intro _; rfl)(p:Hg (.ListComp e [⟨.Name x h,b,d,0⟩] a pos) (some (.Name k m)) f.line X.env=pure true:=by rfl):iJ X (.Assign [.Name k m] (.ListComp e [⟨.Name x h,b,d,0⟩] a pos) f) (iY (jO i js1 j0 js2 j l) (GM o i0)):=PS.impD (sR q n c C u w v t r p) (Vy lG O9)
end
def JL(i j:Int):Prop:=0<=j/\(Builtin.Int.intBits i:Int) * j<=2 ^ 27
theorem W3:Wk X (Iw .Pow) (rI JL λi j=>.int (i ^ j.toNat)):=GD λ_ _ _ _ _ _ _ a q=>pow_int a.1 a.2 q
def rX:DF:=λa n R=>a=[]/\n<=100000/\∀r:Int,R (.int r) (n+1)
theorem Q7{P:Bp}{w:World}{K:PySem.W.Frag}{mg:Str->Option Value}{base:Heap}{k:Nat}{f:Addr}{l:Cb}{ps:List Str}(F:FnOk P w K mg base Gv k f l ps zK):FnOk P w K mg base Gv k f l ps (JZ K rX):=by
 refine F.imp λD H Q E h=>?_
 obtain ⟨u,i,o,n,B,R,rfl,t,ok,I,⟨c,g,j,a,p,G⟩,q,m,y⟩:=h
 obtain ⟨rfl,C,A⟩:=m
 have d:o=[]:=by
  have:=Je q
  rw[Ac] at this
  exact Mh.mp this
 subst d
 have b:i=[]:=by
  cases i with
  | nil=>rfl
  | cons _ _=>cases t
 subst b
 refine ⟨u,c,g,j,rfl,a,p,by omega,λr v x e s=>?_⟩
 exact y (.int r) (.int r) [] (n+1) x (by omega) (A r) (.int r) Dt (λ_ z=>(nomatch z)) ⟨v,g+1,j,e,by omega,by omega⟩ s
def mmd:Md->Md->Md
 | .ow,.ow=>.ow
 | _,_=>.tp
section
variable{K:PySem.W.Frag}{d H:Hp}{X:Addr->Prop}{n:Nat}{E:List Ent}
theorem At.merge(h:At K d X n (⟨v,.dat m (.list I),a::F⟩::⟨some w,.dat g e,p⟩::E) H)(L:own1 m=true)(hy:g≠.pk)(Z:v=some (.ref a))(np:∀e∈E,Lf e.x=false)(r:RdFs K H ys es G)(S:∀c∈G,c∈F\/c∈p)(W:(F++p).Nodup->G.Nodup)(hz:es.length<=Az):At K d X n (⟨v,.dat (mmd m g) (.list es),a::G⟩::E) (upd H a (.lst ys)):=by
 obtain ⟨w1,e1,rd,Y,ht⟩:=h.ok _ Aa
 obtain ⟨w2,h3,h4,M,h0⟩:=h.ok _ (Ae _ Aa)
 obtain ⟨b,xs,G0,e2,ha,ra,eF,_⟩:=rd.list_inv
 have P:a::F=b::G0:=eF
 cases P
 have u:=Ba.mp h.sep
 have s:=Ba.mp u.2
 have B:=u.1 _ Aa
 have t:Lf (DV.dat g e)=false:=by cases g <;> first | rfl | exact absurd rfl hy
 have D:Lf (DV.dat m (.list I))=false:=by cases m <;> first | rfl | cases L
 have N:a∉F:=by
  cases m with
  | ow=>exact (Bw.mp (Y rfl)).1
  | tp=>exact ht rfl a F rfl
  | sh=>cases L
  | pk=>cases L
 have C:a∈cells ⟨v,.dat m (.list I),a::F⟩:=by
  cases m <;> first | exact Aa | cases L
 have Q:a∉p:=B.1 (.inl t) a C
 have j:a∉G:=λz=>(S a z).elim N Q
 have kp:∀{O:List Addr},a∉O->Kp O H (upd H a (.lst ys)):=λ{O} hF b o q z=>by
  have : b≠a:=by
   rintro rfl
   rw[ha] at q
   cases q
   rcases z with z | z
   ·exact hF z
   ·rcases z with ⟨_,z⟩ | ⟨_,_,z⟩ <;> cases z
  rw[Cp this]
  exact q
 have R:d a=none:=by
  rcases h.new _ Aa a C with z | z
  ·exact z
  ·cases z.2
 have cs:∀c∈cells ⟨v,.dat (mmd m g) (.list es),a::G⟩,c∈cells ⟨v,.dat m (.list I),a::F⟩\/c∈cells ⟨some w,.dat g e,p⟩:=λc i=>by
  by_cases J:m=.ow/\g=.ow
  ·obtain ⟨rfl,rfl⟩:=J
   rcases Ao.mp (show c∈a::G from i) with z | z
   ·rw[z]; exact .inl C
   ·rcases S c z with z | z
    ·exact .inl (Ae _ z)
    ·exact .inr z
  ·have U:c∈[a]:=by
    cases m <;> cases g <;> first | exact i | exact absurd ⟨rfl,rfl⟩ J
   rw[Ak.mp U]; exact .inl C
 refine ⟨λf hf=>?_,?_,λf hf=>?_,λb o nx q=>?_,λb o q=>?_,λb hb=>?_⟩
 ·rcases Ao.mp hf with rfl | hf
  ·refine ⟨.ref a,Z,.lst Dq hz (r.kp (kp j)),λz=>?_,λz c l e=>?_⟩
   ·have J:m=.ow/\g=.ow:=by
     cases m <;> cases g <;> first | exact ⟨rfl,rfl⟩ | cases z
    obtain ⟨rfl,rfl⟩:=J
    refine Bw.mpr ⟨j,W (Gy.mpr ⟨(Bw.mp (Y rfl)).2,M rfl,λx hx y T e=>?_⟩)⟩
    subst e
    exact B.1 (.inl t) x (Ae _ hx) T
   ·cases e
    exact j
  ·have A:=Ae (⟨some w,.dat g e,p⟩ : Ent) hf
   exact (h.ok f (Ae _ A)).kp (kp ((u.1 f A).1 (.inl (np f hf)) a C)) (Ar _)
 ·refine Ba.mpr ⟨λf hf=>?_,s.2⟩
  have A:=Ae (⟨some w,.dat g e,p⟩ : Ent) hf
  refine ⟨λhq c i=>?_,λhq c i z=>?_⟩
  ·rcases cs c i with z | z
   ·exact (u.1 f A).1 (.inl (np f hf)) c z
   ·exact (s.1 f hf).1 (.inl (np f hf)) c z
  ·rcases Ao.mp z with z | z
   ·exact (u.1 f A).2 (.inl D) c i (by rw[z]; exact Aa)
   ·rcases S c z with z | z
    ·exact (u.1 f A).2 (.inl D) c i (Ae _ z)
    ·exact (s.1 f hf).2 (.inl t) c i z
 ·rcases Ao.mp hf with rfl | hf
  ·intro c i
   rcases cs c i with z | z
   ·rcases h.new _ Aa c z with z | z
    ·exact .inl z
    ·cases z.2
   ·rcases h.new _ (Ae _ Aa) c z with z | z
    ·exact .inl z
    ·cases z.2
  ·exact h.new f (Ae _ (Ae _ hf))
 ·rw[Cp (Dm q R)]
  exact h.same b o nx q
 ·rw[Cp (Dm q R)]
  exact h.dom b o q
 ·obtain ⟨z,c,k,f,h1,h2⟩:=h.xd b hb
  refine ⟨z,c,k,f,(Cp ?_).trans h1,h2⟩
  rintro rfl
  exact z R
end
theorem qA{K:PySem.W.Frag}{B H:Hp}{X:Addr->Prop}{S T:List Ent}{d:DS}{i:Nat}{m h:Md}{b:List Ad}{e:Ad}{w:V}{k:List Addr}(o:Sl S d)(O:∀e∈T,Lf e.x=false)(r:At K B X d.n (S++⟨some w,.dat h e,k⟩::T) H)(Q:d.sl[i]? = some (.dat m (.list b)))(Y:own1 m=true)(E:h≠.pk)(np:npk d.sl=true)(hl:b.length<1000000):∃a xs,(vs S)[i]? = some (some (.ref a))/\H a=some (.lst xs)/\xs.length=b.length/\∃y,vs y=vs S/\Sl y ⟨d.sl.set i (.dat (mmd m h) (.list (b++[e]))),d.n⟩/\At K B X d.n (y++T) (upd H a (.lst (xs++[w]))):=by
 obtain ⟨l,g,J⟩:=Ge o Q
 have P:l∈S:=Au g
 obtain ⟨u,x,F⟩:=l
 have p:x=.dat m (.list b):=J
 subst p
 obtain ⟨v,A,rd,_⟩:=r.ok _ (Ap _ P)
 obtain ⟨a,xs,G,rfl,M,C,R,Z⟩:=rd.list_inv
 have q:F=a::G:=R
 subst q
 have t:=r.told mem_mid
 refine ⟨a,xs,by rw[Jk g]; exact congrArg some A,M,C.len,?_⟩
 have L:=Yq o np
 have I:(S++⟨some w,.dat h e,k⟩::T).Perm (⟨u,.dat m (.list b),a::G⟩::⟨some w,.dat h e,k⟩::(S.eraseIdx i++T)):=by
  refine ((Ia g).append_right _).trans ?_
  rw[Ez]
  exact List.Perm.cons _ Gj
 have U:=(r.perm I).merge (es:=b++[e]) (ys:=xs++[w]) (G:=G++k) Y E A (λf hf=>?_) (C.snoc t) (λc N=>Bf.mp N) (λz=>z) (by rw[Bz]; exact dZ (by simp; omega))
 ·refine ⟨S.set i ⟨u,.dat (mmd m h) (.list (b++[e])),a::(G++k)⟩,?_,?_,U.perm ?_⟩
  ·unfold vs
   rw[Ea]
   apply Eu
   intro j
   rw[Fj]
   split
   ·rename_i s
    subst s
    rw[Aq,g]
    split
    ·rfl
    ·rename_i D
     rw[Ac] at D
     exact absurd (Af.mp g).1 D
   ·rfl
  ·unfold Sl at o ⊢
   rw[Ea,o]
  ·exact ((Ln g).append_right T).symm
 ·rcases Bf.mp hf with hf | hf
  ·exact L f ((Kd S i).subset hf)
  ·exact O f hf
def appOB(i:Nat)(y:DV)(a:DS)(D:DEnds):Prop:=match a.sl[i]?,y with
 | some (.dat m (.list ds)),.dat my e=>own1 m=true/\npk a.sl=true/\my≠.pk/\ds.length<1000000/\D.nx ⟨a.sl.set i (.dat (mmd m my) (.list (ds++[e]))),a.n⟩
 | _,_=>False
def bT(i:Nat)(c:DE):DB:=λD b=>match b.sl[i]? with
 | some (.dat _ (.list _))=>c b λy a=>appOB i y a D
 | _=>False
section
variable{X:Cx}{o e:Expr}{f:DE}{d c pos:Pos}{i:Nat}
theorem rK(ho:PE X o (Tn i))(he:Ee X e f)(j:Po o "append" X.env (eval o X.env)=eval o X.env:=by rfl)
  (p:((Gr c (Bl [e] X.env)).all (λx=>!x.1) && (backToKw c (Ue [] X.env)).all (λx=>x.1.isSome)
   && decide (([e]:List Expr).length+([]:List Pq).length+(if ([]:List Pq).isEmpty then 0 else 1)<30))=true:=by rfl)
  (k:(d.endLine == c.line)=true:=by rfl) (N:Bl [e] X.env=(false,eval e X.env)::Bl [] X.env:=by rfl) (g:(Gr c (Bl [] X.env)).any (·.1)=false:=by rfl)
  (B:Hg (.Call (.Attribute o "append" d) [e] [] c) none pos.line X.env=pure false:=by rfl) :
  iJ X (.Expr (.Call (.Attribute o "append" d) [e] [] c) pos) (bT i f):=by
 refine PS.impD (kI (sP PySem.F.plainAttrs_list PySem.F.slot_list_append PySem.F.type_list_append Us ho (Gz he Oz N) j p k N g) B) λD σ H h=>?_
 obtain ⟨Q,Y,S,T,δ,P,rfl,K,hT,M,s,k1,k2,k3,k4⟩:=h
 unfold bT at s
 split at s
 case h_2=>exact s.elim
 rename_i m0 C A
 obtain ⟨r,z,e3⟩:=Ge K A
 have hm:r∈S:=Au z
 obtain ⟨u,x,F⟩:=r
 have t:x=.dat m0 (.list C):=e3
 subst t
 obtain ⟨v,J,rd,_⟩:=M.ok _ (Ap _ hm)
 obtain ⟨a,xs,G,rfl,ha,ra,eF,hz⟩:=rd.list_inv
 refine ⟨.ref a,by rw[Jk z]; exact congrArg some J,.inl ⟨rfl,xs,Kv.of ha⟩,Q,Y,S,T,δ,_,rfl,K,M,s,λy W w F1 S1 H1 L e5 I l=>?_⟩
 unfold appOB at l
 split at l
 ·rename_i m ds my e' q
  obtain ⟨l,p2,U,p4,p5⟩:=l
  obtain ⟨b,E,O,g2,g3,Z,h1,R,h3⟩:=qA e5 hT I q l U p2 p4
  rw[L,Jk z] at O
  have : some (V.ref b)=some (V.ref a):=(Bo O).symm.trans J
  cases this
  refine ⟨a,E,w,rfl,rfl,g2,Bs (by omega) (dZ (n:=1000000) (Ar _)),?_⟩
  rw[<- L,<- h1]
  exact k1 ⟨_,_⟩ Z _ R h3 p5
 ·exact l.elim
end
end DL
namespace Nd
open PySem PySem.Spec PyProof.Rows L2
end Nd
namespace DL
open PySem PySem.Spec PyProof.Rows L2 Nd
section
variable{X:Cx}
theorem u6(xs:Array Value):slicePick xs none none (some 1)=xs:=slicePick_all xs
theorem E5(P:PE X e D)(N:PE X k J):PE X (.Subscript e (.Slice none none (some k) F) pos) (λg H Q=>D g H λx n=>J g n λy m=>∃a xs k,x=.ref a/\y=.int k/\Kv X.K m a xs/\(k=1\/k = -1)/\∀p,m p=none->Q (.ref p) (upd m p (.lst (if k=1 then xs else xs.reverse)))):=by
 intro c s g H Q I h
 refine Sk (Il (P c s g H _ I h) λv V i => ?_)
 obtain ⟨x,n,Y,U,u⟩ := i
 refine wpAny_Slice ?_
 rw[dU]
 refine An (An ?_)
 rw[evalPart_some]
 refine Il (N c V g n _ Y u) λZ d i => ?_
 obtain ⟨y,m,W,R,a,xs,B,S,O,M,j,q⟩ := i
 subst S O
 cases U
 obtain ⟨t,rfl⟩:=R
 have l:Inv X c g m { d with heap:=d.heap.push { cls:=.type "slice",data:=.fields #[.none,.none,.int B t] } }:=W.kept (t':=d.toks) λb E q=>Ai _ q
 obtain ⟨f,r,G,L⟩:=l.list M
 have C:=r.length
 show wpAny (model X.prog X.w) X.A (Ux e (.Slice none none (some k) F) (.ref a) (.ref d.heap.objs.size)) (EP X c g Q) X.xe { d with heap:=d.heap.push { cls:=.type "slice",data:=.fields #[.none,.none,.int B t] } }
 refine tail_any (ops:=[.ref a,.ref d.heap.objs.size]) (T := "list") G.isList.typeIs Uc.lookup (Uw G.isList (Sv ..) .none .none (.int B t) (by rcases j with rfl | rfl <;> simp) ?_ (by rw[Av] <;> omega)) (by with_unfolding_all rfl)
 rcases j with rfl | rfl
 ·rw[u6]
  rw[if_pos rfl] at q
  exact ⟨.ref _,_,l.laid (o:=.lst xs) (t':=d.toks) (λb E q=>Ai _ q) (Ar _) ⟨L,f,0,r,by
   have z:=Be (d.heap.push { cls:=.type "slice",data:=.fields #[.none,.none,.int 1 t] }) (o:={ cls:=.type "list",data:=.seq f.toArray }) rfl
   simpa using z⟩,rfl,q _ (l.hok.fresh (Ar _))⟩
 ·rw[mS]
  rw[if_neg (by decide)] at q
  exact ⟨.ref _,_,l.laid (o:=.lst xs.reverse) (t':=d.toks) (λb E q=>Ai _ q) (Ar _) ⟨by rw[Iy]; exact L,f.reverse,0,r.reverse,by
   have z:=Be (d.heap.push { cls:=.type "slice",data:=.fields #[.none,.none,.int (-1) t] }) (o:={ cls:=.type "list",data:=.seq f.toArray.toList.reverse.toArray }) rfl
   simpa using z⟩,rfl,q _ (l.hok.fresh (Ar _))⟩
end
section
variable{K:PySem.W.Frag}{g H:Hp}{X:Addr->Prop}{n:Nat}{S T:List Ent}{v w:V}{m:Md}{d e:Ad}{F G:List Addr}{p:Addr}{xs:List V}{b:List Ad}{P:DV->Prop}{i:Bool}
theorem At.newLP(h:At K g X n (S++⟨some v,.dat m d,F⟩::T) H)(r:RdFs K H xs b G)(x:∀c∈G,c∈F)(t:F.Nodup->G.Nodup)(hz:b.length<=Az)(o:H p=none)(q:Xf i m b P):∃z C,At K g X n (S++⟨some (.ref p),z,C⟩::T) (upd H p (.lst xs))/\P z:=by
 cases i with
 | true=>exact ⟨_,_,h.drop.newI r q.1 hz o .ow,q.2⟩
 | false =>
  have q:P (.dat (Xa m) (.list b)):=q
  refine ⟨_,p::G,?_,q⟩
  have y:=Gi o (.lst xs)
  have k:=h.mid
  have A:=Ba.mp k.sep
  obtain ⟨J,I,_,D,_⟩:=k.ok _ Aa
  have E:=h.drop.grow (n':=n) y (Ar _)
  have u:p∉F:=k.free o _ Aa
  have s:p∉G:=λz=>u (x _ z)
  have cs:∀a∈cells ⟨some (.ref p),.dat (Xa m) (.list b),p::G⟩,a=p\/(a∈cells ⟨some v,.dat m d,F⟩):=λa j=>by
   cases m with
   | ow =>
    rcases Ao.mp j with z | z
    ·exact .inl z
    ·exact .inr (x _ z)
   | tp=>exact .inl (Ak.mp j)
   | sh=>exact .inl (Ak.mp j)
   | pk=>exact nomatch j
  refine (E.push (e:=⟨some (.ref p),.dat (Xa m) (.list b),p::G⟩) ⟨_,rfl,.lst Dq hz (r.kp (Kp.of y)),λz=>?_,λz a l e=>?_⟩ (λf w=>?_) λa j=>?_).tomid
  ·cases m with
   | ow=>exact Bw.mpr ⟨s,t (D rfl)⟩
   | _=>cases z
  ·cases e
   exact s
  ·have B:=k.free o f (Ae _ w)
   refine ⟨λhq a j z=>?_,λhq a j z=>?_⟩
   ·rcases cs a j with rfl | hc
    ·exact B z
    ·refine (A.1 f w).1 ?_ a hc z
     rcases hq with hq | hq
     ·exact .inl hq
     ·cases hq
   ·rcases Ao.mp z with rfl | z
    ·exact B (Et _ _ j)
    ·refine (A.1 f w).2 ?_ a j (x _ z)
     rcases hq with hq | hq
     ·refine .inl ?_
      cases m <;> first | rfl | exact hq
     ·exact .inr hq
  ·rcases cs a j with rfl | hc
   ·exact .inl (k.new0 o)
   ·rcases k.new _ Aa a hc with z | z
    ·exact .inl z
    ·cases z.2
theorem RdFs.revP:∀{xs:List V} {b:List Ad} {F:List Addr},RdFs K H xs b F->∃G,RdFs K H xs.reverse b.reverse G/\G.Perm F
 | _,_,_,.nil=>⟨[],.nil,.refl _⟩
 | _,_,_,.cons (x:=x) (d:=d) (F:=F1) (G:=F2) a t=>by
  obtain ⟨G,c,e⟩:=RdFs.revP t
  rw[Ig,Ig]
  exact ⟨G++F1,c.snoc a,(e.append_right F1).trans List.perm_append_comm⟩
end
def jB(i:Bool)(x z:DV)(a:DS)(P:DV->DS->Prop):Prop:=match x,z with
 | .dat m (.list ds),.dat _ (.int k)=>(k=1\/k = -1)/\Xf i m (if k=1 then ds else ds.reverse) λz=>P z a
 | _,_=>False
def x5(i:Bool)(e c:DE):DE:=λd P=>e d λx b=>c b λz a=>jB i x z a P
section
variable{X:Cx}{e k:Expr}{d f:DE}{pos b:Pos}
theorem E6(Z:Ee X e d)(M:Ee X k f):Ee X (.Subscript e (.Slice none none (some k) b) pos) (x5 i d f):=by
 refine PE.imp (E5 Z M) λσ H Q h=>?_
 obtain ⟨w,Y,S,T,δ,P,rfl,K,V,W,I⟩:=h
 refine ⟨w,Y,S,T,δ,_,rfl,K,V,W,λx o v F N H1 e1 O u L=>?_⟩
 refine ⟨w,Y,N,⟨some v,x,F⟩::T,o,_,e1,O,u,L,λz l v2 F2 B H2 D E g b=>?_⟩
 unfold jB at b
 split at b
 ·rename_i m ds mz U
  obtain ⟨rfl,_⟩:=(g.told mem_mid).int_inv
  obtain ⟨a,xs,G,rfl,R,C,rfl,J⟩:=(g.told Ec).list_inv
  refine ⟨a,xs,U,rfl,rfl,Kv.of R,b.1,λp y=>?_⟩
  have n:=g.drop
  rcases b.1 with rfl | rfl
  ·rw[if_pos rfl]
   have q:=b.2
   rw[if_pos rfl] at q
   obtain ⟨z,r,j,s⟩:=n.newLP C (λc t=>Ae _ t) (λz=>(Bw.mp z).2) J y q
   exact I z l _ r B _ D E j s
  ·rw[if_neg (by decide)]
   have q:=b.2
   rw[if_neg (by decide)] at q
   obtain ⟨G',h1,A⟩:=C.revP
   obtain ⟨z,r,j,s⟩:=n.newLP h1 (λc t=>Ae _ (A.mem_iff.mp t)) (λz=>A.nodup_iff.mpr (Bw.mp z).2) (by rw[Iy]; exact J) y q
   exact I z l _ r B _ D E j s
 ·exact b.elim
end
section
variable{X:Cx}{a:List (Addr×Obj)}{d:List (Option V)}{H:Hp}{s:Am}{h':Heap}{m:Str->Option Value}
theorem GR(I:Inv X a d H s)(F:Fr X.base X.env.locals h' m)(N:News X.base X.env.locals h' (Pz X.base s.heap X.env.locals++more)):∀b o,b≠X.env.locals->s.heap.get? b=some o->h'.get? b=some o:=λb o c e=>by
 cases q:X.base.get? b with
 | some u =>
  have z:=I.bk b u q
  rw[e] at z; cases z
  exact F.keep b _ q
 | none=>exact (N (b,o) (Ap _ (nC c q e))).1
theorem AM(I:Inv X a d H s)(F:Fr X.base X.env.locals h' m)(N:News X.base X.env.locals h' (Pz X.base s.heap X.env.locals)):∀b o,b≠X.env.locals->s.heap.get? b=some o->h'.get? b=some o:=GR (more:=[]) I F (by rw[Dk]; exact N)
theorem Inv.framed(I:Inv X a d H s)(k:∀b o,b≠X.env.locals->s.heap.get? b=some o->h'.get? b=some o)(w:s.heap.Ns X.env.locals m)(j:h'.Ns X.env.locals m):Inv X a d H { s with heap:=h',toks:=t' }:=by
 have f:∀b u,H b=some u->b≠X.env.locals:=λb u e z=>by rw[z,I.free] at e; cases e
 refine I.step (g':=s.gens) (d':=s.drawn) (ch:=[]) (λ_ z=>nomatch z) (λb o g _ _ e _=>k b o g e) (λb o g _ _ e _=>⟨o.slots,k b o g e⟩) (λ_ _ _ _ n=>n) (λb o _ e=>?_) (λ_ _ e=>e) (λ_ _ _ e=>e) (λb L e=>⟨#[],by rw[e]; simp⟩) (λr A=>?_) (λb u e=>?_) I.bare
 ·by_cases z:b=X.env.locals
  ·obtain ⟨B,_,_,h,_⟩:=j
   exact ⟨B,z▸h⟩
  ·exact ⟨o,k b o z e⟩
 ·obtain ⟨K,E,l,t,b1,J,F⟩:=A
  obtain ⟨G,C,p,i,b2,M,D⟩:=w
  rw[t] at i; cases i
  rw[b1] at b2; cases b2
  have : r=m:=funext λx=>(F x).symm.trans (D x)
  exact this▸j
 ·refine (I.hok b u e).stay (λc v y q=>k c v ?_ q) (λ_ q=>q) λ_ _ q=>q
  rcases y with z | z
  ·rw[z]; exact f b u e
  ·exact f c _ z
end
def qP(K:PySem.W.Frag)(le lt:Nat->Nat->Prop):V->Hp->VK->Prop:=λx H Q=>∃(p:Addr) (b:List V) (a:Nat->Nat),x=.ref p/\Kv K H p b/\b≠[]/\(∀i v,b[i]? = some v->∃q c,v=.ref q/\(Kv K H q c\/Ve K H q c)/\c.length=a i) /\
 ∀i v,b[i]? = some v->(∀j,j<b.length->le (a i) (a j)/\(j<i->lt (a i) (a j)))->Q v H
section
variable{X:Cx}{c:List (Addr×Obj)}{d:List (Option V)}{H:Hp}{s:Am}
theorem sC{a:Addr}{o:Obj}{xs:Array Value}{n:Nat}{m:Str->Option Value}{h:Heap}(c:h.Ns a m){b:Addr}(hb:h.get? b=some o)(hd:o.data=.seq xs n):b≠a:=λz=>by
 obtain ⟨g,e,d,f,b1,_⟩:=c
 rw[z,f] at hb; cases hb
 rw[b1] at hd; cases hd
theorem yS(z:X.calm=true)(I:Inv X c d H s)(u:s.heap.Ns X.env.locals m)(F:Fr X.base X.env.locals h m)(N:News X.base X.env.locals h (Pz X.base s.heap X.env.locals++i))(hq:Kv X.K H q ys\/Ve X.K H q ys):wpAny (model X.prog X.w) X.A.in1 (call (.builtin "len") [.ref q]) (KskEnd X.base X.env.locals m (Pz X.base s.heap X.env.locals++i) (ys.length:Nat) { s with heap:=h,toks:=v }) (λ_ _=>False) { s with heap:=h,toks:=v }:=by
 have B:=Tb
 have y:Az=16777216:=Fc
 have k:=GR I F N
 rcases hq with hq | hq
 ·obtain ⟨e,l,r,x⟩:=I.list hq
  have a:=l.length
  obtain ⟨o,j,b,t,g⟩:=r.isList
  have f:Heap.IsList h q e.toArray:=⟨o,k q o (sC u j g) j,b,t,g⟩
  refine Calls.call_len_list f (by simp only[Av]; omega) ?_
  simp only[Av]
  rw[a]
  exact KskEnd.intro F N λp n=>n
 ·obtain ⟨e,l,r,x⟩:=I.tuple hq
  have a:=l.length
  obtain ⟨o,j,b,t,g⟩:=r
  have f:IsTup h q e.toArray:=⟨o,k q o (sC u j g) j,b,t,g⟩
  refine len_tuple f (by simp only[Av]; omega) ?_
  simp only[Av]
  rw[a]
  exact KskEnd.intro F N λp n=>n
theorem xW(L:X.calm=true)(I:Inv X c d H s)(ru:RelV x u)(h:qP X.K (λa b=>a<=b) (λa b=>a<b) x H Q):wpAny (model X.prog X.w) X.A (call (.builtin "min") [u] [(Do "key",.builtin "len")]) (EP X c d Q) X.xe s:=by
 obtain ⟨p,n,kf,rfl,R,Y,P,q⟩:=h
 cases ru
 obtain ⟨m,G⟩:=I.fr
 have B:=G.ns
 obtain ⟨t,E,pl,_⟩:=I.list R
 obtain ⟨o,M,D,W,J⟩:=pl.isList
 have f:=E.length
 refine PyProof.Rows.kmb_min (λi=>(kf i:Int)) (I.ok.hd L) G (B7 (h:=s.heap)) (vs:=t) (λh F N=>?_) ?_ (λi v g h tk O F N=>?_) λi v h' S g T F N=>?_
 ·exact ⟨o,AM I F N p o (sC B M J) M,D,W,J⟩
 ·rw[<- f]; exact yG.mpr Y
 ·have C:i<n.length:=by rw[f]; exact (Af.mp g).1
  obtain ⟨y,k⟩ : ∃y,n[i]? = some y:=⟨_,Ag C⟩
  obtain ⟨Z,l,r⟩:=E.get k
  rw[g] at l; cases l
  obtain ⟨q',ys,rfl,U,e⟩:=P i y k
  cases r
  rw[<- e]
  exact yS L I B F N U
 ·have C:i<n.length:=by rw[f]; exact (Af.mp g).1
  obtain ⟨y,k⟩ : ∃y,n[i]? = some y:=⟨_,Ag C⟩
  obtain ⟨Z,l,r⟩:=E.get k
  rw[g] at l; cases l
  refine ⟨y,H,Inv.framed I (AM I F N) B F.ns,r,q i y k λj hj=>?_⟩
  have:=T j (by rw[<- f]; exact hj)
  refine ⟨by have:=this.1; omega,λz=>?_⟩
  have:=this.2 z
  omega
variable{e:Expr}{t:TA}{l:DA}{g f kp pos:Pos}
theorem P9(p:X.calm=true)(w:Gl X "min")(v:X.mg "min" = none)(i:Gl X "len")(j:X.mg "len" = none)(o:PA X [e] t)(k:Bl [e] X.env=[(false,eval e X.env)]:=by rfl):PE X (.Call (.Name "min" g) [e] [⟨some "key",.Name "len" f,kp⟩] pos) (GN (λxs H Q=>∃x,xs=[x]/\qP X.K (λa b=>a<=b) (λa b=>a<b) x H Q) t):=by
 intro c s d H Q I h
 refine Ft (Ld I w v (u:=.builtin "min") (by decide +kernel) ?_)
 refine Hs (Il (o pos c s d H _ I h) λy z ⟨vs,A,l,r,n⟩=>?_) (by rw[k]; rfl) (by rw[k]; rfl)
 obtain ⟨x,rfl,q⟩:=n
 obtain ⟨u,rfl,m⟩:=vals1 r
 refine kws_cons (Ld l i j (u:=.builtin "len") (by decide +kernel) (kws_nil ?_))
 exact xW p l m q
end
def DZ:Ad->Option Nat
 | .tuple a=>some a.length
 | .list a=>some a.length
 | _=>none
def aJ(le lt:Nat->Nat->Prop):DC:=λb P=>match b with
 | [.dat m (.list ds)]=>∃a:Nat->Nat,ds≠[]/\(∀i d,ds[i]? = some d->DZ d=some (a i))/\∀i d,ds[i]? = some d->(∀j,j<ds.length->le (a i) (a j)/\(j<i->lt (a i) (a j)))->P (.dat (Nm m) d)
 | _=>False
section
variable{K:PySem.W.Frag}
theorem K6:Pb K (λxs H Q=>∃x,xs=[x]/\qP K le lt x H Q) (aJ le lt):=by
 intro M X n S T N O H Q P C p q k
 unfold aJ at q
 split at q
 ·rename_i m y w
  obtain ⟨v,F,rfl,p⟩:=Ii C p w
  obtain ⟨J,I,B,A⟩:=q
  obtain ⟨a,xs,G,rfl,D,e,rfl,R⟩:=(p.told mem_mid).list_inv
  refine ⟨_,rfl,a,xs,J,rfl,Kv.of D,λz=>?_,λi v f=>?_,λi v f h=>?_⟩
  ·have:=e.len; rw[z] at this; exact I (Mh.mp this.symm)
  ·have c:=(Af.mp f).1
   rw[e.len] at c
   obtain ⟨x,t,l,g,u⟩:=e.get (Ag c)
   rw[f] at l; cases l
   have o:=B i _ (Ag c)
   generalize y[i]=d at g o
   cases d with
   | tuple E =>
    obtain ⟨b,r,rfl,h,s,_⟩:=g.tup_inv
    exact ⟨b,r,rfl,.inr (Ve.of h),by rw[s.len]; exact Bo o⟩
   | list E =>
    obtain ⟨b,r,_,rfl,h,s,_,_⟩:=g.list_inv
    exact ⟨b,r,rfl,.inl (Kv.of h),by rw[s.len]; exact Bo o⟩
   | _=>cases o
  ·have c:=(Af.mp f).1
   rw[e.len] at c
   obtain ⟨x,t,l,g,u⟩:=e.get (Ag c)
   rw[f] at l; cases l
   exact k _ _ t H (p.part g (u.trans (Cw _ _))) (A i _ (Ag c) λj L=>h j (by rw[e.len]; exact L))
 ·exact q.elim
end
section
variable{X:Cx}{e:Expr}{c:DA}{f d kp pos:Pos}
theorem P0(j:X.calm=true)(m:Gl X "min")(l:X.mg "min" = none)(g:Gl X "len")(h:X.mg "len" = none)(k:kB X [e] c)(i:Bl [e] X.env=[(false,eval e X.env)]:=by rfl):Ee X (.Call (.Name "min" f) [e] [⟨some "key",.Name "len" d,kp⟩] pos) (FB (aJ (λa b=>a<=b) (λa b=>a<b)) c):=PE.imp (P9 j m l g h k i) (lO K6)
end
section
variable{prog:Bp}{w:World}{A:Cn}{E:Value->Am->Prop}
theorem fZ{I l:Addr}{vs:Array Value}(m:A.handled=none)(c:l≠I):∀(n i:Nat) (s:Am) (Q:List Value->Am->Prop),s.heap.IsListIter I l i->s.heap.IsList l vs->i+n<=vs.size->(∀h' x,h'.IsListIter I l (i+n)->h'.IsList l vs->(∀b o,b∉[I]->s.heap.get? b=some o->h'.get? b=some o)->Q ((vs.toList.drop i).take n) { s with heap:=h',toks:=x })->wpAny (model prog w) A (draw (.ref I) n) Q E s
 | 0,i,s,Q,hit,hl,_,hQ=>An (by simpa using hQ s.heap s.toks hit hl λ_ _ _ e=>e)
 | n+1,i,s,Q,hit,hl,hle,hQ=>by
  have a:i<vs.size:=by omega
  refine Ab ((Xw (prog:=prog) (w:=w) (A:=A) m I l c vs).item i s _ _ a ⟨hit,hl⟩ λv y t h d r=>?_)
  have h:vs[i]? = some v:=h
  refine Ab (Cc (fZ m c n (i+1) _ _ d.1 d.2 (by omega) λu k f j g=>An ?_))
  have q:vs.toList.drop i=v::vs.toList.drop (i+1):=by
   have : vs[i]=v:=by simpa [a] using h
   rw[<- this]; simp [Lb,a]
  have z:=hQ u k (by rw[show i+(n+1)=i+1+n by omega]; exact f) j λb o p e=>g b o p (r b o p e)
  rw[q,List.take_succ_cons] at z
  exact z
variable{s:Am}
theorem dH{env:Env}{a:List Expr}{x1}{pos:Pos}{l:Addr}{vs:Array Value}{Q:Unit->Am->Prop}(m:A.handled=none)(hl:s.heap.IsList l vs)(r:(Fd a env).length=vs.size)(c:(Fd a env).findIdx? (·.1)=none)(h:∀h' x,(∀b o,s.heap.get? b=some o->h'.get? b=some o)->wpAny (model prog w) A (assignInOrder ((Fd a env).map (·.2)) vs.toList) Q E { s with heap:=h',toks:=x }):wpAny (model prog w) A (Sj (.Tuple a x1 pos) env (.ref l)) Q E s:=by
 rw[assign_Tuple]
 have d:l≠s.heap.objs.size:=by obtain ⟨o,v,_⟩:=hl; exact By (Bb v)
 refine Ab (Uv ?_)
 unfold unpack
 rw[r,c]
 refine Ab (Cc ?_)
 unfold unpackItems notIterableAtAll
 refine Ab (Ab (wpAny_specialOf hl.typeIs slot_list_iter.lookup (An ?_)))
 simp only[Dh,if_false]
 refine Ab (Cc (Ub hl ?_))
 refine Ab (Cc (fZ m d vs.size 0 _ _ ⟨_,Be _ rfl,rfl,rfl⟩ (hl.push _) (by omega) λn t g i p=>?_))
 have q:List.take vs.size (List.drop 0 vs.toList)=vs.toList:=by rw[List.drop_zero]; exact Hi (by simp)
 rw[q,if_neg (by simp)]
 have st:n.IsListIter s.heap.objs.size l vs.size/\n.IsList l vs:=⟨by simpa using g,i⟩
 refine Ab (Cc ((Xw (prog:=prog) (w:=w) (A:=A) m s.heap.objs.size l d vs).done _ _ _ st λu j f=>?_))
 simp only[Option.isSome_none,Dh,if_false]
 refine An (h u j λb o e=>?_)
 have k:b∉[s.heap.objs.size]:=λz=>absurd (Bb e) (by rw[Ak.mp z]; exact Ey _)
 exact f b o k (p b o k (Ai _ e))
end
section
variable{X:Cx}{pos:Pos}
def MP(K:PySem.W.Frag)(n:Nat)(t:j5):TG:=λv c H Q=>∃a b,v=.ref a/\Kv K H a b/\b.length=n/\t b c H Q
theorem FA{es:List Expr}{k:Nat}{t:j5}{n:Nat}(p:X.calm=true)(h:AO X es t)(m:(Fd es X.env).length=n:=by rfl)(c:(Fd es X.env).findIdx? (·.1)=none:=by rfl):PG X (.Tuple es k pos) (MP X.K n t):=by
 intro b s g H v u Q I r d
 obtain ⟨a,f,j,l,o,d⟩:=d
 subst j
 cases r
 obtain ⟨w,e,q,y⟩:=I.list l
 refine dH (I.ok.hd p) q.isList (by simp [m,<- o,e.length]) c λz x i=>?_
 exact h b _ g H f _ Q (I.kept (t':=x) i) (by simpa using e) d
end
def F9(n:Nat)(a:wY):DG:=λx b P=>match x with
 | .dat m (.list ds)=>ds.length=n/\a (ds.map λd=>.dat (Nm m) d) b P
 | _=>False
section
variable{X:Cx}{pos:Pos}
theorem F7{es:List Expr}{C:Nat}{p:wY}{n:Nat}(I:X.calm=true)(h:J9 X es p)(A:(Fd es X.env).length=n:=by rfl)(e:(Fd es X.env).findIdx? (·.1)=none:=by rfl):EK X (.Tuple es C pos) (F9 n p):=by
 refine PG.imp (FA I h A e) λv M H Q h=>?_
 obtain ⟨s,Y,S,T,D,x,F,P,rfl,r,g,d,k⟩:=h
 unfold F9 at d
 split at d
 ·rename_i m t
  obtain ⟨a,L,G,rfl,B,o,rfl,O⟩:=(g.told mem_mid).list_inv
  have i:=g.mid
  have l:=Ba.mp i.sep
  obtain ⟨w,_,_,j,_⟩:=i.ok _ Aa
  have cs:∀b∈cells ⟨none,.dat (Nm m) .none,G⟩,b∈cells ⟨some (.ref a),.dat m (.list t),a::G⟩:=λb c=>by
   cases m with
   | ow=>exact Ae _ c
   | _=>exact nomatch c
  obtain ⟨y,K,u,N,J⟩:=At.unpack (m:=m) (E:=S++T) o (λz=>(Bw.mp (j z)).2) (λf q=>by
   refine ⟨λhq b c=>(l.1 f q).1 ?_ b (cs b c),λhq b c z=>(l.1 f q).2 ?_ b c (Ae _ z)⟩
   ·rcases hq with hq | hq
    ·exact .inl hq
    ·cases hq
   ·rcases hq with hq | hq
    ·refine .inl ?_
     cases m <;> first | rfl | exact hq
    ·exact .inr hq) (λb c=>by
   rcases i.new _ Aa b (cs b c) with z | z
   ·exact z
   ·cases z.2) g.drop
  refine ⟨a,L,rfl,Kv.of B,by rw[o.len]; exact d.1,s,Y,S,T,y,D,P,rfl,r,K,J.perm ?_,by rw[u]; exact d.2,k⟩
  rw[<- Df,<- Df]
  exact Vj.append_right T
 ·exact d.elim
end
def Yn:D2:=λx y P=>match x,y with
 | .dat m (.list ds),.dat m' (.list es)=>m≠.pk/\m'≠.pk/\ds.length+es.length<=1000000/\P (.dat .tp (.list (ds++es)))
 | _,_=>False
theorem Z0(h:m≠.pk):Lf (.dat m d)=false:=by cases m <;> first | rfl | exact absurd rfl h
theorem R3{K:PySem.W.Frag}:kQ K CF Yn:=by
 intro Y X n S T x y v w F G H Q P d i k
 unfold Yn at i
 split at i
 ·rename_i m E Z M
  obtain ⟨D,U,hz,p⟩:=i
  obtain ⟨b,r,s,rfl,I,t,rfl,_⟩:=(d.told mem_mid).list_inv
  obtain ⟨a,C,A,rfl,L,o,rfl,_⟩:=(d.told Ec).list_inv
  have l1:=o.len
  have V:=t.len
  refine ⟨a,b,C,r,rfl,rfl,L,I,dZ (by omega),λq h=>?_⟩
  have B:=Gi h (.lst (C++r))
  have O:=Ba.mp d.mid.sep
  have J:=Ba.mp d.drop.mid.sep
  have u:∀f∈S++_::_::T,q∉f.F:=d.free h
  have R:q∉s:=λz=>u _ mem_mid (Ae _ z)
  have N:q∉A:=λz=>u _ Ec (Ae _ z)
  have fr:=d.drop2.free h
  refine k _ _ _ _ (((d.drop2.grow (n':=n) B (Ar _)).push (e:=⟨some (.ref q),.dat .tp (.list (E++M)),q::(A++s)⟩) ⟨_,rfl,.lst Dq (by rw[Bz]; exact dZ (by omega)) ((o.app t).kp (Kp.of B)),λz=>(nomatch z),λ_ a l e=>?_⟩ (λf j=>⟨λ_ c g z=>?_,λ_ c g z=>?_⟩) λc g=>?_).tomid) p
  ·cases e
   exact λz=>(Bf.mp z).elim N R
  ·rw[Ak.mp g] at z
   exact fr f j z
  ·rcases Ao.mp z with z | z
   ·rw[z] at g
    exact fr f j (Et _ _ g)
   ·rcases Bf.mp z with z | z
    ·exact (J.1 f j).2 (.inl (Z0 D)) c g (Ae _ z)
    ·exact (O.1 f ((Cu S).append (Cw _ T) |>.subset j)).2 (.inl (Z0 U)) c g (Ae _ z)
  ·rw[Ak.mp g]
   exact .inl (d.new0 h)
 ·exact i.elim
theorem sV(e:Ee X a d)(hb:Ee X b c):Ee X (.BinOp a .Add b pos) (Wj Yn d c):=Tu J6 R3 e hb
end DL
namespace Nd
open PySem PySem.Spec PyProof.Rows
section
variable{prog:Bp}{w:World}{m:Type}[DecidableEq m](i:HeapKind prog w m)
def DictE(h:Heap)(d:Addr)(xs:List (m×Addr×Value)):Prop :=
 ∃(o:Obj) (a:Array Nt) (b:Nat),h.get? d=some o/\o.ExactDict/\o.data=.dict a b/\a.toList=xs.map (eG i)/\(∀x∈xs,i.is h x.1 x.2.1)/\(xs.map (·.1)).Nodup/\b=a.size
variable{i}
theorem DictE.of(x:DictE i h d xs):h.DictOfH i d xs:=let ⟨o,es,ep,a,b,c,e,f,g,_⟩:=x; ⟨o,es,ep,a,b,c,e,f,g⟩
variable{A:Cn}{E:Value->Am->Prop}{s:Am}{d a:Addr}{xs:List (m×Addr×Value)}{k:m}{v:Value}
theorem xT(f:(xs.map (·.1)).Nodup)(d:k∉xs.map (·.1)):((xs++[(k,a,v)]).map (·.1)).Nodup:=by
 rw[Bg,List.nodup_append]
 refine ⟨f,by simp,λx c y b e=>d ?_⟩
 rw[Ax,Jj,List.mem_singleton] at b
 have b:y=k:=b
 rw[<- b,<- e]
 exact c
theorem t8(g:h.get? d=some o)(p:o.ExactDict)(hd:o.data=.dict es c)(l:es.toList=xs.map (eG i))(e:∀x∈xs,i.is h x.1 x.2.1)(n:(xs.map (·.1)).Nodup)(f:c=es.size)(b:i.is h k a)(q:atKey xs k=none)(j:k∉xs.map (·.1)):DictE i (h.update d (Obj.mapDictKeys λes=>es.push ⟨i.hash k,.ref a,v⟩)) d (storedH xs k a v):=by
 rw[storedH_new q]
 refine ⟨_,_,c+1,Gf _ g (Obj.isFreed_of_dict (Obj.data_mapDictKeys hd _)),p.mapDictKeys _,Obj.data_mapDictKeys hd _,by simp [l,eG],λx m=>?_,xT n j,by rw[f,Array.size_push]⟩
 rcases Bf.mp m with z | z
 ·exact i.keeps (e x z) g hd (Cj ..)
 ·rw[Ak.mp z]
  exact i.keeps b g hd (Cj ..)
theorem nM(r:i.room A)(b:i.is s.heap k a)(H:DictE i s.heap d xs)(q:∀h',DictE i h' d (storedH xs k a v)->Gk d s.heap h'->Q () { s with heap:=h',toks:=s.toks+i.draws k })(hz:xs.length<=Az):wpAny (model prog w) A (dictSet d (.ref a) v) Q E s:=by
 obtain ⟨o,G,D,g,z,c,n,f,h,m⟩:=H
 unfold dictSet
 try with_reducible refine Cc ?_
 refine Ab (i.pyHash r b ?_)
 unfold dictSetHashed
 try with_reducible refine Cc ?_
 refine Ab (wpAny_dictFind_heap (s:={ s with toks:=s.toks+i.draws k }) r b g c n f h (λu=>?_) λj p B=>?_)
 ·exact Ab (Pi (wpAny_updateDictKeys (hz:=by have e:=size_of_entries n; omega) (s:={ s with toks:=s.toks+i.draws k }) g c (q _ (t8 g z c n f h m b (atKey_none_of_get u) (not_mem_keys_of_get u)) (Cj ..))))
 ·refine Ab (Pi (Ab (wpAny_updateDict (s:={ s with toks:=s.toks+i.draws k }) g c (wpAny_point (q _ ?_ (Cj ..))))))
  rw[storedH_old (atKey_of_get h B)]
  refine ⟨_,_,D,Gf _ g (Obj.isFreed_of_dict (Obj.data_mapDict c _)),z.mapDict _,Obj.data_mapDict c _,?_,λx C=>?_,by rw[keys_map_putAt]; exact h,by rw[m]; simp⟩
  ·have t:=modify_map_putAt (eG i) (λe:Nt=>{ e with val:=v }) k v (λ_ _=>rfl) h B
   rw[<- n] at t
   obtain ⟨l⟩:=G
   simpa using t
  ·obtain ⟨y,F,rfl⟩:=Bh.mp C
   unfold putAt
   split <;> exact i.keeps (f y F) g c (Cj ..)
theorem setItemE(g:i.room A.in1)(c:i.is s.heap k a)(f:DictE i s.heap d xs)(q:∀h',DictE i h' d (storedH xs k a v)->Gk d s.heap h'->Q () { s with heap:=h',toks:=s.toks+i.draws k })(hz:xs.length<=Az):wpAny (model prog w) A (setItem (.ref d) (.ref a) v) Q E s:=by
 have e:=f.of.typeIs
 unfold setItem
 try with_reducible refine Cc ?_
 refine Ab (gT e (by decide) ?_)
 refine Ab (Fu (name:=Do "__setitem__") e slot_dict_setitem (Gq slot_dict_setitem e entry_dict_setitem ?_ (args_dict_setitem _ _ _)))
 show wpAny _ _ (bind (Builtin.Dict.notOrdered "__setitem__" ⟨[.ref d,.ref a,v],[]⟩) _) _ _ s
 refine Ab (Xv e ?_)
 show wpAny _ _ (bind (dictSet d (.ref a) v) _) _ _ s
 exact Ab (nM g c f (λh' a b=>An ⟨.none,rfl,An (q h' a b)⟩) hz)
end
end Nd
namespace L2
open PySem PySem.Spec PyProof.Rows
section
variable{a:Type}[DecidableEq a]
def Vi(b:List (a×V))(k:a):Option V:=(b.find? λc=>decide (c.1=k)).map (·.2)
def Nz(b:List (a×V))(k:a)(v:V):List (a×V) :=
 if (b.any λc=>decide (c.1=k))=true then b.map (λc=>if c.1=k then (c.1,v) else c) else b++[(k,v)]
theorem To{p:a×V}{r:List (a×V)}{k:a}(e:p.1=k):Vi (p::r) k=some p.2:=by simp [Vi,Jq,e]
theorem Tt{p:a×V}{r:List (a×V)}{k:a}(e:¬ p.1=k):Vi (p::r) k=Vi r k:=by simp [Vi,Jq,e]
theorem lJ(k:a):∀b:List (a×V),(b.any λkv=>decide (kv.1=k))=(Vi b k).isSome
 | []=>rfl
 | p::r=>by
  rw[Hl]
  by_cases e:p.1=k
  ·simp only[To e,decide_eq_true e,Bool.true_or,Option.isSome_some]
  ·rw[Tt e,decide_eq_false e,Bool.false_or]; exact lJ k r
theorem Td(b:List (a×V))(k:a)(v:V):(Nz b k v).length<=b.length+1:=by
 unfold Nz
 split
 ·rw[Ac]; omega
 ·rw[Bz,Bu,Jp]; omega
theorem kZ.isSome_eq(r:kZ o u):o.isSome=u.isSome:=by
 cases o with
 | none=>cases u with
  | none=>rfl
  | some _=>exact (show False from r).elim
 | some _=>cases u with
  | none=>exact (show False from r).elim
  | some _=>rfl
theorem kZ.getD(r:kZ o u)(rd:RelV d d'):RelV (o.getD d) (u.getD d'):=by
 cases o with
 | none=>cases u with
  | none=>exact rd
  | some _=>exact (show False from r).elim
 | some _=>cases u with
  | none=>exact (show False from r).elim
  | some _=>exact r
theorem KV.val(r:KV c vs)(k:a):kZ (Vi c k) (valueAt vs k):=by
 unfold KV at r
 induction r with
 | nil=>exact Ks
 | @cons p q l f h t i =>
  obtain ⟨g,j⟩:=h
  by_cases e:p.1=k
  ·have d:q.1=k:=g.symm.trans e
   have b:valueAt (q::f) k=some q.2:=by simp [valueAt,Jq,d]
   rw[To e,b]; exact j
  ·have d:¬ q.1=k:=λz=>e (g.trans z)
   have b:valueAt (q::f) k=valueAt f k:=by simp [valueAt,Jq,d]
   rw[Tt e,b]; exact i
theorem KV.any(r:KV b vs)(k:a):(b.any λkv=>decide (kv.1=k))=vs.any λkv=>decide (kv.1=k):=by
 unfold KV at r
 induction r with
 | nil=>rfl
 | cons h t c=>rw[Hl,Hl,c,h.1]
theorem KV.repl(r:KV b vs)(k:a)(f:RelV y u):KV (b.map λkv=>if kv.1=k then (kv.1,y) else kv) (vs.map λkv=>if kv.1=k then (kv.1,u) else kv):=by
 unfold KV at r ⊢
 induction r with
 | nil=>exact .nil
 | @cons p q j i h t d =>
  rw[Ax,Ax]
  refine .cons ?_ d
  obtain ⟨c,g⟩:=h
  by_cases e:p.1=k
  ·rw[if_pos e,if_pos (c.symm.trans e)]; exact ⟨c,f⟩
  ·rw[if_neg e,if_neg (λz=>e (c.trans z))]; exact ⟨c,g⟩
theorem KV.put(r:KV b vs)(k:a)(c:RelV y u):KV (Nz b k y) (stored vs k u):=by
 unfold Nz stored
 rw[r.any k]
 by_cases e:(vs.any λd=>decide (d.1=k))=true
 ·rw[if_pos e,if_pos e]; exact r.repl k c
 ·rw[if_neg e,if_neg e]; exact Paired.snoc r ⟨rfl,c⟩
theorem KV.length{b:List (a×V)}{vs:List (a×Value)}(r:KV b vs):b.length=vs.length:=Paired.length r
end
theorem uV(r:RelV (kV k) u):(Hx P w).is k u=true:=by
 cases k with
 | inl i=>obtain ⟨t,e⟩:=(show ∃t,u=Nv i t from r); subst e; exact lS P w i t
 | inr x=>obtain ⟨t,e⟩:=(show ∃t,u=Value.str x t from r); subst e; exact nO P w x t
theorem gC:∀{ks:List Ib} {us:List Value},Fs (ks.map kV) us->ItemsAre (Hx P w) ks us
 | [],_,r=>by rw[Jj] at r; cases r; exact .nil
 | k::ks,_,r=>by
  rw[Ax] at r
  cases r with
  | cons h t=>exact .cons (uV h) (gC t)
abbrev KT(H:Hp):List (List Ib×V)->List (List Ib×Addr×Value)->Prop:=Paired λp q=>p.1=q.1/\H q.2.1=some (.tup (p.1.map kV))/\RelV p.2 q.2.2
theorem KT.val(r:KT H a xs)(k:List Ib):kZ (Vi a k) ((atKey xs k).map (·.2)):=by
 induction r with
 | nil=>exact Ks
 | @cons p q j d h t g =>
  obtain ⟨f,_,i⟩:=h
  by_cases e:p.1=k
  ·have c:q.1=k:=f.symm.trans e
   have b:atKey (q::d) k=some q.2:=by simp [atKey,Jq,c]
   rw[To e,b]; exact i
  ·have c:¬ q.1=k:=λz=>e (f.trans z)
   have b:atKey (q::d) k=atKey d k:=by simp [atKey,Jq,c]
   rw[Tt e,b]; exact g
theorem KT.repl(r:KT H a xs)(k:List Ib)(f:RelV y u):KT H (a.map λkv=>if kv.1=k then (kv.1,y) else kv) (xs.map (putAt k u)):=by
 induction r with
 | nil=>exact .nil
 | @cons p q j i h t d =>
  rw[Ax,Ax]
  refine .cons ?_ d
  obtain ⟨b,c,g⟩:=h
  unfold putAt
  by_cases e:p.1=k
  ·rw[if_pos e,if_pos (b.symm.trans e)]; exact ⟨b,c,f⟩
  ·rw[if_neg e,if_neg (λz=>e (b.trans z))]; exact ⟨b,c,g⟩
theorem KT.put(r:KT H a xs)(k:List Ib)(hb:H b=some (.tup (k.map kV)))(c:RelV y u):KT H (Nz a k y) (storedH xs k b u):=by
 have e:(a.any λd=>decide (d.1=k))=(atKey xs k).isSome:=by
  rw[lJ,(r.val k).isSome_eq,Option.isSome_map]
 unfold Nz storedH
 rw[e]
 by_cases q:(atKey xs k).isSome=true
 ·rw[if_pos q,if_pos q]; exact r.repl k c
 ·rw[if_neg q,if_neg q]; exact Paired.snoc r ⟨rfl,hb,c⟩
theorem KT.keeps(r:KT H a xs)(c:∀b ys,H b=some (.tup ys)->H' b=some (.tup ys)):KT H' a xs :=
 Paired.mapP r λ_ _ z=>⟨z.1,c _ _ z.2.1,z.2.2⟩
section
variable{P:Bp}{w:World}{H:Hp}{h:Heap}{a:Addr}
theorem u4(ok:Wq P w H h)(e:Rd H a u):Hz P w H h a u:=e.ok ok
theorem lF(ok:Wq P w H h)(e:Rd H a (.dK b)):b.length<=Az/\(a == Hk)=false/\∃vs,KV b vs/\h.DictOf (Hx P w) a vs :=
 show Hz P w H h a (.dK b) from u4 ok e
theorem HQ(ok:Wq P w H h)(e:H a=some (.dK b)):b.length<=Az/\(a == Hk)=false/\∃vs,KV b vs/\h.DictOf (Hx P w) a vs:=lF ok (.inl e)
theorem Yy(ok:Wq P w H h)(e:H a=some (.tup (ks.map kV))):(Sa (Hx P w)).is h ks a:=by
 obtain ⟨_,b,r,o,d,f,n,c⟩:=(show Hz P w H h a (.tup (ks.map kV)) from ok a _ e)
 exact ⟨o,b.toArray,n,d,f,c,by simpa using gC r⟩
theorem tY(ok:Wq P w H h)(e:Rd H a (.dT b)):b.length<=Az/\(a == Hk)=false/\∃xs,KT H b xs/\h.DictOfH (Sa (Hx P w)) a xs:=by
 obtain ⟨z,y,xs,r,o,j,g,i,k,s,n,d,u⟩:=(show Hz P w H h a (.dT b) from u4 ok e)
 refine ⟨z,y,xs,r,o,j,g,i,k,s,n,λx hx=>?_,d⟩
 have all:∀{l:List (List Ib×V)} {m:List (List Ib×Addr×Value)},KT H l m->∀x∈m,(Sa (Hx P w)).is h x.1 x.2.1:=by
  intro l m q
  induction q with
  | nil=>intro x hx; exact nomatch hx
  | @cons p q A v c t f =>
   intro x hx
   rcases Ao.mp hx with e | hx
   ·subst e
    exact Yy ok (by rw[<- c.1]; exact c.2.1)
   ·exact f x hx
 exact all r x hx
theorem zM(ok:Wq P w H h)(e:Rd H a (.dT b)):b.length<=Az/\(a == Hk)=false/\∃xs,KT H b xs/\Nd.DictE (Sa (Hx P w)) h a xs:=by
 obtain ⟨z,y,xs,r,o,k,g,j,n,u,s,d,i⟩:=(show Hz P w H h a (.dT b) from u4 ok e)
 refine ⟨z,y,xs,r,o,k,g,j,n,u,s,λx hx=>?_,d,i⟩
 have all:∀{l:List (List Ib×V)} {m:List (List Ib×Addr×Value)},KT H l m->∀x∈m,(Sa (Hx P w)).is h x.1 x.2.1:=by
  intro l m q
  induction q with
  | nil=>intro x hx; exact nomatch hx
  | @cons p q A v c t f =>
   intro x hx
   rcases Ao.mp hx with e | hx
   ·subst e
    exact Yy ok (by rw[<- c.1]; exact c.2.1)
   ·exact f x hx
 exact all r x hx
end
def lX(H:Hp)(a:Addr)(y:V)(r:Option V):Prop :=
 (∃c k,Rd H a (.dK c)/\y=kV k/\r=Vi c k)\/∃c k b,Rd H a (.dT c)/\y=.ref b/\H b=some (.tup (k.map kV))/\r=Vi c k
def U4(H:Hp)(a:Addr)(y v:V)(H':Hp):Prop :=
 (∃c k,H a=some (.dK c)/\y=kV k/\c.length<Az/\H'=upd H a (.dK (Nz c k v))) \/
 ∃c k b,H a=some (.dT c)/\y=.ref b/\H b=some (.tup (k.map kV))/\c.length<Az/\H'=upd H a (.dT (Nz c k v))
theorem lX.k{H:Hp}{a:Addr}{b:List (Ib×V)}{k:Ib}(e:H a=some (.dK b)):lX H a (kV k) (Vi b k):=.inl ⟨b,k,.inl e,rfl,rfl⟩
theorem lX.t{H:Hp}{a b:Addr}{c:List (List Ib×V)}{k:List Ib}(e:H a=some (.dT c))(d:H b=some (.tup (k.map kV))):lX H a (.ref b) (Vi c k):=.inr ⟨c,k,b,.inl e,rfl,d,rfl⟩
theorem U4.k{H:Hp}{a:Addr}{b:List (Ib×V)}{k:Ib}{v:V}(e:H a=some (.dK b))(hl:b.length<Az):U4 H a (kV k) v (upd H a (.dK (Nz b k v))):=.inl ⟨b,k,e,rfl,hl,rfl⟩
theorem U4.t{H:Hp}{a b:Addr}{c:List (List Ib×V)}{k:List Ib}{v:V}(e:H a=some (.dT c))(d:H b=some (.tup (k.map kV)))(hl:c.length<Az):U4 H a (.ref b) v (upd H a (.dT (Nz c k v))):=.inr ⟨c,k,b,e,rfl,d,hl,rfl⟩
section
variable{X:Cx}{d:List (Addr×Obj)}{f:St}{H:Hp}{s:Am}{a:Addr}{y v:V}{u r:Value}{o:Option V}{A:Cn}{E:Value->Am->Prop}
theorem Inv.big(I:Inv X d f H s):Hk<s.heap.objs.size:=by
 have h:Ck<s.heap.objs.size:=(I.mod.glob.keeps I.bk).lt
 exact Nat.lt_trans (by decide) h
theorem wX(D:A.units+1<cLine)(I:Inv X d f H s)(g:lX H a y (some v))(x:RelV y u)(h:∀j s',Inv X d f H s'->RelV v j->Q j s'):wpAny (model X.prog X.w) A (Ug (.ref a) u) Q E s:=by
 rcases g with ⟨t,k,e,m,l⟩ | ⟨t,k,b,e,m,F,l⟩
 ·subst m
  obtain ⟨z,B,vs,i,n⟩:=lF I.hok e
  obtain ⟨j,q,c⟩:=kZ.some_of (v:=v) (o:=valueAt vs k) (by rw[l]; exact i.val k)
  exact wpAny_getItem_of (uV x) n.mapOf q (h j _ (I.tok _) c)
 ·subst m
  cases (show u=Bc b from x)
  obtain ⟨z,B,C,i,n⟩:=tY I.hok e
  obtain ⟨j,q,c⟩:=kZ.some_of (v:=v) (o:=(atKey C k).map (·.2)) (by rw[l]; exact i.val k)
  obtain ⟨p,G,r⟩:=Option.map_eq_some_iff.mp q
  refine wpAny_getItem_heap (eE D) (Yy I.hok F) n G ?_
  rw[r]
  exact h j _ (I.tok _) c
theorem jK(I:Inv X d f H s)(k:JM (H a))(j:Gk a s.heap h')(i:∃q,h'.get? a=some q)(g:Hz X.prog X.w (upd H a c) h' a c):Inv X d f (upd H a c) { s with heap:=h',toks:=t' } :=
 I.write (x:=a) (e:=a) k (.inl rfl) (λb q h z=>(j.2 b h).trans z) i g
theorem DW(z:b.length<=Az)(hd:(a == Hk)=false)(c:KV b vs)(d:h'.DictOf (Hx P w) a vs):Hz P w H' h' a (.dK b):=⟨z,hd,vs,c,d⟩
theorem xD(P:A.units+1<cLine)(I:Inv X d f H s)(g:U4 H a y v H')(F:RelV y u)(K:RelV v r)(h:∀s',Inv X d f H' s'->Q () s'):wpAny (model X.prog X.w) A (setItem (.ref a) u r) Q E s:=by
 rcases g with ⟨i,k,e,C,l,B⟩ | ⟨i,k,b,e,C,G,l,B⟩
 ·subst C B
  obtain ⟨z,p,vs,j,x⟩:=HQ I.hok e
  have hz:vs.length<=Az:=by rw[<- j.length]; exact z
  have o:(Nz i k v).length<=Az:=by have:=Td i k v; omega
  refine wpAny_setItem_pairs (hsz:=hz) (uV F) x λJ m t=>h _ ?_
  have S:∃q,J.get? a=some q:=let ⟨q,_,_,n,_⟩:=m; ⟨q,n⟩
  exact jK I (by rw[e]; exact Ks) t S (DW o p (j.put k K) m)
 ·subst C B
  cases (show u=Bc b from F)
  obtain ⟨z,p,M,j,x⟩:=zM I.hok (.inl e)
  have hz:M.length<=Az:=by rw[<- Paired.length j]; exact z
  have o:(Nz i k v).length<=Az:=by have:=Td i k v; omega
  refine Nd.setItemE (hz:=hz) (eE P) (Yy I.hok G) x λJ m t=>h _ ?_
  obtain ⟨q,R,N,n,O,U,T,_,L⟩:=m
  refine jK I (by rw[e]; exact Ks) t ⟨q,n⟩ ⟨o,p,_,(j.put k G K).keeps λc V D=>?_,q,R,N,n,O,U,T,L⟩
  rw[Cp (AL D e (λz=>nomatch z))]
  exact D
end
def W8(i:Expr):Prop:=∀b a,subscripted i false b a=operate [b,a] (Ug b a)
theorem X6{prog:Bp}{w:World}{A:Cn}{E:Value->Am->Prop}{s:Am}{env:Env}{b a:Expr}{pos:Pos}{T id:String}{Q:Value->Am->Prop}(hl:typeLookup (.type T) "__getitem__" = pure (some (.builtin id)))(m:W8 a)(h:wpAny (model prog w) A (eval b env) (λo f=>wpAny (model prog w) A (eval a env) (λi c=>c.TypeIs o T/\wpAny (model prog w) A (Ug o i) Q E c) E f) E s):wpAny (model prog w) A (eval (.Subscript b a pos) env) Q E s:=by
 refine Sk (Eo h (λo f k=>Eo k (λi c d=>?_) λ_ _ x=>x) λ_ _ x=>x)
 obtain ⟨l,d⟩:=d
 unfold Ux
 refine Ab ?_
 rw[getitemInPython_of_ne l.not_modules]
 refine Ab (wpAny_specialOf l hl ?_)
 have g:wpAny (model prog w) A (subscripted a false o i) (λr e=>wpAny (model prog w) A (letTemporaryGo b o r >>= λ_=>pure r) Q E e) E c:=by
  rw[m o i]
  exact wpAny_operating (Eo d (λr e j=>Ab (wpAny_letTemporaryGo (An j))) λ_ _ x=>x)
 first
  | exact An (Ab g)
  | exact Ab (An (Ab g))
  | exact Ab g
theorem mV{X:Cx}{c:List (Addr×Obj)}{h:St}{H:Hp}{s:Am}{a:Addr}{y:V}{o:Option V}(I:Inv X c h H s)(g:lX H a y o):s.TypeIs (.ref a) "dict" := by
 rcases g with ⟨f,k,e,_,_⟩ | ⟨f,k,b,e,_,_,_⟩
 ·obtain ⟨_,_,vs,_,d⟩:=lF I.hok e
  exact d.typeIs
 ·obtain ⟨_,_,i,_,d⟩:=tY I.hok e
  exact d.typeIs
def JT(d f:TE):TE:=λc H Q=>d c H λx e=>f c e λy b=>∃a v,x=.ref a/\lX b a y (some v)/\Q v b
def IX(e i g:TE):TS:=λD b H=>g b H λv f=>e b f λx d=>i b d λy h=>∃a c,x=.ref a/\U4 h a y v c/\D.nx b c
section
variable{X:Cx}{o i e b:Expr}{pos c j:Pos}{d f k:TE}
theorem uY(n:X.A.units+1<cLine)(G:PE X o d)(z:PE X i f)(D:W8 i):PE X (.Subscript o i pos) (JT d f):=by
 intro b s j H Q I h
 refine X6 PySem.F.slot_dict_getitem.lookup D (Il (G b s j H _ I h) λu C ⟨x,m,E,r,p⟩=>Il (z b C j m _ E p) λL K e => ?_)
 obtain ⟨y,B,k,q,a,v,l,g,w⟩ := e
 subst l
 obtain rfl:u=Bc a:=r
 exact ⟨mV k g,wX n k g q λJ M t c=>⟨v,B,t,c,w⟩⟩
theorem tW(t:X.A.units+1<cLine)(P:PE X o d)(J:PE X i f)(l:PE X b k)(N:Hg b (some (.Subscript o i c)) pos.line X.env=pure false):PS X (.Assign [.Subscript o i c] b pos) (IX d f k):=by
 intro e s j H D I h
 refine wpAny_Assign_Subscript (Il (l e s j H _ I h) λr L ⟨v,n,O,Q,B⟩=>Il (P e L j n _ O B) λu z ⟨x,K,M,E,G⟩=>Il (J e z j K _ M G) λS T ⟨y,R,F,C,a,p,m,g,q⟩=>?_) N
 subst m
 obtain rfl:u=Bc a:=E
 exact xD t F g C Q λU w=>⟨j,p,w,q⟩
end
theorem A4(h:Heap)(hb:Hk<h.objs.size):Hz P w H (h.push { cls:=.type "dict",data:=.dict #[] }) h.objs.size (.dK []) :=
 ⟨Dg _,beq_eq_false_iff_ne.mpr (Li (By hb)),[],.nil,Heap.DictOf.new h⟩
theorem oU(h:Heap)(hb:Hk<h.objs.size):Hz P w H (h.push { cls:=.type "dict",data:=.dict #[] }) h.objs.size (.dT []) :=
 ⟨Dg _,beq_eq_false_iff_ne.mpr (Li (By hb)),[],.nil,_,#[],0,Be _ rfl,⟨rfl,rfl,rfl⟩,rfl,rfl,Dt,rfl⟩
def FY:TE:=λ_ H Q=>∀p,H p=none->Q (.ref p) (upd H p (.dK []))
def FF:TE:=λ_ H Q=>∀p,H p=none->Q (.ref p) (upd H p (.dT []))
section
variable{X:Cx}{pos:Pos}
theorem yM:PE X (.Dict [] [] pos) FY:=λb s c H Q I h =>
 wpAny_Dict_empty ⟨.ref s.heap.objs.size,_,I.laid (a:=s.heap.objs.size) (o:=.dK []) (t':=s.toks) (λ_ _ q=>Ai _ q) (Ar _) (A4 s.heap I.big),rfl,h _ (I.hok.fresh (Ar _))⟩
theorem yR:PE X (.Dict [] [] pos) FF:=λb s c H Q I h =>
 wpAny_Dict_empty ⟨.ref s.heap.objs.size,_,I.laid (a:=s.heap.objs.size) (o:=.dT []) (t':=s.toks) (λ_ _ q=>Ai _ q) (Ar _) (oU s.heap I.big),rfl,h _ (I.hok.fresh (Ar _))⟩
end
structure M2(X:Cx)(o:Expr)(m:Str)(apos:Pos)(e f:Expr)(cpos:Pos):Prop where
 base:Po o m X.env (eval o X.env)=eval o X.env
 few:((Gr cpos (Bl [e,f] X.env)).all (λx=>!x.1) && (backToKw cpos (Ue [] X.env)).all (λx=>x.1.isSome)
  && decide (([e,f]:List Expr).length+([]:List Pq).length+(if ([]:List Pq).isEmpty then 0 else 1)<30))=true
 line:(apos.endLine == cpos.line)=true
 trees:Gr cpos (Bl [e,f] X.env)=[(false,eval e X.env),(false,eval f X.env)]
def MY(H:Hp)(a:Addr):Prop:=(∃b,Rd H a (.dK b))\/∃b,Rd H a (.dT b)
theorem CV{X:Cx}{g:List (Addr×Obj)}{l:St}{H:Hp}{s:Am}{a:Addr}(I:Inv X g l H s)(d:MY H a):s.TypeIs (.ref a) "dict" /\ (∀b,Bc a=.ref b->∃c,s.heap.get? b=some c/\c.dict=none)/\(a == Hk)=false:=by
 rcases d with ⟨h,e⟩ | ⟨h,e⟩
 ·obtain ⟨_,i,vs,_,f⟩:=lF I.hok e
  refine ⟨f.typeIs,λb q=>?_,i⟩
  cases q
  obtain ⟨c,_,_,j,k,_⟩:=f
  exact ⟨c,j,k.2.1⟩
 ·obtain ⟨_,i,m,_,f⟩:=tY I.hok e
  refine ⟨f.typeIs,λb q=>?_,i⟩
  cases q
  obtain ⟨c,_,_,j,k,_⟩:=f
  exact ⟨c,j,k.2.1⟩
section
variable{X:Cx}{c:List (Addr×Obj)}{f:St}{H:Hp}{s:Am}{a:Addr}{y d:V}{u r:Value}{o:Option V}{A:Cn}{E:Value->Am->Prop}
theorem EE(x:A.units+1<cLine)(I:Inv X c f H s)(g:lX H a y o)(t:RelV y u)(rd:RelV d r)(h:∀q s',Inv X c f H s'->RelV (o.getD d) q->Q q s'):wpAny (model X.prog X.w) A (call (.builtin "dict.get") [.ref a,u,r]) Q E s:=by
 rcases g with ⟨m,k,e,p,l⟩ | ⟨m,k,b,e,p,B,l⟩
 ·subst p
  obtain ⟨z,n,vs,i,j⟩:=lF I.hok e
  refine call_meetsIn PySem.F.slot_dict_get j.typeIs PySem.F.entry_dict_get (PySem.F.args_dict_get_3 _ _ _) (meets_dict_get_default (Hx X.prog X.w) a (uV t) n r) ⟨_,j.mapOf,h _ _ (I.tok _) ?_⟩
  rw[l]
  exact (i.val k).getD rd
 ·subst p
  cases (show u=Bc b from t)
  obtain ⟨z,n,v,i,j⟩:=tY I.hok e
  refine call_meetsIn PySem.F.slot_dict_get j.typeIs PySem.F.entry_dict_get (PySem.F.args_dict_get_3 _ _ _) (meetsH_dict_get_default (Sa (Hx X.prog X.w)) a b n r) ⟨eE x,k,v,Yy I.hok B,j,h _ _ (I.tok _) ?_⟩
  rw[l]
  exact (i.val k).getD rd
end
def x8(f h g:TE):TE:=λb H Q=>f b H λx c=>∃a,x=.ref a/\MY c a/\h b c λy e=>g b e λz d=>∃o,lX d a y o/\Q (o.getD z) d
section
variable{X:Cx}{o e f:Expr}{c b:Pos}{i k j:TE}
theorem J4(D:X.A.units+1<cLine)(W:PE X o i)(M:PE X e k)(P:PE X f j)(m:M2 X o "get" c e f b):PE X (.Call (.Attribute o "get" c) [e,f] [] b) (x8 i k j):=by
 intro l s n H Q I h
 refine wpAny_Call_method m.base m.few m.line PySem.F.plainAttrs_dict PySem.F.slot_dict_get PySem.F.type_dict_get (Il (W l s n H _ I h) λu T q => ?_)
 obtain ⟨x,v,r,N,a,w,d,J⟩ := q
 subst w
 obtain rfl:u=Bc a:=N
 obtain ⟨t,V,_⟩:=CV r d
 refine ⟨t,V,?_⟩
 rw[m.trees]
 refine oY rfl (Calls.evalArgs_plain (Hq (Il (M l T n v _ r J) λZ G ⟨y,S,U,L,R⟩ =>
  Hq (Il (P l G n S _ U R) λfv s3 ⟨z,B,O,K,ov,g,C⟩=>Mq ?_))))
 exact EE D O g L K λY s4 E p=>⟨_,B,E,p,C⟩
end
end L2
namespace Nd
open PySem PySem.Spec PyProof.Rows L2
end Nd
namespace DL
open PySem PySem.Spec PyProof.Rows L2 Nd
def Zt(ks:List (List Int×Ad))(w:List Int):Option Ad:=(ks.find? λp=>decide (p.1=w)).map (·.2)
def Ta(ks:List (List Int×Ad))(w:List Int)(d:Ad):List (List Int×Ad) :=
 if (ks.any λp=>decide (p.1=w))=true then ks.map (λp=>if p.1=w then (p.1,d) else p) else ks++[(w,d)]
theorem Rp{c e:Type}{f:c->e}(d:∀a b,f a=f b->a=b):∀{l m:List c},l.map f=m.map f->l=m
 | [],[],_=>rfl
 | [],_::_,h=>by cases h
 | _::_,[],h=>by cases h
 | a::l,b::m,h=>by
  obtain ⟨g,i⟩:=Dd h
  rw[d a b g,Rp d i]
theorem Th(h:Bj a=Bj b):a=b:=Rp (λx y e=>by cases e; rfl) (PyData.tuple.inj h)
theorem Um(h:Rg a=Rg b):a=b:=Rp (λx y e=>by
 obtain ⟨c,d⟩:=Prod.mk.inj e
 exact Prod.ext (Th c) d) (Dd h).2
theorem bJ(h:Ky a=Ky b):a=b:=Rp (λx y e=>by cases e; rfl) h
theorem jJ(w:List Int):(Ky w).map kV=w.map V.int:=by
 unfold Ky
 rw[Bm]
 rfl
section
variable{K:PySem.W.Frag}{H H':Hp}
structure DRel(K:PySem.W.Frag)(H:Hp)(kv:List (List Ib×V))(ks:List (List Int×Ad)):Prop where
 key:kv.map (·.1)=ks.map λp=>Ky p.1
 val:RdFs K H (kv.map (·.2)) (ks.map (·.2)) []
theorem RdF.dict_inv(h:RdF K H v (.dict X) F)(c:T7 X=true:=by first | rfl | assumption):∃a kv ks,v=.ref a/\X=Rg ks/\H a=some (.dT kv)/\DRel K H kv ks/\F=[a]:=by
 cases h with
 | dic h e b=>exact ⟨_,_,_,rfl,rfl,h,⟨e,b⟩,rfl⟩
 | dik h e b=>cases c
 | dnm h e b=>cases c
theorem RdFs.cons_nil(h:RdFs K H (x::xs) (d::b) F)(c:F=[]):RdF K H x d []/\RdFs K H xs b []:=by
 cases h with
 | cons a t =>
  obtain ⟨rfl,rfl⟩:=Na.mp c
  exact ⟨a,t⟩
theorem Ua(r:DRel K H kv ks):kv.length=ks.length:=by
 have:=congrArg Fi r.key
 simpa using this
theorem cR(w:List Int):∀{kv:List (List Ib×V)} {ks:List (List Int×Ad)},DRel K H kv ks->(Vi kv (Ky w)=none/\Zt ks w=none)\/∃v d,Vi kv (Ky w)=some v/\Zt ks w=some d/\RdF K H v d []
 | [],[],_=>.inl ⟨rfl,rfl⟩
 | [],_::_,r=>by cases r.key
 | _::_,[],r=>by cases r.key
 | (k,v)::kv,(u,d)::ks,r=>by
  obtain ⟨a,e⟩:=Dd r.key
  have a:k=Ky u:=a
  obtain ⟨f,c⟩:=RdFs.cons_nil r.val rfl
  by_cases h:u=w
  ·subst h a
   refine .inr ⟨v,d,To rfl,by simp [Zt],f⟩
  ·have b:¬ k=Ky w:=λz=>h (bJ (a.symm.trans z))
   rw[Tt b,show Zt ((u,d)::ks) w=Zt ks w by simp [Zt,h]]
   exact cR w ⟨e,c⟩
theorem B4(w:List Int)(r:DRel K H kv ks):(kv.any λp=>decide (p.1=Ky w))=(ks.any λp=>decide (p.1=w)):=by
 have a:(kv.any λp=>decide (p.1=Ky w))=((kv.map (·.1)).any λk=>decide (k=Ky w)):=by rw[Pp]; rfl
 rw[a,r.key,Pp]
 congr 1
 funext p
 exact decide_eq_decide.mpr ⟨λz=>bJ z,λz=>by show Ky p.1=Ky w; rw[z]⟩
theorem gM(w:List Int)(c:RdF K H v d []):∀{kv:List (List Ib×V)} {ks:List (List Int×Ad)},DRel K H kv ks->DRel K H (kv.map λp=>if p.1=Ky w then (p.1,v) else p) (ks.map λp=>if p.1=w then (p.1,d) else p)
 | [],[],r=>r
 | [],_::_,r=>by cases r.key
 | _::_,[],r=>by cases r.key
 | (k,v')::kv,(u,d')::ks,r=>by
  obtain ⟨a,g⟩:=Dd r.key
  have a:k=Ky u:=a
  obtain ⟨i,f⟩:=RdFs.cons_nil r.val rfl
  have b:=gM w c (kv:=kv) (ks:=ks) ⟨g,f⟩
  rw[Ax,Ax]
  by_cases h:u=w
  ·rw[if_pos (show k=Ky w by rw[a,h]),if_pos h]
   exact ⟨by rw[Ax,Ax,b.key]; exact congrArg (·::_) a,RdFs.cons (F:=[]) (G:=[]) c b.val⟩
  ·have e:¬ k=Ky w:=λz=>h (bJ (a.symm.trans z))
   rw[if_neg (show ¬ (k,v').1=Ky w from e),if_neg (show ¬ (u,d').1=w from h)]
   exact ⟨by rw[Ax,Ax,b.key]; exact congrArg (·::_) a,RdFs.cons (F:=[]) (G:=[]) i b.val⟩
theorem mJ(w:List Int)(a:RdF K H v d [])(r:DRel K H kv ks):DRel K H (Nz kv (Ky w) v) (Ta ks w d):=by
 unfold Nz Ta
 rw[B4 w r]
 split
 ·exact gM w a r
 ·refine ⟨by rw[Bg,Bg,r.key]; rfl,?_⟩
  rw[Bg,Bg]
  exact r.val.snoc a
theorem DRel.kp(r:DRel K H kv ks)(k:Kp [] H H'):DRel K H' kv ks:=⟨r.key,r.val.kp k⟩
end
def AN:R2:=λx y H Q=>∃a v,x=.ref a/\lX H a y (some v)/\Q v H
def jU:D2:=λx y P=>match x,y with
 | .dat _ (.dict X),.dat _ k=>∃a w d,X=Rg a/\k=Bj w/\Zt a w=some d/\P (.dat .ow d)
 | _,_=>False
section
variable{K:PySem.W.Frag}
theorem Xp(r:RdF K H v (Bj w) F):∃b,v=.ref b/\H b=some (.tup ((Ky w).map kV)):=by
 obtain ⟨b,d,rfl,c,a,_⟩:=r.tup_inv
 obtain ⟨rfl,_⟩:=a.ints_inv
 exact ⟨b,rfl,by rw[jJ]; exact c⟩
theorem R4:kQ K AN jU:=by
 intro A X n S T x y v w F G H Q P f c k
 unfold jU at c
 split at c
 ·obtain ⟨B,u,d,rfl,rfl,e,p⟩:=c
  obtain ⟨b,rfl,i⟩:=Xp (f.told mem_mid)
  obtain ⟨a,s,h,rfl,r,l,g,_⟩:=(f.told Ec).dict_inv
  obtain rfl:=Um r
  rcases cR u g with ⟨_,z⟩ | ⟨j,C,m,o,q⟩
  ·rw[z] at e; cases e
  ·rw[o] at e; cases e
   exact ⟨a,j,rfl,m▸lX.t l i,k _ _ [] H (f.drop2.pushI q) p⟩
 ·exact c.elim
end
section
variable{X:Cx}{a b:Expr}{d c:DE}{pos:Pos}
theorem GV(a:n+64<cLine):n+1<cLine:=by omega
theorem aH(f:X.A.units+64<cLine)(g:Ee X a d)(hb:Ee X b c)(e:W8 b:=by intro _ _; rfl):Ee X (.Subscript a b pos) (Wj jU d c):=PE.imp (uY (GV f) g hb e) (op_le R4)
end
def BD:DE:=λa P=>P (.dat .ow (.dict (Rg []))) a
theorem At.newD{K:PySem.W.Frag}{d H:Hp}{X:Addr->Prop}{n:Nat}{S T:List Ent}{p:Addr}(h:At K d X n (S++T) H)(c:H p=none):At K d X n (S++⟨some (.ref p),.dat .ow (.dict (Rg [])),[p]⟩::T) (upd H p (.dT [])):=by
 have i:=Gi c (.dT [])
 refine ((h.grow (n':=n) i (Ar _)).push (e:=⟨some (.ref p),.dat .ow (.dict (Rg [])),[p]⟩) ⟨_,rfl,.dic Dq rfl .nil,λ_=>Bw.mpr ⟨Bn,Dt⟩,λz=>nomatch z⟩ (λf j=>?_) λa b=>?_).tomid
 ·have g:=h.free c f j
  refine ⟨λ_ a b z=>?_,λ_ a b z=>?_⟩
  ·rw[Ak.mp b] at z
   exact g z
  ·rw[Ak.mp z] at b
   exact g (Et _ _ b)
 ·rw[Ak.mp b]
  exact .inl (h.new0 c)
theorem P8:Ee X (.Dict [] [] pos) BD:=by
 refine PE.imp yR λf H Q h=>?_
 obtain ⟨g,Y,S,T,c,P,rfl,b,e,a,k⟩:=h
 exact λp d=>k _ c _ _ S _ rfl b (e.newD d) a
theorem At.writeD{K:PySem.W.Frag}{i H:Hp}{X:Addr->Prop}{n:Nat}{E:List Ent}{v:Option V}{ks ks':List (List Int×Ad)}{a:Addr}{kv':List (List Ib×V)}(h:At K i X n (⟨v,.dat .ow (.dict (Rg ks)),[a]⟩::E) H)(p:v=some (.ref a))(np:∀e∈E,Lf e.x=false)(r:DRel K H kv' ks'):At K i X n (⟨v,.dat .ow (.dict (Rg ks')),[a]⟩::E) (upd H a (.dT kv')):=by
 obtain ⟨w,L,rd,I,M⟩:=h.ok _ Aa
 obtain ⟨b,N,s,G,J,C,_,D⟩:=rd.dict_inv
 have l:[a]=[b]:=D
 cases l
 have g:=Ba.mp h.sep
 have kp:∀{j:List Addr},a∉j->Kp j H (upd H a (.dT kv')):=λ{j} t b o q z=>by
  have : b≠a:=by
   rintro rfl
   rw[C] at q
   cases q
   rcases z with z | z
   ·exact t z
   ·rcases z with ⟨_,z⟩ | ⟨_,_,z⟩ <;> cases z
  rw[Cp this]
  exact q
 have m:i a=none:=by
  rcases h.new _ Aa a Aa with z | z
  ·exact z
  ·cases z.2
 refine ⟨λf hf=>?_,Ba.mpr ⟨λf hf=>⟨λB c d=>(g.1 f hf).1 (.inl (np f hf)) c d,λB c d=>(g.1 f hf).2 (.inl rfl) c d⟩,g.2⟩,λf hf=>?_,λb o A q=>?_,λb o q=>?_,λb y=>?_⟩
 ·rcases Ao.mp hf with rfl | hf
  ·exact ⟨.ref a,p,.dic Dq r.key (r.val.kp (kp Bn)),λ_=>Bw.mpr ⟨Bn,Dt⟩,λz=>nomatch z⟩
  ·exact (h.ok f (Ae _ hf)).kp (kp ((g.1 f hf).1 (.inl (np f hf)) a Aa)) (Ar _)
 ·rcases Ao.mp hf with rfl | hf
  ·exact λc d=>h.new _ Aa c d
  ·exact h.new f (Ae _ hf)
 ·rw[Cp (Dm q m)]
  exact h.same b o A q
 ·rw[Cp (Dm q m)]
  exact h.dom b o q
 ·obtain ⟨z,c,k,f,F,u⟩:=h.xd b y
  refine ⟨z,c,k,f,(Cp ?_).trans F,u⟩
  rintro rfl
  exact z m
theorem lD{K:PySem.W.Frag}{p H:Hp}{X:Addr->Prop}{S T:List Ent}{b:DS}{i:Nat}{ks ks':List (List Int×Ad)}(f:Sl S b)(B:∀e∈T,Lf e.x=false)(q:At K p X b.n (S++T) H)(D:b.sl[i]? = some (.dat .ow (.dict (Rg ks))))(np:npk b.sl=true):∃a kv,(vs S)[i]? = some (some (.ref a))/\H a=some (.dT kv)/\DRel K H kv ks/\∀kv',DRel K H kv' ks'->∃m,vs m=vs S/\Sl m ⟨b.sl.set i (.dat .ow (.dict (Rg ks'))),b.n⟩/\At K p X b.n (m++T) (upd H a (.dT kv')):=by
 obtain ⟨d,c,w⟩:=Ge f D
 have C:d∈S:=Au c
 obtain ⟨u,x,F⟩:=d
 have g:x=.dat .ow (.dict (Rg ks)):=w
 subst g
 obtain ⟨v,o,rd,_⟩:=q.ok _ (Ap _ C)
 obtain ⟨a,kv,t,rfl,A,z,l,E⟩:=rd.dict_inv
 obtain rfl:=Um A
 have h:F=[a]:=E
 subst h
 refine ⟨a,kv,by rw[Jk c]; exact congrArg some o,z,l,λkv' r=>?_⟩
 have y:=Yq f np
 have G:=(q.perm ((Ia c).append_right T)).writeD (ks':=ks') (kv':=kv') o (λe he=>?_) r
 ·refine ⟨S.set i ⟨u,.dat .ow (.dict (Rg ks')),[a]⟩,?_,?_,G.perm ((Ln c).append_right T).symm⟩
  ·unfold vs
   rw[Ea]
   apply Eu
   intro j
   rw[Fj]
   split
   ·rename_i k
    subst k
    rw[Aq,c]
    split
    ·rfl
    ·rename_i s
     rw[Ac] at s
     exact absurd (Af.mp c).1 s
   ·rfl
  ·unfold Sl at f ⊢
   rw[Ea,f]
 ·rcases Bf.mp he with he | he
  ·exact y e ((Kd S i).subset he)
  ·exact B e he
theorem Vm{b:Type}:∀{l:List b} {i:Nat} {x:b},l[i]? = some x->l.set i x=l
 | [],_,_,h=>by simp at h
 | a::l,0,x,h=>by simp at h; subst h; rfl
 | a::l,i+1,x,h=>by
  rw[Zd,Vm (by simpa using h)]
def dputB(i:Nat)(y z:DV)(a:DS)(D:DEnds):Prop:=match a.sl[i]?,y,z with
 | some (.dat .ow (.dict X)),.dat _ e,.dat _ k=>npk a.sl=true/\imm e=true/\∃b w,X=Rg b/\k=Bj w/\b.length<1000000/\D.nx ⟨a.sl.set i (.dat .ow (.dict (Rg (Ta b w e)))),a.n⟩
 | _,_,_=>False
def isDct:Option DV->Bool
 | some (.dat _ (.dict X))=>T7 X
 | _=>false
def X9(i:Nat)(c e:DE):DB:=λD d=>e d λy a=>isDct a.sl[i]? = true/\c a λz b=>dputB i y z b D
section
variable{X:Cx}{o i e:Expr}{g l:DE}{f j pos c:Pos}{n:Nat}
theorem G7{K:PySem.W.Frag}{i H:Hp}{Y:Addr->Prop}{S T:List Ent}{c:DS}(h:Sl S c)(o:At K i Y c.n (S++T) H)(b:isDct c.sl[n]? = true):∃a kv,(vs S)[n]? = some (some (.ref a))/\H a=some (.dT kv):=by
 cases q:c.sl[n]? with
 | none=>rw[q] at b; cases b
 | some x =>
  rw[q] at b
  obtain ⟨d,f,j⟩:=Ge h q
  obtain ⟨u,y,F⟩:=d
  have e:y=x:=j
  subst e
  have l:(⟨u,y,F⟩ : Ent)∈S:=Au f
  match y,b with
  | .dat m (.dict X),b =>
   have p:T7 X=true:=b
   obtain ⟨v,g,rd,_⟩:=o.ok _ (Ap _ l)
   obtain ⟨a,kv,r,rfl,_,k,_⟩:=rd.dict_inv
   exact ⟨a,kv,by rw[Jk f]; exact congrArg some g,k⟩
theorem V3(Q:X.A.units+64<cLine)(ho:PE X o (Tn n))(hi:Ee X i g)(he:Ee X e l)(hs:Hg e (some (.Subscript o i c)) pos.line X.env=pure false:=by rfl):iJ X (.Assign [.Subscript o i c] e pos) (X9 n g l):=by
 refine PS.impD (tW (GV Q) ho hi he hs) λD σ H h=>?_
 obtain ⟨C,Y,S,T,δ,P,rfl,M,hT,hA,hd,k1,k2,k3,k4⟩:=h
 refine ⟨C,Y,S,T,δ,_,rfl,M,hA,hd,λy s v F V H1 K E m q=>?_⟩
 obtain ⟨q,p2⟩:=q
 obtain ⟨a,kv,p,ha⟩:=G7 E m.drop q
 rw[K] at p
 refine ⟨.ref a,p,C,Y,V,⟨some v,y,F⟩::T,s,_,K,E,m,p2,λz h0 w G S2 H2 I W f j=>?_⟩
 unfold dputB at j
 split at j
 ·rename_i X0 m1 d m2 k B
  obtain ⟨j,p4,Z,u,rfl,rfl,p5,R⟩:=j
  obtain ⟨b,rfl,U⟩:=Xp (f.told mem_mid)
  have r:=f.told Ec
  obtain rfl:=r.imm p4
  obtain ⟨a',x,L,g2,J,g4⟩:=lD (ks':=Ta Z u d) W hT f.drop2 B j
  rw[I,p] at L
  cases L
  obtain ⟨O,h1,N,h3⟩:=g4 (Nz x (Ky u) v) (mJ u r J)
  refine ⟨a,_,rfl,U4.t g2 U (by rw[Ua J]; exact Bs p5 (dZ (n:=1000000) (Ar _))),?_⟩
  rw[<- I,<- h1]
  exact k1 ⟨_,_⟩ O _ N h3 R
 ·exact j.elim
end
def AV:V->Int
 | .int i=>i
 | _=>0
def yY(H:Hp)(r:Addr):List Int:=match H r with
 | some (.tup xs)=>xs.map AV
 | _=>[]
theorem GB(h:H r=some (.tup (w.map V.int))):yY H r=w:=by
 unfold yY
 rw[h]
 show (w.map V.int).map AV=w
 rw[Bm]
 exact List.map_id' w
section
variable{K:PySem.W.Frag}{H:Hp}
theorem Tx:∀{ws:List (List Int)} {xs:List V} {f:List Ad} {G:List Addr},RdFs K H xs f G->f=ws.map Bj->∃b:List Addr,xs=b.map V.ref/\ws=b.map (yY H)/\G=[]/\(∀r∈b,H r=some (.tup ((yY H r).map V.int)))/\∀r∈b,RdF K H (.ref r) (Bj (yY H r)) []
 | [],_,_,_,h,e=>by
  subst e
  cases h
  exact ⟨[],rfl,rfl,rfl,(λ_ z=>nomatch z),(λ_ z=>nomatch z)⟩
 | w::ws,_,_,_,h,e=>by
  cases h with
  | nil=>cases e
  | cons a t =>
   obtain ⟨i,g⟩:=Dd e
   obtain ⟨b,rfl,rfl,rfl,j,k⟩:=Tx t g
   subst i
   obtain ⟨r,rfl,c⟩:=Xp a
   rw[jJ] at c
   have d:=GB c
   obtain rfl:=a.imm (show imm (Bj w)=true from Px w)
   refine ⟨r::b,rfl,by rw[Ax,d],rfl,λx hx=>?_,λx hx=>?_⟩
   ·rcases Ao.mp hx with rfl | hx
    ·rw[d]; exact c
    ·exact j x hx
   ·rcases Ao.mp hx with rfl | hx
    ·rw[d]; exact a
    ·exact k x hx
theorem Vv:∀{a:List Addr},(∀r∈a,RdF K H (.ref r) (Bj (yY H r)) [])->RdFs K H (a.map V.ref) ((a.map (yY H)).map Bj) []
 | [],_=>.nil
 | r::a,h=>RdFs.cons (F:=[]) (G:=[]) (h r (Aa ..)) (Vv λx b=>h x (Ae _ b))
theorem Wa:∀L:List (List Int),Dl (L.map Bj)=true
 | []=>rfl
 | w::L=>by
  show (imm (Bj w) && Dl (L.map Bj))=true
  rw[Wa L,show imm (Bj w)=true from Px w]; rfl
def iB:DC:=λb P=>match b with
 | [.dat _ (.list ds)]=>∃a:List (List Int),ds=a.map Bj/\a.length<64/\∀L:List (List Int),L.Perm a->L.Pairwise (λx y=>HT.lexLt y x=false)->P (.dat .ow (.list (L.map Bj)))
 | _=>False
theorem nX:Pb K (Ts.rSortI K) iB:=by
 intro x X n S T y A H Q P i c d k
 unfold iB at d
 split at d
 ·rename_i g
  obtain ⟨v,F,rfl,c⟩:=Ii i c g
  obtain ⟨z,rfl,b,w⟩:=d
  obtain ⟨a,B,G,rfl,m,j,rfl,u⟩:=(c.told mem_mid).list_inv
  obtain ⟨o,rfl,rfl,rfl,h,p⟩:=Tx j rfl
  refine ⟨a,o,yY H,rfl,Kv.of m,λr e=>Ve.of (h r e),by rw[Ac] at b; exact b,λq l s f t=>?_⟩
  refine k _ _ _ _ (c.drop.newI (Vv λr e=>p r (f.mem_iff.mp e)) (Wa _) (by rw[Ac,Ac,f.length_eq]; simpa using u) s .ow) (w _ (f.map _) (Kg.mpr t))
 ·exact d.elim
end
end DL
namespace Nd
open PySem PySem.Spec PyProof.Rows L2
def vV(h:Heap)(d:Addr)(es:Array Nt)(b:Nat):Prop:=∃a,h.get? d=some a/\a.ExactDict/\a.data=.dict es b
section
variable{prog:Bp}{w:World}{A:Cn}{E:Value->Am->Prop}{s:Am}{it d:Addr}{es:Array Nt}{i c:Nat}
theorem iA(g:s.heap.IsKeyIter it d i es.size c)(n:vV s.heap d es c)(h:es[i]? = some x)(k:∀h',h'.IsKeyIter it d (i+1) es.size c->Gk it s.heap h'->Q (some x.key) { s with heap:=h' }):wpAny (model prog w) A (callSpecial? (.ref it) (Do "__next__")) Q E s:=by
 obtain ⟨t,e,m,b⟩:=id g
 obtain ⟨o,f,r,j⟩:=id n
 have a:=g.typeIs
 refine Fu (name:=Do "__next__") a PySem.F.slot_dict_keyiterator_next (Gq PySem.F.slot_dict_keyiterator_next a PySem.F.entry_dict_keyiterator_next ?_ (PySem.F.args_dict_keyiterator_next_1 _))
 refine Ab (An (Ab (Ab ?_)))
 first | refine Ab (Jy a (An ?_)) | refine Ab (Mn a (An ?_))
 refine Ab (wpAny_fieldsOf e b ?_)
 simp only[show Uj "dict_keyiterator" = false by decide,Dh,if_false]
 show wpAny _ _ (ite ((Bc d == Jf)=true) _ _) _ _ s
 rw[if_neg (show ¬ (Bc d == Jf)=true from Cr)]
 refine Ab (An (Ab (gU f j ?_)))
 rw[if_neg (by simp)]
 refine Ab (An (Ab (wpAny_dictEpoch f j ?_)))
 rw[if_neg (by simp)]
 refine An ?_
 obtain ⟨q,p⟩:=Array.getElem?_eq_some_iff.mp h
 simp only[show ¬ ((i:Int)<0) from by omega,Cs,if_false,h]
 refine Ab ?_
 first | refine Ab (Jy a (An ?_)) | refine Ab (Mn a (An ?_))
 refine Ab (wpAny_isOneOf_keyiter a ?_)
 show wpAny _ _ (bind (setField (.ref it) 1 (Jm ((i:Int)+1))) _) _ _ s
 refine Ab (wpAny_setField e b (by simp) ?_)
 have l:(s.heap.update it (Obj.mapFields (·.setIfInBounds 1 (Jm ((i:Int)+1))))).IsKeyIter it d (i+1) es.size c :=
  ⟨_,Gf _ e (Obj.isFreed_of_fields (Obj.data_mapFields b _)),(Obj.cls_mapFields ..).trans m,by rw[Obj.data_mapFields b]; simp [Jm]⟩
 refine Ab (Cc (Ab (wpAny_isOneOf_keyiter (s:={ s with heap:=s.heap.update it (Obj.mapFields (·.setIfInBounds 1 (Jm ((i:Int)+1)))) }) l.typeIs ?_)))
 show wpAny _ _ (pure x.key) _ _ _
 exact An (An ⟨_,rfl,k _ l (Cj ..)⟩)
theorem xX(g:A.handled=none)(i:s.heap.IsKeyIter it d es.size es.size c)(n:vV s.heap d es c)(k:∀h' e,Heap.ExtBut it s.heap h'->(∃o,h'.get? e=some o/\o.cls=.type "StopIteration")->E (.ref e) { s with heap:=h' }):wpAny (model prog w) A (callSpecial? (.ref it) (Do "__next__")) Q E s:=by
 obtain ⟨t,l,p,h⟩:=id i
 obtain ⟨q,f,r,j⟩:=id n
 have b:=i.typeIs
 refine Fu (name:=Do "__next__") b PySem.F.slot_dict_keyiterator_next (Gq PySem.F.slot_dict_keyiterator_next b PySem.F.entry_dict_keyiterator_next ?_ (PySem.F.args_dict_keyiterator_next_1 _))
 refine Ab (An (Ab (Ab ?_)))
 first | refine Ab (Jy b (An ?_)) | refine Ab (Mn b (An ?_))
 refine Ab (wpAny_fieldsOf l h ?_)
 simp only[show Uj "dict_keyiterator" = false by decide,Dh,if_false]
 show wpAny _ _ (ite ((Bc d == Jf)=true) _ _) _ _ s
 rw[if_neg (show ¬ (Bc d == Jf)=true from Cr)]
 refine Ab (An (Ab (gU f j ?_)))
 rw[if_neg (by simp)]
 refine Ab (An (Ab (wpAny_dictEpoch f j ?_)))
 rw[if_neg (by simp)]
 refine An ?_
 simp only[show ¬ ((es.size:Int)<0) from by omega,Cs,if_false,oZ (Ar es.size)]
 refine Ab ?_
 first | refine Ab (Jy b (An ?_)) | refine Ab (Mn b (An ?_))
 show wpAny _ _ (bind (setField (.ref it) 0 .none) _) _ _ s
 refine Ab (wpAny_setField l h (by simp) ?_)
 show wpAny _ _ (bind (newExc (.type "StopIteration") []) _) _ _ _
 refine Ab ?_
 simp only[newTuple,newExc]
 refine Ab (Ek ?_ (by size_fits))
 refine Ab (m:=Zp _ _) (wpAny_of_eq (a:=Jf) (by first | rfl | (simp only[Zp]; rfl)) (Ek ?_ (by size_fits)))
 simp only[raiseNew]
 refine Ab (wpAny_handled ?_)
 first | rw[show A.in1.handled=none from g] | rw[g]
 refine Ab (An (wpAny_throw ?_))
 exact k _ _ (((Cj ..).extBut.push _).push _) ⟨_,Be _ rfl,rfl⟩
theorem wO(hd:(d == Hk)=false)(f:vV s.heap d es c)(k:Q (.ref s.heap.objs.size) { s with heap:=s.heap.push { cls:=.type "dict_keyiterator",data:=.fields #[.ref d,.int 0 0,.int es.size 0,.int c 0] } }):wpAny (model prog w) A (pyIter (.ref d)) Q E s:=by
 obtain ⟨g,a,h,e⟩:=id f
 have b:s.TypeIs (.ref d) "dict" := ⟨g,a,h.1⟩
 refine wpAny_pyIter_slot b PySem.F.slot_dict_iter (Gq PySem.F.slot_dict_iter b PySem.F.entry_dict_iter ?_ (PySem.F.args_dict_iter_1 _))
 unfold Builtin.«dict.__iter__» Builtin.Dict.dictSlotNone
 refine Ab (Ab (Xv b ?_))
 show wpAny _ _ (pure (.ref d:Value)) _ _ s
 refine An ?_
 show wpAny _ _ (bind (Builtin.Dict.showsAll d) _) _ _ s
 unfold Builtin.Dict.showsAll
 rw[if_neg (by rw[hd]; exact Cr)]
 refine Ab (An (Ab (gU a e (Ab (wpAny_dictEpoch a e ?_)))))
 refine Ab (Ek (An ⟨_,rfl, "dict_keyiterator",_,⟨_,Be _ rfl,rfl⟩,PySem.F.slot_dict_keyiterator_next.lookup,?_⟩))
 exact k
theorem xR(e:s.heap.IsKeyIter it d i es.size c)(g:vV s.heap d es c)(f:es[i]? = some x)(k:∀h',h'.IsKeyIter it d (i+1) es.size c->Gk it s.heap h'->Q (some x.key) { s with heap:=h' }):wpAny (model prog w) A (Nh (.ref it)) Q E s:=by
 unfold Nh
 exact Ab (Mp (iA e g f λh' a b=>An (k h' a b)))
theorem J3(f:A.handled=none)(h:s.heap.IsKeyIter it d es.size es.size c)(g:vV s.heap d es c)(k:∀h',Heap.ExtBut it s.heap h'->Q none { s with heap:=h' }):wpAny (model prog w) A (Nh (.ref it)) Q E s:=by
 unfold Nh
 refine Ab (Mp (xX f h g λh' e x a => ?_))
 obtain ⟨o,j,i⟩ := a
 exact Ab (Vo (T := "StopIteration") (b:=true) ⟨o,j,i⟩ isSubtype_stop (An (k h' x)))
end
theorem sF(ok:Wq P w H h)(e:H a=some (.dT c)):∃(es:Array Nt),(a == Hk)=false/\vV h a es c.length/\es.size=c.length/\∀(i:Nat) (x:Nt),es[i]? = some x->∃k b v,c[i]? = some (k,v)/\x.key=.ref b/\H b=some (.tup (k.map kV))/\k.length<=Az:=by
 obtain ⟨_,u,f,g,o,es,I,D,F,G,t,_,m⟩:=(show Hz P w H h a (.dT c) from ok a _ e)
 have s:es.size=c.length:=by
  have:=congrArg Fi t
  rw[Ac,<- Paired.length g] at this
  simpa using this
 refine ⟨es,u,⟨o,D,F,by rw[G,m,s]⟩,s,λi x B=>?_⟩
 have d:es.toList[i]? = some x:=by rw[Array.getElem?_toList]; exact B
 rw[t,Aq] at d
 cases q:f[i]? with
 | none=>rw[q] at d; cases d
 | some y =>
  rw[q] at d
  cases d
  have C:∀{c:List (List Ib×V)} {f:List (List Ib×Addr×Value)} {i:Nat},Paired (λ(p:List Ib×V) (q:List Ib×Addr×Value)=>p.1=q.1/\H q.2.1=some (.tup (p.1.map kV))/\RelV p.2 q.2.2) c f->f[i]? = some y->∃p,c[i]? = some p/\H y.2.1=some (.tup (p.1.map kV)):=by
   intro c f i r
   induction r generalizing i with
   | nil=>intro z; simp at z
   | cons E _ A =>
    intro z
    cases i with
    | zero=>simp at z; subst z; exact ⟨_,rfl,E.2.1⟩
    | succ j=>exact A (by simpa using z)
  obtain ⟨p,n,l⟩:=C g q
  refine ⟨p.1,y.2.1,p.2,n,rfl,l,?_⟩
  have:=(show Hz P w H h y.2.1 (.tup (p.1.map kV)) from ok _ _ l).1
  rwa [Ac] at this
def LQ(a:Addr)(n:Nat):It :=
  ⟨λi H=>∃b,H a=some (.dT b)/\b.length=n/\i<n,
   λi H x c=>∃t k v,x=.ref t/\c=H/\(∀b,H a=some (.dT b)->b[i]? = some (k,v))/\H t=some (.tup (k.map kV))/\k.length<=Az,
   λi H=>∃b,H a=some (.dT b)/\b.length=n/\i=n⟩
theorem vN{P:Bp}{w:World}{K:PySem.W.Frag}{R:Expr}{n:Nat}(a it:Addr)(na:a≠it):Turn P w K R (LQ a n) [it] it (λi h=>h.IsKeyIter it a i n n) where
 mem:=Aa
 obj:=λi h st c b=>by
  obtain ⟨G,u,F,C⟩:=st
  rw[Ak.mp b]
  exact ⟨G,u,λv z=>by rw[C] at z; cases z⟩
 keep:=λi h B st kp=>st.at λo q=>kp it (by simp) o q
 item:=by
  intro X l y r b i f s N H E I j st p
  subst l y r
  obtain ⟨Z,g,rfl,D⟩:=p
  obtain ⟨es,T,t,d,e⟩:=sF I.hok g
  have L:i<es.size:=by omega
  refine xR (es:=es) (by rw[d]; exact st) (by exact t) (x:=es[i]) (by simp [L]) λM A hs=>⟨_,rfl,?_⟩
  rw[d] at A
  obtain ⟨G,u,F,C⟩:=id A
  refine sO u F C (by decide) ?_
  obtain ⟨U,J,V,S,Y,O,m⟩:=e i es[i] (by simp [L])
  have k:Gk it s.heap M:=hs
  exact ⟨.ref J,H,Og (fp:=[it]) (t':=s.toks) I (λc o b q=>(k.2 c λz=>b (by simp [z])).trans q) j,Y,⟨J,U,V,rfl,rfl,λQ B=>by rw[g] at B; cases B; exact S,O,m⟩,A,λc b=>(j c b).1⟩
 done:=by
  intro X l y r b i f s N H E I j st p
  subst l y r
  obtain ⟨Z,g,rfl,rfl⟩:=p
  obtain ⟨es,T,t,d,e⟩:=sF I.hok g
  refine J3 (es:=es) (I.ok.hd b) (by rw[d]; exact st) t λM D=>⟨rfl,Og (fp:=[it]) (t':=s.toks) I (λc o b q=>D c o (λz=>b (by simp [z])) q) j⟩
 self:=λ_ _ _ _ _ st h=>wpAny_pyIter_keyiter st h
section
variable{X:Cx}
def IB(e:TE):TI:=λd H R=>e d H λv c=>∃a b,v=.ref a/\c a=some (.dT b)/\R (LQ a b.length) c
theorem P5(z:PE X e l):PI X w e (IB l):=by
 intro d s p H R I h
 refine Il (z d s p H _ I h) λu k i => ?_
 obtain ⟨v,r,f,B,a,D,y,t,q⟩ := i
 subst y
 cases (show u=Bc a from B)
 obtain ⟨C,x,m,g,n⟩:=sF f.hok t
 have j:a<k.heap.objs.size:=let ⟨o,q,_⟩:=m; Bb q
 refine wO x m ?_
 refine ⟨k.heap.objs.size,_,_,_,r,rfl,f.kept (t':=k.toks) (λb u q=>Ai _ q),vN a _ (By j),⟨_,Be _ rfl,rfl,by rw[g]; rfl⟩,λc A=>?_,q⟩
 rw[Ak.mp A]
 exact f.fpOk (Ar _) (f.hok.fresh (Ar _))
end
end Nd
namespace DL
open PySem PySem.Spec PyProof.Rows L2 Nd
section
variable{K:PySem.W.Frag}
theorem BN{H:Hp}{kv:List (List Ib×V)}{ks:List (List Int×Ad)}{i:Nat}{k:List Ib}{v:V}(r:DRel K H kv ks)(h:kv[i]? = some (k,v)):∃w d,ks[i]? = some (w,d)/\k=Ky w:=by
 have e:=congrArg (λl=>l[i]?) r.key
 simp only[Aq,h,Option.map_some] at e
 cases q:ks[i]? with
 | none=>rw[q] at e; cases e
 | some p=>rw[q] at e; exact ⟨p.1,p.2,rfl,Bo e⟩
theorem X7(h:H t=some (.tup ((Ky w).map kV)))(hl:(Ky w).length<=Az):RdF K H (.ref t) (Bj w) []:=by
 rw[jJ] at h
 refine .tup h ?_ (RdFs.ints w)
 unfold Ky at hl
 rw[Ac] at hl ⊢
 exact hl
end
def zC(ks:List (List Int×Ad)):List (List Ib×Ad):=ks.map λp=>(Ky p.1,p.2)
section
variable{K:PySem.W.Frag}{d H H':Hp}{X:Addr->Prop}{n:Nat}{E S T:List Ent}
theorem i8(h1:kv.map (·.1)=(zC ks).map (·.1))(a:RdFs K H (kv.map (·.2)) ((zC ks).map (·.2)) []):DRel K H kv ks:=by
 unfold zC at h1 a
 rw[Bm] at h1 a
 exact ⟨h1,a⟩
theorem BZ(r:DRel K H kv ks):kv.map (·.1)=(zC ks).map (·.1)/\RdFs K H (kv.map (·.2)) ((zC ks).map (·.2)) []:=by
 unfold zC
 rw[Bm,Bm]
 exact ⟨r.key,r.val⟩
theorem At.dNew(h:At K d X n E H)(c:H D=Option.none):At K d X n (⟨some (.ref D),.dT (zC []),[D]⟩::E) (upd H D (.dT [])):=by
 have g:=Gi c (.dT [])
 refine (h.grow (n':=n) g (Ar _)).push ⟨D,[],rfl,rfl,Dq,rfl,.nil⟩ (λf i=>?_) λa b=>?_
 ·have e:=h.free c f i
  refine ⟨λ_ a b z=>?_,λ_ a b z=>?_⟩
  ·rw[Ak.mp b] at z
   exact e z
  ·rw[Ak.mp z] at b
   exact e (Et _ _ b)
 ·rw[Ak.mp b]
  exact .inl (h.new0 c)
theorem At.dPut(h:At K d X n (⟨some (.ref D),.dT (zC ks),[D]⟩::E) H)(r:RdF K H v e []):∃kv,H D=some (.dT kv)/\kv.length=ks.length/\At K d X n (⟨some (.ref D),.dT (zC (Ta ks w e)),[D]⟩::E) (upd H D (.dT (Nz kv (Ky w) v))):=by
 obtain ⟨a,kv,B,J,y,t,u⟩:=h.ok _ Aa
 have s:some (V.ref D)=some (V.ref a):=B
 cases s
 have j:=i8 t u
 have m:=Ba.mp h.sep
 have x:=h.sub (Cw _ _)
 have kp:∀{F:List Addr},D∉F->Kp F H (upd H D (.dT (Nz kv (Ky w) v))):=λ{F} G b o q z=>by
  have : b≠D:=by
   rintro rfl
   rw[y] at q
   cases q
   rcases z with z | z
   ·exact G z
   ·rcases z with ⟨_,z⟩ | ⟨_,_,z⟩ <;> cases z
  rw[Cp this]
  exact q
 have l:d D=Option.none:=by
  rcases h.new _ Aa D Aa with z | z
  ·exact z
  ·cases z.2
 have i:=(mJ w r j).kp (kp Bn)
 obtain ⟨I,g2⟩:=BZ i
 refine ⟨kv,y,Ua j,?_⟩
 refine ⟨λf hf=>?_,Ba.mpr ⟨λf hf=>⟨λp a g=>(m.1 f hf).1 p a g,λp a g=>(m.1 f hf).2 (p.imp id id) a g⟩,m.2⟩,λf hf=>?_,λb o C q=>?_,λb o q=>?_,λb A=>?_⟩
 rotate_right
 ·obtain ⟨z,c,k,f,t,u⟩:=h.xd b A
  refine ⟨z,c,k,f,(Cp ?_).trans t,u⟩
  rintro rfl
  exact z l
 ·rcases Ao.mp hf with rfl | hf
  ·exact ⟨D,_,rfl,rfl,Dq,I,g2⟩
  ·exact (x.ok f hf).kp (kp ((m.1 f hf).1 (.inr rfl) D Aa)) (Ar _)
 ·rcases Ao.mp hf with rfl | hf
  ·intro a g
   rw[Ak.mp g]
   exact .inl l
  ·exact x.new f hf
 ·rw[Cp (Dm q l)]
  exact h.same b o C q
 ·rw[Cp (Dm q l)]
  exact h.dom b o q
theorem At.dGot(h:At K d X n (⟨some (.ref D),.dT (zC ks),[D]⟩::E) H):At K d X n (⟨some (.ref D),.dat .ow (.dict (Rg ks)),[D]⟩::E) H:=by
 obtain ⟨a,p,j,q,l,m,o⟩:=h.ok _ Aa
 have e:some (V.ref D)=some (V.ref a):=j
 cases e
 have c:=i8 m o
 have g:=Ba.mp h.sep
 refine (h.sub (Cw _ _)).push ⟨_,rfl,.dic l c.key c.val,λ_=>Bw.mpr ⟨Bn,Dt⟩,λz=>nomatch z⟩ (λf i=>⟨λk a b=>(g.1 f i).1 (.inr rfl) a b,λk a b=>(g.1 f i).2 (.inl rfl) a b⟩) λa b=>?_
 rcases h.new _ Aa a b with z | z
 ·exact .inl z
 ·cases z.2
end
theorem C2(ks:List (List Int×Ad))(w:List Int)(d:Ad):(Ta ks w d).length<=ks.length+1:=by
 unfold Ta
 split
 ·rw[Ac]; omega
 ·rw[Bz]; simp
end DL
namespace Nd
open PySem PySem.Spec PySem.Calls PyProof.Rows PyProof.V L2
def IR(r:Addr)(j:Int)(h:Heap):Prop:=∃t u v,IsRange h r 0 j 1 t u v
abbrev A3(r:Addr)(j:Int):HO:=.ext (IR r j)
section
variable{X:Cx}
def IJ:List V->Hp->VK->Prop:=λa H Q=>∃j:Int,a=[.int j]/\∀r,H r=none->Q (.ref r) (upd H r (A3 r j))
theorem mO:Pe X (.type "range") IJ:=by
 intro c s f H l d Q I r h
 obtain ⟨j,rfl,q⟩:=h
 obtain ⟨u,rfl,t,rfl⟩:=vals1 r
 refine call_range_1 ⟨.ref s.heap.objs.size,_,I.laid (a:=s.heap.objs.size) (o:=A3 s.heap.objs.size j) (t':=s.toks+1+1) (λb o e=>Ai _ e) (Ar _) ?_,rfl,q _ (I.hok.fresh (Ar _))⟩
 refine ⟨⟨_,_,_,Be _ rfl⟩,⟨_,Be _ rfl⟩,λg i ⟨t,u,v,e⟩ k=>⟨t,u,v,k _ e⟩⟩
end
end Nd
namespace DL
open PySem PySem.Spec PyProof.Rows L2 Nd
def KS(K:PySem.W.Frag)(h:PF):Sp:=λg H Q _=>∃(b:List Ent) (n:Nat) (f:List Ad) (R:Ad->Prop) (C:List Addr),b.map Ent.v=g.map some/\(∀e∈b,Ho K H n e)/\datas (b.map Ent.x)=some f/\h f R/\(∀a∈C,H a≠none/\∀e∈b,a∉e.F) /\
 ∀v d F c,R d->RdF K c v d F->(∀a∈F,a∉C)->Tf H c->Q v c
def retA(R:Ad->Prop):DEnds where
 nx:=λ_=>R .none
 rt:=λx _=>∃m d,x=.dat m d/\m≠.pk/\R d
section
variable{K:PySem.W.Frag}{b H H':Hp}{X:Addr->Prop}{n:Nat}{E S T:List Ent}
theorem At.pushS(h:At K b X n E H)(r:RdF K H v d F)(fr:∀f∈E,∀a∈cells f,a∉F):At K b X n (⟨some v,.dat .sh d,F⟩::E) H :=
 h.push ⟨v,rfl,r,λz=>(nomatch z),λz=>(nomatch z)⟩ (λf e=>⟨λ_ a c=>(nomatch c),λ_ a c=>fr f e a c⟩) λa c=>(nomatch c)
end
section
variable{P:Bp}{w:World}{K:PySem.W.Frag}{mg:Str->Option Value}{base:Heap}
theorem IY{As:List Ent}{k:Nat}:∀e∈As.map Zr++Hr k,∀a∈e.F,∃f∈As,a∈f.F:=λe he a b=>by
 rcases Bf.mp he with he | he
 ·obtain ⟨f,c,rfl⟩:=Bh.mp he
  refine ⟨f,c,?_⟩
  obtain ⟨v,x,F⟩:=f
  cases x <;> exact b
 ·rw[(Ji.mp he).2] at b
  exact nomatch b
theorem u3{x i:Str}{st:Stmt}{f:Addr}{fd:Cb}{N ps:List Str}{k:Nat}{pf:PF}{Z:DB}(F:Fun K x i st f fd)(S:FnScope N ps (Bv st))(hb:∀(l:Value) (A:Cn) (outer:List Env) (s:Am) (H:Hp) (E:XK),Room k (A.deeper (Pk i (Bv st) s.heap.objs.size f l))->Zb (Sr Gv P w K mg base N i (Bv st) f l A outer s H E).nox (Ja st) Z)(h:∀t R,pf t R->t.length=ps.length/\Z (retA R) ⟨args0 t (N.length - ps.length),0⟩):FnOk P w K mg base Gv (k+1) f fd ps (KS K pf):=by
 refine F.ok S (λvs H Q E z=>?_) λl A outer s H us Q E hr z=>?_
 ·obtain ⟨As,n,t,R,C,U,ok,q,W,_⟩:=z
  have l1:=(h t R W).1
  have V:=Je q
  rw[Ac] at V
  have Y:=congrArg Fi U
  rw[Ac,Ac] at Y
  omega
 ·obtain ⟨As,n,t,R,C,U,ok,q,W,hG,k1⟩:=z
  obtain ⟨l1,hd⟩:=h t R W
  have V:=Je q
  rw[Ac] at V
  have Y:=congrArg Fi U
  rw[Ac,Ac] at Y
  let L:Hp:=λa=>open Classical in if a∈C then none else H a
  have G:∀{a},a∈C->L a=none:=λz=>if_pos z
  have J:∀{a},a∉C->L a=H a:=λz=>if_neg z
  -- what holds at the end
  have B:∀{E':List Ent} {n':Nat} {y:Hp},At K L (λ_=>False) n' (E'++[⟨none,.grd H,C⟩]) y->Tf H y:=λ{E' n' y} D b o e=>by
   by_cases hb:b∈C
   ·obtain ⟨o',g1,g2⟩:=D.ok _ (Aw _ Aa) b hb
    rw[e] at g1
    cases g1
    exact g2
   ·exact D.same b o (λz=>z) (by rw[J hb]; exact e)
  refine ⟨_,hb l A outer s H E hr,L,λ_=>False,As.map Zr++Hr (N.length - ps.length),[⟨none,.grd H,C⟩],⟨args0 t (N.length - ps.length),0⟩,retA R,?_,?_,λe z=>?_,?_,hd,λO S' y e1 D p=>?_,λx O v F' S' y e1 D p=>?_,λ_ _ _ _ _ p=>p.elim,λ_ _ _ _ _ p=>p.elim⟩
  ·unfold vs L2.start Hr
   rw[Bg,P6,U,Nf,show us.length=ps.length by omega]
  ·unfold Sl args0 Hr
   rw[Bg,Te q,Nf]
  ·rw[Ak.mp z]; rfl
  ·have T:=aP q (N.length - ps.length)
   have hF:=IY (As:=As) (k:=N.length - ps.length)
   have gF:∀e∈As.map Zr++Hr (N.length - ps.length),∀a∈C,a∉e.F:=λe he a g z=>by
    obtain ⟨f,hf,zf⟩:=hF e he a z
    exact (hG _ g).2 f hf zf
   refine ⟨λe he=>?_,Da.mpr ⟨Qt λa g b I=>⟨λX c j=>?_,λX c j=>?_⟩,Mf _ _,λa g b I=>⟨λX c j=>?_,λX c j=>?_⟩⟩,λe he a g=>?_,λb o _ e=>?_,λb o e=>?_,λb hb=>hb.elim⟩
   ·rcases Bf.mp he with he | he
    ·have:=tV q ok (N.length - ps.length) e he
     obtain ⟨v,x,F⟩:=e
     cases x with
     | drw=>exact absurd (T _ he).2 (by show ¬ (true=false); decide)
     | _=>exact this
    ·rw[Ak.mp he]
     intro a g
     have:=(hG _ g).1
     cases q:H a with
     | none=>exact absurd q this
     | some o=>exact ⟨o,by first | rfl | exact q,by first | rfl | exact q⟩
   ·rw[(T a g).1] at j; cases j
   ·rw[(T b I).1] at j; cases j
   ·rw[(T a g).1] at j; cases j
   ·rw[Ak.mp I] at j
    exact gF a g c j
   ·rcases Bf.mp he with he | he
    ·rw[(T e he).1] at g; cases g
    ·rw[Ak.mp he] at g
     exact .inl (G g)
   ·by_cases hb:b∈C
    ·rw[G hb] at e; cases e
    ·rw[J hb] at e; exact e
   ·by_cases hb:b∈C
    ·rw[G hb] at e; cases e
    ·rw[J hb] at e; exact ⟨o,e⟩
  ·exact k1 .non .none [] y p .non (λ_ z=>(nomatch z)) (B D)
  ·obtain ⟨m,d,rfl,hm,r⟩:=p
   obtain ⟨u,e2,rd,_⟩:=D.ok _ mem_mid
   cases e2
   have M:At K L (λ_=>False) O.n ((S'++[⟨some v,.dat m d,F'⟩])++[⟨none,.grd H,C⟩]) y:=by rw[Df]; exact D
   refine k1 v d F' y r rd (λa g=>?_) (B M)
   have sp:=(Da.mp M.sep).2.2 _ (Aw _ Aa) _ Aa
   exact λz=>sp.2 (.inr rfl) a z g
end
def B9(g:PF)(f:DA):DE:=λc P=>f c λb a=>noPk b=true/\match datas b with
 | some e=>g e λd=>P (.dat .sh d) a
 | none=>False
theorem cX:∀{As:List Ent},noPk (As.map Ent.x)=true->∀e∈As,Lf e.x=false
 | [],_,e,he=>nomatch he
 | ⟨v,x,F⟩::As,h,e,he=>by
  rw[Ax] at h
  have a:Lf x=false/\noPk (As.map Ent.x)=true:=by
   cases x with
   | dat m d=>cases m <;> first | exact ⟨rfl,h⟩ | (simp [noPk] at h)
   | _=>exact ⟨rfl,by simpa [noPk] using h⟩
  rcases Ao.mp he with rfl | he
  ·exact a.1
  ·exact cX a.2 e he
section
variable{X:Cx}{CX:tN}{k:Nat}{f:Addr}{c:Cb}{ps:List Str}{b:PF}{E:XK}{x:Str}{p pos:Pos}{e:Expr}{es:List Expr}{i:DA}
theorem yN(F:FnOk X.prog X.w X.K X.mg X.base CX k f c ps (KS X.K b))(hr:Room k X.A)(hg:Gl X x)(hm:X.mg x=some (.ref f))(Z:PySem.W.keepIn X.K (.ref f)=true)(hb:Binds X.K c ps [])(O:Ti CX X E)(u:kB X (e::es) i)(G:(x == ("__debug__" : Str))=false:=by decide)(j:Bl (e::es) X.env=(false,eval e X.env)::Bl es X.env:=by rfl)(B:(Gr pos (Bl es X.env)).any (·.1)=false:=by rfl):Ee X (.Call (.Name x p) (e::es) [] pos) (B9 b i):=by
 refine PE.imp (Wt F hr hg hm Z hb .nil O u G j B) λσ H Q h=>?_
 obtain ⟨R,Y,S,T,δ,P,rfl,M,hA,hd,kk⟩:=h
 refine ⟨R,Y,S,T,δ,_,rfl,M,hA,hd,λxs y I us L H' e1 e2 N eu l p=>?_⟩
 subst N
 obtain ⟨np,p⟩:=p
 cases q:datas (I.map Ent.x) with
 | none=>rw[q] at p; exact p.elim
 | some U =>
  rw[q] at p
  rw[Dk]
  have t:=cX np
  have J:=l.dropL
  refine ⟨I,y.n,U,_,(L++T).flatMap cells,eu,λe j=>l.ok e (Aw _ (Ap _ j)),q,p,λa u=>?_,λv d F C r rd fr s=>?_⟩
  ·obtain ⟨g,hg1,m⟩:=Jb.mp u
   refine ⟨λz=>?_,λe j=>?_⟩
   ·obtain ⟨o,q⟩:=(J.ok g hg1).dom a (Et _ _ m)
    rw[z] at q; cases q
   ·obtain ⟨_,D,V⟩ := Da.mp l.sep
    rcases Bf.mp hg1 with hg1 | hg1
    ·exact (V g hg1 e (Ap _ j)).1 (.inl (t e j)) a m
    ·exact ((Da.mp D).2.2 e j g hg1).2 (.inl (t e j)) a m
  ·refine kk _ y v F L C e1 e2 (((J.grow s (Ar _)).pushS rd λf hf a u z=>fr a z (List.mem_flatMap.mpr ⟨f,hf,u⟩)).tomid) r
end
def NU(d:DA):DE:=λc P=>d c λe b=>match e with
 | [.dat _ (.tuple ds)]=>∃a:List Int,ds=a.map Ah/\(∀x∈a,0<=x/\x<60)/\P (.dat .ow (.list ((FV a).map Ah))) b
 | _=>False
def CY(j:Nat):List Int:=(Bq j).map λn:Nat=>(n:Int)
def V7(K:PySem.W.Frag)(o:DF):Sp:=λm H Q _=>∃(b:Addr) (l:List V) (g:List Ent) (n:Nat) (j:List Ad) (R:Ad->Nat->Prop) (C:List Addr),m=.ref b::l/\g.map Ent.v=l.map some/\(∀e∈g,Ho K H n e)/\(∀e∈g,b∉e.F)/\(∃c k f,cT H b c k f/\0<=k/\k<=(n:Int))/\datas (g.map Ent.x)=some j/\o j n R /\
 b∉C/\(∀a∈C,H a≠none/\∀e∈g,a∉e.F) /\
 ∀v d F i h,n<=i->R d i->RdF K h v d F->(∀a∈F,a∉C)->Vl b H h->(∃c k f,cT h b c k f/\0<=k/\k<=(i:Int))->Q v h
def retWT(n:Nat)(R:Ad->Nat->Prop):DEnds where
 nx:=λa=>n<=a.n/\R .none a.n
 rt:=λx a=>n<=a.n/\∃m d,x=.dat m d/\m≠.pk/\R d a.n
section
variable{P:Bp}{w:World}{K:PySem.W.Frag}{mg:Str->Option Value}{base:Heap}
theorem zT{x l:Str}{st:Stmt}{f:Addr}{fd:Cb}{N ps:List Str}{D:Str}{k:Nat}{df:DF}{db:DB}(F:Fun K x l st f fd)(S:FnScope N (D::ps) (Bv st))(hb:∀(t:Value) (A:Cn) (outer:List Env) (s:Am) (H:Hp) (E:XK),Room k (A.deeper (Pk l (Bv st) s.heap.objs.size f t))->Zb (Sr Gv P w K mg base N l (Bv st) f t A outer s H E).nox (Ja st) db)(h:∀J n R,df J n R->J.length=ps.length/\db (retWT n R) ⟨.drw::args0 J (N.length - (D::ps).length),n⟩):FnOk P w K mg base Gv (k+1) f fd (D::ps) (V7 K df):=by
 refine F.ok S (λvs H Q E z=>?_) λt A outer s H us Q E hr z=>?_
 ·obtain ⟨j,ws,As,n,J,R,C,rfl,eu,ok,nd,y,q,hp,_⟩:=z
  have l1:=(h J n R hp).1
  have l2:=Je q
  rw[Ac] at l2
  have l3:=congrArg Fi eu
  rw[Ac,Ac] at l3
  rw[Bu,Bu]
  omega
 ·obtain ⟨j,ws,As,n,J,R,C,rfl,eu,ok,h0,y,q,hp,hC,hG,k1⟩:=z
  obtain ⟨l1,hd⟩:=h J n R hp
  have l2:=Je q
  rw[Ac] at l2
  have l3:=congrArg Fi eu
  rw[Ac,Ac] at l3
  let U:Hp:=λa=>open Classical in if a∈C then none else H a
  have T:∀{a},a∈C->U a=none:=λz=>if_pos z
  have I:∀{a},a∉C->U a=H a:=λz=>if_neg z
  have M:∀{E':List Ent} {n':Nat} {L:Hp},At K U (·=j) n' (E'++[⟨none,.grd H,C⟩]) L->Vl j H L:=λ{E' n' L} B b o nb e=>by
   by_cases hb:b∈C
   ·obtain ⟨o',g1,g2⟩:=B.ok _ (Aw _ Aa) b hb
    rw[e] at g1
    cases g1
    exact g2
   ·exact B.same b o nb (by rw[I hb]; exact e)
  refine ⟨_,hb t A outer s H E hr,U,(·=j),⟨some (.ref j),.drw,[j]⟩::(As.map Zr++Hr (N.length - (D::ps).length)),[⟨none,.grd H,C⟩],⟨.drw::args0 J (N.length - (D::ps).length),n⟩,retWT n R,?_,?_,λe z=>?_,?_,hd,λG S' L e1 B p=>?_,λx G v F' S' L e1 B p=>?_,λ_ _ _ _ _ p=>p.elim,λ_ _ _ _ _ p=>p.elim⟩
  ·unfold vs L2.start Hr
   rw[Ax,Bg,P6,eu,Nf,Bu,Bu,show ws.length=ps.length by omega]
   rfl
  ·unfold Sl args0 Hr
   rw[Ax,Bg,Te q,Nf]
  ·rw[Ak.mp z]; rfl
  ·have Z:=aP q (N.length - (D::ps).length)
   have hF:=IY (As:=As) (k:=N.length - (D::ps).length)
   have gF:∀e∈As.map Zr++Hr (N.length - (D::ps).length),∀a∈C,a∉e.F:=λe he a i z=>by
    obtain ⟨f,hf,zf⟩:=hF e he a z
    exact (hG a i).2 f hf zf
   have V:∀e∈As.map Zr++Hr (N.length - (D::ps).length),j∉e.F:=λe he z=>by
    obtain ⟨f,hf,zf⟩:=hF e he j z
    exact h0 f hf zf
   have X:U j≠none:=by
    rw[I hC]
    obtain ⟨c,kk,fl,Y,z2⟩:=y
    exact λz=>(by rw[show H j=some _ from Y] at z; cases z)
   refine ⟨λe he=>?_,Ba.mpr ⟨λb hb'=>?_,Da.mpr ⟨Qt λa i b hb'=>⟨λO c g=>?_,λO c g=>?_⟩,Mf _ _,λa i b hb'=>⟨λO c g=>?_,λO c g=>?_⟩⟩⟩,λe he a i=>?_,λb o _ e=>?_,λb o e=>?_,λb hb=>?_⟩
   ·rcases Ao.mp he with rfl | he
    ·obtain ⟨c,kk,fl,Y,z2,z3⟩:=y
     exact ⟨j,c,kk,fl,rfl,rfl,Y,z2,z3⟩
    ·rcases Bf.mp he with he | he
     ·exact tV q ok _ e he
     ·rw[Ak.mp he]
      intro a i
      have:=(hG a i).1
      cases q:H a with
      | none=>exact absurd q this
      | some o=>exact ⟨o,by first | rfl | exact q,by first | rfl | exact q⟩
   ·rcases Bf.mp hb' with hb' | hb'
    ·refine ⟨λO c g=>?_,λO c g=>?_⟩
     ·rw[Ak.mp g]; exact V b hb'
     ·rw[(Z b hb').1] at g; cases g
    ·rw[Ak.mp hb']
     refine ⟨λO c g=>?_,λO c g z=>?_⟩
     ·rw[Ak.mp g]; exact hC
     ·rw[Ak.mp z] at g; exact hC g
   ·rw[(Z a i).1] at g; cases g
   ·rw[(Z b hb').1] at g; cases g
   ·rw[(Z a i).1] at g; cases g
   ·rw[Ak.mp hb'] at g
    exact gF a i c g
   ·rcases Ao.mp he with rfl | he
    ·rw[Ak.mp i]
     exact .inr ⟨rfl,rfl⟩
    ·rcases Bf.mp he with he | he
     ·rw[(Z e he).1] at i; cases i
     ·rw[Ak.mp he] at i
      exact .inl (T i)
   ·by_cases hb:b∈C
    ·rw[T hb] at e; cases e
    ·rw[I hb] at e; exact e
   ·by_cases hb:b∈C
    ·rw[T hb] at e; cases e
    ·rw[I hb] at e; exact ⟨o,e⟩
   ·subst hb
    obtain ⟨c,kk,fl,Y,z2⟩:=y
    exact ⟨X,c,kk,fl,Y,z2⟩
  ·exact k1 .non .none [] G.n L p.1 p.2 .non (λ_ z=>(nomatch z)) (M B) (B.xd j rfl).2
  ·obtain ⟨hn,m,d,rfl,hm,r⟩:=p
   obtain ⟨u,e2,rd,_⟩:=B.ok _ mem_mid
   cases e2
   have W:At K U (·=j) G.n ((S'++[⟨some v,.dat m d,F'⟩])++[⟨none,.grd H,C⟩]) L:=by rw[Df]; exact B
   refine k1 v d F' G.n L hn r rd (λa i=>?_) (M W) (B.xd j rfl).2
   have sp:=(Da.mp W.sep).2.2 _ (Aw _ Aa) _ Aa
   exact λz=>sp.2 (.inr rfl) a z i
end
def kD(b:DF)(xs:List DV)(a:DS)(P:DV->DS->Prop):Prop:=match xs with
 | .drw::ys=>noPk ys=true/\match datas ys with
  | some c=>b c a.n λd e=>P (.dat .sh d) ⟨a.sl,e⟩
  | none=>False
 | _=>False
def uC(b:DF)(d:DA):DE:=λc P=>d c λe a=>kD b e a P
section
variable{X:Cx}{CX:tN}{k:Nat}{f:Addr}{c:Cb}{ps:List Str}{b:DF}{E:XK}{x:Str}{p pos:Pos}{e:Expr}{es:List Expr}{i:DA}
theorem xZ(F:FnOk X.prog X.w X.K X.mg X.base CX k f c ps (V7 X.K b))(hr:Room k X.A)(hg:Gl X x)(hm:X.mg x=some (.ref f))(hk:PySem.W.keepIn X.K (.ref f)=true)(hb:Binds X.K c ps [])(hx:Ti CX X E)(J:kB X (e::es) i)(k3:(x == ("__debug__" : Str))=false:=by decide)(t:Bl (e::es) X.env=(false,eval e X.env)::Bl es X.env:=by rfl)(U:(Gr pos (Bl es X.env)).any (·.1)=false:=by rfl):Ee X (.Call (.Name x p) (e::es) [] pos) (uC b i):=by
 refine PE.imp (Wt F hr hg hm hk hb .nil hx J k3 t U) λσ H Q h=>?_
 obtain ⟨R,Y,S,T,δ,P,rfl,hS,hA,hd,kk⟩:=h
 refine ⟨R,Y,S,T,δ,_,rfl,hS,hA,hd,λxs C m N y H' e1 e2 ex M j p=>?_⟩
 subst ex
 unfold kD at p
 split at p
 ·rename_i ys O
  match m,N,O,M,j with
  | ent::m,w::N,O,M,j =>
   obtain ⟨u,z,F⟩:=ent
   have ez:z=.drw:=(Dd O).1
   have k1:m.map Ent.x=ys:=(Dd O).2
   subst ez k1
   obtain ⟨np,p⟩:=p
   have I:=cX np
   have Z:u=some w:=(Dd M).1
   have h2:m.map Ent.v=N.map some:=(Dd M).2
   have hE:(⟨u,.drw,F⟩ : Ent)∈y++((⟨u,.drw,F⟩::m)++T):=Aw _ (Ap _ Aa)
   obtain ⟨L,c0,k0,f0,D,h0,h7,k2,h6⟩:=j.ok _ hE
   have ew:some w=some (V.ref L):=Z.symm.trans D
   cases ew
   have h4:F=[L]:=h0
   subst h4
   have hM:=j.perm (nR (S:=y) (T:=m++T))
   have B:=Ba.mp hM.sep
   have h9:At X.K R Y C.n (y++T) H':=hM.sub (((Cu y).append (Cf m T)).cons _)
   cases q:datas (m.map Ent.x) with
   | none=>rw[q] at p; exact p.elim
   | some ds =>
    rw[q] at p
    rw[Dk]
    refine ⟨L,N,m,C.n,ds,_,(y++T).flatMap cells,rfl,h2,λe t=>j.ok e (Aw _ (Ap _ (Ae _ t))),λe t=>?_,⟨c0,k0,f0,h7,k2,h6⟩,q,p,λz=>?_,λa J=>?_,λv d F n' G hn r rd fr s h3=>?_⟩
    ·exact (B.1 e (Aw _ (Ap _ t))).1 (.inr rfl) L Aa
    ·obtain ⟨g,hg1,l⟩:=Jb.mp z
     refine (B.1 g ?_).1 (.inr rfl) L Aa (Et _ _ l)
     rcases Bf.mp hg1 with h | h
     ·exact Ap _ h
     ·exact Aw _ (Aw _ h)
    ·obtain ⟨g,hg1,l⟩:=Jb.mp J
     refine ⟨λz=>?_,λe t=>?_⟩
     ·obtain ⟨o,q⟩:=(h9.ok g hg1).dom a (Et _ _ l)
      rw[z] at q; cases q
     ·obtain ⟨_,h5,hp⟩ := Da.mp B.2
      rcases Bf.mp hg1 with hg1 | hg1
      ·exact (hp g hg1 e (Ap _ t)).1 (.inl (I e t)) a l
      ·exact ((Da.mp h5).2.2 e t g hg1).2 (.inl (I e t)) a l
    ·have h1:=hM.drawn Aa rfl D s h3 hn
     have h8:At X.K R Y n' (y++T) G:=h1.sub (((Cu y).append (Cf m T)).cons _)
     exact kk _ ⟨C.sl,n'⟩ v F y G e1 e2 ((h8.pushS rd λf hf a J z=>fr a z (List.mem_flatMap.mpr ⟨f,hf,J⟩)).tomid) r
 ·exact p.elim
end
abbrev PX:=List Ad->(Ad->Prop)->(Addr->Prop)->Prop
end DL
namespace Nd
open PySem PySem.Spec PyProof.Rows L2
end Nd
namespace DL
open PySem PySem.Spec PyProof.Rows L2 Nd
end DL
namespace Nd
open PySem PySem.Spec PyProof.Rows L2
abbrev ZF(h:Heap)(z TI TO:Addr)(b a:Value):Prop:=h.get? z=some { cls:=.type "zip",dict:=none,data:=.fields #[b,a,.bool false,.ref TI,.ref TO],slots:=#[] }
section
variable{prog:Bp}{w:World}{A:Cn}{E:Value->Am->Prop}{s:Am}
theorem nY(b:s.heap.get? a=some o)(h:Q (some o) s):wpAny (model prog w) A (loadIfAlive a) Q E s:=λc p _=>by
 unfold loadIfAlive
 rw[Sem.wp_loadIfAlive,b]
 exact (Sem.wp_pure ..)▸h
theorem dO{z TI TO a:Addr}{f:Obj}{c:Bool}(hz:ZF s.heap z TI TO (Jm (a:Int)) (.bool c))(g:s.heap.get? a=some f):wpAny (model prog w) A (Gg (.ref z)) (λb s'=>b=false/\∃h',s'={ s with heap:=h' }/\ZF h' z TI TO (Jm (a:Int)) (.bool true)/\Gk z s.heap h') E s:=by
 unfold Gg
 refine Ab (Lq hz rfl (x:=Jm (a:Int)) rfl ?_)
 show wpAny _ _ (loadIfAlive ((a:Int).toNat) >>= _) _ _ _
 refine Ab (nY (a:=(a:Int).toNat) (o:=f) (by rw[Cs]; exact g) ?_)
 simp only[Option.isNone_some,Dh,if_false]
 refine Ab (Lq hz rfl (x:=.bool c) rfl ?_)
 cases c with
 | false =>
  rw[if_pos (by decide)]
  exact Ab (wpAny_setField_rec hz (by simp) λh d e=>An ⟨rfl,h,rfl,d,e⟩)
 | true =>
  rw[if_neg (by decide)]
  exact An ⟨rfl,s.heap,rfl,hz,⟨rfl,λ_ _=>rfl⟩⟩
theorem xY{z TI TO g h l1 l2 a:Addr}{M:Obj}{L:Bool}{k1 k2:Nat}{xs ys:Array Value}{x y:Value}{Q:Value->Am->Prop}(D:Qa z TI TO g h l1 l2)(hz:ZF s.heap z TI TO (Jm (a:Int)) (.bool L))(G:s.heap.get? a=some M)(l:Sm s.heap TI (.ref g) (.ref h))(h1:s.heap.IsListIter g l1 k1)(B:s.heap.IsListIter h l2 k2)(q:s.heap.IsList l1 xs)(p:s.heap.IsList l2 ys)(u:xs[k1]? = some x)(C:ys[k2]? = some y)(K:∀h',ZF h' z TI TO (Jm (a:Int)) (.bool true)->h'.IsListIter g l1 (k1+1)->h'.IsListIter h l2 (k2+1)->Sm h' s.heap.objs.size x y->h'.objs.size=s.heap.objs.size+1->(∀c o,c≠z->c≠g->c≠h->s.heap.get? c=some o->h'.get? c=some o)->Q (.ref s.heap.objs.size) { s with heap:=h' }):wpAny (model prog w) A (Builtin.«zip.__next__» ⟨[.ref z],[]⟩) (λfin s'=>∃v,fin=.done (.ret v)/\Q v s') E s:=by
 unfold Builtin.«zip.__next__»
 refine Ab (An (Ab (Lq hz rfl (x:=.bool false) rfl (Ab (Lq hz rfl (x:=.ref TI) rfl (Ab (Lo l rfl ?_)))))))
 show wpAny _ _ (Gg (.ref z) >>= _) _ _ _
 refine Ab (Il (dO (E:=E) hz G) λN O r => ?_)
 obtain ⟨I,P,H,t,b⟩ := r
 subst I H
 simp only[Dh,if_false]
 simp only[<- Yd,List.forIn_cons,List.forIn_nil]
 refine Ab (Ab (Ab (Cc ?_)))
 show wpAny _ _ (Jc (.ref g) >>= _) _ _ _
 refine Ab (Wl (h1.extBut b.extBut D.i1z) (q.extBut b.extBut D.l1z) u λg2 F d=>An (An ?_))
 refine Ab (Ab (Cc ?_))
 show wpAny _ _ (Jc (.ref h) >>= _) _ _ _
 refine Ab (Wl ((B.extBut b.extBut D.i2z).extBut d.extBut D.i12.symm) ((p.extBut b.extBut D.l2z).extBut d.extBut D.l2i1) C λi J f=>An (An (An ?_)))
 show wpAny _ _ (newTuple [x,y] >>= _) _ _ _
 refine Ab (Zm ?_)
 have sz:i.objs.size=s.heap.objs.size:=by rw[f.1,d.1,b.1]
 have up:∀c o,c≠z->c≠g->c≠h->s.heap.get? c=some o->i.get? c=some o:=λc o j n m e=>f.extBut _ _ m (d.extBut _ _ n (b.extBut _ _ j e))
 have k:ZF i z TI TO (Jm (a:Int)) (.bool true):=f.extBut _ _ D.i2z.symm (d.extBut _ _ D.i1z.symm t)
 have fin:=K (i.push { cls:=.type "tuple",data:=.seq #[x,y] }) (Ai _ k) ((F.extBut f.extBut D.i12).at λo e=>Ai _ e) (J.at λo e=>Ai _ e) (by rw[<- sz]; exact Be _ rfl) (by rw[Heap.size_push,sz]) (λc o j n m e=>Ai _ (up c o j n m e))
 refine An ⟨_,rfl,?_⟩
 rw[<- sz] at fin
 exact fin
theorem fJ{z TI TO f i l1 l2 a:Addr}{L:Obj}{J:Bool}{k1 k2:Nat}{xs ys:Array Value}{Q:PySem.Fin->Am->Prop}(u:A.handled=none)(D:Qa z TI TO f i l1 l2)(hz:ZF s.heap z TI TO (Jm (a:Int)) (.bool J))(C:s.heap.get? a=some L)(l:Sm s.heap TI (.ref f) (.ref i))(h1:s.heap.IsListIter f l1 k1)(y:s.heap.IsListIter i l2 k2)(h:s.heap.IsList l1 xs)(r:s.heap.IsList l2 ys)(g:xs[k1]? = none\/ys[k2]? = none)(v:∀h' e,(∀c o,c≠z->c≠f->c≠i->s.heap.get? c=some o->h'.get? c=some o)->(∃o,h'.get? e=some o/\o.cls=.type "StopIteration")->E (.ref e) { s with heap:=h' }):wpAny (model prog w) A (Builtin.«zip.__next__» ⟨[.ref z],[]⟩) Q E s:=by
 unfold Builtin.«zip.__next__»
 refine Ab (An (Ab (Lq hz rfl (x:=.bool false) rfl (Ab (Lq hz rfl (x:=.ref TI) rfl (Ab (Lo l rfl ?_)))))))
 show wpAny _ _ (Gg (.ref z) >>= _) _ _ _
 refine Ab (Il (dO (E:=E) hz C) λN O t => ?_)
 obtain ⟨I,P,H,K,b⟩ := t
 subst I H
 simp only[Dh,if_false]
 simp only[<- Yd,List.forIn_cons,List.forIn_nil]
 refine Ab (Ab (Ab (Cc ?_)))
 show wpAny _ _ (Jc (.ref f) >>= _) _ _ _
 cases j:xs[k1]? with
 | none =>
  refine Ab (wpAny_nextOf_list_end u (h1.extBut b.extBut D.i1z) (h.extBut b.extBut D.l1z) j λg2 e d p=>?_)
  exact v g2 e (λc o k n _ q=>d _ _ n (b.extBut _ _ k q)) p
 | some x =>
  have B:ys[k2]? = none:=g.resolve_left λq=>by rw[j] at q; cases q
  refine Ab (Wl (h1.extBut b.extBut D.i1z) (h.extBut b.extBut D.l1z) j λg2 M d=>An (An ?_))
  refine Ab (Ab (Cc ?_))
  show wpAny _ _ (Jc (.ref i) >>= _) _ _ _
  refine Ab (wpAny_nextOf_list_end u ((y.extBut b.extBut D.i2z).extBut d.extBut D.i12.symm) ((r.extBut b.extBut D.l2z).extBut d.extBut D.l2i1) B λG e m p=>?_)
  exact v G e (λc o k n F q=>m _ _ F (d.extBut _ _ n (b.extBut _ _ k q))) p
theorem sD{z TI TO b d l1 l2 a:Addr}{p:Obj}{k:Bool}{k1 k2:Nat}{xs ys:Array Value}{x y:Value}{Q:Option Value->Am->Prop}(D:Qa z TI TO b d l1 l2)(hz:ZF s.heap z TI TO (Jm (a:Int)) (.bool k))(j:s.heap.get? a=some p)(e:Sm s.heap TI (.ref b) (.ref d))(h1:s.heap.IsListIter b l1 k1)(m:s.heap.IsListIter d l2 k2)(g:s.heap.IsList l1 xs)(f:s.heap.IsList l2 ys)(i:xs[k1]? = some x)(n:ys[k2]? = some y)(v:∀h',ZF h' z TI TO (Jm (a:Int)) (.bool true)->h'.IsListIter b l1 (k1+1)->h'.IsListIter d l2 (k2+1)->Sm h' s.heap.objs.size x y->h'.objs.size=s.heap.objs.size+1->(∀c o,c≠z->c≠b->c≠d->s.heap.get? c=some o->h'.get? c=some o)->Q (some (.ref s.heap.objs.size)) { s with heap:=h' }):wpAny (model prog w) A (Nh (.ref z)) Q E s:=by
 have h:s.TypeIs (.ref z) "zip" := ⟨_,hz,rfl⟩
 unfold Nh
 refine Ab (Mp (Fu (name:=Do "__next__") h Wi (Gq Wi h F.entry_zip_next (xY D hz j e h1 m g f i n λu b1 b2 l t q r=>An (v u b1 b2 l t q r)) (F.args_zip_next_1 _))))
theorem cN{z TI TO f g l1 l2 a:Addr}{u:Obj}{q:Bool}{k1 k2:Nat}{xs ys:Array Value}{Q:Option Value->Am->Prop}(l:A.handled=none)(D:Qa z TI TO f g l1 l2)(hz:ZF s.heap z TI TO (Jm (a:Int)) (.bool q))(n:s.heap.get? a=some u)(h:Sm s.heap TI (.ref f) (.ref g))(h1:s.heap.IsListIter f l1 k1)(r:s.heap.IsListIter g l2 k2)(j:s.heap.IsList l1 xs)(i:s.heap.IsList l2 ys)(d:xs[k1]? = none\/ys[k2]? = none)(v:∀h',(∀c o,c≠z->c≠f->c≠g->s.heap.get? c=some o->h'.get? c=some o)->Q none { s with heap:=h' }):wpAny (model prog w) A (Nh (.ref z)) Q E s:=by
 have k:s.TypeIs (.ref z) "zip" := ⟨_,hz,rfl⟩
 unfold Nh
 refine Ab (Mp (Fu (name:=Do "__next__") k Wi (Gq Wi k F.entry_zip_next (fJ l D hz n h h1 r j i d λx e kp m=>?_) (F.args_zip_next_1 _))))
 obtain ⟨o,t,p⟩:=m
 exact Ab (Vo (T := "StopIteration") (b:=true) ⟨o,t,p⟩ isSubtype_stop (An (v _ kp)))
end
end Nd
namespace Nd
open PySem PySem.Spec
theorem jF:entryFor table "zip.__getattribute__" = some Builtin.«object.__getattribute__» :=
 entryFor_alias (id' := "object.__getattribute__") (by kernel_rfl) (by first | rfl | decide +kernel) (by decide +kernel) (by kernel_rfl)
theorem lA:typeLookup (.type "zip") "keys" = pure none:=by rw[typeLookup_type,builtinLookup_eq_fast]; kernel_rfl
section
variable{prog:Bp}{w:World}{A:Cn}{E:Value->Am->Prop}{h:Heap}{g:Array GenState}{d:Drawn}{t:Nat}{os:OsState}{a:Addr}{fs:Array Value}
theorem bL:isSubtype (.type "AttributeError") (.type "AttributeError")=pure true:=by rw[isSubtype_type]; kernel_rfl
theorem sI(args:List Value):Zp (.type "AttributeError") args=pure Jf:=by
 have h:((Manifest.find? "AttributeError").elim false λt=>t.mro.contains "StopIteration" || t.mro.contains "SystemExit")=false:=by decide +kernel
 simp only[Zp,h]
 rfl
theorem qD{k:Type}{name a:Str}{v:Value}{Q:k->Am->Prop}(m:A.handled=none)(p:a.length<=Az)(n:∀h' t' e,(∀c o,h.get? c=some o->h'.get? c=some o)->t<=t'->(∃o,h'.get? e=some o/\o.cls=.type "AttributeError")->E (.ref e) ⟨h',g,d,t',os⟩):wpAny (model prog w) A (raiseAttrError v name a:Sem k) Q E ⟨h,g,d,t,os⟩:=by
 unfold raiseAttrError newExc newTuple
 refine Ab (wpAny_mkStr' ?_ p)
 refine Ab (Ab (Ek ?_ (by show (1:Nat)<=Az; decide)))
 refine Ab (wpAny_of_eq (sI _) (Ek ?_))
 generalize f:h.push { cls:=.type "tuple",data:=.seq [Value.str a t].toArray }=h1
 have i:∀c o,h.get? c=some o->h1.get? c=some o:=λc o q=>by rw[<- f]; exact Ai _ q
 have b:(h1.push { cls:=.type "AttributeError",data:=.fields #[.ref h.objs.size,.none,.none,.none,.bool false,.none,Jz,Jz] }).get? h1.objs.size=some { cls:=.type "AttributeError",data:=.fields #[.ref h.objs.size,.none,.none,.none,.bool false,.none,Jz,Jz] }:=Be _ rfl
 show wpAny _ _ _ _ _ ⟨h1.push { cls:=.type "AttributeError",data:=.fields #[.ref h.objs.size,.none,.none,.none,.bool false,.none,Jz,Jz] },g,d,t+1,os⟩
 have j:∀c o,h1.get? c=some o->(h1.push { cls:=.type "AttributeError",data:=.fields #[.ref h.objs.size,.none,.none,.none,.bool false,.none,Jz,Jz] }).get? c=some o:=λc o q=>Ai _ q
 have r:∀c o,h1.get? c=some o->c≠h1.objs.size:=λc o q=>By (Bb q)
 generalize h1.push { cls:=.type "AttributeError",data:=.fields #[.ref h.objs.size,.none,.none,.none,.bool false,.none,Jz,Jz] }=h2 at b j ⊢
 refine Ab (wpAny_mkText ?_)
 refine Ab ?_
 unfold noteAttr
 show wpAny _ _ (lacksNameAndObj (.ref h1.objs.size) >>= _) _ _ _
 refine Ab ?_
 unfold lacksNameAndObj
 have l:(⟨h2,g,d,t+1+1,os⟩ : Am).TypeIs (.ref h1.objs.size) "AttributeError" := ⟨_,b,rfl⟩
 refine Ab (Vo l bL ?_)
 simp only[Bool.not_true,Dh,if_false]
 refine Ab (eB b ?_)
 show wpAny _ _ (pure true) _ _ _
 refine An ?_
 simp only[if_true]
 refine Ab (Pi ?_)
 refine Ab (Ls l ?_)
 show wpAny _ _ (layMembers h1.objs.size 6 _) _ _ _
 unfold layMembers
 refine Ab (eB b ?_)
 refine wpAny_update b ?_
 refine wpAny_raiseNew_none m (n _ _ _ (λc o q=>?_) (by show t<=t+1+1; omega) ⟨_,Gf _ b rfl,rfl⟩)
 exact Heap.get?_update_of_ne _ (r c o (i c o q)).symm (j c o (i c o q))
theorem pZ(b:A.handled=none)(i:h.get? a=some { cls:=.type "zip",dict:=none,data:=.fields fs,slots:=#[] })(f:∀h' t' e,(∀c o,h.get? c=some o->h'.get? c=some o)->t<=t'->(∃o,h'.get? e=some o/\o.cls=.type "AttributeError")->E (.ref e) ⟨h',g,d,t',os⟩):wpAny (model prog w) A (Builtin.«object.__getattribute__» ⟨[.ref a,.str "keys" j],[]⟩) Q E ⟨h,g,d,t,os⟩:=by
 have l:(⟨h,g,d,t,os⟩ : Am).TypeIs (.ref a) "zip" := ⟨_,i,rfl⟩
 have k:=lA
 repeat (any_goals (first | assumption | wp_step))
 exact qD b (by decide +kernel) f
theorem wF(f:A.handled=none)(b:h.get? a=some { cls:=.type "zip",dict:=none,data:=.fields fs,slots:=#[] })(i:∀h' t' e,(∀c o,h.get? c=some o->h'.get? c=some o)->t<=t'->(∃o,h'.get? e=some o/\o.cls=.type "AttributeError")->R (.error (.ref e)) ⟨h',g,d,t',os⟩):Qz (model prog w) A (.call (.builtin "zip.__getattribute__") ⟨[.ref a,.str "keys" j],[]⟩) R ⟨h,g,d,t,os⟩ :=
 codeAny_call_builtin F.slot_zip_getattribute.plain jF (F.slot_zip_getattribute.check _ _ _ _ _ _ _ _ (show (⟨h,g,d,t,os⟩ : Am).TypeIs (.ref a) "zip" from ⟨_,b,rfl⟩) (F.args_zip_getattribute_2 _ _) (pZ f b i))
theorem wQ:typeLookup (.type "zip") "__getattr__" = pure none:=by rw[typeLookup_type,builtinLookup_eq_fast]; kernel_rfl
theorem V5(j:A.handled=none)(b:h.get? a=some { cls:=.type "zip",dict:=none,data:=.fields fs,slots:=#[] })(k:∀h' t' e,(∀c o,h.get? c=some o->h'.get? c=some o)->t<=t'->(∃o,h'.get? e=some o/\o.cls=.type "AttributeError")->E (.ref e) ⟨h',g,d,t',os⟩):wpAny (model prog w) A (getAttrBy (.ref a) (.str "keys" n) false) Q E ⟨h,g,d,t,os⟩:=by
 have r:(⟨h,g,d,t,os⟩ : Am).TypeIs (.ref a) "zip" := ⟨_,b,rfl⟩
 have p:=F.slot_zip_getattribute.lookup
 have v:=F.slot_zip_getattribute.bind (.ref a)
 have q:=wQ
 repeat (any_goals (first | assumption | wp_step))
 refine wF j b λh' t' e kp lt l=>?_
 obtain ⟨o,i,f⟩:=l
 have s:(⟨h',g,d,t',os⟩ : Am).TypeIs (.ref e) "AttributeError" := ⟨_,i,f⟩
 have u:=bL
 have m:=k h' t' e kp lt ⟨o,i,f⟩
 repeat (any_goals (first | assumption | wp_step))
theorem xB(f:A.handled=none)(j:h.get? a=some { cls:=.type "zip",dict:=none,data:=.fields fs,slots:=#[] })(m:∀h' t',(∀c o,h.get? c=some o->h'.get? c=some o)->t<=t'->Q none ⟨h',g,d,t',os⟩):wpAny (model prog w) A (getAttr? (.ref a) "keys") Q E ⟨h,g,d,t,os⟩:=by
 unfold getAttr? getAttrBy?
 refine Ab (wpAny_mkText (Ab (Mp (V5 f j λh' t' e kp lt i=>?_))))
 obtain ⟨o,l,k⟩:=i
 exact Ab (Vo (T := "AttributeError") (b:=true) ⟨o,l,k⟩ bL (An (m _ _ kp (Nat.le_of_succ_le lt))))
end
end Nd
namespace Nd
open PySem PySem.Spec PyProof.Rows L2
theorem Tw:entryFor table "dict.update.loop" = some Builtin.«dict.update.loop»:=entryFor_of_tree (by kernel_rfl)
theorem Ly:plainId "dict.update.loop" = true:=by decide +kernel
def FO(h:Heap)(z TI TO b c l1 l2:Addr)(k:Nat):Prop:=Sm h TI (.ref b) (.ref c)/\h.IsListIter b l1 k/\h.IsListIter c l2 k /\
 ((IsZip h z TI TO .none/\∃u v,Sm h TO u v)\/∃(a:Addr) (d:Obj) (e:Bool),ZF h z TI TO (Jm (Int.ofNat a)) (.bool e)/\h.get? a=some d)
theorem FO.keep{h h':Heap}{z TI TO g i l1 l2 D:Addr}{k:Nat}(st:FO h z TI TO g i l1 l2 k)(f:∀c,c≠D->h'.get? c=h.get? c)(r:∃o,h'.get? D=some o)(n:∀c∈[z,TI,TO,g,i],c≠D):FO h' z TI TO g i l1 l2 k:=by
 obtain ⟨a,b,c,d⟩:=st
 have j:=n z (by simp)
 have m:=n TI (by simp)
 have x:=n TO (by simp)
 have p:=n g (by simp)
 have s:=n i (by simp)
 refine ⟨(f TI m).trans a,b.at λo q=>(f g p).trans q,c.at λo q=>(f i s).trans q,?_⟩
 rcases d with ⟨d,u,v,e⟩ | ⟨a,w,l,d,e⟩
 ·exact .inl ⟨(f z j).trans d,u,v,(f TO x).trans e⟩
 ·refine .inr ?_
  by_cases q:a=D
  ·obtain ⟨o,t⟩:=r
   exact ⟨a,o,l,(f z j).trans d,by rw[q]; exact t⟩
  ·exact ⟨a,w,l,(f z j).trans d,(f a q).trans e⟩
section
variable{prog:Bp}{w:World}{A:Cn}{E:Value->Am->Prop}{s:Am}{z TI TO f g l1 l2:Addr}{k:Nat}{xs ys:Array Value}{x y:Value}{Q:Option Value->Am->Prop}
theorem o7(D:Qa z TI TO f g l1 l2)(st:FO s.heap z TI TO f g l1 l2 k)(m:s.heap.IsList l1 xs)(l:s.heap.IsList l2 ys)(C:xs[k]? = some x)(F:ys[k]? = some y)(I:∀h',FO h' z TI TO f g l1 l2 (k+1)->Sm h' s.heap.objs.size x y->(∀c o,c∉[z,TI,TO,f,g]->s.heap.get? c=some o->h'.get? c=some o)->Q (some (.ref s.heap.objs.size)) { s with heap:=h' }):wpAny (model prog w) A (Nh (.ref z)) Q E s:=by
 obtain ⟨a,b,c,d⟩:=st
 rcases d with ⟨d,u,v,e⟩ | ⟨i,K,L,d,e⟩
 ·refine wpAny_pyNext_zip_item D d a e b c m l C F λh' j B n r t p G=>I h' ⟨G TI _ D.TIz D.TITO D.TIi1 D.TIi2 a,n,r,.inr ⟨_,_,false,j,t⟩⟩ t λc o h q=>?_
  simp only[Ao,Bn,or_false,not_or] at h
  exact G c o h.1 h.2.2.1 h.2.2.2.1 h.2.2.2.2 q
 ·refine sD D d e a b c m l C F λh' j B n r t p=>?_
  have up:∀c o,c∉[z,TI,TO,f,g]->s.heap.get? c=some o->h'.get? c=some o:=λc o h q=>by
   simp only[Ao,Bn,or_false,not_or] at h
   exact p c o h.1 h.2.2.2.1 h.2.2.2.2 q
  refine I h' ⟨p TI _ D.TIz D.TIi1 D.TIi2 a,B,n,.inr ?_⟩ r up
  by_cases H:i=z
  ·subst H
   exact ⟨i,_,true,j,j⟩
  by_cases g2:i=f
  ·subst g2
   obtain ⟨o,q,_⟩:=B
   exact ⟨i,o,true,j,q⟩
  by_cases J:i=g
  ·subst J
   obtain ⟨o,q,_⟩:=n
   exact ⟨i,o,true,j,q⟩
  exact ⟨i,K,true,j,p i _ H g2 J e⟩
theorem V6(l:A.handled=none)(D:Qa z TI TO f g l1 l2)(st:FO s.heap z TI TO f g l1 l2 k)(j:s.heap.IsList l1 xs)(i:s.heap.IsList l2 ys)(m:xs[k]? = none\/ys[k]? = none)(n:∀h',(∀c o,c∉[z,TI,TO,f,g]->s.heap.get? c=some o->h'.get? c=some o)->Q none { s with heap:=h' }):wpAny (model prog w) A (Nh (.ref z)) Q E s:=by
 obtain ⟨a,b,c,d⟩:=st
 rcases d with ⟨d,u,v,e⟩ | ⟨t,y,x,d,e⟩
 ·refine wpAny_pyNext_zip_end l D d a e b c j i m λh' p=>n h' λc o h q=>?_
  simp only[Ao,Bn,or_false,not_or] at h
  exact p c o h.1 h.2.2.1 h.2.2.2.1 h.2.2.2.2 q
 ·refine cN l D d e a b c j i m λh' r=>n h' λc o h q=>?_
  simp only[Ao,Bn,or_false,not_or] at h
  exact r c o h.1 h.2.2.2.1 h.2.2.2.2 q
end
section
variable{X:Cx}{d:List (Addr×Obj)}{j:L2.St}{H:Hp}{s:Am}{a b:Addr}{v:V}{r:Value}{A:Cn}{E:Value->Am->Prop}{f:List (List Ib×V)}{k:List Ib}
theorem qK(B:A.units+1<cLine)(I:Inv X d j H s)(e:H a=some (.dT f))(p:H b=some (.tup (k.map kV)))(l:f.length<Az)(M:RelV v r)(h:∀s',Inv X d j (upd H a (.dT (Nz f k v))) s'->(∀c,c≠a->s'.heap.get? c=s.heap.get? c)->(∃o,s'.heap.get? a=some o)->Q () s'):wpAny (model X.prog X.w) A (dictSet a (.ref b) r) Q E s:=by
 obtain ⟨z,F,N,g,L⟩:=zM I.hok (.inl e)
 have hz:N.length<=Az:=by rw[<- Paired.length g]; exact z
 have D:(Nz f k v).length<=Az:=by have:=Td f k v; omega
 refine nM (hz:=hz) (show (Sa _).room A from Nat.lt_of_succ_lt B) (Yy I.hok p) L λP m t=>?_
 obtain ⟨q,C,x,i,y,K,J,_,u⟩:=m
 exact h _ (jK I (by rw[e]; exact Ks) t ⟨q,i⟩ ⟨D,F,_,(g.put k p M).keeps λc O n=>(Cp (AL n e (λz=>nomatch z))).trans n,q,C,x,i,y,K,J,u⟩) (λc G=>t.2 c G) ⟨q,i⟩
theorem zF{R:Result->Am->Prop}{z TI TO u B l1 l2 D:Addr}{xs ys:List V}(U:A.handled=none)(hu:A.units+2<cLine)(Z:Qa z TI TO u B l1 l2)(W:Nat->Hp->Prop)(hW:∀i H x y,xs[i]? = some x->ys[i]? = some y->W i H->Kv X.K H l1 xs/\Kv X.K H l2 ys/\∃f k p,H D=some (.dT f)/\x=.ref p/\H p=some (.tup (k.map kV))/\f.length<Az/\W (i+1) (upd H D (.dT (Nz f k y))))(hE:∀H,W (min xs.length ys.length) H->Kv X.K H l1 xs/\Kv X.K H l2 ys)(hR:∀H s',W (min xs.length ys.length) H->Inv X d j H s'->R (.ok (.ret .none)) s'):∀n i s H,n=min xs.length ys.length - i->i<=min xs.length ys.length->Inv X d j H s->FO s.heap z TI TO u B l1 l2 i->(∀c∈[z,TI,TO,u,B],Np X d H c)->W i H->Qz (model X.prog X.w) A (.builtin "dict.update.loop" ⟨[.ref D,.ref z,Jm (i:Int),.none],[]⟩) R s:=by
 intro n
 induction n with
 | zero =>
  intro i s H hn hi I st h v
  have e:i=min xs.length ys.length:=by omega
  subst e
  obtain ⟨G,L⟩:=hE H v
  obtain ⟨l,a,E,_⟩:=I.list G
  obtain ⟨m,b,J,_⟩:=I.list L
  have h1:=a.length
  have h0:=b.length
  refine Iv Tw ?_
  rw[Fo Ly _]
  unfold Builtin.«dict.update.loop»
  refine Ab (V6 (A:=A.in1) U Z st E.isList J.isList ?_ λT kp=>?_)
  ·by_cases q:xs.length<=min xs.length ys.length
   ·exact .inl (by simp; omega)
   ·exact .inr (by simp; omega)
  have F:=Og (t':=s.toks) I kp h
  show wpAny _ _ (Builtin.Dict.addKeywords D [] >>= _) _ _ _
  exact Ab (An (An (hR _ _ v F)))
 | succ n ih =>
  intro i s H hn hi I st h v
  have l1:i<xs.length:=by omega
  have l2:i<ys.length:=by omega
  obtain ⟨G,L,f,k,p,Q,ex,hp,hz,w1⟩:=hW i H _ _ (Ag l1) (Ag l2) v
  obtain ⟨l,a,E,_⟩:=I.list G
  obtain ⟨m,b,J,_⟩:=I.list L
  obtain ⟨u1,M,r⟩:=a.get (Ag l1)
  obtain ⟨N,C,P⟩:=b.get (Ag l2)
  rw[ex] at r
  cases (show u1=Bc p from r)
  refine Iv Tw ?_
  rw[Fo Ly _]
  unfold Builtin.«dict.update.loop»
  refine Ab (o7 (A:=A.in1) Z st E.isList J.isList (x:=.ref p) (y:=N) (by simpa using M) (by simpa using C) λT O o kp=>?_)
  have F:=Og (t':=s.toks) I kp h
  have S:∀c∈[z,TI,TO,u,B],c≠D:=λc t e=>by
   have:=(h c t).1
   rw[e,Q] at this
   cases this
  refine Ab (Cc ?_)
  refine Ab (Jl ?_)
  unfold Builtin.Dict.pairItems
  have ty:({ s with heap:=T }:Am).TypeIs (.ref s.heap.objs.size) "tuple" := ⟨_,o,rfl⟩
  refine Ab (Ls ty ?_)
  rw[if_pos (by decide)]
  refine Ab (Lo o rfl (An ?_))
  show wpAny _ _ (My [.ref p,N] (dictSet D (.ref p) N)) _ _ _
  refine Cc (qK (A:=A.in1) hu F Q hp hz P λs2 I2 Y o2=>?_)
  refine An ⟨Gx Ly _,?_⟩
  have g:=ih (i+1) s2 _ (by omega) (by omega) I2 (O.keep Y o2 S) (λc t=>⟨by rw[Cp (S c t)]; exact (h c t).1,(h c t).2⟩) w1
  rw[show ((i+1:Nat):Int)=(i:Int)+1 by omega] at g
  exact g
theorem oS{Q:Value->Am->Prop}{z TI TO l n l1 l2:Addr}{xs ys:List V}{s:Am}{h:Hp}(M:A.handled=none)(U:A.units+8<cLine)(Z:Qa z TI TO l n l1 l2)(I:Inv X d j h s)(hz:IsZip s.heap z TI TO .none)(r:Sm s.heap TI (.ref l) (.ref n))(a:∃u v,Sm s.heap TO u v)(h1:s.heap.IsListIter l l1 0)(N:s.heap.IsListIter n l2 0)(O:∀c∈[z,TI,TO,l,n],Np X d h c)(hq:∀D,h D=none->∃W:Nat->Hp->Prop,W 0 (upd h D (.dT []))/\(∀i H x y,xs[i]? = some x->ys[i]? = some y->W i H->Kv X.K H l1 xs/\Kv X.K H l2 ys/\∃f k p,H D=some (.dT f)/\x=.ref p/\H p=some (.tup (k.map kV))/\f.length<Az/\W (i+1) (upd H D (.dT (Nz f k y))))/\∀H,W (min xs.length ys.length) H->Kv X.K H l1 xs/\Kv X.K H l2 ys/\∀s',Inv X d j H s'->Q (.ref D) s'):wpAny (model X.prog X.w) A (call (.type "dict") [.ref z]) Q E s:=by
 refine callType_codes (Q₁:=λt e=>t=.ref s.heap.objs.size/\e={ s with heap:=s.heap.push { cls:=.type "dict",data:=.dict #[] } }) F.kt_called_dict (F.kt_typeCall_dict_1 _) F.entry_dict_init (kt_code_dict_new _ ⟨rfl,rfl⟩) ?_
 rintro t e ⟨rfl,rfl⟩
 have fD:h s.heap.objs.size=none:=I.hok.fresh (Ar _)
 obtain ⟨W,S,hW,J⟩:=hq s.heap.objs.size fD
 have uU:({ s with heap:=s.heap.push { cls:=.type "dict",data:=.dict #[] } }:Am).TypeIs (.ref s.heap.objs.size) "dict" := ⟨_,Be _ rfl,rfl⟩
 have I3:Inv X d j (upd h s.heap.objs.size (.dT [])) { s with heap:=s.heap.push { cls:=.type "dict",data:=.dict #[] } } :=
  I.laid (t':=s.toks) (λb u q=>Ai _ q) (Ar _) (oU s.heap I.big)
 have L:IsZip (s.heap.push { cls:=.type "dict",data:=.dict #[] }) z TI TO .none:=Ai _ hz
 have C:({ s with heap:=s.heap.push { cls:=.type "dict",data:=.dict #[] } }:Am).TypeIs (.ref z) "zip" := ⟨_,L,rfl⟩
 refine ⟨uU,F.args_dict_init_2 _ _,?_⟩
 unfold Builtin.«dict.__init__»
 refine Ab ?_
 unfold Builtin.Dict.selfAndRest
 refine Ab (Xv uU ?_)
 show wpAny _ _ (pure (s.heap.objs.size,[Bc z])) _ _ _
 refine An ?_
 show wpAny _ _ (aW "dict.__init__" s.heap.objs.size (.ref z) [] .none) _ _ _
 unfold aW
 refine Ab (Ls C ?_)
 rw[if_pos (by decide)]
 refine Ab (xB (A:=A.in1.in1) M L λB t4 g _=>?_)
 simp only[Option.isNone_none,if_true]
 refine Ab (Pi ?_)
 have P:IsZip B z TI TO .none:=g _ _ L
 refine Ab (kU P ?_)
 have I4:=I3.kept (h':=B) (t':=t4) g
 have up:∀c o,s.heap.get? c=some o->B.get? c=some o:=λc o q=>g c o (Ai _ q)
 obtain ⟨u,v,a⟩:=a
 have G:FO B z TI TO l n l1 l2 0:=⟨up _ _ r,h1.at λo q=>up _ _ q,N.at λo q=>up _ _ q,.inl ⟨P,u,v,up _ _ a⟩⟩
 have R:∀c∈[z,TI,TO,l,n],c≠s.heap.objs.size:=λc m=>by
  obtain ⟨o1,e1,_⟩:=h1
  obtain ⟨o2,Y,_⟩:=N
  simp only[Ao,Bn,or_false] at m
  rcases m with rfl | rfl | rfl | rfl | rfl
  ·exact By (Bb hz)
  ·exact By (Bb r)
  ·exact By (Bb a)
  ·exact By (Bb e1)
  ·exact By (Bb Y)
 refine An ⟨Gx Ly _,?_⟩
 exact zF (A:=A.in1) M (Jn (La (show A.in1.units+2<A.units+8 from by show A.units+1+2<A.units+8; omega)) U) Z W hW (λH w=>⟨(J H w).1,(J H w).2.1⟩) (λH s' w T=>⟨rfl,(J H w).2.2 s' T⟩) _ 0 _ _ rfl (Dg _) I4 G (λc m=>⟨by rw[Cp (R c m)]; exact (O c m).1,(O c m).2⟩) S
end
section
variable{X:Cx}
def yL(K:PySem.W.Frag)(ta:TA):TE:=λg H Q=>ta g H λvs e=>∃f d c b,vs=[.ref f,.ref d]/\Kv K e f c/\Kv K e d b/\∀D,e D=none->∃W:Nat->Hp->Prop,W 0 (upd e D (.dT [])) /\
   (∀i H x y,c[i]? = some x->b[i]? = some y->W i H->Kv K H f c/\Kv K H d b/\∃a k p,H D=some (.dT a)/\x=.ref p/\H p=some (.tup (k.map kV))/\a.length<Az/\W (i+1) (upd H D (.dT (Nz a k y)))) /\
   ∀H,W (min c.length b.length) H->Kv K H f c/\Kv K H d b/\Q (.ref D) H
theorem zG{a b:Expr}{ta:TA}{p p2 pos i:Pos}(J:Gl X "dict")(F:X.mg "dict" = none)(hg:Gl X "zip")(hm:X.mg "zip" = none)(t:X.calm=true)(hu:X.A.units+64<cLine)(ha:PA X [a,b] ta)(hs:Bl [a,b] X.env=(false,eval a X.env)::Bl [b] X.env:=by rfl)(T:(Gr pos (Bl [b] X.env)).any (·.1)=false:=by rfl):PE X (.Call (.Name "dict" p2) [.Call (.Name "zip" p) [a,b] [] pos] [] i) (yL X.K ta):=by
 intro f s Q H R I h
 refine Call_ (Ld I J F (u:=.type "dict") (by decide +kernel) (Fk ?_ rfl rfl))
 show wpAny _ _ (spliced ((false,eval (.Call (.Name "zip" p) [a,b] [] pos) X.env)::Gr i (Bl [] X.env))) _ _ s
 refine Hq ?_
 refine Call_ (Ld I hg hm (u:=.type "zip") (by decide +kernel) (Fk (Il (ha pos f s Q H _ I h) λus g ⟨vs,N,r,r1,q1⟩=>?_) hs T))
 obtain ⟨l1,P,xs,ys,e,x,v,q⟩:=q1
 subst e
 obtain ⟨u1,u2,rfl,C,L⟩:=vals2 r1
 cases C
 cases L
 obtain ⟨M,S,k,h1⟩:=r.list x
 obtain ⟨O,h3,j,h0⟩:=r.list v
 have l:l1<g.heap.objs.size:=let ⟨o,q,_⟩:=k.isList; Bb q
 have m:P<g.heap.objs.size:=let ⟨o,q,_⟩:=j.isList; Bb q
 refine call_zip_2 k.isList j.isList λh2 hz y z E G Y Z=>?_
 have d:∀n,Np X f N (g.heap.objs.size+n):=λn=>r.fpOk (Sw _ _) (r.hok.fresh (Sw _ _))
 have fr:∀c∈[g.heap.objs.size+4,g.heap.objs.size+2,g.heap.objs.size+3,g.heap.objs.size,g.heap.objs.size+1],Np X f N c:=λc t=>by
  simp only[Ao,Bn,or_false] at t
  rcases t with rfl | rfl | rfl | rfl | rfl
  ·exact d 4
  ·exact d 2
  ·exact d 3
  ·exact d 0
  ·exact d 1
 refine Mq ?_
 refine oS (xs:=xs) (ys:=ys) (I.ok.hd t) (by omega) (fV _ _ _ l m) (r.kept (t':=g.toks) Z) hz y ⟨_,_,z⟩ E G fr λD hD=>?_
 obtain ⟨W,U,hW,B⟩:=q D hD
 exact ⟨W,U,hW,λH w=>⟨(B H w).1,(B H w).2.1,λs' V=>⟨.ref D,H,V,rfl,(B H w).2.2⟩⟩⟩
end
end Nd
namespace DL
open PySem PySem.Spec PyProof.Rows L2 Nd
def Sf(b:List (List Int×Ad))(l:List (List Int×Ad)):List (List Int×Ad):=l.foldl (λa p=>Ta a p.1 p.2) b
def iU(xs:List DV)(b:DS)(P:DV->DS->Prop):Prop:=match xs with
 | [.dat _ (.list ds),.dat _ (.list es)]=>ds.length<=1000000/\Dl es=true/\∃a:List (List Int),ds=a.map Bj/\P (.dat .ow (.dict (Rg (Sf [] (a.zip es))))) b
 | _=>False
def rE(c:DA):DE:=λb P=>c b λd a=>iU d a P
theorem gS:∀(l:List (List Int×Ad)) (a:List (List Int×Ad)),(Sf a l).length<=a.length+l.length
 | [],a=>Ar _
 | p::l,a=>by
  have b:=gS l (Ta a p.1 p.2)
  have c:=C2 a p.1 p.2
  show (Sf (Ta a p.1 p.2) l).length<=_
  rw[Bu]
  omega
theorem pQ{ws:List (List Int)}{es:List Ad}{i:Nat}{w:List Int}{e:Ad}(h1:ws[i]? = some w)(b:es[i]? = some e):Sf [] ((ws.zip es).take (i+1))=Ta (Sf [] ((ws.zip es).take i)) w e:=by
 have a:(ws.zip es)[i]? = some (w,e):=by
  rw[List.getElem?_zip_eq_some]
  exact ⟨h1,b⟩
 rw[Kf,a]
 unfold Sf
 rw[aD]
 rfl
section
variable{X:Cx}{a b:Expr}{d:DA}{p e pos c:Pos}
theorem K3{K:PySem.W.Frag}:∀I H Q,LE K (rE d) I H Q->yL K (LA K d) I H Q:=by
 intro I H Q h
 obtain ⟨X,Y,S,T,δ,P,rfl,hS,hA,hd,k⟩:=h
 refine ⟨X,Y,S,T,δ,_,rfl,hS,hA,hd,λj t As us U H' E q ex eu L p=>?_⟩
 unfold iU at p
 split at p
 ·rename_i m ds m' g
  obtain ⟨hl,im,e,rfl,pk⟩:=p
  obtain ⟨v,F,w,G,rfl,f⟩:=Xh eu L ex
  obtain ⟨a,j,G1,rfl,C,ra,rfl,hz⟩:=(f.told mem_mid).list_inv
  obtain ⟨b,N,G2,rfl,B,rb,rfl,h7⟩:=(f.told Ec).list_inv
  refine ⟨a,b,j,N,rfl,Kv.of C,Kv.of B,λD O=>?_⟩
  have h5:=dZ (n:=1000000) (Ar _)
  have r:a≠D:=λz=>by rw[z,O] at C; cases C
  have s:b≠D:=λz=>by rw[z,O] at B; cases B
  have l1:e.length=j.length:=by have:=ra.len; rw[Ac] at this; exact this.symm
  have l2:=rb.len
  refine ⟨λi H=>H a=some (.lst j)/\H b=some (.lst N)/\At K X Y t.n (⟨some (.ref D),.dT (zC (Sf [] ((e.zip g).take i))),[D]⟩::(U++(⟨some (.ref a),.dat m (.list (e.map Bj)),a::G1⟩::⟨some (.ref b),.dat m' (.list g),b::G2⟩::T))) H,⟨?_,?_,?_⟩,?_,?_⟩
  ·rw[Cp r]; exact C
  ·rw[Cp s]; exact B
  ·exact f.dNew O
  ·(intro i H x y Z hy R; obtain ⟨u,l,c⟩ := R)
   have li:=(Af.mp Z).1
   have h4:=(Af.mp hy).1
   obtain ⟨a2,h6,F2,ea,o,J,_,_⟩:=(c.told (Ae _ mem_mid)).list_inv
   cases ea
   rw[u] at o
   cases o
   obtain ⟨b2,h3,F3,eb,A,V,_,_⟩:=(c.told (Ae _ Ec)).list_inv
   cases eb
   rw[l] at A
   cases A
   have E:e[i]? = some (e[i]'(by omega)):=Ag _
   have q:g[i]? = some (g[i]'(by omega)):=Ag _
   obtain ⟨x',Fx,g1,g2,_⟩:=J.get (by rw[Aq,E]; rfl)
   rw[Z] at g1
   cases g1
   obtain ⟨p,rfl,hp⟩:=Xp g2
   obtain ⟨y',Fy,g3,g4,_⟩:=V.get q
   rw[hy] at g3
   cases g3
   obtain rfl:=g4.imm (pK.mp im _ (Au q))
   obtain ⟨kv,q1,q2,q3⟩:=c.dPut (w:=e[i]'(by omega)) g4
   refine ⟨Kv.of u,Kv.of l,kv,Ky _,p,q1,rfl,hp,?_,?_,?_,?_⟩
   ·have:=gS ((e.zip g).take i) []
    rw[Fq] at this
    rw[Ac] at hl
    rw[q2]
    show _<Az
    have h0:([]:List (List Int×Ad)).length=0:=rfl
    omega
   ·rw[Cp r]; exact u
   ·rw[Cp s]; exact l
   ·rw[pQ E q]
    exact q3
  ·(intro H R; obtain ⟨u,l,c⟩ := R)
   refine ⟨Kv.of u,Kv.of l,k _ t _ [D] U H E q ?_ pk⟩
   have et:(e.zip g).take (min j.length N.length)=e.zip g:=Hi (by rw[Lv]; omega)
   rw[et] at c
   have M:=c.dGot
   exact (M.sub (((Cu U).append ((Cu T).cons _ |>.cons _)).cons₂ _)).tomid
 ·exact p.elim
theorem t7(h:X.A.units+64<cLine)(f:Gl X "dict")(g:X.mg "dict" = none)(n:Gl X "zip")(l:X.mg "zip" = none)(j:X.calm=true)(k:kB X [a,b] d)(i:Bl [a,b] X.env=(false,eval a X.env)::Bl [b] X.env:=by rfl)(m:(Gr pos (Bl [b] X.env)).any (·.1)=false:=by rfl):Ee X (.Call (.Name "dict" e) [.Call (.Name "zip" p) [a,b] [] pos] [] c) (rE d):=PE.imp (zG f g n l j h k i m) K3
end
end DL
namespace Nd
open PySem PySem.Spec PyProof.Rows L2
end Nd
namespace DL
open PySem PySem.Spec PyProof.Rows L2 Nd
end DL
namespace Nd
open PySem PySem.Spec PyProof.Rows L2
end Nd
namespace DL
open PySem PySem.Spec PyProof.Rows L2 Nd
theorem At.spoil{K:PySem.W.Frag}{i H H':Hp}{X:Addr->Prop}{n:Nat}{E:List Ent}{v:Option V}{d:Ad}{F:List Addr}(h:At K i X n (⟨v,.dat .ow d,F⟩::E) H)(np:∀f∈E,Lf f.x=false)(g:∀b o,H b=some o->(b∉F\/LH o)->H' b=some o):At K i X n E H':=by
 have y:=Ba.mp h.sep
 have l:∀a∈F,i a=none:=λa t=>by
  rcases h.new _ Aa a t with z | z
  ·exact z
  ·cases z.2
 refine At.re (h.sub (Cw _ _)) (λf j=>(h.ok f (Ae _ j)).kp (λb o e z=>g b o e (z.imp (λq r=>(y.1 f j).1 (.inl (np f j)) b r q) id)) (Ar _)) (λb o s q=>g b o (h.same b o s q) (.inl λz=>?_)) (λb o q=>?_) λb p=>?_
 ·rw[l b z] at q; cases q
 ·obtain ⟨m,e⟩:=h.dom b o q
  exact ⟨m,g b m e (.inl λz=>by rw[l b z] at q; cases q)⟩
 ·obtain ⟨z,c,k,f,u,A⟩:=h.xd b p
  exact ⟨z,c,k,f,g _ _ u (.inl λw=>z (l b w)),A⟩
end DL
namespace Ts
open PySem PyProof.Rows L2
def Fg(h h':Heap):Prop:=∀b o,h.get? b=some o->h'.get? b=some o
theorem Fg.refl(h:Heap):Fg h h:=λ_ _ e=>e
theorem Fg.trans(x:Fg a b)(y:Fg b c):Fg a c:=λi o e=>y i o (x i o e)
def GL(x y:Keyed):Bool:=decide (numOf x.1<numOf y.1)
section
variable{prog:Bp}{w:World}{A:Cn}{E:Value->Am->Prop}{s:Am}
theorem u0:Cmp prog w A s oneType' (λx=>∃n t,x.1=.int n t) GL where
 run:=λx y Q E ⟨n,t,a⟩ ⟨c,d,b⟩ h=>by
  obtain ⟨k,j⟩:=x
  obtain ⟨g,e⟩:=y
  simp only at a b
  subst a b
  rw[keyLt'_oneType]
  exact tQ h
 irr:=λx=>by simp [GL]
 tr:=λx y z f i=>by simp only[GL,decide_eq_true_eq] at *; omega
 neg:=λx y z h=>by simp only[GL,decide_eq_true_eq] at *; omega
variable{a kS:Addr}{vs:List Value}{kz:List Int}{P:PySem.Fin->Am->Prop}
structure Fresh2(h0:Heap)(h:Heap)(a kS:Addr)(keys:Array Value)(e1:Nat):Prop where
 keep:Fg h0 h
 na:h0.get? a=none
 nk:h0.get? kS=none
 ne:kS≠a
 ga:h.get? a=some (Cv "list" #[] e1)
 gk:∃e,h.get? kS=some (Cv "list" keys e)
theorem Nl(k:Fg h0 h)(n:h0.get? b=none):Fg h0 (h.update b f):=λi o e =>
 ((Cj h b f).2 i (λz=>by rw[z,n] at e; cases e)).trans (k i o e)
theorem AU{h0:Heap}{keys:Array Value}{e:Nat}{st:Eb}(F:Fresh2 h0 s.heap a kS keys e)(g:El keys.toList kz)(j:kz.length=vs.length)(hz:vs.length<64)(i:(arrOf st).Perm (keys.zip vs.toArray))(l:SortedTo (arrOf st) (arrOf st).size)(o:failedOf st=none)(h:∀h' p out c,Fg h0 h'->h'.get? a=some (Cv "list" out c)->KskOut false kz vs out.toList->P (.done (.ret .none)) { s with heap:=h',toks:=p }):wpAny (model prog w) A (ksk_tail a false e (.ref kS) st) P E s:=by
 have r:Az=16777216:=Fc
 obtain ⟨t,n⟩:=F.gk
 have m:=g.length
 rw[Ff] at m
 have k:vs.toArray.size=vs.length:=Av
 have q:(arrOf st).size=vs.length:=by rw[i.size_eq,Array.size_zip,k]; omega
 have f:(s.heap.update kS (Cg λ_=>(#[]:Array Value))).get? a=some (Cv "list" #[] e):=((Cj s.heap kS _).2 a F.ne.symm).trans F.ga
 have out:=ksk_out (b:=false) g i l
 rw[if_neg Cr] at out
 obtain ⟨d,g2⟩ : ∃d,((s.heap.update kS (Cg λ_=>(#[]:Array Value))).update a (Cg λ_=>(arrOf st).map (·.2))).get? a=some (Cv "list" ((arrOf st).map (·.2)) d):=⟨_,Iu f λ_=>(arrOf st).map (·.2)⟩
 unfold ksk_tail
 dsimp only
 refine Ab (Kq n rfl ?_ (by omega) (Dg _))
 refine Ab (Lp (Ab (Ud f rfl (Ab (Kq f rfl ?_ (Dg _) ?_)))))
 ·rw[o]
  simp only[bne_self_eq_false,Dh,if_false]
  exact An (h _ _ _ d (Nl (Nl F.keep F.nk) F.na) g2 out)
 ·simp only[Dh,if_false,Array.size_map]
  omega
theorem MA(F:Fresh2 h0 s.heap a kS keys m)(d:El keys.toList kz)(e:kz.length=vs.length)(hz:vs.length<64)(h:∀h' B out c,Fg h0 h'->h'.get? a=some (Cv "list" out c)->KskOut false kz vs out.toList->P (.done (.ret .none)) { s with heap:=h',toks:=B }):wpAny (model prog w) A (ksk_end a false vs.toArray m (.ref kS) keys) P E s:=by
 have G:Az=16777216:=Fc
 have v:=d.length
 rw[Ff] at v
 have C:vs.toArray.size=vs.length:=Av
 have u:(keys.zip vs.toArray).size=vs.length:=by rw[Array.size_zip,C]; omega
 unfold ksk_end
 dsimp only
 rw[if_neg Cr]
 by_cases f:vs.toArray.size<2
 ·rw[if_pos f,if_pos f]
  refine Ab (An ?_)
  rw[StateT.run_pure]
  refine Ab (An ?_)
  refine AU F d e hz (Array.Perm.refl _) (λi j l n=>?_) rfl h
  have r:j<(keys.zip vs.toArray).size:=n
  rw[u] at r
  rw[Av] at f
  obtain rfl:i=j:=by omega
  exact Gs _
 ·rw[if_neg f,if_neg f]
  rw[Av] at f
  rw[ksk_kind d (by omega)]
  refine Ab (An ?_)
  refine Ab (Eo (fS u0 (a₀:=keys.zip vs.toArray) (st:=SortSt.mk' oneType' (keys.zip vs.toArray) #[] 7 none) (E:=E)
   (Q:=λ_ b=>Good0 oneType' (keys.zip vs.toArray) b/\kR GL (arrOf b) 0 (keys.zip vs.toArray).size) ⟨rfl,rfl,Array.Perm.refl _⟩ (ksk_intKeys d) rfl (by omega) (by omega) λb g p=>⟨g,p⟩) ?_ λ_ _ z=>z)
  (rintro ⟨⟨⟩,b⟩ D x; obtain ⟨rfl,g,p⟩ := x)
  refine AU F d e hz g.perm (λi j l n=>?_) g.fail h
  rw[g.size] at n
  have q:=p i j (Dg _) l n
  unfold le GL at q
  have t:∀k,k<(arrOf b).size->K (arrOf b) k=numOf (X (arrOf b) k).1:=λk d=>by
   rw[K_eq d]
   have m:=yZ (xs:=arrOf b) (i:=k) d
   rw[kP d] at m
   rw[Bo m]
  have y:(arrOf b).size=_:=g.size
  have o:j<(arrOf b).size:=by rw[y]; exact n
  refine Eq.symm (t i (by omega))▸Eq.symm (t j o)▸?_
  simp only[decide_eq_false_iff_not] at q
  omega
theorem BE(F:Fresh2 h0 s.heap a kS #[] o)(m:kz.length=vs.length)(hz:vs.length<64)(turn:∀(i:Nat) (v:Value) (k:Int),vs[i]? = some v->kz[i]? = some k->∀(h:Heap) (g:Nat),Fg h0 h->∀R:Value->Am->Prop,(∀t e b,Fg h e->R (.int k t) { s with heap:=e,toks:=b })->wpAny (model prog w) A (call f [v]) R (λ_ _=>False) { s with heap:=h,toks:=g })(h:∀h' g out c,Fg h0 h'->h'.get? a=some (Cv "list" out c)->KskOut false kz vs out.toList->P (.done (.ret .none)) { s with heap:=h',toks:=g }):wpAny (model prog w) A (ksk_rest a f false vs.toArray o (.ref kS)) P E s:=by
 have N:Az=16777216:=Fc
 unfold ksk_rest
 refine Ab (Pi ?_)
 rw[<- Yd]
 simp only[List.toList_toArray]
 refine Ab (ksk_fold (λi y=>∃h' g u,y={ s with heap:=h',toks:=g }/\Fresh2 h0 h' a kS u o/\El u.toList (kz.take i)) vs 0 s ⟨s.heap,s.toks,#[],rfl,F,by simpa using IntsAre.nil⟩ ?_ ?_)
 ·(intro j x y G C; obtain ⟨h',g,u,rfl,d,l⟩ := C)
  simp only[Nat.zero_add] at l ⊢
  have O:j<vs.length:=(Af.mp G).1
  obtain ⟨k,p⟩ : ∃k,kz[j]? = some k:=⟨_,Ag (by omega)⟩
  have K:=l.length
  rw[Ff,Fq] at K
  refine Ab (Mp (Eo (turn j x k G p h' g d.keep (λv n=>∃t e b,v=.int k t/\n={ s with heap:=e,toks:=b }/\Fg h' e) λt e b q=>⟨t,e,b,rfl,rfl,q⟩) (λv n q=>?_) λ_ _ z=>z.elim))
  obtain ⟨t,e,b,rfl,rfl,q⟩:=q
  dsimp only
  obtain ⟨J,D⟩:=d.gk
  have r:=q _ _ D
  refine Ab (Kq r rfl ?_ (by omega) (by rw[Array.size_push]; omega))
  refine An ⟨rfl,_,_,u.push (.int k t),rfl,⟨Nl (d.keep.trans q) d.nk,d.na,d.nk,d.ne,((Cj e kS _).2 a d.ne.symm).trans (q _ _ d.ga),_,Iu r (·.push (.int k t))⟩,?_⟩
  have o:kz.take (j+1)=kz.take j++[k]:=by rw[Kf,p]; rfl
  rw[Array.toList_push,o]
  exact ksk_snoc l
 ·(intro y C; obtain ⟨h',g,u,rfl,d,l⟩ := C)
  rw[Nat.zero_add,Hi (by omega)] at l
  obtain ⟨J,D⟩:=d.gk
  refine Ab (Wm D rfl ?_)
  exact MA (s:={ s with heap:=h',toks:=g }) d l m hz λM B out c I H L=>h M B out c I H L
theorem kC(hl:s.heap.IsList l vs.toArray)(j:kz.length=vs.length)(hz:vs.length<64)(u:argsOk "sorted" ⟨[.ref l],n⟩)(q:∀x,argsOk "list.sort" ⟨[.ref x],n⟩)(L:∀x,Builtin.«list.sort» ⟨[.ref x],n⟩=ksk_tree x f false)(turn:∀(i:Nat) (v:Value) (k:Int),vs[i]? = some v->kz[i]? = some k->∀(h:Heap) (p:Nat),Fg s.heap h->∀R:Value->Am->Prop,(∀t B r,Fg h B->R (.int k t) { s with heap:=B,toks:=r })->wpAny (model prog w) A.in1.in1 (call f [v]) R (λ_ _=>False) { s with heap:=h,toks:=p })(h:∀D h' p out c,Fg s.heap h'->s.heap.objs.size<=D->h'.get? D=some (Cv "list" out c)->KskOut false kz vs out.toList->Q (.ref D) { s with heap:=h',toks:=p }):wpAny (model prog w) A (call (.builtin "sorted") [.ref l] n) Q E s:=by
 have M:Az=16777216:=Fc
 refine N6 kind_sorted plain_sorted entry_sorted u ?_
 unfold Xy
 refine Ab (m:=checkCount "sorted" 1 1 _) (An (Ab (collect_list hl (Ab (Mo ?_ (by omega))) (by omega))))
 have F:((s.heap.push (Cv "list" #[] 0)).update s.heap.objs.size (Cg (·++vs.toArray))).objs.size=s.heap.objs.size+1:=by rw[Hm,Pj]
 have g:(((s.heap.push (Cv "list" #[] 0)).update s.heap.objs.size (Cg (·++vs.toArray))).push (Cv "list" vs.toArray 0)).get? (s.heap.objs.size+1)=some (Cv "list" vs.toArray 0):=by
  rw[<- F]
  exact Be _ rfl
 have kept:Fg s.heap (((s.heap.push (Cv "list" #[] 0)).update s.heap.objs.size (Cg (·++vs.toArray))).push (Cv "list" vs.toArray 0)):=λb o e =>
  Ai _ (((Cj _ _ _).2 b (By (Bb e))).trans (Ai _ e))
 show wpAny _ _ _ _ _ { s with heap:=((s.heap.push (Cv "list" #[] 0)).update s.heap.objs.size (Cg (·++vs.toArray))).push (Cv "list" vs.toArray 0) }
 rw[F]
 generalize N:((s.heap.push (Cv "list" #[] 0)).update s.heap.objs.size (Cg (·++vs.toArray))).push (Cv "list" vs.toArray 0)=H1 at g kept
 have d:∀b,s.heap.objs.size<=b->s.heap.get? b=none:=λb J=>Ku J
 refine Ab (Cc (wpAny_call_entry_kw slot_list_sort ⟨_,g,rfl⟩ entry_list_sort ?_ (q _)))
 show wpAny (model prog w) A.in1.in1 (Builtin.«list.sort» ⟨[.ref (s.heap.objs.size+1)],n⟩) _ _ _
 rw[L]
 unfold ksk_tree
 have lt:s.heap.objs.size+1<H1.objs.size:=Bb g
 obtain ⟨y,g2⟩ : ∃y,(H1.update (s.heap.objs.size+1) (Cg λ_=>(#[]:Array Value))).get? (s.heap.objs.size+1)=some (Cv "list" #[] y):=⟨_,Iu g λ_=>#[]⟩
 have G:Fg s.heap (H1.update (s.heap.objs.size+1) (Cg λ_=>(#[]:Array Value))):=Nl kept (d _ (by omega))
 refine Ab (Wm g rfl (Ab (Kq g rfl ?_ (by rw[Av]; omega) (Dg _))))
 refine Ab (Ud g2 rfl (Ab (Zm (Ab (Mo (Cc ?_) (Dg _))) (by show vs.length<=_; omega))))
 have C:((H1.update (s.heap.objs.size+1) (Cg λ_=>(#[]:Array Value))).push (Cv "tuple" vs.toArray 0)).objs.size=H1.objs.size+1:=by rw[Pj,Hm]
 have sz:s.heap.objs.size<H1.objs.size:=by omega
 refine BE (s:={ s with heap:=((H1.update (s.heap.objs.size+1) (Cg λ_=>(#[]:Array Value))).push (Cv "tuple" vs.toArray 0)).push (Cv "list" #[] 0) }) (h0:=s.heap) (a:=s.heap.objs.size+1)
  (kS:=((H1.update (s.heap.objs.size+1) (Cg λ_=>(#[]:Array Value))).push (Cv "tuple" vs.toArray 0)).objs.size)
  ⟨λb o e=>Ai _ (Ai _ (G b o e)),d _ (by omega),d _ (by rw[C]; omega),λz=>(by have:=C.symm.trans z; omega),Ai _ (Ai _ g2),0,Be _ rfl⟩ j hz turn ?_
 intro h' p out c I H K
 exact ⟨_,rfl,An ⟨_,rfl,h _ h' p out c I (Wo _) H K⟩⟩
end
end Ts
namespace DL
open PySem PySem.Spec PyProof.Rows L2 Nd Ts
def rG(K:PySem.W.Frag):V->Hp->VK->Prop:=λx H Q=>∃(p:Addr) (c:List Addr) (d:Addr->Nat),x=.ref p/\c.length<64/\Kv K H p (c.map V.ref)/\(∀r∈c,∃e,Ve K H r e/\e.length=d r) /\
 ∀(a:Addr) (b:List Addr),H a=none->b.Perm c->b.Pairwise (λx y=>d x<=d y)->Q (.ref a) (upd H a (.lst (b.map V.ref)))
theorem W5{a b:List Addr}(h:(a.map Bc).Perm (b.map Bc)):a.Perm b:=by
 have:=h.map (λx:Value=>match x with | .ref a=>a | _=>0)
 rw[Bm,Bm] at this
 simpa [Qd] using this
theorem lY{c:List Addr}{b:Addr->Nat}{out:List Value}(h:KskOut false (c.map λr=>(b r:Int)) (c.map Bc) out):∃a:List Addr,out=a.map Bc/\a.Perm c/\a.Pairwise λx y=>b x<=b y:=by
 obtain ⟨i,f,rfl,s⟩:=h
 have e:(c.map λr=>(b r:Int)).zip (c.map Bc)=c.map λr=>((b r:Int),Bc r):=List.zip_map' ..
 rw[e] at f
 have d:∀p∈i,∃r∈c,p=((b r:Int),Bc r):=λp t=>by
  obtain ⟨r,u,e⟩:=Bh.mp (f.mem_iff.mp t)
  exact ⟨r,u,e.symm⟩
 have n:∀l:List (Int×Value),(∀p∈l,∃r∈c,p=((b r:Int),Bc r))->∃a:List Addr,l=a.map λr=>((b r:Int),Bc r):=by
  intro l
  induction l with
  | nil=>exact λ_=>⟨[],rfl⟩
  | cons p l m =>
   intro k
   obtain ⟨r,_,rfl⟩:=k p Aa
   obtain ⟨a,rfl⟩:=m λx o=>k x (Ae _ o)
   exact ⟨r::a,rfl⟩
 obtain ⟨a,rfl⟩:=n i d
 have g:=f.map Prod.snd
 rw[Bm,Bm] at g
 refine ⟨a,by rw[Bm]; rfl,W5 g,?_⟩
 have j:(a.map λr=>((b r:Int),Bc r)).Pairwise (λp q=>p.1<=q.1):=s
 rw[Kg] at j
 exact j.imp λq=>by simpa using q
section
variable{X:Cx}{a:List (Addr×Obj)}{b:List (Option V)}{H:Hp}{s:Am}
theorem qX(I:Inv X a b H s)(ru:RelV x u)(h:rG X.K x H Q):wpAny (model X.prog X.w) X.A (call (.builtin "sorted") [u] [(Do "key",.builtin "len")]) (EP X a b Q) X.xe s:=by
 obtain ⟨p,E,kf,rfl,hz,O,N,q⟩:=h
 cases ru
 obtain ⟨n,rv,pl,_⟩:=I.list O
 have e:=Qr rv
 subst e
 have hs:Az=16777216:=Fc
 refine kC (vs:=E.map Bc) (kz:=E.map λr=>(kf r:Int)) (f:=.builtin "len") pl.isList (by rw[Ac,Ac]) (by rw[Ac]; exact hz) (ksk_s1 _ _) (λx=>ksk_l1 _ _) (λx=>ksk_t4 _ _) (λi v k m B h L l R hR=>?_) λD h' L F c k1 J k3 M=>?_
 ·rw[Aq] at m B
  cases C:E[i]? with
  | none=>rw[C] at m; cases m
  | some r =>
   rw[C] at m B
   cases m
   cases B
   obtain ⟨ys,T,P⟩:=N r (Au C)
   obtain ⟨n,r',y,U⟩:=I.tuple T
   obtain ⟨o,ho,G,W,Y⟩:=y
   have t:=r'.length
   have z:IsTup h r n.toArray:=⟨o,l r o ho,G,W,Y⟩
   refine len_tuple z (by simp only[Av]; omega) ?_
   simp only[Av]
   rw[<- t,P]
   exact hR _ h _ (Fg.refl h)
 ·obtain ⟨j,Z,d,g⟩:=lY M
  have S:F=(j.map Bc).toArray:=by rw[<- Z,Array.toArray_toList]
  subst S
  refine ⟨.ref D,upd H D (.lst (j.map V.ref)),I.laid (t':=L) k1 J ⟨?_,_,c,Yw j,k3⟩,rfl,q D j (I.hok.fresh J) d g⟩
  rw[Ac,d.length_eq]
  omega
variable{e:Expr}{t:TA}{d g kp pos:Pos}
theorem B1(p:Gl X "sorted")(o:X.mg "sorted" = none)(c:Gl X "len")(f:X.mg "len" = none)(m:PA X [e] t)(i:Bl [e] X.env=[(false,eval e X.env)]:=by rfl):PE X (.Call (.Name "sorted" d) [e] [⟨some "key",.Name "len" g,kp⟩] pos) (GN (λxs H Q=>∃x,xs=[x]/\rG X.K x H Q) t):=by
 intro a s b H Q I h
 refine Ft (Ld I p o (u:=.builtin "sorted") (by decide +kernel) ?_)
 refine Hs (Il (m pos a s b H _ I h) λr v ⟨vs,w,j,n,l⟩=>?_) (by rw[i]; rfl) (by rw[i]; rfl)
 obtain ⟨x,rfl,q⟩:=l
 obtain ⟨u,rfl,k⟩:=vals1 n
 refine kws_cons (Ld j c f (u:=.builtin "len") (by decide +kernel) (kws_nil ?_))
 exact qX j k q
end
def aM:DC:=λb P=>match b with
 | [.dat _ (.list ds)]=>∃a:List (List Int),ds=a.map Bj/\a.length<64/\∀L:List (List Int),L.Perm a->L.Pairwise (λx y=>x.length<=y.length)->P (.dat .ow (.list (L.map Bj)))
 | _=>False
section
variable{K:PySem.W.Frag}
theorem yU:Pb K (λxs H Q=>∃x,xs=[x]/\rG K x H Q) aM:=by
 intro y X n S T z B H Q P i c d k
 unfold aM at d
 split at d
 ·rename_i g
  obtain ⟨v,F,rfl,c⟩:=Ii i c g
  obtain ⟨A,rfl,b,w⟩:=d
  obtain ⟨a,xs,G,rfl,m,j,rfl,u⟩:=(c.told mem_mid).list_inv
  obtain ⟨o,rfl,rfl,rfl,h,p⟩:=Tx j rfl
  rw[Ac] at b
  refine ⟨_,rfl,a,o,λr=>(yY H r).length,rfl,b,Kv.of m,λr e=>⟨_,Ve.of (h r e),Ac ..⟩,λq l s f t=>?_⟩
  refine k _ _ _ _ (c.drop.newI (Vv λr e=>p r (f.mem_iff.mp e)) (Wa _) (by rw[Ac,Ac,f.length_eq]; simpa using u) s .ow) (w _ (f.map _) (Kg.mpr t))
 ·exact d.elim
variable{X:Cx}{e:Expr}{b:DA}{d c kp pos:Pos}
theorem zL(j:Gl X "sorted")(i:X.mg "sorted" = none)(a:Gl X "len")(f:X.mg "len" = none)(h:kB X [e] b)(g:Bl [e] X.env=[(false,eval e X.env)]:=by rfl):Ee X (.Call (.Name "sorted" d) [e] [⟨some "key",.Name "len" c,kp⟩] pos) (FB aM b):=PE.imp (B1 j i a f h g) (lO yU)
end
end DL
namespace DL
open PySem PySem.Spec PyProof.Rows L2 Nd
def Qn(i:Int):Ib:=Sd i
def Qk(ks:List (Int×Ad))(w:Int):Option Ad:=(ks.find? λp=>decide (p.1=w)).map (·.2)
def mD(ks:List (Int×Ad))(w:Int)(d:Ad):List (Int×Ad) :=
 if (ks.any λp=>decide (p.1=w))=true then ks.map (λp=>if p.1=w then (p.1,d) else p) else ks++[(w,d)]
theorem Xj(h:Zz a=Zz b):a=b:=Rp (λx y e=>by
 obtain ⟨c,d⟩:=Prod.mk.inj e
 exact Prod.ext (PyData.int.inj c) d) (Dd h).2
theorem cP(h:Qn a=Qn b):a=b:=Sum.inl.inj h
section
variable{K:PySem.W.Frag}{H H':Hp}
structure IRel(K:PySem.W.Frag)(H:Hp)(kv:List (Ib×V))(ks:List (Int×Ad)):Prop where
 key:kv.map (·.1)=ks.map λp=>Qn p.1
 val:RdFs K H (kv.map (·.2)) (ks.map (·.2)) []
theorem RdF.dicI_inv(h:RdF K H v (.dict X) F)(d:vY X=true:=by first | rfl | assumption):∃a kv ks,v=.ref a/\X=Zz ks/\H a=some (.dK kv)/\IRel K H kv ks/\F=[a]:=by
 cases h with
 | dic h c b=>cases d
 | dnm h c b=>cases d
 | dik h c b=>exact ⟨_,_,_,rfl,rfl,h,⟨c,b⟩,rfl⟩
theorem RdF.int_at(h:RdF K H v (.int i) F):v=kV (Qn i):=by
 cases h; rfl
theorem yI(r:IRel K H kv ks):kv.length=ks.length:=by
 have:=congrArg Fi r.key
 simpa using this
theorem mM(w:Int):∀{kv:List (Ib×V)} {ks:List (Int×Ad)},IRel K H kv ks->(Vi kv (Qn w)=none/\Qk ks w=none)\/∃v d,Vi kv (Qn w)=some v/\Qk ks w=some d/\RdF K H v d []
 | [],[],_=>.inl ⟨rfl,rfl⟩
 | [],_::_,r=>by cases r.key
 | _::_,[],r=>by cases r.key
 | (k,v)::kv,(u,d)::ks,r=>by
  obtain ⟨a,e⟩:=Dd r.key
  have a:k=Qn u:=a
  obtain ⟨f,c⟩:=RdFs.cons_nil r.val rfl
  by_cases h:u=w
  ·subst h a
   refine .inr ⟨v,d,To rfl,by simp [Qk],f⟩
  ·have b:¬ k=Qn w:=λz=>h (cP (a.symm.trans z))
   rw[Tt b,show Qk ((u,d)::ks) w=Qk ks w by simp [Qk,h]]
   exact mM w ⟨e,c⟩
theorem L0(w:Int)(r:IRel K H kv ks):(kv.any λp=>decide (p.1=Qn w))=(ks.any λp=>decide (p.1=w)):=by
 have a:(kv.any λp=>decide (p.1=Qn w))=((kv.map (·.1)).any λk=>decide (k=Qn w)):=by rw[Pp]; rfl
 rw[a,r.key,Pp]
 congr 1
 funext p
 exact decide_eq_decide.mpr ⟨λz=>cP z,λz=>by show Qn p.1=Qn w; rw[z]⟩
theorem gR(w:Int)(c:RdF K H v d []):∀{kv:List (Ib×V)} {ks:List (Int×Ad)},IRel K H kv ks->IRel K H (kv.map λp=>if p.1=Qn w then (p.1,v) else p) (ks.map λp=>if p.1=w then (p.1,d) else p)
 | [],[],r=>r
 | [],_::_,r=>by cases r.key
 | _::_,[],r=>by cases r.key
 | (k,v')::kv,(u,d')::ks,r=>by
  obtain ⟨a,g⟩:=Dd r.key
  have a:k=Qn u:=a
  obtain ⟨i,f⟩:=RdFs.cons_nil r.val rfl
  have b:=gR w c (kv:=kv) (ks:=ks) ⟨g,f⟩
  rw[Ax,Ax]
  by_cases h:u=w
  ·rw[if_pos (show k=Qn w by rw[a,h]),if_pos h]
   exact ⟨by rw[Ax,Ax,b.key]; exact congrArg (·::_) a,RdFs.cons (F:=[]) (G:=[]) c b.val⟩
  ·have e:¬ k=Qn w:=λz=>h (cP (a.symm.trans z))
   rw[if_neg (show ¬ (k,v').1=Qn w from e),if_neg (show ¬ (u,d').1=w from h)]
   exact ⟨by rw[Ax,Ax,b.key]; exact congrArg (·::_) a,RdFs.cons (F:=[]) (G:=[]) i b.val⟩
theorem A0(w:Int)(a:RdF K H v d [])(r:IRel K H kv ks):IRel K H (Nz kv (Qn w) v) (mD ks w d):=by
 unfold Nz mD
 rw[L0 w r]
 split
 ·exact gR w a r
 ·refine ⟨by rw[Bg,Bg,r.key]; rfl,?_⟩
  rw[Bg,Bg]
  exact r.val.snoc a
end
def Y5:DE:=λa P=>P (.dat .ow (.dict (Zz []))) a
theorem At.newI9{K:PySem.W.Frag}{d H:Hp}{X:Addr->Prop}{n:Nat}{S T:List Ent}{p:Addr}(h:At K d X n (S++T) H)(c:H p=none):At K d X n (S++⟨some (.ref p),.dat .ow (.dict (Zz [])),[p]⟩::T) (upd H p (.dK [])):=by
 have i:=Gi c (.dK [])
 refine ((h.grow (n':=n) i (Ar _)).push (e:=⟨some (.ref p),.dat .ow (.dict (Zz [])),[p]⟩) ⟨_,rfl,.dik Dq rfl .nil,λ_=>Bw.mpr ⟨Bn,Dt⟩,λz=>nomatch z⟩ (λf j=>?_) λa b=>?_).tomid
 ·have g:=h.free c f j
  refine ⟨λ_ a b z=>?_,λ_ a b z=>?_⟩
  ·rw[Ak.mp b] at z
   exact g z
  ·rw[Ak.mp z] at b
   exact g (Et _ _ b)
 ·rw[Ak.mp b]
  exact .inl (h.new0 c)
theorem Q5:Ee X (.Dict [] [] pos) Y5:=by
 refine PE.imp yM λf H Q h=>?_
 obtain ⟨g,Y,S,T,c,P,rfl,b,e,a,k⟩:=h
 exact λp d=>k _ c _ _ S _ rfl b (e.newI9 d) a
theorem At.writeI9{K:PySem.W.Frag}{i H:Hp}{X:Addr->Prop}{n:Nat}{E:List Ent}{v:Option V}{ks ks':List (Int×Ad)}{a:Addr}{kv':List (Ib×V)}(h:At K i X n (⟨v,.dat .ow (.dict (Zz ks)),[a]⟩::E) H)(p:v=some (.ref a))(np:∀e∈E,Lf e.x=false)(r:IRel K H kv' ks'):At K i X n (⟨v,.dat .ow (.dict (Zz ks')),[a]⟩::E) (upd H a (.dK kv')):=by
 obtain ⟨w,L,rd,I,M⟩:=h.ok _ Aa
 obtain ⟨b,N,s,G,J,C,_,D⟩:=rd.dicI_inv
 have l:[a]=[b]:=D
 cases l
 have g:=Ba.mp h.sep
 have kp:∀{j:List Addr},a∉j->Kp j H (upd H a (.dK kv')):=λ{j} t b o q z=>by
  have : b≠a:=by
   rintro rfl
   rw[C] at q
   cases q
   rcases z with z | z
   ·exact t z
   ·rcases z with ⟨_,z⟩ | ⟨_,_,z⟩ <;> cases z
  rw[Cp this]
  exact q
 have m:i a=none:=by
  rcases h.new _ Aa a Aa with z | z
  ·exact z
  ·cases z.2
 refine ⟨λf hf=>?_,Ba.mpr ⟨λf hf=>⟨λB c d=>(g.1 f hf).1 (.inl (np f hf)) c d,λB c d=>(g.1 f hf).2 (.inl rfl) c d⟩,g.2⟩,λf hf=>?_,λb o A q=>?_,λb o q=>?_,λb y=>?_⟩
 ·rcases Ao.mp hf with rfl | hf
  ·exact ⟨.ref a,p,.dik Dq r.key (r.val.kp (kp Bn)),λ_=>Bw.mpr ⟨Bn,Dt⟩,λz=>nomatch z⟩
  ·exact (h.ok f (Ae _ hf)).kp (kp ((g.1 f hf).1 (.inl (np f hf)) a Aa)) (Ar _)
 ·rcases Ao.mp hf with rfl | hf
  ·exact λc d=>h.new _ Aa c d
  ·exact h.new f (Ae _ hf)
 ·rw[Cp (Dm q m)]
  exact h.same b o A q
 ·rw[Cp (Dm q m)]
  exact h.dom b o q
 ·obtain ⟨z,c,k,f,F,u⟩:=h.xd b y
  refine ⟨z,c,k,f,(Cp ?_).trans F,u⟩
  rintro rfl
  exact z m
theorem iN{K:PySem.W.Frag}{p H:Hp}{X:Addr->Prop}{S T:List Ent}{b:DS}{i:Nat}{ks ks':List (Int×Ad)}(f:Sl S b)(B:∀e∈T,Lf e.x=false)(q:At K p X b.n (S++T) H)(D:b.sl[i]? = some (.dat .ow (.dict (Zz ks))))(np:npk b.sl=true):∃a kv,(vs S)[i]? = some (some (.ref a))/\H a=some (.dK kv)/\IRel K H kv ks/\∀kv',IRel K H kv' ks'->∃m,vs m=vs S/\Sl m ⟨b.sl.set i (.dat .ow (.dict (Zz ks'))),b.n⟩/\At K p X b.n (m++T) (upd H a (.dK kv')):=by
 obtain ⟨d,c,w⟩:=Ge f D
 have C:d∈S:=Au c
 obtain ⟨u,x,F⟩:=d
 have g:x=.dat .ow (.dict (Zz ks)):=w
 subst g
 obtain ⟨v,o,rd,_⟩:=q.ok _ (Ap _ C)
 obtain ⟨a,kv,t,rfl,A,z,l,E⟩:=rd.dicI_inv
 obtain rfl:=Xj A
 have h:F=[a]:=E
 subst h
 refine ⟨a,kv,by rw[Jk c]; exact congrArg some o,z,l,λkv' r=>?_⟩
 have y:=Yq f np
 have G:=(q.perm ((Ia c).append_right T)).writeI9 (ks':=ks') (kv':=kv') o (λe he=>?_) r
 ·refine ⟨S.set i ⟨u,.dat .ow (.dict (Zz ks')),[a]⟩,?_,?_,G.perm ((Ln c).append_right T).symm⟩
  ·unfold vs
   rw[Ea]
   apply Eu
   intro j
   rw[Fj]
   split
   ·rename_i k
    subst k
    rw[Aq,c]
    split
    ·rfl
    ·rename_i s
     rw[Ac] at s
     exact absurd (Af.mp c).1 s
   ·rfl
  ·unfold Sl at f ⊢
   rw[Ea,f]
 ·rcases Bf.mp he with he | he
  ·exact y e ((Kd S i).subset he)
  ·exact B e he
def iputB(i:Nat)(y z:DV)(a:DS)(D:DEnds):Prop:=match a.sl[i]?,y,z with
 | some (.dat .ow (.dict X)),.dat _ e,.dat _ k=>npk a.sl=true/\imm e=true/\∃b w,X=Zz b/\k=.int w/\b.length<1000000/\D.nx ⟨a.sl.set i (.dat .ow (.dict (Zz (mD b w e)))),a.n⟩
 | _,_,_=>False
def isIct:Option DV->Bool
 | some (.dat _ (.dict X))=>vY X
 | _=>false
def Y4(i:Nat)(c e:DE):DB:=λD d=>e d λy a=>isIct a.sl[i]? = true/\c a λz b=>iputB i y z b D
section
variable{X:Cx}{o i e:Expr}{f j:DE}{c g pos b:Pos}{n:Nat}
theorem j9{K:PySem.W.Frag}{i H:Hp}{Y:Addr->Prop}{S T:List Ent}{c:DS}(h:Sl S c)(o:At K i Y c.n (S++T) H)(b:isIct c.sl[n]? = true):∃a kv,(vs S)[n]? = some (some (.ref a))/\H a=some (.dK kv):=by
 cases q:c.sl[n]? with
 | none=>rw[q] at b; cases b
 | some x =>
  rw[q] at b
  obtain ⟨d,f,j⟩:=Ge h q
  obtain ⟨u,y,F⟩:=d
  have e:y=x:=j
  subst e
  have l:(⟨u,y,F⟩ : Ent)∈S:=Au f
  match y,b with
  | .dat m (.dict X),b =>
   have p:vY X=true:=b
   obtain ⟨v,g,rd,_⟩:=o.ok _ (Ap _ l)
   obtain ⟨a,kv,r,rfl,_,k,_⟩:=rd.dicI_inv
   exact ⟨a,kv,by rw[Jk f]; exact congrArg some g,k⟩
theorem V4(N:X.A.units+64<cLine)(ho:PE X o (Tn n))(hi:Ee X i f)(he:Ee X e j)(hs:Hg e (some (.Subscript o i b)) pos.line X.env=pure false:=by rfl):iJ X (.Assign [.Subscript o i b] e pos) (Y4 n f j):=by
 refine PS.impD (tW (GV N) ho hi he hs) λD σ H h=>?_
 obtain ⟨x,Y,S,T,δ,P,rfl,K,hT,hA,hd,k1,k2,k3,k4⟩:=h
 refine ⟨x,Y,S,T,δ,_,rfl,K,hA,hd,λy q v F Q H1 I B l p=>?_⟩
 obtain ⟨p,p2⟩:=p
 obtain ⟨a,kv,m,ha⟩:=j9 B l.drop p
 rw[I] at m
 refine ⟨.ref a,m,x,Y,Q,⟨some v,y,F⟩::T,q,_,I,B,l,p2,λz Z w G S2 H2 C R c g=>?_⟩
 unfold iputB at g
 split at g
 ·rename_i X0 m1 d m2 k t
  obtain ⟨g,W,U,u,rfl,rfl,p5,O⟩:=g
  obtain rfl:=(c.told mem_mid).int_at
  have r:=c.told Ec
  obtain rfl:=r.imm W
  obtain ⟨a',s,J,g2,E,V⟩:=iN (ks':=mD U u d) R hT c.drop2 t g
  rw[C,m] at J
  cases J
  obtain ⟨M,h1,L,h3⟩:=V (Nz s (Qn u) v) (A0 u r E)
  refine ⟨a,_,rfl,U4.k g2 (by rw[yI E]; exact Bs p5 (dZ (n:=1000000) (Ar _))),?_⟩
  rw[<- C,<- h1]
  exact k1 ⟨_,_⟩ M _ L h3 O
 ·exact g.elim
end
def uN(x y z:DV)(b:DS)(P:DV->DS->Prop):Prop:=match x,y,z with
 | .dat _ (.dict X),.dat _ k,.dat _ e=>∃(a:List (Int×Ad)) (w:Int),X=Zz a/\k=.int w/\imm e=true/\P (.dat .ow ((Qk a w).getD e)) b
 | _,_,_=>False
def w5:DV->Bool
 | .dat _ (.dict X)=>vY X
 | _=>false
def yW(g e d:DE):DE:=λf P=>g f λx c=>w5 x=true/\e c λy b=>d b λz a=>uN x y z a P
section
variable{K:PySem.W.Frag}
theorem U9:∀l H Q,LE K (yW N O L) l H Q->x8 (LE K N) (LE K O) (LE K L) l H Q:=by
 intro l H Q h
 obtain ⟨n,Y,S,T,δ,P,rfl,R,hA,hd,k⟩:=h
 refine ⟨n,Y,S,T,δ,_,rfl,R,hA,hd,λx B v F S1 H1 e1 e2 i s=>?_⟩
 obtain ⟨o,s⟩:=s
 match x,o with
 | .dat m (.dict X),o =>
  have hX:vY X=true:=o
  obtain ⟨a,kv,V,rfl,rfl,ha,h4,_⟩:=(i.told mem_mid).dicI_inv
  refine ⟨a,rfl,.inl ⟨kv,.inl ha⟩,n,Y,S1,_::T,B,_,e1,e2,i,s,λy D v2 F2 W H2 e3 e4 t p2=>?_⟩
  refine ⟨n,Y,W,_::_::T,D,_,e3,e4,t,p2,λz d v3 F3 A J M I b j=>?_⟩
  unfold uN at j
  split at j
  ·rename_i u
   obtain ⟨ks,w,ek,rfl,im,p⟩:=j
   have m3:∀{e f g:Ent},g∈A++e::f::g::T:=λ{e f g}=>Aw _ (Ae _ (Ae _ Aa))
   obtain ⟨a',Z,h0,U,E,C,c,_⟩:=(b.told m3).dicI_inv
   cases U
   cases u
   obtain rfl:=Xj E
   obtain rfl:=Xj ek
   obtain rfl:=(b.told Ec).int_at
   have r:=b.told mem_mid
   obtain rfl:=r.imm im
   refine ⟨_,lX.k C,?_⟩
   rcases mM w c with ⟨G,q⟩ | ⟨v',d',G,q,h3⟩
   ·rw[G]
    rw[q] at p
    exact k _ d _ [] A J M I (b.drop2.drop.pushI r) p
   ·rw[G]
    rw[q] at p
    exact k _ d _ [] A J M I (b.drop2.drop.pushI h3) p
  ·exact j.elim
end
section
variable{X:Cx}{o e f:Expr}{c g d:DE}{p b a pos:Pos}
theorem sU(k:X.A.units+64<cLine)(h:Ee X o c)(i:Ee X e g)(j:Ee X f d)(m:M2 X o "get" b e f a):Ee X (.Call (.Attribute o "get" b) [e,f] [] a) (yW c g d):=PE.imp (J4 (GV k) h i j m) U9
end
end DL
namespace Nd
open PySem PySem.Spec PyProof.Rows L2
def JU(bt:Nat->Nat->Bool)(P:Nat->Value->Prop)(j:Nat)(its:Array Value):Prop:=(j=0/\its=#[])\/∃i v,j=i+1/\P (argBest bt i) v/\its=#[v,v]
section
variable{prog:Bp}{w:World}{A:Cn}{R:Result->Am->Prop}{I:Addr}{fp a:List Addr}{n:Nat}{P:Nat->Value->Prop}{St:Nat->Heap->Prop}
theorem xG(W:Walks prog w A.in1 I fp a n P St)(bt:Nat->Nat->Bool)(J:CmpOf prog w A.in1 .Gt P bt)(S:Addr)(r:S∉fp)(d:Value):∀(k j:Nat) (s:Am) (its:Array Value) (c:Nat),n - j=k->j<=n->St j s.heap->JU bt P j its->s.heap.get? S=some { cls:=.type "list",dict:=none,data:=.seq its c,slots:=#[] }->(∀v h' M,(n=0->v=d)->(0<n->P (argBest bt (n - 1)) v)->(∀b o,b∉a->b≠S->s.heap.get? b=some o->h'.get? b=some o)->R (.ok (.ret v)) { s with heap:=h',toks:=M })->Qz (model prog w) A (.builtin "max.loop" ⟨[.ref I,.none,.ref S],[("default",d)]⟩) R s:=by
 have D:S∉a:=λh=>r (W.sub _ h)
 have Q:(Lr "max" ++ Lr ".loop" : String) = "max.loop" := by decide
 intro k
 induction k with
 | zero =>
  intro j s its c V X t O C B
  have e:j=n:=by omega
  subst e
  refine Iv PySem.F.entry_max_loop ?_
  rw[Fo PySem.F.plain_max_loop _]
  refine Ab (m:=seqItems? (.ref S)) (Lo C rfl ?_)
  refine Ab (m:=Zo (Nh (.ref I)) _) (Jl (W.done s _ _ t λh' M kp=>?_))
  rcases O with ⟨z,rfl⟩ | ⟨i,v,z,pv,rfl⟩
  ·exact Ab (Pi (An (B d h' M (λ_=>rfl) (λq=>absurd q (by omega)) λb o f _ e=>kp b o f e)))
  ·refine Ab (m:=updateSeq S (λ_=>#[])) (Mx (kp S _ D C) rfl (Ab (Lp (An ?_))))
   exact B v _ M (λq=>by omega) (λ_=>by subst z; exact pv) λb o f u e=>(Fw _ _ (Li u)).trans (kp b o f e)
 | succ k N =>
  intro j s its c V X t O C B
  have T:j<n:=by omega
  refine Iv PySem.F.entry_max_loop ?_
  rw[Fo PySem.F.plain_max_loop _]
  refine Ab (m:=seqItems? (.ref S)) (Lo C rfl ?_)
  refine Ab (m:=Zo (Nh (.ref I)) _) (Jl (W.item j s _ _ T t λv h' M pv p kp=>?_))
  have l:=kp S _ D C
  rcases O with ⟨z,rfl⟩ | ⟨i,K,z,U,rfl⟩
  ·subst z
   refine Ab (m:=updateSeq S (λ_=>#[v,v])) (Mx l rfl ?_)
   rw[Q]
   refine An ⟨Gx PySem.F.plain_max_loop _,N 1 _ #[v,v] _ (by omega) (by omega) (W.frame _ _ _ p λb y o e=>?_) (.inr ⟨0,v,rfl,pv,rfl⟩) (Gf _ l rfl) λG u g H L E=>?_⟩
   ·exact (Fw _ _ (λh:S=b=>r (by rw[h]; exact y))).trans e
   ·exact B G u g H L λb o f x e=>E b o f x ((Fw _ _ (Li x)).trans (kp b o f e))
  ·subst z
   refine Ab (m:=Zo (My [v,v] (richCompare .Gt v K >>= _)) _) (Jl (Cc (Ab (J (i+1) (argBest bt i) v K _ _ _ pv U ?_))))
   refine Ab (Cc (Gd (Ab (Lp (An ?_)))))
   cases y:bt (i+1) (argBest bt i) with
   | true =>
    simp only[if_true]
    refine Ab ?_
    refine Mx l rfl (Ab (Lp ?_))
    rw[Q]
    refine An ⟨Gx PySem.F.plain_max_loop _,N (i+2) _ #[v,v] _ (by omega) (by omega) (W.frame _ _ _ p λb y o e=>?_) (.inr ⟨i+1,v,rfl,by simp only[argBest,y,if_true]; exact pv,rfl⟩) (Gf _ l rfl) λG u g H L E=>?_⟩
    ·exact (Fw _ _ (λh:S=b=>r (by rw[h]; exact y))).trans e
    ·exact B G u g H L λb o f x e=>E b o f x ((Fw _ _ (Li x)).trans (kp b o f e))
   | false =>
    simp only[Dh,if_false]
    refine Ab (Lp ?_)
    rw[Q]
    refine An ⟨Gx PySem.F.plain_max_loop _,N (i+2) _ #[K,K] c (by omega) (by omega) p (.inr ⟨i+1,K,rfl,by simp only[argBest,y,Dh,if_false]; exact U,rfl⟩) l λG u g H L E=>?_⟩
    exact B G u g H L λb o f x e=>E b o f x (kp b o f e)
end
theorem vM(a v:Value):argsOk "max" ⟨[a],[(Do "default",v)]⟩:=by unfold argsOk; kernel_rfl
section
variable{X:Cx}{c:List (Addr×Obj)}{f:List (Option V)}{H:Hp}{s:Am}
def K7(K:PySem.W.Frag):V->V->Hp->VK->Prop:=λx d H Q=>∃(a:Addr) (b:List Int),x=.ref a/\Kv K H a (b.map V.int)/\(b=[]->Q d H)/\∀M∈b,(∀x∈b,x<=M)->Q (.int M) H
theorem wA(R:X.calm=true)(I:Inv X c f H s)(U:RelV x u)(rd:RelV d i)(h:K7 X.K x d H Q):wpAny (model X.prog X.w) X.A (call (.builtin "max") [u] [(Do "default",i)]) (EP X c f Q) X.xe s:=by
 obtain ⟨p,ns,rfl,E,q0,q⟩:=h
 cases U
 obtain ⟨J,rv,Z,_⟩:=I.list E
 obtain ⟨g,rfl,rfl⟩:=Ry rv
 have O:s.heap.IsList p (Si g.toArray):=by simpa [Si] using Z.isList
 have M:(Lr "max" ++ Lr ".loop" : String) = "max.loop" := by decide
 refine kmb_tree PySem.F.kind_max PySem.F.plain_max PySem.F.entry_max (vM _ _) ?_
 refine Ab (m:=Iq "max" ["key", "default"] 0 ⟨[],[(Do "default",i)]⟩) (wpAny_of_eq (show Iq "max" ["key", "default"] 0 ⟨[],[(Do "default",i)]⟩=pure [none,some i] from rfl) ?_)
 refine Ab (An (Ab (iter_intList O λB e st l n=>?_)))
 subst e
 refine Ab (Ek ?_)
 rw[M]
 have W:=Xw (prog:=X.prog) (w:=X.w) (A:=X.A.in1) (I.ok.hd R) s.heap.objs.size p n (Si g.toArray)
 have nf:=λS=>Ey _ (l _ S)
 refine An ⟨Gx PySem.F.plain_max_loop _,xG W _ (CmpOf.ints_gt (numAt g.toArray) (λ_ _=>intItems_at)) _ nf i _ 0 _ #[] _ rfl (Dg _) (W.frame _ _ _ st λb _ o e=>Ai _ e) (.inl ⟨rfl,rfl⟩) (Be _ rfl) λv Y tk N T L=>?_⟩
 have kept:∀b o,s.heap.get? b=some o->Y.get? b=some o:=λb o e=>by
  have k:=Bb e
  refine L b o (λz=>?_) (λz=>?_) (Ai _ (Ai _ e))
  ·rw[Ak.mp z] at k
   exact Ey _ k
  ·rw[z,Heap.size_push] at k
   exact Ey _ (Nat.lt_of_succ_lt k)
 have sz:(Si g.toArray).size=g.length:=by simp [Si]
 cases g with
 | nil=>exact ⟨d,H,I.kept kept,by rw[N (by rw[sz]; rfl)]; exact rd,q0 rfl⟩
 | cons y g =>
  have r:=T (by rw[sz]; exact Nat.succ_pos _)
  rw[sz] at r
  obtain ⟨t,rfl⟩:=intItems_at r
  obtain ⟨h1,G⟩:=argBest_gt (numAt (y::g).toArray) ((y::g).length - 1)
  refine ⟨.int _,H,I.kept kept,⟨t,rfl⟩,q _ ?_ λx D=>?_⟩
  ·rw[numAt_eq]; exact getD_mem (by rw[Ac]; show _<(y::g).length; have:=Bu (a:=y) (as:=g); omega)
  ·obtain ⟨j,C,rfl⟩:=mem_getD D
   rw[Ac] at C
   have:=G j (by have P:j<(y::g).length:=C; omega)
   rw[numAt_eq (y::g).toArray j] at this
   exact this
end
end Nd
namespace DL
open PySem PySem.Spec PyProof.Rows L2 Nd
section
variable{X:Cx}{e:Expr}{t:TA}{b kp a pos:Pos}{k:Int}{j:Nat}
theorem Q1(n:X.calm=true)(v:Gl X "max")(r:X.mg "max" = none)(m:PA X [e] t)(f:Bl [e] X.env=[(false,eval e X.env)]:=by rfl):PE X (.Call (.Name "max" b) [e] [⟨some "default",.Constant (.int k) j a,kp⟩] pos) (GN (λxs H Q=>∃x,xs=[x]/\K7 X.K x (.int k) H Q) t):=by
 intro c s g H Q I h
 refine Ft (Ld I v r (u:=.builtin "max") (by decide +kernel) ?_)
 refine Hs (Il (m pos c s g H _ I h) λw y ⟨vs,z,p,o,l⟩=>?_) (by rw[f]; rfl) (by rw[f]; rfl)
 obtain ⟨x,rfl,q⟩:=l
 obtain ⟨u,rfl,i⟩:=vals1 o
 refine kws_cons (wpAny_Constant_int (kws_nil ?_))
 exact wA (d:=.int k) n (p.tok _) i ⟨_,rfl⟩ q
end
def jT(k:Int):DC:=λb P=>match b with
 | [.dat _ (.list ds)]=>∃a:List Int,ds=a.map Ah/\(a=[]->P (.dat .ow (.int k)))/\∀M∈a,(∀x∈a,x<=M)->P (.dat .ow (.int M))
 | _=>False
section
variable{K:PySem.W.Frag}{k:Int}
theorem W7:Pb K (λxs H Q=>∃x,xs=[x]/\K7 K x (.int k) H Q) (jT k):=by
 intro q X n S T s p H Q P f b c e
 unfold jT at c
 split at c
 ·rename_i g
  obtain ⟨v,F,rfl,b⟩:=Ii f b g
  obtain ⟨l,rfl,o,m⟩:=c
  obtain ⟨a,xs,G,rfl,j,h,rfl,r⟩:=(b.told mem_mid).list_inv
  obtain ⟨rfl,_⟩:=h.ints_inv
  exact ⟨_,rfl,a,l,rfl,Kv.of j,λz=>e _ _ [] H (b.drop.pushI (.int _)) (o z),λM i d=>e _ _ [] H (b.drop.pushI (.int _)) (m M i d)⟩
 ·exact c.elim
variable{X:Cx}{e:Expr}{b:DA}{d kp c pos:Pos}{j:Nat}
theorem T4(f:X.calm=true)(i:Gl X "max")(h:X.mg "max" = none)(g:kB X [e] b)(a:Bl [e] X.env=[(false,eval e X.env)]:=by rfl):Ee X (.Call (.Name "max" d) [e] [⟨some "default",.Constant (.int k) j c,kp⟩] pos) (FB (jT k) b):=PE.imp (Q1 f i h g a) (lO W7)
end
mutual
def pW:Ad->Bool
 | .list a=>pT a
 | .tuple a=>pT a
 | .dict _=>false
 | _=>true
def pT:List Ad->Bool
 | []=>true
 | x::xs=>pW x && pT xs
end
def gX:DV->Bool
 | .un=>true
 | .scr _=>true
 | .val _=>true
 | .tpl _=>true
 | .drw=>true
 | .dat .ow _=>true
 | .dat _ d=>pW d
 | _=>false
theorem tH(h:Xn a x=Xn b y):a=b/\x=y:=by
 obtain ⟨d,f⟩:=Dd h
 refine ⟨Int.ofNat.inj (PyData.int.inj (Prod.mk.inj d).2),?_⟩
 refine Rp (λx y e=>?_) f
 obtain ⟨c,g⟩:=Prod.mk.inj e
 exact Prod.ext (Th c) g
section
variable{K:PySem.W.Frag}{H:Hp}
theorem RdF.dicN_inv(h:RdF K H v (.dict (Xn b ks)) F):∃kv,v=.ref b/\H b=some (.dT kv)/\DRel K H kv ks/\F=[b]:=by
 generalize e:Xn b ks=X at h
 cases h with
 | dic h c a=>cases e
 | dik h c a=>cases e
 | dnm h c a =>
  obtain ⟨rfl,rfl⟩:=tH e
  exact ⟨_,rfl,h,⟨c,a⟩,rfl⟩
mutual
theorem RdF.lsts:∀{v:V} {d:Ad} {F:List Addr},RdF K H v d F->pW d=true->∀b∈F,∃xs,H b=some (.lst xs)
 | _,_,_,.non,_,b,z=>nomatch z
 | _,_,_,.bl _,_,b,z=>nomatch z
 | _,_,_,.int _,_,b,z=>nomatch z
 | _,_,_,.str _,_,b,z=>nomatch z
 | _,_,_,.lst h l hs,k,b,z=>by
  rcases Ao.mp z with rfl | z
  ·exact ⟨_,h⟩
  ·exact RdFs.lsts hs (by simpa [pW] using k) b z
 | _,_,_,.tup h l hs,k,b,z=>RdFs.lsts hs (by simpa [pW] using k) b z
 | _,_,_,.dic h e hs,k,b,z=>by simp [pW] at k
 | _,_,_,.dik h e hs,k,b,z=>by simp [pW] at k
 | _,_,_,.dnm h e hs,k,b,z=>by simp [pW] at k
theorem RdFs.lsts:∀{v:List V} {d:List Ad} {F:List Addr},RdFs K H v d F->pT d=true->∀b∈F,∃xs,H b=some (.lst xs)
 | _,_,_,.nil,_,b,z=>nomatch z
 | _,_,_,.cons h hs,k,b,z=>by
  simp only[pT,Cd] at k
  rcases Bf.mp z with z | z
  ·exact RdF.lsts h k.1 b z
  ·exact RdFs.lsts hs k.2 b z
end
theorem W0(h:At K i Y n (e::f::E) H)(c:e.F=[a])(k:Lf e.x=false)(j:H a=some (.dT kv))(b:gX f.x=true):a∉f.F:=by
 have ok:=h.ok f (Ae _ Aa)
 have g:=((Ba.mp h.sep).1 f Aa).2 (.inl k)
 obtain ⟨v,x,F⟩:=f
 intro z
 have z:a∈F:=z
 cases x with
 | un=>have ok:F=[]:=ok; rw[ok] at z; cases z
 | val _=>have ok:F=[]:=ok.2; rw[ok] at z; cases z
 | scr _=>obtain ⟨_,_,ok,_⟩:=ok; have ok:F=[]:=ok; rw[ok] at z; cases z
 | tpl _=>obtain ⟨_,_,_,ok⟩:=ok; have ok:F=[]:=ok; rw[ok] at z; cases z
 | drw=>exact g a z (by rw[c]; exact oX a)
 | dT _=>cases b
 | acc _=>cases b
 | grd _=>cases b
 | dat m d =>
  obtain ⟨u,_,rd,_⟩:=ok
  cases m with
  | ow=>exact g a z (by rw[c]; exact oX a)
  | _ =>
   obtain ⟨l,q⟩:=rd.lsts b a z
   rw[j] at q; cases q
theorem At.thaw(h:At K e Y n (⟨v,.dat .sh (.dict (Xn a ks)),F⟩::E) H)(h0:e a=none)(g:∀f∈E,a∉f.F):At K e Y n (⟨v,.dat .ow (.dict (Rg ks)),[a]⟩::E) H:=by
 obtain ⟨u,i,rd,_⟩:=h.ok _ Aa
 obtain ⟨l,rfl,j,d,m⟩:=rd.dicN_inv
 have k:=Ba.mp h.sep
 refine ⟨λf hf=>?_,Ba.mpr ⟨λf hf=>⟨λ_ b c z=>?_,λ_ b c z=>?_⟩,k.2⟩,λf hf b c=>?_,h.same,h.dom,h.xd⟩
 ·rcases Ao.mp hf with rfl | hf
  ·exact ⟨_,i,.dic j d.key d.val,λ_=>Bw.mpr ⟨Bn,Dt⟩,λz=>nomatch z⟩
  ·exact h.ok f (Ae _ hf)
 ·have c:b∈[a]:=c
  rw[Ak.mp c] at z
  exact g f hf z
 ·have z:b∈[a]:=z
  rw[Ak.mp z] at c
  exact g f hf (Et f _ c)
 ·rcases Ao.mp hf with rfl | hf
  ·have c:b∈[a]:=c
   rw[Ak.mp c]
   exact .inl h0
  ·exact h.new f (Ae _ hf) b c
theorem At.named(h:At K e Y n (⟨some (.ref a),.dat .ow (.dict (Rg ks)),[a]⟩::E) H):At K e Y n (⟨some (.ref a),.dat .sh (.dict (Xn a ks)),[a]⟩::E) H:=by
 obtain ⟨u,k,rd,_⟩:=h.ok _ Aa
 cases k
 obtain ⟨q,p,i,j,o,m,d,_⟩:=rd.dict_inv
 cases j
 obtain rfl:=Um o
 have g:=Ba.mp h.sep
 refine ⟨λf hf=>?_,Ba.mpr ⟨λf hf=>⟨λ_ b c=>(nomatch c),λl b c z=>(g.1 f hf).2 l b c z⟩,g.2⟩,λf hf b c=>?_,h.same,h.dom,h.xd⟩
 ·rcases Ao.mp hf with rfl | hf
  ·exact ⟨_,rfl,.dnm m d.key d.val,λz=>(nomatch z),λz=>(nomatch z)⟩
  ·exact h.ok f (Ae _ hf)
 ·rcases Ao.mp hf with rfl | hf
  ·cases c
  ·exact h.new f (Ae _ hf) b c
theorem At.dupS(h:At K d Y n (e::E) H)(c:cells e=[]):At K d Y n (e::e::E) H:=by
 have g:=Ba.mp h.sep
 refine ⟨λf hf=>h.ok f ?_,Ba.mpr ⟨λf hf=>?_,h.sep⟩,λf hf=>h.new f ?_,h.same,h.dom,h.xd⟩
 ·rcases Ao.mp hf with rfl | hf
  ·exact Aa
  ·exact hf
 ·rcases Ao.mp hf with rfl | hf
  ·exact ⟨λ_ b a=>(by rw[c] at a; cases a),λ_ b a=>(by rw[c] at a; cases a)⟩
  ·exact g.1 f hf
 ·rcases Ao.mp hf with rfl | hf
  ·exact Aa
  ·exact hf
theorem qU:IterOk K (LQ a ks.length) [⟨some (.ref a),.dat .sh (.dict (Xn a ks)),F⟩] .sh (ks.map λp=>Bj p.1) where
 md:=.inl rfl
 hd:=jV (m:=.sh)
 np:=tK (m:=.sh)
 go:=λH n i h j=>by
  obtain ⟨f,e,g,b,_⟩:=(Hj h Aa).dicN_inv
  rw[Ac] at j
  exact ⟨f,g,Ua b,j⟩
 yld:=λH n i x u h j y=>by
  obtain ⟨f,e,g,b,_⟩:=(Hj h Aa).dicN_inv
  obtain ⟨t,k,v,rfl,rfl,s,q,o⟩:=y
  obtain ⟨w,d,l,rfl⟩:=BN b (s f g)
  exact ⟨Tf.refl _,Bj w,[],by rw[Aq,l]; rfl,X7 q o,λc r=>nomatch r⟩
 stop:=λH n h=>by
  obtain ⟨f,e,g,b,_⟩:=(Hj h Aa).dicN_inv
  rw[Ac]
  exact ⟨f,g,Ua b,rfl⟩
end
def Y9(i:Nat)(g:DG)(h:DB):DB:=λD e=>∃c,e.sl[i]? = some (.dat .ow (.dict (Rg c)))/\c.length<=1000000/\∀a:Addr,∃I:Nat->DS->Prop,I 0 ⟨e.sl.set i (.dat .sh (.dict (Xn a c))),e.n⟩ /\
 (∀j d b,(c.map λp=>Bj p.1)[j]? = some d->I j b->g (.dat .sh d) b λf=>h { D with nx:=I (j+1),ct:=I (j+1),bk:=λ_=>False } f) /\
 ∀b,I c.length b->b.sl[i]? = some (.dat .sh (.dict (Xn a c)))/\(b.sl.set i .un).all gX=true/\D.nx ⟨b.sl.set i (.dat .ow (.dict (Rg c))),b.n⟩
section
variable{X:Cx}{l b:Expr}{g:DG}{k:DB}{c:List Stmt}{pos:Pos}{n:Nat}
theorem T2(hp:PassesOwn (model X.prog X.w) X.A X.env X.xe)(hc:X.calm=true)(ho:PE X b (Tn n))(hg:EK X l g)(hb:Zb X c k)(hs:∀x,Cz b X.env x=pure x:=by intro _; rfl):iJ X (.For l b c [] pos) (Y9 n g k):=by
 refine PS.impD (qY hp hc (P5 ho) hg hb hs) λD σ H h=>?_
 obtain ⟨G,Y,S,T,s,P,rfl,hS,hT,hA,hd,k1,k2,k3,k4⟩:=h
 obtain ⟨ks,h6,hl,hd⟩:=hd
 obtain ⟨t,R,e3⟩:=Ge hS h6
 have hm:t∈S:=Au R
 obtain ⟨u,x,F⟩:=t
 have q0:x=.dat .ow (.dict (Rg ks)):=e3
 subst q0
 obtain ⟨v,hv,rd,_⟩:=hA.ok _ (Ap _ hm)
 obtain ⟨a,kv,q3,rfl,ek,ha,k8,eF⟩:=rd.dict_inv
 obtain rfl:=Um ek
 have M:F=[a]:=eF
 have N:u=some (.ref a):=hv
 subst M N
 have q1:=Ia R
 have q2:=Ln (y:=(⟨some (.ref a),.dat .sh (.dict (Xn a ks)),[a]⟩ : Ent)) R
 have hB:=hA.perm (q1.append_right T)
 have fresh:G a=none:=by
  rcases hB.new _ Aa a Aa with z | z
  ·exact z
  ·cases z.2
 have h4:∀f∈T,a∉f.F:=λf hf=>((Ba.mp hB.sep).1 f (Aw _ hf)).1 (.inl (hT f hf)) a Aa
 have hN:=hB.named
 have q5:At X.K G Y s.n (S.set n ⟨some (.ref a),.dat .sh (.dict (Xn a ks)),[a]⟩++T) H:=hN.perm (q2.append_right T).symm
 refine ⟨.ref a,?_,a,kv,rfl,ha,?_⟩
 ·rw[Jk R]
 rw[Ua k8]
 obtain ⟨I,h0,h5,hf⟩:=hd a
 have eV:∀{S':List Ent} {x y:DV} {F' F2:List Addr} {w:Option V},S'[n]? = some ⟨w,x,F'⟩->vs (S'.set n ⟨w,y,F2⟩)=vs S':=λ{S' x y F' F2 w} q=>by
  unfold vs
  rw[Ea]
  exact Vm (by rw[Aq,q]; rfl)
 have eS:Sl (S.set n ⟨some (.ref a),.dat .sh (.dict (Xn a ks)),[a]⟩) ⟨s.sl.set n (.dat .sh (.dict (Xn a ks))),s.n⟩:=by
  unfold Sl at hS ⊢
  rw[Ea,hS]
 have h9:At X.K G Y s.n (S.set n ⟨some (.ref a),.dat .sh (.dict (Xn a ks)),[a]⟩++([⟨some (.ref a),.dat .sh (.dict (Xn a ks)),[a]⟩]++T)) H :=
  (hN.dupS rfl).perm ((List.Perm.cons _ (q2.append_right T).symm).trans List.perm_middle.symm)
 have it:=qU (K:=X.K) (a:=a) (ks:=ks) (F:=[a])
 have k5:∀e∈[(⟨some (.ref a),.dat .sh (.dict (Xn a ks)),[a]⟩ : Ent)]++T,Lf e.x=false:=λe he=>by
  rcases Bf.mp he with he | he
  ·exact it.np rfl e he
  ·exact hT e he
 refine ⟨λi q σ H=>q=ks.length - i/\i<=ks.length/\∃S s,vs S=σ/\Sl S s/\At X.K G Y s.n (S++([⟨some (.ref a),.dat .sh (.dict (Xn a ks)),[a]⟩]++T)) H/\I i s,⟨ks.length,by simp,Dg _,_,_,eV R,eS,h9,h0⟩,?_⟩
 (intro i q σ H q_; obtain ⟨rfl,hi,Q,m,rfl,U,L,hI⟩ := q_)
 have o:∀e∈[(⟨some (.ref a),.dat .sh (.dict (Xn a ks)),[a]⟩ : Ent)],Ho X.K H m.n e:=λe he=>L.ok e (Aw _ (Ap _ he))
 by_cases C:i<ks.length
 ·refine .inr ⟨it.go H m.n i o (by rw[Ac]; exact C),λZ H'=>∃S s,vs S=Z/\Sl S s/\At X.K G Y s.n (S++([⟨some (.ref a),.dat .sh (.dict (Xn a ks)),[a]⟩]++T)) H'/\I (i+1) s,λZ H' q=>⟨ks.length - (i+1),by omega,rfl,C,q⟩,λx H' y=>?_⟩
  obtain ⟨s1,d,F,h1,h2,h3⟩:=it.yld H m.n i x H' o (by rw[Ac]; exact C) y
  refine ⟨G,Y,Q,_,m,.dat .sh d,F,_,rfl,U,L.item s1 h2 h3 it.md it.hd it.np,h5 i d m h1 hI,λk6 S3 H3 W J p3=>?_⟩
  refine ⟨G,Y,S3,_,k6,_,rfl,W,k5,J,p3,λp O H4 B r E=>⟨O,p,rfl,B,r,E⟩,λx p v F O H4 B r E=>k2 x p v F O H4 B r.dropH E,
   λp O H4 B r E=>E.elim,λp O H4 B r E=>⟨O,p,rfl,B,r,E⟩⟩
 ·have e:i=ks.length:=by omega
  subst e
  refine .inl ⟨by have:=it.stop H m.n o; rwa [Ac] at this,?_⟩
  obtain ⟨g1,g2,g3⟩:=hf m hI
  have J:=L.dropL
  obtain ⟨t,W,B⟩:=Ge U g1
  obtain ⟨u,x,F⟩:=t
  have h8:x=.dat .sh (.dict (Xn a ks)):=B
  subst h8
  have r1:=Ia W
  have hC:=J.perm (r1.append_right T)
  obtain ⟨v,hv,k7,_⟩:=hC.ok _ Aa
  obtain ⟨q4,rfl,k0,_,eF⟩:=k7.dicN_inv
  have M:F=[a]:=eF
  have N:u=some (.ref a):=hv
  subst M N
  have hE:∀f∈Q.eraseIdx n++T,a∉f.F:=λf hf=>by
   rcases Bf.mp hf with hf | hf
   ·obtain ⟨j,hj,ej⟩:=List.mem_eraseIdx_iff_getElem?.mp hf
    have k9:gX f.x=true:=Fb.mp g2 f.x (Au (i:=j) (by
     have h7:Q.map (·.x)=m.sl:=U
     rw[On hj.symm,<- h7,Aq,ej]; rfl))
    obtain ⟨l1,l2,el⟩:=List.append_of_mem hf
    have hD:=hC.sub (E':=⟨some (.ref a),.dat .sh (.dict (Xn a ks)),[a]⟩::f::[]) (by
     refine List.Sublist.cons₂ _ ?_
     show [f].Sublist (Q.eraseIdx n++T)
     exact List.singleton_sublist.mpr (Ap _ hf))
    exact W0 hD rfl rfl k0 k9
   ·exact h4 f hf
  have hF:=hC.thaw fresh hE
  have r2:=Ln (y:=(⟨some (.ref a),.dat .ow (.dict (Rg ks)),[a]⟩ : Ent)) W
  have:=k1 ⟨m.sl.set n (.dat .ow (.dict (Rg ks))),m.n⟩ (Q.set n ⟨some (.ref a),.dat .ow (.dict (Rg ks)),[a]⟩) H (by
   unfold Sl at U ⊢
   rw[Ea,U]) (hF.perm (r2.append_right T).symm) g3
  rw[eV W] at this
  exact this
end
def aR:D2:=λx y P=>match x,y with
 | .dat _ (.dict X),.dat _ k=>∃a b w d,X=Xn a b/\k=Bj w/\Zt b w=some d/\P (.dat .ow d)
 | _,_=>False
theorem C6{K:PySem.W.Frag}:kQ K AN aR:=by
 intro r X n S T x y v w F G H Q P g c k
 unfold aR at c
 split at c
 ·obtain ⟨a,s,u,d,rfl,rfl,e,p⟩:=c
  obtain ⟨b,rfl,h⟩:=Xp (g.told mem_mid)
  obtain ⟨q,rfl,j,f,_⟩:=(g.told Ec).dicN_inv
  rcases cR u f with ⟨_,z⟩ | ⟨i,A,l,m,o⟩
  ·rw[z] at e; cases e
  ·rw[m] at e; cases e
   exact ⟨a,i,rfl,l▸lX.t j h,k _ _ [] H (g.drop2.pushI o) p⟩
 ·exact c.elim
theorem w4(e:X.A.units+64<cLine)(g:Ee X a d)(hb:Ee X b c)(f:W8 b:=by intro _ _; rfl):Ee X (.Subscript a b pos) (Wj aR d c):=PE.imp (uY (GV e) g hb f) (op_le C6)
end DL
namespace Nd
open PySem PySem.Spec PySem.Calls PyProof.Rows PyProof.V L2 Ts
theorem fK(l:List Value):TriplesOk l->Sb pos (l++[Jm a,Jm b,c])=some v->Sb pos l=some v\/v=c:=by
 fun_induction TriplesOk l with
 | case1 =>
  intro _ e
  simp only[Va,Sb,Jm] at e
  split at e
  ·exact .inr (Bo e).symm
  ·simp [Sb] at e
 | case2 i t g u x Ms f =>
  intro h e
  simp only[Ez,Sb] at e ⊢
  split at e
  ·rename_i d; rw[if_pos d]; exact .inl e
  ·rename_i d; rw[if_neg d]; exact f h e
 | case3 l j k=>intro h; exact h.elim
section
variable{X:Cx}{a:List (Addr×Obj)}{g:List (Option V)}{H:Hp}{s:Am}
theorem u5(I:Inv X a g H s)(hx:x∈Qq)(ht:PySem.W.tabIn X.K x=some (c,P))(D:X.env.code=.ref c)(hq:X.env.qual ++ "<lambda>" = dF x)(h8:defaultsOf j X.env=([],[]))(S:Ni k X.env=pure E)(h:∀(f l:Addr) (pm p:Value) (H1:Hp) (s1:Am),Inv X a g H1 s1->Tf H H1->s1.heap.get? f=some (PySem.W.kla_obj "<lambda>" (dF x) j F k E pm l p)->s1.heap.CodeRec (.ref l) (dF x)->Q (.ref f) s1):wpAny (model X.prog X.w) X.A (eval (.Lambda j F k pos) X.env) Q X.xe s:=by
 obtain ⟨C0,B0,ps,t0,hP,h7⟩:=(I.ok.tab.un I.base) x hx c P ht
 obtain ⟨qs,gP,J,N⟩:=(show Hz X.prog X.w H s.heap P (.tbl ps) from I.hok P _ hP)
 have C:=C0.keeps I.bk
 have B:s.heap.BuiltinsAt X.mg P:=by
  obtain ⟨bm,o,b1,b2,b3,b4,b5,r⟩:=B0
  exact ⟨bm,o,b1,b2,b3,b4,I.bk _ _ b5,r⟩
 have G:s.heap.Ns Ck X.mg:=I.mod.glob.keeps I.bk
 refine PySem.W.kla_eval h8 ?_
 rw[hq]
 cases hf:Sb pos qs.toList with
 | some cv =>
  obtain ⟨Z,oc,us,q,t,t1,rfl,h2,h3,h4,h5,h6⟩:=N pos cv hf
  rw[h7] at h6
  cases h6
  refine PySem.W.kla_makeFunctionHit (mg:=X.mg) S I.ok.glob G D C gP J hf B λp T tk hk k6=>?_
  exact h _ Z _ p H _ (I.kept (t':=tk) λb u e=>Ai _ (hk b u e)) (λ_ _ e=>e) (Be _ rfl) ⟨Z,oc,us,t,rfl,Ai _ (hk _ _ h3),h4,h5⟩
 | none =>
  have h9:Ck≠P:=λz=>by
   obtain ⟨o,es,ep,e,d,_⟩:=G
   rw[z,gP] at e; cases e; cases d
  refine PySem.W.kla_makeFunction (mg:=X.mg) S I.ok.glob G D C gP J hf h9 B λl p T tk k0 R k7 h0 k3=>?_
  have M:H l=none:=I.hok.fresh R
  have L:∀b,H b=none->b≠P:=λb n z=>by rw[z,hP] at n; cases n
  obtain ⟨c2,oc,us,t,e2,g3,g4,g5⟩:=id h0
  cases e2
  have k8:l≠P:=L l M
  generalize k4:(PySem.W.kla_obj "<lambda>" (dF x) j F k E ((X.mg "__name__").getD .none) l p)=fo
  have i:∀b o,b≠P->s.heap.get? b=some o->(T.push fo).get? b=some o:=λb o n e=>Ai _ (k0 b o n e)
  have O:(T.push fo).get? P=some { cls:=.none,data:=.fields (qs++#[Jm pos.line,Jm pos.col,.ref l]) }:=Ai _ k3
  have k2:Wq X.prog X.w (upd H l (.own P)) (T.push fo):=λb u e=>by
   by_cases U:b=l
   ·subst U
    rw[Dq] at e
    cases e
    exact ⟨oc,Ai _ g3⟩
   ·rw[Cp U] at e
    by_cases h1:b=P
    ·subst h1
     rw[hP] at e
     cases e
     refine ⟨_,O,by rw[Array.toList_append]; exact TriplesOk_snoc _ _ _ _ J,λY v y=>?_⟩
     rw[Array.toList_append] at y
     rcases fK qs.toList J y with y | rfl
     ·obtain ⟨Z,k1,k5,q1,t1,t2,r1,V,r3,r4⟩:=N Y v y
      have n1:Z≠l:=λz=>by rw[z,M] at V; cases V
      exact ⟨Z,k1,k5,q1,t1,t2,r1,by rw[Cp n1]; exact V,i _ _ (λz=>by rw[z,hP] at V; cases V) r3,r4⟩
     ·exact ⟨l,oc,us,_,t,t0,rfl,Dq,Ai _ g3,g4,g5,h7⟩
    ·refine (I.hok b u e).stay (λd v hc q=>i d v ?_ q) (λd q=>by rw[Cp (Dm q M)]; exact q) λd xs q=>by rw[Cp (Dm q M)]; exact q
     rcases hc with rfl | hc
     ·exact h1
     ·intro z; rw[z,hP] at hc; cases hc
  have I1:Inv X a g (upd H l (.own P)) { s with heap:=T.push fo,toks:=tk }:=by
   refine I.step (g':=s.gens) (d':=s.drawn) (t':=tk) (ch:=[]) (λ_ z=>nomatch z) (λb o _ _ _ e n=>i b o (L b n) e) (λb o _ _ _ e n=>⟨o.slots,i b o (L b n) e⟩) (λb o _ e n=>?_) (λb o _ e=>?_)
    (λb xs e=>by rw[Cp (Dm e M)]; exact e) (λb o u e=>by rw[Cp (Dm e M)]; exact e) (λb xs e=>⟨#[],by rw[Cp (Dm e M),e]; simp⟩) (λm hm=>?_) k2 I.bare
   ·rw[Cp (By (Bs (Bb e) R))]
    exact n
   ·by_cases U:b=P
    ·subst U; exact ⟨_,O⟩
    ·exact ⟨o,i b o U e⟩
   ·obtain ⟨o,es,ep,e,r⟩:=hm
    exact ⟨o,es,ep,i _ o (L _ I.free) e,r⟩
  refine h _ l ((X.mg "__name__").getD .none) p _ _ I1 (λb o e=>by rw[Cp (Dm e M)]; exact e) ?_ ⟨l,oc,us,t,rfl,Ai _ g3,g4,g5⟩
  rw[<- k4]
  exact Be _ rfl
end
section
variable{prog:Bp}{w:World}{A:Cn}{E:Value->Am->Prop}{s:Am}
theorem bE{R:List Value->Am->Prop}{r:Addr}{a b c:Int}{t u v:Tok}{n:Nat}(L:A.handled=none)(O:IsRange s.heap r a b c t u v)(k:Builtin.Range.small a b c=true)(N:aE a b c=n)(C:n<=2 ^ 24)(h:∀(h':Heap) (m:Nat) (z:Array Value),(∀b o,s.heap.get? b=some o->h'.get? b=some o)->ItemsOf (λi v=>∃t,v=.int (a+i * c) t) z n->s.heap.objs.size<=h'.objs.size->R z.toList { s with heap:=h',toks:=m }):wpAny (model prog w) A (collect (.ref r)) R E s:=by
 unfold collect
 refine Ab (wpAny_runValue (Iv PyProof.Rows.entry_proto_collect' ?_))
 rw[Fo PySem.F.plain_proto_collect _]
 show wpAny _ A.in1 (newList [] >>= λl=>again (.builtin "list.__iadd__" ⟨[l,.ref r],[]⟩)) _ _ s
 refine Ab (Ek ?_)
 refine An ⟨Gx PySem.F.plain_list_iadd _,Iv PyProof.Rows.entry_list_iadd' ?_⟩
 rw[Fo PySem.F.plain_list_iadd _]
 have p:(s.heap.push { cls:=.type "list",data:=.seq ([]:List Value).toArray }).get? s.heap.objs.size=some { cls:=.type "list",data:=.seq #[] }:=Be _ rfl
 show wpAny _ A.in1 (Builtin.List.listExtendWith (.ref s.heap.objs.size) (.ref r) (.ref s.heap.objs.size)) _ _ _
 have I:=wpAny_extend_range (prog:=prog) (w:=w) (A:=A) (s:={ s with heap:=s.heap.push { cls:=.type "list",data:=.seq ([]:List Value).toArray } })
  (R:=λ(q:Result) (G:Am)=>∃(h':Heap) (m:Nat) (d:Array Value) (D:Nat),q=.ok (.ret (.ref s.heap.objs.size))/\G={ s with heap:=h',toks:=m } /\
   (∀b o,s.heap.get? b=some o->h'.get? b=some o)/\h'.get? s.heap.objs.size=some { cls:=.type "list",dict:=none,data:=.seq d D,slots:=#[] }/\ItemsOf (λi v=>∃t,v=.int (a+i * c) t) d n)
  L (Ai _ O) k N C s.heap.objs.size (.ref s.heap.objs.size) 0 p
  (λh' m d D B j g=>⟨h',m,d,D,rfl,rfl,λb o e=>B b o (By (Bb e)) (Ai _ e),j,g⟩)
 refine Eo I (λH G x=>?_) λe G x=>?_
 ·cases H with
  | done f =>
   obtain ⟨h',m,d,D,e,rfl,B,j,g⟩:=x
   cases e
   show wpAny _ A (load s.heap.objs.size >>= _) _ _ _
   refine Ab (eB j ?_)
   exact An (h h' m d B g (La (Bb j)))
  | again J =>
   refine ⟨x.1,gV x.2 λq K y=>?_⟩
   obtain ⟨h',m,d,D,rfl,rfl,B,j,g⟩:=y
   show wpAny _ A (load s.heap.objs.size >>= _) _ _ _
   refine Ab (eB j ?_)
   exact An (h h' m d B g (La (Bb j)))
 ·obtain ⟨_,_,_,_,M,_⟩:=x
  cases M
theorem zJ(j:A.depth<Oc)(I:s.heap.get? f=some (PySem.W.kla_obj "<lambda>" q g h a d D n m))(C:s.heap.CodeRec (.ref n) q)(B:s.heap.NoLimit)(k:bindArgs (PySem.W.kla_fn "<lambda>" q g h a d D (.ref n) m) ⟨[v],[]⟩=pure [(x,v)])(F:a.names.lookup x=some .local)(t:a.isCoroutine=false)(r:a.isGenerator=false)(H:a.kind=.function)(i:∀y∈a.names,y.2≠.cell)(hb:∀L c,c.Ns L (λy=>[(x,v)].reverse.lookup y)->Fg s.heap c->wpAny (model prog w) (A.deeper (PySem.W.envX q a L f (.ref n) d)) (eval h (PySem.W.envX q a L f (.ref n) d)) R (λ_ _=>False) { s with heap:=c,toks:=s.toks+1 }):wpAny (model prog w) A (call (.ref f) [v]) R E s:=by
 refine wpAny_call (PySem.W.kla_callFunE j I rfl t r rfl C ?_)
 rw[k]
 refine An (wpAny_newFunctionEnv i (λy G=>?_) (λc u p=>⟨B.fresh _ p,?_⟩) H)
 ·rw[Ak.mp G]; exact F
 have l:Fg s.heap c:=λb o e=>p.extBut b o (By (Bb e)) (Ai _ e)
 exact PySem.W.kla_codeExpr (Eo (hb _ c u l) (λv J z=>z) λ_ _ z=>z.elim)
theorem dQ{env:Env}{j x k q F n:Pos}{m mg f:Str->Option Value}{c l r:Addr}{its us:List Value}{i:Int}{t:Tok}{R:Value->Am->Prop}(a:env.scope.kind=.function)(o:env.kindOf "number" = some .local)(hw:env.kindOf "words" = some .free)(hl:env.kindOf "len" = some .globalImplicit)(B:s.heap.Ns env.locals m)(g:m "number" = some (.int i t))(y:env.cells.lookup ("words" : Str)=some c)(e:s.heap.IsCell c (some (.ref l)))(u:s.heap.Ns env.globals mg)(b:mg "len" = none)(hb:s.heap.Ns env.builtins f)(d:f "len" = some (.builtin "len"))(p:s.heap.IsList l its.toArray)(h0:0<=i)(C:i<2 ^ 63)(v:its.toArray[i.toNat]? = some (.ref r))(z:IsTup s.heap r us.toArray)(hz:us.length<2 ^ 62)(h:∀t' D,R (.int (-(us.length:Int)) t') { s with toks:=D }):wpAny (model prog w) A (eval (.UnaryOp .USub (.Call (.Name "len" j) [.Subscript (.Name "words" x) (.Name "number" k) q] [] F) n) env) R E s:=by
 refine UnaryOp_ (Ft (Qe a hl (kY u b hb d ?_)))
 refine Wh ?_ rfl rfl
 refine Hq (Sk (Sh (aU a hw y e (Sh (Zn a o B g ?_) (by decide))) (by decide)))
 refine item_listR p h0 C v (Mq ?_)
 refine len_tuple z (by rw[Av]; omega) (neg_int ?_)
 rw[Av]
 exact h _ _
theorem Rj{f u:Value}{kz:List Int}{Pv:List Value->Prop}{r:List (Str×Value)}{Q:Value->Am->Prop}(y:∀R:List Value->Am->Prop,(∀h' g vs,Fg s.heap h'->s.heap.objs.size<=h'.objs.size->Pv vs->R vs { s with heap:=h',toks:=g })->wpAny (model prog w) A.in1 (collect u) R E s)(p:∀vs,Pv vs->kz.length=vs.length)(hz:kz.length<64)(H:argsOk "sorted" ⟨[u],r⟩)(C:∀x,argsOk "list.sort" ⟨[.ref x],r⟩)(U:∀x,Builtin.«list.sort» ⟨[.ref x],r⟩=ksk_tree x f false)(turn:∀vs,Pv vs->∀(i:Nat) (v:Value) (k:Int),vs[i]? = some v->kz[i]? = some k->∀(h:Heap) (g:Nat),Fg s.heap h->∀R:Value->Am->Prop,(∀t B G,Fg h B->R (.int k t) { s with heap:=B,toks:=G })->wpAny (model prog w) A.in1.in1 (call f [v]) R (λ_ _=>False) { s with heap:=h,toks:=g })(h:∀D h' g out c vs,Pv vs->Fg s.heap h'->s.heap.objs.size<=D->h'.get? D=some (Cv "list" out c)->KskOut false kz vs out.toList->Q (.ref D) { s with heap:=h',toks:=g }):wpAny (model prog w) A (call (.builtin "sorted") [u] r) Q E s:=by
 have X:Az=16777216:=Fc
 refine N6 kind_sorted plain_sorted entry_sorted H ?_
 unfold Xy
 refine Ab (m:=checkCount "sorted" 1 1 _) (An (Ab (y _ λh0 q vs I j l=>?_)))
 have F:=p vs l
 refine Ab (Mo ?_ (by omega))
 have n:(h0.push (Cv "list" vs.toArray 0)).get? h0.objs.size=some (Cv "list" vs.toArray 0):=Be _ rfl
 have kept:Fg s.heap (h0.push (Cv "list" vs.toArray 0)):=λb o e=>Ai _ (I b o e)
 show wpAny _ _ _ _ _ { s with heap:=h0.push (Cv "list" vs.toArray 0),toks:=q }
 generalize Y:h0.push (Cv "list" vs.toArray 0)=H1 at n kept
 have d:∀b,s.heap.objs.size<=b->s.heap.get? b=none:=λb P=>Ku P
 refine Ab (Cc (wpAny_call_entry_kw slot_list_sort ⟨_,n,rfl⟩ entry_list_sort ?_ (C _)))
 show wpAny (model prog w) A.in1.in1 (Builtin.«list.sort» ⟨[.ref h0.objs.size],r⟩) _ _ _
 rw[U]
 unfold ksk_tree
 have lt:h0.objs.size<H1.objs.size:=Bb n
 obtain ⟨J,g2⟩ : ∃J,(H1.update h0.objs.size (Cg λ_=>(#[]:Array Value))).get? h0.objs.size=some (Cv "list" #[] J):=⟨_,Iu n λ_=>#[]⟩
 have M:Fg s.heap (H1.update h0.objs.size (Cg λ_=>(#[]:Array Value))):=Nl kept (d _ j)
 refine Ab (Wm n rfl (Ab (Kq n rfl ?_ (by rw[Av]; omega) (Dg _))))
 refine Ab (Ud g2 rfl (Ab (Zm (Ab (Mo (Cc ?_) (Dg _))) (by show vs.length<=_; omega))))
 have K:((H1.update h0.objs.size (Cg λ_=>(#[]:Array Value))).push (Cv "tuple" vs.toArray 0)).objs.size=H1.objs.size+1:=by rw[Pj,Hm]
 refine BE (s:={ s with heap:=((H1.update h0.objs.size (Cg λ_=>(#[]:Array Value))).push (Cv "tuple" vs.toArray 0)).push (Cv "list" #[] 0),toks:=q }) (h0:=s.heap) (a:=h0.objs.size)
  (kS:=((H1.update h0.objs.size (Cg λ_=>(#[]:Array Value))).push (Cv "tuple" vs.toArray 0)).objs.size)
  ⟨λb o e=>Ai _ (Ai _ (M b o e)),d _ j,d _ (by rw[K]; omega),λz=>(by have:=K.symm.trans z; omega),Ai _ (Ai _ g2),0,Be _ rfl⟩ F (by omega)
  (λi v k W B L g S R V=>turn vs l i v k W B L g S R V) ?_
 intro h' g out c O N T
 exact ⟨_,rfl,An ⟨_,rfl,h _ h' g out c vs l O j N T⟩⟩
end
theorem lZ{f o:Type}{g:f->o}{q ps:List o}(h:q.Perm ps):∀c:List f,q=c.map g->∃l:List f,l.Perm c/\ps=l.map g:=by
 induction h with
 | nil =>
  intro c e
  cases c with
  | nil=>exact ⟨[],.refl _,rfl⟩
  | cons a l=>cases e
 | cons x p t =>
  intro c e
  cases c with
  | nil=>cases e
  | cons a l =>
   rw[Ax] at e
   obtain ⟨i,d⟩:=Dd e
   obtain ⟨s,k,m⟩:=t l d
   exact ⟨a::s,k.cons a,by rw[Ax,i,m]⟩
 | swap x y p =>
  intro c e
  match c,e with
  | a::b::l,e =>
   rw[Ax,Ax] at e
   obtain ⟨i,d⟩:=Dd e
   obtain ⟨d,u⟩:=Dd d
   exact ⟨b::a::l,.swap a b l,by rw[Ax,Ax,i,d,u]⟩
 | trans B A j n =>
  intro c e
  obtain ⟨v,k,m⟩:=j c e
  obtain ⟨r,z,w⟩:=n v m
  exact ⟨r,z.trans k,w⟩
def EG(K:PySem.W.Frag)(xs:List V)(w:V)(H:Hp)(Q:VK):Prop:=∃(r:Addr) (n:Nat) (p:Addr) (c:List Addr) (b:Nat->Nat),xs=[.ref r]/\H r=some (A3 r n)/\n<=63/\w=.ref p/\Kv K H p (c.map V.ref)/\c.length=n /\
 (∀(i:Nat) a,c[i]? = some a->∃e,Ve K H a e/\e.length=b i) /\
 ∀(a:Addr) (l:List Nat) (d:Hp),Tf H d->d a=none->l.Perm (Bq n)->l.Pairwise (λi j=>b j<=b i)->Q (.ref a) (upd d a (.lst (l.map λi:Nat=>V.int i)))
def EB(K:PySem.W.Frag)(j:Nat)(t:TA):TE:=λa H Q=>t a H λb c=>∃w,a[j]? = some (some w)/\EG K b w c Q
theorem kM{K:PySem.W.Frag}{H a:Hp}{p:Addr}{xs:List V}(h:Kv K H p xs)(s:Tf H a):Kv K a p xs:=by
 rcases h with (h | ⟨o,h⟩) | h
 ·exact .inl (.inl (s _ _ h))
 ·exact .inl (.inr ⟨o,s _ _ h⟩)
 ·exact .inr h
theorem E2{K:PySem.W.Frag}{H a:Hp}{p:Addr}{xs:List V}(h:Ve K H p xs)(s:Tf H a):Ve K a p xs:=by
 rcases h with (h | ⟨o,h⟩) | h
 ·exact .inl (.inl (s _ _ h))
 ·exact .inl (.inr ⟨o,s _ _ h⟩)
 ·exact .inr h
structure LamOf(X:Cx)(x:Str)(params:Nu)(body:Expr)(scope:Scope)(pn:Str)(clos:List (Str×Addr)):Prop where
 mem:x∈Qq
 tab:∃c P,PySem.W.tabIn X.K x=some (c,P)/\X.env.code=.ref c
 qual:X.env.qual ++ "<lambda>" = dF x
 dfl:defaultsOf params X.env=([],[])
 cl:Ni scope X.env=pure clos
 bind:∀(pm cd ctv v:Value),bindArgs (PySem.W.kla_fn "<lambda>" (dF x) params body scope clos pm cd ctv) ⟨[v],[]⟩=pure [(pn,v)]
 loc:scope.names.lookup pn=some .local
 co:scope.isCoroutine=false
 gen:scope.isGenerator=false
 kind:scope.kind=.function
 cell:∀y∈scope.names,y.2≠.cell
section
variable{X:Cx}{e:Expr}{t:TA}{g kp pos lp o C y z B E:Pos}{k j:Nat}{x:Str}{d:Nu}{b:Scope}{cw:Addr}
theorem yX(hg:Gl X "sorted")(hm:X.mg "sorted" = none)(j2:X.mg "len" = none)(hr:Room k X.A)(Z:X.calm=true)(F:LamOf X x d (.UnaryOp .USub (.Call (.Name "len" o) [.Subscript (.Name "words" C) (.Name "number" y) z] [] B) E) b "number" [("words",cw)])(k9:X.env.cells.lookup ("words" : Str)=some cw)(h0:X.env.kindOf "words" = some .cell)(hN:X.N[j]? = some "words")(q6:b.names.lookup ("words" : Str)=some .free)(q0:b.names.lookup ("len" : Str)=some .globalImplicit)(ha:PA X [e] t)(hs:Bl [e] X.env=[(false,eval e X.env)]:=by rfl):PE X (.Call (.Name "sorted" g) [e] [⟨some "key",.Lambda d (.UnaryOp .USub (.Call (.Name "len" o) [.Subscript (.Name "words" C) (.Name "number" y) z] [] B) E) b lp,kp⟩] pos) (EB X.K j t):=by
 intro h8 s σ H Q I h
 refine Ft (Ld I hg hm (u:=.builtin "sorted") (by decide +kernel) ?_)
 refine Hs (Il (ha pos h8 s σ H _ I h) λus s1 ⟨vs,H1,I1,r1,o⟩=>?_) (by rw[hs]; rfl) (by rw[hs]; rfl)
 obtain ⟨w,hw,r,n,p,rs,kf,rfl,hR,hn,rfl,hp,j3,q4,q⟩:=o
 obtain ⟨u,rfl,ru⟩:=vals1 r1
 cases ru
 obtain ⟨c,P,ht,W⟩:=F.tab
 refine kws_cons (u5 I1 F.mem ht W F.qual F.dfl F.cl λf c' pm j6 H2 s2 G sm ho q7=>kws_nil ?_)
 obtain ⟨⟨t,u,v,j0⟩,_,_⟩:=(show Hz X.prog X.w H2 s2.heap r (A3 r n) from G.hok r _ (sm r _ hR))
 have hs:Az=16777216:=Fc
 have U:s2.heap.IsCell cw (some (.ref p)):=by
  obtain ⟨m,k5,hl⟩:=G.loc
  obtain ⟨u,ru,l⟩:=hl j "words" (.ref p) hN hw (.inr (.inl h0))
  cases ru
  rcases l with ⟨O,_⟩ | ⟨O,c1,h5,Y⟩
  ·rw[h0] at O; cases O
  ·rw[k9] at h5; cases h5; exact Y
 obtain ⟨its,rv,pl,hz⟩:=G.list (kM hp sm)
 have e1:=Qr rv
 subst e1
 obtain ⟨mb,q8,q2⟩:=G.mod.blt
 have q5:mb "len" = some (.builtin "len"):=(q2 "len" (by decide)).trans (by decide +kernel)
 have h6:∀vs:List Value,ItemsOf (λi v=>∃t,v=.int (0+i * 1) t) vs.toArray n->vs.length=n/\∀(i:Nat) v,vs[i]? = some v->∃t,v=.int (i:Int) t:=λvs J=>by
  refine ⟨by simpa using J.1,λi v e=>?_⟩
  obtain ⟨t,e2⟩:=J.2 i v (by simpa using e)
  exact ⟨t,by rw[e2]; congr 1; omega⟩
 refine Rj (f:=.ref f) (kz:=(Bq n).map λi=>-((kf i:Nat):Int)) (Pv:=λvs=>vs.length=n/\∀(i:Nat) v,vs[i]? = some v->∃t,v=.int (i:Int) t)
  (λR hR=>bE (n:=n) (show X.A.in1.handled=none from G.ok.hd Z) j0 (small_one (by omega) (by omega) (by omega) (by omega)) (by rw[rangeSize_one]; split <;> omega) (by omega) λh' tk q3 O k7 k8=>hR h' tk q3.toList O k8 (h6 _ (by simpa using k7)))
  (λvs J=>by rw[Ac,Co]; exact J.1.symm) (by rw[Ac,Co]; omega) (ksk_s1 _ _) (λx=>ksk_l1 _ _) (λx=>ksk_t1 _ _) (λvs M i v k J O hh tk T R hR=>?_) λD h' tk h7 c3 vs M k1 k2 k3 k4=>?_
 ·have S:i<n:=by rw[<- M.1]; exact (Af.mp J).1
  obtain ⟨t,rfl⟩:=M.2 i v J
  rw[Aq,Xu S] at O
  cases O
  obtain ⟨a,h9⟩ : ∃a,rs[i]? = some a:=⟨_,Ag (by omega)⟩
  obtain ⟨ys,hy,q9⟩:=q4 i a h9
  obtain ⟨us,ru,pt,j5⟩:=G.tuple (E2 hy sm)
  have q1:=ru.length
  have k0:Fg s2.heap hh:=T
  refine zJ (x := "number") (show X.A.in1.in1.depth<Oc from hr.depth) (k0 _ _ ho) ?_ ?_ (F.bind _ _ _ _) F.loc F.co F.gen F.kind F.cell λL h2 k5 k6=>?_
  ·obtain ⟨c2,oc,j1,t2,e2,g3,g4⟩:=q7
   exact ⟨c2,oc,j1,t2,e2,k0 _ _ g3,g4⟩
  ·exact G.nolimit.keeps k0
  ·have kk:Fg s2.heap h2:=k0.trans k6
   obtain ⟨oL,nL,eL,rL⟩:=pl
   obtain ⟨oc,ec,dc⟩:=U
   obtain ⟨ot,et,dt⟩:=pt
   refine dQ (l:=p) (r:=a) (us:=us) (its:=rs.map Bc) (i:=(i:Int)) (t:=t) F.kind F.loc q6 q0 k5 rfl (List.lookup_cons_self ..) ⟨oc,kk _ _ ec,dc⟩ ((G.mod.glob.keeps G.bk).keeps kk) j2 ((q8.keeps G.bk).keeps kk) q5 (PlainL.isList ⟨oL,nL,kk _ _ eL,rL⟩) (by omega) (by omega) ?_ ⟨ot,kk _ _ et,dt⟩ (by omega) λt' j4=>?_
   ·rw[Cs,Kc,Aq,h9]; rfl
   ·rw[<- q1,q9]
    exact hR _ _ _ k6
 ·obtain ⟨ps,h1,e2,h3⟩:=k4
  obtain ⟨hl,J⟩:=M
  have ez:((Bq n).map λi=>-((kf i:Nat):Int)).zip vs=(Bq n).map λi=>(-((kf i:Nat):Int),vs.getD i .none):=by
   have ev:vs=(Bq n).map λi=>vs.getD i .none:=by
    refine Eu λi=>?_
    rw[Aq]
    by_cases S:i<n
    ·rw[Xu S,Ag (by omega)]
     simp [List.getD,Ag (show i<vs.length by omega)]
    ·rw[Nx (by omega),Nx (by rw[Co]; omega)]
     rfl
   conv=>lhs; rw[ev]
   exact List.zip_map' ..
  rw[ez] at h1
  obtain ⟨l,g,rfl⟩:=lZ h1.symm (Bq n) rfl
  have p2:l.Pairwise λi j=>kf j<=kf i:=by
   have h4:(l.map λi=>(-((kf i:Nat):Int),vs.getD i .none)).Pairwise (λp q=>p.1<=q.1):=h3
   rw[Kg] at h4
   exact h4.imp λq=>by simp only at q; omega
  have eo:h7=(l.map λi=>vs.getD i .none).toArray:=by
   rw[Bm] at e2
   have e3:h7.toList=l.map λi=>vs.getD i .none:=e2
   rw[<- e3,Array.toArray_toList]
  subst eo
  have vv:∀l:List Nat,(∀i∈l,i<n)->Fs (l.map λi:Nat=>V.int i) (l.map λi=>vs.getD i .none):=by
   intro l
   induction l with
   | nil=>exact λ_=>.nil
   | cons i l ih =>
    intro S
    have j7:=S i Aa
    obtain ⟨t,e⟩:=J i _ (Ag (by omega))
    refine .cons ⟨t,?_⟩ (ih λj hj=>S j (Ae _ hj))
    show vs.getD i .none=Nv (i:Int) t
    rw[Br,Ag (by omega)]
    exact e
  refine ⟨.ref D,upd H2 D (.lst (l.map λi:Nat=>V.int i)),G.laid (t':=tk) k1 k2 ⟨?_,_,c3,vv l λi S=>En.mp (g.mem_iff.mp S),k3⟩,rfl,q D l H2 sm (G.hok.fresh k2) g p2⟩
  rw[Ac,g.length_eq,Co]
  omega
end
end Nd
namespace DL
open PySem PySem.Spec PyProof.Rows L2 Nd Ts
section
variable{P:Bp}{w:World}{K:PySem.W.Frag}{mg:Str->Option Value}{base:Heap}
theorem X3{x b:Str}{st:Stmt}{f:Addr}{g:Cb}{N ps:List Str}{k:Nat}{sp:Sp}(F:Fun K x b st f g)(S:FnScope N ps (Bv st))(len:∀vs H Q E,sp vs H Q E->vs.length=ps.length)(c:∀(a:Value) (A:Cn) (outer:List Env) (s:Am) (H:Hp) (vs:List V) (Q:VK) (E:XK),g.code=a->Room k (A.deeper (Pk b (Bv st) s.heap.objs.size f a))->sp vs H Q E->∃t,rJ (Sr Gv P w K mg base N b (Bv st) f a A outer s H E).nox (Ja st) t/\t { nx:=λ_ H'=>Q .non H',rt:=Q } (L2.start N vs) H):FnOk P w K mg base Gv (k+1) f g ps sp:=by
 obtain ⟨p,n,kV,j,r,u,a,o,i,rfl,l,e⟩:=F.ex
 refine Y0 l e S len λA outer s H vs Q E m d=>?_
 obtain ⟨t,h,q⟩:=c a A outer s H vs Q E rfl m d
 exact ⟨t,h.nox,q⟩
theorem lC{x i:Str}{st:Stmt}{f:Addr}{U:Cb}{N ps:List Str}{k:Nat}{Y:PF}{W:DB}(F:Fun K x i st f U)(S:FnScope N ps (Bv st))(hb:∀(g:Value) (A:Cn) (outer:List Env) (s:Am) (H:Hp) (E:XK),U.code=g->Room k (A.deeper (Pk i (Bv st) s.heap.objs.size f g))->Zb (Sr Gv P w K mg base N i (Bv st) f g A outer s H E).nox (Ja st) W)(h:∀j R,Y j R->j.length=ps.length/\W (retE R) ⟨args0 j (N.length - ps.length),0⟩):FnOk P w K mg base Gv (k+1) f U ps (Ko K Y):=by
 refine X3 F S (λvs H Q E z=>?_) λg A outer s H us Q E V hr z=>?_
 ·obtain ⟨X,n,j,R,y,ok,q,G,_⟩:=z
  have l1:=(h j R G).1
  have D:=Je q
  rw[Ac] at D
  have L:=congrArg Fi y
  rw[Ac,Ac] at L
  omega
 ·obtain ⟨X,n,j,R,y,ok,q,G,Z⟩:=z
  obtain ⟨l1,hd⟩:=h j R G
  have D:=Je q
  rw[Ac] at D
  have L:=congrArg Fi y
  rw[Ac,Ac] at L
  refine ⟨_,hb g A outer s H E V hr,H,λ_=>False,X.map Zr++Hr (N.length - ps.length),[],⟨args0 j (N.length - ps.length),0⟩,retE R,?_,?_,λ_ z=>(nomatch z),?_,hd,λO T M e1 m p=>?_,λx O v I T M e1 m p=>?_,λ_ _ _ _ _ p=>p.elim,λ_ _ _ _ _ p=>p.elim⟩
  ·unfold vs L2.start Hr
   rw[Bg,P6,y,Nf,show us.length=ps.length by omega]
  ·unfold Sl args0 Hr
   rw[Bg,Te q,Nf]
  ·rw[Dk]
   have C:=aP q (N.length - ps.length)
   refine ⟨λe B=>?_,Qt λa l b J=>⟨λhq c t=>?_,λhq c t=>?_⟩,λe B a l=>?_,λb o _ e=>e,λb o e=>⟨o,e⟩,λb hb=>hb.elim⟩
   ·have:=tV q ok (N.length - ps.length) e B
    obtain ⟨v,x,F⟩:=e
    cases x with
    | drw=>exact absurd (C _ B).2 (by show ¬ (true=false); decide)
    | _=>exact this
   ·rw[(C a l).1] at t; cases t
   ·rw[(C b J).1] at t; cases t
   ·rw[(C e B).1] at l; cases l
  ·exact Z .non .none [] M p .non Dt (λ_ z=>(nomatch z)) λb o e=>m.same b o (λz=>z) e
  ·obtain ⟨d,rfl,r⟩:=p
   rw[show T++[(⟨some v,.dat .ow d,I⟩ : Ent)]=T++⟨some v,.dat .ow d,I⟩::[] from rfl] at m
   obtain ⟨u,e2,rd,nd,_⟩:=m.ok _ mem_mid
   cases e2
   refine Z v d I M r rd (nd rfl) (λa l=>?_) λb o e=>m.same b o (λz=>z) e
   rcases m.new _ mem_mid a l with z | z
   ·exact z
   ·exact z.1.elim
end
theorem code_tab{K:PySem.W.Frag}{x a:Str}{st:Stmt}{f c P:Addr}{b:Cb}(g:PySem.W.nsIn K Ck x=some (some (.ref f)))(F:Fun K x a st f b)(t:PySem.W.tabIn K x=some (c,P)):b.code=.ref c:=by
 obtain ⟨p,m,kV,j,q,r,i,o,d,e,l,k⟩:=F.ex
 unfold PySem.W.tabIn at t
 rw[g] at t
 dsimp only at t
 rw[l] at t
 dsimp only at t
 split at t
 ·rename_i n h
  rw[h]
  split at t
  ·split at t
   ·cases t; rfl
   ·cases t
  ·cases t
 ·cases t
theorem tab_mk{K:PySem.W.Frag}{x a:Str}{st:Stmt}{f c P:Addr}{d:Cb}{h:Value}{p:Option Addr}{vs:Array Value}{b:Array (Option Value)}(l:PySem.W.nsIn K Ck x=some (some (.ref f)))(F:Fun K x a st f d)(n:d.code=.ref c)(o:K.lookup c=some ⟨h,p,.fields vs,b⟩)(g:vs[11]? = some (.ref P)):PySem.W.tabIn K x=some (c,P):=by
 obtain ⟨u,s,kV,j,r,v,i,t,k,e,m,q⟩:=F.ex
 unfold PySem.W.tabIn
 rw[l]
 dsimp only
 rw[m]
 dsimp only
 rw[n]
 dsimp only
 rw[o]
 dsimp only
 rw[g]
def JK(j:Nat)(x:DV)(d:DS)(P:DV->DS->Prop):Prop:=match x,d.sl[j]? with
 | .dat _ (.int n),some (.dat _ (.list ds))=>∃c:List (List Int),ds=c.map Bj/\n=c.length/\c.length<=63/\∀l:List Nat,l.Perm (Bq c.length)->l.Pairwise (λa b=>(c.getD b []).length<=(c.getD a []).length)->P (.dat .ow (.list (l.map λi:Nat=>Ah i))) d
 | _,_=>False
def yQ(j:Nat)(b:DE):DE:=λc P=>b c λx a=>JK j x a P
theorem FK{j:Nat}{m e:Md}{n:Int}{c:DS}{P:DV->DS->Prop}{ws:List (List Int)}(h:c.sl[j]? = some (.dat e (.list (ws.map Bj))))(d:n=ws.length)(hz:ws.length<=63)(k:∀l:List Nat,l.Perm (Bq ws.length)->l.Pairwise (λa b=>(ws.getD b []).length<=(ws.getD a []).length)->P (.dat .ow (.list (l.map λi:Nat=>Ah i))) c):JK j (.dat m (.int n)) c P:=by
 unfold JK
 rw[h]
 exact ⟨ws,rfl,d,hz,k⟩
section
variable{X:Cx}{e:Expr}{C:DE}{D g kp pos f lp w z o s t B:Pos}{k j:Nat}{x:Str}{d:Nu}{c:Scope}{cw:Addr}
theorem K8(hc:X.calm=true)(hr:Room k X.A)(hg:Gl X "sorted")(hm:X.mg "sorted" = none)(h5:X.mg "len" = none)(W:Gl X "range")(h0:X.mg "range" = none)(Lm:LamOf X x d (.UnaryOp .USub (.Call (.Name "len" w) [.Subscript (.Name "words" z) (.Name "number" o) s] [] t) B) c "number" [("words",cw)])(R:X.env.cells.lookup ("words" : Str)=some cw)(h2:X.env.kindOf "words" = some .cell)(hN:X.N[j]? = some "words")(h3:c.names.lookup ("words" : Str)=some .free)(U:c.names.lookup ("len" : Str)=some .globalImplicit)(ha:Ee X e C)(he:Bl [e] X.env=[(false,eval e X.env)]:=by rfl)(J:Bl [.Call (.Name "range" g) [e] [] f] X.env=[(false,eval (.Call (.Name "range" g) [e] [] f) X.env)]:=by rfl):Ee X (.Call (.Name "sorted" D) [.Call (.Name "range" g) [e] [] f] [⟨some "key",.Lambda d (.UnaryOp .USub (.Call (.Name "len" w) [.Subscript (.Name "words" z) (.Name "number" o) s] [] t) B) c lp,kp⟩] pos) (yQ j C):=by
 refine PE.imp (yX hg hm h5 hr hc Lm R h2 hN h3 U (Gz (fQ mO W h0 (by decide +kernel) (Gz ha Oz he) (by decide) (by decide) he rfl) Oz J) J) λσ H Q h=>?_
 obtain ⟨H0,Y,S,T,δ,P,rfl,hS,hA,hd,k⟩:=h
 refine ⟨H0,Y,S,T,δ,_,rfl,hS,hA,hd,λx h4 v F S' H' e1 e2 E p=>?_⟩
 unfold JK at p
 split at p
 ·rename_i m n m' ds Z
  obtain ⟨I,rfl,hn,hz,p⟩:=p
  obtain ⟨rfl,_⟩:=(E.told mem_mid).int_inv
  refine ⟨n,rfl,λr nr=>?_⟩
  obtain ⟨⟨u,y,G⟩,es,M⟩:=Ge e2 Z
  have M:y=.dat m' (.list (I.map Bj)):=M
  subst M
  obtain ⟨v,ev,rd,_⟩:=E.ok _ (Ap _ (Au es))
  have ev:u=some v:=ev
  subst ev
  obtain ⟨a,xs,G',rfl,O,ra,rfl,h6⟩:=rd.list_inv
  obtain ⟨rs,rfl,L,rfl,c1,c2⟩:=Tx ra rfl
  have s1:=Gi nr (A3 r n)
  have h1:rs.length=I.length:=by rw[L,Ac]
  refine ⟨.ref a,by rw[<- e1]; exact Jk es,r,I.length,a,rs,λi=>(I.getD i []).length,rfl,by rw[hn]; exact Dq,hz,rfl,Kv.of (s1 _ _ O),h1,λi b hb=>?_,λq l H1 sm nq pe pw=>?_⟩
  ·refine ⟨_,Ve.of (s1 _ _ (c1 b (Au hb))),?_⟩
   have : I[i]? = some (yY H' b):=by rw[L,Aq,hb]; rfl
   rw[Ac]
   show _=(I.getD i []).length
   rw[Br,this]
   rfl
  ·have hI:RdFs X.K H1 (l.map λi:Nat=>V.int i) (l.map λi:Nat=>Ah i) []:=by
    have:=RdFs.ints (K:=X.K) (H:=H1) (l.map λi:Nat=>(i:Int))
    rw[Bm,Bm] at this
    exact this
   refine k _ h4 _ _ S' _ e1 e2 (((E.drop.grow s1 (Ar _)).grow sm (Ar _)).newI hI ?_ ?_ nq .ow) (p l pe pw)
   ·have:=Px (l.map λi:Nat=>(i:Int))
    rw[Bm] at this
    exact this
   ·rw[Ac,pe.length_eq,Co,Fc]
    omega
 ·exact p.elim
end
end DL
namespace HT
open PySem PyProof.Rows
theorem E4(A:Cn)(s:Am)(a:Int)(t:Tok)(c:Int)(u:Tok)(prog:Bp)(w:World)(E:Value->Am->Prop)(Q:Value->Am->Prop)(h:Q (.bool (decide (c<a))) s):wpAny (model prog w) A (richCompare .Gt (.int a t) (.int c u)) Q E s :=
 (PyProof.Rows.gt_int h:wpAny (model prog w) A (Hh .Gt (.int a t) (.int c u)) Q E s)
section
open PySem.SeqAt
open PySem.AutoSeq1 (wpAny_loadPart')
open PySem.MeetsSeq PySem.MeetsSeq2 PySem.MeetsSeq3
theorem fE(l b:Addr)(i f:Array Value)(n U:Nat)(X J:Option Addr)(Y N:Array (Option Value))(ns G:List Int)(P:El i.toList ns)(Q:El f.toList G):Meets (Builtin.«tuple.__gt__» ⟨[.ref l,.ref b],[]⟩) (λ_ R s=>s.heap.get? l=some { cls:=.type "tuple",dict:=X,data:=.seq i n,slots:=Y }/\s.heap.get? b=some { cls:=.type "tuple",dict:=J,data:=.seq f U,slots:=N }/\R (.ok (.ret (.bool (lexLt G ns)))) s) :=
 .of_wp λr w A R s h=>by
  obtain ⟨F,g,d,I,os⟩:=s; obtain ⟨T,S,h⟩:=h
  have Z:=fM
  have z1:i.size=ns.length:=by rw[<- P.length]; simp
  have z2:f.size=G.length:=by rw[<- Q.length]; simp
  wp_walk using Km T,Km S,wpAny_forIn_list _ (λMs b K=>b.1=none/\K=⟨F,g,d,I,os⟩/\∃(vs H:List Value) (m k:List Int),Ms=vs.zip H /\
   El vs m/\El H k/\m.length+f.size=k.length+i.size/\R (.ok (.ret (.bool (lexLt k m)))) ⟨F,g,d,I,os⟩) _
  case turn =>
   (rintro ⟨y,x⟩ Ms b K M; obtain ⟨C,rfl,vs,H,m,k,p,B,o,j,z⟩ := M)
   cases B with
   | nil=>rw[List.zip_nil_left] at p; cases p
   | cons a t E =>
    cases o with
    | nil=>rw[List.zip_nil_right] at p; cases p
    | cons c u D =>
     rw[Ht] at p
     injection p with hyx hrest
     injection hyx with hy hx
     subst hy hx
     rw[lexLt_cons] at z
     simp only[Bu] at j
     obtain ⟨e,V,v⟩:=oP A.in1 ⟨F,g,d,I,os⟩ a t c u
     refine Ab (V r w _ _ ?_)
     cases e with
     | true =>
      rw[if_pos (v.mp rfl).symm] at z
      wp_walk
      exact ⟨rfl,rfl,_,_,_,_,hrest,E,D,by omega,z⟩
     | false =>
      rw[if_neg (λq=>absurd (v.mpr q.symm) Cr)] at z
      have L:=E4 A.in1 ⟨F,g,d,I,os⟩ a t c u r w
      wp_walk using L
      exact ⟨_,rfl,by simpa using z⟩
  case fin =>
   (rintro ⟨b1,b2⟩ K M; obtain ⟨C,rfl,vs,H,m,k,p,B,o,j,z⟩ := M)
   simp only at C
   subst C
   have O:lexLt k m=decide (f.size<i.size):=by
    cases B with
    | nil =>
     cases o with
     | nil =>
      simp only[Jp] at j
      rw[lexLt_nil_nil]
      exact (decide_eq_false (by omega)).symm
     | cons c u W =>
      simp only[Jp,Bu] at j
      rw[lexLt_cons_nil]
      exact (decide_eq_false (by omega)).symm
    | cons a t O =>
     cases o with
     | nil =>
      simp only[Jp,Bu] at j
      rw[lexLt_nil_cons]
      exact (decide_eq_true (by omega)).symm
     | cons c u W =>
      rw[Ht] at p
      cases p
   rw[O] at z
   wp_walk
   exact ⟨_,rfl,by simpa [Vk] using z⟩
  case h =>
   exact ⟨rfl,rfl,i.toList,f.toList,ns,G,rfl,P,Q,by omega,h⟩
end
section
variable{prog:Bp}{w:World}{A:Cn}{E:Value->Am->Prop}{s:Am}
theorem gt_tupInts(hl:IsTup s.heap l c)(hb:IsTup s.heap b a)(u:El c.toList ns)(v:El a.toList d)(r:A.units<cLine)(h:Q (.bool (lexLt d ns)) s):wpAny (model prog w) A (Hh .Gt (.ref l) (.ref b)) Q E s:=by
 obtain ⟨⟨y,z,k,B⟩,q,p,n,o⟩:=id hl
 obtain ⟨⟨m,i,data2,j⟩,f,g,t,e⟩:=id hb
 simp only at p o g e
 subst p o g e
 exact N5 (op:=.Gt) ⟨_,q,rfl⟩ ⟨_,f,rfl⟩ PySem.F.slot_tuple_gt PySem.F.entry_tuple_gt (PySem.F.args_tuple_gt_2 _ _) (fE l b c a n t z i B j ns d u v)
  ⟨q,f,show Xx (lexLt d ns)≠Value.notImplemented/\Q (.bool (lexLt d ns)) s from ⟨(λx=>nomatch x),h⟩⟩ r
end
end HT
namespace Nd
open PySem PySem.Spec PySem.Calls PyProof.Rows PyProof.V L2 Ts
def KG(kl:Nat->List Int)(vs:List Value)(h:Heap)(S I:Addr)(j:Nat)(its:Array Value):Prop:=(j=0/\its=#[])\/∃(i:Nat) (v:Value) (r:Addr) (a:Array Value),i<j/\vs[i]? = some v/\its=#[v,.ref r]/\r≠S/\r≠I /\
 IsTup h r a/\El a.toList (kl i)/\(∀b,b<j->HT.lexLt (kl i) (kl b)=false)/\∀b,b<i->HT.lexLt (kl b) (kl i)=true
section
variable{prog:Bp}{w:World}{A:Cn}{E:Value->Am->Prop}{s:Am}{R:Result->Am->Prop}{I S l f:Addr}{h0:Heap}{vs:List Value}{kl:Nat->List Int}
theorem wK(hh:A.handled=none)(hu:A.in1.units<cLine)(k3:l≠I)(E:S≠I)(nI:h0.get? I=none)(nS:h0.get? S=none)(hl:h0.IsList l vs.toArray)(k5:0<vs.length)(turn:∀(i:Nat) (v:Value),vs[i]? = some v->∀(h:Heap) (tk:Nat),Fg h0 h->∀Rr:Value->Am->Prop,(∀r a t B,Fg h t->h.objs.size<=r->IsTup t r a->El a.toList (kl i)->Rr (.ref r) { s with heap:=t,toks:=B })->wpAny (model prog w) A.in1 (call (.ref f) [v]) Rr (λ_ _=>False) { s with heap:=h,toks:=tk })(hR:∀i v h' G,vs[i]? = some v->(∀j,j<vs.length->HT.lexLt (kl i) (kl j)=false)->(∀j,j<i->HT.lexLt (kl j) (kl i)=true)->Fg h0 h'->R (.ok (.ret v)) { s with heap:=h',toks:=G }):∀(k j:Nat) (h:Heap) (tk:Nat) (its:Array Value) (c:Nat),vs.length - j=k->j<=vs.length->Fg h0 h->h.IsListIter I l j->h.get? S=some (Cv "list" its c)->KG kl vs h S I j its->Qz (model prog w) A (.builtin "max.loop" ⟨[.ref I,.ref f,.ref S],[]⟩) R { s with heap:=h,toks:=tk }:=by
 have p:(Lr "max" ++ Lr ".loop" : String) = "max.loop" := by decide
 have W:=Xw (prog:=prog) (w:=w) (A:=A.in1) hh I l k3 vs.toArray
 have h3:vs.toArray.size=vs.length:=Av ..
 have h4:∀{h h':Heap},Fg h0 h->(∀b o,b∉[I]->h.get? b=some o->h'.get? b=some o)->Fg h0 h':=λk k' b o e=>k' b o (λz=>by rw[Ak.mp z,nI] at e; cases e) (k b o e)
 have lst:∀{h:Heap},Fg h0 h->h.IsList l vs.toArray:=λk=>by
  obtain ⟨o,ho,r⟩:=hl
  exact ⟨o,k _ _ ho,r⟩
 intro k
 induction k with
 | zero =>
  intro j h tk its c hk hj K O Z hB
  have k4:j=vs.length:=by omega
  rcases hB with ⟨z,_⟩ | ⟨i,v,r,a,hi,hv,rfl,rS,rI,ht,Q,d,D⟩
  ·omega
  refine Iv PySem.F.entry_max_loop ?_
  rw[Fo PySem.F.plain_max_loop _]
  show wpAny _ A.in1 (seqItems? (.ref S) >>= _) _ _ _
  refine Ab (Lo Z rfl ?_)
  show wpAny _ A.in1 (Zo (Nh (.ref I)) _ >>= _) _ _ _
  refine Ab (Jl (W.done _ _ _ ⟨by rw[h3,<- k4]; exact O,lst K⟩ λh' G y=>?_))
  have k2:=y S _ (by simpa using E) Z
  show wpAny _ A.in1 (updateSeq S (λ_=>#[]) >>= _) _ _ _
  refine Ab ?_
  refine Mx k2 rfl (Ab (Lp (An ?_)))
  exact hR i v _ _ hv (λn m=>d n (by omega)) D (Nl (h4 K y) nS)
 | succ k ih =>
  intro j h tk its c hk hj K O Z hB
  have H:j<vs.length:=by omega
  refine Iv PySem.F.entry_max_loop ?_
  rw[Fo PySem.F.plain_max_loop _]
  show wpAny _ A.in1 (seqItems? (.ref S) >>= _) _ _ _
  refine Ab (Lo Z rfl ?_)
  show wpAny _ A.in1 (Zo (Nh (.ref I)) _ >>= _) _ _ _
  refine Ab (Jl (W.item j _ _ _ (by rw[h3]; exact H) ⟨O,lst K⟩ λv h' G hP k0 y=>?_))
  have hv:vs[j]? = some v:=by simpa using hP
  obtain ⟨P,M,V,N⟩:=id k0.1
  have K1:=h4 K y
  have h7:=y S _ (by simpa using E) Z
  show wpAny _ A.in1 (Zo (My [v] (call (.ref f) [v])) _ >>= _) _ _ _
  refine Ab (Jl (Cc (Eo (turn j v hv h' G K1 (λx h5=>∃r a t B,x=.ref r/\h5={ s with heap:=t,toks:=B }/\Fg h' t/\h'.objs.size<=r/\IsTup t r a/\El a.toList (kl j)) λr a t B a1 a2 a3 a4=>⟨r,a,t,B,rfl,rfl,a1,a2,a3,a4⟩) (λx h5 he=>?_) λ_ _ hF=>hF.elim)))
  obtain ⟨u,g,t,B,rfl,rfl,X,sr,h1,C⟩:=he
  have L:=X _ _ h7
  have T:=X _ _ M
  have U:u≠S:=λz=>Ey _ (Bs (Bb h7) (by rw[<- z]; exact sr))
  have h8:u≠I:=λz=>Ey _ (Bs (Bb M) (by rw[<- z]; exact sr))
  have put:∀{c:Nat},True->∃c2,(t.update S (Cg λ_=>#[v,.ref u])).get? S=some (Cv "list" #[v,.ref u] c2):=λ_=>⟨_,Iu L λ_=>#[v,.ref u]⟩
  obtain ⟨c2,h9⟩:=put (c:=c) trivial
  have s1:=Cj t S (Cg λ_=>#[v,.ref u])
  have h6:IsTup (t.update S (Cg λ_=>#[v,.ref u])) u g:=by
   obtain ⟨o,ho,rr⟩:=h1
   exact ⟨o,(s1.2 u U).trans ho,rr⟩
  rcases hB with ⟨z,rfl⟩ | ⟨i,vb,r,a,hi,k1,rfl,rS,rI,ht,Q,d,D⟩
  ·subst z
   show wpAny _ A.in1 (updateSeq S (λ_=>#[v,.ref u]) >>= _) _ _ _
   refine Ab ?_
   refine Mx L rfl ?_
   rw[p]
   refine An ⟨Gx PySem.F.plain_max_loop _,ih 1 _ _ _ c2 (by omega) H (Nl (K1.trans X) nS) ⟨P,(s1.2 I E.symm).trans T,V,N⟩ h9 (.inr ⟨0,v,u,g,by omega,hv,rfl,U,h8,h6,C,λn m=>?_,λn m=>absurd m (Me _)⟩)⟩
   obtain rfl:n=0:=by omega
   exact Uo _
  ·have Y:IsTup t r a:=by
    obtain ⟨o,ho,rr⟩:=ht
    exact ⟨o,X _ _ (y r o (by simpa using rI) ho),rr⟩
   show wpAny _ A.in1 (Zo (My [v,.ref u] (richCompare .Gt (.ref u) (.ref r) >>= _)) _ >>= _) _ _ _
   refine Ab (Jl (Cc (Ab (HT.gt_tupInts h1 Y C Q hu ?_))))
   refine Ab (Cc (Gd ?_))
   refine Ab (Lp (An ?_))
   cases J:HT.lexLt (kl i) (kl j) with
   | true =>
    simp only[if_true]
    refine Ab ?_
    refine Mx L rfl (Ab (Lp ?_))
    rw[p]
    refine An ⟨Gx PySem.F.plain_max_loop _,ih (j+1) _ _ _ c2 (by omega) H (Nl (K1.trans X) nS) ⟨P,(s1.2 I E.symm).trans T,V,N⟩ h9 (.inr ⟨j,v,u,g,by omega,hv,rfl,U,h8,h6,C,λn m=>?_,λn m=>?_⟩)⟩
    rotate_left
    ·cases q:HT.lexLt (kl n) (kl j) with
     | true=>rfl
     | false =>
      cases q2:HT.lexLt (kl j) (kl n) with
      | true =>
       have:=Wb J q2
       rw[d n m] at this
       cases this
      | false =>
       have e:=aG q q2
       have:=d n m
       rw[e,J] at this
       cases this
    by_cases e:n=j
    ·subst e; exact Uo _
    ·cases q:HT.lexLt (kl j) (kl n) with
     | false=>rfl
     | true =>
      have:=Wb J q
      rw[d n (by omega)] at this
      cases this
   | false =>
    simp only[Dh,if_false]
    refine Ab (Lp ?_)
    rw[p]
    refine An ⟨Gx PySem.F.plain_max_loop _,ih (j+1) _ _ _ _ (by omega) H (K1.trans X) ⟨P,T,V,N⟩ L (.inr ⟨i,vb,r,a,by omega,k1,rfl,rS,rI,Y,Q,λn m=>?_,D⟩)⟩
    by_cases e:n=j
    ·subst e; exact J
    ·exact d n (by omega)
theorem xA(x:A.handled=none)(y:A.in1.units<cLine)(hl:s.heap.IsList l vs.toArray)(k:0<vs.length)(turn:∀(i:Nat) (v:Value),vs[i]? = some v->∀(h:Heap) (z:Nat),Fg s.heap h->∀t:Value->Am->Prop,(∀r a g q,Fg h g->h.objs.size<=r->IsTup g r a->El a.toList (kl i)->t (.ref r) { s with heap:=g,toks:=q })->wpAny (model prog w) A.in1 (call (.ref f) [v]) t (λ_ _=>False) { s with heap:=h,toks:=z })(D:∀i v h' d,vs[i]? = some v->(∀j,j<vs.length->HT.lexLt (kl i) (kl j)=false)->(∀j,j<i->HT.lexLt (kl j) (kl i)=true)->Fg s.heap h'->Q v { s with heap:=h',toks:=d }):wpAny (model prog w) A (call (.builtin "max") [.ref l] [(Do "key",.ref f)]) Q E s:=by
 have c:(Lr "max" ++ Lr ".loop" : String) = "max.loop" := by decide
 obtain ⟨G,n,_⟩:=id hl
 have p:l<s.heap.objs.size:=Bb n
 refine kmb_tree PySem.F.kind_max PySem.F.plain_max PySem.F.entry_max (kmb_max_key _ _) ?_
 show wpAny _ A.in1 (Iq "max" ["key", "default"] 0 ⟨[],[(Do "key",.ref f)]⟩ >>= _) _ _ s
 refine Ab (wpAny_of_eq (show Iq "max" ["key", "default"] 0 ⟨[],[(Do "key",.ref f)]⟩=pure [some (.ref f),none] from rfl) ?_)
 refine Ab (An ?_)
 refine Ab (Ub hl ?_)
 refine Ab (Mo ?_ (Dg _))
 rw[c]
 have u:(s.heap.push { cls:=.type "list_iterator",data:=.fields #[.ref l,.int 0 0] }).objs.size=s.heap.objs.size+1:=Pj ..
 refine An ⟨Gx PySem.F.plain_max_loop _,wK (s:=s) (h0:=s.heap) (l:=l) (I:=s.heap.objs.size) (S:=(s.heap.push { cls:=.type "list_iterator",data:=.fields #[.ref l,.int 0 0] }).objs.size) (vs:=vs) (kl:=kl) x y (By p) (by rw[u]; exact Nat.succ_ne_self _) (Ku (Ar _)) (Ku (by rw[u]; omega)) hl k turn
  (λi v h' d B g m C=>D i v h' d B g m C) vs.length 0 _ _ #[] 0 (by omega) (Dg _) (λb o e=>Ai _ (Ai _ e)) ⟨_,Ai _ (Be _ rfl),rfl,rfl⟩ (Be _ rfl) (.inl ⟨rfl,rfl⟩)⟩
end
section
variable{prog:Bp}{w:World}{A:Cn}{E:Value->Am->Prop}{s:Am}
theorem xH(j:A.depth<Oc)(I:s.heap.get? f=some (PySem.W.kla_obj "<lambda>" q g h a d D p n))(C:s.heap.CodeRec (.ref p) q)(B:s.heap.NoLimit)(k:bindArgs (PySem.W.kla_fn "<lambda>" q g h a d D (.ref p) n) ⟨[v],[]⟩=pure [(x,v)])(F:a.names.lookup x=some .local)(u:a.isCoroutine=false)(t:a.isGenerator=false)(H:a.kind=.function)(i:∀y∈a.names,y.2≠.cell)(hb:∀L c,c.Ns L (λy=>[(x,v)].reverse.lookup y)->Fg s.heap c->s.heap.objs.size<=c.objs.size->wpAny (model prog w) (A.deeper (PySem.W.envX q a L f (.ref p) d)) (eval h (PySem.W.envX q a L f (.ref p) d)) R (λ_ _=>False) { s with heap:=c,toks:=s.toks+1 }):wpAny (model prog w) A (call (.ref f) [v]) R E s:=by
 refine wpAny_call (PySem.W.kla_callFunE j I rfl u t rfl C ?_)
 rw[k]
 refine An (wpAny_newFunctionEnv i (λy G=>?_) (λc m r=>⟨B.fresh _ r,?_⟩) H)
 ·rw[Ak.mp G]; exact F
 have l:Fg s.heap c:=λb o e=>r.extBut b o (By (Bb e)) (Ai _ e)
 exact PySem.W.kla_codeExpr (Eo (hb _ c m l (La m.lt)) (λv J z=>z) λ_ _ z=>z.elim)
theorem K5{env:Env}{z L B H P D Q M C p:Pos}{m mg v:Str->Option Value}{c cn l ln r:Addr}{its us ins:List Value}{i a:Int}{t ta:Tok}{K:Nat}{R:Value->Am->Prop}(e:env.scope.kind=.function)(u:env.kindOf "number" = some .local)(hw:env.kindOf "words" = some .free)(d:env.kindOf "numbers" = some .free)(hl:env.kindOf "len" = some .globalImplicit)(x:s.heap.Ns env.locals m)(q:m "number" = some (.int i t))(N:env.cells.lookup ("words" : Str)=some c)(o:s.heap.IsCell c (some (.ref l)))(n:env.cells.lookup ("numbers" : Str)=some cn)(b:s.heap.IsCell cn (some (.ref ln)))(I:s.heap.Ns env.globals mg)(f:mg "len" = none)(hb:s.heap.Ns env.builtins v)(g:v "len" = some (.builtin "len"))(G:s.heap.IsList l its.toArray)(j:s.heap.IsList ln ins.toArray)(h0:0<=i)(y:i<2 ^ 63)(J:its.toArray[i.toNat]? = some (.ref r))(F:ins.toArray[i.toNat]? = some (.int a ta))(O:IsTup s.heap r us.toArray)(hz:us.length<2 ^ 62)(h:∀t' k,R (.ref s.heap.objs.size) { s with heap:=s.heap.push { cls:=.type "tuple",data:=.seq #[.int a ta,.int (-(us.length:Int)) t'] },toks:=k }):wpAny (model prog w) A (eval (.Tuple [.Subscript (.Name "numbers" Q) (.Name "number" M) C,.UnaryOp .USub (.Call (.Name "len" z) [.Subscript (.Name "words" L) (.Name "number" B) H] [] P) D] K p) env) R E s:=by
 refine wpAny_Tuple_spliced ?_
 refine Hq (Sk (Sh (aU e d n b (Sh (Zn e u x q ?_) (by decide))) (by decide)))
 refine item_listR j h0 y F ?_
 refine Hq (dQ e u hw hl x q N o I f hb g G h0 y J O hz λt' k=>Mq ⟨?_,?_⟩)
 ·exact sz (by show 2<=1000; decide)
 ·exact h t' k
end
def Pn(a:List Int)(b:Nat->Nat)(k:Nat):List Int:=[a.getD k 0,-((b k:Nat):Int)]
def JY(K:PySem.W.Frag)(xs:List V)(m n:V)(H:Hp)(Q:VK):Prop:=∃(p:Addr) (c:List Nat) (h:Addr) (b:List Int) (l:Addr) (e:List Addr) (d:Nat->Nat),xs=[.ref p]/\Kv K H p (c.map λk:Nat=>V.int k)/\c≠[]/\m=.ref h/\Kv K H h (b.map V.int)/\n=.ref l/\Kv K H l (e.map V.ref) /\
 (∀k∈c,k<b.length/\k<e.length)/\(∀(i:Nat) a,e[i]? = some a->∃g,Ve K H a g/\g.length=d i)/\∀(M:Nat) (f:Hp),M∈c->Tf H f->(∀x∈c,HT.lexLt (Pn b d M) (Pn b d x)=false)->(∃i,c[i]? = some M/\∀(j x:Nat),j<i->c[j]? = some x->HT.lexLt (Pn b d x) (Pn b d M)=true)->Q (.int M) f
def IT(K:PySem.W.Frag)(jn jw:Nat)(t:TA):TE:=λa H Q=>t a H λe d=>∃b c,a[jn]? = some (some b)/\a[jw]? = some (some c)/\JY K e b c d Q
section
variable{X:Cx}{e:Expr}{t:TA}{S kp pos lp w J B E F M G D C n:Pos}{O:Nat}{k jn jw:Nat}{x:Str}{g:Nu}{d:Scope}{cw cn:Addr}
theorem U7(hg:Gl X "max")(hm:X.mg "max" = none)(y4:X.mg "len" = none)(hr:Room k X.A)(k1:X.calm=true)(U:LamOf X x g (.Tuple [.Subscript (.Name "numbers" G) (.Name "number" D) C,.UnaryOp .USub (.Call (.Name "len" w) [.Subscript (.Name "words" J) (.Name "number" B) E] [] F) M] O n) d "number" [("words",cw),("numbers",cn)])(q6:X.env.cells.lookup ("words" : Str)=some cw)(j8:X.env.cells.lookup ("numbers" : Str)=some cn)(j0:X.env.kindOf "words" = some .cell)(y2:X.env.kindOf "numbers" = some .cell)(hN:X.N[jw]? = some "words")(x6:X.N[jn]? = some "numbers")(j7:d.names.lookup ("words" : Str)=some .free)(x8:d.names.lookup ("numbers" : Str)=some .free)(q7:d.names.lookup ("len" : Str)=some .globalImplicit)(ha:PA X [e] t)(hs:Bl [e] X.env=[(false,eval e X.env)]:=by rfl):PE X (.Call (.Name "max" S) [e] [⟨some "key",.Lambda g (.Tuple [.Subscript (.Name "numbers" G) (.Name "number" D) C,.UnaryOp .USub (.Call (.Name "len" w) [.Subscript (.Name "words" J) (.Name "number" B) E] [] F) M] O n) d lp,kp⟩] pos) (IT X.K jn jw t):=by
 intro k8 s σ H Q I h
 refine Ft (Ld I hg hm (u:=.builtin "max") (by decide +kernel) ?_)
 refine Hs (Il (ha pos k8 s σ H _ I h) λus s1 ⟨vs,H1,I1,r1,w⟩=>?_) (by rw[hs]; rfl) (by rw[hs]; rfl)
 obtain ⟨wn,ww,y1,j3,p,Y,pn,T,pw,rs,kf,rfl,x0,q9,rfl,q5,rfl,j4,x4,j5,q⟩:=w
 obtain ⟨u,rfl,ru⟩:=vals1 r1
 cases ru
 obtain ⟨c,P,ht,h8⟩:=U.tab
 refine kws_cons (u5 I1 U.mem ht h8 U.qual U.dfl U.cl λf c' pm y8 H2 s2 V sm ho x5=>kws_nil ?_)
 have hs:Az=16777216:=Fc
 have cellOf:∀{nm:Str} {j:Nat} {b a:Addr},X.N[j]? = some nm->X.env.kindOf nm=some .cell->X.env.cells.lookup nm=some b->σ[j]? = some (some (.ref a))->s2.heap.IsCell b (some (.ref a)):=λ{nm j b a} h1 h2 h3 h4=>by
  obtain ⟨m,q1,hl⟩:=V.loc
  obtain ⟨u,ru,l⟩:=hl j nm (.ref a) h1 h4 (.inr (.inl h2))
  cases ru
  rcases l with ⟨W,_⟩ | ⟨W,c1,k7,h9⟩
  ·rw[h2] at W; cases W
  ·rw[h3] at k7; cases k7; exact h9
 have h5:=cellOf hN j0 q6 j3
 have h6:=cellOf x6 y2 j8 y1
 obtain ⟨its,rv,q8,hz⟩:=V.list (kM j4 sm)
 have e1:=Qr rv
 subst e1
 obtain ⟨fv,rf,y3,y9⟩:=V.list (kM x0 sm)
 obtain ⟨nv,rn,x3,y6⟩:=V.list (kM q5 sm)
 have lf:=rf.length
 rw[Ac] at lf
 obtain ⟨mb,x7,j2⟩:=V.mod.blt
 have j6:mb "len" = some (.builtin "len"):=(j2 "len" (by decide)).trans (by decide +kernel)
 have q3:∀(i:Nat) (v:Value),fv[i]? = some v->∃k t,Y[i]? = some k/\v=.int (k:Int) t:=λi v hv=>by
  have hi:i<Y.length:=by rw[lf]; exact (Af.mp hv).1
  obtain ⟨u,h1,t,h2⟩:=rf.get (i:=i) (x:=.int ((Y[i]:Nat):Int)) (by rw[Aq,Ag hi]; rfl)
  rw[hv] at h1
  cases h1
  exact ⟨Y[i],t,Ag hi,h2⟩
 refine xA (f:=f) (vs:=fv) (kl:=λi=>Pn T kf (Y.getD i 0)) (V.ok.hd k1) (show X.A.in1.units<cLine from Jn (show X.A.units+1<=X.A.units+64 by omega) hr.units) y3.isList (by rw[<- lf]; exact yG.mpr q9) (λi v hv hh tk h0 R hR=>?_) λi v h' k3 hv k6 q0 kk=>?_
 ·obtain ⟨k,t,W,rfl⟩:=q3 i v hv
  obtain ⟨b1,b2⟩:=x4 k (Au W)
  have gk:Y.getD i 0=k:=by rw[Br,W]; rfl
  obtain ⟨a,k9⟩ : ∃a,rs[k]? = some a:=⟨_,Ag b2⟩
  obtain ⟨ys,hy,x9⟩:=j5 k a k9
  obtain ⟨us,ru,pt,y7⟩:=V.tuple (E2 hy sm)
  have j1:=ru.length
  obtain ⟨z,k5⟩ : ∃z,T[k]? = some z:=⟨_,Ag b1⟩
  obtain ⟨zv,x2,tz,rfl⟩:=rn.get (i:=k) (x:=.int z) (by rw[Aq,k5]; rfl)
  have gz:T.getD k 0=z:=by rw[Br,k5]; rfl
  have k0:Fg s2.heap hh:=h0
  refine xH (x := "number") (show X.A.in1.depth<Oc from hr.depth) (k0 _ _ ho) ?_ ?_ (U.bind _ _ _ _) U.loc U.co U.gen U.kind U.cell λL k4 q1 q2 h7=>?_
  ·obtain ⟨c2,oc,y0,t2,e2,g3,g4⟩:=x5
   exact ⟨c2,oc,y0,t2,e2,k0 _ _ g3,g4⟩
  ·exact V.nolimit.keeps k0
  ·have Z:Fg s2.heap k4:=k0.trans q2
   obtain ⟨oL,nL,eL,rL⟩:=q8
   obtain ⟨oN,nN,eN,rN⟩:=x3
   obtain ⟨oc,ec,dc⟩:=h5
   obtain ⟨j9,q4,x1⟩:=h6
   obtain ⟨ot,et,dt⟩:=pt
   refine K5 (l:=pw) (ln:=pn) (r:=a) (us:=us) (its:=rs.map Bc) (ins:=nv) (i:=(k:Int)) (t:=t) (a:=z) (ta:=tz) U.kind U.loc j7 x8 q7 q1 rfl rfl ⟨oc,Z _ _ ec,dc⟩ rfl ⟨j9,Z _ _ q4,x1⟩ ((V.mod.glob.keeps V.bk).keeps Z) y4 ((x7.keeps V.bk).keeps Z) j6 (PlainL.isList ⟨oL,nL,Z _ _ eL,rL⟩) (PlainL.isList ⟨oN,nN,Z _ _ eN,rN⟩) (by omega) (by rw[Ac] at hz; omega) ?_ ?_ ⟨ot,Z _ _ et,dt⟩ (by omega) λt' k3=>?_
   ·rw[Cs,Kc,Aq,k9]; rfl
   ·rw[Cs,Kc]; exact x2
   ·refine hR _ _ _ _ (λb o e=>Ai _ (q2 b o e)) h7 (IsTup.new _ _) ?_
    show El [.int z tz,.int (-(us.length:Int)) t'] (Pn T kf (Y.getD i 0))
    unfold Pn
    rw[gk,gz,<- x9,j1]
    exact .cons _ _ (.cons _ _ .nil)
 ·obtain ⟨k,t,W,rfl⟩:=q3 i v hv
  have gk:Y.getD i 0=k:=by rw[Br,W]; rfl
  refine ⟨.int k,H2,V.kept (t':=k3) kk,⟨t,rfl⟩,q k H2 (Au W) sm (λy hy=>?_) ⟨i,W,λj x lt hx=>by
   have:=q0 j lt
   rw[gk,Br,hx] at this
   exact this⟩⟩
  obtain ⟨j,hj⟩:=Bx.mp hy
  have y5:=(Af.mp hj).1
  have:=k6 j (by omega)
  rw[gk,Br,hj] at this
  exact this
end
end Nd
namespace DL
open PySem PySem.Spec PyProof.Rows L2 Nd Ts
def Vn(ws:List (List Int))(i:Nat):Nat:=(ws.getD i []).length
def MB(jn jw:Nat)(x:DV)(d:DS)(P:DV->DS->Prop):Prop:=match x,d.sl[jn]?,d.sl[jw]? with
 | .dat _ (.list ds),some (.dat _ (.list es)),some (.dat _ (.list gs))=>∃(b:List Nat) (a:List Int) (c:List (List Int)),ds=b.map (λk:Nat=>Ah k)/\es=a.map Ah/\gs=c.map Bj/\b≠[]/\(∀k∈b,k<a.length/\k<c.length) /\
  ∀M∈b,(∀x∈b,HT.lexLt (Pn a (Vn c) M) (Pn a (Vn c) x)=false)->(∃i,b[i]? = some M/\∀(j x:Nat),j<i->b[j]? = some x->HT.lexLt (Pn a (Vn c) x) (Pn a (Vn c) M)=true)->P (.dat .ow (.int (M:Nat))) d
 | _,_,_=>False
def Y1(jn jw:Nat)(b:DE):DE:=λc P=>b c λx a=>MB jn jw x a P
section
variable{X:Cx}{e:Expr}{B:DE}{D kp pos lp s w l q r z t o n g:Pos}{C:Nat}{k jn jw:Nat}{x:Str}{f:Nu}{c:Scope}{cw cn:Addr}
theorem W9(hc:X.calm=true)(hr:Room k X.A)(hg:Gl X "max")(hm:X.mg "max" = none)(q2:X.mg "len" = none)(Lm:LamOf X x f (.Tuple [.Subscript (.Name "numbers" t) (.Name "number" o) n,.UnaryOp .USub (.Call (.Name "len" s) [.Subscript (.Name "words" w) (.Name "number" l) q] [] r) z] C g) c "number" [("words",cw),("numbers",cn)])(Z:X.env.cells.lookup ("words" : Str)=some cw)(h8:X.env.cells.lookup ("numbers" : Str)=some cn)(h3:X.env.kindOf "words" = some .cell)(q0:X.env.kindOf "numbers" = some .cell)(hN:X.N[jw]? = some "words")(k6:X.N[jn]? = some "numbers")(h7:c.names.lookup ("words" : Str)=some .free)(k7:c.names.lookup ("numbers" : Str)=some .free)(h0:c.names.lookup ("len" : Str)=some .globalImplicit)(ha:Ee X e B)(he:Bl [e] X.env=[(false,eval e X.env)]:=by rfl):Ee X (.Call (.Name "max" D) [e] [⟨some "key",.Lambda f (.Tuple [.Subscript (.Name "numbers" t) (.Name "number" o) n,.UnaryOp .USub (.Call (.Name "len" s) [.Subscript (.Name "words" w) (.Name "number" l) q] [] r) z] C g) c lp,kp⟩] pos) (Y1 jn jw B):=by
 refine PE.imp (U7 hg hm q2 hr hc Lm Z h8 h3 q0 hN k6 h7 k7 h0 (Gz ha Oz he) he) λσ H Q h=>?_
 obtain ⟨H0,Y,S,T,δ,P,rfl,hS,hA,hd,k⟩:=h
 refine ⟨H0,Y,S,T,δ,_,rfl,hS,hA,hd,λx J v F S' H' e1 e2 E p=>?_⟩
 unfold MB at p
 split at p
 ·rename_i m ds m' es m2 gs k8 k3
  obtain ⟨U,I,W,rfl,rfl,rfl,h1,k4,p⟩:=p
  have look:∀{j:Nat} {mm:Md} {d:Ad},J.sl[j]? = some (.dat mm d)->∃v G,(vs S)[j]? = some (some v)/\RdF X.K H' v d G:=λ{j mm d} hj=>by
   obtain ⟨⟨u,y,G⟩,es,ex⟩:=Ge e2 hj
   have ex:y=.dat mm d:=ex
   subst ex
   obtain ⟨v,ev,rd,_⟩:=E.ok _ (Ap _ (Au es))
   have ev:u=some v:=ev
   subst ev
   exact ⟨v,G,by rw[<- e1]; exact Jk es,rd⟩
  obtain ⟨vn,Gn,h6,k9⟩:=look k8
  obtain ⟨vw,Gw,k0,h4⟩:=look k3
  obtain ⟨an,xn,q5,rfl,h5,q1,_,_⟩:=k9.list_inv
  obtain ⟨rfl,_⟩:=q1.ints_inv
  obtain ⟨aw,xw,q3,rfl,h9,k5,_,q4⟩:=h4.list_inv
  obtain ⟨rs,rfl,L,_,c1,c2⟩:=Tx k5 rfl
  obtain ⟨a,xs,G',rfl,k2,ra,_,_⟩:=(E.told mem_mid).list_inv
  have k1:xs=U.map λk:Nat=>V.int k:=by
   have e9:(U.map λk:Nat=>Ah k)=(U.map λk:Nat=>(k:Int)).map Ah:=by rw[Bm]; rfl
   rw[e9] at ra
   obtain ⟨rfl,_⟩:=ra.ints_inv
   rw[Bm]
   rfl
  subst k1
  have h2:rs.length=W.length:=by rw[L,Ac]
  refine ⟨.ref an,.ref aw,h6,k0,a,U,an,I,aw,rs,Vn W,rfl,Kv.of k2,h1,rfl,Kv.of h5,rfl,Kv.of h9,λk hk=>by rw[h2]; exact k4 k hk,λi b hb=>?_,λM H1 hM sm O R=>?_⟩
  ·refine ⟨_,Ve.of (c1 b (Au hb)),?_⟩
   have : W[i]? = some (yY H' b):=by rw[L,Aq,hb]; rfl
   rw[Ac]
   show _=(W.getD i []).length
   rw[Br,this]
   rfl
  ·exact k _ J _ [] S' _ e1 e2 ((E.drop.grow sm (Ar _)).pushI (RdF.int _)) (p M hM O R)
 ·exact p.elim
end
end DL
namespace DL
open PySem PySem.Spec PyProof.Rows L2 Nd
def LD(K:PySem.W.Frag):V->List V->Hp->VK->Prop:=λx c H Q=>∃p b y d a j,x=.ref p/\c=[y]/\Kv K H p b/\RdV K H y d/\RdVs K H b a/\Bk a<=60/\a.findIdx? (λe=>Dw e d)=some j/\Q (.int (j:Nat)) H
theorem dR{X:Cx}{a:List (Addr×Obj)}{g:L2.St}{H:Hp}{s:Am}(I:Inv X a g H s){d:Ad}:∀{xs:List V} {f:List Ad} {us:List Value},RdVs X.K H xs f->Fs xs us->∀(j:Nat) (e:Ad) (u:Value),f[j]? = some e->us[j]? = some u->Mm X.K H d u=Dw e d
 | _,_,_,.nil,r,j,e,u,h1,h2=>by simp at h1
 | _,_,_,.cons h t,r,0,e,u,h1,h2=>by
  cases r with
  | cons c b =>
   simp at h1 h2
   subst h1 h2
   exact bZ I h c
 | _,_,_,.cons h t,r,j+1,e,u,h1,h2=>by
  cases r with
  | cons c b=>exact dR I t b j e u (by simpa using h1) (by simpa using h2)
theorem G8(W:X.A.units+64<cLine):NB X "list.index" (LD X.K):=by
 intro D s V H x xs v us Q I M L h
 obtain ⟨p,Z,y,d,g,j,rfl,rfl,G,E,c,hd,O,q⟩:=h
 cases M
 obtain ⟨u,rfl,J⟩:=vals1 L
 obtain ⟨a,r,R,hz⟩:=I.list G
 have l:X.A.in1.units+Bk g<cLine:=by have:=Uu X.A; omega
 obtain ⟨⟨P,S,t,T⟩,z,B,n,b⟩:=id R.isList
 simp only at B b
 subst B b
 have l1:=r.length
 have U:=c.length
 obtain ⟨f,e,i⟩:=List.findIdx?_eq_some_iff_getElem.mp O
 have Y:=Tb
 have o:j<a.toArray.size:=by rw[Av]; omega
 refine eI PySem.F.slot_list_index ⟨_,z,rfl⟩ PySem.F.entry_list_index (PySem.F.args_list_index_2 _ _)
  (PySem.SeqAt.list_indexAt p a.toArray n S T u (Mm X.K H d) j o (by omega) ?_ ?_) ⟨z,λw N=>Oo I E J c r l w (by simpa using N),⟨.int (j:Nat),H,I.tok _,⟨_,rfl⟩,q⟩⟩
 ·rw[dR I c r j g[j] _ (Ag f) (by simp [Ag (show j<a.length by omega)])]
  exact e
 ·intro m C k
  rw[Av] at C
  rw[dR I c r m (g[m]'(by omega)) _ (Ag _) (by simp [Ag C])]
  simpa using i m k
def X5(a:List Ad)(y:DV)(b:DS)(P:DV->DS->Prop):Prop:=match y with
 | .dat _ d=>Bk a<=60/\d.depth<=60/\∃j,a.findIdx? (λe=>Dw e d)=some j/\P (.dat .ow (.int (j:Nat))) b
 | _=>False
def N7(x:DV)(c:DS)(b:DE)(P:DV->DS->Prop):Prop:=match x with
 | .dat _ (.list ds)=>b c λy a=>X5 ds y a P
 | _=>False
def KF(c b:DE):DE:=λd P=>c d λx a=>N7 x a b P
section
variable{X:Cx}{o e:Expr}{f g:DE}{d c:Pos}
theorem nJ(M:X.A.units+64<cLine)(V:Ee X o f)(he:Ee X e g)
  (l:Po o "index" X.env (eval o X.env)=eval o X.env:=by rfl) (n:(d.endLine == c.line)=true:=by rfl)
  (p:((Gr c (Bl [e] X.env)).all (λx=>!x.1) && (backToKw c (Ue [] X.env)).all (λx=>x.1.isSome)
   && decide (([e]:List Expr).length+([]:List Pq).length+(if ([]:List Pq).isEmpty then 0 else 1)<30))=true:=by rfl)
  (E:Bl [e] X.env=[(false,eval e X.env)]:=by rfl):Ee X (.Call (.Attribute o "index" d) [e] [] c) (KF f g):=by
 refine PE.imp (sP PySem.F.plainAttrs_list PySem.F.slot_list_index PySem.F.type_list_index (G8 M) V (Gz he Oz E) l p n E rfl) λσ H Q h=>?_
 obtain ⟨C,Y,S,T,δ,P,rfl,J,Z,hd,k⟩:=h
 refine ⟨C,Y,S,T,δ,_,rfl,J,Z,hd,λx u v F N H1 e1 O q r=>?_⟩
 unfold N7 at r
 split at r
 ·rename_i m D
  obtain ⟨a,xs,G',rfl,t,ra,_,_⟩:=(q.told mem_mid).list_inv
  refine ⟨.inl ⟨rfl,xs,Kv.of t⟩,?_⟩
  refine ⟨C,Y,N,⟨some (.ref a),.dat m (.list D),F⟩::T,u,_,e1,O,q,r,λy z w G L H2 R U i s=>?_⟩
  unfold X5 at s
  split at s
  ·obtain ⟨I,d2,j,hj,K⟩:=s
   obtain ⟨b,W,G2,eb,B,rb,_,_⟩:=(i.told Ec).list_inv
   cases eb
   refine ⟨a,W,w,_,D,j,rfl,rfl,Kv.of B,(i.told mem_mid).rd (Ce d2 (by decide)),rb.rd (Ce I (by decide)),I,hj,?_⟩
   exact k _ z _ [] L _ R U (i.drop2.pushI (.int _)) K
  ·exact s.elim
 ·exact r.elim
end
end DL
namespace DL
open PySem L2 Nd
end DL
namespace Nd
open PySem PySem.Spec PyProof.Rows L2
end Nd
namespace DL
open PySem PySem.Spec PyProof.Rows L2 Nd
end DL
namespace NdS
open PySem
end NdS
namespace NdS
open PySem PyProof.Rows
end NdS
namespace Nd
open PySem PySem.Spec PyProof.Rows L2 NdS
end Nd
namespace Nd
open PySem L2
end Nd
namespace DL
open PySem PySem.Spec PyProof.Rows L2 Nd
end DL
namespace NdW
open PySem PyProof.Rows NdS
end NdW
namespace Nd
open PySem PySem.Spec PyProof.Rows L2 NdS NdW
end Nd
namespace DL
open PySem PySem.Spec PyProof.Rows L2 Nd
def GF(t u:DB)(D:DEnds)(b:Bool)(a:DS):Prop:=match b with
 | true=>t D a
 | false=>u D a
def KA(x:DV)(a:DS)(P:DV->DS->Prop):Prop:=match x with
 | .dat _ d=>imm d=true/\P (.dat .ow d) a
 | _=>False
def NN(i:Nat)(s:Option DV)(a:DS)(P:DV->DS->Prop):Prop:=match s with
 | some (.dat .pk _)=>False
 | some (.dat _ d)=>P (.dat .sh d) ⟨a.sl.set i (.dat .sh d),a.n⟩
 | _=>False
def tupB(xs:List DV)(b:DS)(P:DV->DS->Prop):Prop:=match datas xs with
 | some a=>a.length<=1000/\P (.dat (pkMd .sh xs) (.tuple a)) b
 | none=>False
def lstB(xs:List DV)(b:DS)(P:DV->DS->Prop):Prop:=match datas xs with
 | some a=>a.length<=1000/\P (.dat (pkMd .tp xs) (.list a)) b
 | none=>False
def AC(x:DV)(a:DS)(P:Option Int->DS->Prop):Prop:=match x with
 | .dat _ (.int i)=>P (some i) a
 | _=>False
def NF(i:Bool)(x:DV)(l h:Option Int)(a:DS)(P:DV->DS->Prop):Prop:=match x with
 | .dat m (.list ds)=>Xf i m (Ny ds l h) λz=>P z a
 | .dat m (.tuple ds)=>j7 i m (Ny ds l h) λz=>P z a
 | _=>False
def OD(xs:List DV)(b:DS)(P:DV->DS->Prop):Prop:=match xs with
 | [.dat _ (.list ds)]=>∃a:List Int,ds=a.map Ah/\(∀x∈a,0<=x/\x<60)/\P (.dat .ow (.list ((FV a).map Ah))) b
 | [.dat _ (.tuple ds)]=>∃a:List Int,ds=a.map Ah/\(∀x∈a,0<=x/\x<60)/\P (.dat .ow (.list ((FV a).map Ah))) b
 | _=>False
def bB(x:DV)(a:DS)(P:Bool->DS->Prop):Prop:=match x with
 | .dat _ (.bool b)=>P b a
 | _=>False
def JF(x:DV)(a:DS)(P:Bool->DS->Prop):Prop:=match x with
 | .dat _ d=>JG d/\P (V0 d) a
 | _=>False
def T3(c:DT)(b:Bool)(a:DS)(P:Bool->DS->Prop):Prop:=match b with
 | true=>c a P
 | false=>P false a
def LM(c:DT)(b:Bool)(a:DS)(P:Bool->DS->Prop):Prop:=match b with
 | true=>P true a
 | false=>c a P
def GS(x:DV)(a:DS)(P:DV->DS->Prop):Prop:=match x with
 | .dat _ (.bool b)=>P (.dat .ow (.bool (!b))) a
 | _=>False
def T9(b:DE)(x:DV)(a:DS)(P:DV->DS->Prop):Prop:=match x with
 | .dat _ (.bool true)=>b a P
 | .dat _ (.bool false)=>P (.dat .ow (.bool false)) a
 | _=>False
def NH(d c:DE)(b:Bool)(a:DS)(P:DV->DS->Prop):Prop:=match b with
 | true=>d a P
 | false=>c a P
def HB(x:DV)(a:DS)(P:DV->DS->Prop):Prop:=match x with
 | .dat _ (.int i)=>P (.dat .ow (.int (-i))) a
 | _=>False
def lB(x:DV)(a:DS)(P:Md->List Ad->DS->Prop):Prop:=match x with
 | .dat m (.list ds)=>P (Kx m) ds a
 | _=>False
def NC(x:DV)(a:DS)(P:Md->List Ad->DS->Prop):Prop:=match x with
 | .dat m (.tuple ds)=>P (Kx m) ds a
 | _=>False
def Z2(xs:List DV)(a:DS)(P:Md->List Ad->DS->Prop):Prop:=match xs with
 | [.dat _ (.int j)]=>-1000000<=j/\j<=1000000/\P .sh ((Bq j.toNat).map λi:Nat=>.int i) a
 | _=>False
def BH(xs:List DV)(a:DS)(P:Md->List Ad->DS->Prop):Prop:=match xs with
 | [.dat m (.list ds)]=>P (Kx m) (ds.zipIdx.map λp=>.tuple [.int p.2,p.1]) a
 | _=>False
def IP(xs:List DV)(a:DS)(P:Md->List Ad->DS->Prop):Prop:=match xs with
 | [.dat m (.list ds),.dat m' (.list es)]=>P (mdZip m m') ((ds.zip es).map λp=>.tuple [p.1,p.2]) a
 | _=>False
def JV(f:DG)(g:DB)(D:DEnds)(m:Md)(e:List Ad)(c:DS):Prop:=m=.sh/\∃I:Nat->DS->Prop,I 0 c /\
 (∀i d a,e[i]? = some d->I i a->f (.dat .sh d) a λb=>g { D with nx:=I (i+1),ct:=I (i+1),bk:=D.nx } b)/\∀a,I e.length a->D.nx a
def zS(g:List Nat)(h:DT)(j:DE)(P:DV->DS->Prop)(m:Md)(f:List Ad)(b:DS):Prop:=∃I:Nat->List Ad->Nat->Prop,I 0 [] b.n /\
 (∀i d a n,f[i]? = some d->I i a n->Qp h j ⟨.dat m d::frD b.sl g,n⟩ (λe c=>I (i+1) (a++[e]) c) (λc=>I (i+1) a c)) /\
 ∀a n,I f.length a n->P (.dat .ow (.list a)) ⟨b.sl,n⟩
def L6(j:List Nat)(k:DT)(l:DE)(P:DV->DS->Prop)(m:Md)(g:List Ad)(b:DS):Prop:=∃I:Nat->List Ad->Nat->Prop,I 0 [] b.n /\
 (∀i d a n,g[i]? = some d->I i a n->∃h f,d=.tuple [h,f]/\Qp k l ⟨.dat m h::.dat m f::frD b.sl j,n⟩ (λe c=>I (i+1) (a++[e]) c) (λc=>I (i+1) a c)) /\
 ∀a n,I g.length a n->P (.dat .ow (.list a)) ⟨b.sl,n⟩
def pF(g:List Nat)(h:DT)(j:DE)(P:DV->DS->Prop)(m:Md)(f:List Ad)(b:DS):Prop:=∃I:Nat->List Ad->Nat->Prop,I 0 [] b.n /\
 (∀i d a n,f[i]? = some d->I i a n->Ik false h j ⟨.dat m d::frD b.sl g,n⟩ (λe c=>I (i+1) (a++[e]) c) (λc=>I (i+1) a c)) /\
 ∀a n,I f.length a n->P (.dat .tp (.list a)) ⟨b.sl,n⟩
def kO(j:List Nat)(k:DT)(l:DE)(P:DV->DS->Prop)(m:Md)(g:List Ad)(b:DS):Prop:=∃I:Nat->List Ad->Nat->Prop,I 0 [] b.n /\
 (∀i d a n,g[i]? = some d->I i a n->∃h f,d=.tuple [h,f]/\Ik false k l ⟨.dat m h::.dat m f::frD b.sl j,n⟩ (λe c=>I (i+1) (a++[e]) c) (λc=>I (i+1) a c)) /\
 ∀a n,I g.length a n->P (.dat .tp (.list a)) ⟨b.sl,n⟩
def x3(js1:List Nat)(j0:Nat)(js2:List Nat)(g:DT)(h:DE)(P:DV->DS->Prop)(m:Md)(f:List Ad)(b:DS):Prop:=b.sl[j0]? = some .drw/\∃I:Nat->List Ad->Nat->Prop,I 0 [] b.n /\
 (∀i d a n,f[i]? = some d->I i a n->Qo (js1.length+1) g h ⟨.dat m d::(frD (b.sl.set j0 .un) js1++.drw::frD (b.sl.set j0 .un) js2),n⟩ (λe c=>I (i+1) (a++[e]) c) (λc=>I (i+1) a c)) /\
 ∀a n,I f.length a n->P (.dat .ow (.list a)) ⟨b.sl,n⟩
def O5(a:Ad->Nat->Prop)(y:DV)(b:DS):Prop:=match y with
 | .dat _ e=>imm e=true/\a e b.n
 | _=>False
def uA(f:DE)(a:Ad->Nat->Prop)(e:Nat->Prop)(b:Bool)(d:DS):Prop:=match b with
 | true=>f d λy c=>O5 a y c
 | false=>e d.n
def tR(a:Ad->Nat->Prop)(y:DV)(b:DS):Prop:=match y with
 | .dat m e=>m≠.pk/\a e b.n
 | _=>False
def t6(f:DE)(a:Ad->Nat->Prop)(e:Nat->Prop)(b:Bool)(d:DS):Prop:=match b with
 | true=>f d λy c=>tR a y c
 | false=>e d.n
def t9(p:Nat)(a:Ad->Nat->Prop)(y:DV)(b:DS):Prop:=match y with
 | .dat _ e=>imm e=true/\b.sl[p]? = some .drw/\a e b.n
 | _=>False
def F5(p:Nat)(f:DE)(a:Ad->Nat->Prop)(e:Nat->Prop)(b:Bool)(c:DS):Prop:=match b with
 | true=>f c λy d=>t9 p a y d
 | false=>c.sl[p]? = some .drw/\e c.n
def callB(c:PF)(xs:List DV)(b:DS)(P:DV->DS->Prop):Prop:=match datas xs with
 | some a=>c a λd=>P (.dat .ow d) b
 | none=>False
def callBW(i:Nat)(b:DF)(xs:List DV)(a:DS)(P:DV->DS->Prop):Prop:=match a.sl[i]? with
 | some .drw=>match datas xs with
  | some c=>b c a.n λd e=>P (.dat .ow d) ⟨a.sl,e⟩
  | none=>False
 | _=>False
def K0(xs:List DV)(a:DS)(P:DV->DS->Prop):Prop:=match xs with
 | [.dat _ (.int _)]=>P .drw a
 | _=>False
def revLB(x:DV)(a:DS)(P:DV->DS->Prop):Prop:=match x with
 | .dat _ (.list ds)=>Dl ds=true/\P (.dat .ow (.list ds.reverse)) a
 | _=>False
def appB(i:Nat)(y:DV)(a:DS)(D:DEnds):Prop:=match a.sl[i]?,y with
 | some (.dat m (.list ds)),.dat _ e=>own1 m=true/\npk a.sl=true/\imm e=true/\ds.length<1000000/\D.nx ⟨a.sl.set i (.dat m (.list (ds++[e]))),a.n⟩
 | _,_=>False
def setB(i:Nat)(y z:DV)(a:DS)(D:DEnds):Prop:=match a.sl[i]?,y,z with
 | some (.dat m (.list ds)),.dat _ e,.dat _ (.int k)=>own1 m=true/\npk a.sl=true/\imm e=true/\Dl ds=true/\∃j,yF ds.length k=some j/\D.nx ⟨a.sl.set i (.dat m (.list (ds.set j e))),a.n⟩
 | _,_,_=>False
def callAB(c:PF)(xs:List DV)(b:DS)(P:DV->DS->Prop):Prop:=match datas xs with
 | some a=>c a λd=>P (.dat .sh d) b
 | none=>False
def callWSD(b:DF)(ys:List DV)(a:DS)(P:DV->DS->Prop):Prop:=match datas ys with
 | some c=>b c a.n λd e=>P (.dat .sh d) ⟨a.sl,e⟩
 | none=>False
def JX(i:Nat)(ks:List (List Int×Ad))(f:DG)(g:DB)(D:DEnds)(e:DS):Prop:=∀a:Addr,∃I:Nat->DS->Prop,I 0 ⟨e.sl.set i (.dat .sh (.dict (Xn a ks))),e.n⟩ /\
 (∀j d b,(ks.map λp=>Bj p.1)[j]? = some d->I j b->f (.dat .sh d) b λc=>g { D with nx:=I (j+1),ct:=I (j+1),bk:=λ_=>False } c) /\
 ∀b,I ks.length b->b.sl[i]? = some (.dat .sh (.dict (Xn a ks)))/\(b.sl.set i .un).all gX=true/\D.nx ⟨b.sl.set i (.dat .ow (.dict (Rg ks))),b.n⟩
theorem e_maxL:Y1 jn jw b c P=(b c λx a=>MB jn jw x a P):=rfl
theorem e_idx:KF c b d P=(c d λx a=>N7 x a b P):=rfl
theorem e_idxB:N7 (.dat m (.list c)) d b P=(b d λy a=>X5 c y a P):=rfl
theorem e_idxC:X5 a (.dat m d) b P=(Bk a<=60/\d.depth<=60/\∃j,a.findIdx? (λe=>Dw e d)=some j/\P (.dat .ow (.int (j:Nat))) b):=rfl
theorem e_sortL:yQ j b c P=(b c λx a=>JK j x a P):=rfl
theorem e_seq:KC t u D b=(t { D with nx:=λa=>u D a } b):=rfl
theorem e_skip:AG D a=(D.nx a):=rfl
theorem e_ret:JA a D b=(a b D.rt):=rfl
theorem e_if:MZ dt t u D a=(dt a (GF t u D)):=rfl
theorem e_asg:iY d c D b=(d b λx a=>c x a D.nx):=rfl
theorem e_name{i:Nat}{m:Md}{d:Ad}{a:DS}{Q:DS->Prop}:Rx i (.dat .ow d) a Q=(Q ⟨a.sl.set i (.dat .sh d),a.n⟩):=rfl
theorem e_name2{i:Nat}{m:Md}{d:Ad}{a:DS}{Q:DS->Prop}:Rx i (.dat .sh d) a Q=(Q ⟨a.sl.set i (.dat .sh d),a.n⟩):=rfl
theorem e_name3{i:Nat}{m:Md}{d:Ad}{a:DS}{Q:DS->Prop}:Rx i (.dat .tp d) a Q=(Q ⟨a.sl.set i (.dat .sh d),a.n⟩):=rfl
theorem e_own:mP i (.dat .ow d) a Q=(Q ⟨a.sl.set i (.dat .ow d),a.n⟩):=rfl
theorem e_nF:GM false i x a Q=(Rx i x a Q):=rfl
theorem e_gtup:yJ n b (.dat m (.tuple a)) c Q=(a.length=n/\b (a.map λd=>.dat (Nm m) d) c Q):=rfl
theorem e_gsn:n9 [] a Q=(Q a):=rfl
theorem e_gsc:uE g c (x::r) b Q=(g x b λa=>c r a Q):=rfl
theorem e_op:Wj rd e d c P=(e c λx b=>d b λy a=>rd x y λz=>P z a):=rfl
theorem e_var:DX i a P=(match a.sl[i]? with | some (.dat m d)=>P (.dat (mE m) d) a | _=>False):=rfl
theorem e_c:dC d a P=(P (.dat .ow d) a):=rfl
theorem e_imm:JS c b P=(c b λx a=>KA x a P):=rfl
theorem e_immB:KA (.dat m d) a P=(imm d=true/\P (.dat .ow d) a):=rfl
theorem e_take:M4 i a P=(match a.sl[i]? with | some (.dat m d)=>P (.dat m d) ⟨a.sl.set i .un,a.n⟩ | _=>False):=rfl
theorem e_I:BY C g (.dat m (.int i)) (.dat a (.int j)) P=(C i j/\P (.dat .ow (g i j))):=rfl
theorem e_I0:iH g (.dat m (.int i)) (.dat a (.int j)) P=(P (.dat .ow (g i j))):=rfl
theorem e_bestK:aJ le lt [.dat m (.list b)] P=(∃a:Nat->Nat,b≠[]/\(∀i d,b[i]? = some d->DZ d=some (a i))/\∀i d,b[i]? = some d->(∀j,j<b.length->le (a i) (a j)/\(j<i->lt (a i) (a j)))->P (.dat (Nm m) d)):=rfl
theorem e_eqF:jG false (.dat m d) (.dat a e) P=(d.depth<=60/\e.depth<=60/\P (.dat .ow (.bool (Dw d e)))):=rfl
theorem e_eqT:jG true (.dat m d) (.dat a e) P=(d.depth<=60/\e.depth<=60/\P (.dat .ow (.bool (!Dw d e)))):=rfl
theorem e_inTl:rQ true (.dat m d) (.dat a (.list es)) P=(Bk es<=60/\d.depth<=60/\P (.dat .ow (.bool (!(es.any λe=>Dw e d))))):=rfl
theorem e_inFt_w1{a:List Int}{d:Ad}{es:List Ad}{m b:Md}{P:DV->Prop}:rQ false (.dat m d) (.dat b (Bj a)) P=(Bk (a.map Ah)<=60/\d.depth<=60/\P (.dat .ow (.bool ((a.map Ah).any λe=>Dw e d)))):=rfl
theorem e_inTt_w1{a:List Int}{d:Ad}{es:List Ad}{m b:Md}{P:DV->Prop}:rQ true (.dat m d) (.dat b (Bj a)) P=(Bk (a.map Ah)<=60/\d.depth<=60/\P (.dat .ow (.bool (!((a.map Ah).any λe=>Dw e d))))):=rfl
theorem e_isNF:sT false (.dat m d) (.dat a .none) P=(P (.dat .ow (.bool (Vt d)))):=rfl
theorem e_ixl:B5 (.dat m (.list a)) (.dat b (.int i)) P=(∃d,Ss a i=some d/\P (.dat (Nm m) d)):=rfl
theorem e_ixt:B5 (.dat m (.tuple a)) (.dat b (.int i)) P=(∃d,Ss a i=some d/\P (.dat (Nm m) d)):=rfl
theorem e_cat:tX (.dat m (.list a)) (.dat b (.list es)) P=(Dl a=true/\Dl es=true/\a.length+es.length<=1000000/\P (.dat .ow (.list (a++es)))):=rfl
theorem e_catT_w1{a:List Int}{c es:List Ad}{m b:Md}{P:DV->Prop}:iP (.dat m (Bj a)) (.dat b (.tuple es)) P=(Dl (a.map Ah)=true/\Dl es=true/\(a.map Ah).length+es.length<=1000000/\P (.dat .ow (.tuple ((a.map Ah)++es)))):=rfl
theorem e_rep:uH (.dat m (.list a)) (.dat b (.int k)) P=(Dl a=true /\ -1000000<=k/\k<=1000000/\a.length * k.toNat<=1000000/\P (.dat .ow (.list (Ci k.toNat a).flatten))):=rfl
theorem e_nlT:Xf true m a P=(Dl a=true/\P (.dat .ow (.list a))):=rfl
theorem e_nlF:Xf false m a P=(P (.dat (Xa m) (.list a))):=rfl
theorem e_pkOfsh  : mE .sh=(Md.sh):=rfl
theorem e_pkOfow  : mE .ow=(Md.pk):=rfl
theorem e_mdInsh  : Nm .sh=(Md.sh):=rfl
theorem e_mdIntp  : Nm .tp=(Md.sh):=rfl
theorem e_mdNewsh  : Xa .sh=(Md.tp):=rfl
theorem e_mdItsh  : Kx .sh=(Md.sh):=rfl
theorem e_mdIttp  : Kx .tp=(Md.sh):=rfl
theorem e_mdItow  : Kx .ow=(Md.sh):=rfl
theorem e_nil:HU a P=(P [] a):=rfl
theorem e_cons:AR e d c P=(e c λx b=>d b λxs a=>P (x::xs) a):=rfl
theorem e_tup:HA c b P=(c b λxs a=>tupB xs a P):=rfl
theorem e_lst:GQ c b P=(c b λxs a=>lstB xs a P):=rfl
theorem e_noPart:uQ a P=(P none a):=rfl
theorem e_part:Z9 c b P=(c b λx a=>AC x a P):=rfl
theorem e_partB:AC (.dat m (.int i)) a P=(P (some i) a):=rfl
theorem e_sl{i:Bool}{f:DE}{dl d:DO}{e:DS}{P:DV->DS->Prop}:MW i f dl d e P=(f e λx c=>dl c λl b=>d b λh a=>NF i x l h a P):=rfl
theorem e_slBl:NF i (.dat m (.list a)) l h b P=(Xf i m (Ny a l h) λz=>P z b):=rfl
theorem e_cb:FB rd b c P=(b c λxs a=>rd xs λz=>P z a):=rfl
theorem e_lenl{a:List Ad}{m b:Md}{P:DV->Prop}:vG [.dat m (.list a)] P=(P (.dat .ow (.int a.length))):=rfl
theorem e_lent_w1{a:List Int}{b:List Ad}{m c:Md}{P:DV->Prop}:vG [.dat m (Bj a)] P=(P (.dat .ow (.int (a.map Ah).length))):=rfl
theorem e_intb{i:Bool}{m a:Md}{P:DV->Prop}:B6 [.dat m (.bool i)] P=(P (.dat .ow (.int (if i=true then 1 else 0)))):=rfl
theorem e_max2:qQ [.dat m (.int i),.dat a (.int j)] P=(P (.dat .ow (.int (if j > i then j else i)))):=rfl
theorem e_MinL{a:List Ad}{m b:Md}{P:DV->Prop}:sG [.dat m (.list a)] P=(∃ns:List Int,a=ns.map Ah/\ns≠[]/\∀M∈ns,(∀x∈ns,M<=x)->P (.dat .ow (.int M))):=rfl
theorem e_MaxL{a:List Ad}{m b:Md}{P:DV->Prop}:pR [.dat m (.list a)] P=(∃ns:List Int,a=ns.map Ah/\ns≠[]/\∀M∈ns,(∀x∈ns,x<=M)->P (.dat .ow (.int M))):=rfl
theorem e_all{a:List Ad}{m b:Md}{P:DV->Prop}:yO [.dat m (.list a)] P=(∃bs:List Bool,a=bs.map PyData.bool/\P (.dat .ow (.bool (bs.all id)))):=rfl
theorem e_isi{d:Ad}{n:String}{m a:Md}{P:DV->Prop}:J1 [.dat m d,.val (.ty n)] P=((n = "int" \/ n = "bool" \/ n = "str" \/ n = "list" \/ n = "tuple")/\P (.dat .ow (.bool (Vx d n)))):=rfl
theorem e_str{d:Ad}{m a:Md}{P:DV->Prop}:i7 [.dat m d] P=((∃b,b<=400/\Oj b d/\(b+12) * Lk d<=Az)/\d.depth<=90/\P (.dat .ow (.str (jN d)))):=rfl
theorem e_v:dV v a P=(P (.val v) a):=rfl
theorem e_b:dB c b P=(c b λx a=>bB x a P):=rfl
theorem e_bB:bB (.dat m (.bool b)) a P=(P b a):=rfl
theorem e_tru:FW c b P=(c b λx a=>JF x a P):=rfl
theorem e_truB:JF (.dat m d) a P=(JG d/\P (V0 d) a):=rfl
theorem e_notT:AK dt c P=(dt c λb a=>P (!b) a):=rfl
theorem e_andT:AI dt d c P=(dt c λb a=>T3 d b a P):=rfl
theorem e_andTt:T3 b true a P=(b a P):=rfl
theorem e_andTf:T3 b false a P=(P false a):=rfl
theorem e_orT:JO dt d c P=(dt c λb a=>LM d b a P):=rfl
theorem e_orTf:LM b false a P=(b a P):=rfl
theorem e_not:GY c b P=(c b λx a=>GS x a P):=rfl
theorem e_notB:GS (.dat m (.bool b)) a P=(P (.dat .ow (.bool (!b))) a):=rfl
theorem e_and:HD d c b P=(d b λx a=>T9 c x a P):=rfl
theorem e_andt:T9 a (.dat m (.bool true)) b P=(a b P):=rfl
theorem e_andf:T9 b (.dat m (.bool false)) a P=(P (.dat .ow (.bool false)) a):=rfl
theorem e_ifE:HK dt e d c P=(dt c λb a=>NH e d b a P):=rfl
theorem e_neg:GU c b P=(c b λx a=>HB x a P):=rfl
theorem e_negB:HB (.dat m (.int i)) a P=(P (.dat .ow (.int (-i))) a):=rfl
theorem e_dL:dL c b P=(c b λx a=>lB x a P):=rfl
theorem e_dTp:ND c b P=(c b λx a=>NC x a P):=rfl
theorem e_lB:lB (.dat m (.list a)) b P=(P (Kx m) a b):=rfl
theorem e_tpB_w1{a:List Int}{m:Md}{c:List Ad}{b:DS}{P:Md->List Ad->DS->Prop}:NC (.dat m (Bj a)) b P=(P (Kx m) (a.map Ah) b):=rfl
theorem e_range1:mL c b P=(c b λxs a=>Z2 xs a P):=rfl
theorem e_rng1B:Z2 [.dat m (.int j)] a P=(-1000000<=j/\j<=1000000/\P .sh ((Bq j.toNat).map λi:Nat=>.int i) a):=rfl
theorem e_enum:K9 c b P=(c b λxs a=>BH xs a P):=rfl
theorem e_enumB:BH [.dat m (.list a)] b P=(P (Kx m) (a.zipIdx.map λp=>.tuple [.int p.2,p.1]) b):=rfl
theorem e_zip:Z3 c b P=(c b λxs a=>IP xs a P):=rfl
theorem e_zipB:IP [.dat m (.list a),.dat c (.list es)] b P=(P (mdZip m c) ((a.zip es).map λp=>.tuple [p.1,p.2]) b):=rfl
theorem e_for:JP c a b D d=(c d (JV a b D)):=rfl
theorem e_comp:i9 a b c e d P=(a d (zS b c e P)):=rfl
theorem e_comp2:rD a b c e d P=(a d (L6 b c e P)):=rfl
theorem e_compL:j6 a b c e d P=(a d (pF b c e P)):=rfl
theorem e_comp2L:uX a b c e d P=(a d (kO b c e P)):=rfl
theorem e_stepL:Ik false d g e a f=(d e λb c=>t6 g a f b c):=rfl
theorem e_stepLT:t6 d a e true c=(d c λy b=>tR a y b):=rfl
theorem e_glst:F9 n b (.dat m (.list a)) c Q=(a.length=n/\b (a.map λd=>.dat (Nm m) d) c Q):=rfl
theorem e_compD:jO c js1 j0 js2 a b d P=(c d (x3 js1 j0 js2 a b P)):=rfl
theorem e_noTest:kN a P=(P true a):=rfl
theorem e_step:Qp d g e a f=(d e λb c=>uA g a f b c):=rfl
theorem e_stepT:uA d a e true c=(d c λy b=>O5 a y b):=rfl
theorem e_stepF:uA d a c false b=(c b.n):=rfl
theorem e_yesB:O5 a (.dat m e) b=(imm e=true/\a e b.n):=rfl
theorem e_stepD:Qo p d g e a f=(d e λb c=>F5 p g a f b c):=rfl
theorem e_stepDT:F5 p d a e true c=(d c λy b=>t9 p a y b):=rfl
theorem e_yesBD:t9 p a (.dat m e) b=(imm e=true/\b.sl[p]? = some .drw/\a e b.n):=rfl
theorem e_call:AQ b c d P=(c d λxs a=>callB b xs a P):=rfl
theorem e_callW:rW i c d b P=(match b.sl[i]? with | some .drw=>d b λxs a=>callBW i c xs a P | _=>False):=rfl
theorem e_draws:x4 b c P=(b c λxs a=>K0 xs a P):=rfl
theorem e_drawsB:K0 [.dat m (.int i)] a P=(P .drw a):=rfl
theorem e_append:iL i c D a=(match a.sl[i]? with | some (.dat _ (.list _))=>c a λy b=>appB i y b D | _=>False):=rfl
theorem e_setI:Z8 i c e D d=(e d λy a=>match a.sl[i]? with | some (.dat _ (.list _))=>c a λz b=>setB i y z b D | _=>False):=rfl
theorem e_revL:Z7 b c P=(b c λx a=>revLB x a P):=rfl
theorem e_appendO:bT i c D a=(match a.sl[i]? with | some (.dat _ (.list _))=>c a λy b=>appOB i y b D | _=>False):=rfl
theorem e_stepK:x5 i e c d P=(e d λx b=>c b λz a=>jB i x z a P):=rfl
theorem e_stepKB:jB i (.dat m (.list a)) (.dat c (.int k)) b P=((k=1\/k = -1)/\Xf i m (if k=1 then a else a.reverse) λz=>P z b):=rfl
theorem e_scrSl{i:Nat}{dl d:DO}{a:DS}{P:DV->DS->Prop}:qM i dl d a P=(match a.sl[i]? with | some (.scr ns)=>dl a λl b=>d b λh c=>P (.dat .ow (.list ((Ny ns l h).map Ah))) c | _=>False):=rfl
theorem e_sortW:iB [.dat m (.list a)] P=(∃ws:List (List Int),a=ws.map Bj/\ws.length<64/\∀L:List (List Int),L.Perm ws->L.Pairwise (λx y=>HT.lexLt y x=false)->P (.dat .ow (.list (L.map Bj)))):=rfl
theorem e_dnew:BD a P=(P (.dat .ow (.dict (Rg []))) a):=rfl
theorem e_dput:X9 i c e D d=(e d λy a=>isDct a.sl[i]? = true/\c a λz b=>dputB i y z b D):=rfl
theorem e_dictZ:rE c b P=(c b λxs a=>iU xs a P):=rfl
theorem e_dictZB:iU [.dat m (.list a),.dat c (.list es)] b P=(a.length<=1000000/\Dl es=true/\∃ws:List (List Int),a=ws.map Bj/\P (.dat .ow (.dict (Rg (Sf [] (ws.zip es))))) b):=rfl
theorem e_tagD:T7 (Rg ks)=(true):=rfl
theorem e_inew:Y5 a P=(P (.dat .ow (.dict (Zz []))) a):=rfl
theorem e_iput:Y4 i c e D d=(e d λy a=>isIct a.sl[i]? = true/\c a λz b=>iputB i y z b D):=rfl
theorem e_getI:yW g e d f P=(g f λx c=>w5 x=true/\e c λy b=>d b λz a=>uN x y z a P):=rfl
theorem e_isIc2:w5 (.dat m (.dict (Zz ks)))=(true):=rfl
theorem e_tagI:vY (Zz ks)=(true):=rfl
theorem e_forN:Y9 i b c D a=(∃ks,a.sl[i]? = some (.dat .ow (.dict (Rg ks)))/\ks.length<=1000000/\JX i ks b c D a):=rfl
theorem e_sortK:aM [.dat m (.list a)] P=(∃ws:List (List Int),a=ws.map Bj/\ws.length<64/\∀L:List (List Int),L.Perm ws->L.Pairwise (λx y=>x.length<=y.length)->P (.dat .ow (.list (L.map Bj)))):=rfl
theorem e_MaxD:jT k [.dat m (.list a)] P=(∃ns:List Int,a=ns.map Ah/\(ns=[]->P (.dat .ow (.int k)))/\∀M∈ns,(∀x∈ns,x<=M)->P (.dat .ow (.int M))):=rfl
theorem e_callA:B9 b c d P=(c d λxs a=>noPk xs=true/\callAB b xs a P):=rfl
theorem e_callWS:uC b c d P=(c d λxs a=>kD b xs a P):=rfl
theorem e_callWSB:kD a (.drw::ys) b P=(noPk ys=true/\callWSD a ys b P):=rfl
section
variable{t u:DB}{D:DEnds}{c b:DS}
theorem Xe{k:Type}{m:DG}{n:DB}{o:List Ad}{l:List k}{g:k->Ad}(e:o=l.map g)(I:Nat->DS->Prop)(h0:I 0 b)(p:∀i a c,l[i]? = some a->I i c->m (.dat .sh (g a)) c λj=>n { D with nx:=I (i+1),ct:=I (i+1),bk:=D.nx } j)(s:∀c,I l.length c->D.nx c):JV m n D .sh o b:=by
 subst e
 refine ⟨rfl,I,h0,λi d c f r=>?_,λc h=>s c (by rw[Ac] at h; exact h)⟩
 rw[Aq] at f
 cases q:l[i]? with
 | none=>rw[q] at f; cases f
 | some a=>rw[q] at f; cases f; exact p i a c q r
end
section
variable{r:List Nat}{j:DT}{o:DE}{P:DV->DS->Prop}{m:Md}{k:List Ad}{b:DS}{c:Type}
theorem Wy{l:List c}{g:c->Ad}(e:k=l.map g)(p:c->Bool)(f:c->Ad)(h:∀a∈l,∀(u:Ad->Nat->Prop) (y:Nat->Prop),(p a=true->u (f a) b.n)->(p a=false->y b.n)->Qp j o ⟨.dat m (g a)::frD b.sl r,b.n⟩ u y)(q:P (.dat .ow (.list ((l.filter p).map f))) b):zS r j o P m k b:=by
 subst e
 refine ⟨λi s n=>n=b.n/\s=((l.take i).filter p).map f,⟨rfl,by simp⟩,λi d s n t ⟨v,w⟩=>?_,λs n ⟨v,w⟩=>?_⟩
 ·subst v w
  rw[Aq] at t
  cases q:l[i]? with
  | none=>rw[q] at t; cases t
  | some a =>
   rw[q] at t
   cases t
   refine h a (Au q) _ _ (λx=>⟨rfl,?_⟩) (λx=>⟨rfl,?_⟩)
   ·rw[Lj q,Fn,Bg]; simp [x]
   ·rw[Lj q,Fn,Bg]; simp [x]
 ·subst v w
  rw[Ac,Fp]
  exact q
theorem Mk{l:List c}{g:c->Ad}(e:k=l.map g)(f:c->Ad)(h:∀a∈l,∀(d:Ad->Nat->Prop) (i:Nat->Prop),d (f a) b.n->Qp j o ⟨.dat m (g a)::frD b.sl r,b.n⟩ d i)(q:P (.dat .ow (.list (l.map f))) b):zS r j o P m k b:=by
 refine Wy e (λ_=>true) f (λa p d i s _=>h a p d i (s rfl)) ?_
 rw[Pl.mpr λ_ _=>rfl]
 exact q
theorem aX{l:List c}{g1 g2:c->Ad}(e:k=l.map λa=>.tuple [g1 a,g2 a])(p:c->Bool)(f:c->Ad)(h:∀a∈l,∀(t:Ad->Nat->Prop) (x:Nat->Prop),(p a=true->t (f a) b.n)->(p a=false->x b.n)->Qp j o ⟨.dat m (g1 a)::.dat m (g2 a)::frD b.sl r,b.n⟩ t x)(q:P (.dat .ow (.list ((l.filter p).map f))) b):L6 r j o P m k b:=by
 subst e
 refine ⟨λi g n=>n=b.n/\g=((l.take i).filter p).map f,⟨rfl,by simp⟩,λi d g n s ⟨u,v⟩=>?_,λg n ⟨u,v⟩=>?_⟩
 ·subst u v
  rw[Aq] at s
  cases q:l[i]? with
  | none=>rw[q] at s; cases s
  | some a =>
   rw[q] at s
   cases s
   refine ⟨_,_,rfl,h a (Au q) _ _ (λw=>⟨rfl,?_⟩) (λw=>⟨rfl,?_⟩)⟩
   ·rw[Lj q,Fn,Bg]; simp [w]
   ·rw[Lj q,Fn,Bg]; simp [w]
 ·subst u v
  rw[Ac,Fp]
  exact q
theorem EO{l:List c}{g:c->Ad}(e:k=l.map g)(p:c->Bool)(f:c->Ad)(h:∀a∈l,∀(u:Ad->Nat->Prop) (y:Nat->Prop),(p a=true->u (f a) b.n)->(p a=false->y b.n)->Ik false j o ⟨.dat m (g a)::frD b.sl r,b.n⟩ u y)(q:P (.dat .tp (.list ((l.filter p).map f))) b):pF r j o P m k b:=by
 subst e
 refine ⟨λi s n=>n=b.n/\s=((l.take i).filter p).map f,⟨rfl,by simp⟩,λi d s n t ⟨v,w⟩=>?_,λs n ⟨v,w⟩=>?_⟩
 ·subst v w
  rw[Aq] at t
  cases q:l[i]? with
  | none=>rw[q] at t; cases t
  | some a =>
   rw[q] at t
   cases t
   refine h a (Au q) _ _ (λx=>⟨rfl,?_⟩) (λx=>⟨rfl,?_⟩)
   ·rw[Lj q,Fn,Bg]; simp [x]
   ·rw[Lj q,Fn,Bg]; simp [x]
 ·subst v w
  rw[Ac,Fp]
  exact q
theorem O8{l:List c}{g1 g2:c->Ad}(e:k=l.map λa=>.tuple [g1 a,g2 a])(p:c->Bool)(f:c->Ad)(h:∀a∈l,∀(t:Ad->Nat->Prop) (x:Nat->Prop),(p a=true->t (f a) b.n)->(p a=false->x b.n)->Ik false j o ⟨.dat m (g1 a)::.dat m (g2 a)::frD b.sl r,b.n⟩ t x)(q:P (.dat .tp (.list ((l.filter p).map f))) b):kO r j o P m k b:=by
 subst e
 refine ⟨λi g n=>n=b.n/\g=((l.take i).filter p).map f,⟨rfl,by simp⟩,λi d g n s ⟨u,v⟩=>?_,λg n ⟨u,v⟩=>?_⟩
 ·subst u v
  rw[Aq] at s
  cases q:l[i]? with
  | none=>rw[q] at s; cases s
  | some a =>
   rw[q] at s
   cases s
   refine ⟨_,_,rfl,h a (Au q) _ _ (λw=>⟨rfl,?_⟩) (λw=>⟨rfl,?_⟩)⟩
   ·rw[Lj q,Fn,Bg]; simp [w]
   ·rw[Lj q,Fn,Bg]; simp [w]
 ·subst u v
  rw[Ac,Fp]
  exact q
theorem qT{l:List c}{g:c->Ad}(e:k=l.map g)(f:c->Ad)(h:∀a∈l,∀(d:Ad->Nat->Prop) (i:Nat->Prop),d (f a) b.n->Ik false j o ⟨.dat m (g a)::frD b.sl r,b.n⟩ d i)(q:P (.dat .tp (.list (l.map f))) b):pF r j o P m k b:=by
 refine EO e (λ_=>true) f (λa p d i s _=>h a p d i (s rfl)) ?_
 rw[Pl.mpr λ_ _=>rfl]
 exact q
theorem T6{l:List c}{g1 g2:c->Ad}(e:k=l.map λa=>.tuple [g1 a,g2 a])(f:c->Ad)(h:∀a∈l,∀(d:Ad->Nat->Prop) (g:Nat->Prop),d (f a) b.n->Ik false j o ⟨.dat m (g1 a)::.dat m (g2 a)::frD b.sl r,b.n⟩ d g)(q:P (.dat .tp (.list (l.map f))) b):kO r j o P m k b:=by
 refine O8 e (λ_=>true) f (λa i d g p _=>h a i d g (p rfl)) ?_
 rw[Pl.mpr λ_ _=>rfl]
 exact q
theorem aF{js1 js2:List Nat}{j0:Nat}{l:List c}{g:c->Ad}(e:k=l.map g)(s:b.sl[j0]? = some .drw)(I:Nat->List Ad->Nat->Prop)(h0:I 0 [] b.n)(h:∀i a f n,l[i]? = some a->I i f n->Qo (js1.length+1) j o ⟨.dat m (g a)::(frD (b.sl.set j0 .un) js1++.drw::frD (b.sl.set j0 .un) js2),n⟩ (λe n'=>I (i+1) (f++[e]) n') (λn'=>I (i+1) f n'))(q:∀f n,I l.length f n->P (.dat .ow (.list f)) ⟨b.sl,n⟩):x3 js1 j0 js2 j o P m k b:=by
 subst e
 refine ⟨s,I,h0,λi d f n p r=>?_,λf n r=>q f n (by rw[Ac] at r; exact r)⟩
 rw[Aq] at p
 cases q:l[i]? with
 | none=>rw[q] at p; cases p
 | some a=>rw[q] at p; cases p; exact h i a f n q r
end
theorem Xq(h1:b=true->t D a)(c:b=false->u D a):GF t u D b a:=by
 cases b with
 | true=>exact h1 rfl
 | false=>exact c rfl
theorem AE(h1:b=true->d a P)(e:b=false->c a P):NH d c b a P:=by
 cases b with
 | true=>exact h1 rfl
 | false=>exact e rfl
theorem Yr(h1:b=true->c a P)(d:b=false->P false a):T3 c b a P:=by
 cases b with
 | true=>exact h1 rfl
 | false=>exact d rfl
theorem JE(h1:b=true->P true a)(d:b=false->c a P):LM c b a P:=by
 cases b with
 | true=>exact h1 rfl
 | false=>exact d rfl
theorem CG(h1:b=true->c a P)(d:b=false->P (.dat .ow (.bool false)) a):T9 c (.dat m (.bool b)) a P:=by
 cases b with
 | true=>exact h1 rfl
 | false=>exact d rfl
theorem Kj(h1:b=true->f c λy d=>O5 a y d)(g:b=false->e c.n):uA f a e b c:=by
 cases b with
 | true=>exact h1 rfl
 | false=>exact g rfl
class Im (d:Ad):Prop where
 h:imm d=true
class ImA (ds:List Ad):Prop where
 h:Dl ds=true
theorem im[h:Im d]:imm d=true:=h.h
theorem NT[h:ImA a]:Dl a=true:=h.h
instance {i:Int}:Im (.int i):=⟨by simp [imm]⟩
instance {i:Bool}:Im (.bool i):=⟨by simp [imm]⟩
instance {i:Str}:Im (.str i):=⟨by simp [imm]⟩
instance:Im .none:=⟨by simp [imm]⟩
instance {ds:List Ad} [h:ImA ds]:Im (.tuple ds):=⟨by rw[imm]; exact h.h⟩
instance {ns:List Int}:Im (Bj ns):=⟨lQ ns⟩
instance:ImA []:=⟨by simp [Dl]⟩
instance {d:Ad} {ds:List Ad} [h:Im d] [t:ImA ds]:ImA (d::ds):=⟨by rw[Dl,h.h,t.h]; rfl⟩
instance {α:Type} {f:α->Ad} {l:List α} [h:∀a,Im (f a)]:ImA (l.map f):=⟨We (λa=>(h a).h) l⟩
instance {a b:List Ad} [h:ImA a] [k:ImA b]:ImA (a++b):=⟨by rw[dI,h.h,k.h]; rfl⟩
class Dp (d:Ad) (k:outParam Nat):Prop where
 h:d.depth<=k
class DpA (ds:List Ad) (k:outParam Nat):Prop where
 h:Bk ds<=k
theorem dp[h:Dp d k](a:k<=60:=by decide):d.depth<=60:=Ce h.h a
instance {i:Int}:Dp (.int i) 0:=⟨by simp [Cm]⟩
instance {i:Bool}:Dp (.bool i) 0:=⟨by simp [Cm]⟩
instance {i:Str}:Dp (.str i) 0:=⟨by simp [Cm]⟩
instance:Dp .none 0:=⟨by simp [Cm]⟩
instance {ds:List Ad} {k:Nat} [h:DpA ds k]:Dp (.tuple ds) (k+1):=⟨by have:=h.h; simp only[Cm]; omega⟩
instance {ds:List Ad} {k:Nat} [h:DpA ds k]:Dp (.list ds) (k+1):=⟨by have:=h.h; simp only[Cm]; omega⟩
instance {ns:List Int}:Dp (Bj ns) 1:=⟨rF ns⟩
instance:DpA [] 0:=⟨by simp [Bk]⟩
instance {d:Ad} {ds:List Ad} {k j:Nat} [h:Dp d k] [t:DpA ds j]:DpA (d::ds) (k+j):=⟨by have:=h.h; have:=t.h; simp only[Bk]; omega⟩
instance {α:Type} {f:α->Ad} {l:List α} {k:Nat} [h:∀a,Dp (f a) k]:DpA (l.map f) k:=⟨Zk λx hx=>by
 obtain ⟨a,_,rfl⟩:=Bh.mp hx
 exact (h a).h⟩
theorem hU:Bk (a++b)<=Bk a+Bk b:=by
 induction a with
 | nil=>simp [Bk]
 | cons x a c=>simp only[Ez,Bk]; omega
instance {a b:List Ad} {k j:Nat} [h:DpA a k] [t:DpA b j]:DpA (a++b) (k+j):=⟨by have:=h.h; have:=t.h; have:=hU (a:=a) (b:=b); omega⟩
theorem eqD_bl(i j:Bool):Dw (.bool i) (.bool j)=(i == j):=by simp [Dw]
theorem eqD_str(i j:Str):Dw (.str i) (.str j)=(i == j):=by simp [Dw]
theorem B8(a b:List Ad):Dw (.list a) (.list b)=Mi a b:=by simp [Dw]
theorem uG(a b:List Ad):Dw (.tuple a) (.tuple b)=Mi a b:=by simp [Dw]
theorem xO(x y:Ad)(a b:List Ad):Mi (x::a) (y::b)=(Dw x y && Mi a b):=by simp [Mi]
theorem F4:Mi [] []=true:=by simp [Mi]
theorem cV{c:Type}[DecidableEq c]{f:c->Ad}(h:∀a b,Dw (f a) (f b)=decide (a=b)):∀l m:List c,Mi (l.map f) (m.map f)=decide (l=m)
 | [],[]=>by simp [Mi]
 | [],_::_=>by simp [Mi]
 | _::_,[]=>by simp [Mi]
 | a::l,b::m=>by simp [Mi,h,cV h l m]
theorem eqD_intd(i j:Int):Dw (.int i) (.int j)=decide (i=j):=by simp [Dw]; rfl
theorem Xi(a b:List Int):Dw (Bj a) (Bj b)=decide (a=b):=by
 unfold Bj
 rw[uG,cV eqD_intd]
def wordsD(ws:List (List Int)):Ad:=.list (ws.map Bj)
instance {ws:List (List Int)}:Dp (wordsD ws) 2:=⟨(inferInstance:Dp (.list (ws.map Bj)) 2).h⟩
def vD(ns:List Int):Ad:=.list (ns.map Ah)
instance {ns:List Int}:Dp (vD ns) 1:=⟨(inferInstance:Dp (.list (ns.map Ah)) 1).h⟩
theorem j8(a b:List Int):Dw (vD a) (vD b)=decide (a=b):=by
 unfold vD
 rw[B8,cV eqD_intd]
theorem any_int(ns:List Int)(i:Int):((ns.map Ah).any λe=>Dw e (.int i))=decide (i∈ns):=by
 rw[Pp]
 induction ns with
 | nil=>rfl
 | cons n ns a =>
  rw[Hl,a]
  simp only[Vq,eqD_intd,Ao]
  by_cases h:n=i
  ·subst h; simp
  ·have : ¬ i=n:=λz=>h z.symm
   simp [h,this]
theorem any_map{c:Type}[DecidableEq c]{f:c->Ad}(h:∀a b,Dw (f a) (f b)=decide (a=b))(l:List c)(a:c):((l.map f).any λe=>Dw e (f a))=decide (a∈l):=by
 rw[Pp]
 induction l with
 | nil=>rfl
 | cons n g d =>
  rw[Hl,d]
  simp only[Vq,h,Ao]
  by_cases h:n=a
  ·subst h; simp
  ·have : ¬ a=n:=λz=>h z.symm
   simp [h,this]
theorem any_word(ws:List (List Int))(a:List Int):((ws.map Bj).any λe=>Dw e (Bj a))=decide (a∈ws):=(any_map Xi ws a).trans (decide_eq_decide.mpr Iff.rfl)
theorem zip_map{a b:Type}(f:a->b)(l:List a):(l.map f).zipIdx=l.zipIdx.map λp=>(f p.1,p.2):=by
 rw[List.zipIdx_map]
 rfl
theorem Uq(f:a->b)(l:List a)(i:Int):Ss (l.map f) i=(Ss l i).map f:=by
 unfold Ss
 rw[Ac]
 cases yF l.length i with
 | none=>rfl
 | some j=>simp
theorem Pc{c:Type}{l:List c}{i:Int}(h0:0<=i)(h1:i<l.length):∃a,l[i.toNat]? = some a/\Ss l i=some a/\a∈l:=by
 have b:i.toNat<l.length:=by omega
 refine ⟨l[i.toNat],by simp [b],?_,Kz b⟩
 have q:Ss l ((i.toNat:Nat):Int)=some l[i.toNat]:=Oh (by simp [b])
 rwa [show ((i.toNat:Nat):Int)=i by omega] at q
theorem im_e[h:Im d]:(imm d=true)=True:=eq_true h.h
theorem ima_e[h:ImA a]:(Dl a=true)=True:=eq_true h.h
theorem dp_e[h:Dp d k](a:k<=60):(d.depth<=60)=True:=eq_true (Ce h.h a)
theorem dpa_e[h:DpA a k](b:k<=60):(Bk a<=60)=True:=eq_true (Ce h.h b)
theorem eqD_li(a b:List Int):Dw (.list (a.map Ah)) (.list (b.map Ah))=decide (a=b):=j8 a b
theorem eqD_l0(a:List Ad):Dw (.list a) (.list [])=a.isEmpty:=S7 a
theorem ow_e{d:Ad}{R:Ad->Prop}:(∃e,DV.dat .ow d=.dat .ow e/\R e)=R d:=by
 apply propext
 constructor
 ·(intro a; obtain ⟨e,h,r⟩ := a); cases h; exact r
 ·intro r; exact ⟨d,rfl,r⟩
theorem tt_e:(∃a,DV.dat m (.bool b)=.dat a (.bool true))=(b=true):=by
 apply propext
 constructor
 ·rintro ⟨e,h⟩; cases h; rfl
 ·intro r; subst r; exact ⟨m,rfl⟩
theorem cdiv_e:FG i j=(0<j/\j<1073741824):=rfl
theorem cpow_e:O6 i j=(0<=j/\j<=1000000/\i.natAbs<2 ^ 64):=rfl
theorem GX(J:DS->Prop)(h:∀N:DS->Prop,(∀a,J a->N a)->GF t u { D with nx:=N } b c)(k:∀a,J a->D.nx a):GF t u D b c:=h D.nx k
theorem lI(h:b=a)(h':n=n'):(⟨b,n⟩ : DS)=⟨a,n'⟩:=by subst h h'; rfl
theorem Ox(h:(Bq j)[i]? = some a):a=i/\i<j:=by
 obtain ⟨b,c⟩:=Af.mp h
 rw[Co] at b
 rw[List.getElem_range] at c
 exact ⟨c.symm,b⟩
def NP(v:DV):Prop:=∀l,npk (v::l)=npk l
theorem He:NP .un:=λ_=>rfl
theorem Fl:NP (.dat .sh d):=λ_=>rfl
theorem Z5:NP (.dat .ow d):=λ_=>rfl
theorem JC(x y:a)(b:Bool):Ss [x,y] (if b=true then 1 else 0)=some (if b=true then y else x):=by cases b <;> rfl
theorem isi_ib(i:Int):Vx (.int i) "bool" = false:=by simp [Vx,uU]
theorem isi_bb(i:Bool):Vx (.bool i) "bool" = true:=by simp [Vx,uU]
theorem IG{ns:List Int}(k:Nat):(Ny ns none (some (k:Int))).length<=k:=by
 rw[gO,Fq]
 exact Nat.min_le_left _ _
theorem ifB_lt:GF t u D true a=t D a:=rfl
theorem ifB_lf:GF t u D false a=u D a:=rfl
theorem str_self(s:Str):(s == s)=true:=by simp
theorem Ml{c:Type}{l:List c}{i:Nat}{a:c}(h:l[i]? = some a):Ss l (i:Int)=some a:=by
 obtain ⟨b,d,e,_⟩:=Pc (l:=l) (i:=(i:Int)) (by omega) (by have:=(Af.mp h).1; omega)
 rw[e,<- d,<- h]; rfl
theorem okT_l:JG (.list a)=True:=rfl
theorem yesL_ow:tR a (.dat .ow e) b=a e b.n:=propext ⟨λh=>h.2,λh=>⟨by decide,h⟩⟩
theorem yesL_sh:tR a (.dat .sh e) b=a e b.n:=propext ⟨λh=>h.2,λh=>⟨by decide,h⟩⟩
theorem zQ(h1:m≠.pk)(c:b≠.pk):Yn (.dat m (.list a)) (.dat b (.list es)) P=(a.length+es.length<=1000000/\P (.dat .tp (.list (a++es)))):=propext ⟨λh=>h.2.2,λh=>⟨h1,c,h⟩⟩
theorem catL_owtp:Yn (.dat .ow (.list a)) (.dat .tp (.list es)) P=(a.length+es.length<=1000000/\P (.dat .tp (.list (a++es)))):=zQ (by decide) (by decide)
theorem catL_shtp:Yn (.dat .sh (.list a)) (.dat .tp (.list es)) P=(a.length+es.length<=1000000/\P (.dat .tp (.list (a++es)))):=zQ (by decide) (by decide)
theorem atI_0(x:a)(l:List a):Ss (x::l) 0=some x:=Ml (i:=0) rfl
theorem atI_1(x y:a)(l:List a):Ss (x::y::l) 1=some y:=Ml (i:=1) rfl
theorem some_e{b:Type}{a:b}{R:b->Prop}:(∃d,some a=some d/\R d)=R a:=propext ⟨λ⟨_,e,h⟩=>by cases e; exact h,λh=>⟨a,rfl,h⟩⟩
theorem dec_self{b:Type}(a:b)[h:Decidable (a=a)]:decide (a=a)=true:=by simp
theorem eqD_tup1(s t:Str):Dw (.tuple [.str s]) (.tuple [.str t])=(s == t):=by rw[uG,xO,F4,eqD_str,Bool.and_true]
theorem ik_e{ks:List (Int×Ad)}{w:Int}{Q:List (Int×Ad)->Int->Prop}:(∃ks' a,Zz ks=Zz ks'/\Ah w=Ah a/\Q ks' a)=Q ks w:=propext ⟨λ⟨ks',a,c,b,h⟩=>by cases Xj c; cases b; exact h,λh=>⟨ks,w,rfl,rfl,h⟩⟩
theorem getI_e:uN (.dat m (.dict (Zz ks))) (.dat g (.int w)) (.dat c e) a P=(imm e=true/\P (.dat .ow ((Qk ks w).getD e)) a):=propext ⟨λ⟨b,i,f,d,h⟩=>by cases Xj f; cases d; exact h,λh=>⟨ks,w,rfl,rfl,h⟩⟩
theorem dgetN_e:aR (.dat m (.dict (Xn a ks))) (.dat f (Bj w)) P=∃d,Zt ks w=some d/\P (.dat .ow d):=propext ⟨λ⟨g,b,i,d,c,e,h⟩=>by obtain ⟨_,rfl⟩:=tH c; cases Th e; exact ⟨d,h⟩,λ⟨d,h⟩=>⟨a,ks,w,d,rfl,rfl,h⟩⟩
theorem dk_e{ks:List (List Int×Ad)}{w:List Int}{Q:List (List Int×Ad)->List Int->Prop}:(∃ks' a,Rg ks=Rg ks'/\Bj w=Bj a/\Q ks' a)=Q ks w:=propext ⟨λ⟨ks',a,c,b,h⟩=>by cases Um c; cases Th b; exact h,λh=>⟨ks,w,rfl,rfl,h⟩⟩
theorem dget_e:jU (.dat m (.dict (Rg ks))) (.dat e (Bj w)) P=∃d,Zt ks w=some d/\P (.dat .ow d):=propext ⟨λ⟨a,f,d,b,c,h⟩=>by cases Um b; cases Th c; exact ⟨d,h⟩,λ⟨d,h⟩=>⟨ks,w,d,rfl,rfl,h⟩⟩
theorem retA_tp{d:Ad}{R:Ad->Prop}:(∃m d',DV.dat .tp d=.dat m d'/\m≠.pk/\R d')=R d:=propext ⟨λ⟨m,d',e,_,h⟩=>by cases e; exact h,λh=>⟨_,_,rfl,by decide,h⟩⟩
theorem ow_npk:(Md.ow≠Md.pk)=True:=eq_true (by decide)
end DL
namespace K39
open PySem L2 Nd DL
def Qj(i:Nat):Stmt:=PySem.Challenge.pw_needledeck_k39_whole_one_thing_other.main.body.getD i (.Pass ⟨0,0,0,0⟩)
abbrev Vu:Stmt:=Qj 1
abbrev dD:Stmt:=Qj 2
abbrev Tv:Stmt:=Qj 3
abbrev Yz:Stmt:=Qj 5
abbrev Wd:Stmt:=Qj 6
abbrev Rl:Stmt:=Qj 7
abbrev Rz:Stmt:=Qj 8
abbrev jL:Stmt:=Qj 9
abbrev Qi:Stmt:=Qj 10
abbrev Ql:Stmt:=Qj 11
abbrev Lh:Stmt:=Qj 12
abbrev cU:Stmt:=Qj 13
abbrev Yh:Stmt:=Qj 14
abbrev Pf:Stmt:=Qj 15
abbrev cQ:Stmt:=Qj 16
abbrev iF:Stmt:=Qj 18
abbrev vB:Stmt:=Qj 19
abbrev Ro:Stmt:=Qj 20
abbrev Tz:Stmt:=Qj 21
abbrev Rw:Stmt:=Qj 22
abbrev Nc:Stmt:=Qj 23
abbrev Lg:Stmt:=Qj 24
abbrev Lz:Stmt:=Qj 25
abbrev Jt:Stmt:=Qj 26
abbrev Qh:Stmt:=Qj 27
abbrev Rc:Stmt:=Qj 28
abbrev Sz:Stmt:=Qj 29
abbrev Mc:Stmt:=Qj 30
abbrev Zy:Stmt:=Qj 31
section
variable{P:Bp}{w:World}{K:PySem.W.Frag}{mg:Str->Option Value}{base:Heap}
theorem OC:FnScope ["_law_cell"] ["_law_cell"] (Bv iF):=⟨rfl,rfl,rfl,by decide +kernel,rfl,by decide +kernel,by decide +kernel⟩
theorem M8(F:Fun K "_law_draws" "_law_draws" iF f d):FnOk P w K mg base Gv 1 f d ["_law_cell"] Xm:=by
 refine F.ok OC (λvs H Q E h=>?_) (λe A b s H vs Q E g h=>?_)
 ·obtain ⟨c,rfl,_⟩:=h
  rfl
 obtain ⟨c,rfl,q⟩:=h
 refine ⟨_,Mb (C8 (uS J0 (pv 0) (Ju kF Ew Ew) (Rh _)) (Up (cF (jC (Gz (Ju Wg (pv 0) (Ju W3 (Ju kF Ew Ew) Ew)) (Gz Ew (Gz e8 Oz)))))) gZ)
  (Up (cF (jC (Gz (Ju Wg (pv 0) Ew) (Gz Ew (Gz e8 Oz)))))),?_⟩
 refine ⟨_,rfl,10,18,rfl,rfl,⟨by decide,by decide,by decide⟩,_,_,rfl,rfl,_,rfl,ID (λ_=>?_) (λ_=>?_)⟩
 ·refine ⟨_,rfl,10,60,rfl,rfl,⟨by decide,by decide,by decide⟩,_,16,rfl,rfl,⟨by decide,by show (Builtin.Int.intBits (10 ^ (60:Int).toNat):Int) * 16<=2 ^ 27; decide +kernel⟩,_,_,rfl,rfl,(by show (0:Int)<(10 ^ (60:Int).toNat) ^ (16:Int).toNat; decide +kernel),(by show 3<=Az; decide),λp a=>?_⟩
  exact q p _ _ _ a Dq (Gi a _)
 ·refine ⟨_,rfl,_,_,rfl,rfl,(by show (0:Int)<1000003; decide),(by show 3<=Az; decide),λp a=>?_⟩
  exact q p _ _ _ a Dq (Gi a _)
theorem NY:FnScope ["_law_draws_here", "_law_k", "_law_number"] ["_law_draws_here"] (Bv vB):=⟨rfl,rfl,rfl,by decide +kernel,rfl,by decide +kernel,by decide +kernel⟩
theorem S5(F:Fun K "_law_next" "_law_next" vB f m):FnOk P w K mg base Gv 1 f m ["_law_draws_here"] zK:=by
 refine F.ok NY (λvs H Q E h=>?_) (λn A e s H vs Q E p h=>?_)
 ·obtain ⟨d,c,k,b,rfl,_⟩:=h
  rfl
 obtain ⟨d,c,k,b,rfl,j,r,o,q⟩:=h
 refine ⟨_,Mb (iW (Ju bC (Sg Ng (pv 0) Ew (λ_ _=>rfl)) Ew) (sH (pv 0) Ew bK))
  (Mb (C8 (zZ (Sg Ng (pv 0) Ew (λ_ _=>rfl)))
   (Mb (Yg (i:=2) NY.nd rfl (Cy rfl) (Ju Wg (Sg Ng (pv 0) Ew (λ_ _=>rfl)) (Ju kF Ew Ew)))
    (Mb (iW (Ju iO (Sg Ng (pv 0) Ew (λ_ _=>rfl)) (Ju kF Ew Ew)) (sH (pv 0) Ew bK))
    (Up (cF (pv 2))))) gZ)
  (Mb (Yg (i:=1) NY.nd rfl (Cy rfl) (Sg Ng (pv 0) Ew (λ_ _=>rfl)))
  (Mb (Yg (i:=2) NY.nd rfl (Cy rfl) (Ju Wg (Ju Ye (Ju bC (Ju bC (Sg Ng (pv 0) Ew (λ_ _=>rfl)) (Ju Ye (Ju Ye (pv 1) (pv 1)) Ew)) (pv 1)) Ew) Ew))
  (Mb (Yg (i:=2) NY.nd rfl (Cy rfl) (Ju Wg (Ju Ye (pv 2) (pv 2)) Ew))
  (Up (cF (Ju iO (Ju Wg (Ju Ye (pv 2) (Ju bC (pv 2) Ew)) Ew) Ew))))))),?_⟩
 -- draws[1]=draws[1]+1
 refine ⟨_,rfl,d,_,1,_,rfl,rfl,Kv.of j,rfl,_,_,rfl,rfl,_,rfl,d,_,1,1,rfl,rfl,j,rfl,?_⟩
 have a:(upd H d (.lst ([V.int c,V.int k,V.bl b].set 1 (V.int (k+1))))) d=some (.lst [.int c,.int (k+1),.bl b]):=Dq
 generalize g:upd H d (.lst ([V.int c,V.int k,V.bl b].set 1 (V.int (k+1))))=H1 at a
 have l:Vl d H H1:=by rw[<- g]; exact Vl.upd
 refine ⟨_,rfl,d,_,2,_,rfl,rfl,Kv.of a,rfl,_,rfl,?_⟩
 refine ID (λ_=>?_) (λ_=>?_)
 ·refine ⟨_,rfl,d,_,0,_,rfl,rfl,Kv.of a,rfl,10,6,rfl,rfl,⟨by decide,by decide,by decide⟩,_,_,rfl,rfl,(by show (0:Int)<10 ^ (6:Int).toNat; decide),?_⟩
  refine ⟨_,rfl,d,_,0,_,rfl,rfl,Kv.of a,rfl,10,6,rfl,rfl,⟨by decide,by decide,by decide⟩,_,_,rfl,rfl,⟨by decide,by decide⟩,_,rfl,d,_,0,0,rfl,rfl,a,rfl,_,rfl,?_⟩
  exact q _ _ _ Dq (l.trans Vl.upd)
 ·refine ⟨_,rfl,d,_,1,_,rfl,rfl,Kv.of a,rfl,?_⟩
  have b1:=jS ((c+(k+1) * (k+1) * 7919+(k+1)) * 48271) 2147483629 (by decide)
  refine ⟨_,rfl,d,_,0,_,rfl,rfl,Kv.of a,rfl,_,rfl,_,rfl,_,_,rfl,rfl,.inl ⟨by omega,by omega⟩,_,_,rfl,rfl,.inr ⟨by decide,by decide⟩,_,_,rfl,rfl,_,rfl,_,_,rfl,rfl,
   _,_,rfl,rfl,.inr ⟨by decide,by decide⟩,_,_,rfl,rfl,(by show (0:Int)<2147483629; decide),?_⟩
  generalize ((c+(k+1) * (k+1) * 7919+(k+1)) * 48271) % 2147483629=x at b1
  have b2:=jS (x * x) 2147483587 (by decide)
  refine ⟨_,rfl,_,rfl,_,_,rfl,rfl,.inl ⟨by omega,by omega⟩,_,_,rfl,rfl,(by show (0:Int)<2147483587; decide),?_⟩
  generalize (x * x) % 2147483587=y at b2
  refine ⟨_,rfl,_,rfl,_,_,rfl,rfl,_,_,rfl,rfl,.inl ⟨by omega,by omega⟩,_,_,rfl,rfl,(by show (0:Int)<2147483579; decide),_,_,rfl,rfl,⟨by decide,by decide⟩,?_⟩
  exact q _ _ _ a l
theorem wG(F:Fun K "_law_draws" "_law_draws" iF f a):FnOk P w K mg base Gv 1 f a ["_law_cell"] Xm:=M8 F
theorem u9(F:Fun K "_law_next" "_law_next" vB f a):FnOk P w K mg base Gv 1 f a ["_law_draws_here"] (JZ K rX):=Q7 (S5 F)
end
end K39
namespace DL
open PySem L2 Nd
def sub(a b:List Int):Bool:=a.all λi=>decide (i∈b)
def mU(a b:List Int):List Int:=a.filter λi=>decide (i∉b)
theorem pV(r:Iz h a):a.Nodup:=r.1.imp λ{x y} h=>Int.ne_of_lt h
theorem Vw(a:Int)(h:0<b):0<=a % b/\a % b<b:=jS a b h
end DL
namespace Nd
open PySem L2 Ts
def Dz:Nat->List (List Int)
 | 0=>[[]]
 | n+1=>Dz n++(Dz n).map (·++[(n:Int)])
theorem Eh:∀n,(Dz n).length=2 ^ n
 | 0=>rfl
 | n+1=>by
  show (Dz n++(Dz n).map (·++[(n:Int)])).length=2 ^ (n+1)
  rw[Bz,Ac,Eh n,Nat.pow_succ]
  omega
theorem Rn(h:n<=10):(Dz n).length<=1024:=by
 rw[Eh]
 exact Dj (by decide) h
theorem Nj:∀n,∀w∈Dz n,w.length<=n
 | 0,w,h=>by
  have : w=[]:=by simpa [Dz] using h
  rw[this]
  exact Ar _
 | n+1,w,h=>by
  rcases Bf.mp (show w∈Dz n++(Dz n).map (·++[(n:Int)]) from h) with h | h
  ·exact Nat.le_succ_of_le (Nj n w h)
  ·obtain ⟨v,a,e⟩:=Bh.mp h
   rw[<- e,Bz,Kb]
   exact Nat.succ_le_succ (Nj n v a)
def Ord(l:List (List Int)):Prop:=l.Pairwise λx y=>HT.lexLt y x=false
theorem Kw:∀{l m:List (List Int)},l.Perm m->Ord l->Ord m->l=m
 | [],m,p,_,_=>(List.Perm.nil_eq p)
 | x::l,[],p,_,_=>by
  have:=p.length_eq
  simp at this
 | x::l,y::m,p,h1,h2=>by
  obtain ⟨b,a⟩:=Ba.mp h1
  obtain ⟨b1,b2⟩:=Ba.mp h2
  have e:x=y:=by
   have mx:x∈y::m:=p.mem_iff.mp Aa
   have my:y∈x::l:=p.mem_iff.mpr Aa
   rcases Ao.mp mx with e | mx
   ·exact e
   ·rcases Ao.mp my with e | my
    ·exact e.symm
    ·exact aG (b1 x mx) (b y my) |>.symm▸rfl
  subst e
  rw[Kw ((List.perm_cons x).mp p) a b2]
end Nd
namespace Nd
open PySem L2
def ch:Nat->Nat->Nat
 | _,0=>1
 | 0,_+1=>0
 | n+1,k+1=>ch n k+ch n (k+1)
def cw:Nat->Int->Nat->List (List Int)
 | _,_,0=>[[]]
 | 0,_,_+1=>[]
 | d+1,p,m+1=>(cw d (p+1) m).map (p::·)++cw d (p+1) (m+1)
def dN(Qj:Int):Nat->List Int->Nat
 | _,[]=>0
 | m,x::w=>ch (Qj - 1 - x).toNat m+dN Qj (m - 1) w
theorem cM:∀{n:Nat} {w:List Int},w∈Dz n↔Iz n w
 | 0,w=>by
  show w∈[[]]↔_
  rw[List.mem_singleton]
  constructor
  ·rintro rfl; exact Iz.nil _
  ·rintro ⟨_,h⟩
   match w with
   | []=>rfl
   | x::w=>have:=h x Aa; omega
 | n+1,w=>by
  show w∈Dz n++(Dz n).map (·++[(n:Int)])↔_
  rw[List.mem_append,List.mem_map,cM]
  constructor
  ·rintro (h | ⟨v,hv,rfl⟩)
   ·exact h.up (by omega)
   ·have:=(cM.mp hv).more (by omega)
    exact this.up (by omega)
  ·intro h
   by_cases b:(n:Int)∈w
   ·refine .inr ⟨w.dropLast,cM.mpr ?_,?_⟩
    ·have a:w≠[]:=λz=>by rw[z] at b; cases b
     have g:w.getLast a=n:=by
      have j:=h.2 _ (List.getLast_mem a)
      by_cases e:w.getLast a=n
      ·exact e
      ·exfalso
       have d:=Jr a
       rw[<- d] at b
       rcases Bf.mp b with z | z
       ·have c:=h.1
        rw[<- d] at c
        have:=(Da.mp c).2.2 _ z _ (Ak.mpr rfl)
        omega
       ·exact e (Ak.mp z).symm
     have d:=Jr a
     have c:=h.1
     rw[<- d,g] at c
     obtain ⟨k,_,i⟩:=Da.mp c
     exact ⟨k,λx f=>⟨(h.2 x (List.dropLast_subset w f)).1,i x f _ (Ak.mpr rfl)⟩⟩
    ·have a:w≠[]:=λz=>by rw[z] at b; cases b
     have g:w.getLast a=n:=by
      have j:=h.2 _ (List.getLast_mem a)
      by_cases e:w.getLast a=n
      ·exact e
      ·exfalso
       have d:=Jr a
       rw[<- d] at b
       rcases Bf.mp b with z | z
       ·have c:=h.1
        rw[<- d] at c
        have:=(Da.mp c).2.2 _ z _ (Ak.mpr rfl)
        omega
       ·exact e (Ak.mp z).symm
     rw[<- g]
     exact Jr a
   ·refine .inl ⟨h.1,λx f=>?_⟩
    have:=h.2 x f
    have : x≠n:=λz=>b (by rw[<- z]; exact f)
    omega
theorem Rb:∀n:Nat,(Dz n).Nodup
 | 0=>Bw.mpr ⟨Bn,Dt⟩
 | n+1=>by
  show (Dz n++(Dz n).map (·++[(n:Int)])).Nodup
  refine Gy.mpr ⟨Rb n,?_,λx d y c e=>?_⟩
  ·exact List.Pairwise.map _ (λa b h e=>h (List.append_cancel_right e)) (Rb n)
  ·subst e
   obtain ⟨v,_,rfl⟩:=Bh.mp c
   have:=(cM.mp d).2 n (Aw _ (Ak.mpr rfl))
   omega
end Nd
namespace DL
open PySem L2 Nd
def Ol:PF:=λa R=>∃h:Int,a=[.int h]/\0<=h/\h<=5/\∀L:List (List Int),L.Perm (Dz h.toNat)->Ord L->R (wordsD L)
theorem Ha{L:List (List Int)}{n:Nat}(b:n<=10)(p:L.Perm (Dz n)):L.length<=1024/\∀w∈L,Iz n w/\w.length<=10:=⟨by rw[p.length_eq]; exact Rn b,λw a=>⟨cM.mp (p.mem_iff.mp a),Ce (Nj n w (p.mem_iff.mp a)) b⟩⟩
theorem mI{L:List (List Int)}{n:Nat}(a:n<=5)(p:L.Perm (Dz n)):L.length<64:=by
 rw[p.length_eq,Eh]
 exact Jn (Dj (by decide) a) (by decide)
theorem Oa{b:Type}{l:List b}{i:Nat}{p:b×Nat}(h:l.zipIdx[i]? = some p):p.2=i/\l[i]? = some p.1/\p.1∈l/\i<l.length:=by
 rw[List.getElem?_zipIdx] at h
 cases q:l[i]? with
 | none=>rw[q] at h; cases h
 | some a =>
  rw[q] at h
  cases h
  exact ⟨by simp,rfl,Au q,(Af.mp q).1⟩
def pairD(p:Nat×Nat):Ad:=.tuple [.int p.1,.int p.2]
instance {p:Nat×Nat}:Im (pairD p):=⟨(inferInstance:Im (.tuple [.int p.1,.int p.2])).h⟩
instance {p:Nat×Nat}:Dp (pairD p) 1:=⟨(inferInstance:Dp (.tuple [.int p.1,.int p.2]) 1).h⟩
def Y2(p:Nat×Nat×List Int):Ad:=.tuple [.int p.1,.int p.2.1,Bj p.2.2]
instance {p:Nat×Nat×List Int}:Im (Y2 p):=⟨(inferInstance:Im (.tuple [.int p.1,.int p.2.1,Bj p.2.2])).h⟩
instance {p:Nat×Nat×List Int}:Dp (Y2 p) 2:=⟨(inferInstance:Dp (.tuple [.int p.1,.int p.2.1,Bj p.2.2]) 2).h⟩
def LW(L:List (List Int))(f:List Int->Int):Ad:=.list ((L.map f).map Ah)
instance {L:List (List Int)} {f:List Int->Int}:Dp (LW L f) 1:=⟨(inferInstance:Dp (.list ((L.map f).map Ah)) 1).h⟩
theorem Jx{L:List (List Int)}{n:Nat}(p:L.Perm (Dz n)):L.Nodup:=p.nodup_iff.mpr (Rb n)
theorem Yu{L:List (List Int)}{n:Nat}(p:L.Perm (Dz n)){w:List Int}:w∈L↔Iz n w:=p.mem_iff.trans cM
theorem gG(c:Iz n a)(hb:Iz m b)(h:∀i,i∈a↔i∈b):a=b:=by
 have p:a.Perm b:=(List.perm_ext_iff_of_nodup (pV c) (pV hb)).mpr h
 exact p.eq_of_pairwise (λx y _ _ d e=>by omega) c.1 hb.1
end DL
namespace DL
open PySem PySem.Spec PyProof.Rows L2 Nd
def Sn(L:List (List Int))(f:List Int->Int):List (List Int×Ad):=L.map λw=>(w,.int (f w))
theorem mN:∀(L:List (List Int)) (es:List Ad) (a:List (List Int×Ad)),L.length=es.length->L.Nodup->(∀w∈L,∀p∈a,p.1≠w)->Sf a (L.zip es)=a++L.zip es
 | [],es,a,_,_,_=>by simp [Sf]
 | w::L,[],a,h,_,_=>by cases h
 | w::L,e::es,a,h,nd,hn=>by
  have c:Ta a w e=a++[(w,e)]:=by
   unfold Ta
   rw[if_neg]
   rw[List.any_eq_true]
   (intro f; obtain ⟨p,c,z⟩ := f)
   exact hn w Aa p c (of_decide_eq_true z)
  have b:=Bw.mp nd
  show Sf (Ta a w e) (L.zip es)=_
  rw[c,mN L es _ (Nat.succ.inj h) b.2 λv d p c=>?_]
  ·rw[Df]; rfl
  ·rcases Bf.mp c with z | z
   ·exact hn v (Ae _ d) p z
   ·rw[Ak.mp z]
    rintro rfl
    exact b.1 d
theorem mC:∀(L:List (List Int)) (f:List Int->Int),L.zip ((L.map f).map Ah)=Sn L f
 | [],f=>rfl
 | w::L,f=>by
  have a:=mC L f
  unfold Sn at a ⊢
  rw[Ax,Ax,Ht,a]
  rfl
theorem L7(a:L.Nodup)(f:List Int->Int):Sf [] (L.zip ((L.map f).map Ah))=Sn L f:=by
 rw[mN L _ [] (by rw[Ac,Ac]) a λ_ _ p b=>(nomatch b),Va,mC]
theorem Ul:∀{L:List (List Int)},w∈L->Zt (Sn L f) w=some (.int (f w))
 | [],h=>(nomatch h)
 | v::L,h=>by
  unfold Zt Sn
  rw[Ax,Jq]
  by_cases e:v=w
  ·subst e
   rw[show decide ((v,Ah (f v)).1=v)=true from decide_eq_true rfl]
   rfl
  ·rw[show decide ((v,Ah (f v)).1=w)=false from decide_eq_false e]
   have a:=Ul (f:=f) (List.mem_of_ne_of_mem (λz=>e z.symm) h)
   exact a
end DL
namespace K39
open PySem L2 Nd DL
local macro_rules | `(tactic| array_get_dec) => do
  let ids:=(("e_maxL e_idx e_idxB e_idxC e_sortL e_seq e_skip e_ret e_if e_asg e_name e_name2 e_name3 e_own e_nF e_gtup e_gsn e_gsc e_op e_var e_c e_imm e_immB e_take e_I e_I0 e_bestK e_eqF e_eqT e_inTl e_inFt_w1 e_inTt_w1 e_isNF e_ixl e_ixt e_cat e_catT_w1 e_rep e_nlT e_nlF e_pkOfsh e_pkOfow e_mdInsh e_mdIntp e_mdNewsh e_mdItsh e_mdIttp e_mdItow e_nil e_cons e_tup e_lst e_noPart e_part e_partB e_sl e_slBl e_cb e_lenl e_lent_w1 e_intb e_max2 e_MinL e_MaxL e_all e_isi e_str e_v e_b e_bB e_tru e_truB e_notT e_andT e_andTt e_andTf e_orT e_orTf e_not e_notB e_and e_andt e_andf e_ifE e_neg e_negB e_dL e_dTp e_lB e_tpB_w1 e_range1 e_rng1B e_enum e_enumB e_zip e_zipB e_for e_comp e_comp2 e_compL e_comp2L e_stepL e_stepLT e_glst e_compD e_noTest e_step e_stepT e_stepF e_yesB e_stepD e_stepDT e_yesBD e_call e_callW e_draws e_drawsB e_append e_setI e_revL e_appendO e_stepK e_stepKB e_scrSl e_sortW e_dnew e_dput e_dictZ e_dictZB e_tagD e_inew e_iput e_getI e_isIc2 e_tagI e_forN e_sortK e_MaxD e_callA e_callWS e_callWSB dgetN_e isIct iputB ik_e getI_e ow_npk callWSD retWT callAB retA retA_tp isDct dputB dk_e dget_e wordsD callB callBW tupB lstB datas pkMd allOw noPk appB appOB mmd revLB setB own1 npk retE retL args0 frD frD1 alD List.map_cons List.map_nil List.replicate List.getElem?_cons_zero List.getElem?_cons_succ List.set_cons_zero List.set_cons_succ List.cons_append List.nil_append Option.map_some List.length_cons List.length_nil List.append_nil rdAdd rdSub rdMul rdDiv rdMod rdXor rdLe rdGt rdGe if_true if_false Bool.false_eq_true mdZip List.append_assoc Nat.reduceAdd Nat.reduceSub Nat.reduceLeDiff true_and im_e ima_e dp_e dpa_e any_int any_word eqD_intd eqD_bl eqD_str eqD_li eqD_l0 ow_e tt_e cdiv_e cpow_e Int.reduceLT Int.reduceLE Nat.reduceLT Int.reduceNeg and_self Int.reduceToNat Nat.reduceMul isi_ib isi_bb Bool.not_true Bool.not_false String.reduceEq or_true true_or List.isEmpty_nil ifB_lt ifB_lf str_self Int.reduceEq atI_0 atI_1 some_e dec_self eqD_tup1 okT_l yesL_ow yesL_sh catL_owtp catL_shtp" : String).splitOn " ").toArray.map λ(x:String)=>Lean.mkIdent x.toName
  `(tactic| try simp only [$[↓$ids:ident],*])
section
variable{P:Bp}{w:World}{K:PySem.W.Frag}{mg:Str->Option Value}{base:Heap}
theorem hZ:FnScope ["holes", "words", "place"] ["holes"] (Bv Tv):=⟨rfl,rfl,rfl,by decide +kernel,rfl,by decide +kernel,by decide +kernel⟩
theorem iK(F:Fun K "all_words" "all_words" Tv f o)(c:mg "range" = none)(b:mg "sorted" = none):FnOk P w K mg base Gv 1 f o ["holes"] (Ko K (Ol)):=by
 refine' Fz (k:=0) F hZ (λr A m s H E y=>?hb) ?h
 case hb =>
  have d:=y.units
  exact Bt (Ej (i:=1) hZ.nd rfl (Cy rfl) (Fv (Aj (Qg Ay) Ay)))
   (Bt (Lx Dn rfl (Hb rfl c (Aj (Al (pv 0)) Ay)) (Ep (i:=2) hZ.nd rfl (Ie rfl))
   (Cq (Ej (i:=1) hZ.nd rfl (Cy rfl) (Sy (Al (pv 1)) (Gp (sX (x := "word") "place" 2 rfl (by decide +kernel) rfl rfl rfl) rfl (Yo (Al (pv 1))) (λ_ _ _=>Ei) (λ_ _ _=>sZ (Al (pv 0)) (Qg (Aj (Tr (Al (pv 1))) Ay))))))))
   (Cq (Ds (Di (Ts.call_sortedI d) nX rfl b (by decide +kernel) (Aj (Al (pv 1)) Ay)))))
 case h =>
  (intro J R e; obtain ⟨h,rfl,M,q,G⟩ := e)
  refine ⟨rfl,?_⟩
  array_get_dec
  refine ⟨by omega,by omega,?_⟩
  refine Xe (l:=Bq h.toNat) (g:=λi:Nat=>.int i) rfl (λi B=>∃v:DV,B=⟨[.dat .sh (.int h),.dat .sh (.list ((Dz i).map Bj)),v],0⟩/\NP v) ?_ ?_ ?_
  ·exact ⟨_,rfl,He⟩
  ·(intro i a _ u e; obtain ⟨v,rfl,p⟩ := e)
   obtain ⟨rfl,Q⟩:=Ox u
   have O:=Rn (n:=a) (by omega)
   array_get_dec
   refine Mk (l:=Dz a) (g:=Bj) rfl (λw=>Bj (w++[(a:Int)])) (λw C t I j=>?_) ?_
   ·have N:=Nj a w C
    array_get_dec
    refine ⟨by rw[Ac]; omega,?_⟩
    unfold Bj at j
    rw[Bg] at j
    exact j
   ·array_get_dec
    refine ⟨by rw[Ac,Ac]; omega,.dat .sh (.int a),lI ?_ rfl,Fl⟩
    show _=[DV.dat .sh (.int h),.dat .sh (.list ((Dz a++(Dz a).map (·++[(a:Int)])).map Bj)),.dat .sh (.int a)]
    rw[Bg,Bm]
    rfl
  ·(intro _ e; obtain ⟨v,rfl,p⟩ := e)
   rw[Co]
   array_get_dec
   exact ⟨_,rfl,by rw[Eh]; exact Jn (Dj (by decide) (show h.toNat<=5 by omega)) (by decide),λL z D=>G L z D⟩
theorem fF:FnScope ["_law_holes", "_law_found", "_law_place"] ["_law_holes"] (Bv Ro):=⟨rfl,rfl,rfl,by decide +kernel,rfl,by decide +kernel,by decide +kernel⟩
theorem eX(F:Fun K "_law_words" "_law_words" Ro f o)(c:mg "range" = none)(b:mg "sorted" = none):FnOk P w K mg base Gv 1 f o ["_law_holes"] (Ko K (Ol)):=by
 refine' Fz (k:=0) F fF (λr A m s H E y=>?hb) ?h
 case hb =>
  have d:=y.units
  exact Bt (Ej (i:=1) fF.nd rfl (Cy rfl) (Fv (Aj (Qg Ay) Ay)))
   (Bt (Lx Dn rfl (Hb rfl c (Aj (Al (pv 0)) Ay)) (Ep (i:=2) fF.nd rfl (Ie rfl))
   (Cq (Ej (i:=1) fF.nd rfl (Cy rfl) (Sy (Al (pv 1)) (Gp (sX (x := "_law_word") "_law_place" 2 rfl (by decide +kernel) rfl rfl rfl) rfl (Yo (Al (pv 1))) (λ_ _ _=>Ei) (λ_ _ _=>sZ (Al (pv 0)) (Qg (Aj (Tr (Al (pv 1))) Ay))))))))
   (Cq (Ds (Di (Ts.call_sortedI d) nX rfl b (by decide +kernel) (Aj (Al (pv 1)) Ay)))))
 case h =>
  (intro J R e; obtain ⟨h,rfl,M,q,G⟩ := e)
  refine ⟨rfl,?_⟩
  array_get_dec
  refine ⟨by omega,by omega,?_⟩
  refine Xe (l:=Bq h.toNat) (g:=λi:Nat=>.int i) rfl (λi B=>∃v:DV,B=⟨[.dat .sh (.int h),.dat .sh (.list ((Dz i).map Bj)),v],0⟩/\NP v) ?_ ?_ ?_
  ·exact ⟨_,rfl,He⟩
  ·(intro i a _ u e; obtain ⟨v,rfl,p⟩ := e)
   obtain ⟨rfl,Q⟩:=Ox u
   have O:=Rn (n:=a) (by omega)
   array_get_dec
   refine Mk (l:=Dz a) (g:=Bj) rfl (λw=>Bj (w++[(a:Int)])) (λw C t I j=>?_) ?_
   ·have N:=Nj a w C
    array_get_dec
    refine ⟨by rw[Ac]; omega,?_⟩
    unfold Bj at j
    rw[Bg] at j
    exact j
   ·array_get_dec
    refine ⟨by rw[Ac,Ac]; omega,.dat .sh (.int a),lI ?_ rfl,Fl⟩
    show _=[DV.dat .sh (.int h),.dat .sh (.list ((Dz a++(Dz a).map (·++[(a:Int)])).map Bj)),.dat .sh (.int a)]
    rw[Bg,Bm]
    rfl
  ·(intro _ e; obtain ⟨v,rfl,p⟩ := e)
   rw[Co]
   array_get_dec
   exact ⟨_,rfl,by rw[Eh]; exact Jn (Dj (by decide) (show h.toNat<=5 by omega)) (by decide),λL z D=>G L z D⟩
end
def Zf(w u:List Int):Bool:=w.all λi=>decide (i∈u)
def Pd(face:List Int)(w:List Int)(v:Int)(p:List Int×Nat):Bool:=decide (face[p.2]? = some v) && Zf w p.1
def Ex(ws:List (List Int))(face:List Int)(w:List Int)(v:Int):List (List Int×Nat):=ws.zipIdx.filter (Pd face w v)
def bO:PF:=λc R=>∃a b:List Int,c=[Bj a,Bj b]/\R (.bool (Zf a b))
def jW:PF:=λc R=>∃(b:List (List Int)) (a w:List Int) (v:Int),c=[.list (b.map Bj),.list (a.map Ah),Bj w,.int v]/\b.length=a.length/\R (.list ((Ex b a w v).map λp=>.int p.2))
section
variable{P:Bp}{w:World}{K:PySem.W.Frag}{mg:Str->Option Value}{base:Heap}
theorem wH:FnScope ["one", "other"] ["one", "other"] (Bv dD):=⟨rfl,rfl,rfl,by decide +kernel,rfl,by decide +kernel,by decide +kernel⟩
theorem xJ(F:Fun K "within" "within" dD f j)(c:mg "all" = none):FnOk P w K mg base Gv 1 f j ["one", "other"] (Ko K (bO)):=by
 refine' Fz (k:=0) F wH (λo A e s H E r=>?hb) ?h
 case hb =>
  have d:=r.units
  exact Cq (Ds (Di (Xg rfl) iV rfl c (by decide +kernel) (Aj (Gp (sX (x := "place") "other" 1 rfl (by decide +kernel) rfl rfl rfl) rfl (MM (Al (pv 0))) (λ_ _ _=>Ei) (λ_ _ _=>II d (Al (pv 0)) (Al (pv 1)))) Ay)))
 case h =>
  (intro u R p; obtain ⟨a,b,rfl,n⟩ := p)
  refine ⟨rfl,?_⟩
  array_get_dec
  refine Mk (l:=a) (g:=Ah) rfl (λi=>.bool (decide (i∈b))) (λi _ m t q=>?_) ?_
  ·array_get_dec
   exact q
  ·array_get_dec
   refine ⟨a.map λi=>decide (i∈b),by rw[Bm]; rfl,?_⟩
   rw[Nb]
   exact n
theorem pI:FnScope ["words", "reading", "word", "value"] ["words", "reading", "word", "value"] (Bv Yz):=⟨rfl,rfl,rfl,by decide +kernel,rfl,by decide +kernel,by decide +kernel⟩
theorem pU(F:Fun K "showing" "showing" Yz f C)(j:FnOk P w K mg base Gv 1 a c ["one", "other"] (Ko K (bO)))(d:Binds K c ["one", "other"] [])(g:PySem.W.keepIn K (.ref a)=true)(e:mg "within" = some (.ref a))(b:mg "enumerate" = none):FnOk P w K mg base Gv 2 f C ["words", "reading", "word", "value"] (Ko K (jW)):=by
 refine' Fz (k:=1) F pI (λG A t s H E z=>?hb) ?h
 case hb =>
  have u:Room 1 _:=z.mono (by decide)
  have n:=z.units
  exact Cq (Ds (bS (GH (x := "at") "reading" "value" "word" 1 3 2 rfl (by decide +kernel) rfl rfl rfl) (.inl rfl) (by decide +kernel) rfl (Ra rfl b (Aj (Al (pv 0)) Ay)) (λ_ _ _=>Kk (Yi (Ru (Oy n (Dy (Al (pv 2)) (Al (pv 0))) (Al (pv 3))) (Of (Ot (Dc j u rfl e g d Dv (Aj (Al (pv 4)) (Aj (Al (pv 1)) Ay)))))))) (λ_ _ _=>Al (pv 0))))
 case h =>
  (intro X R S; obtain ⟨T,m,w,v,rfl,Z,U⟩ := S)
  refine ⟨rfl,?_⟩
  array_get_dec
  refine aX (l:=T.zipIdx) (g1:=λp=>.int p.2) (g2:=λp=>Bj p.1) (by rw[zip_map,Bm]; rfl) (Pd m w v) (λp=>.int p.2) (λp I L V y r=>?_) ?_
  ·obtain ⟨k,J⟩:=Bx.mp I
   obtain ⟨ek,Q,O,N⟩:=Oa J
   obtain ⟨x,B,M,Y⟩:=Pc (l:=m) (i:=(p.2:Int)) (by omega) (by omega)
   rw[Cs] at B
   have D:Pd m w v p=(decide (x=v) && Zf w p.1):=by
    unfold Pd
    rw[B]
    congr 1
    simp
   rw[D] at y r
   array_get_dec
   refine ⟨.int x,by rw[Uq,M]; rfl,dp,?_⟩
   array_get_dec
   refine Yr (λo=>?_) (λo=>?_)
   ·array_get_dec
    refine ⟨w,p.1,rfl,?_⟩
    refine Kj (λq=>?_) (λq=>?_)
    ·array_get_dec
     exact y (by rw[o,q]; rfl)
    ·exact r (by rw[o,q]; rfl)
   ·array_get_dec
    exact r (by rw[o]; rfl)
  ·array_get_dec
   exact U
theorem iG:FnScope ["_law_one", "_law_other"] ["_law_one", "_law_other"] (Bv Tz):=⟨rfl,rfl,rfl,by decide +kernel,rfl,by decide +kernel,by decide +kernel⟩
theorem kJ(F:Fun K "_law_lies" "_law_lies" Tz f e):FnOk P w K mg base Gv 1 f e ["_law_one", "_law_other"] (Ko K (bO)):=by
 refine' Fz (k:=0) F iG (λn A d s H E r=>?hb) ?h
 case hb =>
  have c:=r.units
  exact Cq (Ds (fR c (Gp (sX (x := "_law_place") "_law_other" 1 rfl (by decide +kernel) rfl rfl rfl) rfl (MM (Al (pv 0))) (λ_ _ _=>Kk (dE c (Al (pv 0)) (Al (pv 1)))) (λ_ _ _=>Al (pv 0))) (Fv Ay)))
 case h =>
  (intro u R p; obtain ⟨a,b,rfl,m⟩ := p)
  refine ⟨rfl,?_⟩
  array_get_dec
  refine Wy (l:=a) (g:=Ah) rfl (λi=>decide (i∉b)) (λi=>.int i) (λi _ j t q o=>?_) ?_
  ·array_get_dec
   refine Kj (λh=>?_) (λh=>?_)
   ·array_get_dec
    exact q (by simpa using h)
   ·exact o (by simpa using h)
  ·array_get_dec
   rw[show ((a.filter λi=>decide (i∉b)).map λi=>Ah i).isEmpty=Zf a b from ?_]
   ·exact m
   ·unfold Zf
    rw[Vb,dY,Fh,Ui,Fb]
    simp
end
def Ov(l:List Int):Int:=l.foldr max 0
theorem Oi(c:0<x):∀{l:List Int},x<=Ov l↔∃y∈l,x<=y
 | []=>⟨λh=>by simp [Ov] at h; omega,λ⟨_,h,_⟩=>nomatch h⟩
 | a::l=>by
  show x<=max a (Ov l)↔_
  have b:=Oi c (l:=l)
  constructor
  ·intro h
   rcases (by omega:x<=a\/x<=Ov l) with h | h
   ·exact ⟨a,Aa,h⟩
   ·obtain ⟨y,hy,e⟩:=b.mp h
    exact ⟨y,Ae _ hy,e⟩
  ·(intro d; obtain ⟨y,hy,e⟩ := d)
   rcases Ao.mp hy with rfl | hy
   ·omega
   ·have:=b.mpr ⟨y,hy,e⟩
    omega
theorem Ri:∀l:List Int,0<=Ov l
 | []=>by simp [Ov]
 | a::l=>by
  show 0<=max a (Ov l)
  have:=Ri l
  omega
theorem Q9(h0:∀x∈l,0<=x)(c:M∈l)(a:∀x∈l,x<=M):Ov l=M:=by
 by_cases z:0<M
 ·have d:=(Oi z (l:=l)).mpr ⟨M,c,Gs _⟩
  by_cases q:M<Ov l
  ·obtain ⟨y,b,e⟩:=(Oi (x:=Ov l) (by omega) (l:=l)).mp (Gs _)
   have:=a y b
   omega
  ·omega
 ·have:=h0 M c
  by_cases q:0<Ov l
  ·obtain ⟨y,b,e⟩:=(Oi q (l:=l)).mp (Gs _)
   have:=a y b
   omega
  ·have:=Ri l
   omega
def Mr(a:List Int)(p:List Int×Nat):Int:=(a[p.2]?).getD 0+1
def Kl(ws:List (List Int))(face a w:List Int)(v:Int):Int:=Ov ((Ex ws face w v).map (Mr a))
def A6:PF:=λd R=>∃(c:List (List Int)) (b a w:List Int) (v:Int),d=[.list (c.map Bj),.list (b.map Ah),.list (a.map Ah),Bj w,.int v]/\c.length=b.length/\c.length=a.length/\(∀x∈a,0<=x)/\R (.int (Kl c b a w v))
def iC:PF:=λd R=>∃(c:List (List Int)) (a b:List Int) (vs:Int) (k:Nat) (w:List Int) (f:Int),d=[.list (c.map Bj),.list (a.map Ah),.int vs,.list (b.map Ah),.int k]/\c.length=a.length/\c.length=b.length/\(∀x∈b,0<=x)/\2<=vs/\vs<=16 /\
 c[k]? = some w/\a[k]? = some f/\∀M:Int,(∀x:Int,x<=M↔∀v:Int,0<=v->v<vs->v≠f->x<=Kl c a b w v)->R (.int M)
def Tp:Ad->Bool
 | .int i=>decide (0<=i)
 | _=>false
def Zj(d:Ad)(n:Int):Bool:=match d with
 | .list a=>decide ((a.length:Int)=n) && a.all Tp
 | _=>false
def U0:Ad->Bool
 | .none=>true
 | .bool _=>true
 | .int _=>true
 | .str _=>true
 | _=>false
theorem BP(h:U0 d=true):imm d=true:=by
 cases d <;> first | rfl | cases h
theorem R9(h:a.all U0=true):Dl a=true:=pK.mpr λd b=>BP (Fb.mp h d b)
def KW(d:Ad):Prop:=(∃a,d=.list a/\a.all U0=true)\/imm d=true
def uF:PF:=λa R=>∃d,a=[d]/\imm d=true/\R (.bool (match d with | .int _=>true | _=>false))
def yT:PF:=λa R=>∃(d:Ad) (n:Int),a=[d,.int n]/\KW d/\R (.bool (Zj d n))
section
variable{P:Bp}{w:World}{K:PySem.W.Frag}{mg:Str->Option Value}{base:Heap}
theorem eQ:FnScope ["words", "reading", "numbers", "word", "value"] ["words", "reading", "numbers", "word", "value"] (Bv Rl):=⟨rfl,rfl,rfl,by decide +kernel,rfl,by decide +kernel,by decide +kernel⟩
theorem eY(F:Fun K "best_turns" "best_turns" Rl f L)(m:FnOk P w K mg base Gv 2 a c ["words", "reading", "word", "value"] (Ko K (jW)))(j:Binds K c ["words", "reading", "word", "value"] [])(e:PySem.W.keepIn K (.ref a)=true)(n:mg "showing" = some (.ref a))(o:mg "max" = none):FnOk P w K mg base Gv 3 f L ["words", "reading", "numbers", "word", "value"] (Ko K (A6)):=by
 refine' Fz (k:=2) F eQ (λO A B s H E C=>?hb) ?h
 case hb =>
  have h2:Room 1 _:=C.mono (by decide)
  have u:Room 2 _:=C.mono (by decide)
  have I:=C.units
  exact Cq (Ds (T4 rfl rfl o (Aj (Gp (sX (x := "at") "numbers" 2 rfl (by decide +kernel) rfl rfl rfl) rfl (Yo (Dc m u rfl n e j Dv (Aj (Al (pv 0)) (Aj (Al (pv 1)) (Aj (Al (pv 3)) (Aj (Al (pv 4)) Ay)))))) (λ_ _ _=>Ei) (λ_ _ _=>Mu (Dy (Al (pv 1)) (Al (pv 0))) Ct)) Ay)))
 case h =>
  (intro ds R q_; obtain ⟨r,d,b,w,v,rfl,l1,l2,S,t⟩ := q_)
  refine ⟨rfl,?_⟩
  array_get_dec
  refine ⟨r,d,w,v,rfl,l1,?_⟩
  array_get_dec
  refine Mk (l:=Ex r d w v) (g:=λp=>.int p.2) rfl (λp=>.int (Mr b p)) (λp Q U no G=>?_) ?_
  ·obtain ⟨k,T⟩:=Bx.mp (Bi.mp Q).1
   obtain ⟨ek,h1,Z,X⟩:=Oa T
   obtain ⟨x,J,V,e3⟩:=Pc (l:=b) (i:=(p.2:Int)) (by omega) (by omega)
   array_get_dec
   refine ⟨.int x,by rw[Uq,V]; rfl,im,?_⟩
   array_get_dec
   rw[Cs] at J
   have : Mr b p=x+1:=by unfold Mr; rw[J]; rfl
   rw[this] at G
   exact G
  ·array_get_dec
   refine ⟨(Ex r d w v).map (Mr b),by rw[Bm]; rfl,λz=>?_,λM Y D=>?_⟩
   ·have : Kl r d b w v=0:=by unfold Kl; rw[z]; rfl
    rw[this] at t
    array_get_dec
    exact t
   ·have : Kl r d b w v=M:=Q9 (λx N=>?_) Y D
    ·rw[this] at t
     array_get_dec
     exact t
    ·obtain ⟨p,_,rfl⟩:=Bh.mp N
     unfold Mr
     cases q:b[p.2]? with
     | none=>simp
     | some y=>have:=S y (Au q); show 0<=y+1; omega
theorem fI:FnScope ["words", "reading", "values", "numbers", "at", "others"] ["words", "reading", "values", "numbers", "at"] (Bv Rz):=⟨rfl,rfl,rfl,by decide +kernel,rfl,by decide +kernel,by decide +kernel⟩
theorem fA(F:Fun K "sure_turns" "sure_turns" Rz f T)(p:FnOk P w K mg base Gv 3 a c ["words", "reading", "numbers", "word", "value"] (Ko K (A6)))(m:Binds K c ["words", "reading", "numbers", "word", "value"] [])(j:PySem.W.keepIn K (.ref a)=true)(n:mg "best_turns" = some (.ref a))(r:mg "range" = none)(y:mg "min" = none):FnOk P w K mg base Gv 4 f T ["words", "reading", "values", "numbers", "at"] (Ko K (iC)):=by
 refine' Fz (k:=3) F fI (λX A N s H E I=>?hb) ?h
 case hb =>
  have h4:Room 1 _:=I.mono (by decide)
  have V:Room 2 _:=I.mono (by decide)
  have O:Room 3 _:=I.mono (by decide)
  have D:=I.units
  exact Bt (Xl (o:=false) (i0:=5) fI.nd rfl rfl (IM (x := "value") "at" "reading" 4 1 rfl (by decide +kernel) rfl rfl rfl) rfl (Hb rfl r (Aj (Al (pv 2)) Ay)) (λ_ _ _=>Kk (Nq D (Al (pv 0)) (Dy (Al (pv 2)) (Al (pv 1))))) (λ_ _ _=>Al (pv 0)))
   (Cq (Ds (Di (Ur rfl) aI rfl y (by decide +kernel) (Aj (Gp (ME (x := "value") "at" "numbers" "reading" "words" 4 3 1 0 rfl (by decide +kernel) rfl rfl rfl) rfl (Yo (Al (pv 5))) (λ_ _ _=>Ei) (λ_ _ _=>Dc p O rfl n j m Dv (Aj (Al (pv 4)) (Aj (Al (pv 3)) (Aj (Al (pv 2)) (Aj (Dy (Al (pv 4)) (Al (pv 1))) (Aj (Al (pv 0)) Ay))))))) Ay))))
 case h =>
  (intro ds R Q; obtain ⟨C,d,e,vs,k,w,f,rfl,l1,U,h0,v0,v1,hw,hf,hR⟩ := Q)
  refine ⟨rfl,?_⟩
  array_get_dec
  have Y:Ss (d.map Ah) (k:Int)=some (.int f):=Ml (by rw[Aq,hf]; rfl)
  have ew:Ss (C.map Bj) (k:Int)=some (Bj w):=Ml (by rw[Aq,hw]; rfl)
  refine ⟨by omega,by omega,?_⟩
  refine Wy (l:=Bq vs.toNat) (g:=λi:Nat=>.int i) rfl (λi:Nat=>decide ((i:Int)≠f)) (λi=>.int i) (λi _ L Z J hn=>?_) ?_
  ·array_get_dec
   refine ⟨_,Y,dp,?_⟩
   array_get_dec
   refine Kj (λh=>?_) (λh=>?_)
   ·array_get_dec
    exact J (by simpa using h)
   ·exact hn (by simpa using h)
  array_get_dec
  refine Mk (l:=(Bq vs.toNat).filter λi:Nat=>decide ((i:Int)≠f)) (g:=λi:Nat=>.int i) rfl (λi=>.int (Kl C d e w i)) (λi _ L Z J=>?_) ?_
  ·array_get_dec
   refine ⟨_,ew,C,d,e,w,i,rfl,l1,U,h0,?_⟩
   array_get_dec
   exact J
  array_get_dec
  have B:∀b:Int,b∈((Bq vs.toNat).filter λi:Nat=>decide ((i:Int)≠f)).map (λi:Nat=>Kl C d e w i)↔∃v:Int,0<=v/\v<vs/\v≠f/\b=Kl C d e w v:=λb=>by
   constructor
   ·intro h
    obtain ⟨i,hi,rfl⟩:=Bh.mp h
    obtain ⟨t,u⟩:=Bi.mp hi
    have:=En.mp t
    exact ⟨i,by omega,by omega,by simpa using u,rfl⟩
   ·(intro Q; obtain ⟨v,t,u,G,rfl⟩ := Q)
    refine Bh.mpr ⟨v.toNat,Bi.mpr ⟨En.mpr (by omega),?_⟩,by rw[Pr t]⟩
    rw[Pr t]
    simpa using G
  refine ⟨((Bq vs.toNat).filter λi:Nat=>decide ((i:Int)≠f)).map (λi:Nat=>Kl C d e w i),by rw[Bm]; rfl,λz=>?_,λM hM S=>?_⟩
  ·have t:=(B (Kl C d e w 0)).mpr
   have u:=(B (Kl C d e w 1)).mpr
   rw[z] at t u
   by_cases q:f=0
   ·exact absurd (u ⟨1,by omega,by omega,by omega,rfl⟩) Bn
   ·exact absurd (t ⟨0,by omega,by omega,by omega,rfl⟩) Bn
  ·array_get_dec
   refine hR M λx=>⟨λh v t u G=>?_,λh=>?_⟩
   ·have:=S _ ((B _).mpr ⟨v,t,u,G,rfl⟩)
    omega
   ·obtain ⟨v,t,u,G,rfl⟩:=(B M).mp hM
    exact h v t u G
end
noncomputable def bW(ws:List (List Int))(face:List Int)(vs:Int)(a:List Int):Bool:=@decide (∀(k:Nat) (w:List Int) (f x:Int),ws[k]? = some w->face[k]? = some f->a[k]? = some x->∀v:Int,0<=v->v<vs->v≠f->x<=Kl ws face a w v) (Dr _)
theorem W1(h:Vx d "int" = true):(∃i,d=.int i)\/∃b,d=.bool b:=by
 cases d <;> simp [Vx,uU] at h <;> first | exact .inl ⟨_,rfl⟩ | exact .inr ⟨_,rfl⟩
theorem U2(h:Vx d "list" = true):∃a,d=.list a:=by
 cases d <;> simp [Vx,uU] at h
 exact ⟨_,rfl⟩
theorem yH(h:Vx d "list" = false)(n:Int):Zj d n=false:=by
 cases d <;> first | rfl | simp [Vx,uU] at h
section
variable{P:Bp}{w:World}{K:PySem.W.Frag}{mg:Str->Option Value}{base:Heap}
theorem nK:FnScope ["thing"] ["thing"] (Bv Vu):=⟨rfl,rfl,rfl,by decide +kernel,rfl,by decide +kernel,by decide +kernel⟩
theorem mH(F:Fun K "is_whole" "is_whole" Vu f m)(c:mg "bool" = none)(a:mg "isinstance" = none)(e:mg "int" = none):FnOk P w K mg base Gv 1 f m ["thing"] (Ko K (uF)):=by
 refine' Fz (k:=0) F nK (λo A j s H E q=>?hb) ?h
 case hb =>
  have l:=q.units
  exact Cq (Ds (qG (Di qV qL rfl a (by decide +kernel) (Aj (Al (pv 0)) (Aj (zR (n := "int") rfl e (by decide +kernel)) Ay))) (qZ (EI (Di qV qL rfl a (by decide +kernel) (Aj (Al (pv 0)) (Aj (zR (n := "bool") rfl c (by decide +kernel)) Ay)))))))
 case h =>
  (intro t R p; obtain ⟨d,rfl,r,g⟩ := p)
  refine ⟨rfl,?_⟩
  array_get_dec
  refine CG (λh=>?_) (λh=>?_)
  ·rcases W1 h with ⟨i,rfl⟩ | ⟨b,rfl⟩
   ·array_get_dec
    exact g
   ·array_get_dec
    exact g
  ·array_get_dec
   cases d <;> first | exact g | simp [Vx,uU] at h
theorem cK:FnScope ["thing", "many"] ["thing", "many"] (Bv Qi):=⟨rfl,rfl,rfl,by decide +kernel,rfl,by decide +kernel,by decide +kernel⟩
theorem cS(F:Fun K "are_numbers" "are_numbers" Qi f I)(o:FnOk P w K mg base Gv 1 a b ["thing"] (Ko K (uF)))(m:Binds K b ["thing"] [])(j:PySem.W.keepIn K (.ref a)=true)(p:mg "is_whole" = some (.ref a))(t:mg "len" = none)(r:mg "list" = none)(c:mg "isinstance" = none)(u:mg "all" = none):FnOk P w K mg base Gv 2 f I ["thing", "many"] (Ko K (yT)):=by
 refine' Fz (k:=1) F cK (λJ A z s H E G=>?hb) ?h
 case hb =>
  have B:Room 1 _:=G.mono (by decide)
  have y:=G.units
  exact Bt (Jw (Yi (sQ (cA (Ot (Di qV qL rfl c (by decide +kernel) (Aj (Al (pv 0)) (Aj (zR (n := "list") rfl r (by decide +kernel)) Ay))))) (kH (Nq y (Di Gb Jg rfl t (by decide +kernel) (Aj (Al (pv 0)) Ay)) (Al (pv 1))))))
   (Cq (Ds Ll)) Hf)
   (Cq (Ds (Di (Xg rfl) iV rfl u (by decide +kernel) (Aj (Gp (AW (x := "number") rfl (by decide +kernel)) rfl (Yo (Al (pv 0))) (λ_ _ _=>Ei) (λ_ _ _=>qG (Dc o B rfl p j m Dv (Aj (Al (pv 0)) Ay)) (qZ (Z6 (Al (pv 0)) Ct)))) Ay))))
 case h =>
  (intro q R Q; obtain ⟨d,n,rfl,O,v⟩ := Q)
  refine ⟨rfl,?_⟩
  array_get_dec
  refine JE (λh=>?_) (λh=>?_)
  ·rw[yH (by simpa using h)] at v
   array_get_dec
   exact v
  obtain ⟨q,rfl⟩:=U2 (d:=d) (by simpa using h)
  have M:q.all U0=true:=by
   rcases O with ⟨N,e,h⟩ | h
   ·cases e; exact h
   ·cases h
  have T:=R9 M
  array_get_dec
  refine Xq (λC=>?_) (λC=>?_)
  ·array_get_dec
   have : Zj (.list q) n=false:=by
    show (decide ((q.length:Int)=n) && q.all Tp)=false
    rw[show decide ((q.length:Int)=n)=false by simpa using C]
    rfl
   rw[this] at v
   exact v
  ·array_get_dec
   have e:Zj (.list q) n=q.all Tp:=by
    show (decide ((q.length:Int)=n) && q.all Tp)=_
    rw[show decide ((q.length:Int)=n)=true by simpa using C]
    rfl
   rw[e] at v
   refine Mk (l:=q) (g:=λd=>d) (by simp) (λd=>.bool (Tp d)) (λd S L U D=>?_) ?_
   ·array_get_dec
    refine ⟨d,rfl,pK.mp T d S,?_⟩
    cases d with
    | int i =>
     array_get_dec
     exact D
    | _ =>
     array_get_dec
     exact D
   ·array_get_dec
    refine ⟨q.map Tp,by rw[Bm]; rfl,?_⟩
    rw[Nb]
    array_get_dec
    exact v
end
theorem tF:∀{b:List Ad},b.all Tp=true->∃a:List Int,b=a.map Ah/\∀x∈a,0<=x
 | [],_=>⟨[],rfl,λ_ z=>nomatch z⟩
 | d::b,h=>by
  rw[List.all_cons,Cd] at h
  obtain ⟨a,rfl,c⟩:=tF h.2
  cases d with
  | int i=>exact ⟨i::a,rfl,λx hx=>by
    rcases Ao.mp hx with rfl | hx
    ·simpa [Tp] using h.1
    ·exact c x hx⟩
  | _=>simp [Tp] at h
theorem mY(h:Zj d n=true):∃a:List Int,d=.list (a.map Ah)/\(a.length:Int)=n/\∀x∈a,0<=x:=by
 cases d with
 | list b =>
  have h:(decide ((b.length:Int)=n) && b.all Tp)=true:=h
  rw[Cd] at h
  obtain ⟨a,rfl,c⟩:=tF h.2
  exact ⟨a,rfl,by simpa using h.1,c⟩
 | _=>cases h
noncomputable def GE(ws:List (List Int))(face:List Int)(vs:Int)(a:List Int)(k:Nat):Bool:=@decide (∀(w:List Int) (f x:Int),ws[k]? = some w->face[k]? = some f->a[k]? = some x->∀v:Int,0<=v->v<vs->v≠f->x<=Kl ws face a w v) (Dr _)
theorem vL(ws:List (List Int))(face:List Int)(vs:Int)(a:List Int):bW ws face vs a=(Bq ws.length).all (id ∘ GE ws face vs a):=by
 rw[Vb,Fb]
 unfold bW GE
 simp only[Qd,id,decide_eq_true_eq]
 exact ⟨λh k _=>h k,λh k w f x b=>h k (En.mpr (Af.mp b).1) w f x b⟩
def tS:PF:=λc R=>∃(h:Int) (b:List Int) (vs:Int) (d:Ad),c=[.int h,.list (b.map Ah),.int vs,d]/\0<=h/\h<=5/\b.length=2 ^ h.toNat/\2<=vs/\vs<=16/\KW d /\
 ∀L:List (List Int),L.Perm (Dz h.toNat)->Ord L->(Zj d L.length=false->R (.bool false))/\∀a:List Int,d=.list (a.map Ah)->a.length=L.length->(∀x∈a,0<=x)->R (.bool (bW L b vs a))
section
variable{P:Bp}{w:World}{K:PySem.W.Frag}{mg:Str->Option Value}{base:Heap}
theorem cJ:FnScope ["holes", "reading", "values", "thing", "words"] ["holes", "reading", "values", "thing"] (Bv Ql):=⟨rfl,rfl,rfl,by decide +kernel,rfl,by decide +kernel,by decide +kernel⟩
theorem bR(F:Fun K "shows_least" "shows_least" Ql f fd)(D:FnOk P w K mg base Gv 1 c m ["holes"] (Ko K (Ol)))(G:Binds K m ["holes"] [])(C:PySem.W.keepIn K (.ref c)=true)(B:mg "all_words" = some (.ref c))(y:FnOk P w K mg base Gv 4 b j ["words", "reading", "values", "numbers", "at"] (Ko K (iC)))(v:Binds K j ["words", "reading", "values", "numbers", "at"] [])(z:PySem.W.keepIn K (.ref b)=true)(u:mg "sure_turns" = some (.ref b))(q:FnOk P w K mg base Gv 2 a e ["thing", "many"] (Ko K (yT)))(p:Binds K e ["thing", "many"] [])(t:PySem.W.keepIn K (.ref a)=true)(r:mg "are_numbers" = some (.ref a))(J:mg "len" = none)(N:mg "range" = none)(Q:mg "all" = none):FnOk P w K mg base Gv 5 f fd ["holes", "reading", "values", "thing"] (Ko K (tS)):=by
 refine' Fz (k:=4) F cJ (λh9 A h4 s H E S=>?hb) ?h
 case hb =>
  have h7:Room 1 _:=S.mono (by decide)
  have V:Room 2 _:=S.mono (by decide)
  have k1:Room 3 _:=S.mono (by decide)
  have h6:Room 4 _:=S.mono (by decide)
  have h8:=S.units
  exact Bt (Ej (i:=4) cJ.nd rfl (Ie rfl) (Dc D h7 rfl B C G Dv (Aj (Al (pv 0)) Ay)))
   (Bt (Jw (cA (Ot (Dc q V rfl r t p Dv (Aj (Al (pv 3)) (Aj (Di Gb Jg rfl J (by decide +kernel) (Aj (Al (pv 4)) Ay)) Ay)))))
   (Cq (Ds Ll)) Hf)
   (Cq (Ds (Di (Xg rfl) iV rfl Q (by decide +kernel) (Aj (Gp (ME (x := "at") "reading" "thing" "values" "words" 1 3 2 4 rfl (by decide +kernel) rfl rfl rfl) rfl (Hb rfl N (Aj (Di Gb Jg rfl J (by decide +kernel) (Aj (Al (pv 4)) Ay)) Ay)) (λ_ _ _=>Ei) (λ_ _ _=>HC (Dy (Al (pv 2)) (Al (pv 0))) (Dc y h6 rfl u z v Dv (Aj (Al (pv 4)) (Aj (Al (pv 1)) (Aj (Al (pv 3)) (Aj (Al (pv 2)) (Aj (Al (pv 0)) Ay)))))))) Ay)))))
 case h =>
  (intro ds R q_; obtain ⟨h,I,vs,d,rfl,h0,U,lf,v0,v1,hd,hR⟩ := q_)
  refine ⟨rfl,?_⟩
  array_get_dec
  refine ⟨h,rfl,h0,U,λL Y ho=>?_⟩
  obtain ⟨h5,O⟩:=hR L Y ho
  have lL:L.length=2 ^ h.toNat:=by rw[Y.length_eq,Eh]
  obtain ⟨l1,l2⟩:=Ha (n:=h.toNat) (by omega) Y
  array_get_dec
  rw[Ac]
  refine ⟨d,L.length,rfl,hd,?_⟩
  refine Xq (λT=>?_) (λT=>?_)
  ·array_get_dec
   exact h5 (by simpa using T)
  obtain ⟨o,rfl,ln,nn⟩:=mY (d:=d) (n:=L.length) (by simpa using T)
  have ln:o.length=L.length:=by omega
  have O:=O o rfl ln nn
  array_get_dec
  rw[Ac,Cs]
  refine ⟨by omega,by omega,?_⟩
  refine Mk (l:=Bq L.length) (g:=λi:Nat=>.int i) rfl (λk=>.bool (GE L I vs o k)) (λk Z k0 no hy=>?_) ?_
  ·have Z:=En.mp Z
   obtain ⟨w,hw⟩ : ∃w,L[k]? = some w:=⟨_,Ag Z⟩
   obtain ⟨f,hf⟩ : ∃f,I[k]? = some f:=⟨_,Ag (by omega)⟩
   obtain ⟨x,X⟩ : ∃x,o[k]? = some x:=⟨_,Ag (by omega)⟩
   have ex:Ss (o.map Ah) (k:Int)=some (.int x):=Ml (by rw[Aq,X]; rfl)
   array_get_dec
   refine ⟨_,ex,L,I,o,vs,k,w,f,rfl,by omega,by omega,nn,v0,v1,hw,hf,λM hM=>?_⟩
   array_get_dec
   have : GE L I vs o k=decide (x<=M):=by
    unfold GE
    refine decide_eq_decide.mpr ⟨λh=>(hM x).mpr (h w f x hw hf X),λh w' f' x' U h2 h3=>?_⟩
    rw[hw] at U; cases U
    rw[hf] at h2; cases h2
    rw[X] at h3; cases h3
    exact (hM x).mp h
   rw[this] at hy
   exact hy
  ·array_get_dec
   refine ⟨(Bq L.length).map (GE L I vs o),by rw[Bm]; rfl,?_⟩
   rw[Nb]
   array_get_dec
   rw[vL] at O
   exact O
end
noncomputable def mZ(ws:List (List Int))(face:List Int)(vs:Int)(a:List Int):Bool:=@decide (∀(k:Nat) (w:List Int) (f x:Int),ws[k]? = some w->face[k]? = some f->a[k]? = some x->∃v:Int,0<=v/\v<vs/\v≠f/\Kl ws face a w v<=x) (Dr _)
noncomputable def xQ(ws:List (List Int))(face:List Int)(vs:Int)(a:List Int)(k:Nat):Bool:=@decide (∀(w:List Int) (f x:Int),ws[k]? = some w->face[k]? = some f->a[k]? = some x->∃v:Int,0<=v/\v<vs/\v≠f/\Kl ws face a w v<=x) (Dr _)
theorem o4(ws:List (List Int))(face:List Int)(vs:Int)(a:List Int):mZ ws face vs a=(Bq ws.length).all (id ∘ xQ ws face vs a):=by
 rw[Vb,Fb]
 unfold mZ xQ
 simp only[Qd,id,decide_eq_true_eq]
 exact ⟨λh k _=>h k,λh k w f x b=>h k (En.mpr (Af.mp b).1) w f x b⟩
def lR:PF:=λc R=>∃(h:Int) (b:List Int) (vs:Int) (d:Ad),c=[.int h,.list (b.map Ah),.int vs,d]/\0<=h/\h<=5/\b.length=2 ^ h.toNat/\2<=vs/\vs<=16/\KW d /\
 ∀L:List (List Int),L.Perm (Dz h.toNat)->Ord L->(Zj d L.length=false->R (.bool false))/\∀a:List Int,d=.list (a.map Ah)->a.length=L.length->(∀x∈a,0<=x)->R (.bool (mZ L b vs a))
section
variable{P:Bp}{w:World}{K:PySem.W.Frag}{mg:Str->Option Value}{base:Heap}
theorem Vc:FnScope ["holes", "reading", "values", "thing", "words"] ["holes", "reading", "values", "thing"] (Bv Lh):=⟨rfl,rfl,rfl,by decide +kernel,rfl,by decide +kernel,by decide +kernel⟩
theorem Vh(F:Fun K "shows_most_often" "shows_most_often" Lh f fd)(N:FnOk P w K mg base Gv 1 c o ["holes"] (Ko K (Ol)))(O:Binds K o ["holes"] [])(J:PySem.W.keepIn K (.ref c)=true)(I:mg "all_words" = some (.ref c))(C:FnOk P w K mg base Gv 4 b j ["words", "reading", "values", "numbers", "at"] (Ko K (iC)))(B:Binds K j ["words", "reading", "values", "numbers", "at"] [])(D:PySem.W.keepIn K (.ref b)=true)(y:mg "sure_turns" = some (.ref b))(r:FnOk P w K mg base Gv 2 a e ["thing", "many"] (Ko K (yT)))(p:Binds K e ["thing", "many"] [])(u:PySem.W.keepIn K (.ref a)=true)(t:mg "are_numbers" = some (.ref a))(Q:mg "len" = none)(S:mg "range" = none)(U:mg "all" = none):FnOk P w K mg base Gv 5 f fd ["holes", "reading", "values", "thing"] (Ko K (lR)):=by
 refine' Fz (k:=4) F Vc (λk0 A h5 s H E V=>?hb) ?h
 case hb =>
  have h8:Room 1 _:=V.mono (by decide)
  have h4:Room 2 _:=V.mono (by decide)
  have k2:Room 3 _:=V.mono (by decide)
  have h7:Room 4 _:=V.mono (by decide)
  have h9:=V.units
  exact Bt (Ej (i:=4) Vc.nd rfl (Ie rfl) (Dc N h8 rfl I J O Dv (Aj (Al (pv 0)) Ay)))
   (Bt (Jw (cA (Ot (Dc r h4 rfl t u p Dv (Aj (Al (pv 3)) (Aj (Di Gb Jg rfl Q (by decide +kernel) (Aj (Al (pv 4)) Ay)) Ay)))))
   (Cq (Ds Ll)) Hf)
   (Cq (Ds (Di (Xg rfl) iV rfl U (by decide +kernel) (Aj (Gp (ME (x := "at") "reading" "thing" "values" "words" 1 3 2 4 rfl (by decide +kernel) rfl rfl rfl) rfl (Hb rfl S (Aj (Di Gb Jg rfl Q (by decide +kernel) (Aj (Al (pv 4)) Ay)) Ay)) (λ_ _ _=>Ei) (λ_ _ _=>Z6 (Dy (Al (pv 2)) (Al (pv 0))) (Dc C h7 rfl y D B Dv (Aj (Al (pv 4)) (Aj (Al (pv 1)) (Aj (Al (pv 3)) (Aj (Al (pv 2)) (Aj (Al (pv 0)) Ay)))))))) Ay)))))
 case h =>
  (intro ds R q_; obtain ⟨h,G,vs,d,rfl,h0,Z,lf,v0,v1,hd,hR⟩ := q_)
  refine ⟨rfl,?_⟩
  array_get_dec
  refine ⟨h,rfl,h0,Z,λL hp ho=>?_⟩
  obtain ⟨h6,T⟩:=hR L hp ho
  have lL:L.length=2 ^ h.toNat:=by rw[hp.length_eq,Eh]
  obtain ⟨l1,l2⟩:=Ha (n:=h.toNat) (by omega) hp
  array_get_dec
  rw[Ac]
  refine ⟨d,L.length,rfl,hd,?_⟩
  refine Xq (λY=>?_) (λY=>?_)
  ·array_get_dec
   exact h6 (by simpa using Y)
  obtain ⟨m,rfl,ln,nn⟩:=mY (d:=d) (n:=L.length) (by simpa using Y)
  have ln:m.length=L.length:=by omega
  have T:=T m rfl ln nn
  array_get_dec
  rw[Ac,Cs]
  refine ⟨by omega,by omega,?_⟩
  refine Mk (l:=Bq L.length) (g:=λi:Nat=>.int i) rfl (λk=>.bool (xQ L G vs m k)) (λk hk k1 no hy=>?_) ?_
  ·have hk:=En.mp hk
   obtain ⟨w,hw⟩ : ∃w,L[k]? = some w:=⟨_,Ag hk⟩
   obtain ⟨f,hf⟩ : ∃f,G[k]? = some f:=⟨_,Ag (by omega)⟩
   obtain ⟨x,hx⟩ : ∃x,m[k]? = some x:=⟨_,Ag (by omega)⟩
   have ex:Ss (m.map Ah) (k:Int)=some (.int x):=Ml (by rw[Aq,hx]; rfl)
   array_get_dec
   refine ⟨_,ex,L,G,m,vs,k,w,f,rfl,by omega,by omega,nn,v0,v1,hw,hf,λM hM=>?_⟩
   array_get_dec
   have X:M<=x↔∃v:Int,0<=v/\v<vs/\v≠f/\Kl L G m w v<=x:=by
    constructor
    ·intro q
     refine Eg λz=>?_
     have:=(hM (x+1)).mpr λv z1 z2 z3=>Int.lt_of_not_ge λz4=>z ⟨v,z1,z2,z3,z4⟩
     omega
    ·(intro q_; obtain ⟨v,z1,z2,z3,z4⟩ := q_)
     have:=(hM M).mp (Gs _) v z1 z2 z3
     omega
   have : xQ L G vs m k=decide (M<=x):=by
    unfold xQ
    refine decide_eq_decide.mpr ⟨λh=>X.mpr (h w f x hw hf hx),λh w' f' x' Z h2 h3=>?_⟩
    rw[hw] at Z; cases Z
    rw[hf] at h2; cases h2
    rw[hx] at h3; cases h3
    exact X.mp h
   rw[this] at hy
   exact hy
  ·array_get_dec
   refine ⟨(Bq L.length).map (xQ L G vs m),by rw[Bm]; rfl,?_⟩
   rw[Nb]
   array_get_dec
   rw[o4] at T
   exact T
end
def Gu(P:List (List Int))(f g:List Int->Int)(w:List Int)(v:Int):Int:=Ov ((P.filter λu=>decide (f u=v) && Zf w u).map λu=>g u+1)
def cY(L:List (List Int))(f:List Int->Int)(vs:Int)(g:List Int->Int)(P:List (List Int)):Prop:=∀w∈P,∀x:Int,x<=g w↔∀v:Int,0<=v->v<vs->v≠f w->x<=Gu L f g w v
def Yt(L:List (List Int))(f:List Int->Int)(vs:Int)(g:List Int->Int):Prop:=cY L f vs g L
def jM:PF:=λa R=>∃(h:Int) (L:List (List Int)) (f:List Int->Int) (vs:Int),a=[.list (L.map Bj),.list ((L.map f).map Ah),.int vs]/\0<=h/\h<=5/\L.Perm (Dz h.toNat)/\2<=vs/\vs<=16/\∀g:List Int->Int,Yt L f vs g->R (.list ((L.map g).map Ah))
theorem dG(h:∀x,x∈l↔x∈m):Ov l=Ov m:=by
 have a:∀{l m:List Int},(∀x∈l,x∈m)->Ov l<=Ov m:=λ{l m} h=>by
  by_cases z:0<Ov l
  ·obtain ⟨y,c,e⟩:=(Oi z (l:=l)).mp (Gs _)
   exact (Oi z).mpr ⟨y,h y c,e⟩
  ·have:=Ri m
   omega
 exact Int.le_antisymm (a λx b=>(h x).mp b) (a λx b=>(h x).mpr b)
theorem fP(x:Int):∀l:List Int,Ov (l++[x])=max (Ov l) x
 | []=>by show max x 0=max 0 x; omega
 | a::l=>by
  show max a (Ov (l++[x]))=max (max a (Ov l)) x
  rw[fP x l]
  omega
theorem cZ(P:List (List Int))(f g:List Int->Int)(w u:List Int)(v:Int):Gu (P++[u]) f g w v=if f u=v/\Zf w u=true then max (Gu P f g w v) (g u+1) else Gu P f g w v:=by
 unfold Gu
 rw[Fn,Bg]
 by_cases q:f u=v/\Zf w u=true
 ·rw[if_pos q,List.filter_cons_of_pos (by simp [q.1,q.2])]
  exact fP _ _
 ·rw[if_neg q,List.filter_cons_of_neg (by simpa using q),List.filter_nil,Jj,Dk]
theorem ED:Zf w u=true↔∀i∈w,i∈u:=by
 unfold Zf
 rw[Fb]
 simp
theorem Vr(hw:Iz n w)(d:Iz n u)(a:Zf w u=true)(g:w≠u):w.length<u.length:=by
 rw[ED] at a
 obtain ⟨y,c,f⟩ : ∃y∈u,y∉w:=Eg λz=>g (gG hw d λi=>⟨a i,λq=>Eg λr=>z ⟨i,q,r⟩⟩)
 have:=NdS.len_leI (l2:=u.erase y) (pV hw) λe b=>(List.mem_erase_of_ne (show e≠y from λq=>f (by rw[<- q]; exact b))).mpr (a e b)
 rw[oW c] at this
 have:=sJ c
 omega
theorem Mt(k:Int)(e:Ad)(ks:List (Int×Ad))(v:Int):Qk ((k,e)::ks) v=if k=v then some e else Qk ks v:=by
 unfold Qk
 by_cases h:k=v
 ·rw[List.find?_cons_of_pos (by simpa using h),if_pos h]; rfl
 ·rw[List.find?_cons_of_neg (by simpa using h),if_neg h]
theorem fO:∀{ks:List (Int×Ad)},¬ (ks.any λp=>decide (p.1=w))=true->v=w->Qk ks v=none
 | [],_,_=>rfl
 | (k,e)::ks,h,hv=>by
  rw[Hl,Bool.or_eq_true] at h
  have a:¬ k=w:=λz=>h (.inl (by simpa using z))
  rw[Mt,if_neg (by rw[hv]; exact a)]
  exact fO (λz=>h (.inr z)) hv
theorem oM:∀(ks:List (Int×Ad)),Qk (ks.map λp=>if p.1=w then (p.1,d) else p) v=if v=w/\(ks.any λp=>decide (p.1=w))=true then some d else Qk ks v
 | []=>by simp [Qk]
 | (k,e)::ks=>by
  rw[Ax,Mt k e,Hl]
  have c:=oM (w:=w) (d:=d) (v:=v) ks
  by_cases b:k=w
  ·subst b
   rw[if_pos rfl,Mt,c]
   by_cases a:v=k
   ·subst a; simp
   ·have : ¬ k=v:=λz=>a z.symm
    simp [a,this]
  ·rw[if_neg b,Mt,c]
   by_cases a:v=w
   ·subst a
    rw[if_neg b,show decide (k=v)=false by simpa using b,Bool.false_or,if_neg b]
   ·simp [a]
theorem fU:∀(ks:List (Int×Ad)),Qk (ks++[(w,d)]) v=match Qk ks v with | some e=>some e | none=>if w=v then some d else none
 | []=>by rw[Va,Mt]; rfl
 | (k,e)::ks=>by
  rw[Ez,Mt,Mt,fU ks]
  by_cases a:k=v
  ·rw[if_pos a,if_pos a]
  ·rw[if_neg a,if_neg a]
theorem C7(ks:List (Int×Ad))(w:Int)(d:Ad)(v:Int):Qk (mD ks w d) v=if v=w then some d else Qk ks v:=by
 unfold mD
 split
 ·rename_i h
  rw[oM,h]
  simp
 ·rename_i h
  rw[fU]
  by_cases a:v=w
  ·rw[fO h a,if_pos a,if_pos a.symm]
  ·rw[if_neg a,if_neg (λz=>a z.symm)]
   cases Qk ks v <;> rfl
theorem M1(ks:List (Int×Ad))(w:Int)(d:Ad):(mD ks w d).length<=ks.length+1:=by
 unfold mD
 split
 ·rw[Ac]; omega
 ·rw[Bz]; exact Ar _
def cH(g:List Int->Int)(w:List Int)(X:Int)(u:List Int):Int:=if u=w then X else g u
theorem aS:cH g w X w=X:=if_pos rfl
theorem Pu(h:u≠w):cH g w X u=g u:=if_neg h
theorem aY{n:Int}{L M:List (List Int)}{f g:List Int->Int}{vs X:Int}{i:Nat}{w:List Int}(o:∀u,u∈M↔u∈L)(F:M.Nodup)(m:∀u∈L,Iz n u)(A:M.Pairwise λx y=>y.length<=x.length)(hw:M[i]? = some w)(E:cY L f vs g (M.take i))(D:∀x:Int,x<=X↔∀v:Int,0<=v->v<vs->v≠f w->x<=Gu (M.take i) f g w v):cY L f vs (cH g w X) (M.take (i+1)):=by
 have l:=(Af.mp hw).1
 have C:=(o w).mp (Au hw)
 have h:∀u∈L,w.length<u.length->u∈M.take i:=λu hu H=>by
  obtain ⟨j,b⟩:=Bx.mp ((o u).mpr hu)
  have a:=(Af.mp b).1
  by_cases q:j<i
  ·exact Au (i:=j) (by rw[Ip q]; exact b)
  ·exfalso
   by_cases z:j=i
   ·subst z; rw[hw] at b; cases b; omega
   ·have:=Du.mp A i j l a (by omega)
    rw[Ag l] at hw
    rw[Ag a] at b
    cases hw
    cases b
    omega
 have dN:∀u∈M.take i,w.length<=u.length/\u≠w:=λu hu=>by
  obtain ⟨j,b⟩:=Bx.mp hu
  have q:j<i:=by
   have:=(Af.mp b).1
   rw[Fq] at this
   omega
  rw[Ip q] at b
  have a:=(Af.mp b).1
  rw[Ag l] at hw
  rw[Ag a] at b
  cases hw
  cases b
  refine ⟨Du.mp A j i a l q,λz=>?_⟩
  have r:=Du.mp F j i a l q
  exact r z
 intro u hu x
 rw[Kf,hw] at hu
 have hu:u∈M.take i++[w]:=hu
 rcases Bf.mp hu with hu | hu
 ·obtain ⟨b1,b2⟩:=dN u hu
  have B:=(o u).mp (Su _ _ hu)
  have same:∀v,Gu L f (cH g w X) u v=Gu L f g u v:=λv=>by
   unfold Gu
   congr 1
   refine Es λc k=>?_
   obtain ⟨d,e⟩:=Bi.mp k
   rw[Cd] at e
   have : c≠w:=λz=>by
    subst z
    have:=Vr (m u B) (m c d) e.2 b2
    omega
   rw[Pu this]
  rw[Pu b2]
  simp only[same]
  exact E u hu x
 ·rw[Ak.mp hu,aS,D x]
  refine forall_congr' λv=>forall_congr' λG=>forall_congr' λI=>forall_congr' λr=>?_
  have : Gu (M.take i) f g w v=Gu L f (cH g w X) w v:=by
   unfold Gu
   refine dG λy=>?_
   constructor
   ·intro p
    obtain ⟨c,k,rfl⟩:=Bh.mp p
    obtain ⟨d,e⟩:=Bi.mp k
    exact Bh.mpr ⟨c,Bi.mpr ⟨(o c).mp (Su _ _ d),e⟩,by rw[Pu (dN c d).2]⟩
   ·intro p
    obtain ⟨c,k,rfl⟩:=Bh.mp p
    obtain ⟨d,e⟩:=Bi.mp k
    have s:=e
    rw[Cd,decide_eq_true_eq] at s
    have t:c≠w:=λz=>r (by rw[<- s.1,z])
    have:=Vr (m w C) (m c d) s.2 t.symm
    exact Bh.mpr ⟨c,Bi.mpr ⟨h c d this,e⟩,by rw[Pu t]⟩
  rw[this]
theorem W6:gX .un=true:=rfl
theorem Q8:gX (.dat .sh d)=pW d:=rfl
theorem S0:gX (.dat .ow d)=true:=rfl
theorem R0:pW (.int i)=true:=rfl
theorem Wr{b:Type}{f:b->Ad}(h:∀a,pW (f a)=true):∀l:List b,pT (l.map f)=true
 | []=>rfl
 | a::l=>by show (pW (f a) && pT (l.map f))=true; rw[h a,Wr h l]; rfl
theorem sY(w:List Int):pW (Bj w)=true:=Wr (λ_=>rfl) w
theorem EX(l:List (List Int)):pW (.list (l.map Bj))=true:=Wr sY l
theorem CL(l:List Int):pW (.list (l.map Ah))=true:=Wr (λ_=>rfl) l
theorem vJ(L:List (List Int))(g:List Int->Int):(Sn L g).map (λp=>Bj p.1)=L.map Bj:=by
 unfold Sn
 rw[Bm]
 rfl
theorem zO(h:w∉P):Ta (Sn P g) w (.int X)=Sn (P++[w]) (cH g w X):=by
 unfold Ta
 rw[if_neg]
 ·unfold Sn
  rw[Bg,Ax,Jj,aS]
  congr 1
  refine Es λu a=>?_
  rw[Pu (show u≠w from λz=>h (by rw[<- z]; exact a))]
 ·intro z
  obtain ⟨p,b,e⟩:=List.any_eq_true.mp z
  obtain ⟨u,a,rfl⟩:=Bh.mp b
  have q:u=w:=by simpa using e
  exact h (by rw[<- q]; exact a)
theorem BQ(a b:Int):(if a > b then a else b)=max b a:=by
 by_cases h:a > b
 ·rw[if_pos h]; omega
 ·rw[if_neg h]; omega
section
variable{P:Bp}{w:World}{K:PySem.W.Frag}{mg:Str->Option Value}{base:Heap}
theorem eU:FnScope ["_law_words_here", "_law_face", "_law_values", "_law_shown", "_law_known", "_law_word", "_law_best", "_law_other"] ["_law_words_here", "_law_face", "_law_values"] (Bv Rw):=⟨rfl,rfl,rfl,by decide +kernel,rfl,by decide +kernel,by decide +kernel⟩
theorem fG(F:Fun K "_law_often" "_law_often" Rw f fd)(B:FnOk P w K mg base Gv 1 e m ["_law_one", "_law_other"] (Ko K (bO)))(C:Binds K m ["_law_one", "_law_other"] [])(t:PySem.W.keepIn K (.ref e)=true)(D:mg "_law_lies" = some (.ref e))(I:mg "dict" = none)(S:mg "zip" = none)(p:mg "sorted" = none)(U:mg "len" = none)(T:mg "max" = none)(r:mg "range" = none)(Q:mg "min" = none):FnOk P w K mg base Gv 2 f fd ["_law_words_here", "_law_face", "_law_values"] (Ko K (jM)):=by
 refine' Fz (k:=1) F eU (λk5 A k1 s H E hr=>?hb) ?h
 case hb =>
  have h9:Room 1 _:=hr.mono (by decide)
  have c:=hr.units
  exact Bt (Py (i:=3) eU.nd rfl (Ie rfl) (t7 c rfl I rfl S rfl (Aj (Al (pv 0)) (Aj (Al (pv 1)) Ay))))
   (Bt (Py (i:=4) eU.nd rfl (Ie rfl) P8)
   (Bt (Lx Dn rfl (Yo (O0 (zL rfl p rfl U (Aj (Al (pv 0)) Ay)) (AH zU Ew) (λ_ _ _ h=>⟨_,rfl,h⟩))) (Ep (i:=5) eU.nd rfl (Ie rfl))
   (Bt (Py (i:=6) eU.nd rfl (Ie rfl) Q5)
    (Bt (T2 Dn rfl (pv 4) (Ep (i:=7) eU.nd rfl (Cy rfl))
    (Cq (Jw (Ot (Dc B h9 rfl D t C Dv (Aj (Al (pv 5)) (Aj (Al (pv 7)) Ay))))
     (Cq (V4 c (pv 6) (aH c (Al (pv 3)) (Al (pv 7))) (Di (vK rfl) U1 rfl T (by decide +kernel) (Aj (sU c (Al (pv 6)) (aH c (Al (pv 3)) (Al (pv 7))) Ct ⟨rfl,rfl,rfl,rfl⟩) (Aj (Mu (w4 c (Al (pv 4)) (Al (pv 7))) Ct) Ay))))) Hf)))
    (Cq (V3 c (pv 4) (Al (pv 5)) (Di (Ur rfl) aI rfl Q (by decide +kernel) (Aj (Gp (GH (x := "_law_value") "_law_best" "_law_shown" "_law_word" 6 3 5 rfl (by decide +kernel) rfl rfl rfl) rfl (Hb rfl r (Aj (Al (pv 2)) Ay)) (λ_ _ _=>Kk (Nq c (Al (pv 0)) (aH c (Al (pv 2)) (Al (pv 3))))) (λ_ _ _=>sU c (Al (pv 1)) (Al (pv 0)) Ct ⟨rfl,rfl,rfl,rfl⟩)) Ay)))))))
   (Cq (Ds (Gp (sX (x := "_law_word") "_law_known" 4 rfl (by decide +kernel) rfl rfl rfl) rfl (Yo (Al (pv 0))) (λ_ _ _=>Ei) (λ_ _ _=>aH c (Al (pv 1)) (Al (pv 0))))))))
 case h =>
  (intro ds R J; obtain ⟨h,L,f,vs,rfl,h0,h1,hp,v0,v1,hR⟩ := J)
  refine ⟨rfl,?_⟩
  obtain ⟨l1,l2⟩:=Ha (n:=h.toNat) (by omega) hp
  have nd:=Jx hp
  have hz:Az=16777216:=Fc
  array_get_dec
  refine ⟨by rw[Ac]; omega,L,rfl,?_⟩
  rw[L7 nd f]
  array_get_dec
  refine ⟨L,rfl,mI (n:=h.toNat) (by omega) hp,λM0 hM hs=>?_⟩
  have o:M0.reverse.Perm L:=(List.reverse_perm M0).trans hM
  have h3:M0.reverse.Pairwise λx y=>y.length<=x.length:=List.pairwise_reverse.mpr hs
  rw[<- List.map_reverse]
  generalize M0.reverse=M at o h3
  have h6:M.Nodup:=o.nodup_iff.mpr nd
  have lM:=o.length_eq
  refine Xe (l:=M) (g:=Bj) rfl (λi δ=>∃(g:List Int->Int) (v5 v6 N:DV),δ=⟨[.dat .sh (.list (L.map Bj)),.dat .sh (.list ((L.map f).map Ah)),.dat .sh (.int vs),.dat .ow (.dict (Rg (Sn L f))),.dat .ow (.dict (Rg (Sn (M.take i) g))),v5,v6,N],0⟩/\NP v5/\NP v6/\NP N/\gX N=true/\cY L f vs g (M.take i)) ?_ ?_ ?_
  ·exact ⟨λ_=>0,_,_,_,rfl,He,He,He,rfl,λ_ z=>nomatch z⟩
  ·(intro i w _ O J; obtain ⟨g,v5,v6,N,rfl,k4,k3,h7,h8,ho⟩ := J)
   have wL:=o.mem_iff.mp (Au O)
   have hi:=(Af.mp O).1
   array_get_dec
   have lP:(Sn (M.take i) g).length=i:=by simp only[Sn,Ac,Fq]; omega
   refine ⟨_,rfl,by omega,λa=>?_⟩
   refine ⟨λj δ=>∃(bs:List (Int×Ad)) (N:DV),δ=⟨[.dat .sh (.list (L.map Bj)),.dat .sh (.list ((L.map f).map Ah)),.dat .sh (.int vs),.dat .ow (.dict (Rg (Sn L f))),.dat .sh (.dict (Xn a (Sn (M.take i) g))),.dat .sh (Bj w),.dat .ow (.dict (Zz bs)),N],0⟩/\NP N/\gX N=true/\bs.length<=j/\∀v,(Qk bs v).getD (.int 0)=.int (Gu ((M.take i).take j) f g w v),⟨[],N,rfl,h7,h8,Dg _,λv=>rfl⟩,?_,?_⟩
   ·(intro j d _ hd J; obtain ⟨bs,u7,rfl,h2,ok,lb,hb⟩ := J)
    rw[vJ,Aq] at hd
    cases hu:(M.take i)[j]? with
    | none=>rw[hu] at hd; cases hd
    | some u =>
    rw[hu] at hd
    cases hd
    have uP:=Au hu
    have uL:=o.mem_iff.mp (Su _ _ uP)
    have hj:j<1024:=by
     have:=(Af.mp hu).1
     rw[Fq] at this
     omega
    have tk:(M.take i).take (j+1)=(M.take i).take j++[u]:=by rw[Kf,hu]; rfl
    array_get_dec
    refine ⟨w,u,rfl,?_⟩
    refine Xq (λZ=>?_) (λZ=>?_)
    ·array_get_dec
     refine ⟨_,Ul uL,?_⟩
     array_get_dec
     rw[hb]
     array_get_dec
     refine ⟨_,Ul uP,?_⟩
     array_get_dec
     refine ⟨_,Ul uL,?_⟩
     array_get_dec
     refine ⟨by omega,_,_,rfl,Fl,sY u,Ce (M1 _ _ _) (by omega),λv=>?_⟩
     rw[C7,tk,cZ]
     by_cases q:v=f u
     ·subst q
      rw[if_pos (show f u=f u from rfl),if_pos (show f u=f u/\Zf w u=true from ⟨rfl,Z⟩)]
      rw[aB,BQ]
     ·rw[if_neg q,if_neg (λz=>q z.1.symm)]
      exact hb v
    ·array_get_dec
     refine ⟨bs,_,rfl,Fl,sY u,by omega,λv=>?_⟩
     rw[tk,cZ,if_neg (λz=>by rw[z.2] at Z; cases Z)]
     exact hb v
   ·(intro _ J; obtain ⟨bs,u7,rfl,h2,ok,lb,hb⟩ := J)
    rw[lP] at hb
    refine ⟨rfl,?_,?_⟩
    ·simp only[Zd,List.set_cons_zero,List.all_cons,List.all_nil,W6,Q8,S0,EX,CL,sY,R0,ok,Bool.and_self]
    rw[show (M.take i).take i=M.take i by rw[List.take_take,Nat.min_self]] at hb
    array_get_dec
    refine ⟨by omega,by omega,?_⟩
    refine Wy (l:=Bq vs.toNat) (g:=λi:Nat=>.int i) rfl (λk:Nat=>decide ((k:Int)≠f w)) (λk=>.int (Gu (M.take i) f g w k)) (λk _ k2 no hy hn=>?_) ?_
    ·array_get_dec
     refine ⟨_,Ul wL,?_⟩
     array_get_dec
     refine Kj (λq=>?_) (λq=>?_)
     ·array_get_dec
      rw[hb]
      array_get_dec
      exact hy (by simpa using q)
     ·exact hn (by simpa using q)
    array_get_dec
    have Y:∀b:Int,b∈((Bq vs.toNat).filter λk:Nat=>decide ((k:Int)≠f w)).map (λk:Nat=>Gu (M.take i) f g w k)↔∃v:Int,0<=v/\v<vs/\v≠f w/\b=Gu (M.take i) f g w v:=λb=>by
     constructor
     ·intro q
      obtain ⟨k,hk,rfl⟩:=Bh.mp q
      obtain ⟨G,V⟩:=Bi.mp hk
      have:=En.mp G
      exact ⟨k,by omega,by omega,by simpa using V,rfl⟩
     ·(intro J; obtain ⟨v,G,V,q3,rfl⟩ := J)
      refine Bh.mpr ⟨v.toNat,Bi.mpr ⟨En.mpr (by omega),?_⟩,by rw[Pr G]⟩
      rw[Pr G]
      simpa using q3
    refine ⟨((Bq vs.toNat).filter λk:Nat=>decide ((k:Int)≠f w)).map (λk:Nat=>Gu (M.take i) f g w k),by rw[Bm]; rfl,λz=>?_,λX hX k0=>?_⟩
    ·have G:=(Y (Gu (M.take i) f g w 0)).mpr
     have V:=(Y (Gu (M.take i) f g w 1)).mpr
     rw[z] at G V
     by_cases q:f w=0
     ·exact absurd (V ⟨1,by omega,by omega,by omega,rfl⟩) Bn
     ·exact absurd (G ⟨0,by omega,by omega,by omega,rfl⟩) Bn
    array_get_dec
    have nw:w∉M.take i:=λz=>by
     obtain ⟨j,hj⟩:=Bx.mp z
     have h4:j<i:=by
      have:=(Af.mp hj).1
      rw[Fq] at this
      omega
     rw[Ip h4] at hj
     have h5:=(Af.mp hj).1
     have:=Du.mp h6 j i h5 hi h4
     rw[Ag h5] at hj
     rw[Ag hi] at O
     exact this (Bo (hj.trans O.symm))
    rw[lP]
    have e9:Ta (Sn (M.take i) g) w (.int X)=Sn (M.take (i+1)) (cH g w X):=by
     rw[zO nw,Kf,O]
     rfl
    rw[e9]
    refine ⟨by simp [npk,h2 _],by omega,cH g w X,_,_,_,rfl,Fl,Z5,h2,ok,?_⟩
    ·refine aY (λu=>o.mem_iff) h6 (λu hu=>(l2 u hu).1) h3 O ho λx=>⟨λq v G V q3=>?_,λq=>?_⟩
     ·have:=k0 _ ((Y _).mpr ⟨v,G,V,q3,rfl⟩)
      omega
     ·obtain ⟨v,G,V,q3,rfl⟩:=(Y X).mp hX
      exact q v G V q3
  ·(intro _ J; obtain ⟨g,v5,v6,N,rfl,k4,k3,h7,h8,ho⟩ := J)
   rw[Fp] at ho
   array_get_dec
   rw[Fp]
   refine Mk (l:=L) (g:=Bj) rfl (λw=>.int (g w)) (λw O k2 no hy=>?_) ?_
   ·array_get_dec
    refine ⟨_,Ul (o.mem_iff.mpr O),?_⟩
    array_get_dec
    exact hy
   ·array_get_dec
    have:=hR g λw O=>ho w (o.mem_iff.mpr O)
    rw[Bm] at this
    exact this
end
theorem bX:∀{L:List (List Int)},L.Nodup->∀{face:List Int},face.length=L.length->∃f:List Int->Int,face=L.map f
 | [],_,[],_=>⟨λ_=>0,rfl⟩
 | [],_,_::_,h=>by cases h
 | _::_,_,[],h=>by cases h
 | w::L,nd,x::face,h=>by
  obtain ⟨b,a⟩:=Bw.mp nd
  obtain ⟨f,e⟩:=bX a (face:=face) (by simpa using h)
  refine ⟨cH f w x,?_⟩
  rw[Ax,aS,e]
  congr 1
  refine Es λu c=>?_
  rw[Pu (show u≠w from λz=>b (by rw[<- z]; exact c))]
def rR:PF:=λa R=>∃(h:Int) (L:List (List Int)) (f:List Int->Int) (vs:Int),a=[.int h,.list ((L.map f).map Ah),.int vs]/\0<=h/\h<=5/\L.Perm (Dz h.toNat)/\Ord L/\2<=vs/\vs<=16 /\
 ∀g:List Int->Int,Yt L f vs g->R (.list ((L.map g).map Ah))
theorem G4(L:List (List Int))(f g:List Int->Int)(w:List Int)(v:Int):Kl L (L.map f) (L.map g) w v=Gu L f g w v:=by
 unfold Kl Gu
 refine dG λx=>?_
 have at':∀p:List Int×Nat,p∈L.zipIdx->L[p.2]? = some p.1:=λp c=>by
  obtain ⟨k,a⟩:=Bx.mp c
  obtain ⟨r,q,o,j⟩:=Oa a
  exact Jo.mp c
 constructor
 ·intro h
  obtain ⟨p,c,rfl⟩:=Bh.mp h
  obtain ⟨m,b⟩:=Bi.mp c
  have e:=at' p m
  unfold Pd at b
  rw[Aq,e,Cd,decide_eq_true_eq] at b
  refine Bh.mpr ⟨p.1,Bi.mpr ⟨Au e,?_⟩,?_⟩
  ·rw[Cd,decide_eq_true_eq]
   exact ⟨Bo b.1,b.2⟩
  ·unfold Mr
   rw[Aq,e]
   rfl
 ·intro h
  obtain ⟨u,i,rfl⟩:=Bh.mp h
  obtain ⟨n,d⟩:=Bi.mp i
  rw[Cd,decide_eq_true_eq] at d
  obtain ⟨k,a⟩:=Bx.mp n
  have l:=(Af.mp a)
  refine Bh.mpr ⟨(u,k),Bi.mpr ⟨?_,?_⟩,?_⟩
  ·exact List.mem_zipIdx_iff_getElem?.mpr a
  ·unfold Pd
   rw[Aq,a,Cd,decide_eq_true_eq]
   exact ⟨congrArg some d.1,d.2⟩
  ·unfold Mr
   rw[Aq,a]
   rfl
theorem oE{n:Int}{L M:List (List Int)}{f g:List Int->Int}{i:Nat}{w:List Int}{v:Int}(m:∀u,u∈M↔u∈L)(o:∀u∈L,Iz n u)(t:M.Pairwise λx y=>y.length<=x.length)(hw:M[i]? = some w)(r:v≠f w):Gu L f g w v=Gu (M.take i) f g w v:=by
 have p:=(Af.mp hw).1
 have A:=(m w).mp (Au hw)
 unfold Gu
 refine dG λy=>?_
 constructor
 ·intro h
  obtain ⟨c,l,rfl⟩:=Bh.mp h
  obtain ⟨e,d⟩:=Bi.mp l
  have k:=d
  rw[Cd,decide_eq_true_eq] at k
  have s:c≠w:=λz=>r (by rw[<- k.1,z])
  have B:=Vr (o w A) (o c e) k.2 s.symm
  refine Bh.mpr ⟨c,Bi.mpr ⟨?_,d⟩,rfl⟩
  obtain ⟨j,a⟩:=Bx.mp ((m c).mpr e)
  have b:=(Af.mp a).1
  by_cases q:j<i
  ·exact Au (i:=j) (by rw[Ip q]; exact a)
  ·exfalso
   by_cases z:j=i
   ·subst z; rw[hw] at a; cases a; omega
   ·have:=Du.mp t i j p b (by omega)
    rw[Ag p] at hw
    rw[Ag b] at a
    cases hw
    cases a
    omega
 ·intro h
  obtain ⟨c,l,rfl⟩:=Bh.mp h
  obtain ⟨e,d⟩:=Bi.mp l
  exact Bh.mpr ⟨c,Bi.mpr ⟨(m c).mp (Su _ _ e),d⟩,rfl⟩
theorem M6{L:List (List Int)}(h:L.Nodup){g:List Int->Int}{X:Int}{k:Nat}{w:List Int}(c:L[k]? = some w):(L.map g).set k X=L.map (cH g w X):=by
 refine Eu λj=>?_
 have a:=(Af.mp c).1
 rw[Fj,Aq,Aq]
 by_cases e:k=j
 ·subst e
  rw[if_pos rfl,if_pos (by rw[Ac]; exact a),c]
  exact congrArg some aS.symm
 ·rw[if_neg e]
  cases d:L[j]? with
  | none=>rfl
  | some u =>
   refine congrArg some (Pu λz=>e ?_).symm
   rw[z] at d
   have b:=(Af.mp d).1
   have f:=Du.mp h
   rw[Ag a] at c
   rw[Ag b] at d
   by_cases q:k<j
   ·exact absurd (Bo (c.trans d.symm)) (f k j a b q)
   ·exact absurd (Bo (d.trans c.symm)) (f j k b a (by omega))
theorem Ys{n:Int}{L:List (List Int)}{f g g':List Int->Int}{vs:Int}(m:∀u∈L,Iz n u)(hl:∀u∈L,u.length<=1000)(h:Yt L f vs g)(h':Yt L f vs g'):L.map g=L.map g':=by
 have r:∀(k:Nat) (w:List Int),w∈L->1000<=w.length+k->g w=g' w:=by
  intro k
  induction k with
  | zero =>
   intro w a x
   have e:∀v,v≠f w->Gu L f g w v=Gu L f g' w v:=λv o=>by
    unfold Gu
    congr 1
    refine Es λc q=>?_
    obtain ⟨l,d⟩:=Bi.mp q
    rw[Cd,decide_eq_true_eq] at d
    have p:c≠w:=λz=>o (by rw[<- d.1,z])
    have:=Vr (m w a) (m c l) d.2 p.symm
    have:=hl c l
    omega
   have y:=(h' w a (g w)).mpr λv i j b=>by rw[<- e v b]; exact (h w a (g w)).mp (Gs _) v i j b
   have t:=(h w a (g' w)).mpr λv i j b=>by rw[e v b]; exact (h' w a (g' w)).mp (Gs _) v i j b
   omega
  | succ k s =>
   intro w a x
   have e:∀v,v≠f w->Gu L f g w v=Gu L f g' w v:=λv o=>by
    unfold Gu
    congr 1
    refine Es λc q=>?_
    obtain ⟨l,d⟩:=Bi.mp q
    rw[Cd,decide_eq_true_eq] at d
    have p:c≠w:=λz=>o (by rw[<- d.1,z])
    have:=Vr (m w a) (m c l) d.2 p.symm
    rw[s c l (by omega)]
   have y:=(h' w a (g w)).mpr λv i j b=>by rw[<- e v b]; exact (h w a (g w)).mp (Gs _) v i j b
   have t:=(h w a (g' w)).mpr λv i j b=>by rw[e v b]; exact (h' w a (g' w)).mp (Gs _) v i j b
   omega
 exact Es λw a=>r 1000 w a (by omega)
section
variable{P:Bp}{w:World}{K:PySem.W.Frag}{mg:Str->Option Value}{base:Heap}
theorem E7:FnScope ["holes", "reading", "values", "told", "at", "words"] ["holes", "reading", "values"] (Bv jL):=⟨rfl,rfl,rfl,by decide +kernel,rfl,by decide +kernel,by decide +kernel⟩
theorem L5(F:Fun K "often" "often" jL f fd)(B:FnOk P w K mg base Gv 1 c e ["holes"] (Ko K (Ol)))(D:Binds K e ["holes"] [])(t:PySem.W.keepIn K (.ref c)=true)(r:mg "all_words" = some (.ref c))(p:FnOk P w K mg base Gv 4 b d ["words", "reading", "values", "numbers", "at"] (Ko K (iC)))(o:Binds K d ["words", "reading", "values", "numbers", "at"] [])(q:PySem.W.keepIn K (.ref b)=true)(m:mg "sure_turns" = some (.ref b))(C:mg "len" = none)(G:mg "sorted" = none)(I:mg "range" = none)(tO:PySem.W.tabIn K "often" = some (cO,pO))(h9:fd.code=.ref cO):FnOk P w K mg base Gv 5 f fd ["holes", "reading", "values"] (Ko K (rR)):=by
 refine' lC (k:=4) F E7 (λk5 A h6 s H E k2 N=>?hb) ?h
 case hb =>
  have k0:Room 1 _:=N.mono (by decide)
  have k4:Room 2 _:=N.mono (by decide)
  have k6:Room 3 _:=N.mono (by decide)
  have h8:Room 4 _:=N.mono (by decide)
  have k3:=N.units
  exact Bt (Ej (i:=5) E7.nd rfl (Ie rfl) (Dc B k0 rfl r t D Dv (Aj (Al (pv 0)) Ay)))
   (Bt (Py (i:=3) E7.nd rfl (Cy rfl) (x6 (Fv (Aj Ct Ay)) (Di Gb Jg rfl C (by decide +kernel) (Aj (Al (pv 5)) Ay))))
   (Bt (Lx Dn rfl (Yo (K8 (x := "often") (j:=5) (cw:=s.heap.objs.size+1) rfl N rfl G C rfl I ⟨.head _,⟨_,_,tO,k2.symm.trans h9⟩,rfl,rfl,rfl,λ_ _ _ _=>rfl,rfl,rfl,rfl,rfl,by decide⟩ rfl rfl rfl rfl rfl (Di Gb Jg rfl C (by decide +kernel) (Aj (Al (pv 5)) Ay)))) (Ep (i:=4) E7.nd rfl (Cy rfl))
   (Cq (R1 (pv 3) (Al (pv 4)) (Dc p h8 rfl m q o Dv (Aj (Al (pv 5)) (Aj (Al (pv 1)) (Aj (Al (pv 2)) (Aj (Al (pv 3)) (Aj (Al (pv 4)) Ay)))))))))
   (Cq (Ds (aO (pv 3))))))
 case h =>
  (intro ds R T; obtain ⟨h,L,f,vs,rfl,h0,h1,Q,ho,v0,v1,hR⟩ := T)
  refine ⟨rfl,?_⟩
  array_get_dec
  refine ⟨h,rfl,h0,h1,λL' h7 k1=>?_⟩
  obtain rfl:=Kw (Q.trans h7.symm) ho k1
  have lL:L.length=2 ^ h.toNat:=by rw[Q.length_eq,Eh]
  obtain ⟨l1,l2⟩:=Ha (n:=h.toNat) (by omega) Q
  have nd:=Jx Q
  array_get_dec
  rw[Ac]
  refine ⟨by omega,by omega,by omega,FK (ws:=L) rfl rfl (Nat.le_of_lt_succ (mI (n:=h.toNat) (by omega) Q)) λl pl sl=>?_⟩
  have e0:(Ci (L.length:Int).toNat [Ah 0]).flatten=(L.map λ_=>(0:Int)).map Ah:=by
   rw[Cs,Bm]
   have : ∀l:List (List Int),(Ci l.length [Ah 0]).flatten=l.map (Ah ∘ λ_=>(0:Int)):=by
    intro l
    induction l with
    | nil=>rfl
    | cons a l ih=>rw[Bu,Ga,Ih,ih]; rfl
   exact this L
  rw[e0]
  have h4:∀k∈l,k<L.length:=λk V=>En.mp (pl.mem_iff.mp V)
  obtain ⟨M,Y⟩ : ∃M,l.map (λk=>L.getD k [])=M:=⟨_,rfl⟩
  have U:M.Perm L:=by
   rw[<- Y]
   refine (pl.map _).trans ?_
   have : (Bq L.length).map (λk=>L.getD k [])=L:=by
    refine Eu λj=>?_
    rw[Aq]
    by_cases hj:j<L.length
    ·rw[Xu hj,Ag hj]
     show some (L.getD j [])=_
     rw[Br,Ag hj]
     rfl
    ·rw[Nx (by rw[Co]; omega),Nx (by omega)]
     rfl
   rw[this]
  have sM:M.Pairwise λx y=>y.length<=x.length:=by
   rw[<- Y,Kg]
   exact sl
  have h2:M.Nodup:=U.nodup_iff.mpr nd
  array_get_dec
  refine Xe (l:=l) (g:=λk:Nat=>.int k) rfl (λi δ=>∃(g:List Int->Int) (Z:DV),δ=⟨[.dat .sh (.int h),.dat .sh (.list ((L.map f).map Ah)),.dat .sh (.int vs),.dat .ow (.list ((L.map g).map Ah)),Z,.dat .sh (.list (L.map Bj))],0⟩/\NP Z/\(∀u∈L,0<=g u)/\cY L f vs g (M.take i)) ?_ ?_ ?_
  ·exact ⟨λ_=>0,_,rfl,He,λ_ _=>Gs _,λ_ z=>nomatch z⟩
  ·(intro i k _ V T; obtain ⟨g,Z,rfl,h3,gn,ho⟩ := T)
   have h5:=h4 k (Au V)
   obtain ⟨w,O⟩ : ∃w,L[k]? = some w:=⟨_,Ag h5⟩
   have S:M[i]? = some w:=by
    rw[<- Y,Aq,V]
    show some (L.getD k [])=_
    rw[Br,O]
    rfl
   array_get_dec
   refine ⟨L,L.map f,L.map g,vs,k,w,f w,rfl,by rw[Ac],by rw[Ac],?_,v0,v1,O,by rw[Aq,O]; rfl,λX hX=>?_⟩
   ·intro x hx
    obtain ⟨u,J,rfl⟩:=Bh.mp hx
    exact gn u J
   array_get_dec
   simp only[G4] at hX
   have X0:0<=X:=(hX 0).mpr λv _ _ _=>Ri _
   refine ⟨k,by unfold yF; rw[Ac,Ac,if_pos (by omega),if_pos (by omega),Cs],cH g w X,.dat .sh (.int k),?_,Fl,λu J=>?_,?_⟩
   ·rw[<- M6 nd O,Ea]
   ·by_cases z:u=w
    ·rw[z,aS]; exact X0
    ·rw[Pu z]; exact gn u J
   ·refine aY (λu=>U.mem_iff) h2 (λu J=>(l2 u J).1) sM S ho λx=>(hX x).trans ?_
    refine forall_congr' λv=>forall_congr' λq1=>forall_congr' λq2=>forall_congr' λq3=>?_
    rw[oE (λu=>U.mem_iff) (λu J=>(l2 u J).1) sM S q3]
  ·(intro _ T; obtain ⟨g,Z,rfl,h3,gn,J⟩ := T)
   have lM:M.length=l.length:=by rw[<- Y,Ac]
   rw[<- lM,Fp] at J
   array_get_dec
   exact hR g λw O=>J w (U.mem_iff.mpr O)
end
theorem R5(ws:List (List Int))(face w:List Int)(v:Int):((Ex ws face w v).map (·.2)).Pairwise (· < ·):=by
 unfold Ex
 refine List.Pairwise.sublist ((List.filter_sublist (l:=ws.zipIdx)).map _) ?_
 rw[List.zipIdx_map_snd,List.range'_eq_map_range]
 exact Kg.mpr (List.pairwise_lt_range.imp λz=>by omega)
theorem pA(h:∃i,((Ex ws face w v).map (·.2))[i]? = some M/\∀(j x:Nat),j<i->((Ex ws face w v).map (·.2))[j]? = some x->HT.lexLt (Pn a b x) (Pn a b M)=true)(l:r∈Ex ws face w v)(lt:r.2<M):HT.lexLt (Pn a b r.2) (Pn a b M)=true:=by
 obtain ⟨i,m,k⟩:=h
 obtain ⟨j,c⟩:=Bx.mp (Hd (f:=(·.2)) l)
 refine k j r.2 (Eg λz=>?_) c
 obtain ⟨g,n⟩:=Af.mp m
 obtain ⟨d,o⟩:=Af.mp c
 rcases Nat.lt_or_ge i j with q | q
 ·have:=Du.mp (R5 ws face w v) i j g d q
  omega
 ·have e:i=j:=by omega
  subst e
  omega
def wM(ws:List (List Int))(face a:List Int)(k:Nat)(v:Int)(r:Option Nat):Prop:=∃(w:List Int) (f:Int),ws[k]? = some w/\face[k]? = some f /\
 ((f=v/\r=some k)\/(f≠v/\r=none/\Ex ws face w v=[])\/(f≠v/\∃p∈Ex ws face w v,r=some p.2/\(∀q∈Ex ws face w v,HT.lexLt (Pn a (Vn ws) p.2) (Pn a (Vn ws) q.2)=false)/\∀q∈Ex ws face w v,q.2<p.2->HT.lexLt (Pn a (Vn ws) q.2) (Pn a (Vn ws) p.2)=true))
def CW:Option Nat->Ad
 | none=>.none
 | some k=>.int k
def BA:PF:=λd R=>∃(c:List (List Int)) (a b:List Int) (k:Nat) (v:Int),d=[.list (c.map Bj),.list (a.map Ah),.list (b.map Ah),.int k,.int v]/\c.length=a.length/\c.length=b.length/\k<c.length /\
 ∀r,wM c a b k v r->R (CW r)
section
variable{P:Bp}{w:World}{K:PySem.W.Frag}{mg:Str->Option Value}{base:Heap}
theorem yA:FnScope ["words", "reading", "numbers", "at", "value", "found"] ["words", "reading", "numbers", "at", "value"] (Bv cU):=⟨rfl,rfl,rfl,by decide +kernel,rfl,by decide +kernel,by decide +kernel⟩
theorem wR(F:Fun K "cut_by" "cut_by" cU f X)(n:FnOk P w K mg base Gv 2 b d ["words", "reading", "word", "value"] (Ko K (jW)))(m:Binds K d ["words", "reading", "word", "value"] [])(g:PySem.W.keepIn K (.ref b)=true)(o:mg "showing" = some (.ref b))(u:mg "max" = none)(t:mg "len" = none)(tO:PySem.W.tabIn K "cut_by" = some (Z,pO))(U:X.code=.ref Z):FnOk P w K mg base Gv 3 f X ["words", "reading", "numbers", "at", "value"] (Ko K (BA)):=by
 refine' lC (k:=2) F yA (λh0 A S s H E Y y=>?hb) ?h
 case hb =>
  have h2:Room 1 _:=y.mono (by decide)
  have O:Room 2 _:=y.mono (by decide)
  have I:=y.units
  exact Bt (Jw (Oy I (Dy (Al (pv 1)) (Al (pv 3))) (Al (pv 4)))
   (Cq (Ds (Tr (Al (pv 3))))) Hf)
   (Bt (Ej (i:=5) yA.nd rfl (Cy rfl) (Dc n O rfl o g m Dv (Aj (Al (pv 0)) (Aj (Al (pv 1)) (Aj (Dy (Al (pv 0)) (Al (pv 3))) (Aj (Al (pv 4)) Ay))))))
   (Cq (Ds (zP (oO (Al (pv 5))) (W9 (x := "cut_by") (jn:=2) (jw:=0) (cw:=s.heap.objs.size+1) (cn:=s.heap.objs.size+2) rfl y rfl u t ⟨.tail _ (.head _),⟨_,_,tO,Y.symm.trans U⟩,rfl,rfl,rfl,λ_ _ _ _=>rfl,rfl,rfl,rfl,rfl,by decide⟩ rfl rfl rfl rfl rfl rfl rfl rfl rfl (Al (pv 5))) J5))))
 case h =>
  (intro ds R q_; obtain ⟨B,c,D,k,v,rfl,l1,l2,hk,V⟩ := q_)
  refine ⟨rfl,?_⟩
  obtain ⟨w,N⟩ : ∃w,B[k]? = some w:=⟨_,Ag hk⟩
  obtain ⟨f,L⟩ : ∃f,c[k]? = some f:=⟨_,Ag (by omega)⟩
  have ef:Ss (c.map Ah) (k:Int)=some (.int f):=Ml (by rw[Aq,L]; rfl)
  have ew:Ss (B.map Bj) (k:Int)=some (Bj w):=Ml (by rw[Aq,N]; rfl)
  array_get_dec
  refine ⟨_,ef,dp,?_⟩
  array_get_dec
  refine Xq (λq=>?_) (λq=>?_)
  ·array_get_dec
   exact V (some k) ⟨w,f,N,L,.inl ⟨by simpa using q,rfl⟩⟩
  have q:f≠v:=by simpa using q
  array_get_dec
  refine ⟨_,ew,B,c,w,v,rfl,l1,?_⟩
  array_get_dec
  refine AE (λC=>?_) (λC=>?_)
  ·array_get_dec
   rw[show (Ex B c w v).map (λp=>Ah p.2)=((Ex B c w v).map (·.2)).map (λk:Nat=>Ah k) by rw[Bm]; rfl]
   show ∃(ns:List Nat) (T:List Int) (h1:List (List Int)),_
   refine ⟨(Ex B c w v).map (·.2),D,B,rfl,rfl,rfl,λz=>?_,λj hj=>?_,λM hM J G=>?_⟩
   ·rw[Fh.mp z] at C
    cases C
   ·obtain ⟨p,Q,rfl⟩:=Bh.mp hj
    have:=Jo.mp (Bi.mp Q).1
    have:=(Af.mp this).1
    omega
   ·obtain ⟨p,Q,rfl⟩:=Bh.mp hM
    exact ⟨_,rfl,V (some p.2) ⟨w,f,N,L,.inr (.inr ⟨q,p,Q,rfl,λr y=>J r.2 (Hd y),λr y lt=>pA G y lt⟩)⟩⟩
  ·array_get_dec
   refine V none ⟨w,f,N,L,.inr (.inl ⟨q,rfl,?_⟩)⟩
   cases e:Ex B c w v with
   | nil=>rfl
   | cons a l=>rw[e] at C; cases C
end
inductive WrR (ws:List (List Int)) (face nums:List Int):Nat->List Int->List Nat->Bool->Prop
 | done (k:Nat):WrR ws face nums k [] [] true
 | stuck {k:Nat} {v:Int} {row:List Int}:wM ws face nums k v none->WrR ws face nums k (v::row) [] false
 | step {k:Nat} {v:Int} {row:List Int} {M:Nat} {ms:List Nat} {b:Bool}:wM ws face nums k v (some M)->WrR ws face nums M row ms b->WrR ws face nums k (v::row) (M::ms) b
def T8(b:Bool):Str:=if b then "written" else "stuck"
def HY(L:List (List Int))(b:Bool)(a:List Nat):Ad:=.tuple [.str (T8 b),.list ((a.map λm=>L.getD m []).map Bj)]
def Ym:PF:=λf R=>∃(h:Int) (L:List (List Int)) (c a w:List Int) (k:Nat) (d:List Int),f=[.int h,.list (c.map Ah),.list (a.map Ah),Bj w,.list (d.map Ah)]/\0<=h/\h<=5/\L.Perm (Dz h.toNat)/\Ord L /\
 L.length=c.length/\L.length=a.length/\L[k]? = some w/\d.length<=1000/\∀e b,WrR L c a k d e b->R (HY L b e)
theorem qR(h:wM ws face a k v (some M)):M<ws.length:=by
 obtain ⟨w,f,b,d,⟨_,e⟩ | ⟨_,e,_⟩ | ⟨_,p,c,e,_⟩⟩:=h
 ·cases e
  exact (Af.mp b).1
 ·cases e
 ·cases e
  exact (Af.mp (Jo.mp (Bi.mp c).1)).1
theorem cE{L:List (List Int)}(b:L.Nodup){k:Nat}{w:List Int}(h:L[k]? = some w):(L.map Bj).findIdx? (λe=>Dw e (Bj w))=some k:=by
 obtain ⟨a,e⟩:=Af.mp h
 refine List.findIdx?_eq_some_iff_getElem.mpr ⟨by rw[Ac]; exact a,?_,λj c=>?_⟩
 ·rw[List.getElem_map,e,Xi]
  simp
 ·rw[List.getElem_map,Xi]
  have:=Du.mp b j k (by omega) a c
  rw[e] at this
  simpa using this
section
variable{P:Bp}{w:World}{K:PySem.W.Frag}{mg:Str->Option Value}{base:Heap}
theorem sA:FnScope ["holes", "reading", "numbers", "word", "row", "words", "at", "told", "value"] ["holes", "reading", "numbers", "word", "row"] (Bv Yh):=⟨rfl,rfl,rfl,by decide +kernel,rfl,by decide +kernel,by decide +kernel⟩
theorem qI(F:Fun K "written" "written" Yh f fd)(q:FnOk P w K mg base Gv 1 a d ["holes"] (Ko K (Ol)))(t:Binds K d ["holes"] [])(p:PySem.W.keepIn K (.ref a)=true)(o:mg "all_words" = some (.ref a))(z:FnOk P w K mg base Gv 3 e j ["words", "reading", "numbers", "at", "value"] (Ko K (BA)))(D:Binds K j ["words", "reading", "numbers", "at", "value"] [])(C:PySem.W.keepIn K (.ref e)=true)(G:mg "cut_by" = some (.ref e)):FnOk P w K mg base Gv 4 f fd ["holes", "reading", "numbers", "word", "row"] (Ko K (Ym)):=by
 refine' Fz (k:=3) F sA (λh5 A V s H E N=>?hb) ?h
 case hb =>
  have Z:Room 1 _:=N.mono (by decide)
  have h4:Room 2 _:=N.mono (by decide)
  have X:Room 3 _:=N.mono (by decide)
  have O:=N.units
  exact Bt (Ej (i:=5) sA.nd rfl (Cy rfl) (Dc q Z rfl o p t Dv (Aj (Al (pv 0)) Ay)))
   (Bt (Ej (i:=6) sA.nd rfl (Cy rfl) (nJ O (Al (pv 5)) (Al (pv 3))))
   (Bt (Py (i:=7) sA.nd rfl (Cy rfl) (Fv Ay))
   (Bt (Lx Dn rfl (Yo (Al (pv 4))) (Ep (i:=8) sA.nd rfl (Cy rfl))
   (Bt (Ej (i:=6) sA.nd rfl (Cy rfl) (Dc z X rfl G C D Dv (Aj (Al (pv 5)) (Aj (Al (pv 1)) (Aj (Al (pv 2)) (Aj (Al (pv 6)) (Aj (Al (pv 8)) Ay)))))))
    (Bt (Jw (CD (Al (pv 6)) J5)
    (Cq (Ds (Qg (Aj Rf (Aj (aO (pv 7)) Ay))))) Hf)
    (Cq (fY (pv 7) (Dy (Al (pv 5)) (Al (pv 6))))))))
   (Cq (Ds (Qg (Aj Rf (Aj (aO (pv 7)) Ay))))))))
 case h =>
  (intro ds R Q; obtain ⟨h,L,y,x,w,k,B,rfl,h0,h1,U,ho,l1,l2,hw,lr,hR⟩ := Q)
  refine ⟨rfl,?_⟩
  array_get_dec
  refine ⟨h,rfl,h0,h1,λL' Y h3=>?_⟩
  obtain rfl:=Kw (U.trans Y.symm) ho h3
  obtain ⟨m1,m2⟩:=Ha (n:=h.toNat) (by omega) U
  have nd:=Jx U
  have hk:=(Af.mp hw).1
  array_get_dec
  refine ⟨k,cE nd hw,?_⟩
  refine Xe (l:=B) (g:=Ah) rfl (λi δ=>∃(c:Nat) (J:List Nat) (T:DV),δ=⟨[.dat .sh (.int h),.dat .sh (.list (y.map Ah)),.dat .sh (.list (x.map Ah)),.dat .sh (Bj w),.dat .sh (.list (B.map Ah)),.dat .sh (.list (L.map Bj)),.dat .sh (.int c),.dat .ow (.list ((J.map λm=>L.getD m []).map Bj)),T],0⟩/\c<L.length/\J.length=i/\NP T/\∀I b,WrR L y x c (B.drop i) I b->WrR L y x k B (J++I) b) ?_ ?_ ?_
  ·exact ⟨k,[],_,rfl,hk,rfl,He,λI b h=>h⟩
  ·(intro i v _ hv Q; obtain ⟨c,J,T,rfl,hc,lm,h2,S⟩ := Q)
   have hi:=(Af.mp hv).1
   have dr:B.drop i=v::B.drop (i+1):=by
    rw[Lb hi,(Af.mp hv).2]
   array_get_dec
   refine ⟨L,y,x,c,v,rfl,l1,l2,hc,λr N=>?_⟩
   cases r with
   | none =>
    dsimp only [CW]
    array_get_dec
    simp only[Vt]
    array_get_dec
    exact hR J false (by have:=S [] false (by rw[dr]; exact .stuck N); rwa [Dk] at this)
   | some M =>
    dsimp only [CW]
    have hM:=qR N
    obtain ⟨u,hu⟩ : ∃u,L[M]? = some u:=⟨_,Ag hM⟩
    array_get_dec
    simp only[Vt]
    array_get_dec
    have gu:L.getD M []=u:=by rw[Br,hu]; rfl
    refine ⟨Bj u,Ml (by rw[Aq,hu]; rfl),im,by rw[Ac,Ac]; omega,M,J++[M],.dat .sh (.int v),?_,hM,by rw[Bz,lm]; rfl,Fl,λI b hh=>?_⟩
    ·rw[Bg,Bg,Ax,gu]
     rfl
    ·have:=S (M::I) b (by rw[dr]; exact .step N hh)
     rw[Df]
     exact this
  ·(intro _ Q; obtain ⟨c,J,T,rfl,hc,lm,h2,S⟩ := Q)
   rw[List.drop_length] at S
   array_get_dec
   exact hR J true (by have:=S [] true (.done c); rwa [Dk] at this)
end
theorem iX(a:wM ws face c k v r)(b:wM ws face c k v s):r=s:=by
 obtain ⟨w,f,y,x,t⟩:=a
 obtain ⟨B,A,j,h,q⟩:=b
 rw[y] at j
 rw[x] at h
 cases j
 cases h
 rcases t with ⟨e,rfl⟩ | ⟨g,rfl,e⟩ | ⟨g,p,d,rfl,u,fs⟩
 ·rcases q with ⟨_,rfl⟩ | ⟨g,_⟩ | ⟨g,_⟩
  ·rfl
  ·exact absurd e g
  ·exact absurd e g
 ·rcases q with ⟨m,_⟩ | ⟨_,rfl,_⟩ | ⟨_,p,d,_⟩
  ·exact absurd m g
  ·rfl
  ·rw[e] at d; cases d
 ·rcases q with ⟨m,_⟩ | ⟨_,_,e⟩ | ⟨_,o,i,rfl,n,l⟩
  ·exact absurd m g
  ·rw[e] at d; cases d
  ·rcases Nat.lt_trichotomy p.2 o.2 with z | z | z
   ·have:=l p d z
    rw[u o i] at this
    cases this
   ·rw[z]
   ·have:=fs o i z
    rw[n p d] at this
    cases this
theorem EJ(h:WrR ws face c k d j b):∀{a:List Nat} {f:Bool},WrR ws face c k d a f->j=a/\b=f:=by
 induction h with
 | done k =>
  intro a f g
  cases g
  exact ⟨rfl,rfl⟩
 | stuck h =>
  intro a f g
  cases g with
  | stuck _=>exact ⟨rfl,rfl⟩
  | step i _=>have:=iX h i; cases this
 | step h t l =>
  intro a f g
  cases g with
  | stuck i=>have:=iX h i; cases this
  | step i m =>
   have e:=iX h i
   cases e
   obtain ⟨o,n⟩:=l m
   exact ⟨by rw[o],n⟩
def Lw(w:List Int):Int:=w.foldl (λv p=>Builtin.bitXor v (p+1)) 0
def vC:PF:=λa R=>∃w:List Int,a=[Bj w]/\R (.int (Lw w))
def mK:PF:=λa R=>∃k:Int,a=[.int k]/\1<=k/\k<=2/\∀L:List (List Int),L.Perm (Dz (2 ^ k.toNat - 1))->Ord L->R (.list (L.map λw=>.int (Lw w)))
section
variable{P:Bp}{w:World}{K:PySem.W.Frag}{mg:Str->Option Value}{base:Heap}
theorem Zv:FnScope ["word", "value", "place"] ["word"] (Bv Pf):=⟨rfl,rfl,rfl,by decide +kernel,rfl,by decide +kernel,by decide +kernel⟩
theorem Zw(F:Fun K "folded_value" "folded_value" Pf f d):FnOk P w K mg base Gv 1 f d ["word"] (Ko K (vC)):=by
 refine' Fz (k:=0) F Zv (λm A b s H E q=>?hb) ?h
 case hb =>
  have c:=q.units
  exact Bt (Ej (i:=1) Zv.nd rfl (Cy rfl) Ct)
   (Bt (Lx Dn rfl (MM (Al (pv 0))) (Ep (i:=2) Zv.nd rfl (Cy rfl))
   (Cq (Ej (i:=1) Zv.nd rfl (Cy rfl) (BM (Al (pv 1)) (Mu (Al (pv 2)) Ct)))))
   (Cq (Ds (Tr (Al (pv 1))))))
 case h =>
  (intro r R a; obtain ⟨w,rfl,j⟩ := a)
  refine ⟨rfl,?_⟩
  array_get_dec
  refine Xe (l:=w) (g:=Ah) rfl (λi n=>∃v:DV,n=⟨[.dat .sh (Bj w),.dat .sh (.int (Lw (w.take i))),v],0⟩/\NP v) ?_ ?_ ?_
  ·exact ⟨_,rfl,He⟩
  ·(intro i p _ o a; obtain ⟨v,rfl,e⟩ := a)
   array_get_dec
   refine ⟨.dat .sh (.int p),lI ?_ rfl,Fl⟩
   rw[List.take_succ,o]
   unfold Lw
   rw[show ((some p).toList)=[p] from rfl,aD]
   rfl
  ·(intro _ a; obtain ⟨v,rfl,e⟩ := a)
   array_get_dec
   rw[Fp]
   exact j
theorem wN:FnScope ["k"] ["k"] (Bv cQ):=⟨rfl,rfl,rfl,by decide +kernel,rfl,by decide +kernel,by decide +kernel⟩
theorem vP(F:Fun K "folded" "folded" cQ f z)(p:FnOk P w K mg base Gv 1 b d ["holes"] (Ko K (Ol)))(q:Binds K d ["holes"] [])(o:PySem.W.keepIn K (.ref b)=true)(n:mg "all_words" = some (.ref b))(j:FnOk P w K mg base Gv 1 a c ["word"] (Ko K (vC)))(e:Binds K c ["word"] [])(i:PySem.W.keepIn K (.ref a)=true)(m:mg "folded_value" = some (.ref a)):FnOk P w K mg base Gv 2 f z ["k"] (Ko K (mK)):=by
 refine' Fz (k:=1) F wN (λB A u s H E y=>?hb) ?h
 case hb =>
  have r:Room 1 _:=y.mono (by decide)
  have v:=y.units
  exact Cq (Ds (Gp (AW (x := "word") rfl (by decide +kernel)) rfl (Yo (Dc p r rfl n o q Dv (Aj (pP (FT Ct (Al (pv 0))) Ct) Ay))) (λ_ _ _=>Ei) (λ_ _ _=>Dc j r rfl m i e Dv (Aj (Al (pv 0)) Ay))))
 case h =>
  (intro Q R I; obtain ⟨k,rfl,T,N,J⟩ := I)
  refine ⟨rfl,?_⟩
  array_get_dec
  refine ⟨⟨by omega,by omega,by decide⟩,?_⟩
  have G:(1 * 2 ^ k.toNat - 1:Int)=((2 ^ k.toNat - 1:Nat):Int)/\(2 ^ k.toNat - 1:Nat)<=3:=by
   rcases (by omega:k=1\/k=2) with rfl | rfl <;> decide
  rw[G.1]
  refine ⟨_,rfl,by omega,by omega,λL t M=>?_⟩
  rw[Cs] at t
  have S:=Ha (by omega) t
  array_get_dec
  refine Mk (l:=L) (g:=Bj) rfl (λw=>.int (Lw w)) (λw _ D O C=>?_) ?_
  ·array_get_dec
   exact ⟨w,rfl,im,C⟩
  ·array_get_dec
   exact J L t M
end
def zH:PF:=λb R=>∃(h:Int) (a w:List Int) (v:Int),b=[.int h,.list (a.map Ah),Bj w,.int v]/\0<=h/\h<=5/\a.length=2 ^ h.toNat /\
 ∀L:List (List Int),L.Perm (Dz h.toNat)->Ord L->(Ex L a w v=[]->R (.tuple [.str "never"]))/\∀p∈Ex L a w v,(∀q∈Ex L a w v,p.1.length<=q.1.length)->R (.tuple [.str "cut",Bj p.1])
section
variable{P:Bp}{w:World}{K:PySem.W.Frag}{mg:Str->Option Value}{base:Heap}
theorem nZ:FnScope ["holes", "reading", "word", "value", "words", "found"] ["holes", "reading", "word", "value"] (Bv Wd):=⟨rfl,rfl,rfl,by decide +kernel,rfl,by decide +kernel,by decide +kernel⟩
theorem mR(F:Fun K "next_cut" "next_cut" Wd f fd)(y:FnOk P w K mg base Gv 1 b m ["holes"] (Ko K (Ol)))(B:Binds K m ["holes"] [])(u:PySem.W.keepIn K (.ref b)=true)(t:mg "all_words" = some (.ref b))(G:FnOk P w K mg base Gv 2 c n ["words", "reading", "word", "value"] (Ko K (jW)))(D:Binds K n ["words", "reading", "word", "value"] [])(C:PySem.W.keepIn K (.ref c)=true)(I:mg "showing" = some (.ref c))(M:mg "min" = none)(N:mg "len" = none):FnOk P w K mg base Gv 3 f fd ["holes", "reading", "word", "value"] (Ko K (zH)):=by
 refine' Fz (k:=2) F nZ (λh3 A U s H E V=>?hb) ?h
 case hb =>
  have Z:Room 1 _:=V.mono (by decide)
  have S:Room 2 _:=V.mono (by decide)
  have h2:=V.units
  exact Bt (Ej (i:=4) nZ.nd rfl (Ie rfl) (Dc y Z rfl t u B Dv (Aj (Al (pv 0)) Ay)))
   (Bt (Xl (o:=false) (i0:=5) nZ.nd rfl rfl (sX (x := "at") "words" 4 rfl (by decide +kernel) rfl rfl rfl) rfl (Yo (Dc G S rfl I C D Dv (Aj (Al (pv 4)) (Aj (Al (pv 1)) (Aj (Al (pv 2)) (Aj (Al (pv 3)) Ay)))))) (λ_ _ _=>Ei) (λ_ _ _=>Dy (Al (pv 1)) (Al (pv 0))))
   (Cq (Ds (zP (oO (Al (pv 5))) (Qg (Aj Rf (Aj (Tr (P0 rfl rfl M rfl N (Aj (Al (pv 5)) Ay))) Ay))) (Qg (Aj Rf Ay))))))
 case h =>
  (intro ds R q_; obtain ⟨h,r,w,v,rfl,h0,h1,hf,hR⟩ := q_)
  refine ⟨rfl,?_⟩
  array_get_dec
  refine ⟨h,rfl,h0,h1,λL Q ho=>?_⟩
  obtain ⟨X,T⟩:=hR L Q ho
  have lL:L.length=2 ^ h.toNat:=by rw[Q.length_eq,Eh]
  array_get_dec
  refine ⟨L,r,w,v,rfl,by omega,?_⟩
  array_get_dec
  refine Mk (l:=Ex L r w v) (g:=λp=>.int p.2) rfl (λp=>Bj p.1) (λp Q h4 no hy=>?_) ?_
  ·obtain ⟨k,hk⟩:=Bx.mp (Bi.mp Q).1
   obtain ⟨ek,Y,h6,h5⟩:=Oa hk
   array_get_dec
   refine ⟨Bj p.1,by rw[ek,Ml (a:=Bj p.1)]; rw[Aq,Y]; rfl,im,hy⟩
  ·array_get_dec
   refine AE (λO=>?_) (λO=>?_)
   ·array_get_dec
    refine ⟨λi=>match (Ex L r w v)[i]? with | some p=>p.1.length | none=>0,λz=>?_,λi d J=>?_,λi d J hm=>?_⟩
    ·rw[z] at O; cases O
    ·rw[Aq] at J
     cases e:(Ex L r w v)[i]? with
     | none=>rw[e] at J; cases J
     | some p=>rw[e] at J; cases J; simp [DZ,Bj,e]
    ·rw[Aq] at J
     cases e:(Ex L r w v)[i]? with
     | none=>rw[e] at J; cases J
     | some p =>
      rw[e] at J; cases J
      refine ⟨im,T p (Au e) λq hq=>?_⟩
      obtain ⟨j,hj⟩:=Bx.mp hq
      have:=(hm j (by rw[Ac]; exact (Af.mp hj).1)).1
      simpa only [e,hj] using this
   ·array_get_dec
    refine X ?_
    cases e:Ex L r w v with
    | nil=>rfl
    | cons a l=>rw[e] at O; cases O
end
def Ic(ws:List (List Int))(w:List Int):List Int:=(ws.zipIdx.filter λp=>Zf w p.1).map λp=>(p.2:Int)
def oI:PF:=λa R=>∃L:List (List Int),a=[.list (L.map Bj)]/\L.length<=1024/\R (.list (L.map λw=>.list ((Ic L w).map Ah)))
section
variable{P:Bp}{w:World}{K:PySem.W.Frag}{mg:Str->Option Value}{base:Heap}
theorem bY:FnScope ["_law_words_here"] ["_law_words_here"] (Bv Nc):=⟨rfl,rfl,rfl,by decide +kernel,rfl,by decide +kernel,by decide +kernel⟩
theorem cB(F:Fun K "_law_beyond" "_law_beyond" Nc f J)(m:FnOk P w K mg base Gv 1 a d ["_law_one", "_law_other"] (Ko K (bO)))(n:Binds K d ["_law_one", "_law_other"] [])(o:PySem.W.keepIn K (.ref a)=true)(i:mg "_law_lies" = some (.ref a))(b:mg "enumerate" = none):FnOk P w K mg base Gv 2 f J ["_law_words_here"] (KS K (oI)):=by
 refine' u3 (k:=1) F bY (λv A q s H E I=>?hb) ?h
 case hb =>
  have D:Room 1 _:=I.mono (by decide)
  have G:=I.units
  have C:∀{e:Scope} (h:e={ kind:=.function,names:=[(".0",.local),("_law_word",.cell),("enumerate",.globalImplicit),("_law_words_here",.free)],isGenerator:=false,isCoroutine:=false }),
    CompScope (Sr Gv P w K mg base ["_law_words_here"] "_law_beyond" (Bv Nc) f v A q s H E).nox e [("_law_words_here",s.heap.objs.size+1)] "_law_word" ["_law_words_here"] [0]:=by
   rintro e rfl
   refine ⟨by rfl,.inr ⟨"_law_word",λ_=>rfl,rfl,by decide +kernel⟩,by rfl,by decide +kernel,.inr rfl,λy c h=>?_,by rfl,by decide +kernel,rfl,λk y j t u=>?_⟩
   ·have z:=Mw h
    simp only[Ao,Bn,or_false,Prod.mk.injEq] at z
    obtain ⟨rfl,rfl⟩:=z; rfl
   ·match k,t,u with
    | 0,t,u=>cases t; cases u; exact ⟨rfl,rfl,by first | exact .inl rfl | exact .inr rfl⟩
    | k+1,t,u=>cases t
  exact Cq (Ds (bQ (C rfl) rfl (Yo (Al (pv 0))) (λ_ _ _=>Ei) (λ_ _ _=>bS (sX (x := "_law_j") "_law_word" 0 rfl (by decide +kernel) rfl rfl rfl) (.inl rfl) (by decide +kernel) rfl (Ra rfl b (Aj (Al (pv 1)) Ay)) (λ_ _ _=>Kk (Ot (Dc m D rfl i o n Dv (Aj (Al (pv 2)) (Aj (Al (pv 1)) Ay))))) (λ_ _ _=>Al (pv 0)))))
 case h =>
  (intro S R O; obtain ⟨L,rfl,U,Q⟩ := O)
  refine ⟨rfl,?_⟩
  array_get_dec
  refine qT (l:=L) (g:=Bj) rfl (λw=>.list ((Ic L w).map Ah)) (λw V B M r=>?_) ?_
  ·array_get_dec
   refine aX (l:=L.zipIdx) (g1:=λp=>.int p.2) (g2:=λp=>Bj p.1) (by rw[zip_map,Bm]; rfl) (λp=>Zf w p.1) (λp=>.int p.2) (λp T B M r N=>?_) ?_
   ·array_get_dec
    refine ⟨w,p.1,rfl,?_⟩
    refine Kj (λh=>?_) (λh=>?_)
    ·array_get_dec
     exact r h
    ·exact N h
   ·array_get_dec
    unfold Ic at r
    rw[Bm] at r
    exact r
  ·array_get_dec
   exact Q
end
noncomputable def pN(L:List (List Int))(face:List Int)(vs:Int)(a:List Int):Bool:=@decide (∀(k:Nat) (w:List Int) (f x:Int),L[k]? = some w->face[k]? = some f->a[k]? = some x->0<x->∀v:Int,0<=v->v<vs->v≠f->∃(j:Nat) (u:List Int) (y:Int),L[j]? = some u/\Zf w u=true/\face[j]? = some v/\a[j]? = some y/\x - 1<=y) (Dr _)
def qN(L:List (List Int))(face:List Int)(vs:Int)(a:List Int)(k:Nat):Prop:=∀(w:List Int) (f x:Int),L[k]? = some w->face[k]? = some f->a[k]? = some x->0<x->∀v:Int,0<=v->v<vs->v≠f->∃(j:Nat) (u:List Int) (y:Int),L[j]? = some u/\Zf w u=true/\face[j]? = some v/\a[j]? = some y/\x - 1<=y
theorem CB{L:List (List Int)}{face:List Int}{vs:Int}{a:List Int}(h:∀k,k<L.length->qN L face vs a k):pN L face vs a=true:=by
 unfold pN
 exact @decide_eq_true _ (Dr _) λk w f x b=>h k (Af.mp b).1 w f x b
theorem BL{L:List (List Int)}{face:List Int}{vs:Int}{a:List Int}{k:Nat}(h:¬ qN L face vs a k):pN L face vs a=false:=by
 unfold pN
 exact @decide_eq_false _ (Dr _) λz=>h (z k)
theorem IV:j∈Ic L w↔∃(n:Nat) (u:List Int),j=n/\L[n]? = some u/\Zf w u=true:=by
 unfold Ic
 constructor
 ·intro h
  obtain ⟨p,f,rfl⟩:=Bh.mp h
  obtain ⟨a,b⟩:=Bi.mp f
  obtain ⟨k,d⟩:=Bx.mp a
  obtain ⟨g,c,_,_⟩:=Oa d
  exact ⟨p.2,p.1,rfl,by rw[g]; exact c,b⟩
 ·(intro e; obtain ⟨n,u,rfl,a,b⟩ := e)
  exact Bh.mpr ⟨(u,n),Bi.mpr ⟨Nr.mpr a,b⟩,rfl⟩
theorem oH(L:List (List Int)):((L.map λw=>Lu ((Ic L w).map Ah)).zipIdx.map λp=>PyData.tuple [.int p.2,p.1])=L.zipIdx.map λp=>.tuple [.int p.2,.list ((Ic L p.1).map Ah)]:=by
 rw[List.zipIdx_map,Bm]
 rfl
def gB(l:List Int)(j:Int):Int:=(l[j.toNat]?).getD 0
theorem kK{l:List Int}{j:Int}(h0:0<=j)(h1:j<l.length):Ss (l.map Ah) j=some (.int (gB l j)):=by
 obtain ⟨a,b,c,_⟩:=Pc (l:=l) h0 h1
 rw[Uq,c]
 unfold gB
 rw[b]
 rfl
theorem Zg{l:List Int}{j:Nat}(h:j<l.length):l[j]? = some (gB l j):=by
 unfold gB
 rw[Cs,Ag h]
 rfl
def mT:PF:=λc R=>∃(L:List (List Int)) (b:List Int) (vs:Int) (a:List Int),c=[.list (L.map λw=>.list ((Ic L w).map Ah)),.list (b.map Ah),.int vs,.list (a.map Ah)]/\L.length=b.length/\L.length<=1024/\2<=vs/\vs<=16/\a.length=L.length/\(∀x∈a,0<=x)/\R (.bool (pN L b vs a))
section
variable{P:Bp}{w:World}{K:PySem.W.Frag}{mg:Str->Option Value}{base:Heap}
theorem Vd:FnScope ["_law_over", "_law_face", "_law_values", "_law_thing", "_law_k", "_law_some", "_law_value", "_law_ends"] ["_law_over", "_law_face", "_law_values", "_law_thing"] (Bv Lg):=⟨rfl,rfl,rfl,by decide +kernel,rfl,by decide +kernel,by decide +kernel⟩
theorem Vg(F:Fun K "_law_least_holds" "_law_least_holds" Lg f fd)(d:mg "enumerate" = none)(D:mg "int" = none)(m:mg "range" = none):FnOk P w K mg base Gv 1 f fd ["_law_over", "_law_face", "_law_values", "_law_thing"] (Ko K (mT)):=by
 refine' Fz (k:=0) F Vd (λh8 A h6 s H E hr=>?hb) ?h
 case hb =>
  have t:=hr.units
  exact Bt (Lx Dn rfl (Ra rfl d (Aj (Al (pv 0)) Ay)) (rH (n:=2) rfl (Gh (Ep (i:=4) Vd.nd rfl (Ie rfl)) (Gh (Ep (i:=5) Vd.nd rfl (Cy rfl)) Wz)))
   (Cq (Lx Dn rfl (Hb rfl m (Aj (FC (Al (pv 2)) (Ki Yx qS rfl D (by decide +kernel) (Aj (GW (Dy (Al (pv 3)) (Al (pv 4))) Ct) Ay))) Ay)) (Ep (i:=6) Vd.nd rfl (Ie rfl))
    (Bt (Xl (o:=false) (i0:=7) Vd.nd rfl rfl (IM (x := "_law_j") "_law_face" "_law_value" 1 6 rfl (by decide +kernel) rfl rfl rfl) rfl (Yo (Al (pv 5))) (λ_ _ _=>Kk (Oy t (Dy (Al (pv 1)) (Al (pv 0))) (Al (pv 2)))) (λ_ _ _=>Al (pv 0)))
     (Cq (Jw (Yi (Ru (Nq t (Al (pv 6)) (Dy (Al (pv 1)) (Al (pv 4)))) (Of (Oy t (Gp (IM (x := "_law_j") "_law_k" "_law_thing" 4 3 rfl (by decide +kernel) rfl rfl rfl) rfl (Yo (Al (pv 7))) (λ_ _ _=>Kk (Z4 (Dy (Al (pv 2)) (Al (pv 0))) (pP (Dy (Al (pv 2)) (Al (pv 1))) Ct))) (λ_ _ _=>Al (pv 0))) (Fv Ay)))))
     (Cq (Ds Ll)) Hf))))))
   (Cq (Ds Ll))
 case h =>
  (intro ds R I; obtain ⟨L,b,vs,c,rfl,lf,l1,v0,v1,ln,nn,C⟩ := I)
  refine ⟨rfl,?_⟩
  array_get_dec
  refine Xe (l:=L.zipIdx) (g:=λp=>.tuple [.int p.2,.list ((Ic L p.1).map Ah)]) (oH L) (λi δ=>∃Y v5 G J:DV,δ=⟨[.dat .sh (.list (L.map λw=>.list ((Ic L w).map Ah))),.dat .sh (.list (b.map Ah)),.dat .sh (.int vs),.dat .sh (.list (c.map Ah)),Y,v5,G,J],0⟩/\NP Y/\NP v5/\NP G/\NP J/\∀k,k<i->qN L b vs c k) ?_ ?_ ?_
  ·exact ⟨_,_,_,_,rfl,He,He,He,He,λk z=>absurd z (Me k)⟩
  ·(intro i p _ hp I; obtain ⟨Y,v5,G,J,rfl,h0,h4,r,B,ho⟩ := I)
   obtain ⟨ek,N,h7,h5⟩:=Oa hp
   obtain ⟨w,k⟩:=p
   simp only at ek N h7 h5
   subst ek
   obtain ⟨f,hf⟩ : ∃f,b[k]? = some f:=⟨_,Ag (by omega)⟩
   obtain ⟨x,U⟩ : ∃x,c[k]? = some x:=⟨_,Ag (by omega)⟩
   have ef:Ss (b.map Ah) (k:Int)=some (.int f):=Ml (by rw[Aq,hf]; rfl)
   have ex:Ss (c.map Ah) (k:Int)=some (.int x):=Ml (by rw[Aq,U]; rfl)
   have x0:=nn x (Au U)
   array_get_dec
   have eN:(vs * if decide (0<x)=true then (1:Int) else 0)=if 0<x then vs else 0:=by
    by_cases q:0<x
    ·rw[if_pos (by simpa using q),if_pos q]; omega
    ·rw[if_neg (by simpa using q),if_neg q]; omega
   refine ⟨_,ex,.inl ⟨by omega,by omega⟩,?_⟩
   array_get_dec
   rw[eN]
   have bN:0<=(if 0<x then vs else 0)/\(if 0<x then vs else 0)<=vs:=by split <;> omega
   refine ⟨by omega,by omega,?_⟩
   refine Xe (l:=Bq (if 0<x then vs else 0).toNat) (g:=λi:Nat=>.int i) rfl (λi δ=>∃G J:DV,δ=⟨[.dat .sh (.list (L.map λw=>.list ((Ic L w).map Ah))),.dat .sh (.list (b.map Ah)),.dat .sh (.int vs),.dat .sh (.list (c.map Ah)),.dat .sh (.int k),.dat .sh (.list ((Ic L w).map Ah)),G,J],0⟩/\NP G/\NP J/\∀v:Int,0<=v->v<i->v≠f->∃(j:Nat) (u:List Int) (y:Int),L[j]? = some u/\Zf w u=true/\b[j]? = some v/\c[j]? = some y/\x - 1<=y) ?_ ?_ ?_
   ·exact ⟨_,_,rfl,r,B,λv Z z2=>absurd z2 (by omega)⟩
   ·(intro i a _ ha I; obtain ⟨G,J,rfl,r,B,O⟩ := I)
    obtain ⟨rfl,hi⟩:=Ox ha
    have X:0<x:=Eg λz=>by rw[if_neg z] at hi; exact Me _ hi
    rw[if_pos X] at hi
    have S:∀j∈Ic L w,0<=j/\j<L.length:=λj M=>by
     obtain ⟨n,u,rfl,T,_⟩:=IV.mp M
     have:=(Af.mp T).1
     omega
    array_get_dec
    refine Wy (l:=Ic L w) (g:=Ah) rfl (λj=>decide (gB b j=(a:Int))) (λj=>.int j) (λj M h3 no hy W=>?_) ?_
    ·obtain ⟨j0,j1⟩:=S j M
     array_get_dec
     refine ⟨_,kK j0 (by omega),dp,?_⟩
     array_get_dec
     refine Kj (λq=>?_) (λq=>?_)
     ·array_get_dec
      exact hy q
     ·exact W q
    array_get_dec
    refine ⟨_,ef,dp,?_⟩
    array_get_dec
    have go:(¬ (a:Int)≠f\/∃(j:Nat) (u:List Int) (y:Int),L[j]? = some u/\Zf w u=true/\b[j]? = some (a:Int)/\c[j]? = some y/\x - 1<=y)->∀v:Int,0<=v->v<((a+1:Nat):Int)->v≠f->∃(j:Nat) (u:List Int) (y:Int),L[j]? = some u/\Zf w u=true/\b[j]? = some v/\c[j]? = some y/\x - 1<=y:=λq v Z z2 z3=>by
     by_cases e:v=a
     ·subst e
      rcases q with q | q
      ·exact absurd z3 q
      ·exact q
     ·exact O v Z (by omega) z3
    refine Yr (λT=>?_) (λT=>?_)
    ·array_get_dec
     refine Wy (l:=(Ic L w).filter λj=>decide (gB b j=(a:Int))) (g:=Ah) rfl (λj=>decide (x - 1<=gB c j)) (λj=>.int j) (λj M h3 no hy W=>?_) ?_
     ·obtain ⟨j0,j1⟩:=S j (Bi.mp M).1
      array_get_dec
      refine ⟨_,kK j0 (by omega),_,ex,?_⟩
      array_get_dec
      refine Kj (λq=>?_) (λq=>?_)
      ·array_get_dec
       exact hy q
      ·exact W q
     array_get_dec
     refine Xq (λQ=>?_) (λQ=>?_)
     ·array_get_dec
      rw[BL (k:=k)] at C
      ·exact C
      ·intro z
       obtain ⟨j,u,y,V,q2,q3,q4,q5⟩:=z w f x N hf U X a (by omega) (by omega) (by simpa using T)
       have M:j<L.length:=(Af.mp V).1
       rw[dY,Fh,Ui] at Q
       refine Q j (Bi.mpr ⟨IV.mpr ⟨j,u,rfl,V,q2⟩,?_⟩) ?_
       ·have:=Zg (l:=b) (j:=j) (by omega)
        rw[q3] at this
        simpa using (Bo this).symm
       ·have:=Zg (l:=c) (j:=j) (by omega)
        rw[q4] at this
        have:=Bo this
        simp only[decide_eq_true_eq]
        omega
     ·array_get_dec
      refine ⟨_,_,rfl,Fl,Fl,go (.inr ?_)⟩
      have : ∃j,j∈(((Ic L w).filter λj=>decide (gB b j=(a:Int))).filter λj=>decide (x - 1<=gB c j)):=by
       cases q:((Ic L w).filter λj=>decide (gB b j=(a:Int))).filter λj=>decide (x - 1<=gB c j) with
       | nil=>rw[q] at Q; cases Q
       | cons j l=>exact ⟨j,Aa⟩
      obtain ⟨j,M⟩:=this
      obtain ⟨V,q2⟩:=Bi.mp M
      obtain ⟨q3,q4⟩:=Bi.mp V
      obtain ⟨n,u,rfl,q5,q6⟩:=IV.mp q3
      have W:=(Af.mp q5).1
      have e4:gB b n=a:=by simpa using q4
      exact ⟨n,u,gB c n,q5,q6,by rw[Zg (l:=b) (by omega),e4],Zg (by omega),by simpa using q2⟩
    ·array_get_dec
     refine ⟨_,_,rfl,Fl,Fl,go (.inl ?_)⟩
     simpa using T
   ·(intro _ I; obtain ⟨G,J,rfl,r,B,O⟩ := I)
    refine ⟨_,_,_,_,rfl,Fl,Fl,r,B,λk' h9=>?_⟩
    by_cases q:k'=k
    ·subst q
     intro w' f' x' e1 e2 e3 X v Z z2 z3
     rw[N] at e1; cases e1
     rw[hf] at e2; cases e2
     rw[U] at e3; cases e3
     refine O v Z ?_ z3
     rw[Co,if_pos X]
     omega
    ·exact ho k' (by omega)
  ·(intro _ I; obtain ⟨Y,v5,G,J,rfl,h0,h4,r,B,ho⟩ := I)
   array_get_dec
   rw[CB λk hk=>ho k (by rw[Hu]; exact hk)] at C
   exact C
end
def GO(L:List (List Int))(face a w:List Int)(x v:Int):Prop:=∃(j:Nat) (u:List Int) (y:Int),L[j]? = some u/\Zf w u=true/\face[j]? = some v/\a[j]? = some y/\x<=y
def Ww(L:List (List Int))(face:List Int)(vs:Int)(a:List Int)(k:Nat):Prop:=∀(w:List Int) (f x:Int),L[k]? = some w->face[k]? = some f->a[k]? = some x->∃v:Int,0<=v/\v<vs/\v≠f/\¬ GO L face a w x v
noncomputable def dP(L:List (List Int))(face:List Int)(vs:Int)(a:List Int):Bool:=@decide (∀k:Nat,Ww L face vs a k) (Dr _)
theorem Q4{L:List (List Int)}{face:List Int}{vs:Int}{a:List Int}(h:∀k,k<L.length->Ww L face vs a k):dP L face vs a=true:=by
 unfold dP
 exact @decide_eq_true _ (Dr _) λk w f x b=>h k (Af.mp b).1 w f x b
theorem P2{L:List (List Int)}{face:List Int}{vs:Int}{a:List Int}{k:Nat}(h:¬ Ww L face vs a k):dP L face vs a=false:=by
 unfold dP
 exact @decide_eq_false _ (Dr _) λz=>h (z k)
def uK:PF:=λc R=>∃(L:List (List Int)) (b:List Int) (vs:Int) (a:List Int),c=[.list (L.map λw=>.list ((Ic L w).map Ah)),.list (b.map Ah),.int vs,.list (a.map Ah)]/\L.length=b.length/\L.length<=1024/\2<=vs/\vs<=16/\a.length=L.length/\(∀x∈a,0<=x)/\R (.bool (dP L b vs a))
section
variable{P:Bp}{w:World}{K:PySem.W.Frag}{mg:Str->Option Value}{base:Heap}
theorem Vs:FnScope ["_law_over", "_law_face", "_law_values", "_law_thing", "_law_k", "_law_some", "_law_barred", "_law_value", "_law_ends"] ["_law_over", "_law_face", "_law_values", "_law_thing"] (Bv Lz):=⟨rfl,rfl,rfl,by decide +kernel,rfl,by decide +kernel,by decide +kernel⟩
theorem Wf(F:Fun K "_law_most_holds" "_law_most_holds" Lz f fd)(d:mg "enumerate" = none)(r:mg "range" = none):FnOk P w K mg base Gv 1 f fd ["_law_over", "_law_face", "_law_values", "_law_thing"] (Ko K (uK)):=by
 refine' Fz (k:=0) F Vs (λh9 A h7 s H E hr=>?hb) ?h
 case hb =>
  have m:=hr.units
  exact Bt (Lx Dn rfl (Ra rfl d (Aj (Al (pv 0)) Ay)) (rH (n:=2) rfl (Gh (Ep (i:=4) Vs.nd rfl (Ie rfl)) (Gh (Ep (i:=5) Vs.nd rfl (Cy rfl)) Wz)))
   (Bt (Py (i:=6) Vs.nd rfl (Cy rfl) (Fv Ay))
    (Bt (Lx Dn rfl (Hb rfl r (Aj (Al (pv 2)) Ay)) (Ep (i:=7) Vs.nd rfl (Ie rfl))
    (Bt (Xl (o:=false) (i0:=8) Vs.nd rfl rfl (IM (x := "_law_j") "_law_face" "_law_value" 1 7 rfl (by decide +kernel) rfl rfl rfl) rfl (Yo (Al (pv 5))) (λ_ _ _=>Kk (Oy m (Dy (Al (pv 1)) (Al (pv 0))) (Al (pv 2)))) (λ_ _ _=>Al (pv 0)))
     (Cq (Jw (Yi (Ru (Nq m (Al (pv 7)) (Dy (Al (pv 1)) (Al (pv 4)))) (Of (Oy m (Gp (IM (x := "_law_j") "_law_k" "_law_thing" 4 3 rfl (by decide +kernel) rfl rfl rfl) rfl (Yo (Al (pv 8))) (λ_ _ _=>Kk (Z4 (Dy (Al (pv 2)) (Al (pv 0))) (Dy (Al (pv 2)) (Al (pv 1))))) (λ_ _ _=>Al (pv 0))) (Fv Ay)))))
     (Cq (fY (pv 6) (Al (pv 7)))) Hf))))
    (Cq (Jw (Oy m (Al (pv 6)) (Fv Ay))
    (Cq (Ds Ll)) Hf)))))
   (Cq (Ds Ll))
 case h =>
  (intro ds R C; obtain ⟨L,b,vs,c,rfl,lf,l1,v0,v1,ln,nn,J⟩ := C)
  refine ⟨rfl,?_⟩
  array_get_dec
  refine Xe (l:=L.zipIdx) (g:=λp=>.tuple [.int p.2,.list ((Ic L p.1).map Ah)]) (oH L) (λi δ=>∃Z v5 Y M G:DV,δ=⟨[.dat .sh (.list (L.map λw=>.list ((Ic L w).map Ah))),.dat .sh (.list (b.map Ah)),.dat .sh (.int vs),.dat .sh (.list (c.map Ah)),Z,v5,Y,M,G],0⟩/\NP Z/\NP v5/\NP Y/\NP M/\NP G/\∀k,k<i->Ww L b vs c k) ?_ ?_ ?_
  ·exact ⟨_,_,_,_,_,rfl,He,He,He,He,He,λk z=>absurd z (Me k)⟩
  ·(intro i p _ hp C; obtain ⟨Z,v5,Y,M,G,rfl,h0,h5,h4,B,D,ho⟩ := C)
   obtain ⟨ek,S,h8,h6⟩:=Oa hp
   obtain ⟨w,k⟩:=p
   simp only at ek S h8 h6
   subst ek
   obtain ⟨f,hf⟩ : ∃f,b[k]? = some f:=⟨_,Ag (by omega)⟩
   obtain ⟨x,hx⟩ : ∃x,c[k]? = some x:=⟨_,Ag (by omega)⟩
   have ef:Ss (b.map Ah) (k:Int)=some (.int f):=Ml (by rw[Aq,hf]; rfl)
   have ex:Ss (c.map Ah) (k:Int)=some (.int x):=Ml (by rw[Aq,hx]; rfl)
   have V:∀j∈Ic L w,0<=j/\j<L.length:=λj O=>by
    obtain ⟨n,u,rfl,W,_⟩:=IV.mp O
    have:=(Af.mp W).1
    omega
   array_get_dec
   refine ⟨by omega,by omega,?_⟩
   refine Xe (l:=Bq vs.toNat) (g:=λi:Nat=>.int i) rfl (λi δ=>∃(bs:List Int) (M G:DV),δ=⟨[.dat .sh (.list (L.map λw=>.list ((Ic L w).map Ah))),.dat .sh (.list (b.map Ah)),.dat .sh (.int vs),.dat .sh (.list (c.map Ah)),.dat .sh (.int k),.dat .sh (.list ((Ic L w).map Ah)),.dat .ow (.list (bs.map Ah)),M,G],0⟩/\NP M/\NP G/\bs.length<=i/\(bs=[]↔∀v:Int,0<=v->v<i->v≠f->GO L b c w x v)) ?_ ?_ ?_
   ·exact ⟨[],_,_,rfl,B,D,Ar _,λ_ v N T=>absurd T (by omega),λ_=>rfl⟩
   ·(intro i a _ ha C; obtain ⟨bs,M,G,rfl,B,D,lb,t⟩ := C)
    obtain ⟨rfl,hi⟩:=Ox ha
    array_get_dec
    refine Wy (l:=Ic L w) (g:=Ah) rfl (λj=>decide (gB b j=(a:Int))) (λj=>.int j) (λj O h3 no hy X=>?_) ?_
    ·obtain ⟨j0,j1⟩:=V j O
     array_get_dec
     refine ⟨_,kK j0 (by omega),dp,?_⟩
     array_get_dec
     refine Kj (λq=>?_) (λq=>?_)
     ·array_get_dec
      exact hy q
     ·exact X q
    array_get_dec
    refine ⟨_,ef,dp,?_⟩
    array_get_dec
    have go:((a:Int)≠f->GO L b c w x a)->(bs=[]↔∀v:Int,0<=v->v<((a+1:Nat):Int)->v≠f->GO L b c w x v):=λq=>by
     rw[t]
     constructor
     ·intro z v N T Q
      by_cases e:v=a
      ·subst e; exact q Q
      ·exact z v N (by omega) Q
     ·intro z v N T Q
      exact z v N (by omega) Q
    refine Yr (λW=>?_) (λW=>?_)
    ·array_get_dec
     refine Wy (l:=(Ic L w).filter λj=>decide (gB b j=(a:Int))) (g:=Ah) rfl (λj=>decide (x<=gB c j)) (λj=>.int j) (λj O h3 no hy X=>?_) ?_
     ·obtain ⟨j0,j1⟩:=V j (Bi.mp O).1
      array_get_dec
      refine ⟨_,kK j0 (by omega),_,ex,?_⟩
      array_get_dec
      refine Kj (λq=>?_) (λq=>?_)
      ·array_get_dec
       exact hy q
      ·exact X q
     have U:((((Ic L w).filter λj=>decide (gB b j=(a:Int))).filter λj=>decide (x<=gB c j)).map λj=>Ah j).isEmpty=true↔¬ GO L b c w x a:=by
      rw[dY,Fh,Ui]
      constructor
      ·(intro z C; obtain ⟨j,u,y,q1,q2,q3,q4,q5⟩ := C)
       have O:j<L.length:=(Af.mp q1).1
       refine z j (Bi.mpr ⟨IV.mpr ⟨j,u,rfl,q1,q2⟩,?_⟩) ?_
       ·have:=Zg (l:=b) (j:=j) (by omega)
        rw[q3] at this
        simpa using (Bo this).symm
       ·have:=Zg (l:=c) (j:=j) (by omega)
        rw[q4] at this
        have:=Bo this
        simp only[decide_eq_true_eq]
        omega
      ·intro z j O q2
       obtain ⟨q3,q4⟩:=Bi.mp O
       obtain ⟨n,u,rfl,q5,q6⟩:=IV.mp q3
       have X:=(Af.mp q5).1
       have e4:gB b n=a:=by simpa using q4
       exact z ⟨n,u,gB c n,q5,q6,by rw[Zg (l:=b) (by omega),e4],Zg (by omega),by simpa using q2⟩
     array_get_dec
     refine Xq (λI=>?_) (λI=>?_)
     ·array_get_dec
      refine ⟨by rw[Ac]; omega,bs++[(a:Int)],_,_,lI (by rw[Bg]; rfl) rfl,Fl,Fl,by simp; omega,λz=>absurd z (by simp),λz=>?_⟩
      exact absurd (z a (by omega) (by omega) (by simpa using W)) (U.mp I)
     ·array_get_dec
      refine ⟨bs,_,_,rfl,Fl,Fl,by omega,go λ_=>Eg λz=>?_⟩
      rw[U.mpr z] at I
      cases I
    ·array_get_dec
     refine ⟨bs,_,_,rfl,Fl,Fl,by omega,go λz=>absurd z (by simpa using W)⟩
   ·(intro _ C; obtain ⟨bs,M,G,rfl,B,D,lb,t⟩ := C)
    rw[Co] at t
    array_get_dec
    refine Xq (λI=>?_) (λI=>?_)
    ·array_get_dec
     have e:bs=[]:=by simpa using I
     rw[P2 (k:=k)] at J
     ·exact J
     ·intro z
      obtain ⟨v,N,T,Q,z4⟩:=z w f x S hf hx
      exact z4 (t.mp e v N (by omega) Q)
    ·array_get_dec
     refine ⟨_,_,_,_,_,rfl,Fl,Fl,Z5,B,D,λk' k0=>?_⟩
     by_cases q:k'=k
     ·subst q
      intro w' f' x' e1 e2 e3
      rw[S] at e1; cases e1
      rw[hf] at e2; cases e2
      rw[hx] at e3; cases e3
      refine Eg λz=>?_
      have e:bs=[]:=t.mpr λv N T Q=>Eg λz4=>z ⟨v,N,by omega,Q,z4⟩
      rw[e] at I
      cases I
     ·exact ho k' (by omega)
  ·(intro _ C; obtain ⟨Z,v5,Y,M,G,rfl,h0,h5,h4,B,D,ho⟩ := C)
   array_get_dec
   rw[Q4 λk hk=>ho k (by rw[Hu]; exact hk)] at J
   exact J
end
theorem oK{L:List (List Int)}{face a:List Int}{vs:Int}(l1:L.length=face.length)(l2:a.length=L.length)(F:∀x∈a,0<=x):bW L face vs a=pN L face vs a:=by
 classical
 unfold bW pN
 refine decide_eq_decide.mpr (forall_congr' λk=>forall_congr' λw=>forall_congr' λf=>forall_congr' λx=>forall_congr' λI=>forall_congr' λE=>forall_congr' λH=>?_)
 have d:∀v:Int,0<x->(x<=Kl L face a w v↔∃(j:Nat) (u:List Int) (y:Int),L[j]? = some u/\Zf w u=true/\face[j]? = some v/\a[j]? = some y/\x - 1<=y):=λv c=>by
  unfold Kl
  rw[Oi c]
  constructor
  ·(intro o; obtain ⟨y,z,e⟩ := o)
   obtain ⟨p,t,rfl⟩:=Bh.mp z
   obtain ⟨m,b⟩:=Bi.mp t
   obtain ⟨i,C⟩:=Bx.mp m
   obtain ⟨A,g,_,l⟩:=Oa C
   unfold Pd at b
   rw[Cd,decide_eq_true_eq] at b
   rw[<- A] at g l
   have s:p.2<a.length:=by omega
   refine ⟨p.2,p.1,a[p.2],g,b.2,b.1,Ag s,?_⟩
   unfold Mr at e
   rw[Ag s,aB] at e
   omega
  ·(intro o; obtain ⟨j,u,y,m,b,B,D,G⟩ := o)
   refine ⟨y+1,Bh.mpr ⟨(u,j),Bi.mpr ⟨Nr.mpr m,?_⟩,?_⟩,by omega⟩
   ·unfold Pd
    rw[B,b]
    simp
   ·unfold Mr
    rw[D]
    rfl
 constructor
 ·intro h c v q n r
  exact (d v c).mp (h v q n r)
 ·intro h v q n r
  by_cases c:0<x
  ·exact (d v c).mpr (h c v q n r)
  ·have:=Ri ((Ex L face w v).map (Mr a))
   show x<=Ov _
   omega
theorem fW{L:List (List Int)}{face a:List Int}{vs:Int}(l1:L.length=face.length)(l2:a.length=L.length)(r:∀x∈a,0<=x):mZ L face vs a=dP L face vs a:=by
 classical
 unfold mZ dP Ww
 refine decide_eq_decide.mpr (forall_congr' λk=>forall_congr' λw=>forall_congr' λf=>forall_congr' λx=>forall_congr' λF=>forall_congr' λA=>forall_congr' λs=>exists_congr λv=>and_congr_right λD=>and_congr_right λB=>and_congr_right λG=>?_)
 have E:=r x (Au s)
 rw[<- Int.not_lt]
 refine not_congr ?_
 show x+1<=Kl L face a w v↔_
 unfold Kl GO
 rw[Oi (by omega)]
 constructor
 ·(intro h; obtain ⟨y,n,e⟩ := h)
  obtain ⟨p,m,rfl⟩:=Bh.mp n
  obtain ⟨g,b⟩:=Bi.mp m
  obtain ⟨i,t⟩:=Bx.mp g
  obtain ⟨o,c,_,d⟩:=Oa t
  unfold Pd at b
  rw[Cd,decide_eq_true_eq] at b
  rw[<- o] at c d
  have l:p.2<a.length:=by omega
  refine ⟨p.2,p.1,a[p.2],c,b.2,b.1,Ag l,?_⟩
  unfold Mr at e
  rw[Ag l,aB] at e
  omega
 ·(intro h; obtain ⟨j,u,y,g,b,q,z,C⟩ := h)
  refine ⟨y+1,Bh.mpr ⟨(u,j),Bi.mpr ⟨Nr.mpr g,?_⟩,?_⟩,by omega⟩
  ·unfold Pd
   rw[q,b]
   simp
  ·unfold Mr
   rw[z]
   rfl
theorem n8(h:HT.lexLt (Pn c d a) (Pn c d b)=false):c.getD b 0<=c.getD a 0/\(c.getD a 0=c.getD b 0->d a<=d b):=by
 unfold Pn at h
 rw[HT.lexLt_cons] at h
 by_cases e:c.getD a 0=c.getD b 0
 ·rw[if_pos e,HT.lexLt_cons] at h
  refine ⟨by omega,λ_=>?_⟩
  by_cases z:-((d a:Nat):Int) = -((d b:Nat):Int)
  ·omega
  ·rw[if_neg z,decide_eq_false_iff_not] at h
   omega
 ·rw[if_neg e,decide_eq_false_iff_not] at h
  exact ⟨by omega,λz=>absurd z e⟩
structure StR(L:List (List Int))(face nums:List Int):Prop where
 nd:L.Nodup
 l1:L.length=face.length
 l2:L.length=nums.length
 ll:L.length<=1024
 lw:∀w∈L,w.length<=10
theorem rT(h:WrR ws face c k a d b):d.length<=a.length/\(decide (d.length=a.length)=b)/\∀m∈d,m<ws.length:=by
 induction h with
 | done k=>exact ⟨Ar _,rfl,λ_ z=>(nomatch z)⟩
 | stuck h=>exact ⟨Dg _,by simp,λ_ z=>(nomatch z)⟩
 | step h t e =>
  obtain ⟨i,f,g⟩:=e
  refine ⟨by rw[Bu,Bu]; omega,by rw[<- f]; simp,λm hm=>?_⟩
  rcases Ao.mp hm with rfl | hm
  ·exact qR h
  ·exact g m hm
def IK:PF:=λf R=>∃(L:List (List Int)) (c a w:List Int) (k:Nat) (d:List Int) (e:List Nat) (b:Bool),f=[.list (L.map Bj),.list (c.map Ah),.list (a.map Ah),Bj w,.list (d.map Ah),HY L b e]/\StR L c a/\(∀x∈a,0<=x)/\L[k]? = some w/\d.length<=1000/\WrR L c a k d e b/\R (.bool true)
section
variable{P:Bp}{w:World}{K:PySem.W.Frag}{mg:Str->Option Value}{base:Heap}
theorem So:FnScope ["_law_words_here", "_law_face", "_law_numbers", "_law_word", "_law_row", "_law_told_here", "_law_value", "_law_new", "_law_ends", "_law_far", "_law_best"] ["_law_words_here", "_law_face", "_law_numbers", "_law_word", "_law_row", "_law_told_here"] (Bv Jt):=⟨rfl,rfl,rfl,by decide +kernel,rfl,by decide +kernel,by decide +kernel⟩
theorem Sq(F:Fun K "_law_written_right" "_law_written_right" Jt f fd)(I:FnOk P w K mg base Gv 1 C J ["_law_one", "_law_other"] (Ko K (bO)))(N:Binds K J ["_law_one", "_law_other"] [])(G:PySem.W.keepIn K (.ref C)=true)(O:mg "_law_lies" = some (.ref C))(y:mg "len" = none)(h5:mg "int" = none)(h3:mg "zip" = none)(t:mg "enumerate" = none)(h4:mg "max" = none)(h0:mg "min" = none):FnOk P w K mg base Gv 2 f fd ["_law_words_here", "_law_face", "_law_numbers", "_law_word", "_law_row", "_law_told_here"] (Ko K (IK)):=by
 refine' Fz (k:=1) F So (λj2 A q0 s H E hr=>?hb) ?h
 case hb =>
  have h9:Room 1 _:=hr.mono (by decide)
  have r:=hr.units
  exact Bt (Jw (Nq r (Dy (Al (pv 5)) Ct) (Dy (Fv (Aj Rf (Aj Rf Ay))) (Ki Yx qS rfl h5 (by decide +kernel) (Aj (fR r (Di Gb Jg rfl y (by decide +kernel) (Aj (Dy (Al (pv 5)) Ct) Ay)) (Di Gb Jg rfl y (by decide +kernel) (Aj (Al (pv 4)) Ay))) Ay))))
   (Cq (Ds Ll)) Hf)
   (Bt (Lx Dn rfl (zI rfl h3 (Aj (Al (pv 4)) (Aj (Dy (Al (pv 5)) Ct) Ay))) (rH (n:=2) rfl (Gh (Ep (i:=6) So.nd rfl (Ie rfl)) (Gh (Ep (i:=7) So.nd rfl (Cy rfl)) Wz)))
   (Bt (mW (o:=false) (i0:=8) So.nd rfl rfl (GH (x := "_law_k") "_law_face" "_law_value" "_law_word" 1 6 3 rfl (by decide +kernel) rfl rfl rfl) (.inl rfl) (by decide +kernel) rfl (Ra rfl t (Aj (Al (pv 0)) Ay)) (λ_ _ _=>Kk (Yi (Ru (Oy r (Dy (Al (pv 2)) (Al (pv 0))) (Al (pv 3))) (Of (Ot (Dc I h9 rfl O G N Dv (Aj (Al (pv 4)) (Aj (Al (pv 1)) Ay)))))))) (λ_ _ _=>Al (pv 0)))
    (Bt (Ej (i:=9) So.nd rfl (Ie rfl) (Di (Yp rfl) jY rfl h4 (by decide +kernel) (Aj (Sy (Gp (sX (x := "_law_k") "_law_numbers" 2 rfl (by decide +kernel) rfl rfl rfl) rfl (Yo (Al (pv 8))) (λ_ _ _=>Ei) (λ_ _ _=>Dy (Al (pv 1)) (Al (pv 0)))) (Fv (Aj (pP Ct Ct) Ay))) Ay)))
    (Bt (Xl (o:=false) (i0:=10) So.nd rfl rfl (GH (x := "_law_k") "_law_far" "_law_numbers" "_law_words_here" 9 2 0 rfl (by decide +kernel) rfl rfl rfl) rfl (Yo (Al (pv 8))) (λ_ _ _=>Kk (Oy r (Dy (Al (pv 2)) (Al (pv 0))) (Al (pv 1)))) (λ_ _ _=>Dy (Al (pv 3)) (Al (pv 0))))
    (Bt (Jw (Oy r (Dy (Al (pv 1)) (nJ r (Al (pv 0)) (Al (pv 3)))) (Al (pv 6)))
    (Cq (Ej (i:=10) So.nd rfl (Cy rfl) (Fv (Aj (Tr (Al (pv 3))) Ay)))) Hf)
    (Bt (Jw (Yi (sQ (dE r (Al (pv 7)) (Al (pv 10))) (kH (Nq r (Di Gb Jg rfl y (by decide +kernel) (Aj (Al (pv 7)) Ay)) (Di (Ur rfl) aI rfl h0 (by decide +kernel) (Aj (Gp (AW (x := "_law_other") rfl (by decide +kernel)) rfl (Yo (Al (pv 10))) (λ_ _ _=>Ei) (λ_ _ _=>Di Gb Jg rfl y (by decide +kernel) (Aj (Al (pv 0)) Ay))) Ay))))))
    (Cq (Ds Ll)) Hf)
    (Cq (Ej (i:=3) So.nd rfl (Ie rfl) (Al (pv 7))))))))))
   (Bt (Jw (Oy r (Dy (Al (pv 5)) Ct) Rf)
   (Cq (Ds Ll)) Hf)
   (Bt (Ej (i:=6) So.nd rfl (Ie rfl) (Dy (Al (pv 4)) (Di Gb Jg rfl y (by decide +kernel) (Aj (Dy (Al (pv 5)) Ct) Ay))))
   (Cq (Ds (fR r (bS (GH (x := "_law_k") "_law_face" "_law_value" "_law_word" 1 6 3 rfl (by decide +kernel) rfl rfl rfl) (.inl rfl) (by decide +kernel) rfl (Ra rfl t (Aj (Al (pv 0)) Ay)) (λ_ _ _=>Kk (Yi (Ru (Oy r (Dy (Al (pv 2)) (Al (pv 0))) (Al (pv 3))) (Of (Ot (Dc I h9 rfl O G N Dv (Aj (Al (pv 4)) (Aj (Al (pv 1)) Ay)))))))) (λ_ _ _=>Al (pv 0))) (Fv Ay)))))))
 case h =>
  (intro ds R q_; obtain ⟨L,a,d,w,k,D,V,b,rfl,S,nn,hk,lr,hW,hR⟩ := q_)
  refine ⟨rfl,?_⟩
  obtain ⟨w1,w2,w3⟩:=rT hW
  obtain ⟨nd,l1,l2,ll,lw⟩:=S
  unfold HY
  array_get_dec
  have k4:(((V.map λm=>L.getD m []).map Bj).length:Int)=(V.length:Int):=by rw[Ac,Ac]
  have h8:((D.map Ah).length:Int)=(D.length:Int):=by rw[Ac]
  have eb:decide ((V.length:Int)=(D.length:Int))=b:=by rw[<- w2]; exact decide_eq_decide.mpr ⟨λz=>by omega,λz=>by omega⟩
  rw[k4,h8,eb]
  refine ⟨.str (T8 b),by cases b <;> rfl,dp,?_⟩
  rw[show (!Dw (.str (T8 b)) (.str (T8 b)))=false by cases b <;> simp [Dw]]
  array_get_dec
  refine Xe (l:=D.zip V) (g:=λp=>.tuple [.int p.1,Bj (L.getD p.2 [])]) (by rw[Bm (l:=V),List.zip_map,Bm]; rfl) (λi δ=>∃(c:Nat) (u:List Int) (v6 v7 v8 v9 h6:DV),δ=⟨[.dat .sh (.list (L.map Bj)),.dat .sh (.list (a.map Ah)),.dat .sh (.list (d.map Ah)),.dat .sh (Bj u),.dat .sh (.list (D.map Ah)),.dat .sh (.tuple [.str (T8 b),.list ((V.map λm=>L.getD m []).map Bj)]),v6,v7,v8,v9,h6],0⟩/\L[c]? = some u/\WrR L a d c (D.drop i) (V.drop i) b/\NP v6/\NP v7/\NP v8/\NP v9/\NP h6) ?_ ?_ ?_
  ·exact ⟨k,w,_,_,_,_,_,rfl,hk,hW,He,He,He,He,He⟩
  ·(rintro i ⟨v,m⟩ _ hz q_; obtain ⟨c,u,v6,v7,v8,v9,h6,rfl,hc,Q,q5,q3,q9,k9,k5⟩ := q_)
   obtain ⟨z1,z2⟩:=List.getElem?_zip_eq_some.mp hz
   have d1:D.drop i=v::D.drop (i+1):=by
    rw[Lb (Af.mp z1).1,(Af.mp z1).2]
   have d2:V.drop i=m::V.drop (i+1):=by
    rw[Lb (Af.mp z2).1,(Af.mp z2).2]
   rw[d1,d2] at Q
   cases Q with
   | step hC k3 =>
   have hm:L[m]? = some (L.getD m []):=by
    rw[Br,Ag (qR hC)]
    rfl
   array_get_dec
   refine aX (l:=L.zipIdx) (g1:=λp=>.int p.2) (g2:=λp=>Bj p.1) (by rw[zip_map,Bm]; rfl) (Pd a u v) (λp=>.int p.2) (λp Y U no T hn=>?_) ?_
   ·obtain ⟨j,hj⟩:=Bx.mp Y
    obtain ⟨ek,q8,q7,k7⟩:=Oa hj
    obtain ⟨x,e1,e2,e3⟩:=Pc (l:=a) (i:=(p.2:Int)) (by omega) (by omega)
    rw[Cs] at e1
    have hh:Pd a u v p=(decide (x=v) && Zf u p.1):=by
     unfold Pd
     rw[e1]
     congr 1
     simp
    rw[hh] at T hn
    array_get_dec
    refine ⟨.int x,by rw[Uq,e2]; rfl,dp,?_⟩
    array_get_dec
    refine Yr (λh1=>?_) (λh1=>?_)
    ·array_get_dec
     refine ⟨u,p.1,rfl,?_⟩
     refine Kj (λh2=>?_) (λh2=>?_)
     ·array_get_dec
      exact T (by rw[h1,h2]; rfl)
     ·exact hn (by rw[h1,h2]; rfl)
    ·array_get_dec
     exact hn (by rw[h1]; rfl)
   have q6:(L.zipIdx.filter (Pd a u v))=Ex L a u v:=rfl
   rw[q6]
   array_get_dec
   have at':∀p∈Ex L a u v,L[p.2]? = some p.1/\a[p.2]? = some v/\Zf u p.1=true:=λp Y=>by
    obtain ⟨p1,p2⟩:=Bi.mp Y
    unfold Pd at p2
    rw[Cd,decide_eq_true_eq] at p2
    exact ⟨Jo.mp p1,p2.1,p2.2⟩
   have gn:∀q∈Ex L a u v,Ss (d.map Ah) (q.2:Int)=some (.int (d.getD q.2 0)):=λq Z=>by
    have:=(Af.mp (at' q Z).1).1
    refine Ml ?_
    rw[Aq,Ag (by omega),Br,Ag (by omega)]
    rfl
   refine Mk (l:=Ex L a u v) (g:=λp=>.int p.2) rfl (λq=>.int (d.getD q.2 0)) (λq Z U no T=>?_) ?_
   ·array_get_dec
    exact ⟨_,gn q Z,im,T⟩
   array_get_dec
   have ls:(Ex L a u v).length<=1024:=Ce (List.length_filter_le _ _) (by rw[Hu]; exact ll)
   obtain ⟨k8,f,k2,hf,cs⟩:=hC
   rw[hc] at k2
   cases k2
   have ef:Ss (a.map Ah) (c:Int)=some (.int f):=Ml (by rw[Aq,hf]; rfl)
   refine ⟨by rw[Ac]; omega,(Ex L a u v).map (λq=>d.getD q.2 0)++[-1],by rw[Bg,Bm]; rfl,by simp,λX hX k6=>?_⟩
   refine Wy (l:=Ex L a u v) (g:=λp=>.int p.2) rfl (λq=>decide (d.getD q.2 0=X)) (λq=>Bj q.1) (λq Z U no T hn=>?_) ?_
   ·array_get_dec
    refine ⟨_,gn q Z,dp,?_⟩
    array_get_dec
    refine Kj (λz=>?_) (λz=>?_)
    ·array_get_dec
     exact ⟨Bj q.1,Ml (by rw[Aq,(at' q Z).1]; rfl),im,T (by simpa using z)⟩
    ·exact hn (by simpa using z)
   rw[show (((Ex L a u v).filter λq=>decide (d.getD q.2 0=X)).map λq=>Bj q.1)=(((Ex L a u v).filter λq=>decide (d.getD q.2 0=X)).map (·.1)).map Bj by rw[Bm]; rfl]
   array_get_dec
   refine ⟨c,cE nd hc,_,ef,?_⟩
   rcases cs with ⟨rfl,e⟩ | ⟨_,e,_⟩ | ⟨nf,p,Y,e,h7,_⟩
   ·cases e
    have em:L.getD m []=u:=by rw[Br,hc]; rfl
    rw[em] at hm ⊢
    array_get_dec
    rw[show ([Bj u].any λe=>Dw e (Bj u))=true from by rw[Hl,Xi,decide_eq_true rfl]; rfl]
    array_get_dec
    refine Mk (l:=[u]) (g:=Bj) rfl (λc=>.int c.length) (λc hc U no T=>?_) ?_
    ·array_get_dec
     rw[Ac]
     exact T
    array_get_dec
    refine ⟨[(u.length:Int)],rfl,by simp,λM hM _=>?_⟩
    rw[Ak.mp hM,Ac]
    array_get_dec
    exact ⟨_,_,_,_,_,_,_,rfl,hm,k3,Fl,Fl,Fl,Fl,Fl⟩
   ·cases e
   ·cases e
    obtain ⟨ep,fp,ip⟩:=at' p Y
    have eu:p.1=L.getD p.2 []:=by rw[hm] at ep; exact (Bo ep).symm
    have pX:d.getD p.2 0=X:=by
     have h1:=k6 _ (Ap _ (Hd Y))
     rcases Bf.mp hX with hX | hX
     ·obtain ⟨q,Z,rfl⟩:=Bh.mp hX
      have:=(n8 (h7 q Z)).1
      omega
     ·have x1:=Ak.mp hX
      have lp:=(Af.mp ep).1
      have : 0<=d.getD p.2 0:=by
       rw[Br,Ag (by omega)]
       exact nn _ (Kz _)
      omega
    have uB:L.getD p.2 []∈((Ex L a u v).filter λq=>decide (d.getD q.2 0=X)).map (·.1):=Bh.mpr ⟨p,Bi.mpr ⟨Y,by simpa using pX⟩,eu⟩
    have uM:∀c∈((Ex L a u v).filter λq=>decide (d.getD q.2 0=X)).map (·.1),(L.getD p.2 []).length<=c.length:=λc hc=>by
     obtain ⟨q,Z,rfl⟩:=Bh.mp hc
     obtain ⟨q1,q2⟩:=Bi.mp Z
     have:=(n8 (h7 q q1)).2 (by rw[pX]; exact (by simpa using q2:d.getD q.2 0=X).symm)
     unfold Vn at this
     rw[Br,Br,hm,(at' q q1).1] at this
     exact this
    generalize ((Ex L a u v).filter λq=>decide (d.getD q.2 0=X)).map (·.1)=B at uB uM
    array_get_dec
    rw[decide_eq_false nf]
    array_get_dec
    rw[decide_eq_true uB]
    array_get_dec
    refine Mk (l:=B) (g:=Bj) rfl (λc=>.int c.length) (λc hc U no T=>?_) ?_
    ·array_get_dec
     rw[Ac]
     exact T
    array_get_dec
    refine ⟨B.map λc=>(c.length:Int),by rw[Bm]; rfl,λz=>?_,λM hM k1=>?_⟩
    ·rw[Fh.mp z] at uB; cases uB
    have eM:(((L.getD p.2 []).map Ah).length:Int)=M:=by
     rw[Ac]
     have g1:=k1 _ (Hd uB)
     obtain ⟨c2,q4,rfl⟩:=Bh.mp hM
     have g2:=uM c2 q4
     omega
    rw[eM]
    array_get_dec
    exact ⟨_,_,_,_,_,_,_,rfl,hm,k3,Fl,Fl,Fl,Fl,Fl⟩
  ·(intro _ q_; obtain ⟨c,u,v6,v7,v8,v9,h6,rfl,hc,Q,q5,q3,q9,k9,k5⟩ := q_)
   rw[Lv,eJ w1,List.drop_length] at Q
   array_get_dec
   generalize j0:D.drop V.length=rd at Q
   cases Q with
   | done =>
    rw[show (T8 true == ("written" : Str))=true from by decide +kernel]
    array_get_dec
    exact hR
   | @stuck _ v j1 hC =>
   rw[show (T8 false == ("written" : Str))=false from by decide +kernel]
   array_get_dec
   have hv:D[V.length]? = some v:=by
    have:=congrArg (λl=>l[0]?) j0
    simpa [List.getElem?_drop] using this
   refine ⟨.int v,by rw[k4]; exact Ml (by rw[Aq,hv]; rfl),?_⟩
   array_get_dec
   obtain ⟨k8,f,k0,hf,⟨_,e⟩ | ⟨nf,_,e9⟩ | ⟨_,p,Y,e,_⟩⟩:=hC
   ·cases e
   rotate_left
   ·cases e
   rw[hc] at k0
   cases k0
   refine aX (l:=L.zipIdx) (g1:=λp=>.int p.2) (g2:=λp=>Bj p.1) (by rw[zip_map,Bm]; rfl) (Pd a u v) (λp=>.int p.2) (λp Y U no T hn=>?_) ?_
   ·obtain ⟨j,hj⟩:=Bx.mp Y
    obtain ⟨ek,q8,q7,k7⟩:=Oa hj
    obtain ⟨x,e1,e2,e3⟩:=Pc (l:=a) (i:=(p.2:Int)) (by omega) (by omega)
    rw[Cs] at e1
    have hh:Pd a u v p=(decide (x=v) && Zf u p.1):=by
     unfold Pd
     rw[e1]
     congr 1
     simp
    rw[hh] at T hn
    array_get_dec
    refine ⟨.int x,by rw[Uq,e2]; rfl,dp,?_⟩
    array_get_dec
    refine Yr (λh1=>?_) (λh1=>?_)
    ·array_get_dec
     refine ⟨u,p.1,rfl,?_⟩
     refine Kj (λh2=>?_) (λh2=>?_)
     ·array_get_dec
      exact T (by rw[h1,h2]; rfl)
     ·exact hn (by rw[h1,h2]; rfl)
    ·array_get_dec
     exact hn (by rw[h1]; rfl)
   rw[show L.zipIdx.filter (Pd a u v)=[] from e9]
   array_get_dec
   exact hR
end
theorem gK(p:Nat->Bool)(n:Nat):Iz n (((Bq n).filter p).map λi:Nat=>(i:Int)):=by
 refine ⟨(List.pairwise_lt_range.filter p).map _ λa b h=>by omega,λx c=>?_⟩
 obtain ⟨i,d,rfl⟩:=Bh.mp c
 have:=En.mp (Bi.mp d).1
 omega
theorem vH{h:Int}{L:List (List Int)}(h0:0<h)(d:L.Perm (Dz h.toNat)){M:Int}(m:M∈L.map λw=>(w.length:Int))(hz:∀x∈L.map (λw=>(w.length:Int)),x<=M):M=h:=by
 have p:((h.toNat:Nat):Int)=h:=by omega
 obtain ⟨w,n,rfl⟩:=Bh.mp m
 have a:=(Yu d).mp n
 have e:=gG a (gK (λi=>decide ((i:Int)∈w)) h.toNat) (λi=>⟨λc=>by
  have b:=a.2 i c
  exact Bh.mpr ⟨i.toNat,Bi.mpr ⟨En.mpr (by omega),decide_eq_true (by rw[show ((i.toNat:Nat):Int)=i by omega]; exact c)⟩,by omega⟩,λc=>by
  obtain ⟨k,g,rfl⟩:=Bh.mp c
  exact of_decide_eq_true (Bi.mp g).2⟩)
 have l:=congrArg Fi e
 rw[Ac] at l
 have f:=List.length_filter_le (λi:Nat=>decide ((i:Int)∈w)) (Bq h.toNat)
 rw[Co] at f
 have j:Iz (h.toNat:Int) (CY h.toNat):=by
  have:=gK (λ_=>true) h.toNat
  rw[Pl.mpr λ_ _=>rfl] at this
  exact this
 have:=hz _ (Hd ((Yu d).mpr j))
 have o:(CY h.toNat).length=h.toNat:=by unfold CY; rw[Ac,Co]
 omega
theorem Xd{a b:List Int}(h:a.map Ah=b.map Ah):a=b:=Rp (λx y e=>PyData.int.inj e) h
theorem Rv{a:List Int}{n:Nat}(hl:a.length=n)(e:∀x∈a,0<=x):Zj (.list (a.map Ah)) n=true:=by
 show (decide (((a.map Ah).length:Int)=n) && (a.map Ah).all Tp)=true
 rw[Cd,decide_eq_true_eq,Fb]
 refine ⟨by rw[Ac]; omega,λd c=>?_⟩
 obtain ⟨x,b,rfl⟩:=Bh.mp c
 exact decide_eq_true (e x b)
theorem aN(b:Bool):(!(b == b))=false:=by cases b <;> rfl
def lT:PF:=λd R=>∃(h:Int) (L:List (List Int)) (b w a c:List Int) (vs v:Int),d=[.list (L.map Bj),.list (L.map λw=>.list ((Ic L w).map Ah)),.list [.list (b.map Ah),.int vs,Bj w,.list (a.map Ah),.list (c.map Ah),.int v]]/\1<=h/\h<=4/\L.Perm (Dz h.toNat)/\Ord L/\b.length=L.length/\a.length=L.length/\(∀x∈a,0<=x)/\2<=vs/\vs<=16/\w∈L/\c.length<=1000/\R (.bool true)
section
variable{P:Bp}{w:World}{K:PySem.W.Frag}{mg:Str->Option Value}{base:Heap}
theorem eT:FnScope ["_law_words_here", "_law_over", "_law_some", "_law_face", "_law_values", "_law_word", "_law_numbers", "_law_row", "_law_value", "_law_holes", "_law_ends", "_law_told_here"] ["_law_words_here", "_law_over", "_law_some"] (Bv Rc):=⟨rfl,rfl,rfl,by decide +kernel,rfl,by decide +kernel,by decide +kernel⟩
theorem fH(F:Fun K "_law_right" "_law_right" Rc f fd)(j0:FnOk P w K mg base Gv 3 Q k3 ["holes", "reading", "word", "value"] (Ko K (zH)))(j2:Binds K k3 ["holes", "reading", "word", "value"] [])(q9:PySem.W.keepIn K (.ref Q)=true)(q8:mg "next_cut" = some (.ref Q))(x8:FnOk P w K mg base Gv 5 q4 j1 ["holes", "reading", "values"] (Ko K (rR)))(y0:Binds K j1 ["holes", "reading", "values"] [])(x9:PySem.W.keepIn K (.ref q4)=true)(x7:mg "often" = some (.ref q4))(q0:FnOk P w K mg base Gv 5 I S ["holes", "reading", "values", "thing"] (Ko K (tS)))(q1:Binds K S ["holes", "reading", "values", "thing"] [])(k9:PySem.W.keepIn K (.ref I)=true)(k8:mg "shows_least" = some (.ref I))(T:FnOk P w K mg base Gv 5 r D ["holes", "reading", "values", "thing"] (Ko K (lR)))(U:Binds K D ["holes", "reading", "values", "thing"] [])(V:PySem.W.keepIn K (.ref r)=true)(X:mg "shows_most_often" = some (.ref r))(j4:FnOk P w K mg base Gv 4 h5 q3 ["holes", "reading", "numbers", "word", "row"] (Ko K (Ym)))(j9:Binds K q3 ["holes", "reading", "numbers", "word", "row"] [])(j3:PySem.W.keepIn K (.ref h5)=true)(x0:mg "written" = some (.ref h5))(x3:FnOk P w K mg base Gv 1 k1 q6 ["_law_one", "_law_other"] (Ko K (bO)))(x4:Binds K q6 ["_law_one", "_law_other"] [])(x2:PySem.W.keepIn K (.ref k1)=true)(x6:mg "_law_lies" = some (.ref k1))(x1:FnOk P w K mg base Gv 2 Y q2 ["_law_words_here", "_law_face", "_law_values"] (Ko K (jM)))(j6:Binds K q2 ["_law_words_here", "_law_face", "_law_values"] [])(j8:PySem.W.keepIn K (.ref Y)=true)(j7:mg "_law_often" = some (.ref Y))(h9:FnOk P w K mg base Gv 1 y J ["_law_over", "_law_face", "_law_values", "_law_thing"] (Ko K (mT)))(k0:Binds K J ["_law_over", "_law_face", "_law_values", "_law_thing"] [])(k2:PySem.W.keepIn K (.ref y)=true)(h8:mg "_law_least_holds" = some (.ref y))(k5:FnOk P w K mg base Gv 1 C N ["_law_over", "_law_face", "_law_values", "_law_thing"] (Ko K (uK)))(k7:Binds K N ["_law_over", "_law_face", "_law_values", "_law_thing"] [])(k6:PySem.W.keepIn K (.ref C)=true)(k4:mg "_law_most_holds" = some (.ref C))(h6:FnOk P w K mg base Gv 2 t G ["_law_words_here", "_law_face", "_law_numbers", "_law_word", "_law_row", "_law_told_here"] (Ko K (IK)))(h4:Binds K G ["_law_words_here", "_law_face", "_law_numbers", "_law_word", "_law_row", "_law_told_here"] [])(Z:PySem.W.keepIn K (.ref t)=true)(h3:mg "_law_written_right" = some (.ref t))(q7:mg "len" = none)(y2:mg "max" = none)(q5:mg "enumerate" = none)(y1:mg "min" = none):FnOk P w K mg base Gv 6 f fd ["_law_words_here", "_law_over", "_law_some"] (Ko K (lT)):=by
 refine' Fz (k:=5) F eT (λv8 A v3 s H E hr=>?hb) ?h
 case hb =>
  have y8:Room 1 _:=hr.mono (by decide)
  have z5:Room 2 _:=hr.mono (by decide)
  have z9:Room 3 _:=hr.mono (by decide)
  have v2:Room 4 _:=hr.mono (by decide)
  have z3:Room 5 _:=hr.mono (by decide)
  have O:=hr.units
  exact Bt (B3 (Al (pv 2)) (F7 (n:=6) rfl (Gh (Ep (i:=3) eT.nd rfl (Ie rfl)) (Gh (Ep (i:=4) eT.nd rfl (Cy rfl)) (Gh (Ep (i:=5) eT.nd rfl (Ie rfl)) (Gh (Ep (i:=6) eT.nd rfl (Cy rfl)) (Gh (Ep (i:=7) eT.nd rfl (Cy rfl)) (Gh (Ep (i:=8) eT.nd rfl (Ie rfl)) Wz))))))))
   (Bt (Ej (i:=9) eT.nd rfl (Cy rfl) (Di (Yp rfl) jY rfl y2 (by decide +kernel) (Aj (Gp (AW (x := "_law_other") rfl (by decide +kernel)) rfl (Yo (Al (pv 0))) (λ_ _ _=>Ei) (λ_ _ _=>Di Gb Jg rfl q7 (by decide +kernel) (Aj (Al (pv 0)) Ay))) Ay)))
   (Bt (mW (o:=false) (i0:=10) eT.nd rfl rfl (GH (x := "_law_k") "_law_face" "_law_value" "_law_word" 3 8 5 rfl (by decide +kernel) rfl rfl rfl) (.inl rfl) (by decide +kernel) rfl (Ra rfl q5 (Aj (Al (pv 0)) Ay)) (λ_ _ _=>Kk (Yi (Ru (Oy O (Dy (Al (pv 2)) (Al (pv 0))) (Al (pv 3))) (Of (Ot (Dc x3 y8 rfl x6 x2 x4 Dv (Aj (Al (pv 4)) (Aj (Al (pv 1)) Ay)))))))) (λ_ _ _=>Al (pv 1)))
   (Bt (Ej (i:=11) eT.nd rfl (Cy rfl) (Dc j0 z9 rfl q8 q9 j2 Dv (Aj (Al (pv 9)) (Aj (Al (pv 3)) (Aj (Al (pv 5)) (Aj (Al (pv 8)) Ay))))))
   (Bt (Jw (Yi (Ru (Oy O (Al (pv 10)) (Fv Ay)) (Of (Nq O (Al (pv 11)) (Qg (Aj Rf Ay))))))
   (Cq (Ds Ll)) Hf)
   (Bt (Jw (Yi (Ru (Nq O (Al (pv 10)) (Fv Ay)) (Of (Yi (sQ (Nq O (Dy (Al (pv 11)) Ct) Rf) (kH (dE O (Dy (Al (pv 11)) Ct) (Al (pv 10)))))))))
   (Cq (Ds Ll)) Hf)
   (Bt (Jw (Yi (Ru (Nq O (Al (pv 10)) (Fv Ay)) (Of (Nq O (Di Gb Jg rfl q7 (by decide +kernel) (Aj (Dy (Al (pv 11)) Ct) Ay)) (Di (Ur rfl) aI rfl y1 (by decide +kernel) (Aj (Gp (AW (x := "_law_one") rfl (by decide +kernel)) rfl (Yo (Al (pv 10))) (λ_ _ _=>Ei) (λ_ _ _=>Di Gb Jg rfl q7 (by decide +kernel) (Aj (Al (pv 0)) Ay))) Ay))))))
   (Cq (Ds Ll)) Hf)
   (Bt (Jw (Nq O (Dc x8 z3 rfl x7 x9 y0 Dv (Aj (Al (pv 9)) (Aj (Al (pv 3)) (Aj (Al (pv 4)) Ay)))) (Dc x1 z5 rfl j7 j8 j6 Dv (Aj (Al (pv 0)) (Aj (Al (pv 3)) (Aj (Al (pv 4)) Ay)))))
   (Cq (Ds Ll)) Hf)
   (Bt (Jw (Nq O (Dc q0 z3 rfl k8 k9 q1 Dv (Aj (Al (pv 9)) (Aj (Al (pv 3)) (Aj (Al (pv 4)) (Aj (Al (pv 6)) Ay))))) (Dc h9 y8 rfl h8 k2 k0 Dv (Aj (Al (pv 1)) (Aj (Al (pv 3)) (Aj (Al (pv 4)) (Aj (Al (pv 6)) Ay))))))
   (Cq (Ds Ll)) Hf)
   (Bt (Jw (Nq O (Dc T z3 rfl X V U Dv (Aj (Al (pv 9)) (Aj (Al (pv 3)) (Aj (Al (pv 4)) (Aj (Al (pv 6)) Ay))))) (Dc k5 y8 rfl k4 k6 k7 Dv (Aj (Al (pv 1)) (Aj (Al (pv 3)) (Aj (Al (pv 4)) (Aj (Al (pv 6)) Ay))))))
   (Cq (Ds Ll)) Hf)
   (Cq (Ds (Dc h6 z5 rfl h3 Z h4 Dv (Aj (Al (pv 0)) (Aj (Al (pv 3)) (Aj (Al (pv 6)) (Aj (Al (pv 5)) (Aj (Al (pv 7)) (Aj (Dc j4 v2 rfl x0 j3 j9 Dv (Aj (Al (pv 9)) (Aj (Al (pv 3)) (Aj (Al (pv 6)) (Aj (Al (pv 5)) (Aj (Al (pv 7)) Ay)))))) Ay))))))))))))))))))
 case h =>
  (intro ds R q_; obtain ⟨h,L,m,w,h7,y4,vs,v,rfl,h0,h1,hp,ho,lf,ln,nn,v0,v1,hw,lr,hR⟩ := q_)
  refine ⟨rfl,?_⟩
  have nd:=Jx hp
  have lL:L.length=2 ^ h.toNat:=by rw[hp.length_eq,Eh]
  have p4:2 ^ h.toNat<=2 ^ 4:=Dj (by decide) (by omega)
  obtain ⟨v9,x5⟩:=Ha (n:=h.toNat) (by omega) hp
  array_get_dec
  refine Mk (l:=L) (g:=Bj) rfl (λw=>.int (w.length:Int)) (λw hw z8 no hy=>?_) ?_
  ·array_get_dec
   rw[Ac]
   exact hy
  array_get_dec
  refine ⟨L.map λw=>(w.length:Int),by rw[Bm]; rfl,λz=>?_,λM hM hz=>?_⟩
  ·rw[Fh.mp z] at hw; cases hw
  rw[vH (by omega) hp hM hz]
  clear hz hM M
  refine aX (l:=L.zipIdx) (g1:=λp=>.int p.2) (g2:=λp=>Bj p.1) (by rw[zip_map,Bm]; rfl) (Pd m w v) (λp=>Bj p.1) (λp hp z8 no hy hn=>?_) ?_
  ·obtain ⟨j,hj⟩:=Bx.mp hp
   obtain ⟨ek,w0,y6,y3⟩:=Oa hj
   obtain ⟨x,e1,e2,e3⟩:=Pc (l:=m) (i:=(p.2:Int)) (by omega) (by omega)
   rw[Cs] at e1
   have hh:Pd m w v p=(decide (x=v) && Zf w p.1):=by
    unfold Pd
    rw[e1]
    congr 1
    simp
   rw[hh] at hy hn
   array_get_dec
   refine ⟨.int x,by rw[Uq,e2]; rfl,dp,?_⟩
   array_get_dec
   refine Yr (λh1=>?_) (λh1=>?_)
   ·array_get_dec
    refine ⟨w,p.1,rfl,?_⟩
    refine Kj (λh2=>?_) (λh2=>?_)
    ·array_get_dec
     exact hy (by rw[h1,h2]; rfl)
    ·exact hn (by rw[h1,h2]; rfl)
   ·array_get_dec
    exact hn (by rw[h1]; rfl)
  have v7:(L.zipIdx.filter (Pd m w v))=Ex L m w v:=rfl
  rw[v7]
  array_get_dec
  refine ⟨h,m,w,v,rfl,by omega,by omega,by omega,λL' v4 v5=>?_⟩
  obtain rfl:L'=L:=Kw (v4.trans hp.symm) v5 ho
  obtain ⟨f,y5⟩:=bX nd lf
  have tg:KW (.list (h7.map Ah)):=.inl ⟨_,rfl,List.all_eq_true.mpr λd hd=>by
   obtain ⟨x,_,rfl⟩:=Bh.mp hd
   rfl⟩
  refine ⟨λe0=>?_,λp z4 z7=>?_⟩
  ·dsimp only
   rw[e0]
   array_get_dec
   refine ⟨h,L',f,vs,by rw[y5],by omega,by omega,hp,ho,v0,v1,λg hg=>?_⟩
   array_get_dec
   refine ⟨h,L',f,vs,by rw[y5],by omega,by omega,hp,v0,v1,λg' z1=>?_⟩
   rw[Ys (λu hu=>(x5 u hu).1) (λu hu=>by have:=(x5 u hu).2; omega) z1 hg]
   array_get_dec
   refine ⟨h,m,vs,_,rfl,by omega,by omega,by omega,v0,v1,tg,λL2 y6 z2=>?_⟩
   obtain rfl:L2=L':=Kw (y6.trans hp.symm) z2 ho
   refine ⟨λz=>?_,λj5 e l' z0=>?_⟩
   ·rw[Rv ln nn] at z; cases z
   obtain rfl:=Xd (Qv e)
   refine ⟨L2,m,vs,h7,rfl,lf.symm,by omega,v0,v1,ln,nn,?_⟩
   rw[oK lf.symm ln nn]
   array_get_dec
   rw[aN]
   array_get_dec
   refine ⟨h,m,vs,_,rfl,by omega,by omega,by omega,v0,v1,tg,λL3 y3 y7=>?_⟩
   obtain rfl:L3=L2:=Kw (y3.trans hp.symm) y7 ho
   refine ⟨λz=>?_,λj5 e l' z0=>?_⟩
   ·rw[Rv ln nn] at z; cases z
   obtain rfl:=Xd (Qv e)
   refine ⟨L3,m,vs,h7,rfl,lf.symm,by omega,v0,v1,ln,nn,?_⟩
   rw[fW lf.symm ln nn]
   array_get_dec
   rw[aN]
   array_get_dec
   obtain ⟨k,hk⟩:=Bx.mp hw
   refine ⟨h,L3,m,h7,w,k,y4,rfl,by omega,by omega,hp,ho,lf.symm,ln.symm,hk,lr,λms b y9=>?_⟩
   refine ⟨L3,m,h7,w,k,y4,ms,b,rfl,⟨nd,lf.symm,ln.symm,by omega,λu hu=>(x5 u hu).2⟩,nn,hk,lr,y9,?_⟩
   array_get_dec
   exact hR
  ·dsimp only
   have ne:(List.map (λp=>Bj p.1) (Ex L' m w v)).isEmpty=false:=by
    cases q:Ex L' m w v with
    | nil=>rw[q] at z4; cases z4
    | cons a l=>rfl
   rw[ne]
   array_get_dec
   rw[ne]
   array_get_dec
   rw[show (List.map (λp=>Bj p.1) (Ex L' m w v))=((Ex L' m w v).map (·.1)).map Bj by rw[Bm]; rfl]
   array_get_dec
   have pB:p.1∈(Ex L' m w v).map (·.1):=Hd (f:=(·.1)) z4
   have mB:∀c∈(Ex L' m w v).map (·.1),p.1.length<=c.length:=λc hc=>by
    obtain ⟨q,hq,rfl⟩:=Bh.mp hc
    exact z7 q hq
   rw[decide_eq_true pB]
   array_get_dec
   generalize (Ex L' m w v).map (·.1)=B at pB mB ⊢
   have nB:(B.map Bj).isEmpty=false:=by
    cases B with
    | nil=>cases pB
    | cons a l=>rfl
   rw[nB]
   array_get_dec
   refine Mk (l:=B) (g:=Bj) rfl (λc=>.int c.length) (λc hc z8 no hy=>?_) ?_
   ·array_get_dec
    rw[Ac]
    exact hy
   array_get_dec
   refine ⟨B.map λc=>(c.length:Int),by rw[Bm]; rfl,λz=>?_,λM hM z6=>?_⟩
   ·rw[Fh.mp z] at pB; cases pB
   have eM:((p.1.map Ah).length:Int)=M:=by
    rw[Ac]
    have g1:=z6 _ (Hd pB)
    obtain ⟨c2,v6,rfl⟩:=Bh.mp hM
    have g2:=mB c2 v6
    omega
   rw[eM]
   array_get_dec
   refine ⟨h,L',f,vs,by rw[y5],by omega,by omega,hp,ho,v0,v1,λg hg=>?_⟩
   array_get_dec
   refine ⟨h,L',f,vs,by rw[y5],by omega,by omega,hp,v0,v1,λg' z1=>?_⟩
   rw[Ys (λu hu=>(x5 u hu).1) (λu hu=>by have:=(x5 u hu).2; omega) z1 hg]
   array_get_dec
   refine ⟨h,m,vs,_,rfl,by omega,by omega,by omega,v0,v1,tg,λL2 y6 z2=>?_⟩
   obtain rfl:L2=L':=Kw (y6.trans hp.symm) z2 ho
   refine ⟨λz=>?_,λj5 e l' z0=>?_⟩
   ·rw[Rv ln nn] at z; cases z
   obtain rfl:=Xd (Qv e)
   refine ⟨L2,m,vs,h7,rfl,lf.symm,by omega,v0,v1,ln,nn,?_⟩
   rw[oK lf.symm ln nn]
   array_get_dec
   rw[aN]
   array_get_dec
   refine ⟨h,m,vs,_,rfl,by omega,by omega,by omega,v0,v1,tg,λL3 y3 y7=>?_⟩
   obtain rfl:L3=L2:=Kw (y3.trans hp.symm) y7 ho
   refine ⟨λz=>?_,λj5 e l' z0=>?_⟩
   ·rw[Rv ln nn] at z; cases z
   obtain rfl:=Xd (Qv e)
   refine ⟨L3,m,vs,h7,rfl,lf.symm,by omega,v0,v1,ln,nn,?_⟩
   rw[fW lf.symm ln nn]
   array_get_dec
   rw[aN]
   array_get_dec
   obtain ⟨k,hk⟩:=Bx.mp hw
   refine ⟨h,L3,m,h7,w,k,y4,rfl,by omega,by omega,hp,ho,lf.symm,ln.symm,hk,lr,λms b y9=>?_⟩
   refine ⟨L3,m,h7,w,k,y4,ms,b,rfl,⟨nd,lf.symm,ln.symm,by omega,λu hu=>(x5 u hu).2⟩,nn,hk,lr,y9,?_⟩
   array_get_dec
   exact hR
end
end K39
namespace DL
open PySem PySem.Spec PyProof.Rows L2 Nd
end DL
namespace Nd
open PySem PySem.Spec PyProof.Rows L2
def LR(c:Nat)(z:Str):Prop:=c∉z.cps.toList
end Nd
namespace DL
open PySem PySem.Spec PyProof.Rows L2 Nd
theorem At.forgetV{K:PySem.W.Frag}{d H:Hp}{X:Addr->Prop}{n i:Nat}{S T:List Ent}{u w:Option V}{x:DV}{F:List Addr}(h:At K d X n (S++T) H)(e:S[i]? = some ⟨u,x,F⟩):At K d X n (S.set i ⟨w,.un,[]⟩++T) H:=by
 have c:=h.perm ((Ia e).append_right T)
 have j:At K d X n (⟨w,.un,[]⟩::(S.eraseIdx i++T)) H:=by
  obtain ⟨k,g⟩:=Ba.mp c.sep
  refine ⟨λf hf=>?_,Ba.mpr ⟨λf hf=>⟨(λ_ a b=>nomatch b),(λ_ a _ b=>nomatch b)⟩,g⟩,λf hf a b=>?_,c.same,c.dom,c.xd⟩
  ·rcases Ao.mp hf with rfl | hf
   ·rfl
   ·exact c.ok f (Ae _ hf)
  ·rcases Ao.mp hf with rfl | hf
   ·exact nomatch b
   ·exact c.new f (Ae _ hf) a b
 exact j.perm ((Ln e).append_right T).symm
theorem At.spoilV{K:PySem.W.Frag}{j H H':Hp}{X:Addr->Prop}{n i:Nat}{S T:List Ent}{v w:Option V}{d:Ad}{F:List Addr}(h:At K j X n (S++T) H)(e:S[i]? = some ⟨v,.dat .ow d,F⟩)(np:∀f∈S.eraseIdx i++T,Lf f.x=false)(k:∀b o,H b=some o->(b∉F\/LH o)->H' b=some o):At K j X n (S.set i ⟨w,.un,[]⟩++T) H':=by
 have m:=h.perm ((Ia e).append_right T)
 have g:=m.spoil np k
 have l:At K j X n (⟨w,.un,[]⟩::(S.eraseIdx i++T)) H':=by
  refine ⟨λf hf=>?_,Ba.mpr ⟨λf hf=>⟨(λ_ a c=>nomatch c),(λ_ a _ c=>nomatch c)⟩,g.sep⟩,λf hf a c=>?_,g.same,g.dom,g.xd⟩
  ·rcases Ao.mp hf with rfl | hf
   ·rfl
   ·exact g.ok f hf
  ·rcases Ao.mp hf with rfl | hf
   ·exact nomatch c
   ·exact g.new f hf a c
 exact l.perm ((Ln e).append_right T).symm
theorem o6{a:Type}(l:List a)(k:Nat)(d:a):∃u,l=l.set k u:=by
 cases h:l[k]? with
 | none=>exact ⟨d,(oV (List.getElem?_eq_none_iff.mp h)).symm⟩
 | some u =>
  refine ⟨u,Eu λj=>?_⟩
  rw[Fj]
  by_cases e:k=j
  ·subst e
   rw[if_pos rfl,if_pos (Af.mp h).1,h]
  ·rw[if_neg e]
theorem C3{a:Type}{l:List a}{k:Nat}{u:a}(h:l[k]? = some u):l.set k u=l:=by
 refine Eu λj=>?_
 rw[Fj]
 by_cases e:k=j
 ·subst e
  rw[if_pos rfl,if_pos (Af.mp h).1,h]
 ·rw[if_neg e]
theorem tJ:vs (S.set i e)=(vs S).set i e.v:=by
 unfold vs
 rw[Ea]
def BF(k a:Nat):DB:=λD b=>∃(s:Str) (e f c d:List Ad),b.sl[k]? = some (.dat .ow (.list [.list e,.tuple [.str s,.list f],.list c,.list d]))/\npk b.sl=true/\k≠a/\a<b.sl.length /\
 (Dl e=true/\e.length<1000000)/\(Dl f=true/\f.length<1000000)/\(Dl c=true/\c.length<1000000)/\(Dl d=true/\d.length<1000000)/\D.nx ⟨(b.sl.set k .un).set a .un,b.n⟩
section
variable{X:Cx}{o0 L E m M W:Expr}{pos p0 Q d b U lp ep ap cp h4 i0 O J g R:Pos}{k a n0 Z I B C:Nat}{x1:Str}
theorem Q3(hp:PassesOwn (model X.prog X.w) X.A X.env X.xe)(hc:X.calm=true)(t0:PE X o0 (Tn k))(t1:PE X L (Tn k))(t2:PE X E (Tn k))(t3:PE X m (Tn k))(hN:X.N.Nodup)(ha:X.N[a]? = some x1)(j5:Loc X.env.scope x1)
  (vc:PE X W (Tn a)) (q8:PE X M (tC .non))
  (x0:X.fn x1=true\/X.env.scope.names.lookup x1=some .local:=by first | exact .inl rfl | exact .inr rfl | assumption)
  (h7:Po W "append" X.env (eval W X.env)=eval W X.env:=by rfl)
  (q1:((Gr cp (Bl [M] X.env)).all (λx=>!x.1) && (backToKw cp (Ue [] X.env)).all (λx=>x.1.isSome)
   && decide (([M]:List Expr).length+([]:List Pq).length+(if ([]:List Pq).isEmpty then 0 else 1)<30))=true:=by rfl)
  (h8:(ap.endLine == cp.line)=true:=by rfl) (q3:Bl [M] X.env=(false,eval M X.env)::Bl [] X.env:=by rfl) (k5:(Gr cp (Bl [] X.env)).any (·.1)=false:=by rfl)
  (j8:Hg (.Call (.Attribute W "append" ap) [M] [] cp) none ep.line X.env=pure false:=by rfl)
  (h0:Bl [.Subscript o0 (.Constant (.int 0) n0 i0) p0,.Subscript (.Subscript L (.Constant (.int 1) Z O) Q) (.Constant (.int 1) C R) U,.Subscript E (.Constant (.int 2) I J) d,.Subscript m (.Constant (.int 3) B g) b] X.env=(false,eval (.Subscript o0 (.Constant (.int 0) n0 i0) p0) X.env)::Bl [.Subscript (.Subscript L (.Constant (.int 1) Z O) Q) (.Constant (.int 1) C R) U,.Subscript E (.Constant (.int 2) I J) d,.Subscript m (.Constant (.int 3) B g) b] X.env:=by rfl)
  (h1:Bl [.Subscript (.Subscript L (.Constant (.int 1) Z O) Q) (.Constant (.int 1) C R) U,.Subscript E (.Constant (.int 2) I J) d,.Subscript m (.Constant (.int 3) B g) b] X.env=(false,eval (.Subscript (.Subscript L (.Constant (.int 1) Z O) Q) (.Constant (.int 1) C R) U) X.env)::Bl [.Subscript E (.Constant (.int 2) I J) d,.Subscript m (.Constant (.int 3) B g) b] X.env:=by rfl)
  (h2:Bl [.Subscript E (.Constant (.int 2) I J) d,.Subscript m (.Constant (.int 3) B g) b] X.env=(false,eval (.Subscript E (.Constant (.int 2) I J) d) X.env)::Bl [.Subscript m (.Constant (.int 3) B g) b] X.env:=by rfl)
  (h3:Bl [.Subscript m (.Constant (.int 3) B g) b] X.env=(false,eval (.Subscript m (.Constant (.int 3) B g) b) X.env)::Bl [] X.env:=by rfl)
  (hs:∀x,Cz (.List [.Subscript o0 (.Constant (.int 0) n0 i0) p0,.Subscript (.Subscript L (.Constant (.int 1) Z O) Q) (.Constant (.int 1) C R) U,.Subscript E (.Constant (.int 2) I J) d,.Subscript m (.Constant (.int 3) B g) b] lp) X.env x=pure x:=by intro _; rfl) :
  iJ X (.For (.Name x1 h4) (.List [.Subscript o0 (.Constant (.int 0) n0 i0) p0,.Subscript (.Subscript L (.Constant (.int 1) Z O) Q) (.Constant (.int 1) C R) U,.Subscript E (.Constant (.int 2) I J) d,.Subscript m (.Constant (.int 3) B g) b] lp) [.Expr (.Call (.Attribute W "append" ap) [M] [] cp) ep] [] pos) (BF k a):=by
 refine PS.impD (qY hp hc (tM (jC (Gz (Sg (r:=xS X.K) Ng t0 Ew (λ_ _=>rfl)) (Gz (Sg (r:=BS X.K) EA (Sg (r:=xS X.K) Ng t1 Ew (λ_ _=>rfl)) Ew (λ_ _=>rfl)) (Gz (Sg (r:=xS X.K) Ng t2 Ew (λ_ _=>rfl)) (Gz (Sg (r:=xS X.K) Ng t3 Ew (λ_ _=>rfl)) Oz h3) h2) h1) h0)))
  (Rm hN ha j5 x0) (Up (kI (sP PySem.F.plainAttrs_list PySem.F.slot_list_append PySem.F.type_list_append Us vc (Gz q8 Oz q3) h7 q1 h8 q3 k5) j8)) hs) λD σ H h=>?_
 obtain ⟨H0,Y,S,T,δ,P,rfl,hS,hT,hA,⟨s,d0,d1,d2,d3,hk,np,ka,la,m0,C,m2,m3,q7⟩,k1,k2,k3,k4⟩:=h
 obtain ⟨x6,e2,e3⟩:=Ge hS hk
 obtain ⟨u,y,F'⟩:=x6
 have x3:y=.dat .ow (.list [.list d0,.tuple [.str s,.list d1],.list d2,.list d3]):=e3
 subst x3
 obtain ⟨v,hv,rd,nd,_⟩:=hA.ok _ (Ap _ (Au e2))
 have x4:u=some v:=hv
 subst x4
 have k8:F'.Nodup:=nd rfl
 obtain ⟨t,xs,G,rfl,ht,ra,eF,hz⟩:=rd.list_inv
 have x5:F'=t::G:=eF
 subst x5
 cases ra with
 | cons a0 ra =>
 cases ra with
 | cons a1 ra =>
 cases ra with
 | cons a2 ra =>
 cases ra with
 | cons a3 ra =>
 cases ra
 obtain ⟨r0,y0,G0,rfl,j2,q4,rfl,_⟩:=a0.list_inv
 obtain rfl:=q4.imm m0.1
 obtain ⟨tt,xt,rfl,j9,rt,_⟩:=a1.tup_inv
 cases rt with
 | cons b0 rt =>
 cases rt with
 | cons b1 rt =>
 cases rt
 obtain ⟨rfl,rfl⟩:=b0.str_inv
 obtain ⟨r1,y1,G1,rfl,q9,k7,rfl,_⟩:=b1.list_inv
 obtain rfl:=k7.imm C.1
 obtain ⟨r2,y2,G2,rfl,j0,q0,rfl,_⟩:=a2.list_inv
 obtain rfl:=q0.imm m2.1
 obtain ⟨r3,y3,G3,rfl,q6,k6,rfl,_⟩:=a3.list_inv
 obtain rfl:=k6.imm m3.1
 have q5:[r0,r1,r2,r3].Nodup:=(Bw.mp k8).2
 have tG:t∉[r0,r1,r2,r3]:=(Bw.mp k8).1
 have h6:∀r∈[r0,r1,r2,r3],∃ys,H r=some (.lst ys)/\ys.length<Az:=λr hr=>by
  have big:1000000<=Az:=dZ (Ar _)
  simp only[Ao,Bn,or_false] at hr
  rcases hr with rfl | rfl | rfl | rfl
  ·exact ⟨_,j2,by rw[q4.len]; exact Bs m0.2 big⟩
  ·exact ⟨_,q9,by rw[k7.len]; exact Bs C.2 big⟩
  ·exact ⟨_,j0,by rw[q0.len]; exact Bs m2.2 big⟩
  ·exact ⟨_,q6,by rw[k6.len]; exact Bs m3.2 big⟩
 have ls:(vs S).length=δ.sl.length:=by
  have e:S.map Ent.x=δ.sl:=hS
  rw[<- e]
  unfold vs
  rw[Ac,Ac]
 have vt:=Jk e2
 refine ⟨.ref t,vt,t,_,0,.ref r0,rfl,rfl,Kv.of ht,Oh (j:=0) rfl,.ref t,vt,t,_,1,.ref tt,rfl,rfl,Kv.of ht,Oh (j:=1) rfl,tt,_,1,.ref r1,rfl,rfl,Ve.of j9,Oh (j:=1) rfl,.ref t,vt,t,_,2,.ref r2,rfl,rfl,Kv.of ht,Oh (j:=2) rfl,.ref t,vt,t,_,3,.ref r3,rfl,rfl,Kv.of ht,Oh (j:=3) rfl,(by show 4<=Az; exact dZ (by decide)),λp hp=>?_⟩
 have j6:∀r∈[r0,r1,r2,r3],r≠p:=λr hr z=>by
  obtain ⟨ys,e,_⟩:=h6 r hr
  rw[z,hp] at e; cases e
 refine ⟨p,rfl,⟨_,Kv.of Dq⟩,G6 (xs:=[r0,r1,r2,r3].map V.ref) (λi σ H'=>∃w1:Option V,σ=(vs S).set a w1/\H' p=some (.lst ([r0,r1,r2,r3].map V.ref))/\(∀c o,H c=some o->c∉[r0,r1,r2,r3]->H' c=some o)/\∀(j:Nat) (r:Addr),[r0,r1,r2,r3][j]? = some r->i<=j->∀o,H r=some o->H' r=some o) ?_ ?_ ?_ ?_⟩
 ·obtain ⟨w1,e1⟩:=o6 (vs S) a none
  exact ⟨w1,e1,Dq,λc o h _=>by rw[Cp λz=>by rw[z,hp] at h; cases h]; exact h,λ_ r _ _ o h=>by rw[Cp λz=>by rw[z,hp] at h; cases h]; exact h⟩
 ·(intro i σ H' _ q_; obtain ⟨w1,_,d,_⟩ := q_)
  exact Kv.of d
 ·(intro i x σ H' h5 q_; obtain ⟨w1,rfl,d,b,p4⟩ := q_)
  obtain ⟨r',k0,rfl⟩ : ∃r',[r0,r1,r2,r3][i]? = some r'/\x=.ref r':=by
   rw[Aq] at h5
   cases q:[r0,r1,r2,r3][i]? with
   | none=>rw[q] at h5; cases h5
   | some r'=>rw[q] at h5; exact ⟨r',rfl,(Bo h5).symm⟩
  have mr:=Au k0
  obtain ⟨ys,hy,hl⟩:=h6 r' mr
  have q2:=p4 i r' k0 (Ar _) _ hy
  refine ⟨.ref r',?_,.inl ⟨rfl,_,Kv.of q2⟩,r',ys,.non,rfl,rfl,q2,hl,?_⟩
  ·rw[List.set_set,Uh (by rw[ls]; exact la)]
  refine ⟨some (.ref r'),by rw[List.set_set],?_,λc o h n=>?_,λj k9 hj x7 o h=>?_⟩
  ·rw[Cp (Li (j6 r' mr))]; exact d
  ·rw[Cp λz=>n (by rw[z]; exact mr)]
   exact b c o h n
  ·have ne:k9≠r':=λz=>by
    subst z
    obtain ⟨g,i4⟩:=Af.mp k0
    obtain ⟨j3,j4⟩:=Af.mp hj
    exact Du.mp q5 i j g j3 (by omega) (i4.trans j4.symm)
   rw[Cp ne]
   exact p4 j k9 hj (by omega) o h
 ·(intro σ H' q_; obtain ⟨w1,rfl,d,b,p4⟩ := q_)
  have x2:=Yq hS np
  have j1:=hA.spoilV (w:=some (V.ref t)) e2 (λf hf=>by
   rcases Bf.mp hf with hf | hf
   ·exact x2 f ((Kd S k).subset hf)
   ·exact hT f hf) (H':=H') λc o h z=>b c o h λq=>by
     rcases z with z | z
     ·exact z (Ae _ q)
     ·obtain ⟨ys,e,_⟩:=h6 c q
      rw[e] at h
      cases h
      rcases z with ⟨_,z⟩ | ⟨_,_,z⟩ <;> cases z
  have l1:S.length=δ.sl.length:=by
   have e:S.map Ent.x=δ.sl:=hS
   rw[<- e,Ac]
  obtain ⟨⟨ua,x8,Fa⟩,ea⟩ : ∃en,(S.set k ⟨some (.ref t),.un,[]⟩)[a]? = some en:=⟨_,Ag (by rw[List.length_set]; omega)⟩
  have j7:=j1.forgetV (w:=w1) ea
  have h9:=k1 ⟨(δ.sl.set k .un).set a .un,δ.n⟩ _ H' ?_ j7 q7
  ·rw[tJ,tJ] at h9
   rw[C3 (l:=vs S) (Jk e2)] at h9
   exact h9
  ·unfold Sl
   rw[Ea,Ea,show S.map Ent.x=δ.sl from hS]
end
end DL
namespace DRow
open PySem L2 Nd DL
def Zs(w u:List Int):Bool:=w.all λi=>decide (i∈u)
def CK(a b:List Int)(ps:List (List Int×Bool)):Option Bool:=ps.foldl (λst p=>if Zs p.1 a=Zs p.1 b then st else some (Zs p.1 a == !p.2)) none
theorem R6(a b:List Int)(ps:List (List Int×Bool))(p:List Int×Bool):CK a b (ps++[p])=if Zs p.1 a=Zs p.1 b then CK a b ps else some (Zs p.1 a == !p.2):=by
 unfold CK
 rw[aD]
 rfl
def cW(ps:List (List Int×Bool))(n:List Int):List Int:=ps.reverse.map λp=>if Zs p.1 n=p.2 then 1 else 0
theorem gI(ps:List (List Int×Bool))(p:List Int×Bool)(n:List Int):cW (ps++[p]) n=(if Zs p.1 n=p.2 then 1 else 0)::cW ps n:=by
 unfold cW
 rw[List.reverse_append,Bg]
 rfl
theorem G5{a:Type}{P:List a->Prop}(h0:P [])(h1:∀l x,P l->P (l++[x]))(l:List a):P l:=by
 have : ∀m:List a,P m.reverse:=λm=>by
  induction m with
  | nil=>exact h0
  | cons x m b=>rw[Ig]; exact h1 _ _ b
 have:=this l.reverse
 rwa [List.reverse_reverse] at this
theorem yP(b a:List Int)(ps:List (List Int×Bool)):(CK b a ps=none↔cW ps b=cW ps a)/\(CK b a ps=some true↔HT.lexLt (cW ps b) (cW ps a)=true):=by
 induction ps using G5 with
 | h0=>exact ⟨⟨λ_=>rfl,λ_=>rfl⟩,⟨λh=>(by cases h),λh=>(by cases h)⟩⟩
 | h1 l p c =>
  rw[R6,gI,gI,HT.lexLt_cons]
  by_cases h:Zs p.1 b=Zs p.1 a
  ·rw[if_pos h,h,if_pos rfl]
   refine ⟨c.1.trans ⟨λe=>by rw[e],λe=>(Dd e).2⟩,c.2⟩
  ·rw[if_neg h]
   cases h1:Zs p.1 b <;> cases d:Zs p.1 a <;> cases f:p.2 <;> rw[h1,d] at h <;> first | exact absurd rfl h | simp
theorem zE(x y:List Int)(ps:List (List Int×Bool)):CK x y ps=some false↔(¬ cW ps x=cW ps y/\¬ HT.lexLt (cW ps x) (cW ps y)=true):=by
 rw[<- (yP x y ps).1,<- (yP x y ps).2]
 cases CK x y ps with
 | none=>simp
 | some b=>cases b <;> simp
abbrev Ps:=List Int×Bool
def AY(p:Ps):Ad:=.tuple [Bj p.1,.str (M3 p.2)]
instance {p:Ps}:Im (AY p):=⟨(inferInstance:Im (.tuple [Bj p.1,.str (M3 p.2)])).h⟩
instance {p:Ps}:Dp (AY p) 2:=⟨(inferInstance:Dp (.tuple [Bj p.1,.str (M3 p.2)]) _).h⟩
instance {α:Type} {f:α->Ad} {l:List α} {lo hi:Option Int} [h:∀a,Im (f a)]:ImA (Ny (l.map f) lo hi):=⟨by rw[oJ]; exact NT⟩
theorem cutG_from(xs:List a)(k:Nat):Ny xs (some (k:Int)) none=xs.drop k:=by
 unfold Ny
 rw[HT.sIx_none,HT.sIx_nat]
 by_cases h:k<=xs.length
 ·rw[Nat.min_eq_left h,Hi (by rw[dX]; exact Ar _)]
 ·rw[eJ (by omega),sL (by omega),sL (by omega),List.take_nil]
end DRow
namespace K39
open PySem L2 Nd DL
local macro_rules | `(tactic| array_get_dec) => do
  let ids:=(("e_maxL e_idx e_idxB e_idxC e_sortL e_seq e_skip e_ret e_if e_asg e_name e_name2 e_name3 e_own e_nF e_gtup e_gsn e_gsc e_op e_var e_c e_imm e_immB e_take e_I e_I0 e_bestK e_eqF e_eqT e_inTl e_inFt_w1 e_inTt_w1 e_isNF e_ixl e_ixt e_cat e_catT_w1 e_rep e_nlT e_nlF e_pkOfsh e_pkOfow e_mdInsh e_mdIntp e_mdNewsh e_mdItsh e_mdIttp e_mdItow e_nil e_cons e_tup e_lst e_noPart e_part e_partB e_sl e_slBl e_cb e_lenl e_lent_w1 e_intb e_max2 e_MinL e_MaxL e_all e_isi e_str e_v e_b e_bB e_tru e_truB e_notT e_andT e_andTt e_andTf e_orT e_orTf e_not e_notB e_and e_andt e_andf e_ifE e_neg e_negB e_dL e_dTp e_lB e_tpB_w1 e_range1 e_rng1B e_enum e_enumB e_zip e_zipB e_for e_comp e_comp2 e_compL e_comp2L e_stepL e_stepLT e_glst e_compD e_noTest e_step e_stepT e_stepF e_yesB e_stepD e_stepDT e_yesBD e_call e_callW e_draws e_drawsB e_append e_setI e_revL e_appendO e_stepK e_stepKB e_scrSl e_sortW e_dnew e_dput e_dictZ e_dictZB e_tagD e_inew e_iput e_getI e_isIc2 e_tagI e_forN e_sortK e_MaxD e_callA e_callWS e_callWSB dgetN_e isIct iputB ik_e getI_e ow_npk callWSD retWT callAB retA retA_tp isDct dputB dk_e dget_e wordsD callB callBW tupB lstB datas pkMd allOw noPk appB appOB mmd revLB setB own1 npk retE retL args0 frD frD1 alD List.map_cons List.map_nil List.replicate List.getElem?_cons_zero List.getElem?_cons_succ List.set_cons_zero List.set_cons_succ List.cons_append List.nil_append Option.map_some List.length_cons List.length_nil List.append_nil rdAdd rdSub rdMul rdDiv rdMod rdXor rdLe rdGt rdGe if_true if_false Bool.false_eq_true mdZip List.append_assoc Nat.reduceAdd Nat.reduceSub Nat.reduceLeDiff true_and im_e ima_e dp_e dpa_e any_int any_word eqD_intd eqD_bl eqD_str eqD_li eqD_l0 ow_e tt_e cdiv_e cpow_e Int.reduceLT Int.reduceLE Nat.reduceLT Int.reduceNeg and_self Int.reduceToNat Nat.reduceMul isi_ib isi_bb Bool.not_true Bool.not_false String.reduceEq or_true true_or List.isEmpty_nil ifB_lt ifB_lf str_self Int.reduceEq atI_0 atI_1 some_e dec_self eqD_tup1 okT_l yesL_ow yesL_sh catL_owtp catL_shtp" : String).splitOn " ").toArray.map λ(x:String)=>Lean.mkIdent x.toName
  `(tactic| try simp only [$[↓$ids:ident],*])
theorem tT{n:Nat}{L:List (List Int)}{f g:List Int->Int}{vs:Int}(h:Yt L f vs g)(A:2<=vs)(i:∀u∈L,Iz n u)(hl:∀u∈L,u.length<=10):∀(m:Nat) (w:List Int),w∈L->10 - w.length<=m->0<=g w/\g w<=(10 - w.length:Nat):=by
 intro m
 induction m with
 | zero =>
  intro w a s
  have b:=hl w a
  refine ⟨(h w a 0).mpr λv _ _ _=>Ri _,?_⟩
  obtain ⟨v,o,k,c⟩ : ∃v:Int,0<=v/\v<vs/\v≠f w:=by
   by_cases q:f w=0
   ·exact ⟨1,by omega,by omega,by omega⟩
   ·exact ⟨0,by omega,by omega,by omega⟩
  have e:=(h w a (g w)).mp (Gs _) v o k c
  have : Gu L f g w v=0:=by
   unfold Gu
   rw[List.filter_eq_nil_iff.mpr]
   ·rfl
   ·intro u d q
    rw[Cd,decide_eq_true_eq] at q
    have:=Vr (i w a) (i u d) q.2 (λz=>c (by rw[<- q.1,z]))
    have:=hl u d
    omega
  omega
 | succ m p =>
  intro w a s
  have b:=hl w a
  refine ⟨(h w a 0).mpr λv _ _ _=>Ri _,?_⟩
  obtain ⟨v,o,k,c⟩ : ∃v:Int,0<=v/\v<vs/\v≠f w:=by
   by_cases q:f w=0
   ·exact ⟨1,by omega,by omega,by omega⟩
   ·exact ⟨0,by omega,by omega,by omega⟩
  have e:=(h w a (g w)).mp (Gs _) v o k c
  by_cases r:0<g w
  ·unfold Gu at e
   obtain ⟨y,t,B⟩:=(Oi r).mp e
   obtain ⟨u,d,rfl⟩:=Bh.mp t
   obtain ⟨l,j⟩:=Bi.mp d
   rw[Cd,decide_eq_true_eq] at j
   have:=Vr (i w a) (i u l) j.2 (λz=>c (by rw[<- j.1,z]))
   have x:=hl u l
   have:=(p u l (by omega)).2
   omega
  ·omega
structure Tg where
 f:List Int->Int
 f1:List Int
 v0:Int
 v1:Int
 w0:List Int
 w1:List Int
 nu:List Int
 nu1:List Int
 r0:List Int
 r1:List Int
 x0:Int
 x1:Int
def iD(l:List Int):Ad:=.list (l.map Ah)
def Tg.tl(L:List (List Int))(t:Tg):List Ad:=[.list [iD (L.map t.f),iD t.f1],.list [.int t.v0,.int t.v1],.list [Bj t.w0,Bj t.w1],.list [iD t.nu,iD t.nu1],.list [iD t.r0,iD t.r1],.list [.int t.x0,.int t.x1]]
def Bd(b:Int)(l:List Int):Prop:=∀x∈l,0<=x/\x<=b
structure Tg.Ok(h:Int)(L:List (List Int))(t:Tg):Prop where
 h1:1<=h
 h4:h<=4
 hp:L.Perm (Dz h.toNat)
 ho:Ord L
 bf:Bd 4 (L.map t.f)
 bf1:Bd 4 t.f1
 lf1:t.f1.length=L.length
 bv0:2<=t.v0/\t.v0<=5
 bv1:2<=t.v1/\t.v1<=5
 mw0:t.w0∈L
 mw1:t.w1∈L
 bn:Bd 20 t.nu
 bn1:Bd 20 t.nu1
 ln:t.nu.length=L.length
 ln1:t.nu1.length=L.length
 br0:Bd 4 t.r0
 br1:Bd 4 t.r1
 lr0:t.r0.length<=6
 lr1:t.r1.length<=6
 bx0:0<=t.x0/\t.x0<=4
 bx1:0<=t.x1/\t.x1<=4
theorem zW{l:List Int}{k:Nat}{x:Int}:Ny (l.map Ah) none (some (k:Int))++Ah x::Ny (l.map Ah) (some ((k:Int)+1)) none=(l.take k++[x]++l.drop (k+1)).map Ah:=by
 rw[gO,show ((k:Int)+1)=((k+1:Nat):Int) by omega,DRow.cutG_from,Bg,Bg,List.map_take,List.map_drop,Df]
 rfl
theorem uO{l:List Int}{k:Nat}{x:Int}(h:k<l.length):(l.take k++[x]++l.drop (k+1)).length=l.length:=by
 simp
 omega
theorem aQ(l:List Int)(lo a:Option Int):(Ny (l.map Ah) lo a).length<=l.length:=by
 have:=(Wx (l.map Ah) lo a).length_le
 rwa [Ac] at this
def oB:DF:=λa n R=>a=[]/\n<=50000/\∀(h:Int) (L:List (List Int)) (t:Tg) n',t.Ok h L->n<=n'->n'<=n+200->R (.list (.list (L.map Bj)::t.tl L)) n'
theorem i5(h:Bd b l)(a:0<=x/\x<=b):Bd b (l.take k++[x]++l.drop (k+1)):=λy hy=>by
 rcases Bf.mp hy with hy | hy
 ·rcases Bf.mp hy with hy | hy
  ·exact h y (List.mem_of_mem_take hy)
  ·rw[Ak.mp hy]; exact a
 ·exact h y (List.mem_of_mem_drop hy)
section
variable{P:Bp}{w:World}{K:PySem.W.Frag}{mg:Str->Option Value}{base:Heap}
theorem dJ:FnScope ["_law_draws_here", "_law_holes", "_law_words_here", "_law_pick", "_law_values", "_law_face", "_law_at", "_law_new", "_law_other", "_law_two", "_law_numbers", "_law_more", "_law_rows", "_law_k"] ["_law_draws_here"] (Bv Qh):=⟨rfl,rfl,rfl,by decide +kernel,rfl,by decide +kernel,by decide +kernel⟩
theorem cD(F:Fun K "_law_things" "_law_things" Qh f fd)(e:FnOk P w K mg base Gv 1 D Q ["_law_draws_here"] (JZ K rX))(d:Binds K Q ["_law_draws_here"] [])(j:PySem.W.keepIn K (.ref D)=true)(c:mg "_law_next" = some (.ref D))(X:FnOk P w K mg base Gv 1 v J ["_law_holes"] (Ko K (Ol)))(Y:Binds K J ["_law_holes"] [])(h4:PySem.W.keepIn K (.ref v)=true)(h5:mg "_law_words" = some (.ref v))(h6:FnOk P w K mg base Gv 2 y M ["_law_words_here", "_law_face", "_law_values"] (Ko K (jM)))(Z:Binds K M ["_law_words_here", "_law_face", "_law_values"] [])(h3:PySem.W.keepIn K (.ref y)=true)(h1:mg "_law_often" = some (.ref y))(h7:mg "len" = none)(C:mg "range" = none):FnOk P w K mg base Gv 3 f fd ["_law_draws_here"] (V7 K (oB)):=by
 refine' zT (k:=2) F dJ (λq9 A q7 s H E hr=>?hb) ?h
 case hb =>
  have I:Room 1 _:=hr.mono (by decide)
  have q5:Room 2 _:=hr.mono (by decide)
  have k4:=hr.units
  exact Bt (Ej (i:=1) dJ.nd rfl (Cy rfl) (Mu Ct (Ma (Jv e I rfl c j d Dv (pv 0) Ay) Ct)))
   (Bt (Ej (i:=2) dJ.nd rfl (Cy rfl) (Dc X I rfl h5 h4 Y Dv (Aj (Al (pv 1)) Ay)))
   (Bt (Ej (i:=3) dJ.nd rfl (Cy rfl) (Jv e I rfl c j d Dv (pv 0) Ay))
   (Bt (Ej (i:=4) dJ.nd rfl (Cy rfl) (Fv (Aj (Mu Ct (Ma (Al (pv 3)) Ct)) (Aj (Mu Ct (Ma (Mu (Mu (Al (pv 3)) Ct) (Ma (BX (Al (pv 3)) Ct) Ct)) Ct)) Ay))))
   (Bt (lV (o:=false) (i0:=5) dJ.nd rfl rfl (js1:=[]) (j0:=0) (js2:=[]) (sX (x := "_law_word") "_law_draws_here" 0 rfl (by decide +kernel) rfl rfl rfl) rfl (Yo (Al (pv 2))) (λ_ _ _=>Ei) (λ_ _ _=>Ma (Jv e I rfl c j d Dv (pv 1) Ay) Ct))
   (Bt (Ej (i:=6) dJ.nd rfl (Cy rfl) (Ma (Jv e I rfl c j d Dv (pv 0) Ay) (Di Gb Jg rfl h7 (by decide +kernel) (Aj (Al (pv 2)) Ay))))
   (Bt (Ej (i:=7) dJ.nd rfl (Cy rfl) (Ma (Mu (Mu (Dy (Al (pv 5)) (Al (pv 6))) Ct) (Ma (Jv e I rfl c j d Dv (pv 0) Ay) Ct)) Ct))
   (Bt (Ej (i:=8) dJ.nd rfl (Cy rfl) (Sy (Sy (Ow (i:=true) (Al (pv 5)) Nk (Nn (Al (pv 6)))) (Fv (Aj (Tr (Al (pv 7))) Ay))) (Ow (i:=true) (Al (pv 5)) (Nn (Mu (Al (pv 6)) Ct)) Nk)))
   (Bt (Ej (i:=9) dJ.nd rfl (Cy rfl) (Fv (Aj (Tr (Dy (Al (pv 2)) (Ma (Jv e I rfl c j d Dv (pv 0) Ay) (Di Gb Jg rfl h7 (by decide +kernel) (Aj (Al (pv 2)) Ay))))) (Aj (Qg Ay) Ay))))
   (Bt (Ej (i:=10) dJ.nd rfl (Cy rfl) (Dc h6 q5 rfl h1 h3 Z Dv (Aj (Al (pv 2)) (Aj (Al (pv 5)) (Aj (Dy (Al (pv 4)) Ct) Ay)))))
   (Bt (Jw (Oy k4 (Ma (Jv e I rfl c j d Dv (pv 0) Ay) Ct) Ct)
   (Cq (lV (o:=false) (i0:=10) dJ.nd rfl rfl (js1:=[]) (j0:=0) (js2:=[]) (sX (x := "_law_word") "_law_draws_here" 0 rfl (by decide +kernel) rfl rfl rfl) rfl (Yo (Al (pv 2))) (λ_ _ _=>Ei) (λ_ _ _=>Ma (Jv e I rfl c j d Dv (pv 1) Ay) Ct))) Hf)
   (Bt (Ej (i:=11) dJ.nd rfl (Cy rfl) (Sy (Sy (Ow (i:=true) (Al (pv 10)) Nk (Nn (Al (pv 6)))) (Fv (Aj (Mu (Dy (Al (pv 10)) (Al (pv 6))) Ct) Ay))) (Ow (i:=true) (Al (pv 10)) (Nn (Mu (Al (pv 6)) Ct)) Nk)))
   (Bt (Py (i:=12) dJ.nd rfl (Cy rfl) (Fv Ay))
   (Bt (Lx Dn rfl (Hb rfl C (Aj Ct Ay)) (Ep (i:=13) dJ.nd rfl (Cy rfl))
   (Cq (rK (pv 12) (mF (js1:=[]) (j0:=0) (js2:=[]) (sX (x := "_law_turn") "_law_draws_here" 0 rfl (by decide +kernel) rfl rfl rfl) rfl (Hb rfl C (Aj (Ma (Jv e I rfl c j d Dv (pv 0) Ay) Ct) Ay)) (λ_ _ _=>Ei) (λ_ _ _=>Ma (Jv e I rfl c j d Dv (pv 1) Ay) Ct)))))
   (Cq (Ds (Fv (Aj (Al (pv 2)) (Aj (Fv (Aj (Al (pv 5)) (Aj (Al (pv 8)) Ay))) (Aj (Al (pv 4)) (Aj (Al (pv 9)) (Aj (Fv (Aj (Al (pv 10)) (Aj (Al (pv 11)) Ay))) (Aj (aO (pv 12)) (Aj (mF (js1:=[]) (j0:=0) (js2:=[]) (sX (x := "_law_k") "_law_draws_here" 0 rfl (by decide +kernel) rfl rfl rfl) rfl (Hb rfl C (Aj Ct Ay)) (λ_ _ _=>Ei) (λ_ _ _=>Ma (Jv e I rfl c j d Dv (pv 1) Ay) Ct)) Ay)))))))))))))))))))))))
 case h =>
  (intro ds n R q_; obtain ⟨rfl,hn,hR⟩ := q_)
  refine ⟨rfl,?_⟩
  array_get_dec
  refine ⟨rfl,by omega,λr0=>?_⟩
  array_get_dec
  have b0:=Vw r0 (b:=4) (by omega)
  generalize r0 % 4=h0 at b0
  refine ⟨1+h0,rfl,by omega,by omega,λL hp ho=>?_⟩
  have nd:=Jx hp
  have lL:L.length=2 ^ (1+h0).toNat:=by rw[hp.length_eq,Eh]
  have p4:2 ^ (1+h0).toNat<=2 ^ 4:=Dj (by decide) (by omega)
  have p1:2 ^ 1<=2 ^ (1+h0).toNat:=Dj (by decide) (by omega)
  have j1:L.length<=16/\2<=L.length:=by omega
  clear p4 p1 lL
  obtain ⟨j3,k6⟩:=Ha (n:=(1+h0).toNat) (by omega) hp
  array_get_dec
  refine ⟨rfl,by omega,λS=>?_⟩
  array_get_dec
  have h2:∀{t:List Int} {r:Int},Bd 4 t->Bd 4 (t++[r % 5]):=λ{t r} h x hx=>by
   rcases Bf.mp hx with z | z
   ·exact h x z
   ·have:=Vw r (b:=5) (by omega)
    rw[Ak.mp z]; omega
  refine aF (l:=L) (g:=Bj) rfl rfl (λi B m=>∃t:List Int,B=t.map Ah/\t.length=i/\Bd 4 t/\m=n+2+i) ⟨[],rfl,rfl,(λ_ z=>nomatch z),rfl⟩ (λi a B m ha ⟨t,V,T,U,q4⟩=>?_) (λB m ⟨t,V,T,U,q4⟩=>?_)
  ·have hi:=(Af.mp ha).1
   array_get_dec
   refine ⟨rfl,by omega,λr3=>?_⟩
   array_get_dec
   exact ⟨t++[r3 % 5],by rw[V,Bg]; rfl,by simp [T],h2 U,by omega⟩
  subst V
  obtain ⟨f,rfl⟩:=bX nd T
  have q0:=U
  array_get_dec
  refine ⟨rfl,by omega,λr4=>?_⟩
  array_get_dec
  rw[Ac]
  have b4:=Vw r4 (b:=(L.length:Int)) (by omega)
  generalize r4 % (L.length:Int)=p at b4
  obtain ⟨p,rfl⟩:=sN b4.1
  have ha:p<(L.map f).length:=by rw[Ac]; omega
  refine ⟨by omega,?_⟩
  have ea:((L.map f).map Ah)[p]? = some (.int (L.map f)[p]):=by rw[Aq,Ag ha]; rfl
  have ba:=U _ (Kz ha)
  generalize (L.map f)[p]=fa at ea ba
  refine ⟨_,Oh ea,?_⟩
  array_get_dec
  refine ⟨rfl,by omega,λr5=>?_⟩
  array_get_dec
  have b5:=Vw (fa+1+r5 % 4) (b:=5) (by omega)
  generalize (fa+1+r5 % 4) % 5=new at b5
  have c1:=aQ (L.map f) none (some (p:Int))
  have c2:=aQ (L.map f) (some ((p:Int)+1)) none
  rw[T] at c1 c2
  have bo:Bd 4 ((L.map f).take p++[new]++(L.map f).drop (p+1)):=i5 U (by omega)
  have lo:((L.map f).take p++[new]++(L.map f).drop (p+1)).length=L.length:=by rw[uO ha,T]
  refine ⟨by omega,by rw[Bz,Kb]; omega,rfl,by omega,λr6=>?_⟩
  rw[zW]
  generalize (L.map f).take p++[new]++(L.map f).drop (p+1)=f1 at bo lo
  array_get_dec
  rw[Ac]
  have b6:=Vw r6 (b:=(L.length:Int)) (by omega)
  generalize r6 % (L.length:Int)=k at b6
  obtain ⟨k,rfl⟩:=sN b6.1
  have hk:k<L.length:=by omega
  have ek:(L.map Bj)[k]? = some (Bj L[k]):=by rw[Aq,Ag hk]; rfl
  have mk:=Kz hk
  generalize L[k]=w0 at ek mk
  refine ⟨by omega,_,Oh ek,lQ w0,?_⟩
  array_get_dec
  refine ⟨1+h0,L,f,2+S % 4,rfl,by omega,by omega,hp,by omega,by omega,λg hg=>?_⟩
  have gb:=λw hw=>tT hg (by omega) (λu hu=>(k6 u hu).1) (λu hu=>(k6 u hu).2) 10 w hw (by omega)
  have bg:Bd 10 (L.map g):=λx hx=>by
   obtain ⟨w,hw,rfl⟩:=Bh.mp hx
   have:=gb w hw
   omega
  have lg:(L.map g).length=L.length:=Ac _
  generalize L.map g=O at bg lg
  array_get_dec
  refine ⟨rfl,by omega,λr7=>?_⟩
  array_get_dec
  have hm:n<=m/\m<=n+20:=by omega
  refine GX (λδ=>∃(O:List Int) (m':Nat),δ=⟨[.drw,.dat .sh (.int (1+h0)),.dat .sh (.list (L.map Bj)),.dat .sh (.int S),.dat .sh (.list [.int (2+S % 4),.int (2+(S+1+S / 4 % 3) % 4)]),.dat .sh (.list ((L.map f).map .int)),.dat .sh (.int p),.dat .sh (.int new),.dat .sh (.list (f1.map .int)),.dat .sh (.list [Bj w0,.tuple []]),.dat .sh (.list (O.map .int)),.un,.un,.un],m'⟩/\Bd 10 O/\O.length=L.length/\n<=m'/\m'<=n+60) (λN hN=>?_) ?_
  ·refine Xq (λq=>?_) (λq=>?_)
   ·array_get_dec
    refine aF (l:=L) (g:=Bj) rfl rfl (λi B m'=>∃t:List Int,B=t.map Ah/\t.length=i/\Bd 10 t/\m'=m+4+i) ⟨[],rfl,rfl,(λ_ z=>nomatch z),rfl⟩ (λi a B m' ha ⟨t,V,T,U,q4⟩=>?_) (λB m' ⟨t,V,T,U,q4⟩=>?_)
    ·have hi:=(Af.mp ha).1
     array_get_dec
     refine ⟨rfl,by omega,λr3=>?_⟩
     array_get_dec
     refine ⟨t++[r3 % 3],by rw[V,Bg]; rfl,by simp [T],λx hx=>?_,by omega⟩
     rcases Bf.mp hx with z | z
     ·exact U x z
     ·have:=Vw r3 (b:=3) (by omega)
      rw[Ak.mp z]; omega
    ·subst V
     array_get_dec
     exact hN _ ⟨t,_,rfl,U,T,by omega,by omega⟩
   ·array_get_dec
    exact hN _ ⟨O,_,rfl,bg,lg,by omega,by omega⟩
  clear bg lg gb hg
  (intro _ q_; obtain ⟨O,m',rfl,bg,lg,q6,j2⟩ := q_)
  have ln:p<O.length:=by omega
  have en:(O.map Ah)[p]? = some (.int O[p]):=by rw[Aq,Ag ln]; rfl
  have q8:=bg _ (Kz ln)
  generalize O[p]=na at en q8
  have k0:Bd 20 O:=λx hx=>by have:=bg x hx; omega
  have k8:Bd 20 (O.take p++[na+1]++O.drop (p+1)):=i5 k0 (by omega)
  have k5:(O.take p++[na+1]++O.drop (p+1)).length=L.length:=by rw[uO ln,lg]
  have c3:=aQ O none (some (p:Int))
  have c4:=aQ O (some ((p:Int)+1)) none
  array_get_dec
  refine ⟨_,Oh en,?_⟩
  array_get_dec
  refine ⟨by omega,by rw[Bz,Kb]; omega,?_⟩
  rw[zW]
  generalize O.take p++[na+1]++O.drop (p+1)=nu1 at k8 k5
  refine Xe (l:=Bq 2) (g:=λi:Nat=>.int i) rfl (λi δ=>∃(G:List (List Int)) (h8:DV) (k':Nat),δ=⟨[.drw,.dat .sh (.int (1+h0)),.dat .sh (.list (L.map Bj)),.dat .sh (.int S),.dat .sh (.list [.int (2+S % 4),.int (2+(S+1+S / 4 % 3) % 4)]),.dat .sh (.list ((L.map f).map .int)),.dat .sh (.int p),.dat .sh (.int new),.dat .sh (.list (f1.map .int)),.dat .sh (.list [Bj w0,.tuple []]),.dat .sh (.list (O.map .int)),.dat .sh (.list (nu1.map .int)),.dat .ow (.list (G.map iD)),h8],k'⟩/\NP h8/\G.length=i/\(∀r∈G,Bd 4 r/\r.length<=6)/\n<=k'/\k'<=m'+10 * i) ?_ ?_ ?_
  ·exact ⟨[],_,_,rfl,He,rfl,(λr z=>nomatch z),q6,by omega⟩
  ·(intro i a _ ha q_; obtain ⟨G,h8,k',rfl,k7,lr,h9,k1,k2⟩ := q_)
   obtain ⟨rfl,hi⟩:=Ox ha
   array_get_dec
   refine ⟨rfl,by omega,λr8=>?_⟩
   array_get_dec
   have b8:=Vw r8 (b:=7) (by omega)
   generalize r8 % 7=z at b8
   refine ⟨by omega,by omega,?_⟩
   refine aF (l:=Bq z.toNat) (g:=λi:Nat=>.int i) rfl rfl (λi B q=>∃t:List Int,B=t.map Ah/\t.length=i/\Bd 4 t/\q=k'+1+i) ⟨[],rfl,rfl,(λ_ z=>nomatch z),rfl⟩ (λi a2 B q ha ⟨t,V,T,U,q4⟩=>?_) (λB q ⟨t,V,T,U,q4⟩=>?_)
   ·obtain ⟨rfl,k9⟩:=Ox ha
    array_get_dec
    refine ⟨rfl,by omega,λr3=>?_⟩
    array_get_dec
    exact ⟨t++[r3 % 5],by rw[V,Bg]; rfl,by simp [T],h2 U,by omega⟩
   ·subst V
    rw[Co] at T q4
    array_get_dec
    refine ⟨by rw[Ac]; omega,G++[t],_,_,lI (by rw[Bg]; rfl) rfl,Fl,by simp [lr],λr hr=>?_,by omega,by omega⟩
    rcases Bf.mp hr with z | z
    ·exact h9 r z
    ·rw[Ak.mp z]; exact ⟨U,by omega⟩
  ·(intro _ q_; obtain ⟨G,h8,k',rfl,k7,lr,h9,k1,k2⟩ := q_)
   rw[Co] at lr k2
   array_get_dec
   refine aF (l:=Bq 2) (g:=λi:Nat=>.int i) rfl rfl (λi B q=>∃t:List Int,B=t.map Ah/\t.length=i/\Bd 4 t/\q=k'+i) ⟨[],rfl,rfl,(λ_ z=>nomatch z),rfl⟩ (λi a2 B q ha ⟨t,V,T,U,q4⟩=>?_) (λB q ⟨t,V,T,U,q4⟩=>?_)
   ·obtain ⟨rfl,k9⟩:=Ox ha
    array_get_dec
    refine ⟨rfl,by omega,λr3=>?_⟩
    array_get_dec
    exact ⟨t++[r3 % 5],by rw[V,Bg]; rfl,by simp [T],h2 U,by omega⟩
   ·subst V
    rw[Co] at T q4
    obtain ⟨x0,x1,rfl⟩ : ∃x0 x1,t=[x0,x1]:=by
     match t,T with
     | [a,b],_=>exact ⟨a,b,rfl⟩
    obtain ⟨ra,rb,rfl⟩ : ∃ra rb,G=[ra,rb]:=by
     match G,lr with
     | [a,b],_=>exact ⟨a,b,rfl⟩
    array_get_dec
    have b1:=U x0 (by simp)
    have b2:=U x1 (by simp)
    have b3:=h9 ra (by simp)
    have k3:=h9 rb (by simp)
    exact ⟨by omega,hR (1+h0) L ⟨f,f1,2+S % 4,2+(S+1+S / 4 % 3) % 4,w0,[],O,nu1,ra,rb,x0,x1⟩ q ⟨by omega,by omega,hp,ho,q0,bo,lo,⟨by show 2<=2+S % 4; omega,by show 2+S % 4<=5; omega⟩,⟨by show 2<=2+(S+1+S / 4 % 3) % 4; omega,by show 2+(S+1+S / 4 % 3) % 4<=5; omega⟩,mk,(Yu hp).mpr (Iz.nil _),k0,k8,lg,k5,b3.1,k3.1,b3.2,k3.2,b1,b2⟩ (by omega) (by omega)⟩
end
def sS(L:List (List Int))(t:Tg)(D:Ad):Prop:=∃(g:List Int->Int) (k:Nat) (d:List Nat) (b:Bool) (a c:List (List Int)),Yt L t.f t.v0 g/\L[k]? = some t.w0/\WrR L (L.map t.f) t.nu k t.r0 d b/\a.Perm (Dz 3)/\Ord a/\c.Perm (Dz 1)/\Ord c /\
 D=.list [.list ((L.map g).map Ah),HY L b d,.list (a.map λw=>.int (Lw w)),.list (c.map λw=>.int (Lw w))]
theorem HI{L:List (List Int)}(c:L.Nodup){i j:Nat}{w:List Int}(h:L[i]? = some w)(k:L[j]? = some w):i=j:=by
 obtain ⟨e,a⟩:=Af.mp h
 obtain ⟨d,b⟩:=Af.mp k
 exact (List.getElem_inj c).mp (a.trans b.symm)
theorem oT(ok:t.Ok h L)(a:sS L t D)(b:sS L t e):D=e:=by
 have E:=Jx ok.hp
 obtain ⟨_,c⟩:=Ha (n:=h.toNat) (by have:=ok.h4; omega) ok.hp
 obtain ⟨g,k,F,b1,G,H,i,v,j,q,B,o,C,rfl⟩:=a
 obtain ⟨J,I,f,x,r,z,p,y,m,A,s,l,w,rfl⟩:=b
 obtain rfl:=HI E v y
 obtain ⟨rfl,rfl⟩:=EJ j m
 obtain rfl:=Kw (q.trans A.symm) B s
 obtain rfl:=Kw (o.trans l.symm) C w
 rw[Ys (λu d=>(c u d).1) (λu d=>by have:=(c u d).2; omega) i p]
def o8:PF:=λa R=>∃(h:Int) (L:List (List Int)) (t:Tg),a=[.list (L.map Bj),.list (t.tl L)]/\t.Ok h L/\∀D,sS L t D->R D
section
variable{P:Bp}{w:World}{K:PySem.W.Frag}{mg:Str->Option Value}{base:Heap}
theorem jZ:FnScope ["_law_words_here", "_law_things_here", "_law_holes", "_law_face", "_law_values", "_law_two", "_law_numbers", "_law_rows"] ["_law_words_here", "_law_things_here"] (Bv Sz):=⟨rfl,rfl,rfl,by decide +kernel,rfl,by decide +kernel,by decide +kernel⟩
theorem jA(F:Fun K "_law_told" "_law_told" Sz f fd)(D:FnOk P w K mg base Gv 5 e u ["holes", "reading", "values"] (Ko K (rR)))(I:Binds K u ["holes", "reading", "values"] [])(G:PySem.W.keepIn K (.ref e)=true)(J:mg "often" = some (.ref e))(v:FnOk P w K mg base Gv 4 a d ["holes", "reading", "numbers", "word", "row"] (Ko K (Ym)))(y:Binds K d ["holes", "reading", "numbers", "word", "row"] [])(B:PySem.W.keepIn K (.ref a)=true)(C:mg "written" = some (.ref a))(r:FnOk P w K mg base Gv 2 c o ["k"] (Ko K (mK)))(q:Binds K o ["k"] [])(j:PySem.W.keepIn K (.ref c)=true)(m:mg "folded" = some (.ref c))(N:mg "len" = none)(O:mg "max" = none):FnOk P w K mg base Gv 6 f fd ["_law_words_here", "_law_things_here"] (Ko K (o8)):=by
 refine' Fz (k:=5) F jZ (λh2 A X s H E S=>?hb) ?h
 case hb =>
  have h7:Room 1 _:=S.mono (by decide)
  have T:Room 2 _:=S.mono (by decide)
  have h5:Room 3 _:=S.mono (by decide)
  have Y:Room 4 _:=S.mono (by decide)
  have Z:Room 5 _:=S.mono (by decide)
  have h0:=S.units
  exact Bt (Ej (i:=2) jZ.nd rfl (Cy rfl) (Di (Yp rfl) jY rfl O (by decide +kernel) (Aj (Gp (AW (x := "_law_other") rfl (by decide +kernel)) rfl (Yo (Al (pv 0))) (λ_ _ _=>Ei) (λ_ _ _=>Di Gb Jg rfl N (by decide +kernel) (Aj (Al (pv 0)) Ay))) Ay)))
   (Bt (B3 (bQ (AW (x := "_law_one") rfl (by decide +kernel)) rfl (Yo (Ow (i:=false) (Al (pv 1)) Nk (Nn Ct))) (λ_ _ _=>Ei) (λ_ _ _=>Dy (Al (pv 0)) Ct)) (F7 (n:=5) rfl (Gh (Ep (i:=3) jZ.nd rfl (Cy rfl)) (Gh (Ep (i:=4) jZ.nd rfl (Cy rfl)) (Gh (Ep (i:=5) jZ.nd rfl (Cy rfl)) (Gh (Ep (i:=6) jZ.nd rfl (Cy rfl)) (Gh (Ep (i:=7) jZ.nd rfl (Cy rfl)) Wz)))))))
   (Cq (Ds (Fv (Aj (Dc D Z rfl J G I Dv (Aj (Al (pv 2)) (Aj (Al (pv 3)) (Aj (Al (pv 4)) Ay)))) (Aj (Dc v Y rfl C B y Dv (Aj (Al (pv 2)) (Aj (Al (pv 3)) (Aj (Al (pv 6)) (Aj (Al (pv 5)) (Aj (Al (pv 7)) Ay)))))) (Aj (Dc r T rfl m j q Dv (Aj Ct Ay)) (Aj (Dc r T rfl m j q Dv (Aj Ct Ay)) Ay))))))))
 case h =>
  (intro ds R q_; obtain ⟨h,L,t,rfl,ok,hR⟩ := q_)
  refine ⟨rfl,?_⟩
  have nd:=Jx ok.hp
  have k1:=ok.h1
  have k4:=ok.h4
  have Q:=ok.hp
  have lL:L.length=2 ^ h.toNat:=by rw[Q.length_eq,Eh]
  have p4:2 ^ h.toNat<=2 ^ 4:=Dj (by decide) (by omega)
  obtain ⟨h3,h6⟩:=Ha (n:=h.toNat) (by omega) Q
  array_get_dec
  refine Mk (l:=L) (g:=Bj) rfl (λw=>.int (w.length:Int)) (λw hw V no U=>?_) ?_
  ·array_get_dec
   rw[Ac]
   exact U
  array_get_dec
  refine ⟨L.map λw=>(w.length:Int),by rw[Bm]; rfl,λz=>?_,λM hM hz=>?_⟩
  ·have:=ok.mw0
   rw[Fh.mp z] at this; cases this
  rw[vH (by omega) Q hM hz]
  clear hz hM M
  unfold Tg.tl iD
  array_get_dec
  refine qT (l:=[(.list ((L.map t.f).map Ah),.list (t.f1.map Ah)),(.int t.v0,.int t.v1),(Bj t.w0,Bj t.w1),(.list (t.nu.map Ah),.list (t.nu1.map Ah)),(.list (t.r0.map Ah),.list (t.r1.map Ah))]) (g:=λp:Ad×Ad=>.list [p.1,p.2]) rfl (λp=>p.1) (λp Q V no U=>?_) ?_
  ·array_get_dec
   exact U
  array_get_dec
  have bv:=ok.bv0
  obtain ⟨k,hk⟩:=Bx.mp ok.mw0
  have l6:=ok.lr0
  refine ⟨h,L,t.f,t.v0,rfl,by omega,by omega,Q,ok.ho,by omega,by omega,λg hg=>?_⟩
  refine ⟨h,L,L.map t.f,t.nu,t.w0,k,t.r0,rfl,by omega,by omega,Q,ok.ho,by rw[Ac],ok.ln.symm,hk,by omega,λms b hW=>?_⟩
  refine ⟨2,rfl,by omega,by omega,λL2 p2 o2=>?_⟩
  refine ⟨1,rfl,by omega,by omega,λL1 p1 o1=>?_⟩
  exact hR _ ⟨g,k,ms,b,L2,L1,hg,hk,hW,p2,o2,p1,o1,rfl⟩
end
def sW:PF:=λa R=>∃(h:Int) (L:List (List Int)) (t:Tg),a=[.list (L.map Bj),.list (t.tl L)]/\t.Ok h L/\R (.bool true)
def AF(D:Ad):Prop:=(∃b,b<=400/\Oj b D/\(b+12) * Lk D<=Az)/\D.depth<=60
theorem gY(l:List Int):Bk (l.map Ah)=0:=by
 induction l with
 | nil=>rfl
 | cons x l a=>simp only[Ax,Bk,Cm,a]; rfl
theorem X8(l:List (List Int)):Bk (l.map Bj)<=1:=by
 induction l with
 | nil=>simp [Bk]
 | cons x l a =>
  have : Cm (Bj x)=1:=by unfold Bj; rw[Cm,gY]
  simp only[Ax,Bk,this]
  omega
theorem Yl{l:List Int}(h:∀x∈l,x.natAbs<1000):Gm 12 (l.map Ah):=lE.mpr λx a=>by
 obtain ⟨i,b,rfl⟩:=Bh.mp a
 have:=h i b
 rw[Oj]; omega
theorem Y8{l:List (List Int)}(h:∀w∈l,∀x∈w,x.natAbs<1000):Gm 12 (l.map Bj):=lE.mpr λx a=>by
 obtain ⟨w,b,rfl⟩:=Bh.mp a
 unfold Bj
 rw[Oj]
 exact Yl (h w b)
theorem AZ{l:List (List Int)}(h:∀w∈l,w.length<=10):Hw (l.map Bj)<=11 * l.length:=by
 have:=Zl (m:=11) (xs:=l.map Bj) λx a=>by
  obtain ⟨w,b,rfl⟩:=Bh.mp a
  unfold Bj
  rw[Lk,Le]
  have:=h w b
  omega
 rwa [Ac] at this
theorem KM:∀w∈Dz 3,(Lw w).natAbs<1000:=by decide +kernel
theorem KD:∀w∈Dz 1,(Lw w).natAbs<1000:=by decide +kernel
theorem JW(b:Bool):(reprText (T8 b)).length<=12:=by cases b <;> decide +kernel
theorem G9(ok:t.Ok h L)(a:sS L t D):AF D:=by
 obtain ⟨g,k,j,b,f,i,y,S,z,q,V,p,X,rfl⟩:=a
 have T:=ok.h4
 have W:=ok.bv0
 obtain ⟨_,d⟩:=Ha (n:=h.toNat) (by omega) ok.hp
 have Q:L.length=2 ^ h.toNat:=by rw[ok.hp.length_eq,Eh]
 have U:2 ^ h.toNat<=2 ^ 4:=Dj (by decide) (by omega)
 have A:=λw c=>tT y (by omega) (λu o=>(d u o).1) (λu o=>(d u o).2) 10 w c (by omega)
 obtain ⟨O,_,s⟩:=rT z
 have P:=ok.lr0
 have r:∀w∈j.map λm=>L.getD m [],w∈L:=λw c=>by
  obtain ⟨m,H,rfl⟩:=Bh.mp c
  have:=s m H
  rw[Br,Ag this]
  exact Kz this
 have C:(f.map λw=>Ah (Lw w))=(f.map Lw).map Ah:=by rw[Bm]; rfl
 have G:(i.map λw=>Ah (Lw w))=(i.map Lw).map Ah:=by rw[Bm]; rfl
 have N:f.length=8:=by rw[q.length_eq,Eh]
 have R:i.length=2:=by rw[p.length_eq,Eh]
 have J:Gm 12 ((L.map g).map Ah):=Yl λx e=>by
  obtain ⟨w,c,rfl⟩:=Bh.mp e
  have:=A w c
  omega
 have v:Gm 12 ((f.map Lw).map Ah):=Yl λx e=>by
  obtain ⟨w,c,rfl⟩:=Bh.mp e
  exact KM w (q.mem_iff.mp c)
 have M:Gm 12 ((i.map Lw).map Ah):=Yl λx e=>by
  obtain ⟨w,c,rfl⟩:=Bh.mp e
  exact KD w (p.mem_iff.mp c)
 have E:=Y8 (l:=j.map λm=>L.getD m []) λw c x e=>by
  have:=(d w (r w c)).1.2 x e
  omega
 have B:=AZ (l:=j.map λm=>L.getD m []) λw c=>(d w (r w c)).2
 rw[Ac] at B
 have K:=Le (ns:=L.map g)
 have F:=Le (ns:=f.map Lw)
 have I:=Le (ns:=i.map Lw)
 rw[Ac] at K F I
 rw[G,C]
 unfold HY
 refine ⟨⟨12,by decide,?_,dZ ?_⟩,?_⟩
 ·simp only[Oj,Gm]
  exact ⟨J,⟨JW b,E,trivial⟩,v,M,trivial⟩
 ·simp only[Lk,Hw]
  omega
 ·have Y:=X8 (j.map λm=>L.getD m [])
  simp only[Cm,Bk,gY]
  omega
section
variable{P:Bp}{w:World}{K:PySem.W.Frag}{mg:Str->Option Value}{base:Heap}
theorem eZ:FnScope ["_law_words_here", "_law_things_here", "_law_told_here", "_law_again", "_law_text", "_law_one"] ["_law_words_here", "_law_things_here"] (Bv Mc):=⟨rfl,rfl,rfl,by decide +kernel,rfl,by decide +kernel,by decide +kernel⟩
theorem fB(F:Fun K "_law_stays" "_law_stays" Mc f M)(l:FnOk P w K mg base Gv 6 e o ["_law_words_here", "_law_things_here"] (Ko K (o8)))(j:Binds K o ["_law_words_here", "_law_things_here"] [])(c:PySem.W.keepIn K (.ref e)=true)(d:mg "_law_told" = some (.ref e))(n:mg "str" = none):FnOk P w K mg base Gv 7 f M ["_law_words_here", "_law_things_here"] (Ko K (sW)):=by
 refine' Fz (k:=6) F eZ (λy A u s H E q=>?hb) ?h
 case hb =>
  have h0:Room 1 _:=q.mono (by decide)
  have N:Room 2 _:=q.mono (by decide)
  have U:Room 3 _:=q.mono (by decide)
  have Z:Room 4 _:=q.mono (by decide)
  have h1:Room 5 _:=q.mono (by decide)
  have x:Room 6 _:=q.mono (by decide)
  have r:=q.units
  have B:Room 6 (Sr Gv P w K mg base ["_law_words_here", "_law_things_here", "_law_told_here", "_law_again", "_law_text", "_law_one"] "_law_stays" (Bv Mc) f y A u s H E).nox.A:=q
  have p:(Sr Gv P w K mg base ["_law_words_here", "_law_things_here", "_law_told_here", "_law_again", "_law_text", "_law_one"] "_law_stays" (Bv Mc) f y A u s H E).nox.A.units+100<cLine:=by have:=B.un; omega
  exact Bt (Ej (i:=2) eZ.nd rfl (Cy rfl) (Dc l x rfl d c j Dv (Aj (Al (pv 0)) (Aj (Al (pv 1)) Ay))))
   (Bt (Py (i:=3) eZ.nd rfl (Cy rfl) (Dc l x rfl d c j Dv (Aj (Al (pv 0)) (Aj (Al (pv 1)) Ay))))
   (Bt (Ej (i:=4) eZ.nd rfl (Cy rfl) (Ki (Oq q.gd p) Yk rfl n (by decide +kernel) (Aj (Al (pv 2)) Ay)))
   (Bt (Jw (Nq r (Ki (Oq q.gd p) Yk rfl n (by decide +kernel) (Aj (Al (pv 3)) Ay)) (Al (pv 4)))
   (Cq (Ds Ll)) Hf)
   (Bt (Q3 (a:=5) Dn rfl (pv 3) (pv 3) (pv 3) (pv 3) eZ.nd rfl (Cy rfl) (pv 5) C4)
   (Cq (Ds (qG (fR r (Ki (Oq q.gd p) Yk rfl n (by decide +kernel) (Aj (Al (pv 2)) Ay)) (Al (pv 4))) (qZ (fR r (Ki (Oq q.gd p) Yk rfl n (by decide +kernel) (Aj (Dc l x rfl d c j Dv (Aj (Al (pv 0)) (Aj (Al (pv 1)) Ay))) Ay)) (Al (pv 4)))))))))))
 case h =>
  (intro ds R X; obtain ⟨h,L,t,rfl,ok,hR⟩ := X)
  refine ⟨rfl,?_⟩
  array_get_dec
  refine ⟨h,L,t,rfl,ok,λD z=>?_⟩
  array_get_dec
  refine ⟨h,L,t,rfl,ok,λD2 G=>?_⟩
  obtain rfl:=oT ok z G
  obtain ⟨v,V⟩:=G9 ok z
  array_get_dec
  refine ⟨v,by omega,v,by omega,?_⟩
  unfold BF
  obtain ⟨g,k,S,b,I,J,-,-,O,T,-,Q,-,Y⟩:=id z
  obtain ⟨m1,-,-⟩:=rT O
  have m3:=ok.lr0
  have h4:=ok.h4
  have lL:L.length=2 ^ h.toNat:=by rw[ok.hp.length_eq,Eh]
  have q4:2 ^ h.toNat<=2 ^ 4:=Dj (by decide) (by omega)
  have l2:I.length=8:=by rw[T.length_eq,Eh]
  have l1:J.length=2:=by rw[Q.length_eq,Eh]
  refine ⟨T8 b,(L.map g).map Ah,(S.map λm=>L.getD m []).map Bj,I.map λw=>.int (Lw w),J.map λw=>.int (Lw w),by rw[Y]; rfl,?_⟩
  array_get_dec
  refine ⟨by decide,by rw[Ac,Ac]; omega,by rw[Ac,Ac]; omega,by rw[Ac]; omega,by rw[Ac]; omega,v,by omega,h,L,t,rfl,ok,λD3 C=>?_⟩
  obtain rfl:=oT ok z C
  array_get_dec
  exact ⟨v,by omega,hR⟩
end
theorem MC(w:List Int):Lk (Bj w)=w.length+1:=by unfold Bj; rw[Lk,Le]
theorem LP(w:List Int):Cm (Bj w)=1:=by unfold Bj; rw[Cm,gY]
theorem LX(w:List Int):Oj 12 (Bj w)=Gm 12 (w.map Ah):=by unfold Bj; rw[Oj]
theorem rA{h:Int}{L:List (List Int)}{t:Tg}(ok:t.Ok h L):AF (.list (.list (L.map Bj)::t.tl L)):=by
 have B:=ok.h4
 obtain ⟨_,c⟩:=Ha (n:=h.toNat) (by omega) ok.hp
 have v:L.length=2 ^ h.toNat:=by rw[ok.hp.length_eq,Eh]
 have D:2 ^ h.toNat<=2 ^ 4:=Dj (by decide) (by omega)
 have d:∀{b:Int} {l:List Int},b<=100->Bd b l->Gm 12 (l.map Ah):=λr h=>Yl λx e=>by have:=h x e; omega
 have j:∀w∈L,Gm 12 (w.map Ah):=λw g=>Yl λx e=>by have:=(c w g).1.2 x e; omega
 have i:∀{x:Int},0<=x->x<=10->x.natAbs<10 ^ 12:=λa b=>by omega
 have z:=ok.bv0
 have b1:=ok.bv1
 have b2:=ok.bx0
 have m:=ok.bx1
 have y:=ok.lf1
 have o:=ok.ln
 have A:=ok.ln1
 have q:=ok.lr0
 have C:=ok.lr1
 have E:=(c _ ok.mw0).2
 have u:=(c _ ok.mw1).2
 have s:=AZ (l:=L) λw g=>(c w g).2
 have k:=Le (ns:=L.map t.f)
 rw[Ac] at k
 unfold Tg.tl iD
 refine ⟨⟨12,by decide,?_,dZ ?_⟩,?_⟩
 ·simp only[Oj,Gm,LX]
  exact ⟨Y8 λw g x e=>by have:=(c w g).1.2 x e; omega,⟨d (by decide) ok.bf,d (by decide) ok.bf1,trivial⟩,⟨i (by omega) (by omega),i (by omega) (by omega),trivial⟩,⟨j _ ok.mw0,j _ ok.mw1,trivial⟩,⟨d (by decide) ok.bn,d (by decide) ok.bn1,trivial⟩,⟨d (by decide) ok.br0,d (by decide) ok.br1,trivial⟩,⟨i b2.1 (by omega),i m.1 (by omega),trivial⟩,trivial⟩
 ·simp only[Lk,Hw,MC,Le,Ac]
  omega
 ·have p:=X8 L
  simp only[Cm,Bk,gY,LP]
  omega
def KN:List (List Int):=[0,0,0,0,0,0]::(Bq 6).map λk=>(Bq 6).map λj=>if j=k then 1 else 0
def NR(p:List Int):Prop:=∃a b c d e f:Bool,p=[a,b,c,d,e,f].map λx=>if x=true then 1 else 0
theorem BV:∀p∈KN++KN.reverse,NR p:=by
 intro p a
 have a:p∈KN:=(Bf.mp a).elim id dW.mp
 simp only[KN,show Bq 6=[0,1,2,3,4,5] from rfl,Ax,Jj,Ao,Bn,or_false] at a
 rcases a with rfl | rfl | rfl | rfl | rfl | rfl | rfl
 ·exact ⟨false,false,false,false,false,false,rfl⟩
 ·exact ⟨true,false,false,false,false,false,rfl⟩
 ·exact ⟨false,true,false,false,false,false,rfl⟩
 ·exact ⟨false,false,true,false,false,false,rfl⟩
 ·exact ⟨false,false,false,true,false,false,rfl⟩
 ·exact ⟨false,false,false,false,true,false,rfl⟩
 ·exact ⟨false,false,false,false,false,true,rfl⟩
section
variable{P:Bp}{w:World}{K:PySem.W.Frag}{mg:Str->Option Value}{base:Heap}
theorem EZ:FnScope ["_law_script", "_law_cell", "_law_things_here", "_law_words_here", "_law_over", "_law_kept", "_law_picks", "_law_pick", "_law_some"] ["_law_script"] (Bv Zy):=⟨rfl,rfl,rfl,by decide +kernel,rfl,by decide +kernel,by decide +kernel⟩
theorem DY(F:Fun K "law" "law" Zy f fd)(h9:FnOk P w K mg base Gv 1 m D ["_law_cell"] (Xm))(h3:Binds K D ["_law_cell"] [])(T:PySem.W.keepIn K (.ref m)=true)(h7:mg "_law_draws" = some (.ref m))(N:FnOk P w K mg base Gv 2 a v ["_law_words_here"] (KS K (oI)))(S:Binds K v ["_law_words_here"] [])(I:PySem.W.keepIn K (.ref a)=true)(J:mg "_law_beyond" = some (.ref a))(R:FnOk P w K mg base Gv 3 b u ["_law_draws_here"] (V7 K (oB)))(Q:Binds K u ["_law_draws_here"] [])(M:PySem.W.keepIn K (.ref b)=true)(O:mg "_law_things" = some (.ref b))(h5:FnOk P w K mg base Gv 6 d C ["_law_words_here", "_law_over", "_law_some"] (Ko K (lT)))(Y:Binds K C ["_law_words_here", "_law_over", "_law_some"] [])(Z:PySem.W.keepIn K (.ref d)=true)(U:mg "_law_right" = some (.ref d))(X:FnOk P w K mg base Gv 7 r B ["_law_words_here", "_law_things_here"] (Ko K (sW)))(h6:Binds K B ["_law_words_here", "_law_things_here"] [])(V:PySem.W.keepIn K (.ref r)=true)(h0:mg "_law_stays" = some (.ref r))(k0:mg "str" = none)(G:mg "range" = none)(k3:mg "int" = none)(k2:mg "zip" = none):FnOk P w K mg base Gv 8 f fd ["_law_script"] (spLawD K):=by
 refine' BW (k:=7) F EZ (λk7 A h8 s H E hr=>?hb) ?h
 case hb =>
  have q5:Room 1 _:=hr.mono (by decide)
  have q6:Room 2 _:=hr.mono (by decide)
  have q0:Room 3 _:=hr.mono (by decide)
  have j1:Room 4 _:=hr.mono (by decide)
  have j4:Room 5 _:=hr.mono (by decide)
  have q3:Room 6 _:=hr.mono (by decide)
  have q8:Room 7 _:=hr.mono (by decide)
  have k6:=hr.units
  have q7:Room 7 (Sr Gv P w K mg base ["_law_script", "_law_cell", "_law_things_here", "_law_words_here", "_law_over", "_law_kept", "_law_picks", "_law_pick", "_law_some"] "law" (Bv Zy) f k7 A h8 s H E).nox.A:=hr
  have k1:(Sr Gv P w K mg base ["_law_script", "_law_cell", "_law_things_here", "_law_words_here", "_law_over", "_law_kept", "_law_picks", "_law_pick", "_law_some"] "law" (Bv Zy) f k7 A h8 s H E).nox.A.units+100<cLine:=by have:=q7.un; omega
  have q4:∀{h2:Scope} (h:h2={ kind:=.function,names:=[(".0",.local),("_law_k",.cell),("range",.globalImplicit)],isGenerator:=false,isCoroutine:=false }),
    CompScope (Sr Gv P w K mg base ["_law_script", "_law_cell", "_law_things_here", "_law_words_here", "_law_over", "_law_kept", "_law_picks", "_law_pick", "_law_some"] "law" (Bv Zy) f k7 A h8 s H E).nox h2 [] "_law_k" [] []:=by
   rintro h2 rfl
   exact ⟨by rfl,.inr ⟨"_law_k",λ_=>rfl,rfl,by decide +kernel⟩,by rfl,by decide +kernel,.inr rfl,λy c h=>by simp at h,by rfl,by decide +kernel,rfl,λk y j e1 e2=>by simp at e1⟩
  exact Bt (Lx Dn rfl (Yo (Sy (zD (pv 0) Nk (Nn Ct)) (Fv (Aj Ct Ay)))) (Ep (i:=1) EZ.nd rfl (Cy rfl))
   (Bt (Ej (i:=2) EZ.nd rfl (Cy rfl) (xZ R q0 rfl O M Q Dv (Aj (L9 h9 q5 rfl h7 T h3 Dv (Aj (Al (pv 1)) Ay)) Ay)))
    (Bt (Ej (i:=3) EZ.nd rfl (Cy rfl) (Dy (Al (pv 2)) Ct))
    (Bt (Ej (i:=4) EZ.nd rfl (Cy rfl) (yN N q6 rfl J I S Dv (Aj (Al (pv 3)) Ay)))
    (Bt (Ej (i:=5) EZ.nd rfl (Cy rfl) (Ki (Oq hr.gd k1) Yk rfl k0 (by decide +kernel) (Aj (Al (pv 2)) Ay)))
    (Bt (Ej (i:=6) EZ.nd rfl (Cy rfl) (sV (Fv (Aj (x6 (Fv (Aj Ct Ay)) Ct) Ay)) (bQ (q4 rfl) rfl (Hb rfl G (Aj Ct Ay)) (λ_ _ _=>Ei) (λ_ _ _=>Gp (sX (x := "_law_j") "_law_k" 0 rfl (by decide +kernel) rfl rfl rfl) rfl (Hb rfl G (Aj Ct Ay)) (λ_ _ _=>Ei) (λ_ _ _=>Ki Yx qS rfl k3 (by decide +kernel) (Aj (fR k6 (Al (pv 0)) (Al (pv 1))) Ay))))))
    (Bt (Lx Dn rfl (Yo (sV (Al (pv 6)) (E6 (i:=false) (Al (pv 6)) (DP Ct)))) (Ep (i:=7) EZ.nd rfl (Cy rfl))
    (Bt (wW (o:=false) (i0:=8) EZ.nd rfl rfl (AW (x := "_law_one") rfl (by decide +kernel)) (.inl rfl) (by decide +kernel) rfl (zI rfl k2 (Aj (Ow (i:=false) (Al (pv 2)) (Nn Ct) Nk) (Aj (Al (pv 7)) Ay))) (λ_ _ _=>Ei) (λ_ _ _=>Dy (Al (pv 0)) (Al (pv 1))))
     (Cq (Jw (Yi (sQ (cA (Ot (Dc h5 q3 rfl U Z Y Dv (Aj (Al (pv 3)) (Aj (Al (pv 4)) (Aj (Al (pv 8)) Ay)))))) (kH (Nq k6 (Ki (Oq hr.gd k1) Yk rfl k0 (by decide +kernel) (Aj (Al (pv 2)) Ay)) (Al (pv 5))))))
     (Cq (Ds Ll)) Hf))))
    (Cq (Jw (cA (Ot (Dc X q8 rfl h0 V h6 Dv (Aj (Al (pv 3)) (Aj (Ow (i:=false) (Al (pv 2)) (Nn Ct) Nk) Ay)))))
    (Cq (Ds Ll)) Hf)))))))))
   (Cq (Ds Ll))
 case h =>
  intro ns j0
  array_get_dec
  have lc:(Ny ns none (some 2)).length<=2:=IG 2
  refine ⟨by rw[Ac]; omega,?_⟩
  refine Xe (l:=Ny ns none (some 2)++[0]) (g:=Ah) (by rw[Bg]; rfl) (λi δ=>∃(v1 v2 v3 v4 v5 v6 v7 v8:DV) (n':Nat),δ=⟨[.scr ns,v1,v2,v3,v4,v5,v6,v7,v8],n'⟩/\NP v1/\NP v2/\NP v3/\NP v4/\NP v5/\NP v6/\NP v7/\NP v8/\n'<=200 * i) ?_ ?_ ?_
  ·exact ⟨_,_,_,_,_,_,_,_,_,rfl,He,He,He,He,He,He,He,He,by omega⟩
  ·(intro i c _ hc q_; obtain ⟨v1,v2,v3,v4,v5,v6,v7,v8,n0,rfl,j2,j3,x2,j7,j9,j8,k4,k5,hn⟩ := q_)
   have hi:i<3:=by
    have:=(Af.mp hc).1
    rw[Bz,Kb] at this
    omega
   array_get_dec
   refine ⟨rfl,by omega,λh L t n' ok q1 q2=>?_⟩
   array_get_dec
   have h4:=ok.h4
   have h1:=ok.h1
   obtain ⟨j5,j6⟩:=Ha (n:=h.toNat) (by omega) ok.hp
   obtain ⟨k8,q9⟩:=rA ok
   refine ⟨L,rfl,by omega,k8,by omega,?_⟩
   refine qT (l:=Bq 6) (g:=λi:Nat=>.int i) rfl (λk=>iD ((Bq 6).map λj=>if j=k then 1 else 0)) (λk hk k9 no hy=>?_) ?_
   ·array_get_dec
    refine Mk (l:=Bq 6) (g:=λi:Nat=>.int i) rfl (λj=>.int (if j=k then 1 else 0)) (λj hj k9 no hy=>?_) ?_
    ·array_get_dec
     have e:(if decide ((j:Int)=(k:Int))=true then (1:Int) else 0)=if j=k then 1 else 0:=by
      by_cases z:j=k
      ·rw[if_pos z,z]; simp
      ·rw[if_neg z,if_neg (by simp; omega)]
     rw[e]
     exact hy
    array_get_dec
    have e:(Lu ((Bq 6).map λj=>.int (if j=k then 1 else 0)))=iD ((Bq 6).map λj=>if j=k then 1 else 0):=by
     unfold iD
     rw[Bm]
     rfl
    rw[e]
    exact hy
   array_get_dec
   refine ⟨by rw[Ac,Co]; decide,?_⟩
   have eP:(Lu [[Ah 0],[.int 0],[.int 0],[.int 0],[.int 0],[.int 0]].flatten::List.map (λk=>iD (List.map (λj=>if j=k then 1 else 0) (Bq 6))) (Bq 6))=KN.map iD:=rfl
   rw[eP]
   refine ⟨by decide,?_⟩
   refine Xe (l:=KN++KN.reverse) (g:=iD) rfl (λ_ δ=>∃(v7 v8:DV),δ=⟨[.scr ns,.dat .sh (.int c),.dat .sh (.list (.list (L.map Bj)::t.tl L)),.dat .sh (.list (L.map Bj)),.dat .sh (.list (L.map λw=>.list ((Ic L w).map .int))),.dat .sh (.str (jN (.list (.list (L.map Bj)::t.tl L)))),.dat .sh (.list (KN.map iD)),v7,v8],n'⟩/\NP v7/\NP v8) ?_ ?_ ?_
   ·exact ⟨_,_,rfl,k4,k5⟩
   ·(intro j p _ hp q_; obtain ⟨v7,v8,rfl,k4,k5⟩ := q_)
    obtain ⟨b1,b2,b3,b4,b5,b6,rfl⟩:=BV p (Au hp)
    unfold Tg.tl iD
    array_get_dec
    refine T6 (l:=[(((Lu ((L.map t.f).map .int),Lu (t.f1.map .int)),b1):(Ad×Ad)×Bool),((.int t.v0,.int t.v1),b2),((Bj t.w0,Bj t.w1),b3),((.list (t.nu.map .int),.list (t.nu1.map .int)),b4),((.list (t.r0.map .int),.list (t.r1.map .int)),b5),((.int t.x0,.int t.x1),b6)]) (g1:=λq=>.list [q.1.1,q.1.2]) (g2:=λq=>.int (if q.2=true then 1 else 0)) rfl (λq=>if q.2=true then q.1.2 else q.1.1) (λq hq k9 no hy=>?_) ?_
    ·array_get_dec
     exact ⟨_,JC _ _ _,hy⟩
    array_get_dec
    rw[show (if b1=true then Lu (t.f1.map .int) else .list ((L.map t.f).map .int))=.list ((if b1=true then t.f1 else L.map t.f).map .int) by cases b1 <;> rfl,
     show (if b2=true then Ah t.v1 else .int t.v0)=.int (if b2=true then t.v1 else t.v0) by cases b2 <;> rfl,
     show (if b3=true then Bj t.w1 else Bj t.w0)=Bj (if b3=true then t.w1 else t.w0) by cases b3 <;> rfl,
     show (if b4=true then Lu (t.nu1.map .int) else .list (t.nu.map .int))=.list ((if b4=true then t.nu1 else t.nu).map .int) by cases b4 <;> rfl,
     show (if b5=true then Lu (t.r1.map .int) else .list (t.r0.map .int))=.list ((if b5=true then t.r1 else t.r0).map .int) by cases b5 <;> rfl,
     show (if b6=true then Ah t.x1 else .int t.x0)=.int (if b6=true then t.x1 else t.x0) by cases b6 <;> rfl]
    refine ⟨h,L,_,_,_,_,_,_,rfl,h1,h4,ok.hp,ok.ho,?_,?_,?_,?_,?_,?_,?_,?_⟩
    ·cases b1
     ·exact Ac _
     ·exact ok.lf1
    ·cases b4
     ·exact ok.ln
     ·exact ok.ln1
    ·cases b4
     ·exact λx hx=>(ok.bn x hx).1
     ·exact λx hx=>(ok.bn1 x hx).1
    ·cases b2
     ·exact ok.bv0.1
     ·exact ok.bv1.1
    ·cases b2
     ·have:=ok.bv0; show t.v0<=16; omega
     ·have:=ok.bv1; show t.v1<=16; omega
    ·cases b3
     ·exact ok.mw0
     ·exact ok.mw1
    ·cases b5
     ·have:=ok.lr0; show t.r0.length<=1000; omega
     ·have:=ok.lr1; show t.r1.length<=1000; omega
    array_get_dec
    exact ⟨k8,Ce q9 (by decide),_,_,rfl,Fl,Fl⟩
   ·(intro _ q_; obtain ⟨v7,v8,rfl,k4,k5⟩ := q_)
    array_get_dec
    refine ⟨h,L,t,rfl,ok,?_⟩
    array_get_dec
    exact ⟨_,_,_,_,_,_,_,_,_,rfl,Fl,Fl,Fl,Fl,Fl,Fl,k4,k5,by omega⟩
  ·(intro _ q_; obtain ⟨v1,v2,v3,v4,v5,v6,v7,v8,n0,rfl,_⟩ := q_)
   array_get_dec
end
structure Def(K:PySem.W.Frag)(x:Str)(st:Stmt)(f:Addr)(fd:Cb):Prop where
 nm:PySem.W.nsIn K Ck x=some (some (.ref f))
 fn:Fun K x x st f fd
theorem def_mk{K:PySem.W.Frag}{x:Str}{st:Stmt}{f:Addr}{h g:Option Addr}{j:Array (Option Value)}{i kV d e b ct:Value}(a:PySem.W.nsIn K Ck x=some (some (.ref f)))(l:K.lookup f=some ⟨i,h,.func (PySem.W.fnOf x x (Pw st) (Ja st) (Bv st) .none kV d e g b ct),j⟩)(c:PySem.W.codeIn K b x=true)(k:PySem.W.keepIn K (.ref f)=true):Def K x st f (PySem.W.fnOf x x (Pw st) (Ja st) (Bv st) .none kV d e g b ct):=⟨a,A8 l c k⟩
theorem NL{P:List Value->Prop}(h:P []):∀us:List Value,us.length=0->P us
 | [],_=>h
theorem GK{P:List Value->Prop}{n:Nat}(h:∀a (us:List Value),us.length=n->P (a::us)):∀us:List Value,us.length=n+1->P us
 | a::us,e=>h a us (Nat.succ.inj e)
theorem N3{P:List Value->Prop}(h:∀b,P [b]):∀us:List Value,us.length=1->P us:=GK λa us e=>NL (P:=λus=>P (a::us)) (h a) us e
theorem GI{P:List Value->Prop}(h:∀b a1,P [b,a1]):∀us:List Value,us.length=2->P us:=GK λa us e=>N3 (P:=λus=>P (a::us)) (h a) us e
theorem KO{P:List Value->Prop}(h:∀b a1 a2,P [b,a1,a2]):∀us:List Value,us.length=3->P us:=GK λa us e=>GI (P:=λus=>P (a::us)) (h a) us e
theorem CJ{P:List Value->Prop}(h:∀b a1 a2 a3,P [b,a1,a2,a3]):∀us:List Value,us.length=4->P us:=GK λa us e=>KO (P:=λus=>P (a::us)) (h a) us e
theorem KB{P:List Value->Prop}(h:∀b a1 a2 a3 a4,P [b,a1,a2,a3,a4]):∀us:List Value,us.length=5->P us:=GK λa us e=>CJ (P:=λus=>P (a::us)) (h a) us e
theorem NK{P:List Value->Prop}(h:∀b a1 a2 a3 a4 a5,P [b,a1,a2,a3,a4,a5]):∀us:List Value,us.length=6->P us:=GK λa us e=>KB (P:=λus=>P (a::us)) (h a) us e
theorem all_mk{l:PySem.W.OpenLaw}{q:Bp}{w:World}{K:PySem.W.Frag}{h:Heap}{mg:Str->Option Value}{fa f1 f2 f3 f4 f5 f6 f7 f8 f9 a1 x9 w5 x6 a6 x3 e6 x4 x7 q3 d0 x1 v7 q2 j9 b0 e2 v4 a5 J:Addr}{d1 d2 d3 d4 d5 d6 d7 d8 d9 x8 x2 q7 c3 v6 k0 k3 q1 w4 n0 v8 e3 j4 c7 k8 a3 w2 w9 j6:Cb}(X:K.In h)(G:h.Ns Ck mg)(c5:mg "law" = some (.ref fa)){od an:Option Addr}{sl:Array (Option Value)}{oc kV dc pm cd ct:Value}(D1:Def K "_law_draws" iF f1 d1)(D2:Def K "_law_next" vB f2 d2)(z:Def K "all_words" Tv f3 d3)(D4:Def K "_law_words" Ro f4 d4)(D5:Def K "within" dD f5 d5)(N:Def K "showing" Yz f6 d6)(E:Def K "_law_lies" Tz f7 d7)(D8:Def K "best_turns" Rl f8 d8)(T:Def K "sure_turns" Rz f9 d9)(n:Def K "is_whole" Vu a1 x8)(f:Def K "are_numbers" Qi x9 x2)(C:Def K "shows_least" Ql w5 q7)(D:Def K "shows_most_often" Lh x6 c3)(g:Def K "_law_often" Rw a6 v6)(b:Def K "often" jL x3 k0)(c:Def K "cut_by" cU e6 k3)(i:Def K "written" Yh x4 q1)(t:Def K "folded_value" Pf x7 w4)(A:Def K "folded" cQ q3 n0)(m:Def K "next_cut" Wd d0 v8)(x:Def K "_law_beyond" Nc x1 e3)(j:Def K "_law_least_holds" Lg v7 j4)(p:Def K "_law_most_holds" Lz q2 c7)(u:Def K "_law_written_right" Jt j9 k8)(B:Def K "_law_right" Rc b0 a3)(o:Def K "_law_things" Qh e2 w2)(y:Def K "_law_told" Sz v4 w9)(r:Def K "_law_stays" Mc a5 j6)(aL:PySem.W.nsIn K Ck "law" = some (some (.ref J)))(lL:K.lookup J=some ⟨oc,od,.func (PySem.W.fnOf "law" "law" (Pw Zy) (Ja Zy) (Bv Zy) .none kV dc pm an cd ct),sl⟩)(cL:PySem.W.codeIn K cd "law" = true)(kL:PySem.W.keepIn K (.ref J)=true)(z1:PySem.W.nsIn K Ck "range" = some none)(z2:PySem.W.nsIn K Ck "sorted" = some none)(z3:PySem.W.nsIn K Ck "all" = some none)(z4:PySem.W.nsIn K Ck "enumerate" = some none)(z5:PySem.W.nsIn K Ck "max" = some none)(z6:PySem.W.nsIn K Ck "min" = some none)(z7:PySem.W.nsIn K Ck "bool" = some none)(z8:PySem.W.nsIn K Ck "isinstance" = some none)(z9:PySem.W.nsIn K Ck "int" = some none)(z10:PySem.W.nsIn K Ck "len" = some none)(z11:PySem.W.nsIn K Ck "list" = some none)(z12:PySem.W.nsIn K Ck "dict" = some none)(z13:PySem.W.nsIn K Ck "zip" = some none)(z14:PySem.W.nsIn K Ck "str" = some none){h0 F:Addr}{a0:DefRec}{c9:Value}{a4:Option Addr}{h3:Array Value}{q8:Array (Option Value)}(tc15:k0.code=.ref h0)(tk15:K.lookup h0=some ⟨c9,a4,.fields h3,q8⟩)(tv15:h3[11]? = some (.ref F))(td15:(PyProof.Rows.recsOf q).find? (λe=>e.name == ("often" : Str))=some a0)(tl15:K.lookup F=none){h2 M:Addr}{v3:DefRec}{m0:Value}{c1:Option Addr}{k1:Array Value}{w0:Array (Option Value)}(tc16:k3.code=.ref h2)(tk16:K.lookup h2=some ⟨m0,c1,.fields k1,w0⟩)(tv16:k1[11]? = some (.ref M))(td16:(PyProof.Rows.recsOf q).find? (λe=>e.name == ("cut_by" : Str))=some v3)(tl16:K.lookup M=none)(tne:(F == M)=false):jP q K/\∃fd:Cb,(∀(s:Am) (v:Value),BindsTo s fd ⟨[v],[]⟩ [("_law_script",v)])/\∀base:Heap,K.In base->base.Ns Ck mg->FnOk l.prog w K mg base Gv 8 fa fd ["_law_script"] (DL.spLawD K):=by
 have e:=c5.symm.trans (PySem.W.mg_of X G aL)
 cases e
 have FL:=A8 (st:=Zy) lL cL kL
 have b1:=D1.fn.binds (ps:=["_law_cell"]) λ_ _ _ _ _ _=>N3 (λ_=>rfl)
 have b2:=D2.fn.binds (ps:=["_law_draws_here"]) λ_ _ _ _ _ _=>N3 (λ_=>rfl)
 have U:=z.fn.binds (ps:=["holes"]) λ_ _ _ _ _ _=>N3 (λ_=>rfl)
 have b4:=D4.fn.binds (ps:=["_law_holes"]) λ_ _ _ _ _ _=>N3 (λ_=>rfl)
 have b5:=D5.fn.binds (ps:=["one", "other"]) λ_ _ _ _ _ _=>GI (λ_ _=>rfl)
 have b6:=N.fn.binds (ps:=["words", "reading", "word", "value"]) λ_ _ _ _ _ _=>CJ (λ_ _ _ _=>rfl)
 have b7:=E.fn.binds (ps:=["_law_one", "_law_other"]) λ_ _ _ _ _ _=>GI (λ_ _=>rfl)
 have b8:=D8.fn.binds (ps:=["words", "reading", "numbers", "word", "value"]) λ_ _ _ _ _ _=>KB (λ_ _ _ _ _=>rfl)
 have b9:=T.fn.binds (ps:=["words", "reading", "values", "numbers", "at"]) λ_ _ _ _ _ _=>KB (λ_ _ _ _ _=>rfl)
 have q4:=n.fn.binds (ps:=["thing"]) λ_ _ _ _ _ _=>N3 (λ_=>rfl)
 have h5:=f.fn.binds (ps:=["thing", "many"]) λ_ _ _ _ _ _=>GI (λ_ _=>rfl)
 have j7:=C.fn.binds (ps:=["holes", "reading", "values", "thing"]) λ_ _ _ _ _ _=>CJ (λ_ _ _ _=>rfl)
 have k6:=D.fn.binds (ps:=["holes", "reading", "values", "thing"]) λ_ _ _ _ _ _=>CJ (λ_ _ _ _=>rfl)
 have h8:=g.fn.binds (ps:=["_law_words_here", "_law_face", "_law_values"]) λ_ _ _ _ _ _=>KO (λ_ _ _=>rfl)
 have Z:=b.fn.binds (ps:=["holes", "reading", "values"]) λ_ _ _ _ _ _=>KO (λ_ _ _=>rfl)
 have z0:=c.fn.binds (ps:=["words", "reading", "numbers", "at", "value"]) λ_ _ _ _ _ _=>KB (λ_ _ _ _ _=>rfl)
 have Y:=i.fn.binds (ps:=["holes", "reading", "numbers", "word", "row"]) λ_ _ _ _ _ _=>KB (λ_ _ _ _ _=>rfl)
 have a9:=t.fn.binds (ps:=["word"]) λ_ _ _ _ _ _=>N3 (λ_=>rfl)
 have e0:=A.fn.binds (ps:=["k"]) λ_ _ _ _ _ _=>N3 (λ_=>rfl)
 have v5:=m.fn.binds (ps:=["holes", "reading", "word", "value"]) λ_ _ _ _ _ _=>CJ (λ_ _ _ _=>rfl)
 have q9:=x.fn.binds (ps:=["_law_words_here"]) λ_ _ _ _ _ _=>N3 (λ_=>rfl)
 have w6:=j.fn.binds (ps:=["_law_over", "_law_face", "_law_values", "_law_thing"]) λ_ _ _ _ _ _=>CJ (λ_ _ _ _=>rfl)
 have c6:=p.fn.binds (ps:=["_law_over", "_law_face", "_law_values", "_law_thing"]) λ_ _ _ _ _ _=>CJ (λ_ _ _ _=>rfl)
 have x0:=u.fn.binds (ps:=["_law_words_here", "_law_face", "_law_numbers", "_law_word", "_law_row", "_law_told_here"]) λ_ _ _ _ _ _=>NK (λ_ _ _ _ _ _=>rfl)
 have j0:=B.fn.binds (ps:=["_law_words_here", "_law_over", "_law_some"]) λ_ _ _ _ _ _=>KO (λ_ _ _=>rfl)
 have j1:=o.fn.binds (ps:=["_law_draws_here"]) λ_ _ _ _ _ _=>N3 (λ_=>rfl)
 have e4:=y.fn.binds (ps:=["_law_words_here", "_law_things_here"]) λ_ _ _ _ _ _=>GI (λ_ _=>rfl)
 have q6:=r.fn.binds (ps:=["_law_words_here", "_law_things_here"]) λ_ _ _ _ _ _=>GI (λ_ _=>rfl)
 have m1:=PySem.W.mg_of X G D1.nm
 have m2:=PySem.W.mg_of X G D2.nm
 have S:=PySem.W.mg_of X G z.nm
 have m4:=PySem.W.mg_of X G D4.nm
 have m5:=PySem.W.mg_of X G D5.nm
 have m6:=PySem.W.mg_of X G N.nm
 have m7:=PySem.W.mg_of X G E.nm
 have m8:=PySem.W.mg_of X G D8.nm
 have m9:=PySem.W.mg_of X G T.nm
 have k9:=PySem.W.mg_of X G n.nm
 have k4:=PySem.W.mg_of X G f.nm
 have c8:=PySem.W.mg_of X G C.nm
 have k7:=PySem.W.mg_of X G D.nm
 have h1:=PySem.W.mg_of X G g.nm
 have k2:=PySem.W.mg_of X G b.nm
 have e5:=PySem.W.mg_of X G c.nm
 have h4:=PySem.W.mg_of X G i.nm
 have w1:=PySem.W.mg_of X G t.nm
 have j3:=PySem.W.mg_of X G A.nm
 have x5:=PySem.W.mg_of X G m.nm
 have w7:=PySem.W.mg_of X G x.nm
 have a7:=PySem.W.mg_of X G j.nm
 have e7:=PySem.W.mg_of X G p.nm
 have w8:=PySem.W.mg_of X G u.nm
 have y0:=PySem.W.mg_of X G B.nm
 have e9:=PySem.W.mg_of X G o.nm
 have g0:=PySem.W.mg_of X G y.nm
 have v1:=PySem.W.mg_of X G r.nm
 have d:=PySem.W.mg_none_of X G z1
 have y2:=PySem.W.mg_none_of X G z2
 have y3:=PySem.W.mg_none_of X G z3
 have O:=PySem.W.mg_none_of X G z4
 have Q:=PySem.W.mg_none_of X G z5
 have y6:=PySem.W.mg_none_of X G z6
 have y7:=PySem.W.mg_none_of X G z7
 have y8:=PySem.W.mg_none_of X G z8
 have y9:=PySem.W.mg_none_of X G z9
 have a:=PySem.W.mg_none_of X G z10
 have a8:=PySem.W.mg_none_of X G z11
 have v2:=PySem.W.mg_none_of X G z12
 have I:=PySem.W.mg_none_of X G z13
 have V:=PySem.W.mg_none_of X G z14
 have L:=DL.tab_mk b.nm b.fn tc15 tk15 tv15
 have H:=DL.tab_mk c.nm c.fn tc16 tk16 tv16
 refine ⟨yC L td15 tl15 H td16 tl16 tne,PySem.W.fnOf "law" "law" (Pw Zy) (Ja Zy) (Bv Zy) .none kV dc pm an cd ct,λs v=>.of_eq rfl,λbase _ _=>?_⟩
 have g1:=wG (P:=l.prog) (w:=w) (mg:=mg) (base:=base) D1.fn
 have g2:=u9 (P:=l.prog) (w:=w) (mg:=mg) (base:=base) D2.fn
 have R:=iK (P:=l.prog) (w:=w) (mg:=mg) (base:=base) z.fn d y2
 have g4:=eX (P:=l.prog) (w:=w) (mg:=mg) (base:=base) D4.fn d y2
 have g5:=xJ (P:=l.prog) (w:=w) (mg:=mg) (base:=base) D5.fn y3
 have g6:=pU (P:=l.prog) (w:=w) (mg:=mg) (base:=base) N.fn g5 b5 D5.fn.kp m5 O
 have g7:=kJ (P:=l.prog) (w:=w) (mg:=mg) (base:=base) E.fn
 have g8:=eY (P:=l.prog) (w:=w) (mg:=mg) (base:=base) D8.fn g6 b6 N.fn.kp m6 Q
 have g9:=fA (P:=l.prog) (w:=w) (mg:=mg) (base:=base) T.fn g8 b8 D8.fn.kp m8 d y6
 have e8:=mH (P:=l.prog) (w:=w) (mg:=mg) (base:=base) n.fn y7 y8 y9
 have h9:=cS (P:=l.prog) (w:=w) (mg:=mg) (base:=base) f.fn e8 q4 n.fn.kp k9 a a8 y8 y3
 have j2:=bR (P:=l.prog) (w:=w) (mg:=mg) (base:=base) C.fn R U z.fn.kp S g9 b9 T.fn.kp m9 h9 h5 f.fn.kp k4 a d y3
 have c4:=Vh (P:=l.prog) (w:=w) (mg:=mg) (base:=base) D.fn R U z.fn.kp S g9 b9 T.fn.kp m9 h9 h5 f.fn.kp k4 a d y3
 have h6:=fG (P:=l.prog) (w:=w) (mg:=mg) (base:=base) g.fn g7 b7 E.fn.kp m7 v2 I y2 a Q d y6
 have k5:=L5 (P:=l.prog) (w:=w) (mg:=mg) (base:=base) b.fn R U z.fn.kp S g9 b9 T.fn.kp m9 a y2 d L (DL.code_tab b.nm b.fn L)
 have e1:=wR (P:=l.prog) (w:=w) (mg:=mg) (base:=base) c.fn g6 b6 N.fn.kp m6 Q a H (DL.code_tab c.nm c.fn H)
 have h7:=qI (P:=l.prog) (w:=w) (mg:=mg) (base:=base) i.fn R U z.fn.kp S e1 z0 c.fn.kp e5
 have j8:=Zw (P:=l.prog) (w:=w) (mg:=mg) (base:=base) t.fn
 have w3:=vP (P:=l.prog) (w:=w) (mg:=mg) (base:=base) A.fn R U z.fn.kp S j8 a9 t.fn.kp w1
 have a2:=mR (P:=l.prog) (w:=w) (mg:=mg) (base:=base) m.fn R U z.fn.kp S g6 b6 N.fn.kp m6 y6 a
 have q5:=cB (P:=l.prog) (w:=w) (mg:=mg) (base:=base) x.fn g7 b7 E.fn.kp m7 O
 have c0:=Vg (P:=l.prog) (w:=w) (mg:=mg) (base:=base) j.fn O y9 d
 have v9:=Wf (P:=l.prog) (w:=w) (mg:=mg) (base:=base) p.fn O d
 have v0:=Sq (P:=l.prog) (w:=w) (mg:=mg) (base:=base) u.fn g7 b7 E.fn.kp m7 a y9 I O Q y6
 have j5:=fH (P:=l.prog) (w:=w) (mg:=mg) (base:=base) B.fn a2 v5 m.fn.kp x5 k5 Z b.fn.kp k2 j2 j7 C.fn.kp c8 c4 k6 D.fn.kp k7 h7 Y i.fn.kp h4 g7 b7 E.fn.kp m7 h6 h8 g.fn.kp h1 c0 w6 j.fn.kp a7 v9 c6 p.fn.kp e7 v0 x0 u.fn.kp w8 a Q O y6
 have f0:=cD (P:=l.prog) (w:=w) (mg:=mg) (base:=base) o.fn g2 b2 D2.fn.kp m2 g4 b4 D4.fn.kp m4 h6 h8 g.fn.kp h1 a d
 have c2:=jA (P:=l.prog) (w:=w) (mg:=mg) (base:=base) y.fn k5 Z b.fn.kp k2 h7 Y i.fn.kp h4 w3 e0 A.fn.kp j3 a Q
 have q0:=fB (P:=l.prog) (w:=w) (mg:=mg) (base:=base) r.fn c2 e4 y.fn.kp g0 V
 exact DY FL g1 b1 D1.fn.kp m1 q5 q9 x.fn.kp w7 f0 j1 o.fn.kp e9 j5 j0 B.fn.kp y0 q0 q6 r.fn.kp v1 V d y9 I
theorem walk{l:PySem.W.OpenLaw}{q:Bp}{loose:List Str}{XP:(Str->Option Value)->Heap->Prop}{YP:World->Heap->Prop}{d:DefRec}{K:Params->PySem.W.Frag}(i:l.most=some 63)(b:d.params.defaults=[])(m:∀(w:World) (h:Heap),YP w h->(K w.params).In h)(F:∀(w:World) (mg:Str->Option Value) (c:Addr) (h:Heap),(K w.params).In h->h.Ns Ck mg->mg d.name=some (.ref c)->jP q (K w.params)/\∃e:Cb,(∀(s:Am) (u:Value),BindsTo s e ⟨[u],[]⟩ [("_law_script",u)])/\∀base:Heap,(K w.params).In base->base.Ns Ck mg->FnOk l.prog w (K w.params) mg base Gv 8 c e ["_law_script"] (DL.spLawD (K w.params))):PySem.W.WalkO q loose XP YP l.row.toRowW d [] (λf vs=>PySem.call f vs) :=
 L2.walk_ofD (n:=63) (k:=8) (x := "_law_script") (CX:=λ_=>Gv) (sp:=λw=>DL.spLawD (K w.params)) i (by decide) b ⟨rfl,by decide,by decide,rfl⟩ m F (λ_ _ a j o _ g=>⟨a,j,rfl,g,o,λ_=>rfl⟩) λ_ _ _ _ _ z=>z
end K39
theorem NW:PySem.Challenge.rw_needledeck_k39_whole_one_thing_other.wellSaid=true:=by kernel_rfl
open PySem PySem.W PyProof.Rows
local macro_rules | `(tactic| refine $h:ident (q := $q) (loose := $l) (Xt := $a) (XP := $b) (Yf := $c) (Ya := $d) (YP := $e) (N := $n) ?hl $y*) => `(tactic| refine $h:ident (q := $q) (loose := $l) (Xt := $a) (XP := $b) (Yf := $c) (Ya := $d) (YP := $e) (N := $n) (fun _ => by kernel_rfl) $y*)
set_option maxRecDepth 100000 in
set_option maxHeartbeats 0 in
theorem PySem.Challenge.cw_needledeck_k39_whole_one_thing_other_holds : PySem.Challenge.rw_needledeck_k39_whole_one_thing_other.Holds := by
 w_on; refine holds_law NW λsaid=>?_; k_head; (case hw=>w_witness2)
 k_fill
 refine K39.walk (l:=PySem.Challenge.rw_needledeck_k39_whole_one_thing_other) rfl rfl (λw h Y=>PySem.W.km_in_of Y) ?F
 case F =>
  intro w mg fa h KX G hmg
  refine' K39.all_mk KX G hmg (K39.def_mk ?a1 ?l1 ?c1 ?k1) (K39.def_mk ?a2 ?l2 ?c2 ?k2) (K39.def_mk ?a3 ?l3 ?c3 ?k3) (K39.def_mk ?a4 ?l4 ?c4 ?k4) (K39.def_mk ?a5 ?l5 ?c5 ?k5) (K39.def_mk ?a6 ?l6 ?c6 ?k6) (K39.def_mk ?a7 ?l7 ?c7 ?k7) (K39.def_mk ?a8 ?l8 ?c8 ?k8) (K39.def_mk ?a9 ?l9 ?c9 ?k9) (K39.def_mk ?a10 ?l10 ?c10 ?k10) (K39.def_mk ?a11 ?l11 ?c11 ?k11) (K39.def_mk ?a12 ?l12 ?c12 ?k12) (K39.def_mk ?a13 ?l13 ?c13 ?k13) (K39.def_mk ?a14 ?l14 ?c14 ?k14) (K39.def_mk ?a15 ?l15 ?c15 ?k15) (K39.def_mk ?a16 ?l16 ?c16 ?k16) (K39.def_mk ?a17 ?l17 ?c17 ?k17) (K39.def_mk ?a18 ?l18 ?c18 ?k18) (K39.def_mk ?a19 ?l19 ?c19 ?k19) (K39.def_mk ?a20 ?l20 ?c20 ?k20) (K39.def_mk ?a21 ?l21 ?c21 ?k21) (K39.def_mk ?a22 ?l22 ?c22 ?k22) (K39.def_mk ?a23 ?l23 ?c23 ?k23) (K39.def_mk ?a24 ?l24 ?c24 ?k24) (K39.def_mk ?a25 ?l25 ?c25 ?k25) (K39.def_mk ?a26 ?l26 ?c26 ?k26) (K39.def_mk ?a27 ?l27 ?c27 ?k27) (K39.def_mk ?a28 ?l28 ?c28 ?k28) ?aL ?lL ?cL ?kL ?z1 ?z2 ?z3 ?z4 ?z5 ?z6 ?z7 ?z8 ?z9 ?z10 ?z11 ?z12 ?z13 ?z14 ?tc15 ?tk15 ?tv15 ?td15 ?tl15 ?tc16 ?tk16 ?tv16 ?td16 ?tl16 ?tne
  (case a1=>k_is); (case l1=>k_is); (case c1=>k_is); (case k1=>k_is)
  (case a2=>k_is); (case l2=>k_is); (case c2=>k_is); (case k2=>k_is)
  (case a3=>k_is); (case l3=>k_is); (case c3=>k_is); (case k3=>k_is)
  (case a4=>k_is); (case l4=>k_is); (case c4=>k_is); (case k4=>k_is)
  (case a5=>k_is); (case l5=>k_is); (case c5=>k_is); (case k5=>k_is)
  (case a6=>k_is); (case l6=>k_is); (case c6=>k_is); (case k6=>k_is)
  (case a7=>k_is); (case l7=>k_is); (case c7=>k_is); (case k7=>k_is)
  (case a8=>k_is); (case l8=>k_is); (case c8=>k_is); (case k8=>k_is)
  (case a9=>k_is); (case l9=>k_is); (case c9=>k_is); (case k9=>k_is)
  (case a10=>k_is); (case l10=>k_is); (case c10=>k_is); (case k10=>k_is)
  (case a11=>k_is); (case l11=>k_is); (case c11=>k_is); (case k11=>k_is)
  (case a12=>k_is); (case l12=>k_is); (case c12=>k_is); (case k12=>k_is)
  (case a13=>k_is); (case l13=>k_is); (case c13=>k_is); (case k13=>k_is)
  (case a14=>k_is); (case l14=>k_is); (case c14=>k_is); (case k14=>k_is)
  (case a15=>k_is); (case l15=>k_is); (case c15=>k_is); (case k15=>k_is)
  (case a16=>k_is); (case l16=>k_is); (case c16=>k_is); (case k16=>k_is)
  (case a17=>k_is); (case l17=>k_is); (case c17=>k_is); (case k17=>k_is)
  (case a18=>k_is); (case l18=>k_is); (case c18=>k_is); (case k18=>k_is)
  (case a19=>k_is); (case l19=>k_is); (case c19=>k_is); (case k19=>k_is)
  (case a20=>k_is); (case l20=>k_is); (case c20=>k_is); (case k20=>k_is)
  (case a21=>k_is); (case l21=>k_is); (case c21=>k_is); (case k21=>k_is)
  (case a22=>k_is); (case l22=>k_is); (case c22=>k_is); (case k22=>k_is)
  (case a23=>k_is); (case l23=>k_is); (case c23=>k_is); (case k23=>k_is)
  (case a24=>k_is); (case l24=>k_is); (case c24=>k_is); (case k24=>k_is)
  (case a25=>k_is); (case l25=>k_is); (case c25=>k_is); (case k25=>k_is)
  (case a26=>k_is); (case l26=>k_is); (case c26=>k_is); (case k26=>k_is)
  (case a27=>k_is); (case l27=>k_is); (case c27=>k_is); (case k27=>k_is)
  (case a28=>k_is); (case l28=>k_is); (case c28=>k_is); (case k28=>k_is)
  (case aL=>k_is); (case lL=>k_is); (case cL=>k_is); (case kL=>k_is)
  (case z1=>k_is); (case z2=>k_is); (case z3=>k_is); (case z4=>k_is); (case z5=>k_is); (case z6=>k_is); (case z7=>k_is); (case z8=>k_is); (case z9=>k_is); (case z10=>k_is); (case z11=>k_is); (case z12=>k_is); (case z13=>k_is); (case z14=>k_is)
  (case tc15=>first | rfl | kernel_rfl)
  (case tk15=>k_is)
  (case tv15=>first | rfl | kernel_rfl)
  (case td15=>first | rfl | kernel_rfl)
  (case tl15=>first | rfl | kernel_rfl)
  (case tc16=>first | rfl | kernel_rfl)
  (case tk16=>k_is)
  (case tv16=>first | rfl | kernel_rfl)
  (case td16=>first | rfl | kernel_rfl)
  (case tl16=>first | rfl | kernel_rfl)
  (case tne=>first | rfl | kernel_rfl)