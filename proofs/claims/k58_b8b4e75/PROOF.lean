import PyProof.Rows.All
import KE.KLam
import Wide.All
import OpenK.AllK
import Wide.FinOn
import Lean
import PyProof.EqAt
import PyProof.EqKinds
import PyProof.TupleCall
import PyProof.FactsAll.set
import PyProof.FactsAll.subtypes
import KE.KTupSum
import KE.KMinBuiltin
import PyProof.Draws
import PyProof.DictWalks
import PyProof.DictCompW
import PyProof.IsiH_tuple
import PyProof.FactsAll.zip
import KE.KDictOf
import PyProof.DictValues
import KE.KSortKey
import PyProof.WalkInts
import PyProof.TupleKey
import PyProof.SetRoads
import PyProof.IsRules
import PyProof.ListMulRoad
import PyProof.FactsAll.tuple_2
import PySem.Challenge.RW_needledeck_k58_whole_as_few_places_as_an
set_option Elab.async false
set_option linter.all false
set_option maxRecDepth 100000
set_option maxHeartbeats 4000000
set_option genSizeOf false
local macro_rules|`(tactic|omega)=>`(tactic|first|lia|omega +splitDisjunctions)
theorem e0a2{A B:Prop}{G:Prop}(k:A→B→G)(h:A∧B):G:=k h.1 h.2
theorem e0a3{A B C:Prop}{G:Prop}(k:A→B→C→G)(h:A∧B∧C):G:=k h.1 h.2.1 h.2.2
theorem e0a4{A B C D:Prop}{G:Prop}(k:A→B→C→D→G)(h:A∧B∧C∧D):G:=k h.1 h.2.1 h.2.2.1 h.2.2.2
theorem e0a5{A B C D E:Prop}{G:Prop}(k:A→B→C→D→E→G)(h:A∧B∧C∧D∧E):G:=k h.1 h.2.1 h.2.2.1 h.2.2.2.1 h.2.2.2.2
theorem e0a6{A B C D E F:Prop}{G:Prop}(k:A→B→C→D→E→F→G)(h:A∧B∧C∧D∧E∧F):G:=k h.1 h.2.1 h.2.2.1 h.2.2.2.1 h.2.2.2.2.1 h.2.2.2.2.2
theorem e1a1{a:Type}{A:a→Prop}{G:Prop}(k:∀x,A x→G)(h:∃x,A x):G:=h.elim λx h=>k x h
theorem e1a2{a:Type}{A B:a→Prop}{G:Prop}(k:∀x,A x→B x→G)(h:∃x,A x∧B x):G:=h.elim λx h=>k x h.1 h.2
theorem e1a3{a:Type}{A B C:a→Prop}{G:Prop}(k:∀x,A x→B x→C x→G)(h:∃x,A x∧B x∧C x):G:=h.elim λx h=>k x h.1 h.2.1 h.2.2
theorem e1a4{a:Type}{A B C D:a→Prop}{G:Prop}(k:∀x,A x→B x→C x→D x→G)(h:∃x,A x∧B x∧C x∧D x):G:=h.elim λx h=>k x h.1 h.2.1 h.2.2.1 h.2.2.2
theorem e2a1{a b:Type}{A:a→b→Prop}{G:Prop}(k:∀x y,A x y→G)(h:∃x y,A x y):G:=h.elim λx h=>h.elim λy h=>k x y h
theorem e2a2{a b:Type}{A B:a→b→Prop}{G:Prop}(k:∀x y,A x y→B x y→G)(h:∃x y,A x y∧B x y):G:=h.elim λx h=>h.elim λy h=>k x y h.1 h.2
theorem e2a3{a b:Type}{A B C:a→b→Prop}{G:Prop}(k:∀x y,A x y→B x y→C x y→G)(h:∃x y,A x y∧B x y∧C x y):G:=h.elim λx h=>h.elim λy h=>k x y h.1 h.2.1 h.2.2
theorem e2a4{a b:Type}{A B C D:a→b→Prop}{G:Prop}(k:∀x y,A x y→B x y→C x y→D x y→G)(h:∃x y,A x y∧B x y∧C x y∧D x y):G:=h.elim λx h=>h.elim λy h=>k x y h.1 h.2.1 h.2.2.1 h.2.2.2
theorem e3a1{b c a:Type}{A:b→c→a→Prop}{G:Prop}(k:∀x y z,A x y z→G)(h:∃x y z,A x y z):G:=h.elim λx h=>h.elim λy h=>h.elim λz h=>k x y z h
theorem e3a3{b c a:Type}{A B C:b→c→a→Prop}{G:Prop}(k:∀x y z,A x y z→B x y z→C x y z→G)(h:∃x y z,A x y z∧B x y z∧C x y z):G:=h.elim λx h=>h.elim λy h=>h.elim λz h=>k x y z h.1 h.2.1 h.2.2
theorem e3a4{b c a:Type}{A B C D:b→c→a→Prop}{G:Prop}(k:∀x y z,A x y z→B x y z→C x y z→D x y z→G)(h:∃x y z,A x y z∧B x y z∧C x y z∧D x y z):G:=h.elim λx h=>h.elim λy h=>h.elim λz h=>k x y z h.1 h.2.1 h.2.2.1 h.2.2.2
theorem e3a5{b c a:Type}{A B C D E:b→c→a→Prop}{G:Prop}(k:∀x y z,A x y z→B x y z→C x y z→D x y z→E x y z→G)(h:∃x y z,A x y z∧B x y z∧C x y z∧D x y z∧E x y z):G:=h.elim λx h=>h.elim λy h=>h.elim λz h=>k x y z h.1 h.2.1 h.2.2.1 h.2.2.2.1 h.2.2.2.2
theorem e4a1{c d b a:Type}{A:c→d→b→a→Prop}{G:Prop}(k:∀x y z w,A x y z w→G)(h:∃x y z w,A x y z w):G:=h.elim λx h=>h.elim λy h=>h.elim λz h=>h.elim λw h=>k x y z w h
theorem e4a2{c d b a:Type}{A B:c→d→b→a→Prop}{G:Prop}(k:∀x y z w,A x y z w→B x y z w→G)(h:∃x y z w,A x y z w∧B x y z w):G:=h.elim λx h=>h.elim λy h=>h.elim λz h=>h.elim λw h=>k x y z w h.1 h.2
theorem e5a2{c b e d a:Type}{A B:c→b→e→d→a→Prop}{G:Prop}(k:∀x y z w u,A x y z w u→B x y z w u→G)(h:∃x y z w u,A x y z w u∧B x y z w u):G:=h.elim λx h=>h.elim λy h=>h.elim λz h=>h.elim λw h=>h.elim λu h=>k x y z w u h.1 h.2
theorem e4a5{c d b a:Type}{A B C D E:c→d→b→a→Prop}{G:Prop}(k:∀x y z w,A x y z w→B x y z w→C x y z w→D x y z w→E x y z w→G)(h:∃x y z w,A x y z w∧B x y z w∧C x y z w∧D x y z w∧E x y z w):G:=h.elim λx h=>h.elim λy h=>h.elim λz h=>h.elim λw h=>k x y z w h.1 h.2.1 h.2.2.1 h.2.2.2.1 h.2.2.2.2
theorem e5a5{c b e d a:Type}{A B C D E:c→b→e→d→a→Prop}{G:Prop}(k:∀x y z w u,A x y z w u→B x y z w u→C x y z w u→D x y z w u→E x y z w u→G)(h:∃x y z w u,A x y z w u∧B x y z w u∧C x y z w u∧D x y z w u∧E x y z w u):G:=h.elim λx h=>h.elim λy h=>h.elim λz h=>h.elim λw h=>h.elim λu h=>k x y z w u h.1 h.2.1 h.2.2.1 h.2.2.2.1 h.2.2.2.2
theorem e6a5{c b f e a d:Type}{A B C D E:c→b→f→e→a→d→Prop}{G:Prop}(k:∀x y z w u v,A x y z w u v→B x y z w u v→C x y z w u v→D x y z w u v→E x y z w u v→G)(h:∃x y z w u v,A x y z w u v∧B x y z w u v∧C x y z w u v∧D x y z w u v∧E x y z w u v):G:=h.elim λx h=>h.elim λy h=>h.elim λz h=>h.elim λw h=>h.elim λu h=>h.elim λv h=>k x y z w u v h.1 h.2.1 h.2.2.1 h.2.2.2.1 h.2.2.2.2
theorem e4a7{c d b a:Type}{A B C D E F H:c→d→b→a→Prop}{G:Prop}(k:∀x y z w,A x y z w→B x y z w→C x y z w→D x y z w→E x y z w→F x y z w→H x y z w→G)(h:∃x y z w,A x y z w∧B x y z w∧C x y z w∧D x y z w∧E x y z w∧F x y z w∧H x y z w):G:=h.elim λx h=>h.elim λy h=>h.elim λz h=>h.elim λw h=>k x y z w h.1 h.2.1 h.2.2.1 h.2.2.2.1 h.2.2.2.2.1 h.2.2.2.2.2.1 h.2.2.2.2.2.2
theorem e5a7{c b e d a:Type}{A B C D E F H:c→b→e→d→a→Prop}{G:Prop}(k:∀x y z w u,A x y z w u→B x y z w u→C x y z w u→D x y z w u→E x y z w u→F x y z w u→H x y z w u→G)(h:∃x y z w u,A x y z w u∧B x y z w u∧C x y z w u∧D x y z w u∧E x y z w u∧F x y z w u∧H x y z w u):G:=h.elim λx h=>h.elim λy h=>h.elim λz h=>h.elim λw h=>h.elim λu h=>k x y z w u h.1 h.2.1 h.2.2.1 h.2.2.2.1 h.2.2.2.2.1 h.2.2.2.2.2.1 h.2.2.2.2.2.2
theorem e6a7{c b f e a d:Type}{A B C D E F H:c→b→f→e→a→d→Prop}{G:Prop}(k:∀x y z w u v,A x y z w u v→B x y z w u v→C x y z w u v→D x y z w u v→E x y z w u v→F x y z w u v→H x y z w u v→G)(h:∃x y z w u v,A x y z w u v∧B x y z w u v∧C x y z w u v∧D x y z w u v∧E x y z w u v∧F x y z w u v∧H x y z w u v):G:=h.elim λx h=>h.elim λy h=>h.elim λz h=>h.elim λw h=>h.elim λu h=>h.elim λv h=>k x y z w u v h.1 h.2.1 h.2.2.1 h.2.2.2.1 h.2.2.2.2.1 h.2.2.2.2.2.1 h.2.2.2.2.2.2
local macro_rules|`(tactic|obtain $p:rcasesPatMed:=$v:term)=>do
 let c s:=((p.raw.reprint.getD "").splitOn s).length
 if c ","<3||c "|">1||c ":">1 then Lean.Macro.throwUnsupported
 let T (a:Lean.Syntax):Lean.TSyntax `Lean.Parser.Tactic.rcasesPatMed:=⟨a⟩
 let q:=p.raw
 let x:=q[0][0]
 let l:=x[1].getSepArgs
 let mut a:Array (Lean.TSyntax ``Lean.Parser.Tactic.tacticSeq):=#[]
 let mut y:Array Lean.Term:=#[]
 let mut z:Array (Array (Lean.TSyntax `tactic)):=#[]
 for o in l do
  let u:=o[0][0][0]
  let f:=Lean.mkIdent (←Lean.Macro.addMacroScope (.mkSimple s!"f{y.size}"))
  if u[0].getId==`rfl then
   y:=y.push f
   z:=z.push #[←`(tactic|subst $f:term)]
  else if u[0].isIdent then
   y:=y.push ⟨u[0]⟩
   z:=z.push #[]
  else if u[1].isMissing then
   y:=y.push (←`(_))
   z:=z.push #[]
  else
   y:=y.push f
   z:=z.push #[←`(tactic|obtain $(T o[0]):rcasesPatMed:=$f)]
 for j in [0:l.size] do
  if j==1 then continue
  let n:=l.size-j
  let mut i:=y.extract 0 n
  let mut w:=(z.extract 0 n).flatten
  if j>0 then
   i:=i.push (←`(r_))
   w:=w.push (←`(tactic|obtain $(T (q.setArg 0 (q[0].setArg 0 (x.setArg 1 (Lean.mkNullNode (Lean.mkSepArray (l.extract n l.size) (Lean.mkAtom ","))))))):rcasesPatMed:=r_))
  for k in [0:i.size] do
   let m:=Lean.mkIdent (.mkSimple s!"e{k}a{i.size-k}")
   let g←if v.raw.isIdent then `(tactic|(revert $(⟨v⟩):ident;refine $m fun $i*=>?_)) else `(tactic|refine $m (fun $i*=>?_) $v)
   a:=a.push (←`(Lean.Parser.Tactic.tacticSeq| $g:tactic;$[$w];*))
  if j==0&& !v.raw.isIdent then
   a:=a.push (←`(Lean.Parser.Tactic.tacticSeq| have h_ := $v; obtain $p := h_))
   break
 a:=a.push (←`(Lean.Parser.Tactic.tacticSeq| rcases $v:term with $p))
 `(tactic|first $[| $a]*)
open Array renaming length_toList → Af, getD_eq_getD_getElem? → Bw, getElem?_eq_getElem → Cj, getElem?_toList → Dx, toList_append → Ec, toList_push → Fp, getElem?_eq_some_iff → Ii, getElem?_eq_none → Jv, size_setIfInBounds → Lw, toList_extract → Oj, replicate → Pe, perm_iff_toList_perm → Qh, toList_reverse → Vl, size_map → Vm, getElem?_setIfInBounds → fW, toList_setIfInBounds → jJ, toList_filterMap → qN
open Bool renaming false_eq_true → Bt, false_ne_true → Cv, and_eq_true → Fo, not_eq_true' → Jb, not_true → Kf, and_false → Qp, not_eq_false' → Zu, not_eq_true → fM
open Classical renaming byContradiction → Ea, propDecidable → Fe
open False renaming elim → Ky
open ForInStep renaming done → Dg, yield → Ge
open Function renaming comp → Vk
open Int renaming toNat_natCast → Dl
open LawfulBEq renaming eq_of_beq → Ej
open List renaming mem_cons_self → Ab, length_map → Ac, mem_cons_of_mem → Ad, getElem?_eq_some_iff → Ai, mem_singleton → Al, mem_cons → An, mem_append_left → Ap, size_toArray → Ar, map_cons → Au, mem_append_right → Av, mem_of_getElem? → Aw, pairwise_cons → Ax, mem_append → Ba, length_cons → Bd, range → Bg, length_append → Bh, getElem?_eq_getElem → Bk, mem_map → Bl, map_append → Bn, getElem?_map → Br, pairwise_iff_getElem → Bx, not_mem_nil → Ce, nodup_cons → Cg, lookup_cons → Cp, append_assoc → Cr, length_range → Cs, mem_range → Cu, length_take → Cy, sublist_append_right → Di, mem_filter → Dm, nodup_nil → Do, sublist_cons_self → Dr, map_map → Eh, perm_append_comm → Em, getElem?_append_right → Eo, pairwise_append → Et, take_of_length_le → Eu, getElem_mem → Fb, pairwise_singleton → Fj, append_nil → Fl, take_succ_eq_append_getElem → Gi, nodup_append → Gj, ext_getElem? → Gk, getElem?_append_left → Gr, length_singleton → Gu, take_length → Gy, perm_middle → Gz, cons_append → Ha, getElem?_take_of_lt → Hb, mem_iff_getElem → Hf, pairwise_map → Hl, length_eq_zero_iff → Hm, length_reverse → Hv, filterMap_cons → Hw, take_append_drop → Ij, reverse_perm → Iv, map_set → Iw, length → Iy, getElem?_set → Iz, drop_sublist → Ja, map_congr_left → Jk, replicate → Jp, length_drop → Jq, mem_filterMap → Jx, length_nil → Kc, find?_cons → Kd, take_sublist → Ks, getD_eq_getElem?_getD → La, drop_zero → Lb, mem_reverse → Li, extract_eq_take_drop → Ll, drop_eq_getElem_cons → Lm, length_pos_iff → Lp, length_erase_of_mem → Lz, any_cons → Ma, mem_replicate → Mn, length_zipIdx → Mo, filter_append → Mp, lookup → Mq, reverse_cons → Nb, map_nil → Nc, length_pos_of_mem → Nf, length_filter_le → Nu, eraseIdx_sublist → Nv, mem_erase_of_ne → Ot, zip_cons_cons → Qo, mem_take_iff_getElem → Rm, mem_of_find?_eq_some → Rn, mem_flatMap → Sh, eraseIdx_cons_succ → Si, find?_some → Uv, pairwise_reverse → Vb, mem_iff_getElem? → Vc, getElem?_reverse → Vd, getElem?_eq_none → Ve, mem_of_mem_drop → Wc, getElem?_set_ne → Wd, map_take → Yl, map_drop → Ym, getElem?_drop → Zr, mapM_toArray → bH, any_map → bI, all_map → bJ, nil_sublist → fJ, drop_length → fK, all_eq_true → fL, eq_nil_of_length_eq_zero → fV, getElem?_cons_succ → qM, getElem?_set_self → sY, drop_of_length_le → sZ, drop_eq_nil_of_le → tE, append_eq_nil_iff → tF, find?_eq_none → M4
open List.Pairwise renaming nil → Dz, sublist → Jl
open List.Perm renaming swap → Fh, refl → Gw, append_left → Ju, cons → Pd
open List.Sublist renaming refl → Eb
open List.cons renaming inj → Gs
open Nat renaming le_refl → Ah, ne_of_lt → Ck, lt_of_lt_of_le → Cm, le_trans → Co, zero_le → Ds, not_lt_zero → Dv, lt_irrefl → He, lt_succ_of_lt → Ho, zero_add → Ie, mod_eq_of_lt → Ih, mod_lt → Kb, le_of_lt → Lk, min_eq_left → Mm, succ_pos → Nl, lt_trichotomy → Nm, lt_succ_self → Oh, pow_le_pow_right → Pc, lt_succ_iff → Pr, add_mod → Sa, lt_trans → Uu, add_sub_cancel → aT, add_right_comm → aU, sub_zero → bT, sub_self → bU, pow_succ → bV, ne_of_gt → bW, min_eq_right → fU
open Ne renaming symm → Kx
open Option renaming isSome_iff_exists → Rl
open Option.some renaming inj → Cn
open Or renaming inl → Dc, inr → Va
open Prod.mk renaming injEq → Gv
open PyProof.Rows renaming wpS_bind → Az, pendingOf → Bj, wpS_pure → Bo, SortSt → Cb, wpS_forRange → Ez, slot_tuple_getitem → Fc, IntsAre → Fg, wpS_mono → Ig, seqObj → Iu, wpS_modify → Ko, failedOf → Ms, SortKind → Mt, callWith_type1 → Nr, wpS_get → Od, get?_update_seq → Qq, AllBare → Tr, reverseSlice' → Ur, envOfC → Us, sortedHeap → Wh, subscriptTail → fG, firstOfTuple' → fI, subscriptTail_builtinR → M8
open PyProof.Rows.F renaming plain_set_update_loop → Cq, entry_set_update_loop → Eg
open PySem renaming wpAny_bind → Aa, PyData → Ae, wpAny_pure → Ag, Shared → Ak, SetTable → Bc, sizeLine → Bf, Program → Bp, tupleKeyHash → By, starEach → Cc, intKind → Ci, Around → Cw, FuncData → Cz, mainGlobals → Dd, wpAny_holding → Dn, wpAny_newObj_type → Dy, wpAny_call_entry → Es, codeAny_builtin → Ff, cellsFrom → Fq, behindInMarks → Fx, IsTupleKey → Gd, wpAny_callSpecial?_slot → Gf, wpAny_mono → Hg, compareOp → Hh, sizeLine_eq → Hq, wpAny_truthy_bool → Hy, foldedSetIterable → Hz, rawInt → Ic, wpAny_of_eq → Iq, setField → Ji, codeAny_mono → Jj, backTo → Jr, sliceBounds → Kn, bootBuiltins → Kq, assignEach → Kr, wpAny_passesOwn → Kv, binaryOp → Kw, sysModules → Lu, setEntries → Lv, wpAny_typeOf → Mb, swapsWith → Mc, plainId_quiet → Mr, codeAny → Na, pyNext → Nk, wpAny_storeSet_of → Oe, wpAny_setField → Of, ofAClassStatement → Og, call_meets → Pq, attributeBase → Pw, Keyword → Px, NameKind → Qg, codeAny_of_tree → Qr, wpAny_Call_Name_kw → Se, wpAny_setState_of → Th, wpAny_pyIter_slot → Ti, wpAny_pyIter_list → Tj, keywordEach → Tn, hashByValue → To, getItem → Tp, wpAny_attempt → Up, setSearchFrom → Uq, wpAny_forIn_list → Vg, wpAny_askSetting → Vh, wpAny_pyNext_list_item → Wg, holding → Wi, builtinsNs → Wj, wpAny_loadPart' → Yc, wpAny_execs_nil → Yd, letOwnedTupleGo → Ye, wpAny_pyNext_list_end → Yj, weight_type_call_type → Yk, wpAny_runValue → aM, wpAny_fieldsOf → aN, newFunctionEnv → aO, firstArgMember → aP, codeAny_call_builtin → aQ, assign → aR, IsPart → aV, tupleKind → bD, setNext → bE, pickOrder → bF, callerA → bG, wpAny_rule → fP, typeIs_int → fQ, tupleKind_room_in1 → fR, intKind_is → fS, entryOfKey → fT, wpAny_sequenceKey → jF, slot_list_getitem → jG, setAddHashed → jH, wpAny_isInstance → mR, noFill_tuple_add → mS, check_set_init_1 → mT, wpAny_binaryOp_repeat_ref → yV, wpAny_getItem_list_slice → zB, wpAny_comprehension_free → zC, wpAny_pyNext_tuple_item → M3, wpAny_pyNext_tuple_end → M7, codeAny_compStart_list → M9
open PySem.Around renaming under_plainId → Er, under_plain → Yi
open PySem.Builtin.Frozenset renaming updateFrom → Me, sizeOf → Wk, slot0 → Yh
open PySem.Builtin.List renaming listTooLong → Pp, listLengthHint → Yq, listFitsIndex → Zt
open PySem.Builtin.Range renaming rangeSize → Lc
open PySem.Builtin.Slice renaming slicePlaces → Ke, sliceAdjust → Oi, sliceApplied → Yp
open PySem.Builtin.Tuple renaming tupleExact → Gm, tupleItemsOf → Yn, tupleIsExact → Yo
open PySem.Calls renaming Name_function_global → jI, call_function_entry → mP
open PySem.Code renaming quiet_builtin → Zs
open PySem.F renaming slot_int_rmul → Wf, slot_tuple_rmul → FJ, slot_tuple_mul → FS, slot_int_index → FT
open PySem.Heap renaming get?_push_of_some → Aj, get?_push_size → Bi, lt_size → Bm, get?_update_self → Fs, SameBut → Fu, size_push → We, get?_update_other → tG
open PySem.Heap.SameBut renaming update → Bs
open PySem.NameKind renaming cell → En, free → Ex
open PySem.Obj renaming mapSeq → Lf, putSet → aS
open PySem.PassesOwn renaming never → Dk
open PySem.PyData renaming int → Bq, depthAll → Bu, depth → Dq, none → Uz
open PySem.SeqAt renaming EqAt → Nt
open PySem.SetTable renaming below → Be, insertAt → Bz, bits → Ca, runEnd → Da, turns → Dj, Probe → Du, sizeAbove → Ef, laid → Hr, advance → Jf, insertAt_perm → Jo, layClean → Ka, grown → Po, toList_insertAt → Qn, slot → Vi, fill → Vj, has → Yg
open PySem.SetTable.below renaming go → Tq
open PySem.SetTable.layClean renaming free → Dw
open PySem.SetTable.probe renaming go → Ia
open PySem.SetTable.sizeAbove renaming go → Le
open PySem.Str renaming ofString → Fv
open PySem.Value renaming ref → Aq, type → Ed, int → Ld, none → Qf, isInt → Rk
open Sum renaming inl → Ut
open True renaming intro → Ml
namespace L2
open PySem PySem.Spec PyProof.Rows
abbrev Lx:=Sum Int Str
def gU:Lx->Value->Bool
 | .inl k,v=>Rk k v
 | .inr x,v=>Value.isStrOf x v
def KP(w:World):Lx->Int
 | .inl k=>hashInt k
 | .inr x=>hashStr w x
theorem Ik:∀{k:Lx} {v:Value},gU k v=true->(∃i t,k=Ut i/\v=Ld i t)\/(∃x t,k=Sum.inr x/\v=Value.str x t)
 | .inl i,v,h=>by
  obtain ⟨t,e⟩:=Value.isInt_shape (k:=i) (v:=v) h
  exact .inl ⟨i,t,rfl,e⟩
 | .inr x,v,h=>by
  obtain ⟨t,e⟩:=Value.isStrOf_shape (x:=x) (v:=v) h
  exact .inr ⟨x,t,rfl,e⟩
theorem yU(i:Int)(t:Tok):gU (.inl i) (.int i t)=true:=by simp [gU,Rk]
theorem wN(x:Str)(t:Tok):gU (.inr x) (.str x t)=true:=by simp [gU,Value.isStrOf]
theorem DZ(a b:Int):decide ((Ut a:Lx)=Ut b)=(a == b):=by
 by_cases e:a=b
 ·subst e; simp
 ·have h:¬ (Ut a:Lx)=Ut b:=λq=>e (Sum.inl.inj q)
  rw[decide_eq_false h]
  exact (beq_eq_false_iff_ne.mpr e).symm
theorem DN(a b:Str):decide ((Sum.inr a:Lx)=Sum.inr b)=decide (a=b):=by
 by_cases e:a=b
 ·subst e; simp
 ·have h:¬ (Sum.inr a:Lx)=Sum.inr b:=λq=>e (Sum.inr.inj q)
  rw[decide_eq_false h,decide_eq_false e]
theorem FG(a:Int)(b:Str):decide ((Ut a:Lx)=Sum.inr b)=false:=decide_eq_false (λq=>nomatch q)
theorem EO(a:Str)(b:Int):decide ((Sum.inr a:Lx)=Ut b)=false:=decide_eq_false (λq=>nomatch q)
def Jm(prog:Bp)(w:World):PySem.KeyKind prog w Lx where
 is:=gU
 hash:=KP w
 inj:=λv a b f d=>by
  rcases Ik f with ⟨i,t,rfl,rfl⟩ | ⟨x,t,rfl,rfl⟩
  ·rcases Ik d with ⟨j,u,rfl,e⟩ | ⟨y,u,rfl,e⟩
   ·injection e with e1 _; rw[e1]
   ·exact nomatch e
  ·rcases Ik d with ⟨j,u,rfl,e⟩ | ⟨y,u,rfl,e⟩
   ·exact nomatch e
   ·injection e with e1 _; rw[e1]
 byValue:=λk v h=>by
  rcases Ik h with ⟨i,t,rfl,rfl⟩ | ⟨x,t,rfl,rfl⟩ <;> rfl
 pyHash:=λc h=>by
  rcases Ik c with ⟨i,t,rfl,rfl⟩ | ⟨x,t,rfl,rfl⟩
  ·exact wpAny_pyHash_int h
  ·exact wpAny_pyHash_str h
 eqBool:=λg c h=>by
  rcases Ik g with ⟨i,t,rfl,rfl⟩ | ⟨x,t,rfl,rfl⟩
  ·rcases Ik c with ⟨j,u,rfl,rfl⟩ | ⟨y,u,rfl,rfl⟩
   ·rw[DZ] at h; exact wpAny_eqBool_int h
   ·rw[FG] at h; exact SeqAt.EqAt.int_str i t y u _ _ _ _ h
  ·rcases Ik c with ⟨j,u,rfl,rfl⟩ | ⟨y,u,rfl,rfl⟩
   ·rw[EO] at h; exact SeqAt.EqAt.str_int x t j u _ _ _ _ h
   ·rw[DN] at h; exact wpAny_eqBool_str h
 «strs»:=λk x t v h=>by
  rcases Ik h with ⟨i,u,rfl,e⟩ | ⟨y,u,rfl,e⟩
  ·exact nomatch e
  ·injection e with e1 _
   subst e1
   cases v <;> rfl
theorem pO(prog:Bp)(w:World)(i:Int)(t:Tok):(Jm prog w).is (.inl i) (.int i t)=true:=yU i t
theorem oN(prog:Bp)(w:World)(x:Str)(t:Tok):(Jm prog w).is (.inr x) (.str x t)=true:=wN x t
inductive V where
 | non | bl (b:Bool) | int (i:Int) | str (x:Str) | byt (b:Array UInt8) | flt (b:UInt64) | ref (a:Addr) | ty (n:String)
 deriving DecidableEq
def RelV:V->Value->Prop
 | .non,u=>u=Qf
 | .bl b,u=>u=Value.bool b
 | .int i,u=>∃t,u=Ld i t
 | .str x,u=>∃t,u=Value.str x t
 | .byt b,u=>∃t,u=Value.bytes b t
 | .flt b,u=>∃t,u=Value.float b t
 | .ref a,u=>u=Aq a
 | .ty n,u=>u=Ed n
abbrev Fz:List V->List Value->Prop:=Paired RelV
theorem Fz.length{xs:List V}{us:List Value}(r:Fz xs us):xs.length=us.length:=Paired.length r
theorem Fz.get:∀{xs:List V} {us:List Value} {i:Nat} {x:V},Fz xs us->xs[i]? = some x->∃u,us[i]? = some u/\RelV x u
 | _,_,_,_,.nil,e=>by simp at e
 | _,_,0,_,.cons r _,e=>by simp at e; subst e; exact ⟨_,rfl,r⟩
 | _,_,i+1,x,.cons _ t,e=>by
  obtain ⟨u,a,b⟩:=Fz.get (i:=i) (x:=x) t (by simpa using e)
  exact ⟨u,by simpa using a,b⟩
theorem Fz.set{x:V}{u:Value}(r:RelV x u):∀{xs:List V} {us:List Value} (i:Nat),Fz xs us->Fz (xs.set i x) (us.set i u)
 | _,_,_,.nil=>.nil
 | _,_,0,.cons _ t=>.cons r t
 | _,_,i+1,.cons q t=>.cons q (Fz.set r i t)
theorem Fz.append:∀{xs ys:List V} {us ws:List Value},Fz xs us->Fz ys ws->Fz (xs++ys) (us++ws)
 | _,_,_,_,.nil,s=>s
 | _,_,_,_,.cons r t,s=>.cons r (Fz.append t s)
theorem Fz.take:∀{xs:List V} {us:List Value} (n:Nat),Fz xs us->Fz (xs.take n) (us.take n)
 | _,_,0,_=>.nil
 | _,_,_+1,.nil=>.nil
 | _,_,n+1,.cons r t=>.cons r (Fz.take n t)
theorem Fz.drop:∀{xs:List V} {us:List Value} (n:Nat),Fz xs us->Fz (xs.drop n) (us.drop n)
 | _,_,0,r=>r
 | _,_,_+1,.nil=>.nil
 | _,_,n+1,.cons _ t=>Fz.drop n t
def rJ:Option V->Option Value->Prop
 | some v,some u=>RelV v u
 | none,none=>True
 | _,_=>False
def KV{a:Type}:List (a×V)->List (a×Value)->Prop:=Paired λ(p:a×V) (q:a×Value)=>p.1=q.1/\RelV p.2 q.2
def kV:Lx->V
 | .inl i=>.int i
 | .inr x=>.str x
inductive HO where
 /-- a list -/
 | lst (xs:List V)
 /-- a tuple (never changes) -/
 | tup (xs:List V)
 /-- a dict whose Lo are ints and texts; one whose Lo are tuples of ints and texts (the empty one is both) -/
 | dK (kvs:List (Lx×V)) | dT (kvs:List (List Lx×V))
 /-- a set of ints: its members,its size -/
 | set (S:Int->Bool) (n:Nat)
 /-- an instance of the class at C,its dict at dx,its attributes -/
 | ins (C dx:Addr) (fs:List (Str×V))
 /-- the dict of the instance at x -/
 | own (x:Addr)
 /-- the dict of an exception -/
 | xd (fs:List (Str×V))
 /-- a bound method,f of x -/
 | met (f x:Addr)
 /-- a range object lo,lo+1,.. below hi -/
 | rng (lo hi:Int)
 /-- a thing that is known to the object (the script; a dict while a loop walks it): read,never written while it is so -/
 | frz (o:Obj) (u:HO)
 /-- a code object's table -/
 | tbl (ps:Array Value)
 /-- any other thing,by what is true of its one object (a def of one's own: jZ a S n:=HO.ext λh=>..) -/
 | ext (φ:Heap->Prop)
abbrev Hp:=Addr->Option HO
def upd(H:Hp)(a:Addr)(o:HO):Hp:=λb=>if b=a then some o else H b
theorem El{H:Hp}{a:Addr}{o:HO}:upd H a o a=some o:=by unfold upd; rw[if_pos rfl]
theorem Fi{H:Hp}{a b:Addr}{o:HO}(h:b≠a):upd H a o b=H b:=by unfold upd; rw[if_neg h]
theorem FX{H:Hp}{a b:Addr}{o u:HO}(h:H a=some o)(h':H b=some u)(d:o≠u):a≠b:=by
 intro e; subst e; rw[h] at h'; exact d (Cn h')
theorem Gc{H:Hp}{a b:Addr}{o:HO}(h:H a=some o)(h':H b=none):a≠b:=by
 intro e; subst e; rw[h] at h'; cases h'
section
variable(P:Bp)(w:World)
def Hx(H:Hp)(h:Heap)(a:Addr):HO->Prop
 | .lst e=>e.length<=Bf/\∃(d:List Value) (n:Nat),Fz e d/\h.get? a=some { cls:=.type "list",data:=.seq d.toArray n }
 | .tup e=>e.length<=Bf/\∃d:List Value,Fz e d/\IsTup h a d.toArray
 | .dK b=>b.length<=Bf/\(a == Lu)=false/\∃vs,KV b vs/\h.DictOf (Jm P w) a vs
 | .dT b=>b.length<=Bf/\(a == Lu)=false/\∃e:List (List Lx×Addr×Value),
   Paired (λ(p:List Lx×V) (q:List Lx×Addr×Value)=>p.1=q.1/\H q.2.1=some (.tup (p.1.map kV))/\RelV p.2 q.2.2) b e /\
   ∃o j y,h.get? a=some o/\o.ExactDict/\o.data=.dict j y/\j.toList=e.map (fT (bD (Jm P w)))/\(e.map (·.1)).Nodup/\y=j.size
 | .set S n=>h.SetOf (Ci P w) a S n
 | .ins C i fs=>H i=some (.own a)/\fs.length<=1000/\i≠a/\h.get? a=some (PySem.W.instObj C i) /\
   ∃g,h.Ns1 i g/\(∀f,rJ (fs.lookup f) (g f))/\PySem.Within g (fs.map (·.1))
 | .own _=>∃o,h.get? a=some o
 | .xd fs=>∃g,h.Ns1 a g/\∀f,rJ (fs.lookup f) (g f)
 | .rng D E=>∃t u v,h.get? a=some { cls:=.type "range",data:=.fields #[.int D t,.int E u,.int 1 v] }
 | .frz o u=>h.get? a=some o/\Hx H h a u
 | .tbl B=>∃k:Array Value,h.get? a=some { cls:=.none,data:=.fields k }/\TriplesOk k.toList/\∀(l:Pos) (v:Value),codeAmong l k.toList=some v->∃(c:Addr) (r:Obj) (A:Array Value) (q:Str) (t F:Tok),v=.ref c/\H c=some (.own a)/\h.get? c=some r/\r.data=.fields A/\A[1]? = some (.str q t)/\B[0]? = some (.str q F)
 | .met f x=>h.get? a=some (PySem.W.methodObj (.ref f) (.ref x))
 | .ext m=>m h/\(∃o,h.get? a=some o)/\∀s z:Heap,m s->(∀o,s.get? a=some o->z.get? a=some o)->m z
def Xs(H:Hp)(h:Heap):Prop:=∀a o,H a=some o->Hx P w H h a o
end
section
variable{P:Bp}{w:World}{H g:Hp}{h h':Heap}{a:Addr}{o:HO}
theorem Hx.lt(x:Hx P w H h a o):a<h.objs.size:=by
 cases o with
 | lst c=>obtain ⟨_,_,_,_,e⟩:=x; exact Bm e
 | tup c=>obtain ⟨_,_,_,p⟩:=x; exact p.lt
 | dK b=>obtain ⟨_,_,_,_,o,_,_,e,_⟩:=x; exact Bm e
 | dT b=>obtain ⟨_,_,_,_,o,_,_,e,_⟩:=x; exact Bm e
 | set S n=>obtain ⟨o,_,_,_,e,_⟩:=x; exact Bm e
 | ins C d fs=>obtain ⟨_,_,_,e,_⟩:=x; exact Bm e
 | own y=>obtain ⟨_,e⟩:=x; exact Bm e
 | xd fs=>obtain ⟨_,⟨_,_,_,e,_⟩,_⟩:=x; exact Bm e
 | rng i j=>obtain ⟨_,_,_,e⟩:=x; exact Bm e
 | frz k u=>obtain ⟨e,_⟩:=x; exact Bm e
 | tbl g=>obtain ⟨_,e,_⟩:=x; exact Bm e
 | met f y=>exact Bm (show h.get? a=some _ from x)
 | ext l=>obtain ⟨_,⟨_,e⟩,_⟩:=x; exact Bm e
theorem Paired.mapP{d c:Type}{F G:d->c->Prop}:∀{l₁:List d} {l₂:List c},Paired F l₁ l₂->(∀a b,F a b->G a b)->Paired G l₁ l₂
 | _,_,.nil,_=>.nil
 | _,_,.cons r t,f=>.cons (f _ _ r) (Paired.mapP t f)
theorem Hx.stay(x:Hx P w H h a o)(k:∀b u,(b=a\/H b=some (.own a))->h.get? b=some u->h'.get? b=some u)(E:∀b,H b=some (.own a)->g b=some (.own a))(R:∀b xs,H b=some (.tup xs)->g b=some (.tup xs)):Hx P w g h' a o:=by
 induction o with
 | lst xs=>obtain ⟨z,m,n,r,e⟩:=x; exact ⟨z,m,n,r,k _ _ (.inl rfl) e⟩
 | tup xs=>obtain ⟨z,m,r,i,e,c⟩:=x; exact ⟨z,m,r,i,k _ _ (.inl rfl) e,c⟩
 | dK A=>obtain ⟨z,y,vs,r,i,j,l,e,c⟩:=x; exact ⟨z,y,vs,r,i,j,l,k _ _ (.inl rfl) e,c⟩
 | dT A =>
  obtain ⟨z,y,xs,r,i,j,l,e,c⟩:=x
  exact ⟨z,y,xs,Paired.mapP r λp q z=>⟨z.1,R _ _ z.2.1,z.2.2⟩,i,j,l,k _ _ (.inl rfl) e,c⟩
 | set S n=>obtain ⟨i,j,l,t,e,c⟩:=x; exact ⟨i,j,l,t,k _ _ (.inl rfl) e,c⟩
 | ins C X fs =>
  obtain ⟨d,z,J,e,s,⟨B,j,l,O,c⟩,r⟩:=x
  exact ⟨E _ d,z,J,k _ _ (.inl rfl) e,s,⟨B,j,l,k _ _ (.inr d) O,c⟩,r⟩
 | own y=>obtain ⟨i,e⟩:=x; exact ⟨i,k _ _ (.inl rfl) e⟩
 | xd fs=>obtain ⟨s,⟨B,j,l,e,c⟩,r⟩:=x; exact ⟨s,⟨B,j,l,k _ _ (.inl rfl) e,c⟩,r⟩
 | rng Y V=>obtain ⟨t,u,v,e⟩:=x; exact ⟨t,u,v,k _ _ (.inl rfl) e⟩
 | frz i u L=>obtain ⟨e,q⟩:=x; exact ⟨k _ _ (.inl rfl) e,L q⟩
 | tbl U =>
  obtain ⟨G,e,t,z⟩:=x
  exact ⟨G,k _ _ (.inl rfl) e,t,λD v y=>by
   obtain ⟨c,I,T,q,t,N,M,F,Q,K⟩:=z D v y
   exact ⟨c,I,T,q,t,N,M,E _ F,k _ _ (.inr F) Q,K⟩⟩
 | met f y =>
  have e:h.get? a=some (PySem.W.methodObj (.ref f) (.ref y)):=x
  show h'.get? a=some (PySem.W.methodObj (.ref f) (.ref y))
  exact k a _ (.inl rfl) e
 | ext Z=>obtain ⟨p,⟨o,e⟩,st⟩:=x; exact ⟨st _ _ p λo q=>k _ _ (.inl rfl) q,⟨o,k _ _ (.inl rfl) e⟩,st⟩
theorem Xs.lt(x:Xs P w H h)(e:H a=some o):a<h.objs.size:=(x a o e).lt
theorem Xs.fresh(x:Xs P w H h)(e:h.objs.size<=a):H a=none:=by
 cases q:H a with
 | none=>rfl
 | some u=>exact absurd (Cm (x.lt q) e) (He _)
theorem Xs.kept(x:Xs P w H h)(k:∀b u,h.get? b=some u->h'.get? b=some u):Xs P w H h':=λa o e =>
 (x a o e).stay (λb u _ q=>k b u q) (λ_ q=>q) λ_ _ q=>q
theorem Xs.laid(x:Xs P w H h)(k:∀b u,h.get? b=some u->h'.get? b=some u)(i:h.objs.size<=a)(d:Hx P w (upd H a o) h' a o):Xs P w (upd H a o) h':=λb u e=>by
 have g:=x.fresh i
 by_cases f:b=a
 ·subst f; rw[El] at e; cases e; exact d
 ·rw[Fi f] at e
  exact (x b u e).stay (λc v _ q=>k c v q) (λc q=>by rw[Fi (Gc q g)]; exact q) λc j q=>by rw[Fi (Gc q g)]; exact q
end
def Rd(H:Hp)(a:Addr)(u:HO):Prop:=H a=some u\/∃o,H a=some (.frz o u)
theorem Rd.ok{P:Bp}{w:World}{H:Hp}{h:Heap}{a:Addr}{u:HO}(r:Rd H a u)(x:Xs P w H h):Hx P w H h a u:=by
 rcases r with r | ⟨o,r⟩
 ·exact x a u r
 ·obtain ⟨_,q⟩:=x a _ r
  exact q
def IT:Option HO->Prop
 | some (.lst _)=>True
 | some (.dK _)=>True
 | some (.dT _)=>True
 | some (.set _ _)=>True
 | some (.ins _ _ _)=>True
 | some (.ext _)=>True
 | _=>False
section
variable{P:Bp}{w:World}{H:Hp}{h h':Heap}{x e:Addr}{a:HO}
theorem Xs.write(ok:Xs P w H h)(g:IT (H x))(o:e=x\/H e=some (.own x))(k:∀b u,b≠e->h.get? b=some u->h'.get? b=some u)(l:∃u,h'.get? e=some u)(m:Hx P w (upd H x a) h' x a):Xs P w (upd H x a) h':=λb u q=>by
 have f:∀c y,H c=some (.own y)->c≠x:=λc y r z=>by subst z; rw[r] at g; exact g
 have kX:∀c i,H c=some (.tup i)->c≠x:=λc i r z=>by subst z; rw[r] at g; exact g
 by_cases j:b=x
 ·subst j; rw[El] at q; cases q; exact m
 ·rw[Fi j] at q
  by_cases d:b=e
  ·have n:H b=some (.own x):=by
    rcases o with z | z
    ·exact absurd (d.trans z) j
    ·rw[d]; exact z
   rw[q] at n; cases n
   obtain ⟨v,p⟩:=l
   exact ⟨v,by rw[d]; exact p⟩
  ·refine (ok b u q).stay (λc v hc r=>k c v ?_ r) (λc r=>by rw[Fi (f c b r)]; exact r) λc i r=>by rw[Fi (kX c i r)]; exact r
   rcases hc with rfl | hc
   ·exact d
   ·rintro rfl
    rcases o with z | z
    ·exact f c b hc z
    ·rw[hc] at z; cases z; exact j rfl
end
structure Un(fs ex:List Addr)(H H':Hp)(h h':Heap):Prop where
 keep:∀b o,h.get? b=some o->H b=none->b∉fs->b∉ex->h'.get? b=some o
 slot:∀b o,h.get? b=some o->H b=none->b∈fs->b∉ex->∃sl,h'.get? b=some { o with slots:=sl }
 free:∀b o,h.get? b=some o->H b=none->b∉ex->H' b=none
 there:∀b o,h.get? b=some o->b∉ex->∃o',h'.get? b=some o'
 tups:∀b xs,H b=some (.tup xs)->H' b=some (.tup xs)
 frzs:∀b o u,H b=some (.frz o u)->H' b=some (.frz o u)
 tbls:∀b ps,H b=some (.tbl ps)->∃more,H' b=some (.tbl (ps++more))
section
variable{fs d ex f:List Addr}{H c g:Hp}{h h1 i h':Heap}{a x e:Addr}{o:HO}
theorem Un.any(u:Un fs ex H c h h1){b:Addr}{a:Obj}(q:h.get? b=some a)(n:H b=none)(e:b∉ex):∃f,h1.get? b=some { a with slots:=f }:=by
 by_cases d:b∈fs
 ·exact u.slot b a q n d e
 ·exact ⟨a.slots,u.keep b a q n d e⟩
theorem Un.kept(k:∀b u,h.get? b=some u->h'.get? b=some u):Un fs ex H H h h' :=
 ⟨λb a q _ _ _=>k b a q,λb a q _ _ _=>⟨a.slots,k b a q⟩,λ_ _ _ n _=>n,λb a q _=>⟨a,k b a q⟩,λ_ _ q=>q,λ_ _ _ q=>q,λ_ c q=>⟨#[],by rw[q]; simp⟩⟩
theorem Un.refl:Un fs ex H H h h:=Un.kept λ_ _ q=>q
theorem Un.laid(k:∀b u,h.get? b=some u->h'.get? b=some u)(d:h.objs.size<=a)(c:H a=none):Un fs ex H (upd H a o) h h' where
 keep:=λb u q _ _ _=>k b u q
 slot:=λb u q _ _ _=>⟨u.slots,k b u q⟩
 free:=λb u q n _=>by rw[Fi (Ck (Cm (Bm q) d))]; exact n
 there:=λb u q _=>⟨u,k b u q⟩
 tups:=λb e q=>by rw[Fi (Gc q c)]; exact q
 frzs:=λb u e q=>by rw[Fi (Gc q c)]; exact q
 tbls:=λb f q=>⟨#[],by rw[Fi (Gc q c),q]; simp⟩
theorem Un.write(c:IT (H x))(m:e=x\/H e=some (.own x))(k:∀b u,b≠e->h.get? b=some u->h'.get? b=some u)(f:∃u,h'.get? e=some u):Un fs ex H (upd H x o) h h':=by
 have i:∀b,H b=none->b≠x:=λb n z=>by subst z; rw[n] at c; exact c
 have g:∀b,H b=none->b≠e:=λb n z=>by
  subst z
  rcases m with r | r
  ·exact i b n r
  ·rw[n] at r; cases r
 have d:∀b u,H b=some u->¬ IT (some u)->b≠x:=λb u q j z=>by subst z; rw[q] at c; exact j c
 refine ⟨λb u q n _ _=>k b u (g b n) q,λb u q n _ _=>⟨u.slots,k b u (g b n) q⟩,λb u q n _=>by rw[Fi (i b n)]; exact n,λb u q _=>?_,
  λb l q=>by rw[Fi (d b _ q λz=>z)]; exact q,λb u l q=>by rw[Fi (d b _ q λz=>z)]; exact q,λb p q=>⟨#[],by rw[Fi (d b _ q λz=>z),q]; simp⟩⟩
 by_cases a:b=e
 ·subst a; exact f
 ·exact ⟨u,k b u a q⟩
end
def JO(h:Heap)(H:Hp):List Addr:=(Bg h.objs.size).filter λa=>(H a).isSome
def gD(h:Heap)(H:Hp):Heap:=PySem.W.hideAll h (JO h H)
theorem wF(h:Heap)(H:Hp):(gD h H).objs.size=h.objs.size:=PySem.W.hideAll_size _ _
theorem j8{h:Heap}{H:Hp}{b:Addr}{o:Obj}(e:h.get? b=some o)(n:H b=none):(gD h H).get? b=some o :=
 PySem.W.hideAll_get _ e λa=>by
  have q:(H b).isSome=true:=(Dm.mp a).2
  rw[n] at q; simp at q
theorem W7{h:Heap}{H:Hp}{b:Addr}{o:Obj}(e:(gD h H).get? b=some o):h.get? b=some o/\H b=none:=by
 have a:h.get? b=some o:=PySem.W.of_hideAll (JO h H) e
 refine ⟨a,?_⟩
 cases q:H b with
 | none=>rfl
 | some x =>
  have c:b∈JO h H:=Dm.mpr ⟨Cu.mpr (Bm a),by simp [q]⟩
  have z:(gD h H).get? b=none:=PySem.W.hideAll_none (JO h H) c
  rw[z] at e; cases e
def W6(g h:Heap)(L:Addr):List (Addr×Obj):=(Bg h.objs.size).filterMap λa=>if a=L\/(g.get? a).isSome=true then none else (h.get? a).map λo=>(a,o)
def Gg(g h:Heap)(L d:Addr):List (Addr×Obj):=(W6 g h L).filter λp=>decide (p.1≠d)
structure Mod(K:PySem.W.Frag)(mg:Str->Option Value)(base:Heap):Prop where
 kin:K.In base
 glob:base.Ns Dd mg
 blt:∃mb,base.Ns Wj mb/\∀x:Str,x ≠ "__name__" -> mb x=Kq x
 nolimit:base.NoLimit
def Xg:List Str:=["often", "cut_by"]
def DP(x:Str):Str:=x ++ ".<locals>." ++ "<lambda>"
def X8(H:Hp)(P:Addr)(q:Str):Prop:=∃(a:Array Value) (b:Tok),H P=some (.tbl a)/\a[0]? = some (.str q b)
def n5(K:PySem.W.Frag)(mg:Str->Option Value)(base:Heap)(H:Hp):Prop:=∀x∈Xg,∀c P,PySem.W.tabIn K x=some (c,P)->PySem.W.CodeHd base c P/\base.BuiltinsAt mg P/\X8 H P (DP x)
theorem n5.un{K:PySem.W.Frag}{mg:Str->Option Value}{base:Heap}{fs ex:List Addr}{H d:Hp}{h h':Heap}(t:n5 K mg base H)(u:Un fs ex H d h h'):n5 K mg base d:=λx j c P e=>by
 obtain ⟨f,l,a,k,g,b⟩:=t x j c P e
 obtain ⟨more,i⟩:=u.tbls P a g
 refine ⟨f,l,a++more,k,i,?_⟩
 have m:0<a.size:=by
  rcases Nat.eq_zero_or_pos a.size with z | z
  ·rw[Jv (by omega)] at b; cases b
  ·exact z
 rw[Array.getElem?_append_left m]
 exact b
structure Cx where
 prog:Bp
 w:World
 K:PySem.W.Frag
 mg:Str->Option Value
 base:Heap
 A:Cw
 N:List Str
 s₀:Ak
 H₀:Hp
 env:Env
 outer:List Env
 stack:List Env
 ex:List Addr
 fn:Str->Bool
 calm:Bool
 pn:List (Addr×Obj)
 xe:Value->Ak->Prop
def wC(l:List Env):List Addr:=l.filterMap (·.frame)
abbrev Cx.fs(X:Cx):List Addr:=wC X.outer
def IZ(a:Scope)(x:Str):Prop:=a.names.lookup x=some .local\/a.names.lookup x=some .cell\/a.names.lookup x=some .free
def Loc(a:Scope)(x:Str):Prop:=a.names.lookup x=some .local\/a.names.lookup x=some .cell
def KS(env:Env)(h:Heap)(m:Str->Option Value)(x:Str)(u:Value):Prop :=
 (env.kindOf x=some .local/\m x=some u)\/((env.kindOf x=some .cell\/env.kindOf x=some .free)/\∃c,env.cells.lookup x=some c/\h.IsCell c (some u))
structure Cx.Ok(X:Cx):Prop where
 mod:Mod X.K X.mg X.base
 kind:X.env.scope.kind=.function
 glob:X.env.globals=Dd
 blt:X.env.builtins=Wj
 above:X.s₀.heap.objs.size<=X.env.locals
 inj:∀x y c,X.env.cells.lookup x=some c->X.env.cells.lookup y=some c->x=y
 has:∀x,(X.env.kindOf x=some .cell\/X.env.kindOf x=some .free)->∃c,X.env.cells.lookup x=some c
 cab:∀x c,X.fn x=true->X.env.cells.lookup x=some c->X.s₀.heap.objs.size<=c
 hd:X.calm=true->X.A.handled=none
 frames:X.A.frames=some X.stack
 stk:X.stack=X.outer\/(X.stack=X.env::X.outer/\X.env.frame=some X.env.locals)
 exf:∀b∈X.ex,b≠X.env.locals/\∀x c,X.env.cells.lookup x=some c->c≠b
 bs:∀b o,X.base.get? b=some o->X.s₀.heap.get? b=some o/\X.H₀ b=none
 bsz:X.base.objs.size<=X.s₀.heap.objs.size
 noex:∀b o,X.base.get? b=some o->b∉X.ex
 exfs:∀b∈X.ex,b∉X.fs
 funs:X.s₀.heap.FunFrames X.base X.outer
 frf:∀b∈X.fs,X.H₀ b=none
 tab:n5 X.K X.mg X.base X.H₀
structure Inv(X:Cx)(pins:List (Addr×Obj))(σ:List (Option V))(H:Hp)(s:Ak):Prop where
 ok:X.Ok
 os:s.os=X.s₀.os
 bare:Tr s.gens
 base:Un X.fs X.ex X.H₀ H X.s₀.heap s.heap
 loc:∃m,s.heap.Ns X.env.locals m/\∀(i:Nat) (x:Str) (v:V),X.N[i]? = some x->σ[i]? = some (some v)->IZ X.env.scope x->∃u,RelV v u/\KS X.env s.heap m x u
 cell:∀x c,X.env.cells.lookup x=some c->∃v,s.heap.IsCell c v
 free:H X.env.locals=none
 freeC:∀x c,X.env.cells.lookup x=some c->H c=none
 pin:∀p∈X.pn++pins,s.heap.get? p.1=some p.2/\H p.1=none/\p.1≠X.env.locals/\p.1∉X.fs/\∀v,p.2.data≠.cell v
 hok:Xs X.prog X.w H s.heap
 len:σ.length=X.N.length
section
variable{X:Cx}{f:List (Addr×Obj)}{σ:List (Option V)}{H g:Hp}{s:Ak}{h':Heap}
theorem Cx.Ok.nofr(ok:X.Ok){b:Addr}{o:Obj}(e:X.base.get? b=some o):b∉X.fs:=λa=>by
 have:=(ok.funs.mem a).1
 rw[e] at this; cases this
theorem Inv.bs(I:Inv X f σ H s):∀b o,X.base.get? b=some o->s.heap.get? b=some o/\H b=none:=λb o e =>
 ⟨I.base.keep b o (I.ok.bs b o e).1 (I.ok.bs b o e).2 (I.ok.nofr e) (I.ok.noex b o e),I.base.free b o (I.ok.bs b o e).1 (I.ok.bs b o e).2 (I.ok.noex b o e)⟩
theorem Inv.bk(I:Inv X f σ H s):∀b o,X.base.get? b=some o->s.heap.get? b=some o:=λb o e=>(I.bs b o e).1
theorem Inv.mod(I:Inv X f σ H s):Mod X.K X.mg X.base:=I.ok.mod
theorem Inv.kIn(I:Inv X f σ H s):X.K.In s.heap:=I.ok.mod.kin.keeps I.bk
theorem Inv.lt(I:Inv X f σ H s):X.env.locals<s.heap.objs.size:=let ⟨_,hn,_⟩:=I.loc; hn.lt
theorem Inv.sz(I:Inv X f σ H s):X.s₀.heap.objs.size<=s.heap.objs.size:=Co I.ok.above (Lk I.lt)
theorem Inv.nofs(I:Inv X f σ H s){a:Addr}(h:s.heap.objs.size<=a):a∉X.fs:=λc=>by
 obtain ⟨_,o,b,_⟩:=I.ok.funs.mem c
 exact absurd (Cm (Bm b) (Co I.sz h)) (He _)
theorem Inv.cne(I:Inv X f σ H s):∀x c,X.env.cells.lookup x=some c->c≠X.env.locals:=λx c e z=>by
 obtain ⟨v,o,d,g⟩:=I.cell x c e
 obtain ⟨m,⟨j,h,i,b,a,_⟩,_⟩:=I.loc
 rw[z,b] at d; cases d; rw[a] at g; cases g
theorem Inv.funs(I:Inv X f σ H s):s.heap.FunFrames X.base X.outer:=by
 have all:∀(l:List Env),(∀b∈wC l,b∈X.fs)->X.s₀.heap.FunFrames X.base l->s.heap.FunFrames X.base l:=by
  intro l
  induction l with
  | nil=>intro _ _; trivial
  | cons j r n =>
   intro g q
   obtain ⟨i,⟨L,o,a,m,h,k⟩,p⟩:=q
   have d:L∈X.fs:=g L (by unfold wC; rw[Hw,a]; exact Ab)
   obtain ⟨t,e⟩:=I.base.slot L o h (I.ok.frf L d) d λz=>I.ok.exfs L z d
   exact ⟨i,⟨L,_,a,m,e,k⟩,n (λb c=>g b (by unfold wC; rw[Hw,a]; exact Ad _ c)) p⟩
 exact all X.outer (λ_ c=>c) I.ok.funs
theorem Inv.stack(I:Inv X f σ H s):s.heap.FunFrames X.base X.stack:=by
 rcases I.ok.stk with e | ⟨e,b⟩
 ·rw[e]; exact I.funs
 ·rw[e]
  obtain ⟨m,a,_⟩:=I.loc
  refine .cons (by rw[I.ok.kind]; decide) b a ?_ I.funs
  exact Heap.get?_none_of_le (Co I.ok.bsz I.ok.above)
theorem Inv.stkSub(I:Inv X f σ H s):∀b∈wC X.stack,b∈X.env.locals::X.fs:=λb a=>by
 rcases I.ok.stk with e | ⟨e,c⟩
 ·rw[e] at a; exact Ad _ a
 ·rw[e] at a
  unfold wC at a
  rw[Hw,c] at a
  exact a
theorem Inv.stkFree(I:Inv X f σ H s):∀b∈wC X.stack,H b=none:=λb hb=>by
 rcases An.mp (I.stkSub b hb) with e | hb
 ·rw[e]; exact I.free
 ·obtain ⟨_,o,a,_⟩:=I.ok.funs.mem hb
  exact I.base.free b o a (I.ok.frf b hb) λz=>I.ok.exfs b z hb
theorem Inv.step{g':Array GenState}{t':Nat}{d':Drawn}{ch:List Addr}(I:Inv X f σ H s)(t:∀b∈ch,(b∈X.ex\/X.s₀.heap.objs.size<=b)/\b≠X.env.locals/\(∀x c,X.env.cells.lookup x=some c->c≠b)/\∀p∈X.pn++f,p.1≠b)(keep:∀b o,b≠X.env.locals->b∉X.fs->b∉ch->s.heap.get? b=some o->H b=none->h'.get? b=some o)(slot:∀b o,b≠X.env.locals->b∈X.fs->b∉ch->s.heap.get? b=some o->H b=none->∃J,h'.get? b=some { o with slots:=J })(free:∀b o,b∉ch->s.heap.get? b=some o->H b=none->g b=none)(there:∀b o,b∉ch->s.heap.get? b=some o->∃D,h'.get? b=some D)(tups:∀b xs,H b=some (.tup xs)->g b=some (.tup xs))(frzs:∀b o u,H b=some (.frz o u)->g b=some (.frz o u))(tbls:∀b ps,H b=some (.tbl ps)->∃more,g b=some (.tbl (ps++more)))(ns:∀m,s.heap.Ns X.env.locals m->h'.Ns X.env.locals m)(K:Xs X.prog X.w g h')(U:Tr g'):Inv X f σ g { s with heap:=h',gens:=g',drawn:=d',toks:=t' }:=by
 have F:∀b o,X.s₀.heap.get? b=some o->b≠X.env.locals:=λb o e=>Ck (Cm (Bm e) I.ok.above)
 have y:∀b o,X.s₀.heap.get? b=some o->b∉X.ex->b∉ch:=λb o e a B=>by
  rcases (t b B).1 with z | z
  ·exact a z
  ·exact absurd (Cm (Bm e) z) (He _)
 have h:∀x c,X.env.cells.lookup x=some c->∀v,s.heap.IsCell c v->h'.IsCell c v:=λx c e v ⟨o,C,L⟩=>by
  have j:c∉ch:=λz=>(t c z).2.2.1 x c e rfl
  by_cases N:c∈X.fs
  ·obtain ⟨J,q⟩:=slot c o (I.cne x c e) N j C (I.freeC x c e)
   exact ⟨_,q,L⟩
  ·exact ⟨o,keep c o (I.cne x c e) N j C (I.freeC x c e),L⟩
 refine ⟨I.ok,I.os,U,⟨λb o e n B a=>?_,λb o e n B a=>?_,λb o e n a=>?_,λb o e a=>?_,λb xs e=>tups b xs (I.base.tups b xs e),λb o xs e=>frzs b o xs (I.base.frzs b o xs e),λb ps e=>?_⟩,?_,λx c e=>?_,?_,λx c e=>?_,λp O=>?_,K,I.len⟩
 ·exact keep b o (F b o e) B (y b o e a) (I.base.keep b o e n B a) (I.base.free b o e n a)
 ·obtain ⟨J,A⟩:=I.base.slot b o e n B a
  obtain ⟨G,E⟩:=slot b _ (F b o e) B (y b o e a) A (I.base.free b o e n a)
  exact ⟨G,E⟩
 ·obtain ⟨D,A⟩:=I.base.there b o e a
  exact free b D (y b o e a) A (I.base.free b o e n a)
 ·obtain ⟨D,A⟩:=I.base.there b o e a
  exact there b D (y b o e a) A
 ·obtain ⟨T,A⟩:=I.base.tbls b ps e
  obtain ⟨Q,E⟩:=tbls b _ A
  exact ⟨T++Q,by rw[E,Array.append_assoc]⟩
 ·obtain ⟨m,R,V⟩:=I.loc
  refine ⟨m,ns m R,λi x v A E S=>?_⟩
  obtain ⟨u,r,l⟩:=V i x v A E S
  refine ⟨u,r,?_⟩
  rcases l with l | ⟨k,c,e,z⟩
  ·exact .inl l
  ·exact .inr ⟨k,c,e,h x c e _ z⟩
 ·obtain ⟨v,z⟩:=I.cell x c e
  exact ⟨v,h x c e v z⟩
 ·obtain ⟨m,⟨o,_,_,C,_⟩,_⟩:=I.loc
  exact free _ o (λz=>(t _ z).2.1 rfl) C I.free
 ·obtain ⟨v,o,C,L⟩:=I.cell x c e
  exact free c o (λz=>(t c z).2.2.1 x c e rfl) C (I.freeC x c e)
 ·obtain ⟨e,n,M,P,d⟩:=I.pin p O
  have j:p.1∉ch:=λz=>(t p.1 z).2.2.2 p O rfl
  exact ⟨keep p.1 p.2 M P j e n,free p.1 p.2 j e n,M,P,d⟩
theorem Inv.un{t':Nat}(I:Inv X f σ H s)(u:Un X.fs [] H g s.heap h')(d:Xs X.prog X.w g h'):Inv X f σ g { s with heap:=h',toks:=t' }:=by
 obtain ⟨m,⟨o,q,x,j,r⟩,_⟩:=id I.loc
 obtain ⟨v,p⟩:=u.any j I.free (by simp)
 exact I.step (g':=s.gens) (d':=s.drawn) (ch:=[]) (λ_ z=>nomatch z) (λb o _ h _ e n=>u.keep b o e n h (by simp)) (λb o _ h _ e n=>u.slot b o e n h (by simp)) (λb o _ e n=>u.free b o e n (by simp)) (λb o _ e=>u.there b o e (by simp)) u.tups u.frzs u.tbls (λt k=>by
  obtain ⟨y,i,c,a,l⟩:=k
  rw[j] at a; cases a
  exact ⟨_,i,c,p,l⟩) d I.bare
theorem Inv.call{g':Array GenState}{t':Nat}{d':Drawn}{ch:List Addr}(I:Inv X f σ H s)(u:Un (wC X.stack) ch H g s.heap h')(j:Xs X.prog X.w g h')(t:Tr g')(d:∀b∈ch,(b∈X.ex\/X.s₀.heap.objs.size<=b)/\b≠X.env.locals/\(∀x c,X.env.cells.lookup x=some c->c≠b)/\∀p∈X.pn++f,p.1≠b):Inv X f σ g { s with heap:=h',gens:=g',drawn:=d',toks:=t' }:=by
 obtain ⟨m,⟨o,C,E,q,r⟩,_⟩:=id I.loc
 obtain ⟨D,k⟩:=u.any q I.free λz=>(d _ z).2.1 rfl
 exact I.step (ch:=ch) d (λb o k A a e n=>u.keep b o e n (λz=>(An.mp (I.stkSub b z)).elim k A) a) (λb o _ _ a e n=>u.any e n a) (λb o a e n=>u.free b o e n a) (λb o a e=>u.there b o e a) u.tups u.frzs u.tbls (λB v=>by
  obtain ⟨F,l,i,h,y⟩:=v
  rw[q] at h; cases h
  exact ⟨_,l,i,k,y⟩) j t
theorem Inv.turned{t':Nat}{it:Addr}(I:Inv X f σ H s)(k:∀b o,b≠it->s.heap.get? b=some o->h'.get? b=some o)(A:H it=none)(g:it≠X.env.locals)(h1:it∈X.ex\/X.s₀.heap.objs.size<=it)(y:∀x c,X.env.cells.lookup x=some c->c≠it)(t:∀p∈X.pn++f,p.1≠it):Inv X f σ H { s with heap:=h',toks:=t' }:=by
 have d:∀b u,H b=some u->b≠it:=λb u e z=>by rw[z,A] at e; cases e
 refine I.step (g':=s.gens) (d':=s.drawn) (ch:=[it]) (λb l=>?_) (λb o _ _ a e _=>k b o (λz=>a (by simp [z])) e) (λb o _ _ a e _=>⟨o.slots,k b o (λz=>a (by simp [z])) e⟩) (λ_ _ _ _ n=>n)
  (λb o a e=>⟨o,k b o (λz=>a (by simp [z])) e⟩) (λ_ _ e=>e) (λ_ _ _ e=>e) (λb B e=>⟨#[],by rw[e]; simp⟩) (λm j=>?_) (λb u e=>?_) I.bare
 ·have e:b=it:=by simpa using l
  subst e
  exact ⟨h1,g,y,t⟩
 ·obtain ⟨o,i,w,h,r⟩:=j
  exact ⟨o,i,w,k _ o (Kx g) h,r⟩
 ·refine (I.hok b u e).stay (λc v a q=>k c v ?_ q) (λ_ q=>q) λ_ _ q=>q
  rcases a with z | z
  ·rw[z]; exact d b u e
  ·exact d c _ z
theorem Inv.tok(I:Inv X f σ H s)(t:Nat):Inv X f σ H { s with toks:=t }:=I.un (h':=s.heap) (t':=t) Un.refl I.hok
theorem Inv.kept{t':Nat}(I:Inv X f σ H s)(k:∀b u,s.heap.get? b=some u->h'.get? b=some u):Inv X f σ H { s with heap:=h',toks:=t' }:=I.un (Un.kept k) (I.hok.kept k)
theorem Inv.laid{a:Addr}{o:HO}{t':Nat}(I:Inv X f σ H s)(k:∀b u,s.heap.get? b=some u->h'.get? b=some u)(d:s.heap.objs.size<=a)(c:Hx X.prog X.w (upd H a o) h' a o):Inv X f σ (upd H a o) { s with heap:=h',toks:=t' }:=I.un (Un.laid k d (I.hok.fresh d)) (I.hok.laid k d c)
theorem Inv.write{x e:Addr}{o:HO}{t':Nat}(I:Inv X f σ H s)(d:IT (H x))(g:e=x\/H e=some (.own x))(k:∀b u,b≠e->s.heap.get? b=some u->h'.get? b=some u)(a:∃u,h'.get? e=some u)(c:Hx X.prog X.w (upd H x o) h' x o):Inv X f σ (upd H x o) { s with heap:=h',toks:=t' }:=I.un (Un.write d g k a) (I.hok.write d g k a c)
theorem Inv.pins_of{a:List (Addr×Obj)}(I:Inv X f σ H s)(h:∀p∈a,s.heap.get? p.1=some p.2/\H p.1=none/\p.1≠X.env.locals/\p.1∉X.fs/\∀v,p.2.data≠.cell v):Inv X a σ H s :=
 ⟨I.ok,I.os,I.bare,I.base,I.loc,I.cell,I.free,I.freeC,λp b=>(Ba.mp b).elim (λz=>I.pin p (Ap _ z)) (h p),I.hok,I.len⟩
theorem oH{N:List Str}(e:N.Nodup){i j:Nat}{x:Str}(a:N[i]? = some x)(b:N[j]? = some x):i=j:=by
 obtain ⟨f,d⟩:=Ai.mp a
 obtain ⟨g,c⟩:=Ai.mp b
 exact (List.getElem_inj e).mp (d.trans c.symm)
theorem yC{M:Model}{A:Cw}{E:Value->Ak->Prop}{i:Nat}{x:Str}{v:V}{u:Value}{Q:Unit->Ak->Prop}(I:Inv X f σ H s)(hN:X.N.Nodup)(T:X.N[i]? = some x)(B:Loc X.env.scope x)(r:RelV v u)(h:∀s',Inv X f (σ.set i (some v)) H s'->(∃a,Fu a s.heap s'.heap/\(a=X.env.locals\/X.env.cells.lookup x=some a))->Q () s')(hf:X.fn x=true\/X.env.scope.names.lookup x=some .local:=by first | exact .inl rfl | exact .inr rfl | assumption):wpAny M A (storeName X.env x u) Q E s:=by
 obtain ⟨m,hn,hl⟩:=id I.loc
 have L:(X.env.scope.kind == .class || (X.env.scope.kind == .module && X.env.locals != X.env.globals))=false:=by rw[I.ok.kind]; rfl
 have F:i<σ.length:=by rw[I.len]; exact (Ai.mp T).1
 have cne:=I.cne
 have l:∀{a:Addr} {h':Heap},(∃o,s.heap.get? a=some o/\H a=none)->Fu a s.heap h'->Xs X.prog X.w H h':=λ{a h'} ha g b ob e=>by
  obtain ⟨_,_,C⟩:=ha
  refine (I.hok b ob e).stay (λc W hc q=>(g.2 c ?_).trans q) (λ_ q=>q) λ_ _ q=>q
  rintro rfl
  rcases hc with rfl | hc
  ·rw[C] at e; cases e
  ·rw[C] at hc; cases hc
 rcases B with hk | hk
 ·refine wpAny_storeName_local hk hn (λh' h0 g=>?_) L
  obtain ⟨oL,_,_,h1,_⟩:=id hn
  refine h _ ⟨I.ok,I.os,I.bare,⟨λb o e n G B=>?_,λb o e n G B=>?_,I.base.free,λb o e B=>?_,I.base.tups,I.base.frzs,I.base.tbls⟩,⟨_,h0,λj y v' t D e3=>?_⟩,λy c e=>?_,I.free,I.freeC,λp hp=>?_,l ⟨oL,h1,I.free⟩ g,by simpa using I.len⟩ ⟨_,g,.inl rfl⟩
  ·exact (g.2 b (Ck (Cm (Bm e) I.ok.above))).trans (I.base.keep b o e n G B)
  ·obtain ⟨sl,t⟩:=I.base.slot b o e n G B
   exact ⟨sl,(g.2 b (Ck (Cm (Bm e) I.ok.above))).trans t⟩
  ·obtain ⟨o',t⟩:=I.base.there b o e B
   exact ⟨o',(g.2 b (Ck (Cm (Bm e) I.ok.above))).trans t⟩
  ·by_cases J:j=i
   ·subst J
    rw[T] at t; cases t
    rw[sY F] at D
    cases D
    exact ⟨u,r,.inl ⟨hk,by simp⟩⟩
   ·rw[Wd (Kx J)] at D
    obtain ⟨Z,r',q⟩:=hl j y v' t D e3
    refine ⟨Z,r',?_⟩
    rcases q with ⟨k,e⟩ | ⟨k,c,e,z⟩
    ·refine .inl ⟨k,?_⟩
     have : y≠x:=λe=>J (oH hN t (e▸T))
     simp [this,e]
    ·exact .inr ⟨k,c,e,z.sameBut g (cne y c e)⟩
  ·obtain ⟨W,z⟩:=I.cell y c e
   exact ⟨W,z.sameBut g (cne y c e)⟩
  ·obtain ⟨e,n,U,nf,d⟩:=I.pin p hp
   exact ⟨(g.2 p.1 U).trans e,n,U,nf,d⟩
 ·have K:X.fn x=true:=by
   rcases hf with z | z
   ·exact z
   ·rw[z] at hk; cases hk
  obtain ⟨c,hc⟩:=I.ok.has x (.inl hk)
  obtain ⟨W,z⟩:=I.cell x c hc
  refine wpAny_storeName_cell I.ok.kind hk hc z (λh' P g=>?_)
  obtain ⟨oc,R,S⟩:=id z
  refine h { s with heap:=h' } ⟨I.ok,I.os,I.bare,⟨λb o e n G B=>?_,λb o e n G B=>?_,I.base.free,λb o e B=>?_,I.base.tups,I.base.frzs,I.base.tbls⟩,⟨m,hn.sameBut g (Kx (cne x c hc)),λj y v' t D e3=>?_⟩,λy Y e=>?_,I.free,I.freeC,λp hp=>?_,l ⟨oc,R,I.freeC x c hc⟩ g,by simpa using I.len⟩ ⟨c,g,.inr hc⟩
  ·exact (g.2 b (Ck (Cm (Bm e) (I.ok.cab x c K hc)))).trans (I.base.keep b o e n G B)
  ·obtain ⟨sl,t⟩:=I.base.slot b o e n G B
   exact ⟨sl,(g.2 b (Ck (Cm (Bm e) (I.ok.cab x c K hc)))).trans t⟩
  ·obtain ⟨o',t⟩:=I.base.there b o e B
   exact ⟨o',(g.2 b (Ck (Cm (Bm e) (I.ok.cab x c K hc)))).trans t⟩
  ·by_cases J:j=i
   ·subst J
    rw[T] at t; cases t
    rw[sY F] at D
    cases D
    exact ⟨u,r,.inr ⟨.inl hk,c,hc,P⟩⟩
   ·rw[Wd (Kx J)] at D
    obtain ⟨Z,r',q⟩:=hl j y v' t D e3
    refine ⟨Z,r',?_⟩
    rcases q with q | ⟨k,Y,e,z'⟩
    ·exact .inl q
    ·refine .inr ⟨k,Y,e,z'.sameBut g ?_⟩
     rintro rfl
     exact J (oH hN t (I.ok.inj _ _ _ e hc▸T))
  ·by_cases O:Y=c
   ·subst O; exact ⟨_,P⟩
   ·obtain ⟨w2,z2⟩:=I.cell y Y e
    exact ⟨w2,z2.sameBut g O⟩
  ·obtain ⟨e,n,U,nf,d⟩:=I.pin p hp
   refine ⟨(g.2 p.1 ?_).trans e,n,U,nf,d⟩
   intro q
   rw[q,R] at e
   have q':oc=p.2:=Cn e
   exact d W (by rw[<- q']; exact S)
theorem cR{M:Model}{A:Cw}{E:Value->Ak->Prop}{i:Nat}{x:Str}{v:V}{u:Value}{Q:Unit->Ak->Prop}(I:Inv X f σ H s)(e:X.N.Nodup)(c:X.N[i]? = some x)(d:Loc X.env.scope x)(r:RelV v u)(h:∀s',Inv X f (σ.set i (some v)) H s'->Q () s')(a:X.fn x=true\/X.env.scope.names.lookup x=some .local:=by first | exact .inl rfl | exact .inr rfl | assumption):wpAny M A (storeName X.env x u) Q E s :=
 yC I e c d r (λs' b _=>h s' b) a
theorem Inv.call'{s':Ak}{ch:List Addr}(I:Inv X f σ H s)(i:s'.os=s.os)(u:Un (wC X.stack) ch H g s.heap s'.heap)(d:Xs X.prog X.w g s'.heap)(h:Tr s'.gens)(a:∀b∈ch,(b∈X.ex\/X.s₀.heap.objs.size<=b)/\b≠X.env.locals/\(∀x c,X.env.cells.lookup x=some c->c≠b)/\∀p∈X.pn++f,p.1≠b):Inv X f σ g s':=by
 obtain ⟨h',g',d',t',j⟩:=s'
 have e:j=s.os:=i
 subst e
 exact I.call (g':=g') (t':=t') (d':=d') u d h a
end
abbrev XK:=Value->Option Addr->Hp->Prop
abbrev St:=List (Option V)
abbrev VK:=V->Hp->Prop
abbrev TE:=St->Hp->VK->Prop
abbrev TT:=St->Hp->(Bool->Hp->Prop)->Prop
abbrev TA:=St->Hp->(List V->Hp->Prop)->Prop
structure Ends where
 nx:St->Hp->Prop
 rt:VK
 bk:St->Hp->Prop:=λ_ _=>False
 ct:St->Hp->Prop:=λ_ _=>False
abbrev TS:=Ends->St->Hp->Prop
def EP(X:Cx)(a:List (Addr×Obj))(σ:St)(Q:VK)(u:Value)(s':Ak):Prop:=∃v b,Inv X a σ b s'/\RelV v u/\Q v b
def TP(X:Cx)(a:List (Addr×Obj))(σ:St)(Q:Bool->Hp->Prop)(b:Bool)(s':Ak):Prop:=∃c,Inv X a σ c s'/\Q b c
def AP(X:Cx)(a:List (Addr×Obj))(σ:St)(Q:List V->Hp->Prop)(us:List Value)(s':Ak):Prop:=∃vs b,Inv X a σ b s'/\Fz vs us/\Q vs b
def SP(X:Cx)(b:List (Addr×Obj))(D:Ends)(f:Flow)(s':Ak):Prop :=
 match f with
 | .next=>∃a c,Inv X b a c s'/\D.nx a c
 | .brk=>∃a c,Inv X b a c s'/\D.bk a c
 | .cont=>∃a c,Inv X b a c s'/\D.ct a c
 | .ret u=>∃v a c,Inv X b a c s'/\RelV v u/\D.rt v c
def PE(X:Cx)(e:Expr)(t:TE):Prop :=
 ∀(a:List (Addr×Obj)) (s:Ak) (b:St) (H:Hp) (Q:VK),Inv X a b H s->t b H Q->wpAny (model X.prog X.w) X.A (eval e X.env) (EP X a b Q) X.xe s
def PT(X:Cx)(e:Expr)(t:TT):Prop :=
 ∀(a:List (Addr×Obj)) (s:Ak) (b:St) (H:Hp) (Q:Bool->Hp->Prop),Inv X a b H s->t b H Q->wpAny (model X.prog X.w) X.A (isTrue e X.env (eval e X.env)) (TP X a b Q) X.xe s
def PW(X:Cx)(e:Expr)(t:TT):Prop :=
 ∀(b:Sem Value) (a:List (Addr×Obj)) (s:Ak) (c:St) (H:Hp) (Q:Bool->Hp->Prop),Inv X a c H s->t c H Q->wpAny (model X.prog X.w) X.A (isTrue e X.env b) (TP X a c Q) X.xe s
theorem PW.pt{X:Cx}{e:Expr}{t:TT}(h:PW X e t):PT X e t:=h _
def PA(X:Cx)(es:List Expr)(t:TA):Prop :=
 ∀(b:Pos) (a:List (Addr×Obj)) (s:Ak) (c:St) (H:Hp) (Q:List V->Hp->Prop),Inv X a c H s->t c H Q->wpAny (model X.prog X.w) X.A (spliced (Jr b (Cc es X.env))) (AP X a c Q) X.xe s
def PS(X:Cx)(st:Stmt)(t:TS):Prop :=
 ∀(a:List (Addr×Obj)) (s:Ak) (b:St) (H:Hp) (D:Ends),Inv X a b H s->t D b H->wpAny (model X.prog X.w) X.A (exec st X.env) (SP X a D) X.xe s
def sJ(X:Cx)(st:List Stmt)(t:TS):Prop :=
 ∀(a:List (Addr×Obj)) (s:Ak) (b:St) (H:Hp) (D:Ends),Inv X a b H s->t D b H->wpAny (model X.prog X.w) X.A (execs st X.env) (SP X a D) X.xe s
theorem Ir{c:Type}{t:Sem c}{Q b:c->Ak->Prop}{M:Model}{A:Cw}{E:Value->Ak->Prop}{s:Ak}(h:wpAny M A t Q E s)(d:∀a s,Q a s->b a s):wpAny M A t b E s:=Hg h d λ_ _ x=>x
section
variable{X:Cx}
theorem NI{a b:Expr}{g o:TE}(p:PE X a g)(hb:PE X b o){c:List (Addr×Obj)}{s:Ak}{σ:St}{H:Hp}{R:V->V->Hp->Prop}(I:Inv X c σ H s)(h:g σ H λx l=>o σ l λy e=>R x y e){m:Type}{Q:m->Ak->Prop}{f:Value->Value->Sem m}(r:∀v u k x y e,Inv X c σ e k->RelV x v->RelV y u->R x y e->wpAny (model X.prog X.w) X.A (f v u) Q X.xe k):wpAny (model X.prog X.w) X.A (eval a X.env) (λv i=>wpAny (model X.prog X.w) X.A (eval b X.env) (λu j=>wpAny (model X.prog X.w) X.A (f v u) Q X.xe j) X.xe i) X.xe s:=by
 refine Ir (p c s σ H _ I h) λv C d => ?_
 obtain ⟨x,l,B,q,D⟩ := d
 refine Ir (hb c C σ l _ B D) λu k d => ?_
 obtain ⟨y,e,t,z,n⟩ := d
 exact r v u k x y e t q z n
def fF(i:Nat):TE:=λa H Q=>∃v,a[i]? = some (some v)/\Q v H
def tC(v:V):TE:=λ_ H Q=>Q v H
theorem DR{i:Nat}{x:Str}{pos:Pos}(p:X.N[i]? = some x)(j:IZ X.env.scope x)(hd:(x == ("__debug__" : Str))=false:=by decide)(f:(x == ("__classdict__" : Str))=false:=by decide):PE X (.Name x pos) (fF i):=by
 intro d s o H Q I h
 obtain ⟨v,e,h⟩:=h
 obtain ⟨m,q,n⟩:=I.loc
 obtain ⟨u,r,l⟩:=n i x v p e j
 have b:EP X d o Q u s:=⟨v,H,I,r,h⟩
 rcases l with ⟨hk,k⟩ | ⟨hk,c,g,a⟩
 ·exact wpAny_Name (wpAny_loadName_local I.ok.kind hk q k b) hd
 ·rcases hk with hk | hk
  ·exact wpAny_Name (wpAny_loadName_cell I.ok.kind hk g a b) hd
  ·exact wpAny_Name (wpAny_loadName_free I.ok.kind hk g a b f) hd
theorem Fw{i j pos}:PE X (.Constant (.int i) j pos) (tC (.int i)):=λ_ _ _ H _ I h=>wpAny_Constant_int ⟨.int i,H,I.tok _,⟨_,rfl⟩,h⟩
theorem zR{b j pos}:PE X (.Constant (.bool b) j pos) (tC (.bl b)):=λ_ _ _ H _ I h=>Constant_bool ⟨.bl b,H,I,rfl,h⟩
theorem AW{j pos}:PE X (.Constant .none j pos) (tC .non):=λ_ _ _ H _ I h=>Constant_none ⟨.non,H,I,rfl,h⟩
theorem AY{x j pos}:PE X (.Constant (.str x) j pos) (tC (.str x)):=λ_ _ _ H _ I h=>Calls.Constant_str ⟨.str x,H,I.tok _,⟨_,rfl⟩,h⟩
def Gl(X:Cx)(x:Str):Prop:=X.env.kindOf x=some .globalImplicit
theorem uY{E:Value->Ak->Prop}{a:List (Addr×Obj)}{s:Ak}{σ:St}{H:Hp}{x:Str}{u:Value}{pos:Pos}{Q:Value->Ak->Prop}(I:Inv X a σ H s)(b:Gl X x)(c:X.mg x=some u)(h:Q u s)(hd:(x == ("__debug__" : Str))=false:=by decide):wpAny (model X.prog X.w) X.A (eval (.Name x pos) X.env) Q E s :=
 jI I.ok.kind b (Calls.loadGlobal_global (by rw[I.ok.glob]; exact I.mod.glob.keeps I.bk) c h) hd
theorem dY{E:Value->Ak->Prop}{a:List (Addr×Obj)}{s:Ak}{σ:St}{H:Hp}{x:Str}{u:Value}{pos:Pos}{Q:Value->Ak->Prop}(I:Inv X a σ H s)(c:Gl X x)(e:X.mg x=none)(b:Kq x=some u)(h:Q u s)(g:x ≠ "__name__" := by decide)(hd:(x == ("__debug__" : Str))=false:=by decide):wpAny (model X.prog X.w) X.A (eval (.Name x pos) X.env) Q E s:=by
 obtain ⟨i,d,f⟩:=I.mod.blt
 exact jI I.ok.kind c (Calls.loadGlobal_builtin (by rw[I.ok.glob]; exact I.mod.glob.keeps I.bk) e (by rw[I.ok.blt]; exact d.keeps I.bk) ((f x g).trans b) h) hd
theorem R4{x:Str}{v:V}{u:Value}{pos:Pos}(a:Gl X x)(d:X.mg x=none)(b:Kq x=some u)(r:RelV v u)(c:x ≠ "__name__" := by decide)(hd:(x == ("__debug__" : Str))=false:=by decide):PE X (.Name x pos) (tC v) :=
 λ_ _ _ H _ I h=>dY I a d b ⟨v,H,I,r,h⟩ c hd
variable{a b:Expr}{g o:TE}{pos:Pos}
def PC(X:Cx)(op:CmpOp)(a b:Expr)(t:TE):Prop :=
 ∀(c:List (Addr×Obj)) (s:Ak) (f:St) (H:Hp) (Q:VK),Inv X c f H s->t f H Q ->
  wpAny (model X.prog X.w) X.A (eval a X.env) (λv e=>wpAny (model X.prog X.w) X.A (eval b X.env) (λu d=>wpAny (model X.prog X.w) X.A (Hh op v u) (EP X c f Q) X.xe d) X.xe e) X.xe s
theorem i7(b:Expr){op:CmpOp}(h:op≠.In)(c:op≠.NotIn):Fx op b=false:=by
 have d:(op == CmpOp.In)=false:=by cases op <;> first | rfl | exact absurd rfl h
 have a:(op == CmpOp.NotIn)=false:=by cases op <;> first | rfl | exact absurd rfl c
 cases b <;> simp [Fx,d,a]
def tB(t:TE):TT:=λb H Q=>t b H λx a=>∃c,x=.bl c/\Q c a
theorem EL{op:CmpOp}{t:TE}(h:PC X op a b t)(h1:Fx op b=false:=by first | exact i7 _ (by decide) (by decide) | rfl):PT X (.Compare a [op] [b] pos) (tB t):=by
 intro e s j H Q I l
 refine wpAny_isTrue_Compare1 (Ir (h e s j H _ I l) λv p h1=>Ir h1 λu n k=>Ir k λc o ⟨x,f,i,g,m⟩=>?_) h1
 obtain ⟨d,rfl,q⟩:=m
 cases g
 exact Hy ⟨f,i,q⟩
theorem J2{e:Expr}{t:TE}(h:PE X e t)(j:∀a,isTrue e X.env a=(do let v <- a; standAt e.pos; Wi [v] (truthy v)):=by intro _; rfl):PT X e (tB t):=by
 intro b s i H Q I k
 refine isTrue_plain (Ir (h b s i H _ I k) λv m ⟨x,c,g,f,l⟩=>?_) (j _)
 obtain ⟨d,rfl,q⟩:=l
 cases f
 exact Hy ⟨c,g,q⟩
variable{k n:TT}{Gg:List Expr}
def KR(t u:TT):TT:=λb H Q=>t b H λc a=>if c=true then u b a Q else Q false a
def MY(t u:TT):TT:=λb H Q=>t b H λc a=>if c=true then Q true a else u b a Q
def LH(t:TT):TT:=λb H Q=>t b H λc a=>Q (!c) a
theorem V2(d:PT X a k):PW X (.BoolOp .And [a] pos) k:=by
 intro g b s f H Q I h
 refine isTrue_and (Ir (d b s f H Q I h) λc i e=>?_)
 cases c with
 | true=>exact isTrue_and_nil e
 | false=>exact e
theorem BF(d:PT X a k):PW X (.BoolOp .Or [a] pos) k:=by
 intro g b s f H Q I h
 refine isTrue_or (Ir (d b s f H Q I h) λc i e=>?_)
 cases c with
 | false=>exact isTrue_or_nil e
 | true=>exact e
theorem EH(l:PT X a k)(hb:PW X (.BoolOp .And (b::Gg) pos) n):PW X (.BoolOp .And (a::b::Gg) pos) (KR k n):=by
 intro m d s i H Q I h
 refine isTrue_and (Ir (l d s i H _ I h) λc o e => ?_)
 obtain ⟨f,g,j⟩ := e
 cases c with
 | true=>exact hb m d o i f Q g j
 | false=>exact ⟨f,g,j⟩
theorem HA(l:PT X a k)(hb:PW X (.BoolOp .Or (b::Gg) pos) n):PW X (.BoolOp .Or (a::b::Gg) pos) (MY k n):=by
 intro m d s i H Q I h
 refine isTrue_or (Ir (l d s i H _ I h) λc o e => ?_)
 obtain ⟨f,g,j⟩ := e
 cases c with
 | true=>exact ⟨f,g,j⟩
 | false=>exact hb m d o i f Q g j
theorem DJ(e:PT X a k):PT X (.UnaryOp .Not a pos) (LH k):=by
 intro b s f H Q I h
 exact isTrue_not (e b s f H (λc d=>Q (!c) d) I h)
def HX(g o:TE):TE:=λb H Q=>g b H λx a=>∃c,x=.bl c/\if c=true then o b a Q else Q (.bl false) a
def IC(g:TE):TE:=λb H Q=>g b H λx a=>∃c,x=.bl c/\Q (.bl (!c)) a
theorem CB{op}{t:TE}(h:PE X a t):PE X (.BoolOp op [a] pos) t:=λb s d H Q I c=>BoolOp_one (h b s d H Q I c)
theorem CK(m:PE X a g)(hb:PE X (.BoolOp .And (b::Gg) pos) o):PE X (.BoolOp .And (a::b::Gg) pos) (HX g o):=by
 intro d s k H Q I h
 refine BoolOp_and (Ir (m d s k H _ I h) λv n f => ?_)
 obtain ⟨x,i,j,l,e⟩ := f
 obtain ⟨c,rfl,e⟩:=e
 cases l
 refine Hy ?_
 cases c with
 | true=>exact hb d n k i Q j e
 | false=>exact ⟨.bl false,i,j,rfl,e⟩
theorem CY(j:PE X a g):PE X (.UnaryOp .Not a pos) (IC g):=by
 intro b s l H Q I h
 refine UnaryOp_ (Ir (j b s l H _ I h) λv m d => ?_)
 obtain ⟨x,f,k,i,e⟩ := d
 obtain ⟨c,rfl,e⟩:=e
 cases i
 exact not_of (Hy ⟨.bl (!c),f,k,rfl,e⟩)
end
def Ux(K:PySem.W.Frag)(H:Hp)(a:Addr)(xs:List V):Prop :=
 Rd H a (.lst xs) \/
  ∃(o:Obj) (b:Array Value) (n:Nat),K.lookup a=some o/\o.cls=.type "list" /\ o.dict=none/\o.data=.seq b n/\b.size<=Bf/\Fz xs b.toList
def Vp(K:PySem.W.Frag)(H:Hp)(a:Addr)(xs:List V):Prop :=
 Rd H a (.tup xs) \/
  ∃(o:Obj) (b:Array Value) (n:Nat),K.lookup a=some o/\o.cls=.type "tuple" /\ o.data=.seq b n/\b.size<=Bf/\Fz xs b.toList
def KC:Value->Option V
 | .none=>some .non
 | .bool b=>some (.bl b)
 | .int i _=>some (.int i)
 | .str x _=>some (.str x)
 | .bytes b _=>some (.byt b)
 | .float b _=>some (.flt b)
 | .ref a=>some (.ref a)
 | .type n=>some (.ty n)
 | _=>none
theorem RelV.abs{x:V}{u:Value}(r:RelV x u):KC u=some x:=by
 cases x with
 | non=>cases r; rfl
 | bl _=>cases r; rfl
 | int _=>obtain ⟨t,rfl⟩:=r; rfl
 | str _=>obtain ⟨t,rfl⟩:=r; rfl
 | byt _=>obtain ⟨t,rfl⟩:=r; rfl
 | flt _=>obtain ⟨t,rfl⟩:=r; rfl
 | ref _=>cases r; rfl
 | ty _=>cases r; rfl
theorem RelV.inj{x y:V}{u:Value}(r:RelV x u)(q:RelV y u):x=y:=Cn (r.abs.symm.trans q.abs)
theorem Fz.inj:∀{xs ys:List V} {us:List Value},Fz xs us->Fz ys us->xs=ys
 | _,_,_,.nil,.nil=>rfl
 | _,_,_,.cons r t,.cons r' t'=>by rw[r.inj r',Fz.inj t t']
section
variable{X:Cx}{b:List (Addr×Obj)}{σ:St}{H:Hp}{s:Ak}{a:Addr}{xs ys:List V}
theorem Ux.of{K:PySem.W.Frag}(h:H a=some (.lst xs)):Ux K H a xs:=.inl (.inl h)
theorem Vp.of{K:PySem.W.Frag}(h:H a=some (.tup xs)):Vp K H a xs:=.inl (.inl h)
theorem Inv.list(I:Inv X b σ H s)(h:Ux X.K H a xs):∃c:List Value,Fz xs c/\PlainL s.heap a c.toArray/\xs.length<=Bf:=by
 rcases h with h | ⟨o,c,n,d,f,i,g,j,r⟩
 ·obtain ⟨z,c,n,r,e⟩:=h.ok I.hok
  exact ⟨c,r,⟨_,n,e,rfl,rfl,rfl⟩,z⟩
 ·refine ⟨c.toList,r,⟨o,n,I.kIn a o d,f,i,by simpa using g⟩,?_⟩
  have e:=r.length
  simp only[Af] at e
  omega
theorem Inv.tuple(I:Inv X b σ H s)(h:Vp X.K H a xs):∃c:List Value,Fz xs c/\IsTup s.heap a c.toArray/\xs.length<=Bf:=by
 rcases h with h | ⟨o,c,n,d,f,g,i,r⟩
 ·obtain ⟨z,c,r,p⟩:=h.ok I.hok
  exact ⟨c,r,p,z⟩
 ·refine ⟨c.toList,r,⟨o,I.kIn a o d,f,n,by simpa using g⟩,?_⟩
  have e:=r.length
  simp only[Af] at e
  omega
theorem Inv.list_inj(I:Inv X b σ H s)(h:Ux X.K H a xs)(h':Ux X.K H a ys):xs=ys:=by
 obtain ⟨f,r,⟨o,n,e,_,_,d⟩,_⟩:=I.list h
 obtain ⟨c,j,⟨l,k,i,_,_,g⟩,_⟩:=I.list h'
 rw[e] at i; cases i
 rw[d] at g
 injection g with d1 _
 have : f=c:=by simpa using congrArg Array.toList d1
 subst this
 exact r.inj j
theorem Inv.tuple_inj(I:Inv X b σ H s)(h:Vp X.K H a xs)(h':Vp X.K H a ys):xs=ys:=by
 obtain ⟨f,r,⟨o,e,_,n,d⟩,_⟩:=I.tuple h
 obtain ⟨c,j,⟨l,i,_,k,g⟩,_⟩:=I.tuple h'
 rw[e] at i; cases i
 rw[d] at g
 injection g with d1 _
 have : f=c:=by simpa using congrArg Array.toList d1
 subst this
 exact r.inj j
end
abbrev Cx.wish(X:Cx)(E:Value->Ak->Prop):Cx:={ X with xe:=E }
abbrev Cx.nox(X:Cx):Cx:=X.wish λ_ _=>False
theorem Cx.Ok.wish{X:Cx}(ok:X.Ok)(E:Value->Ak->Prop):(X.wish E).Ok :=
 ⟨ok.mod,ok.kind,ok.glob,ok.blt,ok.above,ok.inj,ok.has,ok.cab,ok.hd,ok.frames,ok.stk,ok.exf,ok.bs,ok.bsz,ok.noex,ok.exfs,ok.funs,ok.frf,ok.tab⟩
theorem Cx.Ok.unwish{X:Cx}{E:Value->Ak->Prop}(ok:(X.wish E).Ok):X.Ok :=
 ⟨ok.mod,ok.kind,ok.glob,ok.blt,ok.above,ok.inj,ok.has,ok.cab,ok.hd,ok.frames,ok.stk,ok.exf,ok.bs,ok.bsz,ok.noex,ok.exfs,ok.funs,ok.frf,ok.tab⟩
section
variable{X:Cx}{a:List (Addr×Obj)}{σ:St}{H:Hp}{s:Ak}{E:Value->Ak->Prop}
theorem Inv.wish(I:Inv X a σ H s)(E:Value->Ak->Prop):Inv (X.wish E) a σ H s:=⟨I.ok.wish E,I.os,I.bare,I.base,I.loc,I.cell,I.free,I.freeC,I.pin,I.hok,I.len⟩
theorem Inv.unwish(I:Inv (X.wish E) a σ H s):Inv X a σ H s:=⟨I.ok.unwish,I.os,I.bare,I.base,I.loc,I.cell,I.free,I.freeC,I.pin,I.hok,I.len⟩
theorem SP.unwish{D:Ends}{f:Flow}{s':Ak}(h:SP (X.wish E) a D f s'):SP X a D f s':=by
 cases f with
 | next=>obtain ⟨b,c,I,q⟩:=h; exact ⟨b,c,I.unwish,q⟩
 | brk=>obtain ⟨b,c,I,q⟩:=h; exact ⟨b,c,I.unwish,q⟩
 | cont=>obtain ⟨b,c,I,q⟩:=h; exact ⟨b,c,I.unwish,q⟩
 | ret u=>obtain ⟨v,b,c,I,r,q⟩:=h; exact ⟨v,b,c,I.unwish,r,q⟩
theorem sJ.nox{st:List Stmt}{t:TS}(h:sJ X.nox st t):sJ X st t:=λa s σ H D I b =>
 Hg (h a s σ H D (I.wish _) b) (λ_ _ q=>q.unwish) λ_ _ z=>Ky z
end
section
variable{X:Cx}{st:Stmt}{Gg:List Stmt}{t u:TS}{e:Expr}{g:TE}{pos:Pos}
def IJ:TS:=λD a H=>D.nx a H
def KF(t u:TS):TS:=λD a H=>t { D with nx:=u D } a H
theorem mM:sJ X [] IJ:=λ_ _ a H _ I h=>Yd ⟨a,H,I,h⟩
theorem Mk(h1:PS X st t)(g:sJ X Gg u):sJ X (st::Gg) (KF t u):=by
 intro a s e H D I h
 refine wpAny_execs_cons (Ir (h1 a s e H { D with nx:=u D } I h) λf i q=>?_)
 cases f with
 | next =>
  obtain ⟨b,d,c,q⟩:=q
  exact g a i b d D c q
 | ret v=>exact q
 | brk=>exact q
 | cont=>exact q
theorem Ww(h1:PS X st t):sJ X [st] t:=by
 intro a s b H D I h
 refine wpAny_execs_cons (Ir (h1 a s b H D I h) λf c q=>?_)
 cases f with
 | next=>exact Yd q
 | ret v=>exact q
 | brk=>exact q
 | cont=>exact q
theorem Inv.quiet{a:List (Addr×Obj)}{σ:St}{H:Hp}{s:Ak}(I:Inv X a σ H s):interactive X.env=false:=by simp [interactive,I.ok.kind]
def HD(g:TE):TS:=λD a H=>g a H λ_ b=>D.nx a b
theorem kY(i:PE X e g)(d:Mc e none pos.line X.env=pure false:=by rfl):PS X (.Expr e pos) (HD g):=by
 intro a s b H D I h
 exact wpAny_Expr_any (Ir (i a s b H _ I h) λv l ⟨x,c,f,k,j⟩=>⟨b,c,f,j⟩) I.quiet d
def KG(g:TE):TS:=λD a H=>g a H D.rt
theorem cK(i:PE X e g):PS X (.Return (some e) pos) (KG g):=by
 intro a s b H D I h
 exact wpAny_Return_some (Ir (i a s b H _ I h) λv k ⟨x,c,f,d,j⟩=>⟨x,b,c,f,d,j⟩)
def LN(c:TT)(t u:TS):TS:=λD a H=>c a H λb d=>if b=true then t D a d else u D a d
theorem K9{c:Expr}{a b:List Stmt}{i:TT}(o:PT X c i)(n:sJ X a t)(hb:sJ X b u):PS X (.If c a b pos) (LN i t u):=by
 intro e s f H D I h
 refine wpAny_If (Ir (o e s f H _ I h) λd l g => ?_)
 obtain ⟨j,k,m⟩ := g
 cases d with
 | true=>exact n e l f j D k m
 | false=>exact hb e l f j D k m
def DH:TS:=λ_ _ _=>False
theorem K3:PS X st DH:=λ_ _ _ _ _ _ h=>h.elim
end
abbrev TG:=V->St->Hp->(St->Hp->Prop)->Prop
abbrev Q8:=List V->St->Hp->(St->Hp->Prop)->Prop
def PG(X:Cx)(a:Expr)(t:TG):Prop :=
 ∀(b:List (Addr×Obj)) (s:Ak) (e:St) (H:Hp) (v:V) (u:Value) (Q:St->Hp->Prop),Inv X b e H s->RelV v u->t v e H Q ->
  wpAny (model X.prog X.w) X.A (aR a X.env u) (λ_ f=>∃c d,Inv X b c d f/\Q c d) X.xe s
def CT(X:Cx)(g:List Expr)(t:Q8):Prop :=
 ∀(a:List (Addr×Obj)) (s:Ak) (d:St) (H:Hp) (vs:List V) (e:List Value) (Q:St->Hp->Prop),Inv X a d H s->Fz vs e->t vs d H Q ->
  wpAny (model X.prog X.w) X.A (assignInOrder ((Kr g X.env).map (·.2)) e) (λ_ f=>∃b c,Inv X a b c f/\Q b c) X.xe s
abbrev CC:=V->V->V->Hp->(Hp->Prop)->Prop
def FV(X:Cx)(t:CC):Prop :=
 ∀(a:List (Addr×Obj)) (s:Ak) (d:St) (H:Hp) (o i v:V) (e b u:Value) (Q:Hp->Prop),Inv X a d H s->RelV o e->RelV i b->RelV v u->t o i v H Q ->
  wpAny (model X.prog X.w) X.A (setItem e b u) (λ_ f=>∃c,Inv X a d c f/\Q c) X.xe s
abbrev JI:=V->V->Hp->VK->Prop
def JR(X:Cx)(op:Operator)(t:JI):Prop :=
 ∀(a:List (Addr×Obj)) (s:Ak) (b:St) (H:Hp) (x y:V) (v u:Value) (Q:VK),Inv X a b H s->RelV x v->RelV y u->t x y H Q ->
  wpAny (model X.prog X.w) X.A (inplaceOp op v u) (EP X a b Q) X.xe s
section
variable{X:Cx}{pos:Pos}
def gY(i:Nat):TG:=λv a H Q=>Q (a.set i (some v)) H
theorem bN{i:Nat}{x:Str}(f:X.N.Nodup)(d:X.N[i]? = some x)(e:Loc X.env.scope x)(b:X.fn x=true\/X.env.scope.names.lookup x=some .local:=by first | exact .inl rfl | exact .inr rfl | assumption):PG X (.Name x pos) (gY i):=by
 intro a s j H v u Q I r h
 exact wpAny_assign_Name (cR I f d e r (λg c=>⟨_,H,c,h⟩) b)
def KW:Q8:=λvs a H Q=>vs=[]/\Q a H
def GK(t:TG)(u:Q8):Q8:=λvs b H Q=>∃v r,vs=v::r/\t v b H λa c=>u r a c Q
theorem S7:CT X [] KW:=by
 intro a s b H vs c Q I r h
 obtain ⟨e,h⟩:=h
 subst e
 cases r
 exact assignInOrder_nil ⟨b,H,I,h⟩
theorem u6{e:Expr}{es:List Expr}{t:TG}{u:Q8}(h1:PG X e t)(l:CT X es u)(g:(Kr (e::es) X.env).map (·.2)=aR e X.env::(Kr es X.env).map (·.2):=by rfl):CT X (e::es) (GK t u):=by
 intro a s k H vs p Q I r h
 obtain ⟨v,o,i,h⟩:=h
 subst i
 cases r with
 | cons r f =>
  rw[g]
  refine assignInOrder_cons (Ir (h1 a s k H _ _ _ I r h) λ_ m c => ?_)
  obtain ⟨b,d,j,n⟩ := c
  exact l a m b d _ _ Q j f n
def KA(K:PySem.W.Frag)(n:Nat)(t:Q8):TG:=λv c H Q=>∃a b,v=.ref a/\Vp K H a b/\b.length=n/\t b c H Q
theorem BE{es:List Expr}{k:Nat}{t:Q8}{n:Nat}(l:X.calm=true)(h:CT X es t)(B:(Kr es X.env).length=n:=by rfl)(d:(Kr es X.env).findIdx? (·.1)=none:=by rfl):PG X (.Tuple es k pos) (KA X.K n t):=by
 intro c s i H v u Q I r f
 obtain ⟨a,p,m,z,A,f⟩:=f
 subst m
 cases r
 obtain ⟨q,g,y,C⟩:=I.tuple z
 refine assign_Tuple_tuple (I.ok.hd l) y (by simp [B,<- A,g.length]) d λj x=>?_
 have w:Inv X c i H { s with heap:=j }:=I.kept (t':=s.toks) λb o e=>x b o (Ck (Bm e)) e
 exact h c _ i H p _ Q w (by simpa using g) f
def KJ(d c:TE)(t:CC):TG:=λv a H Q=>d a H λo b=>c a b λi e=>t o i v e λf=>Q a f
theorem i9{o i:Expr}{g f:TE}{t:CC}(A:PE X o g)(C:PE X i f)(w:FV X t)
  (j:∀v,aR (.Subscript o i pos) X.env v=(do
   let c <- Wi [v] (eval o X.env)
   let d <- Wi [v,c] (eval i X.env)
   standAt pos
   Wi [v,c,d] (setItem c d v)
   release [v,c,d] []):=by intro _; rfl):PG X (.Subscript o i pos) (KJ g f t):=by
 intro a s e H v u Q I r h
 rw[j]
 refine Aa (Dn (Ir (A a s e H _ I h) λc z b => ?_))
 obtain ⟨x,F,B,p,D⟩ := b
 refine Aa (Dn (Ir (C a z e F _ B D) λd q b => ?_))
 obtain ⟨y,l,G,J,E⟩ := b
 refine Aa (wpAny_standAt (Aa (Dn (Ir (w a q e l x y v c d u _ G p J r E) λ_ K b => ?_))))
 obtain ⟨m,k,n⟩ := b
 exact wpAny_release ⟨e,m,k,n⟩
def P9(c:TE)(g:TG):TS:=λD a H=>c a H λx b=>g x a b D.nx
theorem sA{b e:Expr}{c:TE}{g:TG}(n:PE X e c)(f:PG X b g)(k:swapsWithSole [b] e pos.line X.env=pure false:=by rfl)(hw:swappedStores [b] e X.env=pure none:=by rfl)(h1:(Kr [b] X.env).map (·.2)=[aR b X.env]:=by rfl):PS X (.Assign [b] e pos) (P9 c g):=by
 intro a s d H D I h
 refine wpAny_Assign_stores (Ir (n a s d H _ I h) λv m ⟨x,i,l,j,o⟩=>?_) k hw
 rw[h1]
 exact Ir (f a m d i x v _ l j o) λ_ p q=>q
theorem Yy{i:Nat}{x:Str}{e:Expr}{c:TE}{a:Pos}(p:X.N.Nodup)(m:X.N[i]? = some x)(n:Loc X.env.scope x)(q:PE X e c)(k:Mc e (some (.Name x a)) pos.line X.env=pure false:=by rfl)(j:X.fn x=true\/X.env.scope.names.lookup x=some .local:=by first | exact .inl rfl | exact .inr rfl | assumption):PS X (.Assign [.Name x a] e pos) (P9 c (gY i)):=by
 intro b s o H D I h
 refine wpAny_Assign_Name (Ir (q b s o H _ I h) λv u ⟨y,d,l,f,r⟩=>?_) k
 exact cR l p m n f (λt g=>⟨_,d,g,r⟩) j
def LD(i:Nat)(c:TE)(d:JI):TS:=λD a H=>∃x,a[i]? = some (some x)/\c a H λy b=>d x y b λz e=>D.nx (a.set i (some z)) e
theorem FE{i:Nat}{x:Str}{e:Expr}{B:TE}{op:Operator}{C:JI}{g:Pos}(F:X.N.Nodup)(t:X.N[i]? = some x)(o:Loc X.env.scope x)(S:PE X e B)(P:JR X op C)(Q:X.fn x=true\/X.env.scope.names.lookup x=some .local:=by first | exact .inl rfl | exact .inr rfl | assumption):PS X (.AugAssign (.Name x g) op e pos) (LD i B C):=by
 intro a s q H D I h
 obtain ⟨v,Y,h⟩:=h
 obtain ⟨m,O,hl⟩:=I.loc
 have n:IZ X.env.scope x:=by rcases o with k | k; exact .inl k; exact .inr (.inl k)
 obtain ⟨u,r,l⟩:=hl i x v t Y n
 refine wpAny_AugAssign_Name ?_
 have p:wpAny (model X.prog X.w) X.A (eval e X.env) (λw j=>wpAny (model X.prog X.w) X.A (inplaceOp op u w) (λr f=>wpAny (model X.prog X.w) X.A (storeName X.env x r) (λ_=>SP X a D .next) X.xe f) X.xe j) X.xe s:=by
  refine Ir (S a s q H _ I h) λw M b => ?_
  obtain ⟨y,V,R,J,T⟩ := b
  refine Ir (P a M q V v y u w _ R r J T) λz s2 b => ?_
  obtain ⟨zv,G,W,Z,U⟩ := b
  exact cR W F t o Z (λs3 E=>⟨_,G,E,U⟩) Q
 rcases l with ⟨hk,K⟩ | ⟨hk,c,L,d⟩
 ·exact wpAny_loadName_local I.ok.kind hk O K p
 ·rcases hk with hk | hk
  ·exact wpAny_loadName_cell I.ok.kind hk L d p
  ·rcases o with k | k
   ·have : X.env.scope.names.lookup x=some .free:=hk
    rw[k] at this; cases this
   ·have : X.env.scope.names.lookup x=some .free:=hk
    rw[k] at this; cases this
def JY(f:Int->Int->Int):JI:=λx y H Q=>∃i j,x=.int i/\y=.int j/\Q (.int (f i j)) H
theorem BG:JR X .Add (JY λi j=>i+j):=by
 intro a s g H x y v u Q I b e h
 obtain ⟨i,j,d,c,q⟩:=h
 subst d; subst c
 obtain ⟨t,rfl⟩:=b
 obtain ⟨f,rfl⟩:=e
 exact iadd_int ⟨.int _,H,I.tok _,⟨_,rfl⟩,q⟩
theorem EA:JR X .Sub (JY λi j=>i - j):=by
 intro a s g H x y v u Q I b e h
 obtain ⟨i,j,d,c,q⟩:=h
 subst d; subst c
 obtain ⟨t,rfl⟩:=b
 obtain ⟨f,rfl⟩:=e
 exact isub_int ⟨.int _,H,I.tok _,⟨_,rfl⟩,q⟩
end
section
variable{X:Cx}{pos:Pos}
def BY(c:TT)(h:TS):TS:=λD a H=>∃W:Nat->St->Hp->Prop,(∃m,W m a H)/\∀m a H,W m a H ->
 c a H λb e=>if b=true then ∃N:St->Hp->Prop,(∀d g,N d g->∃f,f<m/\W f d g)/\h { D with nx:=N,ct:=N,bk:=D.nx } a e else D.nx a e
theorem q9{c:Expr}{g:List Stmt}{B:TT}{z:TS}(C:PassesOwn (model X.prog X.w) X.A X.env X.xe)(L:PT X c B)(hb:sJ X g z):PS X (.While c g [] pos) (BY B z):=by
 intro d s J H D I h
 obtain ⟨W,⟨O,R⟩,k⟩:=h
 refine wpAny_While (codeAny_whileLoop (λn M=>∃j G,Inv X d j G M/\W n j G) ?_ O ⟨J,H,I,R⟩)
 (intro n P T; obtain ⟨e,E,Q,S⟩ := T)
 refine Kv C (Ir (L d P e E _ Q (k n e E S)) λb K u => ?_)
 obtain ⟨y,F,m⟩ := u
 cases b with
 | true =>
  obtain ⟨N,x,m⟩:=m
  rw[if_pos rfl]
  refine Kv C (Ir (hb d K e y _ F m) λf U l=>?_)
  cases f with
  | next =>
   obtain ⟨a,i,o,p⟩:=l
   obtain ⟨q,r,t⟩:=x a i p
   exact ⟨q,r,a,i,o,t⟩
  | cont =>
   obtain ⟨a,i,o,p⟩:=l
   obtain ⟨q,r,t⟩:=x a i p
   exact ⟨q,r,a,i,o,t⟩
  | brk=>exact l
  | ret v=>exact l
 | false =>
  rw[if_neg Cv]
  exact Yd ⟨e,y,F,m⟩
end
structure It where
 go:Nat->Hp->Prop
 yld:Nat->Hp->V->Hp->Prop
 stop:Nat->Hp->Prop
def Sf(X:Cx)(a:List (Addr×Obj))(H:Hp)(b:Addr):Prop :=
 H b=none/\b≠X.env.locals/\b∉X.fs/\(b∈X.ex\/X.s₀.heap.objs.size<=b)/\(∀x c,X.env.cells.lookup x=some c->c≠b)/\∀p∈X.pn++a,p.1≠b
theorem Inv.fpOk{X:Cx}{a:List (Addr×Obj)}{σ:St}{H d:Hp}{s:Ak}{b:Addr}(I:Inv X a σ H s)(hb:s.heap.objs.size<=b)(f:d b=none):Sf X a d b:=by
 refine ⟨f,bW (Cm I.lt hb),I.nofs hb,.inr (Co I.sz hb),λx c e z=>?_,λp g z=>?_⟩
 ·obtain ⟨v,q⟩:=I.cell x c e
  exact absurd (Cm q.lt (by rw[z]; exact hb)) (He _)
 ·exact absurd (Cm (Bm (I.pin p g).1) (by rw[z]; exact hb)) (He _)
structure Turn(P:Bp)(w:World)(K:PySem.W.Frag)(tg:Expr)(J:It)(fp:List Addr)(it:Addr)(tn:Nat->Heap->Prop):Prop where
 mem:it∈fp
 obj:∀i h,tn i h->∀b∈fp,∃o,h.get? b=some o/\∀v,o.data≠.cell v
 keep:∀i h h',tn i h->(∀b∈fp,∀o,h.get? b=some o->h'.get? b=some o)->tn i h'
 item:∀(X:Cx),X.prog=P->X.w=w->X.K=K->X.calm=true->∀(i:Nat) (pins:List (Addr×Obj)) (s:Ak) (σ:St) (H:Hp) (E:Value->Ak->Prop),Inv X pins σ H s->(∀b∈fp,Sf X pins H b)->tn i s.heap->J.go i H ->
  wpAny (model P w) X.A (Nk (.ref it)) (λr s1=>∃u,r=some u /\
   wpAny (model P w) X.A (Ye tg (.ref it) u) (λ_ s2=>∃x H',Inv X pins σ H' s2/\RelV x u/\J.yld i H x H'/\tn (i+1) s2.heap/\∀b∈fp,H' b=none) E s1) E s
 done:∀(X:Cx),X.prog=P->X.w=w->X.K=K->X.calm=true->∀(i:Nat) (pins:List (Addr×Obj)) (s:Ak) (σ:St) (H:Hp) (E:Value->Ak->Prop),Inv X pins σ H s->(∀b∈fp,Sf X pins H b)->tn i s.heap->J.stop i H ->
  wpAny (model P w) X.A (Nk (.ref it)) (λr s1=>r=none/\Inv X pins σ H s1) E s
 self:∀(A:Cw) (i:Nat) (s:Ak) (Q:Value->Ak->Prop) (E:Value->Ak->Prop),tn i s.heap->Q (.ref it) s->wpAny (model P w) A (pyIter (.ref it)) Q E s
abbrev TI:=St->Hp->(It->Hp->Prop)->Prop
def MF(X:Cx)(a:List (Addr×Obj))(σ:St)(h:Expr)(R:It->Hp->Prop)(d:Value)(e:Ak):Prop :=
 ∃(it:Addr) (g:List Addr) (f:Nat->Heap->Prop) (J:It) (c:Hp),d=.ref it/\Inv X a σ c e/\Turn X.prog X.w X.K h J g it f/\f 0 e.heap/\(∀b∈g,Sf X a c b)/\R J c
def PI(X:Cx)(c iter:Expr)(e:TI):Prop :=
 ∀(a:List (Addr×Obj)) (s:Ak) (b:St) (H:Hp) (R:It->Hp->Prop),Inv X a b H s->e b H R ->
  wpAny (model X.prog X.w) X.A (eval iter X.env) (λv d=>wpAny (model X.prog X.w) X.A (pyIter v) (MF X a b c R) X.xe d) X.xe s
theorem zY{M:Model}{A:Cw}{E:Value->Ak->Prop}{s:Ak}{b:Expr}{it:Addr}{u:Value}{o:Obj}{n:String}{vs:Array Value}{Q:Unit->Ak->Prop}(c:s.heap.get? it=some o)(d:o.cls=.type n)(hd:o.data=.fields vs)(e:["enumerate", "zip", "dict_itemiterator", "dict_reverseitemiterator", "odict_iterator", "itertools.zip_longest", "itertools.pairwise"].contains n=false)(a:Q () s):wpAny M A (Ye b (.ref it) u) Q E s:=by
  unfold Ye
  cases b <;> first
    | exact Ag a
    | (cases u <;> first
        | exact Ag a
        | (refine Aa (wpAny_load c ?_)
           rw[d,hd]
           show wpAny M A (if (["enumerate", "zip", "dict_itemiterator", "dict_reverseitemiterator", "odict_iterator", "itertools.zip_longest", "itertools.pairwise"].contains n && vs[0]? == some (Ic _))=true then _ else _) Q E s
           rw[if_neg (by intro h; rw[e,Bool.false_and] at h; cases h)]
           exact Ag a))
def LX(K:PySem.W.Frag)(a:Addr):It :=
 ⟨λi H=>∃b x,Ux K H a b/\b[i]? = some x,λi H x c=>c=H/\∀b,Ux K H a b->b[i]? = some x,λi H=>∃b,Ux K H a b/\b.length<=i⟩
def LP(K:PySem.W.Frag)(a:Addr):It :=
 ⟨λi H=>∃b x,Vp K H a b/\b[i]? = some x,λi H x c=>c=H/\∀b,Vp K H a b->b[i]? = some x,λi H=>∃b,Vp K H a b/\b.length<=i⟩
def IH(lo:Int)(n:Nat):It:=⟨λi _=>i<n,λi H x a=>a=H/\x=.int (lo+i),λi _=>n<=i⟩
theorem xR{P:Bp}{w:World}{K:PySem.W.Frag}{U:Expr}(a it:Addr):Turn P w K U (LX K a) [it] it (λi h=>h.IsListIter it a i) where
 mem:=by simp
 obj:=λi h st b g=>by
  have e:b=it:=by simpa using g
  subst e
  obtain ⟨o,e,c,d⟩:=st
  exact ⟨o,e,λv z=>by rw[d] at z; cases z⟩
 keep:=λi h l st k=>st.at λo e=>k it (by simp) o e
 item:=by
  intro X G F q N i f s M H E I m st L
  subst G F q
  obtain ⟨O,x,n,J⟩:=L
  obtain ⟨D,B,p,T⟩:=I.list n
  obtain ⟨u,S,Q⟩:=B.get J
  obtain ⟨y,A,V,r,t,C⟩:=m it (by simp)
  refine Wg st p.isList (x:=u) (by simpa using S) λl j R=>?_
  have Y:Inv X f M H { s with heap:=l }:=I.turned (t':=s.toks) (λb o g e=>(R.2 b g).trans e) y A r t C
  obtain ⟨o,e,c,d⟩:=id j
  exact ⟨u,rfl,zY (s:={ s with heap:=l }) e c d (by decide) ⟨x,H,Y,Q,⟨rfl,λys hy=>by rw[I.list_inj hy n]; exact J⟩,j,λb g=>(m b g).1⟩⟩
 done:=by
  intro X G F q N i f s M H E I m st L
  subst G F q
  obtain ⟨O,n,J⟩:=L
  obtain ⟨D,B,p,T⟩:=I.list n
  obtain ⟨y,A,V,r,t,C⟩:=m it (by simp)
  have hl:=B.length
  exact Yj (I.ok.hd N) st p.isList (by simp; omega) λl Z=>⟨rfl,I.turned (t':=s.toks) (λb o g e=>Z b o g e) y A r t C⟩
 self:=λ_ _ _ _ _ st h=>wpAny_pyIter_listiter st h
theorem qO{P:Bp}{w:World}{K:PySem.W.Frag}{U:Expr}(a it:Addr):Turn P w K U (LP K a) [it] it (λi h=>h.IsTupleIter it a i) where
 mem:=by simp
 obj:=λi h st b g=>by
  have e:b=it:=by simpa using g
  subst e
  obtain ⟨o,e,c,d⟩:=st
  exact ⟨o,e,λv z=>by rw[d] at z; cases z⟩
 keep:=λi h m st k=>st.at λo e=>k it (by simp) o e
 item:=by
  intro X G F r N i f s M H E I n st L
  subst G F r
  obtain ⟨O,x,q,J⟩:=L
  obtain ⟨j,C,p,T⟩:=I.tuple q
  obtain ⟨u,S,Q⟩:=C.get J
  obtain ⟨A,B,V,t,y,D⟩:=n it (by simp)
  refine M3 st (show s.heap.IsTuple a j.toArray from p) (x:=u) (by simpa using S) λm l R=>?_
  have Y:Inv X f M H { s with heap:=m }:=I.turned (t':=s.toks) (λb o g e=>(R.2 b g).trans e) A B t y D
  obtain ⟨o,e,c,d⟩:=id l
  exact ⟨u,rfl,zY (s:={ s with heap:=m }) e c d (by decide) ⟨x,H,Y,Q,⟨rfl,λys hy=>by rw[I.tuple_inj hy q]; exact J⟩,l,λb g=>(n b g).1⟩⟩
 done:=by
  intro X G F r N i f s M H E I n st L
  subst G F r
  obtain ⟨O,q,J⟩:=L
  obtain ⟨j,C,p,T⟩:=I.tuple q
  obtain ⟨A,B,V,t,y,D⟩:=n it (by simp)
  have hl:=C.length
  exact M7 (I.ok.hd N) st (show s.heap.IsTuple a j.toArray from p) (by simp; omega) λm Z=>⟨rfl,I.turned (t':=s.toks) (λb o g e=>Z b o g e) A B t y D⟩
 self:=λ_ _ _ _ _ st h=>wpAny_pyIter_tupleiter st h
theorem rM{P:Bp}{w:World}{K:PySem.W.Frag}{F:Expr}(it:Addr)(lo:Int)(n:Nat):Turn P w K F (IH lo n) [it] it (λi h=>IsRangeIter h it (lo+(i:Nat) * 1) ((n:Int) - (i:Nat)) 1) where
 mem:=by simp
 obj:=λi h st b c=>by
  have e:b=it:=by simpa using c
  subst e
  exact ⟨_,st,λv z=>by
   have G:Data.fields _=Data.cell v:=z
   cases G⟩
 keep:=λi h f st k=>k it (by simp) _ st
 item:=by
  intro X y x j r i a s B H E I g st A
  subst y x j
  obtain ⟨p,q,J,l,m,u⟩:=g it (by simp)
  have W:=Walks.range (prog:=X.prog) (w:=X.w) (I.ok.hd r) it lo 1 n
  refine W.item i s _ _ A st λv f C D d N=>?_
  obtain ⟨t,rfl⟩:=D
  have L:Inv X a B H { s with heap:=f,toks:=C }:=I.turned (λb o c e=>N b o (by simpa using c) e) p q l m u
  refine ⟨_,rfl,zY (s:={ s with heap:=f,toks:=C }) (n := "range_iterator") d rfl rfl (by decide) ⟨.int (lo+i),H,L,⟨t,?_⟩,⟨rfl,rfl⟩,d,λb c=>(g b c).1⟩⟩
  rw[Int.mul_one]
 done:=by
  intro X y x j r i a s B H E I g st A
  subst y x j
  obtain ⟨p,q,J,l,m,u⟩:=g it (by simp)
  exact wpAny_pyNext_range_end (I.ok.hd r) st (by have : n<=i:=A; omega) λf M=>⟨rfl,I.turned (t':=s.toks) (λb o c e=>M b o c e) p q l m u⟩
 self:=λ_ _ _ _ _ st h=>wpAny_pyIter_rangeiter st h
section
variable{X:Cx}{c:Expr}
def IF(K:PySem.W.Frag)(c:TE):TI:=λd H R=>c d H λx b=>∃a,x=.ref a/\(∃e,Ux K b a e)/\R (LX K a) b
def KQ(K:PySem.W.Frag)(c:TE):TI:=λd H R=>c d H λx b=>∃a,x=.ref a/\(∃e,Vp K b a e)/\R (LP K a) b
theorem O3{l:Expr}{j:TE}(hl:PE X l j):PI X c l (IF X.K j):=by
 intro d s t H R I h
 refine Ir (hl d s t H _ I h) λv g i => ?_
 obtain ⟨x,k,f,m,w⟩ := i
 obtain ⟨a,e,⟨z,u⟩,q⟩:=w
 subst e
 cases m
 obtain ⟨r,y,p,A⟩:=f.list u
 refine Tj p.isList ?_
 refine ⟨g.heap.objs.size,[g.heap.objs.size],_,_,k,rfl,f.kept (t':=g.toks) λb o e=>Aj _ e,xR a _,⟨_,Bi _ rfl,rfl,rfl⟩,λb n=>?_,q⟩
 have e:b=g.heap.objs.size:=by simpa using n
 subst e
 exact f.fpOk (Ah _) (f.hok.fresh (Ah _))
theorem BJ{l:Expr}{k:TE}(hl:PE X l k):PI X c l (KQ X.K k):=by
 intro d s t H R I h
 refine Ir (hl d s t H _ I h) λv f j => ?_
 obtain ⟨x,m,g,n,w⟩ := j
 obtain ⟨a,e,⟨z,u⟩,q⟩:=w
 subst e
 cases n
 obtain ⟨i,y,p,A⟩:=g.tuple u
 refine wpAny_pyIter_tuple (show f.heap.IsTuple a i.toArray from p) ?_
 refine ⟨f.heap.objs.size,[f.heap.objs.size],_,_,m,rfl,g.kept (t':=f.toks) λb o e=>Aj _ e,qO a _,⟨_,Bi _ rfl,rfl,rfl⟩,λb r=>?_,q⟩
 have e:b=f.heap.objs.size:=by simpa using r
 subst e
 exact g.fpOk (Ah _) (g.hok.fresh (Ah _))
theorem C9{d:List (Addr×Obj)}{σ:St}{H:Hp}{s:Ak}{R:It->Hp->Prop}{E:Value->Ak->Prop}{lo a:Int}{t u v:Tok}{f:Nat}(I:Inv X d σ H s)(h1:-(2 ^ 62)<=lo)(m:lo<2 ^ 62)(l:-(2 ^ 62)<=a)(i:a<2 ^ 62)(q:R (IH lo (a - lo).toNat) H):wpAny (model X.prog X.w) X.A (pyIter (.ref s.heap.objs.size)) (MF X d σ c R) E { s with heap:=s.heap.push { cls:=.type "range",data:=.fields #[.int lo t,.int a u,.int 1 v] },toks:=f }:=by
 refine wpAny_pyIter_range (IsRange.new ..) (small_one h1 m l i) ?_
 have g:Inv X d σ H { s with heap:=s.heap.push { cls:=.type "range",data:=.fields #[.int lo t,.int a u,.int 1 v] },toks:=f }:=I.kept λb o e=>Aj _ e
 refine ⟨(s.heap.push { cls:=.type "range",data:=.fields #[.int lo t,.int a u,.int 1 v] }).objs.size,[(s.heap.push { cls:=.type "range",data:=.fields #[.int lo t,.int a u,.int 1 v] }).objs.size],_,_,H,rfl,
  g.kept (t':=f) λb o e=>Aj _ e,rM _ lo (a - lo).toNat,?_,λb k=>?_,q⟩
 ·have j:lo+((0:Nat):Int) * 1=lo:=by simp
  have h:(((a - lo).toNat:Nat):Int) - ((0:Nat):Int)=Lc lo a 1:=by rw[rangeSize_one]; split <;> omega
  show IsRangeIter _ _ (lo+((0:Nat):Int) * 1) ((((a - lo).toNat:Nat):Int) - ((0:Nat):Int)) 1
  rw[j,h]
  exact Bi _ rfl
 ·have e:b=(s.heap.push { cls:=.type "range",data:=.fields #[.int lo t,.int a u,.int 1 v] }).objs.size:=by simpa using k
  subst e
  exact g.fpOk (Ah _) (g.hok.fresh (Ah _))
def JC(b:TA):TI:=λc H R=>b c H λvs a=>∃j:Int,vs=[.int j] /\ -(2 ^ 62)<=j/\j<2 ^ 62/\R (IH 0 j.toNat) a
theorem wQ{a:Expr}{f:TA}{p pos:Pos}(g:Gl X "range")(n:X.mg "range" = none)(l:PA X [a] f)(o:Cc [a] X.env=[(false,eval a X.env)]:=by rfl):PI X c (.Call (.Name "range" p) [a] [] pos) (JC f):=by
 intro b s v H R I h
 refine Call_ (dY I g n boot_range (Nr (Ir (l pos b s v H _ I h) λx y ⟨vs,w,u,i,d⟩=>?_) o rfl))
 obtain ⟨j,e,d,k,q⟩:=d
 subst e
 cases i with
 | cons r m =>
  cases m
  obtain ⟨t,rfl⟩:=r
  exact call_range_1 (C9 u (by omega) (by omega) d k (by simpa using q))
def KM(j:TI)(g:TG)(k:TS):TS:=λD a H=>j a H λJ f=>∃W:Nat->Nat->St->Hp->Prop,(∃m,W 0 m a f)/\∀i m a H,W i m a H ->
 (J.stop i H/\D.nx a H)\/(J.go i H/\∃N:St->Hp->Prop,(∀c b,N c b->∃e,e<m/\W (i+1) e c b)/\∀x b,J.yld i H x b->g x a b λd h=>k { D with nx:=N,ct:=N,bk:=D.nx } d h)
def Zi(fp:List Addr)(h:Heap):List (Addr×Obj):=fp.filterMap λb=>(h.get? b).map λo=>(b,o)
theorem Mw{fp:List Addr}{h:Heap}{b:Addr}{o:Obj}(hb:b∈fp)(e:h.get? b=some o):(b,o)∈Zi fp h:=Jx.mpr ⟨b,hb,by rw[e]; rfl⟩
theorem yD{fp:List Addr}{h:Heap}{p:Addr×Obj}(c:p∈Zi fp h):p.1∈fp/\h.get? p.1=some p.2:=by
 obtain ⟨b,d,e⟩:=Jx.mp c
 cases q:h.get? b with
 | none=>rw[q] at e; cases e
 | some o =>
  rw[q] at e
  have a:(b,o)=p:=Cn e
  subst a
  exact ⟨d,q⟩
theorem Inv.pinned{a:List (Addr×Obj)}{σ:St}{H:Hp}{s:Ak}{fp:List Addr}(I:Inv X a σ H s)(i:∀b∈fp,Sf X a H b)(g:∀b∈fp,∃o,s.heap.get? b=some o/\∀v,o.data≠.cell v):Inv X (a++Zi fp s.heap) σ H s :=
 I.pins_of λp l=>(Ba.mp l).elim (λz=>I.pin p (Av _ z)) λz=>by
  obtain ⟨c,e⟩:=yD z
  obtain ⟨k,h,j,_⟩:=i p.1 c
  obtain ⟨o,f,d⟩:=g p.1 c
  rw[e] at f; cases f
  exact ⟨e,k,h,j,d⟩
theorem Inv.unpinned{a b:List (Addr×Obj)}{σ:St}{H:Hp}{s:Ak}(I:Inv X (a++b) σ H s):Inv X a σ H s:=I.pins_of λp c=>I.pin p (Av _ (Ap _ c))
theorem BN{iter:Expr}{C:List Stmt}{wi:TI}{g:TG}{tb:TS}{pos:Pos}(L:PassesOwn (model X.prog X.w) X.A X.env X.xe)(hc:X.calm=true)(hi:PI X c iter wi)(hg:PG X c g)(hb:sJ X C tb)(hs:∀x,Hz iter X.env x=pure x:=by intro _; rfl):PS X (.For c iter C [] pos) (KM wi g tb):=by
 intro a s σ H D I h
 refine wpAny_For (Ir (hi a s σ H _ I h) λv s1 h1=>Ir h1 λh0 s2 h2=>?_) hs
 obtain ⟨it,O,tn,J,H2,e,I2,T,Y,f2,W,⟨m0,w0⟩,M⟩:=h2
 subst e
 -- what stays true of the iterator's objects through the loop
 have z:∀{B:Hp},(∀b∈O,B b=none)->∀b∈O,Sf X a B b:=λhn b hb=>⟨hn b hb,(f2 b hb).2⟩
 refine codeAny_forLoop_any (λn s'=>∃i t B,Inv X a t B s'/\tn i s'.heap/\(∀b∈O,B b=none)/\W i n t B) ?_ m0 ⟨0,σ,H2,I2,Y,λb hb=>(f2 b hb).1,w0⟩
 (intro n s3 q_; obtain ⟨i,l,Q,I3,Uy,G,w3⟩ := q_)
 rcases M i n l Q w3 with ⟨P,qn⟩ | ⟨go,N,hN,step⟩
 ·refine Kv L (Ir (T.done X rfl rfl rfl hc i a s3 l Q X.xe I3 (z G) Uy P) λr s4 k => ?_)
  obtain ⟨V,I4⟩ := k
  subst V
  exact Yd ⟨l,Q,I4,qn⟩
 ·refine Kv L (Ir (T.item X rfl rfl rfl hc i a s3 l Q X.xe I3 (z G) Uy go) λr s4 k => ?_)
  obtain ⟨u,V,h4⟩ := k
  subst V
  refine Kv L (Ir h4 λ_ s5 k => ?_)
  obtain ⟨x,H5,I5,r5,y5,F,R⟩ := k
  have Z:=I5.pinned (z R) (T.obj _ _ F)
  refine Kv L (Ir (hg _ s5 l H5 x u _ Z r5 (step x H5 y5)) λ_ s6 k => ?_)
  obtain ⟨S,H6,I6,q6⟩ := k
  refine Kv L (Ir (hb _ s6 S H6 _ I6 q6) λf U E=>?_)
  have y:∀{j:St} {q:Hp},Inv X (a++Zi O s5.heap) j q U->N j q->∃m,m<n/\∃i t B,Inv X a t B U/\tn i U.heap/\(∀b∈O,B b=none)/\W i m t B:=λ{j q} p K=>by
   obtain ⟨m',hm,w7⟩:=hN j q K
   refine ⟨m',hm,i+1,j,q,p.unpinned,T.keep _ _ _ F λb hb o e=>(p.pin (b,o) (Av _ (Av _ (Mw hb e)))).1,λb hb=>?_,w7⟩
   obtain ⟨o,e,d⟩:=T.obj _ _ F b hb
   exact (p.pin (b,o) (Av _ (Av _ (Mw hb e)))).2.1
  cases f with
  | next=>obtain ⟨j,q,p,K⟩:=E; exact y p K
  | cont=>obtain ⟨j,q,p,K⟩:=E; exact y p K
  | brk=>obtain ⟨j,q,p,E⟩:=E; exact ⟨j,q,p.unpinned,E⟩
  | ret v=>obtain ⟨x7,j,q,p,r7,E⟩:=E; exact ⟨x7,j,q,p.unpinned,r7,E⟩
end
abbrev R2:=V->V->Hp->VK->Prop
def Xq(X:Cx)(f:Value->Value->Sem Value)(r:R2):Prop :=
 ∀(a:List (Addr×Obj)) (s:Ak) (b:St) (H:Hp) (x y:V) (v u:Value) (Q:VK),Inv X a b H s->RelV x v->RelV y u->r x y H Q ->
  wpAny (model X.prog X.w) X.A (f v u) (EP X a b Q) X.xe s
def LQ(X:Cx)(f:Value->Sem Value)(r:V->Hp->VK->Prop):Prop :=
 ∀(a:List (Addr×Obj)) (s:Ak) (b:St) (H:Hp) (x:V) (v:Value) (Q:VK),Inv X a b H s->RelV x v->r x H Q ->
  wpAny (model X.prog X.w) X.A (f v) (EP X a b Q) X.xe s
def Jh(X:Cx)(f:Value)(r:List V->Hp->VK->Prop):Prop :=
 ∀(a:List (Addr×Obj)) (s:Ak) (c:St) (H:Hp) (d:List V) (b:List Value) (Q:VK),Inv X a c H s->Fz d b->r d H Q ->
  wpAny (model X.prog X.w) X.A (call f b) (EP X a c Q) X.xe s
def JV(X:Cx)(r:V->Hp->(Bool->Hp->Prop)->Prop):Prop :=
 ∀(a:List (Addr×Obj)) (s:Ak) (b:St) (H:Hp) (x:V) (v:Value) (Q:Bool->Hp->Prop),Inv X a b H s->RelV x v->r x H Q ->
  wpAny (model X.prog X.w) X.A (truthy v) (TP X a b Q) X.xe s
def IE(r:R2)(c e:TE):TE:=λa H Q=>c a H λx b=>e a b λy d=>r x y d Q
def NB(r:V->Hp->VK->Prop)(b:TE):TE:=λc H Q=>b c H λx a=>r x a Q
def rI(C:Int->Int->Prop)(g:Int->Int->V):R2:=λx y H Q=>∃i j,x=.int i/\y=.int j/\C i j/\Q (g i j) H
def AF(g:Int->Int->V):R2:=λx y H Q=>∃i j,x=.int i/\y=.int j/\Q (g i j) H
def rU(g:Int->V):V->Hp->VK->Prop:=λx H Q=>∃i,x=.int i/\Q (g i) H
section
variable{X:Cx}{a b c:Expr}{d e k:TE}{pos:Pos}
theorem DX(o:PE X a d)(hb:PE X b e){c:List (Addr×Obj)}{s:Ak}{σ:St}{H:Hp}{R:V->V->Hp->Prop}(I:Inv X c σ H s)(h:d σ H λx m=>e σ m λy i=>R x y i){Q:Value->Ak->Prop}{f:Value->Value->Sem Value}(q:∀v u l x y i,Inv X c σ i l->RelV x v->RelV y u->R x y i->wpAny (model X.prog X.w) X.A (f v u) Q X.xe l):wpAny (model X.prog X.w) X.A (eval a X.env) (λv j=>wpAny (model X.prog X.w) X.A (eval b X.env) (λu k=>wpAny (model X.prog X.w) X.A (f v u) Q X.xe k) X.xe j) X.xe s:=by
 refine Ir (o c s σ H _ I h) λv B g => ?_
 obtain ⟨x,m,z,p,C⟩ := g
 refine Ir (hb c B σ m _ z C) λu l g => ?_
 obtain ⟨y,i,r,t,n⟩ := g
 exact q v u l x y i r p t n
theorem Km{op:Operator}{r:R2}(g:Xq X (Kw op) r)(f:PE X a d)(hb:PE X b e):PE X (.BinOp a op b pos) (IE r d e):=by
 intro c s l H Q I h
 exact wpAny_BinOp (DX f hb I h λv u k x y n i m j q=>g c k l n x y v u Q i m j q)
theorem IM{op:UnaryOp}{r:V->Hp->VK->Prop}(g:LQ X (unaryOp op) r)(i:PE X a d):PE X (.UnaryOp op a pos) (NB r d):=by
 intro b s c H Q I h
 exact UnaryOp_ (Ir (i b s c H _ I h) λv k ⟨x,e,j,f,l⟩=>g b k c e x v Q j f l)
theorem JB{f:Value->Value->Sem Value}{C:Int->Int->Prop}{g:Int->Int->Int}(a:∀(i j:Int) (t u:Tok) (s:Ak) (Q:Value->Ak->Prop) (E:Value->Ak->Prop),C i j->Q (.int (g i j) s.toks) { s with toks:=s.toks+1 }->wpAny (model X.prog X.w) X.A (f (.int i t) (.int j u)) Q E s):Xq X f (rI C λi j=>.int (g i j)):=by
 intro b s l H x y v u Q I k c h
 obtain ⟨i,j,rfl,rfl,d,q⟩:=h
 obtain ⟨t,rfl⟩:=k
 obtain ⟨e,rfl⟩:=c
 exact a i j t e s _ _ d ⟨.int (g i j),H,I.tok _,⟨_,rfl⟩,q⟩
theorem IK{f:Value->Value->Sem Value}{g:Int->Int->Int}(a:∀(i j:Int) (t u:Tok) (s:Ak) (Q:Value->Ak->Prop) (E:Value->Ak->Prop),Q (.int (g i j) s.toks) { s with toks:=s.toks+1 }->wpAny (model X.prog X.w) X.A (f (.int i t) (.int j u)) Q E s):Xq X f (AF λi j=>.int (g i j)):=by
 intro b s k H x y v u Q I e c h
 obtain ⟨i,j,rfl,rfl,q⟩:=h
 obtain ⟨t,rfl⟩:=e
 obtain ⟨d,rfl⟩:=c
 exact a i j t d s _ _ ⟨.int (g i j),H,I.tok _,⟨_,rfl⟩,q⟩
theorem BM{f:Value->Value->Sem Value}{g:Int->Int->Bool}(a:∀(i j:Int) (t u:Tok) (s:Ak) (Q:Value->Ak->Prop) (E:Value->Ak->Prop),Q (.bool (g i j)) s->wpAny (model X.prog X.w) X.A (f (.int i t) (.int j u)) Q E s):Xq X f (AF λi j=>.bl (g i j)):=by
 intro b s k H x y v u Q I e c h
 obtain ⟨i,j,rfl,rfl,q⟩:=h
 obtain ⟨t,rfl⟩:=e
 obtain ⟨d,rfl⟩:=c
 exact a i j t d s _ _ ⟨.bl (g i j),H,I,rfl,q⟩
def FA(i j:Int):Prop:=0<j/\j<1073741824
def LV(i j:Int):Prop:=0<=j/\j<=1000000/\i.natAbs<2 ^ 64
def L0(i j:Int):Prop:=(-(2 ^ 64)<i/\i<2 ^ 64)\/(-(2 ^ 64)<j/\j<2 ^ 64)
theorem L0.ok{i j:Int}(h:L0 i j):IntMulOk i j:=by
 rcases h with ⟨a,b⟩ | ⟨a,b⟩
 ·exact .of_left (intBits_le_64 a b)
 ·exact .of_right (intBits_le_64 a b)
theorem cW:Xq X (Kw .Add) (AF λi j=>.int (i+j)):=IK λ_ _ _ _ _ _ _ q=>add_int q
theorem CD:Xq X (Kw .Sub) (AF λi j=>.int (i - j)):=IK λ_ _ _ _ _ _ _ q=>sub_int q
theorem Zo:Xq X (Kw .Mult) (rI L0 λi j=>.int (i * j)):=JB λ_ _ _ _ _ _ _ a q=>mul_int q a.ok
theorem kG:Xq X (Kw .FloorDiv) (rI FA λi j=>.int (i / j)):=JB λi j _ _ _ _ _ a q=>by
 have b:(0:Int)<j:=a.1
 have c:j<1073741824:=a.2
 exact floordiv_int (by omega) (by rw[Int.fdiv_eq_ediv_of_nonneg i (by omega)]; exact q) (.inl (PyProof.noPylong_small (by omega)))
theorem Vu:Xq X (Kw .Mod) (rI (λ_ j=>0<j) λi j=>.int (i % j)):=JB λi j _ _ _ _ _ a q=>by
 have b:(0:Int)<j:=a
 exact mod_int' (by omega) (by rw[Int.fmod_eq_emod_of_nonneg i (by omega)]; exact q)
theorem kF:Xq X (Kw .Pow) (rI LV λi j=>.int (i ^ j.toNat)):=JB λ_ _ _ _ _ _ _ a q=>pow_int_small a.1 a.2.1 a.2.2 q
theorem MS{f:Value->Sem Value}{g:Int->Int}(a:∀(i:Int) (t:Tok) (s:Ak) (Q:Value->Ak->Prop) (E:Value->Ak->Prop),Q (.int (g i) s.toks) { s with toks:=s.toks+1 }->wpAny (model X.prog X.w) X.A (f (.int i t)) Q E s):LQ X f (rU λi=>.int (g i)):=by
 intro b s d H x v Q I c h
 obtain ⟨i,rfl,q⟩:=h
 obtain ⟨t,rfl⟩:=c
 exact a i t s _ _ ⟨.int (g i),H,I.tok _,⟨_,rfl⟩,q⟩
theorem BV:LQ X (unaryOp .USub) (rU λi=>.int (-i)):=MS λ_ _ _ _ _ q=>neg_int q
end
section
variable{X:Cx}{a b c:Expr}{d f g:TE}{pos:Pos}
theorem u7{a:List (Addr×Obj)}{σ:St}{H:Hp}{s:Ak}{Q:VK}{k b:Bool}(I:Inv X a σ H s)(q:Q (.bl k) H)(e:k=b):EP X a σ Q (.bool b) s:=by
 subst e
 exact ⟨.bl k,H,I,rfl,q⟩
theorem AL:Xq X (Hh .Lt) (AF λi j=>.bl (decide (i<j))):=BM λ_ _ _ _ _ _ _ q=>lt_int q
theorem Z2:Xq X (Hh .Gt) (AF λi j=>.bl (decide (j<i))):=BM λ_ _ _ _ _ _ _ q=>gt_int q
theorem K2:Xq X (Hh .GtE) (AF λi j=>.bl (decide (j<=i))):=BM λ_ _ _ _ _ _ _ q=>ge_int q
theorem FI:Xq X (Hh .Is) (λx y H Q=>y=.non/\Q (.bl (decide (x=.non))) H):=by
 intro a s d H x y v u Q I b c h
 obtain ⟨rfl,q⟩:=h
 cases c
 refine is_none_gen (u7 I q ?_)
 cases x <;> first
  | (cases b; rfl)
  | (obtain ⟨t,rfl⟩:=b; rfl)
theorem W2:Xq X (Hh .IsNot) (λx y H Q=>y=.non/\Q (.bl (!decide (x=.non))) H):=by
 intro a s d H x y v u Q I b c h
 obtain ⟨rfl,q⟩:=h
 cases c
 refine isnot_none_gen (u7 I q ?_)
 cases x <;> first
  | (cases b; rfl)
  | (obtain ⟨t,rfl⟩:=b; rfl)
theorem Nw(b:Expr){op:CmpOp}(h:op≠.In:=by decide)(c:op≠.NotIn:=by decide):Fx op b=false:=by
 have d:(op == CmpOp.In)=false:=by cases op <;> first | rfl | exact absurd rfl h
 have a:(op == CmpOp.NotIn)=false:=by cases op <;> first | rfl | exact absurd rfl c
 cases b <;> simp [Fx,d,a]
theorem Q4{op:CmpOp}{r:R2}(g:Xq X (Hh op) r)(e:PE X a d)(hb:PE X b f)(l:Fx op b=false):PE X (.Compare a [op] [b] pos) (IE r d f):=by
 intro c s m H Q I h
 exact wpAny_Compare1 (DX e hb I h λv u k x y o i n j q=>g c k m o x y v u Q i n j q) l
def GT(t:TE):TT:=λa H Q=>t a H λx b=>∃k,x=.bl k/\Q k b
theorem tX{op:CmpOp}{r:R2}(B:Xq X (Hh op) r)(j:PE X a d)(hb:PE X b f)(w:Fx op b=false):PT X (.Compare a [op] [b] pos) (GT (IE r d f)):=by
 intro g s i H Q I h
 refine wpAny_isTrue_Compare1 (Ir (j g s i H _ I h) λv A ⟨x,F,C,q,D⟩=>Ir (hb g A i F _ C D) λu t ⟨y,n,G,J,E⟩ =>
  Ir (B g t i n x y v u _ G q J E) λc K ⟨z,o,m,l,k,e,p⟩=>?_) w
 subst e
 cases l
 exact Hy ⟨o,m,p⟩
def JT(K:PySem.W.Frag)(x:V)(H:Hp)(k:Bool):Prop :=
 match x with
 | .non=>k=false
 | .bl b=>k=b
 | .int i=>k=(i != 0)
 | .str y=>y.length<=Bf/\k=((y.length:Int) != 0)
 | .byt y=>y.size<=Bf/\k=((y.size:Int) != 0)
 | .ref p=>(∃c,Ux K H p c/\k = !c.isEmpty)\/(∃c,Vp K H p c/\k = !c.isEmpty)\/∃a,H p=some (.dK a)/\k = !a.isEmpty
 | _=>False
theorem rR{b:Type}{a:List (b×V)}{vs:List (b×Value)}(r:KV a vs):(!vs.isEmpty) = !a.isEmpty:=by
 cases r <;> rfl
theorem dI{xs:List V}{a:List Value}(r:Fz xs a):(!a.toArray.isEmpty) = !xs.isEmpty:=by
 cases r <;> simp
theorem Za:(Bf:Nat)<2 ^ 63:=by rw[Hq]; decide
theorem KU:JV X (λx H Q=>∃k,JT X.K x H k/\Q k H):=by
 intro u s C H x v Q I g h
 obtain ⟨k,e,q⟩:=h
 have D:=Za
 have B:Bf=16777216:=Hq
 cases x with
 | non =>
  cases g
  have a:k=false:=e
  subst a
  exact truthy_none ⟨H,I,q⟩
 | bl b =>
  cases g
  have a:k=b:=e
  subst a
  exact Hy ⟨H,I,q⟩
 | int i =>
  obtain ⟨t,rfl⟩:=g
  have a:k=(i != 0):=e
  subst a
  exact PySem.P.truthy_int ⟨H,I,q⟩
 | str y =>
  obtain ⟨t,rfl⟩:=g
  obtain ⟨z,a⟩ : y.length<=Bf/\k=((y.length:Int) != 0):=e
  subst a
  exact PySem.P.truthy_str (by omega) ⟨H,I.tok _,q⟩
 | byt y =>
  obtain ⟨t,rfl⟩:=g
  obtain ⟨z,a⟩ : y.size<=Bf/\k=((y.size:Int) != 0):=e
  subst a
  exact PySem.W.truthy_bytes (by omega) ⟨H,I.tok _,q⟩
 | ref p =>
  cases g
  have a:(∃f,Ux X.K H p f/\k = !f.isEmpty)\/(∃f,Vp X.K H p f/\k = !f.isEmpty)\/∃c,H p=some (.dK c)/\k = !c.isEmpty:=e
  rcases a with ⟨f,j,a⟩ | ⟨f,j,a⟩ | ⟨c,j,a⟩
  ·subst a
   obtain ⟨l,r,n,o⟩:=I.list j
   have d:=r.length
   exact wpAny_truthy_list n.isList (by simp only[Ar]; omega) ⟨H,I.tok _,by rw[dI r]; exact q⟩
  ·subst a
   obtain ⟨l,r,n,o⟩:=I.tuple j
   have d:=r.length
   exact truthy_tuple n (by simp only[Ar]; omega) ⟨H,I.tok _,by rw[dI r]; exact q⟩
  ·subst a
   obtain ⟨o,A,vs,r,m⟩ : c.length<=Bf/\(p == Lu)=false/\∃vs,KV c vs/\s.heap.DictOf (Jm X.prog X.w) p vs:=I.hok p _ j
   have d:c.length=vs.length:=Paired.length r
   exact wpAny_truthy_dict A m (by omega) ⟨H,I.tok _,by rw[rR r]; exact q⟩
 | _=>exact (show False from e).elim
theorem vals1{x:V}{us:List Value}(r:Fz [x] us):∃u,us=[u]/\RelV x u:=by
 cases r with
 | cons a b=>cases b; exact ⟨_,rfl,a⟩
theorem vals2{x y:V}{us:List Value}(r:Fz [x,y] us):∃u a,us=[u,a]/\RelV x u/\RelV y a:=by
 cases r with
 | cons b e =>
  cases e with
  | cons c d=>cases d; exact ⟨_,_,rfl,b,c⟩
theorem iD(c:X.calm=true):Jh X (.builtin "min") (λxs H Q=>∃i j,xs=[.int i,.int j]/\Q (.int (if j<i then j else i)) H):=by
 intro b s g H xs m Q I r h
 obtain ⟨i,j,rfl,q⟩:=h
 obtain ⟨u,l,rfl,⟨t,rfl⟩,⟨f,rfl⟩⟩:=vals2 r
 refine min_two_ints (I.ok.hd c) λd e k=>⟨_,H,I.kept k,?_,q⟩
 by_cases a:j<i
 ·rw[if_pos a,if_pos a]; exact ⟨_,rfl⟩
 ·rw[if_neg a,if_neg a]; exact ⟨_,rfl⟩
theorem iS:Jh X (.type "int") (λxs H Q=>(∃i,xs=[.int i]/\Q (.int i) H)\/∃k,xs=[.bl k]/\Q (.int (if k then 1 else 0)) H):=by
 intro a s c H xs d Q I r h
 rcases h with ⟨i,rfl,q⟩ | ⟨k,rfl,q⟩
 ·obtain ⟨u,rfl,t,rfl⟩:=vals1 r
  exact call_int_int ⟨.int i,H,I,⟨_,rfl⟩,q⟩
 ·obtain ⟨u,rfl,b⟩:=vals1 r
  cases b
  exact call_int_bool ⟨.int (if k then 1 else 0),H,I.tok _,⟨_,rfl⟩,q⟩
def IV(K:PySem.W.Frag)(x:V)(H:Hp)(n:Nat):Prop :=
 match x with
 | .str y=>y.length<=Bf/\n=y.length
 | .byt y=>y.size<=Bf/\n=y.size
 | .ref p=>(∃a,Ux K H p a/\n=a.length)\/∃a,Vp K H p a/\n=a.length
 | _=>False
theorem Hj:Jh X (.builtin "len") (λxs H Q=>∃x n,xs=[x]/\IV X.K x H n/\Q (.int n) H):=by
 intro j s o H xs w Q I r h
 obtain ⟨x,n,rfl,e,q⟩:=h
 obtain ⟨u,rfl,i⟩:=vals1 r
 have v:=Za
 have m:Bf=16777216:=Hq
 cases x with
 | str y =>
  obtain ⟨t,rfl⟩:=i
  obtain ⟨k,b⟩ : y.length<=Bf/\n=y.length:=e
  subst b
  exact len_str (by omega) ⟨.int _,H,I.tok _,⟨_,rfl⟩,q⟩
 | byt y =>
  obtain ⟨t,rfl⟩:=i
  obtain ⟨k,b⟩ : y.size<=Bf/\n=y.size:=e
  subst b
  exact PySem.W.len_bytes (by omega) ⟨.int _,H,I.tok _,⟨_,rfl⟩,q⟩
 | ref p =>
  cases i
  have b:(∃xs,Ux X.K H p xs/\n=xs.length)\/∃xs,Vp X.K H p xs/\n=xs.length:=e
  rcases b with ⟨xs,g,b⟩ | ⟨xs,g,b⟩
  ·subst b
   obtain ⟨d,c,f,l⟩:=I.list g
   have a:=c.length
   exact Calls.call_len_list f.isList (by simp only[Ar]; omega) ⟨.int xs.length,H,I.tok _,⟨_,by simp only[Ar]; rw[a]⟩,q⟩
  ·subst b
   obtain ⟨d,c,f,l⟩:=I.tuple g
   have a:=c.length
   exact len_tuple f (by simp only[Ar]; omega) ⟨.int xs.length,H,I.tok _,⟨_,by simp only[Ar]; rw[a]⟩,q⟩
 | _=>exact (show False from e).elim
end
structure ObjM(h:Heap)(x dx C:Addr)(mA:Str->Option Value):Prop where
 obj:h.get? x=some (PySem.W.instObj C dx)
 ns:h.Ns1 dx mA
 ne:dx≠x
theorem wJ{h:Heap}{f:Addr}{c:Str->Option Value}(n:h.Ns1 f c):∃g,h.get? f=some g/\∀name,PySem.W.lookIn name g=some (c name):=by
 obtain ⟨o,d,r,j,p,k,_,m⟩:=n
 refine ⟨o,j,λname=>?_⟩
 have e:=m name
 unfold nsFind findBy at e
 rw[<- Array.find?_toList] at e
 unfold PySem.W.lookIn
 rw[p]
 dsimp only
 split
 ·rename_i y q
  rw[q] at e
  exact congrArg some e
 ·rename_i q
  rw[q] at e
  have a:d.toList.any (·.refKey)=false:=by
   rw[List.any_eq_false]
   intro y l
   obtain ⟨z,t,b⟩:=k y (Array.mem_toList_iff.mp l)
   simp [DictEntry.refKey,b]
  have i:¬ d.toList.any (·.refKey)=true:=by rw[a]; exact Cv
  rw[if_neg i]
  exact congrArg some e
theorem ObjM.look{h:Heap}{x c C:Addr}{b:Str->Option Value}(I:ObjM h x c C b):∃a,PySem.W.InstAt h x (PySem.W.instObj C c) C (some a)/\∀name,PySem.W.lookIn name a=some (b name) :=
 let ⟨a,ho,hl⟩:=wJ I.ns
 ⟨a,⟨I.obj,rfl,rfl,ho⟩,hl⟩
theorem rJ.some_of{v:V}{o:Option Value}(r:rJ (some v) o):∃u,o=some u/\RelV v u:=by
 cases o with
 | none=>exact (show False from r).elim
 | some u=>exact ⟨u,rfl,r⟩
section
variable{P:Bp}{w:World}{H g:Hp}{h h':Heap}{a C b:Addr}{fs c:List (Str×V)}
theorem Q9(g:Xs P w H h)(e:H a=some (.ins C b fs)):∃c,ObjM h a b C c/\(∀f,rJ (fs.lookup f) (c f))/\PySem.Within c (fs.map (·.1))/\fs.length<=1000/\H b=some (.own a):=by
 obtain ⟨d,z,i,j,c,n,r,q⟩:=(show Hx P w H h a (.ins C b fs) from g a _ e)
 exact ⟨c,⟨j,n,i⟩,r,q,z,d⟩
end
structure Cls(K:PySem.W.Frag)(C:Addr):Prop where
 pg:PySem.W.plainGet K C Str.empty=true
 hd:PySem.W.hasDictIn K C=true
 po:PySem.W.plainOver K C=true
 sa:PySem.W.findIn K (.ref C) "__setattr__" = some (some (.builtin "object.__setattr__"))
theorem Cls.get{K:PySem.W.Frag}{C:Addr}(c:Cls K C)(f:Str):PySem.W.plainGet K C f=true:=c.pg
section
variable{X:Cx}{d:List (Addr×Obj)}{σ:St}{H:Hp}{s:Ak}{A:Cw}{E:Value->Ak->Prop}{Q:Value->Ak->Prop}{c:Value}{b:Bool}
inductive TyOf (K:PySem.W.Frag) (H:Hp):V->Value->Prop where
 | non:TyOf K H .non (.type "NoneType")
 | bl (x:Bool):TyOf K H (.bl x) (.type "bool")
 | int (i:Int):TyOf K H (.int i) (.type "int")
 | str (x:Str):TyOf K H (.str x) (.type "str")
 | flt (x:UInt64):TyOf K H (.flt x) (.type "float")
 | lst {a:Addr} {xs:List V} (e:H a=some (.lst xs)):TyOf K H (.ref a) (.type "list")
 | frz {a:Addr} {o:Obj} {xs:List V} (e:H a=some (.frz o (.lst xs))):TyOf K H (.ref a) (.type "list")
 | tup {a:Addr} {xs:List V} (e:H a=some (.tup xs)):TyOf K H (.ref a) (.type "tuple")
 | dK {a:Addr} {kvs:List (Lx×V)} (e:H a=some (.dK kvs)):TyOf K H (.ref a) (.type "dict")
 | dT {a:Addr} {kvs:List (List Lx×V)} (e:H a=some (.dT kvs)):TyOf K H (.ref a) (.type "dict")
 | ins {a C dx:Addr} {fs:List (Str×V)} (e:H a=some (.ins C dx fs)) (cl:Cls K C) (ha:PySem.W.findIn K (.ref C) "__class__" = some (some (.builtin "object.__class__")))
   (hn:PySem.W.specialIn K (.builtin "object.__class__") "__get__" = some (some (.builtin "getset_descriptor.__get__"))) (htk:PySem.W.takesIn K (.builtin "object.__class__")=some true)
   (hm:PySem.W.mroIn K C (.type "object")=some true):TyOf K H (.ref a) (.ref C)
theorem yE{x:V}{u t:Value}(I:Inv X d σ H s)(f:RelV x u)(ty:TyOf X.K H x t)(e:PySem.W.kitOne X.K t c=some b)(h:∀F,Q (.bool b) { s with toks:=F }):wpAny (model X.prog X.w) A (call (.builtin "isinstance") [u,c]) Q E s:=by
 cases ty with
 | non=>cases (show u=Qf from f); exact PySem.W.kia_one PySem.W.kitx_none I.kIn Ml e (λz=>nomatch z) h
 | bl y=>cases (show u=Value.bool y from f); exact PySem.W.kia_one PySem.W.kitx_bool I.kIn Ml e (λz=>nomatch z) h
 | int i=>obtain ⟨t,q⟩:=(show ∃t,u=Ld i t from f); cases q; exact PySem.W.kia_one PySem.W.kitx_int I.kIn Ml e (λz=>nomatch z) h
 | str y=>obtain ⟨t,q⟩:=(show ∃t,u=Value.str y t from f); cases q; exact PySem.W.kia_one PySem.W.kitx_str I.kIn Ml e (λz=>nomatch z) h
 | flt y=>obtain ⟨t,q⟩:=(show ∃t,u=Value.float y t from f); cases q; exact PySem.W.kia_one PySem.W.kitx_float I.kIn Ml e (λz=>nomatch z) h
 | @lst a l g =>
  cases (show u=Aq a from f)
  obtain ⟨_,_,n,_,j⟩:=(show Hx X.prog X.w H s.heap a (.lst l) from I.hok a _ g)
  exact PySem.W.kia_one PySem.W.kitx_list I.kIn ⟨_,j,rfl⟩ e (λz=>nomatch z) h
 | @frz a N l g =>
  cases (show u=Aq a from f)
  obtain ⟨_,_,_,n,_,j⟩:=(show Hx X.prog X.w H s.heap a (.frz N (.lst l)) from I.hok a _ g)
  exact PySem.W.kia_one PySem.W.kitx_list I.kIn ⟨_,j,rfl⟩ e (λz=>nomatch z) h
 | @tup a l g =>
  cases (show u=Aq a from f)
  obtain ⟨_,_,_,p⟩:=(show Hx X.prog X.w H s.heap a (.tup l) from I.hok a _ g)
  obtain ⟨o,j,m,_⟩:=p
  exact PySem.W.kia_one PySem.W.kitx_tuple I.kIn ⟨o,j,m⟩ e (λz=>nomatch z) h
 | @dK a k g =>
  cases (show u=Aq a from f)
  obtain ⟨_,_,vs,_,p⟩:=(show Hx X.prog X.w H s.heap a (.dK k) from I.hok a _ g)
  obtain ⟨o,D,M,j,m,_⟩:=p
  exact PySem.W.kia_one PySem.W.kitx_dict I.kIn ⟨o,j,m.1⟩ e (λz=>nomatch z) h
 | @dT a k g =>
  cases (show u=Aq a from f)
  obtain ⟨_,_,l,_,o,D,M,j,m,_⟩:=(show Hx X.prog X.w H s.heap a (.dT k) from I.hok a _ g)
  exact PySem.W.kia_one PySem.W.kitx_dict I.kIn ⟨o,j,m.1⟩ e (λz=>nomatch z) h
 | @ins a C R fs g v B L r G =>
  cases (show u=Aq a from f)
  obtain ⟨P,O,_⟩:=Q9 I.hok g
  obtain ⟨S,J,_⟩:=O.look
  exact PySem.W.kia_one (PySem.W.kitx_own (v.get _) v.hd B L r G) I.kIn J e (λz=>nomatch z) h
end
structure Room(k:Nat)(A:Cw):Prop where
 hd:A.handled=none
 dp:A.depth+3 * k+5<recursionLimit
 un:A.units+16 * k+200<cLine
 gd:A.guards=some []
theorem Room.mono{j k:Nat}{A:Cw}(r:Room k A)(h:j<=k):Room j A:=⟨r.hd,by have:=r.dp; omega,by have:=r.un; omega,r.gd⟩
theorem Room.deeper{k:Nat}{A:Cw}(r:Room (k+1) A)(env:Env):Room k (A.deeper env) :=
 ⟨r.hd,by have:=r.dp; show A.depth+1+3 * k+5<_; omega,by have:=r.un; show A.units+3+16 * k+200<_; omega,r.gd⟩
theorem Room.depth{k:Nat}{A:Cw}(r:Room k A):A.depth<recursionLimit:=by have:=r.dp; omega
theorem Room.units{k:Nat}{A:Cw}(r:Room k A):A.units+64<cLine:=by have:=r.un; omega
def CO:TA:=λ_ H Q=>Q [] H
def IY(d:TE)(tr:TA):TA:=λa H Q=>d a H λx b=>tr a b λc e=>Q (x::c) e
section
variable{X:Cx}{e:Expr}{es:List Expr}{a:TE}{t:TA}{pos:Pos}
theorem Qm:PA X [] CO:=λ_ _ _ _ H Q I h=>Calls.spliced_nil ⟨[],H,I,.nil,h⟩
theorem Jc(i:PE X e a)(p:PA X es t)(l:Cc (e::es) X.env=(false,eval e X.env)::Cc es X.env:=by rfl):PA X (e::es) (IY a t):=by
 intro pos b s d H Q I h
 rw[l]
 show wpAny _ _ (spliced ((false,eval e X.env)::Jr pos (Cc es X.env))) _ _ s
 refine Calls.spliced_cons (Ir (i b s d H _ I h) λu r c => ?_)
 obtain ⟨x,g,o,j,v⟩ := c
 exact Ir (p pos b r d g _ o v) λw y ⟨m,q,k,n,f⟩=>⟨x::m,q,k,.cons j n,f⟩
def LJ(t:TA):TE:=λc H Q=>t c H λb a=>b.length<=Bf/\∀p,a p=none->Q (.ref p) (upd a p (.tup b))
def JS(t:TA):TE:=λc H Q=>t c H λb a=>b.length<=Bf/\∀p,a p=none->Q (.ref p) (upd a p (.lst b))
theorem FF{x1}(h:PA X es t):PE X (.Tuple es x1 pos) (LJ t):=by
 intro a s j H Q I k
 refine wpAny_Tuple_spliced (Ir (h pos a s j H _ I k) λl c ⟨i,d,f,r,z,q⟩=>⟨by rw[<- r.length]; exact z,?_⟩)
 have g:d c.heap.objs.size=none:=f.hok.fresh (Ah _)
 refine ⟨.ref c.heap.objs.size,upd d c.heap.objs.size (.tup i),f.laid (t':=c.toks) (λb u e=>Aj _ e) (Ah _) ?_,rfl,q _ g⟩
 exact ⟨z,l,r,⟨_,Bi _ rfl,rfl,_,rfl⟩⟩
theorem rB(h:PA X es t):PE X (.List es pos) (JS t):=by
 intro a s j H Q I k
 refine wpAny_List_spliced (Ir (h pos a s j H _ I k) λl c ⟨i,d,f,r,z,q⟩=>⟨by rw[<- r.length]; exact z,?_⟩)
 have g:d c.heap.objs.size=none:=f.hok.fresh (Ah _)
 refine ⟨.ref c.heap.objs.size,upd d c.heap.objs.size (.lst i),f.laid (t':=c.toks) (λb u e=>Aj _ e) (Ah _) ?_,rfl,q _ g⟩
 exact ⟨z,l,0,r,Bi _ rfl⟩
end
abbrev Sp:=List V->Hp->VK->XK->Prop
abbrev zA:=List Env->Hp->Ak->XK->Value->Ak->Prop
structure Env0(P:Bp)(w:World)(K:PySem.W.Frag)(mg:Str->Option Value)(base:Heap)(A:Cw)(outer:List Env)(s:Ak)(H:Hp):Prop where
 frames:A.frames=some outer
 mod:Mod K mg base
 bs:∀b o,base.get? b=some o->s.heap.get? b=some o/\H b=none
 bsz:base.objs.size<=s.heap.objs.size
 funs:s.heap.FunFrames base outer
 frf:∀b∈wC outer,H b=none
 hok:Xs P w H s.heap
 bare:Tr s.gens
 tab:n5 K mg base H
def CE(outer:List Env)(P:Bp)(w:World)(H:Hp)(s:Ak)(Q:VK)(u:Value)(s':Ak):Prop :=
 ∃v a,s'.os=s.os/\Tr s'.gens/\Un (wC outer) [] H a s.heap s'.heap/\Xs P w a s'.heap/\RelV v u/\Q v a
def CR(CX:zA)(outer:List Env)(P:Bp)(w:World)(H:Hp)(s:Ak)(Q:VK)(E:XK)(r:Result)(s':Ak):Prop :=
 match r with
 | .ok (.ret u)=>CE outer P w H s Q u s'
 | .ok _=>False
 | .error e=>CX outer H s E e s'
structure FnOk(P:Bp)(w:World)(K:PySem.W.Frag)(mg:Str->Option Value)(base:Heap)(CX:zA)(k:Nat)(f:Addr)(fd:Cz)(ps:List Str)(sp:Sp):Prop where
 len:∀vs H Q E,sp vs H Q E->vs.length=ps.length
 run:∀(A:Cw) (outer:List Env) (s:Ak) (H:Hp) (args:Args) (us:List Value) (vs:List V) (Q:VK) (E:XK),Room k A->Env0 P w K mg base A outer s H->BindsTo s fd args (ps.zip us)->Fz vs us->sp vs H Q E ->
  Na (model P w) A (.call (.ref f) args) (CR CX outer P w H s Q E) s
theorem FnOk.imp{P:Bp}{w:World}{K:PySem.W.Frag}{mg:Str->Option Value}{base:Heap}{CX:zA}{k:Nat}{f:Addr}{d:Cz}{ps:List Str}{sp b:Sp}(F:FnOk P w K mg base CX k f d ps sp)(h:∀vs H Q E,b vs H Q E->sp vs H Q E):FnOk P w K mg base CX k f d ps b :=
 ⟨λvs H Q E q=>F.len vs H Q E (h _ _ _ _ q),λA a s H c m vs Q E j l i e g=>F.run A a s H c m vs Q E j l i e (h _ _ _ _ g)⟩
section
variable{X:Cx}{a:List (Addr×Obj)}{σ:St}{H:Hp}{s s':Ak}
theorem Inv.env0(I:Inv X a σ H s):Env0 X.prog X.w X.K X.mg X.base X.A X.stack s H :=
 ⟨I.ok.frames,I.ok.mod,I.bs,Co I.ok.bsz I.sz,I.stack,I.stkFree,I.hok,I.bare,I.ok.tab.un I.base⟩
theorem Inv.after{Q:VK}{u:Value}(I:Inv X a σ H s)(h:CE X.stack X.prog X.w H s Q u s'):EP X a σ Q u s':=by
 obtain ⟨v,j,i,c,un,e,r,q⟩:=h
 obtain ⟨k,g,d,t,f⟩:=s'
 obtain rfl:f=s.os:=i
 exact ⟨v,j,I.call (h':=k) (g':=g) (d':=d) (t':=t) (ch:=[]) un e c (λb z=>absurd z (by simp)),r,q⟩
end
def AH(sp:Sp)(a:List V)(E:XK)(t:TA):TE:=λc H Q=>t c H λvs b=>sp (vs++a) b Q E
def Binds(K:PySem.W.Frag)(c:Cz)(ps:List Str)(b:List Value):Prop :=
 ∀(s:Ak) (a:List Value),K.In s.heap->(a++b).length=ps.length->BindsTo s c ⟨a,[]⟩ (ps.zip (a++b))
theorem Binds.all{K:PySem.W.Frag}{a:Cz}{ps:List Str}(h:∀us:List Value,us.length=ps.length->bindArgs a ⟨us,[]⟩=pure (ps.zip us)):Binds K a ps []:=λs us _ b=>by
 rw[Fl] at b ⊢
 exact .of_eq (h us b)
def Sq(CX:zA)(X:Cx)(E:XK):Prop:=∀(a:List (Addr×Obj)) (c:St) (H:Hp) (s:Ak) (e:Value) (b:Ak),Inv X a c H s->CX X.stack H s E e b->X.xe e b
section
variable{X:Cx}{CX:zA}{k:Nat}{f C:Addr}{c:Cz}{ps:List Str}{sp:Sp}{a:List V}{b:List Value}{E:XK}{x m:Str}{p pos d:Pos}{e o:Expr}{es:List Expr}{g:TE}{t:TA}
theorem zN{d:List (Addr×Obj)}{σ:St}{H:Hp}{s:Ak}{Q:VK}{us:List Value}{vs:List V}(F:FnOk X.prog X.w X.K X.mg X.base CX k f c ps sp)(n:Room k X.A)(hb:Binds X.K c ps b)(hd:Fz a b)(m:Sq CX X E)(I:Inv X d σ H s)(r:Fz vs us)(h:sp (vs++a) H Q E):wpAny (model X.prog X.w) X.A (call (.ref f) us) (EP X d σ Q) X.xe s:=by
 have i:Fz (vs++a) (us++b):=r.append hd
 have o:(us++b).length=ps.length:=by rw[<- i.length]; exact F.len _ _ _ _ h
 refine wpAny_call (Jj (F.run X.A X.stack s H ⟨us,[]⟩ (us++b) (vs++a) Q E n I.env0 (hb s us I.kIn o) i h) λr l g=>?_)
 cases r with
 | error e=>exact m d σ H s e l I g
 | ok j =>
  cases j with
  | ret u=>exact I.after g
  | next=>exact Ky g
  | brk=>exact Ky g
  | cont=>exact Ky g
theorem jN(F:FnOk X.prog X.w X.K X.mg X.base CX k f c ps sp)(z:Room k X.A)(l:Gl X x)(o:X.mg x=some (.ref f))(n:PySem.W.keepIn X.K (.ref f)=true)(hb:Binds X.K c ps b)(hd:Fz a b)(v:Sq CX X E)(m:PA X (e::es) t)(g:(x == ("__debug__" : Str))=false:=by decide)(u:Cc (e::es) X.env=(false,eval e X.env)::Cc es X.env:=by rfl)(i:(Jr pos (Cc es X.env)).any (·.1)=false:=by rfl):PE X (.Call (.Name x p) (e::es) [] pos) (AH sp a E t):=by
 intro d s y H Q I h
 refine Se (uY I l o ?_ g)
 refine PySem.W.callWith_K (h₀:=X.base) I.ok.mod.kin n (Ir (m pos d s y H _ I h) λD C ⟨vs,B,j,r,q⟩=>⟨j.kIn,?_⟩) u i
 exact zN F z hb hd v j r q
theorem i8(F:FnOk X.prog X.w X.K X.mg X.base CX k f c ps sp)(m:Room k X.A)(g:Gl X x)(j:X.mg x=some (.ref f))(i:PySem.W.keepIn X.K (.ref f)=true)(hb:Binds X.K c ps b)(hd:Fz a b)(l:Sq CX X E)(d:(x == ("__debug__" : Str))=false:=by decide):PE X (.Call (.Name x p) [] [] pos) (AH sp a E CO):=by
 intro e s n H Q I h
 refine Se (uY I g j ?_ d)
 exact PySem.W.callWith_K0 I.kIn i (zN (us:=[]) F m hb hd l I .nil h)
end
structure FnScope(N P:List Str)(sc:Scope):Prop where
 kind:sc.kind=.function
 co:sc.isCoroutine=false
 gen:sc.isGenerator=false
 nd:N.Nodup
 pre:N.take P.length=P
 par:∀x∈P,sc.names.lookup x=some .local\/sc.names.lookup x=some .cell
 nofree:∀y∈sc.names,y.2≠.free
theorem iE{a:Str->Option Qg}{x:Str}:∀{binds:List (Str×Value)} {m:Str->Option Value},(∀v,(x,v)∉binds)->bindL a binds m x=m x
 | [],_,_=>rfl
 | (n,v)::r,m,h=>by
  unfold bindL
  rw[iE λw b=>h w (Ad _ b)]
  split
  ·have : x≠n:=by rintro rfl; exact h v Ab
   simp [this]
  ·rfl
theorem iC{a:Str->Option Qg}{x:Str}:∀{binds:List (Str×Value)} {m:Str->Option Value},(∀v,(x,v)∉binds)->bindC a binds m x=m x
 | [],_,_=>rfl
 | (n,v)::r,m,h=>by
  unfold bindC
  rw[iC λw b=>h w (Ad _ b)]
  split
  ·rfl
  ·have : x≠n:=by rintro rfl; exact h v Ab
   simp [this]
theorem gV{a:Str->Option Qg}{x:Str}{v:Value}:∀{P:List Str} {vs:List Value} {i:Nat} {m:Str->Option Value},P.Nodup->P[i]? = some x->vs[i]? = some v->a x=some .local->bindL a (P.zip vs) m x=some v
 | [],_,_,_,_,h,_,_=>by simp at h
 | _::_,[],_,_,_,_,h,_=>by simp at h
 | p::P,w::vs,0,m,nd,h1,h2,hk=>by
  simp at h1 h2; subst h1; subst h2
  show bindL a ((p,w)::P.zip vs) m p=_
  unfold bindL
  rw[iE λv b=>(Cg.mp nd).1 (List.of_mem_zip b).1,if_pos hk]
  simp
 | p::P,w::vs,i+1,m,nd,h1,h2,hk=>by
  show bindL a ((p,w)::P.zip vs) m x=_
  unfold bindL
  exact gV (i:=i) (Cg.mp nd).2 (by simpa using h1) (by simpa using h2) hk
theorem jE{a:Str->Option Qg}{x:Str}{v:Value}:∀{P:List Str} {vs:List Value} {i:Nat} {m:Str->Option Value},P.Nodup->P[i]? = some x->vs[i]? = some v->a x≠some .local->bindC a (P.zip vs) m x=some v
 | [],_,_,_,_,h,_,_=>by simp at h
 | _::_,[],_,_,_,_,h,_=>by simp at h
 | p::P,w::vs,0,m,nd,h1,h2,hk=>by
  simp at h1 h2; subst h1; subst h2
  show bindC a ((p,w)::P.zip vs) m p=_
  unfold bindC
  rw[iC λv b=>(Cg.mp nd).1 (List.of_mem_zip b).1,if_neg hk]
  simp
 | p::P,w::vs,i+1,m,nd,h1,h2,hk=>by
  show bindC a ((p,w)::P.zip vs) m x=_
  unfold bindC
  exact jE (i:=i) (Cg.mp nd).2 (by simpa using h1) (by simpa using h2) hk
def start(N:List Str)(vs:List V):St:=vs.map some++Jp (N.length - vs.length) none
def Pv(CX:zA)(P:Bp)(w:World)(K:PySem.W.Frag)(mg:Str->Option Value)(base:Heap)(N:List Str)(b:Str)(a:Scope)(f:Addr)(d:Value)(A:Cw)(outer:List Env)(s:Ak)(H:Hp)(E:XK):Cx where
 prog:=P
 w:=w
 K:=K
 mg:=mg
 base:=base
 A:=A.deeper (Us b a s.heap.objs.size f d)
 N:=N
 s₀:=s
 H₀:=H
 env:=Us b a s.heap.objs.size f d
 outer:=outer
 stack:=Us b a s.heap.objs.size f d::outer
 ex:=[]
 calm:=true
 fn:=λ_=>true
 pn:=[]
 xe:=λe g=>wpAny (model P w) (A.deeper (Us b a s.heap.objs.size f d)) (leaving (Us b a s.heap.objs.size f d) e) (λ_ c=>CX outer H s E e c) (λh c=>CX outer H s E h c) g
theorem qD{a:Scope}{n:Nat}{x:Str}(h:a.names.lookup x=some .cell):∃c,(Fq n a.names []).lookup x=some c:=by
 have q:=PySem.W.cellsFrom_some a.names n [] (.inl h)
 exact Rl.mp q
theorem xQ{CX:zA}{P:Bp}{w:World}{K:PySem.W.Frag}{mg:Str->Option Value}{base:Heap}{N ps:List Str}{g:Str}{d:Scope}{f:Addr}{D:Value}{A:Cw}{outer:List Env}{s F:Ak}{H:Hp}{E:XK}{us:List Value}{vs:List V}(S:FnScope N ps d)(hd:A.handled=none)(l:Env0 P w K mg base A outer s H)(hl:vs.length=ps.length)(r:Fz vs us)(x:InCallC s s.heap.objs.size (bindL (Us g d s.heap.objs.size f D).kindOf (ps.zip us) λ_=>none) (Fq (s.heap.objs.size+1) d.names []) (bindC (Us g d s.heap.objs.size f D).kindOf (ps.zip us) λ_=>none) F):Inv (Pv CX P w K mg base N g d f D A outer s H E) [] (start N vs) H F:=by
 have M:ps.length<=N.length:=by have:=congrArg Iy S.pre; rw[Cy] at this; omega
 obtain ⟨B,O,rfl,G⟩:=x.done
 have m:∀b:Addr,b∉(Pv CX P w K mg base N g d f D A outer s H E).ex:=λb z=>absurd (show b∈([]:List Addr) from z) (by simp)
 refine ⟨⟨l.mod,S.kind,rfl,rfl,Ah _,λy z c B j=>?_,λy hy=>?_,λy c _ h=>?_,λ_=>hd,Around.frames_deeper l.frames,.inr ⟨rfl,rfl⟩,λb z=>absurd z (m b),l.bs,l.bsz,λb _ _=>m b,λb z=>absurd z (m b),l.funs,l.frf,l.tab⟩,
  rfl,l.bare,Un.kept G,⟨_,x.toInCall.ns,λi y v B j Q=>?_⟩,λy c h=>⟨_,x.cell y c h⟩,l.hok.fresh (Ah _),λy c h=>?_,λp t=>absurd (show p∈([]:List (Addr×Obj)) from t) (by simp),l.hok.kept G,?_⟩
 ·exact name_of_addr x.apart (PySem.mem_of_lookup B) (PySem.mem_of_lookup j)
 ·have hy:d.names.lookup y=some .cell\/d.names.lookup y=some .free:=hy
  rcases hy with hy | hy
  ·exact qD hy
  ·exact absurd rfl (S.nofree _ (PySem.mem_of_lookup hy))
 ·exact Lk (x.above y c (PySem.mem_of_lookup h))
 ·have C:i<vs.length:=by
   unfold start at j
   by_cases C:i<vs.length
   ·exact C
   ·rw[Eo (by simpa using C)] at j
    rw[List.getElem?_replicate] at j
    split at j <;> cases j
  have J:vs[i]? = some v:=by
   unfold start at j
   rw[Gr (by simpa using C),Br] at j
   cases e:vs[i]? with
   | none=>rw[e] at j; cases j
   | some a=>rw[e] at j; cases j; rfl
  obtain ⟨u,I,L⟩:=r.get J
  have t:ps[i]? = some y:=by
   rw[<- S.pre,Hb (by omega)]; exact B
  have o:ps.Nodup:=by rw[<- S.pre]; exact S.nd.sublist (Ks _ _)
  refine ⟨u,L,?_⟩
  rcases S.par y (Aw t) with k | k
  ·exact .inl ⟨k,gV o t I k⟩
  ·obtain ⟨c,e⟩:=qD (n:=s.heap.objs.size+1) k
   refine .inr ⟨.inl k,c,e,?_⟩
   have q:=x.cell y c e
   rw[jE o t I (by show d.names.lookup y≠_; rw[k]; decide)] at q
   exact q
 ·exact l.hok.fresh (Lk (x.above y c (PySem.mem_of_lookup h)))
 ·unfold start
  show _=N.length
  rw[Bh,Ac,List.length_replicate]
  omega
theorem FZ{CX:zA}{P:Bp}{w:World}{K:PySem.W.Frag}{mg:Str->Option Value}{base:Heap}{k:Nat}{f:Addr}{name c:Str}{g:Arguments}{h:List Stmt}{a:Scope}{dV kV D X d ct oc:Value}{T od:Option Addr}{F:Array (Option Value)}{N ps:List Str}{sp:Sp}(lk:K.lookup f=some ⟨oc,od,.func (PySem.W.fnOf name c g h a dV kV D X T d ct),F⟩)(R:PySem.W.codeIn K d c=true)(S:FnScope N ps a)(len:∀vs H Q E,sp vs H Q E->vs.length=ps.length)(m:∀(A:Cw) (outer:List Env) (s:Ak) (H:Hp) (vs:List V) (Q:VK) (E:XK),Room k (A.deeper (Us c a s.heap.objs.size f d))->sp vs H Q E->∃t,sJ (Pv CX P w K mg base N c a f d A outer s H E) h t/\t { nx:=λ_ j=>Q .non j,rt:=Q } (start N vs) H):FnOk P w K mg base CX (k+1) f (PySem.W.fnOf name c g h a dV kV D X T d ct) ps sp:=by
 refine ⟨len,λA outer s H Z us vs Q E M C hb r z=>?_⟩
 have hl:=len _ _ _ _ z
 have Y:K.In s.heap:=C.mod.kin.keeps λb o e=>(C.bs b o e).1
 have O:s.heap.NoLimit:=C.mod.nolimit.keeps λb o e=>(C.bs b o e).1
 have l:∀y∈ps.zip us,a.names.lookup y.1=some .local\/(a.names.lookup y.1=some .cell/\((Fq (s.heap.objs.size+1) a.names []).lookup y.1).isSome=true):=λ⟨n,v⟩ hy=>by
  rcases S.par n (List.of_mem_zip hy).1 with q | q
  ·exact .inl q
  ·exact .inr ⟨q,PySem.W.cellsFrom_some _ _ _ (.inl q)⟩
 refine codeAny_call_function M.depth (Y _ _ lk) rfl S.co S.gen rfl (PySem.W.codeRec_of Y R) (hb _ _ _ _ ?_)
 refine wpAny_newFunctionEnv_cells S.kind l λh0 he U x=>?_
 subst he
 refine ⟨O.keeps x.toInCall.keep,codeAny_func ?_⟩
 obtain ⟨t,ht,hq⟩:=m A outer s H vs Q E (M.deeper _) z
 have I:Inv (Pv CX P w K mg base N c a f d A outer s H E) [] (start N vs) H U:=xQ S M.hd C hl r x
 refine Hg (ht [] U (start N vs) H _ I hq) (λfl L p=>?_) λe L p=>p
 have B:∀{i:St} {j:Hp} {v:V} {u:Value},Inv (Pv CX P w K mg base N c a f d A outer s H E) [] i j L->RelV v u->Q v j->CE outer P w H s Q u L :=
  λ{i j v u} J G q=>⟨v,j,J.os,J.bare,J.base,J.hok,G,q⟩
 cases fl with
 | ret u =>
  obtain ⟨v,i,j,J,G,q⟩:=p
  exact B J G q
 | next =>
  obtain ⟨i,j,J,q⟩:=p
  exact B (v:=V.non) (u:=Qf) J rfl q
 | brk =>
  obtain ⟨_,_,_,q⟩:=p
  exact Ky q
 | cont =>
  obtain ⟨_,_,_,q⟩:=p
  exact Ky q
section
variable{X:Cx}{x:Str}{p pos:Pos}{e:Expr}{es:List Expr}{t:TA}{id T:String}{r:List V->Hp->VK->Prop}
def KO(r:List V->Hp->VK->Prop)(t:TA):TE:=λb H Q=>t b H λvs a=>r vs a Q
theorem eI(n:Jh X (.builtin id) r)(g:Gl X x)(o:X.mg x=none)(f:Kq x=some (.builtin id))(i:PA X (e::es) t)(u:x ≠ "__name__" := by decide)(b:(x == ("__debug__" : Str))=false:=by decide)(m:Cc (e::es) X.env=(false,eval e X.env)::Cc es X.env:=by rfl)(c:(Jr pos (Cc es X.env)).any (·.1)=false:=by rfl):PE X (.Call (.Name x p) (e::es) [] pos) (KO r t):=by
 intro a s d H Q I h
 refine Se (dY I g o f ?_ u b)
 exact PyProof.Rows.callWith_builtin1 (Ir (i pos a s d H _ I h) λl v ⟨vs,k,q,j,w⟩=>n a v d k vs l Q q j w) m c
theorem Qz(n:Jh X (.type T) r)(g:Gl X x)(o:X.mg x=none)(f:Kq x=some (.type T))(i:PA X (e::es) t)(u:x ≠ "__name__" := by decide)(b:(x == ("__debug__" : Str))=false:=by decide)(m:Cc (e::es) X.env=(false,eval e X.env)::Cc es X.env:=by rfl)(c:(Jr pos (Cc es X.env)).any (·.1)=false:=by rfl):PE X (.Call (.Name x p) (e::es) [] pos) (KO r t):=by
 intro a s d H Q I h
 refine Se (dY I g o f ?_ u b)
 exact Nr (Ir (i pos a s d H _ I h) λl v ⟨vs,k,q,j,w⟩=>n a v d k vs l Q q j w) m c
end
end L2
namespace HT
open PySem PyProof.Rows
def lexLt:List Int->List Int->Bool
 | [],[]=>false
 | [],_::_=>true
 | _::_,[]=>false
 | x::xs,y::ys=>if x=y then lexLt xs ys else decide (x<y)
theorem lexLt_cons(x y:Int)(xs ys:List Int):lexLt (x::xs) (y::ys)=if x=y then lexLt xs ys else decide (x<y):=rfl
theorem lexLt_nil_nil:lexLt [] []=false:=rfl
theorem lexLt_nil_cons(y:Int)(ys:List Int):lexLt [] (y::ys)=true:=rfl
theorem lexLt_cons_nil(x:Int)(xs:List Int):lexLt (x::xs) []=false:=rfl
theorem G4(A:Cw)(s:Ak)(a:Int)(t:Tok)(c:Int)(u:Tok):∃e,Nt A s (.int a t) (.int c u) e/\(e=true↔a=c) :=
 ⟨(a == c),SeqAt.EqAt.int_int a t c u,by simp⟩
theorem C6(A:Cw)(s:Ak)(a:Int)(t:Tok)(c:Int)(u:Tok)(prog:Bp)(w:World)(E:Value->Ak->Prop)(Q:Value->Ak->Prop)(h:Q (.bool (decide (a<c))) s):wpAny (model prog w) A (richCompare .Lt (.int a t) (.int c u)) Q E s :=
 (PyProof.Rows.lt_int h:wpAny (model prog w) A (Hh .Lt (.int a t) (.int c u)) Q E s)
section
open PySem.SeqAt
open PySem.AutoSeq1 (wpAny_loadPart')
open PySem.MeetsSeq PySem.MeetsSeq2 PySem.MeetsSeq3
theorem tuple_lt_ints(l b:Addr)(i f:Array Value)(n U:Nat)(Y N:Option Addr)(W M:Array (Option Value))(ns G:List Int)(Q:Fg i.toList ns)(S:Fg f.toList G):Meets (Builtin.«tuple.__lt__» ⟨[.ref l,.ref b],[]⟩) (λ_ R s=>s.heap.get? l=some { cls:=.type "tuple",dict:=Y,data:=.seq i n,slots:=W }/\s.heap.get? b=some { cls:=.type "tuple",dict:=N,data:=.seq f U,slots:=M }/\R (.ok (.ret (.bool (lexLt ns G)))) s) :=
 .of_wp λv w A R s h=>by
  obtain ⟨H,g,d,J,F⟩:=s; obtain ⟨Z,T,h⟩:=h
  have f2:=AutoSeq1.sub_tuple_tuple
  have z1:i.size=ns.length:=by rw[<- Q.length]; simp
  have z2:f.size=G.length:=by rw[<- S.length]; simp
  wp_walk using Yc Z,Yc T,Vg _ (λGg b L=>b.1=none/\L=⟨H,g,d,J,F⟩/\∃(vs I:List Value) (k m:List Int),Gg=vs.zip I /\
   Fg vs k/\Fg I m/\k.length+f.size=m.length+i.size/\R (.ok (.ret (.bool (lexLt k m)))) ⟨H,g,d,J,F⟩) _
  case turn =>
   (rintro ⟨y,x⟩ Gg b L O; obtain ⟨B,rfl,vs,I,k,m,o,C,p,j,r⟩ := O)
   cases C with
   | nil=>rw[List.zip_nil_left] at o; cases o
   | cons a t E =>
    cases p with
    | nil=>rw[List.zip_nil_right] at o; cases o
    | cons c u D =>
     rw[Qo] at o
     injection o with hyx hrest
     injection hyx with hy hx
     subst hy hx
     rw[lexLt_cons] at r
     simp only[Bd] at j
     obtain ⟨e,X,z⟩:=G4 A.in1 ⟨H,g,d,J,F⟩ a t c u
     refine Aa (X v w _ _ ?_)
     cases e with
     | true =>
      rw[if_pos (z.mp rfl)] at r
      wp_walk
      exact ⟨rfl,rfl,_,_,_,_,hrest,E,D,by omega,r⟩
     | false =>
      rw[if_neg (λq=>absurd (z.mpr q) Cv)] at r
      have K:=C6 A.in1 ⟨H,g,d,J,F⟩ a t c u v w
      wp_walk using K
      exact ⟨_,rfl,by simpa using r⟩
  case fin =>
   (rintro ⟨b1,b2⟩ L O; obtain ⟨B,rfl,vs,I,k,m,o,C,p,j,r⟩ := O)
   simp only at B
   subst B
   have P:lexLt k m=decide (i.size<f.size):=by
    cases C with
    | nil =>
     cases p with
     | nil =>
      simp only[Kc] at j
      rw[lexLt_nil_nil]
      exact (decide_eq_false (by omega)).symm
     | cons c u V =>
      simp only[Kc,Bd] at j
      rw[lexLt_nil_cons]
      exact (decide_eq_true (by omega)).symm
    | cons a t P =>
     cases p with
     | nil =>
      simp only[Kc,Bd] at j
      rw[lexLt_cons_nil]
      exact (decide_eq_false (by omega)).symm
     | cons c u V =>
      rw[Qo] at o
      cases o
   rw[P] at r
   wp_walk
   exact ⟨_,rfl,by simpa [Builtin.Tuple.tupleCompareSizes] using r⟩
  case h =>
   exact ⟨rfl,rfl,i.toList,f.toList,ns,G,rfl,Q,S,by omega,h⟩
end
section
variable{prog:Bp}{w:World}{A:Cw}{E:Value->Ak->Prop}{s:Ak}
theorem lt_tupInts{l b:Addr}{c a:Array Value}{ns e:List Int}{Q:Value->Ak->Prop}(hl:IsTup s.heap l c)(hb:IsTup s.heap b a)(z:Fg c.toList ns)(B:Fg a.toList e)(t:A.units<cLine)(h:Q (.bool (lexLt ns e)) s):wpAny (model prog w) A (Hh .Lt (.ref l) (.ref b)) Q E s:=by
 obtain ⟨⟨y,C,p,v⟩,q,o,n,r⟩:=id hl
 obtain ⟨⟨m,k,j,i⟩,d,f,u,g⟩:=id hb
 simp only at o r f g
 subst o r f g
 exact richCompare_meets_room (op:=.Lt) ⟨_,q,rfl⟩ ⟨_,d,rfl⟩ PySem.F.slot_tuple_lt PySem.F.entry_tuple_lt (PySem.F.args_tuple_lt_2 _ _) (tuple_lt_ints l b c a n u C k v i ns e z B)
  ⟨q,d,show Value.bool (lexLt ns e)≠Value.notImplemented/\Q (.bool (lexLt ns e)) s from ⟨(λx=>nomatch x),h⟩⟩ t
theorem cat_tup{t b:Addr}{vs ws:List Value}{Q:Value->Ak->Prop}(u:IsTup s.heap t vs.toArray)(hb:IsTup s.heap b ws.toArray)(k:vs≠[])(h1:ws=[]->Q (.ref t) s)(v:ws≠[]->Q (.ref s.heap.objs.size) { s with heap:=s.heap.push { cls:=.type "tuple",data:=.seq (vs++ws).toArray } })(hsz:vs.length+ws.length<=Bf):wpAny (model prog w) A (Kw .Add (.ref t) (.ref b)) Q E s:=by
 obtain ⟨⟨cls,q,data,p⟩,h,m,n,r⟩:=id u
 obtain ⟨⟨l,d,j,c⟩,a,f,o,g⟩:=id hb
 simp only at m r f g
 subst m r f g
 have e:vs.toArray++ws.toArray=(vs++ws).toArray:=by simp
 by_cases i:ws=[]
 ·exact concat_meets ⟨_,h,rfl⟩ ⟨_,a,rfl⟩ mS seq_tuple_add PySem.F.slot_tuple_add PySem.F.entry_tuple_add (PySem.F.args_tuple_add_2 _ _)
   (tuple_addW1 t b vs.toArray ws.toArray n o q d p c (by simpa using k) (by simp [i])) ⟨h,a,h1 i⟩
 ·refine concat_meets ⟨_,h,rfl⟩ ⟨_,a,rfl⟩ mS seq_tuple_add PySem.F.slot_tuple_add PySem.F.entry_tuple_add (PySem.F.args_tuple_add_2 _ _)
   (tuple_addW2 t b vs.toArray ws.toArray n o q d p c (by simpa using k) (by simpa using i) (by rw[Ar,Ar]; exact hsz)) ⟨h,a,?_⟩
  rw[e]
  exact v i
def sIx(n d:Nat):Option Int->Nat
 | none=>d
 | some v=>if v<0 then (v+(n:Int)).toNat else min v.toNat n
theorem sIx_none(n d:Nat):sIx n d none=d:=rfl
theorem sIx_nat(n d k:Nat):sIx n d (some (k:Int))=min k n:=by
 show (if (k:Int)<0 then ((k:Int)+(n:Int)).toNat else min (k:Int).toNat n)=min k n
 rw[if_neg (by omega),Dl]
theorem DY(n d:Nat)(hd:d<=n)(o:Option Int):sIx n d o<=n:=by
 cases o with
 | none=>exact hd
 | some v =>
  show (if v<0 then (v+(n:Int)).toNat else min v.toNat n)<=n
  by_cases a:v<0
  ·rw[if_pos a]; omega
  ·rw[if_neg a]; exact Nat.min_le_right _ _
theorem tQ(v:Int)(n d:Nat):(if v<0 then max (v+(n:Int)) 0 else min v (n:Int))=((sIx n d (some v):Nat):Int):=by
 show (if v<0 then max (v+(n:Int)) 0 else min v (n:Int))=(((if v<0 then (v+(n:Int)).toNat else min v.toNat n):Nat):Int)
 by_cases a:v<0
 ·simp only[if_pos a]; omega
 ·simp only[if_neg a]; omega
theorem sT(lo a:Option Int)(n:Nat):Oi lo a 1 (n:Int)=(((sIx n 0 lo:Nat):Int),((sIx n n a:Nat):Int)):=by
 have b:¬ ((1:Int)<0):=by omega
 unfold Oi
 simp only[b,if_false]
 refine Prod.ext ?_ ?_
 ·cases lo with
  | none=>rfl
  | some v=>exact tQ v n 0
 ·cases a with
  | none=>rfl
  | some v=>exact tQ v n n
theorem sX(i j:Nat):Ke (i:Int) (j:Int) 1=j - i:=by
 unfold Ke
 have a:(1:Int) > 0:=by omega
 simp only[a,if_true,Int.ediv_one]
 split <;> omega
theorem cZ{v:Value}{o:Option Int}{Q:Option Int->Ak->Prop}(p:aV v o)(h:Q o s):wpAny (model prog w) A (Builtin.Slice.slicePartIndex v) Q E s:=by
 cases p with
 | none=>exact slicePart_none h
 | int i t=>exact slicePart_int h
theorem sliceApplied_gen{f:Addr}{e d:Value}{lo c:Option Int}{n:Nat}{Q:Int×Int×Nat->Ak->Prop}(i:s.heap.IsSliceOf f e d .none)(j:aV e lo)(k:aV d c)(h:Q (((sIx n 0 lo:Nat):Int),1,sIx n n c - sIx n 0 lo) s):wpAny (model prog w) A (Yp (.ref f) (pure (n:Int))) Q E s:=by
 obtain ⟨l,a,g,b⟩:=id i
 unfold Yp Builtin.Slice.sliceFields
 refine Aa (Aa (wpAny_field a b (x:=e) rfl (Aa (wpAny_field a b (x:=d) rfl (Aa (wpAny_field a b (x:=.none) rfl (Ag ?_)))))))
 refine Aa (slicePart_none ?_)
 show wpAny _ _ (if ((1:Int) == 0)=true then _ else _) _ _ s
 rw[if_neg (by decide)]
 refine Aa (cZ j (Aa (cZ k (Aa (Ag ?_)))))
 show wpAny _ _ (match Oi lo c 1 (n:Int) with | (lo,c)=>pure (lo,(1:Int),Ke lo c 1)) _ _ s
 rw[sT lo c n]
 show wpAny _ _ (pure (((sIx n 0 lo:Nat):Int),(1:Int),Ke ((sIx n 0 lo:Nat):Int) ((sIx n n c:Nat):Int) 1)) _ _ s
 rw[sX]
 exact Ag h
theorem zT(xs:Array Value)(i k:Nat):((Bg k).filterMap λ(m:Nat)=>xs[((i:Int)+(m:Int) * 1).toNat]?).toArray=((xs.toList.drop i).take k).toArray:=by
 have e:(λ(m:Nat)=>xs[((i:Int)+(m:Int) * 1).toNat]?)=λm=>xs[i+m]?:=by
  funext m
  have : ((i:Int)+(m:Int) * 1).toNat=i+m:=by omega
  rw[this]
 rw[e]
 have:=pick_run xs i k
 rw[List.filterMap_map] at this
 have a:((λx=>xs[x]?) ∘ λx=>i+x)=λm=>xs[i+m]?:=rfl
 rw[a] at this
 rw[this]
theorem getItem_tuple_cut{t j:Addr}{a:Array Value}{k n:Value}{lo c:Option Int}{Q:Value->Ak->Prop}(d:IsTup s.heap t a)(l:s.heap.IsSliceOf j k n .none)(r:aV k lo)(o:aV n c)(hw:¬ (sIx a.size 0 lo=0/\sIx a.size a.size c=a.size))(h:Q (.ref s.heap.objs.size) { s with heap:=s.heap.push { cls:=.type "tuple",data:=.seq ((a.toList.drop (sIx a.size 0 lo)).take (sIx a.size a.size c - sIx a.size 0 lo)).toArray } })(hsz:a.size<=Bf):wpAny (model prog w) A (Tp (.ref t) (.ref j)) Q E s:=by
 have b:sizeOk (.seq ((a.toList.drop (sIx a.size 0 lo)).take (sIx a.size a.size c - sIx a.size 0 lo)).toArray):=by
  show ((a.toList.drop (sIx a.size 0 lo)).take (sIx a.size a.size c - sIx a.size 0 lo)).toArray.size<=Bf
  rw[Ar,Cy,Jq,Af]
  omega
 have y:sIx a.size a.size c<=a.size:=DY _ _ (Ah _) c
 obtain ⟨p,i,f,u⟩:=id l
 have e:s.TypeIs (.ref j) "slice" := ⟨p,i,f⟩
 unfold Tp
 try with_reducible refine Dn ?_
 first | refine Aa (Ag ?_) | skip
 refine Aa (jF d.typeIs (by decide) ?_)
 refine Aa (Gf (name:=Fv "__getitem__") d.typeIs Fc
  (Es Fc d.typeIs entry_tuple_getitem ?_ (args_tuple_getitem _ _)))
 show wpAny _ _ (Yn (.ref t) >>= _) _ _ s
 refine Aa (tupleItemsOf_ d ?_)
 refine Aa (Mb e ?_)
 rw[if_pos (by decide)]
 refine Aa (sliceApplied_gen l r o ?_)
 have g:¬ ((((sIx a.size 0 lo:Nat):Int) == 0 && (1:Int) == 1 && (sIx a.size a.size c - sIx a.size 0 lo) == a.size)=true):=by
  intro q
  rw[Fo,Fo] at q
  have v:((sIx a.size 0 lo:Nat):Int)=0:=Ej q.1.1
  have x:sIx a.size a.size c - sIx a.size 0 lo=a.size:=Ej q.2
  exact hw ⟨by omega,by omega⟩
 show wpAny _ _ (if (((sIx a.size 0 lo:Nat):Int) == 0 && (1:Int) == 1 && (sIx a.size a.size c - sIx a.size 0 lo) == a.size)=true then _ else _) _ _ s
 rw[if_neg g,zT]
 first
  | exact Aa (m:=Gm _) (Dy (Ag ⟨_,rfl,Ag h⟩) b)
  | exact Aa (m:=Gm _) (Dy (Aa (Ag (Ag ⟨_,rfl,Ag h⟩))) b)
  | exact Aa (Aa (m:=Gm _) (Dy (Ag (Ag ⟨_,rfl,Ag h⟩)) b))
  | exact Aa (Aa (m:=Gm _) (Dy (Ag ⟨_,rfl,Ag h⟩) b))
end
end HT
namespace L2
open PySem PySem.Spec PyProof.Rows
abbrev TO:=St->Hp->(Option Int->Hp->Prop)->Prop
def PO(X:Cx)(e:Option Expr)(t:TO):Prop :=
 ∀(a:List (Addr×Obj)) (s:Ak) (b:St) (H:Hp) (Q:Option Int->Hp->Prop),Inv X a b H s->t b H Q ->
  wpAny (model X.prog X.w) X.A (evalPart e X.env) (λu d=>∃o c,Inv X a b c d/\aV u o/\Q o c) X.xe s
def W8:TO:=λ_ H Q=>Q none H
def HU(t:TE):TO:=λb H Q=>t b H λx a=>∃i,x=.int i/\Q (some i) a
theorem intsAre_of{ns:List Int}:∀{us:List Value},Fz (ns.map V.int) us->Fg us ns:=by
 induction ns with
 | nil=>intro us r; rw[Nc] at r; cases r; exact .nil
 | cons n ns b =>
  intro us r
  rw[Au] at r
  cases r with
  | cons a c =>
   obtain ⟨t,e⟩:=a
   subst e
   exact .cons n t (b c)
section
variable{X:Cx}{e:Expr}{d:TE}{lo c:Option Expr}{g j:TO}{pos f:Pos}
theorem N6:PO X none W8:=by
 intro a s b H Q I h
 rw[evalPart_none]
 exact Ag ⟨none,H,I,.none,h⟩
theorem W3(h:PE X e d):PO X (some e) (HU d):=by
 intro a s j H Q I k
 rw[evalPart_some]
 refine Ir (h a s j H _ I k) λu m b => ?_
 obtain ⟨x,c,g,f,l⟩ := b
 obtain ⟨i,rfl,q⟩:=l
 obtain ⟨t,rfl⟩:=f
 exact ⟨some i,c,g,.int i t,q⟩
def EJ(X:Cx)(r:V->Option Int->Option Int->Hp->VK->Prop):Prop :=
 ∀(a:List (Addr×Obj)) (s:Ak) (e:St) (H:Hp) (x:V) (v f d:Value) (lo c:Option Int) (b:Addr) (Q:VK),Inv X a e H s->RelV x v->s.heap.IsSliceOf b f d .none->aV f lo->aV d c->r x lo c H Q ->
  ∃T id,typeLookup (.type T) "__getitem__" = pure (some (.builtin id))/\s.TypeIs v T/\wpAny (model X.prog X.w) X.A (Tp v (.ref b)) (EP X a e Q) X.xe s
theorem EJ.or{r d:V->Option Int->Option Int->Hp->VK->Prop}(h:EJ X r)(h':EJ X d):EJ X (λx lo c H Q=>r x lo c H Q\/d x lo c H Q):=by
 intro a s i H x v j g lo c e Q I k b f l q
 rcases q with q | q
 ·exact h a s i H x v j g lo c e Q I k b f l q
 ·exact h' a s i H x v j g lo c e Q I k b f l q
def MU(r:V->Option Int->Option Int->Hp->VK->Prop)(d:TE)(g j:TO):TE:=λa H Q=>d a H λx b=>g a b λl e=>j a e λu c=>r x l u c Q
theorem nM{r:V->Option Int->Option Int->Hp->VK->Prop}(J:EJ X r)(N:PE X e d)(hl:PO X lo g)(E:PO X c j):PE X (.Subscript e (.Slice lo c none f) pos) (MU r d g j):=by
 intro a s m H Q I h
 refine Subscript_ (Ir (N a s m H _ I h) λv K k => ?_)
 obtain ⟨x,R,M,C,O⟩ := k
 refine wpAny_Slice (Ir (hl a K m R _ M O) λn D ⟨l,y,S,G,P⟩=>Ir (E a D m y _ S P) λo i k => ?_)
 obtain ⟨u,p,t,z,B⟩ := k
 rw[evalPart_none]
 refine Ag ?_
 have L:Inv X a m p { i with heap:=i.heap.push { cls:=.type "slice",data:=.fields #[n,o,.none] } }:=t.kept (t':=i.toks) λb Y q=>Aj _ q
 obtain ⟨T,id,F,W,U⟩:=J a { i with heap:=i.heap.push { cls:=.type "slice",data:=.fields #[n,o,.none] } } m p x v n o l u i.heap.objs.size Q L C (Heap.IsSliceOf.new ..) G z B
 show wpAny (model X.prog X.w) X.A (fG e (.Slice lo c none f) v (.ref i.heap.objs.size)) (EP X a m Q) X.xe { i with heap:=i.heap.push { cls:=.type "slice",data:=.fields #[n,o,.none] } }
 exact tail_any (ops:=[.ref i.heap.objs.size,v]) W F U (by with_unfolding_all rfl)
def eT(xs:List V)(lo c:Option Int):List V:=(xs.drop (HT.sIx xs.length 0 lo)).take (HT.sIx xs.length xs.length c - HT.sIx xs.length 0 lo)
theorem Zv(xs:List V)(lo c:Option Int):(eT xs lo c).length<=xs.length:=by
 unfold eT
 rw[Cy,Jq]
 omega
def JZ(K:PySem.W.Frag):V->Option Int->Option Int->Hp->VK->Prop:=λx lo c H Q=>∃a b,x=.ref a/\Vp K H a b /\
 ¬ (HT.sIx b.length 0 lo=0/\HT.sIx b.length b.length c=b.length)/\∀p,H p=none->Q (.ref p) (upd H p (.tup (eT b lo c)))
theorem BU:EJ X (JZ X.K):=by
 intro i s z H x v y w lo c u Q I n k l p h
 obtain ⟨a,e,rfl,m,t,q⟩:=h
 cases n
 obtain ⟨f,r,j,g⟩:=I.tuple m
 have d:f.toArray.size=e.length:=by rw[Ar]; exact r.length.symm
 refine ⟨"tuple",_,Fc.lookup,j.typeIs,?_⟩
 refine HT.getItem_tuple_cut j k l p (by rw[d]; exact t) ?_ (by rw[d]; exact g)
 rw[d]
 refine ⟨.ref s.heap.objs.size,_,I.laid (t':=s.toks) (o:=.tup (eT e lo c)) (λb A q=>Aj _ q) (Ah _) ?_,rfl,q _ (I.hok.fresh (Ah _))⟩
 exact ⟨Co (Zv e lo c) g,_,(r.drop (HT.sIx e.length 0 lo)).take (HT.sIx e.length e.length c - HT.sIx e.length 0 lo),IsTup.new _ _⟩
def HE(K:PySem.W.Frag):R2:=λx y H Q=>∃a b d c,x=.ref a/\y=.ref b/\Vp K H a d/\Vp K H b c/\d≠[]/\d.length+c.length<=Bf /\
 (c=[]->Q (.ref a) H)/\(c≠[]->∀p,H p=none->Q (.ref p) (upd H p (.tup (d++c))))
theorem Fz.nil_iff{xs:List V}{us:List Value}(r:Fz xs us):us=[]↔xs=[]:=by
 cases r with
 | nil=>simp
 | cons _ _=>simp
theorem N9:Xq X (Kw .Add) (HE X.K):=by
 intro g s D H x y v u Q I B m h
 obtain ⟨a,b,r,n,rfl,rfl,k,p,A,e,C,j⟩:=h
 cases B
 cases m
 obtain ⟨t,d,l,_⟩:=I.tuple k
 obtain ⟨i,c,f,_⟩:=I.tuple p
 refine HT.cat_tup l f (λz=>A (d.nil_iff.mp z)) (λz=>⟨.ref a,H,I,rfl,C (c.nil_iff.mp z)⟩) (λz=>?_) (by rw[<- d.length,<- c.length]; exact e)
 refine ⟨.ref s.heap.objs.size,_,I.laid (t':=s.toks) (o:=.tup (r++n)) (λb E q=>Aj _ q) (Ah _) ?_,rfl,j (λw=>z (c.nil_iff.mpr w)) _ (I.hok.fresh (Ah _))⟩
 exact ⟨by rw[Bh]; exact e,_,d.append c,IsTup.new _ _⟩
end
def M5(n:Nat)(i:Int):Option Nat:=if 0<=i then (if i<n then some i.toNat else none) else if -(n:Int)<=i then some (i+n).toNat else none
def Xu{a:Type}(xs:List a)(i:Int):Option a:=(M5 xs.length i).bind λj=>xs[j]?
theorem tU{n:Nat}{i:Int}{j:Nat}(h:M5 n i=some j):seqIndex? i n=some j/\j<n /\ -(n:Int)<=i/\i<n:=by
 unfold M5 at h
 by_cases b:0<=i
 ·rw[if_pos b] at h
  by_cases a:i<n
  ·rw[if_pos a] at h
   have e:i.toNat=j:=Cn h
   exact ⟨by rw[seqIndex_of b a,e],by omega,by omega,a⟩
  ·rw[if_neg a] at h; cases h
 ·rw[if_neg b] at h
  by_cases a:-(n:Int)<=i
  ·rw[if_pos a] at h
   have e:(i+n).toNat=j:=Cn h
   exact ⟨by rw[seqIndex_neg (by omega) a,e],by omega,a,by omega⟩
  ·rw[if_neg a] at h; cases h
theorem lA{a:Type}{xs:List a}{i:Int}{v:a}(h:Xu xs i=some v):∃j,seqIndex? i xs.length=some j/\xs[j]? = some v/\j<xs.length /\ -(xs.length:Int)<=i/\i<xs.length:=by
 unfold Xu at h
 cases e:M5 xs.length i with
 | none=>rw[e] at h; cases h
 | some j =>
  rw[e] at h
  obtain ⟨b,f,d,c⟩:=tU e
  exact ⟨j,b,h,f,d,c⟩
theorem lK{a:Type}{xs:List a}{j:Nat}{v:a}(h:xs[j]? = some v):Xu xs (j:Int)=some v:=by
 have b:j<xs.length:=(Ai.mp h).1
 have e:M5 xs.length (j:Int)=some j:=by
  unfold M5
  rw[if_pos (by omega),if_pos (by omega)]; simp
 unfold Xu; rw[e]; exact h
def mE(b:Expr):Prop:=∀o i,subscripted b false o i=operate [o,i] (Tp o i)
def P1(X:Cx)(r:R2):Prop :=
 ∀(c a:Expr) (b:List (Addr×Obj)) (s:Ak) (d:St) (H:Hp) (x y:V) (v u:Value) (Q:VK),Inv X b d H s->RelV x v->RelV y u->r x y H Q ->
  subscripted a false v u=operate [v,u] (Tp v u)->wpAny (model X.prog X.w) X.A (fG c a v u) (EP X b d Q) X.xe s
def MV(X:Cx)(id:String)(r:V->List V->Hp->VK->Prop):Prop :=
 ∀(a:List (Addr×Obj)) (s:Ak) (c:St) (H:Hp) (x:V) (d:List V) (v:Value) (b:List Value) (Q:VK),Inv X a c H s->RelV x v->Fz d b->r x d H Q ->
  wpAny (model X.prog X.w) X.A (call (.builtin id) (v::b)) (EP X a c Q) X.xe s
section
variable{X:Cx}{a b:Expr}{A B:TE}{pos:Pos}
theorem P1.or{r f:R2}(h:P1 X r)(h':P1 X f):P1 X (λx y H Q=>r x y H Q\/f x y H Q):=by
 intro b a c s g H x y v u Q I i d q e
 rcases q with q | q
 ·exact h b a c s g H x y v u Q I i d q e
 ·exact h' b a c s g H x y v u Q I i d q e
theorem dE{r:R2}(k:P1 X r)(d:PE X a A)(hb:PE X b B)(i:mE b):PE X (.Subscript a b pos) (IE r A B):=by
 intro c s j H Q I h
 exact Subscript_ (DX d hb I h λv u g x y m e l f q=>k a b c g j m x y v u Q e l f q (i _ _))
def HS(K:PySem.W.Frag):R2:=λx y H Q=>∃p a i v,x=.ref p/\y=.int i/\Ux K H p a/\Xu a i=some v/\Q v H
def HH(K:PySem.W.Frag):R2:=λx y H Q=>∃p a i v,x=.ref p/\y=.int i/\Vp K H p a/\Xu a i=some v/\Q v H
def GA:R2:=λx y H Q=>∃z i c,x=.str z/\y=.int i/\z.length<=Bf/\Xu z.cps.toList i=some c/\Q (.str ⟨#[c]⟩) H
theorem Uk:P1 X (HS X.K):=by
 intro d k a s m H x y v u Q I C B h n
 obtain ⟨p,N,i,z,rfl,rfl,J,G,q⟩:=h
 cases C
 obtain ⟨t,rfl⟩:=B
 obtain ⟨e,r,f,O⟩:=I.list J
 obtain ⟨j,c,L,R,D,F⟩:=lA G
 obtain ⟨w,o,l⟩:=r.get L
 have M:=r.length
 have P:=Za
 have b:EP X a m Q w s:=⟨z,H,I,l,q⟩
 by_cases A:0<=i
 ·have g:i.toNat=j:=by
   rw[seqIndex_of A F] at c
   exact Cn c
  exact item_listR f.isList A (by omega) (by rw[g]; simpa using o) b n
 ·have g:(i+(e.toArray.size:Int)).toNat=j:=by
   rw[seqIndex_neg (by omega) D] at c
   rw[Ar,<- M]
   exact Cn c
  exact M8 (x:=w) f.isList.typeIs jG.lookup
   (wpAny_getItem_list_neg (Q:=λr E=>r=w/\EP X a m Q r E) f.isList (by omega) (by rw[Ar] <;> omega) (by omega) (by rw[g]; simpa using o) ⟨rfl,b⟩) n
theorem KZ:P1 X (HH X.K):=by
 intro b d a s f H x y v u Q I l k h m
 obtain ⟨p,G,i,z,rfl,rfl,D,B,q⟩:=h
 cases l
 obtain ⟨t,rfl⟩:=k
 obtain ⟨n,r,g,L⟩:=I.tuple D
 obtain ⟨j,A,E,O,J,M⟩:=lA B
 obtain ⟨w,C,e⟩:=r.get E
 have F:=r.length
 have N:=Za
 have c:EP X a f Q w s:=⟨z,H,I,e,q⟩
 exact M8 (x:=w) g.typeIs slot_tuple_getitem.lookup
  (getItem_tuple (j:=j) (Q:=λr o=>r=w/\EP X a f Q r o) g (by omega) (by omega) (by rw[Ar,<- F]; exact A) (by simpa using C) ⟨rfl,c⟩) m
theorem CN:P1 X GA:=by
 intro a b d s A H x y v u Q I g f h k
 obtain ⟨z,i,c,rfl,rfl,B,n,q⟩:=h
 obtain ⟨t,rfl⟩:=g
 obtain ⟨D,rfl⟩:=f
 obtain ⟨j,e,r,E,l,m⟩:=lA n
 have w:z.cps.toList.length=z.length:=by simp [Str.length]
 rw[w] at e l m
 have C:=Za
 exact tail_any (typeIs_str s z t) slot_str_getitem.lookup (getItem_str (c:=c) (by
  have p:decide (i < -(2 ^ 63:Int))=false:=decide_eq_false (by omega)
  have o:decide (i ≥ 2 ^ 63)=false:=decide_eq_false (by omega)
  rw[p,o,Bool.or_false]) (by rw[e]; simpa using r) ⟨.str ⟨#[c]⟩,H,I.tok _,⟨_,rfl⟩,q⟩) k
def MA(K:PySem.W.Frag):R2:=λx y H Q=>HS K x y H Q\/HH K x y H Q\/GA x y H Q
theorem EK:P1 X (MA X.K):=Uk.or (KZ.or CN)
theorem rD(a:List Value)(n j:Nat)(u:Value):Lf (·.setIfInBounds j u) { cls:=.type "list",data:=.seq a.toArray n }={ cls:=.type "list",data:=.seq (a.set j u).toArray n }:=by
 simp [Lf]
theorem Inv.lst{b:List (Addr×Obj)}{σ:St}{H:Hp}{s:Ak}{p:Addr}{xs:List V}(I:Inv X b σ H s)(h:H p=some (.lst xs)):∃(a:List Value) (n:Nat),Fz xs a/\s.heap.get? p=some { cls:=.type "list",data:=.seq a.toArray n }/\xs.length<=Bf:=by
 obtain ⟨z,a,n,r,e⟩:=I.hok p _ h
 exact ⟨a,n,r,e,z⟩
theorem Inv.lstUpd{a:List (Addr×Obj)}{σ:St}{H:Hp}{s:Ak}{p:Addr}{xs ys:List V}{c its':List Value}{n n':Nat}{f:Obj->Obj}(I:Inv X a σ H s)(h:H p=some (.lst xs))(g:s.heap.get? p=some { cls:=.type "list",data:=.seq c.toArray n })(d:f { cls:=.type "list",data:=.seq c.toArray n }={ cls:=.type "list",data:=.seq its'.toArray n' })(r:Fz ys its')(hz:ys.length<=Bf)(t:Nat):Inv X a σ (upd H p (.lst ys)) { s with heap:=s.heap.update p f,toks:=t }:=by
 have e:(s.heap.update p f).get? p=some { cls:=.type "list",data:=.seq its'.toArray n' }:=by
  rw[Fs f g (by rw[d] <;> rfl),d]
 refine I.write (x:=p) (e:=p) (by rw[h]; trivial) (.inl rfl) (λb u i q=>(tG _ _ (Kx i)).trans q) ⟨_,e⟩ ?_
 exact ⟨hz,its',n',r,e⟩
def rSetL:V->V->V->Hp->(Hp->Prop)->Prop:=λo i v H Q=>∃p a k j,o=.ref p/\i=.int k/\H p=some (.lst a)/\M5 a.length k=some j/\Q (upd H p (.lst (a.set j v)))
theorem oO:FV X rSetL:=by
 intro b s z H o i v G F u Q I E C A h
 obtain ⟨p,y,k,j,rfl,rfl,l,D,q⟩:=h
 cases E
 obtain ⟨t,rfl⟩:=C
 obtain ⟨a,n,r,d,B⟩:=I.lst l
 obtain ⟨c,K,w,g⟩:=tU D
 have f:=r.length
 have J:=Za
 have m:Inv X b z (upd H p (.lst (y.set j v))) { s with heap:=s.heap.update p (Lf (·.setIfInBounds j u)) } :=
  I.lstUpd l d (rD a n j u) (r.set A j) (by rw[List.length_set]; exact B) s.toks
 by_cases x:0<=k
 ·have e:k.toNat=j:=by
   rw[seqIndex_of x g] at c
   exact Cn c
  exact PySem.W.ki_setAt d x (by omega) (by rw[Ar,<- f]; exact g) (by rw[e]; exact ⟨_,m,q⟩)
 ·have e:(k+(a.toArray.size:Int)).toNat=j:=by
   rw[seqIndex_neg (by omega) w] at c
   rw[Ar,<- f]
   exact Cn c
  exact PySem.W.ki_setBack d (by omega) (by rw[Ar,<- f]; exact w) (by omega) (by rw[e]; exact ⟨_,m,q⟩)
theorem mN(lo a:Option Int)(n:Nat):(Kn lo a none n).1=((HT.sIx n 0 lo:Nat):Int)/\(Kn lo a none n).2.1=((HT.sIx n n a:Nat):Int)/\(Kn lo a none n).2.2=1:=by
 refine ⟨?_,?_,rfl⟩
 ·cases lo with
  | none=>simp [Kn,HT.sIx]
  | some i =>
   simp only[Kn,HT.sIx,Option.getD_none,show (1:Int) > 0 by decide,if_true]
   by_cases h:i<0
   ·simp only[h,if_true] <;> omega
   ·simp only[h,if_false] <;> omega
 ·cases a with
  | none=>simp [Kn,HT.sIx]
  | some i =>
   simp only[Kn,HT.sIx,Option.getD_none,show (1:Int) > 0 by decide,if_true]
   by_cases h:i<0
   ·simp only[h,if_true] <;> omega
   ·simp only[h,if_false] <;> omega
theorem gC(a:List Value)(lo b:Option Int):slicePick a.toArray lo b none=((a.drop (HT.sIx a.length 0 lo)).take (HT.sIx a.length a.length b - HT.sIx a.length 0 lo)).toArray:=by
 obtain ⟨c,e,d⟩:=mN lo b a.toArray.size
 unfold slicePick
 rw[c,e,d]
 simp only[sliceRange_one,pick_run,Ar] <;> rfl
def EV(K:PySem.W.Frag):V->Option Int->Option Int->Hp->VK->Prop:=λx c d H Q=>∃a b,x=.ref a/\Ux K H a b/\∀p,H p=none->Q (.ref p) (upd H p (.lst (eT b c d)))
theorem P8:EJ X (EV X.K):=by
 intro g s z H x v A y e f w Q I m j l t h
 obtain ⟨a,c,rfl,n,q⟩:=h
 cases m
 obtain ⟨k,r,i,p⟩:=I.list n
 have d:=r.length
 refine ⟨"list",_,jG.lookup,i.isList.typeIs,?_⟩
 refine zB i.isList j l t .none (by simp) ?_ (by rw[Ar] <;> omega)
 rw[gC,<- d]
 refine ⟨.ref s.heap.objs.size,_,I.laid (t':=s.toks) (o:=.lst (eT c e f)) (λb u q=>Aj _ q) (Ah _) ?_,rfl,q _ (I.hok.fresh (Ah _))⟩
 exact ⟨Co (Zv c e f) p,_,0,(r.drop (HT.sIx c.length 0 e)).take (HT.sIx c.length c.length f - HT.sIx c.length 0 e),Bi _ rfl⟩
theorem Jh.or{f:Value}{r c:List V->Hp->VK->Prop}(h:Jh X f r)(h':Jh X f c):Jh X f (λxs H Q=>r xs H Q\/c xs H Q):=by
 intro a s d H xs e Q I b q
 rcases q with q | q
 ·exact h a s d H xs e Q I b q
 ·exact h' a s d H xs e Q I b q
theorem mK:Jh X (.type "list") (λxs H Q=>∃p ys,xs=[.ref p]/\(Ux X.K H p ys\/Vp X.K H p ys)/\∀l,H l=none->Q (.ref l) (upd H l (.lst ys))):=by
 intro k s z H xs B Q I r h
 obtain ⟨p,ys,rfl,hq,q⟩:=h
 obtain ⟨u,rfl,A⟩:=vals1 r
 cases A
 have i:∀(a:List Value),Fz ys a->ys.length<=Bf->∀(c:Heap) (f:Nat),(∀b y,s.heap.get? b=some y->c.get? b=some y) ->
   c.get? s.heap.objs.size=some { cls:=.type "list",dict:=none,data:=.seq a.toArray f,slots:=#[] }->EP X k z Q (.ref s.heap.objs.size) { s with heap:=c }:=λa d j c f kp e =>
  ⟨.ref s.heap.objs.size,_,I.laid (t':=s.toks) kp (Ah _) (show Hx X.prog X.w _ c _ (.lst ys) from ⟨j,a,f,d,e⟩),rfl,q _ (I.hok.fresh (Ah _))⟩
 rcases hq with hq | hq
 ·obtain ⟨a,d,x,j⟩:=I.list hq
  have g:=d.length
  obtain ⟨o,m,t,n,v⟩:=x.isList
  exact call_list_seq p (.inl rfl) m t v (λc f kp e=>i a d j c f kp e) (by simp only[Ar] <;> omega)
 ·obtain ⟨a,d,x,j⟩:=I.tuple hq
  have g:=d.length
  obtain ⟨o,m,t,n,v⟩:=x
  exact call_list_seq p (.inr rfl) m t v (λc f kp e=>i a d j c f kp e) (by simp only[Ar] <;> omega)
theorem fX:Jh X (.type "tuple") (λxs H Q=>∃p ys,xs=[.ref p]/\((Ux X.K H p ys/\∀l,H l=none->Q (.ref l) (upd H l (.tup ys)))\/(Vp X.K H p ys/\Q (.ref p) H))):=by
 intro a s n H xs x Q I r h
 obtain ⟨p,ys,rfl,h⟩:=h
 obtain ⟨u,rfl,v⟩:=vals1 r
 cases v
 rcases h with ⟨i,q⟩ | ⟨i,q⟩
 ·obtain ⟨c,f,g,m⟩:=I.list i
  have j:=f.length
  refine call_tuple_list g.isList (λd kp=>?_) (by simp only[Ar] <;> omega)
  have k:Inv X a n H { s with heap:=d }:=I.kept (t':=s.toks) kp
  have t:Inv X a n (upd H d.objs.size (.tup ys)) { s with heap:=d.push { cls:=.type "tuple",data:=.seq c.toArray } } :=
   k.laid (t':=s.toks) (λb o e=>Aj _ e) (Ah _) (show Hx X.prog X.w _ _ _ (.tup ys) from ⟨m,c,f,IsTup.new _ _⟩)
  exact ⟨.ref d.objs.size,_,t,rfl,q _ (k.hok.fresh (Ah _))⟩
 ·obtain ⟨c,f,g,m⟩:=I.tuple i
  exact call_tuple_same g ⟨.ref p,H,I,rfl,q⟩
def MD(K:PySem.W.Frag)(T:String)(x:V)(H:Hp):Prop:=match x with
 | .str _=>T = "str"
 | .int _=>T = "int"
 | .ref p=>(T = "list" /\ ∃b,Ux K H p b)\/(T = "tuple" /\ ∃o,K.lookup p=some o/\o.cls=.type "tuple" /\ o.dict=none) \/
   (T = "dict" /\ ((∃a,H p=some (.dK a))\/∃a,H p=some (.dT a)))\/(T = "set" /\ ∃S n,H p=some (.set S n))
 | _=>False
theorem DU{f:List (Addr×Obj)}{σ:St}{H:Hp}{s:Ak}{T:String}{x:V}{v:Value}(I:Inv X f σ H s)(r:RelV x v)(ty:MD X.K T x H):s.TypeIs v T/\∀a,v=.ref a->∃l,s.heap.get? a=some l/\l.dict=none:=by
 cases x with
 | str z =>
  obtain ⟨t,rfl⟩:=r
  cases (show T = "str" from ty)
  exact ⟨typeIs_str s z t,λ_ e=>nomatch e⟩
 | int i =>
  obtain ⟨t,rfl⟩:=r
  cases (show T = "int" from ty)
  exact ⟨fQ s i t,λ_ e=>nomatch e⟩
 | ref p =>
  cases r
  rcases ty with ⟨rfl,w,u⟩ | ⟨rfl,o,b,m,j⟩ | ⟨rfl,b⟩ | ⟨rfl,S,n,b⟩
  ·obtain ⟨q,_,k,_⟩:=I.list u
   refine ⟨k.isList.typeIs,λa e=>?_⟩
   cases e
   obtain ⟨o,n,e,c,j,_⟩:=k
   exact ⟨o,e,j⟩
  ·refine ⟨⟨o,I.kIn p o b,m⟩,λa e=>?_⟩
   cases e
   exact ⟨o,I.kIn _ o b,j⟩
  ·have z:∃o,s.heap.get? p=some o/\o.ExactDict:=by
    rcases b with ⟨h,b⟩ | ⟨h,b⟩
    ·obtain ⟨_,_,_,_,o,_,_,e,d,_⟩:=I.hok p _ b
     exact ⟨o,e,d⟩
    ·obtain ⟨_,_,_,_,o,_,_,e,d,_⟩:=I.hok p _ b
     exact ⟨o,e,d⟩
   obtain ⟨o,e,d⟩:=z
   refine ⟨⟨o,e,d.1⟩,λa g=>?_⟩
   cases g
   exact ⟨o,e,d.2.1⟩
  ·obtain ⟨o,_,_,_,e,d,_⟩:=I.hok p _ b
   refine ⟨⟨o,e,d.1⟩,λa g=>?_⟩
   cases g
   exact ⟨o,e,d.2.1⟩
 | _=>exact Ky ty
def NH(K:PySem.W.Frag)(T:String)(r:V->List V->Hp->VK->Prop)(m:TE)(t:TA):TE:=λb H Q=>m b H λx a=>MD K T x a/\t b a λd c=>r x d c Q
variable{o e:Expr}{es:List Expr}{m:TE}{t:TA}{name:Str}{g d:Pos}{T id:String}{r:V->List V->Hp->VK->Prop}
theorem o5(E:PlainAttrs T)(slot:Slot T name id)(k:typeOf (.builtin id)=pure (.type "method_descriptor"))(z:MV X id r)(C:PE X o m)(u:PA X (e::es) t)
  (f:Pw o name X.env (eval o X.env)=eval o X.env:=by rfl)
  (i:((Jr d (Cc (e::es) X.env)).all (λx=>!x.1) && (backToKw d (Tn [] X.env)).all (λx=>x.1.isSome)
   && decide ((e::es).length+([]:List Px).length+(if ([]:List Px).isEmpty then 0 else 1)<30))=true:=by rfl)
  (c:(g.endLine == d.line)=true:=by rfl) (A:Cc (e::es) X.env=(false,eval e X.env)::Cc es X.env:=by rfl) (b:(Jr d (Cc es X.env)).any (·.1)=false:=by rfl) :
  PE X (.Call (.Attribute o name g) (e::es) [] d) (NH X.K T r m t):=by
 intro a s j H Q I h
 refine wpAny_Call_method_late f i c rfl (Ir (C a s j H _ I h) λv B l => ?_)
 obtain ⟨x,J,q,p,ty,F⟩ := l
 obtain ⟨D,N⟩:=DU q p ty
 refine ⟨T,id,E,slot,k,D,N,?_⟩
 have n:=u d a B j J _ q F
 rw[A] at n ⊢
 refine Calls.callWith_builtin (by show (false || (Jr d (Cc es X.env)).any (·.1))=false; rw[b] <;> rfl) (Calls.evalArgs_plain ?_)
 exact Ir n λO y ⟨vs,w,L,M,G⟩=>z a y j w x vs v O Q L p M G
end
def KH(X:Cx)(id:String)(r:V->List V->Hp->VK->Prop):Prop :=
 ∀(a:List (Addr×Obj)) (s:Ak) (c:St) (H:Hp) (x:V) (d:List V) (v:Value) (b:List Value) (Q:VK),Inv X a c H s->RelV x v->Fz d b->r x d H Q ->
  wpAny (model X.prog X.w) X.A (call (.builtin id) (v::b)) (EP X a c Q) X.xe s
theorem Fz.one:∀{x:V} {us:List Value},Fz [x] us->∃u,us=[u]/\RelV x u
 | _,_,.cons r .nil=>⟨_,rfl,r⟩
theorem Fz.two{x y:V}{us:List Value}(h:Fz [x,y] us):∃u v,us=[u,v]/\RelV x u/\RelV y v:=by
 cases h with
 | cons r t =>
  cases t with
  | cons q t =>
   cases t
   exact ⟨_,_,rfl,r,q⟩
theorem Fz.reverse{xs:List V}{us:List Value}(h:Fz xs us):Fz xs.reverse us.reverse:=by
 induction h with
 | nil=>exact .nil
 | cons r t a=>rw[Nb,Nb]; exact Fz.append a (.cons r .nil)
section
variable{X:Cx}{a:List (Addr×Obj)}{σ:St}{H:Hp}{s:Ak}{l b:Addr}{xs ys c:List V}
theorem Inv.lset{b its':List Value}{n:Nat}{f:Array Value->Array Value}{t':Nat}(I:Inv X a σ H s)(g:H l=some (.lst xs))(e:s.heap.get? l=some { cls:=.type "list",data:=.seq b.toArray n })(d:f b.toArray=its'.toArray)(c:Fz ys its')(hz:ys.length<=Bf):Inv X a σ (upd H l (.lst ys)) { s with heap:=s.heap.update l (Lf f),toks:=t' }:=by
 have q:=PySem.IsL.update e f
 rw[d] at q
 refine I.write (x:=l) (e:=l) (by rw[g]; exact trivial) (.inl rfl) (λj u i h=>(tG s.heap (Lf f) (Kx i)).trans h) ⟨_,q⟩ ?_
 exact ⟨hz,its',_,c,q⟩
theorem Inv.lnew{b:List Value}{t':Nat}(I:Inv X a σ H s)(c:Fz ys b)(hz:ys.length<=Bf):Inv X a σ (upd H s.heap.objs.size (.lst ys)) { s with heap:=s.heap.push { cls:=.type "list",data:=.seq b.toArray },toks:=t' } :=
 I.laid (λ_ _ q=>Aj _ q) (Ah _) ⟨hz,b,0,c,Bi _ rfl⟩
theorem Inv.fresh(I:Inv X a σ H s):H s.heap.objs.size=none:=I.hok.fresh (Ah _)
theorem Inv.lstM(I:Inv X a σ H s)(c:H l=some (.lst xs)):xs.length<=Bf/\∃(b:List Value) (n:Nat),Fz xs b/\xs.length=b.length/\s.heap.get? l=some { cls:=.type "list",data:=.seq b.toArray n }:=by
 obtain ⟨z,b,n,r,e⟩:=I.hok l _ c
 exact ⟨z,b,n,r,r.length,e⟩
theorem G8{n:Nat}(h:n<=Bf):Pp n=false:=by
 unfold Pp
 exact decide_eq_false (by omega)
end
section
variable{X:Cx}
def X3:V->List V->Hp->VK->Prop:=λx vs H Q=>∃l a y,x=.ref l/\vs=[y]/\H l=some (.lst a)/\a.length<Bf/\Q .non (upd H l (.lst (a++[y])))
theorem Tv:KH X "list.append" X3:=by
 intro c s k H x vs v o Q I g d h
 obtain ⟨l,i,y,rfl,rfl,b,j,q⟩:=h
 cases g
 obtain ⟨u,rfl,f⟩:=d.one
 obtain ⟨z,a,n,r,m,e⟩:=I.lstM b
 refine Pq F.slot_list_append ⟨_,e,rfl⟩ F.entry_list_append (F.args_list_append_2 _ _) (PySem.list_append l a.toArray n u (by rw[Ar]; omega)) ⟨e,?_⟩
 refine ⟨.non,_,I.lset (its':=a++[u]) b e (by simp) (r.append (.cons f .nil)) ?_,rfl,q⟩
 rw[Bh,Gu]
 omega
def O0:V->List V->Hp->VK->Prop:=λx vs H Q=>∃l b c a,x=.ref l/\vs=[.ref b]/\H l=some (.lst c)/\H b=some (.lst a)/\c.length+a.length<=Bf/\Q .non (upd H l (.lst (c++a)))
theorem FR:KH X "list.extend" O0:=by
 intro g s B H x vs v J Q I m o h
 obtain ⟨l,b,A,D,rfl,rfl,i,j,C,q⟩:=h
 cases m
 obtain ⟨u,rfl,k⟩:=o.one
 cases k
 obtain ⟨z,c,n,r,G,e⟩:=I.lstM i
 obtain ⟨E,a,p,w,y,t⟩:=I.lstM j
 have f:c.toArray.size+a.toArray.size<=Bf:=by rw[Ar,Ar]; omega
 have d:¬ (!c.toArray.isEmpty && Pp (c.toArray.size+a.toArray.size))=true:=by
  rw[G8 f,Qp]
  exact Cv
 refine Pq F.slot_list_extend ⟨_,e,rfl⟩ F.entry_list_extend (F.args_list_extend_2 _ _)
  (AutoSeq1.list_extend_list_list_0 l c.toArray n b a.toArray p d (by rw[Ar]; omega) (by omega)) ⟨e,t,?_⟩
 refine ⟨.non,_,I.lset (its':=c++a) i e (by simp) (r.append w) ?_,rfl,q⟩
 rw[Bh]
 omega
def AZ:R2:=λx y H Q=>∃l b c a,x=.ref l/\y=.ref b/\H l=some (.lst c)/\H b=some (.lst a)/\c.length+a.length<=Bf/\∀p,H p=none->Q (.ref p) (upd H p (.lst (c++a)))
theorem K0:Xq X (Kw .Add) AZ:=by
 intro d s B H x y v u Q I o f h
 obtain ⟨l,b,w,E,rfl,rfl,g,j,A,q⟩:=h
 cases o
 cases f
 obtain ⟨z,c,n,r,D,e⟩:=I.lstM g
 obtain ⟨C,a,t,m,k,i⟩:=I.lstM j
 refine PySem.P.add_list e i ?_ (by rw[Ar,Ar]; omega)
 have p:c.toArray++a.toArray=(c++a).toArray:=by simp
 rw[p]
 exact ⟨.ref _,_,I.lnew (t':=s.toks) (r.append m) (by rw[Bh]; omega),rfl,q _ I.fresh⟩
end
end L2
namespace Att
open PySem PySem.W PySem.Calls PyProof.Rows
theorem bA{P:Params}{h:Heap}:∀(ns:List Int) (vs:List Value),WellAll P h vs (ns.map WData.int)->Fg vs ns:=by
 intro ns
 induction ns with
 | nil =>
  intro vs w
  rw[Nc] at w
  cases w
  exact .nil
 | cons n ns c =>
  intro vs w
  rw[Au] at w
  cases w with
  | cons a b =>
   cases a
   exact .cons _ _ (c _ b)
theorem wK{l:OpenLaw}{n:Nat}(x:l.most=some n){P:Params}{h:Heap}{args:List WData}{c:List Value}(b:l.row.toRowW.claim.pre args=true)(k:WellAll P h c args):∃a vs ns,c=[Aq a]/\args=[WData.list (ns.map WData.int)]/\h.get? a=some { cls:=.type "list",data:=.seq vs.toArray }/\Fg vs ns/\ns.length<=n:=by
 have j:WShape.hasAll [] args [.list .int]=true:=(pre_splitW b).1
 have m:l.pre.holds [] { args:=args }=true:=(pre_splitW b).2
 obtain ⟨d,r,rfl,s,v⟩:=hasAllW_cons j
 obtain rfl:=hasAllW_nil v
 obtain ⟨y,rfl,u⟩:=hasW_list s
 obtain ⟨ns,rfl⟩:=items_int u
 have e:ns.length<=n:=by
  unfold OpenLaw.pre at m
  have g:(WTm.not (.lt (.lit (.int (n:Int))) (.len (.arg 0)))).holds [] { args:=[.list (ns.map .int)] }=true:=by
   have g:=(holds_andW m).1
   rw[x] at g
   exact g
  have i:=condW_of g (w_not (w_lt w_lit (w_len_list (w_arg rfl))))
  rw[Ac] at i
  refine Nat.le_of_not_lt λq=>?_
  have t:(n:Int)<((ns.length:Nat):Int):=by omega
  first
   | (rw[decide_eq_true t] at i; exact absurd i (by decide))
   | (simp at i; omega)
 cases k with
 | cons p w =>
  cases w
  cases p with
  | list o f=>exact ⟨_,_,ns,rfl,rfl,o,bA ns _ f,e⟩
theorem yA(l:OpenLaw)(args:List WData):l.row.toRowW.claim.post args (.bool true) args=true :=
 postW_of (r:=l.row.toRowW) (X:=(true == true))
  (show WShape.has [] (.bool true) .bool=true by first | rfl | decide | simp [WShape.has,WShape.arms,WShape.armsAll])
  (show (WTm.eq .res (.lit (.bool true))).value [] { args:=args,res:=some (.bool true),after:=args }=some (.bool (true == true)) from w_eq_bool (w_res rfl) w_lit) rfl
theorem attach_call{l:OpenLaw}{n:Nat}{q:Bp}{loose:List Str}{XP:(Str->Option Value)->Heap->Prop}{YP:World->Heap->Prop}{d:DefRec}(E:l.most=some n)(m:d.params.defaults=[])(call:∀(w:World) (s₀ b:Ak) (mg s:Str->Option Value) (j:Addr) (o:Obj) (t k e:Value) (a:Addr) (vs:List Value) (ns:List Int),Ground q loose [] XP w s₀ mg s b.heap->YP w b.heap->b.heap.get? j=some o->o.data=.func (docDef d.name d.params d.body d.scope t k e)->b.heap.CodeRec k d.name->mg d.name=some (.ref j)->b.heap.get? a=some { cls:=.type "list",data:=.seq vs.toArray }->Fg vs ns->ns.length<=n->b.gens=#[]->Na (model l.prog w) bG (.call (.ref j) ⟨[.ref a],[]⟩) (λr s'=>r=.ok (.ret (.bool true))/\OldK b.heap s'.heap/\s'.os=b.os/\Tr s'.gens) b):WalkO q loose XP YP l.row.toRowW d [] (λf vs=>PySem.call f vs):=by
 intro w s₀ b mg s G Y j o t k e dV kV F J v z p I A y N h x B u H
 obtain rfl:dV=.none:=Dflts.none z m
 obtain rfl:kV=.none:=Dflts.noKw z
 obtain ⟨a,vs,ns,rfl,rfl,i,c,g⟩:=wK E h u
 refine enter_call (Jj (call w s₀ b mg s j o t k e a vs ns G Y F (fd_plain J) v p i c g I) λr s' L=>?_)
 obtain ⟨rfl,M,K,D⟩:=L
 exact ⟨.inl ⟨.bool true,.bool true,[],rfl,λ_=>rfl,.bool true,yA l _,λ_=>⟨Dz,λ_ C=>(nomatch C)⟩⟩,M,K,D⟩
end Att
namespace L2
open PySem PySem.Spec PyProof.Rows
theorem gZ:∀{vs:List Value} {ns:List Int},Fg vs ns->Fz (ns.map V.int) vs
 | _,_,.nil=>.nil
 | _,_,.cons n t h=>.cons ⟨t,rfl⟩ (gZ h)
def Qb(s:Stmt):Arguments:=match s with
 | .FunctionDef _ a _ _ _ _ _ _ _ _=>a
 | _=>{ posonlyargs:=[],args:=[],vararg:=none,kwonlyargs:=[],kw_defaults:=[],kwarg:=none,defaults:=[] }
def Lj(s:Stmt):List Stmt:=match s with
 | .FunctionDef _ _ b _ _ _ _ _ _ _=>b
 | _=>[]
def Cf(s:Stmt):Scope:=match s with
 | .FunctionDef _ _ _ _ _ _ a _ _ _=>a
 | _=>{ kind:=.function,names:=[],isGenerator:=false,isCoroutine:=false }
abbrev Ib:zA:=λ_ _ _ _ _ _=>False
abbrev E0:XK:=λ_ _ _=>False
theorem Ey{X:Cx}:Sq Ib X E0:=λ_ _ _ _ _ _ _ h=>h.elim
structure Fun(K:PySem.W.Frag)(x qual:Str)(st:Stmt)(f:Addr)(fd:Cz):Prop where
 ex:∃(oc:Value) (od:Option Addr) (kV doc pm:Value) (an:Option Addr) (cdv ct:Value) (osl:Array (Option Value)),
  fd=PySem.W.fnOf x qual (Qb st) (Lj st) (Cf st) .none kV doc pm an cdv ct/\K.lookup f=some ⟨oc,od,.func fd,osl⟩/\PySem.W.codeIn K cdv qual=true
 kp:PySem.W.keepIn K (.ref f)=true
section
variable{P:Bp}{w:World}{K:PySem.W.Frag}{mg:Str->Option Value}{base:Heap}
theorem Fun.ok{x a:Str}{st:Stmt}{f:Addr}{g:Cz}{N ps:List Str}{k:Nat}{sp:Sp}(F:Fun K x a st f g)(S:FnScope N ps (Cf st))(len:∀vs H Q E,sp vs H Q E->vs.length=ps.length)(c:∀(b:Value) (A:Cw) (outer:List Env) (s:Ak) (H:Hp) (vs:List V) (Q:VK) (E:XK),Room k (A.deeper (Us a (Cf st) s.heap.objs.size f b))->sp vs H Q E->∃t,sJ (Pv Ib P w K mg base N a (Cf st) f b A outer s H E).nox (Lj st) t/\t { nx:=λ_ j=>Q .non j,rt:=Q } (start N vs) H):FnOk P w K mg base Ib (k+1) f g ps sp:=by
 obtain ⟨u,r,kV,l,o,p,b,v,i,rfl,n,d⟩:=F.ex
 refine FZ n d S len λA outer s H vs Q E m e=>?_
 obtain ⟨t,h,q⟩:=c b A outer s H vs Q E m e
 exact ⟨t,h.nox,q⟩
theorem Fun.binds{x a:Str}{st:Stmt}{f:Addr}{g:Cz}{ps:List Str}(F:Fun K x a st f g)(h:∀(kV b d:Value) (e:Option Addr) (c ct:Value) (us:List Value),us.length=ps.length->bindArgs (PySem.W.fnOf x a (Qb st) (Lj st) (Cf st) .none kV b d e c ct) ⟨us,[]⟩=pure (ps.zip us)):Binds K g ps []:=by
 obtain ⟨l,k,kV,b,d,e,c,ct,j,rfl,m,i⟩:=F.ex
 exact .all (h kV b d e c ct)
theorem zD{x a:Str}{st:Stmt}{f:Addr}{j:Value}{i h:Option Addr}{e:Array (Option Value)}{kV d g b ct:Value}(l:K.lookup f=some ⟨j,i,.func (PySem.W.fnOf x a (Qb st) (Lj st) (Cf st) .none kV d g h b ct),e⟩)(c:PySem.W.codeIn K b a=true)(k:PySem.W.keepIn K (.ref f)=true):Fun K x a st f (PySem.W.fnOf x a (Qb st) (Lj st) (Cf st) .none kV d g h b ct):=⟨⟨j,i,kV,d,g,h,b,ct,e,rfl,l,c⟩,k⟩
end
theorem yO{n:Nat}(h:n<=1000):n<Bf:=Nat.lt_of_le_of_lt h (by decide)
section
variable{X:Cx}
theorem pv(i:Nat){x:Str}{pos:Pos}(c:X.N[i]? = some x:=by rfl)(b:IZ X.env.scope x:=by first | exact Dc rfl | exact Va (Dc rfl) | exact Va (Va rfl))(hd:(x == ("__debug__" : Str))=false:=by decide)(a:(x == ("__classdict__" : Str))=false:=by decide):PE X (.Name x pos) (fF i):=DR c b hd a
end
theorem vZ{A B:Prop}(h:B):if false=true then A else B:=by
 rw[if_neg Cv]
 exact h
theorem vU{A B:Prop}(h:A):if true=true then A else B:=by
 rw[if_pos rfl]
 exact h
theorem GU{c A B:Prop}[Decidable c](h1:c->A)(a:¬ c->B):if c then A else B:=by
 by_cases h:c
 ·rw[if_pos h]
  exact h1 h
 ·rw[if_neg h]
  exact a h
def gO(H a:Hp):Prop:=∀b o,H b=some o->a b=some o
theorem gO.refl(H:Hp):gO H H:=λ_ _ h=>h
end L2
namespace Nd
open PySem PySem.Spec PyProof.Rows L2
def Gx(X:Cx)(a:Scope)(b:List (Str×Addr))(N:List Str)(fp:List Addr)(s:Ak)(H:Hp):Cx where
 prog:=X.prog
 w:=X.w
 K:=X.K
 mg:=X.mg
 base:=X.base
 A:=X.A
 N:=N
 s₀:=s
 H₀:=H
 env:=compEnvC a (Fq (s.heap.objs.size+1) a.names b) s.heap.objs.size X.env
 outer:=X.stack
 stack:=X.stack
 ex:=fp
 fn:=λy=>decide (a.names.lookup y=some En)
 calm:=X.calm
 pn:=[]
 xe:=λ_ _=>False
section
variable{prog:Bp}{w:World}{A:Cw}{R:Result->Ak->Prop}{s:Ak}
theorem eN{b f iter:Expr}{e:List Expr}{a:Scope}{pos:Pos}{it d:Value}{env:Env}(J:Nat->Ak->Prop) (turn:∀n s,J n s->wpAny (model prog w) A (Nk it) (λr i=>match r with
    | none=>R (.ok .next) i
    | some v=>wpAny (model prog w) A (Ye f it v) (λ_ l=>wpAny (model prog w) A (aR f env v) (λ_ o =>
      wpAny (model prog w) A (forIn e true λc r=>if r=true then (do
        let ok <- isTrue c env (eval c env)
        pure (Ge ok)) else pure (Ge r)) (λok g =>
       if ok=true then
        wpAny (model prog w) A (eval b env) (λx q=>wpAny (model prog w) A (call (.builtin "list.append") [d,x]) (λ_ j=>∃m,m<n/\J m j) (λ_ _=>False) q) (λ_ _=>False) g
       else ∃m,m<n/\J m g) (λ_ _=>False) o) (λ_ _=>False) l) (λ_ _=>False) i) (λ_ _=>False) s)
  (n:Nat) (h:J n s):Na (model prog w) A (.compLoop (.ListComp b [⟨f,iter,e,0⟩] a pos) 0 it d env) R s:=by
 refine codeAny_loop rfl J (λn s u=>?_) n h
 show wpAny _ A (Sem.onRaise (compTurn (.ListComp b [⟨f,iter,e,0⟩] a pos) 0 it d env) (λx=>do noteFrame x env; theTreesLotGoes x)) _ _ s
 refine wpAny_noted ?_
 rw[compTurn_list]
 refine Aa (wpAny_standAt (Aa (Hg (turn n s u) (λr i k=>?_) λ_ _ z=>z.elim)))
 cases r with
 | none=>exact Ag k
 | some v =>
  refine Aa (Hg k (λ_ l C=>?_) λ_ _ z=>z.elim)
  refine Aa (Hg C (λ_ o y=>?_) λ_ _ z=>z.elim)
  refine Aa (Hg y (λok g p=>?_) λ_ _ z=>z.elim)
  cases ok with
  | false=>exact Ag ⟨rfl,p⟩
  | true =>
   refine Aa (Aa (Hg p (λx q B=>?_) λ_ _ z=>z.elim))
   exact Aa (Hg B (λ_ j t=>Ag (Ag ⟨rfl,t⟩)) λ_ _ z=>z.elim)
end
section
variable{X:Cx}{a:List (Addr×Obj)}{σ:L2.St}{H:Hp}{s:Ak}{scope:Scope}{cl:List (Str×Addr)}{fp:List Addr}{N:List Str}
def EM(scope:Scope)(x:Str):Prop:=scope.names.lookup x=some .local\/scope.names.lookup x=some .cell
structure CompScope(X:Cx)(scope:Scope)(cl:List (Str×Addr))(x:Str)(ys:List Str)(js:List Nat):Prop where
 clos:closureFor scope X.env=pure cl
 oc:(∀y∈scope.names,y.2≠.cell)\/∃z:Str,(∀n,Fq n scope.names []=[(z,n)])/\scope.names.lookup z=some .cell/\∀y∈scope.names,y.2=.cell->y.1=z
 kind:scope.kind=.function
 locs:∀y∈scope.names,y.2=.local->scope.names.lookup y.1=some .local
 own:EM scope x
 sub:∀y c,cl.lookup y=some c->X.env.cells.lookup y=some c
 has_:(scope.names.all λy=>!(y.2 == Ex) || (cl.lookup y.1).isSome)=true
 nd:(x::ys).Nodup
 len:ys.length=js.length
 at_:∀(k:Nat) (y:Str) (j:Nat),ys[k]? = some y->js[k]? = some j->X.N[j]? = some y/\scope.names.lookup y=some .free/\(X.env.kindOf y=some .cell\/X.env.kindOf y=some .free)
theorem CompScope.has{x:Str}{ys:List Str}{a:List Nat}(C:CompScope X scope cl x ys a):∀y∈scope.names,y.2=.free->(cl.lookup y.1).isSome=true:=λy b e=>by
 have h:=fL.mp C.has_ y b
 rw[e] at h
 simpa using h
theorem Sz{env:Env}{y:Str}{k:Qg}:∀{names:List (Str×Qg)},
  (names.map λ(n,k)=>if (k == Ex && env.scope.kind == .function && env.kindOf n == some .cell) then (n,En) else (n,k)).lookup y=some k ->
  ∃c,names.lookup y=some c/\(k=c\/(c=.free/\k=.cell))
 | [],h=>by simp at h
 | (n,c)::r,h=>by
  have i:=@Sz env y k r
  rw[Au] at h
  by_cases d:(c == Ex && env.scope.kind == .function && env.kindOf n == some .cell)=true
  ·have a:Mq y ((n,En)::(r.map λ(n,k)=>if (k == Ex && env.scope.kind == .function && env.kindOf n == some .cell) then (n,En) else (n,k)))=some k:=by
    simpa [d] using h
   cases b:y == n with
   | true =>
    rw[Cp,b] at a
    have e:k=En:=by simpa using a.symm
    refine ⟨c,by rw[Cp,b],.inr ⟨?_,e⟩⟩
    rw[Fo,Fo] at d
    exact Ej d.1.1
   | false =>
    rw[Cp,b] at a
    obtain ⟨q,g,f⟩:=i a
    exact ⟨q,by rw[Cp,b]; exact g,f⟩
  ·have a:Mq y ((n,c)::(r.map λ(n,k)=>if (k == Ex && env.scope.kind == .function && env.kindOf n == some .cell) then (n,En) else (n,k)))=some k:=by
    simpa [d] using h
   cases b:y == n with
   | true =>
    rw[Cp,b] at a
    exact ⟨c,by rw[Cp,b],.inl (by simpa using a.symm)⟩
   | false =>
    rw[Cp,b] at a
    obtain ⟨q,g,f⟩:=i a
    exact ⟨q,by rw[Cp,b]; exact g,f⟩
theorem Wm{env:Env}{y:Str}:∀{names:List (Str×Qg)},names.lookup y=some .free ->
  (names.map λ(n,k)=>if (k == Ex && env.scope.kind == .function && env.kindOf n == some .cell) then (n,En) else (n,k)).lookup y=some .cell \/
  (names.map λ(n,k)=>if (k == Ex && env.scope.kind == .function && env.kindOf n == some .cell) then (n,En) else (n,k)).lookup y=some .free
 | [],h=>by simp at h
 | (n,k0)::r,h=>by
  have c:=@Wm env y r
  show Mq y ((if (k0 == Ex && env.scope.kind == .function && env.kindOf n == some .cell)=true then (n,En) else (n,k0))::_)=_\/Mq y ((if (k0 == Ex && env.scope.kind == .function && env.kindOf n == some .cell)=true then (n,En) else (n,k0))::_)=_
  by_cases b:(k0 == Ex && env.scope.kind == .function && env.kindOf n == some .cell)=true
  ·rw[if_pos b]
   cases a:y == n with
   | true=>exact .inl (by rw[Cp,a])
   | false =>
    rw[Cp,a] at h
    simp only[Cp,a]
    exact c h
  ·rw[if_neg b]
   cases a:y == n with
   | true =>
    rw[Cp,a] at h
    exact .inr (by rw[Cp,a]; exact h)
   | false =>
    rw[Cp,a] at h
    simp only[Cp,a]
    exact c h
theorem Ft{a c:Type}[BEq a][LawfulBEq a]{y:a}{k:c}:∀{l:List (a×c)},l.lookup y=some k->(y,k)∈l
 | [],h=>by simp at h
 | (n,v)::r,h=>by
  cases b:y == n with
  | true =>
   rw[Cp,b] at h
   have e:=Ej b
   subst e
   have : v=k:=by simpa using h
   subst this
   exact Ab
  | false =>
   rw[Cp,b] at h
   exact Ad _ (Ft h)
end
theorem lJ{a c:Nat}(h:c<a)(e:c=a+1):False:=by omega
theorem Jt:∀(names:List (Str×Qg)) (n:Nat) (a:List (Str×Addr)),Fq n names a=Fq n names []++a
 | [],_,_=>rfl
 | (x,k)::r,n,a=>by
  unfold Fq
  by_cases h:(k == En)=true
  ·rw[if_pos h,if_pos h,Jt r _ ((x,n)::a),Jt r _ [(x,n)],Cr]; rfl
  ·rw[if_neg h,if_neg h]; exact Jt r n a
theorem Pl:∀(names:List (Str×Qg)) (n:Nat) (a:List (Str×Addr)),(∀y∈names,y.2≠.cell)->Fq n names a=a
 | [],_,_,_=>rfl
 | (x,k)::r,n,a,h=>by
  unfold Fq
  rw[if_neg (by have:=h (x,k) Ab; simpa using this)]
  exact Pl r n a λy b=>h y (Ad _ b)
theorem Xa{env:Env}{y:Str}:∀{names:List (Str×Qg)},names.lookup y=some .cell->(names.map λ(n,k)=>if (k == Ex && env.scope.kind == .function && env.kindOf n == some .cell) then (n,En) else (n,k)).lookup y=some .cell
 | [],h=>by simp at h
 | (n,k0)::r,h=>by
  have c:=@Xa env y r
  show Mq y ((if (k0 == Ex && env.scope.kind == .function && env.kindOf n == some .cell)=true then (n,En) else (n,k0))::_)=_
  by_cases b:(k0 == Ex && env.scope.kind == .function && env.kindOf n == some .cell)=true
  ·rw[if_pos b]
   cases a:y == n with
   | true=>rw[Cp,a]
   | false=>rw[Cp,a] at h ⊢; exact c h
  ·rw[if_neg b]
   cases a:y == n with
   | true=>rw[Cp,a] at h ⊢; exact h
   | false=>rw[Cp,a] at h ⊢; exact c h
theorem vN{env:Env}{a:Scope}{x:Str}(o:EM a x):Loc (relabel a env) x:=o.imp lookup_relabel_local Xa
section
variable{X:Cx}{a:Scope}{d:List (Str×Addr)}{x y:Str}{ys:List Str}{f:List Nat}{n c:Nat}{N:List Str}{fp:List Addr}{s:Ak}{H:Hp}
theorem B9(o:EM a x):(Gx X a d N fp s H).fn x=true\/(Gx X a d N fp s H).env.scope.names.lookup x=some .local:=by
 rcases o with o | o
 ·exact .inr (lookup_relabel_local o)
 ·exact .inl (decide_eq_true o)
theorem CompScope.split(C:CompScope X a d x ys f)(h:(Fq n a.names d).lookup y=some c):d.lookup y=some c\/(c=n/\Fq 0 a.names []=[(y,0)]/\Fq n a.names []=[(y,n)]/\a.names.lookup y=some .cell):=by
 rcases C.oc with o | ⟨z,g,i,_⟩
 ·rw[Pl _ _ _ o] at h; exact .inl h
 ·rw[Jt,g] at h
  have b:Mq y ((z,n)::d)=some c:=h
  rw[Cp] at b
  cases e:y == z with
  | true =>
   rw[e] at b
   have j:c=n:=(Cn b).symm
   have k:=Ej e
   subst k
   exact .inr ⟨j,g 0,g n,i⟩
  | false=>rw[e] at b; exact .inl b
theorem CompScope.find(C:CompScope X a d x ys f)(h:d.lookup y=some c)(b:a.names.lookup y=some .free):(Fq n a.names d).lookup y=some c:=by
 rcases C.oc with o | ⟨z,g,i,_⟩
 ·rw[Pl _ _ _ o]; exact h
 ·rw[Jt,g]
  show Mq y ((z,n)::d)=some c
  rw[Cp]
  cases e:y == z with
  | true=>rw[Ej e,i] at b; cases b
  | false=>exact h
theorem CompScope.cellAt(C:CompScope X a d x ys f)(b:(y,En)∈a.names):(Fq n a.names d).lookup y=some n:=by
 rcases C.oc with o | ⟨z,c,h,e⟩
 ·exact absurd rfl (o _ b)
 ·have g:y=z:=e _ b rfl
  subst g
  rw[Jt,c]
  show Mq y ((y,n)::d)=some n
  rw[Cp,beq_self_eq_true]
theorem iW{M:Model}{A:Cw}{E:Value->Ak->Prop}{Q:Env->Ak->Prop}(C:CompScope X a d x ys f)(i:∀g,g.Ns s.heap.objs.size (λ_=>none)->(∀b u,s.heap.get? b=some u->g.get? b=some u)->(∀z n,Fq (s.heap.objs.size+1) a.names []=[(z,n)]->g.IsCell n none)->Q (newEnv a s.heap.objs.size X.env.globals (Fq (s.heap.objs.size+1) a.names d) X.env.qual none .none (some X.env) Wj) { s with heap:=g,toks:=s.toks+([]:List (Str×Value)).length }):wpAny M A (aO a X.env.globals d [] X.env.qual none .none (some X.env)) Q E s:=by
 simp only[aO,Option.isSome_some,if_true]
 refine Aa (wpAny_alloc (Aa (wpAny_layCells _ (λx k j=>by cases e:k == En <;> simp [e]) _ _ _ _ ?_)))
 have c:({ s with heap:=s.heap.push { cls:=.type "dict",data:=.dict #[] } }:Ak).heap.objs.size=s.heap.objs.size+1:=We ..
 rw[c]
 refine Aa (Ag (Ag (i _ ((Heap.Ns.new s.heap (.type "dict")).keeps (pushCells_keeps _ _)) (λb u e=>pushCells_keeps _ _ b u (Aj _ e)) λz n e=>?_)))
 have ok:=(cellsFrom_ok a.names (s.heap.push { cls:=.type "dict",data:=.dict #[] }) 0 [] ⟨λ_ _ h=>(nomatch h),Dz⟩ (Ds _)).empty z n
 rw[show (s.heap.push { cls:=.type "dict",data:=.dict #[] }).objs.size=s.heap.objs.size+1 from c,e] at ok
 exact (ok (Al.mpr rfl)).1
end
section
variable{X:Cx}{f:List (Addr×Obj)}{σ:L2.St}{H:Hp}{s:Ak}{a:Scope}{g:List (Str×Addr)}{fp:List Addr}{N:List Str}
theorem T7{x:Str}{ys:List Str}{F:List Nat}(C:CompScope X a g x ys F)(I:Inv X f σ H s)(t:∀b∈fp,Sf X f H b)(E:∀b∈fp,∃o,s.heap.get? b=some o):(Gx X a g N fp s H).Ok where
 mod:=I.ok.mod
 kind:=C.kind
 glob:=I.ok.glob
 blt:=I.ok.blt
 above:=Ah _
 inj:=λy z c u l=>by
  have lt:∀y,g.lookup y=some c->c<s.heap.objs.size:=λy e=>let ⟨_,q⟩:=I.cell y c (C.sub y c e); q.lt
  rcases C.split u with u | ⟨e1,D,_⟩
  ·rcases C.split l with l | ⟨w,_⟩
   ·exact I.ok.inj y z c (C.sub y c u) (C.sub z c l)
   ·exact (lJ (lt y u) w).elim
  ·rcases C.split l with l | ⟨w,v,_⟩
   ·exact (lJ (lt z l) e1).elim
   ·rw[D] at v
    simpa using v
 has:=λy hy=>by
  have p:∀k,(k=En\/k=Ex)->(compEnvC a g s.heap.objs.size X.env).kindOf y=some k->∃c,(Fq (s.heap.objs.size+1) a.names g).lookup y=some c:=by
   intro k hk e
   obtain ⟨A,B,e1⟩:=Sz (names:=a.names) (env:=X.env) (y:=y) (k:=k) e
   have m:=Ft B
   by_cases r:A=.cell
   ·exact ⟨_,C.cellAt (r▸m)⟩
   have d:A=.free:=by
    rcases e1 with e1 | e1
    ·subst e1
     rcases hk with hk | hk
     ·exact absurd hk r
     ·exact hk
    ·exact e1.1
   obtain ⟨c,i⟩:=Rl.mp (C.has _ m d)
   exact ⟨c,C.find i (d▸B)⟩
  rcases hy with hy | hy
  ·exact p _ (.inl rfl) hy
  ·exact p _ (.inr rfl) hy
 cab:=λy c h e=>by
  have h:a.names.lookup y=some .cell:=of_decide_eq_true h
  have:=(C.cellAt (n:=s.heap.objs.size+1) (Ft h)).symm.trans e
  show s.heap.objs.size<=c
  have:=Cn this
  omega
 hd:=I.ok.hd
 frames:=I.ok.frames
 stk:=.inl rfl
 exf:=λb j=>by
  obtain ⟨o,e⟩:=E b j
  refine ⟨Ck (Bm e),λy c i=>?_⟩
  rcases C.split i with i | ⟨i,_⟩
  ·exact (t b j).2.2.2.2.1 y c (C.sub y c i)
  ·exact λz=>lJ (Bm e) (z.symm.trans i)
 bs:=I.bs
 bsz:=Co I.ok.bsz I.sz
 noex:=λb o e j=>by
  rcases (t b j).2.2.2.1 with z | z
  ·exact I.ok.noex b o e z
  ·exact absurd (Cm (Bm (I.ok.bs b o e).1) z) (He _)
 exfs:=λb j z=>by
  rcases An.mp (I.stkSub b z) with e | e
  ·exact (t b j).2.1 e
  ·exact (t b j).2.2.1 e
 funs:=I.stack
 frf:=I.stkFree
 tab:=I.ok.tab.un I.base
def Ku(σ:L2.St)(a:List Nat):L2.St:=a.map λj=>(σ[j]?).join
theorem fE{x:Str}{pre ys:List Str}{B:List Nat}{h1:Heap}{tk:Nat}{N:Str->Option Value}(C:CompScope X a g x ys B)(I:Inv X f σ H s)(U:∀b∈fp,Sf X f H b)(T:∀b∈fp,∃o,s.heap.get? b=some o)(M:h1.Ns s.heap.objs.size N)(keep:∀b u,s.heap.get? b=some u->h1.get? b=some u)(K:∀z n,Fq (s.heap.objs.size+1) a.names []=[(z,n)]->h1.IsCell n none):Inv (Gx X a g (pre++ys) fp s H) [] (pre.map (λ_=>none)++Ku σ B) H { s with heap:=h1,toks:=tk }:=by
 have t:∀y c,g.lookup y=some c->∃v,s.heap.IsCell c v/\h1.IsCell c v:=λy c e=>by
  obtain ⟨v,o,q,d⟩:=I.cell y c (C.sub y c e)
  exact ⟨v,⟨o,q,d⟩,o,keep c o q,d⟩
 refine ⟨T7 C I U T,rfl,I.bare,Un.kept keep,⟨N,M,λi y v E m _=>?_⟩,λy c e=>?_,I.hok.fresh (Ah _),λy c e=>?_,λp S=>?_,I.hok.kept keep,?_⟩
 ·have m:(pre.map (λ_=>(none:Option V))++Ku σ B)[i]? = some (some v):=m
  have E:(pre++ys)[i]? = some y:=E
  by_cases W:i<pre.length
  ·rw[Gr (by rw[Ac]; exact W),Br] at m
   cases q:pre[i]? with
   | none=>rw[q] at m; cases m
   | some z=>rw[q] at m; cases m
  ·rw[Eo (by rw[Ac]; omega),Ac] at m
   rw[Eo (by omega)] at E
   have w:=E
   have h:=m
   generalize i - pre.length=k at w h
   unfold Ku at h
   rw[Br] at h
   cases J:B[k]? with
   | none=>rw[J] at h; simp at h
   | some j =>
    rw[J] at h
    have D:(σ[j]?).join=some v:=by simpa using h
    have e4:σ[j]? = some (some v):=by
     cases q:σ[j]? with
     | none=>rw[q] at D; simp at D
     | some z=>rw[q] at D; simp at D; rw[D]
    obtain ⟨Z,G,a3⟩:=C.at_ k y j w J
    obtain ⟨m0,_,hl⟩:=I.loc
    have L:IZ X.env.scope y:=a3.elim (λa3=>.inr (.inl a3)) λa3=>.inr (.inr a3)
    obtain ⟨u,r,l⟩:=hl j y v Z e4 L
    refine ⟨u,r,?_⟩
    rcases l with ⟨Y,_⟩ | ⟨_,c,Q,O⟩
    ·rcases a3 with a3 | a3 <;> rw[Y] at a3 <;> cases a3
    ·obtain ⟨F,A⟩:=Rl.mp (C.has _ (Ft G) rfl)
     have P:F=c:=by
      have:=C.sub y F A
      rw[Q] at this
      exact (Cn this).symm
     subst P
     obtain ⟨o,q,d⟩:=O
     exact .inr ⟨Wm G,F,C.find A G,o,keep F o q,d⟩
 ·rcases C.split e with e | ⟨e,_,R,_⟩
  ·obtain ⟨v,_,z⟩:=t y c e
   exact ⟨v,z⟩
  ·exact ⟨_,e▸K _ _ R⟩
 ·rcases C.split e with e | ⟨e,_⟩
  ·exact I.freeC y c (C.sub y c e)
  ·exact I.hok.fresh (by omega)
 ·cases (show p∈([]:List (Addr×Obj)) from S)
 ·show (pre.map (λ_=>(none:Option V))++Ku σ B).length=(pre++ys).length
  simp [Ku,C.len]
end
section
variable{X:Cx}
def HP(J:It)(g:List Nat)(l:TT)(n:TE)(σ:L2.St)(f:Hp)(Q:VK):Prop:=∀D,f D=none->∃W:Nat->Nat->Hp->Prop,(∃m,W 0 m (upd f D (.lst [])))/\∀i m H,W i m H ->
 (J.stop i H/\Q (.ref D) H)\/(J.go i H/\∀x h,J.yld i H x h->∃(k:Hp->Prop) (j:VK),(∀d,k d->∃b,b<m/\W (i+1) b d) /\
  (∀y e,j y e->∃a,e D=some (.lst a)/\a.length<Bf/\∃b,b<m/\W (i+1) b (upd e D (.lst (a++[y])))) /\
  l (some x::Ku σ g) h λc d=>if c=true then n (some x::Ku σ g) d j else k d)
def oI(f:TI)(e:List Nat)(b:TT)(d:TE):TE:=λa H Q=>f a H λJ c=>HP J e b d a c Q
def mH:TT:=λ_ H Q=>Q true H
def yY(X:Cx)(b:List Expr)(t:TT):Prop :=
 ∀(a:List (Addr×Obj)) (s:Ak) (d:L2.St) (H:Hp) (Q:Bool->Hp->Prop),Inv X a d H s->t d H Q ->
  wpAny (model X.prog X.w) X.A (forIn b true λc r=>if r=true then (do
   let ok <- isTrue c X.env (eval c X.env)
   pure (Ge ok)) else pure (Ge r)) (TP X a d Q) X.xe s
theorem K4:yY X [] mH:=λa s b H Q I h=>wpAny_tests_nil ⟨H,I,h⟩
theorem U9{c:Expr}{t:TT}(h:PT X c t):yY X [c] t:=λa s b H Q I q=>wpAny_tests_one (h a s b H Q I q)
theorem rN{X D:Cx}{f:List (Addr×Obj)}{σ F:L2.St}{t r:Hp}{d i:Ak}{k:Scope}{I:List (Str×Addr)}{N:List Str}{fp:List Addr}(a:Gx X k I N fp d t=D)(G:Inv X f σ t d)(C:∀b∈fp,Sf X f t b)(p:Inv D [] F r i):∃B,i.heap.Ns d.heap.objs.size B/\∀m,Fu d.heap.objs.size i.heap m->Inv X f σ r { i with heap:=m }:=by
 have H:D.prog=X.prog:=by rw[<- a]; rfl
 have M:D.w=X.w:=by rw[<- a]; rfl
 obtain ⟨B,u,_⟩:=p.loc
 have s:i.heap.Ns d.heap.objs.size B:=by rw[<- a] at u; exact u
 refine ⟨B,s,λm g=>?_⟩
 have v:r d.heap.objs.size=none:=by have:=p.free; rw[<- a] at this; exact this
 have l:Un (wC X.stack) fp t r d.heap i.heap:=by have:=p.base; rw[<- a] at this; exact this
 have j:∀b o,d.heap.get? b=some o->b≠d.heap.objs.size:=λb o q=>Ck (Bm q)
 have L:Un (wC X.stack) fp t r d.heap m:=by
  refine ⟨λb o q n h x=>(g.2 b (j b o q)).trans (l.keep b o q n h x),λb o q n h x=>?_,l.free,λb o q x=>?_,l.tups,l.frzs,l.tbls⟩
  ·obtain ⟨J,z⟩:=l.slot b o q n h x
   exact ⟨J,(g.2 b (j b o q)).trans z⟩
  ·obtain ⟨K,z⟩:=l.there b o q x
   exact ⟨K,(g.2 b (j b o q)).trans z⟩
 have y:Xs X.prog X.w r m:=λb O e=>by
  have A:=p.hok
  rw[H,M] at A
  refine (A b O e).stay (λc P hcc q=>(g.2 c ?_).trans q) (λ_ q=>q) λ_ _ q=>q
  rintro rfl
  rcases hcc with rfl | hcc
  ·rw[v] at e; cases e
  ·rw[v] at hcc; cases hcc
 have E:i.os=d.os:=by have:=p.os; rw[<- a] at this; exact this
 exact G.call' (s':={ i with heap:=m }) (ch:=fp) E L y p.bare (λb h=>⟨(C b h).2.2.2.1,(C b h).2.1,(C b h).2.2.2.2.1,(C b h).2.2.2.2.2⟩)
theorem iV{X e:Cx}{f:L2.St}{q n:Hp}{k j:Ak}{c:Scope}{m:List (Str×Addr)}{N:List Str}{fp:List Addr}(d:Gx X c m N fp k q=e)(l:Inv e [] f n j){h:Hp}(o:∀b∈fp,h b=none):∀b∈fp,Sf e [] h b:=λb g=>by
 have ok:=l.ok
 have a:b∈e.ex:=by rw[<- d]; exact g
 exact ⟨o b g,(ok.exf b a).1,ok.exfs b a,.inl a,(ok.exf b a).2,λp i=>by rw[<- d] at i; cases (show p∈([]:List (Addr×Obj)) from i)⟩
theorem nP{X b:Cx}{g:Hp}{e:Ak}{a:Scope}{f:List (Str×Addr)}{N:List Str}{fp:List Addr}(d:X.calm=true)(c:Gx X a f N fp e g=b):b.prog=X.prog/\b.w=X.w/\b.K=X.K/\b.A=X.A/\b.calm=true:=by
 subst c
 exact ⟨rfl,rfl,rfl,rfl,d⟩
theorem wG{X o:Cx}{a:List (Addr×Obj)}{σ k:L2.St}{m n:Hp}{e g:Ak}{c:Scope}{q:List (Str×Addr)}{N:List Str}{fp:List Addr}(l:Gx X c q N fp e m=o)(p:Inv X a σ m e)(h:∀b∈fp,Sf X a m b)(d:Inv o [] k n g):(∃j,g.heap.Ns e.heap.objs.size j)/\n e.heap.objs.size=none/\Inv X a σ n g:=by
 subst l
 obtain ⟨j,i,_⟩:=d.loc
 exact ⟨⟨j,i⟩,d.free,p.call' (s':=g) (ch:=fp) d.os d.base d.hok d.bare (λb f=>⟨(h b f).2.2.2.1,(h b f).2.1,(h b f).2.2.2.2.1,(h b f).2.2.2.2.2⟩)⟩
theorem pG{X:Cx}{a:List (Addr×Obj)}{σ:L2.St}{h:Hp}{c:Ak}{k:Expr}{J:It}{fp:List Addr}{it:Addr}{f:Nat->Heap->Prop}(l:Inv X a σ h c)(T:Turn X.prog X.w X.K k J fp it f)(e:f 0 c.heap)(j:∀b∈fp,Sf X a h b){g:Obj}{i:HO}(m:Inv X a σ (upd h c.heap.objs.size i) { c with heap:=c.heap.push g }):(∀b∈fp,Sf X a (upd h c.heap.objs.size i) b)/\f 0 (c.heap.push g)/\∀b∈fp,∃o,(c.heap.push g).get? b=some o:=by
 have Uy:f 0 (c.heap.push g):=T.keep 0 _ _ e λb d o q=>Aj _ q
 refine ⟨λb d=>⟨?_,(j b d).2⟩,Uy,λb d=>?_⟩
 ·rw[Fi ?_]
  ·exact (j b d).1
  ·intro z
   obtain ⟨o,q,_⟩:=T.obj _ _ e b d
   have:=Bm q
   rw[z] at this
   exact absurd this (He _)
 ·obtain ⟨o,q,_⟩:=T.obj _ _ Uy b d
  exact ⟨o,q⟩
theorem lS{E iter:Expr}{x:Str}{px pos:Pos}{M:List Expr}{a:Scope}{G:List (Str×Addr)}{ys:List Str}{K:List Nat}{wi:TI}{tc:TT}{te:TE}(C:CompScope X a G x ys K)(hc:X.calm=true)(hi:PI X (.Name x px) iter wi)(ht:∀fp s H,yY (Gx X a G (x::ys) fp s H) M tc)(he:∀fp s H,PE (Gx X a G (x::ys) fp s H) E te)(hs:∀x,Hz iter X.env x=pure x:=by intro _; rfl):PE X (.ListComp E [⟨.Name x px,iter,M,0⟩] a pos) (oI wi K tc te):=by
 intro j s B H Q I h
 rw[eval_ListComp]
 refine zC (use:=none) rfl hs C.clos C.kind C.locs (Ir (hi j s B H _ I h) λv s1 h1=>Ir h1 λj6 d h2=>?_)
 obtain ⟨it,fp,tn,J,H2,e,I2,T,q0,f2,q2⟩:=h2
 subst e
 have fD:H2 d.heap.objs.size=none:=I2.hok.fresh (Ah _)
 obtain ⟨W,⟨m0,w0⟩,Z⟩:=q2 d.heap.objs.size fD
 refine Dy ?_
 have I3:Inv X j B (upd H2 d.heap.objs.size (.lst [])) { d with heap:=d.heap.push { cls:=.type "list",dict:=none,data:=.seq ([]:List Value).toArray } } :=
  I2.laid (t':=d.toks) (λb u q=>Aj _ q) (Ah _) ⟨Ds _,[],0,.nil,Bi _ rfl⟩
 obtain ⟨f3,k1,k7⟩:=pG I2 T q0 f2 I3
 generalize h3:({ d with heap:=d.heap.push { cls:=.type "list",dict:=none,data:=.seq ([]:List Value).toArray } }:Ak)=s3 at I3
 have Uy:tn 0 s3.heap:=by rw[<- h3]; exact k1
 have o3:∀b∈fp,∃o,s3.heap.get? b=some o:=by rw[<- h3]; exact k7
 show wpAny _ _ (aO a X.env.globals G [] X.env.qual none .none (some X.env)) _ _ _
 refine iW C λh4 k0 g h5=>?_
 have I4:∀tk,Inv (Gx X a G (x::ys) fp s3 (upd H2 d.heap.objs.size (.lst []))) [] (none::Ku B K) (upd H2 d.heap.objs.size (.lst [])) { s3 with heap:=h4,toks:=tk }:=λtk=>fE (pre:=[x]) C I3 f3 o3 k0 g h5
 have Y:tn 0 h4:=T.keep 0 _ _ Uy λb F o q=>g b o q
 generalize p:Gx X a G (x::ys) fp s3 (upd H2 d.heap.objs.size (.lst []))=X' at I4
 obtain ⟨eP,eW,eK,eA,eC⟩:=nP hc p
 have l:∀{f:Hp},(∀b∈fp,f b=none)->∀b∈fp,Sf X' [] f b:=λ{f} hn=>iV p (I4 0) hn
 have D:∀s5:Ak,s5={ s3 with heap:=h4,toks:=s3.toks+([]:List (Str×Value)).length } ->
   Na (model X.prog X.w) X.A (.compLoop (.ListComp E [⟨.Name x px,iter,M,0⟩] a pos) 0 (.ref it) (.ref d.heap.objs.size) (compEnvC a (Fq (s3.heap.objs.size+1) a.names G) s3.heap.objs.size X.env))
    (compPost (model X.prog X.w) X.A X.xe none (EP X j B Q) (.ref d.heap.objs.size) s3.heap.objs.size) s5:=by
  rintro s5 rfl
  refine eN (λn s'=>∃i o f,Inv X' [] (o::Ku B K) f s'/\tn i s'.heap/\(∀b∈fp,f b=none)/\W i n f) ?_ m0
   ⟨0,none,_,I4 _,Y,λb F=>(f3 b F).1,w0⟩
  (intro n s6 q_; obtain ⟨i,o,H6,I6,R,h6,w6⟩ := q_)
  rcases Z i n H6 w6 with ⟨h0,qn⟩ | ⟨go,step⟩
  ·have hd:=T.done X' eP eW eK eC i [] s6 _ H6 (λ_ _=>False) I6 (l h6) R h0
   rw[eA] at hd
   refine Ir hd λr s7 c => ?_
   obtain ⟨hr,I7⟩ := c
   subst hr
   obtain ⟨m7,k8,V⟩:=rN p I3 f3 I7
   exact ⟨m7,k8,λh8 j0=>⟨.ref d.heap.objs.size,H6,V h8 j0,rfl,qn⟩⟩
  ·have k2:=T.item X' eP eW eK eC i [] s6 _ H6 (λ_ _=>False) I6 (l h6) R go
   rw[eA] at k2
   refine Ir k2 λr s7 c => ?_
   obtain ⟨u,hr,h7⟩ := c
   subst hr
   refine Ir h7 λ_ s8 c => ?_
   obtain ⟨y,H8,I8,r8,y8,L,j3⟩ := c
   have j2:=I8.pinned (l j3) (T.obj _ _ L)
   obtain ⟨N1,N2,k5,q4,k6⟩:=step y H8 y8
   have k:∀{H9:Hp} {N:Ak} {O:Nat},Inv X' ([]++Zi fp s8.heap) (some y::Ku B K) H9 N->O<n->W (i+1) O H9->∃m,m<n/\∃i o f,Inv X' [] (o::Ku B K) f N/\tn i N.heap/\(∀b∈fp,f b=none)/\W i m f:=λ{H9 N O} I9 S w9=>by
    refine ⟨O,S,i+1,some y,H9,I9.unpinned,T.keep _ _ _ L λb F o e=>(I9.pin (b,o) (Av _ (Av _ (Mw F e)))).1,λb F=>?_,w9⟩
    obtain ⟨o,e,_⟩:=T.obj _ _ L b F
    exact (I9.pin (b,o) (Av _ (Av _ (Mw F e)))).2.1
   subst p
   refine Ir (bN (i:=0) (x:=x) (pos:=px) C.nd rfl (vN C.own) (B9 C.own) _ s8 _ H8 y u (λq8 f=>q8=some y::Ku B K/\f=H8) j2 r8 ⟨rfl,rfl⟩) λ_ N c => ?_
   obtain ⟨j4,H9,I9,e9,k4⟩ := c
   subst e9 k4
   refine Ir (ht fp s3 _ _ N _ _ _ I9 k6) λok j1 c => ?_
   obtain ⟨j7,h9,t⟩ := c
   cases ok with
   | false =>
    rw[if_neg Cv] at t ⊢
    obtain ⟨O,S,q6⟩:=k5 _ t
    exact k h9 S q6
   | true =>
    rw[if_pos rfl] at t ⊢
    refine Ir (he fp s3 _ _ j1 _ _ _ h9 t) λz q3 c => ?_
    obtain ⟨vz,U,q7,q5,q9⟩ := c
    obtain ⟨P,ha,hz,O,S,q1⟩:=q4 _ _ q9
    refine Ir (Tv _ q3 _ U (.ref d.heap.objs.size) [vz] (.ref d.heap.objs.size) [z] (λ_ f=>f=upd U d.heap.objs.size (.lst (P++[vz]))) q7 rfl (.cons q5 .nil) ⟨_,P,vz,rfl,rfl,ha,hz,rfl⟩) λ_ j8 c => ?_
    obtain ⟨_,j5,k9,_,k3⟩ := c
    subst k3
    exact k k9 S q1
 exact M9 (D _ rfl) (T.self X.A 0 _ _ _ Y (D _ rfl))
end
theorem Gn{H:Hp}{p:Addr}(h:H p=none)(o:HO):gO H (upd H p o):=λb u q=>by rw[Fi (Gc q h)]; exact q
theorem Rf{a:Type}{xs:List a}{i:Nat}{x:a}(h:xs[i]? = some x):xs.take (i+1)=xs.take i++[x]:=by
 rw[List.take_succ,h]; rfl
mutual
inductive RdV (K:PySem.W.Frag) (H:Hp):V->Ae->Prop
 | non:RdV K H .non .none
 | bl (b:Bool):RdV K H (.bl b) (.bool b)
 | int (i:Int):RdV K H (.int i) (.int i)
 | str (x:Str):RdV K H (.str x) (.str x)
 | lst {a:Addr} {xs:List V} {ds:List Ae}:Ux K H a xs->RdVs K H xs ds->RdV K H (.ref a) (.list ds)
 | tup {a:Addr} {xs:List V} {ds:List Ae}:Vp K H a xs->RdVs K H xs ds->RdV K H (.ref a) (.tuple ds)
inductive RdVs (K:PySem.W.Frag) (H:Hp):List V->List Ae->Prop
 | nil:RdVs K H [] []
 | cons {x:V} {d:Ae} {xs:List V} {ds:List Ae}:RdV K H x d->RdVs K H xs ds->RdVs K H (x::xs) (d::ds)
end
mutual
def GR(b:Nat):Ae->Prop
 | .none=>True
 | .bool _=>True
 | .int i=>i.natAbs<10 ^ b
 | .str x=>(reprText x).length<=b
 | .list a=>mD b a
 | .tuple a=>mD b a
 | .dict _=>False
def mD(b:Nat):List Ae->Prop
 | []=>True
 | x::xs=>GR b x/\mD b xs
end
mutual
def AE:Ae->Nat
 | .list a=>eU a+1
 | .tuple a=>eU a+1
 | _=>1
def eU:List Ae->Nat
 | []=>0
 | x::xs=>AE x+eU xs
end
theorem sG(ns:List Int):Bu (ns.map Bq)=0:=by
 induction ns with
 | nil=>rfl
 | cons n ns a=>simp only[Au,Bu,Dq,a,Nat.max_self]
theorem aH{m:Nat}:∀{xs:List Ae},(∀x∈xs,x.depth<=m)->Bu xs<=m
 | [],_=>by simp [Bu]
 | x::xs,h=>by
  have b:=h x (Ab ..)
  have c:=aH (xs:=xs) λy a=>h y (Ad _ a)
  simp only[Bu]
  omega
theorem Fz.at'{xs:List V}{us:List Value}(r:Fz xs us){j:Nat}(h:j<us.length):∃x,xs[j]? = some x/\RelV x us[j]:=by
 have d:=r.length
 have b:j<xs.length:=by omega
 obtain ⟨u,a,c⟩:=r.get (i:=j) (x:=xs[j]) (by simp [b])
 rw[Bk h] at a
 cases a
 exact ⟨xs[j],by simp [b],c⟩
section
variable{X:Cx}{a:List (Addr×Obj)}{σ:L2.St}{H:Hp}{s:Ak}{A:Cw}
theorem Zn(A:Cw):A.in1.units<=A.units+1:=by
 first | exact Ah _ | (simp [Around.in1]; done) | (unfold Around.in1; simp)
theorem qA:Jh X (.builtin "isinstance") (λxs H Q=>∃x n t b,xs=[x,.ty n]/\TyOf X.K H x t/\PySem.W.kitOne X.K t (.type n)=some b/\Q (.bl b) H):=by
 intro a s σ H xs f Q I r h
 obtain ⟨x,n,t,b,rfl,ty,e,q⟩:=h
 obtain ⟨u,v,rfl,c,d⟩:=vals2 r
 cases d
 exact yE I c ty e λg=>⟨.bl b,H,I.tok _,rfl,q⟩
theorem pX(G:X.calm=true):Jh X (.builtin "all") (λxs H Q=>∃(p:Addr) (bs:List Bool),xs=[.ref p]/\Ux X.K H p (bs.map V.bl)/\Q (.bl (bs.all id)) H):=by
 intro a s σ H xs U Q I r h
 obtain ⟨p,bs,rfl,L,q⟩:=h
 obtain ⟨u,rfl,D⟩:=vals1 r
 cases D
 obtain ⟨c,t,m,_⟩:=I.list L
 have f:c.toArray.size=bs.length:=by
  have:=t.length
  rw[Ac] at this
  rw[Ar]; omega
 refine call_all_walk (Tj m.isList ?_)
 have R:X.A.in1.handled=none:=I.ok.hd G
 have E:p≠s.heap.objs.size:=Ck (let ⟨o,q,_⟩:=m.isList; Bm q)
 refine ⟨s.heap.objs.size,_,_,_,_,_,λi=>bs.getD i false,rfl,Walks.list R s.heap.objs.size p E c.toArray,⟨⟨_,Bi _ rfl,rfl,rfl⟩,m.isList.push _⟩,?_,?_⟩
 ·intro i v J P T F S
  have d:c[i]? = some v:=by simpa using F
  have y:i<c.length:=(Ai.mp d).1
  obtain ⟨x,k,B⟩:=Fz.at' t y
  rw[Bk y] at d
  have g:c[i]=v:=Cn d
  rw[g] at B
  rw[Br] at k
  cases n:bs[i]? with
  | none=>rw[n] at k; cases k
  | some b =>
   rw[n] at k
   cases k
   cases B
   have : bs.getD i false=b:=by simp [La,n]
   have l:P (bs.getD i false) J:=S
   rw[this] at l
   exact Hy l
 ·intro h' N M
  have e:((Bg c.toArray.size).all λi=>bs.getD i false)=bs.all id:=by
   rw[f]
   have : bs=(Bg bs.length).map (λj=>bs.getD j false):=(range_getD bs false).symm
   conv=>rhs; rw[this]
   rw[bJ]
   rfl
  rw[e]
  refine ⟨.bl _,H,I.kept (h':=h') (t':=N) (λb o C=>M b o ?_ (Aj _ C)),rfl,q⟩
  intro z
  have O:b=s.heap.objs.size:=by simpa using z
  have w:=Bm C
  rw[O] at w
  exact absurd w (He _)
end
section
variable{prog:Bp}{w:World}{A:Cw}{E:Value->Ak->Prop}{s:Ak}
theorem Uw{t g:Addr}{a:Array Value}{m k:Value}{lo l:Option Int}{Q:Value->Ak->Prop}(c:IsTup s.heap t a)(j:s.heap.IsSliceOf g m k .none)(q:aV m lo)(r:aV k l)(hw:HT.sIx a.size 0 lo=0/\HT.sIx a.size a.size l=a.size)(h:Q (.ref t) s):wpAny (model prog w) A (Tp (.ref t) (.ref g)) Q E s:=by
 obtain ⟨o,f,e,p⟩:=id j
 have d:s.TypeIs (.ref g) "slice" := ⟨o,f,e⟩
 unfold Tp
 try with_reducible refine Dn ?_
 first | refine Aa (Ag ?_) | skip
 refine Aa (jF c.typeIs (by decide) ?_)
 refine Aa (Gf (name:=Fv "__getitem__") c.typeIs Fc
  (Es Fc c.typeIs entry_tuple_getitem ?_ (args_tuple_getitem _ _)))
 show wpAny _ _ (Yn (.ref t) >>= _) _ _ s
 refine Aa (tupleItemsOf_ c ?_)
 refine Aa (Mb d ?_)
 rw[if_pos (by decide)]
 refine Aa (HT.sliceApplied_gen j q r ?_)
 rw[hw.1,hw.2]
 have b:(((0:Nat):Int) == 0 && (1:Int) == 1 && (a.size - 0) == a.size)=true:=by simp
 show wpAny _ _ (if (((0:Nat):Int) == 0 && (1:Int) == 1 && (a.size - 0) == a.size)=true then _ else _) _ _ s
 rw[if_pos b]
 have i:∀{R:Bool->Ak->Prop},R true s->wpAny (model prog w) A.in1 (Yo (.ref t)) R E s:=λ{R} n=>by
  unfold Yo
  refine Aa (Mb c.typeIs (Ag ?_))
  rw[beq_self_eq_true]
  exact n
 refine Aa (i ?_)
 rw[if_pos rfl]
 exact Aa (fP (Ag ⟨_,rfl,Ag h⟩))
end
mutual
def Ep:Ae->Ae->Bool
 | .none,.none=>true
 | .bool a,.bool b=>a == b
 | .bool a,.int b=>(if a then 1 else 0) == b
 | .int a,.bool b=>a == (if b then 1 else 0)
 | .int a,.int b=>a == b
 | .str a,.str b=>a == b
 | .list xs,.list ys=>Pu xs ys
 | .tuple xs,.tuple ys=>Pu xs ys
 | _,_=>false
def Pu:List Ae->List Ae->Bool
 | [],[]=>true
 | x::xs,y::ys=>Ep x y && Pu xs ys
 | _,_=>false
end
theorem Pk:∀a es:List Ae,(((Bg (min a.length es.length)).all λj=>Ep (a.getD j .none) (es.getD j .none)) && a.length == es.length)=Pu a es
 | [],[]=>by simp [Pu]
 | [],_::_=>by simp [Pu]
 | _::_,[]=>by simp [Pu]
 | d::a,e::es=>by
  have c:=Pk a es
  rw[Pu,<- c]
  have b:min (d::a).length (e::es).length=min a.length es.length+1:=by simp only[Bd]; omega
  rw[b,List.range_succ_eq_map,List.all_cons,bJ]
  have f:((d::a).length == (e::es).length)=(a.length == es.length):=by
   rw[Bool.eq_iff_iff]; simp
  rw[f,Bool.and_assoc]
  rfl
section
variable{X:Cx}{a:List (Addr×Obj)}{σ:L2.St}{H:Hp}{s:Ak}{K:PySem.W.Frag}
mutual
theorem RdV.eqD_self:∀{v:V} {d:Ae},RdV K H v d->Ep d d=true
 | _,_,.non=>by simp [Ep]
 | _,_,.bl b=>by simp [Ep]
 | _,_,.int i=>by simp [Ep]
 | _,_,.str x=>by simp [Ep]
 | _,_,.lst _ h=>by rw[Ep]; exact RdVs.eqDs_self h
 | _,_,.tup _ h=>by rw[Ep]; exact RdVs.eqDs_self h
theorem RdVs.eqDs_self:∀{vs:List V} {a:List Ae},RdVs K H vs a->Pu a a=true
 | _,_,.nil=>by simp [Pu]
 | _,_,.cons h t=>by rw[Pu,RdV.eqD_self h,RdVs.eqDs_self t]; rfl
end
theorem pI(I:Inv X pins σ H s){a:Addr}{xs ys:List V}(h1:Ux X.K H a xs)(b:Vp X.K H a ys):False:=by
 obtain ⟨e,_,d,_⟩:=I.list h1
 obtain ⟨vs,_,c,_⟩:=I.tuple b
 exact SeqAt.ne_of_list_tuple d.isList c rfl
mutual
theorem RdV.det(I:Inv X pins σ H s):∀{v:V} {d e:Ae},RdV X.K H v d->RdV X.K H v e->d=e
 | _,_,_,.non,h=>by cases h; rfl
 | _,_,_,.bl b,h=>by cases h; rfl
 | _,_,_,.int i,h=>by cases h; rfl
 | _,_,_,.str x,h=>by cases h; rfl
 | _,_,_,.lst q r,h=>by
  cases h with
  | lst a c =>
   have e:=I.list_inj q a
   subst e
   rw[RdVs.det I r c]
  | tup a c=>exact (pI I q a).elim
 | _,_,_,.tup q r,h=>by
  cases h with
  | lst a c=>exact (pI I a q).elim
  | tup a c =>
   have e:=I.tuple_inj q a
   subst e
   rw[RdVs.det I r c]
theorem RdVs.det(I:Inv X pins σ H s):∀{vs:List V} {a es:List Ae},RdVs X.K H vs a->RdVs X.K H vs es->a=es
 | _,_,_,.nil,h=>by cases h; rfl
 | _,_,_,.cons r t,h=>by
  cases h with
  | cons b c=>rw[RdV.det I r b,RdVs.det I t c]
end
theorem RdVs.length:∀{vs:List V} {a:List Ae},RdVs K H vs a->vs.length=a.length
 | _,_,.nil=>rfl
 | _,_,.cons _ t=>by rw[Bd,Bd,RdVs.length t]
theorem Zh{A:Cw}{n:Nat}(h:A.units+(n+1)<cLine):A.in1.units+n<cLine:=by
 have:=Zn A
 omega
theorem oM{A:Cw}{a b:Addr}{us vs:List Value}{c es:List Ae}(i:PlainL s.heap a us.toArray)(g:PlainL s.heap b vs.toArray)(l1:us.length=c.length)(l2:vs.length=es.length)(k:A.units<cLine)(m:∀j (h1:j<us.length) (l:j<vs.length),Nt A.in1 s us[j] vs[j] (Ep (c.getD j .none) (es.getD j .none))):SeqAt.RcAt A s (.ref a) (.ref b) (Pu c es):=by
 rw[<- Pk]
 by_cases d:c.length=es.length
 ·have f:us.toArray.size=vs.toArray.size:=by rw[Ar,Ar,l1,l2,d]
  have h:=SeqAt.RcAt.lists (A:=A) (e:=λj=>Ep (c.getD j .none) (es.getD j .none)) i.isList g.isList f k (λj h1 l=>by simpa using m j (by simpa using h1) (by simpa using l))
  rw[Ar,l1] at h
  rw[d,Nat.min_self,beq_self_eq_true,Bool.and_true,<- d]
  exact h
 ·have f:(us.toArray.size != vs.toArray.size)=true:=by rw[Ar,Ar,l1,l2]; simpa using d
  have h:=SeqAt.RcAt.lists_lengths (A:=A) i.isList g.isList f k
  have n:(c.length == es.length)=false:=by simpa using d
  rw[n,Qp]
  exact h
theorem hZ{A:Cw}{a b:Addr}{us vs:List Value}{c es:List Ae}(g:IsTup s.heap a us.toArray)(f:IsTup s.heap b vs.toArray)(l1:us.length=c.length)(l2:vs.length=es.length)(i:A.units<cLine)(k:∀j (h1:j<us.length) (d:j<vs.length),Nt A.in1 s us[j] vs[j] (Ep (c.getD j .none) (es.getD j .none))):SeqAt.RcAt A s (.ref a) (.ref b) (Pu c es):=by
 rw[<- Pk]
 have h:=SeqAt.RcAt.tuples (A:=A) (e:=λj=>Ep (c.getD j .none) (es.getD j .none)) (show s.heap.IsTuple a us.toArray from g) (show s.heap.IsTuple b vs.toArray from f) i (λj h1 d=>by simpa using k j (by simpa using h1) (by simpa using d))
 rw[Ar,Ar,l1,l2] at h
 exact h
mutual
theorem p8(I:Inv X pins σ H s):∀{A:Cw} {x y:V} {d e:Ae} {u v:Value},RdV X.K H x d->RdV X.K H y e->RelV x u->RelV y v->A.units+d.depth<cLine->Nt A s u v (Ep d e)
 | A,_,_,_,_,_,_,.non,h,ru,rv,hu=>by
  cases ru
  have c:A.units<cLine:=by omega
  cases h with
  | non=>cases rv; rw[Ep]; exact SeqAt.EqAt.same _
  | bl b=>cases rv; rw[Ep]; exact SeqAt.EqAt.none_bool b; all_goals simp
  | int b=>obtain ⟨t,rfl⟩:=rv; rw[Ep]; exact SeqAt.EqAt.none_int b t; all_goals simp
  | str b=>obtain ⟨t,rfl⟩:=rv; rw[Ep]; exact SeqAt.EqAt.none_str b t; all_goals simp
  | lst q r=>cases rv; obtain ⟨l,_,p,_⟩:=I.list q; rw[Ep]; exact SeqAt.EqAt.none_list p.isList c; all_goals simp
  | tup q r=>cases rv; obtain ⟨l,_,p,_⟩:=I.tuple q; rw[Ep]; exact SeqAt.EqAt.none_tuple p c; all_goals simp
 | A,_,_,_,_,_,_,.bl a,h,ru,rv,hu=>by
  cases ru
  have c:A.units<cLine:=by omega
  cases h with
  | non=>cases rv; rw[Ep]; exact SeqAt.EqAt.bool_none a; all_goals simp
  | bl b=>cases rv; rw[Ep]; exact SeqAt.EqAt.bool_bool a b
  | int b=>obtain ⟨t,rfl⟩:=rv; rw[Ep]; exact SeqAt.EqAt.bool_int a b t
  | str b=>obtain ⟨t,rfl⟩:=rv; rw[Ep]; exact SeqAt.EqAt.bool_str a b t; all_goals simp
  | lst q r=>cases rv; obtain ⟨l,_,p,_⟩:=I.list q; rw[Ep]; exact SeqAt.EqAt.bool_list a p.isList c; all_goals simp
  | tup q r=>cases rv; obtain ⟨l,_,p,_⟩:=I.tuple q; rw[Ep]; exact SeqAt.EqAt.bool_tuple a p c; all_goals simp
 | A,_,_,_,_,_,_,.int a,h,ru,rv,hu=>by
  obtain ⟨g,rfl⟩:=ru
  have c:A.units<cLine:=by omega
  cases h with
  | non=>cases rv; rw[Ep]; exact SeqAt.EqAt.int_none a g; all_goals simp
  | bl b=>cases rv; rw[Ep]; exact SeqAt.EqAt.int_bool a g b
  | int b=>obtain ⟨t,rfl⟩:=rv; rw[Ep]; exact SeqAt.EqAt.int_int a g b t
  | str b=>obtain ⟨t,rfl⟩:=rv; rw[Ep]; exact SeqAt.EqAt.int_str a g b t; all_goals simp
  | lst q r=>cases rv; obtain ⟨l,_,p,_⟩:=I.list q; rw[Ep]; exact SeqAt.EqAt.int_list a g p.isList c; all_goals simp
  | tup q r=>cases rv; obtain ⟨l,_,p,_⟩:=I.tuple q; rw[Ep]; exact SeqAt.EqAt.int_tuple a g p c; all_goals simp
 | A,_,_,_,_,_,_,.str a,h,ru,rv,hu=>by
  obtain ⟨g,rfl⟩:=ru
  have c:A.units<cLine:=by omega
  cases h with
  | non=>cases rv; rw[Ep]; exact SeqAt.EqAt.str_none a g; all_goals simp
  | bl b=>cases rv; rw[Ep]; exact SeqAt.EqAt.str_bool a g b; all_goals simp
  | int b=>obtain ⟨t,rfl⟩:=rv; rw[Ep]; exact SeqAt.EqAt.str_int a g b t; all_goals simp
  | str b=>obtain ⟨t,rfl⟩:=rv; rw[Ep]; exact SeqAt.EqAt.str_str a g b t
  | lst q r=>cases rv; obtain ⟨l,_,p,_⟩:=I.list q; rw[Ep]; exact SeqAt.EqAt.str_list a g p.isList c; all_goals simp
  | tup q r=>cases rv; obtain ⟨l,_,p,_⟩:=I.tuple q; rw[Ep]; exact SeqAt.EqAt.str_tuple a g p c; all_goals simp
 | A,_,_,_,_,_,_,@RdV.lst _ _ a xs ds q r,h,ru,rv,hu=>by
  cases ru
  have c:A.units<cLine:=by omega
  obtain ⟨l,n,p,_⟩:=I.list q
  cases h with
  | non=>cases rv; rw[Ep]; exact SeqAt.EqAt.list_none p.isList c; all_goals simp
  | bl b=>cases rv; rw[Ep]; exact SeqAt.EqAt.list_bool b p.isList c; all_goals simp
  | int b=>obtain ⟨t,rfl⟩:=rv; rw[Ep]; exact SeqAt.EqAt.list_int b t p.isList c; all_goals simp
  | str b=>obtain ⟨t,rfl⟩:=rv; rw[Ep]; exact SeqAt.EqAt.list_str b t p.isList c; all_goals simp
  | @lst b C B k f =>
   cases rv
   obtain ⟨vs,o,m,_⟩:=I.list k
   rw[Ep]
   by_cases i:a=b
   ·subst i
    have e:=I.list_inj q k
    subst e
    rw[<- RdVs.det I r f,RdVs.eqDs_self r]
    exact SeqAt.EqAt.same _
   ·refine SeqAt.EqAt.of_refs i (oM p m (n.length.symm.trans r.length) (o.length.symm.trans f.length) c λj w z=>?_)
    exact Rq I r f n o (Zh (by simpa only [Dq] using hu)) j w z
  | tup k f=>cases rv; obtain ⟨vs,_,m,_⟩:=I.tuple k; rw[Ep]; exact SeqAt.EqAt.list_tuple p.isList m c; all_goals simp
 | A,_,_,_,_,_,_,@RdV.tup _ _ a xs ds q r,h,ru,rv,hu=>by
  cases ru
  have c:A.units<cLine:=by omega
  obtain ⟨l,n,p,_⟩:=I.tuple q
  cases h with
  | non=>cases rv; rw[Ep]; exact SeqAt.EqAt.tuple_none p c; all_goals simp
  | bl b=>cases rv; rw[Ep]; exact SeqAt.EqAt.tuple_bool b p c; all_goals simp
  | int b=>obtain ⟨t,rfl⟩:=rv; rw[Ep]; exact SeqAt.EqAt.tuple_int b t p c; all_goals simp
  | str b=>obtain ⟨t,rfl⟩:=rv; rw[Ep]; exact SeqAt.EqAt.tuple_str b t p c; all_goals simp
  | lst k f=>cases rv; obtain ⟨vs,_,m,_⟩:=I.list k; rw[Ep]; exact SeqAt.EqAt.tuple_list p m.isList c; all_goals simp
  | @tup b C B k f =>
   cases rv
   obtain ⟨vs,o,m,_⟩:=I.tuple k
   rw[Ep]
   by_cases i:a=b
   ·subst i
    have e:=I.tuple_inj q k
    subst e
    rw[<- RdVs.det I r f,RdVs.eqDs_self r]
    exact SeqAt.EqAt.same _
   ·refine SeqAt.EqAt.of_refs i (hZ p m (n.length.symm.trans r.length) (o.length.symm.trans f.length) c λj w z=>?_)
    exact Rq I r f n o (Zh (by simpa only [Dq] using hu)) j w z
theorem Rq(I:Inv X pins σ H s):∀{A:Cw} {xs ys:List V} {a es:List Ae} {us vs:List Value},RdVs X.K H xs a->RdVs X.K H ys es->Fz xs us->Fz ys vs->A.units+Bu a<cLine->∀j (h1:j<us.length) (b:j<vs.length),Nt A s us[j] vs[j] (Ep (a.getD j .none) (es.getD j .none))
 | _,_,_,_,_,_,_,.nil,_,r1,_,_=>λj h1 b=>by cases r1; exact absurd h1 (Dv _)
 | A,_,_,_,_,_,_,@RdVs.cons _ _ x d xs a r t,h,r1,r2,hu=>λj h1 b=>by
  cases h with
  | nil=>cases r2; exact absurd b (Dv _)
  | cons f g =>
   cases r1 with
   | cons e i =>
    cases r2 with
    | cons k l =>
     have c:A.units+d.depth<cLine/\A.units+Bu a<cLine:=by
      simp only[Bu] at hu
      omega
     cases j with
     | zero=>simpa using p8 I r f e k c.1
     | succ j=>simpa using Rq I t g i l c.2 j (by simpa using h1) (by simpa using b)
end
end
section
variable{X:Cx}{c:List (Addr×Obj)}{σ:L2.St}{H:Hp}{s:Ak}{K:PySem.W.Frag}
theorem xG{A:Cw}{a b:Addr}{us vs:List Value}{c es:List Ae}(i:PlainL s.heap a us.toArray)(g:PlainL s.heap b vs.toArray)(l1:us.length=c.length)(l2:vs.length=es.length)(k:A.units<cLine)(m:∀j (h1:j<us.length) (l:j<vs.length),Nt A.in1 s us[j] vs[j] (Ep (c.getD j .none) (es.getD j .none))):SeqAt.RcNeAt A s (.ref a) (.ref b) (!Pu c es):=by
 rw[<- Pk]
 by_cases d:c.length=es.length
 ·have f:us.toArray.size=vs.toArray.size:=by rw[Ar,Ar,l1,l2,d]
  have h:=SeqAt.RcNeAt.lists (A:=A) (e:=λj=>Ep (c.getD j .none) (es.getD j .none)) i.isList g.isList f k (λj h1 l=>by simpa using m j (by simpa using h1) (by simpa using l))
  rw[Ar,l1] at h
  rw[d,Nat.min_self,beq_self_eq_true,Bool.and_true,<- d]
  exact h
 ·have f:(us.toArray.size != vs.toArray.size)=true:=by rw[Ar,Ar,l1,l2]; simpa using d
  have h:=SeqAt.RcNeAt.lists_lengths (A:=A) i.isList g.isList f k
  have n:(c.length == es.length)=false:=by simpa using d
  rw[n,Qp]
  exact h
theorem rL{A:Cw}{a b:Addr}{us vs:List Value}{c es:List Ae}(g:IsTup s.heap a us.toArray)(f:IsTup s.heap b vs.toArray)(l1:us.length=c.length)(l2:vs.length=es.length)(i:A.units<cLine)(k:∀j (h1:j<us.length) (d:j<vs.length),Nt A.in1 s us[j] vs[j] (Ep (c.getD j .none) (es.getD j .none))):SeqAt.RcNeAt A s (.ref a) (.ref b) (!Pu c es):=by
 rw[<- Pk]
 have h:=SeqAt.RcNeAt.tuples (A:=A) (e:=λj=>Ep (c.getD j .none) (es.getD j .none)) (show s.heap.IsTuple a us.toArray from g) (show s.heap.IsTuple b vs.toArray from f) i (λj h1 d=>by simpa using k j (by simpa using h1) (by simpa using d))
 rw[Ar,Ar,l1,l2] at h
 exact h
end
section
variable{X:Cx}
def HF(K:PySem.W.Frag):R2:=λx y H Q=>∃d e,RdV K H x d/\RdV K H y e/\d.depth<=60/\Q (.bl (Ep d e)) H
def GM(K:PySem.W.Frag):R2:=λx y H Q=>∃d e,RdV K H x d/\RdV K H y e/\d.depth<=60/\Q (.bl (!Ep d e)) H
theorem A9(N:X.A.units+64<cLine):Xq X (Hh .Eq) (HF X.K):=by
 intro E s M H x y v u Q I z f h
 obtain ⟨d,e,C,w,F,q⟩:=h
 have c:X.A.units<cLine:=by omega
 cases C with
 | non =>
  cases z
  cases w with
  | non=>cases f; rw[Ep] at q; exact SeqAt.RcAt.none_none _ _ _ _ ⟨.bl _,H,I,rfl,q⟩
  | bl b=>cases f; rw[Ep] at q; exact SeqAt.RcAt.none_bool b _ _ _ _ ⟨.bl _,H,I,rfl,q⟩; all_goals simp
  | int b=>obtain ⟨t,rfl⟩:=f; rw[Ep] at q; exact SeqAt.RcAt.none_int b t _ _ _ _ ⟨.bl _,H,I,rfl,q⟩; all_goals simp
  | str b=>obtain ⟨t,rfl⟩:=f; rw[Ep] at q; exact SeqAt.RcAt.none_str b t _ _ _ _ ⟨.bl _,H,I,rfl,q⟩; all_goals simp
  | @lst b n o k g=>cases f; obtain ⟨vs,l,i,_⟩:=I.list k; rw[Ep] at q; exact SeqAt.RcAt.none_list i.isList c _ _ _ _ ⟨.bl _,H,I,rfl,q⟩; all_goals simp
  | @tup b n o k g=>cases f; obtain ⟨vs,l,i,_⟩:=I.tuple k; rw[Ep] at q; exact SeqAt.RcAt.none_tuple i c _ _ _ _ ⟨.bl _,H,I,rfl,q⟩; all_goals simp
 | bl a =>
  cases z
  cases w with
  | non=>cases f; rw[Ep] at q; exact SeqAt.RcAt.bool_none a _ _ _ _ ⟨.bl _,H,I,rfl,q⟩; all_goals simp
  | bl b=>cases f; rw[Ep] at q; exact SeqAt.RcAt.bool_bool a b _ _ _ _ ⟨.bl _,H,I,rfl,q⟩
  | int b=>obtain ⟨t,rfl⟩:=f; rw[Ep] at q; exact SeqAt.RcAt.bool_int a b t _ _ _ _ ⟨.bl _,H,I,rfl,q⟩
  | str b=>obtain ⟨t,rfl⟩:=f; rw[Ep] at q; exact SeqAt.RcAt.bool_str a b t _ _ _ _ ⟨.bl _,H,I,rfl,q⟩; all_goals simp
  | @lst b n o k g=>cases f; obtain ⟨vs,l,i,_⟩:=I.list k; rw[Ep] at q; exact SeqAt.RcAt.bool_list a i.isList c _ _ _ _ ⟨.bl _,H,I,rfl,q⟩; all_goals simp
  | @tup b n o k g=>cases f; obtain ⟨vs,l,i,_⟩:=I.tuple k; rw[Ep] at q; exact SeqAt.RcAt.bool_tuple a i c _ _ _ _ ⟨.bl _,H,I,rfl,q⟩; all_goals simp
 | int a =>
  obtain ⟨m,rfl⟩:=z
  cases w with
  | non=>cases f; rw[Ep] at q; exact SeqAt.RcAt.int_none a m _ _ _ _ ⟨.bl _,H,I,rfl,q⟩; all_goals simp
  | bl b=>cases f; rw[Ep] at q; exact SeqAt.RcAt.int_bool a m b _ _ _ _ ⟨.bl _,H,I,rfl,q⟩
  | int b=>obtain ⟨t,rfl⟩:=f; rw[Ep] at q; exact SeqAt.RcAt.int_int a m b t _ _ _ _ ⟨.bl _,H,I,rfl,q⟩
  | str b=>obtain ⟨t,rfl⟩:=f; rw[Ep] at q; exact SeqAt.RcAt.int_str a m b t _ _ _ _ ⟨.bl _,H,I,rfl,q⟩; all_goals simp
  | @lst b n o k g=>cases f; obtain ⟨vs,l,i,_⟩:=I.list k; rw[Ep] at q; exact SeqAt.RcAt.int_list a m i.isList c _ _ _ _ ⟨.bl _,H,I,rfl,q⟩; all_goals simp
  | @tup b n o k g=>cases f; obtain ⟨vs,l,i,_⟩:=I.tuple k; rw[Ep] at q; exact SeqAt.RcAt.int_tuple a m i c _ _ _ _ ⟨.bl _,H,I,rfl,q⟩; all_goals simp
 | str a =>
  obtain ⟨m,rfl⟩:=z
  cases w with
  | non=>cases f; rw[Ep] at q; exact SeqAt.RcAt.str_none a m _ _ _ _ ⟨.bl _,H,I,rfl,q⟩; all_goals simp
  | bl b=>cases f; rw[Ep] at q; exact SeqAt.RcAt.str_bool a m b _ _ _ _ ⟨.bl _,H,I,rfl,q⟩; all_goals simp
  | int b=>obtain ⟨t,rfl⟩:=f; rw[Ep] at q; exact SeqAt.RcAt.str_int a m b t _ _ _ _ ⟨.bl _,H,I,rfl,q⟩; all_goals simp
  | str b=>obtain ⟨t,rfl⟩:=f; rw[Ep] at q; exact SeqAt.RcAt.str_str a m b t _ _ _ _ ⟨.bl _,H,I,rfl,q⟩
  | @lst b n o k g=>cases f; obtain ⟨vs,l,i,_⟩:=I.list k; rw[Ep] at q; exact SeqAt.RcAt.str_list a m i.isList c _ _ _ _ ⟨.bl _,H,I,rfl,q⟩; all_goals simp
  | @tup b n o k g=>cases f; obtain ⟨vs,l,i,_⟩:=I.tuple k; rw[Ep] at q; exact SeqAt.RcAt.str_tuple a m i c _ _ _ _ ⟨.bl _,H,I,rfl,q⟩; all_goals simp
 | @lst a G J D r =>
  cases z
  obtain ⟨L,B,p,_⟩:=I.list D
  cases w with
  | non=>cases f; rw[Ep] at q; exact SeqAt.RcAt.list_none p.isList c _ _ _ _ ⟨.bl _,H,I,rfl,q⟩; all_goals simp
  | bl b=>cases f; rw[Ep] at q; exact SeqAt.RcAt.list_bool b p.isList c _ _ _ _ ⟨.bl _,H,I,rfl,q⟩; all_goals simp
  | int b=>obtain ⟨t,rfl⟩:=f; rw[Ep] at q; exact SeqAt.RcAt.list_int b t p.isList c _ _ _ _ ⟨.bl _,H,I,rfl,q⟩; all_goals simp
  | str b=>obtain ⟨t,rfl⟩:=f; rw[Ep] at q; exact SeqAt.RcAt.list_str b t p.isList c _ _ _ _ ⟨.bl _,H,I,rfl,q⟩; all_goals simp
  | @lst b n o k g=>cases f; obtain ⟨vs,l,i,_⟩:=I.list k; rw[Ep] at q; exact oM p i (B.length.symm.trans r.length) (l.length.symm.trans g.length) c (λj C w=>Rq I r g B l (Zh (by simp only[Dq] at F; omega)) j C w) _ _ _ _ ⟨.bl _,H,I,rfl,q⟩
  | @tup b n o k g=>cases f; obtain ⟨vs,l,i,_⟩:=I.tuple k; rw[Ep] at q; exact SeqAt.RcAt.list_tuple p.isList i c _ _ _ _ ⟨.bl _,H,I,rfl,q⟩; all_goals simp
 | @tup a G J D r =>
  cases z
  obtain ⟨L,B,p,_⟩:=I.tuple D
  cases w with
  | non=>cases f; rw[Ep] at q; exact SeqAt.RcAt.tuple_none p c _ _ _ _ ⟨.bl _,H,I,rfl,q⟩; all_goals simp
  | bl b=>cases f; rw[Ep] at q; exact SeqAt.RcAt.tuple_bool b p c _ _ _ _ ⟨.bl _,H,I,rfl,q⟩; all_goals simp
  | int b=>obtain ⟨t,rfl⟩:=f; rw[Ep] at q; exact SeqAt.RcAt.tuple_int b t p c _ _ _ _ ⟨.bl _,H,I,rfl,q⟩; all_goals simp
  | str b=>obtain ⟨t,rfl⟩:=f; rw[Ep] at q; exact SeqAt.RcAt.tuple_str b t p c _ _ _ _ ⟨.bl _,H,I,rfl,q⟩; all_goals simp
  | @lst b n o k g=>cases f; obtain ⟨vs,l,i,_⟩:=I.list k; rw[Ep] at q; exact SeqAt.RcAt.tuple_list p i.isList c _ _ _ _ ⟨.bl _,H,I,rfl,q⟩; all_goals simp
  | @tup b n o k g=>cases f; obtain ⟨vs,l,i,_⟩:=I.tuple k; rw[Ep] at q; exact hZ p i (B.length.symm.trans r.length) (l.length.symm.trans g.length) c (λj C w=>Rq I r g B l (Zh (by simp only[Dq] at F; omega)) j C w) _ _ _ _ ⟨.bl _,H,I,rfl,q⟩
theorem BS(N:X.A.units+64<cLine):Xq X (Hh .NotEq) (GM X.K):=by
 intro E s M H x y v u Q I z f h
 obtain ⟨d,e,C,w,F,q⟩:=h
 have c:X.A.units<cLine:=by omega
 cases C with
 | non =>
  cases z
  cases w with
  | non=>cases f; rw[Ep] at q; exact SeqAt.RcNeAt.none_none _ _ _ _ ⟨.bl _,H,I,rfl,q⟩
  | bl b=>cases f; rw[Ep] at q; exact SeqAt.RcNeAt.none_bool b _ _ _ _ ⟨.bl _,H,I,rfl,q⟩; all_goals simp
  | int b=>obtain ⟨t,rfl⟩:=f; rw[Ep] at q; exact SeqAt.RcNeAt.none_int b t _ _ _ _ ⟨.bl _,H,I,rfl,q⟩; all_goals simp
  | str b=>obtain ⟨t,rfl⟩:=f; rw[Ep] at q; exact SeqAt.RcNeAt.none_str b t _ _ _ _ ⟨.bl _,H,I,rfl,q⟩; all_goals simp
  | @lst b n o k g=>cases f; obtain ⟨vs,l,i,_⟩:=I.list k; rw[Ep] at q; exact SeqAt.RcNeAt.none_list i.isList c _ _ _ _ ⟨.bl _,H,I,rfl,q⟩; all_goals simp
  | @tup b n o k g=>cases f; obtain ⟨vs,l,i,_⟩:=I.tuple k; rw[Ep] at q; exact SeqAt.RcNeAt.none_tuple i c _ _ _ _ ⟨.bl _,H,I,rfl,q⟩; all_goals simp
 | bl a =>
  cases z
  cases w with
  | non=>cases f; rw[Ep] at q; exact SeqAt.RcNeAt.bool_none a _ _ _ _ ⟨.bl _,H,I,rfl,q⟩; all_goals simp
  | bl b=>cases f; rw[Ep] at q; exact SeqAt.RcNeAt.bool_bool a b _ _ _ _ ⟨.bl _,H,I,rfl,q⟩
  | int b=>obtain ⟨t,rfl⟩:=f; rw[Ep] at q; exact SeqAt.RcNeAt.bool_int a b t _ _ _ _ ⟨.bl _,H,I,rfl,q⟩
  | str b=>obtain ⟨t,rfl⟩:=f; rw[Ep] at q; exact SeqAt.RcNeAt.bool_str a b t _ _ _ _ ⟨.bl _,H,I,rfl,q⟩; all_goals simp
  | @lst b n o k g=>cases f; obtain ⟨vs,l,i,_⟩:=I.list k; rw[Ep] at q; exact SeqAt.RcNeAt.bool_list a i.isList c _ _ _ _ ⟨.bl _,H,I,rfl,q⟩; all_goals simp
  | @tup b n o k g=>cases f; obtain ⟨vs,l,i,_⟩:=I.tuple k; rw[Ep] at q; exact SeqAt.RcNeAt.bool_tuple a i c _ _ _ _ ⟨.bl _,H,I,rfl,q⟩; all_goals simp
 | int a =>
  obtain ⟨m,rfl⟩:=z
  cases w with
  | non=>cases f; rw[Ep] at q; exact SeqAt.RcNeAt.int_none a m _ _ _ _ ⟨.bl _,H,I,rfl,q⟩; all_goals simp
  | bl b=>cases f; rw[Ep] at q; exact SeqAt.RcNeAt.int_bool a m b _ _ _ _ ⟨.bl _,H,I,rfl,q⟩
  | int b=>obtain ⟨t,rfl⟩:=f; rw[Ep] at q; exact SeqAt.RcNeAt.int_int a m b t _ _ _ _ ⟨.bl _,H,I,rfl,q⟩
  | str b=>obtain ⟨t,rfl⟩:=f; rw[Ep] at q; exact SeqAt.RcNeAt.int_str a m b t _ _ _ _ ⟨.bl _,H,I,rfl,q⟩; all_goals simp
  | @lst b n o k g=>cases f; obtain ⟨vs,l,i,_⟩:=I.list k; rw[Ep] at q; exact SeqAt.RcNeAt.int_list a m i.isList c _ _ _ _ ⟨.bl _,H,I,rfl,q⟩; all_goals simp
  | @tup b n o k g=>cases f; obtain ⟨vs,l,i,_⟩:=I.tuple k; rw[Ep] at q; exact SeqAt.RcNeAt.int_tuple a m i c _ _ _ _ ⟨.bl _,H,I,rfl,q⟩; all_goals simp
 | str a =>
  obtain ⟨m,rfl⟩:=z
  cases w with
  | non=>cases f; rw[Ep] at q; exact SeqAt.RcNeAt.str_none a m _ _ _ _ ⟨.bl _,H,I,rfl,q⟩; all_goals simp
  | bl b=>cases f; rw[Ep] at q; exact SeqAt.RcNeAt.str_bool a m b _ _ _ _ ⟨.bl _,H,I,rfl,q⟩; all_goals simp
  | int b=>obtain ⟨t,rfl⟩:=f; rw[Ep] at q; exact SeqAt.RcNeAt.str_int a m b t _ _ _ _ ⟨.bl _,H,I,rfl,q⟩; all_goals simp
  | str b=>obtain ⟨t,rfl⟩:=f; rw[Ep] at q; exact SeqAt.RcNeAt.str_str a m b t _ _ _ _ ⟨.bl _,H,I,rfl,q⟩
  | @lst b n o k g=>cases f; obtain ⟨vs,l,i,_⟩:=I.list k; rw[Ep] at q; exact SeqAt.RcNeAt.str_list a m i.isList c _ _ _ _ ⟨.bl _,H,I,rfl,q⟩; all_goals simp
  | @tup b n o k g=>cases f; obtain ⟨vs,l,i,_⟩:=I.tuple k; rw[Ep] at q; exact SeqAt.RcNeAt.str_tuple a m i c _ _ _ _ ⟨.bl _,H,I,rfl,q⟩; all_goals simp
 | @lst a G J D r =>
  cases z
  obtain ⟨L,B,p,_⟩:=I.list D
  cases w with
  | non=>cases f; rw[Ep] at q; exact SeqAt.RcNeAt.list_none p.isList c _ _ _ _ ⟨.bl _,H,I,rfl,q⟩; all_goals simp
  | bl b=>cases f; rw[Ep] at q; exact SeqAt.RcNeAt.list_bool b p.isList c _ _ _ _ ⟨.bl _,H,I,rfl,q⟩; all_goals simp
  | int b=>obtain ⟨t,rfl⟩:=f; rw[Ep] at q; exact SeqAt.RcNeAt.list_int b t p.isList c _ _ _ _ ⟨.bl _,H,I,rfl,q⟩; all_goals simp
  | str b=>obtain ⟨t,rfl⟩:=f; rw[Ep] at q; exact SeqAt.RcNeAt.list_str b t p.isList c _ _ _ _ ⟨.bl _,H,I,rfl,q⟩; all_goals simp
  | @lst b n o k g=>cases f; obtain ⟨vs,l,i,_⟩:=I.list k; rw[Ep] at q; exact xG p i (B.length.symm.trans r.length) (l.length.symm.trans g.length) c (λj C w=>Rq I r g B l (Zh (by simp only[Dq] at F; omega)) j C w) _ _ _ _ ⟨.bl _,H,I,rfl,q⟩
  | @tup b n o k g=>cases f; obtain ⟨vs,l,i,_⟩:=I.tuple k; rw[Ep] at q; exact SeqAt.RcNeAt.list_tuple p.isList i c _ _ _ _ ⟨.bl _,H,I,rfl,q⟩; all_goals simp
 | @tup a G J D r =>
  cases z
  obtain ⟨L,B,p,_⟩:=I.tuple D
  cases w with
  | non=>cases f; rw[Ep] at q; exact SeqAt.RcNeAt.tuple_none p c _ _ _ _ ⟨.bl _,H,I,rfl,q⟩; all_goals simp
  | bl b=>cases f; rw[Ep] at q; exact SeqAt.RcNeAt.tuple_bool b p c _ _ _ _ ⟨.bl _,H,I,rfl,q⟩; all_goals simp
  | int b=>obtain ⟨t,rfl⟩:=f; rw[Ep] at q; exact SeqAt.RcNeAt.tuple_int b t p c _ _ _ _ ⟨.bl _,H,I,rfl,q⟩; all_goals simp
  | str b=>obtain ⟨t,rfl⟩:=f; rw[Ep] at q; exact SeqAt.RcNeAt.tuple_str b t p c _ _ _ _ ⟨.bl _,H,I,rfl,q⟩; all_goals simp
  | @lst b n o k g=>cases f; obtain ⟨vs,l,i,_⟩:=I.list k; rw[Ep] at q; exact SeqAt.RcNeAt.tuple_list p i.isList c _ _ _ _ ⟨.bl _,H,I,rfl,q⟩; all_goals simp
  | @tup b n o k g=>cases f; obtain ⟨vs,l,i,_⟩:=I.tuple k; rw[Ep] at q; exact rL p i (B.length.symm.trans r.length) (l.length.symm.trans g.length) c (λj C w=>Rq I r g B l (Zh (by simp only[Dq] at F; omega)) j C w) _ _ _ _ ⟨.bl _,H,I,rfl,q⟩
theorem G9{z a:V}{v:Value}(h:RelV z v)(h':RelV a v):z=a:=by
 cases z <;> cases a <;> simp only[L2.RelV] at h h' <;> first | rfl | (subst h; cases h'; rfl) | (subst h; cases h'; done) | (obtain ⟨t,rfl⟩:=h; obtain ⟨b,e⟩:=h'; cases e; rfl) | (obtain ⟨t,rfl⟩:=h; obtain ⟨b,e⟩:=h'; cases e; done) | (obtain ⟨t,rfl⟩:=h; cases h'; done) | (subst h; obtain ⟨b,e⟩:=h'; cases e)
open Classical in
noncomputable def Oa(K:PySem.W.Frag)(H:Hp)(d:Ae)(v:Value):Bool:=if h:∃e z,RdV K H z e/\RelV z v then Ep h.choose d else false
theorem mY{a:List (Addr×Obj)}{σ:L2.St}{H:Hp}{s:Ak}(I:Inv X a σ H s){d e:Ae}{z:V}{v:Value}(h:RdV X.K H z e)(r:RelV z v):Oa X.K H d v=Ep e d:=by
 unfold Oa
 have b:∃e z,RdV X.K H z e/\RelV z v:=⟨e,z,h,r⟩
 rw[dif_pos b]
 obtain ⟨i,c,f⟩:=b.choose_spec
 have g:=G9 f r
 subst g
 rw[RdV.det I c h]
theorem Qt{a:List (Addr×Obj)}{σ:L2.St}{H:Hp}{s:Ak}(I:Inv X a σ H s){d:Ae}:∀{xs:List V} {b:List Ae} {us:List Value},RdVs X.K H xs b->Fz xs us->us.any (Oa X.K H d)=b.any λe=>Ep e d
 | _,_,_,.nil,r=>by cases r; rfl
 | _,_,_,.cons h t,r=>by
  cases r with
  | cons c f=>rw[Ma,Ma,mY I h c,Qt I t f]
theorem Rb{a:List (Addr×Obj)}{σ:L2.St}{H:Hp}{s:Ak}(I:Inv X a σ H s){A:Cw}{x:V}{d:Ae}{u:Value}(g:RdV X.K H x d)(i:RelV x u):∀{xs:List V} {f:List Ae} {us:List Value},RdVs X.K H xs f->Fz xs us->A.units+Bu f<cLine->∀v∈us,Nt A s v u (Oa X.K H d v)
 | _,_,_,.nil,r,_=>λv hv=>by cases r; cases hv
 | _,_,_,@RdVs.cons _ _ y e ys es h t,r,hu=>λv hv=>by
  have c:A.units+e.depth<cLine/\A.units+Bu es<cLine:=by
   simp only[Bu] at hu
   omega
  cases r with
  | cons b j =>
   rcases An.mp hv with rfl | hv
   ·rw[mY I h b]; exact p8 I h g b i c.1
   ·exact Rb I g i t j c.2 v hv
def EB(K:PySem.W.Frag)(neg:Bool):R2:=λx y H Q=>∃p b d a,y=.ref p/\(Ux K H p b\/Vp K H p b)/\RdV K H x d/\RdVs K H b a/\Bu a<=60/\Q (.bl (if neg then !(a.any λe=>Ep e d) else a.any λe=>Ep e d)) H
theorem J9(n:X.A.units+64<cLine):Xq X (Hh .In) (EB X.K false):=by
 intro g s t H x y v u Q I j k h
 obtain ⟨p,o,d,l,rfl,hq,i,c,z,q⟩:=h
 cases k
 have b:X.A.in1.units+Bu l<cLine:=by have:=Zn X.A; omega
 rcases hq with hq | hq
 ·obtain ⟨a,r,e,m⟩:=I.list hq
  refine SeqAt.in_listAt (Oa X.K H d) e.isList (λw f=>Rb I i j c r b w (by simpa using f)) ⟨.bl _,H,I,rfl,?_⟩
  rw[show a.toArray.any (Oa X.K H d)=a.any (Oa X.K H d) by simp,Qt I c r]
  exact q
 ·obtain ⟨a,r,e,m⟩:=I.tuple hq
  refine SeqAt.in_tupleAt (Oa X.K H d) e (λw f=>Rb I i j c r b w (by simpa using f)) ⟨.bl _,H,I,rfl,?_⟩
  rw[show a.toArray.any (Oa X.K H d)=a.any (Oa X.K H d) by simp,Qt I c r]
  exact q
theorem vV(n:X.A.units+64<cLine):Xq X (Hh .NotIn) (EB X.K true):=by
 intro g s t H x y v u Q I j k h
 obtain ⟨p,o,d,l,rfl,hq,i,c,z,q⟩:=h
 cases k
 have b:X.A.in1.units+Bu l<cLine:=by have:=Zn X.A; omega
 rcases hq with hq | hq
 ·obtain ⟨a,r,e,m⟩:=I.list hq
  refine SeqAt.notIn_listAt (Oa X.K H d) e.isList (λw f=>Rb I i j c r b w (by simpa using f)) ⟨.bl _,H,I,rfl,?_⟩
  rw[show a.toArray.any (Oa X.K H d)=a.any (Oa X.K H d) by simp,Qt I c r]
  exact q
 ·obtain ⟨a,r,e,m⟩:=I.tuple hq
  refine SeqAt.notIn_tupleAt (Oa X.K H d) e (λw f=>Rb I i j c r b w (by simpa using f)) ⟨.bl _,H,I,rfl,?_⟩
  rw[show a.toArray.any (Oa X.K H d)=a.any (Oa X.K H d) by simp,Qt I c r]
  exact q
end
def LK(K:PySem.W.Frag)(a:Addr):It :=
 ⟨λi H=>∃b x,Ux K H a b/\b[i]? = some x,λi H x c=>∃p y,x=.ref p/\H p=none/\c=upd H p (.tup [.int i,y])/\∀b,Ux K H a b->b[i]? = some y,λi H=>∃b,Ux K H a b/\b.length<=i⟩
section
variable{X:Cx}{a:List (Addr×Obj)}{σ:L2.St}{H:Hp}{s:Ak}{h':Heap}
theorem kK{t':Nat}{fp:List Addr}(I:Inv X a σ H s)(k:∀b o,b∉fp->s.heap.get? b=some o->h'.get? b=some o)(g:∀b∈fp,Sf X a H b):Inv X a σ H { s with heap:=h',toks:=t' }:=by
 have f:∀b u,H b=some u->b∉fp:=λb u e z=>by rw[(g b z).1] at e; cases e
 refine I.step (g':=s.gens) (d':=s.drawn) (ch:=fp) (λb t=>?_) (λb o _ _ d e _=>k b o d e) (λb o _ _ d e _=>⟨o.slots,k b o d e⟩) (λ_ _ _ _ n=>n)
  (λb o d e=>⟨o,k b o d e⟩) (λ_ _ e=>e) (λ_ _ _ e=>e) (λb A e=>⟨#[],by rw[e]; simp⟩) (λm l=>?_) (λb u e=>?_) I.bare
 ·obtain ⟨_,i,_,w,y,p⟩:=g b t
  exact ⟨w,i,y,p⟩
 ·obtain ⟨o,j,x,h,r⟩:=l
  exact ⟨o,j,x,k _ o (λz=>(g _ z).2.1 rfl) h,r⟩
 ·refine (I.hok b u e).stay (λc v d q=>k c v ?_ q) (λ_ q=>q) λ_ _ q=>q
  rcases d with z | z
  ·rw[z]; exact f b u e
  ·exact f c _ z
end
theorem wA{P:Bp}{w:World}{K:PySem.W.Frag}{A:List Expr}{k:Nat}{pos:Pos}(a e it:Addr)(T:e≠it):Turn P w K (.Tuple A k pos) (LK K a) [e,it] e (λi h=>(∃g,IsEnum h e it ((i:Nat):Int) g)/\h.IsListIter it a i) where
 mem:=Ab
 obj:=λi h st b f=>by
  obtain ⟨⟨g,j⟩,o,e1,c,d⟩:=st
  rcases An.mp f with z | z
  ·subst z
   exact ⟨_,j,λv z=>by cases z⟩
  ·rw[Al.mp z]
   exact ⟨o,e1,λv z=>by rw[d] at z; cases z⟩
 keep:=λi h h' st kp=>⟨let ⟨g,j⟩:=st.1; ⟨g,kp e Ab _ j⟩,st.2.at λo q=>kp it (Ad _ Ab) o q⟩
 item:=by
  intro X N L D U i m s S H E I B st R
  subst N L D
  obtain ⟨xs,x,C,O⟩:=R
  obtain ⟨J,G,p,hz⟩:=I.list C
  obtain ⟨u,hu,ru⟩:=G.get O
  obtain ⟨⟨g,j⟩,l⟩:=st
  have el:e<s.heap.objs.size:=Bm j
  have il:it<s.heap.objs.size:=by obtain ⟨_,q,_⟩:=l; exact Bm q
  refine wpAny_pyNext_enum_item j l p.isList (x:=u) (by simpa using hu) T λY ho y hT h0 hk=>⟨_,rfl,wpAny_letOwnedTupleGo_enum ho λZ Q F=>?_⟩
  have n:Fu e Y Z:=F
  -- the pair laid,then the iterators turned
  have I1:Inv X m S (upd H s.heap.objs.size (.tup [.int i,x])) { s with heap:=s.heap.push { cls:=.type "tuple",data:=.seq #[.int i s.toks,u] } } :=
   I.laid (t':=s.toks) (λb o q=>Aj _ q) (Ah _) ⟨by show 2<=Bf; decide,[.int i s.toks,u],.cons ⟨_,rfl⟩ (.cons ru .nil),_,Bi _ rfl,rfl,0,rfl⟩
  have nT:∀b∈[e,it],b≠s.heap.objs.size:=λb f=>by
   rcases An.mp f with z | z
   ·rw[z]; exact Ck el
   ·rw[Al.mp z]; exact Ck il
  have V:∀b∈[e,it],(upd H s.heap.objs.size (.tup [.int i,x])) b=none:=λb f=>by rw[Fi (nT b f)]; exact (B b f).1
  refine ⟨.ref s.heap.objs.size,_,kK (fp:=[e,it]) (s:={ s with heap:=s.heap.push { cls:=.type "tuple",data:=.seq #[.int i s.toks,u] } }) (h':=Z) (t':=s.toks+1) I1 (λb o f q=>?_) (λb f=>⟨V b f,(B b f).2⟩),rfl,⟨_,x,rfl,I.hok.fresh (Ah _),rfl,λys hy=>by rw[I.list_inj hy C]; exact O⟩,⟨⟨u,?_⟩,?_⟩,V⟩
  ·have t:b≠e:=λz=>f (by rw[z]; exact Ab)
   have M:b≠it:=λz=>f (by rw[z]; exact Ad _ Ab)
   refine (n.2 b t).trans ?_
   by_cases r:b=s.heap.objs.size
   ·subst r
    have q':=(Bi s.heap (o:={ cls:=.type "tuple",data:=.seq #[.int i s.toks,u] }) rfl).symm.trans q
    rw[hT]
    exact q'
   ·refine hk b o t M ?_
    have q0:(s.heap.push { cls:=.type "tuple",data:=.seq #[.int i s.toks,u] }).get? b=some o:=q
    rcases Heap.get?_push_cases q0 with z | z
    ·exact absurd z.1 r
    ·exact z
  ·have : ((i+1:Nat):Int)=(i:Int)+1:=by omega
   rw[this]
   exact Q
  ·exact y.at λo q=>(n.2 it (Kx T)).trans q
 done:=by
  intro X N L D U i m s S H E I B st R
  subst N L D
  obtain ⟨xs,C,O⟩:=R
  obtain ⟨J,G,p,hz⟩:=I.list C
  obtain ⟨⟨g,j⟩,l⟩:=st
  have hl:=G.length
  exact wpAny_pyNext_enum_end (I.ok.hd U) j l p.isList (by simp; omega) λY eb=>⟨rfl,kK (fp:=[e,it]) (t':=s.toks) I (λb o f q=>eb b o (λz=>f (by rw[z]; exact Ad _ Ab)) q) B⟩
 self:=λ_ _ _ _ _ st h=>let ⟨_,j⟩:=st.1; wpAny_pyIter_enum j h
section
variable{X:Cx}
def FW(K:PySem.W.Frag)(c:TA):TI:=λd H R=>c d H λvs b=>∃a,vs=[.ref a]/\(∃e,Ux K b a e)/\R (LK K a) b
theorem N8{g:List Expr}{k:Nat}{F:Pos}{a:Expr}{j:TA}{p pos:Pos}(J:Gl X "enumerate")(y:X.mg "enumerate" = none)(o:PA X [a] j)(A:Cc [a] X.env=[(false,eval a X.env)]:=by rfl):PI X (.Tuple g k F) (.Call (.Name "enumerate" p) [a] [] pos) (FW X.K j):=by
 intro c s w H R I h
 refine Call_ (dY I J y (u:=.type "enumerate") (by decide +kernel) (Nr (Ir (o pos c s w H _ I h) λQ d ⟨vs,n,f,x,G⟩=>?_) A rfl))
 obtain ⟨l,e,⟨M,L⟩,q⟩:=G
 subst e
 obtain ⟨u,rfl,v⟩:=vals1 x
 cases v
 obtain ⟨C,N,D,O⟩:=f.list L
 refine call_enumerate_list D.isList λP m i r E=>wpAny_pyIter_enum m ?_
 have B:∀b∈[d.heap.objs.size+1,d.heap.objs.size],Sf X c n b:=λb t=>by
  rcases An.mp t with z | z
  ·rw[z]; exact f.fpOk (Nat.le_succ _) (f.hok.fresh (Nat.le_succ _))
  ·rw[Al.mp z]; exact f.fpOk (Ah _) (f.hok.fresh (Ah _))
 exact ⟨d.heap.objs.size+1,[d.heap.objs.size+1,d.heap.objs.size],_,_,n,rfl,f.kept (t':=d.toks) E,wA l _ _ (Nat.succ_ne_self _),⟨⟨_,m⟩,i⟩,B,q⟩
end
section
variable{X:Cx}
theorem R7{l iter:Expr}{x S:Str}{px py pos P:Pos}{i0:Nat}{E:List Expr}{a:Scope}{cl:List (Str×Addr)}{ys:List Str}{U:List Nat}{wi:TI}{tc:TT}{te:TE}(hN:X.N.Nodup)(j0:X.N[i0]? = some S)(q0:X.env.scope.names.lookup S=some .local)(C:CompScope X a cl x ys U)(hc:X.calm=true)(hi:PI X (.Name x px) iter wi)(ht:∀fp s H,yY (Gx X a cl (x::ys) fp s H) E tc)(he:∀fp s H,PE (Gx X a cl (x::ys) fp s H) l te)(hs:∀x,Hz iter X.env x=pure x:=by intro _; rfl)(j1:Mc (.ListComp l [⟨.Name x px,iter,E,0⟩] a pos) (some (.Name S py)) P.line X.env=pure true:=by rfl):PS X (.Assign [.Name S py] (.ListComp l [⟨.Name x px,iter,E,0⟩] a pos) P) (P9 (oI wi U tc te) (gY i0)):=by
 intro d s j H De I h
 have h:oI wi U tc te j H λv H1=>De.nx (j.set i0 (some v)) H1:=h
 rw[exec_Assign_Name_used _ _ _ _ j1]
 refine Aa (wpAny_standAt (Aa ?_))
 show wpAny _ X.A (do let _ <- comprehension (.ListComp l [⟨.Name x px,iter,E,0⟩] a pos) a X.env _ (newList []) false (eval iter X.env) (some (aR (.Name S py) X.env))) _ _ s
 refine Aa (Hg (zC (use:=some (aR (.Name S py) X.env)) (Q:=λ_ Z=>SP X d De .next Z) rfl hs C.clos C.kind C.locs (Ir (hi d s j H _ I h) λv s1 h1=>Ir h1 λx6 f h2=>?_)) (λ_ Z hq=>Ag (Ag hq)) λ_ _ e=>e)
 obtain ⟨it,fp,tn,J,H2,e,I2,T,j4,f2,q2⟩:=h2
 subst e
 have fD:H2 f.heap.objs.size=none:=I2.hok.fresh (Ah _)
 obtain ⟨W,⟨m0,w0⟩,k1⟩:=q2 f.heap.objs.size fD
 refine Dy ?_
 have I3:Inv X d j (upd H2 f.heap.objs.size (.lst [])) { f with heap:=f.heap.push { cls:=.type "list",dict:=none,data:=.seq ([]:List Value).toArray } } :=
  I2.laid (t':=f.toks) (λb u q=>Aj _ q) (Ah _) ⟨Ds _,[],0,.nil,Bi _ rfl⟩
 obtain ⟨f3,q3,j2⟩:=pG I2 T j4 f2 I3
 generalize k3:({ f with heap:=f.heap.push { cls:=.type "list",dict:=none,data:=.seq ([]:List Value).toArray } }:Ak)=s3 at I3
 have Uy:tn 0 s3.heap:=by rw[<- k3]; exact q3
 have o3:∀b∈fp,∃o,s3.heap.get? b=some o:=by rw[<- k3]; exact j2
 show wpAny _ _ (aO a X.env.globals cl [] X.env.qual none .none (some X.env)) _ _ _
 refine iW C λh4 q1 k k4=>?_
 have I4:∀tk,Inv (Gx X a cl (x::ys) fp s3 (upd H2 f.heap.objs.size (.lst []))) [] (none::Ku j U) (upd H2 f.heap.objs.size (.lst [])) { s3 with heap:=h4,toks:=tk }:=λtk=>fE (pre:=[x]) C I3 f3 o3 q1 k k4
 have k0:tn 0 h4:=T.keep 0 _ _ Uy λb t o q=>k b o q
 generalize F:Gx X a cl (x::ys) fp s3 (upd H2 f.heap.objs.size (.lst []))=X' at I4
 obtain ⟨eP,eW,eK,eA,eC⟩:=nP hc F
 have D:∀{g:Hp},(∀b∈fp,g b=none)->∀b∈fp,Sf X' [] g b:=λ{g} hn=>iV F (I4 0) hn
 have O:∀s5:Ak,s5={ s3 with heap:=h4,toks:=s3.toks+([]:List (Str×Value)).length } ->
   Na (model X.prog X.w) X.A (.compLoop (.ListComp l [⟨.Name x px,iter,E,0⟩] a pos) 0 (.ref it) (.ref f.heap.objs.size) (compEnvC a (Fq (s3.heap.objs.size+1) a.names cl) s3.heap.objs.size X.env))
    (compPost (model X.prog X.w) X.A X.xe (some (aR (.Name S py) X.env)) (λ_ Z=>SP X d De .next Z) (.ref f.heap.objs.size) s3.heap.objs.size) s5:=by
  rintro s5 rfl
  refine eN (λn Z=>∃i o g,Inv X' [] (o::Ku j U) g Z/\tn i Z.heap/\(∀b∈fp,g b=none)/\W i n g) ?_ m0
   ⟨0,none,_,I4 _,k0,λb t=>(f3 b t).1,w0⟩
  (intro n s6 q_; obtain ⟨i,o,Y,I6,h6,k6,w6⟩ := q_)
  rcases k1 i n Y w6 with ⟨k2,qn⟩ | ⟨go,step⟩
  ·have hd:=T.done X' eP eW eK eC i [] s6 _ Y (λ_ _=>False) I6 (D k6) h6 k2
   rw[eA] at hd
   refine Ir hd λr s7 c => ?_
   obtain ⟨hr,I7⟩ := c
   subst hr
   obtain ⟨⟨m7,M⟩,k8,J7⟩:=wG F I3 f3 I7
   have fC:Sf X d Y s3.heap.objs.size:=I3.fpOk (Ah _) k8
   obtain ⟨oC,y1,x7,h8,rC⟩:=id M
   have J8:Inv X (d++[(s3.heap.objs.size,oC)]) j Y s7:=J7.pins_of λp hp=>by
    rcases Ba.mp hp with z | z
    ·have q:=J7.pin p (Av _ z)
     exact q
    ·rw[Al.mp z]
     exact ⟨h8,k8,fC.2.1,fC.2.2.1,λv hv=>by rw[rC.1] at hv; cases hv⟩
   refine Ir (bN (X:=X) (i:=i0) (x:=S) (pos:=py) hN j0 (.inl q0) (.inr q0) (d++[(s3.heap.objs.size,oC)]) s7 j Y (.ref f.heap.objs.size) (.ref f.heap.objs.size) (λh0 g=>h0=j.set i0 (some (.ref f.heap.objs.size))/\g=Y) J8 rfl ⟨rfl,rfl⟩) λ_ G c => ?_
   obtain ⟨q7,R,L,e9,V⟩ := c
   subst e9 V
   have k7:=(L.pin (s3.heap.objs.size,oC) (Av _ (Av _ Ab))).1
   have q5:Inv X d (j.set i0 (some (.ref f.heap.objs.size))) R G:=L.pins_of λp hp=>L.pin p (Av _ (Ap _ hp))
   refine ⟨m7,M.at λo e=>by rw[h8] at e; cases e; exact k7,λy2 k5=>?_⟩
   exact ⟨_,R,kK (t':=G.toks) (fp:=[s3.heap.objs.size]) q5 (λb o t e=>(k5.2 b (λz=>t (by rw[z]; exact Ab))).trans e) (λb t=>by rw[Al.mp t]; exact fC),qn⟩
  ·have q4:=T.item X' eP eW eK eC i [] s6 _ Y (λ_ _=>False) I6 (D k6) h6 go
   rw[eA] at q4
   refine Ir q4 λr s7 c => ?_
   obtain ⟨u,hr,h7⟩ := c
   subst hr
   refine Ir h7 λ_ s8 c => ?_
   obtain ⟨y,H8,I8,r8,y8,h3,x4⟩ := c
   have x3:=I8.pinned (D x4) (T.obj _ _ h3)
   obtain ⟨N1,N2,q8,j7,q9⟩:=step y H8 y8
   have B:∀{R:Hp} {G:Ak} {m':Nat},Inv X' ([]++Zi fp s8.heap) (some y::Ku j U) R G->m'<n->W (i+1) m' R->∃m,m<n/\∃i o g,Inv X' [] (o::Ku j U) g G/\tn i G.heap/\(∀b∈fp,g b=none)/\W i m g:=λ{R G m'} L hm w9=>by
    refine ⟨m',hm,i+1,some y,R,L.unpinned,T.keep _ _ _ h3 λb t o e=>(L.pin (b,o) (Av _ (Av _ (Mw t e)))).1,λb t=>?_,w9⟩
    obtain ⟨o,e,_⟩:=T.obj _ _ h3 b t
    exact (L.pin (b,o) (Av _ (Av _ (Mw t e)))).2.1
   subst F
   refine Ir (bN (i:=0) (x:=x) (pos:=px) C.nd rfl (vN C.own) (B9 C.own) _ s8 _ H8 y u (λh0 g=>h0=some y::Ku j U/\g=H8) x3 r8 ⟨rfl,rfl⟩) λ_ G c => ?_
   obtain ⟨q7,R,L,e9,V⟩ := c
   subst e9 V
   refine Ir (ht fp s3 _ _ G _ _ _ L q9) λok x2 c => ?_
   obtain ⟨x8,k9,K⟩ := c
   cases ok with
   | false =>
    rw[if_neg Cv] at K ⊢
    obtain ⟨m',hm,j9⟩:=q8 _ K
    exact B k9 hm j9
   | true =>
    rw[if_pos rfl] at K ⊢
    refine Ir (he fp s3 _ _ x2 _ _ _ k9 K) λz j6 c => ?_
    obtain ⟨vz,h9,x0,j8,x1⟩ := c
    obtain ⟨h5,ha,hz,m',hm,j5⟩:=j7 _ _ x1
    refine Ir (Tv _ j6 _ h9 (.ref f.heap.objs.size) [vz] (.ref f.heap.objs.size) [z] (λ_ g=>g=upd h9 f.heap.objs.size (.lst (h5++[vz]))) x0 rfl (.cons j8 .nil) ⟨_,h5,vz,rfl,rfl,ha,hz,rfl⟩) λ_ x9 c => ?_
    obtain ⟨_,x5,j3,_,q6⟩ := c
    subst q6
    exact B j3 hm j5
 exact M9 (O _ rfl) (T.self X.A 0 _ _ _ k0 (O _ rfl))
end
end Nd
namespace Nd
open PySem L2
def AO(K:PySem.W.Frag):R2:=λx y H Q=>∃a b d c,x=.ref a/\y=.ref b/\Vp K H a d/\Vp K H b c/\d.length+c.length<=Bf/\(d=[]->Q (.ref b) H)/\(c=[]->Q (.ref a) H)/\(∀p,H p=none->Q (.ref p) (upd H p (.tup (d++c))))
open PyProof.Rows in
theorem P2{X:Cx}:Xq X (Kw .Add) (AO X.K):=by
 intro c s A H x y v u Q I n k h
 obtain ⟨a,b,m,O,rfl,rfl,j,l,J,P,B,R⟩:=h
 by_cases i:m=[]
 ·cases n
  cases k
  obtain ⟨e,C,N,_⟩:=I.tuple j
  obtain ⟨o,V,M,_⟩:=I.tuple l
  have d:e=[]:=C.nil_iff.mpr i
  subst d
  obtain ⟨⟨T,E,S,f⟩,w,q,z,d⟩:=id N
  obtain ⟨⟨U,D,L,g⟩,p,t,G,r⟩:=id M
  simp only at q d t r
  subst q d t r
  exact concat_meets ⟨_,w,rfl⟩ ⟨_,p,rfl⟩ mS seq_tuple_add PySem.F.slot_tuple_add PySem.F.entry_tuple_add (PySem.F.args_tuple_add_2 _ _)
   (tuple_addW0 a b _ _ z G E D f g rfl) ⟨w,p,⟨.ref b,H,I,rfl,P i⟩⟩
 ·exact N9 c s A H (.ref a) (.ref b) v u Q I n k ⟨a,b,m,O,rfl,rfl,j,l,i,J,B,λ_=>R⟩
theorem Yv:∀{l:List Int},l.Nodup->l.Pairwise (·<=·)->l.Pairwise (· < ·)
 | [],_,_=>.nil
 | a::l,n,p=>by
  obtain ⟨e,g⟩:=Ax.mp p
  obtain ⟨f,d⟩:=Cg.mp n
  refine Ax.mpr ⟨λb c=>?_,Yv d g⟩
  have:=e b c
  have : a≠b:=λz=>f (by rw[z]; exact c)
  omega
end Nd
namespace Nd
open PySem PySem.Spec PyProof.Rows L2
end Nd
namespace Nd
open PySem L2
def ME(K:PySem.W.Frag):List V->Hp->VK->Prop:=λa H Q=>∃x n t b,a=[x,.ty n]/\TyOf K H x t/\PySem.W.kitOne K t (.type n)=some b/\Q (.bl b) H
theorem Vs{X:Cx}:Jh X (.builtin "isinstance") (ME X.K):=qA
theorem EX{K:PySem.W.Frag}{T:String}:PySem.W.kitOne K (.type T) (.type T)=some true:=by
 unfold PySem.W.kitOne
 rw[if_pos (by simp)]
theorem compScope0{X:Cx}{a:Scope}{x:Str}(d:closureFor a X.env=pure [])(b:∀y∈a.names,y.2≠.cell)(kind:a.kind=.function)(c:∀y∈a.names,y.2=.local->a.names.lookup y.1=some .local)(f:a.names.lookup x=some .local)(e:(a.names.all λy=>!(y.2 == Ex) || (([]:List (Str×Addr)).lookup y.1).isSome)=true):CompScope X a [] x [] [] :=
 ⟨d,.inl b,kind,c,.inl f,λ_ _ h=>by simp at h,e,Cg.mpr ⟨Ce,Do⟩,rfl,λk y j g _=>by simp at g⟩
theorem sz{n:Nat}(h:n<=1000:=by first | decide | simp | (simp; omega)):n<=Bf:=Lk (yO h)
end Nd
namespace Nd
open PySem PySem.Spec PyProof.Rows L2
theorem EN{K:PySem.W.Frag}{T n:String}{b:Bool}(h1:(Ed T == Ed n)=false)(c:PySem.W.kitMeta n=true)(a:(fastBuiltinMro T).map (λx=>x.contains (Ed n))=some b):PySem.W.kitOne K (.type T) (.type n)=some b:=by
 unfold PySem.W.kitOne PySem.W.kitCls
 rw[h1,if_neg (by decide)]
 dsimp only
 rw[if_pos c]
 exact a
theorem x8(xs:Array Value):((Bg xs.size).filterMap λ(k:Nat)=>xs[((xs.size:Int) - 1+(k:Int) * (-1)).toNat]?).toArray=xs.toList.reverse.toArray:=by
 congr 1
 have h:∀n,n<=xs.size->((Bg n).filterMap λ(k:Nat)=>xs[((xs.size:Int) - 1+(k:Int) * (-1)).toNat]?)=xs.toList.reverse.take n:=by
  intro n
  induction n with
  | zero=>intro _; simp
  | succ n a =>
   intro b
   rw[List.range_succ,List.filterMap_append,a (by omega)]
   have e:((xs.size:Int) - 1+(n:Int) * (-1)).toNat=xs.size - 1 - n:=by omega
   have lt:n<xs.toList.reverse.length:=by rw[Hv,Af]; omega
   rw[List.take_add_one,Bk lt]
   congr 1
   simp only[Hw,List.filterMap_nil,e]
   rw[Cj (by omega),List.getElem_reverse]
   simp
 have:=h xs.size (Ah _)
 rw[this]
 rw[Eu (by rw[Hv,Af]; exact Ah _)]
theorem K5:∀{vs:List Value} {ns:List Int},Fg vs ns->Fz (ns.map V.int) vs
 | _,_,.nil=>.nil
 | _,_,.cons n t h=>.cons ⟨t,rfl⟩ (K5 h)
section
variable{X:Cx}
def nI(K:PySem.W.Frag):List V->Hp->VK->Prop:=λd H Q=>∃(a:Addr) (b:List Int),d=[.ref a]/\Ux K H a (b.map V.int)/\b.length<64 /\
 ∀(p:Addr) (c:List Int),H p=none->c.Perm b->c.Pairwise (·<=·)->Q (.ref p) (upd H p (.lst (c.map V.int)))
theorem kC:Jh X (.builtin "sorted") (nI X.K):=by
 intro g s w H t z Q I r h
 obtain ⟨a,x,rfl,l,i,q⟩:=h
 obtain ⟨u,rfl,m⟩:=vals1 r
 cases m
 obtain ⟨b,f,p,v⟩:=I.list l
 have len:b.length<64:=by rw[<- f.length,Ac]; exact i
 refine sorted_ints p.isList (intsAre_of f) len λout c j d k=>?_
 obtain ⟨e,n⟩:=sortedAll_at s.heap b out
 have y:c.length<64:=by rw[d.length_eq]; exact i
 exact ⟨.ref (s.heap.objs.size+1),_,I.laid (t':=s.toks) (o:=.lst (c.map V.int)) (λ_ _=>sortedAll_old) (Nat.le_succ _) ⟨by rw[Ac,Hq]; omega,out.toList,e,K5 j,by simpa using n⟩,rfl,q _ c (I.hok.fresh (Nat.le_succ _)) d k⟩
theorem C1(xs:Array Value):slicePick xs none none (some (-1))=xs.toList.reverse.toArray:=by
 rw[<- x8]
 unfold slicePick
 congr 1
 have a:sliceRange (Kn none none (some (-1)) xs.size).1 (Kn none none (some (-1)) xs.size).2.1 (Kn none none (some (-1)) xs.size).2.2=(Bg xs.size).map λ(k:Nat)=>((xs.size:Int) - 1+(k:Int) * (-1)).toNat:=by
  show sliceRange ((xs.size:Int) - 1) (-1) (-1)=_
  unfold sliceRange
  have c:(if (-1:Int) > 0 then (if (xs.size:Int) - 1 < -1 then (-1 - ((xs.size:Int) - 1) + -1 - 1) / -1 else 0) else (if (xs.size:Int) - 1 > -1 then ((xs.size:Int) - 1 - -1 - -1 - 1) / (- -1) else 0)).toNat=xs.size:=by
   rw[if_neg (by decide),show (- -1:Int)=1 from rfl,Int.ediv_one]
   split <;> omega
  dsimp only
  rw[c]
  refine Jk λk _=>?_
  congr 1
  omega
 rw[a,List.filterMap_map]
 rfl
theorem Q7{e k:Expr}{B C:TE}{pos u:Pos}(O:PE X e B)(J:PE X k C)(m:∀σ H Q,Q (.int (-1)) H->C σ H Q):PE X (.Subscript e (.Slice none none (some k) u) pos) (λσ H Q=>B σ H λx g=>∃a xs,x=.ref a/\Ux X.K g a xs/\∀p,g p=none->Q (.ref p) (upd g p (.lst xs.reverse))):=by
 intro c s σ H Q I h
 refine Subscript_ (Ir (O c s σ H _ I h) λv G f => ?_)
 obtain ⟨x,g,M,E,a,xs,S,N,q⟩ := f
 subst S
 cases E
 refine wpAny_Slice ?_
 rw[evalPart_none]
 refine Ag (Ag ?_)
 rw[evalPart_some]
 refine Ir (J c G σ g (λy l=>y=.int (-1)/\l=g) M (m _ _ _ ⟨rfl,rfl⟩)) λW d f => ?_
 obtain ⟨y,l,P,U,R,L⟩ := f
 subst R
 subst L
 obtain ⟨t,rfl⟩:=U
 have j:Inv X c σ l { d with heap:=d.heap.push { cls:=.type "slice",data:=.fields #[.none,.none,.int (-1) t] } }:=P.kept (t':=d.toks) λb V q=>Aj _ q
 obtain ⟨i,r,D,F⟩:=j.list N
 have n:=r.length
 show wpAny (model X.prog X.w) X.A (fG e (.Slice none none (some k) u) (.ref a) (.ref d.heap.objs.size)) (EP X c σ Q) X.xe { d with heap:=d.heap.push { cls:=.type "slice",data:=.fields #[.none,.none,.int (-1) t] } }
 refine tail_any (ops:=[.ref a,.ref d.heap.objs.size]) (T := "list") D.isList.typeIs jG.lookup (zB D.isList (Heap.IsSliceOf.new ..) .none .none (.int (-1) t) (by simp) ?_ (by rw[Ar] <;> omega)) (by with_unfolding_all rfl)
 rw[C1]
 exact ⟨.ref _,_,j.laid (o:=.lst xs.reverse) (t':=d.toks) (λb V q=>Aj _ q) (Ah _) ⟨by rw[Hv]; exact F,i.reverse,0,r.reverse,by
  have z:=Bi (d.heap.push { cls:=.type "slice",data:=.fields #[.none,.none,.int (-1) t] }) (o:={ cls:=.type "list",data:=.seq i.toArray.toList.reverse.toArray }) rfl
  simpa using z⟩,rfl,q _ (j.hok.fresh (Ah _))⟩
end
end Nd
namespace NdS
open PySem
theorem Wz{mask finger moves:Nat}{led plain:Bool}{b:Array Int}{t:Bc}{order:Array Nat}(h:Hr mask finger moves led plain b=some (t,order)):t.led=led/\t.mask=mask/\t.plain=plain/\t.dummies=#[]:=by
 unfold Hr at h
 cases c:Ka mask b with
 | none=>rw[c] at h; cases h
 | some a =>
  rw[c] at h
  cases h
  exact ⟨rfl,rfl,rfl,rfl⟩
def st(m i:Nat):Nat:=(i * 5+1) % m
def it(m:Nat):Nat->Nat->Nat
 | 0,i=>i
 | t+1,i=>it m t (st m i)
theorem cS(m:Nat):∀(a b i:Nat),it m (a+b) i=it m b (it m a i)
 | 0,b,i=>by rw[Ie]; rfl
 | a+1,b,i=>by rw[aU]; exact cS m a b (st m i)
def HL(m:Nat):Nat->Nat->List Nat
 | 0,_=>[]
 | f+1,i=>i::HL m f (st m i)
theorem bS{m:Nat}:∀{f i e:Nat},e∈HL m f i->∃t,t<f/\it m t i=e
 | 0,_,_,h=>by cases h
 | f+1,i,e,h=>by
  rcases An.mp h with z | z
  ·exact ⟨0,Nl _,z.symm⟩
  ·obtain ⟨t,a,b⟩:=bS z
   exact ⟨t+1,Nat.succ_lt_succ a,b⟩
def Jz(m:Nat):Prop:=0<m/\it m m 0=0/\∀e,e<m->e∈HL m m 0
theorem Rc{m:Nat}(h0:0<m)(h1:(it m m 0 == 0)=true)(a:((Bg m).all λe=>(HL m m 0).contains e)=true):Jz m :=
 ⟨h0,by simpa using h1,λe b=>by
  have:=fL.mp a e (Cu.mpr b)
  simpa using this⟩
theorem uQ:Jz 8:=Rc (by decide) (by decide +kernel) (by decide +kernel)
theorem B5:Jz 16:=Rc (by decide) (by decide +kernel) (by decide +kernel)
theorem K1:Jz 32:=Rc (by decide) (by decide +kernel) (by decide +kernel)
theorem o6:Jz 64:=Rc (by decide) (by decide +kernel) (by decide +kernel)
theorem vD:Jz 128:=Rc (by decide) (by decide +kernel) (by decide +kernel)
theorem mB:Jz 256:=Rc (by decide) (by decide +kernel) (by decide +kernel)
theorem GQ{m:Nat}(g:Jz m){i e:Nat}(k:i<m)(l:e<m):∃t,t<m/\it m t i=e:=by
 obtain ⟨p,j,f⟩:=g
 obtain ⟨a,n,h⟩:=bS (f i k)
 obtain ⟨b,o,d⟩:=bS (f e l)
 by_cases c:a<=b
 ·refine ⟨b - a,by omega,?_⟩
  rw[<- h,<- cS,Nat.add_sub_cancel' c]
  exact d
 ·refine ⟨b+m - a,by omega,?_⟩
  rw[<- h,<- cS,show a+(b+m - a)=m+b by omega,cS,j]
  exact d
def lp(m:Nat):Nat->Nat->Nat->Nat×Nat
 | 0,i,p=>(i,p)
 | t+1,i,p=>lp m t ((i * 5+1+p / 32) % m) (p / 32)
theorem E7(m:Nat):∀(a b i p:Nat),lp m (a+b) i p=lp m b (lp m a i p).1 (lp m a i p).2
 | 0,b,i,p=>by rw[Ie]; rfl
 | a+1,b,i,p=>by rw[aU]; exact E7 m a b _ _
theorem uZ(m:Nat):∀(t i:Nat),lp m t i 0=(it m t i,0)
 | 0,_=>rfl
 | t+1,i=>uZ m t (st m i)
theorem qI{m:Nat}:∀(n i p:Nat),p<32 ^ n->(lp m n i p).2=0
 | 0,i,p,h=>by show p=0; simpa using h
 | n+1,i,p,h=>qI n _ _ (by rw[bV] at h; exact Nat.div_lt_of_lt_mul (by omega))
theorem AG{m:Nat}(h0:0<m):∀(n i p:Nat),i<m->(lp m n i p).1<m
 | 0,i,p,h=>h
 | n+1,i,p,h=>AG h0 n _ _ (Kb _ h0)
theorem eX{m:Nat}(g:Jz m){i p e:Nat}(c:i<m)(f:p<2 ^ 64)(d:e<m):∃t,t<m+14/\(lp m t i p).1=e:=by
 have a:=qI (m:=m) 13 i p (Cm f (by decide))
 obtain ⟨t,h,b⟩:=GQ g (AG g.1 13 i p c) d
 refine ⟨13+t,by omega,?_⟩
 rw[E7,a,uZ]
 exact b
theorem Ou(mask i:Nat):i<=Da mask i:=by unfold Da; split <;> omega
theorem iX{mask:Nat}{owner:Array (Option Nat)}:∀(fuel i p t:Nat),t<fuel->(owner.getD (lp (mask+1) t i p).1 (some 0)).isNone=true->∃j,Dw mask owner fuel i p=some j/\(owner.getD j (some 0)).isNone=true
 | 0,_,_,_,h,_=>absurd h (Dv _)
 | fuel+1,i,p,t,h,hn=>by
  unfold Dw
  split
  ·rename_i k a
   exact ⟨i+k,rfl,by have:=Uv a; exact this⟩
  ·rename_i a
   rw[List.find?_eq_none] at a
   cases t with
   | zero =>
    have:=a 0 (Cu.mpr (by have:=Ou mask i; omega))
    exact absurd hn (by simpa [lp] using this)
   | succ t =>
    exact iX fuel _ _ t (by omega) hn
theorem Vr{L:List (Option Nat)}:∀{j x:Nat},L[j]? = some none->((L.set j (some x)).filterMap id).Perm (x::L.filterMap id):=by
 induction L with
 | nil=>intro j x h; simp at h
 | cons a L d =>
  intro j x h
  cases j with
  | zero =>
   simp at h
   subst h
   simp
  | succ j =>
   have c:L[j]? = some none:=by simpa using h
   have:=d (x:=x) c
   cases a with
   | none=>simpa using this
   | some b=>simpa using (Pd b this).trans (Fh x b _)
theorem xE{L:List (Option Nat)}:(L.filterMap id).length<L.length->∃j:Nat,L[j]? = some none:=by
 induction L with
 | nil=>intro h; simp at h
 | cons a L c =>
  intro h
  cases a with
  | none=>exact ⟨0,rfl⟩
  | some b =>
   have : (L.filterMap id).length<L.length:=by simpa using h
   obtain ⟨j,d⟩:=c this
   exact ⟨j+1,by simpa using d⟩
theorem mF(h:Int):Ca h<2 ^ 64:=by
 unfold Ca
 have a:=Int.emod_nonneg h (show (2 ^ 64:Int)≠0 by decide)
 have b:=Int.emod_lt_of_pos h (show (0:Int)<2 ^ 64 by decide)
 omega
def kA(mask:Nat)(a:Option (Array (Option Nat)×Nat))(h:Int):Option (Array (Option Nat)×Nat):=do
 let (owner,k) <- a
 let j <- Dw mask owner (Dj mask) (Ca h % (mask+1)) (Ca h)
 pure (owner.setIfInBounds j (some k),k+1)
theorem nQ{mask:Nat}(g:Jz (mask+1)):∀(b:List Int) (owner:Array (Option Nat)) (n:Nat),owner.size=mask+1->(owner.toList.filterMap id).Perm (Bg n)->n+b.length<=mask->∃a:Array (Option Nat),b.foldl (kA mask) (some (owner,n))=some (a,n+b.length)/\a.size=mask+1/\(a.toList.filterMap id).Perm (Bg (n+b.length))
 | [],owner,n,h1,h2,_=>⟨owner,rfl,h1,h2⟩
 | h::b,owner,n,h1,h2,h3=>by
  rw[Bd] at h3
  have len:(owner.toList.filterMap id).length=n:=by rw[h2.length_eq,Cs]
  obtain ⟨e,k⟩:=xE (L:=owner.toList) (by rw[len,Af]; omega)
  have f:e<mask+1:=by
   have:=(Ai.mp k).1
   rw[Af] at this
   omega
  obtain ⟨t,z,w⟩:=eX g (i:=Ca h % (mask+1)) (p:=Ca h) (e:=e) (Kb _ g.1) (mF h) f
  have u:(owner.getD (lp (mask+1) t (Ca h % (mask+1)) (Ca h)).1 (some 0)).isNone=true:=by
   rw[w,Bw,<- Dx,k]
   rfl
  obtain ⟨j,o,c⟩:=iX (mask:=mask) (owner:=owner) (Dj mask) _ _ t (by unfold Dj; omega) u
  have d:owner.toList[j]? = some none:=by
   rw[Bw,<- Dx] at c
   cases q:owner.toList[j]? with
   | none=>rw[q] at c; simp at c
   | some v =>
    rw[q] at c
    cases v with
    | none=>rfl
    | some v=>simp at c
  have s:kA mask (some (owner,n)) h=some (owner.setIfInBounds j (some n),n+1):=by
   show (do
    let j <- Dw mask owner (Dj mask) (Ca h % (mask+1)) (Ca h)
    pure (owner.setIfInBounds j (some n),n+1))=_
   rw[o]
   rfl
  rw[List.foldl_cons,s]
  have m:((owner.setIfInBounds j (some n)).toList.filterMap id).Perm (Bg (n+1)):=by
   rw[jJ]
   refine (Vr d).trans ?_
   rw[List.range_succ]
   exact (Pd n h2).trans (Em (l₁:=[n]) (l₂:=Bg n))
  obtain ⟨r,y,l,x⟩:=nQ g b (owner.setIfInBounds j (some n)) (n+1) (by rw[Lw]; exact h1) m (by omega)
  refine ⟨r,?_,l,?_⟩
  ·rw[y,Bd]
   congr 2
   omega
  ·rw[Bd,show n+(b.length+1)=n+1+b.length by omega]
   exact x
theorem oZ{mask:Nat}(g:Jz (mask+1))(a:Array Int)(hl:a.size<=mask):∃owner:Array (Option Nat),Ka mask a=some owner/\owner.size=mask+1/\(owner.toList.filterMap id).Perm (Bg a.size):=by
 have d:((Pe (mask+1) (none:Option Nat)).toList.filterMap id).Perm (Bg 0):=by
  rw[Array.toList_replicate]
  simp
 obtain ⟨o,b,e,c⟩:=nQ g a.toList (Pe (mask+1) none) 0 (by simp) d (by simpa using hl)
 rw[Af,Ie] at b c
 refine ⟨o,?_,e,c⟩
 unfold Ka
 rw[<- Array.foldl_toList]
 show (a.toList.foldl (kA mask) (some (Pe (mask+1) none,0))).map (·.1)=some o
 rw[b]
 rfl
theorem sS(owner:Array (Option Nat)):((Bg owner.size).filterMap λj=>(owner.getD j none).map λx=>(j,x)).map (·.2)=owner.toList.filterMap id:=by
 obtain ⟨L⟩:=owner
 simp only[Ar]
 have h:∀(L:List (Option Nat)) (c:List (Option Nat)),((List.range' c.length L.length).filterMap λj=>(((c++L)[j]?).getD none).map λx=>(j,x)).map (·.2)=L.filterMap id:=by
  intro L
  induction L with
  | nil=>intro c; rfl
  | cons a L f =>
   intro c
   rw[Bd,List.range'_succ,Hw]
   have e:((c++a::L)[c.length]?).getD none=a:=by simp
   have d:=f (c++[a])
   rw[Bh,Gu,Cr,List.singleton_append] at d
   cases a with
   | none =>
    simp only[e,Option.map_none,List.filterMap_cons_none,id]
    exact d
   | some b =>
    simp only[e,Option.map_some,Au,List.filterMap_cons_some,id]
    rw[d]
    simp
 have:=h L []
 rw[Kc,<- List.range_eq_range',List.nil_append] at this
 rw[<- this]
 congr 1
 congr 1
 funext j
 rw[Bw]
 simp
theorem O2{mask finger moves:Nat}{led plain:Bool}(g:Jz (mask+1))(a:Array Int)(hl:a.size<=mask):∃(t:Bc) (order:Array Nat),Hr mask finger moves led plain a=some (t,order)/\order.toList.Perm (Bg a.size)/\t.fits a.size=true/\t.led=led:=by
 obtain ⟨o,d,f,c⟩:=oZ g a hl
 have e:Hr mask finger moves led plain a=some ({ mask:=mask,place:=(((Bg (mask+1)).filterMap λj=>(o.getD j none).map λx=>(j,x)).map (·.1)).toArray,dummies:=#[],finger:=finger,led:=led,moves:=moves,plain:=plain },
   (((Bg (mask+1)).filterMap λj=>(o.getD j none).map λx=>(j,x)).map (·.2)).toArray):=by
  unfold Hr
  rw[d]
  rfl
 have b:=sS o
 rw[f] at b
 have len:((Bg (mask+1)).filterMap λj=>(o.getD j none).map λx=>(j,x)).length=a.size:=by
  have:=congrArg Iy b
  rw[Ac,c.length_eq,Cs] at this
  exact this
 refine ⟨_,_,e,by rw[List.toList_toArray,b]; exact c,?_,rfl⟩
 simp only[SetTable.fits,Vj,Ar,Ac,len,Fo,beq_self_eq_true,true_and,decide_eq_true_eq]
 show a.size+0<=mask
 omega
theorem J1{a:Type}(es:Array a){order:Array Nat}(p:order.toList.Perm (Bg es.size)):(order.filterMap (es[·]?)).toList.Perm es.toList/\(order.filterMap (es[·]?)).size=es.size:=by
 have e:(order.filterMap (es[·]?)).toList.Perm es.toList:=by
  rw[qN]
  have:=p.filterMap (es[·]?)
  rw[filterMap_getElem?_range] at this
  exact this
 exact ⟨e,by rw[<- Af,e.length_eq,Af]⟩
theorem eE{n:Nat}(h:n<256):∃m,Ef n=m+1/\Jz (m+1)/\n<=m:=by
 have a:∀k:Fin 256,(Ef k.1 == 8 && decide (k.1<8)) || (Ef k.1 == 16 && decide (k.1<16)) || (Ef k.1 == 32 && decide (k.1<32)) || (Ef k.1 == 64 && decide (k.1<64)) || (Ef k.1 == 128 && decide (k.1<128)) || (Ef k.1 == 256 && decide (k.1<256))=true:=by decide +kernel
 have q:=a ⟨n,h⟩
 simp only[Bool.or_eq_true,Fo,beq_iff_eq,decide_eq_true_eq] at q
 rcases q with ((((q | q) | q) | q) | q) | q
 ·exact ⟨7,q.1,uQ,by omega⟩
 ·exact ⟨15,q.1,B5,by omega⟩
 ·exact ⟨31,q.1,K1,by omega⟩
 ·exact ⟨63,q.1,o6,by omega⟩
 ·exact ⟨127,q.1,vD,by omega⟩
 ·exact ⟨255,q.1,mB,by omega⟩
abbrev mG(p:Array Nat):Prop:=p.toList.Pairwise (· < ·)
theorem Uc{p:Array Nat}(r:mG p){i j:Nat}(h:i<j)(a:j<p.size):p[i]'(by omega)<p[j]:=by
 have:=Bx.mp r i j (by rw[Af]; omega) (by rw[Af]; exact a) h
 simpa using this
structure Below(p:Array Nat)(j b:Nat):Prop where
 le:b<=p.size
 lo:∀i (h:i<p.size),i<b->p[i]<j
 hi:∀i (h:i<p.size),b<=i->j<=p[i]
theorem dJ{p:Array Nat}{j:Nat}(r:mG p):∀(fuel lo a:Nat),a<=p.size->lo<=a->a - lo<=fuel->(∀i (h:i<p.size),i<lo->p[i]<j)->(∀i (h:i<p.size),a<=i->j<=p[i])->Below p j (Tq p j fuel lo a)
 | 0,lo,a,h1,h2,h3,h4,h5=>by
  unfold Tq
  have e:lo=a:=by omega
  exact ⟨by omega,λi h b=>h4 i h b,λi h b=>h5 i h (by omega)⟩
 | fuel+1,lo,a,h1,h2,h3,h4,h5=>by
  unfold Tq
  split
  ·rename_i b
   have f:(lo+a) / 2<p.size:=by omega
   have e:p.getD ((lo+a) / 2) j=p[(lo+a) / 2]:=by simp [Array.getD,f]
   dsimp only
   rw[e]
   split
   ·rename_i d
    refine dJ r fuel _ a h1 (by omega) (by omega) (λi h c=>?_) h5
    by_cases z:i=(lo+a) / 2
    ·subst z; exact d
    ·exact Uu (Uc r (show i<(lo+a) / 2 by omega) f) d
   ·rename_i d
    refine dJ r fuel lo _ (by omega) (by omega) (by omega) h4 (λi h c=>?_)
    by_cases z:i=(lo+a) / 2
    ·subst z; omega
    ·exact Co (by omega) (Lk (Uc r (show (lo+a) / 2<i by omega) h))
  ·exact ⟨by omega,λi h b=>h4 i h b,λi h b=>h5 i h (by omega)⟩
theorem Sx{p:Array Nat}(r:mG p)(j:Nat):Below p j (Be p j) :=
 dJ r _ _ _ (Ah _) (Ds _) (by omega) (λi h a=>absurd a (Dv _)) (λi h a=>absurd a (by omega))
theorem Below.eq{p:Array Nat}{j b a:Nat}(x:Below p j b)(y:Below p j a):b=a:=by
 rcases Nm b a with z | z | z
 ·have h:b<p.size:=Cm z y.le
  exact absurd (y.lo b h z) (Nat.not_lt.mpr (x.hi b h (Ah _)))
 ·exact z
 ·have h:a<p.size:=Cm z x.le
  exact absurd (x.lo a h z) (Nat.not_lt.mpr (y.hi a h (Ah _)))
theorem aE{p:Array Nat}(r:mG p):Be p 0=0 :=
 (Sx r 0).eq ⟨Ds _,λi h a=>absurd a (Dv _),λi h _=>Ds _⟩
theorem eJ{p:Array Nat}(r:mG p){i:Nat}(h:i<p.size):Be p (p[i]+1)=i+1 :=
 (Sx r _).eq ⟨h,λk a b=>by
  by_cases z:k=i
  ·subst z; exact Oh _
  ·exact Ho (Uc r (show k<i by omega) h),λk a b=>Uc r (show i<k by omega) a⟩
structure TabOk(n:Nat)(t:Bc):Prop where
 good:Jz (t.mask+1)
 dum:t.dummies=#[]
 plain:t.plain=true
 rise:mG t.place
 top:∀j∈t.place.toList,j<=t.mask
 size:t.place.size=n
structure Tab(n:Nat)(t:Bc):Prop extends TabOk n t where
 room:n * 5<t.mask * 3
theorem Uh{t:Bc}{n:Nat}(x:Tab n t):n+1<=t.mask:=by have:=x.room; omega
theorem TabOk.fits{t:Bc}{n:Nat}(x:TabOk n t)(h:n<=t.mask):t.fits n=true:=by
 simp only[SetTable.fits,Vj,x.dum,x.size,Fo,beq_self_eq_true,true_and,decide_eq_true_eq]
 show n+0<=t.mask
 omega
theorem Tab.fits{t:Bc}{n:Nat}(x:Tab n t):t.fits n=true:=x.toTabOk.fits (by have:=Uh x; omega)
theorem Kk{t:Bc}{n j:Nat}(x:TabOk n t):t.slot j=.empty↔j∉t.place.toList:=by
 have g:Yg t.dummies j=false:=by rw[x.dum]; rfl
 unfold Vi
 dsimp only
 rw[g]
 constructor
 ·intro h m
  obtain ⟨i,a,e⟩:=Hf.mp m
  rw[Af] at a
  have c:t.place[i]=j:=by simpa using e
  have b:Be t.place j=i:=(Sx x.rise j).eq ⟨Lk a,λk d f=>by rw[<- c]; exact Uc x.rise f a,λk d f=>by
   by_cases z:i=k
   ·subst z; exact Nat.le_of_eq c.symm
   ·rw[<- c]; exact Lk (Uc x.rise (show i<k by omega) d)⟩
  rw[b,Cj a,c,if_pos (by simp)] at h
  cases h
 ·intro h
  rw[if_neg (λz=>h ?_)]
  ·rfl
  ·have l:t.place[Be t.place j]? = some j:=by simpa using z
   have:=Array.mem_of_getElem? l
   exact Array.mem_def.mp this
theorem Sj{t:Bc}{n j:Nat}(x:TabOk n t):t.slot j≠.dummy:=by
 have a:Yg t.dummies j=false:=by rw[x.dum]; rfl
 unfold Vi
 dsimp only
 rw[a]
 split
 ·intro h; cases h
 ·intro h; cases h
theorem Ub{mask i:Nat}(h:i<=mask):Da mask i<=mask:=by unfold Da; split <;> omega
theorem My(mask i:Nat):Da mask i - i<=9:=by unfold Da; split <;> omega
theorem bL(mask i p:Nat):SetTable.leap mask i p=((i * 5+1+p / 32) % (mask+1),p / 32):=rfl
theorem eD{t:Bc}{n:Nat}{h:Int}(x:TabOk n t):∀(fuel u:Nat) (p:Du),p.more<=9->p.j+p.more<=t.mask->p.dummy=none->p.more+2+10 * u<=fuel->t.slot (lp (t.mask+1) (u+1) p.i p.perturb).1=.empty->∃j,Ia t (λ_=>h+1) h fuel p=some (.empty j none)/\t.slot j=.empty/\j<=t.mask
 | 0,u,p,_,_,_,h3,_=>absurd h3 (by omega)
 | fuel+1,u,p,h1,h2,hd,h3,h4=>by
  unfold Ia
  split
  ·rename_i b
   exact ⟨p.j,by rw[hd],b,by omega⟩
  ·rename_i b
   exact absurd b (Sj x)
  ·rw[if_neg (by simp; omega)]
   unfold Jf
   split
   ·rename_i d
    exact eD x fuel u _ (by dsimp only; omega) (by dsimp only; omega) hd (by dsimp only; omega) h4
   ·rename_i d
    rw[bL]
    dsimp only
    have c:(p.i * 5+1+p.perturb / 32) % (t.mask+1)<=t.mask:=Pr.mp (Kb _ (Nl _))
    cases u with
    | zero =>
     cases fuel with
     | zero=>omega
     | succ fuel =>
      unfold Ia
      dsimp only
      have a:t.slot ((p.i * 5+1+p.perturb / 32) % (t.mask+1))=.empty:=h4
      rw[a]
      exact ⟨_,by rw[hd],a,c⟩
    | succ u =>
     refine eD x fuel u _ (My _ _) ?_ hd ?_ h4
     ·dsimp only
      have:=Ub c
      have:=Ou t.mask ((p.i * 5+1+p.perturb / 32) % (t.mask+1))
      omega
     ·dsimp only
      have:=My t.mask ((p.i * 5+1+p.perturb / 32) % (t.mask+1))
      omega
theorem J3:∀{l1 l2:List Nat},l1.Nodup->(∀e∈l1,e∈l2)->l1.length<=l2.length
 | [],_,_,_=>Ds _
 | a::l1,l2,nd,h=>by
  have b:=Cg.mp nd
  have d:=h a (Ab ..)
  have:=J3 (l2:=l2.erase a) b.2 λe c=>(Ot (show e≠a from λz=>b.1 (by rw[<- z]; exact c))).mpr (h e (Ad _ c))
  rw[Lz d] at this
  have p:0<l2.length:=Nf d
  rw[Bd]
  omega
theorem vC{m:Nat}{l:List Nat}(b:l.Pairwise (· < ·))(h:l.length<m):∃e,e<m/\e∉l:=by
 refine Ea λz=>?_
 have all:∀e,e∈Bg m->e∈l:=λe a=>Ea λq=>z ⟨e,Cu.mp a,q⟩
 have:=J3 List.nodup_range all
 rw[Cs] at this
 omega
theorem qC{t:Bc}{n:Nat}(x:Tab n t)(h:Int):∃j,t.freeSlot h=some (j,false)/\j∉t.place.toList/\j<=t.mask:=by
 have v:=Uh x
 obtain ⟨e,r,d⟩:=vC (m:=t.mask+1) x.rise (by rw[Af,x.size]; omega)
 obtain ⟨u,w,c⟩:=eX x.good (i:=Ca h % (t.mask+1)) (p:=Ca h) (e:=e) (Kb _ (Nl _)) (mF h) r
 have g:Ca h % (t.mask+1)<=t.mask:=Pr.mp (Kb _ (Nl _))
 have b:∃j,t.probe (λ_=>h+1) h (t.probeStart h)=some (.empty j none)/\t.slot j=.empty/\j<=t.mask:=by
  unfold SetTable.probe
  cases u with
  | zero =>
   have s:t.slot (Ca h % (t.mask+1))=.empty:=(Kk x.toTabOk).mpr (by rw[show Ca h % (t.mask+1)=e from c]; exact d)
   obtain ⟨f,k⟩ : ∃f,10 * Dj t.mask=f+1:=⟨10 * Dj t.mask - 1,by unfold Dj; omega⟩
   rw[k]
   unfold Ia
   have a:t.slot (t.probeStart h).j=.empty:=s
   rw[a]
   exact ⟨_,rfl,a,g⟩
  | succ u =>
   refine eD x.toTabOk _ u (t.probeStart h) (My _ _) ?_ rfl ?_ ?_
   ·have:=Ub g
    have:=Ou t.mask (Ca h % (t.mask+1))
    show Ca h % (t.mask+1)+(Da t.mask (Ca h % (t.mask+1)) - Ca h % (t.mask+1))<=t.mask
    omega
   ·have:=My t.mask (Ca h % (t.mask+1))
    show Da t.mask (Ca h % (t.mask+1)) - Ca h % (t.mask+1)+2+10 * u<=10 * Dj t.mask
    unfold Dj
    omega
   ·exact (Kk x.toTabOk).mpr (by rw[show (lp (t.mask+1) (u+1) (t.probeStart h).i (t.probeStart h).perturb).1=e from c]; exact d)
 obtain ⟨j,l,q,o⟩:=b
 refine ⟨j,?_,(Kk x.toTabOk).mp q,o⟩
 unfold SetTable.freeSlot
 rw[l]
 rfl
theorem Zx{p:Array Nat}(r:mG p){j:Nat}(h:j∉p.toList):mG (Bz p (Be p j) j):=by
  have b:=Sx r j
  show (Bz p (Be p j) j).toList.Pairwise (· < ·)
  rw[Qn]
  have n:(p.toList.take (Be p j)).Pairwise (· < ·):=r.sublist (Ks _ _)
  have o:(p.toList.drop (Be p j)).Pairwise (· < ·):=r.sublist (Ja _ _)
  have k:∀e∈p.toList.take (Be p j),e<j:=λe l=>by
    obtain ⟨i,d,m⟩:=Rm.mp l
    rw[Af] at d
    have:=b.lo i (by omega) (by omega)
    rw[<- m]
    simpa using this
  have d:∀e∈p.toList.drop (Be p j),j<e:=λe l=>by
    have q:e∈p.toList:=Wc l
    obtain ⟨i,d,m⟩:=List.mem_drop_iff_getElem.mp l
    rw[Af] at d
    have:=b.hi (i+Be p j) (by omega) (by omega)
    have s:j<=e:=by
      rw[<- m]
      simpa [Nat.add_comm] using this
    exact Nat.lt_of_le_of_ne s λz=>h (by rw[z]; exact q)
  simp only[List.pairwise_append,List.pairwise_cons,An,Ba]
  first
    | exact ⟨n,⟨d,o⟩,λa f c g=>by
        rcases g with z | z
        · rw[z]; exact k a f
        · exact Uu (k a f) (d c z)⟩
    | (refine ⟨⟨n,⟨by simp,Dz⟩,λa f c g=>?_⟩,o,λa f c g=>?_⟩
       · have z:c=j:=by simpa using g
         rw[z]; exact k a f
       · rcases f with z | z | z
         · exact Uu (k a z) (d c g)
         · rw[z]; exact d c g
         · cases z)
theorem EG{t:Bc}{es:Array (Int×Value)}(x:Tab es.size t)(h:Int)(v:Value):∃(a:Array (Int×Value)) (c:Bc),layNew t es h v=(a,c,false,false)/\a.toList.Perm (es.toList++[(h,v)])/\a.size=es.size+1/\TabOk a.size c/\c.mask=t.mask/\c.led=t.led:=by
 obtain ⟨j,i,l,k⟩:=qC x h
 have n:=Uh x
 have perm:=Jo es (Be t.place j) (h,v)
 rw[Fp] at perm
 have size:(Bz es (Be t.place j) (h,v)).size=es.size+1:=by
  rw[<- Af,perm.length_eq,Bh,Af]
  rfl
 have d:=Jo t.place (Be t.place j) j
 rw[Fp] at d
 have b:(Bz t.place (Be t.place j) j).size=es.size+1:=by
  rw[<- Af,d.length_eq,Bh,Af,x.size]
  rfl
 have g:Yg t.dummies j=false:=by rw[x.dum]; rfl
 have ok:TabOk (es.size+1) { t with place:=Bz t.place (Be t.place j) j } :=
  ⟨x.good,x.dum,x.plain,Zx x.rise l,λe m=>by
   rcases Ba.mp (d.mem_iff.mp m) with z | z
   ·exact x.top e z
   ·rw[Al.mp z]; exact k,b⟩
 refine ⟨_,{ t with place:=Bz t.place (Be t.place j) j },?_,perm,size,by rw[size]; exact ok,rfl,rfl⟩
 have f:({ t with place:=Bz t.place (Be t.place j) j }:Bc).fits (Bz es (Be t.place j) (h,v)).size=true:=by
  rw[size]
  exact ok.fits (by omega)
 unfold layNew
 rw[i]
 simp only[SetTable.put,g,Bt,if_false,SetTable.orStandIn,f,if_true,Kf]
theorem yP{mask finger moves:Nat}{led plain:Bool}{r:Array Int}{t:Bc}{order:Array Nat}(h:Hr mask finger moves led plain r=some (t,order)):mG t.place/\(∀j∈t.place.toList,j<=mask):=by
 unfold Hr at h
 cases n:Ka mask r with
 | none=>rw[n] at h; cases h
 | some b =>
  rw[n] at h
  cases h
  have sub:∀(l:List Nat),l.Pairwise (· < ·)->(((l.filterMap λj=>(b.getD j none).map λx=>(j,x)).map (·.1)).Pairwise (· < ·))/\∀j∈((l.filterMap λj=>(b.getD j none).map λx=>(j,x)).map (·.1)),j∈l:=by
   intro l n
   have m:∀j∈((l.filterMap λj=>(b.getD j none).map λx=>(j,x)).map (·.1)),j∈l:=λj e=>by
    obtain ⟨q,p,rfl⟩:=Bl.mp e
    obtain ⟨k,o,c⟩:=Jx.mp p
    cases i:b.getD k none with
    | none=>rw[i] at c; cases c
    | some v=>rw[i] at c; cases c; exact o
   refine ⟨?_,m⟩
   clear m
   induction l with
   | nil=>exact Dz
   | cons a l u =>
    have d:=Ax.mp n
    have g:=u d.2
    rw[Hw]
    cases i:b.getD a none with
    | none=>simpa [i] using g
    | some v =>
     simp only[Option.map_some,Au,List.pairwise_cons]
     refine ⟨λj e=>?_,g⟩
     obtain ⟨q,p,rfl⟩:=Bl.mp e
     obtain ⟨k,o,c⟩:=Jx.mp p
     cases f:b.getD k none with
     | none=>rw[f] at c; cases c
     | some y=>rw[f] at c; cases c; exact d.1 k o
  obtain ⟨w,s⟩:=sub (Bg (mask+1)) List.pairwise_lt_range
  exact ⟨w,λj e=>Pr.mp (Cu.mp (s j e))⟩
theorem pL{mask finger moves:Nat}{led:Bool}(g:Jz (mask+1))(a:Array Int)(hl:a.size * 5<mask * 3):∃(t:Bc) (order:Array Nat),Hr mask finger moves led true a=some (t,order)/\order.toList.Perm (Bg a.size)/\Tab a.size t/\t.led=led:=by
 obtain ⟨t,order,b,k,j,l⟩:=O2 (finger:=finger) (moves:=moves) (led:=led) (plain:=true) g a (by omega)
 obtain ⟨f,c,d,h⟩:=Wz b
 obtain ⟨e,i⟩:=yP b
 have sz:t.place.size=a.size:=by
  have:=j
  simp only[SetTable.fits,Fo,beq_iff_eq] at this
  exact this.1
 exact ⟨t,order,b,k,⟨⟨by rw[c]; exact g,h,d,e,by rw[c]; exact i,sz⟩,by rw[c]; exact hl⟩,f⟩
theorem G5{t:Bc}{es:Array (Int×Value)}{wanted:Nat}(f:t.plain=true)(hw:wanted<256)(l:es.size * 2<=wanted):∃(t':Bc) (order:Array Nat),t.relaid (es.map (·.1)) wanted=some (t',order)/\order.toList.Perm (Bg es.size)/\Tab es.size t'/\t'.led=t.led:=by
 obtain ⟨m,e,g,i⟩:=eE hw
 have sz:(es.map (·.1)).size=es.size:=Vm ..
 have j:7<=m:=by
  have : 8<=Ef wanted:=by
   have a:∀k:Fin 256,decide (8<=Ef k.1)=true:=by decide +kernel
   exact of_decide_eq_true (a ⟨wanted,hw⟩)
  omega
 obtain ⟨t',order,h,b,c,d⟩:=pL (mask:=m) (finger:=t.finger) (moves:=t.movedTo m) (led:=t.led) g (es.map (·.1)) (by rw[sz]; omega)
 rw[sz] at b c
 refine ⟨t',order,?_,b,c,d⟩
 unfold SetTable.relaid
 rw[e,aT,f]
 exact h
theorem mW{t:Bc}{es:Array (Int×Value)}(j:t.plain=true)(l:es.size<64):∃(a:Array (Int×Value)) (t':Bc),relayAll t es (Po es.size)=(a,t',false)/\a.toList.Perm es.toList/\a.size=es.size/\Tab a.size t'/\t'.led=t.led:=by
 have k:Po es.size=es.size * 4:=by unfold Po; rw[if_neg (by omega)]
 obtain ⟨t',order,i,d,e,h⟩:=G5 (t:=t) (es:=es) (wanted:=es.size * 4) j (by omega) (by omega)
 obtain ⟨g,b⟩:=J1 es d
 refine ⟨order.filterMap (es[·]?),t',?_,g,b,by rw[b]; exact e,h⟩
 unfold relayAll
 rw[k,i]
 dsimp only
 have c:coversAll order es.size=true:=by
  unfold coversAll
  exact List.isPerm_iff.mpr d
 have f:t'.fits (order.filterMap (es[·]?)).size=true:=by rw[b]; exact e.fits
 rw[c,f]
 rfl
abbrev bt(w:World):Bool:=w.params.followText "set-order"
def cG:Int×Value->Int
 | (_,.int k _)=>k
 | _=>0
def eL(e:Int×Value):Prop:=∃k a,e=(hashInt k,Ld k a)
abbrev Lo(es:Array (Int×Value)):List Int:=es.toList.map cG
abbrev Fn(es:Array (Int×Value))(ep:Nat)(t:Bc):Obj:={ cls:=.type "set",dict:=none,data:=.set es ep t }
structure SetS(w:World)(h:Heap)(a:Addr)(es:Array (Int×Value))(ep:Nat)(t:Bc):Prop where
 obj:h.get? a=some (Fn es ep t)
 ent:∀e∈es.toList,eL e
 nd:(Lo es).Nodup
 tab:Tab es.size t
 led:bt w=false->t.led=true
 few:es.size<64
theorem SetS.keep{w:World}{h h':Heap}{a:Addr}{es:Array (Int×Value)}{ep:Nat}{t:Bc}(S:SetS w h a es ep t)(k:∀o,h.get? a=some o->h'.get? a=some o):SetS w h' a es ep t :=
 ⟨k _ S.obj,S.ent,S.nd,S.tab,S.led,S.few⟩
def ins(k:Int)(l:List Int):List Int:=if k∈l then l else k::l
theorem AQ{prog:Bp}{w:World}{h:Heap}{a:Addr}{es:Array (Int×Value)}{ep:Nat}{t:Bc}(S:SetS w h a es ep t):ElemsOf (Ci prog w) es.toList:=λe b=>by
 obtain ⟨k,c,rfl⟩:=S.ent e b
 exact ⟨⟨k,fS _ _ _ _,rfl⟩,rfl⟩
theorem j6{prog:Bp}{w:World}{e:Int×Value}(h:eL e)(k:Int):(Ci prog w).is k e.2=true↔cG e=k:=by
 obtain ⟨a,b,rfl⟩:=h
 show Rk k (.int a b)=true↔a=k
 simp [Rk]
 try exact eq_comm
theorem small{n:Nat}(h:n<64):n<=Bf:=by rw[Hq]; omega
theorem uX{es:Array (Int×Value)}{ep:Nat}{t:Bc}(a:Array (Int×Value))(t':Bc):aS a t' (Fn es ep t)=Fn a (ep+1) t':=putSet_of a t' rfl
theorem Wy{h:Heap}{a:Addr}{es:Array (Int×Value)}{ep:Nat}{t:Bc}(c:h.get? a=some (Fn es ep t))(b:Array (Int×Value))(t':Bc):(h.update a (aS b t')).get? a=some (Fn b (ep+1) t'):=by
 have:=Fs (aS b t') c (by rw[uX]; rfl)
 rw[uX] at this
 exact this
section
variable{prog:Bp}{w:World}{A:Cw}{E:Value->Ak->Prop}{s:Ak}
theorem Hk{a:Addr}{es:Array (Int×Value)}{ep:Nat}{t:Bc}{Q:(Array (Int×Value)×Nat×Bc)->Ak->Prop}(S:SetS w s.heap a es ep t)(h:Q (es,ep,t) s):wpAny (model prog w) A (setState a) Q E s :=
 Th S.obj rfl S.tab.fits h
theorem iO{es:Array (Int×Value)}{k:Int}(c:∀e∈es.toList,eL e):es.toList.findIdx? (λe=>(Ci prog w).is k e.2)=none↔k∉Lo es:=by
 rw[List.findIdx?_eq_none_iff]
 constructor
 ·intro h b
  obtain ⟨e,a,rfl⟩:=Bl.mp b
  have:=h e a
  rw[(j6 (c e a) _).mpr rfl] at this
  cases this
 ·intro h e b
  cases q:(Ci prog w).is k e.2 with
  | false=>rfl
  | true=>exact absurd (Bl.mpr ⟨e,b,(j6 (c e b) k).mp q⟩) h
theorem B2{a:Addr}{es:Array (Int×Value)}{ep:Nat}{t:Bc}{k:Int}{v:Tok}{Q:Bool->Ak->Prop}(S:SetS w s.heap a es ep t)(T:es.size<63)(h:∀b r D t' h',Fu a s.heap h'->SetS w h' a r D t'->(Lo r).Perm (ins k (Lo es))->Q b { s with heap:=h' }):wpAny (model prog w) A (jH a (.int k v) (hashInt k)) Q E s:=by
 unfold jH setAddHashedIn
 refine Dn (Aa (Hk S ?_))
 dsimp only
 rw[byScan_of (knd:=Ci prog w) (x:=.int k v) rfl (Uu S.few (by decide)) (AQ S),if_pos rfl]
 unfold setAddByScan
 refine Aa (Aa (fP (Aa ?_)))
 refine wpAny_setScan_of (knd:=Ci prog w) (k:=k) (fS _ _ _ _) S.obj rfl S.tab.fits (AQ S) ?_
 cases F:es.toList.findIdx? (λe=>(Ci prog w).is k e.2) with
 | some j =>
  dsimp only
  have o:k∈Lo es:=Ea λz=>by
   rw[(iO (prog:=prog) (w:=w) S.ent).mpr z] at F
   cases F
  refine Ag (Ag ?_)
  have:=h false es ep t s.heap (Heap.SameBut.refl a s.heap) S (by unfold ins; rw[if_pos o])
  exact this
 | none =>
  dsimp only
  have o:k∉Lo es:=(iO (prog:=prog) (w:=w) S.ent).mp F
  obtain ⟨c,g,P,M,R,f,U,J⟩:=EG S.tab (hashInt k) (.int k v)
  rw[P]
  dsimp only
  have l:∀e∈c.toList,eL e:=λe G=>by
   rcases Ba.mp (M.mem_iff.mp G) with z | z
   ·exact S.ent e z
   ·rw[Al.mp z]; exact ⟨k,v,rfl⟩
  have n:(Lo c).Perm (k::Lo es):=by
   have:=M.map cG
   rw[Bn] at this
   exact this.trans Em
  have H:(Lo c).Nodup:=n.nodup_iff.mpr (Cg.mpr ⟨o,S.nd⟩)
  have d:c.size<64:=by omega
  have y:bt w=false->g.led=true:=λz=>by rw[J]; exact S.led z
  refine Aa (m:=(pure ():Sem Unit)) (Ag ?_)
  rw[f.plain,if_pos rfl]
  refine Aa (m:=To 8 (.int k v)) (Ag ?_)
  simp only[if_true]
  by_cases C:g.tooFull=true
  ·obtain ⟨i,K,O,L,V,u,N⟩:=mW (es:=c) f.plain d
   have p:∀e∈i.toList,eL e:=λe G=>l e (L.mem_iff.mp G)
   have B:(Lo i).Perm (k::Lo es):=(L.map cG).trans n
   refine Aa (Oe S.obj rfl ?_ (small d))
   rw[C,if_pos (by decide),O]
   dsimp only
   refine Aa (m:=(pure ():Sem Unit)) (Ag ?_)
   have I:=Wy S.obj c g
   refine Aa (Oe I rfl (Ag ?_) (small (by omega)))
   dsimp only
   refine Ag (h true i (ep+1+1) K _ ((Bs s.heap a _).trans (Bs _ a _)) ⟨Wy I i K,p,B.nodup_iff.mpr (Cg.mpr ⟨o,S.nd⟩),u,λz=>by rw[N,J]; exact S.led z,by omega⟩ ?_)
   unfold ins
   rw[if_neg o]
   exact B
  ·have q:c.size * 5<g.mask * 3:=by
    have : ¬ (g.fill * 5 ≥ g.mask * 3):=λz=>C (by unfold SetTable.tooFull; exact decide_eq_true z)
    have e:g.fill=c.size:=by
     unfold Vj
     rw[f.dum,f.size]
     rfl
    omega
   refine Aa (Oe S.obj rfl ?_ (small d))
   rw[fM] at C
   rw[C]
   simp only[Qp,Bt,if_false]
   refine Ag ?_
   dsimp only
   refine Ag (h true c (ep+1) g _ (Bs s.heap a _) ⟨Wy S.obj c g,l,H,⟨f,q⟩,y,d⟩ ?_)
   unfold ins
   rw[if_neg o]
   exact n
end
theorem Jn{b:Type}:∀{l:List b} {i:Nat} (h:i<l.length),(l[i]::l.eraseIdx i).Perm l
 | [],_,h=>absurd h (Dv _)
 | a::l,0,h=>Gw _
 | a::l,i+1,h=>by
  have:=Jn (l:=l) (i:=i) (by simpa using h)
  exact (Fh a _ _).trans (Pd a this)
theorem tK{b:Type}(next:Nat->Nat):∀(fuel k:Nat) (left:List b) (out:Array b),left.length=fuel->(pickOrder.go next fuel k left out).toList.Perm (out.toList++left)
 | 0,k,left,out,h=>by
  unfold pickOrder.go
  have : left=[]:=fV h
  subst this
  simp
 | fuel+1,k,left,out,h=>by
  unfold pickOrder.go
  have a:next k % left.length<left.length:=Kb _ (by omega)
  rw[Bk a]
  dsimp only
  refine (tK next fuel (k+1) _ _ (by rw[List.length_eraseIdx,if_pos a]; omega)).trans ?_
  rw[Fp,Cr]
  exact Ju _ (Jn a)
theorem yT{a:Type}(next:Nat->Nat)(xs:Array a):(bF next xs).toList.Perm xs.toList:=by
 unfold bF
 simpa using tK next xs.size 0 xs.toList #[] (by simp)
section
variable{prog:Bp}{w:World}{A:Cw}{E:Value->Ak->Prop}{s:Ak}
theorem Pa{Q:Bool->Ak->Prop}(h:Q (bt w) s):wpAny (model prog w) A setsByText Q E s:=by
 unfold setsByText
 exact Aa (Vh (Ag h))
theorem lN{a:Addr}{es:Array (Int×Value)}{ep:Nat}{t:Bc}{Q:Array (Int×Value)->Ak->Prop}(S:SetS w s.heap a es ep t)(h:Q (if bt w then bF (w.params.setOrder a ep) es else es) s):wpAny (model prog w) A (setWalk a) Q E s:=by
 unfold setWalk
 refine Aa (Hk S ?_)
 dsimp only
 refine Aa (Pa ?_)
 cases j:bt w with
 | true =>
  rw[j] at h
  rw[if_pos rfl] at h ⊢
  exact Aa (Vh (Ag h))
 | false =>
  have n:=S.led j
  have o:=S.tab.plain
  rw[j] at h
  obtain ⟨l,g,c,d,i,k,b⟩:=t
  have e:i=true:=n
  have f:b=true:=o
  subst e f
  exact Aa (m:=(pure ():Sem Unit)) (Ag (Ag h))
theorem xC{a:Addr}{es:Array (Int×Value)}{ep:Nat}:(if bt w then bF (w.params.setOrder a ep) es else es).toList.Perm es.toList:=by
 cases bt w with
 | true=>exact yT _ _
 | false=>exact Gw _
end
def Xr(U:List Int)(l:List Int):Prop:=∀x∈l,x∈U
theorem len_leI:∀{l1 l2:List Int},l1.Nodup->(∀e∈l1,e∈l2)->l1.length<=l2.length
 | [],_,_,_=>Ds _
 | a::l1,l2,nd,h=>by
  have b:=Cg.mp nd
  have d:=h a (Ab ..)
  have:=len_leI (l2:=l2.erase a) b.2 λe c=>(Ot (show e≠a from λz=>b.1 (by rw[<- z]; exact c))).mpr (h e (Ad _ c))
  rw[Lz d] at this
  have p:0<l2.length:=Nf d
  rw[Bd]
  omega
theorem Xr.size{U:List Int}{es:Array (Int×Value)}(h:Xr U (Lo es))(a:(Lo es).Nodup):es.size<=U.length:=by
 have:=len_leI a h
 rw[Ac,Af] at this
 exact this
theorem vO{x k:Int}{l:List Int}:x∈ins k l↔x=k\/x∈l:=by
 unfold ins
 split
 ·rename_i h
  constructor
  ·exact .inr
  ·rintro (z | z)
   ·rw[z]; exact h
   ·exact z
 ·rw[An]
theorem Zw:isSubtype (.type "set") (.type "set")=pure true:=by rw[isSubtype_type]; kernel_rfl
section
variable{prog:Bp}{w:World}{A:Cw}{E:Value->Ak->Prop}{s:Ak}
theorem SetS.ty{a:Addr}{es:Array (Int×Value)}{ep:Nat}{t:Bc}(S:SetS w s.heap a es ep t):s.TypeIs (.ref a) "set" := ⟨_,S.obj,rfl⟩
theorem gR{h:Heap}:SetS w (h.push (Fn #[] 0 (.fresh 0 0 (!bt w)))) h.objs.size #[] 0 (.fresh 0 0 (!bt w)) :=
 ⟨Bi _ rfl,(λe a=>by simp at a),Dz,⟨⟨uQ,rfl,rfl,Dz,(λj b=>by simp [SetTable.fresh] at b),rfl⟩,by show 0 * 5<7 * 3; decide⟩,(λz=>by show (!bt w)=true; rw[z]; rfl),by decide⟩
end
end NdS
namespace NdS
open PySem PyProof.Rows
section
variable{prog:Bp}{w:World}{A:Cw}{R:Result->Ak->Prop}
theorem C3{U:List Int}(hU:U.length<=62){a it l:Addr}(v:a≠it)(Y:a≠l)(P:l≠it){c:Array Value}{ns:List Int}(K:Fg c.toList ns)(V:Xr U ns)(Q:A.in1.handled=none):∀(k i:Nat) (s:Ak) (es:Array (Int×Value)) (ep:Nat) (t:Bc),c.size - i=k->i<=c.size->s.heap.IsTupleIter it l i->s.heap.IsTuple l c->SetS w s.heap a es ep t->Xr U (Lo es)->(∀m C t' h' p,(∀b o,b≠a->b≠it->s.heap.get? b=some o->h'.get? b=some o)->SetS w h' a m C t'->(∀x,x∈Lo m↔x∈Lo es\/x∈ns.drop i)->R (.ok (.ret .none)) { s with heap:=h',toks:=p })->Na (model prog w) A (.builtin "set.update.loop" ⟨[.ref a,.ref it],[]⟩) R s:=by
 have len:ns.length=c.size:=by rw[<- K.length,Af]
 intro k
 induction k with
 | zero =>
  intro i s es ep t hk hi h u S E B
  have e:i=c.size:=by omega
  refine Ff Eg ?_
  rw[Er Cq _]
  show wpAny _ A.in1 (Nk (.ref it) >>= _) _ _ s
  refine Aa (M7 Q h u (by rw[e]; simp) λh' x=>?_)
  refine Ag (B es ep t h' s.toks (λb o _ q e=>x b o q e) (S.keep λo q=>x a o v q) λx=>?_)
  rw[e,<- len,fK]
  simp
 | succ k ih =>
  intro i s es ep t hk hi h u S E B
  have lt:i<c.size:=by omega
  have d:i<ns.length:=by omega
  obtain ⟨p,I⟩:=IntsAre.int_at K i c[i] (by simp [lt])
  have eg:ns.getD i 0=ns[i]:=by simp [List.getD,d]
  rw[eg] at I
  refine Ff Eg ?_
  rw[Er Cq _]
  show wpAny _ A.in1 (Nk (.ref it) >>= _) _ _ s
  refine Aa (M3 h u (x:=c[i]) (by simp [lt]) λL j g=>?_)
  rw[I]
  show wpAny _ A.in1 (Wi [Ld ns[i] p] (setAdd a (.int ns[i] p)) >>= _) _ _ _
  refine Aa (Dn ?_)
  unfold setAdd
  refine Dn (Aa ((Ci prog w).pyHash (k:=ns[i]) (fS _ _ _ _) ?_))
  have O:SetS w L a es ep t:=S.keep λo q=>(g.2 a v).trans q
  have z:=E.size O.nd
  refine B2 (s:={ s with heap:=L,toks:=s.toks+1 }) O (by omega) λb n F X h2 f T p2=>?_
  have J:∀x,x∈Lo n↔x=ns[i]\/x∈Lo es:=λx=>by rw[p2.mem_iff,vO]
  refine Ag ⟨Mr Cq _,?_⟩
  refine ih (i+1) { s with heap:=h2,toks:=s.toks+1 } n F X (by omega) lt ?_ ?_ T (λx hx=>?_) λy D Z h3 H W S3 m3=>?_
  ·obtain ⟨o,G,r⟩:=j
   exact ⟨o,(f.2 it (Kx v)).trans G,r⟩
  ·obtain ⟨o,G,r⟩:=u
   exact ⟨o,(f.2 l (Kx Y)).trans ((g.2 l P).trans G),r⟩
  ·rcases (J x).mp hx with q | q
   ·rw[q]; exact V _ (Fb d)
   ·exact E x q
  ·refine B y D Z h3 H (λb o M N e=>W b o M N ((f.2 b M).trans ((g.2 b N).trans e))) S3 λx=>?_
   rw[m3,J,Lm d,An]
   constructor
   ·rintro ((q | q) | q)
    ·exact .inr (.inl q)
    ·exact .inl q
    ·exact .inr (.inr q)
   ·rintro (q | q | q)
    ·exact .inl (.inr q)
    ·exact .inl (.inl q)
    ·exact .inr q
end
section
variable{prog:Bp}{w:World}{A:Cw}{E:Value->Ak->Prop}{s:Ak}
theorem cU(v:Value){Q:Value->Ak->Prop}(h:Q (.ref s.heap.objs.size) { s with heap:=s.heap.push (Fn #[] 0 (.fresh 0 0 (!bt w))) }):Na (model prog w) A (.call (.builtin "set.__new__") ⟨[.type "set",v],[]⟩) (wants Q E) s:=by
 have sub:=Zw
 obtain ⟨b,g,d,c,a⟩:=s
 refine Qr (show wpAny _ A.in1 (do checkBuiltinCall "set.__new__" ⟨[.type "set",v],[]⟩; again (.builtin "set.__new__" ⟨[.type "set",v],[]⟩)) _ _ _ from ?_)
 refine Aa (Iq (PySem.F.newCall_set_1 v) (Ag ⟨Mr PySem.F.plain_set_new _,Ff PySem.F.entry_set_new ?_⟩))
 rw[Er PySem.F.plain_set_new _]
 unfold Builtin.«set.__new__» Builtin.Frozenset.newClass
 dsimp only
 wp_walk
 refine Vh (Ag ?_)
 dsimp only
 simp only[newObj]
 exact Aa (wpAny_alloc (Ag (Ag h)))
theorem R8{U:List Int}(W:U.length<=62){l:Addr}{a:Array Value}{ns:List Int}{Q:Value->Ak->Prop}(O:A.handled=none)(hl:s.heap.IsTuple l a)(N:Fg a.toList ns)(P:Xr U ns)(h:∀es ep t h' f,(∀b o,s.heap.get? b=some o->h'.get? b=some o)->SetS w h' s.heap.objs.size es ep t->(∀x,x∈Lo es↔x∈ns)->Q (.ref s.heap.objs.size) { s with heap:=h',toks:=f }):wpAny (model prog w) A (call (.type "set") [.ref l]) Q E s:=by
 obtain ⟨c,tl,J⟩:=PySem.F.called_set.mro
 have i:=PySem.F.called_set.made
 have K:=PySem.F.called_set.sub
 have h1:=PySem.F.called_set.notType
 have h2:=PySem.F.called_set.canCreate
 have L:=PySem.F.typeCall_set_1 (.ref l)
 refine wpAny_call (Qr (show wpAny _ _ (callAny (.type "set") _) _ _ _ from ?_))
 refine Ag ⟨Zs _ (by decide +kernel),Ff PySem.F.entry_type_call ?_⟩
 rw[Yi (Yk "set" [.ref l] []) rfl]
 repeat (any_goals (first | assumption | wp_step))
 refine Jj (cU (.ref l) (E:=E) (Q:=λv G=>v=.ref s.heap.objs.size/\G={ s with heap:=s.heap.push (Fn #[] 0 (.fresh 0 0 (!bt w))) }) ⟨rfl,rfl⟩) λr G d=>?_
 rcases r with e | (_ | _ | _ | v)
 ·exact d
 ·exact d.elim
 ·exact d.elim
 ·exact d.elim
 obtain ⟨rfl,rfl⟩:=d
 have C:=gR (w:=w) (h:=s.heap)
 have X:Shared.TypeIs { s with heap:=s.heap.push (Fn #[] 0 (.fresh 0 0 (!bt w))) } (.ref s.heap.objs.size) "set" := ⟨_,C.obj,rfl⟩
 have T:=PySem.F.called_set.init.lookup
 have Z:=PySem.F.called_set.init.bind (.ref s.heap.objs.size)
 repeat (any_goals (first | assumption | wp_step))
 refine Jj (aQ (R:=wants (λr D=>r=.none/\∃es ep t h' f,D={ s with heap:=h',toks:=f }/\(∀b o,s.heap.get? b=some o->h'.get? b=some o)/\SetS w h' s.heap.objs.size es ep t/\∀x,x∈Lo es↔x∈ns) E)
  PySem.F.called_set.init.plain PySem.F.entry_set_init (mT X ?_)) λr D d=>?_
 ·obtain ⟨⟨S,od,y,M⟩,H,V,n,hd⟩:=id hl
  have z:S=.type "tuple" := V
  have u:y=.seq a n:=hd
  subst z u
  have g:=Aj (Fn #[] 0 (.fresh 0 0 (!bt w))) H
  have m:(s.heap.push (Fn #[] 0 (.fresh 0 0 (!bt w)))).IsTuple l a:=⟨_,g,rfl,n,rfl⟩
  have f1:=PySem.F.sub_tuple_set
  have f2:=PySem.F.sub_tuple_frozenset
  have f3:(Ed "tuple" == Ed "dict")=false:=by decide
  have lt:=Bm H
  unfold Builtin.«set.__init__» noKeywords Me
  generalize k:pyIter=PI
  wp_walk
  subst k
  refine wpAny_pyIter_tuple m (Aa (aM ?_))
  have sz:(s.heap.push (Fn #[] 0 (.fresh 0 0 (!bt w)))).objs.size=s.heap.objs.size+1:=We _ _
  have g1:((s.heap.push (Fn #[] 0 (.fresh 0 0 (!bt w)))).push { cls:=.type "tuple_iterator",data:=.fields #[.ref l,.int 0 0] }).get? (s.heap.push (Fn #[] 0 (.fresh 0 0 (!bt w)))).objs.size=some { cls:=.type "tuple_iterator",data:=.fields #[.ref l,.int 0 0] }:=Bi _ rfl
  refine C3 W (by rw[sz]; exact Ck (Oh _)) (bW lt) (by rw[sz]; exact Ck (Ho lt)) N P (by simp [O]) (a.size - 0) 0 _ #[] 0 (.fresh 0 0 (!bt w)) rfl (Ds _) ⟨_,g1,rfl,rfl⟩ ⟨_,Aj _ g,rfl,n,rfl⟩
   (C.keep λo q=>Aj _ q) (λx Y=>by simp at Y) λes ep t h' f j B p=>?_
  refine Ag (Ag ⟨rfl,es,ep,t,h',f,rfl,λb o e=>?_,B,λx=>?_⟩)
  ·have I:=Bm e
   exact j b o (Ck I) (by rw[sz]; exact Ck (Ho I)) (Aj _ (Aj _ e))
  ·rw[p,Lb]
   simp
 ·rcases r with e | (_ | _ | _ | v)
  ·exact d
  ·exact d.elim
  ·exact d.elim
  ·exact d.elim
  obtain ⟨rfl,es,ep,t,h',f,rfl,j,B,p⟩:=d
  repeat (any_goals (first | assumption | wp_step))
  exact h es ep t h' f j B p
end
theorem Lr:Slot "set_iterator" "__next__" "set_iterator.__next__" :=
 .of (owner := "set_iterator") (n := "__next__") (by rw[typeLookup_type,builtinLookup_eq_fast]; kernel_rfl) (by decide +kernel) (by decide +kernel) (by decide +kernel) (by first | exact .inl (by decide +kernel) | exact .inr (by decide +kernel)) (by rw[isSubtype_type]; kernel_rfl)
theorem Rr:entryFor table "set_iterator.__next__" = some Builtin.«set_iterator.__next__»:=entryFor_of_tree (by kernel_rfl)
theorem Ud(a:Value):argsOk "set_iterator.__next__" ⟨[a],[]⟩:=by unfold argsOk; kernel_rfl
theorem cH:entryFor table "set.__iter__" = some Builtin.«frozenset.__iter__» :=
 entryFor_alias (id' := "frozenset.__iter__") (by kernel_rfl) (by first | rfl | decide +kernel) (by decide +kernel) (by kernel_rfl)
abbrev aJ(f i:Nat)(a:Addr)(n ep:Nat):Obj:={ cls:=.type "set_iterator",data:=.fields #[Ic f,Ic i,.ref a,Ic n,Ic ep] }
def arrOf(w:World)(a:Addr)(ep:Nat)(es:Array (Int×Value)):Array (Int×Value):=if bt w then bF (w.params.setOrder a ep) es else es
theorem pM{w:World}{a:Addr}{ep:Nat}{es:Array (Int×Value)}:(arrOf w a ep es).toList.Perm es.toList:=xC
theorem Js{w:World}{a:Addr}{ep:Nat}{es:Array (Int×Value)}:(arrOf w a ep es).size=es.size:=by
 have:=(pM (w:=w) (a:=a) (ep:=ep) (es:=es)).length_eq
 rw[Af,Af] at this
 exact this
def Tf(w:World)(I a:Addr)(es:Array (Int×Value))(ep:Nat)(t:Bc)(i:Nat)(h:Heap):Prop :=
 (∃f,h.get? I=some (aJ f i a es.size ep)/\(bt w=false->Be t.place f=i))/\SetS w h a es ep t
section
variable{prog:Bp}{w:World}{A:Cw}{E:Value->Ak->Prop}{s:Ak}
theorem lV{a:Addr}{es:Array (Int×Value)}{ep:Nat}{t:Bc}{Q:Value->Ak->Prop}(S:SetS w s.heap a es ep t)(h:Q (.ref s.heap.objs.size) { s with heap:=s.heap.push (aJ 0 0 a es.size ep) }):wpAny (model prog w) A (pyIter (.ref a)) Q E s:=by
 refine Ti S.ty PySem.F.slot_set_iter (Es PySem.F.slot_set_iter S.ty cH ?_ (PySem.F.args_set_iter_1 _))
 unfold Builtin.«frozenset.__iter__»
 refine Aa (m:=Yh "__iter__" ⟨[.ref a],[]⟩) (Iq (a:=a) rfl ?_)
 unfold Wk Lv setDrawn setEpoch
 refine Aa (Aa (Aa (Hk S (Ag (Ag ?_)))))
 refine Aa (Aa (Hk S ?_))
 dsimp only
 refine Aa (Pa (Ag ?_))
 have p:=S.tab.plain
 have b:wpAny (model prog w) A.in1 (do
   let first <- (pure (Ic 0):Sem Value)
   ret (<- newFields "set_iterator" [first,Ic 0,.ref a,Ic es.size,Ic (<- (do return (<- setState a).2.1))])) (λg l=>∃v,g=.done (.ret v)/\∃k r,l.TypeIs v k/\typeLookup (.type k) "__next__" = pure (some r)/\Q v l) E s:=by
  refine Aa (Ag ?_)
  refine Aa (Aa (Hk S (Ag ?_)))
  refine Aa (Dy (Ag ⟨_,rfl, "set_iterator",_,⟨_,Bi _ rfl,rfl⟩,Lr.lookup,h⟩))
 obtain ⟨n,i,d,e,o,j,c⟩:=t
 have f:c=true:=p
 subst f
 cases q:bt w with
 | true=>exact b
 | false=>exact b
theorem Pf{a:Addr}{es:Array (Int×Value)}{ep f i:Nat}{t:Bc}{Q:Option (Value×Nat)->Ak->Prop}(S:SetS w s.heap a es ep t)(B:bt w=false->Be t.place f=i)(h1:∀(b:i<es.size) u,(bt w=false->Be t.place u=i+1)->Q (some (((arrOf w a ep es)[i]'(by rw[Js]; exact b)).2,u)) s)(y:es.size<=i->Q none s):wpAny (model prog w) A (bE a f i ep) Q E s:=by
 unfold bE
 refine Aa (Hk S ?_)
 dsimp only
 refine Aa (Pa ?_)
 cases k:bt w with
 | true =>
  rw[if_pos rfl,if_neg (by simp)]
  refine Aa (lN S (Ag ?_))
  show Q (((arrOf w a ep es)[i]?).map λe=>(e.2,f)) s
  by_cases b:i<es.size
  ·rw[Cj (by rw[Js]; exact b)]
   exact h1 b f (λz=>by rw[k] at z; cases z)
  ·rw[Jv (by rw[Js]; omega)]
   exact y (by omega)
 | false =>
  have C:=S.led k
  have D:=S.tab.plain
  have g:wpAny (model prog w) A (pure (match es[Be t.place f]?,t.place[Be t.place f]? with
    | some (_,x),some j=>some (x,j+1)
    | _,_=>none):Sem (Option (Value×Nat))) Q E s:=by
   rw[B k]
   by_cases b:i<es.size
   ·have h:i<t.place.size:=by rw[S.tab.size]; exact b
    rw[Cj b,Cj h]
    refine Ag ?_
    have:=h1 b (t.place[i]+1) (λ_=>eJ S.tab.rise h)
    have e:arrOf w a ep es=es:=by unfold arrOf; rw[k]; rfl
    simp only[e] at this
    exact this
   ·rw[Jv (by omega)]
    exact Ag (y (by omega))
  obtain ⟨v,p,d,l,q,r,c⟩:=t
  have n:q=true:=C
  have o:c=true:=D
  subst n o
  exact Aa (m:=(pure ():Sem Unit)) (Ag g)
theorem Zj{I a:Addr}{es:Array (Int×Value)}{ep:Nat}{t:Bc}{i:Nat}{Q:Option Value->Ak->Prop}(st:Tf w I a es ep t i s.heap)(j:a≠I)(g:i<es.size)(h:∀h',Tf w I a es ep t (i+1) h'->Fu I s.heap h'->Q (some ((arrOf w a ep es)[i]'(by rw[Js]; exact g)).2) { s with heap:=h' }):wpAny (model prog w) A (Nk (.ref I)) Q E s:=by
 obtain ⟨⟨f,b,k⟩,S⟩:=st
 have T:s.TypeIs (.ref I) "set_iterator" := ⟨_,b,rfl⟩
 unfold Nk
 refine Aa (Up (Gf (name:=Fv "__next__") T Lr (Es Lr T Rr ?_ (Ud _))))
 unfold Builtin.«set_iterator.__next__»
 refine Aa (m:=slotArgs "__next__" 0 ⟨[.ref I],[]⟩) (Iq (a:=(Aq I,[])) rfl ?_)
 dsimp only
 refine Aa (aN b rfl ?_)
 show wpAny (model prog w) A.in1 (do
  if (((<- Lv a).size:Nat):Int) != (es.size:Int) then
   rule "set_iterator.__next__.size-changed"
   Ji (.ref I) 3 (Ic (-1))
   raiseError "RuntimeError" "Set changed size during iteration"
  match <- bE a (f:Int).toNat (i:Int).toNat (ep:Int).toNat with
  | some (x,next) =>
   Ji (.ref I) 0 (Ic next)
   Ji (.ref I) 1 (Ic ((i:Int)+1))
   ret x
  | none=>Ji (.ref I) 2 .none; raiseNew (<- newExc (.type "StopIteration") [])) _ _ _
 unfold Lv
 refine Aa (Aa (Hk S (Ag ?_)))
 rw[if_neg (by simp)]
 simp only[Dl]
 refine Aa (Pf S k (λ_ c d=>?_) (λz=>absurd g (by omega)))
 dsimp only
 refine Aa (Of b rfl (by simp) ?_)
 have e:(s.heap.update I (Obj.mapFields (·.setIfInBounds 0 (Ic c)))).get? I=some (aJ c i a es.size ep):=Fs _ b rfl
 refine Aa (Of e rfl (by simp) (Ag ⟨_,rfl,Ag (h _ ⟨⟨c,?_,d⟩,?_⟩ ((Bs ..).trans (Bs ..)))⟩))
 ·exact Fs _ e rfl
 ·refine S.keep λo q=>?_
  exact ((Bs _ _ _).2 a j).trans (((Bs _ _ _).2 a j).trans q)
theorem cX{I a:Addr}{es:Array (Int×Value)}{ep:Nat}{t:Bc}{Q:Option Value->Ak->Prop}(d:A.handled=none)(st:Tf w I a es ep t es.size s.heap)(h:∀h',Heap.ExtBut I s.heap h'->Q none { s with heap:=h' }):wpAny (model prog w) A (Nk (.ref I)) Q E s:=by
 obtain ⟨⟨f,c,e⟩,S⟩:=st
 have T:s.TypeIs (.ref I) "set_iterator" := ⟨_,c,rfl⟩
 unfold Nk
 refine Aa (Up (Gf (name:=Fv "__next__") T Lr (Es Lr T Rr ?_ (Ud _))))
 unfold Builtin.«set_iterator.__next__»
 refine Aa (m:=slotArgs "__next__" 0 ⟨[.ref I],[]⟩) (Iq (a:=(Aq I,[])) rfl ?_)
 dsimp only
 refine Aa (aN c rfl ?_)
 show wpAny (model prog w) A.in1 (do
  if (((<- Lv a).size:Nat):Int) != (es.size:Int) then
   rule "set_iterator.__next__.size-changed"
   Ji (.ref I) 3 (Ic (-1))
   raiseError "RuntimeError" "Set changed size during iteration"
  match <- bE a (f:Int).toNat (es.size:Int).toNat (ep:Int).toNat with
  | some (x,next) =>
   Ji (.ref I) 0 (Ic next)
   Ji (.ref I) 1 (Ic ((es.size:Int)+1))
   ret x
  | none=>Ji (.ref I) 2 .none; raiseNew (<- newExc (.type "StopIteration") [])) _ _ _
 unfold Lv
 refine Aa (Aa (Hk S (Ag ?_)))
 rw[if_neg (by simp)]
 simp only[Dl]
 refine Aa (Pf S e (λz _ _=>absurd z (He _)) (λ_=>?_))
 dsimp only
 refine Aa (Of c rfl (by simp) (Aa ?_))
 simp only[newExc,newTuple]
 refine Aa (Dy ?_ (by size_fits))
 refine Aa (m:=aP _ _) (Iq (a:=Qf) (by first | rfl | (simp only[aP]; rfl)) (Dy ?_ (by size_fits)))
 simp only[raiseNew]
 refine Aa (wpAny_handled ?_)
 rw[show A.in1.handled=none from d]
 refine Aa (Ag (wpAny_throw ?_))
 refine Aa (mR (T := "StopIteration") (b:=true) ⟨_,Bi _ rfl,rfl⟩ isSubtype_stop ?_)
 exact Ag (h _ (((Bs ..).extBut.push _).push _))
end
theorem Uj:Slot "set_iterator" "__iter__" "set_iterator.__iter__" :=
 .of (owner := "set_iterator") (n := "__iter__") (by rw[typeLookup_type,builtinLookup_eq_fast]; kernel_rfl) (by decide +kernel) (by decide +kernel) (by decide +kernel) (by first | exact .inl (by decide +kernel) | exact .inr (by decide +kernel)) (by rw[isSubtype_type]; kernel_rfl)
theorem cP:entryFor table "set_iterator.__iter__" = some Builtin.«dict_keyiterator.__iter__» :=
 entryFor_alias (id' := "dict_keyiterator.__iter__") (by kernel_rfl) (by first | rfl | decide +kernel) (by decide +kernel) (by kernel_rfl)
theorem iJ(a:Value):argsOk "set_iterator.__iter__" ⟨[a],[]⟩:=by unfold argsOk; kernel_rfl
section
variable{prog:Bp}{w:World}{A:Cw}{E:Value->Ak->Prop}{s:Ak}
theorem Zg(r:A.handled=none){I a:Addr}(u:a≠I)(es:Array (Int×Value))(ep:Nat)(t:Bc):Walks prog w A I [I,a] [I] es.size (λi v=>∃e,(arrOf w a ep es)[i]? = some e/\v=e.2) (λi h=>Tf w I a es ep t i h) where
 sub:=λb c=>by simp at c; simp [c]
 frame:=λi h g ⟨⟨f,j,l⟩,S⟩ m=>⟨⟨f,m I (by simp) _ j,l⟩,S.keep λo q=>m a (by simp) o q⟩
 item:=λi s Q E n st d=>Zj st u n λg k p=>d _ g s.toks ⟨_,Cj (by rw[Js]; exact n),rfl⟩ k λb o c e=>(p.2 b (λz=>c (by simp [z]))).trans e
 done:=λs Q E st d=>cX r st λg x=>d g s.toks λb o c e=>x b o (λz=>c (by simp [z])) e
 self:=λi s Q E st d=>by
  obtain ⟨⟨f,j,l⟩,S⟩:=st
  have T:s.TypeIs (.ref I) "set_iterator" := ⟨_,j,rfl⟩
  refine Ti T Uj (Es Uj T cP ?_ (iJ _))
  exact Ag ⟨_,rfl, "set_iterator",_,T,Lr.lookup,d⟩
theorem pW{r:Addr}{Q:Bool->Ak->Prop}(c:s.TypeIs (.ref r) "set")(h:Q false s):wpAny (model prog w) A (Yq (.ref r)) Q E s:=by
 unfold Yq
 refine Aa (wpAny_specialOf c PySem.F.slot_set_len.lookup ?_)
 generalize a:("set.__len__" : String)=id0
 wp_delta
 rw[show splitId id0=some ("set", "__len__") from by subst a; decide +kernel]
 subst a
 refine Aa (mR (T := "set") (b:=true) c Zw ?_)
 refine wpAny_ite_split (λz=>absurd z (by decide)) (λ_=>wpAny_ite_split (λ_=>?_) (λz=>absurd (by decide +kernel) z))
 exact Aa (Mb c (Ag h))
theorem mL(a:Addr)(es:Array (Int×Value))(ep:Nat)(t:Bc):PySem.W.KdlSrc prog w "set" a a es.size (λi v=>∃e,(arrOf w a ep es)[i]? = some e/\v=e.2) (λh=>SetS w h a es ep t) where
 type:=λs S=>S.ty
 there:=λh S=>⟨Bm S.obj,Bm S.obj⟩
 keep:=λh c S k=>S.keep λo q=>k a (.inl rfl) o q
 notList:=by decide
 notTuple:=by decide
 hint:=λA E s Q S h=>pW S.ty h
 iter:=λA s b S=>by
  have lt:=Bm S.obj
  refine ⟨aJ 0 0 a es.size ep,λi h=>Tf w s.heap.objs.size a es ep t i h,λE Q h=>lV S h,?_,⟨⟨0,Bi _ rfl,λ_=>aE S.tab.rise⟩,S.keep λo q=>Aj _ q⟩⟩
  exact Zg b (Ck lt) es ep t
theorem gH{a:Array (Int×Value)}(d:∀e∈a.toList,eL e){b:Array Value}(h:ItemsOf (λi v=>∃e,a[i]? = some e/\v=e.2) b a.size):Fg b.toList (a.toList.map cG):=by
 have f:∀(l:List (Int×Value)) (vs:List Value),(∀e∈l,eL e)->vs.length=l.length->(∀(j:Nat) v,vs[j]? = some v->∃e,l[j]? = some e/\v=e.2)->Fg vs (l.map cG):=by
  intro l
  induction l with
  | nil =>
   intro vs _ c _
   cases vs with
   | nil=>exact .nil
   | cons v vs=>cases c
  | cons e l r =>
   intro vs d c o
   cases vs with
   | nil=>cases c
   | cons v vs =>
    obtain ⟨k,p,rfl⟩:=d e (Ab ..)
    obtain ⟨s,m,n⟩:=o 0 v rfl
    cases m
    subst n
    exact .cons k p (r vs (λe q=>d e (Ad _ q)) (by simpa using c) λj u g=>o (j+1) u (by simpa using g))
 refine f a.toList b.toList d (by rw[Af,Af]; exact h.1) λj v g=>?_
 obtain ⟨e,m,n⟩:=h.2 j v (by rw[<- Dx]; exact g)
 exact ⟨e,by rw[Dx]; exact m,n⟩
theorem rG{a:Addr}{es:Array (Int×Value)}{ep:Nat}{t:Bc}{Q:Value->Ak->Prop}(z:A.handled=none)(S:SetS w s.heap a es ep t)(h:∀(p:Addr) (out:Array Value) (ns:List Int) (n:Nat) (h1 h':Heap) (g:Nat),Fg out.toList ns->ns.Perm (Lo es)->ns.Pairwise (·<=·)->(∀b o,s.heap.get? b=some o->h1.get? b=some o)->h1.objs.size<=p->(∀b o,h1.get? b=some o->h'.get? b=some o)->h'.get? p=some (Iu "list" out n)->Q (.ref p) { s with heap:=h',toks:=g }):wpAny (model prog w) A (call (.builtin "sorted") [.ref a]) Q E s:=by
 refine mP kind_sorted plain_sorted entry_sorted (args_sorted1 _) ?_
 unfold Builtin.«sorted»
 refine Aa (m:=checkCount "sorted" 1 1 _) (Ag (Aa (PySem.W.kdu_collect (A:=A.in1) (mL a es ep t) z S (small S.few) λh1 g c C d=>?_)))
 have f:ItemsOf (λi v=>∃e,(arrOf w a ep es)[i]? = some e/\v=e.2) c (arrOf w a ep es).size:=by rw[Js]; exact d
 have y:=gH (λe F=>S.ent e (pM.mem_iff.mp F)) f
 have len:c.toList.length<64:=by rw[Af,d.1]; exact S.few
 refine Aa (wpAny_newList ?_ (Co (Lk len) (by rw[Hq]; decide)))
 have k:(h1.push (Iu "list" c.toList.toArray 0)).get? h1.objs.size=some (Iu "list" c.toList.toArray 0):=Bi _ rfl
 refine Aa (Dn (Es slot_list_sort ⟨_,k,rfl⟩ entry_list_sort (list_sort_tree (s:={ s with heap:=h1.push (Iu "list" c.toList.toArray 0),toks:=g }) k y len λout j q u r=>⟨_,rfl,?_⟩) (args_list_sort _)))
 refine Ag ⟨_,rfl,?_⟩
 have B:=Qq k (λ_=>#[])
 have x:=Aj (Iu "list" #[] 0) (Aj (Iu "tuple" c.toList.toArray 0) B)
 have D:=Qq x (λ_=>out)
 refine h h1.objs.size out j _ h1 _ g q (u.trans (pM.map cG)) r C (Ah _) (λb o e=>?_) D
 have l:b≠h1.objs.size:=Ck (Bm e)
 exact ((Bs _ _ _).2 b l).trans (Aj _ (Aj _ (((Bs _ _ _).2 b l).trans (Aj _ e))))
end
end NdS
namespace Nd
open PySem PySem.Spec PyProof.Rows L2 NdS
def J4(w:World)(a:Addr)(ks:List Int)(h:Heap):Prop:=∃b c t,SetS w h a b c t/\∀x,x∈Lo b↔x∈ks
abbrev jZ(w:World)(a:Addr)(ks:List Int):HO:=.ext (J4 w a ks)
theorem uJ{P:Bp}{w d:World}{H:Hp}{h:Heap}{a:Addr}{ks:List Int}(e:J4 w a ks h):Hx P d H h a (jZ w a ks) :=
 ⟨e,let ⟨_,_,_,S,_⟩:=e; ⟨_,S.obj⟩,λf g ⟨b,c,t,S,m⟩ k=>⟨b,c,t,S.keep λo q=>k o q,m⟩⟩
theorem zV{P:Bp}{w:World}{H:Hp}{h:Heap}{a:Addr}{ks:List Int}(ok:Xs P w H h)(e:H a=some (jZ w a ks)):J4 w a ks h :=
 (show Hx P w H h a (jZ w a ks) from ok a _ e).1
section
variable{X:Cx}
def IB(w:World)(K:PySem.W.Frag):List V->Hp->VK->Prop:=λc H Q=>∃(a:Addr) (b U:List Int),c=[.ref a]/\Vp K H a (b.map V.int)/\U.length<=62/\Xr U b/\∀p,H p=none->Q (.ref p) (upd H p (jZ w p b))
theorem zG(g:X.calm=true):Jh X (.type "set") (IB X.w X.K):=by
 intro c s C H B E Q I r h
 obtain ⟨a,D,U,rfl,i,j,x,q⟩:=h
 obtain ⟨u,rfl,v⟩:=vals1 r
 cases v
 obtain ⟨l,f,⟨o,e,b,n,p⟩,_⟩:=I.tuple i
 refine R8 j (I.ok.hd g) ⟨o,e,b,n,p⟩ (by simpa using intsAre_of f) x λd y t z A k S m=>?_
 exact ⟨.ref s.heap.objs.size,_,I.laid k (Ah _) (uJ ⟨d,y,t,S,m⟩),rfl,q _ (I.hok.fresh (Ah _))⟩
theorem Wu:∀{vs:List Value} {ns:List Int},Fg vs ns->Fz (ns.map V.int) vs
 | _,_,.nil=>.nil
 | _,_,.cons n t h=>.cons ⟨t,rfl⟩ (Wu h)
def tT(w:World):List V->Hp->VK->Prop:=λd H Q=>∃(a:Addr) (c:List Int),d=[.ref a]/\H a=some (jZ w a c)/\∀(p:Addr) (b:List Int),H p=none->b.Nodup->b.Pairwise (·<=·)->(∀x,x∈b↔x∈c)->Q (.ref p) (upd H p (.lst (b.map V.int)))
theorem kE(o:X.calm=true):Jh X (.builtin "sorted") (tT X.w):=by
 intro b s l H D L Q I r h
 obtain ⟨a,F,rfl,j,q⟩:=h
 obtain ⟨u,rfl,k⟩:=vals1 r
 cases k
 obtain ⟨G,J,t,S,m⟩:=zV I.hok j
 refine rG (I.ok.hd o) S λp out d n y E g z e v A c C B=>?_
 have f:Inv X b l H { s with heap:=y,toks:=g }:=I.kept A
 have i:d.Nodup:=e.nodup_iff.mpr S.nd
 have K:d.length<64:=by
  rw[e.length_eq,Ac,Af]
  exact S.few
 refine ⟨.ref p,upd H p (.lst (d.map V.int)),f.laid (t':=g) C c ⟨by rw[Ac,Hq]; omega,out.toList,n,Wu z,by simpa using B⟩,rfl,q p d (f.hok.fresh c) i v λx=>by rw[e.mem_iff,m]⟩
end
end Nd
namespace Nd
open PySem L2
def aG(d:Addr)(H a:Hp):Prop:=∀b o,b≠d->H b=some o->a b=some o
theorem aG.trans{d:Addr}{H e f:Hp}(a:aG d H e)(b:aG d e f):aG d H f:=λc o n h=>b c o n (a c o n h)
theorem aG.upd{d:Addr}{H:Hp}{o:HO}:aG d H (upd H d o):=λb o n h=>by rw[Fi n]; exact h
theorem pF{n:Nat}(h:n<=1000000):n<=Bf:=by rw[Hq]; omega
theorem lT(a b:Int)(h:0<b):0<=a % b/\a % b<b:=⟨Int.emod_nonneg _ (by omega),Int.emod_lt_of_pos _ h⟩
def Dh(h:Int)(ns:List Int):Prop:=ns.Pairwise (· < ·)/\∀x∈ns,0<=x/\x<h
theorem Dh.nil(h:Int):Dh h []:=⟨Dz,λx a=>by cases a⟩
theorem Dh.more{h:Int}{ns:List Int}(r:Dh h ns)(h0:0<=h):Dh (h+1) (ns++[h]) :=
 ⟨Et.mpr ⟨r.1,Fj _ _,λa c b e=>by rw[Al.mp e]; exact (r.2 a c).2⟩,λx d=>by
  rcases Ba.mp d with z | z
  ·have:=r.2 x z; omega
  ·have:=Al.mp z; omega⟩
theorem Dh.up{h h':Int}{ns:List Int}(r:Dh h ns)(l:h<=h'):Dh h' ns:=⟨r.1,λx a=>by have:=r.2 x a; omega⟩
def jQ(H:Hp)(d:Addr)(c k:Int)(f:Bool):Prop:=H d=some (.lst [.int c,.int k,.bl f])
def x9:Sp:=λvs H Q _=>∃(d:Addr) (c k:Int) (f:Bool),vs=[.ref d]/\jQ H d c k f/\0<=k/\k<=1000000/\∀(r b:Int) (a:Hp),jQ a d b (k+1) f->aG d H a->Q (.int r) a
def Bb(ns:List Int):Ae:=.tuple (ns.map Bq)
theorem sH(ns:List Int):(Bb ns).depth<=1:=by
 have : (Bb ns).depth<=Bu (ns.map Bq)+1:=by simp [Bb,Dq]
 rw[sG] at this
 exact this
def KB:List Int:=(Bg 60).map λi:Nat=>(i:Int)
theorem Xi{x:Int}(h0:0<=x)(h1:x<60):x∈KB:=Bl.mpr ⟨x.toNat,Cu.mpr (by omega),by omega⟩
theorem U8(TD:List Ae):Ep (.list TD) (.list [])=TD.isEmpty:=by cases TD <;> simp [Ep,Pu]
theorem jB:∀{l1 l2:List Int},l1.Pairwise (· < ·)->l2.Pairwise (· < ·)->(∀x,x∈l1↔x∈l2)->l1=l2
 | [],[],_,_,_=>rfl
 | [],b::l,_,_,h=>by have:=(h b).mpr Ab; cases this
 | a::l,[],_,_,h=>by have:=(h a).mp Ab; cases this
 | a::l1,b::l2,p1,p2,h=>by
  obtain ⟨d,i⟩:=Ax.mp p1
  obtain ⟨f,g⟩:=Ax.mp p2
  have e:a=b:=by
   rcases An.mp ((h a).mp Ab) with z | z
   ·exact z
   ·rcases An.mp ((h b).mpr Ab) with y | y
    ·exact y.symm
    ·have:=d b y; have:=f a z; omega
  subst e
  rw[jB i g λx=>⟨λc=>?_,λc=>?_⟩]
  ·rcases An.mp ((h x).mp (Ad _ c)) with z | z
   ·have:=d x c; omega
   ·exact z
  ·rcases An.mp ((h x).mpr (Ad _ c)) with z | z
   ·have:=f x c; omega
   ·exact z
def j4(b:Bool):Str:=if b=true then "back" else "front"
def order{c:Type}(a b:c)(l:List c):Option Bool->List c
 | none=>l
 | some true=>[a,b]
 | some false=>[b,a]
structure TD(K:PySem.W.Frag)(H:Hp)(x:V)(d:Ae)(n m:Nat):Prop where
 rd:RdV K H x d
 fits:GR 22 d
 nd:AE d<=n
 dp:d.depth<=m
abbrev AM(K:PySem.W.Frag):List V->Hp->VK->Prop:=λb H Q=>∃p a,b=[V.ref p]/\(Ux K H p a\/Vp K H p a)/\∀l,H l=none->Q (.ref l) (upd H l (.lst a))
theorem Wq{X:Cx}:Jh X (.type "list") (AM X.K):=mK
abbrev Y8(K:PySem.W.Frag):List V->Hp->VK->Prop:=λb H Q=>∃p a,b=[V.ref p]/\((Ux K H p a/\∀l,H l=none->Q (.ref l) (upd H l (.tup a)))\/(Vp K H p a/\Q (.ref p) H))
theorem Qw{X:Cx}:Jh X (.type "tuple") (Y8 X.K):=fX
end Nd
namespace DL
open PySem L2 Nd
def KL(K:PySem.W.Frag)(H:Hp)(a:Addr)(xs:List V):Prop :=
 (∃o,H a=some (.frz o (.lst xs)))\/∃(b:Array Value) (n:Nat),K.lookup a=some { cls:=.type "list",data:=.seq b n }/\b.size<=Bf/\Fz xs b.toList
def eR:Nat->Ae
 | 0=>.none
 | n+1=>.tuple [eR n]
def aD(ks:List (List Int×Ae)):List (Ae×Ae):=(eR 100,.none)::ks.map λp=>(Bb p.1,p.2)
def LU(ks:List (Int×Ae)):List (Ae×Ae):=(eR 100,.bool true)::ks.map λp=>(.int p.1,p.2)
def V4:List (Ae×Ae)->Bool
 | (_,.none)::_=>true
 | _=>false
def CQ(a:Addr)(ks:List (List Int×Ae)):List (Ae×Ae):=(eR 100,.int a)::ks.map λp=>(Bb p.1,p.2)
def On(w:List Int):List Lx:=w.map Ut
mutual
inductive RdF (K:PySem.W.Frag) (H:Hp):V->Ae->List Addr->Prop
 | non:RdF K H .non .none []
 | bl (b:Bool):RdF K H (.bl b) (.bool b) []
 | int (i:Int):RdF K H (.int i) (.int i) []
 | str (x:Str):RdF K H (.str x) (.str x) []
 | lst {a:Addr} {xs:List V} {ds:List Ae} {F:List Addr}:H a=some (.lst xs)->ds.length<=Bf->RdFs K H xs ds F->RdF K H (.ref a) (.list ds) (a::F)
 | tup {a:Addr} {xs:List V} {ds:List Ae} {F:List Addr}:H a=some (.tup xs)->ds.length<=Bf->RdFs K H xs ds F->RdF K H (.ref a) (.tuple ds) F
 | dic {a:Addr} {kv:List (List Lx×V)} {ks:List (List Int×Ae)}:H a=some (.dT kv)->kv.map (·.1)=ks.map (λp=>On p.1)->RdFs K H (kv.map (·.2)) (ks.map (·.2)) []->RdF K H (.ref a) (.dict (aD ks)) [a]
 | dik {a:Addr} {kv:List (Lx×V)} {ks:List (Int×Ae)}:H a=some (.dK kv)->kv.map (·.1)=ks.map (λp=>(Ut p.1:Lx))->RdFs K H (kv.map (·.2)) (ks.map (·.2)) []->RdF K H (.ref a) (.dict (LU ks)) [a]
 | dnm {a:Addr} {kv:List (List Lx×V)} {ks:List (List Int×Ae)}:H a=some (.dT kv)->kv.map (·.1)=ks.map (λp=>On p.1)->RdFs K H (kv.map (·.2)) (ks.map (·.2)) []->RdF K H (.ref a) (.dict (CQ a ks)) [a]
inductive RdFs (K:PySem.W.Frag) (H:Hp):List V->List Ae->List Addr->Prop
 | nil:RdFs K H [] [] []
 | cons {x:V} {d:Ae} {xs:List V} {ds:List Ae} {F G:List Addr}:RdF K H x d F->RdFs K H xs ds G->RdFs K H (x::xs) (d::ds) (F++G)
end
def MT(o:HO):Prop:=(∃a,o=.tup a)\/∃b u,o=.frz b u
def Kp(F:List Addr)(H a:Hp):Prop:=∀b o,H b=some o->(b∈F\/MT o)->a b=some o
theorem Kp.of{F:List Addr}{H a:Hp}(s:gO H a):Kp F H a:=λb o e _=>s b o e
theorem Kp.sub{F G:List Addr}{H c:Hp}(k:Kp F H c)(h:∀a∈G,a∈F):Kp G H c:=λb o e z=>k b o e (z.imp (h b) id)
section
variable{K:PySem.W.Frag}{H c:Hp}
theorem KL.kp{a:Addr}{xs:List V}{F:List Addr}(h:KL K H a xs)(k:Kp F H c):KL K c a xs:=by
 rcases h with ⟨o,h⟩ | h
 ·exact .inl ⟨o,k _ _ h (.inr (.inr ⟨_,_,rfl⟩))⟩
 ·exact .inr h
theorem KL.sq{a:Addr}{xs:List V}(h:KL K H a xs):Ux K H a xs:=by
 rcases h with ⟨o,h⟩ | ⟨b,n,h,c,r⟩
 ·exact .inl (.inr ⟨o,h⟩)
 ·exact .inr ⟨_,b,n,h,rfl,rfl,rfl,c,r⟩
mutual
theorem RdF.kp:∀{v:V} {d:Ae} {F:List Addr},RdF K H v d F->Kp F H c->RdF K c v d F
 | _,_,_,.non,_=>.non
 | _,_,_,.bl b,_=>.bl b
 | _,_,_,.int i,_=>.int i
 | _,_,_,.str x,_=>.str x
 | _,_,_,.lst h l hs,k=>.lst (k _ _ h (.inl Ab)) l (RdFs.kp hs (k.sub λ_ z=>Ad _ z))
 | _,_,_,.tup h l hs,k=>.tup (k _ _ h (.inr (.inl ⟨_,rfl⟩))) l (RdFs.kp hs k)
 | _,_,_,.dic h e hs,k=>.dic (k _ _ h (.inl Ab)) e (RdFs.kp hs (k.sub λ_ z=>nomatch z))
 | _,_,_,.dik h e hs,k=>.dik (k _ _ h (.inl Ab)) e (RdFs.kp hs (k.sub λ_ z=>nomatch z))
 | _,_,_,.dnm h e hs,k=>.dnm (k _ _ h (.inl Ab)) e (RdFs.kp hs (k.sub λ_ z=>nomatch z))
theorem RdFs.kp:∀{v:List V} {d:List Ae} {F:List Addr},RdFs K H v d F->Kp F H c->RdFs K c v d F
 | _,_,_,.nil,_=>.nil
 | _,_,_,.cons h hs,k=>.cons (RdF.kp h (k.sub λ_ z=>Ap _ z)) (RdFs.kp hs (k.sub λ_ z=>Av _ z))
end
theorem Qc:∀n,(eR n).depth=n
 | 0=>by simp [eR,Dq]
 | n+1=>by
  have:=Qc n
  simp only[eR,Dq,Bu,this]
  omega
theorem zO{ks:List (Int×Ae)}:100<=(PyData.dict (LU ks)).depth:=by
 have:=Qc 100
 simp only[LU,Dq,PyData.depthKv,this]
 omega
theorem E6{a:Addr}{ks:List (List Int×Ae)}:100<=(PyData.dict (CQ a ks)).depth:=by
 have:=Qc 100
 simp only[CQ,Dq,PyData.depthKv,this]
 omega
theorem B6{ks:List (List Int×Ae)}:100<=(PyData.dict (aD ks)).depth:=by
 have:=Qc 100
 simp only[aD,Dq,PyData.depthKv,this]
 omega
mutual
theorem RdF.rd:∀{v:V} {d:Ae} {F:List Addr},RdF K H v d F->d.depth<=90->RdV K H v d
 | _,_,_,.non,_=>.non
 | _,_,_,.bl b,_=>.bl b
 | _,_,_,.int i,_=>.int i
 | _,_,_,.str x,_=>.str x
 | _,_,_,.lst h l hs,z=>.lst (Ux.of h) (RdFs.rd hs (by simp only[Dq] at z; omega))
 | _,_,_,.tup h l hs,z=>.tup (Vp.of h) (RdFs.rd hs (by simp only[Dq] at z; omega))
 | _,_,_,.dic h e hs,z=>absurd (Co B6 z) (by decide)
 | _,_,_,.dik h e hs,z=>absurd (Co zO z) (by decide)
 | _,_,_,.dnm h e hs,z=>absurd (Co E6 z) (by decide)
theorem RdFs.rd:∀{v:List V} {d:List Ae} {F:List Addr},RdFs K H v d F->Bu d<=90->RdVs K H v d
 | _,_,_,.nil,_=>.nil
 | _,_,_,.cons h hs,z=>.cons (RdF.rd h (by simp only[Bu] at z; omega)) (RdFs.rd hs (by simp only[Bu] at z; omega))
end
mutual
theorem RdF.dom:∀{v:V} {d:Ae} {F:List Addr},RdF K H v d F->∀a∈F,∃o,H a=some o
 | _,_,_,.non,_,z=>nomatch z
 | _,_,_,.bl b,_,z=>nomatch z
 | _,_,_,.int i,_,z=>nomatch z
 | _,_,_,.str x,_,z=>nomatch z
 | _,_,_,.lst h l hs,b,z=>by
  rcases An.mp z with rfl | z
  ·exact ⟨_,h⟩
  ·exact RdFs.dom hs b z
 | _,_,_,.tup h l hs,b,z=>RdFs.dom hs b z
 | _,_,_,.dic h e hs,b,z=>⟨_,Al.mp z▸h⟩
 | _,_,_,.dik h e hs,b,z=>⟨_,Al.mp z▸h⟩
 | _,_,_,.dnm h e hs,b,z=>⟨_,Al.mp z▸h⟩
theorem RdFs.dom:∀{v:List V} {d:List Ae} {F:List Addr},RdFs K H v d F->∀a∈F,∃o,H a=some o
 | _,_,_,.nil,_,z=>nomatch z
 | _,_,_,.cons h hs,b,z=>by
  rcases Ba.mp z with z | z
  ·exact RdF.dom h b z
  ·exact RdFs.dom hs b z
end
theorem RdFs.len:∀{v:List V} {d:List Ae} {F:List Addr},RdFs K H v d F->v.length=d.length
 | _,_,_,.nil=>rfl
 | _,_,_,.cons _ t=>by rw[Bd,Bd,RdFs.len t]
theorem RdFs.get:∀{v:List V} {d:List Ae} {F:List Addr} {i:Nat} {e:Ae},RdFs K H v d F->d[i]? = some e->∃x G,v[i]? = some x/\RdF K H x e G/\G.Sublist F
 | _,_,_,_,_,.nil,z=>by simp at z
 | _,_,_,0,_,.cons h _,z=>by
  simp at z
  subst z
  exact ⟨_,_,rfl,h,List.sublist_append_left _ _⟩
 | _,_,_,i+1,e,.cons _ t,z=>by
  obtain ⟨x,G,a,c,b⟩:=RdFs.get (i:=i) (e:=e) t (by simpa using z)
  exact ⟨x,G,by simpa using a,c,b.trans (Di _ _)⟩
theorem RdFs.app:∀{v w:List V} {d e:List Ae} {F G:List Addr},RdFs K H v d F->RdFs K H w e G->RdFs K H (v++w) (d++e) (F++G)
 | _,_,_,_,_,_,.nil,h=>h
 | _,_,_,_,_,_,.cons a t,h=>by
  rw[Cr]
  exact .cons a (RdFs.app t h)
theorem RdFs.snoc{v:List V}{d:List Ae}{F G:List Addr}{x:V}{e:Ae}(t:RdFs K H v d F)(h:RdF K H x e G):RdFs K H (v++[x]) (d++[e]) (F++G):=by
 have:=t.app (.cons h .nil)
 rw[Fl] at this
 exact this
end
mutual
def imm:Ae->Bool
 | .list _=>false
 | .dict _=>false
 | .tuple a=>Dt a
 | _=>true
def Dt:List Ae->Bool
 | []=>true
 | x::xs=>imm x && Dt xs
end
theorem qT:∀{xs:List Ae},Dt xs=true↔∀x∈xs,imm x=true
 | []=>by simp [Dt]
 | x::xs=>by simp [Dt,qT (xs:=xs)]
theorem Vn{b:Type}{f:b->Ae}(h:∀a,imm (f a)=true)(l:List b):Dt (l.map f)=true:=qT.mpr λx c=>by
 obtain ⟨a,_,rfl⟩:=Bl.mp c
 exact h a
theorem A4(ns:List Int):imm (Bb ns)=true:=by
 unfold Bb
 rw[imm]
 exact Vn (λ_=>by simp [imm]) ns
section
variable{K:PySem.W.Frag}{H a:Hp}
mutual
theorem RdF.imm:∀{v:V} {d:Ae} {F:List Addr},RdF K H v d F->DL.imm d=true->F=[]
 | _,_,_,.non,_=>rfl
 | _,_,_,.bl b,_=>rfl
 | _,_,_,.int i,_=>rfl
 | _,_,_,.str x,_=>rfl
 | _,_,_,.lst h l hs,k=>by simp [DL.imm] at k
 | _,_,_,.tup h l hs,k=>RdFs.imm hs (by simpa [DL.imm] using k)
 | _,_,_,.dic h e hs,k=>by simp [DL.imm] at k
 | _,_,_,.dik h e hs,k=>by simp [DL.imm] at k
 | _,_,_,.dnm h e hs,k=>by simp [DL.imm] at k
theorem RdFs.imm:∀{v:List V} {d:List Ae} {F:List Addr},RdFs K H v d F->Dt d=true->F=[]
 | _,_,_,.nil,_=>rfl
 | _,_,_,.cons h hs,k=>by
  rw[Dt,Fo] at k
  rw[RdF.imm h k.1,RdFs.imm hs k.2]
  rfl
end
end
inductive Md where
 | pk | sh | tp | ow
 deriving DecidableEq
inductive DV where
 | un
 | dat (m:Md) (d:Ae)
 | drw
 | dT (kvs:List (List Lx×Ae))
 | val (v:V)
 | scr (ns:List Int)
 | acc (ds:List Ae)
 | grd (Hc:Hp)
 | tpl (xs:List V)
structure DS where
 sl:List DV
 n:Nat
structure Ent where
 v:Option V
 x:DV
 F:List Addr
def Ph:DV->Bool
 | .dat .pk _=>true
 | _=>false
def GL:DV->Bool
 | .drw=>true
 | _=>false
def CH:DV->Bool
 | .drw=>true
 | .acc _=>true
 | .dT _=>true
 | .grd _=>true
 | _=>false
def cells(e:Ent):List Addr:=match e.x with
 | .dat .ow _=>e.F
 | .dat .tp _=>e.F.take 1
 | .drw=>e.F
 | .dT _=>e.F
 | .acc _=>e.F.take 1
 | .grd _=>e.F
 | _=>[]
theorem Ht(e:Ent):∀a∈cells e,a∈e.F:=by
 obtain ⟨v,x,F⟩:=e
 intro a h
 cases x with
 | un=>exact nomatch h
 | val _=>exact nomatch h
 | scr _=>exact nomatch h
 | drw=>exact h
 | dT _=>exact h
 | grd _=>exact h
 | tpl _=>exact nomatch h
 | acc _=>exact (Ks _ _).subset h
 | dat m d =>
  cases m with
  | pk=>exact nomatch h
  | sh=>exact nomatch h
  | tp=>exact (Ks _ _).subset h
  | ow=>exact h
def Wn(e f:Ent):Prop:=((Ph f.x=false\/CH e.x=true)->∀a∈cells e,a∉f.F)/\((Ph e.x=false\/CH f.x=true)->∀a∈cells f,a∉e.F)
theorem Wn.symm{e f:Ent}(h:Wn e f):Wn f e:=⟨h.2,h.1⟩
def Jg(K:PySem.W.Frag)(H:Hp)(n:Nat)(e:Ent):Prop:=match e.x with
 | .un=>e.F=[]
 | .dat m d=>∃v,e.v=some v/\RdF K H v d e.F/\(m=.ow->e.F.Nodup)/\(m=.tp->∀a l,e.F=a::l->a∉l)
 | .drw=>∃i c k f,e.v=some (.ref i)/\e.F=[i]/\jQ H i c k f/\0<=k/\k<=(n:Int)
 | .dT b=>∃a h,e.v=some (.ref a)/\e.F=[a]/\H a=some (.dT h)/\h.map (·.1)=b.map (·.1)/\RdFs K H (h.map (·.2)) (b.map (·.2)) []
 | .val v=>e.v=some v/\e.F=[]
 | .scr p=>∃a,e.v=some (.ref a)/\e.F=[]/\KL K H a (p.map V.int)/\p.length<=63
 | .acc j=>∃a g G,e.v=some (.ref a)/\e.F=a::G/\H a=some (.lst g)/\RdFs K H g j G/\j.length<=Bf/\a∉G
 | .grd q=>∀a∈e.F,∃o,q a=some o/\H a=some o
 | .tpl g=>∃t,e.v=some (.ref t)/\H t=some (.tup g)/\e.F=[]
structure At(K:PySem.W.Frag)(H0:Hp)(X:Addr->Prop)(n:Nat)(E:List Ent)(H:Hp):Prop where
 ok:∀e∈E,Jg K H n e
 sep:E.Pairwise Wn
 new:∀e∈E,∀a∈cells e,H0 a=none\/(X a/\GL e.x=true)
 same:∀b o,¬ X b->H0 b=some o->H b=some o
 dom:∀b o,H0 b=some o->∃o',H b=some o'
 xd:∀b,X b->H0 b≠none/\∃c k f,jQ H b c k f/\0<=k/\k<=(n:Int)
section
variable{K:PySem.W.Frag}{i H j:Hp}{X:Addr->Prop}{n n':Nat}{E y S T:List Ent}{e f:Ent}
theorem At.perm(h:At K i X n E H)(p:E.Perm y):At K i X n y H :=
 ⟨λe c=>h.ok e (p.mem_iff.mpr c),(p.pairwise_iff λ{a b}=>Wn.symm).mp h.sep,λe c=>h.new e (p.mem_iff.mpr c),h.same,h.dom,h.xd⟩
theorem At.sub(h:At K i X n E H)(p:y.Sublist E):At K i X n y H :=
 ⟨λe a=>h.ok e (p.subset a),h.sep.sublist p,λe a=>h.new e (p.subset a),h.same,h.dom,h.xd⟩
theorem At.drop(h:At K i X n (S++e::T) H):At K i X n (S++T) H:=h.sub ((Eb S).append (Dr _ _))
theorem G3:(S++e::T).Perm (e::(S++T)):=Gz
theorem At.mid(h:At K i X n (S++e::T) H):At K i X n (e::(S++T)) H:=h.perm G3
theorem At.tomid(h:At K i X n (e::(S++T)) H):At K i X n (S++e::T) H:=h.perm G3.symm
theorem Jg.dom(h:Jg K H n e):∀a∈e.F,∃o,H a=some o:=by
 obtain ⟨v,x,F⟩:=e
 intro a ha
 cases x with
 | un=>rw[show F=[] from h] at ha; cases ha
 | val _=>rw[show F=[] from h.2] at ha; cases ha
 | scr _ =>
  obtain ⟨_,_,g,_⟩:=h
  rw[show F=[] from g] at ha; cases ha
 | dat m d =>
  obtain ⟨w,_,h,_⟩:=h
  obtain ⟨i,z⟩:=h.dom a ha
  exact ⟨_,z⟩
 | drw =>
  obtain ⟨l,c,k,f,_,g,h,_⟩:=h
  rw[show F=[l] from g] at ha
  rw[Al.mp ha]
  exact ⟨_,h⟩
 | grd s =>
  obtain ⟨o,_,z⟩:=h a ha
  exact ⟨o,z⟩
 | tpl i =>
  obtain ⟨_,_,_,g⟩:=h
  rw[show F=[] from g] at ha; cases ha
 | dT p =>
  obtain ⟨b,j,_,g,h,_⟩:=h
  rw[show F=[b] from g] at ha
  rw[Al.mp ha]
  exact ⟨_,h⟩
 | acc r =>
  obtain ⟨b,j,G,_,g,h,q,_⟩:=h
  rw[show F=b::G from g] at ha
  rcases An.mp ha with rfl | ha
  ·exact ⟨_,h⟩
  ·obtain ⟨i,z⟩:=q.dom a ha
   exact ⟨_,z⟩
theorem Jg.kp(h:Jg K H n e)(k:Kp e.F H j)(E:n<=n'):Jg K j n' e:=by
 obtain ⟨v,x,F⟩:=e
 cases x with
 | un=>exact h
 | val _=>exact h
 | scr _ =>
  obtain ⟨a,g,i,p,q⟩:=h
  exact ⟨a,g,i,p.kp k,q⟩
 | dat m d =>
  obtain ⟨w,g,i,p⟩:=h
  exact ⟨w,g,i.kp k,p⟩
 | drw =>
  obtain ⟨y,c,A,f,g,r,i,p,q⟩:=h
  have l:F=[y]:=r
  subst l
  exact ⟨y,c,A,f,g,rfl,k _ _ i (.inl Ab),p,by omega⟩
 | tpl C =>
  obtain ⟨t,g,i,p⟩:=h
  exact ⟨t,g,k _ _ i (.inr (.inl ⟨_,rfl⟩)),p⟩
 | grd I =>
  intro a u
  obtain ⟨o,g,i⟩:=h a u
  exact ⟨o,g,k _ _ i (.inl u)⟩
 | dT B =>
  obtain ⟨b,s,g,r,i,p,q⟩:=h
  have l:F=[b]:=r
  subst l
  exact ⟨b,s,g,rfl,k _ _ i (.inl Ab),p,q.kp (k.sub λ_ z=>nomatch z)⟩
 | acc D =>
  obtain ⟨b,s,G,g,r,i,p,q⟩:=h
  have l:F=b::G:=r
  subst l
  exact ⟨b,s,G,g,rfl,k _ _ i (.inl Ab),p.kp (k.sub λ_ z=>Ad _ z),q⟩
theorem At.grow(h:At K i X n E H)(s:gO H j)(d:n<=n'):At K i X n' E j :=
 ⟨λe g=>(h.ok e g).kp (Kp.of s) d,h.sep,h.new,λb o l e=>s _ _ (h.same b o l e),λb o e=>let ⟨o',q⟩:=h.dom b o e; ⟨o',s _ _ q⟩,λb a=>let ⟨z,c,k,f,h1,h2,h3⟩:=h.xd b a; ⟨z,c,k,f,s _ _ h1,h2,by omega⟩⟩
theorem At.free(h:At K i X n E H){a:Addr}(b:H a=none):∀e∈E,a∉e.F:=λe c z=>by
 obtain ⟨o,q⟩:=(h.ok e c).dom a z
 rw[b] at q; cases q
theorem At.push(h:At K i X n E H)(ok:Jg K H n e)(b:∀f∈E,Wn e f)(c:∀a∈cells e,i a=none\/(X a/\GL e.x=true)):At K i X n (e::E) H :=
 ⟨λg hg=>by
  rcases An.mp hg with rfl | hg
  ·exact ok
  ·exact h.ok g hg,Ax.mpr ⟨b,h.sep⟩,λg hg=>by
  rcases An.mp hg with rfl | hg
  ·exact c
  ·exact h.new g hg,h.same,h.dom,h.xd⟩
theorem At.new0(h:At K i X n E H){p:Addr}(a:H p=none):i p=none:=by
 cases q:i p with
 | none=>rfl
 | some o =>
  obtain ⟨b,z⟩:=h.dom p o q
  rw[a] at z; cases z
theorem U7{v:Option V}{m:Md}{d:Ae}:Wn ⟨v,.dat m d,[]⟩ f:=by
 refine ⟨λ_ a b=>?_,λ_ a _=>Ce⟩
 have:=Ht _ a b
 cases this
theorem At.pushI(h:At K i X n (S++T) H){v:V}{m:Md}{d:Ae}(r:RdF K H v d []):At K i X n (S++⟨some v,.dat m d,[]⟩::T) H :=
 (h.push (e:=⟨some v,.dat m d,[]⟩) ⟨v,rfl,r,λ_=>Do,λ_ a l z=>nomatch z⟩ (λf _=>U7) (λa b=>nomatch Ht _ a b)).tomid
def wk:Md->Md->Bool
 | _,.pk=>true
 | .pk,_=>false
 | _,.sh=>true
 | .sh,_=>false
 | _,.tp=>true
 | .tp,.ow=>false
 | .ow,.ow=>true
theorem oK{v:Option V}{m c:Md}{d:Ae}{F:List Addr}(w:wk m c=true):∀a∈cells ⟨v,.dat c d,F⟩,a∈cells ⟨v,.dat m d,F⟩:=by
 intro a b
 cases m <;> cases c <;> first | exact absurd w (by decide) | exact b | exact absurd b Ce | exact (Ks 1 F).subset b
theorem xW{b:Type}{F:List b}(h:F.Nodup):∀a l,F=a::l->a∉l:=λa l e=>by
 subst e
 exact (Cg.mp h).1
theorem Jg.wk{v:Option V}{m a:Md}{d:Ae}{F:List Addr}(w:wk m a=true)(h:Jg K H n ⟨v,.dat m d,F⟩):Jg K H n ⟨v,.dat a d,F⟩:=by
 obtain ⟨u,c,g,b,f⟩:=h
 refine ⟨u,c,g,λe=>?_,λe=>?_⟩
 ·subst e
  cases m <;> first | exact absurd w (by decide) | exact b rfl
 ·subst e
  cases m <;> first | exact absurd w (by decide) | exact f rfl | exact xW (b rfl)
theorem Wn.wk{v:Option V}{m c:Md}{d:Ae}{F:List Addr}(w:wk m c=true)(h:Wn ⟨v,.dat m d,F⟩ f):Wn ⟨v,.dat c d,F⟩ f:=by
 refine ⟨λhp a b=>?_,λhp a b=>?_⟩
 ·rcases hp with hp | hp
  ·exact h.1 (.inl hp) a (oK w a b)
  ·cases hp
 ·rcases hp with hp | hp
  ·refine h.2 (.inl ?_) a b
   cases m <;> cases c <;> first | rfl | exact absurd w (by decide) | exact absurd hp (by show ¬ (true=false); decide)
  ·exact h.2 (.inr hp) a b
theorem At.wk{v:Option V}{m b:Md}{d:Ae}{F:List Addr}(w:wk m b=true)(h:At K i X n (⟨v,.dat m d,F⟩::E) H):At K i X n (⟨v,.dat b d,F⟩::E) H:=by
 have e:=Ax.mp h.sep
 refine (h.sub (Dr _ _)).push ((h.ok _ Ab).wk w) (λf g=>(e.1 f g).wk w) λa c=>?_
 rcases h.new _ Ab a (oK w a c) with z | z
 ·exact .inl z
 ·cases z.2
end
abbrev DE:=DS->(DV->DS->Prop)->Prop
abbrev DT:=DS->(Bool->DS->Prop)->Prop
abbrev DA:=DS->(List DV->DS->Prop)->Prop
structure DEnds where
 nx:DS->Prop
 rt:DV->DS->Prop
 bk:DS->Prop:=λ_=>False
 ct:DS->Prop:=λ_=>False
abbrev DB:=DEnds->DS->Prop
abbrev DG:=DV->DS->(DS->Prop)->Prop
abbrev yX:=List DV->DS->(DS->Prop)->Prop
def vs(S:List Ent):L2.St:=S.map Ent.v
def Sl(S:List Ent)(a:DS):Prop:=S.map Ent.x=a.sl
section
variable(K:PySem.W.Frag)
def LE(g:DE):TE:=λf H Q=>∃(e:Hp) (X:Addr->Prop) (S T:List Ent) (b:DS) (P:DV->DS->Prop),vs S=f/\Sl S b/\At K e X b.n (S++T) H/\g b P /\
 ∀x a v F c d,vs c=f->Sl c a->At K e X a.n (c++⟨some v,x,F⟩::T) d->P x a->Q v d
def LT(dt:DT):TT:=λg H Q=>∃(f:Hp) (X:Addr->Prop) (S T:List Ent) (c:DS) (P:Bool->DS->Prop),vs S=g/\Sl S c/\At K f X c.n (S++T) H/\dt c P /\
 ∀b a d e,vs d=g->Sl d a->At K f X a.n (d++T) e->P b a->Q b e
def LA(j:DA):TA:=λh H Q=>∃(g:Hp) (X:Addr->Prop) (S T:List Ent) (b:DS) (P:List DV->DS->Prop),vs S=h/\Sl S b/\At K g X b.n (S++T) H/\j b P /\
 ∀e a c i d f,vs d=h->Sl d a->c.map Ent.x=e->c.map Ent.v=i.map some->At K g X a.n (d++(c++T)) f->P e a->Q i f
def LS(g:DB):TS:=λD h H=>∃(d:Hp) (X:Addr->Prop) (S T:List Ent) (f:DS) (P:DEnds),vs S=h/\Sl S f/\(∀e∈T,Ph e.x=false)/\At K d X f.n (S++T) H/\g P f /\
 (∀a b c,Sl b a->At K d X a.n (b++T) c->P.nx a->D.nx (vs b) c) /\
 (∀x a v F b c,Sl b a->At K d X a.n (b++⟨some v,x,F⟩::T) c->P.rt x a->D.rt v c) /\
 (∀a b c,Sl b a->At K d X a.n (b++T) c->P.bk a->D.bk (vs b) c) /\
 (∀a b c,Sl b a->At K d X a.n (b++T) c->P.ct a->D.ct (vs b) c)
def LG(g:DG):TG:=λv f H Q=>∃(e:Hp) (X:Addr->Prop) (S T:List Ent) (b:DS) (x:DV) (F:List Addr) (P:DS->Prop),vs S=f/\Sl S b/\At K e X b.n (S++⟨some v,x,F⟩::T) H/\g x b P /\
 ∀a c d,Sl c a->At K e X a.n (c++T) d->P a->Q (vs c) d
def ND(g:yX):Q8:=λi h H Q=>∃(f:Hp) (X:Addr->Prop) (S T c:List Ent) (b:DS) (P:DS->Prop),vs S=h/\Sl S b/\c.map Ent.v=i.map some/\At K f X b.n (S++(c++T)) H/\g (c.map Ent.x) b P /\
 ∀a d e,Sl d a->At K f X a.n (d++T) e->P a->Q (vs d) e
end
abbrev Fk(X:Cx)(e:Expr)(a:DE):Prop:=PE X e (LE X.K a)
abbrev fN(X:Cx)(e:Expr)(dt:DT):Prop:=PT X e (LT X.K dt)
abbrev EE(X:Cx)(e:Expr)(dt:DT):Prop:=PW X e (LT X.K dt)
abbrev uU(X:Cx)(es:List Expr)(a:DA):Prop:=PA X es (LA X.K a)
abbrev oX(X:Cx)(st:Stmt)(a:DB):Prop:=PS X st (LS X.K a)
abbrev fB(X:Cx)(st:List Stmt)(a:DB):Prop:=sJ X st (LS X.K a)
abbrev IL(X:Cx)(a:Expr)(b:DG):Prop:=PG X a (LG X.K b)
abbrev P7(X:Cx)(a:List Expr)(b:yX):Prop:=CT X a (ND X.K b)
theorem PE.imp{X:Cx}{e:Expr}{t t':TE}(h:PE X e t)(k:∀σ H Q,t' σ H Q->t σ H Q):PE X e t':=λa s σ H Q I q=>h a s σ H Q I (k σ H Q q)
theorem PT.imp{X:Cx}{e:Expr}{t t':TT}(h:PT X e t)(k:∀σ H Q,t' σ H Q->t σ H Q):PT X e t':=λa s σ H Q I q=>h a s σ H Q I (k σ H Q q)
theorem PW.imp{X:Cx}{e:Expr}{t t':TT}(h:PW X e t)(k:∀σ H Q,t' σ H Q->t σ H Q):PW X e t':=λb a s σ H Q I q=>h b a s σ H Q I (k σ H Q q)
theorem PA.imp{X:Cx}{e:List Expr}{t t':TA}(h:PA X e t)(k:∀σ H Q,t' σ H Q->t σ H Q):PA X e t':=λb a s σ H Q I q=>h b a s σ H Q I (k σ H Q q)
theorem PG.imp{X:Cx}{e:Expr}{t t':TG}(h:PG X e t)(k:∀v σ H Q,t' v σ H Q->t v σ H Q):PG X e t':=λa s σ H v u Q I r q=>h a s σ H v u Q I r (k v σ H Q q)
theorem CT.imp{X:Cx}{e:List Expr}{t t':Q8}(h:CT X e t)(k:∀v σ H Q,t' v σ H Q->t v σ H Q):CT X e t':=λa s σ H v u Q I r q=>h a s σ H v u Q I r (k v σ H Q q)
section
variable{K:PySem.W.Frag}{H:Hp}{v:V}{F:List Addr}
theorem RdF.int_inv{i:Int}(h:RdF K H v (.int i) F):v=.int i/\F=[]:=by cases h; exact ⟨rfl,rfl⟩
theorem RdF.bl_inv{i:Bool}(h:RdF K H v (.bool i) F):v=.bl i/\F=[]:=by cases h; exact ⟨rfl,rfl⟩
theorem RdF.str_inv{i:Str}(h:RdF K H v (.str i) F):v=.str i/\F=[]:=by cases h; exact ⟨rfl,rfl⟩
theorem RdF.non_inv(h:RdF K H v .none F):v=.non/\F=[]:=by cases h; exact ⟨rfl,rfl⟩
theorem RdF.list_inv{b:List Ae}(h:RdF K H v (.list b) F):∃a xs G,v=.ref a/\H a=some (.lst xs)/\RdFs K H xs b G/\F=a::G/\b.length<=Bf:=by
 cases h with
 | lst h l c=>exact ⟨_,_,_,rfl,h,c,rfl,l⟩
theorem RdF.tup_inv{b:List Ae}(h:RdF K H v (.tuple b) F):∃a xs,v=.ref a/\H a=some (.tup xs)/\RdFs K H xs b F/\b.length<=Bf:=by
 cases h with
 | tup h l c=>exact ⟨_,_,rfl,h,c,l⟩
end
section
variable{K:PySem.W.Frag}{a H b:Hp}{X:Addr->Prop}{n:Nat}{E S T:List Ent}{v:V}{m:Md}{d:Ae}{F:List Addr}
theorem At.told(h:At K a X n E H)(c:⟨some v,.dat m d,F⟩∈E):RdF K H v d F:=by
 obtain ⟨w,e,b,_⟩:=h.ok _ c
 cases e
 exact b
theorem mem_mid{e:Ent}:e∈S++e::T:=Av _ Ab
theorem Fm{e f:Ent}:f∈S++e::f::T:=Av _ (Ad _ Ab)
theorem At.drop2{e f:Ent}(h:At K a X n (S++e::f::T) H):At K a X n (S++T) H:=h.drop.drop
theorem At.dropL{b:List Ent}(h:At K a X n (S++(b++T)) H):At K a X n (S++T) H:=h.sub ((Eb S).append (Di b T))
end
def lR:Md->Md
 | .ow=>.pk
 | .tp=>.pk
 | m=>m
def ES(i:Nat):DE:=λa P=>match a.sl[i]? with
 | some (.dat m d)=>P (.dat (lR m) d) a
 | _=>False
def dC(d:Ae):DE:=λa P=>P (.dat .ow d) a
theorem Jd{S:List Ent}{b:DS}{i:Nat}{x:DV}(h:Sl S b)(e:b.sl[i]? = some x):∃a,S[i]? = some a/\a.x=x:=by
 unfold Sl at h
 rw[<- h,Br] at e
 cases q:S[i]? with
 | none=>rw[q] at e; cases e
 | some a=>rw[q] at e; exact ⟨a,rfl,Cn e⟩
theorem Ls{S:List Ent}{i:Nat}{e:Ent}(h:S[i]? = some e):(vs S)[i]? = some e.v:=by
 unfold vs
 rw[Br,h]
 rfl
theorem At.look{K:PySem.W.Frag}{g H:Hp}{X:Addr->Prop}{n:Nat}{S T:List Ent}{u:Option V}{v:V}{m:Md}{d:Ae}{F:List Addr}(h:At K g X n (S++T) H)(r:⟨u,.dat m d,F⟩∈S)(p:u=some v):At K g X n (S++⟨some v,.dat (lR m) d,F⟩::T) H:=by
 subst p
 obtain ⟨j,c,rfl⟩:=List.append_of_mem r
 have k:((j++⟨some v,.dat m d,F⟩::c)++T).Perm (⟨some v,.dat m d,F⟩::(j++(c++T))):=by
  rw[Cr,Ha]
  exact Gz
 have i:=h.perm k
 have o:=Ax.mp i.sep
 refine (h.push (e:=⟨some v,.dat (lR m) d,F⟩) ?_ (λf hf=>?_) λa b=>?_).tomid
 ·obtain ⟨w,q,l,_⟩:=i.ok _ Ab
  refine ⟨w,q,l,λz=>?_,λz=>?_⟩ <;> cases m <;> cases z
 ·refine ⟨λ_ a b=>?_,λhq a b=>?_⟩
  ·cases m <;> exact nomatch b
  ·rcases An.mp (k.mem_iff.mp hf) with rfl | hf
   ·rcases hq with hq | hq
    ·cases m <;> first | cases hq; done | exact nomatch b
    ·cases hq
   ·refine (o.1 f hf).2 ?_ a b
    rcases hq with hq | hq
    ·refine .inl ?_
     cases m <;> first | rfl | exact hq
    ·exact .inr hq
 ·cases m <;> exact nomatch b
section
variable{X:Cx}{e:Expr}
theorem Ao{i:Nat}(h:PE X e (fF i)):Fk X e (ES i):=by
 refine PE.imp h λr H Q h=>?_
 obtain ⟨q,Y,S,T,p,P,rfl,f,g,b,k⟩:=h
 unfold ES at b
 split at b
 ·rename_i m d o
  obtain ⟨a,l,n⟩:=Jd f o
  have j:a∈S:=Aw l
  obtain ⟨u,x,F⟩:=a
  subst n
  obtain ⟨v,c,_⟩:=g.ok _ (Ap _ j)
  refine ⟨v,by rw[Ls l]; exact congrArg some c,k _ p v F S H rfl f (g.look j c) b⟩
 ·exact b.elim
theorem jU{v:V}{d:Ae}(h:PE X e (tC v))(r:∀H,RdF X.K H v d []):Fk X e (dC d):=by
 refine PE.imp h λi H Q h=>?_
 obtain ⟨g,Y,S,T,f,P,rfl,a,b,c,k⟩:=h
 exact k _ f v [] S H rfl a (b.pushI (r H)) c
theorem Df{i j pos}:Fk X (.Constant (.int i) j pos) (dC (.int i)):=jU Fw λ_=>.int i
theorem Lh{i j pos}:Fk X (.Constant (.bool i) j pos) (dC (.bool i)):=jU zR λ_=>.bl i
theorem Tc{i j pos}:Fk X (.Constant (.str i) j pos) (dC (.str i)):=jU AY λ_=>.str i
theorem Yt{j pos}:Fk X (.Constant .none j pos) (dC .none):=jU AW λ_=>.non
end
def GO(c:DE):DE:=λb P=>c b λx a=>match x with
 | .dat _ d=>imm d=true/\P (.dat .ow d) a
 | _=>False
theorem Ny{X:Cx}{e:Expr}{c:DE}(h:Fk X e c):Fk X e (GO c):=by
 refine PE.imp h λt H Q h=>?_
 obtain ⟨q,Y,S,T,o,P,rfl,f,g,n,k⟩:=h
 refine ⟨q,Y,S,T,o,_,rfl,f,g,n,λx b v F s l j i a p=>?_⟩
 cases x with
 | dat m d =>
  have r:=a.told mem_mid
  obtain rfl:=r.imm p.1
  exact k _ b v [] s l j i (a.drop.pushI r) p.2
 | _=>exact p.elim
def zL(i:Nat):DE:=λa P=>match a.sl[i]? with
 | some (.dat m d)=>P (.dat m d) ⟨a.sl.set i .un,a.n⟩
 | _=>False
theorem Wr{a:Type}:∀{l:List a} {i:Nat} {x y:a},l[i]? = some x->(y::l).Perm (x::l.set i y)
 | [],i,x,y,h=>by simp at h
 | z::l,0,x,y,h=>by
  simp at h
  subst h
  exact Fh _ _ _
 | z::l,i+1,x,y,h=>by
  have b:=Wr (l:=l) (i:=i) (x:=x) (y:=y) (by simpa using h)
  rw[List.set_cons_succ]
  exact (Fh z y l).trans ((b.cons z).trans (Fh x z _))
theorem bO{X:Cx}{e:Expr}{i:Nat}(h:PE X e (fF i)):Fk X e (zL i):=by
 refine PE.imp h λG H Q h=>?_
 obtain ⟨I,Y,S,T,C,P,rfl,o,r,g,k⟩:=h
 unfold zL at g
 split at g
 ·rename_i m d D
  obtain ⟨b,c,B⟩:=Jd o D
  have w:b∈S:=Aw c
  obtain ⟨u,x,F⟩:=b
  subst B
  obtain ⟨v,t,E⟩:=r.ok _ (Ap _ w)
  have p:u=some v:=t
  subst p
  refine ⟨v,by rw[Ls c],k _ _ v F (S.set i ⟨some v,.un,[]⟩) H ?_ ?_ ?_ g⟩
  ·unfold vs
   rw[Iw]
   apply Gk
   intro j
   rw[Iz]
   split
   ·rename_i q
    subst q
    rw[Br,c]
    split
    ·rfl
    ·rename_i s
     rw[Ac] at s
     exact absurd (Ai.mp c).1 s
   ·rfl
  ·unfold Sl at o ⊢
   rw[Iw,o]
  ·have z:=r.push (e:=⟨some v,.un,[]⟩) (show Jg X.K H C.n ⟨some v,.un,[]⟩ from rfl) (λf _=>⟨λ_ a l=>(nomatch l),λ_ a _=>Ce⟩) (λa l=>(nomatch l))
   have A:(⟨some v,.un,[]⟩::(S++T)).Perm ((S.set i ⟨some v,.un,[]⟩)++⟨some v,.dat m d,F⟩::T):=by
    rw[<- Ha]
    exact ((Wr (y:=(⟨some v,.un,[]⟩ : Ent)) c).append_right T).trans (by rw[Ha]; exact List.perm_middle.symm)
   exact z.perm A
 ·exact g.elim
abbrev D2:=DV->DV->(DV->Prop)->Prop
def jS(K:PySem.W.Frag)(r:R2)(rd:D2):Prop:=∀(a:Hp) (X:Addr->Prop) (n:Nat) (S T:List Ent) (x y:DV) (v w:V) (F G:List Addr) (H:Hp) (Q:VK) (P:DV->Prop),
 At K a X n (S++⟨some w,y,G⟩::⟨some v,x,F⟩::T) H->rd x y P->(∀z u c b,At K a X n (S++⟨some u,z,c⟩::T) b->P z->Q u b)->r v w H Q
def Vf(rd:D2)(e c:DE):DE:=λd P=>e d λx b=>c b λy a=>rd x y λz=>P z a
theorem iB{K:PySem.W.Frag}{r:R2}{rd:D2}{j g:DE}(o:jS K r rd):∀σ H Q,LE K (Vf rd j g) σ H Q->IE r (LE K j) (LE K g) σ H Q:=by
 intro σ H Q h
 obtain ⟨f,Y,S,T,B,P,rfl,l,m,L,k⟩:=h
 refine ⟨f,Y,S,T,B,_,rfl,l,m,L,λx b v F M N I C c t=>?_⟩
 refine ⟨f,Y,M,⟨some v,x,F⟩::T,b,_,I,C,c,t,λy a w G i p A D d s=>?_⟩
 exact o f Y a.n i T x y v w F G p Q _ d s λz u E J e q=>k z a u E i J A D e q
section
variable{X:Cx}{a b:Expr}{d c:DE}{pos:Pos}{r:R2}{rd:D2}
theorem Xk{op:Operator}(f:Xq X (Kw op) r)(o:jS X.K r rd)(e:Fk X a d)(hb:Fk X b c):Fk X (.BinOp a op b pos) (Vf rd d c):=PE.imp (Km f e hb) (iB o)
theorem bX{op:CmpOp}(f:Xq X (Hh op) r)(o:jS X.K r rd)(g:Fk X a d)(hb:Fk X b c)(e:Fx op b=false):Fk X (.Compare a [op] [b] pos) (Vf rd d c):=PE.imp (Q4 f g hb e) (iB o)
theorem JA(e:P1 X r)(o:jS X.K r rd)(f:Fk X a d)(hb:Fk X b c)(g:mE b):Fk X (.Subscript a b pos) (Vf rd d c):=PE.imp (dE e f hb g) (iB o)
end
def FM(C:Int->Int->Prop)(g:Int->Int->Ae):D2:=λx y P=>match x,y with
 | .dat _ (.int i),.dat _ (.int j)=>C i j/\P (.dat .ow (g i j))
 | _,_=>False
def gA(g:Int->Int->Ae):D2:=λx y P=>match x,y with
 | .dat _ (.int i),.dat _ (.int j)=>P (.dat .ow (g i j))
 | _,_=>False
section
variable{K:PySem.W.Frag}
theorem CW{C:Int->Int->Prop}{g:Int->Int->V}{g':Int->Int->Ae}(h:∀i j H,RdF K H (g i j) (g' i j) []):jS K (rI C g) (FM C g'):=by
 intro c X n S T x y v w F G H Q P b a k
 unfold FM at a
 split at a
 ·obtain ⟨rfl,_⟩:=(b.told Fm).int_inv
  obtain ⟨rfl,_⟩:=(b.told mem_mid).int_inv
  exact ⟨_,_,rfl,rfl,a.1,k _ _ [] H (b.drop2.pushI (h _ _ H)) a.2⟩
 ·exact a.elim
theorem aF{g:Int->Int->V}{g':Int->Int->Ae}(h:∀i j H,RdF K H (g i j) (g' i j) []):jS K (AF g) (gA g'):=by
 intro c X n S T x y v w F G H Q P b a k
 unfold gA at a
 split at a
 ·obtain ⟨rfl,_⟩:=(b.told Fm).int_inv
  obtain ⟨rfl,_⟩:=(b.told mem_mid).int_inv
  exact ⟨_,_,rfl,rfl,k _ _ [] H (b.drop2.pushI (h _ _ H)) a⟩
 ·exact a.elim
end
abbrev rdAdd:D2:=gA λi j=>.int (i+j)
abbrev rdSub:D2:=gA λi j=>.int (i - j)
abbrev rdMul:D2:=FM L0 λi j=>.int (i * j)
abbrev rdDiv:D2:=FM FA λi j=>.int (i / j)
abbrev rdMod:D2:=FM (λ_ j=>0<j) λi j=>.int (i % j)
abbrev rdLt:D2:=gA λi j=>.bool (decide (i<j))
abbrev rdGt:D2:=gA λi j=>.bool (decide (j<i))
abbrev rdGe:D2:=gA λi j=>.bool (decide (j<=i))
section
variable{X:Cx}{a b:Expr}{d c:DE}{pos:Pos}
theorem Sm(e:Fk X a d)(hb:Fk X b c):Fk X (.BinOp a .Add b pos) (Vf rdAdd d c):=Xk cW (aF λ_ _ _=>.int _) e hb
theorem Rt(e:Fk X a d)(hb:Fk X b c):Fk X (.BinOp a .Sub b pos) (Vf rdSub d c):=Xk CD (aF λ_ _ _=>.int _) e hb
theorem E2(e:Fk X a d)(hb:Fk X b c):Fk X (.BinOp a .Mult b pos) (Vf rdMul d c):=Xk Zo (CW λ_ _ _=>.int _) e hb
theorem cN(e:Fk X a d)(hb:Fk X b c):Fk X (.BinOp a .FloorDiv b pos) (Vf rdDiv d c):=Xk kG (CW λ_ _ _=>.int _) e hb
theorem Mh(e:Fk X a d)(hb:Fk X b c):Fk X (.BinOp a .Mod b pos) (Vf rdMod d c):=Xk Vu (CW λ_ _ _=>.int _) e hb
theorem AV(e:Fk X a d)(hb:Fk X b c):Fk X (.Compare a [.Lt] [b] pos) (Vf rdLt d c):=bX AL (aF λ_ _ _=>.bl _) e hb (Nw _)
theorem X7(e:Fk X a d)(hb:Fk X b c):Fk X (.Compare a [.Gt] [b] pos) (Vf rdGt d c):=bX Z2 (aF λ_ _ _=>.bl _) e hb (Nw _)
theorem IP(e:Fk X a d)(hb:Fk X b c):Fk X (.Compare a [.GtE] [b] pos) (Vf rdGe d c):=bX K2 (aF λ_ _ _=>.bl _) e hb (Nw _)
end
def lE(a:Bool):D2:=λx y P=>match x,y with
 | .dat _ d,.dat _ e=>d.depth<=60/\e.depth<=60/\P (.dat .ow (.bool (match a with | true=>!Ep d e | false=>Ep d e)))
 | _,_=>False
def qQ(a:Bool):D2:=λx y P=>match x,y with
 | .dat _ d,.dat _ (.list es)=>Bu es<=60/\d.depth<=60/\P (.dat .ow (.bool (match a with | true=>!(es.any λe=>Ep e d) | false=>es.any λe=>Ep e d)))
 | .dat _ d,.dat _ (.tuple es)=>Bu es<=60/\d.depth<=60/\P (.dat .ow (.bool (match a with | true=>!(es.any λe=>Ep e d) | false=>es.any λe=>Ep e d)))
 | _,_=>False
section
variable{K:PySem.W.Frag}
theorem Y2:jS K (HF K) (lE false):=by
 intro c X n S T x y v w F G H Q P b a k
 unfold lE at a
 split at a
 ·exact ⟨_,_,(b.told Fm).rd (Co a.1 (by decide)),(b.told mem_mid).rd (Co a.2.1 (by decide)),a.1,k _ _ [] H (b.drop2.pushI (.bl _)) a.2.2⟩
 ·exact a.elim
theorem HY:jS K (GM K) (lE true):=by
 intro c X n S T x y v w F G H Q P b a k
 unfold lE at a
 split at a
 ·exact ⟨_,_,(b.told Fm).rd (Co a.1 (by decide)),(b.told mem_mid).rd (Co a.2.1 (by decide)),a.1,k _ _ [] H (b.drop2.pushI (.bl _)) a.2.2⟩
 ·exact a.elim
theorem A7{d:Bool}:jS K (EB K d) (qQ d):=by
 intro i X n S T x y v w F G H Q P c b k
 unfold qQ at b
 split at b
 ·obtain ⟨a,f,h,rfl,g,e,_,_⟩:=(c.told mem_mid).list_inv
  refine ⟨a,f,_,_,rfl,.inl (Ux.of g),(c.told Fm).rd (Co b.2.1 (by decide)),e.rd (Co b.1 (by decide)),b.1,?_⟩
  cases d with
  | true=>exact k _ _ [] H (c.drop2.pushI (.bl _)) b.2.2
  | false=>exact k _ _ [] H (c.drop2.pushI (.bl _)) b.2.2
 ·obtain ⟨a,f,rfl,g,e,_⟩:=(c.told mem_mid).tup_inv
  refine ⟨a,f,_,_,rfl,.inr (Vp.of g),(c.told Fm).rd (Co b.2.1 (by decide)),e.rd (Co b.1 (by decide)),b.1,?_⟩
  cases d with
  | true=>exact k _ _ [] H (c.drop2.pushI (.bl _)) b.2.2
  | false=>exact k _ _ [] H (c.drop2.pushI (.bl _)) b.2.2
 ·exact b.elim
def isNone:Ae->Bool
 | .none=>true
 | _=>false
theorem tW{v:V}{H:Hp}{d:Ae}{F:List Addr}(r:RdF K H v d F):decide (v=.non)=isNone d:=by
 cases r <;> simp [isNone]
def aK(a:Bool):D2:=λx y P=>match x,y with
 | .dat _ d,.dat _ .none=>P (.dat .ow (.bool (match a with | true=>!isNone d | false=>isNone d)))
 | _,_=>False
theorem CJ:jS K (λx y H Q=>y=.non/\Q (.bl (decide (x=.non))) H) (aK false):=by
 intro c X n S T x y v w F G H Q P b a k
 unfold aK at a
 split at a
 ·obtain ⟨rfl,_⟩:=(b.told mem_mid).non_inv
  refine ⟨rfl,k _ _ [] H (b.drop2.pushI (m:=.ow) (.bl _)) ?_⟩
  rw[tW (b.told Fm)]
  exact a
 ·exact a.elim
theorem R0:jS K (λx y H Q=>y=.non/\Q (.bl (!decide (x=.non))) H) (aK true):=by
 intro c X n S T x y v w F G H Q P b a k
 unfold aK at a
 split at a
 ·rename_i m d e
  obtain ⟨rfl,_⟩:=(b.told mem_mid).non_inv
  refine ⟨rfl,k _ _ [] H (b.drop2.pushI (m:=.ow) (.bl _)) ?_⟩
  rw[tW (b.told Fm)]
  exact a
 ·exact a.elim
end
section
variable{X:Cx}{a b:Expr}{d c:DE}{pos:Pos}
theorem iQ(f:X.A.units+64<cLine)(e:Fk X a d)(hb:Fk X b c):Fk X (.Compare a [.Eq] [b] pos) (Vf (lE false) d c):=bX (A9 f) Y2 e hb (Nw _)
theorem uH(f:X.A.units+64<cLine)(g:Fk X a d)(hb:Fk X b c)(e:Fx .In b=false:=by with_unfolding_all rfl):Fk X (.Compare a [.In] [b] pos) (Vf (qQ false) d c):=bX (J9 f) A7 g hb e
end
def Os:Md->Md
 | .ow=>.ow
 | .tp=>.sh
 | m=>m
theorem At.part{K:PySem.W.Frag}{k H:Hp}{X:Addr->Prop}{n:Nat}{S T:List Ent}{v w:V}{m:Md}{d e:Ae}{F G:List Addr}(h:At K k X n (S++⟨some v,.dat m d,F⟩::T) H)(r:RdF K H w e G)(g:G.Sublist F):At K k X n (S++⟨some w,.dat (Os m) e,G⟩::T) H:=by
 have c:=h.mid
 have j:=Ax.mp c.sep
 obtain ⟨t,q,p,o,s⟩:=c.ok _ Ab
 have l:∀a∈cells ⟨some w,.dat (Os m) e,G⟩,a∈cells ⟨some v,.dat m d,F⟩:=λa b=>by
  cases m with
  | ow=>exact g.subset b
  | tp=>exact nomatch b
  | sh=>exact nomatch b
  | pk=>exact nomatch b
 refine (h.drop.push (e:=⟨some w,.dat (Os m) e,G⟩) ⟨w,rfl,r,λz=>?_,λz=>?_⟩ (λf i=>?_) λa b=>?_).tomid
 ·cases m with
  | ow=>exact (o rfl).sublist g
  | _=>cases z
 ·cases m <;> cases z
 ·refine ⟨λhp a b=>(j.1 f i).1 ?_ a (l a b),λhp a b z=>(j.1 f i).2 ?_ a b (g.subset z)⟩
  ·rcases hp with hp | hp
   ·exact .inl hp
   ·cases hp
  ·rcases hp with hp | hp
   ·refine .inl ?_
    cases m <;> first | rfl | exact hp
   ·exact .inr hp
 ·rcases c.new _ Ab a (l a b) with z | z
  ·exact .inl z
  ·cases z.2
def vY:D2:=λx y P=>match x,y with
 | .dat m (.list ds),.dat _ (.int i)=>∃d,Xu ds i=some d/\P (.dat (Os m) d)
 | .dat m (.tuple ds),.dat _ (.int i)=>∃d,Xu ds i=some d/\P (.dat (Os m) d)
 | .dat _ (.str z),.dat _ (.int i)=>z.length<=Bf/\∃c,Xu z.cps.toList i=some c/\P (.dat .ow (.str ⟨#[c]⟩))
 | _,_=>False
theorem n8{K:PySem.W.Frag}{H:Hp}{xs:List V}{a:List Ae}{F:List Addr}{i:Int}{d:Ae}(r:RdFs K H xs a F)(h:Xu a i=some d):∃x G,Xu xs i=some x/\RdF K H x d G/\G.Sublist F:=by
 unfold Xu at h ⊢
 rw[r.len]
 cases e:M5 a.length i with
 | none=>rw[e] at h; cases h
 | some j =>
  rw[e] at h
  exact r.get h
theorem ID{K:PySem.W.Frag}:jS K (MA K) vY:=by
 intro z X n S T x y v w F G H Q P b f k
 unfold vY at f
 split at f
 ·obtain ⟨d,g,p⟩:=f
  obtain ⟨rfl,_⟩:=(b.told mem_mid).int_inv
  have r:=b.told Fm
  have e:=b.drop
  obtain ⟨a,q,u,rfl,m,j,t,_⟩:=r.list_inv
  obtain ⟨x,h,i,o,l⟩:=n8 j g
  subst t
  exact .inl ⟨_,_,_,_,rfl,rfl,Ux.of m,i,k _ _ h H (e.part o (l.trans (Dr _ _))) p⟩
 ·obtain ⟨d,g,p⟩:=f
  obtain ⟨rfl,_⟩:=(b.told mem_mid).int_inv
  have r:=b.told Fm
  have e:=b.drop
  obtain ⟨a,q,rfl,m,j,_⟩:=r.tup_inv
  obtain ⟨x,h,i,o,l⟩:=n8 j g
  exact .inr (.inl ⟨_,_,_,_,rfl,rfl,Vp.of m,i,k _ _ h H (e.part o l) p⟩)
 ·obtain ⟨s,c,g,p⟩:=f
  obtain ⟨rfl,_⟩:=(b.told mem_mid).int_inv
  obtain ⟨rfl,_⟩:=(b.told Fm).str_inv
  exact .inr (.inr ⟨_,_,_,rfl,rfl,s,g,k _ _ [] H (b.drop2.pushI (.str _)) p⟩)
 ·exact f.elim
theorem Jw{X:Cx}{a b:Expr}{d c:DE}{pos:Pos}(f:Fk X a d)(hb:Fk X b c)(e:mE b:=by intro _ _; rfl):Fk X (.Subscript a b pos) (Vf vY d c):=JA EK ID f hb e
def vT:Md->Md
 | .ow=>.ow
 | .pk=>.pk
 | _=>.tp
def aC(i:Bool)(m:Md)(a:List Ae)(P:DV->Prop):Prop:=match i with
 | true=>Dt a=true/\P (.dat .ow (.list a))
 | false=>P (.dat (vT m) (.list a))
def kX(i:Bool)(m:Md)(a:List Ae)(P:DV->Prop):Prop:=match i with
 | true=>Dt a=true/\P (.dat .ow (.tuple a))
 | false=>P (.dat (Os m) (.tuple a))
section
variable{K:PySem.W.Frag}{c H:Hp}{X:Addr->Prop}{n:Nat}{S T:List Ent}{v w:V}{m:Md}{d e:Ae}{F G:List Addr}{p:Addr}{xs:List V}{b:List Ae}{P:DV->Prop}{i:Bool}
theorem At.newI(h:At K c X n (S++T) H)(r:RdFs K H xs b G)(q:Dt b=true)(hz:b.length<=Bf)(g:H p=none)(m:Md):At K c X n (S++⟨some (.ref p),.dat m (.list b),[p]⟩::T) (upd H p (.lst xs)):=by
 obtain rfl:=r.imm q
 have j:=Gn g (.lst xs)
 have o:=h.grow (n':=n) j (Ah _)
 refine (o.push (e:=⟨some (.ref p),.dat m (.list b),[p]⟩) ⟨_,rfl,.lst El hz (r.kp (Kp.of j)),λ_=>Cg.mpr ⟨Ce,Do⟩,λ_ a l z=>by cases z; exact Ce⟩ (λf k=>?_) λa d=>?_).tomid
 ·have i:=h.free g f k
  refine ⟨λ_ a d z=>?_,λ_ a d z=>?_⟩
  ·have:=Ht _ a d
   rw[Al.mp this] at z
   exact i z
  ·rw[Al.mp z] at d
   exact i (Ht _ _ d)
 ·have:=Ht _ a d
  rw[Al.mp this]
  exact .inl (h.new0 g)
theorem At.newL(h:At K c X n (S++⟨some v,.dat m d,F⟩::T) H)(r:RdFs K H xs b G)(s:G.Sublist F)(hz:b.length<=Bf)(o:H p=none)(q:aC i m b P):∃z C,At K c X n (S++⟨some (.ref p),z,C⟩::T) (upd H p (.lst xs))/\P z:=by
 cases i with
 | true=>exact ⟨_,_,h.drop.newI r q.1 hz o .ow,q.2⟩
 | false =>
  have q:P (.dat (vT m) (.list b)):=q
  refine ⟨_,p::G,?_,q⟩
  have x:=Gn o (.lst xs)
  have j:=h.mid
  have y:=Ax.mp j.sep
  obtain ⟨I,E,_,D,_⟩:=j.ok _ Ab
  have B:=h.drop.grow (n':=n) x (Ah _)
  have u:p∉F:=j.free o _ Ab
  have k:p∉G:=λz=>u (s.subset z)
  have A:∀a∈cells ⟨some (.ref p),.dat (vT m) (.list b),p::G⟩,a=p\/(a∈cells ⟨some v,.dat m d,F⟩):=λa g=>by
   cases m with
   | ow =>
    rcases An.mp g with z | z
    ·exact .inl z
    ·exact .inr (s.subset z)
   | tp=>exact .inl (Al.mp g)
   | sh=>exact .inl (Al.mp g)
   | pk=>exact nomatch g
  refine (B.push (e:=⟨some (.ref p),.dat (vT m) (.list b),p::G⟩) ⟨_,rfl,.lst El hz (r.kp (Kp.of x)),λz=>?_,λz a l e=>?_⟩ (λf t=>?_) λa g=>?_).tomid
  ·cases m with
   | ow=>exact Cg.mpr ⟨k,(D rfl).sublist s⟩
   | _=>cases z
  ·cases e
   exact k
  ·have w:=j.free o f (Ad _ t)
   refine ⟨λhq a g z=>?_,λhq a g z=>?_⟩
   ·rcases A a g with rfl | hc
    ·exact w z
    ·refine (y.1 f t).1 ?_ a hc z
     rcases hq with hq | hq
     ·exact .inl hq
     ·cases hq
   ·rcases An.mp z with rfl | z
    ·exact w (Ht _ _ g)
    ·refine (y.1 f t).2 ?_ a g (s.subset z)
     rcases hq with hq | hq
     ·refine .inl ?_
      cases m <;> first | rfl | exact hq
     ·exact .inr hq
  ·rcases A a g with rfl | hc
   ·exact .inl (j.new0 o)
   ·rcases j.new _ Ab a hc with z | z
    ·exact .inl z
    ·cases z.2
theorem At.newT(h:At K c X n (S++⟨some v,.dat m d,F⟩::T) H)(r:RdFs K H xs b G)(g:G.Sublist F)(hz:b.length<=Bf)(j:H p=none)(q:kX i m b P):∃z f,At K c X n (S++⟨some (.ref p),z,f⟩::T) (upd H p (.tup xs))/\P z:=by
 have a:=Gn j (.tup xs)
 have e:=h.grow (n':=n) a (Ah _)
 cases i with
 | true =>
  obtain rfl:=r.imm q.1
  exact ⟨_,[],e.drop.pushI (.tup El hz (r.kp (Kp.of a))),q.2⟩
 | false=>exact ⟨_,G,e.part (.tup El hz (r.kp (Kp.of a))) g,q⟩
theorem At.oldT{t:Addr}(h:At K c X n (S++⟨some v,.dat m d,F⟩::T) H)(r:RdFs K H xs b G)(e:G.Sublist F)(hz:b.length<=Bf)(a:H t=some (.tup xs))(q:kX i m b P):∃z f,At K c X n (S++⟨some (.ref t),z,f⟩::T) H/\P z:=by
 cases i with
 | true =>
  obtain rfl:=r.imm q.1
  exact ⟨_,[],h.drop.pushI (.tup a hz r),q.2⟩
 | false=>exact ⟨_,G,h.part (.tup a hz r) e,q⟩
end
def CI:DA:=λa P=>P [] a
def AS(f:DE)(e:DA):DA:=λd P=>f d λx b=>e b λc a=>P (x::c) a
section
variable{X:Cx}{e:Expr}{es:List Expr}{b:DE}{a:DA}
theorem Ay:uU X [] CI:=by
 refine PA.imp Qm λf H Q h=>?_
 obtain ⟨e,Y,S,T,d,P,rfl,a,b,c,k⟩:=h
 exact k [] d [] [] S H rfl a rfl rfl b c
theorem Am(l:Fk X e b)(t:uU X es a)(s:Cc (e::es) X.env=(false,eval e X.env)::Cc es X.env:=by rfl):uU X (e::es) (AS b a):=by
 refine PA.imp (Jc l t s) λJ H Q h=>?_
 obtain ⟨j,Y,S,T,A,P,rfl,m,n,E,k⟩:=h
 refine ⟨j,Y,S,T,A,_,rfl,m,n,E,λx c v F G K D B d y=>?_⟩
 refine ⟨j,Y,G,⟨some v,x,F⟩::T,c,_,D,B,d,y,λp g u I i q z C o r f w=>?_⟩
 refine k (x::p) g (⟨some v,x,F⟩::u) (v::I) i q z C (by rw[Au,o]) (by rw[Au,Au,r]) (f.perm ((Gw i).append ?_)) w
 exact Gz
end
def allOw:List DV->Bool
 | []=>true
 | .dat .ow _::xs=>allOw xs
 | _=>false
def noPk:List DV->Bool
 | []=>true
 | .dat .pk _::_=>false
 | .dat _ _::xs=>noPk xs
 | _=>false
def datas:List DV->Option (List Ae)
 | []=>some []
 | .dat _ d::xs=>(datas xs).map (d::·)
 | _=>none
def pkMd(top:Md)(xs:List DV):Md:=if allOw xs=true then .ow else if noPk xs=true then top else .pk
section
variable{K:PySem.W.Frag}{i H:Hp}{X:Addr->Prop}{n:Nat}{S T c:List Ent}
theorem cV:∀{c:List Ent} {us:List V} {a:List Ae},c.map Ent.v=us.map some->datas (c.map Ent.x)=some a->(∀e∈c,Jg K H n e)->RdFs K H us a (c.flatMap Ent.F)
 | [],us,a,e,h,_=>by
  cases us with
  | nil=>cases h; exact .nil
  | cons _ _=>cases e
 | ent::c,us,a,e,h,ok=>by
  cases us with
  | nil=>cases e
  | cons u us =>
   rw[Au,Au] at e
   obtain ⟨l,j⟩:=Gs e
   obtain ⟨v,x,F⟩:=ent
   have g:v=some u:=l
   subst g
   rw[Au] at h
   cases x with
   | dat m d =>
    rw[show datas (DV.dat m d::c.map Ent.x)=(datas (c.map Ent.x)).map (d::·) from rfl] at h
    cases q:datas (c.map Ent.x) with
    | none=>rw[q] at h; cases h
    | some o =>
     rw[q] at h
     cases h
     obtain ⟨w,k,b,_⟩:=ok _ Ab
     cases k
     rw[List.flatMap_cons]
     exact .cons b (cV j q λf i=>ok f (Ad _ i))
   | _=>cases h
theorem Qx:∀{c:List Ent},allOw (c.map Ent.x)=true->∀e∈c,∃d,e.x=.dat .ow d
 | [],_,_,h=>nomatch h
 | ⟨v,x,F⟩::c,h,e,he=>by
  rw[Au] at h
  have a:(∃d,x=.dat .ow d)/\allOw (c.map Ent.x)=true:=by
   cases x with
   | dat m d=>cases m <;> first | exact ⟨⟨d,rfl⟩,h⟩ | cases h
   | _=>cases h
  rcases An.mp he with rfl | he
  ·exact a.1
  ·exact Qx a.2 e he
theorem nA:∀{c:List Ent},noPk (c.map Ent.x)=true->∀e∈c,Ph e.x=false
 | [],_,_,h=>nomatch h
 | ⟨v,x,F⟩::c,h,e,he=>by
  rw[Au] at h
  have a:Ph x=false/\noPk (c.map Ent.x)=true:=by
   cases x with
   | dat m d=>cases m <;> first | exact ⟨rfl,h⟩ | cases h
   | _=>cases h
  rcases An.mp he with rfl | he
  ·exact a.1
  ·exact nA a.2 e he
theorem cA:∀{c:List Ent},(∀e∈c,∃d,e.x=.dat .ow d)->(∀e∈c,Jg K H n e)->c.Pairwise Wn->(c.flatMap Ent.F).Nodup
 | [],_,_,_=>Do
 | ent::c,ho,ok,hs=>by
  rw[List.flatMap_cons]
  have k:=Ax.mp hs
  obtain ⟨v,x,F⟩:=ent
  obtain ⟨d,m⟩:=ho _ Ab
  have g:x=.dat .ow d:=m
  subst g
  obtain ⟨w,_,_,o,_⟩:=ok _ Ab
  refine Gj.mpr ⟨o rfl,cA (λe h=>ho e (Ad _ h)) (λe h=>ok e (Ad _ h)) k.2,λa l b i z=>?_⟩
  subst z
  obtain ⟨f,j,i⟩:=Sh.mp i
  obtain ⟨p,g⟩:=ho f (Ad _ j)
  exact (k.1 f j).1 (.inl (by rw[g]; rfl)) a l i
theorem At.pack{v:V}{d:Ae}{N:List Addr}{J:Hp}{top:Md}(h:At K i X n (S++(c++T)) H)(s:gO H J)(L:∀a∈N,H a=none)(C:N.Nodup)(p:(top=.tp/\N.length=1)\/(top=.sh/\N=[]))(r:RdF K J v d (N++c.flatMap Ent.F)):At K i X n (S++⟨some v,.dat (pkMd top (c.map Ent.x)) d,N++c.flatMap Ent.F⟩::T) J:=by
 have Q:(S++(c++T)).Perm (c++(S++T)):=by
  rw[<- Cr,<- Cr]
  exact Em.append_right T
 have B:=h.perm Q
 have E:=Et.mp B.sep
 have w:=(h.dropL).grow (n':=n) s (Ah _)
 have I:∀a∈N,∀f∈c++(S++T),a∉f.F:=λa j f q=>B.free (L a j) f q
 have k:∀a∈N,a∉c.flatMap Ent.F:=λa j z=>by
  obtain ⟨f,q,z⟩:=Sh.mp z
  exact I a j f (Ap _ q) z
 have O:∀a∈cells ⟨some v,.dat (pkMd top (c.map Ent.x)) d,N++c.flatMap Ent.F⟩,a∈N\/(allOw (c.map Ent.x)=true/\∃f∈c,a∈cells f):=λa j=>by
  unfold pkMd at j
  by_cases m:allOw (c.map Ent.x)=true
  ·rw[if_pos m] at j
   rcases Ba.mp j with z | z
   ·exact .inl z
   ·obtain ⟨f,q,z⟩:=Sh.mp z
    obtain ⟨M,o⟩:=Qx m f q
    refine .inr ⟨m,f,q,?_⟩
    unfold cells
    rw[o]
    exact z
  ·rw[if_neg m] at j
   by_cases A:noPk (c.map Ent.x)=true
   ·rw[if_pos A] at j
    rcases p with ⟨rfl,w⟩ | ⟨rfl,rfl⟩
    ·match N,w,j with
     | [b],_,j=>exact .inl j
    ·exact nomatch j
   ·rw[if_neg A] at j
    exact nomatch j
 refine (w.push (e:=⟨some v,.dat (pkMd top (c.map Ent.x)) d,N++c.flatMap Ent.F⟩) ⟨_,rfl,r,λz=>?_,λz a l e=>?_⟩ (λf q=>?_) λa j=>?_).tomid
 ·have m:allOw (c.map Ent.x)=true:=by
   unfold pkMd at z
   by_cases m:allOw (c.map Ent.x)=true
   ·exact m
   ·rw[if_neg m] at z
    split at z
    ·rcases p with ⟨rfl,_⟩ | ⟨rfl,_⟩ <;> cases z
    ·cases z
  refine Gj.mpr ⟨C,cA (Qx m) (λe R=>B.ok e (Ap _ R)) E.1,λa j b P e=>?_⟩
  subst e
  exact k a j P
 ·have U:top=.tp:=by
   unfold pkMd at z
   split at z
   ·cases z
   ·split at z
    ·exact z
    ·cases z
  subst U
  rcases p with ⟨_,w⟩ | ⟨w,_⟩
  ·match N,w,e,k with
   | [b],_,e,k =>
    cases e
    exact k a Ab
  ·cases w
 ·have y:f∈c++(S++T):=Av _ q
  refine ⟨λhq a j z=>?_,λhq a j z=>?_⟩
  ·rcases O a j with G | ⟨_,g,u,D⟩
   ·exact I a G f y z
   ·refine (E.2.2 g u f q).1 ?_ a D z
    rcases hq with hq | hq
    ·exact .inl hq
    ·cases hq
  ·rcases Ba.mp z with z | z
   ·exact I a z f y (Ht _ _ j)
   ·obtain ⟨g,u,z⟩:=Sh.mp z
    refine (E.2.2 g u f q).2 ?_ a j z
    rcases hq with hq | hq
    ·refine .inl ?_
     have t:Ph (.dat (pkMd top (c.map Ent.x)) d)=false:=hq
     unfold pkMd at t
     by_cases m:allOw (c.map Ent.x)=true
     ·obtain ⟨M,o⟩:=Qx m g u
      rw[o]
      rfl
     ·rw[if_neg m] at t
      by_cases A:noPk (c.map Ent.x)=true
      ·exact nA A g u
      ·rw[if_neg A] at t
       cases t
    ·exact .inr hq
 ·rcases O a j with G | ⟨_,g,u,D⟩
  ·exact .inl (B.new0 (L a G))
  ·rcases B.new g (Ap _ u) a D with z | z
   ·exact .inl z
   ·obtain ⟨M,o⟩:=Qx (by assumption) g u
    rw[o] at z
    cases z.2
end
def HV(e:DA):DE:=λd P=>e d λb a=>match datas b with
 | some c=>c.length<=1000/\P (.dat (pkMd .sh b) (.tuple c)) a
 | none=>False
def GG(e:DA):DE:=λd P=>e d λb a=>match datas b with
 | some c=>c.length<=1000/\P (.dat (pkMd .tp b) (.list c)) a
 | none=>False
section
variable{X:Cx}{es:List Expr}{b:DA}{pos:Pos}
theorem Qk{x1}(h:uU X es b):Fk X (.Tuple es x1 pos) (HV b):=by
 refine PE.imp (FF h) λC H Q h=>?_
 obtain ⟨s,Y,S,T,o,P,rfl,f,g,y,k⟩:=h
 refine ⟨s,Y,S,T,o,_,rfl,f,g,y,λj c D B u E x w i l a p=>?_⟩
 cases q:datas j with
 | none=>rw[q] at p; exact p.elim
 | some m =>
  rw[q] at p
  subst i
  have r:=cV l q λe v=>a.ok e (Av _ (Ap _ v))
  have F:=r.len
  have n:m.length<=Bf:=sz p.1
  refine ⟨by omega,λt A=>?_⟩
  have d:=Gn A (.tup B)
  exact k _ c _ _ u _ x w (a.pack (N:=[]) d (λ_ z=>nomatch z) Do (.inr ⟨rfl,rfl⟩) (.tup El n (r.kp (Kp.of d)))) p.2
theorem Kj(h:uU X es b):Fk X (.List es pos) (GG b):=by
 refine PE.imp (rB h) λD H Q h=>?_
 obtain ⟨v,Y,S,T,u,P,rfl,i,j,B,k⟩:=h
 refine ⟨v,Y,S,T,u,_,rfl,i,j,B,λm d E C w F A y l n c p=>?_⟩
 cases q:datas m with
 | none=>rw[q] at p; exact p.elim
 | some o =>
  rw[q] at p
  subst l
  have r:=cV n q λe x=>c.ok e (Av _ (Ap _ x))
  have G:=r.len
  have s:o.length<=Bf:=sz p.1
  refine ⟨by omega,λt g=>?_⟩
  have f:=Gn g (.lst C)
  exact k _ d _ _ w _ A y (c.pack (N:=[t]) f (λa z=>by rw[Al.mp z]; exact g) (Cg.mpr ⟨Ce,Do⟩) (.inl ⟨rfl,rfl⟩) (.lst El s (r.kp (Kp.of f)))) p.2
end
end DL
namespace Nd
open PySem PySem.Spec PyProof.Rows L2
section
variable{X:Cx}
def AB:V->Option Int->Option Int->Hp->VK->Prop:=λx d e H Q=>∃a c,x=.ref a/\H a=some (.tup c)/\∀p b,b p=some (.tup (eT c d e))->gO H b->Q (.ref p) b
theorem O5:EJ X AB:=by
 intro d s t H x v u A n l z Q I w j k i h
 obtain ⟨a,b,rfl,c,q⟩:=h
 have m:Vp X.K H a b:=Vp.of c
 cases w
 by_cases f:HT.sIx b.length 0 n=0/\HT.sIx b.length b.length l=b.length
 ·obtain ⟨g,r,o,B⟩:=I.tuple m
  have e:g.toArray.size=b.length:=by rw[Ar]; exact r.length.symm
  refine ⟨"tuple",_,Fc.lookup,o.typeIs,?_⟩
  refine Uw o j k i (by rw[e]; exact f) ⟨.ref a,H,I,rfl,q a H ?_ (gO.refl _)⟩
  unfold eT
  rw[f.1,f.2,Lb,bT,Gy]
  exact c
 ·exact BU d s t H (.ref a) (.ref a) u A n l z Q I rfl j k i ⟨a,b,rfl,m,f,λp y=>q p _ El (Gn y _)⟩
end
end Nd
namespace Ts
open PySem PyProof.Rows
def Tz:Bool->Keyed->Array Keyed->Nat->Nat->Nat->StateT Cb Sem (Option Nat):=sortPriv% PySem.Builtin.gallop
structure Cmp(prog:Bp)(w:World)(A:Cw)(s:Ak)(kd:Mt)(Ok:Keyed->Prop)(blt:Keyed->Keyed->Bool):Prop where
 run:∀(x y:Keyed) (Q:Bool->Ak->Prop) (E:Value->Ak->Prop),Ok x->Ok y->Q (blt x y) s->wpAny (model prog w) A (keyLt' kd x.1 y.1) Q E s
 irr:∀x,blt x x=false
 tr:∀x y z,blt x y=true->blt y z=true->blt x z=true
 neg:∀x y z,blt x z=true->blt x y=true\/blt y z=true
def le(blt:Keyed->Keyed->Bool)(x y:Keyed):Prop:=blt y x=false
section
variable{prog:Bp}{w:World}{A:Cw}{s:Ak}{d:Mt}{Ok:Keyed->Prop}{blt:Keyed->Keyed->Bool}
theorem Cmp.refl(C:Cmp prog w A s d Ok blt)(x:Keyed):le blt x x:=C.irr x
theorem Cmp.ofLt(C:Cmp prog w A s d Ok blt){x y:Keyed}(h:blt x y=true):le blt x y:=by
 unfold le
 cases q:blt y x with
 | false=>rfl
 | true=>have:=C.tr _ _ _ h q; rw[C.irr] at this; cases this
theorem Cmp.trans(C:Cmp prog w A s d Ok blt){x y z:Keyed}(h1:le blt x y)(a:le blt y z):le blt x z:=by
 unfold le at *
 cases q:blt z x with
 | false=>rfl
 | true =>
  rcases C.neg _ y _ q with h | h
  ·rw[a] at h; cases h
  ·rw[h1] at h; cases h
theorem Cmp.ltLe(C:Cmp prog w A s d Ok blt){x y z:Keyed}(h1:blt x y=true)(a:le blt y z):blt x z=true:=by
 unfold le at a
 rcases C.neg _ z _ h1 with h | h
 ·exact h
 ·rw[a] at h; cases h
theorem Cmp.leLt(C:Cmp prog w A s d Ok blt){x y z:Keyed}(h1:le blt x y)(a:blt y z=true):blt x z=true:=by
 unfold le at h1
 rcases C.neg _ x _ a with h | h
 ·rw[h1] at h; cases h
 ·exact h
variable{E:Value->Ak->Prop}
structure Kept(st st':Cb):Prop where
 kind:kindOf st'=kindOf st
 arr:arrOf st'=arrOf st
 pend:Bj st'=Bj st
 fail:Ms st'=Ms st
theorem Kept.refl(st:Cb):Kept st st:=⟨rfl,rfl,rfl,rfl⟩
theorem Kept.trans{a b c:Cb}(h:Kept a b)(k:Kept b c):Kept a c:=⟨k.kind.trans h.kind,k.arr.trans h.arr,k.pend.trans h.pend,k.fail.trans h.fail⟩
theorem nS(C:Cmp prog w A s d Ok blt){st:Cb}{x y:Keyed}{Q:Option Bool->Cb->Prop}(c:kindOf st=d)(a:Ok x)(b:Ok y)(h:Q (some (blt x y)) st):wpS (model prog w) A E s (lt' x y) Q st:=by
 rw[lt'_eq]
 refine Az (Od ?_)
 rw[c]
 exact Az (wpS_lift (Up (C.run x y _ _ a b ⟨rfl,Bo h⟩)))
theorem Gb{st:Cb}{xs:Array Keyed}{i:Nat}{p:Keyed}{Q:Keyed->Cb->Prop}(h:xs[i]? = some p)(q:Q p st):wpS (model prog w) A E s (elem' xs i) Q st:=by
 rw[elem'_eq,h]
 exact Bo q
def Tx(left:Bool)(a:Keyed)(b:Array Keyed)(base i:Nat):StateT Cb Sem (Option Bool):=do
 let x <- elem' b (base+i)
 if left then lt' x a else return (<- lt' a x).map (!·)
def uM(left:Bool)(c:Keyed)(d:Array Keyed)(base n a b:Nat):StateT Cb Sem (Option Nat):=do
 let mut lo:=a
 let mut hi:=b
 for _ in [0:n] do
  if lo ≥ hi then break
  let mid:=lo+(hi - lo) / 2
  let some up <- Tx left c d base mid | return none
  if up then lo:=mid+1 else hi:=mid
 return some hi
theorem sF(left:Bool)(a:Keyed)(b:Array Keyed)(base n hint:Nat):Tz left a b base n hint=(do
  let some right <- Tx left a b base hint | return none
  let mut last:=0
  let mut ofs:=1
  if right then
   let top:=n - hint
   for _ in [0:n] do
    if ofs ≥ top then break
    let some up <- Tx left a b base (hint+ofs) | return none
    if !up then break
    last:=ofs
    ofs:=2 * ofs+1
   uM left a b base n (hint+last+1) (hint+min ofs top)
  else
   let top:=hint+1
   for _ in [0:n] do
    if ofs ≥ top then break
    let some got <- Tx left a b base (hint - ofs) | return none
    if got then break
    last:=ofs
    ofs:=2 * ofs+1
   uM left a b base n (hint+1 - min ofs top) (hint - last)):=rfl
def Hn(blt:Keyed->Keyed->Bool)(left:Bool)(a x:Keyed):Bool:=if left then blt x a else !blt a x
structure Row(Ok:Keyed->Prop)(arr:Array Keyed)(base n:Nat)(el:Nat->Keyed):Prop where
 at_:∀i,i<n->arr[base+i]? = some (el i)
 ok:∀i,i<n->Ok (el i)
theorem Tu(C:Cmp prog w A s d Ok blt){st:Cb}{left:Bool}{a:Keyed}{b:Array Keyed}{base n i:Nat}{f:Nat->Keyed}(R:Row Ok b base n f)(ok:Ok a)(e:kindOf st=d)(c:i<n){Q:Option Bool->Cb->Prop}(h:Q (some (Hn blt left a (f i))) st):wpS (model prog w) A E s (Tx left a b base i) Q st:=by
 unfold Tx
 refine Az (Gb (R.at_ i c) ?_)
 cases left with
 | true =>
  rw[if_pos rfl]
  exact nS C e (R.ok i c) ok h
 | false =>
  rw[if_neg Cv]
  exact Az (nS C e ok (R.ok i c) (Bo h))
theorem vJ(C:Cmp prog w A s d Ok blt){st:Cb}{left:Bool}{a:Keyed}{u:Array Keyed}{base n lo g:Nat}{f:Nat->Keyed}(R:Row Ok u base n f)(ok:Ok a)(H:kindOf st=d)(mono:∀i j,i<=j->j<n->Hn blt left a (f j)=true->Hn blt left a (f i)=true)(h1:lo<=g)(K:g<=n)(F:∀i,i<lo->Hn blt left a (f i)=true)(D:∀i,g<=i->i<n->Hn blt left a (f i)=false){Q:Option Nat->Cb->Prop}(h:∀k,k<=n->(∀i,i<k->Hn blt left a (f i)=true)->(∀i,k<=i->i<n->Hn blt left a (f i)=false)->Q (some k) st):wpS (model prog w) A E s (uM left a u base n lo g) Q st:=by
 unfold uM
 refine Az (Ig (Ez (I:=λx c b=>∃l r,c=(none,l,r)/\b=st/\l<=r/\r<=n/\r - l+x<=n/\(∀i,i<l->Hn blt left a (f i)=true)/\(∀i,r<=i->i<n->Hn blt left a (f i)=false))
  (Q:=λc b=>∃r,c=(none,r,r)/\b=st/\r<=n/\(∀i,i<r->Hn blt left a (f i)=true)/\(∀i,r<=i->i<n->Hn blt left a (f i)=false)) ?_ ?_ ⟨lo,g,rfl,rfl,h1,K,by omega,F,D⟩) ?_)
 ·(intro x c b _ L v; obtain ⟨l,r,rfl,rfl,J,m,B,p,o⟩ := v)
  dsimp only
  by_cases t:l ≥ r
  ·rw[if_pos t]
   have e:l=r:=by omega
   subst e
   exact Bo ⟨l,rfl,rfl,m,p,o⟩
  ·rw[if_neg t]
   have z:l+(r - l) / 2<n:=by omega
   refine Az (Tu C R ok H z ?_)
   dsimp only
   cases y:Hn blt left a (f (l+(r - l) / 2)) with
   | true =>
    rw[if_pos rfl]
    exact Bo ⟨l+(r - l) / 2+1,r,rfl,rfl,by omega,m,by omega,λi g=>mono i _ (by omega) z y,o⟩
   | false =>
    rw[if_neg Cv]
    refine Bo ⟨l,l+(r - l) / 2,rfl,rfl,by omega,by omega,by omega,p,λi g G=>?_⟩
    cases q:Hn blt left a (f i) with
    | false=>rfl
    | true=>rw[mono _ i g G q] at y; cases y
 ·(intro c b v; obtain ⟨l,r,rfl,rfl,J,m,B,p,o⟩ := v)
  have e:l=r:=by
   have : max 0 n=n:=by omega
   rw[this] at B
   omega
  subst e
  exact ⟨l,rfl,rfl,m,p,o⟩
 ·(intro c b v; obtain ⟨r,rfl,rfl,m,p,o⟩ := v)
  exact Bo (h r m p o)
theorem Oy(C:Cmp prog w A s d Ok blt){st:Cb}{left:Bool}{a:Keyed}{F:Array Keyed}{base n hint:Nat}{f:Nat->Keyed}(R:Row Ok F base n f)(ok:Ok a)(D:kindOf st=d)(M:hint<n)(mono:∀i j,i<=j->j<n->Hn blt left a (f j)=true->Hn blt left a (f i)=true){Q:Option Nat->Cb->Prop}(h:∀k,k<=n->(∀i,i<k->Hn blt left a (f i)=true)->(∀i,k<=i->i<n->Hn blt left a (f i)=false)->Q (some k) st):wpS (model prog w) A E s (Tz left a F base n hint) Q st:=by
 have t:∀i j,i<=j->j<n->Hn blt left a (f i)=false->Hn blt left a (f j)=false:=λi j J O q=>by
  cases z:Hn blt left a (f j) with
  | false=>rfl
  | true=>rw[mono i j J O z] at q; cases q
 rw[sF]
 refine Az (Tu C R ok D M ?_)
 dsimp only
 cases L:Hn blt left a (f hint) with
 | true =>
  rw[if_pos rfl]
  refine Az (Ig (Ez (I:=λx c e=>∃b o,c=(none,b,o)/\e=st/\b<o/\x+1<=o/\hint+b<n/\Hn blt left a (f (hint+b))=true)
   (Q:=λc e=>∃b o,c=(none,b,o)/\e=st/\b<o/\hint+b<n/\Hn blt left a (f (hint+b))=true/\(o ≥ n - hint\/(hint+o<n/\Hn blt left a (f (hint+o))=false))) ?_ ?_
   ⟨0,1,rfl,rfl,by omega,by omega,by omega,L⟩) ?_)
  ·(intro x c e _ N r; obtain ⟨b,o,rfl,rfl,p,y,l,g⟩ := r)
   dsimp only
   by_cases v:o ≥ n - hint
   ·rw[if_pos v]
    exact Bo ⟨b,o,rfl,rfl,p,l,g,.inl v⟩
   ·rw[if_neg v]
    have B:hint+o<n:=by omega
    refine Az (Tu C R ok D B ?_)
    dsimp only
    cases m:Hn blt left a (f (hint+o)) with
    | true =>
     simp only[Kf,Bt,if_false]
     exact Bo ⟨o,2 * o+1,rfl,rfl,by omega,by omega,B,m⟩
    | false =>
     simp only[Bool.not_false,if_true]
     exact Bo ⟨b,o,rfl,rfl,p,l,g,.inr ⟨B,m⟩⟩
  ·(intro c e r; obtain ⟨b,o,rfl,rfl,p,y,l,g⟩ := r)
   have : max 0 n=n:=by omega
   rw[this] at y
   exact ⟨b,o,rfl,rfl,p,l,g,.inl (by omega)⟩
  ·(intro c e r; obtain ⟨b,o,rfl,rfl,p,l,g,u⟩ := r)
   dsimp only
   refine vJ C R ok D mono (by omega) (by omega) (λi G=>mono i _ (by omega) l g) (λi G H=>?_) h
   rcases u with u | ⟨u,K⟩
   ·exfalso; omega
   ·exact t _ i (by omega) H K
 | false =>
  rw[if_neg Cv]
  refine Az (Ig (Ez (I:=λx c e=>∃b o,c=(none,b,o)/\e=st/\b<o/\x+1<=o/\b<=hint/\Hn blt left a (f (hint - b))=false)
   (Q:=λc e=>∃b o,c=(none,b,o)/\e=st/\b<o/\b<=hint/\Hn blt left a (f (hint - b))=false/\(o ≥ hint+1\/(o<=hint/\Hn blt left a (f (hint - o))=true))) ?_ ?_
   ⟨0,1,rfl,rfl,by omega,by omega,by omega,L⟩) ?_)
  ·(intro x c e _ N r; obtain ⟨b,o,rfl,rfl,p,y,l,g⟩ := r)
   dsimp only
   by_cases v:o ≥ hint+1
   ·rw[if_pos v]
    exact Bo ⟨b,o,rfl,rfl,p,l,g,.inl v⟩
   ·rw[if_neg v]
    have B:hint - o<n:=by omega
    refine Az (Tu C R ok D B ?_)
    dsimp only
    cases m:Hn blt left a (f (hint - o)) with
    | true =>
     rw[if_pos rfl]
     exact Bo ⟨b,o,rfl,rfl,p,l,g,.inr ⟨by omega,m⟩⟩
    | false =>
     rw[if_neg Cv]
     exact Bo ⟨o,2 * o+1,rfl,rfl,by omega,by omega,by omega,m⟩
  ·(intro c e r; obtain ⟨b,o,rfl,rfl,p,y,l,g⟩ := r)
   have : max 0 n=n:=by omega
   rw[this] at y
   exact ⟨b,o,rfl,rfl,p,l,g,.inl (by omega)⟩
  ·(intro c e r; obtain ⟨b,o,rfl,rfl,p,l,g,u⟩ := r)
   dsimp only
   refine vJ C R ok D mono (by omega) (by omega) (λi G=>?_) (λi G H=>t _ i G H g) h
   rcases u with u | ⟨u,K⟩
   ·exfalso; omega
   ·exact mono i _ (by omega) (by omega) K
end
structure MI{α:Type}(R:α->α->Prop)(xs ys out:List α)(i j:Nat):Prop where
 perm:out.Perm (xs.take i++ys.take j)
 srt:out.Pairwise R
 lx:∀o∈out,∀z∈xs.drop i,R o z
 ly:∀o∈out,∀z∈ys.drop j,R o z
section
variable{c:Type}{R:c->c->Prop}{xs ys out:List c}{i j:Nat}
theorem gS{l:List c}{n:Nat}{a:c}(h:l[n]? = some a):l.drop n=a::l.drop (n+1):=by
 obtain ⟨b,e⟩:=Ai.mp h
 rw[Lm b,e]
theorem take_snoc{l:List c}{n:Nat}{a:c}(h:l[n]? = some a):l.take (n+1)=l.take n++[a]:=by
 rw[List.take_succ,h]; rfl
theorem MI.pushY(M:MI R xs ys out i j)(g:ys.Pairwise R){y:c}(d:ys[j]? = some y)(h:∀z∈xs.drop i,R y z):MI R xs ys (out++[y]) i (j+1):=by
 have b:=gS d
 have f:(y::ys.drop (j+1)).Pairwise R:=by rw[<- b]; exact Jl (Ja _ _) g
 obtain ⟨k,l⟩:=Ax.mp f
 refine ⟨?_,?_,λo ho z a=>?_,λo ho z a=>?_⟩
 ·rw[take_snoc d,<- Cr]
  exact M.perm.append_right _
 ·refine Et.mpr ⟨M.srt,Fj _ _,λo ho z a=>?_⟩
  have e:z=y:=by simpa using a
  rw[e]
  exact M.ly o ho y (by rw[b]; exact Ab)
 ·rcases Ba.mp ho with ho | ho
  ·exact M.lx o ho z a
  ·have e:o=y:=by simpa using ho
   rw[e]; exact h z a
 ·rcases Ba.mp ho with ho | ho
  ·exact M.ly o ho z (by rw[b]; exact Ad _ a)
  ·have e:o=y:=by simpa using ho
   rw[e]; exact k z a
theorem MI.pushX(M:MI R xs ys out i j)(k:xs.Pairwise R){x:c}(d:xs[i]? = some x)(h:∀z∈ys.drop j,R x z):MI R xs ys (out++[x]) (i+1) j:=by
 have b:=gS d
 have g:(x::xs.drop (i+1)).Pairwise R:=by rw[<- b]; exact Jl (Ja _ _) k
 obtain ⟨l,m⟩:=Ax.mp g
 refine ⟨?_,?_,λo ho z a=>?_,λo ho z a=>?_⟩
 ·rw[take_snoc d]
  have f:(out++[x]).Perm ((xs.take i++ys.take j)++[x]):=M.perm.append_right _
  refine f.trans ?_
  rw[Cr,Cr]
  exact Ju _ Em
 ·refine Et.mpr ⟨M.srt,Fj _ _,λo ho z a=>?_⟩
  have e:z=x:=by simpa using a
  rw[e]
  exact M.lx o ho x (by rw[b]; exact Ab)
 ·rcases Ba.mp ho with ho | ho
  ·exact M.lx o ho z (by rw[b]; exact Ad _ a)
  ·have e:o=x:=by simpa using ho
   rw[e]; exact l z a
 ·rcases Ba.mp ho with ho | ho
  ·exact M.ly o ho z a
  ·have e:o=x:=by simpa using ho
   rw[e]; exact h z a
theorem Tg{l:List c}{n k:Nat}{a:c}(h:l[n+k]? = some a):(l.drop n).take (k+1)=(l.drop n).take k++[a]:=take_snoc (by rw[Zr]; exact h)
theorem MI.blockX(M:MI R xs ys out i j)(b:xs.Pairwise R):∀k,i+k<=xs.length->(∀m,m<k->∀x,xs[i+m]? = some x->∀z∈ys.drop j,R x z)->MI R xs ys (out++(xs.drop i).take k) (i+k) j
 | 0,_,_=>by simpa using M
 | k+1,hk,h=>by
  have c:=MI.blockX M b k (by omega) λm d=>h m (by omega)
  obtain ⟨x,a⟩ : ∃x,xs[i+k]? = some x:=⟨xs[i+k],by simp⟩
  rw[Tg a,<- Cr]
  exact c.pushX b a (h k (by omega) x a)
theorem MI.blockY(M:MI R xs ys out i j)(b:ys.Pairwise R):∀k,j+k<=ys.length->(∀m,m<k->∀y,ys[j+m]? = some y->∀z∈xs.drop i,R y z)->MI R xs ys (out++(ys.drop j).take k) i (j+k)
 | 0,_,_=>by simpa using M
 | k+1,hk,h=>by
  have c:=MI.blockY M b k (by omega) λm d=>h m (by omega)
  obtain ⟨y,a⟩ : ∃y,ys[j+k]? = some y:=⟨ys[j+k],by simp⟩
  rw[Tg a,<- Cr]
  exact c.pushY b a (h k (by omega) y a)
theorem MI.endX(M:MI R xs ys out i j)(c:xs.Pairwise R)(a:ys.length<=j):(out++xs.drop i++ys.drop j).Perm (xs++ys)/\(out++xs.drop i++ys.drop j).Pairwise R:=by
 rw[tE a,Fl]
 constructor
 ·have d:(out++xs.drop i).Perm ((xs.take i++ys.take j)++xs.drop i):=M.perm.append_right _
  refine d.trans ?_
  rw[Eu a]
  have b:(xs.take i++ys++xs.drop i).Perm (xs.take i++(xs.drop i++ys)):=by
   rw[Cr]
   exact Ju _ Em
  refine b.trans ?_
  rw[<- Cr,Ij]
 ·exact Et.mpr ⟨M.srt,Jl (Ja _ _) c,M.lx⟩
theorem MI.endYX(M:MI R xs ys out i j)(g:xs.Pairwise R)(f:ys.Pairwise R)(h:∀y∈ys.drop j,∀x∈xs.drop i,R y x):(out++ys.drop j++xs.drop i).Perm (xs++ys)/\(out++ys.drop j++xs.drop i).Pairwise R:=by
 constructor
 ·have e:(out++(ys.drop j++xs.drop i)).Perm ((xs.take i++ys.take j)++(ys.drop j++xs.drop i)):=M.perm.append_right _
  rw[Cr]
  refine e.trans ?_
  rw[Cr,<- Cr (ys.take j),Ij]
  have d:(xs.take i++(ys++xs.drop i)).Perm (xs.take i++(xs.drop i++ys)):=Ju _ Em
  refine d.trans ?_
  rw[<- Cr,Ij]
 ·refine Et.mpr ⟨Et.mpr ⟨M.srt,Jl (Ja _ _) f,M.ly⟩,Jl (Ja _ _) g,λa ha b c=>?_⟩
  rcases Ba.mp ha with ha | ha
  ·exact M.lx a ha b c
  ·exact h a ha b c
end
def oE:Array Keyed->Array Keyed->StateT Cb Sem (Array Keyed):=sortPriv% PySem.Builtin.mergeLo
def bM:Nat->StateT Cb Sem Unit:=sortPriv% PySem.Builtin.setMinGallop
abbrev BQ(st:Cb)(g:Nat):Cb:=SortSt.mk' (kindOf st) (arrOf st) (Bj st) g (Ms st)
theorem rT(g:Nat):bM g=modify λst=>BQ st g:=rfl
theorem bR(p:Array Keyed)(i:Nat):(p.extract i p.size).toList=p.toList.drop i:=by
 rw[Oj,Ll,Eu]
 rw[Jq,Af]
 exact Ah _
theorem Xj(p:Array Keyed)(i k:Nat):(p.extract i (i+k)).toList=(p.toList.drop i).take k:=by
 rw[Oj,Ll,Nat.add_sub_cancel_left]
abbrev dn(p q out:Array Keyed)(i j:Nat):Array Keyed:=out++p.extract i p.size++q.extract j q.size
abbrev lst(p q out:Array Keyed)(i j:Nat):Array Keyed:=out++q.extract j q.size++p.extract i p.size
theorem Q0(p q out:Array Keyed)(i j:Nat):(dn p q out i j).toList=out.toList++p.toList.drop i++q.toList.drop j:=by
 rw[Ec,Ec,bR,bR]
theorem C2(p q out:Array Keyed)(i j:Nat):(lst p q out i j).toList=out.toList++q.toList.drop j++p.toList.drop i:=by
 rw[Ec,Ec,bR,bR]
abbrev U3:=Option (Array Keyed)×Array Keyed×Nat×Nat×Nat×Nat×Nat
def V9(p q out:Array Keyed)(i j g a k:Nat):StateT Cb Sem (ForInStep U3):=do
 let x <- elem' p i
 if (i+1+1 == p.size)=true then pure (Dg (some (lst p q (out.push x) (i+1) j),out.push x,i+1,j,g,a,k))
 else if (decide (a<7) && decide (k<7))=true then pure (Dg (none,out.push x,i+1,j,g,a,k))
 else pure (Ge (none,out.push x,i+1,j,g,a,k))
def X4(p q out:Array Keyed)(i j g a b:Nat):StateT Cb Sem (ForInStep U3):=do
 let y <- elem' q j
 if (j+1 == q.size)=true then pure (Dg (some (dn p q (out.push y) i (j+1)),out.push y,i,j+1,g,a,b))
 else do
  let x <- elem' p i
  let some k <- Tz true x q (j+1) (q.size - (j+1)) 0 | pure (Dg (some (dn p q (out.push y) i (j+1)),out.push y,i,j+1,g,a,b))
  if k > 0 then
   if (j+1+k == q.size)=true then pure (Dg (some (dn p q (out.push y++q.extract (j+1) (j+1+k)) i (j+1+k)),out.push y++q.extract (j+1) (j+1+k),i,j+1+k,g,a,k))
   else V9 p q (out.push y++q.extract (j+1) (j+1+k)) i (j+1+k) g a k
  else V9 p q (out.push y) i (j+1) g a k
def EU(p q out:Array Keyed)(i j g b a:Nat):StateT Cb Sem (ForInStep U3):=do
 bM g
 let y <- elem' q j
 let some k <- Tz false y p i (p.size - i) 0 | pure (Dg (some (dn p q out i j),out,i,j,g,b,a))
 if k > 0 then
  if (i+k+1 == p.size)=true then pure (Dg (some (lst p q (out++p.extract i (i+k)) (i+k) j),out++p.extract i (i+k),i+k,j,g,k,a))
  else if (i+k == p.size)=true then pure (Dg (some (dn p q (out++p.extract i (i+k)) (i+k) j),out++p.extract i (i+k),i+k,j,g,k,a))
  else X4 p q (out++p.extract i (i+k)) (i+k) j g k a
 else X4 p q out i j g k a
section
variable{prog:Bp}{w:World}{A:Cw}{s:Ak}{d:Mt}{Ok:Keyed->Prop}{blt:Keyed->Keyed->Bool}{E:Value->Ak->Prop}
theorem Tt{st:Cb}{x:String}{Q:Unit->Cb->Prop}(h:Q () st):wpS (model prog w) A E s (liftM (rule x):StateT Cb Sem Unit) Q st:=wpS_lift (fP ⟨rfl,h⟩)
theorem Uo{st:Cb}{g:Nat}{Q:Unit->Cb->Prop}(h:∀a,Kept st a->Q () a):wpS (model prog w) A E s (bM g) Q st:=by
 rw[rT]
 exact Ko (h _ ⟨rfl,rfl,rfl,rfl⟩)
structure Two(Ok:Keyed->Prop)(blt:Keyed->Keyed->Bool)(p q:Array Keyed)(x0 y0 xl:Keyed):Prop where
 op:∀x∈p.toList,Ok x
 oq:∀x∈q.toList,Ok x
 sp:p.toList.Pairwise (le blt)
 sq:q.toList.Pairwise (le blt)
 hx0:p[0]? = some x0
 hy0:q[0]? = some y0
 hxl:p[p.size - 1]? = some xl
 first:blt y0 x0=true
 last:∀y∈q.toList,blt y xl=true
abbrev sC(blt:Keyed->Keyed->Bool)(p q r:Array Keyed):Prop:=r.toList.Perm (p.toList++q.toList)/\r.toList.Pairwise (le blt)
theorem Ew{p:Array Keyed}{i:Nat}{x:Keyed}(h:p[i]? = some x):p.toList[i]? = some x:=by simpa using h
theorem Gh{p:Array Keyed}{i:Nat}(h:i<p.size):∃x,p[i]? = some x:=⟨p[i],by simp [h]⟩
theorem Kl{p:Array Keyed}{i:Nat}{x:Keyed}(h:p[i]? = some x):x∈p.toList:=Aw (Ew h)
theorem mZ{a:Type}{l:List a}{i:Nat}{z:a}(h:z∈l.drop i):∃k,l[i+k]? = some z:=by
 obtain ⟨k,b,e⟩:=Hf.mp h
 exact ⟨k,by rw[<- Zr,Bk b,e]⟩
theorem Lq(C:Cmp prog w A s d Ok blt){l:List Keyed}(g:l.Pairwise (le blt)){i j:Nat}{x y:Keyed}(k:i<=j)(b:l[i]? = some x)(a:l[j]? = some y):le blt x y:=by
 by_cases e:i=j
 ·subst e
  rw[b] at a
  cases a
  exact C.refl x
 ·obtain ⟨h,f⟩:=Ai.mp b
  obtain ⟨c,m⟩:=Ai.mp a
  have:=Bx.mp g i j h c (by omega)
  rw[f,m] at this
  exact this
theorem Py(C:Cmp prog w A s d Ok blt){l:List Keyed}(e:l.Pairwise (le blt)){i:Nat}{x y:Keyed}(c:l[i]? = some x)(h:le blt y x):∀z∈l.drop i,le blt y z:=λz b=>by
 obtain ⟨k,a⟩:=mZ b
 exact C.trans h (Lq C e (Nat.le_add_right i k) c a)
abbrev LI(blt:Keyed->Keyed->Bool)(p q out:Array Keyed)(i j:Nat):Prop:=MI (le blt) p.toList q.toList out.toList i j
theorem Ov(out:Array Keyed)(x:Keyed):(out.push x).toList=out.toList++[x]:=by simp
theorem Two.last_end(C:Cmp prog w A s d Ok blt){p q out:Array Keyed}{g c a:Keyed}(T:Two Ok blt p q g c a){i j:Nat}(M:LI blt p q out i j)(m:i+1=p.size):sC blt p q (lst p q out i j):=by
 have h:=M.endYX T.sp T.sq (λy f x l=>?_)
 ·rw[<- C2] at h
  exact h
 ·obtain ⟨k,b⟩:=mZ l
  have : k=0:=by
   have:=(Ai.mp b).1
   rw[Af] at this
   omega
  subst this
  have e:x=a:=by
   have:=Ew T.hxl
   rw[show p.size - 1=i+0 by omega,b] at this
   exact Cn this
  rw[e]
  exact C.ofLt (T.last y (Wc f))
theorem Two.done_end{p q out:Array Keyed}{a b c:Keyed}(T:Two Ok blt p q a b c){i j:Nat}(M:LI blt p q out i j)(d:q.size<=j):sC blt p q (dn p q out i j):=by
 have h:=M.endX T.sp (by rw[Af]; exact d)
 rw[<- Q0] at h
 exact h
def HB(blt:Keyed->Keyed->Bool)(p q:Array Keyed)(st:Cb)(n:Nat)(r:ForInStep U3)(a:Cb):Prop:=Kept st a/\match r with
 | .done (some r,_)=>sC blt p q r
 | .done (none,out,i,j,_)=>LI blt p q out i j/\i+1<p.size/\j<q.size/\n<i+j
 | .yield (none,out,i,j,_)=>LI blt p q out i j/\i+1<p.size/\j<q.size/\n<i+j
 | .yield (some _,_)=>False
theorem uG(C:Cmp prog w A s d Ok blt){p q out:Array Keyed}{o l m:Keyed}(T:Two Ok blt p q o l m){i j g e k n:Nat}{a st:Cb}(kp:Kept a st)(M:LI blt p q out i j)(t:i+1<p.size)(c:j<q.size)(u:n<=i+j){x:Keyed}(f:p[i]? = some x)(r:∀z∈q.toList.drop j,le blt x z):wpS (model prog w) A E s (V9 p q out i j g e k) (HB blt p q a n) st:=by
 unfold V9
 refine Az (Gb f ?_)
 have M1:LI blt p q (out.push x) (i+1) j:=by
  have:=M.pushX T.sp (Ew f) r
  rw[<- Ov] at this
  exact this
 by_cases b:i+1+1=p.size
 ·rw[if_pos (by rw[b]; exact beq_self_eq_true _)]
  exact Bo ⟨kp,T.last_end C M1 b⟩
 ·rw[if_neg (λz=>b (Ej z))]
  by_cases h:(decide (e<7) && decide (k<7))=true
  ·rw[if_pos h]
   exact Bo ⟨kp,M1,by omega,c,by omega⟩
  ·rw[if_neg h]
   exact Bo ⟨kp,M1,by omega,c,by omega⟩
theorem tJ(C:Cmp prog w A s d Ok blt){p q out:Array Keyed}{S V W:Keyed}(T:Two Ok blt p q S V W){i j g ac bc n:Nat}{l st:Cb}(kp:Kept l st)(X:kindOf st=d)(M:LI blt p q out i j)(H:i+1<p.size)(hj:j<q.size)(hn:n<=i+j){x y:Keyed}(h:p[i]? = some x)(K:q[j]? = some y)(B:blt y x=true):wpS (model prog w) A E s (X4 p q out i j g ac bc) (HB blt p q l n) st:=by
 unfold X4
 refine Az (Gb K ?_)
 have M1:LI blt p q (out.push y) i (j+1):=by
  have:=M.pushY T.sq (Ew K) (Py C T.sp (Ew h) (C.ofLt B))
  rw[<- Ov] at this
  exact this
 by_cases G:j+1=q.size
 ·rw[if_pos (by rw[G]; exact beq_self_eq_true _)]
  exact Bo ⟨kp,T.done_end M1 (by omega)⟩
 ·rw[if_neg (λz=>G (Ej z))]
  refine Az (Gb h ?_)
  have R:Row Ok q (j+1) (q.size - (j+1)) (λm=>q.getD (j+1+m) y):=⟨λm v=>?_,λm v=>?_⟩
  ·refine Az (Oy C R (T.op x (Kl h)) X (by omega) (λa b Z hb I=>?_) λk U Q F=>?_)
   ·obtain ⟨r,c⟩:=Gh (p:=q) (i:=j+1+a) (by omega)
    obtain ⟨P,J⟩:=Gh (p:=q) (i:=j+1+b) (by omega)
    have Y:q.getD (j+1+a) y=r:=by simp [Bw,c]
    have O:q.getD (j+1+b) y=P:=by simp [Bw,J]
    simp only[Y,O,Hn,if_true] at I ⊢
    exact C.leLt (Lq C T.sq (by omega) (Ew c) (Ew J)) I
   ·dsimp only
    have val:∀m f,q[j+1+m]? = some f->q.getD (j+1+m) y=f:=λm f e=>by simp [Bw,e]
    have M2:LI blt p q (out.push y++q.extract (j+1) (j+1+k)) i (j+1+k):=by
     have:=M1.blockY T.sq k (by rw[Af]; omega) (λm v f ey=>by
      have u:q[j+1+m]? = some f:=by simpa using ey
      have:=Q m v
      rw[val m f u] at this
      simp only[Hn,if_true] at this
      exact Py C T.sp (Ew h) (C.ofLt this))
     rw[<- Xj,<- Ec] at this
     exact this
    by_cases N:k > 0
    ·rw[if_pos N]
     by_cases L:j+1+k=q.size
     ·rw[if_pos (by rw[L]; exact beq_self_eq_true _)]
      exact Bo ⟨kp,T.done_end M2 (by omega)⟩
     ·rw[if_neg (λz=>L (Ej z))]
      obtain ⟨o,t⟩:=Gh (p:=q) (i:=j+1+k) (by omega)
      refine uG C T kp M2 H (by omega) (by omega) h (Py C T.sq (Ew t) ?_)
      have:=F k (Ah _) (by omega)
      rw[val k o t] at this
      have z:blt o x=false:=by simpa only [Hn,if_true] using this
      exact z
    ·rw[if_neg N]
     have D:k=0:=by omega
     subst D
     obtain ⟨o,t⟩:=Gh (p:=q) (i:=j+1) (by omega)
     refine uG C T kp M1 H (by omega) (by omega) h (Py C T.sq (Ew t) ?_)
     have:=F 0 (Ah _) (by omega)
     rw[val 0 o t] at this
     have z:blt o x=false:=by simpa only [Hn,if_true] using this
     exact z
  ·obtain ⟨r,c⟩:=Gh (p:=q) (i:=j+1+m) (by omega)
   rw[c]
   simp [Bw,c]
  ·obtain ⟨r,c⟩:=Gh (p:=q) (i:=j+1+m) (by omega)
   have : q.getD (j+1+m) y=r:=by simp [Bw,c]
   rw[this]
   exact T.oq r (Kl c)
theorem T4(C:Cmp prog w A s d Ok blt){p q out:Array Keyed}{W Z F:Keyed}(T:Two Ok blt p q W Z F){i j g ac bc n:Nat}{t st:Cb}(kp:Kept t st)(hk:kindOf st=d)(M:LI blt p q out i j)(hi:i+1<p.size)(I:j<q.size)(Y:n<=i+j):wpS (model prog w) A E s (EU p q out i j g ac bc) (HB blt p q t n) st:=by
 unfold EU
 refine Az (Uo λH v=>?_)
 have f:=kp.trans v
 have h:kindOf H=d:=v.kind.trans hk
 obtain ⟨y,r⟩:=Gh (p:=q) I
 refine Az (Gb r ?_)
 have val:∀m o,p[i+m]? = some o->p.getD (i+m) y=o:=λm o e=>by simp [Bw,e]
 have R:Row Ok p i (p.size - i) (λm=>p.getD (i+m) y):=⟨λm x=>by
  obtain ⟨l,c⟩:=Gh (p:=p) (i:=i+m) (by omega)
  rw[val m l c,c],λm x=>by
  obtain ⟨l,c⟩:=Gh (p:=p) (i:=i+m) (by omega)
  show Ok (p.getD (i+m) y)
  rw[val m l c]
  exact T.op l (Kl c)⟩
 refine Az (Oy C R (T.oq y (Kl r)) h (by omega) (λa b h0 hb N=>?_) λk X L V=>?_)
 ·obtain ⟨l,c⟩:=Gh (p:=p) (i:=i+a) (by omega)
  obtain ⟨S,O⟩:=Gh (p:=p) (i:=i+b) (by omega)
  simp only[val a l c,val b S O,Hn,Bt,if_false,Jb] at N ⊢
  exact C.trans (Lq C T.sp (by omega) (Ew c) (Ew O)) N
 ·dsimp only
  -- the last one is beyond y: so k does not reach it
  have U:i+k+1<=p.size:=by
   rcases Nat.lt_or_ge (i+k) p.size with z | z
   ·omega
   ·exfalso
    have:=L (p.size - 1 - i) (by omega)
    have e:p[i+(p.size - 1 - i)]? = some F:=by
     rw[show i+(p.size - 1 - i)=p.size - 1 by omega]
     exact T.hxl
    rw[val _ F e] at this
    simp only[Hn,Bt,if_false,T.last y (Kl r),Kf] at this
  have M1:LI blt p q (out++p.extract i (i+k)) (i+k) j:=by
   have:=M.blockX T.sp k (by rw[Af]; omega) (λm x o Q=>by
    have B:p[i+m]? = some o:=by simpa using Q
    have:=L m x
    rw[val m o B] at this
    simp only[Hn,Bt,if_false,Jb] at this
    exact Py C T.sq (Ew r) this)
   rw[<- Xj,<- Ec] at this
   exact this
  obtain ⟨K,D⟩:=Gh (p:=p) (i:=i+k) (by omega)
  have u:blt y K=true:=by
   have:=V k (Ah _) (by omega)
   rw[val k K D] at this
   simpa only [Hn,Bt,if_false,Zu] using this
  by_cases P:k > 0
  ·rw[if_pos P]
   by_cases J:i+k+1=p.size
   ·rw[if_pos (by rw[J]; exact beq_self_eq_true _)]
    exact Bo ⟨f,T.last_end C M1 J⟩
   ·rw[if_neg (λz=>J (Ej z)),if_neg (λz=>by have:=Ej z; omega)]
    exact tJ C T f h M1 (by omega) I (by omega) D r u
  ·rw[if_neg P]
   have G:k=0:=by omega
   subst G
   exact tJ C T f h M hi I Y D r u
theorem rX(C:Cmp prog w A s d Ok blt){p q:Array Keyed}{x0 W xl:Keyed}(T:Two Ok blt p q x0 W xl){st:Cb}(X:kindOf st=d){Q:Array Keyed->Cb->Prop}(h:∀r a,Kept st a->sC blt p q r->Q r a):wpS (model prog w) A E s (oE p q) Q st:=by
 have p0:0<p.size:=by
  have:=(Ii.mp T.hx0).1
  exact this
 have q0:0<q.size:=by
  have:=(Ii.mp T.hy0).1
  exact this
 have S:LI blt p q #[W] 0 1:=by
  have m:LI blt p q #[] 0 0:=⟨by simp,by simp,λo P=>by simp at P,λo P=>by simp at P⟩
  have:=m.pushY T.sq (Ew T.hy0) (Py C T.sp (Ew T.hx0) (C.ofLt T.first))
  simpa using this
 unfold oE
 refine Az (Tt ?_)
 refine Az (Gb T.hy0 ?_)
 dsimp only
 by_cases Y:1=q.size
 ·rw[if_pos (by rw[<- Y]; rfl)]
  exact Bo (h _ _ (Kept.refl _) (T.done_end S (by omega)))
 rw[if_neg (λz=>Y (Ej z))]
 by_cases h2:0+1=p.size
 ·rw[if_pos (by rw[<- h2]; rfl)]
  exact Bo (h _ _ (Kept.refl _) (T.last_end C S (by omega)))
 rw[if_neg (λz=>h2 (Ej z))]
 refine Az (Od ?_)
 refine Az (Ig (Ez
  (I:=λx c a=>Kept st a/\∃out i j g,c=(none,out,i,j,g)/\LI blt p q out i j/\i+1<p.size/\j<q.size/\x+1<=i+j)
  (Q:=λc a=>Kept st a/\∃r Gg,c=(some r,Gg)/\sC blt p q r) ?_ ?_ ⟨Kept.refl _,_,0,1,_,rfl,S,by omega,by omega,by omega⟩) ?_)
 ·(intro x c B _ F u; obtain ⟨t,out,i,j,g,rfl,M,n,l,v⟩ := u)
  dsimp only
  -- one by one
  refine Az (Ig (Ez
   (I:=λ_ c a=>a=B/\∃out i j e f,c=(none,out,i,j,e,f)/\LI blt p q out i j/\i+1<p.size/\j<q.size/\x+1<=i+j)
   (Q:=λc a=>a=B/\((∃r Gg,c=(some r,Gg)/\sC blt p q r)\/∃out i j e f,c=(none,out,i,j,e,f)/\LI blt p q out i j/\i+1<p.size/\j<q.size/\x+1<=i+j)) ?_ ?_ ⟨rfl,out,i,j,0,0,rfl,M,n,l,v⟩) ?_)
  ·(intro z c H _ hz u; obtain ⟨rfl,out,i,j,e,f,rfl,M,n,l,v⟩ := u)
   dsimp only
   obtain ⟨L,G⟩:=Gh (p:=q) l
   obtain ⟨O,F⟩:=Gh (p:=p) (i:=i) (by omega)
   refine Az (Gb G ?_)
   refine Az (Gb F ?_)
   refine Az (nS C (t.kind.trans X) (T.oq L (Kl G)) (T.op O (Kl F)) ?_)
   dsimp only
   cases U:blt L O with
   | true =>
    rw[if_pos rfl]
    refine Az (Gb G ?_)
    have M1:LI blt p q (out.push L) i (j+1):=by
     have:=M.pushY T.sq (Ew G) (Py C T.sp (Ew F) (C.ofLt U))
     rw[<- Ov] at this
     exact this
    by_cases K:j+1=q.size
    ·rw[if_pos (by rw[K]; exact beq_self_eq_true _)]
     exact Bo ⟨rfl,.inl ⟨_,_,rfl,T.done_end M1 (by omega)⟩⟩
    ·rw[if_neg (λz=>K (Ej z))]
     split
     ·exact Bo ⟨rfl,.inr ⟨_,_,_,_,_,rfl,M1,n,by omega,by omega⟩⟩
     ·exact Bo ⟨rfl,_,_,_,_,_,rfl,M1,n,by omega,by omega⟩
   | false =>
    rw[if_neg Cv]
    refine Az (Gb F ?_)
    have M1:LI blt p q (out.push O) (i+1) j:=by
     have:=M.pushX T.sp (Ew F) (Py C T.sq (Ew G) U)
     rw[<- Ov] at this
     exact this
    by_cases K:i+1+1=p.size
    ·rw[if_pos (by rw[K]; exact beq_self_eq_true _)]
     exact Bo ⟨rfl,.inl ⟨_,_,rfl,T.last_end C M1 (by omega)⟩⟩
    ·rw[if_neg (λz=>K (Ej z))]
     split
     ·exact Bo ⟨rfl,.inr ⟨_,_,_,_,_,rfl,M1,by omega,l,by omega⟩⟩
     ·exact Bo ⟨rfl,_,_,_,_,_,rfl,M1,by omega,l,by omega⟩
  ·(intro c H u; obtain ⟨rfl,out,i,j,e,f,rfl,M⟩ := u)
   exact ⟨rfl,.inr ⟨out,i,j,e,f,rfl,M⟩⟩
  ·rintro c H ⟨rfl,hc⟩
   rcases hc with hc | hc
   ·obtain ⟨r,Gg,rfl,b⟩:=hc
    exact Bo ⟨t,r,_,rfl,b⟩
   ·obtain ⟨out,i,j,e,f,rfl,M,n,l,v⟩:=hc
    dsimp only
    refine Az (Tt ?_)
    -- the gallop
    refine Az (Ig (Ez
     (I:=λy c a=>Kept st a/\∃out i j g e f,c=(none,out,i,j,g,e,f)/\LI blt p q out i j/\i+1<p.size/\j<q.size/\(if y=0 then x+1<=i+j else x+2<=i+j))
     (Q:=λc a=>Kept st a/\((∃r Gg,c=(some r,Gg)/\sC blt p q r)\/∃out i j g e f,c=(none,out,i,j,g,e,f)/\LI blt p q out i j/\i+1<p.size/\j<q.size/\x+2<=i+j)) ?_ ?_
     ⟨t,out,i,j,_,e,f,rfl,M,n,l,by rw[if_pos rfl]; exact v⟩) ?_)
    ·(intro y c Uy _ G u; obtain ⟨k,out,i,j,g,e,f,rfl,M,n,l,v⟩ := u)
     have N:x+1<=i+j:=by split at v <;> omega
     have J:∀V,wpS (model prog w) A E s (EU p q out i j V e f) (HB blt p q st (x+1)) Uy:=λV=>T4 C T k (k.kind.trans X) M n l N
     dsimp only
     refine Ig (?_:wpS (model prog w) A E s _ (HB blt p q st (x+1)) Uy) λr R b=>?_
     ·by_cases Z:g > 1
      ·rw[if_pos Z]
       exact J _
      ·rw[if_neg Z]
       exact J _
     ·obtain ⟨D,b⟩:=b
      match r,b with
      | .done (some r,Gg),b=>exact ⟨D,.inl ⟨r,Gg,rfl,b⟩⟩
      | .done (none,out,i,j,g,e,f),b=>exact ⟨D,.inr ⟨out,i,j,g,e,f,rfl,b.1,b.2.1,b.2.2.1,by have:=b.2.2.2; omega⟩⟩
      | .yield (none,out,i,j,g,e,f),b=>exact ⟨D,out,i,j,g,e,f,rfl,b.1,b.2.1,b.2.2.1,by rw[if_neg (by omega)]; have:=b.2.2.2; omega⟩
    ·(intro c Uy u; obtain ⟨k,out,i,j,g,e,f,rfl,M,n,l,v⟩ := u)
     rw[if_neg (by omega)] at v
     exact ⟨k,.inr ⟨out,i,j,g,e,f,rfl,M,n,l,v⟩⟩
    ·rintro c Uy ⟨k,hc⟩
     rcases hc with hc | hc
     ·obtain ⟨r,Gg,rfl,b⟩:=hc
      exact Bo ⟨k,r,_,rfl,b⟩
     ·obtain ⟨out,i,j,g,e,f,rfl,M,n,l,v⟩:=hc
      dsimp only
      refine Az (Uo λR D=>?_)
      exact Bo ⟨k.trans D,out,i,j,_,rfl,M,n,l,by omega⟩
 ·(intro c B u; obtain ⟨t,out,i,j,g,rfl,M,n,l,v⟩ := u)
  exfalso
  have : max 0 (p.size+q.size)=p.size+q.size:=by omega
  rw[this] at v
  omega
 ·(intro c B u; obtain ⟨t,r,Gg,rfl,b⟩ := u)
  exact Bo (h r B t b)
end
def nX:Array Keyed->Array Keyed->StateT Cb Sem (Array Keyed):=sortPriv% PySem.Builtin.mergeHi
abbrev BB(p q out:Array Keyed)(m n:Nat):Array Keyed:=p.extract 0 m++q.extract 0 n++out.reverse
abbrev JM(p q out:Array Keyed)(m n:Nat):Array Keyed:=q.extract 0 n++p.extract 0 m++out.reverse
abbrev V6:=Option (Array Keyed)×Nat×Nat×Array Keyed×Nat×Nat×Nat
def T2(p q out:Array Keyed)(m n g a k:Nat):StateT Cb Sem (ForInStep V6):=do
 let x <- elem' p (m - 1)
 if (m - 1 == 0)=true then pure (Dg (some (BB p q (out.push x) (m - 1) n),m - 1,n,out.push x,g,a,k))
 else if (decide (a<7) && decide (k<7))=true then pure (Dg (none,m - 1,n,out.push x,g,a,k))
 else pure (Ge (none,m - 1,n,out.push x,g,a,k))
def P3(p q out:Array Keyed)(m n g a b:Nat):StateT Cb Sem (ForInStep V6):=do
 let y <- elem' q (n - 1)
 if (n - 1 == 1)=true then pure (Dg (some (JM p q (out.push y) m (n - 1)),m,n - 1,out.push y,g,a,b))
 else do
  let x <- elem' p (m - 1)
  let some t <- Tz true x q 0 (n - 1) (n - 1 - 1) | pure (Dg (some (BB p q (out.push y) m (n - 1)),m,n - 1,out.push y,g,a,b))
  if n - 1 - t > 0 then
   if (t == 1)=true then pure (Dg (some (JM p q (out.push y++(q.extract t (n - 1)).reverse) m t),m,t,out.push y++(q.extract t (n - 1)).reverse,g,a,n - 1 - t))
   else if (t == 0)=true then pure (Dg (some (BB p q (out.push y++(q.extract t (n - 1)).reverse) m t),m,t,out.push y++(q.extract t (n - 1)).reverse,g,a,n - 1 - t))
   else T2 p q (out.push y++(q.extract t (n - 1)).reverse) m t g a (n - 1 - t)
  else T2 p q (out.push y) m (n - 1) g a (n - 1 - t)
def BI(p q out:Array Keyed)(m n g b a:Nat):StateT Cb Sem (ForInStep V6):=do
 bM g
 let y <- elem' q (n - 1)
 let some t <- Tz false y p 0 m (m - 1) | pure (Dg (some (BB p q out m n),m,n,out,g,b,a))
 if m - t > 0 then
  if (t == 0)=true then pure (Dg (some (BB p q (out++(p.extract t m).reverse) t n),t,n,out++(p.extract t m).reverse,g,m - t,a))
  else P3 p q (out++(p.extract t m).reverse) t n g (m - t) a
 else P3 p q out m n g (m - t) a
section
variable{a:Type}{R:a->a->Prop}{xs ys out:List a}{i j:Nat}
theorem MI.swap(M:MI R xs ys out i j):MI R ys xs out j i:=⟨M.perm.trans Em,M.srt,M.ly,M.lx⟩
theorem MI.endXY(M:MI R xs ys out i j)(b:xs.Pairwise R)(a:ys.Pairwise R)(h:∀x∈xs.drop i,∀y∈ys.drop j,R x y):(out++xs.drop i++ys.drop j).Perm (xs++ys)/\(out++xs.drop i++ys.drop j).Pairwise R:=by
 have:=M.swap.endYX a b h
 exact ⟨this.1.trans Em,this.2⟩
end
abbrev ge(blt:Keyed->Keyed->Bool)(x y:Keyed):Prop:=le blt y x
abbrev HI(blt:Keyed->Keyed->Bool)(p q out:Array Keyed)(m n:Nat):Prop:=MI (ge blt) p.toList.reverse q.toList.reverse out.toList (p.size - m) (q.size - n)
theorem Ki(p:Array Keyed){m:Nat}(h:m<=p.size):p.toList.reverse.drop (p.size - m)=(p.toList.take m).reverse:=by
 rw[List.drop_reverse,Af]
 congr 2
 omega
theorem r0{p:Array Keyed}{m:Nat}{x:Keyed}(h0:0<m)(h:m<=p.size)(e:p[m - 1]? = some x):p.toList.reverse[p.size - m]? = some x:=by
 rw[Vd (by rw[Af]; omega),Af,show p.size - 1 - (p.size - m)=m - 1 by omega]
 exact Ew e
theorem V1(p:Array Keyed)(m:Nat):(p.extract 0 m).toList=p.toList.take m:=by
 rw[Oj,Ll,Lb,bT]
theorem IX(p:Array Keyed){t m:Nat}(h1:t<=m)(a:m<=p.size):(p.extract t m).reverse.toList=(p.toList.reverse.drop (p.size - m)).take (m - t):=by
 rw[Ki p a,List.take_reverse,Vl,Oj,Ll,Cy,Af,List.drop_take]
 congr 2
 ·omega
 ·congr 1
  omega
section
variable{prog:Bp}{w:World}{A:Cw}{s:Ak}{d:Mt}{Ok:Keyed->Prop}{blt:Keyed->Keyed->Bool}{E:Value->Ak->Prop}
theorem Kh{l:List Keyed}(h:l.Pairwise (le blt)):l.reverse.Pairwise (ge blt):=Vb.mpr h
theorem Two.dn_end{p q out:Array Keyed}{j g i:Keyed}(T:Two Ok blt p q j g i){m n:Nat}(M:HI blt p q out m n)(c:m<=p.size)(f:n<=q.size)(h:m=0\/n=0):sC blt p q (BB p q out m n):=by
 have a:=M.endYX (Kh T.sp) (Kh T.sq) (λy b x d=>by
  rw[Ki p c] at d
  rw[Ki q f] at b
  rcases h with h | h
  ·subst h; simp at d
  ·subst h; simp at b)
 rw[Ki p c,Ki q f] at a
 have e:(BB p q out m n).toList=(out.toList++(q.toList.take n).reverse++(p.toList.take m).reverse).reverse:=by
  rw[Ec,Ec,V1,V1,Vl]
  simp
 refine ⟨?_,?_⟩
 ·rw[e]
  refine (Iv _).trans (a.1.trans ?_)
  exact List.Perm.append (Iv _) (Iv _)
 ·rw[e]
  exact Vb.mpr a.2
theorem Two.fs_end(C:Cmp prog w A s d Ok blt){p q out:Array Keyed}{t h r:Keyed}(T:Two Ok blt p q t h r){m n:Nat}(M:HI blt p q out m n)(j:m<=p.size)(v:n=1)(l:1<=q.size):sC blt p q (JM p q out m n):=by
 subst v
 have c:=M.endXY (Kh T.sp) (Kh T.sq) (λx o y i=>by
  rw[Ki p j] at o
  rw[Ki q l] at i
  have u:y=h:=by
   have : y∈q.toList.take 1:=Li.mp i
   obtain ⟨k,a,e⟩:=Hf.mp this
   have g:k=0:=by
    rw[Cy] at a
    omega
   subst g
   have b:q.toList[0]? = some y:=by
    rw[<- e,<- Bk a,Hb (by omega)]
   rw[Ew T.hy0] at b
   exact (Cn b).symm
  rw[u]
  have f:x∈p.toList:=List.mem_of_mem_take (Li.mp o)
  obtain ⟨k,a,e⟩:=Hf.mp f
  have b:p.toList[k]? = some x:=by rw[<- e,Bk a]
  exact C.trans (C.ofLt T.first) (Lq C T.sp (Ds k) (Ew T.hx0) b))
 rw[Ki p j,Ki q l] at c
 have e:(JM p q out m 1).toList=(out.toList++(p.toList.take m).reverse++(q.toList.take 1).reverse).reverse:=by
  rw[Ec,Ec,V1,V1,Vl]
  simp
 refine ⟨?_,?_⟩
 ·rw[e]
  refine (Iv _).trans (c.1.trans ?_)
  exact List.Perm.append (Iv _) (Iv _)
 ·rw[e]
  exact Vb.mpr c.2
theorem Um(C:Cmp prog w A s d Ok blt){p:Array Keyed}(sp:p.toList.Pairwise (le blt)){m:Nat}{x y:Keyed}(h0:0<m)(f:m<=p.size)(g:p[m - 1]? = some x)(h:le blt x y):∀z∈p.toList.reverse.drop (p.size - m),ge blt y z:=λz b=>by
 rw[Ki p f] at b
 obtain ⟨k,a,e⟩:=Hf.mp (Li.mp b)
 have c:p.toList[k]? = some z:=by
  rw[Cy] at a
  rw[<- e,<- Bk (by rw[Cy]; exact a),Hb (by omega)]
 rw[Cy] at a
 exact C.trans (Lq C sp (by omega) c (Ew g)) h
theorem HI.pushX(C:Cmp prog w A s d Ok blt){p q out:Array Keyed}{e a b:Keyed}(T:Two Ok blt p q e a b){m n:Nat}(M:HI blt p q out m n)(h0:0<m)(c:m<=p.size){x:Keyed}(f:p[m - 1]? = some x)(h:∀z∈q.toList.reverse.drop (q.size - n),ge blt x z):HI blt p q (out.push x) (m - 1) n:=by
 have:=MI.pushX M (Kh T.sp) (r0 h0 c f) h
 rw[<- Ov,show p.size - m+1=p.size - (m - 1) by omega] at this
 exact this
theorem HI.pushY(C:Cmp prog w A s d Ok blt){p q out:Array Keyed}{e a b:Keyed}(T:Two Ok blt p q e a b){m n:Nat}(M:HI blt p q out m n)(h0:0<n)(f:n<=q.size){y:Keyed}(c:q[n - 1]? = some y)(h:∀z∈p.toList.reverse.drop (p.size - m),ge blt y z):HI blt p q (out.push y) m (n - 1):=by
 have:=MI.pushY M (Kh T.sq) (r0 h0 f c) h
 rw[<- Ov,show q.size - n+1=q.size - (n - 1) by omega] at this
 exact this
def HM(blt:Keyed->Keyed->Bool)(p q:Array Keyed)(st:Cb)(b:Nat)(r:ForInStep V6)(a:Cb):Prop:=Kept st a/\match r with
 | .done (some r,_)=>sC blt p q r
 | .done (none,m,n,out,_)=>HI blt p q out m n/\0<m/\m<=p.size/\1<n/\n<=q.size/\m+n<b
 | .yield (none,m,n,out,_)=>HI blt p q out m n/\0<m/\m<=p.size/\1<n/\n<=q.size/\m+n<b
 | .yield (some _,_)=>False
theorem tM(C:Cmp prog w A s d Ok blt){p q out:Array Keyed}{t l o:Keyed}(T:Two Ok blt p q t l o){m n g f k b:Nat}{a st:Cb}(kp:Kept a st)(M:HI blt p q out m n)(u:0<m)(r:m<=p.size)(i:1<n)(e:n<=q.size)(hb:m+n<=b){x:Keyed}(h:p[m - 1]? = some x)(v:∀z∈q.toList.reverse.drop (q.size - n),ge blt x z):wpS (model prog w) A E s (T2 p q out m n g f k) (HM blt p q a b) st:=by
 unfold T2
 refine Az (Gb h ?_)
 have M1:=HI.pushX C T M u r h v
 by_cases c:m - 1=0
 ·rw[if_pos (by rw[c]; rfl)]
  exact Bo ⟨kp,T.dn_end M1 (by omega) e (.inl c)⟩
 ·rw[if_neg (λz=>c (Ej z))]
  by_cases j:(decide (f<7) && decide (k<7))=true
  ·rw[if_pos j]
   exact Bo ⟨kp,M1,by omega,by omega,i,e,by omega⟩
  ·rw[if_neg j]
   exact Bo ⟨kp,M1,by omega,by omega,i,e,by omega⟩
theorem vM(C:Cmp prog w A s d Ok blt){p q out:Array Keyed}{W Y Z:Keyed}(T:Two Ok blt p q W Y Z){m n g ac bc b:Nat}{u st:Cb}(kp:Kept u st)(hk:kindOf st=d)(M:HI blt p q out m n)(B:0<m)(l:m<=p.size)(n0:1<n)(X:n<=q.size)(hb:m+n<=b){x y:Keyed}(r:p[m - 1]? = some x)(O:q[n - 1]? = some y)(G:le blt x y):wpS (model prog w) A E s (P3 p q out m n g ac bc) (HM blt p q u b) st:=by
 unfold P3
 refine Az (Gb O ?_)
 have M1:=HI.pushY C T M (by omega) X O (Um C T.sp B l r G)
 by_cases F:n - 1=1
 ·rw[if_pos (by rw[F]; rfl)]
  exact Bo ⟨kp,T.fs_end C M1 l F (by omega)⟩
 rw[if_neg (λz=>F (Ej z))]
 refine Az (Gb r ?_)
 have val:∀i j,q[i]? = some j->q.getD (0+i) y=j:=λi j e=>by rw[Ie]; simp [Bw,e]
 have R:Row Ok q 0 (n - 1) (λi=>q.getD (0+i) y):=⟨λi L=>by
  obtain ⟨o,h⟩:=Gh (p:=q) (i:=i) (by omega)
  rw[val i o h,Ie,h],λi L=>by
  obtain ⟨o,h⟩:=Gh (p:=q) (i:=i) (by omega)
  show Ok (q.getD (0+i) y)
  rw[val i o h]
  exact T.oq o (Kl h)⟩
 refine Az (Oy C R (T.op x (Kl r)) hk (by omega) (λa c H hc N=>?_) λt ht V U=>?_)
 ·obtain ⟨o,h⟩:=Gh (p:=q) (i:=a) (by omega)
  obtain ⟨S,J⟩:=Gh (p:=q) (i:=c) (by omega)
  simp only[val a o h,val c S J,Hn,if_true] at N ⊢
  exact C.leLt (Lq C T.sq H (Ew h) (Ew J)) N
 dsimp only
 have M2:HI blt p q (out.push y++(q.extract t (n - 1)).reverse) m t:=by
  have:=MI.blockY M1 (Kh T.sq) (n - 1 - t) (by rw[Hv,Af]; omega) (λi L j P=>by
   have e1:q[n - 1 - i - 1]? = some j:=by
    rw[Vd (by rw[Af]; omega),Af,show q.size - 1 - (q.size - (n - 1)+i)=n - 1 - i - 1 by omega] at P
    simpa using P
   have:=U (n - 1 - i - 1) (by omega) (by omega)
   rw[val _ j e1] at this
   have z:blt j x=false:=by simpa only [Hn,if_true] using this
   exact Um C T.sp B l r z)
  rw[<- IX q (by omega) (by omega),<- Ec,show q.size - (n - 1)+(n - 1 - t)=q.size - t by omega] at this
  exact this
 -- what is left of q is f x
 have f:∀z∈q.toList.reverse.drop (q.size - t),ge blt x z:=λz K=>by
  rw[Ki q (by omega)] at K
  obtain ⟨k,v,e⟩:=Hf.mp (Li.mp K)
  rw[Cy] at v
  have e2:q.toList[k]? = some z:=by
   rw[<- e,<- Bk (by rw[Cy]; exact v),Hb (by omega)]
  have e3:q[k]? = some z:=by simpa using e2
  have:=V k (by omega)
  rw[val k z e3] at this
  exact C.ofLt (by simpa only [Hn,if_true] using this)
 by_cases Q:n - 1 - t > 0
 ·rw[if_pos Q]
  by_cases I:t=1
  ·rw[if_pos (by rw[I]; rfl)]
   exact Bo ⟨kp,T.fs_end C M2 l I (by omega)⟩
  ·rw[if_neg (λz=>I (Ej z))]
   by_cases D:t=0
   ·rw[if_pos (by rw[D]; rfl)]
    exact Bo ⟨kp,T.dn_end M2 l (by omega) (.inr D)⟩
   ·rw[if_neg (λz=>D (Ej z))]
    exact tM C T kp M2 B l (by omega) (by omega) (by omega) r f
 ·rw[if_neg Q]
  have et:t=n - 1:=by omega
  rw[et] at f
  exact tM C T kp M1 B l (by omega) (by omega) (by omega) r f
theorem Q5(C:Cmp prog w A s d Ok blt){p q out:Array Keyed}{V W X:Keyed}(T:Two Ok blt p q V W X){m n g ac bc b:Nat}{u st:Cb}(kp:Kept u st)(Y:kindOf st=d)(M:HI blt p q out m n)(L:0<m)(K:m<=p.size)(N:1<n)(D:n<=q.size)(hb:m+n<=b):wpS (model prog w) A E s (BI p q out m n g ac bc) (HM blt p q u b) st:=by
 unfold BI
 refine Az (Uo λG v=>?_)
 have j:=kp.trans v
 have k:kindOf G=d:=v.kind.trans Y
 obtain ⟨y,B⟩:=Gh (p:=q) (i:=n - 1) (by omega)
 refine Az (Gb B ?_)
 have val:∀i l,p[i]? = some l->p.getD (0+i) y=l:=λi l e=>by rw[Ie]; simp [Bw,e]
 have R:Row Ok p 0 m (λi=>p.getD (0+i) y):=⟨λi O=>by
  obtain ⟨r,h⟩:=Gh (p:=p) (i:=i) (by omega)
  rw[val i r h,Ie,h],λi O=>by
  obtain ⟨r,h⟩:=Gh (p:=p) (i:=i) (by omega)
  show Ok (p.getD (0+i) y)
  rw[val i r h]
  exact T.op r (Kl h)⟩
 refine Az (Oy C R (T.oq y (Kl B)) k (by omega) (λa c F hc P=>?_) λt ht U S=>?_)
 ·obtain ⟨r,h⟩:=Gh (p:=p) (i:=a) (by omega)
  obtain ⟨xc,J⟩:=Gh (p:=p) (i:=c) (by omega)
  simp only[val a r h,val c xc J,Hn,Bt,if_false,Jb] at P ⊢
  exact C.trans (Lq C T.sp F (Ew h) (Ew J)) P
 dsimp only
 have M1:HI blt p q (out++(p.extract t m).reverse) t n:=by
  have:=MI.blockX M (Kh T.sp) (m - t) (by rw[Hv,Af]; omega) (λi O l I=>by
   have e1:p[m - i - 1]? = some l:=by
    rw[Vd (by rw[Af]; omega),Af,show p.size - 1 - (p.size - m+i)=m - i - 1 by omega] at I
    simpa using I
   have:=S (m - i - 1) (by omega) (by omega)
   rw[val _ l e1] at this
   have z:blt y l=true:=by simpa only [Hn,Bt,if_false,Zu] using this
   exact Um C T.sq (by omega) D B (C.ofLt z))
  rw[<- IX p (by omega) K,<- Ec,show p.size - m+(m - t)=p.size - t by omega] at this
  exact this
 have f:∀x,0<t->p[t - 1]? = some x->le blt x y:=λx h0 o=>by
  have:=U (t - 1) (by omega)
  rw[val _ x o] at this
  have z:blt y x=false:=by simpa only [Hn,Bt,if_false,Jb] using this
  exact z
 by_cases Q:m - t > 0
 ·rw[if_pos Q]
  by_cases H:t=0
  ·rw[if_pos (by rw[H]; rfl)]
   exact Bo ⟨j,T.dn_end M1 (by omega) D (.inl H)⟩
  ·rw[if_neg (λz=>H (Ej z))]
   obtain ⟨x,o⟩:=Gh (p:=p) (i:=t - 1) (by omega)
   exact vM C T j k M1 (by omega) (by omega) N D (by omega) o B (f x (by omega) o)
 ·rw[if_neg Q]
  have Z:t=m:=by omega
  subst Z
  obtain ⟨x,o⟩:=Gh (p:=p) (i:=t - 1) (by omega)
  exact vM C T j k M L K N D hb o B (f x L o)
theorem rZ(C:Cmp prog w A s d Ok blt){p q:Array Keyed}{x0 y0 xl:Keyed}(T:Two Ok blt p q x0 y0 xl){st:Cb}(hk:kindOf st=d){Q:Array Keyed->Cb->Prop}(h:∀r a,Kept st a->sC blt p q r->Q r a):wpS (model prog w) A E s (nX p q) Q st:=by
 have p0:0<p.size:=(Ii.mp T.hx0).1
 have q0:0<q.size:=(Ii.mp T.hy0).1
 obtain ⟨yl,R⟩:=Gh (p:=q) (i:=q.size - 1) (by omega)
 have W:HI blt p q #[xl] (p.size - 1) q.size:=by
  have m:HI blt p q #[] p.size q.size:=⟨by simp,by simp,λo S=>by simp at S,λo S=>by simp at S⟩
  have:=HI.pushX C T m p0 (Ah _) T.hxl (Um C T.sq q0 (Ah _) R (C.ofLt (T.last yl (Kl R))))
  simpa using this
 unfold nX
 refine Az (Tt ?_)
 refine Az (Gb T.hxl ?_)
 dsimp only
 by_cases U:p.size - 1=0
 ·rw[if_pos (by rw[U]; rfl)]
  exact Bo (h _ _ (Kept.refl _) (T.dn_end W (by omega) (by omega) (.inl U)))
 rw[if_neg (λz=>U (Ej z))]
 by_cases X:q.size=1
 ·rw[if_pos (by rw[X]; rfl)]
  exact Bo (h _ _ (Kept.refl _) (T.fs_end C W (by omega) X (by omega)))
 rw[if_neg (λz=>X (Ej z))]
 refine Az (Od ?_)
 refine Az (Ig (Ez
  (I:=λx c a=>Kept st a/\∃m n out g,c=(none,m,n,out,g)/\HI blt p q out m n/\0<m/\m<=p.size/\1<n/\n<=q.size/\m+n+x+1<=p.size+q.size)
  (Q:=λc a=>Kept st a/\∃r Gg,c=(some r,Gg)/\sC blt p q r) ?_ ?_ ⟨Kept.refl _,_,_,_,_,rfl,W,by omega,by omega,by omega,by omega,by omega⟩) ?_)
 ·(intro x c F _ K B; obtain ⟨v,m,n,out,g,rfl,M,l,j,u,k,D⟩ := B)
  dsimp only
  -- one by one
  refine Az (Ig (Ez
   (I:=λ_ c a=>a=F/\∃m n out e f,c=(none,m,n,out,e,f)/\HI blt p q out m n/\0<m/\m<=p.size/\1<n/\n<=q.size/\m+n+x+1<=p.size+q.size)
   (Q:=λc a=>a=F/\((∃r Gg,c=(some r,Gg)/\sC blt p q r)\/∃m n out e f,c=(none,m,n,out,e,f)/\HI blt p q out m n/\0<m/\m<=p.size/\1<n/\n<=q.size/\m+n+x+1<=p.size+q.size)) ?_ ?_ ⟨rfl,m,n,out,0,0,rfl,M,l,j,u,k,D⟩) ?_)
  ·(intro z c O _ hz B; obtain ⟨rfl,m,n,out,e,f,rfl,M,l,j,u,k,D⟩ := B)
   dsimp only
   obtain ⟨Y,L⟩:=Gh (p:=q) (i:=n - 1) (by omega)
   obtain ⟨Z,K⟩:=Gh (p:=p) (i:=m - 1) (by omega)
   refine Az (Gb L ?_)
   refine Az (Gb K ?_)
   refine Az (nS C (v.kind.trans hk) (T.oq Y (Kl L)) (T.op Z (Kl K)) ?_)
   dsimp only
   cases N:blt Y Z with
   | true =>
    rw[if_pos rfl]
    refine Az (Gb K ?_)
    have M1:=HI.pushX C T M l j K (Um C T.sq (by omega) k L (C.ofLt N))
    by_cases H:m - 1=0
    ·rw[if_pos (by rw[H]; rfl)]
     exact Bo ⟨rfl,.inl ⟨_,_,rfl,T.dn_end M1 (by omega) k (.inl H)⟩⟩
    ·rw[if_neg (λz=>H (Ej z))]
     split
     ·exact Bo ⟨rfl,.inr ⟨_,_,_,_,_,rfl,M1,by omega,by omega,u,k,by omega⟩⟩
     ·exact Bo ⟨rfl,_,_,_,_,_,rfl,M1,by omega,by omega,u,k,by omega⟩
   | false =>
    rw[if_neg Cv]
    refine Az (Gb L ?_)
    have M1:=HI.pushY C T M (by omega) k L (Um C T.sp l j K N)
    by_cases H:n - 1=1
    ·rw[if_pos (by rw[H]; rfl)]
     exact Bo ⟨rfl,.inl ⟨_,_,rfl,T.fs_end C M1 j H (by omega)⟩⟩
    ·rw[if_neg (λz=>H (Ej z))]
     split
     ·exact Bo ⟨rfl,.inr ⟨_,_,_,_,_,rfl,M1,l,j,by omega,by omega,by omega⟩⟩
     ·exact Bo ⟨rfl,_,_,_,_,_,rfl,M1,l,j,by omega,by omega,by omega⟩
  ·(intro c O B; obtain ⟨rfl,m,n,out,e,f,rfl,M⟩ := B)
   exact ⟨rfl,.inr ⟨m,n,out,e,f,rfl,M⟩⟩
  ·rintro c O ⟨rfl,hc⟩
   rcases hc with hc | hc
   ·obtain ⟨r,Gg,rfl,b⟩:=hc
    exact Bo ⟨v,r,_,rfl,b⟩
   ·obtain ⟨m,n,out,e,f,rfl,M,l,j,u,k,D⟩:=hc
    dsimp only
    refine Az (Tt ?_)
    -- the gallop
    refine Az (Ig (Ez
     (I:=λy c a=>Kept st a/\∃m n out g e f,c=(none,m,n,out,g,e,f)/\HI blt p q out m n/\0<m/\m<=p.size/\1<n/\n<=q.size/\(if y=0 then m+n+x+1<=p.size+q.size else m+n+x+2<=p.size+q.size))
     (Q:=λc a=>Kept st a/\((∃r Gg,c=(some r,Gg)/\sC blt p q r)\/∃m n out g e f,c=(none,m,n,out,g,e,f)/\HI blt p q out m n/\0<m/\m<=p.size/\1<n/\n<=q.size/\m+n+x+2<=p.size+q.size)) ?_ ?_
     ⟨v,m,n,out,_,e,f,rfl,M,l,j,u,k,by rw[if_pos rfl]; exact D⟩) ?_)
    ·(intro y c Uy _ L B; obtain ⟨t,m,n,out,g,e,f,rfl,M,l,j,u,k,D⟩ := B)
     have h0:m+n+x+1<=p.size+q.size:=by split at D <;> omega
     have P:∀J,wpS (model prog w) A E s (BI p q out m n J e f) (HM blt p q st (m+n)) Uy:=λJ=>Q5 C T t (t.kind.trans hk) M l j u k (Ah _)
     dsimp only
     refine Ig (?_:wpS (model prog w) A E s _ (HM blt p q st (m+n)) Uy) λr V b=>?_
     ·by_cases hg:g > 1
      ·rw[if_pos hg]
       exact P _
      ·rw[if_neg hg]
       exact P _
     ·obtain ⟨G,b⟩:=b
      match r,b with
      | .done (some r,Gg),b=>exact ⟨G,.inl ⟨r,Gg,rfl,b⟩⟩
      | .done (none,m',n',out',J,ac',bc'),b=>exact ⟨G,.inr ⟨m',n',out',J,ac',bc',rfl,b.1,b.2.1,b.2.2.1,b.2.2.2.1,b.2.2.2.2.1,by have:=b.2.2.2.2.2; omega⟩⟩
      | .yield (none,m',n',out',J,ac',bc'),b=>exact ⟨G,m',n',out',J,ac',bc',rfl,b.1,b.2.1,b.2.2.1,b.2.2.2.1,b.2.2.2.2.1,by rw[if_neg (by omega)]; have:=b.2.2.2.2.2; omega⟩
    ·(intro c Uy B; obtain ⟨t,m,n,out,g,e,f,rfl,M,l,j,u,k,D⟩ := B)
     rw[if_neg (by omega)] at D
     exact ⟨t,.inr ⟨m,n,out,g,e,f,rfl,M,l,j,u,k,D⟩⟩
    ·rintro c Uy ⟨t,hc⟩
     rcases hc with hc | hc
     ·obtain ⟨r,Gg,rfl,b⟩:=hc
      exact Bo ⟨t,r,_,rfl,b⟩
     ·obtain ⟨m,n,out,g,e,f,rfl,M,l,j,u,k,D⟩:=hc
      dsimp only
      refine Az (Uo λV G=>?_)
      exact Bo ⟨t.trans G,m,n,out,_,rfl,M,l,j,u,k,by omega⟩
 ·(intro c F B; obtain ⟨v,m,n,out,g,rfl,M,l,j,u,k,D⟩ := B)
  exfalso
  have : max 0 (p.size+q.size)=p.size+q.size:=by omega
  rw[this] at D
  omega
 ·(intro c F B; obtain ⟨v,r,Gg,rfl,b⟩ := B)
  exact Bo (h r F v b)
end
def iG:Nat->Nat->StateT Cb Sem (Option Nat):=sortPriv% PySem.Builtin.countRun
def Zy:Nat->Nat->Nat->StateT Cb Sem Bool:=sortPriv% PySem.Builtin.binarySort
def X(xs:Array Keyed)(i:Nat):Keyed:=xs[i]?.getD (Qf,Qf)
theorem aX{xs:Array Keyed}{i:Nat}(h:i<xs.size):xs[i]? = some (X xs i):=by
 unfold X
 rw[getElem?_pos xs i h]
 rfl
theorem Rx{xs ys:Array Keyed}{i j:Nat}(h:xs[i]? = ys[j]?):X xs i=X ys j:=by unfold X; rw[h]
theorem So{xs:Array Keyed}{i j:Nat}(a:j<=xs.size)(k:Nat):X (mirror xs i j ((j - i) / 2)) k=if i<=k/\k<j then X xs (i+j - 1 - k) else X xs k:=by
 have e:=getElem?_mirror_all (i:=i) a k
 by_cases h:i<=k/\k<j
 ·rw[if_pos h] at e ⊢; exact Rx e
 ·rw[if_neg h] at e ⊢; exact Rx e
theorem zU{xs:Array Keyed}{src d:Nat}(c:src<xs.size)(hd:d<=src)(k:Nat):X (bubble xs src d) k=if k=src - d then X xs src else if src - d<k/\k<=src then X xs (k - 1) else X xs k:=by
 have e:=getElem?_bubble c d hd k
 by_cases a:k=src - d
 ·rw[if_pos a] at e ⊢; exact Rx e
 ·rw[if_neg a] at e ⊢
  by_cases b:src - d<k/\k<=src
  ·rw[if_pos b] at e ⊢; exact Rx e
  ·rw[if_neg b] at e ⊢; exact Rx e
def Td(blt:Keyed->Keyed->Bool)(xs:Array Keyed)(a b:Nat):Prop:=∀i j,a<=i->i<=j->j<b->le blt (X xs i) (X xs j)
def yW(blt:Keyed->Keyed->Bool)(xs:Array Keyed)(a b:Nat):Prop:=∀i j,a<=i->i<=j->j<b->le blt (X xs j) (X xs i)
structure Good(kd:Mt)(a₀:Array Keyed)(pend:Array (Nat×Nat×Nat))(st:Cb):Prop where
 kind:kindOf st=kd
 fail:Ms st=none
 perm:(arrOf st).Perm a₀
 pd:Bj st=pend
def mQ(xs ys:Array Keyed)(a b:Nat):Prop:=∀i,(i<a\/b<=i)->X ys i=X xs i
theorem mQ.refl(xs:Array Keyed)(a b:Nat):mQ xs xs a b:=λ_ _=>rfl
theorem mQ.trans{xs ys d:Array Keyed}{a b:Nat}(h:mQ xs ys a b)(k:mQ ys d a b):mQ xs d a b:=λi c=>(k i c).trans (h i c)
section
variable{prog:Bp}{w:World}{A:Cw}{s:Ak}{f:Mt}{Ok:Keyed->Prop}{blt:Keyed->Keyed->Bool}{E:Value->Ak->Prop}{a₀:Array Keyed}{d:Array (Nat×Nat×Nat)}
theorem Good.size{st:Cb}(g:Good f a₀ d st):(arrOf st).size=a₀.size:=g.perm.size_eq
theorem Good.okX{st:Cb}(g:Good f a₀ d st)(h0:∀x∈a₀.toList,Ok x){i:Nat}(a:i<a₀.size):Ok (X (arrOf st) i):=by
 have e:=aX (xs:=arrOf st) (i:=i) (by rw[g.size]; exact a)
 exact h0 _ ((Qh.mp g.perm).mem_iff.mp (Kl e))
theorem Good.set{st:Cb}(g:Good f a₀ d st){xs:Array Keyed}(h:xs.Perm (arrOf st)):Good f a₀ d (setArr st xs):=⟨g.kind,g.fail,h.trans g.perm,g.pd⟩
theorem Xv(C:Cmp prog w A s f Ok blt){st:Cb}(g:Good f a₀ d st)(h0:∀x∈a₀.toList,Ok x){i j:Nat}(a:i<a₀.size)(b:j<a₀.size){Q:Option Bool->Cb->Prop}(h:Q (some (blt (X (arrOf st) i) (X (arrOf st) j))) st):wpS (model prog w) A E s (ltAt' i j) Q st:=by
 rw[ltAt'_eq]
 refine Az (Od ?_)
 refine Az (Gb (aX (by rw[g.size]; exact a)) ?_)
 refine Az (Gb (aX (by rw[g.size]; exact b)) ?_)
 exact nS C g.kind (g.okX h0 a) (g.okX h0 b) h
theorem Ro{st:Cb}{i j:Nat}{Q:Unit->Cb->Prop}(h:Q () (setArr st (mirror (arrOf st) i j ((j - i) / 2)))):wpS (model prog w) A E s (Ur i j) Q st:=by
 rw[reverseSlice'_eq]
 exact Ko h
def HJ(lo a b:Nat):StateT Cb Sem (Option (Option Nat)×Nat) :=
 forIn [a:b] ((none,a):Option (Option Nat)×Nat) λ_ c=>do
  let some nB <- ltAt' (lo+c.2) (lo+c.2 - 1) | pure (Dg (some none,c.2))
  if nB=true then pure (Dg (none,c.2)) else pure (Ge (none,c.2+1))
theorem E1(C:Cmp prog w A s f Ok blt){st:Cb}(g:Good f a₀ d st)(h0:∀x∈a₀.toList,Ok x){lo a b:Nat}(hb:lo+b<=a₀.size)(z:1<=a)(p:a<=b)(h1:Td blt (arrOf st) lo (lo+a)){Q:Option (Option Nat)×Nat->Cb->Prop}(h:∀n,a<=n->n<=b->Td blt (arrOf st) lo (lo+n)->(n=b\/blt (X (arrOf st) (lo+n)) (X (arrOf st) (lo+n - 1))=true)->Q (none,n) st):wpS (model prog w) A E s (HJ lo a b) Q st:=by
 unfold HJ
 refine Ez (I:=λx c e=>e=st/\c=(none,x)/\Td blt (arrOf st) lo (lo+x)) ?_ ?_ ⟨rfl,rfl,h1⟩
 ·(intro x c e o y r; obtain ⟨rfl,rfl,k⟩ := r)
  dsimp only
  refine Az (Xv C g h0 (by omega) (by omega) ?_)
  dsimp only
  cases u:blt (X (arrOf e) (lo+x)) (X (arrOf e) (lo+x - 1)) with
  | true =>
   rw[if_pos rfl]
   exact Bo (h x o (by omega) k (.inr u))
  | false =>
   rw[if_neg Cv]
   refine Bo ⟨rfl,rfl,λi j t q B=>?_⟩
   by_cases m:j<lo+x
   ·exact k i j t q m
   ·have v:j=lo+x:=by omega
    subst v
    by_cases l:i=lo+x
    ·subst l; exact C.refl _
    ·exact C.trans (k i (lo+x - 1) t (by omega) (by omega)) u
 ·(intro c e r; obtain ⟨rfl,rfl,k⟩ := r)
  rw[show max a b=b by omega] at k ⊢
  exact h b p (Ah _) k (.inl rfl)
theorem rH{xs:Array Keyed}{lo n:Nat}(a:lo+n<=xs.size)(h:yW blt xs lo (lo+n)):Td blt (mirror xs lo (lo+n) ((lo+n - lo) / 2)) lo (lo+n):=λi j c b d=>by
 rw[So a,So a,if_pos (by omega),if_pos (by omega)]
 exact h _ _ (by omega) (by omega) (by omega)
theorem Zc{xs:Array Keyed}{lo n b e:Nat}(l:lo+n<=xs.size)(m:e<=lo+n)(hb:lo<=b)(h:yW blt xs lo (lo+n))(c:∀i j,b<=i->i<e->b<=j->j<e->le blt (X xs i) (X xs j)):yW blt (mirror xs b e ((e - b) / 2)) lo (lo+n):=λi j g d k=>by
 rw[So (by omega),So (by omega)]
 by_cases f:b<=j/\j<e
 ·rw[if_pos f]
  by_cases a:b<=i/\i<e
  ·rw[if_pos a]
   exact c _ _ (by omega) (by omega) (by omega) (by omega)
  ·rw[if_neg a]
   exact h _ _ g (by omega) (by omega)
 ·rw[if_neg f]
  by_cases a:b<=i/\i<e
  ·rw[if_pos a]
   exact h _ _ (by omega) (by omega) (by omega)
  ·rw[if_neg a]
   exact h i j g d k
theorem Ry{xs:Array Keyed}{a b i j:Nat}(h1:a<=i)(d:j<=b)(c:j<=xs.size):mQ xs (mirror xs i j ((j - i) / 2)) a b:=λk e=>by
 rw[So c,if_neg (by omega)]
def h9(lo n b:Nat):StateT Cb Sem (Option Nat):=do
 Ur lo (lo+n)
 let mut m:=n
 for _ in [n:b] do
  let some nB <- ltAt' (lo+m) (lo+m - 1) | return none
  if nB then break
  m:=m+1
 return some m
theorem vA(C:Cmp prog w A s f Ok blt){st:Cb}(g:Good f a₀ d st)(h0:∀x∈a₀.toList,Ok x){lo n b:Nat}(hb:lo+b<=a₀.size)(o:1<=n)(i:n<=b)(h1:yW blt (arrOf st) lo (lo+n)){Q:Option Nat->Cb->Prop}(h:∀m a,Good f a₀ d a->1<=m->m<=b->Td blt (arrOf a) lo (lo+m)->mQ (arrOf st) (arrOf a) lo (lo+b)->Q (some m) a):wpS (model prog w) A E s (h9 lo n b) Q st:=by
 unfold h9
 have c:lo+n<=(arrOf st).size:=by rw[g.size]; omega
 refine Az (Ro ?_)
 have j:Good f a₀ d (setArr st (mirror (arrOf st) lo (lo+n) ((lo+n - lo) / 2))):=g.set (mirror_perm _ _ _ _)
 refine Az (E1 C j h0 hb o i (rH c h1) λm l e k _=>?_)
 exact Bo (h m _ j (by omega) e k (Ry (Ah _) (by omega) c))
abbrev EC:=Option (Option Nat)×Nat×Nat
def IU(lo a b:Nat):StateT Cb Sem EC :=
 forIn [a:b] ((none,a,0):EC) λ_ c=>do
  let some nB <- ltAt' (lo+c.2.1) (lo+c.2.1 - 1) | pure (Dg (some none,c.2.1,c.2.2))
  if nB=true then
   if c.2.2 > 0 then do
    Ur (lo+c.2.1 - (c.2.2+1)) (lo+c.2.1)
    pure (Ge (none,c.2.1+1,0))
   else pure (Ge (none,c.2.1+1,0))
  else do
   let some more <- ltAt' (lo+c.2.1 - 1) (lo+c.2.1) | pure (Dg (some none,c.2.1,c.2.2))
   if more=true then pure (Dg (none,c.2.1,c.2.2)) else pure (Ge (none,c.2.1+1,c.2.2+1))
def Q3(blt:Keyed->Keyed->Bool)(xs:Array Keyed)(lo n e:Nat):Prop:=e+1<=n/\∀i j,lo+n - (e+1)<=i->i<lo+n->lo+n - (e+1)<=j->j<lo+n->le blt (X xs i) (X xs j)
theorem r9(C:Cmp prog w A s f Ok blt){xs:Array Keyed}{lo n:Nat}(h:1<=n):Q3 blt xs lo n 0:=⟨by omega,λi j b d a c=>by
 have e:i=j:=by omega
 subst e
 exact C.refl _⟩
theorem Wt(C:Cmp prog w A s f Ok blt){xs:Array Keyed}{lo n:Nat}(k:1<=n)(h:yW blt xs lo (lo+n))(hl:le blt (X xs (lo+n)) (X xs (lo+n - 1))):yW blt xs lo (lo+(n+1)):=λi j d c g=>by
 by_cases b:j<lo+n
 ·exact h i j d c b
 ·have e:j=lo+n:=by omega
  subst e
  by_cases a:i=lo+n
  ·subst a; exact C.refl _
  ·exact C.trans hl (h i (lo+n - 1) d (by omega) (by omega))
theorem R3(C:Cmp prog w A s f Ok blt){st:Cb}(g:Good f a₀ d st)(h0:∀x∈a₀.toList,Ok x){lo a b:Nat}(hb:lo+b<=a₀.size)(L:1<=a)(y:a<=b)(h1:yW blt (arrOf st) lo (lo+a)){Q:EC->Cb->Prop}(h:∀n e k,Good f a₀ d k->a<=n->n<=b->yW blt (arrOf k) lo (lo+n)->Q3 blt (arrOf k) lo n e->mQ (arrOf st) (arrOf k) lo (lo+b)->Q (none,n,e) k):wpS (model prog w) A E s (IU lo a b) Q st:=by
 unfold IU
 refine Ez (I:=λx c k=>∃e,c=(none,x,e)/\Good f a₀ d k/\yW blt (arrOf k) lo (lo+x)/\Q3 blt (arrOf k) lo x e/\mQ (arrOf st) (arrOf k) lo (lo+b)) ?_ ?_
  ⟨0,rfl,g,h1,r9 C L,mQ.refl _ _ _⟩
 ·(intro x c k q P B; obtain ⟨e,rfl,m,p,l,o⟩ := B)
  have M:(arrOf k).size=a₀.size:=m.size
  dsimp only
  refine Az (Xv C m h0 (by omega) (by omega) ?_)
  dsimp only
  cases K:blt (X (arrOf k) (lo+x)) (X (arrOf k) (lo+x - 1)) with
  | true =>
   rw[if_pos rfl]
   have F:=Wt C (by omega) p (C.ofLt K)
   have one:∀H:Array Keyed,Q3 blt H lo (x+1) 0:=λH=>⟨by omega,λi j u v t z=>by
    have : i=j:=by omega
    subst this
    exact C.refl _⟩
   by_cases J:e > 0
   ·rw[if_pos J]
    refine Az (Ro ?_)
    refine Bo ⟨0,rfl,m.set (mirror_perm _ _ _ _),?_,one _,o.trans (Ry (by have:=l.1; omega) (by omega) (by omega))⟩
    exact Zc (by omega) (by omega) (by have:=l.1; omega) F λi j u v t z=>l.2 i j u v t z
   ·rw[if_neg J]
    exact Bo ⟨0,rfl,m,F,one _,o⟩
  | false =>
   rw[if_neg Cv]
   refine Az (Xv C m h0 (by omega) (by omega) ?_)
   dsimp only
   cases G:blt (X (arrOf k) (lo+x - 1)) (X (arrOf k) (lo+x)) with
   | true =>
    rw[if_pos rfl]
    exact Bo (h x e k m q (by omega) p l o)
   | false =>
    rw[if_neg Cv]
    refine Bo ⟨e+1,rfl,m,Wt C (by omega) p G,⟨by have:=l.1; omega,λi j u v t z=>?_⟩,o⟩
    have N:le blt (X (arrOf k) (lo+x - 1)) (X (arrOf k) (lo+x)):=K
    have O:le blt (X (arrOf k) (lo+x)) (X (arrOf k) (lo+x - 1)):=G
    by_cases D:i=lo+x
    ·by_cases r:j=lo+x
     ·rw[D,r]; exact C.refl _
     ·rw[D]
      exact C.trans O (l.2 (lo+x - 1) j (by omega) (by omega) (by omega) (by omega))
    ·by_cases r:j=lo+x
     ·rw[r]
      exact C.trans (l.2 i (lo+x - 1) (by omega) (by omega) (by omega) (by omega)) N
     ·exact l.2 i j (by omega) (by omega) (by omega) (by omega)
 ·(intro c k B; obtain ⟨e,rfl,m,p,l,o⟩ := B)
  rw[show max a b=b by omega] at p l ⊢
  exact h b e k m y (Ah _) p l o
def Y5(lo n b:Nat):StateT Cb Sem (Option Nat):=do
 liftM (rule "list.sort.descending-run")
 let mut m:=n+1
 let mut e:=0
 for _ in [m:b] do
  let some nB <- ltAt' (lo+m) (lo+m - 1) | return none
  if nB then
   if e > 0 then Ur (lo+m - (e+1)) (lo+m)
   e:=0
  else
   let some more <- ltAt' (lo+m - 1) (lo+m) | return none
   if more then break
   e:=e+1
  m:=m+1
 if e > 0 then Ur (lo+m - (e+1)) (lo+m)
 h9 lo m b
theorem uF(C:Cmp prog w A s f Ok blt){st:Cb}(g:Good f a₀ d st)(h0:∀x∈a₀.toList,Ok x){lo n b:Nat}(hb:lo+b<=a₀.size)(v:n+1<=b)(h1:yW blt (arrOf st) lo (lo+(n+1))){Q:Option Nat->Cb->Prop}(h:∀m a,Good f a₀ d a->1<=m->m<=b->Td blt (arrOf a) lo (lo+m)->mQ (arrOf st) (arrOf a) lo (lo+b)->Q (some m) a):wpS (model prog w) A E s (Y5 lo n b) Q st:=by
 unfold Y5
 refine Az (Tt ?_)
 refine Az (R3 C g h0 hb (by omega) v h1 λk e r u L F B y z=>?_)
 dsimp only
 have G:(arrOf r).size=a₀.size:=u.size
 by_cases D:e > 0
 ·rw[if_pos D]
  refine Az (Ro ?_)
  refine vA C (u.set (mirror_perm _ _ _ _)) h0 hb (by omega) F (Zc (by omega) (by omega) (by have:=y.1; omega) B λi j I J H K=>y.2 i j I J H K) λm l q p o t c=>?_
  exact h m l q p o t ((z.trans (Ry (by have:=y.1; omega) (by omega) (by omega))).trans c)
 ·rw[if_neg D]
  exact vA C u h0 hb (by omega) F B λm l q p o t c=>h m l q p o t (z.trans c)
theorem zZ(C:Cmp prog w A s f Ok blt){st:Cb}(g:Good f a₀ d st)(h0:∀x∈a₀.toList,Ok x){lo b:Nat}(hb:lo+b<=a₀.size)(J:1<=b){Q:Option Nat->Cb->Prop}(h:∀m a,Good f a₀ d a->1<=m->m<=b->Td blt (arrOf a) lo (lo+m)->mQ (arrOf st) (arrOf a) lo (lo+b)->Q (some m) a):wpS (model prog w) A E s (iG lo b) Q st:=by
 unfold iG
 have G:(arrOf st).size=a₀.size:=g.size
 refine Az (E1 C g h0 hb (Ah _) J (λi j l r k=>by
  have : i=j:=by omega
  subst this
  exact C.refl _) λn q B p v=>?_)
 dsimp only
 by_cases e:n=b
 ·rw[if_pos (by rw[e]; exact beq_self_eq_true _)]
  exact Bo (h n st g q B p (mQ.refl _ _ _))
 rw[if_neg (λz=>e (Ej z))]
 have o:blt (X (arrOf st) (lo+n)) (X (arrOf st) (lo+n - 1))=true:=v.resolve_left e
 by_cases D:n > 1
 ·rw[if_pos D]
  refine Az (Xv C g h0 (by omega) (by omega) ?_)
  dsimp only
  cases I:blt (X (arrOf st) lo) (X (arrOf st) (lo+n - 1)) with
  | true =>
   rw[if_pos rfl]
   exact Bo (h n st g q B p (mQ.refl _ _ _))
  | false =>
   rw[if_neg Cv]
   refine Az (Ro ?_)
   -- all of it are alike
   have c:∀i j,lo<=i->i<lo+n->lo<=j->j<lo+n->le blt (X (arrOf st) i) (X (arrOf st) j):=λi j l r k M =>
    C.trans (p i (lo+n - 1) l (by omega) (by omega)) (C.trans I (p lo j (Ah _) k M))
   have t:yW blt (arrOf st) lo (lo+(n+1)):=Wt C q (λi j l r k=>c j i (by omega) k l (by omega)) (C.ofLt o)
   exact uF C (g.set (mirror_perm _ _ _ _)) h0 hb (by omega) (Zc (by omega) (by omega) (Ah _) t c) λm y K L F N u=>h m y K L F N ((Ry (Ah _) (by omega) (by omega)).trans u)
 ·rw[if_neg D]
  have H:n=1:=by omega
  subst H
  have t:yW blt (arrOf st) lo (lo+(1+1)):=Wt C (Ah _) (λi j l r k=>by
   have : i=j:=by omega
   subst this
   exact C.refl _) (C.ofLt o)
  exact uF C g h0 hb (by omega) t h
end
def Wx:Nat->StateT Cb Sem Bool:=sortPriv% PySem.Builtin.mergeAt
section
variable{prog:Bp}{w:World}{A:Cw}{s:Ak}{b:Mt}{Ok:Keyed->Prop}{blt:Keyed->Keyed->Bool}{E:Value->Ak->Prop}{a₀:Array Keyed}{a:Array (Nat×Nat×Nat)}
theorem qL{st:Cb}{i j:Nat}{Q:Unit->Cb->Prop}(h:Q () (setArr st (bubble (arrOf st) i (i - j)))):wpS (model prog w) A E s (moveDown' i j) Q st:=by
 rw[moveDown'_eq]
 exact Ko h
theorem xD(C:Cmp prog w A s b Ok blt){st:Cb}(g:Good b a₀ a st)(h0:∀x∈a₀.toList,Ok x){lo n ok:Nat}(hb:lo+n<=a₀.size)(h1:Td blt (arrOf st) lo (lo+ok))(W:ok<=n){Q:Bool->Cb->Prop}(h:∀f,Good b a₀ a f->Td blt (arrOf f) lo (lo+n)->mQ (arrOf st) (arrOf f) lo (lo+n)->Q true f):wpS (model prog w) A E s (Zy lo n ok) Q st:=by
 unfold Zy
 refine Az (Ig (Ez
  (I:=λk c f=>c=(none,())/\Good b a₀ a f/\Td blt (arrOf f) lo (lo+k)/\mQ (arrOf st) (arrOf f) lo (lo+n))
  (Q:=λc f=>c=(none,())/\Good b a₀ a f/\Td blt (arrOf f) lo (lo+n)/\mQ (arrOf st) (arrOf f) lo (lo+n)) ?_ ?_ ⟨rfl,g,?_,mQ.refl _ _ _⟩) ?_)
 ·(intro k c m U Y p; obtain ⟨rfl,t,q,B⟩ := p)
  have T:(arrOf m).size=a₀.size:=t.size
  dsimp only
  refine Az (Ig (Ez
   (I:=λy c f=>f=m/\∃l r,c=(none,l,r)/\l<=r/\r<=k/\r - l+y<=k/\(∀i,i<l->le blt (X (arrOf m) (lo+i)) (X (arrOf m) (lo+k)))/\(∀i,r<=i->i<k->blt (X (arrOf m) (lo+k)) (X (arrOf m) (lo+i))=true))
   (Q:=λc f=>f=m/\∃l,c=(none,l,l)/\l<=k/\(∀i,i<l->le blt (X (arrOf m) (lo+i)) (X (arrOf m) (lo+k)))/\(∀i,l<=i->i<k->blt (X (arrOf m) (lo+k)) (X (arrOf m) (lo+i))=true)) ?_ ?_
   ⟨rfl,0,k,rfl,by omega,by omega,by omega,λi N=>by omega,λi h1 h2=>by omega⟩) ?_)
  ·(intro y c o _ Z p; obtain ⟨rfl,l,r,rfl,V,z,O,v,u⟩ := p)
   dsimp only
   by_cases H:l ≥ r
   ·rw[if_pos H]
    have e:l=r:=by omega
    subst e
    exact Bo ⟨rfl,l,rfl,z,v,u⟩
   ·rw[if_neg H]
    refine Az (Xv C t h0 (by omega) (by omega) ?_)
    dsimp only
    cases S:blt (X (arrOf o) (lo+k)) (X (arrOf o) (lo+(l+r) / 2)) with
    | true =>
     rw[if_pos rfl]
     exact Bo ⟨rfl,l,(l+r) / 2,rfl,by omega,by omega,by omega,v,λi D F=>C.ltLe S (q _ _ (by omega) (by omega) (by omega))⟩
    | false =>
     rw[if_neg Cv]
     exact Bo ⟨rfl,(l+r) / 2+1,r,rfl,by omega,z,by omega,λi N=>C.trans (q _ _ (by omega) (by omega) (by omega)) S,u⟩
  ·(intro c o p; obtain ⟨rfl,l,r,rfl,V,z,O,v,u⟩ := p)
   have : max 0 k=k:=by omega
   rw[this] at O
   have e:l=r:=by omega
   subst e
   exact ⟨rfl,l,rfl,z,v,u⟩
  ·(intro c o p; obtain ⟨rfl,l,rfl,z,v,u⟩ := p)
   dsimp only
   refine Az (qL ?_)
   have K:=λi=>zU (xs:=arrOf o) (src:=lo+k) (d:=lo+k - (lo+l)) (by omega) (by omega) i
   have M:lo+k - (lo+k - (lo+l))=lo+l:=by omega
   refine Bo ⟨rfl,t.set (bubble_perm _ _ _),λi j D F L=>?_,B.trans λi N=>?_⟩
   ·show le blt (X (bubble (arrOf o) (lo+k) (lo+k - (lo+l))) i) (X (bubble (arrOf o) (lo+k) (lo+k - (lo+l))) j)
    rw[K,K,M]
    by_cases R:i=lo+l
    ·rw[if_pos R]
     by_cases G:j=lo+l
     ·rw[if_pos G]; exact C.refl _
     ·rw[if_neg G]
      by_cases J:lo+l<j/\j<=lo+k
      ·rw[if_pos J]
       have:=u (j - 1 - lo) (by omega) (by omega)
       rw[show lo+(j - 1 - lo)=j - 1 by omega] at this
       exact C.ofLt this
      ·exfalso; omega
    ·rw[if_neg R]
     by_cases G:j=lo+l
     ·rw[if_pos G,if_neg (by omega)]
      have:=v (i - lo) (by omega)
      rw[show lo+(i - lo)=i by omega] at this
      exact this
     ·rw[if_neg G]
      by_cases J:lo+l<i/\i<=lo+k
      ·rw[if_pos J,if_pos (by omega)]
       exact q _ _ (by omega) (by omega) (by omega)
      ·rw[if_neg J]
       by_cases P:lo+l<j/\j<=lo+k
       ·rw[if_pos P]
        exact q _ _ (by omega) (by omega) (by omega)
       ·rw[if_neg P]
        exact q _ _ (by omega) (by omega) (by omega)
   ·show X (bubble (arrOf o) (lo+k) (lo+k - (lo+l))) i=X (arrOf o) i
    rw[K,M,if_neg (by omega),if_neg (by omega)]
 ·(intro c m p; obtain ⟨rfl,t,q,B⟩ := p)
  refine ⟨rfl,t,λi j D F L=>q i j D F (by omega),B⟩
 ·intro i j D F L
  by_cases e:i=j
  ·subst e; exact C.refl _
  ·exact h1 i j D F (by omega)
 ·(intro c m p; obtain ⟨rfl,t,q,B⟩ := p)
  exact Bo (h m t q B)
end
abbrev Pg(xs:Array Keyed)(b:Nat)(l:List (Keyed×Nat)):Array Keyed:=l.foldl (λa x=>match x with | (p,j)=>a.setIfInBounds (b+j) p) xs
theorem dG(b:Nat):∀(l:List Keyed) (o:Nat) (xs:Array Keyed),b+o+l.length<=xs.size->(Pg xs b (l.zipIdx o)).size=xs.size/\∀i:Nat,(Pg xs b (l.zipIdx o))[i]? = if b+o<=i/\i<b+o+l.length then l[i - (b+o)]? else xs[i]?
 | [],o,xs,_=>⟨rfl,λi=>by rw[if_neg (by rw[Kc]; omega)]; rfl⟩
 | x::l,o,xs,h=>by
  rw[Bd] at h
  have c:=dG b l (o+1) (xs.setIfInBounds (b+o) x) (by rw[Lw]; omega)
  have e:Pg xs b ((x::l).zipIdx o)=Pg (xs.setIfInBounds (b+o) x) b (l.zipIdx (o+1)):=by
   rw[List.zipIdx_cons]
   rfl
  rw[e]
  refine ⟨c.1.trans (Lw),λi=>?_⟩
  rw[c.2 i,Bd]
  by_cases a:b+(o+1)<=i/\i<b+(o+1)+l.length
  ·rw[if_pos a,if_pos (by omega)]
   rw[show i - (b+o)=(i - (b+(o+1)))+1 by omega,qM]
  ·rw[if_neg a]
   by_cases d:i=b+o
   ·subst d
    rw[if_pos (by omega),Array.getElem?_setIfInBounds_self_of_lt (by omega),bU]
    rfl
   ·rw[if_neg (by omega),Array.getElem?_setIfInBounds_ne (by omega)]
theorem sI{xs m:Array Keyed}{b n:Nat}(hb:b+n<=xs.size)(h:m.size=n)(j:m.toList.Perm ((xs.toList.drop b).take n)):(Pg xs b m.toList.zipIdx).Perm xs:=by
 have c:=dG b m.toList 0 xs (by rw[Af]; omega)
 have e:(Pg xs b m.toList.zipIdx).toList=xs.toList.take b++(m.toList++xs.toList.drop (b+n)):=by
  apply Gk
  intro i
  have a:=c.2 i
  rw[Af,h] at a
  have g:(Pg xs b m.toList.zipIdx).toList[i]? = (Pg xs b m.toList.zipIdx)[i]?:=by simp
  rw[g,a]
  have lt:(xs.toList.take b).length=b:=by rw[Cy,Af]; omega
  by_cases f:i<b
  ·rw[if_neg (by omega),Gr (by omega),Hb f]
   simp
  ·rw[Eo (by omega),lt]
   by_cases k:i<b+n
   ·rw[if_pos (by omega),Gr (by rw[Af]; omega)]
    congr 1
   ·rw[if_neg (by omega),Eo (by rw[Af]; omega),Zr,Af]
    rw[show b+n+(i - b - m.size)=i by omega]
    simp
 refine Array.perm_iff_toList_perm.mpr ?_
 rw[e]
 have d:xs.toList=xs.toList.take b++((xs.toList.drop b).take n++xs.toList.drop (b+n)):=by
  conv=>lhs; rw[<- Ij b xs.toList]
  congr 1
  conv=>lhs; rw[<- Ij n (xs.toList.drop b)]
  rw[List.drop_drop]
 conv=>rhs; rw[d]
 exact Ju _ (List.Perm.append_right _ j)
theorem Yr{xs:Array Keyed}{a n:Nat}(h:a+n<=xs.size){i:Nat}(b:i<n):(xs.extract a (a+n))[i]? = some (X xs (a+i)):=by
 rw[Array.getElem?_extract,if_pos (by omega)]
 exact aX (by omega)
theorem Sy{xs:Array Keyed}{a n:Nat}(h:a+n<=xs.size):(xs.extract a (a+n)).size=n:=by
 rw[Array.size_extract]
 omega
theorem Xm{xs:Array Keyed}{a n:Nat}(h:a+n<=xs.size){x:Keyed}(f:x∈(xs.extract a (a+n)).toList):∃i,i<n/\x=X xs (a+i):=by
 obtain ⟨i,b,e⟩:=Hf.mp f
 rw[Af,Sy h] at b
 refine ⟨i,b,?_⟩
 have d:=Yr h b
 have c:(xs.extract a (a+n)).toList[i]? = some x:=by rw[<- e,<- Bk]
 rw[Dx,d] at c
 exact (Cn c).symm
section
variable{prog:Bp}{w:World}{A:Cw}{s:Ak}{kd:Mt}{Ok:Keyed->Prop}{blt:Keyed->Keyed->Bool}{E:Value->Ak->Prop}{a₀:Array Keyed}{f:Array (Nat×Nat×Nat)}
theorem dM(C:Cmp prog w A s kd Ok blt){xs:Array Keyed}{a n c d:Nat}(h:a+n<=xs.size)(l:Td blt xs c d)(h1:c<=a)(p:a+n<=d):(xs.extract a (a+n)).toList.Pairwise (le blt):=by
 rw[Bx]
 intro i j e b o
 rw[Af,Sy h] at e b
 have m:(xs.extract a (a+n)).toList[i]? = some (X xs (a+i)):=by rw[Dx]; exact Yr h e
 have k:(xs.extract a (a+n)).toList[j]? = some (X xs (a+j)):=by rw[Dx]; exact Yr h b
 obtain ⟨_,f⟩:=Ai.mp m
 obtain ⟨_,g⟩:=Ai.mp k
 rw[f,g]
 exact l _ _ (by omega) (by omega) (by omega)
theorem oD(C:Cmp prog w A s kd Ok blt){xs:Array Keyed}{a b c:Nat}(m:a<b)(h1:Td blt xs a b)(f:Td blt xs b c)(h:le blt (X xs (b - 1)) (X xs b)):Td blt xs a c:=λi j e g d=>by
 by_cases l:j<b
 ·exact h1 i j e g l
 ·by_cases k:b<=i
  ·exact f i j k g d
  ·exact C.trans (h1 i (b - 1) e (by omega) (by omega)) (C.trans h (f b j (Ah _) (by omega) d))
structure Good0(kd:Mt)(a₀:Array Keyed)(st:Cb):Prop where
 kind:kindOf st=kd
 fail:Ms st=none
 perm:(arrOf st).Perm a₀
theorem Good0.size{st:Cb}(g:Good0 kd a₀ st):(arrOf st).size=a₀.size:=g.perm.size_eq
theorem Good0.okX{st:Cb}(g:Good0 kd a₀ st)(h0:∀x∈a₀.toList,Ok x){i:Nat}(a:i<a₀.size):Ok (X (arrOf st) i):=by
 have e:=aX (xs:=arrOf st) (i:=i) (by rw[g.size]; exact a)
 exact h0 _ ((Qh.mp g.perm).mem_iff.mp (Kl e))
theorem n9{st:Cb}(g:Good0 kd a₀ st)(h0:∀x∈a₀.toList,Ok x){b n:Nat}(h:b+n<=a₀.size):Row Ok (arrOf st) b n (λi=>X (arrOf st) (b+i)) :=
 ⟨λi a=>aX (by rw[g.size]; omega),λi a=>g.okX h0 (by omega)⟩
theorem CP{st a:Cb}{Q:Unit->Cb->Prop}(h:Q () a):wpS (model prog w) A E s (set a:StateT Cb Sem Unit) Q st:=by
 unfold wpS
 rw[StateT.run_set]
 exact Ag ⟨rfl,h⟩
theorem qS(C:Cmp prog w A s kd Ok blt){st:Cb}(g:Good0 kd a₀ st)(h0:∀x∈a₀.toList,Ok x){i f p S j q pb:Nat}(hi:(Bj st)[i]? = some (f,p,S))(hj:(Bj st)[i+1]? = some (j,q,pb))(e1:j=f+p)(n1:1<=p)(n2:1<=q)(hz:j+q<=a₀.size)(I:Td blt (arrOf st) f j)(F:Td blt (arrOf st) j (j+q)){Q:Bool->Cb->Prop}(h:∀B,Good0 kd a₀ B->Bj B=((Bj st).setIfInBounds i (f,p+q,S)).eraseIdxIfInBounds (i+1)->Td blt (arrOf B) f (j+q)->mQ (arrOf st) (arrOf B) f (j+q)->Q true B):wpS (model prog w) A E s (Wx i) Q st:=by
 have N:(arrOf st).size=a₀.size:=g.size
 unfold Wx
 refine Az (Od ?_)
 rw[hi,hj]
 dsimp only
 refine Az (CP ?_)
 refine Az (Gb (aX (xs:=arrOf st) (i:=j) (by rw[N]; omega)) ?_)
 show wpS (model prog w) A E s _ _ (SortSt.mk' (kindOf st) (arrOf st) (((Bj st).setIfInBounds i (f,p+q,S)).eraseIdxIfInBounds (i+1)) (gallopOf st) (Ms st))
 generalize t:SortSt.mk' (kindOf st) (arrOf st) (((Bj st).setIfInBounds i (f,p+q,S)).eraseIdxIfInBounds (i+1)) (gallopOf st) (Ms st)=st1
 have L:kindOf st1=kd:=by rw[<- t]; exact g.kind
 have D:arrOf st1=arrOf st:=by rw[<- t]
 have Y:Bj st1=((Bj st).setIfInBounds i (f,p+q,S)).eraseIdxIfInBounds (i+1):=by rw[<- t]
 have P:Ms st1=none:=by rw[<- t]; exact g.fail
 have g1:Good0 kd a₀ st1:=⟨L,P,by rw[D]; exact g.perm⟩
 have same:Good0 kd a₀ st1->Td blt (arrOf st) f (j+q)->Q true st1:=λgg as=>h st1 gg Y (by rw[D]; exact as) (by rw[D]; exact mQ.refl _ _ _)
 refine Az (Oy C (hint:=0) (n:=p) (n9 g h0 (b:=f) (n:=p) (by omega)) (g.okX h0 (i:=j) (by omega)) L (by omega) (λa c h6 hc Z=>?_) λk kn t1 t2=>?_)
 ·simp only[Hn,Bt,if_false,Jb] at Z ⊢
  exact C.trans (I _ _ (by omega) (by omega) (by omega)) Z
 dsimp only
 have f1:∀m,m<k->le blt (X (arrOf st) (f+m)) (X (arrOf st) j):=λm u=>by
  have:=t1 m u
  have z:blt (X (arrOf st) j) (X (arrOf st) (f+m))=false:=by simpa only [Hn,Bt,if_false,Jb] using this
  exact z
 by_cases V:p - k=0
 ·rw[if_pos (by rw[V]; rfl)]
  refine Bo (same g1 (oD C (by omega) I F ?_))
  have:=f1 (p - 1) (by omega)
  rw[show f+(p - 1)=j - 1 by omega] at this
  exact this
 rw[if_neg (λz=>V (Ej z))]
 have f2:blt (X (arrOf st) j) (X (arrOf st) (f+k))=true:=by
  have:=t2 k (Ah _) (by omega)
  simpa only [Hn,Bt,if_false,Zu] using this
 have el:f+k+(p - k) - 1=j - 1:=by omega
 rw[el]
 refine Az (Gb (aX (xs:=arrOf st) (i:=j - 1) (by rw[N]; omega)) ?_)
 refine Az (Oy C (hint:=q - 1) (n:=q) (n9 g h0 (b:=j) (n:=q) (by omega)) (g.okX h0 (i:=j - 1) (by omega)) L (by omega) (λa c h6 hc Z=>?_) λl ln u1 u2=>?_)
 ·simp only[Hn,if_true] at Z ⊢
  exact C.leLt (F _ _ (by omega) (by omega) (by omega)) Z
 dsimp only
 have f3:∀m,m<l->blt (X (arrOf st) (j+m)) (X (arrOf st) (j - 1))=true:=λm u=>by
  have:=u1 m u
  simpa only [Hn,if_true] using this
 have f4:∀m,l<=m->m<q->le blt (X (arrOf st) (j - 1)) (X (arrOf st) (j+m)):=λm h1 h2=>by
  have:=u2 m h1 h2
  have z:blt (X (arrOf st) (j+m)) (X (arrOf st) (j - 1))=false:=by simpa only [Hn,if_true] using this
  exact z
 by_cases c2:l=0
 ·rw[if_pos (by rw[c2]; rfl)]
  subst c2
  exact Bo (same g1 (oD C (by omega) I F (f4 0 (Ah _) (by omega))))
 rw[if_neg (λz=>c2 (Ej z))]
 have ep:(arrOf st).extract (f+k) j=(arrOf st).extract (f+k) (f+k+(p - k)):=by rw[show f+k+(p - k)=j by omega]
 rw[ep]
 have J:f+k+(p - k)<=(arrOf st).size:=by omega
 have M:j+l<=(arrOf st).size:=by omega
 have T:Two Ok blt ((arrOf st).extract (f+k) (f+k+(p - k))) ((arrOf st).extract j (j+l)) (X (arrOf st) (f+k)) (X (arrOf st) j) (X (arrOf st) (j - 1)):=by
  refine ⟨λx W=>?_,λx W=>?_,dM C J I (by omega) (by omega),dM C M F (by omega) (by omega),?_,?_,?_,f2,λy hy=>?_⟩
  ·obtain ⟨m,u,rfl⟩:=Xm J W
   exact g.okX h0 (by omega)
  ·obtain ⟨m,u,rfl⟩:=Xm M W
   exact g.okX h0 (by omega)
  ·exact Yr J (by omega)
  ·exact Yr M (by omega)
  ·rw[Sy J,Yr J (by omega),show f+k+(p - k - 1)=j - 1 by omega]
  ·obtain ⟨m,u,rfl⟩:=Xm M hy
   exact f3 m u
 -- rA the merge
 have O:∀(r:Array Keyed) (o:Cb),Kept st1 o->sC blt ((arrOf st).extract (f+k) (f+k+(p - k))) ((arrOf st).extract j (j+l)) r ->
   Q (Ms (setArr o (Pg (arrOf o) (f+k) r.toList.zipIdx))).isNone (setArr o (Pg (arrOf o) (f+k) r.toList.zipIdx)):=by
  intro r o kp G
  have K:arrOf o=arrOf st:=kp.arr.trans D
  have h7:Ms o=none:=kp.fail.trans P
  have h3:r.size=p - k+l:=by
   have:=G.1.length_eq
   rw[Bh,Af,Af,Af,Sy J,Sy M] at this
   exact this
  have h8:((arrOf st).toList.drop (f+k)).take (p - k+l)=((arrOf st).extract (f+k) (f+k+(p - k))).toList++((arrOf st).extract j (j+l)).toList:=by
   rw[Xj,Xj,List.take_add,List.drop_drop,show f+k+(p - k)=j by omega]
  have h4:=dG (f+k) r.toList 0 (arrOf st) (by rw[Af]; omega)
  have H:∀m,X (Pg (arrOf st) (f+k) r.toList.zipIdx) m=if f+k<=m/\m<j+l then X r (m - (f+k)) else X (arrOf st) m:=λm=>by
   have:=h4.2 m
   rw[Af,h3,Nat.add_zero] at this
   by_cases u:f+k<=m/\m<j+l
   ·rw[if_pos u]
    rw[if_pos (by omega)] at this
    refine Rx (this.trans ?_)
    simp
   ·rw[if_neg u]
    rw[if_neg (by omega)] at this
    exact Rx this
  -- each thing of the merged is one of the two runs'
  have v:∀m,m<p - k+l->(∃c,f+k<=c/\c<j/\X r m=X (arrOf st) c)\/(∃c,j<=c/\c<j+l/\X r m=X (arrOf st) c):=λm u=>by
   have W:=Kl (aX (xs:=r) (i:=m) (by omega))
   rcases Ba.mp (G.1.mem_iff.mp W) with z | z
   ·obtain ⟨c,hc,e⟩:=Xm J z
    exact .inl ⟨f+k+c,by omega,by omega,e⟩
   ·obtain ⟨c,hc,e⟩:=Xm M z
    exact .inr ⟨j+c,by omega,by omega,e⟩
  have rs:∀m n,m<=n->n<p - k+l->le blt (X r m) (X r n):=λm n h5 hn=>Lq C G.2 h5 (Ew (aX (by omega))) (Ew (aX (by omega)))
  have e3:Ms (setArr o (Pg (arrOf o) (f+k) r.toList.zipIdx))=none:=h7
  rw[e3]
  refine h _ ⟨kp.kind.trans L,e3,?_⟩ (kp.pend.trans Y) ?_ ?_
  ·show (Pg (arrOf o) (f+k) r.toList.zipIdx).Perm a₀
   rw[K]
   refine (sI (by omega) h3 ?_).trans g.perm
   rw[h8]
   exact G.1
  ·show Td blt (Pg (arrOf o) (f+k) r.toList.zipIdx) f (j+q)
   rw[K]
   intro c d V cd d1
   rw[H,H]
   by_cases zc:f+k<=c/\c<j+l
   ·rw[if_pos zc]
    by_cases R:f+k<=d/\d<j+l
    ·rw[if_pos R]
     exact rs _ _ (by omega) (by omega)
    ·rw[if_neg R]
     rcases v (c - (f+k)) (by omega) with ⟨b,U,b2,e⟩ | ⟨b,U,b2,e⟩
     ·rw[e]
      refine C.trans (I b (j - 1) (by omega) (by omega) (by omega)) ?_
      have:=f4 (d - j) (by omega) (by omega)
      rw[show j+(d - j)=d by omega] at this
      exact this
     ·rw[e]
      exact F b d U (by omega) (by omega)
   ·rw[if_neg zc]
    by_cases R:f+k<=d/\d<j+l
    ·rw[if_pos R]
     rcases v (d - (f+k)) (by omega) with ⟨b,U,b2,e⟩ | ⟨b,U,b2,e⟩
     ·rw[e]
      exact I c b V (by omega) b2
     ·rw[e]
      have:=f1 (c - f) (by omega)
      rw[show f+(c - f)=c by omega] at this
      exact C.trans this (F j b (Ah _) U (by omega))
    ·rw[if_neg R]
     by_cases y1:d<j
     ·exact I c d V cd y1
     ·by_cases y2:j<=c
      ·exact F c d y2 cd d1
      ·have:=f1 (c - f) (by omega)
       rw[show f+(c - f)=c by omega] at this
       exact C.trans this (F j d (Ah _) (by omega) d1)
  ·show mQ (arrOf st) (Pg (arrOf o) (f+k) r.toList.zipIdx) f (j+q)
   rw[K]
   intro m u
   rw[H,if_neg (by omega)]
 by_cases c3:p - k<=l
 ·rw[if_pos c3]
  refine Az (rX C T L λr o kp G=>?_)
  exact Az (Ko (Az (Od (Bo (O r o kp G)))))
 ·rw[if_neg c3]
  refine Az (rZ C T L λr o kp G=>?_)
  exact Az (Ko (Az (Od (Bo (O r o kp G)))))
end
def iN:StateT Cb Sem Unit:=sortPriv% PySem.Builtin.sortRuns
def Runs(blt:Keyed->Keyed->Bool)(xs:Array Keyed):List (Nat×Nat×Nat)->Nat->Nat->Prop
 | [],a,b=>a=b
 | (s,n,_)::r,a,b=>s=a/\1<=n/\Td blt xs a (a+n)/\Runs blt xs r (a+n) b
variable{blt:Keyed->Keyed->Bool}
theorem Runs.len{xs:Array Keyed}:∀{l:List (Nat×Nat×Nat)} {a b:Nat},Runs blt xs l a b->a+l.length<=b
 | [],a,b,h=>by
  have e:a=b:=h
  rw[Kc]
  omega
 | (s,n,p)::r,a,b,h=>by
  have:=Runs.len h.2.2.2
  have:=h.2.1
  rw[Bd]
  omega
theorem Td.out{xs ys:Array Keyed}{a b c d:Nat}(h:Td blt xs a b)(o:mQ xs ys c d)(e:b<=c\/d<=a):Td blt ys a b:=λi j g k f=>by
 rw[o i (by omega),o j (by omega)]
 exact h i j g k f
theorem Runs.out{xs ys:Array Keyed}{c d:Nat}(o:mQ xs ys c d):∀{l:List (Nat×Nat×Nat)} {a b:Nat},(b<=c\/d<=a)->Runs blt xs l a b->Runs blt ys l a b
 | [],_,_,_,h=>h
 | (s,n,p)::r,a,b,e,h=>by
  have f:=Runs.len h.2.2.2
  exact ⟨h.1,h.2.1,h.2.2.1.out o (by omega),Runs.out o (by omega) h.2.2.2⟩
theorem Runs.push{xs:Array Keyed}{m q:Nat}(c:1<=m):∀{l:List (Nat×Nat×Nat)} {a b:Nat},Runs blt xs l a b->Td blt xs b (b+m)->Runs blt xs (l++[(b,m,q)]) a (b+m)
 | [],a,b,h,hs=>by
  have e:a=b:=h
  subst e
  exact ⟨rfl,c,hs,rfl⟩
 | (s,n,p)::r,a,b,h,hs=>⟨h.1,h.2.1,h.2.2.1,Runs.push c h.2.2.2 hs⟩
theorem Runs.power{xs:Array Keyed}{c:Nat}:∀{l:List (Nat×Nat×Nat)} {a b:Nat} (k:Nat),Runs blt xs l a b->Runs blt xs (l.modify k λx=>(x.1,x.2.1,c)) a b
 | [],_,_,k,h=>by simpa using h
 | (s,n,p)::r,a,b,0,h=>by
  rw[List.modify_zero_cons]
  exact h
 | (s,n,p)::r,a,b,k+1,h=>by
  rw[List.modify_succ_cons]
  exact ⟨h.1,h.2.1,h.2.2.1,Runs.power k h.2.2.2⟩
theorem Runs.two{xs:Array Keyed}:∀{l:List (Nat×Nat×Nat)} {a b i d g j c f k:Nat},Runs blt xs l a b->l[i]? = some (d,g,j)->l[i+1]? = some (c,f,k)->c=d+g/\1<=g/\1<=f/\a<=d/\c+f<=b/\Td blt xs d c/\Td blt xs c (c+f)
 | [],_,_,_,_,_,_,_,_,_,_,h,_=>by simp at h
 | (s,n,p)::r,a,b,0,d,g,j,c,f,k,h,h1,h2=>by
  obtain ⟨e,E,A,C⟩:=h
  have q:s=d/\n=g/\p=j:=by simpa using h1
  obtain ⟨w,x,m⟩:=q
  subst w x m
  subst e
  cases r with
  | nil=>simp at h2
  | cons y G =>
   obtain ⟨B,z,D⟩:=y
   have F:B=c/\z=f/\D=k:=by simpa using h2
   obtain ⟨w,x,m⟩:=F
   subst w x m
   obtain ⟨u,o,v,t⟩:=C
   have:=Runs.len t
   exact ⟨u,E,o,Ah _,by omega,by rw[u]; exact A,by rw[u]; exact v⟩
 | (s,n,p)::r,a,b,i+1,d,g,j,c,f,k,h,h1,h2=>by
  have:=Runs.two h.2.2.2 (by simpa using h1) (by simpa using h2)
  exact ⟨this.1,this.2.1,this.2.2.1,by have:=this.2.2.2.1; have:=h.2.1; omega,this.2.2.2.2.1,this.2.2.2.2.2⟩
theorem Runs.merge{xs ys:Array Keyed}:∀{l:List (Nat×Nat×Nat)} {a b i c j k f d m:Nat},Runs blt xs l a b->l[i]? = some (c,j,k)->l[i+1]? = some (f,d,m)->mQ xs ys c (f+d)->Td blt ys c (f+d)->Runs blt ys ((l.set i (c,j+d,k)).eraseIdx (i+1)) a b
 | [],_,_,_,_,_,_,_,_,_,_,h,_,_,_=>by simp at h
 | (s,n,p)::r,a,b,0,c,j,k,f,d,m,h,h1,h2,o,as=>by
  have x:=Runs.two h h1 h2
  obtain ⟨e,H,F,B⟩:=h
  have q:s=c/\n=j/\p=k:=by simpa using h1
  obtain ⟨v,w,t⟩:=q
  subst v w t
  subst e
  cases r with
  | nil=>simp at h2
  | cons y I =>
   obtain ⟨z,g,C⟩:=y
   have E:z=f/\g=d/\C=m:=by simpa using h2
   obtain ⟨v,w,t⟩:=E
   subst v w t
   obtain ⟨G,A,D,u⟩:=B
   rw[List.set_cons_zero,Si,List.eraseIdx_cons_zero]
   refine ⟨rfl,by omega,?_,?_⟩
   ·rw[show s+(n+g)=z+g by omega]
    exact as
   ·rw[show s+(n+g)=s+n+g by omega]
    exact Runs.out o (.inr (by omega)) u
 | (s,n,p)::r,a,b,i+1,c,j,k,f,d,m,h,h1,h2,o,as=>by
  have x:=Runs.two (i:=i) h.2.2.2 (by simpa using h1) (by simpa using h2)
  rw[List.set_cons_succ,Si]
  exact ⟨h.1,h.2.1,h.2.2.1.out o (.inl x.2.2.2.1),Runs.merge h.2.2.2 (by simpa using h1) (by simpa using h2) o as⟩
theorem iA(P:Array (Nat×Nat×Nat))(i:Nat)(v:Nat×Nat×Nat):((P.setIfInBounds i v).eraseIdxIfInBounds (i+1)).toList=(P.toList.set i v).eraseIdx (i+1):=by
 rw[Array.toList_eraseIdxIfInBounds,jJ]
section
variable{prog:Bp}{w:World}{A:Cw}{s:Ak}{a:Mt}{Ok:Keyed->Prop}{E:Value->Ak->Prop}{a₀:Array Keyed}
theorem Qa{a:Type}{c:Prop}[Decidable c]{p q:StateT Cb Sem a}{Q:a->Cb->Prop}{st:Cb}(h1:c->wpS (model prog w) A E s p Q st)(b:¬ c->wpS (model prog w) A E s q Q st):wpS (model prog w) A E s (if c then p else q) Q st:=by
 by_cases h:c
 ·rw[if_pos h]; exact h1 h
 ·rw[if_neg h]; exact b h
theorem jM(C:Cmp prog w A s a Ok blt){st:Cb}(g:Good0 a a₀ st)(h0:∀x∈a₀.toList,Ok x){lo i:Nat}(D:lo<=a₀.size)(m:Runs blt (arrOf st) (Bj st).toList 0 lo)(G:i+1<(Bj st).size){Q:Bool->Cb->Prop}(h:∀b,Good0 a a₀ b->Runs blt (arrOf b) (Bj b).toList 0 lo->(Bj b).size+1=(Bj st).size->(∀c d,lo<=c->Td blt (arrOf st) c d->Td blt (arrOf b) c d)->Q true b):wpS (model prog w) A E s (Wx i) Q st:=by
 obtain ⟨⟨p,B,F⟩,e⟩ : ∃x,(Bj st)[i]? = some x:=⟨(Bj st)[i],by simp⟩
 obtain ⟨⟨u,r,I⟩,j⟩ : ∃x,(Bj st)[i+1]? = some x:=⟨(Bj st)[i+1],by simp⟩
 have l:(Bj st).toList[i]? = some (p,B,F):=by simpa using e
 have n:(Bj st).toList[i+1]? = some (u,r,I):=by simpa using j
 obtain ⟨v,q,z,M,K,H,o⟩:=m.two l n
 refine qS C g h0 e j v q z (by omega) H o λb y k J f=>?_
 refine h b y ?_ ?_ λc d L t=>t.out f (.inr (by omega))
 ·rw[k,iA]
  exact m.merge l n f J
 ·have : (Bj b).toList.length+1=(Bj st).toList.length:=by
   rw[k,iA,List.length_eraseIdx,List.length_set,Af,if_pos G]
   omega
  simpa using this
theorem V8{st:Cb}(g:Good0 a a₀ st):Good a a₀ (Bj st) st:=⟨g.kind,g.fail,g.perm,rfl⟩
theorem pA{st:Cb}{p:Array (Nat×Nat×Nat)}(g:Good a a₀ p st):Good0 a a₀ st:=⟨g.kind,g.fail,g.perm⟩
theorem yS(C:Cmp prog w A s a Ok blt){st:Cb}(g:Good0 a a₀ st)(h0:∀x∈a₀.toList,Ok x)(hp:Bj st=#[])(hz:1<=a₀.size){Q:Unit->Cb->Prop}(h:∀d,Good0 a a₀ d->Td blt (arrOf d) 0 a₀.size->Q () d):wpS (model prog w) A E s iN Q st:=by
 unfold iN
 refine Az (Od ?_)
 have h3:(arrOf st).size=a₀.size:=g.size
 dsimp only
 rw[h3]
 generalize (sortPriv% PySem.Builtin.minRun) a₀.size a₀.size 0=mr
 refine Az (Ig (Ez
  (I:=λx c d=>∃lo,c=(none,lo)/\Good0 a a₀ d/\Runs blt (arrOf d) (Bj d).toList 0 lo/\lo<=a₀.size/\x<=lo)
  (Q:=λc d=>c=(none,a₀.size)/\Good0 a a₀ d/\Runs blt (arrOf d) (Bj d).toList 0 a₀.size) ?_ ?_ ⟨0,rfl,g,by rw[hp]; exact rfl,by omega,by omega⟩) ?_)
 ·(intro x c V _ hx q; obtain ⟨lo,rfl,P,G,N,U⟩ := q)
  dsimp only
  by_cases X:lo ≥ a₀.size
  ·rw[if_pos X]
   have e:lo=a₀.size:=by omega
   subst e
   exact Bo ⟨rfl,P,G⟩
  rw[if_neg X]
  refine Az (zZ C (V8 P) h0 (lo:=lo) (b:=a₀.size - lo) (by omega) (by omega) λm j v m1 m2 O ou=>?_)
  dsimp only
  have k:Runs blt (arrOf j) (Bj j).toList 0 lo:=by
   rw[v.pd]
   exact G.out ou (.inl (Ah _))
  have D:=pA v
  clear G P
  refine Qa (λH=>?_) (λH=>?_)
  ·refine Az (Tt ?_)
   refine Az (xD C v h0 (lo:=lo) (n:=min (a₀.size - lo) mr) (ok:=m) (by omega) O (by omega) λUy J K W=>?_)
   refine Qa (λz=>absurd z (by decide)) (λ_=>?_)
   have S:1<=min (a₀.size - lo) mr:=by omega
   have R:lo+min (a₀.size - lo) mr<=a₀.size:=by omega
   have u:Runs blt (arrOf Uy) (Bj Uy).toList 0 lo:=by
    rw[J.pd,<- v.pd]
    exact k.out W (.inl (Ah _))
   have F:=pA J
   generalize min (a₀.size - lo) mr=n at K S R
   clear v D k O ou W J m1 m2 H
   refine Az (Od ?_)
   cases hb:(Bj Uy).back? with
   | none =>
    dsimp only
    refine Az (Ko ?_)
    refine Bo ⟨lo+n,rfl,⟨F.kind,F.fail,F.perm⟩,?_,R,by omega⟩
    show Runs blt (arrOf Uy) ((Bj Uy).push (lo,n,0)).toList 0 (lo+n)
    rw[Fp]
    exact u.push S K
   | some y =>
    obtain ⟨s1,l1,p1⟩:=y
    dsimp only
    refine Az (Ig (Ez
     (I:=λ_ c d=>c=(none,())/\Good0 a a₀ d/\Runs blt (arrOf d) (Bj d).toList 0 lo/\Td blt (arrOf d) lo (lo+n))
     (Q:=λc d=>c=(none,())/\Good0 a a₀ d/\Runs blt (arrOf d) (Bj d).toList 0 lo/\Td blt (arrOf d) lo (lo+n)) ?_ (λ_ _ z=>z) ⟨rfl,F,u,K⟩) ?_)
    ·(intro z c f _ _ q; obtain ⟨rfl,t,o,p⟩ := q)
     refine Az (Od ?_)
     by_cases B:(Bj f).size > 1
     ·rw[if_pos B]
      obtain ⟨⟨a1,b1,L⟩,ho⟩ : ∃x,(Bj f)[(Bj f).size - 2]? = some x:=⟨(Bj f)[(Bj f).size - 2],by simp⟩
      rw[ho]
      dsimp only
      refine Qa (λ_=>Bo ⟨rfl,t,o,p⟩) (λ_=>?_)
      refine Az (jM C t h0 N o (i:=(Bj f).size - 2) (show (Bj f).size - 2+1<(Bj f).size by omega) λZ g5 M _ keep=>?_)
      refine Qa (λz=>absurd z (by decide)) (λ_=>?_)
      exact Bo ⟨rfl,g5,M,keep _ _ (Ah _) p⟩
     ·rw[if_neg B]
      exact Bo ⟨rfl,t,o,p⟩
    ·(intro c f q; obtain ⟨rfl,t,o,p⟩ := q)
     dsimp only
     refine Az (Ko ?_)
     refine Az (Ko ?_)
     refine Bo ⟨lo+n,rfl,⟨t.kind,t.fail,t.perm⟩,?_,R,by omega⟩
     show Runs blt (arrOf f) (((Bj f).modify ((Bj f).size - 1) _).push (lo,n,0)).toList 0 (lo+n)
     rw[Fp,Array.toList_modify]
     exact (o.power _).push S p
  ·have R:lo+m<=a₀.size:=by omega
   refine Az (Od ?_)
   cases hb:(Bj j).back? with
   | none =>
    dsimp only
    refine Az (Ko ?_)
    refine Bo ⟨lo+m,rfl,⟨D.kind,D.fail,D.perm⟩,?_,R,by omega⟩
    show Runs blt (arrOf j) ((Bj j).push (lo,m,0)).toList 0 (lo+m)
    rw[Fp]
    exact k.push m1 O
   | some y =>
    obtain ⟨s1,l1,p1⟩:=y
    dsimp only
    refine Az (Ig (Ez
     (I:=λ_ c d=>c=(none,())/\Good0 a a₀ d/\Runs blt (arrOf d) (Bj d).toList 0 lo/\Td blt (arrOf d) lo (lo+m))
     (Q:=λc d=>c=(none,())/\Good0 a a₀ d/\Runs blt (arrOf d) (Bj d).toList 0 lo/\Td blt (arrOf d) lo (lo+m)) ?_ (λ_ _ z=>z) ⟨rfl,D,k,O⟩) ?_)
    ·(intro z c f _ _ q; obtain ⟨rfl,t,o,p⟩ := q)
     refine Az (Od ?_)
     by_cases B:(Bj f).size > 1
     ·rw[if_pos B]
      obtain ⟨⟨a1,b1,L⟩,ho⟩ : ∃x,(Bj f)[(Bj f).size - 2]? = some x:=⟨(Bj f)[(Bj f).size - 2],by simp⟩
      rw[ho]
      dsimp only
      refine Qa (λ_=>Bo ⟨rfl,t,o,p⟩) (λ_=>?_)
      refine Az (jM C t h0 N o (i:=(Bj f).size - 2) (show (Bj f).size - 2+1<(Bj f).size by omega) λZ g5 M _ keep=>?_)
      refine Qa (λz=>absurd z (by decide)) (λ_=>?_)
      exact Bo ⟨rfl,g5,M,keep _ _ (Ah _) p⟩
     ·rw[if_neg B]
      exact Bo ⟨rfl,t,o,p⟩
    ·(intro c f q; obtain ⟨rfl,t,o,p⟩ := q)
     dsimp only
     refine Az (Ko ?_)
     refine Az (Ko ?_)
     refine Bo ⟨lo+m,rfl,⟨t.kind,t.fail,t.perm⟩,?_,R,by omega⟩
     show Runs blt (arrOf f) (((Bj f).modify ((Bj f).size - 1) _).push (lo,m,0)).toList 0 (lo+m)
     rw[Fp,Array.toList_modify]
     exact (o.power _).push m1 p
 ·(intro c V q; obtain ⟨lo,rfl,P,G,N,U⟩ := q)
  have : max 0 a₀.size=a₀.size:=by omega
  rw[this] at U
  have e:lo=a₀.size:=by omega
  subst e
  exact ⟨rfl,P,G⟩
 ·(intro c V q; obtain ⟨rfl,P,G⟩ := q)
  dsimp only
  have T:=Runs.len G
  rw[Af] at T
  refine Az (Ig (Ez
   (I:=λx c d=>c=(none,())/\Good0 a a₀ d/\Runs blt (arrOf d) (Bj d).toList 0 a₀.size/\((Bj d).size<=1\/(Bj d).size+x<=a₀.size))
   (Q:=λc d=>c=(none,())/\Good0 a a₀ d/\Runs blt (arrOf d) (Bj d).toList 0 a₀.size/\(Bj d).size<=1) ?_ ?_ ⟨rfl,P,G,.inr (by omega)⟩) ?_)
  ·(intro x c j _ hx q; obtain ⟨rfl,v,k,Y⟩ := q)
   refine Az (Od ?_)
   refine Qa (λh1=>Bo ⟨rfl,v,k,h1⟩) (λh1=>?_)
   have h5:¬ (Bj j).size<=1:=h1
   generalize hB:Option.any _ _=bb
   have h4:∀i,i+1<(Bj j).size->wpS (model prog w) A E s (Wx i) (λr Uy=>r=true/\Good0 a a₀ Uy/\Runs blt (arrOf Uy) (Bj Uy).toList 0 a₀.size/\(Bj Uy).size+1=(Bj j).size) j :=
    λi hi=>jM C v h0 (Ah _) k hi λUy J u sz _=>⟨rfl,J,u,sz⟩
   refine Az (Ig (h4 _ ?_) λr Uy ⟨er,J,u,sz⟩=>?_)
   ·cases bb with
    | true=>show (Bj j).size - 2 - 1+1<(Bj j).size; omega
    | false=>show (Bj j).size - 2+1<(Bj j).size; omega
   subst er
   refine Qa (λz=>absurd z (by decide)) (λ_=>?_)
   exact Bo ⟨rfl,J,u,.inr (by omega)⟩
  ·(intro c j q; obtain ⟨rfl,v,k,Y⟩ := q)
   have : max 0 a₀.size=a₀.size:=by omega
   rw[this] at Y
   exact ⟨rfl,v,k,by omega⟩
  ·(intro c j q; obtain ⟨rfl,v,k,Y⟩ := q)
   dsimp only
   refine Bo (h j v ?_)
   generalize hl:(Bj j).toList=l at k
   have h2:l.length<=1:=by rw[<- hl,Af]; exact Y
   match l,k,h2 with
   | [],k,_ =>
    have e:0=a₀.size:=k
    omega
   | [(s1,S,p1)],k,_ =>
    obtain ⟨_,_,O,e⟩:=k
    have e':0+S=a₀.size:=e
    rw[e'] at O
    exact O
end
end Ts
namespace Ts
open PySem PyProof.Rows L2
theorem bP:∀l:List Int,HT.lexLt l l=false
 | []=>rfl
 | x::r=>by rw[HT.lexLt_cons,if_pos rfl]; exact bP r
theorem eS:∀{a b c:List Int},HT.lexLt a b=true->HT.lexLt b c=true->HT.lexLt a c=true
 | [],[],_,h,_=>by rw[HT.lexLt_nil_nil] at h; cases h
 | [],_::_,[],_,h=>by rw[HT.lexLt_cons_nil] at h; cases h
 | [],_::_,_::_,_,_=>HT.lexLt_nil_cons _ _
 | _::_,[],_,h,_=>by rw[HT.lexLt_cons_nil] at h; cases h
 | _::_,_::_,[],_,h=>by rw[HT.lexLt_cons_nil] at h; cases h
 | x::a,y::b,z::c,h1,h2=>by
  rw[HT.lexLt_cons] at h1 h2 ⊢
  by_cases e:x=y
  ·subst e
   rw[if_pos rfl] at h1
   by_cases d:x=z
   ·subst d
    rw[if_pos rfl] at h2 ⊢
    exact eS h1 h2
   ·rw[if_neg d] at h2 ⊢
    exact h2
  ·rw[if_neg e] at h1
   have g:x<y:=of_decide_eq_true h1
   by_cases d:y=z
   ·subst d
    rw[if_neg e]
    exact h1
   ·rw[if_neg d] at h2
    have f:y<z:=of_decide_eq_true h2
    rw[if_neg (by omega)]
    exact decide_eq_true (by omega)
theorem tO:∀{a b:List Int},HT.lexLt a b=false->HT.lexLt b a=false->a=b
 | [],[],_,_=>rfl
 | [],_::_,h,_=>by rw[HT.lexLt_nil_cons] at h; cases h
 | _::_,[],_,h=>by rw[HT.lexLt_nil_cons] at h; cases h
 | x::a,y::b,h1,h2=>by
  rw[HT.lexLt_cons] at h1 h2
  by_cases e:x=y
  ·subst e
   rw[if_pos rfl] at h1 h2
   rw[tO h1 h2]
  ·rw[if_neg e] at h1
   rw[if_neg (Kx e)] at h2
   have d:=of_decide_eq_false h1
   have c:=of_decide_eq_false h2
   omega
theorem kU{a b c:List Int}(h:HT.lexLt a c=true):HT.lexLt a b=true\/HT.lexLt b c=true:=by
 cases e:HT.lexLt a b with
 | true=>exact .inl rfl
 | false =>
  cases d:HT.lexLt b a with
  | true=>exact .inr (eS d h)
  | false =>
   rw[<- tO e d]
   exact .inr h
def MJ(c:Addr->List Int)(x:Keyed):List Int:=match x.1 with
 | .ref a=>c a
 | _=>[]
def NA(c:Addr->List Int)(x y:Keyed):Bool:=HT.lexLt (MJ c x) (MJ c y)
def N3(c:Addr->List Int)(b:List Addr)(h:Heap):Prop:=∀r∈b,∃a:List Value,Fg a (c r)/\IsTup h r a.toArray
section
variable{prog:Bp}{w:World}{A:Cw}{E:Value->Ak->Prop}{s:Ak}{c:Addr->List Int}{d:List Addr}
theorem yF(i:N3 c d s.heap)(t:A.units<cLine){a b:Addr}(n:a∈d)(hb:b∈d){Q:Bool->Ak->Prop}(h:Q (HT.lexLt (c a) (c b)) s):wpAny (model prog w) A (oneLt' true (.ref a) (.ref b)) Q E s:=by
 obtain ⟨B,v,⟨D,r,z,e⟩,g,j,o,m⟩:=i a n
 obtain ⟨C,p,⟨G,q,x,f⟩,y,l,u,k⟩:=i b hb
 simp only at j m l k
 subst j m l k
 rw[oneLt'_eq]
 simp only[if_true]
 refine Aa (wpAny_cRoomFor t (Aa (wpAny_callSpecialIfBound?_slot ⟨_,g,rfl⟩ PySem.F.slot_tuple_lt ?_)))
 refine Pq PySem.F.slot_tuple_lt ⟨_,g,rfl⟩ PySem.F.entry_tuple_lt (PySem.F.args_tuple_lt_2 _ _) (HT.tuple_lt_ints a b _ _ o u r q e f (c a) (c b) (by simpa using v) (by simpa using p)) ⟨g,y,?_⟩
 exact Hy h
theorem S9(f:N3 c d s.heap)(i:A.units<cLine):Cmp prog w A s oneType' (λx=>∃r∈d,x.1=.ref r) (NA c) where
 run:=λx y Q E ⟨r,j,b⟩ ⟨m,a,e⟩ h=>by
  obtain ⟨p,n⟩:=x
  obtain ⟨o,l⟩:=y
  simp only at b e
  subst b e
  rw[keyLt'_oneType]
  exact yF f i j a h
 irr:=λx=>bP _
 tr:=λx y z g k=>eS g k
 neg:=λx y z h=>kU h
theorem Vz:∀{l:List Addr} {Q:List (Option Value)->Ak->Prop},(∀r∈l,∃j:List Value,Fg j (c r)/\IsTup s.heap r j.toArray)->(∀fs:List (Option Value),fs.length=l.length->(∀(i:Nat) (r:Addr),l[i]? = some r->∃f,fs[i]? = some f/\(f.isSome=true↔c r≠[]))->Q fs s)->wpAny (model prog w) A ((l.map Aq).mapM fI) Q E s
 | [],Q,_,h=>by
  rw[Nc,List.mapM_nil]
  exact Ag (h [] rfl λi r e=>by simp at e)
 | r::l,Q,hH,h=>by
  obtain ⟨j,x,o,g,k,n,e⟩:=hH r Ab
  rw[Au,List.mapM_cons]
  have one:∀{R:Option Value->Ak->Prop},R j.toArray[0]? s->wpAny (model prog w) A (fI (.ref r)) R E s:=λ{R} u=>by
   unfold fI
   refine Aa (Mb (T := "tuple") ⟨o,g,k⟩ ?_)
   rw[if_neg (by simp)]
   exact Aa (listItems_at g e (Ag u))
  refine Aa (one (Aa (Vz (λm q=>hH m (Ad _ q)) λfs C v=>Ag (h _ (by rw[Bd,Bd,C]) λi m t=>?_))))
  cases i with
  | zero =>
   have z:r=m:=by simpa using t
   subst z
   refine ⟨_,rfl,?_⟩
   have d:=x.length
   cases j with
   | nil =>
    cases p:c r with
    | nil=>simp
    | cons _ _=>rw[p] at d; simp at d
   | cons a b =>
    cases p:c r with
    | nil=>rw[p] at d; simp at d
    | cons _ _=>simp
  | succ i =>
   obtain ⟨f,y,B⟩:=v i m (by simpa using t)
   exact ⟨f,by simpa using y,B⟩
theorem iM:∀{l:List Addr} {Q:List Value->Ak->Prop},(∀r∈l,∃a:List Value,Fg a (c r)/\IsTup s.heap r a.toArray)->Q (l.map λ_=>Ed "tuple") s->wpAny (model prog w) A ((l.map Aq).mapM typeOf) Q E s
 | [],Q,_,h=>by
  rw[Nc,List.mapM_nil]
  exact Ag h
 | r::l,Q,hH,h=>by
  obtain ⟨a,f,o,g,k,n,e⟩:=hH r Ab
  rw[Au,List.mapM_cons]
  exact Aa (Mb (T := "tuple") ⟨o,g,k⟩ (Aa (iM (λd b=>hH d (Ad _ b)) (Ag h))))
theorem zW{r:Addr}{l:List Addr}(a:N3 c (r::l) s.heap)(h0:c r=[]){Q:Mt->Ak->Prop}(h:Q oneType' s):wpAny (model prog w) A (keyKind' ((r::l).map Aq).toArray) Q E s:=by
 rw[keyKind'_eq,bH]
 refine Aa ?_
 show wpAny (model prog w) A (List.toArray <$> ((r::l).map Aq).mapM fI) _ E s
 rw[map_eq_pure_bind]
 refine Aa (Vz a λfs n d=>Ag ?_)
 obtain ⟨f,b,j⟩:=d 0 r rfl
 have g:f=none:=by
  cases f with
  | none=>rfl
  | some v=>exact absurd h0 (j.mp rfl)
 subst g
 have e:¬ (fs.toArray.all λx=>x.isSome)=true:=by
  intro z
  have:=Array.all_eq_true'.mp z none (by
   have:=Aw b
   simpa using this)
  simp at this
 have i:¬ (fs.toArray[0]?.bind id).isSome=true:=by
  rw[List.getElem?_toArray,b]
  simp
 rw[if_neg e,if_neg i,oneTypeOnly'_eq,bH]
 refine Aa (Aa ?_)
 show wpAny (model prog w) A (List.toArray <$> ((r::l).map Aq).mapM typeOf) _ E s
 rw[map_eq_pure_bind]
 refine Aa (iM a (Ag ?_))
 have k:((r::l).map λ_=>Ed "tuple").toArray[0]? = some (Ed "tuple"):=by simp
 have m:(((r::l).map λ_=>Ed "tuple").toArray.all λx=>x == Ed "tuple")=true:=by
  simp only[List.all_toArray,bJ,List.all_eq_true]
  intro _ _
  rfl
 rw[k]
 dsimp only
 rw[m,if_pos rfl]
 exact Ag (Ag h)
end
theorem vals_refs:∀a:List Addr,Fz (a.map V.ref) (a.map Aq)
 | []=>.nil
 | _::l=>.cons rfl (vals_refs l)
def HK{b:Type}(c:Addr->b)(d0:b)(x:Keyed):b:=match x.1 with
 | .ref a=>c a
 | _=>d0
def MN{a:Type}(c:Addr->a)(d0:a)(lt_:a->a->Bool)(x y:Keyed):Bool:=lt_ (HK c d0 x) (HK c d0 y)
def u9{a:Type}(prog:Bp)(w:World)(A:Cw)(s:Ak)(b:List Addr)(c:Addr->a)(d0:a)(lt_:a->a->Bool):Prop :=
 ∃d,(∀(R:Mt->Ak->Prop) (E:Value->Ak->Prop),R d s->wpAny (model prog w) A (keyKind' (b.map Aq).toArray) R E s)/\Cmp prog w A s d (λx=>∃r∈b,x.1=.ref r) (MN c d0 lt_)
section
variable{prog:Bp}{w:World}{A:Cw}{E:Value->Ak->Prop}{s:Ak}{f:Type}{c:Addr->f}{d0:f}{lt_:f->f->Bool}{d:List Addr}
theorem sort_listG{a:Addr}{n:Nat}{P:Fin->Ak->Prop}(hl:s.heap.get? a=some (Iu "list" (d.map Aq).toArray n))(hC:∀h':Heap,(∀b o,b≠a->s.heap.get? b=some o->h'.get? b=some o)->2<=d.length->u9 prog w A { s with heap:=h' } d c d0 lt_)(hz:d.length<=Bf)(h:∀f:List Addr,f.Perm d->f.Pairwise (λx y=>lt_ (c y) (c x)=false)->P (.done (.ret .none)) { s with heap:=Wh s.heap a (d.map Aq) (f.map Aq).toArray }):wpAny (model prog w) A (Builtin.«list.sort» ⟨[.ref a],[]⟩) P E s:=by
 have lt:=Bm hl
 have p:(d.map Aq).toArray.size=d.length:=by simp
 rw[list_sort_plain]
 refine Aa (listItems_at hl rfl (Aa (listUpdate_at hl rfl ?_ (by rw[p]; exact hz))))
 obtain ⟨M,B⟩ : ∃M,(s.heap.update a (Lf λ_=>#[])).get? a=some (Iu "list" #[] M):=⟨_,Qq hl (λ_=>#[])⟩
 refine Aa (seqEpoch_at B rfl (Aa (wpAny_newTuple (Aa (wpAny_newList (Dn ?_)) ))))
 have t:(((s.heap.update a (Lf λ_=>#[])).push (Iu "tuple" (d.map Aq).toArray 0)).push (Iu "list" #[] 0)).get? a=some (Iu "list" #[] M):=by
  rw[Heap.get?_push_ne _ _ _ (by rw[size_push',Heap.size_update]; exact Ck (Ho lt)),
   Heap.get?_push_ne _ _ _ (by rw[Heap.size_update]; exact Ck lt)]
  exact B
 have kept:∀b o,b≠a->s.heap.get? b=some o->(((s.heap.update a (Lf λ_=>#[])).push (Iu "tuple" (d.map Aq).toArray 0)).push (Iu "list" #[] 0)).get? b=some o:=λb o Z e=>by
  refine Aj _ (Aj _ ?_)
  exact ((Bs s.heap a _).2 b Z).trans e
 show wpAny (model prog w) A _ P E { s with heap:=((s.heap.update a (Lf λ_=>#[])).push (Iu "tuple" (d.map Aq).toArray 0)).push (Iu "list" #[] 0) }
 dsimp only
 -- what is left rA the runs
 have D:∀(out:Array Value) (f:List Addr),out=(f.map Aq).toArray->f.Perm d->f.Pairwise (λx y=>lt_ (c y) (c x)=false) ->
   P (.done (.ret .none)) { s with heap:=Wh s.heap a (d.map Aq) out }:=λout f e p1 p2=>by rw[e]; exact h f p1 p2
 by_cases u:(d.map Aq).toArray.size<2
 ·rw[if_pos u,if_pos u]
  refine Aa (Ag ?_)
  rw[StateT.run_pure]
  refine Aa (Ag (Aa (seqEpoch_at t rfl (Aa (listUpdate_at t rfl ?_ (by simp) ?_)))))
  ·simp only[bne_self_eq_false,Bt,if_false]
   refine Ag (D _ d ?_ (Gw _) ?_)
   ·show Array.map (λx=>x.2) ((d.map Aq).toArray.zip (d.map Aq).toArray)=_
    apply Array.ext'
    simp [List.map_snd_zip]
   ·rw[p] at u
    match d,u with
    | [],_=>exact Dz
    | [_],_=>exact Fj _ _
    | _::_::_,u=>simp only[Bd] at u; omega
  ·show (Array.map (λx:Keyed=>x.2) ((d.map Aq).toArray.zip (d.map Aq).toArray)).size<=Bf+1
   rw[Vm,Array.size_zip,p]
   omega
 ·rw[if_neg u,if_neg u]
  rw[p] at u
  obtain ⟨N,G,C⟩:=hC (((s.heap.update a (Lf λ_=>#[])).push (Iu "tuple" (d.map Aq).toArray 0)).push (Iu "list" #[] 0)) kept (by omega)
  refine Aa (G _ _ ?_)
  have K:(pairsOf (d.map Aq)).size=d.length:=by rw[pairsOf_size,Ac]
  refine Aa (Hg (yS C (a₀:=pairsOf (d.map Aq)) (st:=SortSt.mk' N ((d.map Aq).toArray.zip (d.map Aq).toArray) #[] 7 none) (E:=E)
   (Q:=λ_ m=>Good0 N (pairsOf (d.map Aq)) m/\Td (MN c d0 lt_) (arrOf m) 0 (pairsOf (d.map Aq)).size)
   ⟨rfl,rfl,Array.Perm.refl _⟩ (λx v=>?_) rfl (by rw[K]; omega) λm g L=>⟨g,L⟩) ?_ λ_ _ z=>z)
  ·rw[pairsOf_toList] at v
   obtain ⟨_,H⟩:=mem_zip_self v
   obtain ⟨r,J,e⟩:=Bl.mp H
   exact ⟨r,J,e.symm⟩
  ·(rintro ⟨⟨⟩,m⟩ s' q_; obtain ⟨rfl,g,L⟩ := q_)
   dsimp only
   -- the things of the new order
   have I:(arrOf m).toList.Perm ((d.map Aq).zip (d.map Aq)):=by rw[<- pairsOf_toList]; exact Qh.mp g.perm
   have F:∀x∈(arrOf m).toList,∃r∈d,x=(Aq r,Aq r):=λx v=>by
    obtain ⟨e,H⟩:=mem_zip_self (I.mem_iff.mp v)
    obtain ⟨r,J,S⟩:=Bl.mp H
    refine ⟨r,J,?_⟩
    obtain ⟨x1,x2⟩:=x
    simp only at e S
    rw[<- e,S]
   have Y:∀l:List Keyed,(∀x∈l,∃r∈d,x=(Aq r,Aq r))->∃f:List Addr,l=f.map λr=>(Aq r,Aq r):=by
    intro l
    induction l with
    | nil=>intro _; exact ⟨[],rfl⟩
    | cons x l ih =>
     intro v
     obtain ⟨r,_,e⟩:=v x Ab
     obtain ⟨f,e'⟩:=ih λy hy=>v y (Ad _ hy)
     exact ⟨r::f,by rw[Au,e,e']⟩
   obtain ⟨f,q⟩:=Y _ F
   have W:(d.map Aq).zip (d.map Aq)=d.map λr=>(Aq r,Aq r):=by
    rw[List.zip_map',]
   rw[q,W] at I
   have inj:∀x:Keyed,∃a:Addr,True:=λ_=>⟨0,trivial⟩
   have O:f.Perm d:=by
    have:=I.map (λx:Keyed=>match x.1 with | .ref a=>a | _=>0)
    rw[Eh,Eh] at this
    simpa [Function.comp_def] using this
   have so:f.Pairwise (λx y=>lt_ (c y) (c x)=false):=by
    rw[Bx]
    intro i j hi R h0
    have ls:(arrOf m).size=f.length:=by
     have:=congrArg Iy q
     rw[Af,Ac] at this
     exact this
    have U:∀k (G:k<f.length),X (arrOf m) k=(Aq f[k],Aq f[k]):=λk G=>by
     have T:=Ew (aX (xs:=arrOf m) (i:=k) (by omega))
     rw[q,Br,Bk G] at T
     exact (Cn T).symm
    have:=L i j (Ds _) (by omega) (by rw[K,<- O.length_eq]; exact R)
    rw[U i hi,U j R] at this
    exact this
   refine Aa (seqEpoch_at t rfl (Aa (listUpdate_at t rfl ?_ (by simp) ?_)))
   ·have V:Ms m=none:=g.fail
    rw[V]
    simp only[bne_self_eq_false,Bt,if_false]
    refine Ag (D _ f ?_ O so)
    apply Array.ext'
    rw[Array.toList_map,q,Eh]
    rfl
   ·show (Array.map (λx:Keyed=>x.2) (arrOf m)).size<=Bf+1
    rw[Vm,g.size,K]
    omega
end
section
variable{prog:Bp}{w:World}{A:Cw}{E:Value->Ak->Prop}{s:Ak}{c:Addr->List Int}{a:List Addr}
theorem X2{b:Bool}{x y:Int}{t u:Tok}{Q:Bool->Ak->Prop}(h:Q (decide (x<y)) s):wpAny (model prog w) A (oneLt' b (.int x t) (.int y u)) Q E s:=by
 cases b with
 | true=>exact oneLt_int h
 | false=>exact PySem.W.kat_one _ _ (lt_int h)
theorem oQ{b:Bool}{Q:Bool->Ak->Prop}:∀{xs ys:List Value} {ns c:List Int} (i:Nat),Fg xs ns->Fg ys c->Q (HT.lexLt ns c) s->PySem.W.KatLex prog w A b (decide (xs.length<ys.length)) Q (xs.zip ys) i s
 | _,_,_,_,i,.nil,.nil,h=>h
 | _,_,_,_,i,.nil,.cons m u k,h=>h
 | _,_,_,_,i,.cons n t k,.nil,h=>h
 | _,_,_,_,i,.cons (vs:=xs) n t k,.cons (vs:=ys) m u k2,h=>by
  rw[Qo]
  refine PySem.W.kat_cons (wpAny_eqBool_int ?_)
  rw[HT.lexLt_cons] at h
  cases a:(n == m) with
  | true =>
   have e:n=m:=by simpa using a
   rw[if_pos e] at h
   refine PySem.W.kat_yes ?_
   have : decide ((Ld n t::xs).length<(Ld m u::ys).length)=decide (xs.length<ys.length):=by simp
   rw[this]
   exact oQ (i+1) k k2 h
  | false =>
   have e:¬ n=m:=by simpa using a
   rw[if_neg e] at h
   exact PySem.W.kat_no (X2 h)
theorem cQ:∀{l:List Addr},(∀r∈l,∃a:List Value,Fg a (c r)/\IsTup s.heap r a.toArray)->(∀r∈l,c r≠[])->∃fs:List Value,PySem.W.KatTups s.heap (l.map Aq) fs/\fs.length=l.length/\∀v∈fs,∃i t,v=.int i t
 | [],_,_=>⟨[],.nil,rfl,λ_ h=>(nomatch h)⟩
 | r::l,hH,hn=>by
  obtain ⟨fs,q,w,u⟩:=cQ (λf d=>hH f (Ad _ d)) (λf d=>hn f (Ad _ d))
  obtain ⟨a,b,o,g,k,n,e⟩:=hH r Ab
  have j:=hn r Ab
  match a,b with
  | [],b=>cases p:c r with
   | nil=>exact absurd p j
   | cons _ _=>rw[p] at b; cases b
  | v::a,b =>
   have : ∃i t,v=.int i t:=by
    revert b
    generalize c r=cr
    intro b
    cases b with
    | cons m t k=>exact ⟨_,_,rfl⟩
   refine ⟨v::fs,PySem.W.KatTups.cons g k e (by simp) q,by rw[Bd,Bd,w],λx hx=>?_⟩
   rcases An.mp hx with rfl | hx
   ·exact this
   ·exact u x hx
theorem kinded_ints(d:N3 c a s.heap)(H:A.units<cLine)(h2:2<=a.length):u9 prog w A s a c [] HT.lexLt:=by
 obtain ⟨r,l,rfl⟩ : ∃r l,a=r::l:=by
  cases a with
  | nil=>simp at h2
  | cons r l=>exact ⟨r,l,rfl⟩
 by_cases J:c r=[]
 ·exact ⟨oneType',λR E h=>zW d J h,S9 d H⟩
 by_cases b:∀G∈r::l,c G≠[]
 ·obtain ⟨fs,M,V,K⟩:=cQ d b
  refine ⟨tuples' true,λR E h=>?_,?_⟩
  ·refine PySem.W.kat_kind (T:=.type "int") M (by rw[V]; simp) (λv L=>?_) (by decide) h
   obtain ⟨i,t,rfl⟩:=K v L
   exact .now
  ·refine ⟨λx y Q E ⟨m,g,k⟩ ⟨n,j,o⟩ h=>?_,λx=>bP _,λx y z=>eS,λx y z=>kU⟩
   obtain ⟨x1,x2⟩:=x
   obtain ⟨O,S⟩:=y
   simp only at k o
   subst k o
   obtain ⟨p,B,o1,g1,k1,n1,e1⟩:=d m g
   obtain ⟨q,u,o2,Y,k2,n2,e2⟩:=d n j
   refine PySem.W.kat_lt g1 e1 Y e2 ?_
   have e:(decide (p.toArray.size<q.toArray.size))=decide (p.length<q.length):=by simp
   rw[e]
   exact oQ 0 B u h
 ·refine ⟨general',λR E h=>?_,?_⟩
  ·rw[kat_kind_eq,bH,map_eq_pure_bind]
   refine Aa (Aa (Vz d λfs hl I=>Ag ?_))
   have X:¬ (fs.toArray.all λx=>x.isSome)=true:=by
    intro z
    refine b λG C=>?_
    obtain ⟨i,Z⟩:=List.getElem?_of_mem C
    obtain ⟨f,D,F⟩:=I i G Z
    refine F.mp ?_
    exact Array.all_eq_true'.mp z f (by have:=Aw D; simpa using this)
   obtain ⟨f,D,F⟩:=I 0 r rfl
   have N:(fs.toArray[0]?.bind id).isSome=true:=by
    rw[List.getElem?_toArray,D]
    simpa using F.mpr J
   rw[if_neg X,if_pos N]
   exact Ag h
  ·refine ⟨λx y Q E ⟨m,g,k⟩ ⟨n,j,o⟩ h=>?_,λx=>bP _,λx y z=>eS,λx y z=>kU⟩
   obtain ⟨x1,x2⟩:=x
   obtain ⟨O,S⟩:=y
   simp only at k o
   subst k o
   obtain ⟨p,B,U⟩:=d m g
   obtain ⟨q,u,P⟩:=d n j
   show wpAny (model prog w) A (oneLt' false (.ref m) (.ref n)) Q E s
   exact PySem.W.kat_one _ _ (HT.lt_tupInts U P (show Fg p.toArray.toList (c m) by simpa using B) (show Fg q.toArray.toList (c n) by simpa using u) H h)
end
end Ts
namespace DL
open PySem L2 Nd
def Ol{a:Type}(xs:List a)(lo b:Option Int):List a:=(xs.drop (HT.sIx xs.length 0 lo)).take (HT.sIx xs.length xs.length b - HT.sIx xs.length 0 lo)
theorem dP{b c:Type}(f:b->c)(xs:List b)(lo a:Option Int):Ol (xs.map f) lo a=(Ol xs lo a).map f:=by
 unfold Ol
 rw[Ac,Yl,Ym]
theorem dX{b:Type}(xs:List b)(lo a:Option Int):(Ol xs lo a).Sublist xs:=(Ks _ _).trans (Ja _ _)
theorem iI{a:Type}(xs:List a)(k:Nat):Ol xs none (some (k:Int))=xs.take k:=by
 unfold Ol
 rw[HT.sIx_none,HT.sIx_nat,Lb,bT]
 by_cases h:k<=xs.length
 ·rw[Mm h]
 ·rw[fU (by omega),Gy,Eu (by omega)]
section
variable{K:PySem.W.Frag}{H:Hp}
theorem RdFs.drop:∀(n:Nat) {xs:List V} {a:List Ae} {F:List Addr},RdFs K H xs a F->∃G,RdFs K H (xs.drop n) (a.drop n) G/\G.Sublist F
 | 0,_,_,F,h=>⟨F,h,Eb _⟩
 | n+1,_,_,_,.nil=>⟨[],.nil,Eb _⟩
 | n+1,_,_,_,.cons _ t=>by
  obtain ⟨G,b,c⟩:=RdFs.drop n t
  exact ⟨G,b,c.trans (Di _ _)⟩
theorem RdFs.take:∀(n:Nat) {xs:List V} {b:List Ae} {F:List Addr},RdFs K H xs b F->∃G,RdFs K H (xs.take n) (b.take n) G/\G.Sublist F
 | 0,_,_,F,h=>⟨[],.nil,fJ _⟩
 | n+1,_,_,_,.nil=>⟨[],.nil,Eb _⟩
 | n+1,_,_,_,.cons a t=>by
  obtain ⟨G,c,d⟩:=RdFs.take n t
  exact ⟨_,.cons a c,(Eb _).append d⟩
theorem RdFs.cut{xs:List V}{a:List Ae}{F:List Addr}(h:RdFs K H xs a F)(lo b:Option Int):∃G,RdFs K H (eT xs lo b) (Ol a lo b) G/\G.Sublist F:=by
 unfold eT Ol
 rw[h.len]
 obtain ⟨G,d,g⟩:=h.drop (HT.sIx a.length 0 lo)
 obtain ⟨c,f,e⟩:=d.take (HT.sIx a.length a.length b - HT.sIx a.length 0 lo)
 exact ⟨c,f,e.trans g⟩
theorem RdFs.rev:∀{xs:List V} {b:List Ae},RdFs K H xs b []->RdFs K H xs.reverse b.reverse []:=λ{xs b} h=>by
 have : ∀{xs:List V} {b:List Ae} {F:List Addr},RdFs K H xs b F->F=[]->RdFs K H xs.reverse b.reverse []:=by
  intro xs b F h
  induction xs generalizing b F with
  | nil=>intro _; cases h; exact .nil
  | cons x xs c =>
   intro e
   cases h with
   | @cons _ d _ b F G a t =>
    obtain ⟨rfl,rfl⟩:=tF.mp e
    rw[Nb,Nb]
    exact (c t rfl).snoc a
 exact this h rfl
theorem RdFs.ints:∀ns:List Int,RdFs K H (ns.map V.int) (ns.map Bq) []
 | []=>.nil
 | n::ns=>RdFs.cons (F:=[]) (.int n) (RdFs.ints ns)
theorem RdFs.ints_inv:∀{ns:List Int} {xs:List V} {F:List Addr},RdFs K H xs (ns.map Bq) F->xs=ns.map V.int/\F=[]
 | [],_,_,h=>by cases h; exact ⟨rfl,rfl⟩
 | n::ns,_,_,h=>by
  rw[Au] at h
  cases h with
  | cons a t =>
   obtain ⟨rfl,rfl⟩:=a.int_inv
   obtain ⟨rfl,rfl⟩:=RdFs.ints_inv t
   exact ⟨rfl,rfl⟩
theorem RdFs.bools_inv:∀{ns:List Bool} {xs:List V} {F:List Addr},RdFs K H xs (ns.map PyData.bool) F->xs=ns.map V.bl/\F=[]
 | [],_,_,h=>by cases h; exact ⟨rfl,rfl⟩
 | n::ns,_,_,h=>by
  rw[Au] at h
  cases h with
  | cons a t =>
   obtain ⟨rfl,rfl⟩:=a.bl_inv
   obtain ⟨rfl,rfl⟩:=RdFs.bools_inv t
   exact ⟨rfl,rfl⟩
end
theorem dO{a b:List Ae}:Dt (a++b)=(Dt a && Dt b):=by
 induction a with
 | nil=>simp [Dt]
 | cons x a c=>simp [Dt,c,Bool.and_assoc]
theorem Nq(ns:List Int):Dt (ns.map Bq)=true:=Vn (λ_=>by simp [imm]) ns
def tH:D2:=λx y P=>match x,y with
 | .dat _ (.list ds),.dat _ (.list es)=>Dt ds=true/\Dt es=true/\ds.length+es.length<=1000000/\P (.dat .ow (.list (ds++es)))
 | _,_=>False
def jO:D2:=λx y P=>match x,y with
 | .dat _ (.tuple ds),.dat _ (.tuple es)=>Dt ds=true/\Dt es=true/\ds.length+es.length<=1000000/\P (.dat .ow (.tuple (ds++es)))
 | _,_=>False
def MB:D2:=λx y P=>match x,y with
 | .dat _ (.list ds),.dat _ (.int k)=>Dt ds=true /\ -1000000<=k/\k<=1000000/\ds.length * k.toNat<=1000000/\P (.dat .ow (.list (Jp k.toNat ds).flatten))
 | _,_=>False
section
variable{K:PySem.W.Frag}
theorem BC:jS K AZ tH:=by
 intro z X n S T x y v w F G H Q P d c k
 unfold tH at c
 split at c
 ·obtain ⟨i,o,u,p⟩:=c
  obtain ⟨b,h,s,rfl,j,f,_,_⟩:=(d.told mem_mid).list_inv
  obtain ⟨a,l,t,rfl,g,e,_,_⟩:=(d.told Fm).list_inv
  have r:=e.len
  have A:=f.len
  refine ⟨a,b,l,h,rfl,rfl,g,j,pF (by omega),λq m=>?_⟩
  exact k _ _ _ _ (d.drop2.newI (e.app f) (by rw[dO,i,o]; rfl) (by rw[Bh]; exact pF (by omega)) m .ow) p
 ·exact c.elim
theorem U4:jS K (AO K) jO:=by
 intro C X n S T x y v w F G H Q P c f k
 unfold jO at f
 split at f
 ·obtain ⟨r,A,B,p⟩:=f
  obtain ⟨b,i,rfl,j,g,s⟩:=(c.told mem_mid).tup_inv
  obtain ⟨a,l,rfl,h,d,t⟩:=(c.told Fm).tup_inv
  have o:=d.len
  have u:=g.len
  obtain rfl:=d.imm r
  obtain rfl:=g.imm A
  refine ⟨a,b,l,i,rfl,rfl,Vp.of h,Vp.of j,pF (by omega),λe=>?_,λe=>?_,λq z=>?_⟩
  ·subst e
   obtain rfl:=Hm.mp (o.symm.trans rfl)
   exact k _ _ [] _ (c.drop2.pushI (.tup j s g)) p
  ·subst e
   obtain rfl:=Hm.mp (u.symm.trans rfl)
   rw[Fl] at p
   exact k _ _ [] _ (c.drop2.pushI (.tup h t d)) p
  ·have m:=Gn z (.tup (l++i))
   exact k _ _ [] _ ((c.drop2.grow m (Ah _)).pushI (.tup El (by rw[Bh]; exact pF (by omega)) ((d.app g).kp (Kp.of m)))) p
 ·exact f.elim
end
section
variable{X:Cx}{a b:Expr}{d c:DE}{pos:Pos}
theorem jL(e:Fk X a d)(hb:Fk X b c):Fk X (.BinOp a .Add b pos) (Vf tH d c):=Xk K0 BC e hb
theorem tR(e:Fk X a d)(hb:Fk X b c):Fk X (.BinOp a .Add b pos) (Vf jO d c):=Xk P2 U4 e hb
end
abbrev DO:=DS->(Option Int->DS->Prop)->Prop
def LO(K:PySem.W.Frag)(d:DO):TO:=λg H Q=>∃(f:Hp) (X:Addr->Prop) (S T:List Ent) (b:DS) (P:Option Int->DS->Prop),vs S=g/\Sl S b/\At K f X b.n (S++T) H/\d b P /\
 ∀o a c e,vs c=g->Sl c a->At K f X a.n (c++T) e->P o a->Q o e
abbrev FN(X:Cx)(e:Option Expr)(d:DO):Prop:=PO X e (LO X.K d)
theorem PO.imp{X:Cx}{e:Option Expr}{t t':TO}(h:PO X e t)(k:∀σ H Q,t' σ H Q->t σ H Q):PO X e t':=λa s σ H Q I q=>h a s σ H Q I (k σ H Q q)
def tS:DO:=λa P=>P none a
def AC(c:DE):DO:=λb P=>c b λx a=>match x with
 | .dat _ (.int i)=>P (some i) a
 | _=>False
section
variable{X:Cx}{e:Expr}{b:DE}{lo c:Option Expr}{f g:DO}{pos d:Pos}
theorem bZ:FN X none tS:=by
 refine PO.imp N6 λf H Q h=>?_
 obtain ⟨e,Y,S,T,d,P,rfl,a,b,c,k⟩:=h
 exact k _ d S H rfl a b c
theorem Ta(h:Fk X e b):FN X (some e) (AC b):=by
 refine PO.imp (W3 h) λq H Q h=>?_
 obtain ⟨n,Y,S,T,m,P,rfl,d,f,l,k⟩:=h
 refine ⟨n,Y,S,T,m,_,rfl,d,f,l,λx c v F o j i g a p=>?_⟩
 split at p
 ·obtain ⟨rfl,_⟩:=(a.told mem_mid).int_inv
  exact ⟨_,rfl,k _ c o j i g a.drop p⟩
 ·exact p.elim
def ML(i:Bool)(b:DE)(f g:DO):DE:=λe P=>b e λx d=>f d λl c=>g c λh a=>match x with
 | .dat m (.list ds)=>aC i m (Ol ds l h) λz=>P z a
 | .dat m (.tuple ds)=>kX i m (Ol ds l h) λz=>P z a
 | _=>False
def KN(K:PySem.W.Frag):V->Option Int->Option Int->Hp->VK->Prop:=λx lo c H Q=>EV K x lo c H Q\/AB x lo c H Q
theorem cY{i:Bool}(he:Fk X e b)(hl:FN X lo f)(W:FN X c g):Fk X (.Subscript e (.Slice lo c none d) pos) (ML i b f g):=by
 refine PE.imp (nM (r:=KN X.K) (P8.or O5) he hl W) λσ H Q h=>?_
 obtain ⟨E,Y,S,T,δ,P,rfl,U,V,hd,k⟩:=h
 refine ⟨E,Y,S,T,δ,_,rfl,U,V,hd,λx s v F S1 H1 e1 e2 y p1=>?_⟩
 refine ⟨E,Y,S1,⟨some v,x,F⟩::T,s,_,e1,e2,y,p1,λl I Z H2 e3 e4 C d=>?_⟩
 refine ⟨E,Y,Z,⟨some v,x,F⟩::T,I,_,e3,e4,C,d,λh n O H3 M R j o=>?_⟩
 split at o
 ·obtain ⟨a,u,G,rfl,q,t,rfl,A⟩:=(j.told mem_mid).list_inv
  refine .inl ⟨a,u,rfl,Ux.of q,λp B=>?_⟩
  obtain ⟨G',D,L⟩:=t.cut l h
  obtain ⟨z,J,m,w⟩:=j.newL D (L.trans (Dr _ _)) (Co (dX _ _ _).length_le A) B o
  exact k z n _ J O _ M R m w
 ·obtain ⟨a,u,rfl,q,t,A⟩:=(j.told mem_mid).tup_inv
  refine .inr ⟨a,u,rfl,q,λp H' B N=>?_⟩
  obtain ⟨G',D,L⟩:=t.cut l h
  obtain ⟨z,J,m,w⟩:=(j.grow N (Ah _)).oldT (D.kp (Kp.of N)) L (Co (dX _ _ _).length_le A) B o
  exact k z n _ J O _ M R m w
 ·exact o.elim
def AR(b:DE):DE:=λc P=>b c λx a=>match x with
 | .dat _ (.list ds)=>Dt ds=true/\P (.dat .ow (.list ds.reverse)) a
 | _=>False
theorem qW{a:List Ae}(h:Dt a=true):Dt a.reverse=true:=qT.mpr λx b=>qT.mp h x (Li.mp b)
theorem Q1{k:Expr}{l:TE}(y:Fk X e b)(t:PE X k l)(i:∀σ H Q,Q (.int (-1)) H->l σ H Q):Fk X (.Subscript e (.Slice none none (some k) d) pos) (AR b):=by
 refine PE.imp (Q7 y t i) λσ H Q h=>?_
 obtain ⟨w,Y,S,T,u,P,rfl,n,o,C,z⟩:=h
 refine ⟨w,Y,S,T,u,_,rfl,n,o,C,λx g v F D E B A c f=>?_⟩
 split at f
 ·obtain ⟨a,q,G,rfl,m,j,rfl,r⟩:=(c.told mem_mid).list_inv
  obtain rfl:=j.imm f.1
  refine ⟨a,q,rfl,Ux.of m,λp s=>?_⟩
  exact z _ g _ _ D _ B A (c.drop.newI j.rev (qW f.1) (by rw[Hv]; exact r) s .ow) f.2
 ·exact f.elim
end
end DL
namespace NdS
open PySem PyProof.Rows
section
variable{prog:Bp}{w:World}{A:Cw}{R:Result->Ak->Prop}
theorem xU{U:List Int}(hU:U.length<=62){a it l:Addr}(v:a≠it)(Y:a≠l)(P:l≠it){c:Array Value}{ns:List Int}(K:Fg c.toList ns)(V:Xr U ns)(Q:A.in1.handled=none):∀(k i:Nat) (s:Ak) (es:Array (Int×Value)) (ep:Nat) (t:Bc),c.size - i=k->i<=c.size->s.heap.IsListIter it l i->s.heap.IsList l c->SetS w s.heap a es ep t->Xr U (Lo es)->(∀m C t' h' p,(∀b o,b≠a->b≠it->s.heap.get? b=some o->h'.get? b=some o)->SetS w h' a m C t'->(∀x,x∈Lo m↔x∈Lo es\/x∈ns.drop i)->R (.ok (.ret .none)) { s with heap:=h',toks:=p })->Na (model prog w) A (.builtin "set.update.loop" ⟨[.ref a,.ref it],[]⟩) R s:=by
 have len:ns.length=c.size:=by rw[<- K.length,Af]
 intro k
 induction k with
 | zero =>
  intro i s es ep t hk hi h u S E B
  have e:i=c.size:=by omega
  refine Ff Eg ?_
  rw[Er Cq _]
  show wpAny _ A.in1 (Nk (.ref it) >>= _) _ _ s
  refine Aa (Yj Q h u (by rw[e]; simp) λh' x=>?_)
  refine Ag (B es ep t h' s.toks (λb o _ q e=>x b o q e) (S.keep λo q=>x a o v q) λx=>?_)
  rw[e,<- len,fK]
  simp
 | succ k ih =>
  intro i s es ep t hk hi h u S E B
  have lt:i<c.size:=by omega
  have d:i<ns.length:=by omega
  obtain ⟨p,I⟩:=IntsAre.int_at K i c[i] (by simp [lt])
  have eg:ns.getD i 0=ns[i]:=by simp [List.getD,d]
  rw[eg] at I
  refine Ff Eg ?_
  rw[Er Cq _]
  show wpAny _ A.in1 (Nk (.ref it) >>= _) _ _ s
  refine Aa (Wg h u (x:=c[i]) (by simp [lt]) λL j g=>?_)
  rw[I]
  show wpAny _ A.in1 (Wi [Ld ns[i] p] (setAdd a (.int ns[i] p)) >>= _) _ _ _
  refine Aa (Dn ?_)
  unfold setAdd
  refine Dn (Aa ((Ci prog w).pyHash (k:=ns[i]) (fS _ _ _ _) ?_))
  have O:SetS w L a es ep t:=S.keep λo q=>(g.2 a v).trans q
  have z:=E.size O.nd
  refine B2 (s:={ s with heap:=L,toks:=s.toks+1 }) O (by omega) λb n F X h2 f T p2=>?_
  have J:∀x,x∈Lo n↔x=ns[i]\/x∈Lo es:=λx=>by rw[p2.mem_iff,vO]
  refine Ag ⟨Mr Cq _,?_⟩
  refine ih (i+1) { s with heap:=h2,toks:=s.toks+1 } n F X (by omega) lt ?_ ?_ T (λx hx=>?_) λy D Z h3 H W S3 m3=>?_
  ·obtain ⟨o,G,r⟩:=j
   exact ⟨o,(f.2 it (Kx v)).trans G,r⟩
  ·obtain ⟨o,G,r⟩:=u
   exact ⟨o,(f.2 l (Kx Y)).trans ((g.2 l P).trans G),r⟩
  ·rcases (J x).mp hx with q | q
   ·rw[q]; exact V _ (Fb d)
   ·exact E x q
  ·refine B y D Z h3 H (λb o M N e=>W b o M N ((f.2 b M).trans ((g.2 b N).trans e))) S3 λx=>?_
   rw[m3,J,Lm d,An]
   constructor
   ·rintro ((q | q) | q)
    ·exact .inr (.inl q)
    ·exact .inl q
    ·exact .inr (.inr q)
   ·rintro (q | q | q)
    ·exact .inl (.inr q)
    ·exact .inl (.inl q)
    ·exact .inr q
end
section
variable{prog:Bp}{w:World}{A:Cw}{E:Value->Ak->Prop}{s:Ak}
theorem N5{U:List Int}(W:U.length<=62){l:Addr}{a:Array Value}{ns:List Int}{Q:Value->Ak->Prop}(O:A.handled=none)(hl:s.heap.IsList l a)(N:Fg a.toList ns)(P:Xr U ns)(h:∀es ep t h' f,(∀b o,s.heap.get? b=some o->h'.get? b=some o)->SetS w h' s.heap.objs.size es ep t->(∀x,x∈Lo es↔x∈ns)->Q (.ref s.heap.objs.size) { s with heap:=h',toks:=f }):wpAny (model prog w) A (call (.type "set") [.ref l]) Q E s:=by
 obtain ⟨c,tl,J⟩:=PySem.F.called_set.mro
 have i:=PySem.F.called_set.made
 have K:=PySem.F.called_set.sub
 have h1:=PySem.F.called_set.notType
 have h2:=PySem.F.called_set.canCreate
 have L:=PySem.F.typeCall_set_1 (.ref l)
 refine wpAny_call (Qr (show wpAny _ _ (callAny (.type "set") _) _ _ _ from ?_))
 refine Ag ⟨Zs _ (by decide +kernel),Ff PySem.F.entry_type_call ?_⟩
 rw[Yi (Yk "set" [.ref l] []) rfl]
 repeat (any_goals (first | assumption | wp_step))
 refine Jj (cU (.ref l) (E:=E) (Q:=λv G=>v=.ref s.heap.objs.size/\G={ s with heap:=s.heap.push (Fn #[] 0 (.fresh 0 0 (!bt w))) }) ⟨rfl,rfl⟩) λr G d=>?_
 rcases r with e | (_ | _ | _ | v)
 ·exact d
 ·exact d.elim
 ·exact d.elim
 ·exact d.elim
 obtain ⟨rfl,rfl⟩:=d
 have C:=gR (w:=w) (h:=s.heap)
 have X:Shared.TypeIs { s with heap:=s.heap.push (Fn #[] 0 (.fresh 0 0 (!bt w))) } (.ref s.heap.objs.size) "set" := ⟨_,C.obj,rfl⟩
 have T:=PySem.F.called_set.init.lookup
 have Z:=PySem.F.called_set.init.bind (.ref s.heap.objs.size)
 repeat (any_goals (first | assumption | wp_step))
 refine Jj (aQ (R:=wants (λr D=>r=.none/\∃es ep t h' f,D={ s with heap:=h',toks:=f }/\(∀b o,s.heap.get? b=some o->h'.get? b=some o)/\SetS w h' s.heap.objs.size es ep t/\∀x,x∈Lo es↔x∈ns) E)
  PySem.F.called_set.init.plain PySem.F.entry_set_init (mT X ?_)) λr D d=>?_
 ·obtain ⟨⟨S,od,y,M⟩,H,V,n,hd⟩:=id hl
  have z:S=.type "list" := V
  have u:y=.seq a n:=hd
  subst z u
  have g:=Aj (Fn #[] 0 (.fresh 0 0 (!bt w))) H
  have m:(s.heap.push (Fn #[] 0 (.fresh 0 0 (!bt w)))).IsList l a:=⟨_,g,rfl,n,rfl⟩
  have f1:=PySem.F.sub_list_set
  have f2:=PySem.F.sub_list_frozenset
  have f3:(Ed "list" == Ed "dict")=false:=by decide
  have lt:=Bm H
  unfold Builtin.«set.__init__» noKeywords Me
  generalize k:pyIter=PI
  wp_walk
  subst k
  refine Tj m (Aa (aM ?_))
  have sz:(s.heap.push (Fn #[] 0 (.fresh 0 0 (!bt w)))).objs.size=s.heap.objs.size+1:=We _ _
  have g1:((s.heap.push (Fn #[] 0 (.fresh 0 0 (!bt w)))).push { cls:=.type "list_iterator",data:=.fields #[.ref l,.int 0 0] }).get? (s.heap.push (Fn #[] 0 (.fresh 0 0 (!bt w)))).objs.size=some { cls:=.type "list_iterator",data:=.fields #[.ref l,.int 0 0] }:=Bi _ rfl
  refine xU W (by rw[sz]; exact Ck (Oh _)) (bW lt) (by rw[sz]; exact Ck (Ho lt)) N P (by simp [O]) (a.size - 0) 0 _ #[] 0 (.fresh 0 0 (!bt w)) rfl (Ds _) ⟨_,g1,rfl,rfl⟩ ⟨_,Aj _ g,rfl,n,rfl⟩
   (C.keep λo q=>Aj _ q) (λx Y=>by simp at Y) λes ep t h' f j B p=>?_
  refine Ag (Ag ⟨rfl,es,ep,t,h',f,rfl,λb o e=>?_,B,λx=>?_⟩)
  ·have I:=Bm e
   exact j b o (Ck I) (by rw[sz]; exact Ck (Ho I)) (Aj _ (Aj _ e))
  ·rw[p,Lb]
   simp
 ·rcases r with e | (_ | _ | _ | v)
  ·exact d
  ·exact d.elim
  ·exact d.elim
  ·exact d.elim
  obtain ⟨rfl,es,ep,t,h',f,rfl,j,B,p⟩:=d
  repeat (any_goals (first | assumption | wp_step))
  exact h es ep t h' f j B p
end
end NdS
namespace Nd
open PySem PySem.Spec PyProof.Rows L2 NdS
def rSetL(w:World)(K:PySem.W.Frag):List V->Hp->VK->Prop:=λc H Q=>∃(a:Addr) (b U:List Int),c=[.ref a]/\Ux K H a (b.map V.int)/\U.length<=62/\Xr U b/\∀p,H p=none->Q (.ref p) (upd H p (jZ w p b))
theorem wR{X:Cx}(e:X.calm=true):Jh X (.type "set") (rSetL X.w X.K):=by
 intro b s y H x A Q I r h
 obtain ⟨a,z,U,rfl,f,g,n,q⟩:=h
 obtain ⟨u,rfl,l⟩:=vals1 r
 cases l
 obtain ⟨i,d,j,_⟩:=I.list f
 refine N5 g (I.ok.hd e) j.isList (by simpa using intsAre_of d) n λc o t p v k S m=>?_
 exact ⟨.ref s.heap.objs.size,_,I.laid k (Ah _) (uJ ⟨c,o,t,S,m⟩),rfl,q _ (I.hok.fresh (Ah _))⟩
end Nd
namespace DL
open PySem L2 Nd
def pV(x:Int):List Int->List Int
 | []=>[x]
 | y::l=>if x<y then x::y::l else if x=y then y::l else y::pV x l
def Sg(ns:List Int):List Int:=ns.foldr pV []
theorem nE{x z:Int}:∀{l:List Int},z∈pV x l↔z=x\/z∈l
 | []=>by simp [pV]
 | y::l=>by
  unfold pV
  split
  ·simp
  ·split
   ·rename_i b a
    subst a
    simp
   ·simp only[An,nE (l:=l)]
    constructor
    ·rintro (h | h | h) <;> simp [h]
    ·rintro (h | h | h) <;> simp [h]
theorem jA{x:Int}:∀{l:List Int},l.Pairwise (· < ·)->(pV x l).Pairwise (· < ·)
 | [],_=>Fj _ _
 | y::l,h=>by
  obtain ⟨a,c⟩:=Ax.mp h
  unfold pV
  split
  ·rename_i b
   refine Ax.mpr ⟨λz hz=>?_,h⟩
   rcases An.mp hz with rfl | hz
   ·exact b
   ·exact Int.lt_trans b (a z hz)
  ·split
   ·exact h
   ·refine Ax.mpr ⟨λz hz=>?_,jA c⟩
    rcases nE.mp hz with rfl | hz
    ·omega
    ·exact a z hz
theorem Qv:∀ns:List Int,(Sg ns).Pairwise (· < ·)
 | []=>Dz
 | n::ns=>jA (Qv ns)
theorem p7{x:Int}:∀{ns:List Int},x∈Sg ns↔x∈ns
 | []=>Iff.rfl
 | n::ns=>by
  rw[show Sg (n::ns)=pV n (Sg ns) from rfl,nE,p7 (ns:=ns),An]
theorem T3{l ns:List Int}(h:l.Pairwise (· < ·))(m:∀x,x∈l↔x∈ns):l=Sg ns:=jB h (Qv ns) λx=>(m x).trans p7.symm
theorem cC:∀{l m:List Int},l.Perm m->l.Pairwise (·<=·)->m.Pairwise (·<=·)->l=m
 | [],m,p,_,_=>(List.nil_perm.mp p).symm
 | a::l,[],p,_,_=>(List.perm_nil.mp p)
 | a::l,b::m,p,h1,h2=>by
  obtain ⟨f,d⟩:=Ax.mp h1
  obtain ⟨c,g⟩:=Ax.mp h2
  have e:a=b:=by
   rcases An.mp (p.mem_iff.mp Ab) with z | z
   ·exact z
   ·rcases An.mp (p.mem_iff.mpr Ab) with y | y
    ·exact y.symm
    ·have:=c a z; have:=f b y; omega
  subst e
  rw[cC (List.perm_cons _ |>.mp p) d g]
def xB(x:Int):List Int->List Int
 | []=>[x]
 | y::l=>if x<=y then x::y::l else y::xB x l
def Sb(ns:List Int):List Int:=ns.foldr xB []
theorem wH{x:Int}:∀{l:List Int},(xB x l).Perm (x::l)
 | []=>Gw _
 | y::l=>by
  unfold xB
  split
  ·exact Gw _
  ·exact ((wH (l:=l)).cons y).trans (Fh _ _ _)
theorem Pm:∀ns:List Int,(Sb ns).Perm ns
 | []=>Gw _
 | n::ns=>wH.trans ((Pm ns).cons n)
theorem uN{x:Int}:∀{l:List Int},l.Pairwise (·<=·)->(xB x l).Pairwise (·<=·)
 | [],_=>Fj _ _
 | y::l,h=>by
  obtain ⟨a,c⟩:=Ax.mp h
  unfold xB
  split
  ·rename_i b
   refine Ax.mpr ⟨λz hz=>?_,h⟩
   rcases An.mp hz with rfl | hz
   ·exact b
   ·exact Int.le_trans b (a z hz)
  ·refine Ax.mpr ⟨λz hz=>?_,uN c⟩
   rcases An.mp (wH.mem_iff.mp hz) with rfl | hz
   ·omega
   ·exact a z hz
theorem cM:∀ns:List Int,(Sb ns).Pairwise (·<=·)
 | []=>Dz
 | n::ns=>uN (cM ns)
theorem A3{l ns:List Int}(p:l.Perm ns)(h:l.Pairwise (·<=·)):l=Sb ns:=cC (p.trans (Pm ns).symm) h (cM ns)
theorem wD(ns:List Int):(Sb ns).length=ns.length:=(Pm ns).length_eq
abbrev DC:=List DV->(DV->Prop)->Prop
def Su(K:PySem.W.Frag)(r:List V->Hp->VK->Prop)(rd:DC):Prop:=∀(c:Hp) (X:Addr->Prop) (n:Nat) (S T a:List Ent) (d:List V) (H:Hp) (Q:VK) (P:DV->Prop),
 a.map Ent.v=d.map some->At K c X n (S++(a++T)) H->rd (a.map Ent.x) P->(∀z u e b,At K c X n (S++⟨some u,z,e⟩::T) b->P z->Q u b)->r d H Q
def JP(rd:DC)(c:DA):DE:=λb P=>c b λd a=>rd d λz=>P z a
section
variable{X:Cx}{x:Str}{p pos:Pos}{e:Expr}{es:List Expr}{a:DA}{id T:String}{r:List V->Hp->VK->Prop}{rd:DC}
theorem Y3{K:PySem.W.Frag}(o:Su K r rd):∀σ H Q,LE K (JP rd a) σ H Q->KO r (LA K a) σ H Q:=by
 intro σ H Q h
 obtain ⟨f,Y,S,T,t,P,rfl,i,j,A,k⟩:=h
 refine ⟨f,Y,S,T,t,_,rfl,i,j,A,λC b s B g y x v l m d p=>?_⟩
 subst l
 exact o f Y b.n g T s B y Q _ m d p λz u w c e q=>k z b u w g c x v e q
theorem Ei(h:Jh X (.builtin id) r)(o:Su X.K r rd)(f:Gl X x)(i:X.mg x=none)(d:Kq x=some (.builtin id))(g:uU X (e::es) a)(j:x ≠ "__name__" := by decide)(c:(x == ("__debug__" : Str))=false:=by decide)(k:Cc (e::es) X.env=(false,eval e X.env)::Cc es X.env:=by rfl)(b:(Jr pos (Cc es X.env)).any (·.1)=false:=by rfl):Fk X (.Call (.Name x p) (e::es) [] pos) (JP rd a) :=
 PE.imp (eI h f i d g j c k b) (Y3 o)
theorem Hu(h:Jh X (.type T) r)(o:Su X.K r rd)(f:Gl X x)(i:X.mg x=none)(d:Kq x=some (.type T))(g:uU X (e::es) a)(j:x ≠ "__name__" := by decide)(c:(x == ("__debug__" : Str))=false:=by decide)(k:Cc (e::es) X.env=(false,eval e X.env)::Cc es X.env:=by rfl)(b:(Jr pos (Cc es X.env)).any (·.1)=false:=by rfl):Fk X (.Call (.Name x p) (e::es) [] pos) (JP rd a) :=
 PE.imp (Qz h f i d g j c k b) (Y3 o)
end
theorem BL{c b:Type}{f:c->b}{l:List c}{x:b}(h:l.map f=[x]):∃a,l=[a]/\f a=x:=by
 cases l with
 | nil=>cases h
 | cons a t =>
  obtain ⟨d,e⟩:=Gs h
  exact ⟨a,by rw[List.map_eq_nil_iff.mp e],d⟩
theorem HC{d c:Type}{f:d->c}{l:List d}{x y:c}(h:l.map f=[x,y]):∃a b,l=[a,b]/\f a=x/\f b=y:=by
 cases l with
 | nil=>cases h
 | cons a t =>
  obtain ⟨e,i⟩:=Gs h
  obtain ⟨b,rfl,g⟩:=BL i
  exact ⟨a,b,rfl,e,g⟩
theorem Io{K:PySem.W.Frag}{d H:Hp}{X:Addr->Prop}{n:Nat}{S T c:List Ent}{us:List V}{x:DV}(g:c.map Ent.v=us.map some)(e:At K d X n (S++(c++T)) H)(ex:c.map Ent.x=[x]):∃v F,us=[v]/\At K d X n (S++⟨some v,x,F⟩::T) H:=by
 obtain ⟨⟨v,y,F⟩,rfl,f⟩:=BL ex
 obtain ⟨u,rfl,h⟩:=BL g.symm
 have b:y=x:=f
 have a:some u=v:=h
 subst b a
 exact ⟨u,F,rfl,e⟩
theorem nJ{K:PySem.W.Frag}{g H:Hp}{X:Addr->Prop}{n:Nat}{S T e:List Ent}{us:List V}{x y:DV}(l:e.map Ent.v=us.map some)(j:At K g X n (S++(e++T)) H)(ex:e.map Ent.x=[x,y]):∃v F w G,us=[v,w]/\At K g X n (S++⟨some v,x,F⟩::⟨some w,y,G⟩::T) H:=by
 obtain ⟨⟨v,i,F⟩,⟨w,h,G⟩,rfl,k,p⟩:=HC ex
 obtain ⟨u,f,rfl,o,m⟩:=HC l.symm
 have b:i=x:=k
 have a:h=y:=p
 have c:some u=v:=o
 have d:some f=w:=m
 subst b a c d
 exact ⟨u,F,f,G,rfl,j⟩
def nR:DC:=λa P=>match a with
 | [.dat _ (.list ds)]=>P (.dat .ow (.int ds.length))
 | [.dat _ (.tuple ds)]=>P (.dat .ow (.int ds.length))
 | [.dat _ (.str z)]=>z.length<=1000000/\P (.dat .ow (.int z.length))
 | _=>False
def rQ(i:Bool):DC:=λa P=>match a with
 | [.dat m (.list ds)]=>aC i m ds P
 | [.dat m (.tuple ds)]=>aC i m ds P
 | _=>False
def kD(i:Bool):DC:=λa P=>match a with
 | [.dat m (.list ds)]=>kX i m ds P
 | [.dat m (.tuple ds)]=>P (.dat m (.tuple ds))
 | _=>False
def x6:DC:=λa P=>match a with
 | [.dat _ (.int i)]=>P (.dat .ow (.int i))
 | [.dat _ (.bool b)]=>P (.dat .ow (.int (if b=true then 1 else 0)))
 | _=>False
def LB:DC:=λa P=>match a with
 | [.dat _ (.int i),.dat _ (.int j)]=>P (.dat .ow (.int (if j > i then j else i)))
 | _=>False
def sL:DC:=λa P=>match a with
 | [.dat _ (.int i),.dat _ (.int j)]=>P (.dat .ow (.int (if j<i then j else i)))
 | _=>False
def JU:DC:=λb P=>match b with
 | [.dat _ (.list ds)]=>∃a:List Int,ds=a.map Bq/\a≠[]/\∀M∈a,(∀x∈a,M<=x)->P (.dat .ow (.int M))
 | _=>False
def zK:DC:=λa P=>match a with
 | [.dat _ (.list ds)]=>∃bs:List Bool,ds=bs.map PyData.bool/\P (.dat .ow (.bool (bs.all id)))
 | _=>False
def kI:DC:=λb P=>match b with
 | [.dat _ (.list ds)]=>∃a:List Int,ds=a.map Bq/\a.length<64/\P (.dat .ow (.list ((Sb a).map Bq)))
 | _=>False
def M6:Ae->String
 | .none => "NoneType"
 | .bool _ => "bool"
 | .int _ => "int"
 | .str _ => "str"
 | .list _ => "list"
 | .tuple _ => "tuple"
 | .dict _ => "dict"
def Vw(d:Ae)(n:String):Bool:=M6 d == n || (M6 d == "bool" && n == "int")
def F9:DC:=λa P=>match a with
 | [.dat _ d,.val (.ty n)]=>(n = "int" \/ n = "bool" \/ n = "str" \/ n = "list" \/ n = "tuple")/\P (.dat .ow (.bool (Vw d n)))
 | _=>False
section
variable{K:PySem.W.Frag}
theorem Kz:Su K (λxs H Q=>∃x n,xs=[x]/\IV K x H n/\Q (.int n) H) nR:=by
 intro h X n S T i j H Q P g b c k
 unfold nR at c
 split at c
 ·rename_i d
  obtain ⟨v,F,rfl,b⟩:=Io g b d
  obtain ⟨a,xs,G,rfl,e,f,_,_⟩:=(b.told mem_mid).list_inv
  exact ⟨_,_,rfl,.inl ⟨xs,Ux.of e,f.len.symm⟩,k _ _ [] H (b.drop.pushI (.int _)) c⟩
 ·rename_i d
  obtain ⟨v,F,rfl,b⟩:=Io g b d
  obtain ⟨a,xs,rfl,e,f,_⟩:=(b.told mem_mid).tup_inv
  exact ⟨_,_,rfl,.inr ⟨xs,Vp.of e,f.len.symm⟩,k _ _ [] H (b.drop.pushI (.int _)) c⟩
 ·rename_i d
  obtain ⟨v,F,rfl,b⟩:=Io g b d
  obtain ⟨rfl,_⟩:=(b.told mem_mid).str_inv
  exact ⟨_,_,rfl,⟨pF c.1,rfl⟩,k _ _ [] H (b.drop.pushI (.int _)) c.2⟩
 ·exact c.elim
theorem Yb{i:Bool}:Su K (AM K) (rQ i):=by
 intro r X n S T s t H Q P p b c k
 unfold rQ at c
 split at c
 ·rename_i g
  obtain ⟨v,F,rfl,b⟩:=Io p b g
  obtain ⟨a,h,G,rfl,d,e,rfl,j⟩:=(b.told mem_mid).list_inv
  refine ⟨a,h,rfl,.inl (Ux.of d),λl o=>?_⟩
  obtain ⟨z,q,f,m⟩:=b.newL e (Dr _ _) j o c
  exact k _ _ _ _ f m
 ·rename_i g
  obtain ⟨v,F,rfl,b⟩:=Io p b g
  obtain ⟨a,h,rfl,d,e,j⟩:=(b.told mem_mid).tup_inv
  refine ⟨a,h,rfl,.inr (Vp.of d),λl o=>?_⟩
  obtain ⟨z,q,f,m⟩:=b.newL e (Eb _) j o c
  exact k _ _ _ _ f m
 ·exact c.elim
theorem Rg{i:Bool}:Su K (Y8 K) (kD i):=by
 intro r X n S T s t H Q P h b c k
 unfold kD at c
 split at c
 ·rename_i e
  obtain ⟨v,F,rfl,b⟩:=Io h b e
  obtain ⟨a,f,G,rfl,d,g,rfl,j⟩:=(b.told mem_mid).list_inv
  refine ⟨a,f,rfl,.inl ⟨Ux.of d,λl p=>?_⟩⟩
  obtain ⟨z,q,m,o⟩:=b.newT g (Dr _ _) j p c
  exact k _ _ _ _ m o
 ·rename_i e
  obtain ⟨v,F,rfl,b⟩:=Io h b e
  obtain ⟨a,f,rfl,d,g,j⟩:=(b.told mem_mid).tup_inv
  exact ⟨a,f,rfl,.inr ⟨Vp.of d,k _ _ F H b c⟩⟩
 ·exact c.elim
theorem o9:Su K (λxs H Q=>(∃i,xs=[V.int i]/\Q (.int i) H)\/∃k,xs=[V.bl k]/\Q (.int (if k then 1 else 0)) H) x6:=by
 intro e X n S T f g H Q P d a b k
 unfold x6 at b
 split at b
 ·rename_i c
  obtain ⟨v,F,rfl,a⟩:=Io d a c
  obtain ⟨rfl,_⟩:=(a.told mem_mid).int_inv
  exact .inl ⟨_,rfl,k _ _ [] H (a.drop.pushI (.int _)) b⟩
 ·rename_i c
  obtain ⟨v,F,rfl,a⟩:=Io d a c
  obtain ⟨rfl,_⟩:=(a.told mem_mid).bl_inv
  exact .inr ⟨_,rfl,k _ _ [] H (a.drop.pushI (.int _)) b⟩
 ·exact b.elim
theorem vI:Su K (λxs H Q=>∃i j,xs=[V.int i,V.int j]/\Q (.int (if j<i then j else i)) H) sL:=by
 intro e X n S T f g H Q P c a b k
 unfold sL at b
 split at b
 ·rename_i d
  obtain ⟨v,F,w,G,rfl,a⟩:=nJ c a d
  obtain ⟨rfl,_⟩:=(a.told mem_mid).int_inv
  obtain ⟨rfl,_⟩:=(a.told Fm).int_inv
  exact ⟨_,_,rfl,k _ _ [] H (a.drop2.pushI (.int _)) b⟩
 ·exact b.elim
theorem x4:Su K (λxs H Q=>∃(p:Addr) (bs:List Bool),xs=[.ref p]/\Ux K H p (bs.map V.bl)/\Q (.bl (bs.all id)) H) zK:=by
 intro j X n S T l m H Q P g b c k
 unfold zK at c
 split at c
 ·rename_i h
  obtain ⟨v,F,rfl,b⟩:=Io g b h
  obtain ⟨bs,rfl,f⟩:=c
  obtain ⟨a,xs,G,rfl,d,e,rfl,i⟩:=(b.told mem_mid).list_inv
  obtain ⟨rfl,_⟩:=e.bools_inv
  exact ⟨a,bs,rfl,Ux.of d,k _ _ [] H (b.drop.pushI (.bl _)) f⟩
 ·exact c.elim
theorem z0:Su K (nI K) kI:=by
 intro t X n S T u p H Q P j b c k
 unfold kI at c
 split at c
 ·rename_i i
  obtain ⟨v,F,rfl,b⟩:=Io j b i
  obtain ⟨m,rfl,l,g⟩:=c
  obtain ⟨a,r,G,rfl,d,e,rfl,s⟩:=(b.told mem_mid).list_inv
  obtain ⟨rfl,_⟩:=e.ints_inv
  refine ⟨a,m,rfl,Ux.of d,l,λq p o h f=>?_⟩
  rw[A3 h f]
  exact k _ _ _ _ (b.drop.newI (RdFs.ints _) (Nq _) (by rw[Ac,wD]; exact sz (by omega)) o .ow) g
 ·exact c.elim
theorem T9{T n:String}{b:Bool}(h1:(Ed T == Ed n)=false)(c:PySem.W.kitMeta n=true)(a:(fastBuiltinMro T).map (λx=>x.contains (Ed n))=some b):PySem.W.kitOne K (.type T) (.type n)=some b:=EN h1 c a
theorem S6{d:Ae}{n:String}(b:n = "int" \/ n = "bool" \/ n = "str" \/ n = "list" \/ n = "tuple"):PySem.W.kitOne K (.type (M6 d)) (.type n)=some (Vw d n):=by
 have a:∀T:String,(T = "NoneType" \/ T = "bool" \/ T = "int" \/ T = "str" \/ T = "list" \/ T = "tuple" \/ T = "dict")->PySem.W.kitOne K (.type T) (.type n)=some (T == n || (T == "bool" && n == "int")):=by
  intro T c
  rcases c with rfl | rfl | rfl | rfl | rfl | rfl | rfl <;> rcases b with rfl | rfl | rfl | rfl | rfl <;> first | exact EX | exact T9 (by decide +kernel) (by decide +kernel) (by decide +kernel)
 unfold Vw
 refine a _ ?_
 cases d <;> simp [M6]
theorem Vx:Su K (ME K) F9:=by
 intro m X n S T o p H Q P f a c k
 unfold F9 at c
 split at c
 ·rename_i g
  obtain ⟨v,F,w,G,rfl,a⟩:=nJ f a g
  have j:w=.ty _:=Cn (a.ok _ Fm).1
  subst j
  have r:=a.told mem_mid
  refine ⟨v,_,.type (M6 _),_,rfl,?_,S6 c.1,k _ _ [] H (a.drop2.pushI (.bl _)) c.2⟩
  ·cases r with
   | non=>exact .non
   | bl b=>exact .bl b
   | int i=>exact .int i
   | str x=>exact .str x
   | lst h l d=>exact .lst h
   | tup h l d=>exact .tup h
   | dic h e d=>exact .dT h
   | dik h e d=>exact .dK h
   | dnm h e d=>exact .dT h
 ·exact c.elim
end
def dV(v:V):DE:=λa P=>P (.val v) a
section
variable{X:Cx}{e:Expr}
theorem CA{v:V}(h:PE X e (tC v)):Fk X e (dV v):=by
 refine PE.imp h λl H Q h=>?_
 obtain ⟨j,Y,S,T,i,P,rfl,c,d,g,k⟩:=h
 exact k _ i v [] S H rfl c ((d.push (e:=⟨some v,.val v,[]⟩) ⟨rfl,rfl⟩ (λf _=>⟨λ_ a b=>(nomatch b),λ_ a _=>Ce⟩) (λa b=>(nomatch b))).tomid) g
theorem dA{x:Str}{n:String}{pos:Pos}(a:Gl X x)(d:X.mg x=none)(b:Kq x=some (.type n))(c:x ≠ "__name__" := by decide)(hd:(x == ("__debug__" : Str))=false:=by decide):Fk X (.Name x pos) (dV (.ty n)):=CA (R4 a d b rfl c hd)
end
def MR(e:DA):DE:=λd P=>e d λc b=>match c with
 | [.dat _ (.list ds)]=>∃a:List Int,ds=a.map Bq/\(∀x∈a,0<=x/\x<60)/\P (.dat .ow (.list ((Sg a).map Bq))) b
 | [.dat _ (.tuple ds)]=>∃a:List Int,ds=a.map Bq/\(∀x∈a,0<=x/\x<60)/\P (.dat .ow (.list ((Sg a).map Bq))) b
 | _=>False
theorem I0{ns:List Int}(h:∀x∈ns,0<=x/\x<60):(Sg ns).length<=60 :=
 Co (NdS.len_leI ((Qv ns).imp λ{x y} h=>Int.ne_of_lt h) λe a=>Xi (h e (p7.mp a)).1 (h e (p7.mp a)).2) (by decide)
section
variable{X:Cx}{x y:Str}{p c pos b:Pos}{e:Expr}{d:DA}
def JD(w:World)(K:PySem.W.Frag):List V->Hp->VK->Prop:=λa H Q=>Nd.rSetL w K a H Q\/IB w K a H Q
theorem yL(a:X.calm=true):Jh X (.type "set") (JD X.w X.K):=(wR a).or (zG a)
theorem FU(J:X.calm=true)(hg:Gl X "sorted")(hm:X.mg "sorted" = none)(B:Gl X "set")(C:X.mg "set" = none)(m:uU X [e] d)(he:Cc [e] X.env=[(false,eval e X.env)]:=by rfl)(t:Cc [.Call (.Name "set" c) [e] [] b] X.env=[(false,eval (.Call (.Name "set" c) [e] [] b) X.env)]:=by rfl):Fk X (.Call (.Name "sorted" p) [.Call (.Name "set" c) [e] [] b] [] pos) (MR d):=by
 refine PE.imp (eI (kE J) hg hm (by decide +kernel) (Jc (Qz (yL J) B C (by decide +kernel) m (by decide) (by decide) he rfl) Qm t) (by decide) (by decide) t rfl) λσ H Q h=>?_
 obtain ⟨M,Y,S,T,δ,P,rfl,R,U,hd,k⟩:=h
 refine ⟨M,Y,S,T,δ,_,rfl,R,U,hd,λy l As us N E e1 e2 I L j p=>?_⟩
 have o:∀(f:List Int) (F:List Addr) (v:V) (z:DV),At X.K M Y l.n (N++⟨some v,z,F⟩::T) E->(∀x∈f,0<=x/\x<60)->P (.dat .ow (.list ((Sg f).map Bq))) l->∀q,E q=none ->
   CO (vs S) (upd E q (jZ X.w q f)) λy Z=>tT X.w (V.ref q::y) Z Q:=by
  intro f F v z j i u q hq
  refine ⟨q,f,rfl,El,λr us W O pw D=>?_⟩
  rw[T3 (Yv O pw) D]
  have s1:=Gn hq (jZ X.w q f)
  refine k _ l _ _ N _ e1 e2 ((j.drop.grow s1 (Ah _)).newI (RdFs.ints _) (Nq _) (by rw[Ac]; exact sz (by have:=I0 i; omega)) W .ow) u
 split at p
 ·obtain ⟨v,F,rfl,g⟩:=Io L j I
  obtain ⟨f,rfl,i,u⟩:=p
  obtain ⟨a,y,G,rfl,m,A,rfl,hz⟩:=(g.told mem_mid).list_inv
  obtain ⟨rfl,_⟩:=A.ints_inv
  exact .inl ⟨a,f,KB,rfl,Ux.of m,by decide,λx s=>Xi (i x s).1 (i x s).2,o f _ _ _ g i u⟩
 ·obtain ⟨v,F,rfl,g⟩:=Io L j I
  obtain ⟨f,rfl,i,u⟩:=p
  obtain ⟨a,y,rfl,m,A,hz⟩:=(g.told mem_mid).tup_inv
  obtain ⟨rfl,_⟩:=A.ints_inv
  exact .inr ⟨a,f,KB,rfl,Vp.of m,by decide,λx s=>Xi (i x s).1 (i x s).2,o f _ _ _ g i u⟩
 ·exact p.elim
end
end DL
namespace Nd
open PySem PySem.Spec PyProof.Rows L2
end Nd
namespace Nd
open PySem PySem.Spec PyProof.Rows L2
open AutoSeq1 (wpAny_loadPart')
end Nd
namespace DL
open PySem L2 Nd
def dB(d:DE):DT:=λc P=>d c λx a=>match x with
 | .dat _ (.bool b)=>P b a
 | _=>False
def AK(dt:DT):DT:=λc P=>dt c λb a=>P (!b) a
def X9(dt d:DT):DT:=λc P=>dt c λb a=>match b with
 | true=>d a P
 | false=>P false a
def GP(dt d:DT):DT:=λc P=>dt c λb a=>match b with
 | true=>P true a
 | false=>d a P
def JE(d:DE):DE:=λc P=>d c λx a=>match x with
 | .dat _ (.bool b)=>P (.dat .ow (.bool (!b))) a
 | _=>False
def GF(d c:DE):DE:=λb P=>d b λx a=>match x with
 | .dat _ (.bool true)=>c a P
 | .dat _ (.bool false)=>P (.dat .ow (.bool false)) a
 | _=>False
section
variable{K:PySem.W.Frag}{a:DE}
theorem BD:∀σ H Q,LT K (dB a) σ H Q->LE K a σ H λx l=>∃k,x=.bl k/\Q k l:=by
 intro σ H Q h
 obtain ⟨o,Y,S,T,n,P,rfl,f,g,m,k⟩:=h
 refine ⟨o,Y,S,T,n,_,rfl,f,g,m,λx d v F p e j i b c=>?_⟩
 split at c
 ·obtain ⟨rfl,_⟩:=(b.told mem_mid).bl_inv
  exact ⟨_,rfl,k _ d p e j i b.drop c⟩
 ·exact c.elim
end
section
variable{X:Cx}{a b c e:Expr}{d f i:DE}{dt g:DT}{pos:Pos}{Gg:List Expr}
theorem Kg(h:Fk X e i)(b:∀a,isTrue e X.env a=(do let v <- a; standAt e.pos; Wi [v] (truthy v)):=by intro _; rfl):fN X e (dB i):=PT.imp (J2 h b) BD
theorem Rv{op:CmpOp}{r:R2}{rd:D2}(e:Xq X (Hh op) r)(o:jS X.K r rd)(i:Fk X a d)(hb:Fk X b f)(c:Fx op b=false):fN X (.Compare a [op] [b] pos) (dB (Vf rd d f)):=by
 refine PT.imp (tX e i hb c) λg H Q h=>?_
 exact iB o _ _ _ (BD g H Q h)
theorem oJ(c:Fk X a d)(hb:Fk X b f):fN X (.Compare a [.Lt] [b] pos) (dB (Vf rdLt d f)):=Rv AL (aF λ_ _ _=>.bl _) c hb (Nw _)
theorem vF(c:Fk X a d)(hb:Fk X b f):fN X (.Compare a [.Gt] [b] pos) (dB (Vf rdGt d f)):=Rv Z2 (aF λ_ _ _=>.bl _) c hb (Nw _)
theorem AD(c:Fk X a d)(hb:Fk X b f):fN X (.Compare a [.GtE] [b] pos) (dB (Vf rdGe d f)):=Rv K2 (aF λ_ _ _=>.bl _) c hb (Nw _)
theorem aA(e:X.A.units+64<cLine)(c:Fk X a d)(hb:Fk X b f):fN X (.Compare a [.Eq] [b] pos) (dB (Vf (lE false) d f)):=Rv (A9 e) Y2 c hb (Nw _)
theorem Wo(e:X.A.units+64<cLine)(c:Fk X a d)(hb:Fk X b f):fN X (.Compare a [.NotEq] [b] pos) (dB (Vf (lE true) d f)):=Rv (BS e) HY c hb (Nw _)
theorem GX(e:X.A.units+64<cLine)(g:Fk X a d)(hb:Fk X b f)(c:Fx .In b=false:=by with_unfolding_all rfl):fN X (.Compare a [.In] [b] pos) (dB (Vf (qQ false) d f)):=Rv (J9 e) A7 g hb c
theorem L7(e:X.A.units+64<cLine)(g:Fk X a d)(hb:Fk X b f)(c:Fx .NotIn b=false:=by with_unfolding_all rfl):fN X (.Compare a [.NotIn] [b] pos) (dB (Vf (qQ true) d f)):=Rv (vV e) A7 g hb c
theorem B1(c:Fk X a d)(hb:Fk X b f):fN X (.Compare a [.Is] [b] pos) (dB (Vf (aK false) d f)):=Rv FI CJ c hb (Nw _)
theorem uC(c:Fk X a d)(hb:Fk X b f):fN X (.Compare a [.IsNot] [b] pos) (dB (Vf (aK true) d f)):=Rv W2 R0 c hb (Nw _)
theorem Mg(h:fN X a dt):fN X (.UnaryOp .Not a pos) (AK dt):=by
 refine PT.imp (DJ h) λq H Q h=>?_
 obtain ⟨n,Y,S,T,m,P,rfl,e,f,l,k⟩:=h
 exact ⟨n,Y,S,T,m,_,rfl,e,f,l,λb c o j i g d p=>k _ c o j i g d p⟩
theorem uB(h:fN X a dt):EE X (.BoolOp .And [a] pos) dt:=V2 h
theorem Te(h:fN X a dt):EE X (.BoolOp .Or [a] pos) dt:=BF h
theorem sV(h:fN X a dt)(hb:EE X (.BoolOp .And (b::Gg) pos) g):EE X (.BoolOp .And (a::b::Gg) pos) (X9 dt g):=by
 refine PW.imp (EH h hb) λr H Q h=>?_
 obtain ⟨i,Y,S,T,q,P,rfl,l,m,o,k⟩:=h
 refine ⟨i,Y,S,T,q,_,rfl,l,m,o,λb c j n f e d p=>?_⟩
 cases b with
 | true=>exact vU ⟨i,Y,j,T,c,P,f,e,d,p,k⟩
 | false=>exact vZ (k _ c j n f e d p)
theorem Rj(h:fN X a dt)(hb:EE X (.BoolOp .Or (b::Gg) pos) g):EE X (.BoolOp .Or (a::b::Gg) pos) (GP dt g):=by
 refine PW.imp (HA h hb) λr H Q h=>?_
 obtain ⟨i,Y,S,T,q,P,rfl,l,m,o,k⟩:=h
 refine ⟨i,Y,S,T,q,_,rfl,l,m,o,λb c j n f e d p=>?_⟩
 cases b with
 | true=>exact vU (k _ c j n f e d p)
 | false=>exact vZ ⟨i,Y,j,T,c,P,f,e,d,p,k⟩
theorem gB(h:EE X a dt):fN X a dt:=PW.pt h
theorem mI{op}(h:Fk X a d):Fk X (.BoolOp op [a] pos) d:=CB h
theorem Ze(h:Fk X a d)(hb:Fk X (.BoolOp .And (b::Gg) pos) f):Fk X (.BoolOp .And (a::b::Gg) pos) (GF d f):=by
 refine PE.imp (CK h hb) λs H Q h=>?_
 obtain ⟨l,Y,S,T,r,P,rfl,o,p,q,k⟩:=h
 refine ⟨l,Y,S,T,r,_,rfl,o,p,q,λx e v F m n j i c g=>?_⟩
 split at g
 ·obtain ⟨rfl,_⟩:=(c.told mem_mid).bl_inv
  exact ⟨_,rfl,vU ⟨l,Y,m,T,e,P,j,i,c.drop,g,k⟩⟩
 ·obtain ⟨rfl,_⟩:=(c.told mem_mid).bl_inv
  exact ⟨_,rfl,vZ (k _ e _ [] m n j i (c.drop.pushI (.bl _)) g)⟩
 ·exact g.elim
theorem BO(h:Fk X a d):Fk X (.UnaryOp .Not a pos) (JE d):=by
 refine PE.imp (CY h) λq H Q h=>?_
 obtain ⟨o,Y,S,T,n,P,rfl,g,i,m,k⟩:=h
 refine ⟨o,Y,S,T,n,_,rfl,g,i,m,λx e v F p f l j b c=>?_⟩
 split at c
 ·obtain ⟨rfl,_⟩:=(b.told mem_mid).bl_inv
  exact ⟨_,rfl,k _ e _ [] p f l j (b.drop.pushI (.bl _)) c⟩
 ·exact c.elim
end
theorem PS.impD{X:Cx}{st:Stmt}{t t':TS}(h:PS X st t)(k:∀D σ H,t' D σ H->t D σ H):PS X st t':=λa s σ H D I q=>h a s σ H D I (k D σ H q)
theorem sJ.impD{X:Cx}{st:List Stmt}{t t':TS}(h:sJ X st t)(k:∀D σ H,t' D σ H->t D σ H):sJ X st t':=λa s σ H D I q=>h a s σ H D I (k D σ H q)
def Z8:DB:=λD a=>D.nx a
def GW(t u:DB):DB:=λD b=>t { D with nx:=λa=>u D a } b
def JH(b:DE):DB:=λD a=>b a D.rt
def LY(dt:DT)(t u:DB):DB:=λD c=>dt c λb a=>match b with
 | true=>t D a
 | false=>u D a
def xJ(d:DE)(c:DG):DB:=λD b=>d b λx a=>c x a D.nx
def EZ:DB:=λ_ _=>False
section
variable{X:Cx}{st:Stmt}{e d c:Expr}{t u:DB}{Gg:List Stmt}{f:DE}{i:DG}{dt:DT}{pos:Pos}
theorem Gq:fB X [] Z8:=by
 refine sJ.impD mM λD k H h=>?_
 obtain ⟨j,Y,S,T,d,P,rfl,a,g,b,c,e,i,l,f⟩:=h
 exact e d S H a b c
theorem Bv(h1:oX X st t)(q:fB X Gg u):fB X (st::Gg) (GW t u):=by
 refine sJ.impD (Mk h1 q) λD s H h=>?_
 obtain ⟨f,Y,S,T,m,P,rfl,i,d,j,l,o,e,g,c⟩:=h
 exact ⟨f,Y,S,T,m,_,rfl,i,d,j,l,λa n r k b p=>⟨f,Y,n,T,a,P,rfl,k,d,b,p,o,e,g,c⟩,e,g,c⟩
theorem Ct(h1:oX X st t):fB X [st] t:=Ww h1
theorem Ee(g:Fk X e f):oX X (.Return (some e) pos) (JH f):=by
 refine PS.impD (cK g) λD t H h=>?_
 obtain ⟨n,Y,S,T,l,P,rfl,c,r,d,m,u,j,w,q⟩:=h
 exact ⟨n,Y,S,T,l,_,rfl,c,d,m,λx a v F o k s i b p=>j x a v F o k i b p⟩
theorem Il{a b:List Stmt}(v:fN X c dt)(q:fB X a t)(hb:fB X b u):oX X (.If c a b pos) (LY dt t u):=by
 refine PS.impD (K9 v q hb) λD y H h=>?_
 obtain ⟨f,Y,S,T,w,P,rfl,r,j,s,x,l,n,g,i⟩:=h
 refine ⟨f,Y,S,T,w,_,rfl,r,s,x,λb e k z o m d p=>?_⟩
 cases b with
 | true=>exact vU ⟨f,Y,k,T,e,P,o,m,j,d,p,l,n,g,i⟩
 | false=>exact vZ ⟨f,Y,k,T,e,P,o,m,j,d,p,l,n,g,i⟩
theorem lQ{K:PySem.W.Frag}{j:TE}{g:TG}(h1:∀σ H Q,LE K f σ H Q->j σ H Q)(z:∀v σ H Q,LG K i v σ H Q->g v σ H Q):∀D σ H,LS K (xJ f i) D σ H->P9 j g D σ H:=by
 intro D σ H h
 obtain ⟨e,Y,S,T,r,P,rfl,k,C,l,y,t,E,A,B⟩:=h
 refine h1 _ _ _ ⟨e,Y,S,T,r,_,rfl,k,l,y,λx d v F s G w u a p=>?_⟩
 exact z _ _ _ _ ⟨e,Y,s,T,d,x,F,P.nx,w,u,a,p,λc m n o b q=>t c m n o b q⟩
theorem BK(c:Fk X e f)(a:IL X d i)(b:swapsWithSole [d] e pos.line X.env=pure false:=by rfl)(hw:swappedStores [d] e X.env=pure none:=by rfl)(h1:(Kr [d] X.env).map (·.2)=[aR d X.env]:=by rfl):oX X (.Assign [d] e pos) (xJ f i):=PS.impD (sA c a b hw h1) (lQ (λ_ _ _ h=>h) λ_ _ _ _ h=>h)
theorem A6:oX X st EZ:=by
 refine PS.impD K3 λD g H h=>?_
 obtain ⟨f,Y,S,T,e,P,rfl,b,d,c,a,_⟩:=h
 exact a
end
def Ql(i:Nat):DG:=λx a P=>match x with
 | .dat .pk _=>False
 | .dat _ d=>P ⟨a.sl.set i (.dat .sh d),a.n⟩
 | .val v=>P ⟨a.sl.set i (.val v),a.n⟩
 | .drw=>P ⟨a.sl.set i .drw,a.n⟩
 | .dT b=>P ⟨a.sl.set i (.dT b),a.n⟩
 | _=>False
def pP(i:Nat):DG:=λx a P=>match x with
 | .dat .ow d=>P ⟨a.sl.set i (.dat .ow d),a.n⟩
 | .dat .tp d=>P ⟨a.sl.set i (.dat .tp d),a.n⟩
 | _=>False
theorem At.store{K:PySem.W.Frag}{a H:Hp}{X:Addr->Prop}{n:Nat}{S T:List Ent}{e:Ent}{i:Nat}(h:At K a X n (S++e::T) H):At K a X n (S.set i e++T) H:=by
 by_cases b:i<S.length
 ·have c:S[i]? = some S[i]:=by simp [b]
  have p:(S++e::T).Perm (S[i]::(S.set i e++T)):=by
   refine Gz.trans ?_
   rw[<- Ha,<- Ha]
   exact (Wr c).append_right T
  exact (h.perm p).sub (Dr _ _)
 ·rw[List.set_eq_of_length_le (by omega)]
  exact h.drop
theorem dR{S:List Ent}{i:Nat}{v:V}{x:DV}{F:List Addr}:vs (S.set i ⟨some v,x,F⟩)=(vs S).set i (some v):=by
 unfold vs
 rw[Iw]
theorem bY{S:List Ent}{a:DS}{i n:Nat}{v:V}{x:DV}{F:List Addr}(h:Sl S a):Sl (S.set i ⟨some v,x,F⟩) ⟨a.sl.set i x,n⟩:=by
 unfold Sl at h ⊢
 rw[Iw,h]
theorem kS{K:PySem.W.Frag}{i:Nat}:∀v σ H Q,LG K (Ql i) v σ H Q->gY i v σ H Q:=by
 intro v σ H Q h
 obtain ⟨l,Y,S,T,e,x,F,P,rfl,g,c,b,k⟩:=h
 show Q ((vs S).set i (some v)) H
 have a:∀y,At K l Y e.n (S++⟨some v,y,F⟩::T) H->P ⟨e.sl.set i y,e.n⟩->Q ((vs S).set i (some v)) H:=λy f p=>by
  rw[<- dR (x:=y) (F:=F)]
  exact k _ _ H (bY g) f.store p
 unfold Ql at b
 split at b
 ·exact b.elim
 ·rename_i m d j
  refine a _ ?_ b
  refine (c.mid.wk ?_).tomid
  cases m <;> first | rfl | exact (j rfl).elim
 ·exact a _ c b
 ·exact a _ c b
 ·exact a _ c b
 ·exact b.elim
theorem zH{K:PySem.W.Frag}{i:Nat}:∀v σ H Q,LG K (pP i) v σ H Q->gY i v σ H Q:=by
 intro v σ H Q h
 obtain ⟨g,Y,S,T,c,x,F,P,rfl,f,e,b,k⟩:=h
 show Q ((vs S).set i (some v)) H
 have a:∀y,At K g Y c.n (S++⟨some v,y,F⟩::T) H->P ⟨c.sl.set i y,c.n⟩->Q ((vs S).set i (some v)) H:=λy d p=>by
  rw[<- dR (x:=y) (F:=F)]
  exact k _ _ H (bY f) d.store p
 unfold pP at b
 split at b
 ·exact a _ e b
 ·exact a _ e b
 ·exact b.elim
section
variable{X:Cx}{pos:Pos}
theorem Hd{i:Nat}{x:Str}(d:X.N.Nodup)(a:X.N[i]? = some x)(b:Loc X.env.scope x)(c:X.fn x=true\/X.env.scope.names.lookup x=some .local:=by first | exact .inl rfl | exact .inr rfl | assumption):IL X (.Name x pos) (Ql i):=PG.imp (bN d a b c) kS
theorem Fd{i:Nat}{x:Str}{e:Expr}{b:DE}{a:Pos}(j:X.N.Nodup)(f:X.N[i]? = some x)(g:Loc X.env.scope x)(k:Fk X e b)(d:Mc e (some (.Name x a)) pos.line X.env=pure false:=by rfl)(c:X.fn x=true\/X.env.scope.names.lookup x=some .local:=by first | exact .inl rfl | exact .inr rfl | assumption):oX X (.Assign [.Name x a] e pos) (xJ b (Ql i)):=PS.impD (Yy j f g k d c) (lQ (λ_ _ _ h=>h) kS)
theorem Ng{i:Nat}{x:Str}{e:Expr}{b:DE}{a:Pos}(j:X.N.Nodup)(f:X.N[i]? = some x)(g:Loc X.env.scope x)(k:Fk X e b)(d:Mc e (some (.Name x a)) pos.line X.env=pure false:=by rfl)(c:X.fn x=true\/X.env.scope.names.lookup x=some .local:=by first | exact .inl rfl | exact .inr rfl | assumption):oX X (.Assign [.Name x a] e pos) (xJ b (pP i)):=PS.impD (Yy j f g k d c) (lQ (λ_ _ _ h=>h) zH)
end
def zP:yX:=λb a P=>match b with
 | []=>P a
 | _=>False
def vK(g:DG)(c:yX):yX:=λd b P=>match d with
 | x::r=>g x b λa=>c r a P
 | []=>False
def uW(n:Nat)(b:yX):DG:=λx a P=>match x with
 | .dat m (.tuple ds)=>ds.length=n/\b (ds.map λd=>.dat (Os m) d) a P
 | _=>False
theorem At.unpack{K:PySem.W.Frag}{l H:Hp}{X:Addr->Prop}{n:Nat}{m:Md}:∀{us:List V} {p:List Ae} {F:List Addr} {E:List Ent},RdFs K H us p F->(m=.ow->F.Nodup)->(∀f∈E,Wn ⟨none,.dat (Os m) .none,F⟩ f)->(∀a∈cells ⟨none,.dat (Os m) .none,F⟩,l a=none)->At K l X n E H->∃g:List Ent,g.map Ent.v=us.map some/\g.map Ent.x=p.map (λd=>.dat (Os m) d)/\(∀e∈g,∀a∈e.F,a∈F)/\At K l X n (g++E) H
 | _,_,_,_,.nil,_,_,_,h=>⟨[],rfl,rfl,λ_ z=>(nomatch z),h⟩
 | _,_,_,E,.cons (x:=x) (d:=d) (F:=F1) (G:=G1) a t,hn,hs,hnew,h=>by
  have o:∀{G:List Addr} {u:Option V} {i:Ae},(∀b∈G,b∈F1++G1)->∀b∈cells ⟨u,.dat (Os m) i,G⟩,b∈cells ⟨none,.dat (Os m) .none,F1++G1⟩:=λ{G u i} j b c=>by
   cases m with
   | ow=>exact j b c
   | _=>exact nomatch c
  have sub:∀{G:List Addr} {u:Option V} {i:Ae} {f:Ent},(∀b∈G,b∈F1++G1)->Wn ⟨none,.dat (Os m) .none,F1++G1⟩ f->Wn ⟨u,.dat (Os m) i,G⟩ f:=λ{G u i f} j q=>by
   refine ⟨λhp b c=>q.1 ?_ b (o j b c),λhp b c z=>q.2 ?_ b c (j b z)⟩
   ·rcases hp with hp | hp
    ·exact .inl hp
    ·cases hp
   ·rcases hp with hp | hp
    ·refine .inl ?_
     cases m <;> exact hp
    ·exact .inr hp
  obtain ⟨g,y,s,k,A⟩:=At.unpack (m:=m) t (λz=>(Gj.mp (hn z)).2.1) (λf hf=>sub (λb c=>Av _ c) (hs f hf)) (λb c=>hnew b (o (λb c=>Av _ c) b c)) h
  refine ⟨⟨some x,.dat (Os m) d,F1⟩::g,by rw[Au,Au,y],by rw[Au,Au,s],λe he b c=>?_,?_⟩
  ·rcases An.mp he with rfl | he
   ·exact Ap _ c
   ·exact Av _ (k e he b c)
  ·refine A.push ⟨x,rfl,a,λz=>?_,λz=>?_⟩ (λf hf=>?_) λb c=>.inl (hnew b (o (λb c=>Ap _ c) b c))
   ·cases m with
    | ow=>exact (Gj.mp (hn rfl)).1
    | _=>cases z
   ·cases m <;> cases z
   ·rcases Ba.mp hf with hf | hf
    ·have r:f.x∈g.map Ent.x:=Bl.mpr ⟨f,hf,rfl⟩
     rw[s] at r
     obtain ⟨i,_,w⟩:=Bl.mp r
     refine ⟨λhp b c z=>?_,λhp b c z=>?_⟩
     ·cases m with
      | ow=>exact (Gj.mp (hn rfl)).2.2 b c b (k f hf b z) rfl
      | _=>exact nomatch c
     ·cases m with
      | ow=>exact (Gj.mp (hn rfl)).2.2 b z b (k f hf b (Ht _ _ c)) rfl
      | _ =>
       unfold cells at c
       rw[<- w] at c
       exact nomatch c
    ·exact sub (λb c=>Ap _ c) (hs f hf)
section
variable{X:Cx}{pos:Pos}
theorem mC:P7 X [] zP:=by
 refine CT.imp S7 λg j H Q h=>?_
 obtain ⟨i,Y,S,T,f,e,P,rfl,d,c,b,a,k⟩:=h
 match f,b,a,c with
 | [],b,a,c =>
  cases g with
  | nil=>exact ⟨rfl,k e S H d b a⟩
  | cons _ _=>cases c
 | _::_,b,a,c=>exact a.elim
theorem Pn{e:Expr}{es:List Expr}{g:DG}{m:yX}(h1:IL X e g)(z:P7 X es m)(q:(Kr (e::es) X.env).map (·.2)=aR e X.env::(Kr es X.env).map (·.2):=by rfl):P7 X (e::es) (vK g m):=by
 refine CT.imp (u6 h1 z q) λl A H Q h=>?_
 obtain ⟨n,Y,S,T,d,s,P,rfl,o,a,c,b,k⟩:=h
 match d,c,b,a with
 | [],c,b,a=>exact b.elim
 | ⟨v,x,F⟩::d,c,b,a =>
  cases l with
  | nil=>cases a
  | cons u l =>
   rw[Au,Au] at a
   obtain ⟨y,w⟩:=Gs a
   have f:v=some u:=y
   subst f
   refine ⟨u,l,rfl,n,Y,S,d++T,s,x,F,_,rfl,o,c,b,λj t B r i p=>?_⟩
   exact ⟨n,Y,t,T,d,j,P,rfl,r,w,i,p,k⟩
theorem sR{es:List Expr}{K:Nat}{o:yX}{n:Nat}(y:X.calm=true)(h:P7 X es o)(D:(Kr es X.env).length=n:=by rfl)(j:(Kr es X.env).findIdx? (·.1)=none:=by rfl):IL X (.Tuple es K pos) (uW n o):=by
 refine PG.imp (BE y h D j) λv M H Q h=>?_
 obtain ⟨J,Y,S,T,I,x,F,P,rfl,t,e,d,k⟩:=h
 unfold uW at d
 split at d
 ·rename_i m B
  obtain ⟨a,u,rfl,s,l,N⟩:=(e.told mem_mid).tup_inv
  have g:=e.mid
  have p:=Ax.mp g.sep
  obtain ⟨w,_,_,i,_⟩:=g.ok _ Ab
  have r:∀b∈cells ⟨none,.dat (Os m) .none,F⟩,b∈cells ⟨some (.ref a),.dat m (.tuple B),F⟩:=λb c=>by
   cases m with
   | ow=>exact c
   | _=>exact nomatch c
  obtain ⟨C,G,L,O,A⟩:=At.unpack (m:=m) (E:=S++T) l i (λf q=>by
   refine ⟨λhq b c=>(p.1 f q).1 ?_ b (r b c),λhq b c=>(p.1 f q).2 ?_ b c⟩
   ·rcases hq with hq | hq
    ·exact .inl hq
    ·cases hq
   ·rcases hq with hq | hq
    ·refine .inl ?_
     cases m <;> first | rfl | exact hq
    ·exact .inr hq) (λb c=>by
   rcases g.new _ Ab b (r b c) with z | z
   ·exact z
   ·cases z.2) e.drop
  refine ⟨a,u,rfl,Vp.of s,by rw[l.len]; exact d.1,J,Y,S,T,C,I,P,rfl,t,G,A.perm ?_,by rw[L]; exact d.2,k⟩
  rw[<- Cr,<- Cr]
  exact Em.append_right T
 ·exact d.elim
end
theorem sM{K:PySem.W.Frag}{c H:Hp}{X:Addr->Prop}{n:Nat}{E:List Ent}(h:At K c X n E H):∀{e f:Ent},e∈E->f∈E->e=f\/Wn e f:=by
 have a:∀{E:List Ent},E.Pairwise Wn->∀{e f:Ent},e∈E->f∈E->e=f\/Wn e f:=by
  intro E
  induction E with
  | nil=>intro _ e f he; cases he
  | cons g E d =>
   intro i e f he hf
   have b:=Ax.mp i
   rcases An.mp he with he | he
   ·subst he
    rcases An.mp hf with hf | hf
    ·exact .inl hf.symm
    ·exact .inr (b.1 f hf)
   ·rcases An.mp hf with hf | hf
    ·rw[hf]
     exact .inr (b.1 e he).symm
    ·exact d b.2 he hf
 intro e f he hf
 exact a h.sep he hf
abbrev DI:=DS->(Md->List Ae->DS->Prop)->Prop
structure IterOk(K:PySem.W.Frag)(J:It)(hid:List Ent)(m:Md)(ds:List Ae):Prop where
 md:m=.sh\/m=.pk
 hd:∀e∈hid,cells e=[]
 np:m=.sh->∀e∈hid,Ph e.x=false
 go:∀H n i,(∀e∈hid,Jg K H n e)->i<ds.length->J.go i H
 yld:∀H n i x H',(∀e∈hid,Jg K H n e)->i<ds.length->J.yld i H x H'->gO H H'/\∃d F,ds[i]? = some d/\RdF K H' x d F/\∀a∈F,∃e∈hid,a∈e.F
 stop:∀H n,(∀e∈hid,Jg K H n e)->J.stop ds.length H
def LI(K:PySem.W.Frag)(i:DI):TI:=λh H R=>∃(g:Hp) (X:Addr->Prop) (S T:List Ent) (c:DS) (P:Md->List Ae->DS->Prop),vs S=h/\Sl S c/\At K g X c.n (S++T) H/\i c P /\
 ∀m d a J b e f,vs e=h->Sl e a->At K g X a.n (e++(b++T)) f->IterOk K J b m d->d.length<=Bf->P m d a->R J f
abbrev U1(X:Cx)(b iter:Expr)(a:DI):Prop:=PI X b iter (LI X.K a)
theorem PI.imp{X:Cx}{b e:Expr}{t t':TI}(h:PI X b e t)(k:∀σ H Q,t' σ H Q->t σ H Q):PI X b e t':=λa s σ H Q I q=>h a s σ H Q I (k σ H Q q)
def Ly:Md->Md
 | .pk=>.pk
 | _=>.sh
theorem jK(m:Md):wk m (Ly m)=true:=by cases m <;> rfl
theorem At.item{K:PySem.W.Frag}{l H g:Hp}{X:Addr->Prop}{n:Nat}{S T b:List Ent}{m:Md}{v:V}{d:Ae}{F:List Addr}(h:At K l X n (S++(b++T)) H)(s:gO H g)(r:RdF K g v d F)(t:∀a∈F,∃e∈b,a∈e.F)(md:m=.sh\/m=.pk)(u:∀e∈b,cells e=[])(np:m=.sh->∀e∈b,Ph e.x=false):At K l X n (S++⟨some v,.dat m d,F⟩::(b++T)) g:=by
 have p:=h.grow (n':=n) s (Ah _)
 have k:∀a,a∉cells ⟨some v,.dat m d,F⟩:=λa c=>by
  rcases md with rfl | rfl <;> exact nomatch c
 refine (p.push (e:=⟨some v,.dat m d,F⟩) ⟨v,rfl,r,λz=>?_,λz=>?_⟩ (λf o=>⟨λ_ a c=>absurd c (k a),λhq a c z=>?_⟩) λa c=>absurd c (k a)).tomid
 ·rcases md with rfl | rfl <;> cases z
 ·rcases md with rfl | rfl <;> cases z
 ·obtain ⟨e,i,w⟩:=t a z
  have j:e∈S++(b++T):=Av _ (Ap _ i)
  rcases sM h j o with rfl | q
  ·rw[u e i] at c
   cases c
  ·refine q.2 ?_ a c w
   rcases hq with hq | hq
   ·refine .inl (np ?_ e i)
    rcases md with rfl | rfl
    ·rfl
    ·cases hq
   ·exact .inr hq
def LZ(c:DE):DI:=λb P=>c b λx a=>match x with
 | .dat m (.list ds)=>P (Ly m) ds a
 | .dat m (.tuple ds)=>P (Ly m) ds a
 | _=>False
def oT(c:DA):DI:=λb P=>c b λd a=>match d with
 | [.dat _ (.int j)]=>-1000000<=j/\j<=1000000/\P .sh ((Bg j.toNat).map λi:Nat=>.int i) a
 | _=>False
def K8(c:DA):DI:=λb P=>c b λd a=>match d with
 | [.dat m (.list ds)]=>P (Ly m) (ds.zipIdx.map λp=>.tuple [.int p.2,p.1]) a
 | _=>False
def JK(c:DA):DI:=λb P=>c b λd a=>match d with
 | [.dat m (.tuple ds)]=>P (Ly m) (ds.zipIdx.map λp=>.tuple [.int p.2,p.1]) a
 | _=>False
section
variable{K:PySem.W.Frag}
theorem Om{H:Hp}{n:Nat}{v:V}{m:Md}{d:Ae}{F:List Addr}{a:List Ent}(h:∀e∈a,Jg K H n e)(c:⟨some v,.dat m d,F⟩∈a):RdF K H v d F:=by
 obtain ⟨w,f,b,_⟩:=h _ c
 cases f
 exact b
theorem L3{v:Option V}{m:Md}{d:Ae}{F:List Addr}:cells ⟨v,.dat (Ly m) d,F⟩=[]:=by cases m <;> rfl
theorem sO{v:Option V}{m:Md}{d:Ae}{F:List Addr}:∀e∈[(⟨v,.dat (Ly m) d,F⟩ : Ent)],cells e=[]:=λe a=>by
 rw[Al.mp a]
 exact L3
theorem g0{v:Option V}{m:Md}{d:Ae}{F:List Addr}:Ly m=.sh->∀e∈[(⟨v,.dat (Ly m) d,F⟩ : Ent)],Ph e.x=false:=λz e a=>by
 rw[Al.mp a]
 show Ph (.dat (Ly m) d)=false
 rw[z]
 rfl
theorem jY(m:Md):Ly m=.sh\/Ly m=.pk:=by cases m <;> simp [Ly]
theorem yG{a:Addr}{m:Md}{j:List Ae}{F:List Addr}:IterOk K (LX K a) [⟨some (.ref a),.dat (Ly m) (.list j),F⟩] (Ly m) j where
 md:=jY m
 hd:=sO
 np:=g0
 go:=λH n i h k=>by
  obtain ⟨b,d,G,e,f,g,_,_⟩:=(Om h Ab).list_inv
  cases e
  have v:=g.len
  exact ⟨d,d[i],Ux.of f,by simp [show i<d.length by omega]⟩
 yld:=λH n i x u h k y=>by
  obtain ⟨b,d,G,e,f,g,rfl,_⟩:=(Om h Ab).list_inv
  cases e
  obtain ⟨rfl,y⟩:=y
  have r:=y d (Ux.of f)
  obtain ⟨t,p,l,s,q⟩:=g.get (i:=i) (e:=j[i]) (by simp [k])
  rw[r] at l
  cases l
  exact ⟨gO.refl _,j[i],p,by simp [k],s,λc o=>⟨_,Ab,Ad _ (q.subset o)⟩⟩
 stop:=λH n h=>by
  obtain ⟨b,d,G,e,f,g,_,_⟩:=(Om h Ab).list_inv
  cases e
  exact ⟨d,Ux.of f,by rw[g.len]; exact Ah _⟩
theorem zS{a:Addr}{m:Md}{j:List Ae}{F:List Addr}:IterOk K (LP K a) [⟨some (.ref a),.dat (Ly m) (.tuple j),F⟩] (Ly m) j where
 md:=jY m
 hd:=sO
 np:=g0
 go:=λH n i h k=>by
  obtain ⟨b,d,e,f,g,_⟩:=(Om h Ab).tup_inv
  cases e
  have v:=g.len
  exact ⟨d,d[i],Vp.of f,by simp [show i<d.length by omega]⟩
 yld:=λH n i x u h k y=>by
  obtain ⟨b,d,e,f,g,_⟩:=(Om h Ab).tup_inv
  cases e
  obtain ⟨rfl,y⟩:=y
  have r:=y d (Vp.of f)
  obtain ⟨t,p,l,s,q⟩:=g.get (i:=i) (e:=j[i]) (by simp [k])
  rw[r] at l
  cases l
  exact ⟨gO.refl _,j[i],p,by simp [k],s,λc o=>⟨_,Ab,q.subset o⟩⟩
 stop:=λH n h=>by
  obtain ⟨b,d,e,f,g,_⟩:=(Om h Ab).tup_inv
  cases e
  exact ⟨d,Vp.of f,by rw[g.len]; exact Ah _⟩
theorem rW{lo:Int}{n:Nat}:IterOk K (IH lo n) [] .sh ((Bg n).map λi:Nat=>.int (lo+i)) where
 md:=.inl rfl
 hd:=λ_ z=>nomatch z
 np:=λ_ _ z=>nomatch z
 go:=λH k i h a=>by
  show i<n
  simpa using a
 yld:=λH k i x b h a y=>by
  obtain ⟨rfl,rfl⟩:=y
  rw[Ac,Cs] at a
  exact ⟨gO.refl _,.int (lo+i),[],by simp [a],.int _,λ_ z=>nomatch z⟩
 stop:=λH k h=>by simp [IH]
theorem yQ{a:Addr}{m:Md}{k:List Ae}{F:List Addr}:IterOk K (LK K a) [⟨some (.ref a),.dat (Ly m) (.list k),F⟩] (Ly m) (k.zipIdx.map λp=>.tuple [.int p.2,p.1]) where
 md:=jY m
 hd:=sO
 np:=g0
 go:=λH n i h g=>by
  obtain ⟨b,d,G,e,f,j,_,_⟩:=(Om h Ab).list_inv
  cases e
  have C:=j.len
  rw[Ac,Mo] at g
  exact ⟨d,d[i],Ux.of f,by simp [show i<d.length by omega]⟩
 yld:=λH n i x B h g y=>by
  obtain ⟨b,d,G,e,f,j,rfl,_⟩:=(Om h Ab).list_inv
  cases e
  rw[Ac,Mo] at g
  obtain ⟨t,z,rfl,s,rfl,y⟩:=y
  have u:=y d (Ux.of f)
  obtain ⟨A,r,l,w,v⟩:=j.get (i:=i) (e:=k[i]) (by simp [g])
  rw[u] at l
  cases l
  have o:=Gn s (.tup [.int i,z])
  refine ⟨o,.tuple [.int i,k[i]],r,by simp [g],.tup El (by simp [Hq]) ?_,λc q=>⟨_,Ab,Ad _ (v.subset q)⟩⟩
  have:=RdFs.cons (F:=[]) (.int (i:Int)) (RdFs.cons (w.kp (Kp.of o)) RdFs.nil)
  rw[Fl] at this
  exact this
 stop:=λH n h=>by
  obtain ⟨b,d,G,e,f,j,_,_⟩:=(Om h Ab).list_inv
  cases e
  exact ⟨d,Ux.of f,by rw[Ac,Mo,j.len]; exact Ah _⟩
end
section
variable{X:Cx}{g e:Expr}{c:DE}{l:DI}
def dL(c:DE):DI:=λb P=>c b λx a=>match x with
 | .dat m (.list ds)=>P (Ly m) ds a
 | _=>False
def MC(c:DE):DI:=λb P=>c b λx a=>match x with
 | .dat m (.tuple ds)=>P (Ly m) ds a
 | _=>False
theorem yZ(h:Fk X e c):U1 X g e (dL c):=by
 refine PI.imp (O3 h) λy H R h=>?_
 obtain ⟨t,Y,S,T,q,P,rfl,l,m,r,k⟩:=h
 refine ⟨t,Y,S,T,q,_,rfl,l,m,r,λx f v F u i p n b d=>?_⟩
 split at d
 ·obtain ⟨a,o,G,rfl,j,w,rfl,s⟩:=(b.told mem_mid).list_inv
  exact ⟨a,rfl,⟨o,Ux.of j⟩,k _ _ f _ [_] u i p n ((b.mid.wk (jK _)).tomid) yG s d⟩
 ·exact d.elim
theorem FK(h:Fk X e c):U1 X g e (MC c):=by
 refine PI.imp (BJ h) λy H R h=>?_
 obtain ⟨t,Y,S,T,q,P,rfl,l,m,r,k⟩:=h
 refine ⟨t,Y,S,T,q,_,rfl,l,m,r,λx f v F u i p n b d=>?_⟩
 split at d
 ·obtain ⟨a,o,rfl,j,w,s⟩:=(b.told mem_mid).tup_inv
  exact ⟨a,rfl,⟨o,Vp.of j⟩,k _ _ f _ [_] u i p n ((b.mid.wk (jK _)).tomid) zS s d⟩
 ·exact d.elim
variable{es:List Expr}{f:DA}{a b:Expr}{p pos j:Pos}{d:List Expr}{i:Nat}
theorem Kt(t:Gl X "range")(m:X.mg "range" = none)(e:uU X [a] f)(n:Cc [a] X.env=[(false,eval a X.env)]:=by rfl):U1 X g (.Call (.Name "range" p) [a] [] pos) (oT f):=by
 refine PI.imp (wQ t m e n) λC H R h=>?_
 obtain ⟨r,Y,S,T,q,P,rfl,i,j,y,k⟩:=h
 refine ⟨r,Y,S,T,q,_,rfl,i,j,y,λB d E G s x w u l o c p=>?_⟩
 split at p
 ·obtain ⟨v,F,rfl,b⟩:=Io o c l
  obtain ⟨rfl,_⟩:=(b.told mem_mid).int_inv
  obtain ⟨D,A,z⟩:=p
  refine ⟨_,rfl,by omega,by omega,k _ _ d _ [] s x w u b.drop rW (by rw[Ac,Cs]; exact pF (by omega)) ?_⟩
  simpa using z
 ·exact p.elim
theorem T8(y:Gl X "enumerate")(q:X.mg "enumerate" = none)(c:uU X [a] f)(r:Cc [a] X.env=[(false,eval a X.env)]:=by rfl):U1 X (.Tuple d i j) (.Call (.Name "enumerate" p) [a] [] pos) (K8 f):=by
 refine PI.imp (N8 y q c r) λE H R h=>?_
 obtain ⟨w,Y,S,T,u,P,rfl,m,n,C,k⟩:=h
 refine ⟨w,Y,S,T,u,_,rfl,m,n,C,λl g I J x B A z o s e p=>?_⟩
 split at p
 ·obtain ⟨v,F,rfl,b⟩:=Io s e o
  obtain ⟨a,l,G,rfl,c,D,rfl,t⟩:=(b.told mem_mid).list_inv
  exact ⟨a,rfl,⟨l,Ux.of c⟩,k _ _ g _ [_] x B A z ((b.mid.wk (jK _)).tomid) yQ (by rw[Ac,Mo]; exact t) p⟩
 ·exact p.elim
end
def II(g:DI)(j:DG)(f:DB):DB:=λD h=>g h λm e c=>m=.sh/\∃I:Nat->DS->Prop,I 0 c /\
 (∀i d a,e[i]? = some d->I i a->j (.dat .sh d) a λb=>f { D with nx:=I (i+1),ct:=I (i+1),bk:=D.nx } b)/\∀a,I e.length a->D.nx a
section
variable{X:Cx}{b iter:Expr}{f:DI}{g:DG}{c:DB}{a:List Stmt}{pos:Pos}
theorem At.dropH{K:PySem.W.Frag}{b H:Hp}{X:Addr->Prop}{n:Nat}{S T a:List Ent}{e:Ent}(h:At K b X n (S++e::(a++T)) H):At K b X n (S++e::T) H:=h.sub ((Eb S).append ((Di a T).cons₂ e))
theorem Ln(hp:PassesOwn (model X.prog X.w) X.A X.env X.xe)(hc:X.calm=true)(hi:U1 X b iter f)(hg:IL X b g)(hb:fB X a c)(R:∀x,Hz iter X.env x=pure x:=by intro _; rfl):oX X (.For b iter a [] pos) (II f g c):=by
 refine PS.impD (BN hp hc hi hg hb R) λD O H h=>?_
 obtain ⟨G,Y,S,T,r,P,rfl,hS,hT,hA,hd,k1,k2,k3,k4⟩:=h
 refine ⟨G,Y,S,T,r,_,rfl,hS,hA,hd,λm C N J p S1 H1 e1 e2 Q it hz p1=>?_⟩
 obtain ⟨rfl,I,h0,R,hf⟩:=p1
 rw[<- e1]
 have V:∀e∈p++T,Ph e.x=false:=λe he=>by
  rcases Ba.mp he with he | he
  ·exact it.np rfl e he
  ·exact hT e he
 refine ⟨λi q O H=>q=C.length - i/\i<=C.length/\∃S r,vs S=O/\Sl S r/\At X.K G Y r.n (S++(p++T)) H/\I i r,⟨C.length,by simp,Ds _,S1,N,rfl,e2,Q,h0⟩,?_⟩
 (intro i q O H q_; obtain ⟨rfl,hi,S2,k,rfl,e3,z,Z⟩ := q_)
 have j:∀e∈p,Jg X.K H k.n e:=λe he=>z.ok e (Av _ (Ap _ he))
 by_cases u:i<C.length
 ·refine .inr ⟨it.go H k.n i j u,λL M=>∃S r,vs S=L/\Sl S r/\At X.K G Y r.n (S++(p++T)) M/\I (i+1) r,λL M q=>⟨C.length - (i+1),by omega,rfl,u,q⟩,λx M y=>?_⟩
  obtain ⟨s1,d,F,h1,h2,h3⟩:=it.yld H k.n i x M j u y
  refine ⟨G,Y,S2,p++T,k,.dat .sh d,F,_,rfl,e3,z.item s1 h2 h3 it.md it.hd it.np,R i d k h1 Z,λW S3 H3 e4 U p3=>?_⟩
  refine ⟨G,Y,S3,p++T,W,_,rfl,e4,V,U,p3,λl B E t o s=>⟨B,l,rfl,t,o,s⟩,λx l v F B E t o s=>k2 x l v F B E t o.dropH s,
   λl B E t o s=>k1 l B E t o.dropL s,λl B E t o s=>⟨B,l,rfl,t,o,s⟩⟩
 ·have e:i=C.length:=by omega
  subst e
  exact .inl ⟨it.stop H k.n j,k1 k S2 H e3 z.dropL (hf k Z)⟩
end
def K6(dt:DT)(f:DB):DB:=λD g=>∃(I:DS->Prop) (e:DS->Nat),I g/\∀c,I c->dt c λb d=>match b with
 | true=>f { D with nx:=λa=>I a/\e a<e c,ct:=λa=>I a/\e a<e c,bk:=D.nx } d
 | false=>D.nx d
end DL
namespace Nd
open PySem PySem.Spec PyProof.Rows L2
end Nd
namespace DL
open PySem L2 Nd
def al(e:Ent):Ent:=match e.x with
 | .dat m d=>⟨e.v,.dat (lR m) d,e.F⟩
 | .val _=>e
 | .scr _=>e
 | _=>⟨e.v,.un,[]⟩
def alD:DV->DV
 | .dat m d=>.dat (lR m) d
 | .val v=>.val v
 | .scr a=>.scr a
 | _=>.un
def J0(S:List Ent)(j:Nat):Ent:=match S[j]? with
 | some e=>al e
 | none=>⟨none,.un,[]⟩
def fZ(S:List Ent)(a:List Nat):List Ent:=a.map (J0 S)
def frD1(a:List DV)(j:Nat):DV:=match a[j]? with
 | some x=>alD x
 | none=>.un
def frD(b:List DV)(a:List Nat):List DV:=a.map (frD1 b)
theorem LR(e:Ent):(al e).v=e.v:=by
 obtain ⟨v,x,F⟩:=e
 cases x <;> rfl
theorem LW(e:Ent):(al e).x=alD e.x:=by
 obtain ⟨v,x,F⟩:=e
 cases x <;> rfl
theorem A5(S:List Ent)(a:List Nat):vs (fZ S a)=Ku (vs S) a:=by
 unfold vs fZ Ku
 rw[Eh]
 refine Jk λj _=>?_
 rw[Br]
 simp only[Vk,J0]
 cases S[j]? with
 | none=>rfl
 | some e=>exact LR e
theorem J5{S:List Ent}{a:DS}(h:Sl S a)(b:List Nat):(fZ S b).map Ent.x=frD a.sl b:=by
 unfold Sl at h
 unfold fZ frD
 rw[Eh]
 refine Jk λj _=>?_
 simp only[Vk,J0,frD1]
 rw[<- h,Br]
 cases S[j]? with
 | none=>rfl
 | some e=>exact LW e
section
variable{K:PySem.W.Frag}{g H i:Hp}{X:Addr->Prop}{n:Nat}{E S T:List Ent}
theorem pR(e:Ent):cells (al e)=[]:=by
 obtain ⟨v,x,F⟩:=e
 cases x with
 | dat m d=>cases m <;> rfl
 | _=>rfl
theorem At.view1(h:At K g X n E H){e:Ent}(c:e∈E):At K g X n (al e::E) H:=by
 refine h.push ?_ (λf i=>⟨λ_ a b=>(by rw[pR] at b; cases b),λhq a b z=>?_⟩) λa b=>(by rw[pR] at b; cases b)
 ·have:=h.ok e c
  obtain ⟨v,x,F⟩:=e
  cases x with
  | dat m d =>
   obtain ⟨w,j,o,_⟩:=this
   exact ⟨w,j,o,λz=>(by cases m <;> cases z),λz=>(by cases m <;> cases z)⟩
  | val v=>exact this
  | scr l=>exact this
  | _=>exact (rfl:([]:List Addr)=[])
 ·obtain ⟨v,x,F⟩:=e
  cases x with
  | dat m d =>
   rcases sM h c i with rfl | q
   ·rcases hq with hq | hq
    ·cases m <;> first | cases hq; done | exact nomatch b
    ·cases hq
   ·refine q.2 ?_ a b z
    rcases hq with hq | hq
    ·refine .inl ?_
     cases m <;> first | rfl | exact hq
    ·exact .inr hq
  | val v =>
   rw[show F=[] from (h.ok _ c).2] at z
   cases z
  | scr l =>
   obtain ⟨_,_,k,_⟩:=h.ok _ c
   rw[show F=[] from k] at z
   cases z
  | _=>exact nomatch z
theorem At.blank(h:At K g X n E H){v:Option V}:At K g X n (⟨v,.un,[]⟩::E) H :=
 h.push (rfl:([]:List Addr)=[]) (λf _=>⟨λ_ a b=>(nomatch b),λ_ a _=>Ce⟩) (λa b=>(nomatch b))
theorem At.view(h:At K g X n E H)(b:∀e∈S,e∈E):∀a:List Nat,At K g X n (fZ S a++E) H
 | []=>h
 | j::a=>by
  have c:=At.view h b a
  show At K g X n (J0 S j::(fZ S a++E)) H
  unfold J0
  cases e:S[j]? with
  | none=>exact c.blank
  | some x=>exact c.view1 (Av _ (b x (Aw e)))
theorem At.accNew(h:At K g X n E H){D:Addr}(c:H D=Option.none):At K g X n (⟨some (.ref D),.acc [],[D]⟩::E) (upd H D (.lst [])):=by
 have i:=Gn c (.lst [])
 refine (h.grow (n':=n) i (Ah _)).push ⟨D,[],[],rfl,rfl,El,.nil,Ds _,Ce⟩ (λf e=>?_) λa b=>?_
 ·have d:=h.free c f e
  refine ⟨λ_ a b z=>?_,λ_ a b z=>?_⟩
  ·rw[Al.mp b] at z
   exact d z
  ·rw[Al.mp z] at b
   exact d (Ht _ _ b)
 ·rw[Al.mp b]
  exact .inl (h.new0 c)
theorem At.accPutG{D:Addr}{p:List Ae}{v:V}{m:Md}{e:Ae}{F G:List Addr}(h:At K g X n (⟨some (.ref D),.acc p,D::G⟩::⟨some v,.dat m e,F⟩::E) H)(J:m≠.pk)(hz:p.length+1<=Bf):∃xs,H D=some (.lst xs)/\xs.length=p.length/\At K g X n (⟨some (.ref D),.acc (p++[e]),D::(G++F)⟩::E) (upd H D (.lst (xs++[v]))):=by
 obtain ⟨a,xs,I,O,N,w,y,_,x⟩:=h.ok _ Ab
 have t:some (V.ref D)=some (V.ref a):=O
 cases t
 have u:D::G=D::I:=N
 cases u
 have r:RdF K H v e F:=h.told (Ad _ Ab)
 have j:=Ax.mp h.sep
 have i:=Ax.mp j.2
 have s:=(h.sub (Dr _ _)).sub (Dr _ _)
 have npk:Ph (.dat m e)=false:=by cases m <;> first | rfl | exact absurd rfl J
 have A:D∉F:=(j.1 _ Ab).1 (.inr rfl) D Ab
 have kp:∀{F:List Addr},D∉F->Kp F H (upd H D (.lst (xs++[v]))):=λ{F} L b o q z=>by
  have : b≠D:=by
   rintro rfl
   rw[w] at q
   cases q
   rcases z with z | z
   ·exact L z
   ·rcases z with ⟨_,z⟩ | ⟨_,_,z⟩ <;> cases z
  rw[Fi this]
  exact q
 have l:g D=Option.none:=by
  rcases h.new _ Ab D Ab with z | z
  ·exact z
  ·cases z.2
 refine ⟨xs,w,y.len,?_⟩
 refine ⟨λf hf=>?_,?_,λf hf=>?_,λb o M q=>?_,λb o q=>?_,λb C=>?_⟩
 rotate_right
 ·obtain ⟨z,c,k,f,s,Q⟩:=h.xd b C
  refine ⟨z,c,k,f,(Fi ?_).trans s,Q⟩
  rintro rfl
  exact z l
 ·rcases An.mp hf with rfl | hf
  ·exact ⟨D,xs++[v],G++F,rfl,rfl,El,(y.kp (kp x)).snoc (r.kp (kp A)),by rw[Bh]; exact hz,λz=>(Ba.mp z).elim x A⟩
  ·exact (s.ok f hf).kp (kp ((j.1 f (Ad _ hf)).1 (.inr rfl) D Ab)) (Ah _)
 ·refine Ax.mpr ⟨λf hf=>⟨λP a d=>(j.1 f (Ad _ hf)).1 (.inr rfl) a d,λP a d z=>?_⟩,i.2⟩
  have B:=(j.1 f (Ad _ hf)).2 (.inl rfl) a d
  rcases An.mp z with z | z
  ·exact B (z▸Ab)
  ·rcases Ba.mp z with z | z
   ·exact B (Ad _ z)
   ·exact (i.1 f hf).2 (.inl npk) a d z
 ·rcases An.mp hf with rfl | hf
  ·intro a d
   rw[Al.mp d]
   exact .inl l
  ·exact s.new f hf
 ·rw[Fi (Gc q l)]
  exact h.same b o M q
 ·rw[Fi (Gc q l)]
  exact h.dom b o q
theorem At.accPut{D:Addr}{a:List Ae}{v:V}{e:Ae}(h:At K g X n (⟨some (.ref D),.acc a,[D]⟩::E) H)(r:RdF K H v e [])(hz:a.length+1<=Bf):∃xs,H D=some (.lst xs)/\xs.length=a.length/\At K g X n (⟨some (.ref D),.acc (a++[e]),[D]⟩::E) (upd H D (.lst (xs++[v]))) :=
 At.accPutG (m:=.ow) (At.pushI (S:=[⟨some (.ref D),.acc a,[D]⟩]) h r) (by decide) hz
def tV:Bool->Md
 | true=>.ow
 | false=>.tp
theorem At.accGetG{D:Addr}{d:List Ae}{b:Bool}{G:List Addr}(h:At K g X n (⟨some (.ref D),.acc d,D::G⟩::E) H)(hb:b=true->G=[]):At K g X n (⟨some (.ref D),.dat (tV b) (.list d),D::G⟩::E) H:=by
 obtain ⟨a,x,p,t,w,q,s,u,r⟩:=h.ok _ Ab
 have j:some (V.ref D)=some (V.ref a):=t
 cases j
 have i:D::G=D::p:=w
 cases i
 have m:=Ax.mp h.sep
 have o:∀a∈cells ⟨some (.ref D),.dat (tV b) (.list d),D::G⟩,a=D:=λa c=>by
  cases b with
  | true=>rw[hb rfl] at c; exact Al.mp c
  | false=>exact Al.mp c
 refine (h.sub (Dr _ _)).push ⟨_,rfl,.lst q u s,λz=>?_,λ_ a l e=>?_⟩ (λf k=>⟨λv a c=>?_,λv a c=>(m.1 f k).2 (.inl rfl) a c⟩) λa c=>?_
 ·cases b with
  | true=>rw[hb rfl]; exact Cg.mpr ⟨Ce,Do⟩
  | false=>cases z
 ·have e:D::G=a::l:=e
  cases e
  exact r
 ·rw[o a c]
  exact (m.1 f k).1 (.inr rfl) D Ab
 ·rw[o a c]
  rcases h.new _ Ab D Ab with z | z
  ·exact .inl z
  ·cases z.2
theorem At.accGet{D:Addr}{a:List Ae}(h:At K g X n (⟨some (.ref D),.acc a,[D]⟩::E) H):At K g X n (⟨some (.ref D),.dat .ow (.list a),[D]⟩::E) H:=At.accGetG (b:=true) h λ_=>rfl
end
def mO:DT:=λa P=>P true a
def BA(b:Bool)(m:Md)(e:Ae):Prop:=match b with
 | true=>imm e=true
 | false=>m≠.pk
def Ox(b:Bool)(g:DT)(j:DE)(h:DS)(d:Ae->Nat->Prop)(i:Nat->Prop):Prop:=g h λc a=>match c with
 | true=>j a λy f=>match y with
  | .dat m e=>BA b m e/\d e f.n
  | _=>False
 | false=>i a.n
def sD(b:Bool)(k:DI)(j:List Nat)(h:DT)(o:DE):DE:=λl P=>k l λm g c=>∃I:Nat->List Ae->Nat->Prop,I 0 [] c.n /\
 (∀i d a n,g[i]? = some d->I i a n->Ox b h o ⟨.dat m d::frD c.sl j,n⟩ (λe f=>I (i+1) (a++[e]) f) (λf=>I (i+1) a f)) /\
 ∀a n,I g.length a n->P (.dat (tV b) (.list a)) ⟨c.sl,n⟩
def Xh:DT->DE->DS->(Ae->Nat->Prop)->(Nat->Prop)->Prop:=Ox true
def AI:DI->List Nat->DT->DE->DE:=sD true
def zX:DI->List Nat->DT->DE->DE:=sD false
section
variable{K:PySem.W.Frag}{a H f:Hp}{Y:Addr->Prop}{n:Nat}{E S T:List Ent}
theorem L6{b:Bool}{B:DT}{C:DE}{l:DS}{j:Ae->Nat->Prop}{x:Nat->Prop}{D:Addr}{G:List Addr}{d:List Ae}{u:Hp->Prop}{A:VK}(E:Sl S l)(hb:b=true->G=[])(I:At K a Y l.n (S++⟨some (.ref D),.acc d,D::G⟩::T) H)(h:Ox b B C l j x)(hz:d.length+1<=Bf)(k1:∀n' f,At K a Y n' (⟨some (.ref D),.acc d,D::G⟩::T) f->x n'->u f)(k2:∀e n' v f t,(b=true->t=[])->(∃xs,f D=some (.lst xs)/\xs.length=d.length/\At K a Y n' (⟨some (.ref D),.acc (d++[e]),D::t⟩::T) (upd f D (.lst (xs++[v]))))->j e n'->A v f):LT K B (vs S) H λc o=>if c=true then LE K C (vs S) o A else u o:=by
 refine ⟨a,Y,S,⟨some (.ref D),.acc d,D::G⟩::T,l,_,rfl,E,I,h,λc s J o N M k w=>?_⟩
 cases c with
 | false=>exact vZ (k1 _ _ (k.sub (Di _ _)) w)
 | true =>
  refine vU ⟨a,Y,J,⟨some (.ref D),.acc d,D::G⟩::T,s,_,N,M,k,w,λy q v F O L P Q g i=>?_⟩
  split at i
  ·rename_i m e
   have r:=g.told mem_mid
   cases b with
   | true =>
    obtain rfl:=r.imm i.1
    obtain rfl:=hb rfl
    exact k2 _ _ _ _ [] (λ_=>rfl) ((g.drop.sub (Di _ _)).accPut r hz) i.2
   | false =>
    have p:At K a Y q.n (⟨some v,.dat m e,F⟩::⟨some (.ref D),.acc d,D::G⟩::T) L:=g.sub (Di _ _)
    exact k2 _ _ _ _ (G++F) (λz=>nomatch z) ((p.perm (Fh _ _ _)).accPutG i.1 hz) i.2
  ·exact i.elim
theorem yB{dt:TT}:∀σ H Q,LT K mO σ H Q->mH σ H Q:=by
 intro σ H Q h
 obtain ⟨a,Y,S,T,e,P,rfl,b,c,d,k⟩:=h
 exact k true e S H rfl b c d
theorem yY.imp{X:Cx}{e:List Expr}{t t':TT}(h:yY X e t)(k:∀σ H Q,t' σ H Q->t σ H Q):yY X e t':=λa s σ H Q I q=>h a s σ H Q I (k σ H Q q)
theorem vP{b:Bool}{W:DI}{s:List Nat}{dc:DT}{de:DE}:∀σ H Q,LE K (sD b W s dc de) σ H Q->oI (LI K W) s (LT K dc) (LE K de) σ H Q:=by
 intro σ H Q h
 obtain ⟨a,Y,S,T,δ,P,rfl,hS,hA,hd,k⟩:=h
 refine ⟨a,Y,S,T,δ,_,rfl,hS,hA,hd,λm o t J l j H1 e1 e2 N it hz p1=>?_⟩
 obtain ⟨I,h0,hs,hf⟩:=p1
 rw[<- e1]
 intro D hD
 refine ⟨λi q H=>q=o.length - i/\i<=o.length/\∃c n G,(b=true->G=[])/\At K a Y n (⟨some (.ref D),.acc c,D::G⟩::(j++(l++T))) H/\c.length<=i/\I i c n,⟨o.length,by simp,Ds _,[],t.n,[],λ_=>rfl,N.accNew hD,Ah _,h0⟩,?_⟩
 (intro i q H q_; obtain ⟨rfl,hi,c,n,G,U,u,hl,X⟩ := q_)
 have g:∀e∈l,Jg K H n e:=λe R=>u.ok e (Ad _ (Av _ (Ap _ R)))
 by_cases r:i<o.length
 ·refine .inr ⟨it.go H n i g r,λx f y=>?_⟩
  obtain ⟨s1,d,F,h1,h2,h3⟩:=it.yld H n i x f g r y
  have w:At K a Y n ((⟨some (.ref D),.acc c,D::G⟩::j)++⟨some x,.dat m d,F⟩::(l++T)) f:=At.item (S:=⟨some (.ref D),.acc c,D::G⟩::j) u s1 h2 h3 it.md it.hd it.np
  have z:=w.mid
  have V:=At.view (S:=j) z (λe R=>Ad _ (Ap _ (Ad _ R))) s
  have B:At K a Y n ((⟨some x,.dat m d,F⟩::fZ j s)++⟨some (.ref D),.acc c,D::G⟩::(j++(l++T))) f:=V.mid
  have C:Sl (⟨some x,.dat m d,F⟩::fZ j s) ⟨.dat m d::frD t.sl s,n⟩:=by
   unfold Sl
   rw[Au,J5 e2]
  have hv:vs (⟨some x,.dat m d,F⟩::fZ j s)=some x::Ku (vs j) s:=by
   rw[<- A5]
   rfl
  refine ⟨λL=>∃M,M<o.length - i/\_,λy Z=>∃c,Z D=some (.lst c)/\c.length<Bf/\∃M,M<o.length - i/\_,λL q=>q,λy Z q=>q,?_⟩
  rw[<- hv]
  refine L6 C U B (hs i d c n h1 X) (by omega) (λE L A p=>?_) (λe E v L G' O A p=>?_)
  ·exact ⟨o.length - (i+1),by omega,rfl,r,c,E,G,U,A,by omega,p⟩
  ·obtain ⟨xs,g1,g2,g3⟩:=A
   exact ⟨xs,g1,by omega,o.length - (i+1),by omega,rfl,r,c++[e],E,G',O,g3,by rw[Bh]; simp; omega,p⟩
 ·have e:i=o.length:=by omega
  subst e
  refine .inl ⟨it.stop H n g,k _ ⟨t.sl,n⟩ _ (D::G) j H e1 e2 ?_ (hf c n X)⟩
  have w:=u.accGetG U
  have z:At K a Y n (⟨some (.ref D),.dat (tV b) (.list c),D::G⟩::(j++T)) H:=w.sub (((Eb j).append (Di l T)).cons₂ _)
  exact z.tomid
end
section
variable{X:Cx}{b iter c:Expr}{x r p:Str}{l n pt t pos m:Pos}{q i0:Nat}{d:List Expr}{a:Scope}{f:List (Str×Addr)}{ys:List Str}{g:List Nat}{j:DI}{e:DT}{k:DE}
theorem Np:yY X [] (LT X.K mO):=yY.imp K4 (yB (dt:=mH))
theorem Xd(h:fN X c e):yY X [c] (LT X.K e):=U9 h
theorem Ni(C:CompScope X a f x ys g)(c:X.calm=true)(i:U1 X (.Name x l) iter j)(m:∀fp s H,yY (Gx X a f (x::ys) fp s H) d (LT X.K e))(n:∀fp s H,Fk (Gx X a f (x::ys) fp s H) b k)(h:∀x,Hz iter X.env x=pure x:=by intro _; rfl):Fk X (.ListComp b [⟨.Name x l,iter,d,0⟩] a pos) (AI j g e k):=PE.imp (lS C c i m n h) vP
def KD(o:Bool)(i:Nat):DG:=match o with
 | true=>pP i
 | false=>Ql i
theorem JW{K:PySem.W.Frag}{o:Bool}{i:Nat}:∀v σ H Q,LG K (KD o i) v σ H Q->gY i v σ H Q:=by
 cases o with
 | true=>exact zH
 | false=>exact kS
theorem L9(C:CompScope X a f x ys g)(c:X.calm=true)(i:U1 X (.Name x l) iter j)(m:∀fp s H,yY (Gx X a f (x::ys) fp s H) d (LT X.K e))(n:∀fp s H,Fk (Gx X a f (x::ys) fp s H) b k)(h:∀x,Hz iter X.env x=pure x:=by intro _; rfl):Fk X (.ListComp b [⟨.Name x l,iter,d,0⟩] a pos) (zX j g e k):=PE.imp (lS C c i m n h) vP
end
end DL
namespace DL
open PySem PySem.Spec PyProof.Rows L2 Nd
section
variable{K:PySem.W.Frag}{g H i:Hp}{X:Addr->Prop}{n n':Nat}{E S T:List Ent}
theorem At.pushF(h:At K g X n E H){v:V}{d:Ae}{F:List Addr}(r:RdF K H v d F)(i:F.Nodup)(e:∀a∈F,∀f∈E,a∉f.F)(j:∀a∈F,g a=none):At K g X n (⟨some v,.dat .ow d,F⟩::E) H:=by
 refine h.push ⟨v,rfl,r,λ_=>i,λz=>nomatch z⟩ (λf c=>⟨λ_ a b z=>e a b f c z,λ_ a b z=>e a z f c (Ht _ _ b)⟩) λa b=>.inl (j a b)
theorem At.drawn(h:At K g X n E H){e:Ent}{a:Addr}(y:e∈E)(P:e.x=.drw)(L:e.v=some (.ref a))(s:aG a H i)(hd:∃c k f,jQ i a c k f/\0<=k/\k<=(n':Int))(N:n<=n'):At K g X n' E i:=by
 obtain ⟨v,x,F⟩:=e
 have r:x=.drw:=P
 subst r
 obtain ⟨t,S,T,R,p,M,w,_⟩:=h.ok _ y
 have Q:some (V.ref a)=some (V.ref t):=L.symm.trans p
 cases Q
 have u:F=[a]:=M
 subst u
 refine ⟨λf D=>?_,h.sep,h.new,λb o C q=>?_,λb o q=>?_,λb d=>?_⟩
 rotate_right
 ·obtain ⟨z,c,k,f,m,A,J⟩:=h.xd b d
  by_cases l:b=a
  ·subst l
   exact ⟨z,hd⟩
  ·exact ⟨z,c,k,f,s _ _ l m,A,by omega⟩
 ·rcases sM h y D with rfl | q
  ·obtain ⟨c,k,B,m,A,J⟩:=hd
   exact ⟨a,c,k,B,p,rfl,m,A,J⟩
  ·have O:a∉f.F:=q.1 (.inr rfl) a Ab
   refine (h.ok f D).kp (λb o I z=>?_) N
   by_cases d:b=a
   ·subst d
    rcases z with z | z
    ·exact absurd z O
    ·have j:H b=some (.lst _):=w
     rw[I] at j
     cases j
     rcases z with ⟨_,z⟩ | ⟨_,_,z⟩ <;> cases z
   ·exact s b o d I
 ·have d:b≠a:=by
   rintro rfl
   rcases h.new _ y b Ab with z | z
   ·rw[z] at q; cases q
   ·exact C z.1
  exact s b o d (h.same b o C q)
 ·by_cases d:b=a
  ·subst d
   obtain ⟨c,k,B,m,_⟩:=hd
   exact ⟨_,m⟩
  ·obtain ⟨G,z⟩:=h.dom b o q
   exact ⟨G,s b G d z⟩
end
abbrev PF:=List Ae->(Ae->Prop)->Prop
abbrev DF:=List Ae->Nat->(Ae->Nat->Prop)->Prop
def Pb(K:PySem.W.Frag)(g:PF):Sp:=λh H Q _=>∃(c:List Ent) (n:Nat) (f:List Ae) (R:Ae->Prop),c.map Ent.v=h.map some/\(∀e∈c,Jg K H n e)/\datas (c.map Ent.x)=some f/\g f R /\
 ∀v d F b,R d->RdF K b v d F->F.Nodup->(∀a∈F,H a=none)->gO H b->Q v b
def fO(K:PySem.W.Frag)(m:DF):Sp:=λo H Q _=>∃(b:Addr) (l:List V) (h:List Ent) (n:Nat) (j:List Ae) (R:Ae->Nat->Prop),o=.ref b::l/\h.map Ent.v=l.map some/\(∀e∈h,Jg K H n e)/\(∀e∈h,b∉e.F)/\(∃c k f,jQ H b c k f/\0<=k/\k<=(n:Int))/\datas (h.map Ent.x)=some j/\m j n R /\
 ∀v d F i g,n<=i->R d i->RdF K g v d F->F.Nodup->(∀a∈F,H a=none)->(∃c k f,jQ g b c k f/\0<=k/\k<=(i:Int))->aG b H g->Q v g
def B8(b:PF)(g:DA):DE:=λe P=>g e λc a=>match datas c with
 | some f=>b f λd=>P (.dat .ow d) a
 | none=>False
def sN(i:Nat)(h:DF)(g:DA):DE:=λb P=>match b.sl[i]? with
 | some .drw=>g b λc a=>match a.sl[i]? with
  | some .drw=>match datas c with
   | some e=>h e a.n λd f=>P (.dat .ow d) ⟨a.sl,f⟩
   | none=>False
  | _=>False
 | _=>False
section
variable{X:Cx}{CX:zA}{k:Nat}{f:Addr}{g:Cz}{ps:List Str}{j:PF}{m:DF}{E:XK}{x:Str}{p pos:Pos}{e l:Expr}{es:List Expr}{b:DA}
theorem Ek(F:FnOk X.prog X.w X.K X.mg X.base CX k f g ps (Pb X.K j))(M:Room k X.A)(Z:Gl X x)(I:X.mg x=some (.ref f))(N:PySem.W.keepIn X.K (.ref f)=true)(hb:Binds X.K g ps [])(U:Sq CX X E)(i:uU X (e::es) b)(u:(x == ("__debug__" : Str))=false:=by decide)(t:Cc (e::es) X.env=(false,eval e X.env)::Cc es X.env:=by rfl)(o:(Jr pos (Cc es X.env)).any (·.1)=false:=by rfl):Fk X (.Call (.Name x p) (e::es) [] pos) (B8 j b):=by
 refine PE.imp (jN F M Z I N hb .nil U i u t o) λσ H Q h=>?_
 obtain ⟨R,Y,S,T,O,P,rfl,C,D,hd,kk⟩:=h
 refine ⟨R,Y,S,T,O,_,rfl,C,D,hd,λxs l z us V H' e1 e2 G J c p=>?_⟩
 subst G
 cases q:datas (z.map Ent.x) with
 | none=>rw[q] at p; exact p.elim
 | some L =>
  rw[q] at p
  rw[Fl]
  refine ⟨z,l.n,L,_,J,λe t=>c.ok e (Av _ (Ap _ t)),q,p,λv d F m r rd B y s=>?_⟩
  exact kk _ l v F V m e1 e2 (((c.dropL.grow s (Ah _)).pushF rd B (λa i=>c.dropL.free (y a i)) (λa i=>c.new0 (y a i))).tomid) r
theorem GZ(F:FnOk X.prog X.w X.K X.mg X.base CX k f g ps (Pb X.K j))(G:Room k X.A)(q:Gl X x)(B:X.mg x=some (.ref f))(y:PySem.W.keepIn X.K (.ref f)=true)(hb:Binds X.K g ps [])(D:Sq CX X E)(l:(x == ("__debug__" : Str))=false:=by decide):Fk X (.Call (.Name x p) [] [] pos) (B8 j CI):=by
 refine PE.imp (i8 F G q B y hb .nil D l) λL H Q h=>?_
 obtain ⟨J,Y,S,T,o,P,rfl,z,i,C,u⟩:=h
 show Pb X.K j [] H Q E
 refine ⟨[],o.n,[],_,rfl,λe I=>(nomatch I),rfl,C,λv d F c r rd t m s=>?_⟩
 exact u _ o v F S c rfl z (((i.grow s (Ah _)).pushF rd t (λa b=>i.free (m a b)) (λa b=>i.new0 (m a b))).tomid) r
theorem Hi{i:Nat}(F:FnOk X.prog X.w X.K X.mg X.base CX k f g ps (fO X.K m))(hr:Room k X.A)(hg:Gl X x)(hm:X.mg x=some (.ref f))(hk:PySem.W.keepIn X.K (.ref f)=true)(hb:Binds X.K g ps [])(hx:Sq CX X E)(h0:PE X l (fF i))(D:uU X es b)(h8:(x == ("__debug__" : Str))=false:=by decide)(B:Cc (l::es) X.env=(false,eval l X.env)::Cc es X.env:=by rfl)(R:(Jr pos (Cc es X.env)).any (·.1)=false:=by rfl):Fk X (.Call (.Name x p) (l::es) [] pos) (sN i m b):=by
 refine PE.imp (jN F hr hg hm hk hb .nil hx (Jc h0 D B) h8 B R) λσ H Q h=>?_
 obtain ⟨H0,Y,S,T,δ,P,rfl,hS,hA,N,kk⟩:=h
 unfold sN at N
 split at N
 case h_2=>exact N.elim
 rename_i I
 have L:∀w,(vs S)[i]? = some (some w)->LA X.K b (vs S) H λxs H2=>fO X.K m ((w::xs)++[]) H2 Q E:=λw M=>by
  refine ⟨H0,Y,S,T,δ,_,rfl,hS,hA,N,λxs J As us S' H' e1 e2 ex eu j p=>?_⟩
  subst ex
  split at p
  ·rename_i h7
   obtain ⟨c,G,Z⟩:=Jd e2 h7
   have o:c∈S':=Aw G
   have hv:c.v=some w:=by
    have:=Ls G
    rw[e1,M] at this
    exact (Cn this).symm
   obtain ⟨u,z,F⟩:=c
   have t:z=.drw:=Z
   subst t
   have hE:(⟨u,.drw,F⟩ : Ent)∈S'++(As++T):=Ap _ o
   obtain ⟨C,c0,k0,f0,y,U,h4,h5,h2⟩:=j.ok _ hE
   have ew:some w=some (V.ref C):=hv.symm.trans y
   cases ew
   have h1:F=[C]:=U
   subst h1
   cases q:datas (As.map Ent.x) with
   | none=>rw[q] at p; exact p.elim
   | some ds =>
    rw[q] at p
    rw[Fl]
    refine ⟨C,us,As,J.n,ds,_,rfl,eu,λe B=>j.ok e (Av _ (Ap _ B)),λe B=>?_,⟨c0,k0,f0,h4,h5,h2⟩,q,p,λv d F n' O hn r rd nd fr h6 s=>?_⟩
    ·obtain ⟨_,_,hp⟩ := Et.mp j.sep
     exact (hp _ o e (Ap _ B)).1 (.inr rfl) C Ab
    ·have h3:=j.dropL.drawn (Ap _ o) rfl hv s h6 hn
     exact kk _ ⟨J.sl,n'⟩ v F S' O e1 e2 ((h3.pushF rd nd (λa D=>j.dropL.free (fr a D)) (λa D=>j.new0 (fr a D))).tomid) r
  ·exact p.elim
 obtain ⟨c,G,Z⟩:=Jd hS I
 have o:c∈S:=Aw G
 obtain ⟨u,z,F⟩:=c
 have t:z=.drw:=Z
 subst t
 obtain ⟨C,c0,k0,f0,y,_⟩:=hA.ok _ (Ap _ o)
 have M:(vs S)[i]? = some (some (.ref C)):=(Ls G).trans (congrArg some y)
 exact ⟨_,M,L _ M⟩
def Xl:Sp:=λvs H Q _=>∃c:Int,vs=[.int c]/\∀(p:Addr) (b:Int) (f:Bool) (a:Hp),H p=none->jQ a p b 0 f->gO H a->Q (.ref p) a
def L1(b:DA):DE:=λc P=>b c λd a=>match d with
 | [.dat _ (.int _)]=>P .drw a
 | _=>False
theorem x5(F:FnOk X.prog X.w X.K X.mg X.base CX k f g ps Xl)(J:Room k X.A)(Z:Gl X x)(G:X.mg x=some (.ref f))(M:PySem.W.keepIn X.K (.ref f)=true)(hb:Binds X.K g ps [])(R:Sq CX X E)(d:uU X (e::es) b)(r:(x == ("__debug__" : Str))=false:=by decide)(V:Cc (e::es) X.env=(false,eval e X.env)::Cc es X.env:=by rfl)(l:(Jr pos (Cc es X.env)).any (·.1)=false:=by rfl):Fk X (.Call (.Name x p) (e::es) [] pos) (L1 b):=by
 refine PE.imp (jN F J Z G M hb .nil R d r V l) λσ H Q h=>?_
 obtain ⟨O,Y,S,T,N,P,rfl,y,C,hd,kk⟩:=h
 refine ⟨O,Y,S,T,N,_,rfl,y,C,hd,λxs i As us U H' e1 e2 D I m p=>?_⟩
 split at p
 ·obtain ⟨v,F,rfl,c⟩:=Io I m D
  obtain ⟨rfl,_⟩:=(c.told mem_mid).int_inv
  refine ⟨_,rfl,λq c' B j t o s=>?_⟩
  have h3:=c.drop.grow (n':=i.n) s (Ah _)
  refine kk _ i _ [q] U j e1 e2 ((h3.push (e:=⟨some (.ref q),.drw,[q]⟩) ⟨q,_,0,B,rfl,rfl,o,by decide,by omega⟩ (λf L=>?_) λa d=>?_).tomid) p
  ·have u:=c.drop.free t f L
   refine ⟨λ_ a d z=>?_,λ_ a d z=>?_⟩
   ·rw[Al.mp d] at z
    exact u z
   ·rw[Al.mp z] at d
    exact u (Ht _ _ d)
  ·rw[Al.mp d]
   exact .inl (c.new0 t)
 ·exact p.elim
end
def args0(a:List Ae)(k:Nat):List DV:=a.map (λd=>.dat .sh d)++Jp k .un
def qZ(e:Ent):Ent:=match e.x with
 | .dat _ d=>⟨e.v,.dat .sh d,e.F⟩
 | _=>e
theorem Oz:∀{xs:List DV} {a:List Ae},datas xs=some a->xs.length=a.length
 | [],a,h=>by cases h; rfl
 | x::xs,a,h=>by
  cases x with
  | dat m d =>
   cases q:datas xs with
   | none=>simp [datas,q] at h
   | some b =>
    simp [datas,q] at h
    subst h
    rw[Bd,Bd,Oz q]
  | _=>cases h
theorem eB:∀{b:List Ent} {a:List Ae},datas (b.map Ent.x)=some a->(b.map qZ).map Ent.x=a.map (λd=>.dat .sh d)
 | [],a,h=>by cases h; rfl
 | ⟨v,x,F⟩::b,a,h=>by
  rw[Au] at h
  cases x with
  | dat m d =>
   cases q:datas (b.map Ent.x) with
   | none=>simp [datas,q] at h
   | some c =>
    simp [datas,q] at h
    subst h
    rw[Au,Au,Au,eB q]
    rfl
  | _=>cases h
theorem Zm:∀{a:List Ent} {b:List Ae},datas (a.map Ent.x)=some b->∀e∈a,∃m d,e.x=.dat m d
 | [],b,h,e,he=>nomatch he
 | ⟨v,x,F⟩::a,b,h,e,he=>by
  rw[Au] at h
  cases x with
  | dat m d =>
   cases q:datas (a.map Ent.x) with
   | none=>simp [datas,q] at h
   | some c =>
    rcases An.mp he with rfl | he
    ·exact ⟨m,d,rfl⟩
    ·exact Zm q e he
  | _=>cases h
theorem HQ(a:List Ent):(a.map qZ).map Ent.v=a.map Ent.v:=by
 rw[Eh]
 refine Jk λe _=>?_
 obtain ⟨v,x,F⟩:=e
 cases x <;> rfl
def Mv(k:Nat):List Ent:=Jp k ⟨none,.un,[]⟩
theorem uS{b:List Ent}{g:List Ae}(q:datas (b.map Ent.x)=some g)(k:Nat):∀e∈b.map qZ++Mv k,cells e=[]/\CH e.x=false:=λe he=>by
 rcases Ba.mp he with he | he
 ·obtain ⟨f,c,rfl⟩:=Bl.mp he
  obtain ⟨m,d,h⟩:=Zm q f c
  obtain ⟨v,x,F⟩:=f
  have a:x=.dat m d:=h
  subst a
  exact ⟨rfl,rfl⟩
 ·rw[(Mn.mp he).2]
  exact ⟨rfl,rfl⟩
theorem Wl{c:Type}{R:c->c->Prop}:∀{l:List c},(∀a∈l,∀b∈l,R a b)->l.Pairwise R
 | [],_=>Dz
 | a::l,h=>Ax.mpr ⟨λb e=>h a Ab b (Ad _ e),Wl λx d y f=>h x (Ad _ d) y (Ad _ f)⟩
theorem Z6{K:PySem.W.Frag}{H:Hp}{n:Nat}{b:List Ent}{h:List Ae}(q:datas (b.map Ent.x)=some h)(ok:∀e∈b,Jg K H n e)(k:Nat):∀e∈b.map qZ++Mv k,Jg K H n e:=λe he=>by
 rcases Ba.mp he with he | he
 ·obtain ⟨f,c,rfl⟩:=Bl.mp he
  obtain ⟨m,d,i⟩:=Zm q f c
  have o:=ok f c
  obtain ⟨v,x,F⟩:=f
  have a:x=.dat m d:=i
  subst a
  obtain ⟨w,g,j,_⟩:=o
  exact ⟨w,g,j,λz=>(nomatch z),λz=>(nomatch z)⟩
 ·rw[(Mn.mp he).2]
  exact (rfl:([]:List Addr)=[])
theorem Ui{b c:Type}(f:b->c)(k:Nat)(a:b):(Jp k a).map f=Jp k (f a):=by
 rw[List.map_replicate]
def retE(R:Ae->Prop):DEnds where
 nx:=λ_=>R .none
 rt:=λx _=>∃d,x=.dat .ow d/\R d
def retW(n:Nat)(R:Ae->Nat->Prop):DEnds where
 nx:=λa=>n<=a.n/\R .none a.n
 rt:=λx a=>n<=a.n/\∃d,x=.dat .ow d/\R d a.n
section
variable{P:Bp}{w:World}{K:PySem.W.Frag}{mg:Str->Option Value}{base:Heap}
theorem Ip{x g:Str}{st:Stmt}{f:Addr}{W:Cz}{N ps:List Str}{k:Nat}{Y:PF}{U:DB}(F:Fun K x g st f W)(S:FnScope N ps (Cf st))(hb:∀(i:Value) (A:Cw) (outer:List Env) (s:Ak) (H:Hp) (E:XK),Room k (A.deeper (Us g (Cf st) s.heap.objs.size f i))->fB (Pv Ib P w K mg base N g (Cf st) f i A outer s H E).nox (Lj st) U)(h:∀j R,Y j R->j.length=ps.length/\U (retE R) ⟨args0 j (N.length - ps.length),0⟩):FnOk P w K mg base Ib (k+1) f W ps (Pb K Y):=by
 refine F.ok S (λvs H Q E z=>?_) λi A outer s H us Q E hr z=>?_
 ·obtain ⟨V,n,j,R,y,ok,q,I,_⟩:=z
  have l1:=(h j R I).1
  have G:=Oz q
  rw[Ac] at G
  have J:=congrArg Iy y
  rw[Ac,Ac] at J
  omega
 ·obtain ⟨V,n,j,R,y,ok,q,I,X⟩:=z
  obtain ⟨l1,hd⟩:=h j R I
  have G:=Oz q
  rw[Ac] at G
  have J:=congrArg Iy y
  rw[Ac,Ac] at J
  refine ⟨_,hb i A outer s H E hr,H,λ_=>False,V.map qZ++Mv (N.length - ps.length),[],⟨args0 j (N.length - ps.length),0⟩,retE R,?_,?_,λ_ z=>(nomatch z),?_,hd,λT L O e1 m p=>?_,λx T v M L O e1 m p=>?_,λ_ _ _ _ _ p=>p.elim,λ_ _ _ _ _ p=>p.elim⟩
  ·unfold vs L2.start Mv
   rw[Bn,HQ,y,Ui,show us.length=ps.length by omega]
  ·unfold Sl args0 Mv
   rw[Bn,eB q,Ui]
  ·rw[Fl]
   have B:=uS q (N.length - ps.length)
   refine ⟨λe C=>?_,Wl λa l b D=>⟨λhq c t=>?_,λhq c t=>?_⟩,λe C a l=>?_,λb o _ e=>e,λb o e=>⟨o,e⟩,λb hb=>hb.elim⟩
   ·have:=Z6 q ok (N.length - ps.length) e C
    obtain ⟨v,x,F⟩:=e
    cases x with
    | drw=>exact absurd (B _ C).2 (by show ¬ (true=false); decide)
    | _=>exact this
   ·rw[(B a l).1] at t; cases t
   ·rw[(B b D).1] at t; cases t
   ·rw[(B e C).1] at l; cases l
  ·exact X .non .none [] O p .non Do (λ_ z=>(nomatch z)) λb o e=>m.same b o (λz=>z) e
  ·obtain ⟨d,rfl,r⟩:=p
   rw[show L++[(⟨some v,.dat .ow d,M⟩ : Ent)]=L++⟨some v,.dat .ow d,M⟩::[] from rfl] at m
   obtain ⟨u,e2,rd,Z,_⟩:=m.ok _ mem_mid
   cases e2
   refine X v d M O r rd (Z rfl) (λa l=>?_) λb o e=>m.same b o (λz=>z) e
   rcases m.new _ mem_mid a l with z | z
   ·exact z
   ·exact z.1.elim
theorem Xb{x g:Str}{st:Stmt}{f:Addr}{fd:Cz}{N ps:List Str}{D:Str}{k:Nat}{df:DF}{db:DB}(F:Fun K x g st f fd)(S:FnScope N (D::ps) (Cf st))(hb:∀(m:Value) (A:Cw) (outer:List Env) (s:Ak) (H:Hp) (E:XK),Room k (A.deeper (Us g (Cf st) s.heap.objs.size f m))->fB (Pv Ib P w K mg base N g (Cf st) f m A outer s H E).nox (Lj st) db)(h:∀y n R,df y n R->y.length=ps.length/\db (retW n R) ⟨.drw::args0 y (N.length - (D::ps).length),n⟩):FnOk P w K mg base Ib (k+1) f fd (D::ps) (fO K df):=by
 refine F.ok S (λvs H Q E z=>?_) λm A outer s H us Q E hr z=>?_
 ·obtain ⟨l,ws,W,n,y,R,rfl,O,ok,nd,G,q,Y,_⟩:=z
  have l1:=(h y n R Y).1
  have X:=Oz q
  rw[Ac] at X
  have Z:=congrArg Iy O
  rw[Ac,Ac] at Z
  rw[Bd,Bd]
  omega
 ·obtain ⟨l,ws,W,n,y,R,rfl,O,ok,V,G,q,Y,k1⟩:=z
  obtain ⟨l1,hd⟩:=h y n R Y
  have X:=Oz q
  rw[Ac] at X
  have Z:=congrArg Iy O
  rw[Ac,Ac] at Z
  -- what the end tells of the draws: they stand in an old cell
  have B:∀{E':List Ent} {n':Nat} {J:Hp},At K H (·=l) n' E' J->∀b o,b≠l->H b=some o->J b=some o:=λi b o nb e=>i.same b o nb e
  refine ⟨_,hb m A outer s H E hr,H,(·=l),⟨some (.ref l),.drw,[l]⟩::(W.map qZ++Mv (N.length - (D::ps).length)),[],⟨.drw::args0 y (N.length - (D::ps).length),n⟩,retW n R,?_,?_,λ_ z=>(nomatch z),?_,hd,λI S' J e1 i p=>?_,λx I v F' S' J e1 i p=>?_,λ_ _ _ _ _ p=>p.elim,λ_ _ _ _ _ p=>p.elim⟩
  ·unfold vs L2.start Mv
   rw[Au,Bn,HQ,O,Ui,Bd,Bd,show ws.length=ps.length by omega]
   rfl
  ·unfold Sl args0 Mv
   rw[Au,Bn,eB q,Ui]
  ·rw[Fl]
   have M:=uS q (N.length - (D::ps).length)
   have L:∀e∈W.map qZ++Mv (N.length - (D::ps).length),l∉e.F:=λe he=>by
    rcases Ba.mp he with he | he
    ·obtain ⟨f,hf,rfl⟩:=Bl.mp he
     obtain ⟨v,x,F⟩:=f
     have:=V _ hf
     cases x <;> exact this
    ·rw[(Mn.mp he).2]
     exact Ce
   refine ⟨λe he=>?_,Ax.mpr ⟨λb t=>⟨λhq c j=>?_,λhq c j=>?_⟩,Wl λa C b t=>⟨λhq c j=>?_,λhq c j=>?_⟩⟩,λe he a C=>?_,λb o _ e=>e,λb o e=>⟨o,e⟩,λb hb=>?_⟩
   rotate_right
   ·subst hb
    obtain ⟨c,kk,U,T,z2⟩:=G
    exact ⟨λz=>(by rw[show H b=some _ from T] at z; cases z),c,kk,U,T,z2⟩
   ·rcases An.mp he with rfl | he
    ·obtain ⟨c,kk,U,T,z2,z3⟩:=G
     exact ⟨l,c,kk,U,rfl,rfl,T,z2,z3⟩
    ·exact Z6 q ok _ e he
   ·rw[Al.mp j]
    exact L b t
   ·rw[(M b t).1] at j; cases j
   ·rw[(M a C).1] at j; cases j
   ·rw[(M b t).1] at j; cases j
   ·rcases An.mp he with rfl | he
    ·rw[Al.mp C]
     exact .inr ⟨rfl,rfl⟩
    ·rw[(M e he).1] at C; cases C
  ·exact k1 .non .none [] I.n J p.1 p.2 .non Do (λ_ z=>(nomatch z)) (i.xd l rfl).2 (B i)
  ·obtain ⟨hn,d,rfl,r⟩:=p
   rw[show S'++[(⟨some v,.dat .ow d,F'⟩ : Ent)]=S'++⟨some v,.dat .ow d,F'⟩::[] from rfl] at i
   obtain ⟨u,e2,rd,nd,_⟩:=i.ok _ mem_mid
   cases e2
   refine k1 v d F' I.n J hn r rd (nd rfl) (λa C=>?_) (i.xd l rfl).2 (B i)
   rcases i.new _ mem_mid a C with z | z
   ·exact z
   ·cases z.2
end
end DL
namespace L2
open PySem PySem.Spec PyProof.Rows
def o4(H:Hp):Prop:=∀b,H b=none\/(∃o c,H b=some (.frz o (.lst c)))\/∃a,H b=some (.tbl a)
def nV(a:List (Addr×Addr×Str))(H:Hp):Hp:=λb=>match a.find? (λr=>r.2.1 == b) with | some t=>some (.tbl #[.str t.2.2 0]) | none=>H b
theorem Vq{a:List (Addr×Addr×Str)}{H:Hp}{b:Addr}{t:Addr×Addr×Str}(h:a.find? (λr=>r.2.1 == b)=some t):nV a H b=some (.tbl #[.str t.2.2 0]):=by unfold nV; rw[h]
theorem Mz{a:List (Addr×Addr×Str)}{H:Hp}{b:Addr}(h:a.find? (λr=>r.2.1 == b)=none):nV a H b=H b:=by unfold nV; rw[h]
def kR(q:Bp)(K:PySem.W.Frag):Prop:=∃a:List (Addr×Addr×Str),(∀t∈a,∃x d,(recsOf q).find? (λe=>e.name == x)=some d/\PySem.W.tabIn K x=some (t.1,t.2.1))/\(∀t∈a,∀t'∈a,t.2.1=t'.2.1->t=t') /\
 (∀x∈Xg,∀c P,PySem.W.tabIn K x=some (c,P)->(c,P,DP x)∈a)/\∀t∈a,K.lookup t.2.1=none
theorem Q2{x:Str}(hx:x∈Xg):x = "often" \/ x = "cut_by" := by
 rcases An.mp hx with h | hx
 ·exact .inl h
 ·exact .inr (Al.mp hx)
theorem xH{q:Bp}{K:PySem.W.Frag}(h1:PySem.W.tabIn K "often" = none)(a:PySem.W.tabIn K "cut_by" = none):kR q K:=by
 refine ⟨[],λ_ z=>(nomatch z),λ_ z=>(nomatch z),λx b c P e=>?_,λ_ z=>(nomatch z)⟩
 rcases Q2 b with rfl | rfl
 ·rw[h1] at e; cases e
 ·rw[a] at e; cases e
theorem xZ{P:Bp}{w:World}{K:PySem.W.Frag}{mg mb:Str->Option Value}{CX:zA}{k:Nat}{fa a:Addr}{fd:Cz}{x:Str}{sp:Sp}{f:Ak}{vs:List Value}{ns:List Int}(g:List (Addr×Addr×Str))(C:∀t∈g,PySem.W.CodeHd f.heap t.1 t.2.1/\f.heap.get? t.2.1=some (PySem.W.tabObj #[]))(hu:∀t∈g,∀t'∈g,t.2.1=t'.2.1->t=t')(hL:∀x∈Xg,∀c P,PySem.W.tabIn K x=some (c,P)->(c,P,DP x)∈g)(k2:∀t∈g,K.lookup t.2.1=none)(k4:∃U D,mg "__builtins__" = some (.ref U)/\U≠Wj/\f.heap.get? U=some D/\D.cls=.type "module" /\ D.dict=some Wj/\D.data=.plain)(KX:K.In f.heap)(N:f.heap.Ns Dd mg)(hb:f.heap.Ns Wj mb)(k6:∀x:Str,x ≠ "__name__" -> mb x=Kq x)(k1:f.heap.NoLimit)(hg:f.gens=#[])(I:f.heap.get? a=some { cls:=.type "list",data:=.seq vs.toArray })(hi:Fg vs ns)(hl:ns.length<=Bf)(hr:Room k bG)(F:∀base:Heap,K.In base->base.Ns Dd mg->FnOk P w K mg base CX k fa fd [x] sp)(J:∀(s:Ak) (u:Value),BindsTo s fd ⟨[u],[]⟩ [(x,u)])(k3:∀H:Hp,o4 H->DL.KL K H a (ns.map V.int)->sp [.ref a] H (λv _=>v=.bl true) λ_ _ _=>False)(k9:∀H e s',CX [] H f (λ_ _ _=>False) e s'->False):Na (model P w) bG (.call (.ref fa) ⟨[.ref a],[]⟩) (λr s'=>r=.ok (.ret (.bool true))/\OldK f.heap s'.heap/\s'.os=f.os/\Tr s'.gens) f:=by
 have rv:=gZ hi
 have h7:=hi.length
 -- from an abstract heap in which nothing but the script may be tracked
 have k0:∀H:Hp,o4 H->DL.KL K H a (ns.map V.int)->Xs P w H f.heap->(∀b,H b≠none->b=a\/∃t∈g,b=t.2.1)->(H a≠none->K.lookup a=none)->(∀t∈g,X8 H t.2.1 t.2.2) ->
   Na (model P w) bG (.call (.ref fa) ⟨[.ref a],[]⟩) (λr s'=>r=.ok (.ret (.bool true))/\OldK f.heap s'.heap/\s'.os=f.os/\Tr s'.gens) f:=by
  intro H hO hS M hA hK Y
  have i:∀{b:Addr} {o:Obj},f.heap.get? b=some o->H b=none->(gD f.heap H).get? b=some o:=λe n=>j8 e n
  have k5:∀{b:Addr} {o:Obj} {O:Array DictEntry} {Q:Nat},f.heap.get? b=some o->o.data=.dict O Q->H b=none:=λ{b o O Q} e d=>by
   cases q:H b with
   | none=>rfl
   | some u =>
    rcases hA b (by rw[q]; simp) with l | ⟨t,j,l⟩
    ·subst l
     rw[I] at e; cases e
     have d':Data.seq vs.toArray _=Data.dict O Q:=d
     cases d'
    ·rw[l,(C t j).2] at e; cases e
     cases d
  have B:∀{b:Addr} {m:Str->Option Value},f.heap.Ns b m->(gD f.heap H).Ns b m:=λ{b m} ⟨o,O,Q,e,d,r⟩=>⟨o,O,Q,i e (k5 e d),d,r⟩
  have S:K.In (gD f.heap H):=λb o e=>i (KX b o e) (by
   cases q:H b with
   | none=>rfl
   | some u =>
    rcases hA b (by rw[q]; simp) with l | ⟨t,j,l⟩
    ·subst l
     rw[hK (by rw[q]; simp)] at e; cases e
    ·rw[l,k2 t j] at e; cases e)
  have T:∀{b:Addr} {o:Obj},f.heap.get? b=some o->o.cls≠.none->o.cls≠.type "list" -> H b=none:=λ{b o} e d d2=>by
   cases q:H b with
   | none=>rfl
   | some u =>
    rcases hA b (by rw[q]; simp) with l | ⟨t,j,l⟩
    ·subst l
     rw[I] at e; cases e
     exact absurd rfl d2
    ·rw[l,(C t j).2] at e; cases e
     exact absurd rfl d
  have k7:n5 K mg (gD f.heap H) H:=λx hx c P e=>by
   have j:=hL x hx c P e
   obtain ⟨U,D,b1,b2,b3,b4,b5,b6⟩:=k4
   obtain ⟨⟨o,us,Z,tf,L,tg,k8,h9,tt,A,r1,r2⟩,G⟩:=C _ j
   refine ⟨⟨o,us,Z,tf,L,tg,k8,h9,tt,i A (T A (by rw[r1]; nofun) (by rw[r1]; simp)),r1,r2⟩,⟨U,D,b1,b2,λz=>?_,λz=>?_,i b3 (T b3 (by rw[b4]; nofun) (by rw[b4]; simp)),b4,b5,b6⟩,Y _ j⟩
   ·obtain ⟨o',O,Q,l,d,_⟩:=N
    rw[<- z,b3] at l; cases l; rw[b6] at d; cases d
   ·have G:f.heap.get? P=_:=G
    rw[<- z,b3] at G; cases G; cases b4
  have hM:Mod K mg (gD f.heap H):=⟨S,B N,⟨mb,B hb,k6⟩,let ⟨mc,h1,h2⟩:=k1; ⟨mc,B h1,h2⟩⟩
  have e0:Env0 P w K mg (gD f.heap H) bG [] f H:=⟨rfl,hM,λb o e=>W7 e,Nat.le_of_eq (wF _ _),trivial,λb hb=>absurd (show b∈([]:List Addr) from hb) (by simp),M,.of_eq hg,k7⟩
  refine Jj ((F _ S (B N)).run bG [] f H ⟨[.ref a],[]⟩ [.ref a] [.ref a] _ _ hr e0 (J f (.ref a)) (.cons rfl .nil) (k3 H hO hS)) λr s' h=>?_
  cases r with
  | error e=>exact (k9 H e s' h).elim
  | ok fl =>
   cases fl with
   | next=>exact Ky h
   | brk=>exact Ky h
   | cont=>exact Ky h
   | ret u =>
    obtain ⟨v,H',os,h0,un,E,r',q⟩:=h
    have q':v=.bl true:=q
    subst q'
    obtain rfl:u=Value.bool true:=r'
    have h8:∀b o,f.heap.get? b=some o->s'.heap.get? b=some o\/∃t∈g,b=t.2.1:=λb o e=>by
     cases q:H b with
     | none=>exact .inl (un.keep b o e q (by intro z; exact absurd (show b∈([]:List Addr) from z) (by simp)) (by simp))
     | some u =>
      rcases hO b with z | ⟨D,xs,z⟩ | ⟨R,z⟩
      ·rw[q] at z; cases z
      ·have z2:=un.frzs b D _ z
       obtain ⟨A,_⟩:=M b _ z
       obtain ⟨e2,_⟩:=E b _ z2
       rw[e] at A; cases A
       exact .inl e2
      ·rcases hA b (by rw[q]; simp) with l | h'
       ·obtain ⟨_,A,_⟩:=M b _ z
        rw[l,I] at A; cases A
       ·exact .inr h'
    have p:∀t∈g,∃R,s'.heap.get? t.2.1=some (PySem.W.tabObj R):=λt j=>by
     obtain ⟨R,t0,h3,_⟩:=Y t j
     obtain ⟨more,h5⟩:=un.tbls _ _ h3
     obtain ⟨qs,A,_⟩:=E _ _ h5
     exact ⟨qs,A⟩
    refine ⟨rfl,⟨λb o e=>?_,λb o e=>?_⟩,os,h0⟩
    ·rcases h8 b o e with z | ⟨t,j,rfl⟩
     ·exact .inl z
     ·obtain ⟨R,G⟩:=p t j
      have e2:=(C t j).2
      rw[e] at e2
      cases e2
      exact .inr (.inl ⟨((C t j).1.tab (C t j).2).isCodeTable,rfl,#[],R,rfl,by rw[Array.empty_append]; exact G⟩)
    ·rcases h8 b o e with z | ⟨t,j,rfl⟩
     ·exact ⟨_,z⟩
     ·obtain ⟨R,G⟩:=p t j
      exact ⟨_,G⟩
 have X:∀(t:Addr×Addr×Str),t∈g->g.find? (λr=>r.2.1 == t.2.1)=some t:=λt j=>by
  cases q:g.find? (λr=>r.2.1 == t.2.1) with
  | none=>exact absurd (List.find?_eq_none.mp q t j) (by simp)
  | some r=>exact congrArg some (hu r (Rn q) t j (by have:=Uv q; simpa using this))
 have h6:∀t∈g,t.2.1≠a:=λt j z=>by
  have e:=(C t j).2
  rw[z,I] at e; cases e
 have all:∀H:Hp,(∀b,H b=none\/∃o xs,H b=some (.frz o (.lst xs)))->(∀b,H b≠none->b=a)->(H a≠none->K.lookup a=none)->DL.KL K H a (ns.map V.int)->Xs P w H f.heap ->
   Na (model P w) bG (.call (.ref fa) ⟨[.ref a],[]⟩) (λr s'=>r=.ok (.ret (.bool true))/\OldK f.heap s'.heap/\s'.os=f.os/\Tr s'.gens) f:=by
  intro H h1 h2 h3 h4 h5
  refine k0 (nV g H) (λb=>?_) ?_ (λb u z=>?_) (λb z=>?_) (λz=>?_) λt j=>?_
  ·cases q:g.find? (λr=>r.2.1 == b) with
   | some t=>exact .inr (.inr ⟨_,Vq q⟩)
   | none =>
    rcases h1 b with z | ⟨o,xs,z⟩
    ·exact .inl (by rw[Mz q]; exact z)
    ·exact .inr (.inl ⟨o,xs,by rw[Mz q]; exact z⟩)
  ·have na:g.find? (λr=>r.2.1 == a)=none:=M4.mpr λt j z=>h6 t j (by simpa using z)
   rcases h4 with ⟨o,h⟩ | h
   ·exact .inl ⟨o,by rw[Mz na]; exact h⟩
   ·exact .inr h
  ·cases q:g.find? (λr=>r.2.1 == b) with
   | some t =>
    rw[Vq q] at z
    cases z
    have eb:t.2.1=b:=by have:=Uv q; simpa using this
    exact ⟨#[],by rw[<- eb]; exact (C t (Rn q)).2,by simp [TriplesOk],λq0 v y=>by simp [codeAmong] at y⟩
   | none =>
    rw[Mz q] at z
    rcases h1 b with y | ⟨o,xs,y⟩
    ·rw[z] at y; cases y
    ·rw[z] at y
     cases y
     exact h5 b _ z
  ·cases q:g.find? (λr=>r.2.1 == b) with
   | some t=>exact .inr ⟨t,Rn q,by have:=Uv q; exact (by simpa using this : t.2.1=b).symm⟩
   | none =>
    rw[Mz q] at z
    exact .inl (h2 b z)
  ·have na:g.find? (λr=>r.2.1 == a)=none:=M4.mpr λt j z=>h6 t j (by simpa using z)
   rw[Mz na] at z
   exact h3 z
  ·exact ⟨#[.str t.2.2 0],0,Vq (X t j),rfl⟩
 cases hk:K.lookup a with
 | some o =>
  -- the script is one of the module's own objects
  have e:=KX a o hk
  rw[I] at e
  cases e
  exact all (λ_=>none) (λ_=>.inl rfl) (λb z=>absurd rfl z) (λz=>absurd rfl z) (.inr ⟨vs.toArray,_,hk,by rw[Ar,h7]; exact hl,by simpa using rv⟩) (λb u z=>by have z':(none:Option HO)=some u:=z; cases z')
 | none =>
  refine all (λb=>if b=a then some (.frz { cls:=.type "list",data:=.seq vs.toArray } (.lst (ns.map V.int))) else none) (λb=>?_) (λb z=>?_) (λ_=>hk) (.inl ⟨{ cls:=.type "list",data:=.seq vs.toArray },if_pos rfl⟩) (λb u z=>?_)
  ·by_cases hb:b=a
   ·exact .inr ⟨_,_,if_pos hb⟩
   ·exact .inl (if_neg hb)
  ·by_cases hb:b=a
   ·exact hb
   ·exact absurd (if_neg hb) z
  ·by_cases hb:b=a
   ·have z':=(if_pos hb).symm.trans z
    cases z'
    subst hb
    exact ⟨I,by rw[Ac]; exact hl,vs,_,rv,I⟩
   ·have z':=(if_neg hb).symm.trans z
    cases z'
theorem walk_ofD{l:PySem.W.OpenLaw}{n k:Nat}{q:Bp}{loose:List Str}{XP:(Str->Option Value)->Heap->Prop}{YP:World->Heap->Prop}{d:DefRec}{K:Params->PySem.W.Frag}{CX:World->zA}{sp:World->Sp}{x:Str}(Q:l.most=some n)(y:n<=Bf)(z:d.params.defaults=[])(P:Room k bG)(X:∀(w:World) (h:Heap),YP w h->(K w.params).In h)(F:∀(w:World) (mg:Str->Option Value) (r:Addr) (h:Heap),(K w.params).In h->h.Ns Dd mg->mg d.name=some (.ref r)->(kR q (K w.params))/\∃C:Cz,(∀(s:Ak) (u:Value),BindsTo s C ⟨[u],[]⟩ [(x,u)])/\∀base:Heap,(K w.params).In base->base.Ns Dd mg->FnOk l.prog w (K w.params) mg base (CX w) k r C [x] (sp w))(A:∀(w:World) (H:Hp) (a:Addr) (ns:List Int),ns.length<=n->o4 H->DL.KL (K w.params) H a (ns.map V.int)->sp w [.ref a] H (λv _=>v=.bl true) λ_ _ _=>False)(E:∀(w:World) (H:Hp) (s:Ak) (e:Value) (s':Ak),CX w [] H s (λ_ _ _=>False) e s'->False):PySem.W.WalkO q loose XP YP l.row.toRowW d [] (λf vs=>PySem.call f vs):=by
 refine Att.attach_call Q z λw I m mg mb r o pm cd h3 a vs ns G Y ho hd h0 B p i c Z=>?_
 have D:=X w _ Y
 obtain ⟨⟨j,N,M,R,S⟩,C,L,O⟩:=F w mg r _ D G.T.g B
 exact xZ j (λt ht=>by
  obtain ⟨x,d,U,h2⟩:=N t ht
  exact PySem.W.tab_of G.T D U h2) M R S G.T.bmain D G.T.g G.T.b G.T.builtins G.T.nolimit Z p i (Co c y) P O L (λH hO J=>A w H a ns c hO J) λH e s'=>E w H m e s'
end L2
namespace DL
open PySem PySem.Spec PyProof.Rows L2 Nd
def npk:List DV->Bool
 | []=>true
 | .dat .pk _::_=>false
 | _::xs=>npk xs
theorem lU:∀{S:List Ent} {a:List DV},S.map Ent.x=a->npk a=true->∀e∈S,Ph e.x=false
 | [],_,_,_,e,he=>nomatch he
 | ⟨v,x,F⟩::S,_,h,hn,e,he=>by
  subst h
  rw[Au] at hn
  have : Ph x=false/\npk (S.map Ent.x)=true:=by
   cases x with
   | dat m d=>cases m <;> first | exact ⟨rfl,hn⟩ | cases hn
   | _=>exact ⟨rfl,hn⟩
  rcases An.mp he with rfl | he
  ·exact this.1
  ·exact lU rfl this.2 e he
def own1:Md->Bool
 | .ow=>true
 | .tp=>true
 | _=>false
section
variable{K:PySem.W.Frag}{d H:Hp}{X:Addr->Prop}{n:Nat}{E:List Ent}
theorem At.write{v:Option V}{m:Md}{y es:List Ae}{a:Addr}{F G:List Addr}{ys:List V}(h:At K d X n (⟨v,.dat m (.list y),a::F⟩::E) H)(j:own1 m=true)(O:v=some (.ref a))(np:∀e∈E,Ph e.x=false)(r:RdFs K H ys es G)(t:G.Sublist F)(hz:es.length<=Bf):At K d X n (⟨v,.dat m (.list es),a::G⟩::E) (upd H a (.lst ys)):=by
 obtain ⟨w,e1,rd,D,T⟩:=h.ok _ Ab
 obtain ⟨b,Z,M,e2,L,Y,R,_⟩:=rd.list_inv
 have A:a::F=b::M:=R
 cases A
 have s:=Ax.mp h.sep
 have u:a∉F:=by
  cases m with
  | ow=>exact (Cg.mp (D rfl)).1
  | tp=>exact T rfl a F rfl
  | sh=>cases j
  | pk=>cases j
 have J:a∈cells ⟨v,.dat m (.list y),a::F⟩:=by
  cases m <;> first | exact Ab | cases j
 have kp:∀{C:List Addr},a∉C->Kp C H (upd H a (.lst ys)):=λ{C} P b o q z=>by
  have : b≠a:=by
   rintro rfl
   rw[L] at q
   cases q
   rcases z with z | z
   ·exact P z
   ·rcases z with ⟨_,z⟩ | ⟨_,_,z⟩ <;> cases z
  rw[Fi this]
  exact q
 have B:d a=none:=by
  rcases h.new _ Ab a J with z | z
  ·exact z
  ·cases z.2
 have I:∀c∈cells ⟨v,.dat m (.list es),a::G⟩,c∈cells ⟨v,.dat m (.list y),a::F⟩:=λc g=>by
  cases m with
  | ow =>
   rcases An.mp g with z | z
   ·exact An.mpr (.inl z)
   ·exact An.mpr (.inr (t.subset z))
  | tp=>exact g
  | sh=>cases j
  | pk=>cases j
 have p:∀c∈a::G,c∈a::F:=λc g=>by
  rcases An.mp g with z | z
  ·exact An.mpr (.inl z)
  ·exact An.mpr (.inr (t.subset z))
 have i:a∉G:=λz=>u (t.subset z)
 refine ⟨λf hf=>?_,?_,λf hf=>?_,λb o Q q=>?_,λb o q=>?_,λb N=>?_⟩
 ·rcases An.mp hf with rfl | hf
  ·refine ⟨.ref a,O,.lst El hz (r.kp (kp i)),λz=>?_,λz c l e=>?_⟩
   ·exact Cg.mpr ⟨i,(Cg.mp (D z)).2.sublist t⟩
   ·cases e
    exact i
  ·exact (h.ok f (Ad _ hf)).kp (kp ((s.1 f hf).1 (.inl (np f hf)) a J)) (Ah _)
 ·refine Ax.mpr ⟨λf hf=>⟨λU c g=>(s.1 f hf).1 (.inl (np f hf)) c (I c g),λU c g z=>(s.1 f hf).2 (.inl ?_) c g (p c z)⟩,s.2⟩
  cases m <;> first | rfl | cases j
 ·rcases An.mp hf with rfl | hf
  ·exact λc g=>h.new _ Ab c (I c g)
  ·exact h.new f (Ad _ hf)
 ·rw[Fi (Gc q B)]
  exact h.same b o Q q
 ·rw[Fi (Gc q B)]
  exact h.dom b o q
 ·obtain ⟨z,c,k,f,S,W⟩:=h.xd b N
  refine ⟨z,c,k,f,(Fi ?_).trans S,W⟩
  rintro rfl
  exact z B
end
theorem Jn{a:Type}:∀{l:List a} {i:Nat} {x:a},l[i]? = some x->l.Perm (x::l.eraseIdx i)
 | [],i,x,h=>by simp at h
 | z::l,0,x,h=>by
  simp at h
  subst h
  exact Gw _
 | z::l,i+1,x,h=>by
  have b:=Jn (l:=l) (i:=i) (x:=x) (by simpa using h)
  rw[Si]
  exact (b.cons z).trans (Fh x z _)
theorem Tw{b:Type}{l:List b}{i:Nat}{x y:b}(h:l[i]? = some x):(l.set i y).Perm (y::l.eraseIdx i):=by
 have a:=(Ai.mp h).1
 have q:=Jn (l:=l.set i y) (i:=i) (x:=y) (by rw[Iz]; simp [a])
 rw[List.eraseIdx_set_eq] at q
 exact q
theorem dU{K:PySem.W.Frag}{w H:Hp}{X:Addr->Prop}{S T:List Ent}{b:DS}{i:Nat}{m:Md}{f es:List Ae}(g:Sl S b)(C:∀e∈T,Ph e.x=false)(s:At K w X b.n (S++T) H)(O:b.sl[i]? = some (.dat m (.list f)))(J:own1 m=true)(np:npk b.sl=true):∃a xs G,(vs S)[i]? = some (some (.ref a))/\H a=some (.lst xs)/\RdFs K H xs f G/\f.length<=Bf/\∀ys h,RdFs K H ys es h->h.Sublist G->es.length<=Bf->∃o,vs o=vs S/\Sl o ⟨b.sl.set i (.dat m (.list es)),b.n⟩/\At K w X b.n (o++T) (upd H a (.lst ys)):=by
 obtain ⟨d,c,M⟩:=Jd g O
 have B:d∈S:=Aw c
 obtain ⟨u,x,F⟩:=d
 have q:x=.dat m (.list f):=M
 subst q
 obtain ⟨v,t,rd,_⟩:=s.ok _ (Ap _ B)
 obtain ⟨a,xs,G,rfl,z,A,E,D⟩:=rd.list_inv
 have l:F=a::G:=E
 subst l
 refine ⟨a,xs,G,by rw[Ls c]; exact congrArg some t,z,A,D,λys h r P k=>?_⟩
 have I:=lU g np
 have L:(S++T).Perm (⟨u,.dat m (.list f),a::G⟩::(S.eraseIdx i++T)):=by
  exact (Jn c).append_right T
 have N:=(s.perm L).write (es:=es) (ys:=ys) J t (λe he=>?_) r P k
 ·refine ⟨S.set i ⟨u,.dat m (.list es),a::h⟩,?_,?_,N.perm ?_⟩
  ·unfold vs
   rw[Iw]
   apply Gk
   intro j
   rw[Iz]
   split
   ·rename_i p
    subst p
    rw[Br,c]
    split
    ·rfl
    ·rename_i y
     rw[Ac] at y
     exact absurd (Ai.mp c).1 y
   ·rfl
  ·unfold Sl at g ⊢
   rw[Iw,g]
  ·exact ((Tw c).append_right T).symm
 ·rcases Ba.mp he with he | he
  ·exact I e ((Nv S i).subset he)
  ·exact C e he
def kP(i:Nat)(c:DE):DB:=λD b=>match b.sl[i]? with
 | some (.dat _ (.list _))=>c b λy a=>match a.sl[i]?,y with
  | some (.dat m (.list ds)),.dat _ e=>own1 m=true/\npk a.sl=true/\imm e=true/\ds.length<1000000/\D.nx ⟨a.sl.set i (.dat m (.list (ds++[e]))),a.n⟩
  | _,_=>False
 | _=>False
section
variable{X:Cx}{o e:Expr}{f:DE}{d c pos:Pos}{i:Nat}
theorem Qy(ho:PE X o (fF i))(he:Fk X e f)(k:Pw o "append" X.env (eval o X.env)=eval o X.env:=by rfl)
  (l:((Jr c (Cc [e] X.env)).all (λx=>!x.1) && (backToKw c (Tn [] X.env)).all (λx=>x.1.isSome)
   && decide (([e]:List Expr).length+([]:List Px).length+(if ([]:List Px).isEmpty then 0 else 1)<30))=true:=by rfl)
  (j:(d.endLine == c.line)=true:=by rfl) (O:Cc [e] X.env=(false,eval e X.env)::Cc [] X.env:=by rfl) (g:(Jr c (Cc [] X.env)).any (·.1)=false:=by rfl)
  (B:Mc (.Call (.Attribute o "append" d) [e] [] c) none pos.line X.env=pure false:=by rfl) :
  oX X (.Expr (.Call (.Attribute o "append" d) [e] [] c) pos) (kP i f):=by
 refine PS.impD (kY (o5 PySem.F.plainAttrs_list PySem.F.slot_list_append PySem.F.type_list_append Tv ho (Jc he Qm O) k l j O g) B) λD σ H h=>?_
 obtain ⟨H0,Y,S,T,δ,P,rfl,L,hT,M,A,k1,k2,k3,k4⟩:=h
 unfold kP at A
 split at A
 case h_2=>exact A.elim
 rename_i m0 C J
 obtain ⟨p,E,e3⟩:=Jd L J
 have hm:p∈S:=Aw E
 obtain ⟨u,x,F⟩:=p
 have I:x=.dat m0 (.list C):=e3
 subst I
 obtain ⟨v,N,rd,_⟩:=M.ok _ (Ap _ hm)
 obtain ⟨a,xs,G,rfl,U,ra,eF,hz⟩:=rd.list_inv
 refine ⟨.ref a,by rw[Ls E]; exact congrArg some N,.inl ⟨rfl,xs,Ux.of U⟩,H0,Y,S,T,δ,_,rfl,L,M,A,λy W w F1 S1 H1 Q e5 q s=>?_⟩
 split at s
 ·rename_i m ds m' e' z
  obtain ⟨s,p2,p3,p4,Z⟩:=s
  have r:=q.told mem_mid
  obtain rfl:=r.imm p3
  obtain ⟨b,t,G1,R,g2,K,g4,g5⟩:=dU (es:=ds++[e']) e5 hT q.drop z s p2
  rw[Q,Ls E] at R
  have : some (V.ref b)=some (V.ref a):=(Cn R).symm.trans N
  cases this
  obtain ⟨S2,h1,h2,h3⟩:=g5 (t++[w]) (G1++[]) (K.snoc r) (by rw[Fl]; exact Eb _) (by rw[Bh]; exact pF (by simp; omega))
  have hl:=K.len
  refine ⟨a,t,w,rfl,rfl,g2,Cm (by omega) (pF (n:=1000000) (Ah _)),?_⟩
  rw[<- Q,<- h1]
  exact k1 ⟨_,_⟩ S2 _ h2 h3 Z
 ·exact s.elim
end
def MK(i:Nat)(f d:DE):DB:=λD c=>d c λy b=>match b.sl[i]? with
 | some (.dat _ (.list _))=>f b λz a=>match a.sl[i]?,y,z with
  | some (.dat m (.list ds)),.dat _ e,.dat _ (.int k)=>own1 m=true/\npk a.sl=true/\imm e=true/\Dt ds=true/\∃j,M5 ds.length k=some j/\D.nx ⟨a.sl.set i (.dat m (.list (ds.set j e))),a.n⟩
  | _,_,_=>False
 | _=>False
def R1(i:Nat)(rd:D2)(e:DE):DB:=λD c=>match c.sl[i]? with
 | some (.dat _ (.int a))=>e c λy b=>rd (.dat .ow (.int a)) y λz=>match z with
  | .dat _ d=>imm d=true/\D.nx ⟨b.sl.set i (.dat .sh d),b.n⟩
  | _=>False
 | _=>False
section
variable{X:Cx}{x:Str}{e:Expr}{d:DE}{pos c:Pos}{i:Nat}
theorem vG{op:Operator}{g:Int->Int->Int}(t:X.N.Nodup)(K:X.N[i]? = some x)(L:Loc X.env.scope x)(Q:Fk X e d)(E:JR X op (JY g))(G:X.fn x=true\/X.env.scope.names.lookup x=some .local:=by first | exact .inl rfl | exact .inr rfl | assumption):oX X (.AugAssign (.Name x c) op e pos) (R1 i (gA λa b=>.int (g a b)) d):=by
 refine PS.impD (FE t K L Q E G) λD Z H h=>?_
 obtain ⟨M,Y,S,T,J,P,rfl,o,hT,p,l,O,k2,k3,k4⟩:=h
 unfold R1 at l
 split at l
 case h_2=>exact l.elim
 rename_i C a m
 obtain ⟨f,r,I⟩:=Jd o m
 have B:f∈S:=Aw r
 obtain ⟨u,x,F⟩:=f
 have n:x=.dat C (.int a):=I
 subst n
 obtain ⟨v,z,rd,_⟩:=p.ok _ (Ap _ B)
 obtain ⟨rfl,_⟩:=rd.int_inv
 refine ⟨.int a,by rw[Ls r]; exact congrArg some z,M,Y,S,T,J,_,rfl,o,p,l,λy s w F1 S1 q U A j k=>?_⟩
 unfold gA at k
 split at k
 ·rename_i W b' R
  cases R
  obtain ⟨rfl,_⟩:=(j.told mem_mid).int_inv
  refine ⟨a,_,rfl,rfl,?_⟩
  show D.nx ((vs S).set i (some (V.int (g a _)))) q
  rw[<- U,<- dR (x:=.dat .sh (.int (g a _))) (F:=[])]
  exact O ⟨_,_⟩ _ q (bY A) ((j.drop.pushI (.int _)).store) k.2
 ·exact k.elim
theorem uR(g:X.N.Nodup)(b:X.N[i]? = some x)(f:Loc X.env.scope x)(h:Fk X e d)(a:X.fn x=true\/X.env.scope.names.lookup x=some .local:=by first | exact .inl rfl | exact .inr rfl | assumption):oX X (.AugAssign (.Name x c) .Add e pos) (R1 i rdAdd d):=vG g b f h BG a
end
def lY(i:Nat):DE:=λa P=>match a.sl[i]? with
 | some (.dat .pk _)=>False
 | some (.dat _ d)=>P (.dat .sh d) ⟨a.sl.set i (.dat .sh d),a.n⟩
 | _=>False
theorem vX{X:Cx}{e:Expr}{i:Nat}(h:PE X e (fF i)):Fk X e (lY i):=by
 refine PE.imp h λJ H Q h=>?_
 obtain ⟨C,Y,S,T,o,P,rfl,t,w,f,k⟩:=h
 unfold lY at f
 split at f
 ·exact f.elim
 ·rename_i m d A G
  obtain ⟨b,a,B⟩:=Jd t G
  have g:b∈S:=Aw a
  obtain ⟨u,x,F⟩:=b
  have s:x=.dat m d:=B
  subst s
  obtain ⟨v,z,I⟩:=w.ok _ (Ap _ g)
  have p:u=some v:=z
  subst p
  -- the same entry,shared
  obtain ⟨c,L⟩:=Ai.mp a
  have D:=Jn a
  have E:=Tw (y:=(⟨some v,.dat .sh d,F⟩ : Ent)) a
  have l:At X.K C Y o.n (S.set i ⟨some v,.dat .sh d,F⟩++T) H:=by
   refine At.perm (At.wk (m:=m) ?_ (w.perm (D.append_right T))) (E.append_right T).symm
   cases m <;> first | rfl | exact (A rfl).elim
  refine ⟨v,by rw[Ls a],k _ ⟨o.sl.set i (.dat .sh d),o.n⟩ v F (S.set i ⟨some v,.dat .sh d,F⟩) H ?_ ?_ (l.look (m:=.sh) (List.mem_set c _) rfl) f⟩
  ·rw[dR]
   apply Gk
   intro j
   rw[Iz]
   split
   ·rename_i q
    subst q
    rw[Ls a]
    split
    ·rfl
    ·rename_i r
     unfold vs at r
     rw[Ac] at r
     exact absurd c r
   ·rfl
  ·exact bY t
 ·exact f.elim
def spLawD(K:PySem.W.Frag):Sp:=λc H Q _=>∃(a:Addr) (b:List Int),c=[.ref a]/\KL K H a (b.map V.int)/\b.length<=63/\∀d,Q (.bl true) d
def retL:DEnds where
 nx:=λ_=>False
 rt:=λx _=>∃m,x=.dat m (.bool true)
section
variable{P:Bp}{w:World}{K:PySem.W.Frag}{mg:Str->Option Value}{base:Heap}
theorem EW{x d y:Str}{st:Stmt}{f:Addr}{B:Cz}{N:List Str}{k:Nat}{u:DB}(F:Fun K x d st f B)(S:FnScope N [y] (Cf st))(hb:∀(g:Value) (A:Cw) (outer:List Env) (s:Ak) (H:Hp) (E:XK),Room k (A.deeper (Us d (Cf st) s.heap.objs.size f g))->fB (Pv Ib P w K mg base N d (Cf st) f g A outer s H E).nox (Lj st) u)(h:∀ns:List Int,ns.length<=63->u retL ⟨.scr ns::Jp (N.length - 1) .un,0⟩):FnOk P w K mg base Ib (k+1) f B [y] (spLawD K):=by
 refine F.ok S (λvs H Q E z=>?_) λg A outer s H O Q E I z=>?_
 ·obtain ⟨a,ns,rfl,_⟩:=z
  rfl
 ·obtain ⟨a,ns,rfl,G,i,J⟩:=z
  refine ⟨_,hb g A outer s H E I,H,λ_=>False,⟨some (.ref a),.scr ns,[]⟩::Mv (N.length - 1),[],⟨.scr ns::Jp (N.length - 1) .un,0⟩,retL,?_,?_,λ_ z=>(nomatch z),?_,h ns i,λt r D L l p=>p.elim,λx t v C r D L l p=>?_,λ_ _ _ _ _ p=>p.elim,λ_ _ _ _ _ p=>p.elim⟩
  ·unfold vs L2.start Mv
   rw[Au,Ui]
   rfl
  ·unfold Sl Mv
   rw[Au,Ui]
  ·rw[Fl]
   have q:∀e∈(⟨some (.ref a),.scr ns,[]⟩::Mv (N.length - 1):List Ent),cells e=[]:=λe he=>by
    rcases An.mp he with rfl | he
    ·rfl
    ·rw[(Mn.mp he).2]
     rfl
   refine ⟨λe he=>?_,Wl λa j b n=>⟨λM c z=>?_,λM c z=>?_⟩,λe he a j=>?_,λb o _ e=>e,λb o e=>⟨o,e⟩,λb hb=>hb.elim⟩
   ·rcases An.mp he with rfl | he
    ·exact ⟨a,rfl,rfl,G,i⟩
    ·rw[(Mn.mp he).2]
     exact (rfl:([]:List Addr)=[])
   ·rw[q a j] at z; cases z
   ·rw[q b n] at z; cases z
   ·rw[q e he] at j; cases j
  ·obtain ⟨m,rfl⟩:=p
   rw[show r++[(⟨some v,.dat m (.bool true),C⟩ : Ent)]=r++⟨some v,.dat m (.bool true),C⟩::[] from rfl] at l
   obtain ⟨rfl,_⟩:=(l.told mem_mid).bl_inv
   exact J D
end
def qP(i:Nat)(d e:DO):DE:=λc P=>match c.sl[i]? with
 | some (.scr ns)=>d c λl a=>e a λh b=>P (.dat .ow (.list ((Ol ns l h).map Bq))) b
 | _=>False
def JQ(i:Nat)(c:DE):DE:=λb P=>match b.sl[i]? with
 | some (.scr ns)=>c b λy a=>match y with
  | .dat _ (.list es)=>Dt es=true/\ns.length+es.length<=1000000/\P (.dat .ow (.list (ns.map Bq++es))) a
  | _=>False
 | _=>False
section
variable{X:Cx}{e b:Expr}{j:DE}{lo c:Option Expr}{f g:DO}{pos d:Pos}{i:Nat}
theorem CU{K:PySem.W.Frag}{q H:Hp}{Y:Addr->Prop}{S T:List Ent}{g:DS}{ns:List Int}(k:Sl S g)(l:At K q Y g.n (S++T) H)(c:g.sl[i]? = some (.scr ns)):∃a,(vs S)[i]? = some (some (.ref a))/\(⟨some (.ref a),.scr ns,[]⟩ : Ent)∈S/\KL K H a (ns.map V.int)/\ns.length<=63:=by
 obtain ⟨b,j,m⟩:=Jd k c
 have h:b∈S:=Aw j
 obtain ⟨u,x,F⟩:=b
 have e:x=.scr ns:=m
 subst e
 obtain ⟨a,o,r,p⟩:=l.ok _ (Ap _ h)
 have f:u=some (.ref a):=o
 have d:F=[]:=r
 subst f d
 exact ⟨a,by rw[Ls j],h,p⟩
theorem A8(N:PE X e (fF i))(hl:FN X lo f)(B:FN X c g):Fk X (.Subscript e (.Slice lo c none d) pos) (qP i f g):=by
 refine PE.imp (nM (r:=EV X.K) P8 N hl B) λσ H Q h=>?_
 obtain ⟨s,Y,S,T,z,P,rfl,x,y,m,k⟩:=h
 unfold qP at m
 split at m
 case h_2=>exact m.elim
 rename_i b v
 obtain ⟨a,A,E,W,M⟩:=CU x y v
 have q:At X.K s Y z.n (S++⟨some (.ref a),.scr b,[]⟩::T) H:=(At.view1 y (Ap _ E)).tomid
 refine ⟨.ref a,A,s,Y,S,⟨some (.ref a),.scr b,[]⟩::T,z,_,rfl,x,q,m,λl u C H2 J R o d=>?_⟩
 refine ⟨s,Y,C,⟨some (.ref a),.scr b,[]⟩::T,u,_,J,R,o,d,λh t I H3 D O j F=>?_⟩
 obtain ⟨U,L,_,w,_⟩:=j.ok _ mem_mid
 cases L
 refine ⟨a,_,rfl,w.sq,λp G=>?_⟩
 have : eT (b.map V.int) l h=(Ol b l h).map V.int:=by
  rw[<- dP]; rfl
 rw[this]
 refine k _ t _ _ I _ D O (j.drop.newI (RdFs.ints _) (Nq _) ?_ G .ow) F
 rw[Ac]
 have Z:=(dX b l h).length_le
 exact sz (by omega)
end
def Rh(p:Nat)(f:DT)(i:DE)(g:DS)(d:Ae->Nat->Prop)(h:Nat->Prop):Prop:=f g λb a=>match b with
 | true=>i a λy c=>match y with
  | .dat _ e=>imm e=true/\c.sl[p]? = some .drw/\d e c.n
  | _=>False
 | false=>a.sl[p]? = some .drw/\h a.n
def kM(h:DI)(js1:List Nat)(j0:Nat)(js2:List Nat)(g:DT)(k:DE):DE:=λj P=>h j λm f b=>b.sl[j0]? = some .drw/\∃I:Nat->List Ae->Nat->Prop,I 0 [] b.n /\
 (∀i d a n,f[i]? = some d->I i a n->Rh (js1.length+1) g k ⟨.dat m d::(frD (b.sl.set j0 .un) js1++.drw::frD (b.sl.set j0 .un) js2),n⟩ (λe c=>I (i+1) (a++[e]) c) (λc=>I (i+1) a c)) /\
 ∀a n,I f.length a n->P (.dat .ow (.list a)) ⟨b.sl,n⟩
section
variable{K:PySem.W.Frag}{a H g:Hp}{Y:Addr->Prop}{n n':Nat}{E S T:List Ent}
theorem At.re(h:At K a Y n E H)(ok:∀e∈E,Jg K g n' e)(s:∀b o,¬ Y b->a b=some o->g b=some o)(j:∀b o,a b=some o->∃i,g b=some i)(d:∀b,Y b->a b≠none/\∃c k f,jQ g b c k f/\0<=k/\k<=(n':Int)):At K a Y n' E g:=⟨ok,h.sep,h.new,s,j,d⟩
theorem j3{g:List Ent}{m:DS}{p:Nat}{b:Addr}(q:At K a Y n E H)(s:∀e∈g,e∈E)(r:Sl g m)(w:m.sl[p]? = some .drw)(l:(vs g)[p]? = some (some (.ref b))):Jg K H n ⟨some (.ref b),.drw,[b]⟩:=by
 obtain ⟨d,o,y⟩:=Jd r w
 have t:d∈g:=Aw o
 rw[Ls o] at l
 obtain ⟨u,x,F⟩:=d
 have j:x=.drw:=y
 subst j
 have v:u=some (.ref b):=Cn l
 subst v
 obtain ⟨h,c,k,f,z,B,A⟩:=q.ok _ (s _ t)
 have i:some (V.ref b)=some (V.ref h):=z
 cases i
 exact ⟨b,c,k,f,rfl,rfl,A⟩
theorem x3{p:Nat}{l:Addr}{A:DT}{E:DE}{m:DS}{j:Ae->Nat->Prop}{x:Nat->Prop}{D:Addr}{d:List Ae}{u:Hp->Prop}{z:VK}(G:Sl S m)(I:At K a Y m.n (S++⟨some (.ref D),.acc d,[D]⟩::T) H)(w:(vs S)[p]? = some (some (.ref l)))(h:Rh p A E m j x)(k1:∀n' g,At K a Y n' (⟨some (.ref D),.acc d,[D]⟩::T) g->Jg K g n' ⟨some (.ref l),.drw,[l]⟩->x n'->u g)(k2:∀e n' v g,At K a Y n' (⟨some (.ref D),.acc d,[D]⟩::T) g->Jg K g n' ⟨some (.ref l),.drw,[l]⟩->RdF K g v e []->j e n'->z v g):LT K A (vs S) H λc o=>if c=true then LE K E (vs S) o z else u o:=by
 refine ⟨a,Y,S,⟨some (.ref D),.acc d,[D]⟩::T,m,_,rfl,G,I,h,λb t J o C B f q=>?_⟩
 cases b with
 | false=>exact vZ (k1 _ _ (f.sub (Di _ _)) (j3 f (λe s=>Ap _ s) B q.1 (by rw[C]; exact w)) q.2)
 | true =>
  refine vU ⟨a,Y,J,⟨some (.ref D),.acc d,[D]⟩::T,t,_,C,B,f,q,λy M v F P O L N i k=>?_⟩
  split at k
  ·have r:=i.told mem_mid
   obtain rfl:=r.imm k.1
   exact k2 _ _ _ _ (i.drop.sub (Di _ _)) (j3 i (λe s=>Ap _ s) N k.2.1 (by rw[L]; exact w)) r k.2.2
  ·exact k.elim
theorem pK{di:DI}{js1 js2:List Nat}{j0:Nat}{dc:DT}{de:DE}:∀σ H Q,LE K (kM di js1 j0 js2 dc de) σ H Q->oI (LI K di) (js1++j0::js2) (LT K dc) (LE K de) σ H Q:=by
 intro σ H Q h
 obtain ⟨a,Y,S,T,δ,P,rfl,hS,hA,hd,k⟩:=h
 refine ⟨a,Y,S,T,δ,_,rfl,hS,hA,hd,λm t s J l f H1 e1 e2 Z it hz p1=>?_⟩
 obtain ⟨hj,I,h0,hs,hf⟩:=p1
 rw[<- e1]
 obtain ⟨X,U,s2⟩:=Jd e2 hj
 have k5:X∈f:=Aw U
 obtain ⟨u,x,F0⟩:=X
 have k7:x=.drw:=s2
 subst k7
 obtain ⟨b,_,_,_,k0,k1,_⟩:=Z.ok _ (Ap _ k5)
 have h6:u=some (.ref b):=k0
 have h4:F0=[b]:=k1
 subst h6 h4
 intro D hD
 refine ⟨λi q H=>q=t.length - i/\i<=t.length/\∃c n,At K a Y n (⟨some (.ref D),.acc c,[D]⟩::(f++(l++T))) H/\c.length<=i/\I i c n,⟨t.length,by simp,Ds _,[],s.n,Z.accNew hD,Ah _,h0⟩,?_⟩
 (intro i q H q_; obtain ⟨rfl,hi,c,n,z,hl,hI⟩ := q_)
 have o:∀e∈l,Jg K H n e:=λe he=>z.ok e (Ad _ (Av _ (Ap _ he)))
 by_cases w:i<t.length
 ·refine .inr ⟨it.go H n i o w,λx g y=>?_⟩
  obtain ⟨k3,d,F,h1,h2,h3⟩:=it.yld H n i x g o w y
  have E:At K a Y n ((⟨some (.ref D),.acc c,[D]⟩::f)++⟨some x,.dat m d,F⟩::(l++T)) g:=At.item (S:=⟨some (.ref D),.acc c,[D]⟩::f) z k3 h2 h3 it.md it.hd it.np
  -- the draws are taken out of their slot
  have L:At K a Y n (⟨some (.ref b),.drw,[b]⟩::⟨some x,.dat m d,F⟩::⟨some (.ref D),.acc c,[D]⟩::(f.set j0 ⟨some (.ref b),.un,[]⟩++(l++T))) g:=by
   have q:=E.mid.blank (v:=some (.ref b))
   refine q.perm ?_
   have pS:(⟨some (.ref b),.un,[]⟩::f:List Ent).Perm (⟨some (.ref b),.drw,[b]⟩::f.set j0 ⟨some (.ref b),.un,[]⟩):=Wr U
   have p2:=pS.append_right (l++T)
   -- un::x::D::f.. ~ x::D::un::f..
   have a1:((⟨some (.ref b),.un,[]⟩ : Ent)::⟨some x,.dat m d,F⟩::((⟨some (.ref D),.acc c,[D]⟩::f)++(l++T))).Perm (⟨some x,.dat m d,F⟩::⟨some (.ref D),.acc c,[D]⟩::⟨some (.ref b),.un,[]⟩::(f++(l++T))) :=
    (Fh _ _ _).trans ((Fh _ _ _).cons _)
   have a2:((⟨some x,.dat m d,F⟩ : Ent)::⟨some (.ref D),.acc c,[D]⟩::⟨some (.ref b),.drw,[b]⟩::(f.set j0 ⟨some (.ref b),.un,[]⟩++(l++T))).Perm (⟨some (.ref b),.drw,[b]⟩::⟨some x,.dat m d,F⟩::⟨some (.ref D),.acc c,[D]⟩::(f.set j0 ⟨some (.ref b),.un,[]⟩++(l++T))) :=
    ((Fh _ _ _).cons _).trans (Fh _ _ _)
   exact a1.trans (((p2.cons _).cons _).trans a2)
  have V:Sl (f.set j0 ⟨some (.ref b),.un,[]⟩) ⟨s.sl.set j0 .un,n⟩:=bY e2
  have vS:vs (f.set j0 ⟨some (.ref b),.un,[]⟩)=vs f:=by
   rw[dR]
   apply Gk
   intro j
   rw[Iz]
   split
   ·rename_i h8
    subst h8
    rw[Ls U]
    split
    ·rfl
    ·rename_i M
     unfold vs at M
     rw[Ac] at M
     exact absurd (Ai.mp U).1 M
   ·rfl
  have A:∀e∈f.set j0 ⟨some (.ref b),.un,[]⟩,e∈(⟨some (.ref b),.drw,[b]⟩::⟨some x,.dat m d,F⟩::⟨some (.ref D),.acc c,[D]⟩::(f.set j0 ⟨some (.ref b),.un,[]⟩++(l++T)):List Ent):=λe he=>Ad _ (Ad _ (Ad _ (Ap _ he)))
  have h9:=At.view (S:=f.set j0 ⟨some (.ref b),.un,[]⟩) L A js2
  have W:=At.view (S:=f.set j0 ⟨some (.ref b),.un,[]⟩) h9 (λe he=>Av _ (A e he)) js1
  have k4:At K a Y n ((⟨some x,.dat m d,F⟩::(fZ (f.set j0 ⟨some (.ref b),.un,[]⟩) js1++⟨some (.ref b),.drw,[b]⟩::fZ (f.set j0 ⟨some (.ref b),.un,[]⟩) js2))++⟨some (.ref D),.acc c,[D]⟩::(f.set j0 ⟨some (.ref b),.un,[]⟩++(l++T))) g:=by
   refine W.perm ?_
   generalize fZ (f.set j0 ⟨some (.ref b),.un,[]⟩) js1=A1
   generalize fZ (f.set j0 ⟨some (.ref b),.un,[]⟩) js2=A2
   generalize (⟨some (.ref D),.acc c,[D]⟩::(f.set j0 ⟨some (.ref b),.un,[]⟩++(l++T)):List Ent)=R
   have b1:(A2++((⟨some (.ref b),.drw,[b]⟩ : Ent)::⟨some x,.dat m d,F⟩::R)).Perm ((⟨some x,.dat m d,F⟩ : Ent)::⟨some (.ref b),.drw,[b]⟩::(A2++R)) :=
    (Gz.trans ((Gz).cons _)).trans (Fh _ _ _)
   have b2:=b1.append_left A1
   refine b2.trans (Gz.trans ?_)
   rw[Ha,Cr,Ha]
  have k6:Sl (⟨some x,.dat m d,F⟩::(fZ (f.set j0 ⟨some (.ref b),.un,[]⟩) js1++⟨some (.ref b),.drw,[b]⟩::fZ (f.set j0 ⟨some (.ref b),.un,[]⟩) js2)) ⟨.dat m d::(frD (s.sl.set j0 .un) js1++.drw::frD (s.sl.set j0 .un) js2),n⟩:=by
   unfold Sl
   rw[Au,Bn,Au,J5 V,J5 V]
  have hv:vs (⟨some x,.dat m d,F⟩::(fZ (f.set j0 ⟨some (.ref b),.un,[]⟩) js1++⟨some (.ref b),.drw,[b]⟩::fZ (f.set j0 ⟨some (.ref b),.un,[]⟩) js2))=some x::Ku (vs f) (js1++j0::js2):=by
   have f1:=A5 (f.set j0 ⟨some (.ref b),.un,[]⟩) js1
   have f2:=A5 (f.set j0 ⟨some (.ref b),.un,[]⟩) js2
   rw[vS] at f1 f2
   unfold vs at f1 f2 ⊢
   rw[Au,Bn,Au,f1,f2]
   unfold Ku
   rw[Bn,Au,Br,U]
   rfl
  have k2:(vs (⟨some x,.dat m d,F⟩::(fZ (f.set j0 ⟨some (.ref b),.un,[]⟩) js1++⟨some (.ref b),.drw,[b]⟩::fZ (f.set j0 ⟨some (.ref b),.un,[]⟩) js2)))[js1.length+1]? = some (some (.ref b)):=by
   unfold vs
   rw[Au,qM,Bn,Eo (by rw[Ac]; unfold fZ; rw[Ac]; exact Ah _)]
   rw[Ac]
   unfold fZ
   rw[Ac,bU]
   rfl
  -- r to the outer names
  have r:∀{n':Nat} {B:Hp},At K a Y n' (⟨some (.ref D),.acc c,[D]⟩::(f.set j0 ⟨some (.ref b),.un,[]⟩++(l++T))) B->Jg K B n' ⟨some (.ref b),.drw,[b]⟩->At K a Y n' (⟨some (.ref D),.acc c,[D]⟩::(f++(l++T))) B:=λ{n' B} O h7=>by
   refine z.re (λe he=>?_) O.same O.dom O.xd
   rcases An.mp he with rfl | he
   ·exact O.ok _ Ab
   ·rcases Ba.mp he with he | he
    ·obtain ⟨j,C⟩:=List.getElem?_of_mem he
     by_cases h5:j=j0
     ·subst h5
      rw[U] at C
      cases C
      exact h7
     ·refine O.ok e (Ad _ (Ap _ (Aw (i:=j) ?_)))
      rw[Wd (Kx h5)]
      exact C
    ·exact O.ok e (Ad _ (Av _ he))
  refine ⟨λB=>∃m',m'<t.length - i/\_,λy H3=>∃c,H3 D=some (.lst c)/\c.length<Bf/\∃m',m'<t.length - i/\_,λB q=>q,λy H3 q=>q,?_⟩
  rw[<- hv]
  refine x3 k6 k4 k2 (hs i d c n h1 hI) (λn' B G N p=>?_) (λe n' v B G N r7 p=>?_)
  ·exact ⟨t.length - (i+1),by omega,rfl,w,c,n',r G N,by omega,p⟩
  ·obtain ⟨xs,g1,g2,g3⟩:=(r G N).accPut r7 (by omega)
   exact ⟨xs,g1,by omega,t.length - (i+1),by omega,rfl,w,c++[e],n',g3,by rw[Bh]; simp; omega,p⟩
 ·have e:i=t.length:=by omega
  subst e
  refine .inl ⟨it.stop H n o,k _ ⟨s.sl,n⟩ _ [D] f H e1 e2 ?_ (hf c n hI)⟩
  have E:=z.accGet
  have L:At K a Y n (⟨some (.ref D),.dat .ow (.list c),[D]⟩::(f++T)) H:=E.sub (((Eb f).append (Di l T)).cons₂ _)
  exact L.tomid
end
section
variable{X:Cx}{b iter c:Expr}{x h:Str}{g l pos e:Pos}{i0:Nat}{d:List Expr}{a:Scope}{f:List (Str×Addr)}{ys:List Str}{js1 js2:List Nat}{j0:Nat}{j:DI}{i:DT}{k:DE}
theorem F4(C:CompScope X a f x ys (js1++j0::js2))(c:X.calm=true)(h:U1 X (.Name x g) iter j)(l:∀fp s H,yY (Gx X a f (x::ys) fp s H) d (LT X.K i))(m:∀fp s H,Fk (Gx X a f (x::ys) fp s H) b k)(e:∀x,Hz iter X.env x=pure x:=by intro _; rfl):Fk X (.ListComp b [⟨.Name x g,iter,d,0⟩] a pos) (kM j js1 j0 js2 i k):=PE.imp (lS C c h l m e) pK
theorem D0{o:Bool}(u:X.N.Nodup)(n:X.N[i0]? = some h)(c:X.env.scope.names.lookup h=some .local)(C:CompScope X a f x ys (js1++j0::js2))(p:X.calm=true)(r:U1 X (.Name x g) iter j)(t:∀fp s H,yY (Gx X a f (x::ys) fp s H) d (LT X.K i))(v:∀fp s H,Fk (Gx X a f (x::ys) fp s H) b k)(q:∀x,Hz iter X.env x=pure x:=by intro _; rfl)(m:Mc (.ListComp b [⟨.Name x g,iter,d,0⟩] a pos) (some (.Name h l)) e.line X.env=pure true:=by rfl):oX X (.Assign [.Name h l] (.ListComp b [⟨.Name x g,iter,d,0⟩] a pos) e) (xJ (kM j js1 j0 js2 i k) (KD o i0)):=PS.impD (R7 u n c C p r t v q m) (lQ pK JW)
end
theorem oU{X:Cx}{c:Expr}{f:List Stmt}{dt:DT}{v:DB}{pos:Pos}(V:PassesOwn (model X.prog X.w) X.A X.env X.xe)(M:fN X c dt)(hb:fB X f v):oX X (.While c f [] pos) (K6 dt v):=by
 refine PS.impD (q9 V M hb) λD t H h=>?_
 obtain ⟨p,Y,S,T,a,P,rfl,F,N,G,hd,B,Z,k3,k4⟩:=h
 obtain ⟨I,s,h0,U⟩:=hd
 refine ⟨λq t H=>∃S a,vs S=t/\Sl S a/\At X.K p Y a.n (S++T) H/\I a/\q=s a,⟨_,S,a,rfl,F,G,h0,rfl⟩,?_⟩
 (intro q t H q_; obtain ⟨S1,g,rfl,e1,u,J,rfl⟩ := q_)
 refine ⟨p,Y,S1,T,g,_,rfl,e1,u,U g J,λb o x L C z k y=>?_⟩
 cases b with
 | true =>
  refine ⟨λl E=>∃S a,vs S=l/\Sl S a/\At X.K p Y a.n (S++T) E/\I a/\s a<s g,λl E ⟨S,a,Q,z2,W,O,R⟩=>⟨_,R,S,a,Q,z2,W,O,rfl⟩,?_⟩
  exact ⟨p,Y,x,T,o,_,C,z,N,k,y,λd m r j e i=>⟨m,d,rfl,j,e,i⟩,Z,λd m r j e i=>B d m r j e i,λd m r j e i=>⟨m,d,rfl,j,e,i⟩⟩
 | false =>
  rw[<- C]
  exact B o x L z k y
def FY(i j:Int):Prop:=0<=j/\(Builtin.Int.intBits i:Int) * j<=2 ^ 27
theorem Q6{X:Cx}:Xq X (Kw .Pow) (rI FY λi j=>.int (i ^ j.toNat)):=JB λ_ _ _ _ _ _ _ a q=>pow_int a.1 a.2 q
def Ss:DF:=λa n R=>a=[]/\n<=100000/\∀r:Int,R (.int r) (n+1)
theorem R9{P:Bp}{w:World}{K:PySem.W.Frag}{mg:Str->Option Value}{base:Heap}{k:Nat}{f:Addr}{i:Cz}{ps:List Str}(F:FnOk P w K mg base Ib k f i ps x9):FnOk P w K mg base Ib k f i ps (fO K Ss):=by
 refine F.imp λI H Q E h=>?_
 obtain ⟨x,j,p,n,C,R,rfl,o,ok,B,⟨c,l,g,d,A,G⟩,q,t,u⟩:=h
 obtain ⟨rfl,D,m⟩:=t
 have b:p=[]:=by
  have:=Oz q
  rw[Ac] at this
  exact Hm.mp this
 subst b
 have e:j=[]:=by
  cases j with
  | nil=>rfl
  | cons _ _=>cases o
 subst e
 refine ⟨x,c,l,g,rfl,d,A,by omega,λr v y a s=>?_⟩
 exact u (.int r) (.int r) [] (n+1) y (by omega) (m r) (.int r) Do (λ_ z=>(nomatch z)) ⟨v,l+1,g,a,by omega,by omega⟩ s
theorem Vv{ns:List Int}(r:Dh 60 ns):ns.length<=60:=Co (NdS.len_leI (r.1.imp λ{x y} h=>Int.ne_of_lt h) λe a=>Xi (r.2 e a).1 (r.2 e a).2) (by decide)
def Oc{a:Type}(xs:List a)(k:Nat)(y:a):List a:=xs.take k++y::xs.drop k
def V7:V->List V->Hp->VK->Prop:=λx b H Q=>∃(l:Addr) (a:List V) (k:Int) (y:V),x=.ref l/\b=[.int k,y]/\H l=some (.lst a)/\a.length<Bf/\0<=k/\k<=1000000/\Q .non (upd H l (.lst (Oc a k.toNat y)))
theorem sQ{k:Int}(h0:0<=k)(h1:k<=1000000):Zt k=true:=by
 unfold Zt
 simp
 omega
theorem xP{a:Type}(xs:List a)(k:Nat)(y:a):Oc xs (min k xs.length) y=Oc xs k y:=by
 unfold Oc
 by_cases h:k<=xs.length
 ·rw[Mm h]
 ·rw[fU (by omega),Gy,fK,Eu (by omega),tE (by omega)]
theorem iZ{a:Type}(xs:List a)(k:Nat)(y:a):(Oc xs k y).length=xs.length+1:=by
 unfold Oc
 rw[Bh,Bd,Cy,Jq]
 omega
section
variable{X:Cx}
theorem xM:KH X "list.insert" V7:=by
 intro d s A H x vs v C Q I m g h
 obtain ⟨l,u,k,y,rfl,rfl,c,w,j,o,q⟩:=h
 cases m
 obtain ⟨p,b,rfl,f,i⟩:=g.two
 obtain ⟨t,rfl⟩:=f
 obtain ⟨z,a,n,r,B,e⟩:=I.lstM c
 refine Pq F.slot_list_insert ⟨_,e,rfl⟩ F.entry_list_insert (F.args_list_insert_3 _ _ _)
  (AutoSeq1.list_insert_list_int_val_1 l a.toArray n k t b (by simp [sQ j o]) (by rw[Ar]; omega)) ⟨e,?_⟩
 refine ⟨.non,_,I.lset (its':=Oc a k.toNat b) c e ?_ ?_ ?_,rfl,q⟩
 ·show (a.toArray.extract 0 (if k<0 then (k+(a.toArray.size:Int)).toNat else min k.toNat a.toArray.size)).push b++a.toArray.extract (if k<0 then (k+(a.toArray.size:Int)).toNat else min k.toNat a.toArray.size)=(Oc a k.toNat b).toArray
  rw[if_neg (by omega),Ar,<- xP]
  unfold Oc
  simp
  exact Eu (by rw[Jq]; omega)
 ·exact (r.take _).append (.cons i (r.drop _))
 ·rw[iZ]
  omega
end
def insB(i:Nat)(z y:DV)(a:DS)(D:DEnds):Prop:=match a.sl[i]?,z,y with
 | some (.dat m (.list ds)),.dat _ (.int k),.dat _ e=>own1 m=true/\npk a.sl=true/\imm e=true/\Dt ds=true/\ds.length<1000000/\0<=k/\k<=1000000/\D.nx ⟨a.sl.set i (.dat m (.list (Oc ds k.toNat e))),a.n⟩
 | _,_,_=>False
def kT(i:Nat)(e d:DE):DB:=λD c=>match c.sl[i]? with
 | some (.dat _ (.list _))=>e c λz b=>d b λy a=>insB i z y a D
 | _=>False
theorem RdFs.takeI{K:PySem.W.Frag}{H:Hp}{xs:List V}{b:List Ae}{F:List Addr}(h:RdFs K H xs b F)(c:Dt b=true)(k:Nat):RdFs K H (xs.take k) (b.take k) []:=by
 induction k generalizing xs b F with
 | zero=>exact .nil
 | succ k d =>
  cases h with
  | nil=>exact .nil
  | cons a t =>
   rw[Dt,Fo] at c
   obtain rfl:=a.imm c.1
   exact RdFs.cons (F:=[]) a (d t c.2)
theorem RdFs.dropI{K:PySem.W.Frag}{H:Hp}{xs:List V}{b:List Ae}{F:List Addr}(h:RdFs K H xs b F)(c:Dt b=true)(k:Nat):RdFs K H (xs.drop k) (b.drop k) []:=by
 induction k generalizing xs b F with
 | zero=>rw[Lb,Lb]; exact (h.imm c)▸h
 | succ k d =>
  cases h with
  | nil=>exact .nil
  | cons a t =>
   rw[Dt,Fo] at c
   exact d t c.2
section
variable{X:Cx}{o e f:Expr}{g j:DE}{d c pos:Pos}{i:Nat}
theorem wZ(ho:PE X o (fF i))(hk:Fk X f j)(he:Fk X e g)(p:Pw o "insert" X.env (eval o X.env)=eval o X.env:=by rfl)
  (E:((Jr c (Cc [f,e] X.env)).all (λx=>!x.1) && (backToKw c (Tn [] X.env)).all (λx=>x.1.isSome)
   && decide (([f,e]:List Expr).length+([]:List Px).length+(if ([]:List Px).isEmpty then 0 else 1)<30))=true:=by rfl)
  (q:(d.endLine == c.line)=true:=by rfl) (t:Cc [f,e] X.env=(false,eval f X.env)::Cc [e] X.env:=by rfl) (hs:Cc [e] X.env=(false,eval e X.env)::Cc [] X.env:=by rfl) (l:(Jr c (Cc [e] X.env)).any (·.1)=false:=by rfl)
  (L:Mc (.Call (.Attribute o "insert" d) [f,e] [] c) none pos.line X.env=pure false:=by rfl) :
  oX X (.Expr (.Call (.Attribute o "insert" d) [f,e] [] c) pos) (kT i j g):=by
 refine PS.impD (kY (o5 PySem.F.plainAttrs_list F.slot_list_insert F.type_list_insert xM ho (Jc hk (Jc he Qm hs) t) p E q t l) L) λD σ H h=>?_
 obtain ⟨H0,Y,S,T,δ,P,rfl,hS,hT,hA,I,k1,k2,k3,k4⟩:=h
 unfold kT at I
 split at I
 case h_2=>exact I.elim
 rename_i m0 O R
 obtain ⟨A,U,e3⟩:=Jd hS R
 have hm:A∈S:=Aw U
 obtain ⟨u,x,F⟩:=A
 have Q:x=.dat m0 (.list O):=e3
 subst Q
 obtain ⟨v,W,rd,_⟩:=hA.ok _ (Ap _ hm)
 obtain ⟨a,xs,G,rfl,ha,ra,eF,hz⟩:=rd.list_inv
 refine ⟨.ref a,by rw[Ls U]; exact congrArg some W,.inl ⟨rfl,xs,Ux.of ha⟩,H0,Y,S,T,δ,_,rfl,hS,hA,I,λz M w F1 S1 H1 e4 e5 N p1=>?_⟩
 refine ⟨H0,Y,S1,⟨some w,z,F1⟩::T,M,_,e4,e5,N,p1,λy h0 w2 F2 S2 H2 Z e7 s J=>?_⟩
 unfold insB at J
 split at J
 ·rename_i m ds mz k my e' C
  obtain ⟨q1,q2,q3,q4,q5,q6,q7,q8⟩:=J
  obtain ⟨rfl,_⟩:=(s.told Fm).int_inv
  have r:=s.told mem_mid
  obtain rfl:=r.imm q3
  obtain ⟨b,B,G1,g1,g2,K,g4,g5⟩:=dU (es:=Oc ds k.toNat e') e7 hT s.drop2 C q1 q2
  rw[Z,Ls U] at g1
  have : some (V.ref b)=some (V.ref a):=(Cn g1).symm.trans W
  cases this
  have hl:=K.len
  obtain ⟨S3,h1,h2,h3⟩:=g5 (Oc B k.toNat w2) [] ((K.takeI q4 _).app (RdFs.cons (F:=[]) r (K.dropI q4 _))) (fJ _) (by rw[iZ]; exact pF (by omega))
  refine ⟨a,B,k,w2,rfl,rfl,g2,Cm (by omega) (pF (n:=1000000) (Ah _)),q6,q7,?_⟩
  rw[<- Z,<- h1]
  exact k1 ⟨_,_⟩ S3 _ h2 h3 q8
 ·exact J.elim
end
def mmd:Md->Md->Md
 | .ow,.ow=>.ow
 | _,_=>.tp
section
variable{K:PySem.W.Frag}{d H:Hp}{X:Addr->Prop}{n:Nat}{E:List Ent}
theorem At.merge{v:Option V}{w:V}{m g:Md}{J es:List Ae}{e:Ae}{a:Addr}{F p G:List Addr}{ys:List V}(h:At K d X n (⟨v,.dat m (.list J),a::F⟩::⟨some w,.dat g e,p⟩::E) H)(L:own1 m=true)(hy:g≠.pk)(hv:v=some (.ref a))(np:∀e∈E,Ph e.x=false)(r:RdFs K H ys es G)(U:∀c∈G,c∈F\/c∈p)(Q:(F++p).Nodup->G.Nodup)(hz:es.length<=Bf):At K d X n (⟨v,.dat (mmd m g) (.list es),a::G⟩::E) (upd H a (.lst ys)):=by
 obtain ⟨w1,e1,rd,Y,ht⟩:=h.ok _ Ab
 obtain ⟨w2,h0,h3,M,h4⟩:=h.ok _ (Ad _ Ab)
 obtain ⟨b,xs,G0,e2,ha,ra,eF,_⟩:=rd.list_inv
 have O:a::F=b::G0:=eF
 cases O
 have A:=Ax.mp h.sep
 have j:=Ax.mp A.2
 have B:=A.1 _ Ab
 have t:Ph (DV.dat g e)=false:=by cases g <;> first | rfl | exact absurd rfl hy
 have C:Ph (DV.dat m (.list J))=false:=by cases m <;> first | rfl | cases L
 have N:a∉F:=by
  cases m with
  | ow=>exact (Cg.mp (Y rfl)).1
  | tp=>exact ht rfl a F rfl
  | sh=>cases L
  | pk=>cases L
 have D:a∈cells ⟨v,.dat m (.list J),a::F⟩:=by
  cases m <;> first | exact Ab | cases L
 have T:a∉p:=B.1 (.inl t) a D
 have s:a∉G:=λz=>(U a z).elim N T
 have kp:∀{W:List Addr},a∉W->Kp W H (upd H a (.lst ys)):=λ{W} hF b o q z=>by
  have : b≠a:=by
   rintro rfl
   rw[ha] at q
   cases q
   rcases z with z | z
   ·exact hF z
   ·rcases z with ⟨_,z⟩ | ⟨_,_,z⟩ <;> cases z
  rw[Fi this]
  exact q
 have P:d a=none:=by
  rcases h.new _ Ab a D with z | z
  ·exact z
  ·cases z.2
 have Z:∀c∈cells ⟨v,.dat (mmd m g) (.list es),a::G⟩,c∈cells ⟨v,.dat m (.list J),a::F⟩\/c∈cells ⟨some w,.dat g e,p⟩:=λc i=>by
  by_cases I:m=.ow/\g=.ow
  ·obtain ⟨rfl,rfl⟩:=I
   rcases An.mp (show c∈a::G from i) with z | z
   ·rw[z]; exact .inl D
   ·rcases U c z with z | z
    ·exact .inl (Ad _ z)
    ·exact .inr z
  ·have R:c∈[a]:=by
    cases m <;> cases g <;> first | exact i | exact absurd ⟨rfl,rfl⟩ I
   rw[Al.mp R]; exact .inl D
 refine ⟨λf hf=>?_,?_,λf hf=>?_,λb o nx q=>?_,λb o q=>?_,λb hb=>?_⟩
 ·rcases An.mp hf with rfl | hf
  ·refine ⟨.ref a,hv,.lst El hz (r.kp (kp s)),λz=>?_,λz c l e=>?_⟩
   ·have I:m=.ow/\g=.ow:=by
     cases m <;> cases g <;> first | exact ⟨rfl,rfl⟩ | cases z
    obtain ⟨rfl,rfl⟩:=I
    refine Cg.mpr ⟨s,Q (Gj.mpr ⟨(Cg.mp (Y rfl)).2,M rfl,λx hx y S e=>?_⟩)⟩
    subst e
    exact B.1 (.inl t) x (Ad _ hx) S
   ·cases e
    exact s
  ·have u:=Ad (⟨some w,.dat g e,p⟩ : Ent) hf
   exact (h.ok f (Ad _ u)).kp (kp ((A.1 f u).1 (.inl (np f hf)) a D)) (Ah _)
 ·refine Ax.mpr ⟨λf hf=>?_,j.2⟩
  have u:=Ad (⟨some w,.dat g e,p⟩ : Ent) hf
  refine ⟨λhq c i=>?_,λhq c i z=>?_⟩
  ·rcases Z c i with z | z
   ·exact (A.1 f u).1 (.inl (np f hf)) c z
   ·exact (j.1 f hf).1 (.inl (np f hf)) c z
  ·rcases An.mp z with z | z
   ·exact (A.1 f u).2 (.inl C) c i (by rw[z]; exact Ab)
   ·rcases U c z with z | z
    ·exact (A.1 f u).2 (.inl C) c i (Ad _ z)
    ·exact (j.1 f hf).2 (.inl t) c i z
 ·rcases An.mp hf with rfl | hf
  ·intro c i
   rcases Z c i with z | z
   ·rcases h.new _ Ab c z with z | z
    ·exact .inl z
    ·cases z.2
   ·rcases h.new _ (Ad _ Ab) c z with z | z
    ·exact .inl z
    ·cases z.2
  ·exact h.new f (Ad _ (Ad _ hf))
 ·rw[Fi (Gc q P)]
  exact h.same b o nx q
 ·rw[Fi (Gc q P)]
  exact h.dom b o q
 ·obtain ⟨z,c,k,f,h1,h2⟩:=h.xd b hb
  refine ⟨z,c,k,f,(Fi ?_).trans h1,h2⟩
  rintro rfl
  exact z P
end
theorem rO{K:PySem.W.Frag}{C H:Hp}{X:Addr->Prop}{S T:List Ent}{d:DS}{i:Nat}{m g:Md}{b:List Ae}{e:Ae}{w:V}{l:List Addr}(o:Sl S d)(J:∀e∈T,Ph e.x=false)(p:At K C X d.n (S++⟨some w,.dat g e,l⟩::T) H)(U:d.sl[i]? = some (.dat m (.list b)))(O:own1 m=true)(Y:g≠.pk)(np:npk d.sl=true)(hl:b.length<1000000):∃a xs,(vs S)[i]? = some (some (.ref a))/\H a=some (.lst xs)/\xs.length=b.length/\∃r,vs r=vs S/\Sl r ⟨d.sl.set i (.dat (mmd m g) (.list (b++[e]))),d.n⟩/\At K C X d.n (r++T) (upd H a (.lst (xs++[w]))):=by
 obtain ⟨k,h,Q⟩:=Jd o U
 have L:k∈S:=Aw h
 obtain ⟨u,x,F⟩:=k
 have t:x=.dat m (.list b):=Q
 subst t
 obtain ⟨v,B,rd,_⟩:=p.ok _ (Ap _ L)
 obtain ⟨a,xs,G,rfl,E,A,M,Z⟩:=rd.list_inv
 have q:F=a::G:=M
 subst q
 have y:=p.told mem_mid
 refine ⟨a,xs,by rw[Ls h]; exact congrArg some B,E,A.len,?_⟩
 have N:=lU o np
 have P:(S++⟨some w,.dat g e,l⟩::T).Perm (⟨u,.dat m (.list b),a::G⟩::⟨some w,.dat g e,l⟩::(S.eraseIdx i++T)):=by
  refine ((Jn h).append_right _).trans ?_
  rw[Ha]
  exact Pd _ Gz
 have R:=(p.perm P).merge (es:=b++[e]) (ys:=xs++[w]) (G:=G++l) O Y B (λf hf=>?_) (A.snoc y) (λc I=>Ba.mp I) (λz=>z) (by rw[Bh]; exact pF (by simp; omega))
 ·refine ⟨S.set i ⟨u,.dat (mmd m g) (.list (b++[e])),a::(G++l)⟩,?_,?_,R.perm ?_⟩
  ·unfold vs
   rw[Iw]
   apply Gk
   intro j
   rw[Iz]
   split
   ·rename_i s
    subst s
    rw[Br,h]
    split
    ·rfl
    ·rename_i D
     rw[Ac] at D
     exact absurd (Ai.mp h).1 D
   ·rfl
  ·unfold Sl at o ⊢
   rw[Iw,o]
  ·exact ((Tw h).append_right T).symm
 ·rcases Ba.mp hf with hf | hf
  ·exact N f ((Nv S i).subset hf)
  ·exact J f hf
def appOB(i:Nat)(y:DV)(a:DS)(D:DEnds):Prop:=match a.sl[i]?,y with
 | some (.dat m (.list ds)),.dat my e=>own1 m=true/\npk a.sl=true/\my≠.pk/\ds.length<1000000/\D.nx ⟨a.sl.set i (.dat (mmd m my) (.list (ds++[e]))),a.n⟩
 | _,_=>False
def dS(i:Nat)(c:DE):DB:=λD b=>match b.sl[i]? with
 | some (.dat _ (.list _))=>c b λy a=>appOB i y a D
 | _=>False
section
variable{X:Cx}{o e:Expr}{f:DE}{d c pos:Pos}{i:Nat}
theorem sE(ho:PE X o (fF i))(he:Fk X e f)(k:Pw o "append" X.env (eval o X.env)=eval o X.env:=by rfl)
  (p:((Jr c (Cc [e] X.env)).all (λx=>!x.1) && (backToKw c (Tn [] X.env)).all (λx=>x.1.isSome)
   && decide (([e]:List Expr).length+([]:List Px).length+(if ([]:List Px).isEmpty then 0 else 1)<30))=true:=by rfl)
  (j:(d.endLine == c.line)=true:=by rfl) (M:Cc [e] X.env=(false,eval e X.env)::Cc [] X.env:=by rfl) (g:(Jr c (Cc [] X.env)).any (·.1)=false:=by rfl)
  (t:Mc (.Call (.Attribute o "append" d) [e] [] c) none pos.line X.env=pure false:=by rfl) :
  oX X (.Expr (.Call (.Attribute o "append" d) [e] [] c) pos) (dS i f):=by
 refine PS.impD (kY (o5 PySem.F.plainAttrs_list PySem.F.slot_list_append PySem.F.type_list_append Tv ho (Jc he Qm M) k p j M g) t) λD σ H h=>?_
 obtain ⟨H0,Y,S,T,δ,P,rfl,J,hT,K,s,k1,k2,k3,k4⟩:=h
 unfold dS at s
 split at s
 case h_2=>exact s.elim
 rename_i m0 B I
 obtain ⟨q,C,e3⟩:=Jd J I
 have hm:q∈S:=Aw C
 obtain ⟨u,x,F⟩:=q
 have E:x=.dat m0 (.list B):=e3
 subst E
 obtain ⟨v,L,rd,_⟩:=K.ok _ (Ap _ hm)
 obtain ⟨a,W,G,rfl,Q,ra,eF,hz⟩:=rd.list_inv
 refine ⟨.ref a,by rw[Ls C]; exact congrArg some L,.inl ⟨rfl,W,Ux.of Q⟩,H0,Y,S,T,δ,_,rfl,J,K,s,λy R w F1 S1 H1 N e5 z l=>?_⟩
 unfold appOB at l
 split at l
 ·rename_i m ds my e' r
  obtain ⟨l,p2,p3,p4,U⟩:=l
  obtain ⟨b,A,O,g2,g3,Z,h1,h2,h3⟩:=rO e5 hT z r l p3 p2 p4
  rw[N,Ls C] at O
  have : some (V.ref b)=some (V.ref a):=(Cn O).symm.trans L
  cases this
  refine ⟨a,A,w,rfl,rfl,g2,Cm (by omega) (pF (n:=1000000) (Ah _)),?_⟩
  rw[<- N,<- h1]
  exact k1 ⟨_,_⟩ Z _ h2 h3 U
 ·exact l.elim
end
end DL
namespace Nd
open PySem PySem.Spec PyProof.Rows L2
end Nd
namespace DL
open PySem PySem.Spec PyProof.Rows L2 Nd
def MO(n:Nat)(b:yX):DG:=λx a P=>match x with
 | .dat m (.list ds)=>ds.length=n/\b (ds.map λd=>.dat (Os m) d) a P
 | _=>False
def cJ:D2:=λx y P=>match x,y with
 | .dat m (.list ds),.dat m' (.list es)=>m≠.pk/\m'≠.pk/\ds.length+es.length<=1000000/\P (.dat .tp (.list (ds++es)))
 | _,_=>False
theorem Z5{m:Md}{d:Ae}(h:m≠.pk):Ph (.dat m d)=false:=by cases m <;> first | rfl | exact absurd rfl h
theorem N4{K:PySem.W.Frag}:jS K AZ cJ:=by
 intro H0 X n S T x y v w F G H Q P d i k
 unfold cJ at i
 split at i
 ·rename_i m R Z V
  obtain ⟨J,M,hz,p⟩:=i
  obtain ⟨b,C,s,rfl,L,u,rfl,_⟩:=(d.told mem_mid).list_inv
  obtain ⟨a,r,D,rfl,E,o,rfl,_⟩:=(d.told Fm).list_inv
  have Y:=o.len
  have l2:=u.len
  refine ⟨a,b,r,C,rfl,rfl,E,L,pF (by omega),λq j=>?_⟩
  have B:=Gn j (.lst (r++C))
  have U:=Ax.mp d.mid.sep
  have O:=Ax.mp d.drop.mid.sep
  have A:∀f∈S++_::_::T,q∉f.F:=d.free j
  have I:q∉s:=λz=>A _ mem_mid (Ad _ z)
  have N:q∉D:=λz=>A _ Fm (Ad _ z)
  have t:=d.drop2.free j
  refine k _ _ _ _ (((d.drop2.grow (n':=n) B (Ah _)).push (e:=⟨some (.ref q),.dat .tp (.list (R++V)),q::(D++s)⟩) ⟨_,rfl,.lst El (by rw[Bh]; exact pF (by omega)) ((o.app u).kp (Kp.of B)),λz=>(nomatch z),λ_ a l e=>?_⟩ (λf h=>⟨λ_ c g z=>?_,λ_ c g z=>?_⟩) λc g=>?_).tomid) p
  ·cases e
   exact λz=>(Ba.mp z).elim N I
  ·rw[Al.mp g] at z
   exact t f h z
  ·rcases An.mp z with z | z
   ·rw[z] at g
    exact t f h (Ht _ _ g)
   ·rcases Ba.mp z with z | z
    ·exact (O.1 f h).2 (.inl (Z5 J)) c g (Ad _ z)
    ·exact (U.1 f ((Eb S).append (Dr _ T) |>.subset h)).2 (.inl (Z5 M)) c g (Ad _ z)
  ·rw[Al.mp g]
   exact .inl (d.new0 j)
 ·exact i.elim
theorem R5{X:Cx}{a b:Expr}{d c:DE}{pos:Pos}(e:Fk X a d)(hb:Fk X b c):Fk X (.BinOp a .Add b pos) (Vf cJ d c):=Xk K0 N4 e hb
end DL
namespace Nd
open PySem PySem.Spec PyProof.Rows
section
variable{prog:Bp}{w:World}{i:Type}[DecidableEq i](knd:HeapKind prog w i)
def DictE(h:Heap)(d:Addr)(xs:List (i×Addr×Value)):Prop :=
 ∃(o:Obj) (a:Array DictEntry) (b:Nat),h.get? d=some o/\o.ExactDict/\o.data=.dict a b/\a.toList=xs.map (fT knd)/\(∀x∈xs,knd.is h x.1 x.2.1)/\(xs.map (·.1)).Nodup/\b=a.size
variable{knd}
theorem DictE.of{h:Heap}{d:Addr}{xs:List (i×Addr×Value)}(x:DictE knd h d xs):h.DictOfH knd d xs:=let ⟨o,es,ep,a,b,c,e,f,g,_⟩:=x; ⟨o,es,ep,a,b,c,e,f,g⟩
variable{A:Cw}{E:Value->Ak->Prop}{s:Ak}{d a:Addr}{xs:List (i×Addr×Value)}{k:i}{v:Value}
theorem yN{xs:List (i×Addr×Value)}{k:i}{a:Addr}{v:Value}(c:(xs.map (·.1)).Nodup)(f:k∉xs.map (·.1)):((xs++[(k,a,v)]).map (·.1)).Nodup:=by
 rw[Bn,List.nodup_append]
 refine ⟨c,by simp,λx d y b e=>f ?_⟩
 rw[Au,Nc,Al] at b
 have b:y=k:=b
 rw[<- b,<- e]
 exact d
theorem zQ{o:Obj}{es:Array DictEntry}{ep:Nat}{h:Heap}(c:h.get? d=some o)(j:o.ExactDict)(hd:o.data=.dict es ep)(l:es.toList=xs.map (fT knd))(e:∀x∈xs,knd.is h x.1 x.2.1)(n:(xs.map (·.1)).Nodup)(f:ep=es.size)(b:knd.is h k a)(g:atKey xs k=none)(i:k∉xs.map (·.1)):DictE knd (h.update d (Obj.mapDictKeys λes=>es.push ⟨knd.hash k,.ref a,v⟩)) d (storedH xs k a v):=by
 rw[storedH_new g]
 refine ⟨_,_,ep+1,Fs _ c (Obj.isFreed_of_dict (Obj.data_mapDictKeys hd _)),j.mapDictKeys _,Obj.data_mapDictKeys hd _,by simp [l,fT],λx m=>?_,yN n i,by rw[f,Array.size_push]⟩
 rcases Ba.mp m with z | z
 ·exact knd.keeps (e x z) c hd (Bs ..)
 ·rw[Al.mp z]
  exact knd.keeps b c hd (Bs ..)
theorem B3{Q:Unit->Ak->Prop}(r:knd.room A)(b:knd.is s.heap k a)(D:DictE knd s.heap d xs)(q:∀h',DictE knd h' d (storedH xs k a v)->Fu d s.heap h'->Q () { s with heap:=h',toks:=s.toks+knd.draws k })(hz:xs.length<=Bf):wpAny (model prog w) A (dictSet d (.ref a) v) Q E s:=by
 obtain ⟨o,B,G,g,t,f,m,c,h,i⟩:=D
 unfold dictSet
 try with_reducible refine Dn ?_
 refine Aa (knd.pyHash r b ?_)
 unfold dictSetHashed
 try with_reducible refine Dn ?_
 refine Aa (wpAny_dictFind_heap (s:={ s with toks:=s.toks+knd.draws k }) r b g f m c h (λz=>?_) λj p n=>?_)
 ·exact Aa (fP (wpAny_updateDictKeys (hz:=by have e:=size_of_entries m; omega) (s:={ s with toks:=s.toks+knd.draws k }) g f (q _ (zQ g t f m c h i b (atKey_none_of_get z) (not_mem_keys_of_get z)) (Bs ..))))
 ·refine Aa (fP (Aa (wpAny_updateDict (s:={ s with toks:=s.toks+knd.draws k }) g f (wpAny_point (q _ ?_ (Bs ..))))))
  rw[storedH_old (atKey_of_get h n)]
  refine ⟨_,_,G,Fs _ g (Obj.isFreed_of_dict (Obj.data_mapDict f _)),t.mapDict _,Obj.data_mapDict f _,?_,λx F=>?_,by rw[keys_map_putAt]; exact h,by rw[i]; simp⟩
  ·have u:=modify_map_putAt (fT knd) (λe:DictEntry=>{ e with val:=v }) k v (λ_ _=>rfl) h n
   rw[<- m] at u
   obtain ⟨l⟩:=B
   simpa using u
  ·obtain ⟨y,C,rfl⟩:=Bl.mp F
   unfold putAt
   split <;> exact knd.keeps (c y C) g f (Bs ..)
theorem setItemE{Q:Unit->Ak->Prop}(g:knd.room A.in1)(c:knd.is s.heap k a)(f:DictE knd s.heap d xs)(q:∀h',DictE knd h' d (storedH xs k a v)->Fu d s.heap h'->Q () { s with heap:=h',toks:=s.toks+knd.draws k })(hz:xs.length<=Bf):wpAny (model prog w) A (setItem (.ref d) (.ref a) v) Q E s:=by
 have e:=f.of.typeIs
 unfold setItem
 try with_reducible refine Dn ?_
 refine Aa (jF e (by decide) ?_)
 refine Aa (Gf (name:=Fv "__setitem__") e slot_dict_setitem (Es slot_dict_setitem e entry_dict_setitem ?_ (args_dict_setitem _ _ _)))
 show wpAny _ _ (bind (Builtin.Dict.notOrdered "__setitem__" ⟨[.ref d,.ref a,v],[]⟩) _) _ _ s
 refine Aa (wpAny_notOrdered_dict e ?_)
 show wpAny _ _ (bind (dictSet d (.ref a) v) _) _ _ s
 exact Aa (B3 g c f (λh' a b=>Ag ⟨.none,rfl,Ag (q h' a b)⟩) hz)
end
end Nd
namespace L2
open PySem PySem.Spec PyProof.Rows
section
variable{a:Type}[DecidableEq a]
def Zl(b:List (a×V))(k:a):Option V:=(b.find? λc=>decide (c.1=k)).map (·.2)
def Xe(b:List (a×V))(k:a)(v:V):List (a×V) :=
 if (b.any λc=>decide (c.1=k))=true then b.map (λc=>if c.1=k then (c.1,v) else c) else b++[(k,v)]
theorem Xz{p:a×V}{r:List (a×V)}{k:a}(e:p.1=k):Zl (p::r) k=some p.2:=by simp [Zl,Kd,e]
theorem Xc{p:a×V}{r:List (a×V)}{k:a}(e:¬ p.1=k):Zl (p::r) k=Zl r k:=by simp [Zl,Kd,e]
theorem oA(k:a):∀b:List (a×V),(b.any λkv=>decide (kv.1=k))=(Zl b k).isSome
 | []=>rfl
 | p::r=>by
  rw[Ma]
  by_cases e:p.1=k
  ·simp only[Xz e,decide_eq_true e,Bool.true_or,Option.isSome_some]
  ·rw[Xc e,decide_eq_false e,Bool.false_or]; exact oA k r
theorem aI(b:List (a×V))(k:a)(v:V):(Xe b k v).length<=b.length+1:=by
 unfold Xe
 split
 ·rw[Ac]; omega
 ·rw[Bh,Bd,Kc]; omega
theorem rJ.isSome_eq{o:Option V}{u:Option Value}(r:rJ o u):o.isSome=u.isSome:=by
 cases o with
 | none=>cases u with
  | none=>rfl
  | some _=>exact (show False from r).elim
 | some _=>cases u with
  | none=>exact (show False from r).elim
  | some _=>rfl
theorem KV.val{c:List (a×V)}{vs:List (a×Value)}(r:KV c vs)(k:a):rJ (Zl c k) (valueAt vs k):=by
 unfold KV at r
 induction r with
 | nil=>exact Ml
 | @cons p q l d h t j =>
  obtain ⟨g,i⟩:=h
  by_cases e:p.1=k
  ·have f:q.1=k:=g.symm.trans e
   have b:valueAt (q::d) k=some q.2:=by simp [valueAt,Kd,f]
   rw[Xz e,b]; exact i
  ·have f:¬ q.1=k:=λz=>e (g.trans z)
   have b:valueAt (q::d) k=valueAt d k:=by simp [valueAt,Kd,f]
   rw[Xc e,b]; exact j
theorem KV.any{b:List (a×V)}{vs:List (a×Value)}(r:KV b vs)(k:a):(b.any λkv=>decide (kv.1=k))=vs.any λkv=>decide (kv.1=k):=by
 unfold KV at r
 induction r with
 | nil=>rfl
 | cons h t c=>rw[Ma,Ma,c,h.1]
theorem KV.repl{b:List (a×V)}{vs:List (a×Value)}(r:KV b vs)(k:a){y:V}{u:Value}(d:RelV y u):KV (b.map λkv=>if kv.1=k then (kv.1,y) else kv) (vs.map λkv=>if kv.1=k then (kv.1,u) else kv):=by
 unfold KV at r ⊢
 induction r with
 | nil=>exact .nil
 | @cons p q i j h t g =>
  rw[Au,Au]
  refine .cons ?_ g
  obtain ⟨c,f⟩:=h
  by_cases e:p.1=k
  ·rw[if_pos e,if_pos (c.symm.trans e)]; exact ⟨c,d⟩
  ·rw[if_neg e,if_neg (λz=>e (c.trans z))]; exact ⟨c,f⟩
theorem KV.put{b:List (a×V)}{vs:List (a×Value)}(r:KV b vs)(k:a){y:V}{u:Value}(c:RelV y u):KV (Xe b k y) (stored vs k u):=by
 unfold Xe stored
 rw[r.any k]
 by_cases e:(vs.any λd=>decide (d.1=k))=true
 ·rw[if_pos e,if_pos e]; exact r.repl k c
 ·rw[if_neg e,if_neg e]; exact Paired.snoc r ⟨rfl,c⟩
theorem KV.length{b:List (a×V)}{vs:List (a×Value)}(r:KV b vs):b.length=vs.length:=Paired.length r
end
theorem vB{P:Bp}{w:World}{k:Lx}{u:Value}(r:RelV (kV k) u):(Jm P w).is k u=true:=by
 cases k with
 | inl i=>obtain ⟨t,e⟩:=(show ∃t,u=Ld i t from r); subst e; exact pO P w i t
 | inr x=>obtain ⟨t,e⟩:=(show ∃t,u=Value.str x t from r); subst e; exact oN P w x t
theorem iU{P:Bp}{w:World}:∀{ks:List Lx} {us:List Value},Fz (ks.map kV) us->ItemsAre (Jm P w) ks us
 | [],_,r=>by rw[Nc] at r; cases r; exact .nil
 | k::ks,_,r=>by
  rw[Au] at r
  cases r with
  | cons h t=>exact .cons (vB h) (iU t)
abbrev KT(H:Hp):List (List Lx×V)->List (List Lx×Addr×Value)->Prop:=Paired λp q=>p.1=q.1/\H q.2.1=some (.tup (p.1.map kV))/\RelV p.2 q.2.2
theorem KT.val{H:Hp}{a:List (List Lx×V)}{xs:List (List Lx×Addr×Value)}(r:KT H a xs)(k:List Lx):rJ (Zl a k) ((atKey xs k).map (·.2)):=by
 induction r with
 | nil=>exact Ml
 | @cons p q j c h t i =>
  obtain ⟨f,_,g⟩:=h
  by_cases e:p.1=k
  ·have d:q.1=k:=f.symm.trans e
   have b:atKey (q::c) k=some q.2:=by simp [atKey,Kd,d]
   rw[Xz e,b]; exact g
  ·have d:¬ q.1=k:=λz=>e (f.trans z)
   have b:atKey (q::c) k=atKey c k:=by simp [atKey,Kd,d]
   rw[Xc e,b]; exact i
theorem KT.repl{H:Hp}{a:List (List Lx×V)}{xs:List (List Lx×Addr×Value)}(r:KT H a xs)(k:List Lx){y:V}{u:Value}(d:RelV y u):KT H (a.map λkv=>if kv.1=k then (kv.1,y) else kv) (xs.map (putAt k u)):=by
 induction r with
 | nil=>exact .nil
 | @cons p q i j h t g =>
  rw[Au,Au]
  refine .cons ?_ g
  obtain ⟨b,c,f⟩:=h
  unfold putAt
  by_cases e:p.1=k
  ·rw[if_pos e,if_pos (b.symm.trans e)]; exact ⟨b,c,d⟩
  ·rw[if_neg e,if_neg (λz=>e (b.trans z))]; exact ⟨b,c,f⟩
theorem KT.put{H:Hp}{a:List (List Lx×V)}{xs:List (List Lx×Addr×Value)}(r:KT H a xs)(k:List Lx){b:Addr}{y:V}{u:Value}(hb:H b=some (.tup (k.map kV)))(c:RelV y u):KT H (Xe a k y) (storedH xs k b u):=by
 have e:(a.any λd=>decide (d.1=k))=(atKey xs k).isSome:=by
  rw[oA,(r.val k).isSome_eq,Option.isSome_map]
 unfold Xe storedH
 rw[e]
 by_cases q:(atKey xs k).isSome=true
 ·rw[if_pos q,if_pos q]; exact r.repl k c
 ·rw[if_neg q,if_neg q]; exact Paired.snoc r ⟨rfl,hb,c⟩
theorem KT.keeps{H c:Hp}{a:List (List Lx×V)}{xs:List (List Lx×Addr×Value)}(r:KT H a xs)(d:∀b ys,H b=some (.tup ys)->c b=some (.tup ys)):KT c a xs :=
 Paired.mapP r λ_ _ z=>⟨z.1,d _ _ z.2.1,z.2.2⟩
section
variable{P:Bp}{w:World}{H:Hp}{h:Heap}{a:Addr}
theorem B4{u:HO}(ok:Xs P w H h)(e:Rd H a u):Hx P w H h a u:=e.ok ok
theorem tZ{b:List (Lx×V)}(ok:Xs P w H h)(e:Rd H a (.dK b)):b.length<=Bf/\(a == Lu)=false/\∃vs,KV b vs/\h.DictOf (Jm P w) a vs :=
 show Hx P w H h a (.dK b) from B4 ok e
theorem GY{b:List (Lx×V)}(ok:Xs P w H h)(e:H a=some (.dK b)):b.length<=Bf/\(a == Lu)=false/\∃vs,KV b vs/\h.DictOf (Jm P w) a vs:=tZ ok (.inl e)
theorem dN{ks:List Lx}(ok:Xs P w H h)(e:H a=some (.tup (ks.map kV))):(bD (Jm P w)).is h ks a:=by
 obtain ⟨_,b,r,o,c,f,n,d⟩:=(show Hx P w H h a (.tup (ks.map kV)) from ok a _ e)
 exact ⟨o,b.toArray,n,c,f,d,by simpa using iU r⟩
theorem A0{b:List (List Lx×V)}(ok:Xs P w H h)(e:Rd H a (.dT b)):b.length<=Bf/\(a == Lu)=false/\∃xs,KT H b xs/\h.DictOfH (bD (Jm P w)) a xs:=by
 obtain ⟨z,y,xs,r,o,d,k,f,n,i,g,j,u⟩:=(show Hx P w H h a (.dT b) from B4 ok e)
 refine ⟨z,y,xs,r,o,d,k,f,n,i,g,λx hx=>?_,j⟩
 have all:∀{l:List (List Lx×V)} {m:List (List Lx×Addr×Value)},KT H l m->∀x∈m,(bD (Jm P w)).is h x.1 x.2.1:=by
  intro l m q
  induction q with
  | nil=>intro x hx; exact nomatch hx
  | @cons p q v A c t s =>
   intro x hx
   rcases An.mp hx with e | hx
   ·subst e
    exact dN ok (by rw[<- c.1]; exact c.2.1)
   ·exact s x hx
 exact all r x hx
theorem BW{b:List (List Lx×V)}(ok:Xs P w H h)(e:Rd H a (.dT b)):b.length<=Bf/\(a == Lu)=false/\∃xs,KT H b xs/\Nd.DictE (bD (Jm P w)) h a xs:=by
 obtain ⟨z,y,xs,r,o,d,n,g,s,j,i,k,f⟩:=(show Hx P w H h a (.dT b) from B4 ok e)
 refine ⟨z,y,xs,r,o,d,n,g,s,j,i,λx hx=>?_,k,f⟩
 have all:∀{l:List (List Lx×V)} {m:List (List Lx×Addr×Value)},KT H l m->∀x∈m,(bD (Jm P w)).is h x.1 x.2.1:=by
  intro l m q
  induction q with
  | nil=>intro x hx; exact nomatch hx
  | @cons p q v A c t u =>
   intro x hx
   rcases An.mp hx with e | hx
   ·subst e
    exact dN ok (by rw[<- c.1]; exact c.2.1)
   ·exact u x hx
 exact all r x hx
end
def pT(H:Hp)(a:Addr)(y:V)(r:Option V):Prop :=
 (∃c k,Rd H a (.dK c)/\y=kV k/\r=Zl c k)\/∃c k b,Rd H a (.dT c)/\y=.ref b/\H b=some (.tup (k.map kV))/\r=Zl c k
def BX(H:Hp)(a:Addr)(y v:V)(d:Hp):Prop :=
 (∃c k,H a=some (.dK c)/\y=kV k/\c.length<Bf/\d=upd H a (.dK (Xe c k v))) \/
 ∃c k b,H a=some (.dT c)/\y=.ref b/\H b=some (.tup (k.map kV))/\c.length<Bf/\d=upd H a (.dT (Xe c k v))
theorem pT.t{H:Hp}{a b:Addr}{c:List (List Lx×V)}{k:List Lx}(e:H a=some (.dT c))(d:H b=some (.tup (k.map kV))):pT H a (.ref b) (Zl c k):=.inr ⟨c,k,b,.inl e,rfl,d,rfl⟩
theorem BX.t{H:Hp}{a b:Addr}{c:List (List Lx×V)}{k:List Lx}{v:V}(e:H a=some (.dT c))(d:H b=some (.tup (k.map kV)))(hl:c.length<Bf):BX H a (.ref b) v (upd H a (.dT (Xe c k v))):=.inr ⟨c,k,b,e,rfl,d,hl,rfl⟩
section
variable{X:Cx}{d:List (Addr×Obj)}{σ:St}{H:Hp}{s:Ak}{a:Addr}{y v:V}{u r:Value}{o:Option V}{A:Cw}{E:Value->Ak->Prop}
theorem Inv.big(I:Inv X d σ H s):Lu<s.heap.objs.size:=by
 have h:Dd<s.heap.objs.size:=(I.mod.glob.keeps I.bk).lt
 exact Uu (by decide) h
theorem yR{Q:Value->Ak->Prop}(C:A.units+1<cLine)(I:Inv X d σ H s)(g:pT H a y (some v))(t:RelV y u)(h:∀i s',Inv X d σ H s'->RelV v i->Q i s'):wpAny (model X.prog X.w) A (Tp (.ref a) u) Q E s:=by
 rcases g with ⟨m,k,e,q,l⟩ | ⟨m,k,b,e,q,x,l⟩
 ·subst q
  obtain ⟨z,F,vs,f,n⟩:=tZ I.hok e
  obtain ⟨i,r,c⟩:=rJ.some_of (v:=v) (o:=valueAt vs k) (by rw[l]; exact f.val k)
  exact wpAny_getItem_of (vB t) n.mapOf r (h i _ (I.tok _) c)
 ·subst q
  cases (show u=Aq b from t)
  obtain ⟨z,F,D,f,n⟩:=A0 I.hok e
  obtain ⟨i,r,c⟩:=rJ.some_of (v:=v) (o:=(atKey D k).map (·.2)) (by rw[l]; exact f.val k)
  obtain ⟨p,B,j⟩:=Option.map_eq_some_iff.mp r
  refine wpAny_getItem_heap (fR C) (dN I.hok x) n B ?_
  rw[j]
  exact h i _ (I.tok _) c
theorem LC{Q:Value->Ak->Prop}(r:A.units+1<cLine)(I:Inv X d σ H s)(g:pT H a y o)(n:RelV y u)(h:∀s',Inv X d σ H s'->Q (.bool o.isSome) s'):wpAny (model X.prog X.w) A (Hh .In u (.ref a)) Q E s:=by
 rcases g with ⟨f,k,e,m,l⟩ | ⟨f,k,b,e,m,p,l⟩
 ·subst m
  obtain ⟨z,i,vs,c,j⟩:=tZ I.hok e
  refine wpAny_in_of (vB n) i j.mapOf ?_
  rw[<- (c.val k).isSome_eq,<- l]
  exact h _ (I.tok _)
 ·subst m
  cases (show u=Aq b from n)
  obtain ⟨z,i,t,c,j⟩:=A0 I.hok e
  refine wpAny_in_heap (fR r) (dN I.hok p) i j ?_
  have q:=(c.val k).isSome_eq
  rw[Option.isSome_map] at q
  rw[<- q,<- l]
  exact h _ (I.tok _)
theorem uA{h':Heap}{t':Nat}{f:HO}(I:Inv X d σ H s)(g:IT (H a))(h:Fu a s.heap h')(j:∃q,h'.get? a=some q)(c:Hx X.prog X.w (upd H a f) h' a f):Inv X d σ (upd H a f) { s with heap:=h',toks:=t' } :=
 I.write (x:=a) (e:=a) g (.inl rfl) (λb q i z=>(h.2 b i).trans z) j c
theorem EI{P:Bp}{w:World}{e:Hp}{h':Heap}{b:List (Lx×V)}{vs:List (Lx×Value)}(z:b.length<=Bf)(hd:(a == Lu)=false)(c:KV b vs)(d:h'.DictOf (Jm P w) a vs):Hx P w e h' a (.dK b):=⟨z,hd,vs,c,d⟩
theorem wO{K:Hp}{Q:Unit->Ak->Prop}(M:A.units+1<cLine)(I:Inv X d σ H s)(g:BX H a y v K)(C:RelV y u)(F:RelV v r)(h:∀s',Inv X d σ K s'->Q () s'):wpAny (model X.prog X.w) A (setItem (.ref a) u r) Q E s:=by
 rcases g with ⟨f,k,e,x,l,n⟩ | ⟨f,k,b,e,x,J,l,n⟩
 ·subst x n
  obtain ⟨z,p,vs,i,t⟩:=GY I.hok e
  have hz:vs.length<=Bf:=by rw[<- i.length]; exact z
  have B:(Xe f k v).length<=Bf:=by have:=aI f k v; omega
  refine wpAny_setItem_pairs (hsz:=hz) (vB C) t λD j o=>h _ ?_
  have P:∃q,D.get? a=some q:=let ⟨q,_,_,m,_⟩:=j; ⟨q,m⟩
  exact uA I (by rw[e]; exact Ml) o P (EI B p (i.put k F) j)
 ·subst x n
  cases (show u=Aq b from C)
  obtain ⟨z,p,L,i,t⟩:=BW I.hok (.inl e)
  have hz:L.length<=Bf:=by rw[<- Paired.length i]; exact z
  have B:(Xe f k v).length<=Bf:=by have:=aI f k v; omega
  refine Nd.setItemE (hz:=hz) (fR M) (dN I.hok J) t λD j o=>h _ ?_
  obtain ⟨q,R,T,m,U,S,N,_,O⟩:=j
  refine uA I (by rw[e]; exact Ml) o ⟨q,m⟩ ⟨B,p,_,(i.put k J F).keeps λc V G=>?_,q,R,T,m,U,S,N,O⟩
  rw[Fi (FX G e (λz=>nomatch z))]
  exact G
end
def DK(i:Expr):Prop:=∀b a,subscripted i false b a=operate [b,a] (Tp b a)
theorem T6{prog:Bp}{w:World}{A:Cw}{E:Value->Ak->Prop}{s:Ak}{env:Env}{b a:Expr}{pos:Pos}{T id:String}{Q:Value->Ak->Prop}(hl:typeLookup (.type T) "__getitem__" = pure (some (.builtin id)))(m:DK a)(h:wpAny (model prog w) A (eval b env) (λo e=>wpAny (model prog w) A (eval a env) (λi c=>c.TypeIs o T/\wpAny (model prog w) A (Tp o i) Q E c) E e) E s):wpAny (model prog w) A (eval (.Subscript b a pos) env) Q E s:=by
 refine Subscript_ (Hg h (λo e k=>Hg k (λi c d=>?_) λ_ _ x=>x) λ_ _ x=>x)
 obtain ⟨l,d⟩:=d
 unfold fG
 refine Aa ?_
 rw[getitemInPython_of_ne l.not_modules]
 refine Aa (wpAny_specialOf l hl ?_)
 have g:wpAny (model prog w) A (subscripted a false o i) (λr f=>wpAny (model prog w) A (letTemporaryGo b o r >>= λ_=>pure r) Q E f) E c:=by
  rw[m o i]
  exact wpAny_operating (Hg d (λr f j=>Aa (wpAny_letTemporaryGo (Ag j))) λ_ _ x=>x)
 first
  | exact Ag (Aa g)
  | exact Aa (Ag (Aa g))
  | exact Aa g
theorem oB{X:Cx}{c:List (Addr×Obj)}{σ:St}{H:Hp}{s:Ak}{a:Addr}{y:V}{o:Option V}(I:Inv X c σ H s)(g:pT H a y o):s.TypeIs (.ref a) "dict" := by
 rcases g with ⟨d,k,e,_,_⟩ | ⟨d,k,b,e,_,_,_⟩
 ·obtain ⟨_,_,vs,_,f⟩:=tZ I.hok e
  exact f.typeIs
 ·obtain ⟨_,_,h,_,f⟩:=A0 I.hok e
  exact f.typeIs
def GC(e ty:TE):TE:=λb H Q=>e b H λx d=>ty b d λy c=>∃a v,x=.ref a/\pT c a y (some v)/\Q v c
def JX(ty e:TE):TE:=λb H Q=>ty b H λy d=>e b d λx c=>∃a o,x=.ref a/\pT c a y o/\Q (.bl o.isSome) c
def GB(e ty g:TE):TS:=λD b H=>g b H λv d=>e b d λx f=>ty b f λy h=>∃a c,x=.ref a/\BX h a y v c/\D.nx b c
section
variable{X:Cx}{o i e b:Expr}{pos c f:Pos}{d ty j:TE}
theorem O8(r:X.A.units+1<cLine)(w:PE X o d)(B:PE X i ty)(q:DK i):PE X (.Subscript o i pos) (GC d ty):=by
 intro b s f H Q I h
 refine T6 PySem.F.slot_dict_getitem.lookup q (Ir (w b s f H _ I h) λu t ⟨x,E,z,n,C⟩=>Ir (B b t f E _ z C) λG J c => ?_)
 obtain ⟨y,p,j,l,a,v,m,g,D⟩ := c
 subst m
 obtain rfl:u=Aq a:=n
 exact ⟨oB j g,yR r j g l λL K k e=>⟨v,p,k,e,D⟩⟩
theorem BH(p:X.A.units+1<cLine)(v:PE X i ty)(r:PE X o d):PC X .In i o (JX ty d):=by
 intro b s e H Q I h
 refine Ir (v b s e H _ I h) λD q ⟨y,B,t,j,w⟩=>Ir (r b q e B _ t w) λu E c => ?_
 obtain ⟨x,n,C,m,a,l,k,g,z⟩ := c
 subst k
 obtain rfl:u=Aq a:=m
 exact LC p C g j λF f=>⟨.bl l.isSome,n,f,rfl,z⟩
theorem U0(E:X.A.units+1<cLine)(G:PE X o d)(L:PE X i ty)(w:PE X b j)(C:Mc b (some (.Subscript o i c)) pos.line X.env=pure false):PS X (.Assign [.Subscript o i c] b pos) (GB d ty j):=by
 intro e s f H D I h
 refine wpAny_Assign_Subscript (Ir (w e s f H _ I h) λr F ⟨v,O,K,z,M⟩=>Ir (G e F f O _ K M) λu B ⟨x,q,P,p,N⟩=>Ir (L e B f q _ P N) λQ S ⟨y,R,k,l,a,m,n,g,t⟩=>?_) C
 subst n
 obtain rfl:u=Aq a:=p
 exact wO E k g l z λT J=>⟨f,m,J,t⟩
end
theorem J6{P:Bp}{w:World}{H:Hp}(h:Heap)(hb:Lu<h.objs.size):Hx P w H (h.push { cls:=.type "dict",data:=.dict #[] }) h.objs.size (.dT []) :=
 ⟨Ds _,beq_eq_false_iff_ne.mpr (Kx (Ck hb)),[],.nil,_,#[],0,Bi _ rfl,⟨rfl,rfl,rfl⟩,rfl,rfl,Do,rfl⟩
def ET:TE:=λ_ H Q=>∀p,H p=none->Q (.ref p) (upd H p (.dT []))
section
variable{X:Cx}{pos:Pos}
theorem t9:PE X (.Dict [] [] pos) ET:=λb s c H Q I h =>
 wpAny_Dict_empty ⟨.ref s.heap.objs.size,_,I.laid (a:=s.heap.objs.size) (o:=.dT []) (t':=s.toks) (λ_ _ q=>Aj _ q) (Ah _) (J6 s.heap I.big),rfl,h _ (I.hok.fresh (Ah _))⟩
end
structure M1(X:Cx)(o:Expr)(m:Str)(apos:Pos)(e:Expr)(cpos:Pos):Prop where
 base:Pw o m X.env (eval o X.env)=eval o X.env
 few:((Jr cpos (Cc [e] X.env)).all (λx=>!x.1) && (backToKw cpos (Tn [] X.env)).all (λx=>x.1.isSome)
  && decide (([e]:List Expr).length+([]:List Px).length+(if ([]:List Px).isEmpty then 0 else 1)<30))=true
 line:(apos.endLine == cpos.line)=true
 trees:Jr cpos (Cc [e] X.env)=[(false,eval e X.env)]
structure M2(X:Cx)(o:Expr)(m:Str)(apos:Pos)(e f:Expr)(cpos:Pos):Prop where
 base:Pw o m X.env (eval o X.env)=eval o X.env
 few:((Jr cpos (Cc [e,f] X.env)).all (λx=>!x.1) && (backToKw cpos (Tn [] X.env)).all (λx=>x.1.isSome)
  && decide (([e,f]:List Expr).length+([]:List Px).length+(if ([]:List Px).isEmpty then 0 else 1)<30))=true
 line:(apos.endLine == cpos.line)=true
 trees:Jr cpos (Cc [e,f] X.env)=[(false,eval e X.env),(false,eval f X.env)]
end L2
namespace Nd
open PySem PySem.Spec PyProof.Rows L2
end Nd
namespace DL
open PySem PySem.Spec PyProof.Rows L2 Nd
def Wb(ks:List (List Int×Ae))(w:List Int):Option Ae:=(ks.find? λp=>decide (p.1=w)).map (·.2)
def xF(ks:List (List Int×Ae))(w:List Int)(d:Ae):List (List Int×Ae) :=
 if (ks.any λp=>decide (p.1=w))=true then ks.map (λp=>if p.1=w then (p.1,d) else p) else ks++[(w,d)]
theorem Xp{d e:Type}{f:d->e}(c:∀a b,f a=f b->a=b):∀{l m:List d},l.map f=m.map f->l=m
 | [],[],_=>rfl
 | [],_::_,h=>by cases h
 | _::_,[],h=>by cases h
 | a::l,b::m,h=>by
  obtain ⟨g,i⟩:=Gs h
  rw[c a b g,Xp c i]
theorem Qu{a b:List Int}(h:Bb a=Bb b):a=b:=Xp (λx y e=>by cases e; rfl) (PyData.tuple.inj h)
theorem Ue{a b:List (List Int×Ae)}(h:aD a=aD b):a=b:=Xp (λx y e=>by
 obtain ⟨d,c⟩:=Prod.mk.inj e
 exact Prod.ext (Qu d) c) (Gs h).2
theorem dH{a b:List Int}(h:On a=On b):a=b:=Xp (λx y e=>by cases e; rfl) h
theorem vQ(w:List Int):(On w).map kV=w.map V.int:=by
 unfold On
 rw[Eh]
 rfl
section
variable{K:PySem.W.Frag}{H b:Hp}
structure DRel(K:PySem.W.Frag)(H:Hp)(kv:List (List Lx×V))(ks:List (List Int×Ae)):Prop where
 key:kv.map (·.1)=ks.map λp=>On p.1
 val:RdFs K H (kv.map (·.2)) (ks.map (·.2)) []
theorem RdF.dict_inv{v:V}{X:List (Ae×Ae)}{F:List Addr}(h:RdF K H v (.dict X) F)(c:V4 X=true:=by first | rfl | assumption):∃a kv ks,v=.ref a/\X=aD ks/\H a=some (.dT kv)/\DRel K H kv ks/\F=[a]:=by
 cases h with
 | dic h e b=>exact ⟨_,_,_,rfl,rfl,h,⟨e,b⟩,rfl⟩
 | dik h e b=>cases c
 | dnm h e b=>cases c
theorem RdFs.cons_nil{x:V}{d:Ae}{xs:List V}{b:List Ae}{F:List Addr}(h:RdFs K H (x::xs) (d::b) F)(c:F=[]):RdF K H x d []/\RdFs K H xs b []:=by
 cases h with
 | cons a t =>
  obtain ⟨rfl,rfl⟩:=tF.mp c
  exact ⟨a,t⟩
theorem C0{kv:List (List Lx×V)}{ks:List (List Int×Ae)}(r:DRel K H kv ks):kv.length=ks.length:=by
 have:=congrArg Iy r.key
 simpa using this
theorem eV(w:List Int):∀{kv:List (List Lx×V)} {ks:List (List Int×Ae)},DRel K H kv ks->(Zl kv (On w)=none/\Wb ks w=none)\/∃v d,Zl kv (On w)=some v/\Wb ks w=some d/\RdF K H v d []
 | [],[],_=>.inl ⟨rfl,rfl⟩
 | [],_::_,r=>by cases r.key
 | _::_,[],r=>by cases r.key
 | (k,v)::kv,(u,d)::ks,r=>by
  obtain ⟨a,e⟩:=Gs r.key
  have a:k=On u:=a
  obtain ⟨b,f⟩:=RdFs.cons_nil r.val rfl
  by_cases h:u=w
  ·subst h a
   refine .inr ⟨v,d,Xz rfl,by simp [Wb],b⟩
  ·have c:¬ k=On w:=λz=>h (dH (a.symm.trans z))
   rw[Xc c,show Wb ((u,d)::ks) w=Wb ks w by simp [Wb,h]]
   exact eV w ⟨e,f⟩
theorem B0(w:List Int){kv:List (List Lx×V)}{ks:List (List Int×Ae)}(r:DRel K H kv ks):(kv.any λp=>decide (p.1=On w))=(ks.any λp=>decide (p.1=w)):=by
 have a:(kv.any λp=>decide (p.1=On w))=((kv.map (·.1)).any λk=>decide (k=On w)):=by rw[bI]; rfl
 rw[a,r.key,bI]
 congr 1
 funext p
 exact decide_eq_decide.mpr ⟨λz=>dH z,λz=>by show On p.1=On w; rw[z]⟩
theorem iT(w:List Int){v:V}{d:Ae}(c:RdF K H v d []):∀{kv:List (List Lx×V)} {ks:List (List Int×Ae)},DRel K H kv ks->DRel K H (kv.map λp=>if p.1=On w then (p.1,v) else p) (ks.map λp=>if p.1=w then (p.1,d) else p)
 | [],[],r=>r
 | [],_::_,r=>by cases r.key
 | _::_,[],r=>by cases r.key
 | (k,v')::kv,(u,d')::ks,r=>by
  obtain ⟨a,g⟩:=Gs r.key
  have a:k=On u:=a
  obtain ⟨e,i⟩:=RdFs.cons_nil r.val rfl
  have b:=iT w c (kv:=kv) (ks:=ks) ⟨g,i⟩
  rw[Au,Au]
  by_cases h:u=w
  ·rw[if_pos (show k=On w by rw[a,h]),if_pos h]
   exact ⟨by rw[Au,Au,b.key]; exact congrArg (·::_) a,RdFs.cons (F:=[]) (G:=[]) c b.val⟩
  ·have f:¬ k=On w:=λz=>h (dH (a.symm.trans z))
   rw[if_neg (show ¬ (k,v').1=On w from f),if_neg (show ¬ (u,d').1=w from h)]
   exact ⟨by rw[Au,Au,b.key]; exact congrArg (·::_) a,RdFs.cons (F:=[]) (G:=[]) e b.val⟩
theorem j5(w:List Int){v:V}{d:Ae}(a:RdF K H v d []){kv:List (List Lx×V)}{ks:List (List Int×Ae)}(r:DRel K H kv ks):DRel K H (Xe kv (On w) v) (xF ks w d):=by
 unfold Xe xF
 rw[B0 w r]
 split
 ·exact iT w a r
 ·refine ⟨by rw[Bn,Bn,r.key]; rfl,?_⟩
  rw[Bn,Bn]
  exact r.val.snoc a
end
def GN:R2:=λx y H Q=>∃a v,x=.ref a/\pT H a y (some v)/\Q v H
def GH(b:Bool):R2:=λy x H Q=>∃a o,x=.ref a/\pT H a y o/\Q (.bl (match b with | true=>!o.isSome | false=>o.isSome)) H
def lI:D2:=λx y P=>match x,y with
 | .dat _ (.dict X),.dat _ k=>∃a w d,X=aD a/\k=Bb w/\Wb a w=some d/\P (.dat .ow d)
 | _,_=>False
def uP(b:Bool):D2:=λy x P=>match y,x with
 | .dat _ k,.dat _ (.dict X)=>∃a w,X=aD a/\k=Bb w/\P (.dat .ow (.bool (match b with | true=>!(Wb a w).isSome | false=>(Wb a w).isSome)))
 | _,_=>False
section
variable{K:PySem.W.Frag}
theorem word_at{H:Hp}{v:V}{w:List Int}{F:List Addr}(r:RdF K H v (Bb w) F):∃b,v=.ref b/\H b=some (.tup ((On w).map kV)):=by
 obtain ⟨b,d,rfl,c,a,_⟩:=r.tup_inv
 obtain ⟨rfl,_⟩:=a.ints_inv
 exact ⟨b,rfl,by rw[vQ]; exact c⟩
theorem X5:jS K GN lI:=by
 intro A X n S T x y v w F G H Q P f e k
 unfold lI at e
 split at e
 ·obtain ⟨s,u,d,rfl,rfl,c,p⟩:=e
  obtain ⟨b,rfl,l⟩:=word_at (f.told mem_mid)
  obtain ⟨a,B,i,rfl,r,h,g,_⟩:=(f.told Fm).dict_inv
  obtain rfl:=Ue r
  rcases eV u g with ⟨_,z⟩ | ⟨q,C,j,o,m⟩
  ·rw[z] at c; cases c
  ·rw[o] at c; cases c
   exact ⟨a,q,rfl,j▸pT.t h l,k _ _ [] H (f.drop2.pushI m) p⟩
 ·exact e.elim
theorem CS{e:Bool}:jS K (GH e) (uP e):=by
 intro r X n S T x y v w F G H Q P c d k
 unfold uP at d
 split at d
 ·obtain ⟨o,u,rfl,rfl,p⟩:=d
  obtain ⟨b,rfl,l⟩:=word_at (c.told Fm)
  obtain ⟨a,s,j,rfl,m,i,h,_⟩:=(c.told mem_mid).dict_inv
  obtain rfl:=Ue m
  refine ⟨a,_,rfl,pT.t i l,?_⟩
  rcases eV u h with ⟨f,g⟩ | ⟨A,z,f,g,q⟩
  ·rw[f]
   rw[g] at p
   cases e <;> exact k _ _ [] H (c.drop2.pushI (.bl _)) p
  ·rw[f]
   rw[g] at p
   cases e <;> exact k _ _ [] H (c.drop2.pushI (.bl _)) p
 ·exact d.elim
end
section
variable{X:Cx}{a b:Expr}{d c:DE}{pos:Pos}
theorem KY{n:Nat}(a:n+64<cLine):n+1<cLine:=by omega
theorem S5(g:X.A.units+64<cLine)(e:Fk X a d)(hb:Fk X b c)(f:DK b:=by intro _ _; rfl):Fk X (.Subscript a b pos) (Vf lI d c):=PE.imp (O8 (KY g) e hb f) (iB X5)
theorem FC(f:X.A.units+64<cLine)(i:Fk X a d)(hb:Fk X b c)(e:Fx .In b=false:=by with_unfolding_all rfl):fN X (.Compare a [.In] [b] pos) (dB (Vf (uP false) d c)):=PT.imp (EL (BH (KY f) i hb) e) λg H Q h=>iB (r:=GH false) CS _ _ _ (BD g H Q h)
end
def Z7:DE:=λa P=>P (.dat .ow (.dict (aD []))) a
theorem At.newD{K:PySem.W.Frag}{g H:Hp}{X:Addr->Prop}{n:Nat}{S T:List Ent}{p:Addr}(h:At K g X n (S++T) H)(c:H p=none):At K g X n (S++⟨some (.ref p),.dat .ow (.dict (aD [])),[p]⟩::T) (upd H p (.dT [])):=by
 have j:=Gn c (.dT [])
 refine ((h.grow (n':=n) j (Ah _)).push (e:=⟨some (.ref p),.dat .ow (.dict (aD [])),[p]⟩) ⟨_,rfl,.dic El rfl .nil,λ_=>Cg.mpr ⟨Ce,Do⟩,λz=>nomatch z⟩ (λf i=>?_) λa b=>?_).tomid
 ·have d:=h.free c f i
  refine ⟨λ_ a b z=>?_,λ_ a b z=>?_⟩
  ·rw[Al.mp b] at z
   exact d z
  ·rw[Al.mp z] at b
   exact d (Ht _ _ b)
 ·rw[Al.mp b]
  exact .inl (h.new0 c)
theorem O9{X:Cx}{pos:Pos}:Fk X (.Dict [] [] pos) Z7:=by
 refine PE.imp t9 λg H Q h=>?_
 obtain ⟨f,Y,S,T,d,P,rfl,a,b,c,k⟩:=h
 exact λp e=>k _ d _ _ S _ rfl a (b.newD e) c
theorem At.writeD{K:PySem.W.Frag}{l H:Hp}{X:Addr->Prop}{n:Nat}{E:List Ent}{v:Option V}{ks ks':List (List Int×Ae)}{a:Addr}{kv':List (List Lx×V)}(h:At K l X n (⟨v,.dat .ow (.dict (aD ks)),[a]⟩::E) H)(t:v=some (.ref a))(np:∀e∈E,Ph e.x=false)(r:DRel K H kv' ks'):At K l X n (⟨v,.dat .ow (.dict (aD ks')),[a]⟩::E) (upd H a (.dT kv')):=by
 obtain ⟨w,L,rd,G,N⟩:=h.ok _ Ab
 obtain ⟨b,M,B,J,I,p,_,A⟩:=rd.dict_inv
 have i:[a]=[b]:=A
 cases i
 have g:=Ax.mp h.sep
 have kp:∀{m:List Addr},a∉m->Kp m H (upd H a (.dT kv')):=λ{m} u b o q z=>by
  have : b≠a:=by
   rintro rfl
   rw[p] at q
   cases q
   rcases z with z | z
   ·exact u z
   ·rcases z with ⟨_,z⟩ | ⟨_,_,z⟩ <;> cases z
  rw[Fi this]
  exact q
 have j:l a=none:=by
  rcases h.new _ Ab a Ab with z | z
  ·exact z
  ·cases z.2
 refine ⟨λf hf=>?_,Ax.mpr ⟨λf hf=>⟨λD c d=>(g.1 f hf).1 (.inl (np f hf)) c d,λD c d=>(g.1 f hf).2 (.inl rfl) c d⟩,g.2⟩,λf hf=>?_,λb o y q=>?_,λb o q=>?_,λb s=>?_⟩
 ·rcases An.mp hf with rfl | hf
  ·exact ⟨.ref a,t,.dic El r.key (r.val.kp (kp Ce)),λ_=>Cg.mpr ⟨Ce,Do⟩,λz=>nomatch z⟩
  ·exact (h.ok f (Ad _ hf)).kp (kp ((g.1 f hf).1 (.inl (np f hf)) a Ab)) (Ah _)
 ·rcases An.mp hf with rfl | hf
  ·exact λc d=>h.new _ Ab c d
  ·exact h.new f (Ad _ hf)
 ·rw[Fi (Gc q j)]
  exact h.same b o y q
 ·rw[Fi (Gc q j)]
  exact h.dom b o q
 ·obtain ⟨z,c,k,f,C,F⟩:=h.xd b s
  refine ⟨z,c,k,f,(Fi ?_).trans C,F⟩
  rintro rfl
  exact z j
theorem nW{K:PySem.W.Frag}{q H:Hp}{X:Addr->Prop}{S T:List Ent}{b:DS}{i:Nat}{ks ks':List (List Int×Ae)}(f:Sl S b)(y:∀e∈T,Ph e.x=false)(o:At K q X b.n (S++T) H)(G:b.sl[i]? = some (.dat .ow (.dict (aD ks))))(np:npk b.sl=true):∃a kv,(vs S)[i]? = some (some (.ref a))/\H a=some (.dT kv)/\DRel K H kv ks/\∀kv',DRel K H kv' ks'->∃h,vs h=vs S/\Sl h ⟨b.sl.set i (.dat .ow (.dict (aD ks'))),b.n⟩/\At K q X b.n (h++T) (upd H a (.dT kv')):=by
 obtain ⟨d,c,D⟩:=Jd f G
 have w:d∈S:=Aw c
 obtain ⟨u,x,F⟩:=d
 have m:x=.dat .ow (.dict (aD ks)):=D
 subst m
 obtain ⟨v,p,rd,_⟩:=o.ok _ (Ap _ w)
 obtain ⟨a,kv,B,rfl,C,t,l,z⟩:=rd.dict_inv
 obtain rfl:=Ue C
 have g:F=[a]:=z
 subst g
 refine ⟨a,kv,by rw[Ls c]; exact congrArg some p,t,l,λkv' r=>?_⟩
 have A:=lU f np
 have E:=(o.perm ((Jn c).append_right T)).writeD (ks':=ks') (kv':=kv') p (λe he=>?_) r
 ·refine ⟨S.set i ⟨u,.dat .ow (.dict (aD ks')),[a]⟩,?_,?_,E.perm ((Tw c).append_right T).symm⟩
  ·unfold vs
   rw[Iw]
   apply Gk
   intro j
   rw[Iz]
   split
   ·rename_i k
    subst k
    rw[Br,c]
    split
    ·rfl
    ·rename_i s
     rw[Ac] at s
     exact absurd (Ai.mp c).1 s
   ·rfl
  ·unfold Sl at f ⊢
   rw[Iw,f]
 ·rcases Ba.mp he with he | he
  ·exact A e ((Nv S i).subset he)
  ·exact y e he
def dputB(i:Nat)(y z:DV)(a:DS)(D:DEnds):Prop:=match a.sl[i]?,y,z with
 | some (.dat .ow (.dict X)),.dat _ e,.dat _ k=>npk a.sl=true/\imm e=true/\∃b w,X=aD b/\k=Bb w/\b.length<1000000/\D.nx ⟨a.sl.set i (.dat .ow (.dict (aD (xF b w e)))),a.n⟩
 | _,_,_=>False
def isDct:Option DV->Bool
 | some (.dat _ (.dict X))=>V4 X
 | _=>false
def Z9(i:Nat)(e d:DE):DB:=λD c=>d c λy a=>isDct a.sl[i]? = true/\e a λz b=>dputB i y z b D
section
variable{X:Cx}{o i e:Expr}{j g:DE}{f l pos c:Pos}{n:Nat}
theorem E3{K:PySem.W.Frag}{o H:Hp}{Y:Addr->Prop}{S T:List Ent}{c:DS}(i:Sl S c)(j:At K o Y c.n (S++T) H)(b:isDct c.sl[n]? = true):∃a kv,(vs S)[n]? = some (some (.ref a))/\H a=some (.dT kv):=by
 cases q:c.sl[n]? with
 | none=>rw[q] at b; cases b
 | some x =>
  rw[q] at b
  obtain ⟨d,f,l⟩:=Jd i q
  obtain ⟨u,y,F⟩:=d
  have e:y=x:=l
  subst e
  have k:(⟨u,y,F⟩ : Ent)∈S:=Aw f
  match y,b with
  | .dat m (.dict X),b =>
   have r:V4 X=true:=b
   obtain ⟨v,g,rd,_⟩:=j.ok _ (Ap _ k)
   obtain ⟨a,kv,p,rfl,_,h,_⟩:=rd.dict_inv
   exact ⟨a,kv,by rw[Ls f]; exact congrArg some g,h⟩
theorem P6(V:X.A.units+64<cLine)(Z:PE X o (fF n))(hi:Fk X i j)(he:Fk X e g)(U:Mc e (some (.Subscript o i c)) pos.line X.env=pure false:=by rfl):oX X (.Assign [.Subscript o i c] e pos) (Z9 n j g):=by
 refine PS.impD (U0 (KY V) Z hi he U) λD σ H h=>?_
 obtain ⟨I,Y,S,T,δ,P,rfl,M,W,N,hd,k1,k2,k3,k4⟩:=h
 refine ⟨I,Y,S,T,δ,_,rfl,M,N,hd,λy p v F S1 H1 K J m s=>?_⟩
 obtain ⟨s,p2⟩:=s
 obtain ⟨a,kv,q,ha⟩:=E3 J m.drop s
 rw[K] at q
 refine ⟨.ref a,q,I,Y,S1,⟨some v,y,F⟩::T,p,_,K,J,m,p2,λz h0 w G S2 H2 E e4 f l=>?_⟩
 unfold dputB at l
 split at l
 ·rename_i X0 m1 d m2 k x
  obtain ⟨l,R,ks,u,rfl,rfl,O,p6⟩:=l
  obtain ⟨b,rfl,Q⟩:=word_at (f.told mem_mid)
  have r:=f.told Fm
  obtain rfl:=r.imm R
  obtain ⟨a',B,L,g2,C,g4⟩:=nW (ks':=xF ks u d) e4 W f.drop2 x l
  rw[E,q] at L
  cases L
  obtain ⟨S3,h1,h2,h3⟩:=g4 (Xe B (On u) v) (j5 u r C)
  refine ⟨a,_,rfl,BX.t g2 Q (by rw[C0 C]; exact Cm O (pF (n:=1000000) (Ah _))),?_⟩
  rw[<- E,<- h1]
  exact k1 ⟨_,_⟩ S3 _ h2 h3 p6
 ·exact l.elim
end
def Y6:V->Int
 | .int i=>i
 | _=>0
def U2(H:Hp)(r:Addr):List Int:=match H r with
 | some (.tup xs)=>xs.map Y6
 | _=>[]
theorem CZ{H:Hp}{r:Addr}{w:List Int}(h:H r=some (.tup (w.map V.int))):U2 H r=w:=by
 unfold U2
 rw[h]
 show (w.map V.int).map Y6=w
 rw[Eh]
 exact List.map_id' w
section
variable{K:PySem.W.Frag}{H:Hp}
theorem pB:∀{ws:List (List Int)} {xs:List V} {f:List Ae} {G:List Addr},RdFs K H xs f G->f=ws.map Bb->∃b:List Addr,xs=b.map V.ref/\ws=b.map (U2 H)/\G=[]/\(∀r∈b,H r=some (.tup ((U2 H r).map V.int)))/\∀r∈b,RdF K H (.ref r) (Bb (U2 H r)) []
 | [],_,_,_,h,e=>by
  subst e
  cases h
  exact ⟨[],rfl,rfl,rfl,(λ_ z=>nomatch z),(λ_ z=>nomatch z)⟩
 | w::ws,_,_,_,h,e=>by
  cases h with
  | nil=>cases e
  | cons a t =>
   obtain ⟨j,i⟩:=Gs e
   obtain ⟨b,rfl,rfl,rfl,g,k⟩:=pB t i
   subst j
   obtain ⟨r,rfl,d⟩:=word_at a
   rw[vQ] at d
   have c:=CZ d
   obtain rfl:=a.imm (show imm (Bb w)=true from Nq w)
   refine ⟨r::b,rfl,by rw[Au,c],rfl,λx hx=>?_,λx hx=>?_⟩
   ·rcases An.mp hx with rfl | hx
    ·rw[c]; exact d
    ·exact g x hx
   ·rcases An.mp hx with rfl | hx
    ·rw[c]; exact a
    ·exact k x hx
theorem dW:∀L:List (List Int),Dt (L.map Bb)=true
 | []=>rfl
 | w::L=>by
  show (imm (Bb w) && Dt (L.map Bb))=true
  rw[dW L,show imm (Bb w)=true from Nq w]; rfl
end
end DL
namespace Nd
open PySem PySem.Spec PyProof.Rows L2
end Nd
namespace DL
open PySem PySem.Spec PyProof.Rows L2 Nd
end DL
namespace Nd
open PySem PySem.Spec PySem.Calls PyProof.Rows PyProof.V L2
def IS(r:Addr)(j:Int)(h:Heap):Prop:=∃t u v,IsRange h r 0 j 1 t u v
abbrev j9(r:Addr)(j:Int):HO:=.ext (IS r j)
section
variable{prog:Bp}{w:World}{A:Cw}{E:Value->Ak->Prop}{s:Ak}
theorem gL{R:List Value->Ak->Prop}{r:Addr}{a b c:Int}{t u v:Tok}{n:Nat}(L:A.handled=none)(M:IsRange s.heap r a b c t u v)(k:Builtin.Range.small a b c=true)(O:Lc a b c=n)(B:n<=2 ^ 24)(h:∀(h':Heap) (m:Nat) (z:Array Value),(∀b o,s.heap.get? b=some o->h'.get? b=some o)->ItemsOf (λi v=>∃t,v=.int (a+i * c) t) z n->R z.toList { s with heap:=h',toks:=m }):wpAny (model prog w) A (collect (.ref r)) R E s:=by
 unfold collect
 refine Aa (aM (Ff PyProof.Rows.entry_proto_collect' ?_))
 rw[Er PySem.F.plain_proto_collect _]
 show wpAny _ A.in1 (newList [] >>= λl=>again (.builtin "list.__iadd__" ⟨[l,.ref r],[]⟩)) _ _ s
 refine Aa (Dy ?_)
 refine Ag ⟨Mr PySem.F.plain_list_iadd _,Ff PyProof.Rows.entry_list_iadd' ?_⟩
 rw[Er PySem.F.plain_list_iadd _]
 have p:(s.heap.push { cls:=.type "list",data:=.seq ([]:List Value).toArray }).get? s.heap.objs.size=some { cls:=.type "list",data:=.seq #[] }:=Bi _ rfl
 show wpAny _ A.in1 (Builtin.List.listExtendWith (.ref s.heap.objs.size) (.ref r) (.ref s.heap.objs.size)) _ _ _
 have I:=wpAny_extend_range (prog:=prog) (w:=w) (A:=A) (s:={ s with heap:=s.heap.push { cls:=.type "list",data:=.seq ([]:List Value).toArray } })
  (R:=λ(q:Result) (H:Ak)=>∃(h':Heap) (m:Nat) (d:Array Value) (D:Nat),q=.ok (.ret (.ref s.heap.objs.size))/\H={ s with heap:=h',toks:=m } /\
   (∀b o,s.heap.get? b=some o->h'.get? b=some o)/\h'.get? s.heap.objs.size=some { cls:=.type "list",dict:=none,data:=.seq d D,slots:=#[] }/\ItemsOf (λi v=>∃t,v=.int (a+i * c) t) d n)
  L (Aj _ M) k O B s.heap.objs.size (.ref s.heap.objs.size) 0 p
  (λh' m d D C j g=>⟨h',m,d,D,rfl,rfl,λb o e=>C b o (Ck (Bm e)) (Aj _ e),j,g⟩)
 refine Hg I (λG H x=>?_) λe H x=>?_
 ·cases G with
  | done f =>
   obtain ⟨h',m,d,D,e,rfl,C,j,g⟩:=x
   cases e
   show wpAny _ A (load s.heap.objs.size >>= _) _ _ _
   refine Aa (wpAny_load j ?_)
   exact Ag (h h' m d C g)
  | again J =>
   refine ⟨x.1,Jj x.2 λq K y=>?_⟩
   obtain ⟨h',m,d,D,rfl,rfl,C,j,g⟩:=y
   show wpAny _ A (load s.heap.objs.size >>= _) _ _ _
   refine Aa (wpAny_load j ?_)
   exact Ag (h h' m d C g)
 ·obtain ⟨_,_,_,_,N,_⟩:=x
  cases N
theorem Zf{Q₁:Value->Ak->Prop}{r:Addr}{a b c:Int}{t u v:Tok}{n:Nat}(B:A.handled=none)(x:IsRange s.heap r a b c t u v)(f:Builtin.Range.small a b c=true)(C:Lc a b c=n)(p:n<=1000)(h:∀(h':Heap) (j:Nat) (d:Array Value),(∀b o,s.heap.get? b=some o->h'.get? b=some o)->ItemsOf (λi v=>∃t,v=.int (a+i * c) t) d n->Q₁ (.ref h'.objs.size) { s with heap:=h'.push { cls:=.type "tuple",data:=.seq d },toks:=j }):Na (model prog w) A (.call (.builtin "tuple.__new__") ⟨[.type "tuple",.ref r],[]⟩) (wants Q₁ E) s:=by
 refine Qr ?_
 show wpAny _ A.in1 (do checkBuiltinCall "tuple.__new__" ⟨[.type "tuple",.ref r],[]⟩; again (.builtin "tuple.__new__" ⟨[.type "tuple",.ref r],[]⟩)) _ _ s
 refine Aa (Iq (F.newCall_tuple_1 _) (Ag ⟨Mr F.plain_tuple_new _,Ff F.entry_tuple_new ?_⟩))
 rw[Er F.plain_tuple_new _]
 have q:=sub_tuple_self
 have k:=init_tuple_lookup
 have y:=madeHere_tuple
 have l:s.TypeIs (.ref r) "range" := ⟨_,x,rfl⟩
 have m:A.in1.handled=none:=B
 wp_walk using Mb l,gL m x f C (by omega)
 intro h' j d z g
 show wpAny _ _ (Gm d.toList.toArray >>= λv=>ret v) _ _ _
 unfold Gm
 refine Aa (Dy ?_ (by show d.toList.toArray.size<=Bf; simp only[Array.toArray_toList]; rw[g.1,Hq]; omega))
 refine Ag ?_
 have e:d.toList.toArray=d:=by simp
 rw[e]
 exact h h' j d z g
end
theorem fY:∀{n:Nat} {a:Array Value},a.size=n->(∀(i:Nat) v,a[i]? = some v->∃t,v=Ld (i:Int) t)->Fg a.toList ((Bg n).map λk:Nat=>(k:Int)):=by
 intro n a f h
 have c:∀(l:List Value) (m:Nat),(∀(i:Nat) v,l[i]? = some v->∃t,v=Ld ((m+i:Nat):Int) t)->Fg l ((List.range' m l.length).map λk:Nat=>(k:Int)):=by
  intro l
  induction l with
  | nil=>intro m _; exact .nil
  | cons x l g =>
   intro m d
   obtain ⟨t,e⟩:=d 0 x rfl
   have:=g (m+1) λi v b=>by
    obtain ⟨t,e⟩:=d (i+1) v b
    exact ⟨t,by rw[e]; congr 1; omega⟩
   rw[Bd,List.range'_succ,Au]
   rw[e]
   exact .cons _ t this
 have:=c a.toList 0 λi v b=>by
  obtain ⟨t,e⟩:=h i v (by simpa using b)
  exact ⟨t,by rw[e]; congr 1; omega⟩
 rw[List.range_eq_range']
 have e:a.toList.length=n:=by simpa using f
 rw[e] at this
 exact this
section
variable{X:Cx}
def GJ:List V->Hp->VK->Prop:=λa H Q=>∃j:Int,a=[.int j]/\∀r,H r=none->Q (.ref r) (upd H r (j9 r j))
theorem qE:Jh X (.type "range") GJ:=by
 intro c s g H f l Q I r h
 obtain ⟨j,rfl,q⟩:=h
 obtain ⟨u,rfl,t,rfl⟩:=vals1 r
 refine call_range_1 ⟨.ref s.heap.objs.size,_,I.laid (a:=s.heap.objs.size) (o:=j9 s.heap.objs.size j) (t':=s.toks+1+1) (λb o e=>Aj _ e) (Ah _) ?_,rfl,q _ (I.hok.fresh (Ah _))⟩
 refine ⟨⟨_,_,_,Bi _ rfl⟩,⟨_,Bi _ rfl⟩,λd i ⟨t,u,v,e⟩ k=>⟨t,u,v,k _ e⟩⟩
def IG:List V->Hp->VK->Prop:=λa H Q=>∃(r:Addr) (j:Int),a=[.ref r]/\H r=some (j9 r j)/\0<=j/\j<=1000/\∀l,H l=none->Q (.ref l) (upd H l (.tup (((Bg j.toNat).map λn:Nat=>(n:Int)).map V.int)))
theorem nZ(D:X.calm=true):Jh X (.type "tuple") IG:=by
 intro f s m H N P Q I r h
 obtain ⟨p,j,rfl,K,O,M,q⟩:=h
 obtain ⟨u,rfl,C⟩:=vals1 r
 cases C
 obtain ⟨⟨t,u,v,G⟩,_,_⟩:=(show Hx X.prog X.w H s.heap p (j9 p j) from I.hok p _ K)
 have J:Lc 0 j 1=((j.toNat:Nat):Int):=by rw[rangeSize_one]; split <;> omega
 refine callType_codes (Q₁:=λd c=>c.TypeIs d "tuple" /\ EP X f m Q d c) F.called_tuple (F.typeCall_tuple_1 _) F.entry_object_init
  (Zf (prog:=X.prog) (w:=X.w) (E:=X.xe) (Q₁:=λd c=>c.TypeIs d "tuple" /\ EP X f m Q d c) (A:=X.A.in1) (show X.A.in1.handled=none from I.ok.hd D) G (small_one (by omega) (by omega) (by omega) (by omega)) J (by omega) λy B k L l=>⟨⟨_,Bi _ rfl,rfl⟩,?_⟩) λd c g=>?_
 ·have z:Inv X f m H { s with heap:=y,toks:=B }:=I.kept L
  have x:Fz (((Bg j.toNat).map λn:Nat=>(n:Int)).map V.int) k.toList:=by
   refine K5 (fY ?_ ?_)
   ·exact l.1
   ·intro i v x
    obtain ⟨t,e⟩:=l.2 i v x
    exact ⟨t,by rw[e]; congr 1; omega⟩
  refine ⟨.ref y.objs.size,_,z.laid (a:=y.objs.size) (o:=.tup (((Bg j.toNat).map λn:Nat=>(n:Int)).map V.int)) (t':=B) (λb o e=>Aj _ e) (Ah _) ⟨?_,k.toList,x,?_⟩,rfl,q _ (z.hok.fresh (Ah _))⟩
  ·rw[Ac,Ac,Cs]; exact sz (by omega)
  ·have e:k=k.toList.toArray:=by simp
   rw[e]
   exact IsTup.new _ _
 ·exact ⟨g.1,F.args_object_init_2 d _,object_init_meets F.called_tuple.init.lookup F.called_tuple.made (by decide) X.prog X.w X.A.in1 _ c ⟨g.1,rfl,g.2⟩⟩
end
end Nd
namespace DL
open PySem PySem.Spec PyProof.Rows L2 Nd
def NG(e:DA):DE:=λd P=>e d λc a=>match c with
 | [.dat _ (.tuple ds)]=>∃b:List Int,ds=b.map Bq/\(∀x∈b,0<=x/\x<60)/\P (.dat .ow (.list ((Sg b).map Bq))) a
 | _=>False
def Oo(j:Nat):List Int:=(Bg j).map λn:Nat=>(n:Int)
def JN(x:DV)(a:DS)(P:DV->DS->Prop):Prop:=match x with
 | .dat _ (.int j)=>0<=j/\j<=1000/\P (.dat .ow (Bb (Oo j.toNat))) a
 | _=>False
def MG(c:DE):DE:=λb P=>c b λx a=>JN x a P
section
variable{X:Cx}{p b pos a:Pos}{e:Expr}{c:DE}
theorem yJ(y:X.calm=true)(I:Gl X "tuple")(z:X.mg "tuple" = none)(g:Gl X "range")(i:X.mg "range" = none)(q:Fk X e c)(o:Cc [e] X.env=[(false,eval e X.env)]:=by rfl)(f:Cc [.Call (.Name "range" b) [e] [] a] X.env=[(false,eval (.Call (.Name "range" b) [e] [] a) X.env)]:=by rfl):Fk X (.Call (.Name "tuple" p) [.Call (.Name "range" b) [e] [] a] [] pos) (MG c):=by
 refine PE.imp (Qz (nZ y) I z (by decide +kernel) (Jc (Qz qE g i (by decide +kernel) (Jc q Qm o) (by decide) (by decide) o rfl) Qm f) (by decide) (by decide) f rfl) λN H Q h=>?_
 obtain ⟨E,Y,S,T,D,P,rfl,s,t,L,k⟩:=h
 refine ⟨E,Y,S,T,D,_,rfl,s,t,L,λx n v F G O K J d p=>?_⟩
 unfold JN at p
 split at p
 ·rename_i m j
  obtain ⟨B,u,p⟩:=p
  obtain ⟨rfl,_⟩:=(d.told mem_mid).int_inv
  refine ⟨j,rfl,λr w=>⟨r,j,rfl,El,B,u,λl M=>?_⟩⟩
  have C:=Gn w (j9 r j)
  have A:=Gn M (.tup ((Oo j.toNat).map V.int))
  refine k _ n _ _ G _ K J (((d.drop.grow C (Ah _)).grow A (Ah _)).pushI (RdF.tup El ?_ (RdFs.ints _))) p
  rw[Ac]
  unfold Oo
  rw[Ac,Cs]
  exact pF (by omega)
 ·exact p.elim
end
abbrev PX:=List Ae->(Ae->Prop)->(Addr->Prop)->Prop
end DL
namespace Nd
open PySem PySem.Spec PyProof.Rows L2
end Nd
namespace DL
open PySem PySem.Spec PyProof.Rows L2 Nd
end DL
namespace Nd
open PySem PySem.Spec PyProof.Rows L2
end Nd
namespace Nd
open PySem PySem.Spec
end Nd
namespace Nd
open PySem PySem.Spec PyProof.Rows L2
end Nd
namespace DL
open PySem PySem.Spec PyProof.Rows L2 Nd
end DL
namespace Nd
open PySem PySem.Spec PyProof.Rows L2
end Nd
namespace DL
open PySem PySem.Spec PyProof.Rows L2 Nd
end DL
namespace Nd
open PySem PySem.Spec PyProof.Rows L2
end Nd
namespace DL
open PySem PySem.Spec PyProof.Rows L2 Nd
end DL
namespace Ts
open PySem PyProof.Rows L2
end Ts
namespace DL
open PySem PySem.Spec PyProof.Rows L2 Nd Ts
end DL
namespace DL
open PySem PySem.Spec PyProof.Rows L2 Nd
end DL
namespace Nd
open PySem PySem.Spec PyProof.Rows L2
end Nd
namespace DL
open PySem PySem.Spec PyProof.Rows L2 Nd
theorem U6{a b:Addr}{x y:List (List Int×Ae)}(h:CQ a x=CQ b y):a=b/\x=y:=by
 obtain ⟨d,g⟩:=Gs h
 refine ⟨Int.ofNat.inj (PyData.int.inj (Prod.mk.inj d).2),?_⟩
 refine Xp (λx y e=>?_) g
 obtain ⟨f,c⟩:=Prod.mk.inj e
 exact Prod.ext (Qu f) c
def P4:D2:=λx y P=>match x,y with
 | .dat _ (.dict X),.dat _ k=>∃a b w d,X=CQ a b/\k=Bb w/\Wb b w=some d/\P (.dat .ow d)
 | _,_=>False
end DL
namespace Nd
open PySem PySem.Spec PySem.Calls PyProof.Rows PyProof.V L2 Ts
end Nd
namespace DL
open PySem PySem.Spec PyProof.Rows L2 Nd Ts
theorem tab_no{K:PySem.W.Frag}{x:Str}(a:PySem.W.nsIn K Dd x=some none):PySem.W.tabIn K x=none:=by
 unfold PySem.W.tabIn
 rw[a]
end DL
namespace HT
open PySem PyProof.Rows
end HT
namespace Nd
open PySem PySem.Spec PySem.Calls PyProof.Rows PyProof.V L2 Ts
end Nd
namespace DL
open PySem PySem.Spec PyProof.Rows L2 Nd Ts
end DL
namespace DL
open PySem PySem.Spec PyProof.Rows L2 Nd
end DL
namespace DL
open PySem L2 Nd
end DL
namespace Nd
open PySem PySem.Spec PyProof.Rows L2
end Nd
namespace DL
open PySem PySem.Spec PyProof.Rows L2 Nd
def Z1(i:Nat)(z y:DV)(a:DS)(D:DEnds):Prop:=match a.sl[i]?,z,y with
 | some (.dat m (.list ds)),.dat _ (.int k),.dat my e=>own1 m=true/\npk a.sl=true/\my≠.pk/\ds.length<1000000/\0<=k/\k<=1000000/\D.nx ⟨a.sl.set i (.dat (mmd m my) (.list (Oc ds k.toNat e))),a.n⟩
 | _,_,_=>False
def C4(i:Nat)(e d:DE):DB:=λD c=>match c.sl[i]? with
 | some (.dat _ (.list _))=>e c λz b=>d b λy a=>Z1 i z y a D
 | _=>False
def MP(f:DB)(D:DEnds)(I:DS->Prop)(e:DS->Nat)(d:DS)(b:Bool)(c:DS):Prop:=match b with
 | true=>f { D with nx:=λa=>I a/\e a<e d,ct:=λa=>I a/\e a<e d,bk:=D.nx } c
 | false=>D.nx c
theorem t8{dt:DT}{c:DB}{D:DEnds}{b:DS}(I:DS->Prop)(d:DS->Nat)(h0:I b)(h:∀a,I a->dt a (MP c D I d a)):K6 dt c D b:=⟨I,d,h0,h⟩
theorem Y7{f:DB}{D:DEnds}{I:DS->Prop}{e:DS->Nat}{d c:DS}{b:Bool}(h1:b=true->f { D with nx:=λa=>I a/\e a<e d,ct:=λa=>I a/\e a<e d,bk:=D.nx } c)(g:b=false->D.nx c):MP f D I e d b c:=by
 cases b with
 | true=>exact h1 rfl
 | false=>exact g rfl
end DL
namespace NdS
open PySem
theorem lF{m:Nat}:∀{f i t:Nat},t<f->it m t i∈HL m f i
 | f+1,i,0,_=>Ab ..
 | f+1,i,t+1,h=>Ad _ (lF (Nat.lt_of_succ_lt_succ h))
theorem DM{m:Nat}(i:Nat):st (2 * m) i % m=st m (i % m):=by
 unfold st
 rw[Nat.mod_mod_of_dvd _ ⟨2,by omega⟩,Sa,Nat.mul_mod]
 conv=>rhs; rw[Sa,Nat.mul_mod,Nat.mod_mod]
theorem F6{m:Nat}:∀(t i:Nat),it (2 * m) t i % m=it m t (i % m)
 | 0,i=>rfl
 | t+1,i=>by
  show it (2 * m) t (st (2 * m) i) % m=it m t (st m (i % m))
  rw[F6 t,DM]
theorem AA{m i:Nat}(h:0<m):st m i<m:=Kb _ h
theorem Z0{m:Nat}(h:0<m):∀{t i:Nat},i<m->it m t i<m
 | 0,_,hi=>hi
 | t+1,i,hi=>Z0 h (t:=t) (AA h)
theorem T1{m i:Nat}:st (2 * m) ((i+m) % (2 * m))=(st (2 * m) i+m) % (2 * m):=by
 unfold st
 have e:(i+m) * 5+1=i * 5+1+m+2 * (2 * m):=by omega
 rw[Sa,Nat.mul_mod,Nat.mod_mod,<- Nat.mul_mod,<- Sa,e,Nat.add_mul_mod_self_right,Sa]
 conv=>rhs; rw[Sa,Nat.mod_mod]
theorem tI{m:Nat}:∀(t i:Nat),i<2 * m->it (2 * m) t ((i+m) % (2 * m))=(it (2 * m) t i+m) % (2 * m)
 | 0,i,_=>rfl
 | t+1,i,h=>by
  show it (2 * m) t (st (2 * m) ((i+m) % (2 * m)))=_
  rw[T1,tI t _ (AA (by omega))]
  rfl
theorem Pj{m:Nat}(g:Jz m)(h:it (2 * m) m 0=m):Jz (2 * m):=by
 obtain ⟨o,f,j⟩:=g
 have a:∀t,it (2 * m) (m+t) 0=(it (2 * m) t 0+m) % (2 * m):=λt=>by
  rw[cS,h]
  have:=tI (m:=m) t 0 (by omega)
  rw[Ie,Ih (show m<2 * m by omega)] at this
  exact this
 refine ⟨by omega,?_,λe b=>?_⟩
 ·have:=a m
  rw[h,show m+m=2 * m by omega,Nat.mod_self] at this
  exact this
 ·obtain ⟨t,p,n⟩:=bS (j (e % m) (Kb _ o))
  have k:=F6 (m:=m) t 0
  rw[Nat.zero_mod,n] at k
  have lt:it (2 * m) t 0<2 * m:=Z0 (by omega) (by omega)
  by_cases c:it (2 * m) t 0=e
  ·rw[<- c]; exact lF (by omega)
  ·have l:=a t
   have : (it (2 * m) t 0+m) % (2 * m)=e:=by
    generalize it (2 * m) t 0=x at k lt c
    have up:∀{y},m<=y->y<2 * m->y % m=y - m:=λ{y} f j=>by rw[Nat.mod_eq_sub_mod f,Ih (by omega)]
    by_cases i:x<m <;> by_cases d:e<m
    ·rw[Ih i,Ih d] at k; omega
    ·rw[Ih i,up (by omega) b] at k
     rw[Ih (by omega)]; omega
    ·rw[up (by omega) lt,Ih d] at k
     rw[show x+m=e+2 * m by omega,Nat.add_mod_right,Ih b]
    ·rw[up (by omega) lt,up (by omega) b] at k; omega
   rw[<- this,<- l]
   exact lF (by omega)
theorem uV:Jz 512:=Pj mB (by decide +kernel)
theorem pY:Jz 1024:=Pj uV (by decide +kernel)
theorem pQ:Jz 2048:=Pj pY (by decide +kernel)
theorem oV:Jz 4096:=Pj pQ (by decide +kernel)
theorem F5:Jz 8192:=Pj oV (by decide +kernel)
theorem F7:∀{i:Nat},i<=10->Jz (2 ^ (i+3))
 | 0,_=>uQ | 1,_=>B5 | 2,_=>K1 | 3,_=>o6 | 4,_=>vD | 5,_=>mB
 | 6,_=>uV | 7,_=>pY | 8,_=>pQ | 9,_=>oV | 10,_=>F5
 | i+11,h=>absurd h (by omega)
theorem pZ{n:Nat}(a:n<8192):∀(j i f:Nat),i+j=10->∃k,i<=k/\k<=10/\Le n (f+j+1) (2 ^ (i+3))=2 ^ (k+3)/\n<2 ^ (k+3)
 | 0,i,f,h=>by
  have : i=10:=by omega
  subst this
  refine ⟨10,Ah _,Ah _,?_,a⟩
  unfold Le
  rw[if_neg (by show ¬ 8192<=n; omega)]
 | j+1,i,f,h=>by
  by_cases c:2 ^ (i+3)<=n
  ·obtain ⟨k,g,e,d,b⟩:=pZ a j (i+1) f (by omega)
   refine ⟨k,by omega,e,?_,b⟩
   rw[<- d,show f+(j+1)+1=(f+j+1)+1 by omega]
   show (if 2 ^ (i+3)<=n then Le n (f+j+1) (2 ^ (i+3) * 2) else _)=_
   rw[if_pos c,<- bV]
  ·refine ⟨i,Ah _,by omega,?_,Nat.lt_of_not_le c⟩
   show (if 2 ^ (i+3)<=n then Le n (f+(j+1)) (2 ^ (i+3) * 2) else _)=_
   rw[if_neg c]
theorem C5{n:Nat}(f:n<8192):∃m,Ef n=m+1/\Jz (m+1)/\n<=m/\7<=m/\m<8192/\m % 2=1:=by
 obtain ⟨k,h,c,b,g⟩:=pZ f 10 0 53 rfl
 have a:Ef n=2 ^ (k+3):=b
 have e:2 ^ (k+3)=2 ^ k * 8:=Nat.pow_add 2 k 3
 have p:0<2 ^ k:=Nat.pow_pos (by decide)
 have up:2 ^ (k+3)<=2 ^ 13:=Pc (by decide) (by omega)
 have d:2 ^ (k+3)<=8192:=up
 refine ⟨2 ^ (k+3) - 1,by omega,?_,by omega,by omega,by omega,by omega⟩
 rw[show 2 ^ (k+3) - 1+1=2 ^ (k+3) by omega]
 exact F7 c
theorem wV{t:Bc}{es:Array (Int×Value)}{wanted:Nat}(h:t.plain=true)(hw:wanted<8192)(l:es.size * 2<=wanted):∃(t':Bc) (order:Array Nat),t.relaid (es.map (·.1)) wanted=some (t',order)/\order.toList.Perm (Bg es.size)/\Tab es.size t'/\t'.mask % 2=1/\Ef wanted<=8192/\t'.led=t.led:=by
 obtain ⟨m,e,g,i,j,k,f⟩:=C5 hw
 have sz:(es.map (·.1)).size=es.size:=Vm ..
 obtain ⟨t',order,c,a,b,d⟩:=pL (mask:=m) (finger:=t.finger) (moves:=t.movedTo m) (led:=t.led) g (es.map (·.1)) (by rw[sz]; omega)
 rw[sz] at a b
 refine ⟨t',order,?_,a,b,?_,by omega,d⟩
 ·unfold SetTable.relaid
  rw[e,aT,h]
  exact c
 ·rw[(Wz c).2.1]; exact f
def Nz(t:Bc):Nat->Du->Du
 | 0,p=>p
 | k+1,p=>Nz t k (t.advance p)
structure WayOk(t:Bc)(p:Du):Prop where
 more:p.more<=9
 top:p.j+p.more<=t.mask
 dum:p.dummy=none
theorem WayOk.next{t:Bc}{p:Du}(x:WayOk t p):WayOk t (t.advance p):=by
 obtain ⟨e,f,a⟩:=x
 unfold Jf
 split
 ·exact ⟨by dsimp only; omega,by dsimp only; omega,a⟩
 ·rw[bL]
  have b:(p.i * 5+1+p.perturb / 32) % (t.mask+1)<=t.mask:=Pr.mp (Kb _ (Nl _))
  have c:=Ub b
  have d:=Ou t.mask ((p.i * 5+1+p.perturb / 32) % (t.mask+1))
  exact ⟨My _ _,by dsimp only; omega,a⟩
theorem Ua{t:Bc}(h:Int):WayOk t (t.probeStart h):=by
 have a:Ca h % (t.mask+1)<=t.mask:=Pr.mp (Kb _ (Nl _))
 have b:=Ub a
 have c:=Ou t.mask (Ca h % (t.mask+1))
 exact ⟨My _ _,by show Ca h % (t.mask+1)+(Da t.mask (Ca h % (t.mask+1)) - Ca h % (t.mask+1))<=t.mask; omega,rfl⟩
theorem lO{t:Bc}:∀(k:Nat) (p:Du),p.more=k->∃q:Du,Nz t (k+1) p=q/\q.j=((p.i * 5+1+p.perturb / 32) % (t.mask+1))/\q.i=q.j/\q.perturb=p.perturb / 32/\q.more<=9
 | 0,p,h=>by
  refine ⟨_,rfl,?_⟩
  show (t.advance p).j=_/\(t.advance p).i=(t.advance p).j/\(t.advance p).perturb=_/\(t.advance p).more<=9
  unfold Jf
  rw[if_neg (by omega),bL]
  exact ⟨rfl,rfl,rfl,My _ _⟩
 | k+1,p,h=>by
  have e:t.advance p={ p with j:=p.j+1,more:=p.more - 1 }:=by
   unfold Jf
   rw[if_pos (by omega)]
  obtain ⟨q,f,a,d,b,c⟩:=lO k (t.advance p) (by rw[e]; show p.more - 1=k; omega)
  rw[e] at a b
  exact ⟨q,f,a,d,b,c⟩
theorem Mi{t:Bc}:∀(a b:Nat) (p:Du),Nz t (a+b) p=Nz t b (Nz t a p)
 | 0,b,p=>by rw[Ie]; rfl
 | a+1,b,p=>by rw[aU]; exact Mi a b _
theorem iF{t:Bc}:∀(u:Nat) (p:Du),p.more<=9->∃k,k<=p.more+1+10 * u/\(Nz t k p).j=(lp (t.mask+1) (u+1) p.i p.perturb).1
 | 0,p,h=>by
  obtain ⟨q,b,a,e,d,c⟩:=lO (t:=t) p.more p rfl
  exact ⟨p.more+1,by omega,by rw[b]; exact a⟩
 | u+1,p,h=>by
  obtain ⟨q,b,a,e,d,c⟩:=lO (t:=t) p.more p rfl
  obtain ⟨k,g,f⟩:=iF u q c
  refine ⟨p.more+1+k,by omega,?_⟩
  rw[Mi,b,f,e,a,d]
  rfl
theorem wU{t:Bc}{n:Nat}(x:Tab n t)(h:Int):∃k,k<10 * Dj t.mask/\t.slot (Nz t k (t.probeStart h)).j=.empty:=by
 have f:=Uh x
 obtain ⟨e,d,b⟩:=vC (m:=t.mask+1) x.rise (by rw[Af,x.size]; omega)
 obtain ⟨u,g,a⟩:=eX x.good (i:=Ca h % (t.mask+1)) (p:=Ca h) (e:=e) (Kb _ (Nl _)) (mF h) d
 have l:10 * Dj t.mask=10 * t.mask+150:=by unfold Dj; omega
 cases u with
 | zero=>exact ⟨0,by omega,(Kk x.toTabOk).mpr (by rw[show (Nz t 0 (t.probeStart h)).j=e from a]; exact b)⟩
 | succ u =>
  obtain ⟨k,o,c⟩:=iF (t:=t) u (t.probeStart h) (Ua h).more
  have:=(Ua (t:=t) h).more
  exact ⟨k,by omega,(Kk x.toTabOk).mpr (by rw[c,show (lp (t.mask+1) (u+1) (t.probeStart h).i (t.probeStart h).perturb).1=e from a]; exact b)⟩
theorem wM{t:Bc}{n j i:Nat}(x:TabOk n t)(h:t.slot j=.live i):i<n:=by
 unfold Vi at h
 dsimp only at h
 split at h
 ·rename_i c
  injection h with h
  subst h
  have a:t.place[Be t.place j]? = some j:=by simpa using c
  have:=(Ii.mp a).1
  rw[<- x.size]
  exact this
 ·split at h <;> cases h
end NdS
namespace NdS
open PySem PyProof.Rows
theorem K7{t u:Bc}(h:t.mask=u.mask)(p:Du):t.advance p=u.advance p:=by
 unfold Jf
 rw[h]
theorem cF{t u:Bc}(h:t.mask=u.mask):∀(k:Nat) (p:Du),Nz t k p=Nz u k p
 | 0,_=>rfl
 | k+1,p=>by
  show Nz t k (t.advance p)=Nz u k (u.advance p)
  rw[K7 h,cF h k]
theorem eZ{t u:Bc}(h:t.mask=u.mask)(x:Int):t.probeStart x=u.probeStart x:=by
 unfold SetTable.probeStart
 rw[h]
def Zz(t:Bc)(P:Nat->Prop)(h:Int)(j:Nat):Prop:=∃k,(Nz t k (t.probeStart h)).j=j/\∀a,a<k->P (Nz t a (t.probeStart h)).j
theorem Zz.mono{t u:Bc}{P Q:Nat->Prop}{h:Int}{j:Nat}(x:Zz t P h j)(e:t.mask=u.mask)(s:∀i,P i->Q i):Zz u Q h j:=by
 obtain ⟨k,b,c⟩:=x
 refine ⟨k,?_,λa d=>?_⟩
 ·rw[<- cF e,<- eZ e]; exact b
 ·rw[<- cF e,<- eZ e]; exact s _ (c a d)
def FO(t:Bc)(es:List Int):Prop:=∀x∈es.zip t.place.toList,Zz t (·∈t.place.toList) x.1 x.2
theorem eY{t:Bc}:∀(k:Nat) (p:Du),k<=p.more->Nz t k p={ p with j:=p.j+k,more:=p.more - k }
 | 0,_,_=>rfl
 | k+1,p,h=>by
  show Nz t k (t.advance p)=_
  have e:t.advance p={ p with j:=p.j+1,more:=p.more - 1 }:=by
   unfold Jf
   rw[if_pos (by omega)]
  rw[e,eY k _ (by show k<=p.more - 1; omega)]
  simp only[SetTable.Probe.mk.injEq,and_true,true_and]
  omega
def Rz(m i a:Nat):Du:={ j:=i,more:=Da m i - i,i:=i,perturb:=a,dummy:=none }
theorem L4{t:Bc}(i a:Nat):Nz t (Da t.mask i - i+1) (Rz t.mask i a)=Rz t.mask ((i * 5+1+a / 32) % (t.mask+1)) (a / 32):=by
 rw[Mi,eY (Da t.mask i - i) (Rz t.mask i a) (Ah _)]
 show t.advance _=_
 unfold Jf
 rw[if_neg (by show ¬ (Da t.mask i - i - (Da t.mask i - i) > 0); omega),bL]
 rfl
theorem pH{t:Bc}{owner:Array (Option Nat)}:∀(fuel i d j:Nat),Dw t.mask owner fuel i d=some j->∃k,(Nz t k (Rz t.mask i d)).j=j/\∀b,b<k->(owner.getD (Nz t b (Rz t.mask i d)).j (some 0)).isNone=false
 | 0,_,_,_,h=>by unfold Dw at h; cases h
 | fuel+1,i,d,j,h=>by
  unfold Dw at h
  split at h
  ·rename_i k m
   injection h with h
   obtain ⟨y,f,bs,u,q⟩:=List.find?_eq_some_iff_append.mp m
   have v:∀(n:Nat) (f bs:List Nat) (k:Nat),Bg n=f++k::bs->f=Bg k/\k<n:=λn f bs k e=>by
    have r:f.length<n:=by
     have:=congrArg Iy e
     rw[Cs,Bh,Bd] at this
     omega
    have g:(Bg n)[f.length]? = some k:=by rw[e]; simp
    rw[List.getElem?_range r] at g
    injection g with g
    refine ⟨?_,by omega⟩
    have o:=congrArg (List.take f.length) e
    rw[List.take_left',List.take_range,Mm (by omega)] at o
    ·rw[<- o,g]
    ·rfl
   obtain ⟨x,z⟩:=v _ _ _ _ u
   refine ⟨k,?_,λb l=>?_⟩
   ·rw[eY k _ (by show k<=Da t.mask i - i; omega)]
    exact h
   ·rw[eY b _ (by show b<=Da t.mask i - i; omega)]
    have:=q b (by rw[x]; exact Cu.mpr l)
    show (owner.getD (i+b) (some 0)).isNone=false
    rw[Jb] at this
    exact this
  ·rename_i m
   have none:=List.find?_eq_none.mp m
   obtain ⟨k,w,s⟩:=pH fuel _ _ j h
   have p:Nz t (Da t.mask i - i+1) (Rz t.mask i d)=Rz t.mask (SetTable.leap t.mask i d).1 (SetTable.leap t.mask i d).2:=L4 i d
   refine ⟨Da t.mask i - i+1+k,by rw[Mi,p]; exact w,λb l=>?_⟩
   by_cases c:b<=Da t.mask i - i
   ·rw[eY b _ c]
    have a:=Ou t.mask i
    have:=none b (Cu.mpr (by omega))
    show (owner.getD (i+b) (some 0)).isNone=false
    exact Bool.eq_false_iff.mpr this
   ·rw[show b=Da t.mask i - i+1+(b - (Da t.mask i - i+1)) by omega,Mi,p]
    exact s _ (by omega)
theorem B7{t:Bc}:∀(k:Nat) (p:Du),WayOk t p->WayOk t (Nz t k p)
 | 0,_,h=>h
 | k+1,_,h=>B7 k _ h.next
theorem DW{t:Bc}(k:Nat)(h:Int):(Nz t k (t.probeStart h)).j<=t.mask:=by
 have:=(B7 k _ (Ua (t:=t) h)).top
 omega
def cE(owner:Array (Option Nat))(i:Nat):Prop:=(owner.getD i (some 0)).isNone=false
def BP(t:Bc)(H:Nat->Int)(owner:Array (Option Nat)):Prop:=∀j k,owner[j]? = some (some k)->Zz t (cE owner) (H k) j
theorem pU{m:Nat}:∀a:List Int,a.foldl (kA m) none=none
 | []=>rfl
 | h::a=>by rw[List.foldl_cons]; exact pU a
theorem iP{owner:Array (Option Nat)}{j n i:Nat}(h:cE owner i):cE (owner.setIfInBounds j (some n)) i:=by
 unfold cE at *
 rw[Bw] at *
 rw[fW]
 split
 ·split <;> rfl
 ·exact h
theorem uT{t:Bc}{H:Nat->Int}:∀(f:List Int) (owner:Array (Option Nat)) (n:Nat) (a:Array (Option Nat)) (n':Nat),f.foldl (kA t.mask) (some (owner,n))=some (a,n')->(∀i h,f[i]? = some h->H (n+i)=h)->BP t H owner->BP t H a/\a.size=owner.size
 | [],owner,n,a,n',e,_,x=>by
  rw[List.foldl_nil] at e
  injection e with e
  injection e with d e2
  rw[<- d]
  exact ⟨x,rfl⟩
 | h::f,owner,n,a,n',e,eH,x=>by
  rw[List.foldl_cons] at e
  cases g:Dw t.mask owner (Dj t.mask) (Ca h % (t.mask+1)) (Ca h) with
  | none =>
   have d:kA t.mask (some (owner,n)) h=none:=by
    show (do
     let j <- Dw t.mask owner (Dj t.mask) (Ca h % (t.mask+1)) (Ca h)
     pure (owner.setIfInBounds j (some n),n+1))=_
    rw[g]
    rfl
   rw[d,pU] at e
   cases e
  | some j =>
   have d:kA t.mask (some (owner,n)) h=some (owner.setIfInBounds j (some n),n+1):=by
    show (do
     let j <- Dw t.mask owner (Dj t.mask) (Ca h % (t.mask+1)) (Ca h)
     pure (owner.setIfInBounds j (some n),n+1))=_
    rw[g]
    rfl
   rw[d] at e
   refine (λz=>⟨z.1,z.2.trans (Lw ..)⟩) (uT f _ _ a n' e (λi l p=>?_) λs k b=>?_)
   ·rw[show n+1+i=n+(i+1) by omega]
    exact eH (i+1) l p
   ·rw[fW] at b
    split at b
    ·rename_i c
     split at b
     ·injection b with b
      injection b with b
      obtain ⟨q,r,o⟩:=pH (t:=t) _ _ _ _ g
      have m:H k=h:=by rw[<- b]; exact eH 0 h rfl
      rw[m,<- c]
      exact Zz.mono (P:=cE owner) ⟨q,r,o⟩ rfl λi z=>iP z
     ·cases b
    ·exact (x s k b).mono rfl λi z=>iP z
theorem yI{mask finger moves:Nat}{led plain:Bool}{c:Array Int}{t:Bc}{order:Array Nat}(h:Hr mask finger moves led plain c=some (t,order)):FO t (order.toList.map λk=>c.getD k 0):=by
 have s:=(Wz h).2.1
 unfold Hr at h
 cases b:Ka mask c with
 | none=>rw[b] at h; cases h
 | some a =>
  rw[b] at h
  have x:BP t (λk=>c.getD k 0) a/\a.size=mask+1:=by
   unfold Ka at b
   rw[<- Array.foldl_toList] at b
   replace b:(c.toList.foldl (kA mask) (some (Pe (mask+1) none,0))).map (·.1)=some a:=b
   cases e:c.toList.foldl (kA mask) (some (Pe (mask+1) none,0)) with
   | none=>rw[e] at b; cases b
   | some r =>
    obtain ⟨o,n⟩:=r
    rw[e] at b
    injection b with b
    rw[<- b]
    have B:=e
    rw[<- s] at e
    have z:=uT (t:=t) (H:=λk=>c.getD k 0) _ _ _ _ _ e (λi h u=>by
     rw[Ie,Bw,<- Dx,u]
     rfl) λj k l=>by
     rw[Array.getElem?_replicate] at l
     split at l <;> simp at l
    exact ⟨z.1,by rw[z.2,Array.size_replicate,s]⟩
  obtain ⟨x,sz⟩:=x
  cases h
  intro y m
  have C:∀i,i<=mask->cE a i->i∈((Bg (mask+1)).filterMap λj=>(a.getD j none).map λx=>(j,x)).map (·.1):=λi u z=>by
   unfold cE at z
   have lt:i<a.size:=by omega
   rw[Bw,Cj lt] at z
   cases q:a[i] with
   | none=>rw[q] at z; simp at z
   | some v =>
    refine Bl.mpr ⟨(i,v),Jx.mpr ⟨i,Cu.mpr (by omega),?_⟩,rfl⟩
    rw[Bw,Cj lt,q]
    rfl
  dsimp only at m ⊢
  rw[Eh,List.zip_map'] at m
  obtain ⟨⟨j,k⟩,g,rfl⟩:=Bl.mp m
  obtain ⟨D,w,d⟩:=Jx.mp g
  have G:a[j]? = some (some k):=by
   rw[Bw] at d
   cases q:a[D]? with
   | none=>rw[q] at d; cases d
   | some v =>
    rw[q] at d
    cases v with
    | none=>cases d
    | some v=>cases d; exact q
  have A:=x j k G
  obtain ⟨E,F,I⟩:=A
  refine ⟨E,F,λp f=>?_⟩
  exact C _ (DW p _) (I p f)
theorem FO.put{t:Bc}{a:List Int}{h:Int}{j p:Nat}(x:FO t a)(len:a.length=t.place.size)(o:Zz t (·∈t.place.toList) h j):FO { t with place:=Bz t.place p j } (a.take p++h::a.drop p):=by
 have c:=Jo t.place p j
 rw[Fp] at c
 have up:∀i,i∈t.place.toList->i∈(Bz t.place p j).toList:=λi f=>c.mem_iff.mpr (Ap _ f)
 intro y d
 have b:y∈(a.take p++h::a.drop p).zip (t.place.toList.take p++j::t.place.toList.drop p):=by
  have e:=Qn t.place p j
  have g:(Bz t.place p j).toList=t.place.toList.take p++j::t.place.toList.drop p:=by first | exact e | (rw[e]; simp)
  rw[<- g]
  exact d
 rw[List.zip_append (by rw[Cy,Cy,len,Af]),Qo] at b
 rcases Ba.mp b with z | z
 ·have : y∈a.zip t.place.toList:=by
   rw[List.zip_eq_zipWith,<- List.take_zipWith] at z
   exact List.mem_of_mem_take z
  exact (x y this).mono rfl up
 ·rcases An.mp z with rfl | z
  ·exact o.mono rfl up
  ·have : y∈a.zip t.place.toList:=by
    rw[List.zip_eq_zipWith,<- List.drop_zipWith] at z
    exact Wc z
   exact (x y this).mono rfl up
theorem oS{b:Type}{es:Array (Int×b)}:∀L:List Nat,(∀k∈L,k<es.size)->(L.filterMap (es[·]?)).map (·.1)=L.map λk=>(es.map (·.1)).getD k 0
 | [],_=>rfl
 | k::L,h=>by
  have a:=h k Ab
  rw[Hw,Cj a]
  dsimp only
  rw[Au,Au,oS L λi c=>h i (Ad _ c),Bw,Array.getElem?_map,Cj a]
  rfl
theorem oR{t:Bc}{n:Nat}(x:TabOk n t){f:Nat->Int}{h:Int}:∀(fuel k:Nat) (p:Du),WayOk t p->k<fuel->t.slot (Nz t k p).j=.empty->(∃j m,Ia t f h fuel p=some (.empty j none)/\t.slot j=.empty/\j<=t.mask/\(Nz t m p).j=j/\∀l,l<m->t.slot (Nz t l p).j≠.empty/\∀i,t.slot (Nz t l p).j=.live i->f i≠h)\/(∃j i m s,Ia t f h fuel p=some (.candidate j i (Nz t (m+1) p))/\t.slot j=.live i/\f i=h/\s+m+1=k/\WayOk t (Nz t (m+1) p)/\t.slot (Nz t s (Nz t (m+1) p)).j=.empty/\(Nz t m p).j=j/\∀l,l<m->t.slot (Nz t l p).j≠.empty/\∀i,t.slot (Nz t l p).j=.live i->f i≠h)
 | 0,k,p,_,h,_=>absurd h (Dv _)
 | fuel+1,k,p,w,hk,he=>by
  unfold Ia
  split
  ·rename_i r
   exact .inl ⟨p.j,0,by rw[w.dum],r,by have:=w.top; omega,rfl,λl z=>absurd z (Dv _)⟩
  ·rename_i r
   exact absurd r (Sj x)
  ·rename_i i r
   cases k with
   | zero=>exact absurd (show t.slot p.j=.empty from he) (by rw[r]; intro z; cases z)
   | succ k =>
    by_cases c:(f i == h)=true
    ·rw[if_pos c]
     exact .inr ⟨p.j,i,0,k,rfl,r,by simpa using c,by omega,w.next,he,rfl,λl z=>absurd z (Dv _)⟩
    ·rw[if_neg c]
     have v:t.slot p.j≠.empty/\∀i,t.slot p.j=.live i->f i≠h:=⟨by rw[r]; exact λz=>(by cases z),λu z=>by
      rw[r] at z
      injection z with z
      rw[<- z]
      simpa using c⟩
     have o:∀{m:Nat},(∀l,l<m->t.slot (Nz t l (t.advance p)).j≠.empty/\∀i,t.slot (Nz t l (t.advance p)).j=.live i->f i≠h)->∀l,l<m+1->t.slot (Nz t l p).j≠.empty/\∀i,t.slot (Nz t l p).j=.live i->f i≠h:=λ{m} q l y=>by
      cases l with
      | zero=>exact v
      | succ l=>exact q l (by omega)
     rcases oR x fuel k _ w.next (by omega) he with ⟨j,m,a,b,c,d,e⟩ | ⟨j,u,m,s,a,b,c,d,e,f,g,q⟩
     ·exact .inl ⟨j,m+1,a,b,c,d,o e⟩
     ·exact .inr ⟨j,u,m+1,s,a,b,c,by omega,e,f,g,o q⟩
theorem qY{t:Bc}{n j i:Nat}(x:TabOk n t)(h:t.place.toList[i]? = some j):t.slot j=.live i:=by
 have b:=Sx x.rise j
 have e:Be t.place j=i:=by
  have c:=(Ai.mp h).1
  have a:i<t.place.size:=by rw[<- Af]; exact c
  have d:t.place[i]=j:=by
   have:=(Ai.mp h).2
   simpa using this
  rcases Nm (Be t.place j) i with z | z | z
  ·have:=b.hi (Be t.place j) (by omega) (Ah _)
   have:=Bx.mp x.rise (Be t.place j) i (by rw[Af]; omega) c z
   simp at this
   omega
  ·exact z
  ·have:=b.lo i a z
   omega
 unfold Vi
 dsimp only
 rw[e,<- Dx,h,if_pos (by simp)]
def i4(prog:Bp)(w:World)(U:List (List Int))(h:Heap)(e:Int×Value):Prop:=∃(b:Addr) (a:List Int),e=(By (Ci prog w) a,.ref b)/\Gd (Ci prog w) h a b/\a∈U
structure SetT(prog:Bp)(w:World)(U:List (List Int))(h:Heap)(a:Addr)(es:Array (Int×Value))(ep:Nat)(t:Bc):Prop where
 obj:h.get? a=some (Fn es ep t)
 ent:∀e∈es.toList,i4 prog w U h e
 tab:Tab es.size t
 odd:t.mask % 2=1
 top:t.mask<8192
 few:es.size<=1100
 led:bt w=false->t.led=true
 nd:U.Nodup
 sz:es.size=U.length
 all:∀u∈U,∃e∈es.toList,∃b,e=(By (Ci prog w) u,Aq b)/\Gd (Ci prog w) h u b
 ways:FO t (es.toList.map (·.1))
def Kept(h h':Heap):Prop:=∀b o,o.cls=.type "set" \/ o.cls=.type "tuple" -> h.get? b=some o->h'.get? b=some o
def Ws(h h':Heap):Prop:=∀b o,o.cls=.type "tuple" -> h.get? b=some o->h'.get? b=some o
theorem Kept.t{h h':Heap}(k:Kept h h'):Ws h h':=λb o c e=>k b o (.inr c) e
theorem i4.keep{prog:Bp}{w:World}{U V:List (List Int)}{h h':Heap}{e:Int×Value}(x:i4 prog w U h e)(k:Ws h h')(s:∀y∈U,y∈V):i4 prog w V h' e:=by
 obtain ⟨b,d,e,⟨o,a,n,f,c,i,j⟩,g⟩:=x
 exact ⟨b,d,e,⟨o,a,n,k b o c f,c,i,j⟩,s _ g⟩
theorem Ug{prog:Bp}{w:World}{h h':Heap}{ks:List Int}{b:Addr}(x:Gd (Ci prog w) h ks b)(k:Ws h h'):Gd (Ci prog w) h' ks b:=by
 obtain ⟨o,a,n,d,c,e,f⟩:=x
 exact ⟨o,a,n,k b o c d,c,e,f⟩
theorem SetT.keep{prog:Bp}{w:World}{U:List (List Int)}{h h':Heap}{a:Addr}{es:Array (Int×Value)}{ep:Nat}{t:Bc}(S:SetT prog w U h a es ep t)(k:Kept h h'):SetT prog w U h' a es ep t :=
 ⟨k _ _ (.inl rfl) S.obj,λe c=>(S.ent e c).keep k.t λ_ z=>z,S.tab,S.odd,S.top,S.few,S.led,S.nd,S.sz,λu f=>by obtain ⟨e,c,b,d,x⟩:=S.all u f; exact ⟨e,c,b,d,Ug x k.t⟩,S.ways⟩
theorem dF{h h':Heap}{a:Addr}{o:Obj}(g:h.get? a=some o)(f:o.cls≠.type "tuple")(d:Fu a h h'):Ws h h':=λb i c e=>by
 by_cases z:b=a
 ·subst z
  rw[g] at e
  cases e
  exact absurd c f
 ·exact (d.2 b z).trans e
theorem dD{n:Nat}(h:n<=1200):n<=Bf:=by rw[Hq]; omega
section
variable{prog:Bp}{w:World}{A:Cw}{E:Value->Ak->Prop}{s:Ak}{U:List (List Int)}
theorem Ul{a:Addr}{es:Array (Int×Value)}{ep:Nat}{t:Bc}{Q:(Array (Int×Value)×Nat×Bc)->Ak->Prop}(S:SetT prog w U s.heap a es ep t)(h:Q (es,ep,t) s):wpAny (model prog w) A (setState a) Q E s :=
 Th S.obj rfl S.tab.fits h
theorem e8{ks:List Int}{a:Addr}{Q:Bool->Ak->Prop}(i:Gd (Ci prog w) s.heap ks a)(h:Q true s):wpAny (model prog w) A (To 8 (.ref a)) Q E s:=by
 have t:=i.typeIs
 obtain ⟨o,b,n,p,_,u,x⟩:=i
 unfold To
 refine Aa (wpAny_specialOf t F.slot_tuple_hash.lookup ?_)
 dsimp only
 refine Aa (wpAny_seqItems p u ?_)
 refine Aa ?_
 show wpAny _ _ (forIn b _ _) _ _ s
 rw[<- Array.forIn_toList]
 refine Vg _ (λGg r f=>r.1=none/\f=s/\∃l,ItemsAre (Ci prog w) l Gg) _ ?_ ?_ _ _ ⟨rfl,rfl,_,x⟩
 ·(intro v Gg r f e; obtain ⟨g,rfl,l,d⟩ := e)
  cases d with
  | @cons k G q y j B =>
   obtain ⟨c,rfl⟩ : ∃c,v=.int k c:=by
    cases v <;> simp [Ci,Rk] at j
    rename_i z c
    exact ⟨c,by rw[j]⟩
   refine Aa (m:=To 7 (.int k c)) (Iq (a:=true) (show To 7 (.int k c)=pure true by unfold To; rfl) ?_)
   simp only[Kf,Bt,if_false]
   exact Ag ⟨rfl,rfl,_,B⟩
 ·(rintro ⟨C,D⟩ f e; obtain ⟨g,rfl,_⟩ := e)
  simp only at g
  subst g
  exact Ag h
theorem iY{ks:List Int}{a:Addr}{Q:Bool->Ak->Prop}(i:Gd (Ci prog w) s.heap ks a)(h:Q false s):wpAny (model prog w) A (Og 8 (.ref a)) Q E s:=by
 have t:=i.typeIs
 obtain ⟨o,b,n,p,_,u,x⟩:=i
 unfold Og
 refine Aa (Mb t ?_)
 dsimp only
 rw[if_pos (by decide)]
 refine Aa (Ag ?_)
 simp only[Kf,Bt,if_false]
 refine Aa (wpAny_seqItems p u ?_)
 dsimp only
 refine Aa ?_
 show wpAny _ _ (forIn b _ _) _ _ s
 rw[<- Array.forIn_toList]
 refine Vg _ (λGg r f=>r.1=none/\f=s/\∃l,ItemsAre (Ci prog w) l Gg) _ ?_ ?_ _ _ ⟨rfl,rfl,_,x⟩
 ·(intro v Gg r f e; obtain ⟨g,rfl,l,d⟩ := e)
  cases d with
  | @cons k F q y j B =>
   obtain ⟨c,rfl⟩ : ∃c,v=.int k c:=by
    cases v <;> simp [Ci,Rk] at j
    rename_i z c
    exact ⟨c,by rw[j]⟩
   refine Aa (m:=Og 7 (.int k c)) (Iq (a:=false) (show Og 7 (.int k c)=pure false by unfold Og; rfl) ?_)
   simp only[Bt,if_false]
   exact Ag ⟨rfl,rfl,_,B⟩
 ·(rintro ⟨C,D⟩ f e; obtain ⟨g,rfl,_⟩ := e)
  simp only at g
  subst g
  exact Ag h
theorem W9{x:Addr}{m:List Int}{a:List Value}{Q:Bool->Ak->Prop}(k:Gd (Ci prog w) s.heap m x)(l:∀y∈a,∃b f,y=Aq b/\Gd (Ci prog w) s.heap f b)(h:Q false s):wpAny (model prog w) A (searchCouldBeSeen (.ref x) a) Q E s:=by
 unfold searchCouldBeSeen
 refine Aa ?_
 refine Vg _ (λGg r g=>r.1=none/\g=s/\∀y∈Gg,∃b f,y=Aq b/\Gd (Ci prog w) s.heap f b) _ ?_ ?_ _ _ ⟨rfl,rfl,l⟩
 ·(intro v Gg r g j; obtain ⟨i,rfl,d⟩ := j)
  obtain ⟨b,f,rfl,e⟩:=d _ (Ab ..)
  have c:=λy e=>d y (Ad _ e)
  dsimp only
  split
  ·exact Ag ⟨rfl,rfl,c⟩
  ·refine Aa (wpAny_eqIsQuiet_tuple k ?_)
   simp only[Kf,Bt,if_false]
   refine Aa (wpAny_eqIsQuiet_tuple e ?_)
   simp only[Kf,Bt,if_false]
   refine Aa (iY k ?_)
   simp only[Bt,if_false]
   refine Aa (iY e ?_)
   simp only[Bt,if_false]
   exact Ag ⟨rfl,rfl,c⟩
 ·(rintro ⟨n,o⟩ g j; obtain ⟨i,rfl,_⟩ := j)
  simp only at i
  subst i
  exact Ag h
def X6(prog:Bp)(w:World)(h:Heap)(es:Array (Int×Value))(t:Bc)(c:List Int)(p:Du):Prop :=
 ∃d i b,t.slot (Nz t d p).j=.live i/\es[i]? = some (By (Ci prog w) c,Aq b)/\Gd (Ci prog w) h c b/\∀a,a<d->t.slot (Nz t a p).j≠.empty
theorem oG{a:Addr}{d:List Int}{es:Array (Int×Value)}{ep:Nat}{t:Bc}(S:SetT prog w U s.heap a es ep t)(h:d∈U):X6 prog w s.heap es t d (t.probeStart (By (Ci prog w) d)):=by
 obtain ⟨e,r,b,j,x⟩:=S.all d h
 obtain ⟨i,l,g⟩:=List.getElem_of_mem r
 have c:i<es.size:=by rw[<- Af]; exact l
 have m:i<t.place.toList.length:=by rw[Af,S.tab.size]; exact c
 have p:((es.toList.map (·.1)).zip t.place.toList)[i]? = some (By (Ci prog w) d,t.place.toList[i]):=by
  rw[List.getElem?_zip_eq_some]
  refine ⟨?_,Bk m⟩
  rw[Br,Bk l,g,j]
  rfl
 obtain ⟨k,q,o⟩:=S.ways _ (Aw p)
 refine ⟨k,i,b,?_,?_,x,λn f=>?_⟩
 ·rw[q]
  exact qY S.tab.toTabOk (Bk m)
 ·rw[Cj c]
  have : es[i]=e:=by simpa using g
  rw[this,j]
 ·exact λz=>(Kk S.tab.toTabOk).mp z (o n f)
theorem aB{a x:Addr}{g:List Int}{es:Array (Int×Value)}{ep:Nat}{t:Bc}{Q:SetFound->Ak->Prop}(S:SetT prog w U s.heap a es ep t)(Y:A.units<cLine)(T:Gd (Ci prog w) s.heap g x)(h1:g∈U->Q (.there none) s)(h2:∀j,t.slot j=.empty->j<=t.mask->Zz t (·∈t.place.toList) (By (Ci prog w) g) j->g∉U->Q (.free j false) s):∀(fuel k:Nat) (d:Option Du),WayOk t (d.getD (t.probeStart (By (Ci prog w) g)))->k<fuel->k<10 * Dj t.mask->t.slot (Nz t k (d.getD (t.probeStart (By (Ci prog w) g)))).j=.empty->(∃o,Nz t o (t.probeStart (By (Ci prog w) g))=d.getD (t.probeStart (By (Ci prog w) g))/\∀r,r<o->t.slot (Nz t r (t.probeStart (By (Ci prog w) g))).j≠.empty)->(g∈U->X6 prog w s.heap es t g (d.getD (t.probeStart (By (Ci prog w) g))))->wpAny (model prog w) A (Uq a (.ref x) (By (Ci prog w) g) true fuel d) Q E s
 | 0,k,_,_,h,_,_,_,_=>absurd h (Dv _)
 | fuel+1,k,d,wo,hk,hk2,he,u,tgt=>by
  have gw:t.gaveWay=false:=by unfold SetTable.gaveWay; rw[S.odd]; rfl
  unfold Uq
  refine Aa (Ul S ?_)
  dsimp only
  rw[gw]
  simp only[Bt,if_false]
  obtain ⟨o,q,u⟩:=u
  have Z:∀{i:Nat} {b:Addr},es[i]? = some (By (Ci prog w) g,Aq b)->(es[i]?.map (·.1)).getD 0=By (Ci prog w) g:=λ{i b} e=>by rw[e]; rfl
  rcases oR S.tab.toTabOk (f:=λi=>(es[i]?.map (·.1)).getD 0) (h:=By (Ci prog w) g) (10 * Dj t.mask) k _ wo hk2 he with ⟨j,m,e,C,jm,F,H⟩ | ⟨j,i,m,r,e,C,ei,lt,M,X,F,H⟩
  ·have N:t.probe (λi=>(es[i]?.map (·.1)).getD 0) (By (Ci prog w) g) (d.getD (t.probeStart (By (Ci prog w) g)))=some (.empty j none):=e
   rw (transparency:=.all) [N]
   refine Ag (h2 j C jm ⟨o+m,by rw[Mi,q]; exact F,λr h0=>?_⟩ λL=>?_)
   ·refine Ea λz=>?_
    have P:=(Kk S.tab.toTabOk).mpr z
    by_cases c:r<o
    ·exact u r c P
    ·rw[show r=o+(r - o) by omega,Mi,q] at P
     exact (H _ (by omega)).1 P
   ·obtain ⟨v,i,b,p,B,W,R⟩:=tgt L
    rcases Nm v m with z | z | z
    ·exact (H v z).2 i p (Z B)
    ·subst z
     rw[F,C] at p
     cases p
    ·exact R m z (by rw[F]; exact C)
  ·have N:t.probe (λi=>(es[i]?.map (·.1)).getD 0) (By (Ci prog w) g) (d.getD (t.probeStart (By (Ci prog w) g)))=some (.candidate j i (Nz t (m+1) (d.getD (t.probeStart (By (Ci prog w) g))))):=e
   rw (transparency:=.all) [N]
   dsimp only
   have hi:=wM S.tab.toTabOk C
   have D:es[i]? = some es[i]:=Cj hi
   obtain ⟨b,ky,V,J,L⟩:=S.ent es[i] (by simp)
   have Gg:wpAny (model prog w) A (do
     let some (_,y):=es[i]? | unsupported "internal:set-entry"
     let equal <- Wi [y] (eqBool y (.ref x))
     let (es',_,t') <- setState a
     if true && equal then return .there none
     let some same:=t'.sameMemory t.moves t.mask | unsupported "set.changed-during-lookup:is-the-new-block-at-the-old-address"
     let still <- match (if same then t'.slot j else .empty) with
      | .live I=>match es'[I]? with
       | some (_,y')=>do pure (if <- isSame y' y then some I else none)
       | none=>pure none
      | _=>pure none
     match still with
     | none=>rule "set.search.anew"; Uq a (.ref x) (By (Ci prog w) g) true fuel none
     | some I=>if equal then return .there (some I) else Uq a (.ref x) (By (Ci prog w) g) true fuel (some (Nz t (m+1) (d.getD (t.probeStart (By (Ci prog w) g)))))) Q E s:=by
    rw[D,V]
    dsimp only
    refine Aa (Dn (wpAny_eqBool_tuple Y J T ?_))
    refine Aa (Ul S ?_)
    dsimp only
    by_cases c:ky=g
    ·rw[decide_eq_true c,if_pos (by decide)]
     exact Ag (h1 (by rw[<- c]; exact L))
    ·rw[decide_eq_false c,if_neg (by decide)]
     have sm:t.sameMemory t.moves t.mask=some true:=by unfold SetTable.sameMemory; rw[if_pos (by simp)]
     rw[sm]
     dsimp only
     rw[if_pos rfl,C]
     dsimp only
     rw[D,V]
     dsimp only
     refine Aa (wpAny_isSame_ref_self (Aa (Ag ?_)))
     rw[if_pos rfl]
     dsimp only
     rw[if_neg (by decide)]
     refine aB S Y T h1 h2 fuel r (some (Nz t (m+1) (d.getD (t.probeStart (By (Ci prog w) g))))) M (by omega) (by omega) X ⟨o+(m+1),by rw[Mi,q]; rfl,λn G z=>?_⟩ λO=>?_
     ·by_cases c:n<o
      ·exact u n c z
      ·rw[show n=o+(n - o) by omega,Mi,q] at z
       by_cases c2:n - o<m
       ·exact (H _ c2).1 z
       ·rw[show n - o=m by omega,F,C] at z
        cases z
     ·obtain ⟨v,i0,b0,p,B,W,R⟩:=tgt O
      rcases Nm v m with z | z | z
      ·exact absurd (Z B) ((H v z).2 i0 p)
      ·subst z
       rw[F,C] at p
       injection p with p
       subst p
       rw[D,V] at B
       injection B with B
       injection B with a21 a22
       injection a22 with a22
       subst a22
       exact absurd (J.inj W) c
      ·refine ⟨v - (m+1),i0,b0,?_,B,W,λn G=>?_⟩
       ·show t.slot (Nz t (v - (m+1)) (Nz t (m+1) _)).j=_
        rw[<- Mi,show m+1+(v - (m+1))=v by omega]
        exact p
       ·show t.slot (Nz t n (Nz t (m+1) _)).j≠_
        rw[<- Mi]
        exact R _ (by omega)
   by_cases l:t.led=true
   ·rw[l]
    simp only[Kf,Bt,if_false]
    exact Gg
   ·rw[fM] at l
    rw[l]
    simp only[Bool.not_false,if_true]
    refine Aa (W9 T (λy J=>?_) ?_)
    ·obtain ⟨e0,K,rfl⟩:=Bl.mp J
     obtain ⟨b',n,rfl,h3,_⟩:=S.ent e0 (by
      have:=Array.mem_def.mp (Array.mem_filter.mp (Array.mem_def.mpr K)).1
      exact this)
     exact ⟨b',n,rfl,h3⟩
    ·simp only[Bt,if_false]
     exact Gg
theorem xS{a x:Addr}{c:List Int}{es:Array (Int×Value)}{ep:Nat}{t:Bc}{Q:SetFound->Ak->Prop}(S:SetT prog w U s.heap a es ep t)(g:A.units<cLine)(i:Gd (Ci prog w) s.heap c x)(h1:c∈U->Q (.there none) s)(l:∀j,t.slot j=.empty->j<=t.mask->Zz t (·∈t.place.toList) (By (Ci prog w) c) j->c∉U->Q (.free j false) s)(b k:Nat)(e:k<b)(d:k<10 * Dj t.mask)(f:t.slot (Nz t k (t.probeStart (By (Ci prog w) c))).j=.empty):wpAny (model prog w) A (Uq a (.ref x) (By (Ci prog w) c) true b none) Q E s :=
 aB S g i h1 l b k none (Ua _) e d f ⟨0,rfl,λm z=>absurd z (Dv _)⟩ λh=>oG S h
end
section
variable{prog:Bp}{w:World}{A:Cw}{E:Value->Ak->Prop}{s:Ak}{U:List (List Int)}
theorem LM{t:Bc}{es:Array (Int×Value)}(x:Tab es.size t)(e:Int×Value){j:Nat}(i:j∉t.place.toList)(g:j<=t.mask)(h:FO t (es.toList.map (·.1)))(l:Zz t (·∈t.place.toList) e.1 j):∃b p,t.put j=(b,p)/\(Bz es p e).toList.Perm (es.toList++[e])/\(Bz es p e).size=es.size+1/\TabOk (es.size+1) b/\b.mask=t.mask/\b.plain=true/\b.led=t.led/\FO b ((Bz es p e).toList.map (·.1)):=by
 have m:=Uh x
 have perm:=Jo es (Be t.place j) e
 rw[Fp] at perm
 have size:(Bz es (Be t.place j) e).size=es.size+1:=by
  rw[<- Af,perm.length_eq,Bh,Af]
  rfl
 have c:=Jo t.place (Be t.place j) j
 rw[Fp] at c
 have a:(Bz t.place (Be t.place j) j).size=es.size+1:=by
  rw[<- Af,c.length_eq,Bh,Af,x.size]
  rfl
 have d:Yg t.dummies j=false:=by rw[x.dum]; rfl
 have ok:TabOk (es.size+1) { t with place:=Bz t.place (Be t.place j) j } :=
  ⟨x.good,x.dum,x.plain,Zx x.rise i,λe k=>by
   rcases Ba.mp (c.mem_iff.mp k) with z | z
   ·exact x.top e z
   ·rw[Al.mp z]; exact g,a⟩
 refine ⟨{ t with place:=Bz t.place (Be t.place j) j },Be t.place j,?_,perm,size,ok,rfl,x.plain,rfl,?_⟩
 ·unfold SetTable.put
  simp only[d,Bt,if_false]
 ·have f:(Bz es (Be t.place j) e).toList=es.toList.take (Be t.place j)++e::es.toList.drop (Be t.place j):=by
   have z:=Qn es (Be t.place j) e
   first | exact z | (rw[z]; simp)
  rw[f,Bn,Au,Yl,Ym]
  exact h.put (by rw[Ac,Af,x.size]) l
theorem sW{a:Addr}{es:Array (Int×Value)}{ep:Nat}{t:Bc}{wanted:Nat}{Q:Unit->Ak->Prop}(g:s.heap.get? a=some (Fn es ep t))(l:∀e∈es.toList,i4 prog w U s.heap e)(ok:TabOk es.size t)(le:es.size<=t.mask)(o:es.size<=1100)(led:bt w=false->t.led=true)(q:U.Nodup)(m:es.size=U.length)(f:∀u∈U,∃e∈es.toList,∃b,e=(By (Ci prog w) u,Aq b)/\Gd (Ci prog w) s.heap u b)(hw:wanted<8192)(I:es.size * 2<=wanted)(h:∀c j t' h',Fu a s.heap h'->SetT prog w U h' a c j t'->c.size=es.size->c.toList.Perm es.toList->Q () { s with heap:=h' }):wpAny (model prog w) A (setRelay a wanted) Q E s:=by
 obtain ⟨t',order,i,y,B,D,J,F⟩:=wV (es:=es) ok.plain hw I
 obtain ⟨n,d⟩:=J1 es y
 have mk:t'.mask<8192:=by
  unfold SetTable.relaid at i
  rw[(Wz i).2.1]
  omega
 unfold setRelay
 refine Aa (Th g rfl (ok.fits le) ?_)
 dsimp only
 rw[if_neg (by rw[Hq]; omega),i]
 refine Aa ?_
 show wpAny (model prog w) A (do
  if (order.filterMap (es[·]?)).size != es.size then unsupported "internal:set-table-lost-an-element"
  pure (order.filterMap (es[·]?),t')) _ _ _
 rw[if_neg (by rw[d]; simp)]
 refine Ag ?_
 dsimp only
 refine Oe g rfl ?_ (dD (by rw[d]; omega))
 have r:=Bs s.heap a (aS (order.filterMap (es[·]?)) t')
 have v:Ws s.heap _:=dF g (by show Ed "set" ≠ Ed "tuple"; decide) r
 exact h _ _ _ _ r ⟨Wy g _ _,λe p=>(l e (n.mem_iff.mp p)).keep v λ_ z=>z,by rw[d]; exact B,D,mk,by rw[d]; exact o,λz=>by rw[F]; exact led z,q,by rw[d]; exact m,λu C=>by obtain ⟨e,p,b,H,x⟩:=f u C; exact ⟨e,n.mem_iff.mpr p,b,H,Ug x v⟩,by rw[qN,oS _ λk G=>Cu.mp (y.mem_iff.mp G)]; exact yI i⟩ d n
theorem T5{a x:Addr}{c:List Int}{es:Array (Int×Value)}{ep:Nat}{t:Bc}{Q:Bool->Ak->Prop}(S:SetT prog w U s.heap a es ep t)(hn:es.size<1100)(hu:A.units<cLine)(F:Gd (Ci prog w) s.heap c x)(h0:c∈U->Q false s)(h:∀d m t' h',c∉U->Fu a s.heap h'->SetT prog w (c::U) h' a d m t'->(d.toList.map (·.2)).Perm (es.toList.map (·.2)++[Aq x])->Q true { s with heap:=h' }):wpAny (model prog w) A (jH a (.ref x) (By (Ci prog w) c)) Q E s:=by
 unfold jH setAddHashedIn
 refine Dn (Aa (Ul S ?_))
 dsimp only
 rw[if_neg (show ¬ (byScan (.ref x) es=true) from λz=>by simp [byScan,Value.scannable] at z)]
 obtain ⟨k,T,n⟩:=wU S.tab (By (Ci prog w) c)
 have G:k<100000:=by
  have:=S.top
  unfold Dj at T
  omega
 unfold setSearch
 refine Aa (xS S hu F (λR=>?_) (λj W jm Y O=>?_) 100000 k G T n)
 ·dsimp only
  refine Ag ?_
  exact h0 R
 ·dsimp only
  refine Aa (Ul S ?_)
  dsimp only
  obtain ⟨i,p,e1,C,L,f,V,I,v,J⟩:=LM S.tab (By (Ci prog w) c,Aq x) ((Kk S.tab.toTabOk).mp W) jm S.ways Y
  rw[e1]
  dsimp only
  rw[I,if_pos rfl]
  refine Aa (e8 F ?_)
  rw[if_pos rfl]
  have N:(Bz es p (By (Ci prog w) c,Aq x)).size<=1200:=by omega
  refine Aa (Oe S.obj rfl ?_ (dD N))
  have K:=Bs s.heap a (aS (Bz es p (By (Ci prog w) c,Aq x)) i)
  have M:Ws s.heap _:=dF S.obj (by show Ed "set" ≠ Ed "tuple"; decide) K
  have y:∀e∈(Bz es p (By (Ci prog w) c,Aq x)).toList,i4 prog w (c::U) s.heap e:=λe n=>by
   rcases Ba.mp (C.mem_iff.mp n) with z | z
   ·exact (S.ent e z).keep (λ_ _ _ z=>z) λ_ z=>Ad _ z
   ·rw[Al.mp z]; exact ⟨x,c,rfl,F,Ab ..⟩
  have P:=Wy S.obj (Bz es p (By (Ci prog w) c,Aq x)) i
  have g:=λe n=>(y e n).keep M λ_ z=>z
  have R:=Uh S.tab
  have B:(c::U).Nodup:=Cg.mpr ⟨O,S.nd⟩
  have r:(Bz es p (By (Ci prog w) c,Aq x)).size=(c::U).length:=by rw[L,S.sz,Bd]
  have l:∀u∈c::U,∃e∈(Bz es p (By (Ci prog w) c,Aq x)).toList,∃b,e=(By (Ci prog w) u,Aq b)/\Gd (Ci prog w) _ u b:=λu hu=>by
   rcases An.mp hu with rfl | hu
   ·exact ⟨_,C.mem_iff.mpr (Av _ (Al.mpr rfl)),x,rfl,Ug F M⟩
   ·obtain ⟨e,n,b,eb,q⟩:=S.all u hu
    exact ⟨e,C.mem_iff.mpr (Ap _ n),b,eb,Ug q M⟩
  have pv:((Bz es p (By (Ci prog w) c,Aq x)).toList.map (·.2)).Perm (es.toList.map (·.2)++[Aq x]):=by
   have:=C.map (·.2)
   rw[Bn] at this
   exact this
  by_cases D:i.tooFull=true
  ·rw[D,if_pos (by decide)]
   have gr:Po (es.size+1)=(es.size+1) * 4:=by unfold Po; rw[if_neg (by omega)]
   rw[gr]
   refine Aa (sW P g (by rw[L]; exact f) (by omega) (by omega) (λz=>by rw[v]; exact S.led z) B r l (by omega) (by omega) λd m t' h' H Z zz X=>Ag ?_)
   exact h d m t' h' O (K.trans H) Z ((X.map (·.2)).trans pv)
  ·have o:(es.size+1) * 5<i.mask * 3:=by
    have : ¬ (i.fill * 5 ≥ i.mask * 3):=λz=>D (by unfold SetTable.tooFull; exact decide_eq_true z)
    have e:i.fill=es.size+1:=by
     unfold Vj
     rw[f.dum,f.size]
     rfl
    omega
   rw[fM] at D
   rw[D]
   simp only[Qp,Bt,if_false]
   refine Ag ?_
   exact h _ _ i _ O K ⟨P,g,by rw[L]; exact ⟨f,o⟩,by rw[V]; exact S.odd,by rw[V]; exact S.top,by omega,λz=>by rw[v]; exact S.led z,B,r,l,J⟩ pv
end
section
variable{prog:Bp}{w:World}{A:Cw}{R:Result->Ak->Prop}
def Xo(prog:Bp)(w:World)(h:Heap)(vs:List Value)(ws:List (List Int)):Prop:=vs.length=ws.length/\∀(i:Nat) (a:i<vs.length) (c:i<ws.length),∃b,vs[i]=Aq b/\Gd (Ci prog w) h ws[i] b
theorem Xo.keep{h h':Heap}{vs:List Value}{ws:List (List Int)}(x:Xo prog w h vs ws)(k:Ws h h'):Xo prog w h' vs ws :=
 ⟨x.1,λi a c=>by obtain ⟨b,e,z⟩:=x.2 i a c; exact ⟨b,e,Ug z k⟩⟩
theorem wX{a it l:Addr}(n1:a≠it)(n2:a≠l)(n3:l≠it){d:Array Value}{ws:List (List Int)}(h5:ws.length<=1100)(hh:A.in1.handled=none)(hu:A.in1.units<cLine):∀(k i:Nat) (s:Ak) (es:Array (Int×Value)) (ep:Nat) (t:Bc) (U:List (List Int)),d.size - i=k->i<=d.size->s.heap.IsListIter it l i->s.heap.IsList l d->Xo prog w s.heap d.toList ws->SetT prog w U s.heap a es ep t->es.size<=i->(∀x,x∈U↔x∈ws.take i)->(ws.Nodup->(es.toList.map (·.2)).Perm (d.toList.take i))->(∀v∈es.toList.map (·.2),v∈d.toList)->(∀C X t' h' I V,(∀b o,b≠a->b≠it->s.heap.get? b=some o->h'.get? b=some o)->SetT prog w V h' a C X t'->(∀x,x∈V↔x∈ws)->(ws.Nodup->(C.toList.map (·.2)).Perm d.toList)->(∀v∈C.toList.map (·.2),v∈d.toList)->R (.ok (.ret .none)) { s with heap:=h',toks:=I })->Na (model prog w) A (.builtin "set.update.loop" ⟨[.ref a,.ref it],[]⟩) R s:=by
 intro k
 induction k with
 | zero =>
  intro i s es ep t U hk hi m N H S hz D Q K W
  have len:d.size=ws.length:=by rw[<- H.1,Af]
  have e:i=d.size:=by omega
  refine Ff Eg ?_
  rw[Er Cq _]
  show wpAny _ A.in1 (Nk (.ref it) >>= _) _ _ s
  refine Aa (Yj hh m N (by rw[e]; simp) λh' x=>?_)
  have kp:Kept s.heap h':=λb o c q=>by
   refine x b o (λz=>?_) q
   subst z
   obtain ⟨o',u,c',_⟩:=m
   rw[u] at q
   cases q
   rw[c'] at c
   rcases c with c | c <;> exact absurd c (by decide)
  have S':=S.keep kp
  refine Ag (W es ep t h' s.toks U (λb o _ q e=>x b o q e) S' (λx=>?_) (λz=>?_) K)
  ·rw[D x,Eu (by omega)]
  ·have q:=Q z
   rw[e,Eu (by rw[Af]; exact Ah _)] at q
   exact q
 | succ k ih =>
  intro i s es ep t U hk hi m N H S hz D Q K W
  have len:d.size=ws.length:=by rw[<- H.1,Af]
  have lt:i<d.size:=by omega
  have p:i<ws.length:=by omega
  obtain ⟨b,O,hx⟩:=H.2 i (by rw[Af]; exact lt) p
  have h4:d[i]=Aq b:=by simpa using O
  refine Ff Eg ?_
  rw[Er Cq _]
  show wpAny _ A.in1 (Nk (.ref it) >>= _) _ _ s
  refine Aa (Wg m N (x:=d[i]) (by simp [lt]) λB F y=>?_)
  rw[h4]
  show wpAny _ A.in1 (Wi [Aq b] (setAdd a (.ref b)) >>= _) _ _ _
  refine Aa (Dn ?_)
  unfold setAdd
  have kp:Kept s.heap B:=λb o c q=>by
   refine (y.2 b λz=>?_).trans q
   subst z
   obtain ⟨o',u,c',_⟩:=m
   rw[u] at q
   cases q
   rw[c'] at c
   rcases c with c | c <;> exact absurd c (by decide)
  have S1:=S.keep kp
  have E:=Ug hx kp.t
  refine Dn (Aa (wpAny_pyHash_tuple (s:={ s with heap:=B }) hu E ?_))
  have kt:∀(n:Heap) (f:Array (Int×Value)) (h:Nat) (G:Bc) (V:List (List Int)),Fu a B n->SetT prog w V n a f h G->f.size<=i+1->(∀x,x∈V↔x∈ws.take (i+1))->(ws.Nodup->(f.toList.map (·.2)).Perm (d.toList.take (i+1)))->(∀v∈f.toList.map (·.2),v∈d.toList)->∀I,Na (model prog w) A (.builtin "set.update.loop" ⟨[.ref a,.ref it],[]⟩) R { s with heap:=n,toks:=I }:=λn f h G V g L l2 u2 M w2 I=>by
   have P:Ws B n:=dF S1.obj (by show Ed "set" ≠ Ed "tuple"; decide) g
   refine ih (i+1) { s with heap:=n,toks:=I } f h G V (by omega) lt ?_ ?_ (H.keep λb o c e=>P b o c (kp.t b o c e)) L l2 u2 M w2 λT Y t3 h3 h0 V3 k3 S3 u3 g3 w3=>?_
   ·obtain ⟨o,Z,r⟩:=F
    exact ⟨o,(g.2 it (Kx n1)).trans Z,r⟩
   ·obtain ⟨o,Z,r⟩:=N
    exact ⟨o,(g.2 l (Kx n2)).trans ((y.2 l n3).trans Z),r⟩
   ·exact W T Y t3 h3 h0 V3 (λb o q1 q2 e=>k3 b o q1 q2 ((g.2 b q1).trans ((y.2 b q2).trans e))) S3 u3 g3 w3
  have J:=Gi p
  refine T5 (s:={ s with heap:=B,toks:=s.toks+(ws[i].length+1) }) S1 (by omega) hu E (λhm=>?_) λf h G n nk g L M=>?_
  ·refine Ag ⟨Mr Cq _,?_⟩
   refine kt B es ep t U (Heap.SameBut.refl a B) S1 (by omega) (λx=>?_) (λz=>?_) K _
   ·rw[J,Ba,Al,D x]
    exact ⟨.inl,λq=>q.elim id λq=>by rw[q]; exact (D _).mp hm⟩
   ·obtain ⟨j,hj,ej⟩:=Rm.mp ((D _).mp hm)
    exact absurd ej (Bx.mp z j i (by omega) p (by omega))
  ·refine Ag ⟨Mr Cq _,?_⟩
   refine kt n f h G (ws[i]::U) g L (by rw[L.sz,Bd,<- S.sz]; omega) (λx=>?_) (λz=>?_) (λv hv=>?_) _
   ·rw[J,Ba,Al,An,D x]
    exact Or.comm
   ·rw[Gi (by rw[Af]; exact lt),show d.toList[i]=Aq b from O]
    exact M.trans ((Q z).append_right _)
   ·rcases Ba.mp (M.mem_iff.mp hv) with q | q
    ·exact K v q
    ·rw[Al.mp q,<- O]
     exact Fb _
end
section
variable{prog:Bp}{w:World}{A:Cw}{E:Value->Ak->Prop}{s:Ak}
theorem sU{h:Heap}:SetT prog w [] (h.push (Fn #[] 0 (.fresh 0 0 (!bt w)))) h.objs.size #[] 0 (.fresh 0 0 (!bt w)) :=
 ⟨Bi _ rfl,(λe b=>by simp at b),⟨⟨uQ,rfl,rfl,Dz,(λj c=>by simp [SetTable.fresh] at c),rfl⟩,by show 0 * 5<7 * 3; decide⟩,by show 7 % 2=1; decide,by show 7<8192; decide,by show 0<=1100; decide,λz=>by show (!bt w)=true; rw[z]; rfl,Do,rfl,λu d=>by simp at d,λx a=>by simp at a⟩
theorem E4{l:Addr}{a:Array Value}{ws:List (List Int)}{Q:Value->Ak->Prop}(T:A.handled=none)(hu:A.units+64<cLine)(hl:s.heap.IsList l a)(hw:Xo prog w s.heap a.toList ws)(D:ws.length<=1100)(h:∀es ep t h' g U,(∀b o,s.heap.get? b=some o->h'.get? b=some o)->SetT prog w U h' s.heap.objs.size es ep t->(∀x,x∈U↔x∈ws)->(ws.Nodup->(es.toList.map (·.2)).Perm a.toList)->(∀v∈es.toList.map (·.2),v∈a.toList)->Q (.ref s.heap.objs.size) { s with heap:=h',toks:=g }):wpAny (model prog w) A (call (.type "set") [.ref l]) Q E s:=by
 obtain ⟨c,tl,N⟩:=PySem.F.called_set.mro
 have k:=PySem.F.called_set.made
 have O:=PySem.F.called_set.sub
 have h1:=PySem.F.called_set.notType
 have h2:=PySem.F.called_set.canCreate
 have P:=PySem.F.typeCall_set_1 (.ref l)
 refine wpAny_call (Qr (show wpAny _ _ (callAny (.type "set") _) _ _ _ from ?_))
 refine Ag ⟨Zs _ (by decide +kernel),Ff PySem.F.entry_type_call ?_⟩
 rw[Yi (Yk "set" [.ref l] []) rfl]
 repeat (any_goals (first | assumption | wp_step))
 refine Jj (cU (.ref l) (E:=E) (Q:=λv K=>v=.ref s.heap.objs.size/\K={ s with heap:=s.heap.push (Fn #[] 0 (.fresh 0 0 (!bt w))) }) ⟨rfl,rfl⟩) λr K d=>?_
 rcases r with e | (_ | _ | _ | v)
 ·exact d
 ·exact d.elim
 ·exact d.elim
 ·exact d.elim
 obtain ⟨rfl,rfl⟩:=d
 have I:=sU (prog:=prog) (w:=w) (h:=s.heap)
 have Z:Shared.TypeIs { s with heap:=s.heap.push (Fn #[] 0 (.fresh 0 0 (!bt w))) } (.ref s.heap.objs.size) "set" := ⟨_,I.obj,rfl⟩
 have X:=PySem.F.called_set.init.lookup
 have h0:=PySem.F.called_set.init.bind (.ref s.heap.objs.size)
 repeat (any_goals (first | assumption | wp_step))
 refine Jj (aQ (R:=wants (λr J=>r=.none/\∃es ep t h' g U,J={ s with heap:=h',toks:=g }/\(∀b o,s.heap.get? b=some o->h'.get? b=some o)/\SetT prog w U h' s.heap.objs.size es ep t/\(∀x,x∈U↔x∈ws)/\(ws.Nodup->(es.toList.map (·.2)).Perm a.toList)/\(∀v∈es.toList.map (·.2),v∈a.toList)) E)
  PySem.F.called_set.init.plain PySem.F.entry_set_init (mT Z ?_)) λr J d=>?_
 ·obtain ⟨⟨V,od,B,S⟩,L,Y,n,hd⟩:=id hl
  have C:V=.type "list" := Y
  have z:B=.seq a n:=hd
  subst C z
  have j:=Aj (Fn #[] 0 (.fresh 0 0 (!bt w))) L
  have u:(s.heap.push (Fn #[] 0 (.fresh 0 0 (!bt w)))).IsList l a:=⟨_,j,rfl,n,rfl⟩
  have f1:=PySem.F.sub_list_set
  have f2:=PySem.F.sub_list_frozenset
  have f3:(Ed "list" == Ed "dict")=false:=by decide
  have lt:=Bm L
  unfold Builtin.«set.__init__» noKeywords Me
  generalize p:pyIter=PI
  wp_walk
  subst p
  refine Tj u (Aa (aM ?_))
  have sz:(s.heap.push (Fn #[] 0 (.fresh 0 0 (!bt w)))).objs.size=s.heap.objs.size+1:=We _ _
  have g1:((s.heap.push (Fn #[] 0 (.fresh 0 0 (!bt w)))).push { cls:=.type "list_iterator",data:=.fields #[.ref l,.int 0 0] }).get? (s.heap.push (Fn #[] 0 (.fresh 0 0 (!bt w)))).objs.size=some { cls:=.type "list_iterator",data:=.fields #[.ref l,.int 0 0] }:=Bi _ rfl
  have H:Ws s.heap ((s.heap.push (Fn #[] 0 (.fresh 0 0 (!bt w)))).push { cls:=.type "list_iterator",data:=.fields #[.ref l,.int 0 0] }):=λb o _ e=>Aj _ (Aj _ e)
  refine wX (by rw[sz]; exact Ck (Oh _)) (bW lt) (by rw[sz]; exact Ck (Ho lt)) D (by simp [T]) (by simp; omega) (a.size - 0) 0 _ #[] 0 (.fresh 0 0 (!bt w)) [] rfl (Ds _) ⟨_,g1,rfl,rfl⟩ ⟨_,Aj _ j,rfl,n,rfl⟩
   (hw.keep H) (I.keep λb o _ q=>Aj _ q) (Ds _) (λx=>Iff.rfl) (λ_=>Gw _) (λv W=>nomatch W) λes ep t h' g U m G y f i=>?_
  refine Ag (Ag ⟨rfl,es,ep,t,h',g,U,rfl,λb o e=>?_,G,y,f,i⟩)
  ·have M:=Bm e
   exact m b o (Ck M) (by rw[sz]; exact Ck (Ho M)) (Aj _ (Aj _ e))
 ·rcases r with e | (_ | _ | _ | v)
  ·exact d
  ·exact d.elim
  ·exact d.elim
  ·exact d.elim
  obtain ⟨rfl,es,ep,t,h',g,U,rfl,m,G,y,f,i⟩:=d
  repeat (any_goals (first | assumption | wp_step))
  exact h es ep t h' g U m G y f i
end
end NdS
namespace Nd
open PySem PySem.Spec PyProof.Rows L2 NdS
theorem dQ{prog:Bp}{w:World}:∀{ns:List Int} {vs:List Value},Fz (ns.map V.int) vs->ItemsAre (Ci prog w) ns vs
 | [],_,h=>by cases h; exact .nil
 | n::ns,_,h=>by
  cases h with
  | cons a t =>
   obtain ⟨b,rfl⟩:=a
   exact .cons (fS _ _ _ _) (dQ t)
theorem vL:∀{b:List Addr} {vs:List Value},Fz (b.map V.ref) vs->vs=b.map Aq
 | [],_,h=>by cases h; rfl
 | r::b,_,h=>by
  cases h with
  | cons a t =>
   cases a
   rw[vL t]
   rfl
theorem Pz{d:Type}[DecidableEq d]:∀{l1 l2:List d},l1.Nodup->(∀e∈l1,e∈l2)->l1.length<=l2.length
 | [],_,_,_=>Ds _
 | a::l1,l2,nd,h=>by
  have b:=Cg.mp nd
  have f:=h a (Ab ..)
  have:=Pz (l2:=l2.erase a) b.2 λe c=>(Ot (show e≠a from λz=>b.1 (by rw[<- z]; exact c))).mpr (h e (Ad _ c))
  rw[Lz f] at this
  have p:0<l2.length:=Nf f
  rw[Bd]
  omega
theorem oW{e:Type}[DecidableEq e]:∀{l:List e},¬ l.Nodup->∃x∈l,x∈l.erase x
 | [],h=>absurd Do h
 | a::l,h=>by
  by_cases c:a∈l
  ·exact ⟨a,Ab ..,by rw[List.erase_cons_head]; exact c⟩
  ·obtain ⟨x,d,b⟩:=oW (l:=l) λz=>h (Cg.mpr ⟨c,z⟩)
   have f:¬ (a == x)=true:=λz=>c (by rw[show a=x by simpa using z]; exact d)
   exact ⟨x,Ad _ d,by rw[List.erase_cons_tail f]; exact Ad _ b⟩
theorem Sv{i:Type}[DecidableEq i]{U ws:List i}(d:U.Nodup)(h:∀x,x∈U↔x∈ws):U.length<=ws.length/\(U.length=ws.length↔ws.Nodup):=by
 have f:=Pz d λe a=>(h e).mp a
 refine ⟨f,λe=>Ea λz=>?_,λj=>Nat.le_antisymm f (Pz j λe a=>(h e).mpr a)⟩
 obtain ⟨x,g,b⟩:=oW z
 have:=Pz (l2:=ws.erase x) d λe a=>by
  by_cases c:e=x
  ·rw[c]; exact b
  ·exact (Ot c).mpr ((h e).mp a)
 rw[Lz g] at this
 have p:0<ws.length:=Nf g
 omega
end Nd
namespace Nd
open PySem L2
end Nd
namespace DL
open PySem PySem.Spec PyProof.Rows L2 Nd
end DL
namespace NdW
open PySem PyProof.Rows NdS
structure SetW(w:World)(h:Heap)(a:Addr)(es:Array (Int×Value))(ep:Nat)(t:Bc):Prop where
 obj:h.get? a=some (Fn es ep t)
 tab:Tab es.size t
 led:bt w=false->t.led=true
 few:es.size<=1100
theorem SetW.keep{w:World}{h h':Heap}{a:Addr}{es:Array (Int×Value)}{ep:Nat}{t:Bc}(S:SetW w h a es ep t)(k:∀o,h.get? a=some o->h'.get? a=some o):SetW w h' a es ep t:=⟨k _ S.obj,S.tab,S.led,S.few⟩
section
variable{prog:Bp}{w:World}{A:Cw}{E:Value->Ak->Prop}{s:Ak}
theorem SetW.ty{a:Addr}{es:Array (Int×Value)}{ep:Nat}{t:Bc}(S:SetW w s.heap a es ep t):s.TypeIs (.ref a) "set" := ⟨_,S.obj,rfl⟩
theorem Hk{a:Addr}{es:Array (Int×Value)}{ep:Nat}{t:Bc}{Q:(Array (Int×Value)×Nat×Bc)->Ak->Prop}(S:SetW w s.heap a es ep t)(h:Q (es,ep,t) s):wpAny (model prog w) A (setState a) Q E s :=
 Th S.obj rfl S.tab.fits h
theorem lN{a:Addr}{es:Array (Int×Value)}{ep:Nat}{t:Bc}{Q:Array (Int×Value)->Ak->Prop}(S:SetW w s.heap a es ep t)(h:Q (if bt w then bF (w.params.setOrder a ep) es else es) s):wpAny (model prog w) A (setWalk a) Q E s:=by
 unfold setWalk
 refine Aa (Hk S ?_)
 dsimp only
 refine Aa (Pa ?_)
 cases j:bt w with
 | true =>
  rw[j] at h
  rw[if_pos rfl] at h ⊢
  exact Aa (Vh (Ag h))
 | false =>
  have n:=S.led j
  have o:=S.tab.plain
  rw[j] at h
  obtain ⟨l,g,c,d,i,k,b⟩:=t
  have e:i=true:=n
  have f:b=true:=o
  subst e f
  exact Aa (m:=(pure ():Sem Unit)) (Ag (Ag h))
end
def Tf(w:World)(I a:Addr)(es:Array (Int×Value))(ep:Nat)(t:Bc)(i:Nat)(h:Heap):Prop :=
 (∃f,h.get? I=some (aJ f i a es.size ep)/\(bt w=false->Be t.place f=i))/\SetW w h a es ep t
section
variable{prog:Bp}{w:World}{A:Cw}{E:Value->Ak->Prop}{s:Ak}
theorem lV{a:Addr}{es:Array (Int×Value)}{ep:Nat}{t:Bc}{Q:Value->Ak->Prop}(S:SetW w s.heap a es ep t)(h:Q (.ref s.heap.objs.size) { s with heap:=s.heap.push (aJ 0 0 a es.size ep) }):wpAny (model prog w) A (pyIter (.ref a)) Q E s:=by
 refine Ti S.ty PySem.F.slot_set_iter (Es PySem.F.slot_set_iter S.ty cH ?_ (PySem.F.args_set_iter_1 _))
 unfold Builtin.«frozenset.__iter__»
 refine Aa (m:=Yh "__iter__" ⟨[.ref a],[]⟩) (Iq (a:=a) rfl ?_)
 unfold Wk Lv setDrawn setEpoch
 refine Aa (Aa (Aa (Hk S (Ag (Ag ?_)))))
 refine Aa (Aa (Hk S ?_))
 dsimp only
 refine Aa (Pa (Ag ?_))
 have p:=S.tab.plain
 have b:wpAny (model prog w) A.in1 (do
   let first <- (pure (Ic 0):Sem Value)
   ret (<- newFields "set_iterator" [first,Ic 0,.ref a,Ic es.size,Ic (<- (do return (<- setState a).2.1))])) (λg l=>∃v,g=.done (.ret v)/\∃k r,l.TypeIs v k/\typeLookup (.type k) "__next__" = pure (some r)/\Q v l) E s:=by
  refine Aa (Ag ?_)
  refine Aa (Aa (Hk S (Ag ?_)))
  refine Aa (Dy (Ag ⟨_,rfl, "set_iterator",_,⟨_,Bi _ rfl,rfl⟩,Lr.lookup,h⟩))
 obtain ⟨n,i,d,e,o,j,c⟩:=t
 have f:c=true:=p
 subst f
 cases q:bt w with
 | true=>exact b
 | false=>exact b
theorem Pf{a:Addr}{es:Array (Int×Value)}{ep f i:Nat}{t:Bc}{Q:Option (Value×Nat)->Ak->Prop}(S:SetW w s.heap a es ep t)(B:bt w=false->Be t.place f=i)(h1:∀(b:i<es.size) u,(bt w=false->Be t.place u=i+1)->Q (some (((NdS.arrOf w a ep es)[i]'(by rw[Js]; exact b)).2,u)) s)(y:es.size<=i->Q none s):wpAny (model prog w) A (bE a f i ep) Q E s:=by
 unfold bE
 refine Aa (Hk S ?_)
 dsimp only
 refine Aa (Pa ?_)
 cases k:bt w with
 | true =>
  rw[if_pos rfl,if_neg (by simp)]
  refine Aa (lN S (Ag ?_))
  show Q (((NdS.arrOf w a ep es)[i]?).map λe=>(e.2,f)) s
  by_cases b:i<es.size
  ·rw[Cj (by rw[Js]; exact b)]
   exact h1 b f (λz=>by rw[k] at z; cases z)
  ·rw[Jv (by rw[Js]; omega)]
   exact y (by omega)
 | false =>
  have C:=S.led k
  have D:=S.tab.plain
  have g:wpAny (model prog w) A (pure (match es[Be t.place f]?,t.place[Be t.place f]? with
    | some (_,x),some j=>some (x,j+1)
    | _,_=>none):Sem (Option (Value×Nat))) Q E s:=by
   rw[B k]
   by_cases b:i<es.size
   ·have h:i<t.place.size:=by rw[S.tab.size]; exact b
    rw[Cj b,Cj h]
    refine Ag ?_
    have:=h1 b (t.place[i]+1) (λ_=>eJ S.tab.rise h)
    have e:NdS.arrOf w a ep es=es:=by unfold NdS.arrOf; rw[k]; rfl
    simp only[e] at this
    exact this
   ·rw[Jv (by omega)]
    exact Ag (y (by omega))
  obtain ⟨v,p,d,l,q,r,c⟩:=t
  have n:q=true:=C
  have o:c=true:=D
  subst n o
  exact Aa (m:=(pure ():Sem Unit)) (Ag g)
theorem Zj{I a:Addr}{es:Array (Int×Value)}{ep:Nat}{t:Bc}{i:Nat}{Q:Option Value->Ak->Prop}(st:Tf w I a es ep t i s.heap)(j:a≠I)(g:i<es.size)(h:∀h',Tf w I a es ep t (i+1) h'->Fu I s.heap h'->Q (some ((NdS.arrOf w a ep es)[i]'(by rw[Js]; exact g)).2) { s with heap:=h' }):wpAny (model prog w) A (Nk (.ref I)) Q E s:=by
 obtain ⟨⟨f,b,k⟩,S⟩:=st
 have T:s.TypeIs (.ref I) "set_iterator" := ⟨_,b,rfl⟩
 unfold Nk
 refine Aa (Up (Gf (name:=Fv "__next__") T Lr (Es Lr T Rr ?_ (Ud _))))
 unfold Builtin.«set_iterator.__next__»
 refine Aa (m:=slotArgs "__next__" 0 ⟨[.ref I],[]⟩) (Iq (a:=(Aq I,[])) rfl ?_)
 dsimp only
 refine Aa (aN b rfl ?_)
 show wpAny (model prog w) A.in1 (do
  if (((<- Lv a).size:Nat):Int) != (es.size:Int) then
   rule "set_iterator.__next__.size-changed"
   Ji (.ref I) 3 (Ic (-1))
   raiseError "RuntimeError" "Set changed size during iteration"
  match <- bE a (f:Int).toNat (i:Int).toNat (ep:Int).toNat with
  | some (x,next) =>
   Ji (.ref I) 0 (Ic next)
   Ji (.ref I) 1 (Ic ((i:Int)+1))
   ret x
  | none=>Ji (.ref I) 2 .none; raiseNew (<- newExc (.type "StopIteration") [])) _ _ _
 unfold Lv
 refine Aa (Aa (Hk S (Ag ?_)))
 rw[if_neg (by simp)]
 simp only[Dl]
 refine Aa (Pf S k (λ_ c d=>?_) (λz=>absurd g (by omega)))
 dsimp only
 refine Aa (Of b rfl (by simp) ?_)
 have e:(s.heap.update I (Obj.mapFields (·.setIfInBounds 0 (Ic c)))).get? I=some (aJ c i a es.size ep):=Fs _ b rfl
 refine Aa (Of e rfl (by simp) (Ag ⟨_,rfl,Ag (h _ ⟨⟨c,?_,d⟩,?_⟩ ((Bs ..).trans (Bs ..)))⟩))
 ·exact Fs _ e rfl
 ·refine S.keep λo q=>?_
  exact ((Bs _ _ _).2 a j).trans (((Bs _ _ _).2 a j).trans q)
theorem cX{I a:Addr}{es:Array (Int×Value)}{ep:Nat}{t:Bc}{Q:Option Value->Ak->Prop}(d:A.handled=none)(st:Tf w I a es ep t es.size s.heap)(h:∀h',Heap.ExtBut I s.heap h'->Q none { s with heap:=h' }):wpAny (model prog w) A (Nk (.ref I)) Q E s:=by
 obtain ⟨⟨f,c,e⟩,S⟩:=st
 have T:s.TypeIs (.ref I) "set_iterator" := ⟨_,c,rfl⟩
 unfold Nk
 refine Aa (Up (Gf (name:=Fv "__next__") T Lr (Es Lr T Rr ?_ (Ud _))))
 unfold Builtin.«set_iterator.__next__»
 refine Aa (m:=slotArgs "__next__" 0 ⟨[.ref I],[]⟩) (Iq (a:=(Aq I,[])) rfl ?_)
 dsimp only
 refine Aa (aN c rfl ?_)
 show wpAny (model prog w) A.in1 (do
  if (((<- Lv a).size:Nat):Int) != (es.size:Int) then
   rule "set_iterator.__next__.size-changed"
   Ji (.ref I) 3 (Ic (-1))
   raiseError "RuntimeError" "Set changed size during iteration"
  match <- bE a (f:Int).toNat (es.size:Int).toNat (ep:Int).toNat with
  | some (x,next) =>
   Ji (.ref I) 0 (Ic next)
   Ji (.ref I) 1 (Ic ((es.size:Int)+1))
   ret x
  | none=>Ji (.ref I) 2 .none; raiseNew (<- newExc (.type "StopIteration") [])) _ _ _
 unfold Lv
 refine Aa (Aa (Hk S (Ag ?_)))
 rw[if_neg (by simp)]
 simp only[Dl]
 refine Aa (Pf S e (λz _ _=>absurd z (He _)) (λ_=>?_))
 dsimp only
 refine Aa (Of c rfl (by simp) (Aa ?_))
 simp only[newExc,newTuple]
 refine Aa (Dy ?_ (by size_fits))
 refine Aa (m:=aP _ _) (Iq (a:=Qf) (by first | rfl | (simp only[aP]; rfl)) (Dy ?_ (by size_fits)))
 simp only[raiseNew]
 refine Aa (wpAny_handled ?_)
 rw[show A.in1.handled=none from d]
 refine Aa (Ag (wpAny_throw ?_))
 refine Aa (mR (T := "StopIteration") (b:=true) ⟨_,Bi _ rfl,rfl⟩ isSubtype_stop ?_)
 exact Ag (h _ (((Bs ..).extBut.push _).push _))
end
section
variable{prog:Bp}{w:World}{A:Cw}{E:Value->Ak->Prop}{s:Ak}
theorem Zg(r:A.handled=none){I a:Addr}(u:a≠I)(es:Array (Int×Value))(ep:Nat)(t:Bc):Walks prog w A I [I,a] [I] es.size (λi v=>∃e,(NdS.arrOf w a ep es)[i]? = some e/\v=e.2) (λi h=>Tf w I a es ep t i h) where
 sub:=λb c=>by simp at c; simp [c]
 frame:=λi h g ⟨⟨f,j,l⟩,S⟩ m=>⟨⟨f,m I (by simp) _ j,l⟩,S.keep λo q=>m a (by simp) o q⟩
 item:=λi s Q E n st d=>Zj st u n λg k p=>d _ g s.toks ⟨_,Cj (by rw[Js]; exact n),rfl⟩ k λb o c e=>(p.2 b (λz=>c (by simp [z]))).trans e
 done:=λs Q E st d=>cX r st λg x=>d g s.toks λb o c e=>x b o (λz=>c (by simp [z])) e
 self:=λi s Q E st d=>by
  obtain ⟨⟨f,j,l⟩,S⟩:=st
  have T:s.TypeIs (.ref I) "set_iterator" := ⟨_,j,rfl⟩
  refine Ti T Uj (Es Uj T cP ?_ (iJ _))
  exact Ag ⟨_,rfl, "set_iterator",_,T,Lr.lookup,d⟩
theorem mL(a:Addr)(es:Array (Int×Value))(ep:Nat)(t:Bc):PySem.W.KdlSrc prog w "set" a a es.size (λi v=>∃e,(NdS.arrOf w a ep es)[i]? = some e/\v=e.2) (λh=>SetW w h a es ep t) where
 type:=λs S=>S.ty
 there:=λh S=>⟨Bm S.obj,Bm S.obj⟩
 keep:=λh c S k=>S.keep λo q=>k a (.inl rfl) o q
 notList:=by decide
 notTuple:=by decide
 hint:=λA E s Q S h=>pW S.ty h
 iter:=λA s b S=>by
  have lt:=Bm S.obj
  refine ⟨aJ 0 0 a es.size ep,λi h=>Tf w s.heap.objs.size a es ep t i h,λE Q h=>lV S h,?_,⟨⟨0,Bi _ rfl,λ_=>aE S.tab.rise⟩,S.keep λo q=>Aj _ q⟩⟩
  exact Zg b (Ck lt) es ep t
theorem qX{b:Array (Int×Value)}{a:Array Value}(h:ItemsOf (λi v=>∃e,b[i]? = some e/\v=e.2) a b.size):a.toList=b.toList.map (·.2):=by
 apply Gk
 intro j
 rw[Br]
 cases q:a.toList[j]? with
 | none =>
  have l:a.size<=j:=by
   have:=List.getElem?_eq_none_iff.mp q
   rw[Af] at this
   exact this
  rw[Ve (by rw[Af]; have:=h.1; omega)]
  rfl
 | some v =>
  obtain ⟨e,c,d⟩:=h.2 j v (by rw[<- Dx]; exact q)
  rw[Dx,c,d]
  rfl
theorem xY{h:Heap}{a:Addr}{vs:List Value}{out:Array Value}{b:Addr}{o:Obj}(c:b≠a)(e:h.get? b=some o):(Wh h a vs out).get? b=some o:=by
 unfold Wh
 exact ((Bs _ _ _).2 b c).trans (Aj _ (Aj _ (((Bs _ _ _).2 b c).trans e)))
theorem W1{h:Heap}{a:Addr}{vs:List Value}{out:Array Value}{n:Nat}(g:h.get? a=some (Iu "list" vs.toArray n)):∃n,(Wh h a vs out).get? a=some (Iu "list" out n):=by
 unfold Wh
 have b:=Qq g (λ_=>#[])
 have c:=Aj (Iu "list" #[] 0) (Aj (Iu "tuple" vs.toArray 0) b)
 exact ⟨_,Qq c (λ_=>out)⟩
def DD:Value->Addr
 | .ref a=>a
 | _=>0
theorem yH{l:List Value}{b:List Addr}(h:l.Perm (b.map Aq)):∃a:List Addr,l=a.map Aq/\a.Perm b:=by
 refine ⟨l.map DD,?_,?_⟩
 ·rw[Eh]
  refine ((Jk λv c=>?_).trans (List.map_id l)).symm
  obtain ⟨r,_,rfl⟩:=Bl.mp (h.mem_iff.mp c)
  rfl
 ·have:=h.map DD
  rw[Eh,show DD ∘ Aq=id from rfl,List.map_id] at this
  exact this
theorem qG{a:Addr}{es:Array (Int×Value)}{ep:Nat}{t:Bc}{q:List Addr}{c:Addr->List Int}{Q:Value->Ak->Prop}(H:A.handled=none)(V:A.units+64<cLine)(S:SetW w s.heap a es ep t)(I:(es.toList.map (·.2)).Perm (q.map Aq))(hw:∀r∈q,∃z:List Value,Fg z (c r)/\IsTup s.heap r z.toArray)(h:∀(p:Addr) (d:List Addr) (n:Nat) (h1 h':Heap) (u:Nat),d.Perm q->d.Pairwise (λx y=>HT.lexLt (c y) (c x)=false)->(∀b o,s.heap.get? b=some o->h1.get? b=some o)->h1.objs.size<=p->(∀b o,h1.get? b=some o->h'.get? b=some o)->h'.get? p=some (Iu "list" (d.map Aq).toArray n)->Q (.ref p) { s with heap:=h',toks:=u }):wpAny (model prog w) A (call (.builtin "sorted") [.ref a]) Q E s:=by
 refine mP (by exact kind_sorted) plain_sorted entry_sorted (args_sorted1 _) ?_
 unfold Builtin.«sorted»
 refine Aa (m:=checkCount "sorted" 1 1 _) (Ag (Aa (PySem.W.kdu_collect (A:=A.in1) (mL a es ep t) H S (dD (by have:=S.few; omega)) λh1 u l F j=>?_)))
 have k:ItemsOf (λi v=>∃e,(NdS.arrOf w a ep es)[i]? = some e/\v=e.2) l (NdS.arrOf w a ep es).size:=by rw[Js]; exact j
 have T:=qX k
 have P:l.toList.Perm (q.map Aq):=by
  rw[T]
  exact ((pM (w:=w) (a:=a) (ep:=ep) (es:=es)).map (λe:Int×Value=>e.2)).trans I
 obtain ⟨f,G,C⟩:=yH P
 rw[G]
 have X:f.length<=1100:=by
  have:=congrArg Iy G
  rw[Af,j.1,Ac] at this
  have:=S.few
  omega
 refine Aa (wpAny_newList ?_ (by rw[Ac]; exact dD (by omega)))
 have B:(h1.push (Iu "list" (f.map Aq).toArray 0)).get? h1.objs.size=some (Iu "list" (f.map Aq).toArray 0):=Bi _ rfl
 refine Aa (Dn (Es slot_list_sort ⟨_,B,rfl⟩ entry_list_sort (Ts.sort_listG (s:={ s with heap:=h1.push (Iu "list" (f.map Aq).toArray 0),toks:=u }) (c:=c) (d0:=[]) (lt_:=HT.lexLt) B (λh' O U=>Ts.kinded_ints (λr K=>?_) ?_ U) (dD (by omega)) λd N M=>⟨_,rfl,?_⟩) (args_list_sort _)))
 ·obtain ⟨z,J,o,g,R⟩:=hw r (C.mem_iff.mp K)
  have D:=F r o g
  exact ⟨z,J,o,O _ _ (Ck (Bm D)) (Aj _ D),R⟩
 ·first | (show A.units+1+1<cLine; omega) | (simp; omega) | omega
 ·obtain ⟨n,L⟩:=W1 (out:=(d.map Aq).toArray) B
  refine Ag ⟨_,rfl,h _ d n h1 _ u (N.trans C) M F (Ah _) (λb o e=>xY (Ck (Bm e)) (Aj _ e)) L⟩
end
end NdW
namespace Nd
open PySem PySem.Spec PyProof.Rows L2 NdS NdW
def rE(w:World)(a:Addr)(V:List Value)(h:Heap):Prop:=∃b c t,SetW w h a b c t/\(b.toList.map (·.2)).Perm V
abbrev oY(w:World)(a:Addr)(V:List Value):HO:=.ext (rE w a V)
theorem P0{P:Bp}{w d:World}{H:Hp}{h:Heap}{a:Addr}{V:List Value}(e:rE w a V h):Hx P d H h a (oY w a V) :=
 ⟨e,let ⟨_,_,_,S,_⟩:=e; ⟨_,S.obj⟩,λf g ⟨b,c,t,S,m⟩ k=>⟨b,c,t,S.keep λo q=>k o q,m⟩⟩
theorem xI{P:Bp}{w:World}{H:Hp}{h:Heap}{a:Addr}{V:List Value}(ok:Xs P w H h)(e:H a=some (oY w a V)):rE w a V h :=
 (show Hx P w H h a (oY w a V) from ok a _ e).1
theorem mV:∀{vs:List Value},(∀v∈vs,∃r,v=Aq r)->∃a:List Addr,vs=a.map Aq
 | [],_=>⟨[],rfl⟩
 | v::vs,h=>by
  obtain ⟨r,e⟩:=h v Ab
  obtain ⟨a,c⟩:=mV (vs:=vs) λx b=>h x (Ad _ b)
  exact ⟨r::a,by rw[e,c]; rfl⟩
def GS(w:World)(K:PySem.W.Frag):List V->Hp->VK->Prop:=λd H Q=>∃(a:Addr) (c:List Addr) (f:Addr->List Int),d=[.ref a]/\Ux K H a (c.map V.ref)/\(∀r∈c,Vp K H r ((f r).map V.int))/\c.length<=1100 /\
 ∀(p:Addr) (b:List Addr),H p=none->(∀r∈b,r∈c)->(b.map f).Nodup->(∀x,x∈b.map f↔x∈c.map f)->Q (.ref p) (upd H p (oY w p (b.map Aq)))
theorem xK{X:Cx}(hc:X.calm=true)(E:X.A.units+64<cLine):Jh X (.type "set") (GS X.w X.K):=by
 intro P s σ H xs us Q I r h
 obtain ⟨a,g,f,rfl,hs,T,G,q⟩:=h
 obtain ⟨u,rfl,W⟩:=vals1 r
 cases W
 obtain ⟨h0,rv,pl,_⟩:=I.list hs
 have e:=vL rv
 subst e
 refine E4 (ws:=g.map f) (I.ok.hd hc) E pl.isList ⟨by simp,λi h1 h2=>?_⟩ (by rw[Ac]; exact G) λL ep t Z tk U k S m m2 R=>?_
 ·have hi:i<g.length:=by simpa using h1
  obtain ⟨js,F,⟨o,e,j,n,M⟩,_⟩:=I.tuple (T g[i] (Fb hi))
  exact ⟨g[i],by simp,o,_,n,e,j,M,by rw[List.getElem_map]; simpa using dQ F⟩
 ·obtain ⟨c,D⟩ : ∃c:List Addr,L.toList.map (·.2)=c.map Aq:=mV λv Y=>by
   obtain ⟨x,_,p⟩:=Bl.mp (R v Y)
   exact ⟨x,p.symm⟩
  have sub:∀r∈c,r∈g:=λr B=>by
   obtain ⟨x,l,p⟩:=Bl.mp (R (Aq r) (by rw[D]; exact Bl.mpr ⟨r,B,rfl⟩))
   injection p with p
   rw[<- p]; exact l
  have J:∀r∈g,Gd (Ci X.prog X.w) Z (f r) r:=λr B=>by
   obtain ⟨js,F,⟨o,e,j,n,M⟩,_⟩:=I.tuple (T r B)
   exact ⟨o,_,n,k _ _ e,j,M,by simpa using dQ F⟩
  have z:∀u∈U,u∈c.map f:=λu E=>by
   obtain ⟨e,he,b,eb,x⟩:=S.all u E
   have O:b∈c:=by
    have : Aq b∈L.toList.map (·.2):=Bl.mpr ⟨e,he,by rw[eb]⟩
    rw[D] at this
    obtain ⟨y,hy,N⟩:=Bl.mp this
    injection N with N
    rw[<- N]; exact hy
   exact Bl.mpr ⟨b,O,(J b (sub b O)).inj x⟩
  have C:(c.map f).length=U.length:=by
   have:=congrArg Iy D
   rw[Ac,Ac,Af,S.sz] at this
   rw[Ac]; exact this.symm
  have d:∀x,x∈c.map f->x∈g.map f:=λx l=>by
   obtain ⟨r,B,rfl⟩:=Bl.mp l
   exact Bl.mpr ⟨r,sub r B,rfl⟩
  refine ⟨.ref s.heap.objs.size,_,I.laid k (Ah _) (P0 (V:=c.map Aq) ⟨L,ep,t,⟨S.obj,S.tab,S.led,S.few⟩,by rw[D]⟩),rfl,q _ c (I.hok.fresh (Ah _)) sub ?_ λx=>⟨d x,λl=>z x ((m x).mpr l)⟩⟩
  exact (Sv S.nd λx=>⟨z x,λl=>(m x).mpr (d x l)⟩).2.mp C.symm
def CM(w:World)(K:PySem.W.Frag):List V->Hp->VK->Prop:=λe H Q=>∃(a:Addr) (d:List Addr) (c:Addr->List Int),e=[.ref a]/\H a=some (oY w a (d.map Aq))/\(∀r∈d,Vp K H r ((c r).map V.int))/\d.length<=1100 /\
 ∀(p:Addr) (b:List Addr),H p=none->b.Perm d->b.Pairwise (λx y=>HT.lexLt (c y) (c x)=false)->Q (.ref p) (upd H p (.lst (b.map V.ref)))
theorem kB{X:Cx}(v:X.calm=true)(x:X.A.units+64<cLine):Jh X (.builtin "sorted") (CM X.w X.K):=by
 intro d s l H N T Q I r h
 obtain ⟨a,M,c,rfl,j,L,D,q⟩:=h
 obtain ⟨u,rfl,k⟩:=vals1 r
 cases k
 obtain ⟨P,R,t,S,m⟩:=xI I.hok j
 refine qG (c:=c) (I.ok.hd v) x S m (λr z=>?_) λp b n C O i f B E e J F=>?_
 ·obtain ⟨G,y,o,_⟩:=I.tuple (L r z)
  exact ⟨G,intsAre_of y,o⟩
 ·have g:Inv X d l H { s with heap:=C,toks:=i }:=I.kept E
  refine ⟨.ref p,upd H p (.lst (b.map V.ref)),g.laid (t':=i) J e ⟨by rw[Ac,f.length_eq,Hq]; omega,_,n,Ts.vals_refs b,F⟩,rfl,q p b (g.hok.fresh e) f B⟩
end Nd
namespace DL
open PySem PySem.Spec PyProof.Rows L2 Nd
def R6(xs:List DV)(b:DS)(P:DV->DS->Prop):Prop:=match xs with
 | [.dat _ (.list ds)]=>∃a:List (List Int),ds=a.map Bb/\a.length<=1100/\∀L:List (List Int),L.Nodup->(∀x,x∈L↔x∈a)->L.Pairwise (λx y=>HT.lexLt y x=false)->P (.dat .ow (.list (L.map Bb))) b
 | _=>False
def HW(c:DA):DE:=λb P=>c b λd a=>R6 d a P
section
variable{X:Cx}{p d pos c:Pos}{e:Expr}{f:DA}
theorem CV(R:X.A.units+64<cLine)(O:X.calm=true)(hg:Gl X "sorted")(hm:X.mg "sorted" = none)(B:Gl X "set")(I:X.mg "set" = none)(z:uU X [e] f)(he:Cc [e] X.env=[(false,eval e X.env)]:=by rfl)(u:Cc [.Call (.Name "set" d) [e] [] c] X.env=[(false,eval (.Call (.Name "set" d) [e] [] c) X.env)]:=by rfl):Fk X (.Call (.Name "sorted" p) [.Call (.Name "set" d) [e] [] c] [] pos) (HW f):=by
 refine PE.imp (eI (kB O R) hg hm (by decide +kernel) (Jc (Qz (xK O R) B I (by decide +kernel) z (by decide) (by decide) he rfl) Qm u) (by decide) (by decide) u rfl) λσ H Q h=>?_
 obtain ⟨H0,Y,S,T,δ,P,rfl,hS,hA,hd,k⟩:=h
 refine ⟨H0,Y,S,T,δ,_,rfl,hS,hA,hd,λxs L As us S' m e1 e2 ex eu E p=>?_⟩
 unfold R6 at p
 split at p
 ·obtain ⟨v,F,rfl,s⟩:=Io eu E ex
  obtain ⟨ws,rfl,hl,pp⟩:=p
  obtain ⟨a,xs,G,rfl,z,ra,rfl,hz⟩:=(s.told mem_mid).list_inv
  obtain ⟨M,rfl,rfl,rfl,W,c2⟩:=pB ra rfl
  rw[Ac] at hl
  refine ⟨a,M,U2 m,rfl,Ux.of z,λr C=>Vp.of (W r C),hl,λq g hq sub n j=>?_⟩
  have D:=Gn hq (oY X.w q (g.map Aq))
  have l2:g.length<=M.length:=by
   have:=(Sv n j).1
   rwa [Ac,Ac] at this
  refine ⟨q,g,U2 m,rfl,El,λr C=>Vp.of (D _ _ (W r (sub r C))),by omega,λr i N t U=>?_⟩
  have Z:∀x∈i,RdF X.K (upd m q (oY X.w q (g.map Aq))) (.ref x) (Bb (U2 m x)) []:=λx J=>(c2 x (sub x (t.mem_iff.mp J))).kp λb o e _=>D b o e
  have c4:RdFs X.K (upd m q (oY X.w q (g.map Aq))) (i.map V.ref) ((i.map (U2 m)).map Bb) []:=by
   clear t U N
   induction i with
   | nil=>exact .nil
   | cons y l ih=>exact RdFs.cons (F:=[]) (G:=[]) (Z y Ab) (ih λx J=>Z x (Ad _ J))
  exact k _ L _ _ S' _ e1 e2 ((s.drop.grow D (Ah _)).newI c4 (dW _) (by rw[Ac,Ac,t.length_eq]; exact pF (by omega)) N .ow) (pp _ ((t.map _).nodup_iff.mpr n) (λx=>((t.map _).mem_iff).trans (j x)) (Hl.mpr U))
 ·exact p.elim
end
def FQ(t u:DB)(D:DEnds)(b:Bool)(a:DS):Prop:=match b with
 | true=>t D a
 | false=>u D a
def HG(x:DV)(a:DS)(P:DV->DS->Prop):Prop:=match x with
 | .dat _ d=>imm d=true/\P (.dat .ow d) a
 | _=>False
def GI(i:Nat)(s:Option DV)(a:DS)(P:DV->DS->Prop):Prop:=match s with
 | some (.dat .pk _)=>False
 | some (.dat _ d)=>P (.dat .sh d) ⟨a.sl.set i (.dat .sh d),a.n⟩
 | _=>False
def tupB(xs:List DV)(b:DS)(P:DV->DS->Prop):Prop:=match datas xs with
 | some a=>a.length<=1000/\P (.dat (pkMd .sh xs) (.tuple a)) b
 | none=>False
def lstB(xs:List DV)(b:DS)(P:DV->DS->Prop):Prop:=match datas xs with
 | some a=>a.length<=1000/\P (.dat (pkMd .tp xs) (.list a)) b
 | none=>False
def AN(x:DV)(a:DS)(P:Option Int->DS->Prop):Prop:=match x with
 | .dat _ (.int i)=>P (some i) a
 | _=>False
def MM(i:Bool)(x:DV)(l h:Option Int)(a:DS)(P:DV->DS->Prop):Prop:=match x with
 | .dat m (.list ds)=>aC i m (Ol ds l h) λz=>P z a
 | .dat m (.tuple ds)=>kX i m (Ol ds l h) λz=>P z a
 | _=>False
def MQ(xs:List DV)(b:DS)(P:DV->DS->Prop):Prop:=match xs with
 | [.dat _ (.list ds)]=>∃a:List Int,ds=a.map Bq/\(∀x∈a,0<=x/\x<60)/\P (.dat .ow (.list ((Sg a).map Bq))) b
 | [.dat _ (.tuple ds)]=>∃a:List Int,ds=a.map Bq/\(∀x∈a,0<=x/\x<60)/\P (.dat .ow (.list ((Sg a).map Bq))) b
 | _=>False
def bB(x:DV)(a:DS)(P:Bool->DS->Prop):Prop:=match x with
 | .dat _ (.bool b)=>P b a
 | _=>False
def DQ(c:DT)(b:Bool)(a:DS)(P:Bool->DS->Prop):Prop:=match b with
 | true=>c a P
 | false=>P false a
def GV(c:DT)(b:Bool)(a:DS)(P:Bool->DS->Prop):Prop:=match b with
 | true=>P true a
 | false=>c a P
def GE(x:DV)(a:DS)(P:DV->DS->Prop):Prop:=match x with
 | .dat _ (.bool b)=>P (.dat .ow (.bool (!b))) a
 | _=>False
def FD(b:DE)(x:DV)(a:DS)(P:DV->DS->Prop):Prop:=match x with
 | .dat _ (.bool true)=>b a P
 | .dat _ (.bool false)=>P (.dat .ow (.bool false)) a
 | _=>False
def lB(x:DV)(a:DS)(P:Md->List Ae->DS->Prop):Prop:=match x with
 | .dat m (.list ds)=>P (Ly m) ds a
 | _=>False
def KI(x:DV)(a:DS)(P:Md->List Ae->DS->Prop):Prop:=match x with
 | .dat m (.tuple ds)=>P (Ly m) ds a
 | _=>False
def AU(xs:List DV)(a:DS)(P:Md->List Ae->DS->Prop):Prop:=match xs with
 | [.dat _ (.int j)]=>-1000000<=j/\j<=1000000/\P .sh ((Bg j.toNat).map λi:Nat=>.int i) a
 | _=>False
def AJ(xs:List DV)(a:DS)(P:Md->List Ae->DS->Prop):Prop:=match xs with
 | [.dat m (.list ds)]=>P (Ly m) (ds.zipIdx.map λp=>.tuple [.int p.2,p.1]) a
 | _=>False
def HZ(g:DG)(f:DB)(D:DEnds)(m:Md)(e:List Ae)(c:DS):Prop:=m=.sh/\∃I:Nat->DS->Prop,I 0 c /\
 (∀i d a,e[i]? = some d->I i a->g (.dat .sh d) a λb=>f { D with nx:=I (i+1),ct:=I (i+1),bk:=D.nx } b)/\∀a,I e.length a->D.nx a
def o7(h:List Nat)(g:DT)(j:DE)(P:DV->DS->Prop)(m:Md)(f:List Ae)(b:DS):Prop:=∃I:Nat->List Ae->Nat->Prop,I 0 [] b.n /\
 (∀i d a n,f[i]? = some d->I i a n->Xh g j ⟨.dat m d::frD b.sl h,n⟩ (λe c=>I (i+1) (a++[e]) c) (λc=>I (i+1) a c)) /\
 ∀a n,I f.length a n->P (.dat .ow (.list a)) ⟨b.sl,n⟩
def zE(h:List Nat)(g:DT)(j:DE)(P:DV->DS->Prop)(m:Md)(f:List Ae)(b:DS):Prop:=∃I:Nat->List Ae->Nat->Prop,I 0 [] b.n /\
 (∀i d a n,f[i]? = some d->I i a n->Ox false g j ⟨.dat m d::frD b.sl h,n⟩ (λe c=>I (i+1) (a++[e]) c) (λc=>I (i+1) a c)) /\
 ∀a n,I f.length a n->P (.dat .tp (.list a)) ⟨b.sl,n⟩
def zJ(js1:List Nat)(j0:Nat)(js2:List Nat)(g:DT)(h:DE)(P:DV->DS->Prop)(m:Md)(f:List Ae)(b:DS):Prop:=b.sl[j0]? = some .drw/\∃I:Nat->List Ae->Nat->Prop,I 0 [] b.n /\
 (∀i d a n,f[i]? = some d->I i a n->Rh (js1.length+1) g h ⟨.dat m d::(frD (b.sl.set j0 .un) js1++.drw::frD (b.sl.set j0 .un) js2),n⟩ (λe c=>I (i+1) (a++[e]) c) (λc=>I (i+1) a c)) /\
 ∀a n,I f.length a n->P (.dat .ow (.list a)) ⟨b.sl,n⟩
def U5(a:Ae->Nat->Prop)(y:DV)(b:DS):Prop:=match y with
 | .dat _ e=>imm e=true/\a e b.n
 | _=>False
def tY(f:DE)(a:Ae->Nat->Prop)(e:Nat->Prop)(b:Bool)(d:DS):Prop:=match b with
 | true=>f d λy c=>U5 a y c
 | false=>e d.n
def zI(a:Ae->Nat->Prop)(y:DV)(b:DS):Prop:=match y with
 | .dat m e=>m≠.pk/\a e b.n
 | _=>False
def i5(f:DE)(a:Ae->Nat->Prop)(e:Nat->Prop)(b:Bool)(d:DS):Prop:=match b with
 | true=>f d λy c=>zI a y c
 | false=>e d.n
def E5(p:Nat)(a:Ae->Nat->Prop)(y:DV)(b:DS):Prop:=match y with
 | .dat _ e=>imm e=true/\b.sl[p]? = some .drw/\a e b.n
 | _=>False
def G6(p:Nat)(f:DE)(a:Ae->Nat->Prop)(e:Nat->Prop)(b:Bool)(c:DS):Prop:=match b with
 | true=>f c λy d=>E5 p a y d
 | false=>c.sl[p]? = some .drw/\e c.n
def callB(b:PF)(xs:List DV)(a:DS)(P:DV->DS->Prop):Prop:=match datas xs with
 | some c=>b c λd=>P (.dat .ow d) a
 | none=>False
def callBW(i:Nat)(e:DF)(xs:List DV)(a:DS)(P:DV->DS->Prop):Prop:=match a.sl[i]? with
 | some .drw=>match datas xs with
  | some c=>e c a.n λd b=>P (.dat .ow d) ⟨a.sl,b⟩
  | none=>False
 | _=>False
def G7(xs:List DV)(a:DS)(P:DV->DS->Prop):Prop:=match xs with
 | [.dat _ (.int _)]=>P .drw a
 | _=>False
def revLB(x:DV)(a:DS)(P:DV->DS->Prop):Prop:=match x with
 | .dat _ (.list ds)=>Dt ds=true/\P (.dat .ow (.list ds.reverse)) a
 | _=>False
def appB(i:Nat)(y:DV)(a:DS)(D:DEnds):Prop:=match a.sl[i]?,y with
 | some (.dat m (.list ds)),.dat _ e=>own1 m=true/\npk a.sl=true/\imm e=true/\ds.length<1000000/\D.nx ⟨a.sl.set i (.dat m (.list (ds++[e]))),a.n⟩
 | _,_=>False
def JG(i:Nat)(z:DV)(a:DS)(D:DEnds):Prop:=match z with
 | .dat _ d=>imm d=true/\D.nx ⟨a.sl.set i (.dat .sh d),a.n⟩
 | _=>False
theorem e_ssW{c:DA}{b:DS}{P:DV->DS->Prop}:HW c b P=(c b λxs a=>R6 xs a P):=rfl
theorem e_ssWB{m:Md}{a:List Ae}{b:DS}{P:DV->DS->Prop}:R6 [.dat m (.list a)] b P=(∃ws:List (List Int),a=ws.map Bb/\ws.length<=1100/\∀L:List (List Int),L.Nodup->(∀x,x∈L↔x∈ws)->L.Pairwise (λx y=>HT.lexLt y x=false)->P (.dat .ow (.list (L.map Bb))) b):=rfl
theorem FP{i:Nat}{e d:DE}{D:DEnds}{c:DS}:C4 i e d D c=(match c.sl[i]? with | some (.dat _ (.list _))=>e c λz b=>d b λy a=>Z1 i z y a D | _=>False):=rfl
theorem e_seq{t u:DB}{D:DEnds}{b:DS}:GW t u D b=(t { D with nx:=λa=>u D a } b):=rfl
theorem e_skip{D:DEnds}{a:DS}:Z8 D a=(D.nx a):=rfl
theorem e_ret{b:DE}{D:DEnds}{a:DS}:JH b D a=(b a D.rt):=rfl
theorem e_if{dt:DT}{t u:DB}{D:DEnds}{a:DS}:LY dt t u D a=(dt a (FQ t u D)):=rfl
theorem e_asg{d:DE}{c:DG}{D:DEnds}{b:DS}:xJ d c D b=(d b λx a=>c x a D.nx):=rfl
theorem e_name{i:Nat}{m:Md}{d:Ae}{a:DS}{Q:DS->Prop}:Ql i (.dat .ow d) a Q=(Q ⟨a.sl.set i (.dat .sh d),a.n⟩):=rfl
theorem e_name2{i:Nat}{m:Md}{d:Ae}{a:DS}{Q:DS->Prop}:Ql i (.dat .sh d) a Q=(Q ⟨a.sl.set i (.dat .sh d),a.n⟩):=rfl
theorem e_name3{i:Nat}{m:Md}{d:Ae}{a:DS}{Q:DS->Prop}:Ql i (.dat .tp d) a Q=(Q ⟨a.sl.set i (.dat .sh d),a.n⟩):=rfl
theorem e_name4{i:Nat}{a:DS}{Q:DS->Prop}:Ql i .drw a Q=(Q ⟨a.sl.set i .drw,a.n⟩):=rfl
theorem e_own{i:Nat}{d:Ae}{a:DS}{Q:DS->Prop}:pP i (.dat .ow d) a Q=(Q ⟨a.sl.set i (.dat .ow d),a.n⟩):=rfl
theorem e_nF{i:Nat}{x:DV}{a:DS}{Q:DS->Prop}:KD false i x a Q=(Ql i x a Q):=rfl
theorem e_gtup{n:Nat}{b:yX}{m:Md}{a:List Ae}{c:DS}{Q:DS->Prop}:uW n b (.dat m (.tuple a)) c Q=(a.length=n/\b (a.map λd=>.dat (Os m) d) c Q):=rfl
theorem e_gtup_w1{a:List Int}{n:Nat}{b:yX}{m:Md}{e:List Ae}{c:DS}{Q:DS->Prop}:uW n b (.dat m (Bb a)) c Q=((a.map Bq).length=n/\b ((a.map Bq).map λd=>.dat (Os m) d) c Q):=rfl
theorem e_gsn{a:DS}{Q:DS->Prop}:zP [] a Q=(Q a):=rfl
theorem e_gsc{g:DG}{c:yX}{x:DV}{r:List DV}{b:DS}{Q:DS->Prop}:vK g c (x::r) b Q=(g x b λa=>c r a Q):=rfl
theorem e_op{rd:D2}{e c:DE}{d:DS}{P:DV->DS->Prop}:Vf rd e c d P=(e d λx b=>c b λy a=>rd x y λz=>P z a):=rfl
theorem e_var{i:Nat}{a:DS}{P:DV->DS->Prop}:ES i a P=(match a.sl[i]? with | some (.dat m d)=>P (.dat (lR m) d) a | _=>False):=rfl
theorem e_c{d:Ae}{a:DS}{P:DV->DS->Prop}:dC d a P=(P (.dat .ow d) a):=rfl
theorem e_imm{c:DE}{b:DS}{P:DV->DS->Prop}:GO c b P=(c b λx a=>HG x a P):=rfl
theorem e_immB{m:Md}{d:Ae}{a:DS}{P:DV->DS->Prop}:HG (.dat m d) a P=(imm d=true/\P (.dat .ow d) a):=rfl
theorem e_take{i:Nat}{a:DS}{P:DV->DS->Prop}:zL i a P=(match a.sl[i]? with | some (.dat m d)=>P (.dat m d) ⟨a.sl.set i .un,a.n⟩ | _=>False):=rfl
theorem e_frz{i:Nat}{a:DS}{P:DV->DS->Prop}:lY i a P=(GI i (a.sl[i]?) a P):=rfl
theorem e_frzo{i:Nat}{d:Ae}{a:DS}{P:DV->DS->Prop}:GI i (some (.dat .ow d)) a P=(P (.dat .sh d) ⟨a.sl.set i (.dat .sh d),a.n⟩):=rfl
theorem e_I{C:Int->Int->Prop}{g:Int->Int->Ae}{i j:Int}{m a:Md}{P:DV->Prop}:FM C g (.dat m (.int i)) (.dat a (.int j)) P=(C i j/\P (.dat .ow (g i j))):=rfl
theorem e_I0{g:Int->Int->Ae}{i j:Int}{m a:Md}{P:DV->Prop}:gA g (.dat m (.int i)) (.dat a (.int j)) P=(P (.dat .ow (g i j))):=rfl
theorem e_eqF{d e:Ae}{m a:Md}{P:DV->Prop}:lE false (.dat m d) (.dat a e) P=(d.depth<=60/\e.depth<=60/\P (.dat .ow (.bool (Ep d e)))):=rfl
theorem e_eqT{d e:Ae}{m a:Md}{P:DV->Prop}:lE true (.dat m d) (.dat a e) P=(d.depth<=60/\e.depth<=60/\P (.dat .ow (.bool (!Ep d e)))):=rfl
theorem e_inTl{d:Ae}{es:List Ae}{m a:Md}{P:DV->Prop}:qQ true (.dat m d) (.dat a (.list es)) P=(Bu es<=60/\d.depth<=60/\P (.dat .ow (.bool (!(es.any λe=>Ep e d))))):=rfl
theorem e_inFt_w1{a:List Int}{d:Ae}{es:List Ae}{m b:Md}{P:DV->Prop}:qQ false (.dat m d) (.dat b (Bb a)) P=(Bu (a.map Bq)<=60/\d.depth<=60/\P (.dat .ow (.bool ((a.map Bq).any λe=>Ep e d)))):=rfl
theorem e_isNF{d:Ae}{m a:Md}{P:DV->Prop}:aK false (.dat m d) (.dat a .none) P=(P (.dat .ow (.bool (isNone d)))):=rfl
theorem e_isNT{d:Ae}{m a:Md}{P:DV->Prop}:aK true (.dat m d) (.dat a .none) P=(P (.dat .ow (.bool (!isNone d)))):=rfl
theorem e_ixl{a:List Ae}{i:Int}{m b:Md}{P:DV->Prop}:vY (.dat m (.list a)) (.dat b (.int i)) P=(∃d,Xu a i=some d/\P (.dat (Os m) d)):=rfl
theorem e_ixt{a:List Ae}{i:Int}{m b:Md}{P:DV->Prop}:vY (.dat m (.tuple a)) (.dat b (.int i)) P=(∃d,Xu a i=some d/\P (.dat (Os m) d)):=rfl
theorem e_ixt_w1{a:List Int}{c:List Ae}{i:Int}{m b:Md}{P:DV->Prop}:vY (.dat m (Bb a)) (.dat b (.int i)) P=(∃d,Xu (a.map Bq) i=some d/\P (.dat (Os m) d)):=rfl
theorem e_cat{a es:List Ae}{m b:Md}{P:DV->Prop}:tH (.dat m (.list a)) (.dat b (.list es)) P=(Dt a=true/\Dt es=true/\a.length+es.length<=1000000/\P (.dat .ow (.list (a++es)))):=rfl
theorem e_catT_w1{a:List Int}{c es:List Ae}{m b:Md}{P:DV->Prop}:jO (.dat m (Bb a)) (.dat b (.tuple es)) P=(Dt (a.map Bq)=true/\Dt es=true/\(a.map Bq).length+es.length<=1000000/\P (.dat .ow (.tuple ((a.map Bq)++es)))):=rfl
theorem e_nlT{m:Md}{a:List Ae}{P:DV->Prop}:aC true m a P=(Dt a=true/\P (.dat .ow (.list a))):=rfl
theorem e_ntT{m:Md}{a:List Ae}{P:DV->Prop}:kX true m a P=(Dt a=true/\P (.dat .ow (.tuple a))):=rfl
theorem e_pkOfpk  : lR .pk=(Md.pk):=rfl
theorem e_pkOfsh  : lR .sh=(Md.sh):=rfl
theorem e_pkOfow  : lR .ow=(Md.pk):=rfl
theorem e_mdInsh  : Os .sh=(Md.sh):=rfl
theorem e_mdInow  : Os .ow=(Md.ow):=rfl
theorem e_mdItsh  : Ly .sh=(Md.sh):=rfl
theorem e_mdItow  : Ly .ow=(Md.sh):=rfl
theorem e_nil{a:DS}{P:List DV->DS->Prop}:CI a P=(P [] a):=rfl
theorem e_cons{d:DE}{e:DA}{c:DS}{P:List DV->DS->Prop}:AS d e c P=(d c λx b=>e b λxs a=>P (x::xs) a):=rfl
theorem e_tup{c:DA}{b:DS}{P:DV->DS->Prop}:HV c b P=(c b λxs a=>tupB xs a P):=rfl
theorem e_lst{c:DA}{b:DS}{P:DV->DS->Prop}:GG c b P=(c b λxs a=>lstB xs a P):=rfl
theorem e_noPart{a:DS}{P:Option Int->DS->Prop}:tS a P=(P none a):=rfl
theorem e_part{c:DE}{b:DS}{P:Option Int->DS->Prop}:AC c b P=(c b λx a=>AN x a P):=rfl
theorem e_partB{m:Md}{i:Int}{a:DS}{P:Option Int->DS->Prop}:AN (.dat m (.int i)) a P=(P (some i) a):=rfl
theorem e_sl{i:Bool}{g:DE}{d f:DO}{e:DS}{P:DV->DS->Prop}:ML i g d f e P=(g e λx b=>d b λl a=>f a λh c=>MM i x l h c P):=rfl
theorem e_slBl{i:Bool}{m:Md}{a:List Ae}{l h:Option Int}{b:DS}{P:DV->DS->Prop}:MM i (.dat m (.list a)) l h b P=(aC i m (Ol a l h) λz=>P z b):=rfl
theorem e_cb{rd:DC}{c:DA}{b:DS}{P:DV->DS->Prop}:JP rd c b P=(c b λxs a=>rd xs λz=>P z a):=rfl
theorem e_lenl{a:List Ae}{m b:Md}{P:DV->Prop}:nR [.dat m (.list a)] P=(P (.dat .ow (.int a.length))):=rfl
theorem e_lent{a:List Ae}{m b:Md}{P:DV->Prop}:nR [.dat m (.tuple a)] P=(P (.dat .ow (.int a.length))):=rfl
theorem e_lent_w1{a:List Int}{b:List Ae}{m c:Md}{P:DV->Prop}:nR [.dat m (Bb a)] P=(P (.dat .ow (.int (a.map Bq).length))):=rfl
theorem e_listl{i:Bool}{a:List Ae}{m b:Md}{P:DV->Prop}:rQ i [.dat m (.list a)] P=(aC i m a P):=rfl
theorem e_tuplel{i:Bool}{a:List Ae}{m b:Md}{P:DV->Prop}:kD i [.dat m (.list a)] P=(kX i m a P):=rfl
theorem e_intb{i:Bool}{m a:Md}{P:DV->Prop}:x6 [.dat m (.bool i)] P=(P (.dat .ow (.int (if i=true then 1 else 0)))):=rfl
theorem e_min2{i j:Int}{m a:Md}{P:DV->Prop}:sL [.dat m (.int i),.dat a (.int j)] P=(P (.dat .ow (.int (if j<i then j else i)))):=rfl
theorem e_all{a:List Ae}{m b:Md}{P:DV->Prop}:zK [.dat m (.list a)] P=(∃bs:List Bool,a=bs.map PyData.bool/\P (.dat .ow (.bool (bs.all id)))):=rfl
theorem e_sortI{a:List Ae}{m b:Md}{P:DV->Prop}:kI [.dat m (.list a)] P=(∃ns:List Int,a=ns.map Bq/\ns.length<64/\P (.dat .ow (.list ((Sb ns).map Bq)))):=rfl
theorem e_isi{d:Ae}{n:String}{m a:Md}{P:DV->Prop}:F9 [.dat m d,.val (.ty n)] P=((n = "int" \/ n = "bool" \/ n = "str" \/ n = "list" \/ n = "tuple")/\P (.dat .ow (.bool (Vw d n)))):=rfl
theorem e_v{v:V}{a:DS}{P:DV->DS->Prop}:dV v a P=(P (.val v) a):=rfl
theorem e_ss{c:DA}{b:DS}{P:DV->DS->Prop}:MR c b P=(c b λxs a=>MQ xs a P):=rfl
theorem e_ssl{m:Md}{a:List Ae}{b:DS}{P:DV->DS->Prop}:MQ [.dat m (.list a)] b P=(∃ns:List Int,a=ns.map Bq/\(∀x∈ns,0<=x/\x<60)/\P (.dat .ow (.list ((Sg ns).map Bq))) b):=rfl
theorem e_b{c:DE}{b:DS}{P:Bool->DS->Prop}:dB c b P=(c b λx a=>bB x a P):=rfl
theorem e_bB{m:Md}{b:Bool}{a:DS}{P:Bool->DS->Prop}:bB (.dat m (.bool b)) a P=(P b a):=rfl
theorem e_notT{dt:DT}{c:DS}{P:Bool->DS->Prop}:AK dt c P=(dt c λb a=>P (!b) a):=rfl
theorem e_andT{dt d:DT}{c:DS}{P:Bool->DS->Prop}:X9 dt d c P=(dt c λb a=>DQ d b a P):=rfl
theorem e_orT{dt d:DT}{c:DS}{P:Bool->DS->Prop}:GP dt d c P=(dt c λb a=>GV d b a P):=rfl
theorem e_orTt{b:DT}{a:DS}{P:Bool->DS->Prop}:GV b true a P=(P true a):=rfl
theorem e_orTf{b:DT}{a:DS}{P:Bool->DS->Prop}:GV b false a P=(b a P):=rfl
theorem e_not{c:DE}{b:DS}{P:DV->DS->Prop}:JE c b P=(c b λx a=>GE x a P):=rfl
theorem e_notB{m:Md}{b:Bool}{a:DS}{P:DV->DS->Prop}:GE (.dat m (.bool b)) a P=(P (.dat .ow (.bool (!b))) a):=rfl
theorem e_and{d c:DE}{b:DS}{P:DV->DS->Prop}:GF d c b P=(d b λx a=>FD c x a P):=rfl
theorem e_andt{b:DE}{m:Md}{a:DS}{P:DV->DS->Prop}:FD b (.dat m (.bool true)) a P=(b a P):=rfl
theorem e_andf{b:DE}{m:Md}{a:DS}{P:DV->DS->Prop}:FD b (.dat m (.bool false)) a P=(P (.dat .ow (.bool false)) a):=rfl
theorem e_dL{c:DE}{b:DS}{P:Md->List Ae->DS->Prop}:dL c b P=(c b λx a=>lB x a P):=rfl
theorem e_dTp{c:DE}{b:DS}{P:Md->List Ae->DS->Prop}:MC c b P=(c b λx a=>KI x a P):=rfl
theorem e_lB{m:Md}{a:List Ae}{b:DS}{P:Md->List Ae->DS->Prop}:lB (.dat m (.list a)) b P=(P (Ly m) a b):=rfl
theorem e_tpB{m:Md}{a:List Ae}{b:DS}{P:Md->List Ae->DS->Prop}:KI (.dat m (.tuple a)) b P=(P (Ly m) a b):=rfl
theorem e_tpB_w1{a:List Int}{m:Md}{c:List Ae}{b:DS}{P:Md->List Ae->DS->Prop}:KI (.dat m (Bb a)) b P=(P (Ly m) (a.map Bq) b):=rfl
theorem e_range1{c:DA}{b:DS}{P:Md->List Ae->DS->Prop}:oT c b P=(c b λxs a=>AU xs a P):=rfl
theorem e_rng1B{m:Md}{j:Int}{a:DS}{P:Md->List Ae->DS->Prop}:AU [.dat m (.int j)] a P=(-1000000<=j/\j<=1000000/\P .sh ((Bg j.toNat).map λi:Nat=>.int i) a):=rfl
theorem e_enum{c:DA}{b:DS}{P:Md->List Ae->DS->Prop}:K8 c b P=(c b λxs a=>AJ xs a P):=rfl
theorem e_enumB{m:Md}{a:List Ae}{b:DS}{P:Md->List Ae->DS->Prop}:AJ [.dat m (.list a)] b P=(P (Ly m) (a.zipIdx.map λp=>.tuple [.int p.2,p.1]) b):=rfl
theorem e_for{b:DI}{d:DG}{c:DB}{D:DEnds}{a:DS}:II b d c D a=(b a (HZ d c D)):=rfl
theorem e_comp{c:DI}{b:List Nat}{a:DT}{e:DE}{d:DS}{P:DV->DS->Prop}:AI c b a e d P=(c d (o7 b a e P)):=rfl
theorem e_compL{c:DI}{b:List Nat}{a:DT}{e:DE}{d:DS}{P:DV->DS->Prop}:zX c b a e d P=(c d (zE b a e P)):=rfl
theorem e_stepL{d:DT}{g:DE}{e:DS}{a:Ae->Nat->Prop}{f:Nat->Prop}:Ox false d g e a f=(d e λb c=>i5 g a f b c):=rfl
theorem e_stepLT{d:DE}{c:DS}{a:Ae->Nat->Prop}{e:Nat->Prop}:i5 d a e true c=(d c λy b=>zI a y b):=rfl
theorem e_compD{c:DI}{js1 js2:List Nat}{j0:Nat}{b:DT}{d:DE}{a:DS}{P:DV->DS->Prop}:kM c js1 j0 js2 b d a P=(c a (zJ js1 j0 js2 b d P)):=rfl
theorem e_noTest{a:DS}{P:Bool->DS->Prop}:mO a P=(P true a):=rfl
theorem e_step{d:DT}{g:DE}{e:DS}{a:Ae->Nat->Prop}{f:Nat->Prop}:Xh d g e a f=(d e λb c=>tY g a f b c):=rfl
theorem e_stepT{d:DE}{c:DS}{a:Ae->Nat->Prop}{e:Nat->Prop}:tY d a e true c=(d c λy b=>U5 a y b):=rfl
theorem e_stepF{d:DE}{b:DS}{a:Ae->Nat->Prop}{c:Nat->Prop}:tY d a c false b=(c b.n):=rfl
theorem e_yesB{m:Md}{e:Ae}{b:DS}{a:Ae->Nat->Prop}:U5 a (.dat m e) b=(imm e=true/\a e b.n):=rfl
theorem e_stepD{p:Nat}{d:DT}{g:DE}{e:DS}{a:Ae->Nat->Prop}{f:Nat->Prop}:Rh p d g e a f=(d e λb c=>G6 p g a f b c):=rfl
theorem e_stepDT{p:Nat}{d:DE}{c:DS}{a:Ae->Nat->Prop}{e:Nat->Prop}:G6 p d a e true c=(d c λy b=>E5 p a y b):=rfl
theorem e_yesBD{p:Nat}{m:Md}{e:Ae}{b:DS}{a:Ae->Nat->Prop}:E5 p a (.dat m e) b=(imm e=true/\b.sl[p]? = some .drw/\a e b.n):=rfl
theorem e_call{c:PF}{d:DA}{b:DS}{P:DV->DS->Prop}:B8 c d b P=(d b λxs a=>callB c xs a P):=rfl
theorem e_callW{i:Nat}{d:DF}{c:DA}{a:DS}{P:DV->DS->Prop}:sN i d c a P=(match a.sl[i]? with | some .drw=>c a λxs b=>callBW i d xs b P | _=>False):=rfl
theorem e_draws{c:DA}{b:DS}{P:DV->DS->Prop}:L1 c b P=(c b λxs a=>G7 xs a P):=rfl
theorem e_drawsB{m:Md}{i:Int}{a:DS}{P:DV->DS->Prop}:G7 [.dat m (.int i)] a P=(P .drw a):=rfl
theorem e_append{i:Nat}{c:DE}{D:DEnds}{a:DS}:kP i c D a=(match a.sl[i]? with | some (.dat _ (.list _))=>c a λy b=>appB i y b D | _=>False):=rfl
theorem e_insert{i:Nat}{e d:DE}{D:DEnds}{c:DS}:kT i e d D c=(match c.sl[i]? with | some (.dat _ (.list _))=>e c λz b=>d b λy a=>insB i z y a D | _=>False):=rfl
theorem e_revL{c:DE}{b:DS}{P:DV->DS->Prop}:AR c b P=(c b λx a=>revLB x a P):=rfl
theorem e_appendO{i:Nat}{c:DE}{D:DEnds}{a:DS}:dS i c D a=(match a.sl[i]? with | some (.dat _ (.list _))=>c a λy b=>appOB i y b D | _=>False):=rfl
theorem e_aug{i:Nat}{rd:D2}{d:DE}{D:DEnds}{b:DS}:R1 i rd d D b=(match b.sl[i]? with | some (.dat _ (.int a))=>d b λy c=>rd (.dat .ow (.int a)) y λz=>JG i z c D | _=>False):=rfl
theorem e_augB{i:Nat}{m:Md}{d:Ae}{D:DEnds}{a:DS}:JG i (.dat m d) a D=(imm d=true/\D.nx ⟨a.sl.set i (.dat .sh d),a.n⟩):=rfl
theorem e_scrSl{i:Nat}{d e:DO}{b:DS}{P:DV->DS->Prop}:qP i d e b P=(match b.sl[i]? with | some (.scr ns)=>d b λl a=>e a λh c=>P (.dat .ow (.list ((Ol ns l h).map Bq))) c | _=>False):=rfl
theorem e_dnew{a:DS}{P:DV->DS->Prop}:Z7 a P=(P (.dat .ow (.dict (aD []))) a):=rfl
theorem e_dput{i:Nat}{e d:DE}{D:DEnds}{c:DS}:Z9 i e d D c=(d c λy a=>isDct a.sl[i]? = true/\e a λz b=>dputB i y z b D):=rfl
theorem e_tagD{ks:List (List Int×Ae)}:V4 (aD ks)=(true):=rfl
theorem e_tr{c:DE}{b:DS}{P:DV->DS->Prop}:MG c b P=(c b λx a=>JN x a P):=rfl
theorem e_trB{m:Md}{j:Int}{a:DS}{P:DV->DS->Prop}:JN (.dat m (.int j)) a P=(0<=j/\j<=1000/\P (.dat .ow (Bb (Oo j.toNat))) a):=rfl
section
variable{t u:DB}{D:DEnds}{c b:DS}
theorem Sw{m:Type}{o:DG}{k:DB}{n:List Ae}{l:List m}{g:m->Ae}(e:n=l.map g)(I:Nat->DS->Prop)(h0:I 0 b)(r:∀i a c,l[i]? = some a->I i c->o (.dat .sh (g a)) c λj=>k { D with nx:=I (i+1),ct:=I (i+1),bk:=D.nx } j)(p:∀c,I l.length c->D.nx c):HZ o k D .sh n b:=by
 subst e
 refine ⟨rfl,I,h0,λi d c f s=>?_,λc h=>p c (by rw[Ac] at h; exact h)⟩
 rw[Br] at f
 cases q:l[i]? with
 | none=>rw[q] at f; cases f
 | some a=>rw[q] at f; cases f; exact r i a c q s
end
section
variable{r:List Nat}{j:DT}{o:DE}{P:DV->DS->Prop}{m:Md}{k:List Ae}{b:DS}{c:Type}
theorem qF{l:List c}{g:c->Ae}(e:k=l.map g)(p:c->Bool)(f:c->Ae)(h:∀a∈l,∀(t:Ae->Nat->Prop) (y:Nat->Prop),(p a=true->t (f a) b.n)->(p a=false->y b.n)->Xh j o ⟨.dat m (g a)::frD b.sl r,b.n⟩ t y)(q:P (.dat .ow (.list ((l.filter p).map f))) b):o7 r j o P m k b:=by
 subst e
 refine ⟨λi s n=>n=b.n/\s=((l.take i).filter p).map f,⟨rfl,by simp⟩,λi d s n u ⟨w,v⟩=>?_,λs n ⟨w,v⟩=>?_⟩
 ·subst w v
  rw[Br] at u
  cases q:l[i]? with
  | none=>rw[q] at u; cases u
  | some a =>
   rw[q] at u
   cases u
   refine h a (Aw q) _ _ (λx=>⟨rfl,?_⟩) (λx=>⟨rfl,?_⟩)
   ·rw[Rf q,Mp,Bn]; simp [x]
   ·rw[Rf q,Mp,Bn]; simp [x]
 ·subst w v
  rw[Ac,Gy]
  exact q
theorem iK{l:List c}{g:c->Ae}(e:k=l.map g)(f:c->Ae)(h:∀a∈l,∀(d:Ae->Nat->Prop) (i:Nat->Prop),d (f a) b.n->Xh j o ⟨.dat m (g a)::frD b.sl r,b.n⟩ d i)(q:P (.dat .ow (.list (l.map f))) b):o7 r j o P m k b:=by
 refine qF e (λ_=>true) f (λa p d i s _=>h a p d i (s rfl)) ?_
 rw[List.filter_eq_self.mpr λ_ _=>rfl]
 exact q
theorem CG{l:List c}{g:c->Ae}(e:k=l.map g)(p:c->Bool)(f:c->Ae)(h:∀a∈l,∀(t:Ae->Nat->Prop) (y:Nat->Prop),(p a=true->t (f a) b.n)->(p a=false->y b.n)->Ox false j o ⟨.dat m (g a)::frD b.sl r,b.n⟩ t y)(q:P (.dat .tp (.list ((l.filter p).map f))) b):zE r j o P m k b:=by
 subst e
 refine ⟨λi s n=>n=b.n/\s=((l.take i).filter p).map f,⟨rfl,by simp⟩,λi d s n u ⟨w,v⟩=>?_,λs n ⟨w,v⟩=>?_⟩
 ·subst w v
  rw[Br] at u
  cases q:l[i]? with
  | none=>rw[q] at u; cases u
  | some a =>
   rw[q] at u
   cases u
   refine h a (Aw q) _ _ (λx=>⟨rfl,?_⟩) (λx=>⟨rfl,?_⟩)
   ·rw[Rf q,Mp,Bn]; simp [x]
   ·rw[Rf q,Mp,Bn]; simp [x]
 ·subst w v
  rw[Ac,Gy]
  exact q
theorem uK{js1 js2:List Nat}{j0:Nat}{l:List c}{g:c->Ae}(e:k=l.map g)(s:b.sl[j0]? = some .drw)(I:Nat->List Ae->Nat->Prop)(h0:I 0 [] b.n)(h:∀i a f n,l[i]? = some a->I i f n->Rh (js1.length+1) j o ⟨.dat m (g a)::(frD (b.sl.set j0 .un) js1++.drw::frD (b.sl.set j0 .un) js2),n⟩ (λe n'=>I (i+1) (f++[e]) n') (λn'=>I (i+1) f n'))(q:∀f n,I l.length f n->P (.dat .ow (.list f)) ⟨b.sl,n⟩):zJ js1 j0 js2 j o P m k b:=by
 subst e
 refine ⟨s,I,h0,λi d f n p r=>?_,λf n r=>q f n (by rw[Ac] at r; exact r)⟩
 rw[Br] at p
 cases q:l[i]? with
 | none=>rw[q] at p; cases p
 | some a=>rw[q] at p; cases p; exact h i a f n q r
end
theorem Sd{t u:DB}{D:DEnds}{b:Bool}{a:DS}(h1:b=true->t D a)(c:b=false->u D a):FQ t u D b a:=by
 cases b with
 | true=>exact h1 rfl
 | false=>exact c rfl
theorem Vy{c:DT}{b:Bool}{a:DS}{P:Bool->DS->Prop}(h1:b=true->c a P)(d:b=false->P false a):DQ c b a P:=by
 cases b with
 | true=>exact h1 rfl
 | false=>exact d rfl
theorem L5{c:DT}{b:Bool}{a:DS}{P:Bool->DS->Prop}(h1:b=true->P true a)(d:b=false->c a P):GV c b a P:=by
 cases b with
 | true=>exact h1 rfl
 | false=>exact d rfl
theorem kZ{f:DE}{a:Ae->Nat->Prop}{e:Nat->Prop}{b:Bool}{c:DS}(h1:b=true->f c λy d=>U5 a y d)(g:b=false->e c.n):tY f a e b c:=by
 cases b with
 | true=>exact h1 rfl
 | false=>exact g rfl
class Im (d:Ae):Prop where
 h:imm d=true
class ImA (ds:List Ae):Prop where
 h:Dt ds=true
theorem MX{a:List Ae}[h:ImA a]:Dt a=true:=h.h
instance {i:Int}:Im (.int i):=⟨by simp [imm]⟩
instance {i:Bool}:Im (.bool i):=⟨by simp [imm]⟩
instance {i:Str}:Im (.str i):=⟨by simp [imm]⟩
instance:Im .none:=⟨by simp [imm]⟩
instance {ds:List Ae} [h:ImA ds]:Im (.tuple ds):=⟨by rw[imm]; exact h.h⟩
instance {ns:List Int}:Im (Bb ns):=⟨A4 ns⟩
instance:ImA []:=⟨by simp [Dt]⟩
instance {d:Ae} {ds:List Ae} [h:Im d] [t:ImA ds]:ImA (d::ds):=⟨by rw[Dt,h.h,t.h]; rfl⟩
instance {α:Type} {f:α->Ae} {l:List α} [h:∀a,Im (f a)]:ImA (l.map f):=⟨Vn (λa=>(h a).h) l⟩
instance {a b:List Ae} [h:ImA a] [k:ImA b]:ImA (a++b):=⟨by rw[dO,h.h,k.h]; rfl⟩
class Dp (d:Ae) (k:outParam Nat):Prop where
 h:d.depth<=k
class DpA (ds:List Ae) (k:outParam Nat):Prop where
 h:Bu ds<=k
theorem dp{d:Ae}{k:Nat}[h:Dp d k](a:k<=60:=by decide):d.depth<=60:=Co h.h a
instance {i:Int}:Dp (.int i) 0:=⟨by simp [Dq]⟩
instance {i:Bool}:Dp (.bool i) 0:=⟨by simp [Dq]⟩
instance {i:Str}:Dp (.str i) 0:=⟨by simp [Dq]⟩
instance:Dp .none 0:=⟨by simp [Dq]⟩
instance {ds:List Ae} {k:Nat} [h:DpA ds k]:Dp (.tuple ds) (k+1):=⟨by have:=h.h; simp only[Dq]; omega⟩
instance {ds:List Ae} {k:Nat} [h:DpA ds k]:Dp (.list ds) (k+1):=⟨by have:=h.h; simp only[Dq]; omega⟩
instance {ns:List Int}:Dp (Bb ns) 1:=⟨sH ns⟩
instance:DpA [] 0:=⟨by simp [Bu]⟩
instance {d:Ae} {ds:List Ae} {k j:Nat} [h:Dp d k] [t:DpA ds j]:DpA (d::ds) (k+j):=⟨by have:=h.h; have:=t.h; simp only[Bu]; omega⟩
instance {α:Type} {f:α->Ae} {l:List α} {k:Nat} [h:∀a,Dp (f a) k]:DpA (l.map f) k:=⟨aH λx hx=>by
 obtain ⟨a,_,rfl⟩:=Bl.mp hx
 exact (h a).h⟩
theorem jR{a b:List Ae}:Bu (a++b)<=Bu a+Bu b:=by
 induction a with
 | nil=>simp [Bu]
 | cons x a c=>simp only[Ha,Bu]; omega
instance {a b:List Ae} {k j:Nat} [h:DpA a k] [t:DpA b j]:DpA (a++b) (k+j):=⟨by have:=h.h; have:=t.h; have:=jR (a:=a) (b:=b); omega⟩
theorem eqD_bl(i j:Bool):Ep (.bool i) (.bool j)=(i == j):=by simp [Ep]
theorem eqD_str(i j:Str):Ep (.str i) (.str j)=(i == j):=by simp [Ep]
theorem O4(a b:List Ae):Ep (.tuple a) (.tuple b)=Pu a b:=by simp [Ep]
theorem pD{c:Type}[DecidableEq c]{f:c->Ae}(h:∀a b,Ep (f a) (f b)=decide (a=b)):∀l m:List c,Pu (l.map f) (m.map f)=decide (l=m)
 | [],[]=>by simp [Pu]
 | [],_::_=>by simp [Pu]
 | _::_,[]=>by simp [Pu]
 | a::l,b::m=>by simp [Pu,h,pD h l m]
theorem eqD_intd(i j:Int):Ep (.int i) (.int j)=decide (i=j):=by simp [Ep]; rfl
theorem eqD_word(a b:List Int):Ep (Bb a) (Bb b)=decide (a=b):=by
 unfold Bb
 rw[O4,pD eqD_intd]
def BZ(ws:List (List Int)):Ae:=.list (ws.map Bb)
instance {ws:List (List Int)}:Dp (BZ ws) 2:=⟨(inferInstance:Dp (.list (ws.map Bb)) 2).h⟩
def JF(ns:List Int):Ae:=.list (ns.map Bq)
instance {ns:List Int}:Dp (JF ns) 1:=⟨(inferInstance:Dp (.list (ns.map Bq)) 1).h⟩
theorem any_int(ns:List Int)(i:Int):((ns.map Bq).any λe=>Ep e (.int i))=decide (i∈ns):=by
 rw[bI]
 induction ns with
 | nil=>rfl
 | cons n ns a =>
  rw[Ma,a]
  simp only[Vk,eqD_intd,An]
  by_cases h:n=i
  ·subst h; simp
  ·have : ¬ i=n:=λz=>h z.symm
   simp [h,this]
theorem any_map{c:Type}[DecidableEq c]{f:c->Ae}(h:∀a b,Ep (f a) (f b)=decide (a=b))(l:List c)(a:c):((l.map f).any λe=>Ep e (f a))=decide (a∈l):=by
 rw[bI]
 induction l with
 | nil=>rfl
 | cons n g d =>
  rw[Ma,d]
  simp only[Vk,h,An]
  by_cases h:n=a
  ·subst h; simp
  ·have : ¬ a=n:=λz=>h z.symm
   simp [h,this]
theorem any_word(ws:List (List Int))(a:List Int):((ws.map Bb).any λe=>Ep e (Bb a))=decide (a∈ws):=(any_map eqD_word ws a).trans (decide_eq_decide.mpr Iff.rfl)
theorem N7{a b:Type}(f:a->b)(l:List a):(l.map f).zipIdx=l.zipIdx.map λp=>(f p.1,p.2):=by
 rw[List.zipIdx_map]
 rfl
theorem S8{a b:Type}(f:a->b)(l:List a)(i:Int):Xu (l.map f) i=(Xu l i).map f:=by
 unfold Xu
 rw[Ac]
 cases M5 l.length i with
 | none=>rfl
 | some j=>simp
theorem nY{c:Type}{l:List c}{i:Int}(h0:0<=i)(h1:i<l.length):∃a,l[i.toNat]? = some a/\Xu l i=some a/\a∈l:=by
 have b:i.toNat<l.length:=by omega
 refine ⟨l[i.toNat],by simp [b],?_,Fb b⟩
 have q:Xu l ((i.toNat:Nat):Int)=some l[i.toNat]:=lK (by simp [b])
 rwa [show ((i.toNat:Nat):Int)=i by omega] at q
theorem im_e{d:Ae}[h:Im d]:(imm d=true)=True:=eq_true h.h
theorem ima_e{a:List Ae}[h:ImA a]:(Dt a=true)=True:=eq_true h.h
theorem dp_e{d:Ae}{k:Nat}[h:Dp d k](a:k<=60):(d.depth<=60)=True:=eq_true (Co h.h a)
theorem dpa_e{a:List Ae}{k:Nat}[h:DpA a k](b:k<=60):(Bu a<=60)=True:=eq_true (Co h.h b)
theorem eqD_l0(a:List Ae):Ep (.list a) (.list [])=a.isEmpty:=U8 a
theorem ow_e{d:Ae}{R:Ae->Prop}:(∃e,DV.dat .ow d=.dat .ow e/\R e)=R d:=by
 apply propext
 constructor
 ·(intro a; obtain ⟨e,h,r⟩ := a); cases h; exact r
 ·intro r; exact ⟨d,rfl,r⟩
theorem tt_e{m:Md}{b:Bool}:(∃a,DV.dat m (.bool b)=.dat a (.bool true))=(b=true):=by
 apply propext
 constructor
 ·rintro ⟨e,h⟩; cases h; rfl
 ·intro r; subst r; exact ⟨m,rfl⟩
theorem cdiv_e{i j:Int}:FA i j=(0<j/\j<1073741824):=rfl
theorem cmul_r{i j:Int}(h:-18446744073709551616<j/\j<18446744073709551616):L0 i j=True:=eq_true (.inr h)
theorem cmul_l{i j:Int}(h:-18446744073709551616<i/\i<18446744073709551616):L0 i j=True:=eq_true (.inl h)
theorem nO{b a:List DV}{n n':Nat}(h:b=a)(h':n=n'):(⟨b,n⟩ : DS)=⟨a,n'⟩:=by subst h h'; rfl
theorem Re{j i a:Nat}(h:(Bg j)[i]? = some a):a=i/\i<j:=by
 obtain ⟨b,c⟩:=Ai.mp h
 rw[Cs] at b
 rw[List.getElem_range] at c
 exact ⟨c.symm,b⟩
def NP(v:DV):Prop:=∀l,npk (v::l)=npk l
theorem Jy:NP .un:=λ_=>rfl
theorem Ga{d:Ae}:NP (.dat .sh d):=λ_=>rfl
theorem GD{d:Ae}:NP (.dat .ow d):=λ_=>rfl
theorem Qi:NP .drw:=λ_=>rfl
theorem Z3{t u:DB}{D:DEnds}(X:(Bool->DS->Prop)->Prop)(J:DS->Prop)(h:∀N:DS->Prop,(∀a,J a->N a)->X (FQ t u { D with nx:=N }))(k:∀a,J a->D.nx a):X (FQ t u D):=h D.nx k
theorem HN{a:Type}(x y:a)(b:Bool):Xu [x,y] (if b=true then 1 else 0)=some (if b=true then y else x):=by cases b <;> rfl
theorem fold_w(w:List Int):PyData.tuple (List.map Bq w)=Bb w:=rfl
theorem isi_li(a:List Ae):Vw (.list a) "list" = true:=by simp [Vw,M6]
theorem isi_tt(a:List Ae):Vw (.tuple a) "tuple" = true:=by simp [Vw,M6]
theorem isi_ib(i:Int):Vw (.int i) "bool" = false:=by simp [Vw,M6]
theorem isi_ii(i:Int):Vw (.int i) "int" = true:=by simp [Vw,M6]
theorem isi_wt(w:List Int):Vw (Bb w) "tuple" = true:=isi_tt _
theorem wB{ws:List (List Int)}{i:Int}(h0:0<=i)(h1:i<ws.length):∃w∈ws,Xu (ws.map Bb) i=some (Bb w):=by
 obtain ⟨w,_,a,b⟩:=nY (l:=ws) h0 h1
 exact ⟨w,b,by rw[S8,a]; rfl⟩
theorem gW{b c:Type}{l:List b}{i:Nat}{a:b}(p:b->Bool)(f:b->c)(h:l[i]? = some a):((l.take (i+1)).filter p).map f=((l.take i).filter p).map f++(if p a=true then [f a] else []):=by
 rw[Rf h,Mp,Bn]
 cases q:p a <;> simp [q]
theorem IQ{ns:List Int}(k:Nat):(Ol ns none (some (k:Int))).length<=k:=by
 rw[iI,Cy]
 exact Nat.min_le_left _ _
theorem ifB_lt{t u:DB}{D:DEnds}{a:DS}:FQ t u D true a=t D a:=rfl
theorem ifB_lf{t u:DB}{D:DEnds}{a:DS}:FQ t u D false a=u D a:=rfl
theorem isi_ss(i:Str):Vw (.str i) "str" = true:=by simp [Vw,M6]
theorem str_self(s:Str):(s == s)=true:=by simp
theorem C8{c:Type}{l:List c}{i:Nat}{a:c}(h:l[i]? = some a):Xu l (i:Int)=some a:=by
 obtain ⟨b,e,d,_⟩:=nY (l:=l) (i:=(i:Int)) (by omega) (by have:=(Ai.mp h).1; omega)
 rw[d,<- e,<- h]; rfl
theorem yesL_sh{e:Ae}{b:DS}{a:Ae->Nat->Prop}:zI a (.dat .sh e) b=a e b.n:=propext ⟨λh=>h.2,λh=>⟨by decide,h⟩⟩
theorem FH{m b:Md}{a es:List Ae}{P:DV->Prop}(h1:m≠.pk)(c:b≠.pk):cJ (.dat m (.list a)) (.dat b (.list es)) P=(a.length+es.length<=1000000/\P (.dat .tp (.list (a++es)))):=propext ⟨λh=>h.2.2,λh=>⟨h1,c,h⟩⟩
theorem catL_shtp{a es:List Ae}{P:DV->Prop}:cJ (.dat .sh (.list a)) (.dat .tp (.list es)) P=(a.length+es.length<=1000000/\P (.dat .tp (.list (a++es)))):=FH (by decide) (by decide)
theorem atI_0{a:Type}(x:a)(l:List a):Xu (x::l) 0=some x:=C8 (i:=0) rfl
theorem atI_1{a:Type}(x y:a)(l:List a):Xu (x::y::l) 1=some y:=C8 (i:=1) rfl
theorem atI_2{a:Type}(x y z:a)(l:List a):Xu (x::y::z::l) 2=some z:=C8 (i:=2) rfl
theorem some_e{b:Type}{a:b}{R:b->Prop}:(∃d,some a=some d/\R d)=R a:=propext ⟨λ⟨_,e,h⟩=>by cases e; exact h,λh=>⟨a,rfl,h⟩⟩
theorem dec_self{b:Type}(a:b)[h:Decidable (a=a)]:decide (a=a)=true:=by simp
theorem isE_cons{b:Type}(a:b)(l:List b):(a::l).isEmpty=false:=rfl
theorem st_places_same:(Fv "places" == Fv "same")=false:=by decide +kernel
theorem st_same_places:(Fv "same" == Fv "places")=false:=by decide +kernel
theorem JL{a:Addr}{ks:List (List Int×Ae)}{w:List Int}{m b:Md}{P:DV->Prop}:P4 (.dat m (.dict (CQ a ks))) (.dat b (Bb w)) P=∃d,Wb ks w=some d/\P (.dat .ow d):=propext ⟨λ⟨g,c,i,d,f,e,h⟩=>by obtain ⟨_,rfl⟩:=U6 f; cases Qu e; exact ⟨d,h⟩,λ⟨d,h⟩=>⟨a,ks,w,d,rfl,rfl,h⟩⟩
theorem dk_e{ks:List (List Int×Ae)}{w:List Int}{Q:List (List Int×Ae)->List Int->Prop}:(∃ks' a,aD ks=aD ks'/\Bb w=Bb a/\Q ks' a)=Q ks w:=propext ⟨λ⟨ks',a,c,b,h⟩=>by cases Ue c; cases Qu b; exact h,λh=>⟨ks,w,rfl,rfl,h⟩⟩
theorem dget_e{ks:List (List Int×Ae)}{w:List Int}{m a:Md}{P:DV->Prop}:lI (.dat m (.dict (aD ks))) (.dat a (Bb w)) P=∃d,Wb ks w=some d/\P (.dat .ow d):=propext ⟨λ⟨b,f,d,e,c,h⟩=>by cases Ue e; cases Qu c; exact ⟨d,h⟩,λ⟨d,h⟩=>⟨ks,w,d,rfl,rfl,h⟩⟩
theorem dinF_e{ks:List (List Int×Ae)}{w:List Int}{m a:Md}{P:DV->Prop}:uP false (.dat a (Bb w)) (.dat m (.dict (aD ks))) P=P (.dat .ow (.bool (Wb ks w).isSome)):=propext ⟨λ⟨b,e,d,c,h⟩=>by cases Ue d; cases Qu c; exact h,λh=>⟨ks,w,rfl,rfl,h⟩⟩
theorem ow_npk:(Md.ow≠Md.pk)=True:=eq_true (by decide)
end DL
namespace K58
open PySem L2 Nd DL
def top(i:Nat):Stmt:=PySem.Challenge.pw_needledeck_k58_whole_as_few_places_as_an.main.body.getD i (.Pass ⟨0,0,0,0⟩)
abbrev Vo:Stmt:=top 4
abbrev Ys:Stmt:=top 5
abbrev Wv:Stmt:=top 6
abbrev eO:Stmt:=top 8
abbrev Zd:Stmt:=top 9
abbrev Ru:Stmt:=top 10
abbrev Oq:Stmt:=top 12
abbrev Wa:Stmt:=top 13
abbrev Nx:Stmt:=top 14
abbrev Zk:Stmt:=top 15
abbrev Sn:Stmt:=top 16
abbrev Rp:Stmt:=top 17
abbrev Mf:Stmt:=top 18
abbrev Pi:Stmt:=top 19
abbrev Yw:Stmt:=top 21
abbrev kQ:Stmt:=top 23
abbrev uE:Stmt:=top 24
abbrev Rw:Stmt:=top 25
abbrev Qe:Stmt:=top 27
abbrev Vt:Stmt:=top 28
abbrev Sk:Stmt:=top 31
abbrev Mj:Stmt:=top 32
abbrev Gp:Stmt:=top 33
abbrev Nh:Stmt:=top 34
abbrev gQ:Stmt:=top 35
section
variable{P:Bp}{w:World}{K:PySem.W.Frag}{mg:Str->Option Value}{base:Heap}
theorem NC:FnScope ["_law_cell"] ["_law_cell"] (Cf kQ):=⟨rfl,rfl,rfl,by decide +kernel,rfl,by decide +kernel,by decide +kernel⟩
theorem w4{f:Addr}{d:Cz}(F:Fun K "_law_draws" "_law_draws" kQ f d):FnOk P w K mg base Ib 1 f d ["_law_cell"] Xl:=by
 refine F.ok NC (λvs H Q E h=>?_) (λe A b s H vs Q E g h=>?_)
 ·obtain ⟨c,rfl,_⟩:=h
  rfl
 obtain ⟨c,rfl,q⟩:=h
 refine ⟨_,Mk (K9 (tX K2 (pv 0) (Km kF Fw Fw) (Nw _)) (Ww (cK (rB (Jc (Km Vu (pv 0) (Km Q6 (Km kF Fw Fw) Fw)) (Jc Fw (Jc zR Qm)))))) mM)
  (Ww (cK (rB (Jc (Km Vu (pv 0) Fw) (Jc Fw (Jc zR Qm)))))),?_⟩
 refine ⟨_,rfl,10,18,rfl,rfl,⟨by decide,by decide,by decide⟩,_,_,rfl,rfl,_,rfl,GU (λ_=>?_) (λ_=>?_)⟩
 ·refine ⟨_,rfl,10,60,rfl,rfl,⟨by decide,by decide,by decide⟩,_,16,rfl,rfl,⟨by decide,by show (Builtin.Int.intBits (10 ^ (60:Int).toNat):Int) * 16<=2 ^ 27; decide +kernel⟩,_,_,rfl,rfl,(by show (0:Int)<(10 ^ (60:Int).toNat) ^ (16:Int).toNat; decide +kernel),(by show 3<=Bf; decide),λp a=>?_⟩
  exact q p _ _ _ a El (Gn a _)
 ·refine ⟨_,rfl,_,_,rfl,rfl,(by show (0:Int)<1000003; decide),(by show 3<=Bf; decide),λp a=>?_⟩
  exact q p _ _ _ a El (Gn a _)
theorem NF:FnScope ["_law_draws_here", "_law_k", "_law_number"] ["_law_draws_here"] (Cf uE):=⟨rfl,rfl,rfl,by decide +kernel,rfl,by decide +kernel,by decide +kernel⟩
theorem V5{f:Addr}{l:Cz}(F:Fun K "_law_next" "_law_next" uE f l):FnOk P w K mg base Ib 1 f l ["_law_draws_here"] x9:=by
 refine F.ok NF (λvs H Q E h=>?_) (λp A g s H vs Q E u h=>?_)
 ·obtain ⟨d,c,k,b,rfl,_⟩:=h
  rfl
 obtain ⟨d,c,k,b,rfl,j,t,r,q⟩:=h
 refine ⟨_,Mk (sA (Km cW (dE Uk (pv 0) Fw (λ_ _=>rfl)) Fw) (i9 (pv 0) Fw oO))
  (Mk (K9 (J2 (dE Uk (pv 0) Fw (λ_ _=>rfl)))
   (Mk (Yy (i:=2) NF.nd rfl (Dc rfl) (Km Vu (dE Uk (pv 0) Fw (λ_ _=>rfl)) (Km kF Fw Fw)))
    (Mk (sA (Km kG (dE Uk (pv 0) Fw (λ_ _=>rfl)) (Km kF Fw Fw)) (i9 (pv 0) Fw oO))
    (Ww (cK (pv 2))))) mM)
  (Mk (Yy (i:=1) NF.nd rfl (Dc rfl) (dE Uk (pv 0) Fw (λ_ _=>rfl)))
  (Mk (Yy (i:=2) NF.nd rfl (Dc rfl) (Km Vu (Km Zo (Km cW (Km cW (dE Uk (pv 0) Fw (λ_ _=>rfl)) (Km Zo (Km Zo (pv 1) (pv 1)) Fw)) (pv 1)) Fw) Fw))
  (Mk (Yy (i:=2) NF.nd rfl (Dc rfl) (Km Vu (Km Zo (pv 2) (pv 2)) Fw))
  (Ww (cK (Km kG (Km Vu (Km Zo (pv 2) (Km cW (pv 2) Fw)) Fw) Fw))))))),?_⟩
 -- draws[1]=draws[1]+1
 refine ⟨_,rfl,d,_,1,_,rfl,rfl,Ux.of j,rfl,_,_,rfl,rfl,_,rfl,d,_,1,1,rfl,rfl,j,rfl,?_⟩
 have a:(upd H d (.lst ([V.int c,V.int k,V.bl b].set 1 (V.int (k+1))))) d=some (.lst [.int c,.int (k+1),.bl b]):=El
 generalize e:upd H d (.lst ([V.int c,V.int k,V.bl b].set 1 (V.int (k+1))))=H1 at a
 have m:aG d H H1:=by rw[<- e]; exact aG.upd
 refine ⟨_,rfl,d,_,2,_,rfl,rfl,Ux.of a,rfl,_,rfl,?_⟩
 refine GU (λ_=>?_) (λ_=>?_)
 ·refine ⟨_,rfl,d,_,0,_,rfl,rfl,Ux.of a,rfl,10,6,rfl,rfl,⟨by decide,by decide,by decide⟩,_,_,rfl,rfl,(by show (0:Int)<10 ^ (6:Int).toNat; decide),?_⟩
  refine ⟨_,rfl,d,_,0,_,rfl,rfl,Ux.of a,rfl,10,6,rfl,rfl,⟨by decide,by decide,by decide⟩,_,_,rfl,rfl,⟨by decide,by decide⟩,_,rfl,d,_,0,0,rfl,rfl,a,rfl,_,rfl,?_⟩
  exact q _ _ _ El (m.trans aG.upd)
 ·refine ⟨_,rfl,d,_,1,_,rfl,rfl,Ux.of a,rfl,?_⟩
  have o:=lT ((c+(k+1) * (k+1) * 7919+(k+1)) * 48271) 2147483629 (by decide)
  refine ⟨_,rfl,d,_,0,_,rfl,rfl,Ux.of a,rfl,_,rfl,_,rfl,_,_,rfl,rfl,.inl ⟨by omega,by omega⟩,_,_,rfl,rfl,.inr ⟨by decide,by decide⟩,_,_,rfl,rfl,_,rfl,_,_,rfl,rfl,
   _,_,rfl,rfl,.inr ⟨by decide,by decide⟩,_,_,rfl,rfl,(by show (0:Int)<2147483629; decide),?_⟩
  generalize ((c+(k+1) * (k+1) * 7919+(k+1)) * 48271) % 2147483629=x at o
  have n:=lT (x * x) 2147483587 (by decide)
  refine ⟨_,rfl,_,rfl,_,_,rfl,rfl,.inl ⟨by omega,by omega⟩,_,_,rfl,rfl,(by show (0:Int)<2147483587; decide),?_⟩
  generalize (x * x) % 2147483587=y at n
  refine ⟨_,rfl,_,rfl,_,_,rfl,rfl,_,_,rfl,rfl,.inl ⟨by omega,by omega⟩,_,_,rfl,rfl,(by show (0:Int)<2147483579; decide),_,_,rfl,rfl,⟨by decide,by decide⟩,?_⟩
  exact q _ _ _ a m
theorem yK{f:Addr}{a:Cz}(F:Fun K "_law_draws" "_law_draws" kQ f a):FnOk P w K mg base Ib 1 f a ["_law_cell"] Xl:=w4 F
theorem F8{f:Addr}{a:Cz}(F:Fun K "_law_next" "_law_next" uE f a):FnOk P w K mg base Ib 1 f a ["_law_draws_here"] (fO K Ss):=R9 (V5 F)
end
end K58
namespace DL
open PySem L2 Nd
def sub(a b:List Int):Bool:=a.all λi=>decide (i∈b)
def nB(a b:List Int):List Int:=a.filter λi=>decide (i∉b)
theorem CL{h:Int}{a:List Int}(r:Dh h a):a.Nodup:=r.1.imp λ{x y} h=>Int.ne_of_lt h
theorem xV{a:List Int}(c:a.Nodup)(h:∀x∈a,0<=x/\x<60):a.length<=60:=Co (NdS.len_leI c λe b=>Xi (h e b).1 (h e b).2) (by decide)
theorem Qj(a:Int){b:Int}(h:0<b):0<=a % b/\a % b<b:=lT a b h
def IR:PF:=λc R=>∃a b:List Int,c=[Bb a,Bb b]/\R (.bool (sub a b))
end DL
namespace Nd
open PySem L2 Ts
end Nd
namespace Nd
open PySem L2
def ch:Nat->Nat->Nat
 | _,0=>1
 | 0,_+1=>0
 | n+1,k+1=>ch n k+ch n (k+1)
theorem Qd(n:Nat):ch n 0=1:=by cases n <;> rfl
theorem Nj(n k:Nat):ch (n+1) (k+1)=ch n k+ch n (k+1):=rfl
theorem Je:∀{n k:Nat},n<k->ch n k=0
 | 0,0,h=>absurd h (He _)
 | 0,k+1,_=>rfl
 | n+1,0,h=>absurd h (Dv _)
 | n+1,k+1,h=>by rw[Nj,Je (by omega:n<k),Je (by omega:n<k+1)]
theorem bK:∀n:Nat,ch n n=1
 | 0=>rfl
 | n+1=>by rw[Nj,bK n,Je (Oh n)]
theorem E9:∀n:Nat,ch n 1=n
 | 0=>rfl
 | n+1=>by rw[Nj,Qd,E9 n]; omega
theorem kH:∀n k:Nat,ch n (k+1) * (k+1)=ch n k * (n - k)
 | 0,0=>rfl
 | 0,k+1=>by rw[Je (by omega:0<k+1+1),Je (by omega:0<k+1)]; simp
 | n+1,0=>by rw[E9,Qd]; omega
 | n+1,k+1=>by
  have a:=kH n k
  have c:=kH n (k+1)
  rw[Nj,Nj n k]
  by_cases f:n<=k
  ·by_cases b:n=k
   ·subst b
    rw[bK,Je (by omega:n<n+1),Je (by omega:n<n+1+1)]
    simp
   ·rw[Je (by omega:n<k+1),Je (by omega:n<k+1+1),Je (by omega:n<k)]
    simp
  ·have e:n - k=n - (k+1)+1:=by omega
   have d:n+1 - (k+1)=n - (k+1)+1:=by omega
   rw[e] at a
   rw[d]
   generalize n - (k+1)=m at a c
   generalize ch n k=A at *
   generalize ch n (k+1)=B at *
   generalize ch n (k+1+1)=C at *
   -- a:B * (k+1)=A * (m+1); c:C * (k+1+1)=B * m
   have : (B+C) * (k+1+1)=B * (k+1)+B+C * (k+1+1):=by
    rw[Nat.add_mul,Nat.mul_add B (k+1) 1,Nat.mul_one]
   rw[this,a,c,Nat.add_mul,Nat.mul_add B m 1,Nat.mul_one]
   omega
theorem qR:∀{n k:Nat},k<=n->ch n k=ch n (n - k)
 | 0,k,h=>by
  have : k=0:=by omega
  subst this; rfl
 | n+1,0,_=>by rw[Qd,bT,bK]
 | n+1,k+1,h=>by
  by_cases b:k=n
  ·subst b; rw[bU,bK,Qd]
  ·have e:n+1 - (k+1)=(n - (k+1))+1:=by omega
   rw[Nj,e,Nj,qR (by omega:k<=n),qR (by omega:k+1<=n)]
   have a:n - k=n - (k+1)+1:=by omega
   rw[a]
   omega
theorem vH:∀n k:Nat,ch n k<=2 ^ n
 | n,0=>by rw[Qd]; exact Nat.one_le_two_pow
 | 0,k+1=>by rw[Je (by omega)]; exact Ds _
 | n+1,k+1=>by
  have a:=vH n k
  have b:=vH n (k+1)
  rw[Nj,bV]
  omega
theorem n6:∀{n k:Nat},k<=n->0<ch n k
 | n,0,_=>by rw[Qd]; exact Nat.one_pos
 | 0,k+1,h=>absurd h (Nat.not_succ_le_zero _)
 | n+1,k+1,h=>by rw[Nj]; have:=n6 (by omega:k<=n); omega
def cw:Nat->Int->Nat->List (List Int)
 | _,_,0=>[[]]
 | 0,_,_+1=>[]
 | d+1,p,m+1=>(cw d (p+1) m).map (p::·)++cw d (p+1) (m+1)
theorem cw_zero (d:Nat) (p:Int):cw d p 0=[[]]:=by cases d <;> rfl
theorem cw_succ (d:Nat) (p:Int) (m:Nat):cw (d+1) p (m+1)=(cw d (p+1) m).map (p::·)++cw d (p+1) (m+1):=rfl
theorem cw_len:∀ (d:Nat) (p:Int) (m:Nat),(cw d p m).length=ch d m
 | d,p,0=>by rw [cw_zero,Qd]; rfl
 | 0,p,m+1=>rfl
 | d+1,p,m+1=>by rw [cw_succ,Bh,Ac,cw_len d (p+1) m,cw_len d (p+1) (m+1),Nj]
def u5(p:Int)(d:Nat)(w:List Int):Prop:=w.Pairwise (· < ·)/\∀x∈w,p<=x/\x<p+d
theorem cw_mem:∀ {d:Nat} {p:Int} {m:Nat} {w:List Int},w∈cw d p m↔w.length=m∧u5 p d w
 | d,p,0,w=>by
  rw [cw_zero,Al]
  constructor
  ·rintro rfl; exact ⟨rfl,Dz,λ_ h=>(nomatch h)⟩
  ·rintro ⟨h,_⟩; exact fV h
 | 0,p,m+1,w=>by
  constructor
  ·intro h; cases h
  ·(intro f; obtain ⟨h,_,c⟩ := f)
   match w,h with
   | x::w,_=>have:=c x Ab; omega
 | d+1,p,m+1,w=>by
  rw [cw_succ,Ba,List.mem_map]
  constructor
  ·rintro (⟨v,hv,rfl⟩ | h)
   ·obtain ⟨a,c,b⟩:=cw_mem.mp hv
    refine ⟨by rw[Bd,a],Ax.mpr ⟨λx hx=>?_,c⟩,λx hx=>?_⟩
    ·have:=b x hx; omega
    ·rcases An.mp hx with rfl | hx
     ·omega
     ·have:=b x hx; omega
   ·obtain ⟨a,c,b⟩:=cw_mem.mp h
    exact ⟨a,c,λx hx=>by have:=b x hx; omega⟩
  ·(intro f; obtain ⟨a,c,b⟩ := f)
   match w,a with
   | x::v,a =>
    obtain ⟨g,i⟩:=Ax.mp c
    have hx:=b x Ab
    by_cases e:x=p
    ·subst e
     refine .inl ⟨v,cw_mem.mpr ⟨by simpa using a,i,fun y hy=>?_⟩,rfl⟩
     have:=g y hy
     have:=b y (Ad _ hy)
     omega
    ·refine .inr (cw_mem.mpr ⟨a,c,fun y hy=>?_⟩)
     rcases An.mp hy with rfl | hy
     ·omega
     ·have:=g y hy
      have:=b y (Ad _ hy)
      omega
def rA(top:Int):Nat->List Int->Nat
 | _,[]=>0
 | m,x::w=>ch (top - 1 - x).toNat m+rA top (m - 1) w
end Nd
namespace DL
open PySem L2 Nd
def pairD(p:Nat×Nat):Ae:=.tuple [.int p.1,.int p.2]
instance {p:Nat×Nat}:Im (pairD p):=⟨(inferInstance:Im (.tuple [.int p.1,.int p.2])).h⟩
instance {p:Nat×Nat}:Dp (pairD p) 1:=⟨(inferInstance:Dp (.tuple [.int p.1,.int p.2]) 1).h⟩
def Y9(p:Nat×Nat×List Int):Ae:=.tuple [.int p.1,.int p.2.1,Bb p.2.2]
instance {p:Nat×Nat×List Int}:Im (Y9 p):=⟨(inferInstance:Im (.tuple [.int p.1,.int p.2.1,Bb p.2.2])).h⟩
instance {p:Nat×Nat×List Int}:Dp (Y9 p) 2:=⟨(inferInstance:Dp (.tuple [.int p.1,.int p.2.1,Bb p.2.2]) 2).h⟩
def LL(L:List (List Int))(f:List Int->Int):Ae:=.list ((L.map f).map Bq)
instance {L:List (List Int)} {f:List Int->Int}:Dp (LL L f) 1:=⟨(inferInstance:Dp (.list ((L.map f).map Bq)) 1).h⟩
def jm(Q w c:List Int):Bool:=sub w c && c.all λi=>decide (i∈w\/i∉Q)
end DL
namespace DL
open PySem PySem.Spec PyProof.Rows L2 Nd
theorem xN(n:Nat):Oo (n+1)=Oo n++[(n:Int)]:=by
 unfold Oo
 rw[List.range_succ,Bn]
 rfl
end DL
namespace DRow
open PySem L2 Nd DL
abbrev Cd:=List Int
def Pt(w u:List Int):Bool:=w.all λi=>decide (i∈u)
def Xf(c:Cd->List Int)(a:List Cd)(ns:List Int):List Cd:=a.filter λr=>Pt ns (c r)
def Xy(c:Cd->List Int)(a:List Cd)(ns:List Int):List Cd:=a.filter λr=>!Pt ns (c r)
def BR(a b:List Int)(ps:List (List Int×Bool)):Option Bool:=ps.foldl (λst p=>if Pt p.1 a=Pt p.1 b then st else some (Pt p.1 a == !p.2)) none
theorem X1(a b:List Int)(ps:List (List Int×Bool))(p:List Int×Bool):BR a b (ps++[p])=if Pt p.1 a=Pt p.1 b then BR a b ps else some (Pt p.1 a == !p.2):=by
 unfold BR
 rw[List.foldl_append]
 rfl
def eM(ps:List (List Int×Bool))(n:List Int):List Int:=ps.reverse.map λp=>if Pt p.1 n=p.2 then 1 else 0
theorem jD(ps:List (List Int×Bool))(p:List Int×Bool)(n:List Int):eM (ps++[p]) n=(if Pt p.1 n=p.2 then 1 else 0)::eM ps n:=by
 unfold eM
 rw[List.reverse_append,Bn]
 rfl
theorem p9{a:Type}{P:List a->Prop}(h0:P [])(h1:∀l x,P l->P (l++[x]))(l:List a):P l:=by
 have : ∀m:List a,P m.reverse:=λm=>by
  induction m with
  | nil=>exact h0
  | cons x m b=>rw[Nb]; exact h1 _ _ b
 have:=this l.reverse
 rwa [List.reverse_reverse] at this
theorem F3(a b:List Int)(ps:List (List Int×Bool)):(BR a b ps=none↔eM ps a=eM ps b)/\(BR a b ps=some true↔HT.lexLt (eM ps a) (eM ps b)=true):=by
 induction ps using p9 with
 | h0=>exact ⟨⟨λ_=>rfl,λ_=>rfl⟩,⟨λh=>(by cases h),λh=>(by cases h)⟩⟩
 | h1 l p c =>
  rw[X1,jD,jD,HT.lexLt_cons]
  by_cases h:Pt p.1 a=Pt p.1 b
  ·rw[if_pos h,h,if_pos rfl]
   refine ⟨c.1.trans ⟨λe=>by rw[e],λe=>(Gs e).2⟩,c.2⟩
  ·rw[if_neg h]
   cases h1:Pt p.1 a <;> cases d:Pt p.1 b <;> cases f:p.2 <;> rw[h1,d] at h <;> first | exact absurd rfl h | simp
theorem Uy(x y:List Int)(ps:List (List Int×Bool)):BR x y ps=some false↔(¬ eM ps x=eM ps y/\¬ HT.lexLt (eM ps x) (eM ps y)=true):=by
 rw[<- (F3 x y ps).1,<- (F3 x y ps).2]
 cases BR x y ps with
 | none=>simp
 | some b=>cases b <;> simp
def two(x y:Cd):Cd->Bool:=λr=>decide (r=x) || decide (r=y)
abbrev Ps:=List Int×Bool
def Z4(p:Ps):Ae:=.tuple [Bb p.1,.str (j4 p.2)]
instance {p:Ps}:Im (Z4 p):=⟨(inferInstance:Im (.tuple [Bb p.1,.str (j4 p.2)])).h⟩
instance {p:Ps}:Dp (Z4 p) 2:=⟨(inferInstance:Dp (.tuple [Bb p.1,.str (j4 p.2)]) _).h⟩
instance {α:Type} {f:α->Ae} {l:List α} {lo hi:Option Int} [h:∀a,Im (f a)]:ImA (Ol (l.map f) lo hi):=⟨by rw[dP]; exact MX⟩
theorem cutG_from{a:Type}(xs:List a)(k:Nat):Ol xs (some (k:Int)) none=xs.drop k:=by
 unfold Ol
 rw[HT.sIx_none,HT.sIx_nat]
 by_cases h:k<=xs.length
 ·rw[Mm h,Eu (by rw[Jq]; exact Ah _)]
 ·rw[fU (by omega),sZ (by omega),sZ (by omega),List.take_nil]
def dZ(D:List (List Int))(n:Nat):List (List Int×Ae):=(D.zipIdx n).map λp=>(p.1,Bq p.2)
theorem qH(w:List Int):∀(D:List (List Int)) (n:Nat),Wb (dZ D n) w=if w∈D then some (.int ((n+D.idxOf w:Nat):Int)) else none
 | [],n=>rfl
 | d::D,n=>by
  have a:=qH w D (n+1)
  have e:dZ (d::D) n=(d,.int n)::dZ D (n+1):=rfl
  rw[e]
  unfold Wb at a ⊢
  rw[Kd]
  by_cases h:d=w
  ·subst h
   simp [List.idxOf_cons]
  ·have f:decide (d=w)=false:=by simp [h]
   rw[show (decide ((d,Bq (n:Int)).1=w))=false from f]
   show (List.find? (λp=>decide (p.1=w)) (dZ D (n+1))).map (·.2)=_
   rw[a]
   have c:¬ w=d:=λz=>h z.symm
   by_cases m:w∈D
   ·rw[if_pos m,if_pos (Ad _ m),List.idxOf_cons]
    have b:(d == w)=false:=by simp [h]
    rw[b]
    simp
    omega
   ·rw[if_neg m,if_neg (by simp [c,m])]
theorem i3(D:List (List Int))(n:Nat):(dZ D n).length=D.length:=by unfold dZ; simp
theorem u0{D:List (List Int)}{k:List Int}(h:k∉D):xF (dZ D 0) k (.int D.length)=dZ (D++[k]) 0:=by
 unfold xF
 rw[if_neg]
 ·unfold dZ
  rw[List.zipIdx_append,Bn]
  simp
 ·intro z
  obtain ⟨p,a,e⟩:=List.any_eq_true.mp z
  unfold dZ at a
  obtain ⟨q,c,rfl⟩:=Bl.mp a
  have b:q.1=k:=by simpa using e
  have:=List.fst_mem_of_mem_zipIdx c
  rw[b] at this
  exact h this
def w8:PF:=λa R=>∃(L:List (List Int)) (w:List Int),a=[.list (L.map Bb),Bb w]/\L.length<=1000/\R (.tuple [.list ((Xf id L w).map Bb),.list ((Xy id L w).map Bb)])
end DRow
namespace DL
open PySem PySem.Spec PyProof.Rows L2 Nd DRow
end DL
namespace K58
open PySem L2 Nd DL
local macro_rules | `(tactic| array_get_dec) => do
  let ids:=(("e_ssW e_ssWB e_seq e_skip e_ret e_if e_asg e_name e_name2 e_name3 e_name4 e_own e_nF e_gtup e_gtup_w1 e_gsn e_gsc e_op e_var e_c e_imm e_immB e_take e_frz e_frzo e_I e_I0 e_eqF e_eqT e_inTl e_inFt_w1 e_isNF e_isNT e_ixl e_ixt e_ixt_w1 e_cat e_catT_w1 e_nlT e_ntT e_pkOfpk e_pkOfsh e_pkOfow e_mdInsh e_mdInow e_mdItsh e_mdItow e_nil e_cons e_tup e_lst e_noPart e_part e_partB e_sl e_slBl e_cb e_lenl e_lent e_lent_w1 e_listl e_tuplel e_intb e_min2 e_all e_sortI e_isi e_v e_ss e_ssl e_b e_bB e_notT e_andT e_orT e_orTt e_orTf e_not e_notB e_and e_andt e_andf e_dL e_dTp e_lB e_tpB e_tpB_w1 e_range1 e_rng1B e_enum e_enumB e_for e_comp e_compL e_stepL e_stepLT e_compD e_noTest e_step e_stepT e_stepF e_yesB e_stepD e_stepDT e_yesBD e_call e_callW e_draws e_drawsB e_append e_insert e_revL e_appendO e_aug e_augB e_scrSl e_dnew e_dput e_tagD e_tr e_trB ow_npk isDct dputB dk_e dget_e dinF_e callB callBW tupB lstB datas pkMd allOw noPk appB appOB mmd insB revLB own1 npk retE retW retL args0 frD frD1 alD List.map_cons List.map_nil List.replicate List.getElem?_cons_zero List.getElem?_cons_succ List.set_cons_zero List.set_cons_succ List.cons_append List.nil_append Option.map_some List.length_cons List.length_nil List.append_nil rdAdd rdSub rdMul rdDiv rdMod rdLt rdGt rdGe if_true if_false Bool.false_eq_true Nat.reduceAdd Nat.reduceSub Nat.reduceLeDiff true_and im_e ima_e dp_e dpa_e any_int any_word eqD_intd eqD_word eqD_bl eqD_str eqD_l0 ow_e tt_e cdiv_e cmul_r cmul_l Int.reduceLT Nat.reduceLT Int.reduceNeg and_self fold_w isi_li isi_tt isi_ib isi_ii isi_wt Bool.not_true Bool.not_false decide_true String.reduceEq or_true true_or List.isEmpty_nil ifB_lt ifB_lf isi_ss str_self Int.cast_ofNat_Int atI_0 atI_1 atI_2 some_e dec_self isE_cons yesL_sh catL_shtp st_places_same st_same_places" : String).splitOn " ").toArray.map λ(x:String)=>Lean.mkIdent x.toName
  `(tactic| try simp only [$[↓$ids:ident],*])
theorem FB(n i:Nat)(h:i<n):((ch n i:Nat):Int) * ((n:Int) - (i:Int)) / ((i:Int)+1)=((ch n (i+1):Nat):Int):=by
 have e:=kH n i
 have a:((ch n (i+1):Nat):Int) * ((i:Int)+1)=((ch n i:Nat):Int) * ((n:Int) - (i:Int)):=by
  have:=congrArg (λx:Nat=>(x:Int)) e
  simp only[Int.natCast_mul,Int.natCast_add,Int.natCast_one] at this
  rw[Int.ofNat_sub (by omega)] at this
  exact this
 rw[<- a,Int.mul_ediv_cancel _ (by omega)]
def Y4(i:Nat)(a:DS):Nat:=match a.sl[i]? with
 | some (.dat _ (.int p))=>p.toNat
 | _=>0
def cO:PF:=λa R=>∃n k:Int,a=[.int n,.int k]/\0<=n/\n<=60/\0<=k/\R (.int (ch n.toNat k.toNat))
def qJ:PF:=λa R=>∃h m n:Int,a=[.int h,.int m,.int n]/\0<=h/\h<=60/\0<=m/\0<=n/\n<(ch h.toNat m.toNat:Int)/\∀w:List Int,(cw h.toNat 0 m.toNat)[n.toNat]? = some w->R (Bb w)
def Zq:PF:=λa R=>∃h m:Int,a=[.int h,.int m]/\0<=h/\h<=12/\0<=m/\R (.list ((cw h.toNat 0 m.toNat).map Bb))
section
variable{P:Bp}{w:World}{K:PySem.W.Frag}{mg:Str->Option Value}{base:Heap}
theorem wY:FnScope ["n", "k", "many", "step"] ["n", "k"] (Cf eO):=⟨rfl,rfl,rfl,by decide +kernel,rfl,by decide +kernel,by decide +kernel⟩
theorem xO{f   : Addr}{r  : Cz}(F:Fun K "choose" "choose" eO f r)(d:mg "min" = none)(b:mg "range" = none):FnOk P w K mg base Ib 1 f r ["n", "k"] (Pb K (cO)):=by
 refine' Ip (k:=0) F wY (λx A o s H E B=>?hb) ?h
 case hb =>
  have p:=B.units
  exact Bv (Il (vF (Ao (pv 1)) (Ao (pv 0)))
   (Ct (Ee Df)) Gq)
   (Bv (Fd (i:=2) wY.nd rfl (Dc rfl) Df)
   (Bv (Ln Dk rfl (Kt rfl b (Am (Ei (iD rfl) vI rfl d (by decide +kernel) (Am (Ao (pv 1)) (Am (Rt (Ao (pv 0)) (Ao (pv 1))) Ay))) Ay)) (Hd (i:=3) wY.nd rfl (Dc rfl))
   (Ct (Fd (i:=2) wY.nd rfl (Dc rfl) (cN (E2 (Ao (pv 2)) (Rt (Ao (pv 0)) (Ao (pv 3)))) (Sm (Ao (pv 3)) Df)))))
   (Ct (Ee (Ny (Ao (pv 2)))))))
 case h =>
  (intro I R j; obtain ⟨n,k,rfl,L,G,N,m⟩ := j)
  refine ⟨rfl,?_⟩
  array_get_dec
  refine Sd (λq=>?_) (λq=>?_)
  ·have q:=of_decide_eq_true q
   rw[Je (by omega)] at m
   array_get_dec
   exact m
  have q:=of_decide_eq_false q
  array_get_dec
  obtain ⟨t,D,J,z⟩ : ∃t:Nat,(if n - k<k then n - k else k)=(t:Int)/\t<=n.toNat/\ch n.toNat t=ch n.toNat k.toNat:=by
   by_cases c:n - k<k
   ·refine ⟨(n - k).toNat,by rw[if_pos c]; omega,by omega,?_⟩
    rw[qR (by omega)]
    congr 1
    omega
   ·exact ⟨k.toNat,by rw[if_neg c]; omega,by omega,rfl⟩
  rw[D]
  refine ⟨by omega,by omega,?_⟩
  rw[Dl]
  refine Sw (l:=Bg t) (g:=λi:Nat=>.int i) rfl (λi C=>∃v:DV,C=⟨[.dat .sh (.int n),.dat .sh (.int k),.dat .sh (.int (ch n.toNat i)),v],0⟩/\NP v) ?_ ?_ ?_
  ·exact ⟨_,by rw[Qd]; rfl,Jy⟩
  ·(intro i a _ u j; obtain ⟨v,rfl,y⟩ := j)
   obtain ⟨rfl,M⟩:=Re u
   array_get_dec
   refine ⟨.inr ⟨by omega,by omega⟩,⟨by omega,by omega⟩,?_⟩
   have e:=FB n.toNat a (by omega)
   rw[show ((n.toNat:Nat):Int)=n by omega] at e
   rw[e]
   exact ⟨_,rfl,Ga⟩
  ·(intro _ j; obtain ⟨v,rfl,y⟩ := j)
   rw[Cs,z]
   array_get_dec
   exact m
theorem rV:FnScope ["holes", "many", "number", "word", "left", "place", "having"] ["holes", "many", "number"] (Cf Zd):=⟨rfl,rfl,rfl,by decide +kernel,rfl,by decide +kernel,by decide +kernel⟩
theorem rS{f b  : Addr}{Z g:Cz}(F:Fun K "word_at" "word_at" Zd f Z)(j:FnOk P w K mg base Ib 1 b g ["n", "k"] (Pb K (cO)))(l:Binds K g ["n", "k"] [])(c:PySem.W.keepIn K (.ref b)=true)(e:mg "choose" = some (.ref b))(o:mg "len" = none):FnOk P w K mg base Ib 2 f Z ["holes", "many", "number"] (Pb K (qJ)):=by
 refine' Ip (k:=1) F rV (λh2 A M s H E Y=>?hb) ?h
 case hb =>
  have I:Room 1 _:=Y.mono (by decide)
  have X:=Y.units
  exact Bv (Il (gB (Rj (oJ (Ao (pv 2)) Df) (Te (AD (Ao (pv 2)) (Ek j I rfl e c l Ey (Am (Ao (pv 0)) (Am (Ao (pv 1)) Ay)))))))
   (Ct A6) Gq)
   (Bv (Fd (i:=3) rV.nd rfl (Dc rfl) (Qk Ay))
   (Bv (Fd (i:=4) rV.nd rfl (Dc rfl) (Ao (pv 2)))
   (Bv (Fd (i:=5) rV.nd rfl (Dc rfl) Df)
   (Bv (oU Dk (oJ (Ei Hj Kz rfl o (by decide +kernel) (Am (Ao (pv 3)) Ay)) (Ao (pv 1)))
   (Bv (Fd (i:=6) rV.nd rfl (Dc rfl) (Ek j I rfl e c l Ey (Am (Rt (Rt (Ao (pv 0)) Df) (Ao (pv 5))) (Am (Rt (Rt (Ao (pv 1)) (Ei Hj Kz rfl o (by decide +kernel) (Am (Ao (pv 3)) Ay))) Df) Ay))))
    (Bv (Il (oJ (Ao (pv 4)) (Ao (pv 6)))
    (Ct (Fd (i:=3) rV.nd rfl (Dc rfl) (tR (Ao (pv 3)) (Qk (Am (Ny (Ao (pv 5))) Ay))))) (Ct (vG (i:=4) rV.nd rfl (Dc rfl) (Ao (pv 6)) EA)))
    (Ct (uR (i:=5) rV.nd rfl (Dc rfl) Df)))))
   (Ct (Ee (Ny (Ao (pv 3)))))))))
 case h =>
  (intro ds R S; obtain ⟨h,m,n,rfl,h0,h1,m0,n0,n1,hR⟩ := S)
  refine ⟨rfl,?_⟩
  have mh:m.toNat<=h.toNat:=Nat.le_of_not_lt λz=>by rw[Je z] at n1; omega
  array_get_dec
  refine L5 (λq=>absurd (of_decide_eq_true q) (by omega)) (λ_=>?_)
  array_get_dec
  refine ⟨h,m,rfl,h0,h1,m0,?_⟩
  array_get_dec
  refine Sd (λq=>absurd (of_decide_eq_true q) (by omega)) (λ_=>?_)
  array_get_dec
  obtain ⟨J,C⟩ : ∃J,(cw h.toNat 0 m.toNat)[n.toNat]? = some J:=by
   have : n.toNat<(cw h.toNat 0 m.toNat).length:=by rw [cw_len]; omega
   exact ⟨_,Bk this⟩
  have V:J.length=m.toNat:=(cw_mem.mp (Aw C)).1
  refine t8 (λN=>∃(w r:List Int) (y a:Nat) (v:DV),N=⟨[.dat .sh (.int h),.dat .sh (.int m),.dat .sh (.int n),.dat .sh (Bb w),.dat .sh (.int y),.dat .sh (.int a),v],0⟩/\NP v/\w++r=J/\a<=h.toNat/\(cw (h.toNat - a) a r.length)[y]? = some r) (λN=>h.toNat - Y4 5 N) ⟨[],J,n.toNat,0,_,by rw[Int.toNat_of_nonneg n0]; rfl,Jy,rfl,Ds _,by rw[V]; exact C⟩ ?_
  (intro _ S; obtain ⟨w,r,y,a,v,rfl,hv,L,h3,t⟩ := S)
  have U:w.length+r.length=m.toNat:=by rw[<- V,<- L,Bh]
  array_get_dec
  refine Y7 (λB=>?_) (λB=>?_)
  ·have B:=of_decide_eq_true B
   rw[Ac] at B
   obtain ⟨x,p,rfl⟩ : ∃x p,r=x::p:=by
    cases r with
    | nil=>exact absurd U (by simp; omega)
    | cons x p=>exact ⟨x,p,rfl⟩
   rw[Bd] at U t
   obtain ⟨d,Q⟩ : ∃d,h.toNat - a=d+1:=by
    cases Q:h.toNat - a with
    | zero=>rw[Q] at t; cases t
    | succ d=>exact ⟨d,rfl⟩
   rw [Q,cw_succ] at t
   array_get_dec
   rw[Ac]
   refine ⟨h - 1 - a,m - w.length - 1,rfl,by omega,by omega,by omega,?_⟩
   rw[show (h - 1 - (a:Int)).toNat=d by omega,show (m - (w.length:Int) - 1).toNat=p.length by omega]
   array_get_dec
   refine Sd (λT=>?_) (λT=>?_)
   ·have D:y<ch d p.length:=by have:=of_decide_eq_true T; omega
    rw [Gr (by rw [Ac,cw_len]; exact D),Br] at t
    cases G:(cw d ((a:Int)+1) p.length)[y]? with
    | none=>rw[G] at t; cases t
    | some u =>
     rw[G] at t
     have O:(a:Int)::u=x::p:=Cn t
     injection O with ex eur
     subst ex eur
     array_get_dec
     refine ⟨by rw[Ac]; omega,⟨w++[(a:Int)],u,y,a+1,.dat .sh (.int (ch d u.length)),?_,Ga,by rw[<- L,Cr]; rfl,by omega,by rw[show h.toNat - (a+1)=d by omega,show ((a+1:Nat):Int)=(a:Int)+1 by omega]; exact G⟩,?_⟩
     ·rw[show ((a+1:Nat):Int)=(a:Int)+1 by omega]
      unfold Bb
      rw[Bn]
      rfl
     ·show h.toNat - ((a:Int)+1).toNat<h.toNat - (a:Int).toNat
      omega
   ·have D:ch d p.length<=y:=by have:=of_decide_eq_false T; omega
    rw [Eo (by rw [Ac,cw_len]; exact D),Ac,cw_len] at t
    array_get_dec
    refine ⟨⟨w,x::p,y - ch d p.length,a+1,.dat .sh (.int (ch d p.length)),?_,Ga,L,by omega,by rw[show h.toNat - (a+1)=d by omega,show ((a+1:Nat):Int)=(a:Int)+1 by omega,Bd]; exact t⟩,?_⟩
    ·rw[show ((y - ch d p.length:Nat):Int)=(y:Int) - (ch d p.length:Int) by omega,show ((a+1:Nat):Int)=(a:Int)+1 by omega]
    ·show h.toNat - ((a:Int)+1).toNat<h.toNat - (a:Int).toNat
     omega
  ·have B:=of_decide_eq_false B
   rw[Ac] at B
   obtain rfl:r=[]:=Hm.mp (by omega)
   rw[Fl] at L
   subst L
   array_get_dec
   exact hR _ C
theorem mU:FnScope ["holes", "many"] ["holes", "many"] (Cf Ru):=⟨rfl,rfl,rfl,by decide +kernel,rfl,by decide +kernel,by decide +kernel⟩
theorem oF{f b a  : Addr}{X o d:Cz}(F:Fun K "words_of" "words_of" Ru f X)(C:FnOk P w K mg base Ib 1 b o ["n", "k"] (Pb K (cO)))(D:Binds K o ["n", "k"] [])(x:PySem.W.keepIn K (.ref b)=true)(B:mg "choose" = some (.ref b))(u:FnOk P w K mg base Ib 2 a d ["holes", "many", "number"] (Pb K (qJ)))(p:Binds K d ["holes", "many", "number"] [])(t:PySem.W.keepIn K (.ref a)=true)(r:mg "word_at" = some (.ref a))(v:mg "range" = none):FnOk P w K mg base Ib 3 f X ["holes", "many"] (Pb K (Zq)):=by
 refine' Ip (k:=2) F mU (λO A G s H E Q=>?hb) ?h
 case hb =>
  have M:Room 1 _:=Q.mono (by decide)
  have S:Room 2 _:=Q.mono (by decide)
  have T:=Q.units
  have N:∀{q:Scope} (h:q={ kind:=.function,names:=[(".0",.local),("number",.local),("word_at",.globalImplicit),("holes",.free),("many",.free)],isGenerator:=false,isCoroutine:=false }),
    CompScope (Pv Ib P w K mg base ["holes", "many"] "words_of" (Cf Ru) f O A G s H E).nox q [("many",s.heap.objs.size+2),("holes",s.heap.objs.size+1)] "number" ["holes", "many"] [0,1]:=by
   rintro q rfl
   refine ⟨by rfl,.inl (by decide +kernel),by rfl,by decide +kernel,.inl rfl,λy c h=>?_,by rfl,by decide +kernel,rfl,λk y j I L=>?_⟩
   ·have z:=Ft h
    simp only[An,Ce,or_false,Gv] at z
    rcases z with ⟨rfl,rfl⟩ | ⟨rfl,rfl⟩ <;> rfl
   ·match k,I,L with
    | 0,I,L=>cases I; cases L; exact ⟨rfl,rfl,by first | exact .inl rfl | exact .inr rfl⟩
    | 1,I,L=>cases I; cases L; exact ⟨rfl,rfl,by first | exact .inl rfl | exact .inr rfl⟩
    | k+2,I,L=>cases I
  exact Ct (Ee (Ni (N rfl) rfl (Kt rfl v (Am (Ek C M rfl B x D Ey (Am (Ao (pv 0)) (Am (Ao (pv 1)) Ay))) Ay)) (λ_ _ _=>Np) (λ_ _ _=>Ek u S rfl r t p Ey (Am (Ao (pv 1)) (Am (Ao (pv 2)) (Am (Ao (pv 0)) Ay))))))
 case h =>
  (intro ds R q_; obtain ⟨h,m,rfl,Z,h1,U,hR⟩ := q_)
  refine ⟨rfl,?_⟩
  array_get_dec
  refine ⟨h,m,rfl,Z,by omega,U,?_⟩
  array_get_dec
  have c1:=vH h.toNat m.toNat
  have c2:2 ^ h.toNat<=2 ^ 12:=Pc (by decide) (by omega)
  refine ⟨by omega,by omega,?_⟩
  rw[Dl]
  have cl:=cw_len h.toNat 0 m.toNat
  refine iK (l:=Bg (ch h.toNat m.toNat)) (g:=λi:Nat=>.int i) rfl (λi=>Bb ((cw h.toNat 0 m.toNat).getD i [])) (λi J h2 no Y=>?_) ?_
  ·have J:=Cu.mp J
   array_get_dec
   refine ⟨h,m,i,rfl,Z,by omega,U,by omega,by omega,λw V=>?_⟩
   rw[Dl] at V
   rw[La,V] at Y
   array_get_dec
   exact Y
  ·have e:(Bg (ch h.toNat m.toNat)).map (λi=>Bb ((cw h.toNat 0 m.toNat).getD i []))=(cw h.toNat 0 m.toNat).map Bb:=by
    rw[<- cl]
    apply Gk
    intro i
    rw[Br,Br]
    by_cases J:i<(cw h.toNat 0 m.toNat).length
    ·rw[List.getElem?_range J,Bk J]
     show some (Bb _)=some (Bb _)
     rw[La,Bk J]
     rfl
    ·rw[Ve (by rw[Cs]; omega),Ve (by omega)]
     rfl
   rw[e]
   array_get_dec
   exact hR
end
open DRow
def Lg(p c:List Int):List Int:=p.filter λi=>decide (i∈c)
def Yu:PF:=λa R=>∃c p:List Int,a=[Bb c,Bb p]/\p.length<=60/\R (Bb (Lg p c))
def lX:PF:=λa R=>∃(D:List (List Int)) (p:List Int),a=[.list (D.map Bb),Bb p]/\D.length<=1000/\p.length<=60/\((D.map (Lg p)).Nodup->R .none) /\
 ∀(i j:Nat) (x y:List Int),i<j->D[i]? = some x->D[j]? = some y->Lg p x=Lg p y->R (Bb [(i:Int),(j:Int)])
section
variable{P:Bp}{w:World}{K:PySem.W.Frag}{mg:Str->Option Value}{base:Heap}
theorem gM:FnScope ["card", "places"] ["card", "places"] (Cf Oq):=⟨rfl,rfl,rfl,by decide +kernel,rfl,by decide +kernel,by decide +kernel⟩
theorem gF{f   : Addr}{r  : Cz}(F:Fun K "notches_at" "notches_at" Oq f r)(b:mg "tuple" = none):FnOk P w K mg base Ib 1 f r ["card", "places"] (Pb K (Yu)):=by
 refine' Ip (k:=0) F gM (λq A d s H E B=>?hb) ?h
 case hb =>
  have m:=B.units
  have o:∀{a:Scope} (h:a={ kind:=.function,names:=[(".0",.local),("place",.local),("card",.free)],isGenerator:=false,isCoroutine:=false }),
    CompScope (Pv Ib P w K mg base ["card", "places"] "notches_at" (Cf Oq) f q A d s H E).nox a [("card",s.heap.objs.size+1)] "place" ["card"] [0]:=by
   rintro a rfl
   refine ⟨by rfl,.inl (by decide +kernel),by rfl,by decide +kernel,.inl rfl,λy c h=>?_,by rfl,by decide +kernel,rfl,λk y j e n=>?_⟩
   ·have z:=Ft h
    simp only[An,Ce,or_false,Gv] at z
    obtain ⟨rfl,rfl⟩:=z; rfl
   ·match k,e,n with
    | 0,e,n=>cases e; cases n; exact ⟨rfl,rfl,by first | exact .inl rfl | exact .inr rfl⟩
    | k+1,e,n=>cases e
  exact Ct (Ee (Hu Qw (Rg (i:=true)) rfl b (by decide +kernel) (Am (Ni (o rfl) rfl (FK (Ao (pv 1))) (λ_ _ _=>Xd (GX m (Ao (pv 0)) (Ao (pv 1)))) (λ_ _ _=>Ao (pv 0))) Ay)))
 case h =>
  (intro D R x; obtain ⟨c,p,rfl,lp,t⟩ := x)
  refine ⟨rfl,?_⟩
  array_get_dec
  refine qF (l:=p) (g:=Bq) rfl (λi=>decide (i∈c)) Bq (λi _ v G u C=>?_) ?_
  ·array_get_dec
   refine kZ (λh=>?_) (λh=>?_)
   ·array_get_dec
    exact u h
   ·exact C h
  array_get_dec
  exact t
end
theorem yM{ws:List (List Int)}{i:Nat}{p:List Int×Nat}(h:ws.zipIdx[i]? = some p):p.2=i/\ws[i]? = some p.1:=by
 rw[List.getElem?_zipIdx] at h
 cases e:ws[i]? with
 | none=>rw[e] at h; cases h
 | some a =>
  rw[e] at h
  cases h
  exact ⟨by simp,rfl⟩
theorem AX{D:List (List Int)}{f:List Int->List Int}{w:List Int}{n:Nat}(h:w∈(D.take n).map f):∃(i:Nat) (x:List Int),i<n/\D[i]? = some x/\f x=w/\((D.take n).map f).idxOf w=i:=by
 have lt:=List.idxOf_lt_length_of_mem h
 have ge:=List.getElem_idxOf lt
 obtain ⟨i,b⟩ : ∃i,((D.take n).map f).idxOf w=i:=⟨_,rfl⟩
 rw[Ac,Cy] at lt
 have a:((D.take n).map f)[i]? = some w:=by
  rw[<- b]
  exact List.getElem?_eq_some_iff.mpr ⟨_,ge⟩
 rw[Br,Hb (by omega)] at a
 cases q:D[i]? with
 | none=>rw[q] at a; cases a
 | some x =>
  rw[q] at a
  injection a with a
  exact ⟨i,x,by omega,q,a,b⟩
theorem qV{b:Type}{l:List b}{a:b}(h:l.Nodup)(k:a∉l):(l++[a]).Nodup:=Gj.mpr ⟨h,Cg.mpr ⟨(λz=>nomatch z),Do⟩,λx c y d e=>k (by rw[<- Al.mp d,<- e]; exact c)⟩
theorem gX{a b:Type}{f:a->b}{D:List a}{i:Nat}{x:a}(h:D[i]? = some x):(D.take (i+1)).map f=(D.take i).map f++[f x]:=by
 obtain ⟨c,d⟩:=Ai.mp h
 rw[Gi c,Bn,d]
 rfl
section
variable{P:Bp}{w:World}{K:PySem.W.Frag}{mg:Str->Option Value}{base:Heap}
theorem qB:FnScope ["deck", "places", "seen", "j", "card", "notches"] ["deck", "places"] (Cf Wa):=⟨rfl,rfl,rfl,by decide +kernel,rfl,by decide +kernel,by decide +kernel⟩
theorem qK{f a  : Addr}{S b:Cz}(F:Fun K "alike_at" "alike_at" Wa f S)(o:FnOk P w K mg base Ib 1 a b ["card", "places"] (Pb K (Yu)))(e:Binds K b ["card", "places"] [])(j:PySem.W.keepIn K (.ref a)=true)(d:mg "notches_at" = some (.ref a))(m:mg "enumerate" = none):FnOk P w K mg base Ib 2 f S ["deck", "places"] (Pb K (lX)):=by
 refine' Ip (k:=1) F qB (λY A L s H E Q=>?hb) ?h
 case hb =>
  have I:Room 1 _:=Q.mono (by decide)
  have r:=Q.units
  exact Bv (Ng (i:=2) qB.nd rfl (Dc rfl) O9)
   (Bv (Ln Dk rfl (T8 rfl m (Am (Ao (pv 0)) Ay)) (sR (n:=2) rfl (Pn (Hd (i:=3) qB.nd rfl (Dc rfl)) (Pn (Hd (i:=4) qB.nd rfl (Dc rfl)) mC)))
   (Bv (Fd (i:=5) qB.nd rfl (Dc rfl) (Ek o I rfl d j e Ey (Am (Ao (pv 4)) (Am (Ao (pv 1)) Ay))))
    (Bv (Il (FC r (Ao (pv 5)) (Ao (pv 2)))
    (Ct (Ee (Qk (Am (S5 r (Ao (pv 2)) (Ao (pv 5))) (Am (Ny (Ao (pv 3))) Ay))))) Gq)
    (Ct (P6 r (pv 2) (Ao (pv 5)) (Ao (pv 3)))))))
   (Ct (Ee Yt)))
 case h =>
  (intro ds R v; obtain ⟨D,p,rfl,lD,lp,Z,U⟩ := v)
  refine ⟨rfl,?_⟩
  array_get_dec
  have ez:((D.map Bb).zipIdx.map λp=>PyData.tuple [.int (p.2:Int),p.1])=D.zipIdx.map λp=>.tuple [.int (p.2:Int),Bb p.1]:=by rw[N7,Eh]; rfl
  rw[ez]
  refine Sw (l:=D.zipIdx) (g:=λp=>.tuple [.int (p.2:Int),Bb p.1]) rfl (λi δ=>(∃B C G:DV,δ=⟨[.dat .sh (.list (D.map Bb)),.dat .sh (Bb p),.dat .ow (.dict (aD (dZ ((D.take i).map (Lg p)) 0))),B,C,G],0⟩/\NP B/\NP C/\NP G)/\((D.take i).map (Lg p)).Nodup) ?_ ?_ ?_
  ·exact ⟨⟨_,_,_,rfl,Jy,Jy,Jy⟩,Do⟩
  ·(intro i q _ hq v; obtain ⟨⟨B,C,G,rfl,J,N,M⟩,z⟩ := v)
   obtain ⟨y,t⟩:=yM hq
   array_get_dec
   refine ⟨q.1,p,rfl,lp,?_⟩
   array_get_dec
   have u:=qH (Lg p q.1) ((D.take i).map (Lg p)) 0
   by_cases c:Lg p q.1∈(D.take i).map (Lg p)
   ·rw[if_pos c] at u
    obtain ⟨V,x,lt,hx,X,T⟩:=AX c
    rw[T,Ie] at u
    refine Sd (λ_=>?_) (λh=>absurd h (by rw[u]; simp))
    array_get_dec
    refine ⟨_,u,?_⟩
    array_get_dec
    rw[y]
    exact U V i x q.1 lt hx t X
   ·rw[if_neg c] at u
    refine Sd (λh=>absurd h (by rw[u]; simp)) (λ_=>?_)
    have lt:=(Ai.mp t).1
    have O:((D.take i).map (Lg p)).length=i:=by rw[Ac,Cy]; omega
    have pt:=u0 c
    rw[O,<- gX t] at pt
    array_get_dec
    refine ⟨by rw[i3,O]; omega,?_⟩
    rw[y,pt]
    refine ⟨⟨_,_,_,rfl,Ga,Ga,Ga⟩,?_⟩
    rw[gX t]
    exact qV z c
  ·(intro _ v; obtain ⟨⟨B,C,G,rfl,J,N,M⟩,z⟩ := v)
   array_get_dec
   rw[Mo,Gy] at z
   exact Z z
theorem xA:FnScope ["one", "other"] ["one", "other"] (Cf Wv):=⟨rfl,rfl,rfl,by decide +kernel,rfl,by decide +kernel,by decide +kernel⟩
theorem wL{f   : Addr}{t  : Cz}(F:Fun K "within" "within" Wv f t)(e:mg "all" = none):FnOk P w K mg base Ib 1 f t ["one", "other"] (Pb K (IR)):=by
 refine' Ip (k:=0) F xA (λr A m s H E C=>?hb) ?h
 case hb =>
  have o:=C.units
  have q:∀{d:Scope} (h:d={ kind:=.function,names:=[(".0",.local),("place",.local),("other",.free)],isGenerator:=false,isCoroutine:=false }),
    CompScope (Pv Ib P w K mg base ["one", "other"] "within" (Cf Wv) f r A m s H E).nox d [("other",s.heap.objs.size+1)] "place" ["other"] [1]:=by
   rintro d rfl
   refine ⟨by rfl,.inl (by decide +kernel),by rfl,by decide +kernel,.inl rfl,λy c h=>?_,by rfl,by decide +kernel,rfl,λk y j n p=>?_⟩
   ·have z:=Ft h
    simp only[An,Ce,or_false,Gv] at z
    obtain ⟨rfl,rfl⟩:=z; rfl
   ·match k,n,p with
    | 0,n,p=>cases n; cases p; exact ⟨rfl,rfl,by first | exact .inl rfl | exact .inr rfl⟩
    | k+1,n,p=>cases n
  exact Ct (Ee (Ei (pX rfl) x4 rfl e (by decide +kernel) (Am (Ni (q rfl) rfl (FK (Ao (pv 0))) (λ_ _ _=>Np) (λ_ _ _=>uH o (Ao (pv 0)) (Ao (pv 1)))) Ay)))
 case h =>
  (intro D R B; obtain ⟨a,b,rfl,u⟩ := B)
  refine ⟨rfl,?_⟩
  array_get_dec
  refine iK (l:=a) (g:=Bq) rfl (λi=>.bool (decide (i∈b))) (λi _ x G v=>?_) ?_
  ·array_get_dec
   exact v
  ·array_get_dec
   refine ⟨a.map λi=>decide (i∈b),by rw[Eh]; rfl,?_⟩
   rw[bJ]
   exact u
theorem rP:FnScope ["deck", "needles", "dropped", "kept", "card"] ["deck", "needles"] (Cf Yw):=⟨rfl,rfl,rfl,by decide +kernel,rfl,by decide +kernel,by decide +kernel⟩
theorem qU{f a  : Addr}{y b:Cz}(F:Fun K "needled" "needled" Yw f y)(d:FnOk P w K mg base Ib 1 a b ["one", "other"] (Pb K (IR)))(m:Binds K b ["one", "other"] [])(j:PySem.W.keepIn K (.ref a)=true)(e:mg "within" = some (.ref a)):FnOk P w K mg base Ib 2 f y ["deck", "needles"] (Pb K (w8)):=by
 refine' Ip (k:=1) F rP (λz A q s H E x=>?hb) ?h
 case hb =>
  have o:Room 1 _:=x.mono (by decide)
  have u:=x.units
  exact Bv (Ng (i:=2) rP.nd rfl (Dc rfl) (Kj Ay))
   (Bv (Ng (i:=3) rP.nd rfl (Dc rfl) (Kj Ay))
   (Bv (Ln Dk rfl (yZ (Ao (pv 0))) (Hd (i:=4) rP.nd rfl (Dc rfl))
   (Ct (Il (Kg (Ek d o rfl e j m Ey (Am (Ao (pv 1)) (Am (Ao (pv 4)) Ay))))
    (Ct (Qy (pv 2) (Ao (pv 4)))) (Ct (Qy (pv 3) (Ao (pv 4)))))))
   (Ct (Ee (Qk (Am (bO (pv 2)) (Am (bO (pv 3)) Ay)))))))
 case h =>
  (intro I R n; obtain ⟨L,w,rfl,N,C⟩ := n)
  refine ⟨rfl,?_⟩
  array_get_dec
  refine Sw (l:=L) (g:=Bb) rfl (λi D=>∃v:DV,D=⟨[.dat .sh (.list (L.map Bb)),.dat .sh (Bb w),.dat .ow (.list ((Xf id (L.take i) w).map Bb)),.dat .ow (.list ((Xy id (L.take i) w).map Bb)),v],0⟩/\NP v) ?_ ?_ ?_
  ·exact ⟨_,rfl,Jy⟩
  ·(intro i c _ p n; obtain ⟨v,rfl,B⟩ := n)
   have M:=(Ai.mp p).1
   have G:(Xf id (L.take i) w).length<=1000:=Co (Nu _ _) (by rw[Cy]; omega)
   have J:(Xy id (L.take i) w).length<=1000:=Co (Nu _ _) (by rw[Cy]; omega)
   have t:(Xf id (L.take (i+1)) w).map Bb=(Xf id (L.take i) w).map Bb++(if Pt w c=true then [Bb c] else []):=gW _ _ p
   have r:(Xy id (L.take (i+1)) w).map Bb=(Xy id (L.take i) w).map Bb++(if (!Pt w c)=true then [Bb c] else []):=gW _ _ p
   array_get_dec
   refine ⟨w,c,rfl,?_⟩
   refine Sd (λh=>?_) (λh=>?_)
   ·array_get_dec
    refine ⟨by rw[Ac]; omega,.dat .sh (Bb c),?_,Ga⟩
    rw[t,r,show Pt w c=_ from h]
    simp
   ·array_get_dec
    refine ⟨by rw[Ac]; omega,.dat .sh (Bb c),?_,Ga⟩
    rw[t,r,show Pt w c=_ from h]
    simp
  ·(intro _ n; obtain ⟨v,rfl,B⟩ := n)
   array_get_dec
   rw[Gy]
   exact C
end
theorem Ri:∀{b a:List Int},a.Pairwise (· < ·)->b.Pairwise (· < ·)->(∀x∈a,x∈b)->a.Sublist b
 | b,[],_,_,_=>fJ _
 | [],x::a,_,_,h=>nomatch h x Ab
 | y::b,x::a,ha,hb,h=>by
  obtain ⟨d,g⟩:=Ax.mp ha
  obtain ⟨i,f⟩:=Ax.mp hb
  by_cases e:x=y
  ·subst e
   refine (Ri g f λz c=>?_).cons₂ x
   rcases An.mp (h z (Ad _ c)) with q | q
   ·have:=d z c; omega
   ·exact q
  ·have j:x∈b:=(An.mp (h x Ab)).resolve_left e
   refine (Ri ha f λz c=>?_).cons y
   rcases An.mp (h z c) with q | q
   ·have k:=i x j
    rcases An.mp c with w | w
    ·omega
    ·have:=d z w; omega
   ·exact q
theorem cw_rise {m k:Nat} {w:List Int} (h:w∈cw m 0 k):Dh m w:=by
 obtain ⟨_,a,c⟩:=cw_mem.mp h
 exact ⟨a,λx b=>by have:=c x b; omega⟩
theorem cB{a b:List Int}(d:a.Pairwise (· < ·))(hb:b.Pairwise (· < ·))(h:∀x,x∈a↔x∈b):a=b :=
 (Ri d hb λx c=>(h x).mp c).eq_of_length_le (Ri hb d λx c=>(h x).mpr c).length_le
theorem Ow(h:Nat):(Oo h).Pairwise (· < ·):=Hl.mpr (List.pairwise_lt_range.imp λz=>by omega)
theorem mJ{p c:List Int}{x:Int}:x∈Lg p c↔x∈p/\x∈c:=by
 unfold Lg
 rw[List.mem_filter,decide_eq_true_eq]
theorem zM{p c:List Int}(h:p.Pairwise (· < ·)):(Lg p c).Pairwise (· < ·):=h.filter _
theorem Mu{h:Nat}{x:List Int}(a:Dh h x):Lg (Oo h) x=x:=by
 refine cB (zM (Ow h)) a.1 λz=>?_
 rw[mJ]
 exact ⟨λq=>q.2,λq=>⟨Bl.mpr ⟨z.toNat,Cu.mpr (by have:=a.2 z q; omega),by have:=a.2 z q; omega⟩,q⟩⟩
theorem cw_full {h:Nat} {w:List Int} (hw:w∈cw h 0 h):w=Oo h:=by
 have a:=cw_rise hw
 have d:=(cw_mem.mp hw).1
 have c:=Ri a.1 (Ow h) λz b=>Bl.mpr ⟨z.toNat,Cu.mpr (by have:=a.2 z b; omega),by have:=a.2 z b; omega⟩
 exact c.eq_of_length (by rw[d]; unfold Oo; simp)
def uO(D:List (List Int))(p q:List Int):Prop:=∃(a b:Nat) (x y:List Int),q=[(a:Int),(b:Int)]/\a<b/\D[a]? = some x/\D[b]? = some y/\Lg p x=Lg p y
def Sr(D:List (List Int))(q:List Int):Prop:=∃a b:Nat,q=[(a:Int),(b:Int)]/\a<b/\b<D.length
theorem uO.ok{D:List (List Int)}{p q:List Int}(h:uO D p q):Sr D q:=by
 obtain ⟨a,b,x,y,e,lt,_,c,_⟩:=h
 exact ⟨a,b,e,lt,(Ai.mp c).1⟩
structure Bars(D:List (List Int))(h k:Nat)(P:List (List Int)):Prop where
 none:k=0->P=[]
 ok:∀q∈P,Sr D q
 all:1<=k->∀u∈cw h 0 (k - 1),∃q∈P,uO D u q
 few:P.length<=1100
 nd:P.Nodup
def Tb:PF:=λa R=>∃(h:Nat) (D:List (List Int)),a=[.int h,.list (D.map Bb)]/\1<=h/\h<=10/\D.length<=1000/\(∀c∈D,Dh h c) /\
 (∀(i j:Nat) (x:List Int),i<j->D[i]? = some x->D[j]? = some x->R (.tuple [.str "same",.int i,.int j])) /\
 ∀(k:Nat) (w:List Int) (P:List (List Int)),D.Nodup->k<=h->w∈cw h 0 k->(D.map (Lg w)).Nodup->Bars D h k P->R (.tuple [.str "places",Bb w,.list (P.map Bb)])
section
variable{P:Bp}{w:World}{K:PySem.W.Frag}{mg:Str->Option Value}{base:Heap}
theorem Yz:FnScope ["holes", "deck", "same", "many", "pairs", "met", "places", "pair"] ["holes", "deck"] (Cf Nx):=⟨rfl,rfl,rfl,by decide +kernel,rfl,by decide +kernel,by decide +kernel⟩
theorem Zb{f m d  : Addr}{fd o p:Cz}(F:Fun K "fewest_places" "fewest_places" Nx f fd)(J:FnOk P w K mg base Ib 3 m o ["holes", "many"] (Pb K (Zq)))(I:Binds K o ["holes", "many"] [])(G:PySem.W.keepIn K (.ref m)=true)(C:mg "words_of" = some (.ref m))(v:FnOk P w K mg base Ib 2 d p ["deck", "places"] (Pb K (lX)))(B:Binds K p ["deck", "places"] [])(t:PySem.W.keepIn K (.ref d)=true)(r:mg "alike_at" = some (.ref d))(Q:mg "tuple" = none)(O:mg "range" = none)(N:mg "sorted" = none)(T:mg "set" = none):FnOk P w K mg base Ib 4 f fd ["holes", "deck"] (Pb K (Tb)):=by
 refine' Ip (k:=3) F Yz (λh9 A h6 s H E hr=>?hb) ?h
 case hb =>
  have h8:Room 1 _:=hr.mono (by decide)
  have h3:Room 2 _:=hr.mono (by decide)
  have h7:Room 3 _:=hr.mono (by decide)
  have h2:=hr.units
  exact Bv (Fd (i:=2) Yz.nd rfl (Dc rfl) (Ek v h3 rfl r t B Ey (Am (Ao (pv 1)) (Am (yJ rfl rfl Q rfl O (Ao (pv 0))) Ay))))
   (Bv (Il (uC (Ao (pv 2)) Yt)
   (Ct (Ee (Qk (Am Tc (Am (Ny (Jw (Ao (pv 2)) Df)) (Am (Ny (Jw (Ao (pv 2)) Df)) Ay)))))) Gq)
   (Bv (Fd (i:=3) Yz.nd rfl (Dc rfl) Df)
   (Bv (Ng (i:=4) Yz.nd rfl (Dc rfl) (Kj Ay))
   (Ct (oU Dk (Kg Lh)
   (Bv (Ng (i:=5) Yz.nd rfl (Dc rfl) (Kj Ay))
    (Bv (Ln Dk rfl (yZ (Ek J h7 rfl C G I Ey (Am (Ao (pv 0)) (Am (Ao (pv 3)) Ay)))) (Hd (i:=6) Yz.nd rfl (Dc rfl))
    (Bv (Fd (i:=7) Yz.nd rfl (Dc rfl) (Ek v h3 rfl r t B Ey (Am (Ao (pv 1)) (Am (Ao (pv 6)) Ay))))
     (Bv (Il (B1 (Ao (pv 7)) Yt)
     (Ct (Ee (Qk (Am Tc (Am (Ny (Ao (pv 6))) (Am (bO (pv 4)) Ay)))))) Gq)
     (Ct (Qy (pv 5) (Ao (pv 7)))))))
    (Bv (Ng (i:=4) Yz.nd rfl (Dc rfl) (CV h2 rfl rfl N rfl T (Am (Ao (pv 5)) Ay)))
    (Ct (uR (i:=3) Yz.nd rfl (Dc rfl) Df))))))))))
 case h =>
  (intro ds R Y; obtain ⟨h,D,rfl,h0,h1,lD,hD,hS,hP⟩ := Y)
  refine ⟨rfl,?_⟩
  array_get_dec
  refine ⟨by omega,by omega,D,Oo h,rfl,lD,by unfold Oo; simp; omega,λnd=>?_,λi j x y lt hx hy e=>?_⟩
  rotate_left
  ·rw[Mu (hD x (Aw hx)),Mu (hD y (Aw hy))] at e
   rw[show isNone (Bb [(i:Int),(j:Int)])=false from rfl]
   array_get_dec
   exact hS i j x lt hx (by rw[e]; exact hy)
  have h4:D.Nodup:=by
   have e:D.map (Lg (Oo h))=D.map id:=Jk λc hc=>Mu (hD c hc)
   rw[e,List.map_id] at nd
   exact nd
  dsimp only
  rw[show isNone Uz=true from rfl]
  array_get_dec
  refine t8 (λδ=>∃(k:Nat) (P:List (List Int)) (v5 V X:DV),δ=⟨[.dat .sh (.int h),.dat .sh (.list (D.map Bb)),.dat .sh .none,.dat .sh (.int k),.dat .ow (.list (P.map Bb)),v5,V,X],0⟩/\k<=h/\Bars D h k P/\NP v5/\NP V/\NP X) (λδ=>h+1 - Y4 3 δ) ⟨0,[],_,_,_,rfl,by omega,⟨λ_=>rfl,(λq z=>nomatch z),(λz=>absurd z (by decide)),by decide,Do⟩,Jy,Jy,Jy⟩ ?_
  (intro _ Y; obtain ⟨k,P,v5,V,X,rfl,kh,hB,k0,S,U⟩ := Y)
  array_get_dec
  refine Y7 (λ_=>?_) (λq=>nomatch q)
  array_get_dec
  refine ⟨h,k,rfl,by omega,by omega,by omega,?_⟩
  rw[Dl,Dl]
  array_get_dec
  have lc:(cw h 0 k).length<=1024:=by
   rw [cw_len]
   exact Co (vH h k) (Pc (n:=2) (by decide) h1)
  refine Sw (l:=cw h 0 k) (g:=Bb) rfl (λi δ=>∃(M:List (List Int)) (V X:DV),δ=⟨[.dat .sh (.int h),.dat .sh (.list (D.map Bb)),.dat .sh .none,.dat .sh (.int k),.dat .ow (.list (P.map Bb)),.dat .ow (.list (M.map Bb)),V,X],0⟩/\M.length=i/\(∀(a:Nat) (u:List Int),a<i->(cw h 0 k)[a]? = some u->∃q∈M,uO D u q)/\(∀q∈M,Sr D q)/\(0<i->k<h)/\NP V/\NP X) ?_ ?_ ?_
  ·exact ⟨[],_,_,rfl,rfl,(λa u z=>absurd z (Dv _)),(λq z=>nomatch z),(λz=>absurd z (Dv _)),S,U⟩
  ·(intro i w _ hw Y; obtain ⟨M,V,X,rfl,lM,hM,hQ,hk,S,U⟩ := Y)
   have mw:=Aw hw
   have li:=(Ai.mp hw).1
   array_get_dec
   have lw:w.length≤60:=by rw [(cw_mem.mp mw).1]; omega
   refine ⟨D,w,rfl,lD,lw,λh5=>?_,λa b x y lt hx hy e=>?_⟩
   ·array_get_dec
    rw[show isNone Uz=true from rfl]
    array_get_dec
    exact hP k w P h4 kh mw h5 hB
   ·array_get_dec
    rw[show isNone (Bb [(a:Int),(b:Int)])=false from rfl]
    array_get_dec
    have al:uO D w [(a:Int),(b:Int)]:=⟨a,b,x,y,rfl,lt,hx,hy,e⟩
    refine ⟨by rw[Ac]; omega,M++[[(a:Int),(b:Int)]],_,_,nO (by rw[Bn]; rfl) rfl,by rw[Bh,lM]; rfl,λa' u k1 Z=>?_,λq hq=>?_,λ_=>?_,Ga,Ga⟩
    ·by_cases z:a'=i
     ·subst z
      rw[hw] at Z
      cases Z
      exact ⟨_,Av _ (Al.mpr rfl),al⟩
     ·obtain ⟨q,q1,q2⟩:=hM a' u (by omega) Z
      exact ⟨q,Ap _ q1,q2⟩
    ·rcases Ba.mp hq with z | z
     ·exact hQ q z
     ·rw[Al.mp z]; exact al.ok
    ·refine Ea λz=>?_
     obtain rfl:k=h:=by omega
     rw [cw_full mw,Mu (hD x (Aw hx)),Mu (hD y (Aw hy))] at e
     obtain ⟨i1,i2⟩:=Ai.mp hx
     obtain ⟨j1,j2⟩:=Ai.mp hy
     exact Bx.mp h4 a b i1 j1 lt (by rw[i2,j2,e])
  ·(intro _ Y; obtain ⟨M,V,X,rfl,lM,hM,hQ,hk,S,U⟩ := Y)
   have lp:=n6 (n:=h) (k:=k) kh
   rw [← cw_len h 0 k] at lp
   have kl:=hk (by omega)
   array_get_dec
   refine ⟨M,rfl,by omega,λL nL iL oL=>?_⟩
   array_get_dec
   have lL:=(Sv nL iL).1
   refine ⟨⟨k+1,L,_,_,_,rfl,by omega,⟨λz=>by omega,λq hq=>hQ q ((iL q).mp hq),λ_ u Z=>?_,by omega,nL⟩,GD,S,U⟩,?_⟩
   ·rw[aT] at Z
    obtain ⟨a,ha⟩:=Vc.mp Z
    obtain ⟨q,q1,q2⟩:=hM a u (Ai.mp ha).1 ha
    exact ⟨q,(iL q).mpr q1,q2⟩
   ·show h+1 - ((k:Int)+1).toNat<h+1 - (k:Int).toNat
    omega
end
def jV:DF:=λb n R=>∃h:Int,b=[.int h]/\0<h/\h<=60/\n<=90000/\∀a,Dh h a->R (Bb a) (n+1)
def Y1:DF:=λa n R=>a=[]/\n<=90000/\∀h:Int,0<h->h<=10->R (.int h) (n+1)
def E8:DF:=λa n R=>∃h:Nat,a=[.int h]/\1<=h/\h<=10/\n<=50000/\∀(D:List (List Int)) n',n<=n'->n'<=n+30->D.length<=12->(∀c∈D,Dh h c)->R (.list (D.map Bb)) n'
theorem Mx{h:Nat}(p:Nat->Bool):Dh h (((Bg h).filter p).map λk:Nat=>(k:Int)) :=
 ⟨Hl.mpr ((List.pairwise_lt_range.filter _).imp λz=>by omega),λx a=>by
  obtain ⟨k,b,rfl⟩:=Bl.mp a
  have:=Cu.mp (Dm.mp b).1
  omega⟩
section
variable{P:Bp}{w:World}{K:PySem.W.Frag}{mg:Str->Option Value}{base:Heap}
theorem gK:FnScope ["_law_draws_here", "_law_holes", "_law_pick", "_law_told", "_law_place"] ["_law_draws_here", "_law_holes"] (Cf Rw):=⟨rfl,rfl,rfl,by decide +kernel,rfl,by decide +kernel,by decide +kernel⟩
theorem gP{f b  : Addr}{D c:Cz}(F:Fun K "_law_small" "_law_small" Rw f D)(j:FnOk P w K mg base Ib 1 b c ["_law_draws_here"] (fO K Ss))(m:Binds K c ["_law_draws_here"] [])(e:PySem.W.keepIn K (.ref b)=true)(o:mg "_law_next" = some (.ref b))(d:mg "range" = none)(q:mg "tuple" = none):FnOk P w K mg base Ib 2 f D ["_law_draws_here", "_law_holes"] (fO K (jV)):=by
 refine' Xb (k:=1) F gK (λI A B s H E r=>?hb) ?h
 case hb =>
  have z:Room 1 _:=r.mono (by decide)
  have u:=r.units
  exact Bv (Fd (i:=2) gK.nd rfl (Dc rfl) (Hi j z rfl o e m Ey (pv 0) Ay))
   (Bv (Ng (i:=3) gK.nd rfl (Dc rfl) (Kj Ay))
   (Bv (Ln Dk rfl (Kt rfl d (Am (Ao (pv 1)) Ay)) (Hd (i:=4) gK.nd rfl (Dc rfl))
   (Bv (Il (aA u (Mh (Ao (pv 2)) Df) Df)
    (Ct (Qy (pv 3) (Ao (pv 4)))) Gq)
    (Ct (Fd (i:=2) gK.nd rfl (Dc rfl) (cN (Ao (pv 2)) Df)))))
   (Ct (Ee (Hu Qw (Rg (i:=true)) rfl q (by decide +kernel) (Am (Ao (pv 3)) Ay))))))
 case h =>
  (intro S n R y; obtain ⟨h,rfl,X,U,T,L⟩ := y)
  refine ⟨rfl,?_⟩
  array_get_dec
  refine ⟨rfl,by omega,λQ=>?_⟩
  array_get_dec
  refine ⟨by omega,by omega,?_⟩
  refine Sw (l:=Bg h.toNat) (g:=λi:Nat=>.int i) rfl (λi N=>∃(p:Int) (t:List Int) (v:DV),N=⟨[.drw,.dat .sh (.int h),.dat .sh (.int p),.dat .ow (.list (t.map Bq)),v],n+1⟩/\Dh i t/\NP v) ?_ ?_ ?_
  ·exact ⟨_,[],_,rfl,Dh.nil _,Jy⟩
  ·(intro i a _ G y; obtain ⟨p,t,v,rfl,r,M⟩ := y)
   obtain ⟨rfl,V⟩:=Re G
   have J:=xV (CL r) (λx O=>by have:=r.2 x O; omega)
   array_get_dec
   refine Sd (λC=>?_) (λC=>?_)
   ·array_get_dec
    refine ⟨by rw[Ac]; omega,?_⟩
    refine ⟨_,t++[(a:Int)],_,nO (by rw[Bn]; rfl) rfl,r.more (by omega),Ga⟩
   ·array_get_dec
    exact ⟨_,t,_,rfl,r.up (by omega),Ga⟩
  ·(intro _ y; obtain ⟨p,t,v,rfl,r,M⟩ := y)
   rw[Cs] at r
   array_get_dec
   exact ⟨by omega,L t (by rwa [show ((h.toNat:Nat):Int)=h by omega] at r)⟩
theorem lC:FnScope ["_law_draws_here", "_law_holes", "_law_deck_here", "_law_k", "_law_card", "_law_pick", "_law_place"] ["_law_draws_here", "_law_holes"] (Cf Qe):=⟨rfl,rfl,rfl,by decide +kernel,rfl,by decide +kernel,by decide +kernel⟩
theorem jW{f m d  : Addr}{fd r p:Cz}(F:Fun K "_law_deck" "_law_deck" Qe f fd)(u:FnOk P w K mg base Ib 1 m r ["_law_draws_here"] (fO K Ss))(v:Binds K r ["_law_draws_here"] [])(t:PySem.W.keepIn K (.ref m)=true)(B:mg "_law_next" = some (.ref m))(L:FnOk P w K mg base Ib 2 d p ["_law_draws_here", "_law_holes"] (fO K (jV)))(I:Binds K p ["_law_draws_here", "_law_holes"] [])(M:PySem.W.keepIn K (.ref d)=true)(G:mg "_law_small" = some (.ref d))(q:mg "range" = none)(S:mg "len" = none)(O:mg "tuple" = none):FnOk P w K mg base Ib 3 f fd ["_law_draws_here", "_law_holes"] (fO K (E8)):=by
 refine' Xb (k:=2) F lC (λh7 A X s H E hr=>?hb) ?h
 case hb =>
  have h2:Room 1 _:=hr.mono (by decide)
  have k2:Room 2 _:=hr.mono (by decide)
  have o:=hr.units
  have h4:∀{J:Scope} (h:J={ kind:=.function,names:=[(".0",.local),("_law_k",.local),("_law_card",.free),("_law_place",.free)],isGenerator:=false,isCoroutine:=false }),
    CompScope (Pv Ib P w K mg base ["_law_draws_here", "_law_holes", "_law_deck_here", "_law_k", "_law_card", "_law_pick", "_law_place"] "_law_deck" (Cf Qe) f h7 A X s H E).nox J [("_law_place",s.heap.objs.size+2),("_law_card",s.heap.objs.size+1)] "_law_k" ["_law_card", "_law_place"] [4,6]:=by
   rintro J rfl
   refine ⟨by rfl,.inl (by decide +kernel),by rfl,by decide +kernel,.inl rfl,λy c h=>?_,by rfl,by decide +kernel,rfl,λk y j Y e2=>?_⟩
   ·have z:=Ft h
    simp only[An,Ce,or_false,Gv] at z
    rcases z with ⟨rfl,rfl⟩ | ⟨rfl,rfl⟩ <;> rfl
   ·match k,Y,e2 with
    | 0,Y,e2=>cases Y; cases e2; exact ⟨rfl,rfl,by first | exact .inl rfl | exact .inr rfl⟩
    | 1,Y,e2=>cases Y; cases e2; exact ⟨rfl,rfl,by first | exact .inl rfl | exact .inr rfl⟩
    | k+2,Y,e2=>cases Y
  exact Bv (Ng (i:=2) lC.nd rfl (Dc rfl) (Kj Ay))
   (Bv (Ln Dk rfl (Kt rfl q (Am (Mh (Hi u h2 rfl B t v Ey (pv 0) Ay) Df) Ay)) (Hd (i:=3) lC.nd rfl (Dc rfl))
   (Bv (Fd (i:=4) lC.nd rfl (Va rfl) (Hi L k2 rfl G M I Ey (pv 0) (Am (Ao (pv 1)) Ay)))
    (Bv (Fd (i:=5) lC.nd rfl (Dc rfl) (Hi u h2 rfl B t v Ey (pv 0) Ay))
    (Bv (Il (gB (sV (Wo o (Ao (pv 2)) (Kj Ay)) (uB (aA o (Mh (Ao (pv 5)) Df) Df))))
    (Bv (Fd (i:=4) lC.nd rfl (Va rfl) (Ny (Jw (Ao (pv 2)) (Mh (cN (Ao (pv 5)) Df) (Ei Hj Kz rfl S (by decide +kernel) (Am (Ao (pv 2)) Ay))))))
     (Bv (Fd (i:=6) lC.nd rfl (Va rfl) (Mh (cN (Ao (pv 5)) Df) (Ao (pv 1))))
     (Ct (Fd (i:=4) lC.nd rfl (Va rfl) (Hu Qw (Rg (i:=true)) rfl O (by decide +kernel) (Am (Ni (h4 rfl) rfl (Kt rfl q (Am (Ao (pv 1)) Ay)) (λ_ _ _=>Xd (Wo o (uH o (Ao (pv 0)) (Ao (pv 1))) (iQ o (Ao (pv 0)) (Ao (pv 2))))) (λ_ _ _=>Ao (pv 0))) Ay)))))) Gq)
    (Ct (Il (gB (Rj (L7 o (Ao (pv 4)) (Ao (pv 2))) (Te (aA o (Mh (Ao (pv 5)) Df) Df))))
    (Ct (Qy (pv 2) (Ao (pv 4)))) Gq))))))
   (Ct (Ee (bO (pv 2)))))
 case h =>
  (intro ds n R T; obtain ⟨h,rfl,h0,h1,hn,hR⟩ := T)
  refine ⟨rfl,?_⟩
  array_get_dec
  refine ⟨rfl,by omega,λr1=>?_⟩
  array_get_dec
  have bm:=Qj r1 (b:=13) (by decide)
  refine ⟨by omega,by omega,?_⟩
  refine Sw (l:=Bg (r1 % 13).toNat) (g:=λi:Nat=>.int i) rfl (λi δ=>∃(D:List (List Int)) (v3 v4 v5 Q:DV) (n':Nat),δ=⟨[.drw,.dat .sh (.int h),.dat .ow (.list (D.map Bb)),v3,v4,v5,Q],n'⟩/\n'=n+1+2 * i/\D.length<=i/\(∀c∈D,Dh h c)/\NP v3/\NP v4/\NP v5/\NP Q) ?_ ?_ ?_
  ·exact ⟨[],_,_,_,_,_,rfl,rfl,Ah _,(λ_ z=>nomatch z),Jy,Jy,Jy,Jy⟩
  ·(intro i a _ ha T; obtain ⟨D,v3,v4,v5,Q,n1,rfl,k1,ld,hd,h5,k3,k0,C⟩ := T)
   obtain ⟨rfl,hi⟩:=Re ha
   array_get_dec
   refine ⟨h,rfl,by omega,by omega,by omega,λw h3=>?_⟩
   array_get_dec
   refine ⟨rfl,by omega,λU=>?_⟩
   array_get_dec
   refine Z3 (λP=>DQ _ _ _ P) (λδ=>∃(c:List Int) (Q:DV),δ=⟨[.drw,.dat .sh (.int h),.dat .ow (.list (D.map Bb)),.dat .sh (.int a),.dat .sh (Bb c),.dat .sh (.int U),Q],n1+1+1⟩/\Dh h c/\NP Q) (λN hN=>?_) ?_
   ·refine Vy (λZ=>?_) (λZ=>?_)
    ·have h9:D≠[]:=λz=>by rw[z] at Z; cases Z
     array_get_dec
     refine Sd (λV=>?_) (λV=>?_)
     ·have hl:0<D.length:=Lp.mpr h9
      have bl:=Qj (U / 2) (b:=((D.map Bb).length:Int)) (by rw[Ac]; omega)
      have bh:=Qj (U / 40) (b:=(h:Int)) (by omega)
      rw[Ac] at bl
      obtain ⟨c,hc,e⟩:=wB bl.1 bl.2
      array_get_dec
      rw[Ac,e]
      refine ⟨by omega,Bb c,rfl,?_⟩
      array_get_dec
      refine ⟨by omega,by omega,by omega,?_⟩
      refine qF (l:=Bg h) (g:=λi:Nat=>.int i) rfl (λk=>decide ((k:Int)∈c) != decide ((k:Int)=U / 40 % h)) (λk=>.int k) (λk hk k4 no hy hn=>?_) ?_
      ·array_get_dec
       refine kZ (λz=>?_) (λz=>?_)
       ·array_get_dec
        exact hy z
       ·exact hn z
      array_get_dec
      refine hN _ ⟨_,.dat .sh (.int (U / 40 % h)),nO ?_ rfl,Mx (h:=h) (λk=>decide ((k:Int)∈c) != decide ((k:Int)=U / 40 % h)),Ga⟩
      unfold Bb
      rw[Eh]
      rfl
     ·array_get_dec
      exact hN _ ⟨w,_,rfl,h3,C⟩
    ·array_get_dec
     exact hN _ ⟨w,_,rfl,h3,C⟩
   ·clear C
    (intro _ T; obtain ⟨c,Q,rfl,rc,C⟩ := T)
    array_get_dec
    refine Z3 (λP=>GV _ _ _ P) (λδ=>∃(D':List (List Int)),δ=⟨[.drw,.dat .sh (.int h),.dat .ow (.list (D'.map Bb)),.dat .sh (.int a),.dat .sh (Bb c),.dat .sh (.int U),Q],n1+1+1⟩/\D'.length<=a+1/\∀c∈D',Dh h c) (λN hN=>?_) ?_
    ·have go:N ⟨[.drw,.dat .sh (.int h),.dat .ow (.list ((D++[c]).map Bb)),.dat .sh (.int a),.dat .sh (Bb c),.dat .sh (.int U),Q],n1+1+1⟩:=hN _ ⟨D++[c],rfl,by rw[Bh,Gu]; omega,λx hx=>by
      rcases Ba.mp hx with z | z
      ·exact hd x z
      ·rw[Al.mp z]; exact rc⟩
     rw[Bn] at go
     refine L5 (λZ=>?_) (λZ=>?_)
     ·array_get_dec
      refine ⟨by simp [npk,C _],by rw[Ac]; omega,?_⟩
      exact go
     ·array_get_dec
      refine Sd (λV=>?_) (λV=>?_)
      ·array_get_dec
       refine ⟨by simp [npk,C _],by rw[Ac]; omega,?_⟩
       exact go
      ·array_get_dec
       exact hN _ ⟨D,rfl,by omega,hd⟩
    ·(intro _ T; obtain ⟨D',rfl,h8,h6⟩ := T)
     try array_get_dec
     exact ⟨D',_,_,_,_,_,rfl,by omega,h8,h6,Ga,Ga,Ga,C⟩
  ·(intro _ T; obtain ⟨D,v3,v4,v5,Q,n1,rfl,k1,ld,hd,h5,k3,k0,C⟩ := T)
   rw[Cs] at k1 ld
   array_get_dec
   exact ⟨by omega,hR D _ (by omega) (by omega) (by omega) hd⟩
theorem nK:FnScope ["_law_draws_here", "_law_pick"] ["_law_draws_here"] (Cf Vt):=⟨rfl,rfl,rfl,by decide +kernel,rfl,by decide +kernel,by decide +kernel⟩
theorem pJ{f a  : Addr}{u c:Cz}(F:Fun K "_law_few" "_law_few" Vt f u)(e:FnOk P w K mg base Ib 1 a c ["_law_draws_here"] (fO K Ss))(g:Binds K c ["_law_draws_here"] [])(d:PySem.W.keepIn K (.ref a)=true)(j:mg "_law_next" = some (.ref a))(l:mg "int" = none):FnOk P w K mg base Ib 2 f u ["_law_draws_here"] (fO K (Y1)):=by
 refine' Xb (k:=1) F nK (λv A p s H E t=>?hb) ?h
 case hb =>
  have o:Room 1 _:=t.mono (by decide)
  have m:=t.units
  exact Bv (Fd (i:=1) nK.nd rfl (Dc rfl) (Hi e o rfl j d g Ey (pv 0) Ay))
   (Ct (Ee (Jw (Kj (Am (Sm Df (Mh (cN (Ao (pv 1)) Df) Df)) (Am Df Ay))) (Hu iS o9 rfl l (by decide +kernel) (Am (iQ m (Mh (Ao (pv 1)) Df) Df) Ay)))))
 case h =>
  (intro y n R x; obtain ⟨rfl,z,r⟩ := x)
  refine ⟨rfl,?_⟩
  array_get_dec
  refine ⟨rfl,by omega,λq=>?_⟩
  array_get_dec
  have B:=Qj (q / 8) (b:=7) (by decide)
  refine ⟨_,HN _ _ _,by omega,?_⟩
  cases decide (q % 8=1)
  ·exact r _ (by omega) (by omega)
  ·exact r _ (by omega) (by omega)
end
theorem Wp{D:List (List Int)}{a:Nat}{x:List Int}(h:D[a]? = some x):Xu (D.map Bb) (a:Int)=some (Bb x):=by
 refine lK (j:=a) ?_
 rw[Br,h]
 rfl
def tP(i j:Nat):Ae:=.tuple [.str "same",.int i,.int j]
def tL(w:List Int)(P:List (List Int)):Ae:=.tuple [.str "places",Bb w,.list (P.map Bb)]
def nU(h:Nat)(D:List (List Int))(w:List Int)(P:List (List Int)):Prop:=Dh h w/\(D.map (Lg w)).Nodup/\(w=[]->P=[])/\(w≠[]->∀u∈cw h 0 (w.length - 1),∃q∈P,uO D u q)
def kO:PF:=λa R=>∃(h:Nat) (D:List (List Int)) (T:Ae),a=[.int h,.list (D.map Bb),T]/\1<=h/\h<=10/\D.length<=1000/\(∀c∈D,Dh h c) /\
  ((∃(i j:Nat) (x y:List Int),i<j/\D[i]? = some x/\D[j]? = some y/\T=tP i j/\(x=y->R (.bool true))/\(x≠y->R (.bool false))) \/
   ∃(w:List Int) (P:List (List Int)),Dh 12 w/\(∀q∈P,Sr D q)/\P.length<=1100/\T=tL w P/\(nU h D w P->R (.bool true))/\(¬ nU h D w P->R (.bool false)))
theorem jC{h:Nat}{w:List Int}(r:Dh h w):w.length<=h:=by
 have:=(Ri r.1 (Ow h) λz a=>Bl.mpr ⟨z.toNat,Cu.mpr (by have:=r.2 z a; omega),by have:=r.2 z a; omega⟩).length_le
 unfold Oo at this
 simpa using this
def kN:PF:=λa R=>∃i:Int,a=[.int i]/\R (.bool true)
def nH:PF:=λa R=>∃(h:Int) (w:List Int),a=[.int h,Bb w]/\(Dh h w->R (.bool true))/\(¬ Dh h w->R (.bool false))
def fA:PF:=λc R=>∃(D:List (List Int)) (a b:Nat),c=[.list (D.map Bb),.int a,.int b]/\a<b/\b<D.length/\R (.bool true)
def eQ:PF:=λa R=>∃(D P:List (List Int)),a=[.list (D.map Bb),.list (P.map Bb)]/\(∀q∈P,Sr D q)/\R (.bool true)
def w5:PF:=λa R=>∃(D P:List (List Int)) (u:List Int),a=[.list (D.map Bb),.list (P.map Bb),Bb u]/\u.length<=60/\(∀q∈P,Sr D q)/\((∃q∈P,uO D u q)->R (.bool true))/\(¬ (∃q∈P,uO D u q)->R (.bool false))
def iH:PF:=λa R=>∃(h:Nat) (D:List (List Int)) (w:List Int) (P:List (List Int)),a=[.int h,.list (D.map Bb),Bb w,.list (P.map Bb)]/\1<=h/\h<=10/\D.length<=1000/\(∀c∈D,Dh h c)/\Dh 12 w/\(∀q∈P,Sr D q)/\P.length<=1100/\(nU h D w P->R (.bool true))/\(¬ nU h D w P->R (.bool false))
section
variable{P:Bp}{w:World}{K:PySem.W.Frag}{mg:Str->Option Value}{base:Heap}
theorem pN:FnScope ["thing"] ["thing"] (Cf Vo):=⟨rfl,rfl,rfl,by decide +kernel,rfl,by decide +kernel,by decide +kernel⟩
theorem nC{f   : Addr}{g  : Cz}(F:Fun K "is_whole" "is_whole" Vo f g)(b:mg "bool" = none)(a:mg "isinstance" = none)(c:mg "int" = none):FnOk P w K mg base Ib 1 f g ["thing"] (Pb K (kN)):=by
 refine' Ip (k:=0) F pN (λl A d s H E m=>?hb) ?h
 case hb =>
  have e:=m.units
  exact Ct (Ee (Ze (Ei Vs Vx rfl a (by decide +kernel) (Am (Ao (pv 0)) (Am (dA (n := "int") rfl c (by decide +kernel)) Ay))) (mI (BO (Ei Vs Vx rfl a (by decide +kernel) (Am (Ao (pv 0)) (Am (dA (n := "bool") rfl b (by decide +kernel)) Ay)))))))
 case h =>
  (intro p R o; obtain ⟨i,rfl,j⟩ := o)
  refine ⟨rfl,?_⟩
  array_get_dec
  exact j
theorem rY:FnScope ["holes", "thing", "least", "place"] ["holes", "thing"] (Cf Ys):=⟨rfl,rfl,rfl,by decide +kernel,rfl,by decide +kernel,by decide +kernel⟩
theorem rK{f d  : Addr}{fd e:Cz}(F:Fun K "is_word" "is_word" Ys f fd)(t:FnOk P w K mg base Ib 1 d e ["thing"] (Pb K (kN)))(u:Binds K e ["thing"] [])(v:PySem.W.keepIn K (.ref d)=true)(o:mg "is_whole" = some (.ref d))(y:mg "tuple" = none)(m:mg "isinstance" = none):FnOk P w K mg base Ib 2 f fd ["holes", "thing"] (Pb K (nH)):=by
 refine' Ip (k:=1) F rY (λh0 A Q s H E hr=>?hb) ?h
 case hb =>
  have I:Room 1 _:=hr.mono (by decide)
  have Z:=hr.units
  exact Bv (Il (Mg (Kg (Ei Vs Vx rfl m (by decide +kernel) (Am (Ao (pv 1)) (Am (dA (n := "tuple") rfl y (by decide +kernel)) Ay)))))
   (Ct (Ee Lh)) Gq)
   (Bv (Fd (i:=2) rY.nd rfl (Dc rfl) Df)
   (Bv (Ln Dk rfl (FK (Ao (pv 1))) (Hd (i:=3) rY.nd rfl (Dc rfl))
   (Bv (Il (gB (Rj (Mg (Kg (Ek t I rfl o v u Ey (Am (Ao (pv 3)) Ay)))) (Rj (oJ (Ao (pv 3)) (Ao (pv 2))) (Te (AD (Ao (pv 3)) (Ao (pv 0)))))))
    (Ct (Ee Lh)) Gq)
    (Ct (Fd (i:=2) rY.nd rfl (Dc rfl) (Sm (Ao (pv 3)) Df)))))
   (Ct (Ee Lh))))
 case h =>
  (intro ds R D; obtain ⟨h,w,rfl,hT,Y⟩ := D)
  refine ⟨rfl,?_⟩
  array_get_dec
  refine Sw (l:=w) (g:=Bq) rfl (λi δ=>(∃(c:Int) (G:DV),δ=⟨[.dat .sh (.int h),.dat .sh (Bb w),.dat .sh (.int c),G],0⟩/\NP G/\(c=0\/∃j:Nat,j<i/\w[j]? = some (c - 1))/\(∀(j:Nat) (x:Int),j<i->w[j]? = some x->x<c)/\0<=c)/\Dh h (w.take i)) ?_ ?_ ?_
  ·exact ⟨⟨_,_,rfl,Jy,.inl rfl,(λj x z=>absurd z (Dv _)),Int.le_refl _⟩,Dh.nil _⟩
  ·(intro i p _ B D; obtain ⟨⟨c,G,rfl,L,hl,S,O⟩,r⟩ := D)
   obtain ⟨U,X⟩:=Ai.mp B
   array_get_dec
   refine ⟨p,rfl,?_⟩
   array_get_dec
   refine L5 (λq=>?_) (λq=>?_)
   ·have q:p<c:=of_decide_eq_true q
    array_get_dec
    refine Y λz=>?_
    rcases hl with rfl | ⟨j,T,J⟩
    ·have:=z.2 p (Aw B); omega
    ·obtain ⟨j1,j2⟩:=Ai.mp J
     have:=Bx.mp z.1 j i j1 U T
     rw[X,j2] at this
     omega
   have q:¬ p<c:=of_decide_eq_false q
   array_get_dec
   refine Sd (λC=>?_) (λC=>?_)
   ·have C:=of_decide_eq_true C
    array_get_dec
    exact Y λz=>by have:=z.2 p (Aw B); omega
   have C:=of_decide_eq_false C
   array_get_dec
   refine ⟨⟨_,_,rfl,Ga,.inr ⟨i,by omega,by rw[B,Int.add_sub_cancel]⟩,λj x T M=>?_,by omega⟩,?_⟩
   ·by_cases z:j=i
    ·subst z
     rw[B] at M
     cases M
     omega
    ·have:=S j x (by omega) M; omega
   ·rw[Gi U,X]
    refine ⟨Et.mpr ⟨r.1,Fj _ _,λa ha b V=>?_⟩,λx N=>?_⟩
    ·obtain ⟨j,T,J⟩:=Rm.mp ha
     have:=S j a (by omega) (by rw[Bk (by omega),J])
     rw[Al.mp V]
     omega
    ·rcases Ba.mp N with z | z
     ·exact r.2 x z
     ·rw[Al.mp z]; omega
  ·(intro _ D; obtain ⟨⟨c,G,rfl,L,hl,S,O⟩,r⟩ := D)
   rw[Gy] at r
   array_get_dec
   exact hT r
theorem rF:FnScope ["deck", "i", "j"] ["deck", "i", "j"] (Cf Zk):=⟨rfl,rfl,rfl,by decide +kernel,rfl,by decide +kernel,by decide +kernel⟩
theorem sP{f c  : Addr}{r e:Cz}(F:Fun K "is_pair" "is_pair" Zk f r)(d:FnOk P w K mg base Ib 1 c e ["thing"] (Pb K (kN)))(l:Binds K e ["thing"] [])(m:PySem.W.keepIn K (.ref c)=true)(g:mg "is_whole" = some (.ref c))(n:mg "len" = none):FnOk P w K mg base Ib 2 f r ["deck", "i", "j"] (Pb K (fA)):=by
 refine' Ip (k:=1) F rF (λv A p s H E t=>?hb) ?h
 case hb =>
  have o:Room 1 _:=t.mono (by decide)
  have q:=t.units
  exact Bv (Il (gB (Rj (Mg (Kg (Ek d o rfl g m l Ey (Am (Ao (pv 1)) Ay)))) (Te (Mg (Kg (Ek d o rfl g m l Ey (Am (Ao (pv 2)) Ay)))))))
   (Ct (Ee Lh)) Gq)
   (Ct (Ee (Ze (IP (Ao (pv 1)) Df) (Ze (AV (Ao (pv 1)) (Ao (pv 2))) (mI (AV (Ao (pv 2)) (Ei Hj Kz rfl n (by decide +kernel) (Am (Ao (pv 0)) Ay))))))))
 case h =>
  (intro z R x; obtain ⟨D,a,b,rfl,lt,y,u⟩ := x)
  refine ⟨rfl,?_⟩
  array_get_dec
  refine ⟨(a:Int),rfl,?_⟩
  array_get_dec
  refine ⟨(b:Int),rfl,?_⟩
  array_get_dec
  rw[decide_eq_true (show (0:Int)<=(a:Int) by omega)]
  array_get_dec
  rw[decide_eq_true (show (a:Int)<(b:Int) by omega)]
  array_get_dec
  rw[Ac,decide_eq_true (show (b:Int)<(D.length:Int) by omega)]
  exact u
theorem jP:FnScope ["deck", "thing", "pair"] ["deck", "thing"] (Cf Sn):=⟨rfl,rfl,rfl,by decide +kernel,rfl,by decide +kernel,by decide +kernel⟩
theorem kW{f d  : Addr}{J e:Cz}(F:Fun K "are_pairs" "are_pairs" Sn f J)(r:FnOk P w K mg base Ib 2 d e ["deck", "i", "j"] (Pb K (fA)))(m:Binds K e ["deck", "i", "j"] [])(p:PySem.W.keepIn K (.ref d)=true)(o:mg "is_pair" = some (.ref d))(u:mg "list" = none)(c:mg "isinstance" = none)(v:mg "len" = none)(t:mg "tuple" = none):FnOk P w K mg base Ib 3 f J ["deck", "thing"] (Pb K (eQ)):=by
 refine' Ip (k:=2) F jP (λM A B s H E C=>?hb) ?h
 case hb =>
  have L:Room 1 _:=C.mono (by decide)
  have G:Room 2 _:=C.mono (by decide)
  have x:=C.units
  exact Bv (Il (Mg (Kg (Ei Vs Vx rfl c (by decide +kernel) (Am (Ao (pv 1)) (Am (dA (n := "list") rfl u (by decide +kernel)) Ay)))))
   (Ct (Ee Lh)) Gq)
   (Bv (Ln Dk rfl (yZ (Ao (pv 1))) (Hd (i:=2) jP.nd rfl (Dc rfl))
   (Ct (Il (gB (Rj (Mg (Kg (Ei Vs Vx rfl c (by decide +kernel) (Am (Ao (pv 2)) (Am (dA (n := "tuple") rfl t (by decide +kernel)) Ay))))) (Rj (Wo x (Ei Hj Kz rfl v (by decide +kernel) (Am (Ao (pv 2)) Ay)) Df) (Te (Mg (Kg (Ek r G rfl o p m Ey (Am (Ao (pv 0)) (Am (Jw (Ao (pv 2)) Df) (Am (Jw (Ao (pv 2)) Df) Ay))))))))))
    (Ct (Ee Lh)) Gq)))
   (Ct (Ee Lh)))
 case h =>
  (intro U R y; obtain ⟨D,P,rfl,Q,N⟩ := y)
  refine ⟨rfl,?_⟩
  array_get_dec
  refine Sw (l:=P) (g:=Bb) rfl (λi S=>∃(z:DV),S=⟨[.dat .sh (.list (D.map Bb)),.dat .sh (.list (P.map Bb)),z],0⟩/\NP z) ?_ ?_ ?_
  ·exact ⟨_,rfl,Jy⟩
  ·(intro i q _ O y; obtain ⟨z,rfl,I⟩ := y)
   obtain ⟨a,b,rfl,lt,T⟩:=Q q (Aw O)
   array_get_dec
   refine ⟨D,a,b,rfl,lt,T,?_⟩
   array_get_dec
   exact ⟨_,rfl,Ga⟩
  ·(intro _ y; obtain ⟨z,rfl,I⟩ := y)
   array_get_dec
   exact N
theorem gI:FnScope ["deck", "pairs", "places", "i", "j"] ["deck", "pairs", "places"] (Cf Rp):=⟨rfl,rfl,rfl,by decide +kernel,rfl,by decide +kernel,by decide +kernel⟩
theorem gE{f c  : Addr}{Z j:Cz}(F:Fun K "some_alike" "some_alike" Rp f Z)(p:FnOk P w K mg base Ib 1 c j ["card", "places"] (Pb K (Yu)))(m:Binds K j ["card", "places"] [])(o:PySem.W.keepIn K (.ref c)=true)(d:mg "notches_at" = some (.ref c)):FnOk P w K mg base Ib 2 f Z ["deck", "pairs", "places"] (Pb K (w5)):=by
 refine' Ip (k:=1) F gI (λh0 A Q s H E Y=>?hb) ?h
 case hb =>
  have y:Room 1 _:=Y.mono (by decide)
  have C:=Y.units
  exact Bv (Ln Dk rfl (yZ (Ao (pv 1))) (sR (n:=2) rfl (Pn (Hd (i:=3) gI.nd rfl (Dc rfl)) (Pn (Hd (i:=4) gI.nd rfl (Dc rfl)) mC)))
   (Ct (Il (aA C (Ek p y rfl d o m Ey (Am (Jw (Ao (pv 0)) (Ao (pv 3))) (Am (Ao (pv 2)) Ay))) (Ek p y rfl d o m Ey (Am (Jw (Ao (pv 0)) (Ao (pv 4))) (Am (Ao (pv 2)) Ay))))
    (Ct (Ee Lh)) Gq)))
   (Ct (Ee Lh))
 case h =>
  (intro ds R t; obtain ⟨D,P,u,rfl,X,hP,hT,hF⟩ := t)
  refine ⟨rfl,?_⟩
  array_get_dec
  refine Sw (l:=P) (g:=Bb) rfl (λi δ=>(∃(J L:DV),δ=⟨[.dat .sh (.list (D.map Bb)),.dat .sh (.list (P.map Bb)),.dat .sh (Bb u),J,L],0⟩/\NP J/\NP L)/\∀(a:Nat) (q:List Int),a<i->P[a]? = some q->¬ uO D u q) ?_ ?_ ?_
  ·exact ⟨⟨_,_,rfl,Jy,Jy⟩,λa q z=>absurd z (Dv _)⟩
  ·(intro i q _ N t; obtain ⟨⟨J,L,rfl,O,T⟩,r⟩ := t)
   have V:=Aw N
   obtain ⟨a,b,rfl,lt,lb⟩:=hP q V
   have S:D[a]? = some D[a]:=Bk (by omega)
   have v:D[b]? = some D[b]:=Bk lb
   array_get_dec
   refine ⟨_,Wp S,D[a],u,rfl,X,?_⟩
   array_get_dec
   refine ⟨_,Wp v,D[b],u,rfl,X,?_⟩
   array_get_dec
   refine Sd (λz=>?_) (λz=>?_)
   ·array_get_dec
    exact hT ⟨_,V,a,b,_,_,rfl,lt,S,v,of_decide_eq_true z⟩
   ·array_get_dec
    refine ⟨⟨_,_,rfl,Ga,Ga⟩,λI q' h1 x=>?_⟩
    by_cases e:I=i
    ·subst e
     rw[N] at x
     cases x
     (intro t; obtain ⟨I,b',x',y',e,_,B,G,en⟩ := t)
     injection e with e1 M
     injection M with M _
     have e1:a=I:=by omega
     have M:b=b':=by omega
     subst e1 M
     rw[S] at B
     rw[v] at G
     cases B
     cases G
     exact of_decide_eq_false z en
    ·exact r I q' (by omega) x
  ·(intro _ t; obtain ⟨⟨J,L,rfl,O,T⟩,r⟩ := t)
   array_get_dec
   refine hF ?_
   (intro t; obtain ⟨q,N,al⟩ := t)
   obtain ⟨a,U⟩:=Vc.mp N
   exact r a q (Ai.mp U).1 U al
theorem aY:FnScope ["holes", "deck", "places", "pairs"] ["holes", "deck", "places", "pairs"] (Cf Mf):=⟨rfl,rfl,rfl,by decide +kernel,rfl,by decide +kernel,by decide +kernel⟩
theorem aZ{f t o n m d  : Addr}{fd G B C v p:Cz}(F:Fun K "shows_places" "shows_places" Mf f fd)(h9:FnOk P w K mg base Ib 2 t G ["holes", "thing"] (Pb K (nH)))(h7:Binds K G ["holes", "thing"] [])(h6:PySem.W.keepIn K (.ref t)=true)(h5:mg "is_word" = some (.ref t))(h4:FnOk P w K mg base Ib 3 o B ["holes", "many"] (Pb K (Zq)))(X:Binds K B ["holes", "many"] [])(V:PySem.W.keepIn K (.ref o)=true)(U:mg "words_of" = some (.ref o))(h2:FnOk P w K mg base Ib 2 n C ["deck", "places"] (Pb K (lX)))(h3:Binds K C ["deck", "places"] [])(Z:PySem.W.keepIn K (.ref n)=true)(Y:mg "alike_at" = some (.ref n))(N:FnOk P w K mg base Ib 3 m v ["deck", "thing"] (Pb K (eQ)))(Q:Binds K v ["deck", "thing"] [])(T:PySem.W.keepIn K (.ref m)=true)(O:mg "are_pairs" = some (.ref m))(J:FnOk P w K mg base Ib 2 d p ["deck", "pairs", "places"] (Pb K (w5)))(L:Binds K p ["deck", "pairs", "places"] [])(M:PySem.W.keepIn K (.ref d)=true)(I:mg "some_alike" = some (.ref d))(S:mg "len" = none)(k0:mg "all" = none):FnOk P w K mg base Ib 4 f fd ["holes", "deck", "places", "pairs"] (Pb K (iH)):=by
 refine' Ip (k:=3) F aY (λk6 A k2 s H E hr=>?hb) ?h
 case hb =>
  have k8:Room 1 _:=hr.mono (by decide)
  have k3:Room 2 _:=hr.mono (by decide)
  have k4:Room 3 _:=hr.mono (by decide)
  have k1:=hr.units
  have k5:∀{h8:Scope} (h:h8={ kind:=.function,names:=[(".0",.local),("fewer",.local),("some_alike",.globalImplicit),("deck",.free),("pairs",.free)],isGenerator:=false,isCoroutine:=false }),
    CompScope (Pv Ib P w K mg base ["holes", "deck", "places", "pairs"] "shows_places" (Cf Mf) f k6 A k2 s H E).nox h8 [("pairs",s.heap.objs.size+2),("deck",s.heap.objs.size+1)] "fewer" ["deck", "pairs"] [1,3]:=by
   rintro h8 rfl
   refine ⟨by rfl,.inl (by decide +kernel),by rfl,by decide +kernel,.inl rfl,λy c h=>?_,by rfl,by decide +kernel,rfl,λk y j e1 e2=>?_⟩
   ·have z:=Ft h
    simp only[An,Ce,or_false,Gv] at z
    rcases z with ⟨rfl,rfl⟩ | ⟨rfl,rfl⟩ <;> rfl
   ·match k,e1,e2 with
    | 0,e1,e2=>cases e1; cases e2; exact ⟨rfl,rfl,by first | exact .inl rfl | exact .inr rfl⟩
    | 1,e1,e2=>cases e1; cases e2; exact ⟨rfl,rfl,by first | exact .inl rfl | exact .inr rfl⟩
    | k+2,e1,e2=>cases e1
  exact Bv (Il (gB (Rj (Mg (Kg (Ek h9 k3 rfl h5 h6 h7 Ey (Am (Ao (pv 0)) (Am (Ao (pv 2)) Ay))))) (Rj (Mg (Kg (Ek N k4 rfl O T Q Ey (Am (Ao (pv 1)) (Am (Ao (pv 3)) Ay))))) (Te (uC (Ek h2 k3 rfl Y Z h3 Ey (Am (Ao (pv 1)) (Am (Ao (pv 2)) Ay))) Yt)))))
   (Ct (Ee Lh)) Gq)
   (Bv (Il (aA k1 (Ei Hj Kz rfl S (by decide +kernel) (Am (Ao (pv 2)) Ay)) Df)
   (Ct (Ee (iQ k1 (Ei Hj Kz rfl S (by decide +kernel) (Am (Ao (pv 3)) Ay)) Df))) Gq)
   (Ct (Ee (Ei (pX rfl) x4 rfl k0 (by decide +kernel) (Am (Ni (k5 rfl) rfl (yZ (Ek h4 k4 rfl U V X Ey (Am (Ao (pv 0)) (Am (Rt (Ei Hj Kz rfl S (by decide +kernel) (Am (Ao (pv 2)) Ay)) Df) Ay)))) (λ_ _ _=>Np) (λ_ _ _=>Ek J k3 rfl I M L Ey (Am (Ao (pv 1)) (Am (Ao (pv 2)) (Am (Ao (pv 0)) Ay))))) Ay)))))
 case h =>
  (intro ds R q_; obtain ⟨h,D,w,P,rfl,h0,h1,lD,hD,k7,hP,lP,hT,hF⟩ := q_)
  refine ⟨rfl,?_⟩
  have lw:=Vv (k7.up (show (12:Int)<=60 by decide))
  array_get_dec
  refine ⟨h,w,rfl,λr=>?_,λr=>?_⟩
  rotate_left
  ·array_get_dec
   exact hF λz=>r z.1
  array_get_dec
  refine ⟨D,P,rfl,hP,?_⟩
  array_get_dec
  refine ⟨D,w,rfl,lD,lw,λnd=>?_,λi j x y lt hx hy e=>?_⟩
  rotate_left
  ·array_get_dec
   rw[show isNone (Bb [(i:Int),(j:Int)])=false from rfl]
   array_get_dec
   refine hF λz=>?_
   have gx:(D.map (Lg w))[i]? = some (Lg w x):=by rw[Br,hx]; rfl
   have gy:(D.map (Lg w))[j]? = some (Lg w y):=by rw[Br,hy]; rfl
   obtain ⟨i1,i2⟩:=Ai.mp gx
   obtain ⟨j1,j2⟩:=Ai.mp gy
   exact Bx.mp z.2.1 i j i1 j1 lt (i2.trans (e.trans j2.symm))
  array_get_dec
  rw[show isNone Uz=true from rfl]
  array_get_dec
  refine Sd (λz=>?_) (λz=>?_)
  ·have e:w=[]:=Hm.mp (by have:=of_decide_eq_true z; rw[Ac] at this; omega)
   array_get_dec
   by_cases c:P=[]
   ·rw[c]
    array_get_dec
    exact hT ⟨r,nd,λ_=>c,λz=>absurd e z⟩
   ·have lp:0<P.length:=Lp.mpr c
    rw[decide_eq_false (by rw[Ac]; omega)]
    exact hF λz=>c (z.2.2.1 e)
  ·have e:w≠[]:=λe=>by rw[e] at z; exact absurd z (by decide)
   have l0:0<w.length:=Lp.mpr e
   have rl:=jC r
   array_get_dec
   rw[Ac,show ((w.length:Int) - 1)=((w.length - 1:Nat):Int) by omega]
   refine ⟨h,(w.length - 1:Nat),rfl,by omega,by omega,by omega,?_⟩
   rw[Dl,Dl]
   array_get_dec
   refine iK (l:=cw h 0 (w.length - 1)) (g:=Bb) rfl (λu=>.bool (@decide (∃q∈P,uO D u q) (Fe _))) (λu hu k9 no hy=>?_) ?_
   ·have lu:u.length≤60:=by rw [(cw_mem.mp hu).1]; omega
    array_get_dec
    refine ⟨D,P,u,rfl,lu,hP,λa=>?_,λa=>?_⟩
    ·rw[@decide_eq_true _ (Fe _) a] at hy
     array_get_dec
     exact hy
    ·rw[@decide_eq_false _ (Fe _) a] at hy
     array_get_dec
     exact hy
   array_get_dec
   refine ⟨(cw h 0 (w.length - 1)).map λu=>@decide (∃q∈P,uO D u q) (Fe _),by rw[Eh]; rfl,?_⟩
   by_cases A:∀u∈cw h 0 (w.length - 1),∃q∈P,uO D u q
   ·rw[show ((cw h 0 (w.length - 1)).map λu=>@decide (∃q∈P,uO D u q) (Fe _)).all id=true from List.all_eq_true.mpr λb hb=>by
     obtain ⟨u,hu,rfl⟩:=Bl.mp hb
     exact @decide_eq_true _ (Fe _) (A u hu)]
    exact hT ⟨r,nd,λz=>absurd z e,λ_=>A⟩
   ·rw[show ((cw h 0 (w.length - 1)).map λu=>@decide (∃q∈P,uO D u q) (Fe _)).all id=false from Bool.eq_false_iff.mpr λz=>A λu hu=>@of_decide_eq_true _ (Fe _) (fL.mp z _ (Bl.mpr ⟨u,hu,rfl⟩))]
    exact hF λz=>A (z.2.2.2 e)
theorem aW:FnScope ["holes", "deck", "thing", "told", "first", "second"] ["holes", "deck", "thing"] (Cf Pi):=⟨rfl,rfl,rfl,by decide +kernel,rfl,by decide +kernel,by decide +kernel⟩
theorem bC{f e a  : Addr}{S p b:Cz}(F:Fun K "shows_fewest" "shows_fewest" Pi f S)(r:FnOk P w K mg base Ib 2 e p ["deck", "i", "j"] (Pb K (fA)))(q:Binds K p ["deck", "i", "j"] [])(u:PySem.W.keepIn K (.ref e)=true)(t:mg "is_pair" = some (.ref e))(o:FnOk P w K mg base Ib 4 a b ["holes", "deck", "places", "pairs"] (Pb K (iH)))(m:Binds K b ["holes", "deck", "places", "pairs"] [])(l:PySem.W.keepIn K (.ref a)=true)(g:mg "shows_places" = some (.ref a))(C:mg "str" = none)(d:mg "isinstance" = none)(G:mg "len" = none)(B:mg "tuple" = none):FnOk P w K mg base Ib 5 f S ["holes", "deck", "thing"] (Pb K (kO)):=by
 refine' Ip (k:=4) F aW (λX A M s H E I=>?hb) ?h
 case hb =>
  have V:Room 1 _:=I.mono (by decide)
  have N:Room 2 _:=I.mono (by decide)
  have h2:Room 3 _:=I.mono (by decide)
  have O:Room 4 _:=I.mono (by decide)
  have v:=I.units
  exact Bv (Il (gB (Rj (Mg (Kg (Ei Vs Vx rfl d (by decide +kernel) (Am (Ao (pv 2)) (Am (dA (n := "tuple") rfl B (by decide +kernel)) Ay))))) (Rj (Wo v (Ei Hj Kz rfl G (by decide +kernel) (Am (Ao (pv 2)) Ay)) Df) (Te (Mg (Kg (Ei Vs Vx rfl d (by decide +kernel) (Am (Jw (Ao (pv 2)) Df) (Am (dA (n := "str") rfl C (by decide +kernel)) Ay)))))))))
   (Ct (Ee Lh)) Gq)
   (Bv (BK (Ao (pv 2)) (sR (n:=3) rfl (Pn (Hd (i:=3) aW.nd rfl (Dc rfl)) (Pn (Hd (i:=4) aW.nd rfl (Dc rfl)) (Pn (Hd (i:=5) aW.nd rfl (Dc rfl)) mC)))))
   (Bv (Il (aA v (Ao (pv 3)) Tc)
   (Ct (Ee (Ek o O rfl g l m Ey (Am (Ao (pv 0)) (Am (Ao (pv 1)) (Am (Ao (pv 4)) (Am (Ao (pv 5)) Ay))))))) Gq)
   (Ct (Ee (Ze (iQ v (Ao (pv 3)) Tc) (Ze (Ek r N rfl t u q Ey (Am (Ao (pv 1)) (Am (Ao (pv 4)) (Am (Ao (pv 5)) Ay)))) (mI (iQ v (Jw (Ao (pv 1)) (Ao (pv 4))) (Jw (Ao (pv 1)) (Ao (pv 5)))))))))))
 case h =>
  (intro ds R q_; obtain ⟨h,D,T,rfl,h0,h1,Z,hD,Y⟩ := q_)
  refine ⟨rfl,?_⟩
  rcases Y with ⟨i,j,x,y,lt,hi,U,rfl,J,L⟩ | ⟨w,P,Q,hP,lP,rfl,J,L⟩
  ·unfold tP
   array_get_dec
   refine ⟨D,i,j,rfl,lt,(Ai.mp U).1,?_⟩
   array_get_dec
   refine ⟨_,Wp hi,_,Wp U,?_⟩
   array_get_dec
   by_cases c:x=y
   ·rw[decide_eq_true c]; exact J c
   ·rw[decide_eq_false c]; exact L c
  ·unfold tL
   array_get_dec
   refine ⟨h,D,w,P,rfl,h0,h1,Z,hD,Q,hP,lP,λz=>?_,λz=>?_⟩
   ·array_get_dec
    exact J z
   ·array_get_dec
    exact L z
end
open DRow
def Zp(D:List (List Int))(w:List Int):Prop:=(D.map (Lg w)).Nodup
theorem vE{D:List (List Int)}{w:List Int}:Zp D w↔D.Pairwise λx y=>Lg w x≠Lg w y:=List.pairwise_map
theorem u4{w x y:List Int}:Lg w x=Lg w y↔∀z∈w,z∈x↔z∈y:=by
 constructor
 ·intro e z c
  have a:=@mJ w x z
  have b:=@mJ w y z
  rw[e] at a
  exact ⟨λq=>(b.mp (a.mpr ⟨c,q⟩)).2,λq=>(a.mp (b.mpr ⟨c,q⟩)).2⟩
 ·intro h
  unfold Lg
  refine List.filter_congr λz c=>?_
  exact decide_eq_decide.mpr (h z c)
theorem wW{D:List (List Int)}{u w:List Int}(h:Zp D u)(s:∀x∈u,x∈w):Zp D w :=
 vE.mpr ((vE.mp h).imp λ{x y} a e=>a (u4.mpr λz b=>u4.mp e z (s z b)))
theorem xT{h:Nat}{v:List Int}(r:Dh h v)(l:v.length<h):∃u,Dh h u/\u.length=v.length+1/\∀x∈v,x∈u:=by
 obtain ⟨e,m,j⟩ : ∃e:Nat,e<h/\(e:Int)∉v:=by
  refine Ea λz=>?_
  have:=Pz (l1:=Oo h) (l2:=v) ((Ow h).imp λq=>by omega) λx a=>by
   obtain ⟨k,d,rfl⟩:=Bl.mp a
   exact Ea λq=>z ⟨k,Cu.mp d,q⟩
  unfold Oo at this
  rw[Ac,Cs] at this
  omega
 have f:=Mx (h:=h) (λk:Nat=>decide ((k:Int)∈(e:Int)::v))
 have c:∀x,x∈(((Bg h).filter λk:Nat=>decide ((k:Int)∈(e:Int)::v)).map λk:Nat=>(k:Int))↔x∈(e:Int)::v:=λx=>by
  constructor
  ·intro a
   obtain ⟨k,d,rfl⟩:=Bl.mp a
   exact of_decide_eq_true (Dm.mp d).2
  ·intro a
   have b:0<=x/\x<h:=by
    rcases An.mp a with q | q
    ·omega
    ·exact r.2 x q
   exact Bl.mpr ⟨x.toNat,Dm.mpr ⟨Cu.mpr (by omega),decide_eq_true (by rw[show ((x.toNat:Nat):Int)=x by omega]; exact a)⟩,by omega⟩
 have g:((e:Int)::v).Nodup:=Cg.mpr ⟨j,r.1.imp λq=>by omega⟩
 have i:=(Sv (f.1.imp λq=>by omega) c).2.mpr g
 exact ⟨_,f,by rw[i,Bd],λx a=>(c x).mpr (Ad _ a)⟩
theorem uD{h:Nat}{m:Nat}(f:m<=h):∀(d:Nat) {v:List Int},Dh h v->v.length+d=m->∃u,Dh h u/\u.length=m/\∀x∈v,x∈u
 | 0,v,r,e=>⟨v,r,by omega,λx a=>a⟩
 | d+1,v,r,e=>by
  obtain ⟨u,b,l,k⟩:=xT r (by omega)
  obtain ⟨g,i,j,c⟩:=uD f d b (by omega)
  exact ⟨g,i,j,λx a=>c x (k x a)⟩
theorem cw_iff {h k:Nat} {w:List Int}:w∈cw h 0 k↔w.length=k∧Dh h w:=by
 constructor
 ·intro z
  exact ⟨(cw_mem.mp z).1,cw_rise z⟩
 ·rintro ⟨a,b⟩
  exact cw_mem.mpr ⟨a,b.1,fun x c=>by have:=b.2 x c; omega⟩
structure Few(h:Nat)(D:List (List Int))(k:Nat):Prop where
 some:∃w,Dh h w/\w.length=k/\Zp D w
 least:∀v,Dh h v->Zp D v->k<=v.length
theorem Few.same{h:Nat}{D:List (List Int)}{k c:Nat}(a:Few h D k)(b:Few h D c):k=c:=by
 obtain ⟨w,r,l,p⟩:=a.some
 obtain ⟨e,d,g,f⟩:=b.some
 have:=a.least e d f
 have:=b.least w r p
 omega
theorem V0{D:List (List Int)}{u q:List Int}(a:uO D u q)(p:Zp D u):False:=by
 obtain ⟨a,b,x,y,_,lt,i,f,e⟩:=a
 have c:(D.map (Lg u))[a]? = some (Lg u x):=by rw[Br,i]; rfl
 have j:(D.map (Lg u))[b]? = some (Lg u y):=by rw[Br,f]; rfl
 obtain ⟨h,k⟩:=Ai.mp c
 obtain ⟨g,d⟩:=Ai.mp j
 exact absurd (k.trans (e.trans d.symm)) (Bx.mp p a b h g lt)
theorem pC{h k:Nat}{D:List (List Int)}{w:List Int}{P:List (List Int)}(l:k<=h)(g:w∈cw h 0 k)(b:Zp D w)(e:Bars D h k P):Few h D k:=by
 obtain ⟨c,a⟩:=cw_iff.mp g
 refine ⟨⟨w,a,c,b⟩,λv d pv=>Ea λz=>?_⟩
 obtain ⟨u,f,j,i⟩:=uD (h:=h) (m:=k - 1) (by omega) (k - 1 - v.length) d (by omega)
 obtain ⟨q,_,al⟩:=e.all (by omega) u (cw_iff.mpr ⟨j,f⟩)
 exact V0 al (wW pv i)
def kJ:PF:=λa R=>∃(h:Nat) (D:List (List Int)),a=[.int h,.list (D.map Bb)]/\1<=h/\h<=10/\D.length<=1000/\(∀c∈D,Dh h c)/\(¬ D.Nodup->R .none)/\∀k,D.Nodup->Few h D k->R (.int (k:Nat))
def tN:PF:=λa R=>∃(D:List (List Int)) (w:List Int),a=[.list (D.map Bb),Bb w]/\D.length<=1000/\w.length<=12/\Zp D w/\R (.list [])
def Yx(a:List (List (List Int))):Ae:=.list (a.map λG=>.list (G.map Bb))
theorem mX{w x y:List Int}{i:Nat}{p:Int}(h:w[i]? = some p)(e:Lg (w.take i) x=Lg (w.take i) y)(q:p∈x↔p∈y):Lg (w.take (i+1)) x=Lg (w.take (i+1)) y:=by
 obtain ⟨c,d⟩:=Ai.mp h
 rw[Gi c,d]
 refine u4.mpr λz b=>?_
 rcases Ba.mp b with a | a
 ·exact u4.mp e z a
 ·rw[Al.mp a]; exact q
section
variable{P:Bp}{w:World}{K:PySem.W.Frag}{mg:Str->Option Value}{base:Heap}
theorem lZ:FnScope ["_law_holes", "_law_deck_here", "_law_told"] ["_law_holes", "_law_deck_here"] (Cf Sk):=⟨rfl,rfl,rfl,by decide +kernel,rfl,by decide +kernel,by decide +kernel⟩
theorem jX{f a  : Addr}{u b:Cz}(F:Fun K "_law_many" "_law_many" Sk f u)(g:FnOk P w K mg base Ib 4 a b ["holes", "deck"] (Pb K (Tb)))(d:Binds K b ["holes", "deck"] [])(c:PySem.W.keepIn K (.ref a)=true)(e:mg "fewest_places" = some (.ref a))(l:mg "list" = none)(m:mg "len" = none):FnOk P w K mg base Ib 5 f u ["_law_holes", "_law_deck_here"] (Pb K (kJ)):=by
 refine' Ip (k:=4) F lZ (λI A q s H E o=>?hb) ?h
 case hb =>
  have y:Room 1 _:=o.mono (by decide)
  have Q:Room 2 _:=o.mono (by decide)
  have N:Room 3 _:=o.mono (by decide)
  have r:Room 4 _:=o.mono (by decide)
  have n:=o.units
  exact Bv (Fd (i:=2) lZ.nd rfl (Dc rfl) (Ek g r rfl e c d Ey (Am (Ao (pv 0)) (Am (Hu Wq (Yb (i:=true)) rfl l (by decide +kernel) (Am (Ao (pv 1)) Ay)) Ay))))
   (Bv (Il (aA n (Jw (Ao (pv 2)) Df) Tc)
   (Ct (Ee Yt)) Gq)
   (Ct (Ee (Ei Hj Kz rfl m (by decide +kernel) (Am (Jw (Ao (pv 2)) Df) Ay)))))
 case h =>
  (intro ds R Y; obtain ⟨h,D,rfl,Z,O,M,X,J,z⟩ := Y)
  refine ⟨rfl,?_⟩
  array_get_dec
  refine ⟨h,D,rfl,Z,O,M,X,λi j x lt S U=>?_,λk w P p T v t C=>?_⟩
  ·array_get_dec
   refine J λp=>?_
   obtain ⟨G,L⟩:=Ai.mp S
   obtain ⟨B,V⟩:=Ai.mp U
   exact Bx.mp p i j G B lt (L.trans V.symm)
  ·array_get_dec
   rw [Ac,(cw_mem.mp v).1]
   exact z k p (pC T v t C)
theorem gG:FnScope ["_law_deck_here", "_law_places", "_law_heaps_here", "_law_place", "_law_more", "_law_heap"] ["_law_deck_here", "_law_places"] (Cf Mj):=⟨rfl,rfl,rfl,by decide +kernel,rfl,by decide +kernel,by decide +kernel⟩
theorem gN{f b  : Addr}{fd c:Cz}(F:Fun K "_law_heaps" "_law_heaps" Mj f fd)(m:FnOk P w K mg base Ib 2 b c ["deck", "needles"] (Pb K (w8)))(n:Binds K c ["deck", "needles"] [])(e:PySem.W.keepIn K (.ref b)=true)(d:mg "needled" = some (.ref b))(u:mg "list" = none)(o:mg "len" = none):FnOk P w K mg base Ib 3 f fd ["_law_deck_here", "_law_places"] (Pb K (tN)):=by
 refine' Ip (k:=2) F gG (λQ A r s H E hr=>?hb) ?h
 case hb =>
  have h7:Room 1 _:=hr.mono (by decide)
  have h5:Room 2 _:=hr.mono (by decide)
  have S:=hr.units
  have h0:∀{a:Scope} (h:a={ kind:=.function,names:=[(".0",.local),("_law_part",.local)],isGenerator:=false,isCoroutine:=false }),
    CompScope (Pv Ib P w K mg base ["_law_deck_here", "_law_places", "_law_heaps_here", "_law_place", "_law_more", "_law_heap"] "_law_heaps" (Cf Mj) f Q A r s H E).nox a [] "_law_part" [] []:=by
   rintro a rfl
   exact Nd.compScope0 (by rfl) (by decide +kernel) (by rfl) (by decide +kernel) (by rfl) (by rfl)
  have h4:∀{a:Scope} (h:a={ kind:=.function,names:=[(".0",.local),("_law_heap",.local),("len",.globalImplicit)],isGenerator:=false,isCoroutine:=false }),
    CompScope (Pv Ib P w K mg base ["_law_deck_here", "_law_places", "_law_heaps_here", "_law_place", "_law_more", "_law_heap"] "_law_heaps" (Cf Mj) f Q A r s H E).nox a [] "_law_heap" [] []:=by
   rintro a rfl
   exact Nd.compScope0 (by rfl) (by decide +kernel) (by rfl) (by decide +kernel) (by rfl) (by rfl)
  exact Bv (Fd (i:=2) gG.nd rfl (Dc rfl) (Kj (Am (Hu Wq (Yb (i:=true)) rfl u (by decide +kernel) (Am (Ao (pv 0)) Ay)) Ay)))
   (Bv (Ln Dk rfl (FK (Ao (pv 1))) (Hd (i:=3) gG.nd rfl (Dc rfl))
   (Bv (Fd (i:=4) gG.nd rfl (Dc rfl) (Kj Ay))
    (Bv (Ln Dk rfl (yZ (Ao (pv 2))) (Hd (i:=5) gG.nd rfl (Dc rfl))
    (Ct (Fd (i:=4) gG.nd rfl (Dc rfl) (R5 (Ao (pv 4)) (L9 (h0 rfl) rfl (FK (Ek m h5 rfl d e n Ey (Am (Ao (pv 5)) (Am (Qk (Am (Ny (Ao (pv 3))) Ay)) Ay)))) (λ_ _ _=>Xd (Wo S (Ao (pv 0)) (Kj Ay))) (λ_ _ _=>Ao (pv 0)))))))
    (Ct (Fd (i:=2) gG.nd rfl (Dc rfl) (Ao (pv 4)))))))
   (Ct (Ee (Ni (h4 rfl) rfl (yZ (Ao (pv 2))) (λ_ _ _=>Xd (vF (Ei Hj Kz rfl o (by decide +kernel) (Am (Ao (pv 0)) Ay)) Df)) (λ_ _ _=>Ei Hj Kz rfl o (by decide +kernel) (Am (Ao (pv 0)) Ay))))))
 case h =>
  (intro ds R I; obtain ⟨D,w,rfl,lD,lw,hP,hR⟩ := I)
  refine ⟨rfl,?_⟩
  array_get_dec
  refine Sw (l:=w) (g:=Bq) rfl (λi δ=>∃(J:List (List (List Int))) (T Z C:DV),δ=⟨[.dat .sh (.list (D.map Bb)),.dat .sh (Bb w),.dat .sh (Yx J),T,Z,C],0⟩/\NP T/\NP Z/\NP C/\J.length<=2 ^ i/\∀G∈J,G.Sublist D/\∀x∈G,∀y∈G,Lg (w.take i) x=Lg (w.take i) y) ?_ ?_ ?_
  ·exact ⟨[D],_,_,_,rfl,Jy,Jy,Jy,Ah _,λG N=>by
    rw[Al.mp N]
    exact ⟨Eb _,λx _ y _=>rfl⟩⟩
  ·(intro i p _ hp I; obtain ⟨J,T,Z,C,rfl,h1,h6,t,lH,X⟩ := I)
   have li:=(Ai.mp hp).1
   have h8:2 ^ i<=2 ^ 12:=Pc (by decide) (by omega)
   unfold Yx
   array_get_dec
   refine Sw (l:=J) (g:=λG=>.list (G.map Bb)) rfl (λj δ=>∃(M:List (List (List Int))) (C:DV),δ=⟨[.dat .sh (.list (D.map Bb)),.dat .sh (Bb w),.dat .sh (Yx J),.dat .sh (.int p),.dat .sh (Yx M),C],0⟩/\NP C/\M.length<=2 * j/\∀G∈M,G.Sublist D/\∀x∈G,∀y∈G,Lg (w.take (i+1)) x=Lg (w.take (i+1)) y) ?_ ?_ ?_
   ·exact ⟨[],_,rfl,t,by decide,λG z=>nomatch z⟩
   ·(intro j G _ N I; obtain ⟨M,C,rfl,t,lM,hM⟩ := I)
    obtain ⟨L,ge⟩:=X G (Aw N)
    have lj:=(Ai.mp N).1
    have lG:=L.length_le
    have U:∀x,Pt [p] x=true↔p∈x:=λx=>by unfold Pt; simp
    have h2:∀v∈[Xf id G [p],Xy id G [p]],v.Sublist D/\∀x∈v,∀y∈v,Lg (w.take (i+1)) x=Lg (w.take (i+1)) y:=λv B=>by
     rcases An.mp B with z | z
     ·rw[z]
      refine ⟨(List.filter_sublist (l:=G)).trans L,λx hx y O=>?_⟩
      obtain ⟨x1,Y⟩:=Dm.mp hx
      obtain ⟨y1,V⟩:=Dm.mp O
      exact mX hp (ge x x1 y y1) ⟨λ_=>(U y).mp V,λ_=>(U x).mp Y⟩
     ·rw[Al.mp z]
      refine ⟨(List.filter_sublist (l:=G)).trans L,λx hx y O=>?_⟩
      obtain ⟨x1,Y⟩:=Dm.mp hx
      obtain ⟨y1,V⟩:=Dm.mp O
      refine mX hp (ge x x1 y y1) ⟨λq=>?_,λq=>?_⟩
      ·rw[show Pt [p] (id x)=true from (U x).mpr q] at Y; cases Y
      ·rw[show Pt [p] (id y)=true from (U y).mpr q] at V; cases V
    unfold Yx
    array_get_dec
    refine ⟨G,[p],rfl,by omega,?_⟩
    array_get_dec
    refine CG (l:=[Xf id G [p],Xy id G [p]]) (g:=λG=>.list (G.map Bb)) rfl (λG=>!G.isEmpty) (λG=>.list (G.map Bb)) (λv B h3 no O hn=>?_) ?_
    ·array_get_dec
     cases v with
     | nil=>exact hn rfl
     | cons x v =>
      array_get_dec
      exact O rfl
    array_get_dec
    have lf:(List.filter (λG:List (List Int)=>!G.isEmpty) [Xf id G [p],Xy id G [p]]).length<=2:=Nu _ _
    refine ⟨by rw[Ac,Ac]; exact Co (Nat.add_le_add_left (Nu _ _) _) (by show M.length+2<=1000000; omega),M++List.filter (λG:List (List Int)=>!G.isEmpty) [Xf id G [p],Xy id G [p]],.dat .sh (.list (G.map Bb)),nO (by rw[Bn]) rfl,Ga,by rw[Bh]; omega,λv B=>?_⟩
    rcases Ba.mp B with z | z
    ·exact hM v z
    ·exact h2 v (Dm.mp z).1
   ·(intro _ I; obtain ⟨M,C,rfl,t,lM,hM⟩ := I)
    array_get_dec
    refine ⟨M,_,_,_,rfl,Ga,Ga,t,by rw[bV]; omega,hM⟩
  ·(intro _ I; obtain ⟨J,T,Z,C,rfl,h1,h6,t,lH,X⟩ := I)
   rw[Gy] at X
   unfold Yx
   array_get_dec
   refine qF (l:=J) (g:=λG=>.list (G.map Bb)) rfl (λ_=>false) (λG=>.int (G.length:Int)) (λG N h3 no O hn=>?_) ?_
   ·obtain ⟨L,ge⟩:=X G N
    have l1:G.length<=1:=by
     match G,L,ge with
     | [],_,_=>exact Ds _
     | [_],_,_=>exact Ah _
     | x::y::G,L,ge =>
      have:=(vE.mp hP).sublist L
      exact absurd (ge x Ab y (Ad _ Ab)) ((Ax.mp this).1 y Ab)
    array_get_dec
    rw[Ac,decide_eq_false (by omega)]
    array_get_dec
    exact hn rfl
   rw[show J.filter (λ_=>false)=[] by simp]
   array_get_dec
   exact hR
end
def MH(h:Nat)(D:List (List Int))(m:Ae):Prop:=(¬ D.Nodup/\m=.none)\/∃k:Nat,D.Nodup/\Few h D k/\m=.int k
theorem N0{h k:Nat}{D:List (List Int)}{f σ τ:List Int->List Int}(g:Few h D k)(A:∀w,Dh h w->Dh h (σ w)/\(σ w).length=w.length/\∀x∈D,∀y∈D,Lg (σ w) (f x)=Lg (σ w) (f y)->Lg w x=Lg w y)(B:∀v,Dh h v->Dh h (τ v)/\(τ v).length<=v.length/\∀x∈D,∀y∈D,Lg (τ v) x=Lg (τ v) y->Lg v (f x)=Lg v (f y)):Few h (D.map f) k:=by
 obtain ⟨w,d,p,m⟩:=g.some
 obtain ⟨i,q,j⟩:=A w d
 refine ⟨⟨σ w,i,by omega,vE.mpr (Hl.mpr ((vE.mp m).imp_of_mem λ{x y} b a c e=>c (j x b y a e)))⟩,λv l pv=>?_⟩
 obtain ⟨n,r,o⟩:=B v l
 have:=g.least (τ v) n (vE.mpr ((List.pairwise_map.mp (vE.mp pv)).imp_of_mem λ{x y} b a c e=>c (o x b y a e)))
 omega
theorem i6{D:List (List Int)}{f:List Int->List Int}(h:∀x∈D,∀y∈D,f x=f y->x=y):(D.map f).Nodup↔D.Nodup :=
 ⟨λz=>(List.pairwise_map.mp z).imp λ{x y} a e=>a (by rw[e]),λz=>Hl.mpr (z.imp_of_mem λ{x y} b c a e=>a (h x b y c e))⟩
theorem zF{h:Nat}{D:List (List Int)}{m:Ae}{f σ τ:List Int->List Int}(d:MH h D m)(b:∀x∈D,∀y∈D,f x=f y->x=y)(A:∀w,Dh h w->Dh h (σ w)/\(σ w).length=w.length/\∀x∈D,∀y∈D,Lg (σ w) (f x)=Lg (σ w) (f y)->Lg w x=Lg w y)(B:∀v,Dh h v->Dh h (τ v)/\(τ v).length<=v.length/\∀x∈D,∀y∈D,Lg (τ v) x=Lg (τ v) y->Lg v (f x)=Lg v (f y)):MH h (D.map f) m:=by
 rcases d with ⟨a,e⟩ | ⟨k,a,c,e⟩
 ·exact .inl ⟨λz=>a ((i6 b).mp z),e⟩
 ·exact .inr ⟨k,(i6 b).mpr a,N0 c A B,e⟩
theorem CF{h:Nat}{D:List (List Int)}{m:Ae}(n:MH h D m):MH h D.reverse m:=by
 have i:∀w,Zp D.reverse w↔Zp D w:=λw=>by
  rw[vE,vE,List.pairwise_reverse]
  exact ⟨λz=>z.imp λf e=>f e.symm,λz=>z.imp λf e=>f e.symm⟩
 have j:D.reverse.Nodup↔D.Nodup:=(Iv D).nodup_iff
 rcases n with ⟨d,e⟩ | ⟨k,d,g,e⟩
 ·exact .inl ⟨λz=>d (j.mp z),e⟩
 ·obtain ⟨w,a,b,c⟩:=g.some
  exact .inr ⟨k,j.mpr d,⟨⟨w,a,b,(i w).mpr c⟩,λv l pv=>g.least v l ((i v).mp pv)⟩,e⟩
def gJ(h:Nat)(m x:List Int):List Int:=((Bg h).filter λk:Nat=>decide ((k:Int)∈x) != decide ((k:Int)∈m)).map λk:Nat=>(k:Int)
theorem bQ{h:Nat}{m x:List Int}{z:Int}(b:0<=z/\z<h):z∈gJ h m x↔¬ (z∈x↔z∈m):=by
 unfold gJ
 constructor
 ·intro a
  obtain ⟨k,d,rfl⟩:=Bl.mp a
  have:=(Dm.mp d).2
  intro e
  have c:decide ((k:Int)∈x)=decide ((k:Int)∈m):=decide_eq_decide.mpr e
  rw[c] at this
  simp at this
 ·intro a
  refine Bl.mpr ⟨z.toNat,Dm.mpr ⟨Cu.mpr (by omega),?_⟩,by omega⟩
  rw[show ((z.toNat:Nat):Int)=z by omega]
  by_cases p:z∈x <;> by_cases q:z∈m <;> simp [p,q] at a ⊢
theorem EF{h:Nat}{D:List (List Int)}{m:Ae}(q:List Int)(j:∀c∈D,Dh h c)(o:MH h D m):MH h (D.map (gJ h q)) m:=by
 have g:∀(w:List Int),Dh h w->∀x y:List Int,(Lg w (gJ h q x)=Lg w (gJ h q y)↔Lg w x=Lg w y):=λw d x y=>by
  rw[u4,u4]
  constructor
  ·intro e z f
   have:=e z f
   rw[bQ (d.2 z f),bQ (d.2 z f)] at this
   by_cases a:z∈x <;> by_cases b:z∈y <;> by_cases c:z∈q <;> simp [a,b,c] at this ⊢
  ·intro e z f
   rw[bQ (d.2 z f),bQ (d.2 z f),e z f]
 refine zF (σ:=id) (τ:=id) o (λx r y n e=>?_) (λw d=>⟨d,rfl,λx _ y _ e=>(g w d x y).mp e⟩) (λv i=>⟨i,Ah _,λx _ y _ e=>(g v i x y).mpr e⟩)
 have p:Dh h (Oo h):=⟨Ow h,λz f=>by obtain ⟨k,l,rfl⟩:=Bl.mp f; have:=Cu.mp l; omega⟩
 have:=(g (Oo h) p x y).mp (by rw[e])
 rw[Mu (j x r),Mu (j y n)] at this
 exact this
def gT(t:List Int)(p:Int):Int:=t.getD p.toNat 0
structure Turn(h:Nat)(t:List Int):Prop where
 perm:t.Perm (Oo h)
theorem Turn.len{h:Nat}{t:List Int}(T:Turn h t):t.length=h:=by rw[T.perm.length_eq]; unfold Oo; simp
theorem Turn.at{h:Nat}{t:List Int}(T:Turn h t){p:Int}(b:0<=p/\p<h):t[p.toNat]? = some (gT t p)/\0<=gT t p/\gT t p<h:=by
 have l:=T.len
 have e:t[p.toNat]? = some (gT t p):=by
  unfold gT
  rw[La,Bk (by omega)]
  rfl
 obtain ⟨k,a,c⟩:=Bl.mp (T.perm.mem_iff.mp (Aw e))
 have:=Cu.mp a
 exact ⟨e,by omega,by omega⟩
theorem Turn.inj{h:Nat}{t:List Int}(T:Turn h t){p q:Int}(b:0<=p/\p<h)(c:0<=q/\q<h)(e:gT t p=gT t q):p=q:=by
 have a:t.Nodup:=T.perm.nodup_iff.mpr ((Ow h).imp λq=>by omega)
 obtain ⟨g,i⟩:=Ai.mp (T.at b).1
 obtain ⟨f,d⟩:=Ai.mp (T.at c).1
 rcases Nm p.toNat q.toNat with z | z | z
 ·exact absurd (i.trans (e.trans d.symm)) (Bx.mp a _ _ g f z)
 ·omega
 ·exact absurd (d.trans (e.symm.trans i.symm)) (Bx.mp a _ _ f g z)
theorem W4{h:Nat}{D:List (List Int)}{m:Ae}{t:List Int}(T:Turn h t){f:List Int->List Int}(n:∀c∈D,Dh h c)(E:∀x∈D,∀z,z∈f x↔∃p∈x,gT t p=z)(H:MH h D m):MH h (D.map f) m:=by
 have o:∀x∈D,∀p:Int,0<=p/\p<h->(gT t p∈f x↔p∈x):=λx i p b=>by
  rw[E x i]
  exact ⟨λ⟨I,s,e⟩=>by rw[<- T.inj ((n x i).2 I s) b e]; exact s,λd=>⟨p,d,rfl⟩⟩
 have G:∀(w:List Int),Dh h w->∀z,z∈(((Bg h).filter λk:Nat=>decide ((k:Int)∈w.map (gT t))).map λk:Nat=>(k:Int))↔z∈w.map (gT t):=λw g z=>by
  constructor
  ·intro j
   obtain ⟨k,u,rfl⟩:=Bl.mp j
   exact of_decide_eq_true (Dm.mp u).2
  ·intro j
   obtain ⟨p,d,e⟩:=Bl.mp j
   have b:=(T.at (g.2 p d)).2
   rw[e] at b
   exact Bl.mpr ⟨z.toNat,Dm.mpr ⟨Cu.mpr (by omega),decide_eq_true (by rw[show ((z.toNat:Nat):Int)=z by omega]; exact j)⟩,by omega⟩
 have r:∀(v:List Int) (p:Int),p∈(((Bg h).filter λk:Nat=>decide (gT t (k:Int)∈v)).map λk:Nat=>(k:Int))↔(0<=p/\p<h)/\gT t p∈v:=λv p=>by
  constructor
  ·intro j
   obtain ⟨k,u,rfl⟩:=Bl.mp j
   have:=Cu.mp (Dm.mp u).1
   exact ⟨by omega,of_decide_eq_true (Dm.mp u).2⟩
  ·rintro ⟨b,d⟩
   exact Bl.mpr ⟨p.toNat,Dm.mpr ⟨Cu.mpr (by omega),decide_eq_true (by rw[show ((p.toNat:Nat):Int)=p by omega]; exact d)⟩,by omega⟩
 refine zF (σ:=λw=>((Bg h).filter λk:Nat=>decide ((k:Int)∈w.map (gT t))).map λk:Nat=>(k:Int)) (τ:=λv=>((Bg h).filter λk:Nat=>decide (gT t (k:Int)∈v)).map λk:Nat=>(k:Int)) H (λx i y l e=>?_) (λw g=>⟨Mx _,?_,λx i y l e=>?_⟩) λv J=>⟨Mx _,?_,λx i y l e=>?_⟩
 ·refine cB (n x i).1 (n y l).1 λp=>?_
  constructor
  ·intro d
   have b:=(n x i).2 p d
   exact (o y l p b).mp (by rw[<- e]; exact (o x i p b).mpr d)
  ·intro d
   have b:=(n y l).2 p d
   exact (o x i p b).mp (by rw[e]; exact (o y l p b).mpr d)
 ·have A:(w.map (gT t)).Nodup:=Hl.mpr (g.1.imp_of_mem λ{a b} B C lt e=>by have:=T.inj (g.2 a B) (g.2 b C) e; omega)
  have:=(Sv ((Mx (h:=h) _).1.imp λq=>by omega) (G w g)).2.mpr A
  exact this.trans (Ac _)
 ·refine u4.mpr λp d=>?_
  have b:=g.2 p d
  have:=u4.mp e (gT t p) ((G w g _).mpr (Bl.mpr ⟨p,d,rfl⟩))
  rw[o x i p b,o y l p b] at this
  exact this
 ·have A:((((Bg h).filter λk:Nat=>decide (gT t (k:Int)∈v)).map λk:Nat=>(k:Int)).map (gT t)).Nodup:=Hl.mpr ((Mx (h:=h) _).1.imp_of_mem λ{a b} B C lt e=>by have:=T.inj ((r v a).mp B).1 ((r v b).mp C).1 e; omega)
  have:=Pz A λz j=>by
   obtain ⟨p,d,rfl⟩:=Bl.mp j
   exact ((r v p).mp d).2
  rw[Ac] at this
  exact this
 ·refine u4.mpr λz j=>?_
  rw[E x i,E y l]
  constructor
  ·(intro F; obtain ⟨p,d,rfl⟩ := F)
   exact ⟨p,(u4.mp e p ((r v p).mpr ⟨(n x i).2 p d,j⟩)).mp d,rfl⟩
  ·(intro F; obtain ⟨p,d,rfl⟩ := F)
   exact ⟨p,(u4.mp e p ((r v p).mpr ⟨(n y l).2 p d,j⟩)).mpr d,rfl⟩
def uI:DF:=λb n R=>∃(h:Nat) (D:List (List Int)) (m:Ae),b=[.int h,.list (D.map Bb),m]/\1<=h/\h<=6/\D.length<=12/\(∀c∈D,Dh h c)/\n<=1000/\MH h D m/\∀a,n<=a->a<=n+20->R (.bool true) a
section
variable{P:Bp}{w:World}{K:PySem.W.Frag}{mg:Str->Option Value}{base:Heap}
theorem Xw:FnScope ["_law_draws_here", "_law_holes", "_law_deck_here", "_law_many_here", "_law_turned", "_law_k", "_law_mask", "_law_others", "_law_other"] ["_law_draws_here", "_law_holes", "_law_deck_here", "_law_many_here"] (Cf Gp):=⟨rfl,rfl,rfl,by decide +kernel,rfl,by decide +kernel,by decide +kernel⟩
theorem Xx{f r o u  : Addr}{fd L C M:Cz}(F:Fun K "_law_otherwise" "_law_otherwise" Gp f fd)(h3:FnOk P w K mg base Ib 1 r L ["_law_draws_here"] (fO K Ss))(Y:Binds K L ["_law_draws_here"] [])(h2:PySem.W.keepIn K (.ref r)=true)(Z:mg "_law_next" = some (.ref r))(V:FnOk P w K mg base Ib 2 o C ["_law_draws_here", "_law_holes"] (fO K (jV)))(O:Binds K C ["_law_draws_here", "_law_holes"] [])(Q:PySem.W.keepIn K (.ref o)=true)(U:mg "_law_small" = some (.ref o))(h4:FnOk P w K mg base Ib 5 u M ["_law_holes", "_law_deck_here"] (Pb K (kJ)))(h6:Binds K M ["_law_holes", "_law_deck_here"] [])(h7:PySem.W.keepIn K (.ref u)=true)(h5:mg "_law_many" = some (.ref u))(I:mg "range" = none)(S:mg "sorted" = none)(J:mg "tuple" = none):FnOk P w K mg base Ib 6 f fd ["_law_draws_here", "_law_holes", "_law_deck_here", "_law_many_here"] (fO K (uI)):=by
 refine' Xb (k:=5) F Xw (λh9 A N s H E hr=>?hb) ?h
 case hb =>
  have k4:Room 1 _:=hr.mono (by decide)
  have q4:Room 2 _:=hr.mono (by decide)
  have q7:Room 3 _:=hr.mono (by decide)
  have q8:Room 4 _:=hr.mono (by decide)
  have q1:Room 5 _:=hr.mono (by decide)
  have X:=hr.units
  have k5:∀{d:Scope} (h:d={ kind:=.function,names:=[(".0",.local),("_law_card",.local),("tuple",.globalImplicit),("sorted",.globalImplicit),("_law_turned",.free)],isGenerator:=false,isCoroutine:=false }),
    CompScope (Pv Ib P w K mg base ["_law_draws_here", "_law_holes", "_law_deck_here", "_law_many_here", "_law_turned", "_law_k", "_law_mask", "_law_others", "_law_other"] "_law_otherwise" (Cf Gp) f h9 A N s H E).nox d [("_law_turned",s.heap.objs.size+2)] "_law_card" ["_law_turned"] [4]:=by
   rintro d rfl
   refine ⟨by rfl,.inl (by decide +kernel),by rfl,by decide +kernel,.inl rfl,λy c h=>?_,by rfl,by decide +kernel,rfl,λk y j v B=>?_⟩
   ·have z:=Ft h
    simp only[An,Ce,or_false,Gv] at z
    obtain ⟨rfl,rfl⟩:=z; rfl
   ·match k,v,B with
    | 0,v,B=>cases v; cases B; exact ⟨rfl,rfl,by first | exact .inl rfl | exact .inr rfl⟩
    | k+1,v,B=>cases v
  have q3:∀{d:Scope} (h:d={ kind:=.function,names:=[(".0",.local),("_law_place",.local),("_law_turned",.free)],isGenerator:=false,isCoroutine:=false }) (h8:List Addr) (s0:Ak) (H0:Hp),
    CompScope (Gx (Pv Ib P w K mg base ["_law_draws_here", "_law_holes", "_law_deck_here", "_law_many_here", "_law_turned", "_law_k", "_law_mask", "_law_others", "_law_other"] "_law_otherwise" (Cf Gp) f h9 A N s H E).nox { kind:=.function,names:=[(".0",.local),("_law_card",.local),("tuple",.globalImplicit),("sorted",.globalImplicit),("_law_turned",.free)],isGenerator:=false,isCoroutine:=false } [("_law_turned",s.heap.objs.size+2)] ["_law_card", "_law_turned"] h8 s0 H0) d [("_law_turned",s.heap.objs.size+2)] "_law_place" ["_law_turned"] [1]:=by
   rintro d rfl h8 s0 H0
   refine ⟨by rfl,.inl (by decide +kernel),by rfl,by decide +kernel,.inl rfl,λy c h=>?_,by rfl,by decide +kernel,rfl,λk y j v B=>?_⟩
   ·have z:=Ft h
    simp only[An,Ce,or_false,Gv] at z
    obtain ⟨rfl,rfl⟩:=z; rfl
   ·match k,v,B with
    | 0,v,B=>cases v; cases B; exact ⟨rfl,rfl,by first | exact .inl rfl | exact .inr rfl⟩
    | k+1,v,B=>cases v
  have q6:∀{d:Scope} (h:d={ kind:=.function,names:=[(".0",.local),("_law_card",.cell),("tuple",.globalImplicit),("range",.globalImplicit),("_law_holes",.free),("_law_mask",.free)],isGenerator:=false,isCoroutine:=false }),
    CompScope (Pv Ib P w K mg base ["_law_draws_here", "_law_holes", "_law_deck_here", "_law_many_here", "_law_turned", "_law_k", "_law_mask", "_law_others", "_law_other"] "_law_otherwise" (Cf Gp) f h9 A N s H E).nox d [("_law_mask",s.heap.objs.size+3),("_law_holes",s.heap.objs.size+1)] "_law_card" ["_law_holes", "_law_mask"] [1,6]:=by
   rintro d rfl
   refine ⟨by rfl,.inr ⟨"_law_card",λ_=>rfl,rfl,by decide +kernel⟩,by rfl,by decide +kernel,.inr rfl,λy c h=>?_,by rfl,by decide +kernel,rfl,λk y j v B=>?_⟩
   ·have z:=Ft h
    simp only[An,Ce,or_false,Gv] at z
    rcases z with ⟨rfl,rfl⟩ | ⟨rfl,rfl⟩ <;> rfl
   ·match k,v,B with
    | 0,v,B=>cases v; cases B; exact ⟨rfl,rfl,by first | exact .inl rfl | exact .inr rfl⟩
    | 1,v,B=>cases v; cases B; exact ⟨rfl,rfl,by first | exact .inl rfl | exact .inr rfl⟩
    | k+2,v,B=>cases v
  have q0:∀{d:Scope} (h:d={ kind:=.function,names:=[(".0",.local),("_law_k",.local),("_law_card",.free),("_law_mask",.free)],isGenerator:=false,isCoroutine:=false }) (h8:List Addr) (s0:Ak) (H0:Hp),
    CompScope (Gx (Pv Ib P w K mg base ["_law_draws_here", "_law_holes", "_law_deck_here", "_law_many_here", "_law_turned", "_law_k", "_law_mask", "_law_others", "_law_other"] "_law_otherwise" (Cf Gp) f h9 A N s H E).nox { kind:=.function,names:=[(".0",.local),("_law_card",.cell),("tuple",.globalImplicit),("range",.globalImplicit),("_law_holes",.free),("_law_mask",.free)],isGenerator:=false,isCoroutine:=false } [("_law_mask",s.heap.objs.size+3),("_law_holes",s.heap.objs.size+1)] ["_law_card", "_law_holes", "_law_mask"] h8 s0 H0) d [("_law_mask",s.heap.objs.size+3),("_law_card",s0.heap.objs.size+1)] "_law_k" ["_law_card", "_law_mask"] [0,2]:=by
   rintro d rfl h8 s0 H0
   refine ⟨by rfl,.inl (by decide +kernel),by rfl,by decide +kernel,.inl rfl,λy c h=>?_,by rfl,by decide +kernel,rfl,λk y j v B=>?_⟩
   ·have z:=Ft h
    simp only[An,Ce,or_false,Gv] at z
    rcases z with ⟨rfl,rfl⟩ | ⟨rfl,rfl⟩ <;> rfl
   ·match k,v,B with
    | 0,v,B=>cases v; cases B; exact ⟨rfl,rfl,by first | exact .inl rfl | exact .inr rfl⟩
    | 1,v,B=>cases v; cases B; exact ⟨rfl,rfl,by first | exact .inl rfl | exact .inr rfl⟩
    | k+2,v,B=>cases v
  exact Bv (Ng (i:=4) Xw.nd rfl (Va rfl) (Kj Ay))
   (Bv (Ln Dk rfl (Kt rfl I (Am (Ao (pv 1)) Ay)) (Hd (i:=5) Xw.nd rfl (Dc rfl))
   (Ct (wZ (pv 4) (Mh (Hi h3 k4 rfl Z h2 Y Ey (pv 0) Ay) (Sm (Ao (pv 5)) Df)) (Ao (pv 5)))))
   (Bv (Fd (i:=6) Xw.nd rfl (Va rfl) (Hi V q4 rfl U Q O Ey (pv 0) (Am (Ao (pv 1)) Ay)))
   (Bv (Ng (i:=7) Xw.nd rfl (Dc rfl) (Kj (Am (Q1 (Ao (pv 2)) (IM BV Fw) (λ_ _ _ h=>⟨_,rfl,h⟩)) (Am (Ni (k5 rfl) rfl (yZ (Ao (pv 2))) (λ_ _ _=>Np) (λ_ _ _=>Hu Qw (Rg (i:=true)) rfl J (by decide +kernel) (Am (Ei kC z0 rfl S (by decide +kernel) (Am (Ni (q3 rfl _ _ _) rfl (FK (Ao (pv 0))) (λ_ _ _=>Np) (λ_ _ _=>Jw (Ao (pv 1)) (Ao (pv 0)))) Ay)) Ay))) Ay))))
   (Bv (sE (pv 7) (Ni (q6 rfl) rfl (yZ (Ao (pv 2))) (λ_ _ _=>Np) (λ_ _ _=>Hu Qw (Rg (i:=true)) rfl J (by decide +kernel) (Am (Ni (q0 rfl _ _ _) rfl (Kt rfl I (Am (Ao (pv 1)) Ay)) (λ_ _ _=>Xd (Wo X (uH X (Ao (pv 0)) (Ao (pv 1))) (uH X (Ao (pv 0)) (Ao (pv 2))))) (λ_ _ _=>Ao (pv 0))) Ay))))
   (Bv (Ln Dk rfl (yZ (vX (pv 7))) (Hd (i:=8) Xw.nd rfl (Dc rfl))
   (Ct (Il (Wo X (Ek h4 q1 rfl h5 h7 h6 Ey (Am (Ao (pv 1)) (Am (Ao (pv 8)) Ay))) (Ao (pv 3)))
    (Ct (Ee Lh)) Gq)))
   (Ct (Ee Lh)))))))
 case h =>
  (intro ds n R q_; obtain ⟨h,D,m,rfl,h0,h1,lD,hD,hn,hM,hR⟩ := q_)
  refine ⟨rfl,?_⟩
  array_get_dec
  refine ⟨by omega,by omega,?_⟩
  rw[Dl]
  refine Sw (l:=Bg h) (g:=λi:Nat=>.int i) rfl (λi δ=>∃(t:List Int) (v5:DV),δ=⟨[.drw,.dat .sh (.int h),.dat .sh (.list (D.map Bb)),.dat .sh m,.dat .ow (.list (t.map Bq)),v5,.un,.un,.un],n+i⟩/\NP v5/\t.Perm (Oo i)) ?_ ?_ ?_
  ·exact ⟨[],_,rfl,Jy,Gw _⟩
  ·(intro i a _ ha q_; obtain ⟨t,v5,rfl,k2,pt⟩ := q_)
   obtain ⟨rfl,hi⟩:=Re ha
   have lt:t.length=a:=by rw[pt.length_eq]; unfold Oo; simp
   array_get_dec
   refine ⟨rfl,by omega,λr1=>?_⟩
   have b1:=Qj r1 (b:=(a:Int)+1) (by omega)
   array_get_dec
   refine ⟨by omega,by rw[Ac]; omega,by omega,by omega,Oc t (r1 % ((a:Int)+1)).toNat a,.dat .sh (.int a),nO ?_ (by omega),Ga,?_⟩
   ·unfold Oc
    rw[Bn,Au,Yl,Ym]
   ·rw[xN]
    unfold Oc
    refine (Gz).trans ?_
    rw[Ij]
    exact (Pd _ pt).trans (Em (l₁:=[(a:Int)]) (l₂:=Oo a))
  ·(intro _ q_; obtain ⟨t,v5,rfl,k2,pt⟩ := q_)
   rw[Cs] at pt ⊢
   have T:Turn h t:=⟨pt⟩
   array_get_dec
   refine ⟨h,rfl,by omega,by omega,by omega,λq rq=>?_⟩
   array_get_dec
   have q2:∀c∈D,c.length<=60:=λc hc=>Vv ((hD c hc).up (show (h:Int)<=60 by omega))
   refine iK (l:=D) (g:=Bb) rfl (λc=>Bb (Sb (c.map (gT t)))) (λc hc q5 no hy=>?_) ?_
   ·array_get_dec
    refine iK (l:=c) (g:=Bq) rfl (λp=>.int (gT t p)) (λp hp k3 k9 k0=>?_) ?_
    ·have b:=(hD c hc).2 p hp
     have ea:=(T.at b).1
     obtain ⟨pn,rfl⟩ : ∃pn:Nat,p=(pn:Int):=⟨p.toNat,by omega⟩
     rw[Dl] at ea
     have B:Xu (t.map Bq) (pn:Int)=some (.int (gT t pn)):=lK (j:=pn) (by rw[Br,ea]; rfl)
     array_get_dec
     refine ⟨_,B,?_⟩
     array_get_dec
     exact k0
    array_get_dec
    refine ⟨c.map (gT t),by rw[Eh]; rfl,by rw[Ac]; have:=q2 c hc; omega,?_⟩
    array_get_dec
    exact hy
   array_get_dec
   refine iK (l:=D) (g:=Bb) rfl (λc=>Bb (gJ h q c)) (λc hc q5 no hy=>?_) ?_
   ·array_get_dec
    refine ⟨by omega,by omega,?_⟩
    rw[Dl]
    refine qF (l:=Bg h) (g:=λk:Nat=>.int k) rfl (λk:Nat=>decide ((k:Int)∈c) != decide ((k:Int)∈q)) (λk:Nat=>.int k) (λk hk k3 k9 k0 k8=>?_) ?_
    ·array_get_dec
     refine kZ (λz=>?_) (λz=>?_)
     ·array_get_dec
      exact k0 z
     ·exact k8 z
    unfold gJ at hy
    rw[show Bb (((Bg h).filter λk:Nat=>decide ((k:Int)∈c) != decide ((k:Int)∈q)).map λk:Nat=>(k:Int))=.tuple (((Bg h).filter λk:Nat=>decide ((k:Int)∈c) != decide ((k:Int)∈q)).map λk:Nat=>.int (k:Int)) by unfold Bb; rw[Eh]; rfl] at hy
    array_get_dec
    exact hy
   array_get_dec
   refine ⟨by simp [npk,k2 _],?_⟩
   have fm:∀x∈D,∀z,z∈Sb (x.map (gT t))↔∃p∈x,gT t p=z:=λx hx z=>by
    rw[(Pm _).mem_iff,List.mem_map]
   have fr:∀x∈D,Dh h (Sb (x.map (gT t))):=λx hx=>by
    have rx:=hD x hx
    have nd:(x.map (gT t)).Nodup:=Hl.mpr (rx.1.imp_of_mem λ{a b} ha hb lt e=>by have:=T.inj (rx.2 a ha) (rx.2 b hb) e; omega)
    refine ⟨Yv ((Pm _).nodup_iff.mpr nd) (cM _),λz hz=>?_⟩
    obtain ⟨p,hp,rfl⟩:=(fm x hx z).mp hz
    exact (T.at (rx.2 p hp)).2
   have g1:MH h D.reverse m:=CF hM
   have g2:MH h (D.map λc=>Sb (c.map (gT t))) m:=W4 T hD fm hM
   have g3:MH h (D.map (gJ h q)) m:=EF q hD hM
   refine Sw (l:=[D.reverse,D.map λc=>Sb (c.map (gT t)),D.map (gJ h q)]) (g:=λG=>.list (G.map Bb)) (by
    rw[Au,Au,Au,Nc,List.map_reverse,Eh,Eh]
    rfl) (λi δ=>∃(v8:DV),δ=⟨[.drw,.dat .sh (.int h),.dat .sh (.list (D.map Bb)),.dat .sh m,.dat .ow (.list (t.map Bq)),v5,.dat .sh (Bb q),.dat .sh (.list [.list (D.map Bb).reverse,.list (D.map λc=>Bb (Sb (c.map (gT t)))),.list (D.map λc=>Bb (gJ h q c))]),v8],n+h+1⟩/\NP v8) ?_ ?_ ?_
   ·exact ⟨_,rfl,Jy⟩
   ·(intro j G _ hG q_; obtain ⟨v8,rfl,k6⟩ := q_)
    obtain ⟨gl,gr,gm⟩ : G.length<=12/\(∀c∈G,Dh h c)/\MH h G m:=by
     have:=Aw hG
     simp only[An,Ce,or_false] at this
     rcases this with rfl | rfl | rfl
     ·exact ⟨by rw[Hv]; exact lD,λc hc=>hD c (Li.mp hc),g1⟩
     ·refine ⟨by rw[Ac]; exact lD,λc hc=>?_,g2⟩
      obtain ⟨x,hx,rfl⟩:=Bl.mp hc
      exact fr x hx
     ·refine ⟨by rw[Ac]; exact lD,λc hc=>?_,g3⟩
      obtain ⟨x,hx,rfl⟩:=Bl.mp hc
      exact Mx _
    array_get_dec
    refine ⟨h,G,rfl,h0,by omega,by omega,gr,λnd=>?_,λk nd fw=>?_⟩
    ·rcases gm with ⟨_,rfl⟩ | ⟨k,k1,_,_⟩
     ·array_get_dec
      rw[show Ep Uz Uz=true from rfl]
      array_get_dec
      exact ⟨_,rfl,Ga⟩
     ·exact absurd k1 nd
    ·rcases gm with ⟨k1,_⟩ | ⟨k',_,k7,rfl⟩
     ·exact absurd nd k1
     ·obtain rfl:=fw.same k7
      array_get_dec
      exact ⟨_,rfl,Ga⟩
   ·(intro _ q_; obtain ⟨v8,rfl,k6⟩ := q_)
    array_get_dec
    exact ⟨by omega,hR _ (by omega) (by omega)⟩
end
end K58
namespace DL
open PySem PySem.Spec PyProof.Rows L2 Nd
end DL
namespace PySem
open Builtin
theorem Qs:fillsNumberSlot (.type "tuple") "mul" = pure false :=
 fillsNumberSlot_seq (id := "tuple.__mul__") (r:=some (.builtin "tuple.__rmul__")) FS.lookup (by decide +kernel) FJ.lookup (by decide +kernel)
theorem Xn:seqRepeat? (.type "tuple")=pure (some (.builtin "tuple.__mul__")):=by
 unfold seqRepeat?
 rw[seqSlot_of (T := "tuple") (name := "__mul__") (id := "tuple.__mul__") FS.lookup (by decide +kernel),seqSlot_of (T := "tuple") (name := "__rmul__") (id := "tuple.__rmul__") FJ.lookup (by decide +kernel)]
 rfl
theorem Nn(a:Int)(t:Tok)(l:Addr)(b:Array Value)(n:Nat)(f:Option Addr)(c:Array (Option Value)):Meets (Builtin.«int.__rmul__» ⟨[.int a t,.ref l],[]⟩) (λ_ R s=>s.heap.get? l=some { cls:=.type "tuple",dict:=f,data:=.seq b n,slots:=c }/\R (.ok (.ret Value.notImplemented)) s) :=
 .of_wp λe w A R s h=>by obtain ⟨k,g,d,i,c⟩:=s; obtain ⟨j,h⟩:=h; wp_walk; exact ⟨_,rfl,h⟩
theorem L8(l:Addr)(a:Array Value)(n:Nat)(e:Option Addr)(b:Array (Option Value))(t:Tok):Meets (Builtin.«tuple.__mul__» ⟨[.ref l,.int 1 t],[]⟩) (λ_ R s=>s.heap.get? l=some { cls:=.type "tuple",dict:=e,data:=.seq a n,slots:=b }/\R (.ok (.ret (.ref l))) s) :=
 .of_wp λc w A R s h=>by obtain ⟨j,g,d,f,b⟩:=s; obtain ⟨i,h⟩:=h; wp_walk; exact ⟨_,rfl,h⟩
theorem j7(l:Addr)(a:Array Value)(n:Nat)(e:Option Addr)(b:Array (Option Value))(t:Tok)(f:a.isEmpty=false):Meets (Builtin.«tuple.__mul__» ⟨[.ref l,.int 0 t],[]⟩) (λ_ R s=>s.heap.get? l=some { cls:=.type "tuple",dict:=e,data:=.seq a n,slots:=b }/\R (.ok (.ret (.ref s.heap.objs.size))) { s with heap:=s.heap.push { cls:=.type "tuple",data:=.seq #[] } }) :=
 .of_wp λc w A R s h=>by obtain ⟨k,g,d,i,b⟩:=s; obtain ⟨j,h⟩:=h; wp_walk; exact ⟨_,rfl,h⟩
end PySem
namespace L2
open PySem PySem.Spec PyProof.Rows
section
variable{X:Cx}
def Y0(K:PySem.W.Frag):R2:=λx y H Q=>∃a k b,x=.ref a/\y=.int k/\Vp K H a b/\b≠[]/\((k=1/\Q (.ref a) H)\/(k=0/\∀p,H p=none->Q (.ref p) (upd H p (.tup []))))
theorem O6:Xq X (Kw .Mult) (Y0 X.K):=by
 intro p s L H x y v u Q I z w h
 obtain ⟨a,k,J,rfl,rfl,r,l,q⟩:=h
 cases z
 obtain ⟨t,rfl⟩:=w
 obtain ⟨c,C,E,_⟩:=I.tuple r
 obtain ⟨⟨A,f,j,d⟩,e,D,n,G⟩:=id E
 have m:A=.type "tuple" := D
 have g:j=.seq c.toArray n:=G
 subst m g
 have B:c.toArray.isEmpty=false:=by
  cases c with
  | nil=>exact absurd (C.nil_iff.mp rfl) l
  | cons a b=>rfl
 rcases q with ⟨rfl,q⟩ | ⟨rfl,q⟩
 ·exact yV (T := "tuple") (U := "int") (by decide) ⟨_,e,rfl⟩ (λi=>fQ i 1 t) Qs F.fills_int_mul Wf Xn FT.lookup
   (Pq Wf (fQ s 1 t) F.entry_int_rmul (F.args_int_rmul_2 _ _) (Nn 1 t a c.toArray n f d)
    ⟨e,rfl,⟨_,e,rfl⟩,Pq PySem.F.slot_tuple_mul ⟨_,e,rfl⟩ PySem.F.entry_tuple_mul (PySem.F.args_tuple_mul_2 _ _) (L8 a c.toArray n f d t) ⟨e,⟨.ref a,H,I,rfl,q⟩⟩⟩)
 ·refine yV (T := "tuple") (U := "int") (by decide) ⟨_,e,rfl⟩ (λi=>fQ i 0 t) Qs F.fills_int_mul Wf Xn FT.lookup
   (Pq Wf (fQ s 0 t) F.entry_int_rmul (F.args_int_rmul_2 _ _) (Nn 0 t a c.toArray n f d)
    ⟨e,rfl,⟨_,e,rfl⟩,Pq PySem.F.slot_tuple_mul ⟨_,e,rfl⟩ PySem.F.entry_tuple_mul (PySem.F.args_tuple_mul_2 _ _) (j7 a c.toArray n f d t B) ⟨e,?_⟩⟩)
  refine ⟨.ref s.heap.objs.size,_,I.laid (t':=s.toks) (o:=.tup []) (λb M q=>Aj _ q) (Ah _) ?_,rfl,q _ (I.hok.fresh (Ah _))⟩
  exact ⟨by decide,_,.nil,IsTup.new _ _⟩
end
end L2
namespace DL
open PySem PySem.Spec PyProof.Rows L2 Nd
def cD:D2:=λx y P=>match x,y with
 | .dat _ (.tuple ds),.dat _ (.int k)=>Dt ds=true/\ds≠[]/\(k=0\/k=1)/\P (.dat .ow (.tuple (if k=1 then ds else [])))
 | _,_=>False
section
variable{K:PySem.W.Frag}
theorem P5:jS K (Y0 K) cD:=by
 intro t X n S T x y v w F G H Q P b c k
 unfold cD at c
 split at c
 ·obtain ⟨l,f,i,p⟩:=c
  obtain ⟨rfl,_⟩:=(b.told mem_mid).int_inv
  obtain ⟨a,h,rfl,g,d,o⟩:=(b.told Fm).tup_inv
  have j:=d.len
  obtain rfl:=d.imm l
  have m:h≠[]:=λe=>f (Hm.mp (by rw[<- j,e]; rfl))
  refine ⟨a,_,h,rfl,rfl,Vp.of g,m,?_⟩
  rcases i with rfl | rfl
  ·refine .inr ⟨rfl,λq s=>?_⟩
   have r:=Gn s (.tup [])
   exact k _ _ [] _ ((b.drop2.grow r (Ah _)).pushI (.tup El (by decide) .nil)) p
  ·exact .inl ⟨rfl,k _ _ [] _ (b.drop2.pushI (.tup g o d)) p⟩
 ·exact c.elim
theorem W0{X:Cx}{a b:Expr}{d c:DE}{pos:Pos}(e:Fk X a d)(hb:Fk X b c):Fk X (.BinOp a .Mult b pos) (Vf cD d c):=Xk O6 P5 e hb
end
end DL
namespace K58
open PySem L2 Nd DL
local macro_rules | `(tactic| array_get_dec) => do
  let ids:=(("e_ssW e_ssWB e_seq e_skip e_ret e_if e_asg e_name e_name2 e_name3 e_name4 e_own e_nF e_gtup e_gtup_w1 e_gsn e_gsc e_op e_var e_c e_imm e_immB e_take e_frz e_frzo e_I e_I0 e_eqF e_eqT e_inTl e_inFt_w1 e_isNF e_isNT e_ixl e_ixt e_ixt_w1 e_cat e_catT_w1 e_nlT e_ntT e_pkOfpk e_pkOfsh e_pkOfow e_mdInsh e_mdInow e_mdItsh e_mdItow e_nil e_cons e_tup e_lst e_noPart e_part e_partB e_sl e_slBl e_cb e_lenl e_lent e_lent_w1 e_listl e_tuplel e_intb e_min2 e_all e_sortI e_isi e_v e_ss e_ssl e_b e_bB e_notT e_andT e_orT e_orTt e_orTf e_not e_notB e_and e_andt e_andf e_dL e_dTp e_lB e_tpB e_tpB_w1 e_range1 e_rng1B e_enum e_enumB e_for e_comp e_compL e_stepL e_stepLT e_compD e_noTest e_step e_stepT e_stepF e_yesB e_stepD e_stepDT e_yesBD e_call e_callW e_draws e_drawsB e_append e_insert e_revL e_appendO e_aug e_augB e_scrSl e_dnew e_dput e_tagD e_tr e_trB ow_npk isDct dputB dk_e dget_e dinF_e callB callBW tupB lstB datas pkMd allOw noPk appB appOB mmd insB revLB own1 npk retE retW retL args0 frD frD1 alD List.map_cons List.map_nil List.replicate List.getElem?_cons_zero List.getElem?_cons_succ List.set_cons_zero List.set_cons_succ List.cons_append List.nil_append Option.map_some List.length_cons List.length_nil List.append_nil rdAdd rdSub rdMul rdDiv rdMod rdLt rdGt rdGe if_true if_false Bool.false_eq_true Nat.reduceAdd Nat.reduceSub Nat.reduceLeDiff true_and im_e ima_e dp_e dpa_e any_int any_word eqD_intd eqD_word eqD_bl eqD_str eqD_l0 ow_e tt_e cdiv_e cmul_r cmul_l Int.reduceLT Nat.reduceLT Int.reduceNeg and_self fold_w isi_li isi_tt isi_ib isi_ii isi_wt Bool.not_true Bool.not_false decide_true String.reduceEq or_true true_or List.isEmpty_nil ifB_lt ifB_lf isi_ss str_self Int.cast_ofNat_Int atI_0 atI_1 atI_2 some_e dec_self isE_cons yesL_sh catL_shtp st_places_same st_same_places" : String).splitOn " ").toArray.map λ(x:String)=>Lean.mkIdent x.toName
  `(tactic| try simp only [$[↓$ids:ident],*])
def C7:DF:=λb n R=>∃(h:Nat) (D:List (List Int)) (k:Nat),b=[.int h,.list (D.map Bb),.int k]/\1<=h/\h<=6/\D≠[]/\D.length<=12/\(∀c∈D,Dh h c)/\n<=1000/\D.Nodup/\Few h D k/\∀a,n<=a->a<=n+20->R (.bool true) a
theorem O1{h k d:Nat}{D e:List (List Int)}(s:e.Sublist D)(a:Few h D k)(b:Few h e d):d<=k:=by
 obtain ⟨w,c,g,f⟩:=a.some
 have:=b.least w c (vE.mpr ((vE.mp f).sublist s))
 omega
theorem O7(w:List Int)(k:Int):Bb (w++[k])=.tuple (w.map Bq++[.int k]):=by unfold Bb; rw[Bn]; rfl
theorem W5{b:Type}{xs:List b}{a:Nat}(h:a<xs.length):Ol xs (some (a:Int)) (some ((a:Int)+1))=[xs[a]]:=by
 rw[show ((a:Int)+1)=((a+1:Nat):Int) by omega]
 unfold Ol
 rw[HT.sIx_nat,HT.sIx_nat,Mm (by omega),Mm (by omega),show a+1 - a=1 by omega,Lm h]
 rfl
def pE(h:Nat)(x y:List Int):Prop:=y=x\/y=x++[(h:Int)]
theorem Ra{h:Nat}{x y:List Int}(w:pE h x y){z:Int}(hz:z<h):z∈y↔z∈x:=by
 rcases w with rfl | rfl
 ·exact Iff.rfl
 ·rw[Ba,Al]
  exact ⟨λq=>q.elim id λe=>by omega,.inl⟩
theorem vW{h:Nat}{x y:List Int}(w:pE h x y)(r:Dh h x):Dh ((h+1:Nat):Int) y:=by
 rcases w with rfl | rfl
 ·exact r.up (by omega)
 ·refine ⟨Et.mpr ⟨r.1,Fj _ _,λa e b d=>?_⟩,λz c=>?_⟩
  ·rw[Al.mp d]; exact (r.2 a e).2
  ·rcases Ba.mp c with q | q
   ·have:=r.2 z q; omega
   ·rw[Al.mp q]; omega
theorem vR{h:Nat}{D W:List (List Int)}(m:∀c∈D,Dh h c)(l:W.length=D.length)(hw:∀(i:Nat) (x y:List Int),D[i]? = some x->W[i]? = some y->pE h x y):(D.Nodup->W.Nodup)/\∀w,Dh h w->Zp D w->Zp W w:=by
 have g:∀(i:Nat) (d:i<W.length),∃r:i<D.length,pE h D[i] W[i]:=λi d=>⟨by omega,hw i _ _ (Bk (by omega)) (Bk d)⟩
 constructor
 ·intro s
  refine Bx.mpr λi j d p lt e=>?_
  obtain ⟨n,o⟩:=g i d
  obtain ⟨k,f⟩:=g j p
  refine Bx.mp s i j n k lt (cB (m _ (Fb _)).1 (m _ (Fb _)).1 λz=>?_)
  constructor
  ·intro a
   have b:=(m _ (Fb n)).2 z a
   exact (Ra f b.2).mp (by rw[<- e]; exact (Ra o b.2).mpr a)
  ·intro a
   have b:=(m _ (Fb k)).2 z a
   exact (Ra o b.2).mp (by rw[e]; exact (Ra f b.2).mpr a)
 ·intro w q t
  refine vE.mpr (Bx.mpr λi j d p lt e=>?_)
  obtain ⟨n,o⟩:=g i d
  obtain ⟨k,f⟩:=g j p
  refine Bx.mp (vE.mp t) i j n k lt (u4.mpr λz a=>?_)
  have b:=q.2 z a
  have:=u4.mp e z a
  rw[Ra o b.2,Ra f b.2] at this
  exact this
theorem o8{h k e:Nat}{D W:List (List Int)}(g:∀c∈D,Dh h c)(l:W.length=D.length)(hw:∀(i:Nat) (x y:List Int),D[i]? = some x->W[i]? = some y->pE h x y)(a:Few h D k)(b:Few (h+1) W e):e<=k:=by
 obtain ⟨w,d,j,f⟩:=a.some
 have:=b.least w (d.up (by omega)) ((vR g l hw).2 w d f)
 omega
section
variable{P:Bp}{w:World}{K:PySem.W.Frag}{mg:Str->Option Value}{base:Heap}
theorem cI:FnScope ["_law_draws_here", "_law_holes", "_law_deck_here", "_law_many_here", "_law_at_here", "_law_less", "_law_wide"] ["_law_draws_here", "_law_holes", "_law_deck_here", "_law_many_here"] (Cf Nh):=⟨rfl,rfl,rfl,by decide +kernel,rfl,by decide +kernel,by decide +kernel⟩
theorem eG{f d p r  : Addr}{fd m N O:Cz}(F:Fun K "_law_lesser" "_law_lesser" Nh f fd)(q:FnOk P w K mg base Ib 4 d m ["holes", "deck"] (Pb K (Tb)))(u:Binds K m ["holes", "deck"] [])(v:PySem.W.keepIn K (.ref d)=true)(t:mg "fewest_places" = some (.ref d))(I:FnOk P w K mg base Ib 1 p N ["_law_draws_here"] (fO K Ss))(B:Binds K N ["_law_draws_here"] [])(G:PySem.W.keepIn K (.ref p)=true)(C:mg "_law_next" = some (.ref p))(J:FnOk P w K mg base Ib 5 r O ["_law_holes", "_law_deck_here"] (Pb K (kJ)))(M:Binds K O ["_law_holes", "_law_deck_here"] [])(Q:PySem.W.keepIn K (.ref r)=true)(L:mg "_law_many" = some (.ref r))(U:mg "len" = none):FnOk P w K mg base Ib 6 f fd ["_law_draws_here", "_law_holes", "_law_deck_here", "_law_many_here"] (fO K (C7)):=by
 refine' Xb (k:=5) F cI (λk0 A Z s H E hr=>?hb) ?h
 case hb =>
  have h2:Room 1 _:=hr.mono (by decide)
  have k7:Room 2 _:=hr.mono (by decide)
  have k4:Room 3 _:=hr.mono (by decide)
  have h9:Room 4 _:=hr.mono (by decide)
  have h3:Room 5 _:=hr.mono (by decide)
  have h4:=hr.units
  have h5:∀{S:Scope} (h:S={ kind:=.function,names:=[(".0",.local),("_law_card",.local),("_law_next",.globalImplicit),("_law_draws_here",.free),("_law_holes",.free)],isGenerator:=false,isCoroutine:=false }),
    CompScope (Pv Ib P w K mg base ["_law_draws_here", "_law_holes", "_law_deck_here", "_law_many_here", "_law_at_here", "_law_less", "_law_wide"] "_law_lesser" (Cf Nh) f k0 A Z s H E).nox S [("_law_holes",s.heap.objs.size+2),("_law_draws_here",s.heap.objs.size+1)] "_law_card" ["_law_draws_here", "_law_holes"] [0,1]:=by
   rintro S rfl
   refine ⟨by rfl,.inl (by decide +kernel),by rfl,by decide +kernel,.inl rfl,λy c h=>?_,by rfl,by decide +kernel,rfl,λk y j e1 e2=>?_⟩
   ·have z:=Ft h
    simp only[An,Ce,or_false,Gv] at z
    rcases z with ⟨rfl,rfl⟩ | ⟨rfl,rfl⟩ <;> rfl
   ·match k,e1,e2 with
    | 0,e1,e2=>cases e1; cases e2; exact ⟨rfl,rfl,by first | exact .inl rfl | exact .inr rfl⟩
    | 1,e1,e2=>cases e1; cases e2; exact ⟨rfl,rfl,by first | exact .inl rfl | exact .inr rfl⟩
    | k+2,e1,e2=>cases e1
  exact Bv (Fd (i:=4) cI.nd rfl (Dc rfl) (Mh (Hi I h2 rfl C G B Ey (pv 0) Ay) (Ei Hj Kz rfl U (by decide +kernel) (Am (Ao (pv 2)) Ay))))
   (Bv (Fd (i:=5) cI.nd rfl (Dc rfl) (Ek J h3 rfl L Q M Ey (Am (Ao (pv 1)) (Am (jL (cY (i:=true) (Ao (pv 2)) bZ (Ta (Ao (pv 4)))) (cY (i:=true) (Ao (pv 2)) (Ta (Sm (Ao (pv 4)) Df)) bZ)) Ay))))
   (Bv (D0 (o:=false) (i0:=6) cI.nd rfl rfl (js1:=[]) (j0:=0) (js2:=[1]) (h5 rfl) rfl (yZ (Ao (pv 2))) (λ_ _ _=>Np) (λ_ _ _=>tR (Ao (pv 0)) (W0 (Qk (Am (Ny (Ao (pv 2))) Ay)) (Mh (Hi I h2 rfl C G B Ey (pv 1) Ay) Df))))
   (Bv (Il (gB (Rj (B1 (Ao (pv 5)) Yt) (Rj (vF (Ao (pv 5)) (Ao (pv 3))) (Te (vF (Ek J h3 rfl L Q M Ey (Am (Sm (Ao (pv 1)) Df) (Am (Ao (pv 6)) Ay))) (Ao (pv 3)))))))
   (Ct (Ee Lh)) Gq)
   (Ct (Ee (iQ h4 (Jw (Ek q h9 rfl t v u Ey (Am (Ao (pv 1)) (Am (jL (Ao (pv 2)) (cY (i:=true) (Ao (pv 2)) (Ta (Ao (pv 4))) (Ta (Sm (Ao (pv 4)) Df)))) Ay))) Df) Tc))))))
 case h =>
  (intro ds n R q_; obtain ⟨h,D,k,rfl,h0,h1,ne,lD,Y,hn,nd,fw,hR⟩ := q_)
  refine ⟨rfl,?_⟩
  have l0:0<D.length:=Lp.mpr ne
  array_get_dec
  refine ⟨rfl,by omega,λr1=>?_⟩
  array_get_dec
  have b1:=Qj r1 (b:=(D.length:Int)) (by omega)
  obtain ⟨a,ea,la⟩ : ∃a:Nat,r1 % (D.length:Int)=(a:Int)/\a<D.length:=⟨(r1 % (D.length:Int)).toNat,by omega,by omega⟩
  rw[Ac,ea,iI,show ((a:Int)+1)=((a+1:Nat):Int) by omega,DRow.cutG_from,<- Yl,<- Ym,<- Bn,<- List.eraseIdx_eq_take_drop_succ]
  have se:(D.eraseIdx a).Sublist D:=Nv D a
  have le:=se.length_le
  refine ⟨by omega,by rw[Ac,Ac,Cy,Jq]; omega,h,D.eraseIdx a,rfl,h0,by omega,by omega,λc V=>Y c (se.subset V),λz=>absurd (se.nodup nd) z,λk1 _ h8=>?_⟩
  have k5:=O1 se fw h8
  array_get_dec
  refine uK (l:=D) (g:=Bb) rfl rfl (λi X n'=>∃W:List (List Int),X=W.map Bb/\W.length=i/\(∀(j:Nat) (x y:List Int),D[j]? = some x->W[j]? = some y->pE h x y)/\n'=n+1+i) ?_ ?_ ?_
  ·exact ⟨[],rfl,rfl,(λj x y _ hy=>nomatch hy),rfl⟩
  ·(intro i c X n1 V q_; obtain ⟨W,rfl,lW,hW,rfl⟩ := q_)
   have li:=(Ai.mp V).1
   have k6:=Vv ((Y c (Aw V)).up (show (h:Int)<=60 by omega))
   array_get_dec
   refine ⟨rfl,by omega,λr2=>?_⟩
   array_get_dec
   have b2:=Qj r2 (b:=2) (by decide)
   have put:∀y,pE h c y->(W++[y]).length=i+1/\∀(j:Nat) (x y':List Int),D[j]? = some x->(W++[y])[j]? = some y'->pE h x y':=λy hy=>⟨by rw[Bh,lW]; rfl,λj x y' hx T=>by
    by_cases z:j<i
    ·rw[Gr (by omega)] at T
     exact hW j x y' hx T
    ·have z2:j=i:=by
      have:=(Ai.mp T).1
      rw[Bh,lW,Gu] at this
      omega
     subst z2
     rw[Eo (by omega),lW,bU] at T
     rw[V] at hx
     cases hx
     cases T
     exact hy⟩
   rcases (show r2 % 2=0\/r2 % 2=1 by omega) with e | e
   ·rw[e]
    unfold cD
    refine ⟨rfl,by simp,.inl rfl,?_⟩
    rw[if_neg (by decide)]
    array_get_dec
    obtain ⟨p1,p2⟩:=put c (.inl rfl)
    refine ⟨by rw[Ac]; omega,W++[c],?_,p1,p2,by omega⟩
    rw[Bn]
    rfl
   ·rw[e]
    unfold cD
    refine ⟨rfl,by simp,.inr rfl,?_⟩
    rw[if_pos rfl]
    array_get_dec
    obtain ⟨p1,p2⟩:=put (c++[(h:Int)]) (.inr rfl)
    refine ⟨by rw[Ac]; omega,W++[c++[(h:Int)]],?_,p1,p2,by omega⟩
    rw[Bn,Au,O7]
    rfl
  ·(intro X n1 q_; obtain ⟨W,rfl,lW,hW,rfl⟩ := q_)
   obtain ⟨wn,_⟩:=vR Y lW hW
   array_get_dec
   rw[show isNone (Bq (k1:Int))=false from rfl]
   array_get_dec
   rw[decide_eq_false (show ¬ (k:Int)<(k1:Int) by omega)]
   array_get_dec
   refine ⟨h+1,W,rfl,by omega,by omega,by omega,λc V=>?_,λz=>absurd (wn nd) z,λk2 _ h7=>?_⟩
   ·obtain ⟨j,hj⟩:=Vc.mp V
    have lj:=(Ai.mp hj).1
    have hx:D[j]? = some D[j]:=Bk (by omega)
    exact vW (hW j _ c hx hj) (Y _ (Fb _))
   have k8:=o8 Y lW hW fw h7
   array_get_dec
   rw[decide_eq_false (show ¬ (k:Int)<(k2:Int) by omega)]
   array_get_dec
   rw[dP,W5 la,<- Bn]
   refine ⟨by rw[Ac]; simp; omega,h,D++[D[a]],rfl,h0,by omega,by rw[Bh,Gu]; omega,λc V=>?_,λi j x lt hi hj=>?_,λk3 w P h6=>?_⟩
   ·rcases Ba.mp V with z | z
    ·exact Y c z
    ·rw[Al.mp z]; exact Y _ (Fb _)
   ·array_get_dec
    exact ⟨by omega,hR _ (by omega) (by omega)⟩
   ·exact absurd rfl ((Gj.mp h6).2.2 D[a] (Fb _) D[a] (Al.mpr rfl))
end
theorem HR{l:List DV}(h:l.length=9):∃j i d g e a c f b,l=[j,i,d,g,e,a,c,f,b]:=by
 match l,h with
 | [j,i,d,g,e,a,c,f,b],_=>exact ⟨j,i,d,g,e,a,c,f,b,rfl⟩
theorem oP(N:Nat):∀L:List Nat,(L.map λ_=>N).sum=L.length * N
 | []=>by simp
 | a::L=>by rw[Au,List.sum_cons,oP N L,Bd,Nat.succ_mul]; omega
theorem wI{D P:List (List Int)}(d:P.Nodup)(h:∀q∈P,Sr D q):P.length<=D.length * D.length:=by
 have:=Pz (l2:=(Bg D.length).flatMap λa:Nat=>(Bg D.length).map λb:Nat=>[(a:Int),(b:Int)]) d λq e=>by
  obtain ⟨a,b,rfl,lt,c⟩:=h q e
  exact List.mem_flatMap.mpr ⟨a,Cu.mpr (by omega),Bl.mpr ⟨b,Cu.mpr c,rfl⟩⟩
 rw[List.length_flatMap] at this
 simp only[Ac,Cs,oP] at this
 exact this
theorem xX{h k:Nat}{D:List (List Int)}{w:List Int}{P:List (List Int)}(c:w∈cw h 0 k)(d:(D.map (Lg w)).Nodup)(b:Bars D h k P):nU h D w P:=by
 have a:=(cw_mem.mp c).1
 refine ⟨cw_rise c,d,fun e=>b.none (by rw [← a,e]; rfl),fun e=>?_⟩
 have f:0<w.length:=Lp.mpr e
 rw[a]
 exact b.all (by omega)
theorem ED{h:Nat}{D:List (List Int)}{K:Ae->Prop}(h1:1<=h)(v:h<=6)(y:D.length<=12)(m:∀c∈D,Dh h c)(k:∀T,(∀R:Ae->Prop,R (.bool true)->kO [.int h,.list (D.map Bb),T] R)->((¬ D.Nodup/\∃i j:Nat,T=tP i j)\/∃(k:Nat) (w:List Int) (P:List (List Int)),D.Nodup/\w∈cw h 0 k/\Zp D w/\Few h D k/\Bars D h k P/\T=tL w P)->K T):Tb [.int h,.list (D.map Bb)] K:=by
 refine ⟨h,D,rfl,by omega,by omega,by omega,m,λa b x lt n o=>?_,λq w P g t f d e=>?_⟩
 ·refine k _ (λR l=>⟨h,D,_,rfl,by omega,by omega,by omega,m,.inl ⟨a,b,x,x,lt,n,o,rfl,λ_=>l,λz=>absurd rfl z⟩⟩) (.inl ⟨λg=>?_,a,b,rfl⟩)
  obtain ⟨s,u⟩:=Ai.mp n
  obtain ⟨r,p⟩:=Ai.mp o
  exact Bx.mp g a b s r lt (u.trans p.symm)
 ·exact k _ (fun R l=>⟨h,D,_,rfl,by omega,by omega,by omega,m,.inr ⟨w,P,(cw_rise f).up (by omega),e.ok,e.few,rfl,fun _=>l,fun z=>absurd (xX f d e) z⟩⟩) (.inr ⟨q,w,P,g,f,d,pC t f d e,e,rfl⟩)
section
variable{P:Bp}{w:World}{K:PySem.W.Frag}{mg:Str->Option Value}{base:Heap}
theorem EY:FnScope ["_law_script", "_law_cell", "_law_draws_here", "_law_holes", "_law_deck_here", "_law_told", "_law_many_here", "_law_turn", "_law_less", "_law_j"] ["_law_script"] (Cf gQ):=⟨rfl,rfl,rfl,by decide +kernel,rfl,by decide +kernel,by decide +kernel⟩
theorem ER{f d m N S X k0 V O n G  : Addr}{fd o B h9 k5 k7 q1 k6 h8 M h4:Cz}(F:Fun K "law" "law" gQ f fd)(U:FnOk P w K mg base Ib 4 d o ["holes", "deck"] (Pb K (Tb)))(h2:Binds K o ["holes", "deck"] [])(h3:PySem.W.keepIn K (.ref d)=true)(Y:mg "fewest_places" = some (.ref d))(p:FnOk P w K mg base Ib 5 m B ["holes", "deck", "thing"] (Pb K (kO)))(C:Binds K B ["holes", "deck", "thing"] [])(u:PySem.W.keepIn K (.ref m)=true)(r:mg "shows_fewest" = some (.ref m))(q6:FnOk P w K mg base Ib 1 N h9 ["_law_cell"] (Xl))(j5:Binds K h9 ["_law_cell"] [])(q9:PySem.W.keepIn K (.ref N)=true)(q5:mg "_law_draws" = some (.ref N))(h0:FnOk P w K mg base Ib 1 S k5 ["_law_draws_here"] (fO K Ss))(Q:Binds K k5 ["_law_draws_here"] [])(Z:PySem.W.keepIn K (.ref S)=true)(R:mg "_law_next" = some (.ref S))(x6:FnOk P w K mg base Ib 3 X k7 ["_law_draws_here", "_law_holes"] (fO K (E8)))(x7:Binds K k7 ["_law_draws_here", "_law_holes"] [])(j9:PySem.W.keepIn K (.ref X)=true)(x1:mg "_law_deck" = some (.ref X))(y2:FnOk P w K mg base Ib 2 k0 q1 ["_law_draws_here"] (fO K (Y1)))(y1:Binds K q1 ["_law_draws_here"] [])(y0:PySem.W.keepIn K (.ref k0)=true)(x9:mg "_law_few" = some (.ref k0))(x2:FnOk P w K mg base Ib 5 V k6 ["_law_holes", "_law_deck_here"] (Pb K (kJ)))(x4:Binds K k6 ["_law_holes", "_law_deck_here"] [])(x8:PySem.W.keepIn K (.ref V)=true)(x3:mg "_law_many" = some (.ref V))(q7:FnOk P w K mg base Ib 3 O h8 ["_law_deck_here", "_law_places"] (Pb K (tN)))(j7:Binds K h8 ["_law_deck_here", "_law_places"] [])(j4:PySem.W.keepIn K (.ref O)=true)(j3:mg "_law_heaps" = some (.ref O))(h7:FnOk P w K mg base Ib 6 n M ["_law_draws_here", "_law_holes", "_law_deck_here", "_law_many_here"] (fO K (uI)))(k1:Binds K M ["_law_draws_here", "_law_holes", "_law_deck_here", "_law_many_here"] [])(k3:PySem.W.keepIn K (.ref n)=true)(h5:mg "_law_otherwise" = some (.ref n))(q0:FnOk P w K mg base Ib 6 G h4 ["_law_draws_here", "_law_holes", "_law_deck_here", "_law_many_here"] (fO K (C7)))(k9:Binds K h4 ["_law_draws_here", "_law_holes", "_law_deck_here", "_law_many_here"] [])(q3:PySem.W.keepIn K (.ref G)=true)(q4:mg "_law_lesser" = some (.ref G))(y5:mg "min" = none)(k2:mg "list" = none)(k8:mg "len" = none)(y6:mg "int" = none)(k4:mg "range" = none)(q8:mg "sorted" = none)(y7:mg "set" = none)(j8:mg "tuple" = none):FnOk P w K mg base Ib 7 f fd ["_law_script"] (spLawD K):=by
 refine' EW (k:=6) F EY (λw3 A z1 s H E hr=>?hb) ?h
 case hb =>
  have y4:Room 1 _:=hr.mono (by decide)
  have w2:Room 2 _:=hr.mono (by decide)
  have z4:Room 3 _:=hr.mono (by decide)
  have w0:Room 4 _:=hr.mono (by decide)
  have z0:Room 5 _:=hr.mono (by decide)
  have z3:Room 6 _:=hr.mono (by decide)
  have y3:=hr.units
  have z6:∀{j6:Scope} (h:j6={ kind:=.function,names:=[(".0",.local),("_law_k",.local),("_law_next",.globalImplicit),("_law_draws_here",.free),("_law_holes",.free)],isGenerator:=false,isCoroutine:=false }),
    CompScope (Pv Ib P w K mg base ["_law_script", "_law_cell", "_law_draws_here", "_law_holes", "_law_deck_here", "_law_told", "_law_many_here", "_law_turn", "_law_less", "_law_j"] "law" (Cf gQ) f w3 A z1 s H E).nox j6 [("_law_holes",s.heap.objs.size+2),("_law_draws_here",s.heap.objs.size+1)] "_law_k" ["_law_draws_here", "_law_holes"] [2,3]:=by
   rintro j6 rfl
   refine ⟨by rfl,.inl (by decide +kernel),by rfl,by decide +kernel,.inl rfl,λy c h=>?_,by rfl,by decide +kernel,rfl,λk y j e1 e2=>?_⟩
   ·have z:=Ft h
    simp only[An,Ce,or_false,Gv] at z
    rcases z with ⟨rfl,rfl⟩ | ⟨rfl,rfl⟩ <;> rfl
   ·match k,e1,e2 with
    | 0,e1,e2=>cases e1; cases e2; exact ⟨rfl,rfl,by first | exact .inl rfl | exact .inr rfl⟩
    | 1,e1,e2=>cases e1; cases e2; exact ⟨rfl,rfl,by first | exact .inl rfl | exact .inr rfl⟩
    | k+2,e1,e2=>cases e1
  exact Bv (Ln Dk rfl (yZ (jL (A8 (pv 0) bZ (Ta Df)) (Kj (Am Df Ay)))) (Hd (i:=1) EY.nd rfl (Dc rfl))
   (Bv (Fd (i:=2) EY.nd rfl (Va rfl) (x5 q6 y4 rfl q5 q9 j5 Ey (Am (Ao (pv 1)) Ay)))
    (Bv (Fd (i:=3) EY.nd rfl (Va rfl) (Ei (iD rfl) vI rfl y5 (by decide +kernel) (Am Df (Am (Hi y2 w2 rfl x9 y0 y1 Ey (pv 2) Ay) Ay))))
    (Bv (Fd (i:=4) EY.nd rfl (Dc rfl) (Hi x6 z4 rfl x1 j9 x7 Ey (pv 2) (Am (Ao (pv 3)) Ay)))
    (Bv (Fd (i:=5) EY.nd rfl (Dc rfl) (Ek U w0 rfl Y h3 h2 Ey (Am (Ao (pv 3)) (Am (Hu Wq (Yb (i:=true)) rfl k2 (by decide +kernel) (Am (Ao (pv 4)) Ay)) Ay))))
    (Bv (Il (Mg (Kg (Ek p z0 rfl r u C Ey (Am (Ao (pv 3)) (Am (Hu Wq (Yb (i:=true)) rfl k2 (by decide +kernel) (Am (Ao (pv 4)) Ay)) (Am (Ao (pv 5)) Ay))))))
    (Ct (Ee Lh)) Gq)
    (Bv (Fd (i:=6) EY.nd rfl (Dc rfl) (Ek x2 z0 rfl x3 x8 x4 Ey (Am (Ao (pv 3)) (Am (Ao (pv 4)) Ay))))
    (Bv (Il (Mg (Kg (Hi h7 z3 rfl h5 k3 k1 Ey (pv 2) (Am (Ao (pv 3)) (Am (Ao (pv 4)) (Am (Ao (pv 6)) Ay))))))
    (Ct (Ee Lh)) Gq)
    (Ct (Il (aA y3 (Jw (Ao (pv 5)) Df) Tc)
    (Bv (Il (Wo y3 (Ek q7 z4 rfl j3 j4 j7 Ey (Am (Ao (pv 4)) (Am (Jw (Ao (pv 5)) Df) Ay))) (Kj Ay))
     (Ct (Ee Lh)) Gq)
     (Bv (Ln Dk rfl (Kt rfl k4 (Am (E2 Df (Hu iS o9 rfl y6 (by decide +kernel) (Am (Ze (X7 (Ao (pv 6)) Df) (mI (X7 (Ei Hj Kz rfl k8 (by decide +kernel) (Am (Ao (pv 4)) Ay)) Df))) Ay))) Ay)) (Hd (i:=7) EY.nd rfl (Dc rfl))
     (Bv (Fd (i:=8) EY.nd rfl (Dc rfl) (Hu Qw (Rg (i:=true)) rfl j8 (by decide +kernel) (Am (FU rfl rfl q8 rfl y7 (Am (F4 (js1:=[]) (j0:=2) (js2:=[3]) (z6 rfl) rfl (Kt rfl k4 (Am (Rt (Ao (pv 6)) Df) Ay)) (λ_ _ _=>Np) (λ_ _ _=>Mh (Hi h0 y4 rfl R Z Q Ey (pv 1) Ay) (Ao (pv 2)))) Ay)) Ay)))
      (Bv (Fd (i:=9) EY.nd rfl (Dc rfl) (Sm Df (Mh (Hi h0 y4 rfl R Z Q Ey (pv 2) Ay) (Rt (Ei Hj Kz rfl k8 (by decide +kernel) (Am (Ao (pv 4)) Ay)) Df))))
      (Ct (Il (Kg (Ek p z0 rfl r u C Ey (Am (Ao (pv 3)) (Am (Hu Wq (Yb (i:=true)) rfl k2 (by decide +kernel) (Am (Ao (pv 4)) Ay)) (Am (Qk (Am Tc (Am (Ny (Ao (pv 8))) (Am (jL (Jw (Ao (pv 5)) Df) (Kj (Am (Qk (Am (Mh (Hi h0 y4 rfl R Z Q Ey (pv 2) Ay) (Ao (pv 9))) (Am (Ny (Ao (pv 9))) Ay))) Ay))) Ay)))) Ay)))))
      (Ct (Ee Lh)) Gq)))))
     (Ct (Il (gB (sV (Wo y3 (Ao (pv 4)) (Kj Ay)) (sV (oJ (Ei Hj Kz rfl k8 (by decide +kernel) (Am (Ao (pv 4)) Ay)) Df) (uB (Mg (Kg (Hi q0 z3 rfl q4 q3 k9 Ey (pv 2) (Am (Ao (pv 3)) (Am (Ao (pv 4)) (Am (Ao (pv 6)) Ay))))))))))
     (Ct (Ee Lh)) Gq)))) Gq))))))))))
   (Ct (Ee Lh))
 case h =>
  intro ns w7
  array_get_dec
  have lc:(Ol ns none (some 2)).length<=2:=IQ 2
  refine ⟨by rw[Ac]; omega,?_⟩
  refine Sw (l:=Ol ns none (some 2)++[0]) (g:=Bq) (by rw[Bn]; rfl) (λi δ=>∃(l:List DV) (n':Nat),δ=⟨.scr ns::l,n'⟩/\l.length=9/\(∀v∈l,NP v)/\n'<=300 * i) ?_ ?_ ?_
  ·exact ⟨_,_,rfl,rfl,by simp [Jy],by omega⟩
  ·(intro i c _ hc q_; obtain ⟨l,n0,rfl,hl,hv,hn⟩ := q_)
   have hi:i<3:=by
    have:=(Ai.mp hc).1
    rw[Bh,Gu] at this
    omega
   obtain ⟨v1,v2,v3,v4,v5,v6,v7,v8,v9,rfl⟩:=HR hl
   simp only[List.forall_mem_cons] at hv
   obtain ⟨w8,a2,a5,a1,w6,w5,J,I,L,-⟩:=hv
   array_get_dec
   refine ⟨rfl,by omega,λhh a0 a4=>?_⟩
   array_get_dec
   obtain ⟨h,eh,h1,h6⟩ : ∃h:Nat,(if hh<6 then hh else 6)=(h:Int)/\1<=h/\h<=6:=⟨(if hh<6 then hh else 6).toNat,by split <;> omega,by split <;> omega,by split <;> omega⟩
   rw[eh]
   refine ⟨h,rfl,by omega,by omega,by omega,λD n1 na nb lD hD=>?_⟩
   array_get_dec
   refine ED h1 h6 lD hD λT jT cT=>?_
   array_get_dec
   refine jT _ ?_
   array_get_dec
   rcases cT with ⟨nd,a,b,rfl⟩ | ⟨k,w,P,nd,mw,pw,fw,hB,rfl⟩
   ·refine ⟨h,D,rfl,h1,by omega,by omega,hD,λ_=>?_,λk z9=>absurd z9 nd⟩
    refine ⟨h,D,.none,rfl,h1,h6,lD,hD,by omega,.inl ⟨nd,rfl⟩,λn2 w1 v0=>?_⟩
    unfold tP
    array_get_dec
    exact ⟨_,_,rfl,rfl,by simp [Ga,Qi,J,I,L],by omega⟩
   ·refine ⟨h,D,rfl,h1,by omega,by omega,hD,λz=>absurd nd z,λk' _ z8=>?_⟩
    obtain rfl:=fw.same z8
    refine ⟨h,D,.int k,rfl,h1,h6,lD,hD,by omega,.inr ⟨k,nd,fw,rfl⟩,λn2 w1 v0=>?_⟩
    obtain ⟨lw,z7⟩:=cw_iff.mp mw
    have w9:=jC z7
    unfold tL
    array_get_dec
    refine ⟨D,w,rfl,by omega,by omega,pw,?_⟩
    array_get_dec
    have lP:=wI hB.nd hB.ok
    have w4:D.length * D.length<=12 * 12:=Nat.mul_le_mul lD lD
    by_cases c1:0<k
    rotate_left
    ·rw[decide_eq_false (show ¬ (0:Int)<(k:Int) by omega)]
     array_get_dec
     refine ⟨by decide,by decide,?_⟩
     refine Sw (l:=Bg 0) (g:=λi:Nat=>.int i) rfl (λt δ=>∃(v7 v8 v9:DV) (n3:Nat),δ=⟨[.scr ns,.dat .sh (.int c),.drw,.dat .sh (.int h),.dat .sh (.list (D.map Bb)),.dat .sh (.tuple [.str (Fv "places"),Bb w,.list (P.map Bb)]),.dat .sh (.int k),v7,v8,v9],n3⟩/\NP v7/\NP v8/\NP v9/\n2<=n3/\n3<=n2+12 * t) ?_ ?_ ?_
     ·exact ⟨_,_,_,_,rfl,J,I,L,Ah _,by omega⟩
     ·rintro t a _ ha
      exact nomatch ha
     (intro _ q_; obtain ⟨v7,v8,v9,n3,rfl,J,I,L,y9,x0⟩ := q_)
     rw[Cs] at x0
     array_get_dec
     refine Vy (λq=>?_) (λq=>?_)
     ·have ne:D≠[]:=λe=>by rw[e] at q; cases q
      array_get_dec
      refine Vy (λq2=>?_) (λq2=>?_)
      ·array_get_dec
       refine ⟨h,D,k,rfl,h1,h6,ne,lD,hD,by omega,nd,fw,λn4 z5 z2=>?_⟩
       array_get_dec
       exact ⟨_,_,rfl,rfl,by simp [Ga,Qi,J,I,L],by omega⟩
      ·array_get_dec
       exact ⟨_,_,rfl,rfl,by simp [Ga,Qi,J,I,L],by omega⟩
     ·array_get_dec
      exact ⟨_,_,rfl,rfl,by simp [Ga,Qi,J,I,L],by omega⟩
    rw[decide_eq_true (show (0:Int)<(k:Int) by omega)]
    array_get_dec
    rw[Ac]
    by_cases c2:1<D.length
    rotate_left
    ·rw[decide_eq_false (show ¬ (1:Int)<(D.length:Int) by omega)]
     array_get_dec
     refine ⟨by decide,by decide,?_⟩
     refine Sw (l:=Bg 0) (g:=λi:Nat=>.int i) rfl (λt δ=>∃(v7 v8 v9:DV) (n3:Nat),δ=⟨[.scr ns,.dat .sh (.int c),.drw,.dat .sh (.int h),.dat .sh (.list (D.map Bb)),.dat .sh (.tuple [.str (Fv "places"),Bb w,.list (P.map Bb)]),.dat .sh (.int k),v7,v8,v9],n3⟩/\NP v7/\NP v8/\NP v9/\n2<=n3/\n3<=n2+12 * t) ?_ ?_ ?_
     ·exact ⟨_,_,_,_,rfl,J,I,L,Ah _,by omega⟩
     ·rintro t a _ ha
      exact nomatch ha
     (intro _ q_; obtain ⟨v7,v8,v9,n3,rfl,J,I,L,y9,x0⟩ := q_)
     rw[Cs] at x0
     array_get_dec
     refine Vy (λq=>?_) (λq=>?_)
     ·have ne:D≠[]:=λe=>by rw[e] at q; cases q
      array_get_dec
      refine Vy (λq2=>?_) (λq2=>?_)
      ·array_get_dec
       refine ⟨h,D,k,rfl,h1,h6,ne,lD,hD,by omega,nd,fw,λn4 z5 z2=>?_⟩
       array_get_dec
       exact ⟨_,_,rfl,rfl,by simp [Ga,Qi,J,I,L],by omega⟩
      ·array_get_dec
       exact ⟨_,_,rfl,rfl,by simp [Ga,Qi,J,I,L],by omega⟩
     ·array_get_dec
      exact ⟨_,_,rfl,rfl,by simp [Ga,Qi,J,I,L],by omega⟩
    ·rw[decide_eq_true (show (1:Int)<(D.length:Int) by omega)]
     array_get_dec
     refine ⟨by decide,by decide,?_⟩
     refine Sw (l:=Bg 6) (g:=λi:Nat=>.int i) rfl (λt δ=>∃(v7 v8 v9:DV) (n3:Nat),δ=⟨[.scr ns,.dat .sh (.int c),.drw,.dat .sh (.int h),.dat .sh (.list (D.map Bb)),.dat .sh (.tuple [.str (Fv "places"),Bb w,.list (P.map Bb)]),.dat .sh (.int k),v7,v8,v9],n3⟩/\NP v7/\NP v8/\NP v9/\n2<=n3/\n3<=n2+12 * t) ?_ ?_ ?_
     ·exact ⟨_,_,_,_,rfl,J,I,L,Ah _,by omega⟩
     ·(intro t a _ ha q_; obtain ⟨v7,v8,v9,n3,rfl,J,I,L,y9,x0⟩ := q_)
      obtain ⟨rfl,ht⟩:=Re ha
      array_get_dec
      refine ⟨by omega,by omega,?_⟩
      refine uK (l:=Bg (k - 1)) (g:=λi:Nat=>.int i) (by rw[show ((k:Int) - 1).toNat=k - 1 by omega]) rfl (λi y8 n'=>∃ms:List Int,y8=ms.map Bq/\ms.length=i/\(∀x∈ms,0<=x/\x<(h:Int))/\n'=n3+i) ?_ ?_ ?_
      ·exact ⟨[],rfl,rfl,(λx z=>nomatch z),rfl⟩
      ·(intro i2 b y8 n4 hb q_; obtain ⟨ms,rfl,lm,hm,rfl⟩ := q_)
       obtain ⟨rfl,a3⟩:=Re hb
       array_get_dec
       refine ⟨rfl,by omega,λr2=>?_⟩
       array_get_dec
       have b2:=Qj r2 (b:=(h:Int)) (by omega)
       refine ⟨by omega,ms++[r2 % h],by rw[Bn]; rfl,by rw[Bh,lm]; rfl,λx hx=>?_,by omega⟩
       rcases Ba.mp hx with z | z
       ·exact hm x z
       ·rw[Al.mp z]; exact b2
      ·(intro y8 n4 q_; obtain ⟨ms,rfl,lm,hm,rfl⟩ := q_)
       rw[Cs] at lm
       rw[Cs]
       array_get_dec
       refine ⟨ms,rfl,λx hx=>by have:=hm x hx; omega,?_⟩
       array_get_dec
       have rs:Dh h (Sg ms):=⟨Qv ms,λx hx=>hm x (p7.mp hx)⟩
       have ls:(Sg ms).length<=k - 1:=by
        have:=Pz (l1:=Sg ms) (l2:=ms) ((Qv ms).imp λq=>by omega) λx hx=>p7.mp hx
        omega
       refine ⟨rfl,by omega,λr5=>?_⟩
       rw[Ac]
       array_get_dec
       have b5:=Qj r5 (b:=(D.length:Int) - 1) (by omega)
       obtain ⟨j,ej,j1,j2⟩ : ∃j:Nat,1+r5 % ((D.length:Int) - 1)=(j:Int)/\1<=j/\j<D.length:=⟨(1+r5 % ((D.length:Int) - 1)).toNat,by omega,by omega,by omega⟩
       rw[ej]
       refine ⟨by omega,rfl,by omega,λr6=>?_⟩
       array_get_dec
       have b6:=Qj r6 (b:=(j:Int)) (by omega)
       obtain ⟨e,ee,le⟩ : ∃e:Nat,r6 % (j:Int)=(e:Int)/\e<j:=⟨(r6 % (j:Int)).toNat,by omega,by omega⟩
       rw[ee]
       rw[show (P.map Bb++[PyData.tuple [.int (e:Int),.int (j:Int)]])=(P++[[(e:Int),(j:Int)]]).map Bb by rw[Bn]; rfl]
       refine ⟨by omega,by rw[Ac]; omega,h,D,_,rfl,h1,by omega,by omega,hD,.inr ⟨Sg ms,P++[[(e:Int),(j:Int)]],rs.up (by omega),λq hq=>?_,by rw[Bh,Gu]; omega,rfl,λz=>?_,λ_=>?_⟩⟩
       ·rcases Ba.mp hq with z | z
        ·exact hB.ok q z
        ·exact ⟨e,j,Al.mp z,le,j2⟩
       ·have:=fw.least (Sg ms) rs z.2.1
        omega
       ·array_get_dec
        exact ⟨_,_,_,_,rfl,Ga,Ga,Ga,by omega,by omega⟩
     (intro _ q_; obtain ⟨v7,v8,v9,n3,rfl,J,I,L,y9,x0⟩ := q_)
     rw[Cs] at x0
     array_get_dec
     refine Vy (λq=>?_) (λq=>?_)
     ·have ne:D≠[]:=λe=>by rw[e] at q; cases q
      array_get_dec
      refine Vy (λq2=>?_) (λq2=>?_)
      ·array_get_dec
       refine ⟨h,D,k,rfl,h1,h6,ne,lD,hD,by omega,nd,fw,λn4 z5 z2=>?_⟩
       array_get_dec
       exact ⟨_,_,rfl,rfl,by simp [Ga,Qi,J,I,L],by omega⟩
      ·array_get_dec
       exact ⟨_,_,rfl,rfl,by simp [Ga,Qi,J,I,L],by omega⟩
     ·array_get_dec
      exact ⟨_,_,rfl,rfl,by simp [Ga,Qi,J,I,L],by omega⟩
  ·(intro _ q_; obtain ⟨l,n0,rfl,_⟩ := q_)
   array_get_dec
end
structure Def(K:PySem.W.Frag)(x:Str)(st:Stmt)(f:Addr)(fd:Cz):Prop where
 nm:PySem.W.nsIn K Dd x=some (some (.ref f))
 fn:Fun K x x st f fd
theorem def_mk{K:PySem.W.Frag}{x:Str}{st:Stmt}{f:Addr}{i g:Option Addr}{h:Array (Option Value)}{j kV d e b ct:Value}(a:PySem.W.nsIn K Dd x=some (some (.ref f)))(l:K.lookup f=some ⟨j,i,.func (PySem.W.fnOf x x (Qb st) (Lj st) (Cf st) .none kV d e g b ct),h⟩)(c:PySem.W.codeIn K b x=true)(k:PySem.W.keepIn K (.ref f)=true):Def K x st f (PySem.W.fnOf x x (Qb st) (Lj st) (Cf st) .none kV d e g b ct):=⟨a,zD l c k⟩
theorem MW{P:List Value->Prop}(h:P []):∀us:List Value,us.length=0->P us
 | [],_=>h
theorem JJ{P:List Value->Prop}{n:Nat}(h:∀a (us:List Value),us.length=n->P (a::us)):∀us:List Value,us.length=n+1->P us
 | a::us,e=>h a us (Nat.succ.inj e)
theorem IA{P:List Value->Prop}(h:∀b,P [b]):∀us:List Value,us.length=1->P us:=JJ λa us e=>MW (P:=λus=>P (a::us)) (h a) us e
theorem uL{P:List Value->Prop}(h:∀b a1,P [b,a1]):∀us:List Value,us.length=2->P us:=JJ λa us e=>IA (P:=λus=>P (a::us)) (h a) us e
theorem IW{P:List Value->Prop}(h:∀b a1 a2,P [b,a1,a2]):∀us:List Value,us.length=3->P us:=JJ λa us e=>uL (P:=λus=>P (a::us)) (h a) us e
theorem LF{P:List Value->Prop}(h:∀b a1 a2 a3,P [b,a1,a2,a3]):∀us:List Value,us.length=4->P us:=JJ λa us e=>IW (P:=λus=>P (a::us)) (h a) us e
theorem all_mk{l:PySem.W.OpenLaw}{q:Bp}{w:World}{K:PySem.W.Frag}{h:Heap}{mg:Str->Option Value}{fa f1 f2 f3 f4 f5 f6 f7 f8 f9 x5 j0 x3 w7 v1 k9 k2 j6 q2 v6 h8 v5 v4 j1 v8 J:Addr}{d1 d2 d3 d4 d5 d6 d7 d8 d9 z0 x6 v2 x8 x1 q6 q3 x4 w1 x0 y0 j7 q8 w2 k4:Cz}(X:K.In h)(G:h.Ns Dd mg)(j9:mg "law" = some (.ref fa)){od an:Option Addr}{sl:Array (Option Value)}{oc kV dc pm cd ct:Value}(D1:Def K "_law_draws" kQ f1 d1)(D2:Def K "_law_next" uE f2 d2)(D3:Def K "choose" eO f3 d3)(D4:Def K "word_at" Zd f4 d4)(V:Def K "words_of" Ru f5 d5)(Z:Def K "notches_at" Oq f6 d6)(D7:Def K "alike_at" Wa f7 d7)(D8:Def K "within" Wv f8 d8)(D9:Def K "needled" Yw f9 d9)(d:Def K "fewest_places" Nx x5 z0)(m:Def K "_law_small" Rw j0 x6)(F:Def K "_law_deck" Qe x3 v2)(p:Def K "_law_few" Vt w7 x8)(g:Def K "is_whole" Vo v1 x1)(z:Def K "is_word" Ys k9 q6)(f:Def K "is_pair" Zk k2 q3)(C:Def K "are_pairs" Sn j6 x4)(r:Def K "some_alike" Rp q2 w1)(t:Def K "shows_places" Mf v6 x0)(y:Def K "shows_fewest" Pi h8 y0)(b:Def K "_law_many" Sk v5 j7)(x:Def K "_law_heaps" Mj v4 q8)(E:Def K "_law_otherwise" Gp j1 w2)(B:Def K "_law_lesser" Nh v8 k4)(aL:PySem.W.nsIn K Dd "law" = some (some (.ref J)))(lL:K.lookup J=some ⟨oc,od,.func (PySem.W.fnOf "law" "law" (Qb gQ) (Lj gQ) (Cf gQ) .none kV dc pm an cd ct),sl⟩)(cL:PySem.W.codeIn K cd "law" = true)(kL:PySem.W.keepIn K (.ref J)=true)(z1:PySem.W.nsIn K Dd "min" = some none)(z2:PySem.W.nsIn K Dd "range" = some none)(z3:PySem.W.nsIn K Dd "len" = some none)(z4:PySem.W.nsIn K Dd "tuple" = some none)(z5:PySem.W.nsIn K Dd "enumerate" = some none)(z6:PySem.W.nsIn K Dd "all" = some none)(z7:PySem.W.nsIn K Dd "sorted" = some none)(z8:PySem.W.nsIn K Dd "set" = some none)(z9:PySem.W.nsIn K Dd "int" = some none)(z10:PySem.W.nsIn K Dd "bool" = some none)(z11:PySem.W.nsIn K Dd "isinstance" = some none)(z12:PySem.W.nsIn K Dd "list" = some none)(z13:PySem.W.nsIn K Dd "str" = some none)(tz_often:PySem.W.nsIn K Dd "often" = some none)(tz_cut_by:PySem.W.nsIn K Dd "cut_by" = some none):kR q K/\∃fd:Cz,(∀(s:Ak) (v:Value),BindsTo s fd ⟨[v],[]⟩ [("_law_script",v)])/\∀base:Heap,K.In base->base.Ns Dd mg->FnOk l.prog w K mg base Ib 7 fa fd ["_law_script"] (DL.spLawD K):=by
 have e:=j9.symm.trans (PySem.W.mg_of X G aL)
 cases e
 have FL:=zD (st:=gQ) lL cL kL
 have b1:=D1.fn.binds (ps:=["_law_cell"]) λ_ _ _ _ _ _=>IA (λ_=>rfl)
 have R:=D2.fn.binds (ps:=["_law_draws_here"]) λ_ _ _ _ _ _=>IA (λ_=>rfl)
 have b3:=D3.fn.binds (ps:=["n", "k"]) λ_ _ _ _ _ _=>uL (λ_ _=>rfl)
 have b4:=D4.fn.binds (ps:=["holes", "many", "number"]) λ_ _ _ _ _ _=>IW (λ_ _ _=>rfl)
 have b5:=V.fn.binds (ps:=["holes", "many"]) λ_ _ _ _ _ _=>uL (λ_ _=>rfl)
 have b6:=Z.fn.binds (ps:=["card", "places"]) λ_ _ _ _ _ _=>uL (λ_ _=>rfl)
 have b7:=D7.fn.binds (ps:=["deck", "places"]) λ_ _ _ _ _ _=>uL (λ_ _=>rfl)
 have b8:=D8.fn.binds (ps:=["one", "other"]) λ_ _ _ _ _ _=>uL (λ_ _=>rfl)
 have b9:=D9.fn.binds (ps:=["deck", "needles"]) λ_ _ _ _ _ _=>uL (λ_ _=>rfl)
 have Q:=d.fn.binds (ps:=["holes", "deck"]) λ_ _ _ _ _ _=>uL (λ_ _=>rfl)
 have h1:=m.fn.binds (ps:=["_law_draws_here", "_law_holes"]) λ_ _ _ _ _ _=>uL (λ_ _=>rfl)
 have v0:=F.fn.binds (ps:=["_law_draws_here", "_law_holes"]) λ_ _ _ _ _ _=>uL (λ_ _=>rfl)
 have v9:=p.fn.binds (ps:=["_law_draws_here"]) λ_ _ _ _ _ _=>IA (λ_=>rfl)
 have Y:=g.fn.binds (ps:=["thing"]) λ_ _ _ _ _ _=>IA (λ_=>rfl)
 have x7:=z.fn.binds (ps:=["holes", "thing"]) λ_ _ _ _ _ _=>uL (λ_ _=>rfl)
 have h2:=f.fn.binds (ps:=["deck", "i", "j"]) λ_ _ _ _ _ _=>IW (λ_ _ _=>rfl)
 have x9:=C.fn.binds (ps:=["deck", "thing"]) λ_ _ _ _ _ _=>uL (λ_ _=>rfl)
 have k5:=r.fn.binds (ps:=["deck", "pairs", "places"]) λ_ _ _ _ _ _=>IW (λ_ _ _=>rfl)
 have k6:=t.fn.binds (ps:=["holes", "deck", "places", "pairs"]) λ_ _ _ _ _ _=>LF (λ_ _ _ _=>rfl)
 have q5:=y.fn.binds (ps:=["holes", "deck", "thing"]) λ_ _ _ _ _ _=>IW (λ_ _ _=>rfl)
 have L:=b.fn.binds (ps:=["_law_holes", "_law_deck_here"]) λ_ _ _ _ _ _=>uL (λ_ _=>rfl)
 have k0:=x.fn.binds (ps:=["_law_deck_here", "_law_places"]) λ_ _ _ _ _ _=>uL (λ_ _=>rfl)
 have w0:=E.fn.binds (ps:=["_law_draws_here", "_law_holes", "_law_deck_here", "_law_many_here"]) λ_ _ _ _ _ _=>LF (λ_ _ _ _=>rfl)
 have j2:=B.fn.binds (ps:=["_law_draws_here", "_law_holes", "_law_deck_here", "_law_many_here"]) λ_ _ _ _ _ _=>LF (λ_ _ _ _=>rfl)
 have m1:=PySem.W.mg_of X G D1.nm
 have S:=PySem.W.mg_of X G D2.nm
 have m3:=PySem.W.mg_of X G D3.nm
 have m4:=PySem.W.mg_of X G D4.nm
 have m5:=PySem.W.mg_of X G V.nm
 have m6:=PySem.W.mg_of X G Z.nm
 have m7:=PySem.W.mg_of X G D7.nm
 have m8:=PySem.W.mg_of X G D8.nm
 have m9:=PySem.W.mg_of X G D9.nm
 have H:=PySem.W.mg_of X G d.nm
 have h3:=PySem.W.mg_of X G m.nm
 have j8:=PySem.W.mg_of X G F.nm
 have q4:=PySem.W.mg_of X G p.nm
 have U:=PySem.W.mg_of X G g.nm
 have w3:=PySem.W.mg_of X G z.nm
 have h0:=PySem.W.mg_of X G f.nm
 have x2:=PySem.W.mg_of X G C.nm
 have j3:=PySem.W.mg_of X G r.nm
 have j4:=PySem.W.mg_of X G t.nm
 have k8:=PySem.W.mg_of X G y.nm
 have N:=PySem.W.mg_of X G b.nm
 have q7:=PySem.W.mg_of X G x.nm
 have k7:=PySem.W.mg_of X G E.nm
 have v7:=PySem.W.mg_of X G B.nm
 have y1:=PySem.W.mg_none_of X G z1
 have M:=PySem.W.mg_none_of X G z2
 have o:=PySem.W.mg_none_of X G z3
 have u:=PySem.W.mg_none_of X G z4
 have y5:=PySem.W.mg_none_of X G z5
 have y6:=PySem.W.mg_none_of X G z6
 have y7:=PySem.W.mg_none_of X G z7
 have y8:=PySem.W.mg_none_of X G z8
 have y9:=PySem.W.mg_none_of X G z9
 have w4:=PySem.W.mg_none_of X G z10
 have D:=PySem.W.mg_none_of X G z11
 have A:=PySem.W.mg_none_of X G z12
 have k1:=PySem.W.mg_none_of X G z13
 have c:=DL.tab_no tz_often
 have a:=DL.tab_no tz_cut_by
 refine ⟨xH c a,PySem.W.fnOf "law" "law" (Qb gQ) (Lj gQ) (Cf gQ) .none kV dc pm an cd ct,λs v=>.of_eq rfl,λbase _ _=>?_⟩
 have g1:=yK (P:=l.prog) (w:=w) (mg:=mg) (base:=base) D1.fn
 have T:=F8 (P:=l.prog) (w:=w) (mg:=mg) (base:=base) D2.fn
 have g3:=xO (P:=l.prog) (w:=w) (mg:=mg) (base:=base) D3.fn y1 M
 have g4:=rS (P:=l.prog) (w:=w) (mg:=mg) (base:=base) D4.fn g3 b3 D3.fn.kp m3 o
 have g5:=oF (P:=l.prog) (w:=w) (mg:=mg) (base:=base) V.fn g3 b3 D3.fn.kp m3 g4 b4 D4.fn.kp m4 M
 have g6:=gF (P:=l.prog) (w:=w) (mg:=mg) (base:=base) Z.fn u
 have g7:=qK (P:=l.prog) (w:=w) (mg:=mg) (base:=base) D7.fn g6 b6 Z.fn.kp m6 y5
 have g8:=wL (P:=l.prog) (w:=w) (mg:=mg) (base:=base) D8.fn y6
 have g9:=qU (P:=l.prog) (w:=w) (mg:=mg) (base:=base) D9.fn g8 b8 D8.fn.kp m8
 have I:=Zb (P:=l.prog) (w:=w) (mg:=mg) (base:=base) d.fn g5 b5 V.fn.kp m5 g7 b7 D7.fn.kp m7 u M y7 y8
 have h6:=gP (P:=l.prog) (w:=w) (mg:=mg) (base:=base) m.fn T R D2.fn.kp S M u
 have j5:=jW (P:=l.prog) (w:=w) (mg:=mg) (base:=base) F.fn T R D2.fn.kp S h6 h1 m.fn.kp h3 M o u
 have w6:=pJ (P:=l.prog) (w:=w) (mg:=mg) (base:=base) p.fn T R D2.fn.kp S y9
 have h5:=nC (P:=l.prog) (w:=w) (mg:=mg) (base:=base) g.fn w4 D y9
 have h7:=rK (P:=l.prog) (w:=w) (mg:=mg) (base:=base) z.fn h5 Y g.fn.kp U u D
 have h4:=sP (P:=l.prog) (w:=w) (mg:=mg) (base:=base) f.fn h5 Y g.fn.kp U o
 have q1:=kW (P:=l.prog) (w:=w) (mg:=mg) (base:=base) C.fn h4 h2 f.fn.kp h0 A D o u
 have q9:=gE (P:=l.prog) (w:=w) (mg:=mg) (base:=base) r.fn g6 b6 Z.fn.kp m6
 have k3:=aZ (P:=l.prog) (w:=w) (mg:=mg) (base:=base) t.fn h7 x7 z.fn.kp w3 g5 b5 V.fn.kp m5 g7 b7 D7.fn.kp m7 q1 x9 C.fn.kp x2 q9 k5 r.fn.kp j3 o y6
 have v3:=bC (P:=l.prog) (w:=w) (mg:=mg) (base:=base) y.fn h4 h2 f.fn.kp h0 k3 k6 t.fn.kp j4 k1 D o u
 have O:=jX (P:=l.prog) (w:=w) (mg:=mg) (base:=base) b.fn I Q d.fn.kp H A o
 have q0:=gN (P:=l.prog) (w:=w) (mg:=mg) (base:=base) x.fn g9 b9 D9.fn.kp m9 A o
 have w5:=Xx (P:=l.prog) (w:=w) (mg:=mg) (base:=base) E.fn T R D2.fn.kp S h6 h1 m.fn.kp h3 O L b.fn.kp N M y7 u
 have h9:=eG (P:=l.prog) (w:=w) (mg:=mg) (base:=base) B.fn I Q d.fn.kp H T R D2.fn.kp S O L b.fn.kp N o
 exact ER FL I Q d.fn.kp H v3 q5 y.fn.kp k8 g1 b1 D1.fn.kp m1 T R D2.fn.kp S j5 v0 F.fn.kp j8 w6 v9 p.fn.kp q4 O L b.fn.kp N q0 k0 x.fn.kp q7 w5 w0 E.fn.kp k7 h9 j2 B.fn.kp v7 y1 A o y9 M y7 y8 u
theorem walk{l:PySem.W.OpenLaw}{q:Bp}{loose:List Str}{XP:(Str->Option Value)->Heap->Prop}{YP:World->Heap->Prop}{d:DefRec}{K:Params->PySem.W.Frag}(i:l.most=some 63)(b:d.params.defaults=[])(o:∀(w:World) (h:Heap),YP w h->(K w.params).In h)(F:∀(w:World) (mg:Str->Option Value) (e:Addr) (h:Heap),(K w.params).In h->h.Ns Dd mg->mg d.name=some (.ref e)->kR q (K w.params)/\∃c:Cz,(∀(s:Ak) (u:Value),BindsTo s c ⟨[u],[]⟩ [("_law_script",u)])/\∀base:Heap,(K w.params).In base->base.Ns Dd mg->FnOk l.prog w (K w.params) mg base Ib 7 e c ["_law_script"] (DL.spLawD (K w.params))):PySem.W.WalkO q loose XP YP l.row.toRowW d [] (λf vs=>PySem.call f vs) :=
 L2.walk_ofD (n:=63) (k:=7) (x := "_law_script") (CX:=λ_=>Ib) (sp:=λw=>DL.spLawD (K w.params)) i (by decide) b ⟨rfl,by decide,by decide,rfl⟩ o F (λ_ _ a j m _ g=>⟨a,j,rfl,g,m,λ_=>rfl⟩) λ_ _ _ _ _ z=>z
end K58
theorem MZ:PySem.Challenge.rw_needledeck_k58_whole_as_few_places_as_an.wellSaid=true:=by kernel_rfl
open PySem PySem.W PyProof.Rows
local macro_rules | `(tactic| refine $h:ident (q := $q) (loose := $l) (Xt := $a) (XP := $b) (Yf := $c) (Ya := $d) (YP := $e) (N := $n) ?hl $y*) => `(tactic| refine $h:ident (q := $q) (loose := $l) (Xt := $a) (XP := $b) (Yf := $c) (Ya := $d) (YP := $e) (N := $n) (fun _ => by kernel_rfl) $y*)
set_option maxRecDepth 100000 in
set_option maxHeartbeats 0 in
theorem PySem.Challenge.cw_needledeck_k58_whole_as_few_places_as_an_holds : PySem.Challenge.rw_needledeck_k58_whole_as_few_places_as_an.Holds := by
 w_on; refine holds_law MZ λsaid=>?_; k_head; (case hw=>w_witness2)
 k_fill
 refine K58.walk (l:=PySem.Challenge.rw_needledeck_k58_whole_as_few_places_as_an) rfl rfl (λw h Y=>PySem.W.kIn_of Y) ?F
 case F =>
  intro w mg fa h KX G hmg
  refine' K58.all_mk KX G hmg (K58.def_mk ?a1 ?l1 ?c1 ?k1) (K58.def_mk ?a2 ?l2 ?c2 ?k2) (K58.def_mk ?a3 ?l3 ?c3 ?k3) (K58.def_mk ?a4 ?l4 ?c4 ?k4) (K58.def_mk ?a5 ?l5 ?c5 ?k5) (K58.def_mk ?a6 ?l6 ?c6 ?k6) (K58.def_mk ?a7 ?l7 ?c7 ?k7) (K58.def_mk ?a8 ?l8 ?c8 ?k8) (K58.def_mk ?a9 ?l9 ?c9 ?k9) (K58.def_mk ?a10 ?l10 ?c10 ?k10) (K58.def_mk ?a11 ?l11 ?c11 ?k11) (K58.def_mk ?a12 ?l12 ?c12 ?k12) (K58.def_mk ?a13 ?l13 ?c13 ?k13) (K58.def_mk ?a14 ?l14 ?c14 ?k14) (K58.def_mk ?a15 ?l15 ?c15 ?k15) (K58.def_mk ?a16 ?l16 ?c16 ?k16) (K58.def_mk ?a17 ?l17 ?c17 ?k17) (K58.def_mk ?a18 ?l18 ?c18 ?k18) (K58.def_mk ?a19 ?l19 ?c19 ?k19) (K58.def_mk ?a20 ?l20 ?c20 ?k20) (K58.def_mk ?a21 ?l21 ?c21 ?k21) (K58.def_mk ?a22 ?l22 ?c22 ?k22) (K58.def_mk ?a23 ?l23 ?c23 ?k23) (K58.def_mk ?a24 ?l24 ?c24 ?k24) ?aL ?lL ?cL ?kL ?z1 ?z2 ?z3 ?z4 ?z5 ?z6 ?z7 ?z8 ?z9 ?z10 ?z11 ?z12 ?z13 ?tz_often ?tz_cut_by
  (case a1=>k_is); (case l1=>k_is); (case c1=>k_is); (case k1=>k_is)
  (case a2=>k_is); (case l2=>k_is); (case c2=>k_is); (case k2=>k_is)
  (case a3=>k_is); (case l3=>k_is); (case c3=>k_is); (case k3=>k_is)
  (case a4=>k_is); (case l4=>k_is); (case c4=>k_is); (case k4=>k_is)
  (case a5=>k_is); (case l5=>k_is); (case c5=>k_is); (case k5=>k_is)
  (case a6=>k_is); (case l6=>k_is); (case c6=>k_is); (case k6=>k_is)
  (case a7=>k_is); (case l7=>k_is); (case c7=>k_is); (case k7=>k_is)
  (case a8=>k_is); (case l8=>k_is); (case c8=>k_is); (case k8=>k_is)
  (case a9=>k_is); (case l9=>k_is); (case c9=>k_is); (case k9=>k_is)
  (case a10=>k_is); (case l10=>k_is); (case c10=>k_is); (case k10=>k_is)
  (case a11=>k_is); (case l11=>k_is); (case c11=>k_is); (case k11=>k_is)
  (case a12=>k_is); (case l12=>k_is); (case c12=>k_is); (case k12=>k_is)
  (case a13=>k_is); (case l13=>k_is); (case c13=>k_is); (case k13=>k_is)
  (case a14=>k_is); (case l14=>k_is); (case c14=>k_is); (case k14=>k_is)
  (case a15=>k_is); (case l15=>k_is); (case c15=>k_is); (case k15=>k_is)
  (case a16=>k_is); (case l16=>k_is); (case c16=>k_is); (case k16=>k_is)
  (case a17=>k_is); (case l17=>k_is); (case c17=>k_is); (case k17=>k_is)
  (case a18=>k_is); (case l18=>k_is); (case c18=>k_is); (case k18=>k_is)
  (case a19=>k_is); (case l19=>k_is); (case c19=>k_is); (case k19=>k_is)
  (case a20=>k_is); (case l20=>k_is); (case c20=>k_is); (case k20=>k_is)
  (case a21=>k_is); (case l21=>k_is); (case c21=>k_is); (case k21=>k_is)
  (case a22=>k_is); (case l22=>k_is); (case c22=>k_is); (case k22=>k_is)
  (case a23=>k_is); (case l23=>k_is); (case c23=>k_is); (case k23=>k_is)
  (case a24=>k_is); (case l24=>k_is); (case c24=>k_is); (case k24=>k_is)
  (case aL=>k_is); (case lL=>k_is); (case cL=>k_is); (case kL=>k_is)
  (case z1=>k_is); (case z2=>k_is); (case z3=>k_is); (case z4=>k_is); (case z5=>k_is); (case z6=>k_is); (case z7=>k_is); (case z8=>k_is); (case z9=>k_is); (case z10=>k_is); (case z11=>k_is); (case z12=>k_is); (case z13=>k_is)
  (case tz_often=>k_is)
  (case tz_cut_by=>k_is)