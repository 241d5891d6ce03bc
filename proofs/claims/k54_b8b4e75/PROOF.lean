import PyProof.Rows.All
import Wide.All
import OpenK.AllK
import Wide.FinOn
import Lean
import PyProof.EqAt
import PyProof.EqKinds
import PyProof.TupleCall
import PyProof.FactsAll.set
import PyProof.FactsAll.subtypes
import KE.KTupSum
import KE.KMinBuiltin
import PyProof.Draws
import PyProof.DictWalks
import PyProof.DictCompW
import PyProof.IsiH_tuple
import PyProof.FactsAll.zip
import KE.KDictOf
import PyProof.DictValues
import PySem.Challenge.RW_needledeck_k54_whole_counts_there_and_ba
set_option Elab.async false
set_option linter.all false
set_option maxRecDepth 100000
set_option maxHeartbeats 4000000
set_option genSizeOf false
local macro_rules|`(tactic|omega)=>`(tactic|first|lia|omega +splitDisjunctions)
theorem e0a2{A B:Prop}{G:Prop}(k:A→B→G)(h:A∧B):G:=k h.1 h.2
theorem e0a3{A B C:Prop}{G:Prop}(k:A→B→C→G)(h:A∧B∧C):G:=k h.1 h.2.1 h.2.2
theorem e0a4{A B C D:Prop}{G:Prop}(k:A→B→C→D→G)(h:A∧B∧C∧D):G:=k h.1 h.2.1 h.2.2.1 h.2.2.2
theorem e0a5{A B C D E:Prop}{G:Prop}(k:A→B→C→D→E→G)(h:A∧B∧C∧D∧E):G:=k h.1 h.2.1 h.2.2.1 h.2.2.2.1 h.2.2.2.2
theorem e0a6{A B C D E F:Prop}{G:Prop}(k:A→B→C→D→E→F→G)(h:A∧B∧C∧D∧E∧F):G:=k h.1 h.2.1 h.2.2.1 h.2.2.2.1 h.2.2.2.2.1 h.2.2.2.2.2
theorem e1a1{a:Type}{A:a→Prop}{G:Prop}(k:∀x,A x→G)(h:∃x,A x):G:=h.elim λx h=>k x h
theorem e1a2{a:Type}{A B:a→Prop}{G:Prop}(k:∀x,A x→B x→G)(h:∃x,A x∧B x):G:=h.elim λx h=>k x h.1 h.2
theorem e1a3{a:Type}{A B C:a→Prop}{G:Prop}(k:∀x,A x→B x→C x→G)(h:∃x,A x∧B x∧C x):G:=h.elim λx h=>k x h.1 h.2.1 h.2.2
theorem e1a4{a:Type}{A B C D:a→Prop}{G:Prop}(k:∀x,A x→B x→C x→D x→G)(h:∃x,A x∧B x∧C x∧D x):G:=h.elim λx h=>k x h.1 h.2.1 h.2.2.1 h.2.2.2
theorem e2a1{b a:Type}{A:b→a→Prop}{G:Prop}(k:∀x y,A x y→G)(h:∃x y,A x y):G:=h.elim λx h=>h.elim λy h=>k x y h
theorem e2a2{b a:Type}{A B:b→a→Prop}{G:Prop}(k:∀x y,A x y→B x y→G)(h:∃x y,A x y∧B x y):G:=h.elim λx h=>h.elim λy h=>k x y h.1 h.2
theorem e2a3{b a:Type}{A B C:b→a→Prop}{G:Prop}(k:∀x y,A x y→B x y→C x y→G)(h:∃x y,A x y∧B x y∧C x y):G:=h.elim λx h=>h.elim λy h=>k x y h.1 h.2.1 h.2.2
theorem e2a4{b a:Type}{A B C D:b→a→Prop}{G:Prop}(k:∀x y,A x y→B x y→C x y→D x y→G)(h:∃x y,A x y∧B x y∧C x y∧D x y):G:=h.elim λx h=>h.elim λy h=>k x y h.1 h.2.1 h.2.2.1 h.2.2.2
theorem e3a1{c a b:Type}{A:c→a→b→Prop}{G:Prop}(k:∀x y z,A x y z→G)(h:∃x y z,A x y z):G:=h.elim λx h=>h.elim λy h=>h.elim λz h=>k x y z h
theorem e3a3{c a b:Type}{A B C:c→a→b→Prop}{G:Prop}(k:∀x y z,A x y z→B x y z→C x y z→G)(h:∃x y z,A x y z∧B x y z∧C x y z):G:=h.elim λx h=>h.elim λy h=>h.elim λz h=>k x y z h.1 h.2.1 h.2.2
theorem e3a4{c a b:Type}{A B C D:c→a→b→Prop}{G:Prop}(k:∀x y z,A x y z→B x y z→C x y z→D x y z→G)(h:∃x y z,A x y z∧B x y z∧C x y z∧D x y z):G:=h.elim λx h=>h.elim λy h=>h.elim λz h=>k x y z h.1 h.2.1 h.2.2.1 h.2.2.2
theorem e3a5{c a b:Type}{A B C D E:c→a→b→Prop}{G:Prop}(k:∀x y z,A x y z→B x y z→C x y z→D x y z→E x y z→G)(h:∃x y z,A x y z∧B x y z∧C x y z∧D x y z∧E x y z):G:=h.elim λx h=>h.elim λy h=>h.elim λz h=>k x y z h.1 h.2.1 h.2.2.1 h.2.2.2.1 h.2.2.2.2
theorem e4a1{d a c b:Type}{A:d→a→c→b→Prop}{G:Prop}(k:∀x y z w,A x y z w→G)(h:∃x y z w,A x y z w):G:=h.elim λx h=>h.elim λy h=>h.elim λz h=>h.elim λw h=>k x y z w h
theorem e4a2{d a c b:Type}{A B:d→a→c→b→Prop}{G:Prop}(k:∀x y z w,A x y z w→B x y z w→G)(h:∃x y z w,A x y z w∧B x y z w):G:=h.elim λx h=>h.elim λy h=>h.elim λz h=>h.elim λw h=>k x y z w h.1 h.2
theorem e5a2{c a b d e:Type}{A B:c→a→b→d→e→Prop}{G:Prop}(k:∀x y z w u,A x y z w u→B x y z w u→G)(h:∃x y z w u,A x y z w u∧B x y z w u):G:=h.elim λx h=>h.elim λy h=>h.elim λz h=>h.elim λw h=>h.elim λu h=>k x y z w u h.1 h.2
theorem e4a5{d a c b:Type}{A B C D E:d→a→c→b→Prop}{G:Prop}(k:∀x y z w,A x y z w→B x y z w→C x y z w→D x y z w→E x y z w→G)(h:∃x y z w,A x y z w∧B x y z w∧C x y z w∧D x y z w∧E x y z w):G:=h.elim λx h=>h.elim λy h=>h.elim λz h=>h.elim λw h=>k x y z w h.1 h.2.1 h.2.2.1 h.2.2.2.1 h.2.2.2.2
theorem e5a5{c a b d e:Type}{A B C D E:c→a→b→d→e→Prop}{G:Prop}(k:∀x y z w u,A x y z w u→B x y z w u→C x y z w u→D x y z w u→E x y z w u→G)(h:∃x y z w u,A x y z w u∧B x y z w u∧C x y z w u∧D x y z w u∧E x y z w u):G:=h.elim λx h=>h.elim λy h=>h.elim λz h=>h.elim λw h=>h.elim λu h=>k x y z w u h.1 h.2.1 h.2.2.1 h.2.2.2.1 h.2.2.2.2
theorem e6a5{c b a d e f:Type}{A B C D E:c→b→a→d→e→f→Prop}{G:Prop}(k:∀x y z w u v,A x y z w u v→B x y z w u v→C x y z w u v→D x y z w u v→E x y z w u v→G)(h:∃x y z w u v,A x y z w u v∧B x y z w u v∧C x y z w u v∧D x y z w u v∧E x y z w u v):G:=h.elim λx h=>h.elim λy h=>h.elim λz h=>h.elim λw h=>h.elim λu h=>h.elim λv h=>k x y z w u v h.1 h.2.1 h.2.2.1 h.2.2.2.1 h.2.2.2.2
theorem e4a7{d a c b:Type}{A B C D E F H:d→a→c→b→Prop}{G:Prop}(k:∀x y z w,A x y z w→B x y z w→C x y z w→D x y z w→E x y z w→F x y z w→H x y z w→G)(h:∃x y z w,A x y z w∧B x y z w∧C x y z w∧D x y z w∧E x y z w∧F x y z w∧H x y z w):G:=h.elim λx h=>h.elim λy h=>h.elim λz h=>h.elim λw h=>k x y z w h.1 h.2.1 h.2.2.1 h.2.2.2.1 h.2.2.2.2.1 h.2.2.2.2.2.1 h.2.2.2.2.2.2
theorem e5a7{c b a d e:Type}{A B C D E F H:c→b→a→d→e→Prop}{G:Prop}(k:∀x y z w u,A x y z w u→B x y z w u→C x y z w u→D x y z w u→E x y z w u→F x y z w u→H x y z w u→G)(h:∃x y z w u,A x y z w u∧B x y z w u∧C x y z w u∧D x y z w u∧E x y z w u∧F x y z w u∧H x y z w u):G:=h.elim λx h=>h.elim λy h=>h.elim λz h=>h.elim λw h=>h.elim λu h=>k x y z w u h.1 h.2.1 h.2.2.1 h.2.2.2.1 h.2.2.2.2.1 h.2.2.2.2.2.1 h.2.2.2.2.2.2
theorem e6a7{c b a d e f:Type}{A B C D E F H:c→b→a→d→e→f→Prop}{G:Prop}(k:∀x y z w u v,A x y z w u v→B x y z w u v→C x y z w u v→D x y z w u v→E x y z w u v→F x y z w u v→H x y z w u v→G)(h:∃x y z w u v,A x y z w u v∧B x y z w u v∧C x y z w u v∧D x y z w u v∧E x y z w u v∧F x y z w u v∧H x y z w u v):G:=h.elim λx h=>h.elim λy h=>h.elim λz h=>h.elim λw h=>h.elim λu h=>h.elim λv h=>k x y z w u v h.1 h.2.1 h.2.2.1 h.2.2.2.1 h.2.2.2.2.1 h.2.2.2.2.2.1 h.2.2.2.2.2.2
local macro_rules|`(tactic|obtain $p:rcasesPatMed:=$v:term)=>do
 let c s:=((p.raw.reprint.getD "").splitOn s).length
 if c ","<3||c "|">1||c ":">1 then Lean.Macro.throwUnsupported
 let T (a:Lean.Syntax):Lean.TSyntax `Lean.Parser.Tactic.rcasesPatMed:=⟨a⟩
 let q:=p.raw
 let x:=q[0][0]
 let l:=x[1].getSepArgs
 let mut a:Array (Lean.TSyntax ``Lean.Parser.Tactic.tacticSeq):=#[]
 let mut y:Array Lean.Term:=#[]
 let mut z:Array (Array (Lean.TSyntax `tactic)):=#[]
 for o in l do
  let u:=o[0][0][0]
  let f:=Lean.mkIdent (←Lean.Macro.addMacroScope (.mkSimple s!"f{y.size}"))
  if u[0].getId==`rfl then
   y:=y.push f
   z:=z.push #[←`(tactic|subst $f:term)]
  else if u[0].isIdent then
   y:=y.push ⟨u[0]⟩
   z:=z.push #[]
  else if u[1].isMissing then
   y:=y.push (←`(_))
   z:=z.push #[]
  else
   y:=y.push f
   z:=z.push #[←`(tactic|obtain $(T o[0]):rcasesPatMed:=$f)]
 for j in [0:l.size] do
  if j==1 then continue
  let n:=l.size-j
  let mut i:=y.extract 0 n
  let mut w:=(z.extract 0 n).flatten
  if j>0 then
   i:=i.push (←`(r_))
   w:=w.push (←`(tactic|obtain $(T (q.setArg 0 (q[0].setArg 0 (x.setArg 1 (Lean.mkNullNode (Lean.mkSepArray (l.extract n l.size) (Lean.mkAtom ","))))))):rcasesPatMed:=r_))
  for k in [0:i.size] do
   let m:=Lean.mkIdent (.mkSimple s!"e{k}a{i.size-k}")
   let g←if v.raw.isIdent then `(tactic|(revert $(⟨v⟩):ident;refine $m fun $i*=>?_)) else `(tactic|refine $m (fun $i*=>?_) $v)
   a:=a.push (←`(Lean.Parser.Tactic.tacticSeq| $g:tactic;$[$w];*))
  if j==0&& !v.raw.isIdent then
   a:=a.push (←`(Lean.Parser.Tactic.tacticSeq| have h_ := $v; obtain $p := h_))
   break
 a:=a.push (←`(Lean.Parser.Tactic.tacticSeq| rcases $v:term with $p))
 `(tactic|first $[| $a]*)
open Array renaming length_toList → Am, getD_eq_getD_getElem? → Da, toList_append → Dx, getElem?_toList → Fs, getElem?_eq_some_iff → Ic, getElem?_eq_getElem → Iq, toList_push → Iz, toList_extract → Ov, perm_iff_toList_perm → Qw, size_setIfInBounds → Ry, getElem?_eq_none → Tu, toList_reverse → Wn, size_map → Wo, forIn_toList → Zn, toList_setIfInBounds → jH
open Bool renaming false_ne_true → Bs, false_eq_true → Bz, and_eq_true → Ec, not_eq_true' → Kx, eq_iff_iff → Pw, not_true → Tb, and_false → Xi, not_eq_false' → aV
open Classical renaming byContradiction → Qc
open False renaming elim → Ld
open ForInStep renaming done → Dg, yield → Et
open Int renaming toNat_natCast → Ed
open LawfulBEq renaming eq_of_beq → Ee
open List renaming mem_cons_self → Ab, mem_cons_of_mem → Ac, length_map → Ad, mem_append_right → Ag, mem_cons → Ak, mem_singleton → Al, mem_append_left → Ao, map_cons → Ap, size_toArray → Au, getElem?_eq_some_iff → Ax, not_mem_nil → Az, mem_append → Bc, pairwise_cons → Bd, getElem?_map → Bg, length_cons → Bl, length_append → Bm, map_append → Bn, mem_of_getElem? → Bp, getElem?_eq_getElem → Bt, sublist_append_right → Bu, append_assoc → Bw, replicate → By, range → Cc, lookup_cons → Ce, nodup_cons → Cm, length_range → Cq, map_map → Cr, pairwise_append → Cy, length_take → Cz, mem_map → Dd, sublist_cons_self → Dm, perm_middle → Ea, append_nil → Eb, perm_append_comm → El, nodup_nil → Ep, take_length → Ey, pairwise_singleton → Fh, length_zipIdx → Fj, cons_append → Fm, take_append_drop → Fu, mem_range → Fw, mem_iff_getElem → Gg, take_of_length_le → Gs, replicate_succ → Gu, take_sublist → Hl, nodup_append → Hm, length_zip → Hq, dropLast_concat_getLast → Hr, zip_cons_cons → Ig, mem_replicate → Ih, getElem?_append_right → Ii, mem_filter → Iw, find?_cons → Iy, length → Ja, flatten_cons → Jb, drop_sublist → Jc, getElem?_take_of_lt → Jg, length_nil → Kj, length_singleton → Kt, reverse_perm → Kw, zipIdx_cons → Ll, length_drop → Lm, pairwise_iff_getElem → Lp, getElem?_append_left → Lq, extract_eq_take_drop → Lr, filterMap_cons → Lv, eq_of_mem_replicate → Mc, filter_append → Mp, lookup → Mr, length_eq_zero_iff → Ms, flatMap_cons → Nj, drop_zero → Nk, countP_congr → Nl, mem_flatMap → Oi, forIn_cons → Pv, map_congr_left → Pz, length_pos_iff → Qa, filter_eq_self → Qb, map_set → Qg, map_nil → Qh, getD_eq_getElem?_getD → Qy, forIn_nil → Qz, getElem?_set → Rw, ext_getElem? → Rx, mem_reverse → Tp, eraseIdx_cons_succ → Tq, countP_cons → Tr, all_eq_true → Tt, append_eq_nil_iff → Vb, pairwise_reverse → We, length_replicate → Wf, getElem?_reverse → Wg, flatMap_append → Zg, any_cons → Zi, mem_filterMap → aS, getElem?_drop → aT, countP_append → aU, mapM_toArray → bU, getElem?_inj → bV, foldl_append → bW, any_map → bX, all_map → bY, eraseIdx_eq_take_drop_succ → cM, getElem_mem → fL, eq_nil_of_length_eq_zero → fT, perm_append_comm_assoc → jF, getElem?_zip_eq_some → mL, drop_eq_getElem_cons → mM, length_erase_of_mem → qS, length_pos_of_mem → tS, getElem?_set_self → tT, drop_of_length_le → tU, drop_eq_nil_of_le → tV, mem_iff_getElem? → wG, countP_eq_length → wH, map_eq_nil_iff → zP
open List.Pairwise renaming nil → Ei, sublist → Jo
open List.Perm renaming swap → Ej, refl → Gh, cons → Jd, append_left → Jw
open List.Sublist renaming refl → Co, cons → Wh
open List.cons renaming inj → Hs
open Nat renaming le_refl → Aj, ne_of_lt → Bq, le_trans → Cb, lt_of_lt_of_le → Cj, zero_le → Do, lt_succ_of_lt → Ho, lt_irrefl → Ia, le_add_right → Js, le_of_lt → Kf, not_lt_zero → Kl, le_succ → Mu, zero_add → Nt, ne_of_gt → Qu, pow_succ → Vz, mod_lt → Wa, lt_trans → Wb, pow_le_pow_right → Xm, succ_pos → cK, min_eq_right → fR, lt_succ_self → fS, lt_succ_iff → jE
open Ne renaming symm → Lu
open Option renaming none → Re, isSome_iff_exists → Rt
open Option.some renaming inj → Ca
open Or renaming inl → Dq, inr → Zf
open Prod.mk renaming injEq → Fn
open PyProof.Rows renaming wpS_bind → Ba, pendingOf → Bh, wpS_pure → Bi, SortSt → Bx, callWith_type1 → Dy, wpS_forRange → Ex, slot_tuple_getitem → Ez, IntsAre → Fo, seqObj → Gm, wpS_mono → Ib, wpS_modify → Ku, failedOf → My, SortKind → Mz, wpS_get → Oo, get?_update_seq → Rc, envOfC → Th, reverseSlice' → Vx, AllBare → Xo, firstOfTuple' → fK, subscriptTail_builtinR → M6
open PyProof.Rows.F renaming plain_set_update_loop → Ki, entry_set_update_loop → Ta
open PySem renaming wpAny_bind → Aa, wpAny_pure → Ae, PyData → Af, Shared → Ah, sizeLine → Ay, starEach → Bj, Program → Bk, wpAny_newObj_type → Cg, Around → Ci, SetTable → Cn, FuncData → Cs, wpAny_holding → Ct, wpAny_mono → Cv, foldedSetIterable → Dc, wpAny_callSpecial?_slot → Df, wpAny_call_entry → Dj, mainGlobals → Dl, wpAny_field → Eh, cellsFrom → En, rawInt → Fe, IsPair → Fz, sizeLine_eq → Gn, behindInMarks → Gx, wpAny_seqItems → Gy, codeAny → Ha, sysModules → Hf, backTo → Hg, wpAny_standAt → Hj, wpAny_comprehension_free → Hk, letOwnedTupleGo → Hy, codeAny_builtin → Hz, wpAny_isInstance → Ip, wpAny_setField_rec → Iv, pyNext → Jh, wpAny_loadPart' → Jj, wpAny_typeOf → Jk, wpAny_truthy_bool → Jl, wpAny_of_eq → Jm, binaryOp → Jn, wpAny_rule → Jr, newFunctionEnv → Kc, firstArgMember → Kd, compareOp → Ke, DictEntry → Kg, wpAny_typeNameOfWhole_keyiter → Kr, unsetMember → Ks, codeAny_compStart_list → Kv, wpAny_attempt → Lh, wpAny_setField → Ma, assignEach → Mb, wpAny_typeNameOf_keyiter → Mx, wpAny_pyIter_tuple → Nq, assign → Nr, swapsWith → Oa, codeAny_mono → Oq, bootBuiltins → Os, builtinLookup_eq_fast → Pu, wpAny_pyIter_zip → Px, tupleKind → Py, plainId_quiet → Qe, holding → Qf, sliceBounds → Qq, setField → Qr, ZipApart → Qs, NameKind → Qv, wpAny_passesOwn → Rb, getItem → Rv, wpAny_Call_Name_kw → Tg, compEnvC → Ti, wpAny_storeSet_of → Ux, wpAny_pyIter_enum → Uy, wpAny_dictEntries → Uz, Keyword → Vc, attributeBase → Vy, wpAny_askSetting → Wl, pickOrder → Wm, wpAny_nextOf_list_item → Xj, intKind → Xk, call_meets → Xl, typeLookup_type → Zc, codeAny_of_tree → Zd, wpAny_updateSeq_pair → bI, wpAny_fieldsOf → bJ, keywordEach → bK, isSubtype_type → bL, entryFor_alias → bM, IsPart → bN, standAt → bT, wpAny_onRaise → fJ, wpAny_load → fN, typeLookup → fO, setEntries → fP, entryOfKey → fQ, wpAny_pyIter_slot → jB, wpAny_pyIter_list → jC, codeAny_loop → jD, noFill_tuple_add → mK, wpAny_letOwnedTupleGo_enum → wF, wpAny_letOwnedTupleGo_zip → zM, wpAny_pyNext_tuple_item → L9, wpAny_pyNext_tuple_end → M5, slot_list_getitem → IY
open PySem.Around renaming under_plainId → Gd
open PySem.Builtin.Dict renaming updateFrom → cN
open PySem.Builtin.Dict_items renaming ownsTuple → Vd
open PySem.Builtin.Frozenset renaming addrOf → Er, isAnySet → Jp, updateFrom → Mf, copyOf → Oe, baseOf → Xn, slot1 → Zh
open PySem.Builtin.List renaming listTooLong → La, listFitsIndex → Ol, listLengthHint → Zm
open PySem.Builtin.Range renaming rangeSize → Lj
open PySem.Builtin.Slice renaming slicePlaces → Kk, sliceAdjust → Ou, sliceApplied → Zl
open PySem.Builtin.SmallTypes renaming nextOf → Cf, ownedTupleIsFree → Dh, ownedTupleHandOut → Ra
open PySem.Builtin.Tuple renaming tupleExact → Gv, tupleItemsOf → Zj, tupleIsExact → Zk
open PySem.Calls renaming call_function_entry → Rg, Name_function_global → jG
open PySem.F renaming slot_zip_next → Xh
open PySem.Heap renaming get?_push_of_some → Ai, get?_push_size → Ar, lt_size → Aw, SameBut → Cu, get?_update_self → Fd, size_push → He, size_update → Oj, get?_push_cases → Oz, get?_none_of_le → Xf, ExtBut → Xg, get?_update_other → tW
open PySem.Heap.SameBut renaming update → Bo, refl → Pf
open PySem.NameKind renaming cell → Eo, free → Ew
open PySem.Obj renaming mapSeq → Ge, data_mapFields → Rf
open PySem.PassesOwn renaming never → Es
open PySem.PyData renaming int → Av, depthAll → Br, depth → Dz, tuple → Li
open PySem.SeqAt renaming EqAt → Od
open PySem.SetTable renaming below → Cp, bits → Di, sizeAbove → Dv, insertAt → Hd, turns → Hv, runEnd → Ik, laid → Jv, layClean → Qt, fill → Qx, insertAt_perm → mH
open PySem.SetTable.below renaming go → Va
open PySem.SetTable.layClean renaming free → Lc
open PySem.SetTable.probe renaming go → Ot
open PySem.Str renaming ofString → Ds
open PySem.Value renaming ref → Be, none → Gp, type → Me, int → Oc
open Sum renaming inl → Ze
namespace L2
open PySem PySem.Spec PyProof.Rows
abbrev Lb:=Sum Int Str
def iR:Lb->Value->Bool
 | .inl k,v=>Value.isInt k v
 | .inr x,v=>Value.isStrOf x v
def KP(w:World):Lb->Int
 | .inl k=>hashInt k
 | .inr x=>hashStr w x
theorem Io:∀{k:Lb} {v:Value},iR k v=true->(∃i t,k=Ze i/\v=Oc i t)\/(∃x t,k=Sum.inr x/\v=Value.str x t)
 | .inl i,v,h=>by
  obtain ⟨t,e⟩:=Value.isInt_shape (k:=i) (v:=v) h
  exact .inl ⟨i,t,rfl,e⟩
 | .inr x,v,h=>by
  obtain ⟨t,e⟩:=Value.isStrOf_shape (x:=x) (v:=v) h
  exact .inr ⟨x,t,rfl,e⟩
theorem xD(i:Int)(t:Tok):iR (.inl i) (.int i t)=true:=by simp [iR,Value.isInt]
theorem xG(x:Str)(t:Tok):iR (.inr x) (.str x t)=true:=by simp [iR,Value.isStrOf]
theorem AY(a b:Int):decide ((Ze a:Lb)=Ze b)=(a == b):=by
 by_cases e:a=b
 ·subst e; simp
 ·have h:¬ (Ze a:Lb)=Ze b:=λq=>e (Sum.inl.inj q)
  rw[decide_eq_false h]
  exact (beq_eq_false_iff_ne.mpr e).symm
theorem AW(a b:Str):decide ((Sum.inr a:Lb)=Sum.inr b)=decide (a=b):=by
 by_cases e:a=b
 ·subst e; simp
 ·have h:¬ (Sum.inr a:Lb)=Sum.inr b:=λq=>e (Sum.inr.inj q)
  rw[decide_eq_false h,decide_eq_false e]
theorem AX(a:Int)(b:Str):decide ((Ze a:Lb)=Sum.inr b)=false:=decide_eq_false (λq=>nomatch q)
theorem EG(a:Str)(b:Int):decide ((Sum.inr a:Lb)=Ze b)=false:=decide_eq_false (λq=>nomatch q)
def Kb(prog:Bk)(w:World):PySem.KeyKind prog w Lb where
 is:=iR
 hash:=KP w
 inj:=λv a b g d=>by
  rcases Io g with ⟨i,t,rfl,rfl⟩ | ⟨x,t,rfl,rfl⟩
  ·rcases Io d with ⟨j,u,rfl,e⟩ | ⟨y,u,rfl,e⟩
   ·injection e with e1 _; rw[e1]
   ·exact nomatch e
  ·rcases Io d with ⟨j,u,rfl,e⟩ | ⟨y,u,rfl,e⟩
   ·exact nomatch e
   ·injection e with e1 _; rw[e1]
 byValue:=λk v h=>by
  rcases Io h with ⟨i,t,rfl,rfl⟩ | ⟨x,t,rfl,rfl⟩ <;> rfl
 pyHash:=λc h=>by
  rcases Io c with ⟨i,t,rfl,rfl⟩ | ⟨x,t,rfl,rfl⟩
  ·exact wpAny_pyHash_int h
  ·exact wpAny_pyHash_str h
 eqBool:=λf c h=>by
  rcases Io f with ⟨i,t,rfl,rfl⟩ | ⟨x,t,rfl,rfl⟩
  ·rcases Io c with ⟨j,u,rfl,rfl⟩ | ⟨y,u,rfl,rfl⟩
   ·rw[AY] at h; exact wpAny_eqBool_int h
   ·rw[AX] at h; exact SeqAt.EqAt.int_str i t y u _ _ _ _ h
  ·rcases Io c with ⟨j,u,rfl,rfl⟩ | ⟨y,u,rfl,rfl⟩
   ·rw[EG] at h; exact SeqAt.EqAt.str_int x t j u _ _ _ _ h
   ·rw[AW] at h; exact wpAny_eqBool_str h
 «strs»:=λk x t v h=>by
  rcases Io h with ⟨i,u,rfl,e⟩ | ⟨y,u,rfl,e⟩
  ·exact nomatch e
  ·injection e with e1 _
   subst e1
   cases v <;> rfl
theorem qD(prog:Bk)(w:World)(i:Int)(t:Tok):(Kb prog w).is (.inl i) (.int i t)=true:=xD i t
theorem qK(prog:Bk)(w:World)(x:Str)(t:Tok):(Kb prog w).is (.inr x) (.str x t)=true:=xG x t
inductive V where
 | non | bl (b:Bool) | int (i:Int) | str (x:Str) | byt (b:Array UInt8) | flt (b:UInt64) | ref (a:Addr) | ty (n:String)
 deriving DecidableEq
def RelV:V->Value->Prop
 | .non,u=>u=Gp
 | .bl b,u=>u=Value.bool b
 | .int i,u=>∃t,u=Oc i t
 | .str x,u=>∃t,u=Value.str x t
 | .byt b,u=>∃t,u=Value.bytes b t
 | .flt b,u=>∃t,u=Value.float b t
 | .ref a,u=>u=Be a
 | .ty n,u=>u=Me n
abbrev Gj:List V->List Value->Prop:=Paired RelV
theorem Gj.length{xs:List V}{us:List Value}(r:Gj xs us):xs.length=us.length:=Paired.length r
theorem Gj.get:∀{xs:List V} {us:List Value} {i:Nat} {x:V},Gj xs us->xs[i]? = some x->∃u,us[i]? = some u/\RelV x u
 | _,_,_,_,.nil,e=>by simp at e
 | _,_,0,_,.cons r _,e=>by simp at e; subst e; exact ⟨_,rfl,r⟩
 | _,_,i+1,x,.cons _ t,e=>by
  obtain ⟨u,b,a⟩:=Gj.get (i:=i) (x:=x) t (by simpa using e)
  exact ⟨u,by simpa using b,a⟩
theorem Gj.set{x:V}{u:Value}(r:RelV x u):∀{xs:List V} {us:List Value} (i:Nat),Gj xs us->Gj (xs.set i x) (us.set i u)
 | _,_,_,.nil=>.nil
 | _,_,0,.cons _ t=>.cons r t
 | _,_,i+1,.cons q t=>.cons q (Gj.set r i t)
theorem Gj.append:∀{xs ys:List V} {us a:List Value},Gj xs us->Gj ys a->Gj (xs++ys) (us++a)
 | _,_,_,_,.nil,s=>s
 | _,_,_,_,.cons r t,s=>.cons r (Gj.append t s)
theorem Gj.take:∀{xs:List V} {us:List Value} (n:Nat),Gj xs us->Gj (xs.take n) (us.take n)
 | _,_,0,_=>.nil
 | _,_,_+1,.nil=>.nil
 | _,_,n+1,.cons r t=>.cons r (Gj.take n t)
theorem Gj.drop:∀{xs:List V} {us:List Value} (n:Nat),Gj xs us->Gj (xs.drop n) (us.drop n)
 | _,_,0,r=>r
 | _,_,_+1,.nil=>.nil
 | _,_,n+1,.cons _ t=>Gj.drop n t
def yT:Option V->Option Value->Prop
 | some v,some u=>RelV v u
 | none,none=>True
 | _,_=>False
def KV{a:Type}:List (a×V)->List (a×Value)->Prop:=Paired λ(p:a×V) (q:a×Value)=>p.1=q.1/\RelV p.2 q.2
def kV:Lb->V
 | .inl i=>.int i
 | .inr x=>.str x
inductive HO where
 /-- a list -/
 | lst (xs:List V)
 /-- a tuple (never changes) -/
 | tup (xs:List V)
 /-- a dict whose keys are ints and texts; one whose keys are tuples of ints and texts (the empty one is both) -/
 | dK (kvs:List (Lb×V)) | dT (kvs:List (List Lb×V))
 /-- a set of ints: its members,its size -/
 | set (S:Int->Bool) (n:Nat)
 /-- an instance of the class at C,its dict at dx,its attributes -/
 | ins (C dx:Addr) (fs:List (Str×V))
 /-- the dict of the instance at x -/
 | own (x:Addr)
 /-- the dict of an exception -/
 | xd (fs:List (Str×V))
 /-- a bound method,f of x -/
 | met (f x:Addr)
 /-- a range object lo,lo+1,.. below hi -/
 | rng (lo hi:Int)
 /-- a thing that is known to the object (the script; a dict while a loop walks it): read,never written while it is so -/
 | frz (o:Obj) (u:HO)
 /-- a code object's table -/
 | tbl (ps:Array Value)
 /-- any other thing,by what is true of its one object (a def of one's own: aQ a S n:=HO.ext λh=>..) -/
 | ext (φ:Heap->Prop)
abbrev Hp:=Addr->Option HO
def upd(H:Hp)(a:Addr)(o:HO):Hp:=λb=>if b=a then some o else H b
theorem Du{H:Hp}{a:Addr}{o:HO}:upd H a o a=some o:=by unfold upd; rw[if_pos rfl]
theorem Ek{H:Hp}{a b:Addr}{o:HO}(h:b≠a):upd H a o b=H b:=by unfold upd; rw[if_neg h]
theorem Y4{H:Hp}{a b:Addr}{o u:HO}(h:H a=some o)(h':H b=some u)(d:o≠u):a≠b:=by
 intro e; subst e; rw[h] at h'; exact d (Ca h')
theorem Gw{H:Hp}{a b:Addr}{o:HO}(h:H a=some o)(h':H b=none):a≠b:=by
 intro e; subst e; rw[h] at h'; cases h'
section
variable(P:Bk)(w:World)
def Jz(H:Hp)(h:Heap)(a:Addr):HO->Prop
 | .lst d=>d.length<=Ay/\∃(b:List Value) (n:Nat),Gj d b/\h.get? a=some { cls:=.type "list",data:=.seq b.toArray n }
 | .tup d=>d.length<=Ay/\∃b:List Value,Gj d b/\IsTup h a b.toArray
 | .dK c=>c.length<=Ay/\(a == Hf)=false/\∃vs,KV c vs/\h.DictOf (Kb P w) a vs
 | .dT c=>c.length<=Ay/\(a == Hf)=false/\∃d:List (List Lb×Addr×Value),
   Paired (λ(p:List Lb×V) (q:List Lb×Addr×Value)=>p.1=q.1/\H q.2.1=some (.tup (p.1.map kV))/\RelV p.2 q.2.2) c d /\
   ∃o j l,h.get? a=some o/\o.ExactDict/\o.data=.dict j l/\j.toList=d.map (fQ (Py (Kb P w)))/\(d.map (·.1)).Nodup/\l=j.size
 | .set S n=>h.SetOf (Xk P w) a S n
 | .ins C g fs=>H g=some (.own a)/\fs.length<=1000/\g≠a/\h.get? a=some (PySem.W.instObj C g) /\
   ∃e,h.Ns1 g e/\(∀f,yT (fs.lookup f) (e f))/\PySem.Within e (fs.map (·.1))
 | .own _=>∃o,h.get? a=some o
 | .xd fs=>∃e,h.Ns1 a e/\∀f,yT (fs.lookup f) (e f)
 | .rng lo r=>∃t u v,h.get? a=some { cls:=.type "range",data:=.fields #[.int lo t,.int r u,.int 1 v] }
 | .frz o u=>h.get? a=some o/\Jz H h a u
 | .tbl s=>h.get? a=some { cls:=.none,data:=.fields s }
 | .met f x=>h.get? a=some (PySem.W.methodObj (.ref f) (.ref x))
 | .ext i=>i h/\(∃o,h.get? a=some o)/\∀m k:Heap,i m->(∀o,m.get? a=some o->k.get? a=some o)->i k
def Zx(H:Hp)(h:Heap):Prop:=∀a o,H a=some o->Jz P w H h a o
end
section
variable{P:Bk}{w:World}{H g:Hp}{h h':Heap}{a:Addr}{o:HO}
theorem Jz.lt(x:Jz P w H h a o):a<h.objs.size:=by
 cases o with
 | lst c=>obtain ⟨_,_,_,_,e⟩:=x; exact Aw e
 | tup c=>obtain ⟨_,_,_,p⟩:=x; exact p.lt
 | dK b=>obtain ⟨_,_,_,_,o,_,_,e,_⟩:=x; exact Aw e
 | dT b=>obtain ⟨_,_,_,_,o,_,_,e,_⟩:=x; exact Aw e
 | set S n=>obtain ⟨o,_,_,_,e,_⟩:=x; exact Aw e
 | ins C d fs=>obtain ⟨_,_,_,e,_⟩:=x; exact Aw e
 | own y=>obtain ⟨_,e⟩:=x; exact Aw e
 | xd fs=>obtain ⟨_,⟨_,_,_,e,_⟩,_⟩:=x; exact Aw e
 | rng lo i=>obtain ⟨_,_,_,e⟩:=x; exact Aw e
 | frz g u=>obtain ⟨e,_⟩:=x; exact Aw e
 | tbl k=>exact Aw (show h.get? a=some _ from x)
 | met f y=>exact Aw (show h.get? a=some _ from x)
 | ext j=>obtain ⟨_,⟨_,e⟩,_⟩:=x; exact Aw e
theorem Paired.mapP{d c:Type}{F G:d->c->Prop}:∀{l₁:List d} {l₂:List c},Paired F l₁ l₂->(∀a b,F a b->G a b)->Paired G l₁ l₂
 | _,_,.nil,_=>.nil
 | _,_,.cons r t,f=>.cons (f _ _ r) (Paired.mapP t f)
theorem Jz.stay(x:Jz P w H h a o)(k:∀b u,(b=a\/H b=some (.own a))->h.get? b=some u->h'.get? b=some u)(J:∀b,H b=some (.own a)->g b=some (.own a))(F:∀b xs,H b=some (.tup xs)->g b=some (.tup xs)):Jz P w g h' a o:=by
 induction o with
 | lst xs=>obtain ⟨z,m,n,r,e⟩:=x; exact ⟨z,m,n,r,k _ _ (.inl rfl) e⟩
 | tup xs=>obtain ⟨z,m,r,i,e,c⟩:=x; exact ⟨z,m,r,i,k _ _ (.inl rfl) e,c⟩
 | dK A=>obtain ⟨z,y,vs,r,i,l,j,e,c⟩:=x; exact ⟨z,y,vs,r,i,l,j,k _ _ (.inl rfl) e,c⟩
 | dT A =>
  obtain ⟨z,y,xs,r,i,l,j,e,c⟩:=x
  exact ⟨z,y,xs,Paired.mapP r λp q z=>⟨z.1,F _ _ z.2.1,z.2.2⟩,i,l,j,k _ _ (.inl rfl) e,c⟩
 | set S n=>obtain ⟨i,l,j,t,e,c⟩:=x; exact ⟨i,l,j,t,k _ _ (.inl rfl) e,c⟩
 | ins C K fs =>
  obtain ⟨d,z,E,e,s,⟨B,l,j,I,c⟩,r⟩:=x
  exact ⟨J _ d,z,E,k _ _ (.inl rfl) e,s,⟨B,l,j,k _ _ (.inr d) I,c⟩,r⟩
 | own y=>obtain ⟨i,e⟩:=x; exact ⟨i,k _ _ (.inl rfl) e⟩
 | xd fs=>obtain ⟨s,⟨B,l,j,e,c⟩,r⟩:=x; exact ⟨s,⟨B,l,j,k _ _ (.inl rfl) e,c⟩,r⟩
 | rng lo L=>obtain ⟨t,u,v,e⟩:=x; exact ⟨t,u,v,k _ _ (.inl rfl) e⟩
 | frz i u G=>obtain ⟨e,q⟩:=x; exact ⟨k _ _ (.inl rfl) e,G q⟩
 | tbl D =>
  have e:h.get? a=some { cls:=.none,data:=.fields D }:=x
  show h'.get? a=some { cls:=.none,data:=.fields D }
  exact k a _ (.inl rfl) e
 | met f y =>
  have e:h.get? a=some (PySem.W.methodObj (.ref f) (.ref y)):=x
  show h'.get? a=some (PySem.W.methodObj (.ref f) (.ref y))
  exact k a _ (.inl rfl) e
 | ext M=>obtain ⟨p,⟨o,e⟩,st⟩:=x; exact ⟨st _ _ p λo q=>k _ _ (.inl rfl) q,⟨o,k _ _ (.inl rfl) e⟩,st⟩
theorem Zx.lt(x:Zx P w H h)(e:H a=some o):a<h.objs.size:=(x a o e).lt
theorem Zx.fresh(x:Zx P w H h)(e:h.objs.size<=a):H a=none:=by
 cases q:H a with
 | none=>rfl
 | some u=>exact absurd (Cj (x.lt q) e) (Ia _)
theorem Zx.kept(x:Zx P w H h)(k:∀b u,h.get? b=some u->h'.get? b=some u):Zx P w H h':=λa o e =>
 (x a o e).stay (λb u _ q=>k b u q) (λ_ q=>q) λ_ _ q=>q
theorem Zx.laid(x:Zx P w H h)(k:∀b u,h.get? b=some u->h'.get? b=some u)(i:h.objs.size<=a)(d:Jz P w (upd H a o) h' a o):Zx P w (upd H a o) h':=λb u e=>by
 have g:=x.fresh i
 by_cases f:b=a
 ·subst f; rw[Du] at e; cases e; exact d
 ·rw[Ek f] at e
  exact (x b u e).stay (λc v _ q=>k c v q) (λc q=>by rw[Ek (Gw q g)]; exact q) λc j q=>by rw[Ek (Gw q g)]; exact q
end
def Rd(H:Hp)(a:Addr)(u:HO):Prop:=H a=some u\/∃o,H a=some (.frz o u)
theorem Rd.ok{P:Bk}{w:World}{H:Hp}{h:Heap}{a:Addr}{u:HO}(r:Rd H a u)(x:Zx P w H h):Jz P w H h a u:=by
 rcases r with r | ⟨o,r⟩
 ·exact x a u r
 ·obtain ⟨_,q⟩:=x a _ r
  exact q
def HP:Option HO->Prop
 | some (.lst _)=>True
 | some (.dK _)=>True
 | some (.dT _)=>True
 | some (.set _ _)=>True
 | some (.ins _ _ _)=>True
 | some (.ext _)=>True
 | _=>False
section
variable{P:Bk}{w:World}{H:Hp}{h h':Heap}{x e:Addr}{a:HO}
theorem Zx.write(ok:Zx P w H h)(i:HP (H x))(o:e=x\/H e=some (.own x))(k:∀b u,b≠e->h.get? b=some u->h'.get? b=some u)(l:∃u,h'.get? e=some u)(m:Jz P w (upd H x a) h' x a):Zx P w (upd H x a) h':=λb u q=>by
 have f:∀c y,H c=some (.own y)->c≠x:=λc y r z=>by subst z; rw[r] at i; exact i
 have fZ:∀c j,H c=some (.tup j)->c≠x:=λc j r z=>by subst z; rw[r] at i; exact i
 by_cases g:b=x
 ·subst g; rw[Du] at q; cases q; exact m
 ·rw[Ek g] at q
  by_cases d:b=e
  ·have n:H b=some (.own x):=by
    rcases o with z | z
    ·exact absurd (d.trans z) g
    ·rw[d]; exact z
   rw[q] at n; cases n
   obtain ⟨v,p⟩:=l
   exact ⟨v,by rw[d]; exact p⟩
  ·refine (ok b u q).stay (λc v hc r=>k c v ?_ r) (λc r=>by rw[Ek (f c b r)]; exact r) λc j r=>by rw[Ek (fZ c j r)]; exact r
   rcases hc with rfl | hc
   ·exact d
   ·rintro rfl
    rcases o with z | z
    ·exact f c b hc z
    ·rw[hc] at z; cases z; exact g rfl
end
structure Un(fs ex:List Addr)(H H':Hp)(h h':Heap):Prop where
 keep:∀b o,h.get? b=some o->H b=none->b∉fs->b∉ex->h'.get? b=some o
 slot:∀b o,h.get? b=some o->H b=none->b∈fs->b∉ex->∃sl,h'.get? b=some { o with slots:=sl }
 free:∀b o,h.get? b=some o->H b=none->b∉ex->H' b=none
 there:∀b o,h.get? b=some o->b∉ex->∃o',h'.get? b=some o'
 tups:∀b xs,H b=some (.tup xs)->H' b=some (.tup xs)
 frzs:∀b o u,H b=some (.frz o u)->H' b=some (.frz o u)
 tbls:∀b ps,H b=some (.tbl ps)->∃more,H' b=some (.tbl (ps++more))
section
variable{fs f ex d:List Addr}{H c i:Hp}{h h1 g h':Heap}{a x e:Addr}{o:HO}
theorem Un.any(u:Un fs ex H c h h1){b:Addr}{a:Obj}(q:h.get? b=some a)(n:H b=none)(e:b∉ex):∃f,h1.get? b=some { a with slots:=f }:=by
 by_cases d:b∈fs
 ·exact u.slot b a q n d e
 ·exact ⟨a.slots,u.keep b a q n d e⟩
theorem Un.kept(k:∀b u,h.get? b=some u->h'.get? b=some u):Un fs ex H H h h' :=
 ⟨λb a q _ _ _=>k b a q,λb a q _ _ _=>⟨a.slots,k b a q⟩,λ_ _ _ n _=>n,λb a q _=>⟨a,k b a q⟩,λ_ _ q=>q,λ_ _ _ q=>q,λ_ c q=>⟨#[],by rw[q]; simp⟩⟩
theorem Un.refl:Un fs ex H H h h:=Un.kept λ_ _ q=>q
theorem Un.laid(k:∀b u,h.get? b=some u->h'.get? b=some u)(e:h.objs.size<=a)(c:H a=none):Un fs ex H (upd H a o) h h' where
 keep:=λb u q _ _ _=>k b u q
 slot:=λb u q _ _ _=>⟨u.slots,k b u q⟩
 free:=λb u q n _=>by rw[Ek (Bq (Cj (Aw q) e))]; exact n
 there:=λb u q _=>⟨u,k b u q⟩
 tups:=λb d q=>by rw[Ek (Gw q c)]; exact q
 frzs:=λb u d q=>by rw[Ek (Gw q c)]; exact q
 tbls:=λb f q=>⟨#[],by rw[Ek (Gw q c),q]; simp⟩
theorem Un.write(c:HP (H x))(l:e=x\/H e=some (.own x))(k:∀b u,b≠e->h.get? b=some u->h'.get? b=some u)(d:∃u,h'.get? e=some u):Un fs ex H (upd H x o) h h':=by
 have i:∀b,H b=none->b≠x:=λb n z=>by subst z; rw[n] at c; exact c
 have g:∀b,H b=none->b≠e:=λb n z=>by
  subst z
  rcases l with r | r
  ·exact i b n r
  ·rw[n] at r; cases r
 have f:∀b u,H b=some u->¬ HP (some u)->b≠x:=λb u q j z=>by subst z; rw[q] at c; exact j c
 refine ⟨λb u q n _ _=>k b u (g b n) q,λb u q n _ _=>⟨u.slots,k b u (g b n) q⟩,λb u q n _=>by rw[Ek (i b n)]; exact n,λb u q _=>?_,
  λb m q=>by rw[Ek (f b _ q λz=>z)]; exact q,λb u m q=>by rw[Ek (f b _ q λz=>z)]; exact q,λb p q=>⟨#[],by rw[Ek (f b _ q λz=>z),q]; simp⟩⟩
 by_cases a:b=e
 ·subst a; exact d
 ·exact ⟨u,k b u a q⟩
end
def JH(h:Heap)(H:Hp):List Addr:=(Cc h.objs.size).filter λa=>(H a).isSome
def lK(h:Heap)(H:Hp):Heap:=PySem.W.hideAll h (JH h H)
theorem yK(h:Heap)(H:Hp):(lK h H).objs.size=h.objs.size:=PySem.W.hideAll_size _ _
theorem B5{h:Heap}{H:Hp}{b:Addr}{o:Obj}(e:h.get? b=some o)(n:H b=none):(lK h H).get? b=some o :=
 PySem.W.hideAll_get _ e λa=>by
  have q:(H b).isSome=true:=(Iw.mp a).2
  rw[n] at q; simp at q
theorem Q8{h:Heap}{H:Hp}{b:Addr}{o:Obj}(e:(lK h H).get? b=some o):h.get? b=some o/\H b=none:=by
 have a:h.get? b=some o:=PySem.W.of_hideAll (JH h H) e
 refine ⟨a,?_⟩
 cases q:H b with
 | none=>rfl
 | some x =>
  have c:b∈JH h H:=Iw.mpr ⟨Fw.mpr (Aw a),by simp [q]⟩
  have z:(lK h H).get? b=none:=PySem.W.hideAll_none (JH h H) c
  rw[z] at e; cases e
def P6(g h:Heap)(L:Addr):List (Addr×Obj):=(Cc h.objs.size).filterMap λa=>if a=L\/(g.get? a).isSome=true then none else (h.get? a).map λo=>(a,o)
def Ie(g h:Heap)(L d:Addr):List (Addr×Obj):=(P6 g h L).filter λp=>decide (p.1≠d)
structure Mod(K:PySem.W.Frag)(mg:Str->Option Value)(base:Heap):Prop where
 kin:K.In base
 glob:base.Ns Dl mg
 blt:∃mb,base.Ns builtinsNs mb/\∀x:Str,x ≠ "__name__" -> mb x=Os x
 nolimit:base.NoLimit
structure Cx where
 prog:Bk
 w:World
 K:PySem.W.Frag
 mg:Str->Option Value
 base:Heap
 A:Ci
 N:List Str
 s₀:Ah
 H₀:Hp
 env:Env
 outer:List Env
 stack:List Env
 ex:List Addr
 fn:Str->Bool
 calm:Bool
 pn:List (Addr×Obj)
 xe:Value->Ah->Prop
def yZ(l:List Env):List Addr:=l.filterMap (·.frame)
abbrev Cx.fs(X:Cx):List Addr:=yZ X.outer
def JD(a:Scope)(x:Str):Prop:=a.names.lookup x=some .local\/a.names.lookup x=some .cell\/a.names.lookup x=some .free
def Loc(a:Scope)(x:Str):Prop:=a.names.lookup x=some .local\/a.names.lookup x=some .cell
def KF(env:Env)(h:Heap)(m:Str->Option Value)(x:Str)(u:Value):Prop :=
 (env.kindOf x=some .local/\m x=some u)\/((env.kindOf x=some .cell\/env.kindOf x=some .free)/\∃c,env.cells.lookup x=some c/\h.IsCell c (some u))
structure Cx.Ok(X:Cx):Prop where
 mod:Mod X.K X.mg X.base
 kind:X.env.scope.kind=.function
 glob:X.env.globals=Dl
 blt:X.env.builtins=builtinsNs
 above:X.s₀.heap.objs.size<=X.env.locals
 inj:∀x y c,X.env.cells.lookup x=some c->X.env.cells.lookup y=some c->x=y
 has:∀x,(X.env.kindOf x=some .cell\/X.env.kindOf x=some .free)->∃c,X.env.cells.lookup x=some c
 cab:∀x c,X.fn x=true->X.env.cells.lookup x=some c->X.s₀.heap.objs.size<=c
 hd:X.calm=true->X.A.handled=none
 frames:X.A.frames=some X.stack
 stk:X.stack=X.outer\/(X.stack=X.env::X.outer/\X.env.frame=some X.env.locals)
 exf:∀b∈X.ex,b≠X.env.locals/\∀x c,X.env.cells.lookup x=some c->c≠b
 bs:∀b o,X.base.get? b=some o->X.s₀.heap.get? b=some o/\X.H₀ b=none
 bsz:X.base.objs.size<=X.s₀.heap.objs.size
 noex:∀b o,X.base.get? b=some o->b∉X.ex
 exfs:∀b∈X.ex,b∉X.fs
 funs:X.s₀.heap.FunFrames X.base X.outer
 frf:∀b∈X.fs,X.H₀ b=none
structure Inv(X:Cx)(pins:List (Addr×Obj))(σ:List (Option V))(H:Hp)(s:Ah):Prop where
 ok:X.Ok
 os:s.os=X.s₀.os
 bare:Xo s.gens
 base:Un X.fs X.ex X.H₀ H X.s₀.heap s.heap
 loc:∃m,s.heap.Ns X.env.locals m/\∀(i:Nat) (x:Str) (v:V),X.N[i]? = some x->σ[i]? = some (some v)->JD X.env.scope x->∃u,RelV v u/\KF X.env s.heap m x u
 cell:∀x c,X.env.cells.lookup x=some c->∃v,s.heap.IsCell c v
 free:H X.env.locals=none
 freeC:∀x c,X.env.cells.lookup x=some c->H c=none
 pin:∀p∈X.pn++pins,s.heap.get? p.1=some p.2/\H p.1=none/\p.1≠X.env.locals/\p.1∉X.fs/\∀v,p.2.data≠.cell v
 hok:Zx X.prog X.w H s.heap
 len:σ.length=X.N.length
section
variable{X:Cx}{f:List (Addr×Obj)}{g:List (Option V)}{H B:Hp}{s:Ah}{h':Heap}
theorem Cx.Ok.nofr(ok:X.Ok){b:Addr}{o:Obj}(e:X.base.get? b=some o):b∉X.fs:=λa=>by
 have:=(ok.funs.mem a).1
 rw[e] at this; cases this
theorem Inv.bs(I:Inv X f g H s):∀b o,X.base.get? b=some o->s.heap.get? b=some o/\H b=none:=λb o e =>
 ⟨I.base.keep b o (I.ok.bs b o e).1 (I.ok.bs b o e).2 (I.ok.nofr e) (I.ok.noex b o e),I.base.free b o (I.ok.bs b o e).1 (I.ok.bs b o e).2 (I.ok.noex b o e)⟩
theorem Inv.bk(I:Inv X f g H s):∀b o,X.base.get? b=some o->s.heap.get? b=some o:=λb o e=>(I.bs b o e).1
theorem Inv.mod(I:Inv X f g H s):Mod X.K X.mg X.base:=I.ok.mod
theorem Inv.kIn(I:Inv X f g H s):X.K.In s.heap:=I.ok.mod.kin.keeps I.bk
theorem Inv.lt(I:Inv X f g H s):X.env.locals<s.heap.objs.size:=let ⟨_,hn,_⟩:=I.loc; hn.lt
theorem Inv.sz(I:Inv X f g H s):X.s₀.heap.objs.size<=s.heap.objs.size:=Cb I.ok.above (Kf I.lt)
theorem Inv.nofs(I:Inv X f g H s){a:Addr}(h:s.heap.objs.size<=a):a∉X.fs:=λb=>by
 obtain ⟨_,o,c,_⟩:=I.ok.funs.mem b
 exact absurd (Cj (Aw c) (Cb I.sz h)) (Ia _)
theorem Inv.cne(I:Inv X f g H s):∀x c,X.env.cells.lookup x=some c->c≠X.env.locals:=λx c e z=>by
 obtain ⟨v,o,d,h⟩:=I.cell x c e
 obtain ⟨m,⟨j,k,i,b,a,_⟩,_⟩:=I.loc
 rw[z,b] at d; cases d; rw[a] at h; cases h
theorem Inv.funs(I:Inv X f g H s):s.heap.FunFrames X.base X.outer:=by
 have all:∀(l:List Env),(∀b∈yZ l,b∈X.fs)->X.s₀.heap.FunFrames X.base l->s.heap.FunFrames X.base l:=by
  intro l
  induction l with
  | nil=>intro _ _; trivial
  | cons q r p =>
   intro h n
   obtain ⟨m,⟨L,o,c,i,t,j⟩,k⟩:=n
   have d:L∈X.fs:=h L (by unfold yZ; rw[Lv,c]; exact Ab)
   obtain ⟨u,e⟩:=I.base.slot L o t (I.ok.frf L d) d λz=>I.ok.exfs L z d
   exact ⟨m,⟨L,_,c,i,e,j⟩,p (λb a=>h b (by unfold yZ; rw[Lv,c]; exact Ac _ a)) k⟩
 exact all X.outer (λ_ a=>a) I.ok.funs
theorem Inv.stack(I:Inv X f g H s):s.heap.FunFrames X.base X.stack:=by
 rcases I.ok.stk with e | ⟨e,a⟩
 ·rw[e]; exact I.funs
 ·rw[e]
  obtain ⟨m,b,_⟩:=I.loc
  refine .cons (by rw[I.ok.kind]; decide) a b ?_ I.funs
  exact Xf (Cb I.ok.bsz I.ok.above)
theorem Inv.stkSub(I:Inv X f g H s):∀b∈yZ X.stack,b∈X.env.locals::X.fs:=λb a=>by
 rcases I.ok.stk with e | ⟨e,c⟩
 ·rw[e] at a; exact Ac _ a
 ·rw[e] at a
  unfold yZ at a
  rw[Lv,c] at a
  exact a
theorem Inv.stkFree(I:Inv X f g H s):∀b∈yZ X.stack,H b=none:=λb hb=>by
 rcases Ak.mp (I.stkSub b hb) with e | hb
 ·rw[e]; exact I.free
 ·obtain ⟨_,o,a,_⟩:=I.ok.funs.mem hb
  exact I.base.free b o a (I.ok.frf b hb) λz=>I.ok.exfs b z hb
theorem Inv.step{g':Array GenState}{t':Nat}{d':Drawn}{ch:List Addr}(I:Inv X f g H s)(j:∀b∈ch,(b∈X.ex\/X.s₀.heap.objs.size<=b)/\b≠X.env.locals/\(∀x c,X.env.cells.lookup x=some c->c≠b)/\∀p∈X.pn++f,p.1≠b)(keep:∀b o,b≠X.env.locals->b∉X.fs->b∉ch->s.heap.get? b=some o->H b=none->h'.get? b=some o)(slot:∀b o,b≠X.env.locals->b∈X.fs->b∉ch->s.heap.get? b=some o->H b=none->∃L,h'.get? b=some { o with slots:=L })(free:∀b o,b∉ch->s.heap.get? b=some o->H b=none->B b=none)(there:∀b o,b∉ch->s.heap.get? b=some o->∃F,h'.get? b=some F)(tups:∀b xs,H b=some (.tup xs)->B b=some (.tup xs))(frzs:∀b o u,H b=some (.frz o u)->B b=some (.frz o u))(tbls:∀b ps,H b=some (.tbl ps)->∃more,B b=some (.tbl (ps++more)))(ns:∀m,s.heap.Ns X.env.locals m->h'.Ns X.env.locals m)(M:Zx X.prog X.w B h')(U:Xo g'):Inv X f g B { s with heap:=h',gens:=g',drawn:=d',toks:=t' }:=by
 have G:∀b o,X.s₀.heap.get? b=some o->b≠X.env.locals:=λb o e=>Bq (Cj (Aw e) I.ok.above)
 have y:∀b o,X.s₀.heap.get? b=some o->b∉X.ex->b∉ch:=λb o e a C=>by
  rcases (j b C).1 with z | z
  ·exact a z
  ·exact absurd (Cj (Aw e) z) (Ia _)
 have t:∀x c,X.env.cells.lookup x=some c->∀v,s.heap.IsCell c v->h'.IsCell c v:=λx c e v ⟨o,D,K⟩=>by
  have h:c∉ch:=λz=>(j c z).2.2.1 x c e rfl
  by_cases N:c∈X.fs
  ·obtain ⟨L,q⟩:=slot c o (I.cne x c e) N h D (I.freeC x c e)
   exact ⟨_,q,K⟩
  ·exact ⟨o,keep c o (I.cne x c e) N h D (I.freeC x c e),K⟩
 refine ⟨I.ok,I.os,U,⟨λb o e n C a=>?_,λb o e n C a=>?_,λb o e n a=>?_,λb o e a=>?_,λb xs e=>tups b xs (I.base.tups b xs e),λb o xs e=>frzs b o xs (I.base.frzs b o xs e),λb ps e=>?_⟩,?_,λx c e=>?_,?_,λx c e=>?_,λp P=>?_,M,I.len⟩
 ·exact keep b o (G b o e) C (y b o e a) (I.base.keep b o e n C a) (I.base.free b o e n a)
 ·obtain ⟨L,A⟩:=I.base.slot b o e n C a
  obtain ⟨J,E⟩:=slot b _ (G b o e) C (y b o e a) A (I.base.free b o e n a)
  exact ⟨J,E⟩
 ·obtain ⟨F,A⟩:=I.base.there b o e a
  exact free b F (y b o e a) A (I.base.free b o e n a)
 ·obtain ⟨F,A⟩:=I.base.there b o e a
  exact there b F (y b o e a) A
 ·obtain ⟨V,A⟩:=I.base.tbls b ps e
  obtain ⟨T,E⟩:=tbls b _ A
  exact ⟨V++T,by rw[E,Array.append_assoc]⟩
 ·obtain ⟨m,R,W⟩:=I.loc
  refine ⟨m,ns m R,λi x v A E S=>?_⟩
  obtain ⟨u,r,l⟩:=W i x v A E S
  refine ⟨u,r,?_⟩
  rcases l with l | ⟨k,c,e,z⟩
  ·exact .inl l
  ·exact .inr ⟨k,c,e,t x c e _ z⟩
 ·obtain ⟨v,z⟩:=I.cell x c e
  exact ⟨v,t x c e v z⟩
 ·obtain ⟨m,⟨o,_,_,D,_⟩,_⟩:=I.loc
  exact free _ o (λz=>(j _ z).2.1 rfl) D I.free
 ·obtain ⟨v,o,D,K⟩:=I.cell x c e
  exact free c o (λz=>(j c z).2.2.1 x c e rfl) D (I.freeC x c e)
 ·obtain ⟨e,n,Q,O,d⟩:=I.pin p P
  have h:p.1∉ch:=λz=>(j p.1 z).2.2.2 p P rfl
  exact ⟨keep p.1 p.2 Q O h e n,free p.1 p.2 h e n,Q,O,d⟩
theorem Inv.un{t':Nat}(I:Inv X f g H s)(u:Un X.fs [] H B s.heap h')(i:Zx X.prog X.w B h'):Inv X f g B { s with heap:=h',toks:=t' }:=by
 obtain ⟨m,⟨o,x,t,j,r⟩,_⟩:=id I.loc
 obtain ⟨q,k⟩:=u.any j I.free (by simp)
 exact I.step (g':=s.gens) (d':=s.drawn) (ch:=[]) (λ_ z=>nomatch z) (λb o _ d _ e n=>u.keep b o e n d (by simp)) (λb o _ d _ e n=>u.slot b o e n d (by simp)) (λb o _ e n=>u.free b o e n (by simp)) (λb o _ e=>u.there b o e (by simp)) u.tups u.frzs u.tbls (λy l=>by
  obtain ⟨v,h,c,a,p⟩:=l
  rw[j] at a; cases a
  exact ⟨_,h,c,k,p⟩) i I.bare
theorem Inv.call{g':Array GenState}{t':Nat}{d':Drawn}{ch:List Addr}(I:Inv X f g H s)(u:Un (yZ X.stack) ch H B s.heap h')(l:Zx X.prog X.w B h')(y:Xo g')(d:∀b∈ch,(b∈X.ex\/X.s₀.heap.objs.size<=b)/\b≠X.env.locals/\(∀x c,X.env.cells.lookup x=some c->c≠b)/\∀p∈X.pn++f,p.1≠b):Inv X f g B { s with heap:=h',gens:=g',drawn:=d',toks:=t' }:=by
 obtain ⟨m,⟨o,F,D,q,r⟩,_⟩:=id I.loc
 obtain ⟨C,j⟩:=u.any q I.free λz=>(d _ z).2.1 rfl
 exact I.step (ch:=ch) d (λb o j t a e n=>u.keep b o e n (λz=>(Ak.mp (I.stkSub b z)).elim j t) a) (λb o _ _ a e n=>u.any e n a) (λb o a e n=>u.free b o e n a) (λb o a e=>u.there b o e a) u.tups u.frzs u.tbls (λG v=>by
  obtain ⟨E,k,i,h,A⟩:=v
  rw[q] at h; cases h
  exact ⟨_,k,i,j,A⟩) l y
theorem Inv.turned{t':Nat}{it:Addr}(I:Inv X f g H s)(k:∀b o,b≠it->s.heap.get? b=some o->h'.get? b=some o)(l:H it=none)(h:it≠X.env.locals)(h1:it∈X.ex\/X.s₀.heap.objs.size<=it)(i:∀x c,X.env.cells.lookup x=some c->c≠it)(y:∀p∈X.pn++f,p.1≠it):Inv X f g H { s with heap:=h',toks:=t' }:=by
 have d:∀b u,H b=some u->b≠it:=λb u e z=>by rw[z,l] at e; cases e
 refine I.step (g':=s.gens) (d':=s.drawn) (ch:=[it]) (λb j=>?_) (λb o _ _ a e _=>k b o (λz=>a (by simp [z])) e) (λb o _ _ a e _=>⟨o.slots,k b o (λz=>a (by simp [z])) e⟩) (λ_ _ _ _ n=>n)
  (λb o a e=>⟨o,k b o (λz=>a (by simp [z])) e⟩) (λ_ _ e=>e) (λ_ _ _ e=>e) (λb C e=>⟨#[],by rw[e]; simp⟩) (λm t=>?_) (λb u e=>?_) I.bare
 ·have e:b=it:=by simpa using j
  subst e
  exact ⟨h1,h,i,y⟩
 ·obtain ⟨o,B,w,A,r⟩:=t
  exact ⟨o,B,w,k _ o (Lu h) A,r⟩
 ·refine (I.hok b u e).stay (λc v a q=>k c v ?_ q) (λ_ q=>q) λ_ _ q=>q
  rcases a with z | z
  ·rw[z]; exact d b u e
  ·exact d c _ z
theorem Inv.tok(I:Inv X f g H s)(t:Nat):Inv X f g H { s with toks:=t }:=I.un (h':=s.heap) (t':=t) Un.refl I.hok
theorem Inv.kept{t':Nat}(I:Inv X f g H s)(k:∀b u,s.heap.get? b=some u->h'.get? b=some u):Inv X f g H { s with heap:=h',toks:=t' }:=I.un (Un.kept k) (I.hok.kept k)
theorem Inv.laid{a:Addr}{o:HO}{t':Nat}(I:Inv X f g H s)(k:∀b u,s.heap.get? b=some u->h'.get? b=some u)(c:s.heap.objs.size<=a)(d:Jz X.prog X.w (upd H a o) h' a o):Inv X f g (upd H a o) { s with heap:=h',toks:=t' }:=I.un (Un.laid k c (I.hok.fresh c)) (I.hok.laid k c d)
theorem Inv.write{x e:Addr}{o:HO}{t':Nat}(I:Inv X f g H s)(d:HP (H x))(h:e=x\/H e=some (.own x))(k:∀b u,b≠e->s.heap.get? b=some u->h'.get? b=some u)(a:∃u,h'.get? e=some u)(c:Jz X.prog X.w (upd H x o) h' x o):Inv X f g (upd H x o) { s with heap:=h',toks:=t' }:=I.un (Un.write d h k a) (I.hok.write d h k a c)
theorem Inv.pins_of{a:List (Addr×Obj)}(I:Inv X f g H s)(h:∀p∈a,s.heap.get? p.1=some p.2/\H p.1=none/\p.1≠X.env.locals/\p.1∉X.fs/\∀v,p.2.data≠.cell v):Inv X a g H s :=
 ⟨I.ok,I.os,I.bare,I.base,I.loc,I.cell,I.free,I.freeC,λp b=>(Bc.mp b).elim (λz=>I.pin p (Ao _ z)) (h p),I.hok,I.len⟩
theorem mP{N:List Str}(d:N.Nodup){i j:Nat}{x:Str}(a:N[i]? = some x)(b:N[j]? = some x):i=j:=by
 obtain ⟨g,c⟩:=Ax.mp a
 obtain ⟨f,e⟩:=Ax.mp b
 exact (List.getElem_inj d).mp (c.trans e.symm)
theorem yA{M:Model}{A:Ci}{E:Value->Ah->Prop}{i:Nat}{x:Str}{v:V}{u:Value}{Q:Unit->Ah->Prop}(I:Inv X f g H s)(hN:X.N.Nodup)(O:X.N[i]? = some x)(C:Loc X.env.scope x)(r:RelV v u)(h:∀s',Inv X f (g.set i (some v)) H s'->(∃a,Cu a s.heap s'.heap/\(a=X.env.locals\/X.env.cells.lookup x=some a))->Q () s')(hf:X.fn x=true\/X.env.scope.names.lookup x=some .local:=by first | exact .inl rfl | exact .inr rfl | assumption):wpAny M A (storeName X.env x u) Q E s:=by
 obtain ⟨m,hn,hl⟩:=id I.loc
 have T:(X.env.scope.kind == .class || (X.env.scope.kind == .module && X.env.locals != X.env.globals))=false:=by rw[I.ok.kind]; rfl
 have G:i<g.length:=by rw[I.len]; exact (Ax.mp O).1
 have cne:=I.cne
 have t:∀{a:Addr} {h':Heap},(∃o,s.heap.get? a=some o/\H a=none)->Cu a s.heap h'->Zx X.prog X.w H h':=λ{a h'} ha l b ob e=>by
  obtain ⟨_,_,D⟩:=ha
  refine (I.hok b ob e).stay (λc W hc q=>(l.2 c ?_).trans q) (λ_ q=>q) λ_ _ q=>q
  rintro rfl
  rcases hc with rfl | hc
  ·rw[D] at e; cases e
  ·rw[D] at hc; cases hc
 rcases C with hk | hk
 ·refine wpAny_storeName_local hk hn (λh' h0 l=>?_) T
  obtain ⟨oL,_,_,h1,_⟩:=id hn
  refine h _ ⟨I.ok,I.os,I.bare,⟨λb o e n J C=>?_,λb o e n J C=>?_,I.base.free,λb o e C=>?_,I.base.tups,I.base.frzs,I.base.tbls⟩,⟨_,h0,λj y v' B F e3=>?_⟩,λy c e=>?_,I.free,I.freeC,λp hp=>?_,t ⟨oL,h1,I.free⟩ l,by simpa using I.len⟩ ⟨_,l,.inl rfl⟩
  ·exact (l.2 b (Bq (Cj (Aw e) I.ok.above))).trans (I.base.keep b o e n J C)
  ·obtain ⟨sl,B⟩:=I.base.slot b o e n J C
   exact ⟨sl,(l.2 b (Bq (Cj (Aw e) I.ok.above))).trans B⟩
  ·obtain ⟨o',B⟩:=I.base.there b o e C
   exact ⟨o',(l.2 b (Bq (Cj (Aw e) I.ok.above))).trans B⟩
  ·by_cases K:j=i
   ·subst K
    rw[O] at B; cases B
    rw[tT G] at F
    cases F
    exact ⟨u,r,.inl ⟨hk,by simp⟩⟩
   ·rw[List.getElem?_set_ne (Lu K)] at F
    obtain ⟨u',r',q⟩:=hl j y v' B F e3
    refine ⟨u',r',?_⟩
    rcases q with ⟨k,e⟩ | ⟨k,c,e,z⟩
    ·refine .inl ⟨k,?_⟩
     have : y≠x:=λe=>K (mP hN B (e▸O))
     simp [this,e]
    ·exact .inr ⟨k,c,e,z.sameBut l (cne y c e)⟩
  ·obtain ⟨W,z⟩:=I.cell y c e
   exact ⟨W,z.sameBut l (cne y c e)⟩
  ·obtain ⟨e,n,Y,nf,d⟩:=I.pin p hp
   exact ⟨(l.2 p.1 Y).trans e,n,Y,nf,d⟩
 ·have L:X.fn x=true:=by
   rcases hf with z | z
   ·exact z
   ·rw[z] at hk; cases hk
  obtain ⟨c,hc⟩:=I.ok.has x (.inl hk)
  obtain ⟨W,z⟩:=I.cell x c hc
  refine wpAny_storeName_cell I.ok.kind hk hc z (λh' S l=>?_)
  obtain ⟨oc,P,U⟩:=id z
  refine h { s with heap:=h' } ⟨I.ok,I.os,I.bare,⟨λb o e n J C=>?_,λb o e n J C=>?_,I.base.free,λb o e C=>?_,I.base.tups,I.base.frzs,I.base.tbls⟩,⟨m,hn.sameBut l (Lu (cne x c hc)),λj y v' B F e3=>?_⟩,λy Z e=>?_,I.free,I.freeC,λp hp=>?_,t ⟨oc,P,I.freeC x c hc⟩ l,by simpa using I.len⟩ ⟨c,l,.inr hc⟩
  ·exact (l.2 b (Bq (Cj (Aw e) (I.ok.cab x c L hc)))).trans (I.base.keep b o e n J C)
  ·obtain ⟨sl,B⟩:=I.base.slot b o e n J C
   exact ⟨sl,(l.2 b (Bq (Cj (Aw e) (I.ok.cab x c L hc)))).trans B⟩
  ·obtain ⟨o',B⟩:=I.base.there b o e C
   exact ⟨o',(l.2 b (Bq (Cj (Aw e) (I.ok.cab x c L hc)))).trans B⟩
  ·by_cases K:j=i
   ·subst K
    rw[O] at B; cases B
    rw[tT G] at F
    cases F
    exact ⟨u,r,.inr ⟨.inl hk,c,hc,S⟩⟩
   ·rw[List.getElem?_set_ne (Lu K)] at F
    obtain ⟨u',r',q⟩:=hl j y v' B F e3
    refine ⟨u',r',?_⟩
    rcases q with q | ⟨k,Z,e,z'⟩
    ·exact .inl q
    ·refine .inr ⟨k,Z,e,z'.sameBut l ?_⟩
     rintro rfl
     exact K (mP hN B (I.ok.inj _ _ _ e hc▸O))
  ·by_cases R:Z=c
   ·subst R; exact ⟨_,S⟩
   ·obtain ⟨w2,z2⟩:=I.cell y Z e
    exact ⟨w2,z2.sameBut l R⟩
  ·obtain ⟨e,n,Y,nf,d⟩:=I.pin p hp
   refine ⟨(l.2 p.1 ?_).trans e,n,Y,nf,d⟩
   intro q
   rw[q,P] at e
   have q':oc=p.2:=Ca e
   exact d W (by rw[<- q']; exact U)
theorem nV{M:Model}{A:Ci}{E:Value->Ah->Prop}{i:Nat}{x:Str}{v:V}{u:Value}{Q:Unit->Ah->Prop}(I:Inv X f g H s)(e:X.N.Nodup)(c:X.N[i]? = some x)(b:Loc X.env.scope x)(r:RelV v u)(h:∀s',Inv X f (g.set i (some v)) H s'->Q () s')(a:X.fn x=true\/X.env.scope.names.lookup x=some .local:=by first | exact .inl rfl | exact .inr rfl | assumption):wpAny M A (storeName X.env x u) Q E s :=
 yA I e c b r (λs' d _=>h s' d) a
theorem Inv.call'{s':Ah}{ch:List Addr}(I:Inv X f g H s)(i:s'.os=s.os)(u:Un (yZ X.stack) ch H B s.heap s'.heap)(d:Zx X.prog X.w B s'.heap)(h:Xo s'.gens)(a:∀b∈ch,(b∈X.ex\/X.s₀.heap.objs.size<=b)/\b≠X.env.locals/\(∀x c,X.env.cells.lookup x=some c->c≠b)/\∀p∈X.pn++f,p.1≠b):Inv X f g B s':=by
 obtain ⟨h',g',d',t',j⟩:=s'
 have e:j=s.os:=i
 subst e
 exact I.call (g':=g') (t':=t') (d':=d') u d h a
end
abbrev XK:=Value->Option Addr->Hp->Prop
abbrev St:=List (Option V)
abbrev VK:=V->Hp->Prop
abbrev TE:=St->Hp->VK->Prop
abbrev TT:=St->Hp->(Bool->Hp->Prop)->Prop
abbrev TA:=St->Hp->(List V->Hp->Prop)->Prop
structure Ends where
 nx:St->Hp->Prop
 rt:VK
 bk:St->Hp->Prop:=λ_ _=>False
 ct:St->Hp->Prop:=λ_ _=>False
abbrev TS:=Ends->St->Hp->Prop
def EP(X:Cx)(a:List (Addr×Obj))(c:St)(Q:VK)(u:Value)(s':Ah):Prop:=∃v b,Inv X a c b s'/\RelV v u/\Q v b
def TP(X:Cx)(a:List (Addr×Obj))(d:St)(Q:Bool->Hp->Prop)(b:Bool)(s':Ah):Prop:=∃c,Inv X a d c s'/\Q b c
def AP(X:Cx)(a:List (Addr×Obj))(c:St)(Q:List V->Hp->Prop)(us:List Value)(s':Ah):Prop:=∃vs b,Inv X a c b s'/\Gj vs us/\Q vs b
def SP(X:Cx)(b:List (Addr×Obj))(D:Ends)(f:Flow)(s':Ah):Prop :=
 match f with
 | .next=>∃a c,Inv X b a c s'/\D.nx a c
 | .brk=>∃a c,Inv X b a c s'/\D.bk a c
 | .cont=>∃a c,Inv X b a c s'/\D.ct a c
 | .ret u=>∃v a c,Inv X b a c s'/\RelV v u/\D.rt v c
def PE(X:Cx)(e:Expr)(t:TE):Prop :=
 ∀(a:List (Addr×Obj)) (s:Ah) (b:St) (H:Hp) (Q:VK),Inv X a b H s->t b H Q->wpAny (model X.prog X.w) X.A (eval e X.env) (EP X a b Q) X.xe s
def PT(X:Cx)(e:Expr)(t:TT):Prop :=
 ∀(a:List (Addr×Obj)) (s:Ah) (b:St) (H:Hp) (Q:Bool->Hp->Prop),Inv X a b H s->t b H Q->wpAny (model X.prog X.w) X.A (isTrue e X.env (eval e X.env)) (TP X a b Q) X.xe s
def PW(X:Cx)(e:Expr)(t:TT):Prop :=
 ∀(b:Sem Value) (a:List (Addr×Obj)) (s:Ah) (c:St) (H:Hp) (Q:Bool->Hp->Prop),Inv X a c H s->t c H Q->wpAny (model X.prog X.w) X.A (isTrue e X.env b) (TP X a c Q) X.xe s
theorem PW.pt{X:Cx}{e:Expr}{t:TT}(h:PW X e t):PT X e t:=h _
def PA(X:Cx)(es:List Expr)(t:TA):Prop :=
 ∀(b:Pos) (a:List (Addr×Obj)) (s:Ah) (c:St) (H:Hp) (Q:List V->Hp->Prop),Inv X a c H s->t c H Q->wpAny (model X.prog X.w) X.A (spliced (Hg b (Bj es X.env))) (AP X a c Q) X.xe s
def PS(X:Cx)(st:Stmt)(t:TS):Prop :=
 ∀(a:List (Addr×Obj)) (s:Ah) (b:St) (H:Hp) (D:Ends),Inv X a b H s->t D b H->wpAny (model X.prog X.w) X.A (exec st X.env) (SP X a D) X.xe s
def uJ(X:Cx)(st:List Stmt)(t:TS):Prop :=
 ∀(a:List (Addr×Obj)) (s:Ah) (b:St) (H:Hp) (D:Ends),Inv X a b H s->t D b H->wpAny (model X.prog X.w) X.A (execs st X.env) (SP X a D) X.xe s
theorem Fp{c:Type}{t:Sem c}{Q b:c->Ah->Prop}{M:Model}{A:Ci}{E:Value->Ah->Prop}{s:Ah}(h:wpAny M A t Q E s)(d:∀a s,Q a s->b a s):wpAny M A t b E s:=Cv h d λ_ _ x=>x
section
variable{X:Cx}
theorem MY{a b:Expr}{k n:TE}(D:PE X a k)(hb:PE X b n){c:List (Addr×Obj)}{s:Ah}{g:St}{H:Hp}{R:V->V->Hp->Prop}(I:Inv X c g H s)(h:k g H λx m=>n g m λy e=>R x y e){o:Type}{Q:o->Ah->Prop}{f:Value->Value->Sem o}(z:∀v u l x y e,Inv X c g e l->RelV x v->RelV y u->R x y e->wpAny (model X.prog X.w) X.A (f v u) Q X.xe l):wpAny (model X.prog X.w) X.A (eval a X.env) (λv i=>wpAny (model X.prog X.w) X.A (eval b X.env) (λu j=>wpAny (model X.prog X.w) X.A (f v u) Q X.xe j) X.xe i) X.xe s:=by
 refine Fp (D c s g H _ I h) λv E d => ?_
 obtain ⟨x,m,t,r,q⟩ := d
 refine Fp (hb c E g m _ t q) λu l d => ?_
 obtain ⟨y,e,p,B,C⟩ := d
 exact z v u l x y e p r B C
def lC(i:Nat):TE:=λa H Q=>∃v,a[i]? = some (some v)/\Q v H
def tC(v:V):TE:=λ_ H Q=>Q v H
theorem AH{i:Nat}{x:Str}{pos:Pos}(p:X.N[i]? = some x)(j:JD X.env.scope x)(hd:(x == ("__debug__" : Str))=false:=by decide)(f:(x == ("__classdict__" : Str))=false:=by decide):PE X (.Name x pos) (lC i):=by
 intro d s q H Q I h
 obtain ⟨v,e,h⟩:=h
 obtain ⟨m,k,o⟩:=I.loc
 obtain ⟨u,r,l⟩:=o i x v p e j
 have b:EP X d q Q u s:=⟨v,H,I,r,h⟩
 rcases l with ⟨hk,n⟩ | ⟨hk,c,g,a⟩
 ·exact wpAny_Name (wpAny_loadName_local I.ok.kind hk k n b) hd
 ·rcases hk with hk | hk
  ·exact wpAny_Name (wpAny_loadName_cell I.ok.kind hk g a b) hd
  ·exact wpAny_Name (wpAny_loadName_free I.ok.kind hk g a b f) hd
theorem Gi{i j pos}:PE X (.Constant (.int i) j pos) (tC (.int i)):=λ_ _ _ H _ I h=>wpAny_Constant_int ⟨.int i,H,I.tok _,⟨_,rfl⟩,h⟩
theorem r9{b j pos}:PE X (.Constant (.bool b) j pos) (tC (.bl b)):=λ_ _ _ H _ I h=>Constant_bool ⟨.bl b,H,I,rfl,h⟩
theorem AM{x j pos}:PE X (.Constant (.str x) j pos) (tC (.str x)):=λ_ _ _ H _ I h=>Calls.Constant_str ⟨.str x,H,I.tok _,⟨_,rfl⟩,h⟩
def Gl(X:Cx)(x:Str):Prop:=X.env.kindOf x=some .globalImplicit
theorem uU{E:Value->Ah->Prop}{a:List (Addr×Obj)}{s:Ah}{b:St}{H:Hp}{x:Str}{u:Value}{pos:Pos}{Q:Value->Ah->Prop}(I:Inv X a b H s)(d:Gl X x)(c:X.mg x=some u)(h:Q u s)(hd:(x == ("__debug__" : Str))=false:=by decide):wpAny (model X.prog X.w) X.A (eval (.Name x pos) X.env) Q E s :=
 jG I.ok.kind d (Calls.loadGlobal_global (by rw[I.ok.glob]; exact I.mod.glob.keeps I.bk) c h) hd
theorem Sk{E:Value->Ah->Prop}{a:List (Addr×Obj)}{s:Ah}{i:St}{H:Hp}{x:Str}{u:Value}{pos:Pos}{Q:Value->Ah->Prop}(I:Inv X a i H s)(f:Gl X x)(e:X.mg x=none)(c:Os x=some u)(h:Q u s)(d:x ≠ "__name__" := by decide)(hd:(x == ("__debug__" : Str))=false:=by decide):wpAny (model X.prog X.w) X.A (eval (.Name x pos) X.env) Q E s:=by
 obtain ⟨j,g,b⟩:=I.mod.blt
 exact jG I.ok.kind f (Calls.loadGlobal_builtin (by rw[I.ok.glob]; exact I.mod.glob.keeps I.bk) e (by rw[I.ok.blt]; exact g.keeps I.bk) ((b x d).trans c) h) hd
variable{a b:Expr}{k n:TE}{pos:Pos}
def PC(X:Cx)(op:CmpOp)(a b:Expr)(t:TE):Prop :=
 ∀(c:List (Addr×Obj)) (s:Ah) (f:St) (H:Hp) (Q:VK),Inv X c f H s->t f H Q ->
  wpAny (model X.prog X.w) X.A (eval a X.env) (λv e=>wpAny (model X.prog X.w) X.A (eval b X.env) (λu d=>wpAny (model X.prog X.w) X.A (Ke op v u) (EP X c f Q) X.xe d) X.xe e) X.xe s
theorem L0(b:Expr){op:CmpOp}(h:op≠.In)(a:op≠.NotIn):Gx op b=false:=by
 have c:(op == CmpOp.In)=false:=by cases op <;> first | rfl | exact absurd rfl h
 have d:(op == CmpOp.NotIn)=false:=by cases op <;> first | rfl | exact absurd rfl a
 cases b <;> simp [Gx,c,d]
def tB(t:TE):TT:=λa H Q=>t a H λx b=>∃c,x=.bl c/\Q c b
theorem JR{op:CmpOp}{t:TE}(h:PC X op a b t)(h1:Gx op b=false:=by first | exact L0 _ (by decide) (by decide) | rfl):PT X (.Compare a [op] [b] pos) (tB t):=by
 intro e s m H Q I l
 refine wpAny_isTrue_Compare1 (Fp (h e s m H _ I l) λv o h1=>Fp h1 λu n f=>Fp f λc p ⟨x,k,j,i,g⟩=>?_) h1
 obtain ⟨d,rfl,q⟩:=g
 cases i
 exact Jl ⟨k,j,q⟩
theorem i4{e:Expr}{t:TE}(h:PE X e t)(i:∀a,isTrue e X.env a=(do let v <- a; bT e.pos; Qf [v] (truthy v)):=by intro _; rfl):PT X e (tB t):=by
 intro b s l H Q I k
 refine isTrue_plain (Fp (h b s l H _ I k) λv m ⟨x,j,f,g,c⟩=>?_) (i _)
 obtain ⟨d,rfl,q⟩:=c
 cases g
 exact Jl ⟨j,f,q⟩
variable{g o:TT}{Ie:List Expr}
def JW(t u:TT):TT:=λa H Q=>t a H λc b=>if c=true then u a b Q else Q false b
def MU(t u:TT):TT:=λa H Q=>t a H λc b=>if c=true then Q true b else u a b Q
def JM(t:TT):TT:=λa H Q=>t a H λc b=>Q (!c) b
theorem V6(d:PT X a g):PW X (.BoolOp .And [a] pos) g:=by
 intro j b s f H Q I h
 refine isTrue_and (Fp (d b s f H Q I h) λc i e=>?_)
 cases c with
 | true=>exact isTrue_and_nil e
 | false=>exact e
theorem AQ(d:PT X a g):PW X (.BoolOp .Or [a] pos) g:=by
 intro j b s f H Q I h
 refine isTrue_or (Fp (d b s f H Q I h) λc i e=>?_)
 cases c with
 | false=>exact isTrue_or_nil e
 | true=>exact e
theorem CB(l:PT X a g)(hb:PW X (.BoolOp .And (b::Ie) pos) o):PW X (.BoolOp .And (a::b::Ie) pos) (JW g o):=by
 intro n d s k H Q I h
 refine isTrue_and (Fp (l d s k H _ I h) λc m e => ?_)
 obtain ⟨j,i,f⟩ := e
 cases c with
 | true=>exact hb n d m k j Q i f
 | false=>exact ⟨j,i,f⟩
theorem IK(l:PT X a g)(hb:PW X (.BoolOp .Or (b::Ie) pos) o):PW X (.BoolOp .Or (a::b::Ie) pos) (MU g o):=by
 intro n d s k H Q I h
 refine isTrue_or (Fp (l d s k H _ I h) λc m e => ?_)
 obtain ⟨j,i,f⟩ := e
 cases c with
 | true=>exact ⟨j,i,f⟩
 | false=>exact hb n d m k j Q i f
theorem BV(d:PT X a g):PT X (.UnaryOp .Not a pos) (JM g):=by
 intro b s f H Q I h
 exact isTrue_not (d b s f H (λc e=>Q (!c) e) I h)
def HH(k n:TE):TE:=λa H Q=>k a H λx b=>∃c,x=.bl c/\if c=true then n a b Q else Q (.bl false) b
theorem AO{op}{t:TE}(h:PE X a t):PE X (.BoolOp op [a] pos) t:=λb s d H Q I c=>BoolOp_one (h b s d H Q I c)
theorem EJ(m:PE X a k)(hb:PE X (.BoolOp .And (b::Ie) pos) n):PE X (.BoolOp .And (a::b::Ie) pos) (HH k n):=by
 intro d s j H Q I h
 refine BoolOp_and (Fp (m d s j H _ I h) λv o f => ?_)
 obtain ⟨x,i,g,l,e⟩ := f
 obtain ⟨c,rfl,e⟩:=e
 cases l
 refine Jl ?_
 cases c with
 | true=>exact hb d o j i Q g e
 | false=>exact ⟨.bl false,i,g,rfl,e⟩
def MF(t:TT)(k n:TE):TE:=λa H Q=>t a H λc b=>if c=true then k a b Q else n a b Q
theorem C6{c:Expr}(q:PT X c g)(p:PE X a k)(hb:PE X b n):PE X (.IfExp c a b pos) (MF g k n):=by
 intro e s i H Q I h
 refine wpAny_IfExp (Fp (q e s i H _ I h) λd o f => ?_)
 obtain ⟨m,l,j⟩ := f
 cases d with
 | true=>exact p e o i m Q l j
 | false=>exact hb e o i m Q l j
end
def Mq(K:PySem.W.Frag)(H:Hp)(a:Addr)(xs:List V):Prop :=
 Rd H a (.lst xs) \/
  ∃(o:Obj) (b:Array Value) (n:Nat),K.lookup a=some o/\o.cls=.type "list" /\ o.dict=none/\o.data=.seq b n/\b.size<=Ay/\Gj xs b.toList
def Ru(K:PySem.W.Frag)(H:Hp)(a:Addr)(xs:List V):Prop :=
 Rd H a (.tup xs) \/
  ∃(o:Obj) (b:Array Value) (n:Nat),K.lookup a=some o/\o.cls=.type "tuple" /\ o.data=.seq b n/\b.size<=Ay/\Gj xs b.toList
def LH:Value->Option V
 | .none=>some .non
 | .bool b=>some (.bl b)
 | .int i _=>some (.int i)
 | .str x _=>some (.str x)
 | .bytes b _=>some (.byt b)
 | .float b _=>some (.flt b)
 | .ref a=>some (.ref a)
 | .type n=>some (.ty n)
 | _=>none
theorem RelV.abs{x:V}{u:Value}(r:RelV x u):LH u=some x:=by
 cases x with
 | non=>cases r; rfl
 | bl _=>cases r; rfl
 | int _=>obtain ⟨t,rfl⟩:=r; rfl
 | str _=>obtain ⟨t,rfl⟩:=r; rfl
 | byt _=>obtain ⟨t,rfl⟩:=r; rfl
 | flt _=>obtain ⟨t,rfl⟩:=r; rfl
 | ref _=>cases r; rfl
 | ty _=>cases r; rfl
theorem RelV.inj{x y:V}{u:Value}(r:RelV x u)(q:RelV y u):x=y:=Ca (r.abs.symm.trans q.abs)
theorem Gj.inj:∀{xs ys:List V} {us:List Value},Gj xs us->Gj ys us->xs=ys
 | _,_,_,.nil,.nil=>rfl
 | _,_,_,.cons r t,.cons r' t'=>by rw[r.inj r',Gj.inj t t']
section
variable{X:Cx}{b:List (Addr×Obj)}{c:St}{H:Hp}{s:Ah}{a:Addr}{xs ys:List V}
theorem Mq.of{K:PySem.W.Frag}(h:H a=some (.lst xs)):Mq K H a xs:=.inl (.inl h)
theorem Ru.of{K:PySem.W.Frag}(h:H a=some (.tup xs)):Ru K H a xs:=.inl (.inl h)
theorem Inv.list(I:Inv X b c H s)(h:Mq X.K H a xs):∃d:List Value,Gj xs d/\PlainL s.heap a d.toArray/\xs.length<=Ay:=by
 rcases h with h | ⟨o,d,n,f,g,j,i,k,r⟩
 ·obtain ⟨z,d,n,r,e⟩:=h.ok I.hok
  exact ⟨d,r,⟨_,n,e,rfl,rfl,rfl⟩,z⟩
 ·refine ⟨d.toList,r,⟨o,n,I.kIn a o f,g,j,by simpa using i⟩,?_⟩
  have e:=r.length
  simp only[Am] at e
  omega
theorem Inv.tuple(I:Inv X b c H s)(h:Ru X.K H a xs):∃d:List Value,Gj xs d/\IsTup s.heap a d.toArray/\xs.length<=Ay:=by
 rcases h with h | ⟨o,d,n,f,g,i,j,r⟩
 ·obtain ⟨z,d,r,p⟩:=h.ok I.hok
  exact ⟨d,r,p,z⟩
 ·refine ⟨d.toList,r,⟨o,I.kIn a o f,g,n,by simpa using i⟩,?_⟩
  have e:=r.length
  simp only[Am] at e
  omega
theorem Inv.list_inj(I:Inv X b c H s)(h:Mq X.K H a xs)(h':Mq X.K H a ys):xs=ys:=by
 obtain ⟨g,r,⟨o,n,e,_,_,d⟩,_⟩:=I.list h
 obtain ⟨f,k,⟨m,l,j,_,_,i⟩,_⟩:=I.list h'
 rw[e] at j; cases j
 rw[d] at i
 injection i with d1 _
 have : g=f:=by simpa using congrArg Array.toList d1
 subst this
 exact r.inj k
theorem Inv.tuple_inj(I:Inv X b c H s)(h:Ru X.K H a xs)(h':Ru X.K H a ys):xs=ys:=by
 obtain ⟨g,r,⟨o,e,_,n,d⟩,_⟩:=I.tuple h
 obtain ⟨f,k,⟨m,j,_,l,i⟩,_⟩:=I.tuple h'
 rw[e] at j; cases j
 rw[d] at i
 injection i with d1 _
 have : g=f:=by simpa using congrArg Array.toList d1
 subst this
 exact r.inj k
end
abbrev Cx.wish(X:Cx)(E:Value->Ah->Prop):Cx:={ X with xe:=E }
abbrev Cx.nox(X:Cx):Cx:=X.wish λ_ _=>False
theorem Cx.Ok.wish{X:Cx}(ok:X.Ok)(E:Value->Ah->Prop):(X.wish E).Ok :=
 ⟨ok.mod,ok.kind,ok.glob,ok.blt,ok.above,ok.inj,ok.has,ok.cab,ok.hd,ok.frames,ok.stk,ok.exf,ok.bs,ok.bsz,ok.noex,ok.exfs,ok.funs,ok.frf⟩
theorem Cx.Ok.unwish{X:Cx}{E:Value->Ah->Prop}(ok:(X.wish E).Ok):X.Ok :=
 ⟨ok.mod,ok.kind,ok.glob,ok.blt,ok.above,ok.inj,ok.has,ok.cab,ok.hd,ok.frames,ok.stk,ok.exf,ok.bs,ok.bsz,ok.noex,ok.exfs,ok.funs,ok.frf⟩
section
variable{X:Cx}{a:List (Addr×Obj)}{b:St}{H:Hp}{s:Ah}{E:Value->Ah->Prop}
theorem Inv.wish(I:Inv X a b H s)(E:Value->Ah->Prop):Inv (X.wish E) a b H s:=⟨I.ok.wish E,I.os,I.bare,I.base,I.loc,I.cell,I.free,I.freeC,I.pin,I.hok,I.len⟩
theorem Inv.unwish(I:Inv (X.wish E) a b H s):Inv X a b H s:=⟨I.ok.unwish,I.os,I.bare,I.base,I.loc,I.cell,I.free,I.freeC,I.pin,I.hok,I.len⟩
theorem SP.unwish{D:Ends}{f:Flow}{s':Ah}(h:SP (X.wish E) a D f s'):SP X a D f s':=by
 cases f with
 | next=>obtain ⟨b,c,I,q⟩:=h; exact ⟨b,c,I.unwish,q⟩
 | brk=>obtain ⟨b,c,I,q⟩:=h; exact ⟨b,c,I.unwish,q⟩
 | cont=>obtain ⟨b,c,I,q⟩:=h; exact ⟨b,c,I.unwish,q⟩
 | ret u=>obtain ⟨v,b,c,I,r,q⟩:=h; exact ⟨v,b,c,I.unwish,r,q⟩
theorem uJ.nox{st:List Stmt}{t:TS}(h:uJ X.nox st t):uJ X st t:=λa s b H D I c =>
 Cv (h a s b H D (I.wish _) c) (λ_ _ q=>q.unwish) λ_ _ z=>Ld z
end
section
variable{X:Cx}{st:Stmt}{Ie:List Stmt}{t u:TS}{e:Expr}{g:TE}{pos:Pos}
def HN:TS:=λD a H=>D.nx a H
def JY(t u:TS):TS:=λD a H=>t { D with nx:=u D } a H
theorem lI:uJ X [] HN:=λ_ _ a H _ I h=>wpAny_execs_nil ⟨a,H,I,h⟩
theorem Mh(h1:PS X st t)(c:uJ X Ie u):uJ X (st::Ie) (JY t u):=by
 intro a s i H D I h
 refine wpAny_execs_cons (Fp (h1 a s i H { D with nx:=u D } I h) λf g q=>?_)
 cases f with
 | next =>
  obtain ⟨b,d,e,q⟩:=q
  exact c a g b d D e q
 | ret v=>exact q
 | brk=>exact q
 | cont=>exact q
theorem Vv(h1:PS X st t):uJ X [st] t:=by
 intro a s b H D I h
 refine wpAny_execs_cons (Fp (h1 a s b H D I h) λf c q=>?_)
 cases f with
 | next=>exact wpAny_execs_nil q
 | ret v=>exact q
 | brk=>exact q
 | cont=>exact q
theorem Inv.quiet{a:List (Addr×Obj)}{b:St}{H:Hp}{s:Ah}(I:Inv X a b H s):interactive X.env=false:=by simp [interactive,I.ok.kind]
def FE(g:TE):TS:=λD a H=>g a H λ_ b=>D.nx a b
theorem vQ(d:PE X e g)(j:Oa e none pos.line X.env=pure false:=by rfl):PS X (.Expr e pos) (FE g):=by
 intro a s b H D I h
 exact wpAny_Expr_any (Fp (d a s b H _ I h) λv l ⟨x,i,f,k,c⟩=>⟨b,i,f,c⟩) I.quiet j
def JQ(g:TE):TS:=λD a H=>g a H D.rt
theorem Zs(d:PE X e g):PS X (.Return (some e) pos) (JQ g):=by
 intro a s b H D I h
 exact wpAny_Return_some (Fp (d a s b H _ I h) λv k ⟨x,j,f,i,c⟩=>⟨x,b,j,f,i,c⟩)
def KB(c:TT)(t u:TS):TS:=λD a H=>c a H λb d=>if b=true then t D a d else u D a d
theorem zU{c:Expr}{a b:List Stmt}{l:TT}(n:PT X c l)(o:uJ X a t)(hb:uJ X b u):PS X (.If c a b pos) (KB l t u):=by
 intro e s f H D I h
 refine wpAny_If (Fp (n e s f H _ I h) λd m g => ?_)
 obtain ⟨k,j,i⟩ := g
 cases d with
 | true=>exact o e m f k D j i
 | false=>exact hb e m f k D j i
end
abbrev TG:=V->St->Hp->(St->Hp->Prop)->Prop
abbrev O3:=List V->St->Hp->(St->Hp->Prop)->Prop
def PG(X:Cx)(a:Expr)(t:TG):Prop :=
 ∀(b:List (Addr×Obj)) (s:Ah) (e:St) (H:Hp) (v:V) (u:Value) (Q:St->Hp->Prop),Inv X b e H s->RelV v u->t v e H Q ->
  wpAny (model X.prog X.w) X.A (Nr a X.env u) (λ_ f=>∃c d,Inv X b c d f/\Q c d) X.xe s
def CY(X:Cx)(g:List Expr)(t:O3):Prop :=
 ∀(a:List (Addr×Obj)) (s:Ah) (e:St) (H:Hp) (vs:List V) (d:List Value) (Q:St->Hp->Prop),Inv X a e H s->Gj vs d->t vs e H Q ->
  wpAny (model X.prog X.w) X.A (assignInOrder ((Mb g X.env).map (·.2)) d) (λ_ f=>∃b c,Inv X a b c f/\Q b c) X.xe s
abbrev E3:=V->V->V->Hp->(Hp->Prop)->Prop
def BJ(X:Cx)(t:E3):Prop :=
 ∀(a:List (Addr×Obj)) (s:Ah) (d:St) (H:Hp) (o i v:V) (c e u:Value) (Q:Hp->Prop),Inv X a d H s->RelV o c->RelV i e->RelV v u->t o i v H Q ->
  wpAny (model X.prog X.w) X.A (setItem c e u) (λ_ f=>∃b,Inv X a d b f/\Q b) X.xe s
abbrev JI:=V->V->Hp->VK->Prop
def LW(X:Cx)(op:Operator)(t:JI):Prop :=
 ∀(a:List (Addr×Obj)) (s:Ah) (b:St) (H:Hp) (x y:V) (v u:Value) (Q:VK),Inv X a b H s->RelV x v->RelV y u->t x y H Q ->
  wpAny (model X.prog X.w) X.A (inplaceOp op v u) (EP X a b Q) X.xe s
section
variable{X:Cx}{pos:Pos}
def Pt(i:Nat):TG:=λv a H Q=>Q (a.set i (some v)) H
theorem Jy{i:Nat}{x:Str}(f:X.N.Nodup)(d:X.N[i]? = some x)(c:Loc X.env.scope x)(b:X.fn x=true\/X.env.scope.names.lookup x=some .local:=by first | exact .inl rfl | exact .inr rfl | assumption):PG X (.Name x pos) (Pt i):=by
 intro a s j H v u Q I r h
 exact wpAny_assign_Name (nV I f d c r (λg e=>⟨_,H,e,h⟩) b)
def J0:O3:=λvs a H Q=>vs=[]/\Q a H
def Yz(t:TG)(u:O3):O3:=λvs b H Q=>∃v r,vs=v::r/\t v b H λa c=>u r a c Q
theorem Xz:CY X [] J0:=by
 intro a s b H vs c Q I r h
 obtain ⟨e,h⟩:=h
 subst e
 cases r
 exact assignInOrder_nil ⟨b,H,I,h⟩
theorem Mo{e:Expr}{es:List Expr}{t:TG}{u:O3}(h1:PG X e t)(d:CY X es u)(n:(Mb (e::es) X.env).map (·.2)=Nr e X.env::(Mb es X.env).map (·.2):=by rfl):CY X (e::es) (Yz t u):=by
 intro a s l H vs o Q I r h
 obtain ⟨v,p,k,h⟩:=h
 subst k
 cases r with
 | cons r i =>
  rw[n]
  refine assignInOrder_cons (Fp (h1 a s l H _ _ _ I r h) λ_ m c => ?_)
  obtain ⟨b,j,g,f⟩ := c
  exact d a m b j _ _ Q g i f
def C7(K:PySem.W.Frag)(n:Nat)(t:O3):TG:=λv c H Q=>∃a b,v=.ref a/\Ru K H a b/\b.length=n/\t b c H Q
theorem dQ{es:List Expr}{k:Nat}{t:O3}{n:Nat}(y:X.calm=true)(h:CY X es t)(l:(Mb es X.env).length=n:=by rfl)(f:(Mb es X.env).findIdx? (·.1)=none:=by rfl):PG X (.Tuple es k pos) (C7 X.K n t):=by
 intro c s i H v u Q I r d
 obtain ⟨a,z,A,w,B,d⟩:=d
 subst A
 cases r
 obtain ⟨j,g,p,C⟩:=I.tuple w
 refine assign_Tuple_tuple (I.ok.hd y) p (by simp [l,<- B,g.length]) f λx q=>?_
 have m:Inv X c i H { s with heap:=x }:=I.kept (t':=s.toks) λb o e=>q b o (Bq (Aw e)) e
 exact h c _ i H z _ Q m (by simpa using g) d
def KC(b e:TE)(t:E3):TG:=λv a H Q=>b a H λo c=>e a c λi d=>t o i v d λf=>Q a f
theorem C5{o i:Expr}{f g:TE}{t:E3}(J:PE X o f)(m:PE X i g)(C:BJ X t)
  (F:∀v,Nr (.Subscript o i pos) X.env v=(do
   let c <- Qf [v] (eval o X.env)
   let d <- Qf [v,c] (eval i X.env)
   bT pos
   Qf [v,c,d] (setItem c d v)
   release [v,c,d] []):=by intro _; rfl):PG X (.Subscript o i pos) (KC f g t):=by
 intro b s e H v u Q I r h
 rw[F]
 refine Aa (Ct (Fp (J b s e H _ I h) λc z a => ?_))
 obtain ⟨x,q,p,j,D⟩ := a
 refine Aa (Ct (Fp (m b z e q _ p D) λd E a => ?_))
 obtain ⟨y,w,B,A,l⟩ := a
 refine Aa (Hj (Aa (Ct (Fp (C b E e w x y v c d u _ B j A r l) λ_ K a => ?_))))
 obtain ⟨G,k,n⟩ := a
 exact wpAny_release ⟨e,G,k,n⟩
def x9(b:TE)(g:TG):TS:=λD a H=>b a H λx c=>g x a c D.nx
theorem C4{b e:Expr}{d:TE}{g:TG}(i:PE X e d)(m:PG X b g)(o:swapsWithSole [b] e pos.line X.env=pure false:=by rfl)(hw:swappedStores [b] e X.env=pure none:=by rfl)(h1:(Mb [b] X.env).map (·.2)=[Nr b X.env]:=by rfl):PS X (.Assign [b] e pos) (x9 d g):=by
 intro a s c H D I h
 refine wpAny_Assign_stores (Fp (i a s c H _ I h) λv n ⟨x,l,k,j,f⟩=>?_) o hw
 rw[h1]
 exact Fp (m a n c l x v _ k j f) λ_ p q=>q
theorem aD{i:Nat}{x:Str}{e:Expr}{c:TE}{a:Pos}(q:X.N.Nodup)(o:X.N[i]? = some x)(n:Loc X.env.scope x)(g:PE X e c)(p:Oa e (some (.Name x a)) pos.line X.env=pure false:=by rfl)(l:X.fn x=true\/X.env.scope.names.lookup x=some .local:=by first | exact .inl rfl | exact .inr rfl | assumption):PS X (.Assign [.Name x a] e pos) (x9 c (Pt i)):=by
 intro b s r H D I h
 refine wpAny_Assign_Name (Fp (g b s r H _ I h) λv u ⟨y,m,k,j,f⟩=>?_) p
 exact nV k q o n j (λt d=>⟨_,m,d,f⟩) l
def HZ(f l m:TE)(a:V->V->Hp->VK->Prop)(d:JI)(b:E3):TS:=λD c H=>f c H λo j=>l c j λi k=>a o i k λx n=>m c n λy g=>d x y g λz h=>b o i z h λe=>D.nx c e
def GP(X:Cx)(t:V->V->Hp->VK->Prop):Prop :=
 ∀(a:List (Addr×Obj)) (s:Ah) (d:St) (H:Hp) (o i:V) (c b:Value) (Q:VK),Inv X a d H s->RelV o c->RelV i b->t o i H Q ->
  wpAny (model X.prog X.w) X.A (Rv c b) (EP X a d Q) X.xe s
theorem V4{o i e:Expr}{w x q:TE}{d:V->V->Hp->VK->Prop}{m:JI}{f:E3}{op:Operator}{l:Pos}(ho:PE X o w)(F:PE X i x)(hg:GP X d)(L:PE X e q)(hp:LW X op m)(Z:BJ X f)(ha:∀k g c,augStore i k g c=(do Qf [c,k,g] (setItem k g c); release [c,k,g] []; pure .next):=by intros; rfl):PS X (.AugAssign (.Subscript o i l) op e pos) (HZ w x q d m f):=by
 intro a s j H D I h
 refine wpAny_AugAssign_SubscriptAny (Fp (ho a s j H _ I h) λk R ⟨r,P,M,p,q1⟩=>?_) ha
 refine Fp (F a R j P _ M q1) λg s2 b => ?_
 obtain ⟨u,Q,W,t,C⟩ := b
 refine Fp (hg a s2 j Q r u k g _ W p t C) λn s3 b => ?_
 obtain ⟨E,H3,B,r3,K⟩ := b
 refine Fp (L a s3 j H3 _ B K) λv A b => ?_
 obtain ⟨T,N,G,r4,q4⟩ := b
 refine Fp (hp a A j N E T n v _ G r3 r4 q4) λc O b => ?_
 obtain ⟨U,z,I5,Y,J⟩ := b
 exact Fp (Z a O j z r u U k g c _ I5 p t Y J) λ_ s6 ⟨y,S,q6⟩=>⟨j,y,S,q6⟩
def ML(f:Int->Int->Int):JI:=λx y H Q=>∃i j,x=.int i/\y=.int j/\Q (.int (f i j)) H
theorem CM:LW X .Add (ML λi j=>i+j):=by
 intro a s g H x y v u Q I b d h
 obtain ⟨i,j,c,e,q⟩:=h
 subst c; subst e
 obtain ⟨t,rfl⟩:=b
 obtain ⟨f,rfl⟩:=d
 exact iadd_int ⟨.int _,H,I.tok _,⟨_,rfl⟩,q⟩
end
structure It where
 go:Nat->Hp->Prop
 yld:Nat->Hp->V->Hp->Prop
 stop:Nat->Hp->Prop
def Lg(X:Cx)(a:List (Addr×Obj))(H:Hp)(b:Addr):Prop :=
 H b=none/\b≠X.env.locals/\b∉X.fs/\(b∈X.ex\/X.s₀.heap.objs.size<=b)/\(∀x c,X.env.cells.lookup x=some c->c≠b)/\∀p∈X.pn++a,p.1≠b
theorem Inv.fpOk{X:Cx}{a:List (Addr×Obj)}{g:St}{H d:Hp}{s:Ah}{b:Addr}(I:Inv X a g H s)(hb:s.heap.objs.size<=b)(f:d b=none):Lg X a d b:=by
 refine ⟨f,Qu (Cj I.lt hb),I.nofs hb,.inr (Cb I.sz hb),λx c e z=>?_,λp h z=>?_⟩
 ·obtain ⟨v,q⟩:=I.cell x c e
  exact absurd (Cj q.lt (by rw[z]; exact hb)) (Ia _)
 ·exact absurd (Cj (Aw (I.pin p h).1) (by rw[z]; exact hb)) (Ia _)
structure Turn(P:Bk)(w:World)(K:PySem.W.Frag)(tg:Expr)(J:It)(fp:List Addr)(it:Addr)(tn:Nat->Heap->Prop):Prop where
 mem:it∈fp
 obj:∀i h,tn i h->∀b∈fp,∃o,h.get? b=some o/\∀v,o.data≠.cell v
 keep:∀i h h',tn i h->(∀b∈fp,∀o,h.get? b=some o->h'.get? b=some o)->tn i h'
 item:∀(X:Cx),X.prog=P->X.w=w->X.K=K->X.calm=true->∀(i:Nat) (pins:List (Addr×Obj)) (s:Ah) (σ:St) (H:Hp) (E:Value->Ah->Prop),Inv X pins σ H s->(∀b∈fp,Lg X pins H b)->tn i s.heap->J.go i H ->
  wpAny (model P w) X.A (Jh (.ref it)) (λr s1=>∃u,r=some u /\
   wpAny (model P w) X.A (Hy tg (.ref it) u) (λ_ s2=>∃x H',Inv X pins σ H' s2/\RelV x u/\J.yld i H x H'/\tn (i+1) s2.heap/\∀b∈fp,H' b=none) E s1) E s
 done:∀(X:Cx),X.prog=P->X.w=w->X.K=K->X.calm=true->∀(i:Nat) (pins:List (Addr×Obj)) (s:Ah) (σ:St) (H:Hp) (E:Value->Ah->Prop),Inv X pins σ H s->(∀b∈fp,Lg X pins H b)->tn i s.heap->J.stop i H ->
  wpAny (model P w) X.A (Jh (.ref it)) (λr s1=>r=none/\Inv X pins σ H s1) E s
 self:∀(A:Ci) (i:Nat) (s:Ah) (Q:Value->Ah->Prop) (E:Value->Ah->Prop),tn i s.heap->Q (.ref it) s->wpAny (model P w) A (pyIter (.ref it)) Q E s
abbrev TI:=St->Hp->(It->Hp->Prop)->Prop
def MB(X:Cx)(a:List (Addr×Obj))(h:St)(i:Expr)(R:It->Hp->Prop)(d:Value)(f:Ah):Prop :=
 ∃(it:Addr) (g:List Addr) (e:Nat->Heap->Prop) (J:It) (c:Hp),d=.ref it/\Inv X a h c f/\Turn X.prog X.w X.K i J g it e/\e 0 f.heap/\(∀b∈g,Lg X a c b)/\R J c
def PI(X:Cx)(e iter:Expr)(c:TI):Prop :=
 ∀(a:List (Addr×Obj)) (s:Ah) (b:St) (H:Hp) (R:It->Hp->Prop),Inv X a b H s->c b H R ->
  wpAny (model X.prog X.w) X.A (eval iter X.env) (λv d=>wpAny (model X.prog X.w) X.A (pyIter v) (MB X a b e R) X.xe d) X.xe s
theorem K6{M:Model}{A:Ci}{E:Value->Ah->Prop}{s:Ah}{b:Expr}{it:Addr}{u:Value}{o:Obj}{n:String}{vs:Array Value}{Q:Unit->Ah->Prop}(e:s.heap.get? it=some o)(d:o.cls=.type n)(hd:o.data=.fields vs)(c:["enumerate", "zip", "dict_itemiterator", "dict_reverseitemiterator", "odict_iterator", "itertools.zip_longest", "itertools.pairwise"].contains n=false)(a:Q () s):wpAny M A (Hy b (.ref it) u) Q E s:=by
  unfold Hy
  cases b <;> first
    | exact Ae a
    | (cases u <;> first
        | exact Ae a
        | (refine Aa (fN e ?_)
           rw[d,hd]
           show wpAny M A (if (["enumerate", "zip", "dict_itemiterator", "dict_reverseitemiterator", "odict_iterator", "itertools.zip_longest", "itertools.pairwise"].contains n && vs[0]? == some (Fe _))=true then _ else _) Q E s
           rw[if_neg (by intro h; rw[c,Bool.false_and] at h; cases h)]
           exact Ae a))
def JZ(K:PySem.W.Frag)(a:Addr):It :=
 ⟨λi H=>∃b x,Mq K H a b/\b[i]? = some x,λi H x c=>c=H/\∀b,Mq K H a b->b[i]? = some x,λi H=>∃b,Mq K H a b/\b.length<=i⟩
def KZ(K:PySem.W.Frag)(a:Addr):It :=
 ⟨λi H=>∃b x,Ru K H a b/\b[i]? = some x,λi H x c=>c=H/\∀b,Ru K H a b->b[i]? = some x,λi H=>∃b,Ru K H a b/\b.length<=i⟩
def IV(lo:Int)(n:Nat):It:=⟨λi _=>i<n,λi H x a=>a=H/\x=.int (lo+i),λi _=>n<=i⟩
theorem yL{P:Bk}{w:World}{K:PySem.W.Frag}{O:Expr}(a it:Addr):Turn P w K O (JZ K a) [it] it (λi h=>h.IsListIter it a i) where
 mem:=by simp
 obj:=λi h st b g=>by
  have e:b=it:=by simpa using g
  subst e
  obtain ⟨o,e,c,d⟩:=st
  exact ⟨o,e,λv z=>by rw[d] at z; cases z⟩
 keep:=λi h m st k=>st.at λo e=>k it (by simp) o e
 item:=by
  intro X L G r M i f s N H E I n st D
  subst L G r
  obtain ⟨S,x,l,y⟩:=D
  obtain ⟨q,A,p,Z⟩:=I.list l
  obtain ⟨u,Y,R⟩:=A.get y
  obtain ⟨J,F,V,t,B,C⟩:=n it (by simp)
  refine wpAny_pyNext_list_item st p.isList (x:=u) (by simpa using Y) λm j U=>?_
  have Q:Inv X f N H { s with heap:=m }:=I.turned (t':=s.toks) (λb o g e=>(U.2 b g).trans e) J F t B C
  obtain ⟨o,e,c,d⟩:=id j
  exact ⟨u,rfl,K6 (s:={ s with heap:=m }) e c d (by decide) ⟨x,H,Q,R,⟨rfl,λys hy=>by rw[I.list_inj hy l]; exact y⟩,j,λb g=>(n b g).1⟩⟩
 done:=by
  intro X L G r M i f s N H E I n st D
  subst L G r
  obtain ⟨S,l,y⟩:=D
  obtain ⟨q,A,p,Z⟩:=I.list l
  obtain ⟨J,F,V,t,B,C⟩:=n it (by simp)
  have hl:=A.length
  exact wpAny_pyNext_list_end (I.ok.hd M) st p.isList (by simp; omega) λm T=>⟨rfl,I.turned (t':=s.toks) (λb o g e=>T b o g e) J F t B C⟩
 self:=λ_ _ _ _ _ st h=>wpAny_pyIter_listiter st h
theorem tP{P:Bk}{w:World}{K:PySem.W.Frag}{O:Expr}(a it:Addr):Turn P w K O (KZ K a) [it] it (λi h=>h.IsTupleIter it a i) where
 mem:=by simp
 obj:=λi h st b g=>by
  have e:b=it:=by simpa using g
  subst e
  obtain ⟨o,e,c,d⟩:=st
  exact ⟨o,e,λv z=>by rw[d] at z; cases z⟩
 keep:=λi h n st k=>st.at λo e=>k it (by simp) o e
 item:=by
  intro X L G r M i f s N H E I q st D
  subst L G r
  obtain ⟨S,x,m,y⟩:=D
  obtain ⟨j,A,p,Z⟩:=I.tuple m
  obtain ⟨u,Y,R⟩:=A.get y
  obtain ⟨J,F,V,t,B,C⟩:=q it (by simp)
  refine L9 st (show s.heap.IsTuple a j.toArray from p) (x:=u) (by simpa using Y) λn l U=>?_
  have Q:Inv X f N H { s with heap:=n }:=I.turned (t':=s.toks) (λb o g e=>(U.2 b g).trans e) J F t B C
  obtain ⟨o,e,c,d⟩:=id l
  exact ⟨u,rfl,K6 (s:={ s with heap:=n }) e c d (by decide) ⟨x,H,Q,R,⟨rfl,λys hy=>by rw[I.tuple_inj hy m]; exact y⟩,l,λb g=>(q b g).1⟩⟩
 done:=by
  intro X L G r M i f s N H E I q st D
  subst L G r
  obtain ⟨S,m,y⟩:=D
  obtain ⟨j,A,p,Z⟩:=I.tuple m
  obtain ⟨J,F,V,t,B,C⟩:=q it (by simp)
  have hl:=A.length
  exact M5 (I.ok.hd M) st (show s.heap.IsTuple a j.toArray from p) (by simp; omega) λn T=>⟨rfl,I.turned (t':=s.toks) (λb o g e=>T b o g e) J F t B C⟩
 self:=λ_ _ _ _ _ st h=>wpAny_pyIter_tupleiter st h
theorem tE{P:Bk}{w:World}{K:PySem.W.Frag}{D:Expr}(it:Addr)(lo:Int)(n:Nat):Turn P w K D (IV lo n) [it] it (λi h=>IsRangeIter h it (lo+(i:Nat) * 1) ((n:Int) - (i:Nat)) 1) where
 mem:=by simp
 obj:=λi h st b c=>by
  have e:b=it:=by simpa using c
  subst e
  exact ⟨_,st,λv z=>by
   have L:Data.fields _=Data.cell v:=z
   cases L⟩
 keep:=λi h f st k=>k it (by simp) _ st
 item:=by
  intro X A x j l i a s C H E I g st r
  subst A x j
  obtain ⟨y,u,N,m,p,q⟩:=g it (by simp)
  have W:=Walks.range (prog:=X.prog) (w:=X.w) (I.ok.hd l) it lo 1 n
  refine W.item i s _ _ r st λv f B F d G=>?_
  obtain ⟨t,rfl⟩:=F
  have J:Inv X a C H { s with heap:=f,toks:=B }:=I.turned (λb o c e=>G b o (by simpa using c) e) y u m p q
  refine ⟨_,rfl,K6 (s:={ s with heap:=f,toks:=B }) (n := "range_iterator") d rfl rfl (by decide) ⟨.int (lo+i),H,J,⟨t,?_⟩,⟨rfl,rfl⟩,d,λb c=>(g b c).1⟩⟩
  rw[Int.mul_one]
 done:=by
  intro X A x j l i a s C H E I g st r
  subst A x j
  obtain ⟨y,u,N,m,p,q⟩:=g it (by simp)
  exact wpAny_pyNext_range_end (I.ok.hd l) st (by have : n<=i:=r; omega) λf M=>⟨rfl,I.turned (t':=s.toks) (λb o c e=>M b o c e) y u m p q⟩
 self:=λ_ _ _ _ _ st h=>wpAny_pyIter_rangeiter st h
section
variable{X:Cx}{c:Expr}
def GL(K:PySem.W.Frag)(e:TE):TI:=λc H R=>e c H λx b=>∃a,x=.ref a/\(∃d,Mq K b a d)/\R (JZ K a) b
def LF(K:PySem.W.Frag)(e:TE):TI:=λc H R=>e c H λx b=>∃a,x=.ref a/\(∃d,Ru K b a d)/\R (KZ K a) b
theorem W0{l:Expr}{j:TE}(hl:PE X l j):PI X c l (GL X.K j):=by
 intro d s w H R I h
 refine Fp (hl d s w H _ I h) λv g i => ?_
 obtain ⟨x,t,f,r,m⟩ := i
 obtain ⟨a,e,⟨z,u⟩,q⟩:=m
 subst e
 cases r
 obtain ⟨n,y,p,A⟩:=f.list u
 refine jC p.isList ?_
 refine ⟨g.heap.objs.size,[g.heap.objs.size],_,_,t,rfl,f.kept (t':=g.toks) λb o e=>Ai _ e,yL a _,⟨_,Ar _ rfl,rfl,rfl⟩,λb k=>?_,q⟩
 have e:b=g.heap.objs.size:=by simpa using k
 subst e
 exact f.fpOk (Aj _) (f.hok.fresh (Aj _))
theorem BI{l:Expr}{k:TE}(hl:PE X l k):PI X c l (LF X.K k):=by
 intro d s w H R I h
 refine Fp (hl d s w H _ I h) λv f j => ?_
 obtain ⟨x,t,g,r,n⟩ := j
 obtain ⟨a,e,⟨z,u⟩,q⟩:=n
 subst e
 cases r
 obtain ⟨i,y,p,A⟩:=g.tuple u
 refine Nq (show f.heap.IsTuple a i.toArray from p) ?_
 refine ⟨f.heap.objs.size,[f.heap.objs.size],_,_,t,rfl,g.kept (t':=f.toks) λb o e=>Ai _ e,tP a _,⟨_,Ar _ rfl,rfl,rfl⟩,λb m=>?_,q⟩
 have e:b=f.heap.objs.size:=by simpa using m
 subst e
 exact g.fpOk (Aj _) (g.hok.fresh (Aj _))
theorem i9{d:List (Addr×Obj)}{h:St}{H:Hp}{s:Ah}{R:It->Hp->Prop}{E:Value->Ah->Prop}{lo a:Int}{t u v:Tok}{g:Nat}(I:Inv X d h H s)(h1:-(2 ^ 62)<=lo)(i:lo<2 ^ 62)(n:-(2 ^ 62)<=a)(l:a<2 ^ 62)(q:R (IV lo (a - lo).toNat) H):wpAny (model X.prog X.w) X.A (pyIter (.ref s.heap.objs.size)) (MB X d h c R) E { s with heap:=s.heap.push { cls:=.type "range",data:=.fields #[.int lo t,.int a u,.int 1 v] },toks:=g }:=by
 refine wpAny_pyIter_range (IsRange.new ..) (small_one h1 i n l) ?_
 have f:Inv X d h H { s with heap:=s.heap.push { cls:=.type "range",data:=.fields #[.int lo t,.int a u,.int 1 v] },toks:=g }:=I.kept λb o e=>Ai _ e
 refine ⟨(s.heap.push { cls:=.type "range",data:=.fields #[.int lo t,.int a u,.int 1 v] }).objs.size,[(s.heap.push { cls:=.type "range",data:=.fields #[.int lo t,.int a u,.int 1 v] }).objs.size],_,_,H,rfl,
  f.kept (t':=g) λb o e=>Ai _ e,tE _ lo (a - lo).toNat,?_,λb j=>?_,q⟩
 ·have k:lo+((0:Nat):Int) * 1=lo:=by simp
  have m:(((a - lo).toNat:Nat):Int) - ((0:Nat):Int)=Lj lo a 1:=by rw[rangeSize_one]; split <;> omega
  show IsRangeIter _ _ (lo+((0:Nat):Int) * 1) ((((a - lo).toNat:Nat):Int) - ((0:Nat):Int)) 1
  rw[k,m]
  exact Ar _ rfl
 ·have e:b=(s.heap.push { cls:=.type "range",data:=.fields #[.int lo t,.int a u,.int 1 v] }).objs.size:=by simpa using j
  subst e
  exact f.fpOk (Aj _) (f.hok.fresh (Aj _))
def HM(c:TA):TI:=λa H R=>c a H λvs b=>∃j:Int,vs=[.int j] /\ -(2 ^ 62)<=j/\j<2 ^ 62/\R (IV 0 j.toNat) b
theorem wO{a:Expr}{f:TA}{p pos:Pos}(n:Gl X "range")(l:X.mg "range" = none)(o:PA X [a] f)(u:Bj [a] X.env=[(false,eval a X.env)]:=by rfl):PI X c (.Call (.Name "range" p) [a] [] pos) (HM f):=by
 intro b s v H R I h
 refine Call_ (Sk I n l boot_range (Dy (Fp (o pos b s v H _ I h) λw y ⟨vs,x,i,g,d⟩=>?_) u rfl))
 obtain ⟨j,e,d,m,q⟩:=d
 subst e
 cases g with
 | cons r k =>
  cases k
  obtain ⟨t,rfl⟩:=r
  exact call_range_1 (i9 i (by omega) (by omega) d m (by simpa using q))
def JX(f:TI)(g:TG)(j:TS):TS:=λD a H=>f a H λJ h=>∃W:Nat->Nat->St->Hp->Prop,(∃m,W 0 m a h)/\∀i m a H,W i m a H ->
 (J.stop i H/\D.nx a H)\/(J.go i H/\∃N:St->Hp->Prop,(∀c b,N c b->∃e,e<m/\W (i+1) e c b)/\∀x b,J.yld i H x b->g x a b λd k=>j { D with nx:=N,ct:=N,bk:=D.nx } d k)
def Oh(fp:List Addr)(h:Heap):List (Addr×Obj):=fp.filterMap λb=>(h.get? b).map λo=>(b,o)
theorem Fl{fp:List Addr}{h:Heap}{b:Addr}{o:Obj}(hb:b∈fp)(e:h.get? b=some o):(b,o)∈Oh fp h:=List.mem_filterMap.mpr ⟨b,hb,by rw[e]; rfl⟩
theorem yV{fp:List Addr}{h:Heap}{p:Addr×Obj}(d:p∈Oh fp h):p.1∈fp/\h.get? p.1=some p.2:=by
 obtain ⟨b,c,e⟩:=aS.mp d
 cases q:h.get? b with
 | none=>rw[q] at e; cases e
 | some o =>
  rw[q] at e
  have a:(b,o)=p:=Ca e
  subst a
  exact ⟨c,q⟩
theorem Inv.pinned{a:List (Addr×Obj)}{g:St}{H:Hp}{s:Ah}{fp:List Addr}(I:Inv X a g H s)(h:∀b∈fp,Lg X a H b)(j:∀b∈fp,∃o,s.heap.get? b=some o/\∀v,o.data≠.cell v):Inv X (a++Oh fp s.heap) g H s :=
 I.pins_of λp m=>(Bc.mp m).elim (λz=>I.pin p (Ag _ z)) λz=>by
  obtain ⟨c,e⟩:=yV z
  obtain ⟨l,k,i,_⟩:=h p.1 c
  obtain ⟨o,f,d⟩:=j p.1 c
  rw[e] at f; cases f
  exact ⟨e,l,k,i,d⟩
theorem Inv.unpinned{a c:List (Addr×Obj)}{b:St}{H:Hp}{s:Ah}(I:Inv X (a++c) b H s):Inv X a b H s:=I.pins_of λp d=>I.pin p (Ag _ (Ao _ d))
theorem CJ{iter:Expr}{C:List Stmt}{wi:TI}{g:TG}{tb:TS}{pos:Pos}(O:PassesOwn (model X.prog X.w) X.A X.env X.xe)(hc:X.calm=true)(hi:PI X c iter wi)(hg:PG X c g)(hb:uJ X C tb)(hs:∀x,Dc iter X.env x=pure x:=by intro _; rfl):PS X (.For c iter C [] pos) (JX wi g tb):=by
 intro j s σ H D I h
 refine wpAny_For (Fp (hi j s σ H _ I h) λv s1 h1=>Fp h1 λh0 s2 h2=>?_) hs
 obtain ⟨it,M,Z,J,H2,e,I2,T,Y,f2,W,⟨m0,w0⟩,G⟩:=h2
 subst e
 -- what stays true of the iterator's objects through the loop
 have q:∀{z:Hp},(∀b∈M,z b=none)->∀b∈M,Lg X j z b:=λhn b hb=>⟨hn b hb,(f2 b hb).2⟩
 refine codeAny_forLoop_any (λn s'=>∃i p z,Inv X j p z s'/\Z i s'.heap/\(∀b∈M,z b=none)/\W i n p z) ?_ m0 ⟨0,σ,H2,I2,Y,λb hb=>(f2 b hb).1,w0⟩
 (intro n s3 q_; obtain ⟨i,y,P,I3,Rr,L,w3⟩ := q_)
 rcases G i n y P w3 with ⟨K,qn⟩ | ⟨go,N,hN,step⟩
 ·refine Rb O (Fp (T.done X rfl rfl rfl hc i j s3 y P X.xe I3 (q L) Rr K) λr s4 k => ?_)
  obtain ⟨R,I4⟩ := k
  subst R
  exact wpAny_execs_nil ⟨y,P,I4,qn⟩
 ·refine Rb O (Fp (T.item X rfl rfl rfl hc i j s3 y P X.xe I3 (q L) Rr go) λr s4 k => ?_)
  obtain ⟨u,R,h4⟩ := k
  subst R
  refine Rb O (Fp h4 λ_ s5 k => ?_)
  obtain ⟨x,H5,I5,r5,y5,E,S⟩ := k
  have V:=I5.pinned (q S) (T.obj _ _ E)
  refine Rb O (Fp (hg _ s5 y H5 x u _ V r5 (step x H5 y5)) λ_ s6 k => ?_)
  obtain ⟨Q,H6,I6,q6⟩ := k
  refine Rb O (Fp (hb _ s6 Q H6 _ I6 q6) λf U B=>?_)
  have again:∀{a:St} {t:Hp},Inv X (j++Oh M s5.heap) a t U->N a t->∃m,m<n/\∃i p z,Inv X j p z U/\Z i U.heap/\(∀b∈M,z b=none)/\W i m p z:=λ{a t} l F=>by
   obtain ⟨m',hm,w7⟩:=hN a t F
   refine ⟨m',hm,i+1,a,t,l.unpinned,T.keep _ _ _ E λb hb o e=>(l.pin (b,o) (Ag _ (Ag _ (Fl hb e)))).1,λb hb=>?_,w7⟩
   obtain ⟨o,e,d⟩:=T.obj _ _ E b hb
   exact (l.pin (b,o) (Ag _ (Ag _ (Fl hb e)))).2.1
  cases f with
  | next=>obtain ⟨a,t,l,F⟩:=B; exact again l F
  | cont=>obtain ⟨a,t,l,F⟩:=B; exact again l F
  | brk=>obtain ⟨a,t,l,B⟩:=B; exact ⟨a,t,l.unpinned,B⟩
  | ret v=>obtain ⟨x7,a,t,l,r7,B⟩:=B; exact ⟨x7,a,t,l.unpinned,r7,B⟩
end
abbrev R2:=V->V->Hp->VK->Prop
def aB(X:Cx)(f:Value->Value->Sem Value)(r:R2):Prop :=
 ∀(a:List (Addr×Obj)) (s:Ah) (b:St) (H:Hp) (x y:V) (v u:Value) (Q:VK),Inv X a b H s->RelV x v->RelV y u->r x y H Q ->
  wpAny (model X.prog X.w) X.A (f v u) (EP X a b Q) X.xe s
def LC(X:Cx)(f:Value->Sem Value)(r:V->Hp->VK->Prop):Prop :=
 ∀(a:List (Addr×Obj)) (s:Ah) (b:St) (H:Hp) (x:V) (v:Value) (Q:VK),Inv X a b H s->RelV x v->r x H Q ->
  wpAny (model X.prog X.w) X.A (f v) (EP X a b Q) X.xe s
def Ml(X:Cx)(f:Value)(r:List V->Hp->VK->Prop):Prop :=
 ∀(a:List (Addr×Obj)) (s:Ah) (b:St) (H:Hp) (c:List V) (d:List Value) (Q:VK),Inv X a b H s->Gj c d->r c H Q ->
  wpAny (model X.prog X.w) X.A (call f d) (EP X a b Q) X.xe s
def JO(X:Cx)(r:V->Hp->(Bool->Hp->Prop)->Prop):Prop :=
 ∀(a:List (Addr×Obj)) (s:Ah) (b:St) (H:Hp) (x:V) (v:Value) (Q:Bool->Hp->Prop),Inv X a b H s->RelV x v->r x H Q ->
  wpAny (model X.prog X.w) X.A (truthy v) (TP X a b Q) X.xe s
def FP(r:R2)(b d:TE):TE:=λa H Q=>b a H λx c=>d a c λy e=>r x y e Q
def MQ(r:V->Hp->VK->Prop)(c:TE):TE:=λa H Q=>c a H λx b=>r x b Q
def rI(C:Int->Int->Prop)(g:Int->Int->V):R2:=λx y H Q=>∃i j,x=.int i/\y=.int j/\C i j/\Q (g i j) H
def CD(g:Int->Int->V):R2:=λx y H Q=>∃i j,x=.int i/\y=.int j/\Q (g i j) H
def rU(g:Int->V):V->Hp->VK->Prop:=λx H Q=>∃i,x=.int i/\Q (g i) H
section
variable{X:Cx}{a b c:Expr}{d e k:TE}{pos:Pos}
theorem EE(C:PE X a d)(hb:PE X b e){c:List (Addr×Obj)}{s:Ah}{j:St}{H:Hp}{R:V->V->Hp->Prop}(I:Inv X c j H s)(h:d j H λx n=>e j n λy i=>R x y i){Q:Value->Ah->Prop}{f:Value->Value->Sem Value}(t:∀v u m x y i,Inv X c j i m->RelV x v->RelV y u->R x y i->wpAny (model X.prog X.w) X.A (f v u) Q X.xe m):wpAny (model X.prog X.w) X.A (eval a X.env) (λv k=>wpAny (model X.prog X.w) X.A (eval b X.env) (λu l=>wpAny (model X.prog X.w) X.A (f v u) Q X.xe l) X.xe k) X.xe s:=by
 refine Fp (C c s j H _ I h) λv D g => ?_
 obtain ⟨x,n,r,q,p⟩ := g
 refine Fp (hb c D j n _ r p) λu m g => ?_
 obtain ⟨y,i,o,z,B⟩ := g
 exact t v u m x y i o q z B
theorem Ka{op:Operator}{r:R2}(n:aB X (Jn op) r)(l:PE X a d)(hb:PE X b e):PE X (.BinOp a op b pos) (FP r d e):=by
 intro c s m H Q I h
 exact wpAny_BinOp (EE l hb I h λv u g x y k f i j q=>n c g m k x y v u Q f i j q)
theorem FG{op:UnaryOp}{r:V->Hp->VK->Prop}(l:LC X (unaryOp op) r)(j:PE X a d):PE X (.UnaryOp op a pos) (MQ r d):=by
 intro b s c H Q I h
 exact UnaryOp_ (Fp (j b s c H _ I h) λv k ⟨x,i,g,f,e⟩=>l b k c i x v Q g f e)
theorem GW{f:Value->Value->Sem Value}{C:Int->Int->Prop}{g:Int->Int->Int}(rule:∀(i j:Int) (t u:Tok) (s:Ah) (Q:Value->Ah->Prop) (E:Value->Ah->Prop),C i j->Q (.int (g i j) s.toks) { s with toks:=s.toks+1 }->wpAny (model X.prog X.w) X.A (f (.int i t) (.int j u)) Q E s):aB X f (rI C λi j=>.int (g i j)):=by
 intro a s k H x y v u Q I b c h
 obtain ⟨i,j,rfl,rfl,d,q⟩:=h
 obtain ⟨t,rfl⟩:=b
 obtain ⟨e,rfl⟩:=c
 exact rule i j t e s _ _ d ⟨.int (g i j),H,I.tok _,⟨_,rfl⟩,q⟩
theorem FK{f:Value->Value->Sem Value}{g:Int->Int->Int}(rule:∀(i j:Int) (t u:Tok) (s:Ah) (Q:Value->Ah->Prop) (E:Value->Ah->Prop),Q (.int (g i j) s.toks) { s with toks:=s.toks+1 }->wpAny (model X.prog X.w) X.A (f (.int i t) (.int j u)) Q E s):aB X f (CD λi j=>.int (g i j)):=by
 intro a s e H x y v u Q I b c h
 obtain ⟨i,j,rfl,rfl,q⟩:=h
 obtain ⟨t,rfl⟩:=b
 obtain ⟨d,rfl⟩:=c
 exact rule i j t d s _ _ ⟨.int (g i j),H,I.tok _,⟨_,rfl⟩,q⟩
theorem GD{f:Value->Value->Sem Value}{g:Int->Int->Bool}(rule:∀(i j:Int) (t u:Tok) (s:Ah) (Q:Value->Ah->Prop) (E:Value->Ah->Prop),Q (.bool (g i j)) s->wpAny (model X.prog X.w) X.A (f (.int i t) (.int j u)) Q E s):aB X f (CD λi j=>.bl (g i j)):=by
 intro a s e H x y v u Q I b c h
 obtain ⟨i,j,rfl,rfl,q⟩:=h
 obtain ⟨t,rfl⟩:=b
 obtain ⟨d,rfl⟩:=c
 exact rule i j t d s _ _ ⟨.bl (g i j),H,I,rfl,q⟩
def BD(i j:Int):Prop:=0<j/\j<1073741824
def KD(i j:Int):Prop:=0<=j/\j<=1000000/\i.natAbs<2 ^ 64
def R4(i j:Int):Prop:=(-(2 ^ 64)<i/\i<2 ^ 64)\/(-(2 ^ 64)<j/\j<2 ^ 64)
theorem R4.ok{i j:Int}(h:R4 i j):IntMulOk i j:=by
 rcases h with ⟨b,a⟩ | ⟨b,a⟩
 ·exact .of_left (intBits_le_64 b a)
 ·exact .of_right (intBits_le_64 b a)
theorem cY:aB X (Jn .Add) (CD λi j=>.int (i+j)):=FK λ_ _ _ _ _ _ _ q=>add_int q
theorem BE:aB X (Jn .Sub) (CD λi j=>.int (i - j)):=FK λ_ _ _ _ _ _ _ q=>sub_int q
theorem aC:aB X (Jn .Mult) (rI R4 λi j=>.int (i * j)):=GW λ_ _ _ _ _ _ _ a q=>mul_int q a.ok
theorem jX:aB X (Jn .FloorDiv) (rI BD λi j=>.int (i / j)):=GW λi j _ _ _ _ _ a q=>by
 have c:(0:Int)<j:=a.1
 have b:j<1073741824:=a.2
 exact floordiv_int (by omega) (by rw[Int.fdiv_eq_ediv_of_nonneg i (by omega)]; exact q) (.inl (PyProof.noPylong_small (by omega)))
theorem Wr:aB X (Jn .Mod) (rI (λ_ j=>0<j) λi j=>.int (i % j)):=GW λi j _ _ _ _ _ a q=>by
 have b:(0:Int)<j:=a
 exact mod_int' (by omega) (by rw[Int.fmod_eq_emod_of_nonneg i (by omega)]; exact q)
theorem lN:aB X (Jn .Pow) (rI KD λi j=>.int (i ^ j.toNat)):=GW λ_ _ _ _ _ _ _ a q=>pow_int_small a.1 a.2.1 a.2.2 q
theorem MV{f:Value->Sem Value}{g:Int->Int}(rule:∀(i:Int) (t:Tok) (s:Ah) (Q:Value->Ah->Prop) (E:Value->Ah->Prop),Q (.int (g i) s.toks) { s with toks:=s.toks+1 }->wpAny (model X.prog X.w) X.A (f (.int i t)) Q E s):LC X f (rU λi=>.int (g i)):=by
 intro a s c H x v Q I b h
 obtain ⟨i,rfl,q⟩:=h
 obtain ⟨t,rfl⟩:=b
 exact rule i t s _ _ ⟨.int (g i),H,I.tok _,⟨_,rfl⟩,q⟩
theorem DW:LC X (unaryOp .USub) (rU λi=>.int (-i)):=MV λ_ _ _ _ _ q=>neg_int q
end
section
variable{X:Cx}{a b c:Expr}{d f g:TE}{pos:Pos}
theorem FO:aB X (Ke .Lt) (CD λi j=>.bl (decide (i<j))):=GD λ_ _ _ _ _ _ _ q=>lt_int q
theorem IQ:aB X (Ke .GtE) (CD λi j=>.bl (decide (j<=i))):=GD λ_ _ _ _ _ _ _ q=>ge_int q
theorem fF(b:Expr){op:CmpOp}(h:op≠.In:=by decide)(a:op≠.NotIn:=by decide):Gx op b=false:=by
 have c:(op == CmpOp.In)=false:=by cases op <;> first | rfl | exact absurd rfl h
 have d:(op == CmpOp.NotIn)=false:=by cases op <;> first | rfl | exact absurd rfl a
 cases b <;> simp [Gx,c,d]
theorem P3{op:CmpOp}{r:R2}(o:aB X (Ke op) r)(m:PE X a d)(hb:PE X b f)(j:Gx op b=false):PE X (.Compare a [op] [b] pos) (FP r d f):=by
 intro c s n H Q I h
 exact wpAny_Compare1 (EE m hb I h λv u g x y l e i k q=>o c g n l x y v u Q e i k q) j
def EZ(t:TE):TT:=λa H Q=>t a H λx b=>∃k,x=.bl k/\Q k b
theorem vN{op:CmpOp}{r:R2}(J:aB X (Ke op) r)(E:PE X a d)(hb:PE X b f)(p:Gx op b=false):PT X (.Compare a [op] [b] pos) (EZ (FP r d f)):=by
 intro g s i H Q I h
 refine wpAny_isTrue_Compare1 (Fp (E g s i H _ I h) λv w ⟨x,q,o,j,C⟩=>Fp (hb g w i q _ o C) λu D ⟨y,t,B,A,m⟩ =>
  Fp (J g D i t x y v u _ B j A m) λc K ⟨z,G,l,F,k,e,n⟩=>?_) p
 subst e
 cases F
 exact Jl ⟨G,l,n⟩
def KJ(K:PySem.W.Frag)(x:V)(H:Hp)(k:Bool):Prop :=
 match x with
 | .non=>k=false
 | .bl b=>k=b
 | .int i=>k=(i != 0)
 | .str y=>y.length<=Ay/\k=((y.length:Int) != 0)
 | .byt y=>y.size<=Ay/\k=((y.size:Int) != 0)
 | .ref p=>(∃c,Mq K H p c/\k = !c.isEmpty)\/(∃c,Ru K H p c/\k = !c.isEmpty)\/∃a,H p=some (.dK a)/\k = !a.isEmpty
 | _=>False
theorem sR{b:Type}{a:List (b×V)}{vs:List (b×Value)}(r:KV a vs):(!vs.isEmpty) = !a.isEmpty:=by
 cases r <;> rfl
theorem cQ{xs:List V}{a:List Value}(r:Gj xs a):(!a.toArray.isEmpty) = !xs.isEmpty:=by
 cases r <;> simp
theorem Wz:(Ay:Nat)<2 ^ 63:=by rw[Gn]; decide
theorem KH:JO X (λx H Q=>∃k,KJ X.K x H k/\Q k H):=by
 intro o s D H x v Q I g h
 obtain ⟨k,e,q⟩:=h
 have C:=Wz
 have B:Ay=16777216:=Gn
 cases x with
 | non =>
  cases g
  have a:k=false:=e
  subst a
  exact truthy_none ⟨H,I,q⟩
 | bl b =>
  cases g
  have a:k=b:=e
  subst a
  exact Jl ⟨H,I,q⟩
 | int i =>
  obtain ⟨t,rfl⟩:=g
  have a:k=(i != 0):=e
  subst a
  exact PySem.P.truthy_int ⟨H,I,q⟩
 | str y =>
  obtain ⟨t,rfl⟩:=g
  obtain ⟨A,a⟩ : y.length<=Ay/\k=((y.length:Int) != 0):=e
  subst a
  exact PySem.P.truthy_str (by omega) ⟨H,I.tok _,q⟩
 | byt y =>
  obtain ⟨t,rfl⟩:=g
  obtain ⟨A,a⟩ : y.size<=Ay/\k=((y.size:Int) != 0):=e
  subst a
  exact PySem.W.truthy_bytes (by omega) ⟨H,I.tok _,q⟩
 | ref p =>
  cases g
  have a:(∃f,Mq X.K H p f/\k = !f.isEmpty)\/(∃f,Ru X.K H p f/\k = !f.isEmpty)\/∃c,H p=some (.dK c)/\k = !c.isEmpty:=e
  rcases a with ⟨f,j,a⟩ | ⟨f,j,a⟩ | ⟨c,j,a⟩
  ·subst a
   obtain ⟨l,r,n,u⟩:=I.list j
   have d:=r.length
   exact wpAny_truthy_list n.isList (by simp only[Au]; omega) ⟨H,I.tok _,by rw[cQ r]; exact q⟩
  ·subst a
   obtain ⟨l,r,n,u⟩:=I.tuple j
   have d:=r.length
   exact truthy_tuple n (by simp only[Au]; omega) ⟨H,I.tok _,by rw[cQ r]; exact q⟩
  ·subst a
   obtain ⟨u,z,vs,r,m⟩ : c.length<=Ay/\(p == Hf)=false/\∃vs,KV c vs/\s.heap.DictOf (Kb X.prog X.w) p vs:=I.hok p _ j
   have d:c.length=vs.length:=Paired.length r
   exact wpAny_truthy_dict z m (by omega) ⟨H,I.tok _,by rw[sR r]; exact q⟩
 | _=>exact (show False from e).elim
theorem vals1{x:V}{us:List Value}(r:Gj [x] us):∃u,us=[u]/\RelV x u:=by
 cases r with
 | cons b a=>cases a; exact ⟨_,rfl,b⟩
theorem vals2{x y:V}{us:List Value}(r:Gj [x,y] us):∃u a,us=[u,a]/\RelV x u/\RelV y a:=by
 cases r with
 | cons b e =>
  cases e with
  | cons c d=>cases d; exact ⟨_,_,rfl,b,c⟩
theorem xC(c:X.calm=true):Ml X (.builtin "min") (λxs H Q=>∃i j,xs=[.int i,.int j]/\Q (.int (if j<i then j else i)) H):=by
 intro b s m H xs e Q I r h
 obtain ⟨i,j,rfl,q⟩:=h
 obtain ⟨u,d,rfl,⟨t,rfl⟩,⟨l,rfl⟩⟩:=vals2 r
 refine min_two_ints (I.ok.hd c) λg f k=>⟨_,H,I.kept k,?_,q⟩
 by_cases a:j<i
 ·rw[if_pos a,if_pos a]; exact ⟨_,rfl⟩
 ·rw[if_neg a,if_neg a]; exact ⟨_,rfl⟩
theorem iE:Ml X (.type "int") (λxs H Q=>(∃i,xs=[.int i]/\Q (.int i) H)\/∃k,xs=[.bl k]/\Q (.int (if k then 1 else 0)) H):=by
 intro a s c H xs d Q I r h
 rcases h with ⟨i,rfl,q⟩ | ⟨k,rfl,q⟩
 ·obtain ⟨u,rfl,t,rfl⟩:=vals1 r
  exact call_int_int ⟨.int i,H,I,⟨_,rfl⟩,q⟩
 ·obtain ⟨u,rfl,b⟩:=vals1 r
  cases b
  exact call_int_bool ⟨.int (if k then 1 else 0),H,I.tok _,⟨_,rfl⟩,q⟩
def FD(K:PySem.W.Frag)(x:V)(H:Hp)(n:Nat):Prop :=
 match x with
 | .str y=>y.length<=Ay/\n=y.length
 | .byt y=>y.size<=Ay/\n=y.size
 | .ref p=>(∃a,Mq K H p a/\n=a.length)\/∃a,Ru K H p a/\n=a.length
 | _=>False
theorem Nv:Ml X (.builtin "len") (λxs H Q=>∃x n,xs=[x]/\FD X.K x H n/\Q (.int n) H):=by
 intro j s v H xs m Q I r h
 obtain ⟨x,n,rfl,e,q⟩:=h
 obtain ⟨u,rfl,d⟩:=vals1 r
 have w:=Wz
 have o:Ay=16777216:=Gn
 cases x with
 | str y =>
  obtain ⟨t,rfl⟩:=d
  obtain ⟨l,b⟩ : y.length<=Ay/\n=y.length:=e
  subst b
  exact len_str (by omega) ⟨.int _,H,I.tok _,⟨_,rfl⟩,q⟩
 | byt y =>
  obtain ⟨t,rfl⟩:=d
  obtain ⟨l,b⟩ : y.size<=Ay/\n=y.size:=e
  subst b
  exact PySem.W.len_bytes (by omega) ⟨.int _,H,I.tok _,⟨_,rfl⟩,q⟩
 | ref p =>
  cases d
  have b:(∃xs,Mq X.K H p xs/\n=xs.length)\/∃xs,Ru X.K H p xs/\n=xs.length:=e
  rcases b with ⟨xs,f,b⟩ | ⟨xs,f,b⟩
  ·subst b
   obtain ⟨c,i,g,k⟩:=I.list f
   have a:=i.length
   exact Calls.call_len_list g.isList (by simp only[Au]; omega) ⟨.int xs.length,H,I.tok _,⟨_,by simp only[Au]; rw[a]⟩,q⟩
  ·subst b
   obtain ⟨c,i,g,k⟩:=I.tuple f
   have a:=i.length
   exact len_tuple g (by simp only[Au]; omega) ⟨.int xs.length,H,I.tok _,⟨_,by simp only[Au]; rw[a]⟩,q⟩
 | _=>exact (show False from e).elim
end
theorem yT.some_of{v:V}{o:Option Value}(r:yT (some v) o):∃u,o=some u/\RelV v u:=by
 cases o with
 | none=>exact (show False from r).elim
 | some u=>exact ⟨u,rfl,r⟩
structure Room(k:Nat)(A:Ci):Prop where
 hd:A.handled=none
 dp:A.depth+3 * k+5<recursionLimit
 un:A.units+16 * k+200<cLine
 gd:A.guards=some []
theorem Room.mono{j k:Nat}{A:Ci}(r:Room k A)(h:j<=k):Room j A:=⟨r.hd,by have:=r.dp; omega,by have:=r.un; omega,r.gd⟩
theorem Room.deeper{k:Nat}{A:Ci}(r:Room (k+1) A)(env:Env):Room k (A.deeper env) :=
 ⟨r.hd,by have:=r.dp; show A.depth+1+3 * k+5<_; omega,by have:=r.un; show A.units+3+16 * k+200<_; omega,r.gd⟩
theorem Room.depth{k:Nat}{A:Ci}(r:Room k A):A.depth<recursionLimit:=by have:=r.dp; omega
theorem Room.units{k:Nat}{A:Ci}(r:Room k A):A.units+64<cLine:=by have:=r.un; omega
def HS:TA:=λ_ H Q=>Q [] H
def FB(b:TE)(tr:TA):TA:=λa H Q=>b a H λx c=>tr a c λe d=>Q (x::e) d
section
variable{X:Cx}{e:Expr}{es:List Expr}{a:TE}{t:TA}{pos:Pos}
theorem Og:PA X [] HS:=λ_ _ _ _ H Q I h=>Calls.spliced_nil ⟨[],H,I,.nil,h⟩
theorem Hx(p:PE X e a)(m:PA X es t)(r:Bj (e::es) X.env=(false,eval e X.env)::Bj es X.env:=by rfl):PA X (e::es) (FB a t):=by
 intro pos b s d H Q I h
 rw[r]
 show wpAny _ _ (spliced ((false,eval e X.env)::Hg pos (Bj es X.env))) _ _ s
 refine Calls.spliced_cons (Fp (p b s d H _ I h) λu q c => ?_)
 obtain ⟨x,k,j,i,g⟩ := c
 exact Fp (m pos b q d k _ j g) λw y ⟨o,n,f,v,l⟩=>⟨x::o,n,f,.cons i v,l⟩
def JN(t:TA):TE:=λc H Q=>t c H λa b=>a.length<=Ay/\∀p,b p=none->Q (.ref p) (upd b p (.tup a))
def KR(t:TA):TE:=λc H Q=>t c H λa b=>a.length<=Ay/\∀p,b p=none->Q (.ref p) (upd b p (.lst a))
theorem BR{x1}(h:PA X es t):PE X (.Tuple es x1 pos) (JN t):=by
 intro a s l H Q I j
 refine wpAny_Tuple_spliced (Fp (h pos a s l H _ I j) λi c ⟨k,f,d,r,z,q⟩=>⟨by rw[<- r.length]; exact z,?_⟩)
 have g:f c.heap.objs.size=none:=d.hok.fresh (Aj _)
 refine ⟨.ref c.heap.objs.size,upd f c.heap.objs.size (.tup k),d.laid (t':=c.toks) (λb u e=>Ai _ e) (Aj _) ?_,rfl,q _ g⟩
 exact ⟨z,i,r,⟨_,Ar _ rfl,rfl,_,rfl⟩⟩
theorem qY(h:PA X es t):PE X (.List es pos) (KR t):=by
 intro a s l H Q I j
 refine wpAny_List_spliced (Fp (h pos a s l H _ I j) λi c ⟨k,f,d,r,z,q⟩=>⟨by rw[<- r.length]; exact z,?_⟩)
 have g:f c.heap.objs.size=none:=d.hok.fresh (Aj _)
 refine ⟨.ref c.heap.objs.size,upd f c.heap.objs.size (.lst k),d.laid (t':=c.toks) (λb u e=>Ai _ e) (Aj _) ?_,rfl,q _ g⟩
 exact ⟨z,i,0,r,Ar _ rfl⟩
end
abbrev Sp:=List V->Hp->VK->XK->Prop
abbrev yG:=List Env->Hp->Ah->XK->Value->Ah->Prop
structure Env0(P:Bk)(w:World)(K:PySem.W.Frag)(mg:Str->Option Value)(base:Heap)(A:Ci)(outer:List Env)(s:Ah)(H:Hp):Prop where
 frames:A.frames=some outer
 mod:Mod K mg base
 bs:∀b o,base.get? b=some o->s.heap.get? b=some o/\H b=none
 bsz:base.objs.size<=s.heap.objs.size
 funs:s.heap.FunFrames base outer
 frf:∀b∈yZ outer,H b=none
 hok:Zx P w H s.heap
 bare:Xo s.gens
def CE(outer:List Env)(P:Bk)(w:World)(H:Hp)(s:Ah)(Q:VK)(u:Value)(s':Ah):Prop :=
 ∃v a,s'.os=s.os/\Xo s'.gens/\Un (yZ outer) [] H a s.heap s'.heap/\Zx P w a s'.heap/\RelV v u/\Q v a
def CR(CX:yG)(outer:List Env)(P:Bk)(w:World)(H:Hp)(s:Ah)(Q:VK)(E:XK)(r:Result)(s':Ah):Prop :=
 match r with
 | .ok (.ret u)=>CE outer P w H s Q u s'
 | .ok _=>False
 | .error e=>CX outer H s E e s'
structure FnOk(P:Bk)(w:World)(K:PySem.W.Frag)(mg:Str->Option Value)(base:Heap)(CX:yG)(k:Nat)(f:Addr)(fd:Cs)(ps:List Str)(sp:Sp):Prop where
 len:∀vs H Q E,sp vs H Q E->vs.length=ps.length
 run:∀(A:Ci) (outer:List Env) (s:Ah) (H:Hp) (args:Args) (us:List Value) (vs:List V) (Q:VK) (E:XK),Room k A->Env0 P w K mg base A outer s H->BindsTo s fd args (ps.zip us)->Gj vs us->sp vs H Q E ->
  Ha (model P w) A (.call (.ref f) args) (CR CX outer P w H s Q E) s
theorem FnOk.imp{P:Bk}{w:World}{K:PySem.W.Frag}{mg:Str->Option Value}{base:Heap}{CX:yG}{k:Nat}{f:Addr}{d:Cs}{ps:List Str}{sp c:Sp}(F:FnOk P w K mg base CX k f d ps sp)(h:∀vs H Q E,c vs H Q E->sp vs H Q E):FnOk P w K mg base CX k f d ps c :=
 ⟨λvs H Q E q=>F.len vs H Q E (h _ _ _ _ q),λA a s H b j vs Q E l i e g m=>F.run A a s H b j vs Q E l i e g (h _ _ _ _ m)⟩
section
variable{X:Cx}{a:List (Addr×Obj)}{c:St}{H:Hp}{s s':Ah}
theorem Inv.env0(I:Inv X a c H s):Env0 X.prog X.w X.K X.mg X.base X.A X.stack s H :=
 ⟨I.ok.frames,I.ok.mod,I.bs,Cb I.ok.bsz I.sz,I.stack,I.stkFree,I.hok,I.bare⟩
theorem Inv.after{Q:VK}{u:Value}(I:Inv X a c H s)(h:CE X.stack X.prog X.w H s Q u s'):EP X a c Q u s':=by
 obtain ⟨v,j,os,e,un,i,r,q⟩:=h
 obtain ⟨k,g,d,t,f⟩:=s'
 obtain rfl:f=s.os:=os
 exact ⟨v,j,I.call (h':=k) (g':=g) (d':=d) (t':=t) (ch:=[]) un i e (λb z=>absurd z (by simp)),r,q⟩
end
def Z7(sp:Sp)(a:List V)(E:XK)(t:TA):TE:=λb H Q=>t b H λvs c=>sp (vs++a) c Q E
def Binds(K:PySem.W.Frag)(b:Cs)(ps:List Str)(ds:List Value):Prop :=
 ∀(s:Ah) (a:List Value),K.In s.heap->(a++ds).length=ps.length->BindsTo s b ⟨a,[]⟩ (ps.zip (a++ds))
theorem Binds.all{K:PySem.W.Frag}{b:Cs}{ps:List Str}(h:∀us:List Value,us.length=ps.length->bindArgs b ⟨us,[]⟩=pure (ps.zip us)):Binds K b ps []:=λs us _ a=>by
 rw[Eb] at a ⊢
 exact .of_eq (h us a)
def Ss(CX:yG)(X:Cx)(E:XK):Prop:=∀(a:List (Addr×Obj)) (c:St) (H:Hp) (s:Ah) (e:Value) (b:Ah),Inv X a c H s->CX X.stack H s E e b->X.xe e b
section
variable{X:Cx}{CX:yG}{k:Nat}{f C:Addr}{b:Cs}{ps:List Str}{sp:Sp}{a:List V}{ds:List Value}{E:XK}{x m:Str}{p pos c:Pos}{e o:Expr}{es:List Expr}{d:TE}{t:TA}
theorem J9{c:List (Addr×Obj)}{g:St}{H:Hp}{s:Ah}{Q:VK}{us:List Value}{vs:List V}(F:FnOk X.prog X.w X.K X.mg X.base CX k f b ps sp)(n:Room k X.A)(hb:Binds X.K b ps ds)(hd:Gj a ds)(m:Ss CX X E)(I:Inv X c g H s)(r:Gj vs us)(h:sp (vs++a) H Q E):wpAny (model X.prog X.w) X.A (call (.ref f) us) (EP X c g Q) X.xe s:=by
 have i:Gj (vs++a) (us++ds):=r.append hd
 have o:(us++ds).length=ps.length:=by rw[<- i.length]; exact F.len _ _ _ _ h
 refine wpAny_call (Oq (F.run X.A X.stack s H ⟨us,[]⟩ (us++ds) (vs++a) Q E n I.env0 (hb s us I.kIn o) i h) λr j d=>?_)
 cases r with
 | error e=>exact m c g H s e j I d
 | ok l =>
  cases l with
  | ret u=>exact I.after d
  | next=>exact Ld d
  | brk=>exact Ld d
  | cont=>exact Ld d
theorem cA(F:FnOk X.prog X.w X.K X.mg X.base CX k f b ps sp)(n:Room k X.A)(u:Gl X x)(l:X.mg x=some (.ref f))(o:PySem.W.keepIn X.K (.ref f)=true)(hb:Binds X.K b ps ds)(hd:Gj a ds)(m:Ss CX X E)(v:PA X (e::es) t)(g:(x == ("__debug__" : Str))=false:=by decide)(j:Bj (e::es) X.env=(false,eval e X.env)::Bj es X.env:=by rfl)(d:(Hg pos (Bj es X.env)).any (·.1)=false:=by rfl):PE X (.Call (.Name x p) (e::es) [] pos) (Z7 sp a E t):=by
 intro c s y H Q I h
 refine Tg (uU I u l ?_ g)
 refine PySem.W.callWith_K (h₀:=X.base) I.ok.mod.kin o (Fp (v pos c s y H _ I h) λz C ⟨vs,B,i,r,q⟩=>⟨i.kIn,?_⟩) j d
 exact J9 F n hb hd m i r q
theorem o4(F:FnOk X.prog X.w X.K X.mg X.base CX k f b ps sp)(i:Room k X.A)(l:Gl X x)(e:X.mg x=some (.ref f))(j:PySem.W.keepIn X.K (.ref f)=true)(hb:Binds X.K b ps ds)(hd:Gj a ds)(g:Ss CX X E)(c:(x == ("__debug__" : Str))=false:=by decide):PE X (.Call (.Name x p) [] [] pos) (Z7 sp a E HS):=by
 intro d s m H Q I h
 refine Tg (uU I l e ?_ c)
 exact PySem.W.callWith_K0 I.kIn j (J9 (us:=[]) F i hb hd g I .nil h)
end
structure FnScope(N P:List Str)(sc:Scope):Prop where
 kind:sc.kind=.function
 co:sc.isCoroutine=false
 gen:sc.isGenerator=false
 nd:N.Nodup
 pre:N.take P.length=P
 par:∀x∈P,sc.names.lookup x=some .local\/sc.names.lookup x=some .cell
 nofree:∀y∈sc.names,y.2≠.free
theorem iZ{kindOf:Str->Option Qv}{x:Str}:∀{binds:List (Str×Value)} {m:Str->Option Value},(∀v,(x,v)∉binds)->bindL kindOf binds m x=m x
 | [],_,_=>rfl
 | (n,v)::r,m,h=>by
  unfold bindL
  rw[iZ λw a=>h w (Ac _ a)]
  split
  ·have : x≠n:=by rintro rfl; exact h v Ab
   simp [this]
  ·rfl
theorem iM{kindOf:Str->Option Qv}{x:Str}:∀{binds:List (Str×Value)} {m:Str->Option Value},(∀v,(x,v)∉binds)->bindC kindOf binds m x=m x
 | [],_,_=>rfl
 | (n,v)::r,m,h=>by
  unfold bindC
  rw[iM λw a=>h w (Ac _ a)]
  split
  ·rfl
  ·have : x≠n:=by rintro rfl; exact h v Ab
   simp [this]
theorem iQ{kindOf:Str->Option Qv}{x:Str}{v:Value}:∀{P:List Str} {vs:List Value} {i:Nat} {m:Str->Option Value},P.Nodup->P[i]? = some x->vs[i]? = some v->kindOf x=some .local->bindL kindOf (P.zip vs) m x=some v
 | [],_,_,_,_,h,_,_=>by simp at h
 | _::_,[],_,_,_,_,h,_=>by simp at h
 | p::P,w::vs,0,m,nd,h1,h2,hk=>by
  simp at h1 h2; subst h1; subst h2
  show bindL kindOf ((p,w)::P.zip vs) m p=_
  unfold bindL
  rw[iZ λv a=>(Cm.mp nd).1 (List.of_mem_zip a).1,if_pos hk]
  simp
 | p::P,w::vs,i+1,m,nd,h1,h2,hk=>by
  show bindL kindOf ((p,w)::P.zip vs) m x=_
  unfold bindL
  exact iQ (i:=i) (Cm.mp nd).2 (by simpa using h1) (by simpa using h2) hk
theorem hZ{kindOf:Str->Option Qv}{x:Str}{v:Value}:∀{P:List Str} {vs:List Value} {i:Nat} {m:Str->Option Value},P.Nodup->P[i]? = some x->vs[i]? = some v->kindOf x≠some .local->bindC kindOf (P.zip vs) m x=some v
 | [],_,_,_,_,h,_,_=>by simp at h
 | _::_,[],_,_,_,_,h,_=>by simp at h
 | p::P,w::vs,0,m,nd,h1,h2,hk=>by
  simp at h1 h2; subst h1; subst h2
  show bindC kindOf ((p,w)::P.zip vs) m p=_
  unfold bindC
  rw[iM λv a=>(Cm.mp nd).1 (List.of_mem_zip a).1,if_neg hk]
  simp
 | p::P,w::vs,i+1,m,nd,h1,h2,hk=>by
  show bindC kindOf ((p,w)::P.zip vs) m x=_
  unfold bindC
  exact hZ (i:=i) (Cm.mp nd).2 (by simpa using h1) (by simpa using h2) hk
def start(N:List Str)(vs:List V):St:=vs.map some++By (N.length - vs.length) none
def Nc(CX:yG)(P:Bk)(w:World)(K:PySem.W.Frag)(mg:Str->Option Value)(base:Heap)(N:List Str)(b:Str)(a:Scope)(f:Addr)(d:Value)(A:Ci)(outer:List Env)(s:Ah)(H:Hp)(E:XK):Cx where
 prog:=P
 w:=w
 K:=K
 mg:=mg
 base:=base
 A:=A.deeper (Th b a s.heap.objs.size f d)
 N:=N
 s₀:=s
 H₀:=H
 env:=Th b a s.heap.objs.size f d
 outer:=outer
 stack:=Th b a s.heap.objs.size f d::outer
 ex:=[]
 calm:=true
 fn:=λ_=>true
 pn:=[]
 xe:=λe g=>wpAny (model P w) (A.deeper (Th b a s.heap.objs.size f d)) (leaving (Th b a s.heap.objs.size f d) e) (λ_ c=>CX outer H s E e c) (λh c=>CX outer H s E h c) g
theorem oQ{a:Scope}{n:Nat}{x:Str}(h:a.names.lookup x=some .cell):∃c,(En n a.names []).lookup x=some c:=by
 have q:=PySem.W.cellsFrom_some a.names n [] (.inl h)
 exact Rt.mp q
theorem xK{CX:yG}{P:Bk}{w:World}{K:PySem.W.Frag}{mg:Str->Option Value}{base:Heap}{N ps:List Str}{g:Str}{d:Scope}{f:Addr}{B:Value}{A:Ci}{outer:List Env}{s I:Ah}{H:Hp}{E:XK}{us:List Value}{vs:List V}(S:FnScope N ps d)(hd:A.handled=none)(l:Env0 P w K mg base A outer s H)(hl:vs.length=ps.length)(r:Gj vs us)(x:InCallC s s.heap.objs.size (bindL (Th g d s.heap.objs.size f B).kindOf (ps.zip us) λ_=>none) (En (s.heap.objs.size+1) d.names []) (bindC (Th g d s.heap.objs.size f B).kindOf (ps.zip us) λ_=>none) I):Inv (Nc CX P w K mg base N g d f B A outer s H E) [] (start N vs) H I:=by
 have J:ps.length<=N.length:=by have:=congrArg Ja S.pre; rw[Cz] at this; omega
 obtain ⟨C,O,rfl,F⟩:=x.done
 have m:∀b:Addr,b∉(Nc CX P w K mg base N g d f B A outer s H E).ex:=λb z=>absurd (show b∈([]:List Addr) from z) (by simp)
 refine ⟨⟨l.mod,S.kind,rfl,rfl,Aj _,λy z c C j=>?_,λy hy=>?_,λy c _ h=>?_,λ_=>hd,Around.frames_deeper l.frames,.inr ⟨rfl,rfl⟩,λb z=>absurd z (m b),l.bs,l.bsz,λb _ _=>m b,λb z=>absurd z (m b),l.funs,l.frf⟩,
  rfl,l.bare,Un.kept F,⟨_,x.toInCall.ns,λi y v C j Q=>?_⟩,λy c h=>⟨_,x.cell y c h⟩,l.hok.fresh (Aj _),λy c h=>?_,λp t=>absurd (show p∈([]:List (Addr×Obj)) from t) (by simp),l.hok.kept F,?_⟩
 ·exact name_of_addr x.apart (PySem.mem_of_lookup C) (PySem.mem_of_lookup j)
 ·have hy:d.names.lookup y=some .cell\/d.names.lookup y=some .free:=hy
  rcases hy with hy | hy
  ·exact oQ hy
  ·exact absurd rfl (S.nofree _ (PySem.mem_of_lookup hy))
 ·exact Kf (x.above y c (PySem.mem_of_lookup h))
 ·have D:i<vs.length:=by
   unfold start at j
   by_cases D:i<vs.length
   ·exact D
   ·rw[Ii (by simpa using D)] at j
    rw[List.getElem?_replicate] at j
    split at j <;> cases j
  have M:vs[i]? = some v:=by
   unfold start at j
   rw[Lq (by simpa using D),Bg] at j
   cases e:vs[i]? with
   | none=>rw[e] at j; cases j
   | some a=>rw[e] at j; cases j; rfl
  obtain ⟨u,G,L⟩:=r.get M
  have t:ps[i]? = some y:=by
   rw[<- S.pre,Jg (by omega)]; exact C
  have o:ps.Nodup:=by rw[<- S.pre]; exact S.nd.sublist (Hl _ _)
  refine ⟨u,L,?_⟩
  rcases S.par y (Bp t) with k | k
  ·exact .inl ⟨k,iQ o t G k⟩
  ·obtain ⟨c,e⟩:=oQ (n:=s.heap.objs.size+1) k
   refine .inr ⟨.inl k,c,e,?_⟩
   have q:=x.cell y c e
   rw[hZ o t G (by show d.names.lookup y≠_; rw[k]; decide)] at q
   exact q
 ·exact l.hok.fresh (Kf (x.above y c (PySem.mem_of_lookup h)))
 ·unfold start
  show _=N.length
  rw[Bm,Ad,Wf]
  omega
theorem IG{CX:yG}{P:Bk}{w:World}{K:PySem.W.Frag}{mg:Str->Option Value}{base:Heap}{k:Nat}{f:Addr}{name c:Str}{g:Arguments}{h:List Stmt}{a:Scope}{dV kV B T d ct oc:Value}{U od:Option Addr}{L:Array (Option Value)}{N ps:List Str}{sp:Sp}(lk:K.lookup f=some ⟨oc,od,.func (PySem.W.fnOf name c g h a dV kV B T U d ct),L⟩)(F:PySem.W.codeIn K d c=true)(S:FnScope N ps a)(len:∀vs H Q E,sp vs H Q E->vs.length=ps.length)(m:∀(A:Ci) (outer:List Env) (s:Ah) (H:Hp) (vs:List V) (Q:VK) (E:XK),Room k (A.deeper (Th c a s.heap.objs.size f d))->sp vs H Q E->∃t,uJ (Nc CX P w K mg base N c a f d A outer s H E) h t/\t { nx:=λ_ j=>Q .non j,rt:=Q } (start N vs) H):FnOk P w K mg base CX (k+1) f (PySem.W.fnOf name c g h a dV kV B T U d ct) ps sp:=by
 refine ⟨len,λA outer s H Y us vs Q E M z hb r C=>?_⟩
 have hl:=len _ _ _ _ C
 have Z:K.In s.heap:=z.mod.kin.keeps λb o e=>(z.bs b o e).1
 have G:s.heap.NoLimit:=z.mod.nolimit.keeps λb o e=>(z.bs b o e).1
 have l:∀y∈ps.zip us,a.names.lookup y.1=some .local\/(a.names.lookup y.1=some .cell/\((En (s.heap.objs.size+1) a.names []).lookup y.1).isSome=true):=λ⟨n,v⟩ hy=>by
  rcases S.par n (List.of_mem_zip hy).1 with q | q
  ·exact .inl q
  ·exact .inr ⟨q,PySem.W.cellsFrom_some _ _ _ (.inl q)⟩
 refine codeAny_call_function M.depth (Z _ _ lk) rfl S.co S.gen rfl (PySem.W.codeRec_of Z F) (hb _ _ _ _ ?_)
 refine wpAny_newFunctionEnv_cells S.kind l λh0 he X x=>?_
 subst he
 refine ⟨G.keeps x.toInCall.keep,codeAny_func ?_⟩
 obtain ⟨t,ht,hq⟩:=m A outer s H vs Q E (M.deeper _) C
 have I:Inv (Nc CX P w K mg base N c a f d A outer s H E) [] (start N vs) H X:=xK S M.hd z hl r x
 refine Cv (ht [] X (start N vs) H _ I hq) (λfl R p=>?_) λe R p=>p
 have D:∀{i:St} {j:Hp} {v:V} {u:Value},Inv (Nc CX P w K mg base N c a f d A outer s H E) [] i j R->RelV v u->Q v j->CE outer P w H s Q u R :=
  λ{i j v u} J O q=>⟨v,j,J.os,J.bare,J.base,J.hok,O,q⟩
 cases fl with
 | ret u =>
  obtain ⟨v,i,j,J,O,q⟩:=p
  exact D J O q
 | next =>
  obtain ⟨i,j,J,q⟩:=p
  exact D (v:=V.non) (u:=Gp) J rfl q
 | brk =>
  obtain ⟨_,_,_,q⟩:=p
  exact Ld q
 | cont =>
  obtain ⟨_,_,_,q⟩:=p
  exact Ld q
section
variable{X:Cx}{x:Str}{p pos:Pos}{e:Expr}{es:List Expr}{t:TA}{id T:String}{r:List V->Hp->VK->Prop}
def KQ(r:List V->Hp->VK->Prop)(t:TA):TE:=λa H Q=>t a H λvs b=>r vs b Q
theorem eX(u:Ml X (.builtin id) r)(q:Gl X x)(n:X.mg x=none)(f:Os x=some (.builtin id))(v:PA X (e::es) t)(j:x ≠ "__name__" := by decide)(c:(x == ("__debug__" : Str))=false:=by decide)(k:Bj (e::es) X.env=(false,eval e X.env)::Bj es X.env:=by rfl)(b:(Hg pos (Bj es X.env)).any (·.1)=false:=by rfl):PE X (.Call (.Name x p) (e::es) [] pos) (KQ r t):=by
 intro a s d H Q I h
 refine Tg (Sk I q n f ?_ j c)
 exact PyProof.Rows.callWith_builtin1 (Fp (v pos a s d H _ I h) λm w ⟨vs,o,l,i,g⟩=>u a w d o vs m Q l i g) k b
theorem Na(u:Ml X (.type T) r)(q:Gl X x)(n:X.mg x=none)(f:Os x=some (.type T))(v:PA X (e::es) t)(j:x ≠ "__name__" := by decide)(c:(x == ("__debug__" : Str))=false:=by decide)(k:Bj (e::es) X.env=(false,eval e X.env)::Bj es X.env:=by rfl)(b:(Hg pos (Bj es X.env)).any (·.1)=false:=by rfl):PE X (.Call (.Name x p) (e::es) [] pos) (KQ r t):=by
 intro a s d H Q I h
 refine Tg (Sk I q n f ?_ j c)
 exact Dy (Fp (v pos a s d H _ I h) λm w ⟨vs,o,l,i,g⟩=>u a w d o vs m Q l i g) k b
end
end L2
namespace HT
open PySem PyProof.Rows
def lexLt:List Int->List Int->Bool
 | [],[]=>false
 | [],_::_=>true
 | _::_,[]=>false
 | x::xs,y::ys=>if x=y then lexLt xs ys else decide (x<y)
theorem lexLt_cons(x y:Int)(xs ys:List Int):lexLt (x::xs) (y::ys)=if x=y then lexLt xs ys else decide (x<y):=rfl
theorem lexLt_nil_nil:lexLt [] []=false:=rfl
theorem lexLt_nil_cons(y:Int)(ys:List Int):lexLt [] (y::ys)=true:=rfl
theorem lexLt_cons_nil(x:Int)(xs:List Int):lexLt (x::xs) []=false:=rfl
theorem o8(A:Ci)(s:Ah)(a:Int)(t:Tok)(c:Int)(u:Tok):∃e,Od A s (.int a t) (.int c u) e/\(e=true↔a=c) :=
 ⟨(a == c),SeqAt.EqAt.int_int a t c u,by simp⟩
theorem B7(A:Ci)(s:Ah)(a:Int)(t:Tok)(c:Int)(u:Tok)(prog:Bk)(w:World)(E:Value->Ah->Prop)(Q:Value->Ah->Prop)(h:Q (.bool (decide (a<c))) s):wpAny (model prog w) A (richCompare .Lt (.int a t) (.int c u)) Q E s :=
 (PyProof.Rows.lt_int h:wpAny (model prog w) A (Ke .Lt (.int a t) (.int c u)) Q E s)
section
open PySem.SeqAt
open PySem.AutoSeq1 (wpAny_loadPart')
open PySem.MeetsSeq PySem.MeetsSeq2 PySem.MeetsSeq3
theorem tuple_lt_ints(l b:Addr)(i f:Array Value)(n T:Nat)(W J:Option Addr)(V K:Array (Option Value))(ns G:List Int)(O:Fo i.toList ns)(P:Fo f.toList G):Meets (Builtin.«tuple.__lt__» ⟨[.ref l,.ref b],[]⟩) (λ_ R s=>s.heap.get? l=some { cls:=.type "tuple",dict:=W,data:=.seq i n,slots:=V }/\s.heap.get? b=some { cls:=.type "tuple",dict:=J,data:=.seq f T,slots:=K }/\R (.ok (.ret (.bool (lexLt ns G)))) s) :=
 .of_wp λz w A R s h=>by
  obtain ⟨I,g,d,F,os⟩:=s; obtain ⟨X,S,h⟩:=h
  have f2:=AutoSeq1.sub_tuple_tuple
  have Z:i.size=ns.length:=by rw[<- O.length]; simp
  have z2:f.size=G.length:=by rw[<- P.length]; simp
  wp_walk using Jj X,Jj S,wpAny_forIn_list _ (λIe b M=>b.1=none/\M=⟨I,g,d,F,os⟩/\∃(vs H:List Value) (m k:List Int),Ie=vs.zip H /\
   Fo vs m/\Fo H k/\m.length+f.size=k.length+i.size/\R (.ok (.ret (.bool (lexLt m k)))) ⟨I,g,d,F,os⟩) _
  case turn =>
   (rintro ⟨y,x⟩ Ie b M L; obtain ⟨B,rfl,vs,H,m,k,p,C,o,j,v⟩ := L)
   cases C with
   | nil=>rw[List.zip_nil_left] at p; cases p
   | cons a t D =>
    cases o with
    | nil=>rw[List.zip_nil_right] at p; cases p
    | cons c u E =>
     rw[Ig] at p
     injection p with hyx hrest
     injection hyx with hy hx
     subst hy hx
     rw[lexLt_cons] at v
     simp only[Bl] at j
     obtain ⟨e,U,r⟩:=o8 A.in1 ⟨I,g,d,F,os⟩ a t c u
     refine Aa (U z w _ _ ?_)
     cases e with
     | true =>
      rw[if_pos (r.mp rfl)] at v
      wp_walk
      exact ⟨rfl,rfl,_,_,_,_,hrest,D,E,by omega,v⟩
     | false =>
      rw[if_neg (λq=>absurd (r.mpr q) Bs)] at v
      have N:=B7 A.in1 ⟨I,g,d,F,os⟩ a t c u z w
      wp_walk using N
      exact ⟨_,rfl,by simpa using v⟩
  case fin =>
   (rintro ⟨b1,b2⟩ M L; obtain ⟨B,rfl,vs,H,m,k,p,C,o,j,v⟩ := L)
   simp only at B
   subst B
   have Q:lexLt m k=decide (i.size<f.size):=by
    cases C with
    | nil =>
     cases o with
     | nil =>
      simp only[Kj] at j
      rw[lexLt_nil_nil]
      exact (decide_eq_false (by omega)).symm
     | cons c u Y =>
      simp only[Kj,Bl] at j
      rw[lexLt_nil_cons]
      exact (decide_eq_true (by omega)).symm
    | cons a t Q =>
     cases o with
     | nil =>
      simp only[Kj,Bl] at j
      rw[lexLt_cons_nil]
      exact (decide_eq_false (by omega)).symm
     | cons c u Y =>
      rw[Ig] at p
      cases p
   rw[Q] at v
   wp_walk
   exact ⟨_,rfl,by simpa [Builtin.Tuple.tupleCompareSizes] using v⟩
  case h =>
   exact ⟨rfl,rfl,i.toList,f.toList,ns,G,rfl,O,P,by omega,h⟩
end
section
variable{prog:Bk}{w:World}{A:Ci}{E:Value->Ah->Prop}{s:Ah}
theorem lt_tupInts{l b:Addr}{c a:Array Value}{ns e:List Int}{Q:Value->Ah->Prop}(hl:IsTup s.heap l c)(hb:IsTup s.heap b a)(t:Fo c.toList ns)(r:Fo a.toList e)(z:A.units<cLine)(h:Q (.bool (lexLt ns e)) s):wpAny (model prog w) A (Ke .Lt (.ref l) (.ref b)) Q E s:=by
 obtain ⟨⟨B,y,o,v⟩,q,k,n,m⟩:=id hl
 obtain ⟨⟨p,i,data2,j⟩,d,f,u,g⟩:=id hb
 simp only at k m f g
 subst k m f g
 exact richCompare_meets_room (op:=.Lt) ⟨_,q,rfl⟩ ⟨_,d,rfl⟩ PySem.F.slot_tuple_lt PySem.F.entry_tuple_lt (PySem.F.args_tuple_lt_2 _ _) (tuple_lt_ints l b c a n u y i v j ns e t r)
  ⟨q,d,show Value.bool (lexLt ns e)≠Value.notImplemented/\Q (.bool (lexLt ns e)) s from ⟨(λx=>nomatch x),h⟩⟩ z
theorem cat_tup{t b:Addr}{vs a:List Value}{Q:Value->Ah->Prop}(x:IsTup s.heap t vs.toArray)(hb:IsTup s.heap b a.toArray)(l:vs≠[])(h1:a=[]->Q (.ref t) s)(v:a≠[]->Q (.ref s.heap.objs.size) { s with heap:=s.heap.push { cls:=.type "tuple",data:=.seq (vs++a).toArray } })(k:vs.length+a.length<=Ay):wpAny (model prog w) A (Jn .Add (.ref t) (.ref b)) Q E s:=by
 obtain ⟨⟨cls,p,data,m⟩,j,r,n,o⟩:=id x
 obtain ⟨⟨q,f,data2,d⟩,c,g,u,h⟩:=id hb
 simp only at r o g h
 subst r o g h
 have e:vs.toArray++a.toArray=(vs++a).toArray:=by simp
 by_cases i:a=[]
 ·exact concat_meets ⟨_,j,rfl⟩ ⟨_,c,rfl⟩ mK seq_tuple_add PySem.F.slot_tuple_add PySem.F.entry_tuple_add (PySem.F.args_tuple_add_2 _ _)
   (tuple_addW1 t b vs.toArray a.toArray n u p f m d (by simpa using l) (by simp [i])) ⟨j,c,h1 i⟩
 ·refine concat_meets ⟨_,j,rfl⟩ ⟨_,c,rfl⟩ mK seq_tuple_add PySem.F.slot_tuple_add PySem.F.entry_tuple_add (PySem.F.args_tuple_add_2 _ _)
   (tuple_addW2 t b vs.toArray a.toArray n u p f m d (by simpa using l) (by simpa using i) (by rw[Au,Au]; exact k)) ⟨j,c,?_⟩
  rw[e]
  exact v i
def sIx(n d:Nat):Option Int->Nat
 | none=>d
 | some v=>if v<0 then (v+(n:Int)).toNat else min v.toNat n
theorem sIx_none(n d:Nat):sIx n d none=d:=rfl
theorem sIx_nat(n d k:Nat):sIx n d (some (k:Int))=min k n:=by
 show (if (k:Int)<0 then ((k:Int)+(n:Int)).toNat else min (k:Int).toNat n)=min k n
 rw[if_neg (by omega),Ed]
theorem CZ(n d:Nat)(hd:d<=n)(o:Option Int):sIx n d o<=n:=by
 cases o with
 | none=>exact hd
 | some v =>
  show (if v<0 then (v+(n:Int)).toNat else min v.toNat n)<=n
  by_cases a:v<0
  ·rw[if_pos a]; omega
  ·rw[if_neg a]; exact Nat.min_le_right _ _
theorem vT(v:Int)(n d:Nat):(if v<0 then max (v+(n:Int)) 0 else min v (n:Int))=((sIx n d (some v):Nat):Int):=by
 show (if v<0 then max (v+(n:Int)) 0 else min v (n:Int))=(((if v<0 then (v+(n:Int)).toNat else min v.toNat n):Nat):Int)
 by_cases a:v<0
 ·simp only[if_pos a]; omega
 ·simp only[if_neg a]; omega
theorem tO(lo a:Option Int)(n:Nat):Ou lo a 1 (n:Int)=(((sIx n 0 lo:Nat):Int),((sIx n n a:Nat):Int)):=by
 have b:¬ ((1:Int)<0):=by omega
 unfold Ou
 simp only[b,if_false]
 refine Prod.ext ?_ ?_
 ·cases lo with
  | none=>rfl
  | some v=>exact vT v n 0
 ·cases a with
  | none=>rfl
  | some v=>exact vT v n n
theorem sX(i j:Nat):Kk (i:Int) (j:Int) 1=j - i:=by
 unfold Kk
 have a:(1:Int) > 0:=by omega
 simp only[a,if_true,Int.ediv_one]
 split <;> omega
theorem dP{v:Value}{o:Option Int}{Q:Option Int->Ah->Prop}(p:bN v o)(h:Q o s):wpAny (model prog w) A (Builtin.Slice.slicePartIndex v) Q E s:=by
 cases p with
 | none=>exact slicePart_none h
 | int i t=>exact slicePart_int h
theorem sliceApplied_gen{f:Addr}{d e:Value}{lo c:Option Int}{n:Nat}{Q:Int×Int×Nat->Ah->Prop}(j:s.heap.IsSliceOf f d e .none)(i:bN d lo)(g:bN e c)(h:Q (((sIx n 0 lo:Nat):Int),1,sIx n n c - sIx n 0 lo) s):wpAny (model prog w) A (Zl (.ref f) (pure (n:Int))) Q E s:=by
 obtain ⟨os,b,k,a⟩:=id j
 unfold Zl Builtin.Slice.sliceFields
 refine Aa (Aa (Eh b a (x:=d) rfl (Aa (Eh b a (x:=e) rfl (Aa (Eh b a (x:=.none) rfl (Ae ?_)))))))
 refine Aa (slicePart_none ?_)
 show wpAny _ _ (if ((1:Int) == 0)=true then _ else _) _ _ s
 rw[if_neg (by decide)]
 refine Aa (dP i (Aa (dP g (Aa (Ae ?_)))))
 show wpAny _ _ (match Ou lo c 1 (n:Int) with | (lo,c)=>pure (lo,(1:Int),Kk lo c 1)) _ _ s
 rw[tO lo c n]
 show wpAny _ _ (pure (((sIx n 0 lo:Nat):Int),(1:Int),Kk ((sIx n 0 lo:Nat):Int) ((sIx n n c:Nat):Int) 1)) _ _ s
 rw[sX]
 exact Ae h
theorem B0(xs:Array Value)(i k:Nat):((Cc k).filterMap λ(m:Nat)=>xs[((i:Int)+(m:Int) * 1).toNat]?).toArray=((xs.toList.drop i).take k).toArray:=by
 have e:(λ(m:Nat)=>xs[((i:Int)+(m:Int) * 1).toNat]?)=λm=>xs[i+m]?:=by
  funext m
  have : ((i:Int)+(m:Int) * 1).toNat=i+m:=by omega
  rw[this]
 rw[e]
 have:=pick_run xs i k
 rw[List.filterMap_map] at this
 have a:((λx=>xs[x]?) ∘ λx=>i+x)=λm=>xs[i+m]?:=rfl
 rw[a] at this
 rw[this]
theorem getItem_tuple_cut{t f:Addr}{a:Array Value}{k l:Value}{lo c:Option Int}{Q:Value->Ah->Prop}(d:IsTup s.heap t a)(n:s.heap.IsSliceOf f k l .none)(u:bN k lo)(r:bN l c)(hw:¬ (sIx a.size 0 lo=0/\sIx a.size a.size c=a.size))(h:Q (.ref s.heap.objs.size) { s with heap:=s.heap.push { cls:=.type "tuple",data:=.seq ((a.toList.drop (sIx a.size 0 lo)).take (sIx a.size a.size c - sIx a.size 0 lo)).toArray } })(p:a.size<=Ay):wpAny (model prog w) A (Rv (.ref t) (.ref f)) Q E s:=by
 have b:sizeOk (.seq ((a.toList.drop (sIx a.size 0 lo)).take (sIx a.size a.size c - sIx a.size 0 lo)).toArray):=by
  show ((a.toList.drop (sIx a.size 0 lo)).take (sIx a.size a.size c - sIx a.size 0 lo)).toArray.size<=Ay
  rw[Au,Cz,Lm,Am]
  omega
 have x:sIx a.size a.size c<=a.size:=CZ _ _ (Aj _) c
 obtain ⟨os,g,j,o⟩:=id n
 have e:s.TypeIs (.ref f) "slice" := ⟨os,g,j⟩
 unfold Rv
 try with_reducible refine Ct ?_
 first | refine Aa (Ae ?_) | skip
 refine Aa (wpAny_sequenceKey d.typeIs (by decide) ?_)
 refine Aa (Df (name:=Ds "__getitem__") d.typeIs Ez
  (Dj Ez d.typeIs entry_tuple_getitem ?_ (args_tuple_getitem _ _)))
 show wpAny _ _ (Zj (.ref t) >>= _) _ _ s
 refine Aa (tupleItemsOf_ d ?_)
 refine Aa (Jk e ?_)
 rw[if_pos (by decide)]
 refine Aa (sliceApplied_gen n u r ?_)
 have i:¬ ((((sIx a.size 0 lo:Nat):Int) == 0 && (1:Int) == 1 && (sIx a.size a.size c - sIx a.size 0 lo) == a.size)=true):=by
  intro q
  rw[Ec,Ec] at q
  have y:((sIx a.size 0 lo:Nat):Int)=0:=Ee q.1.1
  have v:sIx a.size a.size c - sIx a.size 0 lo=a.size:=Ee q.2
  exact hw ⟨by omega,by omega⟩
 show wpAny _ _ (if (((sIx a.size 0 lo:Nat):Int) == 0 && (1:Int) == 1 && (sIx a.size a.size c - sIx a.size 0 lo) == a.size)=true then _ else _) _ _ s
 rw[if_neg i,B0]
 first
  | exact Aa (m:=Gv _) (Cg (Ae ⟨_,rfl,Ae h⟩) b)
  | exact Aa (m:=Gv _) (Cg (Aa (Ae (Ae ⟨_,rfl,Ae h⟩))) b)
  | exact Aa (Aa (m:=Gv _) (Cg (Ae (Ae ⟨_,rfl,Ae h⟩)) b))
  | exact Aa (Aa (m:=Gv _) (Cg (Ae ⟨_,rfl,Ae h⟩) b))
end
end HT
namespace L2
open PySem PySem.Spec PyProof.Rows
abbrev TO:=St->Hp->(Option Int->Hp->Prop)->Prop
def PO(X:Cx)(e:Option Expr)(t:TO):Prop :=
 ∀(a:List (Addr×Obj)) (s:Ah) (b:St) (H:Hp) (Q:Option Int->Hp->Prop),Inv X a b H s->t b H Q ->
  wpAny (model X.prog X.w) X.A (evalPart e X.env) (λu d=>∃o c,Inv X a b c d/\bN u o/\Q o c) X.xe s
def R0:TO:=λ_ H Q=>Q none H
def FS(t:TE):TO:=λa H Q=>t a H λx b=>∃i,x=.int i/\Q (some i) b
theorem intsAre_of{ns:List Int}:∀{us:List Value},Gj (ns.map V.int) us->Fo us ns:=by
 induction ns with
 | nil=>intro us r; rw[Qh] at r; cases r; exact .nil
 | cons n ns a =>
  intro us r
  rw[Ap] at r
  cases r with
  | cons b c =>
   obtain ⟨t,e⟩:=b
   subst e
   exact .cons n t (a c)
section
variable{X:Cx}{e:Expr}{d:TE}{lo c:Option Expr}{j g:TO}{pos f:Pos}
theorem R5:PO X none R0:=by
 intro a s b H Q I h
 rw[evalPart_none]
 exact Ae ⟨none,H,I,.none,h⟩
theorem O5(h:PE X e d):PO X (some e) (FS d):=by
 intro a s l H Q I k
 rw[evalPart_some]
 refine Fp (h a s l H _ I k) λu m b => ?_
 obtain ⟨x,j,g,f,c⟩ := b
 obtain ⟨i,rfl,q⟩:=c
 obtain ⟨t,rfl⟩:=f
 exact ⟨some i,j,g,.int i t,q⟩
def CG(X:Cx)(r:V->Option Int->Option Int->Hp->VK->Prop):Prop :=
 ∀(a:List (Addr×Obj)) (s:Ah) (f:St) (H:Hp) (x:V) (v b d:Value) (lo c:Option Int) (e:Addr) (Q:VK),Inv X a f H s->RelV x v->s.heap.IsSliceOf e b d .none->bN b lo->bN d c->r x lo c H Q ->
  ∃T id,fO (.type T) "__getitem__" = pure (some (.builtin id))/\s.TypeIs v T/\wpAny (model X.prog X.w) X.A (Rv v (.ref e)) (EP X a f Q) X.xe s
theorem CG.or{r l:V->Option Int->Option Int->Hp->VK->Prop}(h:CG X r)(h':CG X l):CG X (λx lo c H Q=>r x lo c H Q\/l x lo c H Q):=by
 intro a s k H x v d f lo c g Q I e j i b q
 rcases q with q | q
 ·exact h a s k H x v d f lo c g Q I e j i b q
 ·exact h' a s k H x v d f lo c g Q I e j i b q
def MT(r:V->Option Int->Option Int->Hp->VK->Prop)(d:TE)(j g:TO):TE:=λa H Q=>d a H λx c=>j a c λl b=>g a b λu e=>r x l u e Q
theorem oT{r:V->Option Int->Option Int->Hp->VK->Prop}(J:CG X r)(E:PE X e d)(hl:PO X lo j)(S:PO X c g):PE X (.Subscript e (.Slice lo c none f) pos) (MT r d j g):=by
 intro a s m H Q I h
 refine Subscript_ (Fp (E a s m H _ I h) λv L k => ?_)
 obtain ⟨x,G,F,t,O⟩ := k
 refine wpAny_Slice (Fp (hl a L m G _ F O) λn P ⟨l,K,M,U,B⟩=>Fp (S a P m K _ M B) λo i k => ?_)
 obtain ⟨u,p,z,N,D⟩ := k
 rw[evalPart_none]
 refine Ae ?_
 have C:Inv X a m p { i with heap:=i.heap.push { cls:=.type "slice",data:=.fields #[n,o,.none] } }:=z.kept (t':=i.toks) λb Y q=>Ai _ q
 obtain ⟨T,id,W,y,R⟩:=J a { i with heap:=i.heap.push { cls:=.type "slice",data:=.fields #[n,o,.none] } } m p x v n o l u i.heap.objs.size Q C t (Heap.IsSliceOf.new ..) U N D
 show wpAny (model X.prog X.w) X.A (subscriptTail e (.Slice lo c none f) v (.ref i.heap.objs.size)) (EP X a m Q) X.xe { i with heap:=i.heap.push { cls:=.type "slice",data:=.fields #[n,o,.none] } }
 exact tail_any (ops:=[.ref i.heap.objs.size,v]) y W R (by with_unfolding_all rfl)
def eN(xs:List V)(lo c:Option Int):List V:=(xs.drop (HT.sIx xs.length 0 lo)).take (HT.sIx xs.length xs.length c - HT.sIx xs.length 0 lo)
theorem bF(xs:List V)(lo c:Option Int):(eN xs lo c).length<=xs.length:=by
 unfold eN
 rw[Cz,Lm]
 omega
def JU(K:PySem.W.Frag):V->Option Int->Option Int->Hp->VK->Prop:=λx lo c H Q=>∃a b,x=.ref a/\Ru K H a b /\
 ¬ (HT.sIx b.length 0 lo=0/\HT.sIx b.length b.length c=b.length)/\∀p,H p=none->Q (.ref p) (upd H p (.tup (eN b lo c)))
theorem CQ:CG X (JU X.K):=by
 intro i s A H x v u y lo c z Q I l t n k h
 obtain ⟨a,e,rfl,m,p,q⟩:=h
 cases l
 obtain ⟨f,r,g,j⟩:=I.tuple m
 have d:f.toArray.size=e.length:=by rw[Au]; exact r.length.symm
 refine ⟨"tuple",_,Ez.lookup,g.typeIs,?_⟩
 refine HT.getItem_tuple_cut g t n k (by rw[d]; exact p) ?_ (by rw[d]; exact j)
 rw[d]
 refine ⟨.ref s.heap.objs.size,_,I.laid (t':=s.toks) (o:=.tup (eN e lo c)) (λb w q=>Ai _ q) (Aj _) ?_,rfl,q _ (I.hok.fresh (Aj _))⟩
 exact ⟨Cb (bF e lo c) j,_,(r.drop (HT.sIx e.length 0 lo)).take (HT.sIx e.length e.length c - HT.sIx e.length 0 lo),IsTup.new _ _⟩
def IP(K:PySem.W.Frag):R2:=λx y H Q=>∃a b d c,x=.ref a/\y=.ref b/\Ru K H a d/\Ru K H b c/\d≠[]/\d.length+c.length<=Ay /\
 (c=[]->Q (.ref a) H)/\(c≠[]->∀p,H p=none->Q (.ref p) (upd H p (.tup (d++c))))
theorem Gj.nil_iff{xs:List V}{us:List Value}(r:Gj xs us):us=[]↔xs=[]:=by
 cases r with
 | nil=>simp
 | cons _ _=>simp
theorem R7:aB X (Jn .Add) (IP X.K):=by
 intro e s E H x y v u Q I n p h
 obtain ⟨a,b,B,j,rfl,rfl,C,k,t,i,l,r⟩:=h
 cases n
 cases p
 obtain ⟨m,d,A,_⟩:=I.tuple C
 obtain ⟨g,c,f,_⟩:=I.tuple k
 refine HT.cat_tup A f (λz=>t (d.nil_iff.mp z)) (λz=>⟨.ref a,H,I,rfl,l (c.nil_iff.mp z)⟩) (λz=>?_) (by rw[<- d.length,<- c.length]; exact i)
 refine ⟨.ref s.heap.objs.size,_,I.laid (t':=s.toks) (o:=.tup (B++j)) (λb D q=>Ai _ q) (Aj _) ?_,rfl,r (λw=>z (c.nil_iff.mpr w)) _ (I.hok.fresh (Aj _))⟩
 exact ⟨by rw[Bm]; exact i,_,d.append c,IsTup.new _ _⟩
end
def M4(n:Nat)(i:Int):Option Nat:=if 0<=i then (if i<n then some i.toNat else none) else if -(n:Int)<=i then some (i+n).toNat else none
def Wy{a:Type}(xs:List a)(i:Int):Option a:=(M4 xs.length i).bind λj=>xs[j]?
theorem uO{n:Nat}{i:Int}{j:Nat}(h:M4 n i=some j):seqIndex? i n=some j/\j<n /\ -(n:Int)<=i/\i<n:=by
 unfold M4 at h
 by_cases b:0<=i
 ·rw[if_pos b] at h
  by_cases a:i<n
  ·rw[if_pos a] at h
   have e:i.toNat=j:=Ca h
   exact ⟨by rw[seqIndex_of b a,e],by omega,by omega,a⟩
  ·rw[if_neg a] at h; cases h
 ·rw[if_neg b] at h
  by_cases a:-(n:Int)<=i
  ·rw[if_pos a] at h
   have e:(i+n).toNat=j:=Ca h
   exact ⟨by rw[seqIndex_neg (by omega) a,e],by omega,a,by omega⟩
  ·rw[if_neg a] at h; cases h
theorem jO{a:Type}{xs:List a}{i:Int}{v:a}(h:Wy xs i=some v):∃j,seqIndex? i xs.length=some j/\xs[j]? = some v/\j<xs.length /\ -(xs.length:Int)<=i/\i<xs.length:=by
 unfold Wy at h
 cases e:M4 xs.length i with
 | none=>rw[e] at h; cases h
 | some j =>
  rw[e] at h
  obtain ⟨c,b,f,d⟩:=uO e
  exact ⟨j,c,h,b,f,d⟩
theorem uF{a:Type}{xs:List a}{j:Nat}{v:a}(h:xs[j]? = some v):Wy xs (j:Int)=some v:=by
 have b:j<xs.length:=(Ax.mp h).1
 have e:M4 xs.length (j:Int)=some j:=by
  unfold M4
  rw[if_pos (by omega),if_pos (by omega)]; simp
 unfold Wy; rw[e]; exact h
def lO(b:Expr):Prop:=∀o i,subscripted b false o i=operate [o,i] (Rv o i)
def P7(X:Cx)(r:R2):Prop :=
 ∀(c a:Expr) (b:List (Addr×Obj)) (s:Ah) (d:St) (H:Hp) (x y:V) (v u:Value) (Q:VK),Inv X b d H s->RelV x v->RelV y u->r x y H Q ->
  subscripted a false v u=operate [v,u] (Rv v u)->wpAny (model X.prog X.w) X.A (subscriptTail c a v u) (EP X b d Q) X.xe s
def MO(X:Cx)(id:String)(r:V->List V->Hp->VK->Prop):Prop :=
 ∀(a:List (Addr×Obj)) (s:Ah) (b:St) (H:Hp) (x:V) (c:List V) (v:Value) (d:List Value) (Q:VK),Inv X a b H s->RelV x v->Gj c d->r x c H Q ->
  wpAny (model X.prog X.w) X.A (call (.builtin id) (v::d)) (EP X a b Q) X.xe s
section
variable{X:Cx}{a b:Expr}{A B:TE}{pos:Pos}
theorem P7.or{r i:R2}(h:P7 X r)(h':P7 X i):P7 X (λx y H Q=>r x y H Q\/i x y H Q):=by
 intro b a c s g H x y v u Q I d e q f
 rcases q with q | q
 ·exact h b a c s g H x y v u Q I d e q f
 ·exact h' b a c s g H x y v u Q I d e q f
theorem dU{r:R2}(i:P7 X r)(k:PE X a A)(hb:PE X b B)(l:lO b):PE X (.Subscript a b pos) (FP r A B):=by
 intro c s m H Q I h
 exact Subscript_ (EE k hb I h λv u e x y j d f g q=>i a b c e m j x y v u Q d f g q (l _ _))
def FA(K:PySem.W.Frag):R2:=λx y H Q=>∃p a i v,x=.ref p/\y=.int i/\Mq K H p a/\Wy a i=some v/\Q v H
def IJ(K:PySem.W.Frag):R2:=λx y H Q=>∃p a i v,x=.ref p/\y=.int i/\Ru K H p a/\Wy a i=some v/\Q v H
def GG:R2:=λx y H Q=>∃z i c,x=.str z/\y=.int i/\z.length<=Ay/\Wy z.cps.toList i=some c/\Q (.str ⟨#[c]⟩) H
theorem Vh:P7 X (FA X.K):=by
 intro k e a s o H x y v u Q I B C h n
 obtain ⟨p,O,i,z,rfl,rfl,D,F,q⟩:=h
 cases B
 obtain ⟨t,rfl⟩:=C
 obtain ⟨d,r,l,P⟩:=I.list D
 obtain ⟨j,c,E,R,M,J⟩:=jO F
 obtain ⟨w,A,g⟩:=r.get E
 have L:=r.length
 have N:=Wz
 have b:EP X a o Q w s:=⟨z,H,I,g,q⟩
 by_cases m:0<=i
 ·have f:i.toNat=j:=by
   rw[seqIndex_of m J] at c
   exact Ca c
  exact item_listR l.isList m (by omega) (by rw[f]; simpa using A) b n
 ·have f:(i+(d.toArray.size:Int)).toNat=j:=by
   rw[seqIndex_neg (by omega) M] at c
   rw[Au,<- L]
   exact Ca c
  exact M6 (x:=w) l.isList.typeIs IY.lookup
   (wpAny_getItem_list_neg (Q:=λr G=>r=w/\EP X a o Q r G) l.isList (by omega) (by rw[Au] <;> omega) (by omega) (by rw[f]; simpa using A) ⟨rfl,b⟩) n
theorem KS:P7 X (IJ X.K):=by
 intro e b a s f H x y v u Q I l m h C
 obtain ⟨p,J,i,z,rfl,rfl,n,A,q⟩:=h
 cases l
 obtain ⟨t,rfl⟩:=m
 obtain ⟨k,r,g,M⟩:=I.tuple n
 obtain ⟨j,B,o,O,N,L⟩:=jO A
 obtain ⟨w,E,c⟩:=r.get o
 have F:=r.length
 have G:=Wz
 have d:EP X a f Q w s:=⟨z,H,I,c,q⟩
 exact M6 (x:=w) g.typeIs slot_tuple_getitem.lookup
  (getItem_tuple (j:=j) (Q:=λr D=>r=w/\EP X a f Q r D) g (by omega) (by omega) (by rw[Au,<- F]; exact B) (by simpa using E) ⟨rfl,d⟩) C
theorem BC:P7 X GG:=by
 intro b a e s C H x y v u Q I f g h n
 obtain ⟨z,i,c,rfl,rfl,D,m,q⟩:=h
 obtain ⟨t,rfl⟩:=f
 obtain ⟨B,rfl⟩:=g
 obtain ⟨j,d,l,E,w,o⟩:=jO m
 have r:z.cps.toList.length=z.length:=by simp [Str.length]
 rw[r] at d w o
 have A:=Wz
 exact tail_any (typeIs_str s z t) slot_str_getitem.lookup (getItem_str (c:=c) (by
  have p:decide (i < -(2 ^ 63:Int))=false:=decide_eq_false (by omega)
  have k:decide (i ≥ 2 ^ 63)=false:=decide_eq_false (by omega)
  rw[p,k,Bool.or_false]) (by rw[d]; simpa using l) ⟨.str ⟨#[c]⟩,H,I.tok _,⟨_,rfl⟩,q⟩) n
def LJ(K:PySem.W.Frag):R2:=λx y H Q=>FA K x y H Q\/IJ K x y H Q\/GG x y H Q
theorem CN:P7 X (LJ X.K):=Vh.or (KS.or BC)
theorem sO(a:List Value)(n j:Nat)(u:Value):Ge (·.setIfInBounds j u) { cls:=.type "list",data:=.seq a.toArray n }={ cls:=.type "list",data:=.seq (a.set j u).toArray n }:=by
 simp [Ge]
theorem Inv.lst{b:List (Addr×Obj)}{c:St}{H:Hp}{s:Ah}{p:Addr}{xs:List V}(I:Inv X b c H s)(h:H p=some (.lst xs)):∃(a:List Value) (n:Nat),Gj xs a/\s.heap.get? p=some { cls:=.type "list",data:=.seq a.toArray n }/\xs.length<=Ay:=by
 obtain ⟨z,a,n,r,e⟩:=I.hok p _ h
 exact ⟨a,n,r,e,z⟩
theorem Inv.lstUpd{a:List (Addr×Obj)}{g:St}{H:Hp}{s:Ah}{p:Addr}{xs ys:List V}{c its':List Value}{n n':Nat}{f:Obj->Obj}(I:Inv X a g H s)(h:H p=some (.lst xs))(j:s.heap.get? p=some { cls:=.type "list",data:=.seq c.toArray n })(d:f { cls:=.type "list",data:=.seq c.toArray n }={ cls:=.type "list",data:=.seq its'.toArray n' })(r:Gj ys its')(hz:ys.length<=Ay)(t:Nat):Inv X a g (upd H p (.lst ys)) { s with heap:=s.heap.update p f,toks:=t }:=by
 have e:(s.heap.update p f).get? p=some { cls:=.type "list",data:=.seq its'.toArray n' }:=by
  rw[Fd f j (by rw[d] <;> rfl),d]
 refine I.write (x:=p) (e:=p) (by rw[h]; trivial) (.inl rfl) (λb u i q=>(tW _ _ (Lu i)).trans q) ⟨_,e⟩ ?_
 exact ⟨hz,its',n',r,e⟩
def HK:V->V->V->Hp->(Hp->Prop)->Prop:=λo i v H Q=>∃p a k j,o=.ref p/\i=.int k/\H p=some (.lst a)/\M4 a.length k=some j/\Q (upd H p (.lst (a.set j v)))
theorem cO:BJ X HK:=by
 intro b s C H o i v K G u Q I y D B h
 obtain ⟨p,A,k,j,rfl,rfl,m,z,q⟩:=h
 cases y
 obtain ⟨t,rfl⟩:=D
 obtain ⟨a,n,r,f,E⟩:=I.lst m
 obtain ⟨c,J,x,w⟩:=uO z
 have e:=r.length
 have F:=Wz
 have g:Inv X b C (upd H p (.lst (A.set j v))) { s with heap:=s.heap.update p (Ge (·.setIfInBounds j u)) } :=
  I.lstUpd m f (sO a n j u) (r.set B j) (by rw[List.length_set]; exact E) s.toks
 by_cases l:0<=k
 ·have d:k.toNat=j:=by
   rw[seqIndex_of l w] at c
   exact Ca c
  exact PySem.W.ki_setAt f l (by omega) (by rw[Au,<- e]; exact w) (by rw[d]; exact ⟨_,g,q⟩)
 ·have d:(k+(a.toArray.size:Int)).toNat=j:=by
   rw[seqIndex_neg (by omega) x] at c
   rw[Au,<- e]
   exact Ca c
  exact PySem.W.ki_setBack f (by omega) (by rw[Au,<- e]; exact x) (by omega) (by rw[d]; exact ⟨_,g,q⟩)
theorem kP(lo a:Option Int)(n:Nat):(Qq lo a none n).1=((HT.sIx n 0 lo:Nat):Int)/\(Qq lo a none n).2.1=((HT.sIx n n a:Nat):Int)/\(Qq lo a none n).2.2=1:=by
 refine ⟨?_,?_,rfl⟩
 ·cases lo with
  | none=>simp [Qq,HT.sIx]
  | some i =>
   simp only[Qq,HT.sIx,Option.getD_none,show (1:Int) > 0 by decide,if_true]
   by_cases h:i<0
   ·simp only[h,if_true] <;> omega
   ·simp only[h,if_false] <;> omega
 ·cases a with
  | none=>simp [Qq,HT.sIx]
  | some i =>
   simp only[Qq,HT.sIx,Option.getD_none,show (1:Int) > 0 by decide,if_true]
   by_cases h:i<0
   ·simp only[h,if_true] <;> omega
   ·simp only[h,if_false] <;> omega
theorem gD(a:List Value)(lo b:Option Int):slicePick a.toArray lo b none=((a.drop (HT.sIx a.length 0 lo)).take (HT.sIx a.length a.length b - HT.sIx a.length 0 lo)).toArray:=by
 obtain ⟨d,c,e⟩:=kP lo b a.toArray.size
 unfold slicePick
 rw[d,c,e]
 simp only[sliceRange_one,pick_run,Au] <;> rfl
def BQ(K:PySem.W.Frag):V->Option Int->Option Int->Hp->VK->Prop:=λx lo c H Q=>∃a b,x=.ref a/\Mq K H a b/\∀p,H p=none->Q (.ref p) (upd H p (.lst (eN b lo c)))
theorem N3:CG X (BQ X.K):=by
 intro g s z H x v t w lo e y Q I k n m i h
 obtain ⟨a,c,rfl,l,q⟩:=h
 cases k
 obtain ⟨j,r,f,p⟩:=I.list l
 have d:=r.length
 refine ⟨"list",_,IY.lookup,f.isList.typeIs,?_⟩
 refine wpAny_getItem_list_slice f.isList n m i .none (by simp) ?_ (by rw[Au] <;> omega)
 rw[gD,<- d]
 refine ⟨.ref s.heap.objs.size,_,I.laid (t':=s.toks) (o:=.lst (eN c lo e)) (λb u q=>Ai _ q) (Aj _) ?_,rfl,q _ (I.hok.fresh (Aj _))⟩
 exact ⟨Cb (bF c lo e) p,_,0,(r.drop (HT.sIx c.length 0 lo)).take (HT.sIx c.length c.length e - HT.sIx c.length 0 lo),Ar _ rfl⟩
theorem mF:Ml X (.type "list") (λxs H Q=>∃p ys,xs=[.ref p]/\(Mq X.K H p ys\/Ru X.K H p ys)/\∀l,H l=none->Q (.ref l) (upd H l (.lst ys))):=by
 intro g s A H xs B Q I r h
 obtain ⟨p,ys,rfl,hq,q⟩:=h
 obtain ⟨u,rfl,z⟩:=vals1 r
 cases z
 have j:∀(a:List Value),Gj ys a->ys.length<=Ay->∀(c:Heap) (d:Nat),(∀b y,s.heap.get? b=some y->c.get? b=some y) ->
   c.get? s.heap.objs.size=some { cls:=.type "list",dict:=none,data:=.seq a.toArray d,slots:=#[] }->EP X g A Q (.ref s.heap.objs.size) { s with heap:=c }:=λa f k c d kp e =>
  ⟨.ref s.heap.objs.size,_,I.laid (t':=s.toks) kp (Aj _) (show Jz X.prog X.w _ c _ (.lst ys) from ⟨k,a,d,f,e⟩),rfl,q _ (I.hok.fresh (Aj _))⟩
 rcases hq with hq | hq
 ·obtain ⟨a,f,v,k⟩:=I.list hq
  have i:=f.length
  obtain ⟨o,m,t,n,x⟩:=v.isList
  exact call_list_seq p (.inl rfl) m t x (λc d kp e=>j a f k c d kp e) (by simp only[Au] <;> omega)
 ·obtain ⟨a,f,v,k⟩:=I.tuple hq
  have i:=f.length
  obtain ⟨o,m,t,n,x⟩:=v
  exact call_list_seq p (.inr rfl) m t x (λc d kp e=>j a f k c d kp e) (by simp only[Au] <;> omega)
theorem Wi:Ml X (.type "tuple") (λxs H Q=>∃p ys,xs=[.ref p]/\((Mq X.K H p ys/\∀l,H l=none->Q (.ref l) (upd H l (.tup ys)))\/(Ru X.K H p ys/\Q (.ref p) H))):=by
 intro a s n H xs x Q I r h
 obtain ⟨p,ys,rfl,h⟩:=h
 obtain ⟨u,rfl,v⟩:=vals1 r
 cases v
 rcases h with ⟨f,q⟩ | ⟨f,q⟩
 ·obtain ⟨c,i,g,m⟩:=I.list f
  have k:=i.length
  refine call_tuple_list g.isList (λd kp=>?_) (by simp only[Au] <;> omega)
  have j:Inv X a n H { s with heap:=d }:=I.kept (t':=s.toks) kp
  have t:Inv X a n (upd H d.objs.size (.tup ys)) { s with heap:=d.push { cls:=.type "tuple",data:=.seq c.toArray } } :=
   j.laid (t':=s.toks) (λb o e=>Ai _ e) (Aj _) (show Jz X.prog X.w _ _ _ (.tup ys) from ⟨m,c,i,IsTup.new _ _⟩)
  exact ⟨.ref d.objs.size,_,t,rfl,q _ (j.hok.fresh (Aj _))⟩
 ·obtain ⟨c,i,g,m⟩:=I.tuple f
  exact call_tuple_same g ⟨.ref p,H,I,rfl,q⟩
def MD(K:PySem.W.Frag)(T:String)(x:V)(H:Hp):Prop:=match x with
 | .str _=>T = "str"
 | .int _=>T = "int"
 | .ref p=>(T = "list" /\ ∃b,Mq K H p b)\/(T = "tuple" /\ ∃o,K.lookup p=some o/\o.cls=.type "tuple" /\ o.dict=none) \/
   (T = "dict" /\ ((∃a,H p=some (.dK a))\/∃a,H p=some (.dT a)))\/(T = "set" /\ ∃S n,H p=some (.set S n))
 | _=>False
theorem ED{f:List (Addr×Obj)}{w:St}{H:Hp}{s:Ah}{T:String}{x:V}{v:Value}(I:Inv X f w H s)(r:RelV x v)(ty:MD X.K T x H):s.TypeIs v T/\∀a,v=.ref a->∃k,s.heap.get? a=some k/\k.dict=none:=by
 cases x with
 | str z =>
  obtain ⟨t,rfl⟩:=r
  cases (show T = "str" from ty)
  exact ⟨typeIs_str s z t,λ_ e=>nomatch e⟩
 | int i =>
  obtain ⟨t,rfl⟩:=r
  cases (show T = "int" from ty)
  exact ⟨typeIs_int s i t,λ_ e=>nomatch e⟩
 | ref p =>
  cases r
  rcases ty with ⟨rfl,y,q⟩ | ⟨rfl,o,b,u,j⟩ | ⟨rfl,b⟩ | ⟨rfl,S,n,b⟩
  ·obtain ⟨m,_,l,_⟩:=I.list q
   refine ⟨l.isList.typeIs,λa e=>?_⟩
   cases e
   obtain ⟨o,n,e,c,j,_⟩:=l
   exact ⟨o,e,j⟩
  ·refine ⟨⟨o,I.kIn p o b,u⟩,λa e=>?_⟩
   cases e
   exact ⟨o,I.kIn _ o b,j⟩
  ·have z:∃o,s.heap.get? p=some o/\o.ExactDict:=by
    rcases b with ⟨g,b⟩ | ⟨g,b⟩
    ·obtain ⟨_,_,_,_,o,_,_,e,d,_⟩:=I.hok p _ b
     exact ⟨o,e,d⟩
    ·obtain ⟨_,_,_,_,o,_,_,e,d,_⟩:=I.hok p _ b
     exact ⟨o,e,d⟩
   obtain ⟨o,e,d⟩:=z
   refine ⟨⟨o,e,d.1⟩,λa h=>?_⟩
   cases h
   exact ⟨o,e,d.2.1⟩
  ·obtain ⟨o,_,_,_,e,d,_⟩:=I.hok p _ b
   refine ⟨⟨o,e,d.1⟩,λa h=>?_⟩
   cases h
   exact ⟨o,e,d.2.1⟩
 | _=>exact Ld ty
def MS(K:PySem.W.Frag)(T:String)(r:V->List V->Hp->VK->Prop)(m:TE)(t:TA):TE:=λa H Q=>m a H λx b=>MD K T x b/\t a b λd c=>r x d c Q
variable{o e:Expr}{es:List Expr}{m:TE}{t:TA}{name:Str}{g d:Pos}{T id:String}{r:V->List V->Hp->VK->Prop}
theorem AF(L:PlainAttrs T)(slot:Slot T name id)(j:typeOf (.builtin id)=pure (.type "method_descriptor"))(y:MO X id r)(O:PE X o m)(N:PA X (e::es) t)
  (c:Vy o name X.env (eval o X.env)=eval o X.env:=by rfl)
  (i:((Hg d (Bj (e::es) X.env)).all (λx=>!x.1) && (backToKw d (bK [] X.env)).all (λx=>x.1.isSome)
   && decide ((e::es).length+([]:List Vc).length+(if ([]:List Vc).isEmpty then 0 else 1)<30))=true:=by rfl)
  (f:(g.endLine == d.line)=true:=by rfl) (G:Bj (e::es) X.env=(false,eval e X.env)::Bj es X.env:=by rfl) (b:(Hg d (Bj es X.env)).any (·.1)=false:=by rfl) :
  PE X (.Call (.Attribute o name g) (e::es) [] d) (MS X.K T r m t):=by
 intro a s l H Q I h
 refine wpAny_Call_method_late c i f rfl (Fp (O a s l H _ I h) λv C k => ?_)
 obtain ⟨x,z,q,n,ty,J⟩ := k
 obtain ⟨A,w⟩:=ED q n ty
 refine ⟨T,id,L,slot,j,A,w,?_⟩
 have p:=N d a C l z _ q J
 rw[G] at p ⊢
 refine Calls.callWith_builtin (by show (false || (Hg d (Bj es X.env)).any (·.1))=false; rw[b] <;> rfl) (Calls.evalArgs_plain ?_)
 exact Fp p λF M ⟨vs,B,E,D,u⟩=>y a M l B x vs v F Q E n D u
end
def KG(X:Cx)(id:String)(r:V->List V->Hp->VK->Prop):Prop :=
 ∀(a:List (Addr×Obj)) (s:Ah) (b:St) (H:Hp) (x:V) (c:List V) (v:Value) (d:List Value) (Q:VK),Inv X a b H s->RelV x v->Gj c d->r x c H Q ->
  wpAny (model X.prog X.w) X.A (call (.builtin id) (v::d)) (EP X a b Q) X.xe s
theorem Gj.one:∀{x:V} {us:List Value},Gj [x] us->∃u,us=[u]/\RelV x u
 | _,_,.cons r .nil=>⟨_,rfl,r⟩
theorem Gj.two{x y:V}{us:List Value}(h:Gj [x,y] us):∃u v,us=[u,v]/\RelV x u/\RelV y v:=by
 cases h with
 | cons r t =>
  cases t with
  | cons q t =>
   cases t
   exact ⟨_,_,rfl,r,q⟩
theorem Gj.rep{xs:List V}{us:List Value}(h:Gj xs us):∀k:Nat,Gj (By k xs).flatten (By k us).flatten
 | 0=>.nil
 | k+1=>by
  rw[Gu,Gu,Jb,Jb]
  exact Gj.append h (Gj.rep h k)
theorem foldl_rep(a:List Value):∀(k:Nat) (b:List Value),List.foldl (λd c=>d++c) b.toArray (By k a.toArray)=(b++(By k a).flatten).toArray
 | 0,b=>by simp
 | k+1,b=>by
  have e:b.toArray++a.toArray=(b++a).toArray:=by simp
  have f:(b++a)++(By k a).flatten=b++(By (k+1) a).flatten:=by
   rw[Gu,Jb,Bw]
  rw[<- f,<- foldl_rep a k (b++a),<- e,Gu,List.foldl_cons]
section
variable{X:Cx}{a:List (Addr×Obj)}{c:St}{H:Hp}{s:Ah}{l b:Addr}{xs ys d:List V}
theorem Inv.lset{b its':List Value}{n:Nat}{f:Array Value->Array Value}{t':Nat}(I:Inv X a c H s)(j:H l=some (.lst xs))(e:s.heap.get? l=some { cls:=.type "list",data:=.seq b.toArray n })(h:f b.toArray=its'.toArray)(d:Gj ys its')(hz:ys.length<=Ay):Inv X a c (upd H l (.lst ys)) { s with heap:=s.heap.update l (Ge f),toks:=t' }:=by
 have q:=PySem.IsL.update e f
 rw[h] at q
 refine I.write (x:=l) (e:=l) (by rw[j]; exact trivial) (.inl rfl) (λk u g i=>(tW s.heap (Ge f) (Lu g)).trans i) ⟨_,q⟩ ?_
 exact ⟨hz,its',_,d,q⟩
theorem Inv.lnew{b:List Value}{t':Nat}(I:Inv X a c H s)(d:Gj ys b)(hz:ys.length<=Ay):Inv X a c (upd H s.heap.objs.size (.lst ys)) { s with heap:=s.heap.push { cls:=.type "list",data:=.seq b.toArray },toks:=t' } :=
 I.laid (λ_ _ q=>Ai _ q) (Aj _) ⟨hz,b,0,d,Ar _ rfl⟩
theorem Inv.fresh(I:Inv X a c H s):H s.heap.objs.size=none:=I.hok.fresh (Aj _)
theorem Inv.lstM(I:Inv X a c H s)(d:H l=some (.lst xs)):xs.length<=Ay/\∃(b:List Value) (n:Nat),Gj xs b/\xs.length=b.length/\s.heap.get? l=some { cls:=.type "list",data:=.seq b.toArray n }:=by
 obtain ⟨z,b,n,r,e⟩:=I.hok l _ d
 exact ⟨z,b,n,r,r.length,e⟩
theorem mO{n:Nat}(h:n<=Ay):La n=false:=by
 unfold La
 exact decide_eq_false (by omega)
end
section
variable{X:Cx}
def M9:V->List V->Hp->VK->Prop:=λx vs H Q=>∃l a y,x=.ref l/\vs=[y]/\H l=some (.lst a)/\a.length<Ay/\Q .non (upd H l (.lst (a++[y])))
theorem Pc:KG X "list.append" M9:=by
 intro b s o H x vs v i Q I d g h
 obtain ⟨l,j,y,rfl,rfl,c,k,q⟩:=h
 cases d
 obtain ⟨u,rfl,f⟩:=g.one
 obtain ⟨z,a,n,r,m,e⟩:=I.lstM c
 refine Xl F.slot_list_append ⟨_,e,rfl⟩ F.entry_list_append (F.args_list_append_2 _ _) (PySem.list_append l a.toArray n u (by rw[Au]; omega)) ⟨e,?_⟩
 refine ⟨.non,_,I.lset (its':=a++[u]) c e (by simp) (r.append (.cons f .nil)) ?_,rfl,q⟩
 rw[Bm,Kt]
 omega
def Q7:V->List V->Hp->VK->Prop:=λx vs H Q=>∃l b c a,x=.ref l/\vs=[.ref b]/\H l=some (.lst c)/\H b=some (.lst a)/\c.length+a.length<=Ay/\Q .non (upd H l (.lst (c++a)))
theorem EY:KG X "list.extend" Q7:=by
 intro i s C H x vs v B Q I j w h
 obtain ⟨l,b,A,J,rfl,rfl,g,p,D,q⟩:=h
 cases j
 obtain ⟨u,rfl,o⟩:=w.one
 cases o
 obtain ⟨z,c,n,r,E,e⟩:=I.lstM g
 obtain ⟨G,a,m,t,y,k⟩:=I.lstM p
 have f:c.toArray.size+a.toArray.size<=Ay:=by rw[Au,Au]; omega
 have d:¬ (!c.toArray.isEmpty && La (c.toArray.size+a.toArray.size))=true:=by
  rw[mO f,Xi]
  exact Bs
 refine Xl F.slot_list_extend ⟨_,e,rfl⟩ F.entry_list_extend (F.args_list_extend_2 _ _)
  (AutoSeq1.list_extend_list_list_0 l c.toArray n b a.toArray m d (by rw[Au]; omega) (by omega)) ⟨e,k,?_⟩
 refine ⟨.non,_,I.lset (its':=c++a) g e (by simp) (r.append t) ?_,rfl,q⟩
 rw[Bm]
 omega
def HG:R2:=λx y H Q=>∃l b c a,x=.ref l/\y=.ref b/\H l=some (.lst c)/\H b=some (.lst a)/\c.length+a.length<=Ay/\∀p,H p=none->Q (.ref p) (upd H p (.lst (c++a)))
theorem EK:aB X (Jn .Add) HG:=by
 intro d s B H x y v u Q I g j h
 obtain ⟨l,b,t,A,rfl,rfl,m,k,w,q⟩:=h
 cases g
 cases j
 obtain ⟨z,c,n,r,C,e⟩:=I.lstM m
 obtain ⟨D,a,E,p,o,f⟩:=I.lstM k
 refine PySem.P.add_list e f ?_ (by rw[Au,Au]; omega)
 have i:c.toArray++a.toArray=(c++a).toArray:=by simp
 rw[i]
 exact ⟨.ref _,_,I.lnew (t':=s.toks) (r.append p) (by rw[Bm]; omega),rfl,q _ I.fresh⟩
def IM:R2:=λx y H Q=>∃l k a,x=.ref l/\y=.int k/\H l=some (.lst a) /\ -(2 ^ 63)<=k/\k<2 ^ 63/\a.length * k.toNat<=Ay /\
 ∀p,H p=none->Q (.ref p) (upd H p (.lst (By k.toNat a).flatten))
theorem vS{b:Type}(xs:List b)(k:Nat):(By k xs).flatten.length=k * xs.length:=by
 induction k with
 | zero=>simp
 | succ k a=>rw[Gu,Jb,Bm,a,Nat.succ_mul,Nat.add_comm]
theorem CA:aB X (Jn .Mult) IM:=by
 intro p s M H x y v u Q I A B h
 obtain ⟨l,k,L,rfl,rfl,C,E,D,w,q⟩:=h
 cases A
 obtain ⟨t,rfl⟩:=B
 obtain ⟨z,b,n,r,J,e⟩:=I.lstM C
 have d:b.toArray.size * k.toNat<=Ay:=by rw[Au,<- J]; exact w
 have i:¬ b.toArray.size * k.toNat > (2 ^ 63 - 1) / 8:=by
  have : (Ay:Nat)<=(2 ^ 63 - 1) / 8:=by decide
  omega
 have g:¬ (!Ol k)=true:=by
  rw[fitsIndex_both E D]
  exact Bs
 have c:¬ La (b.toArray.size * k.toNat)=true:=by
  rw[mO d]
  exact Bs
 have f:List.foldl (λj o=>j++o) #[] (By (if b.toArray.isEmpty=true then 0 else k.toNat) b.toArray)=(By k.toNat b).flatten.toArray:=by
  have K:∀m:Nat,List.foldl (λj o=>j++o) #[] (By m b.toArray)=(By m b).flatten.toArray:=λm=>by
   have:=foldl_rep b m []
   rw[List.nil_append] at this
   exact this
  rw[K]
  cases b with
  | nil=>simp
  | cons a N=>rw[if_neg (by simp)]
 refine wpAny_binaryOp_repeat_ref (T := "list") (U := "int") (by decide) ⟨_,e,rfl⟩ (λG=>typeIs_int G k t) noFill_list_mul F.fills_int_mul F.slot_int_rmul repeat_list F.slot_int_index.lookup
  (Xl F.slot_int_rmul (typeIs_int s k t) F.entry_int_rmul (F.args_int_rmul_2 _ _) (int___rmul___int_list k t l b.toArray n)
   ⟨e,rfl,⟨_,e,rfl⟩,Xl F.slot_list_mul ⟨_,e,rfl⟩ F.entry_list_mul (F.args_list_mul_2 _ _) (AutoListH.list___mul___list_int_3 l b.toArray n k t g i c) ⟨e,?_⟩⟩)
 rw[f]
 exact ⟨.ref _,_,I.lnew (t':=s.toks) (r.rep k.toNat) (by rw[vS,Nat.mul_comm]; exact w),rfl,q _ I.fresh⟩
end
end L2
namespace Att
open PySem PySem.W PySem.Calls PyProof.Rows
theorem bR{P:Params}{h:Heap}:∀(ns:List Int) (vs:List Value),WellAll P h vs (ns.map WData.int)->Fo vs ns:=by
 intro ns
 induction ns with
 | nil =>
  intro vs w
  rw[Qh] at w
  cases w
  exact .nil
 | cons n ns c =>
  intro vs w
  rw[Ap] at w
  cases w with
  | cons a b =>
   cases a
   exact .cons _ _ (c _ b)
theorem zH{l:OpenLaw}{n:Nat}(t:l.most=some n){P:Params}{h:Heap}{args:List WData}{b:List Value}(c:l.row.toRowW.claim.pre args=true)(k:WellAll P h b args):∃a vs ns,b=[Be a]/\args=[WData.list (ns.map WData.int)]/\h.get? a=some { cls:=.type "list",data:=.seq vs.toArray }/\Fo vs ns/\ns.length<=n:=by
 have j:WShape.hasAll [] args [.list .int]=true:=(pre_splitW c).1
 have m:l.pre.holds [] { args:=args }=true:=(pre_splitW c).2
 obtain ⟨d,r,rfl,v,o⟩:=hasAllW_cons j
 obtain rfl:=hasAllW_nil o
 obtain ⟨y,rfl,w⟩:=hasW_list v
 obtain ⟨ns,rfl⟩:=items_int w
 have f:ns.length<=n:=by
  unfold OpenLaw.pre at m
  have i:(WTm.not (.lt (.lit (.int (n:Int))) (.len (.arg 0)))).holds [] { args:=[.list (ns.map .int)] }=true:=by
   have i:=(holds_andW m).1
   rw[t] at i
   exact i
  have g:=condW_of i (w_not (w_lt w_lit (w_len_list (w_arg rfl))))
  rw[Ad] at g
  refine Nat.le_of_not_lt λq=>?_
  have s:(n:Int)<((ns.length:Nat):Int):=by omega
  first
   | (rw[decide_eq_true s] at g; exact absurd g (by decide))
   | (simp at g; omega)
 cases k with
 | cons u p =>
  cases p
  cases u with
  | list x e=>exact ⟨_,_,ns,rfl,rfl,x,bR ns _ e,f⟩
theorem xY(l:OpenLaw)(args:List WData):l.row.toRowW.claim.post args (.bool true) args=true :=
 postW_of (r:=l.row.toRowW) (X:=(true == true))
  (show WShape.has [] (.bool true) .bool=true by first | rfl | decide | simp [WShape.has,WShape.arms,WShape.armsAll])
  (show (WTm.eq .res (.lit (.bool true))).value [] { args:=args,res:=some (.bool true),after:=args }=some (.bool (true == true)) from w_eq_bool (w_res rfl) w_lit) rfl
theorem attach_call{l:OpenLaw}{n:Nat}{q:Bk}{loose:List Str}{XP:(Str->Option Value)->Heap->Prop}{YP:World->Heap->Prop}{d:DefRec}(B:l.most=some n)(v:d.params.defaults=[])(call:∀(w:World) (s₀ b:Ah) (mg t:Str->Option Value) (j:Addr) (o:Obj) (p k c:Value) (a:Addr) (vs:List Value) (ns:List Int),Ground q loose [] XP w s₀ mg t b.heap->YP w b.heap->b.heap.get? j=some o->o.data=.func (docDef d.name d.params d.body d.scope p k c)->b.heap.CodeRec k d.name->mg d.name=some (.ref j)->b.heap.get? a=some { cls:=.type "list",data:=.seq vs.toArray }->Fo vs ns->ns.length<=n->b.gens=#[]->Ha (model l.prog w) callerA (.call (.ref j) ⟨[.ref a],[]⟩) (λr s'=>r=.ok (.ret (.bool true))/\OldK b.heap s'.heap/\s'.os=b.os/\Xo s'.gens) b):WalkO q loose XP YP l.row.toRowW d [] (λf vs=>PySem.call f vs):=by
 intro w s₀ b mg t G Y j o p k c dV kV M E m y s K z x N i A J u D
 obtain rfl:dV=.none:=Dflts.none y v
 obtain rfl:kV=.none:=Dflts.noKw y
 obtain ⟨a,vs,ns,rfl,rfl,g,e,h⟩:=zH B i u
 refine enter_call (Oq (call w s₀ b mg t j o p k c a vs ns G Y M (fd_plain E) m s g e h K) λr s' C=>?_)
 obtain ⟨rfl,F,H,L⟩:=C
 exact ⟨.inl ⟨.bool true,.bool true,[],rfl,λ_=>rfl,.bool true,xY l _,λ_=>⟨Ei,λ_ I=>(nomatch I)⟩⟩,F,H,L⟩
end Att
namespace L2
open PySem PySem.Spec PyProof.Rows
theorem iX:∀{vs:List Value} {ns:List Int},Fo vs ns->Gj (ns.map V.int) vs
 | _,_,.nil=>.nil
 | _,_,.cons n t h=>.cons ⟨t,rfl⟩ (iX h)
def EB(H:Hp):Prop:=∀b,H b=none\/∃o a,H b=some (.frz o (.lst a))
def Ql(s:Stmt):Arguments:=match s with
 | .FunctionDef _ a _ _ _ _ _ _ _ _=>a
 | _=>{ posonlyargs:=[],args:=[],vararg:=none,kwonlyargs:=[],kw_defaults:=[],kwarg:=none,defaults:=[] }
def Kz(s:Stmt):List Stmt:=match s with
 | .FunctionDef _ _ b _ _ _ _ _ _ _=>b
 | _=>[]
def Bv(s:Stmt):Scope:=match s with
 | .FunctionDef _ _ _ _ _ _ a _ _ _=>a
 | _=>{ kind:=.function,names:=[],isGenerator:=false,isCoroutine:=false }
abbrev Hu:yG:=λ_ _ _ _ _ _=>False
abbrev E0:XK:=λ_ _ _=>False
theorem Ft{X:Cx}:Ss Hu X E0:=λ_ _ _ _ _ _ _ h=>h.elim
structure Fun(K:PySem.W.Frag)(x qual:Str)(st:Stmt)(f:Addr)(fd:Cs):Prop where
 ex:∃(oc:Value) (od:Option Addr) (kV doc pm:Value) (an:Option Addr) (cdv ct:Value) (osl:Array (Option Value)),
  fd=PySem.W.fnOf x qual (Ql st) (Kz st) (Bv st) .none kV doc pm an cdv ct/\K.lookup f=some ⟨oc,od,.func fd,osl⟩/\PySem.W.codeIn K cdv qual=true
 kp:PySem.W.keepIn K (.ref f)=true
section
variable{P:Bk}{w:World}{K:PySem.W.Frag}{mg:Str->Option Value}{base:Heap}
theorem Fun.ok{x a:Str}{st:Stmt}{f:Addr}{g:Cs}{N ps:List Str}{k:Nat}{sp:Sp}(F:Fun K x a st f g)(S:FnScope N ps (Bv st))(len:∀vs H Q E,sp vs H Q E->vs.length=ps.length)(c:∀(b:Value) (A:Ci) (outer:List Env) (s:Ah) (H:Hp) (vs:List V) (Q:VK) (E:XK),Room k (A.deeper (Th a (Bv st) s.heap.objs.size f b))->sp vs H Q E->∃t,uJ (Nc Hu P w K mg base N a (Bv st) f b A outer s H E).nox (Kz st) t/\t { nx:=λ_ i=>Q .non i,rt:=Q } (start N vs) H):FnOk P w K mg base Hu (k+1) f g ps sp:=by
 obtain ⟨o,v,kV,n,p,u,b,r,j,rfl,m,e⟩:=F.ex
 refine IG m e S len λA outer s H vs Q E l d=>?_
 obtain ⟨t,h,q⟩:=c b A outer s H vs Q E l d
 exact ⟨t,h.nox,q⟩
theorem Fun.binds{x a:Str}{st:Stmt}{f:Addr}{g:Cs}{ps:List Str}(F:Fun K x a st f g)(h:∀(kV c d:Value) (e:Option Addr) (b ct:Value) (us:List Value),us.length=ps.length->bindArgs (PySem.W.fnOf x a (Ql st) (Kz st) (Bv st) .none kV c d e b ct) ⟨us,[]⟩=pure (ps.zip us)):Binds K g ps []:=by
 obtain ⟨k,m,kV,c,d,e,b,ct,j,rfl,l,i⟩:=F.ex
 exact .all (h kV c d e b ct)
theorem K1{x a:Str}{st:Stmt}{f:Addr}{i:Value}{j h:Option Addr}{e:Array (Option Value)}{kV d g b ct:Value}(l:K.lookup f=some ⟨i,j,.func (PySem.W.fnOf x a (Ql st) (Kz st) (Bv st) .none kV d g h b ct),e⟩)(c:PySem.W.codeIn K b a=true)(k:PySem.W.keepIn K (.ref f)=true):Fun K x a st f (PySem.W.fnOf x a (Ql st) (Kz st) (Bv st) .none kV d g h b ct):=⟨⟨i,j,kV,d,g,h,b,ct,e,rfl,l,c⟩,k⟩
end
theorem zF{n:Nat}(h:n<=1000):n<Ay:=Nat.lt_of_le_of_lt h (by decide)
section
variable{X:Cx}
theorem pv(i:Nat){x:Str}{pos:Pos}(b:X.N[i]? = some x:=by rfl)(c:JD X.env.scope x:=by first | exact Dq rfl | exact Zf (Dq rfl) | exact Zf (Zf rfl))(hd:(x == ("__debug__" : Str))=false:=by decide)(a:(x == ("__classdict__" : Str))=false:=by decide):PE X (.Name x pos) (lC i):=AH b c hd a
end
theorem tJ{A B:Prop}(h:B):if false=true then A else B:=by
 rw[if_neg Bs]
 exact h
theorem rK{A B:Prop}(h:A):if true=true then A else B:=by
 rw[if_pos rfl]
 exact h
theorem IH{c A B:Prop}[Decidable c](h1:c->A)(a:¬ c->B):if c then A else B:=by
 by_cases h:c
 ·rw[if_pos h]
  exact h1 h
 ·rw[if_neg h]
  exact a h
def To(H a:Hp):Prop:=∀b o,H b=some o->a b=some o
theorem To.refl(H:Hp):To H H:=λ_ _ h=>h
theorem To.trans{H e d:Hp}(a:To H e)(b:To e d):To H d:=λc o h=>b c o (a c o h)
theorem To.free{H a:Hp}(e:To H a){l:Addr}(h:a l=Re):H l=Re:=by
 cases q:H l with
 | none=>rfl
 | some o =>
  rw[e l o q] at h
  cases h
end L2
namespace Nd
open PySem PySem.Spec PyProof.Rows L2
def Cw(X:Cx)(a:Scope)(b:List (Str×Addr))(N:List Str)(fp:List Addr)(s:Ah)(H:Hp):Cx where
 prog:=X.prog
 w:=X.w
 K:=X.K
 mg:=X.mg
 base:=X.base
 A:=X.A
 N:=N
 s₀:=s
 H₀:=H
 env:=Ti a (En (s.heap.objs.size+1) a.names b) s.heap.objs.size X.env
 outer:=X.stack
 stack:=X.stack
 ex:=fp
 fn:=λy=>decide (a.names.lookup y=some Eo)
 calm:=X.calm
 pn:=[]
 xe:=λ_ _=>False
section
variable{prog:Bk}{w:World}{A:Ci}{R:Result->Ah->Prop}{s:Ah}
theorem Su{e f iter:Expr}{b:List Expr}{a:Scope}{pos:Pos}{it d:Value}{env:Env}(J:Nat->Ah->Prop) (turn:∀n s,J n s->wpAny (model prog w) A (Jh it) (λr i=>match r with
    | none=>R (.ok .next) i
    | some v=>wpAny (model prog w) A (Hy f it v) (λ_ l=>wpAny (model prog w) A (Nr f env v) (λ_ p =>
      wpAny (model prog w) A (forIn b true λc r=>if r=true then (do
        let ok <- isTrue c env (eval c env)
        pure (Et ok)) else pure (Et r)) (λok g =>
       if ok=true then
        wpAny (model prog w) A (eval e env) (λx k=>wpAny (model prog w) A (call (.builtin "list.append") [d,x]) (λ_ j=>∃m,m<n/\J m j) (λ_ _=>False) k) (λ_ _=>False) g
       else ∃m,m<n/\J m g) (λ_ _=>False) p) (λ_ _=>False) l) (λ_ _=>False) i) (λ_ _=>False) s)
  (n:Nat) (h:J n s):Ha (model prog w) A (.compLoop (.ListComp e [⟨f,iter,b,0⟩] a pos) 0 it d env) R s:=by
 refine jD rfl J (λn s u=>?_) n h
 show wpAny _ A (Sem.onRaise (compTurn (.ListComp e [⟨f,iter,b,0⟩] a pos) 0 it d env) (λx=>do noteFrame x env; theTreesLotGoes x)) _ _ s
 refine wpAny_noted ?_
 rw[compTurn_list]
 refine Aa (Hj (Aa (Cv (turn n s u) (λr i o=>?_) λ_ _ z=>z.elim)))
 cases r with
 | none=>exact Ae o
 | some v =>
  refine Aa (Cv o (λ_ l t=>?_) λ_ _ z=>z.elim)
  refine Aa (Cv t (λ_ p C=>?_) λ_ _ z=>z.elim)
  refine Aa (Cv C (λok g q=>?_) λ_ _ z=>z.elim)
  cases ok with
  | false=>exact Ae ⟨rfl,q⟩
  | true =>
   refine Aa (Aa (Cv q (λx k B=>?_) λ_ _ z=>z.elim))
   exact Aa (Cv B (λ_ j y=>Ae (Ae ⟨rfl,y⟩)) λ_ _ z=>z.elim)
end
section
variable{X:Cx}{a:List (Addr×Obj)}{b:L2.St}{H:Hp}{s:Ah}{scope:Scope}{cl:List (Str×Addr)}{fp:List Addr}{N:List Str}
def aM(scope:Scope)(x:Str):Prop:=scope.names.lookup x=some .local\/scope.names.lookup x=some .cell
structure CompScope(X:Cx)(scope:Scope)(cl:List (Str×Addr))(x:Str)(ys:List Str)(js:List Nat):Prop where
 clos:closureFor scope X.env=pure cl
 oc:(∀y∈scope.names,y.2≠.cell)\/∃z:Str,(∀n,En n scope.names []=[(z,n)])/\scope.names.lookup z=some .cell/\∀y∈scope.names,y.2=.cell->y.1=z
 kind:scope.kind=.function
 locs:∀y∈scope.names,y.2=.local->scope.names.lookup y.1=some .local
 own:aM scope x
 sub:∀y c,cl.lookup y=some c->X.env.cells.lookup y=some c
 has_:(scope.names.all λy=>!(y.2 == Ew) || (cl.lookup y.1).isSome)=true
 nd:(x::ys).Nodup
 len:ys.length=js.length
 at_:∀(k:Nat) (y:Str) (j:Nat),ys[k]? = some y->js[k]? = some j->X.N[j]? = some y/\scope.names.lookup y=some .free/\(X.env.kindOf y=some .cell\/X.env.kindOf y=some .free)
theorem CompScope.has{x:Str}{ys:List Str}{b:List Nat}(C:CompScope X scope cl x ys b):∀y∈scope.names,y.2=.free->(cl.lookup y.1).isSome=true:=λy a e=>by
 have h:=List.all_eq_true.mp C.has_ y a
 rw[e] at h
 simpa using h
theorem Ud{env:Env}{y:Str}{k:Qv}:∀{names:List (Str×Qv)},
  (names.map λ(n,k)=>if (k == Ew && env.scope.kind == .function && env.kindOf n == some .cell) then (n,Eo) else (n,k)).lookup y=some k ->
  ∃c,names.lookup y=some c/\(k=c\/(c=.free/\k=.cell))
 | [],h=>by simp at h
 | (n,c)::r,h=>by
  have i:=@Ud env y k r
  rw[Ap] at h
  by_cases d:(c == Ew && env.scope.kind == .function && env.kindOf n == some .cell)=true
  ·have a:Mr y ((n,Eo)::(r.map λ(n,k)=>if (k == Ew && env.scope.kind == .function && env.kindOf n == some .cell) then (n,Eo) else (n,k)))=some k:=by
    simpa [d] using h
   cases b:y == n with
   | true =>
    rw[Ce,b] at a
    have e:k=Eo:=by simpa using a.symm
    refine ⟨c,by rw[Ce,b],.inr ⟨?_,e⟩⟩
    rw[Ec,Ec] at d
    exact Ee d.1.1
   | false =>
    rw[Ce,b] at a
    obtain ⟨q,f,g⟩:=i a
    exact ⟨q,by rw[Ce,b]; exact f,g⟩
  ·have a:Mr y ((n,c)::(r.map λ(n,k)=>if (k == Ew && env.scope.kind == .function && env.kindOf n == some .cell) then (n,Eo) else (n,k)))=some k:=by
    simpa [d] using h
   cases b:y == n with
   | true =>
    rw[Ce,b] at a
    exact ⟨c,by rw[Ce,b],.inl (by simpa using a.symm)⟩
   | false =>
    rw[Ce,b] at a
    obtain ⟨q,f,g⟩:=i a
    exact ⟨q,by rw[Ce,b]; exact f,g⟩
theorem Xw{env:Env}{y:Str}:∀{names:List (Str×Qv)},names.lookup y=some .free ->
  (names.map λ(n,k)=>if (k == Ew && env.scope.kind == .function && env.kindOf n == some .cell) then (n,Eo) else (n,k)).lookup y=some .cell \/
  (names.map λ(n,k)=>if (k == Ew && env.scope.kind == .function && env.kindOf n == some .cell) then (n,Eo) else (n,k)).lookup y=some .free
 | [],h=>by simp at h
 | (n,k0)::r,h=>by
  have b:=@Xw env y r
  show Mr y ((if (k0 == Ew && env.scope.kind == .function && env.kindOf n == some .cell)=true then (n,Eo) else (n,k0))::_)=_\/Mr y ((if (k0 == Ew && env.scope.kind == .function && env.kindOf n == some .cell)=true then (n,Eo) else (n,k0))::_)=_
  by_cases c:(k0 == Ew && env.scope.kind == .function && env.kindOf n == some .cell)=true
  ·rw[if_pos c]
   cases a:y == n with
   | true=>exact .inl (by rw[Ce,a])
   | false =>
    rw[Ce,a] at h
    simp only[Ce,a]
    exact b h
  ·rw[if_neg c]
   cases a:y == n with
   | true =>
    rw[Ce,a] at h
    exact .inr (by rw[Ce,a]; exact h)
   | false =>
    rw[Ce,a] at h
    simp only[Ce,a]
    exact b h
theorem Fg{a c:Type}[BEq a][LawfulBEq a]{y:a}{k:c}:∀{l:List (a×c)},l.lookup y=some k->(y,k)∈l
 | [],h=>by simp at h
 | (n,v)::r,h=>by
  cases b:y == n with
  | true =>
   rw[Ce,b] at h
   have e:=Ee b
   subst e
   have : v=k:=by simpa using h
   subst this
   exact Ab
  | false =>
   rw[Ce,b] at h
   exact Ac _ (Fg h)
end
theorem kO{a c:Nat}(h:c<a)(e:c=a+1):False:=by omega
theorem Ju:∀(names:List (Str×Qv)) (n:Nat) (a:List (Str×Addr)),En n names a=En n names []++a
 | [],_,_=>rfl
 | (x,k)::r,n,a=>by
  unfold En
  by_cases h:(k == Eo)=true
  ·rw[if_pos h,if_pos h,Ju r _ ((x,n)::a),Ju r _ [(x,n)],Bw]; rfl
  ·rw[if_neg h,if_neg h]; exact Ju r n a
theorem Pn:∀(names:List (Str×Qv)) (n:Nat) (a:List (Str×Addr)),(∀y∈names,y.2≠.cell)->En n names a=a
 | [],_,_,_=>rfl
 | (x,k)::r,n,a,h=>by
  unfold En
  rw[if_neg (by have:=h (x,k) Ab; simpa using this)]
  exact Pn r n a λy b=>h y (Ac _ b)
theorem Xy{env:Env}{y:Str}:∀{names:List (Str×Qv)},names.lookup y=some .cell->(names.map λ(n,k)=>if (k == Ew && env.scope.kind == .function && env.kindOf n == some .cell) then (n,Eo) else (n,k)).lookup y=some .cell
 | [],h=>by simp at h
 | (n,k0)::r,h=>by
  have b:=@Xy env y r
  show Mr y ((if (k0 == Ew && env.scope.kind == .function && env.kindOf n == some .cell)=true then (n,Eo) else (n,k0))::_)=_
  by_cases c:(k0 == Ew && env.scope.kind == .function && env.kindOf n == some .cell)=true
  ·rw[if_pos c]
   cases a:y == n with
   | true=>rw[Ce,a]
   | false=>rw[Ce,a] at h ⊢; exact b h
  ·rw[if_neg c]
   cases a:y == n with
   | true=>rw[Ce,a] at h ⊢; exact h
   | false=>rw[Ce,a] at h ⊢; exact b h
theorem Mn{env:Env}{a:Scope}{x:Str}(o:aM a x):Loc (relabel a env) x:=o.imp lookup_relabel_local Xy
section
variable{X:Cx}{a:Scope}{d:List (Str×Addr)}{x y:Str}{ys:List Str}{f:List Nat}{n c:Nat}{N:List Str}{fp:List Addr}{s:Ah}{H:Hp}
theorem Pp(o:aM a x):(Cw X a d N fp s H).fn x=true\/(Cw X a d N fp s H).env.scope.names.lookup x=some .local:=by
 rcases o with o | o
 ·exact .inr (lookup_relabel_local o)
 ·exact .inl (decide_eq_true o)
theorem CompScope.split(C:CompScope X a d x ys f)(h:(En n a.names d).lookup y=some c):d.lookup y=some c\/(c=n/\En 0 a.names []=[(y,0)]/\En n a.names []=[(y,n)]/\a.names.lookup y=some .cell):=by
 rcases C.oc with o | ⟨z,g,j,_⟩
 ·rw[Pn _ _ _ o] at h; exact .inl h
 ·rw[Ju,g] at h
  have b:Mr y ((z,n)::d)=some c:=h
  rw[Ce] at b
  cases e:y == z with
  | true =>
   rw[e] at b
   have k:c=n:=(Ca b).symm
   have i:=Ee e
   subst i
   exact .inr ⟨k,g 0,g n,j⟩
  | false=>rw[e] at b; exact .inl b
theorem CompScope.find(C:CompScope X a d x ys f)(h:d.lookup y=some c)(b:a.names.lookup y=some .free):(En n a.names d).lookup y=some c:=by
 rcases C.oc with o | ⟨z,g,i,_⟩
 ·rw[Pn _ _ _ o]; exact h
 ·rw[Ju,g]
  show Mr y ((z,n)::d)=some c
  rw[Ce]
  cases e:y == z with
  | true=>rw[Ee e,i] at b; cases b
  | false=>exact h
theorem CompScope.cellAt(C:CompScope X a d x ys f)(b:(y,Eo)∈a.names):(En n a.names d).lookup y=some n:=by
 rcases C.oc with o | ⟨z,g,h,c⟩
 ·exact absurd rfl (o _ b)
 ·have e:y=z:=c _ b rfl
  subst e
  rw[Ju,g]
  show Mr y ((y,n)::d)=some n
  rw[Ce,beq_self_eq_true]
theorem Pb{M:Model}{A:Ci}{E:Value->Ah->Prop}{Q:Env->Ah->Prop}(C:CompScope X a d x ys f)(i:∀g,g.Ns s.heap.objs.size (λ_=>none)->(∀b u,s.heap.get? b=some u->g.get? b=some u)->(∀z n,En (s.heap.objs.size+1) a.names []=[(z,n)]->g.IsCell n none)->Q (newEnv a s.heap.objs.size X.env.globals (En (s.heap.objs.size+1) a.names d) X.env.qual none .none (some X.env) builtinsNs) { s with heap:=g,toks:=s.toks+([]:List (Str×Value)).length }):wpAny M A (Kc a X.env.globals d [] X.env.qual none .none (some X.env)) Q E s:=by
 simp only[Kc,Option.isSome_some,if_true]
 refine Aa (wpAny_alloc (Aa (wpAny_layCells _ (λx k j=>by cases e:k == Eo <;> simp [e]) _ _ _ _ ?_)))
 have c:({ s with heap:=s.heap.push { cls:=.type "dict",data:=.dict #[] } }:Ah).heap.objs.size=s.heap.objs.size+1:=He ..
 rw[c]
 refine Aa (Ae (Ae (i _ ((Heap.Ns.new s.heap (.type "dict")).keeps (pushCells_keeps _ _)) (λb u e=>pushCells_keeps _ _ b u (Ai _ e)) λz n e=>?_)))
 have ok:=(cellsFrom_ok a.names (s.heap.push { cls:=.type "dict",data:=.dict #[] }) 0 [] ⟨λ_ _ h=>(nomatch h),Ei⟩ (Do _)).empty z n
 rw[show (s.heap.push { cls:=.type "dict",data:=.dict #[] }).objs.size=s.heap.objs.size+1 from c,e] at ok
 exact (ok (Al.mpr rfl)).1
end
section
variable{X:Cx}{f:List (Addr×Obj)}{g:L2.St}{H:Hp}{s:Ah}{a:Scope}{t:List (Str×Addr)}{fp:List Addr}{N:List Str}
theorem W8{x:Str}{ys:List Str}{E:List Nat}(C:CompScope X a t x ys E)(I:Inv X f g H s)(u:∀b∈fp,Lg X f H b)(G:∀b∈fp,∃o,s.heap.get? b=some o):(Cw X a t N fp s H).Ok where
 mod:=I.ok.mod
 kind:=C.kind
 glob:=I.ok.glob
 blt:=I.ok.blt
 above:=Aj _
 inj:=λy z c v l=>by
  have lt:∀y,t.lookup y=some c->c<s.heap.objs.size:=λy e=>let ⟨_,q⟩:=I.cell y c (C.sub y c e); q.lt
  rcases C.split v with v | ⟨e1,F,_⟩
  ·rcases C.split l with l | ⟨B,_⟩
   ·exact I.ok.inj y z c (C.sub y c v) (C.sub z c l)
   ·exact (kO (lt y v) B).elim
  ·rcases C.split l with l | ⟨B,D,_⟩
   ·exact (kO (lt z l) e1).elim
   ·rw[F] at D
    simpa using D
 has:=λy hy=>by
  have p:∀k,(k=Eo\/k=Ew)->(Ti a t s.heap.objs.size X.env).kindOf y=some k->∃c,(En (s.heap.objs.size+1) a.names t).lookup y=some c:=by
   intro k hk e
   obtain ⟨A,w,e1⟩:=Ud (names:=a.names) (env:=X.env) (y:=y) (k:=k) e
   have m:=Fg w
   by_cases r:A=.cell
   ·exact ⟨_,C.cellAt (r▸m)⟩
   have d:A=.free:=by
    rcases e1 with e1 | e1
    ·subst e1
     rcases hk with hk | hk
     ·exact absurd hk r
     ·exact hk
    ·exact e1.1
   obtain ⟨c,j⟩:=Rt.mp (C.has _ m d)
   exact ⟨c,C.find j (d▸w)⟩
  rcases hy with hy | hy
  ·exact p _ (.inl rfl) hy
  ·exact p _ (.inr rfl) hy
 cab:=λy c h e=>by
  have h:a.names.lookup y=some .cell:=of_decide_eq_true h
  have:=(C.cellAt (n:=s.heap.objs.size+1) (Fg h)).symm.trans e
  show s.heap.objs.size<=c
  have:=Ca this
  omega
 hd:=I.ok.hd
 frames:=I.ok.frames
 stk:=.inl rfl
 exf:=λb i=>by
  obtain ⟨o,e⟩:=G b i
  refine ⟨Bq (Aw e),λy c j=>?_⟩
  rcases C.split j with j | ⟨j,_⟩
  ·exact (u b i).2.2.2.2.1 y c (C.sub y c j)
  ·exact λz=>kO (Aw e) (z.symm.trans j)
 bs:=I.bs
 bsz:=Cb I.ok.bsz I.sz
 noex:=λb o e i=>by
  rcases (u b i).2.2.2.1 with z | z
  ·exact I.ok.noex b o e z
  ·exact absurd (Cj (Aw (I.ok.bs b o e).1) z) (Ia _)
 exfs:=λb i z=>by
  rcases Ak.mp (I.stkSub b z) with e | e
  ·exact (u b i).2.1 e
  ·exact (u b i).2.2.1 e
 funs:=I.stack
 frf:=I.stkFree
def Ef(g:L2.St)(a:List Nat):L2.St:=a.map λj=>(g[j]?).join
theorem Ni{x:Str}{pre ys:List Str}{B:List Nat}{h1:Heap}{Q:Nat}{O:Str->Option Value}(C:CompScope X a t x ys B)(I:Inv X f g H s)(Z:∀b∈fp,Lg X f H b)(ho:∀b∈fp,∃o,s.heap.get? b=some o)(L:h1.Ns s.heap.objs.size O)(keep:∀b u,s.heap.get? b=some u->h1.get? b=some u)(N:∀z n,En (s.heap.objs.size+1) a.names []=[(z,n)]->h1.IsCell n none):Inv (Cw X a t (pre++ys) fp s H) [] (pre.map (λ_=>none)++Ef g B) H { s with heap:=h1,toks:=Q }:=by
 have w:∀y c,t.lookup y=some c->∃v,s.heap.IsCell c v/\h1.IsCell c v:=λy c e=>by
  obtain ⟨v,o,q,d⟩:=I.cell y c (C.sub y c e)
  exact ⟨v,⟨o,q,d⟩,o,keep c o q,d⟩
 refine ⟨W8 C I Z ho,rfl,I.bare,Un.kept keep,⟨O,L,λi y v G m _=>?_⟩,λy c e=>?_,I.hok.fresh (Aj _),λy c e=>?_,λp Y=>?_,I.hok.kept keep,?_⟩
 ·have m:(pre.map (λ_=>(none:Option V))++Ef g B)[i]? = some (some v):=m
  have G:(pre++ys)[i]? = some y:=G
  by_cases S:i<pre.length
  ·rw[Lq (by rw[Ad]; exact S),Bg] at m
   cases q:pre[i]? with
   | none=>rw[q] at m; cases m
   | some z=>rw[q] at m; cases m
  ·rw[Ii (by rw[Ad]; omega),Ad] at m
   rw[Ii (by omega)] at G
   have E:=G
   have h:=m
   generalize i - pre.length=k at E h
   unfold Ef at h
   rw[Bg] at h
   cases M:B[k]? with
   | none=>rw[M] at h; simp at h
   | some j =>
    rw[M] at h
    have A:(g[j]?).join=some v:=by simpa using h
    have P:g[j]? = some (some v):=by
     cases q:g[j]? with
     | none=>rw[q] at A; simp at A
     | some z=>rw[q] at A; simp at A; rw[A]
    obtain ⟨U,J,a3⟩:=C.at_ k y j E M
    obtain ⟨m0,_,hl⟩:=I.loc
    have K:JD X.env.scope y:=a3.elim (λa3=>.inr (.inl a3)) λa3=>.inr (.inr a3)
    obtain ⟨u,r,l⟩:=hl j y v U P K
    refine ⟨u,r,?_⟩
    rcases l with ⟨W,_⟩ | ⟨_,c,R,T⟩
    ·rcases a3 with a3 | a3 <;> rw[W] at a3 <;> cases a3
    ·obtain ⟨F,D⟩:=Rt.mp (C.has _ (Fg J) rfl)
     have ec:F=c:=by
      have:=C.sub y F D
      rw[R] at this
      exact (Ca this).symm
     subst ec
     obtain ⟨o,q,d⟩:=T
     exact .inr ⟨Xw J,F,C.find D J,o,keep F o q,d⟩
 ·rcases C.split e with e | ⟨e,_,e',_⟩
  ·obtain ⟨v,_,z⟩:=w y c e
   exact ⟨v,z⟩
  ·exact ⟨_,e▸N _ _ e'⟩
 ·rcases C.split e with e | ⟨e,_⟩
  ·exact I.freeC y c (C.sub y c e)
  ·exact I.hok.fresh (by omega)
 ·cases (show p∈([]:List (Addr×Obj)) from Y)
 ·show (pre.map (λ_=>(none:Option V))++Ef g B).length=(pre++ys).length
  simp [Ef,C.len]
end
section
variable{X:Cx}
def GS(J:It)(j:List Nat)(n:TT)(o:TE)(l:L2.St)(h:Hp)(Q:VK):Prop:=∀D,h D=none->∃W:Nat->Nat->Hp->Prop,(∃m,W 0 m (upd h D (.lst [])))/\∀i m H,W i m H ->
 (J.stop i H/\Q (.ref D) H)\/(J.go i H/\∀x f,J.yld i H x f->∃(k:Hp->Prop) (g:VK),(∀b,k b->∃d,d<m/\W (i+1) d b) /\
  (∀y e,g y e->∃a,e D=some (.lst a)/\a.length<Ay/\∃d,d<m/\W (i+1) d (upd e D (.lst (a++[y])))) /\
  n (some x::Ef l j) f λc b=>if c=true then o (some x::Ef l j) b g else k b)
def vH(b:TI)(d:List Nat)(e:TT)(f:TE):TE:=λa H Q=>b a H λJ c=>GS J d e f a c Q
def Sh:TT:=λ_ H Q=>Q true H
def qT(X:Cx)(b:List Expr)(t:TT):Prop :=
 ∀(a:List (Addr×Obj)) (s:Ah) (d:L2.St) (H:Hp) (Q:Bool->Hp->Prop),Inv X a d H s->t d H Q ->
  wpAny (model X.prog X.w) X.A (forIn b true λc r=>if r=true then (do
   let ok <- isTrue c X.env (eval c X.env)
   pure (Et ok)) else pure (Et r)) (TP X a d Q) X.xe s
theorem j3:qT X [] Sh:=λa s b H Q I h=>wpAny_tests_nil ⟨H,I,h⟩
theorem R3{c:Expr}{t:TT}(h:PT X c t):qT X [c] t:=λa s b H Q I q=>wpAny_tests_one (h a s b H Q I q)
theorem Si{X B:Cx}{d:List (Addr×Obj)}{G E:L2.St}{A m:Hp}{f i:Ah}{k:Scope}{I:List (Str×Addr)}{N:List Str}{fp:List Addr}(a:Cw X k I N fp f A=B)(H:Inv X d G A f)(C:∀b∈fp,Lg X d A b)(p:Inv B [] E m i):∃D,i.heap.Ns f.heap.objs.size D/\∀r,Cu f.heap.objs.size i.heap r->Inv X d G m { i with heap:=r }:=by
 have L:B.prog=X.prog:=by rw[<- a]; rfl
 have P:B.w=X.w:=by rw[<- a]; rfl
 obtain ⟨D,t,_⟩:=p.loc
 have y:i.heap.Ns f.heap.objs.size D:=by rw[<- a] at t; exact t
 refine ⟨D,y,λr g=>?_⟩
 have s:m f.heap.objs.size=none:=by have:=p.free; rw[<- a] at this; exact this
 have j:Un (yZ X.stack) fp A m f.heap i.heap:=by have:=p.base; rw[<- a] at this; exact this
 have l:∀b o,f.heap.get? b=some o->b≠f.heap.objs.size:=λb o q=>Bq (Aw q)
 have M:Un (yZ X.stack) fp A m f.heap r:=by
  refine ⟨λb o q n h u=>(g.2 b (l b o q)).trans (j.keep b o q n h u),λb o q n h u=>?_,j.free,λb o q u=>?_,j.tups,j.frzs,j.tbls⟩
  ·obtain ⟨K,z⟩:=j.slot b o q n h u
   exact ⟨K,(g.2 b (l b o q)).trans z⟩
  ·obtain ⟨J,z⟩:=j.there b o q u
   exact ⟨J,(g.2 b (l b o q)).trans z⟩
 have x:Zx X.prog X.w m r:=λb O e=>by
  have v:=p.hok
  rw[L,P] at v
  refine (v b O e).stay (λc Q hcc q=>(g.2 c ?_).trans q) (λ_ q=>q) λ_ _ q=>q
  rintro rfl
  rcases hcc with rfl | hcc
  ·rw[s] at e; cases e
  ·rw[s] at hcc; cases hcc
 have F:i.os=f.os:=by have:=p.os; rw[<- a] at this; exact this
 exact H.call' (s':={ i with heap:=r }) (ch:=fp) F M x p.bare (λb h=>⟨(C b h).2.2.2.1,(C b h).2.1,(C b h).2.2.2.2.1,(C b h).2.2.2.2.2⟩)
theorem Pe{X e:Cx}{f:L2.St}{q j:Hp}{o m:Ah}{c:Scope}{l:List (Str×Addr)}{N:List Str}{fp:List Addr}(d:Cw X c l N fp o q=e)(n:Inv e [] f j m){h:Hp}(k:∀b∈fp,h b=none):∀b∈fp,Lg e [] h b:=λb g=>by
 have ok:=n.ok
 have a:b∈e.ex:=by rw[<- d]; exact g
 exact ⟨k b g,(ok.exf b a).1,ok.exfs b a,.inl a,(ok.exf b a).2,λp i=>by rw[<- d] at i; cases (show p∈([]:List (Addr×Obj)) from i)⟩
theorem Rp{X b:Cx}{g:Hp}{f:Ah}{a:Scope}{d:List (Str×Addr)}{N:List Str}{fp:List Addr}(e:X.calm=true)(c:Cw X a d N fp f g=b):b.prog=X.prog/\b.w=X.w/\b.K=X.K/\b.A=X.A/\b.calm=true:=by
 subst c
 exact ⟨rfl,rfl,rfl,rfl,e⟩
theorem iD{X o:Cx}{a:List (Addr×Obj)}{p j:L2.St}{n i:Hp}{h g:Ah}{c:Scope}{r:List (Str×Addr)}{N:List Str}{fp:List Addr}(k:Cw X c r N fp h n=o)(q:Inv X a p n h)(e:∀b∈fp,Lg X a n b)(d:Inv o [] j i g):(∃l,g.heap.Ns h.heap.objs.size l)/\i h.heap.objs.size=none/\Inv X a p i g:=by
 subst k
 obtain ⟨l,m,_⟩:=d.loc
 exact ⟨⟨l,m⟩,d.free,q.call' (s':=g) (ch:=fp) d.os d.base d.hok d.bare (λb f=>⟨(e b f).2.2.2.1,(e b f).2.1,(e b f).2.2.2.2.1,(e b f).2.2.2.2.2⟩)⟩
theorem Rm{X:Cx}{a:List (Addr×Obj)}{j:L2.St}{h:Hp}{c:Ah}{l:Expr}{J:It}{fp:List Addr}{it:Addr}{g:Nat->Heap->Prop}(m:Inv X a j h c)(T:Turn X.prog X.w X.K l J fp it g)(e:g 0 c.heap)(i:∀b∈fp,Lg X a h b){f:Obj}{k:HO}(n:Inv X a j (upd h c.heap.objs.size k) { c with heap:=c.heap.push f }):(∀b∈fp,Lg X a (upd h c.heap.objs.size k) b)/\g 0 (c.heap.push f)/\∀b∈fp,∃o,(c.heap.push f).get? b=some o:=by
 have Rr:g 0 (c.heap.push f):=T.keep 0 _ _ e λb d o q=>Ai _ q
 refine ⟨λb d=>⟨?_,(i b d).2⟩,Rr,λb d=>?_⟩
 ·rw[Ek ?_]
  ·exact (i b d).1
  ·intro z
   obtain ⟨o,q,_⟩:=T.obj _ _ e b d
   have:=Aw q
   rw[z] at this
   exact absurd this (Ia _)
 ·obtain ⟨o,q,_⟩:=T.obj _ _ Rr b d
  exact ⟨o,q⟩
theorem T6{E iter:Expr}{x:Str}{px pos:Pos}{K:List Expr}{a:Scope}{D:List (Str×Addr)}{ys:List Str}{L:List Nat}{wi:TI}{tc:TT}{te:TE}(C:CompScope X a D x ys L)(hc:X.calm=true)(hi:PI X (.Name x px) iter wi)(ht:∀fp s H,qT (Cw X a D (x::ys) fp s H) K tc)(he:∀fp s H,PE (Cw X a D (x::ys) fp s H) E te)(hs:∀x,Dc iter X.env x=pure x:=by intro _; rfl):PE X (.ListComp E [⟨.Name x px,iter,K,0⟩] a pos) (vH wi L tc te):=by
 intro j s B H Q I h
 rw[eval_ListComp]
 refine Hk (use:=none) rfl hs C.clos C.kind C.locs (Fp (hi j s B H _ I h) λv s1 h1=>Fp h1 λj2 d h2=>?_)
 obtain ⟨it,fp,tn,J,H2,e,I2,T,q5,f2,q2⟩:=h2
 subst e
 have fD:H2 d.heap.objs.size=none:=I2.hok.fresh (Aj _)
 obtain ⟨W,⟨m0,w0⟩,h5⟩:=q2 d.heap.objs.size fD
 refine Cg ?_
 have I3:Inv X j B (upd H2 d.heap.objs.size (.lst [])) { d with heap:=d.heap.push { cls:=.type "list",dict:=none,data:=.seq ([]:List Value).toArray } } :=
  I2.laid (t':=d.toks) (λb u q=>Ai _ q) (Aj _) ⟨Do _,[],0,.nil,Ar _ rfl⟩
 obtain ⟨f3,h0,q6⟩:=Rm I2 T q5 f2 I3
 generalize h3:({ d with heap:=d.heap.push { cls:=.type "list",dict:=none,data:=.seq ([]:List Value).toArray } }:Ah)=s3 at I3
 have Rr:tn 0 s3.heap:=by rw[<- h3]; exact h0
 have o3:∀b∈fp,∃o,s3.heap.get? b=some o:=by rw[<- h3]; exact q6
 show wpAny _ _ (Kc a X.env.globals D [] X.env.qual none .none (some X.env)) _ _ _
 refine Pb C λh4 h6 k h9=>?_
 have I4:∀tk,Inv (Cw X a D (x::ys) fp s3 (upd H2 d.heap.objs.size (.lst []))) [] (none::Ef B L) (upd H2 d.heap.objs.size (.lst [])) { s3 with heap:=h4,toks:=tk }:=λtk=>Ni (pre:=[x]) C I3 f3 o3 h6 k h9
 have Y:tn 0 h4:=T.keep 0 _ _ Rr λb G o q=>k b o q
 generalize l:Cw X a D (x::ys) fp s3 (upd H2 d.heap.objs.size (.lst []))=X' at I4
 obtain ⟨eP,eW,eK,eA,eC⟩:=Rp hc l
 have g:∀{f:Hp},(∀b∈fp,f b=none)->∀b∈fp,Lg X' [] f b:=λ{f} hn=>Pe l (I4 0) hn
 have t:∀s5:Ah,s5={ s3 with heap:=h4,toks:=s3.toks+([]:List (Str×Value)).length } ->
   Ha (model X.prog X.w) X.A (.compLoop (.ListComp E [⟨.Name x px,iter,K,0⟩] a pos) 0 (.ref it) (.ref d.heap.objs.size) (Ti a (En (s3.heap.objs.size+1) a.names D) s3.heap.objs.size X.env))
    (compPost (model X.prog X.w) X.A X.xe none (EP X j B Q) (.ref d.heap.objs.size) s3.heap.objs.size) s5:=by
  rintro s5 rfl
  refine Su (λn s'=>∃i o f,Inv X' [] (o::Ef B L) f s'/\tn i s'.heap/\(∀b∈fp,f b=none)/\W i n f) ?_ m0
   ⟨0,none,_,I4 _,Y,λb G=>(f3 b G).1,w0⟩
  (intro n s6 q_; obtain ⟨i,o,H6,I6,U,Z,w6⟩ := q_)
  rcases h5 i n H6 w6 with ⟨V,qn⟩ | ⟨go,step⟩
  ·have hd:=T.done X' eP eW eK eC i [] s6 _ H6 (λ_ _=>False) I6 (g Z) U V
   rw[eA] at hd
   refine Fp hd λr s7 c => ?_
   obtain ⟨hr,I7⟩ := c
   subst hr
   obtain ⟨m7,k2,S⟩:=Si l I3 f3 I7
   exact ⟨m7,k2,λh8 k7=>⟨.ref d.heap.objs.size,H6,S h8 k7,rfl,qn⟩⟩
  ·have k0:=T.item X' eP eW eK eC i [] s6 _ H6 (λ_ _=>False) I6 (g Z) U go
   rw[eA] at k0
   refine Fp k0 λr s7 c => ?_
   obtain ⟨u,hr,h7⟩ := c
   subst hr
   refine Fp h7 λ_ s8 c => ?_
   obtain ⟨y,H8,I8,r8,y8,F,q8⟩ := c
   have k4:=I8.pinned (g q8) (T.obj _ _ F)
   obtain ⟨N1,N2,q1,k6,k8⟩:=step y H8 y8
   have again:∀{H9:Hp} {N:Ah} {M:Nat},Inv X' ([]++Oh fp s8.heap) (some y::Ef B L) H9 N->M<n->W (i+1) M H9->∃m,m<n/\∃i o f,Inv X' [] (o::Ef B L) f N/\tn i N.heap/\(∀b∈fp,f b=none)/\W i m f:=λ{H9 N M} I9 hm w9=>by
    refine ⟨M,hm,i+1,some y,H9,I9.unpinned,T.keep _ _ _ F λb G o e=>(I9.pin (b,o) (Ag _ (Ag _ (Fl G e)))).1,λb G=>?_,w9⟩
    obtain ⟨o,e,_⟩:=T.obj _ _ F b G
    exact (I9.pin (b,o) (Ag _ (Ag _ (Fl G e)))).2.1
   subst l
   refine Fp (Jy (i:=0) (x:=x) (pos:=px) C.nd rfl (Mn C.own) (Pp C.own) _ s8 _ H8 y u (λj1 f=>j1=some y::Ef B L/\f=H8) k4 r8 ⟨rfl,rfl⟩) λ_ N c => ?_
   obtain ⟨j5,H9,I9,e9,k1⟩ := c
   subst e9 k1
   refine Fp (ht fp s3 _ _ N _ _ _ I9 k8) λok q3 c => ?_
   obtain ⟨j6,R,p⟩ := c
   cases ok with
   | false =>
    rw[if_neg Bs] at p ⊢
    obtain ⟨M,hm,q7⟩:=q1 _ p
    exact again R hm q7
   | true =>
    rw[if_pos rfl] at p ⊢
    refine Fp (he fp s3 _ _ q3 _ _ _ R p) λz q9 c => ?_
    obtain ⟨vz,P,q4,q0,k5⟩ := c
    obtain ⟨O,ha,hz,M,hm,k3⟩:=k6 _ _ k5
    refine Fp (Pc _ q9 _ P (.ref d.heap.objs.size) [vz] (.ref d.heap.objs.size) [z] (λ_ f=>f=upd P d.heap.objs.size (.lst (O++[vz]))) q4 rfl (.cons q0 .nil) ⟨_,O,vz,rfl,rfl,ha,hz,rfl⟩) λ_ j3 c => ?_
    obtain ⟨_,j4,j0,_,k9⟩ := c
    subst k9
    exact again j0 hm k3
 exact Kv (t _ rfl) (T.self X.A 0 _ _ _ Y (t _ rfl))
end
theorem Ff{H:Hp}{p:Addr}(h:H p=none)(o:HO):To H (upd H p o):=λb u q=>by rw[Ek (Gw q h)]; exact q
theorem Ij{a:Type}{xs:List a}{i:Nat}{x:a}(h:xs[i]? = some x):xs.take (i+1)=xs.take i++[x]:=by
 rw[List.take_succ,h]; rfl
mutual
inductive RdV (K:PySem.W.Frag) (H:Hp):V->Af->Prop
 | non:RdV K H .non .none
 | bl (b:Bool):RdV K H (.bl b) (.bool b)
 | int (i:Int):RdV K H (.int i) (.int i)
 | str (x:Str):RdV K H (.str x) (.str x)
 | lst {a:Addr} {xs:List V} {ds:List Af}:Mq K H a xs->RdVs K H xs ds->RdV K H (.ref a) (.list ds)
 | tup {a:Addr} {xs:List V} {ds:List Af}:Ru K H a xs->RdVs K H xs ds->RdV K H (.ref a) (.tuple ds)
inductive RdVs (K:PySem.W.Frag) (H:Hp):List V->List Af->Prop
 | nil:RdVs K H [] []
 | cons {x:V} {d:Af} {xs:List V} {ds:List Af}:RdV K H x d->RdVs K H xs ds->RdVs K H (x::xs) (d::ds)
end
mutual
def IR(b:Nat):Af->Prop
 | .none=>True
 | .bool _=>True
 | .int i=>i.natAbs<10 ^ b
 | .str x=>(reprText x).length<=b
 | .list a=>kW b a
 | .tuple a=>kW b a
 | .dict _=>False
def kW(b:Nat):List Af->Prop
 | []=>True
 | x::xs=>IR b x/\kW b xs
end
mutual
def AD:Af->Nat
 | .list a=>eH a+1
 | .tuple a=>eH a+1
 | _=>1
def eH:List Af->Nat
 | []=>0
 | x::xs=>AD x+eH xs
end
theorem rE(ns:List Int):Br (ns.map Av)=0:=by
 induction ns with
 | nil=>rfl
 | cons n ns a=>simp only[Ap,Br,Dz,a,Nat.max_self]
theorem aZ{m:Nat}:∀{xs:List Af},(∀x∈xs,x.depth<=m)->Br xs<=m
 | [],_=>by simp [Br]
 | x::xs,h=>by
  have c:=h x (Ab ..)
  have b:=aZ (xs:=xs) λy a=>h y (Ac _ a)
  simp only[Br]
  omega
theorem Gj.at'{xs:List V}{us:List Value}(r:Gj xs us){j:Nat}(h:j<us.length):∃x,xs[j]? = some x/\RelV x us[j]:=by
 have d:=r.length
 have b:j<xs.length:=by omega
 obtain ⟨u,a,c⟩:=r.get (i:=j) (x:=xs[j]) (by simp [b])
 rw[Bt h] at a
 cases a
 exact ⟨xs[j],by simp [b],c⟩
section
variable{X:Cx}{a:List (Addr×Obj)}{c:L2.St}{H:Hp}{s:Ah}{A:Ci}
theorem aP(A:Ci):A.in1.units<=A.units+1:=by
 first | exact Aj _ | (simp [Around.in1]; done) | (unfold Around.in1; simp)
theorem r0(J:X.calm=true):Ml X (.builtin "all") (λxs H Q=>∃(p:Addr) (bs:List Bool),xs=[.ref p]/\Mq X.K H p (bs.map V.bl)/\Q (.bl (bs.all id)) H):=by
 intro a s c H xs U Q I r h
 obtain ⟨p,bs,rfl,P,q⟩:=h
 obtain ⟨u,rfl,O⟩:=vals1 r
 cases O
 obtain ⟨d,C,t,_⟩:=I.list P
 have g:d.toArray.size=bs.length:=by
  have:=C.length
  rw[Ad] at this
  rw[Au]; omega
 refine call_all_walk (jC t.isList ?_)
 have M:X.A.in1.handled=none:=I.ok.hd J
 have S:p≠s.heap.objs.size:=Bq (let ⟨o,q,_⟩:=t.isList; Aw q)
 refine ⟨s.heap.objs.size,_,_,_,_,_,λi=>bs.getD i false,rfl,Walks.list M s.heap.objs.size p S d.toArray,⟨⟨_,Ar _ rfl,rfl,rfl⟩,t.isList.push _⟩,?_,?_⟩
 ·intro i v R T W N F
  have f:d[i]? = some v:=by simpa using N
  have B:i<d.length:=(Ax.mp f).1
  obtain ⟨x,m,D⟩:=Gj.at' C B
  rw[Bt B] at f
  have k:d[i]=v:=Ca f
  rw[k] at D
  rw[Bg] at m
  cases n:bs[i]? with
  | none=>rw[n] at m; cases m
  | some b =>
   rw[n] at m
   cases m
   cases D
   have : bs.getD i false=b:=by simp [Qy,n]
   have l:T (bs.getD i false) R:=F
   rw[this] at l
   exact Jl l
 ·intro h' E G
  have e:((Cc d.toArray.size).all λi=>bs.getD i false)=bs.all id:=by
   rw[g]
   have : bs=(Cc bs.length).map (λj=>bs.getD j false):=(range_getD bs false).symm
   conv=>rhs; rw[this]
   rw[bY]
   rfl
  rw[e]
  refine ⟨.bl _,H,I.kept (h':=h') (t':=E) (λb o w=>G b o ?_ (Ai _ w)),rfl,q⟩
  intro z
  have L:b=s.heap.objs.size:=by simpa using z
  have y:=Aw w
  rw[L] at y
  exact absurd y (Ia _)
end
section
variable{prog:Bk}{w:World}{A:Ci}{E:Value->Ah->Prop}{s:Ah}
theorem Wc{t e:Addr}{a:Array Value}{j k:Value}{lo l:Option Int}{Q:Value->Ah->Prop}(b:IsTup s.heap t a)(m:s.heap.IsSliceOf e j k .none)(q:bN j lo)(n:bN k l)(hw:HT.sIx a.size 0 lo=0/\HT.sIx a.size a.size l=a.size)(h:Q (.ref t) s):wpAny (model prog w) A (Rv (.ref t) (.ref e)) Q E s:=by
 obtain ⟨os,f,i,o⟩:=id m
 have d:s.TypeIs (.ref e) "slice" := ⟨os,f,i⟩
 unfold Rv
 try with_reducible refine Ct ?_
 first | refine Aa (Ae ?_) | skip
 refine Aa (wpAny_sequenceKey b.typeIs (by decide) ?_)
 refine Aa (Df (name:=Ds "__getitem__") b.typeIs Ez
  (Dj Ez b.typeIs entry_tuple_getitem ?_ (args_tuple_getitem _ _)))
 show wpAny _ _ (Zj (.ref t) >>= _) _ _ s
 refine Aa (tupleItemsOf_ b ?_)
 refine Aa (Jk d ?_)
 rw[if_pos (by decide)]
 refine Aa (HT.sliceApplied_gen m q n ?_)
 rw[hw.1,hw.2]
 have c:(((0:Nat):Int) == 0 && (1:Int) == 1 && (a.size - 0) == a.size)=true:=by simp
 show wpAny _ _ (if (((0:Nat):Int) == 0 && (1:Int) == 1 && (a.size - 0) == a.size)=true then _ else _) _ _ s
 rw[if_pos c]
 have g:∀{R:Bool->Ah->Prop},R true s->wpAny (model prog w) A.in1 (Zk (.ref t)) R E s:=λ{R} p=>by
  unfold Zk
  refine Aa (Jk b.typeIs (Ae ?_))
  rw[beq_self_eq_true]
  exact p
 refine Aa (g ?_)
 rw[if_pos rfl]
 exact Aa (Jr (Ae ⟨_,rfl,Ae h⟩))
end
mutual
def Em:Af->Af->Bool
 | .none,.none=>true
 | .bool a,.bool b=>a == b
 | .bool a,.int b=>(if a then 1 else 0) == b
 | .int a,.bool b=>a == (if b then 1 else 0)
 | .int a,.int b=>a == b
 | .str a,.str b=>a == b
 | .list xs,.list ys=>Mt xs ys
 | .tuple xs,.tuple ys=>Mt xs ys
 | _,_=>false
def Mt:List Af->List Af->Bool
 | [],[]=>true
 | x::xs,y::ys=>Em x y && Mt xs ys
 | _,_=>false
end
theorem Po:∀ds es:List Af,(((Cc (min ds.length es.length)).all λj=>Em (ds.getD j .none) (es.getD j .none)) && ds.length == es.length)=Mt ds es
 | [],[]=>by simp [Mt]
 | [],_::_=>by simp [Mt]
 | _::_,[]=>by simp [Mt]
 | d::ds,e::es=>by
  have a:=Po ds es
  rw[Mt,<- a]
  have c:min (d::ds).length (e::es).length=min ds.length es.length+1:=by simp only[Bl]; omega
  rw[c,List.range_succ_eq_map,List.all_cons,bY]
  have b:((d::ds).length == (e::es).length)=(ds.length == es.length):=by
   rw[Pw]; simp
  rw[b,Bool.and_assoc]
  rfl
section
variable{X:Cx}{a:List (Addr×Obj)}{c:L2.St}{H:Hp}{s:Ah}{K:PySem.W.Frag}
mutual
theorem RdV.eqD_self:∀{v:V} {d:Af},RdV K H v d->Em d d=true
 | _,_,.non=>by simp [Em]
 | _,_,.bl b=>by simp [Em]
 | _,_,.int i=>by simp [Em]
 | _,_,.str x=>by simp [Em]
 | _,_,.lst _ h=>by rw[Em]; exact RdVs.eqDs_self h
 | _,_,.tup _ h=>by rw[Em]; exact RdVs.eqDs_self h
theorem RdVs.eqDs_self:∀{vs:List V} {ds:List Af},RdVs K H vs ds->Mt ds ds=true
 | _,_,.nil=>by simp [Mt]
 | _,_,.cons h t=>by rw[Mt,RdV.eqD_self h,RdVs.eqDs_self t]; rfl
end
theorem nM(I:Inv X pins σ H s){a:Addr}{xs ys:List V}(h1:Mq X.K H a xs)(b:Ru X.K H a ys):False:=by
 obtain ⟨e,_,c,_⟩:=I.list h1
 obtain ⟨vs,_,d,_⟩:=I.tuple b
 exact SeqAt.ne_of_list_tuple c.isList d rfl
mutual
theorem RdV.det(I:Inv X pins σ H s):∀{v:V} {d e:Af},RdV X.K H v d->RdV X.K H v e->d=e
 | _,_,_,.non,h=>by cases h; rfl
 | _,_,_,.bl b,h=>by cases h; rfl
 | _,_,_,.int i,h=>by cases h; rfl
 | _,_,_,.str x,h=>by cases h; rfl
 | _,_,_,.lst q r,h=>by
  cases h with
  | lst a c =>
   have e:=I.list_inj q a
   subst e
   rw[RdVs.det I r c]
  | tup a c=>exact (nM I q a).elim
 | _,_,_,.tup q r,h=>by
  cases h with
  | lst a c=>exact (nM I a q).elim
  | tup a c =>
   have e:=I.tuple_inj q a
   subst e
   rw[RdVs.det I r c]
theorem RdVs.det(I:Inv X pins σ H s):∀{vs:List V} {ds es:List Af},RdVs X.K H vs ds->RdVs X.K H vs es->ds=es
 | _,_,_,.nil,h=>by cases h; rfl
 | _,_,_,.cons r t,h=>by
  cases h with
  | cons b a=>rw[RdV.det I r b,RdVs.det I t a]
end
theorem RdVs.length:∀{vs:List V} {ds:List Af},RdVs K H vs ds->vs.length=ds.length
 | _,_,.nil=>rfl
 | _,_,.cons _ t=>by rw[Bl,Bl,RdVs.length t]
theorem Zu{A:Ci}{n:Nat}(h:A.units+(n+1)<cLine):A.in1.units+n<cLine:=by
 have:=aP A
 omega
theorem pU{A:Ci}{a b:Addr}{us vs:List Value}{ds es:List Af}(k:PlainL s.heap a us.toArray)(g:PlainL s.heap b vs.toArray)(l1:us.length=ds.length)(l2:vs.length=es.length)(i:A.units<cLine)(l:∀j (h1:j<us.length) (f:j<vs.length),Od A.in1 s us[j] vs[j] (Em (ds.getD j .none) (es.getD j .none))):SeqAt.RcAt A s (.ref a) (.ref b) (Mt ds es):=by
 rw[<- Po]
 by_cases c:ds.length=es.length
 ·have d:us.toArray.size=vs.toArray.size:=by rw[Au,Au,l1,l2,c]
  have h:=SeqAt.RcAt.lists (A:=A) (e:=λj=>Em (ds.getD j .none) (es.getD j .none)) k.isList g.isList d i (λj h1 f=>by simpa using l j (by simpa using h1) (by simpa using f))
  rw[Au,l1] at h
  rw[c,Nat.min_self,beq_self_eq_true,Bool.and_true,<- c]
  exact h
 ·have d:(us.toArray.size != vs.toArray.size)=true:=by rw[Au,Au,l1,l2]; simpa using c
  have h:=SeqAt.RcAt.lists_lengths (A:=A) k.isList g.isList d i
  have m:(ds.length == es.length)=false:=by simpa using c
  rw[m,Xi]
  exact h
theorem iB{A:Ci}{a b:Addr}{us vs:List Value}{ds es:List Af}(i:IsTup s.heap a us.toArray)(f:IsTup s.heap b vs.toArray)(l1:us.length=ds.length)(l2:vs.length=es.length)(g:A.units<cLine)(d:∀j (h1:j<us.length) (c:j<vs.length),Od A.in1 s us[j] vs[j] (Em (ds.getD j .none) (es.getD j .none))):SeqAt.RcAt A s (.ref a) (.ref b) (Mt ds es):=by
 rw[<- Po]
 have h:=SeqAt.RcAt.tuples (A:=A) (e:=λj=>Em (ds.getD j .none) (es.getD j .none)) (show s.heap.IsTuple a us.toArray from i) (show s.heap.IsTuple b vs.toArray from f) g (λj h1 c=>by simpa using d j (by simpa using h1) (by simpa using c))
 rw[Au,Au,l1,l2] at h
 exact h
mutual
theorem F0(I:Inv X pins σ H s):∀{A:Ci} {x y:V} {d e:Af} {u v:Value},RdV X.K H x d->RdV X.K H y e->RelV x u->RelV y v->A.units+d.depth<cLine->Od A s u v (Em d e)
 | A,_,_,_,_,_,_,.non,h,ru,rv,hu=>by
  cases ru
  have c:A.units<cLine:=by omega
  cases h with
  | non=>cases rv; rw[Em]; exact SeqAt.EqAt.same _
  | bl b=>cases rv; rw[Em]; exact SeqAt.EqAt.none_bool b; all_goals simp
  | int b=>obtain ⟨t,rfl⟩:=rv; rw[Em]; exact SeqAt.EqAt.none_int b t; all_goals simp
  | str b=>obtain ⟨t,rfl⟩:=rv; rw[Em]; exact SeqAt.EqAt.none_str b t; all_goals simp
  | lst q r=>cases rv; obtain ⟨k,_,p,_⟩:=I.list q; rw[Em]; exact SeqAt.EqAt.none_list p.isList c; all_goals simp
  | tup q r=>cases rv; obtain ⟨k,_,p,_⟩:=I.tuple q; rw[Em]; exact SeqAt.EqAt.none_tuple p c; all_goals simp
 | A,_,_,_,_,_,_,.bl a,h,ru,rv,hu=>by
  cases ru
  have c:A.units<cLine:=by omega
  cases h with
  | non=>cases rv; rw[Em]; exact SeqAt.EqAt.bool_none a; all_goals simp
  | bl b=>cases rv; rw[Em]; exact SeqAt.EqAt.bool_bool a b
  | int b=>obtain ⟨t,rfl⟩:=rv; rw[Em]; exact SeqAt.EqAt.bool_int a b t
  | str b=>obtain ⟨t,rfl⟩:=rv; rw[Em]; exact SeqAt.EqAt.bool_str a b t; all_goals simp
  | lst q r=>cases rv; obtain ⟨k,_,p,_⟩:=I.list q; rw[Em]; exact SeqAt.EqAt.bool_list a p.isList c; all_goals simp
  | tup q r=>cases rv; obtain ⟨k,_,p,_⟩:=I.tuple q; rw[Em]; exact SeqAt.EqAt.bool_tuple a p c; all_goals simp
 | A,_,_,_,_,_,_,.int a,h,ru,rv,hu=>by
  obtain ⟨g,rfl⟩:=ru
  have c:A.units<cLine:=by omega
  cases h with
  | non=>cases rv; rw[Em]; exact SeqAt.EqAt.int_none a g; all_goals simp
  | bl b=>cases rv; rw[Em]; exact SeqAt.EqAt.int_bool a g b
  | int b=>obtain ⟨t,rfl⟩:=rv; rw[Em]; exact SeqAt.EqAt.int_int a g b t
  | str b=>obtain ⟨t,rfl⟩:=rv; rw[Em]; exact SeqAt.EqAt.int_str a g b t; all_goals simp
  | lst q r=>cases rv; obtain ⟨k,_,p,_⟩:=I.list q; rw[Em]; exact SeqAt.EqAt.int_list a g p.isList c; all_goals simp
  | tup q r=>cases rv; obtain ⟨k,_,p,_⟩:=I.tuple q; rw[Em]; exact SeqAt.EqAt.int_tuple a g p c; all_goals simp
 | A,_,_,_,_,_,_,.str a,h,ru,rv,hu=>by
  obtain ⟨g,rfl⟩:=ru
  have c:A.units<cLine:=by omega
  cases h with
  | non=>cases rv; rw[Em]; exact SeqAt.EqAt.str_none a g; all_goals simp
  | bl b=>cases rv; rw[Em]; exact SeqAt.EqAt.str_bool a g b; all_goals simp
  | int b=>obtain ⟨t,rfl⟩:=rv; rw[Em]; exact SeqAt.EqAt.str_int a g b t; all_goals simp
  | str b=>obtain ⟨t,rfl⟩:=rv; rw[Em]; exact SeqAt.EqAt.str_str a g b t
  | lst q r=>cases rv; obtain ⟨k,_,p,_⟩:=I.list q; rw[Em]; exact SeqAt.EqAt.str_list a g p.isList c; all_goals simp
  | tup q r=>cases rv; obtain ⟨k,_,p,_⟩:=I.tuple q; rw[Em]; exact SeqAt.EqAt.str_tuple a g p c; all_goals simp
 | A,_,_,_,_,_,_,@RdV.lst _ _ a xs ds q r,h,ru,rv,hu=>by
  cases ru
  have c:A.units<cLine:=by omega
  obtain ⟨k,n,p,_⟩:=I.list q
  cases h with
  | non=>cases rv; rw[Em]; exact SeqAt.EqAt.list_none p.isList c; all_goals simp
  | bl b=>cases rv; rw[Em]; exact SeqAt.EqAt.list_bool b p.isList c; all_goals simp
  | int b=>obtain ⟨t,rfl⟩:=rv; rw[Em]; exact SeqAt.EqAt.list_int b t p.isList c; all_goals simp
  | str b=>obtain ⟨t,rfl⟩:=rv; rw[Em]; exact SeqAt.EqAt.list_str b t p.isList c; all_goals simp
  | @lst b B C l f =>
   cases rv
   obtain ⟨vs,o,m,_⟩:=I.list l
   rw[Em]
   by_cases i:a=b
   ·subst i
    have e:=I.list_inj q l
    subst e
    rw[<- RdVs.det I r f,RdVs.eqDs_self r]
    exact SeqAt.EqAt.same _
   ·refine SeqAt.EqAt.of_refs i (pU p m (n.length.symm.trans r.length) (o.length.symm.trans f.length) c λj z w=>?_)
    exact Sd I r f n o (Zu (by simpa only [Dz] using hu)) j z w
  | tup l f=>cases rv; obtain ⟨vs,_,m,_⟩:=I.tuple l; rw[Em]; exact SeqAt.EqAt.list_tuple p.isList m c; all_goals simp
 | A,_,_,_,_,_,_,@RdV.tup _ _ a xs ds q r,h,ru,rv,hu=>by
  cases ru
  have c:A.units<cLine:=by omega
  obtain ⟨k,n,p,_⟩:=I.tuple q
  cases h with
  | non=>cases rv; rw[Em]; exact SeqAt.EqAt.tuple_none p c; all_goals simp
  | bl b=>cases rv; rw[Em]; exact SeqAt.EqAt.tuple_bool b p c; all_goals simp
  | int b=>obtain ⟨t,rfl⟩:=rv; rw[Em]; exact SeqAt.EqAt.tuple_int b t p c; all_goals simp
  | str b=>obtain ⟨t,rfl⟩:=rv; rw[Em]; exact SeqAt.EqAt.tuple_str b t p c; all_goals simp
  | lst l f=>cases rv; obtain ⟨vs,_,m,_⟩:=I.list l; rw[Em]; exact SeqAt.EqAt.tuple_list p m.isList c; all_goals simp
  | @tup b B C l f =>
   cases rv
   obtain ⟨vs,o,m,_⟩:=I.tuple l
   rw[Em]
   by_cases i:a=b
   ·subst i
    have e:=I.tuple_inj q l
    subst e
    rw[<- RdVs.det I r f,RdVs.eqDs_self r]
    exact SeqAt.EqAt.same _
   ·refine SeqAt.EqAt.of_refs i (iB p m (n.length.symm.trans r.length) (o.length.symm.trans f.length) c λj z w=>?_)
    exact Sd I r f n o (Zu (by simpa only [Dz] using hu)) j z w
theorem Sd(I:Inv X pins σ H s):∀{A:Ci} {xs ys:List V} {ds es:List Af} {us vs:List Value},RdVs X.K H xs ds->RdVs X.K H ys es->Gj xs us->Gj ys vs->A.units+Br ds<cLine->∀j (h1:j<us.length) (a:j<vs.length),Od A s us[j] vs[j] (Em (ds.getD j .none) (es.getD j .none))
 | _,_,_,_,_,_,_,.nil,_,r1,_,_=>λj h1 a=>by cases r1; exact absurd h1 (Kl _)
 | A,_,_,_,_,_,_,@RdVs.cons _ _ x d xs ds r t,h,r1,r2,hu=>λj h1 a=>by
  cases h with
  | nil=>cases r2; exact absurd a (Kl _)
  | cons k i =>
   cases r1 with
   | cons e c =>
    cases r2 with
    | cons g f =>
     have b:A.units+d.depth<cLine/\A.units+Br ds<cLine:=by
      simp only[Br] at hu
      omega
     cases j with
     | zero=>simpa using F0 I r k e g b.1
     | succ j=>simpa using Sd I t i c f b.2 j (by simpa using h1) (by simpa using a)
end
end
section
variable{X:Cx}{c:List (Addr×Obj)}{d:L2.St}{H:Hp}{s:Ah}{K:PySem.W.Frag}
theorem yW{A:Ci}{a b:Addr}{us vs:List Value}{ds es:List Af}(k:PlainL s.heap a us.toArray)(g:PlainL s.heap b vs.toArray)(l1:us.length=ds.length)(l2:vs.length=es.length)(i:A.units<cLine)(l:∀j (h1:j<us.length) (f:j<vs.length),Od A.in1 s us[j] vs[j] (Em (ds.getD j .none) (es.getD j .none))):SeqAt.RcNeAt A s (.ref a) (.ref b) (!Mt ds es):=by
 rw[<- Po]
 by_cases c:ds.length=es.length
 ·have d:us.toArray.size=vs.toArray.size:=by rw[Au,Au,l1,l2,c]
  have h:=SeqAt.RcNeAt.lists (A:=A) (e:=λj=>Em (ds.getD j .none) (es.getD j .none)) k.isList g.isList d i (λj h1 f=>by simpa using l j (by simpa using h1) (by simpa using f))
  rw[Au,l1] at h
  rw[c,Nat.min_self,beq_self_eq_true,Bool.and_true,<- c]
  exact h
 ·have d:(us.toArray.size != vs.toArray.size)=true:=by rw[Au,Au,l1,l2]; simpa using c
  have h:=SeqAt.RcNeAt.lists_lengths (A:=A) k.isList g.isList d i
  have m:(ds.length == es.length)=false:=by simpa using c
  rw[m,Xi]
  exact h
theorem rR{A:Ci}{a b:Addr}{us vs:List Value}{ds es:List Af}(i:IsTup s.heap a us.toArray)(f:IsTup s.heap b vs.toArray)(l1:us.length=ds.length)(l2:vs.length=es.length)(g:A.units<cLine)(d:∀j (h1:j<us.length) (c:j<vs.length),Od A.in1 s us[j] vs[j] (Em (ds.getD j .none) (es.getD j .none))):SeqAt.RcNeAt A s (.ref a) (.ref b) (!Mt ds es):=by
 rw[<- Po]
 have h:=SeqAt.RcNeAt.tuples (A:=A) (e:=λj=>Em (ds.getD j .none) (es.getD j .none)) (show s.heap.IsTuple a us.toArray from i) (show s.heap.IsTuple b vs.toArray from f) g (λj h1 c=>by simpa using d j (by simpa using h1) (by simpa using c))
 rw[Au,Au,l1,l2] at h
 exact h
end
section
variable{X:Cx}
def GM(K:PySem.W.Frag):R2:=λx y H Q=>∃d e,RdV K H x d/\RdV K H y e/\d.depth<=60/\Q (.bl (Em d e)) H
def IS(K:PySem.W.Frag):R2:=λx y H Q=>∃d e,RdV K H x d/\RdV K H y e/\d.depth<=60/\Q (.bl (!Em d e)) H
theorem t9(N:X.A.units+64<cLine):aB X (Ke .Eq) (GM X.K):=by
 intro F s M H x y v u Q I z f h
 obtain ⟨d,e,C,w,E,q⟩:=h
 have c:X.A.units<cLine:=by omega
 cases C with
 | non =>
  cases z
  cases w with
  | non=>cases f; rw[Em] at q; exact SeqAt.RcAt.none_none _ _ _ _ ⟨.bl _,H,I,rfl,q⟩
  | bl b=>cases f; rw[Em] at q; exact SeqAt.RcAt.none_bool b _ _ _ _ ⟨.bl _,H,I,rfl,q⟩; all_goals simp
  | int b=>obtain ⟨t,rfl⟩:=f; rw[Em] at q; exact SeqAt.RcAt.none_int b t _ _ _ _ ⟨.bl _,H,I,rfl,q⟩; all_goals simp
  | str b=>obtain ⟨t,rfl⟩:=f; rw[Em] at q; exact SeqAt.RcAt.none_str b t _ _ _ _ ⟨.bl _,H,I,rfl,q⟩; all_goals simp
  | @lst b n o i g=>cases f; obtain ⟨vs,l,k,_⟩:=I.list i; rw[Em] at q; exact SeqAt.RcAt.none_list k.isList c _ _ _ _ ⟨.bl _,H,I,rfl,q⟩; all_goals simp
  | @tup b n o i g=>cases f; obtain ⟨vs,l,k,_⟩:=I.tuple i; rw[Em] at q; exact SeqAt.RcAt.none_tuple k c _ _ _ _ ⟨.bl _,H,I,rfl,q⟩; all_goals simp
 | bl a =>
  cases z
  cases w with
  | non=>cases f; rw[Em] at q; exact SeqAt.RcAt.bool_none a _ _ _ _ ⟨.bl _,H,I,rfl,q⟩; all_goals simp
  | bl b=>cases f; rw[Em] at q; exact SeqAt.RcAt.bool_bool a b _ _ _ _ ⟨.bl _,H,I,rfl,q⟩
  | int b=>obtain ⟨t,rfl⟩:=f; rw[Em] at q; exact SeqAt.RcAt.bool_int a b t _ _ _ _ ⟨.bl _,H,I,rfl,q⟩
  | str b=>obtain ⟨t,rfl⟩:=f; rw[Em] at q; exact SeqAt.RcAt.bool_str a b t _ _ _ _ ⟨.bl _,H,I,rfl,q⟩; all_goals simp
  | @lst b n o i g=>cases f; obtain ⟨vs,l,k,_⟩:=I.list i; rw[Em] at q; exact SeqAt.RcAt.bool_list a k.isList c _ _ _ _ ⟨.bl _,H,I,rfl,q⟩; all_goals simp
  | @tup b n o i g=>cases f; obtain ⟨vs,l,k,_⟩:=I.tuple i; rw[Em] at q; exact SeqAt.RcAt.bool_tuple a k c _ _ _ _ ⟨.bl _,H,I,rfl,q⟩; all_goals simp
 | int a =>
  obtain ⟨m,rfl⟩:=z
  cases w with
  | non=>cases f; rw[Em] at q; exact SeqAt.RcAt.int_none a m _ _ _ _ ⟨.bl _,H,I,rfl,q⟩; all_goals simp
  | bl b=>cases f; rw[Em] at q; exact SeqAt.RcAt.int_bool a m b _ _ _ _ ⟨.bl _,H,I,rfl,q⟩
  | int b=>obtain ⟨t,rfl⟩:=f; rw[Em] at q; exact SeqAt.RcAt.int_int a m b t _ _ _ _ ⟨.bl _,H,I,rfl,q⟩
  | str b=>obtain ⟨t,rfl⟩:=f; rw[Em] at q; exact SeqAt.RcAt.int_str a m b t _ _ _ _ ⟨.bl _,H,I,rfl,q⟩; all_goals simp
  | @lst b n o i g=>cases f; obtain ⟨vs,l,k,_⟩:=I.list i; rw[Em] at q; exact SeqAt.RcAt.int_list a m k.isList c _ _ _ _ ⟨.bl _,H,I,rfl,q⟩; all_goals simp
  | @tup b n o i g=>cases f; obtain ⟨vs,l,k,_⟩:=I.tuple i; rw[Em] at q; exact SeqAt.RcAt.int_tuple a m k c _ _ _ _ ⟨.bl _,H,I,rfl,q⟩; all_goals simp
 | str a =>
  obtain ⟨m,rfl⟩:=z
  cases w with
  | non=>cases f; rw[Em] at q; exact SeqAt.RcAt.str_none a m _ _ _ _ ⟨.bl _,H,I,rfl,q⟩; all_goals simp
  | bl b=>cases f; rw[Em] at q; exact SeqAt.RcAt.str_bool a m b _ _ _ _ ⟨.bl _,H,I,rfl,q⟩; all_goals simp
  | int b=>obtain ⟨t,rfl⟩:=f; rw[Em] at q; exact SeqAt.RcAt.str_int a m b t _ _ _ _ ⟨.bl _,H,I,rfl,q⟩; all_goals simp
  | str b=>obtain ⟨t,rfl⟩:=f; rw[Em] at q; exact SeqAt.RcAt.str_str a m b t _ _ _ _ ⟨.bl _,H,I,rfl,q⟩
  | @lst b n o i g=>cases f; obtain ⟨vs,l,k,_⟩:=I.list i; rw[Em] at q; exact SeqAt.RcAt.str_list a m k.isList c _ _ _ _ ⟨.bl _,H,I,rfl,q⟩; all_goals simp
  | @tup b n o i g=>cases f; obtain ⟨vs,l,k,_⟩:=I.tuple i; rw[Em] at q; exact SeqAt.RcAt.str_tuple a m k c _ _ _ _ ⟨.bl _,H,I,rfl,q⟩; all_goals simp
 | @lst a G L D r =>
  cases z
  obtain ⟨J,B,p,_⟩:=I.list D
  cases w with
  | non=>cases f; rw[Em] at q; exact SeqAt.RcAt.list_none p.isList c _ _ _ _ ⟨.bl _,H,I,rfl,q⟩; all_goals simp
  | bl b=>cases f; rw[Em] at q; exact SeqAt.RcAt.list_bool b p.isList c _ _ _ _ ⟨.bl _,H,I,rfl,q⟩; all_goals simp
  | int b=>obtain ⟨t,rfl⟩:=f; rw[Em] at q; exact SeqAt.RcAt.list_int b t p.isList c _ _ _ _ ⟨.bl _,H,I,rfl,q⟩; all_goals simp
  | str b=>obtain ⟨t,rfl⟩:=f; rw[Em] at q; exact SeqAt.RcAt.list_str b t p.isList c _ _ _ _ ⟨.bl _,H,I,rfl,q⟩; all_goals simp
  | @lst b n o i g=>cases f; obtain ⟨vs,l,k,_⟩:=I.list i; rw[Em] at q; exact pU p k (B.length.symm.trans r.length) (l.length.symm.trans g.length) c (λj C w=>Sd I r g B l (Zu (by simp only[Dz] at E; omega)) j C w) _ _ _ _ ⟨.bl _,H,I,rfl,q⟩
  | @tup b n o i g=>cases f; obtain ⟨vs,l,k,_⟩:=I.tuple i; rw[Em] at q; exact SeqAt.RcAt.list_tuple p.isList k c _ _ _ _ ⟨.bl _,H,I,rfl,q⟩; all_goals simp
 | @tup a G L D r =>
  cases z
  obtain ⟨J,B,p,_⟩:=I.tuple D
  cases w with
  | non=>cases f; rw[Em] at q; exact SeqAt.RcAt.tuple_none p c _ _ _ _ ⟨.bl _,H,I,rfl,q⟩; all_goals simp
  | bl b=>cases f; rw[Em] at q; exact SeqAt.RcAt.tuple_bool b p c _ _ _ _ ⟨.bl _,H,I,rfl,q⟩; all_goals simp
  | int b=>obtain ⟨t,rfl⟩:=f; rw[Em] at q; exact SeqAt.RcAt.tuple_int b t p c _ _ _ _ ⟨.bl _,H,I,rfl,q⟩; all_goals simp
  | str b=>obtain ⟨t,rfl⟩:=f; rw[Em] at q; exact SeqAt.RcAt.tuple_str b t p c _ _ _ _ ⟨.bl _,H,I,rfl,q⟩; all_goals simp
  | @lst b n o i g=>cases f; obtain ⟨vs,l,k,_⟩:=I.list i; rw[Em] at q; exact SeqAt.RcAt.tuple_list p k.isList c _ _ _ _ ⟨.bl _,H,I,rfl,q⟩; all_goals simp
  | @tup b n o i g=>cases f; obtain ⟨vs,l,k,_⟩:=I.tuple i; rw[Em] at q; exact iB p k (B.length.symm.trans r.length) (l.length.symm.trans g.length) c (λj C w=>Sd I r g B l (Zu (by simp only[Dz] at E; omega)) j C w) _ _ _ _ ⟨.bl _,H,I,rfl,q⟩
theorem ES(N:X.A.units+64<cLine):aB X (Ke .NotEq) (IS X.K):=by
 intro F s M H x y v u Q I z f h
 obtain ⟨d,e,C,w,E,q⟩:=h
 have c:X.A.units<cLine:=by omega
 cases C with
 | non =>
  cases z
  cases w with
  | non=>cases f; rw[Em] at q; exact SeqAt.RcNeAt.none_none _ _ _ _ ⟨.bl _,H,I,rfl,q⟩
  | bl b=>cases f; rw[Em] at q; exact SeqAt.RcNeAt.none_bool b _ _ _ _ ⟨.bl _,H,I,rfl,q⟩; all_goals simp
  | int b=>obtain ⟨t,rfl⟩:=f; rw[Em] at q; exact SeqAt.RcNeAt.none_int b t _ _ _ _ ⟨.bl _,H,I,rfl,q⟩; all_goals simp
  | str b=>obtain ⟨t,rfl⟩:=f; rw[Em] at q; exact SeqAt.RcNeAt.none_str b t _ _ _ _ ⟨.bl _,H,I,rfl,q⟩; all_goals simp
  | @lst b n o i g=>cases f; obtain ⟨vs,l,k,_⟩:=I.list i; rw[Em] at q; exact SeqAt.RcNeAt.none_list k.isList c _ _ _ _ ⟨.bl _,H,I,rfl,q⟩; all_goals simp
  | @tup b n o i g=>cases f; obtain ⟨vs,l,k,_⟩:=I.tuple i; rw[Em] at q; exact SeqAt.RcNeAt.none_tuple k c _ _ _ _ ⟨.bl _,H,I,rfl,q⟩; all_goals simp
 | bl a =>
  cases z
  cases w with
  | non=>cases f; rw[Em] at q; exact SeqAt.RcNeAt.bool_none a _ _ _ _ ⟨.bl _,H,I,rfl,q⟩; all_goals simp
  | bl b=>cases f; rw[Em] at q; exact SeqAt.RcNeAt.bool_bool a b _ _ _ _ ⟨.bl _,H,I,rfl,q⟩
  | int b=>obtain ⟨t,rfl⟩:=f; rw[Em] at q; exact SeqAt.RcNeAt.bool_int a b t _ _ _ _ ⟨.bl _,H,I,rfl,q⟩
  | str b=>obtain ⟨t,rfl⟩:=f; rw[Em] at q; exact SeqAt.RcNeAt.bool_str a b t _ _ _ _ ⟨.bl _,H,I,rfl,q⟩; all_goals simp
  | @lst b n o i g=>cases f; obtain ⟨vs,l,k,_⟩:=I.list i; rw[Em] at q; exact SeqAt.RcNeAt.bool_list a k.isList c _ _ _ _ ⟨.bl _,H,I,rfl,q⟩; all_goals simp
  | @tup b n o i g=>cases f; obtain ⟨vs,l,k,_⟩:=I.tuple i; rw[Em] at q; exact SeqAt.RcNeAt.bool_tuple a k c _ _ _ _ ⟨.bl _,H,I,rfl,q⟩; all_goals simp
 | int a =>
  obtain ⟨m,rfl⟩:=z
  cases w with
  | non=>cases f; rw[Em] at q; exact SeqAt.RcNeAt.int_none a m _ _ _ _ ⟨.bl _,H,I,rfl,q⟩; all_goals simp
  | bl b=>cases f; rw[Em] at q; exact SeqAt.RcNeAt.int_bool a m b _ _ _ _ ⟨.bl _,H,I,rfl,q⟩
  | int b=>obtain ⟨t,rfl⟩:=f; rw[Em] at q; exact SeqAt.RcNeAt.int_int a m b t _ _ _ _ ⟨.bl _,H,I,rfl,q⟩
  | str b=>obtain ⟨t,rfl⟩:=f; rw[Em] at q; exact SeqAt.RcNeAt.int_str a m b t _ _ _ _ ⟨.bl _,H,I,rfl,q⟩; all_goals simp
  | @lst b n o i g=>cases f; obtain ⟨vs,l,k,_⟩:=I.list i; rw[Em] at q; exact SeqAt.RcNeAt.int_list a m k.isList c _ _ _ _ ⟨.bl _,H,I,rfl,q⟩; all_goals simp
  | @tup b n o i g=>cases f; obtain ⟨vs,l,k,_⟩:=I.tuple i; rw[Em] at q; exact SeqAt.RcNeAt.int_tuple a m k c _ _ _ _ ⟨.bl _,H,I,rfl,q⟩; all_goals simp
 | str a =>
  obtain ⟨m,rfl⟩:=z
  cases w with
  | non=>cases f; rw[Em] at q; exact SeqAt.RcNeAt.str_none a m _ _ _ _ ⟨.bl _,H,I,rfl,q⟩; all_goals simp
  | bl b=>cases f; rw[Em] at q; exact SeqAt.RcNeAt.str_bool a m b _ _ _ _ ⟨.bl _,H,I,rfl,q⟩; all_goals simp
  | int b=>obtain ⟨t,rfl⟩:=f; rw[Em] at q; exact SeqAt.RcNeAt.str_int a m b t _ _ _ _ ⟨.bl _,H,I,rfl,q⟩; all_goals simp
  | str b=>obtain ⟨t,rfl⟩:=f; rw[Em] at q; exact SeqAt.RcNeAt.str_str a m b t _ _ _ _ ⟨.bl _,H,I,rfl,q⟩
  | @lst b n o i g=>cases f; obtain ⟨vs,l,k,_⟩:=I.list i; rw[Em] at q; exact SeqAt.RcNeAt.str_list a m k.isList c _ _ _ _ ⟨.bl _,H,I,rfl,q⟩; all_goals simp
  | @tup b n o i g=>cases f; obtain ⟨vs,l,k,_⟩:=I.tuple i; rw[Em] at q; exact SeqAt.RcNeAt.str_tuple a m k c _ _ _ _ ⟨.bl _,H,I,rfl,q⟩; all_goals simp
 | @lst a G L D r =>
  cases z
  obtain ⟨J,B,p,_⟩:=I.list D
  cases w with
  | non=>cases f; rw[Em] at q; exact SeqAt.RcNeAt.list_none p.isList c _ _ _ _ ⟨.bl _,H,I,rfl,q⟩; all_goals simp
  | bl b=>cases f; rw[Em] at q; exact SeqAt.RcNeAt.list_bool b p.isList c _ _ _ _ ⟨.bl _,H,I,rfl,q⟩; all_goals simp
  | int b=>obtain ⟨t,rfl⟩:=f; rw[Em] at q; exact SeqAt.RcNeAt.list_int b t p.isList c _ _ _ _ ⟨.bl _,H,I,rfl,q⟩; all_goals simp
  | str b=>obtain ⟨t,rfl⟩:=f; rw[Em] at q; exact SeqAt.RcNeAt.list_str b t p.isList c _ _ _ _ ⟨.bl _,H,I,rfl,q⟩; all_goals simp
  | @lst b n o i g=>cases f; obtain ⟨vs,l,k,_⟩:=I.list i; rw[Em] at q; exact yW p k (B.length.symm.trans r.length) (l.length.symm.trans g.length) c (λj C w=>Sd I r g B l (Zu (by simp only[Dz] at E; omega)) j C w) _ _ _ _ ⟨.bl _,H,I,rfl,q⟩
  | @tup b n o i g=>cases f; obtain ⟨vs,l,k,_⟩:=I.tuple i; rw[Em] at q; exact SeqAt.RcNeAt.list_tuple p.isList k c _ _ _ _ ⟨.bl _,H,I,rfl,q⟩; all_goals simp
 | @tup a G L D r =>
  cases z
  obtain ⟨J,B,p,_⟩:=I.tuple D
  cases w with
  | non=>cases f; rw[Em] at q; exact SeqAt.RcNeAt.tuple_none p c _ _ _ _ ⟨.bl _,H,I,rfl,q⟩; all_goals simp
  | bl b=>cases f; rw[Em] at q; exact SeqAt.RcNeAt.tuple_bool b p c _ _ _ _ ⟨.bl _,H,I,rfl,q⟩; all_goals simp
  | int b=>obtain ⟨t,rfl⟩:=f; rw[Em] at q; exact SeqAt.RcNeAt.tuple_int b t p c _ _ _ _ ⟨.bl _,H,I,rfl,q⟩; all_goals simp
  | str b=>obtain ⟨t,rfl⟩:=f; rw[Em] at q; exact SeqAt.RcNeAt.tuple_str b t p c _ _ _ _ ⟨.bl _,H,I,rfl,q⟩; all_goals simp
  | @lst b n o i g=>cases f; obtain ⟨vs,l,k,_⟩:=I.list i; rw[Em] at q; exact SeqAt.RcNeAt.tuple_list p k.isList c _ _ _ _ ⟨.bl _,H,I,rfl,q⟩; all_goals simp
  | @tup b n o i g=>cases f; obtain ⟨vs,l,k,_⟩:=I.tuple i; rw[Em] at q; exact rR p k (B.length.symm.trans r.length) (l.length.symm.trans g.length) c (λj C w=>Sd I r g B l (Zu (by simp only[Dz] at E; omega)) j C w) _ _ _ _ ⟨.bl _,H,I,rfl,q⟩
theorem p9{z a:V}{v:Value}(h:RelV z v)(h':RelV a v):z=a:=by
 cases z <;> cases a <;> simp only[L2.RelV] at h h' <;> first | rfl | (subst h; cases h'; rfl) | (subst h; cases h'; done) | (obtain ⟨t,rfl⟩:=h; obtain ⟨b,e⟩:=h'; cases e; rfl) | (obtain ⟨t,rfl⟩:=h; obtain ⟨b,e⟩:=h'; cases e; done) | (obtain ⟨t,rfl⟩:=h; cases h'; done) | (subst h; obtain ⟨b,e⟩:=h'; cases e)
open Classical in
noncomputable def Om(K:PySem.W.Frag)(H:Hp)(d:Af)(v:Value):Bool:=if h:∃e z,RdV K H z e/\RelV z v then Em h.choose d else false
theorem mW{a:List (Addr×Obj)}{g:L2.St}{H:Hp}{s:Ah}(I:Inv X a g H s){d e:Af}{z:V}{v:Value}(h:RdV X.K H z e)(r:RelV z v):Om X.K H d v=Em e d:=by
 unfold Om
 have b:∃e z,RdV X.K H z e/\RelV z v:=⟨e,z,h,r⟩
 rw[dif_pos b]
 obtain ⟨j,c,i⟩:=b.choose_spec
 have f:=p9 i r
 subst f
 rw[RdV.det I c h]
theorem Rj{a:List (Addr×Obj)}{f:L2.St}{H:Hp}{s:Ah}(I:Inv X a f H s){d:Af}:∀{xs:List V} {ds:List Af} {us:List Value},RdVs X.K H xs ds->Gj xs us->us.any (Om X.K H d)=ds.any λe=>Em e d
 | _,_,_,.nil,r=>by cases r; rfl
 | _,_,_,.cons h t,r=>by
  cases r with
  | cons b c=>rw[Zi,Zi,mW I h b,Rj I t c]
theorem Rh{a:List (Addr×Obj)}{i:L2.St}{H:Hp}{s:Ah}(I:Inv X a i H s){A:Ci}{x:V}{d:Af}{u:Value}(g:RdV X.K H x d)(c:RelV x u):∀{xs:List V} {ds:List Af} {us:List Value},RdVs X.K H xs ds->Gj xs us->A.units+Br ds<cLine->∀v∈us,Od A s v u (Om X.K H d v)
 | _,_,_,.nil,r,_=>λv hv=>by cases r; cases hv
 | _,_,_,@RdVs.cons _ _ y e ys es h t,r,hu=>λv hv=>by
  have f:A.units+e.depth<cLine/\A.units+Br es<cLine:=by
   simp only[Br] at hu
   omega
  cases r with
  | cons b j =>
   rcases Ak.mp hv with rfl | hv
   ·rw[mW I h b]; exact F0 I h g b c f.1
   ·exact Rh I g c t j f.2 v hv
def EI(K:PySem.W.Frag)(neg:Bool):R2:=λx y H Q=>∃p b d a,y=.ref p/\(Mq K H p b\/Ru K H p b)/\RdV K H x d/\RdVs K H b a/\Br a<=60/\Q (.bl (if neg then !(a.any λe=>Em e d) else a.any λe=>Em e d)) H
theorem L8(n:X.A.units+64<cLine):aB X (Ke .In) (EI X.K false):=by
 intro i s t H x y v u Q I g l h
 obtain ⟨p,o,d,k,rfl,hq,j,c,z,q⟩:=h
 cases l
 have b:X.A.in1.units+Br k<cLine:=by have:=aP X.A; omega
 rcases hq with hq | hq
 ·obtain ⟨a,r,f,m⟩:=I.list hq
  refine SeqAt.in_listAt (Om X.K H d) f.isList (λw e=>Rh I j g c r b w (by simpa using e)) ⟨.bl _,H,I,rfl,?_⟩
  rw[show a.toArray.any (Om X.K H d)=a.any (Om X.K H d) by simp,Rj I c r]
  exact q
 ·obtain ⟨a,r,f,m⟩:=I.tuple hq
  refine SeqAt.in_tupleAt (Om X.K H d) f (λw e=>Rh I j g c r b w (by simpa using e)) ⟨.bl _,H,I,rfl,?_⟩
  rw[show a.toArray.any (Om X.K H d)=a.any (Om X.K H d) by simp,Rj I c r]
  exact q
theorem zG(n:X.A.units+64<cLine):aB X (Ke .NotIn) (EI X.K true):=by
 intro i s t H x y v u Q I g l h
 obtain ⟨p,o,d,k,rfl,hq,j,c,z,q⟩:=h
 cases l
 have b:X.A.in1.units+Br k<cLine:=by have:=aP X.A; omega
 rcases hq with hq | hq
 ·obtain ⟨a,r,f,m⟩:=I.list hq
  refine SeqAt.notIn_listAt (Om X.K H d) f.isList (λw e=>Rh I j g c r b w (by simpa using e)) ⟨.bl _,H,I,rfl,?_⟩
  rw[show a.toArray.any (Om X.K H d)=a.any (Om X.K H d) by simp,Rj I c r]
  exact q
 ·obtain ⟨a,r,f,m⟩:=I.tuple hq
  refine SeqAt.notIn_tupleAt (Om X.K H d) f (λw e=>Rh I j g c r b w (by simpa using e)) ⟨.bl _,H,I,rfl,?_⟩
  rw[show a.toArray.any (Om X.K H d)=a.any (Om X.K H d) by simp,Rj I c r]
  exact q
end
def JS(K:PySem.W.Frag)(a:Addr):It :=
 ⟨λi H=>∃b x,Mq K H a b/\b[i]? = some x,λi H x c=>∃p y,x=.ref p/\H p=none/\c=upd H p (.tup [.int i,y])/\∀b,Mq K H a b->b[i]? = some y,λi H=>∃b,Mq K H a b/\b.length<=i⟩
section
variable{X:Cx}{a:List (Addr×Obj)}{d:L2.St}{H:Hp}{s:Ah}{h':Heap}
theorem Ln{t':Nat}{fp:List Addr}(I:Inv X a d H s)(k:∀b o,b∉fp->s.heap.get? b=some o->h'.get? b=some o)(h:∀b∈fp,Lg X a H b):Inv X a d H { s with heap:=h',toks:=t' }:=by
 have g:∀b u,H b=some u->b∉fp:=λb u e z=>by rw[(h b z).1] at e; cases e
 refine I.step (g':=s.gens) (d':=s.drawn) (ch:=fp) (λb j=>?_) (λb o _ _ f e _=>k b o f e) (λb o _ _ f e _=>⟨o.slots,k b o f e⟩) (λ_ _ _ _ n=>n)
  (λb o f e=>⟨o,k b o f e⟩) (λ_ _ e=>e) (λ_ _ _ e=>e) (λb B e=>⟨#[],by rw[e]; simp⟩) (λm p=>?_) (λb u e=>?_) I.bare
 ·obtain ⟨_,x,_,i,l,t⟩:=h b j
  exact ⟨i,x,l,t⟩
 ·obtain ⟨o,A,w,y,r⟩:=p
  exact ⟨o,A,w,k _ o (λz=>(h _ z).2.1 rfl) y,r⟩
 ·refine (I.hok b u e).stay (λc v f q=>k c v ?_ q) (λ_ q=>q) λ_ _ q=>q
  rcases f with z | z
  ·rw[z]; exact g b u e
  ·exact g c _ z
end
theorem yJ{P:Bk}{w:World}{K:PySem.W.Frag}{r:List Expr}{k:Nat}{pos:Pos}(a e it:Addr)(Y:e≠it):Turn P w K (.Tuple r k pos) (JS K a) [e,it] e (λi h=>(∃g,IsEnum h e it ((i:Nat):Int) g)/\h.IsListIter it a i) where
 mem:=Ab
 obj:=λi h st b f=>by
  obtain ⟨⟨g,j⟩,o,e1,c,d⟩:=st
  rcases Ak.mp f with z | z
  ·subst z
   exact ⟨_,j,λv z=>by cases z⟩
  ·rw[Al.mp z]
   exact ⟨o,e1,λv z=>by rw[d] at z; cases z⟩
 keep:=λi h h' st kp=>⟨let ⟨g,j⟩:=st.1; ⟨g,kp e Ab _ j⟩,st.2.at λo q=>kp it (Ac _ Ab) o q⟩
 item:=by
  intro X R Q F S i m s V H E I C st O
  subst R Q F
  obtain ⟨xs,x,B,L⟩:=O
  obtain ⟨D,M,p,hz⟩:=I.list B
  obtain ⟨u,hu,ru⟩:=M.get L
  obtain ⟨⟨g,j⟩,l⟩:=st
  have el:e<s.heap.objs.size:=Aw j
  have il:it<s.heap.objs.size:=by obtain ⟨_,q,_⟩:=l; exact Aw q
  refine wpAny_pyNext_enum_item j l p.isList (x:=u) (by simpa using hu) Y λU ho t hT h0 hk=>⟨_,rfl,wF ho λT J N=>?_⟩
  have n:Cu e U T:=N
  -- the pair laid,then the iterators turned
  have I1:Inv X m V (upd H s.heap.objs.size (.tup [.int i,x])) { s with heap:=s.heap.push { cls:=.type "tuple",data:=.seq #[.int i s.toks,u] } } :=
   I.laid (t':=s.toks) (λb o q=>Ai _ q) (Aj _) ⟨by show 2<=Ay; decide,[.int i s.toks,u],.cons ⟨_,rfl⟩ (.cons ru .nil),_,Ar _ rfl,rfl,0,rfl⟩
  have nT:∀b∈[e,it],b≠s.heap.objs.size:=λb f=>by
   rcases Ak.mp f with z | z
   ·rw[z]; exact Bq el
   ·rw[Al.mp z]; exact Bq il
  have Z:∀b∈[e,it],(upd H s.heap.objs.size (.tup [.int i,x])) b=none:=λb f=>by rw[Ek (nT b f)]; exact (C b f).1
  refine ⟨.ref s.heap.objs.size,_,Ln (fp:=[e,it]) (s:={ s with heap:=s.heap.push { cls:=.type "tuple",data:=.seq #[.int i s.toks,u] } }) (h':=T) (t':=s.toks+1) I1 (λb o f q=>?_) (λb f=>⟨Z b f,(C b f).2⟩),rfl,⟨_,x,rfl,I.hok.fresh (Aj _),rfl,λys hy=>by rw[I.list_inj hy B]; exact L⟩,⟨⟨u,?_⟩,?_⟩,Z⟩
  ·have A:b≠e:=λz=>f (by rw[z]; exact Ab)
   have G:b≠it:=λz=>f (by rw[z]; exact Ac _ Ab)
   refine (n.2 b A).trans ?_
   by_cases y:b=s.heap.objs.size
   ·subst y
    have q':=(Ar s.heap (o:={ cls:=.type "tuple",data:=.seq #[.int i s.toks,u] }) rfl).symm.trans q
    rw[hT]
    exact q'
   ·refine hk b o A G ?_
    have q0:(s.heap.push { cls:=.type "tuple",data:=.seq #[.int i s.toks,u] }).get? b=some o:=q
    rcases Oz q0 with z | z
    ·exact absurd z.1 y
    ·exact z
  ·have : ((i+1:Nat):Int)=(i:Int)+1:=by omega
   rw[this]
   exact J
  ·exact t.at λo q=>(n.2 it (Lu Y)).trans q
 done:=by
  intro X R Q F S i m s V H E I C st O
  subst R Q F
  obtain ⟨xs,B,L⟩:=O
  obtain ⟨D,M,p,hz⟩:=I.list B
  obtain ⟨⟨g,j⟩,l⟩:=st
  have hl:=M.length
  exact wpAny_pyNext_enum_end (I.ok.hd S) j l p.isList (by simp; omega) λU eb=>⟨rfl,Ln (fp:=[e,it]) (t':=s.toks) I (λb o f q=>eb b o (λz=>f (by rw[z]; exact Ac _ Ab)) q) C⟩
 self:=λ_ _ _ _ _ st h=>let ⟨_,j⟩:=st.1; Uy j h
section
variable{X:Cx}
def GY(K:PySem.W.Frag)(e:TA):TI:=λc H R=>e c H λvs b=>∃a,vs=[.ref a]/\(∃d,Mq K b a d)/\R (JS K a) b
theorem V1{g:List Expr}{k:Nat}{L:Pos}{a:Expr}{j:TA}{p pos:Pos}(E:Gl X "enumerate")(y:X.mg "enumerate" = none)(G:PA X [a] j)(B:Bj [a] X.env=[(false,eval a X.env)]:=by rfl):PI X (.Tuple g k L) (.Call (.Name "enumerate" p) [a] [] pos) (GY X.K j):=by
 intro c s C H R I h
 refine Call_ (Sk I E y (u:=.type "enumerate") (by decide +kernel) (Dy (Fp (G pos c s C H _ I h) λO f ⟨vs,n,d,t,D⟩=>?_) B rfl))
 obtain ⟨l,e,⟨N,v⟩,q⟩:=D
 subst e
 obtain ⟨u,rfl,x⟩:=vals1 t
 cases x
 obtain ⟨r,P,J,Q⟩:=d.list v
 refine call_enumerate_list J.isList λM m i A w=>Uy m ?_
 have F:∀b∈[f.heap.objs.size+1,f.heap.objs.size],Lg X c n b:=λb o=>by
  rcases Ak.mp o with z | z
  ·rw[z]; exact d.fpOk (Mu _) (d.hok.fresh (Mu _))
  ·rw[Al.mp z]; exact d.fpOk (Aj _) (d.hok.fresh (Aj _))
 exact ⟨f.heap.objs.size+1,[f.heap.objs.size+1,f.heap.objs.size],_,_,n,rfl,d.kept (t':=f.toks) w,yJ l _ _ (Nat.succ_ne_self _),⟨⟨_,m⟩,i⟩,F,q⟩
end
section
variable{X:Cx}
def BB(K:PySem.W.Frag)(J:It)(l:List Nat)(p:TT)(q:TE)(o:L2.St)(k:Hp)(Q:VK):Prop:=∀D,k D=none->∃W:Nat->Nat->Hp->Prop,(∃m,W 0 m (upd k D (.lst [])))/\∀i m H,W i m H ->
 (J.stop i H/\Q (.ref D) H)\/(J.go i H/\∀x f,J.yld i H x f->∃(t:Addr) (g e:V),x=.ref t/\Ru K f t [g,e]/\∃(n:Hp->Prop) (j:VK),(∀b,n b->∃d,d<m/\W (i+1) d b) /\
  (∀y h,j y h->∃a,h D=some (.lst a)/\a.length<Ay/\∃d,d<m/\W (i+1) d (upd h D (.lst (a++[y])))) /\
  p (some g::some e::Ef o l) f λc b=>if c=true then q (some g::some e::Ef o l) b j else n b)
def lP(K:PySem.W.Frag)(b:TI)(d:List Nat)(e:TT)(f:TE):TE:=λa H Q=>b a H λJ c=>BB K J d e f a c Q
theorem w4{L iter:Expr}{x g:Str}{px t pt pos:Pos}{kt:Nat}{O:List Expr}{a:Scope}{p:List (Str×Addr)}{ys:List Str}{P:List Nat}{wi:TI}{tc:TT}{te:TE}(C:CompScope X a p x ys P)(E:aM a g)(Z:(x::g::ys).Nodup)(hc:X.calm=true)(hi:PI X (.Tuple [.Name x px,.Name g t] kt pt) iter wi)(ht:∀fp s H,qT (Cw X a p (x::g::ys) fp s H) O tc)(he:∀fp s H,PE (Cw X a p (x::g::ys) fp s H) L te)(hs:∀x,Dc iter X.env x=pure x:=by intro _; rfl):PE X (.ListComp L [⟨.Tuple [.Name x px,.Name g t] kt pt,iter,O,0⟩] a pos) (lP X.K wi P tc te):=by
 intro k s G H Q I h
 rw[eval_ListComp]
 refine Hk (use:=none) rfl hs C.clos C.kind C.locs (Fp (hi k s G H _ I h) λv s1 h1=>Fp h1 λj9 d h2=>?_)
 obtain ⟨it,fp,tn,J,R,e,I2,T,j1,f2,q2⟩:=h2
 subst e
 have fD:R d.heap.objs.size=none:=I2.hok.fresh (Aj _)
 obtain ⟨W,⟨m0,w0⟩,k3⟩:=q2 d.heap.objs.size fD
 refine Cg ?_
 have I3:Inv X k G (upd R d.heap.objs.size (.lst [])) { d with heap:=d.heap.push { cls:=.type "list",dict:=none,data:=.seq ([]:List Value).toArray } } :=
  I2.laid (t':=d.toks) (λb u q=>Ai _ q) (Aj _) ⟨Do _,[],0,.nil,Ar _ rfl⟩
 obtain ⟨f3,k1,j2⟩:=Rm I2 T j1 f2 I3
 generalize k2:({ d with heap:=d.heap.push { cls:=.type "list",dict:=none,data:=.seq ([]:List Value).toArray } }:Ah)=s3 at I3
 have Rr:tn 0 s3.heap:=by rw[<- k2]; exact k1
 have o3:∀b∈fp,∃o,s3.heap.get? b=some o:=by rw[<- k2]; exact j2
 show wpAny _ _ (Kc a X.env.globals p [] X.env.qual none .none (some X.env)) _ _ _
 refine Pb C λh4 k4 l k5=>?_
 have I4:∀tk,Inv (Cw X a p (x::g::ys) fp s3 (upd R d.heap.objs.size (.lst []))) [] (none::none::Ef G P) (upd R d.heap.objs.size (.lst [])) { s3 with heap:=h4,toks:=tk }:=λtk=>Ni (pre:=[x,g]) C I3 f3 o3 k4 l k5
 have h9:tn 0 h4:=T.keep 0 _ _ Rr λb N o q=>l b o q
 generalize B:Cw X a p (x::g::ys) fp s3 (upd R d.heap.objs.size (.lst []))=X' at I4
 obtain ⟨eP,eW,eK,eA,eC⟩:=Rp hc B
 have j:∀{f:Hp},(∀b∈fp,f b=none)->∀b∈fp,Lg X' [] f b:=λ{f} hn=>Pe B (I4 0) hn
 have F:∀s5:Ah,s5={ s3 with heap:=h4,toks:=s3.toks+([]:List (Str×Value)).length } ->
   Ha (model X.prog X.w) X.A (.compLoop (.ListComp L [⟨.Tuple [.Name x px,.Name g t] kt pt,iter,O,0⟩] a pos) 0 (.ref it) (.ref d.heap.objs.size) (Ti a (En (s3.heap.objs.size+1) a.names p) s3.heap.objs.size X.env))
    (compPost (model X.prog X.w) X.A X.xe none (EP X k G Q) (.ref d.heap.objs.size) s3.heap.objs.size) s5:=by
  rintro s5 rfl
  refine Su (λn s'=>∃i o o2 f,Inv X' [] (o::o2::Ef G P) f s'/\tn i s'.heap/\(∀b∈fp,f b=none)/\W i n f) ?_ m0
   ⟨0,none,none,_,I4 _,h9,λb N=>(f3 b N).1,w0⟩
  (intro n s6 q_; obtain ⟨i,o,o2,H6,I6,h5,k0,w6⟩ := q_)
  rcases k3 i n H6 w6 with ⟨h6,qn⟩ | ⟨go,step⟩
  ·have hd:=T.done X' eP eW eK eC i [] s6 _ H6 (λ_ _=>False) I6 (j k0) h5 h6
   rw[eA] at hd
   refine Fp hd λr s7 c => ?_
   obtain ⟨hr,I7⟩ := c
   subst hr
   obtain ⟨m7,k8,h3⟩:=Si B I3 f3 I7
   exact ⟨m7,k8,λh8 q4=>⟨.ref d.heap.objs.size,H6,h3 h8 q4,rfl,qn⟩⟩
  ·have k6:=T.item X' eP eW eK eC i [] s6 _ H6 (λ_ _=>False) I6 (j k0) h5 go
   rw[eA] at k6
   refine Fp k6 λr s7 c => ?_
   obtain ⟨u,hr,h7⟩ := c
   subst hr
   refine Fp h7 λ_ s8 c => ?_
   obtain ⟨y,H8,I8,r8,y8,M,j4⟩ := c
   have q0:=I8.pinned (j j4) (T.obj _ _ M)
   obtain ⟨tp,w1,w2,ey,j6,N1,N2,q8,q3,q5⟩:=step y H8 y8
   have again:∀{H9:Hp} {U:Ah} {S:Nat},Inv X' ([]++Oh fp s8.heap) (some w1::some w2::Ef G P) H9 U->S<n->W (i+1) S H9->∃m,m<n/\∃i o o2 f,Inv X' [] (o::o2::Ef G P) f U/\tn i U.heap/\(∀b∈fp,f b=none)/\W i m f:=λ{H9 U S} I9 hm w9=>by
    refine ⟨S,hm,i+1,some w1,some w2,H9,I9.unpinned,T.keep _ _ _ M λb N o e=>(I9.pin (b,o) (Ag _ (Ag _ (Fl N e)))).1,λb N=>?_,w9⟩
    obtain ⟨o,e,_⟩:=T.obj _ _ M b N
    exact (I9.pin (b,o) (Ag _ (Ag _ (Fl N e)))).2.1
   subst B
   have g1:PG (Cw X a p (x::g::ys) fp s3 (upd R d.heap.objs.size (.lst []))) (.Tuple [.Name x px,.Name g t] kt pt) (C7 X.K 2 (Yz (Pt 0) (Yz (Pt 1) J0))) :=
    dQ (X:=Cw X a p (x::g::ys) fp s3 (upd R d.heap.objs.size (.lst []))) hc (Mo (Jy (i:=0) (x:=x) Z rfl (Mn C.own) (Pp C.own)) (Mo (Jy (i:=1) (x:=g) Z rfl (Mn E) (Pp E)) Xz))
   refine Fp (g1 _ s8 _ H8 y u (λj8 f=>j8=some w1::some w2::Ef G P/\f=H8) q0 r8 ⟨tp,[w1,w2],ey,j6,rfl,_,_,rfl,_,_,rfl,rfl,rfl,rfl⟩) λ_ U c => ?_
   obtain ⟨x3,H9,I9,e9,k7⟩ := c
   subst e9 k7
   refine Fp (ht fp s3 _ _ U _ _ _ I9 q5) λok q9 c => ?_
   obtain ⟨x4,h0,D⟩ := c
   cases ok with
   | false =>
    rw[if_neg Bs] at D ⊢
    obtain ⟨S,hm,j3⟩:=q8 _ D
    exact again h0 hm j3
   | true =>
    rw[if_pos rfl] at D ⊢
    refine Fp (he fp s3 _ _ q9 _ _ _ h0 D) λz j5 c => ?_
    obtain ⟨vz,Y,j0,q7,q1⟩ := c
    obtain ⟨V,ha,hz,S,hm,k9⟩:=q3 _ _ q1
    refine Fp (Pc _ j5 _ Y (.ref d.heap.objs.size) [vz] (.ref d.heap.objs.size) [z] (λ_ f=>f=upd Y d.heap.objs.size (.lst (V++[vz]))) j0 rfl (.cons q7 .nil) ⟨_,V,vz,rfl,rfl,ha,hz,rfl⟩) λ_ x0 c => ?_
    obtain ⟨_,x1,j7,_,q6⟩ := c
    subst q6
    exact again j7 hm k9
 exact Kv (F _ rfl) (T.self X.A 0 _ _ _ h9 (F _ rfl))
end
section
variable{X:Cx}
theorem W9{k iter:Expr}{x S:Str}{px py pos M:Pos}{i0:Nat}{B:List Expr}{a:Scope}{Y:List (Str×Addr)}{ys:List Str}{O:List Nat}{wi:TI}{tc:TT}{te:TE}(hN:X.N.Nodup)(q8:X.N[i0]? = some S)(q4:X.env.scope.names.lookup S=some .local)(C:CompScope X a Y x ys O)(hc:X.calm=true)(hi:PI X (.Name x px) iter wi)(ht:∀fp s H,qT (Cw X a Y (x::ys) fp s H) B tc)(he:∀fp s H,PE (Cw X a Y (x::ys) fp s H) k te)(hs:∀x,Dc iter X.env x=pure x:=by intro _; rfl)(j7:Oa (.ListComp k [⟨.Name x px,iter,B,0⟩] a pos) (some (.Name S py)) M.line X.env=pure true:=by rfl):PS X (.Assign [.Name S py] (.ListComp k [⟨.Name x px,iter,B,0⟩] a pos) M) (x9 (vH wi O tc te) (Pt i0)):=by
 intro d s j H De I h
 have h:vH wi O tc te j H λv H1=>De.nx (j.set i0 (some v)) H1:=h
 rw[exec_Assign_Name_used _ _ _ _ j7]
 refine Aa (Hj (Aa ?_))
 show wpAny _ X.A (do let _ <- comprehension (.ListComp k [⟨.Name x px,iter,B,0⟩] a pos) a X.env _ (newList []) false (eval iter X.env) (some (Nr (.Name S py) X.env))) _ _ s
 refine Aa (Cv (Hk (use:=some (Nr (.Name S py) X.env)) (Q:=λ_ Z=>SP X d De .next Z) rfl hs C.clos C.kind C.locs (Fp (hi d s j H _ I h) λv s1 h1=>Fp h1 λx5 f h2=>?_)) (λ_ Z hq=>Ae (Ae hq)) λ_ _ e=>e)
 obtain ⟨it,fp,tn,J,H2,e,I2,T,j8,f2,q2⟩:=h2
 subst e
 have fD:H2 f.heap.objs.size=none:=I2.hok.fresh (Aj _)
 obtain ⟨W,⟨m0,w0⟩,k6⟩:=q2 f.heap.objs.size fD
 refine Cg ?_
 have I3:Inv X d j (upd H2 f.heap.objs.size (.lst [])) { f with heap:=f.heap.push { cls:=.type "list",dict:=none,data:=.seq ([]:List Value).toArray } } :=
  I2.laid (t':=f.toks) (λb u q=>Ai _ q) (Aj _) ⟨Do _,[],0,.nil,Ar _ rfl⟩
 obtain ⟨f3,k4,j9⟩:=Rm I2 T j8 f2 I3
 generalize k5:({ f with heap:=f.heap.push { cls:=.type "list",dict:=none,data:=.seq ([]:List Value).toArray } }:Ah)=s3 at I3
 have Rr:tn 0 s3.heap:=by rw[<- k5]; exact k4
 have o3:∀b∈fp,∃o,s3.heap.get? b=some o:=by rw[<- k5]; exact j9
 show wpAny _ _ (Kc a X.env.globals Y [] X.env.qual none .none (some X.env)) _ _ _
 refine Pb C λh4 k8 D q1=>?_
 have I4:∀tk,Inv (Cw X a Y (x::ys) fp s3 (upd H2 f.heap.objs.size (.lst []))) [] (none::Ef j O) (upd H2 f.heap.objs.size (.lst [])) { s3 with heap:=h4,toks:=tk }:=λtk=>Ni (pre:=[x]) C I3 f3 o3 k8 D q1
 have k2:tn 0 h4:=T.keep 0 _ _ Rr λb t o q=>D b o q
 generalize E:Cw X a Y (x::ys) fp s3 (upd H2 f.heap.objs.size (.lst []))=X' at I4
 obtain ⟨eP,eW,eK,eA,eC⟩:=Rp hc E
 have l:∀{g:Hp},(∀b∈fp,g b=none)->∀b∈fp,Lg X' [] g b:=λ{g} hn=>Pe E (I4 0) hn
 have L:∀s5:Ah,s5={ s3 with heap:=h4,toks:=s3.toks+([]:List (Str×Value)).length } ->
   Ha (model X.prog X.w) X.A (.compLoop (.ListComp k [⟨.Name x px,iter,B,0⟩] a pos) 0 (.ref it) (.ref f.heap.objs.size) (Ti a (En (s3.heap.objs.size+1) a.names Y) s3.heap.objs.size X.env))
    (compPost (model X.prog X.w) X.A X.xe (some (Nr (.Name S py) X.env)) (λ_ Z=>SP X d De .next Z) (.ref f.heap.objs.size) s3.heap.objs.size) s5:=by
  rintro s5 rfl
  refine Su (λn Z=>∃i o g,Inv X' [] (o::Ef j O) g Z/\tn i Z.heap/\(∀b∈fp,g b=none)/\W i n g) ?_ m0
   ⟨0,none,_,I4 _,k2,λb t=>(f3 b t).1,w0⟩
  (intro n s6 q_; obtain ⟨i,o,U,I6,k0,k3,w6⟩ := q_)
  rcases k6 i n U w6 with ⟨k1,qn⟩ | ⟨go,step⟩
  ·have hd:=T.done X' eP eW eK eC i [] s6 _ U (λ_ _=>False) I6 (l k3) k0 k1
   rw[eA] at hd
   refine Fp hd λr s7 c => ?_
   obtain ⟨hr,I7⟩ := c
   subst hr
   obtain ⟨⟨m7,P⟩,q0,J7⟩:=iD E I3 f3 I7
   have fC:Lg X d U s3.heap.objs.size:=I3.fpOk (Aj _) q0
   obtain ⟨oC,y1,y3,h9,rC⟩:=id P
   have J8:Inv X (d++[(s3.heap.objs.size,oC)]) j U s7:=J7.pins_of λp hp=>by
    rcases Bc.mp hp with z | z
    ·have q:=J7.pin p (Ag _ z)
     exact q
    ·rw[Al.mp z]
     exact ⟨h9,q0,fC.2.1,fC.2.2.1,λv hv=>by rw[rC.1] at hv; cases hv⟩
   refine Fp (Jy (X:=X) (i:=i0) (x:=S) (pos:=py) hN q8 (.inl q4) (.inr q4) (d++[(s3.heap.objs.size,oC)]) s7 j U (.ref f.heap.objs.size) (.ref f.heap.objs.size) (λh3 g=>h3=j.set i0 (some (.ref f.heap.objs.size))/\g=U) J8 rfl ⟨rfl,rfl⟩) λ_ G c => ?_
   obtain ⟨x0,R,K,e9,V⟩ := c
   subst e9 V
   have k9:=(K.pin (s3.heap.objs.size,oC) (Ag _ (Ag _ Ab))).1
   have j5:Inv X d (j.set i0 (some (.ref f.heap.objs.size))) R G:=K.pins_of λp hp=>K.pin p (Ag _ (Ao _ hp))
   refine ⟨m7,P.at λo e=>by rw[h9] at e; cases e; exact k9,λx7 k7=>?_⟩
   exact ⟨_,R,Ln (t':=G.toks) (fp:=[s3.heap.objs.size]) j5 (λb o t e=>(k7.2 b (λz=>t (by rw[z]; exact Ab))).trans e) (λb t=>by rw[Al.mp t]; exact fC),qn⟩
  ·have q3:=T.item X' eP eW eK eC i [] s6 _ U (λ_ _=>False) I6 (l k3) k0 go
   rw[eA] at q3
   refine Fp q3 λr s7 c => ?_
   obtain ⟨u,hr,h7⟩ := c
   subst hr
   refine Fp h7 λ_ s8 c => ?_
   obtain ⟨y,H8,I8,r8,y8,h0,x2⟩ := c
   have q6:=I8.pinned (l x2) (T.obj _ _ h0)
   obtain ⟨N1,N2,j3,q9,j0⟩:=step y H8 y8
   have again:∀{R:Hp} {G:Ah} {m':Nat},Inv X' ([]++Oh fp s8.heap) (some y::Ef j O) R G->m'<n->W (i+1) m' R->∃m,m<n/\∃i o g,Inv X' [] (o::Ef j O) g G/\tn i G.heap/\(∀b∈fp,g b=none)/\W i m g:=λ{R G m'} K hm w9=>by
    refine ⟨m',hm,i+1,some y,R,K.unpinned,T.keep _ _ _ h0 λb t o e=>(K.pin (b,o) (Ag _ (Ag _ (Fl t e)))).1,λb t=>?_,w9⟩
    obtain ⟨o,e,_⟩:=T.obj _ _ h0 b t
    exact (K.pin (b,o) (Ag _ (Ag _ (Fl t e)))).2.1
   subst E
   refine Fp (Jy (i:=0) (x:=x) (pos:=px) C.nd rfl (Mn C.own) (Pp C.own) _ s8 _ H8 y u (λh3 g=>h3=some y::Ef j O/\g=H8) q6 r8 ⟨rfl,rfl⟩) λ_ G c => ?_
   obtain ⟨x0,R,K,e9,V⟩ := c
   subst e9 V
   refine Fp (ht fp s3 _ _ G _ _ _ K j0) λok j4 c => ?_
   obtain ⟨y2,h8,F⟩ := c
   cases ok with
   | false =>
    rw[if_neg Bs] at F ⊢
    obtain ⟨m',hm,x1⟩:=j3 _ F
    exact again h8 hm x1
   | true =>
    rw[if_pos rfl] at F ⊢
    refine Fp (he fp s3 _ _ j4 _ _ _ h8 F) λz x3 c => ?_
    obtain ⟨vz,h6,j6,j2,q7⟩ := c
    obtain ⟨h5,ha,hz,m',hm,q5⟩:=q9 _ _ q7
    refine Fp (Pc _ x3 _ h6 (.ref f.heap.objs.size) [vz] (.ref f.heap.objs.size) [z] (λ_ g=>g=upd h6 f.heap.objs.size (.lst (h5++[vz]))) j6 rfl (.cons j2 .nil) ⟨_,h5,vz,rfl,rfl,ha,hz,rfl⟩) λ_ x6 c => ?_
    obtain ⟨_,x8,x4,_,j1⟩ := c
    subst j1
    exact again x4 hm q5
 exact Kv (L _ rfl) (T.self X.A 0 _ _ _ k2 (L _ rfl))
end
end Nd
namespace Nd
open PySem L2
def X7(K:PySem.W.Frag):R2:=λx y H Q=>∃a b d c,x=.ref a/\y=.ref b/\Ru K H a d/\Ru K H b c/\d.length+c.length<=Ay/\(d=[]->Q (.ref b) H)/\(c=[]->Q (.ref a) H)/\(∀p,H p=none->Q (.ref p) (upd H p (.tup (d++c))))
open PyProof.Rows in
theorem V3{X:Cx}:aB X (Jn .Add) (X7 X.K):=by
 intro c s P H x y v u Q I k l h
 obtain ⟨a,b,o,C,rfl,rfl,t,j,S,R,G,A⟩:=h
 by_cases f:o=[]
 ·cases k
  cases l
  obtain ⟨e,z,N,_⟩:=I.tuple t
  obtain ⟨p,V,L,_⟩:=I.tuple j
  have d:e=[]:=z.nil_iff.mpr f
  subst d
  obtain ⟨⟨U,O,D,i⟩,w,q,J,d⟩:=id N
  obtain ⟨⟨T,B,M,g⟩,m,r,E,n⟩:=id L
  simp only at q d r n
  subst q d r n
  exact concat_meets ⟨_,w,rfl⟩ ⟨_,m,rfl⟩ mK seq_tuple_add PySem.F.slot_tuple_add PySem.F.entry_tuple_add (PySem.F.args_tuple_add_2 _ _)
   (tuple_addW0 a b _ _ J E O B i g rfl) ⟨w,m,⟨.ref b,H,I,rfl,R f⟩⟩
 ·exact R7 c s P H (.ref a) (.ref b) v u Q I k l ⟨a,b,o,C,rfl,rfl,t,j,f,S,G,λ_=>A⟩
theorem aN:∀{l:List Int},l.Nodup->l.Pairwise (·<=·)->l.Pairwise (· < ·)
 | [],_,_=>.nil
 | a::l,n,p=>by
  obtain ⟨g,d⟩:=Bd.mp p
  obtain ⟨f,e⟩:=Cm.mp n
  refine Bd.mpr ⟨λb c=>?_,aN e d⟩
  have:=g b c
  have : a≠b:=λz=>f (by rw[z]; exact c)
  omega
end Nd
namespace Nd
open PySem PySem.Spec PyProof.Rows L2
end Nd
namespace Nd
open PySem L2
theorem compScope0{X:Cx}{a:Scope}{x:Str}(d:closureFor a X.env=pure [])(b:∀y∈a.names,y.2≠.cell)(kind:a.kind=.function)(locs:∀y∈a.names,y.2=.local->a.names.lookup y.1=some .local)(e:a.names.lookup x=some .local)(c:(a.names.all λy=>!(y.2 == Ew) || (([]:List (Str×Addr)).lookup y.1).isSome)=true):CompScope X a [] x [] [] :=
 ⟨d,.inl b,kind,locs,.inl e,λ_ _ h=>by simp at h,c,Cm.mpr ⟨Az,Ep⟩,rfl,λk y j f _=>by simp at f⟩
theorem sz{n:Nat}(h:n<=1000:=by first | decide | simp | (simp; omega)):n<=Ay:=Kf (zF h)
end Nd
namespace Nd
open PySem PySem.Spec PyProof.Rows L2
theorem E6:∀{vs:List Value} {ns:List Int},Fo vs ns->Gj (ns.map V.int) vs
 | _,_,.nil=>.nil
 | _,_,.cons n t h=>.cons ⟨t,rfl⟩ (E6 h)
section
variable{X:Cx}
def oR(K:PySem.W.Frag):List V->Hp->VK->Prop:=λd H Q=>∃(a:Addr) (b:List Int),d=[.ref a]/\Mq K H a (b.map V.int)/\b.length<64 /\
 ∀(p:Addr) (c:List Int),H p=none->c.Perm b->c.Pairwise (·<=·)->Q (.ref p) (upd H p (.lst (c.map V.int)))
theorem Yk:Ml X (.builtin "sorted") (oR X.K):=by
 intro d s z H x t Q I r h
 obtain ⟨a,w,rfl,n,g,q⟩:=h
 obtain ⟨u,rfl,k⟩:=vals1 r
 cases k
 obtain ⟨b,f,p,y⟩:=I.list n
 have len:b.length<64:=by rw[<- f.length,Ad]; exact g
 refine sorted_ints p.isList (intsAre_of f) len λout c l i m=>?_
 obtain ⟨e,j⟩:=sortedAll_at s.heap b out
 have v:c.length<64:=by rw[i.length_eq]; exact g
 exact ⟨.ref (s.heap.objs.size+1),_,I.laid (t':=s.toks) (o:=.lst (c.map V.int)) (λ_ _=>sortedAll_old) (Mu _) ⟨by rw[Ad,Gn]; omega,out.toList,e,E6 l,by simpa using j⟩,rfl,q _ c (I.hok.fresh (Mu _)) i m⟩
end
end Nd
namespace NdS
open PySem
theorem qG{mask finger moves:Nat}{led plain:Bool}{c:Array Int}{t:Cn}{order:Array Nat}(h:Jv mask finger moves led plain c=some (t,order)):t.led=led/\t.mask=mask/\t.plain=plain/\t.dummies=#[]:=by
 unfold Jv at h
 cases b:Qt mask c with
 | none=>rw[b] at h; cases h
 | some a =>
  rw[b] at h
  cases h
  exact ⟨rfl,rfl,rfl,rfl⟩
def st(m i:Nat):Nat:=(i * 5+1) % m
def it(m:Nat):Nat->Nat->Nat
 | 0,i=>i
 | t+1,i=>it m t (st m i)
theorem jK(m:Nat):∀(a b i:Nat),it m (a+b) i=it m b (it m a i)
 | 0,b,i=>by rw[Nt]; rfl
 | a+1,b,i=>by rw[Nat.add_right_comm]; exact jK m a b (st m i)
def JK(m:Nat):Nat->Nat->List Nat
 | 0,_=>[]
 | f+1,i=>i::JK m f (st m i)
theorem jJ{m:Nat}:∀{f i e:Nat},e∈JK m f i->∃t,t<f/\it m t i=e
 | 0,_,_,h=>by cases h
 | f+1,i,e,h=>by
  rcases Ak.mp h with z | z
  ·exact ⟨0,cK _,z.symm⟩
  ·obtain ⟨t,b,a⟩:=jJ z
   exact ⟨t+1,Nat.succ_lt_succ b,a⟩
def Pl(m:Nat):Prop:=0<m/\it m m 0=0/\∀e,e<m->e∈JK m m 0
theorem Rn{m:Nat}(h0:0<m)(h1:(it m m 0 == 0)=true)(a:((Cc m).all λe=>(JK m m 0).contains e)=true):Pl m :=
 ⟨h0,by simpa using h1,λe b=>by
  have:=List.all_eq_true.mp a e (Fw.mpr b)
  simpa using this⟩
theorem Z5:Pl 8:=Rn (by decide) (by decide +kernel) (by decide +kernel)
theorem EC:Pl 16:=Rn (by decide) (by decide +kernel) (by decide +kernel)
theorem DR:Pl 32:=Rn (by decide) (by decide +kernel) (by decide +kernel)
theorem DK:Pl 64:=Rn (by decide) (by decide +kernel) (by decide +kernel)
theorem T1:Pl 128:=Rn (by decide) (by decide +kernel) (by decide +kernel)
theorem S8:Pl 256:=Rn (by decide) (by decide +kernel) (by decide +kernel)
theorem FI{m:Nat}(g:Pl m){i e:Nat}(l:i<m)(j:e<m):∃t,t<m/\it m t i=e:=by
 obtain ⟨o,k,d⟩:=g
 obtain ⟨a,p,f⟩:=jJ (d i l)
 obtain ⟨b,n,h⟩:=jJ (d e j)
 by_cases c:a<=b
 ·refine ⟨b - a,by omega,?_⟩
  rw[<- f,<- jK,Nat.add_sub_cancel' c]
  exact h
 ·refine ⟨b+m - a,by omega,?_⟩
  rw[<- f,<- jK,show a+(b+m - a)=m+b by omega,jK,k]
  exact h
def lp(m:Nat):Nat->Nat->Nat->Nat×Nat
 | 0,i,p=>(i,p)
 | t+1,i,p=>lp m t ((i * 5+1+p / 32) % m) (p / 32)
theorem B3(m:Nat):∀(a b i p:Nat),lp m (a+b) i p=lp m b (lp m a i p).1 (lp m a i p).2
 | 0,b,i,p=>by rw[Nt]; rfl
 | a+1,b,i,p=>by rw[Nat.add_right_comm]; exact B3 m a b _ _
theorem vY(m:Nat):∀(t i:Nat),lp m t i 0=(it m t i,0)
 | 0,_=>rfl
 | t+1,i=>vY m t (st m i)
theorem pP{m:Nat}:∀(n i p:Nat),p<32 ^ n->(lp m n i p).2=0
 | 0,i,p,h=>by show p=0; simpa using h
 | n+1,i,p,h=>pP n _ _ (by rw[Vz] at h; exact Nat.div_lt_of_lt_mul (by omega))
theorem AE{m:Nat}(h0:0<m):∀(n i p:Nat),i<m->(lp m n i p).1<m
 | 0,i,p,h=>h
 | n+1,i,p,h=>AE h0 n _ _ (Wa _ h0)
theorem oF{m:Nat}(g:Pl m){i p e:Nat}(c:i<m)(f:p<2 ^ 64)(b:e<m):∃t,t<m+14/\(lp m t i p).1=e:=by
 have a:=pP (m:=m) 13 i p (Cj f (by decide))
 obtain ⟨t,h,d⟩:=FI g (AE g.1 13 i p c) b
 refine ⟨13+t,by omega,?_⟩
 rw[B3,a,vY]
 exact d
theorem Zp(mask i:Nat):i<=Ik mask i:=by unfold Ik; split <;> omega
theorem iA{mask:Nat}{owner:Array (Option Nat)}:∀(fuel i p t:Nat),t<fuel->(owner.getD (lp (mask+1) t i p).1 (some 0)).isNone=true->∃j,Lc mask owner fuel i p=some j/\(owner.getD j (some 0)).isNone=true
 | 0,_,_,_,h,_=>absurd h (Kl _)
 | fuel+1,i,p,t,h,hn=>by
  unfold Lc
  split
  ·rename_i k a
   exact ⟨i+k,rfl,by have:=List.find?_some a; exact this⟩
  ·rename_i a
   rw[List.find?_eq_none] at a
   cases t with
   | zero =>
    have:=a 0 (Fw.mpr (by have:=Zp mask i; omega))
    exact absurd hn (by simpa [lp] using this)
   | succ t =>
    exact iA fuel _ _ t (by omega) hn
theorem Wx{L:List (Option Nat)}:∀{j x:Nat},L[j]? = some none->((L.set j (some x)).filterMap id).Perm (x::L.filterMap id):=by
 induction L with
 | nil=>intro j x h; simp at h
 | cons a L d =>
  intro j x h
  cases j with
  | zero =>
   simp at h
   subst h
   simp
  | succ j =>
   have c:L[j]? = some none:=by simpa using h
   have:=d (x:=x) c
   cases a with
   | none=>simpa using this
   | some b=>simpa using (Jd b this).trans (Ej x b _)
theorem yS{L:List (Option Nat)}:(L.filterMap id).length<L.length->∃j:Nat,L[j]? = some none:=by
 induction L with
 | nil=>intro h; simp at h
 | cons a L c =>
  intro h
  cases a with
  | none=>exact ⟨0,rfl⟩
  | some b =>
   have : (L.filterMap id).length<L.length:=by simpa using h
   obtain ⟨j,d⟩:=c this
   exact ⟨j+1,by simpa using d⟩
theorem uK(h:Int):Di h<2 ^ 64:=by
 unfold Di
 have a:=Int.emod_nonneg h (show (2 ^ 64:Int)≠0 by decide)
 have b:=Int.emod_lt_of_pos h (show (0:Int)<2 ^ 64 by decide)
 omega
def CI(mask:Nat)(a:Option (Array (Option Nat)×Nat))(h:Int):Option (Array (Option Nat)×Nat):=do
 let (owner,k) <- a
 let j <- Lc mask owner (Hv mask) (Di h % (mask+1)) (Di h)
 pure (owner.setIfInBounds j (some k),k+1)
theorem qN{mask:Nat}(g:Pl (mask+1)):∀(b:List Int) (owner:Array (Option Nat)) (n:Nat),owner.size=mask+1->(owner.toList.filterMap id).Perm (Cc n)->n+b.length<=mask->∃a:Array (Option Nat),b.foldl (CI mask) (some (owner,n))=some (a,n+b.length)/\a.size=mask+1/\(a.toList.filterMap id).Perm (Cc (n+b.length))
 | [],owner,n,h1,h2,_=>⟨owner,rfl,h1,h2⟩
 | h::b,owner,n,h1,h2,h3=>by
  rw[Bl] at h3
  have len:(owner.toList.filterMap id).length=n:=by rw[h2.length_eq,Cq]
  obtain ⟨e,k⟩:=yS (L:=owner.toList) (by rw[len,Am]; omega)
  have f:e<mask+1:=by
   have:=(Ax.mp k).1
   rw[Am] at this
   omega
  obtain ⟨t,z,w⟩:=oF g (i:=Di h % (mask+1)) (p:=Di h) (e:=e) (Wa _ g.1) (uK h) f
  have o:(owner.getD (lp (mask+1) t (Di h % (mask+1)) (Di h)).1 (some 0)).isNone=true:=by
   rw[w,Da,<- Fs,k]
   rfl
  obtain ⟨j,x,c⟩:=iA (mask:=mask) (owner:=owner) (Hv mask) _ _ t (by unfold Hv; omega) o
  have d:owner.toList[j]? = some none:=by
   rw[Da,<- Fs] at c
   cases q:owner.toList[j]? with
   | none=>rw[q] at c; simp at c
   | some v =>
    rw[q] at c
    cases v with
    | none=>rfl
    | some v=>simp at c
  have u:CI mask (some (owner,n)) h=some (owner.setIfInBounds j (some n),n+1):=by
   show (do
    let j <- Lc mask owner (Hv mask) (Di h % (mask+1)) (Di h)
    pure (owner.setIfInBounds j (some n),n+1))=_
   rw[x]
   rfl
  rw[List.foldl_cons,u]
  have s:((owner.setIfInBounds j (some n)).toList.filterMap id).Perm (Cc (n+1)):=by
   rw[jH]
   refine (Wx d).trans ?_
   rw[List.range_succ]
   exact (Jd n h2).trans (El (l₁:=[n]) (l₂:=Cc n))
  obtain ⟨y,l,r,m⟩:=qN g b (owner.setIfInBounds j (some n)) (n+1) (by rw[Ry]; exact h1) s (by omega)
  refine ⟨y,?_,r,?_⟩
  ·rw[l,Bl]
   congr 2
   omega
  ·rw[Bl,show n+(b.length+1)=n+1+b.length by omega]
   exact m
theorem oJ{mask:Nat}(g:Pl (mask+1))(a:Array Int)(hl:a.size<=mask):∃owner:Array (Option Nat),Qt mask a=some owner/\owner.size=mask+1/\(owner.toList.filterMap id).Perm (Cc a.size):=by
 have e:((Array.replicate (mask+1) (none:Option Nat)).toList.filterMap id).Perm (Cc 0):=by
  rw[Array.toList_replicate]
  simp
 obtain ⟨o,b,d,c⟩:=qN g a.toList (Array.replicate (mask+1) none) 0 (by simp) e (by simpa using hl)
 rw[Am,Nt] at b c
 refine ⟨o,?_,d,c⟩
 unfold Qt
 rw[<- Array.foldl_toList]
 show (a.toList.foldl (CI mask) (some (Array.replicate (mask+1) none,0))).map (·.1)=some o
 rw[b]
 rfl
theorem sI(owner:Array (Option Nat)):((Cc owner.size).filterMap λj=>(owner.getD j none).map λx=>(j,x)).map (·.2)=owner.toList.filterMap id:=by
 obtain ⟨L⟩:=owner
 simp only[Au]
 have h:∀(L:List (Option Nat)) (c:List (Option Nat)),((List.range' c.length L.length).filterMap λj=>(((c++L)[j]?).getD none).map λx=>(j,x)).map (·.2)=L.filterMap id:=by
  intro L
  induction L with
  | nil=>intro c; rfl
  | cons a L f =>
   intro c
   rw[Bl,List.range'_succ,Lv]
   have e:((c++a::L)[c.length]?).getD none=a:=by simp
   have d:=f (c++[a])
   rw[Bm,Kt,Bw,List.singleton_append] at d
   cases a with
   | none =>
    simp only[e,Option.map_none,List.filterMap_cons_none,id]
    exact d
   | some b =>
    simp only[e,Option.map_some,Ap,List.filterMap_cons_some,id]
    rw[d]
    simp
 have:=h L []
 rw[Kj,<- List.range_eq_range',List.nil_append] at this
 rw[<- this]
 congr 1
 congr 1
 funext j
 rw[Da]
 simp
theorem O4{mask finger moves:Nat}{led plain:Bool}(g:Pl (mask+1))(a:Array Int)(hl:a.size<=mask):∃(t:Cn) (order:Array Nat),Jv mask finger moves led plain a=some (t,order)/\order.toList.Perm (Cc a.size)/\t.fits a.size=true/\t.led=led:=by
 obtain ⟨o,d,c,b⟩:=oJ g a hl
 have e:Jv mask finger moves led plain a=some ({ mask:=mask,place:=(((Cc (mask+1)).filterMap λj=>(o.getD j none).map λx=>(j,x)).map (·.1)).toArray,dummies:=#[],finger:=finger,led:=led,moves:=moves,plain:=plain },
   (((Cc (mask+1)).filterMap λj=>(o.getD j none).map λx=>(j,x)).map (·.2)).toArray):=by
  unfold Jv
  rw[d]
  rfl
 have lo:=sI o
 rw[c] at lo
 have len:((Cc (mask+1)).filterMap λj=>(o.getD j none).map λx=>(j,x)).length=a.size:=by
  have:=congrArg Ja lo
  rw[Ad,b.length_eq,Cq] at this
  exact this
 refine ⟨_,_,e,by rw[List.toList_toArray,lo]; exact b,?_,rfl⟩
 simp only[SetTable.fits,Qx,Au,Ad,len,Ec,beq_self_eq_true,true_and,decide_eq_true_eq]
 show a.size+0<=mask
 omega
theorem rZ{a:Type}(es:Array a){order:Array Nat}(p:order.toList.Perm (Cc es.size)):(order.filterMap (es[·]?)).toList.Perm es.toList/\(order.filterMap (es[·]?)).size=es.size:=by
 have e:(order.filterMap (es[·]?)).toList.Perm es.toList:=by
  rw[Array.toList_filterMap]
  have:=p.filterMap (es[·]?)
  rw[filterMap_getElem?_range] at this
  exact this
 exact ⟨e,by rw[<- Am,e.length_eq,Am]⟩
theorem Ur{n:Nat}(h:n<256):∃m,Dv n=m+1/\Pl (m+1)/\n<=m:=by
 have a:∀k:Fin 256,(Dv k.1 == 8 && decide (k.1<8)) || (Dv k.1 == 16 && decide (k.1<16)) || (Dv k.1 == 32 && decide (k.1<32)) || (Dv k.1 == 64 && decide (k.1<64)) || (Dv k.1 == 128 && decide (k.1<128)) || (Dv k.1 == 256 && decide (k.1<256))=true:=by decide +kernel
 have q:=a ⟨n,h⟩
 simp only[Bool.or_eq_true,Ec,beq_iff_eq,decide_eq_true_eq] at q
 rcases q with ((((q | q) | q) | q) | q) | q
 ·exact ⟨7,q.1,Z5,by omega⟩
 ·exact ⟨15,q.1,EC,by omega⟩
 ·exact ⟨31,q.1,DR,by omega⟩
 ·exact ⟨63,q.1,DK,by omega⟩
 ·exact ⟨127,q.1,T1,by omega⟩
 ·exact ⟨255,q.1,S8,by omega⟩
abbrev lH(p:Array Nat):Prop:=p.toList.Pairwise (· < ·)
theorem Vf{p:Array Nat}(r:lH p){i j:Nat}(h:i<j)(a:j<p.size):p[i]'(by omega)<p[j]:=by
 have:=Lp.mp r i j (by rw[Am]; omega) (by rw[Am]; exact a) h
 simpa using this
structure Below(p:Array Nat)(j b:Nat):Prop where
 le:b<=p.size
 lo:∀i (h:i<p.size),i<b->p[i]<j
 hi:∀i (h:i<p.size),b<=i->j<=p[i]
theorem eS{p:Array Nat}{j:Nat}(r:lH p):∀(fuel lo a:Nat),a<=p.size->lo<=a->a - lo<=fuel->(∀i (h:i<p.size),i<lo->p[i]<j)->(∀i (h:i<p.size),a<=i->j<=p[i])->Below p j (Va p j fuel lo a)
 | 0,lo,a,h1,h2,h3,h4,h5=>by
  unfold Va
  have e:lo=a:=by omega
  exact ⟨by omega,λi h b=>h4 i h b,λi h b=>h5 i h (by omega)⟩
 | fuel+1,lo,a,h1,h2,h3,h4,h5=>by
  unfold Va
  split
  ·rename_i b
   have f:(lo+a) / 2<p.size:=by omega
   have e:p.getD ((lo+a) / 2) j=p[(lo+a) / 2]:=by simp [Array.getD,f]
   dsimp only
   rw[e]
   split
   ·rename_i d
    refine eS r fuel _ a h1 (by omega) (by omega) (λi h c=>?_) h5
    by_cases z:i=(lo+a) / 2
    ·subst z; exact d
    ·exact Wb (Vf r (show i<(lo+a) / 2 by omega) f) d
   ·rename_i d
    refine eS r fuel lo _ (by omega) (by omega) (by omega) h4 (λi h c=>?_)
    by_cases z:i=(lo+a) / 2
    ·subst z; omega
    ·exact Cb (by omega) (Kf (Vf r (show (lo+a) / 2<i by omega) h))
  ·exact ⟨by omega,λi h b=>h4 i h b,λi h b=>h5 i h (by omega)⟩
theorem Yx{p:Array Nat}(r:lH p)(j:Nat):Below p j (Cp p j) :=
 eS r _ _ _ (Aj _) (Do _) (by omega) (λi h a=>absurd a (Kl _)) (λi h a=>absurd a (by omega))
theorem Below.eq{p:Array Nat}{j b a:Nat}(x:Below p j b)(y:Below p j a):b=a:=by
 rcases Nat.lt_trichotomy b a with z | z | z
 ·have h:b<p.size:=Cj z y.le
  exact absurd (y.lo b h z) (Nat.not_lt.mpr (x.hi b h (Aj _)))
 ·exact z
 ·have h:a<p.size:=Cj z x.le
  exact absurd (x.lo a h z) (Nat.not_lt.mpr (y.hi a h (Aj _)))
theorem pS{p:Array Nat}(r:lH p):Cp p 0=0 :=
 (Yx r 0).eq ⟨Do _,λi h a=>absurd a (Kl _),λi h _=>Do _⟩
theorem rA{p:Array Nat}(r:lH p){i:Nat}(h:i<p.size):Cp p (p[i]+1)=i+1 :=
 (Yx r _).eq ⟨h,λk a b=>by
  by_cases z:k=i
  ·subst z; exact fS _
  ·exact Ho (Vf r (show k<i by omega) h),λk a b=>Vf r (show i<k by omega) a⟩
structure TabOk(n:Nat)(t:Cn):Prop where
 good:Pl (t.mask+1)
 dum:t.dummies=#[]
 plain:t.plain=true
 rise:lH t.place
 top:∀j∈t.place.toList,j<=t.mask
 size:t.place.size=n
structure Tab(n:Nat)(t:Cn):Prop extends TabOk n t where
 room:n * 5<t.mask * 3
theorem jV{t:Cn}{n:Nat}(x:Tab n t):n+1<=t.mask:=by have:=x.room; omega
theorem TabOk.fits{t:Cn}{n:Nat}(x:TabOk n t)(h:n<=t.mask):t.fits n=true:=by
 simp only[SetTable.fits,Qx,x.dum,x.size,Ec,beq_self_eq_true,true_and,decide_eq_true_eq]
 show n+0<=t.mask
 omega
theorem Tab.fits{t:Cn}{n:Nat}(x:Tab n t):t.fits n=true:=x.toTabOk.fits (by have:=jV x; omega)
theorem Xd{t:Cn}{n j:Nat}(x:TabOk n t):t.slot j=.empty↔j∉t.place.toList:=by
 have nd:SetTable.has t.dummies j=false:=by rw[x.dum]; rfl
 unfold SetTable.slot
 dsimp only
 rw[nd]
 constructor
 ·intro h l
  obtain ⟨i,c,e⟩:=Gg.mp l
  rw[Am] at c
  have a:t.place[i]=j:=by simpa using e
  have b:Cp t.place j=i:=(Yx x.rise j).eq ⟨Kf c,λk d f=>by rw[<- a]; exact Vf x.rise f c,λk d f=>by
   by_cases z:i=k
   ·subst z; exact Nat.le_of_eq a.symm
   ·rw[<- a]; exact Kf (Vf x.rise (show i<k by omega) d)⟩
  rw[b,Iq c,a,if_pos (by simp)] at h
  cases h
 ·intro h
  rw[if_neg (λz=>h ?_)]
  ·rfl
  ·have g:t.place[Cp t.place j]? = some j:=by simpa using z
   have:=Array.mem_of_getElem? g
   exact Array.mem_def.mp this
theorem fI{t:Cn}{n j:Nat}(x:TabOk n t):t.slot j≠.dummy:=by
 have nd:SetTable.has t.dummies j=false:=by rw[x.dum]; rfl
 unfold SetTable.slot
 dsimp only
 rw[nd]
 split
 ·intro h; cases h
 ·intro h; cases h
theorem gW{mask i:Nat}(h:i<=mask):Ik mask i<=mask:=by unfold Ik; split <;> omega
theorem Vi(mask i:Nat):Ik mask i - i<=9:=by unfold Ik; split <;> omega
theorem U7(mask i p:Nat):SetTable.leap mask i p=((i * 5+1+p / 32) % (mask+1),p / 32):=rfl
theorem eU{t:Cn}{n:Nat}{h:Int}(x:TabOk n t):∀(fuel u:Nat) (p:SetTable.Probe),p.more<=9->p.j+p.more<=t.mask->p.dummy=none->p.more+2+10 * u<=fuel->t.slot (lp (t.mask+1) (u+1) p.i p.perturb).1=.empty->∃j,Ot t (λ_=>h+1) h fuel p=some (.empty j none)/\t.slot j=.empty/\j<=t.mask
 | 0,u,p,_,_,_,h3,_=>absurd h3 (by omega)
 | fuel+1,u,p,h1,h2,hd,h3,h4=>by
  unfold Ot
  split
  ·rename_i b
   exact ⟨p.j,by rw[hd],b,by omega⟩
  ·rename_i b
   exact absurd b (fI x)
  ·rw[if_neg (by simp; omega)]
   unfold SetTable.advance
   split
   ·rename_i d
    exact eU x fuel u _ (by dsimp only; omega) (by dsimp only; omega) hd (by dsimp only; omega) h4
   ·rename_i d
    rw[U7]
    dsimp only
    have c:(p.i * 5+1+p.perturb / 32) % (t.mask+1)<=t.mask:=jE.mp (Wa _ (cK _))
    cases u with
    | zero =>
     cases fuel with
     | zero=>omega
     | succ fuel =>
      unfold Ot
      dsimp only
      have a:t.slot ((p.i * 5+1+p.perturb / 32) % (t.mask+1))=.empty:=h4
      rw[a]
      exact ⟨_,by rw[hd],a,c⟩
    | succ u =>
     refine eU x fuel u _ (Vi _ _) ?_ hd ?_ h4
     ·dsimp only
      have:=gW c
      have:=Zp t.mask ((p.i * 5+1+p.perturb / 32) % (t.mask+1))
      omega
     ·dsimp only
      have:=Vi t.mask ((p.i * 5+1+p.perturb / 32) % (t.mask+1))
      omega
theorem j4:∀{l1 l2:List Nat},l1.Nodup->(∀e∈l1,e∈l2)->l1.length<=l2.length
 | [],_,_,_=>Do _
 | a::l1,l2,nd,h=>by
  have b:=Cm.mp nd
  have c:=h a (Ab ..)
  have:=j4 (l2:=l2.erase a) b.2 λe d=>(List.mem_erase_of_ne (show e≠a from λz=>b.1 (by rw[<- z]; exact d))).mpr (h e (Ac _ d))
  rw[qS c] at this
  have p:0<l2.length:=tS c
  rw[Bl]
  omega
theorem M7{m:Nat}{l:List Nat}(nd:l.Pairwise (· < ·))(h:l.length<m):∃e,e<m/\e∉l:=by
 refine Qc λz=>?_
 have all:∀e,e∈Cc m->e∈l:=λe a=>Qc λq=>z ⟨e,Fw.mp a,q⟩
 have:=j4 List.nodup_range all
 rw[Cq] at this
 omega
theorem qQ{t:Cn}{n:Nat}(x:Tab n t)(h:Int):∃j,t.freeSlot h=some (j,false)/\j∉t.place.toList/\j<=t.mask:=by
 have v:=jV x
 obtain ⟨e,l,c⟩:=M7 (m:=t.mask+1) x.rise (by rw[Am,x.size]; omega)
 obtain ⟨u,w,g⟩:=oF x.good (i:=Di h % (t.mask+1)) (p:=Di h) (e:=e) (Wa _ (cK _)) (uK h) l
 have d:Di h % (t.mask+1)<=t.mask:=jE.mp (Wa _ (cK _))
 have b:∃j,t.probe (λ_=>h+1) h (t.probeStart h)=some (.empty j none)/\t.slot j=.empty/\j<=t.mask:=by
  unfold SetTable.probe
  cases u with
  | zero =>
   have q:t.slot (Di h % (t.mask+1))=.empty:=(Xd x.toTabOk).mpr (by rw[show Di h % (t.mask+1)=e from g]; exact c)
   obtain ⟨f,o⟩ : ∃f,10 * Hv t.mask=f+1:=⟨10 * Hv t.mask - 1,by unfold Hv; omega⟩
   rw[o]
   unfold Ot
   have a:t.slot (t.probeStart h).j=.empty:=q
   rw[a]
   exact ⟨_,rfl,a,d⟩
  | succ u =>
   refine eU x.toTabOk _ u (t.probeStart h) (Vi _ _) ?_ rfl ?_ ?_
   ·have:=gW d
    have:=Zp t.mask (Di h % (t.mask+1))
    show Di h % (t.mask+1)+(Ik t.mask (Di h % (t.mask+1)) - Di h % (t.mask+1))<=t.mask
    omega
   ·have:=Vi t.mask (Di h % (t.mask+1))
    show Ik t.mask (Di h % (t.mask+1)) - Di h % (t.mask+1)+2+10 * u<=10 * Hv t.mask
    unfold Hv
    omega
   ·exact (Xd x.toTabOk).mpr (by rw[show (lp (t.mask+1) (u+1) (t.probeStart h).i (t.probeStart h).perturb).1=e from g]; exact c)
 obtain ⟨j,r,k,s⟩:=b
 refine ⟨j,?_,(Xd x.toTabOk).mp k,s⟩
 unfold SetTable.freeSlot
 rw[r]
 rfl
theorem pE{p:Array Nat}(r:lH p){j:Nat}(h:j∉p.toList):lH (Hd p (Cp p j) j):=by
  have b:=Yx r j
  show (Hd p (Cp p j) j).toList.Pairwise (· < ·)
  rw[SetTable.toList_insertAt]
  have m:(p.toList.take (Cp p j)).Pairwise (· < ·):=r.sublist (Hl _ _)
  have n:(p.toList.drop (Cp p j)).Pairwise (· < ·):=r.sublist (Jc _ _)
  have lo:∀e∈p.toList.take (Cp p j),e<j:=λe k=>by
    obtain ⟨i,d,l⟩:=List.mem_take_iff_getElem.mp k
    rw[Am] at d
    have:=b.lo i (by omega) (by omega)
    rw[<- l]
    simpa using this
  have d:∀e∈p.toList.drop (Cp p j),j<e:=λe k=>by
    have o:e∈p.toList:=List.mem_of_mem_drop k
    obtain ⟨i,d,l⟩:=List.mem_drop_iff_getElem.mp k
    rw[Am] at d
    have:=b.hi (i+Cp p j) (by omega) (by omega)
    have q:j<=e:=by
      rw[<- l]
      simpa [Nat.add_comm] using this
    exact Nat.lt_of_le_of_ne q λz=>h (by rw[z]; exact o)
  simp only[List.pairwise_append,List.pairwise_cons,Ak,Bc]
  first
    | exact ⟨m,⟨d,n⟩,λa g c f=>by
        rcases f with z | z
        · rw[z]; exact lo a g
        · exact Wb (lo a g) (d c z)⟩
    | (refine ⟨⟨m,⟨by simp,Ei⟩,λa g c f=>?_⟩,n,λa g c f=>?_⟩
       · have z:c=j:=by simpa using f
         rw[z]; exact lo a g
       · rcases g with z | z | z
         · exact Wb (lo a z) (d c f)
         · rw[z]; exact d c f
         · cases z)
theorem DH{t:Cn}{es:Array (Int×Value)}(x:Tab es.size t)(h:Int)(v:Value):∃(a:Array (Int×Value)) (c:Cn),layNew t es h v=(a,c,false,false)/\a.toList.Perm (es.toList++[(h,v)])/\a.size=es.size+1/\TabOk a.size c/\c.mask=t.mask/\c.led=t.led:=by
 obtain ⟨j,k,g,l⟩:=qQ x h
 have m:=jV x
 have perm:=mH es (Cp t.place j) (h,v)
 rw[Iz] at perm
 have size:(Hd es (Cp t.place j) (h,v)).size=es.size+1:=by
  rw[<- Am,perm.length_eq,Bm,Am]
  rfl
 have d:=mH t.place (Cp t.place j) j
 rw[Iz] at d
 have b:(Hd t.place (Cp t.place j) j).size=es.size+1:=by
  rw[<- Am,d.length_eq,Bm,Am,x.size]
  rfl
 have nd:SetTable.has t.dummies j=false:=by rw[x.dum]; rfl
 have ok:TabOk (es.size+1) { t with place:=Hd t.place (Cp t.place j) j } :=
  ⟨x.good,x.dum,x.plain,pE x.rise g,λe i=>by
   rcases Bc.mp (d.mem_iff.mp i) with z | z
   ·exact x.top e z
   ·rw[Al.mp z]; exact l,b⟩
 refine ⟨_,{ t with place:=Hd t.place (Cp t.place j) j },?_,perm,size,by rw[size]; exact ok,rfl,rfl⟩
 have f:({ t with place:=Hd t.place (Cp t.place j) j }:Cn).fits (Hd es (Cp t.place j) (h,v)).size=true:=by
  rw[size]
  exact ok.fits (by omega)
 unfold layNew
 rw[k]
 simp only[SetTable.put,nd,Bz,if_false,SetTable.orStandIn,f,if_true,Tb]
theorem zJ{mask finger moves:Nat}{led plain:Bool}{r:Array Int}{t:Cn}{order:Array Nat}(h:Jv mask finger moves led plain r=some (t,order)):lH t.place/\(∀j∈t.place.toList,j<=mask):=by
 unfold Jv at h
 cases n:Qt mask r with
 | none=>rw[n] at h; cases h
 | some b =>
  rw[n] at h
  cases h
  have sub:∀(l:List Nat),l.Pairwise (· < ·)->(((l.filterMap λj=>(b.getD j none).map λx=>(j,x)).map (·.1)).Pairwise (· < ·))/\∀j∈((l.filterMap λj=>(b.getD j none).map λx=>(j,x)).map (·.1)),j∈l:=by
   intro l n
   have m:∀j∈((l.filterMap λj=>(b.getD j none).map λx=>(j,x)).map (·.1)),j∈l:=λj f=>by
    obtain ⟨q,o,rfl⟩:=Dd.mp f
    obtain ⟨k,p,c⟩:=aS.mp o
    cases i:b.getD k none with
    | none=>rw[i] at c; cases c
    | some v=>rw[i] at c; cases c; exact p
   refine ⟨?_,m⟩
   clear m
   induction l with
   | nil=>exact Ei
   | cons a l w =>
    have g:=Bd.mp n
    have d:=w g.2
    rw[Lv]
    cases i:b.getD a none with
    | none=>simpa [i] using d
    | some v =>
     simp only[Option.map_some,Ap,List.pairwise_cons]
     refine ⟨λj f=>?_,d⟩
     obtain ⟨q,o,rfl⟩:=Dd.mp f
     obtain ⟨k,p,c⟩:=aS.mp o
     cases e:b.getD k none with
     | none=>rw[e] at c; cases c
     | some y=>rw[e] at c; cases c; exact g.1 k p
  obtain ⟨u,s⟩:=sub (Cc (mask+1)) List.pairwise_lt_range
  exact ⟨u,λj f=>jE.mp (Fw.mp (s j f))⟩
theorem nU{mask finger moves:Nat}{led:Bool}(g:Pl (mask+1))(a:Array Int)(hl:a.size * 5<mask * 3):∃(t:Cn) (order:Array Nat),Jv mask finger moves led true a=some (t,order)/\order.toList.Perm (Cc a.size)/\Tab a.size t/\t.led=led:=by
 obtain ⟨t,order,c,d,j,l⟩:=O4 (finger:=finger) (moves:=moves) (led:=led) (plain:=true) g a (by omega)
 obtain ⟨k,b,i,h⟩:=qG c
 obtain ⟨e,f⟩:=zJ c
 have sz:t.place.size=a.size:=by
  have:=j
  simp only[SetTable.fits,Ec,beq_iff_eq] at this
  exact this.1
 exact ⟨t,order,c,d,⟨⟨by rw[b]; exact g,h,i,e,by rw[b]; exact f,sz⟩,by rw[b]; exact hl⟩,k⟩
theorem pN{t:Cn}{es:Array (Int×Value)}{wanted:Nat}(h:t.plain=true)(hw:wanted<256)(i:es.size * 2<=wanted):∃(t':Cn) (order:Array Nat),t.relaid (es.map (·.1)) wanted=some (t',order)/\order.toList.Perm (Cc es.size)/\Tab es.size t'/\t'.led=t.led:=by
 obtain ⟨m,e,g,j⟩:=Ur hw
 have sz:(es.map (·.1)).size=es.size:=Wo ..
 have l:7<=m:=by
  have : 8<=Dv wanted:=by
   have a:∀k:Fin 256,decide (8<=Dv k.1)=true:=by decide +kernel
   exact of_decide_eq_true (a ⟨wanted,hw⟩)
  omega
 obtain ⟨t',order,d,c,b,f⟩:=nU (mask:=m) (finger:=t.finger) (moves:=t.movedTo m) (led:=t.led) g (es.map (·.1)) (by rw[sz]; omega)
 rw[sz] at c b
 refine ⟨t',order,?_,c,b,f⟩
 unfold SetTable.relaid
 rw[e,Nat.add_sub_cancel,h]
 exact d
theorem mZ{t:Cn}{es:Array (Int×Value)}(j:t.plain=true)(l:es.size<64):∃(a:Array (Int×Value)) (t':Cn),relayAll t es (SetTable.grown es.size)=(a,t',false)/\a.toList.Perm es.toList/\a.size=es.size/\Tab a.size t'/\t'.led=t.led:=by
 have k:SetTable.grown es.size=es.size * 4:=by unfold SetTable.grown; rw[if_neg (by omega)]
 obtain ⟨t',order,g,e,d,i⟩:=pN (t:=t) (es:=es) (wanted:=es.size * 4) j (by omega) (by omega)
 obtain ⟨h,b⟩:=rZ es e
 refine ⟨order.filterMap (es[·]?),t',?_,h,b,by rw[b]; exact d,i⟩
 unfold relayAll
 rw[k,g]
 dsimp only
 have c:coversAll order es.size=true:=by
  unfold coversAll
  exact List.isPerm_iff.mpr e
 have f:t'.fits (order.filterMap (es[·]?)).size=true:=by rw[b]; exact d.fits
 rw[c,f]
 rfl
abbrev bt(w:World):Bool:=w.params.followText "set-order"
def Nz:Int×Value->Int
 | (_,.int k _)=>k
 | _=>0
def Xu(e:Int×Value):Prop:=∃k a,e=(hashInt k,Oc k a)
abbrev keys(es:Array (Int×Value)):List Int:=es.toList.map Nz
abbrev Le(es:Array (Int×Value))(ep:Nat)(t:Cn):Obj:={ cls:=.type "set",dict:=none,data:=.set es ep t }
structure SetS(w:World)(h:Heap)(a:Addr)(es:Array (Int×Value))(ep:Nat)(t:Cn):Prop where
 obj:h.get? a=some (Le es ep t)
 ent:∀e∈es.toList,Xu e
 nd:(keys es).Nodup
 tab:Tab es.size t
 led:bt w=false->t.led=true
 few:es.size<64
theorem SetS.keep{w:World}{h h':Heap}{a:Addr}{es:Array (Int×Value)}{ep:Nat}{t:Cn}(S:SetS w h a es ep t)(k:∀o,h.get? a=some o->h'.get? a=some o):SetS w h' a es ep t :=
 ⟨k _ S.obj,S.ent,S.nd,S.tab,S.led,S.few⟩
def ins(k:Int)(l:List Int):List Int:=if k∈l then l else k::l
theorem Y0{prog:Bk}{w:World}{h:Heap}{a:Addr}{es:Array (Int×Value)}{ep:Nat}{t:Cn}(S:SetS w h a es ep t):ElemsOf (Xk prog w) es.toList:=λe b=>by
 obtain ⟨k,c,rfl⟩:=S.ent e b
 exact ⟨⟨k,intKind_is _ _ _ _,rfl⟩,rfl⟩
theorem A6{prog:Bk}{w:World}{e:Int×Value}(h:Xu e)(k:Int):(Xk prog w).is k e.2=true↔Nz e=k:=by
 obtain ⟨a,b,rfl⟩:=h
 show Value.isInt k (.int a b)=true↔a=k
 simp [Value.isInt]
 try exact eq_comm
theorem small{n:Nat}(h:n<64):n<=Ay:=by rw[Gn]; omega
theorem vV{es:Array (Int×Value)}{ep:Nat}{t:Cn}(a:Array (Int×Value))(t':Cn):Obj.putSet a t' (Le es ep t)=Le a (ep+1) t':=putSet_of a t' rfl
theorem cH{h:Heap}{a:Addr}{es:Array (Int×Value)}{ep:Nat}{t:Cn}(c:h.get? a=some (Le es ep t))(b:Array (Int×Value))(t':Cn):(h.update a (Obj.putSet b t')).get? a=some (Le b (ep+1) t'):=by
 have:=Fd (Obj.putSet b t') c (by rw[vV]; rfl)
 rw[vV] at this
 exact this
section
variable{prog:Bk}{w:World}{A:Ci}{E:Value->Ah->Prop}{s:Ah}
theorem Hh{a:Addr}{es:Array (Int×Value)}{ep:Nat}{t:Cn}{Q:(Array (Int×Value)×Nat×Cn)->Ah->Prop}(S:SetS w s.heap a es ep t)(h:Q (es,ep,t) s):wpAny (model prog w) A (setState a) Q E s :=
 wpAny_setState_of S.obj rfl S.tab.fits h
theorem aA{a:Addr}{es b:Array (Int×Value)}{ep:Nat}{t t':Cn}{Q:Unit->Ah->Prop}(S:SetS w s.heap a es ep t)(f:∀e∈b.toList,Xu e)(nd:(keys b).Nodup)(d:Tab b.size t')(led:bt w=false->t'.led=true)(c:b.size<64)(h:∀h',Cu a s.heap h'->SetS w h' a b (ep+1) t'->Q () { s with heap:=h' }):wpAny (model prog w) A (storeSet a b t') Q E s :=
 Ux S.obj rfl (h _ (Bo ..) ⟨cH S.obj b t',f,nd,d,led,c⟩) (small c)
theorem iN{es:Array (Int×Value)}{k:Int}(c:∀e∈es.toList,Xu e):es.toList.findIdx? (λe=>(Xk prog w).is k e.2)=none↔k∉keys es:=by
 rw[List.findIdx?_eq_none_iff]
 constructor
 ·intro h b
  obtain ⟨e,a,rfl⟩:=Dd.mp b
  have:=h e a
  rw[(A6 (c e a) _).mpr rfl] at this
  cases this
 ·intro h e b
  cases q:(Xk prog w).is k e.2 with
  | false=>rfl
  | true=>exact absurd (Dd.mpr ⟨e,b,(A6 (c e b) k).mp q⟩) h
theorem C1{a:Addr}{es:Array (Int×Value)}{ep:Nat}{t:Cn}{k:Int}{p:Tok}{Q:Bool->Ah->Prop}(S:SetS w s.heap a es ep t)(R:es.size<63)(h:∀b y H t' h',Cu a s.heap h'->SetS w h' a y H t'->(keys y).Perm (ins k (keys es))->Q b { s with heap:=h' }):wpAny (model prog w) A (setAddHashed a (.int k p) (hashInt k)) Q E s:=by
 unfold setAddHashed setAddHashedIn
 refine Ct (Aa (Hh S ?_))
 dsimp only
 rw[byScan_of (knd:=Xk prog w) (x:=.int k p) rfl (Wb S.few (by decide)) (Y0 S),if_pos rfl]
 unfold setAddByScan
 refine Aa (Aa (Jr (Aa ?_)))
 refine wpAny_setScan_of (knd:=Xk prog w) (k:=k) (intKind_is _ _ _ _) S.obj rfl S.tab.fits (Y0 S) ?_
 cases G:es.toList.findIdx? (λe=>(Xk prog w).is k e.2) with
 | some j =>
  dsimp only
  have o:k∈keys es:=Qc λz=>by
   rw[(iN (prog:=prog) (w:=w) S.ent).mpr z] at G
   cases G
  refine Ae (Ae ?_)
  have:=h false es ep t s.heap (Pf a s.heap) S (by unfold ins; rw[if_pos o])
  exact this
 | none =>
  dsimp only
  have o:k∉keys es:=(iN (prog:=prog) (w:=w) S.ent).mp G
  obtain ⟨c,i,P,M,T,f,U,K⟩:=DH S.tab (hashInt k) (.int k p)
  rw[P]
  dsimp only
  have l:∀e∈c.toList,Xu e:=λe F=>by
   rcases Bc.mp (M.mem_iff.mp F) with z | z
   ·exact S.ent e z
   ·rw[Al.mp z]; exact ⟨k,p,rfl⟩
  have n:(keys c).Perm (k::keys es):=by
   have:=M.map Nz
   rw[Bn] at this
   exact this.trans El
  have D:(keys c).Nodup:=n.nodup_iff.mpr (Cm.mpr ⟨o,S.nd⟩)
  have d:c.size<64:=by omega
  have B:bt w=false->i.led=true:=λz=>by rw[K]; exact S.led z
  refine Aa (m:=(pure ():Sem Unit)) (Ae ?_)
  rw[f.plain,if_pos rfl]
  refine Aa (m:=hashByValue 8 (.int k p)) (Ae ?_)
  simp only[if_true]
  by_cases C:i.tooFull=true
  ·obtain ⟨g,I,O,L,V,q,N⟩:=mZ (es:=c) f.plain d
   have u:∀e∈g.toList,Xu e:=λe F=>l e (L.mem_iff.mp F)
   have r:(keys g).Perm (k::keys es):=(L.map Nz).trans n
   refine Aa (Ux S.obj rfl ?_ (small d))
   rw[C,if_pos (by decide),O]
   dsimp only
   refine Aa (m:=(pure ():Sem Unit)) (Ae ?_)
   have J:=cH S.obj c i
   refine Aa (Ux J rfl (Ae ?_) (small (by omega)))
   dsimp only
   refine Ae (h true g (ep+1+1) I _ ((Bo s.heap a _).trans (Bo _ a _)) ⟨cH J g I,u,r.nodup_iff.mpr (Cm.mpr ⟨o,S.nd⟩),q,λz=>by rw[N,K]; exact S.led z,by omega⟩ ?_)
   unfold ins
   rw[if_neg o]
   exact r
  ·have v:c.size * 5<i.mask * 3:=by
    have : ¬ (i.fill * 5 ≥ i.mask * 3):=λz=>C (by unfold SetTable.tooFull; exact decide_eq_true z)
    have e:i.fill=c.size:=by
     unfold Qx
     rw[f.dum,f.size]
     rfl
    omega
   refine Aa (Ux S.obj rfl ?_ (small d))
   rw[Bool.not_eq_true] at C
   rw[C]
   simp only[Xi,Bz,if_false]
   refine Ae ?_
   dsimp only
   refine Ae (h true c (ep+1) i _ (Bo s.heap a _) ⟨cH S.obj c i,l,D,⟨f,v⟩,B,d⟩ ?_)
   unfold ins
   rw[if_neg o]
   exact n
end
theorem Nf{b:Type}:∀{l:List b} {i:Nat} (h:i<l.length),(l[i]::l.eraseIdx i).Perm l
 | [],_,h=>absurd h (Kl _)
 | a::l,0,h=>Gh _
 | a::l,i+1,h=>by
  have:=Nf (l:=l) (i:=i) (by simpa using h)
  exact (Ej a _ _).trans (Jd a this)
theorem vG{b:Type}(next:Nat->Nat):∀(fuel k:Nat) (left:List b) (out:Array b),left.length=fuel->(pickOrder.go next fuel k left out).toList.Perm (out.toList++left)
 | 0,k,left,out,h=>by
  unfold pickOrder.go
  have : left=[]:=fT h
  subst this
  simp
 | fuel+1,k,left,out,h=>by
  unfold pickOrder.go
  have a:next k % left.length<left.length:=Wa _ (by omega)
  rw[Bt a]
  dsimp only
  refine (vG next fuel (k+1) _ _ (by rw[List.length_eraseIdx,if_pos a]; omega)).trans ?_
  rw[Iz,Bw]
  exact Jw _ (Nf a)
theorem wV{a:Type}(next:Nat->Nat)(xs:Array a):(Wm next xs).toList.Perm xs.toList:=by
 unfold Wm
 simpa using vG next xs.size 0 xs.toList #[] (by simp)
section
variable{prog:Bk}{w:World}{A:Ci}{E:Value->Ah->Prop}{s:Ah}
theorem Rk{Q:Bool->Ah->Prop}(h:Q (bt w) s):wpAny (model prog w) A setsByText Q E s:=by
 unfold setsByText
 exact Aa (Wl (Ae h))
theorem uW{a:Addr}{es:Array (Int×Value)}{ep:Nat}{t:Cn}{Q:Array (Int×Value)->Ah->Prop}(S:SetS w s.heap a es ep t)(h:Q (if bt w then Wm (w.params.setOrder a ep) es else es) s):wpAny (model prog w) A (setWalk a) Q E s:=by
 unfold setWalk
 refine Aa (Hh S ?_)
 dsimp only
 refine Aa (Rk ?_)
 cases d:bt w with
 | true =>
  rw[d] at h
  rw[if_pos rfl] at h ⊢
  exact Aa (Wl (Ae h))
 | false =>
  have l:=S.led d
  have n:=S.tab.plain
  rw[d] at h
  obtain ⟨k,f,b,c,j,g,plain⟩:=t
  have i:j=true:=l
  have e:plain=true:=n
  subst i e
  exact Aa (m:=(pure ():Sem Unit)) (Ae (Ae h))
theorem iL{a:Addr}{es:Array (Int×Value)}{ep:Nat}:(if bt w then Wm (w.params.setOrder a ep) es else es).toList.Perm es.toList:=by
 cases bt w with
 | true=>exact wV _ _
 | false=>exact Gh _
theorem xN{a:Addr}{d:List Addr}{b:Option Addr}{es:Array (Int×Value)}{ep:Nat}{t:Cn}{Q:Array (Int×Value)->Ah->Prop}(S:SetS w s.heap a es ep t)(h:Q (if bt w then Wm (w.params.setOrder a ep) es else es) s) :
  wpAny (model prog w) A (setWalkUnseen a d b) Q E s:=by
 unfold setWalkUnseen
 refine Aa (Hh S ?_)
 dsimp only
 refine Aa (Rk ?_)
 have c:(bt w || (t.led && t.plain) || decide (es.size<=1))=true:=by
  cases e:bt w with
  | true=>rfl
  | false=>rw[S.led e,S.tab.plain]; rfl
 rw[if_pos c]
 exact uW S h
theorem wX{a:Addr}{es:Array (Int×Value)}{ep:Nat}{t:Cn}{wanted:Nat}{Q:Unit->Ah->Prop}(S:SetS w s.heap a es ep t)(hw:wanted<256)(j:es.size * 2<=wanted)(h:∀c t' h',Cu a s.heap h'->SetS w h' a c (ep+1) t'->(keys c).Perm (keys es)->wanted<=t'.mask->7<=t'.mask->Q () { s with heap:=h' }):wpAny (model prog w) A (setRelay a wanted) Q E s:=by
 obtain ⟨t',order,d,p,l,u⟩:=pN (es:=es) S.tab.plain hw j
 obtain ⟨i,f⟩:=rZ es p
 obtain ⟨m,r,g,x⟩:=Ur hw
 have mk:t'.mask=m:=by
  unfold SetTable.relaid at d
  rw[(qG d).2.1,r]
  rfl
 have q:7<=t'.mask:=by
  have : 8<=Dv wanted:=by
   have b:∀k:Fin 256,decide (8<=Dv k.1)=true:=by decide +kernel
   exact of_decide_eq_true (b ⟨wanted,hw⟩)
  omega
 have sz:Dv wanted<=256:=by
  have b:∀k:Fin 256,decide (Dv k.1<=256)=true:=by decide +kernel
  exact of_decide_eq_true (b ⟨wanted,hw⟩)
 unfold setRelay
 refine Aa (Hh S ?_)
 dsimp only
 rw[if_neg (by rw[Gn]; omega),d]
 refine Aa ?_
 show wpAny (model prog w) A (do
  if (order.filterMap (es[·]?)).size != es.size then unsupported "internal:set-table-lost-an-element"
  pure (order.filterMap (es[·]?),t')) _ _ _
 rw[if_neg (by rw[f]; simp)]
 refine Ae ?_
 dsimp only
 refine aA S (λe n=>S.ent e (i.mem_iff.mp n)) ((i.map Nz).nodup_iff.mpr S.nd) (by rw[f]; exact l) (λz=>by rw[u]; exact S.led z) (by rw[f]; exact S.few) λh' v o=>?_
 exact h _ _ h' v o (i.map Nz) (by omega) q
theorem xX{es a:Array (Int×Value)}(p:(keys a).Perm (keys es)):a.size=es.size:=by
 have:=p.length_eq
 rw[Ad,Ad,Am,Am] at this
 exact this
theorem U0{a:Addr}{es:Array (Int×Value)}{ep more:Nat}{t:Cn}{Q:Unit->Ah->Prop}(S:SetS w s.heap a es ep t)(i:es.size+more<128)(h:∀b d t' h',Cu a s.heap h'->SetS w h' a b d t'->(keys b).Perm (keys es)->(es.size+more) * 5<t'.mask * 3->Q () { s with heap:=h' }):wpAny (model prog w) A (setRoomFor a more) Q E s:=by
 have e:t.fill=es.size:=by
  unfold Qx
  rw[S.tab.dum,S.tab.size]
  rfl
 unfold setRoomFor
 refine Aa (Hh S ?_)
 dsimp only
 unfold SetTable.roomFor
 rw[e,S.tab.size]
 by_cases c:(es.size+more) * 5 ≥ t.mask * 3
 ·rw[if_pos c]
  dsimp only
  refine wX S (by omega) (by omega) λb t' h' g f p j k=>h b _ t' h' g f p ?_
  omega
 ·rw[if_neg c]
  dsimp only
  exact Ae (h es ep t s.heap (Pf _ _) S (Gh _) (by omega))
end
def Among(U:List Int)(l:List Int):Prop:=∀x∈l,x∈U
theorem len_leI:∀{l1 l2:List Int},l1.Nodup->(∀e∈l1,e∈l2)->l1.length<=l2.length
 | [],_,_,_=>Do _
 | a::l1,l2,nd,h=>by
  have b:=Cm.mp nd
  have c:=h a (Ab ..)
  have:=len_leI (l2:=l2.erase a) b.2 λe d=>(List.mem_erase_of_ne (show e≠a from λz=>b.1 (by rw[<- z]; exact d))).mpr (h e (Ac _ d))
  rw[qS c] at this
  have p:0<l2.length:=tS c
  rw[Bl]
  omega
theorem Among.size{U:List Int}{es:Array (Int×Value)}(h:Among U (keys es))(nd:(keys es).Nodup):es.size<=U.length:=by
 have:=len_leI nd h
 rw[Ad,Am] at this
 exact this
theorem uP{x k:Int}{l:List Int}:x∈ins k l↔x=k\/x∈l:=by
 unfold ins
 split
 ·rename_i h
  constructor
  ·exact .inr
  ·rintro (z | z)
   ·rw[z]; exact h
   ·exact z
 ·rw[Ak]
section
variable{prog:Bk}{w:World}{A:Ci}{E:Value->Ah->Prop}
theorem cX{U:List Int}(K:U.length<=62){a o:Addr}(F:a≠o){r:Array (Int×Value)}{c:Nat}{C:Cn}{each:Sem Unit}
  (D:∀(s:Ah) (Q:Unit->Ah->Prop),SetS w s.heap o r c C->Q () s->wpAny (model prog w) A each Q E s) :
  ∀(l:List (Int×Value)) (s:Ah) (es:Array (Int×Value)) (ep:Nat) (t:Cn) (Q:Unit->Ah->Prop),(∀e∈l,Xu e)->Among U (l.map Nz)->Among U (keys es)->SetS w s.heap a es ep t->SetS w s.heap o r c C ->
   (∀g y t' h',Cu a s.heap h'->SetS w h' a g y t'->(∀x,x∈keys g↔x∈keys es\/x∈l.map Nz)->Q () { s with heap:=h' }) ->
   wpAny (model prog w) A (forIn l PUnit.unit λ(x:Int×Value) _=>do
    let _ <- Qf [x.2] (setAddHashed a x.2 x.1)
    each
    if (<- setState o).2.1 != c then unsupported "set.changed-during-merge"
    pure (Et PUnit.unit)) Q E s
 | [],s,es,ep,t,Q,_,_,_,S,_,h=>by
  rw[Qz]
  exact Ae (h es ep t s.heap (Pf _ _) S (by simp))
 | e::l,s,es,ep,t,Q,he,hl,hk,S,So,h=>by
  obtain ⟨k,R,rfl⟩:=he e (Ab ..)
  rw[Pv]
  have T:=hk.size S.nd
  refine Aa (Aa (Ct (C1 S (by omega) λb d v N j i P L=>?_)))
  have f:SetS w j o r c C:=So.keep λV q=>(i.2 o (Lu F)).trans q
  refine Aa (D { s with heap:=j } _ f ?_)
  refine Aa (Hh (s:={ s with heap:=j }) f ?_)
  dsimp only
  rw[if_neg (by simp)]
  refine Ae ?_
  have G:∀x,x∈keys d↔x=k\/x∈keys es:=λx=>by rw[L.mem_iff,uP]
  have p:Among U (keys d):=λx u=>by
   rcases (G x).mp u with z | z
   ·rw[z]; exact hl k (Ab ..)
   ·exact hk x z
  refine cX K F D l { s with heap:=j } d v N Q (λe J=>he e (Ac _ J)) (λx u=>hl x (Ac _ u)) p P f λm B H I n O M=>?_
  refine h m B H I (i.trans n) O λx=>?_
  rw[M,G,Ap,Ak]
  show (x=k\/x∈keys es)\/x∈l.map Nz↔x∈keys es\/x=k\/x∈l.map Nz
  constructor
  ·rintro ((z | z) | z)
   ·exact .inr (.inl z)
   ·exact .inl z
   ·exact .inr (.inr z)
  ·rintro (z | z | z)
   ·exact .inl (.inr z)
   ·exact .inl (.inl z)
   ·exact .inr z
end
section
variable{prog:Bk}{w:World}{A:Ci}{E:Value->Ah->Prop}{s:Ah}
theorem pC{U:List Int}(Z:U.length<=62){a o:Addr}(P:a≠o){es c:Array (Int×Value)}{ep f:Nat}{t j:Cn}{each:Sem Unit}{Q:Unit->Ah->Prop}(hE:∀(s:Ah) (Q:Unit->Ah->Prop),SetS w s.heap o c f j->Q () s->wpAny (model prog w) A each Q E s)(S:SetS w s.heap a es ep t)(J:SetS w s.heap o c f j)(T:Among U (keys es))(W:Among U (keys c))(h:∀u K t' h',Cu a s.heap h'->SetS w h' a u K t'->(∀x,x∈keys u↔x∈keys es\/x∈keys c)->Q () { s with heap:=h' }):wpAny (model prog w) A (setMerge a o each) Q E s:=by
 have n1:=T.size S.nd
 have n2:=W.size J.nd
 unfold setMerge
 rw[if_neg (by simpa using P)]
 refine Aa (Hh J ?_)
 dsimp only
 by_cases em:c.isEmpty=true
 ·rw[if_pos em]
  have : c=#[]:=by simpa using em
  refine Ae (h es ep t s.heap (Pf _ _) S λx=>?_)
  rw[this]
  simp
 rw[if_neg em]
 refine Aa (U0 S (by omega) λL I d y l k N r1=>?_)
 have b:SetS w y o c f j:=J.keep λob q=>(l.2 o (Lu P)).trans q
 refine Aa (Hh (s:={ s with heap:=y }) k ?_)
 dsimp only
 have X:=xX N
 have fl:d.fill=es.size:=by
  unfold Qx
  rw[k.tab.dum,k.tab.size]
  exact X
 have i:d.fill=0->∀x,x∉keys es:=λz x p=>by
  have : es.size=0:=by omega
  have e:es=#[]:=Array.eq_empty_of_size_eq_zero this
  rw[e] at p
  simp at p
 cases m:d.road j with
 | slotForSlot =>
  unfold SetTable.road at m
  split at m
  ·cases m
  ·rename_i O
   have n:d.fill=0:=by simpa using O
   split at m
   ·rename_i Y
    simp only[Ec,beq_iff_eq] at Y
    refine aA k b.ent b.nd (t':={ j with finger:=d.finger,led:=d.led && j.led,moves:=d.moves,plain:=d.plain && j.plain }) ⟨⟨b.tab.good,b.tab.dum,by show (d.plain && j.plain)=true; rw[k.tab.plain,b.tab.plain]; rfl,b.tab.rise,b.tab.top,b.tab.size⟩,b.tab.room⟩
     (λz=>by show (d.led && j.led)=true; rw[k.led z,b.led z]; rfl) b.few λr g v=>?_
    refine h c _ _ r (l.trans g) v λx=>⟨.inr,λz=>z.elim (λq=>absurd q (i n x)) id⟩
   ·cases m
 | clean =>
  have n:d.fill=0:=by
   unfold SetTable.road at m
   split at m
   ·cases m
   ·rename_i O
    simpa using O
  have sz:(c.map (·.1)).size=c.size:=Wo ..
  obtain ⟨G,order,q1,R,V,q4⟩:=nU (mask:=d.mask) (finger:=d.finger) (moves:=d.moves) (led:=d.led && j.led) k.tab.good (c.map (·.1)) (by rw[sz]; omega)
  rw[sz] at R V
  obtain ⟨F,D⟩:=rZ c R
  dsimp only
  have pl:(d.plain && j.plain)=true:=by rw[k.tab.plain,b.tab.plain]; rfl
  rw[pl,q1]
  refine Aa ?_
  show wpAny (model prog w) A (do
   if (order.filterMap (c[·]?)).size != c.size then unsupported "internal:set-table-lost-an-element"
   pure (order.filterMap (c[·]?),G)) _ _ _
  rw[if_neg (by rw[D]; simp)]
  refine Ae ?_
  dsimp only
  refine aA k (λe H=>b.ent e (F.mem_iff.mp H)) ((F.map Nz).nodup_iff.mpr b.nd) (by rw[D]; exact V) (λz=>by rw[q4,k.led z,b.led z]; rfl) (by rw[D]; exact b.few) λr g v=>?_
  refine h _ _ _ r (l.trans g) v λx=>?_
  rw[(F.map Nz).mem_iff]
  exact ⟨.inr,λz=>z.elim (λq=>absurd q (i n x)) id⟩
 | oneByOne =>
  dsimp only
  refine Aa (xN (s:={ s with heap:=y }) b ?_)
  have B:=iL (w:=w) (a:=o) (es:=c) (ep:=f)
  generalize (if bt w then Wm (w.params.setOrder o f) c else c)=arr at B
  rw[<- Zn]
  refine Aa (cX Z P hE arr.toList { s with heap:=y } L I d _ (λe H=>b.ent e (B.mem_iff.mp H)) (λx p=>W x ((B.map Nz).mem_iff.mp p)) (λx p=>T x (N.mem_iff.mp p)) k b λC M G r g v m2=>Ae ?_)
  refine h C M G r (l.trans g) v λx=>?_
  rw[m2,N.mem_iff,(B.map Nz).mem_iff]
end
theorem jP:entryFor table "set.__or__" = some Builtin.«frozenset.__or__» :=
 bM (id' := "frozenset.__or__") (by kernel_rfl) (by first | rfl | decide +kernel) (by decide +kernel) (by kernel_rfl)
theorem Qo:isSubtype (.type "set") (.type "set")=pure true:=by rw[bL]; kernel_rfl
section
variable{prog:Bk}{w:World}{A:Ci}{E:Value->Ah->Prop}{s:Ah}
theorem SetS.ty{a:Addr}{es:Array (Int×Value)}{ep:Nat}{t:Cn}(S:SetS w s.heap a es ep t):s.TypeIs (.ref a) "set" := ⟨_,S.obj,rfl⟩
theorem gX{h:Heap}:SetS w (h.push (Le #[] 0 (.fresh 0 0 (!bt w)))) h.objs.size #[] 0 (.fresh 0 0 (!bt w)) :=
 ⟨Ar _ rfl,(λe b=>by simp at b),Ei,⟨⟨Z5,rfl,rfl,Ei,(λj a=>by simp [SetTable.fresh] at a),rfl⟩,by show 0 * 5<7 * 3; decide⟩,(λz=>by show (!bt w)=true; rw[z]; rfl),by decide⟩
theorem zE{Q:Value->Ah->Prop}(h:Q (.ref s.heap.objs.size) { s with heap:=s.heap.push (Le #[] 0 (.fresh 0 0 (!bt w))) }):wpAny (model prog w) A (newSet (.type "set")) Q E s:=by
 unfold newSet
 refine Aa (Rk ?_)
 dsimp only
 simp only[newObj]
 exact Aa (wpAny_alloc (Ae h))
theorem Zz{a:Addr}{Q:Bool->Ah->Prop}(T:s.TypeIs (.ref a) "set")(h:Q true s):wpAny (model prog w) A (Jp (.ref a)) Q E s:=by
 unfold Jp
 exact Aa (Ip T Qo (Ae h))
theorem P5{a:Addr}{Q:Value->Ah->Prop}(T:s.TypeIs (.ref a) "set")(h:Q (.type "set") s):wpAny (model prog w) A (Xn a) Q E s:=by
 unfold Xn
 exact Aa (Ip T Qo (Ae h))
theorem wC{h h' c:Heap}{a:Addr}(k:∀b o,h.get? b=some o->h'.get? b=some o)(n:h.get? a=none)(d:Cu a h' c):∀b o,h.get? b=some o->c.get? b=some o:=λb o e =>
 (d.2 b (λz=>by rw[z,n] at e; cases e)).trans (k b o e)
theorem R6{U:List Int}(l:U.length<=62){a:Addr}{es:Array (Int×Value)}{ep:Nat}{t:Cn}{Q:Value->Ah->Prop}(S:SetS w s.heap a es ep t)(j:Among U (keys es))(h:∀c d t' h',(∀b o,s.heap.get? b=some o->h'.get? b=some o)->SetS w h' s.heap.objs.size c d t'->(∀x,x∈keys c↔x∈keys es)->Q (.ref s.heap.objs.size) { s with heap:=h' }):wpAny (model prog w) A (Oe a) Q E s:=by
 have lt:=Aw S.obj
 have f:s.heap.objs.size≠a:=Qu lt
 unfold Oe
 refine Aa (P5 S.ty (Aa (zE ?_)))
 refine Aa (m:=Er (.ref s.heap.objs.size)) (Ae ?_)
 refine Aa (pC (s:={ s with heap:=s.heap.push (Le #[] 0 (.fresh 0 0 (!bt w))) }) l f (each:=pure ()) (λn p _ q=>Ae q) gX (S.keep λo q=>Ai _ q) (λx i=>by simp at i) j λc d t' h' k g m=>Ae ?_)
 exact h c d t' h' (wC (λb o e=>Ai _ e) (Xf (Aj _)) k) g λx=>by rw[m]; simp
theorem ID{U:List Int}(y:U.length<=62){a b:Addr}(H:a≠b){v j:Array (Int×Value)}{n e:Nat}{L C:Cn}{Q:Value->Ah->Prop}(k:SetS w s.heap a v n L)(g:SetS w s.heap b j e C)(G:Among U (keys v))(W:Among U (keys j))(h:∀f t t' h',(∀c o,s.heap.get? c=some o->h'.get? c=some o)->SetS w h' s.heap.objs.size f t t'->(∀x,x∈keys f↔x∈keys v\/x∈keys j)->Q (.ref s.heap.objs.size) { s with heap:=h' }):wpAny (model prog w) A (Jn .BitOr (.ref a) (.ref b)) Q E s:=by
 refine wpAny_binaryOp_same (id := "set.__or__") k.ty g.ty PySem.F.fills_set_or PySem.F.slot_set_or (Dj PySem.F.slot_set_or k.ty jP ?_ (PySem.F.args_set_or_2 _ _))
 show wpAny (model prog w) _ (do
  let (self,other) <- Zh "__or__" ⟨[.ref a,.ref b],[]⟩
  let (l,r):=(self,other)
  if !(<- Jp l <&&> Jp r) then rule s!"frozenset.{"__or__"}.declined"; return <- ret .notImplemented
  ret (<- (do
   let result <- Oe (<- Er l)
   if r != .ref (<- Er l) then Qf [result] (Mf s!"frozenset.{"__or__"}" (<- Er result) r)
   return result))) _ _ _
 refine Aa (m:=Zh "__or__" ⟨[.ref a,.ref b],[]⟩) (Jm (a:=(Be a,Be b)) rfl ?_)
 dsimp only
 refine Aa (Aa (Zz k.ty ?_))
 refine Zz g.ty ?_
 simp only[Tb,Bz,if_false]
 refine Aa (Aa (m:=Er (.ref a)) (Ae (Aa (R6 y k G λe1 X Y i B V D=>?_))))
 have R:s.heap.objs.size≠b:=Qu (Aw g.obj)
 have S:s.heap.get? s.heap.objs.size=none:=Xf (Aj _)
 have d:SetS w i b j e C:=g.keep λo q=>B b o q
 refine Aa (m:=Er (.ref a)) (Ae ?_)
 rw[if_pos (show (Be b != Be a)=true by simpa using Lu H)]
 refine Aa (m:=Er (.ref s.heap.objs.size)) (Ae (Aa (Ct ?_)))
 unfold Mf
 refine Aa (Zz (s:={ s with heap:=i }) (w:=w) d.ty ?_)
 rw[if_pos rfl]
 refine Aa (m:=Er (.ref b)) (Ae ?_)
 unfold Builtin.Frozenset.merge setEpoch
 refine Aa (Aa (Hh (s:={ s with heap:=i }) d (Ae ?_)))
 refine pC (s:={ s with heap:=i }) y R (λZ Q' u P=>?_) V d (λx M=>G x ((D x).mp M)) W λI N J K p T O=>?_
 ·unfold Builtin.Frozenset.unchanged setEpoch
  refine Aa (Aa (Hh u (Ae ?_)))
  dsimp only
  rw[if_neg (by simp)]
  exact Ae P
 ·refine Ae (Ae ⟨_,rfl,(λz=>nomatch z),h I N J K (wC B S p) T λx=>by rw[O,D]⟩)
end
end NdS
namespace NdS
open PySem PyProof.Rows
section
variable{prog:Bk}{w:World}{A:Ci}{R:Result->Ah->Prop}
theorem dG{U:List Int}(hU:U.length<=62){a it l:Addr}(u:a≠it)(V:a≠l)(Y:l≠it){c:Array Value}{ns:List Int}(M:Fo c.toList ns)(T:Among U ns)(Z:A.in1.handled=none):∀(k i:Nat) (s:Ah) (es:Array (Int×Value)) (ep:Nat) (t:Cn),c.size - i=k->i<=c.size->s.heap.IsTupleIter it l i->s.heap.IsTuple l c->SetS w s.heap a es ep t->Among U (keys es)->(∀m y t' h' n,(∀b o,b≠a->b≠it->s.heap.get? b=some o->h'.get? b=some o)->SetS w h' a m y t'->(∀x,x∈keys m↔x∈keys es\/x∈ns.drop i)->R (.ok (.ret .none)) { s with heap:=h',toks:=n })->Ha (model prog w) A (.builtin "set.update.loop" ⟨[.ref a,.ref it],[]⟩) R s:=by
 have len:ns.length=c.size:=by rw[<- M.length,Am]
 intro k
 induction k with
 | zero =>
  intro i s es ep t P Q g p S E B
  have e:i=c.size:=by omega
  refine Hz Ta ?_
  rw[Gd Ki _]
  show wpAny _ A.in1 (Jh (.ref it) >>= _) _ _ s
  refine Aa (M5 Z g p (by rw[e]; simp) λh' x=>?_)
  refine Ae (B es ep t h' s.toks (λb o _ q e=>x b o q e) (S.keep λo q=>x a o u q) λx=>?_)
  rw[e,<- len,List.drop_length]
  simp
 | succ k ih =>
  intro i s es ep t P Q g p S E B
  have lt:i<c.size:=by omega
  have lt':i<ns.length:=by omega
  obtain ⟨n,I⟩:=IntsAre.int_at M i c[i] (by simp [lt])
  have eg:ns.getD i 0=ns[i]:=by simp [List.getD,lt']
  rw[eg] at I
  refine Hz Ta ?_
  rw[Gd Ki _]
  show wpAny _ A.in1 (Jh (.ref it) >>= _) _ _ s
  refine Aa (L9 g p (x:=c[i]) (by simp [lt]) λJ j f=>?_)
  rw[I]
  show wpAny _ A.in1 (Qf [Oc ns[i] n] (setAdd a (.int ns[i] n)) >>= _) _ _ _
  refine Aa (Ct ?_)
  unfold setAdd
  refine Ct (Aa ((Xk prog w).pyHash (k:=ns[i]) (intKind_is _ _ _ _) ?_))
  have N:SetS w J a es ep t:=S.keep λo q=>(f.2 a u).trans q
  have z:=E.size N.nd
  refine C1 (s:={ s with heap:=J,toks:=s.toks+1 }) N (by omega) λb h C W X d S2 p2=>?_
  have K:∀x,x∈keys h↔x=ns[i]\/x∈keys es:=λx=>by rw[p2.mem_iff,uP]
  refine Ae ⟨Qe Ki _,?_⟩
  refine ih (i+1) { s with heap:=X,toks:=s.toks+1 } h C W (by omega) lt ?_ ?_ S2 (λx hx=>?_) λF v t3 h3 D k3 O m3=>?_
  ·obtain ⟨o,G,r⟩:=j
   exact ⟨o,(d.2 it (Lu u)).trans G,r⟩
  ·obtain ⟨o,G,r⟩:=p
   exact ⟨o,(d.2 l (Lu V)).trans ((f.2 l Y).trans G),r⟩
  ·rcases (K x).mp hx with q | q
   ·rw[q]; exact T _ (fL lt')
   ·exact E x q
  ·refine B F v t3 h3 D (λb o L H e=>k3 b o L H ((d.2 b L).trans ((f.2 b H).trans e))) O λx=>?_
   rw[m3,K,mM lt',Ak]
   constructor
   ·rintro ((q | q) | q)
    ·exact .inr (.inl q)
    ·exact .inl q
    ·exact .inr (.inr q)
   ·rintro (q | q | q)
    ·exact .inl (.inr q)
    ·exact .inl (.inl q)
    ·exact .inr q
end
section
variable{prog:Bk}{w:World}{A:Ci}{E:Value->Ah->Prop}{s:Ah}
theorem I0(v:Value){Q:Value->Ah->Prop}(h:Q (.ref s.heap.objs.size) { s with heap:=s.heap.push (Le #[] 0 (.fresh 0 0 (!bt w))) }):Ha (model prog w) A (.call (.builtin "set.__new__") ⟨[.type "set",v],[]⟩) (wants Q E) s:=by
 have sub:=Qo
 obtain ⟨a,g,d,b,os⟩:=s
 refine Zd (show wpAny _ A.in1 (do checkBuiltinCall "set.__new__" ⟨[.type "set",v],[]⟩; again (.builtin "set.__new__" ⟨[.type "set",v],[]⟩)) _ _ _ from ?_)
 refine Aa (Jm (PySem.F.newCall_set_1 v) (Ae ⟨Qe PySem.F.plain_set_new _,Hz PySem.F.entry_set_new ?_⟩))
 rw[Gd PySem.F.plain_set_new _]
 unfold Builtin.«set.__new__» Builtin.Frozenset.newClass
 dsimp only
 wp_walk
 refine Wl (Ae ?_)
 dsimp only
 simp only[newObj]
 exact Aa (wpAny_alloc (Ae (Ae h)))
theorem U4{U:List Int}(W:U.length<=62){l:Addr}{a:Array Value}{ns:List Int}{Q:Value->Ah->Prop}(S:A.handled=none)(hl:s.heap.IsTuple l a)(hI:Fo a.toList ns)(N:Among U ns)(h:∀es ep t h' f,(∀b o,s.heap.get? b=some o->h'.get? b=some o)->SetS w h' s.heap.objs.size es ep t->(∀x,x∈keys es↔x∈ns)->Q (.ref s.heap.objs.size) { s with heap:=h',toks:=f }):wpAny (model prog w) A (call (.type "set") [.ref l]) Q E s:=by
 obtain ⟨c,tl,I⟩:=PySem.F.called_set.mro
 have y:=PySem.F.called_set.made
 have D:=PySem.F.called_set.sub
 have h1:=PySem.F.called_set.notType
 have h2:=PySem.F.called_set.canCreate
 have L:=PySem.F.typeCall_set_1 (.ref l)
 refine wpAny_call (Zd (show wpAny _ _ (callAny (.type "set") _) _ _ _ from ?_))
 refine Ae ⟨Code.quiet_builtin _ (by decide +kernel),Hz PySem.F.entry_type_call ?_⟩
 rw[Around.under_plain (weight_type_call_type "set" [.ref l] []) rfl]
 repeat (any_goals (first | assumption | wp_step))
 refine Oq (I0 (.ref l) (E:=E) (Q:=λv H=>v=.ref s.heap.objs.size/\H={ s with heap:=s.heap.push (Le #[] 0 (.fresh 0 0 (!bt w))) }) ⟨rfl,rfl⟩) λr H d=>?_
 rcases r with e | (_ | _ | _ | v)
 ·exact d
 ·exact d.elim
 ·exact d.elim
 ·exact d.elim
 obtain ⟨rfl,rfl⟩:=d
 have G:=gX (w:=w) (h:=s.heap)
 have V:Shared.TypeIs { s with heap:=s.heap.push (Le #[] 0 (.fresh 0 0 (!bt w))) } (.ref s.heap.objs.size) "set" := ⟨_,G.obj,rfl⟩
 have X:=PySem.F.called_set.init.lookup
 have Y:=PySem.F.called_set.init.bind (.ref s.heap.objs.size)
 repeat (any_goals (first | assumption | wp_step))
 refine Oq (codeAny_call_builtin (R:=wants (λr J=>r=.none/\∃es ep t h' f,J={ s with heap:=h',toks:=f }/\(∀b o,s.heap.get? b=some o->h'.get? b=some o)/\SetS w h' s.heap.objs.size es ep t/\∀x,x∈keys es↔x∈ns) E)
  PySem.F.called_set.init.plain PySem.F.entry_set_init (check_set_init_1 V ?_)) λr J d=>?_
 ·obtain ⟨⟨Z,od,u,T⟩,K,M,n,O⟩:=id hl
  have m:Z=.type "tuple" := M
  have k:u=.seq a n:=O
  subst m k
  have g:=Ai (Le #[] 0 (.fresh 0 0 (!bt w))) K
  have z:(s.heap.push (Le #[] 0 (.fresh 0 0 (!bt w)))).IsTuple l a:=⟨_,g,rfl,n,rfl⟩
  have f1:=PySem.F.sub_tuple_set
  have f2:=PySem.F.sub_tuple_frozenset
  have f3:(Me "tuple" == Me "dict")=false:=by decide
  have lt:=Aw K
  unfold Builtin.«set.__init__» noKeywords Mf
  generalize i:pyIter=PI
  wp_walk
  subst i
  refine Nq z (Aa (wpAny_runValue ?_))
  have sz:(s.heap.push (Le #[] 0 (.fresh 0 0 (!bt w)))).objs.size=s.heap.objs.size+1:=He _ _
  have g1:((s.heap.push (Le #[] 0 (.fresh 0 0 (!bt w)))).push { cls:=.type "tuple_iterator",data:=.fields #[.ref l,.int 0 0] }).get? (s.heap.push (Le #[] 0 (.fresh 0 0 (!bt w)))).objs.size=some { cls:=.type "tuple_iterator",data:=.fields #[.ref l,.int 0 0] }:=Ar _ rfl
  refine dG W (by rw[sz]; exact Bq (fS _)) (Qu lt) (by rw[sz]; exact Bq (Ho lt)) hI N (by simp [S]) (a.size - 0) 0 _ #[] 0 (.fresh 0 0 (!bt w)) rfl (Do _) ⟨_,g1,rfl,rfl⟩ ⟨_,Ai _ g,rfl,n,rfl⟩
   (G.keep λo q=>Ai _ q) (λx P=>by simp at P) λes ep t h' f p j B=>?_
  refine Ae (Ae ⟨rfl,es,ep,t,h',f,rfl,λb o e=>?_,j,λx=>?_⟩)
  ·have C:=Aw e
   exact p b o (Bq C) (by rw[sz]; exact Bq (Ho C)) (Ai _ (Ai _ e))
  ·rw[B,Nk]
   simp
 ·rcases r with e | (_ | _ | _ | v)
  ·exact d
  ·exact d.elim
  ·exact d.elim
  ·exact d.elim
  obtain ⟨rfl,es,ep,t,h',f,rfl,p,j,B⟩:=d
  repeat (any_goals (first | assumption | wp_step))
  exact h es ep t h' f p j B
end
theorem Vs:Slot "set_iterator" "__next__" "set_iterator.__next__" :=
 .of (owner := "set_iterator") (n := "__next__") (by rw[Zc,Pu]; kernel_rfl) (by decide +kernel) (by decide +kernel) (by decide +kernel) (by first | exact .inl (by decide +kernel) | exact .inr (by decide +kernel)) (by rw[bL]; kernel_rfl)
theorem cP:entryFor table "set_iterator.__next__" = some Builtin.«set_iterator.__next__»:=entryFor_of_tree (by kernel_rfl)
theorem gU(a:Value):argsOk "set_iterator.__next__" ⟨[a],[]⟩:=by unfold argsOk; kernel_rfl
theorem tQ:entryFor table "set.__iter__" = some Builtin.«frozenset.__iter__» :=
 bM (id' := "frozenset.__iter__") (by kernel_rfl) (by first | rfl | decide +kernel) (by decide +kernel) (by kernel_rfl)
abbrev uT(f i:Nat)(a:Addr)(n ep:Nat):Obj:={ cls:=.type "set_iterator",data:=.fields #[Fe f,Fe i,.ref a,Fe n,Fe ep] }
def arrOf(w:World)(a:Addr)(ep:Nat)(es:Array (Int×Value)):Array (Int×Value):=if bt w then Wm (w.params.setOrder a ep) es else es
theorem x8{w:World}{a:Addr}{ep:Nat}{es:Array (Int×Value)}:(arrOf w a ep es).toList.Perm es.toList:=iL
theorem Rq{w:World}{a:Addr}{ep:Nat}{es:Array (Int×Value)}:(arrOf w a ep es).size=es.size:=by
 have:=(x8 (w:=w) (a:=a) (ep:=ep) (es:=es)).length_eq
 rw[Am,Am] at this
 exact this
def pZ(w:World)(I a:Addr)(es:Array (Int×Value))(ep:Nat)(t:Cn)(i:Nat)(h:Heap):Prop :=
 (∃f,h.get? I=some (uT f i a es.size ep)/\(bt w=false->Cp t.place f=i))/\SetS w h a es ep t
section
variable{prog:Bk}{w:World}{A:Ci}{E:Value->Ah->Prop}{s:Ah}
theorem Q2{a:Addr}{es:Array (Int×Value)}{ep:Nat}{t:Cn}{Q:Value->Ah->Prop}(S:SetS w s.heap a es ep t)(h:Q (.ref s.heap.objs.size) { s with heap:=s.heap.push (uT 0 0 a es.size ep) }):wpAny (model prog w) A (pyIter (.ref a)) Q E s:=by
 refine jB S.ty PySem.F.slot_set_iter (Dj PySem.F.slot_set_iter S.ty tQ ?_ (PySem.F.args_set_iter_1 _))
 unfold Builtin.«frozenset.__iter__»
 refine Aa (m:=Builtin.Frozenset.slot0 "__iter__" ⟨[.ref a],[]⟩) (Jm (a:=a) rfl ?_)
 unfold Builtin.Frozenset.sizeOf fP setDrawn setEpoch
 refine Aa (Aa (Aa (Hh S (Ae (Ae ?_)))))
 refine Aa (Aa (Hh S ?_))
 dsimp only
 refine Aa (Rk (Ae ?_))
 have n:=S.tab.plain
 have b:wpAny (model prog w) A.in1 (do
   let first <- (pure (Fe 0):Sem Value)
   ret (<- newFields "set_iterator" [first,Fe 0,.ref a,Fe es.size,Fe (<- (do return (<- setState a).2.1))])) (λg j=>∃v,g=.done (.ret v)/\∃l r,j.TypeIs v l/\fO (.type l) "__next__" = pure (some r)/\Q v j) E s:=by
  refine Aa (Ae ?_)
  refine Aa (Aa (Hh S (Ae ?_)))
  refine Aa (Cg (Ae ⟨_,rfl, "set_iterator",_,⟨_,Ar _ rfl,rfl⟩,Vs.lookup,h⟩))
 obtain ⟨k,f,c,d,o,i,plain⟩:=t
 have e:plain=true:=n
 subst e
 cases p:bt w with
 | true=>exact b
 | false=>exact b
theorem cZ{a:Addr}{es:Array (Int×Value)}{ep f i:Nat}{t:Cn}{Q:Option (Value×Nat)->Ah->Prop}(S:SetS w s.heap a es ep t)(y:bt w=false->Cp t.place f=i)(h1:∀(b:i<es.size) v,(bt w=false->Cp t.place v=i+1)->Q (some (((arrOf w a ep es)[i]'(by rw[Rq]; exact b)).2,v)) s)(r:es.size<=i->Q none s):wpAny (model prog w) A (setNext a f i ep) Q E s:=by
 unfold setNext
 refine Aa (Hh S ?_)
 dsimp only
 refine Aa (Rk ?_)
 cases h:bt w with
 | true =>
  rw[if_pos rfl,if_neg (by simp)]
  refine Aa (uW S (Ae ?_))
  show Q (((arrOf w a ep es)[i]?).map λe=>(e.2,f)) s
  by_cases b:i<es.size
  ·rw[Iq (by rw[Rq]; exact b)]
   exact h1 b f (λz=>by rw[h] at z; cases z)
  ·rw[Tu (by rw[Rq]; omega)]
   exact r (by omega)
 | false =>
  have B:=S.led h
  have C:=S.tab.plain
  have g:wpAny (model prog w) A (pure (match es[Cp t.place f]?,t.place[Cp t.place f]? with
    | some (_,x),some j=>some (x,j+1)
    | _,_=>none):Sem (Option (Value×Nat))) Q E s:=by
   rw[y h]
   by_cases b:i<es.size
   ·have d:i<t.place.size:=by rw[S.tab.size]; exact b
    rw[Iq b,Iq d]
    refine Ae ?_
    have:=h1 b (t.place[i]+1) (λ_=>rA S.tab.rise d)
    have e:arrOf w a ep es=es:=by unfold arrOf; rw[h]; rfl
    simp only[e] at this
    exact this
   ·rw[Tu (by omega)]
    exact Ae (r (by omega))
  obtain ⟨u,n,c,k,q,o,plain⟩:=t
  have p:q=true:=B
  have l:plain=true:=C
  subst p l
  exact Aa (m:=(pure ():Sem Unit)) (Ae g)
theorem zK{I a:Addr}{es:Array (Int×Value)}{ep:Nat}{t:Cn}{i:Nat}{Q:Option Value->Ah->Prop}(st:pZ w I a es ep t i s.heap)(e:a≠I)(g:i<es.size)(h:∀h',pZ w I a es ep t (i+1) h'->Cu I s.heap h'->Q (some ((arrOf w a ep es)[i]'(by rw[Rq]; exact g)).2) { s with heap:=h' }):wpAny (model prog w) A (Jh (.ref I)) Q E s:=by
 obtain ⟨⟨f,b,k⟩,S⟩:=st
 have T:s.TypeIs (.ref I) "set_iterator" := ⟨_,b,rfl⟩
 unfold Jh
 refine Aa (Lh (Df (name:=Ds "__next__") T Vs (Dj Vs T cP ?_ (gU _))))
 unfold Builtin.«set_iterator.__next__»
 refine Aa (m:=slotArgs "__next__" 0 ⟨[.ref I],[]⟩) (Jm (a:=(Be I,[])) rfl ?_)
 dsimp only
 refine Aa (bJ b rfl ?_)
 show wpAny (model prog w) A.in1 (do
  if (((<- fP a).size:Nat):Int) != (es.size:Int) then
   rule "set_iterator.__next__.size-changed"
   Qr (.ref I) 3 (Fe (-1))
   raiseError "RuntimeError" "Set changed size during iteration"
  match <- setNext a (f:Int).toNat (i:Int).toNat (ep:Int).toNat with
  | some (x,next) =>
   Qr (.ref I) 0 (Fe next)
   Qr (.ref I) 1 (Fe ((i:Int)+1))
   ret x
  | none=>Qr (.ref I) 2 .none; raiseNew (<- newExc (.type "StopIteration") [])) _ _ _
 unfold fP
 refine Aa (Aa (Hh S (Ae ?_)))
 rw[if_neg (by simp)]
 simp only[Ed]
 refine Aa (cZ S k (λ_ d c=>?_) (λz=>absurd g (by omega)))
 dsimp only
 refine Aa (Ma b rfl (by simp) ?_)
 have j:(s.heap.update I (Obj.mapFields (·.setIfInBounds 0 (Fe d)))).get? I=some (uT d i a es.size ep):=Fd _ b rfl
 refine Aa (Ma j rfl (by simp) (Ae ⟨_,rfl,Ae (h _ ⟨⟨d,?_,c⟩,?_⟩ ((Bo ..).trans (Bo ..)))⟩))
 ·exact Fd _ j rfl
 ·refine S.keep λo q=>?_
  exact ((Bo _ _ _).2 a e).trans (((Bo _ _ _).2 a e).trans q)
theorem j9{I a:Addr}{es:Array (Int×Value)}{ep:Nat}{t:Cn}{Q:Option Value->Ah->Prop}(d:A.handled=none)(st:pZ w I a es ep t es.size s.heap)(h:∀h',Xg I s.heap h'->Q none { s with heap:=h' }):wpAny (model prog w) A (Jh (.ref I)) Q E s:=by
 obtain ⟨⟨f,c,e⟩,S⟩:=st
 have T:s.TypeIs (.ref I) "set_iterator" := ⟨_,c,rfl⟩
 unfold Jh
 refine Aa (Lh (Df (name:=Ds "__next__") T Vs (Dj Vs T cP ?_ (gU _))))
 unfold Builtin.«set_iterator.__next__»
 refine Aa (m:=slotArgs "__next__" 0 ⟨[.ref I],[]⟩) (Jm (a:=(Be I,[])) rfl ?_)
 dsimp only
 refine Aa (bJ c rfl ?_)
 show wpAny (model prog w) A.in1 (do
  if (((<- fP a).size:Nat):Int) != (es.size:Int) then
   rule "set_iterator.__next__.size-changed"
   Qr (.ref I) 3 (Fe (-1))
   raiseError "RuntimeError" "Set changed size during iteration"
  match <- setNext a (f:Int).toNat (es.size:Int).toNat (ep:Int).toNat with
  | some (x,next) =>
   Qr (.ref I) 0 (Fe next)
   Qr (.ref I) 1 (Fe ((es.size:Int)+1))
   ret x
  | none=>Qr (.ref I) 2 .none; raiseNew (<- newExc (.type "StopIteration") [])) _ _ _
 unfold fP
 refine Aa (Aa (Hh S (Ae ?_)))
 rw[if_neg (by simp)]
 simp only[Ed]
 refine Aa (cZ S e (λz _ _=>absurd z (Ia _)) (λ_=>?_))
 dsimp only
 refine Aa (Ma c rfl (by simp) (Aa ?_))
 simp only[newExc,newTuple]
 refine Aa (Cg ?_ (by size_fits))
 refine Aa (m:=Kd _ _) (Jm (a:=Gp) (by first | rfl | (simp only[Kd]; rfl)) (Cg ?_ (by size_fits)))
 simp only[raiseNew]
 refine Aa (wpAny_handled ?_)
 rw[show A.in1.handled=none from d]
 refine Aa (Ae (wpAny_throw ?_))
 refine Aa (Ip (T := "StopIteration") (b:=true) ⟨_,Ar _ rfl,rfl⟩ isSubtype_stop ?_)
 exact Ae (h _ (((Bo ..).extBut.push _).push _))
end
theorem iK:Slot "set_iterator" "__iter__" "set_iterator.__iter__" :=
 .of (owner := "set_iterator") (n := "__iter__") (by rw[Zc,Pu]; kernel_rfl) (by decide +kernel) (by decide +kernel) (by decide +kernel) (by first | exact .inl (by decide +kernel) | exact .inr (by decide +kernel)) (by rw[bL]; kernel_rfl)
theorem rP:entryFor table "set_iterator.__iter__" = some Builtin.«dict_keyiterator.__iter__» :=
 bM (id' := "dict_keyiterator.__iter__") (by kernel_rfl) (by first | rfl | decide +kernel) (by decide +kernel) (by kernel_rfl)
theorem yQ(a:Value):argsOk "set_iterator.__iter__" ⟨[a],[]⟩:=by unfold argsOk; kernel_rfl
section
variable{prog:Bk}{w:World}{A:Ci}{E:Value->Ah->Prop}{s:Ah}
theorem wY(r:A.handled=none){I a:Addr}(p:a≠I)(es:Array (Int×Value))(ep:Nat)(t:Cn):Walks prog w A I [I,a] [I] es.size (λi v=>∃e,(arrOf w a ep es)[i]? = some e/\v=e.2) (λi h=>pZ w I a es ep t i h) where
 sub:=λb c=>by simp at c; simp [c]
 frame:=λi h g ⟨⟨f,k,l⟩,S⟩ m=>⟨⟨f,m I (by simp) _ k,l⟩,S.keep λo q=>m a (by simp) o q⟩
 item:=λi s Q E n st d=>zK st p n λg j u=>d _ g s.toks ⟨_,Iq (by rw[Rq]; exact n),rfl⟩ j λb o c e=>(u.2 b (λz=>c (by simp [z]))).trans e
 done:=λs Q E st d=>j9 r st λg x=>d g s.toks λb o c e=>x b o (λz=>c (by simp [z])) e
 self:=λi s Q E st d=>by
  obtain ⟨⟨f,k,l⟩,S⟩:=st
  have T:s.TypeIs (.ref I) "set_iterator" := ⟨_,k,rfl⟩
  refine jB T iK (Dj iK T rP ?_ (yQ _))
  exact Ae ⟨_,rfl, "set_iterator",_,T,Vs.lookup,d⟩
theorem C9{r:Addr}{Q:Bool->Ah->Prop}(c:s.TypeIs (.ref r) "set")(h:Q false s):wpAny (model prog w) A (Zm (.ref r)) Q E s:=by
 unfold Zm
 refine Aa (wpAny_specialOf c PySem.F.slot_set_len.lookup ?_)
 generalize a:("set.__len__" : String)=id0
 wp_delta
 rw[show splitId id0=some ("set", "__len__") from by subst a; decide +kernel]
 subst a
 refine Aa (Ip (T := "set") (b:=true) c Qo ?_)
 refine wpAny_ite_split (λz=>absurd z (by decide)) (λ_=>wpAny_ite_split (λ_=>?_) (λz=>absurd (by decide +kernel) z))
 exact Aa (Jk c (Ae h))
theorem O1(a:Addr)(es:Array (Int×Value))(ep:Nat)(t:Cn):PySem.W.KdlSrc prog w "set" a a es.size (λi v=>∃e,(arrOf w a ep es)[i]? = some e/\v=e.2) (λh=>SetS w h a es ep t) where
 type:=λs S=>S.ty
 there:=λh S=>⟨Aw S.obj,Aw S.obj⟩
 keep:=λh c S k=>S.keep λo q=>k a (.inl rfl) o q
 notList:=by decide
 notTuple:=by decide
 hint:=λA E s Q S h=>C9 S.ty h
 iter:=λA s b S=>by
  have lt:=Aw S.obj
  refine ⟨uT 0 0 a es.size ep,λi h=>pZ w s.heap.objs.size a es ep t i h,λE Q h=>Q2 S h,?_,⟨⟨0,Ar _ rfl,λ_=>pS S.tab.rise⟩,S.keep λo q=>Ai _ q⟩⟩
  exact wY b (Bq lt) es ep t
theorem gA{a:Array (Int×Value)}(c:∀e∈a.toList,Xu e){b:Array Value}(h:ItemsOf (λi v=>∃e,a[i]? = some e/\v=e.2) b a.size):Fo b.toList (a.toList.map Nz):=by
 have g:∀(l:List (Int×Value)) (vs:List Value),(∀e∈l,Xu e)->vs.length=l.length->(∀(j:Nat) v,vs[j]? = some v->∃e,l[j]? = some e/\v=e.2)->Fo vs (l.map Nz):=by
  intro l
  induction l with
  | nil =>
   intro vs _ d _
   cases vs with
   | nil=>exact .nil
   | cons v vs=>cases d
  | cons e l r =>
   intro vs c d o
   cases vs with
   | nil=>cases d
   | cons v vs =>
    obtain ⟨k,q,rfl⟩:=c e (Ab ..)
    obtain ⟨s,m,f⟩:=o 0 v rfl
    cases m
    subst f
    exact .cons k q (r vs (λe p=>c e (Ac _ p)) (by simpa using d) λj u n=>o (j+1) u (by simpa using n))
 refine g a.toList b.toList c (by rw[Am,Am]; exact h.1) λj v n=>?_
 obtain ⟨e,m,f⟩:=h.2 j v (by rw[<- Fs]; exact n)
 exact ⟨e,by rw[Fs]; exact m,f⟩
theorem rB{a:Addr}{es:Array (Int×Value)}{ep:Nat}{t:Cn}{Q:Value->Ah->Prop}(u:A.handled=none)(S:SetS w s.heap a es ep t)(h:∀(p:Addr) (out:Array Value) (ns:List Int) (n:Nat) (h1 h':Heap) (g:Nat),Fo out.toList ns->ns.Perm (keys es)->ns.Pairwise (·<=·)->(∀b o,s.heap.get? b=some o->h1.get? b=some o)->h1.objs.size<=p->(∀b o,h1.get? b=some o->h'.get? b=some o)->h'.get? p=some (Gm "list" out n)->Q (.ref p) { s with heap:=h',toks:=g }):wpAny (model prog w) A (call (.builtin "sorted") [.ref a]) Q E s:=by
 refine Rg kind_sorted plain_sorted entry_sorted (args_sorted1 _) ?_
 unfold Builtin.«sorted»
 refine Aa (m:=checkCount "sorted" 1 1 _) (Ae (Aa (PySem.W.kdu_collect (A:=A.in1) (O1 a es ep t) u S (small S.few) λh1 g c D d=>?_)))
 have f:ItemsOf (λi v=>∃e,(arrOf w a ep es)[i]? = some e/\v=e.2) c (arrOf w a ep es).size:=by rw[Rq]; exact d
 have C:=gA (λe q=>S.ent e (x8.mem_iff.mp q)) f
 have len:c.toList.length<64:=by rw[Am,d.1]; exact S.few
 refine Aa (wpAny_newList ?_ (Cb (Kf len) (by rw[Gn]; decide)))
 have j:(h1.push (Gm "list" c.toList.toArray 0)).get? h1.objs.size=some (Gm "list" c.toList.toArray 0):=Ar _ rfl
 refine Aa (Ct (Dj slot_list_sort ⟨_,j,rfl⟩ entry_list_sort (list_sort_tree (s:={ s with heap:=h1.push (Gm "list" c.toList.toArray 0),toks:=g }) j C len λout k x F z=>⟨_,rfl,?_⟩) (args_list_sort _)))
 refine Ae ⟨_,rfl,?_⟩
 have B:=Rc j (λ_=>#[])
 have r:=Ai (Gm "list" #[] 0) (Ai (Gm "tuple" c.toList.toArray 0) B)
 have y:=Rc r (λ_=>out)
 refine h h1.objs.size out k _ h1 _ g x (F.trans (x8.map Nz)) z D (Aj _) (λb o e=>?_) y
 have l:b≠h1.objs.size:=Bq (Aw e)
 exact ((Bo _ _ _).2 b l).trans (Ai _ (Ai _ (((Bo _ _ _).2 b l).trans (Ai _ e))))
end
end NdS
namespace Nd
open PySem PySem.Spec PyProof.Rows L2 NdS
def K0(w:World)(a:Addr)(ks:List Int)(h:Heap):Prop:=∃b c t,SetS w h a b c t/\∀x,x∈keys b↔x∈ks
abbrev aQ(w:World)(a:Addr)(ks:List Int):HO:=.ext (K0 w a ks)
theorem wA{P:Bk}{w b:World}{H:Hp}{h:Heap}{a:Addr}{ks:List Int}(e:K0 w a ks h):Jz P b H h a (aQ w a ks) :=
 ⟨e,let ⟨_,_,_,S,_⟩:=e; ⟨_,S.obj⟩,λg f ⟨d,c,t,S,m⟩ k=>⟨d,c,t,S.keep λo q=>k o q,m⟩⟩
theorem eL{P:Bk}{w:World}{H:Hp}{h:Heap}{a:Addr}{ks:List Int}(ok:Zx P w H h)(e:H a=some (aQ w a ks)):K0 w a ks h :=
 (show Jz P w H h a (aQ w a ks) from ok a _ e).1
section
variable{X:Cx}
def AR(w:World)(K:PySem.W.Frag):List V->Hp->VK->Prop:=λc H Q=>∃(a:Addr) (b U:List Int),c=[.ref a]/\Ru K H a (b.map V.int)/\U.length<=62/\Among U b/\∀p,H p=none->Q (.ref p) (upd H p (aQ w p b))
theorem eQ(j:X.calm=true):Ml X (.type "set") (AR X.w X.K):=by
 intro c s E H D z Q I r h
 obtain ⟨a,C,U,rfl,l,x,p,q⟩:=h
 obtain ⟨u,rfl,g⟩:=vals1 r
 cases g
 obtain ⟨d,f,⟨o,e,b,n,v⟩,_⟩:=I.tuple l
 refine U4 x (I.ok.hd j) ⟨o,e,b,n,v⟩ (by simpa using intsAre_of f) p λy i t B A k S m=>?_
 exact ⟨.ref s.heap.objs.size,_,I.laid k (Aj _) (wA ⟨y,i,t,S,m⟩),rfl,q _ (I.hok.fresh (Aj _))⟩
def LL(w:World):R2:=λx y H Q=>∃(a b:Addr) (c d U:List Int),x=.ref a/\y=.ref b/\a≠b/\H a=some (aQ w a c)/\H b=some (aQ w b d)/\U.length<=62/\Among U c/\Among U d/\∀p,H p=none->Q (.ref p) (upd H p (aQ w p (c++d)))
theorem o5:aB X (Jn .BitOr) (LL X.w):=by
 intro e s L H x y v u Q I i j h
 obtain ⟨a,b,O,E,U,rfl,rfl,A,B,g,o,n,l,q⟩:=h
 cases i
 cases j
 obtain ⟨N,M,F,z,f⟩:=eL I.hok B
 obtain ⟨G,K,J,C,d⟩:=eL I.hok g
 refine ID o A z C (λx c=>n x ((f x).mp c)) (λx c=>l x ((d x).mp c)) λr p t D k S m=>?_
 exact ⟨.ref s.heap.objs.size,_,I.laid (t':=s.toks) k (Aj _) (wA ⟨r,p,t,S,λx=>by rw[m,f,d,Bc]⟩),rfl,q _ (I.hok.fresh (Aj _))⟩
theorem Yo:∀{vs:List Value} {ns:List Int},Fo vs ns->Gj (ns.map V.int) vs
 | _,_,.nil=>.nil
 | _,_,.cons n t h=>.cons ⟨t,rfl⟩ (Yo h)
def uS(w:World):List V->Hp->VK->Prop:=λd H Q=>∃(a:Addr) (c:List Int),d=[.ref a]/\H a=some (aQ w a c)/\∀(p:Addr) (b:List Int),H p=none->b.Nodup->b.Pairwise (·<=·)->(∀x,x∈b↔x∈c)->Q (.ref p) (upd H p (.lst (b.map V.int)))
theorem Ys(i:X.calm=true):Ml X (.builtin "sorted") (uS X.w):=by
 intro c s z H D E Q I r h
 obtain ⟨a,K,rfl,B,q⟩:=h
 obtain ⟨u,rfl,k⟩:=vals1 r
 cases k
 obtain ⟨G,F,t,S,m⟩:=eL I.hok B
 refine rB (I.ok.hd i) S λp out d n l C f j e y o b v A=>?_
 have g:Inv X c z H { s with heap:=l,toks:=f }:=I.kept o
 have nd:d.Nodup:=e.nodup_iff.mpr S.nd
 have J:d.length<64:=by
  rw[e.length_eq,Ad,Am]
  exact S.few
 refine ⟨.ref p,upd H p (.lst (d.map V.int)),g.laid (t':=f) v b ⟨by rw[Ad,Gn]; omega,out.toList,n,Yo j,by simpa using A⟩,rfl,q p d (g.hok.fresh b) nd y λx=>by rw[e.mem_iff,m]⟩
end
end Nd
namespace Nd
open PySem L2
def aW(d:Addr)(H a:Hp):Prop:=∀b o,b≠d->H b=some o->a b=some o
theorem aW.trans{d:Addr}{H f e:Hp}(a:aW d H f)(b:aW d f e):aW d H e:=λc o n h=>b c o n (a c o n h)
theorem aW.upd{d:Addr}{H:Hp}{o:HO}:aW d H (upd H d o):=λb o n h=>by rw[Ek n]; exact h
theorem To.tup{K:PySem.W.Frag}{H b:Hp}{a:Addr}{xs:List V}(e:To H b)(h:Ru K H a xs):Ru K b a xs:=by
 rcases h with (h | ⟨o,h⟩) | h
 ·exact .inl (.inl (e _ _ h))
 ·exact .inl (.inr ⟨o,e _ _ h⟩)
 ·exact .inr h
theorem pY{n:Nat}(h:n<=1000000):n<=Ay:=by rw[Gn]; omega
theorem kJ(a b:Int)(h:0<b):0<=a % b/\a % b<b:=⟨Int.emod_nonneg _ (by omega),Int.emod_lt_of_pos _ h⟩
def Dr(h:Int)(ns:List Int):Prop:=ns.Pairwise (· < ·)/\∀x∈ns,0<=x/\x<h
theorem Dr.nil(h:Int):Dr h []:=⟨Ei,λx a=>by cases a⟩
theorem Dr.more{h:Int}{ns:List Int}(r:Dr h ns)(h0:0<=h):Dr (h+1) (ns++[h]) :=
 ⟨Cy.mpr ⟨r.1,Fh _ _,λa d b c=>by rw[Al.mp c]; exact (r.2 a d).2⟩,λx e=>by
  rcases Bc.mp e with z | z
  ·have:=r.2 x z; omega
  ·have:=Al.mp z; omega⟩
theorem Dr.up{h h':Int}{ns:List Int}(r:Dr h ns)(l:h<=h'):Dr h' ns:=⟨r.1,λx a=>by have:=r.2 x a; omega⟩
def nJ(H:Hp)(d:Addr)(c k:Int)(f:Bool):Prop:=H d=some (.lst [.int c,.int k,.bl f])
def K7:Sp:=λvs H Q _=>∃(d:Addr) (c k:Int) (f:Bool),vs=[.ref d]/\nJ H d c k f/\0<=k/\k<=1000000/\∀(r b:Int) (a:Hp),nJ a d b (k+1) f->aW d H a->Q (.int r) a
def Bf(ns:List Int):Af:=.tuple (ns.map Av)
theorem rL(ns:List Int):(Bf ns).depth<=1:=by
 have : (Bf ns).depth<=Br (ns.map Av)+1:=by simp [Bf,Dz]
 rw[rE] at this
 exact this
def EV:List Int:=(Cc 60).map λi:Nat=>(i:Int)
theorem Yu{x:Int}(h0:0<=x)(h1:x<60):x∈EV:=Dd.mpr ⟨x.toNat,Fw.mpr (by omega),by omega⟩
theorem V9(TD:List Af):Em (.list TD) (.list [])=TD.isEmpty:=by cases TD <;> simp [Em,Mt]
theorem iC:∀{l1 l2:List Int},l1.Pairwise (· < ·)->l2.Pairwise (· < ·)->(∀x,x∈l1↔x∈l2)->l1=l2
 | [],[],_,_,_=>rfl
 | [],b::l,_,_,h=>by have:=(h b).mpr Ab; cases this
 | a::l,[],_,_,h=>by have:=(h a).mp Ab; cases this
 | a::l1,b::l2,p1,p2,h=>by
  obtain ⟨f,g⟩:=Bd.mp p1
  obtain ⟨d,i⟩:=Bd.mp p2
  have e:a=b:=by
   rcases Ak.mp ((h a).mp Ab) with z | z
   ·exact z
   ·rcases Ak.mp ((h b).mpr Ab) with y | y
    ·exact y.symm
    ·have:=f b y; have:=d a z; omega
  subst e
  rw[iC g i λx=>⟨λc=>?_,λc=>?_⟩]
  ·rcases Ak.mp ((h x).mp (Ac _ c)) with z | z
   ·have:=f x c; omega
   ·exact z
  ·rcases Ak.mp ((h x).mpr (Ac _ c)) with z | z
   ·have:=d x c; omega
   ·exact z
theorem tZ{ns:List Int}(r:Dr 60 ns):NdS.Among EV ns:=λx a=>Yu (r.2 x a).1 (r.2 x a).2
def X5(K:PySem.W.Frag):Sp:=λvs H Q _=>∃(a b:Addr) (d f:List Int),vs=[.ref a,.ref b]/\Ru K H a (d.map V.int)/\Ru K H b (f.map V.int)/\Dr 60 d/\Dr 60 f /\
 ∀(r:Addr) (c:List Int) (e:Hp),H r=none->e r=some (.tup (c.map V.int))->c.Nodup->c.Pairwise (·<=·)->(∀x,x∈c↔x∈d++f)->To H e->Q (.ref r) e
def j8(b:Bool):Str:=if b=true then "back" else "front"
def order{c:Type}(a b:c)(l:List c):Option Bool->List c
 | none=>l
 | some true=>[a,b]
 | some false=>[b,a]
structure TD(K:PySem.W.Frag)(H:Hp)(x:V)(d:Af)(n m:Nat):Prop where
 rd:RdV K H x d
 fits:IR 22 d
 nd:AD d<=n
 dp:d.depth<=m
abbrev Y8(K:PySem.W.Frag):List V->Hp->VK->Prop:=λb H Q=>∃p a,b=[V.ref p]/\(Mq K H p a\/Ru K H p a)/\∀l,H l=none->Q (.ref l) (upd H l (.lst a))
theorem lF{X:Cx}:Ml X (.type "list") (Y8 X.K):=mF
abbrev Y3(K:PySem.W.Frag):List V->Hp->VK->Prop:=λb H Q=>∃p a,b=[V.ref p]/\((Mq K H p a/\∀l,H l=none->Q (.ref l) (upd H l (.tup a)))\/(Ru K H p a/\Q (.ref p) H))
theorem Ri{X:Cx}:Ml X (.type "tuple") (Y3 X.K):=Wi
end Nd
namespace DL
open PySem L2 Nd
def KL(K:PySem.W.Frag)(H:Hp)(a:Addr)(xs:List V):Prop :=
 (∃o,H a=some (.frz o (.lst xs)))\/∃(b:Array Value) (n:Nat),K.lookup a=some { cls:=.type "list",data:=.seq b n }/\b.size<=Ay/\Gj xs b.toList
def pK:Nat->Af
 | 0=>.none
 | n+1=>.tuple [pK n]
def Wk(ks:List (List Int×Af)):List (Af×Af):=(pK 100,.none)::ks.map λp=>(Bf p.1,p.2)
def Ls(w:List Int):List Lb:=w.map Ze
mutual
inductive RdF (K:PySem.W.Frag) (H:Hp):V->Af->List Addr->Prop
 | non:RdF K H .non .none []
 | bl (b:Bool):RdF K H (.bl b) (.bool b) []
 | int (i:Int):RdF K H (.int i) (.int i) []
 | str (x:Str):RdF K H (.str x) (.str x) []
 | lst {a:Addr} {xs:List V} {ds:List Af} {F:List Addr}:H a=some (.lst xs)->ds.length<=Ay->RdFs K H xs ds F->RdF K H (.ref a) (.list ds) (a::F)
 | tup {a:Addr} {xs:List V} {ds:List Af} {F:List Addr}:H a=some (.tup xs)->ds.length<=Ay->RdFs K H xs ds F->RdF K H (.ref a) (.tuple ds) F
 | dic {a:Addr} {kv:List (List Lb×V)} {ks:List (List Int×Af)}:H a=some (.dT kv)->kv.map (·.1)=ks.map (λp=>Ls p.1)->RdFs K H (kv.map (·.2)) (ks.map (·.2)) []->RdF K H (.ref a) (.dict (Wk ks)) [a]
inductive RdFs (K:PySem.W.Frag) (H:Hp):List V->List Af->List Addr->Prop
 | nil:RdFs K H [] [] []
 | cons {x:V} {d:Af} {xs:List V} {ds:List Af} {F G:List Addr}:RdF K H x d F->RdFs K H xs ds G->RdFs K H (x::xs) (d::ds) (F++G)
end
def MJ(o:HO):Prop:=(∃a,o=.tup a)\/∃b u,o=.frz b u
def Kp(F:List Addr)(H a:Hp):Prop:=∀b o,H b=some o->(b∈F\/MJ o)->a b=some o
theorem Kp.of{F:List Addr}{H a:Hp}(s:To H a):Kp F H a:=λb o e _=>s b o e
theorem Kp.sub{F G:List Addr}{H c:Hp}(k:Kp F H c)(h:∀a∈G,a∈F):Kp G H c:=λb o e z=>k b o e (z.imp (h b) id)
section
variable{K:PySem.W.Frag}{H c:Hp}
theorem KL.kp{a:Addr}{xs:List V}{F:List Addr}(h:KL K H a xs)(k:Kp F H c):KL K c a xs:=by
 rcases h with ⟨o,h⟩ | h
 ·exact .inl ⟨o,k _ _ h (.inr (.inr ⟨_,_,rfl⟩))⟩
 ·exact .inr h
theorem KL.sq{a:Addr}{xs:List V}(h:KL K H a xs):Mq K H a xs:=by
 rcases h with ⟨o,h⟩ | ⟨b,n,h,c,r⟩
 ·exact .inl (.inr ⟨o,h⟩)
 ·exact .inr ⟨_,b,n,h,rfl,rfl,rfl,c,r⟩
mutual
theorem RdF.kp:∀{v:V} {d:Af} {F:List Addr},RdF K H v d F->Kp F H c->RdF K c v d F
 | _,_,_,.non,_=>.non
 | _,_,_,.bl b,_=>.bl b
 | _,_,_,.int i,_=>.int i
 | _,_,_,.str x,_=>.str x
 | _,_,_,.lst h l hs,k=>.lst (k _ _ h (.inl Ab)) l (RdFs.kp hs (k.sub λ_ z=>Ac _ z))
 | _,_,_,.tup h l hs,k=>.tup (k _ _ h (.inr (.inl ⟨_,rfl⟩))) l (RdFs.kp hs k)
 | _,_,_,.dic h e hs,k=>.dic (k _ _ h (.inl Ab)) e (RdFs.kp hs (k.sub λ_ z=>nomatch z))
theorem RdFs.kp:∀{v:List V} {d:List Af} {F:List Addr},RdFs K H v d F->Kp F H c->RdFs K c v d F
 | _,_,_,.nil,_=>.nil
 | _,_,_,.cons h hs,k=>.cons (RdF.kp h (k.sub λ_ z=>Ao _ z)) (RdFs.kp hs (k.sub λ_ z=>Ag _ z))
end
theorem bH:∀n,(pK n).depth=n
 | 0=>by simp [pK,Dz]
 | n+1=>by
  have:=bH n
  simp only[pK,Dz,Br,this]
  omega
theorem C2{ks:List (List Int×Af)}:100<=(PyData.dict (Wk ks)).depth:=by
 have:=bH 100
 simp only[Wk,Dz,PyData.depthKv,this]
 omega
mutual
theorem RdF.rd:∀{v:V} {d:Af} {F:List Addr},RdF K H v d F->d.depth<=90->RdV K H v d
 | _,_,_,.non,_=>.non
 | _,_,_,.bl b,_=>.bl b
 | _,_,_,.int i,_=>.int i
 | _,_,_,.str x,_=>.str x
 | _,_,_,.lst h l hs,z=>.lst (Mq.of h) (RdFs.rd hs (by simp only[Dz] at z; omega))
 | _,_,_,.tup h l hs,z=>.tup (Ru.of h) (RdFs.rd hs (by simp only[Dz] at z; omega))
 | _,_,_,.dic h e hs,z=>absurd (Cb C2 z) (by decide)
theorem RdFs.rd:∀{v:List V} {d:List Af} {F:List Addr},RdFs K H v d F->Br d<=90->RdVs K H v d
 | _,_,_,.nil,_=>.nil
 | _,_,_,.cons h hs,z=>.cons (RdF.rd h (by simp only[Br] at z; omega)) (RdFs.rd hs (by simp only[Br] at z; omega))
end
mutual
theorem RdF.dom:∀{v:V} {d:Af} {F:List Addr},RdF K H v d F->∀a∈F,∃o,H a=some o
 | _,_,_,.non,_,z=>nomatch z
 | _,_,_,.bl b,_,z=>nomatch z
 | _,_,_,.int i,_,z=>nomatch z
 | _,_,_,.str x,_,z=>nomatch z
 | _,_,_,.lst h l hs,b,z=>by
  rcases Ak.mp z with rfl | z
  ·exact ⟨_,h⟩
  ·exact RdFs.dom hs b z
 | _,_,_,.tup h l hs,b,z=>RdFs.dom hs b z
 | _,_,_,.dic h e hs,b,z=>⟨_,Al.mp z▸h⟩
theorem RdFs.dom:∀{v:List V} {d:List Af} {F:List Addr},RdFs K H v d F->∀a∈F,∃o,H a=some o
 | _,_,_,.nil,_,z=>nomatch z
 | _,_,_,.cons h hs,b,z=>by
  rcases Bc.mp z with z | z
  ·exact RdF.dom h b z
  ·exact RdFs.dom hs b z
end
theorem RdFs.len:∀{v:List V} {d:List Af} {F:List Addr},RdFs K H v d F->v.length=d.length
 | _,_,_,.nil=>rfl
 | _,_,_,.cons _ t=>by rw[Bl,Bl,RdFs.len t]
theorem RdFs.get:∀{v:List V} {d:List Af} {F:List Addr} {i:Nat} {e:Af},RdFs K H v d F->d[i]? = some e->∃x G,v[i]? = some x/\RdF K H x e G/\G.Sublist F
 | _,_,_,_,_,.nil,z=>by simp at z
 | _,_,_,0,_,.cons h _,z=>by
  simp at z
  subst z
  exact ⟨_,_,rfl,h,List.sublist_append_left _ _⟩
 | _,_,_,i+1,e,.cons _ t,z=>by
  obtain ⟨x,G,b,a,c⟩:=RdFs.get (i:=i) (e:=e) t (by simpa using z)
  exact ⟨x,G,by simpa using b,a,c.trans (Bu _ _)⟩
theorem RdFs.app:∀{v w:List V} {d e:List Af} {F G:List Addr},RdFs K H v d F->RdFs K H w e G->RdFs K H (v++w) (d++e) (F++G)
 | _,_,_,_,_,_,.nil,h=>h
 | _,_,_,_,_,_,.cons a t,h=>by
  rw[Bw]
  exact .cons a (RdFs.app t h)
theorem RdFs.snoc{v:List V}{d:List Af}{F G:List Addr}{x:V}{e:Af}(t:RdFs K H v d F)(h:RdF K H x e G):RdFs K H (v++[x]) (d++[e]) (F++G):=by
 have:=t.app (.cons h .nil)
 rw[Eb] at this
 exact this
end
mutual
def imm:Af->Bool
 | .list _=>false
 | .dict _=>false
 | .tuple a=>Dw a
 | _=>true
def Dw:List Af->Bool
 | []=>true
 | x::xs=>imm x && Dw xs
end
theorem sS:∀{xs:List Af},Dw xs=true↔∀x∈xs,imm x=true
 | []=>by simp [Dw]
 | x::xs=>by simp [Dw,sS (xs:=xs)]
theorem Wq{b:Type}{f:b->Af}(h:∀a,imm (f a)=true)(l:List b):Dw (l.map f)=true:=sS.mpr λx c=>by
 obtain ⟨a,_,rfl⟩:=Dd.mp c
 exact h a
theorem L6(ns:List Int):imm (Bf ns)=true:=by
 unfold Bf
 rw[imm]
 exact Wq (λ_=>by simp [imm]) ns
section
variable{K:PySem.W.Frag}{H a:Hp}
mutual
theorem RdF.imm:∀{v:V} {d:Af} {F:List Addr},RdF K H v d F->DL.imm d=true->F=[]
 | _,_,_,.non,_=>rfl
 | _,_,_,.bl b,_=>rfl
 | _,_,_,.int i,_=>rfl
 | _,_,_,.str x,_=>rfl
 | _,_,_,.lst h l hs,k=>by simp [DL.imm] at k
 | _,_,_,.tup h l hs,k=>RdFs.imm hs (by simpa [DL.imm] using k)
 | _,_,_,.dic h e hs,k=>by simp [DL.imm] at k
theorem RdFs.imm:∀{v:List V} {d:List Af} {F:List Addr},RdFs K H v d F->Dw d=true->F=[]
 | _,_,_,.nil,_=>rfl
 | _,_,_,.cons h hs,k=>by
  rw[Dw,Ec] at k
  rw[RdF.imm h k.1,RdFs.imm hs k.2]
  rfl
end
end
inductive Md where
 | pk | sh | tp | ow
 deriving DecidableEq
inductive DV where
 | un
 | dat (m:Md) (d:Af)
 | drw
 | dT (kvs:List (List Lb×Af))
 | val (v:V)
 | scr (ns:List Int)
 | acc (ds:List Af)
 | grd (Hc:Hp)
 | tpl (xs:List V)
structure DS where
 sl:List DV
 n:Nat
structure Ent where
 v:Option V
 x:DV
 F:List Addr
def Tj:DV->Bool
 | .dat .pk _=>true
 | _=>false
def HY:DV->Bool
 | .drw=>true
 | _=>false
def EL:DV->Bool
 | .drw=>true
 | .acc _=>true
 | .dT _=>true
 | .grd _=>true
 | _=>false
def cells(e:Ent):List Addr:=match e.x with
 | .dat .ow _=>e.F
 | .dat .tp _=>e.F.take 1
 | .drw=>e.F
 | .dT _=>e.F
 | .acc _=>e.F.take 1
 | .grd _=>e.F
 | _=>[]
theorem Ht(e:Ent):∀a∈cells e,a∈e.F:=by
 obtain ⟨v,x,F⟩:=e
 intro a h
 cases x with
 | un=>exact nomatch h
 | val _=>exact nomatch h
 | scr _=>exact nomatch h
 | drw=>exact h
 | dT _=>exact h
 | grd _=>exact h
 | tpl _=>exact nomatch h
 | acc _=>exact (Hl _ _).subset h
 | dat m d =>
  cases m with
  | pk=>exact nomatch h
  | sh=>exact nomatch h
  | tp=>exact (Hl _ _).subset h
  | ow=>exact h
def Yq(e f:Ent):Prop:=((Tj f.x=false\/EL e.x=true)->∀a∈cells e,a∉f.F)/\((Tj e.x=false\/EL f.x=true)->∀a∈cells f,a∉e.F)
theorem Yq.symm{e f:Ent}(h:Yq e f):Yq f e:=⟨h.2,h.1⟩
def Iu(K:PySem.W.Frag)(H:Hp)(n:Nat)(e:Ent):Prop:=match e.x with
 | .un=>e.F=[]
 | .dat m d=>∃v,e.v=some v/\RdF K H v d e.F/\(m=.ow->e.F.Nodup)/\(m=.tp->∀a l,e.F=a::l->a∉l)
 | .drw=>∃h c k f,e.v=some (.ref h)/\e.F=[h]/\nJ H h c k f/\0<=k/\k<=(n:Int)
 | .dT b=>∃a i,e.v=some (.ref a)/\e.F=[a]/\H a=some (.dT i)/\i.map (·.1)=b.map (·.1)/\RdFs K H (i.map (·.2)) (b.map (·.2)) []
 | .val v=>e.v=some v/\e.F=[]
 | .scr p=>∃a,e.v=some (.ref a)/\e.F=[]/\KL K H a (p.map V.int)/\p.length<=63
 | .acc j=>∃a g G,e.v=some (.ref a)/\e.F=a::G/\H a=some (.lst g)/\RdFs K H g j G/\j.length<=Ay/\a∉G
 | .grd q=>∀a∈e.F,∃o,q a=some o/\H a=some o
 | .tpl g=>∃t,e.v=some (.ref t)/\H t=some (.tup g)/\e.F=[]
structure At(K:PySem.W.Frag)(H0:Hp)(X:Addr->Prop)(n:Nat)(E:List Ent)(H:Hp):Prop where
 ok:∀e∈E,Iu K H n e
 sep:E.Pairwise Yq
 new:∀e∈E,∀a∈cells e,H0 a=none\/(X a/\HY e.x=true)
 same:∀b o,¬ X b->H0 b=some o->H b=some o
 dom:∀b o,H0 b=some o->∃o',H b=some o'
 xd:∀b,X b->H0 b≠none/\∃c k f,nJ H b c k f/\0<=k/\k<=(n:Int)
section
variable{K:PySem.W.Frag}{i H j:Hp}{X:Addr->Prop}{n n':Nat}{E y S T:List Ent}{e f:Ent}
theorem At.perm(h:At K i X n E H)(p:E.Perm y):At K i X n y H :=
 ⟨λe c=>h.ok e (p.mem_iff.mpr c),(p.pairwise_iff λ{a b}=>Yq.symm).mp h.sep,λe c=>h.new e (p.mem_iff.mpr c),h.same,h.dom,h.xd⟩
theorem At.sub(h:At K i X n E H)(p:y.Sublist E):At K i X n y H :=
 ⟨λe a=>h.ok e (p.subset a),h.sep.sublist p,λe a=>h.new e (p.subset a),h.same,h.dom,h.xd⟩
theorem At.drop(h:At K i X n (S++e::T) H):At K i X n (S++T) H:=h.sub ((Co S).append (Dm _ _))
theorem G9:(S++e::T).Perm (e::(S++T)):=Ea
theorem At.mid(h:At K i X n (S++e::T) H):At K i X n (e::(S++T)) H:=h.perm G9
theorem At.tomid(h:At K i X n (e::(S++T)) H):At K i X n (S++e::T) H:=h.perm G9.symm
theorem Iu.dom(h:Iu K H n e):∀a∈e.F,∃o,H a=some o:=by
 obtain ⟨v,x,F⟩:=e
 intro a ha
 cases x with
 | un=>rw[show F=[] from h] at ha; cases ha
 | val _=>rw[show F=[] from h.2] at ha; cases ha
 | scr _ =>
  obtain ⟨_,_,g,_⟩:=h
  rw[show F=[] from g] at ha; cases ha
 | dat m d =>
  obtain ⟨w,_,h,_⟩:=h
  obtain ⟨i,z⟩:=h.dom a ha
  exact ⟨_,z⟩
 | drw =>
  obtain ⟨p,c,k,f,_,g,h,_⟩:=h
  rw[show F=[p] from g] at ha
  rw[Al.mp ha]
  exact ⟨_,h⟩
 | grd s =>
  obtain ⟨o,_,z⟩:=h a ha
  exact ⟨o,z⟩
 | tpl i =>
  obtain ⟨_,_,_,g⟩:=h
  rw[show F=[] from g] at ha; cases ha
 | dT l =>
  obtain ⟨b,q,_,g,h,_⟩:=h
  rw[show F=[b] from g] at ha
  rw[Al.mp ha]
  exact ⟨_,h⟩
 | acc r =>
  obtain ⟨b,q,G,_,g,h,j,_⟩:=h
  rw[show F=b::G from g] at ha
  rcases Ak.mp ha with rfl | ha
  ·exact ⟨_,h⟩
  ·obtain ⟨i,z⟩:=j.dom a ha
   exact ⟨_,z⟩
theorem Iu.kp(h:Iu K H n e)(k:Kp e.F H j)(C:n<=n'):Iu K j n' e:=by
 obtain ⟨v,x,F⟩:=e
 cases x with
 | un=>exact h
 | val _=>exact h
 | scr _ =>
  obtain ⟨a,i,g,l,q⟩:=h
  exact ⟨a,i,g,l.kp k,q⟩
 | dat m d =>
  obtain ⟨w,i,g,l⟩:=h
  exact ⟨w,i,g.kp k,l⟩
 | drw =>
  obtain ⟨y,c,A,f,i,r,g,l,q⟩:=h
  have p:F=[y]:=r
  subst p
  exact ⟨y,c,A,f,i,rfl,k _ _ g (.inl Ab),l,by omega⟩
 | tpl E =>
  obtain ⟨t,i,g,l⟩:=h
  exact ⟨t,i,k _ _ g (.inr (.inl ⟨_,rfl⟩)),l⟩
 | grd I =>
  intro a u
  obtain ⟨o,i,g⟩:=h a u
  exact ⟨o,i,k _ _ g (.inl u)⟩
 | dT B =>
  obtain ⟨b,s,i,r,g,l,q⟩:=h
  have p:F=[b]:=r
  subst p
  exact ⟨b,s,i,rfl,k _ _ g (.inl Ab),l,q.kp (k.sub λ_ z=>nomatch z)⟩
 | acc D =>
  obtain ⟨b,s,G,i,r,g,l,q⟩:=h
  have p:F=b::G:=r
  subst p
  exact ⟨b,s,G,i,rfl,k _ _ g (.inl Ab),l.kp (k.sub λ_ z=>Ac _ z),q⟩
theorem At.grow(h:At K i X n E H)(s:To H j)(l:n<=n'):At K i X n' E j :=
 ⟨λe g=>(h.ok e g).kp (Kp.of s) l,h.sep,h.new,λb o a e=>s _ _ (h.same b o a e),λb o e=>let ⟨o',q⟩:=h.dom b o e; ⟨o',s _ _ q⟩,λb d=>let ⟨z,c,k,f,h1,h2,h3⟩:=h.xd b d; ⟨z,c,k,f,s _ _ h1,h2,by omega⟩⟩
theorem At.free(h:At K i X n E H){a:Addr}(b:H a=none):∀e∈E,a∉e.F:=λe c z=>by
 obtain ⟨o,q⟩:=(h.ok e c).dom a z
 rw[b] at q; cases q
theorem At.push(h:At K i X n E H)(ok:Iu K H n e)(c:∀f∈E,Yq e f)(b:∀a∈cells e,i a=none\/(X a/\HY e.x=true)):At K i X n (e::E) H :=
 ⟨λg hg=>by
  rcases Ak.mp hg with rfl | hg
  ·exact ok
  ·exact h.ok g hg,Bd.mpr ⟨c,h.sep⟩,λg hg=>by
  rcases Ak.mp hg with rfl | hg
  ·exact b
  ·exact h.new g hg,h.same,h.dom,h.xd⟩
theorem At.new0(h:At K i X n E H){p:Addr}(a:H p=none):i p=none:=by
 cases q:i p with
 | none=>rfl
 | some o =>
  obtain ⟨b,z⟩:=h.dom p o q
  rw[a] at z; cases z
theorem T4{v:Option V}{m:Md}{d:Af}:Yq ⟨v,.dat m d,[]⟩ f:=by
 refine ⟨λ_ a b=>?_,λ_ a _=>Az⟩
 have:=Ht _ a b
 cases this
theorem At.pushI(h:At K i X n (S++T) H){v:V}{m:Md}{d:Af}(r:RdF K H v d []):At K i X n (S++⟨some v,.dat m d,[]⟩::T) H :=
 (h.push (e:=⟨some v,.dat m d,[]⟩) ⟨v,rfl,r,λ_=>Ep,λ_ a l z=>nomatch z⟩ (λf _=>T4) (λa b=>nomatch Ht _ a b)).tomid
def wk:Md->Md->Bool
 | _,.pk=>true
 | .pk,_=>false
 | _,.sh=>true
 | .sh,_=>false
 | _,.tp=>true
 | .tp,.ow=>false
 | .ow,.ow=>true
theorem oB{v:Option V}{m c:Md}{d:Af}{F:List Addr}(w:wk m c=true):∀a∈cells ⟨v,.dat c d,F⟩,a∈cells ⟨v,.dat m d,F⟩:=by
 intro a b
 cases m <;> cases c <;> first | exact absurd w (by decide) | exact b | exact absurd b Az | exact (Hl 1 F).subset b
theorem xA{b:Type}{F:List b}(h:F.Nodup):∀a l,F=a::l->a∉l:=λa l e=>by
 subst e
 exact (Cm.mp h).1
theorem Iu.wk{v:Option V}{m b:Md}{d:Af}{F:List Addr}(w:wk m b=true)(h:Iu K H n ⟨v,.dat m d,F⟩):Iu K H n ⟨v,.dat b d,F⟩:=by
 obtain ⟨u,f,c,a,g⟩:=h
 refine ⟨u,f,c,λe=>?_,λe=>?_⟩
 ·subst e
  cases m <;> first | exact absurd w (by decide) | exact a rfl
 ·subst e
  cases m <;> first | exact absurd w (by decide) | exact g rfl | exact xA (a rfl)
theorem Yq.wk{v:Option V}{m c:Md}{d:Af}{F:List Addr}(w:wk m c=true)(h:Yq ⟨v,.dat m d,F⟩ f):Yq ⟨v,.dat c d,F⟩ f:=by
 refine ⟨λhp a b=>?_,λhp a b=>?_⟩
 ·rcases hp with hp | hp
  ·exact h.1 (.inl hp) a (oB w a b)
  ·cases hp
 ·rcases hp with hp | hp
  ·refine h.2 (.inl ?_) a b
   cases m <;> cases c <;> first | rfl | exact absurd w (by decide) | exact absurd hp (by show ¬ (true=false); decide)
  ·exact h.2 (.inr hp) a b
theorem At.wk{v:Option V}{m b:Md}{d:Af}{F:List Addr}(w:wk m b=true)(h:At K i X n (⟨v,.dat m d,F⟩::E) H):At K i X n (⟨v,.dat b d,F⟩::E) H:=by
 have g:=Bd.mp h.sep
 refine (h.sub (Dm _ _)).push ((h.ok _ Ab).wk w) (λf e=>(g.1 f e).wk w) λa c=>?_
 rcases h.new _ Ab a (oB w a c) with z | z
 ·exact .inl z
 ·cases z.2
end
abbrev DE:=DS->(DV->DS->Prop)->Prop
abbrev DT:=DS->(Bool->DS->Prop)->Prop
abbrev DA:=DS->(List DV->DS->Prop)->Prop
structure DEnds where
 nx:DS->Prop
 rt:DV->DS->Prop
 bk:DS->Prop:=λ_=>False
 ct:DS->Prop:=λ_=>False
abbrev DB:=DEnds->DS->Prop
abbrev DG:=DV->DS->(DS->Prop)->Prop
abbrev M3:=List DV->DS->(DS->Prop)->Prop
def vs(S:List Ent):L2.St:=S.map Ent.v
def Sl(S:List Ent)(a:DS):Prop:=S.map Ent.x=a.sl
section
variable(K:PySem.W.Frag)
def LE(g:DE):TE:=λf H Q=>∃(e:Hp) (X:Addr->Prop) (S T:List Ent) (c:DS) (P:DV->DS->Prop),vs S=f/\Sl S c/\At K e X c.n (S++T) H/\g c P /\
 ∀x a v F b d,vs b=f->Sl b a->At K e X a.n (b++⟨some v,x,F⟩::T) d->P x a->Q v d
def LT(dt:DT):TT:=λg H Q=>∃(f:Hp) (X:Addr->Prop) (S T:List Ent) (d:DS) (P:Bool->DS->Prop),vs S=g/\Sl S d/\At K f X d.n (S++T) H/\dt d P /\
 ∀b a c e,vs c=g->Sl c a->At K f X a.n (c++T) e->P b a->Q b e
def LA(j:DA):TA:=λi H Q=>∃(g:Hp) (X:Addr->Prop) (S T:List Ent) (d:DS) (P:List DV->DS->Prop),vs S=i/\Sl S d/\At K g X d.n (S++T) H/\j d P /\
 ∀h a b f c e,vs c=i->Sl c a->b.map Ent.x=h->b.map Ent.v=f.map some->At K g X a.n (c++(b++T)) e->P h a->Q f e
def LS(h:DB):TS:=λD g H=>∃(d:Hp) (X:Addr->Prop) (S T:List Ent) (f:DS) (P:DEnds),vs S=g/\Sl S f/\(∀e∈T,Tj e.x=false)/\At K d X f.n (S++T) H/\h P f /\
 (∀a b c,Sl b a->At K d X a.n (b++T) c->P.nx a->D.nx (vs b) c) /\
 (∀x a v F b c,Sl b a->At K d X a.n (b++⟨some v,x,F⟩::T) c->P.rt x a->D.rt v c) /\
 (∀a b c,Sl b a->At K d X a.n (b++T) c->P.bk a->D.bk (vs b) c) /\
 (∀a b c,Sl b a->At K d X a.n (b++T) c->P.ct a->D.ct (vs b) c)
def LG(f:DG):TG:=λv g H Q=>∃(e:Hp) (X:Addr->Prop) (S T:List Ent) (c:DS) (x:DV) (F:List Addr) (P:DS->Prop),vs S=g/\Sl S c/\At K e X c.n (S++⟨some v,x,F⟩::T) H/\f x c P /\
 ∀a b d,Sl b a->At K e X a.n (b++T) d->P a->Q (vs b) d
def MP(g:M3):O3:=λh i H Q=>∃(f:Hp) (X:Addr->Prop) (S T b:List Ent) (d:DS) (P:DS->Prop),vs S=i/\Sl S d/\b.map Ent.v=h.map some/\At K f X d.n (S++(b++T)) H/\g (b.map Ent.x) d P /\
 ∀a c e,Sl c a->At K f X a.n (c++T) e->P a->Q (vs c) e
end
abbrev Gq(X:Cx)(e:Expr)(a:DE):Prop:=PE X e (LE X.K a)
abbrev nO(X:Cx)(e:Expr)(dt:DT):Prop:=PT X e (LT X.K dt)
abbrev EN(X:Cx)(e:Expr)(dt:DT):Prop:=PW X e (LT X.K dt)
abbrev mI(X:Cx)(es:List Expr)(a:DA):Prop:=PA X es (LA X.K a)
abbrev zO(X:Cx)(st:Stmt)(a:DB):Prop:=PS X st (LS X.K a)
abbrev dJ(X:Cx)(st:List Stmt)(a:DB):Prop:=uJ X st (LS X.K a)
abbrev IZ(X:Cx)(b:Expr)(a:DG):Prop:=PG X b (LG X.K a)
abbrev N9(X:Cx)(b:List Expr)(a:M3):Prop:=CY X b (MP X.K a)
theorem PE.imp{X:Cx}{e:Expr}{t t':TE}(h:PE X e t)(k:∀b H Q,t' b H Q->t b H Q):PE X e t':=λa s b H Q I q=>h a s b H Q I (k b H Q q)
theorem PT.imp{X:Cx}{e:Expr}{t t':TT}(h:PT X e t)(k:∀b H Q,t' b H Q->t b H Q):PT X e t':=λa s b H Q I q=>h a s b H Q I (k b H Q q)
theorem PW.imp{X:Cx}{e:Expr}{t t':TT}(h:PW X e t)(k:∀b H Q,t' b H Q->t b H Q):PW X e t':=λc a s b H Q I q=>h c a s b H Q I (k b H Q q)
theorem PA.imp{X:Cx}{e:List Expr}{t t':TA}(h:PA X e t)(k:∀b H Q,t' b H Q->t b H Q):PA X e t':=λc a s b H Q I q=>h c a s b H Q I (k b H Q q)
theorem PG.imp{X:Cx}{e:Expr}{t t':TG}(h:PG X e t)(k:∀v b H Q,t' v b H Q->t v b H Q):PG X e t':=λa s b H v u Q I r q=>h a s b H v u Q I r (k v b H Q q)
theorem CY.imp{X:Cx}{e:List Expr}{t t':O3}(h:CY X e t)(k:∀v b H Q,t' v b H Q->t v b H Q):CY X e t':=λa s b H v u Q I r q=>h a s b H v u Q I r (k v b H Q q)
section
variable{K:PySem.W.Frag}{H:Hp}{v:V}{F:List Addr}
theorem RdF.int_inv{i:Int}(h:RdF K H v (.int i) F):v=.int i/\F=[]:=by cases h; exact ⟨rfl,rfl⟩
theorem RdF.bl_inv{i:Bool}(h:RdF K H v (.bool i) F):v=.bl i/\F=[]:=by cases h; exact ⟨rfl,rfl⟩
theorem RdF.str_inv{i:Str}(h:RdF K H v (.str i) F):v=.str i/\F=[]:=by cases h; exact ⟨rfl,rfl⟩
theorem RdF.list_inv{ds:List Af}(h:RdF K H v (.list ds) F):∃a xs G,v=.ref a/\H a=some (.lst xs)/\RdFs K H xs ds G/\F=a::G/\ds.length<=Ay:=by
 cases h with
 | lst h l b=>exact ⟨_,_,_,rfl,h,b,rfl,l⟩
theorem RdF.tup_inv{ds:List Af}(h:RdF K H v (.tuple ds) F):∃a xs,v=.ref a/\H a=some (.tup xs)/\RdFs K H xs ds F/\ds.length<=Ay:=by
 cases h with
 | tup h l b=>exact ⟨_,_,rfl,h,b,l⟩
end
section
variable{K:PySem.W.Frag}{a H b:Hp}{X:Addr->Prop}{n:Nat}{E S T:List Ent}{v:V}{m:Md}{d:Af}{F:List Addr}
theorem At.told(h:At K a X n E H)(e:⟨some v,.dat m d,F⟩∈E):RdF K H v d F:=by
 obtain ⟨w,c,b,_⟩:=h.ok _ e
 cases c
 exact b
theorem mem_mid{e:Ent}:e∈S++e::T:=Ag _ Ab
theorem Ga{e f:Ent}:f∈S++e::f::T:=Ag _ (Ac _ Ab)
theorem At.drop2{e f:Ent}(h:At K a X n (S++e::f::T) H):At K a X n (S++T) H:=h.drop.drop
theorem At.dropL{As:List Ent}(h:At K a X n (S++(As++T)) H):At K a X n (S++T) H:=h.sub ((Co S).append (Bu As T))
end
def kI:Md->Md
 | .ow=>.pk
 | .tp=>.pk
 | m=>m
def BO(i:Nat):DE:=λa P=>match a.sl[i]? with
 | some (.dat m d)=>P (.dat (kI m) d) a
 | _=>False
def dC(d:Af):DE:=λa P=>P (.dat .ow d) a
theorem Nn{S:List Ent}{b:DS}{i:Nat}{x:DV}(h:Sl S b)(e:b.sl[i]? = some x):∃a,S[i]? = some a/\a.x=x:=by
 unfold Sl at h
 rw[<- h,Bg] at e
 cases q:S[i]? with
 | none=>rw[q] at e; cases e
 | some a=>rw[q] at e; exact ⟨a,rfl,Ca e⟩
theorem Tc{S:List Ent}{i:Nat}{e:Ent}(h:S[i]? = some e):(vs S)[i]? = some e.v:=by
 unfold vs
 rw[Bg,h]
 rfl
theorem At.look{K:PySem.W.Frag}{g H:Hp}{X:Addr->Prop}{n:Nat}{S T:List Ent}{u:Option V}{v:V}{m:Md}{d:Af}{F:List Addr}(h:At K g X n (S++T) H)(l:⟨u,.dat m d,F⟩∈S)(o:u=some v):At K g X n (S++⟨some v,.dat (kI m) d,F⟩::T) H:=by
 subst o
 obtain ⟨k,i,rfl⟩:=List.append_of_mem l
 have j:((k++⟨some v,.dat m d,F⟩::i)++T).Perm (⟨some v,.dat m d,F⟩::(k++(i++T))):=by
  rw[Bw,Fm]
  exact Ea
 have c:=h.perm j
 have r:=Bd.mp c.sep
 refine (h.push (e:=⟨some v,.dat (kI m) d,F⟩) ?_ (λf hf=>?_) λa b=>?_).tomid
 ·obtain ⟨w,q,p,_⟩:=c.ok _ Ab
  refine ⟨w,q,p,λz=>?_,λz=>?_⟩ <;> cases m <;> cases z
 ·refine ⟨λ_ a b=>?_,λhq a b=>?_⟩
  ·cases m <;> exact nomatch b
  ·rcases Ak.mp (j.mem_iff.mp hf) with rfl | hf
   ·rcases hq with hq | hq
    ·cases m <;> first | cases hq; done | exact nomatch b
    ·cases hq
   ·refine (r.1 f hf).2 ?_ a b
    rcases hq with hq | hq
    ·refine .inl ?_
     cases m <;> first | rfl | exact hq
    ·exact .inr hq
 ·cases m <;> exact nomatch b
section
variable{X:Cx}{e:Expr}
theorem Aq{i:Nat}(h:PE X e (lC i)):Gq X e (BO i):=by
 refine PE.imp h λr H Q h=>?_
 obtain ⟨q,Y,S,T,o,P,rfl,c,j,b,k⟩:=h
 unfold BO at b
 split at b
 ·rename_i m d p
  obtain ⟨a,l,n⟩:=Nn c p
  have g:a∈S:=Bp l
  obtain ⟨u,x,F⟩:=a
  subst n
  obtain ⟨v,f,_⟩:=j.ok _ (Ao _ g)
  refine ⟨v,by rw[Tc l]; exact congrArg some f,k _ o v F S H rfl c (j.look g f) b⟩
 ·exact b.elim
theorem rS{v:V}{d:Af}(h:PE X e (tC v))(r:∀H,RdF X.K H v d []):Gq X e (dC d):=by
 refine PE.imp h λi H Q h=>?_
 obtain ⟨g,Y,S,T,b,P,rfl,a,c,f,k⟩:=h
 exact k _ b v [] S H rfl a (c.pushI (r H)) f
theorem Dn{i j pos}:Gq X (.Constant (.int i) j pos) (dC (.int i)):=rS Gi λ_=>.int i
theorem Xp{i j pos}:Gq X (.Constant (.bool i) j pos) (dC (.bool i)):=rS r9 λ_=>.bl i
theorem jR{i j pos}:Gq X (.Constant (.str i) j pos) (dC (.str i)):=rS AM λ_=>.str i
end
def GO(c:DE):DE:=λb P=>c b λx a=>match x with
 | .dat _ d=>imm d=true/\P (.dat .ow d) a
 | _=>False
theorem Ue{X:Cx}{e:Expr}{c:DE}(h:Gq X e c):Gq X e (GO c):=by
 refine PE.imp h λt H Q h=>?_
 obtain ⟨j,Y,S,T,l,P,rfl,f,o,s,k⟩:=h
 refine ⟨j,Y,S,T,l,_,rfl,f,o,s,λx b v F i g n q a p=>?_⟩
 cases x with
 | dat m d =>
  have r:=a.told mem_mid
  obtain rfl:=r.imm p.1
  exact k _ b v [] i g n q (a.drop.pushI r) p.2
 | _=>exact p.elim
def i6(i:Nat):DE:=λa P=>match a.sl[i]? with
 | some (.dat m d)=>P (.dat m d) ⟨a.sl.set i .un,a.n⟩
 | _=>False
theorem eB{a:Type}:∀{l:List a} {i:Nat} {x y:a},l[i]? = some x->(y::l).Perm (x::l.set i y)
 | [],i,x,y,h=>by simp at h
 | z::l,0,x,y,h=>by
  simp at h
  subst h
  exact Ej _ _ _
 | z::l,i+1,x,y,h=>by
  have b:=eB (l:=l) (i:=i) (x:=x) (y:=y) (by simpa using h)
  rw[List.set_cons_succ]
  exact (Ej z y l).trans ((b.cons z).trans (Ej x z _))
theorem cD{X:Cx}{e:Expr}{i:Nat}(h:PE X e (lC i)):Gq X e (i6 i):=by
 refine PE.imp h λG H Q h=>?_
 obtain ⟨I,Y,S,T,B,P,rfl,p,s,g,k⟩:=h
 unfold i6 at g
 split at g
 ·rename_i m d E
  obtain ⟨c,b,t⟩:=Nn p E
  have z:c∈S:=Bp b
  obtain ⟨u,x,F⟩:=c
  subst t
  obtain ⟨v,w,A⟩:=s.ok _ (Ao _ z)
  have l:u=some v:=w
  subst l
  refine ⟨v,by rw[Tc b],k _ _ v F (S.set i ⟨some v,.un,[]⟩) H ?_ ?_ ?_ g⟩
  ·unfold vs
   rw[Qg]
   apply Rx
   intro j
   rw[Rw]
   split
   ·rename_i o
    subst o
    rw[Bg,b]
    split
    ·rfl
    ·rename_i r
     rw[Ad] at r
     exact absurd (Ax.mp b).1 r
   ·rfl
  ·unfold Sl at p ⊢
   rw[Qg,p]
  ·have D:=s.push (e:=⟨some v,.un,[]⟩) (show Iu X.K H B.n ⟨some v,.un,[]⟩ from rfl) (λf _=>⟨λ_ a q=>(nomatch q),λ_ a _=>Az⟩) (λa q=>(nomatch q))
   have C:(⟨some v,.un,[]⟩::(S++T)).Perm ((S.set i ⟨some v,.un,[]⟩)++⟨some v,.dat m d,F⟩::T):=by
    rw[<- Fm]
    exact ((eB (y:=(⟨some v,.un,[]⟩ : Ent)) b).append_right T).trans (by rw[Fm]; exact List.perm_middle.symm)
   exact D.perm C
 ·exact g.elim
abbrev D2:=DV->DV->(DV->Prop)->Prop
def tL(K:PySem.W.Frag)(r:R2)(rd:D2):Prop:=∀(b:Hp) (X:Addr->Prop) (n:Nat) (S T:List Ent) (x y:DV) (v w:V) (F G:List Addr) (H:Hp) (Q:VK) (P:DV->Prop),
 At K b X n (S++⟨some w,y,G⟩::⟨some v,x,F⟩::T) H->rd x y P->(∀z u c a,At K b X n (S++⟨some u,z,c⟩::T) a->P z->Q u a)->r v w H Q
def dO(rd:D2)(c e:DE):DE:=λd P=>c d λx a=>e a λy b=>rd x y λz=>P z b
theorem pA{K:PySem.W.Frag}{r:R2}{rd:D2}{i j:DE}(o:tL K r rd):∀e H Q,LE K (dO rd i j) e H Q->FP r (LE K i) (LE K j) e H Q:=by
 intro e H Q h
 obtain ⟨g,Y,S,T,B,P,rfl,D,q,t,k⟩:=h
 refine ⟨g,Y,S,T,B,_,rfl,D,q,t,λx c v F N O L s d J=>?_⟩
 refine ⟨g,Y,N,⟨some v,x,F⟩::T,c,_,L,s,d,J,λy a w G l C p m b I=>?_⟩
 exact o g Y a.n l T x y v w F G C Q _ b I λz u E A f M=>k z a u E l A p m f M
section
variable{X:Cx}{a b:Expr}{c d:DE}{pos:Pos}{r:R2}{rd:D2}
theorem bG{op:Operator}(f:aB X (Jn op) r)(o:tL X.K r rd)(e:Gq X a c)(hb:Gq X b d):Gq X (.BinOp a op b pos) (dO rd c d):=PE.imp (Ka f e hb) (pA o)
theorem i5{op:CmpOp}(g:aB X (Ke op) r)(o:tL X.K r rd)(e:Gq X a c)(hb:Gq X b d)(f:Gx op b=false):Gq X (.Compare a [op] [b] pos) (dO rd c d):=PE.imp (P3 g e hb f) (pA o)
theorem HF(f:P7 X r)(o:tL X.K r rd)(e:Gq X a c)(hb:Gq X b d)(g:lO b):Gq X (.Subscript a b pos) (dO rd c d):=PE.imp (dU f e hb g) (pA o)
end
def EU(C:Int->Int->Prop)(g:Int->Int->Af):D2:=λx y P=>match x,y with
 | .dat _ (.int i),.dat _ (.int j)=>C i j/\P (.dat .ow (g i j))
 | _,_=>False
def xR(g:Int->Int->Af):D2:=λx y P=>match x,y with
 | .dat _ (.int i),.dat _ (.int j)=>P (.dat .ow (g i j))
 | _,_=>False
section
variable{K:PySem.W.Frag}
theorem AN{C:Int->Int->Prop}{g:Int->Int->V}{g':Int->Int->Af}(h:∀i j H,RdF K H (g i j) (g' i j) []):tL K (rI C g) (EU C g'):=by
 intro c X n S T x y v w F G H Q P b a k
 unfold EU at a
 split at a
 ·obtain ⟨rfl,_⟩:=(b.told Ga).int_inv
  obtain ⟨rfl,_⟩:=(b.told mem_mid).int_inv
  exact ⟨_,_,rfl,rfl,a.1,k _ _ [] H (b.drop2.pushI (h _ _ H)) a.2⟩
 ·exact a.elim
theorem L5{g:Int->Int->V}{g':Int->Int->Af}(h:∀i j H,RdF K H (g i j) (g' i j) []):tL K (CD g) (xR g'):=by
 intro c X n S T x y v w F G H Q P b a k
 unfold xR at a
 split at a
 ·obtain ⟨rfl,_⟩:=(b.told Ga).int_inv
  obtain ⟨rfl,_⟩:=(b.told mem_mid).int_inv
  exact ⟨_,_,rfl,rfl,k _ _ [] H (b.drop2.pushI (h _ _ H)) a⟩
 ·exact a.elim
end
abbrev rdAdd:D2:=xR λi j=>.int (i+j)
abbrev rdSub:D2:=xR λi j=>.int (i - j)
abbrev rdMul:D2:=EU R4 λi j=>.int (i * j)
abbrev rdDiv:D2:=EU BD λi j=>.int (i / j)
abbrev rdMod:D2:=EU (λ_ j=>0<j) λi j=>.int (i % j)
abbrev rdLt:D2:=xR λi j=>.bool (decide (i<j))
section
variable{X:Cx}{a b:Expr}{c d:DE}{pos:Pos}
theorem Ui(e:Gq X a c)(hb:Gq X b d):Gq X (.BinOp a .Add b pos) (dO rdAdd c d):=bG cY (L5 λ_ _ _=>.int _) e hb
theorem DJ(e:Gq X a c)(hb:Gq X b d):Gq X (.BinOp a .Sub b pos) (dO rdSub c d):=bG BE (L5 λ_ _ _=>.int _) e hb
theorem AV(e:Gq X a c)(hb:Gq X b d):Gq X (.BinOp a .Mult b pos) (dO rdMul c d):=bG aC (AN λ_ _ _=>.int _) e hb
theorem Wp(e:Gq X a c)(hb:Gq X b d):Gq X (.BinOp a .FloorDiv b pos) (dO rdDiv c d):=bG jX (AN λ_ _ _=>.int _) e hb
theorem Nh(e:Gq X a c)(hb:Gq X b d):Gq X (.BinOp a .Mod b pos) (dO rdMod c d):=bG Wr (AN λ_ _ _=>.int _) e hb
end
def kG(a:Bool):D2:=λx y P=>match x,y with
 | .dat _ d,.dat _ e=>d.depth<=60/\e.depth<=60/\P (.dat .ow (.bool (match a with | true=>!Em d e | false=>Em d e)))
 | _,_=>False
def rF(a:Bool):D2:=λx y P=>match x,y with
 | .dat _ d,.dat _ (.list es)=>Br es<=60/\d.depth<=60/\P (.dat .ow (.bool (match a with | true=>!(es.any λe=>Em e d) | false=>es.any λe=>Em e d)))
 | .dat _ d,.dat _ (.tuple es)=>Br es<=60/\d.depth<=60/\P (.dat .ow (.bool (match a with | true=>!(es.any λe=>Em e d) | false=>es.any λe=>Em e d)))
 | _,_=>False
section
variable{K:PySem.W.Frag}
theorem Z1:tL K (GM K) (kG false):=by
 intro c X n S T x y v w F G H Q P b a k
 unfold kG at a
 split at a
 ·exact ⟨_,_,(b.told Ga).rd (Cb a.1 (by decide)),(b.told mem_mid).rd (Cb a.2.1 (by decide)),a.1,k _ _ [] H (b.drop2.pushI (.bl _)) a.2.2⟩
 ·exact a.elim
theorem GJ:tL K (IS K) (kG true):=by
 intro c X n S T x y v w F G H Q P b a k
 unfold kG at a
 split at a
 ·exact ⟨_,_,(b.told Ga).rd (Cb a.1 (by decide)),(b.told mem_mid).rd (Cb a.2.1 (by decide)),a.1,k _ _ [] H (b.drop2.pushI (.bl _)) a.2.2⟩
 ·exact a.elim
theorem G3{d:Bool}:tL K (EI K d) (rF d):=by
 intro h X n S T x y v w F G H Q P c b k
 unfold rF at b
 split at b
 ·obtain ⟨a,f,i,rfl,e,g,_,_⟩:=(c.told mem_mid).list_inv
  refine ⟨a,f,_,_,rfl,.inl (Mq.of e),(c.told Ga).rd (Cb b.2.1 (by decide)),g.rd (Cb b.1 (by decide)),b.1,?_⟩
  cases d with
  | true=>exact k _ _ [] H (c.drop2.pushI (.bl _)) b.2.2
  | false=>exact k _ _ [] H (c.drop2.pushI (.bl _)) b.2.2
 ·obtain ⟨a,f,rfl,e,g,_⟩:=(c.told mem_mid).tup_inv
  refine ⟨a,f,_,_,rfl,.inr (Ru.of e),(c.told Ga).rd (Cb b.2.1 (by decide)),g.rd (Cb b.1 (by decide)),b.1,?_⟩
  cases d with
  | true=>exact k _ _ [] H (c.drop2.pushI (.bl _)) b.2.2
  | false=>exact k _ _ [] H (c.drop2.pushI (.bl _)) b.2.2
 ·exact b.elim
end
section
variable{X:Cx}{a b:Expr}{c d:DE}{pos:Pos}
theorem bC(e:X.A.units+64<cLine)(f:Gq X a c)(hb:Gq X b d):Gq X (.Compare a [.Eq] [b] pos) (dO (kG false) c d):=i5 (t9 e) Z1 f hb (fF _)
theorem FQ(e:X.A.units+64<cLine)(f:Gq X a c)(hb:Gq X b d)(g:Gx .In b=false:=by with_unfolding_all rfl):Gq X (.Compare a [.In] [b] pos) (dO (rF false) c d):=i5 (L8 e) G3 f hb g
end
def Qd:Md->Md
 | .ow=>.ow
 | .tp=>.sh
 | m=>m
theorem At.part{K:PySem.W.Frag}{j H:Hp}{X:Addr->Prop}{n:Nat}{S T:List Ent}{v w:V}{m:Md}{d e:Af}{F G:List Addr}(h:At K j X n (S++⟨some v,.dat m d,F⟩::T) H)(r:RdF K H w e G)(g:G.Sublist F):At K j X n (S++⟨some w,.dat (Qd m) e,G⟩::T) H:=by
 have c:=h.mid
 have k:=Bd.mp c.sep
 obtain ⟨t,s,q,o,p⟩:=c.ok _ Ab
 have l:∀a∈cells ⟨some w,.dat (Qd m) e,G⟩,a∈cells ⟨some v,.dat m d,F⟩:=λa b=>by
  cases m with
  | ow=>exact g.subset b
  | tp=>exact nomatch b
  | sh=>exact nomatch b
  | pk=>exact nomatch b
 refine (h.drop.push (e:=⟨some w,.dat (Qd m) e,G⟩) ⟨w,rfl,r,λz=>?_,λz=>?_⟩ (λf i=>?_) λa b=>?_).tomid
 ·cases m with
  | ow=>exact (o rfl).sublist g
  | _=>cases z
 ·cases m <;> cases z
 ·refine ⟨λhp a b=>(k.1 f i).1 ?_ a (l a b),λhp a b z=>(k.1 f i).2 ?_ a b (g.subset z)⟩
  ·rcases hp with hp | hp
   ·exact .inl hp
   ·cases hp
  ·rcases hp with hp | hp
   ·refine .inl ?_
    cases m <;> first | rfl | exact hp
   ·exact .inr hp
 ·rcases c.new _ Ab a (l a b) with z | z
  ·exact .inl z
  ·cases z.2
def u4:D2:=λx y P=>match x,y with
 | .dat m (.list ds),.dat _ (.int i)=>∃d,Wy ds i=some d/\P (.dat (Qd m) d)
 | .dat m (.tuple ds),.dat _ (.int i)=>∃d,Wy ds i=some d/\P (.dat (Qd m) d)
 | .dat _ (.str z),.dat _ (.int i)=>z.length<=Ay/\∃c,Wy z.cps.toList i=some c/\P (.dat .ow (.str ⟨#[c]⟩))
 | _,_=>False
theorem o6{K:PySem.W.Frag}{H:Hp}{xs:List V}{ds:List Af}{F:List Addr}{i:Int}{d:Af}(r:RdFs K H xs ds F)(h:Wy ds i=some d):∃x G,Wy xs i=some x/\RdF K H x d G/\G.Sublist F:=by
 unfold Wy at h ⊢
 rw[r.len]
 cases e:M4 ds.length i with
 | none=>rw[e] at h; cases h
 | some j =>
  rw[e] at h
  exact r.get h
theorem At.swap{K:PySem.W.Frag}{a H:Hp}{X:Addr->Prop}{n:Nat}{S T:List Ent}{e f:Ent}(h:At K a X n (S++e::f::T) H):At K a X n (S++f::e::T) H:=h.perm ((Gh S).append (Ej f e T))
theorem FN{K:PySem.W.Frag}:tL K (LJ K) u4:=by
 intro z X n S T x y v w F G H Q P b f k
 unfold u4 at f
 split at f
 ·obtain ⟨d,g,p⟩:=f
  obtain ⟨rfl,_⟩:=(b.told mem_mid).int_inv
  have r:=b.told Ga
  have e:=b.drop
  obtain ⟨a,s,u,rfl,i,l,q,_⟩:=r.list_inv
  obtain ⟨x,m,j,h,o⟩:=o6 l g
  subst q
  exact .inl ⟨_,_,_,_,rfl,rfl,Mq.of i,j,k _ _ m H (e.part h (o.trans (Dm _ _))) p⟩
 ·obtain ⟨d,g,p⟩:=f
  obtain ⟨rfl,_⟩:=(b.told mem_mid).int_inv
  have r:=b.told Ga
  have e:=b.drop
  obtain ⟨a,s,rfl,i,l,_⟩:=r.tup_inv
  obtain ⟨x,m,j,h,o⟩:=o6 l g
  exact .inr (.inl ⟨_,_,_,_,rfl,rfl,Ru.of i,j,k _ _ m H (e.part h o) p⟩)
 ·obtain ⟨t,c,g,p⟩:=f
  obtain ⟨rfl,_⟩:=(b.told mem_mid).int_inv
  obtain ⟨rfl,_⟩:=(b.told Ga).str_inv
  exact .inr (.inr ⟨_,_,_,rfl,rfl,t,g,k _ _ [] H (b.drop2.pushI (.str _)) p⟩)
 ·exact f.elim
theorem Mg{X:Cx}{a b:Expr}{c d:DE}{pos:Pos}(e:Gq X a c)(hb:Gq X b d)(f:lO b:=by intro _ _; rfl):Gq X (.Subscript a b pos) (dO u4 c d):=HF CN FN e hb f
def vW:Md->Md
 | .ow=>.ow
 | .pk=>.pk
 | _=>.tp
def bE(i:Bool)(m:Md)(ds:List Af)(P:DV->Prop):Prop:=match i with
 | true=>Dw ds=true/\P (.dat .ow (.list ds))
 | false=>P (.dat (vW m) (.list ds))
def fZ(i:Bool)(m:Md)(ds:List Af)(P:DV->Prop):Prop:=match i with
 | true=>Dw ds=true/\P (.dat .ow (.tuple ds))
 | false=>P (.dat (Qd m) (.tuple ds))
section
variable{K:PySem.W.Frag}{b H:Hp}{X:Addr->Prop}{n:Nat}{S T:List Ent}{v w:V}{m:Md}{d e:Af}{F G:List Addr}{p:Addr}{xs:List V}{ds:List Af}{P:DV->Prop}{i:Bool}
theorem At.newI(h:At K b X n (S++T) H)(r:RdFs K H xs ds G)(o:Dw ds=true)(hz:ds.length<=Ay)(d:H p=none)(m:Md):At K b X n (S++⟨some (.ref p),.dat m (.list ds),[p]⟩::T) (upd H p (.lst xs)):=by
 obtain rfl:=r.imm o
 have g:=Ff d (.lst xs)
 have k:=h.grow (n':=n) g (Aj _)
 refine (k.push (e:=⟨some (.ref p),.dat m (.list ds),[p]⟩) ⟨_,rfl,.lst Du hz (r.kp (Kp.of g)),λ_=>Cm.mpr ⟨Az,Ep⟩,λ_ a l z=>by cases z; exact Az⟩ (λf j=>?_) λa c=>?_).tomid
 ·have i:=h.free d f j
  refine ⟨λ_ a c z=>?_,λ_ a c z=>?_⟩
  ·have:=Ht _ a c
   rw[Al.mp this] at z
   exact i z
  ·rw[Al.mp z] at c
   exact i (Ht _ _ c)
 ·have:=Ht _ a c
  rw[Al.mp this]
  exact .inl (h.new0 d)
theorem At.newL(h:At K b X n (S++⟨some v,.dat m d,F⟩::T) H)(r:RdFs K H xs ds G)(o:G.Sublist F)(hz:ds.length<=Ay)(k:H p=none)(q:bE i m ds P):∃z B,At K b X n (S++⟨some (.ref p),z,B⟩::T) (upd H p (.lst xs))/\P z:=by
 cases i with
 | true=>exact ⟨_,_,h.drop.newI r q.1 hz k .ow,q.2⟩
 | false =>
  have q:P (.dat (vW m) (.list ds)):=q
  refine ⟨_,p::G,?_,q⟩
  have w:=Ff k (.lst xs)
  have g:=h.mid
  have x:=Bd.mp g.sep
  obtain ⟨E,D,_,A,_⟩:=g.ok _ Ab
  have C:=h.drop.grow (n':=n) w (Aj _)
  have t:p∉F:=g.free k _ Ab
  have j:p∉G:=λz=>t (o.subset z)
  have y:∀a∈cells ⟨some (.ref p),.dat (vW m) (.list ds),p::G⟩,a=p\/(a∈cells ⟨some v,.dat m d,F⟩):=λa c=>by
   cases m with
   | ow =>
    rcases Ak.mp c with z | z
    ·exact .inl z
    ·exact .inr (o.subset z)
   | tp=>exact .inl (Al.mp c)
   | sh=>exact .inl (Al.mp c)
   | pk=>exact nomatch c
  refine (C.push (e:=⟨some (.ref p),.dat (vW m) (.list ds),p::G⟩) ⟨_,rfl,.lst Du hz (r.kp (Kp.of w)),λz=>?_,λz a l e=>?_⟩ (λf s=>?_) λa c=>?_).tomid
  ·cases m with
   | ow=>exact Cm.mpr ⟨j,(A rfl).sublist o⟩
   | _=>cases z
  ·cases e
   exact j
  ·have u:=g.free k f (Ac _ s)
   refine ⟨λhq a c z=>?_,λhq a c z=>?_⟩
   ·rcases y a c with rfl | hc
    ·exact u z
    ·refine (x.1 f s).1 ?_ a hc z
     rcases hq with hq | hq
     ·exact .inl hq
     ·cases hq
   ·rcases Ak.mp z with rfl | z
    ·exact u (Ht _ _ c)
    ·refine (x.1 f s).2 ?_ a c (o.subset z)
     rcases hq with hq | hq
     ·refine .inl ?_
      cases m <;> first | rfl | exact hq
     ·exact .inr hq
  ·rcases y a c with rfl | hc
   ·exact .inl (g.new0 k)
   ·rcases g.new _ Ab a hc with z | z
    ·exact .inl z
    ·cases z.2
theorem At.newT(h:At K b X n (S++⟨some v,.dat m d,F⟩::T) H)(r:RdFs K H xs ds G)(e:G.Sublist F)(hz:ds.length<=Ay)(g:H p=none)(q:fZ i m ds P):∃z f,At K b X n (S++⟨some (.ref p),z,f⟩::T) (upd H p (.tup xs))/\P z:=by
 have a:=Ff g (.tup xs)
 have c:=h.grow (n':=n) a (Aj _)
 cases i with
 | true =>
  obtain rfl:=r.imm q.1
  exact ⟨_,[],c.drop.pushI (.tup Du hz (r.kp (Kp.of a))),q.2⟩
 | false=>exact ⟨_,G,c.part (.tup Du hz (r.kp (Kp.of a))) e,q⟩
theorem At.oldT{t:Addr}(h:At K b X n (S++⟨some v,.dat m d,F⟩::T) H)(r:RdFs K H xs ds G)(c:G.Sublist F)(hz:ds.length<=Ay)(a:H t=some (.tup xs))(q:fZ i m ds P):∃z e,At K b X n (S++⟨some (.ref t),z,e⟩::T) H/\P z:=by
 cases i with
 | true =>
  obtain rfl:=r.imm q.1
  exact ⟨_,[],h.drop.pushI (.tup a hz r),q.2⟩
 | false=>exact ⟨_,G,h.part (.tup a hz r) c,q⟩
end
def AZ:DA:=λa P=>P [] a
def Z6(d:DE)(c:DA):DA:=λe P=>d e λx a=>c a λf b=>P (x::f) b
section
variable{X:Cx}{e:Expr}{es:List Expr}{b:DE}{a:DA}
theorem Bb:mI X [] AZ:=by
 refine PA.imp Og λf H Q h=>?_
 obtain ⟨e,Y,S,T,b,P,rfl,a,c,d,k⟩:=h
 exact k [] b [] [] S H rfl a rfl rfl c d
theorem An(E:Gq X e b)(r:mI X es a)(C:Bj (e::es) X.env=(false,eval e X.env)::Bj es X.env:=by rfl):mI X (e::es) (Z6 b a):=by
 refine PA.imp (Hx E r C) λK H Q h=>?_
 obtain ⟨i,Y,S,T,s,P,rfl,w,n,p,k⟩:=h
 refine ⟨i,Y,S,T,s,_,rfl,w,n,p,λx d v F I J G o f B=>?_⟩
 refine ⟨i,Y,I,⟨some v,x,F⟩::T,d,_,G,o,f,B,λu g y z j t m l q D c A=>?_⟩
 refine k (x::u) g (⟨some v,x,F⟩::y) (v::z) j t m l (by rw[Ap,q]) (by rw[Ap,Ap,D]) (c.perm ((Gh j).append ?_)) A
 exact Ea
end
def allOw:List DV->Bool
 | []=>true
 | .dat .ow _::xs=>allOw xs
 | _=>false
def noPk:List DV->Bool
 | []=>true
 | .dat .pk _::_=>false
 | .dat _ _::xs=>noPk xs
 | _=>false
def datas:List DV->Option (List Af)
 | []=>some []
 | .dat _ d::xs=>(datas xs).map (d::·)
 | _=>none
def pkMd(top:Md)(xs:List DV):Md:=if allOw xs=true then .ow else if noPk xs=true then top else .pk
section
variable{K:PySem.W.Frag}{c H:Hp}{X:Addr->Prop}{n:Nat}{S T As:List Ent}
theorem Yg:∀{As:List Ent} {us:List V} {ds:List Af},As.map Ent.v=us.map some->datas (As.map Ent.x)=some ds->(∀e∈As,Iu K H n e)->RdFs K H us ds (As.flatMap Ent.F)
 | [],us,ds,e,h,_=>by
  cases us with
  | nil=>cases h; exact .nil
  | cons _ _=>cases e
 | ent::As,us,ds,e,h,ok=>by
  cases us with
  | nil=>cases e
  | cons u us =>
   rw[Ap,Ap] at e
   obtain ⟨i,j⟩:=Hs e
   obtain ⟨v,x,F⟩:=ent
   have a:v=some u:=i
   subst a
   rw[Ap] at h
   cases x with
   | dat m d =>
    rw[show datas (DV.dat m d::As.map Ent.x)=(datas (As.map Ent.x)).map (d::·) from rfl] at h
    cases q:datas (As.map Ent.x) with
    | none=>rw[q] at h; cases h
    | some k =>
     rw[q] at h
     cases h
     obtain ⟨w,g,b,_⟩:=ok _ Ab
     cases g
     rw[Nj]
     exact .cons b (Yg j q λf c=>ok f (Ac _ c))
   | _=>cases h
theorem Rl:∀{As:List Ent},allOw (As.map Ent.x)=true->∀e∈As,∃d,e.x=.dat .ow d
 | [],_,_,h=>nomatch h
 | ⟨v,x,F⟩::As,h,e,he=>by
  rw[Ap] at h
  have a:(∃d,x=.dat .ow d)/\allOw (As.map Ent.x)=true:=by
   cases x with
   | dat m d=>cases m <;> first | exact ⟨⟨d,rfl⟩,h⟩ | cases h
   | _=>cases h
  rcases Ak.mp he with rfl | he
  ·exact a.1
  ·exact Rl a.2 e he
theorem mQ:∀{As:List Ent},noPk (As.map Ent.x)=true->∀e∈As,Tj e.x=false
 | [],_,_,h=>nomatch h
 | ⟨v,x,F⟩::As,h,e,he=>by
  rw[Ap] at h
  have a:Tj x=false/\noPk (As.map Ent.x)=true:=by
   cases x with
   | dat m d=>cases m <;> first | exact ⟨rfl,h⟩ | cases h
   | _=>cases h
  rcases Ak.mp he with rfl | he
  ·exact a.1
  ·exact mQ a.2 e he
theorem cT:∀{As:List Ent},(∀e∈As,∃d,e.x=.dat .ow d)->(∀e∈As,Iu K H n e)->As.Pairwise Yq->(As.flatMap Ent.F).Nodup
 | [],_,_,_=>Ep
 | ent::As,ho,ok,hs=>by
  rw[Nj]
  have j:=Bd.mp hs
  obtain ⟨v,x,F⟩:=ent
  obtain ⟨d,m⟩:=ho _ Ab
  have c:x=.dat .ow d:=m
  subst c
  obtain ⟨w,_,_,k,_⟩:=ok _ Ab
  refine Hm.mpr ⟨k rfl,cT (λe h=>ho e (Ac _ h)) (λe h=>ok e (Ac _ h)) j.2,λa l b g z=>?_⟩
  subst z
  obtain ⟨f,i,g⟩:=Oi.mp g
  obtain ⟨o,c⟩:=ho f (Ac _ i)
  exact (j.1 f i).1 (.inl (by rw[c]; rfl)) a l g
theorem At.pack{v:V}{d:Af}{N:List Addr}{D:Hp}{top:Md}(h:At K c X n (S++(As++T)) H)(s:To H D)(L:∀a∈N,H a=none)(G:N.Nodup)(o:(top=.tp/\N.length=1)\/(top=.sh/\N=[]))(r:RdF K D v d (N++As.flatMap Ent.F)):At K c X n (S++⟨some v,.dat (pkMd top (As.map Ent.x)) d,N++As.flatMap Ent.F⟩::T) D:=by
 have R:(S++(As++T)).Perm (As++(S++T)):=by
  rw[<- Bw,<- Bw]
  exact El.append_right T
 have A:=h.perm R
 have E:=Cy.mp A.sep
 have u:=(h.dropL).grow (n':=n) s (Aj _)
 have I:∀a∈N,∀f∈As++(S++T),a∉f.F:=λa i f p=>A.free (L a i) f p
 have j:∀a∈N,a∉As.flatMap Ent.F:=λa i z=>by
  obtain ⟨f,p,z⟩:=Oi.mp z
  exact I a i f (Ao _ p) z
 have M:∀a∈cells ⟨some v,.dat (pkMd top (As.map Ent.x)) d,N++As.flatMap Ent.F⟩,a∈N\/(allOw (As.map Ent.x)=true/\∃f∈As,a∈cells f):=λa i=>by
  unfold pkMd at i
  by_cases k:allOw (As.map Ent.x)=true
  ·rw[if_pos k] at i
   rcases Bc.mp i with z | z
   ·exact .inl z
   ·obtain ⟨f,p,z⟩:=Oi.mp z
    obtain ⟨J,m⟩:=Rl k f p
    refine .inr ⟨k,f,p,?_⟩
    unfold cells
    rw[m]
    exact z
  ·rw[if_neg k] at i
   by_cases w:noPk (As.map Ent.x)=true
   ·rw[if_pos w] at i
    rcases o with ⟨rfl,u⟩ | ⟨rfl,rfl⟩
    ·match N,u,i with
     | [b],_,i=>exact .inl i
    ·exact nomatch i
   ·rw[if_neg w] at i
    exact nomatch i
 refine (u.push (e:=⟨some v,.dat (pkMd top (As.map Ent.x)) d,N++As.flatMap Ent.F⟩) ⟨_,rfl,r,λz=>?_,λz a l e=>?_⟩ (λf p=>?_) λa i=>?_).tomid
 ·have k:allOw (As.map Ent.x)=true:=by
   unfold pkMd at z
   by_cases k:allOw (As.map Ent.x)=true
   ·exact k
   ·rw[if_neg k] at z
    split at z
    ·rcases o with ⟨rfl,_⟩ | ⟨rfl,_⟩ <;> cases z
    ·cases z
  refine Hm.mpr ⟨G,cT (Rl k) (λe Q=>A.ok e (Ao _ Q)) E.1,λa i b O e=>?_⟩
  subst e
  exact j a i O
 ·have P:top=.tp:=by
   unfold pkMd at z
   split at z
   ·cases z
   ·split at z
    ·exact z
    ·cases z
  subst P
  rcases o with ⟨_,u⟩ | ⟨u,_⟩
  ·match N,u,e,j with
   | [b],_,e,j =>
    cases e
    exact j a Ab
  ·cases u
 ·have y:f∈As++(S++T):=Ag _ p
  refine ⟨λhq a i z=>?_,λhq a i z=>?_⟩
  ·rcases M a i with B | ⟨_,g,t,C⟩
   ·exact I a B f y z
   ·refine (E.2.2 g t f p).1 ?_ a C z
    rcases hq with hq | hq
    ·exact .inl hq
    ·cases hq
  ·rcases Bc.mp z with z | z
   ·exact I a z f y (Ht _ _ i)
   ·obtain ⟨g,t,z⟩:=Oi.mp z
    refine (E.2.2 g t f p).2 ?_ a i z
    rcases hq with hq | hq
    ·refine .inl ?_
     have q:Tj (.dat (pkMd top (As.map Ent.x)) d)=false:=hq
     unfold pkMd at q
     by_cases k:allOw (As.map Ent.x)=true
     ·obtain ⟨J,m⟩:=Rl k g t
      rw[m]
      rfl
     ·rw[if_neg k] at q
      by_cases w:noPk (As.map Ent.x)=true
      ·exact mQ w g t
      ·rw[if_neg w] at q
       cases q
    ·exact .inr hq
 ·rcases M a i with B | ⟨_,g,t,C⟩
  ·exact .inl (A.new0 (L a B))
  ·rcases A.new g (Ao _ t) a C with z | z
   ·exact .inl z
   ·obtain ⟨J,m⟩:=Rl (by assumption) g t
    rw[m] at z
    cases z.2
end
def FJ(d:DA):DE:=λe P=>d e λc a=>match datas c with
 | some b=>b.length<=1000/\P (.dat (pkMd .sh c) (.tuple b)) a
 | none=>False
def HJ(d:DA):DE:=λe P=>d e λc a=>match datas c with
 | some b=>b.length<=1000/\P (.dat (pkMd .tp c) (.list b)) a
 | none=>False
section
variable{X:Cx}{es:List Expr}{b:DA}{pos:Pos}
theorem Of{x1}(h:mI X es b):Gq X (.Tuple es x1 pos) (FJ b):=by
 refine PE.imp (BR h) λE H Q h=>?_
 obtain ⟨y,Y,S,T,o,P,rfl,u,i,l,k⟩:=h
 refine ⟨y,Y,S,T,o,_,rfl,u,i,l,λs c D v g C A j n w a p=>?_⟩
 cases q:datas s with
 | none=>rw[q] at p; exact p.elim
 | some x =>
  rw[q] at p
  subst n
  have r:=Yg w q λe m=>a.ok e (Ag _ (Ao _ m))
  have F:=r.len
  have B:x.length<=Ay:=sz p.1
  refine ⟨by omega,λt f=>?_⟩
  have d:=Ff f (.tup v)
  exact k _ c _ _ g _ A j (a.pack (N:=[]) d (λ_ z=>nomatch z) Ep (.inr ⟨rfl,rfl⟩) (.tup Du B (r.kp (Kp.of d)))) p.2
theorem Lf(h:mI X es b):Gq X (.List es pos) (HJ b):=by
 refine PE.imp (qY h) λF H Q h=>?_
 obtain ⟨A,Y,S,T,s,P,rfl,v,j,m,k⟩:=h
 refine ⟨A,Y,S,T,s,_,rfl,v,j,m,λu d E w i D B l o x c p=>?_⟩
 cases q:datas u with
 | none=>rw[q] at p; exact p.elim
 | some y =>
  rw[q] at p
  subst o
  have r:=Yg x q λe n=>c.ok e (Ag _ (Ao _ n))
  have G:=r.len
  have C:y.length<=Ay:=sz p.1
  refine ⟨by omega,λt f=>?_⟩
  have g:=Ff f (.lst w)
  exact k _ d _ _ i _ B l (c.pack (N:=[t]) g (λa z=>by rw[Al.mp z]; exact f) (Cm.mpr ⟨Az,Ep⟩) (.inl ⟨rfl,rfl⟩) (.lst Du C (r.kp (Kp.of g)))) p.2
end
end DL
namespace Nd
open PySem PySem.Spec PyProof.Rows L2
section
variable{X:Cx}
def X4:V->Option Int->Option Int->Hp->VK->Prop:=λx lo d H Q=>∃a c,x=.ref a/\H a=some (.tup c)/\∀p b,b p=some (.tup (eN c lo d))->To H b->Q (.ref p) b
theorem W4:CG X X4:=by
 intro e s y H x v o u lo j w Q I t l n m h
 obtain ⟨a,b,rfl,d,q⟩:=h
 have k:Ru X.K H a b:=Ru.of d
 cases t
 by_cases f:HT.sIx b.length 0 lo=0/\HT.sIx b.length b.length j=b.length
 ·obtain ⟨g,r,i,A⟩:=I.tuple k
  have c:g.toArray.size=b.length:=by rw[Au]; exact r.length.symm
  refine ⟨"tuple",_,Ez.lookup,i.typeIs,?_⟩
  refine Wc i l n m (by rw[c]; exact f) ⟨.ref a,H,I,rfl,q a H ?_ (To.refl _)⟩
  unfold eN
  rw[f.1,f.2,Nk,Nat.sub_zero,Ey]
  exact d
 ·exact CQ e s y H (.ref a) (.ref a) o u lo j w Q I rfl l n m ⟨a,b,rfl,k,f,λp z=>q p _ Du (Ff z _)⟩
end
end Nd
namespace Ts
open PySem PyProof.Rows
def Vr:Bool->Keyed->Array Keyed->Nat->Nat->Nat->StateT Bx Sem (Option Nat):=sortPriv% PySem.Builtin.gallop
structure Cmp(prog:Bk)(w:World)(A:Ci)(s:Ah)(kd:Mz)(Ok:Keyed->Prop)(blt:Keyed->Keyed->Bool):Prop where
 run:∀(x y:Keyed) (Q:Bool->Ah->Prop) (E:Value->Ah->Prop),Ok x->Ok y->Q (blt x y) s->wpAny (model prog w) A (keyLt' kd x.1 y.1) Q E s
 irr:∀x,blt x x=false
 tr:∀x y z,blt x y=true->blt y z=true->blt x z=true
 neg:∀x y z,blt x z=true->blt x y=true\/blt y z=true
def le(blt:Keyed->Keyed->Bool)(x y:Keyed):Prop:=blt y x=false
section
variable{prog:Bk}{w:World}{A:Ci}{s:Ah}{d:Mz}{Ok:Keyed->Prop}{blt:Keyed->Keyed->Bool}
theorem Cmp.refl(C:Cmp prog w A s d Ok blt)(x:Keyed):le blt x x:=C.irr x
theorem Cmp.ofLt(C:Cmp prog w A s d Ok blt){x y:Keyed}(h:blt x y=true):le blt x y:=by
 unfold le
 cases q:blt y x with
 | false=>rfl
 | true=>have:=C.tr _ _ _ h q; rw[C.irr] at this; cases this
theorem Cmp.trans(C:Cmp prog w A s d Ok blt){x y z:Keyed}(h1:le blt x y)(a:le blt y z):le blt x z:=by
 unfold le at *
 cases q:blt z x with
 | false=>rfl
 | true =>
  rcases C.neg _ y _ q with h | h
  ·rw[a] at h; cases h
  ·rw[h1] at h; cases h
theorem Cmp.ltLe(C:Cmp prog w A s d Ok blt){x y z:Keyed}(h1:blt x y=true)(a:le blt y z):blt x z=true:=by
 unfold le at a
 rcases C.neg _ z _ h1 with h | h
 ·exact h
 ·rw[a] at h; cases h
theorem Cmp.leLt(C:Cmp prog w A s d Ok blt){x y z:Keyed}(h1:le blt x y)(a:blt y z=true):blt x z=true:=by
 unfold le at h1
 rcases C.neg _ x _ a with h | h
 ·rw[h1] at h; cases h
 ·exact h
variable{E:Value->Ah->Prop}
structure Kept(st st':Bx):Prop where
 kind:kindOf st'=kindOf st
 arr:arrOf st'=arrOf st
 pend:Bh st'=Bh st
 fail:My st'=My st
theorem Kept.refl(st:Bx):Kept st st:=⟨rfl,rfl,rfl,rfl⟩
theorem Kept.trans{a b c:Bx}(h:Kept a b)(k:Kept b c):Kept a c:=⟨k.kind.trans h.kind,k.arr.trans h.arr,k.pend.trans h.pend,k.fail.trans h.fail⟩
theorem pJ(C:Cmp prog w A s d Ok blt){st:Bx}{x y:Keyed}{Q:Option Bool->Bx->Prop}(a:kindOf st=d)(c:Ok x)(b:Ok y)(h:Q (some (blt x y)) st):wpS (model prog w) A E s (lt' x y) Q st:=by
 rw[lt'_eq]
 refine Ba (Oo ?_)
 rw[a]
 exact Ba (wpS_lift (Lh (C.run x y _ _ c b ⟨rfl,Bi h⟩)))
theorem Gk{st:Bx}{xs:Array Keyed}{i:Nat}{p:Keyed}{Q:Keyed->Bx->Prop}(h:xs[i]? = some p)(q:Q p st):wpS (model prog w) A E s (elem' xs i) Q st:=by
 rw[elem'_eq,h]
 exact Bi q
def Vk(left:Bool)(a:Keyed)(b:Array Keyed)(base i:Nat):StateT Bx Sem (Option Bool):=do
 let x <- elem' b (base+i)
 if left then lt' x a else return (<- lt' a x).map (!·)
def vI(left:Bool)(c:Keyed)(b:Array Keyed)(base n d a:Nat):StateT Bx Sem (Option Nat):=do
 let mut lo:=d
 let mut hi:=a
 for _ in [0:n] do
  if lo ≥ hi then break
  let mid:=lo+(hi - lo) / 2
  let some up <- Vk left c b base mid | return none
  if up then lo:=mid+1 else hi:=mid
 return some hi
theorem qW(left:Bool)(b:Keyed)(a:Array Keyed)(base n hint:Nat):Vr left b a base n hint=(do
  let some right <- Vk left b a base hint | return none
  let mut last:=0
  let mut ofs:=1
  if right then
   let top:=n - hint
   for _ in [0:n] do
    if ofs ≥ top then break
    let some up <- Vk left b a base (hint+ofs) | return none
    if !up then break
    last:=ofs
    ofs:=2 * ofs+1
   vI left b a base n (hint+last+1) (hint+min ofs top)
  else
   let top:=hint+1
   for _ in [0:n] do
    if ofs ≥ top then break
    let some got <- Vk left b a base (hint - ofs) | return none
    if got then break
    last:=ofs
    ofs:=2 * ofs+1
   vI left b a base n (hint+1 - min ofs top) (hint - last)):=rfl
def Hn(blt:Keyed->Keyed->Bool)(left:Bool)(a x:Keyed):Bool:=if left then blt x a else !blt a x
structure Row(Ok:Keyed->Prop)(arr:Array Keyed)(base n:Nat)(el:Nat->Keyed):Prop where
 at_:∀i,i<n->arr[base+i]? = some (el i)
 ok:∀i,i<n->Ok (el i)
theorem Vg(C:Cmp prog w A s d Ok blt){st:Bx}{left:Bool}{a:Keyed}{b:Array Keyed}{base n i:Nat}{e:Nat->Keyed}(R:Row Ok b base n e)(ok:Ok a)(f:kindOf st=d)(c:i<n){Q:Option Bool->Bx->Prop}(h:Q (some (Hn blt left a (e i))) st):wpS (model prog w) A E s (Vk left a b base i) Q st:=by
 unfold Vk
 refine Ba (Gk (R.at_ i c) ?_)
 cases left with
 | true =>
  rw[if_pos rfl]
  exact pJ C f (R.ok i c) ok h
 | false =>
  rw[if_neg Bs]
  exact Ba (pJ C f ok (R.ok i c) (Bi h))
theorem uM(C:Cmp prog w A s d Ok blt){st:Bx}{left:Bool}{a:Keyed}{t:Array Keyed}{base n lo g:Nat}{f:Nat->Keyed}(R:Row Ok t base n f)(ok:Ok a)(F:kindOf st=d)(mono:∀i j,i<=j->j<n->Hn blt left a (f j)=true->Hn blt left a (f i)=true)(h1:lo<=g)(H:g<=n)(K:∀i,i<lo->Hn blt left a (f i)=true)(G:∀i,g<=i->i<n->Hn blt left a (f i)=false){Q:Option Nat->Bx->Prop}(h:∀k,k<=n->(∀i,i<k->Hn blt left a (f i)=true)->(∀i,k<=i->i<n->Hn blt left a (f i)=false)->Q (some k) st):wpS (model prog w) A E s (vI left a t base n lo g) Q st:=by
 unfold vI
 refine Ba (Ib (Ex (I:=λx c b=>∃l r,c=(none,l,r)/\b=st/\l<=r/\r<=n/\r - l+x<=n/\(∀i,i<l->Hn blt left a (f i)=true)/\(∀i,r<=i->i<n->Hn blt left a (f i)=false))
  (Q:=λc b=>∃r,c=(none,r,r)/\b=st/\r<=n/\(∀i,i<r->Hn blt left a (f i)=true)/\(∀i,r<=i->i<n->Hn blt left a (f i)=false)) ?_ ?_ ⟨lo,g,rfl,rfl,h1,H,by omega,K,G⟩) ?_)
 ·(intro x c b _ L u; obtain ⟨l,r,rfl,rfl,J,p,B,o,m⟩ := u)
  dsimp only
  by_cases v:l ≥ r
  ·rw[if_pos v]
   have e:l=r:=by omega
   subst e
   exact Bi ⟨l,rfl,rfl,p,o,m⟩
  ·rw[if_neg v]
   have z:l+(r - l) / 2<n:=by omega
   refine Ba (Vg C R ok F z ?_)
   dsimp only
   cases y:Hn blt left a (f (l+(r - l) / 2)) with
   | true =>
    rw[if_pos rfl]
    exact Bi ⟨l+(r - l) / 2+1,r,rfl,rfl,by omega,p,by omega,λi g=>mono i _ (by omega) z y,m⟩
   | false =>
    rw[if_neg Bs]
    refine Bi ⟨l,l+(r - l) / 2,rfl,rfl,by omega,by omega,by omega,o,λi g D=>?_⟩
    cases q:Hn blt left a (f i) with
    | false=>rfl
    | true=>rw[mono _ i g D q] at y; cases y
 ·(intro c b u; obtain ⟨l,r,rfl,rfl,J,p,B,o,m⟩ := u)
  have e:l=r:=by
   have : max 0 n=n:=by omega
   rw[this] at B
   omega
  subst e
  exact ⟨l,rfl,rfl,p,o,m⟩
 ·(intro c b u; obtain ⟨r,rfl,rfl,p,o,m⟩ := u)
  exact Bi (h r p o m)
theorem Pd(C:Cmp prog w A s d Ok blt){st:Bx}{left:Bool}{a:Keyed}{D:Array Keyed}{base n hint:Nat}{f:Nat->Keyed}(R:Row Ok D base n f)(ok:Ok a)(y:kindOf st=d)(O:hint<n)(mono:∀i j,i<=j->j<n->Hn blt left a (f j)=true->Hn blt left a (f i)=true){Q:Option Nat->Bx->Prop}(h:∀k,k<=n->(∀i,i<k->Hn blt left a (f i)=true)->(∀i,k<=i->i<n->Hn blt left a (f i)=false)->Q (some k) st):wpS (model prog w) A E s (Vr left a D base n hint) Q st:=by
 have t:∀i j,i<=j->j<n->Hn blt left a (f i)=false->Hn blt left a (f j)=false:=λi j J M q=>by
  cases z:Hn blt left a (f j) with
  | false=>rfl
  | true=>rw[mono i j J M z] at q; cases q
 rw[qW]
 refine Ba (Vg C R ok y O ?_)
 dsimp only
 cases L:Hn blt left a (f hint) with
 | true =>
  rw[if_pos rfl]
  refine Ba (Ib (Ex (I:=λx c e=>∃b o,c=(none,b,o)/\e=st/\b<o/\x+1<=o/\hint+b<n/\Hn blt left a (f (hint+b))=true)
   (Q:=λc e=>∃b o,c=(none,b,o)/\e=st/\b<o/\hint+b<n/\Hn blt left a (f (hint+b))=true/\(o ≥ n - hint\/(hint+o<n/\Hn blt left a (f (hint+o))=false))) ?_ ?_
   ⟨0,1,rfl,rfl,by omega,by omega,by omega,L⟩) ?_)
  ·(intro x c e _ N r; obtain ⟨b,o,rfl,rfl,p,F,l,g⟩ := r)
   dsimp only
   by_cases v:o ≥ n - hint
   ·rw[if_pos v]
    exact Bi ⟨b,o,rfl,rfl,p,l,g,.inl v⟩
   ·rw[if_neg v]
    have B:hint+o<n:=by omega
    refine Ba (Vg C R ok y B ?_)
    dsimp only
    cases m:Hn blt left a (f (hint+o)) with
    | true =>
     simp only[Tb,Bz,if_false]
     exact Bi ⟨o,2 * o+1,rfl,rfl,by omega,by omega,B,m⟩
    | false =>
     simp only[Bool.not_false,if_true]
     exact Bi ⟨b,o,rfl,rfl,p,l,g,.inr ⟨B,m⟩⟩
  ·(intro c e r; obtain ⟨b,o,rfl,rfl,p,F,l,g⟩ := r)
   have : max 0 n=n:=by omega
   rw[this] at F
   exact ⟨b,o,rfl,rfl,p,l,g,.inl (by omega)⟩
  ·(intro c e r; obtain ⟨b,o,rfl,rfl,p,l,g,u⟩ := r)
   dsimp only
   refine uM C R ok y mono (by omega) (by omega) (λi G=>mono i _ (by omega) l g) (λi G H=>?_) h
   rcases u with u | ⟨u,K⟩
   ·exfalso; omega
   ·exact t _ i (by omega) H K
 | false =>
  rw[if_neg Bs]
  refine Ba (Ib (Ex (I:=λx c e=>∃b o,c=(none,b,o)/\e=st/\b<o/\x+1<=o/\b<=hint/\Hn blt left a (f (hint - b))=false)
   (Q:=λc e=>∃b o,c=(none,b,o)/\e=st/\b<o/\b<=hint/\Hn blt left a (f (hint - b))=false/\(o ≥ hint+1\/(o<=hint/\Hn blt left a (f (hint - o))=true))) ?_ ?_
   ⟨0,1,rfl,rfl,by omega,by omega,by omega,L⟩) ?_)
  ·(intro x c e _ N r; obtain ⟨b,o,rfl,rfl,p,F,l,g⟩ := r)
   dsimp only
   by_cases v:o ≥ hint+1
   ·rw[if_pos v]
    exact Bi ⟨b,o,rfl,rfl,p,l,g,.inl v⟩
   ·rw[if_neg v]
    have B:hint - o<n:=by omega
    refine Ba (Vg C R ok y B ?_)
    dsimp only
    cases m:Hn blt left a (f (hint - o)) with
    | true =>
     rw[if_pos rfl]
     exact Bi ⟨b,o,rfl,rfl,p,l,g,.inr ⟨by omega,m⟩⟩
    | false =>
     rw[if_neg Bs]
     exact Bi ⟨o,2 * o+1,rfl,rfl,by omega,by omega,by omega,m⟩
  ·(intro c e r; obtain ⟨b,o,rfl,rfl,p,F,l,g⟩ := r)
   have : max 0 n=n:=by omega
   rw[this] at F
   exact ⟨b,o,rfl,rfl,p,l,g,.inl (by omega)⟩
  ·(intro c e r; obtain ⟨b,o,rfl,rfl,p,l,g,u⟩ := r)
   dsimp only
   refine uM C R ok y mono (by omega) (by omega) (λi G=>?_) (λi G H=>t _ i G H g) h
   rcases u with u | ⟨u,K⟩
   ·exfalso; omega
   ·exact mono i _ (by omega) (by omega) K
end
structure MI{α:Type}(R:α->α->Prop)(xs ys out:List α)(i j:Nat):Prop where
 perm:out.Perm (xs.take i++ys.take j)
 srt:out.Pairwise R
 lx:∀o∈out,∀z∈xs.drop i,R o z
 ly:∀o∈out,∀z∈ys.drop j,R o z
section
variable{c:Type}{R:c->c->Prop}{xs ys out:List c}{i j:Nat}
theorem iY{l:List c}{n:Nat}{a:c}(h:l[n]? = some a):l.drop n=a::l.drop (n+1):=by
 obtain ⟨b,e⟩:=Ax.mp h
 rw[mM b,e]
theorem take_snoc{l:List c}{n:Nat}{a:c}(h:l[n]? = some a):l.take (n+1)=l.take n++[a]:=by
 rw[List.take_succ,h]; rfl
theorem MI.pushY(M:MI R xs ys out i j)(k:ys.Pairwise R){y:c}(d:ys[j]? = some y)(g:∀z∈xs.drop i,R y z):MI R xs ys (out++[y]) i (j+1):=by
 have b:=iY d
 have f:(y::ys.drop (j+1)).Pairwise R:=by rw[<- b]; exact Jo (Jc _ _) k
 obtain ⟨h,l⟩:=Bd.mp f
 refine ⟨?_,?_,λo ho z a=>?_,λo ho z a=>?_⟩
 ·rw[take_snoc d,<- Bw]
  exact M.perm.append_right _
 ·refine Cy.mpr ⟨M.srt,Fh _ _,λo ho z a=>?_⟩
  have e:z=y:=by simpa using a
  rw[e]
  exact M.ly o ho y (by rw[b]; exact Ab)
 ·rcases Bc.mp ho with ho | ho
  ·exact M.lx o ho z a
  ·have e:o=y:=by simpa using ho
   rw[e]; exact g z a
 ·rcases Bc.mp ho with ho | ho
  ·exact M.ly o ho z (by rw[b]; exact Ac _ a)
  ·have e:o=y:=by simpa using ho
   rw[e]; exact h z a
theorem MI.pushX(M:MI R xs ys out i j)(l:xs.Pairwise R){x:c}(d:xs[i]? = some x)(k:∀z∈ys.drop j,R x z):MI R xs ys (out++[x]) (i+1) j:=by
 have b:=iY d
 have f:(x::xs.drop (i+1)).Pairwise R:=by rw[<- b]; exact Jo (Jc _ _) l
 obtain ⟨h,m⟩:=Bd.mp f
 refine ⟨?_,?_,λo ho z a=>?_,λo ho z a=>?_⟩
 ·rw[take_snoc d]
  have g:(out++[x]).Perm ((xs.take i++ys.take j)++[x]):=M.perm.append_right _
  refine g.trans ?_
  rw[Bw,Bw]
  exact Jw _ El
 ·refine Cy.mpr ⟨M.srt,Fh _ _,λo ho z a=>?_⟩
  have e:z=x:=by simpa using a
  rw[e]
  exact M.lx o ho x (by rw[b]; exact Ab)
 ·rcases Bc.mp ho with ho | ho
  ·exact M.lx o ho z (by rw[b]; exact Ac _ a)
  ·have e:o=x:=by simpa using ho
   rw[e]; exact h z a
 ·rcases Bc.mp ho with ho | ho
  ·exact M.ly o ho z a
  ·have e:o=x:=by simpa using ho
   rw[e]; exact k z a
theorem Uo{l:List c}{n k:Nat}{a:c}(h:l[n+k]? = some a):(l.drop n).take (k+1)=(l.drop n).take k++[a]:=take_snoc (by rw[aT]; exact h)
theorem MI.blockX(M:MI R xs ys out i j)(b:xs.Pairwise R):∀k,i+k<=xs.length->(∀m,m<k->∀x,xs[i+m]? = some x->∀z∈ys.drop j,R x z)->MI R xs ys (out++(xs.drop i).take k) (i+k) j
 | 0,_,_=>by simpa using M
 | k+1,hk,h=>by
  have c:=MI.blockX M b k (by omega) λm d=>h m (by omega)
  obtain ⟨x,a⟩ : ∃x,xs[i+k]? = some x:=⟨xs[i+k],by simp⟩
  rw[Uo a,<- Bw]
  exact c.pushX b a (h k (by omega) x a)
theorem MI.blockY(M:MI R xs ys out i j)(b:ys.Pairwise R):∀k,j+k<=ys.length->(∀m,m<k->∀y,ys[j+m]? = some y->∀z∈xs.drop i,R y z)->MI R xs ys (out++(ys.drop j).take k) i (j+k)
 | 0,_,_=>by simpa using M
 | k+1,hk,h=>by
  have c:=MI.blockY M b k (by omega) λm d=>h m (by omega)
  obtain ⟨y,a⟩ : ∃y,ys[j+k]? = some y:=⟨ys[j+k],by simp⟩
  rw[Uo a,<- Bw]
  exact c.pushY b a (h k (by omega) y a)
theorem MI.endX(M:MI R xs ys out i j)(d:xs.Pairwise R)(a:ys.length<=j):(out++xs.drop i++ys.drop j).Perm (xs++ys)/\(out++xs.drop i++ys.drop j).Pairwise R:=by
 rw[tV a,Eb]
 constructor
 ·have c:(out++xs.drop i).Perm ((xs.take i++ys.take j)++xs.drop i):=M.perm.append_right _
  refine c.trans ?_
  rw[Gs a]
  have b:(xs.take i++ys++xs.drop i).Perm (xs.take i++(xs.drop i++ys)):=by
   rw[Bw]
   exact Jw _ El
  refine b.trans ?_
  rw[<- Bw,Fu]
 ·exact Cy.mpr ⟨M.srt,Jo (Jc _ _) d,M.lx⟩
theorem MI.endYX(M:MI R xs ys out i j)(g:xs.Pairwise R)(f:ys.Pairwise R)(h:∀y∈ys.drop j,∀x∈xs.drop i,R y x):(out++ys.drop j++xs.drop i).Perm (xs++ys)/\(out++ys.drop j++xs.drop i).Pairwise R:=by
 constructor
 ·have e:(out++(ys.drop j++xs.drop i)).Perm ((xs.take i++ys.take j)++(ys.drop j++xs.drop i)):=M.perm.append_right _
  rw[Bw]
  refine e.trans ?_
  rw[Bw,<- Bw (ys.take j),Fu]
  have d:(xs.take i++(ys++xs.drop i)).Perm (xs.take i++(xs.drop i++ys)):=Jw _ El
  refine d.trans ?_
  rw[<- Bw,Fu]
 ·refine Cy.mpr ⟨Cy.mpr ⟨M.srt,Jo (Jc _ _) f,M.ly⟩,Jo (Jc _ _) g,λa ha b c=>?_⟩
  rcases Bc.mp ha with ha | ha
  ·exact M.lx a ha b c
  ·exact h a ha b c
end
def pQ:Array Keyed->Array Keyed->StateT Bx Sem (Array Keyed):=sortPriv% PySem.Builtin.mergeLo
def bZ:Nat->StateT Bx Sem Unit:=sortPriv% PySem.Builtin.setMinGallop
abbrev EH(st:Bx)(g:Nat):Bx:=SortSt.mk' (kindOf st) (arrOf st) (Bh st) g (My st)
theorem rH(g:Nat):bZ g=modify λst=>EH st g:=rfl
theorem cE(p:Array Keyed)(i:Nat):(p.extract i p.size).toList=p.toList.drop i:=by
 rw[Ov,Lr,Gs]
 rw[Lm,Am]
 exact Aj _
theorem Yc(p:Array Keyed)(i k:Nat):(p.extract i (i+k)).toList=(p.toList.drop i).take k:=by
 rw[Ov,Lr,Nat.add_sub_cancel_left]
abbrev dn(p q out:Array Keyed)(i j:Nat):Array Keyed:=out++p.extract i p.size++q.extract j q.size
abbrev lst(p q out:Array Keyed)(i j:Nat):Array Keyed:=out++q.extract j q.size++p.extract i p.size
theorem T8(p q out:Array Keyed)(i j:Nat):(dn p q out i j).toList=out.toList++p.toList.drop i++q.toList.drop j:=by
 rw[Dx,Dx,cE,cE]
theorem i8(p q out:Array Keyed)(i j:Nat):(lst p q out i j).toList=out.toList++q.toList.drop j++p.toList.drop i:=by
 rw[Dx,Dx,cE,cE]
abbrev O0:=Option (Array Keyed)×Array Keyed×Nat×Nat×Nat×Nat×Nat
def S5(p q out:Array Keyed)(i j g a k:Nat):StateT Bx Sem (ForInStep O0):=do
 let x <- elem' p i
 if (i+1+1 == p.size)=true then pure (Dg (some (lst p q (out.push x) (i+1) j),out.push x,i+1,j,g,a,k))
 else if (decide (a<7) && decide (k<7))=true then pure (Dg (none,out.push x,i+1,j,g,a,k))
 else pure (Et (none,out.push x,i+1,j,g,a,k))
def V5(p q out:Array Keyed)(i j g a b:Nat):StateT Bx Sem (ForInStep O0):=do
 let y <- elem' q j
 if (j+1 == q.size)=true then pure (Dg (some (dn p q (out.push y) i (j+1)),out.push y,i,j+1,g,a,b))
 else do
  let x <- elem' p i
  let some k <- Vr true x q (j+1) (q.size - (j+1)) 0 | pure (Dg (some (dn p q (out.push y) i (j+1)),out.push y,i,j+1,g,a,b))
  if k > 0 then
   if (j+1+k == q.size)=true then pure (Dg (some (dn p q (out.push y++q.extract (j+1) (j+1+k)) i (j+1+k)),out.push y++q.extract (j+1) (j+1+k),i,j+1+k,g,a,k))
   else S5 p q (out.push y++q.extract (j+1) (j+1+k)) i (j+1+k) g a k
  else S5 p q (out.push y) i (j+1) g a k
def CT(p q out:Array Keyed)(i j g b a:Nat):StateT Bx Sem (ForInStep O0):=do
 bZ g
 let y <- elem' q j
 let some k <- Vr false y p i (p.size - i) 0 | pure (Dg (some (dn p q out i j),out,i,j,g,b,a))
 if k > 0 then
  if (i+k+1 == p.size)=true then pure (Dg (some (lst p q (out++p.extract i (i+k)) (i+k) j),out++p.extract i (i+k),i+k,j,g,k,a))
  else if (i+k == p.size)=true then pure (Dg (some (dn p q (out++p.extract i (i+k)) (i+k) j),out++p.extract i (i+k),i+k,j,g,k,a))
  else V5 p q (out++p.extract i (i+k)) (i+k) j g k a
 else V5 p q out i j g k a
section
variable{prog:Bk}{w:World}{A:Ci}{s:Ah}{d:Mz}{Ok:Keyed->Prop}{blt:Keyed->Keyed->Bool}{E:Value->Ah->Prop}
theorem Vn{st:Bx}{x:String}{Q:Unit->Bx->Prop}(h:Q () st):wpS (model prog w) A E s (liftM (rule x):StateT Bx Sem Unit) Q st:=wpS_lift (Jr ⟨rfl,h⟩)
theorem Ve{st:Bx}{g:Nat}{Q:Unit->Bx->Prop}(h:∀a,Kept st a->Q () a):wpS (model prog w) A E s (bZ g) Q st:=by
 rw[rH]
 exact Ku (h _ ⟨rfl,rfl,rfl,rfl⟩)
structure Two(Ok:Keyed->Prop)(blt:Keyed->Keyed->Bool)(p q:Array Keyed)(x0 y0 xl:Keyed):Prop where
 op:∀x∈p.toList,Ok x
 oq:∀x∈q.toList,Ok x
 sp:p.toList.Pairwise (le blt)
 sq:q.toList.Pairwise (le blt)
 hx0:p[0]? = some x0
 hy0:q[0]? = some y0
 hxl:p[p.size - 1]? = some xl
 first:blt y0 x0=true
 last:∀y∈q.toList,blt y xl=true
abbrev sP(blt:Keyed->Keyed->Bool)(p q r:Array Keyed):Prop:=r.toList.Perm (p.toList++q.toList)/\r.toList.Pairwise (le blt)
theorem Eu{p:Array Keyed}{i:Nat}{x:Keyed}(h:p[i]? = some x):p.toList[i]? = some x:=by simpa using h
theorem Gr{p:Array Keyed}{i:Nat}(h:i<p.size):∃x,p[i]? = some x:=⟨p[i],by simp [h]⟩
theorem Ko{p:Array Keyed}{i:Nat}{x:Keyed}(h:p[i]? = some x):x∈p.toList:=Bp (Eu h)
theorem qO{a:Type}{l:List a}{i:Nat}{z:a}(h:z∈l.drop i):∃k,l[i+k]? = some z:=by
 obtain ⟨k,b,e⟩:=Gg.mp h
 exact ⟨k,by rw[<- aT,Bt b,e]⟩
theorem Lw(C:Cmp prog w A s d Ok blt){l:List Keyed}(g:l.Pairwise (le blt)){i j:Nat}{x y:Keyed}(m:i<=j)(b:l[i]? = some x)(a:l[j]? = some y):le blt x y:=by
 by_cases e:i=j
 ·subst e
  rw[b] at a
  cases a
  exact C.refl x
 ·obtain ⟨h,f⟩:=Ax.mp b
  obtain ⟨k,c⟩:=Ax.mp a
  have:=Lp.mp g i j h k (by omega)
  rw[f,c] at this
  exact this
theorem Qk(C:Cmp prog w A s d Ok blt){l:List Keyed}(b:l.Pairwise (le blt)){i:Nat}{x y:Keyed}(e:l[i]? = some x)(h:le blt y x):∀z∈l.drop i,le blt y z:=λz c=>by
 obtain ⟨k,a⟩:=qO c
 exact C.trans h (Lw C b (Js i k) e a)
abbrev LI(blt:Keyed->Keyed->Bool)(p q out:Array Keyed)(i j:Nat):Prop:=MI (le blt) p.toList q.toList out.toList i j
theorem Pa(out:Array Keyed)(x:Keyed):(out.push x).toList=out.toList++[x]:=by simp
theorem Two.last_end(C:Cmp prog w A s d Ok blt){p q out:Array Keyed}{c l b:Keyed}(T:Two Ok blt p q c l b){i j:Nat}(M:LI blt p q out i j)(m:i+1=p.size):sP blt p q (lst p q out i j):=by
 have h:=M.endYX T.sp T.sq (λy g x f=>?_)
 ·rw[<- i8] at h
  exact h
 ·obtain ⟨k,a⟩:=qO f
  have : k=0:=by
   have:=(Ax.mp a).1
   rw[Am] at this
   omega
  subst this
  have e:x=b:=by
   have:=Eu T.hxl
   rw[show p.size - 1=i+0 by omega,a] at this
   exact Ca this
  rw[e]
  exact C.ofLt (T.last y (List.mem_of_mem_drop g))
theorem Two.done_end{p q out:Array Keyed}{b d a:Keyed}(T:Two Ok blt p q b d a){i j:Nat}(M:LI blt p q out i j)(c:q.size<=j):sP blt p q (dn p q out i j):=by
 have h:=M.endX T.sp (by rw[Am]; exact c)
 rw[<- T8] at h
 exact h
def HR(blt:Keyed->Keyed->Bool)(p q:Array Keyed)(st:Bx)(n:Nat)(r:ForInStep O0)(a:Bx):Prop:=Kept st a/\match r with
 | .done (some r,_)=>sP blt p q r
 | .done (none,out,i,j,_)=>LI blt p q out i j/\i+1<p.size/\j<q.size/\n<i+j
 | .yield (none,out,i,j,_)=>LI blt p q out i j/\i+1<p.size/\j<q.size/\n<i+j
 | .yield (some _,_)=>False
theorem vD(C:Cmp prog w A s d Ok blt){p q out:Array Keyed}{l r o:Keyed}(T:Two Ok blt p q l r o){i j g e k n:Nat}{a st:Bx}(kp:Kept a st)(M:LI blt p q out i j)(u:i+1<p.size)(h:j<q.size)(t:n<=i+j){x:Keyed}(f:p[i]? = some x)(m:∀z∈q.toList.drop j,le blt x z):wpS (model prog w) A E s (S5 p q out i j g e k) (HR blt p q a n) st:=by
 unfold S5
 refine Ba (Gk f ?_)
 have M1:LI blt p q (out.push x) (i+1) j:=by
  have:=M.pushX T.sp (Eu f) m
  rw[<- Pa] at this
  exact this
 by_cases b:i+1+1=p.size
 ·rw[if_pos (by rw[b]; exact beq_self_eq_true _)]
  exact Bi ⟨kp,T.last_end C M1 b⟩
 ·rw[if_neg (λz=>b (Ee z))]
  by_cases c:(decide (e<7) && decide (k<7))=true
  ·rw[if_pos c]
   exact Bi ⟨kp,M1,by omega,h,by omega⟩
  ·rw[if_neg c]
   exact Bi ⟨kp,M1,by omega,h,by omega⟩
theorem uX(C:Cmp prog w A s d Ok blt){p q out:Array Keyed}{O y0 U:Keyed}(T:Two Ok blt p q O y0 U){i j g W Y n:Nat}{o st:Bx}(kp:Kept o st)(P:kindOf st=d)(M:LI blt p q out i j)(F:i+1<p.size)(hj:j<q.size)(hn:n<=i+j){x y:Keyed}(f:p[i]? = some x)(L:q[j]? = some y)(v:blt y x=true):wpS (model prog w) A E s (V5 p q out i j g W Y) (HR blt p q o n) st:=by
 unfold V5
 refine Ba (Gk L ?_)
 have M1:LI blt p q (out.push y) i (j+1):=by
  have:=M.pushY T.sq (Eu L) (Qk C T.sp (Eu f) (C.ofLt v))
  rw[<- Pa] at this
  exact this
 by_cases I:j+1=q.size
 ·rw[if_pos (by rw[I]; exact beq_self_eq_true _)]
  exact Bi ⟨kp,T.done_end M1 (by omega)⟩
 ·rw[if_neg (λz=>I (Ee z))]
  refine Ba (Gk f ?_)
  have R:Row Ok q (j+1) (q.size - (j+1)) (λm=>q.getD (j+1+m) y):=⟨λm u=>?_,λm u=>?_⟩
  ·refine Ba (Pd C R (T.op x (Ko f)) P (by omega) (λa b Z hb K=>?_) λk Q t1 G=>?_)
   ·obtain ⟨t,c⟩:=Gr (p:=q) (i:=j+1+a) (by omega)
    obtain ⟨X,J⟩:=Gr (p:=q) (i:=j+1+b) (by omega)
    have ga:q.getD (j+1+a) y=t:=by simp [Da,c]
    have V:q.getD (j+1+b) y=X:=by simp [Da,J]
    simp only[ga,V,Hn,if_true] at K ⊢
    exact C.leLt (Lw C T.sq (by omega) (Eu c) (Eu J)) K
   ·dsimp only
    have val:∀m h,q[j+1+m]? = some h->q.getD (j+1+m) y=h:=λm h e=>by simp [Da,e]
    have M2:LI blt p q (out.push y++q.extract (j+1) (j+1+k)) i (j+1+k):=by
     have:=M1.blockY T.sq k (by rw[Am]; omega) (λm u h S=>by
      have D:q[j+1+m]? = some h:=by simpa using S
      have:=t1 m u
      rw[val m h D] at this
      simp only[Hn,if_true] at this
      exact Qk C T.sp (Eu f) (C.ofLt this))
     rw[<- Yc,<- Dx] at this
     exact this
    by_cases H:k > 0
    ·rw[if_pos H]
     by_cases N:j+1+k=q.size
     ·rw[if_pos (by rw[N]; exact beq_self_eq_true _)]
      exact Bi ⟨kp,T.done_end M2 (by omega)⟩
     ·rw[if_neg (λz=>N (Ee z))]
      obtain ⟨r,l⟩:=Gr (p:=q) (i:=j+1+k) (by omega)
      refine vD C T kp M2 F (by omega) (by omega) f (Qk C T.sq (Eu l) ?_)
      have:=G k (Aj _) (by omega)
      rw[val k r l] at this
      have z:blt r x=false:=by simpa only [Hn,if_true] using this
      exact z
    ·rw[if_neg H]
     have B:k=0:=by omega
     subst B
     obtain ⟨r,l⟩:=Gr (p:=q) (i:=j+1) (by omega)
     refine vD C T kp M1 F (by omega) (by omega) f (Qk C T.sq (Eu l) ?_)
     have:=G 0 (Aj _) (by omega)
     rw[val 0 r l] at this
     have z:blt r x=false:=by simpa only [Hn,if_true] using this
     exact z
  ·obtain ⟨t,c⟩:=Gr (p:=q) (i:=j+1+m) (by omega)
   rw[c]
   simp [Da,c]
  ·obtain ⟨t,c⟩:=Gr (p:=q) (i:=j+1+m) (by omega)
   have : q.getD (j+1+m) y=t:=by simp [Da,c]
   rw[this]
   exact T.oq t (Ko c)
theorem S9(C:Cmp prog w A s d Ok blt){p q out:Array Keyed}{S y0 H:Keyed}(T:Two Ok blt p q S y0 H){i j g Z bc n:Nat}{u st:Bx}(kp:Kept u st)(U:kindOf st=d)(M:LI blt p q out i j)(V:i+1<p.size)(B:j<q.size)(Q:n<=i+j):wpS (model prog w) A E s (CT p q out i j g Z bc) (HR blt p q u n) st:=by
 unfold CT
 refine Ba (Ve λJ t=>?_)
 have f:=kp.trans t
 have h:kindOf J=d:=t.kind.trans U
 obtain ⟨y,r⟩:=Gr (p:=q) B
 refine Ba (Gk r ?_)
 have val:∀m o,p[i+m]? = some o->p.getD (i+m) y=o:=λm o e=>by simp [Da,e]
 have R:Row Ok p i (p.size - i) (λm=>p.getD (i+m) y):=⟨λm D=>by
  obtain ⟨l,c⟩:=Gr (p:=p) (i:=i+m) (by omega)
  rw[val m l c,c],λm D=>by
  obtain ⟨l,c⟩:=Gr (p:=p) (i:=i+m) (by omega)
  show Ok (p.getD (i+m) y)
  rw[val m l c]
  exact T.op l (Ko c)⟩
 refine Ba (Pd C R (T.oq y (Ko r)) h (by omega) (λa b h0 hb P=>?_) λk W O X=>?_)
 ·obtain ⟨l,c⟩:=Gr (p:=p) (i:=i+a) (by omega)
  obtain ⟨xb,N⟩:=Gr (p:=p) (i:=i+b) (by omega)
  simp only[val a l c,val b xb N,Hn,Bz,if_false,Kx] at P ⊢
  exact C.trans (Lw C T.sp (by omega) (Eu c) (Eu N)) P
 ·dsimp only
  -- the last one is beyond y: so k does not reach it
  have h1:i+k+1<=p.size:=by
   rcases Nat.lt_or_ge (i+k) p.size with z | z
   ·omega
   ·exfalso
    have:=O (p.size - 1 - i) (by omega)
    have e:p[i+(p.size - 1 - i)]? = some H:=by
     rw[show i+(p.size - 1 - i)=p.size - 1 by omega]
     exact T.hxl
    rw[val _ H e] at this
    simp only[Hn,Bz,if_false,T.last y (Ko r),Tb] at this
  have M1:LI blt p q (out++p.extract i (i+k)) (i+k) j:=by
   have:=M.blockX T.sp k (by rw[Am]; omega) (λm D o Y=>by
    have F:p[i+m]? = some o:=by simpa using Y
    have:=O m D
    rw[val m o F] at this
    simp only[Hn,Bz,if_false,Kx] at this
    exact Qk C T.sq (Eu r) this)
   rw[<- Yc,<- Dx] at this
   exact this
  obtain ⟨L,x⟩:=Gr (p:=p) (i:=i+k) (by omega)
  have v:blt y L=true:=by
   have:=X k (Aj _) (by omega)
   rw[val k L x] at this
   simpa only [Hn,Bz,if_false,aV] using this
  by_cases K:k > 0
  ·rw[if_pos K]
   by_cases I:i+k+1=p.size
   ·rw[if_pos (by rw[I]; exact beq_self_eq_true _)]
    exact Bi ⟨f,T.last_end C M1 I⟩
   ·rw[if_neg (λz=>I (Ee z)),if_neg (λz=>by have:=Ee z; omega)]
    exact uX C T f h M1 (by omega) B (by omega) x r v
  ·rw[if_neg K]
   have G:k=0:=by omega
   subst G
   exact uX C T f h M V B Q x r v
theorem sE(C:Cmp prog w A s d Ok blt){p q:Array Keyed}{x0 Z xl:Keyed}(T:Two Ok blt p q x0 Z xl){st:Bx}(V:kindOf st=d){Q:Array Keyed->Bx->Prop}(h:∀r a,Kept st a->sP blt p q r->Q r a):wpS (model prog w) A E s (pQ p q) Q st:=by
 have p0:0<p.size:=by
  have:=(Ic.mp T.hx0).1
  exact this
 have q0:0<q.size:=by
  have:=(Ic.mp T.hy0).1
  exact this
 have R:LI blt p q #[Z] 0 1:=by
  have m:LI blt p q #[] 0 0:=⟨by simp,by simp,λo O=>by simp at O,λo O=>by simp at O⟩
  have:=m.pushY T.sq (Eu T.hy0) (Qk C T.sp (Eu T.hx0) (C.ofLt T.first))
  simpa using this
 unfold pQ
 refine Ba (Vn ?_)
 refine Ba (Gk T.hy0 ?_)
 dsimp only
 by_cases X:1=q.size
 ·rw[if_pos (by rw[<- X]; rfl)]
  exact Bi (h _ _ (Kept.refl _) (T.done_end R (by omega)))
 rw[if_neg (λz=>X (Ee z))]
 by_cases W:0+1=p.size
 ·rw[if_pos (by rw[<- W]; rfl)]
  exact Bi (h _ _ (Kept.refl _) (T.last_end C R (by omega)))
 rw[if_neg (λz=>W (Ee z))]
 refine Ba (Oo ?_)
 refine Ba (Ib (Ex
  (I:=λx c a=>Kept st a/\∃out i j g,c=(none,out,i,j,g)/\LI blt p q out i j/\i+1<p.size/\j<q.size/\x+1<=i+j)
  (Q:=λc a=>Kept st a/\∃r Ie,c=(some r,Ie)/\sP blt p q r) ?_ ?_ ⟨Kept.refl _,_,0,1,_,rfl,R,by omega,by omega,by omega⟩) ?_)
 ·(intro x c D _ F u; obtain ⟨n,out,i,j,g,rfl,M,t,l,v⟩ := u)
  dsimp only
  -- one by one
  refine Ba (Ib (Ex
   (I:=λ_ c a=>a=D/\∃out i j e f,c=(none,out,i,j,e,f)/\LI blt p q out i j/\i+1<p.size/\j<q.size/\x+1<=i+j)
   (Q:=λc a=>a=D/\((∃r Ie,c=(some r,Ie)/\sP blt p q r)\/∃out i j e f,c=(none,out,i,j,e,f)/\LI blt p q out i j/\i+1<p.size/\j<q.size/\x+1<=i+j)) ?_ ?_ ⟨rfl,out,i,j,0,0,rfl,M,t,l,v⟩) ?_)
  ·(intro z c J _ hz u; obtain ⟨rfl,out,i,j,e,f,rfl,M,t,l,v⟩ := u)
   dsimp only
   obtain ⟨N,G⟩:=Gr (p:=q) l
   obtain ⟨P,F⟩:=Gr (p:=p) (i:=i) (by omega)
   refine Ba (Gk G ?_)
   refine Ba (Gk F ?_)
   refine Ba (pJ C (n.kind.trans V) (T.oq N (Ko G)) (T.op P (Ko F)) ?_)
   dsimp only
   cases U:blt N P with
   | true =>
    rw[if_pos rfl]
    refine Ba (Gk G ?_)
    have M1:LI blt p q (out.push N) i (j+1):=by
     have:=M.pushY T.sq (Eu G) (Qk C T.sp (Eu F) (C.ofLt U))
     rw[<- Pa] at this
     exact this
    by_cases K:j+1=q.size
    ·rw[if_pos (by rw[K]; exact beq_self_eq_true _)]
     exact Bi ⟨rfl,.inl ⟨_,_,rfl,T.done_end M1 (by omega)⟩⟩
    ·rw[if_neg (λz=>K (Ee z))]
     split
     ·exact Bi ⟨rfl,.inr ⟨_,_,_,_,_,rfl,M1,t,by omega,by omega⟩⟩
     ·exact Bi ⟨rfl,_,_,_,_,_,rfl,M1,t,by omega,by omega⟩
   | false =>
    rw[if_neg Bs]
    refine Ba (Gk F ?_)
    have M1:LI blt p q (out.push P) (i+1) j:=by
     have:=M.pushX T.sp (Eu F) (Qk C T.sq (Eu G) U)
     rw[<- Pa] at this
     exact this
    by_cases K:i+1+1=p.size
    ·rw[if_pos (by rw[K]; exact beq_self_eq_true _)]
     exact Bi ⟨rfl,.inl ⟨_,_,rfl,T.last_end C M1 (by omega)⟩⟩
    ·rw[if_neg (λz=>K (Ee z))]
     split
     ·exact Bi ⟨rfl,.inr ⟨_,_,_,_,_,rfl,M1,by omega,l,by omega⟩⟩
     ·exact Bi ⟨rfl,_,_,_,_,_,rfl,M1,by omega,l,by omega⟩
  ·(intro c J u; obtain ⟨rfl,out,i,j,e,f,rfl,M⟩ := u)
   exact ⟨rfl,.inr ⟨out,i,j,e,f,rfl,M⟩⟩
  ·rintro c J ⟨rfl,hc⟩
   rcases hc with hc | hc
   ·obtain ⟨r,Ie,rfl,b⟩:=hc
    exact Bi ⟨n,r,_,rfl,b⟩
   ·obtain ⟨out,i,j,e,f,rfl,M,t,l,v⟩:=hc
    dsimp only
    refine Ba (Vn ?_)
    -- the gallop
    refine Ba (Ib (Ex
     (I:=λy c a=>Kept st a/\∃out i j g e f,c=(none,out,i,j,g,e,f)/\LI blt p q out i j/\i+1<p.size/\j<q.size/\(if y=0 then x+1<=i+j else x+2<=i+j))
     (Q:=λc a=>Kept st a/\((∃r Ie,c=(some r,Ie)/\sP blt p q r)\/∃out i j g e f,c=(none,out,i,j,g,e,f)/\LI blt p q out i j/\i+1<p.size/\j<q.size/\x+2<=i+j)) ?_ ?_
     ⟨n,out,i,j,_,e,f,rfl,M,t,l,by rw[if_pos rfl]; exact v⟩) ?_)
    ·(intro y c Rr _ G u; obtain ⟨k,out,i,j,g,e,f,rfl,M,t,l,v⟩ := u)
     have L:x+1<=i+j:=by split at v <;> omega
     have H:∀Y,wpS (model prog w) A E s (CT p q out i j Y e f) (HR blt p q st (x+1)) Rr:=λY=>S9 C T k (k.kind.trans V) M t l L
     dsimp only
     refine Ib (?_:wpS (model prog w) A E s _ (HR blt p q st (x+1)) Rr) λr S b=>?_
     ·by_cases hg:g > 1
      ·rw[if_pos hg]
       exact H _
      ·rw[if_neg hg]
       exact H _
     ·obtain ⟨B,b⟩:=b
      match r,b with
      | .done (some r,Ie),b=>exact ⟨B,.inl ⟨r,Ie,rfl,b⟩⟩
      | .done (none,out,i,j,g,e,f),b=>exact ⟨B,.inr ⟨out,i,j,g,e,f,rfl,b.1,b.2.1,b.2.2.1,by have:=b.2.2.2; omega⟩⟩
      | .yield (none,out,i,j,g,e,f),b=>exact ⟨B,out,i,j,g,e,f,rfl,b.1,b.2.1,b.2.2.1,by rw[if_neg (by omega)]; have:=b.2.2.2; omega⟩
    ·(intro c Rr u; obtain ⟨k,out,i,j,g,e,f,rfl,M,t,l,v⟩ := u)
     rw[if_neg (by omega)] at v
     exact ⟨k,.inr ⟨out,i,j,g,e,f,rfl,M,t,l,v⟩⟩
    ·rintro c Rr ⟨k,hc⟩
     rcases hc with hc | hc
     ·obtain ⟨r,Ie,rfl,b⟩:=hc
      exact Bi ⟨k,r,_,rfl,b⟩
     ·obtain ⟨out,i,j,g,e,f,rfl,M,t,l,v⟩:=hc
      dsimp only
      refine Ba (Ve λS B=>?_)
      exact Bi ⟨k.trans B,out,i,j,_,rfl,M,t,l,by omega⟩
 ·(intro c D u; obtain ⟨n,out,i,j,g,rfl,M,t,l,v⟩ := u)
  exfalso
  have : max 0 (p.size+q.size)=p.size+q.size:=by omega
  rw[this] at v
  omega
 ·(intro c D u; obtain ⟨n,r,Ie,rfl,b⟩ := u)
  exact Bi (h r D n b)
end
def oZ:Array Keyed->Array Keyed->StateT Bx Sem (Array Keyed):=sortPriv% PySem.Builtin.mergeHi
abbrev AU(p q out:Array Keyed)(m n:Nat):Array Keyed:=p.extract 0 m++q.extract 0 n++out.reverse
abbrev JE(p q out:Array Keyed)(m n:Nat):Array Keyed:=q.extract 0 n++p.extract 0 m++out.reverse
abbrev N4:=Option (Array Keyed)×Nat×Nat×Array Keyed×Nat×Nat×Nat
def U1(p q out:Array Keyed)(m n g a k:Nat):StateT Bx Sem (ForInStep N4):=do
 let x <- elem' p (m - 1)
 if (m - 1 == 0)=true then pure (Dg (some (AU p q (out.push x) (m - 1) n),m - 1,n,out.push x,g,a,k))
 else if (decide (a<7) && decide (k<7))=true then pure (Dg (none,m - 1,n,out.push x,g,a,k))
 else pure (Et (none,m - 1,n,out.push x,g,a,k))
def P8(p q out:Array Keyed)(m n g a b:Nat):StateT Bx Sem (ForInStep N4):=do
 let y <- elem' q (n - 1)
 if (n - 1 == 1)=true then pure (Dg (some (JE p q (out.push y) m (n - 1)),m,n - 1,out.push y,g,a,b))
 else do
  let x <- elem' p (m - 1)
  let some t <- Vr true x q 0 (n - 1) (n - 1 - 1) | pure (Dg (some (AU p q (out.push y) m (n - 1)),m,n - 1,out.push y,g,a,b))
  if n - 1 - t > 0 then
   if (t == 1)=true then pure (Dg (some (JE p q (out.push y++(q.extract t (n - 1)).reverse) m t),m,t,out.push y++(q.extract t (n - 1)).reverse,g,a,n - 1 - t))
   else if (t == 0)=true then pure (Dg (some (AU p q (out.push y++(q.extract t (n - 1)).reverse) m t),m,t,out.push y++(q.extract t (n - 1)).reverse,g,a,n - 1 - t))
   else U1 p q (out.push y++(q.extract t (n - 1)).reverse) m t g a (n - 1 - t)
  else U1 p q (out.push y) m (n - 1) g a (n - 1 - t)
def AI(p q out:Array Keyed)(m n g b a:Nat):StateT Bx Sem (ForInStep N4):=do
 bZ g
 let y <- elem' q (n - 1)
 let some t <- Vr false y p 0 m (m - 1) | pure (Dg (some (AU p q out m n),m,n,out,g,b,a))
 if m - t > 0 then
  if (t == 0)=true then pure (Dg (some (AU p q (out++(p.extract t m).reverse) t n),t,n,out++(p.extract t m).reverse,g,m - t,a))
  else P8 p q (out++(p.extract t m).reverse) t n g (m - t) a
 else P8 p q out m n g (m - t) a
section
variable{a:Type}{R:a->a->Prop}{xs ys out:List a}{i j:Nat}
theorem MI.swap(M:MI R xs ys out i j):MI R ys xs out j i:=⟨M.perm.trans El,M.srt,M.ly,M.lx⟩
theorem MI.endXY(M:MI R xs ys out i j)(a:xs.Pairwise R)(b:ys.Pairwise R)(h:∀x∈xs.drop i,∀y∈ys.drop j,R x y):(out++xs.drop i++ys.drop j).Perm (xs++ys)/\(out++xs.drop i++ys.drop j).Pairwise R:=by
 have:=M.swap.endYX b a h
 exact ⟨this.1.trans El,this.2⟩
end
abbrev ge(blt:Keyed->Keyed->Bool)(x y:Keyed):Prop:=le blt y x
abbrev HI(blt:Keyed->Keyed->Bool)(p q out:Array Keyed)(m n:Nat):Prop:=MI (ge blt) p.toList.reverse q.toList.reverse out.toList (p.size - m) (q.size - n)
theorem Kq(p:Array Keyed){m:Nat}(h:m<=p.size):p.toList.reverse.drop (p.size - m)=(p.toList.take m).reverse:=by
 rw[List.drop_reverse,Am]
 congr 2
 omega
theorem A7{p:Array Keyed}{m:Nat}{x:Keyed}(h0:0<m)(h:m<=p.size)(e:p[m - 1]? = some x):p.toList.reverse[p.size - m]? = some x:=by
 rw[Wg (by rw[Am]; omega),Am,show p.size - 1 - (p.size - m)=m - 1 by omega]
 exact Eu e
theorem S6(p:Array Keyed)(m:Nat):(p.extract 0 m).toList=p.toList.take m:=by
 rw[Ov,Lr,Nk,Nat.sub_zero]
theorem FT(p:Array Keyed){t m:Nat}(h1:t<=m)(a:m<=p.size):(p.extract t m).reverse.toList=(p.toList.reverse.drop (p.size - m)).take (m - t):=by
 rw[Kq p a,List.take_reverse,Wn,Ov,Lr,Cz,Am,List.drop_take]
 congr 2
 ·omega
 ·congr 1
  omega
section
variable{prog:Bk}{w:World}{A:Ci}{s:Ah}{d:Mz}{Ok:Keyed->Prop}{blt:Keyed->Keyed->Bool}{E:Value->Ah->Prop}
theorem Kn{l:List Keyed}(h:l.Pairwise (le blt)):l.reverse.Pairwise (ge blt):=We.mpr h
theorem Two.dn_end{p q out:Array Keyed}{g j i:Keyed}(T:Two Ok blt p q g j i){m n:Nat}(M:HI blt p q out m n)(c:m<=p.size)(b:n<=q.size)(h:m=0\/n=0):sP blt p q (AU p q out m n):=by
 have a:=M.endYX (Kn T.sp) (Kn T.sq) (λy f x d=>by
  rw[Kq p c] at d
  rw[Kq q b] at f
  rcases h with h | h
  ·subst h; simp at d
  ·subst h; simp at f)
 rw[Kq p c,Kq q b] at a
 have e:(AU p q out m n).toList=(out.toList++(q.toList.take n).reverse++(p.toList.take m).reverse).reverse:=by
  rw[Dx,Dx,S6,S6,Wn]
  simp
 refine ⟨?_,?_⟩
 ·rw[e]
  refine (Kw _).trans (a.1.trans ?_)
  exact List.Perm.append (Kw _) (Kw _)
 ·rw[e]
  exact We.mpr a.2
theorem Two.fs_end(C:Cmp prog w A s d Ok blt){p q out:Array Keyed}{u o v:Keyed}(T:Two Ok blt p q u o v){m n:Nat}(M:HI blt p q out m n)(h:m<=p.size)(r:n=1)(j:1<=q.size):sP blt p q (JE p q out m n):=by
 subst r
 have c:=M.endXY (Kn T.sp) (Kn T.sq) (λx i y l=>by
  rw[Kq p h] at i
  rw[Kq q j] at l
  have t:y=o:=by
   have : y∈q.toList.take 1:=Tp.mp l
   obtain ⟨k,a,e⟩:=Gg.mp this
   have g:k=0:=by
    rw[Cz] at a
    omega
   subst g
   have b:q.toList[0]? = some y:=by
    rw[<- e,<- Bt a,Jg (by omega)]
   rw[Eu T.hy0] at b
   exact (Ca b).symm
  rw[t]
  have f:x∈p.toList:=List.mem_of_mem_take (Tp.mp i)
  obtain ⟨k,a,e⟩:=Gg.mp f
  have b:p.toList[k]? = some x:=by rw[<- e,Bt a]
  exact C.trans (C.ofLt T.first) (Lw C T.sp (Do k) (Eu T.hx0) b))
 rw[Kq p h,Kq q j] at c
 have e:(JE p q out m 1).toList=(out.toList++(p.toList.take m).reverse++(q.toList.take 1).reverse).reverse:=by
  rw[Dx,Dx,S6,S6,Wn]
  simp
 refine ⟨?_,?_⟩
 ·rw[e]
  refine (Kw _).trans (c.1.trans ?_)
  exact List.Perm.append (Kw _) (Kw _)
 ·rw[e]
  exact We.mpr c.2
theorem Vm(C:Cmp prog w A s d Ok blt){p:Array Keyed}(sp:p.toList.Pairwise (le blt)){m:Nat}{x y:Keyed}(h0:0<m)(c:m<=p.size)(f:p[m - 1]? = some x)(h:le blt x y):∀z∈p.toList.reverse.drop (p.size - m),ge blt y z:=λz b=>by
 rw[Kq p c] at b
 obtain ⟨k,a,e⟩:=Gg.mp (Tp.mp b)
 have g:p.toList[k]? = some z:=by
  rw[Cz] at a
  rw[<- e,<- Bt (by rw[Cz]; exact a),Jg (by omega)]
 rw[Cz] at a
 exact C.trans (Lw C sp (by omega) g (Eu f)) h
theorem HI.pushX(C:Cmp prog w A s d Ok blt){p q out:Array Keyed}{a f e:Keyed}(T:Two Ok blt p q a f e){m n:Nat}(M:HI blt p q out m n)(h0:0<m)(b:m<=p.size){x:Keyed}(c:p[m - 1]? = some x)(h:∀z∈q.toList.reverse.drop (q.size - n),ge blt x z):HI blt p q (out.push x) (m - 1) n:=by
 have:=MI.pushX M (Kn T.sp) (A7 h0 b c) h
 rw[<- Pa,show p.size - m+1=p.size - (m - 1) by omega] at this
 exact this
theorem HI.pushY(C:Cmp prog w A s d Ok blt){p q out:Array Keyed}{b f e:Keyed}(T:Two Ok blt p q b f e){m n:Nat}(M:HI blt p q out m n)(h0:0<n)(a:n<=q.size){y:Keyed}(c:q[n - 1]? = some y)(h:∀z∈p.toList.reverse.drop (p.size - m),ge blt y z):HI blt p q (out.push y) m (n - 1):=by
 have:=MI.pushY M (Kn T.sq) (A7 h0 a c) h
 rw[<- Pa,show q.size - n+1=q.size - (n - 1) by omega] at this
 exact this
def GF(blt:Keyed->Keyed->Bool)(p q:Array Keyed)(st:Bx)(b:Nat)(r:ForInStep N4)(a:Bx):Prop:=Kept st a/\match r with
 | .done (some r,_)=>sP blt p q r
 | .done (none,m,n,out,_)=>HI blt p q out m n/\0<m/\m<=p.size/\1<n/\n<=q.size/\m+n<b
 | .yield (none,m,n,out,_)=>HI blt p q out m n/\0<m/\m<=p.size/\1<n/\n<=q.size/\m+n<b
 | .yield (some _,_)=>False
theorem tY(C:Cmp prog w A s d Ok blt){p q out:Array Keyed}{l u t:Keyed}(T:Two Ok blt p q l u t){m n g h k b:Nat}{a st:Bx}(kp:Kept a st)(M:HI blt p q out m n)(v:0<m)(o:m<=p.size)(j:1<n)(c:n<=q.size)(hb:m+n<=b){x:Keyed}(i:p[m - 1]? = some x)(r:∀z∈q.toList.reverse.drop (q.size - n),ge blt x z):wpS (model prog w) A E s (U1 p q out m n g h k) (GF blt p q a b) st:=by
 unfold U1
 refine Ba (Gk i ?_)
 have M1:=HI.pushX C T M v o i r
 by_cases e:m - 1=0
 ·rw[if_pos (by rw[e]; rfl)]
  exact Bi ⟨kp,T.dn_end M1 (by omega) c (.inl e)⟩
 ·rw[if_neg (λz=>e (Ee z))]
  by_cases f:(decide (h<7) && decide (k<7))=true
  ·rw[if_pos f]
   exact Bi ⟨kp,M1,by omega,by omega,j,c,by omega⟩
  ·rw[if_neg f]
   exact Bi ⟨kp,M1,by omega,by omega,j,c,by omega⟩
theorem uB(C:Cmp prog w A s d Ok blt){p q out:Array Keyed}{U y0 Z:Keyed}(T:Two Ok blt p q U y0 Z){m n g ac bc b:Nat}{u st:Bx}(kp:Kept u st)(W:kindOf st=d)(M:HI blt p q out m n)(B:0<m)(j:m<=p.size)(n0:1<n)(S:n<=q.size)(hb:m+n<=b){x y:Keyed}(o:p[m - 1]? = some x)(Q:q[n - 1]? = some y)(F:le blt x y):wpS (model prog w) A E s (P8 p q out m n g ac bc) (GF blt p q u b) st:=by
 unfold P8
 refine Ba (Gk Q ?_)
 have M1:=HI.pushY C T M (by omega) S Q (Vm C T.sp B j o F)
 by_cases D:n - 1=1
 ·rw[if_pos (by rw[D]; rfl)]
  exact Bi ⟨kp,T.fs_end C M1 j D (by omega)⟩
 rw[if_neg (λz=>D (Ee z))]
 refine Ba (Gk o ?_)
 have val:∀i l,q[i]? = some l->q.getD (0+i) y=l:=λi l e=>by rw[Nt]; simp [Da,e]
 have R:Row Ok q 0 (n - 1) (λi=>q.getD (0+i) y):=⟨λi J=>by
  obtain ⟨r,h⟩:=Gr (p:=q) (i:=i) (by omega)
  rw[val i r h,Nt,h],λi J=>by
  obtain ⟨r,h⟩:=Gr (p:=q) (i:=i) (by omega)
  show Ok (q.getD (0+i) y)
  rw[val i r h]
  exact T.oq r (Ko h)⟩
 refine Ba (Pd C R (T.op x (Ko o)) W (by omega) (λa c G hc N=>?_) λt ht t1 Y=>?_)
 ·obtain ⟨r,h⟩:=Gr (p:=q) (i:=a) (by omega)
  obtain ⟨yc,P⟩:=Gr (p:=q) (i:=c) (by omega)
  simp only[val a r h,val c yc P,Hn,if_true] at N ⊢
  exact C.leLt (Lw C T.sq G (Eu h) (Eu P)) N
 dsimp only
 have M2:HI blt p q (out.push y++(q.extract t (n - 1)).reverse) m t:=by
  have:=MI.blockY M1 (Kn T.sq) (n - 1 - t) (by rw[List.length_reverse,Am]; omega) (λi J l L=>by
   have e1:q[n - 1 - i - 1]? = some l:=by
    rw[Wg (by rw[Am]; omega),Am,show q.size - 1 - (q.size - (n - 1)+i)=n - 1 - i - 1 by omega] at L
    simpa using L
   have:=Y (n - 1 - i - 1) (by omega) (by omega)
   rw[val _ l e1] at this
   have z:blt l x=false:=by simpa only [Hn,if_true] using this
   exact Vm C T.sp B j o z)
  rw[<- FT q (by omega) (by omega),<- Dx,show q.size - (n - 1)+(n - 1 - t)=q.size - t by omega] at this
  exact this
 -- what is left of q is f x
 have f:∀z∈q.toList.reverse.drop (q.size - t),ge blt x z:=λz O=>by
  rw[Kq q (by omega)] at O
  obtain ⟨k,v,e⟩:=Gg.mp (Tp.mp O)
  rw[Cz] at v
  have X:q.toList[k]? = some z:=by
   rw[<- e,<- Bt (by rw[Cz]; exact v),Jg (by omega)]
  have V:q[k]? = some z:=by simpa using X
  have:=t1 k (by omega)
  rw[val k z V] at this
  exact C.ofLt (by simpa only [Hn,if_true] using this)
 by_cases K:n - 1 - t > 0
 ·rw[if_pos K]
  by_cases I:t=1
  ·rw[if_pos (by rw[I]; rfl)]
   exact Bi ⟨kp,T.fs_end C M2 j I (by omega)⟩
  ·rw[if_neg (λz=>I (Ee z))]
   by_cases H:t=0
   ·rw[if_pos (by rw[H]; rfl)]
    exact Bi ⟨kp,T.dn_end M2 j (by omega) (.inr H)⟩
   ·rw[if_neg (λz=>H (Ee z))]
    exact tY C T kp M2 B j (by omega) (by omega) (by omega) o f
 ·rw[if_neg K]
  have et:t=n - 1:=by omega
  rw[et] at f
  exact tY C T kp M1 B j (by omega) (by omega) (by omega) o f
theorem O7(C:Cmp prog w A s d Ok blt){p q out:Array Keyed}{S y0 X:Keyed}(T:Two Ok blt p q S y0 X){m n g Y Z b:Nat}{v st:Bx}(kp:Kept v st)(V:kindOf st=d)(M:HI blt p q out m n)(O:0<m)(L:m<=p.size)(N:1<n)(D:n<=q.size)(hb:m+n<=b):wpS (model prog w) A E s (AI p q out m n g Y Z) (GF blt p q v b) st:=by
 unfold AI
 refine Ba (Ve λH u=>?_)
 have k:=kp.trans u
 have l:kindOf H=d:=u.kind.trans V
 obtain ⟨y,B⟩:=Gr (p:=q) (i:=n - 1) (by omega)
 refine Ba (Gk B ?_)
 have val:∀i o,p[i]? = some o->p.getD (0+i) y=o:=λi o e=>by rw[Nt]; simp [Da,e]
 have R:Row Ok p 0 m (λi=>p.getD (0+i) y):=⟨λi I=>by
  obtain ⟨r,h⟩:=Gr (p:=p) (i:=i) (by omega)
  rw[val i r h,Nt,h],λi I=>by
  obtain ⟨r,h⟩:=Gr (p:=p) (i:=i) (by omega)
  show Ok (p.getD (0+i) y)
  rw[val i r h]
  exact T.op r (Ko h)⟩
 refine Ba (Pd C R (T.oq y (Ko B)) l (by omega) (λa c F hc P=>?_) λt ht t1 W=>?_)
 ·obtain ⟨r,h⟩:=Gr (p:=p) (i:=a) (by omega)
  obtain ⟨U,Q⟩:=Gr (p:=p) (i:=c) (by omega)
  simp only[val a r h,val c U Q,Hn,Bz,if_false,Kx] at P ⊢
  exact C.trans (Lw C T.sp F (Eu h) (Eu Q)) P
 dsimp only
 have M1:HI blt p q (out++(p.extract t m).reverse) t n:=by
  have:=MI.blockX M (Kn T.sp) (m - t) (by rw[List.length_reverse,Am]; omega) (λi I o K=>by
   have e1:p[m - i - 1]? = some o:=by
    rw[Wg (by rw[Am]; omega),Am,show p.size - 1 - (p.size - m+i)=m - i - 1 by omega] at K
    simpa using K
   have:=W (m - i - 1) (by omega) (by omega)
   rw[val _ o e1] at this
   have z:blt y o=true:=by simpa only [Hn,Bz,if_false,aV] using this
   exact Vm C T.sq (by omega) D B (C.ofLt z))
  rw[<- FT p (by omega) L,<- Dx,show p.size - m+(m - t)=p.size - t by omega] at this
  exact this
 have f:∀x,0<t->p[t - 1]? = some x->le blt x y:=λx h0 j=>by
  have:=t1 (t - 1) (by omega)
  rw[val _ x j] at this
  have z:blt y x=false:=by simpa only [Hn,Bz,if_false,Kx] using this
  exact z
 by_cases J:m - t > 0
 ·rw[if_pos J]
  by_cases G:t=0
  ·rw[if_pos (by rw[G]; rfl)]
   exact Bi ⟨k,T.dn_end M1 (by omega) D (.inl G)⟩
  ·rw[if_neg (λz=>G (Ee z))]
   obtain ⟨x,j⟩:=Gr (p:=p) (i:=t - 1) (by omega)
   exact uB C T k l M1 (by omega) (by omega) N D (by omega) j B (f x (by omega) j)
 ·rw[if_neg J]
  have et:t=m:=by omega
  subst et
  obtain ⟨x,j⟩:=Gr (p:=p) (i:=t - 1) (by omega)
  exact uB C T k l M O L N D hb j B (f x O j)
theorem rO(C:Cmp prog w A s d Ok blt){p q:Array Keyed}{x0 y0 xl:Keyed}(T:Two Ok blt p q x0 y0 xl){st:Bx}(Y:kindOf st=d){Q:Array Keyed->Bx->Prop}(h:∀r a,Kept st a->sP blt p q r->Q r a):wpS (model prog w) A E s (oZ p q) Q st:=by
 have p0:0<p.size:=(Ic.mp T.hx0).1
 have q0:0<q.size:=(Ic.mp T.hy0).1
 obtain ⟨yl,O⟩:=Gr (p:=q) (i:=q.size - 1) (by omega)
 have W:HI blt p q #[xl] (p.size - 1) q.size:=by
  have m:HI blt p q #[] p.size q.size:=⟨by simp,by simp,λo V=>by simp at V,λo V=>by simp at V⟩
  have:=HI.pushX C T m p0 (Aj _) T.hxl (Vm C T.sq q0 (Aj _) O (C.ofLt (T.last yl (Ko O))))
  simpa using this
 unfold oZ
 refine Ba (Vn ?_)
 refine Ba (Gk T.hxl ?_)
 dsimp only
 by_cases U:p.size - 1=0
 ·rw[if_pos (by rw[U]; rfl)]
  exact Bi (h _ _ (Kept.refl _) (T.dn_end W (by omega) (by omega) (.inl U)))
 rw[if_neg (λz=>U (Ee z))]
 by_cases S:q.size=1
 ·rw[if_pos (by rw[S]; rfl)]
  exact Bi (h _ _ (Kept.refl _) (T.fs_end C W (by omega) S (by omega)))
 rw[if_neg (λz=>S (Ee z))]
 refine Ba (Oo ?_)
 refine Ba (Ib (Ex
  (I:=λx c a=>Kept st a/\∃m n out g,c=(none,m,n,out,g)/\HI blt p q out m n/\0<m/\m<=p.size/\1<n/\n<=q.size/\m+n+x+1<=p.size+q.size)
  (Q:=λc a=>Kept st a/\∃r Ie,c=(some r,Ie)/\sP blt p q r) ?_ ?_ ⟨Kept.refl _,_,_,_,_,rfl,W,by omega,by omega,by omega,by omega,by omega⟩) ?_)
 ·(intro x c G _ J B; obtain ⟨u,m,n,out,g,rfl,M,t,k,v,j,D⟩ := B)
  dsimp only
  -- one by one
  refine Ba (Ib (Ex
   (I:=λ_ c a=>a=G/\∃m n out e f,c=(none,m,n,out,e,f)/\HI blt p q out m n/\0<m/\m<=p.size/\1<n/\n<=q.size/\m+n+x+1<=p.size+q.size)
   (Q:=λc a=>a=G/\((∃r Ie,c=(some r,Ie)/\sP blt p q r)\/∃m n out e f,c=(none,m,n,out,e,f)/\HI blt p q out m n/\0<m/\m<=p.size/\1<n/\n<=q.size/\m+n+x+1<=p.size+q.size)) ?_ ?_ ⟨rfl,m,n,out,0,0,rfl,M,t,k,v,j,D⟩) ?_)
  ·(intro z c R _ hz B; obtain ⟨rfl,m,n,out,e,f,rfl,M,t,k,v,j,D⟩ := B)
   dsimp only
   obtain ⟨Z,L⟩:=Gr (p:=q) (i:=n - 1) (by omega)
   obtain ⟨xx,J⟩:=Gr (p:=p) (i:=m - 1) (by omega)
   refine Ba (Gk L ?_)
   refine Ba (Gk J ?_)
   refine Ba (pJ C (u.kind.trans Y) (T.oq Z (Ko L)) (T.op xx (Ko J)) ?_)
   dsimp only
   cases N:blt Z xx with
   | true =>
    rw[if_pos rfl]
    refine Ba (Gk J ?_)
    have M1:=HI.pushX C T M t k J (Vm C T.sq (by omega) j L (C.ofLt N))
    by_cases H:m - 1=0
    ·rw[if_pos (by rw[H]; rfl)]
     exact Bi ⟨rfl,.inl ⟨_,_,rfl,T.dn_end M1 (by omega) j (.inl H)⟩⟩
    ·rw[if_neg (λz=>H (Ee z))]
     split
     ·exact Bi ⟨rfl,.inr ⟨_,_,_,_,_,rfl,M1,by omega,by omega,v,j,by omega⟩⟩
     ·exact Bi ⟨rfl,_,_,_,_,_,rfl,M1,by omega,by omega,v,j,by omega⟩
   | false =>
    rw[if_neg Bs]
    refine Ba (Gk L ?_)
    have M1:=HI.pushY C T M (by omega) j L (Vm C T.sp t k J N)
    by_cases H:n - 1=1
    ·rw[if_pos (by rw[H]; rfl)]
     exact Bi ⟨rfl,.inl ⟨_,_,rfl,T.fs_end C M1 k H (by omega)⟩⟩
    ·rw[if_neg (λz=>H (Ee z))]
     split
     ·exact Bi ⟨rfl,.inr ⟨_,_,_,_,_,rfl,M1,t,k,by omega,by omega,by omega⟩⟩
     ·exact Bi ⟨rfl,_,_,_,_,_,rfl,M1,t,k,by omega,by omega,by omega⟩
  ·(intro c R B; obtain ⟨rfl,m,n,out,e,f,rfl,M⟩ := B)
   exact ⟨rfl,.inr ⟨m,n,out,e,f,rfl,M⟩⟩
  ·rintro c R ⟨rfl,hc⟩
   rcases hc with hc | hc
   ·obtain ⟨r,Ie,rfl,b⟩:=hc
    exact Bi ⟨u,r,_,rfl,b⟩
   ·obtain ⟨m,n,out,e,f,rfl,M,t,k,v,j,D⟩:=hc
    dsimp only
    refine Ba (Vn ?_)
    -- the gallop
    refine Ba (Ib (Ex
     (I:=λy c a=>Kept st a/\∃m n out g e f,c=(none,m,n,out,g,e,f)/\HI blt p q out m n/\0<m/\m<=p.size/\1<n/\n<=q.size/\(if y=0 then m+n+x+1<=p.size+q.size else m+n+x+2<=p.size+q.size))
     (Q:=λc a=>Kept st a/\((∃r Ie,c=(some r,Ie)/\sP blt p q r)\/∃m n out g e f,c=(none,m,n,out,g,e,f)/\HI blt p q out m n/\0<m/\m<=p.size/\1<n/\n<=q.size/\m+n+x+2<=p.size+q.size)) ?_ ?_
     ⟨u,m,n,out,_,e,f,rfl,M,t,k,v,j,by rw[if_pos rfl]; exact D⟩) ?_)
    ·(intro y c Rr _ L B; obtain ⟨l,m,n,out,g,e,f,rfl,M,t,k,v,j,D⟩ := B)
     have h0:m+n+x+1<=p.size+q.size:=by split at D <;> omega
     have P:∀K,wpS (model prog w) A E s (AI p q out m n K e f) (GF blt p q st (m+n)) Rr:=λK=>O7 C T l (l.kind.trans Y) M t k v j (Aj _)
     dsimp only
     refine Ib (?_:wpS (model prog w) A E s _ (GF blt p q st (m+n)) Rr) λr X b=>?_
     ·by_cases hg:g > 1
      ·rw[if_pos hg]
       exact P _
      ·rw[if_neg hg]
       exact P _
     ·obtain ⟨F,b⟩:=b
      match r,b with
      | .done (some r,Ie),b=>exact ⟨F,.inl ⟨r,Ie,rfl,b⟩⟩
      | .done (none,m',n',out',K,ac',bc'),b=>exact ⟨F,.inr ⟨m',n',out',K,ac',bc',rfl,b.1,b.2.1,b.2.2.1,b.2.2.2.1,b.2.2.2.2.1,by have:=b.2.2.2.2.2; omega⟩⟩
      | .yield (none,m',n',out',K,ac',bc'),b=>exact ⟨F,m',n',out',K,ac',bc',rfl,b.1,b.2.1,b.2.2.1,b.2.2.2.1,b.2.2.2.2.1,by rw[if_neg (by omega)]; have:=b.2.2.2.2.2; omega⟩
    ·(intro c Rr B; obtain ⟨l,m,n,out,g,e,f,rfl,M,t,k,v,j,D⟩ := B)
     rw[if_neg (by omega)] at D
     exact ⟨l,.inr ⟨m,n,out,g,e,f,rfl,M,t,k,v,j,D⟩⟩
    ·rintro c Rr ⟨l,hc⟩
     rcases hc with hc | hc
     ·obtain ⟨r,Ie,rfl,b⟩:=hc
      exact Bi ⟨l,r,_,rfl,b⟩
     ·obtain ⟨m,n,out,g,e,f,rfl,M,t,k,v,j,D⟩:=hc
      dsimp only
      refine Ba (Ve λX F=>?_)
      exact Bi ⟨l.trans F,m,n,out,_,rfl,M,t,k,v,j,by omega⟩
 ·(intro c G B; obtain ⟨u,m,n,out,g,rfl,M,t,k,v,j,D⟩ := B)
  exfalso
  have : max 0 (p.size+q.size)=p.size+q.size:=by omega
  rw[this] at D
  omega
 ·(intro c G B; obtain ⟨u,r,Ie,rfl,b⟩ := B)
  exact Bi (h r G u b)
end
def jA:Nat->Nat->StateT Bx Sem (Option Nat):=sortPriv% PySem.Builtin.countRun
def bA:Nat->Nat->Nat->StateT Bx Sem Bool:=sortPriv% PySem.Builtin.binarySort
def X(xs:Array Keyed)(i:Nat):Keyed:=xs[i]?.getD (Gp,Gp)
theorem bQ{xs:Array Keyed}{i:Nat}(h:i<xs.size):xs[i]? = some (X xs i):=by
 unfold X
 rw[getElem?_pos xs i h]
 rfl
theorem Sx{xs ys:Array Keyed}{i j:Nat}(h:xs[i]? = ys[j]?):X xs i=X ys j:=by unfold X; rw[h]
theorem Tw{xs:Array Keyed}{i j:Nat}(a:j<=xs.size)(k:Nat):X (mirror xs i j ((j - i) / 2)) k=if i<=k/\k<j then X xs (i+j - 1 - k) else X xs k:=by
 have e:=getElem?_mirror_all (i:=i) a k
 by_cases h:i<=k/\k<j
 ·rw[if_pos h] at e ⊢; exact Sx e
 ·rw[if_neg h] at e ⊢; exact Sx e
theorem j5{xs:Array Keyed}{src d:Nat}(c:src<xs.size)(hd:d<=src)(k:Nat):X (bubble xs src d) k=if k=src - d then X xs src else if src - d<k/\k<=src then X xs (k - 1) else X xs k:=by
 have e:=getElem?_bubble c d hd k
 by_cases b:k=src - d
 ·rw[if_pos b] at e ⊢; exact Sx e
 ·rw[if_neg b] at e ⊢
  by_cases a:src - d<k/\k<=src
  ·rw[if_pos a] at e ⊢; exact Sx e
  ·rw[if_neg a] at e ⊢; exact Sx e
def Uk(blt:Keyed->Keyed->Bool)(xs:Array Keyed)(a b:Nat):Prop:=∀i j,a<=i->i<=j->j<b->le blt (X xs i) (X xs j)
def zN(blt:Keyed->Keyed->Bool)(xs:Array Keyed)(a b:Nat):Prop:=∀i j,a<=i->i<=j->j<b->le blt (X xs j) (X xs i)
structure Good(kd:Mz)(a₀:Array Keyed)(pend:Array (Nat×Nat×Nat))(st:Bx):Prop where
 kind:kindOf st=kd
 fail:My st=none
 perm:(arrOf st).Perm a₀
 pd:Bh st=pend
def mJ(xs ys:Array Keyed)(a b:Nat):Prop:=∀i,(i<a\/b<=i)->X ys i=X xs i
theorem mJ.refl(xs:Array Keyed)(a b:Nat):mJ xs xs a b:=λ_ _=>rfl
theorem mJ.trans{xs ys c:Array Keyed}{a b:Nat}(h:mJ xs ys a b)(k:mJ ys c a b):mJ xs c a b:=λi d=>(k i d).trans (h i d)
section
variable{prog:Bk}{w:World}{A:Ci}{s:Ah}{f:Mz}{Ok:Keyed->Prop}{blt:Keyed->Keyed->Bool}{E:Value->Ah->Prop}{a₀:Array Keyed}{d:Array (Nat×Nat×Nat)}
theorem Good.size{st:Bx}(g:Good f a₀ d st):(arrOf st).size=a₀.size:=g.perm.size_eq
theorem Good.okX{st:Bx}(g:Good f a₀ d st)(h0:∀x∈a₀.toList,Ok x){i:Nat}(a:i<a₀.size):Ok (X (arrOf st) i):=by
 have e:=bQ (xs:=arrOf st) (i:=i) (by rw[g.size]; exact a)
 exact h0 _ ((Qw.mp g.perm).mem_iff.mp (Ko e))
theorem Good.set{st:Bx}(g:Good f a₀ d st){xs:Array Keyed}(h:xs.Perm (arrOf st)):Good f a₀ d (setArr st xs):=⟨g.kind,g.fail,h.trans g.perm,g.pd⟩
theorem Xs(C:Cmp prog w A s f Ok blt){st:Bx}(g:Good f a₀ d st)(h0:∀x∈a₀.toList,Ok x){i j:Nat}(b:i<a₀.size)(a:j<a₀.size){Q:Option Bool->Bx->Prop}(h:Q (some (blt (X (arrOf st) i) (X (arrOf st) j))) st):wpS (model prog w) A E s (ltAt' i j) Q st:=by
 rw[ltAt'_eq]
 refine Ba (Oo ?_)
 refine Ba (Gk (bQ (by rw[g.size]; exact b)) ?_)
 refine Ba (Gk (bQ (by rw[g.size]; exact a)) ?_)
 exact pJ C g.kind (g.okX h0 b) (g.okX h0 a) h
theorem Sj{st:Bx}{i j:Nat}{Q:Unit->Bx->Prop}(h:Q () (setArr st (mirror (arrOf st) i j ((j - i) / 2)))):wpS (model prog w) A E s (Vx i j) Q st:=by
 rw[reverseSlice'_eq]
 exact Ku h
def GZ(lo a b:Nat):StateT Bx Sem (Option (Option Nat)×Nat) :=
 forIn [a:b] ((none,a):Option (Option Nat)×Nat) λ_ c=>do
  let some gH <- ltAt' (lo+c.2) (lo+c.2 - 1) | pure (Dg (some none,c.2))
  if gH=true then pure (Dg (none,c.2)) else pure (Et (none,c.2+1))
theorem w5(C:Cmp prog w A s f Ok blt){st:Bx}(g:Good f a₀ d st)(h0:∀x∈a₀.toList,Ok x){lo a b:Nat}(hb:lo+b<=a₀.size)(B:1<=a)(p:a<=b)(h1:Uk blt (arrOf st) lo (lo+a)){Q:Option (Option Nat)×Nat->Bx->Prop}(h:∀n,a<=n->n<=b->Uk blt (arrOf st) lo (lo+n)->(n=b\/blt (X (arrOf st) (lo+n)) (X (arrOf st) (lo+n - 1))=true)->Q (none,n) st):wpS (model prog w) A E s (GZ lo a b) Q st:=by
 unfold GZ
 refine Ex (I:=λx c e=>e=st/\c=(none,x)/\Uk blt (arrOf st) lo (lo+x)) ?_ ?_ ⟨rfl,rfl,h1⟩
 ·(intro x c e l y q; obtain ⟨rfl,rfl,k⟩ := q)
  dsimp only
  refine Ba (Xs C g h0 (by omega) (by omega) ?_)
  dsimp only
  cases u:blt (X (arrOf e) (lo+x)) (X (arrOf e) (lo+x - 1)) with
  | true =>
   rw[if_pos rfl]
   exact Bi (h x l (by omega) k (.inr u))
  | false =>
   rw[if_neg Bs]
   refine Bi ⟨rfl,rfl,λi j t r z=>?_⟩
   by_cases m:j<lo+x
   ·exact k i j t r m
   ·have v:j=lo+x:=by omega
    subst v
    by_cases o:i=lo+x
    ·subst o; exact C.refl _
    ·exact C.trans (k i (lo+x - 1) t (by omega) (by omega)) u
 ·(intro c e q; obtain ⟨rfl,rfl,k⟩ := q)
  rw[show max a b=b by omega] at k ⊢
  exact h b p (Aj _) k (.inl rfl)
theorem sN{xs:Array Keyed}{lo n:Nat}(a:lo+n<=xs.size)(h:zN blt xs lo (lo+n)):Uk blt (mirror xs lo (lo+n) ((lo+n - lo) / 2)) lo (lo+n):=λi j d b c=>by
 rw[Tw a,Tw a,if_pos (by omega),if_pos (by omega)]
 exact h _ _ (by omega) (by omega) (by omega)
theorem aI{xs:Array Keyed}{lo n b e:Nat}(m:lo+n<=xs.size)(l:e<=lo+n)(hb:lo<=b)(h:zN blt xs lo (lo+n))(c:∀i j,b<=i->i<e->b<=j->j<e->le blt (X xs i) (X xs j)):zN blt (mirror xs b e ((e - b) / 2)) lo (lo+n):=λi j g d k=>by
 rw[Tw (by omega),Tw (by omega)]
 by_cases f:b<=j/\j<e
 ·rw[if_pos f]
  by_cases a:b<=i/\i<e
  ·rw[if_pos a]
   exact c _ _ (by omega) (by omega) (by omega) (by omega)
  ·rw[if_neg a]
   exact h _ _ g (by omega) (by omega)
 ·rw[if_neg f]
  by_cases a:b<=i/\i<e
  ·rw[if_pos a]
   exact h _ _ (by omega) (by omega) (by omega)
  ·rw[if_neg a]
   exact h i j g d k
theorem Sz{xs:Array Keyed}{a b i j:Nat}(h1:a<=i)(e:j<=b)(c:j<=xs.size):mJ xs (mirror xs i j ((j - i) / 2)) a b:=λk d=>by
 rw[Tw c,if_neg (by omega)]
def A5(lo n b:Nat):StateT Bx Sem (Option Nat):=do
 Vx lo (lo+n)
 let mut m:=n
 for _ in [n:b] do
  let some gH <- ltAt' (lo+m) (lo+m - 1) | return none
  if gH then break
  m:=m+1
 return some m
theorem tX(C:Cmp prog w A s f Ok blt){st:Bx}(g:Good f a₀ d st)(h0:∀x∈a₀.toList,Ok x){lo n b:Nat}(hb:lo+b<=a₀.size)(l:1<=n)(e:n<=b)(h1:zN blt (arrOf st) lo (lo+n)){Q:Option Nat->Bx->Prop}(h:∀m a,Good f a₀ d a->1<=m->m<=b->Uk blt (arrOf a) lo (lo+m)->mJ (arrOf st) (arrOf a) lo (lo+b)->Q (some m) a):wpS (model prog w) A E s (A5 lo n b) Q st:=by
 unfold A5
 have c:lo+n<=(arrOf st).size:=by rw[g.size]; omega
 refine Ba (Sj ?_)
 have j:Good f a₀ d (setArr st (mirror (arrOf st) lo (lo+n) ((lo+n - lo) / 2))):=g.set (mirror_perm _ _ _ _)
 refine Ba (w5 C j h0 hb l e (sN c h1) λm k i o _=>?_)
 exact Bi (h m _ j (by omega) i o (Sz (Aj _) (by omega) c))
abbrev BA:=Option (Option Nat)×Nat×Nat
def FC(lo a b:Nat):StateT Bx Sem BA :=
 forIn [a:b] ((none,a,0):BA) λ_ c=>do
  let some gH <- ltAt' (lo+c.2.1) (lo+c.2.1 - 1) | pure (Dg (some none,c.2.1,c.2.2))
  if gH=true then
   if c.2.2 > 0 then do
    Vx (lo+c.2.1 - (c.2.2+1)) (lo+c.2.1)
    pure (Et (none,c.2.1+1,0))
   else pure (Et (none,c.2.1+1,0))
  else do
   let some more <- ltAt' (lo+c.2.1 - 1) (lo+c.2.1) | pure (Dg (some none,c.2.1,c.2.2))
   if more=true then pure (Dg (none,c.2.1,c.2.2)) else pure (Et (none,c.2.1+1,c.2.2+1))
def O2(blt:Keyed->Keyed->Bool)(xs:Array Keyed)(lo n e:Nat):Prop:=e+1<=n/\∀i j,lo+n - (e+1)<=i->i<lo+n->lo+n - (e+1)<=j->j<lo+n->le blt (X xs i) (X xs j)
theorem u3(C:Cmp prog w A s f Ok blt){xs:Array Keyed}{lo n:Nat}(h:1<=n):O2 blt xs lo n 0:=⟨by omega,λi j b a c d=>by
 have e:i=j:=by omega
 subst e
 exact C.refl _⟩
theorem Yr(C:Cmp prog w A s f Ok blt){xs:Array Keyed}{lo n:Nat}(g:1<=n)(h:zN blt xs lo (lo+n))(hl:le blt (X xs (lo+n)) (X xs (lo+n - 1))):zN blt xs lo (lo+(n+1)):=λi j d c k=>by
 by_cases a:j<lo+n
 ·exact h i j d c a
 ·have e:j=lo+n:=by omega
  subst e
  by_cases b:i=lo+n
  ·subst b; exact C.refl _
  ·exact C.trans hl (h i (lo+n - 1) d (by omega) (by omega))
theorem Q0(C:Cmp prog w A s f Ok blt){st:Bx}(g:Good f a₀ d st)(h0:∀x∈a₀.toList,Ok x){lo a b:Nat}(hb:lo+b<=a₀.size)(P:1<=a)(z:a<=b)(h1:zN blt (arrOf st) lo (lo+a)){Q:BA->Bx->Prop}(h:∀n e k,Good f a₀ d k->a<=n->n<=b->zN blt (arrOf k) lo (lo+n)->O2 blt (arrOf k) lo n e->mJ (arrOf st) (arrOf k) lo (lo+b)->Q (none,n,e) k):wpS (model prog w) A E s (FC lo a b) Q st:=by
 unfold FC
 refine Ex (I:=λx c k=>∃e,c=(none,x,e)/\Good f a₀ d k/\zN blt (arrOf k) lo (lo+x)/\O2 blt (arrOf k) lo x e/\mJ (arrOf st) (arrOf k) lo (lo+b)) ?_ ?_
  ⟨0,rfl,g,h1,u3 C P,mJ.refl _ _ _⟩
 ·(intro x c k u O B; obtain ⟨e,rfl,m,o,l,p⟩ := B)
  have M:(arrOf k).size=a₀.size:=m.size
  dsimp only
  refine Ba (Xs C m h0 (by omega) (by omega) ?_)
  dsimp only
  cases K:blt (X (arrOf k) (lo+x)) (X (arrOf k) (lo+x - 1)) with
  | true =>
   rw[if_pos rfl]
   have J:=Yr C (by omega) o (C.ofLt K)
   have one:∀F:Array Keyed,O2 blt F lo (x+1) 0:=λF=>⟨by omega,λi j t q v r=>by
    have : i=j:=by omega
    subst this
    exact C.refl _⟩
   by_cases G:e > 0
   ·rw[if_pos G]
    refine Ba (Sj ?_)
    refine Bi ⟨0,rfl,m.set (mirror_perm _ _ _ _),?_,one _,p.trans (Sz (by have:=l.1; omega) (by omega) (by omega))⟩
    exact aI (by omega) (by omega) (by have:=l.1; omega) J λi j t q v r=>l.2 i j t q v r
   ·rw[if_neg G]
    exact Bi ⟨0,rfl,m,J,one _,p⟩
  | false =>
   rw[if_neg Bs]
   refine Ba (Xs C m h0 (by omega) (by omega) ?_)
   dsimp only
   cases H:blt (X (arrOf k) (lo+x - 1)) (X (arrOf k) (lo+x)) with
   | true =>
    rw[if_pos rfl]
    exact Bi (h x e k m u (by omega) o l p)
   | false =>
    rw[if_neg Bs]
    refine Bi ⟨e+1,rfl,m,Yr C (by omega) o H,⟨by have:=l.1; omega,λi j t q v r=>?_⟩,p⟩
    have N:le blt (X (arrOf k) (lo+x - 1)) (X (arrOf k) (lo+x)):=K
    have L:le blt (X (arrOf k) (lo+x)) (X (arrOf k) (lo+x - 1)):=H
    by_cases D:i=lo+x
    ·by_cases y:j=lo+x
     ·rw[D,y]; exact C.refl _
     ·rw[D]
      exact C.trans L (l.2 (lo+x - 1) j (by omega) (by omega) (by omega) (by omega))
    ·by_cases y:j=lo+x
     ·rw[y]
      exact C.trans (l.2 i (lo+x - 1) (by omega) (by omega) (by omega) (by omega)) N
     ·exact l.2 i j (by omega) (by omega) (by omega) (by omega)
 ·(intro c k B; obtain ⟨e,rfl,m,o,l,p⟩ := B)
  rw[show max a b=b by omega] at o l ⊢
  exact h b e k m z (Aj _) o l p
def Z4(lo n b:Nat):StateT Bx Sem (Option Nat):=do
 liftM (rule "list.sort.descending-run")
 let mut m:=n+1
 let mut e:=0
 for _ in [m:b] do
  let some gH <- ltAt' (lo+m) (lo+m - 1) | return none
  if gH then
   if e > 0 then Vx (lo+m - (e+1)) (lo+m)
   e:=0
  else
   let some more <- ltAt' (lo+m - 1) (lo+m) | return none
   if more then break
   e:=e+1
  m:=m+1
 if e > 0 then Vx (lo+m - (e+1)) (lo+m)
 A5 lo m b
theorem uC(C:Cmp prog w A s f Ok blt){st:Bx}(g:Good f a₀ d st)(h0:∀x∈a₀.toList,Ok x){lo n b:Nat}(hb:lo+b<=a₀.size)(v:n+1<=b)(h1:zN blt (arrOf st) lo (lo+(n+1))){Q:Option Nat->Bx->Prop}(h:∀m a,Good f a₀ d a->1<=m->m<=b->Uk blt (arrOf a) lo (lo+m)->mJ (arrOf st) (arrOf a) lo (lo+b)->Q (some m) a):wpS (model prog w) A E s (Z4 lo n b) Q st:=by
 unfold Z4
 refine Ba (Vn ?_)
 refine Ba (Q0 C g h0 hb (by omega) v h1 λk e y u L B F r D=>?_)
 dsimp only
 have H:(arrOf y).size=a₀.size:=u.size
 by_cases z:e > 0
 ·rw[if_pos z]
  refine Ba (Sj ?_)
  refine tX C (u.set (mirror_perm _ _ _ _)) h0 hb (by omega) B (aI (by omega) (by omega) (by have:=r.1; omega) F λi j J G K I=>r.2 i j J G K I) λm l o t q p c=>?_
  exact h m l o t q p ((D.trans (Sz (by have:=r.1; omega) (by omega) (by omega))).trans c)
 ·rw[if_neg z]
  exact tX C u h0 hb (by omega) B F λm l o t q p c=>h m l o t q p (D.trans c)
theorem C8(C:Cmp prog w A s f Ok blt){st:Bx}(g:Good f a₀ d st)(h0:∀x∈a₀.toList,Ok x){lo b:Nat}(hb:lo+b<=a₀.size)(N:1<=b){Q:Option Nat->Bx->Prop}(h:∀m a,Good f a₀ d a->1<=m->m<=b->Uk blt (arrOf a) lo (lo+m)->mJ (arrOf st) (arrOf a) lo (lo+b)->Q (some m) a):wpS (model prog w) A E s (jA lo b) Q st:=by
 unfold jA
 have I:(arrOf st).size=a₀.size:=g.size
 refine Ba (w5 C g h0 hb (Aj _) N (λi j l r o=>by
  have : i=j:=by omega
  subst this
  exact C.refl _) λn t B p y=>?_)
 dsimp only
 by_cases e:n=b
 ·rw[if_pos (by rw[e]; exact beq_self_eq_true _)]
  exact Bi (h n st g t B p (mJ.refl _ _ _))
 rw[if_neg (λz=>e (Ee z))]
 have k:blt (X (arrOf st) (lo+n)) (X (arrOf st) (lo+n - 1))=true:=y.resolve_left e
 by_cases D:n > 1
 ·rw[if_pos D]
  refine Ba (Xs C g h0 (by omega) (by omega) ?_)
  dsimp only
  cases G:blt (X (arrOf st) lo) (X (arrOf st) (lo+n - 1)) with
  | true =>
   rw[if_pos rfl]
   exact Bi (h n st g t B p (mJ.refl _ _ _))
  | false =>
   rw[if_neg Bs]
   refine Ba (Sj ?_)
   -- all of it are alike
   have c:∀i j,lo<=i->i<lo+n->lo<=j->j<lo+n->le blt (X (arrOf st) i) (X (arrOf st) j):=λi j l r o J =>
    C.trans (p i (lo+n - 1) l (by omega) (by omega)) (C.trans G (p lo j (Aj _) o J))
   have u:zN blt (arrOf st) lo (lo+(n+1)):=Yr C t (λi j l r o=>c j i (by omega) o l (by omega)) (C.ofLt k)
   exact uC C (g.set (mirror_perm _ _ _ _)) h0 hb (by omega) (aI (by omega) (by omega) (Aj _) u c) λm v F M L K q=>h m v F M L K ((Sz (Aj _) (by omega) (by omega)).trans q)
 ·rw[if_neg D]
  have H:n=1:=by omega
  subst H
  have u:zN blt (arrOf st) lo (lo+(1+1)):=Yr C (Aj _) (λi j l r o=>by
   have : i=j:=by omega
   subst this
   exact C.refl _) (C.ofLt k)
  exact uC C g h0 hb (by omega) u h
end
def Yt:Nat->StateT Bx Sem Bool:=sortPriv% PySem.Builtin.mergeAt
section
variable{prog:Bk}{w:World}{A:Ci}{s:Ah}{b:Mz}{Ok:Keyed->Prop}{blt:Keyed->Keyed->Bool}{E:Value->Ah->Prop}{a₀:Array Keyed}{a:Array (Nat×Nat×Nat)}
theorem mV{st:Bx}{i j:Nat}{Q:Unit->Bx->Prop}(h:Q () (setArr st (bubble (arrOf st) i (i - j)))):wpS (model prog w) A E s (moveDown' i j) Q st:=by
 rw[moveDown'_eq]
 exact Ku h
theorem wK(C:Cmp prog w A s b Ok blt){st:Bx}(g:Good b a₀ a st)(h0:∀x∈a₀.toList,Ok x){lo n ok:Nat}(hb:lo+n<=a₀.size)(h1:Uk blt (arrOf st) lo (lo+ok))(Y:ok<=n){Q:Bool->Bx->Prop}(h:∀f,Good b a₀ a f->Uk blt (arrOf f) lo (lo+n)->mJ (arrOf st) (arrOf f) lo (lo+n)->Q true f):wpS (model prog w) A E s (bA lo n ok) Q st:=by
 unfold bA
 refine Ba (Ib (Ex
  (I:=λk c f=>c=(none,())/\Good b a₀ a f/\Uk blt (arrOf f) lo (lo+k)/\mJ (arrOf st) (arrOf f) lo (lo+n))
  (Q:=λc f=>c=(none,())/\Good b a₀ a f/\Uk blt (arrOf f) lo (lo+n)/\mJ (arrOf st) (arrOf f) lo (lo+n)) ?_ ?_ ⟨rfl,g,?_,mJ.refl _ _ _⟩) ?_)
 ·(intro k c m T W p; obtain ⟨rfl,t,q,G⟩ := p)
  have V:(arrOf m).size=a₀.size:=t.size
  dsimp only
  refine Ba (Ib (Ex
   (I:=λy c f=>f=m/\∃l r,c=(none,l,r)/\l<=r/\r<=k/\r - l+y<=k/\(∀i,i<l->le blt (X (arrOf m) (lo+i)) (X (arrOf m) (lo+k)))/\(∀i,r<=i->i<k->blt (X (arrOf m) (lo+k)) (X (arrOf m) (lo+i))=true))
   (Q:=λc f=>f=m/\∃l,c=(none,l,l)/\l<=k/\(∀i,i<l->le blt (X (arrOf m) (lo+i)) (X (arrOf m) (lo+k)))/\(∀i,l<=i->i<k->blt (X (arrOf m) (lo+k)) (X (arrOf m) (lo+i))=true)) ?_ ?_
   ⟨rfl,0,k,rfl,by omega,by omega,by omega,λi M=>by omega,λi h1 Z=>by omega⟩) ?_)
  ·(intro y c o _ hy p; obtain ⟨rfl,l,r,rfl,U,H,P,v,u⟩ := p)
   dsimp only
   by_cases F:l ≥ r
   ·rw[if_pos F]
    have e:l=r:=by omega
    subst e
    exact Bi ⟨rfl,l,rfl,H,v,u⟩
   ·rw[if_neg F]
    refine Ba (Xs C t h0 (by omega) (by omega) ?_)
    dsimp only
    cases S:blt (X (arrOf o) (lo+k)) (X (arrOf o) (lo+(l+r) / 2)) with
    | true =>
     rw[if_pos rfl]
     exact Bi ⟨rfl,l,(l+r) / 2,rfl,by omega,by omega,by omega,v,λi D B=>C.ltLe S (q _ _ (by omega) (by omega) (by omega))⟩
    | false =>
     rw[if_neg Bs]
     exact Bi ⟨rfl,(l+r) / 2+1,r,rfl,by omega,H,by omega,λi M=>C.trans (q _ _ (by omega) (by omega) (by omega)) S,u⟩
  ·(intro c o p; obtain ⟨rfl,l,r,rfl,U,H,P,v,u⟩ := p)
   have : max 0 k=k:=by omega
   rw[this] at P
   have e:l=r:=by omega
   subst e
   exact ⟨rfl,l,rfl,H,v,u⟩
  ·(intro c o p; obtain ⟨rfl,l,rfl,H,v,u⟩ := p)
   dsimp only
   refine Ba (mV ?_)
   have K:=λi=>j5 (xs:=arrOf o) (src:=lo+k) (d:=lo+k - (lo+l)) (by omega) (by omega) i
   have N:lo+k - (lo+k - (lo+l))=lo+l:=by omega
   refine Bi ⟨rfl,t.set (bubble_perm _ _ _),λi j D B O=>?_,G.trans λi M=>?_⟩
   ·show le blt (X (bubble (arrOf o) (lo+k) (lo+k - (lo+l))) i) (X (bubble (arrOf o) (lo+k) (lo+k - (lo+l))) j)
    rw[K,K,N]
    by_cases R:i=lo+l
    ·rw[if_pos R]
     by_cases z:j=lo+l
     ·rw[if_pos z]; exact C.refl _
     ·rw[if_neg z]
      by_cases J:lo+l<j/\j<=lo+k
      ·rw[if_pos J]
       have:=u (j - 1 - lo) (by omega) (by omega)
       rw[show lo+(j - 1 - lo)=j - 1 by omega] at this
       exact C.ofLt this
      ·exfalso; omega
    ·rw[if_neg R]
     by_cases z:j=lo+l
     ·rw[if_pos z,if_neg (by omega)]
      have:=v (i - lo) (by omega)
      rw[show lo+(i - lo)=i by omega] at this
      exact this
     ·rw[if_neg z]
      by_cases J:lo+l<i/\i<=lo+k
      ·rw[if_pos J,if_pos (by omega)]
       exact q _ _ (by omega) (by omega) (by omega)
      ·rw[if_neg J]
       by_cases L:lo+l<j/\j<=lo+k
       ·rw[if_pos L]
        exact q _ _ (by omega) (by omega) (by omega)
       ·rw[if_neg L]
        exact q _ _ (by omega) (by omega) (by omega)
   ·show X (bubble (arrOf o) (lo+k) (lo+k - (lo+l))) i=X (arrOf o) i
    rw[K,N,if_neg (by omega),if_neg (by omega)]
 ·(intro c m p; obtain ⟨rfl,t,q,G⟩ := p)
  refine ⟨rfl,t,λi j D B O=>q i j D B (by omega),G⟩
 ·intro i j D B O
  by_cases e:i=j
  ·subst e; exact C.refl _
  ·exact h1 i j D B (by omega)
 ·(intro c m p; obtain ⟨rfl,t,q,G⟩ := p)
  exact Bi (h m t q G)
end
abbrev Pr(xs:Array Keyed)(b:Nat)(l:List (Keyed×Nat)):Array Keyed:=l.foldl (λa x=>match x with | (p,j)=>a.setIfInBounds (b+j) p) xs
theorem eG(b:Nat):∀(l:List Keyed) (o:Nat) (xs:Array Keyed),b+o+l.length<=xs.size->(Pr xs b (l.zipIdx o)).size=xs.size/\∀i:Nat,(Pr xs b (l.zipIdx o))[i]? = if b+o<=i/\i<b+o+l.length then l[i - (b+o)]? else xs[i]?
 | [],o,xs,_=>⟨rfl,λi=>by rw[if_neg (by rw[Kj]; omega)]; rfl⟩
 | x::l,o,xs,h=>by
  rw[Bl] at h
  have a:=eG b l (o+1) (xs.setIfInBounds (b+o) x) (by rw[Ry]; omega)
  have e:Pr xs b ((x::l).zipIdx o)=Pr (xs.setIfInBounds (b+o) x) b (l.zipIdx (o+1)):=by
   rw[Ll]
   rfl
  rw[e]
  refine ⟨a.1.trans (Ry),λi=>?_⟩
  rw[a.2 i,Bl]
  by_cases c:b+(o+1)<=i/\i<b+(o+1)+l.length
  ·rw[if_pos c,if_pos (by omega)]
   rw[show i - (b+o)=(i - (b+(o+1)))+1 by omega,List.getElem?_cons_succ]
  ·rw[if_neg c]
   by_cases d:i=b+o
   ·subst d
    rw[if_pos (by omega),Array.getElem?_setIfInBounds_self_of_lt (by omega),Nat.sub_self]
    rfl
   ·rw[if_neg (by omega),Array.getElem?_setIfInBounds_ne (by omega)]
theorem sJ{xs m:Array Keyed}{b n:Nat}(hb:b+n<=xs.size)(d:m.size=n)(j:m.toList.Perm ((xs.toList.drop b).take n)):(Pr xs b m.toList.zipIdx).Perm xs:=by
 have g:=eG b m.toList 0 xs (by rw[Am]; omega)
 have e:(Pr xs b m.toList.zipIdx).toList=xs.toList.take b++(m.toList++xs.toList.drop (b+n)):=by
  apply Rx
  intro i
  have a:=g.2 i
  rw[Am,d] at a
  have c:(Pr xs b m.toList.zipIdx).toList[i]? = (Pr xs b m.toList.zipIdx)[i]?:=by simp
  rw[c,a]
  have lt:(xs.toList.take b).length=b:=by rw[Cz,Am]; omega
  by_cases f:i<b
  ·rw[if_neg (by omega),Lq (by omega),Jg f]
   simp
  ·rw[Ii (by omega),lt]
   by_cases k:i<b+n
   ·rw[if_pos (by omega),Lq (by rw[Am]; omega)]
    congr 1
   ·rw[if_neg (by omega),Ii (by rw[Am]; omega),aT,Am]
    rw[show b+n+(i - b - m.size)=i by omega]
    simp
 refine Array.perm_iff_toList_perm.mpr ?_
 rw[e]
 have h:xs.toList=xs.toList.take b++((xs.toList.drop b).take n++xs.toList.drop (b+n)):=by
  conv=>lhs; rw[<- Fu b xs.toList]
  congr 1
  conv=>lhs; rw[<- Fu n (xs.toList.drop b)]
  rw[List.drop_drop]
 conv=>rhs; rw[h]
 exact Jw _ (List.Perm.append_right _ j)
theorem Zw{xs:Array Keyed}{a n:Nat}(h:a+n<=xs.size){i:Nat}(b:i<n):(xs.extract a (a+n))[i]? = some (X xs (a+i)):=by
 rw[Array.getElem?_extract,if_pos (by omega)]
 exact bQ (by omega)
theorem Uw{xs:Array Keyed}{a n:Nat}(h:a+n<=xs.size):(xs.extract a (a+n)).size=n:=by
 rw[Array.size_extract]
 omega
theorem Xr{xs:Array Keyed}{a n:Nat}(h:a+n<=xs.size){x:Keyed}(f:x∈(xs.extract a (a+n)).toList):∃i,i<n/\x=X xs (a+i):=by
 obtain ⟨i,b,e⟩:=Gg.mp f
 rw[Am,Uw h] at b
 refine ⟨i,b,?_⟩
 have d:=Zw h b
 have c:(xs.extract a (a+n)).toList[i]? = some x:=by rw[<- e,<- Bt]
 rw[Fs,d] at c
 exact (Ca c).symm
section
variable{prog:Bk}{w:World}{A:Ci}{s:Ah}{kd:Mz}{Ok:Keyed->Prop}{blt:Keyed->Keyed->Bool}{E:Value->Ah->Prop}{a₀:Array Keyed}{f:Array (Nat×Nat×Nat)}
theorem dM(C:Cmp prog w A s kd Ok blt){xs:Array Keyed}{a n c d:Nat}(h:a+n<=xs.size)(k:Uk blt xs c d)(h1:c<=a)(p:a+n<=d):(xs.extract a (a+n)).toList.Pairwise (le blt):=by
 rw[Lp]
 intro i j e b o
 rw[Am,Uw h] at e b
 have l:(xs.extract a (a+n)).toList[i]? = some (X xs (a+i)):=by rw[Fs]; exact Zw h e
 have m:(xs.extract a (a+n)).toList[j]? = some (X xs (a+j)):=by rw[Fs]; exact Zw h b
 obtain ⟨_,g⟩:=Ax.mp l
 obtain ⟨_,f⟩:=Ax.mp m
 rw[g,f]
 exact k _ _ (by omega) (by omega) (by omega)
theorem qP(C:Cmp prog w A s kd Ok blt){xs:Array Keyed}{a b c:Nat}(m:a<b)(h1:Uk blt xs a b)(d:Uk blt xs b c)(h:le blt (X xs (b - 1)) (X xs b)):Uk blt xs a c:=λi j f e g=>by
 by_cases k:j<b
 ·exact h1 i j f e k
 ·by_cases l:b<=i
  ·exact d i j l e g
  ·exact C.trans (h1 i (b - 1) f (by omega) (by omega)) (C.trans h (d b j (Aj _) (by omega) g))
structure Good0(kd:Mz)(a₀:Array Keyed)(st:Bx):Prop where
 kind:kindOf st=kd
 fail:My st=none
 perm:(arrOf st).Perm a₀
theorem Good0.size{st:Bx}(g:Good0 kd a₀ st):(arrOf st).size=a₀.size:=g.perm.size_eq
theorem Good0.okX{st:Bx}(g:Good0 kd a₀ st)(h0:∀x∈a₀.toList,Ok x){i:Nat}(a:i<a₀.size):Ok (X (arrOf st) i):=by
 have e:=bQ (xs:=arrOf st) (i:=i) (by rw[g.size]; exact a)
 exact h0 _ ((Qw.mp g.perm).mem_iff.mp (Ko e))
theorem j6{st:Bx}(g:Good0 kd a₀ st)(h0:∀x∈a₀.toList,Ok x){b n:Nat}(h:b+n<=a₀.size):Row Ok (arrOf st) b n (λi=>X (arrOf st) (b+i)) :=
 ⟨λi a=>bQ (by rw[g.size]; omega),λi a=>g.okX h0 (by omega)⟩
theorem BX{st a:Bx}{Q:Unit->Bx->Prop}(h:Q () a):wpS (model prog w) A E s (set a:StateT Bx Sem Unit) Q st:=by
 unfold wpS
 rw[StateT.run_set]
 exact Ae ⟨rfl,h⟩
theorem sL(C:Cmp prog w A s kd Ok blt){st:Bx}(g:Good0 kd a₀ st)(h0:∀x∈a₀.toList,Ok x){i j p Z f q pb:Nat}(hi:(Bh st)[i]? = some (j,p,Z))(hj:(Bh st)[i+1]? = some (f,q,pb))(e1:f=j+p)(n1:1<=p)(n2:1<=q)(hz:f+q<=a₀.size)(H:Uk blt (arrOf st) j f)(G:Uk blt (arrOf st) f (f+q)){Q:Bool->Bx->Prop}(h:∀v,Good0 kd a₀ v->Bh v=((Bh st).setIfInBounds i (j,p+q,Z)).eraseIdxIfInBounds (i+1)->Uk blt (arrOf v) j (f+q)->mJ (arrOf st) (arrOf v) j (f+q)->Q true v):wpS (model prog w) A E s (Yt i) Q st:=by
 have S:(arrOf st).size=a₀.size:=g.size
 unfold Yt
 refine Ba (Oo ?_)
 rw[hi,hj]
 dsimp only
 refine Ba (BX ?_)
 refine Ba (Gk (bQ (xs:=arrOf st) (i:=f) (by rw[S]; omega)) ?_)
 show wpS (model prog w) A E s _ _ (SortSt.mk' (kindOf st) (arrOf st) (((Bh st).setIfInBounds i (j,p+q,Z)).eraseIdxIfInBounds (i+1)) (gallopOf st) (My st))
 generalize t:SortSt.mk' (kindOf st) (arrOf st) (((Bh st).setIfInBounds i (j,p+q,Z)).eraseIdxIfInBounds (i+1)) (gallopOf st) (My st)=st1
 have M:kindOf st1=kd:=by rw[<- t]; exact g.kind
 have D:arrOf st1=arrOf st:=by rw[<- t]
 have O:Bh st1=((Bh st).setIfInBounds i (j,p+q,Z)).eraseIdxIfInBounds (i+1):=by rw[<- t]
 have V:My st1=none:=by rw[<- t]; exact g.fail
 have g1:Good0 kd a₀ st1:=⟨M,V,by rw[D]; exact g.perm⟩
 have same:Good0 kd a₀ st1->Uk blt (arrOf st) j (f+q)->Q true st1:=λgg as=>h st1 gg O (by rw[D]; exact as) (by rw[D]; exact mJ.refl _ _ _)
 refine Ba (Pd C (hint:=0) (n:=p) (j6 g h0 (b:=j) (n:=p) (by omega)) (g.okX h0 (i:=f) (by omega)) M (by omega) (λa c h6 hc Y=>?_) λk kn t1 t2=>?_)
 ·simp only[Hn,Bz,if_false,Kx] at Y ⊢
  exact C.trans (H _ _ (by omega) (by omega) (by omega)) Y
 dsimp only
 have f1:∀m,m<k->le blt (X (arrOf st) (j+m)) (X (arrOf st) f):=λm u=>by
  have:=t1 m u
  have z:blt (X (arrOf st) f) (X (arrOf st) (j+m))=false:=by simpa only [Hn,Bz,if_false,Kx] using this
  exact z
 by_cases P:p - k=0
 ·rw[if_pos (by rw[P]; rfl)]
  refine Bi (same g1 (qP C (by omega) H G ?_))
  have:=f1 (p - 1) (by omega)
  rw[show j+(p - 1)=f - 1 by omega] at this
  exact this
 rw[if_neg (λz=>P (Ee z))]
 have f2:blt (X (arrOf st) f) (X (arrOf st) (j+k))=true:=by
  have:=t2 k (Aj _) (by omega)
  simpa only [Hn,Bz,if_false,aV] using this
 have el:j+k+(p - k) - 1=f - 1:=by omega
 rw[el]
 refine Ba (Gk (bQ (xs:=arrOf st) (i:=f - 1) (by rw[S]; omega)) ?_)
 refine Ba (Pd C (hint:=q - 1) (n:=q) (j6 g h0 (b:=f) (n:=q) (by omega)) (g.okX h0 (i:=f - 1) (by omega)) M (by omega) (λa c h6 hc Y=>?_) λl ln u1 u2=>?_)
 ·simp only[Hn,if_true] at Y ⊢
  exact C.leLt (G _ _ (by omega) (by omega) (by omega)) Y
 dsimp only
 have f3:∀m,m<l->blt (X (arrOf st) (f+m)) (X (arrOf st) (f - 1))=true:=λm u=>by
  have:=u1 m u
  simpa only [Hn,if_true] using this
 have f4:∀m,l<=m->m<q->le blt (X (arrOf st) (f - 1)) (X (arrOf st) (f+m)):=λm h1 h2=>by
  have:=u2 m h1 h2
  have z:blt (X (arrOf st) (f+m)) (X (arrOf st) (f - 1))=false:=by simpa only [Hn,if_true] using this
  exact z
 by_cases c2:l=0
 ·rw[if_pos (by rw[c2]; rfl)]
  subst c2
  exact Bi (same g1 (qP C (by omega) H G (f4 0 (Aj _) (by omega))))
 rw[if_neg (λz=>c2 (Ee z))]
 have ep:(arrOf st).extract (j+k) f=(arrOf st).extract (j+k) (j+k+(p - k)):=by rw[show j+k+(p - k)=f by omega]
 rw[ep]
 have K:j+k+(p - k)<=(arrOf st).size:=by omega
 have L:f+l<=(arrOf st).size:=by omega
 have T:Two Ok blt ((arrOf st).extract (j+k) (j+k+(p - k))) ((arrOf st).extract f (f+l)) (X (arrOf st) (j+k)) (X (arrOf st) f) (X (arrOf st) (f - 1)):=by
  refine ⟨λx R=>?_,λx R=>?_,dM C K H (by omega) (by omega),dM C L G (by omega) (by omega),?_,?_,?_,f2,λy hy=>?_⟩
  ·obtain ⟨m,u,rfl⟩:=Xr K R
   exact g.okX h0 (by omega)
  ·obtain ⟨m,u,rfl⟩:=Xr L R
   exact g.okX h0 (by omega)
  ·exact Zw K (by omega)
  ·exact Zw L (by omega)
  ·rw[Uw K,Zw K (by omega),show j+k+(p - k - 1)=f - 1 by omega]
  ·obtain ⟨m,u,rfl⟩:=Xr L hy
   exact f3 m u
 -- rG the merge
 have W:∀(r:Array Keyed) (o:Bx),Kept st1 o->sP blt ((arrOf st).extract (j+k) (j+k+(p - k))) ((arrOf st).extract f (f+l)) r ->
   Q (My (setArr o (Pr (arrOf o) (j+k) r.toList.zipIdx))).isNone (setArr o (Pr (arrOf o) (j+k) r.toList.zipIdx)):=by
  intro r o kp F
  have J:arrOf o=arrOf st:=kp.arr.trans D
  have h7:My o=none:=kp.fail.trans V
  have U:r.size=p - k+l:=by
   have:=F.1.length_eq
   rw[Bm,Am,Am,Am,Uw K,Uw L] at this
   exact this
  have h4:((arrOf st).toList.drop (j+k)).take (p - k+l)=((arrOf st).extract (j+k) (j+k+(p - k))).toList++((arrOf st).extract f (f+l)).toList:=by
   rw[Yc,Yc,List.take_add,List.drop_drop,show j+k+(p - k)=f by omega]
  have h5:=eG (j+k) r.toList 0 (arrOf st) (by rw[Am]; omega)
  have I:∀m,X (Pr (arrOf st) (j+k) r.toList.zipIdx) m=if j+k<=m/\m<f+l then X r (m - (j+k)) else X (arrOf st) m:=λm=>by
   have:=h5.2 m
   rw[Am,U,Nat.add_zero] at this
   by_cases u:j+k<=m/\m<f+l
   ·rw[if_pos u]
    rw[if_pos (by omega)] at this
    refine Sx (this.trans ?_)
    simp
   ·rw[if_neg u]
    rw[if_neg (by omega)] at this
    exact Sx this
  -- each thing of the merged is one of the two runs'
  have B:∀m,m<p - k+l->(∃c,j+k<=c/\c<f/\X r m=X (arrOf st) c)\/(∃c,f<=c/\c<f+l/\X r m=X (arrOf st) c):=λm u=>by
   have R:=Ko (bQ (xs:=r) (i:=m) (by omega))
   rcases Bc.mp (F.1.mem_iff.mp R) with z | z
   ·obtain ⟨c,hc,e⟩:=Xr K z
    exact .inl ⟨j+k+c,by omega,by omega,e⟩
   ·obtain ⟨c,hc,e⟩:=Xr L z
    exact .inr ⟨f+c,by omega,by omega,e⟩
  have rs:∀m n,m<=n->n<p - k+l->le blt (X r m) (X r n):=λm n h3 hn=>Lw C F.2 h3 (Eu (bQ (by omega))) (Eu (bQ (by omega)))
  have e3:My (setArr o (Pr (arrOf o) (j+k) r.toList.zipIdx))=none:=h7
  rw[e3]
  refine h _ ⟨kp.kind.trans M,e3,?_⟩ (kp.pend.trans O) ?_ ?_
  ·show (Pr (arrOf o) (j+k) r.toList.zipIdx).Perm a₀
   rw[J]
   refine (sJ (by omega) U ?_).trans g.perm
   rw[h4]
   exact F.1
  ·show Uk blt (Pr (arrOf o) (j+k) r.toList.zipIdx) j (f+q)
   rw[J]
   intro c d P cd d1
   rw[I,I]
   by_cases zc:j+k<=c/\c<f+l
   ·rw[if_pos zc]
    by_cases N:j+k<=d/\d<f+l
    ·rw[if_pos N]
     exact rs _ _ (by omega) (by omega)
    ·rw[if_neg N]
     rcases B (c - (j+k)) (by omega) with ⟨b,b1,b2,e⟩ | ⟨b,b1,b2,e⟩
     ·rw[e]
      refine C.trans (H b (f - 1) (by omega) (by omega) (by omega)) ?_
      have:=f4 (d - f) (by omega) (by omega)
      rw[show f+(d - f)=d by omega] at this
      exact this
     ·rw[e]
      exact G b d b1 (by omega) (by omega)
   ·rw[if_neg zc]
    by_cases N:j+k<=d/\d<f+l
    ·rw[if_pos N]
     rcases B (d - (j+k)) (by omega) with ⟨b,b1,b2,e⟩ | ⟨b,b1,b2,e⟩
     ·rw[e]
      exact H c b P (by omega) b2
     ·rw[e]
      have:=f1 (c - j) (by omega)
      rw[show j+(c - j)=c by omega] at this
      exact C.trans this (G f b (Aj _) b1 (by omega))
    ·rw[if_neg N]
     by_cases y1:d<f
     ·exact H c d P cd y1
     ·by_cases y2:f<=c
      ·exact G c d y2 cd d1
      ·have:=f1 (c - j) (by omega)
       rw[show j+(c - j)=c by omega] at this
       exact C.trans this (G f d (Aj _) (by omega) d1)
  ·show mJ (arrOf st) (Pr (arrOf o) (j+k) r.toList.zipIdx) j (f+q)
   rw[J]
   intro m u
   rw[I,if_neg (by omega)]
 by_cases c3:p - k<=l
 ·rw[if_pos c3]
  refine Ba (sE C T M λr o kp F=>?_)
  exact Ba (Ku (Ba (Oo (Bi (W r o kp F)))))
 ·rw[if_neg c3]
  refine Ba (rO C T M λr o kp F=>?_)
  exact Ba (Ku (Ba (Oo (Bi (W r o kp F)))))
end
def hV:StateT Bx Sem Unit:=sortPriv% PySem.Builtin.sortRuns
def Runs(blt:Keyed->Keyed->Bool)(xs:Array Keyed):List (Nat×Nat×Nat)->Nat->Nat->Prop
 | [],a,b=>a=b
 | (s,n,_)::r,a,b=>s=a/\1<=n/\Uk blt xs a (a+n)/\Runs blt xs r (a+n) b
variable{blt:Keyed->Keyed->Bool}
theorem Runs.len{xs:Array Keyed}:∀{l:List (Nat×Nat×Nat)} {a b:Nat},Runs blt xs l a b->a+l.length<=b
 | [],a,b,h=>by
  have e:a=b:=h
  rw[Kj]
  omega
 | (s,n,p)::r,a,b,h=>by
  have:=Runs.len h.2.2.2
  have:=h.2.1
  rw[Bl]
  omega
theorem Uk.out{xs ys:Array Keyed}{a b c d:Nat}(h:Uk blt xs a b)(o:mJ xs ys c d)(e:b<=c\/d<=a):Uk blt ys a b:=λi j k f g=>by
 rw[o i (by omega),o j (by omega)]
 exact h i j k f g
theorem Runs.out{xs ys:Array Keyed}{c d:Nat}(o:mJ xs ys c d):∀{l:List (Nat×Nat×Nat)} {a b:Nat},(b<=c\/d<=a)->Runs blt xs l a b->Runs blt ys l a b
 | [],_,_,_,h=>h
 | (s,n,p)::r,a,b,e,h=>by
  have f:=Runs.len h.2.2.2
  exact ⟨h.1,h.2.1,h.2.2.1.out o (by omega),Runs.out o (by omega) h.2.2.2⟩
theorem Runs.push{xs:Array Keyed}{m q:Nat}(c:1<=m):∀{l:List (Nat×Nat×Nat)} {a b:Nat},Runs blt xs l a b->Uk blt xs b (b+m)->Runs blt xs (l++[(b,m,q)]) a (b+m)
 | [],a,b,h,hs=>by
  have e:a=b:=h
  subst e
  exact ⟨rfl,c,hs,rfl⟩
 | (s,n,p)::r,a,b,h,hs=>⟨h.1,h.2.1,h.2.2.1,Runs.push c h.2.2.2 hs⟩
theorem Runs.power{xs:Array Keyed}{c:Nat}:∀{l:List (Nat×Nat×Nat)} {a b:Nat} (k:Nat),Runs blt xs l a b->Runs blt xs (l.modify k λx=>(x.1,x.2.1,c)) a b
 | [],_,_,k,h=>by simpa using h
 | (s,n,p)::r,a,b,0,h=>by
  rw[List.modify_zero_cons]
  exact h
 | (s,n,p)::r,a,b,k+1,h=>by
  rw[List.modify_succ_cons]
  exact ⟨h.1,h.2.1,h.2.2.1,Runs.power k h.2.2.2⟩
theorem Runs.two{xs:Array Keyed}:∀{l:List (Nat×Nat×Nat)} {a b i f g k c d j:Nat},Runs blt xs l a b->l[i]? = some (f,g,k)->l[i+1]? = some (c,d,j)->c=f+g/\1<=g/\1<=d/\a<=f/\c+d<=b/\Uk blt xs f c/\Uk blt xs c (c+d)
 | [],_,_,_,_,_,_,_,_,_,_,h,_=>by simp at h
 | (s,n,p)::r,a,b,0,f,g,k,c,d,j,h,h1,h2=>by
  obtain ⟨e,A,D,C⟩:=h
  have q:s=f/\n=g/\p=k:=by simpa using h1
  obtain ⟨u,o,t⟩:=q
  subst u o t
  subst e
  cases r with
  | nil=>simp at h2
  | cons y G =>
   obtain ⟨E,B,z⟩:=y
   have F:E=c/\B=d/\z=j:=by simpa using h2
   obtain ⟨u,o,t⟩:=F
   subst u o t
   obtain ⟨w,m,v,x⟩:=C
   have:=Runs.len x
   exact ⟨w,A,m,Aj _,by omega,by rw[w]; exact D,by rw[w]; exact v⟩
 | (s,n,p)::r,a,b,i+1,f,g,k,c,d,j,h,h1,h2=>by
  have:=Runs.two h.2.2.2 (by simpa using h1) (by simpa using h2)
  exact ⟨this.1,this.2.1,this.2.2.1,by have:=this.2.2.2.1; have:=h.2.1; omega,this.2.2.2.2.1,this.2.2.2.2.2⟩
theorem Runs.merge{xs ys:Array Keyed}:∀{l:List (Nat×Nat×Nat)} {a b i d j k f c m:Nat},Runs blt xs l a b->l[i]? = some (d,j,k)->l[i+1]? = some (f,c,m)->mJ xs ys d (f+c)->Uk blt ys d (f+c)->Runs blt ys ((l.set i (d,j+c,k)).eraseIdx (i+1)) a b
 | [],_,_,_,_,_,_,_,_,_,_,h,_,_,_=>by simp at h
 | (s,n,p)::r,a,b,0,d,j,k,f,c,m,h,h1,h2,o,as=>by
  have x:=Runs.two h h1 h2
  obtain ⟨e,F,G,C⟩:=h
  have q:s=d/\n=j/\p=k:=by simpa using h1
  obtain ⟨v,t,u⟩:=q
  subst v t u
  subst e
  cases r with
  | nil=>simp at h2
  | cons y I =>
   obtain ⟨z,g,A⟩:=y
   have D:z=f/\g=c/\A=m:=by simpa using h2
   obtain ⟨v,t,u⟩:=D
   subst v t u
   obtain ⟨H,B,E,w⟩:=C
   rw[List.set_cons_zero,Tq,List.eraseIdx_cons_zero]
   refine ⟨rfl,by omega,?_,?_⟩
   ·rw[show s+(n+g)=z+g by omega]
    exact as
   ·rw[show s+(n+g)=s+n+g by omega]
    exact Runs.out o (.inr (by omega)) w
 | (s,n,p)::r,a,b,i+1,d,j,k,f,c,m,h,h1,h2,o,as=>by
  have x:=Runs.two (i:=i) h.2.2.2 (by simpa using h1) (by simpa using h2)
  rw[List.set_cons_succ,Tq]
  exact ⟨h.1,h.2.1,h.2.2.1.out o (.inl x.2.2.2.1),Runs.merge h.2.2.2 (by simpa using h1) (by simpa using h2) o as⟩
theorem iT(P:Array (Nat×Nat×Nat))(i:Nat)(v:Nat×Nat×Nat):((P.setIfInBounds i v).eraseIdxIfInBounds (i+1)).toList=(P.toList.set i v).eraseIdx (i+1):=by
 rw[Array.toList_eraseIdxIfInBounds,jH]
section
variable{prog:Bk}{w:World}{A:Ci}{s:Ah}{a:Mz}{Ok:Keyed->Prop}{E:Value->Ah->Prop}{a₀:Array Keyed}
theorem Qp{a:Type}{c:Prop}[Decidable c]{p q:StateT Bx Sem a}{Q:a->Bx->Prop}{st:Bx}(h1:c->wpS (model prog w) A E s p Q st)(b:¬ c->wpS (model prog w) A E s q Q st):wpS (model prog w) A E s (if c then p else q) Q st:=by
 by_cases h:c
 ·rw[if_pos h]; exact h1 h
 ·rw[if_neg h]; exact b h
theorem kM(C:Cmp prog w A s a Ok blt){st:Bx}(g:Good0 a a₀ st)(h0:∀x∈a₀.toList,Ok x){lo i:Nat}(o:lo<=a₀.size)(k:Runs blt (arrOf st) (Bh st).toList 0 lo)(p:i+1<(Bh st).size){Q:Bool->Bx->Prop}(h:∀b,Good0 a a₀ b->Runs blt (arrOf b) (Bh b).toList 0 lo->(Bh b).size+1=(Bh st).size->(∀c d,lo<=c->Uk blt (arrOf st) c d->Uk blt (arrOf b) c d)->Q true b):wpS (model prog w) A E s (Yt i) Q st:=by
 obtain ⟨⟨I,y,H⟩,m⟩ : ∃x,(Bh st)[i]? = some x:=⟨(Bh st)[i],by simp⟩
 obtain ⟨⟨D,u,z⟩,e⟩ : ∃x,(Bh st)[i+1]? = some x:=⟨(Bh st)[i+1],by simp⟩
 have j:(Bh st).toList[i]? = some (I,y,H):=by simpa using m
 have f:(Bh st).toList[i+1]? = some (D,u,z):=by simpa using e
 obtain ⟨G,q,J,L,M,F,r⟩:=k.two j f
 refine sL C g h0 m e G q J (by omega) F r λb t l v n=>?_
 refine h b t ?_ ?_ λc d K B=>B.out n (.inr (by omega))
 ·rw[l,iT]
  exact k.merge j f n v
 ·have : (Bh b).toList.length+1=(Bh st).toList.length:=by
   rw[l,iT,List.length_eraseIdx,List.length_set,Am,if_pos p]
   omega
  simpa using this
theorem W5{st:Bx}(g:Good0 a a₀ st):Good a a₀ (Bh st) st:=⟨g.kind,g.fail,g.perm,rfl⟩
theorem qF{st:Bx}{p:Array (Nat×Nat×Nat)}(g:Good a a₀ p st):Good0 a a₀ st:=⟨g.kind,g.fail,g.perm⟩
theorem xU(C:Cmp prog w A s a Ok blt){st:Bx}(g:Good0 a a₀ st)(h0:∀x∈a₀.toList,Ok x)(hp:Bh st=#[])(hz:1<=a₀.size){Q:Unit->Bx->Prop}(h:∀d,Good0 a a₀ d->Uk blt (arrOf d) 0 a₀.size->Q () d):wpS (model prog w) A E s hV Q st:=by
 unfold hV
 refine Ba (Oo ?_)
 have h3:(arrOf st).size=a₀.size:=g.size
 dsimp only
 rw[h3]
 generalize (sortPriv% PySem.Builtin.minRun) a₀.size a₀.size 0=mr
 refine Ba (Ib (Ex
  (I:=λx c d=>∃lo,c=(none,lo)/\Good0 a a₀ d/\Runs blt (arrOf d) (Bh d).toList 0 lo/\lo<=a₀.size/\x<=lo)
  (Q:=λc d=>c=(none,a₀.size)/\Good0 a a₀ d/\Runs blt (arrOf d) (Bh d).toList 0 a₀.size) ?_ ?_ ⟨0,rfl,g,by rw[hp]; exact rfl,by omega,by omega⟩) ?_)
 ·(intro x c X _ hx q; obtain ⟨lo,rfl,P,H,J,V⟩ := q)
  dsimp only
  by_cases U:lo ≥ a₀.size
  ·rw[if_pos U]
   have e:lo=a₀.size:=by omega
   subst e
   exact Bi ⟨rfl,P,H⟩
  rw[if_neg U]
  refine Ba (C8 C (W5 P) h0 (lo:=lo) (b:=a₀.size - lo) (by omega) (by omega) λm j v m1 m2 M ou=>?_)
  dsimp only
  have k:Runs blt (arrOf j) (Bh j).toList 0 lo:=by
   rw[v.pd]
   exact H.out ou (.inl (Aj _))
  have B:=qF v
  clear H P
  refine Qp (λG=>?_) (λG=>?_)
  ·refine Ba (Vn ?_)
   refine Ba (wK C v h0 (lo:=lo) (n:=min (a₀.size - lo) mr) (ok:=m) (by omega) M (by omega) λRr N O W=>?_)
   refine Qp (λz=>absurd z (by decide)) (λ_=>?_)
   have T:1<=min (a₀.size - lo) mr:=by omega
   have R:lo+min (a₀.size - lo) mr<=a₀.size:=by omega
   have u:Runs blt (arrOf Rr) (Bh Rr).toList 0 lo:=by
    rw[N.pd,<- v.pd]
    exact k.out W (.inl (Aj _))
   have F:=qF N
   generalize min (a₀.size - lo) mr=n at O T R
   clear v B k M ou W N m1 m2 G
   refine Ba (Oo ?_)
   cases hb:(Bh Rr).back? with
   | none =>
    dsimp only
    refine Ba (Ku ?_)
    refine Bi ⟨lo+n,rfl,⟨F.kind,F.fail,F.perm⟩,?_,R,by omega⟩
    show Runs blt (arrOf Rr) ((Bh Rr).push (lo,n,0)).toList 0 (lo+n)
    rw[Iz]
    exact u.push T O
   | some y =>
    obtain ⟨s1,l1,p1⟩:=y
    dsimp only
    refine Ba (Ib (Ex
     (I:=λ_ c d=>c=(none,())/\Good0 a a₀ d/\Runs blt (arrOf d) (Bh d).toList 0 lo/\Uk blt (arrOf d) lo (lo+n))
     (Q:=λc d=>c=(none,())/\Good0 a a₀ d/\Runs blt (arrOf d) (Bh d).toList 0 lo/\Uk blt (arrOf d) lo (lo+n)) ?_ (λ_ _ z=>z) ⟨rfl,F,u,O⟩) ?_)
    ·(intro z c f _ _ q; obtain ⟨rfl,t,o,p⟩ := q)
     refine Ba (Oo ?_)
     by_cases D:(Bh f).size > 1
     ·rw[if_pos D]
      obtain ⟨⟨a1,b1,K⟩,ho⟩ : ∃x,(Bh f)[(Bh f).size - 2]? = some x:=⟨(Bh f)[(Bh f).size - 2],by simp⟩
      rw[ho]
      dsimp only
      refine Qp (λ_=>Bi ⟨rfl,t,o,p⟩) (λ_=>?_)
      refine Ba (kM C t h0 J o (i:=(Bh f).size - 2) (show (Bh f).size - 2+1<(Bh f).size by omega) λZ g5 L _ keep=>?_)
      refine Qp (λz=>absurd z (by decide)) (λ_=>?_)
      exact Bi ⟨rfl,g5,L,keep _ _ (Aj _) p⟩
     ·rw[if_neg D]
      exact Bi ⟨rfl,t,o,p⟩
    ·(intro c f q; obtain ⟨rfl,t,o,p⟩ := q)
     dsimp only
     refine Ba (Ku ?_)
     refine Ba (Ku ?_)
     refine Bi ⟨lo+n,rfl,⟨t.kind,t.fail,t.perm⟩,?_,R,by omega⟩
     show Runs blt (arrOf f) (((Bh f).modify ((Bh f).size - 1) _).push (lo,n,0)).toList 0 (lo+n)
     rw[Iz,Array.toList_modify]
     exact (o.power _).push T p
  ·have R:lo+m<=a₀.size:=by omega
   refine Ba (Oo ?_)
   cases hb:(Bh j).back? with
   | none =>
    dsimp only
    refine Ba (Ku ?_)
    refine Bi ⟨lo+m,rfl,⟨B.kind,B.fail,B.perm⟩,?_,R,by omega⟩
    show Runs blt (arrOf j) ((Bh j).push (lo,m,0)).toList 0 (lo+m)
    rw[Iz]
    exact k.push m1 M
   | some y =>
    obtain ⟨s1,l1,p1⟩:=y
    dsimp only
    refine Ba (Ib (Ex
     (I:=λ_ c d=>c=(none,())/\Good0 a a₀ d/\Runs blt (arrOf d) (Bh d).toList 0 lo/\Uk blt (arrOf d) lo (lo+m))
     (Q:=λc d=>c=(none,())/\Good0 a a₀ d/\Runs blt (arrOf d) (Bh d).toList 0 lo/\Uk blt (arrOf d) lo (lo+m)) ?_ (λ_ _ z=>z) ⟨rfl,B,k,M⟩) ?_)
    ·(intro z c f _ _ q; obtain ⟨rfl,t,o,p⟩ := q)
     refine Ba (Oo ?_)
     by_cases D:(Bh f).size > 1
     ·rw[if_pos D]
      obtain ⟨⟨a1,b1,K⟩,ho⟩ : ∃x,(Bh f)[(Bh f).size - 2]? = some x:=⟨(Bh f)[(Bh f).size - 2],by simp⟩
      rw[ho]
      dsimp only
      refine Qp (λ_=>Bi ⟨rfl,t,o,p⟩) (λ_=>?_)
      refine Ba (kM C t h0 J o (i:=(Bh f).size - 2) (show (Bh f).size - 2+1<(Bh f).size by omega) λZ g5 L _ keep=>?_)
      refine Qp (λz=>absurd z (by decide)) (λ_=>?_)
      exact Bi ⟨rfl,g5,L,keep _ _ (Aj _) p⟩
     ·rw[if_neg D]
      exact Bi ⟨rfl,t,o,p⟩
    ·(intro c f q; obtain ⟨rfl,t,o,p⟩ := q)
     dsimp only
     refine Ba (Ku ?_)
     refine Ba (Ku ?_)
     refine Bi ⟨lo+m,rfl,⟨t.kind,t.fail,t.perm⟩,?_,R,by omega⟩
     show Runs blt (arrOf f) (((Bh f).modify ((Bh f).size - 1) _).push (lo,m,0)).toList 0 (lo+m)
     rw[Iz,Array.toList_modify]
     exact (o.power _).push m1 p
 ·(intro c X q; obtain ⟨lo,rfl,P,H,J,V⟩ := q)
  have : max 0 a₀.size=a₀.size:=by omega
  rw[this] at V
  have e:lo=a₀.size:=by omega
  subst e
  exact ⟨rfl,P,H⟩
 ·(intro c X q; obtain ⟨rfl,P,H⟩ := q)
  dsimp only
  have S:=Runs.len H
  rw[Am] at S
  refine Ba (Ib (Ex
   (I:=λx c d=>c=(none,())/\Good0 a a₀ d/\Runs blt (arrOf d) (Bh d).toList 0 a₀.size/\((Bh d).size<=1\/(Bh d).size+x<=a₀.size))
   (Q:=λc d=>c=(none,())/\Good0 a a₀ d/\Runs blt (arrOf d) (Bh d).toList 0 a₀.size/\(Bh d).size<=1) ?_ ?_ ⟨rfl,P,H,.inr (by omega)⟩) ?_)
  ·(intro x c j _ hx q; obtain ⟨rfl,v,k,Y⟩ := q)
   refine Ba (Oo ?_)
   refine Qp (λh1=>Bi ⟨rfl,v,k,h1⟩) (λh1=>?_)
   have h5:¬ (Bh j).size<=1:=h1
   generalize hB:Option.any _ _=bb
   have h2:∀i,i+1<(Bh j).size->wpS (model prog w) A E s (Yt i) (λr Rr=>r=true/\Good0 a a₀ Rr/\Runs blt (arrOf Rr) (Bh Rr).toList 0 a₀.size/\(Bh Rr).size+1=(Bh j).size) j :=
    λi hi=>kM C v h0 (Aj _) k hi λRr N u sz _=>⟨rfl,N,u,sz⟩
   refine Ba (Ib (h2 _ ?_) λr Rr ⟨er,N,u,sz⟩=>?_)
   ·cases bb with
    | true=>show (Bh j).size - 2 - 1+1<(Bh j).size; omega
    | false=>show (Bh j).size - 2+1<(Bh j).size; omega
   subst er
   refine Qp (λz=>absurd z (by decide)) (λ_=>?_)
   exact Bi ⟨rfl,N,u,.inr (by omega)⟩
  ·(intro c j q; obtain ⟨rfl,v,k,Y⟩ := q)
   have : max 0 a₀.size=a₀.size:=by omega
   rw[this] at Y
   exact ⟨rfl,v,k,by omega⟩
  ·(intro c j q; obtain ⟨rfl,v,k,Y⟩ := q)
   dsimp only
   refine Bi (h j v ?_)
   generalize hl:(Bh j).toList=l at k
   have h4:l.length<=1:=by rw[<- hl,Am]; exact Y
   match l,k,h4 with
   | [],k,_ =>
    have e:0=a₀.size:=k
    omega
   | [(s1,T,p1)],k,_ =>
    obtain ⟨_,_,M,e⟩:=k
    have e':0+T=a₀.size:=e
    rw[e'] at M
    exact M
end
end Ts
namespace Ts
open PySem PyProof.Rows L2
theorem lex_irr:∀l:List Int,HT.lexLt l l=false
 | []=>rfl
 | x::r=>by rw[HT.lexLt_cons,if_pos rfl]; exact lex_irr r
theorem fE:∀{a b c:List Int},HT.lexLt a b=true->HT.lexLt b c=true->HT.lexLt a c=true
 | [],[],_,h,_=>by rw[HT.lexLt_nil_nil] at h; cases h
 | [],_::_,[],_,h=>by rw[HT.lexLt_cons_nil] at h; cases h
 | [],_::_,_::_,_,_=>HT.lexLt_nil_cons _ _
 | _::_,[],_,h,_=>by rw[HT.lexLt_cons_nil] at h; cases h
 | _::_,_::_,[],_,h=>by rw[HT.lexLt_cons_nil] at h; cases h
 | x::a,y::b,z::c,h1,h2=>by
  rw[HT.lexLt_cons] at h1 h2 ⊢
  by_cases e:x=y
  ·subst e
   rw[if_pos rfl] at h1
   by_cases d:x=z
   ·subst d
    rw[if_pos rfl] at h2 ⊢
    exact fE h1 h2
   ·rw[if_neg d] at h2 ⊢
    exact h2
  ·rw[if_neg e] at h1
   have g:x<y:=of_decide_eq_true h1
   by_cases d:y=z
   ·subst d
    rw[if_neg e]
    exact h1
   ·rw[if_neg d] at h2
    have f:y<z:=of_decide_eq_true h2
    rw[if_neg (by omega)]
    exact decide_eq_true (by omega)
theorem kB:∀{a b:List Int},HT.lexLt a b=false->HT.lexLt b a=false->a=b
 | [],[],_,_=>rfl
 | [],_::_,h,_=>by rw[HT.lexLt_nil_cons] at h; cases h
 | _::_,[],_,h=>by rw[HT.lexLt_nil_cons] at h; cases h
 | x::a,y::b,h1,h2=>by
  rw[HT.lexLt_cons] at h1 h2
  by_cases e:x=y
  ·subst e
   rw[if_pos rfl] at h1 h2
   rw[kB h1 h2]
  ·rw[if_neg e] at h1
   rw[if_neg (Lu e)] at h2
   have d:=of_decide_eq_false h1
   have c:=of_decide_eq_false h2
   omega
theorem kF{a b c:List Int}(h:HT.lexLt a c=true):HT.lexLt a b=true\/HT.lexLt b c=true:=by
 cases e:HT.lexLt a b with
 | true=>exact .inl rfl
 | false =>
  cases d:HT.lexLt b a with
  | true=>exact .inr (fE d h)
  | false =>
   rw[<- kB e d]
   exact .inr h
def LR(c:Addr->List Int)(x:Keyed):List Int:=match x.1 with
 | .ref a=>c a
 | _=>[]
def MN(c:Addr->List Int)(x y:Keyed):Bool:=HT.lexLt (LR c x) (LR c y)
def P4(c:Addr->List Int)(b:List Addr)(h:Heap):Prop:=∀r∈b,∃a:List Value,Fo a (c r)/\IsTup h r a.toArray
section
variable{prog:Bk}{w:World}{A:Ci}{E:Value->Ah->Prop}{s:Ah}{c:Addr->List Int}{d:List Addr}
theorem xJ(i:P4 c d s.heap)(y:A.units<cLine){a b:Addr}(z:a∈d)(hb:b∈d){Q:Bool->Ah->Prop}(h:Q (HT.lexLt (c a) (c b)) s):wpAny (model prog w) A (oneLt' true (.ref a) (.ref b)) Q E s:=by
 obtain ⟨G,x,⟨C,v,q,f⟩,g,k,t,m⟩:=i a z
 obtain ⟨D,p,⟨B,r,u,e⟩,n,l,o,j⟩:=i b hb
 simp only at k m l j
 subst k m l j
 rw[oneLt'_eq]
 simp only[if_true]
 refine Aa (wpAny_cRoomFor y (Aa (wpAny_callSpecialIfBound?_slot ⟨_,g,rfl⟩ PySem.F.slot_tuple_lt ?_)))
 refine Xl PySem.F.slot_tuple_lt ⟨_,g,rfl⟩ PySem.F.entry_tuple_lt (PySem.F.args_tuple_lt_2 _ _) (HT.tuple_lt_ints a b _ _ t o v r f e (c a) (c b) (by simpa using x) (by simpa using p)) ⟨g,n,?_⟩
 exact Jl h
theorem N0(k:P4 c d s.heap)(j:A.units<cLine):Cmp prog w A s oneType' (λx=>∃r∈d,x.1=.ref r) (MN c) where
 run:=λx y Q E ⟨r,g,e⟩ ⟨p,a,b⟩ h=>by
  obtain ⟨n,l⟩:=x
  obtain ⟨m,o⟩:=y
  simp only at e b
  subst e b
  rw[keyLt'_oneType]
  exact xJ k j g a h
 irr:=λx=>lex_irr _
 tr:=λx y z i f=>fE i f
 neg:=λx y z h=>kF h
theorem Wt:∀{l:List Addr} {Q:List (Option Value)->Ah->Prop},(∀r∈l,∃j:List Value,Fo j (c r)/\IsTup s.heap r j.toArray)->(∀fs:List (Option Value),fs.length=l.length->(∀(i:Nat) (r:Addr),l[i]? = some r->∃f,fs[i]? = some f/\(f.isSome=true↔c r≠[]))->Q fs s)->wpAny (model prog w) A ((l.map Be).mapM fK) Q E s
 | [],Q,_,h=>by
  rw[Qh,List.mapM_nil]
  exact Ae (h [] rfl λi r e=>by simp at e)
 | r::l,Q,hH,h=>by
  obtain ⟨j,C,o,g,k,n,e⟩:=hH r Ab
  rw[Ap,List.mapM_cons]
  have one:∀{R:Option Value->Ah->Prop},R j.toArray[0]? s->wpAny (model prog w) A (fK (.ref r)) R E s:=λ{R} x=>by
   unfold fK
   refine Aa (Jk (T := "tuple") ⟨o,g,k⟩ ?_)
   rw[if_neg (by simp)]
   exact Aa (listItems_at g e (Ae x))
  refine Aa (one (Aa (Wt (λm q=>hH m (Ac _ q)) λfs B v=>Ae (h _ (by rw[Bl,Bl,B]) λi m t=>?_))))
  cases i with
  | zero =>
   have z:r=m:=by simpa using t
   subst z
   refine ⟨_,rfl,?_⟩
   have d:=C.length
   cases j with
   | nil =>
    cases p:c r with
    | nil=>simp
    | cons _ _=>rw[p] at d; simp at d
   | cons a b =>
    cases p:c r with
    | nil=>rw[p] at d; simp at d
    | cons _ _=>simp
  | succ i =>
   obtain ⟨f,y,u⟩:=v i m (by simpa using t)
   exact ⟨f,by simpa using y,u⟩
theorem iV:∀{l:List Addr} {Q:List Value->Ah->Prop},(∀r∈l,∃a:List Value,Fo a (c r)/\IsTup s.heap r a.toArray)->Q (l.map λ_=>Me "tuple") s->wpAny (model prog w) A ((l.map Be).mapM typeOf) Q E s
 | [],Q,_,h=>by
  rw[Qh,List.mapM_nil]
  exact Ae h
 | r::l,Q,hH,h=>by
  obtain ⟨a,f,o,g,k,n,e⟩:=hH r Ab
  rw[Ap,List.mapM_cons]
  exact Aa (Jk (T := "tuple") ⟨o,g,k⟩ (Aa (iV (λd b=>hH d (Ac _ b)) (Ae h))))
theorem b0{r:Addr}{l:List Addr}(b:P4 c (r::l) s.heap)(h0:c r=[]){Q:Mz->Ah->Prop}(h:Q oneType' s):wpAny (model prog w) A (keyKind' ((r::l).map Be).toArray) Q E s:=by
 rw[keyKind'_eq,bU]
 refine Aa ?_
 show wpAny (model prog w) A (List.toArray <$> ((r::l).map Be).mapM fK) _ E s
 rw[map_eq_pure_bind]
 refine Aa (Wt b λfs n e=>Ae ?_)
 obtain ⟨f,a,d⟩:=e 0 r rfl
 have j:f=none:=by
  cases f with
  | none=>rfl
  | some v=>exact absurd h0 (d.mp rfl)
 subst j
 have m:¬ (fs.toArray.all λx=>x.isSome)=true:=by
  intro z
  have:=Array.all_eq_true'.mp z none (by
   have:=Bp a
   simpa using this)
  simp at this
 have k:¬ (fs.toArray[0]?.bind id).isSome=true:=by
  rw[List.getElem?_toArray,a]
  simp
 rw[if_neg m,if_neg k,oneTypeOnly'_eq,bU]
 refine Aa (Aa ?_)
 show wpAny (model prog w) A (List.toArray <$> ((r::l).map Be).mapM typeOf) _ E s
 rw[map_eq_pure_bind]
 refine Aa (iV b (Ae ?_))
 have i:((r::l).map λ_=>Me "tuple").toArray[0]? = some (Me "tuple"):=by simp
 have g:(((r::l).map λ_=>Me "tuple").toArray.all λx=>x == Me "tuple")=true:=by
  simp only[List.all_toArray,bY,Tt]
  intro _ _
  rfl
 rw[i]
 dsimp only
 rw[g,if_pos rfl]
 exact Ae (Ae h)
end
theorem iU:∀{b:List Addr} {us:List Value},Gj (b.map V.ref) us->us=b.map Be
 | [],_,r=>by cases r; rfl
 | a::l,_,r=>by
  rw[Ap] at r
  cases r with
  | cons d c =>
   cases d
   rw[iU c]
   rfl
theorem iP:∀a:List Addr,Gj (a.map V.ref) (a.map Be)
 | []=>.nil
 | _::l=>.cons rfl (iP l)
section
variable{prog:Bk}{w:World}{A:Ci}{E:Value->Ah->Prop}{s:Ah}{c:Addr->List Int}{a:List Addr}
theorem bS{h:Heap}{vs:List Value}{out:Array Value}{b:Addr}{o:Obj}(e:h.get? b=some o):(sortedAll h vs out).get? b=some o:=by
 have lt:=Aw e
 unfold sortedAll sortedHeap
 have c:((h.push (Gm "list" #[] 0)).update h.objs.size (Ge (·++vs.toArray))).objs.size=h.objs.size+1:=by rw[Oj,size_push']
 have a:b≠h.objs.size+1:=Bq (Ho lt)
 refine ((Bo _ _ _).2 b a).trans (Ai _ (Ai _ (((Bo _ _ _).2 b a).trans (Ai _ ?_))))
 exact ((Bo _ _ _).2 b (Bq lt)).trans (Ai _ e)
theorem gN{h:Heap}{vs:List Value}{out:Array Value}:∃n,(sortedAll h vs out).get? (h.objs.size+1)=some (Gm "list" out n):=by
 unfold sortedAll sortedHeap
 have a:((h.push (Gm "list" #[] 0)).update h.objs.size (Ge (·++vs.toArray))).objs.size=h.objs.size+1:=by rw[Oj,size_push']
 have c:(((h.push (Gm "list" #[] 0)).update h.objs.size (Ge (·++vs.toArray))).push (Gm "list" vs.toArray 0)).get? (h.objs.size+1)=some (Gm "list" vs.toArray 0):=by
  rw[<- a]
  exact Ar _ rfl
 have d:=Rc c (λ_=>#[])
 have b:=Ai (Gm "list" #[] 0) (Ai (Gm "tuple" vs.toArray 0) d)
 exact ⟨_,Rc b (λ_=>out)⟩
end
def IF{b:Type}(c:Addr->b)(d0:b)(x:Keyed):b:=match x.1 with
 | .ref a=>c a
 | _=>d0
def LV{a:Type}(c:Addr->a)(d0:a)(lt_:a->a->Bool)(x y:Keyed):Bool:=lt_ (IF c d0 x) (IF c d0 y)
def rQ{a:Type}(prog:Bk)(w:World)(A:Ci)(s:Ah)(d:List Addr)(c:Addr->a)(d0:a)(lt_:a->a->Bool):Prop :=
 ∃b,(∀(R:Mz->Ah->Prop) (E:Value->Ah->Prop),R b s->wpAny (model prog w) A (keyKind' (d.map Be).toArray) R E s)/\Cmp prog w A s b (λx=>∃r∈d,x.1=.ref r) (LV c d0 lt_)
section
variable{prog:Bk}{w:World}{A:Ci}{E:Value->Ah->Prop}{s:Ah}{f:Type}{c:Addr->f}{d0:f}{lt_:f->f->Bool}{d:List Addr}
theorem tN{a:Addr}{n:Nat}{P:Fin->Ah->Prop}(hl:s.heap.get? a=some (Gm "list" (d.map Be).toArray n))(hC:∀h':Heap,(∀b o,b≠a->s.heap.get? b=some o->h'.get? b=some o)->2<=d.length->rQ prog w A { s with heap:=h' } d c d0 lt_)(hz:d.length<=Ay)(h:∀f:List Addr,f.Perm d->f.Pairwise (λx y=>lt_ (c y) (c x)=false)->P (.done (.ret .none)) { s with heap:=sortedHeap s.heap a (d.map Be) (f.map Be).toArray }):wpAny (model prog w) A (Builtin.«list.sort» ⟨[.ref a],[]⟩) P E s:=by
 have lt:=Aw hl
 have t:(d.map Be).toArray.size=d.length:=by simp
 rw[list_sort_plain]
 refine Aa (listItems_at hl rfl (Aa (listUpdate_at hl rfl ?_ (by rw[t]; exact hz))))
 obtain ⟨K,F⟩ : ∃K,(s.heap.update a (Ge λ_=>#[])).get? a=some (Gm "list" #[] K):=⟨_,Rc hl (λ_=>#[])⟩
 refine Aa (seqEpoch_at F rfl (Aa (wpAny_newTuple (Aa (wpAny_newList (Ct ?_)) ))))
 have u:(((s.heap.update a (Ge λ_=>#[])).push (Gm "tuple" (d.map Be).toArray 0)).push (Gm "list" #[] 0)).get? a=some (Gm "list" #[] K):=by
  rw[Heap.get?_push_ne _ _ _ (by rw[size_push',Oj]; exact Bq (Ho lt)),
   Heap.get?_push_ne _ _ _ (by rw[Oj]; exact Bq lt)]
  exact F
 have kept:∀b o,b≠a->s.heap.get? b=some o->(((s.heap.update a (Ge λ_=>#[])).push (Gm "tuple" (d.map Be).toArray 0)).push (Gm "list" #[] 0)).get? b=some o:=λb o V e=>by
  refine Ai _ (Ai _ ?_)
  exact ((Bo s.heap a _).2 b V).trans e
 show wpAny (model prog w) A _ P E { s with heap:=((s.heap.update a (Ge λ_=>#[])).push (Gm "tuple" (d.map Be).toArray 0)).push (Gm "list" #[] 0) }
 dsimp only
 -- what is left rG the runs
 have D:∀(out:Array Value) (f:List Addr),out=(f.map Be).toArray->f.Perm d->f.Pairwise (λx y=>lt_ (c y) (c x)=false) ->
   P (.done (.ret .none)) { s with heap:=sortedHeap s.heap a (d.map Be) out }:=λout f e p1 p2=>by rw[e]; exact h f p1 p2
 by_cases q:(d.map Be).toArray.size<2
 ·rw[if_pos q,if_pos q]
  refine Aa (Ae ?_)
  rw[StateT.run_pure]
  refine Aa (Ae (Aa (seqEpoch_at u rfl (Aa (listUpdate_at u rfl ?_ (by simp) ?_)))))
  ·simp only[bne_self_eq_false,Bz,if_false]
   refine Ae (D _ d ?_ (Gh _) ?_)
   ·show Array.map (λx=>x.2) ((d.map Be).toArray.zip (d.map Be).toArray)=_
    apply Array.ext'
    simp [List.map_snd_zip]
   ·rw[t] at q
    match d,q with
    | [],_=>exact Ei
    | [_],_=>exact Fh _ _
    | _::_::_,q=>simp only[Bl] at q; omega
  ·show (Array.map (λx:Keyed=>x.2) ((d.map Be).toArray.zip (d.map Be).toArray)).size<=Ay+1
   rw[Wo,Array.size_zip,t]
   omega
 ·rw[if_neg q,if_neg q]
  rw[t] at q
  obtain ⟨R,G,C⟩:=hC (((s.heap.update a (Ge λ_=>#[])).push (Gm "tuple" (d.map Be).toArray 0)).push (Gm "list" #[] 0)) kept (by omega)
  refine Aa (G _ _ ?_)
  have L:(pairsOf (d.map Be)).size=d.length:=by rw[pairsOf_size,Ad]
  refine Aa (Cv (xU C (a₀:=pairsOf (d.map Be)) (st:=SortSt.mk' R ((d.map Be).toArray.zip (d.map Be).toArray) #[] 7 none) (E:=E)
   (Q:=λ_ m=>Good0 R (pairsOf (d.map Be)) m/\Uk (LV c d0 lt_) (arrOf m) 0 (pairsOf (d.map Be)).size)
   ⟨rfl,rfl,Array.Perm.refl _⟩ (λx v=>?_) rfl (by rw[L]; omega) λm g J=>⟨g,J⟩) ?_ λ_ _ z=>z)
  ·rw[pairsOf_toList] at v
   obtain ⟨_,H⟩:=mem_zip_self v
   obtain ⟨r,I,e⟩:=Dd.mp H
   exact ⟨r,I,e.symm⟩
  ·(rintro ⟨⟨⟩,m⟩ s' q_; obtain ⟨rfl,g,J⟩ := q_)
   dsimp only
   -- the things of the new order
   have M:(arrOf m).toList.Perm ((d.map Be).zip (d.map Be)):=by rw[<- pairsOf_toList]; exact Qw.mp g.perm
   have B:∀x∈(arrOf m).toList,∃r∈d,x=(Be r,Be r):=λx v=>by
    obtain ⟨e,H⟩:=mem_zip_self (M.mem_iff.mp v)
    obtain ⟨r,I,O⟩:=Dd.mp H
    refine ⟨r,I,?_⟩
    obtain ⟨x1,x2⟩:=x
    simp only at e O
    rw[<- e,O]
   have Y:∀l:List Keyed,(∀x∈l,∃r∈d,x=(Be r,Be r))->∃f:List Addr,l=f.map λr=>(Be r,Be r):=by
    intro l
    induction l with
    | nil=>intro _; exact ⟨[],rfl⟩
    | cons x l ih =>
     intro v
     obtain ⟨r,_,e⟩:=v x Ab
     obtain ⟨f,e'⟩:=ih λy hy=>v y (Ac _ hy)
     exact ⟨r::f,by rw[Ap,e,e']⟩
   obtain ⟨f,p⟩:=Y _ B
   have zz:(d.map Be).zip (d.map Be)=d.map λr=>(Be r,Be r):=by
    rw[List.zip_map',]
   rw[p,zz] at M
   have inj:∀x:Keyed,∃a:Addr,True:=λ_=>⟨0,trivial⟩
   have T:f.Perm d:=by
    have:=M.map (λx:Keyed=>match x.1 with | .ref a=>a | _=>0)
    rw[Cr,Cr] at this
    simpa [Function.comp_def] using this
   have so:f.Pairwise (λx y=>lt_ (c y) (c x)=false):=by
    rw[Lp]
    intro i j W N Z
    have ls:(arrOf m).size=f.length:=by
     have:=congrArg Ja p
     rw[Am,Ad] at this
     exact this
    have S:∀k (G:k<f.length),X (arrOf m) k=(Be f[k],Be f[k]):=λk G=>by
     have U:=Eu (bQ (xs:=arrOf m) (i:=k) (by omega))
     rw[p,Bg,Bt G] at U
     exact (Ca U).symm
    have:=J i j (Do _) (by omega) (by rw[L,<- T.length_eq]; exact N)
    rw[S i W,S j N] at this
    exact this
   refine Aa (seqEpoch_at u rfl (Aa (listUpdate_at u rfl ?_ (by simp) ?_)))
   ·have fl:My m=none:=g.fail
    rw[fl]
    simp only[bne_self_eq_false,Bz,if_false]
    refine Ae (D _ f ?_ T so)
    apply Array.ext'
    rw[Array.toList_map,p,Cr]
    rfl
   ·show (Array.map (λx:Keyed=>x.2) (arrOf m)).size<=Ay+1
    rw[Wo,g.size,L]
    omega
theorem jW{l:Addr}{Q:Value->Ah->Prop}(hl:s.heap.IsList l (d.map Be).toArray)(p:∀(f:Ci) (h':Heap),f.units<=A.units+2->f.handled=A.handled->(∀b o,s.heap.get? b=some o->h'.get? b=some o)->2<=d.length->rQ prog w f { s with heap:=h' } d c d0 lt_)(hz:d.length<=Ay)(h:∀a:List Addr,a.Perm d->a.Pairwise (λx y=>lt_ (c y) (c x)=false)->Q (.ref (s.heap.objs.size+1)) { s with heap:=sortedAll s.heap (d.map Be) (a.map Be).toArray }):wpAny (model prog w) A (call (.builtin "sorted") [.ref l]) Q E s:=by
 refine Rg (by exact kind_sorted) plain_sorted entry_sorted (args_sorted1 _) ?_
 unfold Builtin.«sorted»
 refine Aa (m:=checkCount "sorted" 1 1 _) (Ae (Aa (collect_list hl (Aa (wpAny_newList ?_)) (by rw[Ad]; exact hz))))
 have g:((s.heap.push (Gm "list" #[] 0)).update s.heap.objs.size (Ge (·++(d.map Be).toArray))).objs.size=s.heap.objs.size+1:=by rw[Oj,size_push']
 have i:(((s.heap.push (Gm "list" #[] 0)).update s.heap.objs.size (Ge (·++(d.map Be).toArray))).push (Gm "list" (d.map Be).toArray 0)).get? (s.heap.objs.size+1)=some (Gm "list" (d.map Be).toArray 0):=by
  rw[<- g]
  exact Ar _ rfl
 have kept:∀b o,s.heap.get? b=some o->(((s.heap.push (Gm "list" #[] 0)).update s.heap.objs.size (Ge (·++(d.map Be).toArray))).push (Gm "list" (d.map Be).toArray 0)).get? b=some o:=λb o e=>by
  refine Ai _ (((Bo _ _ _).2 b (Bq (Aw e))).trans (Ai _ e))
 show wpAny _ _ _ _ _ { s with heap:=((s.heap.push (Gm "list" #[] 0)).update s.heap.objs.size (Ge (·++(d.map Be).toArray))).push (Gm "list" (d.map Be).toArray 0) }
 rw[g]
 refine Aa (Ct (Dj slot_list_sort ⟨_,i,rfl⟩ entry_list_sort (tN i (λh' n j=>p _ h' ?_ ?_ (λb o e=>n b o (Bq (Ho (Aw e))) (kept b o e)) j) hz λa q k=>⟨_,rfl,?_⟩) (args_list_sort _)))
 ·first | exact Aj _ | (show A.units+1<=A.units+2; omega) | (show A.units<=A.units+2; omega)
 ·rfl
 ·exact Ae ⟨_,rfl,h a q k⟩
end
section
variable{prog:Bk}{w:World}{A:Ci}{E:Value->Ah->Prop}{s:Ah}{c:Addr->List Int}{a:List Addr}
theorem U5{b:Bool}{x y:Int}{t u:Tok}{Q:Bool->Ah->Prop}(h:Q (decide (x<y)) s):wpAny (model prog w) A (oneLt' b (.int x t) (.int y u)) Q E s:=by
 cases b with
 | true=>exact oneLt_int h
 | false=>exact PySem.W.kat_one _ _ (lt_int h)
theorem oE{b:Bool}{Q:Bool->Ah->Prop}:∀{xs ys:List Value} {ns c:List Int} (i:Nat),Fo xs ns->Fo ys c->Q (HT.lexLt ns c) s->PySem.W.KatLex prog w A b (decide (xs.length<ys.length)) Q (xs.zip ys) i s
 | _,_,_,_,i,.nil,.nil,h=>h
 | _,_,_,_,i,.nil,.cons m u k,h=>h
 | _,_,_,_,i,.cons n t k,.nil,h=>h
 | _,_,_,_,i,.cons (vs:=xs) n t k,.cons (vs:=ys) m u k2,h=>by
  rw[Ig]
  refine PySem.W.kat_cons (wpAny_eqBool_int ?_)
  rw[HT.lexLt_cons] at h
  cases a:(n == m) with
  | true =>
   have e:n=m:=by simpa using a
   rw[if_pos e] at h
   refine PySem.W.kat_yes ?_
   have : decide ((Oc n t::xs).length<(Oc m u::ys).length)=decide (xs.length<ys.length):=by simp
   rw[this]
   exact oE (i+1) k k2 h
  | false =>
   have e:¬ n=m:=by simpa using a
   rw[if_neg e] at h
   exact PySem.W.kat_no (U5 h)
theorem fB:∀{l:List Addr},(∀r∈l,∃a:List Value,Fo a (c r)/\IsTup s.heap r a.toArray)->(∀r∈l,c r≠[])->∃fs:List Value,PySem.W.KatTups s.heap (l.map Be) fs/\fs.length=l.length/\∀v∈fs,∃i t,v=.int i t
 | [],_,_=>⟨[],.nil,rfl,λ_ h=>(nomatch h)⟩
 | r::l,hH,hn=>by
  obtain ⟨fs,u,q,w⟩:=fB (λf d=>hH f (Ac _ d)) (λf d=>hn f (Ac _ d))
  obtain ⟨a,b,o,g,k,n,e⟩:=hH r Ab
  have j:=hn r Ab
  match a,b with
  | [],b=>cases p:c r with
   | nil=>exact absurd p j
   | cons _ _=>rw[p] at b; cases b
  | v::a,b =>
   have : ∃i t,v=.int i t:=by
    revert b
    generalize c r=cr
    intro b
    cases b with
    | cons m t k=>exact ⟨_,_,rfl⟩
   refine ⟨v::fs,PySem.W.KatTups.cons g k e (by simp) u,by rw[Bl,Bl,q],λx hx=>?_⟩
   rcases Ak.mp hx with rfl | hx
   ·exact this
   ·exact w x hx
theorem nZ(b:P4 c a s.heap)(J:A.units<cLine)(O:2<=a.length):rQ prog w A s a c [] HT.lexLt:=by
 obtain ⟨r,l,rfl⟩ : ∃r l,a=r::l:=by
  cases a with
  | nil=>simp at O
  | cons r l=>exact ⟨r,l,rfl⟩
 by_cases H:c r=[]
 ·exact ⟨oneType',λR E h=>b0 b H h,N0 b J⟩
 by_cases d:∀G∈r::l,c G≠[]
 ·obtain ⟨fs,f1,f2,N⟩:=fB b d
  refine ⟨tuples' true,λR E h=>?_,?_⟩
  ·refine PySem.W.kat_kind (T:=.type "int") f1 (by rw[f2]; simp) (λv P=>?_) (by decide) h
   obtain ⟨i,t,rfl⟩:=N v P
   exact .now
  ·refine ⟨λx y Q E ⟨k,g,n⟩ ⟨o,j,m⟩ h=>?_,λx=>lex_irr _,λx y z=>fE,λx y z=>kF⟩
   obtain ⟨U,V⟩:=x
   obtain ⟨S,y2⟩:=y
   simp only at n m
   subst n m
   obtain ⟨q,C,o1,g1,k1,n1,e1⟩:=b k g
   obtain ⟨p,B,o2,L,k2,n2,M⟩:=b o j
   refine PySem.W.kat_lt g1 e1 L M ?_
   have e:(decide (q.toArray.size<p.toArray.size))=decide (q.length<p.length):=by simp
   rw[e]
   exact oE 0 C B h
 ·refine ⟨general',λR E h=>?_,?_⟩
  ·rw[kat_kind_eq,bU,map_eq_pure_bind]
   refine Aa (Aa (Wt b λfs hl I=>Ae ?_))
   have na:¬ (fs.toArray.all λx=>x.isSome)=true:=by
    intro z
    refine d λG F=>?_
    obtain ⟨i,K⟩:=List.getElem?_of_mem F
    obtain ⟨f,D,u⟩:=I i G K
    refine u.mp ?_
    exact Array.all_eq_true'.mp z f (by have:=Bp D; simpa using this)
   obtain ⟨f,D,u⟩:=I 0 r rfl
   have Y:(fs.toArray[0]?.bind id).isSome=true:=by
    rw[List.getElem?_toArray,D]
    simpa using u.mpr H
   rw[if_neg na,if_pos Y]
   exact Ae h
  ·refine ⟨λx y Q E ⟨k,g,n⟩ ⟨o,j,m⟩ h=>?_,λx=>lex_irr _,λx y z=>fE,λx y z=>kF⟩
   obtain ⟨U,V⟩:=x
   obtain ⟨S,y2⟩:=y
   simp only at n m
   subst n m
   obtain ⟨q,C,Z⟩:=b k g
   obtain ⟨p,B,X⟩:=b o j
   show wpAny (model prog w) A (oneLt' false (.ref k) (.ref o)) Q E s
   exact PySem.W.kat_one _ _ (HT.lt_tupInts Z X (show Fo q.toArray.toList (c k) by simpa using C) (show Fo p.toArray.toList (c o) by simpa using B) J h)
end
section
variable{X:Cx}
def rSortI(K:PySem.W.Frag):List V->Hp->VK->Prop:=λe H Q=>∃(a:Addr) (d:List Addr) (c:Addr->List Int),e=[.ref a]/\Mq K H a (d.map V.ref)/\(∀r∈d,Ru K H r ((c r).map V.int)) /\
  ∀(p:Addr) (b:List Addr),H p=none->b.Perm d->b.Pairwise (λx y=>HT.lexLt (c y) (c x)=false)->Q (.ref p) (upd H p (.lst (b.map V.ref)))
theorem call_sortedI(P:X.A.units+64<cLine):Ml X (.builtin "sorted") (rSortI X.K):=by
 intro i s O H L M Q I r h
 obtain ⟨a,w,c,rfl,F,t,q⟩:=h
 obtain ⟨u,rfl,x⟩:=vals1 r
 cases x
 obtain ⟨l,B,E,f⟩:=I.list F
 have e:=iU B
 subst e
 rw[Ad] at f
 refine jW (c:=c) (d0:=[]) (lt_:=HT.lexLt) E.isList (λN G J _ p v=>nZ (λr y=>?_) (by omega) v) f λd j z=>?_
 ·obtain ⟨D,C,⟨o,g,k⟩,_⟩:=I.tuple (t r y)
  exact ⟨D,intsAre_of C,o,p _ _ g,k⟩
 ·obtain ⟨n,m⟩:=gN (h:=s.heap) (vs:=w.map Be) (out:=(d.map Be).toArray)
  refine ⟨.ref (s.heap.objs.size+1),upd H (s.heap.objs.size+1) (.lst (d.map V.ref)),I.laid (t':=s.toks) (λb o e=>bS e) (Mu _) ⟨?_,_,n,iP d,m⟩,rfl,q _ d (I.hok.fresh (Mu _)) j z⟩
  rw[Ad,j.length_eq]
  exact f
end
end Ts
namespace DL
open PySem L2 Nd
def Mi{a:Type}(xs:List a)(lo b:Option Int):List a:=(xs.drop (HT.sIx xs.length 0 lo)).take (HT.sIx xs.length xs.length b - HT.sIx xs.length 0 lo)
theorem Ug{b c:Type}(f:b->c)(xs:List b)(lo a:Option Int):Mi (xs.map f) lo a=(Mi xs lo a).map f:=by
 unfold Mi
 rw[Ad,List.map_take,List.map_drop]
theorem Yp{b:Type}(xs:List b)(lo a:Option Int):(Mi xs lo a).Sublist xs:=(Hl _ _).trans (Jc _ _)
theorem aR{a:Type}(xs:List a)(k:Nat):Mi xs none (some (k:Int))=xs.take k:=by
 unfold Mi
 rw[HT.sIx_none,HT.sIx_nat,Nk,Nat.sub_zero]
 by_cases h:k<=xs.length
 ·rw[Nat.min_eq_left h]
 ·rw[fR (by omega),Ey,Gs (by omega)]
section
variable{K:PySem.W.Frag}{H:Hp}
theorem RdFs.drop:∀(n:Nat) {xs:List V} {ds:List Af} {F:List Addr},RdFs K H xs ds F->∃G,RdFs K H (xs.drop n) (ds.drop n) G/\G.Sublist F
 | 0,_,_,F,h=>⟨F,h,Co _⟩
 | n+1,_,_,_,.nil=>⟨[],.nil,Co _⟩
 | n+1,_,_,_,.cons _ t=>by
  obtain ⟨G,b,a⟩:=RdFs.drop n t
  exact ⟨G,b,a.trans (Bu _ _)⟩
theorem RdFs.take:∀(n:Nat) {xs:List V} {ds:List Af} {F:List Addr},RdFs K H xs ds F->∃G,RdFs K H (xs.take n) (ds.take n) G/\G.Sublist F
 | 0,_,_,F,h=>⟨[],.nil,List.nil_sublist _⟩
 | n+1,_,_,_,.nil=>⟨[],.nil,Co _⟩
 | n+1,_,_,_,.cons a t=>by
  obtain ⟨G,c,b⟩:=RdFs.take n t
  exact ⟨_,.cons a c,(Co _).append b⟩
theorem RdFs.cut{xs:List V}{ds:List Af}{F:List Addr}(h:RdFs K H xs ds F)(lo a:Option Int):∃G,RdFs K H (eN xs lo a) (Mi ds lo a) G/\G.Sublist F:=by
 unfold eN Mi
 rw[h.len]
 obtain ⟨G,c,b⟩:=h.drop (HT.sIx ds.length 0 lo)
 obtain ⟨f,e,d⟩:=c.take (HT.sIx ds.length ds.length a - HT.sIx ds.length 0 lo)
 exact ⟨f,e,d.trans b⟩
theorem RdFs.rep{xs:List V}{ds:List Af}(h:RdFs K H xs ds []):∀k:Nat,RdFs K H (By k xs).flatten (By k ds).flatten []
 | 0=>.nil
 | k+1=>by
  rw[Gu,Gu,Jb,Jb]
  exact h.app (RdFs.rep h k)
theorem RdFs.ints:∀ns:List Int,RdFs K H (ns.map V.int) (ns.map Av) []
 | []=>.nil
 | n::ns=>RdFs.cons (F:=[]) (.int n) (RdFs.ints ns)
theorem RdFs.ints_inv:∀{ns:List Int} {xs:List V} {F:List Addr},RdFs K H xs (ns.map Av) F->xs=ns.map V.int/\F=[]
 | [],_,_,h=>by cases h; exact ⟨rfl,rfl⟩
 | n::ns,_,_,h=>by
  rw[Ap] at h
  cases h with
  | cons a t =>
   obtain ⟨rfl,rfl⟩:=a.int_inv
   obtain ⟨rfl,rfl⟩:=RdFs.ints_inv t
   exact ⟨rfl,rfl⟩
theorem RdFs.bools_inv:∀{ns:List Bool} {xs:List V} {F:List Addr},RdFs K H xs (ns.map PyData.bool) F->xs=ns.map V.bl/\F=[]
 | [],_,_,h=>by cases h; exact ⟨rfl,rfl⟩
 | n::ns,_,_,h=>by
  rw[Ap] at h
  cases h with
  | cons a t =>
   obtain ⟨rfl,rfl⟩:=a.bl_inv
   obtain ⟨rfl,rfl⟩:=RdFs.bools_inv t
   exact ⟨rfl,rfl⟩
end
theorem dF{a b:List Af}:Dw (a++b)=(Dw a && Dw b):=by
 induction a with
 | nil=>simp [Dw]
 | cons x a c=>simp [Dw,c,Bool.and_assoc]
theorem Nu(ns:List Int):Dw (ns.map Av)=true:=Wq (λ_=>by simp [imm]) ns
def uI:D2:=λx y P=>match x,y with
 | .dat _ (.list ds),.dat _ (.list es)=>Dw ds=true/\Dw es=true/\ds.length+es.length<=1000000/\P (.dat .ow (.list (ds++es)))
 | _,_=>False
def kT:D2:=λx y P=>match x,y with
 | .dat _ (.tuple ds),.dat _ (.tuple es)=>Dw ds=true/\Dw es=true/\ds.length+es.length<=1000000/\P (.dat .ow (.tuple (ds++es)))
 | _,_=>False
def uN:D2:=λx y P=>match x,y with
 | .dat _ (.list ds),.dat _ (.int k)=>Dw ds=true /\ -1000000<=k/\k<=1000000/\ds.length * k.toNat<=1000000/\P (.dat .ow (.list (By k.toNat ds).flatten))
 | _,_=>False
section
variable{K:PySem.W.Frag}
theorem BM:tL K HG uI:=by
 intro s X n S T x y v w F G H Q P d c k
 unfold uI at c
 split at c
 ·obtain ⟨l,i,z,p⟩:=c
  obtain ⟨b,g,t,rfl,h,f,_,_⟩:=(d.told mem_mid).list_inv
  obtain ⟨a,m,u,rfl,o,e,_,_⟩:=(d.told Ga).list_inv
  have A:=e.len
  have r:=f.len
  refine ⟨a,b,m,g,rfl,rfl,o,h,pY (by omega),λq j=>?_⟩
  exact k _ _ _ _ (d.drop2.newI (e.app f) (by rw[dF,l,i]; rfl) (by rw[Bm]; exact pY (by omega)) j .ow) p
 ·exact c.elim
theorem DM:tL K IM uN:=by
 intro t X n S T x y v w F G H Q P e c k
 unfold uN at c
 split at c
 ·obtain ⟨f,s,u,g,p⟩:=c
  obtain ⟨rfl,_⟩:=(e.told mem_mid).int_inv
  obtain ⟨a,i,A,rfl,m,d,_,_⟩:=(e.told Ga).list_inv
  have r:=d.len
  obtain rfl:=d.imm f
  rename_i j
  refine ⟨a,_,i,rfl,rfl,m,by omega,by omega,pY (by rw[r]; exact g),λq h=>?_⟩
  refine k _ _ _ _ (e.drop2.newI (d.rep _) ?_ (by rw[vS,Nat.mul_comm]; exact pY g) h .ow) p
  refine sS.mpr λz b=>?_
  obtain ⟨l,o,b⟩:=List.mem_flatten.mp b
  rw[(Ih.mp o).2] at b
  exact sS.mp f z b
 ·exact c.elim
theorem T3:tL K (X7 K) kT:=by
 intro B X n S T x y v w F G H Q P c g k
 unfold kT at g
 split at g
 ·obtain ⟨t,r,C,p⟩:=g
  obtain ⟨b,h,rfl,i,f,s⟩:=(c.told mem_mid).tup_inv
  obtain ⟨a,j,rfl,l,d,z⟩:=(c.told Ga).tup_inv
  have A:=d.len
  have o:=f.len
  obtain rfl:=d.imm t
  obtain rfl:=f.imm r
  refine ⟨a,b,j,h,rfl,rfl,Ru.of l,Ru.of i,pY (by omega),λe=>?_,λe=>?_,λq u=>?_⟩
  ·subst e
   obtain rfl:=Ms.mp (A.symm.trans rfl)
   exact k _ _ [] _ (c.drop2.pushI (.tup i s f)) p
  ·subst e
   obtain rfl:=Ms.mp (o.symm.trans rfl)
   rw[Eb] at p
   exact k _ _ [] _ (c.drop2.pushI (.tup l z d)) p
  ·have m:=Ff u (.tup (j++h))
   exact k _ _ [] _ ((c.drop2.grow m (Aj _)).pushI (.tup Du (by rw[Bm]; exact pY (by omega)) ((d.app f).kp (Kp.of m)))) p
 ·exact g.elim
end
section
variable{X:Cx}{a b:Expr}{c d:DE}{pos:Pos}
theorem Zy(e:Gq X a c)(hb:Gq X b d):Gq X (.BinOp a .Add b pos) (dO uI c d):=bG EK BM e hb
theorem lS(e:Gq X a c)(hb:Gq X b d):Gq X (.BinOp a .Add b pos) (dO kT c d):=bG V3 T3 e hb
theorem BL(e:Gq X a c)(hb:Gq X b d):Gq X (.BinOp a .Mult b pos) (dO uN c d):=bG CA DM e hb
end
abbrev DO:=DS->(Option Int->DS->Prop)->Prop
def LO(K:PySem.W.Frag)(d:DO):TO:=λg H Q=>∃(f:Hp) (X:Addr->Prop) (S T:List Ent) (c:DS) (P:Option Int->DS->Prop),vs S=g/\Sl S c/\At K f X c.n (S++T) H/\d c P /\
 ∀o a b e,vs b=g->Sl b a->At K f X a.n (b++T) e->P o a->Q o e
abbrev EW(X:Cx)(e:Option Expr)(d:DO):Prop:=PO X e (LO X.K d)
theorem PO.imp{X:Cx}{e:Option Expr}{t t':TO}(h:PO X e t)(k:∀b H Q,t' b H Q->t b H Q):PO X e t':=λa s b H Q I q=>h a s b H Q I (k b H Q q)
def vB:DO:=λa P=>P none a
def Y9(c:DE):DO:=λb P=>c b λx a=>match x with
 | .dat _ (.int i)=>P (some i) a
 | _=>False
section
variable{X:Cx}{e:Expr}{b:DE}{lo c:Option Expr}{dl d:DO}{pos f:Pos}
theorem Yd:EW X none vB:=by
 refine PO.imp R5 λf H Q h=>?_
 obtain ⟨e,Y,S,T,b,P,rfl,a,c,d,k⟩:=h
 exact k _ b S H rfl a c d
theorem Yv(h:Gq X e b):EW X (some e) (Y9 b):=by
 refine PO.imp (O5 h) λq H Q h=>?_
 obtain ⟨i,Y,S,T,j,P,rfl,d,m,o,k⟩:=h
 refine ⟨i,Y,S,T,j,_,rfl,d,m,o,λx c v F g f l n a p=>?_⟩
 split at p
 ·obtain ⟨rfl,_⟩:=(a.told mem_mid).int_inv
  exact ⟨_,rfl,k _ c g f l n a.drop p⟩
 ·exact p.elim
def LK(i:Bool)(b:DE)(dl d:DO):DE:=λf P=>b f λx e=>dl e λl c=>d c λh a=>match x with
 | .dat m (.list ds)=>bE i m (Mi ds l h) λz=>P z a
 | .dat m (.tuple ds)=>fZ i m (Mi ds l h) λz=>P z a
 | _=>False
def JL(K:PySem.W.Frag):V->Option Int->Option Int->Hp->VK->Prop:=λx lo c H Q=>BQ K x lo c H Q\/X4 x lo c H Q
theorem fH{i:Bool}(he:Gq X e b)(hl:EW X lo dl)(hh:EW X c d):Gq X (.Subscript e (.Slice lo c none f) pos) (LK i b dl d):=by
 refine PE.imp (oT (r:=JL X.K) (N3.or W4) he hl hh) λσ H Q h=>?_
 obtain ⟨E,Y,S,T,δ,P,rfl,hS,V,Z,k⟩:=h
 refine ⟨E,Y,S,T,δ,_,rfl,hS,V,Z,λx u v F S1 H1 e1 W B p1=>?_⟩
 refine ⟨E,Y,S1,⟨some v,x,F⟩::T,u,_,e1,W,B,p1,λl C S2 H2 U R q f=>?_⟩
 refine ⟨E,Y,S2,⟨some v,x,F⟩::T,C,_,U,R,q,f,λh m L H3 N O g n=>?_⟩
 split at n
 ·obtain ⟨a,t,G,rfl,I,o,rfl,J⟩:=(g.told mem_mid).list_inv
  refine .inl ⟨a,t,rfl,Mq.of I,λp D=>?_⟩
  obtain ⟨G',w,s⟩:=o.cut l h
  obtain ⟨z,A,j,y⟩:=g.newL w (s.trans (Dm _ _)) (Cb (Yp _ _ _).length_le J) D n
  exact k z m _ A L _ N O j y
 ·obtain ⟨a,t,rfl,I,o,J⟩:=(g.told mem_mid).tup_inv
  refine .inr ⟨a,t,rfl,I,λp H' D M=>?_⟩
  obtain ⟨G',w,s⟩:=o.cut l h
  obtain ⟨z,A,j,y⟩:=(g.grow M (Aj _)).oldT (w.kp (Kp.of M)) s (Cb (Yp _ _ _).length_le J) D n
  exact k z m _ A L _ N O j y
 ·exact n.elim
end
end DL
namespace NdS
open PySem PyProof.Rows
end NdS
namespace Nd
open PySem PySem.Spec PyProof.Rows L2 NdS
end Nd
namespace DL
open PySem L2 Nd
def qI(x:Int):List Int->List Int
 | []=>[x]
 | y::l=>if x<y then x::y::l else if x=y then y::l else y::qI x l
def Pj(ns:List Int):List Int:=ns.foldr qI []
theorem pH{x z:Int}:∀{l:List Int},z∈qI x l↔z=x\/z∈l
 | []=>by simp [qI]
 | y::l=>by
  unfold qI
  split
  ·simp
  ·split
   ·rename_i b a
    subst a
    simp
   ·simp only[Ak,pH (l:=l)]
    constructor
    ·rintro (h | h | h) <;> simp [h]
    ·rintro (h | h | h) <;> simp [h]
theorem iJ{x:Int}:∀{l:List Int},l.Pairwise (· < ·)->(qI x l).Pairwise (· < ·)
 | [],_=>Fh _ _
 | y::l,h=>by
  obtain ⟨a,c⟩:=Bd.mp h
  unfold qI
  split
  ·rename_i b
   refine Bd.mpr ⟨λz hz=>?_,h⟩
   rcases Ak.mp hz with rfl | hz
   ·exact b
   ·exact Int.lt_trans b (a z hz)
  ·split
   ·exact h
   ·refine Bd.mpr ⟨λz hz=>?_,iJ c⟩
    rcases pH.mp hz with rfl | hz
    ·omega
    ·exact a z hz
theorem Vo:∀ns:List Int,(Pj ns).Pairwise (· < ·)
 | []=>Ei
 | n::ns=>iJ (Vo ns)
theorem nR{x:Int}:∀{ns:List Int},x∈Pj ns↔x∈ns
 | []=>Iff.rfl
 | n::ns=>by
  rw[show Pj (n::ns)=qI n (Pj ns) from rfl,pH,nR (ns:=ns),Ak]
theorem uQ{l ns:List Int}(h:l.Pairwise (· < ·))(m:∀x,x∈l↔x∈ns):l=Pj ns:=iC h (Vo ns) λx=>(m x).trans nR.symm
theorem dA:∀{l m:List Int},l.Perm m->l.Pairwise (·<=·)->m.Pairwise (·<=·)->l=m
 | [],m,p,_,_=>(List.nil_perm.mp p).symm
 | a::l,[],p,_,_=>(List.perm_nil.mp p)
 | a::l,b::m,p,h1,h2=>by
  obtain ⟨d,f⟩:=Bd.mp h1
  obtain ⟨g,c⟩:=Bd.mp h2
  have e:a=b:=by
   rcases Ak.mp (p.mem_iff.mp Ab) with z | z
   ·exact z
   ·rcases Ak.mp (p.mem_iff.mpr Ab) with y | y
    ·exact y.symm
    ·have:=g a z; have:=d b y; omega
  subst e
  rw[dA (List.perm_cons _ |>.mp p) f c]
def wQ(x:Int):List Int->List Int
 | []=>[x]
 | y::l=>if x<=y then x::y::l else y::wQ x l
def fA(ns:List Int):List Int:=ns.foldr wQ []
theorem wM{x:Int}:∀{l:List Int},(wQ x l).Perm (x::l)
 | []=>Gh _
 | y::l=>by
  unfold wQ
  split
  ·exact Gh _
  ·exact ((wM (l:=l)).cons y).trans (Ej _ _ _)
theorem Pq:∀ns:List Int,(fA ns).Perm ns
 | []=>Gh _
 | n::ns=>wM.trans ((Pq ns).cons n)
theorem uE{x:Int}:∀{l:List Int},l.Pairwise (·<=·)->(wQ x l).Pairwise (·<=·)
 | [],_=>Fh _ _
 | y::l,h=>by
  obtain ⟨a,c⟩:=Bd.mp h
  unfold wQ
  split
  ·rename_i b
   refine Bd.mpr ⟨λz hz=>?_,h⟩
   rcases Ak.mp hz with rfl | hz
   ·exact b
   ·exact Int.le_trans b (a z hz)
  ·refine Bd.mpr ⟨λz hz=>?_,uE c⟩
   rcases Ak.mp (wM.mem_iff.mp hz) with rfl | hz
   ·omega
   ·exact a z hz
theorem eM:∀ns:List Int,(fA ns).Pairwise (·<=·)
 | []=>Ei
 | n::ns=>uE (eM ns)
theorem F4{l ns:List Int}(p:l.Perm ns)(h:l.Pairwise (·<=·)):l=fA ns:=dA (p.trans (Pq ns).symm) h (eM ns)
theorem wI(ns:List Int):(fA ns).length=ns.length:=(Pq ns).length_eq
abbrev DC:=List DV->(DV->Prop)->Prop
def Td(K:PySem.W.Frag)(r:List V->Hp->VK->Prop)(rd:DC):Prop:=∀(d:Hp) (X:Addr->Prop) (n:Nat) (S T a:List Ent) (c:List V) (H:Hp) (Q:VK) (P:DV->Prop),
 a.map Ent.v=c.map some->At K d X n (S++(a++T)) H->rd (a.map Ent.x) P->(∀z u e b,At K d X n (S++⟨some u,z,e⟩::T) b->P z->Q u b)->r c H Q
def JB(rd:DC)(b:DA):DE:=λc P=>b c λd a=>rd d λz=>P z a
section
variable{X:Cx}{x:Str}{p pos:Pos}{e:Expr}{es:List Expr}{a:DA}{id T:String}{r:List V->Hp->VK->Prop}{rd:DC}
theorem Z9{K:PySem.W.Frag}(o:Td K r rd):∀d H Q,LE K (JB rd a) d H Q->KQ r (LA K a) d H Q:=by
 intro d H Q h
 obtain ⟨i,Y,S,T,t,P,rfl,v,j,m,k⟩:=h
 refine ⟨i,Y,S,T,t,_,rfl,v,j,m,λD b w y g q B l s A c p=>?_⟩
 subst s
 exact o i Y b.n g T w y q Q _ A c p λz u x f e C=>k z b u x g f B l e C
theorem Gz(j:Ml X (.builtin id) r)(o:Td X.K r rd)(i:Gl X x)(h:X.mg x=none)(d:Os x=some (.builtin id))(k:mI X (e::es) a)(g:x ≠ "__name__" := by decide)(c:(x == ("__debug__" : Str))=false:=by decide)(f:Bj (e::es) X.env=(false,eval e X.env)::Bj es X.env:=by rfl)(b:(Hg pos (Bj es X.env)).any (·.1)=false:=by rfl):Gq X (.Call (.Name x p) (e::es) [] pos) (JB rd a) :=
 PE.imp (eX j i h d k g c f b) (Z9 o)
theorem Je(j:Ml X (.type T) r)(o:Td X.K r rd)(i:Gl X x)(h:X.mg x=none)(d:Os x=some (.type T))(k:mI X (e::es) a)(g:x ≠ "__name__" := by decide)(c:(x == ("__debug__" : Str))=false:=by decide)(f:Bj (e::es) X.env=(false,eval e X.env)::Bj es X.env:=by rfl)(b:(Hg pos (Bj es X.env)).any (·.1)=false:=by rfl):Gq X (.Call (.Name x p) (e::es) [] pos) (JB rd a) :=
 PE.imp (Na j i h d k g c f b) (Z9 o)
end
theorem EA{c b:Type}{f:c->b}{l:List c}{x:b}(h:l.map f=[x]):∃a,l=[a]/\f a=x:=by
 cases l with
 | nil=>cases h
 | cons a t =>
  obtain ⟨e,d⟩:=Hs h
  exact ⟨a,by rw[zP.mp d],e⟩
theorem HU{c d:Type}{f:c->d}{l:List c}{x y:d}(h:l.map f=[x,y]):∃a b,l=[a,b]/\f a=x/\f b=y:=by
 cases l with
 | nil=>cases h
 | cons a t =>
  obtain ⟨g,e⟩:=Hs h
  obtain ⟨b,rfl,i⟩:=EA e
  exact ⟨a,b,rfl,g,i⟩
theorem Hw{K:PySem.W.Frag}{c H:Hp}{X:Addr->Prop}{n:Nat}{S T As:List Ent}{us:List V}{x:DV}(g:As.map Ent.v=us.map some)(f:At K c X n (S++(As++T)) H)(ex:As.map Ent.x=[x]):∃v F,us=[v]/\At K c X n (S++⟨some v,x,F⟩::T) H:=by
 obtain ⟨⟨v,y,F⟩,rfl,e⟩:=EA ex
 obtain ⟨u,rfl,d⟩:=EA g.symm
 have b:y=x:=e
 have a:some u=v:=d
 subst b a
 exact ⟨u,F,rfl,f⟩
theorem Yj{K:PySem.W.Frag}{f H:Hp}{X:Addr->Prop}{n:Nat}{S T As:List Ent}{us:List V}{x y:DV}(o:As.map Ent.v=us.map some)(j:At K f X n (S++(As++T)) H)(ex:As.map Ent.x=[x,y]):∃v F w G,us=[v,w]/\At K f X n (S++⟨some v,x,F⟩::⟨some w,y,G⟩::T) H:=by
 obtain ⟨⟨v,h,F⟩,⟨w,l,G⟩,rfl,i,g⟩:=HU ex
 obtain ⟨u,e,rfl,m,k⟩:=HU o.symm
 have b:h=x:=i
 have c:l=y:=g
 have a:some u=v:=m
 have d:some e=w:=k
 subst b c a d
 exact ⟨u,F,e,G,rfl,j⟩
def vU:DC:=λa P=>match a with
 | [.dat _ (.list ds)]=>P (.dat .ow (.int ds.length))
 | [.dat _ (.tuple ds)]=>P (.dat .ow (.int ds.length))
 | [.dat _ (.str z)]=>z.length<=1000000/\P (.dat .ow (.int z.length))
 | _=>False
def tH(i:Bool):DC:=λa P=>match a with
 | [.dat m (.list ds)]=>bE i m ds P
 | [.dat m (.tuple ds)]=>bE i m ds P
 | _=>False
def lM(i:Bool):DC:=λa P=>match a with
 | [.dat m (.list ds)]=>fZ i m ds P
 | [.dat m (.tuple ds)]=>P (.dat m (.tuple ds))
 | _=>False
def v9:DC:=λa P=>match a with
 | [.dat _ (.int i)]=>P (.dat .ow (.int i))
 | [.dat _ (.bool b)]=>P (.dat .ow (.int (if b=true then 1 else 0)))
 | _=>False
def LD:DC:=λa P=>match a with
 | [.dat _ (.int i),.dat _ (.int j)]=>P (.dat .ow (.int (if j > i then j else i)))
 | _=>False
def sQ:DC:=λa P=>match a with
 | [.dat _ (.int i),.dat _ (.int j)]=>P (.dat .ow (.int (if j<i then j else i)))
 | _=>False
def KU:DC:=λb P=>match b with
 | [.dat _ (.list ds)]=>∃a:List Int,ds=a.map Av/\a≠[]/\∀M∈a,(∀x∈a,M<=x)->P (.dat .ow (.int M))
 | _=>False
def u5:DC:=λa P=>match a with
 | [.dat _ (.list ds)]=>∃bs:List Bool,ds=bs.map PyData.bool/\P (.dat .ow (.bool (bs.all id)))
 | _=>False
def kH:DC:=λb P=>match b with
 | [.dat _ (.list ds)]=>∃a:List Int,ds=a.map Av/\a.length<64/\P (.dat .ow (.list ((fA a).map Av)))
 | _=>False
def KN:Af->String
 | .none => "NoneType"
 | .bool _ => "bool"
 | .int _ => "int"
 | .str _ => "str"
 | .list _ => "list"
 | .tuple _ => "tuple"
 | .dict _ => "dict"
section
variable{K:PySem.W.Frag}
theorem Tz:Td K (λxs H Q=>∃x n,xs=[x]/\FD K x H n/\Q (.int n) H) vU:=by
 intro j X n S T h i H Q P g b c k
 unfold vU at c
 split at c
 ·rename_i d
  obtain ⟨v,F,rfl,b⟩:=Hw g b d
  obtain ⟨a,xs,G,rfl,f,e,_,_⟩:=(b.told mem_mid).list_inv
  exact ⟨_,_,rfl,.inl ⟨xs,Mq.of f,e.len.symm⟩,k _ _ [] H (b.drop.pushI (.int _)) c⟩
 ·rename_i d
  obtain ⟨v,F,rfl,b⟩:=Hw g b d
  obtain ⟨a,xs,rfl,f,e,_⟩:=(b.told mem_mid).tup_inv
  exact ⟨_,_,rfl,.inr ⟨xs,Ru.of f,e.len.symm⟩,k _ _ [] H (b.drop.pushI (.int _)) c⟩
 ·rename_i d
  obtain ⟨v,F,rfl,b⟩:=Hw g b d
  obtain ⟨rfl,_⟩:=(b.told mem_mid).str_inv
  exact ⟨_,_,rfl,⟨pY c.1,rfl⟩,k _ _ [] H (b.drop.pushI (.int _)) c.2⟩
 ·exact c.elim
theorem kC{i:Bool}:Td K (Y8 K) (tH i):=by
 intro t X n S T r s H Q P p b c k
 unfold tH at c
 split at c
 ·rename_i f
  obtain ⟨v,F,rfl,b⟩:=Hw p b f
  obtain ⟨a,h,G,rfl,j,e,rfl,o⟩:=(b.told mem_mid).list_inv
  refine ⟨a,h,rfl,.inl (Mq.of j),λl m=>?_⟩
  obtain ⟨z,q,g,d⟩:=b.newL e (Dm _ _) o m c
  exact k _ _ _ _ g d
 ·rename_i f
  obtain ⟨v,F,rfl,b⟩:=Hw p b f
  obtain ⟨a,h,rfl,j,e,o⟩:=(b.told mem_mid).tup_inv
  refine ⟨a,h,rfl,.inr (Ru.of j),λl m=>?_⟩
  obtain ⟨z,q,g,d⟩:=b.newL e (Co _) o m c
  exact k _ _ _ _ g d
 ·exact c.elim
theorem Ro{i:Bool}:Td K (Y3 K) (lM i):=by
 intro t X n S T q s H Q P h b c k
 unfold lM at c
 split at c
 ·rename_i d
  obtain ⟨v,F,rfl,b⟩:=Hw h b d
  obtain ⟨a,e,G,rfl,f,g,rfl,j⟩:=(b.told mem_mid).list_inv
  refine ⟨a,e,rfl,.inl ⟨Mq.of f,λl p=>?_⟩⟩
  obtain ⟨z,r,o,m⟩:=b.newT g (Dm _ _) j p c
  exact k _ _ _ _ o m
 ·rename_i d
  obtain ⟨v,F,rfl,b⟩:=Hw h b d
  obtain ⟨a,e,rfl,f,g,j⟩:=(b.told mem_mid).tup_inv
  exact ⟨a,e,rfl,.inr ⟨Ru.of f,k _ _ F H b c⟩⟩
 ·exact c.elim
theorem G6:Td K (λxs H Q=>(∃i,xs=[V.int i]/\Q (.int i) H)\/∃k,xs=[V.bl k]/\Q (.int (if k then 1 else 0)) H) v9:=by
 intro g X n S T e f H Q P d a b k
 unfold v9 at b
 split at b
 ·rename_i c
  obtain ⟨v,F,rfl,a⟩:=Hw d a c
  obtain ⟨rfl,_⟩:=(a.told mem_mid).int_inv
  exact .inl ⟨_,rfl,k _ _ [] H (a.drop.pushI (.int _)) b⟩
 ·rename_i c
  obtain ⟨v,F,rfl,a⟩:=Hw d a c
  obtain ⟨rfl,_⟩:=(a.told mem_mid).bl_inv
  exact .inr ⟨_,rfl,k _ _ [] H (a.drop.pushI (.int _)) b⟩
 ·exact b.elim
theorem U9:Td K (λxs H Q=>∃i j,xs=[V.int i,V.int j]/\Q (.int (if j<i then j else i)) H) sQ:=by
 intro g X n S T e f H Q P d a b k
 unfold sQ at b
 split at b
 ·rename_i c
  obtain ⟨v,F,w,G,rfl,a⟩:=Yj d a c
  obtain ⟨rfl,_⟩:=(a.told mem_mid).int_inv
  obtain ⟨rfl,_⟩:=(a.told Ga).int_inv
  exact ⟨_,_,rfl,k _ _ [] H (a.drop2.pushI (.int _)) b⟩
 ·exact b.elim
theorem CU:Td K (λxs H Q=>∃(p:Addr) (bs:List Bool),xs=[.ref p]/\Mq K H p (bs.map V.bl)/\Q (.bl (bs.all id)) H) u5:=by
 intro l X n S T i j H Q P h b c k
 unfold u5 at c
 split at c
 ·rename_i e
  obtain ⟨v,F,rfl,b⟩:=Hw h b e
  obtain ⟨bs,rfl,f⟩:=c
  obtain ⟨a,xs,G,rfl,g,d,rfl,m⟩:=(b.told mem_mid).list_inv
  obtain ⟨rfl,_⟩:=d.bools_inv
  exact ⟨a,bs,rfl,Mq.of g,k _ _ [] H (b.drop.pushI (.bl _)) f⟩
 ·exact c.elim
theorem qB:Td K (oR K) kH:=by
 intro s X n S T r d H Q P m b c k
 unfold kH at c
 split at c
 ·rename_i g
  obtain ⟨v,F,rfl,b⟩:=Hw m b g
  obtain ⟨h,rfl,i,j⟩:=c
  obtain ⟨a,t,G,rfl,l,e,rfl,u⟩:=(b.told mem_mid).list_inv
  obtain ⟨rfl,_⟩:=e.ints_inv
  refine ⟨a,h,rfl,Mq.of l,i,λq d o f p=>?_⟩
  rw[F4 f p]
  exact k _ _ _ _ (b.drop.newI (RdFs.ints _) (Nu _) (by rw[Ad,wI]; exact sz (by omega)) o .ow) j
 ·exact c.elim
end
def dV(v:V):DE:=λa P=>P (.val v) a
theorem pO{ns:List Int}(h:∀x∈ns,0<=x/\x<60):(Pj ns).length<=60 :=
 Cb (NdS.len_leI ((Vo ns).imp λ{x y} h=>Int.ne_of_lt h) λe a=>Yu (h e (nR.mp a)).1 (h e (nR.mp a)).2) (by decide)
end DL
namespace Nd
open PySem PySem.Spec PyProof.Rows L2
def KA(K:PySem.W.Frag)(a b:Addr):It :=
  ⟨λi H=>∃d c x y,Mq K H a d/\Mq K H b c/\d[i]? = some x/\c[i]? = some y,
   λi H x e=>∃p u v,x=.ref p/\H p=none/\e=upd H p (.tup [u,v])/\(∀d,Mq K H a d->d[i]? = some u)/\∀c,Mq K H b c->c[i]? = some v,
   λi H=>∃d c,Mq K H a d/\Mq K H b c/\(d.length<=i\/c.length<=i)⟩
theorem A9{P:Bk}{w:World}{K:PySem.W.Frag}{L:List Expr}{k:Nat}{pos:Pos}(a b z TI TO l j:Addr)(D:Qs z TI TO l j a b):Turn P w K (.Tuple L k pos) (KA K a b) [z,TI,TO,l,j] z (λi h=>IsZip h z TI TO .none/\Fz h TI (.ref l) (.ref j)/\(∃u v,Fz h TO u v)/\h.IsListIter l a i/\h.IsListIter j b i) where
 mem:=Ab
 obj:=λi h st c d=>by
  obtain ⟨A,e,⟨u,v,f⟩,⟨o1,e1,c1,d1⟩,⟨o2,e2,c2,d2⟩⟩:=st
  simp only[Ak,Az,or_false] at d
  rcases d with rfl | rfl | rfl | rfl | rfl
  ·exact ⟨_,A,λv z=>by cases z⟩
  ·exact ⟨_,e,λv z=>by cases z⟩
  ·exact ⟨_,f,λv z=>by cases z⟩
  ·exact ⟨o1,e1,λv z=>by rw[d1] at z; cases z⟩
  ·exact ⟨o2,e2,λv z=>by rw[d2] at z; cases z⟩
 keep:=λi h h' st kp=>by
  obtain ⟨A,e,⟨u,v,f⟩,M,S⟩:=st
  exact ⟨kp z (by simp) _ A,kp TI (by simp) _ e,⟨u,v,kp TO (by simp) _ f⟩,M.at λo q=>kp l (by simp) o q,S.at λo q=>kp j (by simp) o q⟩
 item:=by
  intro X hP hw V d i t s σ H E I U st hg
  subst hP hw V
  obtain ⟨xs,ys,x,y,p,r,T,hy⟩:=hg
  obtain ⟨O,G,p1,h0⟩:=I.list p
  obtain ⟨N,F,p2,h6⟩:=I.list r
  obtain ⟨C,Y,h5⟩:=G.get T
  obtain ⟨J,h4,h3⟩:=F.get hy
  obtain ⟨A,e,⟨o1,o2,f⟩,m,n⟩:=st
  have zl:z<s.heap.objs.size:=Aw A
  have k2:TI<s.heap.objs.size:=Aw e
  have h9:TO<s.heap.objs.size:=Aw f
  have k1:l<s.heap.objs.size:=by obtain ⟨_,q,_⟩:=m; exact Aw q
  have h8:j<s.heap.objs.size:=by obtain ⟨_,q,_⟩:=n; exact Aw q
  refine wpAny_pyNext_zip_item D A e f m n p1.isList p2.isList (x:=C) (y:=J) (by simpa using Y) (by simpa using h4) λM a1 a2 a3 a4 a5 a6 R=>⟨_,rfl,zM a1 λS Z h7=>?_⟩
  have g:Cu z M S:=h7
  have I1:Inv X t σ (upd H s.heap.objs.size (.tup [x,y])) { s with heap:=s.heap.push { cls:=.type "tuple",data:=.seq #[C,J] } } :=
   I.laid (t':=s.toks) (λb o q=>Ai _ q) (Aj _) ⟨by show 2<=Ay; decide,[C,J],.cons h5 (.cons h3 .nil),_,Ar _ rfl,rfl,0,rfl⟩
  have nT:∀c∈[z,TI,TO,l,j],c≠s.heap.objs.size:=λc d=>by
   simp only[Ak,Az,or_false] at d
   rcases d with rfl | rfl | rfl | rfl | rfl <;> exact Bq (by assumption)
  have fr:∀c∈[z,TI,TO,l,j],(upd H s.heap.objs.size (.tup [x,y])) c=none:=λc d=>by rw[Ek (nT c d)]; exact (U c d).1
  refine ⟨.ref s.heap.objs.size,_,Ln (fp:=[z,TI,TO,l,j]) (s:={ s with heap:=s.heap.push { cls:=.type "tuple",data:=.seq #[C,J] } }) (h':=S) (t':=s.toks) I1 (λc o d q=>?_) (λc d=>⟨fr c d,(U c d).2⟩),rfl,⟨_,x,y,rfl,I.hok.fresh (Aj _),rfl,(λzs B=>by rw[I.list_inj B p]; exact T),λzs B=>by rw[I.list_inj B r]; exact hy⟩,⟨Z,?_,⟨C,J,?_⟩,?_,?_⟩,fr⟩
  ·simp only[Ak,Az,or_false,not_or] at d
   refine (g.2 c d.1).trans ?_
   by_cases Q:c=s.heap.objs.size
   ·subst Q
    have q':=(Ar s.heap (o:={ cls:=.type "tuple",data:=.seq #[C,J] }) rfl).symm.trans q
    rw[show M.get? s.heap.objs.size=_ from a5]
    exact q'
   ·refine R c o d.1 d.2.2.1 d.2.2.2.1 d.2.2.2.2 ?_
    have q0:(s.heap.push { cls:=.type "tuple",data:=.seq #[C,J] }).get? c=some o:=q
    rcases Oz q0 with zz | zz
    ·exact absurd zz.1 Q
    ·exact zz
  ·exact (g.2 TI D.TIz).trans (R TI _ D.TIz D.TITO D.TIi1 D.TIi2 e)
  ·exact (g.2 TO D.TOz).trans a2
  ·exact a3.at λo q=>(g.2 l D.i1z).trans q
  ·exact a4.at λo q=>(g.2 j D.i2z).trans q
 done:=by
  intro X hP hw V d i t s σ H E I U st hg
  subst hP hw V
  obtain ⟨xs,ys,p,r,T⟩:=hg
  obtain ⟨O,G,p1,h0⟩:=I.list p
  obtain ⟨N,F,p2,h6⟩:=I.list r
  obtain ⟨A,e,⟨o1,o2,f⟩,m,n⟩:=st
  have k3:=G.length
  have k0:=F.length
  refine wpAny_pyNext_zip_end (I.ok.hd d) D A e f m n p1.isList p2.isList ?_ λM R=>⟨rfl,Ln (fp:=[z,TI,TO,l,j]) (t':=s.toks) I (λc o d q=>?_) U⟩
  ·rcases T with h | h
   ·exact .inl (by simp; omega)
   ·exact .inr (by simp; omega)
  ·simp only[Ak,Az,or_false,not_or] at d
   exact R c o d.1 d.2.2.1 d.2.2.2.1 d.2.2.2.2 q
 self:=λ_ _ _ _ _ st h=>Px st.1 h
theorem gY(I l1 l2:Nat)(h1:l1<I)(a:l2<I):Qs (I+4) (I+2) (I+3) I (I+1) l1 l2:=by
 constructor <;> (intro e; have b:(_:Nat)=_:=e; omega)
section
variable{X:Cx}
def KY(K:PySem.W.Frag)(e:TA):TI:=λg H R=>e g H λvs c=>∃a b,vs=[.ref a,.ref b]/\(∃f,Mq K c a f)/\(∃d,Mq K c b d)/\R (KA K a b) c
theorem CF{i:List Expr}{k:Nat}{tp:Pos}{a b:Expr}{G:TA}{p pos:Pos}(hg:Gl X "zip")(T:X.mg "zip" = none)(ha:PA X [a,b] G)(W:Bj [a,b] X.env=(false,eval a X.env)::Bj [b] X.env:=by rfl)(hp:(Hg pos (Bj [b] X.env)).any (·.1)=false:=by rfl):PI X (.Tuple i k tp) (.Call (.Name "zip" p) [a,b] [] pos) (KY X.K G):=by
 intro d s Z H R I h
 refine Call_ (Sk I hg T (u:=.type "zip") (by decide +kernel) (Dy (Fp (ha pos d s Z H _ I h) λus g ⟨vs,x,j,O,q1⟩=>?_) W hp))
 obtain ⟨M,E,e,⟨xs,B⟩,⟨ys,D⟩,q⟩:=q1
 subst e
 obtain ⟨u1,u2,rfl,C,A⟩:=vals2 O
 cases C
 cases A
 obtain ⟨L,V,l,S⟩:=j.list B
 obtain ⟨J,Q,t,Y⟩:=j.list D
 have r:M<g.heap.objs.size:=let ⟨o,q,_⟩:=l.isList; Aw q
 have m:E<g.heap.objs.size:=let ⟨o,q,_⟩:=t.isList; Aw q
 refine call_zip_2 l.isList t.isList λh2 N y z v w U P=>Px N ?_
 have f:∀n,Lg X d x (g.heap.objs.size+n):=λn=>j.fpOk (Js _ _) (j.hok.fresh (Js _ _))
 have fr:∀c∈[g.heap.objs.size+4,g.heap.objs.size+2,g.heap.objs.size+3,g.heap.objs.size,g.heap.objs.size+1],Lg X d x c:=λc F=>by
  simp only[Ak,Az,or_false] at F
  rcases F with rfl | rfl | rfl | rfl | rfl
  ·exact f 4
  ·exact f 2
  ·exact f 3
  ·exact f 0
  ·exact f 1
 exact ⟨g.heap.objs.size+4,_,_,_,x,rfl,j.kept (t':=g.toks) P,A9 M E _ _ _ _ _ (gY _ _ _ r m),⟨N,y,⟨_,_,z⟩,v,w⟩,fr,q⟩
end
end Nd
namespace Nd
open PySem PySem.Spec PyProof.Rows L2
open AutoSeq1 (wpAny_loadPart')
section
variable{prog:Bk}{w:World}{A:Ci}{E:Value->Ah->Prop}{s:Ah}
theorem Ye{it t:Addr}{i:Nat}{a:Array Value}{x:Value}{Q:Value->Ah->Prop}(b:s.heap.IsTupleIter it t i)(g:s.heap.IsTuple t a)(h:a[i]? = some x)(k:∀h',h'.IsTupleIter it t (i+1)->Cu it s.heap h'->Q x { s with heap:=h' }):wpAny (model prog w) A (Cf (.ref it)) Q E s:=by
 obtain ⟨o,d,j,c⟩:=id b
 obtain ⟨l,f,_,m,e⟩:=g
 unfold Cf
 refine Aa (Df (name:=Ds "__next__") b.typeIs PySem.F.slot_tuple_iterator_next
  (Dj PySem.F.slot_tuple_iterator_next b.typeIs PySem.F.entry_tuple_iterator_next ?_ (PySem.F.args_tuple_iterator_next_1 _)))
 show wpAny _ _ (field (.ref it) 0 >>= _) _ _ s
 refine Aa (Eh d c (x:=.ref t) rfl ?_)
 show wpAny _ _ (if (Be t == Gp)=true then _ else _) _ _ s
 rw[if_neg (show ¬ ((Be t == Gp)=true) from Bs)]
 show wpAny _ _ (field (.ref it) 1 >>= _) _ _ s
 refine Aa (Eh d c (x:=.int i 0) rfl ?_)
 show wpAny _ _ (seqItems? (.ref t) >>= _) _ _ s
 refine Aa (Gy f e ?_)
 simp only[Ed,h]
 refine Aa (Ma d c (by simp) (Ae ⟨x,rfl,Ae (k _ ?_ (Bo ..))⟩))
 exact ⟨_,Fd _ d (Obj.isFreed_of_fields (Rf c _)),(Obj.cls_mapFields ..).trans j,by
  rw[Rf c]; simp [Fe]⟩
theorem aG{it t:Addr}{i:Nat}{b:Array Value}{Q:Value->Ah->Prop}(j:A.handled=none)(c:s.heap.IsTupleIter it t i)(k:s.heap.IsTuple t b)(l:b[i]? = none)(n:∀h' e,Xg it s.heap h'->(∃o,h'.get? e=some o/\o.cls=.type "StopIteration")->E (.ref e) { s with heap:=h' }):wpAny (model prog w) A (Cf (.ref it)) Q E s:=by
 obtain ⟨o,h,r,f⟩:=id c
 obtain ⟨p,g,_,q,d⟩:=k
 unfold Cf
 refine Aa (Df (name:=Ds "__next__") c.typeIs PySem.F.slot_tuple_iterator_next
  (Dj PySem.F.slot_tuple_iterator_next c.typeIs PySem.F.entry_tuple_iterator_next ?_ (PySem.F.args_tuple_iterator_next_1 _)))
 show wpAny _ _ (field (.ref it) 0 >>= _) _ _ s
 refine Aa (Eh h f (x:=.ref t) rfl ?_)
 show wpAny _ _ (if (Be t == Gp)=true then _ else _) _ _ s
 rw[if_neg (show ¬ ((Be t == Gp)=true) from Bs)]
 show wpAny _ _ (field (.ref it) 1 >>= _) _ _ s
 refine Aa (Eh h f (x:=.int i 0) rfl ?_)
 show wpAny _ _ (seqItems? (.ref t) >>= _) _ _ s
 refine Aa (Gy g d ?_)
 simp only[Ed,l]
 refine Aa (Jr (Aa (Ma h f (by simp) ?_)))
 show wpAny _ _ (newExc (.type "StopIteration") [] >>= _) _ _ _
 refine Aa ?_
 simp only[newExc,newTuple]
 refine Aa (Cg ?_ (by size_fits))
 refine Aa (m:=Kd _ _) (Jm (a:=Gp) (by first | rfl | (simp only[Kd]; rfl)) ?_)
 refine Cg ?_ (by size_fits)
 simp only[raiseNew]
 refine Aa (wpAny_handled ?_)
 first | rw[show A.in1.handled=none from j] | rw[j]
 refine Aa (Ae (wpAny_throw ?_))
 exact n _ _ (((Bo ..).extBut.push _).push _) ⟨_,Ar _ rfl,rfl⟩
end
theorem dI{prog:Bk}{w:World}{A:Ci}(j:A.handled=none)(it l:Addr)(d:l≠it)(a:Array Value):Draws prog w A it [it,l] a.size (λi v=>a[i]? = some v) (λi h=>h.IsTupleIter it l i/\h.IsTuple l a) where
 live:=λ_ _ st=>let ⟨o,ho,_⟩:=st.1; ⟨o,ho⟩
 frame:=λ_ _ _ st e=>⟨let ⟨o,ho,r⟩:=st.1; ⟨o,e it (by simp) o ho,r⟩,let ⟨o,ho,r⟩:=st.2; ⟨o,e l (by simp) o ho,r⟩⟩
 item:=λi s Q E f st k=>by
  refine Ye st.1 st.2 (x:=a[i]) (by simp [f]) λg b c=>?_
  exact k _ g s.toks (by simp [f]) ⟨b,st.2.extBut c.extBut d⟩ c
 done:=λs Q E st m=>aG j st.1 st.2 (by simp) m
theorem Uv(l:Addr)(a:Array Value)(n:Nat)(f:Option Addr)(k:Array (Option Value)):Meets (Builtin.«enumerate.__new__» ⟨[.type "enumerate",.ref l],[]⟩) (λ_ R s=>s.heap.get? l=some { cls:=.type "tuple",dict:=f,data:=.seq a n,slots:=k }/\R (.ok (.ret (.ref (s.heap.push { cls:=.type "tuple_iterator",data:=.fields #[.ref l,.int 0 0] }).objs.size))) { s with heap:=(s.heap.push { cls:=.type "tuple_iterator",data:=.fields #[.ref l,.int 0 0] }).push { cls:=.type "enumerate",data:=.fields #[.none,.bool false,.ref s.heap.objs.size,Fe 0,.none,.none] } }) :=
 .of_wp λj w A R s h=>by
  obtain ⟨o,g,d,m,os⟩:=s; obtain ⟨b,h⟩:=h
  have i:=sub_enumerate
  have e:Heap.IsTuple (Shared.heap ⟨o,g,d,m,os⟩) l a:=⟨_,b,rfl,n,rfl⟩
  wp_walk using Jj b
  refine wpAny_stack_any λst=>Ae ?_
  split
  ·rename_i c _ _ _ _ _
   cases (c == Me "enumerate")
   ·wp_walk using Jj b,Nq e
    exact ⟨_,rfl,h⟩
   ·wp_walk using Jj b,Nq e
    exact ⟨_,rfl,h⟩
  ·wp_walk using Jj b,Nq e
   exact ⟨_,rfl,h⟩
theorem Uj{prog:Bk}{w:World}{A:Ci}{E:Value->Ah->Prop}{s:Ah}{l:Addr}{a:Array Value}{Q:Value->Ah->Prop}(k:s.heap.IsTuple l a)(h:∀h',IsEnum h' (s.heap.objs.size+1) s.heap.objs.size 0 .none->h'.IsTupleIter s.heap.objs.size l 0->h'.objs.size=s.heap.objs.size+2->(∀b o,s.heap.get? b=some o->h'.get? b=some o)->Q (.ref (s.heap.objs.size+1)) { s with heap:=h' }):wpAny (model prog w) A (call (.type "enumerate") [.ref l]) Q E s:=by
 obtain ⟨⟨c,e,q,m⟩,p,f,n,i⟩:=k
 replace f:c=.type "tuple" := f
 replace i:q=.seq a n:=i
 subst f i
 refine callType_new PySem.F.called_enumerate (by decide) (PySem.F.typeCall_enumerate_1 _) (PySem.F.newCall_enumerate_1 _) (λd=>PySem.F.args_object_init_2 d _) PySem.F.entry_enumerate_new
  (Uv l a n e m) ⟨p,?_⟩
 have g:(s.heap.push { cls:=.type "tuple_iterator",data:=.fields #[.ref l,.int 0 0] }).objs.size=s.heap.objs.size+1:=He ..
 show _/\_
 rw[g]
 have j:IsEnum ((s.heap.push { cls:=.type "tuple_iterator",data:=.fields #[.ref l,.int 0 0] }).push
   { cls:=.type "enumerate",data:=.fields #[.none,.bool false,.ref s.heap.objs.size,Fe 0,.none,.none] }) (s.heap.objs.size+1) s.heap.objs.size 0 .none:=by
  have:=Ar (s.heap.push { cls:=.type "tuple_iterator",data:=.fields #[.ref l,.int 0 0] })
   (o:={ cls:=.type "enumerate",data:=.fields #[.none,.bool false,.ref s.heap.objs.size,Fe 0,.none,.none] }) rfl
  rw[g] at this; exact this
 refine ⟨⟨_,j,rfl⟩,h _ j ⟨_,Ai _ (Ar _ rfl),rfl,rfl⟩ (by rw[He,g]) λb o x=>Ai _ (Ai _ x)⟩
def CW(K:PySem.W.Frag)(a:Addr):It :=
 ⟨λi H=>∃b x,Ru K H a b/\b[i]? = some x,λi H x c=>∃p y,x=.ref p/\H p=none/\c=upd H p (.tup [.int i,y])/\∀b,Ru K H a b->b[i]? = some y,λi H=>∃b,Ru K H a b/\b.length=i⟩
theorem sY{P:Bk}{w:World}{K:PySem.W.Frag}{D:List Expr}{k:Nat}{pos:Pos}(a e it:Addr)(ne:e≠it)(T:a≠e)(F:a≠it):Turn P w K (.Tuple D k pos) (CW K a) [e,it] e (λi h=>(∃j,IsEnum h e it ((i:Nat):Int) j)/\h.IsTupleIter it a i) where
 mem:=Ab
 obj:=λi h st b g=>by
  obtain ⟨⟨j,l⟩,o,e1,c,d⟩:=st
  rcases Ak.mp g with z | z
  ·subst z
   exact ⟨_,l,λv z=>by cases z⟩
  ·rw[Al.mp z]
   exact ⟨o,e1,λv z=>by rw[d] at z; cases z⟩
 keep:=λi h h' st kp=>⟨let ⟨j,l⟩:=st.1; ⟨j,kp e Ab _ l⟩,let ⟨o,ho,r⟩:=st.2; ⟨o,kp it (Ac _ Ab) o ho,r⟩⟩
 item:=by
  intro X hP hw Q R i t s σ H E I N st hg
  subst hP hw Q
  obtain ⟨xs,x,M,V⟩:=hg
  obtain ⟨f,Z,p,hz⟩:=I.tuple M
  obtain ⟨u,hu,ru⟩:=Z.get V
  obtain ⟨⟨j,l⟩,m⟩:=st
  have el:e<s.heap.objs.size:=Aw l
  have il:it<s.heap.objs.size:=by obtain ⟨_,q,_⟩:=m; exact Aw q
  have hT:s.heap.IsTuple a f.toArray:=p
  have O:i<f.toArray.size:=by rw[Au]; exact (Ax.mp hu).1
  have B:X.A.in1.handled=none:=I.ok.hd R
  refine wpAny_pyNext_enum_itemD (dI B it a F f.toArray) l ⟨m,hT⟩ O ne (by simp only[Ak,Az,or_false]; exact λz=>z.elim ne (λq=>T q.symm)) λn h1 C Y ho G h3 h4 hk=>?_
  have eu:n=u:=by
   have : f[i]? = some n:=by simpa using Y
   rw[hu] at this
   exact (Ca this).symm
  subst eu
  refine ⟨_,rfl,wF ho λh2 U h0=>?_⟩
  have y:Cu e h1 h2:=h0
  have I1:Inv X t σ (upd H s.heap.objs.size (.tup [.int i,x])) { s with heap:=s.heap.push { cls:=.type "tuple",data:=.seq #[.int i C,n] } } :=
   I.laid (t':=s.toks) (λb o q=>Ai _ q) (Aj _) ⟨by show 2<=Ay; decide,[.int i C,n],.cons ⟨_,rfl⟩ (.cons ru .nil),_,Ar _ rfl,rfl,0,rfl⟩
  have nT:∀b∈[e,it],b≠s.heap.objs.size:=λb g=>by
   rcases Ak.mp g with z | z
   ·rw[z]; exact Bq el
   ·rw[Al.mp z]; exact Bq il
  have fr:∀b∈[e,it],(upd H s.heap.objs.size (.tup [.int i,x])) b=none:=λb g=>by rw[Ek (nT b g)]; exact (N b g).1
  refine ⟨.ref s.heap.objs.size,_,Ln (fp:=[e,it]) (s:={ s with heap:=s.heap.push { cls:=.type "tuple",data:=.seq #[.int i C,n] } }) (h':=h2) (t':=C+1) I1 (λb o g q=>?_) (λb g=>⟨fr b g,(N b g).2⟩),rfl,⟨_,x,rfl,I.hok.fresh (Aj _),rfl,λys hy=>by rw[I.tuple_inj hy M]; exact V⟩,⟨⟨n,?_⟩,?_⟩,fr⟩
  ·have L:b≠e:=λz=>g (by rw[z]; exact Ab)
   have S:b≠it:=λz=>g (by rw[z]; exact Ac _ Ab)
   refine (y.2 b L).trans ?_
   by_cases J:b=s.heap.objs.size
   ·subst J
    have q':=(Ar s.heap (o:={ cls:=.type "tuple",data:=.seq #[.int i C,n] }) rfl).symm.trans q
    rw[h3]
    exact q'
   ·refine hk b o L S ?_
    have q0:(s.heap.push { cls:=.type "tuple",data:=.seq #[.int i C,n] }).get? b=some o:=q
    rcases Oz q0 with z | z
    ·exact absurd z.1 J
    ·exact z
  ·have : ((i+1:Nat):Int)=(i:Int)+1:=by omega
   rw[this]
   exact U
  ·obtain ⟨o,q1,r⟩:=G.1
   exact ⟨o,(y.2 it (Lu ne)).trans q1,r⟩
 done:=by
  intro X hP hw Q R i t s σ H E I N st hg
  subst hP hw Q
  obtain ⟨xs,M,V⟩:=hg
  obtain ⟨f,Z,p,hz⟩:=I.tuple M
  obtain ⟨⟨j,l⟩,m⟩:=st
  have hl:=Z.length
  have hT:s.heap.IsTuple a f.toArray:=p
  have B:X.A.in1.handled=none:=I.ok.hd R
  have hi:f.toArray.size=i:=by rw[Au]; omega
  exact wpAny_pyNext_enum_endD (dI B it a F f.toArray) l ⟨by rw[hi]; exact m,hT⟩ λh1 eb=>⟨rfl,Ln (fp:=[e,it]) (t':=s.toks) I (λb o g q=>eb b o (λz=>g (by rw[z]; exact Ac _ Ab)) q) N⟩
 self:=λ_ _ _ _ _ st h=>let ⟨_,l⟩:=st.1; Uy l h
section
variable{X:Cx}
def CC(K:PySem.W.Frag)(e:TA):TI:=λc H R=>e c H λvs b=>∃a,vs=[.ref a]/\(∃d,Ru K b a d)/\R (CW K a) b
theorem J5{g:List Expr}{k:Nat}{O:Pos}{a:Expr}{n:TA}{p pos:Pos}(J:Gl X "enumerate")(C:X.mg "enumerate" = none)(M:PA X [a] n)(E:Bj [a] X.env=[(false,eval a X.env)]:=by rfl):PI X (.Tuple g k O) (.Call (.Name "enumerate" p) [a] [] pos) (CC X.K n):=by
 intro d s F H R I h
 refine Call_ (Sk I J C (u:=.type "enumerate") (by decide +kernel) (Dy (Fp (M pos d s F H _ I h) λS c ⟨vs,t,f,x,G⟩=>?_) E rfl))
 obtain ⟨l,e,⟨Q,y⟩,q⟩:=G
 subst e
 obtain ⟨u,rfl,B⟩:=vals1 x
 cases B
 obtain ⟨i,T,v,U⟩:=f.tuple y
 have m:l<c.heap.objs.size:=by obtain ⟨o,N,_⟩:=v; exact Aw N
 refine Uj (show c.heap.IsTuple l i.toArray from v) λP r j D A=>Uy r ?_
 have L:∀b∈[c.heap.objs.size+1,c.heap.objs.size],Lg X d t b:=λb w=>by
  rcases Ak.mp w with z | z
  ·rw[z]; exact f.fpOk (Mu _) (f.hok.fresh (Mu _))
  ·rw[Al.mp z]; exact f.fpOk (Aj _) (f.hok.fresh (Aj _))
 exact ⟨c.heap.objs.size+1,[c.heap.objs.size+1,c.heap.objs.size],_,_,t,rfl,f.kept (t':=c.toks) A,sY l _ _ (Nat.succ_ne_self _) (Bq (Ho m)) (Bq m),⟨⟨_,r⟩,j⟩,L,q⟩
end
end Nd
namespace DL
open PySem L2 Nd
def dB(d:DE):DT:=λc P=>d c λx a=>match x with
 | .dat _ (.bool b)=>P b a
 | _=>False
def AA(dt:DT):DT:=λc P=>dt c λb a=>P (!b) a
def Z3(dt d:DT):DT:=λc P=>dt c λb a=>match b with
 | true=>d a P
 | false=>P false a
def IA(dt d:DT):DT:=λc P=>dt c λb a=>match b with
 | true=>P true a
 | false=>d a P
def HD(b d:DE):DE:=λc P=>b c λx a=>match x with
 | .dat _ (.bool true)=>d a P
 | .dat _ (.bool false)=>P (.dat .ow (.bool false)) a
 | _=>False
def IL(dt:DT)(c e:DE):DE:=λd P=>dt d λb a=>match b with
 | true=>c a P
 | false=>e a P
def FV(c:DE):DE:=λb P=>c b λx a=>match x with
 | .dat _ (.int i)=>P (.dat .ow (.int (-i))) a
 | _=>False
section
variable{K:PySem.W.Frag}{a:DE}
theorem HX:∀e H Q,LT K (dB a) e H Q->LE K a e H λx g=>∃k,x=.bl k/\Q k g:=by
 intro e H Q h
 obtain ⟨j,Y,S,T,l,P,rfl,f,m,p,k⟩:=h
 refine ⟨j,Y,S,T,l,_,rfl,f,m,p,λx d v F q i n o b c=>?_⟩
 split at c
 ·obtain ⟨rfl,_⟩:=(b.told mem_mid).bl_inv
  exact ⟨_,rfl,k _ d q i n o b.drop c⟩
 ·exact c.elim
end
section
variable{X:Cx}{a b c e:Expr}{d f i:DE}{dt g:DT}{pos:Pos}{Ie:List Expr}
theorem dH(h:Gq X e i)(b:∀a,isTrue e X.env a=(do let v <- a; bT e.pos; Qf [v] (truthy v)):=by intro _; rfl):nO X e (dB i):=PT.imp (i4 h b) HX
theorem eJ{op:CmpOp}{r:R2}{rd:D2}(i:aB X (Ke op) r)(o:tL X.K r rd)(e:Gq X a d)(hb:Gq X b f)(g:Gx op b=false):nO X (.Compare a [op] [b] pos) (dB (dO rd d f)):=by
 refine PT.imp (vN i e hb g) λc H Q h=>?_
 exact pA o _ _ _ (HX c H Q h)
theorem X8(c:Gq X a d)(hb:Gq X b f):nO X (.Compare a [.Lt] [b] pos) (dB (dO rdLt d f)):=eJ FO (L5 λ_ _ _=>.bl _) c hb (fF _)
theorem pF(c:X.A.units+64<cLine)(e:Gq X a d)(hb:Gq X b f):nO X (.Compare a [.Eq] [b] pos) (dB (dO (kG false) d f)):=eJ (t9 c) Z1 e hb (fF _)
theorem cV(c:X.A.units+64<cLine)(e:Gq X a d)(hb:Gq X b f):nO X (.Compare a [.NotEq] [b] pos) (dB (dO (kG true) d f)):=eJ (ES c) GJ e hb (fF _)
theorem GU(c:X.A.units+64<cLine)(e:Gq X a d)(hb:Gq X b f)(g:Gx .In b=false:=by with_unfolding_all rfl):nO X (.Compare a [.In] [b] pos) (dB (dO (rF false) d f)):=eJ (L8 c) G3 e hb g
theorem mY(c:X.A.units+64<cLine)(e:Gq X a d)(hb:Gq X b f)(g:Gx .NotIn b=false:=by with_unfolding_all rfl):nO X (.Compare a [.NotIn] [b] pos) (dB (dO (rF true) d f)):=eJ (zG c) G3 e hb g
theorem jQ(h:nO X a dt):nO X (.UnaryOp .Not a pos) (AA dt):=by
 refine PT.imp (BV h) λq H Q h=>?_
 obtain ⟨i,Y,S,T,j,P,rfl,e,m,o,k⟩:=h
 exact ⟨i,Y,S,T,j,_,rfl,e,m,o,λb c g f l n d p=>k _ c g f l n d p⟩
theorem wD(h:nO X a dt):EN X (.BoolOp .And [a] pos) dt:=V6 h
theorem DX(h:nO X a dt):EN X (.BoolOp .Or [a] pos) dt:=AQ h
theorem G7(h:nO X a dt)(hb:EN X (.BoolOp .And (b::Ie) pos) g):EN X (.BoolOp .And (a::b::Ie) pos) (Z3 dt g):=by
 refine PW.imp (CB h hb) λr H Q h=>?_
 obtain ⟨f,Y,S,T,n,P,rfl,l,o,q,k⟩:=h
 refine ⟨f,Y,S,T,n,_,rfl,l,o,q,λb c e m i j d p=>?_⟩
 cases b with
 | true=>exact rK ⟨f,Y,e,T,c,P,i,j,d,p,k⟩
 | false=>exact tJ (k _ c e m i j d p)
theorem GT(h:nO X a dt)(hb:EN X (.BoolOp .Or (b::Ie) pos) g):EN X (.BoolOp .Or (a::b::Ie) pos) (IA dt g):=by
 refine PW.imp (IK h hb) λr H Q h=>?_
 obtain ⟨f,Y,S,T,n,P,rfl,l,o,q,k⟩:=h
 refine ⟨f,Y,S,T,n,_,rfl,l,o,q,λb c e m i j d p=>?_⟩
 cases b with
 | true=>exact rK (k _ c e m i j d p)
 | false=>exact tJ ⟨f,Y,e,T,c,P,i,j,d,p,k⟩
theorem EF(h:EN X a dt):nO X a dt:=PW.pt h
theorem CK{op}(h:Gq X a d):Gq X (.BoolOp op [a] pos) d:=AO h
theorem DP(h:Gq X a d)(hb:Gq X (.BoolOp .And (b::Ie) pos) f):Gq X (.BoolOp .And (a::b::Ie) pos) (HD d f):=by
 refine PE.imp (EJ h hb) λs H Q h=>?_
 obtain ⟨i,Y,S,T,p,P,rfl,n,q,r,k⟩:=h
 refine ⟨i,Y,S,T,p,_,rfl,n,q,r,λx e v F m o j l c g=>?_⟩
 split at g
 ·obtain ⟨rfl,_⟩:=(c.told mem_mid).bl_inv
  exact ⟨_,rfl,rK ⟨i,Y,m,T,e,P,j,l,c.drop,g,k⟩⟩
 ·obtain ⟨rfl,_⟩:=(c.told mem_mid).bl_inv
  exact ⟨_,rfl,tJ (k _ e _ [] m o j l (c.drop.pushI (.bl _)) g)⟩
 ·exact g.elim
theorem CP(h:Gq X a d):Gq X (.UnaryOp .USub a pos) (FV d):=by
 refine PE.imp (FG DW h) λq H Q h=>?_
 obtain ⟨i,Y,S,T,j,P,rfl,f,l,o,k⟩:=h
 refine ⟨i,Y,S,T,j,_,rfl,f,l,o,λx e v F p g m n b c=>?_⟩
 split at c
 ·obtain ⟨rfl,_⟩:=(b.told mem_mid).int_inv
  exact ⟨_,rfl,k _ e _ [] p g m n (b.drop.pushI (.int _)) c⟩
 ·exact c.elim
theorem DY(q:nO X c dt)(r:Gq X a d)(hb:Gq X b f):Gq X (.IfExp c a b pos) (IL dt d f):=by
 refine PE.imp (C6 q r hb) λv H Q h=>?_
 obtain ⟨i,Y,S,T,o,P,rfl,n,s,t,k⟩:=h
 refine ⟨i,Y,S,T,o,_,rfl,n,s,t,λb e j u l m g p=>?_⟩
 cases b with
 | true=>exact rK ⟨i,Y,j,T,e,P,l,m,g,p,k⟩
 | false=>exact tJ ⟨i,Y,j,T,e,P,l,m,g,p,k⟩
end
theorem PS.impD{X:Cx}{st:Stmt}{t t':TS}(h:PS X st t)(k:∀D b H,t' D b H->t D b H):PS X st t':=λa s b H D I q=>h a s b H D I (k D b H q)
theorem uJ.impD{X:Cx}{st:List Stmt}{t t':TS}(h:uJ X st t)(k:∀D b H,t' D b H->t D b H):uJ X st t':=λa s b H D I q=>h a s b H D I (k D b H q)
def X6:DB:=λD a=>D.nx a
def GH(t u:DB):DB:=λD b=>t { D with nx:=λa=>u D a } b
def FZ(b:DE):DB:=λD a=>b a D.rt
def MA(dt:DT)(t u:DB):DB:=λD c=>dt c λb a=>match b with
 | true=>t D a
 | false=>u D a
def xE(d:DE)(b:DG):DB:=λD c=>d c λx a=>b x a D.nx
section
variable{X:Cx}{st:Stmt}{e i c:Expr}{t u:DB}{Ie:List Stmt}{d:DE}{f:DG}{dt:DT}{pos:Pos}
theorem Mj:dJ X [] X6:=by
 refine uJ.impD lI λD i H h=>?_
 obtain ⟨f,Y,S,T,c,P,rfl,a,l,d,b,e,k,g,j⟩:=h
 exact e c S H a d b
theorem Ck(h1:zO X st t)(i:dJ X Ie u):dJ X (st::Ie) (GH t u):=by
 refine uJ.impD (Mh h1 i) λD s H h=>?_
 obtain ⟨c,Y,S,T,l,P,rfl,j,g,n,q,m,f,d,e⟩:=h
 exact ⟨c,Y,S,T,l,_,rfl,j,g,n,q,λa k r o b p=>⟨c,Y,k,T,a,P,rfl,o,g,b,p,m,f,d,e⟩,f,d,e⟩
theorem Dt(h1:zO X st t):dJ X [st] t:=Vv h1
theorem Gc(g:Gq X e d):zO X (.Return (some e) pos) (FZ d):=by
 refine PS.impD (Zs g) λD s H h=>?_
 obtain ⟨j,Y,S,T,l,P,rfl,c,w,m,k,u,o,r,t⟩:=h
 exact ⟨j,Y,S,T,l,_,rfl,c,m,k,λx a v F i f q n b p=>o x a v F i f n b p⟩
theorem Pg{a b:List Stmt}(q:nO X c dt)(x:dJ X a t)(hb:dJ X b u):zO X (.If c a b pos) (MA dt t u):=by
 refine PS.impD (zU q x hb) λD z H h=>?_
 obtain ⟨f,Y,S,T,v,P,rfl,w,o,r,s,j,k,n,l⟩:=h
 refine ⟨f,Y,S,T,v,_,rfl,w,r,s,λb e g y m i d p=>?_⟩
 cases b with
 | true=>exact rK ⟨f,Y,g,T,e,P,m,i,o,d,p,j,k,n,l⟩
 | false=>exact tJ ⟨f,Y,g,T,e,P,m,i,o,d,p,j,k,n,l⟩
theorem jU{K:PySem.W.Frag}{j:TE}{g:TG}(h1:∀a H Q,LE K d a H Q->j a H Q)(s:∀v a H Q,LG K f v a H Q->g v a H Q):∀D a H,LS K (xE d f) D a H->x9 j g D a H:=by
 intro D a H h
 obtain ⟨k,Y,S,T,t,P,rfl,y,I,n,r,w,C,G,E⟩:=h
 refine h1 _ _ _ ⟨k,Y,S,T,t,_,rfl,y,n,r,λx e v F l B z o c p=>?_⟩
 exact s _ _ _ _ ⟨k,Y,l,T,e,x,F,P.nx,z,o,c,p,λi A u m b q=>w i A u m b q⟩
end
def Sq(i:Nat):DG:=λx a P=>match x with
 | .dat .pk _=>False
 | .dat _ d=>P ⟨a.sl.set i (.dat .sh d),a.n⟩
 | .val v=>P ⟨a.sl.set i (.val v),a.n⟩
 | .drw=>P ⟨a.sl.set i .drw,a.n⟩
 | .dT b=>P ⟨a.sl.set i (.dT b),a.n⟩
 | _=>False
def pB(i:Nat):DG:=λx a P=>match x with
 | .dat .ow d=>P ⟨a.sl.set i (.dat .ow d),a.n⟩
 | .dat .tp d=>P ⟨a.sl.set i (.dat .tp d),a.n⟩
 | _=>False
theorem At.store{K:PySem.W.Frag}{a H:Hp}{X:Addr->Prop}{n:Nat}{S T:List Ent}{e:Ent}{i:Nat}(h:At K a X n (S++e::T) H):At K a X n (S.set i e++T) H:=by
 by_cases b:i<S.length
 ·have c:S[i]? = some S[i]:=by simp [b]
  have p:(S++e::T).Perm (S[i]::(S.set i e++T)):=by
   refine Ea.trans ?_
   rw[<- Fm,<- Fm]
   exact (eB c).append_right T
  exact (h.perm p).sub (Dm _ _)
 ·rw[List.set_eq_of_length_le (by omega)]
  exact h.drop
theorem u0{S:List Ent}{i:Nat}{v:V}{x:DV}{F:List Addr}:vs (S.set i ⟨some v,x,F⟩)=(vs S).set i (some v):=by
 unfold vs
 rw[Qg]
theorem B2{S:List Ent}{a:DS}{i n:Nat}{v:V}{x:DV}{F:List Addr}(h:Sl S a):Sl (S.set i ⟨some v,x,F⟩) ⟨a.sl.set i x,n⟩:=by
 unfold Sl at h ⊢
 rw[Qg,h]
theorem lG{K:PySem.W.Frag}{i:Nat}:∀v f H Q,LG K (Sq i) v f H Q->Pt i v f H Q:=by
 intro v f H Q h
 obtain ⟨o,Y,S,T,e,x,F,P,rfl,j,c,b,k⟩:=h
 show Q ((vs S).set i (some v)) H
 have a:∀y,At K o Y e.n (S++⟨some v,y,F⟩::T) H->P ⟨e.sl.set i y,e.n⟩->Q ((vs S).set i (some v)) H:=λy g p=>by
  rw[<- u0 (x:=y) (F:=F)]
  exact k _ _ H (B2 j) g.store p
 unfold Sq at b
 split at b
 ·exact b.elim
 ·rename_i m d l
  refine a _ ?_ b
  refine (c.mid.wk ?_).tomid
  cases m <;> first | rfl | exact (l rfl).elim
 ·exact a _ c b
 ·exact a _ c b
 ·exact a _ c b
 ·exact b.elim
theorem E1{K:PySem.W.Frag}{i:Nat}:∀v d H Q,LG K (pB i) v d H Q->Pt i v d H Q:=by
 intro v d H Q h
 obtain ⟨j,Y,S,T,c,x,F,P,rfl,g,f,b,k⟩:=h
 show Q ((vs S).set i (some v)) H
 have a:∀y,At K j Y c.n (S++⟨some v,y,F⟩::T) H->P ⟨c.sl.set i y,c.n⟩->Q ((vs S).set i (some v)) H:=λy e p=>by
  rw[<- u0 (x:=y) (F:=F)]
  exact k _ _ H (B2 g) e.store p
 unfold pB at b
 split at b
 ·exact a _ f b
 ·exact a _ f b
 ·exact b.elim
section
variable{X:Cx}{pos:Pos}
theorem Jq{i:Nat}{x:Str}(d:X.N.Nodup)(a:X.N[i]? = some x)(c:Loc X.env.scope x)(b:X.fn x=true\/X.env.scope.names.lookup x=some .local:=by first | exact .inl rfl | exact .inr rfl | assumption):IZ X (.Name x pos) (Sq i):=PG.imp (Jy d a c b) lG
theorem Fi{i:Nat}{x:Str}{e:Expr}{b:DE}{a:Pos}(k:X.N.Nodup)(g:X.N[i]? = some x)(f:Loc X.env.scope x)(c:Gq X e b)(j:Oa e (some (.Name x a)) pos.line X.env=pure false:=by rfl)(d:X.fn x=true\/X.env.scope.names.lookup x=some .local:=by first | exact .inl rfl | exact .inr rfl | assumption):zO X (.Assign [.Name x a] e pos) (xE b (Sq i)):=PS.impD (aD k g f c j d) (jU (λ_ _ _ h=>h) lG)
theorem Sy{i:Nat}{x:Str}{e:Expr}{b:DE}{a:Pos}(k:X.N.Nodup)(g:X.N[i]? = some x)(f:Loc X.env.scope x)(c:Gq X e b)(j:Oa e (some (.Name x a)) pos.line X.env=pure false:=by rfl)(d:X.fn x=true\/X.env.scope.names.lookup x=some .local:=by first | exact .inl rfl | exact .inr rfl | assumption):zO X (.Assign [.Name x a] e pos) (xE b (pB i)):=PS.impD (aD k g f c j d) (jU (λ_ _ _ h=>h) E1)
end
def C0:M3:=λb a P=>match b with
 | []=>P a
 | _=>False
def uL(g:DG)(d:M3):M3:=λc b P=>match c with
 | x::r=>g x b λa=>d r a P
 | []=>False
def A2(n:Nat)(b:M3):DG:=λx a P=>match x with
 | .dat m (.tuple ds)=>ds.length=n/\b (ds.map λd=>.dat (Qd m) d) a P
 | _=>False
theorem At.unpack{K:PySem.W.Frag}{j H:Hp}{X:Addr->Prop}{n:Nat}{m:Md}:∀{us:List V} {ds:List Af} {F:List Addr} {E:List Ent},RdFs K H us ds F->(m=.ow->F.Nodup)->(∀f∈E,Yq ⟨none,.dat (Qd m) .none,F⟩ f)->(∀a∈cells ⟨none,.dat (Qd m) .none,F⟩,j a=none)->At K j X n E H->∃As:List Ent,As.map Ent.v=us.map some/\As.map Ent.x=ds.map (λd=>.dat (Qd m) d)/\(∀e∈As,∀a∈e.F,a∈F)/\At K j X n (As++E) H
 | _,_,_,_,.nil,_,_,_,h=>⟨[],rfl,rfl,λ_ z=>(nomatch z),h⟩
 | _,_,_,E,.cons (x:=x) (d:=d) (F:=F1) (G:=G1) a t,hn,hs,hnew,h=>by
  have k:∀{G:List Addr} {u:Option V} {g:Af},(∀b∈G,b∈F1++G1)->∀b∈cells ⟨u,.dat (Qd m) g,G⟩,b∈cells ⟨none,.dat (Qd m) .none,F1++G1⟩:=λ{G u g} i b c=>by
   cases m with
   | ow=>exact i b c
   | _=>exact nomatch c
  have sub:∀{G:List Addr} {u:Option V} {g:Af} {f:Ent},(∀b∈G,b∈F1++G1)->Yq ⟨none,.dat (Qd m) .none,F1++G1⟩ f->Yq ⟨u,.dat (Qd m) g,G⟩ f:=λ{G u g f} i q=>by
   refine ⟨λhp b c=>q.1 ?_ b (k i b c),λhp b c z=>q.2 ?_ b c (i b z)⟩
   ·rcases hp with hp | hp
    ·exact .inl hp
    ·cases hp
   ·rcases hp with hp | hp
    ·refine .inl ?_
     cases m <;> exact hp
    ·exact .inr hp
  obtain ⟨As,s,o,l,w⟩:=At.unpack (m:=m) t (λz=>(Hm.mp (hn z)).2.1) (λf hf=>sub (λb c=>Ag _ c) (hs f hf)) (λb c=>hnew b (k (λb c=>Ag _ c) b c)) h
  refine ⟨⟨some x,.dat (Qd m) d,F1⟩::As,by rw[Ap,Ap,s],by rw[Ap,Ap,o],λe he b c=>?_,?_⟩
  ·rcases Ak.mp he with rfl | he
   ·exact Ao _ c
   ·exact Ag _ (l e he b c)
  ·refine w.push ⟨x,rfl,a,λz=>?_,λz=>?_⟩ (λf hf=>?_) λb c=>.inl (hnew b (k (λb c=>Ao _ c) b c))
   ·cases m with
    | ow=>exact (Hm.mp (hn rfl)).1
    | _=>cases z
   ·cases m <;> cases z
   ·rcases Bc.mp hf with hf | hf
    ·have p:f.x∈As.map Ent.x:=Dd.mpr ⟨f,hf,rfl⟩
     rw[o] at p
     obtain ⟨g,_,r⟩:=Dd.mp p
     refine ⟨λhp b c z=>?_,λhp b c z=>?_⟩
     ·cases m with
      | ow=>exact (Hm.mp (hn rfl)).2.2 b c b (l f hf b z) rfl
      | _=>exact nomatch c
     ·cases m with
      | ow=>exact (Hm.mp (hn rfl)).2.2 b z b (l f hf b (Ht _ _ c)) rfl
      | _ =>
       unfold cells at c
       rw[<- r] at c
       exact nomatch c
    ·exact sub (λb c=>Ao _ c) (hs f hf)
section
variable{X:Cx}{pos:Pos}
theorem uG:N9 X [] C0:=by
 refine CY.imp Xz λf j H Q h=>?_
 obtain ⟨i,Y,S,T,e,g,P,rfl,d,c,b,a,k⟩:=h
 match e,b,a,c with
 | [],b,a,c =>
  cases f with
  | nil=>exact ⟨rfl,k g S H d b a⟩
  | cons _ _=>cases c
 | _::_,b,a,c=>exact a.elim
theorem Yy{e:Expr}{es:List Expr}{g:DG}{n:M3}(h1:IZ X e g)(s:N9 X es n)(y:(Mb (e::es) X.env).map (·.2)=Nr e X.env::(Mb es X.env).map (·.2):=by rfl):N9 X (e::es) (uL g n):=by
 refine CY.imp (Mo h1 s y) λi B H Q h=>?_
 obtain ⟨m,Y,S,T,d,t,P,rfl,w,a,c,b,k⟩:=h
 match d,c,b,a with
 | [],c,b,a=>exact b.elim
 | ⟨v,x,F⟩::d,c,b,a =>
  cases i with
  | nil=>cases a
  | cons u i =>
   rw[Ap,Ap] at a
   obtain ⟨z,r⟩:=Hs a
   have l:v=some u:=z
   subst l
   refine ⟨u,i,rfl,m,Y,S,d++T,t,x,F,_,rfl,w,c,b,λj o A q f p=>?_⟩
   exact ⟨m,Y,o,T,d,j,P,rfl,q,r,f,p,k⟩
theorem C3{es:List Expr}{y:Nat}{r:M3}{n:Nat}(t:X.calm=true)(h:N9 X es r)(s:(Mb es X.env).length=n:=by rfl)(j:(Mb es X.env).findIdx? (·.1)=none:=by rfl):IZ X (.Tuple es y pos) (A2 n r):=by
 refine PG.imp (dQ t h s j) λv M H Q h=>?_
 obtain ⟨J,Y,S,T,A,x,F,P,rfl,D,e,d,k⟩:=h
 unfold A2 at d
 split at d
 ·rename_i m I
  obtain ⟨a,C,rfl,K,l,N⟩:=(e.told mem_mid).tup_inv
  have g:=e.mid
  have p:=Bd.mp g.sep
  obtain ⟨w,_,_,i,_⟩:=g.ok _ Ab
  have o:∀b∈cells ⟨none,.dat (Qd m) .none,F⟩,b∈cells ⟨some (.ref a),.dat m (.tuple I),F⟩:=λb c=>by
   cases m with
   | ow=>exact c
   | _=>exact nomatch c
  obtain ⟨G,B,u,O,L⟩:=At.unpack (m:=m) (E:=S++T) l i (λf q=>by
   refine ⟨λhq b c=>(p.1 f q).1 ?_ b (o b c),λhq b c=>(p.1 f q).2 ?_ b c⟩
   ·rcases hq with hq | hq
    ·exact .inl hq
    ·cases hq
   ·rcases hq with hq | hq
    ·refine .inl ?_
     cases m <;> first | rfl | exact hq
    ·exact .inr hq) (λb c=>by
   rcases g.new _ Ab b (o b c) with z | z
   ·exact z
   ·cases z.2) e.drop
  refine ⟨a,C,rfl,Ru.of K,by rw[l.len]; exact d.1,J,Y,S,T,G,A,P,rfl,D,B,L.perm ?_,by rw[u]; exact d.2,k⟩
  rw[<- Bw,<- Bw]
  exact El.append_right T
 ·exact d.elim
end
theorem sD{K:PySem.W.Frag}{c H:Hp}{X:Addr->Prop}{n:Nat}{E:List Ent}(h:At K c X n E H):∀{e f:Ent},e∈E->f∈E->e=f\/Yq e f:=by
 have a:∀{E:List Ent},E.Pairwise Yq->∀{e f:Ent},e∈E->f∈E->e=f\/Yq e f:=by
  intro E
  induction E with
  | nil=>intro _ e f he; cases he
  | cons g E d =>
   intro i e f he hf
   have b:=Bd.mp i
   rcases Ak.mp he with he | he
   ·subst he
    rcases Ak.mp hf with hf | hf
    ·exact .inl hf.symm
    ·exact .inr (b.1 f hf)
   ·rcases Ak.mp hf with hf | hf
    ·rw[hf]
     exact .inr (b.1 e he).symm
    ·exact d b.2 he hf
 intro e f he hf
 exact a h.sep he hf
abbrev DI:=DS->(Md->List Af->DS->Prop)->Prop
structure IterOk(K:PySem.W.Frag)(J:It)(hid:List Ent)(m:Md)(ds:List Af):Prop where
 md:m=.sh\/m=.pk
 hd:∀e∈hid,cells e=[]
 np:m=.sh->∀e∈hid,Tj e.x=false
 go:∀H n i,(∀e∈hid,Iu K H n e)->i<ds.length->J.go i H
 yld:∀H n i x H',(∀e∈hid,Iu K H n e)->i<ds.length->J.yld i H x H'->To H H'/\∃d F,ds[i]? = some d/\RdF K H' x d F/\∀a∈F,∃e∈hid,a∈e.F
 stop:∀H n,(∀e∈hid,Iu K H n e)->J.stop ds.length H
def LI(K:PySem.W.Frag)(i:DI):TI:=λh H R=>∃(g:Hp) (X:Addr->Prop) (S T:List Ent) (e:DS) (P:Md->List Af->DS->Prop),vs S=h/\Sl S e/\At K g X e.n (S++T) H/\i e P /\
 ∀m c a J b d f,vs d=h->Sl d a->At K g X a.n (d++(b++T)) f->IterOk K J b m c->c.length<=Ay->P m c a->R J f
abbrev sM(X:Cx)(b iter:Expr)(a:DI):Prop:=PI X b iter (LI X.K a)
theorem PI.imp{X:Cx}{c e:Expr}{t t':TI}(h:PI X c e t)(k:∀b H Q,t' b H Q->t b H Q):PI X c e t':=λa s b H Q I q=>h a s b H Q I (k b H Q q)
def Ji:Md->Md
 | .pk=>.pk
 | _=>.sh
theorem Qm(m:Md):wk m (Ji m)=true:=by cases m <;> rfl
theorem At.item{K:PySem.W.Frag}{l H i:Hp}{X:Addr->Prop}{n:Nat}{S T b:List Ent}{m:Md}{v:V}{d:Af}{F:List Addr}(h:At K l X n (S++(b++T)) H)(s:To H i)(r:RdF K i v d F)(u:∀a∈F,∃e∈b,a∈e.F)(md:m=.sh\/m=.pk)(p:∀e∈b,cells e=[])(np:m=.sh->∀e∈b,Tj e.x=false):At K l X n (S++⟨some v,.dat m d,F⟩::(b++T)) i:=by
 have t:=h.grow (n':=n) s (Aj _)
 have k:∀a,a∉cells ⟨some v,.dat m d,F⟩:=λa c=>by
  rcases md with rfl | rfl <;> exact nomatch c
 refine (t.push (e:=⟨some v,.dat m d,F⟩) ⟨v,rfl,r,λz=>?_,λz=>?_⟩ (λf o=>⟨λ_ a c=>absurd c (k a),λhq a c z=>?_⟩) λa c=>absurd c (k a)).tomid
 ·rcases md with rfl | rfl <;> cases z
 ·rcases md with rfl | rfl <;> cases z
 ·obtain ⟨e,g,w⟩:=u a z
  have j:e∈S++(b++T):=Ag _ (Ao _ g)
  rcases sD h j o with rfl | q
  ·rw[p e g] at c
   cases c
  ·refine q.2 ?_ a c w
   rcases hq with hq | hq
   ·refine .inl (np ?_ e g)
    rcases md with rfl | rfl
    ·rfl
    ·cases hq
   ·exact .inr hq
def LZ(c:DE):DI:=λb P=>c b λx a=>match x with
 | .dat m (.list ds)=>P (Ji m) ds a
 | .dat m (.tuple ds)=>P (Ji m) ds a
 | _=>False
def qC(b:DA):DI:=λc P=>b c λd a=>match d with
 | [.dat _ (.int j)]=>-1000000<=j/\j<=1000000/\P .sh ((Cc j.toNat).map λi:Nat=>.int i) a
 | _=>False
def F9(b:DA):DI:=λc P=>b c λd a=>match d with
 | [.dat m (.list ds)]=>P (Ji m) (ds.zipIdx.map λp=>.tuple [.int p.2,p.1]) a
 | _=>False
def uV(b:DA):DI:=λc P=>b c λd a=>match d with
 | [.dat m (.tuple ds)]=>P (Ji m) (ds.zipIdx.map λp=>.tuple [.int p.2,p.1]) a
 | _=>False
def mdZip:Md->Md->Md
 | .pk,_=>.pk
 | _,.pk=>.pk
 | _,_=>.sh
def AC(b:DA):DI:=λc P=>b c λd a=>match d with
 | [.dat m (.list ds),.dat m' (.list es)]=>P (mdZip m m') ((ds.zip es).map λp=>.tuple [p.1,p.2]) a
 | _=>False
section
variable{K:PySem.W.Frag}
theorem Gb{H:Hp}{n:Nat}{v:V}{m:Md}{d:Af}{F:List Addr}{a:List Ent}(h:∀e∈a,Iu K H n e)(f:⟨some v,.dat m d,F⟩∈a):RdF K H v d F:=by
 obtain ⟨w,c,b,_⟩:=h _ f
 cases c
 exact b
theorem Ub{v:Option V}{m:Md}{d:Af}{F:List Addr}:cells ⟨v,.dat (Ji m) d,F⟩=[]:=by cases m <;> rfl
theorem kZ{v:Option V}{m:Md}{d:Af}{F:List Addr}:∀e∈[(⟨v,.dat (Ji m) d,F⟩ : Ent)],cells e=[]:=λe a=>by
 rw[Al.mp a]
 exact Ub
theorem uD{v:Option V}{m:Md}{d:Af}{F:List Addr}:Ji m=.sh->∀e∈[(⟨v,.dat (Ji m) d,F⟩ : Ent)],Tj e.x=false:=λz e a=>by
 rw[Al.mp a]
 show Tj (.dat (Ji m) d)=false
 rw[z]
 rfl
theorem cI(m:Md):Ji m=.sh\/Ji m=.pk:=by cases m <;> simp [Ji]
theorem xQ{a:Addr}{m:Md}{ds:List Af}{F:List Addr}:IterOk K (JZ K a) [⟨some (.ref a),.dat (Ji m) (.list ds),F⟩] (Ji m) ds where
 md:=cI m
 hd:=kZ
 np:=uD
 go:=λH n i h j=>by
  obtain ⟨b,d,G,e,f,g,_,_⟩:=(Gb h Ab).list_inv
  cases e
  have u:=g.len
  exact ⟨d,d[i],Mq.of f,by simp [show i<d.length by omega]⟩
 yld:=λH n i x t h j y=>by
  obtain ⟨b,d,G,e,f,g,rfl,_⟩:=(Gb h Ab).list_inv
  cases e
  obtain ⟨rfl,y⟩:=y
  have p:=y d (Mq.of f)
  obtain ⟨s,o,k,l,r⟩:=g.get (i:=i) (e:=ds[i]) (by simp [j])
  rw[p] at k
  cases k
  exact ⟨To.refl _,ds[i],o,by simp [j],l,λc q=>⟨_,Ab,Ac _ (r.subset q)⟩⟩
 stop:=λH n h=>by
  obtain ⟨b,d,G,e,f,g,_,_⟩:=(Gb h Ab).list_inv
  cases e
  exact ⟨d,Mq.of f,by rw[g.len]; exact Aj _⟩
theorem p6{a:Addr}{m:Md}{ds:List Af}{F:List Addr}:IterOk K (KZ K a) [⟨some (.ref a),.dat (Ji m) (.tuple ds),F⟩] (Ji m) ds where
 md:=cI m
 hd:=kZ
 np:=uD
 go:=λH n i h j=>by
  obtain ⟨b,d,e,f,g,_⟩:=(Gb h Ab).tup_inv
  cases e
  have u:=g.len
  exact ⟨d,d[i],Ru.of f,by simp [show i<d.length by omega]⟩
 yld:=λH n i x t h j y=>by
  obtain ⟨b,d,e,f,g,_⟩:=(Gb h Ab).tup_inv
  cases e
  obtain ⟨rfl,y⟩:=y
  have p:=y d (Ru.of f)
  obtain ⟨s,o,k,l,r⟩:=g.get (i:=i) (e:=ds[i]) (by simp [j])
  rw[p] at k
  cases k
  exact ⟨To.refl _,ds[i],o,by simp [j],l,λc q=>⟨_,Ab,r.subset q⟩⟩
 stop:=λH n h=>by
  obtain ⟨b,d,e,f,g,_⟩:=(Gb h Ab).tup_inv
  cases e
  exact ⟨d,Ru.of f,by rw[g.len]; exact Aj _⟩
theorem sF{lo:Int}{n:Nat}:IterOk K (IV lo n) [] .sh ((Cc n).map λi:Nat=>.int (lo+i)) where
 md:=.inl rfl
 hd:=λ_ z=>nomatch z
 np:=λ_ _ z=>nomatch z
 go:=λH k i h a=>by
  show i<n
  simpa using a
 yld:=λH k i x b h a y=>by
  obtain ⟨rfl,rfl⟩:=y
  rw[Ad,Cq] at a
  exact ⟨To.refl _,.int (lo+i),[],by simp [a],.int _,λ_ z=>nomatch z⟩
 stop:=λH k h=>by simp [IV]
theorem zD{a:Addr}{m:Md}{ds:List Af}{F:List Addr}:IterOk K (JS K a) [⟨some (.ref a),.dat (Ji m) (.list ds),F⟩] (Ji m) (ds.zipIdx.map λp=>.tuple [.int p.2,p.1]) where
 md:=cI m
 hd:=kZ
 np:=uD
 go:=λH n i h j=>by
  obtain ⟨b,d,G,e,f,g,_,_⟩:=(Gb h Ab).list_inv
  cases e
  have B:=g.len
  rw[Ad,Fj] at j
  exact ⟨d,d[i],Mq.of f,by simp [show i<d.length by omega]⟩
 yld:=λH n i x A h j y=>by
  obtain ⟨b,d,G,e,f,g,rfl,_⟩:=(Gb h Ab).list_inv
  cases e
  rw[Ad,Fj] at j
  obtain ⟨t,z,rfl,v,rfl,y⟩:=y
  have r:=y d (Mq.of f)
  obtain ⟨w,q,k,o,u⟩:=g.get (i:=i) (e:=ds[i]) (by simp [j])
  rw[r] at k
  cases k
  have l:=Ff v (.tup [.int i,z])
  refine ⟨l,.tuple [.int i,ds[i]],q,by simp [j],.tup Du (by simp [Gn]) ?_,λc s=>⟨_,Ab,Ac _ (u.subset s)⟩⟩
  have:=RdFs.cons (F:=[]) (.int (i:Int)) (RdFs.cons (o.kp (Kp.of l)) RdFs.nil)
  rw[Eb] at this
  exact this
 stop:=λH n h=>by
  obtain ⟨b,d,G,e,f,g,_,_⟩:=(Gb h Ab).list_inv
  cases e
  exact ⟨d,Mq.of f,by rw[Ad,Fj,g.len]; exact Aj _⟩
theorem tG{a:Addr}{m:Md}{ds:List Af}{F:List Addr}:IterOk K (CW K a) [⟨some (.ref a),.dat (Ji m) (.tuple ds),F⟩] (Ji m) (ds.zipIdx.map λp=>.tuple [.int p.2,p.1]) where
 md:=cI m
 hd:=kZ
 np:=uD
 go:=λH n i h j=>by
  obtain ⟨b,d,e,f,g,_⟩:=(Gb h Ab).tup_inv
  cases e
  have B:=g.len
  rw[Ad,Fj] at j
  exact ⟨d,d[i],Ru.of f,by simp [show i<d.length by omega]⟩
 yld:=λH n i x A h j y=>by
  obtain ⟨b,d,e,f,g,_⟩:=(Gb h Ab).tup_inv
  cases e
  rw[Ad,Fj] at j
  obtain ⟨t,z,rfl,v,rfl,y⟩:=y
  have r:=y d (Ru.of f)
  obtain ⟨w,q,k,o,u⟩:=g.get (i:=i) (e:=ds[i]) (by simp [j])
  rw[r] at k
  cases k
  have l:=Ff v (.tup [.int i,z])
  refine ⟨l,.tuple [.int i,ds[i]],q,by simp [j],.tup Du (by simp [Gn]) ?_,λc s=>⟨_,Ab,u.subset s⟩⟩
  have:=RdFs.cons (F:=[]) (.int (i:Int)) (RdFs.cons (o.kp (Kp.of l)) RdFs.nil)
  rw[Eb] at this
  exact this
 stop:=λH n h=>by
  obtain ⟨b,d,e,f,g,_⟩:=(Gb h Ab).tup_inv
  cases e
  exact ⟨d,Ru.of f,by rw[Ad,Fj,g.len]⟩
theorem zV{a b:Addr}{m w:Md}{ds es:List Af}{F G:List Addr}:IterOk K (KA K a b) [⟨some (.ref a),.dat (Ji m) (.list ds),F⟩,⟨some (.ref b),.dat (Ji w) (.list es),G⟩] (mdZip m w) ((ds.zip es).map λp=>.tuple [p.1,p.2]) where
 md:=by cases m <;> cases w <;> simp [mdZip]
 hd:=λe he=>by
  rcases Ak.mp he with rfl | he
  ·exact Ub
  ·rw[Al.mp he]
   exact Ub
 np:=λz e he=>by
  rcases Ak.mp he with rfl | he
  ·cases m <;> cases w <;> first | rfl | cases z
  ·rw[Al.mp he]
   cases m <;> cases w <;> first | rfl | cases z
 go:=λH n i h B=>by
  obtain ⟨P,l,M,s,j,g,_,_⟩:=(Gb h Ab).list_inv
  obtain ⟨N,k,O,o,f,d,_,_⟩:=(Gb h (Ac _ Ab)).list_inv
  cases s
  cases o
  have T:=g.len
  have Q:=d.len
  rw[Ad,Hq] at B
  exact ⟨l,k,l[i],k[i],Mq.of j,Mq.of f,by simp [show i<l.length by omega],by simp [show i<k.length by omega]⟩
 yld:=λH n i x X h B y=>by
  obtain ⟨P,l,M,s,j,g,rfl,_⟩:=(Gb h Ab).list_inv
  obtain ⟨N,k,O,o,f,d,rfl,_⟩:=(Gb h (Ac _ Ab)).list_inv
  cases s
  cases o
  rw[Ad,Hq] at B
  obtain ⟨t,u,v,rfl,R,rfl,S,W⟩:=y
  have I:=S l (Mq.of j)
  have J:=W k (Mq.of f)
  obtain ⟨Y,U,r,A,C⟩:=g.get (i:=i) (e:=ds[i]) (by simp [show i<ds.length by omega])
  obtain ⟨Z,V,q,L,D⟩:=d.get (i:=i) (e:=es[i]) (by simp [show i<es.length by omega])
  rw[I] at r
  cases r
  rw[J] at q
  cases q
  have E:=Ff R (.tup [u,v])
  refine ⟨E,.tuple [ds[i],es[i]],U++V,?_,.tup Du (by simp [Gn]) ?_,λc hc=>?_⟩
  ·rw[Bg,show (ds.zip es)[i]? = some (ds[i],es[i]) from mL.mpr ⟨by simp [show i<ds.length by omega],by simp [show i<es.length by omega]⟩]
   rfl
  ·have:=RdFs.cons (A.kp (Kp.of E)) (RdFs.cons (L.kp (Kp.of E)) RdFs.nil)
   rw[Eb] at this
   exact this
  ·rcases Bc.mp hc with hc | hc
   ·exact ⟨_,Ab,Ac _ (C.subset hc)⟩
   ·exact ⟨_,Ac _ Ab,Ac _ (D.subset hc)⟩
 stop:=λH n h=>by
  obtain ⟨P,l,M,s,j,g,_,_⟩:=(Gb h Ab).list_inv
  obtain ⟨N,k,O,o,f,d,_,_⟩:=(Gb h (Ac _ Ab)).list_inv
  cases s
  cases o
  have T:=g.len
  have Q:=d.len
  refine ⟨l,k,Mq.of j,Mq.of f,?_⟩
  rw[Ad,Hq]
  omega
end
section
variable{X:Cx}{i e:Expr}{f:DE}{l:DI}
def dL(f:DE):DI:=λb P=>f b λx a=>match x with
 | .dat m (.list ds)=>P (Ji m) ds a
 | _=>False
def LQ(f:DE):DI:=λb P=>f b λx a=>match x with
 | .dat m (.tuple ds)=>P (Ji m) ds a
 | _=>False
theorem P9(h:Gq X e f):sM X i e (dL f):=by
 refine PI.imp (W0 h) λy H R h=>?_
 obtain ⟨l,Y,S,T,m,P,rfl,g,o,t,k⟩:=h
 refine ⟨l,Y,S,T,m,_,rfl,g,o,t,λx d v F u j p q b c=>?_⟩
 split at c
 ·obtain ⟨a,n,G,rfl,r,w,rfl,s⟩:=(b.told mem_mid).list_inv
  exact ⟨a,rfl,⟨n,Mq.of r⟩,k _ _ d _ [_] u j p q ((b.mid.wk (Qm _)).tomid) xQ s c⟩
 ·exact c.elim
theorem EX(h:Gq X e f):sM X i e (LQ f):=by
 refine PI.imp (BI h) λy H R h=>?_
 obtain ⟨l,Y,S,T,m,P,rfl,g,o,t,k⟩:=h
 refine ⟨l,Y,S,T,m,_,rfl,g,o,t,λx d v F u j p q b c=>?_⟩
 split at c
 ·obtain ⟨a,n,rfl,r,w,s⟩:=(b.told mem_mid).tup_inv
  exact ⟨a,rfl,⟨n,Ru.of r⟩,k _ _ d _ [_] u j p q ((b.mid.wk (Qm _)).tomid) p6 s c⟩
 ·exact c.elim
variable{es:List Expr}{d:DA}{a b:Expr}{p pos j:Pos}{c:List Expr}{g:Nat}
theorem Lx(x:Gl X "range")(q:X.mg "range" = none)(y:mI X [a] d)(t:Bj [a] X.env=[(false,eval a X.env)]:=by rfl):sM X i (.Call (.Name "range" p) [a] [] pos) (qC d):=by
 refine PI.imp (wO x q y t) λE H R h=>?_
 obtain ⟨w,Y,S,T,r,P,rfl,s,j,m,k⟩:=h
 refine ⟨w,Y,S,T,r,_,rfl,s,j,m,λA e C D f n z l o u c p=>?_⟩
 split at p
 ·obtain ⟨v,F,rfl,b⟩:=Hw u c o
  obtain ⟨rfl,_⟩:=(b.told mem_mid).int_inv
  obtain ⟨B,G,g⟩:=p
  refine ⟨_,rfl,by omega,by omega,k _ _ e _ [] f n z l b.drop sF (by rw[Ad,Cq]; exact pY (by omega)) ?_⟩
  simpa using g
 ·exact p.elim
theorem O8(A:Gl X "enumerate")(t:X.mg "enumerate" = none)(i:mI X [a] d)(x:Bj [a] X.env=[(false,eval a X.env)]:=by rfl):sM X (.Tuple c g j) (.Call (.Name "enumerate" p) [a] [] pos) (F9 d):=by
 refine PI.imp (V1 A t i x) λJ H R h=>?_
 obtain ⟨z,Y,S,T,u,P,rfl,w,n,q,k⟩:=h
 refine ⟨z,Y,S,T,u,_,rfl,w,n,q,λl f E I m r B o s y e p=>?_⟩
 split at p
 ·obtain ⟨v,F,rfl,b⟩:=Hw y e s
  obtain ⟨a,l,G,rfl,i,D,rfl,C⟩:=(b.told mem_mid).list_inv
  exact ⟨a,rfl,⟨l,Mq.of i⟩,k _ _ f _ [_] m r B o ((b.mid.wk (Qm _)).tomid) zD (by rw[Ad,Fj]; exact C) p⟩
 ·exact p.elim
theorem J6(A:Gl X "enumerate")(t:X.mg "enumerate" = none)(i:mI X [a] d)(x:Bj [a] X.env=[(false,eval a X.env)]:=by rfl):sM X (.Tuple c g j) (.Call (.Name "enumerate" p) [a] [] pos) (uV d):=by
 refine PI.imp (J5 A t i x) λI H R h=>?_
 obtain ⟨z,Y,S,T,u,P,rfl,w,n,q,k⟩:=h
 refine ⟨z,Y,S,T,u,_,rfl,w,n,q,λl f E G m r B o s y e p=>?_⟩
 split at p
 ·obtain ⟨v,F,rfl,b⟩:=Hw y e s
  obtain ⟨a,l,rfl,i,D,C⟩:=(b.told mem_mid).tup_inv
  exact ⟨a,rfl,⟨l,Ru.of i⟩,k _ _ f _ [_] m r B o ((b.mid.wk (Qm _)).tomid) tG (by rw[Ad,Fj]; exact C) p⟩
 ·exact p.elim
theorem rX(J:Gl X "zip")(y:X.mg "zip" = none)(l:mI X [a,b] d)(B:Bj [a,b] X.env=(false,eval a X.env)::Bj [b] X.env:=by rfl)(E:(Hg pos (Bj [b] X.env)).any (·.1)=false:=by rfl):sM X (.Tuple c g j) (.Call (.Name "zip" p) [a,b] [] pos) (AC d):=by
 refine PI.imp (CF J y l B E) λU H R h=>?_
 obtain ⟨I,Y,S,T,z,P,rfl,A,q,s,k⟩:=h
 refine ⟨I,Y,S,T,z,_,rfl,A,q,s,λm i O Q o u K r x C f p=>?_⟩
 split at p
 ·obtain ⟨v,F,w,G,rfl,e⟩:=Yj C f x
  obtain ⟨a,m,M,rfl,l,L,rfl,W⟩:=(e.told mem_mid).list_inv
  obtain ⟨b,t,N,rfl,n,V,rfl,D⟩:=(e.told Ga).list_inv
  refine ⟨a,b,rfl,⟨m,Mq.of l⟩,⟨t,Mq.of n⟩,k _ _ i _ [_,_] o u K r (((((e.mid.wk (Qm _)).tomid).swap.mid.wk (Qm _)).tomid).swap) zV (by rw[Ad,Hq]; omega) p⟩
 ·exact p.elim
end
def FH(g:DI)(f:DG)(j:DB):DB:=λD h=>g h λm e b=>m=.sh/\∃I:Nat->DS->Prop,I 0 b /\
 (∀i d a,e[i]? = some d->I i a->f (.dat .sh d) a λc=>j { D with nx:=I (i+1),ct:=I (i+1),bk:=D.nx } c)/\∀a,I e.length a->D.nx a
section
variable{X:Cx}{b iter:Expr}{f:DI}{c:DG}{g:DB}{a:List Stmt}{pos:Pos}
theorem At.dropH{K:PySem.W.Frag}{b H:Hp}{X:Addr->Prop}{n:Nat}{S T a:List Ent}{e:Ent}(h:At K b X n (S++e::(a++T)) H):At K b X n (S++e::T) H:=h.sub ((Co S).append ((Bu a T).cons₂ e))
theorem Ng(hp:PassesOwn (model X.prog X.w) X.A X.env X.xe)(hc:X.calm=true)(hi:sM X b iter f)(hg:IZ X b c)(hb:dJ X a g)(Q:∀x,Dc iter X.env x=pure x:=by intro _; rfl):zO X (.For b iter a [] pos) (FH f c g):=by
 refine PS.impD (CJ hp hc hi hg hb Q) λD R H h=>?_
 obtain ⟨L,Y,S,T,r,P,rfl,hS,hT,hA,hd,k1,k2,k3,k4⟩:=h
 refine ⟨L,Y,S,T,r,_,rfl,hS,hA,hd,λm C N J p S1 H1 e1 e2 O it hz p1=>?_⟩
 obtain ⟨rfl,I,h0,Q,hf⟩:=p1
 rw[<- e1]
 have W:∀e∈p++T,Tj e.x=false:=λe he=>by
  rcases Bc.mp he with he | he
  ·exact it.np rfl e he
  ·exact hT e he
 refine ⟨λi q R H=>q=C.length - i/\i<=C.length/\∃S r,vs S=R/\Sl S r/\At X.K L Y r.n (S++(p++T)) H/\I i r,⟨C.length,by simp,Do _,S1,N,rfl,e2,O,h0⟩,?_⟩
 (intro i q R H q_; obtain ⟨rfl,hi,S2,k,rfl,Z,t,hI⟩ := q_)
 have j:∀e∈p,Iu X.K H k.n e:=λe he=>t.ok e (Ag _ (Ao _ he))
 by_cases s:i<C.length
 ·refine .inr ⟨it.go H k.n i j s,λG M=>∃S r,vs S=G/\Sl S r/\At X.K L Y r.n (S++(p++T)) M/\I (i+1) r,λG M q=>⟨C.length - (i+1),by omega,rfl,s,q⟩,λx M y=>?_⟩
  obtain ⟨s1,d,F,h1,h2,h3⟩:=it.yld H k.n i x M j s y
  refine ⟨L,Y,S2,p++T,k,.dat .sh d,F,_,rfl,Z,t.item s1 h2 h3 it.md it.hd it.np,Q i d k h1 hI,λV S3 H3 e4 U p3=>?_⟩
  refine ⟨L,Y,S3,p++T,V,_,rfl,e4,W,U,p3,λl z E B o u=>⟨z,l,rfl,B,o,u⟩,λx l v F z E B o u=>k2 x l v F z E B o.dropH u,
   λl z E B o u=>k1 l z E B o.dropL u,λl z E B o u=>⟨z,l,rfl,B,o,u⟩⟩
 ·have e:i=C.length:=by omega
  subst e
  exact .inl ⟨it.stop H k.n j,k1 k S2 H Z t.dropL (hf k hI)⟩
end
end DL
namespace Nd
open PySem PySem.Spec PyProof.Rows L2
theorem gL(c e f g d:Expr)(a:Scope)(pos:Pos)(it b:Value)(env:Env) :
  compTurn (.ListComp c [⟨e,f,[],0⟩,⟨g,d,[],0⟩] a pos) 0 it b env=(do
   bT f.pos
   match <- Jh it with
   | none=>pure (.done .next)
   | some v =>
    Hy e it v
    Nr e env v
    let x <- eval d env
    bT d.pos
    let x <- Dc d env x
    let it2 <- Qf [x] (pyIter x)
    let _ <- runOwn (.compStart (.ListComp c [⟨e,f,[],0⟩,⟨g,d,[],0⟩] a pos) 1 it2 b env) env
    again (.compLoop (.ListComp c [⟨e,f,[],0⟩,⟨g,d,[],0⟩] a pos) 0 it b env)):=by rfl
theorem gC(c f g d e:Expr)(a:Scope)(pos:Pos)(it b:Value)(env:Env) :
  compTurn (.ListComp c [⟨f,g,[],0⟩,⟨d,e,[],0⟩] a pos) 1 it b env=(do
   bT e.pos
   match <- Jh it with
   | none=>pure (.done .next)
   | some v =>
    Hy d it v
    Nr d env v
    (do let _ <- call (.builtin "list.append") [b,<- eval c env])
    again (.compLoop (.ListComp c [⟨f,g,[],0⟩,⟨d,e,[],0⟩] a pos) 1 it b env)):=by rfl
section
variable{prog:Bk}{w:World}{A:Ci}{R:Result->Ah->Prop}{s:Ah}
theorem gK{c:Expr}{g:Comprehension}{f e:Expr}{a:Scope}{pos:Pos}{it b:Value}{env:Env}(h0:Ha (model prog w) A (.compLoop (.ListComp c [g,⟨f,e,[],0⟩] a pos) 1 it b env) R s)(h:wpAny (model prog w) A (pyIter it) (λd s'=>Ha (model prog w) A (.compLoop (.ListComp c [g,⟨f,e,[],0⟩] a pos) 1 d b env) R s') (λ_ _=>False) s):Ha (model prog w) A (.compStart (.ListComp c [g,⟨f,e,[],0⟩] a pos) 1 it b env) R s:=by
 refine Zd ?_
 show wpAny _ _ ((compStart (.ListComp c [g,⟨f,e,[],0⟩] a pos) 1 it b env).onRaise (λx=>do noteFrame x env; bT theWindowsPlace)) _ _ s
 refine wpAny_notedAt ?_
 unfold compStart
 show wpAny _ _ (ask >>= _) _ _ s
 refine Aa (Wl (wpAny_ite ?_))
 split
 ·first
   | exact Aa (Ae (Ae (And.intro rfl h0)))
   | exact Ae (And.intro rfl h0)
 ·first
   | exact Aa (Jr (Aa (Hj (Aa (Cv h (λd s' i=>Ae (And.intro rfl i)) λ_ _ x=>x.elim)))))
   | (refine Aa (Jr ?_); show wpAny _ _ (bT e.pos >>= _) _ _ s; exact Aa (Hj (Aa (Cv h (λd s' i=>Ae (And.intro rfl i)) λ_ _ x=>x.elim))))
theorem pR{c i l j d:Expr}{a:Scope}{pos:Pos}{it b:Value}{env:Env}(o:∀x,Dc d env x=pure x)(J:Nat->Ah->Prop) (turn:∀n s,J n s->wpAny (model prog w) A (Jh it) (λr k=>match r with
    | none=>R (.ok .next) k
    | some v=>wpAny (model prog w) A (Hy i it v) (λ_ B=>wpAny (model prog w) A (Nr i env v) (λ_ C =>
      wpAny (model prog w) A (eval d env) (λx p=>wpAny (model prog w) A (pyIter x) (λg q =>
       Ha (model prog w) A (.compStart (.ListComp c [⟨i,l,[],0⟩,⟨j,d,[],0⟩] a pos) 1 g b env) (λr y=>match r with | .ok _=>∃m,m<n/\J m y | .error _=>False) q) (λ_ _=>False) p) (λ_ _=>False) C) (λ_ _=>False) B) (λ_ _=>False) k) (λ_ _=>False) s)
  (n:Nat) (h:J n s):Ha (model prog w) A (.compLoop (.ListComp c [⟨i,l,[],0⟩,⟨j,d,[],0⟩] a pos) 0 it b env) R s:=by
 refine jD rfl J (λn s E=>?_) n h
 show wpAny _ A (Sem.onRaise (compTurn (.ListComp c [⟨i,l,[],0⟩,⟨j,d,[],0⟩] a pos) 0 it b env) (λx=>do noteFrame x env; theTreesLotGoes x)) _ _ s
 refine wpAny_noted ?_
 rw[gL]
 refine Aa (Hj (Aa (Cv (turn n s E) (λr k t=>?_) λ_ _ z=>z.elim)))
 cases r with
 | none=>exact Ae t
 | some v =>
  refine Aa (Cv t (λ_ B D=>?_) λ_ _ z=>z.elim)
  refine Aa (Cv D (λ_ C H=>?_) λ_ _ z=>z.elim)
  refine Aa (Cv H (λx p G=>?_) λ_ _ z=>z.elim)
  refine Aa (Hj (Aa (Jm (o x) (Aa (Ct (Cv G (λg q F=>?_) λ_ _ z=>z.elim))))))
  refine Aa (wpAny_runOwn ?_)
  refine Oq F λr y u=>?_
  cases r with
  | ok f=>exact Ae ⟨rfl,u⟩
  | error e=>exact u.elim
theorem qL{c f l d j:Expr}{a:Scope}{pos:Pos}{it b:Value}{env:Env}(J:Nat->Ah->Prop) (turn:∀n s,J n s->wpAny (model prog w) A (Jh it) (λr e=>match r with
    | none=>R (.ok .next) e
    | some v=>wpAny (model prog w) A (Hy d it v) (λ_ k=>wpAny (model prog w) A (Nr d env v) (λ_ p =>
      wpAny (model prog w) A (eval c env) (λx i=>wpAny (model prog w) A (call (.builtin "list.append") [b,x]) (λ_ g=>∃m,m<n/\J m g) (λ_ _=>False) i) (λ_ _=>False) p) (λ_ _=>False) k) (λ_ _=>False) e) (λ_ _=>False) s)
  (n:Nat) (h:J n s):Ha (model prog w) A (.compLoop (.ListComp c [⟨f,l,[],0⟩,⟨d,j,[],0⟩] a pos) 1 it b env) R s:=by
 refine jD rfl J (λn s t=>?_) n h
 show wpAny _ A (Sem.onRaise (compTurn (.ListComp c [⟨f,l,[],0⟩,⟨d,j,[],0⟩] a pos) 1 it b env) (λx=>do noteFrame x env; theTreesLotGoes x)) _ _ s
 refine wpAny_noted ?_
 rw[gC]
 refine Aa (Hj (Aa (Cv (turn n s t) (λr e o=>?_) λ_ _ z=>z.elim)))
 cases r with
 | none=>exact Ae o
 | some v =>
  refine Aa (Cv o (λ_ k q=>?_) λ_ _ z=>z.elim)
  refine Aa (Cv q (λ_ p B=>?_) λ_ _ z=>z.elim)
  refine Aa (Aa (Cv B (λx i y=>?_) λ_ _ z=>z.elim))
  exact Aa (Cv y (λ_ g u=>Ae (Ae ⟨rfl,u⟩)) λ_ _ z=>z.elim)
end
section
variable{X:Cx}
def CO(J:It)(p:List Nat)(g:TI)(t:TE)(r:L2.St)(n:Hp)(Q:VK):Prop:=∀D,n D=none->∃W:Nat->Nat->Hp->Prop,(∃m,W 0 m (upd n D (.lst [])))/\∀i m H,W i m H ->
 (J.stop i H/\Q (.ref D) H)\/(J.go i H/\∀x j,J.yld i H x j->∀o:Option V,g (some x::o::Ef r p) j λf s=>∃h:Nat->Nat->Hp->Prop,(∃e,h 0 e s)/\∀b e d,h b e d ->
  (f.stop b d/\∃q,q<m/\W (i+1) q d)\/(f.go b d/\∀y l,f.yld b d y l->t (some x::some y::Ef r p) l λz k=>∃a,k D=some (.lst a)/\a.length<Ay/\∃c,c<e/\h (b+1) c (upd k D (.lst (a++[z])))))
def BP(c:TI)(e:List Nat)(a:TI)(f:TE):TE:=λb H Q=>c b H λJ d=>CO J e a f b d Q
end
section
variable{X:Cx}
theorem j7{t iter:Expr}{x j y0:Str}{px k pt py pos U:Pos}{kt:Nat}{i0:Nat}{E:List Expr}{a:Scope}{G:List (Str×Addr)}{ys:List Str}{V:List Nat}{wi:TI}{tc:TT}{te:TE}(hN:X.N.Nodup)(j0:X.N[i0]? = some y0)(q6:X.env.scope.names.lookup y0=some .local)(C:CompScope X a G x ys V)(R:aM a j)(h9:(x::j::ys).Nodup)(hc:X.calm=true)(hi:PI X (.Tuple [.Name x px,.Name j k] kt pt) iter wi)(ht:∀fp s H,qT (Cw X a G (x::j::ys) fp s H) E tc)(he:∀fp s H,PE (Cw X a G (x::j::ys) fp s H) t te)(hs:∀x,Dc iter X.env x=pure x:=by intro _; rfl)(x0:Oa (.ListComp t [⟨.Tuple [.Name x px,.Name j k] kt pt,iter,E,0⟩] a pos) (some (.Name y0 py)) U.line X.env=pure true:=by rfl):PS X (.Assign [.Name y0 py] (.ListComp t [⟨.Tuple [.Name x px,.Name j k] kt pt,iter,E,0⟩] a pos) U) (x9 (lP X.K wi V tc te) (Pt i0)):=by
 intro d s l H De I h
 have h:lP X.K wi V tc te l H λv H1=>De.nx (l.set i0 (some v)) H1:=h
 rw[exec_Assign_Name_used _ _ _ _ x0]
 refine Aa (Hj (Aa ?_))
 show wpAny _ X.A (do let _ <- comprehension (.ListComp t [⟨.Tuple [.Name x px,.Name j k] kt pt,iter,E,0⟩] a pos) a X.env _ (newList []) false (eval iter X.env) (some (Nr (.Name y0 py) X.env))) _ _ s
 refine Aa (Cv (Hk (use:=some (Nr (.Name y0 py) X.env)) (Q:=λ_ s'=>SP X d De .next s') rfl hs C.clos C.kind C.locs (Fp (hi d s l H _ I h) λv s1 h1=>Fp h1 λy2 f h2=>?_)) (λ_ s' hq=>Ae (Ae hq)) λ_ _ e=>e)
 obtain ⟨it,fp,tn,J,H2,e,I2,T,x1,f2,q2⟩:=h2
 subst e
 have fD:H2 f.heap.objs.size=none:=I2.hok.fresh (Aj _)
 obtain ⟨W,⟨m0,w0⟩,k8⟩:=q2 f.heap.objs.size fD
 refine Cg ?_
 have I3:Inv X d l (upd H2 f.heap.objs.size (.lst [])) { f with heap:=f.heap.push { cls:=.type "list",dict:=none,data:=.seq ([]:List Value).toArray } } :=
  I2.laid (t':=f.toks) (λb u q=>Ai _ q) (Aj _) ⟨Do _,[],0,.nil,Ar _ rfl⟩
 obtain ⟨f3,k6,x3⟩:=Rm I2 T x1 f2 I3
 generalize k7:({ f with heap:=f.heap.push { cls:=.type "list",dict:=none,data:=.seq ([]:List Value).toArray } }:Ah)=s3 at I3
 have Rr:tn 0 s3.heap:=by rw[<- k7]; exact k6
 have o3:∀b∈fp,∃o,s3.heap.get? b=some o:=by rw[<- k7]; exact x3
 show wpAny _ _ (Kc a X.env.globals G [] X.env.qual none .none (some X.env)) _ _ _
 refine Pb C λh4 q0 F q4=>?_
 have I4:∀tk,Inv (Cw X a G (x::j::ys) fp s3 (upd H2 f.heap.objs.size (.lst []))) [] (none::none::Ef l V) (upd H2 f.heap.objs.size (.lst [])) { s3 with heap:=h4,toks:=tk }:=λtk=>Ni (pre:=[x,j]) C I3 f3 o3 q0 F q4
 have k4:tn 0 h4:=T.keep 0 _ _ Rr λb D o q=>F b o q
 generalize L:Cw X a G (x::j::ys) fp s3 (upd H2 f.heap.objs.size (.lst []))=X' at I4
 obtain ⟨eP,eW,eK,eA,eC⟩:=Rp hc L
 have B:∀{g:Hp},(∀b∈fp,g b=none)->∀b∈fp,Lg X' [] g b:=λ{g} hn=>Pe L (I4 0) hn
 have S:∀s5:Ah,s5={ s3 with heap:=h4,toks:=s3.toks+([]:List (Str×Value)).length } ->
   Ha (model X.prog X.w) X.A (.compLoop (.ListComp t [⟨.Tuple [.Name x px,.Name j k] kt pt,iter,E,0⟩] a pos) 0 (.ref it) (.ref f.heap.objs.size) (Ti a (En (s3.heap.objs.size+1) a.names G) s3.heap.objs.size X.env))
    (compPost (model X.prog X.w) X.A X.xe (some (Nr (.Name y0 py) X.env)) (λ_ s'=>SP X d De .next s') (.ref f.heap.objs.size) s3.heap.objs.size) s5:=by
  rintro s5 rfl
  refine Su (λn s'=>∃i o o2 g,Inv X' [] (o::o2::Ef l V) g s'/\tn i s'.heap/\(∀b∈fp,g b=none)/\W i n g) ?_ m0
   ⟨0,none,none,_,I4 _,k4,λb D=>(f3 b D).1,w0⟩
  (intro n s6 q_; obtain ⟨i,o,o2,H6,I6,k2,k5,w6⟩ := q_)
  rcases k8 i n H6 w6 with ⟨k3,qn⟩ | ⟨go,step⟩
  ·have hd:=T.done X' eP eW eK eC i [] s6 _ H6 (λ_ _=>False) I6 (B k5) k2 k3
   rw[eA] at hd
   refine Fp hd λr s7 c => ?_
   obtain ⟨hr,I7⟩ := c
   subst hr
   obtain ⟨⟨m7,Y⟩,q3,J7⟩:=iD L I3 f3 I7
   have fC:Lg X d H6 s3.heap.objs.size:=I3.fpOk (Aj _) q3
   obtain ⟨oC,y6,y9,k1,rC⟩:=id Y
   have J8:Inv X (d++[(s3.heap.objs.size,oC)]) l H6 s7:=J7.pins_of λp hp=>by
    rcases Bc.mp hp with z | z
    ·have q:=J7.pin p (Ag _ z)
     exact q
    ·rw[Al.mp z]
     exact ⟨k1,q3,fC.2.1,fC.2.2.1,λv hv=>by rw[rC.1] at hv; cases hv⟩
   refine Fp (Jy (X:=X) (i:=i0) (x:=y0) (pos:=py) hN j0 (.inl q6) (.inr q6) (d++[(s3.heap.objs.size,oC)]) s7 l H6 (.ref f.heap.objs.size) (.ref f.heap.objs.size) (λh5 g=>h5=l.set i0 (some (.ref f.heap.objs.size))/\g=H6) J8 rfl ⟨rfl,rfl⟩) λ_ O c => ?_
   obtain ⟨x4,Z,P,e9,h0⟩ := c
   subst e9 h0
   have q1:=(P.pin (s3.heap.objs.size,oC) (Ag _ (Ag _ Ab))).1
   have j8:Inv X d (l.set i0 (some (.ref f.heap.objs.size))) Z O:=P.pins_of λp hp=>P.pin p (Ag _ (Ao _ hp))
   refine ⟨m7,Y.at λo e=>by rw[k1] at e; cases e; exact q1,λy4 k9=>?_⟩
   exact ⟨_,Z,Ln (t':=O.toks) (fp:=[s3.heap.objs.size]) j8 (λb o D e=>(k9.2 b (λz=>D (by rw[z]; exact Ab))).trans e) (λb D=>by rw[Al.mp D]; exact fC),qn⟩
  ·have q5:=T.item X' eP eW eK eC i [] s6 _ H6 (λ_ _=>False) I6 (B k5) k2 go
   rw[eA] at q5
   refine Fp q5 λr s7 c => ?_
   obtain ⟨u,hr,h7⟩ := c
   subst hr
   refine Fp h7 λ_ s8 c => ?_
   obtain ⟨y,H8,I8,r8,y8,h3,x6⟩ := c
   have q8:=I8.pinned (B x6) (T.obj _ _ h3)
   obtain ⟨tp,w1,w2,ey,x8,N1,N2,j5,j1,j2⟩:=step y H8 y8
   have again:∀{Z:Hp} {O:Ah} {m':Nat},Inv X' ([]++Oh fp s8.heap) (some w1::some w2::Ef l V) Z O->m'<n->W (i+1) m' Z->∃m,m<n/\∃i o o2 g,Inv X' [] (o::o2::Ef l V) g O/\tn i O.heap/\(∀b∈fp,g b=none)/\W i m g:=λ{Z O m'} P hm w9=>by
    refine ⟨m',hm,i+1,some w1,some w2,Z,P.unpinned,T.keep _ _ _ h3 λb D o e=>(P.pin (b,o) (Ag _ (Ag _ (Fl D e)))).1,λb D=>?_,w9⟩
    obtain ⟨o,e,_⟩:=T.obj _ _ h3 b D
    exact (P.pin (b,o) (Ag _ (Ag _ (Fl D e)))).2.1
   subst L
   have g1:PG (Cw X a G (x::j::ys) fp s3 (upd H2 f.heap.objs.size (.lst []))) (.Tuple [.Name x px,.Name j k] kt pt) (C7 X.K 2 (Yz (Pt 0) (Yz (Pt 1) J0))) :=
    dQ (X:=Cw X a G (x::j::ys) fp s3 (upd H2 f.heap.objs.size (.lst []))) hc (Mo (Jy (i:=0) (x:=x) h9 rfl (Mn C.own) (Pp C.own)) (Mo (Jy (i:=1) (x:=j) h9 rfl (Mn R) (Pp R)) Xz))
   refine Fp (g1 _ s8 _ H8 y u (λh5 g=>h5=some w1::some w2::Ef l V/\g=H8) q8 r8 ⟨tp,[w1,w2],ey,x8,rfl,_,_,rfl,_,_,rfl,rfl,rfl,rfl⟩) λ_ O c => ?_
   obtain ⟨x4,Z,P,e9,h0⟩ := c
   subst e9 h0
   refine Fp (ht fp s3 _ _ O _ _ _ P j2) λok j6 c => ?_
   obtain ⟨y7,k0,M⟩ := c
   cases ok with
   | false =>
    rw[if_neg Bs] at M ⊢
    obtain ⟨m',hm,x5⟩:=j5 _ M
    exact again k0 hm x5
   | true =>
    rw[if_pos rfl] at M ⊢
    refine Fp (he fp s3 _ _ j6 _ _ _ k0 M) λz x7 c => ?_
    obtain ⟨vz,h8,j9,j4,q9⟩ := c
    obtain ⟨h6,ha,hz,m',hm,q7⟩:=j1 _ _ q9
    refine Fp (Pc _ x7 _ h8 (.ref f.heap.objs.size) [vz] (.ref f.heap.objs.size) [z] (λ_ g=>g=upd h8 f.heap.objs.size (.lst (h6++[vz]))) j9 rfl (.cons j4 .nil) ⟨_,h6,vz,rfl,rfl,ha,hz,rfl⟩) λ_ y3 c => ?_
    obtain ⟨_,y5,y1,_,j3⟩ := c
    subst j3
    exact again y1 hm q7
 exact Kv (S _ rfl) (T.self X.A 0 _ _ _ k4 (S _ rfl))
end
end Nd
namespace DL
open PySem L2 Nd
def al(e:Ent):Ent:=match e.x with
 | .dat m d=>⟨e.v,.dat (kI m) d,e.F⟩
 | .val _=>e
 | .scr _=>e
 | _=>⟨e.v,.un,[]⟩
def alD:DV->DV
 | .dat m d=>.dat (kI m) d
 | .val v=>.val v
 | .scr a=>.scr a
 | _=>.un
def B9(S:List Ent)(j:Nat):Ent:=match S[j]? with
 | some e=>al e
 | none=>⟨none,.un,[]⟩
def gB(S:List Ent)(a:List Nat):List Ent:=a.map (B9 S)
def frD1(a:List DV)(j:Nat):DV:=match a[j]? with
 | some x=>alD x
 | none=>.un
def frD(a:List DV)(b:List Nat):List DV:=b.map (frD1 a)
theorem KM(e:Ent):(al e).v=e.v:=by
 obtain ⟨v,x,F⟩:=e
 cases x <;> rfl
theorem KO(e:Ent):(al e).x=alD e.x:=by
 obtain ⟨v,x,F⟩:=e
 cases x <;> rfl
theorem qR(S:List Ent)(a:List Nat):vs (gB S a)=Ef (vs S) a:=by
 unfold vs gB Ef
 rw[Cr]
 refine Pz λj _=>?_
 rw[Bg]
 simp only[Function.comp,B9]
 cases S[j]? with
 | none=>rfl
 | some e=>exact KM e
theorem oM{S:List Ent}{a:DS}(h:Sl S a)(b:List Nat):(gB S b).map Ent.x=frD a.sl b:=by
 unfold Sl at h
 unfold gB frD
 rw[Cr]
 refine Pz λj _=>?_
 simp only[Function.comp,B9,frD1]
 rw[<- h,Bg]
 cases S[j]? with
 | none=>rfl
 | some e=>exact KO e
section
variable{K:PySem.W.Frag}{g H i:Hp}{X:Addr->Prop}{n:Nat}{E S T:List Ent}
theorem oY(e:Ent):cells (al e)=[]:=by
 obtain ⟨v,x,F⟩:=e
 cases x with
 | dat m d=>cases m <;> rfl
 | _=>rfl
theorem At.view1(h:At K g X n E H){e:Ent}(c:e∈E):At K g X n (al e::E) H:=by
 refine h.push ?_ (λf j=>⟨λ_ a b=>(by rw[oY] at b; cases b),λhq a b z=>?_⟩) λa b=>(by rw[oY] at b; cases b)
 ·have:=h.ok e c
  obtain ⟨v,x,F⟩:=e
  cases x with
  | dat m d =>
   obtain ⟨w,l,i,_⟩:=this
   exact ⟨w,l,i,λz=>(by cases m <;> cases z),λz=>(by cases m <;> cases z)⟩
  | val v=>exact this
  | scr k=>exact this
  | _=>exact (rfl:([]:List Addr)=[])
 ·obtain ⟨v,x,F⟩:=e
  cases x with
  | dat m d =>
   rcases sD h c j with rfl | q
   ·rcases hq with hq | hq
    ·cases m <;> first | cases hq; done | exact nomatch b
    ·cases hq
   ·refine q.2 ?_ a b z
    rcases hq with hq | hq
    ·refine .inl ?_
     cases m <;> first | rfl | exact hq
    ·exact .inr hq
  | val v =>
   rw[show F=[] from (h.ok _ c).2] at z
   cases z
  | scr k =>
   obtain ⟨_,_,o,_⟩:=h.ok _ c
   rw[show F=[] from o] at z
   cases z
  | _=>exact nomatch z
theorem At.blank(h:At K g X n E H){v:Option V}:At K g X n (⟨v,.un,[]⟩::E) H :=
 h.push (rfl:([]:List Addr)=[]) (λf _=>⟨λ_ a b=>(nomatch b),λ_ a _=>Az⟩) (λa b=>(nomatch b))
theorem At.view(h:At K g X n E H)(c:∀e∈S,e∈E):∀a:List Nat,At K g X n (gB S a++E) H
 | []=>h
 | j::a=>by
  have b:=At.view h c a
  show At K g X n (B9 S j::(gB S a++E)) H
  unfold B9
  cases e:S[j]? with
  | none=>exact b.blank
  | some x=>exact b.view1 (Ag _ (c x (Bp e)))
theorem At.accNew(h:At K g X n E H){D:Addr}(c:H D=Re):At K g X n (⟨some (.ref D),.acc [],[D]⟩::E) (upd H D (.lst [])):=by
 have i:=Ff c (.lst [])
 refine (h.grow (n':=n) i (Aj _)).push ⟨D,[],[],rfl,rfl,Du,.nil,Do _,Az⟩ (λf e=>?_) λa b=>?_
 ·have d:=h.free c f e
  refine ⟨λ_ a b z=>?_,λ_ a b z=>?_⟩
  ·rw[Al.mp b] at z
   exact d z
  ·rw[Al.mp z] at b
   exact d (Ht _ _ b)
 ·rw[Al.mp b]
  exact .inl (h.new0 c)
theorem At.accPutG{D:Addr}{ds:List Af}{v:V}{m:Md}{e:Af}{F G:List Addr}(h:At K g X n (⟨some (.ref D),.acc ds,D::G⟩::⟨some v,.dat m e,F⟩::E) H)(L:m≠.pk)(hz:ds.length+1<=Ay):∃xs,H D=some (.lst xs)/\xs.length=ds.length/\At K g X n (⟨some (.ref D),.acc (ds++[e]),D::(G++F)⟩::E) (upd H D (.lst (xs++[v]))):=by
 obtain ⟨a,xs,O,N,C,A,u,_,x⟩:=h.ok _ Ab
 have t:some (V.ref D)=some (V.ref a):=N
 cases t
 have s:D::G=D::O:=C
 cases s
 have r:RdF K H v e F:=h.told (Ac _ Ab)
 have i:=Bd.mp h.sep
 have j:=Bd.mp i.2
 have p:=(h.sub (Dm _ _)).sub (Dm _ _)
 have npk:Tj (.dat m e)=false:=by cases m <;> first | rfl | exact absurd rfl L
 have y:D∉F:=(i.1 _ Ab).1 (.inr rfl) D Ab
 have kp:∀{F:List Addr},D∉F->Kp F H (upd H D (.lst (xs++[v]))):=λ{F} P b o q z=>by
  have : b≠D:=by
   rintro rfl
   rw[A] at q
   cases q
   rcases z with z | z
   ·exact P z
   ·rcases z with ⟨_,z⟩ | ⟨_,_,z⟩ <;> cases z
  rw[Ek this]
  exact q
 have l:g D=Re:=by
  rcases h.new _ Ab D Ab with z | z
  ·exact z
  ·cases z.2
 refine ⟨xs,A,u.len,?_⟩
 refine ⟨λf hf=>?_,?_,λf hf=>?_,λb o M q=>?_,λb o q=>?_,λb B=>?_⟩
 rotate_right
 ·obtain ⟨z,c,k,f,p,J⟩:=h.xd b B
  refine ⟨z,c,k,f,(Ek ?_).trans p,J⟩
  rintro rfl
  exact z l
 ·rcases Ak.mp hf with rfl | hf
  ·exact ⟨D,xs++[v],G++F,rfl,rfl,Du,(u.kp (kp x)).snoc (r.kp (kp y)),by rw[Bm]; exact hz,λz=>(Bc.mp z).elim x y⟩
  ·exact (p.ok f hf).kp (kp ((i.1 f (Ac _ hf)).1 (.inr rfl) D Ab)) (Aj _)
 ·refine Bd.mpr ⟨λf hf=>⟨λI a d=>(i.1 f (Ac _ hf)).1 (.inr rfl) a d,λI a d z=>?_⟩,j.2⟩
  have w:=(i.1 f (Ac _ hf)).2 (.inl rfl) a d
  rcases Ak.mp z with z | z
  ·exact w (z▸Ab)
  ·rcases Bc.mp z with z | z
   ·exact w (Ac _ z)
   ·exact (j.1 f hf).2 (.inl npk) a d z
 ·rcases Ak.mp hf with rfl | hf
  ·intro a d
   rw[Al.mp d]
   exact .inl l
  ·exact p.new f hf
 ·rw[Ek (Gw q l)]
  exact h.same b o M q
 ·rw[Ek (Gw q l)]
  exact h.dom b o q
theorem At.accPut{D:Addr}{ds:List Af}{v:V}{e:Af}(h:At K g X n (⟨some (.ref D),.acc ds,[D]⟩::E) H)(r:RdF K H v e [])(hz:ds.length+1<=Ay):∃xs,H D=some (.lst xs)/\xs.length=ds.length/\At K g X n (⟨some (.ref D),.acc (ds++[e]),[D]⟩::E) (upd H D (.lst (xs++[v]))) :=
 At.accPutG (m:=.ow) (At.pushI (S:=[⟨some (.ref D),.acc ds,[D]⟩]) h r) (by decide) hz
def Te:Bool->Md
 | true=>.ow
 | false=>.tp
theorem At.accGetG{D:Addr}{ds:List Af}{b:Bool}{G:List Addr}(h:At K g X n (⟨some (.ref D),.acc ds,D::G⟩::E) H)(hb:b=true->G=[]):At K g X n (⟨some (.ref D),.dat (Te b) (.list ds),D::G⟩::E) H:=by
 obtain ⟨a,w,v,s,p,t,q,u,o⟩:=h.ok _ Ab
 have i:some (V.ref D)=some (V.ref a):=s
 cases i
 have d:D::G=D::v:=p
 cases d
 have k:=Bd.mp h.sep
 have m:∀a∈cells ⟨some (.ref D),.dat (Te b) (.list ds),D::G⟩,a=D:=λa c=>by
  cases b with
  | true=>rw[hb rfl] at c; exact Al.mp c
  | false=>exact Al.mp c
 refine (h.sub (Dm _ _)).push ⟨_,rfl,.lst t u q,λz=>?_,λ_ a l e=>?_⟩ (λf j=>⟨λr a c=>?_,λr a c=>(k.1 f j).2 (.inl rfl) a c⟩) λa c=>?_
 ·cases b with
  | true=>rw[hb rfl]; exact Cm.mpr ⟨Az,Ep⟩
  | false=>cases z
 ·have e:D::G=a::l:=e
  cases e
  exact o
 ·rw[m a c]
  exact (k.1 f j).1 (.inr rfl) D Ab
 ·rw[m a c]
  rcases h.new _ Ab D Ab with z | z
  ·exact .inl z
  ·cases z.2
end
def Np:DT:=λa P=>P true a
def EO(b:Bool)(m:Md)(e:Af):Prop:=match b with
 | true=>imm e=true
 | false=>m≠.pk
def Lz(b:Bool)(dc:DT)(g:DE)(h:DS)(f:Af->Nat->Prop)(i:Nat->Prop):Prop:=dc h λc a=>match c with
 | true=>g a λy d=>match y with
  | .dat m e=>EO b m e/\f e d.n
  | _=>False
 | false=>i a.n
def w8(b:Bool)(h:DI)(k:List Nat)(dc:DT)(j:DE):DE:=λl P=>h l λm g c=>∃I:Nat->List Af->Nat->Prop,I 0 [] c.n /\
 (∀i d a n,g[i]? = some d->I i a n->Lz b dc j ⟨.dat m d::frD c.sl k,n⟩ (λe f=>I (i+1) (a++[e]) f) (λf=>I (i+1) a f)) /\
 ∀a n,I g.length a n->P (.dat (Te b) (.list a)) ⟨c.sl,n⟩
def uY(b:Bool)(k:DI)(o:List Nat)(dc:DT)(l:DE):DE:=λp P=>k p λm g c=>∃I:Nat->List Af->Nat->Prop,I 0 [] c.n /\
 (∀i d a n,g[i]? = some d->I i a n->∃h j,d=.tuple [h,j]/\Lz b dc l ⟨.dat m h::.dat m j::frD c.sl o,n⟩ (λe f=>I (i+1) (a++[e]) f) (λf=>I (i+1) a f)) /\
 ∀a n,I g.length a n->P (.dat (Te b) (.list a)) ⟨c.sl,n⟩
def Pk:DT->DE->DS->(Af->Nat->Prop)->(Nat->Prop)->Prop:=Lz true
def F8:DI->List Nat->DT->DE->DE:=w8 true
def sH:DI->List Nat->DT->DE->DE:=uY true
section
variable{K:PySem.W.Frag}{f H g:Hp}{Y:Addr->Prop}{n:Nat}{E S T:List Ent}
theorem Zb{b:Bool}{dc:DT}{u:DE}{l:DS}{k:Af->Nat->Prop}{w:Nat->Prop}{D:Addr}{G:List Addr}{a:List Af}{N1:Hp->Prop}{N2:VK}(C:Sl S l)(hb:b=true->G=[])(A:At K f Y l.n (S++⟨some (.ref D),.acc a,D::G⟩::T) H)(h:Lz b dc u l k w)(hz:a.length+1<=Ay)(k1:∀n' g,At K f Y n' (⟨some (.ref D),.acc a,D::G⟩::T) g->w n'->N1 g)(k2:∀e n' v g x,(b=true->x=[])->(∃xs,g D=some (.lst xs)/\xs.length=a.length/\At K f Y n' (⟨some (.ref D),.acc (a++[e]),D::x⟩::T) (upd g D (.lst (xs++[v]))))->k e n'->N2 v g):LT K dc (vs S) H λc p=>if c=true then LE K u (vs S) p N2 else N1 p:=by
 refine ⟨f,Y,S,⟨some (.ref D),.acc a,D::G⟩::T,l,_,rfl,C,A,h,λc q I p E B j t=>?_⟩
 cases c with
 | false=>exact tJ (k1 _ _ (j.sub (Bu _ _)) t)
 | true =>
  refine rK ⟨f,Y,I,⟨some (.ref D),.acc a,D::G⟩::T,q,_,E,B,j,t,λy s v F M J N L d i=>?_⟩
  split at i
  ·rename_i m e
   have r:=d.told mem_mid
   cases b with
   | true =>
    obtain rfl:=r.imm i.1
    obtain rfl:=hb rfl
    exact k2 _ _ _ _ [] (λ_=>rfl) ((d.drop.sub (Bu _ _)).accPut r hz) i.2
   | false =>
    have o:At K f Y s.n (⟨some v,.dat m e,F⟩::⟨some (.ref D),.acc a,D::G⟩::T) J:=d.sub (Bu _ _)
    exact k2 _ _ _ _ (G++F) (λz=>nomatch z) ((o.perm (Ej _ _ _)).accPutG i.1 hz) i.2
  ·exact i.elim
theorem aH{dt:TT}:∀a H Q,LT K Np a H Q->Sh a H Q:=by
 intro a H Q h
 obtain ⟨f,Y,S,T,c,P,rfl,b,d,e,k⟩:=h
 exact k true c S H rfl b d e
theorem qT.imp{X:Cx}{e:List Expr}{t t':TT}(h:qT X e t)(k:∀b H Q,t' b H Q->t b H Q):qT X e t':=λa s b H Q I q=>h a s b H Q I (k b H Q q)
theorem vX{b:Bool}{di:DI}{s:List Nat}{dc:DT}{Z:DE}:∀U H Q,LE K (w8 b di s dc Z) U H Q->vH (LI K di) s (LT K dc) (LE K Z) U H Q:=by
 intro U H Q h
 obtain ⟨f,Y,S,T,δ,P,rfl,hS,hA,hd,k⟩:=h
 refine ⟨f,Y,S,T,δ,_,rfl,hS,hA,hd,λm r z J l j H1 e1 X R it hz p1=>?_⟩
 obtain ⟨I,h0,hs,hf⟩:=p1
 rw[<- e1]
 intro D hD
 refine ⟨λi q H=>q=r.length - i/\i<=r.length/\∃a n G,(b=true->G=[])/\At K f Y n (⟨some (.ref D),.acc a,D::G⟩::(j++(l++T))) H/\a.length<=i/\I i a n,⟨r.length,by simp,Do _,[],z.n,[],λ_=>rfl,R.accNew hD,Aj _,h0⟩,?_⟩
 (intro i q H q_; obtain ⟨rfl,hi,a,n,G,E,t,hl,hI⟩ := q_)
 have c:∀e∈l,Iu K H n e:=λe L=>t.ok e (Ac _ (Ag _ (Ao _ L)))
 by_cases o:i<r.length
 ·refine .inr ⟨it.go H n i c o,λx g y=>?_⟩
  obtain ⟨s1,d,F,h1,h2,h3⟩:=it.yld H n i x g c o y
  have A:At K f Y n ((⟨some (.ref D),.acc a,D::G⟩::j)++⟨some x,.dat m d,F⟩::(l++T)) g:=At.item (S:=⟨some (.ref D),.acc a,D::G⟩::j) t s1 h2 h3 it.md it.hd it.np
  have u:=A.mid
  have V:=At.view (S:=j) u (λe L=>Ac _ (Ao _ (Ac _ L))) s
  have C:At K f Y n ((⟨some x,.dat m d,F⟩::gB j s)++⟨some (.ref D),.acc a,D::G⟩::(j++(l++T))) g:=V.mid
  have B:Sl (⟨some x,.dat m d,F⟩::gB j s) ⟨.dat m d::frD z.sl s,n⟩:=by
   unfold Sl
   rw[Ap,oM X]
  have hv:vs (⟨some x,.dat m d,F⟩::gB j s)=some x::Ef (vs j) s:=by
   rw[<- qR]
   rfl
  refine ⟨λN=>∃W,W<r.length - i/\_,λy H3=>∃a,H3 D=some (.lst a)/\a.length<Ay/\∃W,W<r.length - i/\_,λN q=>q,λy H3 q=>q,?_⟩
  rw[<- hv]
  refine Zb B E C (hs i d a n h1 hI) (by omega) (λM N w p=>?_) (λe M v N G' O w p=>?_)
  ·exact ⟨r.length - (i+1),by omega,rfl,o,a,M,G,E,w,by omega,p⟩
  ·obtain ⟨xs,g1,g2,g3⟩:=w
   exact ⟨xs,g1,by omega,r.length - (i+1),by omega,rfl,o,a++[e],M,G',O,g3,by rw[Bm]; simp; omega,p⟩
 ·have e:i=r.length:=by omega
  subst e
  refine .inl ⟨it.stop H n c,k _ ⟨z.sl,n⟩ _ (D::G) j H e1 X ?_ (hf a n hI)⟩
  have A:=t.accGetG E
  have u:At K f Y n (⟨some (.ref D),.dat (Te b) (.list a),D::G⟩::(j++T)) H:=A.sub (((Co j).append (Bu l T)).cons₂ _)
  exact u.tomid
theorem oG{b:Bool}{di:DI}{w:List Nat}{dc:DT}{de:DE}:∀σ H Q,LE K (uY b di w dc de) σ H Q->lP K (LI K di) w (LT K dc) (LE K de) σ H Q:=by
 intro σ H Q h
 obtain ⟨f,Y,S,T,δ,P,rfl,hS,hA,hd,k⟩:=h
 refine ⟨f,Y,S,T,δ,_,rfl,hS,hA,hd,λm u N J l o H1 e1 e2 h7 it hz p1=>?_⟩
 obtain ⟨I,h0,hs,hf⟩:=p1
 rw[<- e1]
 intro D hD
 refine ⟨λi q H=>q=u.length - i/\i<=u.length/\∃c n G,(b=true->G=[])/\At K f Y n (⟨some (.ref D),.acc c,D::G⟩::(o++(l++T))) H/\c.length<=i/\I i c n,⟨u.length,by simp,Do _,[],N.n,[],λ_=>rfl,h7.accNew hD,Aj _,h0⟩,?_⟩
 (intro i q H q_; obtain ⟨rfl,hi,c,n,G,hG,B,hl,hI⟩ := q_)
 have j:∀e∈l,Iu K H n e:=λe he=>B.ok e (Ac _ (Ag _ (Ao _ he)))
 by_cases r:i<u.length
 ·refine .inr ⟨it.go H n i j r,λx g y=>?_⟩
  obtain ⟨s1,d,F,h1,h2,h3⟩:=it.yld H n i x g j r y
  obtain ⟨A,U,rfl,h8⟩:=hs i d c n h1 hI
  obtain ⟨t,Z,rfl,ht,X,_⟩:=h2.tup_inv
  cases X with
  | @cons s _ Z _ O _ r1 X =>
   cases X with
   | @cons E _ Z _ W G r2 X =>
    cases X
    have R:At K f Y n ((⟨some (.ref D),.acc c,D::G⟩::o)++⟨some s,.dat m A,O⟩::(l++T)) g:=At.item (S:=⟨some (.ref D),.acc c,D::G⟩::o) B s1 r1 (λa ha=>h3 a (Ao _ ha)) it.md it.hd it.np
    have V:At K f Y n ((⟨some s,.dat m A,O⟩::⟨some (.ref D),.acc c,D::G⟩::o)++(l++T)) g:=R.mid
    have M:At K f Y n ((⟨some s,.dat m A,O⟩::⟨some (.ref D),.acc c,D::G⟩::o)++⟨some E,.dat m U,W⟩::(l++T)) g:=At.item V (To.refl _) r2 (λa ha=>h3 a (Ag _ (Ao _ ha))) it.md it.hd it.np
    have C:At K f Y n (⟨some s,.dat m A,O⟩::⟨some E,.dat m U,W⟩::⟨some (.ref D),.acc c,D::G⟩::(o++(l++T))) g:=M.mid.perm (Ej _ _ _)
    have h9:=At.view (S:=o) C (λe he=>Ac _ (Ac _ (Ac _ (Ao _ he)))) w
    have h5:At K f Y n ((⟨some s,.dat m A,O⟩::⟨some E,.dat m U,W⟩::gB o w)++⟨some (.ref D),.acc c,D::G⟩::(o++(l++T))) g:=by
     have z:=h9.mid
     refine z.perm ?_
     exact (Ea).cons _
    have h4:Sl (⟨some s,.dat m A,O⟩::⟨some E,.dat m U,W⟩::gB o w) ⟨.dat m A::.dat m U::frD N.sl w,n⟩:=by
     unfold Sl
     rw[Ap,Ap,oM e2]
    have hv:vs (⟨some s,.dat m A,O⟩::⟨some E,.dat m U,W⟩::gB o w)=some s::some E::Ef (vs o) w:=by
     rw[<- qR]
     rfl
    refine ⟨t,s,E,rfl,Ru.of ht,λH2=>∃m',m'<u.length - i/\_,λy H3=>∃c,H3 D=some (.lst c)/\c.length<Ay/\∃m',m'<u.length - i/\_,λH2 q=>q,λy H3 q=>q,?_⟩
    rw[<- hv]
    refine Zb h4 hG h5 h8 (by omega) (λn' H2 L p=>?_) (λe n' v H2 G' h6 L p=>?_)
    ·exact ⟨u.length - (i+1),by omega,rfl,r,c,n',G,hG,L,by omega,p⟩
    ·obtain ⟨Z,g1,g2,g3⟩:=L
     exact ⟨Z,g1,by omega,u.length - (i+1),by omega,rfl,r,c++[e],n',G',h6,g3,by rw[Bm]; simp; omega,p⟩
 ·have e:i=u.length:=by omega
  subst e
  refine .inl ⟨it.stop H n j,k _ ⟨N.sl,n⟩ _ (D::G) o H e1 e2 ?_ (hf c n hI)⟩
  have R:=B.accGetG hG
  have C:At K f Y n (⟨some (.ref D),.dat (Te b) (.list c),D::G⟩::(o++T)) H:=R.sub (((Co o).append (Bu l T)).cons₂ _)
  exact C.tomid
end
section
variable{X:Cx}{d iter c:Expr}{x f p:Str}{k j pt r pos e:Pos}{q i0:Nat}{b:List Expr}{a:Scope}{g:List (Str×Addr)}{ys:List Str}{n:List Nat}{l:DI}{dc:DT}{m:DE}
theorem Jf:qT X [] (LT X.K Np):=qT.imp j3 (aH (dt:=Sh))
theorem lA(h:nO X c dc):qT X [c] (LT X.K dc):=R3 h
theorem Nm(C:CompScope X a g x ys n)(f:X.calm=true)(h:sM X (.Name x k) iter l)(e:∀fp s H,qT (Cw X a g (x::ys) fp s H) b (LT X.K dc))(c:∀fp s H,Gq (Cw X a g (x::ys) fp s H) d m)(i:∀x,Dc iter X.env x=pure x:=by intro _; rfl):Gq X (.ListComp d [⟨.Name x k,iter,b,0⟩] a pos) (F8 l n dc m):=PE.imp (T6 C f h e c i) vX
theorem eI(C:CompScope X a g x ys n)(c:aM a f)(e:(x::f::ys).Nodup)(o:X.calm=true)(p:sM X (.Tuple [.Name x k,.Name f j] q pt) iter l)(i:∀fp s H,qT (Cw X a g (x::f::ys) fp s H) b (LT X.K dc))(h:∀fp s H,Gq (Cw X a g (x::f::ys) fp s H) d m)(r:∀x,Dc iter X.env x=pure x:=by intro _; rfl):Gq X (.ListComp d [⟨.Tuple [.Name x k,.Name f j] q pt,iter,b,0⟩] a pos) (sH l n dc m):=PE.imp (w4 C c e o p i h r) oG
def JF(o:Bool)(i:Nat):DG:=match o with
 | true=>pB i
 | false=>Sq i
theorem HV{K:PySem.W.Frag}{o:Bool}{i:Nat}:∀v a H Q,LG K (JF o i) v a H Q->Pt i v a H Q:=by
 cases o with
 | true=>exact E1
 | false=>exact lG
theorem W6{o:Bool}(v:X.N.Nodup)(c:X.N[i0]? = some p)(h:X.env.scope.names.lookup p=some .local)(C:CompScope X a g x ys n)(q:X.calm=true)(t:sM X (.Name x k) iter l)(j:∀fp s H,qT (Cw X a g (x::ys) fp s H) b (LT X.K dc))(i:∀fp s H,Gq (Cw X a g (x::ys) fp s H) d m)(u:∀x,Dc iter X.env x=pure x:=by intro _; rfl)(f:Oa (.ListComp d [⟨.Name x k,iter,b,0⟩] a pos) (some (.Name p r)) e.line X.env=pure true:=by rfl):zO X (.Assign [.Name p r] (.ListComp d [⟨.Name x k,iter,b,0⟩] a pos) e) (xE (F8 l n dc m) (JF o i0)):=PS.impD (W9 v c h C q t j i u f) (jU vX HV)
theorem L7{o:Bool}(B:X.N.Nodup)(h:X.N[i0]? = some p)(u:X.env.scope.names.lookup p=some .local)(C:CompScope X a g x ys n)(c:aM a f)(i:(x::f::ys).Nodup)(y:X.calm=true)(z:sM X (.Tuple [.Name x k,.Name f j] q pt) iter l)(w:∀fp s H,qT (Cw X a g (x::f::ys) fp s H) b (LT X.K dc))(v:∀fp s H,Gq (Cw X a g (x::f::ys) fp s H) d m)(A:∀x,Dc iter X.env x=pure x:=by intro _; rfl)(t:Oa (.ListComp d [⟨.Tuple [.Name x k,.Name f j] q pt,iter,b,0⟩] a pos) (some (.Name p r)) e.line X.env=pure true:=by rfl):zO X (.Assign [.Name p r] (.ListComp d [⟨.Tuple [.Name x k,.Name f j] q pt,iter,b,0⟩] a pos) e) (xE (sH l n dc m) (JF o i0)):=PS.impD (j7 B h u C c i y z w v A t) (jU oG HV)
end
end DL
namespace DL
open PySem PySem.Spec PyProof.Rows L2 Nd
section
variable{K:PySem.W.Frag}{g H i:Hp}{X:Addr->Prop}{n n':Nat}{E S T:List Ent}
theorem At.pushF(h:At K g X n E H){v:V}{d:Af}{F:List Addr}(r:RdF K H v d F)(nd:F.Nodup)(c:∀a∈F,∀f∈E,a∉f.F)(i:∀a∈F,g a=none):At K g X n (⟨some v,.dat .ow d,F⟩::E) H:=by
 refine h.push ⟨v,rfl,r,λ_=>nd,λz=>nomatch z⟩ (λf e=>⟨λ_ a b z=>c a b f e z,λ_ a b z=>c a z f e (Ht _ _ b)⟩) λa b=>.inl (i a b)
theorem At.drawn(h:At K g X n E H){e:Ent}{a:Addr}(u:e∈E)(N:e.x=.drw)(M:e.v=some (.ref a))(s:aW a H i)(hd:∃c k f,nJ i a c k f/\0<=k/\k<=(n':Int))(L:n<=n'):At K g X n' E i:=by
 obtain ⟨v,x,F⟩:=e
 have w:x=.drw:=N
 subst w
 obtain ⟨A,R,S,T,m,Q,r,_⟩:=h.ok _ u
 have P:some (V.ref a)=some (V.ref A):=M.symm.trans m
 cases P
 have y:F=[a]:=Q
 subst y
 refine ⟨λf D=>?_,h.sep,h.new,λb o I q=>?_,λb o q=>?_,λb d=>?_⟩
 rotate_right
 ·obtain ⟨z,c,k,f,p,t,J⟩:=h.xd b d
  by_cases l:b=a
  ·subst l
   exact ⟨z,hd⟩
  ·exact ⟨z,c,k,f,s _ _ l p,t,by omega⟩
 ·rcases sD h u D with rfl | q
  ·obtain ⟨c,k,G,p,t,J⟩:=hd
   exact ⟨a,c,k,G,m,rfl,p,t,J⟩
  ·have O:a∉f.F:=q.1 (.inr rfl) a Ab
   refine (h.ok f D).kp (λb o C z=>?_) L
   by_cases d:b=a
   ·subst d
    rcases z with z | z
    ·exact absurd z O
    ·have j:H b=some (.lst _):=r
     rw[C] at j
     cases j
     rcases z with ⟨_,z⟩ | ⟨_,_,z⟩ <;> cases z
   ·exact s b o d C
 ·have d:b≠a:=by
   rintro rfl
   rcases h.new _ u b Ab with z | z
   ·rw[z] at q; cases q
   ·exact I z.1
  exact s b o d (h.same b o I q)
 ·by_cases d:b=a
  ·subst d
   obtain ⟨c,k,G,p,_⟩:=hd
   exact ⟨_,p⟩
  ·obtain ⟨B,z⟩:=h.dom b o q
   exact ⟨B,s b B d z⟩
end
abbrev PF:=List Af->(Af->Prop)->Prop
abbrev DF:=List Af->Nat->(Af->Nat->Prop)->Prop
def Sv(K:PySem.W.Frag)(h:PF):Sp:=λg H Q _=>∃(c:List Ent) (n:Nat) (f:List Af) (R:Af->Prop),c.map Ent.v=g.map some/\(∀e∈c,Iu K H n e)/\datas (c.map Ent.x)=some f/\h f R /\
 ∀v d F b,R d->RdF K b v d F->F.Nodup->(∀a∈F,H a=none)->To H b->Q v b
def cU(K:PySem.W.Frag)(m:DF):Sp:=λo H Q _=>∃(b:Addr) (j:List V) (h:List Ent) (n:Nat) (l:List Af) (R:Af->Nat->Prop),o=.ref b::j/\h.map Ent.v=j.map some/\(∀e∈h,Iu K H n e)/\(∀e∈h,b∉e.F)/\(∃c k f,nJ H b c k f/\0<=k/\k<=(n:Int))/\datas (h.map Ent.x)=some l/\m l n R /\
 ∀v d F i g,n<=i->R d i->RdF K g v d F->F.Nodup->(∀a∈F,H a=none)->(∃c k f,nJ g b c k f/\0<=k/\k<=(i:Int))->aW b H g->Q v g
def B8(g:PF)(b:DA):DE:=λe P=>b e λf a=>match datas f with
 | some c=>g c λd=>P (.dat .ow d) a
 | none=>False
def sZ(i:Nat)(e:DF)(c:DA):DE:=λb P=>match b.sl[i]? with
 | some .drw=>c b λh a=>match a.sl[i]? with
  | some .drw=>match datas h with
   | some f=>e f a.n λd g=>P (.dat .ow d) ⟨a.sl,g⟩
   | none=>False
  | _=>False
 | _=>False
section
variable{X:Cx}{CX:yG}{k:Nat}{f:Addr}{g:Cs}{ps:List Str}{j:PF}{m:DF}{E:XK}{x:Str}{p pos:Pos}{e l:Expr}{es:List Expr}{b:DA}
theorem Fq(F:FnOk X.prog X.w X.K X.mg X.base CX k f g ps (Sv X.K j))(O:Room k X.A)(hg:Gl X x)(M:X.mg x=some (.ref f))(C:PySem.W.keepIn X.K (.ref f)=true)(hb:Binds X.K g ps [])(N:Ss CX X E)(l:mI X (e::es) b)(m:(x == ("__debug__" : Str))=false:=by decide)(o:Bj (e::es) X.env=(false,eval e X.env)::Bj es X.env:=by rfl)(t:(Hg pos (Bj es X.env)).any (·.1)=false:=by rfl):Gq X (.Call (.Name x p) (e::es) [] pos) (B8 j b):=by
 refine PE.imp (cA F O hg M C hb .nil N l m o t) λσ H Q h=>?_
 obtain ⟨H0,Y,S,T,R,P,rfl,U,D,I,J⟩:=h
 refine ⟨H0,Y,S,T,R,_,rfl,U,D,I,λxs i y us B H' e1 G L V c p=>?_⟩
 subst L
 cases q:datas (y.map Ent.x) with
 | none=>rw[q] at p; exact p.elim
 | some Z =>
  rw[q] at p
  rw[Eb]
  refine ⟨y,i.n,Z,_,V,λe o=>c.ok e (Ag _ (Ao _ o)),q,p,λv d F u r rd nd z s=>?_⟩
  exact J _ i v F B u e1 G (((c.dropL.grow s (Aj _)).pushF rd nd (λa l=>c.dropL.free (z a l)) (λa l=>c.new0 (z a l))).tomid) r
theorem FX(F:FnOk X.prog X.w X.K X.mg X.base CX k f g ps (Sv X.K j))(B:Room k X.A)(D:Gl X x)(y:X.mg x=some (.ref f))(C:PySem.W.keepIn X.K (.ref f)=true)(hb:Binds X.K g ps [])(z:Ss CX X E)(l:(x == ("__debug__" : Str))=false:=by decide):Gq X (.Call (.Name x p) [] [] pos) (B8 j AZ):=by
 refine PE.imp (o4 F B D y C hb .nil z l) λJ H Q h=>?_
 obtain ⟨I,Y,S,T,m,P,rfl,q,c,G,u⟩:=h
 show Sv X.K j [] H Q E
 refine ⟨[],m.n,[],_,rfl,λe t=>(nomatch t),rfl,G,λv d F b r rd nd o s=>?_⟩
 exact u _ m v F S b rfl q (((c.grow s (Aj _)).pushF rd nd (λa i=>c.free (o a i)) (λa i=>c.new0 (o a i))).tomid) r
theorem Il{i:Nat}(F:FnOk X.prog X.w X.K X.mg X.base CX k f g ps (cU X.K m))(hr:Room k X.A)(hg:Gl X x)(hm:X.mg x=some (.ref f))(hk:PySem.W.keepIn X.K (.ref f)=true)(hb:Binds X.K g ps [])(hx:Ss CX X E)(h0:PE X l (lC i))(L:mI X es b)(Z:(x == ("__debug__" : Str))=false:=by decide)(B:Bj (l::es) X.env=(false,eval l X.env)::Bj es X.env:=by rfl)(h6:(Hg pos (Bj es X.env)).any (·.1)=false:=by rfl):Gq X (.Call (.Name x p) (l::es) [] pos) (sZ i m b):=by
 refine PE.imp (cA F hr hg hm hk hb .nil hx (Hx h0 L B) Z B h6) λσ H Q h=>?_
 obtain ⟨H0,Y,S,T,δ,P,rfl,hS,hA,M,kk⟩:=h
 unfold sZ at M
 split at M
 case h_2=>exact M.elim
 rename_i J
 have G:∀w,(vs S)[i]? = some (some w)->LA X.K b (vs S) H λxs H2=>cU X.K m ((w::xs)++[]) H2 Q E:=λw N=>by
  refine ⟨H0,Y,S,T,δ,_,rfl,hS,hA,M,λxs I As us O H' e1 e2 ex eu c p=>?_⟩
  subst ex
  split at p
  ·rename_i h1
   obtain ⟨j,D,s2⟩:=Nn e2 h1
   have o:j∈O:=Bp D
   have hv:j.v=some w:=by
    have:=Tc D
    rw[e1,N] at this
    exact (Ca this).symm
   obtain ⟨u,z,F⟩:=j
   have y:z=.drw:=s2
   subst y
   have hE:(⟨u,.drw,F⟩ : Ent)∈O++(As++T):=Ao _ o
   obtain ⟨C,c0,k0,f0,t,h8,U,h4,h2⟩:=c.ok _ hE
   have ew:some w=some (V.ref C):=hv.symm.trans t
   cases ew
   have h5:F=[C]:=h8
   subst h5
   cases q:datas (As.map Ent.x) with
   | none=>rw[q] at p; exact p.elim
   | some ds =>
    rw[q] at p
    rw[Eb]
    refine ⟨C,us,As,I.n,ds,_,rfl,eu,λe B=>c.ok e (Ag _ (Ao _ B)),λe B=>?_,⟨c0,k0,f0,U,h4,h2⟩,q,p,λv d F n' h7 hn r rd nd fr h3 s=>?_⟩
    ·obtain ⟨_,_,hp⟩ := Cy.mp c.sep
     exact (hp _ o e (Ao _ B)).1 (.inr rfl) C Ab
    ·have R:=c.dropL.drawn (Ao _ o) rfl hv s h3 hn
     exact kk _ ⟨I.sl,n'⟩ v F O h7 e1 e2 ((R.pushF rd nd (λa L=>c.dropL.free (fr a L)) (λa L=>c.new0 (fr a L))).tomid) r
  ·exact p.elim
 obtain ⟨j,D,s2⟩:=Nn hS J
 have o:j∈S:=Bp D
 obtain ⟨u,z,F⟩:=j
 have y:z=.drw:=s2
 subst y
 obtain ⟨C,c0,k0,f0,t,_⟩:=hA.ok _ (Ao _ o)
 have N:(vs S)[i]? = some (some (.ref C)):=(Tc D).trans (congrArg some t)
 exact ⟨_,N,G _ N⟩
def Yl:Sp:=λvs H Q _=>∃c:Int,vs=[.int c]/\∀(p:Addr) (b:Int) (f:Bool) (a:Hp),H p=none->nJ a p b 0 f->To H a->Q (.ref p) a
def zY(b:DA):DE:=λc P=>b c λd a=>match d with
 | [.dat _ (.int _)]=>P .drw a
 | _=>False
theorem zT(F:FnOk X.prog X.w X.K X.mg X.base CX k f g ps Yl)(O:Room k X.A)(hg:Gl X x)(M:X.mg x=some (.ref f))(B:PySem.W.keepIn X.K (.ref f)=true)(hb:Binds X.K g ps [])(N:Ss CX X E)(d:mI X (e::es) b)(l:(x == ("__debug__" : Str))=false:=by decide)(I:Bj (e::es) X.env=(false,eval e X.env)::Bj es X.env:=by rfl)(o:(Hg pos (Bj es X.env)).any (·.1)=false:=by rfl):Gq X (.Call (.Name x p) (e::es) [] pos) (zY b):=by
 refine PE.imp (cA F O hg M B hb .nil N d l I o) λσ H Q h=>?_
 obtain ⟨H0,Y,S,T,R,P,rfl,U,C,G,J⟩:=h
 refine ⟨H0,Y,S,T,R,_,rfl,U,C,G,λxs i As us y H' e1 D L V j p=>?_⟩
 split at p
 ·obtain ⟨v,F,rfl,c⟩:=Hw V j L
  obtain ⟨rfl,_⟩:=(c.told mem_mid).int_inv
  refine ⟨_,rfl,λq c' fl r u m s=>?_⟩
  have h3:=c.drop.grow (n':=i.n) s (Aj _)
  refine J _ i _ [q] y r e1 D ((h3.push (e:=⟨some (.ref q),.drw,[q]⟩) ⟨q,_,0,fl,rfl,rfl,m,by decide,by omega⟩ (λf Z=>?_) λa d=>?_).tomid) p
  ·have t:=c.drop.free u f Z
   refine ⟨λ_ a d z=>?_,λ_ a d z=>?_⟩
   ·rw[Al.mp d] at z
    exact t z
   ·rw[Al.mp z] at d
    exact t (Ht _ _ d)
  ·rw[Al.mp d]
   exact .inl (c.new0 u)
 ·exact p.elim
end
def args0(ds:List Af)(k:Nat):List DV:=ds.map (λd=>.dat .sh d)++By k .un
def fU(e:Ent):Ent:=match e.x with
 | .dat _ d=>⟨e.v,.dat .sh d,e.F⟩
 | _=>e
theorem Ly:∀{xs:List DV} {ds:List Af},datas xs=some ds->xs.length=ds.length
 | [],ds,h=>by cases h; rfl
 | x::xs,ds,h=>by
  cases x with
  | dat m d =>
   cases q:datas xs with
   | none=>simp [datas,q] at h
   | some a =>
    simp [datas,q] at h
    subst h
    rw[Bl,Bl,Ly q]
  | _=>cases h
theorem Yh:∀{As:List Ent} {ds:List Af},datas (As.map Ent.x)=some ds->(As.map fU).map Ent.x=ds.map (λd=>.dat .sh d)
 | [],ds,h=>by cases h; rfl
 | ⟨v,x,F⟩::As,ds,h=>by
  rw[Ap] at h
  cases x with
  | dat m d =>
   cases q:datas (As.map Ent.x) with
   | none=>simp [datas,q] at h
   | some a =>
    simp [datas,q] at h
    subst h
    rw[Ap,Ap,Ap,Yh q]
    rfl
  | _=>cases h
theorem aE:∀{As:List Ent} {ds:List Af},datas (As.map Ent.x)=some ds->∀e∈As,∃m d,e.x=.dat m d
 | [],ds,h,e,he=>nomatch he
 | ⟨v,x,F⟩::As,ds,h,e,he=>by
  rw[Ap] at h
  cases x with
  | dat m d =>
   cases q:datas (As.map Ent.x) with
   | none=>simp [datas,q] at h
   | some a =>
    rcases Ak.mp he with rfl | he
    ·exact ⟨m,d,rfl⟩
    ·exact aE q e he
  | _=>cases h
theorem AK(As:List Ent):(As.map fU).map Ent.v=As.map Ent.v:=by
 rw[Cr]
 refine Pz λe _=>?_
 obtain ⟨v,x,F⟩:=e
 cases x <;> rfl
def Jx(k:Nat):List Ent:=By k ⟨none,.un,[]⟩
theorem mB{As:List Ent}{ds:List Af}(q:datas (As.map Ent.x)=some ds)(k:Nat):∀e∈As.map fU++Jx k,cells e=[]/\EL e.x=false:=λe he=>by
 rcases Bc.mp he with he | he
 ·obtain ⟨f,b,rfl⟩:=Dd.mp he
  obtain ⟨m,d,c⟩:=aE q f b
  obtain ⟨v,x,F⟩:=f
  have a:x=.dat m d:=c
  subst a
  exact ⟨rfl,rfl⟩
 ·rw[(Ih.mp he).2]
  exact ⟨rfl,rfl⟩
theorem Ua{c:Type}{R:c->c->Prop}:∀{l:List c},(∀a∈l,∀b∈l,R a b)->l.Pairwise R
 | [],_=>Ei
 | a::l,h=>Bd.mpr ⟨λb e=>h a Ab b (Ac _ e),Ua λx d y f=>h x (Ac _ d) y (Ac _ f)⟩
theorem K4{K:PySem.W.Frag}{H:Hp}{n:Nat}{As:List Ent}{ds:List Af}(q:datas (As.map Ent.x)=some ds)(ok:∀e∈As,Iu K H n e)(k:Nat):∀e∈As.map fU++Jx k,Iu K H n e:=λe he=>by
 rcases Bc.mp he with he | he
 ·obtain ⟨f,b,rfl⟩:=Dd.mp he
  obtain ⟨m,d,g⟩:=aE q f b
  have o:=ok f b
  obtain ⟨v,x,F⟩:=f
  have a:x=.dat m d:=g
  subst a
  obtain ⟨w,h,c,_⟩:=o
  exact ⟨w,h,c,λz=>(nomatch z),λz=>(nomatch z)⟩
 ·rw[(Ih.mp he).2]
  exact (rfl:([]:List Addr)=[])
theorem Qn{b c:Type}(f:b->c)(k:Nat)(a:b):(By k a).map f=By k (f a):=by
 rw[List.map_replicate]
def retE(R:Af->Prop):DEnds where
 nx:=λ_=>R .none
 rt:=λx _=>∃d,x=.dat .ow d/\R d
def retW(n:Nat)(R:Af->Nat->Prop):DEnds where
 nx:=λa=>n<=a.n/\R .none a.n
 rt:=λx a=>n<=a.n/\∃d,x=.dat .ow d/\R d a.n
section
variable{P:Bk}{w:World}{K:PySem.W.Frag}{mg:Str->Option Value}{base:Heap}
theorem Lo{x g:Str}{st:Stmt}{f:Addr}{X:Cs}{N ps:List Str}{k:Nat}{V:PF}{W:DB}(F:Fun K x g st f X)(S:FnScope N ps (Bv st))(hb:∀(i:Value) (A:Ci) (outer:List Env) (s:Ah) (H:Hp) (E:XK),Room k (A.deeper (Th g (Bv st) s.heap.objs.size f i))->dJ (Nc Hu P w K mg base N g (Bv st) f i A outer s H E).nox (Kz st) W)(h:∀ds R,V ds R->ds.length=ps.length/\W (retE R) ⟨args0 ds (N.length - ps.length),0⟩):FnOk P w K mg base Hu (k+1) f X ps (Sv K V):=by
 refine F.ok S (λvs H Q E z=>?_) λi A outer s H us Q E hr z=>?_
 ·obtain ⟨U,n,ds,R,B,ok,q,O,_⟩:=z
  have l1:=(h ds R O).1
  have D:=Ly q
  rw[Ad] at D
  have M:=congrArg Ja B
  rw[Ad,Ad] at M
  omega
 ·obtain ⟨U,n,ds,R,B,ok,q,O,T⟩:=z
  obtain ⟨l1,hd⟩:=h ds R O
  have D:=Ly q
  rw[Ad] at D
  have M:=congrArg Ja B
  rw[Ad,Ad] at M
  refine ⟨_,hb i A outer s H E hr,H,λ_=>False,U.map fU++Jx (N.length - ps.length),[],⟨args0 ds (N.length - ps.length),0⟩,retE R,?_,?_,λ_ z=>(nomatch z),?_,hd,λL C I e1 j p=>?_,λx L v J C I e1 j p=>?_,λ_ _ _ _ _ p=>p.elim,λ_ _ _ _ _ p=>p.elim⟩
  ·unfold vs L2.start Jx
   rw[Bn,AK,B,Qn,show us.length=ps.length by omega]
  ·unfold Sl args0 Jx
   rw[Bn,Yh q,Qn]
  ·rw[Eb]
   have y:=mB q (N.length - ps.length)
   refine ⟨λe t=>?_,Ua λa l b G=>⟨λY c m=>?_,λY c m=>?_⟩,λe t a l=>?_,λb o _ e=>e,λb o e=>⟨o,e⟩,λb hb=>hb.elim⟩
   ·have:=K4 q ok (N.length - ps.length) e t
    obtain ⟨v,x,F⟩:=e
    cases x with
    | drw=>exact absurd (y _ t).2 (by show ¬ (true=false); decide)
    | _=>exact this
   ·rw[(y a l).1] at m; cases m
   ·rw[(y b G).1] at m; cases m
   ·rw[(y e t).1] at l; cases l
  ·exact T .non .none [] I p .non Ep (λ_ z=>(nomatch z)) λb o e=>j.same b o (λz=>z) e
  ·obtain ⟨d,rfl,r⟩:=p
   rw[show C++[(⟨some v,.dat .ow d,J⟩ : Ent)]=C++⟨some v,.dat .ow d,J⟩::[] from rfl] at j
   obtain ⟨u,Z,rd,nd,_⟩:=j.ok _ mem_mid
   cases Z
   refine T v d J I r rd (nd rfl) (λa l=>?_) λb o e=>j.same b o (λz=>z) e
   rcases j.new _ mem_mid a l with z | z
   ·exact z
   ·exact z.1.elim
theorem Vu{x g:Str}{st:Stmt}{f:Addr}{fd:Cs}{N ps:List Str}{D:Str}{k:Nat}{df:DF}{db:DB}(F:Fun K x g st f fd)(S:FnScope N (D::ps) (Bv st))(hb:∀(t:Value) (A:Ci) (outer:List Env) (s:Ah) (H:Hp) (E:XK),Room k (A.deeper (Th g (Bv st) s.heap.objs.size f t))->dJ (Nc Hu P w K mg base N g (Bv st) f t A outer s H E).nox (Kz st) db)(h:∀ds n R,df ds n R->ds.length=ps.length/\db (retW n R) ⟨.drw::args0 ds (N.length - (D::ps).length),n⟩):FnOk P w K mg base Hu (k+1) f fd (D::ps) (cU K df):=by
 refine F.ok S (λvs H Q E z=>?_) λt A outer s H us Q E hr z=>?_
 ·obtain ⟨l,ws,Y,n,ds,R,rfl,O,ok,nd,B,q,hp,_⟩:=z
  have l1:=(h ds n R hp).1
  have U:=Ly q
  rw[Ad] at U
  have l3:=congrArg Ja O
  rw[Ad,Ad] at l3
  rw[Bl,Bl]
  omega
 ·obtain ⟨l,ws,Y,n,ds,R,rfl,O,ok,W,B,q,hp,k1⟩:=z
  obtain ⟨l1,hd⟩:=h ds n R hp
  have U:=Ly q
  rw[Ad] at U
  have l3:=congrArg Ja O
  rw[Ad,Ad] at l3
  -- what the end tells of the draws: they stand in an old cell
  have y:∀{E':List Ent} {n':Nat} {I:Hp},At K H (·=l) n' E' I->∀b o,b≠l->H b=some o->I b=some o:=λj b o nb e=>j.same b o nb e
  refine ⟨_,hb t A outer s H E hr,H,(·=l),⟨some (.ref l),.drw,[l]⟩::(Y.map fU++Jx (N.length - (D::ps).length)),[],⟨.drw::args0 ds (N.length - (D::ps).length),n⟩,retW n R,?_,?_,λ_ z=>(nomatch z),?_,hd,λC T I e1 j p=>?_,λx C v Z T I e1 j p=>?_,λ_ _ _ _ _ p=>p.elim,λ_ _ _ _ _ p=>p.elim⟩
  ·unfold vs L2.start Jx
   rw[Ap,Bn,AK,O,Qn,Bl,Bl,show ws.length=ps.length by omega]
   rfl
  ·unfold Sl args0 Jx
   rw[Ap,Bn,Yh q,Qn]
  ·rw[Eb]
   have M:=mB q (N.length - (D::ps).length)
   have J:∀e∈Y.map fU++Jx (N.length - (D::ps).length),l∉e.F:=λe he=>by
    rcases Bc.mp he with he | he
    ·obtain ⟨f,hf,rfl⟩:=Dd.mp he
     obtain ⟨v,x,F⟩:=f
     have:=W _ hf
     cases x <;> exact this
    ·rw[(Ih.mp he).2]
     exact Az
   refine ⟨λe he=>?_,Bd.mpr ⟨λb m=>⟨λV c i=>?_,λV c i=>?_⟩,Ua λa G b m=>⟨λV c i=>?_,λV c i=>?_⟩⟩,λe he a G=>?_,λb o _ e=>e,λb o e=>⟨o,e⟩,λb hb=>?_⟩
   rotate_right
   ·subst hb
    obtain ⟨c,X,fl,L,z2⟩:=B
    exact ⟨λz=>(by rw[show H b=some _ from L] at z; cases z),c,X,fl,L,z2⟩
   ·rcases Ak.mp he with rfl | he
    ·obtain ⟨c,X,fl,L,z2,z3⟩:=B
     exact ⟨l,c,X,fl,rfl,rfl,L,z2,z3⟩
    ·exact K4 q ok _ e he
   ·rw[Al.mp i]
    exact J b m
   ·rw[(M b m).1] at i; cases i
   ·rw[(M a G).1] at i; cases i
   ·rw[(M b m).1] at i; cases i
   ·rcases Ak.mp he with rfl | he
    ·rw[Al.mp G]
     exact .inr ⟨rfl,rfl⟩
    ·rw[(M e he).1] at G; cases G
  ·exact k1 .non .none [] C.n I p.1 p.2 .non Ep (λ_ z=>(nomatch z)) (j.xd l rfl).2 (y j)
  ·obtain ⟨hn,d,rfl,r⟩:=p
   rw[show T++[(⟨some v,.dat .ow d,Z⟩ : Ent)]=T++⟨some v,.dat .ow d,Z⟩::[] from rfl] at j
   obtain ⟨u,e2,rd,nd,_⟩:=j.ok _ mem_mid
   cases e2
   refine k1 v d Z C.n I hn r rd (nd rfl) (λa G=>?_) (j.xd l rfl).2 (y j)
   rcases j.new _ mem_mid a G with z | z
   ·exact z
   ·cases z.2
end
end DL
namespace L2
open PySem PySem.Spec PyProof.Rows
theorem zB{P:Bk}{w:World}{K:PySem.W.Frag}{mg M:Str->Option Value}{CX:yG}{k:Nat}{O a:Addr}{T:Cs}{x:Str}{sp:Sp}{c:Ah}{vs:List Value}{ns:List Int}(KX:K.In c.heap)(B:c.heap.Ns Dl mg)(hb:c.heap.Ns builtinsNs M)(Q:∀x:Str,x ≠ "__name__" -> M x=Os x)(E:c.heap.NoLimit)(hg:c.gens=#[])(I:c.heap.get? a=some { cls:=.type "list",data:=.seq vs.toArray })(U:Fo vs ns)(hl:ns.length<=Ay)(hr:Room k callerA)(F:∀base:Heap,K.In base->base.Ns Dl mg->FnOk P w K mg base CX k O T [x] sp)(j:∀(s:Ah) (u:Value),BindsTo s T ⟨[u],[]⟩ [(x,u)])(L:∀H:Hp,EB H->DL.KL K H a (ns.map V.int)->sp [.ref a] H (λv _=>v=.bl true) λ_ _ _=>False)(N:∀H e s',CX [] H c (λ_ _ _=>False) e s'->False):Ha (model P w) callerA (.call (.ref O) ⟨[.ref a],[]⟩) (λr s'=>r=.ok (.ret (.bool true))/\OldK c.heap s'.heap/\s'.os=c.os/\Xo s'.gens) c:=by
 have Z:=iX U
 have t:=U.length
 -- from an abstract heap in which nothing but the script may be tracked
 have i:∀H:Hp,EB H->DL.KL K H a (ns.map V.int)->Zx P w H c.heap->(∀b,H b≠none->b=a)->(H a≠none->K.lookup a=none) ->
   Ha (model P w) callerA (.call (.ref O) ⟨[.ref a],[]⟩) (λr s'=>r=.ok (.ret (.bool true))/\OldK c.heap s'.heap/\s'.os=c.os/\Xo s'.gens) c:=by
  intro H Y hS G X hK
  have f:∀{b:Addr} {o:Obj},c.heap.get? b=some o->H b=none->(lK c.heap H).get? b=some o:=λe n=>B5 e n
  have S:∀{b:Addr} {o:Obj} {D:Array Kg} {C:Nat},c.heap.get? b=some o->o.data=.dict D C->H b=none:=λ{b o D C} e d=>by
   cases q:H b with
   | none=>rfl
   | some u =>
    have R:b=a:=X b (by rw[q]; simp)
    subst R
    rw[I] at e; cases e
    have d':Data.seq vs.toArray _=Data.dict D C:=d
    cases d'
  have g:∀{b:Addr} {m:Str->Option Value},c.heap.Ns b m->(lK c.heap H).Ns b m:=λ{b m} ⟨o,D,C,e,d,r⟩=>⟨o,D,C,f e (S e d),d,r⟩
  have y:K.In (lK c.heap H):=λb o e=>f (KX b o e) (by
   cases q:H b with
   | none=>rfl
   | some u =>
    have R:b=a:=X b (by rw[q]; simp)
    subst R
    rw[hK (by rw[q]; simp)] at e; cases e)
  have hM:Mod K mg (lK c.heap H):=⟨y,g B,⟨M,g hb,Q⟩,let ⟨mc,h1,h2⟩:=E; ⟨mc,g h1,h2⟩⟩
  have e0:Env0 P w K mg (lK c.heap H) callerA [] c H:=⟨rfl,hM,λb o e=>Q8 e,Nat.le_of_eq (yK _ _),trivial,λb hb=>absurd (show b∈([]:List Addr) from hb) (by simp),G,.of_eq hg⟩
  refine Oq ((F _ y (g B)).run callerA [] c H ⟨[.ref a],[]⟩ [.ref a] [.ref a] _ _ hr e0 (j c (.ref a)) (.cons rfl .nil) (L H Y hS)) λr s' h=>?_
  cases r with
  | error e=>exact (N H e s' h).elim
  | ok fl =>
   cases fl with
   | next=>exact Ld h
   | brk=>exact Ld h
   | cont=>exact Ld h
   | ret u =>
    obtain ⟨v,H',os,A,un,l,r',q⟩:=h
    have q':v=.bl true:=q
    subst q'
    obtain rfl:u=Value.bool true:=r'
    refine ⟨rfl,OldK.of_keep λb o e=>?_,os,A⟩
    cases q:H b with
    | none=>exact un.keep b o e q (by intro z; exact absurd (show b∈([]:List Addr) from z) (by simp)) (by simp)
    | some u =>
     rcases Y b with z | ⟨ob,xs,z⟩
     ·rw[q] at z; cases z
     ·have z2:=un.frzs b ob _ z
      obtain ⟨e1,_⟩:=G b _ z
      obtain ⟨e2,_⟩:=l b _ z2
      rw[e] at e1; cases e1
      exact e2
 cases J:K.lookup a with
 | some o =>
  -- the script is one of the module's own objects
  have e:=KX a o J
  rw[I] at e
  cases e
  refine i (λ_=>none) (λ_=>.inl rfl) (.inr ⟨vs.toArray,_,J,by rw[Au,t]; exact hl,by simpa using Z⟩) (λb u z=>by have p:(none:Option HO)=some u:=z; cases p) (λb z=>absurd rfl z) λz=>absurd rfl z
 | none =>
  refine i (λb=>if b=a then some (.frz { cls:=.type "list",data:=.seq vs.toArray } (.lst (ns.map V.int))) else none) (λb=>?_) (.inl ⟨{ cls:=.type "list",data:=.seq vs.toArray },if_pos rfl⟩) (λb u z=>?_) (λb z=>?_) λ_=>J
  ·by_cases hb:b=a
   ·exact .inr ⟨_,_,if_pos hb⟩
   ·exact .inl (if_neg hb)
  ·by_cases hb:b=a
   ·have p:=(if_pos hb).symm.trans z
    cases p
    subst hb
    exact ⟨I,by rw[Ad]; exact hl,vs,_,Z,I⟩
   ·have p:=(if_neg hb).symm.trans z
    cases p
  ·by_cases hb:b=a
   ·exact hb
   ·exact absurd (if_neg hb) z
theorem walk_ofD{l:PySem.W.OpenLaw}{n k:Nat}{q:Bk}{loose:List Str}{XP:(Str->Option Value)->Heap->Prop}{YP:World->Heap->Prop}{d:DefRec}{K:Params->PySem.W.Frag}{CX:World->yG}{sp:World->Sp}{x:Str}(I:l.most=some n)(z:n<=Ay)(A:d.params.defaults=[])(M:Room k callerA)(P:∀(w:World) (h:Heap),YP w h->(K w.params).In h)(F:∀(w:World) (mg:Str->Option Value) (p:Addr) (h:Heap),(K w.params).In h->h.Ns Dl mg->mg d.name=some (.ref p)->∃B:Cs,(∀(s:Ah) (u:Value),BindsTo s B ⟨[u],[]⟩ [(x,u)])/\∀base:Heap,(K w.params).In base->base.Ns Dl mg->FnOk l.prog w (K w.params) mg base (CX w) k p B [x] (sp w))(r:∀(w:World) (H:Hp) (a:Addr) (ns:List Int),ns.length<=n->EB H->DL.KL (K w.params) H a (ns.map V.int)->sp w [.ref a] H (λv _=>v=.bl true) λ_ _ _=>False)(y:∀(w:World) (H:Hp) (s:Ah) (e:Value) (s':Ah),CX w [] H s (λ_ _ _=>False) e s'->False):PySem.W.WalkO q loose XP YP l.row.toRowW d [] (λf vs=>PySem.call f vs):=by
 refine Att.attach_call I A λw C m mg X p o S Z L a vs ns G Y ho U J t j i c Q=>?_
 have D:=P w _ Y
 obtain ⟨B,E,R⟩:=F w mg p _ D G.T.g t
 exact zB D G.T.g G.T.b G.T.builtins G.T.nolimit Q j i (Cb c z) M R E (λH N O=>r w H a ns c N O) λH e s'=>y w H m e s'
end L2
namespace DL
open PySem PySem.Spec PyProof.Rows L2 Nd
def npk:List DV->Bool
 | []=>true
 | .dat .pk _::_=>false
 | _::xs=>npk xs
theorem F6:∀{S:List Ent} {a:List DV},S.map Ent.x=a->npk a=true->∀e∈S,Tj e.x=false
 | [],_,_,_,e,he=>nomatch he
 | ⟨v,x,F⟩::S,_,h,hn,e,he=>by
  subst h
  rw[Ap] at hn
  have : Tj x=false/\npk (S.map Ent.x)=true:=by
   cases x with
   | dat m d=>cases m <;> first | exact ⟨rfl,hn⟩ | cases hn
   | _=>exact ⟨rfl,hn⟩
  rcases Ak.mp he with rfl | he
  ·exact this.1
  ·exact F6 rfl this.2 e he
def own1:Md->Bool
 | .ow=>true
 | .tp=>true
 | _=>false
section
variable{K:PySem.W.Frag}{d H:Hp}{X:Addr->Prop}{n:Nat}{E:List Ent}
theorem At.write{v:Option V}{m:Md}{ds es:List Af}{a:Addr}{F G:List Addr}{ys:List V}(h:At K d X n (⟨v,.dat m (.list ds),a::F⟩::E) H)(j:own1 m=true)(O:v=some (.ref a))(np:∀e∈E,Tj e.x=false)(r:RdFs K H ys es G)(s:G.Sublist F)(hz:es.length<=Ay):At K d X n (⟨v,.dat m (.list es),a::G⟩::E) (upd H a (.lst ys)):=by
 obtain ⟨w,e1,rd,C,L⟩:=h.ok _ Ab
 obtain ⟨b,Z,R,Y,T,W,P,_⟩:=rd.list_inv
 have u:a::F=b::R:=P
 cases u
 have t:=Bd.mp h.sep
 have B:a∉F:=by
  cases m with
  | ow=>exact (Cm.mp (C rfl)).1
  | tp=>exact L rfl a F rfl
  | sh=>cases j
  | pk=>cases j
 have I:a∈cells ⟨v,.dat m (.list ds),a::F⟩:=by
  cases m <;> first | exact Ab | cases j
 have kp:∀{y:List Addr},a∉y->Kp y H (upd H a (.lst ys)):=λ{y} U b o q z=>by
  have : b≠a:=by
   rintro rfl
   rw[T] at q
   cases q
   rcases z with z | z
   ·exact U z
   ·rcases z with ⟨_,z⟩ | ⟨_,_,z⟩ <;> cases z
  rw[Ek this]
  exact q
 have A:d a=none:=by
  rcases h.new _ Ab a I with z | z
  ·exact z
  ·cases z.2
 have D:∀c∈cells ⟨v,.dat m (.list es),a::G⟩,c∈cells ⟨v,.dat m (.list ds),a::F⟩:=λc g=>by
  cases m with
  | ow =>
   rcases Ak.mp g with z | z
   ·exact Ak.mpr (.inl z)
   ·exact Ak.mpr (.inr (s.subset z))
  | tp=>exact g
  | sh=>cases j
  | pk=>cases j
 have p:∀c∈a::G,c∈a::F:=λc g=>by
  rcases Ak.mp g with z | z
  ·exact Ak.mpr (.inl z)
  ·exact Ak.mpr (.inr (s.subset z))
 have i:a∉G:=λz=>B (s.subset z)
 refine ⟨λf hf=>?_,?_,λf hf=>?_,λb o S q=>?_,λb o q=>?_,λb J=>?_⟩
 ·rcases Ak.mp hf with rfl | hf
  ·refine ⟨.ref a,O,.lst Du hz (r.kp (kp i)),λz=>?_,λz c l e=>?_⟩
   ·exact Cm.mpr ⟨i,(Cm.mp (C z)).2.sublist s⟩
   ·cases e
    exact i
  ·exact (h.ok f (Ac _ hf)).kp (kp ((t.1 f hf).1 (.inl (np f hf)) a I)) (Aj _)
 ·refine Bd.mpr ⟨λf hf=>⟨λM c g=>(t.1 f hf).1 (.inl (np f hf)) c (D c g),λM c g z=>(t.1 f hf).2 (.inl ?_) c g (p c z)⟩,t.2⟩
  cases m <;> first | rfl | cases j
 ·rcases Ak.mp hf with rfl | hf
  ·exact λc g=>h.new _ Ab c (D c g)
  ·exact h.new f (Ac _ hf)
 ·rw[Ek (Gw q A)]
  exact h.same b o S q
 ·rw[Ek (Gw q A)]
  exact h.dom b o q
 ·obtain ⟨z,c,k,f,Q,N⟩:=h.xd b J
  refine ⟨z,c,k,f,(Ek ?_).trans Q,N⟩
  rintro rfl
  exact z A
end
theorem Nf{a:Type}:∀{l:List a} {i:Nat} {x:a},l[i]? = some x->l.Perm (x::l.eraseIdx i)
 | [],i,x,h=>by simp at h
 | z::l,0,x,h=>by
  simp at h
  subst h
  exact Gh _
 | z::l,i+1,x,h=>by
  have b:=Nf (l:=l) (i:=i) (x:=x) (by simpa using h)
  rw[Tq]
  exact (b.cons z).trans (Ej x z _)
theorem zA{b:Type}{l:List b}{i:Nat}{x y:b}(h:l[i]? = some x):(l.set i y).Perm (y::l.eraseIdx i):=by
 have a:=(Ax.mp h).1
 have q:=Nf (l:=l.set i y) (i:=i) (x:=y) (by rw[Rw]; simp [a])
 rw[List.eraseIdx_set_eq] at q
 exact q
theorem Xa{K:PySem.W.Frag}{w H:Hp}{X:Addr->Prop}{S T:List Ent}{b:DS}{i:Nat}{m:Md}{ds es:List Af}(f:Sl S b)(O:∀e∈T,Tj e.x=false)(s:At K w X b.n (S++T) H)(C:b.sl[i]? = some (.dat m (.list ds)))(N:own1 m=true)(np:npk b.sl=true):∃a xs G,(vs S)[i]? = some (some (.ref a))/\H a=some (.lst xs)/\RdFs K H xs ds G/\ds.length<=Ay/\∀ys g,RdFs K H ys es g->g.Sublist G->es.length<=Ay->∃k,vs k=vs S/\Sl k ⟨b.sl.set i (.dat m (.list es)),b.n⟩/\At K w X b.n (k++T) (upd H a (.lst ys)):=by
 obtain ⟨d,c,B⟩:=Nn f C
 have I:d∈S:=Bp c
 obtain ⟨u,x,F⟩:=d
 have p:x=.dat m (.list ds):=B
 subst p
 obtain ⟨v,t,rd,_⟩:=s.ok _ (Ao _ I)
 obtain ⟨a,xs,G,rfl,L,z,E,M⟩:=rd.list_inv
 have l:F=a::G:=E
 subst l
 refine ⟨a,xs,G,by rw[Tc c]; exact congrArg some t,L,z,M,λys g r D h=>?_⟩
 have y:=F6 f np
 have A:(S++T).Perm (⟨u,.dat m (.list ds),a::G⟩::(S.eraseIdx i++T)):=by
  exact (Nf c).append_right T
 have J:=(s.perm A).write (es:=es) (ys:=ys) N t (λe he=>?_) r D h
 ·refine ⟨S.set i ⟨u,.dat m (.list es),a::g⟩,?_,?_,J.perm ?_⟩
  ·unfold vs
   rw[Qg]
   apply Rx
   intro j
   rw[Rw]
   split
   ·rename_i o
    subst o
    rw[Bg,c]
    split
    ·rfl
    ·rename_i q
     rw[Ad] at q
     exact absurd (Ax.mp c).1 q
   ·rfl
  ·unfold Sl at f ⊢
   rw[Qg,f]
  ·exact ((zA c).append_right T).symm
 ·rcases Bc.mp he with he | he
  ·exact y e ((List.eraseIdx_sublist S i).subset he)
  ·exact O e he
def jT(i:Nat)(c:DE):DB:=λD b=>match b.sl[i]? with
 | some (.dat _ (.list _))=>c b λy a=>match a.sl[i]?,y with
  | some (.dat m (.list ds)),.dat _ e=>own1 m=true/\npk a.sl=true/\imm e=true/\ds.length<1000000/\D.nx ⟨a.sl.set i (.dat m (.list (ds++[e]))),a.n⟩
  | _,_=>False
 | _=>False
section
variable{X:Cx}{o e:Expr}{f:DE}{d c pos:Pos}{i:Nat}
theorem Vl(ho:PE X o (lC i))(he:Gq X e f)(j:Vy o "append" X.env (eval o X.env)=eval o X.env:=by rfl)
  (l:((Hg c (Bj [e] X.env)).all (λx=>!x.1) && (backToKw c (bK [] X.env)).all (λx=>x.1.isSome)
   && decide (([e]:List Expr).length+([]:List Vc).length+(if ([]:List Vc).isEmpty then 0 else 1)<30))=true:=by rfl)
  (k:(d.endLine == c.line)=true:=by rfl) (Q:Bj [e] X.env=(false,eval e X.env)::Bj [] X.env:=by rfl) (g:(Hg c (Bj [] X.env)).any (·.1)=false:=by rfl)
  (J:Oa (.Call (.Attribute o "append" d) [e] [] c) none pos.line X.env=pure false:=by rfl) :
  zO X (.Expr (.Call (.Attribute o "append" d) [e] [] c) pos) (jT i f):=by
 refine PS.impD (vQ (AF PySem.F.plainAttrs_list PySem.F.slot_list_append PySem.F.type_list_append Pc ho (Hx he Og Q) j l k Q g) J) λD σ H h=>?_
 obtain ⟨H0,Y,S,T,δ,P,rfl,N,hT,L,A,k1,k2,k3,k4⟩:=h
 unfold jT at A
 split at A
 case h_2=>exact A.elim
 rename_i m0 E C
 obtain ⟨s,B,W⟩:=Nn N C
 have hm:s∈S:=Bp B
 obtain ⟨u,x,F⟩:=s
 have I:x=.dat m0 (.list E):=W
 subst I
 obtain ⟨v,M,rd,_⟩:=L.ok _ (Ao _ hm)
 obtain ⟨a,xs,G,rfl,ha,ra,eF,hz⟩:=rd.list_inv
 refine ⟨.ref a,by rw[Tc B]; exact congrArg some M,.inl ⟨rfl,xs,Mq.of ha⟩,H0,Y,S,T,δ,_,rfl,N,L,A,λy h0 w F1 S1 H1 K e5 z t=>?_⟩
 split at t
 ·rename_i m ds m' e' p
  obtain ⟨t,p2,p3,p4,p5⟩:=t
  have r:=z.told mem_mid
  obtain rfl:=r.imm p3
  obtain ⟨b,q,Z,R,g2,O,g4,U⟩:=Xa (es:=ds++[e']) e5 hT z.drop p t p2
  rw[K,Tc B] at R
  have : some (V.ref b)=some (V.ref a):=(Ca R).symm.trans M
  cases this
  obtain ⟨S2,h1,h2,h3⟩:=U (q++[w]) (Z++[]) (O.snoc r) (by rw[Eb]; exact Co _) (by rw[Bm]; exact pY (by simp; omega))
  have hl:=O.len
  refine ⟨a,q,w,rfl,rfl,g2,Cj (by omega) (pY (n:=1000000) (Aj _)),?_⟩
  rw[<- K,<- h1]
  exact k1 ⟨_,_⟩ S2 _ h2 h3 p5
 ·exact t.elim
end
theorem RdFs.setI{K:PySem.W.Frag}{H:Hp}:∀{xs:List V} {ds:List Af} {j:Nat} {v:V} {e:Af},RdFs K H xs ds []->RdF K H v e []->RdFs K H (xs.set j v) (ds.set j e) []:=by
 have b:∀{xs:List V} {ds:List Af} {F:List Addr} {j:Nat} {v:V} {e:Af},RdFs K H xs ds F->F=[]->RdF K H v e []->RdFs K H (xs.set j v) (ds.set j e) []:=by
  intro xs ds F j v e h
  induction j generalizing xs ds F with
  | zero =>
   intro c r
   cases h with
   | nil=>exact .nil
   | cons a t =>
    obtain ⟨rfl,rfl⟩:=Vb.mp c
    exact RdFs.cons (F:=[]) r t
  | succ j d =>
   intro c r
   cases h with
   | nil=>exact .nil
   | cons a t =>
    obtain ⟨rfl,rfl⟩:=Vb.mp c
    exact RdFs.cons (F:=[]) a (d t rfl r)
 intro xs ds j v e h r
 exact b h rfl r
def spLawD(K:PySem.W.Frag):Sp:=λd H Q _=>∃(a:Addr) (b:List Int),d=[.ref a]/\KL K H a (b.map V.int)/\b.length<=63/\∀c,Q (.bl true) c
def retL:DEnds where
 nx:=λ_=>False
 rt:=λx _=>∃m,x=.dat m (.bool true)
section
variable{P:Bk}{w:World}{K:PySem.W.Frag}{mg:Str->Option Value}{base:Heap}
theorem CV{x d C:Str}{st:Stmt}{f:Addr}{D:Cs}{N:List Str}{k:Nat}{B:DB}(F:Fun K x d st f D)(S:FnScope N [C] (Bv st))(hb:∀(g:Value) (A:Ci) (outer:List Env) (s:Ah) (H:Hp) (E:XK),Room k (A.deeper (Th d (Bv st) s.heap.objs.size f g))->dJ (Nc Hu P w K mg base N d (Bv st) f g A outer s H E).nox (Kz st) B)(h:∀ns:List Int,ns.length<=63->B retL ⟨.scr ns::By (N.length - 1) .un,0⟩):FnOk P w K mg base Hu (k+1) f D [C] (spLawD K):=by
 refine F.ok S (λvs H Q E z=>?_) λg A outer s H O Q E J z=>?_
 ·obtain ⟨a,ns,rfl,_⟩:=z
  rfl
 ·obtain ⟨a,ns,rfl,G,i,L⟩:=z
  refine ⟨_,hb g A outer s H E J,H,λ_=>False,⟨some (.ref a),.scr ns,[]⟩::Jx (N.length - 1),[],⟨.scr ns::By (N.length - 1) .un,0⟩,retL,?_,?_,λ_ z=>(nomatch z),?_,h ns i,λt l u M q p=>p.elim,λx t v y l u M q p=>?_,λ_ _ _ _ _ p=>p.elim,λ_ _ _ _ _ p=>p.elim⟩
  ·unfold vs L2.start Jx
   rw[Ap,Qn]
   rfl
  ·unfold Sl Jx
   rw[Ap,Qn]
  ·rw[Eb]
   have n:∀e∈(⟨some (.ref a),.scr ns,[]⟩::Jx (N.length - 1):List Ent),cells e=[]:=λe he=>by
    rcases Ak.mp he with rfl | he
    ·rfl
    ·rw[(Ih.mp he).2]
     rfl
   refine ⟨λe he=>?_,Ua λa j b r=>⟨λI c z=>?_,λI c z=>?_⟩,λe he a j=>?_,λb o _ e=>e,λb o e=>⟨o,e⟩,λb hb=>hb.elim⟩
   ·rcases Ak.mp he with rfl | he
    ·exact ⟨a,rfl,rfl,G,i⟩
    ·rw[(Ih.mp he).2]
     exact (rfl:([]:List Addr)=[])
   ·rw[n a j] at z; cases z
   ·rw[n b r] at z; cases z
   ·rw[n e he] at j; cases j
  ·obtain ⟨m,rfl⟩:=p
   rw[show l++[(⟨some v,.dat m (.bool true),y⟩ : Ent)]=l++⟨some v,.dat m (.bool true),y⟩::[] from rfl] at q
   obtain ⟨rfl,_⟩:=(q.told mem_mid).bl_inv
   exact L u
end
def rM(i:Nat)(dl d:DO):DE:=λc P=>match c.sl[i]? with
 | some (.scr ns)=>dl c λl a=>d a λh b=>P (.dat .ow (.list ((Mi ns l h).map Av))) b
 | _=>False
section
variable{X:Cx}{e b:Expr}{g:DE}{lo c:Option Expr}{dl f:DO}{pos d:Pos}{i:Nat}
theorem DZ{K:PySem.W.Frag}{m H:Hp}{Y:Addr->Prop}{S T:List Ent}{d:DS}{ns:List Int}(l:Sl S d)(q:At K m Y d.n (S++T) H)(c:d.sl[i]? = some (.scr ns)):∃a,(vs S)[i]? = some (some (.ref a))/\(⟨some (.ref a),.scr ns,[]⟩ : Ent)∈S/\KL K H a (ns.map V.int)/\ns.length<=63:=by
 obtain ⟨b,j,o⟩:=Nn l c
 have h:b∈S:=Bp j
 obtain ⟨u,x,F⟩:=b
 have f:x=.scr ns:=o
 subst f
 obtain ⟨a,p,k,r⟩:=q.ok _ (Ao _ h)
 have e:u=some (.ref a):=p
 have g:F=[]:=k
 subst e g
 exact ⟨a,by rw[Tc j],h,r⟩
theorem G4(C:PE X e (lC i))(hl:EW X lo dl)(F:EW X c f):Gq X (.Subscript e (.Slice lo c none d) pos) (rM i dl f):=by
 refine PE.imp (oT (r:=BQ X.K) N3 C hl F) λσ H Q h=>?_
 obtain ⟨v,Y,S,T,x,P,rfl,y,w,j,k⟩:=h
 unfold rM at j
 split at j
 case h_2=>exact j.elim
 rename_i b o
 obtain ⟨a,L,D,R,E⟩:=DZ y w o
 have q:At X.K v Y x.n (S++⟨some (.ref a),.scr b,[]⟩::T) H:=(At.view1 w (Ao _ D)).tomid
 refine ⟨.ref a,L,v,Y,S,⟨some (.ref a),.scr b,[]⟩::T,x,_,rfl,y,q,j,λl t M U B z m d=>?_⟩
 refine ⟨v,Y,M,⟨some (.ref a),.scr b,[]⟩::T,t,_,B,z,m,d,λh u A H3 I O g N=>?_⟩
 obtain ⟨W,G,_,s,_⟩:=g.ok _ mem_mid
 cases G
 refine ⟨a,_,rfl,s.sq,λp J=>?_⟩
 have : eN (b.map V.int) l h=(Mi b l h).map V.int:=by
  rw[<- Ug]; rfl
 rw[this]
 refine k _ u _ _ A _ I O (g.drop.newI (RdFs.ints _) (Nu _) ?_ J .ow) N
 rw[Ad]
 have Z:=(Yp b l h).length_le
 exact sz (by omega)
end
def FR(i j:Int):Prop:=0<=j/\(Builtin.Int.intBits i:Int) * j<=2 ^ 27
theorem R1{X:Cx}:aB X (Jn .Pow) (rI FR λi j=>.int (i ^ j.toNat)):=GW λ_ _ _ _ _ _ _ a q=>pow_int a.1 a.2 q
def Ww:DF:=λa n R=>a=[]/\n<=100000/\∀r:Int,R (.int r) (n+1)
theorem Q9{P:Bk}{w:World}{K:PySem.W.Frag}{mg:Str->Option Value}{base:Heap}{k:Nat}{f:Addr}{l:Cs}{ps:List Str}(F:FnOk P w K mg base Hu k f l ps K7):FnOk P w K mg base Hu k f l ps (cU K Ww):=by
 refine F.imp λD H Q E h=>?_
 obtain ⟨A,i,t,n,G,R,rfl,v,ok,nd,⟨c,g,j,b,o,C⟩,q,x,p⟩:=h
 obtain ⟨rfl,B,u⟩:=x
 have e:t=[]:=by
  have:=Ly q
  rw[Ad] at this
  exact Ms.mp this
 subst e
 have d:i=[]:=by
  cases i with
  | nil=>rfl
  | cons _ _=>cases v
 subst d
 refine ⟨A,c,g,j,rfl,b,o,by omega,λr y m a s=>?_⟩
 exact p (.int r) (.int r) [] (n+1) m (by omega) (u r) (.int r) Ep (λ_ z=>(nomatch z)) ⟨y,g+1,j,a,by omega,by omega⟩ s
def B1:PF:=λc R=>∃a b:List Int,c=[Bf a,Bf b]/\Dr 60 a/\Dr 60 b/\R (Bf (Pj (a++b)))
theorem Xc{ns:List Int}(r:Dr 60 ns):ns.length<=60:=Cb (NdS.len_leI (r.1.imp λ{x y} h=>Int.ne_of_lt h) λe a=>Yu (r.2 e a).1 (r.2 e a).2) (by decide)
theorem qM{K:PySem.W.Frag}{H:Hp}{v:V}{F:List Addr}{ns:List Int}(r:RdF K H v (Bf ns) F):∃a,v=.ref a/\H a=some (.tup (ns.map V.int)):=by
 obtain ⟨a,d,rfl,c,b,_⟩:=RdF.tup_inv (ds:=ns.map Av) r
 obtain ⟨rfl,_⟩:=b.ints_inv
 exact ⟨a,rfl,c⟩
theorem V2{K:PySem.W.Frag}{H:Hp}{a:Addr}{ns:List Int}(h:H a=some (.tup (ns.map V.int)))(l:ns.length<=1000000):RdF K H (.ref a) (Bf ns) []:=.tup h (by rw[Ad]; exact pY l) (RdFs.ints ns)
theorem h9{K:PySem.W.Frag}{H:Hp}{n:Nat}{As:List Ent}{us:List V}{d g:Af}(i:As.map Ent.v=us.map some)(ok:∀e∈As,Iu K H n e)(q:datas (As.map Ent.x)=some [d,g]):∃f c h j,us=[f,c]/\RdF K H f d h/\RdF K H c g j:=by
 have r:=Yg i q ok
 generalize As.flatMap Ent.F=G0 at r
 cases r with
 | cons a t =>
  cases t with
  | cons b t =>
   cases t
   exact ⟨_,_,_,_,rfl,a,b⟩
section
variable{P:Bk}{w:World}{K:PySem.W.Frag}{mg:Str->Option Value}{base:Heap}{k:Nat}{f:Addr}{c:Cs}{ps:List Str}
theorem DN(F:FnOk P w K mg base Hu k f c ps (X5 K)):FnOk P w K mg base Hu k f c ps (Sv K B1):=by
 refine F.imp λM H Q E h=>?_
 obtain ⟨L,n,T,R,D,ok,q,G,v⟩:=h
 obtain ⟨a,b,rfl,g,i,A⟩:=G
 obtain ⟨O,J,N,S,rfl,j,u⟩:=h9 D ok q
 obtain ⟨C,rfl,t⟩:=qM j
 obtain ⟨B,rfl,m⟩:=qM u
 refine ⟨C,B,a,b,rfl,Ru.of t,Ru.of m,g,i,λr I o U y nd l d s=>?_⟩
 have e:I=Pj (a++b):=uQ (aN nd l) d
 subst e
 refine v (.ref r) _ [] o A (V2 y ?_) Ep (λ_ z=>(nomatch z)) s
 have:=pO (ns:=a++b) (λx p=>by
  rcases Bc.mp p with z | z
  ·exact g.2 x z
  ·exact i.2 x z)
 omega
end
def Mw{a:Type}(xs:List a)(k:Nat)(y:a):List a:=xs.take k++y::xs.drop k
def W1:V->List V->Hp->VK->Prop:=λx b H Q=>∃(l:Addr) (a:List V) (k:Int) (y:V),x=.ref l/\b=[.int k,y]/\H l=some (.lst a)/\a.length<Ay/\0<=k/\k<=1000000/\Q .non (upd H l (.lst (Mw a k.toNat y)))
theorem sC{k:Int}(h0:0<=k)(h1:k<=1000000):Ol k=true:=by
 unfold Ol
 simp
 omega
theorem xH{a:Type}(xs:List a)(k:Nat)(y:a):Mw xs (min k xs.length) y=Mw xs k y:=by
 unfold Mw
 by_cases h:k<=xs.length
 ·rw[Nat.min_eq_left h]
 ·rw[fR (by omega),Ey,List.drop_length,Gs (by omega),tV (by omega)]
theorem iG{a:Type}(xs:List a)(k:Nat)(y:a):(Mw xs k y).length=xs.length+1:=by
 unfold Mw
 rw[Bm,Bl,Cz,Lm]
 omega
section
variable{X:Cx}
theorem xS:KG X "list.insert" W1:=by
 intro c s C H x vs v p Q I g i h
 obtain ⟨l,w,k,y,rfl,rfl,d,A,j,o,q⟩:=h
 cases g
 obtain ⟨u,b,rfl,f,m⟩:=i.two
 obtain ⟨t,rfl⟩:=f
 obtain ⟨z,a,n,r,B,e⟩:=I.lstM d
 refine Xl F.slot_list_insert ⟨_,e,rfl⟩ F.entry_list_insert (F.args_list_insert_3 _ _ _)
  (AutoSeq1.list_insert_list_int_val_1 l a.toArray n k t b (by simp [sC j o]) (by rw[Au]; omega)) ⟨e,?_⟩
 refine ⟨.non,_,I.lset (its':=Mw a k.toNat b) d e ?_ ?_ ?_,rfl,q⟩
 ·show (a.toArray.extract 0 (if k<0 then (k+(a.toArray.size:Int)).toNat else min k.toNat a.toArray.size)).push b++a.toArray.extract (if k<0 then (k+(a.toArray.size:Int)).toNat else min k.toNat a.toArray.size)=(Mw a k.toNat b).toArray
  rw[if_neg (by omega),Au,<- xH]
  unfold Mw
  simp
  exact Gs (by rw[Lm]; omega)
 ·exact (r.take _).append (.cons m (r.drop _))
 ·rw[iG]
  omega
end
def insB(i:Nat)(z y:DV)(a:DS)(D:DEnds):Prop:=match a.sl[i]?,z,y with
 | some (.dat m (.list ds)),.dat _ (.int k),.dat _ e=>own1 m=true/\npk a.sl=true/\imm e=true/\Dw ds=true/\ds.length<1000000/\0<=k/\k<=1000000/\D.nx ⟨a.sl.set i (.dat m (.list (Mw ds k.toNat e))),a.n⟩
 | _,_,_=>False
def lV(i:Nat)(d e:DE):DB:=λD c=>match c.sl[i]? with
 | some (.dat _ (.list _))=>d c λz a=>e a λy b=>insB i z y b D
 | _=>False
theorem RdFs.takeI{K:PySem.W.Frag}{H:Hp}{xs:List V}{ds:List Af}{F:List Addr}(h:RdFs K H xs ds F)(b:Dw ds=true)(k:Nat):RdFs K H (xs.take k) (ds.take k) []:=by
 induction k generalizing xs ds F with
 | zero=>exact .nil
 | succ k c =>
  cases h with
  | nil=>exact .nil
  | cons a t =>
   rw[Dw,Ec] at b
   obtain rfl:=a.imm b.1
   exact RdFs.cons (F:=[]) a (c t b.2)
theorem RdFs.dropI{K:PySem.W.Frag}{H:Hp}{xs:List V}{ds:List Af}{F:List Addr}(h:RdFs K H xs ds F)(b:Dw ds=true)(k:Nat):RdFs K H (xs.drop k) (ds.drop k) []:=by
 induction k generalizing xs ds F with
 | zero=>rw[Nk,Nk]; exact (h.imm b)▸h
 | succ k c =>
  cases h with
  | nil=>exact .nil
  | cons a t =>
   rw[Dw,Ec] at b
   exact c t b.2
section
variable{X:Cx}{o e f:Expr}{j g:DE}{d c pos:Pos}{i:Nat}
theorem yR(ho:PE X o (lC i))(hk:Gq X f g)(he:Gq X e j)(p:Vy o "insert" X.env (eval o X.env)=eval o X.env:=by rfl)
  (B:((Hg c (Bj [f,e] X.env)).all (λx=>!x.1) && (backToKw c (bK [] X.env)).all (λx=>x.1.isSome)
   && decide (([f,e]:List Expr).length+([]:List Vc).length+(if ([]:List Vc).isEmpty then 0 else 1)<30))=true:=by rfl)
  (q:(d.endLine == c.line)=true:=by rfl) (t:Bj [f,e] X.env=(false,eval f X.env)::Bj [e] X.env:=by rfl) (hs:Bj [e] X.env=(false,eval e X.env)::Bj [] X.env:=by rfl) (l:(Hg c (Bj [e] X.env)).any (·.1)=false:=by rfl)
  (O:Oa (.Call (.Attribute o "insert" d) [f,e] [] c) none pos.line X.env=pure false:=by rfl) :
  zO X (.Expr (.Call (.Attribute o "insert" d) [f,e] [] c) pos) (lV i g j):=by
 refine PS.impD (vQ (AF PySem.F.plainAttrs_list F.slot_list_insert F.type_list_insert xS ho (Hx hk (Hx he Og hs) t) p B q t l) O) λD σ H h=>?_
 obtain ⟨H0,Y,S,T,δ,P,rfl,hS,hT,hA,I,k1,k2,k3,k4⟩:=h
 unfold lV at I
 split at I
 case h_2=>exact I.elim
 rename_i m0 L U
 obtain ⟨E,Q,e3⟩:=Nn hS U
 have hm:E∈S:=Bp Q
 obtain ⟨u,x,F⟩:=E
 have M:x=.dat m0 (.list L):=e3
 subst M
 obtain ⟨v,hv,rd,_⟩:=hA.ok _ (Ao _ hm)
 obtain ⟨a,xs,G,rfl,ha,ra,eF,hz⟩:=rd.list_inv
 refine ⟨.ref a,by rw[Tc Q]; exact congrArg some hv,.inl ⟨rfl,xs,Mq.of ha⟩,H0,Y,S,T,δ,_,rfl,hS,hA,I,λz K w F1 S1 H1 e4 e5 R p1=>?_⟩
 refine ⟨H0,Y,S1,⟨some w,z,F1⟩::T,K,_,e4,e5,R,p1,λy h0 w2 F2 S2 H2 e6 e7 s J=>?_⟩
 unfold insB at J
 split at J
 ·rename_i m ds mz k my e' C
  obtain ⟨q1,q2,q3,Z,q5,q6,q7,q8⟩:=J
  obtain ⟨rfl,_⟩:=(s.told Ga).int_inv
  have r:=s.told mem_mid
  obtain rfl:=r.imm q3
  obtain ⟨b,A,G1,W,g2,N,g4,g5⟩:=Xa (es:=Mw ds k.toNat e') e7 hT s.drop2 C q1 q2
  rw[e6,Tc Q] at W
  have : some (V.ref b)=some (V.ref a):=(Ca W).symm.trans hv
  cases this
  have hl:=N.len
  obtain ⟨S3,h1,h2,h3⟩:=g5 (Mw A k.toNat w2) [] ((N.takeI Z _).app (RdFs.cons (F:=[]) r (N.dropI Z _))) (List.nil_sublist _) (by rw[iG]; exact pY (by omega))
  refine ⟨a,A,k,w2,rfl,rfl,g2,Cj (by omega) (pY (n:=1000000) (Aj _)),q6,q7,?_⟩
  rw[<- e6,<- h1]
  exact k1 ⟨_,_⟩ S3 _ h2 h3 q8
 ·exact J.elim
end
end DL
namespace Nd
open PySem PySem.Spec PyProof.Rows L2
end Nd
namespace DL
open PySem PySem.Spec PyProof.Rows L2 Nd
end DL
namespace Nd
open PySem PySem.Spec PyProof.Rows
section
variable{prog:Bk}{w:World}{b:Type}[DecidableEq b](knd:HeapKind prog w b)
def DictE(h:Heap)(d:Addr)(xs:List (b×Addr×Value)):Prop :=
 ∃(o:Obj) (a:Array Kg) (c:Nat),h.get? d=some o/\o.ExactDict/\o.data=.dict a c/\a.toList=xs.map (fQ knd)/\(∀x∈xs,knd.is h x.1 x.2.1)/\(xs.map (·.1)).Nodup/\c=a.size
variable{knd}
variable{A:Ci}{E:Value->Ah->Prop}{s:Ah}{d a:Addr}{xs:List (b×Addr×Value)}{k:b}{v:Value}
theorem yX{xs:List (b×Addr×Value)}{k:b}{a:Addr}{v:Value}(f:(xs.map (·.1)).Nodup)(d:k∉xs.map (·.1)):((xs++[(k,a,v)]).map (·.1)).Nodup:=by
 rw[Bn,List.nodup_append]
 refine ⟨f,by simp,λx g y c e=>d ?_⟩
 rw[Ap,Qh,Al] at c
 have c:y=k:=c
 rw[<- c,<- e]
 exact g
theorem K2{o:Obj}{es:Array Kg}{ep:Nat}{h:Heap}(f:h.get? d=some o)(m:o.ExactDict)(hd:o.data=.dict es ep)(g:es.toList=xs.map (fQ knd))(c:∀x∈xs,knd.is h x.1 x.2.1)(i:(xs.map (·.1)).Nodup)(e:ep=es.size)(b:knd.is h k a)(n:atKey xs k=none)(l:k∉xs.map (·.1)):DictE knd (h.update d (Obj.mapDictKeys λes=>es.push ⟨knd.hash k,.ref a,v⟩)) d (storedH xs k a v):=by
 rw[storedH_new n]
 refine ⟨_,_,ep+1,Fd _ f (Obj.isFreed_of_dict (Obj.data_mapDictKeys hd _)),m.mapDictKeys _,Obj.data_mapDictKeys hd _,by simp [g,fQ],λx j=>?_,yX i l,by rw[e,Array.size_push]⟩
 rcases Bc.mp j with z | z
 ·exact knd.keeps (c x z) f hd (Bo ..)
 ·rw[Al.mp z]
  exact knd.keeps b f hd (Bo ..)
theorem mN{Q:Unit->Ah->Prop}(n:knd.room A)(b:knd.is s.heap k a)(B:DictE knd s.heap d xs)(q:∀h',DictE knd h' d (storedH xs k a v)->Cu d s.heap h'->Q () { s with heap:=h',toks:=s.toks+knd.draws k })(hz:xs.length<=Ay):wpAny (model prog w) A (dictSet d (.ref a) v) Q E s:=by
 obtain ⟨o,G,D,g,t,f,m,c,h,i⟩:=B
 unfold dictSet
 try with_reducible refine Ct ?_
 refine Aa (knd.pyHash n b ?_)
 unfold dictSetHashed
 try with_reducible refine Ct ?_
 refine Aa (wpAny_dictFind_heap (s:={ s with toks:=s.toks+knd.draws k }) n b g f m c h (λz=>?_) λj p r=>?_)
 ·exact Aa (Jr (wpAny_updateDictKeys (hz:=by have e:=size_of_entries m; omega) (s:={ s with toks:=s.toks+knd.draws k }) g f (q _ (K2 g t f m c h i b (atKey_none_of_get z) (not_mem_keys_of_get z)) (Bo ..))))
 ·refine Aa (Jr (Aa (wpAny_updateDict (s:={ s with toks:=s.toks+knd.draws k }) g f (wpAny_point (q _ ?_ (Bo ..))))))
  rw[storedH_old (atKey_of_get h r)]
  refine ⟨_,_,D,Fd _ g (Obj.isFreed_of_dict (Obj.data_mapDict f _)),t.mapDict _,Obj.data_mapDict f _,?_,λx C=>?_,by rw[keys_map_putAt]; exact h,by rw[i]; simp⟩
  ·have u:=modify_map_putAt (fQ knd) (λe:Kg=>{ e with val:=v }) k v (λ_ _=>rfl) h r
   rw[<- m] at u
   obtain ⟨l⟩:=G
   simpa using u
  ·obtain ⟨y,F,rfl⟩:=Dd.mp C
   unfold putAt
   split <;> exact knd.keeps (c y F) g f (Bo ..)
end
end Nd
namespace L2
open PySem PySem.Spec PyProof.Rows
section
variable{a:Type}[DecidableEq a]
def aO(b:List (a×V))(k:a):Option V:=(b.find? λc=>decide (c.1=k)).map (·.2)
def Wd(b:List (a×V))(k:a)(v:V):List (a×V) :=
 if (b.any λc=>decide (c.1=k))=true then b.map (λc=>if c.1=k then (c.1,v) else c) else b++[(k,v)]
theorem Yw{p:a×V}{r:List (a×V)}{k:a}(e:p.1=k):aO (p::r) k=some p.2:=by simp [aO,Iy,e]
theorem Yn{p:a×V}{r:List (a×V)}{k:a}(e:¬ p.1=k):aO (p::r) k=aO r k:=by simp [aO,Iy,e]
theorem nC(k:a):∀b:List (a×V),(b.any λkv=>decide (kv.1=k))=(aO b k).isSome
 | []=>rfl
 | p::r=>by
  rw[Zi]
  by_cases e:p.1=k
  ·simp only[Yw e,decide_eq_true e,Bool.true_or,Option.isSome_some]
  ·rw[Yn e,decide_eq_false e,Bool.false_or]; exact nC k r
theorem aY(b:List (a×V))(k:a)(v:V):(Wd b k v).length<=b.length+1:=by
 unfold Wd
 split
 ·rw[Ad]; omega
 ·rw[Bm,Bl,Kj]; omega
theorem yT.isSome_eq{o:Option V}{u:Option Value}(r:yT o u):o.isSome=u.isSome:=by
 cases o with
 | none=>cases u with
  | none=>rfl
  | some _=>exact (show False from r).elim
 | some _=>cases u with
  | none=>exact (show False from r).elim
  | some _=>rfl
theorem KV.val{c:List (a×V)}{vs:List (a×Value)}(r:KV c vs)(k:a):yT (aO c k) (valueAt vs k):=by
 unfold KV at r
 induction r with
 | nil=>exact True.intro
 | @cons p q l f h t j =>
  obtain ⟨g,i⟩:=h
  by_cases e:p.1=k
  ·have d:q.1=k:=g.symm.trans e
   have b:valueAt (q::f) k=some q.2:=by simp [valueAt,Iy,d]
   rw[Yw e,b]; exact i
  ·have d:¬ q.1=k:=λz=>e (g.trans z)
   have b:valueAt (q::f) k=valueAt f k:=by simp [valueAt,Iy,d]
   rw[Yn e,b]; exact j
end
theorem Y6{P:Bk}{w:World}{k:Lb}{u:Value}(r:RelV (kV k) u):(Kb P w).is k u=true:=by
 cases k with
 | inl i=>obtain ⟨t,e⟩:=(show ∃t,u=Oc i t from r); subst e; exact qD P w i t
 | inr x=>obtain ⟨t,e⟩:=(show ∃t,u=Value.str x t from r); subst e; exact qK P w x t
theorem iS{P:Bk}{w:World}:∀{ks:List Lb} {us:List Value},Gj (ks.map kV) us->ItemsAre (Kb P w) ks us
 | [],_,r=>by rw[Qh] at r; cases r; exact .nil
 | k::ks,_,r=>by
  rw[Ap] at r
  cases r with
  | cons h t=>exact .cons (Y6 h) (iS t)
abbrev KT(H:Hp):List (List Lb×V)->List (List Lb×Addr×Value)->Prop:=Paired λp q=>p.1=q.1/\H q.2.1=some (.tup (p.1.map kV))/\RelV p.2 q.2.2
theorem KT.val{H:Hp}{a:List (List Lb×V)}{xs:List (List Lb×Addr×Value)}(r:KT H a xs)(k:List Lb):yT (aO a k) ((atKey xs k).map (·.2)):=by
 induction r with
 | nil=>exact True.intro
 | @cons p q j c h t i =>
  obtain ⟨f,_,g⟩:=h
  by_cases e:p.1=k
  ·have d:q.1=k:=f.symm.trans e
   have b:atKey (q::c) k=some q.2:=by simp [atKey,Iy,d]
   rw[Yw e,b]; exact g
  ·have d:¬ q.1=k:=λz=>e (f.trans z)
   have b:atKey (q::c) k=atKey c k:=by simp [atKey,Iy,d]
   rw[Yn e,b]; exact i
theorem KT.repl{H:Hp}{a:List (List Lb×V)}{xs:List (List Lb×Addr×Value)}(r:KT H a xs)(k:List Lb){y:V}{u:Value}(f:RelV y u):KT H (a.map λkv=>if kv.1=k then (kv.1,y) else kv) (xs.map (putAt k u)):=by
 induction r with
 | nil=>exact .nil
 | @cons p q j i h t g =>
  rw[Ap,Ap]
  refine .cons ?_ g
  obtain ⟨b,c,d⟩:=h
  unfold putAt
  by_cases e:p.1=k
  ·rw[if_pos e,if_pos (b.symm.trans e)]; exact ⟨b,c,f⟩
  ·rw[if_neg e,if_neg (λz=>e (b.trans z))]; exact ⟨b,c,d⟩
theorem KT.put{H:Hp}{a:List (List Lb×V)}{xs:List (List Lb×Addr×Value)}(r:KT H a xs)(k:List Lb){b:Addr}{y:V}{u:Value}(hb:H b=some (.tup (k.map kV)))(c:RelV y u):KT H (Wd a k y) (storedH xs k b u):=by
 have e:(a.any λd=>decide (d.1=k))=(atKey xs k).isSome:=by
  rw[nC,(r.val k).isSome_eq,Option.isSome_map]
 unfold Wd storedH
 rw[e]
 by_cases q:(atKey xs k).isSome=true
 ·rw[if_pos q,if_pos q]; exact r.repl k c
 ·rw[if_neg q,if_neg q]; exact Paired.snoc r ⟨rfl,hb,c⟩
theorem KT.keeps{H c:Hp}{a:List (List Lb×V)}{xs:List (List Lb×Addr×Value)}(r:KT H a xs)(d:∀b ys,H b=some (.tup ys)->c b=some (.tup ys)):KT c a xs :=
 Paired.mapP r λ_ _ z=>⟨z.1,d _ _ z.2.1,z.2.2⟩
section
variable{P:Bk}{w:World}{H:Hp}{h:Heap}{a:Addr}
theorem q9{u:HO}(ok:Zx P w H h)(e:Rd H a u):Jz P w H h a u:=e.ok ok
theorem X9{b:List (Lb×V)}(ok:Zx P w H h)(e:Rd H a (.dK b)):b.length<=Ay/\(a == Hf)=false/\∃vs,KV b vs/\h.DictOf (Kb P w) a vs :=
 show Jz P w H h a (.dK b) from q9 ok e
theorem dN{ks:List Lb}(ok:Zx P w H h)(e:H a=some (.tup (ks.map kV))):(Py (Kb P w)).is h ks a:=by
 obtain ⟨_,b,r,o,d,c,n,f⟩:=(show Jz P w H h a (.tup (ks.map kV)) from ok a _ e)
 exact ⟨o,b.toArray,n,d,c,f,by simpa using iS r⟩
theorem l0{b:List (List Lb×V)}(ok:Zx P w H h)(e:Rd H a (.dT b)):b.length<=Ay/\(a == Hf)=false/\∃xs,KT H b xs/\h.DictOfH (Py (Kb P w)) a xs:=by
 obtain ⟨z,y,xs,r,o,s,j,i,d,g,n,k,u⟩:=(show Jz P w H h a (.dT b) from q9 ok e)
 refine ⟨z,y,xs,r,o,s,j,i,d,g,n,λx hx=>?_,k⟩
 have all:∀{l:List (List Lb×V)} {m:List (List Lb×Addr×Value)},KT H l m->∀x∈m,(Py (Kb P w)).is h x.1 x.2.1:=by
  intro l m q
  induction q with
  | nil=>intro x hx; exact nomatch hx
  | @cons p q A v c t f =>
   intro x hx
   rcases Ak.mp hx with e | hx
   ·subst e
    exact dN ok (by rw[<- c.1]; exact c.2.1)
   ·exact f x hx
 exact all r x hx
theorem zS{b:List (List Lb×V)}(ok:Zx P w H h)(e:Rd H a (.dT b)):b.length<=Ay/\(a == Hf)=false/\∃xs,KT H b xs/\Nd.DictE (Py (Kb P w)) h a xs:=by
 obtain ⟨z,y,xs,r,o,u,k,j,d,i,s,n,f⟩:=(show Jz P w H h a (.dT b) from q9 ok e)
 refine ⟨z,y,xs,r,o,u,k,j,d,i,s,λx hx=>?_,n,f⟩
 have all:∀{l:List (List Lb×V)} {m:List (List Lb×Addr×Value)},KT H l m->∀x∈m,(Py (Kb P w)).is h x.1 x.2.1:=by
  intro l m q
  induction q with
  | nil=>intro x hx; exact nomatch hx
  | @cons p q A v c t g =>
   intro x hx
   rcases Ak.mp hx with e | hx
   ·subst e
    exact dN ok (by rw[<- c.1]; exact c.2.1)
   ·exact g x hx
 exact all r x hx
theorem IW{b:List (List Lb×V)}(ok:Zx P w H h)(e:H a=some (.dT b)):b.length<=Ay/\(a == Hf)=false/\∃xs,KT H b xs/\h.DictOfH (Py (Kb P w)) a xs:=l0 ok (.inl e)
end
def E9(H:Hp)(a:Addr)(y:V)(r:Option V):Prop :=
 (∃c k,Rd H a (.dK c)/\y=kV k/\r=aO c k)\/∃c k b,Rd H a (.dT c)/\y=.ref b/\H b=some (.tup (k.map kV))/\r=aO c k
theorem E9.t{H:Hp}{a b:Addr}{c:List (List Lb×V)}{k:List Lb}(e:H a=some (.dT c))(d:H b=some (.tup (k.map kV))):E9 H a (.ref b) (aO c k):=.inr ⟨c,k,b,.inl e,rfl,d,rfl⟩
section
variable{X:Cx}{c:List (Addr×Obj)}{d:St}{H:Hp}{s:Ah}{a:Addr}{y v:V}{u r:Value}{o:Option V}{A:Ci}{E:Value->Ah->Prop}
theorem Inv.big(I:Inv X c d H s):Hf<s.heap.objs.size:=by
 have h:Dl<s.heap.objs.size:=(I.mod.glob.keeps I.bk).lt
 exact Wb (by decide) h
theorem wJ{Q:Value->Ah->Prop}(D:A.units+1<cLine)(I:Inv X c d H s)(g:E9 H a y (some v))(x:RelV y u)(h:∀j s',Inv X c d H s'->RelV v j->Q j s'):wpAny (model X.prog X.w) A (Rv (.ref a) u) Q E s:=by
 rcases g with ⟨n,k,e,m,l⟩ | ⟨n,k,b,e,m,G,l⟩
 ·subst m
  obtain ⟨z,B,vs,i,r⟩:=X9 I.hok e
  obtain ⟨j,t,f⟩:=yT.some_of (v:=v) (o:=valueAt vs k) (by rw[l]; exact i.val k)
  exact wpAny_getItem_of (Y6 x) r.mapOf t (h j _ (I.tok _) f)
 ·subst m
  cases (show u=Be b from x)
  obtain ⟨z,B,C,i,r⟩:=l0 I.hok e
  obtain ⟨j,t,f⟩:=yT.some_of (v:=v) (o:=(atKey C k).map (·.2)) (by rw[l]; exact i.val k)
  obtain ⟨p,F,q⟩:=Option.map_eq_some_iff.mp t
  refine wpAny_getItem_heap (tupleKind_room_in1 D) (dN I.hok G) r F ?_
  rw[q]
  exact h j _ (I.tok _) f
theorem vE{h':Heap}{t':Nat}{f:HO}(I:Inv X c d H s)(j:HP (H a))(k:Cu a s.heap h')(i:∃q,h'.get? a=some q)(g:Jz X.prog X.w (upd H a f) h' a f):Inv X c d (upd H a f) { s with heap:=h',toks:=t' } :=
 I.write (x:=a) (e:=a) j (.inl rfl) (λb q h z=>(k.2 b h).trans z) i g
end
def BH(i:Expr):Prop:=∀a b,subscripted i false a b=operate [a,b] (Rv a b)
theorem Q3{prog:Bk}{w:World}{A:Ci}{E:Value->Ah->Prop}{s:Ah}{env:Env}{b a:Expr}{pos:Pos}{T id:String}{Q:Value->Ah->Prop}(hl:fO (.type T) "__getitem__" = pure (some (.builtin id)))(m:BH a)(h:wpAny (model prog w) A (eval b env) (λo f=>wpAny (model prog w) A (eval a env) (λi c=>c.TypeIs o T/\wpAny (model prog w) A (Rv o i) Q E c) E f) E s):wpAny (model prog w) A (eval (.Subscript b a pos) env) Q E s:=by
 refine Subscript_ (Cv h (λo f k=>Cv k (λi c d=>?_) λ_ _ x=>x) λ_ _ x=>x)
 obtain ⟨l,d⟩:=d
 unfold subscriptTail
 refine Aa ?_
 rw[getitemInPython_of_ne l.not_modules]
 refine Aa (wpAny_specialOf l hl ?_)
 have g:wpAny (model prog w) A (subscripted a false o i) (λr e=>wpAny (model prog w) A (letTemporaryGo b o r >>= λ_=>pure r) Q E e) E c:=by
  rw[m o i]
  exact wpAny_operating (Cv d (λr e j=>Aa (wpAny_letTemporaryGo (Ae j))) λ_ _ x=>x)
 first
  | exact Ae (Aa g)
  | exact Aa (Ae (Aa g))
  | exact Aa g
theorem oO{X:Cx}{c:List (Addr×Obj)}{h:St}{H:Hp}{s:Ah}{a:Addr}{y:V}{o:Option V}(I:Inv X c h H s)(g:E9 H a y o):s.TypeIs (.ref a) "dict" := by
 rcases g with ⟨d,k,e,_,_⟩ | ⟨d,k,b,e,_,_,_⟩
 ·obtain ⟨_,_,vs,_,f⟩:=X9 I.hok e
  exact f.typeIs
 ·obtain ⟨_,_,i,_,f⟩:=l0 I.hok e
  exact f.typeIs
def IT(d ty:TE):TE:=λb H Q=>d b H λx e=>ty b e λy c=>∃a v,x=.ref a/\E9 c a y (some v)/\Q v c
section
variable{X:Cx}{o i e b:Expr}{pos d f:Pos}{c ty j:TE}
theorem M8(D:X.A.units+1<cLine)(E:PE X o c)(p:PE X i ty)(B:BH i):PE X (.Subscript o i pos) (IT c ty):=by
 intro b s j H Q I h
 refine Q3 PySem.F.slot_dict_getitem.lookup B (Fp (E b s j H _ I h) λu z ⟨x,t,q,k,C⟩=>Fp (p b z j t _ q C) λJ K d => ?_)
 obtain ⟨y,w,f,n,a,v,r,g,m⟩ := d
 subst r
 obtain rfl:u=Be a:=k
 exact ⟨oO f g,wJ D f g n λG L l e=>⟨v,w,l,e,m⟩⟩
end
theorem pV{P:Bk}{w:World}{H:Hp}(h:Heap)(hb:Hf<h.objs.size):Jz P w H (h.push { cls:=.type "dict",data:=.dict #[] }) h.objs.size (.dT []) :=
 ⟨Do _,beq_eq_false_iff_ne.mpr (Lu (Bq hb)),[],.nil,_,#[],0,Ar _ rfl,⟨rfl,rfl,rfl⟩,rfl,rfl,Ep,rfl⟩
structure M1(X:Cx)(o:Expr)(m:Str)(apos:Pos)(e:Expr)(cpos:Pos):Prop where
 base:Vy o m X.env (eval o X.env)=eval o X.env
 few:((Hg cpos (Bj [e] X.env)).all (λx=>!x.1) && (backToKw cpos (bK [] X.env)).all (λx=>x.1.isSome)
  && decide (([e]:List Expr).length+([]:List Vc).length+(if ([]:List Vc).isEmpty then 0 else 1)<30))=true
 line:(apos.endLine == cpos.line)=true
 trees:Hg cpos (Bj [e] X.env)=[(false,eval e X.env)]
structure M2(X:Cx)(o:Expr)(m:Str)(apos:Pos)(e f:Expr)(cpos:Pos):Prop where
 base:Vy o m X.env (eval o X.env)=eval o X.env
 few:((Hg cpos (Bj [e,f] X.env)).all (λx=>!x.1) && (backToKw cpos (bK [] X.env)).all (λx=>x.1.isSome)
  && decide (([e,f]:List Expr).length+([]:List Vc).length+(if ([]:List Vc).isEmpty then 0 else 1)<30))=true
 line:(apos.endLine == cpos.line)=true
 trees:Hg cpos (Bj [e,f] X.env)=[(false,eval e X.env),(false,eval f X.env)]
end L2
namespace Nd
open PySem PySem.Spec PyProof.Rows L2
section
variable{prog:Bk}{w:World}{A:Ci}{E:Value->Ah->Prop}{s:Ah}{a:Type}[DecidableEq a]
theorem tF(knd:HeapKind prog w a)(d:Addr)(hd:(d == Hf)=false):MeetsIn prog w (Builtin.«dict.__len__» ⟨[.ref d],[]⟩) (λ_ R s=>∃xs,s.heap.DictOfH knd d xs/\R (.ok (.ret (.int xs.length s.toks))) { s with toks:=s.toks+1 }) :=
 .of_wp λA R s ⟨xs,f,h⟩=>by
  obtain ⟨o,i,k,g,l,b,e,c,j⟩:=f
  show wpAny _ _ (dictSize d >>= _) _ _ s
  unfold dictSize
  refine Aa (Aa (Uz g b (Ae ?_)))
  show wpAny _ _ (Builtin.Dict.pendingCount d >>= _) _ _ s
  refine Aa (wpAny_pendingCount_other hd ?_)
  refine wpAny_ret_mkInt ?_
  have : i.size=xs.length:=size_of_entries e
  rw[Nat.add_zero,this]; exact h
theorem fV{knd:HeapKind prog w a}{d:Addr}{xs:List (a×Addr×Value)}{Q:Value->Ah->Prop}(hd:(d == Hf)=false)(b:s.heap.DictOfH knd d xs)(c:(xs.length:Int)<2 ^ 63)(h:Q (.int xs.length (s.toks+1)) { s with toks:=s.toks+1+1 }):wpAny (model prog w) A (call (.builtin "len") [.ref d]) Q E s:=by
 refine Rg kind_len plain_len entry_len (args_len1 _) ?_
 unfold Builtin.«len»
 refine Aa (m:=oneArg "len" _) (Ae ?_)
 refine Aa (m:=callSpecial? (.ref d) (Ds "__len__")) (Df (name:=Ds "__len__") b.typeIs F.slot_dict_len
  (call_meetsIn F.slot_dict_len b.typeIs F.entry_dict_len (F.args_dict_len_1 _) (tF knd d hd) ⟨xs,b,?_⟩))
 show wpAny _ _ _ _ _ { s with toks:=s.toks+1 }
 refine Aa (Ct (Ae ?_))
 refine Aa (wpAny_letGo ?_)
 show wpAny _ _ (if ((xs.length:Nat):Int)<0 then _ else _) _ _ _
 rw[if_neg (by omega)]
 show wpAny _ _ (if ((xs.length:Nat):Int) ≥ 2 ^ 63 then _ else _) _ _ _
 rw[if_neg (by omega)]
 exact Aa (wpAny_mkInt (Ae ⟨_,rfl,h⟩))
end
def Y7:List V->Hp->VK->Prop:=λc H Q=>∃a b,c=[V.ref a]/\H a=some (.dT b)/\Q (.int b.length) H
theorem yP{X:Cx}:Ml X (.builtin "len") Y7:=by
 intro d s l H g k Q I r h
 obtain ⟨a,c,rfl,i,q⟩:=h
 obtain ⟨u,rfl,e⟩:=vals1 r
 cases e
 obtain ⟨z,j,g,b,f⟩:=IW I.hok i
 refine fV j f (by rw[<- Paired.length b]; rw[Gn] at z; omega) ?_
 rw[<- Paired.length b]
 exact ⟨.int c.length,H,I.tok _,⟨_,rfl⟩,q⟩
end Nd
namespace DL
open PySem PySem.Spec PyProof.Rows L2 Nd
def bP(ks:List (List Int×Af))(w:List Int):Option Af:=(ks.find? λp=>decide (p.1=w)).map (·.2)
def Ut(ks:List (List Int×Af))(w:List Int)(d:Af):List (List Int×Af) :=
 if (ks.any λp=>decide (p.1=w))=true then ks.map (λp=>if p.1=w then (p.1,d) else p) else ks++[(w,d)]
theorem cB{d i:Type}{f:d->i}(c:∀a b,f a=f b->a=b):∀{l m:List d},l.map f=m.map f->l=m
 | [],[],_=>rfl
 | [],_::_,h=>by cases h
 | _::_,[],h=>by cases h
 | a::l,b::m,h=>by
  obtain ⟨g,e⟩:=Hs h
  rw[c a b g,cB c e]
theorem fG{a b:List Int}(h:Bf a=Bf b):a=b:=cB (λx y e=>by cases e; rfl) (PyData.tuple.inj h)
theorem Ox{a b:List (List Int×Af)}(h:Wk a=Wk b):a=b:=cB (λx y e=>by
 obtain ⟨d,c⟩:=Prod.mk.inj e
 exact Prod.ext (fG d) c) (Hs h).2
theorem eE{a b:List Int}(h:Ls a=Ls b):a=b:=cB (λx y e=>by cases e; rfl) h
theorem lE(w:List Int):(Ls w).map kV=w.map V.int:=by
 unfold Ls
 rw[Cr]
 rfl
section
variable{K:PySem.W.Frag}{H b:Hp}
structure DRel(K:PySem.W.Frag)(H:Hp)(kv:List (List Lb×V))(ks:List (List Int×Af)):Prop where
 key:kv.map (·.1)=ks.map λp=>Ls p.1
 val:RdFs K H (kv.map (·.2)) (ks.map (·.2)) []
theorem RdF.dict_inv{v:V}{X:List (Af×Af)}{F:List Addr}(h:RdF K H v (.dict X) F):∃a kv ks,v=.ref a/\X=Wk ks/\H a=some (.dT kv)/\DRel K H kv ks/\F=[a]:=by
 cases h with
 | dic h e b=>exact ⟨_,_,_,rfl,rfl,h,⟨e,b⟩,rfl⟩
theorem RdFs.cons_nil{x:V}{d:Af}{xs:List V}{ds:List Af}{F:List Addr}(h:RdFs K H (x::xs) (d::ds) F)(b:F=[]):RdF K H x d []/\RdFs K H xs ds []:=by
 cases h with
 | cons a t =>
  obtain ⟨rfl,rfl⟩:=Vb.mp b
  exact ⟨a,t⟩
theorem Uh{kv:List (List Lb×V)}{ks:List (List Int×Af)}(r:DRel K H kv ks):kv.length=ks.length:=by
 have:=congrArg Ja r.key
 simpa using this
theorem oI(w:List Int):∀{kv:List (List Lb×V)} {ks:List (List Int×Af)},DRel K H kv ks->(aO kv (Ls w)=none/\bP ks w=none)\/∃v d,aO kv (Ls w)=some v/\bP ks w=some d/\RdF K H v d []
 | [],[],_=>.inl ⟨rfl,rfl⟩
 | [],_::_,r=>by cases r.key
 | _::_,[],r=>by cases r.key
 | (k,v)::kv,(u,d)::ks,r=>by
  obtain ⟨a,f⟩:=Hs r.key
  have a:k=Ls u:=a
  obtain ⟨b,e⟩:=RdFs.cons_nil r.val rfl
  by_cases h:u=w
  ·subst h a
   refine .inr ⟨v,d,Yw rfl,by simp [bP],b⟩
  ·have c:¬ k=Ls w:=λz=>h (eE (a.symm.trans z))
   rw[Yn c,show bP ((u,d)::ks) w=bP ks w by simp [bP,h]]
   exact oI w ⟨f,e⟩
theorem n8(w:List Int){kv:List (List Lb×V)}{ks:List (List Int×Af)}(r:DRel K H kv ks):(kv.any λp=>decide (p.1=Ls w))=(ks.any λp=>decide (p.1=w)):=by
 have a:(kv.any λp=>decide (p.1=Ls w))=((kv.map (·.1)).any λk=>decide (k=Ls w)):=by rw[bX]; rfl
 rw[a,r.key,bX]
 congr 1
 funext p
 exact decide_eq_decide.mpr ⟨λz=>eE z,λz=>by show Ls p.1=Ls w; rw[z]⟩
theorem gS(w:List Int){v:V}{d:Af}(c:RdF K H v d []):∀{kv:List (List Lb×V)} {ks:List (List Int×Af)},DRel K H kv ks->DRel K H (kv.map λp=>if p.1=Ls w then (p.1,v) else p) (ks.map λp=>if p.1=w then (p.1,d) else p)
 | [],[],r=>r
 | [],_::_,r=>by cases r.key
 | _::_,[],r=>by cases r.key
 | (k,v')::kv,(u,d')::ks,r=>by
  obtain ⟨a,i⟩:=Hs r.key
  have a:k=Ls u:=a
  obtain ⟨e,g⟩:=RdFs.cons_nil r.val rfl
  have b:=gS w c (kv:=kv) (ks:=ks) ⟨i,g⟩
  rw[Ap,Ap]
  by_cases h:u=w
  ·rw[if_pos (show k=Ls w by rw[a,h]),if_pos h]
   exact ⟨by rw[Ap,Ap,b.key]; exact congrArg (·::_) a,RdFs.cons (F:=[]) (G:=[]) c b.val⟩
  ·have f:¬ k=Ls w:=λz=>h (eE (a.symm.trans z))
   rw[if_neg (show ¬ (k,v').1=Ls w from f),if_neg (show ¬ (u,d').1=w from h)]
   exact ⟨by rw[Ap,Ap,b.key]; exact congrArg (·::_) a,RdFs.cons (F:=[]) (G:=[]) e b.val⟩
theorem r6(w:List Int){v:V}{d:Af}(a:RdF K H v d []){kv:List (List Lb×V)}{ks:List (List Int×Af)}(r:DRel K H kv ks):DRel K H (Wd kv (Ls w) v) (Ut ks w d):=by
 unfold Wd Ut
 rw[n8 w r]
 split
 ·exact gS w a r
 ·refine ⟨by rw[Bn,Bn,r.key]; rfl,?_⟩
  rw[Bn,Bn]
  exact r.val.snoc a
theorem DRel.kp{kv:List (List Lb×V)}{ks:List (List Int×Af)}(r:DRel K H kv ks)(k:Kp [] H b):DRel K b kv ks:=⟨r.key,r.val.kp k⟩
end
def GR:R2:=λx y H Q=>∃a v,x=.ref a/\E9 H a y (some v)/\Q v H
def lU:D2:=λx y P=>match x,y with
 | .dat _ (.dict X),.dat _ k=>∃a w d,X=Wk a/\k=Bf w/\bP a w=some d/\P (.dat .ow d)
 | _,_=>False
section
variable{K:PySem.W.Frag}
theorem cC{H:Hp}{v:V}{w:List Int}{F:List Addr}(r:RdF K H v (Bf w) F):∃b,v=.ref b/\H b=some (.tup ((Ls w).map kV)):=by
 obtain ⟨b,d,rfl,a,c,_⟩:=r.tup_inv
 obtain ⟨rfl,_⟩:=c.ints_inv
 exact ⟨b,rfl,by rw[lE]; exact a⟩
theorem X1:tL K GR lU:=by
 intro B X n S T x y v w F G H Q P f e k
 unfold lU at e
 split at e
 ·obtain ⟨C,u,d,rfl,rfl,c,p⟩:=e
  obtain ⟨b,rfl,i⟩:=cC (f.told mem_mid)
  obtain ⟨a,A,j,rfl,h,q,g,_⟩:=(f.told Ga).dict_inv
  obtain rfl:=Ox h
  rcases oI u g with ⟨_,z⟩ | ⟨r,s,o,l,m⟩
  ·rw[z] at c; cases c
  ·rw[l] at c; cases c
   exact ⟨a,r,rfl,o▸E9.t q i,k _ _ [] H (f.drop2.pushI m) p⟩
 ·exact e.elim
end
section
variable{X:Cx}{a b:Expr}{c d:DE}{pos:Pos}
theorem LU{n:Nat}(a:n+64<cLine):n+1<cLine:=by omega
theorem cG(e:X.A.units+64<cLine)(f:Gq X a c)(hb:Gq X b d)(g:BH b:=by intro _ _; rfl):Gq X (.Subscript a b pos) (dO lU c d):=PE.imp (M8 (LU e) f hb g) (pA X1)
end
def sV:DC:=λb P=>match b with
 | [.dat _ (.dict X)]=>∃a,X=Wk a/\P (.dat .ow (.int a.length))
 | _=>False
theorem U3{K:PySem.W.Frag}:Td K Y7 sV:=by
 intro o X n S T l m H Q P j b c k
 unfold sV at c
 split at c
 ·rename_i h
  obtain ⟨v,F,rfl,b⟩:=Hw j b h
  obtain ⟨q,rfl,p⟩:=c
  obtain ⟨a,g,f,rfl,e,i,d,_⟩:=(b.told mem_mid).dict_inv
  obtain rfl:=Ox e
  refine ⟨a,g,rfl,i,?_⟩
  rw[Uh d]
  exact k _ _ [] H (b.drop.pushI (.int _)) p
 ·exact c.elim
def LP(i:Nat)(y z:DV)(a:DS)(D:DEnds):Prop:=match a.sl[i]?,y,z with
 | some (.dat .ow (.dict X)),.dat _ e,.dat _ k=>npk a.sl=true/\imm e=true/\∃b w,X=Wk b/\k=Bf w/\b.length<1000000/\D.nx ⟨a.sl.set i (.dat .ow (.dict (Wk (Ut b w e)))),a.n⟩
 | _,_,_=>False
def MK(i:Nat)(z:DV)(a:DS)(D:DEnds):Prop:=match a.sl[i]?,z with
 | some (.dat m (.list ds)),.dat _ (.int k)=>own1 m=true/\npk a.sl=true/\Dw ds=true/\0<=k/\k<ds.length/\k<=1000000/\D.nx ⟨a.sl.set i (.dat m (.list (ds.eraseIdx k.toNat))),a.n⟩
 | _,_=>False
def isLst:Option DV->Bool
 | some (.dat _ (.list _))=>true
 | _=>false
def Z0:V->Int
 | .int i=>i
 | _=>0
def Y2(H:Hp)(r:Addr):List Int:=match H r with
 | some (.tup xs)=>xs.map Z0
 | _=>[]
theorem BF{H:Hp}{r:Addr}{w:List Int}(h:H r=some (.tup (w.map V.int))):Y2 H r=w:=by
 unfold Y2
 rw[h]
 show (w.map V.int).map Z0=w
 rw[Cr]
 exact List.map_id' w
section
variable{K:PySem.W.Frag}{H:Hp}
theorem oP:∀{c:List (List Int)} {xs:List V} {ds:List Af} {G:List Addr},RdFs K H xs ds G->ds=c.map Bf->∃b:List Addr,xs=b.map V.ref/\c=b.map (Y2 H)/\G=[]/\(∀r∈b,H r=some (.tup ((Y2 H r).map V.int)))/\∀r∈b,RdF K H (.ref r) (Bf (Y2 H r)) []
 | [],_,_,_,h,e=>by
  subst e
  cases h
  exact ⟨[],rfl,rfl,rfl,(λ_ z=>nomatch z),(λ_ z=>nomatch z)⟩
 | w::c,_,_,_,h,e=>by
  cases h with
  | nil=>cases e
  | cons a t =>
   obtain ⟨j,k⟩:=Hs e
   obtain ⟨b,rfl,rfl,rfl,i,g⟩:=oP t k
   subst j
   obtain ⟨r,rfl,f⟩:=cC a
   rw[lE] at f
   have d:=BF f
   obtain rfl:=a.imm (show imm (Bf w)=true from Nu w)
   refine ⟨r::b,rfl,by rw[Ap,d],rfl,λx hx=>?_,λx hx=>?_⟩
   ·rcases Ak.mp hx with rfl | hx
    ·rw[d]; exact f
    ·exact i x hx
   ·rcases Ak.mp hx with rfl | hx
    ·rw[d]; exact a
    ·exact g x hx
theorem eY:∀{a:List Addr},(∀r∈a,RdF K H (.ref r) (Bf (Y2 H r)) [])->RdFs K H (a.map V.ref) ((a.map (Y2 H)).map Bf) []
 | [],_=>.nil
 | r::a,h=>RdFs.cons (F:=[]) (G:=[]) (h r (Ab ..)) (eY λx b=>h x (Ac _ b))
theorem cW:∀L:List (List Int),Dw (L.map Bf)=true
 | []=>rfl
 | w::L=>by
  show (imm (Bf w) && Dw (L.map Bf))=true
  rw[cW L,show imm (Bf w)=true from Nu w]; rfl
def kD:DC:=λb P=>match b with
 | [.dat _ (.list ds)]=>∃a:List (List Int),ds=a.map Bf/\∀L:List (List Int),L.Perm a->L.Pairwise (λx y=>HT.lexLt y x=false)->P (.dat .ow (.list (L.map Bf)))
 | _=>False
theorem Za:Td K (Ts.rSortI K) kD:=by
 intro A X n S T x y H Q P o b c k
 unfold kD at c
 split at c
 ·rename_i l
  obtain ⟨v,F,rfl,b⟩:=Hw o b l
  obtain ⟨z,rfl,m⟩:=c
  obtain ⟨a,w,G,rfl,t,f,rfl,u⟩:=(b.told mem_mid).list_inv
  obtain ⟨i,rfl,rfl,rfl,j,g⟩:=oP f rfl
  refine ⟨a,i,Y2 H,rfl,Mq.of t,λr d=>Ru.of (j r d),λq s p e h=>?_⟩
  refine k _ _ _ _ (b.drop.newI (eY λr d=>g r (e.mem_iff.mp d)) (cW _) (by rw[Ad,Ad,e.length_eq]; simpa using u) p .ow) (m _ (e.map _) (List.pairwise_map.mpr h))
 ·exact c.elim
end
end DL
namespace Nd
open PySem PySem.Spec PyProof.Rows L2
def gP(h:Heap)(d:Addr)(es:Array Kg)(ep:Nat):Prop:=∃a,h.get? d=some a/\a.ExactDict/\a.data=.dict es ep
theorem gP.at{h h':Heap}{d:Addr}{es:Array Kg}{ep:Nat}(x:gP h d es ep)(k:∀o,h.get? d=some o->h'.get? d=some o):gP h' d es ep:=let ⟨ob,e,r⟩:=x; ⟨ob,k ob e,r⟩
section
variable{prog:Bk}{w:World}{A:Ci}{E:Value->Ah->Prop}{s:Ah}{it d:Addr}{es:Array Kg}{i ep:Nat}
theorem lZ{Q:Option Value->Ah->Prop}{x:Kg}(g:s.heap.IsKeyIter it d i es.size ep)(l:gP s.heap d es ep)(e:es[i]? = some x)(k:∀h',h'.IsKeyIter it d (i+1) es.size ep->Cu it s.heap h'->Q (some x.key) { s with heap:=h' }):wpAny (model prog w) A (callSpecial? (.ref it) (Ds "__next__")) Q E s:=by
 obtain ⟨p,c,m,b⟩:=id g
 obtain ⟨n,f,q,h⟩:=id l
 have a:=g.typeIs
 refine Df (name:=Ds "__next__") a PySem.F.slot_dict_keyiterator_next (Dj PySem.F.slot_dict_keyiterator_next a PySem.F.entry_dict_keyiterator_next ?_ (PySem.F.args_dict_keyiterator_next_1 _))
 refine Aa (Ae (Aa (Aa ?_)))
 first | refine Aa (Kr a (Ae ?_)) | refine Aa (Mx a (Ae ?_))
 refine Aa (bJ c b ?_)
 simp only[show Vd "dict_keyiterator" = false by decide,Bz,if_false]
 show wpAny _ _ (ite ((Be d == Gp)=true) _ _) _ _ s
 rw[if_neg (show ¬ (Be d == Gp)=true from Bs)]
 refine Aa (Ae (Aa (Uz f h ?_)))
 rw[if_neg (by simp)]
 refine Aa (Ae (Aa (wpAny_dictEpoch f h ?_)))
 rw[if_neg (by simp)]
 refine Ae ?_
 obtain ⟨r,o⟩:=Ic.mp e
 simp only[show ¬ ((i:Int)<0) from by omega,Ed,if_false,e]
 refine Aa ?_
 first | refine Aa (Kr a (Ae ?_)) | refine Aa (Mx a (Ae ?_))
 refine Aa (wpAny_isOneOf_keyiter a ?_)
 show wpAny _ _ (bind (Qr (.ref it) 1 (Fe ((i:Int)+1))) _) _ _ s
 refine Aa (Ma c b (by simp) ?_)
 have j:(s.heap.update it (Obj.mapFields (·.setIfInBounds 1 (Fe ((i:Int)+1))))).IsKeyIter it d (i+1) es.size ep :=
  ⟨_,Fd _ c (Obj.isFreed_of_fields (Rf b _)),(Obj.cls_mapFields ..).trans m,by rw[Rf b]; simp [Fe]⟩
 refine Aa (Ct (Aa (wpAny_isOneOf_keyiter (s:={ s with heap:=s.heap.update it (Obj.mapFields (·.setIfInBounds 1 (Fe ((i:Int)+1)))) }) j.typeIs ?_)))
 show wpAny _ _ (pure x.key) _ _ _
 exact Ae (Ae ⟨_,rfl,k _ j (Bo ..)⟩)
theorem xW{Q:Option Value->Ah->Prop}(h:A.handled=none)(i:s.heap.IsKeyIter it d es.size es.size ep)(l:gP s.heap d es ep)(k:∀h' e,Xg it s.heap h'->(∃o,h'.get? e=some o/\o.cls=.type "StopIteration")->E (.ref e) { s with heap:=h' }):wpAny (model prog w) A (callSpecial? (.ref it) (Ds "__next__")) Q E s:=by
 obtain ⟨p,f,r,g⟩:=id i
 obtain ⟨n,c,q,j⟩:=id l
 have b:=i.typeIs
 refine Df (name:=Ds "__next__") b PySem.F.slot_dict_keyiterator_next (Dj PySem.F.slot_dict_keyiterator_next b PySem.F.entry_dict_keyiterator_next ?_ (PySem.F.args_dict_keyiterator_next_1 _))
 refine Aa (Ae (Aa (Aa ?_)))
 first | refine Aa (Kr b (Ae ?_)) | refine Aa (Mx b (Ae ?_))
 refine Aa (bJ f g ?_)
 simp only[show Vd "dict_keyiterator" = false by decide,Bz,if_false]
 show wpAny _ _ (ite ((Be d == Gp)=true) _ _) _ _ s
 rw[if_neg (show ¬ (Be d == Gp)=true from Bs)]
 refine Aa (Ae (Aa (Uz c j ?_)))
 rw[if_neg (by simp)]
 refine Aa (Ae (Aa (wpAny_dictEpoch c j ?_)))
 rw[if_neg (by simp)]
 refine Ae ?_
 simp only[show ¬ ((es.size:Int)<0) from by omega,Ed,if_false,Tu (Aj es.size)]
 refine Aa ?_
 first | refine Aa (Kr b (Ae ?_)) | refine Aa (Mx b (Ae ?_))
 show wpAny _ _ (bind (Qr (.ref it) 0 .none) _) _ _ s
 refine Aa (Ma f g (by simp) ?_)
 show wpAny _ _ (bind (newExc (.type "StopIteration") []) _) _ _ _
 refine Aa ?_
 simp only[newTuple,newExc]
 refine Aa (Cg ?_ (by size_fits))
 refine Aa (m:=Kd _ _) (Jm (a:=Gp) (by first | rfl | (simp only[Kd]; rfl)) (Cg ?_ (by size_fits)))
 simp only[raiseNew]
 refine Aa (wpAny_handled ?_)
 first | rw[show A.in1.handled=none from h] | rw[h]
 refine Aa (Ae (wpAny_throw ?_))
 exact k _ _ (((Bo ..).extBut.push _).push _) ⟨_,Ar _ rfl,rfl⟩
theorem yM{Q:Value->Ah->Prop}(hd:(d == Hf)=false)(g:gP s.heap d es ep)(k:Q (.ref s.heap.objs.size) { s with heap:=s.heap.push { cls:=.type "dict_keyiterator",data:=.fields #[.ref d,.int 0 0,.int es.size 0,.int ep 0] } }):wpAny (model prog w) A (pyIter (.ref d)) Q E s:=by
 obtain ⟨e,a,f,c⟩:=id g
 have b:s.TypeIs (.ref d) "dict" := ⟨e,a,f.1⟩
 refine jB b PySem.F.slot_dict_iter (Dj PySem.F.slot_dict_iter b PySem.F.entry_dict_iter ?_ (PySem.F.args_dict_iter_1 _))
 unfold Builtin.«dict.__iter__» Builtin.Dict.dictSlotNone
 refine Aa (Aa (wpAny_notOrdered_dict b ?_))
 show wpAny _ _ (pure (.ref d:Value)) _ _ s
 refine Ae ?_
 show wpAny _ _ (bind (Builtin.Dict.showsAll d) _) _ _ s
 unfold Builtin.Dict.showsAll
 rw[if_neg (by rw[hd]; exact Bs)]
 refine Aa (Ae (Aa (Uz a c (Aa (wpAny_dictEpoch a c ?_)))))
 refine Aa (Cg (Ae ⟨_,rfl, "dict_keyiterator",_,⟨_,Ar _ rfl,rfl⟩,PySem.F.slot_dict_keyiterator_next.lookup,?_⟩))
 exact k
end
theorem gZ{prog:Bk}{w:World}{A:Ci}(j:A.handled=none)(it d:Addr)(a:d≠it)(es:Array Kg)(ep:Nat):Draws prog w A it [it,d] es.size (λi v=>∃x,es[i]? = some x/\v=x.key) (λi h=>h.IsKeyIter it d i es.size ep/\gP h d es ep) where
 live:=λ_ _ st=>let ⟨o,ho,_⟩:=st.1; ⟨o,ho⟩
 frame:=λ_ _ _ st b=>⟨st.1.at λo e=>b it (by simp) o e,st.2.at λo e=>b d (by simp) o e⟩
 item:=λi s Q E c st k=>by
  unfold Cf
  refine Aa (lZ st.1 st.2 (x:=es[i]) (by simp [c]) λg m f=>Ae ?_)
  exact k _ g s.toks ⟨_,by simp [c],rfl⟩ ⟨m,st.2.at λo e=>(f.2 d a).trans e⟩ f
 done:=λs Q E st l=>by
  unfold Cf
  exact Aa (xW j st.1 st.2 l)
structure ZApart(z TI TO i1 i2:Addr)(f1 f2:List Addr):Prop where
 tiz:TI≠z
 toz:TO≠z
 z1:i1≠z
 z2:i2≠z
 tito:TI≠TO
 ti1:TI≠i1
 ti2:TI≠i2
 to1:TO≠i1
 to2:TO≠i2
 i12:i1≠i2
 zf1:z∉f1
 zf2:z∉f2
 of1:TO∉f1
 of2:TO∉f2
 if1:i2∉f1
 if2:i1∉f2
section
variable{prog:Bk}{w:World}{A:Ci}{E:Value->Ah->Prop}{s:Ah}{z TI TO j l:Addr}{t r:List Addr}{p u i:Nat}{B C:Nat->Value->Prop}{n m:Nat->Heap->Prop}
theorem Hb{a b:Addr}{f:List Addr}(h:a∉f)(hb:b∈f):b≠a:=λe=>h (e▸hb)
theorem wL{a b:Value}{Q:Value->Ah->Prop}(Y:Draws prog w A j t p B n)(D2:Draws prog w A l r u C m)(f:ZApart z TI TO j l t r)(S:IsZip s.heap z TI TO .none)(gI:Fz s.heap TI (.ref j) (.ref l))(gO:Fz s.heap TO a b)(g1:n i s.heap)(g2:m i s.heap)(l1:i<p)(l2:i<u)(k:∀x y h' tk,B i x->C i y->IsZip h' z TI TO (Fe s.heap.objs.size)->Fz h' TO x y->n (i+1) h'->m (i+1) h'->Fz h' s.heap.objs.size x y->h'.objs.size=s.heap.objs.size+1->(∀c o,c≠z->c≠TO->c≠j->c≠l->s.heap.get? c=some o->h'.get? c=some o)->Q (.ref s.heap.objs.size) { s with heap:=h',toks:=tk }):wpAny (model prog w) A (Builtin.«zip.__next__» ⟨[.ref z],[]⟩) (λfin s'=>∃v,fin=.done (.ret v)/\Q v s') E s:=by
 obtain ⟨hp,g,d,k8,os⟩:=s
 show wpAny _ _ (bind (field (.ref z) 2) _) _ _ _
 refine Aa (Eh S rfl (x:=.bool false) rfl ?_)
 show wpAny _ _ (bind (field (.ref z) 3) _) _ _ _
 refine Aa (Eh S rfl (x:=.ref TI) rfl (Aa (Gy gI rfl ?_)))
 show wpAny _ _ (bind (Dh (.ref z)) _) _ _ _
 refine Aa ?_
 unfold Dh
 refine Aa (Eh S rfl (x:=.none) rfl (Ae ?_))
 simp only[if_true]
 refine Aa (Jr (Aa (Eh S rfl (x:=.ref TO) rfl (Aa (Iv S (by simp) λT O L=>?_)))))
 replace O:IsZip T z TI TO .ellipsis:=O
 replace L:Cu z hp T:=L
 refine Aa ?_
 simp only[Pv,Qz,Ll,List.zipIdx_nil]
 have k2:n i T:=Y.frame _ _ _ g1 λb h o q=>(L.2 b (Hb f.zf1 h)).trans q
 have h6:m i T:=D2.frame _ _ _ g2 λb h o q=>(L.2 b (Hb f.zf2 h)).trans q
 refine Aa (Aa (fJ ?_))
 show wpAny _ _ (bind (Cf (.ref j)) _) _ _ _
 refine Aa (Y.item i _ _ _ l1 k2 λx h2 k7 px k0 N=>Ae ?_)
 replace N:Cu j T h2:=N
 have U:Fz h2 TO a b:=(N.2 TO f.to1).trans ((L.2 TO f.toz).trans gO)
 refine Aa (Gy U rfl (Aa (bI U λZ M P=>?_)))
 replace M:Fz Z TO x b:=M
 replace P:Cu TO h2 Z:=P
 refine Aa (wpAny_letGo (Ae ?_))
 have k1:m i Z:=D2.frame _ _ _ h6 λb h o q=>(P.2 b (Hb f.of2 h)).trans ((N.2 b (Hb f.if2 h)).trans q)
 refine Aa (Aa (fJ ?_))
 show wpAny _ _ (bind (Cf (.ref l)) _) _ _ _
 refine Aa (D2.item i _ _ _ l2 k1 λy h4 k4 py h9 H=>Ae ?_)
 replace H:Cu l Z h4:=H
 have V:Fz h4 TO x b:=(H.2 TO f.to2).trans M
 refine Aa (Gy V rfl (Aa (bI V λD G I=>?_)))
 replace G:Fz D TO x y:=G
 replace I:Cu TO h4 D:=I
 refine Aa (wpAny_letGo (Ae (Ae ?_)))
 refine Aa (Gy G rfl (Aa (wpAny_newTuple ?_)))
 have sz:D.objs.size=hp.objs.size:=by rw[I.1,H.1,P.1,N.1,L.1]
 have R:IsZip D z TI TO .ellipsis:=(I.2 z f.toz.symm).trans ((H.2 z f.z2.symm).trans ((P.2 z f.toz.symm).trans ((N.2 z f.z1.symm).trans O)))
 have k5:∀c o,c≠z->c≠TO->c≠j->c≠l->hp.get? c=some o->D.get? c=some o:=λc o J X c3 c4 e =>
  (I.2 c X).trans ((H.2 c c4).trans ((P.2 c X).trans ((N.2 c c3).trans ((L.2 c J).trans e))))
 have h0:n (i+1) D:=Y.frame _ _ _ k0 λb h o q=>(I.2 b (Hb f.of1 h)).trans ((H.2 b (Hb f.if1 h)).trans ((P.2 b (Hb f.of1 h)).trans q))
 have k3:m (i+1) D:=D2.frame _ _ _ h9 λb h o q=>(I.2 b (Hb f.of2 h)).trans q
 have zl:z<D.objs.size:=Aw R
 show wpAny _ _ (bind (Ra (.ref z) (.ref D.objs.size)) _) _ _ _
 refine Aa ?_
 unfold Ra
 have k6:IsZip (D.push { cls:=.type "tuple",data:=.seq #[x,y] }) z TI TO .ellipsis:=Ai _ R
 refine Aa (Iv k6 (by simp) λh7 K s7=>?_)
 replace K:IsZip h7 z TI TO (Fe D.objs.size):=K
 refine Iv K (by simp) λW F s8=>?_
 replace F:IsZip W z TI TO (Fe D.objs.size):=F
 have up:∀c o,c≠z->D.get? c=some o->W.get? c=some o:=λc o J e=>(s8.2 c J).trans ((s7.2 c J).trans (Ai _ e))
 have gT:Fz W D.objs.size x y:=(s8.2 _ (Qu zl)).trans ((s7.2 _ (Qu zl)).trans (Ar _ rfl))
 have z8:W.objs.size=D.objs.size+1:=by rw[s8.1,s7.1,He]
 rw[sz] at F gT z8
 refine Ae ⟨_,rfl,?_⟩
 show Q (.ref D.objs.size) _
 rw[sz]
 exact k x y W k4 px py F (up _ _ f.toz G) (Y.frame _ _ _ h0 λb h o q=>up b o (Hb f.zf1 h) q) (D2.frame _ _ _ k3 λb h o q=>up b o (Hb f.zf2 h) q) gT z8 λc o J X c3 c4 e=>up c o J (k5 c o J X c3 c4 e)
theorem E2{a b:Value}{Q:Fin->Ah->Prop}(Y:Draws prog w A j t p B n)(D2:Draws prog w A l r u C m)(f:ZApart z TI TO j l t r)(J:IsZip s.heap z TI TO .none)(gI:Fz s.heap TI (.ref j) (.ref l))(gO:Fz s.heap TO a b)(g1:n i s.heap)(g2:m i s.heap)(hn:i=p\/(i<p/\i=u))(k:∀h' e tk,(∀c o,c≠z->c≠TO->c≠j->c≠l->s.heap.get? c=some o->h'.get? c=some o)->(∃o,h'.get? e=some o/\o.cls=.type "StopIteration")->E (.ref e) { s with heap:=h',toks:=tk }):wpAny (model prog w) A (Builtin.«zip.__next__» ⟨[.ref z],[]⟩) Q E s:=by
 obtain ⟨hp,g,d,h7,os⟩:=s
 show wpAny _ _ (bind (field (.ref z) 2) _) _ _ _
 refine Aa (Eh J rfl (x:=.bool false) rfl ?_)
 show wpAny _ _ (bind (field (.ref z) 3) _) _ _ _
 refine Aa (Eh J rfl (x:=.ref TI) rfl (Aa (Gy gI rfl ?_)))
 show wpAny _ _ (bind (Dh (.ref z)) _) _ _ _
 refine Aa ?_
 unfold Dh
 refine Aa (Eh J rfl (x:=.none) rfl (Ae ?_))
 simp only[if_true]
 refine Aa (Jr (Aa (Eh J rfl (x:=.ref TO) rfl (Aa (Iv J (by simp) λG h y=>?_)))))
 replace h:IsZip G z TI TO .ellipsis:=h
 replace y:Cu z hp G:=y
 refine Aa ?_
 simp only[Pv,Qz,Ll,List.zipIdx_nil]
 have M:n i G:=Y.frame _ _ _ g1 λb D o q=>(y.2 b (Hb f.zf1 D)).trans q
 have V:m i G:=D2.frame _ _ _ g2 λb D o q=>(y.2 b (Hb f.zf2 D)).trans q
 refine Aa (Aa (fJ ?_))
 show wpAny _ _ (bind (Cf (.ref j)) _) _ _ _
 rcases hn with rfl | ⟨l1,rfl⟩
 ·refine Aa (Y.done _ _ _ M λF e S U=>?_)
  obtain ⟨W,ge,K⟩:=U
  replace S:Xg j G F:=S
  have P:IsZip F z TI TO .ellipsis:=S _ _ f.z1.symm h
  have Z:e≠z:=λx=>by subst x; rw[P] at ge; cases ge; simp at K
  exact Iv P (by simp) λO _ v=>k O e _ (λc o I _ T _ x=>(v.2 c I).trans (S _ _ T ((y.2 c I).trans x))) ⟨W,(v.2 e Z).trans ge,K⟩
 ·refine Aa (Y.item _ _ _ _ l1 M λx F h0 px h6 H=>Ae ?_)
  replace H:Cu j G F:=H
  have L:Fz F TO a b:=(H.2 TO f.to1).trans ((y.2 TO f.toz).trans gO)
  refine Aa (Gy L rfl (Aa (bI L λO h8 v=>?_)))
  replace v:Cu TO F O:=v
  refine Aa (wpAny_letGo (Ae (Aa (Aa (fJ ?_)))))
  have X:m i O:=D2.frame _ _ _ V λb D o q=>(v.2 b (Hb f.of2 D)).trans ((H.2 b (Hb f.if2 D)).trans q)
  show wpAny _ _ (bind (Cf (.ref l)) _) _ _ _
  refine Aa (D2.done _ _ _ X λh4 e R U=>?_)
  obtain ⟨W,ge,K⟩:=U
  replace R:Xg l O h4:=R
  have N:IsZip h4 z TI TO .ellipsis:=R _ _ f.z2.symm ((v.2 z f.toz.symm).trans ((H.2 z f.z1.symm).trans h))
  have Z:e≠z:=λx=>by subst x; rw[N] at ge; cases ge; simp at K
  exact Iv N (by simp) λh5 _ s5=>k h5 e _ (λc o I c2 T c4 x=>(s5.2 c I).trans (R _ _ c4 ((v.2 c c2).trans ((H.2 c T).trans ((y.2 c I).trans x))))) ⟨W,(s5.2 e Z).trans ge,K⟩
theorem xF{a b:Value}{Q:Option Value->Ah->Prop}(h:Draws prog w A.in1 j t p B n)(D2:Draws prog w A.in1 l r u C m)(H:ZApart z TI TO j l t r)(e:IsZip s.heap z TI TO .none)(L:Fz s.heap TI (.ref j) (.ref l))(M:Fz s.heap TO a b)(g1:n i s.heap)(g2:m i s.heap)(l1:i<p)(l2:i<u)(k:∀x y h' d,B i x->C i y->IsZip h' z TI TO (Fe s.heap.objs.size)->Fz h' TO x y->n (i+1) h'->m (i+1) h'->Fz h' s.heap.objs.size x y->h'.objs.size=s.heap.objs.size+1->(∀c o,c≠z->c≠TO->c≠j->c≠l->s.heap.get? c=some o->h'.get? c=some o)->Q (some (.ref s.heap.objs.size)) { s with heap:=h',toks:=d }):wpAny (model prog w) A (Jh (.ref z)) Q E s:=by
 have f:s.TypeIs (.ref z) "zip" := ⟨_,e,rfl⟩
 unfold Jh
 refine Aa (Lh (Df (name:=Ds "__next__") f PySem.F.slot_zip_next (Dj PySem.F.slot_zip_next f PySem.F.entry_zip_next ?_ (PySem.F.args_zip_next_1 _))))
 exact wL h D2 H e L M g1 g2 l1 l2 λx y h' d I g G N J q D v K=>Ae (k x y h' d I g G N J q D v K)
theorem yF{a b:Value}{Q:Option Value->Ah->Prop}(v:Draws prog w A.in1 j t p B n)(D2:Draws prog w A.in1 l r u C m)(y:ZApart z TI TO j l t r)(h:IsZip s.heap z TI TO .none)(H:Fz s.heap TI (.ref j) (.ref l))(G:Fz s.heap TO a b)(g1:n i s.heap)(g2:m i s.heap)(q:i=p\/(i<p/\i=u))(k:∀h' d,(∀c o,c≠z->c≠TO->c≠j->c≠l->s.heap.get? c=some o->h'.get? c=some o)->Q none { s with heap:=h',toks:=d }):wpAny (model prog w) A (Jh (.ref z)) Q E s:=by
 have g:s.TypeIs (.ref z) "zip" := ⟨_,h,rfl⟩
 unfold Jh
 refine Aa (Lh (Df (name:=Ds "__next__") g PySem.F.slot_zip_next (Dj PySem.F.slot_zip_next g PySem.F.entry_zip_next ?_ (PySem.F.args_zip_next_1 _))))
 refine E2 v D2 y h H G g1 g2 q λh' e d x f => ?_
 obtain ⟨o,I,D⟩ := f
 exact Aa (Ip (T := "StopIteration") (b:=true) ⟨o,I,D⟩ isSubtype_stop (Ae (k h' d x)))
end
abbrev HA(h:Heap)(d:Addr)(n ep:Nat):Heap:=h.push { cls:=.type "dict_keyiterator",data:=.fields #[.ref d,.int 0 0,.int n 0,.int ep 0] }
abbrev JC(h:Heap)(d:Addr)(n ep:Nat)(l:Addr):Heap:=(HA h d n ep).push { cls:=.type "list_iterator",data:=.fields #[.ref l,.int 0 0] }
abbrev JA(h:Heap)(d:Addr)(n ep:Nat)(l:Addr):Heap:=(JC h d n ep l).push { cls:=.type "tuple",data:=.seq #[.ref h.objs.size,.ref (HA h d n ep).objs.size] }
abbrev JJ(h:Heap)(d:Addr)(n ep:Nat)(l:Addr):Heap:=(JA h d n ep l).push { cls:=.type "tuple",data:=.seq #[.none,.none] }
abbrev ET(h:Heap)(d:Addr)(n ep:Nat)(l:Addr):Heap:=(JJ h d n ep l).push { cls:=.type "zip",data:=.fields #[.none,.bool false,.bool false,.ref (JC h d n ep l).objs.size,.ref (JA h d n ep l).objs.size] }
theorem pW(d l:Addr)(es:Array Kg)(ep:Nat)(ys:Array Value)(hd:(d == Hf)=false):Meets (Builtin.«zip.__new__» ⟨[.type "zip",.ref d,.ref l],[]⟩) (λ_ R s=>gP s.heap d es ep/\s.heap.IsList l ys/\R (.ok (.ret (.ref (JJ s.heap d es.size ep l).objs.size))) { s with heap:=ET s.heap d es.size ep l }) :=
 .of_wp λb w A R s h=>by
  obtain ⟨f,g,e,c,os⟩:=s
  obtain ⟨m,j,q⟩:=h
  have a:=sub_zip
  have k:gP (Shared.heap ⟨f,g,e,c,os⟩) d es ep:=m
  have i:Heap.IsList (Shared.heap ⟨HA f d es.size ep,g,e,c,os⟩) l ys:=Heap.IsList.push j _
  wp_walk using yM hd k,jC i
  exact ⟨_,rfl,q⟩
section
variable{prog:Bk}{w:World}{A:Ci}{E:Value->Ah->Prop}{s:Ah}
theorem rJ{d l:Addr}{es:Array Kg}{ep:Nat}{ys:Array Value}{Q:Value->Ah->Prop}(hd:(d == Hf)=false)(v:gP s.heap d es ep)(t:s.heap.IsList l ys)(k:∀h',IsZip h' (s.heap.objs.size+4) (s.heap.objs.size+2) (s.heap.objs.size+3) .none->Fz h' (s.heap.objs.size+2) (.ref s.heap.objs.size) (.ref (s.heap.objs.size+1))->Fz h' (s.heap.objs.size+3) .none .none->h'.IsKeyIter s.heap.objs.size d 0 es.size ep->h'.IsListIter (s.heap.objs.size+1) l 0->(∀c o,s.heap.get? c=some o->h'.get? c=some o)->Q (.ref (s.heap.objs.size+4)) { s with heap:=h' }):wpAny (model prog w) A (call (.type "zip") [.ref d,.ref l]) Q E s:=by
 refine callType_new PySem.F.called_zip (by decide) (PySem.F.typeCall_zip_2 _ _) (PySem.F.newCall_zip_2 _ _) (λf=>PySem.F.args_object_init_3 f _ _) PySem.F.entry_zip_new (pW d l es ep ys hd) ⟨v,t,?_⟩
 have i:(HA s.heap d es.size ep).objs.size=s.heap.objs.size+1:=He ..
 have j:(JC s.heap d es.size ep l).objs.size=s.heap.objs.size+2:=by rw[He,i]
 have g:(JA s.heap d es.size ep l).objs.size=s.heap.objs.size+3:=by rw[He,j]
 have n:(JJ s.heap d es.size ep l).objs.size=s.heap.objs.size+4:=by rw[He,g]
 have b:∀{h:Heap} {a:Addr} {u:Obj} (o:Obj),h.get? a=some u->(h.push o).get? a=some u:=λo e=>Ai _ e
 have m:(ET s.heap d es.size ep l).get? (JJ s.heap d es.size ep l).objs.size=some _:=Ar _ rfl
 have q:(ET s.heap d es.size ep l).get? (JA s.heap d es.size ep l).objs.size=some _:=b _ (Ar _ rfl)
 have p:(ET s.heap d es.size ep l).get? (JC s.heap d es.size ep l).objs.size=some _:=b _ (b _ (Ar _ rfl))
 have r:(ET s.heap d es.size ep l).get? (HA s.heap d es.size ep).objs.size=some _:=b _ (b _ (b _ (Ar _ rfl)))
 have y:(ET s.heap d es.size ep l).get? s.heap.objs.size=some _:=b _ (b _ (b _ (b _ (Ar _ rfl))))
 show _/\_
 rw[j,g,n] at m
 rw[i,j] at p
 rw[g] at q
 rw[i] at r
 rw[n]
 exact ⟨⟨_,m,rfl⟩,k _ m p q ⟨_,y,rfl,rfl⟩ ⟨_,r,rfl,rfl⟩ λc o x=>b _ (b _ (b _ (b _ (b _ x))))⟩
end
theorem rT{P:Bk}{w:World}{H:Hp}{h:Heap}{a:Addr}{c:List (List Lb×V)}(ok:Zx P w H h)(e:H a=some (.dT c)):∃(es:Array Kg),(a == Hf)=false/\gP h a es c.length/\es.size=c.length/\∀(i:Nat) (x:Kg),es[i]? = some x->∃k b v,c[i]? = some (k,v)/\x.key=.ref b/\H b=some (.tup (k.map kV))/\k.length<=Ay:=by
 obtain ⟨_,G,g,l,o,es,I,D,u,F,t,_,m⟩:=(show Jz P w H h a (.dT c) from ok a _ e)
 have s:es.size=c.length:=by
  have:=congrArg Ja t
  rw[Ad,<- Paired.length l] at this
  simpa using this
 refine ⟨es,G,⟨o,D,u,by rw[F,m,s]⟩,s,λi x C=>?_⟩
 have d:es.toList[i]? = some x:=by rw[Fs]; exact C
 rw[t,Bg] at d
 cases q:g[i]? with
 | none=>rw[q] at d; cases d
 | some y =>
  rw[q] at d
  cases d
  have B:∀{c:List (List Lb×V)} {g:List (List Lb×Addr×Value)} {i:Nat},Paired (λ(p:List Lb×V) (q:List Lb×Addr×Value)=>p.1=q.1/\H q.2.1=some (.tup (p.1.map kV))/\RelV p.2 q.2.2) c g->g[i]? = some y->∃p,c[i]? = some p/\H y.2.1=some (.tup (p.1.map kV)):=by
   intro c g i r
   induction r generalizing i with
   | nil=>intro z; simp at z
   | cons A _ E =>
    intro z
    cases i with
    | zero=>simp at z; subst z; exact ⟨_,rfl,A.2.1⟩
    | succ j=>exact E (by simpa using z)
  obtain ⟨p,n,f⟩:=B l q
  refine ⟨p.1,y.2.1,p.2,n,rfl,f,?_⟩
  have:=(show Jz P w H h y.2.1 (.tup (p.1.map kV)) from ok _ _ f).1
  rwa [Ad] at this
def EM(K:PySem.W.Frag)(a b:Addr)(n:Nat):It :=
  ⟨λi H=>∃d c y,H a=some (.dT d)/\d.length=n/\Mq K H b c/\i<n/\c[i]? = some y,
   λi H x e=>∃p t k v u,x=.ref p/\H p=none/\e=upd H p (.tup [.ref t,u])/\(∀d,H a=some (.dT d)->d[i]? = some (k,v))/\H t=some (.tup (k.map kV))/\k.length<=Ay/\∀c,Mq K H b c->c[i]? = some u,
   λi H=>∃d c,H a=some (.dT d)/\d.length=n/\Mq K H b c/\(i=n\/(i<n/\i=c.length))⟩
theorem xZ{P:Bk}{w:World}{K:PySem.W.Frag}{N:List Expr}{k:Nat}{pos:Pos}{n:Nat}(a b z TI TO l p:Addr)(r:ZApart z TI TO l p [l,a] [p,b])(na:a≠l)(nb:b≠p):Turn P w K (.Tuple N k pos) (EM K a b n) [z,TI,TO,l,p] z (λi h=>IsZip h z TI TO .none/\Fz h TI (.ref l) (.ref p)/\(∃u v,Fz h TO u v)/\h.IsKeyIter l a i n n/\h.IsListIter p b i) where
 mem:=Ab
 obj:=λi h st c d=>by
  obtain ⟨F,e,⟨u,v,g⟩,⟨o1,e1,c1,d1⟩,⟨o2,e2,c2,d2⟩⟩:=st
  simp only[Ak,Az,or_false] at d
  rcases d with rfl | rfl | rfl | rfl | rfl
  ·exact ⟨_,F,λv z=>by cases z⟩
  ·exact ⟨_,e,λv z=>by cases z⟩
  ·exact ⟨_,g,λv z=>by cases z⟩
  ·exact ⟨o1,e1,λv z=>by rw[d1] at z; cases z⟩
  ·exact ⟨o2,e2,λv z=>by rw[d2] at z; cases z⟩
 keep:=λi h h' st kp=>by
  obtain ⟨F,e,⟨u,v,g⟩,M,Z⟩:=st
  exact ⟨kp z (by simp) _ F,kp TI (by simp) _ e,⟨u,v,kp TO (by simp) _ g⟩,M.at λo q=>kp l (by simp) o q,Z.at λo q=>kp p (by simp) o q⟩
 item:=by
  intro X hP hw hK d i J s σ H E I U st hg
  subst hP hw hK
  obtain ⟨kv,ys,y,T,rfl,C,hx,hy⟩:=hg
  obtain ⟨O,hd,hE,m,G⟩:=rT I.hok T
  obtain ⟨j,D,p2,h6⟩:=I.list C
  obtain ⟨F,e,⟨o1,o2,g⟩,t,x⟩:=st
  have Q:X.A.in1.handled=none:=I.ok.hd d
  have D1:=gZ (prog:=X.prog) (w:=X.w) (A:=X.A.in1) Q l a na O O.size
  have D2:=Draws.list (prog:=X.prog) (w:=X.w) (A:=X.A.in1) Q p b nb j.toArray
  have h3:=D.length
  have ly:i<j.length:=by
   have:=(Ax.mp hy).1
   omega
  have zl:z<s.heap.objs.size:=Aw F
  have k2:TI<s.heap.objs.size:=Aw e
  have k3:TO<s.heap.objs.size:=Aw g
  have k1:l<s.heap.objs.size:=by obtain ⟨_,q,_⟩:=t; exact Aw q
  have k5:p<s.heap.objs.size:=by obtain ⟨_,q,_⟩:=x; exact Aw q
  refine xF D1 D2 r F e g ⟨by rw[m]; exact t,by rw[m]; exact hE⟩ ⟨x,p2.isList⟩ (by omega) (by simpa using ly) λu1 L M V q1 q2 a1 a2 a3 a4 a5 a6 Y=>⟨_,rfl,zM (s:={ s with heap:=M,toks:=V }) a1 λZ h9 h4=>?_⟩
  have f:Cu z M Z:=h4
  obtain ⟨x1,h5,rfl⟩:=q1
  obtain ⟨kk,B,vv,ek,eb,hb,k0⟩:=G i x1 h5
  rw[eb] at a2 a5
  have h7:j[i]? = some L:=by simpa using q2
  obtain ⟨k4,S,h8⟩:=D.get hy
  rw[h7] at S
  cases S
  have I1:Inv X J σ (upd H s.heap.objs.size (.tup [.ref B,y])) { s with heap:=s.heap.push { cls:=.type "tuple",data:=.seq #[.ref B,L] } } :=
   I.laid (t':=s.toks) (λb o q=>Ai _ q) (Aj _) ⟨by show 2<=Ay; decide,[.ref B,L],.cons rfl (.cons h8 .nil),_,Ar _ rfl,rfl,0,rfl⟩
  have nT:∀c∈[z,TI,TO,l,p],c≠s.heap.objs.size:=λc d=>by
   simp only[Ak,Az,or_false] at d
   rcases d with rfl | rfl | rfl | rfl | rfl <;> exact Bq (by assumption)
  have fr:∀c∈[z,TI,TO,l,p],(upd H s.heap.objs.size (.tup [.ref B,y])) c=none:=λc d=>by rw[Ek (nT c d)]; exact (U c d).1
  refine ⟨.ref s.heap.objs.size,_,Ln (fp:=[z,TI,TO,l,p]) (s:={ s with heap:=s.heap.push { cls:=.type "tuple",data:=.seq #[.ref B,L] } }) (h':=Z) (t':=V) I1 (λc o d q=>?_) (λc d=>⟨fr c d,(U c d).2⟩),rfl,⟨_,B,kk,vv,y,rfl,I.hok.fresh (Aj _),rfl,(λk6 h'=>by rw[T] at h'; cases h'; exact ek),hb,k0,λzs h0=>by rw[I.list_inj h0 C]; exact hy⟩,⟨h9,?_,⟨.ref B,L,?_⟩,?_,?_⟩,fr⟩
  ·simp only[Ak,Az,or_false,not_or] at d
   refine (f.2 c d.1).trans ?_
   by_cases R:c=s.heap.objs.size
   ·subst R
    have q':=(Ar s.heap (o:={ cls:=.type "tuple",data:=.seq #[.ref B,L] }) rfl).symm.trans q
    rw[show M.get? s.heap.objs.size=_ from a5]
    exact q'
   ·refine Y c o d.1 d.2.2.1 d.2.2.2.1 d.2.2.2.2 ?_
    have q0:(s.heap.push { cls:=.type "tuple",data:=.seq #[.ref B,L] }).get? c=some o:=q
    rcases Oz q0 with zz | zz
    ·exact absurd zz.1 R
    ·exact zz
  ·exact (f.2 TI r.tiz).trans (Y TI _ r.tiz r.tito r.ti1 r.ti2 e)
  ·exact (f.2 TO r.toz).trans a2
  ·rw[m] at a3
   exact a3.1.at λo q=>(f.2 l r.z1).trans q
  ·exact a4.1.at λo q=>(f.2 p r.z2).trans q
 done:=by
  intro X hP hw hK d i J s σ H E I U st hg
  subst hP hw hK
  obtain ⟨kv,ys,T,rfl,C,hx⟩:=hg
  obtain ⟨O,hd,hE,m,G⟩:=rT I.hok T
  obtain ⟨j,D,p2,h6⟩:=I.list C
  obtain ⟨F,e,⟨o1,o2,g⟩,t,x⟩:=st
  have Q:X.A.in1.handled=none:=I.ok.hd d
  have D1:=gZ (prog:=X.prog) (w:=X.w) (A:=X.A.in1) Q l a na O O.size
  have D2:=Draws.list (prog:=X.prog) (w:=X.w) (A:=X.A.in1) Q p b nb j.toArray
  have h3:=D.length
  refine yF D1 D2 r F e g ⟨by rw[m]; exact t,by rw[m]; exact hE⟩ ⟨x,p2.isList⟩ ?_ λM V Y=>⟨rfl,Ln (fp:=[z,TI,TO,l,p]) (t':=V) I (λc o d q=>?_) U⟩
  ·rw[m,Au]
   omega
  ·simp only[Ak,Az,or_false,not_or] at d
   exact Y c o d.1 d.2.2.1 d.2.2.2.1 d.2.2.2.2 q
 self:=λ_ _ _ _ _ st h=>Px st.1 h
theorem AL(I a b:Nat)(h1:a<I)(d:b<I):ZApart (I+4) (I+2) (I+3) I (I+1) [I,a] [I+1,b]:=by
 constructor <;> (first | (intro e; have c:(_:Nat)=_:=e; omega) | (intro e; simp only[Ak,Az,or_false] at e; rcases e with e | e <;> (have c:(_:Nat)=_:=e; omega)))
section
variable{X:Cx}
def GK(K:PySem.W.Frag)(f:TA):TI:=λg H R=>f g H λvs c=>∃a b d,vs=[.ref a,.ref b]/\c a=some (.dT d)/\(∃e,Mq K c b e)/\R (EM K a b d.length) c
theorem Q4{m:List Expr}{k:Nat}{tp:Pos}{a b:Expr}{J:TA}{p pos:Pos}(hg:Gl X "zip")(U:X.mg "zip" = none)(ha:PA X [a,b] J)(V:Bj [a,b] X.env=(false,eval a X.env)::Bj [b] X.env:=by rfl)(Z:(Hg pos (Bj [b] X.env)).any (·.1)=false:=by rfl):PI X (.Tuple m k tp) (.Call (.Name "zip" p) [a,b] [] pos) (GK X.K J):=by
 intro d s Y H R I h
 refine Call_ (Sk I hg U (u:=.type "zip") (by decide +kernel) (Dy (Fp (ha pos d s Y H _ I h) λus g ⟨vs,x,r,P,q1⟩=>?_) V Z))
 obtain ⟨M,E,kv,e,B,⟨ys,D⟩,q⟩:=q1
 subst e
 obtain ⟨u1,u2,rfl,C,A⟩:=vals2 P
 cases C
 cases A
 obtain ⟨es,S,N,w,G⟩:=rT r.hok B
 obtain ⟨L,T,t,W⟩:=r.list D
 have j:M<g.heap.objs.size:=let ⟨o,q,_⟩:=N; Aw q
 have i:E<g.heap.objs.size:=let ⟨o,q,_⟩:=t.isList; Aw q
 refine rJ S N t.isList λh2 O y z l v Q=>Px O ?_
 have f:∀n,Lg X d x (g.heap.objs.size+n):=λn=>r.fpOk (Js _ _) (r.hok.fresh (Js _ _))
 have fr:∀c∈[g.heap.objs.size+4,g.heap.objs.size+2,g.heap.objs.size+3,g.heap.objs.size,g.heap.objs.size+1],Lg X d x c:=λc F=>by
  simp only[Ak,Az,or_false] at F
  rcases F with rfl | rfl | rfl | rfl | rfl
  ·exact f 4
  ·exact f 2
  ·exact f 3
  ·exact f 0
  ·exact f 1
 rw[w] at l
 exact ⟨g.heap.objs.size+4,_,_,_,x,rfl,r.kept (t':=g.toks) Q,xZ M E _ _ _ _ _ (AL _ _ _ j i) (Bq j) (Bq (Ho i)),⟨O,y,⟨_,_,z⟩,l,v⟩,fr,q⟩
end
section
variable{prog:Bk}{w:World}{A:Ci}{R:Result->Ah->Prop}{s:Ah}
theorem nA{o i e iter:Expr}{b:List Expr}{a:Scope}{pos:Pos}{it:Value}{D:Addr}{env:Env}(J:Nat->Ah->Prop) (turn:∀n s,J n s->wpAny (model prog w) A (Jh it) (λr f=>match r with
    | none=>R (.ok .next) f
    | some v=>wpAny (model prog w) A (Hy e it v) (λ_ q=>wpAny (model prog w) A (Nr e env v) (λ_ t =>
      wpAny (model prog w) A (forIn b true λc r=>if r=true then (do
        let ok <- isTrue c env (eval c env)
        pure (Et ok)) else pure (Et r)) (λok d =>
       if ok=true then
        wpAny (model prog w) A (eval o env) (λk g=>wpAny (model prog w) A (eval i env) (λy p=>wpAny (model prog w) A (dictSet D k y) (λ_ l=>∃m,m<n/\J m l) (λ_ _=>False) p) (λ_ _=>False) g) (λ_ _=>False) d
       else ∃m,m<n/\J m d) (λ_ _=>False) t) (λ_ _=>False) q) (λ_ _=>False) f) (λ_ _=>False) s)
  (n:Nat) (h:J n s):Ha (model prog w) A (.compLoop (.DictComp o i [⟨e,iter,b,0⟩] a pos) 0 it (.ref D) env) R s:=by
 refine jD rfl J (λn s B=>wpAny_noted ?_) n h
 rw[compTurn_dict]
 refine Aa (Hj (Aa (Cv (turn n s B) (λr f j=>?_) λ_ _ z=>z.elim)))
 cases r with
 | none=>exact Ae j
 | some v =>
  refine Aa (Cv j (λ_ q x=>Aa (Cv x (λ_ t G=>Aa (Cv G (λok d u=>?_) λ_ _ z=>z.elim)) λ_ _ z=>z.elim)) λ_ _ z=>z.elim)
  cases ok with
  | false=>exact Ae ⟨rfl,u⟩
  | true =>
   refine Aa (Aa (Cv u (λk g F=>Aa (Ct (Cv F (λy p E=>?_) λ_ _ z=>z.elim))) λ_ _ z=>z.elim))
   exact Aa (Hj (Ct (Cv E (λ_ l C=>Ae ⟨rfl,C⟩) λ_ _ z=>z.elim)))
end
section
variable{X:Cx}{f:List (Addr×Obj)}{g:L2.St}{H:Hp}{s:Ah}{a b:Addr}{v:V}{r:Value}{A:Ci}{E:Value->Ah->Prop}{d:List (List Lb×V)}{k:List Lb}
theorem zI{Q:Unit->Ah->Prop}(F:A.units+1<cLine)(I:Inv X f g H s)(e:H a=some (.dT d))(n:H b=some (.tup (k.map kV)))(l:d.length<Ay)(x:RelV v r)(h:∀s',Inv X f g (upd H a (.dT (Wd d k v))) s'->Q () s'):wpAny (model X.prog X.w) A (dictSet a (.ref b) r) Q E s:=by
 obtain ⟨z,p,u,i,D⟩:=zS I.hok (.inl e)
 have hz:u.length<=Ay:=by rw[<- Paired.length i]; exact z
 have J:(Wd d k v).length<=Ay:=by have:=aY d k v; omega
 refine mN (hz:=hz) (show (Py _).room A from Nat.lt_of_succ_lt F) (dN I.hok n) D λM j B=>h _ ?_
 obtain ⟨q,C,y,m,t,L,K,_,G⟩:=j
 refine vE I (by rw[e]; exact True.intro) B ⟨q,m⟩ ⟨J,p,_,(i.put k n x).keeps λc N o=>(Ek (Y4 o e (λz=>nomatch z))).trans o,q,C,y,m,t,L,K,G⟩
end
section
variable{X:Cx}
def R9(K:PySem.W.Frag)(J:It)(n:List Nat)(w:TT)(v u:TE)(o:L2.St)(q:Hp)(Q:VK):Prop:=∀D,q D=none->∃W:Nat->Nat->Hp->Prop,(∃m,W 0 m (upd q D (.dT [])))/\∀i m H,W i m H ->
 (J.stop i H/\Q (.ref D) H)\/(J.go i H/\∀x l,J.yld i H x l->∃(t:Addr) (j g:V),x=.ref t/\Ru K l t [j,g]/\∃(r:Hp->Prop) (p:V->VK),(∀e,r e->∃f,f<m/\W (i+1) f e) /\
  (∀h s d,p h s d->∃a k b,d D=some (.dT a)/\h=.ref b/\d b=some (.tup (k.map kV))/\a.length<Ay/\∃f,f<m/\W (i+1) f (upd d D (.dT (Wd a k s)))) /\
  w (some j::some g::Ef o n) l λc e=>if c=true then v (some j::some g::Ef o n) e (λh d=>u (some j::some g::Ef o n) d (p h)) else r e)
def vA(K:PySem.W.Frag)(b:TI)(f:List Nat)(g:TT)(d e:TE):TE:=λa H Q=>b a H λJ c=>R9 K J f g d e a c Q
theorem xP{kx vx iter:Expr}{x f:Str}{px t pt pos:Pos}{kt:Nat}{N:List Expr}{a:Scope}{j:List (Str×Addr)}{ys:List Str}{O:List Nat}{wi:TI}{tc:TT}{tk tv:TE}(C:CompScope X a j x ys O)(E:aM a f)(S:(x::f::ys).Nodup)(hc:X.calm=true)(hu:X.A.units+1<cLine)(hi:PI X (.Tuple [.Name x px,.Name f t] kt pt) iter wi)(ht:∀fp s H,qT (Cw X a j (x::f::ys) fp s H) N tc)(hk:∀fp s H,PE (Cw X a j (x::f::ys) fp s H) kx tk)(hv:∀fp s H,PE (Cw X a j (x::f::ys) fp s H) vx tv)(hs:∀x,Dc iter X.env x=pure x:=by intro _; rfl):PE X (.DictComp kx vx [⟨.Tuple [.Name x px,.Name f t] kt pt,iter,N,0⟩] a pos) (vA X.K wi O tc tk tv):=by
 intro l s L H Q I h
 rw[arm_eval_DictComp]
 show wpAny _ _ (comprehension _ a X.env _ newDict false (eval iter X.env) none) _ _ s
 refine Hk (use:=none) rfl hs C.clos C.kind C.locs (Fp (hi l s L H _ I h) λv s1 h1=>Fp h1 λj7 d h2=>?_)
 obtain ⟨it,fp,tn,J,G,e,I2,T,q6,f2,q2⟩:=h2
 subst e
 have fD:G d.heap.objs.size=none:=I2.hok.fresh (Aj _)
 obtain ⟨W,⟨m0,w0⟩,h9⟩:=q2 d.heap.objs.size fD
 refine Cg ?_
 have I3:Inv X l L (upd G d.heap.objs.size (.dT [])) { d with heap:=d.heap.push { cls:=.type "dict",data:=.dict #[] } } :=
  I2.laid (t':=d.toks) (λb u q=>Ai _ q) (Aj _) (pV d.heap I2.big)
 obtain ⟨f3,h5,q7⟩:=Rm I2 T q6 f2 I3
 generalize h6:({ d with heap:=d.heap.push { cls:=.type "dict",data:=.dict #[] } }:Ah)=s3 at I3
 have Rr:tn 0 s3.heap:=by rw[<- h6]; exact h5
 have o3:∀b∈fp,∃o,s3.heap.get? b=some o:=by rw[<- h6]; exact q7
 show wpAny _ _ (Kc a X.env.globals j [] X.env.qual none .none (some X.env)) _ _ _
 refine Pb C λh4 k0 p k1=>?_
 have I4:∀tk,Inv (Cw X a j (x::f::ys) fp s3 (upd G d.heap.objs.size (.dT []))) [] (none::none::Ef L O) (upd G d.heap.objs.size (.dT [])) { s3 with heap:=h4,toks:=tk }:=λtk=>Ni (pre:=[x,f]) C I3 f3 o3 k0 p k1
 have h0:tn 0 h4:=T.keep 0 _ _ Rr λb D o q=>p b o q
 generalize z:Cw X a j (x::f::ys) fp s3 (upd G d.heap.objs.size (.dT []))=X' at I4
 obtain ⟨eP,eW,eK,eA,eC⟩:=Rp hc z
 have k:∀{g:Hp},(∀b∈fp,g b=none)->∀b∈fp,Lg X' [] g b:=λ{g} hn=>Pe z (I4 0) hn
 have F:∀s5:Ah,s5={ s3 with heap:=h4,toks:=s3.toks+([]:List (Str×Value)).length } ->
   Ha (model X.prog X.w) X.A (.compLoop (.DictComp kx vx [⟨.Tuple [.Name x px,.Name f t] kt pt,iter,N,0⟩] a pos) 0 (.ref it) (.ref d.heap.objs.size) (Ti a (En (s3.heap.objs.size+1) a.names j) s3.heap.objs.size X.env))
    (compPost (model X.prog X.w) X.A X.xe none (EP X l L Q) (.ref d.heap.objs.size) s3.heap.objs.size) s5:=by
  rintro s5 rfl
  refine nA (λn s'=>∃i o o2 g,Inv X' [] (o::o2::Ef L O) g s'/\tn i s'.heap/\(∀b∈fp,g b=none)/\W i n g) ?_ m0
   ⟨0,none,none,_,I4 _,h0,λb D=>(f3 b D).1,w0⟩
  (intro n s6 q_; obtain ⟨i,o,o2,H6,I6,Y,h3,w6⟩ := q_)
  rcases h9 i n H6 w6 with ⟨Z,qn⟩ | ⟨go,step⟩
  ·have hd:=T.done X' eP eW eK eC i [] s6 _ H6 (λ_ _=>False) I6 (k h3) Y Z
   rw[eA] at hd
   refine Fp hd λr s7 c => ?_
   obtain ⟨hr,I7⟩ := c
   subst hr
   obtain ⟨m7,k4,V⟩:=Si z I3 f3 I7
   exact ⟨m7,k4,λh8 k9=>⟨.ref d.heap.objs.size,H6,V h8 k9,rfl,qn⟩⟩
  ·have k2:=T.item X' eP eW eK eC i [] s6 _ H6 (λ_ _=>False) I6 (k h3) Y go
   rw[eA] at k2
   refine Fp k2 λr s7 c => ?_
   obtain ⟨u,hr,h7⟩ := c
   subst hr
   refine Fp h7 λ_ s8 c => ?_
   obtain ⟨y,H8,I8,r8,y8,M,q9⟩ := c
   have k5:=I8.pinned (k q9) (T.obj _ _ M)
   obtain ⟨tp,w1,w2,ey,j1,N1,N2,q3,k8,q0⟩:=step y H8 y8
   have again:∀{H9:Hp} {R:Ah} {P:Nat},Inv X' ([]++Oh fp s8.heap) (some w1::some w2::Ef L O) H9 R->P<n->W (i+1) P H9->∃m,m<n/\∃i o o2 g,Inv X' [] (o::o2::Ef L O) g R/\tn i R.heap/\(∀b∈fp,g b=none)/\W i m g:=λ{H9 R P} I9 hm w9=>by
    refine ⟨P,hm,i+1,some w1,some w2,H9,I9.unpinned,T.keep _ _ _ M λb D o e=>(I9.pin (b,o) (Ag _ (Ag _ (Fl D e)))).1,λb D=>?_,w9⟩
    obtain ⟨o,e,_⟩:=T.obj _ _ M b D
    exact (I9.pin (b,o) (Ag _ (Ag _ (Fl D e)))).2.1
   subst z
   have g1:PG (Cw X a j (x::f::ys) fp s3 (upd G d.heap.objs.size (.dT []))) (.Tuple [.Name x px,.Name f t] kt pt) (C7 X.K 2 (Yz (Pt 0) (Yz (Pt 1) J0))) :=
    dQ (X:=Cw X a j (x::f::ys) fp s3 (upd G d.heap.objs.size (.dT []))) hc (Mo (Jy (i:=0) (x:=x) S rfl (Mn C.own) (Pp C.own)) (Mo (Jy (i:=1) (x:=f) S rfl (Mn E) (Pp E)) Xz))
   refine Fp (g1 _ s8 _ H8 y u (λj4 g=>j4=some w1::some w2::Ef L O/\g=H8) k5 r8 ⟨tp,[w1,w2],ey,j1,rfl,_,_,rfl,_,_,rfl,rfl,rfl,rfl⟩) λ_ R c => ?_
   obtain ⟨x3,H9,I9,e9,k3⟩ := c
   subst e9 k3
   refine Fp (ht fp s3 _ _ R _ _ _ I9 q0) λok q4 c => ?_
   obtain ⟨x4,U,B⟩ := c
   cases ok with
   | false =>
    rw[if_neg Bs] at B ⊢
    obtain ⟨P,hm,q8⟩:=q3 _ B
    exact again U hm q8
   | true =>
    rw[if_pos rfl] at B ⊢
    refine Fp (hk fp s3 _ _ q4 _ _ _ U B) λzk j0 c => ?_
    obtain ⟨vk,j8,q5,q1,k6⟩ := c
    refine Fp (hv fp s3 _ _ j0 _ _ _ q5 k6) λzv j9 c => ?_
    obtain ⟨vv,x0,j2,j5,j3⟩ := c
    obtain ⟨x1,kk,b,ha,eb,D,hz,P,hm,j6⟩:=k8 _ _ _ j3
    subst eb
    cases (show zk=Be b from q1)
    exact zI (X:=Cw X a j (x::f::ys) fp s3 (upd G d.heap.objs.size (.dT []))) (A:=X.A) hu j2 ha D hz j5 λx5 k7=>again k7 hm j6
 exact codeAny_compStart_dict (F _ rfl) (T.self X.A 0 _ _ _ h0 (F _ rfl))
end
end Nd
namespace DL
open PySem PySem.Spec PyProof.Rows L2 Nd
section
variable{K:PySem.W.Frag}
theorem BZ{H:Hp}{kv:List (List Lb×V)}{ks:List (List Int×Af)}{i:Nat}{k:List Lb}{v:V}(r:DRel K H kv ks)(h:kv[i]? = some (k,v)):∃w d,ks[i]? = some (w,d)/\k=Ls w:=by
 have e:=congrArg (λl=>l[i]?) r.key
 simp only[Bg,h,Option.map_some] at e
 cases q:ks[i]? with
 | none=>rw[q] at e; cases e
 | some p=>rw[q] at e; exact ⟨p.1,p.2,rfl,Ca e⟩
theorem N7{H:Hp}{t:Addr}{w:List Int}(h:H t=some (.tup ((Ls w).map kV)))(hl:(Ls w).length<=Ay):RdF K H (.ref t) (Bf w) []:=by
 rw[lE] at h
 refine .tup h ?_ (RdFs.ints w)
 unfold Ls at hl
 rw[Ad] at hl ⊢
 exact hl
theorem wW{a b:Addr}{m C:Md}{ks:List (List Int×Af)}{es:List Af}{F G:List Addr}:IterOk K (EM K a b ks.length) [⟨some (.ref a),.dat (Ji m) (.dict (Wk ks)),F⟩,⟨some (.ref b),.dat (Ji C) (.list es),G⟩] (mdZip m C) ((ks.zip es).map λp=>.tuple [Bf p.1.1,p.2]) where
 md:=by cases m <;> cases C <;> simp [mdZip]
 hd:=λe he=>by
  rcases Ak.mp he with rfl | he
  ·exact Ub
  ·rw[Al.mp he]
   exact Ub
 np:=λz e he=>by
  rcases Ak.mp he with rfl | he
  ·cases m <;> cases C <;> first | rfl | cases z
  ·rw[Al.mp he]
   cases m <;> cases C <;> first | rfl | cases z
 go:=λH n i h D=>by
  obtain ⟨c,q,s,e,o,B,j,_⟩:=(Gb h Ab).dict_inv
  cases e
  obtain rfl:=Ox o
  obtain ⟨M,l,N,r,g,f,_,_⟩:=(Gb h (Ac _ Ab)).list_inv
  cases r
  have P:=f.len
  rw[Ad,Hq] at D
  exact ⟨q,l,l[i],B,Uh j,Mq.of g,by omega,by simp [show i<l.length by omega]⟩
 yld:=λH n i x X h D y=>by
  obtain ⟨c,q,s,e,o,B,j,_⟩:=(Gb h Ab).dict_inv
  cases e
  obtain rfl:=Ox o
  obtain ⟨M,l,N,r,g,f,rfl,_⟩:=(Gb h (Ac _ Ab)).list_inv
  cases r
  rw[Ad,Hq] at D
  obtain ⟨p,t,k,v,u,rfl,O,rfl,R,U,W,S⟩:=y
  obtain ⟨w,d,V,rfl⟩:=BZ j (R q B)
  have J:=S l (Mq.of g)
  obtain ⟨Y,T,A,L,E⟩:=f.get (i:=i) (e:=es[i]) (by simp [show i<es.length by omega])
  rw[J] at A
  cases A
  have I:=Ff O (.tup [.ref t,u])
  refine ⟨I,.tuple [Bf w,es[i]],T,?_,.tup Du (by simp [Gn]) ?_,λc Q=>⟨_,Ac _ Ab,Ac _ (E.subset Q)⟩⟩
  ·rw[Bg,show (ks.zip es)[i]? = some ((w,d),es[i]) from mL.mpr ⟨V,by simp [show i<es.length by omega]⟩]
   rfl
  ·have:=RdFs.cons ((N7 (K:=K) U W).kp (Kp.of I)) (RdFs.cons (L.kp (Kp.of I)) RdFs.nil)
   rw[Eb] at this
   exact this
 stop:=λH n h=>by
  obtain ⟨c,q,s,e,o,B,j,_⟩:=(Gb h Ab).dict_inv
  cases e
  obtain rfl:=Ox o
  obtain ⟨M,l,N,r,g,f,_,_⟩:=(Gb h (Ac _ Ab)).list_inv
  cases r
  have P:=f.len
  refine ⟨q,l,B,Uh j,Mq.of g,?_⟩
  rw[Ad,Hq]
  omega
end
def LB(d:DE):DI:=λc P=>d c λx b=>match x with
 | .dat m (.dict X)=>∃a,X=Wk a/\a.length<=1000000/\P (Ji m) (a.map λp=>Bf p.1) b
 | _=>False
def zQ(c:DA):DI:=λd P=>c d λe a=>match e with
 | [.dat m (.dict X),.dat m' (.list es)]=>∃b,X=Wk b/\P (mdZip m m') ((b.zip es).map λp=>.tuple [Bf p.1.1,p.2]) a
 | _=>False
section
variable{X:Cx}{i e a b:Expr}{g:DE}{d:DA}{c:List Expr}{k:Nat}{f p pos:Pos}
theorem lY(Q:Gl X "zip")(D:X.mg "zip" = none)(h:mI X [a,b] d)(J:Bj [a,b] X.env=(false,eval a X.env)::Bj [b] X.env:=by rfl)(M:(Hg pos (Bj [b] X.env)).any (·.1)=false:=by rfl):sM X (.Tuple c k f) (.Call (.Name "zip" p) [a,b] [] pos) (zQ d):=by
 refine PI.imp (Q4 Q D h J M) λσ H R h=>?_
 obtain ⟨r,Y,S,T,E,P,rfl,F,x,z,k⟩:=h
 refine ⟨r,Y,S,T,E,_,rfl,F,x,z,λxs g As us s q U y C L l i=>?_⟩
 split at i
 ·rename_i m X' m' N
  obtain ⟨Z,rfl,i⟩:=i
  obtain ⟨v1,I,v2,F2,rfl,e⟩:=Yj L l C
  obtain ⟨a,v,B,rfl,t,V,j,_⟩:=(e.told mem_mid).dict_inv
  obtain rfl:=Ox t
  obtain ⟨b,A,G,rfl,u,rb,rfl,W⟩:=(e.told Ga).list_inv
  refine ⟨a,b,v,rfl,V,⟨A,Mq.of u⟩,?_⟩
  rw[Uh j]
  have O:=(e.mid.wk (Qm _)).tomid
  have w:At X.K r Y g.n ((s++[⟨some (.ref a),.dat (Ji m) (.dict (Wk Z)),I⟩])++⟨some (.ref b),.dat m' (.list N),b::G⟩::T) q:=by rw[Bw]; exact O
  have o:=(w.mid.wk (Qm _)).tomid
  rw[Bw] at o
  exact k _ _ g _ [_,_] s q U y o wW (by rw[Ad,Hq]; exact Cb (Nat.min_le_right _ _) W) i
 ·exact i.elim
end
def fM(ks:List (List Int×Af)):List (List Lb×Af):=ks.map λp=>(Ls p.1,p.2)
section
variable{K:PySem.W.Frag}{d H g:Hp}{X:Addr->Prop}{n:Nat}{E S T:List Ent}
theorem B6{kv:List (List Lb×V)}{ks:List (List Int×Af)}(h1:kv.map (·.1)=(fM ks).map (·.1))(a:RdFs K H (kv.map (·.2)) ((fM ks).map (·.2)) []):DRel K H kv ks:=by
 unfold fM at h1 a
 rw[Cr] at h1 a
 exact ⟨h1,a⟩
theorem DD{kv:List (List Lb×V)}{ks:List (List Int×Af)}(r:DRel K H kv ks):kv.map (·.1)=(fM ks).map (·.1)/\RdFs K H (kv.map (·.2)) ((fM ks).map (·.2)) []:=by
 unfold fM
 rw[Cr,Cr]
 exact ⟨r.key,r.val⟩
theorem At.dNew(h:At K d X n E H){D:Addr}(c:H D=Re):At K d X n (⟨some (.ref D),.dT (fM []),[D]⟩::E) (upd H D (.dT [])):=by
 have i:=Ff c (.dT [])
 refine (h.grow (n':=n) i (Aj _)).push ⟨D,[],rfl,rfl,Du,rfl,.nil⟩ (λf g=>?_) λa b=>?_
 ·have e:=h.free c f g
  refine ⟨λ_ a b z=>?_,λ_ a b z=>?_⟩
  ·rw[Al.mp b] at z
   exact e z
  ·rw[Al.mp z] at b
   exact e (Ht _ _ b)
 ·rw[Al.mp b]
  exact .inl (h.new0 c)
theorem At.dPut{D:Addr}{ks:List (List Int×Af)}{w:List Int}{v:V}{e:Af}(h:At K d X n (⟨some (.ref D),.dT (fM ks),[D]⟩::E) H)(r:RdF K H v e []):∃kv,H D=some (.dT kv)/\kv.length=ks.length/\At K d X n (⟨some (.ref D),.dT (fM (Ut ks w e)),[D]⟩::E) (upd H D (.dT (Wd kv (Ls w) v))):=by
 obtain ⟨a,kv,C,L,y,u,p⟩:=h.ok _ Ab
 have t:some (V.ref D)=some (V.ref a):=C
 cases t
 have j:=B6 u p
 have m:=Bd.mp h.sep
 have x:=h.sub (Dm _ _)
 have kp:∀{F:List Addr},D∉F->Kp F H (upd H D (.dT (Wd kv (Ls w) v))):=λ{F} J b o q z=>by
  have : b≠D:=by
   rintro rfl
   rw[y] at q
   cases q
   rcases z with z | z
   ·exact J z
   ·rcases z with ⟨_,z⟩ | ⟨_,_,z⟩ <;> cases z
  rw[Ek this]
  exact q
 have l:d D=Re:=by
  rcases h.new _ Ab D Ab with z | z
  ·exact z
  ·cases z.2
 have i:=(r6 w r j).kp (kp Az)
 obtain ⟨I,G⟩:=DD i
 refine ⟨kv,y,Uh j,?_⟩
 refine ⟨λf hf=>?_,Bd.mpr ⟨λf hf=>⟨λs a g=>(m.1 f hf).1 s a g,λs a g=>(m.1 f hf).2 (s.imp id id) a g⟩,m.2⟩,λf hf=>?_,λb o B q=>?_,λb o q=>?_,λb A=>?_⟩
 rotate_right
 ·obtain ⟨z,c,k,f,u,p⟩:=h.xd b A
  refine ⟨z,c,k,f,(Ek ?_).trans u,p⟩
  rintro rfl
  exact z l
 ·rcases Ak.mp hf with rfl | hf
  ·exact ⟨D,_,rfl,rfl,Du,I,G⟩
  ·exact (x.ok f hf).kp (kp ((m.1 f hf).1 (.inr rfl) D Ab)) (Aj _)
 ·rcases Ak.mp hf with rfl | hf
  ·intro a g
   rw[Al.mp g]
   exact .inl l
  ·exact x.new f hf
 ·rw[Ek (Gw q l)]
  exact h.same b o B q
 ·rw[Ek (Gw q l)]
  exact h.dom b o q
theorem At.dGot{D:Addr}{ks:List (List Int×Af)}(h:At K d X n (⟨some (.ref D),.dT (fM ks),[D]⟩::E) H):At K d X n (⟨some (.ref D),.dat .ow (.dict (Wk ks)),[D]⟩::E) H:=by
 obtain ⟨a,p,m,q,o,l,j⟩:=h.ok _ Ab
 have e:some (V.ref D)=some (V.ref a):=m
 cases e
 have c:=B6 l j
 have i:=Bd.mp h.sep
 refine (h.sub (Dm _ _)).push ⟨_,rfl,.dic o c.key c.val,λ_=>Cm.mpr ⟨Az,Ep⟩,λz=>nomatch z⟩ (λf g=>⟨λk a b=>(i.1 f g).1 (.inr rfl) a b,λk a b=>(i.1 f g).2 (.inl rfl) a b⟩) λa b=>?_
 rcases h.new _ Ab a b with z | z
 ·exact .inl z
 ·cases z.2
end
def nQ(a:List Int->Af->Nat->Prop)(y z:DV)(b:DS):Prop:=match y,z with
 | .dat _ k,.dat _ e=>∃w,k=Bf w/\imm e=true/\a w e b.n
 | _,_=>False
def lX(dc:DT)(f g:DE)(h:DS)(e:List Int->Af->Nat->Prop)(i:Nat->Prop):Prop:=dc h λc a=>match c with
 | true=>f a λy b=>g b λz d=>nQ e y z d
 | false=>i a.n
def lJ(k:DI)(o:List Nat)(dc:DT)(j l:DE):DE:=λp P=>k p λm f b=>f.length<=1000000/\∃I:Nat->List (List Int×Af)->Nat->Prop,I 0 [] b.n /\
 (∀i d a n,f[i]? = some d->I i a n->∃g h,d=.tuple [g,h]/\lX dc j l ⟨.dat m g::.dat m h::frD b.sl o,n⟩ (λw e c=>I (i+1) (Ut a w e) c) (λc=>I (i+1) a c)) /\
 ∀a n,I f.length a n->P (.dat .ow (.dict (Wk a))) ⟨b.sl,n⟩
theorem pX(ks:List (List Int×Af))(w:List Int)(d:Af):(Ut ks w d).length<=ks.length+1:=by
 unfold Ut
 split
 ·rw[Ad]; omega
 ·rw[Bm]; simp
section
variable{K:PySem.W.Frag}{f H g:Hp}{Y:Addr->Prop}{n:Nat}{E S T:List Ent}
theorem yC{di:DI}{A:List Nat}{dc:DT}{dk dv:DE}:∀σ H Q,LE K (lJ di A dc dk dv) σ H Q->vA K (LI K di) A (LT K dc) (LE K dk) (LE K dv) σ H Q:=by
 intro σ H Q h
 obtain ⟨f,Y,S,T,δ,P,rfl,hS,hA,hd,k⟩:=h
 refine ⟨f,Y,S,T,δ,_,rfl,hS,hA,hd,λm s E J l o H1 e1 e2 k5 it hz p1=>?_⟩
 obtain ⟨k9,I,h0,hs,hf⟩:=p1
 have k7:=pY (n:=1000000) (Aj _)
 rw[<- e1]
 intro D hD
 refine ⟨λi q H=>q=s.length - i/\i<=s.length/\∃j n,At K f Y n (⟨some (.ref D),.dT (fM j),[D]⟩::(o++(l++T))) H/\j.length<=i/\I i j n,⟨s.length,by simp,Do _,[],E.n,k5.dNew hD,Aj _,h0⟩,?_⟩
 (intro i q H q_; obtain ⟨rfl,hi,j,n,O,hl,hI⟩ := q_)
 have p:∀e∈l,Iu K H n e:=λe he=>O.ok e (Ac _ (Ag _ (Ao _ he)))
 by_cases u:i<s.length
 ·refine .inr ⟨it.go H n i p u,λx g y=>?_⟩
  obtain ⟨s1,d,F,h1,h2,h3⟩:=it.yld H n i x g p u y
  obtain ⟨B,U,rfl,k1⟩:=hs i d j n h1 hI
  obtain ⟨t,xs,rfl,ht,X,_⟩:=h2.tup_inv
  cases X with
  | @cons v _ xs _ N _ r1 X =>
   cases X with
   | @cons L _ xs _ F2 G r2 X =>
    cases X
    have k3:At K f Y n ((⟨some (.ref D),.dT (fM j),[D]⟩::o)++⟨some v,.dat m B,N⟩::(l++T)) g:=At.item (S:=⟨some (.ref D),.dT (fM j),[D]⟩::o) O s1 r1 (λa ha=>h3 a (Ao _ ha)) it.md it.hd it.np
    have W:At K f Y n ((⟨some v,.dat m B,N⟩::⟨some (.ref D),.dT (fM j),[D]⟩::o)++(l++T)) g:=k3.mid
    have M:At K f Y n ((⟨some v,.dat m B,N⟩::⟨some (.ref D),.dT (fM j),[D]⟩::o)++⟨some L,.dat m U,F2⟩::(l++T)) g:=At.item W (To.refl _) r2 (λa ha=>h3 a (Ag _ (Ao _ ha))) it.md it.hd it.np
    have C:At K f Y n (⟨some v,.dat m B,N⟩::⟨some L,.dat m U,F2⟩::⟨some (.ref D),.dT (fM j),[D]⟩::(o++(l++T))) g:=M.mid.perm (Ej _ _ _)
    have k6:=At.view (S:=o) C (λe he=>Ac _ (Ac _ (Ac _ (Ao _ he)))) A
    have k2:At K f Y n ((⟨some v,.dat m B,N⟩::⟨some L,.dat m U,F2⟩::gB o A)++⟨some (.ref D),.dT (fM j),[D]⟩::(o++(l++T))) g:=by
     have z:=k6.mid
     refine z.perm ?_
     exact (Ea).cons _
    have k4:Sl (⟨some v,.dat m B,N⟩::⟨some L,.dat m U,F2⟩::gB o A) ⟨.dat m B::.dat m U::frD E.sl A,n⟩:=by
     unfold Sl
     rw[Ap,Ap,oM e2]
    have hv:vs (⟨some v,.dat m B,N⟩::⟨some L,.dat m U,F2⟩::gB o A)=some v::some L::Ef (vs o) A:=by
     rw[<- qR]
     rfl
    refine ⟨t,v,L,rfl,Ru.of ht,λH2=>∃m',m'<s.length - i/\_,λkx vx H3=>∃(h4:List (List Lb×V)) (k:List Lb) (b:Addr),H3 D=some (.dT h4)/\kx=.ref b/\H3 b=some (.tup (k.map kV))/\h4.length<Ay/\∃m',m'<s.length - i/\_,λH2 q=>q,λkx vx H3 q=>q,?_⟩
    rw[<- hv]
    refine ⟨f,Y,_,⟨some (.ref D),.dT (fM j),[D]⟩::(o++(l++T)),_,_,rfl,k4,k2,k1,λc h5 S2 H2 f1 f2 h7 p2=>?_⟩
    cases c with
    | false=>exact tJ ⟨s.length - (i+1),by omega,rfl,u,j,h5.n,h7.sub (Bu _ _),by omega,p2⟩
    | true =>
     refine rK ⟨f,Y,S2,⟨some (.ref D),.dT (fM j),[D]⟩::(o++(l++T)),h5,_,f1,f2,h7,p2,λyk k0 vk Fk S3 H3 f3 f4 h9 p3=>?_⟩
     refine ⟨f,Y,S3,⟨some vk,yk,Fk⟩::⟨some (.ref D),.dT (fM j),[D]⟩::(o++(l++T)),k0,_,f3,f4,h9,p3,λyv Z vv Fv S4 H4 f5 f6 R p4=>?_⟩
     unfold nQ at p4
     split at p4
     ·rename_i mk k8 mv h6
      obtain ⟨w,rfl,im,p5⟩:=p4
      obtain ⟨b,rfl,hb⟩:=cC (R.told Ga)
      have r:=R.told mem_mid
      obtain rfl:=r.imm im
      have h8:At K f Y Z.n (⟨some (.ref D),.dT (fM j),[D]⟩::(o++(l++T))) H4:=R.drop2.sub (Bu _ _)
      obtain ⟨kv,g1,g2,g3⟩:=h8.dPut (w:=w) r
      have:=pX j w h6
      exact ⟨kv,Ls w,b,g1,rfl,hb,by omega,s.length - (i+1),by omega,rfl,u,Ut j w h6,Z.n,g3,by omega,p5⟩
     ·exact p4.elim
 ·have e:i=s.length:=by omega
  subst e
  refine .inl ⟨it.stop H n p,k _ ⟨E.sl,n⟩ _ [D] o H e1 e2 ?_ (hf j n hI)⟩
  have C:At K f Y n (⟨some (.ref D),.dat .ow (.dict (Wk j)),[D]⟩::(o++T)) H:=O.dGot.sub (((Co o).append (Bu l T)).cons₂ _)
  exact C.tomid
end
section
variable{X:Cx}{l k iter:Expr}{x b:Str}{m d pt pos:Pos}{g:Nat}{c:List Expr}{a:Scope}{e:List (Str×Addr)}{ys:List Str}{j:List Nat}{h:DI}{dc:DT}{f i:DE}
theorem wU(t:X.A.units+64<cLine)(C:CompScope X a e x ys j)(n:aM a b)(o:(x::b::ys).Nodup)(u:X.calm=true)(v:sM X (.Tuple [.Name x m,.Name b d] g pt) iter h)(q:∀fp s H,qT (Cw X a e (x::b::ys) fp s H) c (LT X.K dc))(r:∀fp s H,Gq (Cw X a e (x::b::ys) fp s H) l f)(p:∀fp s H,Gq (Cw X a e (x::b::ys) fp s H) k i)(w:∀x,Dc iter X.env x=pure x:=by intro _; rfl):Gq X (.DictComp l k [⟨.Tuple [.Name x m,.Name b d] g pt,iter,c,0⟩] a pos) (lJ h j dc f i):=PE.imp (xP C n o u (LU t) v q r p w) yC
end
def FY(K:PySem.W.Frag):V->V->Hp->VK->Prop:=λo i H Q=>∃p a k z,o=.ref p/\i=.int k/\Mq K H p a/\0<=k/\a[k.toNat]? = some z/\Q z H
theorem B4{X:Cx}:GP X (FY X.K):=by
 intro b s B H o i v C Q I e n h
 obtain ⟨p,y,k,z,rfl,rfl,j,f,c,q⟩:=h
 cases e
 obtain ⟨t,rfl⟩:=n
 obtain ⟨d,r,l,A⟩:=I.list j
 obtain ⟨w,g,a⟩:=r.get c
 have:=Wz
 have m:=r.length
 have u:=(Ax.mp c).1
 refine wpAny_getItem_list (x:=w) l.isList f (by omega) (by simpa using g) ⟨z,H,I,a,q⟩
def augIB(i:Nat)(k:Int)(a:Int)(y:DV)(c:DS)(D:DEnds):Prop:=match c.sl[i]?,y with
 | some (.dat m (.list ds)),.dat _ (.int b)=>own1 m=true/\npk c.sl=true/\Dw ds=true/\k<ds.length/\D.nx ⟨c.sl.set i (.dat m (.list (ds.set k.toNat (.int (a+b))))),c.n⟩
 | _,_=>False
def augIK(i:Nat)(d:DE)(z:DV)(c:DS)(D:DEnds):Prop:=match c.sl[i]?,z with
 | some (.dat _ (.list ds)),.dat _ (.int k)=>0<=k/\∃a,ds[k.toNat]? = some (.int a)/\d c λy b=>augIB i k a y b D
 | _,_=>False
def AG(i:Nat)(c d:DE):DB:=λD b=>isLst b.sl[i]? = true/\c b λz a=>augIK i d z a D
section
variable{X:Cx}{o d e:Expr}{g f:DE}{pos c:Pos}{i:Nat}
theorem u6{K:PySem.W.Frag}{j H:Hp}{Y:Addr->Prop}{S T:List Ent}{b:DS}{n:Nat}(g:Sl S b)(l:At K j Y b.n (S++T) H)(c:isLst b.sl[n]? = true):∃a,(vs S)[n]? = some (some (.ref a)):=by
 cases q:b.sl[n]? with
 | none=>rw[q] at c; cases c
 | some x =>
  rw[q] at c
  obtain ⟨e,f,k⟩:=Nn g q
  obtain ⟨u,y,F⟩:=e
  have d:y=x:=k
  subst d
  have i:(⟨u,y,F⟩ : Ent)∈S:=Bp f
  match y,c with
  | .dat m (.list ds),_ =>
   obtain ⟨v,h,rd,_⟩:=l.ok _ (Ao _ i)
   obtain ⟨a,o,G,rfl,p,_⟩:=rd.list_inv
   exact ⟨a,by rw[Tc f]; exact congrArg some h⟩
theorem N6(ho:PE X o (lC i))(hk:Gq X d f)(he:Gq X e g)(ha:∀A C j,augStore d A C j=(do Qf [j,A,C] (setItem A C j); release [j,A,C] []; pure .next):=by intros; rfl):zO X (.AugAssign (.Subscript o d c) .Add e pos) (AG i f g):=by
 refine PS.impD (V4 ho hk B4 he CM cO ha) λD σ H h=>?_
 obtain ⟨H0,Y,S,T,δ,P,rfl,W,hT,Z,E,k1,k2,k3,k4⟩:=h
 obtain ⟨K,E⟩:=E
 obtain ⟨a,O⟩:=u6 W Z K
 refine ⟨.ref a,O,H0,Y,S,T,δ,_,rfl,W,Z,E,λz J w F N H1 e1 e2 p n=>?_⟩
 unfold augIK at n
 split at n
 ·rename_i m ds m' k Q
  obtain ⟨n,l,p2,p3⟩:=n
  obtain ⟨rfl,_⟩:=(p.told mem_mid).int_inv
  obtain ⟨t,f2,f3⟩:=Nn e2 Q
  have hm:t∈N:=Bp f2
  obtain ⟨u,x,G0⟩:=t
  have R:x=.dat m (.list ds):=f3
  subst R
  obtain ⟨v,I,rd,_⟩:=p.ok _ (Ao _ hm)
  obtain ⟨a',xs,G,rfl,U,ra,eF,hz⟩:=rd.list_inv
  have ea:(vs N)[i]? = some (some (.ref a')):=by rw[Tc f2]; exact congrArg some I
  rw[e1,O] at ea
  cases ea
  obtain ⟨x',F',x1,x2,_⟩:=ra.get p2
  obtain ⟨rfl,_⟩:=x2.int_inv
  refine ⟨a,xs,k,.int l,rfl,rfl,Mq.of U,n,x1,H0,Y,N,T,J,_,e1,e2,p.drop,p3,λy h0 w2 F2 S2 H2 e3 e4 r B=>?_⟩
  unfold augIB at B
  split at B
  ·rename_i m2 M m3 b s
   obtain ⟨q1,q2,q3,q4,q5⟩:=B
   obtain ⟨rfl,_⟩:=(r.told mem_mid).int_inv
   obtain ⟨b',q,G1,V,g2,L,g4,g5⟩:=Xa (es:=M.set k.toNat (.int (l+b))) e4 hT r.drop s q1 q2
   rw[e3,O] at V
   cases V
   obtain rfl:=L.imm q3
   obtain ⟨S3,h1,h2,h3⟩:=g5 (q.set k.toNat (.int (l+b))) [] (L.setI (.int _)) (Co _) (by rw[List.length_set]; exact g4)
   refine ⟨l,b,rfl,rfl,a,q,k,k.toNat,rfl,rfl,g2,?_,?_⟩
   ·rw[L.len]
    unfold M4
    rw[if_pos n,if_pos q4]
   rw[<- e3,<- h1]
   exact k1 ⟨_,_⟩ S3 _ h2 h3 q5
  ·exact B.elim
 ·exact n.elim
end
end DL
namespace Nd
open PySem PySem.Spec PySem.Calls PyProof.Rows PyProof.V L2
def FW(r:Addr)(j:Int)(h:Heap):Prop:=∃t u v,IsRange h r 0 j 1 t u v
abbrev zR(r:Addr)(j:Int):HO:=.ext (FW r j)
section
variable{prog:Bk}{w:World}{A:Ci}{E:Value->Ah->Prop}{s:Ah}
theorem gG{R:List Value->Ah->Prop}{r:Addr}{a b c:Int}{t u v:Tok}{n:Nat}(N:A.handled=none)(M:IsRange s.heap r a b c t u v)(m:Builtin.Range.small a b c=true)(L:Lj a b c=n)(C:n<=2 ^ 24)(h:∀(h':Heap) (k:Nat) (z:Array Value),(∀b o,s.heap.get? b=some o->h'.get? b=some o)->ItemsOf (λi v=>∃t,v=.int (a+i * c) t) z n->R z.toList { s with heap:=h',toks:=k }):wpAny (model prog w) A (collect (.ref r)) R E s:=by
 unfold collect
 refine Aa (wpAny_runValue (Hz PyProof.Rows.entry_proto_collect' ?_))
 rw[Gd PySem.F.plain_proto_collect _]
 show wpAny _ A.in1 (newList [] >>= λl=>again (.builtin "list.__iadd__" ⟨[l,.ref r],[]⟩)) _ _ s
 refine Aa (Cg ?_)
 refine Ae ⟨Qe PySem.F.plain_list_iadd _,Hz PyProof.Rows.entry_list_iadd' ?_⟩
 rw[Gd PySem.F.plain_list_iadd _]
 have p:(s.heap.push { cls:=.type "list",data:=.seq ([]:List Value).toArray }).get? s.heap.objs.size=some { cls:=.type "list",data:=.seq #[] }:=Ar _ rfl
 show wpAny _ A.in1 (Builtin.List.listExtendWith (.ref s.heap.objs.size) (.ref r) (.ref s.heap.objs.size)) _ _ _
 have G:=wpAny_extend_range (prog:=prog) (w:=w) (A:=A) (s:={ s with heap:=s.heap.push { cls:=.type "list",data:=.seq ([]:List Value).toArray } })
  (R:=λ(q:Result) (I:Ah)=>∃(h':Heap) (k:Nat) (d:Array Value) (D:Nat),q=.ok (.ret (.ref s.heap.objs.size))/\I={ s with heap:=h',toks:=k } /\
   (∀b o,s.heap.get? b=some o->h'.get? b=some o)/\h'.get? s.heap.objs.size=some { cls:=.type "list",dict:=none,data:=.seq d D,slots:=#[] }/\ItemsOf (λi v=>∃t,v=.int (a+i * c) t) d n)
  N (Ai _ M) m L C s.heap.objs.size (.ref s.heap.objs.size) 0 p
  (λh' k d D B j g=>⟨h',k,d,D,rfl,rfl,λb o e=>B b o (Bq (Aw e)) (Ai _ e),j,g⟩)
 refine Cv G (λH I x=>?_) λe I x=>?_
 ·cases H with
  | done f =>
   obtain ⟨h',k,d,D,e,rfl,B,j,g⟩:=x
   cases e
   show wpAny _ A (load s.heap.objs.size >>= _) _ _ _
   refine Aa (fN j ?_)
   exact Ae (h h' k d B g)
  | again K =>
   refine ⟨x.1,Oq x.2 λq J y=>?_⟩
   obtain ⟨h',k,d,D,rfl,rfl,B,j,g⟩:=y
   show wpAny _ A (load s.heap.objs.size >>= _) _ _ _
   refine Aa (fN j ?_)
   exact Ae (h h' k d B g)
 ·obtain ⟨_,_,_,_,O,_⟩:=x
  cases O
theorem Zr{Q₁:Value->Ah->Prop}{r:Addr}{a b c:Int}{t u v:Tok}{n:Nat}(C:A.handled=none)(x:IsRange s.heap r a b c t u v)(f:Builtin.Range.small a b c=true)(z:Lj a b c=n)(q:n<=1000)(h:∀(h':Heap) (l:Nat) (d:Array Value),(∀b o,s.heap.get? b=some o->h'.get? b=some o)->ItemsOf (λi v=>∃t,v=.int (a+i * c) t) d n->Q₁ (.ref h'.objs.size) { s with heap:=h'.push { cls:=.type "tuple",data:=.seq d },toks:=l }):Ha (model prog w) A (.call (.builtin "tuple.__new__") ⟨[.type "tuple",.ref r],[]⟩) (wants Q₁ E) s:=by
 refine Zd ?_
 show wpAny _ A.in1 (do checkBuiltinCall "tuple.__new__" ⟨[.type "tuple",.ref r],[]⟩; again (.builtin "tuple.__new__" ⟨[.type "tuple",.ref r],[]⟩)) _ _ s
 refine Aa (Jm (F.newCall_tuple_1 _) (Ae ⟨Qe F.plain_tuple_new _,Hz F.entry_tuple_new ?_⟩))
 rw[Gd F.plain_tuple_new _]
 have p:=sub_tuple_self
 have k:=init_tuple_lookup
 have y:=madeHere_tuple
 have m:s.TypeIs (.ref r) "range" := ⟨_,x,rfl⟩
 have j:A.in1.handled=none:=C
 wp_walk using Jk m,gG j x f z (by omega)
 intro h' l d B g
 show wpAny _ _ (Gv d.toList.toArray >>= λv=>ret v) _ _ _
 unfold Gv
 refine Aa (Cg ?_ (by show d.toList.toArray.size<=Ay; simp only[Array.toArray_toList]; rw[g.1,Gn]; omega))
 refine Ae ?_
 have e:d.toList.toArray=d:=by simp
 rw[e]
 exact h h' l d B g
end
theorem fX:∀{n:Nat} {a:Array Value},a.size=n->(∀(i:Nat) v,a[i]? = some v->∃t,v=Oc (i:Int) t)->Fo a.toList ((Cc n).map λk:Nat=>(k:Int)):=by
 intro n a f h
 have c:∀(l:List Value) (m:Nat),(∀(i:Nat) v,l[i]? = some v->∃t,v=Oc ((m+i:Nat):Int) t)->Fo l ((List.range' m l.length).map λk:Nat=>(k:Int)):=by
  intro l
  induction l with
  | nil=>intro m _; exact .nil
  | cons x l g =>
   intro m d
   obtain ⟨t,e⟩:=d 0 x rfl
   have:=g (m+1) λi v b=>by
    obtain ⟨t,e⟩:=d (i+1) v b
    exact ⟨t,by rw[e]; congr 1; omega⟩
   rw[Bl,List.range'_succ,Ap]
   rw[e]
   exact .cons _ t this
 have:=c a.toList 0 λi v b=>by
  obtain ⟨t,e⟩:=h i v (by simpa using b)
  exact ⟨t,by rw[e]; congr 1; omega⟩
 rw[List.range_eq_range']
 have e:a.toList.length=n:=by simpa using f
 rw[e] at this
 exact this
section
variable{X:Cx}
def GB:List V->Hp->VK->Prop:=λa H Q=>∃j:Int,a=[.int j]/\∀r,H r=none->Q (.ref r) (upd H r (zR r j))
theorem oS:Ml X (.type "range") GB:=by
 intro c s l H i f Q I r h
 obtain ⟨j,rfl,q⟩:=h
 obtain ⟨u,rfl,t,rfl⟩:=vals1 r
 refine call_range_1 ⟨.ref s.heap.objs.size,_,I.laid (a:=s.heap.objs.size) (o:=zR s.heap.objs.size j) (t':=s.toks+1+1) (λb o e=>Ai _ e) (Aj _) ?_,rfl,q _ (I.hok.fresh (Aj _))⟩
 refine ⟨⟨_,_,_,Ar _ rfl⟩,⟨_,Ar _ rfl⟩,λg d ⟨t,u,v,e⟩ k=>⟨t,u,v,k _ e⟩⟩
def GV:List V->Hp->VK->Prop:=λa H Q=>∃(r:Addr) (j:Int),a=[.ref r]/\H r=some (zR r j)/\0<=j/\j<=1000/\∀l,H l=none->Q (.ref l) (upd H l (.tup (((Cc j.toNat).map λn:Nat=>(n:Int)).map V.int)))
theorem nW(G:X.calm=true):Ml X (.type "tuple") GV:=by
 intro g s y H M O Q I r h
 obtain ⟨p,j,rfl,L,N,P,q⟩:=h
 obtain ⟨u,rfl,J⟩:=vals1 r
 cases J
 obtain ⟨⟨t,u,v,K⟩,_,_⟩:=(show Jz X.prog X.w H s.heap p (zR p j) from I.hok p _ L)
 have C:Lj 0 j 1=((j.toNat:Nat):Int):=by rw[rangeSize_one]; split <;> omega
 refine callType_codes (Q₁:=λd c=>c.TypeIs d "tuple" /\ EP X g y Q d c) F.called_tuple (F.typeCall_tuple_1 _) F.entry_object_init
  (Zr (prog:=X.prog) (w:=X.w) (E:=X.xe) (Q₁:=λd c=>c.TypeIs d "tuple" /\ EP X g y Q d c) (A:=X.A.in1) (show X.A.in1.handled=none from I.ok.hd G) K (small_one (by omega) (by omega) (by omega) (by omega)) C (by omega) λm z k D l=>⟨⟨_,Ar _ rfl,rfl⟩,?_⟩) λd c f=>?_
 ·have B:Inv X g y H { s with heap:=m,toks:=z }:=I.kept D
  have x:Gj (((Cc j.toNat).map λn:Nat=>(n:Int)).map V.int) k.toList:=by
   refine E6 (fX ?_ ?_)
   ·exact l.1
   ·intro i v x
    obtain ⟨t,e⟩:=l.2 i v x
    exact ⟨t,by rw[e]; congr 1; omega⟩
  refine ⟨.ref m.objs.size,_,B.laid (a:=m.objs.size) (o:=.tup (((Cc j.toNat).map λn:Nat=>(n:Int)).map V.int)) (t':=z) (λb o e=>Ai _ e) (Aj _) ⟨?_,k.toList,x,?_⟩,rfl,q _ (B.hok.fresh (Aj _))⟩
  ·rw[Ad,Ad,Cq]; exact sz (by omega)
  ·have e:k=k.toList.toArray:=by simp
   rw[e]
   exact IsTup.new _ _
 ·exact ⟨f.1,F.args_object_init_2 d _,object_init_meets F.called_tuple.init.lookup F.called_tuple.made (by decide) X.prog X.w X.A.in1 _ c ⟨f.1,rfl,f.2⟩⟩
end
end Nd
namespace DL
open PySem PySem.Spec PyProof.Rows L2 Nd
def IX(K:PySem.W.Frag)(h:PF):Sp:=λg H Q _=>∃(b:List Ent) (n:Nat) (f:List Af) (R:Af->Prop) (C:List Addr),b.map Ent.v=g.map some/\(∀e∈b,Iu K H n e)/\datas (b.map Ent.x)=some f/\h f R/\(∀a∈C,H a≠none/\∀e∈b,a∉e.F) /\
 ∀v d F c,R d->RdF K c v d F->(∀a∈F,a∉C)->To H c->Q v c
def retA(R:Af->Prop):DEnds where
 nx:=λ_=>R .none
 rt:=λx _=>∃m d,x=.dat m d/\m≠.pk/\R d
section
variable{K:PySem.W.Frag}{b H c:Hp}{X:Addr->Prop}{n:Nat}{E S T:List Ent}
theorem At.pushS(h:At K b X n E H){v:V}{d:Af}{F:List Addr}(r:RdF K H v d F)(e:∀f∈E,∀a∈cells f,a∉F):At K b X n (⟨some v,.dat .sh d,F⟩::E) H :=
 h.push ⟨v,rfl,r,λz=>(nomatch z),λz=>(nomatch z)⟩ (λf g=>⟨λ_ a c=>(nomatch c),λ_ a c=>e f g a c⟩) λa c=>(nomatch c)
end
section
variable{P:Bk}{w:World}{K:PySem.W.Frag}{mg:Str->Option Value}{base:Heap}
theorem KI{As:List Ent}{k:Nat}:∀e∈As.map fU++Jx k,∀a∈e.F,∃f∈As,a∈f.F:=λe he a b=>by
 rcases Bc.mp he with he | he
 ·obtain ⟨f,c,rfl⟩:=Dd.mp he
  refine ⟨f,c,?_⟩
  obtain ⟨v,x,F⟩:=f
  cases x <;> exact b
 ·rw[(Ih.mp he).2] at b
  exact nomatch b
theorem K5{x i:Str}{st:Stmt}{f:Addr}{fd:Cs}{N ps:List Str}{k:Nat}{pf:PF}{db:DB}(F:Fun K x i st f fd)(S:FnScope N ps (Bv st))(hb:∀(l:Value) (A:Ci) (outer:List Env) (s:Ah) (H:Hp) (E:XK),Room k (A.deeper (Th i (Bv st) s.heap.objs.size f l))->dJ (Nc Hu P w K mg base N i (Bv st) f l A outer s H E).nox (Kz st) db)(h:∀ds R,pf ds R->ds.length=ps.length/\db (retA R) ⟨args0 ds (N.length - ps.length),0⟩):FnOk P w K mg base Hu (k+1) f fd ps (IX K pf):=by
 refine F.ok S (λvs H Q E z=>?_) λl A outer s H us Q E hr z=>?_
 ·obtain ⟨As,n,ds,R,C,T,ok,q,X,_⟩:=z
  have l1:=(h ds R X).1
  have U:=Ly q
  rw[Ad] at U
  have W:=congrArg Ja T
  rw[Ad,Ad] at W
  omega
 ·obtain ⟨As,n,ds,R,C,T,ok,q,X,Z,k1⟩:=z
  obtain ⟨l1,hd⟩:=h ds R X
  have U:=Ly q
  rw[Ad] at U
  have W:=congrArg Ja T
  rw[Ad,Ad] at W
  let O:Hp:=λa=>open Classical in if a∈C then none else H a
  have G:∀{a},a∈C->O a=none:=λz=>if_pos z
  have I:∀{a},a∉C->O a=H a:=λz=>if_neg z
  -- what holds at the end
  have t:∀{E':List Ent} {n':Nat} {y:Hp},At K O (λ_=>False) n' (E'++[⟨none,.grd H,C⟩]) y->To H y:=λ{E' n' y} B b o e=>by
   by_cases hb:b∈C
   ·obtain ⟨o',g1,g2⟩:=B.ok _ (Ag _ Ab) b hb
    rw[e] at g1
    cases g1
    exact g2
   ·exact B.same b o (λz=>z) (by rw[I hb]; exact e)
  refine ⟨_,hb l A outer s H E hr,O,λ_=>False,As.map fU++Jx (N.length - ps.length),[⟨none,.grd H,C⟩],⟨args0 ds (N.length - ps.length),0⟩,retA R,?_,?_,λe z=>?_,?_,hd,λL Y y e1 B p=>?_,λx L v F' Y y e1 B p=>?_,λ_ _ _ _ _ p=>p.elim,λ_ _ _ _ _ p=>p.elim⟩
  ·unfold vs L2.start Jx
   rw[Bn,AK,T,Qn,show us.length=ps.length by omega]
  ·unfold Sl args0 Jx
   rw[Bn,Yh q,Qn]
  ·rw[Al.mp z]; rfl
  ·have M:=mB q (N.length - ps.length)
   have hF:=KI (As:=As) (k:=N.length - ps.length)
   have gF:∀e∈As.map fU++Jx (N.length - ps.length),∀a∈C,a∉e.F:=λe he a g z=>by
    obtain ⟨f,hf,zf⟩:=hF e he a z
    exact (Z _ g).2 f hf zf
   refine ⟨λe he=>?_,Cy.mpr ⟨Ua λa g b D=>⟨λV c j=>?_,λV c j=>?_⟩,Fh _ _,λa g b D=>⟨λV c j=>?_,λV c j=>?_⟩⟩,λe he a g=>?_,λb o _ e=>?_,λb o e=>?_,λb hb=>hb.elim⟩
   ·rcases Bc.mp he with he | he
    ·have:=K4 q ok (N.length - ps.length) e he
     obtain ⟨v,x,F⟩:=e
     cases x with
     | drw=>exact absurd (M _ he).2 (by show ¬ (true=false); decide)
     | _=>exact this
    ·rw[Al.mp he]
     intro a g
     have:=(Z _ g).1
     cases q:H a with
     | none=>exact absurd q this
     | some o=>exact ⟨o,by first | rfl | exact q,by first | rfl | exact q⟩
   ·rw[(M a g).1] at j; cases j
   ·rw[(M b D).1] at j; cases j
   ·rw[(M a g).1] at j; cases j
   ·rw[Al.mp D] at j
    exact gF a g c j
   ·rcases Bc.mp he with he | he
    ·rw[(M e he).1] at g; cases g
    ·rw[Al.mp he] at g
     exact .inl (G g)
   ·by_cases hb:b∈C
    ·rw[G hb] at e; cases e
    ·rw[I hb] at e; exact e
   ·by_cases hb:b∈C
    ·rw[G hb] at e; cases e
    ·rw[I hb] at e; exact ⟨o,e⟩
  ·exact k1 .non .none [] y p .non (λ_ z=>(nomatch z)) (t B)
  ·obtain ⟨m,d,rfl,hm,r⟩:=p
   obtain ⟨u,e2,rd,_⟩:=B.ok _ mem_mid
   cases e2
   have J:At K O (λ_=>False) L.n ((Y++[⟨some v,.dat m d,F'⟩])++[⟨none,.grd H,C⟩]) y:=by rw[Bw]; exact B
   refine k1 v d F' y r rd (λa g=>?_) (t J)
   have sp:=(Cy.mp J.sep).2.2 _ (Ag _ Ab) _ Ab
   exact λz=>sp.2 (.inr rfl) a z g
end
def zZ(g:PF)(c:DA):DE:=λf P=>c f λb a=>noPk b=true/\match datas b with
 | some e=>g e λd=>P (.dat .sh d) a
 | none=>False
theorem oK:∀{As:List Ent},noPk (As.map Ent.x)=true->∀e∈As,Tj e.x=false
 | [],_,e,he=>nomatch he
 | ⟨v,x,F⟩::As,h,e,he=>by
  rw[Ap] at h
  have a:Tj x=false/\noPk (As.map Ent.x)=true:=by
   cases x with
   | dat m d=>cases m <;> first | exact ⟨rfl,h⟩ | (simp [noPk] at h)
   | _=>exact ⟨rfl,by simpa [noPk] using h⟩
  rcases Ak.mp he with rfl | he
  ·exact a.1
  ·exact oK a.2 e he
section
variable{X:Cx}{CX:yG}{k:Nat}{f:Addr}{i:Cs}{ps:List Str}{c:PF}{E:XK}{x:Str}{p pos:Pos}{e:Expr}{es:List Expr}{b:DA}
theorem oW(F:FnOk X.prog X.w X.K X.mg X.base CX k f i ps (IX X.K c))(hr:Room k X.A)(hg:Gl X x)(Z:X.mg x=some (.ref f))(M:PySem.W.keepIn X.K (.ref f)=true)(hb:Binds X.K i ps [])(hx:Ss CX X E)(u:mI X (e::es) b)(C:(x == ("__debug__" : Str))=false:=by decide)(j:Bj (e::es) X.env=(false,eval e X.env)::Bj es X.env:=by rfl)(D:(Hg pos (Bj es X.env)).any (·.1)=false:=by rfl):Gq X (.Call (.Name x p) (e::es) [] pos) (zZ c b):=by
 refine PE.imp (cA F hr hg Z M hb .nil hx u C j D) λσ H Q h=>?_
 obtain ⟨H0,Y,S,T,δ,P,rfl,hS,N,R,U⟩:=h
 refine ⟨H0,Y,S,T,δ,_,rfl,hS,N,R,λxs t J us I H' e1 O V eu l p=>?_⟩
 subst V
 obtain ⟨np,p⟩:=p
 cases q:datas (J.map Ent.x) with
 | none=>rw[q] at p; exact p.elim
 | some ds =>
  rw[q] at p
  rw[Eb]
  have y:=oK np
  have L:=l.dropL
  refine ⟨J,t.n,ds,_,(I++T).flatMap cells,eu,λe j=>l.ok e (Ag _ (Ao _ j)),q,p,λa u=>?_,λv d F G r rd fr s=>?_⟩
  ·obtain ⟨g,hg1,m⟩:=Oi.mp u
   refine ⟨λz=>?_,λe j=>?_⟩
   ·obtain ⟨o,q⟩:=(L.ok g hg1).dom a (Ht _ _ m)
    rw[z] at q; cases q
   ·obtain ⟨_,B,hp⟩ := Cy.mp l.sep
    rcases Bc.mp hg1 with hg1 | hg1
    ·exact (hp g hg1 e (Ao _ j)).1 (.inl (y e j)) a m
    ·exact ((Cy.mp B).2.2 e j g hg1).2 (.inl (y e j)) a m
  ·refine U _ t v F I G e1 O (((L.grow s (Aj _)).pushS rd λf hf a u z=>fr a z (List.mem_flatMap.mpr ⟨f,hf,u⟩)).tomid) r
end
def GC(c:DA):DE:=λd P=>c d λe b=>match e with
 | [.dat _ (.tuple ds)]=>∃a:List Int,ds=a.map Av/\(∀x∈a,0<=x/\x<60)/\P (.dat .ow (.list ((Pj a).map Av))) b
 | _=>False
section
variable{X:Cx}{p c pos b:Pos}{e:Expr}{d:DA}
theorem CH(u:X.calm=true)(hg:Gl X "sorted")(L:X.mg "sorted" = none)(l:Gl X "set")(t:X.mg "set" = none)(s:mI X [e] d)(J:Bj [e] X.env=[(false,eval e X.env)]:=by rfl)(g:Bj [.Call (.Name "set" c) [e] [] b] X.env=[(false,eval (.Call (.Name "set" c) [e] [] b) X.env)]:=by rfl):Gq X (.Call (.Name "sorted" p) [.Call (.Name "set" c) [e] [] b] [] pos) (GC d):=by
 refine PE.imp (eX (Ys u) hg L (by decide +kernel) (Hx (Na (eQ u) l t (by decide +kernel) s (by decide) (by decide) J rfl) Og g) (by decide) (by decide) g rfl) λσ H Q h=>?_
 obtain ⟨W,Y,S,T,M,P,rfl,R,D,G,k⟩:=h
 refine ⟨W,Y,S,T,M,_,rfl,R,D,G,λN n As U z H' e1 E K V j p=>?_⟩
 split at p
 ·obtain ⟨v,F,rfl,f⟩:=Hw V j K
  obtain ⟨m,rfl,i,C⟩:=p
  obtain ⟨a,N,rfl,s,A,hz⟩:=(f.told mem_mid).tup_inv
  obtain ⟨rfl,_⟩:=A.ints_inv
  refine ⟨a,m,EV,rfl,Ru.of s,by decide,λx y=>Yu (i x y).1 (i x y).2,λq B=>?_⟩
  refine ⟨q,m,rfl,Du,λr U Z nd I o=>?_⟩
  rw[uQ (aN nd I) o]
  have O:=Ff B (aQ X.w q m)
  exact k _ n _ _ z _ e1 E ((f.drop.grow O (Aj _)).newI (RdFs.ints _) (Nu _) (by rw[Ad]; exact sz (by have:=pO i; omega)) Z .ow) C
 ·exact p.elim
end
def Ky(j:Nat):List Int:=(Cc j).map λn:Nat=>(n:Int)
def JG(x:DV)(a:DS)(P:DV->DS->Prop):Prop:=match x with
 | .dat _ (.int j)=>0<=j/\j<=1000/\P (.dat .ow (Bf (Ky j.toNat))) a
 | _=>False
def LX(c:DE):DE:=λb P=>c b λx a=>JG x a P
section
variable{X:Cx}{p b pos a:Pos}{e:Expr}{c:DE}
theorem zC(s:X.calm=true)(J:Gl X "tuple")(z:X.mg "tuple" = none)(g:Gl X "range")(n:X.mg "range" = none)(K:Gq X e c)(o:Bj [e] X.env=[(false,eval e X.env)]:=by rfl)(f:Bj [.Call (.Name "range" b) [e] [] a] X.env=[(false,eval (.Call (.Name "range" b) [e] [] a) X.env)]:=by rfl):Gq X (.Call (.Name "tuple" p) [.Call (.Name "range" b) [e] [] a] [] pos) (LX c):=by
 refine PE.imp (Na (nW s) J z (by decide +kernel) (Hx (Na oS g n (by decide +kernel) (Hx K Og o) (by decide) (by decide) o rfl) Og f) (by decide) (by decide) f rfl) λO H Q h=>?_
 obtain ⟨G,Y,S,T,A,P,rfl,D,t,w,k⟩:=h
 refine ⟨G,Y,S,T,A,_,rfl,D,t,w,λx i v F q N L u d p=>?_⟩
 unfold JG at p
 split at p
 ·rename_i m j
  obtain ⟨C,M,p⟩:=p
  obtain ⟨rfl,_⟩:=(d.told mem_mid).int_inv
  refine ⟨j,rfl,λr I=>⟨r,j,rfl,Du,C,M,λl y=>?_⟩⟩
  have B:=Ff I (zR r j)
  have E:=Ff y (.tup ((Ky j.toNat).map V.int))
  refine k _ i _ _ q _ L u (((d.drop.grow B (Aj _)).grow E (Aj _)).pushI (RdF.tup Du ?_ (RdFs.ints _))) p
  rw[Ad]
  unfold Ky
  rw[Ad,Cq]
  exact pY (by omega)
 ·exact p.elim
end
abbrev PX:=List Af->(Af->Prop)->(Addr->Prop)->Prop
end DL
namespace Nd
open PySem PySem.Spec PyProof.Rows L2
section
variable{X:Cx}
def BN(K:PySem.W.Frag)(J:It)(r:List Nat)(j:TI)(v:TE)(s:L2.St)(q:Hp)(Q:VK):Prop:=∀D,q D=none->∃W:Nat->Nat->Hp->Prop,(∃m,W 0 m (upd q D (.lst [])))/\∀i m H,W i m H ->
 (J.stop i H/\Q (.ref D) H)\/(J.go i H/\∀x h,J.yld i H x h->∃(t:Addr) (k g:V),x=.ref t/\Ru K h t [k,g]/\∀o:Option V,j (some k::some g::o::Ef s r) h λl w=>∃f:Nat->Nat->Hp->Prop,(∃e,f 0 e w)/\∀c e d,f c e d ->
  (l.stop c d/\∃u,u<m/\W (i+1) u d)\/(l.go c d/\∀y p,l.yld c d y p->v (some k::some g::some y::Ef s r) p λz n=>∃a,n D=some (.lst a)/\a.length<Ay/\∃b,b<e/\f (c+1) b (upd n D (.lst (a++[z])))))
def o7(K:PySem.W.Frag)(c:TI)(e:List Nat)(a:TI)(f:TE):TE:=λb H Q=>c b H λJ d=>BN K J e a f b d Q
theorem J4{S iter g:Expr}{x j k:Str}{px E B pt pos:Pos}{kt:Nat}{a:Scope}{t:List (Str×Addr)}{ys:List Str}{R:List Nat}{wi q5:TI}{te:TE}(C:CompScope X a t x ys R)(h5:aM a j)(Y:aM a k)(k0:(x::j::k::ys).Nodup)(hc:X.calm=true)(hi:PI X (.Tuple [.Name x px,.Name j E] kt pt) iter wi)(y9:∀fp s H,PI (Cw X a t (x::j::k::ys) fp s H) (.Name k B) g q5)(he:∀fp s H,PE (Cw X a t (x::j::k::ys) fp s H) S te)(hs:∀x,Dc iter X.env x=pure x:=by intro _; rfl)(y2:∀fp s H v,Dc g (Cw X a t (x::j::k::ys) fp s H).env v=pure v:=by intro _ _ _ _; rfl):PE X (.ListComp S [⟨.Tuple [.Name x px,.Name j E] kt pt,iter,[],0⟩,⟨.Name k B,g,[],0⟩] a pos) (o7 X.K wi R q5 te):=by
 intro L s O H Q I h
 rw[eval_ListComp]
 refine Hk (use:=none) rfl hs C.clos C.kind C.locs (Fp (hi L s O H _ I h) λv s1 h1=>Fp h1 λa5 f h2=>?_)
 obtain ⟨it,fp,tn,J,G,e,I2,T,z7,f2,q2⟩:=h2
 subst e
 have fD:G f.heap.objs.size=none:=I2.hok.fresh (Aj _)
 obtain ⟨W,⟨m0,w0⟩,j2⟩:=q2 f.heap.objs.size fD
 refine Cg ?_
 have I3:Inv X L O (upd G f.heap.objs.size (.lst [])) { f with heap:=f.heap.push { cls:=.type "list",dict:=none,data:=.seq ([]:List Value).toArray } } :=
  I2.laid (t':=f.toks) (λb u q=>Ai _ q) (Aj _) ⟨Do _,[],0,.nil,Ar _ rfl⟩
 obtain ⟨f3,j0,v0⟩:=Rm I2 T z7 f2 I3
 generalize j1:({ f with heap:=f.heap.push { cls:=.type "list",dict:=none,data:=.seq ([]:List Value).toArray } }:Ah)=s3 at I3
 have Rr:tn 0 s3.heap:=by rw[<- j1]; exact j0
 have o3:∀b∈fp,∃o,s3.heap.get? b=some o:=by rw[<- j1]; exact v0
 show wpAny _ _ (Kc a X.env.globals t [] X.env.qual none .none (some X.env)) _ _ _
 refine Pb C λh4 j6 P j7=>?_
 have I4:∀tk,Inv (Cw X a t (x::j::k::ys) fp s3 (upd G f.heap.objs.size (.lst []))) [] (none::none::none::Ef O R) (upd G f.heap.objs.size (.lst [])) { s3 with heap:=h4,toks:=tk }:=λtk=>Ni (pre:=[x,j,k]) C I3 f3 o3 j6 P j7
 have q8:tn 0 h4:=T.keep 0 _ _ Rr λb l o q=>P b o q
 generalize U:Cw X a t (x::j::k::ys) fp s3 (upd G f.heap.objs.size (.lst []))=X' at I4
 obtain ⟨eP,eW,eK,eA,eC⟩:=Rp hc U
 have F:∀{d:Hp},(∀b∈fp,d b=none)->∀b∈fp,Lg X' [] d b:=λ{d} hn=>Pe U (I4 0) hn
 have Z:∀s5:Ah,s5={ s3 with heap:=h4,toks:=s3.toks+([]:List (Str×Value)).length } ->
   Ha (model X.prog X.w) X.A (.compLoop (.ListComp S [⟨.Tuple [.Name x px,.Name j E] kt pt,iter,[],0⟩,⟨.Name k B,g,[],0⟩] a pos) 0 (.ref it) (.ref f.heap.objs.size) (Ti a (En (s3.heap.objs.size+1) a.names t) s3.heap.objs.size X.env))
    (compPost (model X.prog X.w) X.A X.xe none (EP X L O Q) (.ref f.heap.objs.size) s3.heap.objs.size) s5:=by
  rintro s5 rfl
  refine pR (λv=>y2 fp s3 (upd G f.heap.objs.size (.lst [])) v) (λn s'=>∃i o ob M d,Inv X' [] (o::ob::M::Ef O R) d s'/\tn i s'.heap/\(∀b∈fp,d b=none)/\W i n d) ?_ m0
   ⟨0,none,none,none,_,I4 _,q8,λb l=>(f3 b l).1,w0⟩
  (intro n s6 q_; obtain ⟨i,o,ob,M,H6,I6,q3,q9,w6⟩ := q_)
  rcases j2 i n H6 w6 with ⟨q6,qn⟩ | ⟨go,step⟩
  ·have hd:=T.done X' eP eW eK eC i [] s6 _ H6 (λ_ _=>False) I6 (F q9) q3 q6
   rw[eA] at hd
   refine Fp hd λr s7 c => ?_
   obtain ⟨hr,I7⟩ := c
   subst hr
   obtain ⟨m7,x4,q1⟩:=Si U I3 f3 I7
   exact ⟨m7,x4,λh8 y3=>⟨.ref f.heap.objs.size,H6,q1 h8 y3,rfl,qn⟩⟩
  ·have x1:=T.item X' eP eW eK eC i [] s6 _ H6 (λ_ _=>False) I6 (F q9) q3 go
   rw[eA] at x1
   refine Fp x1 λr s7 c => ?_
   obtain ⟨u,hr,h7⟩ := c
   subst hr
   refine Fp h7 λ_ s8 c => ?_
   obtain ⟨y,H8,I8,r8,y8,k1,v4⟩ := c
   have x6:=I8.pinned (F v4) (T.obj _ _ k1)
   obtain ⟨tp,w1,w2,ey,w3,k9⟩:=step y H8 y8
   have v9:=k9 M
   have again:∀{H9:Hp} {s9:Ah} {m':Nat} {o9:Option V},Inv X' ([]++Oh fp s8.heap) (some w1::some w2::o9::Ef O R) H9 s9->m'<n->W (i+1) m' H9->∃m,m<n/\∃i o ob M d,Inv X' [] (o::ob::M::Ef O R) d s9/\tn i s9.heap/\(∀b∈fp,d b=none)/\W i m d:=λ{H9 s9 m' o9} I9 hm w9=>by
    refine ⟨m',hm,i+1,some w1,some w2,o9,H9,I9.unpinned,T.keep _ _ _ k1 λb l o e=>(I9.pin (b,o) (Ag _ (Ag _ (Fl l e)))).1,λb l=>?_,w9⟩
    obtain ⟨o,e,_⟩:=T.obj _ _ k1 b l
    exact (I9.pin (b,o) (Ag _ (Ag _ (Fl l e)))).2.1
   subst U
   have g1:PG (Cw X a t (x::j::k::ys) fp s3 (upd G f.heap.objs.size (.lst []))) (.Tuple [.Name x px,.Name j E] kt pt) (C7 X.K 2 (Yz (Pt 0) (Yz (Pt 1) J0))) :=
    dQ (X:=Cw X a t (x::j::k::ys) fp s3 (upd G f.heap.objs.size (.lst []))) hc (Mo (Jy (i:=0) (x:=x) k0 rfl (Mn C.own) (Pp C.own)) (Mo (Jy (i:=1) (x:=j) k0 rfl (Mn h5) (Pp h5)) Xz))
   refine Fp (g1 _ s8 _ H8 y u (λk7 d=>k7=some w1::some w2::M::Ef O R/\d=H8) x6 r8 ⟨tp,[w1,w2],ey,w3,rfl,_,_,rfl,_,_,rfl,rfl,rfl,rfl⟩) λ_ s9 c => ?_
   obtain ⟨a8,H9,I9,e9,x3⟩ := c
   subst e9 x3
   refine Fp (y9 fp s3 _ _ s9 _ _ _ I9 v9) λv2 a7 y6=>Fp y6 λa3 v5 x9=>?_
   obtain ⟨z3,h9,y1,J2,x5,w5,z5,T2,h6,q7,W2,⟨z4,z1⟩,k2⟩:=x9
   subst w5
   have p:∀{d:Hp},(∀b∈h9,d b=none)->∀b∈h9,Lg (Cw X a t (x::j::k::ys) fp s3 (upd G f.heap.objs.size (.lst []))) ([]++Oh fp s8.heap) d b:=λhn b l=>⟨hn b l,(q7 b l).2⟩
   have D:Ha (model X.prog X.w) X.A (.compLoop (.ListComp S [⟨.Tuple [.Name x px,.Name j E] kt pt,iter,[],0⟩,⟨.Name k B,g,[],0⟩] a pos) 1 (.ref z3) (.ref f.heap.objs.size) (Ti a (En (s3.heap.objs.size+1) a.names t) s3.heap.objs.size X.env))
     (λr s6=>match r with | .ok _=>∃m,m<n/\∃i o ob M d,Inv (Cw X a t (x::j::k::ys) fp s3 (upd G f.heap.objs.size (.lst []))) [] (o::ob::M::Ef O R) d s6/\tn i s6.heap/\(∀b∈fp,d b=none)/\W i m d | .error _=>False) v5:=by
    refine qL (λn2 s'=>∃i2 M d,Inv (Cw X a t (x::j::k::ys) fp s3 (upd G f.heap.objs.size (.lst []))) ([]++Oh fp s8.heap) (some w1::some w2::M::Ef O R) d s'/\y1 i2 s'.heap/\(∀b∈h9,d b=none)/\W2 i2 n2 d) ?_ z4
     ⟨0,M,x5,z5,h6,λb l=>(q7 b l).1,z1⟩
    (intro n2 q0 q_; obtain ⟨i2,p2,k3,j5,h3,h0,a0⟩ := q_)
    rcases k2 i2 n2 k3 a0 with ⟨k4,m',y0,w'⟩ | ⟨z8,k6⟩
    ·have hd:=T2.done _ rfl rfl rfl hc i2 _ q0 _ k3 (λ_ _=>False) j5 (p h0) h3 k4
     refine Fp hd λr w8 c => ?_
     obtain ⟨hr,x8⟩ := c
     subst hr
     exact again x8 y0 w'
    ·have q4:=T2.item _ rfl rfl rfl hc i2 _ q0 _ k3 (λ_ _=>False) j5 (p h0) h3 z8
     refine Fp q4 λr w8 c => ?_
     obtain ⟨u2,hr,z0⟩ := c
     subst hr
     refine Fp z0 λ_ v1 c => ?_
     obtain ⟨z,j8,v6,w4,a1,N,j4⟩ := c
     have j3:=v6.pinned (p j4) (T2.obj _ _ N)
     refine Fp (Jy (i:=2) (x:=k) (pos:=B) k0 rfl (Mn Y) (Pp Y) _ v1 _ j8 z u2 (λk7 d=>k7=some w1::some w2::some z::Ef O R/\d=j8) j3 w4 ⟨rfl,rfl⟩) λ_ z6 c => ?_
     obtain ⟨a4,w7,y7,x7,x0⟩ := c
     subst x7 x0
     refine Fp (he fp s3 _ _ z6 _ _ _ y7 (k6 z w7 a1)) λzv y5 c => ?_
     obtain ⟨vz,j9,z2,v7,y4⟩ := c
     obtain ⟨k8,ha,hz,v3,z9,v8⟩:=y4
     refine Fp (Pc _ y5 _ j9 (.ref f.heap.objs.size) [vz] (.ref f.heap.objs.size) [zv] (λ_ d=>d=upd j9 f.heap.objs.size (.lst (k8++[vz]))) z2 rfl (.cons v7 .nil) ⟨_,k8,vz,rfl,rfl,ha,hz,rfl⟩) λ_ a9 c => ?_
     obtain ⟨_,a6,k5,_,a2⟩ := c
     subst a2
     refine ⟨v3,z9,i2+1,some z,_,k5.unpinned,T2.keep _ _ _ N λb l o e=>(k5.pin (b,o) (Ag _ (Ag _ (Fl l e)))).1,λb l=>?_,v8⟩
     obtain ⟨o,e,_⟩:=T2.obj _ _ N b l
     exact (k5.pin (b,o) (Ag _ (Ag _ (Fl l e)))).2.1
   exact gK D (T2.self X.A 0 _ _ _ h6 D)
 exact Kv (Z _ rfl) (T.self X.A 0 _ _ _ q8 (Z _ rfl))
end
end Nd
namespace DL
open PySem PySem.Spec PyProof.Rows L2 Nd
def AS(b:Bool)(t:DI)(p:List Nat)(k:DI)(s:DE):DE:=λu P=>t u λm o f=>∃I:Nat->List Af->Nat->Prop,I 0 [] f.n /\
 (∀i d c n,o[i]? = some d->I i c n->k ⟨.dat m d::.un::frD f.sl p,n⟩ λr q l=>∃h:Nat->List Af->Nat->Prop,h 0 c l.n /\
  (∀j e a g,q[j]? = some e->h j a g->a.length+1<=Ay/\Lz b Np s ⟨.dat m d::.dat r e::frD f.sl p,g⟩ (λz v=>h (j+1) (a++[z]) v) (λ_=>False)) /\
  ∀a g,h q.length a g->I (i+1) a g) /\
 ∀c n,I o.length c n->P (.dat (Te b) (.list c)) ⟨f.sl,n⟩
def rN(b:Bool)(v:DI)(r:List Nat)(l:DI)(u:DE):DE:=λw P=>v w λm q f=>∃I:Nat->List Af->Nat->Prop,I 0 [] f.n /\
 (∀i d c n,q[i]? = some d->I i c n->∃k p,d=.tuple [k,p]/\l ⟨.dat m k::.dat m p::.un::frD f.sl r,n⟩ λt s o=>∃h:Nat->List Af->Nat->Prop,h 0 c o.n /\
  (∀j e a g,s[j]? = some e->h j a g->a.length+1<=Ay/\Lz b Np u ⟨.dat m k::.dat m p::.dat t e::frD f.sl r,g⟩ (λz x=>h (j+1) (a++[z]) x) (λ_=>False)) /\
  ∀a g,h s.length a g->I (i+1) a g) /\
 ∀c n,I q.length c n->P (.dat (Te b) (.list c)) ⟨f.sl,n⟩
theorem kA{v:Option V}{m:Md}{d:Af}{F:List Addr}(h:m=.sh\/m=.pk):al ⟨v,.dat m d,F⟩=⟨v,.dat m d,F⟩:=by
 rcases h with rfl | rfl <;> rfl
section
variable{K:PySem.W.Frag}
theorem HQ{b:Bool}{di Z:DI}{L:List Nat}{de:DE}:∀σ H Q,LE K (AS b di L Z de) σ H Q->BP (LI K di) L (LI K Z) (LE K de) σ H Q:=by
 intro σ H Q h
 obtain ⟨t,Y,S,T,δ,P,rfl,hS,hA,hd,k⟩:=h
 refine ⟨t,Y,S,T,δ,_,rfl,hS,hA,hd,λm W B J f g H1 e1 e2 k5 it hz p1=>?_⟩
 obtain ⟨I,h0,hs,hf⟩:=p1
 rw[<- e1]
 intro D hD
 refine ⟨λi q H=>q=W.length - i/\i<=W.length/\∃a n G,(b=true->G=[])/\At K t Y n (⟨some (.ref D),.acc a,D::G⟩::(g++(f++T))) H/\I i a n,⟨W.length,by simp,Do _,[],B.n,[],λ_=>rfl,k5.accNew hD,h0⟩,?_⟩
 (intro i q H q_; obtain ⟨rfl,hi,a,n,G,hG,V,hI⟩ := q_)
 have l:∀e∈f,Iu K H n e:=λe he=>V.ok e (Ac _ (Ag _ (Ao _ he)))
 by_cases O:i<W.length
 ·refine .inr ⟨it.go H n i l O,λx H' y o=>?_⟩
  obtain ⟨s1,d,F,h1,h2,h3⟩:=it.yld H n i x H' l O y
  have R:At K t Y n ((⟨some (.ref D),.acc a,D::G⟩::g)++⟨some x,.dat m d,F⟩::(f++T)) H':=At.item (S:=⟨some (.ref D),.acc a,D::G⟩::g) V s1 h2 h3 it.md it.hd it.np
  have N:At K t Y n (⟨some (.ref D),.acc a,D::G⟩::⟨some x,.dat m d,F⟩::(g++(f++T))) H':=(R.mid).perm (Ej _ _ _)
  have view:∀{n:Nat} {H:Hp} {e0:Ent} {hid2:List Ent} (u:Ent),At K t Y n (u::e0::⟨some x,.dat m d,F⟩::(g++hid2)) H->At K t Y n ((⟨some x,.dat m d,F⟩::u::gB g L)++e0::⟨some x,.dat m d,F⟩::(g++hid2)) H:=λ{n H e0 hid2} u h=>by
   have g1:=At.view (S:=g) h (λe he=>Ac _ (Ac _ (Ac _ (Ao _ he)))) L
   have g2:=g1.view1 (e:=⟨some x,.dat m d,F⟩) (Ag _ (Ac _ (Ac _ Ab)))
   rw[kA it.md] at g2
   refine g2.perm ?_
   rw[Fm,Fm]
   exact (Ea).cons _
  have h5:∀(u:Ent) (n:Nat),Sl (⟨some x,.dat m d,F⟩::u::gB g L) ⟨.dat m d::u.x::frD B.sl L,n⟩:=λu n=>by
   unfold Sl
   rw[Ap,Ap,oM e2]
  have hv:∀(u:Ent),vs (⟨some x,.dat m d,F⟩::u::gB g L)=some x::u.v::Ef (vs g) L:=λu=>by
   rw[<- qR]
   rfl
  have hB:=view (hid2:=f++T) ⟨o,.un,[]⟩ N.blank
  refine ⟨t,Y,_,_,⟨.dat m d::.un::frD B.sl L,n⟩,_,hv ⟨o,.un,[]⟩,h5 ⟨o,.un,[]⟩ n,hB,hs i d a n h1 hI,λm2 C h4 J2 hid2 S2 H2 f1 f2 k7 s k9 p2=>?_⟩
  obtain ⟨I2,g0,gs,gf⟩:=p2
  have k0:At K t Y h4.n (⟨some (.ref D),.acc a,D::G⟩::(⟨some x,.dat m d,F⟩::(g++(hid2++(f++T))))) H2:=by
   have z:=k7.sub (Bu S2 _)
   refine z.perm ?_
   refine Ea.trans (Jd _ ?_)
   refine Ea.trans (Jd _ ?_)
   exact jF _ _ _
  refine ⟨λr q2 H=>q2=C.length - r/\r<=C.length/\∃a n G,(b=true->G=[])/\At K t Y n (⟨some (.ref D),.acc a,D::G⟩::(⟨some x,.dat m d,F⟩::(g++(hid2++(f++T))))) H/\I2 r a n,⟨C.length,by simp,Do _,a,h4.n,G,hG,k0,g0⟩,?_⟩
  (intro r q2 H3 q_; obtain ⟨rfl,k8,j,E,G2,h8,U,X⟩ := q_)
  have c:∀e∈hid2,Iu K H3 E e:=λe he=>U.ok e (Ac _ (Ac _ (Ag _ (Ao _ he))))
  by_cases A:r<C.length
  ·refine .inr ⟨s.go H3 E r c A,λy2 H4 yy=>?_⟩
   obtain ⟨s2,d2,F2,k1,k2,k3⟩:=s.yld H3 E r y2 H4 c A yy
   obtain ⟨lz,st⟩:=gs r d2 j E k1 X
   have h9:At K t Y E ((⟨some (.ref D),.acc j,D::G2⟩::⟨some x,.dat m d,F⟩::g)++⟨some y2,.dat m2 d2,F2⟩::(hid2++(f++T))) H4:=At.item (S:=⟨some (.ref D),.acc j,D::G2⟩::⟨some x,.dat m d,F⟩::g) U s2 k2 k3 s.md s.hd s.np
   have k6:=view (hid2:=hid2++(f++T)) ⟨some y2,.dat m2 d2,F2⟩ h9.mid
   have z:=Zb (dc:=Np) (N1:=λ_=>False) (N2:=λv H5=>∃a,H5 D=some (.lst a)/\a.length<Ay/\∃h6,h6<C.length - r/\(h6=C.length - (r+1)/\r+1<=C.length/\∃M n G,(b=true->G=[])/\At K t Y n (⟨some (.ref D),.acc M,D::G⟩::(⟨some x,.dat m d,F⟩::(g++(hid2++(f++T))))) (upd H5 D (.lst (a++[v])))/\I2 (r+1) M n)) (h5 ⟨some y2,.dat m2 d2,F2⟩ E) h8 k6 st lz (λ_ _ _ z=>z) (λe n' v H5 G' k4 h7 p=>?_)
   ·rw[hv] at z
    have w:=aH (dt:=Sh) _ _ _ z
    unfold Sh at w
    dsimp only at w
    rw[if_pos rfl] at w
    exact w
   ·obtain ⟨xs,l1,l2,l3⟩:=h7
    exact ⟨xs,l1,by omega,C.length - (r+1),by omega,rfl,A,j++[e],n',G',k4,l3,p⟩
  ·have e:r=C.length:=by omega
   subst e
   refine .inl ⟨s.stop H3 E c,W.length - (i+1),by omega,rfl,O,j,E,G2,h8,?_,gf j E X⟩
   refine U.sub (List.Sublist.cons₂ _ (Wh _ ?_))
   exact (Co g).append (Bu hid2 _)
 ·have e:i=W.length:=by omega
  subst e
  refine .inl ⟨it.stop H n l,k _ ⟨B.sl,n⟩ _ (D::G) g H e1 e2 ?_ (hf a n hI)⟩
  have R:=V.accGetG hG
  have N:At K t Y n (⟨some (.ref D),.dat (Te b) (.list a),D::G⟩::(g++T)) H:=R.sub (((Co g).append (Bu f T)).cons₂ _)
  exact N.tomid
theorem n9{b:Bool}{di k4:DI}{W:List Nat}{de:DE}:∀σ H Q,LE K (rN b di W k4 de) σ H Q->o7 K (LI K di) W (LI K k4) (LE K de) σ H Q:=by
 intro σ H Q h
 obtain ⟨C,Y,S,T,δ,P,rfl,hS,hA,hd,k⟩:=h
 refine ⟨C,Y,S,T,δ,_,rfl,hS,hA,hd,λm ds R J g l H1 e1 e2 q5 it hz p1=>?_⟩
 obtain ⟨I,h0,hs,hf⟩:=p1
 rw[<- e1]
 intro D hD
 refine ⟨λi q H=>q=ds.length - i/\i<=ds.length/\∃c n G,(b=true->G=[])/\At K C Y n (⟨some (.ref D),.acc c,D::G⟩::(l++(g++T))) H/\I i c n,⟨ds.length,by simp,Do _,[],R.n,[],λ_=>rfl,q5.accNew hD,h0⟩,?_⟩
 (intro i q H q_; obtain ⟨rfl,hi,c,n,G,hG,h8,hI⟩ := q_)
 have s:∀e∈g,Iu K H n e:=λe he=>h8.ok e (Ac _ (Ag _ (Ao _ he)))
 by_cases h4:i<ds.length
 ·refine .inr ⟨it.go H n i s h4,λx H' y=>?_⟩
  obtain ⟨s1,d,F,h1,h2,h3⟩:=it.yld H n i x H' s h4 y
  obtain ⟨u,f,rfl,q1⟩:=hs i d c n h1 hI
  obtain ⟨tt,j2,rfl,ht,rt,_⟩:=h2.tup_inv
  cases rt with
  | @cons t _ j0 _ B _ r1 rt =>
  cases rt with
  | @cons A _ j1 _ L G0 r2 rt =>
  cases rt
  refine ⟨tt,t,A,rfl,Ru.of ht,λo=>?_⟩
  have h5:At K C Y n ((⟨some (.ref D),.acc c,D::G⟩::l)++⟨some t,.dat m u,B⟩::(g++T)) H':=At.item (S:=⟨some (.ref D),.acc c,D::G⟩::l) h8 s1 r1 (λa ha=>h3 a (Ao _ ha)) it.md it.hd it.np
  have h9:At K C Y n ((⟨some t,.dat m u,B⟩::⟨some (.ref D),.acc c,D::G⟩::l)++(g++T)) H':=h5.mid
  have h7:At K C Y n ((⟨some t,.dat m u,B⟩::⟨some (.ref D),.acc c,D::G⟩::l)++⟨some A,.dat m f,L⟩::(g++T)) H':=At.item h9 (To.refl _) r2 (λa ha=>h3 a (Ag _ (Ao _ ha))) it.md it.hd it.np
  have Z:At K C Y n (⟨some (.ref D),.acc c,D::G⟩::⟨some t,.dat m u,B⟩::⟨some A,.dat m f,L⟩::(l++(g++T))) H':=(h7.mid).perm (((Ej _ _ _).trans ((Ej _ _ _).cons _)).trans (Ej _ _ _))
  have view:∀{n:Nat} {H:Hp} {e0:Ent} {hid2:List Ent} (N:Ent),At K C Y n (N::e0::⟨some t,.dat m u,B⟩::⟨some A,.dat m f,L⟩::(l++hid2)) H->At K C Y n ((⟨some t,.dat m u,B⟩::⟨some A,.dat m f,L⟩::N::gB l W)++e0::⟨some t,.dat m u,B⟩::⟨some A,.dat m f,L⟩::(l++hid2)) H:=λ{n H e0 hid2} N h=>by
   have g1:=At.view (S:=l) h (λe he=>Ac _ (Ac _ (Ac _ (Ac _ (Ao _ he))))) W
   have g2:=g1.view1 (e:=⟨some A,.dat m f,L⟩) (Ag _ (Ac _ (Ac _ (Ac _ Ab))))
   rw[kA it.md] at g2
   have g3:=g2.view1 (e:=⟨some t,.dat m u,B⟩) (Ac _ (Ag _ (Ac _ (Ac _ Ab))))
   rw[kA it.md] at g3
   refine g3.perm ?_
   rw[Fm,Fm,Fm]
   exact ((Ea).cons _).cons _
  have k6:∀(N:Ent) (n:Nat),Sl (⟨some t,.dat m u,B⟩::⟨some A,.dat m f,L⟩::N::gB l W) ⟨.dat m u::.dat m f::N.x::frD R.sl W,n⟩:=λN n=>by
   unfold Sl
   rw[Ap,Ap,Ap,oM e2]
  have hv:∀(N:Ent),vs (⟨some t,.dat m u,B⟩::⟨some A,.dat m f,L⟩::N::gB l W)=some t::some A::N.v::Ef (vs l) W:=λN=>by
   rw[<- qR]
   rfl
  have hB:=view (hid2:=g++T) ⟨o,.un,[]⟩ Z.blank
  refine ⟨C,Y,_,_,⟨.dat m u::.dat m f::.un::frD R.sl W,n⟩,_,hv ⟨o,.un,[]⟩,k6 ⟨o,.un,[]⟩ n,hB,q1,λm2 U k5 J2 hid2 S2 H2 f1 f2 q7 M q9 p2=>?_⟩
  obtain ⟨I2,g0,gs,gf⟩:=p2
  have q3:At K C Y k5.n (⟨some (.ref D),.acc c,D::G⟩::(⟨some t,.dat m u,B⟩::⟨some A,.dat m f,L⟩::(l++(hid2++(g++T))))) H2:=by
   have z:=q7.sub (Bu S2 _)
   refine z.perm ?_
   refine Ea.trans (Jd _ ?_)
   refine Ea.trans (Jd _ ?_)
   refine Ea.trans (Jd _ ?_)
   exact jF _ _ _
  refine ⟨λE q2 H=>q2=U.length - E/\E<=U.length/\∃c n G,(b=true->G=[])/\At K C Y n (⟨some (.ref D),.acc c,D::G⟩::(⟨some t,.dat m u,B⟩::⟨some A,.dat m f,L⟩::(l++(hid2++(g++T))))) H/\I2 E c n,⟨U.length,by simp,Do _,c,k5.n,G,hG,q3,g0⟩,?_⟩
  (intro E q2 H3 q_; obtain ⟨rfl,q8,r,V,G2,k9,h6,k0⟩ := q_)
  have j:∀e∈hid2,Iu K H3 V e:=λe he=>h6.ok e (Ac _ (Ac _ (Ac _ (Ag _ (Ao _ he)))))
  by_cases O:E<U.length
  ·refine .inr ⟨M.go H3 V E j O,λy2 H4 yy=>?_⟩
   obtain ⟨s2,d2,F2,k1,k2,k3⟩:=M.yld H3 V E y2 H4 j O yy
   obtain ⟨lz,st⟩:=gs E d2 r V k1 k0
   have q0:At K C Y V ((⟨some (.ref D),.acc r,D::G2⟩::⟨some t,.dat m u,B⟩::⟨some A,.dat m f,L⟩::l)++⟨some y2,.dat m2 d2,F2⟩::(hid2++(g++T))) H4:=At.item (S:=⟨some (.ref D),.acc r,D::G2⟩::⟨some t,.dat m u,B⟩::⟨some A,.dat m f,L⟩::l) h6 s2 k2 k3 M.md M.hd M.np
   have q6:=view (hid2:=hid2++(g++T)) ⟨some y2,.dat m2 d2,F2⟩ q0.mid
   have z:=Zb (dc:=Np) (N1:=λ_=>False) (N2:=λv H5=>∃c,H5 D=some (.lst c)/\c.length<Ay/\∃k7,k7<U.length - E/\(k7=U.length - (E+1)/\E+1<=U.length/\∃X n G,(b=true->G=[])/\At K C Y n (⟨some (.ref D),.acc X,D::G⟩::(⟨some t,.dat m u,B⟩::⟨some A,.dat m f,L⟩::(l++(hid2++(g++T))))) (upd H5 D (.lst (c++[v])))/\I2 (E+1) X n)) (k6 ⟨some y2,.dat m2 d2,F2⟩ V) k9 q6 st lz (λ_ _ _ z=>z) (λe n' v H5 G' q4 k8 p=>?_)
   ·rw[hv] at z
    have w:=aH (dt:=Sh) _ _ _ z
    unfold Sh at w
    dsimp only at w
    rw[if_pos rfl] at w
    exact w
   ·obtain ⟨xs,l1,l2,l3⟩:=k8
    exact ⟨xs,l1,by omega,U.length - (E+1),by omega,rfl,O,r++[e],n',G',q4,l3,p⟩
  ·have e:E=U.length:=by omega
   subst e
   refine .inl ⟨M.stop H3 V j,ds.length - (i+1),by omega,rfl,h4,r,V,G2,k9,?_,gf r V k0⟩
   refine h6.sub (List.Sublist.cons₂ _ (Wh _ (Wh _ ?_)))
   exact (Co l).append (Bu hid2 _)
 ·have e:i=ds.length:=by omega
  subst e
  refine .inl ⟨it.stop H n s,k _ ⟨R.sl,n⟩ _ (D::G) l H e1 e2 ?_ (hf c n hI)⟩
  have h5:=h8.accGetG hG
  have Z:At K C Y n (⟨some (.ref D),.dat (Te b) (.list c),D::G⟩::(l++T)) H:=h5.sub (((Co l).append (Bu g T)).cons₂ _)
  exact Z.tomid
end
section
variable{X:Cx}{i iter c:Expr}{x e d r:Str}{p f h pt q pos m:Pos}{k:Nat}{a:Scope}{j:List (Str×Addr)}{ys:List Str}{o:List Nat}{l g:DI}{n:DE}
theorem i3{b:Bool}(C:CompScope X a j x ys o)(m:aM a e)(q:aM a d)(r:(x::e::d::ys).Nodup)(y:X.calm=true)(z:sM X (.Tuple [.Name x p,.Name e f] k pt) iter l)(u:∀fp s H,sM (Cw X a j (x::e::d::ys) fp s H) (.Name d h) c g)(w:∀fp s H,Gq (Cw X a j (x::e::d::ys) fp s H) i n)(A:∀x,Dc iter X.env x=pure x:=by intro _; rfl)(t:∀fp s H v,Dc c (Cw X a j (x::e::d::ys) fp s H).env v=pure v:=by intro _ _ _ _; rfl):Gq X (.ListComp i [⟨.Tuple [.Name x p,.Name e f] k pt,iter,[],0⟩,⟨.Name d h,c,[],0⟩] a pos) (rN b l o g n):=PE.imp (J4 C m q r y z u w A t) n9
end
def BU(b:Bool)(j:DE)(pre c:List DV)(g:List Af)(fin:List Af->Nat->Prop)(l:Md)(es:List Af)(i:DS):Prop:=∃f:Nat->List Af->Nat->Prop,f 0 g i.n /\
 (∀h e a d,es[h]? = some e->f h a d->a.length+1<=Ay/\Lz b Np j ⟨pre++.dat l e::c,d⟩ (λz k=>f (h+1) (a++[z]) k) (λ_=>False)) /\
 ∀a d,f es.length a d->fin a d
def IB(b:Bool)(h:List Nat)(f:DI)(j:DE)(P:DV->DS->Prop)(m:Md)(ds:List Af)(c:DS):Prop:=∃I:Nat->List Af->Nat->Prop,I 0 [] c.n /\
 (∀i d a n,ds[i]? = some d->I i a n->∃e g,d=.tuple [e,g]/\f ⟨.dat m e::.dat m g::.un::frD c.sl h,n⟩ (BU b j [.dat m e,.dat m g] (frD c.sl h) a (I (i+1)))) /\
 ∀a n,I ds.length a n->P (.dat (Te b) (.list a)) ⟨c.sl,n⟩
section
variable{b:Bool}{p:List Nat}{s k:DI}{o:DE}{P:DV->DS->Prop}{t c j:DS}{m q:Md}{ds es:List Af}
theorem JP{r:Type}{l:List r}{g:r->Af}{pre h:List DV}{c:List Af}{fin:List Af->Nat->Prop}(e:es=l.map g)(f:r->Af)(hz:c.length+l.length<=Ay)(t:∀y∈l,∀k:Af->Nat->Prop,k (f y) j.n->Lz b Np o ⟨pre++.dat q (g y)::h,j.n⟩ k (λ_=>False))(s:fin (c++l.map f) j.n):BU b o pre h c fin q es j:=by
 subst e
 refine ⟨λi a n=>a=c++(l.take i).map f/\n=j.n,⟨by simp,rfl⟩,?_,?_⟩
 ·rintro i d _ _ p ⟨rfl,rfl⟩
  rw[Bg] at p
  cases m:l[i]? with
  | none=>rw[m] at p; cases p
  | some y =>
   rw[m] at p
   obtain rfl:g y=d:=Ca p
   have u:=(Ax.mp m).1
   refine ⟨?_,t y (Bp m) _ ⟨?_,rfl⟩⟩
   ·rw[Bm,Ad,Cz]
    omega
   ·rw[Ij m,Bn,Bw]
    rfl
 ·rintro _ _ ⟨rfl,rfl⟩
  rw[Ad,Ey]
  exact s
theorem nH{b c:Type}(r:b->List c){l:List b}{i:Nat}{a:b}(h:l[i]? = some a):((l.take i).flatMap r).length+(r a).length<=(l.flatMap r).length:=by
 have e:l.take (i+1)=l.take i++[a]:=Ij h
 have : ((l.take (i+1)).flatMap r).length<=(l.flatMap r).length:=by
  conv=>rhs; rw[<- Fu (i+1) l,Zg,Bm]
  omega
 rw[e,Zg,Bm] at this
 simpa using this
theorem HL{j:Type}{l:List j}{g1 g2:j->Af}(e:ds=l.map λa=>.tuple [g1 a,g2 a])(r:j->List Af)(hz:(l.flatMap r).length<=Ay)(q:∀a∈l,∀(f:List Af) (fin:List Af->Nat->Prop),f.length+(r a).length<=Ay->fin (f++r a) c.n->k ⟨.dat m (g1 a)::.dat m (g2 a)::.un::frD c.sl p,c.n⟩ (BU b o [.dat m (g1 a),.dat m (g2 a)] (frD c.sl p) f fin))(s:P (.dat (Te b) (.list (l.flatMap r))) ⟨c.sl,c.n⟩):IB b p k o P m ds c:=by
 subst e
 refine ⟨λi a n=>a=(l.take i).flatMap r/\n=c.n,⟨by simp,rfl⟩,?_,?_⟩
 ·rintro i d _ _ h ⟨rfl,rfl⟩
  rw[Bg] at h
  cases g:l[i]? with
  | none=>rw[g] at h; cases h
  | some y =>
   rw[g] at h
   obtain rfl:Li [g1 y,g2 y]=d:=Ca h
   refine ⟨g1 y,g2 y,rfl,q y (Bp g) _ _ (Cb (nH r g) hz) ⟨?_,rfl⟩⟩
   rw[Ij g,Zg]
   simp
 ·rintro _ _ ⟨rfl,rfl⟩
  rw[Ad,Ey]
  exact s
end
end DL
namespace Nd
open PySem PySem.Spec PyProof.Rows L2
abbrev ZF(h:Heap)(z TI TO:Addr)(a b:Value):Prop:=h.get? z=some { cls:=.type "zip",dict:=none,data:=.fields #[a,b,.bool false,.ref TI,.ref TO],slots:=#[] }
section
variable{prog:Bk}{w:World}{A:Ci}{E:Value->Ah->Prop}{s:Ah}
theorem oH{a:Addr}{o:Obj}{Q:Option Obj->Ah->Prop}(b:s.heap.get? a=some o)(h:Q (some o) s):wpAny (model prog w) A (loadIfAlive a) Q E s:=λc p _=>by
 unfold loadIfAlive
 rw[Sem.wp_loadIfAlive,b]
 exact (Sem.wp_pure ..)▸h
theorem eZ{z TI TO a:Addr}{f:Obj}{d:Bool}(hz:ZF s.heap z TI TO (Fe (a:Int)) (.bool d))(g:s.heap.get? a=some f):wpAny (model prog w) A (Dh (.ref z)) (λb s'=>b=false/\∃h',s'={ s with heap:=h' }/\ZF h' z TI TO (Fe (a:Int)) (.bool true)/\Cu z s.heap h') E s:=by
 unfold Dh
 refine Aa (Eh hz rfl (x:=Fe (a:Int)) rfl ?_)
 show wpAny _ _ (loadIfAlive ((a:Int).toNat) >>= _) _ _ _
 refine Aa (oH (a:=(a:Int).toNat) (o:=f) (by rw[Ed]; exact g) ?_)
 simp only[Option.isNone_some,Bz,if_false]
 refine Aa (Eh hz rfl (x:=.bool d) rfl ?_)
 cases d with
 | false =>
  rw[if_pos (by decide)]
  exact Aa (Iv hz (by simp) λh c e=>Ae ⟨rfl,h,rfl,c,e⟩)
 | true =>
  rw[if_neg (by decide)]
  exact Ae ⟨rfl,s.heap,rfl,hz,⟨rfl,λ_ _=>rfl⟩⟩
theorem xB{z TI TO h g l1 l2 a:Addr}{H:Obj}{J:Bool}{k1 k2:Nat}{xs ys:Array Value}{x y:Value}{Q:Value->Ah->Prop}(D:Qs z TI TO h g l1 l2)(hz:ZF s.heap z TI TO (Fe (a:Int)) (.bool J))(K:s.heap.get? a=some H)(n:Fz s.heap TI (.ref h) (.ref g))(h1:s.heap.IsListIter h l1 k1)(B:s.heap.IsListIter g l2 k2)(t:s.heap.IsList l1 xs)(r:s.heap.IsList l2 ys)(C:xs[k1]? = some x)(M:ys[k2]? = some y)(F:∀h',ZF h' z TI TO (Fe (a:Int)) (.bool true)->h'.IsListIter h l1 (k1+1)->h'.IsListIter g l2 (k2+1)->Fz h' s.heap.objs.size x y->h'.objs.size=s.heap.objs.size+1->(∀c o,c≠z->c≠h->c≠g->s.heap.get? c=some o->h'.get? c=some o)->Q (.ref s.heap.objs.size) { s with heap:=h' }):wpAny (model prog w) A (Builtin.«zip.__next__» ⟨[.ref z],[]⟩) (λfin s'=>∃v,fin=.done (.ret v)/\Q v s') E s:=by
 unfold Builtin.«zip.__next__»
 refine Aa (Ae (Aa (Eh hz rfl (x:=.bool false) rfl (Aa (Eh hz rfl (x:=.ref TI) rfl (Aa (Gy n rfl ?_)))))))
 show wpAny _ _ (Dh (.ref z) >>= _) _ _ _
 refine Aa (Fp (eZ (E:=E) hz K) λO P p => ?_)
 obtain ⟨G,R,L,l,b⟩ := p
 subst G L
 simp only[Bz,if_false]
 simp only[<- Zn,Pv,Qz]
 refine Aa (Aa (Aa (Ct ?_)))
 show wpAny _ _ (Cf (.ref h) >>= _) _ _ _
 refine Aa (Xj (h1.extBut b.extBut D.i1z) (t.extBut b.extBut D.l1z) C λN I d=>Ae (Ae ?_))
 refine Aa (Aa (Ct ?_))
 show wpAny _ _ (Cf (.ref g) >>= _) _ _ _
 refine Aa (Xj ((B.extBut b.extBut D.i2z).extBut d.extBut D.i12.symm) ((r.extBut b.extBut D.l2z).extBut d.extBut D.l2i1) M λi u f=>Ae (Ae (Ae ?_)))
 show wpAny _ _ (newTuple [x,y] >>= _) _ _ _
 refine Aa (wpAny_newTuple ?_)
 have sz:i.objs.size=s.heap.objs.size:=by rw[f.1,d.1,b.1]
 have up:∀c o,c≠z->c≠h->c≠g->s.heap.get? c=some o->i.get? c=some o:=λc o m j k e=>f.extBut _ _ k (d.extBut _ _ j (b.extBut _ _ m e))
 have q:ZF i z TI TO (Fe (a:Int)) (.bool true):=f.extBut _ _ D.i2z.symm (d.extBut _ _ D.i1z.symm l)
 have fin:=F (i.push { cls:=.type "tuple",data:=.seq #[x,y] }) (Ai _ q) ((I.extBut f.extBut D.i12).at λo e=>Ai _ e) (u.at λo e=>Ai _ e) (by rw[<- sz]; exact Ar _ rfl) (by rw[He,sz]) (λc o m j k e=>Ai _ (up c o m j k e))
 refine Ae ⟨_,rfl,?_⟩
 rw[<- sz] at fin
 exact fin
theorem gR{z TI TO g f l1 l2 a:Addr}{I:Obj}{J:Bool}{k1 k2:Nat}{xs ys:Array Value}{Q:PySem.Fin->Ah->Prop}(v:A.handled=none)(D:Qs z TI TO g f l1 l2)(hz:ZF s.heap z TI TO (Fe (a:Int)) (.bool J))(K:s.heap.get? a=some I)(n:Fz s.heap TI (.ref g) (.ref f))(h1:s.heap.IsListIter g l1 k1)(C:s.heap.IsListIter f l2 k2)(i:s.heap.IsList l1 xs)(t:s.heap.IsList l2 ys)(h:xs[k1]? = none\/ys[k2]? = none)(y:∀h' e,(∀c o,c≠z->c≠g->c≠f->s.heap.get? c=some o->h'.get? c=some o)->(∃o,h'.get? e=some o/\o.cls=.type "StopIteration")->E (.ref e) { s with heap:=h' }):wpAny (model prog w) A (Builtin.«zip.__next__» ⟨[.ref z],[]⟩) Q E s:=by
 unfold Builtin.«zip.__next__»
 refine Aa (Ae (Aa (Eh hz rfl (x:=.bool false) rfl (Aa (Eh hz rfl (x:=.ref TI) rfl (Aa (Gy n rfl ?_)))))))
 show wpAny _ _ (Dh (.ref z) >>= _) _ _ _
 refine Aa (Fp (eZ (E:=E) hz K) λN O r => ?_)
 obtain ⟨G,R,L,F,b⟩ := r
 subst G L
 simp only[Bz,if_false]
 simp only[<- Zn,Pv,Qz]
 refine Aa (Aa (Aa (Ct ?_)))
 show wpAny _ _ (Cf (.ref g) >>= _) _ _ _
 cases m:xs[k1]? with
 | none =>
  refine Aa (wpAny_nextOf_list_end v (h1.extBut b.extBut D.i1z) (i.extBut b.extBut D.l1z) m λu e d k=>?_)
  exact y u e (λc o l j _ q=>d _ _ j (b.extBut _ _ l q)) k
 | some x =>
  have M:ys[k2]? = none:=h.resolve_left λq=>by rw[m] at q; cases q
  refine Aa (Xj (h1.extBut b.extBut D.i1z) (i.extBut b.extBut D.l1z) m λu P d=>Ae (Ae ?_))
  refine Aa (Aa (Ct ?_))
  show wpAny _ _ (Cf (.ref f) >>= _) _ _ _
  refine Aa (wpAny_nextOf_list_end v ((C.extBut b.extBut D.i2z).extBut d.extBut D.i12.symm) ((t.extBut b.extBut D.l2z).extBut d.extBut D.l2i1) M λH e p k=>?_)
  exact y H e (λc o l j B q=>p _ _ B (d.extBut _ _ j (b.extBut _ _ l q))) k
theorem sG{z TI TO d b l1 l2 a:Addr}{p:Obj}{r:Bool}{k1 k2:Nat}{xs ys:Array Value}{x y:Value}{Q:Option Value->Ah->Prop}(D:Qs z TI TO d b l1 l2)(hz:ZF s.heap z TI TO (Fe (a:Int)) (.bool r))(u:s.heap.get? a=some p)(e:Fz s.heap TI (.ref d) (.ref b))(h1:s.heap.IsListIter d l1 k1)(j:s.heap.IsListIter b l2 k2)(g:s.heap.IsList l1 xs)(f:s.heap.IsList l2 ys)(k:xs[k1]? = some x)(B:ys[k2]? = some y)(l:∀h',ZF h' z TI TO (Fe (a:Int)) (.bool true)->h'.IsListIter d l1 (k1+1)->h'.IsListIter b l2 (k2+1)->Fz h' s.heap.objs.size x y->h'.objs.size=s.heap.objs.size+1->(∀c o,c≠z->c≠d->c≠b->s.heap.get? c=some o->h'.get? c=some o)->Q (some (.ref s.heap.objs.size)) { s with heap:=h' }):wpAny (model prog w) A (Jh (.ref z)) Q E s:=by
 have ty:s.TypeIs (.ref z) "zip" := ⟨_,hz,rfl⟩
 unfold Jh
 refine Aa (Lh (Df (name:=Ds "__next__") ty Xh (Dj Xh ty F.entry_zip_next (xB D hz u e h1 j g f k B λm v h n q i t=>Ae (l m v h n q i t)) (F.args_zip_next_1 _))))
theorem eR{z TI TO g f l1 l2 a:Addr}{n:Obj}{m:Bool}{k1 k2:Nat}{xs ys:Array Value}{Q:Option Value->Ah->Prop}(p:A.handled=none)(D:Qs z TI TO g f l1 l2)(hz:ZF s.heap z TI TO (Fe (a:Int)) (.bool m))(t:s.heap.get? a=some n)(i:Fz s.heap TI (.ref g) (.ref f))(h1:s.heap.IsListIter g l1 k1)(k:s.heap.IsListIter f l2 k2)(j:s.heap.IsList l1 xs)(h:s.heap.IsList l2 ys)(d:xs[k1]? = none\/ys[k2]? = none)(r:∀h',(∀c o,c≠z->c≠g->c≠f->s.heap.get? c=some o->h'.get? c=some o)->Q none { s with heap:=h' }):wpAny (model prog w) A (Jh (.ref z)) Q E s:=by
 have ty:s.TypeIs (.ref z) "zip" := ⟨_,hz,rfl⟩
 unfold Jh
 refine Aa (Lh (Df (name:=Ds "__next__") ty Xh (Dj Xh ty F.entry_zip_next (gR p D hz t i h1 k j h d λv e kp l=>?_) (F.args_zip_next_1 _))))
 obtain ⟨o,u,q⟩:=l
 exact Aa (Ip (T := "StopIteration") (b:=true) ⟨o,u,q⟩ isSubtype_stop (Ae (r _ kp)))
end
end Nd
namespace Nd
open PySem PySem.Spec
theorem kN:entryFor table "zip.__getattribute__" = some Builtin.«object.__getattribute__» :=
 bM (id' := "object.__getattribute__") (by kernel_rfl) (by first | rfl | decide +kernel) (by decide +kernel) (by kernel_rfl)
theorem mX:fO (.type "zip") "keys" = pure none:=by rw[Zc,Pu]; kernel_rfl
section
variable{prog:Bk}{w:World}{A:Ci}{E:Value->Ah->Prop}{h:Heap}{g:Array GenState}{d:Drawn}{t:Nat}{os:OsState}{a:Addr}{fs:Array Value}
theorem cS:isSubtype (.type "AttributeError") (.type "AttributeError")=pure true:=by rw[bL]; kernel_rfl
theorem sU(args:List Value):Kd (.type "AttributeError") args=pure Gp:=by
 have h:((Manifest.find? "AttributeError").elim false λt=>t.mro.contains "StopIteration" || t.mro.contains "SystemExit")=false:=by decide +kernel
 simp only[Kd,h]
 rfl
theorem tR{i:Type}{name a:Str}{v:Value}{Q:i->Ah->Prop}(m:A.handled=none)(l:a.length<=Ay)(n:∀h' t' e,(∀c o,h.get? c=some o->h'.get? c=some o)->t<=t'->(∃o,h'.get? e=some o/\o.cls=.type "AttributeError")->E (.ref e) ⟨h',g,d,t',os⟩):wpAny (model prog w) A (raiseAttrError v name a:Sem i) Q E ⟨h,g,d,t,os⟩:=by
 unfold raiseAttrError newExc newTuple
 refine Aa (wpAny_mkStr' ?_ l)
 refine Aa (Aa (Cg ?_ (by show (1:Nat)<=Ay; decide)))
 refine Aa (Jm (sU _) (Cg ?_))
 generalize f:h.push { cls:=.type "tuple",data:=.seq [Value.str a t].toArray }=h1
 have j:∀c o,h.get? c=some o->h1.get? c=some o:=λc o q=>by rw[<- f]; exact Ai _ q
 have b:(h1.push { cls:=.type "AttributeError",data:=.fields #[.ref h.objs.size,.none,.none,.none,.bool false,.none,Ks,Ks] }).get? h1.objs.size=some { cls:=.type "AttributeError",data:=.fields #[.ref h.objs.size,.none,.none,.none,.bool false,.none,Ks,Ks] }:=Ar _ rfl
 show wpAny _ _ _ _ _ ⟨h1.push { cls:=.type "AttributeError",data:=.fields #[.ref h.objs.size,.none,.none,.none,.bool false,.none,Ks,Ks] },g,d,t+1,os⟩
 have k:∀c o,h1.get? c=some o->(h1.push { cls:=.type "AttributeError",data:=.fields #[.ref h.objs.size,.none,.none,.none,.bool false,.none,Ks,Ks] }).get? c=some o:=λc o q=>Ai _ q
 have p:∀c o,h1.get? c=some o->c≠h1.objs.size:=λc o q=>Bq (Aw q)
 generalize h1.push { cls:=.type "AttributeError",data:=.fields #[.ref h.objs.size,.none,.none,.none,.bool false,.none,Ks,Ks] }=h2 at b k ⊢
 refine Aa (wpAny_mkText ?_)
 refine Aa ?_
 unfold noteAttr
 show wpAny _ _ (lacksNameAndObj (.ref h1.objs.size) >>= _) _ _ _
 refine Aa ?_
 unfold lacksNameAndObj
 have ty:(⟨h2,g,d,t+1+1,os⟩ : Ah).TypeIs (.ref h1.objs.size) "AttributeError" := ⟨_,b,rfl⟩
 refine Aa (Ip ty cS ?_)
 simp only[Tb,Bz,if_false]
 refine Aa (fN b ?_)
 show wpAny _ _ (pure true) _ _ _
 refine Ae ?_
 simp only[if_true]
 refine Aa (Jr ?_)
 refine Aa (Jk ty ?_)
 show wpAny _ _ (layMembers h1.objs.size 6 _) _ _ _
 unfold layMembers
 refine Aa (fN b ?_)
 refine wpAny_update b ?_
 refine wpAny_raiseNew_none m (n _ _ _ (λc o q=>?_) (by show t<=t+1+1; omega) ⟨_,Fd _ b rfl,rfl⟩)
 exact Heap.get?_update_of_ne _ (p c o (j c o q)).symm (k c o (j c o q))
theorem tM{b:Tok}{Q:PySem.Fin->Ah->Prop}(i:A.handled=none)(f:h.get? a=some { cls:=.type "zip",dict:=none,data:=.fields fs,slots:=#[] })(j:∀h' t' e,(∀c o,h.get? c=some o->h'.get? c=some o)->t<=t'->(∃o,h'.get? e=some o/\o.cls=.type "AttributeError")->E (.ref e) ⟨h',g,d,t',os⟩):wpAny (model prog w) A (Builtin.«object.__getattribute__» ⟨[.ref a,.str "keys" b],[]⟩) Q E ⟨h,g,d,t,os⟩:=by
 have l:(⟨h,g,d,t,os⟩ : Ah).TypeIs (.ref a) "zip" := ⟨_,f,rfl⟩
 have k:=mX
 repeat (any_goals (first | assumption | wp_step))
 exact tR i (by decide +kernel) j
theorem xI{j:Tok}{R:Result->Ah->Prop}(f:A.handled=none)(b:h.get? a=some { cls:=.type "zip",dict:=none,data:=.fields fs,slots:=#[] })(i:∀h' t' e,(∀c o,h.get? c=some o->h'.get? c=some o)->t<=t'->(∃o,h'.get? e=some o/\o.cls=.type "AttributeError")->R (.error (.ref e)) ⟨h',g,d,t',os⟩):Ha (model prog w) A (.call (.builtin "zip.__getattribute__") ⟨[.ref a,.str "keys" j],[]⟩) R ⟨h,g,d,t,os⟩ :=
 codeAny_call_builtin F.slot_zip_getattribute.plain kN (F.slot_zip_getattribute.check _ _ _ _ _ _ _ _ (show (⟨h,g,d,t,os⟩ : Ah).TypeIs (.ref a) "zip" from ⟨_,b,rfl⟩) (F.args_zip_getattribute_2 _ _) (tM f b i))
theorem yN:fO (.type "zip") "__getattr__" = pure none:=by rw[Zc,Pu]; kernel_rfl
theorem O9{k:Tok}{Q:Value->Ah->Prop}(l:A.handled=none)(f:h.get? a=some { cls:=.type "zip",dict:=none,data:=.fields fs,slots:=#[] })(n:∀h' t' e,(∀c o,h.get? c=some o->h'.get? c=some o)->t<=t'->(∃o,h'.get? e=some o/\o.cls=.type "AttributeError")->E (.ref e) ⟨h',g,d,t',os⟩):wpAny (model prog w) A (getAttrBy (.ref a) (.str "keys" k) false) Q E ⟨h,g,d,t,os⟩:=by
 have u:(⟨h,g,d,t,os⟩ : Ah).TypeIs (.ref a) "zip" := ⟨_,f,rfl⟩
 have q:=F.slot_zip_getattribute.lookup
 have p:=F.slot_zip_getattribute.bind (.ref a)
 have r:=yN
 repeat (any_goals (first | assumption | wp_step))
 refine xI l f λh' t' e kp lt j=>?_
 obtain ⟨o,b,i⟩:=j
 have ty:(⟨h',g,d,t',os⟩ : Ah).TypeIs (.ref e) "AttributeError" := ⟨_,b,i⟩
 have s:=cS
 have m:=n h' t' e kp lt ⟨o,b,i⟩
 repeat (any_goals (first | assumption | wp_step))
theorem yE{Q:Option Value->Ah->Prop}(j:A.handled=none)(i:h.get? a=some { cls:=.type "zip",dict:=none,data:=.fields fs,slots:=#[] })(l:∀h' t',(∀c o,h.get? c=some o->h'.get? c=some o)->t<=t'->Q none ⟨h',g,d,t',os⟩):wpAny (model prog w) A (getAttr? (.ref a) "keys") Q E ⟨h,g,d,t,os⟩:=by
 unfold getAttr? getAttrBy?
 refine Aa (wpAny_mkText (Aa (Lh (O9 j i λh' t' e kp lt f=>?_))))
 obtain ⟨o,m,k⟩:=f
 exact Aa (Ip (T := "AttributeError") (b:=true) ⟨o,m,k⟩ cS (Ae (l _ _ kp (Nat.le_of_succ_le lt))))
end
end Nd
namespace Nd
open PySem PySem.Spec PyProof.Rows L2
theorem Uq:entryFor table "dict.update.loop" = some Builtin.«dict.update.loop»:=entryFor_of_tree (by kernel_rfl)
theorem Mm:plainId "dict.update.loop" = true:=by decide +kernel
def AJ(h:Heap)(z TI TO c b l1 l2:Addr)(k:Nat):Prop:=Fz h TI (.ref c) (.ref b)/\h.IsListIter c l1 k/\h.IsListIter b l2 k /\
 ((IsZip h z TI TO .none/\∃u v,Fz h TO u v)\/∃(a:Addr) (e:Obj) (d:Bool),ZF h z TI TO (Fe (Int.ofNat a)) (.bool d)/\h.get? a=some e)
theorem AJ.keep{h h':Heap}{z TI TO i g l1 l2 D:Addr}{k:Nat}(st:AJ h z TI TO i g l1 l2 k)(f:∀c,c≠D->h'.get? c=h.get? c)(m:∃o,h'.get? D=some o)(n:∀c∈[z,TI,TO,i,g],c≠D):AJ h' z TI TO i g l1 l2 k:=by
 obtain ⟨a,b,c,d⟩:=st
 have j:=n z (by simp)
 have x:=n TI (by simp)
 have p:=n TO (by simp)
 have s:=n i (by simp)
 have w:=n g (by simp)
 refine ⟨(f TI x).trans a,b.at λo q=>(f i s).trans q,c.at λo q=>(f g w).trans q,?_⟩
 rcases d with ⟨d,u,v,e⟩ | ⟨a,r,l,d,e⟩
 ·exact .inl ⟨(f z j).trans d,u,v,(f TO p).trans e⟩
 ·refine .inr ?_
  by_cases q:a=D
  ·obtain ⟨o,t⟩:=m
   exact ⟨a,o,l,(f z j).trans d,by rw[q]; exact t⟩
  ·exact ⟨a,r,l,(f z j).trans d,(f a q).trans e⟩
section
variable{prog:Bk}{w:World}{A:Ci}{E:Value->Ah->Prop}{s:Ah}{z TI TO g f l1 l2:Addr}{k:Nat}{xs ys:Array Value}{x y:Value}{Q:Option Value->Ah->Prop}
theorem J3(D:Qs z TI TO g f l1 l2)(st:AJ s.heap z TI TO g f l1 l2 k)(m:s.heap.IsList l1 xs)(l:s.heap.IsList l2 ys)(G:xs[k]? = some x)(K:ys[k]? = some y)(H:∀h',AJ h' z TI TO g f l1 l2 (k+1)->Fz h' s.heap.objs.size x y->(∀c o,c∉[z,TI,TO,g,f]->s.heap.get? c=some o->h'.get? c=some o)->Q (some (.ref s.heap.objs.size)) { s with heap:=h' }):wpAny (model prog w) A (Jh (.ref z)) Q E s:=by
 obtain ⟨a,b,c,d⟩:=st
 rcases d with ⟨d,u,v,e⟩ | ⟨i,L,M,d,e⟩
 ·refine wpAny_pyNext_zip_item D d a e b c m l G K λh' j r n B t p C=>H h' ⟨C TI _ D.TIz D.TITO D.TIi1 D.TIi2 a,n,B,.inr ⟨_,_,false,j,t⟩⟩ t λc o h q=>?_
  simp only[Ak,Az,or_false,not_or] at h
  exact C c o h.1 h.2.2.1 h.2.2.2.1 h.2.2.2.2 q
 ·refine sG D d e a b c m l G K λh' j r n B t p=>?_
  have up:∀c o,c∉[z,TI,TO,g,f]->s.heap.get? c=some o->h'.get? c=some o:=λc o h q=>by
   simp only[Ak,Az,or_false,not_or] at h
   exact p c o h.1 h.2.2.2.1 h.2.2.2.2 q
  refine H h' ⟨p TI _ D.TIz D.TIi1 D.TIi2 a,r,n,.inr ?_⟩ B up
  by_cases J:i=z
  ·subst J
   exact ⟨i,_,true,j,j⟩
  by_cases F:i=g
  ·subst F
   obtain ⟨o,q,_⟩:=r
   exact ⟨i,o,true,j,q⟩
  by_cases I:i=f
  ·subst I
   obtain ⟨o,q,_⟩:=n
   exact ⟨i,o,true,j,q⟩
  exact ⟨i,L,true,j,p i _ J F I e⟩
theorem V0(m:A.handled=none)(D:Qs z TI TO g f l1 l2)(st:AJ s.heap z TI TO g f l1 l2 k)(j:s.heap.IsList l1 xs)(i:s.heap.IsList l2 ys)(l:xs[k]? = none\/ys[k]? = none)(n:∀h',(∀c o,c∉[z,TI,TO,g,f]->s.heap.get? c=some o->h'.get? c=some o)->Q none { s with heap:=h' }):wpAny (model prog w) A (Jh (.ref z)) Q E s:=by
 obtain ⟨a,b,c,d⟩:=st
 rcases d with ⟨d,u,v,e⟩ | ⟨y,x,t,d,e⟩
 ·refine wpAny_pyNext_zip_end m D d a e b c j i l λh' p=>n h' λc o h q=>?_
  simp only[Ak,Az,or_false,not_or] at h
  exact p c o h.1 h.2.2.1 h.2.2.2.1 h.2.2.2.2 q
 ·refine eR m D d e a b c j i l λh' r=>n h' λc o h q=>?_
  simp only[Ak,Az,or_false,not_or] at h
  exact r c o h.1 h.2.2.2.1 h.2.2.2.2 q
end
section
variable{X:Cx}{d:List (Addr×Obj)}{j:L2.St}{H:Hp}{s:Ah}{a b:Addr}{v:V}{r:Value}{A:Ci}{E:Value->Ah->Prop}{f:List (List Lb×V)}{k:List Lb}
theorem sT{Q:Unit->Ah->Prop}(J:A.units+1<cLine)(I:Inv X d j H s)(e:H a=some (.dT f))(n:H b=some (.tup (k.map kV)))(l:f.length<Ay)(C:RelV v r)(h:∀s',Inv X d j (upd H a (.dT (Wd f k v))) s'->(∀c,c≠a->s'.heap.get? c=s.heap.get? c)->(∃o,s'.heap.get? a=some o)->Q () s'):wpAny (model X.prog X.w) A (dictSet a (.ref b) r) Q E s:=by
 obtain ⟨z,x,B,g,G⟩:=zS I.hok (.inl e)
 have hz:B.length<=Ay:=by rw[<- Paired.length g]; exact z
 have L:(Wd f k v).length<=Ay:=by have:=aY f k v; omega
 refine mN (hz:=hz) (show (Py _).room A from Nat.lt_of_succ_lt J) (dN I.hok n) G λO m p=>?_
 obtain ⟨q,F,D,i,y,N,M,_,K⟩:=m
 exact h _ (vE I (by rw[e]; exact True.intro) p ⟨q,i⟩ ⟨L,x,_,(g.put k n C).keeps λc P t=>(Ek (Y4 t e (λz=>nomatch z))).trans t,q,F,D,i,y,N,M,K⟩) (λc u=>p.2 c u) ⟨q,i⟩
theorem dG{R:Result->Ah->Prop}{z TI TO B v l1 l2 D:Addr}{xs ys:List V}(hh:A.handled=none)(hu:A.units+2<cLine)(Z:Qs z TI TO B v l1 l2)(W:Nat->Hp->Prop)(hW:∀i H x y,xs[i]? = some x->ys[i]? = some y->W i H->Mq X.K H l1 xs/\Mq X.K H l2 ys/\∃f k p,H D=some (.dT f)/\x=.ref p/\H p=some (.tup (k.map kV))/\f.length<Ay/\W (i+1) (upd H D (.dT (Wd f k y))))(hE:∀H,W (min xs.length ys.length) H->Mq X.K H l1 xs/\Mq X.K H l2 ys)(hR:∀H s',W (min xs.length ys.length) H->Inv X d j H s'->R (.ok (.ret .none)) s'):∀n i s H,n=min xs.length ys.length - i->i<=min xs.length ys.length->Inv X d j H s->AJ s.heap z TI TO B v l1 l2 i->(∀c∈[z,TI,TO,B,v],Lg X d H c)->W i H->Ha (model X.prog X.w) A (.builtin "dict.update.loop" ⟨[.ref D,.ref z,Fe (i:Int),.none],[]⟩) R s:=by
 intro n
 induction n with
 | zero =>
  intro i s H U hi I st h u
  have e:i=min xs.length ys.length:=by omega
  subst e
  obtain ⟨P,E⟩:=hE H u
  obtain ⟨r,b,N,_⟩:=I.list P
  obtain ⟨o,a,M,_⟩:=I.list E
  have h1:=b.length
  have h0:=a.length
  refine Hz Uq ?_
  rw[Gd Mm _]
  unfold Builtin.«dict.update.loop»
  refine Aa (V0 (A:=A.in1) hh Z st N.isList M.isList ?_ λS kp=>?_)
  ·by_cases q:xs.length<=min xs.length ys.length
   ·exact .inl (by simp; omega)
   ·exact .inr (by simp; omega)
  have F:=Ln (t':=s.toks) I kp h
  show wpAny _ _ (Builtin.Dict.addKeywords D [] >>= _) _ _ _
  exact Aa (Ae (Ae (hR _ _ u F)))
 | succ n ih =>
  intro i s H U hi I st h u
  have l1:i<xs.length:=by omega
  have l2:i<ys.length:=by omega
  obtain ⟨P,E,f,k,p,T,ex,hp,hz,w1⟩:=hW i H _ _ (Bt l1) (Bt l2) u
  obtain ⟨r,b,N,_⟩:=I.list P
  obtain ⟨o,a,M,_⟩:=I.list E
  obtain ⟨Y,G,t⟩:=b.get (Bt l1)
  obtain ⟨O,L,J⟩:=a.get (Bt l2)
  rw[ex] at t
  cases (show Y=Be p from t)
  refine Hz Uq ?_
  rw[Gd Mm _]
  unfold Builtin.«dict.update.loop»
  refine Aa (J3 (A:=A.in1) Z st N.isList M.isList (x:=.ref p) (y:=O) (by simpa using G) (by simpa using L) λS C m kp=>?_)
  have F:=Ln (t':=s.toks) I kp h
  have Q:∀c∈[z,TI,TO,B,v],c≠D:=λc l e=>by
   have:=(h c l).1
   rw[e,T] at this
   cases this
  refine Aa (Ct ?_)
  refine Aa (wpAny_tryCatch ?_)
  unfold Builtin.Dict.pairItems
  have ty:({ s with heap:=S }:Ah).TypeIs (.ref s.heap.objs.size) "tuple" := ⟨_,m,rfl⟩
  refine Aa (Jk ty ?_)
  rw[if_pos (by decide)]
  refine Aa (Gy m rfl (Ae ?_))
  show wpAny _ _ (Qf [.ref p,O] (dictSet D (.ref p) O)) _ _ _
  refine Ct (sT (A:=A.in1) hu F T hp hz J λs2 I2 k2 o2=>?_)
  refine Ae ⟨Qe Mm _,?_⟩
  have g:=ih (i+1) s2 _ (by omega) (by omega) I2 (C.keep k2 o2 Q) (λc l=>⟨by rw[Ek (Q c l)]; exact (h c l).1,(h c l).2⟩) w1
  rw[show ((i+1:Nat):Int)=(i:Int)+1 by omega] at g
  exact g
theorem nP{Q:Value->Ah->Prop}{z TI TO n l l1 l2:Addr}{xs ys:List V}{s:Ah}{m:Hp}(O:A.handled=none)(hu:A.units+8<cLine)(Z:Qs z TI TO n l l1 l2)(I:Inv X d j m s)(hz:IsZip s.heap z TI TO .none)(t:Fz s.heap TI (.ref n) (.ref l))(a:∃u v,Fz s.heap TO u v)(h1:s.heap.IsListIter n l1 0)(M:s.heap.IsListIter l l2 0)(P:∀c∈[z,TI,TO,n,l],Lg X d m c)(S:∀D,m D=none->∃W:Nat->Hp->Prop,W 0 (upd m D (.dT []))/\(∀i H x y,xs[i]? = some x->ys[i]? = some y->W i H->Mq X.K H l1 xs/\Mq X.K H l2 ys/\∃f k p,H D=some (.dT f)/\x=.ref p/\H p=some (.tup (k.map kV))/\f.length<Ay/\W (i+1) (upd H D (.dT (Wd f k y))))/\∀H,W (min xs.length ys.length) H->Mq X.K H l1 xs/\Mq X.K H l2 ys/\∀s',Inv X d j H s'->Q (.ref D) s'):wpAny (model X.prog X.w) A (call (.type "dict") [.ref z]) Q E s:=by
 refine callType_codes (Q₁:=λr e=>r=.ref s.heap.objs.size/\e={ s with heap:=s.heap.push { cls:=.type "dict",data:=.dict #[] } }) F.kt_called_dict (F.kt_typeCall_dict_1 _) F.entry_dict_init (kt_code_dict_new _ ⟨rfl,rfl⟩) ?_
 rintro r e ⟨rfl,rfl⟩
 have fD:m s.heap.objs.size=none:=I.hok.fresh (Aj _)
 obtain ⟨W,w0,Y,J⟩:=S s.heap.objs.size fD
 have KN:({ s with heap:=s.heap.push { cls:=.type "dict",data:=.dict #[] } }:Ah).TypeIs (.ref s.heap.objs.size) "dict" := ⟨_,Ar _ rfl,rfl⟩
 have R:Inv X d j (upd m s.heap.objs.size (.dT [])) { s with heap:=s.heap.push { cls:=.type "dict",data:=.dict #[] } } :=
  I.laid (t':=s.toks) (λb u q=>Ai _ q) (Aj _) (pV s.heap I.big)
 have G:IsZip (s.heap.push { cls:=.type "dict",data:=.dict #[] }) z TI TO .none:=Ai _ hz
 have C:({ s with heap:=s.heap.push { cls:=.type "dict",data:=.dict #[] } }:Ah).TypeIs (.ref z) "zip" := ⟨_,G,rfl⟩
 refine ⟨KN,F.args_dict_init_2 _ _,?_⟩
 unfold Builtin.«dict.__init__»
 refine Aa ?_
 unfold Builtin.Dict.selfAndRest
 refine Aa (wpAny_notOrdered_dict KN ?_)
 show wpAny _ _ (pure (s.heap.objs.size,[Be z])) _ _ _
 refine Ae ?_
 show wpAny _ _ (cN "dict.__init__" s.heap.objs.size (.ref z) [] .none) _ _ _
 unfold cN
 refine Aa (Jk C ?_)
 rw[if_pos (by decide)]
 refine Aa (yE (A:=A.in1.in1) O G λB t4 g _=>?_)
 simp only[Option.isNone_none,if_true]
 refine Aa (Jr ?_)
 have N:IsZip B z TI TO .none:=g _ _ G
 refine Aa (Px N ?_)
 have U:=R.kept (h':=B) (t':=t4) g
 have up:∀c o,s.heap.get? c=some o->B.get? c=some o:=λc o q=>g c o (Ai _ q)
 obtain ⟨u,v,a⟩:=a
 have L:AJ B z TI TO n l l1 l2 0:=⟨up _ _ t,h1.at λo q=>up _ _ q,M.at λo q=>up _ _ q,.inl ⟨N,u,v,up _ _ a⟩⟩
 have nz:∀c∈[z,TI,TO,n,l],c≠s.heap.objs.size:=λc h=>by
  obtain ⟨o1,e1,_⟩:=h1
  obtain ⟨o2,e2,_⟩:=M
  simp only[Ak,Az,or_false] at h
  rcases h with rfl | rfl | rfl | rfl | rfl
  ·exact Bq (Aw hz)
  ·exact Bq (Aw t)
  ·exact Bq (Aw a)
  ·exact Bq (Aw e1)
  ·exact Bq (Aw e2)
 refine Ae ⟨Qe Mm _,?_⟩
 exact dG (A:=A.in1) O (Nat.lt_of_le_of_lt (Kf (show A.in1.units+2<A.units+8 from by show A.units+1+2<A.units+8; omega)) hu) Z W Y (λH w=>⟨(J H w).1,(J H w).2.1⟩) (λH s' w T=>⟨rfl,(J H w).2.2 s' T⟩) _ 0 _ _ rfl (Do _) U L (λc h=>⟨by rw[Ek (nz c h)]; exact (P c h).1,(P c h).2⟩) w0
end
section
variable{X:Cx}
def u7(K:PySem.W.Frag)(g:TA):TE:=λh H Q=>g h H λvs e=>∃f d c b,vs=[.ref f,.ref d]/\Mq K e f c/\Mq K e d b/\∀D,e D=none->∃W:Nat->Hp->Prop,W 0 (upd e D (.dT [])) /\
   (∀i H x y,c[i]? = some x->b[i]? = some y->W i H->Mq K H f c/\Mq K H d b/\∃a k p,H D=some (.dT a)/\x=.ref p/\H p=some (.tup (k.map kV))/\a.length<Ay/\W (i+1) (upd H D (.dT (Wd a k y)))) /\
   ∀H,W (min c.length b.length) H->Mq K H f c/\Mq K H d b/\Q (.ref D) H
theorem A1{a b:Expr}{M:TA}{p p2 pos i:Pos}(L:Gl X "dict")(G:X.mg "dict" = none)(hg:Gl X "zip")(hm:X.mg "zip" = none)(t:X.calm=true)(hu:X.A.units+64<cLine)(ha:PA X [a,b] M)(hs:Bj [a,b] X.env=(false,eval a X.env)::Bj [b] X.env:=by rfl)(hp:(Hg pos (Bj [b] X.env)).any (·.1)=false:=by rfl):PE X (.Call (.Name "dict" p2) [.Call (.Name "zip" p) [a,b] [] pos] [] i) (u7 X.K M):=by
 intro d s σ H R I h
 refine Call_ (Sk I L G (u:=.type "dict") (by decide +kernel) (Dy ?_ rfl rfl))
 show wpAny _ _ (spliced ((false,eval (.Call (.Name "zip" p) [a,b] [] pos) X.env)::Hg i (Bj [] X.env))) _ _ s
 refine Calls.spliced_cons ?_
 refine Call_ (Sk I hg hm (u:=.type "zip") (by decide +kernel) (Dy (Fp (ha pos d s σ H _ I h) λus g ⟨vs,N,j,Q,q1⟩=>?_) hs hp))
 obtain ⟨l1,S,xs,ys,e,C,F,q⟩:=q1
 subst e
 obtain ⟨u1,u2,rfl,E,B⟩:=vals2 Q
 cases E
 cases B
 obtain ⟨P,h3,k,h0⟩:=j.list C
 obtain ⟨O,Y,r,h4⟩:=j.list F
 have m:l1<g.heap.objs.size:=let ⟨o,q,_⟩:=k.isList; Aw q
 have l:S<g.heap.objs.size:=let ⟨o,q,_⟩:=r.isList; Aw q
 refine call_zip_2 k.isList r.isList λh2 hz y z v x h1 T=>?_
 have f:∀n,Lg X d N (g.heap.objs.size+n):=λn=>j.fpOk (Js _ _) (j.hok.fresh (Js _ _))
 have fr:∀c∈[g.heap.objs.size+4,g.heap.objs.size+2,g.heap.objs.size+3,g.heap.objs.size,g.heap.objs.size+1],Lg X d N c:=λc t=>by
  simp only[Ak,Az,or_false] at t
  rcases t with rfl | rfl | rfl | rfl | rfl
  ·exact f 4
  ·exact f 2
  ·exact f 3
  ·exact f 0
  ·exact f 1
 refine Calls.spliced_nil ?_
 refine nP (xs:=xs) (ys:=ys) (I.ok.hd t) (by omega) (gY _ _ _ m l) (j.kept (t':=g.toks) T) hz y ⟨_,_,z⟩ v x fr λD hD=>?_
 obtain ⟨W,Z,V,J⟩:=q D hD
 exact ⟨W,Z,V,λH w=>⟨(J H w).1,(J H w).2.1,λs' U=>⟨.ref D,H,U,rfl,(J H w).2.2⟩⟩⟩
end
end Nd
namespace DL
open PySem PySem.Spec PyProof.Rows L2 Nd
def Tf(b:List (List Int×Af))(l:List (List Int×Af)):List (List Int×Af):=l.foldl (λa p=>Ut a p.1 p.2) b
def jM(xs:List DV)(b:DS)(P:DV->DS->Prop):Prop:=match xs with
 | [.dat _ (.list ds),.dat _ (.list es)]=>ds.length<=1000000/\Dw es=true/\∃a:List (List Int),ds=a.map Bf/\P (.dat .ow (.dict (Wk (Tf [] (a.zip es))))) b
 | _=>False
def sW(b:DA):DE:=λc P=>b c λd a=>jM d a P
theorem gV:∀(l:List (List Int×Af)) (a:List (List Int×Af)),(Tf a l).length<=a.length+l.length
 | [],a=>Aj _
 | p::l,a=>by
  have b:=gV l (Ut a p.1 p.2)
  have c:=pX a p.1 p.2
  show (Tf (Ut a p.1 p.2) l).length<=_
  rw[Bl]
  omega
theorem qU{a:List (List Int)}{es:List Af}{i:Nat}{w:List Int}{e:Af}(h1:a[i]? = some w)(b:es[i]? = some e):Tf [] ((a.zip es).take (i+1))=Ut (Tf [] ((a.zip es).take i)) w e:=by
 have c:(a.zip es)[i]? = some (w,e):=by
  rw[List.getElem?_zip_eq_some]
  exact ⟨h1,b⟩
 rw[List.take_add_one,c]
 unfold Tf
 rw[bW]
 rfl
section
variable{X:Cx}{a b:Expr}{d:DA}{p e pos c:Pos}
theorem A0{K:PySem.W.Frag}:∀U H Q,LE K (sW d) U H Q->u7 K (LA K d) U H Q:=by
 intro U H Q h
 obtain ⟨H0,Y,S,T,δ,P,rfl,hS,hA,hd,k⟩:=h
 refine ⟨H0,Y,S,T,δ,_,rfl,hS,hA,hd,λs t As us J H' E j ex eu M p=>?_⟩
 unfold jM at p
 split at p
 ·rename_i m ds m' g
  obtain ⟨hl,im,e,rfl,pk⟩:=p
  obtain ⟨v,F,w,G,rfl,f⟩:=Yj eu M ex
  obtain ⟨a,s,G1,rfl,C,ra,rfl,hz⟩:=(f.told mem_mid).list_inv
  obtain ⟨b,N,G2,rfl,B,rb,rfl,h7⟩:=(f.told Ga).list_inv
  refine ⟨a,b,s,N,rfl,Mq.of C,Mq.of B,λD R=>?_⟩
  have h6:=pY (n:=1000000) (Aj _)
  have o:a≠D:=λz=>by rw[z,R] at C; cases C
  have u:b≠D:=λz=>by rw[z,R] at B; cases B
  have l1:e.length=s.length:=by have:=ra.len; rw[Ad] at this; exact this.symm
  have l2:=rb.len
  refine ⟨λi H=>H a=some (.lst s)/\H b=some (.lst N)/\At K H0 Y t.n (⟨some (.ref D),.dT (fM (Tf [] ((e.zip g).take i))),[D]⟩::(J++(⟨some (.ref a),.dat m (.list (e.map Bf)),a::G1⟩::⟨some (.ref b),.dat m' (.list g),b::G2⟩::T))) H,⟨?_,?_,?_⟩,?_,?_⟩
  ·rw[Ek o]; exact C
  ·rw[Ek u]; exact B
  ·exact f.dNew R
  ·(intro i H x y X hy V; obtain ⟨r,q,c⟩ := V)
   have li:=(Ax.mp X).1
   have h4:=(Ax.mp hy).1
   obtain ⟨a2,h3,F2,ea,A,O,_,_⟩:=(c.told (Ac _ mem_mid)).list_inv
   cases ea
   rw[r] at A
   cases A
   obtain ⟨b2,h5,F3,eb,l,I,_,_⟩:=(c.told (Ac _ Ga)).list_inv
   cases eb
   rw[q] at l
   cases l
   have E:e[i]? = some (e[i]'(by omega)):=Bt _
   have j:g[i]? = some (g[i]'(by omega)):=Bt _
   obtain ⟨x',Fx,g1,g2,_⟩:=O.get (by rw[Bg,E]; rfl)
   rw[X] at g1
   cases g1
   obtain ⟨p,rfl,hp⟩:=cC g2
   obtain ⟨y',Fy,Z,g4,_⟩:=I.get j
   rw[hy] at Z
   cases Z
   obtain rfl:=g4.imm (sS.mp im _ (Bp j))
   obtain ⟨kv,q1,q2,q3⟩:=c.dPut (w:=e[i]'(by omega)) g4
   refine ⟨Mq.of r,Mq.of q,kv,Ls _,p,q1,rfl,hp,?_,?_,?_,?_⟩
   ·have:=gV ((e.zip g).take i) []
    rw[Cz] at this
    rw[Ad] at hl
    rw[q2]
    show _<Ay
    have h0:([]:List (List Int×Af)).length=0:=rfl
    omega
   ·rw[Ek o]; exact r
   ·rw[Ek u]; exact q
   ·rw[qU E j]
    exact q3
  ·(intro H V; obtain ⟨r,q,c⟩ := V)
   refine ⟨Mq.of r,Mq.of q,k _ t _ [D] J H E j ?_ pk⟩
   have et:(e.zip g).take (min s.length N.length)=e.zip g:=Gs (by rw[Hq]; omega)
   rw[et] at c
   have L:=c.dGot
   exact (L.sub (((Co J).append ((Co T).cons _ |>.cons _)).cons₂ _)).tomid
 ·exact p.elim
theorem K9(j:X.A.units+64<cLine)(g:Gl X "dict")(f:X.mg "dict" = none)(i:Gl X "zip")(h:X.mg "zip" = none)(k:X.calm=true)(l:mI X [a,b] d)(m:Bj [a,b] X.env=(false,eval a X.env)::Bj [b] X.env:=by rfl)(n:(Hg pos (Bj [b] X.env)).any (·.1)=false:=by rfl):Gq X (.Call (.Name "dict" e) [.Call (.Name "zip" p) [a,b] [] pos] [] c) (sW d):=PE.imp (A1 g f i h k j l m n) A0
end
end DL
namespace Nd
open PySem PySem.Spec PyProof.Rows L2
end Nd
namespace DL
open PySem PySem.Spec PyProof.Rows L2 Nd
end DL
namespace Nd
open PySem PySem.Spec PyProof.Rows L2
end Nd
namespace DL
open PySem PySem.Spec PyProof.Rows L2 Nd
def GE(t u:DB)(D:DEnds)(b:Bool)(a:DS):Prop:=match b with
 | true=>t D a
 | false=>u D a
def IU(x:DV)(a:DS)(P:DV->DS->Prop):Prop:=match x with
 | .dat _ d=>imm d=true/\P (.dat .ow d) a
 | _=>False
def MM(i:Nat)(s:Option DV)(a:DS)(P:DV->DS->Prop):Prop:=match s with
 | some (.dat .pk _)=>False
 | some (.dat _ d)=>P (.dat .sh d) ⟨a.sl.set i (.dat .sh d),a.n⟩
 | _=>False
def tupB(xs:List DV)(b:DS)(P:DV->DS->Prop):Prop:=match datas xs with
 | some a=>a.length<=1000/\P (.dat (pkMd .sh xs) (.tuple a)) b
 | none=>False
def lstB(xs:List DV)(b:DS)(P:DV->DS->Prop):Prop:=match datas xs with
 | some a=>a.length<=1000/\P (.dat (pkMd .tp xs) (.list a)) b
 | none=>False
def Y5(x:DV)(a:DS)(P:Option Int->DS->Prop):Prop:=match x with
 | .dat _ (.int i)=>P (some i) a
 | _=>False
def JV(i:Bool)(x:DV)(l h:Option Int)(a:DS)(P:DV->DS->Prop):Prop:=match x with
 | .dat m (.list ds)=>bE i m (Mi ds l h) λz=>P z a
 | .dat m (.tuple ds)=>fZ i m (Mi ds l h) λz=>P z a
 | _=>False
def MZ(xs:List DV)(b:DS)(P:DV->DS->Prop):Prop:=match xs with
 | [.dat _ (.list ds)]=>∃a:List Int,ds=a.map Av/\(∀x∈a,0<=x/\x<60)/\P (.dat .ow (.list ((Pj a).map Av))) b
 | [.dat _ (.tuple ds)]=>∃a:List Int,ds=a.map Av/\(∀x∈a,0<=x/\x<60)/\P (.dat .ow (.list ((Pj a).map Av))) b
 | _=>False
def bB(x:DV)(a:DS)(P:Bool->DS->Prop):Prop:=match x with
 | .dat _ (.bool b)=>P b a
 | _=>False
def W3(c:DT)(b:Bool)(a:DS)(P:Bool->DS->Prop):Prop:=match b with
 | true=>c a P
 | false=>P false a
def LM(c:DT)(b:Bool)(a:DS)(P:Bool->DS->Prop):Prop:=match b with
 | true=>P true a
 | false=>c a P
def GI(b:DE)(x:DV)(a:DS)(P:DV->DS->Prop):Prop:=match x with
 | .dat _ (.bool true)=>b a P
 | .dat _ (.bool false)=>P (.dat .ow (.bool false)) a
 | _=>False
def LN(c d:DE)(b:Bool)(a:DS)(P:DV->DS->Prop):Prop:=match b with
 | true=>c a P
 | false=>d a P
def FF(x:DV)(a:DS)(P:DV->DS->Prop):Prop:=match x with
 | .dat _ (.int i)=>P (.dat .ow (.int (-i))) a
 | _=>False
def lB(x:DV)(a:DS)(P:Md->List Af->DS->Prop):Prop:=match x with
 | .dat m (.list ds)=>P (Ji m) ds a
 | _=>False
def ME(x:DV)(a:DS)(P:Md->List Af->DS->Prop):Prop:=match x with
 | .dat m (.tuple ds)=>P (Ji m) ds a
 | _=>False
def Y1(xs:List DV)(a:DS)(P:Md->List Af->DS->Prop):Prop:=match xs with
 | [.dat _ (.int j)]=>-1000000<=j/\j<=1000000/\P .sh ((Cc j.toNat).map λi:Nat=>.int i) a
 | _=>False
def X3(xs:List DV)(a:DS)(P:Md->List Af->DS->Prop):Prop:=match xs with
 | [.dat m (.list ds)]=>P (Ji m) (ds.zipIdx.map λp=>.tuple [.int p.2,p.1]) a
 | _=>False
def E7(xs:List DV)(a:DS)(P:Md->List Af->DS->Prop):Prop:=match xs with
 | [.dat m (.tuple ds)]=>P (Ji m) (ds.zipIdx.map λp=>.tuple [.int p.2,p.1]) a
 | _=>False
def HC(xs:List DV)(a:DS)(P:Md->List Af->DS->Prop):Prop:=match xs with
 | [.dat m (.list ds),.dat m' (.list es)]=>P (mdZip m m') ((ds.zip es).map λp=>.tuple [p.1,p.2]) a
 | _=>False
def GX(e:DG)(f:DB)(D:DEnds)(m:Md)(ds:List Af)(b:DS):Prop:=m=.sh/\∃I:Nat->DS->Prop,I 0 b /\
 (∀i d a,ds[i]? = some d->I i a->e (.dat .sh d) a λc=>f { D with nx:=I (i+1),ct:=I (i+1),bk:=D.nx } c)/\∀a,I ds.length a->D.nx a
def z0(g:List Nat)(dc:DT)(f:DE)(P:DV->DS->Prop)(m:Md)(ds:List Af)(b:DS):Prop:=∃I:Nat->List Af->Nat->Prop,I 0 [] b.n /\
 (∀i d a n,ds[i]? = some d->I i a n->Pk dc f ⟨.dat m d::frD b.sl g,n⟩ (λe c=>I (i+1) (a++[e]) c) (λc=>I (i+1) a c)) /\
 ∀a n,I ds.length a n->P (.dat .ow (.list a)) ⟨b.sl,n⟩
def n6(j:List Nat)(dc:DT)(h:DE)(P:DV->DS->Prop)(m:Md)(ds:List Af)(b:DS):Prop:=∃I:Nat->List Af->Nat->Prop,I 0 [] b.n /\
 (∀i d a n,ds[i]? = some d->I i a n->∃f g,d=.tuple [f,g]/\Pk dc h ⟨.dat m f::.dat m g::frD b.sl j,n⟩ (λe c=>I (i+1) (a++[e]) c) (λc=>I (i+1) a c)) /\
 ∀a n,I ds.length a n->P (.dat .ow (.list a)) ⟨b.sl,n⟩
def X0(a:Af->Nat->Prop)(y:DV)(b:DS):Prop:=match y with
 | .dat _ e=>imm e=true/\a e b.n
 | _=>False
def D0(e:DE)(c:Af->Nat->Prop)(f:Nat->Prop)(b:Bool)(d:DS):Prop:=match b with
 | true=>e d λy a=>X0 c y a
 | false=>f d.n
def callB(c:PF)(xs:List DV)(b:DS)(P:DV->DS->Prop):Prop:=match datas xs with
 | some a=>c a λd=>P (.dat .ow d) b
 | none=>False
def callBW(i:Nat)(e:DF)(xs:List DV)(a:DS)(P:DV->DS->Prop):Prop:=match a.sl[i]? with
 | some .drw=>match datas xs with
  | some b=>e b a.n λd c=>P (.dat .ow d) ⟨a.sl,c⟩
  | none=>False
 | _=>False
def p7(xs:List DV)(a:DS)(P:DV->DS->Prop):Prop:=match xs with
 | [.dat _ (.int _)]=>P .drw a
 | _=>False
def appB(i:Nat)(y:DV)(a:DS)(D:DEnds):Prop:=match a.sl[i]?,y with
 | some (.dat m (.list ds)),.dat _ e=>own1 m=true/\npk a.sl=true/\imm e=true/\ds.length<1000000/\D.nx ⟨a.sl.set i (.dat m (.list (ds++[e]))),a.n⟩
 | _,_=>False
def callAB(c:PF)(xs:List DV)(b:DS)(P:DV->DS->Prop):Prop:=match datas xs with
 | some a=>c a λd=>P (.dat .sh d) b
 | none=>False
def HW(xs:List DV)(b:DS)(P:DV->DS->Prop):Prop:=match xs with
 | [.dat _ (.tuple ds)]=>∃a:List Int,ds=a.map Av/\(∀x∈a,0<=x/\x<60)/\P (.dat .ow (.list ((Pj a).map Av))) b
 | _=>False
def MR(x:DV)(b:DS)(P:Md->List Af->DS->Prop):Prop:=match x with
 | .dat m (.dict X)=>∃a,X=Wk a/\a.length<=1000000/\P (Ji m) (a.map λp=>Bf p.1) b
 | _=>False
def AB(xs:List DV)(b:DS)(P:Md->List Af->DS->Prop):Prop:=match xs with
 | [.dat m (.dict X),.dat m' (.list es)]=>∃a,X=Wk a/\P (mdZip m m') ((a.zip es).map λp=>.tuple [Bf p.1.1,p.2]) b
 | _=>False
def LY(f g:DE)(d:List Int->Af->Nat->Prop)(h:Nat->Prop)(c:Bool)(e:DS):Prop:=match c with
 | true=>f e λy a=>g a λz b=>nQ d y z b
 | false=>h e.n
def wB(k:List Nat)(dc:DT)(h j:DE)(P:DV->DS->Prop)(m:Md)(ds:List Af)(b:DS):Prop:=ds.length<=1000000/\∃I:Nat->List (List Int×Af)->Nat->Prop,I 0 [] b.n /\
 (∀i d a n,ds[i]? = some d->I i a n->∃f g,d=.tuple [f,g]/\lX dc h j ⟨.dat m f::.dat m g::frD b.sl k,n⟩ (λw e c=>I (i+1) (Ut a w e) c) (λc=>I (i+1) a c)) /\
 ∀a n,I ds.length a n->P (.dat .ow (.dict (Wk a))) ⟨b.sl,n⟩
theorem e_seq{t u:DB}{D:DEnds}{b:DS}:GH t u D b=(t { D with nx:=λa=>u D a } b):=rfl
theorem e_skip{D:DEnds}{a:DS}:X6 D a=(D.nx a):=rfl
theorem e_ret{b:DE}{D:DEnds}{a:DS}:FZ b D a=(b a D.rt):=rfl
theorem e_if{dt:DT}{t u:DB}{D:DEnds}{a:DS}:MA dt t u D a=(dt a (GE t u D)):=rfl
theorem e_asg{d:DE}{b:DG}{D:DEnds}{c:DS}:xE d b D c=(d c λx a=>b x a D.nx):=rfl
theorem e_name{i:Nat}{m:Md}{d:Af}{a:DS}{Q:DS->Prop}:Sq i (.dat .ow d) a Q=(Q ⟨a.sl.set i (.dat .sh d),a.n⟩):=rfl
theorem e_name2{i:Nat}{m:Md}{d:Af}{a:DS}{Q:DS->Prop}:Sq i (.dat .sh d) a Q=(Q ⟨a.sl.set i (.dat .sh d),a.n⟩):=rfl
theorem e_name4{i:Nat}{a:DS}{Q:DS->Prop}:Sq i .drw a Q=(Q ⟨a.sl.set i .drw,a.n⟩):=rfl
theorem e_own{i:Nat}{d:Af}{a:DS}{Q:DS->Prop}:pB i (.dat .ow d) a Q=(Q ⟨a.sl.set i (.dat .ow d),a.n⟩):=rfl
theorem e_nF{i:Nat}{x:DV}{a:DS}{Q:DS->Prop}:JF false i x a Q=(Sq i x a Q):=rfl
theorem e_gtup{n:Nat}{b:M3}{m:Md}{ds:List Af}{a:DS}{Q:DS->Prop}:A2 n b (.dat m (.tuple ds)) a Q=(ds.length=n/\b (ds.map λd=>.dat (Qd m) d) a Q):=rfl
theorem e_gsn{a:DS}{Q:DS->Prop}:C0 [] a Q=(Q a):=rfl
theorem e_gsc{g:DG}{c:M3}{x:DV}{r:List DV}{b:DS}{Q:DS->Prop}:uL g c (x::r) b Q=(g x b λa=>c r a Q):=rfl
theorem e_op{rd:D2}{c e:DE}{d:DS}{P:DV->DS->Prop}:dO rd c e d P=(c d λx a=>e a λy b=>rd x y λz=>P z b):=rfl
theorem e_var{i:Nat}{a:DS}{P:DV->DS->Prop}:BO i a P=(match a.sl[i]? with | some (.dat m d)=>P (.dat (kI m) d) a | _=>False):=rfl
theorem e_c{d:Af}{a:DS}{P:DV->DS->Prop}:dC d a P=(P (.dat .ow d) a):=rfl
theorem e_imm{c:DE}{b:DS}{P:DV->DS->Prop}:GO c b P=(c b λx a=>IU x a P):=rfl
theorem e_immB{m:Md}{d:Af}{a:DS}{P:DV->DS->Prop}:IU (.dat m d) a P=(imm d=true/\P (.dat .ow d) a):=rfl
theorem e_take{i:Nat}{a:DS}{P:DV->DS->Prop}:i6 i a P=(match a.sl[i]? with | some (.dat m d)=>P (.dat m d) ⟨a.sl.set i .un,a.n⟩ | _=>False):=rfl
theorem e_I{C:Int->Int->Prop}{g:Int->Int->Af}{i j:Int}{m a:Md}{P:DV->Prop}:EU C g (.dat m (.int i)) (.dat a (.int j)) P=(C i j/\P (.dat .ow (g i j))):=rfl
theorem e_I0{g:Int->Int->Af}{i j:Int}{m a:Md}{P:DV->Prop}:xR g (.dat m (.int i)) (.dat a (.int j)) P=(P (.dat .ow (g i j))):=rfl
theorem e_eqF{d e:Af}{m a:Md}{P:DV->Prop}:kG false (.dat m d) (.dat a e) P=(d.depth<=60/\e.depth<=60/\P (.dat .ow (.bool (Em d e)))):=rfl
theorem e_eqT{d e:Af}{m a:Md}{P:DV->Prop}:kG true (.dat m d) (.dat a e) P=(d.depth<=60/\e.depth<=60/\P (.dat .ow (.bool (!Em d e)))):=rfl
theorem e_inFt_w1{a:List Int}{d:Af}{es:List Af}{m b:Md}{P:DV->Prop}:rF false (.dat m d) (.dat b (Bf a)) P=(Br (a.map Av)<=60/\d.depth<=60/\P (.dat .ow (.bool ((a.map Av).any λe=>Em e d)))):=rfl
theorem e_inTt_w1{a:List Int}{d:Af}{es:List Af}{m b:Md}{P:DV->Prop}:rF true (.dat m d) (.dat b (Bf a)) P=(Br (a.map Av)<=60/\d.depth<=60/\P (.dat .ow (.bool (!((a.map Av).any λe=>Em e d))))):=rfl
theorem e_ixl{ds:List Af}{i:Int}{m a:Md}{P:DV->Prop}:u4 (.dat m (.list ds)) (.dat a (.int i)) P=(∃d,Wy ds i=some d/\P (.dat (Qd m) d)):=rfl
theorem e_ixt{ds:List Af}{i:Int}{m a:Md}{P:DV->Prop}:u4 (.dat m (.tuple ds)) (.dat a (.int i)) P=(∃d,Wy ds i=some d/\P (.dat (Qd m) d)):=rfl
theorem e_cat{ds es:List Af}{m a:Md}{P:DV->Prop}:uI (.dat m (.list ds)) (.dat a (.list es)) P=(Dw ds=true/\Dw es=true/\ds.length+es.length<=1000000/\P (.dat .ow (.list (ds++es)))):=rfl
theorem e_catT_w1{a:List Int}{ds es:List Af}{m b:Md}{P:DV->Prop}:kT (.dat m (Bf a)) (.dat b (.tuple es)) P=(Dw (a.map Av)=true/\Dw es=true/\(a.map Av).length+es.length<=1000000/\P (.dat .ow (.tuple ((a.map Av)++es)))):=rfl
theorem e_rep{ds:List Af}{k:Int}{m a:Md}{P:DV->Prop}:uN (.dat m (.list ds)) (.dat a (.int k)) P=(Dw ds=true /\ -1000000<=k/\k<=1000000/\ds.length * k.toNat<=1000000/\P (.dat .ow (.list (By k.toNat ds).flatten))):=rfl
theorem e_nlT{m:Md}{ds:List Af}{P:DV->Prop}:bE true m ds P=(Dw ds=true/\P (.dat .ow (.list ds))):=rfl
theorem e_ntT{m:Md}{ds:List Af}{P:DV->Prop}:fZ true m ds P=(Dw ds=true/\P (.dat .ow (.tuple ds))):=rfl
theorem e_pkOfpk  : kI .pk=(Md.pk):=rfl
theorem e_pkOfsh  : kI .sh=(Md.sh):=rfl
theorem e_pkOfow  : kI .ow=(Md.pk):=rfl
theorem e_mdInpk  : Qd .pk=(Md.pk):=rfl
theorem e_mdInsh  : Qd .sh=(Md.sh):=rfl
theorem e_mdInow  : Qd .ow=(Md.ow):=rfl
theorem e_mdItsh  : Ji .sh=(Md.sh):=rfl
theorem e_mdItow  : Ji .ow=(Md.sh):=rfl
theorem e_nil{a:DS}{P:List DV->DS->Prop}:AZ a P=(P [] a):=rfl
theorem e_cons{d:DE}{c:DA}{e:DS}{P:List DV->DS->Prop}:Z6 d c e P=(d e λx a=>c a λxs b=>P (x::xs) b):=rfl
theorem e_tup{b:DA}{c:DS}{P:DV->DS->Prop}:FJ b c P=(b c λxs a=>tupB xs a P):=rfl
theorem e_lst{b:DA}{c:DS}{P:DV->DS->Prop}:HJ b c P=(b c λxs a=>lstB xs a P):=rfl
theorem e_noPart{a:DS}{P:Option Int->DS->Prop}:vB a P=(P none a):=rfl
theorem e_part{c:DE}{b:DS}{P:Option Int->DS->Prop}:Y9 c b P=(c b λx a=>Y5 x a P):=rfl
theorem e_partB{m:Md}{i:Int}{a:DS}{P:Option Int->DS->Prop}:Y5 (.dat m (.int i)) a P=(P (some i) a):=rfl
theorem e_sl{i:Bool}{d:DE}{dl f:DO}{e:DS}{P:DV->DS->Prop}:LK i d dl f e P=(d e λx b=>dl b λl c=>f c λh a=>JV i x l h a P):=rfl
theorem e_slBl{i:Bool}{m:Md}{ds:List Af}{l h:Option Int}{a:DS}{P:DV->DS->Prop}:JV i (.dat m (.list ds)) l h a P=(bE i m (Mi ds l h) λz=>P z a):=rfl
theorem e_slBt_w1{a:List Int}{i:Bool}{m:Md}{ds:List Af}{l h:Option Int}{b:DS}{P:DV->DS->Prop}:JV i (.dat m (Bf a)) l h b P=(fZ i m (Mi (a.map Av) l h) λz=>P z b):=rfl
theorem e_cb{rd:DC}{b:DA}{c:DS}{P:DV->DS->Prop}:JB rd b c P=(b c λxs a=>rd xs λz=>P z a):=rfl
theorem e_lenl{ds:List Af}{m a:Md}{P:DV->Prop}:vU [.dat m (.list ds)] P=(P (.dat .ow (.int ds.length))):=rfl
theorem e_lent_w1{a:List Int}{ds:List Af}{m b:Md}{P:DV->Prop}:vU [.dat m (Bf a)] P=(P (.dat .ow (.int (a.map Av).length))):=rfl
theorem e_listl{i:Bool}{ds:List Af}{m a:Md}{P:DV->Prop}:tH i [.dat m (.list ds)] P=(bE i m ds P):=rfl
theorem e_tuplel{i:Bool}{ds:List Af}{m a:Md}{P:DV->Prop}:lM i [.dat m (.list ds)] P=(fZ i m ds P):=rfl
theorem e_intb{i:Bool}{m a:Md}{P:DV->Prop}:v9 [.dat m (.bool i)] P=(P (.dat .ow (.int (if i=true then 1 else 0)))):=rfl
theorem e_min2{i j:Int}{m a:Md}{P:DV->Prop}:sQ [.dat m (.int i),.dat a (.int j)] P=(P (.dat .ow (.int (if j<i then j else i)))):=rfl
theorem e_all{ds:List Af}{m a:Md}{P:DV->Prop}:u5 [.dat m (.list ds)] P=(∃bs:List Bool,ds=bs.map PyData.bool/\P (.dat .ow (.bool (bs.all id)))):=rfl
theorem e_sortI{ds:List Af}{m a:Md}{P:DV->Prop}:kH [.dat m (.list ds)] P=(∃ns:List Int,ds=ns.map Av/\ns.length<64/\P (.dat .ow (.list ((fA ns).map Av)))):=rfl
theorem e_b{c:DE}{b:DS}{P:Bool->DS->Prop}:dB c b P=(c b λx a=>bB x a P):=rfl
theorem e_bB{m:Md}{b:Bool}{a:DS}{P:Bool->DS->Prop}:bB (.dat m (.bool b)) a P=(P b a):=rfl
theorem e_notT{dt:DT}{c:DS}{P:Bool->DS->Prop}:AA dt c P=(dt c λb a=>P (!b) a):=rfl
theorem e_andT{dt d:DT}{c:DS}{P:Bool->DS->Prop}:Z3 dt d c P=(dt c λb a=>W3 d b a P):=rfl
theorem e_orT{dt d:DT}{c:DS}{P:Bool->DS->Prop}:IA dt d c P=(dt c λb a=>LM d b a P):=rfl
theorem e_orTf{b:DT}{a:DS}{P:Bool->DS->Prop}:LM b false a P=(b a P):=rfl
theorem e_and{b d:DE}{c:DS}{P:DV->DS->Prop}:HD b d c P=(b c λx a=>GI d x a P):=rfl
theorem e_andt{b:DE}{m:Md}{a:DS}{P:DV->DS->Prop}:GI b (.dat m (.bool true)) a P=(b a P):=rfl
theorem e_ifE{dt:DT}{c e:DE}{d:DS}{P:DV->DS->Prop}:IL dt c e d P=(dt d λb a=>LN c e b a P):=rfl
theorem e_neg{c:DE}{b:DS}{P:DV->DS->Prop}:FV c b P=(c b λx a=>FF x a P):=rfl
theorem e_negB{m:Md}{i:Int}{a:DS}{P:DV->DS->Prop}:FF (.dat m (.int i)) a P=(P (.dat .ow (.int (-i))) a):=rfl
theorem e_dL{c:DE}{b:DS}{P:Md->List Af->DS->Prop}:dL c b P=(c b λx a=>lB x a P):=rfl
theorem e_dTp{c:DE}{b:DS}{P:Md->List Af->DS->Prop}:LQ c b P=(c b λx a=>ME x a P):=rfl
theorem e_lB{m:Md}{ds:List Af}{a:DS}{P:Md->List Af->DS->Prop}:lB (.dat m (.list ds)) a P=(P (Ji m) ds a):=rfl
theorem e_tpB_w1{a:List Int}{m:Md}{ds:List Af}{b:DS}{P:Md->List Af->DS->Prop}:ME (.dat m (Bf a)) b P=(P (Ji m) (a.map Av) b):=rfl
theorem e_range1{b:DA}{c:DS}{P:Md->List Af->DS->Prop}:qC b c P=(b c λxs a=>Y1 xs a P):=rfl
theorem e_rng1B{m:Md}{j:Int}{a:DS}{P:Md->List Af->DS->Prop}:Y1 [.dat m (.int j)] a P=(-1000000<=j/\j<=1000000/\P .sh ((Cc j.toNat).map λi:Nat=>.int i) a):=rfl
theorem e_enum{b:DA}{c:DS}{P:Md->List Af->DS->Prop}:F9 b c P=(b c λxs a=>X3 xs a P):=rfl
theorem e_enumB{m:Md}{ds:List Af}{a:DS}{P:Md->List Af->DS->Prop}:X3 [.dat m (.list ds)] a P=(P (Ji m) (ds.zipIdx.map λp=>.tuple [.int p.2,p.1]) a):=rfl
theorem e_enumT{b:DA}{c:DS}{P:Md->List Af->DS->Prop}:uV b c P=(b c λxs a=>E7 xs a P):=rfl
theorem e_enumTB_w1{a:List Int}{m:Md}{ds:List Af}{b:DS}{P:Md->List Af->DS->Prop}:E7 [.dat m (Bf a)] b P=(P (Ji m) ((a.map Av).zipIdx.map λp=>.tuple [.int p.2,p.1]) b):=rfl
theorem e_zip{b:DA}{c:DS}{P:Md->List Af->DS->Prop}:AC b c P=(b c λxs a=>HC xs a P):=rfl
theorem e_zipB{m b:Md}{ds es:List Af}{a:DS}{P:Md->List Af->DS->Prop}:HC [.dat m (.list ds),.dat b (.list es)] a P=(P (mdZip m b) ((ds.zip es).map λp=>.tuple [p.1,p.2]) a):=rfl
theorem e_for{c:DI}{a:DG}{d:DB}{D:DEnds}{b:DS}:FH c a d D b=(c b (GX a d D)):=rfl
theorem e_comp{a:DI}{d:List Nat}{dc:DT}{c:DE}{b:DS}{P:DV->DS->Prop}:F8 a d dc c b P=(a b (z0 d dc c P)):=rfl
theorem e_comp2{a:DI}{d:List Nat}{dc:DT}{c:DE}{b:DS}{P:DV->DS->Prop}:sH a d dc c b P=(a b (n6 d dc c P)):=rfl
theorem e_noTest{a:DS}{P:Bool->DS->Prop}:Np a P=(P true a):=rfl
theorem e_step{dc:DT}{d:DE}{e:DS}{a:Af->Nat->Prop}{f:Nat->Prop}:Pk dc d e a f=(dc e λb c=>D0 d a f b c):=rfl
theorem e_stepT{c:DE}{d:DS}{a:Af->Nat->Prop}{e:Nat->Prop}:D0 c a e true d=(c d λy b=>X0 a y b):=rfl
theorem e_yesB{m:Md}{e:Af}{b:DS}{a:Af->Nat->Prop}:X0 a (.dat m e) b=(imm e=true/\a e b.n):=rfl
theorem e_call{d:PF}{b:DA}{c:DS}{P:DV->DS->Prop}:B8 d b c P=(b c λxs a=>callB d xs a P):=rfl
theorem e_callW{i:Nat}{d:DF}{c:DA}{a:DS}{P:DV->DS->Prop}:sZ i d c a P=(match a.sl[i]? with | some .drw=>c a λxs b=>callBW i d xs b P | _=>False):=rfl
theorem e_draws{b:DA}{c:DS}{P:DV->DS->Prop}:zY b c P=(b c λxs a=>p7 xs a P):=rfl
theorem e_drawsB{m:Md}{i:Int}{a:DS}{P:DV->DS->Prop}:p7 [.dat m (.int i)] a P=(P .drw a):=rfl
theorem e_append{i:Nat}{c:DE}{D:DEnds}{a:DS}:jT i c D a=(match a.sl[i]? with | some (.dat _ (.list _))=>c a λy b=>appB i y b D | _=>False):=rfl
theorem e_insert{i:Nat}{d e:DE}{D:DEnds}{a:DS}:lV i d e D a=(match a.sl[i]? with | some (.dat _ (.list _))=>d a λz b=>e b λy c=>insB i z y c D | _=>False):=rfl
theorem e_scrSl{i:Nat}{dl d:DO}{b:DS}{P:DV->DS->Prop}:rM i dl d b P=(match b.sl[i]? with | some (.scr ns)=>dl b λl a=>d a λh c=>P (.dat .ow (.list ((Mi ns l h).map Av))) c | _=>False):=rfl
theorem e_sortW{m:Md}{ds:List Af}{P:DV->Prop}:kD [.dat m (.list ds)] P=(∃a:List (List Int),ds=a.map Bf/\∀L:List (List Int),L.Perm a->L.Pairwise (λx y=>HT.lexLt y x=false)->P (.dat .ow (.list (L.map Bf)))):=rfl
theorem e_zipD{b:DA}{c:DS}{P:Md->List Af->DS->Prop}:zQ b c P=(b c λxs a=>AB xs a P):=rfl
theorem e_zipDB{m b:Md}{X:List (Af×Af)}{es:List Af}{a:DS}{P:Md->List Af->DS->Prop}:AB [.dat m (.dict X),.dat b (.list es)] a P=(∃ks,X=Wk ks/\P (mdZip m b) ((ks.zip es).map λp=>.tuple [Bf p.1.1,p.2]) a):=rfl
theorem e_dcomp2{b:DI}{d:List Nat}{dc:DT}{a c:DE}{e:DS}{P:DV->DS->Prop}:lJ b d dc a c e P=(b e (wB d dc a c P)):=rfl
theorem e_dcStep{dc:DT}{d e:DE}{f:DS}{a:List Int->Af->Nat->Prop}{g:Nat->Prop}:lX dc d e f a g=(dc f λc b=>LY d e a g c b):=rfl
theorem e_dcBT{d e:DE}{f:DS}{a:List Int->Af->Nat->Prop}{g:Nat->Prop}:LY d e a g true f=(d f λy b=>e b λz c=>nQ a y z c):=rfl
theorem e_dcYes{m c:Md}{k e:Af}{b:DS}{a:List Int->Af->Nat->Prop}:nQ a (.dat m k) (.dat c e) b=(∃w,k=Bf w/\imm e=true/\a w e b.n):=rfl
theorem e_augX{i:Nat}{c d:DE}{D:DEnds}{a:DS}:AG i c d D a=(isLst a.sl[i]? = true/\c a λz b=>augIK i d z b D):=rfl
theorem e_dictZ{b:DA}{c:DS}{P:DV->DS->Prop}:sW b c P=(b c λxs a=>jM xs a P):=rfl
theorem e_dictZB{m c:Md}{ds es:List Af}{b:DS}{P:DV->DS->Prop}:jM [.dat m (.list ds),.dat c (.list es)] b P=(ds.length<=1000000/\Dw es=true/\∃a:List (List Int),ds=a.map Bf/\P (.dat .ow (.dict (Wk (Tf [] (a.zip es))))) b):=rfl
theorem e_compP{b:Bool}{d a:DI}{f:List Nat}{e:DE}{g:DS}{P:DV->DS->Prop}:rN b d f a e g P=(d g λm ds c=>IB b f a e P m ds c):=rfl
theorem e_callA{d:PF}{b:DA}{c:DS}{P:DV->DS->Prop}:zZ d b c P=(b c λxs a=>noPk xs=true/\callAB d xs a P):=rfl
theorem e_ssT{b:DA}{c:DS}{P:DV->DS->Prop}:GC b c P=(b c λxs a=>HW xs a P):=rfl
theorem e_ssTt{m:Md}{ds:List Af}{a:DS}{P:DV->DS->Prop}:HW [.dat m (.tuple ds)] a P=(∃ns:List Int,ds=ns.map Av/\(∀x∈ns,0<=x/\x<60)/\P (.dat .ow (.list ((Pj ns).map Av))) a):=rfl
theorem e_tr{c:DE}{b:DS}{P:DV->DS->Prop}:LX c b P=(c b λx a=>JG x a P):=rfl
theorem e_trB{m:Md}{j:Int}{a:DS}{P:DV->DS->Prop}:JG (.dat m (.int j)) a P=(0<=j/\j<=1000/\P (.dat .ow (Bf (Ky j.toNat))) a):=rfl
section
variable{t u:DB}{D:DEnds}{c b:DS}
theorem aK{m:Type}{k:DG}{n:DB}{ds:List Af}{l:List m}{g:m->Af}(e:ds=l.map g)(I:Nat->DS->Prop)(h0:I 0 b)(p:∀i a c,l[i]? = some a->I i c->k (.dat .sh (g a)) c λj=>n { D with nx:=I (i+1),ct:=I (i+1),bk:=D.nx } j)(o:∀c,I l.length c->D.nx c):GX k n D .sh ds b:=by
 subst e
 refine ⟨rfl,I,h0,λi d c f r=>?_,λc h=>o c (by rw[Ad] at h; exact h)⟩
 rw[Bg] at f
 cases q:l[i]? with
 | none=>rw[q] at f; cases f
 | some a=>rw[q] at f; cases f; exact p i a c q r
end
section
variable{k:List Nat}{dc:DT}{j:DE}{P:DV->DS->Prop}{m:Md}{ds:List Af}{b:DS}{c:Type}
theorem E8{l:List c}{g:c->Af}(e:ds=l.map g)(p:c->Bool)(f:c->Af)(h:∀a∈l,∀(r:Af->Nat->Prop) (w:Nat->Prop),(p a=true->r (f a) b.n)->(p a=false->w b.n)->Pk dc j ⟨.dat m (g a)::frD b.sl k,b.n⟩ r w)(q:P (.dat .ow (.list ((l.filter p).map f))) b):z0 k dc j P m ds b:=by
 subst e
 refine ⟨λi o n=>n=b.n/\o=((l.take i).filter p).map f,⟨rfl,by simp⟩,λi d o n s ⟨u,v⟩=>?_,λo n ⟨u,v⟩=>?_⟩
 ·subst u v
  rw[Bg] at s
  cases q:l[i]? with
  | none=>rw[q] at s; cases s
  | some a =>
   rw[q] at s
   cases s
   refine h a (Bp q) _ _ (λt=>⟨rfl,?_⟩) (λt=>⟨rfl,?_⟩)
   ·rw[Ij q,Mp,Bn]; simp [t]
   ·rw[Ij q,Mp,Bn]; simp [t]
 ·subst u v
  rw[Ad,Ey]
  exact q
theorem Yi{l:List c}{g:c->Af}(e:ds=l.map g)(f:c->Af)(h:∀a∈l,∀(d:Af->Nat->Prop) (i:Nat->Prop),d (f a) b.n->Pk dc j ⟨.dat m (g a)::frD b.sl k,b.n⟩ d i)(q:P (.dat .ow (.list (l.map f))) b):z0 k dc j P m ds b:=by
 refine E8 e (λ_=>true) f (λa o d i p _=>h a o d i (p rfl)) ?_
 rw[Qb.mpr λ_ _=>rfl]
 exact q
theorem jL{l:List c}{g1 g2:c->Af}(e:ds=l.map λa=>.tuple [g1 a,g2 a])(p:c->Bool)(f:c->Af)(h:∀a∈l,∀(o:Af->Nat->Prop) (v:Nat->Prop),(p a=true->o (f a) b.n)->(p a=false->v b.n)->Pk dc j ⟨.dat m (g1 a)::.dat m (g2 a)::frD b.sl k,b.n⟩ o v)(q:P (.dat .ow (.list ((l.filter p).map f))) b):n6 k dc j P m ds b:=by
 subst e
 refine ⟨λi g n=>n=b.n/\g=((l.take i).filter p).map f,⟨rfl,by simp⟩,λi d g n r ⟨t,u⟩=>?_,λg n ⟨t,u⟩=>?_⟩
 ·subst t u
  rw[Bg] at r
  cases q:l[i]? with
  | none=>rw[q] at r; cases r
  | some a =>
   rw[q] at r
   cases r
   refine ⟨_,_,rfl,h a (Bp q) _ _ (λs=>⟨rfl,?_⟩) (λs=>⟨rfl,?_⟩)⟩
   ·rw[Ij q,Mp,Bn]; simp [s]
   ·rw[Ij q,Mp,Bn]; simp [s]
 ·subst t u
  rw[Ad,Ey]
  exact q
end
theorem eD{t u:DB}{D:DEnds}{b:Bool}{a:DS}(h1:b=true->t D a)(c:b=false->u D a):GE t u D b a:=by
 cases b with
 | true=>exact h1 rfl
 | false=>exact c rfl
theorem IE{c d:DE}{b:Bool}{a:DS}{P:DV->DS->Prop}(h1:b=true->c a P)(e:b=false->d a P):LN c d b a P:=by
 cases b with
 | true=>exact h1 rfl
 | false=>exact e rfl
theorem F5{c:DT}{b:Bool}{a:DS}{P:Bool->DS->Prop}(h1:b=true->c a P)(d:b=false->P false a):W3 c b a P:=by
 cases b with
 | true=>exact h1 rfl
 | false=>exact d rfl
theorem jN{e:DE}{a:Af->Nat->Prop}{f:Nat->Prop}{b:Bool}{d:DS}(h1:b=true->e d λy c=>X0 a y c)(g:b=false->f d.n):D0 e a f b d:=by
 cases b with
 | true=>exact h1 rfl
 | false=>exact g rfl
class Im (d:Af):Prop where
 h:imm d=true
class ImA (ds:List Af):Prop where
 h:Dw ds=true
theorem im{d:Af}[h:Im d]:imm d=true:=h.h
theorem MX{ds:List Af}[h:ImA ds]:Dw ds=true:=h.h
instance {i:Int}:Im (.int i):=⟨by simp [imm]⟩
instance {i:Bool}:Im (.bool i):=⟨by simp [imm]⟩
instance {i:Str}:Im (.str i):=⟨by simp [imm]⟩
instance:Im .none:=⟨by simp [imm]⟩
instance {ds:List Af} [h:ImA ds]:Im (.tuple ds):=⟨by rw[imm]; exact h.h⟩
instance {ns:List Int}:Im (Bf ns):=⟨L6 ns⟩
instance:ImA []:=⟨by simp [Dw]⟩
instance {d:Af} {ds:List Af} [h:Im d] [t:ImA ds]:ImA (d::ds):=⟨by rw[Dw,h.h,t.h]; rfl⟩
instance {α:Type} {f:α->Af} {l:List α} [h:∀a,Im (f a)]:ImA (l.map f):=⟨Wq (λa=>(h a).h) l⟩
instance {a b:List Af} [h:ImA a] [k:ImA b]:ImA (a++b):=⟨by rw[dF,h.h,k.h]; rfl⟩
class Dp (d:Af) (k:outParam Nat):Prop where
 h:d.depth<=k
class DpA (ds:List Af) (k:outParam Nat):Prop where
 h:Br ds<=k
theorem dp{d:Af}{k:Nat}[h:Dp d k](a:k<=60:=by decide):d.depth<=60:=Cb h.h a
instance {i:Int}:Dp (.int i) 0:=⟨by simp [Dz]⟩
instance {i:Bool}:Dp (.bool i) 0:=⟨by simp [Dz]⟩
instance {i:Str}:Dp (.str i) 0:=⟨by simp [Dz]⟩
instance:Dp .none 0:=⟨by simp [Dz]⟩
instance {ds:List Af} {k:Nat} [h:DpA ds k]:Dp (.tuple ds) (k+1):=⟨by have:=h.h; simp only[Dz]; omega⟩
instance {ds:List Af} {k:Nat} [h:DpA ds k]:Dp (.list ds) (k+1):=⟨by have:=h.h; simp only[Dz]; omega⟩
instance {ns:List Int}:Dp (Bf ns) 1:=⟨rL ns⟩
instance:DpA [] 0:=⟨by simp [Br]⟩
instance {d:Af} {ds:List Af} {k j:Nat} [h:Dp d k] [t:DpA ds j]:DpA (d::ds) (k+j):=⟨by have:=h.h; have:=t.h; simp only[Br]; omega⟩
instance {α:Type} {f:α->Af} {l:List α} {k:Nat} [h:∀a,Dp (f a) k]:DpA (l.map f) k:=⟨aZ λx hx=>by
 obtain ⟨a,_,rfl⟩:=Dd.mp hx
 exact (h a).h⟩
theorem kR{a b:List Af}:Br (a++b)<=Br a+Br b:=by
 induction a with
 | nil=>simp [Br]
 | cons x a c=>simp only[Fm,Br]; omega
instance {a b:List Af} {k j:Nat} [h:DpA a k] [t:DpA b j]:DpA (a++b) (k+j):=⟨by have:=h.h; have:=t.h; have:=kR (a:=a) (b:=b); omega⟩
theorem uA(i j:Str):Em (.str i) (.str j)=(i == j):=by simp [Em]
theorem nK(a b:List Af):Em (.list a) (.list b)=Mt a b:=by simp [Em]
theorem kK(a b:List Af):Em (.tuple a) (.tuple b)=Mt a b:=by simp [Em]
theorem Vt(x y:Af)(a b:List Af):Mt (x::a) (y::b)=(Em x y && Mt a b):=by simp [Mt]
theorem oV:Mt [] []=true:=by simp [Mt]
theorem Xv{c:Type}[DecidableEq c]{f:c->Af}(h:∀a b,Em (f a) (f b)=decide (a=b)):∀l m:List c,Mt (l.map f) (m.map f)=decide (l=m)
 | [],[]=>by simp [Mt]
 | [],_::_=>by simp [Mt]
 | _::_,[]=>by simp [Mt]
 | a::l,b::m=>by simp [Mt,h,Xv h l m]
theorem eqD_intd(i j:Int):Em (.int i) (.int j)=decide (i=j):=by simp [Em]; rfl
theorem J1(a b:List Int):Em (Bf a) (Bf b)=decide (a=b):=by
 unfold Bf
 rw[kK,Xv eqD_intd]
def wordsD(a:List (List Int)):Af:=.list (a.map Bf)
instance {ws:List (List Int)}:Dp (wordsD ws) 2:=⟨(inferInstance:Dp (.list (ws.map Bf)) 2).h⟩
theorem yY(a b:List (List Int)):Em (wordsD a) (wordsD b)=decide (a=b):=by
 unfold wordsD
 rw[nK,Xv J1]
def vF(ns:List Int):Af:=.list (ns.map Av)
instance {ns:List Int}:Dp (vF ns) 1:=⟨(inferInstance:Dp (.list (ns.map Av)) 1).h⟩
theorem A3(a b:List Int):Em (vF a) (vF b)=decide (a=b):=by
 unfold vF
 rw[nK,Xv eqD_intd]
theorem any_int(ns:List Int)(i:Int):((ns.map Av).any λe=>Em e (.int i))=decide (i∈ns):=by
 rw[bX]
 induction ns with
 | nil=>rfl
 | cons n ns a =>
  rw[Zi,a]
  simp only[Function.comp,eqD_intd,Ak]
  by_cases h:n=i
  ·subst h; simp
  ·have : ¬ i=n:=λz=>h z.symm
   simp [h,this]
theorem vR{a b:Type}(f:a->b)(l:List a):(l.map f).zipIdx=l.zipIdx.map λp=>(f p.1,p.2):=by
 rw[List.zipIdx_map]
 rfl
theorem N5{a b:Type}(f:a->b)(l:List a)(i:Int):Wy (l.map f) i=(Wy l i).map f:=by
 unfold Wy
 rw[Ad]
 cases M4 l.length i with
 | none=>rfl
 | some j=>simp
theorem oX{c:Type}{l:List c}{i:Int}(h0:0<=i)(h1:i<l.length):∃a,l[i.toNat]? = some a/\Wy l i=some a/\a∈l:=by
 have b:i.toNat<l.length:=by omega
 refine ⟨l[i.toNat],by simp [b],?_,fL b⟩
 have q:Wy l ((i.toNat:Nat):Int)=some l[i.toNat]:=uF (by simp [b])
 rwa [show ((i.toNat:Nat):Int)=i by omega] at q
theorem im_e{d:Af}[h:Im d]:(imm d=true)=True:=eq_true h.h
theorem ima_e{ds:List Af}[h:ImA ds]:(Dw ds=true)=True:=eq_true h.h
theorem dp_e{d:Af}{k:Nat}[h:Dp d k](a:k<=60):(d.depth<=60)=True:=eq_true (Cb h.h a)
theorem dpa_e{ds:List Af}{k:Nat}[h:DpA ds k](a:k<=60):(Br ds<=60)=True:=eq_true (Cb h.h a)
theorem t8(a b:List (List Int)):Em (.list (a.map Bf)) (.list (b.map Bf))=decide (a=b):=yY a b
theorem eqD_li(a b:List Int):Em (.list (a.map Av)) (.list (b.map Av))=decide (a=b):=A3 a b
theorem eqD_l0(a:List Af):Em (.list a) (.list [])=a.isEmpty:=V9 a
theorem ow_e{d:Af}{R:Af->Prop}:(∃e,DV.dat .ow d=.dat .ow e/\R e)=R d:=by
 apply propext
 constructor
 ·(intro a; obtain ⟨e,h,r⟩ := a); cases h; exact r
 ·intro r; exact ⟨d,rfl,r⟩
theorem tt_e{m:Md}{b:Bool}:(∃a,DV.dat m (.bool b)=.dat a (.bool true))=(b=true):=by
 apply propext
 constructor
 ·rintro ⟨e,h⟩; cases h; rfl
 ·intro r; subst r; exact ⟨m,rfl⟩
theorem cdiv_e{i j:Int}:BD i j=(0<j/\j<1073741824):=rfl
theorem Wj{b a:List DV}{n n':Nat}(h:b=a)(h':n=n'):(⟨b,n⟩ : DS)=⟨a,n'⟩:=by subst h h'; rfl
theorem Ph{j i a:Nat}(h:(Cc j)[i]? = some a):a=i/\i<j:=by
 obtain ⟨c,b⟩:=Ax.mp h
 rw[Cq] at c
 rw[List.getElem_range] at b
 exact ⟨b.symm,c⟩
def NP(v:DV):Prop:=∀l,npk (v::l)=npk l
theorem Mv:NP .un:=λ_=>rfl
theorem Ir{d:Af}:NP (.dat .sh d):=λ_=>rfl
theorem BY:NP .drw:=λ_=>rfl
theorem X2{t u:DB}{D:DEnds}(X:(Bool->DS->Prop)->Prop)(J:DS->Prop)(h:∀N:DS->Prop,(∀a,J a->N a)->X (GE t u { D with nx:=N }))(k:∀a,J a->D.nx a):X (GE t u D):=h D.nx k
theorem GA{a:Type}(x y:a)(b:Bool):Wy [x,y] (if b=true then 1 else 0)=some (if b=true then y else x):=by cases b <;> rfl
theorem fold_w(w:List Int):Li (List.map Av w)=Bf w:=rfl
theorem BW:∀x∈([]:List DV),NP x:=λ_ z=>nomatch z
theorem xV{a:List (List Int)}{i:Int}(h0:0<=i)(h1:i<a.length):∃w∈a,Wy (a.map Bf) i=some (Bf w):=by
 obtain ⟨w,_,b,c⟩:=oX (l:=a) h0 h1
 exact ⟨w,c,by rw[N5,b]; rfl⟩
theorem iW{b c:Type}{l:List b}{i:Nat}{a:b}(p:b->Bool)(f:b->c)(h:l[i]? = some a):((l.take (i+1)).filter p).map f=((l.take i).filter p).map f++(if p a=true then [f a] else []):=by
 rw[Ij h,Mp,Bn]
 cases q:p a <;> simp [q]
theorem HE{ns:List Int}(k:Nat):(Mi ns none (some (k:Int))).length<=k:=by
 rw[aR,Cz]
 exact Nat.min_le_left _ _
theorem ifB_lf{t u:DB}{D:DEnds}{a:DS}:GE t u D false a=u D a:=rfl
theorem qE{c:Type}{l:List c}{i:Nat}{a:c}(h:l[i]? = some a):Wy l (i:Int)=some a:=by
 obtain ⟨b,e,d,_⟩:=oX (l:=l) (i:=(i:Int)) (by omega) (by have:=(Ax.mp h).1; omega)
 rw[d,<- e,<- h]; rfl
theorem atI_0{a:Type}(x:a)(l:List a):Wy (x::l) 0=some x:=qE (i:=0) rfl
theorem atI_1{a:Type}(x y:a)(l:List a):Wy (x::y::l) 1=some y:=qE (i:=1) rfl
theorem some_e{b:Type}{a:b}{R:b->Prop}:(∃d,some a=some d/\R d)=R a:=propext ⟨λ⟨_,e,h⟩=>by cases e; exact h,λh=>⟨a,rfl,h⟩⟩
theorem dget_e{ks:List (List Int×Af)}{w:List Int}{m e:Md}{P:DV->Prop}:lU (.dat m (.dict (Wk ks))) (.dat e (Bf w)) P=∃d,bP ks w=some d/\P (.dat .ow d):=propext ⟨λ⟨a,f,d,b,c,h⟩=>by cases Ox b; cases fG c; exact ⟨d,h⟩,λ⟨d,h⟩=>⟨ks,w,d,rfl,rfl,h⟩⟩
theorem lenD_e{ks:List (List Int×Af)}{m:Md}{P:DV->Prop}:sV [.dat m (.dict (Wk ks))] P=P (.dat .ow (.int ks.length)):=propext ⟨λ⟨a,b,h⟩=>by cases Ox b; exact h,λh=>⟨ks,rfl,h⟩⟩
theorem wd_e{k:List Int}{R:List Int->Prop}:(∃w,Bf k=Bf w/\R w)=R k:=by
 apply propext
 constructor
 ·(intro a; obtain ⟨w,h,r⟩ := a); rw[fG h]; exact r
 ·intro r; exact ⟨k,rfl,r⟩
theorem U6{A:List Nat}{dc:DT}{w y:DE}{P:DV->DS->Prop}{m:Md}{ds:List Af}{b:DS}{p:Type}{l:List p}{g1 g2:p->Af}(e:ds=l.map λa=>.tuple [g1 a,g2 a])(hl:l.length<=1000000)(f:p->List Int)(u:p->Af)(nd:(l.map f).Nodup)(h:∀a∈l,∀(o:List Int->Af->Nat->Prop) (C:Nat->Prop),o (f a) (u a) b.n->lX dc w y ⟨.dat m (g1 a)::.dat m (g2 a)::frD b.sl A,b.n⟩ o C)(q:P (.dat .ow (.dict (Wk (l.map λa=>(f a,u a))))) b):wB A dc w y P m ds b:=by
 subst e
 refine ⟨by rw[Ad]; exact hl,λi c n=>n=b.n/\c=(l.take i).map λa=>(f a,u a),⟨rfl,by simp⟩,λi d c n k ⟨r,v⟩=>?_,λc n ⟨r,v⟩=>?_⟩
 ·subst r v
  rw[Bg] at k
  cases q:l[i]? with
  | none=>rw[q] at k; cases k
  | some a =>
   rw[q] at k
   cases k
   refine ⟨_,_,rfl,h a (Bp q) _ _ ⟨rfl,?_⟩⟩
   rw[Ij q,Bn]
   unfold Ut
   rw[if_neg]
   ·rfl
   ·rw[bX,List.any_eq_true]
    (intro D; obtain ⟨x,B,g⟩ := D)
    have g:f x=f a:=of_decide_eq_true g
    obtain ⟨F,E⟩:=Ax.mp q
    obtain ⟨j,s⟩:=wG.mp B
    have t:=(Ax.mp s).1
    rw[Cz] at t
    rw[List.getElem?_take,if_pos (by omega)] at s
    have z:=(bV (l:=l.map f) (i:=j) (j:=i) (by rw[Ad]; omega) nd).mp (by rw[Bg,Bg,s,q]; exact congrArg some g)
    omega
 ·subst r v
  rw[Ad,Ey]
  exact q
theorem dkv_e{ks:List (List Int×Af)}{R:List (List Int×Af)->Prop}:(∃a,Wk ks=Wk a/\R a)=R ks:=propext ⟨λ⟨a,e,h⟩=>by cases Ox e; exact h,λh=>⟨ks,rfl,h⟩⟩
theorem retA_sh{d:Af}{R:Af->Prop}:(∃m d',DV.dat .sh d=.dat m d'/\m≠.pk/\R d')=R d:=propext ⟨λ⟨m,d',e,_,h⟩=>by cases e; exact h,λh=>⟨_,_,rfl,by decide,h⟩⟩
end DL
namespace K54
open PySem L2 Nd DL
def top(i:Nat):Stmt:=PySem.Challenge.pw_needledeck_k54_whole_counts_there_and_ba.main.body.getD i (.Pass ⟨0,0,0,0⟩)
abbrev Xx:Stmt:=top 1
abbrev Se:Stmt:=top 2
abbrev Qj:Stmt:=top 3
abbrev Rz:Stmt:=top 5
abbrev Xq:Stmt:=top 6
abbrev cR:Stmt:=top 7
abbrev Uu:Stmt:=top 8
abbrev Vj:Stmt:=top 9
abbrev rD:Stmt:=top 10
abbrev aJ:Stmt:=top 12
abbrev jY:Stmt:=top 14
abbrev vM:Stmt:=top 15
abbrev Ow:Stmt:=top 16
abbrev Qi:Stmt:=top 17
abbrev Sf:Stmt:=top 18
abbrev Ws:Stmt:=top 19
abbrev Tx:Stmt:=top 20
abbrev Oy:Stmt:=top 21
abbrev Mk:Stmt:=top 22
abbrev Hi:Stmt:=top 23
abbrev Eg:Stmt:=top 24
abbrev Jt:Stmt:=top 25
abbrev jS:Stmt:=top 26
section
variable{P:Bk}{w:World}{K:PySem.W.Frag}{mg:Str->Option Value}{base:Heap}
theorem MW:FnScope ["_law_cell"] ["_law_cell"] (Bv jY):=⟨rfl,rfl,rfl,by decide +kernel,rfl,by decide +kernel,by decide +kernel⟩
theorem E5{f:Addr}{d:Cs}(F:Fun K "_law_draws" "_law_draws" jY f d):FnOk P w K mg base Hu 1 f d ["_law_cell"] Yl:=by
 refine F.ok MW (λvs H Q E h=>?_) (λe A b s H vs Q E g h=>?_)
 ·obtain ⟨c,rfl,_⟩:=h
  rfl
 obtain ⟨c,rfl,q⟩:=h
 refine ⟨_,Mh (zU (vN IQ (pv 0) (Ka lN Gi Gi) (fF _)) (Vv (Zs (qY (Hx (Ka Wr (pv 0) (Ka R1 (Ka lN Gi Gi) Gi)) (Hx Gi (Hx r9 Og)))))) lI)
  (Vv (Zs (qY (Hx (Ka Wr (pv 0) Gi) (Hx Gi (Hx r9 Og)))))),?_⟩
 refine ⟨_,rfl,10,18,rfl,rfl,⟨by decide,by decide,by decide⟩,_,_,rfl,rfl,_,rfl,IH (λ_=>?_) (λ_=>?_)⟩
 ·refine ⟨_,rfl,10,60,rfl,rfl,⟨by decide,by decide,by decide⟩,_,16,rfl,rfl,⟨by decide,by show (Builtin.Int.intBits (10 ^ (60:Int).toNat):Int) * 16<=2 ^ 27; decide +kernel⟩,_,_,rfl,rfl,(by show (0:Int)<(10 ^ (60:Int).toNat) ^ (16:Int).toNat; decide +kernel),(by show 3<=Ay; decide),λp a=>?_⟩
  exact q p _ _ _ a Du (Ff a _)
 ·refine ⟨_,rfl,_,_,rfl,rfl,(by show (0:Int)<1000003; decide),(by show 3<=Ay; decide),λp a=>?_⟩
  exact q p _ _ _ a Du (Ff a _)
theorem MG:FnScope ["_law_draws_here", "_law_k", "_law_number"] ["_law_draws_here"] (Bv vM):=⟨rfl,rfl,rfl,by decide +kernel,rfl,by decide +kernel,by decide +kernel⟩
theorem V8{f:Addr}{m:Cs}(F:Fun K "_law_next" "_law_next" vM f m):FnOk P w K mg base Hu 1 f m ["_law_draws_here"] K7:=by
 refine F.ok MG (λvs H Q E h=>?_) (λn A g s H vs Q E r h=>?_)
 ·obtain ⟨d,c,k,b,rfl,_⟩:=h
  rfl
 obtain ⟨d,c,k,b,rfl,l,t,u,q⟩:=h
 refine ⟨_,Mh (C4 (Ka cY (dU Vh (pv 0) Gi (λ_ _=>rfl)) Gi) (C5 (pv 0) Gi cO))
  (Mh (zU (i4 (dU Vh (pv 0) Gi (λ_ _=>rfl)))
   (Mh (aD (i:=2) MG.nd rfl (Dq rfl) (Ka Wr (dU Vh (pv 0) Gi (λ_ _=>rfl)) (Ka lN Gi Gi)))
    (Mh (C4 (Ka jX (dU Vh (pv 0) Gi (λ_ _=>rfl)) (Ka lN Gi Gi)) (C5 (pv 0) Gi cO))
    (Vv (Zs (pv 2))))) lI)
  (Mh (aD (i:=1) MG.nd rfl (Dq rfl) (dU Vh (pv 0) Gi (λ_ _=>rfl)))
  (Mh (aD (i:=2) MG.nd rfl (Dq rfl) (Ka Wr (Ka aC (Ka cY (Ka cY (dU Vh (pv 0) Gi (λ_ _=>rfl)) (Ka aC (Ka aC (pv 1) (pv 1)) Gi)) (pv 1)) Gi) Gi))
  (Mh (aD (i:=2) MG.nd rfl (Dq rfl) (Ka Wr (Ka aC (pv 2) (pv 2)) Gi))
  (Vv (Zs (Ka jX (Ka Wr (Ka aC (pv 2) (Ka cY (pv 2) Gi)) Gi) Gi))))))),?_⟩
 -- draws[1]=draws[1]+1
 refine ⟨_,rfl,d,_,1,_,rfl,rfl,Mq.of l,rfl,_,_,rfl,rfl,_,rfl,d,_,1,1,rfl,rfl,l,rfl,?_⟩
 have a:(upd H d (.lst ([V.int c,V.int k,V.bl b].set 1 (V.int (k+1))))) d=some (.lst [.int c,.int (k+1),.bl b]):=Du
 generalize e:upd H d (.lst ([V.int c,V.int k,V.bl b].set 1 (V.int (k+1))))=H1 at a
 have j:aW d H H1:=by rw[<- e]; exact aW.upd
 refine ⟨_,rfl,d,_,2,_,rfl,rfl,Mq.of a,rfl,_,rfl,?_⟩
 refine IH (λ_=>?_) (λ_=>?_)
 ·refine ⟨_,rfl,d,_,0,_,rfl,rfl,Mq.of a,rfl,10,6,rfl,rfl,⟨by decide,by decide,by decide⟩,_,_,rfl,rfl,(by show (0:Int)<10 ^ (6:Int).toNat; decide),?_⟩
  refine ⟨_,rfl,d,_,0,_,rfl,rfl,Mq.of a,rfl,10,6,rfl,rfl,⟨by decide,by decide,by decide⟩,_,_,rfl,rfl,⟨by decide,by decide⟩,_,rfl,d,_,0,0,rfl,rfl,a,rfl,_,rfl,?_⟩
  exact q _ _ _ Du (j.trans aW.upd)
 ·refine ⟨_,rfl,d,_,1,_,rfl,rfl,Mq.of a,rfl,?_⟩
  have o:=kJ ((c+(k+1) * (k+1) * 7919+(k+1)) * 48271) 2147483629 (by decide)
  refine ⟨_,rfl,d,_,0,_,rfl,rfl,Mq.of a,rfl,_,rfl,_,rfl,_,_,rfl,rfl,.inl ⟨by omega,by omega⟩,_,_,rfl,rfl,.inr ⟨by decide,by decide⟩,_,_,rfl,rfl,_,rfl,_,_,rfl,rfl,
   _,_,rfl,rfl,.inr ⟨by decide,by decide⟩,_,_,rfl,rfl,(by show (0:Int)<2147483629; decide),?_⟩
  generalize ((c+(k+1) * (k+1) * 7919+(k+1)) * 48271) % 2147483629=x at o
  have p:=kJ (x * x) 2147483587 (by decide)
  refine ⟨_,rfl,_,rfl,_,_,rfl,rfl,.inl ⟨by omega,by omega⟩,_,_,rfl,rfl,(by show (0:Int)<2147483587; decide),?_⟩
  generalize (x * x) % 2147483587=y at p
  refine ⟨_,rfl,_,rfl,_,_,rfl,rfl,_,_,rfl,rfl,.inl ⟨by omega,by omega⟩,_,_,rfl,rfl,(by show (0:Int)<2147483579; decide),_,_,rfl,rfl,⟨by decide,by decide⟩,?_⟩
  exact q _ _ _ a j
theorem yU{f:Addr}{a:Cs}(F:Fun K "_law_draws" "_law_draws" jY f a):FnOk P w K mg base Hu 1 f a ["_law_cell"] Yl:=E5 F
theorem G5{f:Addr}{a:Cs}(F:Fun K "_law_next" "_law_next" vM f a):FnOk P w K mg base Hu 1 f a ["_law_draws_here"] (cU K Ww):=Q9 (V8 F)
end
end K54
namespace DL
open PySem L2 Nd
def sub(a b:List Int):Bool:=a.all λi=>decide (i∈b)
def gH(a b:List Int):List Int:=a.filter λi=>decide (i∉b)
theorem Sr{a b:List Int}:sub a b=true↔∀i∈a,i∈b:=by
 unfold sub
 simp [Tt]
theorem i7{a b:List Int}:gH a b=[]↔sub a b=true:=by
 unfold gH
 rw[List.filter_eq_nil_iff,Sr]
 simp
theorem eV{h:Int}{a:List Int}(r:Dr h a):a.Nodup:=r.1.imp λ{x y} h=>Int.ne_of_lt h
theorem yD{a:List Int}(nd:a.Nodup)(h:∀x∈a,0<=x/\x<60):a.length<=60:=Cb (NdS.len_leI nd λe b=>Yu (h e b).1 (h e b).2) (by decide)
theorem Xb(a:Int){b:Int}(h:0<b):0<=a % b/\a % b<b:=kJ a b h
def FU:PF:=λc R=>∃a b:List Int,c=[Bf a,Bf b]/\R (.bool (sub a b))
end DL
namespace Nd
open PySem L2 Ts
def Fc:Nat->List (List Int)
 | 0=>[[]]
 | n+1=>Fc n++(Fc n).map (·++[(n:Int)])
theorem dW:∀n,(Fc n).length=2 ^ n
 | 0=>rfl
 | n+1=>by
  show (Fc n++(Fc n).map (·++[(n:Int)])).length=2 ^ (n+1)
  rw[Bm,Ad,dW n,Vz]
  omega
theorem Sn{n:Nat}(h:n<=10):(Fc n).length<=1024:=by
 rw[dW]
 exact Xm (by decide) h
theorem Ny:∀n,∀w∈Fc n,w.length<=n
 | 0,w,h=>by
  have : w=[]:=by simpa [Fc] using h
  rw[this]
  exact Aj _
 | n+1,w,h=>by
  rcases Bc.mp (show w∈Fc n++(Fc n).map (·++[(n:Int)]) from h) with h | h
  ·exact Nat.le_succ_of_le (Ny n w h)
  ·obtain ⟨v,a,e⟩:=Dd.mp h
   rw[<- e,Bm,Kt]
   exact Nat.succ_le_succ (Ny n v a)
def Ord(l:List (List Int)):Prop:=l.Pairwise λx y=>HT.lexLt y x=false
theorem Km:∀{l m:List (List Int)},l.Perm m->Ord l->Ord m->l=m
 | [],m,p,_,_=>(List.Perm.nil_eq p)
 | x::l,[],p,_,_=>by
  have:=p.length_eq
  simp at this
 | x::l,y::m,p,h1,h2=>by
  obtain ⟨a,d⟩:=Bd.mp h1
  obtain ⟨c,b⟩:=Bd.mp h2
  have e:x=y:=by
   have mx:x∈y::m:=p.mem_iff.mp Ab
   have my:y∈x::l:=p.mem_iff.mpr Ab
   rcases Ak.mp mx with e | mx
   ·exact e
   ·rcases Ak.mp my with e | my
    ·exact e.symm
    ·exact kB (c x mx) (a y my) |>.symm▸rfl
  subst e
  rw[Km ((List.perm_cons x).mp p) d b]
end Nd
namespace Nd
open PySem L2
def ch:Nat->Nat->Nat
 | _,0=>1
 | 0,_+1=>0
 | n+1,k+1=>ch n k+ch n (k+1)
theorem uR(n k:Nat):ch (n+1) (k+1)=ch n k+ch n (k+1):=rfl
theorem dX:∀{n k:Nat},n<k->ch n k=0
 | 0,0,h=>absurd h (Ia _)
 | 0,k+1,_=>rfl
 | n+1,0,h=>absurd h (Kl _)
 | n+1,k+1,h=>by rw[uR,dX (by omega:n<k),dX (by omega:n<k+1)]
theorem V7:∀n:Nat,ch n n=1
 | 0=>rfl
 | n+1=>by rw[uR,V7 n,dX (fS n)]
def rG(top:Int):Nat->List Int->Nat
 | _,[]=>0
 | m,x::w=>ch (top - 1 - x).toNat m+rG top (m - 1) w
theorem dE:∀{n:Nat} {w:List Int},w∈Fc n↔Dr n w
 | 0,w=>by
  show w∈[[]]↔_
  rw[Al]
  constructor
  ·rintro rfl; exact Dr.nil _
  ·rintro ⟨_,h⟩
   match w with
   | []=>rfl
   | x::w=>have:=h x Ab; omega
 | n+1,w=>by
  show w∈Fc n++(Fc n).map (·++[(n:Int)])↔_
  rw[Bc,List.mem_map,dE]
  constructor
  ·rintro (h | ⟨v,hv,rfl⟩)
   ·exact h.up (by omega)
   ·have:=(dE.mp hv).more (by omega)
    exact this.up (by omega)
  ·intro h
   by_cases b:(n:Int)∈w
   ·refine .inr ⟨w.dropLast,dE.mpr ?_,?_⟩
    ·have a:w≠[]:=λz=>by rw[z] at b; cases b
     have g:w.getLast a=n:=by
      have i:=h.2 _ (List.getLast_mem a)
      by_cases e:w.getLast a=n
      ·exact e
      ·exfalso
       have d:=Hr a
       rw[<- d] at b
       rcases Bc.mp b with z | z
       ·have c:=h.1
        rw[<- d] at c
        have:=(Cy.mp c).2.2 _ z _ (Al.mpr rfl)
        omega
       ·exact e (Al.mp z).symm
     have d:=Hr a
     have c:=h.1
     rw[<- d,g] at c
     obtain ⟨j,_,k⟩:=Cy.mp c
     exact ⟨j,λx f=>⟨(h.2 x (List.dropLast_subset w f)).1,k x f _ (Al.mpr rfl)⟩⟩
    ·have a:w≠[]:=λz=>by rw[z] at b; cases b
     have g:w.getLast a=n:=by
      have i:=h.2 _ (List.getLast_mem a)
      by_cases e:w.getLast a=n
      ·exact e
      ·exfalso
       have d:=Hr a
       rw[<- d] at b
       rcases Bc.mp b with z | z
       ·have c:=h.1
        rw[<- d] at c
        have:=(Cy.mp c).2.2 _ z _ (Al.mpr rfl)
        omega
       ·exact e (Al.mp z).symm
     rw[<- g]
     exact Hr a
   ·refine .inl ⟨h.1,λx f=>?_⟩
    have:=h.2 x f
    have : x≠n:=λz=>b (by rw[<- z]; exact f)
    omega
theorem Sg:∀n:Nat,(Fc n).Nodup
 | 0=>Cm.mpr ⟨Az,Ep⟩
 | n+1=>by
  show (Fc n++(Fc n).map (·++[(n:Int)])).Nodup
  refine Hm.mpr ⟨Sg n,?_,λx c y d e=>?_⟩
  ·exact List.Pairwise.map _ (λa b h e=>h (List.append_cancel_right e)) (Sg n)
  ·subst e
   obtain ⟨v,_,rfl⟩:=Dd.mp d
   have:=(dE.mp c).2 n (Ag _ (Al.mpr rfl))
   omega
end Nd
namespace DL
open PySem L2 Nd
def cF:PF:=λa R=>∃h:Int,a=[.int h]/\0<=h/\h<=10/\∀L:List (List Int),L.Perm (Fc h.toNat)->Ord L->R (wordsD L)
theorem Vq{L:List (List Int)}{n:Nat}(b:n<=10)(p:L.Perm (Fc n)):L.length<=1024/\∀w∈L,Dr n w/\w.length<=10:=⟨by rw[p.length_eq]; exact Sn b,λw a=>⟨dE.mp (p.mem_iff.mp a),Cb (Ny n w (p.mem_iff.mp a)) b⟩⟩
def jZ(L:List (List Int)):List (List Int×Af):=L.zipIdx.map λp=>(p.1,.int (p.2:Int))
def nX(L:List (List Int)):Af:=.dict (Wk (jZ L))
def Kh(L:List (List Int))(f:List Int->Int):Af:=.list ((L.map f).map Av)
instance {L:List (List Int)} {f:List Int->Int}:Dp (Kh L f) 1:=⟨(inferInstance:Dp (.list ((L.map f).map Av)) 1).h⟩
theorem oU{w:List Int}:∀{L:List (List Int)} (k:Nat),w∈L->∃i:Nat,L[i]? = some w/\(((L.zipIdx k).map λp=>(p.1,Av (p.2:Int))).find? λp=>decide (p.1=w))=some (w,.int ((i+k:Nat):Int))
 | [],_,h=>nomatch h
 | x::L,k,h=>by
  rw[Ll,Ap,Iy]
  by_cases e:x=w
  ·subst e
   exact ⟨0,rfl,by simp⟩
  ·obtain ⟨i,b,a⟩:=oU (k+1) ((Ak.mp h).resolve_left λz=>e z.symm)
   refine ⟨i+1,by simpa using b,?_⟩
   have c:decide (x=w)=false:=decide_eq_false e
   simp only[c,a]
   congr 3
   omega
theorem jI{L:List (List Int)}{w:List Int}(h:w∈L):∃i:Nat,L[i]? = some w/\bP (jZ L) w=some (.int (i:Int)):=by
 obtain ⟨i,b,a⟩:=oU 0 h
 refine ⟨i,b,?_⟩
 unfold bP jZ
 rw[a]
 rfl
theorem Q5(L:List (List Int)):(jZ L).length=L.length:=by
 unfold jZ
 rw[Ad,Fj]
theorem vJ{f:List Int->Af}:∀(L:List (List Int)) (k:Nat),((((L.zipIdx k).map λp=>(p.1,Av (p.2:Int)))).zip (L.map f)).map (λp=>Li [Bf p.1.1,p.2])=L.map λw=>.tuple [Bf w,f w]
 | [],_=>rfl
 | x::L,k=>by
  rw[Ll,Ap,Ap,Ig,Ap,Ap,vJ L (k+1)]
theorem kS(L:List (List Int))(f:List Int->Int):(((jZ L).zip ((L.map f).map Av)).map λp=>Li [Bf p.1.1,p.2])=L.map λw=>.tuple [Bf w,.int (f w)]:=by
 rw[Cr]
 exact vJ (f:=λw=>.int (f w)) L 0
theorem e8{L:List (List Int)}{f:List Int->Int}{i:Nat}{w:List Int}(h:L[i]? = some w):Wy ((L.map f).map Av) (i:Int)=some (.int (f w)):=uF (by rw[Bg,Bg,h]; rfl)
theorem Q1{L:List (List Int)}{f:List Int->Int}{i:Nat}{w:List Int}{z:Int}(nd:L.Nodup)(h:L[i]? = some w):((L.map f).map Av).set i (.int z)=(L.map λv=>if v=w then z else f v).map Av:=by
 rw[Cr,Cr]
 apply Rx
 intro j
 rw[Rw]
 split
 ·rename_i a
  subst a
  rw[Ad,if_pos (Ax.mp h).1,Bg,h]
  simp
 ·rename_i a
  rw[Bg,Bg]
  cases q:L[j]? with
  | none=>rfl
  | some v =>
   have : v≠w:=by
    rintro rfl
    exact a ((bV (l:=L) (i:=i) (j:=j) (Ax.mp h).1 nd).mp (by rw[h,q]))
   simp [this]
def kY(p t:Int)(f:List Int->Int)(w:List Int):Int:=if p∈w then f w else f w+t * f (Pj (w++[p]))
def cJ:PF:=λa R=>∃h:Int,a=[.int h]/\0<=h/\h<=10/\∀L:List (List Int),L.Perm (Fc h.toNat)->Ord L->R (nX L)
def vP:PF:=λa R=>∃(n:Nat) (L:List (List Int)) (f:List Int->Int) (p t:Int),a=[Kh L f,nX L,.int p,.int t]/\n<=10/\L.Perm (Fc n)/\0<=p/\p<n/\(t=1\/t = -1)/\R (Kh L (kY p t f))
def Gf(a:List (List Int))(w:List Int):Int:=(a.countP λc=>sub w c:Nat)
def Um:PF:=λb R=>∃(h:Int) (a:List (List Int)),b=[.int h,.list (a.map Bf)]/\0<=h/\h<=10/\(∀c∈a,Dr h c)/\∀L:List (List Int),L.Perm (Fc h.toNat)->Ord L->R (Kh L (Gf a))
theorem Nw{L:List (List Int)}{n:Nat}(p:L.Perm (Fc n)):L.Nodup:=p.nodup_iff.mpr (Sg n)
theorem Nb{L:List (List Int)}{n:Nat}(p:L.Perm (Fc n)){w:List Int}:w∈L↔Dr n w:=p.mem_iff.trans dE
theorem dS{n:Int}{w:List Int}{p:Int}(r:Dr n w)(c:0<=p)(b:p<n):Dr n (Pj (w++[p])):=⟨Vo _,λx a=>by
 rcases Bc.mp (nR.mp a) with z | z
 ·exact r.2 x z
 ·rw[Al.mp z]; exact ⟨c,b⟩⟩
def mt(k:Nat)(w c:List Int):Bool:=sub w c && c.all λi=>decide (i∈w\/i<k)
theorem Wu{k:Nat}{w c:List Int}:mt k w c=true↔(∀i∈w,i∈c)/\∀i∈c,i∈w\/i<k:=by
 unfold mt
 rw[Ec,Sr,Tt]
 simp
theorem Vw{b:Type}{p q r:b->Bool}(h:∀a,(p a=true↔q a=true\/r a=true)/\¬ (q a=true/\r a=true)):∀l:List b,l.countP p=l.countP q+l.countP r
 | []=>rfl
 | a::l=>by
  obtain ⟨f,c⟩:=h a
  rw[Tr,Tr,Tr,Vw h l]
  cases g:p a <;> cases e:q a <;> cases d:r a <;> simp_all <;> omega
theorem FM{k:Nat}{w c:List Int}(h:(k:Int)∈w):mt (k+1) w c=mt k w c:=by
 rw[Pw,Wu,Wu]
 refine and_congr_right λ_=>forall_congr' λi=>imp_congr_right λa=>?_
 constructor
 ·rintro (z | z)
  ·exact .inl z
  ·by_cases e:i=k
   ·exact .inl (e▸h)
   ·exact .inr (by omega)
 ·rintro (z | z)
  ·exact .inl z
  ·exact .inr (by omega)
theorem vO{w:List Int}{p i:Int}:i∈Pj (w++[p])↔i∈w\/i=p:=by
 rw[nR,Bc,Al]
theorem CS{k:Nat}{w c:List Int}(h:(k:Int)∉w):(mt (k+1) w c=true↔mt k w c=true\/mt k (Pj (w++[(k:Int)])) c=true)/\¬ (mt k w c=true/\mt k (Pj (w++[(k:Int)])) c=true):=by
 rw[Wu,Wu,Wu]
 simp only[vO]
 constructor
 ·constructor
  ·rintro ⟨d,b⟩
   by_cases f:(k:Int)∈c
   ·refine .inr ⟨λi a=>?_,λi a=>?_⟩
    ·rcases a with a | rfl
     ·exact d i a
     ·exact f
    ·rcases b i a with z | z
     ·exact .inl (.inl z)
     ·by_cases e:i=k
      ·exact .inl (.inr e)
      ·exact .inr (by omega)
   ·refine .inl ⟨d,λi a=>?_⟩
    rcases b i a with z | z
    ·exact .inl z
    ·refine .inr ?_
     have : i≠k:=by rintro rfl; exact f a
     omega
  ·rintro (⟨d,b⟩ | ⟨d,b⟩)
   ·refine ⟨d,λi a=>(b i a).imp id λz=>by omega⟩
   ·refine ⟨λi a=>d i (.inl a),λi a=>?_⟩
    rcases b i a with (z | z) | z
    ·exact .inl z
    ·exact .inr (by omega)
    ·exact .inr (by omega)
 ·(intro g; obtain ⟨⟨d,b⟩,⟨j,l⟩⟩ := g)
  rcases b k (j k (.inr rfl)) with z | z
  ·exact h z
  ·omega
def Zo(a:List (List Int))(k:Nat)(w:List Int):Int:=(a.countP (mt k w):Nat)
theorem U8(a:List (List Int))(k:Nat)(w:List Int):kY k 1 (Zo a k) w=Zo a (k+1) w:=by
 unfold kY Zo
 split
 ·rename_i h
  congr 2
  funext c
  exact (FM h).symm
 ·rename_i h
  rw[Vw (q:=mt k w) (r:=mt k (Pj (w++[(k:Int)]))) (λc=>CS (c:=c) h) a]
  omega
theorem W7{a:List (List Int)}{n:Nat}(hd:∀c∈a,Dr n c)(w:List Int):Zo a n w=Gf a w:=by
 unfold Zo Gf
 congr 1
 refine Nl λc b=>?_
 rw[Wu,Sr]
 exact ⟨λh=>h.1,λh=>⟨h,λi d=>.inr ((hd c b).2 i d).2⟩⟩
theorem Vp{n m:Int}{a b:List Int}(c:Dr n a)(hb:Dr m b)(h:∀i,i∈a↔i∈b):a=b:=by
 have p:a.Perm b:=(List.perm_ext_iff_of_nodup (eV c) (eV hb)).mpr h
 exact p.eq_of_pairwise (λx y _ _ e d=>by omega) c.1 hb.1
def Nx(a:List (List Int))(w:List Int):Int:=(a.count w:Nat)
theorem O6{a:List (List Int)}{n:Nat}(hd:∀c∈a,Dr n c){w:List Int}(hw:Dr n w):Zo a 0 w=Nx a w:=by
 unfold Zo Nx
 congr 1
 rw[List.count_eq_countP]
 refine Nl λc b=>?_
 rw[Wu,beq_iff_eq]
 constructor
 ·rintro ⟨f,e⟩
  refine Vp (hd c b) hw λi=>⟨λd=>?_,f i⟩
  rcases e i d with z | z
  ·exact z
  ·have:=(hd c b).2 i d
   omega
 ·rintro rfl
  exact ⟨λ_ h=>h,λ_ h=>.inl h⟩
theorem aF{L:List (List Int)}{f g:List Int->Int}(h:∀w∈L,f w=g w):Kh L f=Kh L g:=by
 unfold Kh
 rw[Pz h]
def Lk(Q:List Int)(f:List Int->Int):List Int->Int:=Q.foldl (λf q=>kY q (-1) f) f
theorem iH(Q:List Int)(q:Int)(f:List Int->Int):Lk (Q++[q]) f=kY q (-1) (Lk Q f):=by
 unfold Lk
 rw[bW]
 rfl
def dY:PF:=λa R=>∃(n:Nat) (L:List (List Int)) (f:List Int->Int) (Q:List Int),a=[nX L,Kh L f,Bf Q]/\n<=10/\L.Perm (Fc n)/\(∀q∈Q,0<=q/\q<n)/\R (Kh L (Lk Q f))
def p8:PF:=λa R=>∃(h:Int) (L:List (List Int)) (f:List Int->Int) (w Q:List Int),a=[.int h,Kh L f,Bf w,Bf Q]/\0<=h/\h<=10/\L.Perm (Fc h.toNat)/\Ord L/\Dr h w/\(∀q∈Q,0<=q/\q<h)/\R (.int (Lk Q f w))
def jm(Q w c:List Int):Bool:=sub w c && c.all λi=>decide (i∈w\/i∉Q)
theorem Up{Q w c:List Int}:jm Q w c=true↔(∀i∈w,i∈c)/\∀i∈c,i∈w\/i∉Q:=by
 unfold jm
 rw[Ec,Sr,Tt]
 simp
def rV(a:List (List Int))(Q w:List Int):Int:=(a.countP (jm Q w):Nat)
theorem BG{Q w:List Int}{q:Int}(hw:q∉w)(f:q∉Q)(c:List Int):(jm Q w c=true↔jm (Q++[q]) w c=true\/jm Q (Pj (w++[q])) c=true)/\¬ (jm (Q++[q]) w c=true/\jm Q (Pj (w++[q])) c=true):=by
 rw[Up,Up,Up]
 simp only[vO,Bc,Al,not_or]
 constructor
 ·constructor
  ·rintro ⟨d,b⟩
   by_cases e:q∈c
   ·refine .inr ⟨λi a=>?_,λi a=>(b i a).imp .inl id⟩
    rcases a with a | rfl
    ·exact d i a
    ·exact e
   ·refine .inl ⟨d,λi a=>(b i a).imp id λz=>⟨z,?_⟩⟩
    rintro rfl
    exact e a
  ·rintro (⟨d,b⟩ | ⟨d,b⟩)
   ·exact ⟨d,λi a=>(b i a).imp id And.left⟩
   ·refine ⟨λi a=>d i (.inl a),λi a=>?_⟩
    rcases b i a with (z | rfl) | z
    ·exact .inl z
    ·exact .inr f
    ·exact .inr z
 ·(intro g; obtain ⟨⟨d,b⟩,⟨h,j⟩⟩ := g)
  rcases b q (h q (.inr rfl)) with z | z
  ·exact hw z
  ·exact z.2 rfl
theorem GQ{Q w c:List Int}{q:Int}(hw:q∈w):jm (Q++[q]) w c=jm Q w c:=by
 rw[Pw,Up,Up]
 simp only[Bc,Al,not_or]
 refine and_congr_right λ_=>forall_congr' λi=>imp_congr_right λa=>?_
 constructor
 ·rintro (z | z)
  ·exact .inl z
  ·exact .inr z.1
 ·rintro (z | z)
  ·exact .inl z
  ·by_cases e:i=q
   ·exact .inl (e▸hw)
   ·exact .inr ⟨z,e⟩
theorem pG(a:List (List Int)):∀(k:Nat) (Q:List Int),Q.length=k->Q.Nodup->∀w,Lk Q (Gf a) w=rV a Q w:=by
 intro k
 induction k with
 | zero =>
  intro Q d _ w
  obtain rfl:=Ms.mp d
  show Gf a w=rV a [] w
  unfold Gf rV
  congr 1
  refine Nl λc _=>?_
  rw[Up,Sr]
  simp
 | succ k f =>
  intro Q d nd w
  have e:Q≠[]:=λz=>by rw[z] at d; cases d
  obtain ⟨b,q,rfl⟩ : ∃b q,Q=b++[q]:=⟨Q.dropLast,Q.getLast e,(Hr e).symm⟩
  obtain ⟨j,l,g⟩:=Hm.mp nd
  have i:q∉b:=λz=>g q z q (Al.mpr rfl) rfl
  have f:=f b (by simpa using d) j
  rw[iH]
  unfold kY
  rw[f,f]
  unfold rV
  split
  ·rename_i h
   congr 2
   funext c
   exact (GQ h).symm
  ·rename_i h
   have:=Vw (p:=jm b w) (q:=jm (b++[q]) w) (r:=jm b (Pj (w++[q]))) (BG h i) a
   omega
end DL
namespace DL
open PySem PySem.Spec PyProof.Rows L2 Nd
theorem nY:∀(L:List (List Int)) (es:List Af) (a:List (List Int×Af)),L.length=es.length->L.Nodup->(∀w∈L,∀p∈a,p.1≠w)->Tf a (L.zip es)=a++L.zip es
 | [],es,a,_,_,_=>by simp [Tf]
 | w::L,[],a,h,_,_=>by cases h
 | w::L,e::es,a,h,nd,hn=>by
  have c:Ut a w e=a++[(w,e)]:=by
   unfold Ut
   rw[if_neg]
   rw[List.any_eq_true]
   (intro f; obtain ⟨p,c,z⟩ := f)
   exact hn w Ab p c (of_decide_eq_true z)
  have b:=Cm.mp nd
  show Tf (Ut a w e) (L.zip es)=_
  rw[c,nY L es _ (Nat.succ.inj h) b.2 λv d p c=>?_]
  ·rw[Bw]; rfl
  ·rcases Bc.mp c with z | z
   ·exact hn v (Ac _ d) p z
   ·rw[Al.mp z]
    rintro rfl
    exact b.1 d
theorem wZ(n:Nat):Ky (n+1)=Ky n++[(n:Int)]:=by
 unfold Ky
 rw[List.range_succ,Bn]
 rfl
end DL
namespace DRow
open PySem L2 Nd DL
abbrev Cd:=List Int
def Tn(w u:List Int):Bool:=w.all λi=>decide (i∈u)
def Ym(c:Cd->List Int)(a:List Cd)(ns:List Int):List Cd:=a.filter λr=>Tn ns (c r)
def eO(c:Cd->List Int)(a:List Cd)(ns:List Int):List Cd:=a.filter λr=>!Tn ns (c r)
def HB(c:Cd->List Int)(a:List Cd)(p:List Int×Bool):List Cd:=if p.2=true then eO c a p.1++Ym c a p.1 else Ym c a p.1++eO c a p.1
def Z8(c:Cd->List Int)(a:List Cd)(ps:List (List Int×Bool)):List Cd:=ps.foldl (HB c) a
def T5(a b:List Int)(ps:List (List Int×Bool)):Option Bool:=ps.foldl (λst p=>if Tn p.1 a=Tn p.1 b then st else some (Tn p.1 a == !p.2)) none
theorem Q6(a b:List Int)(ps:List (List Int×Bool))(p:List Int×Bool):T5 a b (ps++[p])=if Tn p.1 a=Tn p.1 b then T5 a b ps else some (Tn p.1 a == !p.2):=by
 unfold T5
 rw[bW]
 rfl
def dZ(ps:List (List Int×Bool))(n:List Int):List Int:=ps.reverse.map λp=>if Tn p.1 n=p.2 then 1 else 0
theorem iF(ps:List (List Int×Bool))(p:List Int×Bool)(n:List Int):dZ (ps++[p]) n=(if Tn p.1 n=p.2 then 1 else 0)::dZ ps n:=by
 unfold dZ
 rw[List.reverse_append,Bn]
 rfl
theorem L1{a:Type}{P:List a->Prop}(h0:P [])(h1:∀l x,P l->P (l++[x]))(l:List a):P l:=by
 have : ∀m:List a,P m.reverse:=λm=>by
  induction m with
  | nil=>exact h0
  | cons x m b=>rw[List.reverse_cons]; exact h1 _ _ b
 have:=this l.reverse
 rwa [List.reverse_reverse] at this
theorem u9(a b:List Int)(ps:List (List Int×Bool)):(T5 a b ps=none↔dZ ps a=dZ ps b)/\(T5 a b ps=some true↔HT.lexLt (dZ ps a) (dZ ps b)=true):=by
 induction ps using L1 with
 | h0=>exact ⟨⟨λ_=>rfl,λ_=>rfl⟩,⟨λh=>(by cases h),λh=>(by cases h)⟩⟩
 | h1 l p c =>
  rw[Q6,iF,iF,HT.lexLt_cons]
  by_cases h:Tn p.1 a=Tn p.1 b
  ·rw[if_pos h,h,if_pos rfl]
   refine ⟨c.1.trans ⟨λe=>by rw[e],λe=>(Hs e).2⟩,c.2⟩
  ·rw[if_neg h]
   cases h1:Tn p.1 a <;> cases d:Tn p.1 b <;> cases f:p.2 <;> rw[h1,d] at h <;> first | exact absurd rfl h | simp
theorem Rr(x y:List Int)(ps:List (List Int×Bool)):T5 x y ps=some false↔(¬ dZ ps x=dZ ps y/\¬ HT.lexLt (dZ ps x) (dZ ps y)=true):=by
 rw[<- (u9 x y ps).1,<- (u9 x y ps).2]
 cases T5 x y ps with
 | none=>simp
 | some b=>cases b <;> simp
def two(x y:Cd):Cd->Bool:=λr=>decide (r=x) || decide (r=y)
abbrev Ps:=List Int×Bool
def uH(p:Ps):Af:=.tuple [Bf p.1,.str (j8 p.2)]
instance {p:Ps}:Im (uH p):=⟨(inferInstance:Im (.tuple [Bf p.1,.str (j8 p.2)])).h⟩
instance {p:Ps}:Dp (uH p) 2:=⟨(inferInstance:Dp (.tuple [Bf p.1,.str (j8 p.2)]) _).h⟩
instance {α:Type} {f:α->Af} {l:List α} {lo hi:Option Int} [h:∀a,Im (f a)]:ImA (Mi (l.map f) lo hi):=⟨by rw[Ug]; exact MX⟩
theorem mU{b:Type}(xs:List b)(lo a:Option Int):(Mi xs lo a).length<=xs.length:=(Yp xs lo a).length_le
theorem xM{a:Type}(xs:List a)(k:Nat):Mi xs (some (k:Int)) none=xs.drop k:=by
 unfold Mi
 rw[HT.sIx_none,HT.sIx_nat]
 by_cases h:k<=xs.length
 ·rw[Nat.min_eq_left h,Gs (by rw[Lm]; exact Aj _)]
 ·rw[fR (by omega),tU (by omega),tU (by omega),List.take_nil]
theorem P0{a:Type}(xs:List a)(k:Nat):Mi xs none (some (k:Int))++Mi xs (some ((k:Int)+1)) none=xs.eraseIdx k:=by
 rw[aR,show ((k:Int)+1)=((k+1:Nat):Int) by omega,xM,cM]
def rW:PF:=λa R=>∃(L:List (List Int)) (w:List Int),a=[.list (L.map Bf),Bf w]/\L.length<=1000/\R (.tuple [.list ((Ym id L w).map Bf),.list ((eO id L w).map Bf)])
def vP:PF:=λe R=>∃(L:List (List Int)) (c d:List Ps),e=[.list (L.map Bf),.list (c.map uH),.list (d.map uH)]/\L.length<=1000/\L.Nodup/\(Z8 id L c=Z8 id L d->R (.list []))/\∀a b,a∈L->b∈L->T5 a b c≠T5 a b d->R (.list [Bf a,Bf b])
end DRow
namespace DL
open PySem PySem.Spec PyProof.Rows L2 Nd DRow
theorem Yb{g j:Type}{f:g->j}:∀{l:List g},l.Nodup->(∀a∈l,∀b∈l,f a=f b->a=b)->(l.map f).Nodup
 | [],_,_=>Ep
 | x::l,nd,h=>by
  have c:=Cm.mp nd
  rw[Ap,List.nodup_cons]
  refine ⟨λz=>?_,Yb c.2 λa k b i=>h a (Ac _ k) b (Ac _ i)⟩
  obtain ⟨y,d,e⟩:=Dd.mp z
  have:=h y (Ac _ d) x Ab e
  rw[this] at d
  exact c.1 d
theorem vK(h:Nat):(Ky h).Nodup:=Yb List.nodup_range λa _ b _ e=>by have : (a:Int)=b:=e; omega
theorem E4{d:List (List Int)}{h:Nat}(hd:∀c∈d,Dr (h:Int) c){w:List Int}(hw:Dr (h:Int) w):Lk (Ky h) (Gf d) w=Nx d w:=by
 rw[pG d h (Ky h) (by unfold Ky; rw[Ad,Cq]) (vK h)]
 unfold rV Nx
 rw[List.count_eq_countP]
 congr 1
 refine Nl λc f=>?_
 rw[Up,beq_iff_eq]
 constructor
 ·rintro ⟨a,b⟩
  refine (Vp hw (hd c f) λi=>⟨a i,λe=>?_⟩).symm
  rcases b i e with z | z
  ·exact z
  ·refine absurd ?_ z
   have:=(hd c f).2 i e
   unfold Ky
   exact Dd.mpr ⟨i.toNat,Fw.mpr (by omega),by omega⟩
 ·rintro rfl
  exact ⟨λi e=>e,λi e=>.inl e⟩
def On(L:List (List Int))(c:List Int->Int):List (List Int):=L.flatMap λw=>By (c w).toNat w
theorem iI{L:List (List Int)}{c:List Int->Int}(h:Nd.Ord L):Nd.Ord (On L c):=by
 unfold Nd.Ord On
 rw[List.pairwise_flatMap]
 refine ⟨λa _=>?_,h.imp λ{a b} d x e y f=>?_⟩
 ·refine List.pairwise_iff_forall_sublist.mpr λ{x y} g=>?_
  have e:=Mc (g.subset Ab)
  have f:=Mc (g.subset (Ac _ Ab))
  rw[e,f]
  exact Ts.lex_irr a
 ·rw[Mc e,Mc f]
  exact d
theorem aX{c:List Int->Int}{w:List Int}:∀{L:List (List Int)},L.Nodup->(On L c).count w=if w∈L then (c w).toNat else 0
 | [],_=>rfl
 | v::L,nd=>by
  have a:=Cm.mp nd
  unfold On
  rw[Nj,List.count_append]
  have b:=aX (c:=c) (w:=w) a.2
  unfold On at b
  rw[b,List.count_replicate]
  by_cases e:v=w
  ·subst e
   simp [a.1]
  ·have f:¬ w=v:=λz=>e z.symm
   have d:(v == w)=false:=beq_eq_false_iff_ne.mpr e
   simp [d,f]
theorem dR{L a:List (List Int)}{h:Nat}(b:L.Perm (Fc h))(hd:∀c∈a,Dr (h:Int) c):(On L (Nx a)).Perm a:=by
 rw[List.perm_iff_count]
 intro w
 rw[aX (Nw b)]
 split
 ·unfold Nx; omega
 ·rename_i n
  refine (List.count_eq_zero.mpr λz=>n ((Nb b).mpr (hd w z))).symm
theorem U2(L:List (List Int))(c:List Int->Int):(L.flatMap λw=>By (c w).toNat (Bf w))=(On L c).map Bf:=by
 unfold On
 rw[List.map_flatMap]
 congr 1
 funext w
 rw[List.map_replicate]
theorem K8{a b:List (List Int)}(p:a.Perm b):Gf a=Gf b:=by
 funext w
 unfold Gf
 rw[p.countP_eq]
theorem vZ(a b:List (List Int)):Gf (a++b)=λw=>Gf a w+Gf b w:=by
 funext w
 unfold Gf
 rw[aU]
 omega
theorem yI{L:List (List Int)}(b:Nd.Ord L)(h:[]∈L):L[0]? = some []:=by
 match L,h with
 | a::L,h =>
  rcases Ak.mp h with e | e
  ·rw[<- e]; rfl
  ·have:=(Bd.mp b).1 [] e
   match a,this with
   | [],_=>rfl
   | x::xs,z=>exact absurd z (by rw[HT.lexLt_nil_cons]; decide)
theorem cnt_nil(a:List (List Int)):Gf a []=(a.length:Int):=by
 unfold Gf
 rw[wH.mpr λc _=>Sr.mpr λi b=>by cases b]
theorem oA(a:List (List Int))(w:List Int):((Ym id a w).length:Int)=Gf a w:=by
 unfold Gf Ym
 rw[List.countP_eq_length_filter]
 rfl
def Pi:List Int->Nat->List Int
 | [],_=>[]
 | x::xs,p=>(if p % 2=1 then [x] else [])++Pi xs (p / 2)
def Uc(c:List Int):List Int->Nat
 | []=>0
 | x::xs=>(if x∈c then 1 else 0)+2 * Uc c xs
theorem Ul:∀(xs:List Int) (p:Nat),(Pi xs p).Sublist xs
 | [],_=>Co _
 | x::xs,p=>by
  show ((if p % 2=1 then [x] else [])++Pi xs (p / 2)).Sublist (x::xs)
  split
  ·exact (Ul xs (p / 2)).cons₂ x
  ·exact (Ul xs (p / 2)).cons x
theorem qA(c:List Int):∀xs:List Int,Uc c xs<2 ^ xs.length
 | []=>by show 0<1; omega
 | x::xs=>by
  have:=qA c xs
  show (if x∈c then 1 else 0)+2 * Uc c xs<2 ^ (xs.length+1)
  rw[Vz]
  split <;> omega
theorem iO{c:List Int}:∀{xs:List Int} {p:Nat},xs.Nodup->p<2 ^ xs.length->((∀x∈xs,(x∈c↔x∈Pi xs p))↔Uc c xs=p)
 | [],p,_,h=>by
  have : p<1:=h
  exact ⟨λ_=>by show 0=p; omega,λ_ x n=>(nomatch n)⟩
 | x::xs,p,nd,h=>by
  have d:=Cm.mp nd
  have j:p / 2<2 ^ xs.length:=by
   have : p<2 ^ (xs.length+1):=h
   rw[Vz] at this
   omega
  have g:=iO (c:=c) d.2 j
  have l:x∉Pi xs (p / 2):=λz=>d.1 ((Ul xs _).subset z)
  have f:x∈Pi (x::xs) p↔p % 2=1:=by
   show x∈(if p % 2=1 then [x] else [])++Pi xs (p / 2)↔_
   split
   ·rename_i z; simp [z]
   ·rename_i z; simp [z,l]
  have i:∀y∈xs,(y∈Pi (x::xs) p↔y∈Pi xs (p / 2)):=λy hy=>by
   have k:y≠x:=by rintro rfl; exact d.1 hy
   show y∈(if p % 2=1 then [x] else [])++Pi xs (p / 2)↔_
   split <;> simp [k]
  have m:Uc c (x::xs)=(if x∈c then 1 else 0)+2 * Uc c xs:=rfl
  rw[m]
  constructor
  ·intro e
   have a:=(e x Ab).trans f
   have b:=g.mp λy hy=>(e y (Ac _ hy)).trans (i y hy)
   rw[b]
   by_cases z:x∈c
   ·rw[if_pos z]; have:=a.mp z; omega
   ·rw[if_neg z]; have : ¬ p % 2=1:=λq=>z (a.mpr q); omega
  ·intro e y hy
   have b:Uc c xs=p / 2:=by split at e <;> omega
   rcases Ak.mp hy with rfl | hy
   ·rw[f]
    by_cases z:y∈c
    ·rw[if_pos z] at e; exact ⟨λ_=>by omega,λ_=>z⟩
    ·rw[if_neg z] at e; exact ⟨λq=>absurd q z,λ_=>by omega⟩
   ·rw[i y hy]
    exact g.mpr b y hy
theorem N8{d c:List Int}{p:Nat}(nd:d.Nodup)(j:p<2 ^ d.length):jm (d.filter λi=>decide (i∉Pi d p)) (Pi d p) c=true↔Uc c d=p:=by
 rw[Up,<- iO nd j]
 constructor
 ·rintro ⟨a,b⟩ x g
  refine ⟨λh=>?_,a x⟩
  rcases b x h with z | z
  ·exact z
  ·by_cases q:x∈Pi d p
   ·exact q
   ·exact absurd (Iw.mpr ⟨g,decide_eq_true q⟩) z
 ·intro f
  refine ⟨λi e=>(f i ((Ul _ _).subset e)).mpr e,λi e=>?_⟩
  by_cases q:i∈d
  ·exact .inl ((f i q).mp e)
  ·exact .inr λz=>q (Iw.mp z).1
theorem mR(p:Nat):∀(xs:List Int) (k:Nat),(((xs.zipIdx k).filter λq=>decide (p / 2 ^ q.2 % 2=1)).map (·.1))=Pi xs (p / 2 ^ k)
 | [],k=>rfl
 | x::xs,k=>by
  have a:=mR p xs (k+1)
  rw[Ll,List.filter_cons]
  show _=(if p / 2 ^ k % 2=1 then [x] else [])++Pi xs (p / 2 ^ k / 2)
  rw[Nat.div_div_eq_div_mul,<- Vz,<- a]
  by_cases z:p / 2 ^ k % 2=1
  ·rw[if_pos (by exact decide_eq_true z),if_pos z]; rfl
  ·rw[if_neg (by rw[decide_eq_false z]; decide),if_neg z]; rfl
def pM(a:List (List Int))(xs:List Int)(i:Nat):Int:=(a.countP λc=>decide (Uc c xs<i):Nat)
theorem wN{a:List (List Int)}{xs:List Int}{i:Nat}(nd:xs.Nodup)(b:i<2 ^ xs.length):pM a xs (i+1)=pM a xs i+rV a (xs.filter λj=>decide (j∉Pi xs i)) (Pi xs i):=by
 unfold pM rV
 have:=Vw (p:=λc=>decide (Uc c xs<i+1)) (q:=λc=>decide (Uc c xs<i)) (r:=jm (xs.filter λj=>decide (j∉Pi xs i)) (Pi xs i)) (λc=>by
  rw[N8 nd b]
  simp only[decide_eq_true_eq]
  omega) a
 omega
theorem Zv{a:List (List Int)}{xs:List Int}{i:Nat}(b:2 ^ xs.length<=i):pM a xs i=(a.length:Int):=by
 unfold pM
 rw[wH.mpr λc _=>by have:=qA c xs; exact decide_eq_true (by omega)]
def lD(T:List Int)(i:Int):Int:=T.getD i.toNat 0
def bO(T w:List Int):List Int:=fA (w.map (lD T))
structure Pm(h:Nat)(T:List Int):Prop where
 len:T.length=h
 perm:T.Perm (Ky h)
theorem Pm.ran{h:Nat}{T:List Int}(p:Pm h T){i:Int}(h0:0<=i)(h1:i<h):0<=lD T i/\lD T i<h/\T[i.toNat]? = some (lD T i):=by
 have l:=p.len
 have e:T[i.toNat]? = some (T[i.toNat]'(by omega)):=Bt _
 have b:lD T i=T[i.toNat]'(by omega):=by unfold lD; rw[Qy,e]; rfl
 have m:T[i.toNat]'(by omega)∈Ky h:=p.perm.mem_iff.mp (fL _)
 obtain ⟨k,a,c⟩:=Dd.mp m
 have:=Fw.mp a
 rw[b]
 exact ⟨by omega,by omega,e⟩
theorem Pm.nd{h:Nat}{T:List Int}(p:Pm h T):T.Nodup:=p.perm.nodup_iff.mpr (vK h)
theorem Pm.inj{h:Nat}{T:List Int}(p:Pm h T){i j:Int}(i0:0<=i)(f:i<h)(d:0<=j)(c:j<h)(e:lD T i=lD T j):i=j:=by
 obtain ⟨_,_,a⟩:=p.ran i0 f
 obtain ⟨_,_,b⟩:=p.ran d c
 rw[e] at a
 have l:=p.len
 have:=(bV (i:=i.toNat) (j:=j.toNat) (by omega) p.nd).mp (a.trans b.symm)
 omega
theorem Pm.sur{h:Nat}{T:List Int}(p:Pm h T){j:Int}(b:0<=j)(c:j<h):∃i,0<=i/\i<(h:Int)/\lD T i=j:=by
 have m:j∈T:=p.perm.mem_iff.mpr (by unfold Ky; exact Dd.mpr ⟨j.toNat,Fw.mpr (by omega),by omega⟩)
 obtain ⟨k,a,e⟩:=Gg.mp m
 have l:=p.len
 refine ⟨k,by omega,by omega,?_⟩
 unfold lD
 rw[Qy,Ed,Bt a,e]
 rfl
theorem BK{T w:List Int}{x:Int}:x∈bO T w↔∃i∈w,lD T i=x:=by
 unfold bO
 rw[(Pq _).mem_iff,List.mem_map]
theorem Pm.word{h:Nat}{T w:List Int}(p:Pm h T)(hw:Dr (h:Int) w):Dr (h:Int) (bO T w):=by
 have nd:(bO T w).Nodup:=(Pq _).nodup_iff.mpr (Yb (eV hw) λa k b f e=>by
  have c:=hw.2 a k
  have d:=hw.2 b f
  exact p.inj c.1 c.2 d.1 d.2 e)
 refine ⟨?_,λx g=>?_⟩
 ·refine ((eM (w.map (lD T))).and nd).imp λ{a b} z=>?_
  have:=z.1
  have:=z.2
  omega
 ·obtain ⟨i,j,rfl⟩:=BK.mp g
  have r:=hw.2 i j
  obtain ⟨a,b,_⟩:=p.ran r.1 r.2
  exact ⟨a,b⟩
theorem Pm.back{h:Nat}{T w:List Int}(p:Pm h T)(hw:Dr (h:Int) w):∃v,Dr (h:Int) v/\bO T v=w:=by
 have e:Dr (h:Int) (Ky h):=by
  refine ⟨?_,λx c=>?_⟩
  ·unfold Ky
   rw[List.pairwise_map]
   exact List.pairwise_lt_range.imp λ{a b} z=>by omega
  ·obtain ⟨k,f,rfl⟩:=Dd.mp c
   have:=Fw.mp f
   omega
 have d:Dr (h:Int) ((Ky h).filter λi=>decide (lD T i∈w)):=⟨e.1.sublist List.filter_sublist,λx c=>e.2 x (Iw.mp c).1⟩
 refine ⟨_,d,Vp (p.word d) hw λx=>?_⟩
 rw[BK]
 constructor
 ·(intro j; obtain ⟨i,g,rfl⟩ := j)
  exact of_decide_eq_true (Iw.mp g).2
 ·intro c
  have r:=hw.2 x c
  obtain ⟨i,m,l,rfl⟩:=p.sur r.1 r.2
  exact ⟨i,Iw.mpr ⟨by unfold Ky; exact Dd.mpr ⟨i.toNat,Fw.mpr (by omega),by omega⟩,decide_eq_true c⟩,rfl⟩
theorem Pm.sub{h:Nat}{T w c:List Int}(p:Pm h T)(hw:Dr (h:Int) w)(l:Dr (h:Int) c):DL.sub (bO T w) (bO T c)=DL.sub w c:=by
 rw[Pw,Sr,Sr]
 constructor
 ·intro b i a
  obtain ⟨j,f,e⟩:=BK.mp (b _ (BK.mpr ⟨i,a,rfl⟩))
  have d:=hw.2 i a
  have g:=l.2 j f
  rw[<- p.inj g.1 g.2 d.1 d.2 e]
  exact f
 ·intro b x k
  obtain ⟨i,a,rfl⟩:=BK.mp k
  exact BK.mpr ⟨i,b i a,rfl⟩
theorem Pm.cnt{h:Nat}{T:List Int}(p:Pm h T){a:List (List Int)}(hd:∀c∈a,Dr (h:Int) c){w:List Int}(hw:Dr (h:Int) w):Gf (a.map (bO T)) (bO T w)=Gf a w:=by
 unfold Gf
 rw[List.countP_map]
 congr 1
 refine Nl λc b=>?_
 show DL.sub (bO T w) (bO T c)=true↔_
 rw[p.sub hw (hd c b)]
theorem Pm.wordInj{h:Nat}{T:List Int}(p:Pm h T){v w:List Int}(b:Dr (h:Int) v)(hw:Dr (h:Int) w)(e:bO T v=bO T w):v=w:=by
 have c:=p.sub b hw
 have d:=p.sub hw b
 rw[e] at c
 rw[<- e] at d
 have a:∀x:List Int,DL.sub x x=true:=λx=>Sr.mpr λi f=>f
 rw[a] at c d
 exact Vp b hw λi=>⟨Sr.mp c.symm i,Sr.mp d.symm i⟩
theorem vC{k:List Int->List Int}{f:List Int->Int}{v:List Int}:∀{L:List (List Int)},v∈L->(∀u∈L,k u=k v->u=v)->bP (L.map λu=>(k u,Av (f u))) (k v)=some (.int (f v))
 | [],h,_=>(nomatch h)
 | u::L,h,hi=>by
  unfold bP
  rw[Ap,Iy]
  by_cases e:k u=k v
  ·have:=hi u Ab e
   subst this
   rw[show decide ((k u,Av (f u)).1=k u)=true from decide_eq_true rfl]
   rfl
  ·rw[show decide ((k u,Av (f u)).1=k v)=false from decide_eq_false e]
   have a:=vC (k:=k) (f:=f) (v:=v) (List.mem_of_ne_of_mem (λz=>e (by rw[z])) h) λu b=>hi u (Ac _ b)
   exact a
theorem zW{k:List Int->List Int}{f:List Int->Int}{L:List (List Int)}(nd:(L.map k).Nodup):Tf [] ((L.map k).zip ((L.map f).map Av))=L.map λu=>(k u,Av (f u)):=by
 rw[nY _ _ [] (by rw[Ad,Ad,Ad]) nd λ_ _ p b=>(nomatch b),List.nil_append]
 clear nd
 induction L with
 | nil=>rfl
 | cons u L a=>rw[Ap,Ap,Ap,Ig,a]; rfl
theorem G8{a:List (List Int)}{k:Nat}{c:List Int}(h:a[k]? = some c)(w:List Int):Gf (a.eraseIdx k) w=Gf a w - (if DL.sub w c=true then 1 else 0):=by
 have d:a=a.take k++c::a.drop (k+1):=by
  obtain ⟨f,e⟩:=Ax.mp h
  rw[<- e,List.getElem_cons_drop,Fu]
 have b:a.eraseIdx k=a.take k++a.drop (k+1):=cM ..
 rw[b]
 conv=>rhs; rw[d]
 unfold Gf
 rw[aU,aU,Tr]
 split <;> omega
end DL
namespace K54
open PySem L2 Nd DL
local macro_rules | `(tactic| array_get_dec) => do
  let ids:=(("e_seq e_skip e_ret e_if e_asg e_name e_name2 e_name4 e_own e_nF e_gtup e_gsn e_gsc e_op e_var e_c e_imm e_immB e_take e_I e_I0 e_eqF e_eqT e_inFt_w1 e_inTt_w1 e_ixl e_ixt e_cat e_catT_w1 e_rep e_nlT e_ntT e_pkOfpk e_pkOfsh e_pkOfow e_mdInpk e_mdInsh e_mdInow e_mdItsh e_mdItow e_nil e_cons e_tup e_lst e_noPart e_part e_partB e_sl e_slBl e_slBt_w1 e_cb e_lenl e_lent_w1 e_listl e_tuplel e_intb e_min2 e_all e_sortI e_b e_bB e_notT e_andT e_orT e_orTf e_and e_andt e_ifE e_neg e_negB e_dL e_dTp e_lB e_tpB_w1 e_range1 e_rng1B e_enum e_enumB e_enumT e_enumTB_w1 e_zip e_zipB e_for e_comp e_comp2 e_noTest e_step e_stepT e_yesB e_call e_callW e_draws e_drawsB e_append e_insert e_scrSl e_sortW e_zipD e_zipDB e_dcomp2 e_dcStep e_dcBT e_dcYes e_augX e_dictZ e_dictZB e_compP e_callA e_ssT e_ssTt e_tr e_trB callAB retA retA_sh augIK augIB wd_e dkv_e isLst dget_e lenD_e wordsD callB callBW tupB lstB datas pkMd allOw noPk appB insB own1 npk retE retW retL args0 frD frD1 alD List.map_cons List.map_nil List.replicate List.getElem?_cons_zero List.getElem?_cons_succ List.set_cons_zero List.set_cons_succ List.cons_append List.nil_append Option.map_some List.length_cons List.length_nil List.append_nil rdAdd rdSub rdMul rdDiv rdMod rdLt if_true mdZip Nat.reduceAdd Nat.reduceSub Nat.reduceLeDiff true_and im_e ima_e dp_e dpa_e any_int eqD_intd eqD_li eqD_l0 ow_e tt_e cdiv_e Int.reduceLT Int.reduceLE Int.reduceNeg and_self Int.reduceToNat fold_w Bool.not_true decide_true ifB_lf atI_0 atI_1 some_e" : String).splitOn " ").toArray.map λ(x:String)=>Lean.mkIdent x.toName
  `(tactic| try simp only [$[$ids:ident],*])
section
variable{P:Bk}{w:World}{K:PySem.W.Frag}{mg:Str->Option Value}{base:Heap}
theorem zL:FnScope ["one", "other"] ["one", "other"] (Bv Xx):=⟨rfl,rfl,rfl,by decide +kernel,rfl,by decide +kernel,by decide +kernel⟩
theorem wR{f   : Addr}{t  : Cs}(F:Fun K "within" "within" Xx f t)(e:mg "all" = none):FnOk P w K mg base Hu 1 f t ["one", "other"] (Sv K (FU)):=by
 refine' Lo (k:=0) F zL (λq A m s H E x=>?hb) ?h
 case hb =>
  have n:=x.units
  have r:∀{d:Scope} (h:d={ kind:=.function,names:=[(".0",.local),("place",.local),("other",.free)],isGenerator:=false,isCoroutine:=false }),
    CompScope (Nc Hu P w K mg base ["one", "other"] "within" (Bv Xx) f q A m s H E).nox d [("other",s.heap.objs.size+1)] "place" ["other"] [1]:=by
   rintro d rfl
   refine ⟨by rfl,.inl (by decide +kernel),by rfl,by decide +kernel,.inl rfl,λy c h=>?_,by rfl,by decide +kernel,rfl,λk y j o p=>?_⟩
   ·have z:=Fg h
    simp only[Ak,Az,or_false,Fn] at z
    obtain ⟨rfl,rfl⟩:=z; rfl
   ·match k,o,p with
    | 0,o,p=>cases o; cases p; exact ⟨rfl,rfl,by first | exact .inl rfl | exact .inr rfl⟩
    | k+1,o,p=>cases o
  exact Dt (Gc (Gz (r0 rfl) CU rfl e (by decide +kernel) (An (Nm (r rfl) rfl (EX (Aq (pv 0))) (λ_ _ _=>Jf) (λ_ _ _=>FQ n (Aq (pv 0)) (Aq (pv 1)))) Bb)))
 case h =>
  (intro D R C; obtain ⟨a,b,rfl,u⟩ := C)
  refine ⟨rfl,?_⟩
  array_get_dec
  refine Yi (l:=a) (g:=Av) rfl (λi=>.bool (decide (i∈b))) (λi _ v G B=>?_) ?_
  ·array_get_dec
   exact B
  ·array_get_dec
   refine ⟨a.map λi=>decide (i∈b),by rw[Cr]; rfl,?_⟩
   rw[bY]
   exact u
theorem JT:FnScope ["one", "other"] ["one", "other"] (Bv Se):=⟨rfl,rfl,rfl,by decide +kernel,rfl,by decide +kernel,by decide +kernel⟩
theorem nE{f:Addr}{y:Cs}(F:Fun K "together" "together" Se f y)(S:mg "tuple" = none)(D:mg "sorted" = none)(j:mg "set" = none):FnOk P w K mg base Hu 1 f y ["one", "other"] (X5 K):=by
 refine F.ok JT (λvs H Q E h=>?_) (λG A e s H vs Q E U h=>?_)
 ·obtain ⟨a,b,d,c,rfl,_⟩:=h
  rfl
 obtain ⟨a,b,d,c,rfl,B,M,m,u,q⟩:=h
 refine ⟨_,Vv (Zs (Na Wi rfl S (by decide +kernel) (Hx (eX (r:=uS w) (Ys rfl) rfl D (by decide +kernel) (Hx
  (Ka (r:=LL w) o5 (Na (r:=AR w K) (eQ rfl) rfl j (by decide +kernel) (Hx (pv 0) Og)) (Na (r:=AR w K) (eQ rfl) rfl j (by decide +kernel) (Hx (pv 1) Og))) Og)) Og))),?_⟩
 refine ⟨_,rfl,a,d,EV,rfl,B,(by show EV.length<=62; decide),tZ m,λo L=>?_⟩
 have l:=Ff L (aQ w o d)
 refine ⟨_,rfl,b,c,EV,rfl,To.tup l M,(by show EV.length<=62; decide),tZ u,λn k=>?_⟩
 have v:=Ff k (aQ w n c)
 refine ⟨o,n,d,c,EV,rfl,rfl,Gw Du k,v _ _ Du,Du,(by show EV.length<=62; decide),tZ m,tZ u,λx J=>?_⟩
 have T:=Ff J (aQ w x (d++c))
 refine ⟨x,_,rfl,Du,λN i O nd C g=>?_⟩
 have z:=Ff O (.lst (i.map V.int))
 refine ⟨N,_,rfl,.inl ⟨Mq.of Du,λR t=>?_⟩⟩
 have I:=Ff t (.tup (i.map V.int))
 have p:=((l.trans v).trans (T.trans z))
 exact q R i _ (p.free t) Du nd C g (p.trans I)
theorem mC{f:Addr}{a:Cs}(F:Fun K "together" "together" Se f a)(c:mg "tuple" = none)(b:mg "sorted" = none)(d:mg "set" = none):FnOk P w K mg base Hu 1 f a ["one", "other"] (Sv K B1):=DN (nE F c b d)
theorem kE:FnScope ["holes", "words", "place"] ["holes"] (Bv Qj):=⟨rfl,rfl,rfl,by decide +kernel,rfl,by decide +kernel,by decide +kernel⟩
theorem kQ{f   : Addr}{B  : Cs}(F:Fun K "all_words" "all_words" Qj f B)(e:mg "range" = none)(d:mg "sorted" = none):FnOk P w K mg base Hu 1 f B ["holes"] (Sv K (cF)):=by
 refine' Lo (k:=0) F kE (λt A m s H E I=>?hb) ?h
 case hb =>
  have o:=I.units
  have u:∀{b:Scope} (h:b={ kind:=.function,names:=[(".0",.local),("word",.local),("place",.free)],isGenerator:=false,isCoroutine:=false }),
    CompScope (Nc Hu P w K mg base ["holes", "words", "place"] "all_words" (Bv Qj) f t A m s H E).nox b [("place",s.heap.objs.size+1)] "word" ["place"] [2]:=by
   rintro b rfl
   refine ⟨by rfl,.inl (by decide +kernel),by rfl,by decide +kernel,.inl rfl,λy c h=>?_,by rfl,by decide +kernel,rfl,λk y j q r=>?_⟩
   ·have z:=Fg h
    simp only[Ak,Az,or_false,Fn] at z
    obtain ⟨rfl,rfl⟩:=z; rfl
   ·match k,q,r with
    | 0,q,r=>cases q; cases r; exact ⟨rfl,rfl,by first | exact .inl rfl | exact .inr rfl⟩
    | k+1,q,r=>cases q
  exact Ck (Fi (i:=1) kE.nd rfl (Dq rfl) (Lf (An (Of Bb) Bb)))
   (Ck (Ng Es rfl (Lx rfl e (An (Aq (pv 0)) Bb)) (Jq (i:=2) kE.nd rfl (Zf rfl))
   (Dt (Fi (i:=1) kE.nd rfl (Dq rfl) (Zy (Aq (pv 1)) (Nm (u rfl) rfl (P9 (Aq (pv 1))) (λ_ _ _=>Jf) (λ_ _ _=>lS (Aq (pv 0)) (Of (An (Ue (Aq (pv 1))) Bb))))))))
   (Dt (Gc (Gz (Ts.call_sortedI o) Za rfl d (by decide +kernel) (An (Aq (pv 1)) Bb)))))
 case h =>
  (intro Y R p; obtain ⟨h,rfl,V,C,M⟩ := p)
  refine ⟨rfl,?_⟩
  array_get_dec
  refine ⟨by omega,by omega,?_⟩
  refine aK (l:=Cc h.toNat) (g:=λi:Nat=>.int i) rfl (λi J=>∃v:DV,J=⟨[.dat .sh (.int h),.dat .sh (.list ((Fc i).map Bf)),v],0⟩/\NP v) ?_ ?_ ?_
  ·exact ⟨_,rfl,Mv⟩
  ·(intro i a _ S p; obtain ⟨v,rfl,G⟩ := p)
   obtain ⟨rfl,U⟩:=Ph S
   have W:=Sn (n:=a) (by omega)
   array_get_dec
   refine Yi (l:=Fc a) (g:=Bf) rfl (λw=>Bf (w++[(a:Int)])) (λw Q O X x=>?_) ?_
   ·have T:=Ny a w Q
    array_get_dec
    refine ⟨by rw[Ad]; omega,?_⟩
    unfold Bf at x
    rw[Bn] at x
    exact x
   ·array_get_dec
    refine ⟨by rw[Ad,Ad]; omega,.dat .sh (.int a),Wj ?_ rfl,Ir⟩
    show _=[DV.dat .sh (.int h),.dat .sh (.list ((Fc a++(Fc a).map (·++[(a:Int)])).map Bf)),.dat .sh (.int a)]
    rw[Bn,Cr]
    rfl
  ·(intro _ p; obtain ⟨v,rfl,G⟩ := p)
   rw[Cq]
   array_get_dec
   exact ⟨_,rfl,λL N D=>M L N D⟩
theorem gM:FnScope ["_law_holes", "_law_found", "_law_place"] ["_law_holes"] (Bv Ow):=⟨rfl,rfl,rfl,by decide +kernel,rfl,by decide +kernel,by decide +kernel⟩
theorem fW{f   : Addr}{B  : Cs}(F:Fun K "_law_words" "_law_words" Ow f B)(e:mg "range" = none)(d:mg "sorted" = none):FnOk P w K mg base Hu 1 f B ["_law_holes"] (Sv K (cF)):=by
 refine' Lo (k:=0) F gM (λt A m s H E I=>?hb) ?h
 case hb =>
  have o:=I.units
  have u:∀{b:Scope} (h:b={ kind:=.function,names:=[(".0",.local),("_law_word",.local),("_law_place",.free)],isGenerator:=false,isCoroutine:=false }),
    CompScope (Nc Hu P w K mg base ["_law_holes", "_law_found", "_law_place"] "_law_words" (Bv Ow) f t A m s H E).nox b [("_law_place",s.heap.objs.size+1)] "_law_word" ["_law_place"] [2]:=by
   rintro b rfl
   refine ⟨by rfl,.inl (by decide +kernel),by rfl,by decide +kernel,.inl rfl,λy c h=>?_,by rfl,by decide +kernel,rfl,λk y j q r=>?_⟩
   ·have z:=Fg h
    simp only[Ak,Az,or_false,Fn] at z
    obtain ⟨rfl,rfl⟩:=z; rfl
   ·match k,q,r with
    | 0,q,r=>cases q; cases r; exact ⟨rfl,rfl,by first | exact .inl rfl | exact .inr rfl⟩
    | k+1,q,r=>cases q
  exact Ck (Fi (i:=1) gM.nd rfl (Dq rfl) (Lf (An (Of Bb) Bb)))
   (Ck (Ng Es rfl (Lx rfl e (An (Aq (pv 0)) Bb)) (Jq (i:=2) gM.nd rfl (Zf rfl))
   (Dt (Fi (i:=1) gM.nd rfl (Dq rfl) (Zy (Aq (pv 1)) (Nm (u rfl) rfl (P9 (Aq (pv 1))) (λ_ _ _=>Jf) (λ_ _ _=>lS (Aq (pv 0)) (Of (An (Ue (Aq (pv 1))) Bb))))))))
   (Dt (Gc (Gz (Ts.call_sortedI o) Za rfl d (by decide +kernel) (An (Aq (pv 1)) Bb)))))
 case h =>
  (intro Y R p; obtain ⟨h,rfl,V,C,M⟩ := p)
  refine ⟨rfl,?_⟩
  array_get_dec
  refine ⟨by omega,by omega,?_⟩
  refine aK (l:=Cc h.toNat) (g:=λi:Nat=>.int i) rfl (λi J=>∃v:DV,J=⟨[.dat .sh (.int h),.dat .sh (.list ((Fc i).map Bf)),v],0⟩/\NP v) ?_ ?_ ?_
  ·exact ⟨_,rfl,Mv⟩
  ·(intro i a _ S p; obtain ⟨v,rfl,G⟩ := p)
   obtain ⟨rfl,U⟩:=Ph S
   have W:=Sn (n:=a) (by omega)
   array_get_dec
   refine Yi (l:=Fc a) (g:=Bf) rfl (λw=>Bf (w++[(a:Int)])) (λw Q O X x=>?_) ?_
   ·have T:=Ny a w Q
    array_get_dec
    refine ⟨by rw[Ad]; omega,?_⟩
    unfold Bf at x
    rw[Bn] at x
    exact x
   ·array_get_dec
    refine ⟨by rw[Ad,Ad]; omega,.dat .sh (.int a),Wj ?_ rfl,Ir⟩
    show _=[DV.dat .sh (.int h),.dat .sh (.list ((Fc a++(Fc a).map (·++[(a:Int)])).map Bf)),.dat .sh (.int a)]
    rw[Bn,Cr]
    rfl
  ·(intro _ p; obtain ⟨v,rfl,G⟩ := p)
   rw[Cq]
   array_get_dec
   exact ⟨_,rfl,λL N D=>M L N D⟩
end
def lQ:DF:=λb n R=>∃h:Int,b=[.int h]/\0<h/\h<=60/\n<=90000/\∀a,Dr h a->R (Bf a) (n+1)
def K3:DF:=λb n R=>∃h m:Int,b=[.int h,.int m]/\0<h/\h<=10/\0<=m/\m<=60/\n<=50000/\∀(a:List (List Int)) n',n<=n'->n'<=n+200->a.length<=60->(∀c∈a,Dr h c)->R (.list (a.map Bf)) n'
def Z2:DF:=λa n R=>a=[]/\n<=90000/\∀h:Int,0<h->h<=10->R (.int h) (n+1)
def zX:PF:=λc R=>∃a b:List Int,c=[Bf a,Bf b]/\R (.bool (sub a b))
section
variable{P:Bk}{w:World}{K:PySem.W.Frag}{mg:Str->Option Value}{base:Heap}
theorem gJ:FnScope ["_law_draws_here", "_law_holes", "_law_pick", "_law_told", "_law_place"] ["_law_draws_here", "_law_holes"] (Bv Sf):=⟨rfl,rfl,rfl,by decide +kernel,rfl,by decide +kernel,by decide +kernel⟩
theorem gE{f b  : Addr}{D c:Cs}(F:Fun K "_law_small" "_law_small" Sf f D)(m:FnOk P w K mg base Hu 1 b c ["_law_draws_here"] (cU K Ww))(q:Binds K c ["_law_draws_here"] [])(o:PySem.W.keepIn K (.ref b)=true)(j:mg "_law_next" = some (.ref b))(d:mg "range" = none)(e:mg "tuple" = none):FnOk P w K mg base Hu 2 f D ["_law_draws_here", "_law_holes"] (cU K (lQ)):=by
 refine' Vu (k:=1) F gJ (λJ A B s H E r=>?hb) ?h
 case hb =>
  have z:Room 1 _:=r.mono (by decide)
  have u:=r.units
  exact Ck (Fi (i:=2) gJ.nd rfl (Dq rfl) (Il m z rfl j o q Ft (pv 0) Bb))
   (Ck (Sy (i:=3) gJ.nd rfl (Dq rfl) (Lf Bb))
   (Ck (Ng Es rfl (Lx rfl d (An (Aq (pv 1)) Bb)) (Jq (i:=4) gJ.nd rfl (Dq rfl))
   (Ck (Pg (pF u (Nh (Aq (pv 2)) Dn) Dn)
    (Dt (Vl (pv 3) (Aq (pv 4)))) Mj)
    (Dt (Fi (i:=2) gJ.nd rfl (Dq rfl) (Wp (Aq (pv 2)) Dn)))))
   (Dt (Gc (Je Ri (Ro (i:=true)) rfl e (by decide +kernel) (An (Aq (pv 3)) Bb))))))
 case h =>
  (intro X n R y; obtain ⟨h,rfl,U,V,S,N⟩ := y)
  refine ⟨rfl,?_⟩
  array_get_dec
  refine ⟨rfl,by omega,λQ=>?_⟩
  array_get_dec
  refine ⟨by omega,by omega,?_⟩
  refine aK (l:=Cc h.toNat) (g:=λi:Nat=>.int i) rfl (λi M=>∃(p:Int) (t:List Int) (v:DV),M=⟨[.drw,.dat .sh (.int h),.dat .sh (.int p),.dat .ow (.list (t.map Av)),v],n+1⟩/\Dr i t/\NP v) ?_ ?_ ?_
  ·exact ⟨_,[],_,rfl,Dr.nil _,Mv⟩
  ·(intro i a _ O y; obtain ⟨p,t,v,rfl,r,I⟩ := y)
   obtain ⟨rfl,T⟩:=Ph O
   have G:=yD (eV r) (λx L=>by have:=r.2 x L; omega)
   array_get_dec
   refine eD (λC=>?_) (λC=>?_)
   ·array_get_dec
    refine ⟨by rw[Ad]; omega,?_⟩
    refine ⟨_,t++[(a:Int)],_,Wj (by rw[Bn]; rfl) rfl,r.more (by omega),Ir⟩
   ·array_get_dec
    exact ⟨_,t,_,rfl,r.up (by omega),Ir⟩
  ·(intro _ y; obtain ⟨p,t,v,rfl,r,I⟩ := y)
   rw[Cq] at r
   array_get_dec
   exact ⟨by omega,N t (by rwa [show ((h.toNat:Nat):Int)=h by omega] at r)⟩
theorem oN:FnScope ["_law_draws_here", "_law_pick"] ["_law_draws_here"] (Bv Ws):=⟨rfl,rfl,rfl,by decide +kernel,rfl,by decide +kernel,by decide +kernel⟩
theorem qH{f a  : Addr}{u c:Cs}(F:Fun K "_law_few" "_law_few" Ws f u)(g:FnOk P w K mg base Hu 1 a c ["_law_draws_here"] (cU K Ww))(e:Binds K c ["_law_draws_here"] [])(j:PySem.W.keepIn K (.ref a)=true)(d:mg "_law_next" = some (.ref a))(l:mg "int" = none):FnOk P w K mg base Hu 2 f u ["_law_draws_here"] (cU K (Z2)):=by
 refine' Vu (k:=1) F oN (λv A q s H E r=>?hb) ?h
 case hb =>
  have p:Room 1 _:=r.mono (by decide)
  have m:=r.units
  exact Ck (Fi (i:=1) oN.nd rfl (Dq rfl) (Il g p rfl d j e Ft (pv 0) Bb))
   (Dt (Gc (Mg (Lf (An (Ui Dn (Nh (Wp (Aq (pv 1)) Dn) Dn)) (An (Ui Dn (Nh (Wp (Aq (pv 1)) Dn) Dn)) Bb))) (Je iE G6 rfl l (by decide +kernel) (An (bC m (Nh (Aq (pv 1)) Dn) Dn) Bb)))))
 case h =>
  (intro B n R x; obtain ⟨rfl,y,t⟩ := x)
  refine ⟨rfl,?_⟩
  array_get_dec
  refine ⟨rfl,by omega,λo=>?_⟩
  array_get_dec
  have C:=Xb (o / 4) (b:=6) (by decide)
  have z:=Xb (o / 4) (b:=4) (by decide)
  refine ⟨_,GA _ _ _,by omega,?_⟩
  cases decide (o % 4=1)
  ·exact t _ (by omega) (by omega)
  ·exact t _ (by omega) (by omega)
theorem kX:FnScope ["_law_one", "_law_other"] ["_law_one", "_law_other"] (Bv Qi):=⟨rfl,rfl,rfl,by decide +kernel,rfl,by decide +kernel,by decide +kernel⟩
theorem lW{f   : Addr}{t  : Cs}(F:Fun K "_law_lies" "_law_lies" Qi f t):FnOk P w K mg base Hu 1 f t ["_law_one", "_law_other"] (Sv K (zX)):=by
 refine' Lo (k:=0) F kX (λq A n s H E B=>?hb) ?h
 case hb =>
  have m:=B.units
  have r:∀{d:Scope} (h:d={ kind:=.function,names:=[(".0",.local),("_law_place",.local),("_law_other",.free)],isGenerator:=false,isCoroutine:=false }),
    CompScope (Nc Hu P w K mg base ["_law_one", "_law_other"] "_law_lies" (Bv Qi) f q A n s H E).nox d [("_law_other",s.heap.objs.size+1)] "_law_place" ["_law_other"] [1]:=by
   rintro d rfl
   refine ⟨by rfl,.inl (by decide +kernel),by rfl,by decide +kernel,.inl rfl,λy c h=>?_,by rfl,by decide +kernel,rfl,λk y j o p=>?_⟩
   ·have z:=Fg h
    simp only[Ak,Az,or_false,Fn] at z
    obtain ⟨rfl,rfl⟩:=z; rfl
   ·match k,o,p with
    | 0,o,p=>cases o; cases p; exact ⟨rfl,rfl,by first | exact .inl rfl | exact .inr rfl⟩
    | k+1,o,p=>cases o
  exact Dt (Gc (bC m (Nm (r rfl) rfl (EX (Aq (pv 0))) (λ_ _ _=>lA (mY m (Aq (pv 0)) (Aq (pv 1)))) (λ_ _ _=>Aq (pv 0))) (Lf Bb)))
 case h =>
  (intro G R D; obtain ⟨a,b,rfl,v⟩ := D)
  refine ⟨rfl,?_⟩
  array_get_dec
  refine E8 (l:=a) (g:=Av) rfl (λi=>decide (i∉b)) (λi=>.int i) (λi _ x I C u=>?_) ?_
  ·array_get_dec
   refine jN (λh=>?_) (λh=>?_)
   ·array_get_dec
    exact C (by simpa using h)
   ·exact u (by simpa using h)
  ·array_get_dec
   have e:((a.filter λi=>decide (i∉b)).map Av).isEmpty=sub a b:=by
    rw[Pw,List.isEmpty_iff,List.map_eq_nil_iff]
    exact i7
   rw[e]
   exact v
theorem nB:FnScope ["holes"] ["holes"] (Bv Rz):=⟨rfl,rfl,rfl,by decide +kernel,rfl,by decide +kernel,by decide +kernel⟩
theorem qJ{f a  : Addr}{y b:Cs}(F:Fun K "order_of" "order_of" Rz f y)(e:FnOk P w K mg base Hu 1 a b ["holes"] (Sv K (cF)))(d:Binds K b ["holes"] [])(i:PySem.W.keepIn K (.ref a)=true)(g:mg "all_words" = some (.ref a))(c:mg "enumerate" = none):FnOk P w K mg base Hu 2 f y ["holes"] (Sv K (cJ)):=by
 refine' Lo (k:=1) F nB (λt A m s H E x=>?hb) ?h
 case hb =>
  have q:Room 1 _:=x.mono (by decide)
  have o:=x.units
  have u:∀{j:Scope} (h:j={ kind:=.function,names:=[(".0",.local),("number",.local),("word",.local)],isGenerator:=false,isCoroutine:=false }),
    CompScope (Nc Hu P w K mg base ["holes"] "order_of" (Bv Rz) f t A m s H E).nox j [] "number" [] []:=by
   rintro j rfl
   exact Nd.compScope0 (by rfl) (by decide +kernel) (by rfl) (by decide +kernel) (by rfl) (by rfl)
  exact Dt (Gc (wU o (u rfl) (.inl rfl) (by decide +kernel) rfl (O8 rfl c (An (Fq e q rfl g i d Ft (An (Aq (pv 0)) Bb)) Bb)) (λ_ _ _=>Jf) (λ_ _ _=>Aq (pv 1)) (λ_ _ _=>Aq (pv 0))))
 case h =>
  (intro N R D; obtain ⟨h,rfl,B,r,C⟩ := D)
  refine ⟨rfl,?_⟩
  array_get_dec
  refine ⟨h,rfl,B,r,λL v z=>?_⟩
  have nd:=Nw v
  have J:=(Vq (n:=h.toNat) (by omega) v).1
  array_get_dec
  refine U6 (l:=L.zipIdx) (g1:=λp=>.int p.2) (g2:=λp=>Bf p.1) (by rw[vR,Cr]; rfl) (by rw[Fj]; omega) (λp=>p.1) (λp=>.int p.2) (by rw[List.zipIdx_map_fst]; exact nd) (λp _ G M I=>?_) ?_
  ·array_get_dec
   exact I
  ·array_get_dec
   exact C L v z
theorem yO:FnScope ["numbers", "order", "place", "times"] ["numbers", "order", "place", "times"] (Bv Xq):=⟨rfl,rfl,rfl,by decide +kernel,rfl,by decide +kernel,by decide +kernel⟩
theorem yH{f a  : Addr}{Q b:Cs}(F:Fun K "put_to" "put_to" Xq f Q)(m:FnOk P w K mg base Hu 1 a b ["one", "other"] (Sv K B1))(d:Binds K b ["one", "other"] [])(e:PySem.W.keepIn K (.ref a)=true)(g:mg "together" = some (.ref a))(u:mg "zip" = none):FnOk P w K mg base Hu 2 f Q ["numbers", "order", "place", "times"] (Sv K (vP)):=by
 refine' Lo (k:=1) F yO (λI A B s H E O=>?hb) ?h
 case hb =>
  have G:Room 1 _:=O.mono (by decide)
  have v:=O.units
  have M:∀{o:Scope} (h:o={ kind:=.function,names:=[(".0",.local),("word",.local),("number",.local),("together",.globalImplicit),("numbers",.free),("order",.free),("place",.free),("times",.free)],isGenerator:=false,isCoroutine:=false }),
    CompScope (Nc Hu P w K mg base ["numbers", "order", "place", "times"] "put_to" (Bv Xq) f I A B s H E).nox o [("times",s.heap.objs.size+4),("place",s.heap.objs.size+3),("order",s.heap.objs.size+2),("numbers",s.heap.objs.size+1)] "word" ["numbers", "order", "place", "times"] [0,1,2,3]:=by
   rintro o rfl
   refine ⟨by rfl,.inl (by decide +kernel),by rfl,by decide +kernel,.inl rfl,λy c h=>?_,by rfl,by decide +kernel,rfl,λk y j q r=>?_⟩
   ·have z:=Fg h
    simp only[Ak,Az,or_false,Fn] at z
    rcases z with ⟨rfl,rfl⟩ | ⟨rfl,rfl⟩ | ⟨rfl,rfl⟩ | ⟨rfl,rfl⟩ <;> rfl
   ·match k,q,r with
    | 0,q,r=>cases q; cases r; exact ⟨rfl,rfl,by first | exact .inl rfl | exact .inr rfl⟩
    | 1,q,r=>cases q; cases r; exact ⟨rfl,rfl,by first | exact .inl rfl | exact .inr rfl⟩
    | 2,q,r=>cases q; cases r; exact ⟨rfl,rfl,by first | exact .inl rfl | exact .inr rfl⟩
    | 3,q,r=>cases q; cases r; exact ⟨rfl,rfl,by first | exact .inl rfl | exact .inr rfl⟩
    | k+4,q,r=>cases q
  exact Dt (Gc (eI (M rfl) (.inl rfl) (by decide +kernel) rfl (lY rfl u (An (Aq (pv 1)) (An (Aq (pv 0)) Bb))) (λ_ _ _=>Jf) (λ_ _ _=>DY (GU v (Aq (pv 4)) (Aq (pv 0))) (Aq (pv 1)) (Ui (Aq (pv 1)) (AV (Aq (pv 5)) (Mg (Aq (pv 2)) (cG v (Aq (pv 3)) (Fq m G rfl g e d Ft (An (Aq (pv 0)) (An (Of (An (Ue (Aq (pv 4))) Bb)) Bb))))))))))
 case h =>
  (intro ds R Y; obtain ⟨n,L,f,p,t,rfl,hn,pe,Z,X,S,J⟩ := Y)
  refine ⟨rfl,?_⟩
  have N:=λw=>(Nb (w:=w) pe)
  unfold Kh nX
  array_get_dec
  rw[kS]
  refine jL (l:=L) (g1:=Bf) (g2:=λw=>.int (f w)) rfl (λ_=>true) (λw=>.int (kY p t f w)) (λw hw h0 no C _=>?_) ?_
  ·have C:=C rfl
   have D:=(N w).mp hw
   unfold kY at C
   array_get_dec
   refine IE (λh=>?_) (λh=>?_)
   ·array_get_dec
    rw[if_pos (of_decide_eq_true h)] at C
    exact C
   ·rw[if_neg (of_decide_eq_false h)] at C
    have rp:=dS D Z X
    obtain ⟨i,q,r⟩:=jI ((N _).mpr rp)
    have T:=e8 (f:=f) q
    array_get_dec
    refine ⟨w,[p],rfl,D.up (by omega),⟨Fh _ _,λx U=>by rw[Al.mp U]; omega⟩,?_⟩
    array_get_dec
    refine ⟨_,r,?_⟩
    array_get_dec
    refine ⟨_,T,?_⟩
    have V:R4 t (f (Pj (w++[p]))):=by rcases S with rfl | rfl <;> exact .inl ⟨by decide,by decide⟩
    array_get_dec
    exact ⟨V,C⟩
  ·rw[Qb.mpr λ_ _=>rfl]
   array_get_dec
   unfold Kh at J
   rw[Cr] at J
   exact J
theorem mD:FnScope ["order", "numbers", "places", "told", "place"] ["order", "numbers", "places"] (Bv Uu):=⟨rfl,rfl,rfl,by decide +kernel,rfl,by decide +kernel,by decide +kernel⟩
theorem kU{f a  : Addr}{x b:Cs}(F:Fun K "parted_by" "parted_by" Uu f x)(c:FnOk P w K mg base Hu 2 a b ["numbers", "order", "place", "times"] (Sv K (vP)))(e:Binds K b ["numbers", "order", "place", "times"] [])(d:PySem.W.keepIn K (.ref a)=true)(j:mg "put_to" = some (.ref a)):FnOk P w K mg base Hu 3 f x ["order", "numbers", "places"] (IX K (dY)):=by
 refine' K5 (k:=2) F mD (λD A p s H E t=>?hb) ?h
 case hb =>
  have C:Room 1 _:=t.mono (by decide)
  have r:Room 2 _:=t.mono (by decide)
  have v:=t.units
  exact Ck (Fi (i:=3) mD.nd rfl (Dq rfl) (Aq (pv 1)))
   (Ck (Ng Es rfl (EX (Aq (pv 2))) (Jq (i:=4) mD.nd rfl (Dq rfl))
   (Dt (Fi (i:=3) mD.nd rfl (Dq rfl) (Fq c r rfl j d e Ft (An (Aq (pv 3)) (An (Aq (pv 0)) (An (Aq (pv 4)) (An (CP Dn) Bb))))))))
   (Dt (Gc (Aq (pv 3)))))
 case h =>
  (intro N R m; obtain ⟨n,L,f,Q,rfl,B,M,I,J⟩ := m)
  refine ⟨rfl,?_⟩
  array_get_dec
  refine aK (l:=Q) (g:=Av) rfl (λi G=>∃(o:DV),G=⟨[.dat .sh (nX L),.dat .sh (Kh L f),.dat .sh (Bf Q),.dat .sh (Kh L (Lk (Q.take i) f)),o],0⟩/\NP o) ?_ ?_ ?_
  ·exact ⟨_,rfl,Mv⟩
  ·(intro i q _ y m; obtain ⟨o,rfl,u⟩ := m)
   have z:=I q (Bp y)
   array_get_dec
   refine ⟨n,L,Lk (Q.take i) f,q,-1,rfl,B,M,z.1,z.2,.inr rfl,?_⟩
   try array_get_dec
   refine ⟨.dat .sh (.int q),Wj ?_ rfl,Ir⟩
   rw[Ij y,iH]
  ·(intro _ m; obtain ⟨o,rfl,u⟩ := m)
   rw[Ey]
   array_get_dec
   exact J
theorem xO:FnScope ["holes", "deck", "order", "told", "card", "place"] ["holes", "deck"] (Bv cR):=⟨rfl,rfl,rfl,by decide +kernel,rfl,by decide +kernel,by decide +kernel⟩
theorem xT{f d o  : Addr}{fd p q:Cs}(F:Fun K "counts" "counts" cR f fd)(y:FnOk P w K mg base Hu 2 d p ["holes"] (Sv K (cJ)))(t:Binds K p ["holes"] [])(u:PySem.W.keepIn K (.ref d)=true)(r:mg "order_of" = some (.ref d))(C:FnOk P w K mg base Hu 2 o q ["numbers", "order", "place", "times"] (Sv K (vP)))(I:Binds K q ["numbers", "order", "place", "times"] [])(D:PySem.W.keepIn K (.ref o)=true)(J:mg "put_to" = some (.ref o))(N:mg "len" = none)(B:mg "range" = none):FnOk P w K mg base Hu 3 f fd ["holes", "deck"] (Sv K (Um)):=by
 refine' Lo (k:=2) F xO (λh3 A Z s H E hr=>?hb) ?h
 case hb =>
  have h2:Room 1 _:=hr.mono (by decide)
  have V:Room 2 _:=hr.mono (by decide)
  have T:=hr.units
  exact Ck (Fi (i:=2) xO.nd rfl (Dq rfl) (Fq y V rfl r u t Ft (An (Aq (pv 0)) Bb)))
   (Ck (Sy (i:=3) xO.nd rfl (Dq rfl) (BL (Lf (An Dn Bb)) (Gz yP U3 rfl N (by decide +kernel) (An (Aq (pv 2)) Bb))))
   (Ck (Ng Es rfl (P9 (Aq (pv 1))) (Jq (i:=4) xO.nd rfl (Dq rfl))
   (Dt (N6 (pv 3) (cG T (Aq (pv 2)) (Aq (pv 4))) Dn)))
   (Ck (Ng Es rfl (Lx rfl B (An (Aq (pv 0)) Bb)) (Jq (i:=5) xO.nd rfl (Dq rfl))
   (Dt (Sy (i:=3) xO.nd rfl (Dq rfl) (Fq C V rfl J D I Ft (An (Aq (pv 3)) (An (Aq (pv 2)) (An (Aq (pv 5)) (An Dn Bb))))))))
   (Dt (Gc (cD (pv 3)))))))
 case h =>
  (intro ds R O; obtain ⟨h,b,rfl,h0,Y,hd,hR⟩ := O)
  refine ⟨rfl,?_⟩
  array_get_dec
  refine ⟨h,rfl,h0,Y,λL Q po=>?_⟩
  have nd:=Nw Q
  have ll:=(Vq (n:=h.toNat) (by omega) Q).1
  have en:((h.toNat:Nat):Int)=h:=by omega
  have hm:=λw=>(Nb (w:=w) Q)
  unfold nX
  array_get_dec
  rw[Q5]
  refine ⟨by omega,by omega,by rw[Ed]; omega,?_⟩
  have e0:(By (L.length:Int).toNat [Av 0]).flatten=(L.map (Nx [])).map Av:=by
   rw[Ed]
   clear Q po nd ll hm
   induction L with
   | nil=>rfl
   | cons x L ih=>rw[Bl,Gu,Jb,ih]; rfl
  rw[e0]
  refine aK (l:=b) (g:=Bf) rfl (λi δ=>∃(S M:DV),δ=⟨[.dat .sh (.int h),.dat .sh (.list (b.map Bf)),.dat .sh (.dict (Wk (jZ L))),.dat .ow (.list ((L.map (Nx (b.take i))).map Av)),S,M],0⟩/\NP S/\NP M) ?_ ?_ ?_
  ·exact ⟨_,_,rfl,Mv,Mv⟩
  ·(intro i c _ X O; obtain ⟨S,M,rfl,h1,G⟩ := O)
   have cm:c∈L:=(hm c).mpr (by rw[en]; exact hd c (Bp X))
   obtain ⟨j,e1,e2⟩:=jI cm
   have hj:=(Ax.mp e1).1
   array_get_dec
   refine ⟨_,e2,?_⟩
   array_get_dec
   refine ⟨by omega,Nx (b.take i) c,by rw[Ed,Bg,Bg,e1]; rfl,?_⟩
   refine ⟨by simp [npk,G _],by rw[Ad,Ad]; omega,?_⟩
   refine ⟨.dat .sh (Bf c),M,Wj ?_ rfl,Ir,G⟩
   rw[Ed,Q1 nd e1]
   have e4:(λv=>if v=c then Nx (b.take i) c+1 else Nx (b.take i) v)=Nx (b.take (i+1)):=by
    funext v
    unfold Nx
    rw[Ij X,List.count_append]
    by_cases e:v=c
    ·subst e; simp
    ·have : ¬ c=v:=λz=>e z.symm
     simp [e,this,List.count_singleton]
   rw[e4]
  ·(intro _ O; obtain ⟨S,M,rfl,h1,G⟩ := O)
   have U:∀c∈b,Dr (h.toNat:Int) c:=λc X=>by rw[en]; exact hd c X
   rw[Ey]
   array_get_dec
   refine ⟨by omega,by omega,?_⟩
   refine aK (l:=Cc h.toNat) (g:=λi:Nat=>.int i) rfl (λi δ=>∃(m:Md) (M:DV),δ=⟨[.dat .sh (.int h),.dat .sh (.list (b.map Bf)),.dat .sh (.dict (Wk (jZ L))),.dat .ow (Kh L (Zo b i)),S,M],0⟩/\NP M) ?_ ?_ ?_
   ·refine ⟨.ow,_,Wj ?_ rfl,G⟩
    rw[aF (f:=Zo b 0) (g:=Nx b) λw hw=>O6 U ((hm w).mp hw)]
    rfl
   ·(intro i a _ ha O; obtain ⟨m,M,rfl,G⟩ := O)
    obtain ⟨rfl,hi⟩:=Ph ha
    array_get_dec
    refine ⟨h.toNat,L,Zo b a,a,1,rfl,by omega,Q,by omega,by omega,.inl rfl,?_⟩
    try array_get_dec
    refine ⟨.ow,.dat .sh (.int a),Wj ?_ rfl,Ir⟩
    rw[aF (f:=kY a 1 (Zo b a)) (g:=Zo b (a+1)) λw _=>U8 b a w]
   ·(intro _ O; obtain ⟨m,M,rfl,G⟩ := O)
    rw[Cq]
    array_get_dec
    have:=hR L Q po
    rw[aF (f:=Gf b) (g:=Zo b h.toNat) λw _=>(W7 U w).symm] at this
    exact this
theorem R8:FnScope ["holes", "numbers", "notched", "whole", "order"] ["holes", "numbers", "notched", "whole"] (Bv rD):=⟨rfl,rfl,rfl,by decide +kernel,rfl,by decide +kernel,by decide +kernel⟩
theorem T7{f b a  : Addr}{J d c:Cs}(F:Fun K "just" "just" rD f J)(p:FnOk P w K mg base Hu 2 b d ["holes"] (Sv K (cJ)))(n:Binds K d ["holes"] [])(o:PySem.W.keepIn K (.ref b)=true)(m:mg "order_of" = some (.ref b))(j:FnOk P w K mg base Hu 3 a c ["order", "numbers", "places"] (IX K (dY)))(g:Binds K c ["order", "numbers", "places"] [])(l:PySem.W.keepIn K (.ref a)=true)(e:mg "parted_by" = some (.ref a)):FnOk P w K mg base Hu 4 f J ["holes", "numbers", "notched", "whole"] (Sv K (p8)):=by
 refine' Lo (k:=3) F R8 (λU A v s H E t=>?hb) ?h
 case hb =>
  have M:Room 1 _:=t.mono (by decide)
  have x:Room 2 _:=t.mono (by decide)
  have D:Room 3 _:=t.mono (by decide)
  have r:=t.units
  exact Ck (Fi (i:=4) R8.nd rfl (Dq rfl) (Fq p x rfl m o n Ft (An (Aq (pv 0)) Bb)))
   (Dt (Gc (Ue (Mg (oW j D rfl e l g Ft (An (Aq (pv 4)) (An (Aq (pv 1)) (An (Aq (pv 3)) Bb)))) (cG r (Aq (pv 4)) (Aq (pv 2)))))))
 case h =>
  (intro ds R Z; obtain ⟨h,L,f,w,Q,rfl,V,u,B,T,C,X,Y⟩ := Z)
  refine ⟨rfl,?_⟩
  have I:((h.toNat:Nat):Int)=h:=by omega
  array_get_dec
  refine ⟨h,rfl,V,u,λG z y=>?_⟩
  obtain rfl:G=L:=Km (z.trans B.symm) y T
  array_get_dec
  refine ⟨h.toNat,G,f,Q,rfl,by omega,B,λq O=>by rw[I]; exact X q O,?_⟩
  obtain ⟨i,e1,S⟩:=jI ((Nb B).mpr (by rw[I]; exact C))
  have N:=e8 (f:=Lk Q f) e1
  unfold nX Kh
  array_get_dec
  refine ⟨_,S,?_⟩
  array_get_dec
  refine ⟨_,N,?_⟩
  array_get_dec
  exact Y
theorem lR:FnScope ["_law_draws_here", "_law_holes", "_law_limit", "_law_deck_here", "_law_k", "_law_card", "_law_pick", "_law_place"] ["_law_draws_here", "_law_holes", "_law_limit"] (Bv Tx):=⟨rfl,rfl,rfl,by decide +kernel,rfl,by decide +kernel,by decide +kernel⟩
theorem mG{f o j  : Addr}{fd u p:Cs}(F:Fun K "_law_deck" "_law_deck" Tx f fd)(t:FnOk P w K mg base Hu 1 o u ["_law_draws_here"] (cU K Ww))(y:Binds K u ["_law_draws_here"] [])(v:PySem.W.keepIn K (.ref o)=true)(r:mg "_law_next" = some (.ref o))(C:FnOk P w K mg base Hu 2 j p ["_law_draws_here", "_law_holes"] (cU K (lQ)))(D:Binds K p ["_law_draws_here", "_law_holes"] [])(B:PySem.W.keepIn K (.ref j)=true)(J:mg "_law_small" = some (.ref j))(Q:mg "range" = none)(O:mg "len" = none)(L:mg "sorted" = none)(T:mg "set" = none)(S:mg "tuple" = none):FnOk P w K mg base Hu 3 f fd ["_law_draws_here", "_law_holes", "_law_limit"] (cU K (K3)):=by
 refine' Vu (k:=2) F lR (λk4 A h6 s H E hr=>?hb) ?h
 case hb =>
  have h4:Room 1 _:=hr.mono (by decide)
  have h7:Room 2 _:=hr.mono (by decide)
  have M:=hr.units
  exact Ck (Sy (i:=3) lR.nd rfl (Dq rfl) (Lf Bb))
   (Ck (Ng Es rfl (Lx rfl Q (An (Nh (Il t h4 rfl r v y Ft (pv 0) Bb) (Ui (Aq (pv 2)) Dn)) Bb)) (Jq (i:=4) lR.nd rfl (Dq rfl))
   (Ck (Fi (i:=5) lR.nd rfl (Dq rfl) (Il C h7 rfl J B D Ft (pv 0) (An (Aq (pv 1)) Bb)))
    (Ck (Fi (i:=6) lR.nd rfl (Dq rfl) (Il t h4 rfl r v y Ft (pv 0) Bb))
    (Ck (Pg (EF (G7 (cV M (Aq (pv 3)) (Lf Bb)) (wD (pF M (Nh (Aq (pv 6)) Dn) Dn))))
    (Dt (Fi (i:=5) lR.nd rfl (Dq rfl) (Ue (Mg (Aq (pv 3)) (Nh (Wp (Aq (pv 6)) Dn) (Gz Nv Tz rfl O (by decide +kernel) (An (Aq (pv 3)) Bb))))))) Mj)
    (Ck (Pg (EF (G7 (cV M (Aq (pv 3)) (Lf Bb)) (wD (pF M (Nh (Aq (pv 6)) Dn) Dn))))
    (Ck (Fi (i:=5) lR.nd rfl (Dq rfl) (Ue (Mg (Aq (pv 3)) (Nh (Wp (Aq (pv 6)) Dn) (Gz Nv Tz rfl O (by decide +kernel) (An (Aq (pv 3)) Bb))))))
     (Ck (Fi (i:=7) lR.nd rfl (Dq rfl) (Nh (Wp (Aq (pv 6)) Dn) (Aq (pv 1))))
     (Dt (Fi (i:=5) lR.nd rfl (Dq rfl) (Je Ri (Ro (i:=true)) rfl S (by decide +kernel) (An (CH rfl rfl L rfl T (An (lS (Aq (pv 5)) (Of (An (Ue (Aq (pv 7))) Bb))) Bb)) Bb)))))) Mj)
    (Dt (Vl (pv 3) (Aq (pv 5)))))))))
   (Dt (Gc (cD (pv 3)))))
 case h =>
  (intro ds n R V; obtain ⟨h,m,rfl,h0,h1,m0,m1,hn,hR⟩ := V)
  refine ⟨rfl,?_⟩
  array_get_dec
  refine ⟨rfl,by omega,λr1=>?_⟩
  array_get_dec
  have bm:=Xb r1 (b:=m+1) (by omega)
  refine ⟨by omega,by omega,by omega,?_⟩
  refine aK (l:=Cc (r1 % (m+1)).toNat) (g:=λi:Nat=>.int i) rfl (λi δ=>∃(d:List (List Int)) (v4 v5 v6 U:DV) (n':Nat),δ=⟨[.drw,.dat .sh (.int h),.dat .sh (.int m),.dat .ow (.list (d.map Bf)),v4,v5,v6,U],n'⟩/\n'=n+1+2 * i/\d.length=i/\(∀c∈d,Dr h c)/\NP v4/\NP v5/\NP v6/\NP U) ?_ ?_ ?_
  ·exact ⟨[],_,_,_,_,_,rfl,rfl,rfl,λ_ z=>(nomatch z),Mv,Mv,Mv,Mv⟩
  ·(intro i a _ ha V; obtain ⟨d,v4,v5,v6,U,n1,rfl,k1,ld,hd,h9,k2,k0,G⟩ := V)
   obtain ⟨rfl,hi⟩:=Ph ha
   array_get_dec
   refine ⟨h,rfl,h0,by omega,by omega,λw h5=>?_⟩
   array_get_dec
   refine ⟨rfl,by omega,λr2=>?_⟩
   array_get_dec
   have Y:∀q:Int,d≠[]->∃c∈d,Wy (d.map Bf) (q % ((d.map Bf).length:Int))=some (Bf c):=λq I=>by
    have hl:0<d.length:=Qa.mpr I
    have bl:=Xb q (b:=((d.map Bf).length:Int)) (by rw[Ad]; omega)
    rw[Ad] at bl ⊢
    exact xV bl.1 bl.2
   refine X2 (λP=>W3 _ _ _ P) (λδ=>∃(c:List Int),δ=⟨[.drw,.dat .sh (.int h),.dat .sh (.int m),.dat .ow (.list (d.map Bf)),.dat .sh (.int a),.dat .sh (Bf c),.dat .sh (.int r2),U],n1+1+1⟩/\Dr h c) (λN Z=>?_) ?_
   ·refine F5 (λX=>?_) (λX=>?_)
    ·have I:d≠[]:=λz=>by rw[z] at X; cases X
     array_get_dec
     refine eD (λh2=>?_) (λh2=>?_)
     ·obtain ⟨c,hc,e⟩:=Y (r2 / 3) I
      have hl:0<d.length:=Qa.mpr I
      array_get_dec
      rw[e]
      refine ⟨by rw[Ad]; omega,Bf c,rfl,?_⟩
      try array_get_dec
      exact Z _ ⟨c,rfl,hd c hc⟩
     ·array_get_dec
      exact Z _ ⟨w,rfl,h5⟩
    ·array_get_dec
     exact Z _ ⟨w,rfl,h5⟩
   ·(intro _ V; obtain ⟨c,rfl,rc⟩ := V)
    array_get_dec
    refine X2 (λP=>W3 _ _ _ P) (λδ=>∃(c:List Int) (U:DV),δ=⟨[.drw,.dat .sh (.int h),.dat .sh (.int m),.dat .ow (.list (d.map Bf)),.dat .sh (.int a),.dat .sh (Bf c),.dat .sh (.int r2),U],n1+1+1⟩/\Dr h c/\NP U) (λN Z=>?_) ?_
    ·refine F5 (λX=>?_) (λX=>?_)
     ·have I:d≠[]:=λz=>by rw[z] at X; cases X
      array_get_dec
      refine eD (λh2=>?_) (λh2=>?_)
      ·obtain ⟨c2,h8,e⟩:=Y (r2 / 3) I
       have hl:0<d.length:=Qa.mpr I
       have bh:=Xb (r2 / 300) h0
       have h3:=hd c2 h8
       have k3:=Xc (h3.up (show h<=60 by omega))
       array_get_dec
       rw[e]
       refine ⟨by rw[Ad]; omega,Bf c2,rfl,?_⟩
       array_get_dec
       refine ⟨by omega,by rw[Ad]; omega,c2++[r2 / 300 % h],by rw[Bn]; rfl,λx hx=>?_,?_⟩
       ·rcases Bc.mp hx with z | z
        ·have:=h3.2 x z; omega
        ·rw[Al.mp z]; omega
       ·try array_get_dec
        exact Z _ ⟨_,_,rfl,dS h3 bh.1 bh.2,Ir⟩
      ·array_get_dec
       exact Z _ ⟨c,_,rfl,rc,G⟩
     ·array_get_dec
      exact Z _ ⟨c,_,rfl,rc,G⟩
    ·clear G
     (intro _ V; obtain ⟨c,U,rfl,rc,G⟩ := V)
     array_get_dec
     refine ⟨by simp [npk,G _],by rw[Ad]; omega,?_⟩
     refine ⟨d++[c],_,_,_,_,_,Wj (by rw[Bn]; rfl) rfl,by omega,by rw[Bm,Kt]; omega,λx hx=>?_,Ir,Ir,Ir,G⟩
     rcases Bc.mp hx with z | z
     ·exact hd x z
     ·rw[Al.mp z]; exact rc
  ·(intro _ V; obtain ⟨d,v4,v5,v6,U,n1,rfl,k1,ld,hd,h9,k2,k0,G⟩ := V)
   rw[Cq] at k1 ld
   array_get_dec
   exact ⟨by omega,hR d _ (by omega) (by omega) (by omega) hd⟩
end
def nS(L:List (List Int))(c:List Int->Int):List Af:=L.flatMap λw=>By (c w).toNat (Bf w)
def dD:PF:=λa R=>∃(h:Int) (L:List (List Int)) (f:List Int->Int),a=[.int h,Kh L f]/\0<=h/\h<=10/\L.Perm (Fc h.toNat)/\Ord L /\
 ((∀w∈L,0<=Lk (Ky h.toNat) f w)->(nS L (Lk (Ky h.toNat) f)).length<=10000/\R (.tuple [.str (Ds "deck"),.list (nS L (Lk (Ky h.toNat) f))])) /\
 ∀w∈L,Lk (Ky h.toNat) f w<0->R (.tuple [.str (Ds "never"),Bf w])
section
variable{P:Bk}{w:World}{K:PySem.W.Frag}{mg:Str->Option Value}{base:Heap}
theorem qZ:FnScope ["holes", "numbers", "order", "many", "word", "cards"] ["holes", "numbers"] (Bv Vj):=⟨rfl,rfl,rfl,by decide +kernel,rfl,by decide +kernel,by decide +kernel⟩
theorem rY{f d a  : Addr}{fd j e:Cs}(F:Fun K "deck_of" "deck_of" Vj f fd)(C:FnOk P w K mg base Hu 2 d j ["holes"] (Sv K (cJ)))(v:Binds K j ["holes"] [])(B:PySem.W.keepIn K (.ref d)=true)(u:mg "order_of" = some (.ref d))(r:FnOk P w K mg base Hu 3 a e ["order", "numbers", "places"] (IX K (dY)))(p:Binds K e ["order", "numbers", "places"] [])(t:PySem.W.keepIn K (.ref a)=true)(o:mg "parted_by" = some (.ref a))(I:mg "tuple" = none)(m:mg "range" = none)(G:mg "zip" = none):FnOk P w K mg base Hu 4 f fd ["holes", "numbers"] (Sv K (dD)):=by
 refine' Lo (k:=3) F qZ (λh1 A M s H E U=>?hb) ?h
 case hb =>
  have h7:Room 1 _:=U.mono (by decide)
  have Z:Room 2 _:=U.mono (by decide)
  have h5:Room 3 _:=U.mono (by decide)
  have h6:=U.units
  have h4:∀{D:Scope} (h:D={ kind:=.function,names:=[(".0",.local),("word",.local),("cards",.local),("card",.local),("range",.globalImplicit)],isGenerator:=false,isCoroutine:=false }),
    CompScope (Nc Hu P w K mg base ["holes", "numbers", "order", "many", "word", "cards"] "deck_of" (Bv Vj) f h1 A M s H E).nox D [] "word" [] []:=by
   rintro D rfl
   exact Nd.compScope0 (by rfl) (by decide +kernel) (by rfl) (by decide +kernel) (by rfl) (by rfl)
  exact Ck (Fi (i:=2) qZ.nd rfl (Dq rfl) (Fq C Z rfl u B v Ft (An (Aq (pv 0)) Bb)))
   (Ck (Fi (i:=3) qZ.nd rfl (Dq rfl) (oW r h5 rfl o t p Ft (An (Aq (pv 2)) (An (Aq (pv 1)) (An (zC rfl rfl I rfl m (Aq (pv 0))) Bb)))))
   (Ck (Ng Es rfl (lY rfl G (An (Aq (pv 2)) (An (Aq (pv 3)) Bb))) (C3 (n:=2) rfl (Yy (Jq (i:=4) qZ.nd rfl (Dq rfl)) (Yy (Jq (i:=5) qZ.nd rfl (Dq rfl)) uG)))
   (Dt (Pg (X8 (Aq (pv 5)) Dn)
    (Dt (Gc (Of (An jR (An (Ue (Aq (pv 4))) Bb))))) Mj)))
   (Dt (Gc (Of (An jR (An (i3 (b:=true) (h4 rfl) (.inl rfl) (.inl rfl) (by decide +kernel) rfl (lY rfl G (An (Aq (pv 2)) (An (Aq (pv 3)) Bb))) (λ_ _ _=>Lx rfl m (An (Aq (pv 1)) Bb)) (λ_ _ _=>Aq (pv 0))) Bb)))))))
 case h =>
  (intro ds R O; obtain ⟨h,L,f,rfl,h0,X,pe,po,hD,hN⟩ := O)
  refine ⟨rfl,?_⟩
  have en:((h.toNat:Nat):Int)=h:=by omega
  array_get_dec
  refine ⟨h,rfl,h0,X,λJ h3 h2=>?_⟩
  obtain rfl:J=L:=Km (h3.trans pe.symm) h2 po
  array_get_dec
  refine ⟨h0,by omega,?_⟩
  array_get_dec
  refine ⟨h.toNat,J,f,Ky h.toNat,rfl,by omega,pe,λq hq=>?_,?_⟩
  ·unfold Ky at hq
   obtain ⟨k,hk,rfl⟩:=Dd.mp hq
   have:=Fw.mp hk
   omega
  generalize Lk (Ky h.toNat) f=c at hD hN
  unfold nX Kh
  array_get_dec
  rw[kS]
  refine aK (l:=J) (g:=λw=>.tuple [Bf w,.int (c w)]) rfl (λi δ=>∃(V Y:DV),δ=⟨[.dat .sh (.int h),.dat .sh (.list ((J.map f).map Av)),.dat .sh (.dict (Wk (jZ J))),.dat .sh (.list ((J.map c).map Av)),V,Y],0⟩/\∀w∈J.take i,0<=c w) ?_ ?_ ?_
  ·exact ⟨_,_,rfl,λ_ z=>(nomatch z)⟩
  ·(intro i w _ S O; obtain ⟨V,Y,rfl,Q⟩ := O)
   array_get_dec
   refine eD (λT=>?_) (λT=>?_)
   ·array_get_dec
    exact hN w (Bp S) (of_decide_eq_true T)
   ·array_get_dec
    refine ⟨_,_,rfl,λx hx=>?_⟩
    rw[Ij S] at hx
    rcases Bc.mp hx with z | z
    ·exact Q x z
    ·rw[Al.mp z]
     have:=of_decide_eq_false T
     omega
  ·(intro _ O; obtain ⟨V,Y,rfl,Q⟩ := O)
   rw[Ey] at Q
   obtain ⟨hl,hR⟩:=hD Q
   array_get_dec
   rw[kS]
   refine HL (l:=J) (g1:=Bf) (g2:=λw=>.int (c w)) rfl (λw=>By (c w).toNat (Bf w)) (pY (Cb hl (by decide))) (λw S h8 h9 hz hf=>?_) ?_
   ·have c0:=Q w S
    have c1:(c w).toNat<=10000:=by
     obtain ⟨i,hi⟩:=wG.mp S
     have:=nH (λw=>By (c w).toNat (Bf w)) hi
     rw[Wf] at this
     unfold nS at hl
     omega
    array_get_dec
    refine ⟨by omega,by omega,JP (l:=Cc (c w).toNat) (g:=λi:Nat=>.int i) rfl (λ_=>Bf w) (by rw[Cq]; rw[Wf] at hz; exact hz) (λy hy k0 N=>?_) ?_⟩
    ·show Pk Np _ _ _ _
     array_get_dec
     exact N
    ·rw[List.map_const',Cq]
     exact hf
   ·array_get_dec
    exact ⟨_,rfl,hR⟩
end
open DRow
section
variable{P:Bk}{w:World}{K:PySem.W.Frag}{mg:Str->Option Value}{base:Heap}
theorem tK:FnScope ["deck", "needles", "dropped", "kept", "card"] ["deck", "needles"] (Bv aJ):=⟨rfl,rfl,rfl,by decide +kernel,rfl,by decide +kernel,by decide +kernel⟩
theorem qV{f a  : Addr}{y b:Cs}(F:Fun K "needled" "needled" aJ f y)(m:FnOk P w K mg base Hu 1 a b ["one", "other"] (Sv K (FU)))(d:Binds K b ["one", "other"] [])(e:PySem.W.keepIn K (.ref a)=true)(j:mg "within" = some (.ref a)):FnOk P w K mg base Hu 2 f y ["deck", "needles"] (Sv K (rW)):=by
 refine' Lo (k:=1) F tK (λB A q s H E u=>?hb) ?h
 case hb =>
  have o:Room 1 _:=u.mono (by decide)
  have r:=u.units
  exact Ck (Sy (i:=2) tK.nd rfl (Dq rfl) (Lf Bb))
   (Ck (Sy (i:=3) tK.nd rfl (Dq rfl) (Lf Bb))
   (Ck (Ng Es rfl (P9 (Aq (pv 0))) (Jq (i:=4) tK.nd rfl (Dq rfl))
   (Dt (Pg (dH (Fq m o rfl j e d Ft (An (Aq (pv 1)) (An (Aq (pv 4)) Bb))))
    (Dt (Vl (pv 2) (Aq (pv 4)))) (Dt (Vl (pv 3) (Aq (pv 4)))))))
   (Dt (Gc (Of (An (cD (pv 2)) (An (cD (pv 3)) Bb)))))))
 case h =>
  (intro M R n; obtain ⟨L,w,rfl,N,D⟩ := n)
  refine ⟨rfl,?_⟩
  array_get_dec
  refine aK (l:=L) (g:=Bf) rfl (λi C=>∃v:DV,C=⟨[.dat .sh (.list (L.map Bf)),.dat .sh (Bf w),.dat .ow (.list ((Ym id (L.take i) w).map Bf)),.dat .ow (.list ((eO id (L.take i) w).map Bf)),v],0⟩/\NP v) ?_ ?_ ?_
  ·exact ⟨_,rfl,Mv⟩
  ·(intro i c _ p n; obtain ⟨v,rfl,z⟩ := n)
   have I:=(Ax.mp p).1
   have J:(Ym id (L.take i) w).length<=1000:=Cb (List.length_filter_le _ _) (by rw[Cz]; omega)
   have G:(eO id (L.take i) w).length<=1000:=Cb (List.length_filter_le _ _) (by rw[Cz]; omega)
   have x:(Ym id (L.take (i+1)) w).map Bf=(Ym id (L.take i) w).map Bf++(if Tn w c=true then [Bf c] else []):=iW _ _ p
   have t:(eO id (L.take (i+1)) w).map Bf=(eO id (L.take i) w).map Bf++(if (!Tn w c)=true then [Bf c] else []):=iW _ _ p
   array_get_dec
   refine ⟨w,c,rfl,?_⟩
   refine eD (λh=>?_) (λh=>?_)
   ·array_get_dec
    refine ⟨by rw[Ad]; omega,.dat .sh (Bf c),?_,Ir⟩
    rw[x,t,show Tn w c=_ from h]
    simp
   ·array_get_dec
    refine ⟨by rw[Ad]; omega,.dat .sh (Bf c),?_,Ir⟩
    rw[x,t,show Tn w c=_ from h]
    simp
  ·(intro _ n; obtain ⟨v,rfl,z⟩ := n)
   array_get_dec
   rw[Ey]
   exact D
end
open DRow
def A8(L:List (List Int)):Af:=.list (L.map Bf)
def uZ:PF:=λa R=>∃(L:List (List Int)) (f g:List Int->Int),a=[Kh L f,Kh L g]/\L.length<=1024/\R (Kh L λw=>f w+g w)
structure Dk(h:Int)(L deck:List (List Int)):Prop where
 h0:0<h
 h1:h<=10
 pe:L.Perm (Fc h.toNat)
 po:Nd.Ord L
 ld:deck.length<=120
 hd:∀c∈deck,Dr h c
def F7:PF:=λb R=>∃(h:Int) (L a:List (List Int)),b=[.int h,A8 L,A8 a,Kh L (Gf a)]/\Dk h L a/\R (.bool true)
def pL:DF:=λb n R=>∃(h:Int) (L a:List (List Int)),b=[.int h,A8 a,Kh L (Gf a)]/\Dk h L a/\n<=60000/\R (.bool true) (n+1)
def eT:DF:=λb n R=>∃(h:Int) (L a:List (List Int)),b=[.int h,A8 L,A8 a,Kh L (Gf a)]/\Dk h L a/\n<=60000/\R (.bool true) (n+h.toNat)
def x6:DF:=λc n R=>∃(h:Int) (L a:List (List Int)),c=[.int h,A8 L,A8 a,Kh L (Gf a)]/\Dk h L a/\n<=60000/\∀b,n<=b->b<=n+1->R (.bool true) b
theorem A4{L:List (List Int)}(f g:List Int->Int):(((L.map f).map Av).zip ((L.map g).map Av)).map (λp=>Li [p.1,p.2])=L.map λw=>.tuple [.int (f w),.int (g w)]:=by
 induction L with
 | nil=>rfl
 | cons w L a=>rw[Ap,Ap,Ap,Ap,Ig,Ap,a]; rfl
theorem pI{L:List (List Int)}(f:List Int->Int):((L.map Bf).zip ((L.map f).map Av)).map (λp=>Li [p.1,p.2])=L.map λw=>.tuple [Bf w,.int (f w)]:=by
 induction L with
 | nil=>rfl
 | cons w L a=>rw[Ap,Ap,Ap,Ig,Ap,a]; rfl
theorem Dk.rd{h:Int}{L a:List (List Int)}(d:Dk h L a):∀c∈a,Dr (h.toNat:Int) c:=λc b=>by have:=d.hd c b; rwa [show ((h.toNat:Nat):Int)=h by have:=d.h0; omega]
theorem Dk.told{h:Int}{L a:List (List Int)}(d:Dk h L a):(∀w∈L,0<=Lk (Ky h.toNat) (Gf a) w)/\nS L (Lk (Ky h.toNat) (Gf a))=(On L (Nx a)).map Bf:=by
 have e:∀w∈L,Lk (Ky h.toNat) (Gf a) w=Nx a w:=λw b=>E4 d.rd ((Nb d.pe).mp b)
 refine ⟨λw b=>by rw[e w b]; unfold Nx; omega,?_⟩
 rw[<- U2]
 unfold nS
 have : ∀M:List (List Int),(∀w∈M,Lk (Ky h.toNat) (Gf a) w=Nx a w)->(M.flatMap λw=>By (Lk (Ky h.toNat) (Gf a) w).toNat (Bf w))=M.flatMap λw=>By (Nx a w).toNat (Bf w):=λM=>by
  induction M with
  | nil=>intro _; rfl
  | cons v M f =>
   intro c
   rw[Nj,Nj,f λw b=>c w (Ac _ b),c v Ab]
 exact this L e
section
variable{P:Bk}{w:World}{K:PySem.W.Frag}{mg:Str->Option Value}{base:Heap}
theorem gQ:FnScope ["_law_numbers", "_law_others"] ["_law_numbers", "_law_others"] (Bv Oy):=⟨rfl,rfl,rfl,by decide +kernel,rfl,by decide +kernel,by decide +kernel⟩
theorem fY{f   : Addr}{m  : Cs}(F:Fun K "_law_added" "_law_added" Oy f m)(b:mg "zip" = none):FnOk P w K mg base Hu 1 f m ["_law_numbers", "_law_others"] (Sv K (uZ)):=by
 refine' Lo (k:=0) F gQ (λd A c s H E o=>?hb) ?h
 case hb =>
  have j:=o.units
  have i:∀{a:Scope} (h:a={ kind:=.function,names:=[(".0",.local),("_law_one",.local),("_law_other",.local)],isGenerator:=false,isCoroutine:=false }),
    CompScope (Nc Hu P w K mg base ["_law_numbers", "_law_others"] "_law_added" (Bv Oy) f d A c s H E).nox a [] "_law_one" [] []:=by
   rintro a rfl
   exact Nd.compScope0 (by rfl) (by decide +kernel) (by rfl) (by decide +kernel) (by rfl) (by rfl)
  exact Dt (Gc (eI (i rfl) (.inl rfl) (by decide +kernel) rfl (rX rfl b (An (Aq (pv 0)) (An (Aq (pv 1)) Bb))) (λ_ _ _=>Jf) (λ_ _ _=>Ui (Aq (pv 0)) (Aq (pv 1)))))
 case h =>
  (intro t R q; obtain ⟨L,f,g,rfl,r,e⟩ := q)
  refine ⟨rfl,?_⟩
  unfold Kh
  array_get_dec
  rw[A4]
  refine jL (l:=L) (g1:=λw=>.int (f w)) (g2:=λw=>.int (g w)) rfl (λ_=>true) (λw=>.int (f w+g w)) (λw v n u p _=>?_) ?_
  ·array_get_dec
   exact p rfl
  ·rw[Qb.mpr λ_ _=>rfl]
   array_get_dec
   unfold Kh at e
   rw[Cr] at e
   exact e
theorem Wv:FnScope ["_law_holes", "_law_words_here", "_law_deck_here", "_law_numbers", "_law_told", "_law_word", "_law_number"] ["_law_holes", "_law_words_here", "_law_deck_here", "_law_numbers"] (Bv Mk):=⟨rfl,rfl,rfl,by decide +kernel,rfl,by decide +kernel,by decide +kernel⟩
theorem Xe{f o m j  : Addr}{fd r p q:Cs}(F:Fun K "_law_back_right" "_law_back_right" Mk f fd)(N:FnOk P w K mg base Hu 3 o r ["holes", "deck"] (Sv K (Um)))(Q:Binds K r ["holes", "deck"] [])(S:PySem.W.keepIn K (.ref o)=true)(O:mg "counts" = some (.ref o))(u:FnOk P w K mg base Hu 4 m p ["holes", "numbers"] (Sv K (dD)))(G:Binds K p ["holes", "numbers"] [])(v:PySem.W.keepIn K (.ref m)=true)(B:mg "deck_of" = some (.ref m))(C:FnOk P w K mg base Hu 2 j q ["deck", "needles"] (Sv K (rW)))(I:Binds K q ["deck", "needles"] [])(y:PySem.W.keepIn K (.ref j)=true)(x:mg "needled" = some (.ref j))(T:mg "list" = none)(J:mg "sorted" = none)(U:mg "zip" = none)(M:mg "len" = none):FnOk P w K mg base Hu 5 f fd ["_law_holes", "_law_words_here", "_law_deck_here", "_law_numbers"] (Sv K (F7)):=by
 refine' Lo (k:=4) F Wv (λk0 A h2 s H E Y=>?hb) ?h
 case hb =>
  have h9:Room 1 _:=Y.mono (by decide)
  have h3:Room 2 _:=Y.mono (by decide)
  have h7:Room 3 _:=Y.mono (by decide)
  have h6:Room 4 _:=Y.mono (by decide)
  have t:=Y.units
  exact Ck (Fi (i:=4) Wv.nd rfl (Dq rfl) (Fq u h6 rfl B v G Ft (An (Aq (pv 0)) (An (Je lF (kC (i:=true)) rfl T (by decide +kernel) (An (Aq (pv 3)) Bb)) Bb))))
   (Ck (Pg (EF (GT (cV t (Aq (pv 4)) (Of (An jR (An (Gz (Ts.call_sortedI t) Za rfl J (by decide +kernel) (An (Aq (pv 2)) Bb)) Bb)))) (DX (cV t (Fq N h7 rfl O S Q Ft (An (Aq (pv 0)) (An (Mg (Aq (pv 4)) Dn) Bb))) (Aq (pv 3))))))
   (Dt (Gc Xp)) Mj)
   (Ck (Ng Es rfl (rX rfl U (An (Aq (pv 1)) (An (Aq (pv 3)) Bb))) (C3 (n:=2) rfl (Yy (Jq (i:=5) Wv.nd rfl (Dq rfl)) (Yy (Jq (i:=6) Wv.nd rfl (Dq rfl)) uG)))
   (Dt (Pg (cV t (Gz Nv Tz rfl M (by decide +kernel) (An (Mg (Fq C h3 rfl x y I Ft (An (Aq (pv 2)) (An (Aq (pv 5)) Bb))) Dn) Bb)) (Aq (pv 6)))
    (Dt (Gc Xp)) Mj)))
   (Dt (Gc (bC t (Mg (Aq (pv 3)) Dn) (Gz Nv Tz rfl M (by decide +kernel) (An (Aq (pv 2)) Bb)))))))
 case h =>
  (intro ds R q_; obtain ⟨h,L,b,rfl,d,hR⟩ := q_)
  refine ⟨rfl,?_⟩
  obtain ⟨t1,t2⟩:=d.told
  have V:=dR d.pe d.rd
  have dl:=V.length_eq
  have h0:=d.h0
  have h1:=d.h1
  have ld:=d.ld
  have en:((h.toNat:Nat):Int)=h:=by omega
  have nL:[]∈L:=(Nb d.pe).mpr ⟨Ei,λ_ z=>(nomatch z)⟩
  unfold A8 Kh
  array_get_dec
  refine ⟨h,L,Gf b,rfl,by omega,h1,d.pe,d.po,λ_=>⟨by rw[t2,Ad,dl]; omega,?_⟩,λw hw h8=>absurd (t1 w hw) (by omega)⟩
  rw[t2]
  array_get_dec
  refine ⟨b,rfl,λD pD oD=>?_⟩
  obtain rfl:D=On L (Nx b):=Km (pD.trans V.symm) oD (iI d.po)
  have e:Em (.tuple [.str (Ds "deck"),.list ((On L (Nx b)).map Bf)]) (.tuple [.str (Ds "deck"),.list ((On L (Nx b)).map Bf)])=true:=by
   rw[kK,Vt,Vt,oV,t8,decide_eq_true rfl,uA]
   rfl
  rw[e]
  array_get_dec
  refine ⟨h,On L (Nx b),rfl,by omega,h1,λc hc=>d.hd c (V.mem_iff.mp hc),λX h5 h4=>?_⟩
  obtain rfl:X=L:=Km (h5.trans d.pe.symm) h4 d.po
  rw[K8 V]
  unfold Kh
  array_get_dec
  rw[pI]
  refine aK (l:=X) (g:=λw=>.tuple [Bf w,.int (Gf b w)]) rfl (λi δ=>∃(v4 v5 v6:DV),δ=⟨[.dat .sh (.int h),.dat .sh (.list (X.map Bf)),.dat .sh (.list (b.map Bf)),.dat .sh (.list ((X.map (Gf b)).map Av)),v4,v5,v6],0⟩/\NP v4) ?_ ?_ ?_
  ·exact ⟨_,_,_,rfl,Ir⟩
  ·(intro i w _ hw q_; obtain ⟨v4,v5,v6,rfl,Z⟩ := q_)
   array_get_dec
   refine ⟨b,w,rfl,by omega,?_⟩
   array_get_dec
   rw[Ad,oA,decide_eq_true rfl]
   array_get_dec
   exact ⟨_,_,_,rfl,Z⟩
  ·(intro _ q_; obtain ⟨v4,v5,v6,rfl,Z⟩ := q_)
   have e0:=qE (l:=(X.map (Gf b)).map Av) (i:=0) (a:=.int (Gf b [])) (by rw[Bg,Bg,yI d.po nL]; rfl)
   array_get_dec
   refine ⟨.int (Gf b []),e0,?_⟩
   array_get_dec
   rw[Ad,cnt_nil,decide_eq_true rfl]
   exact hR
end
open DRow
section
variable{P:Bk}{w:World}{K:PySem.W.Frag}{mg:Str->Option Value}{base:Heap}
theorem Zq:FnScope ["_law_draws_here", "_law_holes", "_law_words_here", "_law_deck_here", "_law_numbers", "_law_at", "_law_due"] ["_law_draws_here", "_law_holes", "_law_words_here", "_law_deck_here", "_law_numbers"] (Bv Jt):=⟨rfl,rfl,rfl,by decide +kernel,rfl,by decide +kernel,by decide +kernel⟩
theorem Zt{f q p r  : Addr}{fd t u v:Cs}(F:Fun K "_law_one_less" "_law_one_less" Jt f fd)(x:FnOk P w K mg base Hu 3 q t ["holes", "deck"] (Sv K (Um)))(G:Binds K t ["holes", "deck"] [])(S:PySem.W.keepIn K (.ref q)=true)(C:mg "counts" = some (.ref q))(J:FnOk P w K mg base Hu 1 p u ["_law_draws_here"] (cU K Ww))(O:Binds K u ["_law_draws_here"] [])(N:PySem.W.keepIn K (.ref p)=true)(B:mg "_law_next" = some (.ref p))(D:FnOk P w K mg base Hu 1 r v ["_law_one", "_law_other"] (Sv K (zX)))(M:Binds K v ["_law_one", "_law_other"] [])(I:PySem.W.keepIn K (.ref r)=true)(Q:mg "_law_lies" = some (.ref r))(X:mg "len" = none)(V:mg "zip" = none)(Y:mg "int" = none):FnOk P w K mg base Hu 4 f fd ["_law_draws_here", "_law_holes", "_law_words_here", "_law_deck_here", "_law_numbers"] (cU K (x6)):=by
 refine' Vu (k:=3) F Zq (λh3 A U s H E hr=>?hb) ?h
 case hb =>
  have h2:Room 1 _:=hr.mono (by decide)
  have k1:Room 2 _:=hr.mono (by decide)
  have k0:Room 3 _:=hr.mono (by decide)
  have T:=hr.units
  have h7:∀{m:Scope} (h:m={ kind:=.function,names:=[(".0",.local),("_law_word",.local)],isGenerator:=false,isCoroutine:=false }),
    CompScope (Nc Hu P w K mg base ["_law_draws_here", "_law_holes", "_law_words_here", "_law_deck_here", "_law_numbers", "_law_at", "_law_due"] "_law_one_less" (Bv Jt) f h3 A U s H E).nox m [] "_law_word" [] []:=by
   rintro m rfl
   exact Nd.compScope0 (by rfl) (by decide +kernel) (by rfl) (by decide +kernel) (by rfl) (by rfl)
  have h6:∀{m:Scope} (h:m={ kind:=.function,names:=[(".0",.local),("_law_word",.local),("_law_number",.local),("int",.globalImplicit),("_law_lies",.globalImplicit),("_law_at",.free),("_law_deck_here",.free)],isGenerator:=false,isCoroutine:=false }),
    CompScope (Nc Hu P w K mg base ["_law_draws_here", "_law_holes", "_law_words_here", "_law_deck_here", "_law_numbers", "_law_at", "_law_due"] "_law_one_less" (Bv Jt) f h3 A U s H E).nox m [("_law_deck_here",s.heap.objs.size+1),("_law_at",s.heap.objs.size+2)] "_law_word" ["_law_at", "_law_deck_here"] [5,3]:=by
   rintro m rfl
   refine ⟨by rfl,.inl (by decide +kernel),by rfl,by decide +kernel,.inl rfl,λy c h=>?_,by rfl,by decide +kernel,rfl,λk y j Z e2=>?_⟩
   ·have z:=Fg h
    simp only[Ak,Az,or_false,Fn] at z
    rcases z with ⟨rfl,rfl⟩ | ⟨rfl,rfl⟩ <;> rfl
   ·match k,Z,e2 with
    | 0,Z,e2=>cases Z; cases e2; exact ⟨rfl,rfl,by first | exact .inl rfl | exact .inr rfl⟩
    | 1,Z,e2=>cases Z; cases e2; exact ⟨rfl,rfl,by first | exact .inl rfl | exact .inr rfl⟩
    | k+2,Z,e2=>cases Z
  exact Ck (Pg (pF T (Aq (pv 3)) (Lf Bb))
   (Dt (Gc (bC T (Aq (pv 4)) (Nm (h7 rfl) rfl (P9 (Aq (pv 2))) (λ_ _ _=>Jf) (λ_ _ _=>Dn))))) Mj)
   (Ck (Fi (i:=5) Zq.nd rfl (Zf rfl) (Nh (Il J h2 rfl B N O Ft (pv 0) Bb) (Gz Nv Tz rfl X (by decide +kernel) (An (Aq (pv 3)) Bb))))
   (Ck (L7 (o:=false) (i0:=6) Zq.nd rfl rfl (h6 rfl) (.inl rfl) (by decide +kernel) rfl (rX rfl V (An (Aq (pv 2)) (An (Aq (pv 4)) Bb))) (λ_ _ _=>Jf) (λ_ _ _=>DJ (Aq (pv 1)) (Je iE G6 rfl Y (by decide +kernel) (An (Fq D h2 rfl Q I M Ft (An (Aq (pv 0)) (An (Mg (Aq (pv 3)) (Aq (pv 2))) Bb))) Bb))))
   (Dt (Gc (bC T (Fq x k0 rfl C S G Ft (An (Aq (pv 1)) (An (Zy (fH (i:=true) (Aq (pv 3)) Yd (Yv (Aq (pv 5)))) (fH (i:=true) (Aq (pv 3)) (Yv (Ui (Aq (pv 5)) Dn)) Yd)) Bb))) (Aq (pv 6)))))))
 case h =>
  (intro ds n R q_; obtain ⟨h,L,a,rfl,d,hn,hR⟩ := q_)
  refine ⟨rfl,?_⟩
  have h0:=d.h0
  have h1:=d.h1
  have ld:=d.ld
  unfold A8 Kh
  array_get_dec
  refine eD (λhb=>?_) (λhb=>?_)
  ·have e:a=[]:=zP.mp (List.isEmpty_iff.mp hb)
   subst e
   array_get_dec
   refine Yi (l:=L) (g:=Bf) rfl (λ_=>.int 0) (λw hw h9 no hy=>?_) ?_
   ·array_get_dec
    exact hy
   ·rw[show L.map (λ_=>Av 0)=(L.map (Gf [])).map Av by rw[Cr]; rfl]
    array_get_dec
    exact ⟨Aj _,hR n (Aj _) (by omega)⟩
  ·have h8:a≠[]:=λz=>by rw[z] at hb; cases hb
   have lp:0<a.length:=Qa.mpr h8
   array_get_dec
   refine ⟨rfl,by omega,λr1=>?_⟩
   have bl:=Xb r1 (b:=((a.map Bf).length:Int)) (by rw[Ad]; omega)
   rw[Ad] at bl ⊢
   obtain ⟨k,ek,kl⟩ : ∃k:Nat,r1 % (a.length:Int)=(k:Int)/\k<a.length:=⟨(r1 % (a.length:Int)).toNat,by omega,by omega⟩
   obtain ⟨c,hc⟩ : ∃c,a[k]? = some c:=⟨_,Bt kl⟩
   have Z:Wy (a.map Bf) (k:Int)=some (Bf c):=qE (by rw[Bg,hc]; rfl)
   array_get_dec
   rw[ek]
   refine ⟨by omega,?_⟩
   rw[pI]
   refine jL (l:=L) (g1:=Bf) (g2:=λw=>.int (Gf a w)) rfl (λ_=>true) (λw=>.int (Gf (a.eraseIdx k) w)) (λw hw h9 no hy _=>?_) ?_
   ·have hy:=hy rfl
    rw[G8 hc] at hy
    array_get_dec
    refine ⟨_,Z,?_⟩
    array_get_dec
    refine ⟨w,c,rfl,?_⟩
    array_get_dec
    exact hy
   ·rw[Qb.mpr λ_ _=>rfl,show L.map (λw=>Av (Gf (a.eraseIdx k) w))=(L.map (Gf (a.eraseIdx k))).map Av by rw[Cr]; rfl]
    array_get_dec
    have l1:=mU (a.map Bf) none (some (k:Int))
    have l2:=mU (a.map Bf) (some ((k:Int)+1)) none
    rw[Ad] at l1 l2
    refine ⟨by omega,?_⟩
    rw[show Mi (a.map Bf) none (some (k:Int))++Mi (a.map Bf) (some ((k:Int)+1)) none=(a.eraseIdx k).map Bf by rw[Ug,Ug,<- Bn,P0]]
    refine ⟨h,a.eraseIdx k,rfl,by omega,h1,λc hc=>d.hd c ((List.eraseIdx_sublist ..).subset hc),λL' h5 h4=>?_⟩
    obtain rfl:L'=L:=Km (h5.trans d.pe.symm) h4 d.po
    unfold Kh
    array_get_dec
    exact ⟨by omega,hR _ (by omega) (by omega)⟩
end
open DRow
theorem DU{k:Nat}(a:k<5):Wy [Av 1,.int 2,.int 4,.int 8,.int 16] (k:Int)=some (.int (2 ^ k:Nat)):=by
 rcases (show k=0\/k=1\/k=2\/k=3\/k=4 by omega) with rfl | rfl | rfl | rfl | rfl <;> rfl
theorem S7{k:Nat}(a:k<=5):Wy [Av 1,.int 2,.int 4,.int 8,.int 16,.int 32] (k:Int)=some (.int (2 ^ k:Nat)):=by
 rcases (show k=0\/k=1\/k=2\/k=3\/k=4\/k=5 by omega) with rfl | rfl | rfl | rfl | rfl | rfl <;> rfl
theorem CL{a k:Nat}:decide ((a:Int) / ((2 ^ k:Nat):Int) % 2=1)=decide (a / 2 ^ k % 2=1):=by
 generalize 2 ^ k=m
 rw[decide_eq_decide]
 have : ((a / m:Nat):Int)=(a:Int) / (m:Int):=Int.natCast_ediv a m
 omega
section
variable{P:Bk}{w:World}{K:PySem.W.Frag}{mg:Str->Option Value}{base:Heap}
theorem Us:FnScope ["_law_draws_here", "_law_holes", "_law_deck_here", "_law_numbers", "_law_some", "_law_total", "_law_pick", "_law_inside", "_law_outside"] ["_law_draws_here", "_law_holes", "_law_deck_here", "_law_numbers"] (Bv Hi):=⟨rfl,rfl,rfl,by decide +kernel,rfl,by decide +kernel,by decide +kernel⟩
theorem Tv{f v e m  : Addr}{fd U p r:Cs}(F:Fun K "_law_parted_right" "_law_parted_right" Hi f fd)(V:FnOk P w K mg base Hu 4 v U ["holes", "numbers", "notched", "whole"] (Sv K (p8)))(T:Binds K U ["holes", "numbers", "notched", "whole"] [])(S:PySem.W.keepIn K (.ref v)=true)(X:mg "just" = some (.ref v))(M:FnOk P w K mg base Hu 2 e p ["deck", "needles"] (Sv K (rW)))(O:Binds K p ["deck", "needles"] [])(J:PySem.W.keepIn K (.ref e)=true)(G:mg "needled" = some (.ref e))(D:FnOk P w K mg base Hu 2 m r ["_law_draws_here", "_law_holes"] (cU K (lQ)))(I:Binds K r ["_law_draws_here", "_law_holes"] [])(C:PySem.W.keepIn K (.ref m)=true)(N:mg "_law_small" = some (.ref m))(Y:mg "range" = none)(t:mg "enumerate" = none)(u:mg "tuple" = none)(B:mg "len" = none):FnOk P w K mg base Hu 5 f fd ["_law_draws_here", "_law_holes", "_law_deck_here", "_law_numbers"] (cU K (pL)):=by
 refine' Vu (k:=4) F Us (λh6 A h2 s H E hr=>?hb) ?h
 case hb =>
  have k5:Room 1 _:=hr.mono (by decide)
  have h5:Room 2 _:=hr.mono (by decide)
  have k6:Room 3 _:=hr.mono (by decide)
  have h7:Room 4 _:=hr.mono (by decide)
  have Q:=hr.units
  have k1:∀{o:Scope} (h:o={ kind:=.function,names:=[(".0",.local),("_law_k",.local),("_law_place",.local),("_law_pick",.free)],isGenerator:=false,isCoroutine:=false }),
    CompScope (Nc Hu P w K mg base ["_law_draws_here", "_law_holes", "_law_deck_here", "_law_numbers", "_law_some", "_law_total", "_law_pick", "_law_inside", "_law_outside"] "_law_parted_right" (Bv Hi) f h6 A h2 s H E).nox o [("_law_pick",s.heap.objs.size+1)] "_law_k" ["_law_pick"] [6]:=by
   rintro o rfl
   refine ⟨by rfl,.inl (by decide +kernel),by rfl,by decide +kernel,.inl rfl,λy c h=>?_,by rfl,by decide +kernel,rfl,λk y j e1 e2=>?_⟩
   ·have z:=Fg h
    simp only[Ak,Az,or_false,Fn] at z
    obtain ⟨rfl,rfl⟩:=z; rfl
   ·match k,e1,e2 with
    | 0,e1,e2=>cases e1; cases e2; exact ⟨rfl,rfl,by first | exact .inl rfl | exact .inr rfl⟩
    | k+1,e1,e2=>cases e1
  have h8:∀{o:Scope} (h:o={ kind:=.function,names:=[(".0",.local),("_law_place",.local),("_law_inside",.free)],isGenerator:=false,isCoroutine:=false }),
    CompScope (Nc Hu P w K mg base ["_law_draws_here", "_law_holes", "_law_deck_here", "_law_numbers", "_law_some", "_law_total", "_law_pick", "_law_inside", "_law_outside"] "_law_parted_right" (Bv Hi) f h6 A h2 s H E).nox o [("_law_inside",s.heap.objs.size+2)] "_law_place" ["_law_inside"] [7]:=by
   rintro o rfl
   refine ⟨by rfl,.inl (by decide +kernel),by rfl,by decide +kernel,.inl rfl,λy c h=>?_,by rfl,by decide +kernel,rfl,λk y j e1 e2=>?_⟩
   ·have z:=Fg h
    simp only[Ak,Az,or_false,Fn] at z
    obtain ⟨rfl,rfl⟩:=z; rfl
   ·match k,e1,e2 with
    | 0,e1,e2=>cases e1; cases e2; exact ⟨rfl,rfl,by first | exact .inl rfl | exact .inr rfl⟩
    | k+1,e1,e2=>cases e1
  exact Ck (Fi (i:=4) Us.nd rfl (Dq rfl) (fH (i:=true) (Il D h5 rfl N C I Ft (pv 0) (An (Aq (pv 1)) Bb)) Yd (Yv Dn)))
   (Ck (Fi (i:=5) Us.nd rfl (Dq rfl) Dn)
   (Ck (Ng Es rfl (Lx rfl Y (An Dn Bb)) (Jq (i:=6) Us.nd rfl (Zf rfl))
   (Ck (Fi (i:=7) Us.nd rfl (Zf rfl) (Je Ri (Ro (i:=true)) rfl u (by decide +kernel) (An (eI (k1 rfl) (.inl rfl) (by decide +kernel) rfl (J6 rfl t (An (Aq (pv 4)) Bb)) (λ_ _ _=>lA (pF Q (Nh (Wp (Aq (pv 2)) (Mg (Lf (An Dn (An Dn (An Dn (An Dn (An Dn Bb)))))) (Aq (pv 0)))) Dn) Dn)) (λ_ _ _=>Aq (pv 1))) Bb)))
    (Ck (Fi (i:=8) Us.nd rfl (Dq rfl) (Je Ri (Ro (i:=true)) rfl u (by decide +kernel) (An (Nm (h8 rfl) rfl (EX (Aq (pv 4))) (λ_ _ _=>lA (mY Q (Aq (pv 0)) (Aq (pv 1)))) (λ_ _ _=>Aq (pv 0))) Bb)))
    (Dt (Pg (X8 (Aq (pv 6)) (Mg (Lf (An Dn (An Dn (An Dn (An Dn (An Dn (An Dn Bb))))))) (Gz Nv Tz rfl B (by decide +kernel) (An (Aq (pv 4)) Bb))))
    (Dt (Fi (i:=5) Us.nd rfl (Dq rfl) (Ui (Aq (pv 5)) (Fq V h7 rfl X S T Ft (An (Aq (pv 1)) (An (Aq (pv 3)) (An (Aq (pv 7)) (An (Aq (pv 8)) Bb)))))))) Mj)))))
   (Dt (Gc (DP (bC Q (Aq (pv 5)) (Gz Nv Tz rfl B (by decide +kernel) (An (Aq (pv 2)) Bb))) (CK (bC Q (Fq V h7 rfl X S T Ft (An (Aq (pv 1)) (An (Aq (pv 3)) (An (Aq (pv 4)) (An (Of Bb) Bb))))) (Gz Nv Tz rfl B (by decide +kernel) (An (Mg (Fq M h5 rfl G J O Ft (An (Aq (pv 2)) (An (Aq (pv 4)) Bb))) Dn) Bb)))))))))
 case h =>
  (intro ds n R q_; obtain ⟨h,L,b,rfl,d,hn,hR⟩ := q_)
  refine ⟨rfl,?_⟩
  have h0:=d.h0
  have h1:=d.h1
  have ld:=d.ld
  have en:((h.toNat:Nat):Int)=h:=by omega
  unfold A8 Kh
  array_get_dec
  refine ⟨h,rfl,h0,by omega,by omega,λns hr=>?_⟩
  array_get_dec
  rw[show Li (Mi (ns.map Av) none (some 5))=Bf (ns.take 5) by rw[Ug]; exact congrArg (λl=>Li (l.map Av)) (aR ns 5)]
  have lx:(ns.take 5).length<=5:=by rw[Cz]; omega
  have rx:Dr h (ns.take 5):=⟨hr.1.sublist (Hl _ _),λx hx=>hr.2 x ((Hl _ _).subset hx)⟩
  generalize ns.take 5=xs at lx rx
  have nx:=eV rx
  have k3:2 ^ xs.length<=32:=Xm (n:=2) (by decide) lx
  refine aK (l:=Cc 32) (g:=λi:Nat=>.int i) rfl (λi δ=>∃(v6 v7 v8:DV),δ=⟨[.drw,.dat .sh (.int h),.dat .sh (.list (b.map Bf)),.dat .sh (.list ((L.map (Gf b)).map Av)),.dat .sh (Bf xs),.dat .sh (.int (pM b xs i)),v6,v7,v8],n+1⟩/\NP v6/\NP v7/\NP v8) ?_ ?_ ?_
  ·refine ⟨_,_,_,Wj ?_ rfl,Mv,Mv,Mv⟩
   rw[show pM b xs 0=0 by unfold pM; rw[List.countP_eq_zero.mpr λc _=>by simp]; rfl]
  ·(intro i a _ ha q_; obtain ⟨v6,v7,v8,rfl,h9,k0,k4⟩ := q_)
   obtain ⟨rfl,hi⟩:=Ph ha
   array_get_dec
   refine jL (l:=xs.zipIdx) (g1:=λq=>.int q.2) (g2:=λq=>.int q.1) (by rw[vR,Cr]; rfl) (λq=>decide (a / 2 ^ q.2 % 2=1)) (λq=>.int q.1) (λq hq k2 no hy h3=>?_) ?_
   ·have hk:q.2<5:=by
     have:=(List.mem_zipIdx_iff_getElem?.mp hq)
     have:=(Ax.mp this).1
     omega
    rw[<- CL] at hy h3
    have p0:(0:Int)<((2 ^ q.2:Nat):Int):=by have:=Nat.two_pow_pos q.2; omega
    array_get_dec
    refine ⟨_,DU hk,?_⟩
    array_get_dec
    have p1:2 ^ q.2<=16:=Xm (n:=2) (j:=4) (by decide) (by omega)
    refine ⟨⟨p0,by omega⟩,jN (λZ=>?_) (λZ=>?_)⟩
    ·array_get_dec
     exact hy Z
    ·exact h3 Z
   ·rw[show (xs.zipIdx.filter λq=>decide (a / 2 ^ q.2 % 2=1)).map (λq=>Av q.1)=(Pi xs a).map Av by have:=mR a xs 0; rw[Nat.pow_zero,Nat.div_one] at this; rw[<- this,Cr]; rfl]
    array_get_dec
    refine E8 (l:=xs) (g:=Av) rfl (λj=>decide (j∉Pi xs a)) Av (λj hj k2 no hy h3=>?_) ?_
    ·array_get_dec
     refine jN (λZ=>?_) (λZ=>?_)
     ·array_get_dec
      exact hy (by simpa using Z)
     ·exact h3 (by simpa using Z)
    ·array_get_dec
     refine ⟨.int ((2 ^ xs.length:Nat):Int),by rw[Ad]; exact S7 lx,?_⟩
     array_get_dec
     refine eD (λZ=>?_) (λZ=>?_)
     ·have h4:a<2 ^ xs.length:=by have:=of_decide_eq_true Z; omega
      have is:=Ul xs a
      array_get_dec
      refine ⟨h,L,Gf b,Pi xs a,xs.filter λj=>decide (j∉Pi xs a),rfl,by omega,h1,d.pe,d.po,⟨rx.1.sublist is,λx hx=>rx.2 x (is.subset hx)⟩,λq hq=>rx.2 q (Iw.mp hq).1,?_⟩
      rw[pG b _ _ rfl (nx.sublist List.filter_sublist)]
      array_get_dec
      rw[wN nx h4]
      exact ⟨_,_,_,rfl,Ir,Ir,Ir⟩
     ·have h4:2 ^ xs.length<=a:=by have:=of_decide_eq_false Z; omega
      array_get_dec
      rw[Zv h4,Zv (i:=a+1) (Nat.le_succ_of_le h4)]
      exact ⟨_,_,_,rfl,Ir,Ir,Ir⟩
  ·(intro _ q_; obtain ⟨v6,v7,v8,rfl,h9,k0,k4⟩ := q_)
   rw[Cq,Zv k3]
   array_get_dec
   rw[Ad,decide_eq_true rfl]
   array_get_dec
   refine ⟨h,L,Gf b,xs,[],rfl,by omega,h1,d.pe,d.po,rx,λ_ z=>(nomatch z),?_⟩
   array_get_dec
   refine ⟨b,xs,rfl,by omega,?_⟩
   array_get_dec
   rw[Ad,oA,show Lk [] (Gf b) xs=Gf b xs from rfl,decide_eq_true rfl]
   exact ⟨by omega,hR⟩
end
open DRow
theorem yB{a b:Type}(f:a->b)(l:List a)(k:Nat)(x:a):Mw (l.map f) k (f x)=(Mw l k x).map f:=by
 unfold Mw
 rw[Bn,Ap,List.map_take,List.map_drop]
theorem qX{a:Type}(l:List a)(k:Nat)(x:a):(Mw l k x).Perm (x::l):=by
 unfold Mw
 refine Ea.trans ?_
 rw[Fu]
section
variable{P:Bk}{w:World}{K:PySem.W.Frag}{mg:Str->Option Value}{base:Heap}
theorem Sw:FnScope ["_law_draws_here", "_law_holes", "_law_words_here", "_law_deck_here", "_law_numbers", "_law_turned", "_law_k", "_law_other", "_law_due"] ["_law_draws_here", "_law_holes", "_law_words_here", "_law_deck_here", "_law_numbers"] (Bv Eg):=⟨rfl,rfl,rfl,by decide +kernel,rfl,by decide +kernel,by decide +kernel⟩
theorem Sm{f x t  : Addr}{fd J G:Cs}(F:Fun K "_law_numbered_right" "_law_numbered_right" Eg f fd)(X:FnOk P w K mg base Hu 3 x J ["holes", "deck"] (Sv K (Um)))(Q:Binds K J ["holes", "deck"] [])(O:PySem.W.keepIn K (.ref x)=true)(Y:mg "counts" = some (.ref x))(S:FnOk P w K mg base Hu 1 t G ["_law_draws_here"] (cU K Ww))(M:Binds K G ["_law_draws_here"] [])(U:PySem.W.keepIn K (.ref t)=true)(N:mg "_law_next" = some (.ref t))(V:mg "range" = none)(D:mg "sorted" = none)(I:mg "tuple" = none)(h3:mg "dict" = none)(h6:mg "zip" = none):FnOk P w K mg base Hu 4 f fd ["_law_draws_here", "_law_holes", "_law_words_here", "_law_deck_here", "_law_numbers"] (cU K (eT)):=by
 refine' Vu (k:=3) F Sw (λh4 A C s H E hr=>?hb) ?h
 case hb =>
  have k3:Room 1 _:=hr.mono (by decide)
  have q4:Room 2 _:=hr.mono (by decide)
  have q3:Room 3 _:=hr.mono (by decide)
  have h2:=hr.units
  have k9:∀{m:Scope} (h:m={ kind:=.function,names:=[(".0",.local),("_law_card",.local),("tuple",.globalImplicit),("sorted",.globalImplicit),("_law_turned",.free)],isGenerator:=false,isCoroutine:=false }),
    CompScope (Nc Hu P w K mg base ["_law_draws_here", "_law_holes", "_law_words_here", "_law_deck_here", "_law_numbers", "_law_turned", "_law_k", "_law_other", "_law_due"] "_law_numbered_right" (Bv Eg) f h4 A C s H E).nox m [("_law_turned",s.heap.objs.size+1)] "_law_card" ["_law_turned"] [5]:=by
   rintro m rfl
   refine ⟨by rfl,.inl (by decide +kernel),by rfl,by decide +kernel,.inl rfl,λy c h=>?_,by rfl,by decide +kernel,rfl,λk y j q B=>?_⟩
   ·have z:=Fg h
    simp only[Ak,Az,or_false,Fn] at z
    obtain ⟨rfl,rfl⟩:=z; rfl
   ·match k,q,B with
    | 0,q,B=>cases q; cases B; exact ⟨rfl,rfl,by first | exact .inl rfl | exact .inr rfl⟩
    | k+1,q,B=>cases q
  have k8:∀{m:Scope} (h:m={ kind:=.function,names:=[(".0",.local),("_law_place",.local),("_law_turned",.free)],isGenerator:=false,isCoroutine:=false }) (h5:List Addr) (s0:Ah) (H0:Hp),
    CompScope (Cw (Nc Hu P w K mg base ["_law_draws_here", "_law_holes", "_law_words_here", "_law_deck_here", "_law_numbers", "_law_turned", "_law_k", "_law_other", "_law_due"] "_law_numbered_right" (Bv Eg) f h4 A C s H E).nox { kind:=.function,names:=[(".0",.local),("_law_card",.local),("tuple",.globalImplicit),("sorted",.globalImplicit),("_law_turned",.free)],isGenerator:=false,isCoroutine:=false } [("_law_turned",s.heap.objs.size+1)] ["_law_card", "_law_turned"] h5 s0 H0) m [("_law_turned",s.heap.objs.size+1)] "_law_place" ["_law_turned"] [1]:=by
   rintro m rfl h5 s0 H0
   refine ⟨by rfl,.inl (by decide +kernel),by rfl,by decide +kernel,.inl rfl,λy c h=>?_,by rfl,by decide +kernel,rfl,λk y j q B=>?_⟩
   ·have z:=Fg h
    simp only[Ak,Az,or_false,Fn] at z
    obtain ⟨rfl,rfl⟩:=z; rfl
   ·match k,q,B with
    | 0,q,B=>cases q; cases B; exact ⟨rfl,rfl,by first | exact .inl rfl | exact .inr rfl⟩
    | k+1,q,B=>cases q
  have k4:∀{m:Scope} (h:m={ kind:=.function,names:=[(".0",.local),("_law_word",.local),("tuple",.globalImplicit),("sorted",.globalImplicit),("_law_turned",.free)],isGenerator:=false,isCoroutine:=false }),
    CompScope (Nc Hu P w K mg base ["_law_draws_here", "_law_holes", "_law_words_here", "_law_deck_here", "_law_numbers", "_law_turned", "_law_k", "_law_other", "_law_due"] "_law_numbered_right" (Bv Eg) f h4 A C s H E).nox m [("_law_turned",s.heap.objs.size+1)] "_law_word" ["_law_turned"] [5]:=by
   rintro m rfl
   refine ⟨by rfl,.inl (by decide +kernel),by rfl,by decide +kernel,.inl rfl,λy c h=>?_,by rfl,by decide +kernel,rfl,λk y j q B=>?_⟩
   ·have z:=Fg h
    simp only[Ak,Az,or_false,Fn] at z
    obtain ⟨rfl,rfl⟩:=z; rfl
   ·match k,q,B with
    | 0,q,B=>cases q; cases B; exact ⟨rfl,rfl,by first | exact .inl rfl | exact .inr rfl⟩
    | k+1,q,B=>cases q
  have q2:∀{m:Scope} (h:m={ kind:=.function,names:=[(".0",.local),("_law_place",.local),("_law_turned",.free)],isGenerator:=false,isCoroutine:=false }) (h5:List Addr) (s0:Ah) (H0:Hp),
    CompScope (Cw (Nc Hu P w K mg base ["_law_draws_here", "_law_holes", "_law_words_here", "_law_deck_here", "_law_numbers", "_law_turned", "_law_k", "_law_other", "_law_due"] "_law_numbered_right" (Bv Eg) f h4 A C s H E).nox { kind:=.function,names:=[(".0",.local),("_law_word",.local),("tuple",.globalImplicit),("sorted",.globalImplicit),("_law_turned",.free)],isGenerator:=false,isCoroutine:=false } [("_law_turned",s.heap.objs.size+1)] ["_law_word", "_law_turned"] h5 s0 H0) m [("_law_turned",s.heap.objs.size+1)] "_law_place" ["_law_turned"] [1]:=by
   rintro m rfl h5 s0 H0
   refine ⟨by rfl,.inl (by decide +kernel),by rfl,by decide +kernel,.inl rfl,λy c h=>?_,by rfl,by decide +kernel,rfl,λk y j q B=>?_⟩
   ·have z:=Fg h
    simp only[Ak,Az,or_false,Fn] at z
    obtain ⟨rfl,rfl⟩:=z; rfl
   ·match k,q,B with
    | 0,q,B=>cases q; cases B; exact ⟨rfl,rfl,by first | exact .inl rfl | exact .inr rfl⟩
    | k+1,q,B=>cases q
  have q0:∀{m:Scope} (h:m={ kind:=.function,names:=[(".0",.local),("_law_word",.local),("_law_due",.free)],isGenerator:=false,isCoroutine:=false }),
    CompScope (Nc Hu P w K mg base ["_law_draws_here", "_law_holes", "_law_words_here", "_law_deck_here", "_law_numbers", "_law_turned", "_law_k", "_law_other", "_law_due"] "_law_numbered_right" (Bv Eg) f h4 A C s H E).nox m [("_law_due",s.heap.objs.size+2)] "_law_word" ["_law_due"] [8]:=by
   rintro m rfl
   refine ⟨by rfl,.inl (by decide +kernel),by rfl,by decide +kernel,.inl rfl,λy c h=>?_,by rfl,by decide +kernel,rfl,λk y j q B=>?_⟩
   ·have z:=Fg h
    simp only[Ak,Az,or_false,Fn] at z
    obtain ⟨rfl,rfl⟩:=z; rfl
   ·match k,q,B with
    | 0,q,B=>cases q; cases B; exact ⟨rfl,rfl,by first | exact .inl rfl | exact .inr rfl⟩
    | k+1,q,B=>cases q
  exact Ck (Sy (i:=5) Sw.nd rfl (Zf rfl) (Lf Bb))
   (Ck (Ng Es rfl (Lx rfl V (An (Aq (pv 1)) Bb)) (Jq (i:=6) Sw.nd rfl (Dq rfl))
   (Dt (yR (pv 5) (Nh (Il S k3 rfl N U M Ft (pv 0) Bb) (Ui (Aq (pv 6)) Dn)) (Aq (pv 6)))))
   (Ck (W6 (o:=false) (i0:=7) Sw.nd rfl rfl (k9 rfl) rfl (P9 (Aq (pv 3))) (λ_ _ _=>Jf) (λ_ _ _=>Je Ri (Ro (i:=true)) rfl I (by decide +kernel) (An (Gz Yk qB rfl D (by decide +kernel) (An (Nm (k8 rfl _ _ _) rfl (EX (Aq (pv 0))) (λ_ _ _=>Jf) (λ_ _ _=>Mg (Aq (pv 1)) (Aq (pv 0)))) Bb)) Bb)))
   (Ck (Fi (i:=8) Sw.nd rfl (Zf rfl) (K9 h2 rfl h3 rfl h6 rfl (An (Nm (k4 rfl) rfl (P9 (Aq (pv 2))) (λ_ _ _=>Jf) (λ_ _ _=>Je Ri (Ro (i:=true)) rfl I (by decide +kernel) (An (Gz Yk qB rfl D (by decide +kernel) (An (Nm (q2 rfl _ _ _) rfl (EX (Aq (pv 0))) (λ_ _ _=>Jf) (λ_ _ _=>Mg (Aq (pv 1)) (Aq (pv 0)))) Bb)) Bb))) (An (Aq (pv 4)) Bb))))
   (Dt (Gc (bC h2 (Fq X q3 rfl Y O Q Ft (An (Aq (pv 1)) (An (Aq (pv 7)) Bb))) (Nm (q0 rfl) rfl (P9 (Aq (pv 2))) (λ_ _ _=>Jf) (λ_ _ _=>cG h2 (Aq (pv 1)) (Aq (pv 0))))))))))
 case h =>
  (intro ds n R q_; obtain ⟨h,L,p,rfl,d,hn,hR⟩ := q_)
  refine ⟨rfl,?_⟩
  have h0:=d.h0
  have h1:=d.h1
  have ld:=d.ld
  have en:((h.toNat:Nat):Int)=h:=by omega
  have nd:=Nw d.pe
  have ll:=(Vq (n:=h.toNat) (by omega) d.pe).1
  have hm:=λw=>(Nb (w:=w) d.pe)
  unfold A8 Kh
  array_get_dec
  refine ⟨by omega,by omega,?_⟩
  refine aK (l:=Cc h.toNat) (g:=λi:Nat=>.int i) rfl (λi δ=>∃(T:List Int) (v6 v7 v8:DV),δ=⟨[.drw,.dat .sh (.int h),.dat .sh (.list (L.map Bf)),.dat .sh (.list (p.map Bf)),.dat .sh (.list ((L.map (Gf p)).map Av)),.dat .ow (.list (T.map Av)),v6,v7,v8],n+i⟩/\T.Perm (Ky i)/\NP v6/\NP v7/\NP v8) ?_ ?_ ?_
  ·exact ⟨[],_,_,_,rfl,Gh _,Mv,Mv,Mv⟩
  ·(intro i a _ ha q_; obtain ⟨T,v6,v7,v8,rfl,pT,k5,h7,h8⟩ := q_)
   obtain ⟨rfl,hi⟩:=Ph ha
   have lT:T.length=a:=by rw[pT.length_eq]; unfold Ky; rw[Ad,Cq]
   array_get_dec
   refine ⟨rfl,by omega,λr1=>?_⟩
   have b1:=Xb r1 (b:=(a:Int)+1) (by omega)
   array_get_dec
   refine ⟨by omega,by simp [npk,h7 _,h8 _],by rw[Ad]; omega,by omega,by omega,?_⟩
   refine ⟨Mw T (r1 % ((a:Int)+1)).toNat (a:Int),.dat .sh (.int a),v7,v8,Wj (by rw[yB]) rfl,?_,Ir,h7,h8⟩
   rw[wZ]
   exact (qX T _ _).trans (((El (l₁:=[(a:Int)]) (l₂:=T))).trans (pT.append_right _))
  ·(intro _ q_; obtain ⟨T,v6,v7,v8,rfl,pT,k5,h7,h8⟩ := q_)
   rw[Cq] at pT ⊢
   have pm:Pm h.toNat T:=⟨by rw[pT.length_eq]; unfold Ky; rw[Ad,Cq],pT⟩
   array_get_dec
   have Z:∀c:List Int,Dr (h.toNat:Int) c->∀i∈c,Wy (T.map Av) i=some (.int (lD T i)):=λc hc i hi=>by
    have r:=hc.2 i hi
    obtain ⟨_,_,e⟩:=pm.ran r.1 r.2
    have:=qE (l:=T.map Av) (i:=i.toNat) (a:=.int (lD T i)) (by rw[Bg,e]; rfl)
    rwa [Int.toNat_of_nonneg r.1] at this
   refine Yi (l:=p) (g:=Bf) rfl (λc=>Bf (bO T c)) (λc hc k2 no hy=>?_) ?_
   ·have rc:=d.rd c hc
    have lc:=Xc (rc.up (show ((h.toNat:Nat):Int)<=60 by omega))
    array_get_dec
    refine Yi (l:=c) (g:=Av) rfl (λi=>.int (lD T i)) (λi k0 k1 k6 h9=>?_) ?_
    ·array_get_dec
     exact ⟨_,Z c rc i k0,rfl,h9⟩
    ·array_get_dec
     exact ⟨c.map (lD T),by rw[Cr]; rfl,by rw[Ad]; omega,hy⟩
   ·array_get_dec
    refine Yi (l:=L) (g:=Bf) rfl (λc=>Bf (bO T c)) (λc hc k2 no hy=>?_) ?_
    ·have rc:=(hm c).mp hc
     have lc:=Xc (rc.up (show ((h.toNat:Nat):Int)<=60 by omega))
     array_get_dec
     refine Yi (l:=c) (g:=Av) rfl (λi=>.int (lD T i)) (λi k0 k1 k6 h9=>?_) ?_
     ·array_get_dec
      exact ⟨_,Z c rc i k0,rfl,h9⟩
     ·array_get_dec
      exact ⟨c.map (lD T),by rw[Cr]; rfl,by rw[Ad]; omega,hy⟩
    ·have ij:∀u∈L,∀v∈L,bO T u=bO T v->u=v:=λu hu v hv e=>pm.wordInj ((hm u).mp hu) ((hm v).mp hv) e
     array_get_dec
     refine ⟨by rw[Ad]; omega,L.map (bO T),by rw[Cr]; rfl,?_⟩
     rw[zW (Yb nd ij),show p.map (λc=>Bf (bO T c))=(p.map (bO T)).map Bf by rw[Cr]; rfl]
     refine ⟨h,p.map (bO T),rfl,by omega,h1,λc hc=>?_,λL' k7 q1=>?_⟩
     ·obtain ⟨u,hu,rfl⟩:=Dd.mp hc
      have:=pm.word (d.rd u hu)
      rwa [en] at this
     obtain rfl:L'=L:=Km (k7.trans d.pe.symm) q1 d.po
     unfold Kh
     array_get_dec
     refine Yi (l:=L') (g:=Bf) rfl (λw=>.int (Gf (p.map (bO T)) w)) (λw hw k2 no hy=>?_) ?_
     ·obtain ⟨v,rv,rfl⟩:=pm.back ((hm w).mp hw)
      have vL:=(hm v).mpr rv
      have q:=vC (k:=bO T) (f:=Gf p) vL λu hu e=>ij u hu v vL e
      rw[pm.cnt d.rd rv] at hy
      array_get_dec
      exact ⟨_,q,rfl,hy⟩
     ·rw[show L'.map (λw=>Av (Gf (p.map (bO T)) w))=(L'.map (Gf (p.map (bO T)))).map Av by rw[Cr]; rfl]
      array_get_dec
      exact ⟨by omega,hR⟩
end
theorem bD{b:Type}{n:Nat}:∀{l:List b},l.length=n+1->∃v a,l=v::a/\a.length=n
 | v::l,h=>⟨v,l,rfl,Nat.succ.inj h⟩
theorem GN{p:Type}{l:List p}(h:l.length=8):∃f c g a d b e i,l=[f,c,g,a,d,b,e,i]:=by
 obtain ⟨f,y,rfl,k⟩:=bD h
 obtain ⟨c,t,rfl,j⟩:=bD k
 obtain ⟨g,z,rfl,s⟩:=bD j
 obtain ⟨a,w,rfl,r⟩:=bD s
 obtain ⟨d,u,rfl,q⟩:=bD r
 obtain ⟨b,A,rfl,n⟩:=bD q
 obtain ⟨e,v,rfl,m⟩:=bD n
 obtain ⟨i,x,rfl,o⟩:=bD m
 cases fT o
 exact ⟨f,c,g,a,d,b,e,i,rfl⟩
open DRow
section
variable{P:Bk}{w:World}{K:PySem.W.Frag}{mg:Str->Option Value}{base:Heap}
theorem ER:FnScope ["_law_script", "_law_cell", "_law_draws_here", "_law_holes", "_law_words_here", "_law_deck_here", "_law_other", "_law_numbers", "_law_others"] ["_law_script"] (Bv jS):=⟨rfl,rfl,rfl,by decide +kernel,rfl,by decide +kernel,by decide +kernel⟩
theorem BS{f Q I C G h8 T B d b a q  : Addr}{fd j0 h6 k8 k6 j1 q9 k0 r p j z:Cs}(F:Fun K "law" "law" jS f fd)(U:FnOk P w K mg base Hu 3 Q j0 ["holes", "deck"] (Sv K (Um)))(S:Binds K j0 ["holes", "deck"] [])(R:PySem.W.keepIn K (.ref Q)=true)(V:mg "counts" = some (.ref Q))(j3:FnOk P w K mg base Hu 4 I h6 ["holes", "numbers"] (Sv K (dD)))(j9:Binds K h6 ["holes", "numbers"] [])(j4:PySem.W.keepIn K (.ref I)=true)(j8:mg "deck_of" = some (.ref I))(x3:FnOk P w K mg base Hu 1 C k8 ["_law_cell"] (Yl))(x5:Binds K k8 ["_law_cell"] [])(j5:PySem.W.keepIn K (.ref C)=true)(j7:mg "_law_draws" = some (.ref C))(j6:FnOk P w K mg base Hu 1 G k6 ["_law_holes"] (Sv K (cF)))(x4:Binds K k6 ["_law_holes"] [])(x1:PySem.W.keepIn K (.ref G)=true)(x2:mg "_law_words" = some (.ref G))(y1:FnOk P w K mg base Hu 2 h8 j1 ["_law_draws_here"] (cU K (Z2)))(x9:Binds K j1 ["_law_draws_here"] [])(y0:PySem.W.keepIn K (.ref h8)=true)(x7:mg "_law_few" = some (.ref h8))(q6:FnOk P w K mg base Hu 3 T q9 ["_law_draws_here", "_law_holes", "_law_limit"] (cU K (K3)))(q5:Binds K q9 ["_law_draws_here", "_law_holes", "_law_limit"] [])(q7:PySem.W.keepIn K (.ref T)=true)(q8:mg "_law_deck" = some (.ref T))(h9:FnOk P w K mg base Hu 1 B k0 ["_law_numbers", "_law_others"] (Sv K (uZ)))(h7:Binds K k0 ["_law_numbers", "_law_others"] [])(k5:PySem.W.keepIn K (.ref B)=true)(k7:mg "_law_added" = some (.ref B))(Y:FnOk P w K mg base Hu 5 d r ["_law_holes", "_law_words_here", "_law_deck_here", "_law_numbers"] (Sv K (F7)))(h5:Binds K r ["_law_holes", "_law_words_here", "_law_deck_here", "_law_numbers"] [])(Z:PySem.W.keepIn K (.ref d)=true)(X:mg "_law_back_right" = some (.ref d))(M:FnOk P w K mg base Hu 5 b p ["_law_draws_here", "_law_holes", "_law_deck_here", "_law_numbers"] (cU K (pL)))(O:Binds K p ["_law_draws_here", "_law_holes", "_law_deck_here", "_law_numbers"] [])(J:PySem.W.keepIn K (.ref b)=true)(N:mg "_law_parted_right" = some (.ref b))(u:FnOk P w K mg base Hu 4 a j ["_law_draws_here", "_law_holes", "_law_words_here", "_law_deck_here", "_law_numbers"] (cU K (eT)))(y:Binds K j ["_law_draws_here", "_law_holes", "_law_words_here", "_law_deck_here", "_law_numbers"] [])(t:PySem.W.keepIn K (.ref a)=true)(x:mg "_law_numbered_right" = some (.ref a))(k9:FnOk P w K mg base Hu 4 q z ["_law_draws_here", "_law_holes", "_law_words_here", "_law_deck_here", "_law_numbers"] (cU K (x6)))(q0:Binds K z ["_law_draws_here", "_law_holes", "_law_words_here", "_law_deck_here", "_law_numbers"] [])(q3:PySem.W.keepIn K (.ref q)=true)(q4:mg "_law_one_less" = some (.ref q))(y4:mg "min" = none)(j2:mg "list" = none)(x0:mg "sorted" = none):FnOk P w K mg base Hu 6 f fd ["_law_script"] (spLawD K):=by
 refine' CV (k:=5) F ER (λw6 A z2 s H E hr=>?hb) ?h
 case hb =>
  have y3:Room 1 _:=hr.mono (by decide)
  have z5:Room 2 _:=hr.mono (by decide)
  have y2:Room 3 _:=hr.mono (by decide)
  have y5:Room 4 _:=hr.mono (by decide)
  have z0:Room 5 _:=hr.mono (by decide)
  have x8:=hr.units
  exact Ck (Ng Es rfl (P9 (Zy (G4 (pv 0) Yd (Yv Dn)) (Lf (An Dn Bb)))) (Jq (i:=1) ER.nd rfl (Dq rfl))
   (Ck (Fi (i:=2) ER.nd rfl (Dq rfl) (zT x3 y3 rfl j7 j5 x5 Ft (An (Aq (pv 1)) Bb)))
    (Ck (Fi (i:=3) ER.nd rfl (Dq rfl) (Gz (xC rfl) U9 rfl y4 (by decide +kernel) (An Dn (An (Il y1 z5 rfl x7 y0 x9 Ft (pv 2) Bb) Bb))))
    (Ck (Fi (i:=4) ER.nd rfl (Dq rfl) (Fq j6 y3 rfl x2 x1 x4 Ft (An (Aq (pv 3)) Bb)))
    (Ck (Fi (i:=5) ER.nd rfl (Dq rfl) (Il q6 y2 rfl q8 q7 q5 Ft (pv 2) (An (Aq (pv 3)) (An Dn Bb))))
    (Ck (Fi (i:=6) ER.nd rfl (Dq rfl) (Il q6 y2 rfl q8 q7 q5 Ft (pv 2) (An (Aq (pv 3)) (An Dn Bb))))
    (Ck (Fi (i:=7) ER.nd rfl (Dq rfl) (Fq U y2 rfl V R S Ft (An (Aq (pv 3)) (An (Je lF (kC (i:=true)) rfl j2 (by decide +kernel) (An (Aq (pv 5)) Bb)) Bb))))
    (Ck (Pg (jQ (dH (Fq Y z0 rfl X Z h5 Ft (An (Aq (pv 3)) (An (Aq (pv 4)) (An (Aq (pv 5)) (An (Aq (pv 7)) Bb)))))))
    (Dt (Gc Xp)) Mj)
    (Ck (Fi (i:=8) ER.nd rfl (Dq rfl) (Fq U y2 rfl V R S Ft (An (Aq (pv 3)) (An (Je lF (kC (i:=true)) rfl j2 (by decide +kernel) (An (Aq (pv 6)) Bb)) Bb))))
    (Ck (Pg (cV x8 (Fq U y2 rfl V R S Ft (An (Aq (pv 3)) (An (Zy (Aq (pv 5)) (Aq (pv 6))) Bb))) (Fq h9 y3 rfl k7 k5 h7 Ft (An (Aq (pv 7)) (An (Aq (pv 8)) Bb))))
    (Dt (Gc Xp)) Mj)
    (Ck (Pg (cV x8 (Fq j3 y5 rfl j8 j4 j9 Ft (An (Aq (pv 3)) (An (Fq h9 y3 rfl k7 k5 h7 Ft (An (Aq (pv 7)) (An (Aq (pv 8)) Bb))) Bb))) (Of (An jR (An (Gz (Ts.call_sortedI x8) Za rfl x0 (by decide +kernel) (An (Zy (Aq (pv 5)) (Aq (pv 6))) Bb)) Bb))))
    (Dt (Gc Xp)) Mj)
    (Ck (Pg (jQ (dH (Il M z0 rfl N J O Ft (pv 2) (An (Aq (pv 3)) (An (Aq (pv 5)) (An (Aq (pv 7)) Bb))))))
    (Dt (Gc Xp)) Mj)
    (Ck (Pg (jQ (dH (Il u y5 rfl x t y Ft (pv 2) (An (Aq (pv 3)) (An (Aq (pv 4)) (An (Aq (pv 5)) (An (Aq (pv 7)) Bb)))))))
    (Dt (Gc Xp)) Mj)
    (Dt (Pg (jQ (dH (Il k9 y5 rfl q4 q3 q0 Ft (pv 2) (An (Aq (pv 3)) (An (Aq (pv 4)) (An (Aq (pv 5)) (An (Aq (pv 7)) Bb)))))))
    (Dt (Gc Xp)) Mj)))))))))))))))
   (Dt (Gc Xp))
 case h =>
  intro ns w7
  array_get_dec
  have lc:(Mi ns none (some 2)).length<=2:=HE 2
  refine ⟨by rw[Ad]; omega,?_⟩
  refine aK (l:=Mi ns none (some 2)++[0]) (g:=Av) (by rw[Bn]; rfl) (λi δ=>∃(l:List DV) (n':Nat),δ=⟨.scr ns::l,n'⟩/\l.length=8/\(∀v∈l,NP v)/\n'<=1000 * i) ?_ ?_ ?_
  ·exact ⟨_,_,rfl,rfl,by simp [Mv],by omega⟩
  ·(intro i c _ hc q_; obtain ⟨l,n0,rfl,hl,hv,hn⟩ := q_)
   have hi:i<3:=by
    have:=(Ax.mp hc).1
    rw[Bm,Kt] at this
    omega
   obtain ⟨v1,v2,v3,v4,v5,v6,v7,v8,rfl⟩:=GN hl
   simp only[List.forall_mem_cons] at hv
   obtain ⟨v9,w8,w3,w0,v0,w1,w2,w4,-⟩:=hv
   array_get_dec
   refine ⟨rfl,by omega,λh2 h3 h4=>?_⟩
   array_get_dec
   obtain ⟨h,eh,h0,h1⟩ : ∃h:Int,(if h2<7 then h2 else 7)=h/\0<h/\h<=10:=⟨_,rfl,by split <;> omega,by split <;> omega⟩
   rw[eh]
   refine ⟨h,rfl,by omega,h1,λL pe po=>?_⟩
   have nd:=Nw pe
   have ll:=(Vq (n:=h.toNat) (by omega) pe).1
   array_get_dec
   refine ⟨h,24,rfl,h0,h1,by decide,by decide,by omega,λm n1 k1 k2 ld hd=>?_⟩
   array_get_dec
   refine ⟨h,24,rfl,h0,h1,by decide,by decide,by omega,λo n2 k3 k4 w5 y6=>?_⟩
   array_get_dec
   have dk:Dk h L m:=⟨h0,h1,pe,po,by omega,hd⟩
   have y9:∀c∈m++o,Dr h c:=λc hc=>(Bc.mp hc).elim (hd c) (y6 c)
   refine ⟨h,m,rfl,by omega,h1,hd,λL2 z8 z7=>?_⟩
   obtain rfl:L2=L:=Km (z8.trans pe.symm) z7 po
   refine ⟨h,L2,m,rfl,dk,?_⟩
   array_get_dec
   refine ⟨h,o,rfl,by omega,h1,y6,λL3 z3 z6=>?_⟩
   obtain rfl:L3=L2:=Km (z3.trans pe.symm) z6 po
   unfold Kh
   array_get_dec
   refine ⟨by rw[Ad,Ad]; omega,?_⟩
   rw[<- Bn]
   refine ⟨h,m++o,rfl,by omega,h1,y9,λL4 z4 z1=>?_⟩
   obtain rfl:L4=L3:=Km (z4.trans pe.symm) z1 po
   refine ⟨L4,Gf m,Gf o,rfl,ll,?_⟩
   rw[<- vZ]
   unfold Kh
   array_get_dec
   have y7:Dk h L4 (m++o):=⟨h0,h1,pe,po,by rw[Bm]; omega,y9⟩
   obtain ⟨t1,t2⟩:=y7.told
   have y8:=dR pe y7.rd
   have dl:=y8.length_eq
   rw[Bm] at dl
   refine ⟨L4,Gf m,Gf o,rfl,ll,?_⟩
   rw[<- vZ]
   refine ⟨h,L4,Gf (m++o),rfl,by omega,h1,pe,po,λ_=>⟨by rw[t2,Ad,dl]; omega,?_⟩,λw hw z9=>absurd (t1 w hw) (by omega)⟩
   rw[t2]
   array_get_dec
   refine ⟨by rw[Ad,Ad]; omega,m++o,by rw[Bn],λD pD oD=>?_⟩
   obtain rfl:D=On L4 (Nx (m++o)):=Km (pD.trans y8.symm) oD (iI po)
   have e:Em (.tuple [.str (Ds "deck"),.list ((On L4 (Nx (m++o))).map Bf)]) (.tuple [.str (Ds "deck"),.list ((On L4 (Nx (m++o))).map Bf)])=true:=by
    rw[kK,Vt,Vt,oV,t8,decide_eq_true rfl,uA]
    rfl
   rw[e]
   array_get_dec
   refine ⟨h,L4,m,rfl,dk,by omega,?_⟩
   array_get_dec
   refine ⟨h,L4,m,rfl,dk,by omega,?_⟩
   array_get_dec
   refine ⟨h,L4,m,rfl,dk,by omega,λn' q1 q2=>?_⟩
   array_get_dec
   exact ⟨_,_,rfl,rfl,by simp only[List.forall_mem_cons]; exact ⟨Ir,BY,Ir,Ir,Ir,Ir,Ir,Ir,BW⟩,by omega⟩
  ·(intro _ q_; obtain ⟨l,n0,rfl,hl,hv,hn⟩ := q_)
   array_get_dec
end
end K54
namespace K54
open PySem L2 Nd DL
structure Def(K:PySem.W.Frag)(x:Str)(st:Stmt)(f:Addr)(fd:Cs):Prop where
 nm:PySem.W.nsIn K Dl x=some (some (.ref f))
 fn:Fun K x x st f fd
theorem def_mk{K:PySem.W.Frag}{x:Str}{st:Stmt}{f:Addr}{i e:Option Addr}{h:Array (Option Value)}{g kV dc d b ct:Value}(a:PySem.W.nsIn K Dl x=some (some (.ref f)))(l:K.lookup f=some ⟨g,i,.func (PySem.W.fnOf x x (Ql st) (Kz st) (Bv st) .none kV dc d e b ct),h⟩)(c:PySem.W.codeIn K b x=true)(k:PySem.W.keepIn K (.ref f)=true):Def K x st f (PySem.W.fnOf x x (Ql st) (Kz st) (Bv st) .none kV dc d e b ct):=⟨a,K1 l c k⟩
theorem MH{P:List Value->Prop}(h:P []):∀us:List Value,us.length=0->P us
 | [],_=>h
theorem II{P:List Value->Prop}{n:Nat}(h:∀a (us:List Value),us.length=n->P (a::us)):∀us:List Value,us.length=n+1->P us
 | a::us,e=>h a us (Nat.succ.inj e)
theorem DQ{P:List Value->Prop}(h:∀b,P [b]):∀us:List Value,us.length=1->P us:=II λa us e=>MH (P:=λus=>P (a::us)) (h a) us e
theorem T9{P:List Value->Prop}(h:∀b a1,P [b,a1]):∀us:List Value,us.length=2->P us:=II λa us e=>DQ (P:=λus=>P (a::us)) (h a) us e
theorem KW{P:List Value->Prop}(h:∀b a1 a2,P [b,a1,a2]):∀us:List Value,us.length=3->P us:=II λa us e=>T9 (P:=λus=>P (a::us)) (h a) us e
theorem IC{P:List Value->Prop}(h:∀b a1 a2 a3,P [b,a1,a2,a3]):∀us:List Value,us.length=4->P us:=II λa us e=>KW (P:=λus=>P (a::us)) (h a) us e
theorem MC{P:List Value->Prop}(h:∀b a1 a2 a3 a4,P [b,a1,a2,a3,a4]):∀us:List Value,us.length=5->P us:=II λa us e=>IC (P:=λus=>P (a::us)) (h a) us e
theorem all_mk{l:PySem.W.OpenLaw}{w:World}{K:PySem.W.Frag}{h:Heap}{mg:Str->Option Value}{fa f1 f2 f3 f4 f5 f6 f7 f8 f9 x2 k9 h1 k6 j7 q3 q9 x5 x6 h2 q6 k8 h7 z:Addr}{d1 d2 d3 d4 d5 d6 d7 d8 d9 q7 j1 h8 k4 q1 x8 h4 x9 j8 h5 k0 k3 x0:Cs}(X:K.In h)(G:h.Ns Dl mg)(q4:mg "law" = some (.ref fa)){od an:Option Addr}{sl:Array (Option Value)}{oc kV dc pm cd ct:Value}(D1:Def K "_law_draws" jY f1 d1)(D2:Def K "_law_next" vM f2 d2)(D3:Def K "within" Xx f3 d3)(D4:Def K "together" Se f4 d4)(D5:Def K "all_words" Qj f5 d5)(D6:Def K "_law_words" Ow f6 d6)(L:Def K "_law_small" Sf f7 d7)(D8:Def K "_law_few" Ws f8 d8)(D9:Def K "_law_lies" Qi f9 d9)(b:Def K "order_of" Rz x2 q7)(d:Def K "put_to" Xq k9 j1)(g:Def K "parted_by" Uu h1 h8)(a:Def K "counts" cR k6 k4)(q:Def K "just" rD j7 q1)(m:Def K "_law_deck" Tx q3 x8)(c:Def K "deck_of" Vj q9 h4)(f:Def K "needled" aJ x5 x9)(i:Def K "_law_added" Oy x6 j8)(j:Def K "_law_back_right" Mk h2 h5)(n:Def K "_law_one_less" Jt q6 k0)(k:Def K "_law_parted_right" Hi k8 k3)(p:Def K "_law_numbered_right" Eg h7 x0)(aL:PySem.W.nsIn K Dl "law" = some (some (.ref z)))(lL:K.lookup z=some ⟨oc,od,.func (PySem.W.fnOf "law" "law" (Ql jS) (Kz jS) (Bv jS) .none kV dc pm an cd ct),sl⟩)(cL:PySem.W.codeIn K cd "law" = true)(kL:PySem.W.keepIn K (.ref z)=true)(z1:PySem.W.nsIn K Dl "all" = some none)(z2:PySem.W.nsIn K Dl "tuple" = some none)(z3:PySem.W.nsIn K Dl "sorted" = some none)(z4:PySem.W.nsIn K Dl "set" = some none)(z5:PySem.W.nsIn K Dl "range" = some none)(z6:PySem.W.nsIn K Dl "int" = some none)(z7:PySem.W.nsIn K Dl "enumerate" = some none)(z8:PySem.W.nsIn K Dl "zip" = some none)(z9:PySem.W.nsIn K Dl "len" = some none)(z10:PySem.W.nsIn K Dl "list" = some none)(z11:PySem.W.nsIn K Dl "dict" = some none)(z12:PySem.W.nsIn K Dl "min" = some none):∃fd:Cs,(∀(s:Ah) (v:Value),BindsTo s fd ⟨[v],[]⟩ [("_law_script",v)])/\∀base:Heap,K.In base->base.Ns Dl mg->FnOk l.prog w K mg base Hu 6 fa fd ["_law_script"] (DL.spLawD K):=by
 have e:=q4.symm.trans (PySem.W.mg_of X G aL)
 cases e
 have FL:=K1 (st:=jS) lL cL kL
 have b1:=D1.fn.binds (ps:=["_law_cell"]) λ_ _ _ _ _ _=>DQ (λ_=>rfl)
 have Y:=D2.fn.binds (ps:=["_law_draws_here"]) λ_ _ _ _ _ _=>DQ (λ_=>rfl)
 have b3:=D3.fn.binds (ps:=["one", "other"]) λ_ _ _ _ _ _=>T9 (λ_ _=>rfl)
 have b4:=D4.fn.binds (ps:=["one", "other"]) λ_ _ _ _ _ _=>T9 (λ_ _=>rfl)
 have b5:=D5.fn.binds (ps:=["holes"]) λ_ _ _ _ _ _=>DQ (λ_=>rfl)
 have b6:=D6.fn.binds (ps:=["_law_holes"]) λ_ _ _ _ _ _=>DQ (λ_=>rfl)
 have b7:=L.fn.binds (ps:=["_law_draws_here", "_law_holes"]) λ_ _ _ _ _ _=>T9 (λ_ _=>rfl)
 have b8:=D8.fn.binds (ps:=["_law_draws_here"]) λ_ _ _ _ _ _=>DQ (λ_=>rfl)
 have b9:=D9.fn.binds (ps:=["_law_one", "_law_other"]) λ_ _ _ _ _ _=>T9 (λ_ _=>rfl)
 have x:=b.fn.binds (ps:=["holes"]) λ_ _ _ _ _ _=>DQ (λ_=>rfl)
 have U:=d.fn.binds (ps:=["numbers", "order", "place", "times"]) λ_ _ _ _ _ _=>IC (λ_ _ _ _=>rfl)
 have I:=g.fn.binds (ps:=["order", "numbers", "places"]) λ_ _ _ _ _ _=>KW (λ_ _ _=>rfl)
 have o:=a.fn.binds (ps:=["holes", "deck"]) λ_ _ _ _ _ _=>T9 (λ_ _=>rfl)
 have h3:=q.fn.binds (ps:=["holes", "numbers", "notched", "whole"]) λ_ _ _ _ _ _=>IC (λ_ _ _ _=>rfl)
 have q5:=m.fn.binds (ps:=["_law_draws_here", "_law_holes", "_law_limit"]) λ_ _ _ _ _ _=>KW (λ_ _ _=>rfl)
 have S:=c.fn.binds (ps:=["holes", "numbers"]) λ_ _ _ _ _ _=>T9 (λ_ _=>rfl)
 have h0:=f.fn.binds (ps:=["deck", "needles"]) λ_ _ _ _ _ _=>T9 (λ_ _=>rfl)
 have q2:=i.fn.binds (ps:=["_law_numbers", "_law_others"]) λ_ _ _ _ _ _=>T9 (λ_ _=>rfl)
 have j4:=j.fn.binds (ps:=["_law_holes", "_law_words_here", "_law_deck_here", "_law_numbers"]) λ_ _ _ _ _ _=>IC (λ_ _ _ _=>rfl)
 have x1:=n.fn.binds (ps:=["_law_draws_here", "_law_holes", "_law_words_here", "_law_deck_here", "_law_numbers"]) λ_ _ _ _ _ _=>MC (λ_ _ _ _ _=>rfl)
 have y0:=k.fn.binds (ps:=["_law_draws_here", "_law_holes", "_law_deck_here", "_law_numbers"]) λ_ _ _ _ _ _=>IC (λ_ _ _ _=>rfl)
 have j0:=p.fn.binds (ps:=["_law_draws_here", "_law_holes", "_law_words_here", "_law_deck_here", "_law_numbers"]) λ_ _ _ _ _ _=>MC (λ_ _ _ _ _=>rfl)
 have m1:=PySem.W.mg_of X G D1.nm
 have M:=PySem.W.mg_of X G D2.nm
 have m3:=PySem.W.mg_of X G D3.nm
 have m4:=PySem.W.mg_of X G D4.nm
 have m5:=PySem.W.mg_of X G D5.nm
 have m6:=PySem.W.mg_of X G D6.nm
 have m7:=PySem.W.mg_of X G L.nm
 have m8:=PySem.W.mg_of X G D8.nm
 have m9:=PySem.W.mg_of X G D9.nm
 have B:=PySem.W.mg_of X G b.nm
 have Q:=PySem.W.mg_of X G d.nm
 have F:=PySem.W.mg_of X G g.nm
 have t:=PySem.W.mg_of X G a.nm
 have h9:=PySem.W.mg_of X G q.nm
 have k2:=PySem.W.mg_of X G m.nm
 have T:=PySem.W.mg_of X G c.nm
 have R:=PySem.W.mg_of X G f.nm
 have j2:=PySem.W.mg_of X G i.nm
 have x4:=PySem.W.mg_of X G j.nm
 have q0:=PySem.W.mg_of X G n.nm
 have q8:=PySem.W.mg_of X G k.nm
 have k7:=PySem.W.mg_of X G p.nm
 have y1:=PySem.W.mg_none_of X G z1
 have D:=PySem.W.mg_none_of X G z2
 have y:=PySem.W.mg_none_of X G z3
 have y4:=PySem.W.mg_none_of X G z4
 have u:=PySem.W.mg_none_of X G z5
 have y6:=PySem.W.mg_none_of X G z6
 have y7:=PySem.W.mg_none_of X G z7
 have C:=PySem.W.mg_none_of X G z8
 have Z:=PySem.W.mg_none_of X G z9
 have E:=PySem.W.mg_none_of X G z10
 have j3:=PySem.W.mg_none_of X G z11
 have j6:=PySem.W.mg_none_of X G z12
 refine ⟨PySem.W.fnOf "law" "law" (Ql jS) (Kz jS) (Bv jS) .none kV dc pm an cd ct,λs v=>.of_eq rfl,λbase _ _=>?_⟩
 have g1:=yU (P:=l.prog) (w:=w) (mg:=mg) (base:=base) D1.fn
 have V:=G5 (P:=l.prog) (w:=w) (mg:=mg) (base:=base) D2.fn
 have g3:=wR (P:=l.prog) (w:=w) (mg:=mg) (base:=base) D3.fn y1
 have g4:=mC (P:=l.prog) (w:=w) (mg:=mg) (base:=base) D4.fn D y y4
 have g5:=kQ (P:=l.prog) (w:=w) (mg:=mg) (base:=base) D5.fn u y
 have g6:=fW (P:=l.prog) (w:=w) (mg:=mg) (base:=base) D6.fn u y
 have g7:=gE (P:=l.prog) (w:=w) (mg:=mg) (base:=base) L.fn V Y D2.fn.kp M u D
 have g8:=qH (P:=l.prog) (w:=w) (mg:=mg) (base:=base) D8.fn V Y D2.fn.kp M y6
 have g9:=lW (P:=l.prog) (w:=w) (mg:=mg) (base:=base) D9.fn
 have A:=qJ (P:=l.prog) (w:=w) (mg:=mg) (base:=base) b.fn g5 b5 D5.fn.kp m5 y7
 have N:=yH (P:=l.prog) (w:=w) (mg:=mg) (base:=base) d.fn g4 b4 D4.fn.kp m4 C
 have J:=kU (P:=l.prog) (w:=w) (mg:=mg) (base:=base) g.fn N U d.fn.kp Q
 have r:=xT (P:=l.prog) (w:=w) (mg:=mg) (base:=base) a.fn A x b.fn.kp B N U d.fn.kp Q Z u
 have x3:=T7 (P:=l.prog) (w:=w) (mg:=mg) (base:=base) q.fn A x b.fn.kp B J I g.fn.kp F
 have k1:=mG (P:=l.prog) (w:=w) (mg:=mg) (base:=base) m.fn V Y D2.fn.kp M g7 b7 L.fn.kp m7 u Z y y4 D
 have H:=rY (P:=l.prog) (w:=w) (mg:=mg) (base:=base) c.fn A x b.fn.kp B J I g.fn.kp F D u C
 have O:=qV (P:=l.prog) (w:=w) (mg:=mg) (base:=base) f.fn g3 b3 D3.fn.kp m3
 have j5:=fY (P:=l.prog) (w:=w) (mg:=mg) (base:=base) i.fn C
 have x7:=Xe (P:=l.prog) (w:=w) (mg:=mg) (base:=base) j.fn r o a.fn.kp t H S c.fn.kp T O h0 f.fn.kp R E y C Z
 have j9:=Zt (P:=l.prog) (w:=w) (mg:=mg) (base:=base) n.fn r o a.fn.kp t V Y D2.fn.kp M g9 b9 D9.fn.kp m9 Z C y6
 have k5:=Tv (P:=l.prog) (w:=w) (mg:=mg) (base:=base) k.fn x3 h3 q.fn.kp h9 O h0 f.fn.kp R g7 b7 L.fn.kp m7 u y7 D Z
 have h6:=Sm (P:=l.prog) (w:=w) (mg:=mg) (base:=base) p.fn r o a.fn.kp t V Y D2.fn.kp M u y D j3 C
 exact BS FL r o a.fn.kp t H S c.fn.kp T g1 b1 D1.fn.kp m1 g6 b6 D6.fn.kp m6 g8 b8 D8.fn.kp m8 k1 q5 m.fn.kp k2 j5 q2 i.fn.kp j2 x7 j4 j.fn.kp x4 k5 y0 k.fn.kp q8 h6 j0 p.fn.kp k7 j9 x1 n.fn.kp q0 j6 E y
theorem walk{l:PySem.W.OpenLaw}{q:Bk}{loose:List Str}{XP:(Str->Option Value)->Heap->Prop}{YP:World->Heap->Prop}{d:DefRec}{K:Params->PySem.W.Frag}(i:l.most=some 63)(b:d.params.defaults=[])(o:∀(w:World) (h:Heap),YP w h->(K w.params).In h)(F:∀(w:World) (mg:Str->Option Value) (e:Addr) (h:Heap),(K w.params).In h->h.Ns Dl mg->mg d.name=some (.ref e)->∃c:Cs,(∀(s:Ah) (u:Value),BindsTo s c ⟨[u],[]⟩ [("_law_script",u)])/\∀base:Heap,(K w.params).In base->base.Ns Dl mg->FnOk l.prog w (K w.params) mg base Hu 6 e c ["_law_script"] (DL.spLawD (K w.params))):PySem.W.WalkO q loose XP YP l.row.toRowW d [] (λf vs=>PySem.call f vs) :=
 L2.walk_ofD (n:=63) (k:=6) (x := "_law_script") (CX:=λ_=>Hu) (sp:=λw=>DL.spLawD (K w.params)) i (by decide) b ⟨rfl,by decide,by decide,rfl⟩ o F (λ_ _ a j m _ g=>⟨a,j,rfl,g,m,λ_=>rfl⟩) λ_ _ _ _ _ z=>z
end K54
open PySem PySem.W PyProof.Rows
local macro_rules | `(tactic| refine $h:ident (q := $q) (loose := $l) (Xt := $a) (XP := $b) (Yf := $c) (Ya := $d) (YP := $e) (N := $n) ?hl $y*) => `(tactic| refine $h:ident (q := $q) (loose := $l) (Xt := $a) (XP := $b) (Yf := $c) (Ya := $d) (YP := $e) (N := $n) (fun _ => by kernel_rfl) $y*)
set_option maxRecDepth 100000 in
set_option maxHeartbeats 0 in
theorem PySem.Challenge.cw_needledeck_k54_whole_counts_there_and_ba_holds : PySem.Challenge.rw_needledeck_k54_whole_counts_there_and_ba.Holds := by
 w_on; refine holds_law (by kernel_rfl) λsaid=>?_; k_head; (case hw=>w_witness2)
 k_fill
 refine K54.walk (l:=PySem.Challenge.rw_needledeck_k54_whole_counts_there_and_ba) rfl rfl (λw h Y=>PySem.W.kIn_of Y) ?F
 case F =>
  intro w mg fa h KX G hmg
  refine' K54.all_mk KX G hmg (K54.def_mk ?a1 ?l1 ?c1 ?k1) (K54.def_mk ?a2 ?l2 ?c2 ?k2) (K54.def_mk ?a3 ?l3 ?c3 ?k3) (K54.def_mk ?a4 ?l4 ?c4 ?k4) (K54.def_mk ?a5 ?l5 ?c5 ?k5) (K54.def_mk ?a6 ?l6 ?c6 ?k6) (K54.def_mk ?a7 ?l7 ?c7 ?k7) (K54.def_mk ?a8 ?l8 ?c8 ?k8) (K54.def_mk ?a9 ?l9 ?c9 ?k9) (K54.def_mk ?a10 ?l10 ?c10 ?k10) (K54.def_mk ?a11 ?l11 ?c11 ?k11) (K54.def_mk ?a12 ?l12 ?c12 ?k12) (K54.def_mk ?a13 ?l13 ?c13 ?k13) (K54.def_mk ?a14 ?l14 ?c14 ?k14) (K54.def_mk ?a15 ?l15 ?c15 ?k15) (K54.def_mk ?a16 ?l16 ?c16 ?k16) (K54.def_mk ?a17 ?l17 ?c17 ?k17) (K54.def_mk ?a18 ?l18 ?c18 ?k18) (K54.def_mk ?a19 ?l19 ?c19 ?k19) (K54.def_mk ?a20 ?l20 ?c20 ?k20) (K54.def_mk ?a21 ?l21 ?c21 ?k21) (K54.def_mk ?a22 ?l22 ?c22 ?k22) ?aL ?lL ?cL ?kL ?z1 ?z2 ?z3 ?z4 ?z5 ?z6 ?z7 ?z8 ?z9 ?z10 ?z11 ?z12
  (case a1=>k_is); (case l1=>k_is); (case c1=>k_is); (case k1=>k_is)
  (case a2=>k_is); (case l2=>k_is); (case c2=>k_is); (case k2=>k_is)
  (case a3=>k_is); (case l3=>k_is); (case c3=>k_is); (case k3=>k_is)
  (case a4=>k_is); (case l4=>k_is); (case c4=>k_is); (case k4=>k_is)
  (case a5=>k_is); (case l5=>k_is); (case c5=>k_is); (case k5=>k_is)
  (case a6=>k_is); (case l6=>k_is); (case c6=>k_is); (case k6=>k_is)
  (case a7=>k_is); (case l7=>k_is); (case c7=>k_is); (case k7=>k_is)
  (case a8=>k_is); (case l8=>k_is); (case c8=>k_is); (case k8=>k_is)
  (case a9=>k_is); (case l9=>k_is); (case c9=>k_is); (case k9=>k_is)
  (case a10=>k_is); (case l10=>k_is); (case c10=>k_is); (case k10=>k_is)
  (case a11=>k_is); (case l11=>k_is); (case c11=>k_is); (case k11=>k_is)
  (case a12=>k_is); (case l12=>k_is); (case c12=>k_is); (case k12=>k_is)
  (case a13=>k_is); (case l13=>k_is); (case c13=>k_is); (case k13=>k_is)
  (case a14=>k_is); (case l14=>k_is); (case c14=>k_is); (case k14=>k_is)
  (case a15=>k_is); (case l15=>k_is); (case c15=>k_is); (case k15=>k_is)
  (case a16=>k_is); (case l16=>k_is); (case c16=>k_is); (case k16=>k_is)
  (case a17=>k_is); (case l17=>k_is); (case c17=>k_is); (case k17=>k_is)
  (case a18=>k_is); (case l18=>k_is); (case c18=>k_is); (case k18=>k_is)
  (case a19=>k_is); (case l19=>k_is); (case c19=>k_is); (case k19=>k_is)
  (case a20=>k_is); (case l20=>k_is); (case c20=>k_is); (case k20=>k_is)
  (case a21=>k_is); (case l21=>k_is); (case c21=>k_is); (case k21=>k_is)
  (case a22=>k_is); (case l22=>k_is); (case c22=>k_is); (case k22=>k_is)
  (case aL=>k_is); (case lL=>k_is); (case cL=>k_is); (case kL=>k_is)
  (case z1=>k_is); (case z2=>k_is); (case z3=>k_is); (case z4=>k_is); (case z5=>k_is); (case z6=>k_is); (case z7=>k_is); (case z8=>k_is); (case z9=>k_is); (case z10=>k_is); (case z11=>k_is); (case z12=>k_is)