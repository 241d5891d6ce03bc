import PyProof.Rows.All
import Wide.All
import OpenK.AllK
import Wide.FinOn
import Lean
import PyProof.EqAt
import PyProof.EqKinds
import PyProof.TupleCall
import PyProof.FactsAll.set
import PyProof.FactsAll.subtypes
import KE.KTupSum
import KE.KMinBuiltin
import PyProof.Draws
import PyProof.DictWalks
import PyProof.DictCompW
import PyProof.IsiH_tuple
import PyProof.FactsAll.zip
import KE.KDictOf
import PyProof.DictValues
import PySem.Challenge.RW_needledeck_k55_whole_one_thing_other
set_option Elab.async false
set_option linter.all false
set_option maxRecDepth 100000
set_option maxHeartbeats 4000000
set_option genSizeOf false
local macro_rules|`(tactic|omega)=>`(tactic|first|lia|omega +splitDisjunctions)
theorem e0a2{G:Prop}(k:A→B→G)(h:A∧B):G:=k h.1 h.2
theorem e0a3{G:Prop}(k:A→B→C→G)(h:A∧B∧C):G:=k h.1 h.2.1 h.2.2
theorem e0a4{G:Prop}(k:A→B→C→D→G)(h:A∧B∧C∧D):G:=k h.1 h.2.1 h.2.2.1 h.2.2.2
theorem e0a5{G:Prop}(k:A→B→C→D→E→G)(h:A∧B∧C∧D∧E):G:=k h.1 h.2.1 h.2.2.1 h.2.2.2.1 h.2.2.2.2
theorem e0a6{G:Prop}(k:A→B→C→D→E→F→G)(h:A∧B∧C∧D∧E∧F):G:=k h.1 h.2.1 h.2.2.1 h.2.2.2.1 h.2.2.2.2.1 h.2.2.2.2.2
theorem e1a1{a:Type}{A:a→Prop}{G:Prop}(k:∀x,A x→G)(h:∃x,A x):G:=h.elim λx h=>k x h
theorem e1a2{a:Type}{A B:a→Prop}{G:Prop}(k:∀x,A x→B x→G)(h:∃x,A x∧B x):G:=h.elim λx h=>k x h.1 h.2
theorem e1a3{a:Type}{A B C:a→Prop}{G:Prop}(k:∀x,A x→B x→C x→G)(h:∃x,A x∧B x∧C x):G:=h.elim λx h=>k x h.1 h.2.1 h.2.2
theorem e1a4{a:Type}{A B C D:a→Prop}{G:Prop}(k:∀x,A x→B x→C x→D x→G)(h:∃x,A x∧B x∧C x∧D x):G:=h.elim λx h=>k x h.1 h.2.1 h.2.2.1 h.2.2.2
theorem e2a1{a b:Type}{A:a→b→Prop}{G:Prop}(k:∀x y,A x y→G)(h:∃x y,A x y):G:=h.elim λx h=>h.elim λy h=>k x y h
theorem e2a2{a b:Type}{A B:a→b→Prop}{G:Prop}(k:∀x y,A x y→B x y→G)(h:∃x y,A x y∧B x y):G:=h.elim λx h=>h.elim λy h=>k x y h.1 h.2
theorem e2a3{a b:Type}{A B C:a→b→Prop}{G:Prop}(k:∀x y,A x y→B x y→C x y→G)(h:∃x y,A x y∧B x y∧C x y):G:=h.elim λx h=>h.elim λy h=>k x y h.1 h.2.1 h.2.2
theorem e2a4{a b:Type}{A B C D:a→b→Prop}{G:Prop}(k:∀x y,A x y→B x y→C x y→D x y→G)(h:∃x y,A x y∧B x y∧C x y∧D x y):G:=h.elim λx h=>h.elim λy h=>k x y h.1 h.2.1 h.2.2.1 h.2.2.2
theorem e3a1{a b c:Type}{A:a→b→c→Prop}{G:Prop}(k:∀x y z,A x y z→G)(h:∃x y z,A x y z):G:=h.elim λx h=>h.elim λy h=>h.elim λz h=>k x y z h
theorem e3a3{a b c:Type}{A B C:a→b→c→Prop}{G:Prop}(k:∀x y z,A x y z→B x y z→C x y z→G)(h:∃x y z,A x y z∧B x y z∧C x y z):G:=h.elim λx h=>h.elim λy h=>h.elim λz h=>k x y z h.1 h.2.1 h.2.2
theorem e3a4{a b c:Type}{A B C D:a→b→c→Prop}{G:Prop}(k:∀x y z,A x y z→B x y z→C x y z→D x y z→G)(h:∃x y z,A x y z∧B x y z∧C x y z∧D x y z):G:=h.elim λx h=>h.elim λy h=>h.elim λz h=>k x y z h.1 h.2.1 h.2.2.1 h.2.2.2
theorem e3a5{a b c:Type}{A B C D E:a→b→c→Prop}{G:Prop}(k:∀x y z,A x y z→B x y z→C x y z→D x y z→E x y z→G)(h:∃x y z,A x y z∧B x y z∧C x y z∧D x y z∧E x y z):G:=h.elim λx h=>h.elim λy h=>h.elim λz h=>k x y z h.1 h.2.1 h.2.2.1 h.2.2.2.1 h.2.2.2.2
theorem e4a1{a b c d:Type}{A:a→b→c→d→Prop}{G:Prop}(k:∀x y z w,A x y z w→G)(h:∃x y z w,A x y z w):G:=h.elim λx h=>h.elim λy h=>h.elim λz h=>h.elim λw h=>k x y z w h
theorem e4a2{a b c d:Type}{A B:a→b→c→d→Prop}{G:Prop}(k:∀x y z w,A x y z w→B x y z w→G)(h:∃x y z w,A x y z w∧B x y z w):G:=h.elim λx h=>h.elim λy h=>h.elim λz h=>h.elim λw h=>k x y z w h.1 h.2
theorem e5a2{d a b e c:Type}{A B:d→a→b→e→c→Prop}{G:Prop}(k:∀x y z w u,A x y z w u→B x y z w u→G)(h:∃x y z w u,A x y z w u∧B x y z w u):G:=h.elim λx h=>h.elim λy h=>h.elim λz h=>h.elim λw h=>h.elim λu h=>k x y z w u h.1 h.2
theorem e4a5{a b c d:Type}{A B C D E:a→b→c→d→Prop}{G:Prop}(k:∀x y z w,A x y z w→B x y z w→C x y z w→D x y z w→E x y z w→G)(h:∃x y z w,A x y z w∧B x y z w∧C x y z w∧D x y z w∧E x y z w):G:=h.elim λx h=>h.elim λy h=>h.elim λz h=>h.elim λw h=>k x y z w h.1 h.2.1 h.2.2.1 h.2.2.2.1 h.2.2.2.2
theorem e5a5{d a b e c:Type}{A B C D E:d→a→b→e→c→Prop}{G:Prop}(k:∀x y z w u,A x y z w u→B x y z w u→C x y z w u→D x y z w u→E x y z w u→G)(h:∃x y z w u,A x y z w u∧B x y z w u∧C x y z w u∧D x y z w u∧E x y z w u):G:=h.elim λx h=>h.elim λy h=>h.elim λz h=>h.elim λw h=>h.elim λu h=>k x y z w u h.1 h.2.1 h.2.2.1 h.2.2.2.1 h.2.2.2.2
theorem e6a5{d a e f c b:Type}{A B C D E:d→a→e→f→c→b→Prop}{G:Prop}(k:∀x y z w u v,A x y z w u v→B x y z w u v→C x y z w u v→D x y z w u v→E x y z w u v→G)(h:∃x y z w u v,A x y z w u v∧B x y z w u v∧C x y z w u v∧D x y z w u v∧E x y z w u v):G:=h.elim λx h=>h.elim λy h=>h.elim λz h=>h.elim λw h=>h.elim λu h=>h.elim λv h=>k x y z w u v h.1 h.2.1 h.2.2.1 h.2.2.2.1 h.2.2.2.2
theorem e4a7{a b c d:Type}{A B C D E F H:a→b→c→d→Prop}{G:Prop}(k:∀x y z w,A x y z w→B x y z w→C x y z w→D x y z w→E x y z w→F x y z w→H x y z w→G)(h:∃x y z w,A x y z w∧B x y z w∧C x y z w∧D x y z w∧E x y z w∧F x y z w∧H x y z w):G:=h.elim λx h=>h.elim λy h=>h.elim λz h=>h.elim λw h=>k x y z w h.1 h.2.1 h.2.2.1 h.2.2.2.1 h.2.2.2.2.1 h.2.2.2.2.2.1 h.2.2.2.2.2.2
theorem e5a7{c a d e b:Type}{A B C D E F H:c→a→d→e→b→Prop}{G:Prop}(k:∀x y z w u,A x y z w u→B x y z w u→C x y z w u→D x y z w u→E x y z w u→F x y z w u→H x y z w u→G)(h:∃x y z w u,A x y z w u∧B x y z w u∧C x y z w u∧D x y z w u∧E x y z w u∧F x y z w u∧H x y z w u):G:=h.elim λx h=>h.elim λy h=>h.elim λz h=>h.elim λw h=>h.elim λu h=>k x y z w u h.1 h.2.1 h.2.2.1 h.2.2.2.1 h.2.2.2.2.1 h.2.2.2.2.2.1 h.2.2.2.2.2.2
theorem e6a7{d a e f c b:Type}{A B C D E F H:d→a→e→f→c→b→Prop}{G:Prop}(k:∀x y z w u v,A x y z w u v→B x y z w u v→C x y z w u v→D x y z w u v→E x y z w u v→F x y z w u v→H x y z w u v→G)(h:∃x y z w u v,A x y z w u v∧B x y z w u v∧C x y z w u v∧D x y z w u v∧E x y z w u v∧F x y z w u v∧H x y z w u v):G:=h.elim λx h=>h.elim λy h=>h.elim λz h=>h.elim λw h=>h.elim λu h=>h.elim λv h=>k x y z w u v h.1 h.2.1 h.2.2.1 h.2.2.2.1 h.2.2.2.2.1 h.2.2.2.2.2.1 h.2.2.2.2.2.2
local macro_rules|`(tactic|obtain $p:rcasesPatMed:=$v:term)=>do
 let c s:=((p.raw.reprint.getD "").splitOn s).length
 if c ","<3||c "|">1||c ":">1 then Lean.Macro.throwUnsupported
 let T (a:Lean.Syntax):Lean.TSyntax `Lean.Parser.Tactic.rcasesPatMed:=⟨a⟩
 let q:=p.raw
 let x:=q[0][0]
 let l:=x[1].getSepArgs
 let mut a:Array (Lean.TSyntax ``Lean.Parser.Tactic.tacticSeq):=#[]
 let mut y:Array Lean.Term:=#[]
 let mut z:Array (Array (Lean.TSyntax `tactic)):=#[]
 for o in l do
  let u:=o[0][0][0]
  let f:=Lean.mkIdent (←Lean.Macro.addMacroScope (.mkSimple s!"f{y.size}"))
  if u[0].getId==`rfl then
   y:=y.push f
   z:=z.push #[←`(tactic|subst $f:term)]
  else if u[0].isIdent then
   y:=y.push ⟨u[0]⟩
   z:=z.push #[]
  else if u[1].isMissing then
   y:=y.push (←`(_))
   z:=z.push #[]
  else
   y:=y.push f
   z:=z.push #[←`(tactic|obtain $(T o[0]):rcasesPatMed:=$f)]
 for j in [0:l.size] do
  if j==1 then continue
  let n:=l.size-j
  let mut i:=y.extract 0 n
  let mut w:=(z.extract 0 n).flatten
  if j>0 then
   i:=i.push (←`(r_))
   w:=w.push (←`(tactic|obtain $(T (q.setArg 0 (q[0].setArg 0 (x.setArg 1 (Lean.mkNullNode (Lean.mkSepArray (l.extract n l.size) (Lean.mkAtom ","))))))):rcasesPatMed:=r_))
  for k in [0:i.size] do
   let m:=Lean.mkIdent (.mkSimple s!"e{k}a{i.size-k}")
   let g←if v.raw.isIdent then `(tactic|(revert $(⟨v⟩):ident;refine $m fun $i*=>?_)) else `(tactic|refine $m (fun $i*=>?_) $v)
   a:=a.push (←`(Lean.Parser.Tactic.tacticSeq| $g:tactic;$[$w];*))
  if j==0&& !v.raw.isIdent then
   a:=a.push (←`(Lean.Parser.Tactic.tacticSeq| have h_ := $v; obtain $p := h_))
   break
 a:=a.push (←`(Lean.Parser.Tactic.tacticSeq| rcases $v:term with $p))
 `(tactic|first $[| $a]*)
open Array renaming length_toList → An, getD_eq_getD_getElem? → Dc, toList_append → Dz, getElem?_toList → Gd, getElem?_eq_getElem → Hg, getElem?_eq_some_iff → Iv, toList_push → Jo, getElem?_eq_none → Nz, toList_extract → Pq, perm_iff_toList_perm → Sg, size_setIfInBounds → Tu, toList_reverse → Xz, size_map → Yb, forIn_toList → bA, toList_setIfInBounds → lJ
open Bool renaming false_ne_true → Bk, false_eq_true → Bt, and_eq_true → En, eq_iff_iff → Jn, not_eq_true' → Lq, not_eq_false' → Sq, not_true → Us, and_false → Yw
open Classical renaming byContradiction → Rk
open False renaming elim → Lw
open ForInStep renaming done → Df, yield → Eu
open Int renaming toNat_natCast → Ed, ne_of_lt → eQ
open LawfulBEq renaming eq_of_beq → Ee
open List renaming mem_cons_self → Ab, mem_cons_of_mem → Ac, length_map → Ad, mem_append_right → Ag, mem_singleton → Aj, mem_cons → Al, mem_append_left → Am, map_cons → Aq, size_toArray → Av, mem_append → Aw, pairwise_cons → Ay, not_mem_nil → Ba, getElem?_eq_some_iff → Bb, getElem?_map → Bg, length_cons → Bh, mem_of_getElem? → Bj, length_append → Bm, map_append → Bp, sublist_append_right → Bq, append_assoc → Br, range → Bw, nodup_cons → Bx, replicate → Cc, pairwise_append → Cg, lookup_cons → Ci, mem_map → Cm, getElem?_eq_getElem → Co, length_range → Cu, sublist_cons_self → Di, map_map → Dj, length_take → Dw, nodup_nil → Dx, perm_append_comm → Dy, append_nil → Eb, take_length → Ek, perm_middle → El, pairwise_singleton → Em, length → Fh, length_singleton → Fi, cons_append → Fq, nodup_append → Fz, take_of_length_le → Gw, replicate_succ → Gx, map_congr_left → Gy, mem_replicate → Hk, filter_append → Hl, mem_range → Hs, mem_iff_getElem → Ht, length_zip → Ib, dropLast_concat_getLast → Ic, sum_cons → Io, mem_flatMap → Iq, getElem?_append_right → Jb, take_append_drop → Je, length_nil → Jl, find?_cons → Jm, take_sublist → Jp, flatten_cons → Jq, drop_sublist → Jr, getElem?_take_of_lt → Jx, length_reverse → Kc, filterMap_cons → Kd, length_eq_zero_iff → Kg, map_set → Ks, length_zipIdx → Kt, reverse_perm → Lo, flatMap_cons → Lp, pairwise_iff_getElem → Mj, getElem?_append_left → Mk, extract_eq_take_drop → Ml, length_pos_iff → Mo, filter_eq_self → Mp, eq_of_mem_replicate → Mw, zip_cons_cons → Nj, lookup → Nl, reverse_cons → Oh, map_nil → Oi, getElem?_set → Oj, ext_getElem? → Ol, countP_congr → Om, length_replicate → Pb, zipIdx_cons → Pf, any_cons → Po, mem_filter → Rf, forIn_cons → Rg, getD_cons_zero → Ri, getD_cons_succ → Rj, ne_nil_of_mem → Sj, forIn_nil → Sk, drop_zero → Sm, drop_eq_getElem_cons → Tr, mem_reverse → Vc, length_drop → Vd, eraseIdx_cons_succ → Ve, all_eq_true → Vf, append_eq_nil_iff → Wl, length_set → Xm, pairwise_reverse → Xp, getElem?_reverse → Xq, map_eq_nil_iff → aN, flatMap_append → aO, mem_filterMap → cG, getElem?_drop → cH, mapM_toArray → dO, foldl_append → dP, any_map → dQ, countP_cons → iM, any_eq_true → iN, eq_nil_of_length_eq_zero → iV, countP_eq_length_filter → jO, perm_append_comm_assoc → lH, perm_ext_iff_of_nodup → oW, getElem?_zip_eq_some → oZ, length_erase_of_mem → sX, length_pos_of_mem → vX, getElem?_set_self → vY, filter_eq_nil_iff → vZ, drop_of_length_le → wA, mem_iff_getElem? → yR
open List.Pairwise renaming nil → Ds, sublist → Ke
open List.Perm renaming swap → Ef, refl → Hj, cons → Jt, append_left → Kq
open List.Sublist renaming refl → Cp, cons → Xr
open List.cons renaming inj → Ec
open Nat renaming le_refl → Ak, ne_of_lt → By, le_trans → Ca, lt_of_lt_of_le → Cb, zero_le → Dq, lt_succ_of_lt → Gb, lt_irrefl → Ip, le_add_right → Ki, le_of_lt → La, not_lt_zero → Ld, zero_add → Os, le_succ → Qc, ne_of_gt → Se, lt_succ_self → Vh, succ_pos → Xj, mod_lt → Xk, lt_trans → Xl, pow_le_pow_right → Zb, lt_succ_iff → lG
open Ne renaming symm → Nk
open Option renaming none → Su, isSome_iff_exists → Tq
open Option.some renaming inj → Cj
open Or renaming inl → Dk, inr → Xo
open Prod.mk renaming injEq → Hi
open PyProof.Rows renaming wpS_bind → Bc, pendingOf → Bi, wpS_pure → Bl, SortSt → Bz, seqObj → Er, callWith_type1 → Fc, wpS_forRange → Fe, slot_tuple_getitem → Fg, IntsAre → Fm, wpS_mono → Iu, wpS_modify → Lm, failedOf → Nx, SortKind → Ny, get?_update_seq → Og, wpS_get → Ph, envOfC → Ss, reverseSlice' → Xi, AllBare → Zd, sortedAll → dN, subscriptTail → iJ, listUpdate_at → iK, firstOfTuple' → iL, size_push' → iS, listItems_at → lE, subscriptTail_builtinR → V2
open PyProof.Rows.F renaming plain_set_update_loop → Lb, entry_set_update_loop → Ur
open PySem renaming wpAny_bind → Aa, wpAny_pure → Ae, PyData → Af, Shared → Ah, sizeLine → Au, Program → Bn, starEach → Bo, wpAny_holding → Ce, wpAny_newObj_type → Cf, Around → Ck, SetTable → Cr, wpAny_call_entry → Ct, FuncData → Cv, wpAny_callSpecial?_slot → Cy, wpAny_mono → Da, foldedSetIterable → Dd, mainGlobals → Do, cellsFrom → Es, rawInt → Ff, wpAny_field → Fl, sysModules → Fs, assignEach → Gg, IsPair → Gh, codeAny_builtin → Gp, sizeLine_eq → Gs, behindInMarks → Hf, backTo → Hm, wpAny_isInstance → Hu, DictEntry → Hv, wpAny_standAt → Hx, codeAny → Hy, pyNext → Ig, letOwnedTupleGo → Il, wpAny_typeOf → Jc, wpAny_attempt → Jh, wpAny_setField_rec → Jj, wpAny_seqItems → Jk, compareOp → Jy, wpAny_of_eq → Jz, wpAny_dictEntries → Ka, binaryOp → Kb, wpAny_comprehension_free → Kh, firstArgMember → Kz, wpAny_typeNameOfWhole_valiter → Li, wpAny_typeNameOfWhole_keyiter → Lj, unsetMember → Lk, sliceBounds → Ll, wpAny_rule → Ln, wpAny_truthy_bool → Mf, wpAny_setField → Ms, newFunctionEnv → Mt, wpAny_typeNameOf_valiter → Nu, wpAny_typeNameOf_keyiter → Nv, setField → Nw, wpAny_dictEpoch → Of, tupleKind → Ox, swapsWith → Oy, wpAny_fieldsOf → Pi, codeAny_mono → Pj, codeAny_compStart_list → Pk, bootBuiltins → Pl, assign → Pm, wpAny_notOrdered_dict → Rb, builtinLookup_eq_fast → Rc, wpAny_pyIter_zip → Rh, plainId_quiet → Rm, holding → Rn, attributeBase → Ro, ZipApart → Rz, NameKind → Sf, wpAny_passesOwn → Sr, getItem → Tt, wpAny_Call_Name_kw → Uz, wpAny_storeSet_of → Wh, wpAny_pyIter_slot → Wi, wpAny_newList → Xg, strLen_append → Xh, wpAny_askSetting → Xw, pickOrder → Xx, compEnvC → Xy, wpAny_nextOf_list_item → Yx, wpAny_load → Yy, intKind → Yz, entryOfKey → Za, wpAny_loadPart' → aH, typeLookup_type → aI, codeAny_of_tree → aJ, wpAny_isOneOf_valiter → aT, wpAny_updateSeq_pair → cQ, pyIter → cR, isSubtype_type → cS, isSubtype_stop → cT, entryFor_alias → cU, IsPart → cV, standAt → dM, Keyword → dR, wpAny_onRaise → iI, typeLookup → iR, setEntries → iT, call_meets → iU, wpAny_sequenceKey → lA, wpAny_pyIter_list → lC, slot_list_getitem → lD, codeAny_loop → lF, noFill_tuple_add → oY, wpAny_letOwnedTupleGo_zip → A3, wpAny_getItem_list_slice → A5, wpAny_pyNext_tuple_item → U8, wpAny_pyNext_tuple_end → V1
open PySem.Around renaming under_plainId → Gm
open PySem.Builtin renaming sorted → aV
open PySem.Builtin.Dict renaming showsAll → My, updateFrom → eR
open PySem.Builtin.Dict_items renaming ownsTuple → Hb
open PySem.Builtin.Frozenset renaming addrOf → Ep, isAnySet → Kf, updateFrom → Mx, copyOf → Pc, baseOf → Zc, slot1 → aP
open PySem.Builtin.List renaming listTooLong → Ls, listExtendWith → Oz, listLengthHint → aZ
open PySem.Builtin.Range renaming rangeSize → Ly
open PySem.Builtin.Slice renaming slicePlaces → Lc, sliceAdjust → Pp, sliceApplied → aY
open PySem.Builtin.SmallTypes renaming ownedTupleIsFree → Dg, nextOf → Dm, ownedTupleHandOut → Sn
open PySem.Builtin.Tuple renaming tupleExact → Gz, tupleItemsOf → aW, tupleIsExact → aX
open PySem.Calls renaming call_function_entry → Mh, callWith_builtin → Vi, spliced_cons → aU, spliced_nil → cW, Name_function_global → lI
open PySem.F renaming slot_zip_next → Yv
open PySem.Heap renaming get?_push_of_some → Ai, get?_push_size → Ap, lt_size → Ax, SameBut → Cw, get?_update_self → Fj, size_push → Fo, size_update → Mg, get?_push_cases → Ys, get?_none_of_le → Yt, ExtBut → Yu, get?_update_other → wB
open PySem.Heap.SameBut renaming update → Bs, refl → Qd
open PySem.NameKind renaming cell → Eh, free → Fd
open PySem.Obj renaming mapSeq → Eo, mapFields → Py, data_mapFields → Sv
open PySem.PassesOwn renaming never → Et
open PySem.PyData renaming int → Az, depthAll → Bu, depth → Ea, showable → Kr, hasDict → Nq, shownAll → Px, shown → Re, tuple → Vb, showableAll → aM, hasDictAll → cE
open PySem.SeqAt renaming EqAt → Pa
open PySem.SetTable renaming below → Cs, bits → Dl, sizeAbove → Dv, insertAt → Ho, turns → Ij, runEnd → Jd, laid → Ko, layClean → Sd, fill → Si, insertAt_perm → oV
open PySem.SetTable.below renaming go → Wk
open PySem.SetTable.layClean renaming free → Lv
open PySem.SetTable.probe renaming go → Pn
open PySem.Str renaming ofString → Cq
open PySem.Value renaming ref → Be, none → Gu, type → Lu, int → Lz
open Sum renaming inl → aK
open True renaming intro → Wj
namespace L2
open PySem PySem.Spec PyProof.Rows
abbrev Ky:=Sum Int Str
def kT:Ky->Value->Bool
 | .inl k,v=>Value.isInt k v
 | .inr x,v=>Value.isStrOf x v
def OM(w:World):Ky->Int
 | .inl k=>hashInt k
 | .inr x=>hashStr w x
theorem Jg:∀{k:Ky} {v:Value},kT k v=true->(∃i t,k=aK i/\v=Lz i t)\/(∃x t,k=Sum.inr x/\v=Value.str x t)
 | .inl i,v,h=>by
  obtain ⟨t,e⟩:=Value.isInt_shape (k:=i) (v:=v) h
  exact .inl ⟨i,t,rfl,e⟩
 | .inr x,v,h=>by
  obtain ⟨t,e⟩:=Value.isStrOf_shape (x:=x) (v:=v) h
  exact .inr ⟨x,t,rfl,e⟩
theorem zC(i:Int)(t:Tok):kT (.inl i) (.int i t)=true:=by simp [kT,Value.isInt]
theorem A0(x:Str)(t:Tok):kT (.inr x) (.str x t)=true:=by simp [kT,Value.isStrOf]
theorem HL(a b:Int):decide ((aK a:Ky)=aK b)=(a == b):=by
 by_cases e:a=b
 ·subst e; simp
 ·have h:¬ (aK a:Ky)=aK b:=λq=>e (Sum.inl.inj q)
  rw[decide_eq_false h]
  exact (beq_eq_false_iff_ne.mpr e).symm
theorem GX(a b:Str):decide ((Sum.inr a:Ky)=Sum.inr b)=decide (a=b):=by
 by_cases e:a=b
 ·subst e; simp
 ·have h:¬ (Sum.inr a:Ky)=Sum.inr b:=λq=>e (Sum.inr.inj q)
  rw[decide_eq_false h,decide_eq_false e]
theorem GI(a:Int)(b:Str):decide ((aK a:Ky)=Sum.inr b)=false:=decide_eq_false (λq=>nomatch q)
theorem EY(a:Str)(b:Int):decide ((Sum.inr a:Ky)=aK b)=false:=decide_eq_false (λq=>nomatch q)
def Jf(prog:Bn)(w:World):PySem.KeyKind prog w Ky where
 is:=kT
 hash:=OM w
 inj:=λv a b f d=>by
  rcases Jg f with ⟨i,t,rfl,rfl⟩ | ⟨x,t,rfl,rfl⟩
  ·rcases Jg d with ⟨j,u,rfl,e⟩ | ⟨y,u,rfl,e⟩
   ·injection e with e1 _; rw[e1]
   ·exact nomatch e
  ·rcases Jg d with ⟨j,u,rfl,e⟩ | ⟨y,u,rfl,e⟩
   ·exact nomatch e
   ·injection e with e1 _; rw[e1]
 byValue:=λk v h=>by
  rcases Jg h with ⟨i,t,rfl,rfl⟩ | ⟨x,t,rfl,rfl⟩ <;> rfl
 pyHash:=λc h=>by
  rcases Jg c with ⟨i,t,rfl,rfl⟩ | ⟨x,t,rfl,rfl⟩
  ·exact wpAny_pyHash_int h
  ·exact wpAny_pyHash_str h
 eqBool:=λg c h=>by
  rcases Jg g with ⟨i,t,rfl,rfl⟩ | ⟨x,t,rfl,rfl⟩
  ·rcases Jg c with ⟨j,u,rfl,rfl⟩ | ⟨y,u,rfl,rfl⟩
   ·rw[HL] at h; exact wpAny_eqBool_int h
   ·rw[GI] at h; exact SeqAt.EqAt.int_str i t y u _ _ _ _ h
  ·rcases Jg c with ⟨j,u,rfl,rfl⟩ | ⟨y,u,rfl,rfl⟩
   ·rw[EY] at h; exact SeqAt.EqAt.str_int x t j u _ _ _ _ h
   ·rw[GX] at h; exact wpAny_eqBool_str h
 «strs»:=λk x t v h=>by
  rcases Jg h with ⟨i,u,rfl,e⟩ | ⟨y,u,rfl,e⟩
  ·exact nomatch e
  ·injection e with e1 _
   subst e1
   cases v <;> rfl
theorem qS(prog:Bn)(w:World)(i:Int)(t:Tok):(Jf prog w).is (.inl i) (.int i t)=true:=zC i t
theorem rE(prog:Bn)(w:World)(x:Str)(t:Tok):(Jf prog w).is (.inr x) (.str x t)=true:=A0 x t
inductive V where
 | non | bl (b:Bool) | int (i:Int) | str (x:Str) | byt (b:Array UInt8) | flt (b:UInt64) | ref (a:Addr) | ty (n:String)
 deriving DecidableEq
def RelV:V->Value->Prop
 | .non,u=>u=Gu
 | .bl b,u=>u=Value.bool b
 | .int i,u=>∃t,u=Lz i t
 | .str x,u=>∃t,u=Value.str x t
 | .byt b,u=>∃t,u=Value.bytes b t
 | .flt b,u=>∃t,u=Value.float b t
 | .ref a,u=>u=Be a
 | .ty n,u=>u=Lu n
abbrev Gn:List V->List Value->Prop:=Paired RelV
theorem Gn.length(r:Gn xs us):xs.length=us.length:=Paired.length r
theorem Gn.get:∀{xs:List V} {us:List Value} {i:Nat} {x:V},Gn xs us->xs[i]? = some x->∃u,us[i]? = some u/\RelV x u
 | _,_,_,_,.nil,e=>by simp at e
 | _,_,0,_,.cons r _,e=>by simp at e; subst e; exact ⟨_,rfl,r⟩
 | _,_,i+1,x,.cons _ t,e=>by
  obtain ⟨u,a,b⟩:=Gn.get (i:=i) (x:=x) t (by simpa using e)
  exact ⟨u,by simpa using a,b⟩
theorem Gn.set(r:RelV x u):∀{xs:List V} {us:List Value} (i:Nat),Gn xs us->Gn (xs.set i x) (us.set i u)
 | _,_,_,.nil=>.nil
 | _,_,0,.cons _ t=>.cons r t
 | _,_,i+1,.cons q t=>.cons q (Gn.set r i t)
theorem Gn.append:∀{xs ys:List V} {us a:List Value},Gn xs us->Gn ys a->Gn (xs++ys) (us++a)
 | _,_,_,_,.nil,s=>s
 | _,_,_,_,.cons r t,s=>.cons r (Gn.append t s)
theorem Gn.take:∀{xs:List V} {us:List Value} (n:Nat),Gn xs us->Gn (xs.take n) (us.take n)
 | _,_,0,_=>.nil
 | _,_,_+1,.nil=>.nil
 | _,_,n+1,.cons r t=>.cons r (Gn.take n t)
theorem Gn.drop:∀{xs:List V} {us:List Value} (n:Nat),Gn xs us->Gn (xs.drop n) (us.drop n)
 | _,_,0,r=>r
 | _,_,_+1,.nil=>.nil
 | _,_,n+1,.cons _ t=>Gn.drop n t
def zF:Option V->Option Value->Prop
 | some v,some u=>RelV v u
 | none,none=>True
 | _,_=>False
def KV{a:Type}:List (a×V)->List (a×Value)->Prop:=Paired λ(p:a×V) (q:a×Value)=>p.1=q.1/\RelV p.2 q.2
def kV:Ky->V
 | .inl i=>.int i
 | .inr x=>.str x
inductive HO where
 /-- a list -/
 | lst (xs:List V)
 /-- a tuple (never changes) -/
 | tup (xs:List V)
 /-- a dict whose keys are ints and texts; one whose keys are tuples of ints and texts (the empty one is both) -/
 | dK (kvs:List (Ky×V)) | dT (kvs:List (List Ky×V))
 /-- a set of ints: its members,its size -/
 | set (S:Int->Bool) (n:Nat)
 /-- an instance of the class at C,its dict at dx,its attributes -/
 | ins (C dx:Addr) (fs:List (Str×V))
 /-- the dict of the instance at x -/
 | own (x:Addr)
 /-- the dict of an exception -/
 | xd (fs:List (Str×V))
 /-- a bound method,f of x -/
 | met (f x:Addr)
 /-- a range object lo,lo+1,.. below hi -/
 | rng (lo hi:Int)
 /-- a thing that is known to the object (the script; a dict while a loop walks it): read,never written while it is so -/
 | frz (o:Obj) (u:HO)
 /-- a code object's table -/
 | tbl (ps:Array Value)
 /-- any other thing,by what is true of its one object (a def of one's own: bJ a S n:=HO.ext λh=>..) -/
 | ext (φ:Heap->Prop)
abbrev Hp:=Addr->Option HO
def upd(H:Hp)(a:Addr)(o:HO):Hp:=λb=>if b=a then some o else H b
theorem Dn:upd H a o a=some o:=by unfold upd; rw[if_pos rfl]
theorem Dr(h:b≠a):upd H a o b=H b:=by unfold upd; rw[if_neg h]
theorem L0{H:Hp}(h:H a=some o)(h':H b=some u)(d:o≠u):a≠b:=by
 intro e; subst e; rw[h] at h'; exact d (Cj h')
theorem Gf{H:Hp}(h:H a=some o)(h':H b=none):a≠b:=by
 intro e; subst e; rw[h] at h'; cases h'
section
variable(P:Bn)(w:World)
def Kw(H:Hp)(h:Heap)(a:Addr):HO->Prop
 | .lst d=>d.length<=Au/\∃(c:List Value) (n:Nat),Gn d c/\h.get? a=some { cls:=.type "list",data:=.seq c.toArray n }
 | .tup d=>d.length<=Au/\∃c:List Value,Gn d c/\IsTup h a c.toArray
 | .dK b=>b.length<=Au/\(a == Fs)=false/\∃vs,KV b vs/\h.DictOf (Jf P w) a vs
 | .dT b=>b.length<=Au/\(a == Fs)=false/\∃d:List (List Ky×Addr×Value),
   Paired (λ(p:List Ky×V) (q:List Ky×Addr×Value)=>p.1=q.1/\H q.2.1=some (.tup (p.1.map kV))/\RelV p.2 q.2.2) b d /\
   ∃o i m,h.get? a=some o/\o.ExactDict/\o.data=.dict i m/\i.toList=d.map (Za (Ox (Jf P w)))/\(d.map (·.1)).Nodup/\m=i.size
 | .set S n=>h.SetOf (Yz P w) a S n
 | .ins C g fs=>H g=some (.own a)/\fs.length<=1000/\g≠a/\h.get? a=some (PySem.W.instObj C g) /\
   ∃e,h.Ns1 g e/\(∀f,zF (fs.lookup f) (e f))/\PySem.Within e (fs.map (·.1))
 | .own _=>∃o,h.get? a=some o
 | .xd fs=>∃e,h.Ns1 a e/\∀f,zF (fs.lookup f) (e f)
 | .rng lo s=>∃t u v,h.get? a=some { cls:=.type "range",data:=.fields #[.int lo t,.int s u,.int 1 v] }
 | .frz o u=>h.get? a=some o/\Kw H h a u
 | .tbl r=>h.get? a=some { cls:=.none,data:=.fields r }
 | .met f x=>h.get? a=some (PySem.W.methodObj (.ref f) (.ref x))
 | .ext j=>j h/\(∃o,h.get? a=some o)/\∀k l:Heap,j k->(∀o,k.get? a=some o->l.get? a=some o)->j l
def aS(H:Hp)(h:Heap):Prop:=∀a o,H a=some o->Kw P w H h a o
end
section
variable{P:Bn}{w:World}{H g:Hp}{h h':Heap}{a:Addr}{o:HO}
theorem Kw.lt(x:Kw P w H h a o):a<h.objs.size:=by
 cases o with
 | lst c=>obtain ⟨_,_,_,_,e⟩:=x; exact Ax e
 | tup c=>obtain ⟨_,_,_,p⟩:=x; exact p.lt
 | dK b=>obtain ⟨_,_,_,_,o,_,_,e,_⟩:=x; exact Ax e
 | dT b=>obtain ⟨_,_,_,_,o,_,_,e,_⟩:=x; exact Ax e
 | set S n=>obtain ⟨o,_,_,_,e,_⟩:=x; exact Ax e
 | ins C d fs=>obtain ⟨_,_,_,e,_⟩:=x; exact Ax e
 | own y=>obtain ⟨_,e⟩:=x; exact Ax e
 | xd fs=>obtain ⟨_,⟨_,_,_,e,_⟩,_⟩:=x; exact Ax e
 | rng lo j=>obtain ⟨_,_,_,e⟩:=x; exact Ax e
 | frz i u=>obtain ⟨e,_⟩:=x; exact Ax e
 | tbl g=>exact Ax (show h.get? a=some _ from x)
 | met f y=>exact Ax (show h.get? a=some _ from x)
 | ext k=>obtain ⟨_,⟨_,e⟩,_⟩:=x; exact Ax e
theorem Paired.mapP:∀{l₁:List d} {l₂:List c},Paired F l₁ l₂->(∀a b,F a b->G a b)->Paired G l₁ l₂
 | _,_,.nil,_=>.nil
 | _,_,.cons r t,f=>.cons (f _ _ r) (Paired.mapP t f)
theorem Kw.stay(x:Kw P w H h a o)(k:∀b u,(b=a\/H b=some (.own a))->h.get? b=some u->h'.get? b=some u)(I:∀b,H b=some (.own a)->g b=some (.own a))(G:∀b xs,H b=some (.tup xs)->g b=some (.tup xs)):Kw P w g h' a o:=by
 induction o with
 | lst xs=>obtain ⟨z,m,n,r,e⟩:=x; exact ⟨z,m,n,r,k _ _ (.inl rfl) e⟩
 | tup xs=>obtain ⟨z,m,r,i,e,c⟩:=x; exact ⟨z,m,r,i,k _ _ (.inl rfl) e,c⟩
 | dK s=>obtain ⟨z,y,vs,r,i,j,l,e,c⟩:=x; exact ⟨z,y,vs,r,i,j,l,k _ _ (.inl rfl) e,c⟩
 | dT s =>
  obtain ⟨z,y,xs,r,i,j,l,e,c⟩:=x
  exact ⟨z,y,xs,Paired.mapP r λp q z=>⟨z.1,G _ _ z.2.1,z.2.2⟩,i,j,l,k _ _ (.inl rfl) e,c⟩
 | set S n=>obtain ⟨i,j,l,t,e,c⟩:=x; exact ⟨i,j,l,t,k _ _ (.inl rfl) e,c⟩
 | ins C K fs =>
  obtain ⟨d,z,J,e,A,⟨B,j,l,E,c⟩,r⟩:=x
  exact ⟨I _ d,z,J,k _ _ (.inl rfl) e,A,⟨B,j,l,k _ _ (.inr d) E,c⟩,r⟩
 | own y=>obtain ⟨i,e⟩:=x; exact ⟨i,k _ _ (.inl rfl) e⟩
 | xd fs=>obtain ⟨A,⟨B,j,l,e,c⟩,r⟩:=x; exact ⟨A,⟨B,j,l,k _ _ (.inl rfl) e,c⟩,r⟩
 | rng lo L=>obtain ⟨t,u,v,e⟩:=x; exact ⟨t,u,v,k _ _ (.inl rfl) e⟩
 | frz i u F=>obtain ⟨e,q⟩:=x; exact ⟨k _ _ (.inl rfl) e,F q⟩
 | tbl D =>
  have e:h.get? a=some { cls:=.none,data:=.fields D }:=x
  show h'.get? a=some { cls:=.none,data:=.fields D }
  exact k a _ (.inl rfl) e
 | met f y =>
  have e:h.get? a=some (PySem.W.methodObj (.ref f) (.ref y)):=x
  show h'.get? a=some (PySem.W.methodObj (.ref f) (.ref y))
  exact k a _ (.inl rfl) e
 | ext M=>obtain ⟨p,⟨o,e⟩,st⟩:=x; exact ⟨st _ _ p λo q=>k _ _ (.inl rfl) q,⟨o,k _ _ (.inl rfl) e⟩,st⟩
theorem aS.lt(x:aS P w H h)(e:H a=some o):a<h.objs.size:=(x a o e).lt
theorem aS.fresh(x:aS P w H h)(e:h.objs.size<=a):H a=none:=by
 cases q:H a with
 | none=>rfl
 | some u=>exact absurd (Cb (x.lt q) e) (Ip _)
theorem aS.kept(x:aS P w H h)(k:∀b u,h.get? b=some u->h'.get? b=some u):aS P w H h':=λa o e =>
 (x a o e).stay (λb u _ q=>k b u q) (λ_ q=>q) λ_ _ q=>q
theorem aS.laid(x:aS P w H h)(k:∀b u,h.get? b=some u->h'.get? b=some u)(i:h.objs.size<=a)(d:Kw P w (upd H a o) h' a o):aS P w (upd H a o) h':=λb u e=>by
 have f:=x.fresh i
 by_cases g:b=a
 ·subst g; rw[Dn] at e; cases e; exact d
 ·rw[Dr g] at e
  exact (x b u e).stay (λc v _ q=>k c v q) (λc q=>by rw[Dr (Gf q f)]; exact q) λc j q=>by rw[Dr (Gf q f)]; exact q
end
def Rd(H:Hp)(a:Addr)(u:HO):Prop:=H a=some u\/∃o,H a=some (.frz o u)
theorem Rd.ok(r:Rd H a u)(x:aS P w H h):Kw P w H h a u:=by
 rcases r with r | ⟨o,r⟩
 ·exact x a u r
 ·obtain ⟨_,q⟩:=x a _ r
  exact q
def LD:Option HO->Prop
 | some (.lst _)=>True
 | some (.dK _)=>True
 | some (.dT _)=>True
 | some (.set _ _)=>True
 | some (.ins _ _ _)=>True
 | some (.ext _)=>True
 | _=>False
section
variable{P:Bn}{w:World}{H:Hp}{h h':Heap}{x e:Addr}{a:HO}
theorem aS.write(ok:aS P w H h)(g:LD (H x))(n:e=x\/H e=some (.own x))(k:∀b u,b≠e->h.get? b=some u->h'.get? b=some u)(m:∃u,h'.get? e=some u)(l:Kw P w (upd H x a) h' x a):aS P w (upd H x a) h':=λb u q=>by
 have f:∀c y,H c=some (.own y)->c≠x:=λc y r z=>by subst z; rw[r] at g; exact g
 have mR:∀c j,H c=some (.tup j)->c≠x:=λc j r z=>by subst z; rw[r] at g; exact g
 by_cases i:b=x
 ·subst i; rw[Dn] at q; cases q; exact l
 ·rw[Dr i] at q
  by_cases d:b=e
  ·have o:H b=some (.own x):=by
    rcases n with z | z
    ·exact absurd (d.trans z) i
    ·rw[d]; exact z
   rw[q] at o; cases o
   obtain ⟨v,p⟩:=m
   exact ⟨v,by rw[d]; exact p⟩
  ·refine (ok b u q).stay (λc v hc r=>k c v ?_ r) (λc r=>by rw[Dr (f c b r)]; exact r) λc j r=>by rw[Dr (mR c j r)]; exact r
   rcases hc with rfl | hc
   ·exact d
   ·rintro rfl
    rcases n with z | z
    ·exact f c b hc z
    ·rw[hc] at z; cases z; exact i rfl
end
structure Un(fs ex:List Addr)(H H':Hp)(h h':Heap):Prop where
 keep:∀b o,h.get? b=some o->H b=none->b∉fs->b∉ex->h'.get? b=some o
 slot:∀b o,h.get? b=some o->H b=none->b∈fs->b∉ex->∃sl,h'.get? b=some { o with slots:=sl }
 free:∀b o,h.get? b=some o->H b=none->b∉ex->H' b=none
 there:∀b o,h.get? b=some o->b∉ex->∃o',h'.get? b=some o'
 tups:∀b xs,H b=some (.tup xs)->H' b=some (.tup xs)
 frzs:∀b o u,H b=some (.frz o u)->H' b=some (.frz o u)
 tbls:∀b ps,H b=some (.tbl ps)->∃more,H' b=some (.tbl (ps++more))
section
variable{fs d ex c:List Addr}{H f i:Hp}{h h1 g h':Heap}{a x e:Addr}{o:HO}
theorem Un.any(u:Un fs ex H f h h1){a:Obj}(q:h.get? b=some a)(n:H b=none)(c:b∉ex):∃e,h1.get? b=some { a with slots:=e }:=by
 by_cases d:b∈fs
 ·exact u.slot b a q n d c
 ·exact ⟨a.slots,u.keep b a q n d c⟩
theorem Un.kept(k:∀b u,h.get? b=some u->h'.get? b=some u):Un fs ex H H h h' :=
 ⟨λb a q _ _ _=>k b a q,λb a q _ _ _=>⟨a.slots,k b a q⟩,λ_ _ _ n _=>n,λb a q _=>⟨a,k b a q⟩,λ_ _ q=>q,λ_ _ _ q=>q,λ_ c q=>⟨#[],by rw[q]; simp⟩⟩
theorem Un.refl:Un fs ex H H h h:=Un.kept λ_ _ q=>q
theorem Un.laid(k:∀b u,h.get? b=some u->h'.get? b=some u)(e:h.objs.size<=a)(c:H a=none):Un fs ex H (upd H a o) h h' where
 keep:=λb u q _ _ _=>k b u q
 slot:=λb u q _ _ _=>⟨u.slots,k b u q⟩
 free:=λb u q n _=>by rw[Dr (By (Cb (Ax q) e))]; exact n
 there:=λb u q _=>⟨u,k b u q⟩
 tups:=λb d q=>by rw[Dr (Gf q c)]; exact q
 frzs:=λb u d q=>by rw[Dr (Gf q c)]; exact q
 tbls:=λb f q=>⟨#[],by rw[Dr (Gf q c),q]; simp⟩
theorem Un.write(c:LD (H x))(j:e=x\/H e=some (.own x))(k:∀b u,b≠e->h.get? b=some u->h'.get? b=some u)(f:∃u,h'.get? e=some u):Un fs ex H (upd H x o) h h':=by
 have i:∀b,H b=none->b≠x:=λb n z=>by subst z; rw[n] at c; exact c
 have g:∀b,H b=none->b≠e:=λb n z=>by
  subst z
  rcases j with r | r
  ·exact i b n r
  ·rw[n] at r; cases r
 have d:∀b u,H b=some u->¬ LD (some u)->b≠x:=λb u q l z=>by subst z; rw[q] at c; exact l c
 refine ⟨λb u q n _ _=>k b u (g b n) q,λb u q n _ _=>⟨u.slots,k b u (g b n) q⟩,λb u q n _=>by rw[Dr (i b n)]; exact n,λb u q _=>?_,
  λb m q=>by rw[Dr (d b _ q λz=>z)]; exact q,λb u m q=>by rw[Dr (d b _ q λz=>z)]; exact q,λb p q=>⟨#[],by rw[Dr (d b _ q λz=>z),q]; simp⟩⟩
 by_cases a:b=e
 ·subst a; exact f
 ·exact ⟨u,k b u a q⟩
end
def ND(h:Heap)(H:Hp):List Addr:=(Bw h.objs.size).filter λa=>(H a).isSome
def lS(h:Heap)(H:Hp):Heap:=PySem.W.hideAll h (ND h H)
theorem u0(h:Heap)(H:Hp):(lS h H).objs.size=h.objs.size:=PySem.W.hideAll_size _ _
theorem F5(e:h.get? b=some o)(n:H b=none):(lS h H).get? b=some o :=
 PySem.W.hideAll_get _ e λa=>by
  have q:(H b).isSome=true:=(Rf.mp a).2
  rw[n] at q; simp at q
theorem CC(e:(lS h H).get? b=some o):h.get? b=some o/\H b=none:=by
 have a:h.get? b=some o:=PySem.W.of_hideAll (ND h H) e
 refine ⟨a,?_⟩
 cases q:H b with
 | none=>rfl
 | some x =>
  have c:b∈ND h H:=List.mem_filter.mpr ⟨Hs.mpr (Ax a),by simp [q]⟩
  have z:(lS h H).get? b=none:=PySem.W.hideAll_none (ND h H) c
  rw[z] at e; cases e
def X8(g h:Heap)(L:Addr):List (Addr×Obj):=(Bw h.objs.size).filterMap λa=>if a=L\/(g.get? a).isSome=true then none else (h.get? a).map λo=>(a,o)
def Iy(g h:Heap)(L d:Addr):List (Addr×Obj):=(X8 g h L).filter λp=>decide (p.1≠d)
structure Mod(K:PySem.W.Frag)(mg:Str->Option Value)(base:Heap):Prop where
 kin:K.In base
 glob:base.Ns Do mg
 blt:∃mb,base.Ns builtinsNs mb/\∀x:Str,x ≠ "__name__" -> mb x=Pl x
 nolimit:base.NoLimit
structure Cx where
 prog:Bn
 w:World
 K:PySem.W.Frag
 mg:Str->Option Value
 base:Heap
 A:Ck
 N:List Str
 s₀:Ah
 H₀:Hp
 env:Env
 outer:List Env
 stack:List Env
 ex:List Addr
 fn:Str->Bool
 calm:Bool
 pn:List (Addr×Obj)
 xe:Value->Ah->Prop
def q9(l:List Env):List Addr:=l.filterMap (·.frame)
abbrev Cx.fs(X:Cx):List Addr:=q9 X.outer
def MY(a:Scope)(x:Str):Prop:=a.names.lookup x=some .local\/a.names.lookup x=some .cell\/a.names.lookup x=some .free
def Loc(a:Scope)(x:Str):Prop:=a.names.lookup x=some .local\/a.names.lookup x=some .cell
def PD(env:Env)(h:Heap)(m:Str->Option Value)(x:Str)(u:Value):Prop :=
 (env.kindOf x=some .local/\m x=some u)\/((env.kindOf x=some .cell\/env.kindOf x=some .free)/\∃c,env.cells.lookup x=some c/\h.IsCell c (some u))
structure Cx.Ok(X:Cx):Prop where
 mod:Mod X.K X.mg X.base
 kind:X.env.scope.kind=.function
 glob:X.env.globals=Do
 blt:X.env.builtins=builtinsNs
 above:X.s₀.heap.objs.size<=X.env.locals
 inj:∀x y c,X.env.cells.lookup x=some c->X.env.cells.lookup y=some c->x=y
 has:∀x,(X.env.kindOf x=some .cell\/X.env.kindOf x=some .free)->∃c,X.env.cells.lookup x=some c
 cab:∀x c,X.fn x=true->X.env.cells.lookup x=some c->X.s₀.heap.objs.size<=c
 hd:X.calm=true->X.A.handled=none
 frames:X.A.frames=some X.stack
 stk:X.stack=X.outer\/(X.stack=X.env::X.outer/\X.env.frame=some X.env.locals)
 exf:∀b∈X.ex,b≠X.env.locals/\∀x c,X.env.cells.lookup x=some c->c≠b
 bs:∀b o,X.base.get? b=some o->X.s₀.heap.get? b=some o/\X.H₀ b=none
 bsz:X.base.objs.size<=X.s₀.heap.objs.size
 noex:∀b o,X.base.get? b=some o->b∉X.ex
 exfs:∀b∈X.ex,b∉X.fs
 funs:X.s₀.heap.FunFrames X.base X.outer
 frf:∀b∈X.fs,X.H₀ b=none
structure Inv(X:Cx)(pins:List (Addr×Obj))(σ:List (Option V))(H:Hp)(s:Ah):Prop where
 ok:X.Ok
 os:s.os=X.s₀.os
 bare:Zd s.gens
 base:Un X.fs X.ex X.H₀ H X.s₀.heap s.heap
 loc:∃m,s.heap.Ns X.env.locals m/\∀(i:Nat) (x:Str) (v:V),X.N[i]? = some x->σ[i]? = some (some v)->MY X.env.scope x->∃u,RelV v u/\PD X.env s.heap m x u
 cell:∀x c,X.env.cells.lookup x=some c->∃v,s.heap.IsCell c v
 free:H X.env.locals=none
 freeC:∀x c,X.env.cells.lookup x=some c->H c=none
 pin:∀p∈X.pn++pins,s.heap.get? p.1=some p.2/\H p.1=none/\p.1≠X.env.locals/\p.1∉X.fs/\∀v,p.2.data≠.cell v
 hok:aS X.prog X.w H s.heap
 len:σ.length=X.N.length
section
variable{X:Cx}{f:List (Addr×Obj)}{g:List (Option V)}{H B:Hp}{s:Ah}{h':Heap}
theorem Cx.Ok.nofr(ok:X.Ok)(e:X.base.get? b=some o):b∉X.fs:=λa=>by
 have:=(ok.funs.mem a).1
 rw[e] at this; cases this
theorem Inv.bs(I:Inv X f g H s):∀b o,X.base.get? b=some o->s.heap.get? b=some o/\H b=none:=λb o e =>
 ⟨I.base.keep b o (I.ok.bs b o e).1 (I.ok.bs b o e).2 (I.ok.nofr e) (I.ok.noex b o e),I.base.free b o (I.ok.bs b o e).1 (I.ok.bs b o e).2 (I.ok.noex b o e)⟩
theorem Inv.bk(I:Inv X f g H s):∀b o,X.base.get? b=some o->s.heap.get? b=some o:=λb o e=>(I.bs b o e).1
theorem Inv.mod(I:Inv X f g H s):Mod X.K X.mg X.base:=I.ok.mod
theorem Inv.kIn(I:Inv X f g H s):X.K.In s.heap:=I.ok.mod.kin.keeps I.bk
theorem Inv.lt(I:Inv X f g H s):X.env.locals<s.heap.objs.size:=let ⟨_,hn,_⟩:=I.loc; hn.lt
theorem Inv.sz(I:Inv X f g H s):X.s₀.heap.objs.size<=s.heap.objs.size:=Ca I.ok.above (La I.lt)
theorem Inv.nofs(I:Inv X f g H s){a:Addr}(h:s.heap.objs.size<=a):a∉X.fs:=λc=>by
 obtain ⟨_,o,b,_⟩:=I.ok.funs.mem c
 exact absurd (Cb (Ax b) (Ca I.sz h)) (Ip _)
theorem Inv.cne(I:Inv X f g H s):∀x c,X.env.cells.lookup x=some c->c≠X.env.locals:=λx c e z=>by
 obtain ⟨v,o,d,h⟩:=I.cell x c e
 obtain ⟨m,⟨k,i,j,b,a,_⟩,_⟩:=I.loc
 rw[z,b] at d; cases d; rw[a] at h; cases h
theorem Inv.funs(I:Inv X f g H s):s.heap.FunFrames X.base X.outer:=by
 have all:∀(l:List Env),(∀b∈q9 l,b∈X.fs)->X.s₀.heap.FunFrames X.base l->s.heap.FunFrames X.base l:=by
  intro l
  induction l with
  | nil=>intro _ _; trivial
  | cons t r j =>
   intro h i
   obtain ⟨n,⟨L,o,a,m,p,q⟩,k⟩:=i
   have d:L∈X.fs:=h L (by unfold q9; rw[Kd,a]; exact Ab)
   obtain ⟨u,e⟩:=I.base.slot L o p (I.ok.frf L d) d λz=>I.ok.exfs L z d
   exact ⟨n,⟨L,_,a,m,e,q⟩,j (λb c=>h b (by unfold q9; rw[Kd,a]; exact Ac _ c)) k⟩
 exact all X.outer (λ_ c=>c) I.ok.funs
theorem Inv.stack(I:Inv X f g H s):s.heap.FunFrames X.base X.stack:=by
 rcases I.ok.stk with e | ⟨e,a⟩
 ·rw[e]; exact I.funs
 ·rw[e]
  obtain ⟨m,b,_⟩:=I.loc
  refine .cons (by rw[I.ok.kind]; decide) a b ?_ I.funs
  exact Yt (Ca I.ok.bsz I.ok.above)
theorem Inv.stkSub(I:Inv X f g H s):∀b∈q9 X.stack,b∈X.env.locals::X.fs:=λb a=>by
 rcases I.ok.stk with e | ⟨e,c⟩
 ·rw[e] at a; exact Ac _ a
 ·rw[e] at a
  unfold q9 at a
  rw[Kd,c] at a
  exact a
theorem Inv.stkFree(I:Inv X f g H s):∀b∈q9 X.stack,H b=none:=λb hb=>by
 rcases Al.mp (I.stkSub b hb) with e | hb
 ·rw[e]; exact I.free
 ·obtain ⟨_,o,a,_⟩:=I.ok.funs.mem hb
  exact I.base.free b o a (I.ok.frf b hb) λz=>I.ok.exfs b z hb
theorem Inv.step{ch:List Addr}(I:Inv X f g H s)(h:∀b∈ch,(b∈X.ex\/X.s₀.heap.objs.size<=b)/\b≠X.env.locals/\(∀x c,X.env.cells.lookup x=some c->c≠b)/\∀p∈X.pn++f,p.1≠b)(keep:∀b o,b≠X.env.locals->b∉X.fs->b∉ch->s.heap.get? b=some o->H b=none->h'.get? b=some o)(slot:∀b o,b≠X.env.locals->b∈X.fs->b∉ch->s.heap.get? b=some o->H b=none->∃J,h'.get? b=some { o with slots:=J })(free:∀b o,b∉ch->s.heap.get? b=some o->H b=none->B b=none)(there:∀b o,b∉ch->s.heap.get? b=some o->∃G,h'.get? b=some G)(tups:∀b xs,H b=some (.tup xs)->B b=some (.tup xs))(frzs:∀b o u,H b=some (.frz o u)->B b=some (.frz o u))(tbls:∀b ps,H b=some (.tbl ps)->∃more,B b=some (.tbl (ps++more)))(ns:∀m,s.heap.Ns X.env.locals m->h'.Ns X.env.locals m)(M:aS X.prog X.w B h')(W:Zd g'):Inv X f g B { s with heap:=h',gens:=g',drawn:=d',toks:=t' }:=by
 have F:∀b o,X.s₀.heap.get? b=some o->b≠X.env.locals:=λb o e=>By (Cb (Ax e) I.ok.above)
 have A:∀b o,X.s₀.heap.get? b=some o->b∉X.ex->b∉ch:=λb o e a C=>by
  rcases (h b C).1 with z | z
  ·exact a z
  ·exact absurd (Cb (Ax e) z) (Ip _)
 have j:∀x c,X.env.cells.lookup x=some c->∀v,s.heap.IsCell c v->h'.IsCell c v:=λx c e v ⟨o,D,K⟩=>by
  have t:c∉ch:=λz=>(h c z).2.2.1 x c e rfl
  by_cases P:c∈X.fs
  ·obtain ⟨J,q⟩:=slot c o (I.cne x c e) P t D (I.freeC x c e)
   exact ⟨_,q,K⟩
  ·exact ⟨o,keep c o (I.cne x c e) P t D (I.freeC x c e),K⟩
 refine ⟨I.ok,I.os,W,⟨λb o e n C a=>?_,λb o e n C a=>?_,λb o e n a=>?_,λb o e a=>?_,λb xs e=>tups b xs (I.base.tups b xs e),λb o xs e=>frzs b o xs (I.base.frzs b o xs e),λb ps e=>?_⟩,?_,λx c e=>?_,?_,λx c e=>?_,λp O=>?_,M,I.len⟩
 ·exact keep b o (F b o e) C (A b o e a) (I.base.keep b o e n C a) (I.base.free b o e n a)
 ·obtain ⟨J,y⟩:=I.base.slot b o e n C a
  obtain ⟨L,E⟩:=slot b _ (F b o e) C (A b o e a) y (I.base.free b o e n a)
  exact ⟨L,E⟩
 ·obtain ⟨G,y⟩:=I.base.there b o e a
  exact free b G (A b o e a) y (I.base.free b o e n a)
 ·obtain ⟨G,y⟩:=I.base.there b o e a
  exact there b G (A b o e a) y
 ·obtain ⟨V,y⟩:=I.base.tbls b ps e
  obtain ⟨R,E⟩:=tbls b _ y
  exact ⟨V++R,by rw[E,Array.append_assoc]⟩
 ·obtain ⟨m,U,T⟩:=I.loc
  refine ⟨m,ns m U,λi x v y E S=>?_⟩
  obtain ⟨u,r,l⟩:=T i x v y E S
  refine ⟨u,r,?_⟩
  rcases l with l | ⟨k,c,e,z⟩
  ·exact .inl l
  ·exact .inr ⟨k,c,e,j x c e _ z⟩
 ·obtain ⟨v,z⟩:=I.cell x c e
  exact ⟨v,j x c e v z⟩
 ·obtain ⟨m,⟨o,_,_,D,_⟩,_⟩:=I.loc
  exact free _ o (λz=>(h _ z).2.1 rfl) D I.free
 ·obtain ⟨v,o,D,K⟩:=I.cell x c e
  exact free c o (λz=>(h c z).2.2.1 x c e rfl) D (I.freeC x c e)
 ·obtain ⟨e,n,Q,N,d⟩:=I.pin p O
  have t:p.1∉ch:=λz=>(h p.1 z).2.2.2 p O rfl
  exact ⟨keep p.1 p.2 Q N t e n,free p.1 p.2 t e n,Q,N,d⟩
theorem Inv.un(I:Inv X f g H s)(u:Un X.fs [] H B s.heap h')(c:aS X.prog X.w B h'):Inv X f g B { s with heap:=h',toks:=t' }:=by
 obtain ⟨m,⟨o,t,v,j,r⟩,_⟩:=id I.loc
 obtain ⟨q,k⟩:=u.any j I.free (by simp)
 exact I.step (g':=s.gens) (d':=s.drawn) (ch:=[]) (λ_ z=>nomatch z) (λb o _ h _ e n=>u.keep b o e n h (by simp)) (λb o _ h _ e n=>u.slot b o e n h (by simp)) (λb o _ e n=>u.free b o e n (by simp)) (λb o _ e=>u.there b o e (by simp)) u.tups u.frzs u.tbls (λy l=>by
  obtain ⟨x,i,d,a,p⟩:=l
  rw[j] at a; cases a
  exact ⟨_,i,d,k,p⟩) c I.bare
theorem Inv.call(I:Inv X f g H s)(u:Un (q9 X.stack) ch H B s.heap h')(j:aS X.prog X.w B h')(A:Zd g')(d:∀b∈ch,(b∈X.ex\/X.s₀.heap.objs.size<=b)/\b≠X.env.locals/\(∀x c,X.env.cells.lookup x=some c->c≠b)/\∀p∈X.pn++f,p.1≠b):Inv X f g B { s with heap:=h',gens:=g',drawn:=d',toks:=t' }:=by
 obtain ⟨m,⟨o,D,E,q,r⟩,_⟩:=id I.loc
 obtain ⟨C,i⟩:=u.any q I.free λz=>(d _ z).2.1 rfl
 exact I.step (ch:=ch) d (λb o i y a e n=>u.keep b o e n (λz=>(Al.mp (I.stkSub b z)).elim i y) a) (λb o _ _ a e n=>u.any e n a) (λb o a e n=>u.free b o e n a) (λb o a e=>u.there b o e a) u.tups u.frzs u.tbls (λG t=>by
  obtain ⟨F,l,k,h,v⟩:=t
  rw[q] at h; cases h
  exact ⟨_,l,k,i,v⟩) j A
theorem Inv.turned(I:Inv X f g H s)(k:∀b o,b≠it->s.heap.get? b=some o->h'.get? b=some o)(l:H it=none)(h:it≠X.env.locals)(h1:it∈X.ex\/X.s₀.heap.objs.size<=it)(t:∀x c,X.env.cells.lookup x=some c->c≠it)(j:∀p∈X.pn++f,p.1≠it):Inv X f g H { s with heap:=h',toks:=t' }:=by
 have d:∀b u,H b=some u->b≠it:=λb u e z=>by rw[z,l] at e; cases e
 refine I.step (g':=s.gens) (d':=s.drawn) (ch:=[it]) (λb B=>?_) (λb o _ _ a e _=>k b o (λz=>a (by simp [z])) e) (λb o _ _ a e _=>⟨o.slots,k b o (λz=>a (by simp [z])) e⟩) (λ_ _ _ _ n=>n)
  (λb o a e=>⟨o,k b o (λz=>a (by simp [z])) e⟩) (λ_ _ e=>e) (λ_ _ _ e=>e) (λb C e=>⟨#[],by rw[e]; simp⟩) (λm i=>?_) (λb u e=>?_) I.bare
 ·have e:b=it:=by simpa using B
  subst e
  exact ⟨h1,h,t,j⟩
 ·obtain ⟨o,w,A,y,r⟩:=i
  exact ⟨o,w,A,k _ o (Nk h) y,r⟩
 ·refine (I.hok b u e).stay (λc v a q=>k c v ?_ q) (λ_ q=>q) λ_ _ q=>q
  rcases a with z | z
  ·rw[z]; exact d b u e
  ·exact d c _ z
theorem Inv.tok(I:Inv X f g H s)(t:Nat):Inv X f g H { s with toks:=t }:=I.un (h':=s.heap) (t':=t) Un.refl I.hok
theorem Inv.kept(I:Inv X f g H s)(k:∀b u,s.heap.get? b=some u->h'.get? b=some u):Inv X f g H { s with heap:=h',toks:=t' }:=I.un (Un.kept k) (I.hok.kept k)
theorem Inv.laid{a:Addr}(I:Inv X f g H s)(k:∀b u,s.heap.get? b=some u->h'.get? b=some u)(d:s.heap.objs.size<=a)(c:Kw X.prog X.w (upd H a o) h' a o):Inv X f g (upd H a o) { s with heap:=h',toks:=t' }:=I.un (Un.laid k d (I.hok.fresh d)) (I.hok.laid k d c)
theorem Inv.write(I:Inv X f g H s)(h:LD (H x))(d:e=x\/H e=some (.own x))(k:∀b u,b≠e->s.heap.get? b=some u->h'.get? b=some u)(a:∃u,h'.get? e=some u)(c:Kw X.prog X.w (upd H x o) h' x o):Inv X f g (upd H x o) { s with heap:=h',toks:=t' }:=I.un (Un.write h d k a) (I.hok.write h d k a c)
theorem Inv.pins_of(I:Inv X f g H s)(h:∀p∈a,s.heap.get? p.1=some p.2/\H p.1=none/\p.1≠X.env.locals/\p.1∉X.fs/\∀v,p.2.data≠.cell v):Inv X a g H s :=
 ⟨I.ok,I.os,I.bare,I.base,I.loc,I.cell,I.free,I.freeC,λp b=>(Aw.mp b).elim (λz=>I.pin p (Am _ z)) (h p),I.hok,I.len⟩
theorem pU{N:List Str}(e:N.Nodup){i j:Nat}(a:N[i]? = some x)(b:N[j]? = some x):i=j:=by
 obtain ⟨f,d⟩:=Bb.mp a
 obtain ⟨g,c⟩:=Bb.mp b
 exact (List.getElem_inj e).mp (d.trans c.symm)
theorem yY(I:Inv X f g H s)(hN:X.N.Nodup)(S:X.N[i]? = some x)(C:Loc X.env.scope x)(r:RelV v u)(h:∀s',Inv X f (g.set i (some v)) H s'->(∃a,Cw a s.heap s'.heap/\(a=X.env.locals\/X.env.cells.lookup x=some a))->Q () s')(hf:X.fn x=true\/X.env.scope.names.lookup x=some .local:=by first | exact .inl rfl | exact .inr rfl | assumption):wpAny M A (storeName X.env x u) Q E s:=by
 obtain ⟨m,hn,hl⟩:=id I.loc
 have P:(X.env.scope.kind == .class || (X.env.scope.kind == .module && X.env.locals != X.env.globals))=false:=by rw[I.ok.kind]; rfl
 have G:i<g.length:=by rw[I.len]; exact (Bb.mp S).1
 have cne:=I.cne
 have t:∀{a:Addr} {h':Heap},(∃o,s.heap.get? a=some o/\H a=none)->Cw a s.heap h'->aS X.prog X.w H h':=λ{a h'} ha l b ob e=>by
  obtain ⟨_,_,D⟩:=ha
  refine (I.hok b ob e).stay (λc Y hc q=>(l.2 c ?_).trans q) (λ_ q=>q) λ_ _ q=>q
  rintro rfl
  rcases hc with rfl | hc
  ·rw[D] at e; cases e
  ·rw[D] at hc; cases hc
 rcases C with hk | hk
 ·refine wpAny_storeName_local hk hn (λh' h0 l=>?_) P
  obtain ⟨oL,_,_,h1,_⟩:=id hn
  refine h _ ⟨I.ok,I.os,I.bare,⟨λb o e n J C=>?_,λb o e n J C=>?_,I.base.free,λb o e C=>?_,I.base.tups,I.base.frzs,I.base.tbls⟩,⟨_,h0,λj y v' B F e3=>?_⟩,λy c e=>?_,I.free,I.freeC,λp hp=>?_,t ⟨oL,h1,I.free⟩ l,by simpa using I.len⟩ ⟨_,l,.inl rfl⟩
  ·exact (l.2 b (By (Cb (Ax e) I.ok.above))).trans (I.base.keep b o e n J C)
  ·obtain ⟨sl,B⟩:=I.base.slot b o e n J C
   exact ⟨sl,(l.2 b (By (Cb (Ax e) I.ok.above))).trans B⟩
  ·obtain ⟨o',B⟩:=I.base.there b o e C
   exact ⟨o',(l.2 b (By (Cb (Ax e) I.ok.above))).trans B⟩
  ·by_cases K:j=i
   ·subst K
    rw[S] at B; cases B
    rw[vY G] at F
    cases F
    exact ⟨u,r,.inl ⟨hk,by simp⟩⟩
   ·rw[List.getElem?_set_ne (Nk K)] at F
    obtain ⟨u',r',q⟩:=hl j y v' B F e3
    refine ⟨u',r',?_⟩
    rcases q with ⟨k,e⟩ | ⟨k,c,e,z⟩
    ·refine .inl ⟨k,?_⟩
     have : y≠x:=λe=>K (pU hN B (e▸S))
     simp [this,e]
    ·exact .inr ⟨k,c,e,z.sameBut l (cne y c e)⟩
  ·obtain ⟨Y,z⟩:=I.cell y c e
   exact ⟨Y,z.sameBut l (cne y c e)⟩
  ·obtain ⟨e,n,Z,nf,d⟩:=I.pin p hp
   exact ⟨(l.2 p.1 Z).trans e,n,Z,nf,d⟩
 ·have L:X.fn x=true:=by
   rcases hf with z | z
   ·exact z
   ·rw[z] at hk; cases hk
  obtain ⟨c,hc⟩:=I.ok.has x (.inl hk)
  obtain ⟨Y,z⟩:=I.cell x c hc
  refine wpAny_storeName_cell I.ok.kind hk hc z (λh' O l=>?_)
  obtain ⟨oc,T,U⟩:=id z
  refine h { s with heap:=h' } ⟨I.ok,I.os,I.bare,⟨λb o e n J C=>?_,λb o e n J C=>?_,I.base.free,λb o e C=>?_,I.base.tups,I.base.frzs,I.base.tbls⟩,⟨m,hn.sameBut l (Nk (cne x c hc)),λj y v' B F e3=>?_⟩,λy W e=>?_,I.free,I.freeC,λp hp=>?_,t ⟨oc,T,I.freeC x c hc⟩ l,by simpa using I.len⟩ ⟨c,l,.inr hc⟩
  ·exact (l.2 b (By (Cb (Ax e) (I.ok.cab x c L hc)))).trans (I.base.keep b o e n J C)
  ·obtain ⟨sl,B⟩:=I.base.slot b o e n J C
   exact ⟨sl,(l.2 b (By (Cb (Ax e) (I.ok.cab x c L hc)))).trans B⟩
  ·obtain ⟨o',B⟩:=I.base.there b o e C
   exact ⟨o',(l.2 b (By (Cb (Ax e) (I.ok.cab x c L hc)))).trans B⟩
  ·by_cases K:j=i
   ·subst K
    rw[S] at B; cases B
    rw[vY G] at F
    cases F
    exact ⟨u,r,.inr ⟨.inl hk,c,hc,O⟩⟩
   ·rw[List.getElem?_set_ne (Nk K)] at F
    obtain ⟨u',r',q⟩:=hl j y v' B F e3
    refine ⟨u',r',?_⟩
    rcases q with q | ⟨k,W,e,z'⟩
    ·exact .inl q
    ·refine .inr ⟨k,W,e,z'.sameBut l ?_⟩
     rintro rfl
     exact K (pU hN B (I.ok.inj _ _ _ e hc▸S))
  ·by_cases R:W=c
   ·subst R; exact ⟨_,O⟩
   ·obtain ⟨w2,z2⟩:=I.cell y W e
    exact ⟨w2,z2.sameBut l R⟩
  ·obtain ⟨e,n,Z,nf,d⟩:=I.pin p hp
   refine ⟨(l.2 p.1 ?_).trans e,n,Z,nf,d⟩
   intro q
   rw[q,T] at e
   have q':oc=p.2:=Cj e
   exact d Y (by rw[<- q']; exact U)
theorem rT(I:Inv X f g H s)(d:X.N.Nodup)(b:X.N[i]? = some x)(e:Loc X.env.scope x)(r:RelV v u)(h:∀s',Inv X f (g.set i (some v)) H s'->Q () s')(c:X.fn x=true\/X.env.scope.names.lookup x=some .local:=by first | exact .inl rfl | exact .inr rfl | assumption):wpAny M A (storeName X.env x u) Q E s :=
 yY I d b e r (λs' a _=>h s' a) c
theorem Inv.call'(I:Inv X f g H s)(h:s'.os=s.os)(u:Un (q9 X.stack) ch H B s.heap s'.heap)(a:aS X.prog X.w B s'.heap)(j:Zd s'.gens)(d:∀b∈ch,(b∈X.ex\/X.s₀.heap.objs.size<=b)/\b≠X.env.locals/\(∀x c,X.env.cells.lookup x=some c->c≠b)/\∀p∈X.pn++f,p.1≠b):Inv X f g B s':=by
 obtain ⟨h',g',d',t',i⟩:=s'
 have e:i=s.os:=h
 subst e
 exact I.call (g':=g') (t':=t') (d':=d') u a j d
end
abbrev XK:=Value->Option Addr->Hp->Prop
abbrev St:=List (Option V)
abbrev VK:=V->Hp->Prop
abbrev TE:=St->Hp->VK->Prop
abbrev TT:=St->Hp->(Bool->Hp->Prop)->Prop
abbrev TA:=St->Hp->(List V->Hp->Prop)->Prop
structure Ends where
 nx:St->Hp->Prop
 rt:VK
 bk:St->Hp->Prop:=λ_ _=>False
 ct:St->Hp->Prop:=λ_ _=>False
abbrev TS:=Ends->St->Hp->Prop
def EP(X:Cx)(a:List (Addr×Obj))(c:St)(Q:VK)(u:Value)(s':Ah):Prop:=∃v b,Inv X a c b s'/\RelV v u/\Q v b
def TP(X:Cx)(a:List (Addr×Obj))(d:St)(Q:Bool->Hp->Prop)(b:Bool)(s':Ah):Prop:=∃c,Inv X a d c s'/\Q b c
def AP(X:Cx)(a:List (Addr×Obj))(c:St)(Q:List V->Hp->Prop)(us:List Value)(s':Ah):Prop:=∃vs b,Inv X a c b s'/\Gn vs us/\Q vs b
def SP(X:Cx)(b:List (Addr×Obj))(D:Ends)(f:Flow)(s':Ah):Prop :=
 match f with
 | .next=>∃a c,Inv X b a c s'/\D.nx a c
 | .brk=>∃a c,Inv X b a c s'/\D.bk a c
 | .cont=>∃a c,Inv X b a c s'/\D.ct a c
 | .ret u=>∃v a c,Inv X b a c s'/\RelV v u/\D.rt v c
def PE(X:Cx)(e:Expr)(t:TE):Prop :=
 ∀(a:List (Addr×Obj)) (s:Ah) (b:St) (H:Hp) (Q:VK),Inv X a b H s->t b H Q->wpAny (model X.prog X.w) X.A (eval e X.env) (EP X a b Q) X.xe s
def PT(X:Cx)(e:Expr)(t:TT):Prop :=
 ∀(a:List (Addr×Obj)) (s:Ah) (b:St) (H:Hp) (Q:Bool->Hp->Prop),Inv X a b H s->t b H Q->wpAny (model X.prog X.w) X.A (isTrue e X.env (eval e X.env)) (TP X a b Q) X.xe s
def PW(X:Cx)(e:Expr)(t:TT):Prop :=
 ∀(b:Sem Value) (a:List (Addr×Obj)) (s:Ah) (c:St) (H:Hp) (Q:Bool->Hp->Prop),Inv X a c H s->t c H Q->wpAny (model X.prog X.w) X.A (isTrue e X.env b) (TP X a c Q) X.xe s
theorem PW.pt(h:PW X e t):PT X e t:=h _
def PA(X:Cx)(es:List Expr)(t:TA):Prop :=
 ∀(c:Pos) (a:List (Addr×Obj)) (s:Ah) (b:St) (H:Hp) (Q:List V->Hp->Prop),Inv X a b H s->t b H Q->wpAny (model X.prog X.w) X.A (spliced (Hm c (Bo es X.env))) (AP X a b Q) X.xe s
def PS(X:Cx)(st:Stmt)(t:TS):Prop :=
 ∀(a:List (Addr×Obj)) (s:Ah) (b:St) (H:Hp) (D:Ends),Inv X a b H s->t D b H->wpAny (model X.prog X.w) X.A (exec st X.env) (SP X a D) X.xe s
def wO(X:Cx)(st:List Stmt)(t:TS):Prop :=
 ∀(a:List (Addr×Obj)) (s:Ah) (b:St) (H:Hp) (D:Ends),Inv X a b H s->t D b H->wpAny (model X.prog X.w) X.A (execs st X.env) (SP X a D) X.xe s
theorem Gj{c:Type}{t:Sem c}{Q b:c->Ah->Prop}(h:wpAny M A t Q E s)(d:∀a s,Q a s->b a s):wpAny M A t b E s:=Da h d λ_ _ x=>x
section
variable{X:Cx}
def mG(i:Nat):TE:=λa H Q=>∃v,a[i]? = some (some v)/\Q v H
def tC(v:V):TE:=λ_ H Q=>Q v H
theorem HU{pos:Pos}(q:X.N[i]? = some x)(p:MY X.env.scope x)(hd:(x == ("__debug__" : Str))=false:=by decide)(f:(x == ("__classdict__" : Str))=false:=by decide):PE X (.Name x pos) (mG i):=by
 intro d s n H Q I h
 obtain ⟨v,e,h⟩:=h
 obtain ⟨m,o,j⟩:=I.loc
 obtain ⟨u,r,l⟩:=j i x v q e p
 have b:EP X d n Q u s:=⟨v,H,I,r,h⟩
 rcases l with ⟨hk,k⟩ | ⟨hk,c,g,a⟩
 ·exact wpAny_Name (wpAny_loadName_local I.ok.kind hk o k b) hd
 ·rcases hk with hk | hk
  ·exact wpAny_Name (wpAny_loadName_cell I.ok.kind hk g a b) hd
  ·exact wpAny_Name (wpAny_loadName_free I.ok.kind hk g a b f) hd
theorem Fn:PE X (.Constant (.int i) j pos) (tC (.int i)):=λ_ _ _ H _ I h=>wpAny_Constant_int ⟨.int i,H,I.tok _,⟨_,rfl⟩,h⟩
theorem F0:PE X (.Constant (.bool b) j pos) (tC (.bl b)):=λ_ _ _ H _ I h=>Constant_bool ⟨.bl b,H,I,rfl,h⟩
theorem G9:PE X (.Constant .none j pos) (tC .non):=λ_ _ _ H _ I h=>Constant_none ⟨.non,H,I,rfl,h⟩
theorem U6:PE X (.Constant (.str x) j pos) (tC (.str x)):=λ_ _ _ H _ I h=>Calls.Constant_str ⟨.str x,H,I.tok _,⟨_,rfl⟩,h⟩
def Gl(X:Cx)(x:Str):Prop:=X.env.kindOf x=some .globalImplicit
theorem wD{E:Value->Ah->Prop}{a:List (Addr×Obj)}{s:Ah}{b:St}(I:Inv X a b H s)(d:Gl X x)(c:X.mg x=some u)(h:Q u s)(hd:(x == ("__debug__" : Str))=false:=by decide):wpAny (model X.prog X.w) X.A (eval (.Name x pos) X.env) Q E s :=
 lI I.ok.kind d (Calls.loadGlobal_global (by rw[I.ok.glob]; exact I.mod.glob.keeps I.bk) c h) hd
theorem Tw{E:Value->Ah->Prop}{a:List (Addr×Obj)}{s:Ah}{e:St}{pos:Pos}(I:Inv X a e H s)(c:Gl X x)(b:X.mg x=none)(g:Pl x=some u)(h:Q u s)(f:x ≠ "__name__" := by decide)(hd:(x == ("__debug__" : Str))=false:=by decide):wpAny (model X.prog X.w) X.A (eval (.Name x pos) X.env) Q E s:=by
 obtain ⟨j,d,i⟩:=I.mod.blt
 exact lI I.ok.kind c (Calls.loadGlobal_builtin (by rw[I.ok.glob]; exact I.mod.glob.keeps I.bk) b (by rw[I.ok.blt]; exact d.keeps I.bk) ((i x f).trans g) h) hd
variable{a b:Expr}{k n:TE}{pos:Pos}
def PC(X:Cx)(op:CmpOp)(a b:Expr)(t:TE):Prop :=
 ∀(c:List (Addr×Obj)) (s:Ah) (f:St) (H:Hp) (Q:VK),Inv X c f H s->t f H Q ->
  wpAny (model X.prog X.w) X.A (eval a X.env) (λv e=>wpAny (model X.prog X.w) X.A (eval b X.env) (λu d=>wpAny (model X.prog X.w) X.A (Jy op v u) (EP X c f Q) X.xe d) X.xe e) X.xe s
def tB(t:TE):TT:=λa H Q=>t a H λx b=>∃c,x=.bl c/\Q c b
theorem T4(h:PE X e t)(f:∀a,isTrue e X.env a=(do let v <- a; dM e.pos; Rn [v] (truthy v)):=by intro _; rfl):PT X e (tB t):=by
 intro b s g H Q I i
 refine isTrue_plain (Gj (h b s g H _ I i) λv m ⟨x,k,l,c,j⟩=>?_) (f _)
 obtain ⟨d,rfl,q⟩:=j
 cases c
 exact Mf ⟨k,l,q⟩
variable{g o:TT}{Iy:List Expr}
def OF(t u:TT):TT:=λa H Q=>t a H λc b=>if c=true then u a b Q else Q false b
def QP(t u:TT):TT:=λa H Q=>t a H λc b=>if c=true then Q true b else u a b Q
def NT(t:TT):TT:=λa H Q=>t a H λc b=>Q (!c) b
theorem BV(f:PT X a g):PW X (.BoolOp .And [a] pos) g:=by
 intro j b s d H Q I h
 refine isTrue_and (Gj (f b s d H Q I h) λc i e=>?_)
 cases c with
 | true=>exact isTrue_and_nil e
 | false=>exact e
theorem II(f:PT X a g):PW X (.BoolOp .Or [a] pos) g:=by
 intro j b s d H Q I h
 refine isTrue_or (Gj (f b s d H Q I h) λc i e=>?_)
 cases c with
 | false=>exact isTrue_or_nil e
 | true=>exact e
theorem GU(m:PT X a g)(hb:PW X (.BoolOp .And (b::Iy) pos) o):PW X (.BoolOp .And (a::b::Iy) pos) (OF g o):=by
 intro n d s f H Q I h
 refine isTrue_and (Gj (m d s f H _ I h) λc l e => ?_)
 obtain ⟨k,j,i⟩ := e
 cases c with
 | true=>exact hb n d l f k Q j i
 | false=>exact ⟨k,j,i⟩
theorem LV(m:PT X a g)(hb:PW X (.BoolOp .Or (b::Iy) pos) o):PW X (.BoolOp .Or (a::b::Iy) pos) (QP g o):=by
 intro n d s f H Q I h
 refine isTrue_or (Gj (m d s f H _ I h) λc l e => ?_)
 obtain ⟨k,j,i⟩ := e
 cases c with
 | true=>exact ⟨k,j,i⟩
 | false=>exact hb n d l f k Q j i
theorem FP(e:PT X a g):PT X (.UnaryOp .Not a pos) (NT g):=by
 intro b s d H Q I h
 exact isTrue_not (e b s d H (λc f=>Q (!c) f) I h)
def JW(k n:TE):TE:=λa H Q=>k a H λx b=>∃c,x=.bl c/\if c=true then n a b Q else Q (.bl false) b
theorem HB(h:PE X a t):PE X (.BoolOp op [a] pos) t:=λb s c H Q I d=>BoolOp_one (h b s c H Q I d)
theorem GA(o:PE X a k)(hb:PE X (.BoolOp .And (b::Iy) pos) n):PE X (.BoolOp .And (a::b::Iy) pos) (JW k n):=by
 intro d s g H Q I h
 refine BoolOp_and (Gj (o d s g H _ I h) λv m f => ?_)
 obtain ⟨x,i,j,l,e⟩ := f
 obtain ⟨c,rfl,e⟩:=e
 cases l
 refine Mf ?_
 cases c with
 | true=>exact hb d m g i Q j e
 | false=>exact ⟨.bl false,i,j,rfl,e⟩
def RE(t:TT)(k n:TE):TE:=λa H Q=>t a H λc b=>if c=true then k a b Q else n a b Q
theorem C9(p:PT X c g)(q:PE X a k)(hb:PE X b n):PE X (.IfExp c a b pos) (RE g k n):=by
 intro e s f H Q I h
 refine wpAny_IfExp (Gj (p e s f H _ I h) λd j i => ?_)
 obtain ⟨o,m,l⟩ := i
 cases d with
 | true=>exact q e j f o Q m l
 | false=>exact hb e j f o Q m l
end
def Nm(K:PySem.W.Frag)(H:Hp)(a:Addr)(xs:List V):Prop :=
 Rd H a (.lst xs) \/
  ∃(o:Obj) (b:Array Value) (n:Nat),K.lookup a=some o/\o.cls=.type "list" /\ o.dict=none/\o.data=.seq b n/\b.size<=Au/\Gn xs b.toList
def Wt(K:PySem.W.Frag)(H:Hp)(a:Addr)(xs:List V):Prop :=
 Rd H a (.tup xs) \/
  ∃(o:Obj) (b:Array Value) (n:Nat),K.lookup a=some o/\o.cls=.type "tuple" /\ o.data=.seq b n/\b.size<=Au/\Gn xs b.toList
def NZ:Value->Option V
 | .none=>some .non
 | .bool b=>some (.bl b)
 | .int i _=>some (.int i)
 | .str x _=>some (.str x)
 | .bytes b _=>some (.byt b)
 | .float b _=>some (.flt b)
 | .ref a=>some (.ref a)
 | .type n=>some (.ty n)
 | _=>none
theorem RelV.abs(r:RelV x u):NZ u=some x:=by
 cases x with
 | non=>cases r; rfl
 | bl _=>cases r; rfl
 | int _=>obtain ⟨t,rfl⟩:=r; rfl
 | str _=>obtain ⟨t,rfl⟩:=r; rfl
 | byt _=>obtain ⟨t,rfl⟩:=r; rfl
 | flt _=>obtain ⟨t,rfl⟩:=r; rfl
 | ref _=>cases r; rfl
 | ty _=>cases r; rfl
theorem RelV.inj(r:RelV x u)(q:RelV y u):x=y:=Cj (r.abs.symm.trans q.abs)
theorem Gn.inj:∀{xs ys:List V} {us:List Value},Gn xs us->Gn ys us->xs=ys
 | _,_,_,.nil,.nil=>rfl
 | _,_,_,.cons r t,.cons r' t'=>by rw[r.inj r',Gn.inj t t']
section
variable{X:Cx}{b:List (Addr×Obj)}{c:St}{H:Hp}{s:Ah}{a:Addr}{xs ys:List V}
theorem Nm.of{K:PySem.W.Frag}(h:H a=some (.lst xs)):Nm K H a xs:=.inl (.inl h)
theorem Wt.of{K:PySem.W.Frag}(h:H a=some (.tup xs)):Wt K H a xs:=.inl (.inl h)
theorem Inv.list(I:Inv X b c H s)(h:Nm X.K H a xs):∃d:List Value,Gn xs d/\PlainL s.heap a d.toArray/\xs.length<=Au:=by
 rcases h with h | ⟨o,d,n,i,f,j,g,k,r⟩
 ·obtain ⟨z,d,n,r,e⟩:=h.ok I.hok
  exact ⟨d,r,⟨_,n,e,rfl,rfl,rfl⟩,z⟩
 ·refine ⟨d.toList,r,⟨o,n,I.kIn a o i,f,j,by simpa using g⟩,?_⟩
  have e:=r.length
  simp only[An] at e
  omega
theorem Inv.tuple(I:Inv X b c H s)(h:Wt X.K H a xs):∃d:List Value,Gn xs d/\IsTup s.heap a d.toArray/\xs.length<=Au:=by
 rcases h with h | ⟨o,d,n,i,f,g,j,r⟩
 ·obtain ⟨z,d,r,p⟩:=h.ok I.hok
  exact ⟨d,r,p,z⟩
 ·refine ⟨d.toList,r,⟨o,I.kIn a o i,f,n,by simpa using g⟩,?_⟩
  have e:=r.length
  simp only[An] at e
  omega
theorem Inv.list_inj(I:Inv X b c H s)(h:Nm X.K H a xs)(h':Nm X.K H a ys):xs=ys:=by
 obtain ⟨g,r,⟨o,n,e,_,_,d⟩,_⟩:=I.list h
 obtain ⟨f,k,⟨m,l,i,_,_,j⟩,_⟩:=I.list h'
 rw[e] at i; cases i
 rw[d] at j
 injection j with d1 _
 have : g=f:=by simpa using congrArg Array.toList d1
 subst this
 exact r.inj k
theorem Inv.tuple_inj(I:Inv X b c H s)(h:Wt X.K H a xs)(h':Wt X.K H a ys):xs=ys:=by
 obtain ⟨g,r,⟨o,e,_,n,d⟩,_⟩:=I.tuple h
 obtain ⟨f,k,⟨m,i,_,l,j⟩,_⟩:=I.tuple h'
 rw[e] at i; cases i
 rw[d] at j
 injection j with d1 _
 have : g=f:=by simpa using congrArg Array.toList d1
 subst this
 exact r.inj k
end
abbrev Cx.wish(X:Cx)(E:Value->Ah->Prop):Cx:={ X with xe:=E }
abbrev Cx.nox(X:Cx):Cx:=X.wish λ_ _=>False
theorem Cx.Ok.wish{X:Cx}(ok:X.Ok)(E:Value->Ah->Prop):(X.wish E).Ok :=
 ⟨ok.mod,ok.kind,ok.glob,ok.blt,ok.above,ok.inj,ok.has,ok.cab,ok.hd,ok.frames,ok.stk,ok.exf,ok.bs,ok.bsz,ok.noex,ok.exfs,ok.funs,ok.frf⟩
theorem Cx.Ok.unwish{X:Cx}(ok:(X.wish E).Ok):X.Ok :=
 ⟨ok.mod,ok.kind,ok.glob,ok.blt,ok.above,ok.inj,ok.has,ok.cab,ok.hd,ok.frames,ok.stk,ok.exf,ok.bs,ok.bsz,ok.noex,ok.exfs,ok.funs,ok.frf⟩
section
variable{X:Cx}{a:List (Addr×Obj)}{b:St}{H:Hp}{s:Ah}{E:Value->Ah->Prop}
theorem Inv.wish(I:Inv X a b H s)(E:Value->Ah->Prop):Inv (X.wish E) a b H s:=⟨I.ok.wish E,I.os,I.bare,I.base,I.loc,I.cell,I.free,I.freeC,I.pin,I.hok,I.len⟩
theorem Inv.unwish(I:Inv (X.wish E) a b H s):Inv X a b H s:=⟨I.ok.unwish,I.os,I.bare,I.base,I.loc,I.cell,I.free,I.freeC,I.pin,I.hok,I.len⟩
theorem SP.unwish(h:SP (X.wish E) a D f s'):SP X a D f s':=by
 cases f with
 | next=>obtain ⟨b,c,I,q⟩:=h; exact ⟨b,c,I.unwish,q⟩
 | brk=>obtain ⟨b,c,I,q⟩:=h; exact ⟨b,c,I.unwish,q⟩
 | cont=>obtain ⟨b,c,I,q⟩:=h; exact ⟨b,c,I.unwish,q⟩
 | ret u=>obtain ⟨v,b,c,I,r,q⟩:=h; exact ⟨v,b,c,I.unwish,r,q⟩
theorem wO.nox{st:List Stmt}(h:wO X.nox st t):wO X st t:=λa s b H D I c =>
 Da (h a s b H D (I.wish _) c) (λ_ _ q=>q.unwish) λ_ _ z=>Lw z
end
section
variable{X:Cx}{st:Stmt}{Iy:List Stmt}{t u:TS}{e:Expr}{g:TE}{pos:Pos}
def JX:TS:=λD a H=>D.nx a H
def NS(t u:TS):TS:=λD a H=>t { D with nx:=u D } a H
theorem dS:wO X [] JX:=λ_ _ a H _ I h=>wpAny_execs_nil ⟨a,H,I,h⟩
theorem Mc(h1:PS X st t)(g:wO X Iy u):wO X (st::Iy) (NS t u):=by
 intro a s d H D I h
 refine wpAny_execs_cons (Gj (h1 a s d H { D with nx:=u D } I h) λf e q=>?_)
 cases f with
 | next =>
  obtain ⟨b,i,c,q⟩:=q
  exact g a e b i D c q
 | ret v=>exact q
 | brk=>exact q
 | cont=>exact q
theorem Rq(h1:PS X st t):wO X [st] t:=by
 intro a s b H D I h
 refine wpAny_execs_cons (Gj (h1 a s b H D I h) λf c q=>?_)
 cases f with
 | next=>exact wpAny_execs_nil q
 | ret v=>exact q
 | brk=>exact q
 | cont=>exact q
theorem Inv.quiet{b:St}(I:Inv X a b H s):interactive X.env=false:=by simp [interactive,I.ok.kind]
def MQ(g:TE):TS:=λD a H=>g a H λ_ b=>D.nx a b
theorem eG(d:PE X e g)(c:Oy e none pos.line X.env=pure false:=by rfl):PS X (.Expr e pos) (MQ g):=by
 intro a s b H D I h
 exact wpAny_Expr_any (Gj (d a s b H _ I h) λv l ⟨x,i,j,k,f⟩=>⟨b,i,j,f⟩) I.quiet c
def OA(g:TE):TS:=λD a H=>g a H D.rt
theorem cD(d:PE X e g):PS X (.Return (some e) pos) (OA g):=by
 intro a s b H D I h
 exact wpAny_Return_some (Gj (d a s b H _ I h) λv k ⟨x,i,j,c,f⟩=>⟨x,b,i,j,c,f⟩)
def NO(c:TT)(t u:TS):TS:=λD a H=>c a H λb d=>if b=true then t D a d else u D a d
theorem xE(n:PT X c i)(o:wO X a t)(hb:wO X b u):PS X (.If c a b pos) (NO i t u):=by
 intro e s f H D I h
 refine wpAny_If (Gj (n e s f H _ I h) λd j g => ?_)
 obtain ⟨l,m,k⟩ := g
 cases d with
 | true=>exact o e j f l D m k
 | false=>exact hb e j f l D m k
end
abbrev TG:=V->St->Hp->(St->Hp->Prop)->Prop
abbrev F7:=List V->St->Hp->(St->Hp->Prop)->Prop
def PG(X:Cx)(a:Expr)(t:TG):Prop :=
 ∀(b:List (Addr×Obj)) (s:Ah) (d:St) (H:Hp) (v:V) (u:Value) (Q:St->Hp->Prop),Inv X b d H s->RelV v u->t v d H Q ->
  wpAny (model X.prog X.w) X.A (Pm a X.env u) (λ_ f=>∃c e,Inv X b c e f/\Q c e) X.xe s
def CU(X:Cx)(g:List Expr)(t:F7):Prop :=
 ∀(a:List (Addr×Obj)) (s:Ah) (d:St) (H:Hp) (vs:List V) (e:List Value) (Q:St->Hp->Prop),Inv X a d H s->Gn vs e->t vs d H Q ->
  wpAny (model X.prog X.w) X.A (assignInOrder ((Gg g X.env).map (·.2)) e) (λ_ f=>∃b c,Inv X a b c f/\Q b c) X.xe s
abbrev P9:=V->V->V->Hp->(Hp->Prop)->Prop
def FM(X:Cx)(t:P9):Prop :=
 ∀(a:List (Addr×Obj)) (s:Ah) (d:St) (H:Hp) (o i v:V) (c b u:Value) (Q:Hp->Prop),Inv X a d H s->RelV o c->RelV i b->RelV v u->t o i v H Q ->
  wpAny (model X.prog X.w) X.A (setItem c b u) (λ_ f=>∃e,Inv X a d e f/\Q e) X.xe s
abbrev MZ:=V->V->Hp->VK->Prop
def PV(X:Cx)(op:Operator)(t:MZ):Prop :=
 ∀(a:List (Addr×Obj)) (s:Ah) (b:St) (H:Hp) (x y:V) (v u:Value) (Q:VK),Inv X a b H s->RelV x v->RelV y u->t x y H Q ->
  wpAny (model X.prog X.w) X.A (inplaceOp op v u) (EP X a b Q) X.xe s
section
variable{X:Cx}{pos:Pos}
def Uu(i:Nat):TG:=λv a H Q=>Q (a.set i (some v)) H
theorem Ni(e:X.N.Nodup)(c:X.N[i]? = some x)(f:Loc X.env.scope x)(d:X.fn x=true\/X.env.scope.names.lookup x=some .local:=by first | exact .inl rfl | exact .inr rfl | assumption):PG X (.Name x pos) (Uu i):=by
 intro a s j H v u Q I r h
 exact wpAny_assign_Name (rT I e c f r (λg b=>⟨_,H,b,h⟩) d)
def Z6:F7:=λvs a H Q=>vs=[]/\Q a H
def gW(t:TG)(u:F7):F7:=λvs c H Q=>∃v r,vs=v::r/\t v c H λa b=>u r a b Q
theorem eN:CU X [] Z6:=by
 intro a s b H vs c Q I r h
 obtain ⟨e,h⟩:=h
 subst e
 cases r
 exact assignInOrder_nil ⟨b,H,I,h⟩
theorem Qw(h1:PG X e t)(l:CU X es u)(d:(Gg (e::es) X.env).map (·.2)=Pm e X.env::(Gg es X.env).map (·.2):=by rfl):CU X (e::es) (gW t u):=by
 intro a s i H vs p Q I r h
 obtain ⟨v,o,m,h⟩:=h
 subst m
 cases r with
 | cons r f =>
  rw[d]
  refine assignInOrder_cons (Gj (h1 a s i H _ _ _ I r h) λ_ g c => ?_)
  obtain ⟨b,k,n,j⟩ := c
  exact l a g b k _ _ Q n f j
def BW(K:PySem.W.Frag)(n:Nat)(t:F7):TG:=λv c H Q=>∃a b,v=.ref a/\Wt K H a b/\b.length=n/\t b c H Q
theorem nO{k:Nat}(l:X.calm=true)(h:CU X es t)(q:(Gg es X.env).length=n:=by rfl)(d:(Gg es X.env).findIdx? (·.1)=none:=by rfl):PG X (.Tuple es k pos) (BW X.K n t):=by
 intro c s i H v u Q I r f
 obtain ⟨a,w,z,m,j,f⟩:=f
 subst z
 cases r
 obtain ⟨y,g,p,C⟩:=I.tuple m
 refine assign_Tuple_tuple (I.ok.hd l) p (by simp [q,<- j,g.length]) d λx B=>?_
 have A:Inv X c i H { s with heap:=x }:=I.kept (t':=s.toks) λb o e=>B b o (By (Ax e)) e
 exact h c _ i H w _ Q A (by simpa using g) f
def PK(e b:TE)(t:P9):TG:=λv a H Q=>e a H λo f=>b a f λi d=>t o i v d λc=>Q a c
theorem E8(n:PE X o f)(F:PE X i g)(E:FM X t)
  (w:∀v,Pm (.Subscript o i pos) X.env v=(do
   let c <- Rn [v] (eval o X.env)
   let d <- Rn [v,c] (eval i X.env)
   dM pos
   Rn [v,c,d] (setItem c d v)
   release [v,c,d] []):=by intro _; rfl):PG X (.Subscript o i pos) (PK f g t):=by
 intro a s e H v u Q I r h
 rw[w]
 refine Aa (Ce (Gj (n a s e H _ I h) λc l b => ?_))
 obtain ⟨x,q,C,j,G⟩ := b
 refine Aa (Ce (Gj (F a l e q _ C G) λd B b => ?_))
 obtain ⟨y,p,J,k,m⟩ := b
 refine Aa (Hx (Aa (Ce (Gj (E a B e p x y v c d u _ J j k r m) λ_ K b => ?_))))
 obtain ⟨A,D,z⟩ := b
 exact wpAny_release ⟨e,A,D,z⟩
def AS(c:TE)(g:TG):TS:=λD a H=>c a H λx b=>g x a b D.nx
theorem tX(k:PE X e d)(i:PG X b g)(f:swapsWithSole [b] e pos.line X.env=pure false:=by rfl)(hw:swappedStores [b] e X.env=pure none:=by rfl)(h1:(Gg [b] X.env).map (·.2)=[Pm b X.env]:=by rfl):PS X (.Assign [b] e pos) (AS d g):=by
 intro a s c H D I h
 refine wpAny_Assign_stores (Gj (k a s c H _ I h) λv l ⟨x,m,o,j,n⟩=>?_) f hw
 rw[h1]
 exact Gj (i a l c m x v _ o j n) λ_ p q=>q
theorem cC(o:X.N.Nodup)(l:X.N[i]? = some x)(r:Loc X.env.scope x)(g:PE X e c)(d:Oy e (some (.Name x a)) pos.line X.env=pure false:=by rfl)(m:X.fn x=true\/X.env.scope.names.lookup x=some .local:=by first | exact .inl rfl | exact .inr rfl | assumption):PS X (.Assign [.Name x a] e pos) (AS c (Uu i)):=by
 intro b s j H D I h
 refine wpAny_Assign_Name (Gj (g b s j H _ I h) λv t ⟨y,n,p,f,k⟩=>?_) d
 exact rT p o l r f (λu q=>⟨_,n,q,k⟩) m
def JZ(l f n:TE)(a:V->V->Hp->VK->Prop)(d:MZ)(b:P9):TS:=λD c H=>l c H λo m=>f c m λi k=>a o i k λx j=>n c j λy g=>d x y g λz h=>b o i z h λe=>D.nx c e
def MW(X:Cx)(t:V->V->Hp->VK->Prop):Prop :=
 ∀(a:List (Addr×Obj)) (s:Ah) (b:St) (H:Hp) (o i:V) (c d:Value) (Q:VK),Inv X a b H s->RelV o c->RelV i d->t o i H Q ->
  wpAny (model X.prog X.w) X.A (Tt c d) (EP X a b Q) X.xe s
theorem X4(M:PE X o r)(hi:PE X i t)(hg:MW X d)(z:PE X e u)(J:PV X op l)(hs:FM X f)(S:∀j g c,augStore i j g c=(do Rn [c,j,g] (setItem j g c); release [c,j,g] []; pure .next):=by intros; rfl):PS X (.AugAssign (.Subscript o i m) op e pos) (JZ r t u d l f):=by
 intro a s k H D I h
 refine wpAny_AugAssign_SubscriptAny (Gj (M a s k H _ I h) λj K ⟨w,O,I1,p,E⟩=>?_) S
 refine Gj (hi a K k O _ I1 E) λg s2 b => ?_
 obtain ⟨x,N,I2,q,L⟩ := b
 refine Gj (hg a s2 k N w x j g _ I2 p q L) λn s3 b => ?_
 obtain ⟨Q,Z,I3,T,Y⟩ := b
 refine Gj (z a s3 k Z _ I3 Y) λv A b => ?_
 obtain ⟨y,H4,F,G,q4⟩ := b
 refine Gj (J a A k H4 Q y n v _ F T G q4) λc s5 b => ?_
 obtain ⟨B,C,R,U,W⟩ := b
 exact Gj (hs a s5 k C w x B j g c _ R p q U W) λ_ s6 ⟨H6,I6,P⟩=>⟨k,H6,I6,P⟩
def RA(f:Int->Int->Int):MZ:=λx y H Q=>∃i j,x=.int i/\y=.int j/\Q (.int (f i j)) H
theorem HA:PV X .Add (RA λi j=>i+j):=by
 intro a s g H x y v u Q I d c h
 obtain ⟨i,j,e,b,q⟩:=h
 subst e; subst b
 obtain ⟨t,rfl⟩:=d
 obtain ⟨f,rfl⟩:=c
 exact iadd_int ⟨.int _,H,I.tok _,⟨_,rfl⟩,q⟩
end
structure It where
 go:Nat->Hp->Prop
 yld:Nat->Hp->V->Hp->Prop
 stop:Nat->Hp->Prop
def Mu(X:Cx)(a:List (Addr×Obj))(H:Hp)(b:Addr):Prop :=
 H b=none/\b≠X.env.locals/\b∉X.fs/\(b∈X.ex\/X.s₀.heap.objs.size<=b)/\(∀x c,X.env.cells.lookup x=some c->c≠b)/\∀p∈X.pn++a,p.1≠b
theorem Inv.fpOk{f:St}{b:Addr}(I:Inv X a f H s)(hb:s.heap.objs.size<=b)(g:d b=none):Mu X a d b:=by
 refine ⟨g,Se (Cb I.lt hb),I.nofs hb,.inr (Ca I.sz hb),λx c e z=>?_,λp h z=>?_⟩
 ·obtain ⟨v,q⟩:=I.cell x c e
  exact absurd (Cb q.lt (by rw[z]; exact hb)) (Ip _)
 ·exact absurd (Cb (Ax (I.pin p h).1) (by rw[z]; exact hb)) (Ip _)
structure Turn(P:Bn)(w:World)(K:PySem.W.Frag)(tg:Expr)(J:It)(fp:List Addr)(it:Addr)(tn:Nat->Heap->Prop):Prop where
 mem:it∈fp
 obj:∀i h,tn i h->∀b∈fp,∃o,h.get? b=some o/\∀v,o.data≠.cell v
 keep:∀i h h',tn i h->(∀b∈fp,∀o,h.get? b=some o->h'.get? b=some o)->tn i h'
 item:∀(X:Cx),X.prog=P->X.w=w->X.K=K->X.calm=true->∀(i:Nat) (pins:List (Addr×Obj)) (s:Ah) (σ:St) (H:Hp) (E:Value->Ah->Prop),Inv X pins σ H s->(∀b∈fp,Mu X pins H b)->tn i s.heap->J.go i H ->
  wpAny (model P w) X.A (Ig (.ref it)) (λr s1=>∃u,r=some u /\
   wpAny (model P w) X.A (Il tg (.ref it) u) (λ_ s2=>∃x H',Inv X pins σ H' s2/\RelV x u/\J.yld i H x H'/\tn (i+1) s2.heap/\∀b∈fp,H' b=none) E s1) E s
 done:∀(X:Cx),X.prog=P->X.w=w->X.K=K->X.calm=true->∀(i:Nat) (pins:List (Addr×Obj)) (s:Ah) (σ:St) (H:Hp) (E:Value->Ah->Prop),Inv X pins σ H s->(∀b∈fp,Mu X pins H b)->tn i s.heap->J.stop i H ->
  wpAny (model P w) X.A (Ig (.ref it)) (λr s1=>r=none/\Inv X pins σ H s1) E s
 self:∀(A:Ck) (i:Nat) (s:Ah) (Q:Value->Ah->Prop) (E:Value->Ah->Prop),tn i s.heap->Q (.ref it) s->wpAny (model P w) A (cR (.ref it)) Q E s
abbrev TI:=St->Hp->(It->Hp->Prop)->Prop
def PR(X:Cx)(a:List (Addr×Obj))(h:St)(i:Expr)(R:It->Hp->Prop)(c:Value)(g:Ah):Prop :=
 ∃(it:Addr) (f:List Addr) (e:Nat->Heap->Prop) (J:It) (d:Hp),c=.ref it/\Inv X a h d g/\Turn X.prog X.w X.K i J f it e/\e 0 g.heap/\(∀b∈f,Mu X a d b)/\R J d
def PI(X:Cx)(e iter:Expr)(c:TI):Prop :=
 ∀(a:List (Addr×Obj)) (s:Ah) (b:St) (H:Hp) (R:It->Hp->Prop),Inv X a b H s->c b H R ->
  wpAny (model X.prog X.w) X.A (eval iter X.env) (λv d=>wpAny (model X.prog X.w) X.A (cR v) (PR X a b e R) X.xe d) X.xe s
theorem S5(e:s.heap.get? it=some o)(c:o.cls=.type n)(hd:o.data=.fields vs)(d:["enumerate", "zip", "dict_itemiterator", "dict_reverseitemiterator", "odict_iterator", "itertools.zip_longest", "itertools.pairwise"].contains n=false)(a:Q () s):wpAny M A (Il b (.ref it) u) Q E s:=by
  unfold Il
  cases b <;> first
    | exact Ae a
    | (cases u <;> first
        | exact Ae a
        | (refine Aa (Yy e ?_)
           rw[c,hd]
           show wpAny M A (if (["enumerate", "zip", "dict_itemiterator", "dict_reverseitemiterator", "odict_iterator", "itertools.zip_longest", "itertools.pairwise"].contains n && vs[0]? == some (Ff _))=true then _ else _) Q E s
           rw[if_neg (by intro h; rw[d,Bool.false_and] at h; cases h)]
           exact Ae a))
def OZ(K:PySem.W.Frag)(a:Addr):It :=
 ⟨λi H=>∃b x,Nm K H a b/\b[i]? = some x,λi H x c=>c=H/\∀b,Nm K H a b->b[i]? = some x,λi H=>∃b,Nm K H a b/\b.length<=i⟩
def PJ(K:PySem.W.Frag)(a:Addr):It :=
 ⟨λi H=>∃b x,Wt K H a b/\b[i]? = some x,λi H x c=>c=H/\∀b,Wt K H a b->b[i]? = some x,λi H=>∃b,Wt K H a b/\b.length<=i⟩
def MJ(lo:Int)(n:Nat):It:=⟨λi _=>i<n,λi H x a=>a=H/\x=.int (lo+i),λi _=>n<=i⟩
theorem z0{K:PySem.W.Frag}(a it:Addr):Turn P w K S (OZ K a) [it] it (λi h=>h.IsListIter it a i) where
 mem:=by simp
 obj:=λi h st b g=>by
  have e:b=it:=by simpa using g
  subst e
  obtain ⟨o,e,c,d⟩:=st
  exact ⟨o,e,λv z=>by rw[d] at z; cases z⟩
 keep:=λi h l st k=>st.at λo e=>k it (by simp) o e
 item:=by
  intro X J F A M i f s N H E I m st L
  subst J F A
  obtain ⟨V,x,n,r⟩:=L
  obtain ⟨C,y,p,R⟩:=I.list n
  obtain ⟨u,T,ru⟩:=y.get r
  obtain ⟨t,B,O,G,q,D⟩:=m it (by simp)
  refine wpAny_pyNext_list_item st p.isList (x:=u) (by simpa using T) λl j Z=>?_
  have U:Inv X f N H { s with heap:=l }:=I.turned (t':=s.toks) (λb o g e=>(Z.2 b g).trans e) t B G q D
  obtain ⟨o,e,c,d⟩:=id j
  exact ⟨u,rfl,S5 (s:={ s with heap:=l }) e c d (by decide) ⟨x,H,U,ru,⟨rfl,λys Y=>by rw[I.list_inj Y n]; exact r⟩,j,λb g=>(m b g).1⟩⟩
 done:=by
  intro X J F A M i f s N H E I m st L
  subst J F A
  obtain ⟨V,n,r⟩:=L
  obtain ⟨C,y,p,R⟩:=I.list n
  obtain ⟨t,B,O,G,q,D⟩:=m it (by simp)
  have hl:=y.length
  exact wpAny_pyNext_list_end (I.ok.hd M) st p.isList (by simp; omega) λl Q=>⟨rfl,I.turned (t':=s.toks) (λb o g e=>Q b o g e) t B G q D⟩
 self:=λ_ _ _ _ _ st h=>wpAny_pyIter_listiter st h
theorem uC{K:PySem.W.Frag}(a it:Addr):Turn P w K S (PJ K a) [it] it (λi h=>h.IsTupleIter it a i) where
 mem:=by simp
 obj:=λi h st b g=>by
  have e:b=it:=by simpa using g
  subst e
  obtain ⟨o,e,c,d⟩:=st
  exact ⟨o,e,λv z=>by rw[d] at z; cases z⟩
 keep:=λi h m st k=>st.at λo e=>k it (by simp) o e
 item:=by
  intro X J F B M i f s N H E I n st L
  subst J F B
  obtain ⟨V,x,q,t⟩:=L
  obtain ⟨j,A,p,R⟩:=I.tuple q
  obtain ⟨u,T,ru⟩:=A.get t
  obtain ⟨y,C,O,G,r,D⟩:=n it (by simp)
  refine U8 st (show s.heap.IsTuple a j.toArray from p) (x:=u) (by simpa using T) λm l Z=>?_
  have U:Inv X f N H { s with heap:=m }:=I.turned (t':=s.toks) (λb o g e=>(Z.2 b g).trans e) y C G r D
  obtain ⟨o,e,c,d⟩:=id l
  exact ⟨u,rfl,S5 (s:={ s with heap:=m }) e c d (by decide) ⟨x,H,U,ru,⟨rfl,λys Y=>by rw[I.tuple_inj Y q]; exact t⟩,l,λb g=>(n b g).1⟩⟩
 done:=by
  intro X J F B M i f s N H E I n st L
  subst J F B
  obtain ⟨V,q,t⟩:=L
  obtain ⟨j,A,p,R⟩:=I.tuple q
  obtain ⟨y,C,O,G,r,D⟩:=n it (by simp)
  have hl:=A.length
  exact V1 (I.ok.hd M) st (show s.heap.IsTuple a j.toArray from p) (by simp; omega) λm Q=>⟨rfl,I.turned (t':=s.toks) (λb o g e=>Q b o g e) y C G r D⟩
 self:=λ_ _ _ _ _ st h=>wpAny_pyIter_tupleiter st h
theorem vB{K:PySem.W.Frag}(it:Addr)(lo:Int)(n:Nat):Turn P w K L (MJ lo n) [it] it (λi h=>IsRangeIter h it (lo+(i:Nat) * 1) ((n:Int) - (i:Nat)) 1) where
 mem:=by simp
 obj:=λi h st b c=>by
  have e:b=it:=by simpa using c
  subst e
  exact ⟨_,st,λv z=>by
   have J:Data.fields _=Data.cell v:=z
   cases J⟩
 keep:=λi h f st k=>k it (by simp) _ st
 item:=by
  intro X y u p l i a s C H E I g st A
  subst y u p
  obtain ⟨m,q,D,x,j,r⟩:=g it (by simp)
  have W:=Walks.range (prog:=X.prog) (w:=X.w) (I.ok.hd l) it lo 1 n
  refine W.item i s _ _ A st λv f B N d F=>?_
  obtain ⟨t,rfl⟩:=N
  have M:Inv X a C H { s with heap:=f,toks:=B }:=I.turned (λb o c e=>F b o (by simpa using c) e) m q x j r
  refine ⟨_,rfl,S5 (s:={ s with heap:=f,toks:=B }) (n := "range_iterator") d rfl rfl (by decide) ⟨.int (lo+i),H,M,⟨t,?_⟩,⟨rfl,rfl⟩,d,λb c=>(g b c).1⟩⟩
  rw[Int.mul_one]
 done:=by
  intro X y u p l i a s C H E I g st A
  subst y u p
  obtain ⟨m,q,D,x,j,r⟩:=g it (by simp)
  exact wpAny_pyNext_range_end (I.ok.hd l) st (by have : n<=i:=A; omega) λf G=>⟨rfl,I.turned (t':=s.toks) (λb o c e=>G b o c e) m q x j r⟩
 self:=λ_ _ _ _ _ st h=>wpAny_pyIter_rangeiter st h
section
variable{X:Cx}{c:Expr}
def LH(K:PySem.W.Frag)(c:TE):TI:=λe H R=>c e H λx b=>∃a,x=.ref a/\(∃d,Nm K b a d)/\R (OZ K a) b
def OI(K:PySem.W.Frag)(c:TE):TI:=λe H R=>c e H λx b=>∃a,x=.ref a/\(∃d,Wt K b a d)/\R (PJ K a) b
theorem CM(hl:PE X l j):PI X c l (LH X.K j):=by
 intro d s n H R I h
 refine Gj (hl d s n H _ I h) λv f i => ?_
 obtain ⟨x,r,g,m,w⟩ := i
 obtain ⟨a,e,⟨z,k⟩,q⟩:=w
 subst e
 cases m
 obtain ⟨t,y,p,A⟩:=g.list k
 refine lC p.isList ?_
 refine ⟨f.heap.objs.size,[f.heap.objs.size],_,_,r,rfl,g.kept (t':=f.toks) λb o e=>Ai _ e,z0 a _,⟨_,Ap _ rfl,rfl,rfl⟩,λb u=>?_,q⟩
 have e:b=f.heap.objs.size:=by simpa using u
 subst e
 exact g.fpOk (Ak _) (g.hok.fresh (Ak _))
theorem IE(hl:PE X l k):PI X c l (OI X.K k):=by
 intro d s r H R I h
 refine Gj (hl d s r H _ I h) λv f i => ?_
 obtain ⟨x,t,g,n,w⟩ := i
 obtain ⟨a,e,⟨z,m⟩,q⟩:=w
 subst e
 cases n
 obtain ⟨j,y,p,A⟩:=g.tuple m
 refine wpAny_pyIter_tuple (show f.heap.IsTuple a j.toArray from p) ?_
 refine ⟨f.heap.objs.size,[f.heap.objs.size],_,_,t,rfl,g.kept (t':=f.toks) λb o e=>Ai _ e,uC a _,⟨_,Ap _ rfl,rfl,rfl⟩,λb u=>?_,q⟩
 have e:b=f.heap.objs.size:=by simpa using u
 subst e
 exact g.fpOk (Ak _) (g.hok.fresh (Ak _))
theorem L8{d:List (Addr×Obj)}{g:St}{H:Hp}{lo a:Int}(I:Inv X d g H s)(h1:-(2 ^ 62)<=lo)(l:lo<2 ^ 62)(k:-(2 ^ 62)<=a)(i:a<2 ^ 62)(q:R (MJ lo (a - lo).toNat) H):wpAny (model X.prog X.w) X.A (cR (.ref s.heap.objs.size)) (PR X d g c R) E { s with heap:=s.heap.push { cls:=.type "range",data:=.fields #[.int lo t,.int a u,.int 1 v] },toks:=f }:=by
 refine wpAny_pyIter_range (IsRange.new ..) (small_one h1 l k i) ?_
 have h:Inv X d g H { s with heap:=s.heap.push { cls:=.type "range",data:=.fields #[.int lo t,.int a u,.int 1 v] },toks:=f }:=I.kept λb o e=>Ai _ e
 refine ⟨(s.heap.push { cls:=.type "range",data:=.fields #[.int lo t,.int a u,.int 1 v] }).objs.size,[(s.heap.push { cls:=.type "range",data:=.fields #[.int lo t,.int a u,.int 1 v] }).objs.size],_,_,H,rfl,
  h.kept (t':=f) λb o e=>Ai _ e,vB _ lo (a - lo).toNat,?_,λb n=>?_,q⟩
 ·have m:lo+((0:Nat):Int) * 1=lo:=by simp
  have j:(((a - lo).toNat:Nat):Int) - ((0:Nat):Int)=Ly lo a 1:=by rw[rangeSize_one]; split <;> omega
  show IsRangeIter _ _ (lo+((0:Nat):Int) * 1) ((((a - lo).toNat:Nat):Int) - ((0:Nat):Int)) 1
  rw[m,j]
  exact Ap _ rfl
 ·have e:b=(s.heap.push { cls:=.type "range",data:=.fields #[.int lo t,.int a u,.int 1 v] }).objs.size:=by simpa using n
  subst e
  exact h.fpOk (Ak _) (h.hok.fresh (Ak _))
def JO(a:TA):TI:=λb H R=>a b H λvs c=>∃j:Int,vs=[.int j] /\ -(2 ^ 62)<=j/\j<2 ^ 62/\R (MJ 0 j.toNat) c
theorem u6(v:Gl X "range")(i:X.mg "range" = none)(m:PA X [a] f)(g:Bo [a] X.env=[(false,eval a X.env)]:=by rfl):PI X c (.Call (.Name "range" p) [a] [] pos) (JO f):=by
 intro b s n H R I h
 refine Call_ (Tw I v i boot_range (Fc (Gj (m pos b s n H _ I h) λy w ⟨vs,x,u,k,d⟩=>?_) g rfl))
 obtain ⟨j,e,d,o,q⟩:=d
 subst e
 cases k with
 | cons r l =>
  cases l
  obtain ⟨t,rfl⟩:=r
  exact call_range_1 (L8 u (by omega) (by omega) d o (by simpa using q))
def OQ(f:TI)(g:TG)(k:TS):TS:=λD a H=>f a H λJ j=>∃W:Nat->Nat->St->Hp->Prop,(∃m,W 0 m a j)/\∀i m a H,W i m a H ->
 (J.stop i H/\D.nx a H)\/(J.go i H/\∃N:St->Hp->Prop,(∀b c,N b c->∃e,e<m/\W (i+1) e b c)/\∀x c,J.yld i H x c->g x a c λd h=>k { D with nx:=N,ct:=N,bk:=D.nx } d h)
def Qe(fp:List Addr)(h:Heap):List (Addr×Obj):=fp.filterMap λb=>(h.get? b).map λo=>(b,o)
theorem Gr(hb:b∈fp)(e:h.get? b=some o):(b,o)∈Qe fp h:=List.mem_filterMap.mpr ⟨b,hb,by rw[e]; rfl⟩
theorem u9(a:p∈Qe fp h):p.1∈fp/\h.get? p.1=some p.2:=by
 obtain ⟨b,d,e⟩:=cG.mp a
 cases q:h.get? b with
 | none=>rw[q] at e; cases e
 | some o =>
  rw[q] at e
  have c:(b,o)=p:=Cj e
  subst c
  exact ⟨d,q⟩
theorem Inv.pinned{c:St}(I:Inv X a c H s)(j:∀b∈fp,Mu X a H b)(l:∀b∈fp,∃o,s.heap.get? b=some o/\∀v,o.data≠.cell v):Inv X (a++Qe fp s.heap) c H s :=
 I.pins_of λp m=>(Aw.mp m).elim (λz=>I.pin p (Ag _ z)) λz=>by
  obtain ⟨g,e⟩:=u9 z
  obtain ⟨i,k,h,_⟩:=j p.1 g
  obtain ⟨o,f,d⟩:=l p.1 g
  rw[e] at f; cases f
  exact ⟨e,i,k,h,d⟩
theorem Inv.unpinned{a c:List (Addr×Obj)}{b:St}(I:Inv X (a++c) b H s):Inv X a b H s:=I.pins_of λp d=>I.pin p (Ag _ (Am _ d))
theorem HX(G:PassesOwn (model X.prog X.w) X.A X.env X.xe)(hc:X.calm=true)(hi:PI X c iter wi)(hg:PG X c g)(hb:wO X C tb)(hs:∀x,Dd iter X.env x=pure x:=by intro _; rfl):PS X (.For c iter C [] pos) (OQ wi g tb):=by
 intro a s σ H D I h
 refine wpAny_For (Gj (hi a s σ H _ I h) λv s1 h1=>Gj h1 λh0 s2 h2=>?_) hs
 obtain ⟨it,O,tn,J,H2,e,I2,T,S,Z,W,⟨m0,w0⟩,K⟩:=h2
 subst e
 -- what stays true of the iterator's objects through the loop
 have l:∀{z:Hp},(∀b∈O,z b=none)->∀b∈O,Mu X a z b:=λhn b hb=>⟨hn b hb,(Z b hb).2⟩
 refine codeAny_forLoop_any (λn s'=>∃i q z,Inv X a q z s'/\tn i s'.heap/\(∀b∈O,z b=none)/\W i n q z) ?_ m0 ⟨0,σ,H2,I2,S,λb hb=>(Z b hb).1,w0⟩
 (intro n s3 q_; obtain ⟨i,y,P,I3,Ua,F,w3⟩ := q_)
 rcases K i n y P w3 with ⟨M,qn⟩ | ⟨go,N,hN,step⟩
 ·refine Sr G (Gj (T.done X rfl rfl rfl hc i a s3 y P X.xe I3 (l F) Ua M) λr s4 k => ?_)
  obtain ⟨R,I4⟩ := k
  subst R
  exact wpAny_execs_nil ⟨y,P,I4,qn⟩
 ·refine Sr G (Gj (T.item X rfl rfl rfl hc i a s3 y P X.xe I3 (l F) Ua go) λr s4 k => ?_)
  obtain ⟨u,R,h4⟩ := k
  subst R
  refine Sr G (Gj h4 λ_ s5 k => ?_)
  obtain ⟨x,H5,I5,r5,y5,E,U⟩ := k
  have Y:=I5.pinned (l U) (T.obj _ _ E)
  refine Sr G (Gj (hg _ s5 y H5 x u _ Y r5 (step x H5 y5)) λ_ s6 k => ?_)
  obtain ⟨Q,H6,I6,q6⟩ := k
  refine Sr G (Gj (hb _ s6 Q H6 _ I6 q6) λf V B=>?_)
  have again:∀{j:St} {p:Hp},Inv X (a++Qe O s5.heap) j p V->N j p->∃m,m<n/\∃i q z,Inv X a q z V/\tn i V.heap/\(∀b∈O,z b=none)/\W i m q z:=λ{j p} t L=>by
   obtain ⟨m',hm,w7⟩:=hN j p L
   refine ⟨m',hm,i+1,j,p,t.unpinned,T.keep _ _ _ E λb hb o e=>(t.pin (b,o) (Ag _ (Ag _ (Gr hb e)))).1,λb hb=>?_,w7⟩
   obtain ⟨o,e,d⟩:=T.obj _ _ E b hb
   exact (t.pin (b,o) (Ag _ (Ag _ (Gr hb e)))).2.1
  cases f with
  | next=>obtain ⟨j,p,t,L⟩:=B; exact again t L
  | cont=>obtain ⟨j,p,t,L⟩:=B; exact again t L
  | brk=>obtain ⟨j,p,t,B⟩:=B; exact ⟨j,p,t.unpinned,B⟩
  | ret v=>obtain ⟨x7,j,p,t,r7,B⟩:=B; exact ⟨x7,j,p,t.unpinned,r7,B⟩
end
abbrev R2:=V->V->Hp->VK->Prop
def aQ(X:Cx)(f:Value->Value->Sem Value)(r:R2):Prop :=
 ∀(a:List (Addr×Obj)) (s:Ah) (b:St) (H:Hp) (x y:V) (v u:Value) (Q:VK),Inv X a b H s->RelV x v->RelV y u->r x y H Q ->
  wpAny (model X.prog X.w) X.A (f v u) (EP X a b Q) X.xe s
def PM(X:Cx)(f:Value->Sem Value)(r:V->Hp->VK->Prop):Prop :=
 ∀(a:List (Addr×Obj)) (s:Ah) (b:St) (H:Hp) (x:V) (v:Value) (Q:VK),Inv X a b H s->RelV x v->r x H Q ->
  wpAny (model X.prog X.w) X.A (f v) (EP X a b Q) X.xe s
def Nt(X:Cx)(f:Value)(r:List V->Hp->VK->Prop):Prop :=
 ∀(a:List (Addr×Obj)) (s:Ah) (b:St) (H:Hp) (d:List V) (c:List Value) (Q:VK),Inv X a b H s->Gn d c->r d H Q ->
  wpAny (model X.prog X.w) X.A (call f c) (EP X a b Q) X.xe s
def OD(X:Cx)(r:V->Hp->(Bool->Hp->Prop)->Prop):Prop :=
 ∀(a:List (Addr×Obj)) (s:Ah) (b:St) (H:Hp) (x:V) (v:Value) (Q:Bool->Hp->Prop),Inv X a b H s->RelV x v->r x H Q ->
  wpAny (model X.prog X.w) X.A (truthy v) (TP X a b Q) X.xe s
def MT(r:R2)(b e:TE):TE:=λa H Q=>b a H λx d=>e a d λy c=>r x y c Q
def RF(r:V->Hp->VK->Prop)(a:TE):TE:=λb H Q=>a b H λx c=>r x c Q
def rI(C:Int->Int->Prop)(g:Int->Int->V):R2:=λx y H Q=>∃i j,x=.int i/\y=.int j/\C i j/\Q (g i j) H
def FI(g:Int->Int->V):R2:=λx y H Q=>∃i j,x=.int i/\y=.int j/\Q (g i j) H
def rU(g:Int->V):V->Hp->VK->Prop:=λx H Q=>∃i,x=.int i/\Q (g i) H
section
variable{X:Cx}{a b c:Expr}{d e k:TE}{pos:Pos}
theorem IK(q:PE X a d)(hb:PE X b e){c:List (Addr×Obj)}{i:St}{R:V->V->Hp->Prop}(I:Inv X c i H s)(h:d i H λx n=>e i n λy j=>R x y j){f:Value->Value->Sem Value}(t:∀v u m x y j,Inv X c i j m->RelV x v->RelV y u->R x y j->wpAny (model X.prog X.w) X.A (f v u) Q X.xe m):wpAny (model X.prog X.w) X.A (eval a X.env) (λv l=>wpAny (model X.prog X.w) X.A (eval b X.env) (λu k=>wpAny (model X.prog X.w) X.A (f v u) Q X.xe k) X.xe l) X.xe s:=by
 refine Gj (q c s i H _ I h) λv r g => ?_
 obtain ⟨x,n,B,p,C⟩ := g
 refine Gj (hb c r i n _ B C) λu m g => ?_
 obtain ⟨y,j,D,o,z⟩ := g
 exact t v u m x y j D p o z
theorem Ku(j:aQ X (Kb op) r)(i:PE X a d)(hb:PE X b e):PE X (.BinOp a op b pos) (MT r d e):=by
 intro c s g H Q I h
 exact wpAny_BinOp (IK i hb I h λv u k x y n m l f q=>j c k g n x y v u Q m l f q)
theorem JH(k:PM X (unaryOp op) r)(g:PE X a d):PE X (.UnaryOp op a pos) (RF r d):=by
 intro b s c H Q I h
 exact UnaryOp_ (Gj (g b s c H _ I h) λv f ⟨x,j,l,e,i⟩=>k b f c j x v Q l e i)
theorem LX{g:Int->Int->Int}(rule:∀(i j:Int) (t u:Tok) (s:Ah) (Q:Value->Ah->Prop) (E:Value->Ah->Prop),C i j->Q (.int (g i j) s.toks) { s with toks:=s.toks+1 }->wpAny (model X.prog X.w) X.A (f (.int i t) (.int j u)) Q E s):aQ X f (rI C λi j=>.int (g i j)):=by
 intro a s k H x y v u Q I e d h
 obtain ⟨i,j,rfl,rfl,b,q⟩:=h
 obtain ⟨t,rfl⟩:=e
 obtain ⟨c,rfl⟩:=d
 exact rule i j t c s _ _ b ⟨.int (g i j),H,I.tok _,⟨_,rfl⟩,q⟩
theorem MM{g:Int->Int->Int}(rule:∀(i j:Int) (t u:Tok) (s:Ah) (Q:Value->Ah->Prop) (E:Value->Ah->Prop),Q (.int (g i j) s.toks) { s with toks:=s.toks+1 }->wpAny (model X.prog X.w) X.A (f (.int i t) (.int j u)) Q E s):aQ X f (FI λi j=>.int (g i j)):=by
 intro a s e H x y v u Q I d c h
 obtain ⟨i,j,rfl,rfl,q⟩:=h
 obtain ⟨t,rfl⟩:=d
 obtain ⟨b,rfl⟩:=c
 exact rule i j t b s _ _ ⟨.int (g i j),H,I.tok _,⟨_,rfl⟩,q⟩
theorem JN{g:Int->Int->Bool}(rule:∀(i j:Int) (t u:Tok) (s:Ah) (Q:Value->Ah->Prop) (E:Value->Ah->Prop),Q (.bool (g i j)) s->wpAny (model X.prog X.w) X.A (f (.int i t) (.int j u)) Q E s):aQ X f (FI λi j=>.bl (g i j)):=by
 intro a s e H x y v u Q I d c h
 obtain ⟨i,j,rfl,rfl,q⟩:=h
 obtain ⟨t,rfl⟩:=d
 obtain ⟨b,rfl⟩:=c
 exact rule i j t b s _ _ ⟨.bl (g i j),H,I,rfl,q⟩
def FJ(i j:Int):Prop:=0<j/\j<1073741824
def NW(i j:Int):Prop:=0<=j/\j<=1000000/\i.natAbs<2 ^ 64
def AL(i j:Int):Prop:=(-(2 ^ 64)<i/\i<2 ^ 64)\/(-(2 ^ 64)<j/\j<2 ^ 64)
theorem AL.ok(h:AL i j):IntMulOk i j:=by
 rcases h with ⟨a,b⟩ | ⟨a,b⟩
 ·exact .of_left (intBits_le_64 a b)
 ·exact .of_right (intBits_le_64 a b)
theorem gP:aQ X (Kb .Add) (FI λi j=>.int (i+j)):=MM λ_ _ _ _ _ _ _ q=>add_int q
theorem GZ:aQ X (Kb .Sub) (FI λi j=>.int (i - j)):=MM λ_ _ _ _ _ _ _ q=>sub_int q
theorem bV:aQ X (Kb .Mult) (rI AL λi j=>.int (i * j)):=LX λ_ _ _ _ _ _ _ a q=>mul_int q a.ok
theorem nQ:aQ X (Kb .FloorDiv) (rI FJ λi j=>.int (i / j)):=LX λi j _ _ _ _ _ a q=>by
 have b:(0:Int)<j:=a.1
 have c:j<1073741824:=a.2
 exact floordiv_int (by omega) (by rw[Int.fdiv_eq_ediv_of_nonneg i (by omega)]; exact q) (.inl (PyProof.noPylong_small (by omega)))
theorem Yd:aQ X (Kb .Mod) (rI (λ_ j=>0<j) λi j=>.int (i % j)):=LX λi j _ _ _ _ _ a q=>by
 have b:(0:Int)<j:=a
 exact mod_int' (by omega) (by rw[Int.fmod_eq_emod_of_nonneg i (by omega)]; exact q)
theorem oK:aQ X (Kb .Pow) (rI NW λi j=>.int (i ^ j.toNat)):=LX λ_ _ _ _ _ _ _ a q=>pow_int_small a.1 a.2.1 a.2.2 q
theorem QQ{g:Int->Int}(rule:∀(i:Int) (t:Tok) (s:Ah) (Q:Value->Ah->Prop) (E:Value->Ah->Prop),Q (.int (g i) s.toks) { s with toks:=s.toks+1 }->wpAny (model X.prog X.w) X.A (f (.int i t)) Q E s):PM X f (rU λi=>.int (g i)):=by
 intro a s c H x v Q I b h
 obtain ⟨i,rfl,q⟩:=h
 obtain ⟨t,rfl⟩:=b
 exact rule i t s _ _ ⟨.int (g i),H,I.tok _,⟨_,rfl⟩,q⟩
theorem FV:PM X (unaryOp .USub) (rU λi=>.int (-i)):=QQ λ_ _ _ _ _ q=>neg_int q
end
def NM:V->V->Bool
 | .non,.non=>true | .non,.int _=>true | .int _,.non=>true | .non,.bl _=>true | .bl _,.non=>true | .non,.str _=>true | .str _,.non=>true
 | .int _,.int _=>true | .bl _,.bl _=>true | .str _,.str _=>true | .byt _,.byt _=>true
 | .int _,.str _=>true | .str _,.int _=>true | .bl _,.str _=>true | .str _,.bl _=>true
 | _,_=>false
def QW:R2:=λx y H Q=>NM x y=true/\Q (.bl (decide (x=y))) H
theorem V9:decide (V.int i=V.int j)=(i == j):=by
 rw[Jn]
 simp
theorem GN:decide (V.bl i=V.bl j)=(i == j):=by
 rw[Jn]
 simp
theorem CJ:decide (V.str i=V.str j)=(i == j):=by
 rw[Jn]
 simp
theorem AG:decide (V.byt i=V.byt j)=(i.toList == j.toList):=by
 rw[Jn]
 cases i
 cases j
 simp
section
variable{X:Cx}{a b c:Expr}{d f g:TE}{pos:Pos}
theorem Mm{a:List (Addr×Obj)}{c:St}{k b:Bool}(I:Inv X a c H s)(q:Q (.bl k) H)(e:k=b):EP X a c Q (.bool b) s:=by
 subst e
 exact ⟨.bl k,H,I,rfl,q⟩
theorem JS:aQ X (Jy .Eq) QW:=by
 intro e s f H x y v u Q I d a h
 obtain ⟨c,q⟩:=h
 cases x with
 | non =>
  cases d
  cases y with
  | non=>cases a; exact PySem.EqNone.eq_none_none (Mm I q (by simp))
  | bl j=>cases a; exact PySem.EqNone.eq_none_bool (Mm I q (by simp))
  | int j=>obtain ⟨b,rfl⟩:=a; exact PySem.EqNone.eq_none_int (Mm I q (by simp))
  | str j=>obtain ⟨b,rfl⟩:=a; exact PySem.EqNone.eq_none_str (Mm I q (by simp))
  | _=>exact absurd (show false=true from c) Bk
 | bl i =>
  cases d
  cases y with
  | non=>cases a; exact PySem.EqNone.eq_bool_none (Mm I q (by simp))
  | bl j=>cases a; exact eq_bool (Mm I q GN)
  | str j=>obtain ⟨b,rfl⟩:=a; exact PySem.EqMixed.eq_bool_str (Mm I q (by simp))
  | _=>exact absurd (show false=true from c) Bk
 | int i =>
  obtain ⟨t,rfl⟩:=d
  cases y with
  | non=>cases a; exact PySem.EqNone.eq_int_none (Mm I q (by simp))
  | int j=>obtain ⟨b,rfl⟩:=a; exact eq_int (Mm I q V9)
  | str j=>obtain ⟨b,rfl⟩:=a; exact PySem.EqMixed.eq_int_str (Mm I q (by simp))
  | _=>exact absurd (show false=true from c) Bk
 | str i =>
  obtain ⟨t,rfl⟩:=d
  cases y with
  | non=>cases a; exact PySem.EqNone.eq_str_none (Mm I q (by simp))
  | bl j=>cases a; exact PySem.EqMixed.eq_str_bool (Mm I q (by simp))
  | int j=>obtain ⟨b,rfl⟩:=a; exact PySem.EqMixed.eq_str_int (Mm I q (by simp))
  | str j=>obtain ⟨b,rfl⟩:=a; exact eq_str (Mm I q CJ)
  | _=>exact absurd (show false=true from c) Bk
 | byt i =>
  obtain ⟨t,rfl⟩:=d
  cases y with
  | byt j=>obtain ⟨b,rfl⟩:=a; exact PySem.W.eq_bytes (Mm I q AG)
  | _=>exact absurd (show false=true from c) Bk
 | _=>cases y <;> exact absurd (show false=true from c) Bk
theorem CZ:aQ X (Jy .Lt) (FI λi j=>.bl (decide (i<j))):=JN λ_ _ _ _ _ _ _ q=>lt_int q
theorem JT:aQ X (Jy .GtE) (FI λi j=>.bl (decide (j<=i))):=JN λ_ _ _ _ _ _ _ q=>ge_int q
theorem Yn(b:Expr)(h:op≠.In:=by decide)(a:op≠.NotIn:=by decide):Hf op b=false:=by
 have d:(op == CmpOp.In)=false:=by cases op <;> first | rfl | exact absurd rfl h
 have c:(op == CmpOp.NotIn)=false:=by cases op <;> first | rfl | exact absurd rfl a
 cases b <;> simp [Hf,d,c]
theorem BL(k:aQ X (Jy op) r)(j:PE X a d)(hb:PE X b f)(e:Hf op b=false):PE X (.Compare a [op] [b] pos) (MT r d f):=by
 intro c s i H Q I h
 exact wpAny_Compare1 (IK j hb I h λv u l x y o n m g q=>k c l i o x y v u Q n m g q) e
def LW(t:TE):TT:=λb H Q=>t b H λx a=>∃k,x=.bl k/\Q k a
theorem lM(o:aQ X (Jy op) r)(w:PE X a d)(hb:PE X b f)(t:Hf op b=false):PT X (.Compare a [op] [b] pos) (LW (MT r d f)):=by
 intro g s i H Q I h
 refine wpAny_isTrue_Compare1 (Gj (w g s i H _ I h) λv m ⟨x,q,E,j,G⟩=>Gj (hb g m i q _ E G) λu D ⟨y,p,J,l,n⟩ =>
  Gj (o g D i p x y v u _ J j l n) λc K ⟨z,C,F,A,k,e,B⟩=>?_) t
 subst e
 cases A
 exact Mf ⟨C,F,B⟩
def NU(K:PySem.W.Frag)(x:V)(H:Hp)(k:Bool):Prop :=
 match x with
 | .non=>k=false
 | .bl b=>k=b
 | .int i=>k=(i != 0)
 | .str y=>y.length<=Au/\k=((y.length:Int) != 0)
 | .byt y=>y.size<=Au/\k=((y.size:Int) != 0)
 | .ref p=>(∃c,Nm K H p c/\k = !c.isEmpty)\/(∃c,Wt K H p c/\k = !c.isEmpty)\/∃a,H p=some (.dK a)/\k = !a.isEmpty
 | _=>False
theorem Yj:(Au:Nat)<2 ^ 63:=by rw[Gs]; decide
theorem vals1(r:Gn [x] us):∃u,us=[u]/\RelV x u:=by
 cases r with
 | cons b a=>cases a; exact ⟨_,rfl,b⟩
theorem vals2(r:Gn [x,y] us):∃u a,us=[u,a]/\RelV x u/\RelV y a:=by
 cases r with
 | cons c b =>
  cases b with
  | cons d e=>cases e; exact ⟨_,_,rfl,c,d⟩
theorem r0:Nt X (.type "int") (λxs H Q=>(∃i,xs=[.int i]/\Q (.int i) H)\/∃k,xs=[.bl k]/\Q (.int (if k then 1 else 0)) H):=by
 intro a s d H xs c Q I r h
 rcases h with ⟨i,rfl,q⟩ | ⟨k,rfl,q⟩
 ·obtain ⟨u,rfl,t,rfl⟩:=vals1 r
  exact call_int_int ⟨.int i,H,I,⟨_,rfl⟩,q⟩
 ·obtain ⟨u,rfl,b⟩:=vals1 r
  cases b
  exact call_int_bool ⟨.int (if k then 1 else 0),H,I.tok _,⟨_,rfl⟩,q⟩
def JU(K:PySem.W.Frag)(x:V)(H:Hp)(n:Nat):Prop :=
 match x with
 | .str y=>y.length<=Au/\n=y.length
 | .byt y=>y.size<=Au/\n=y.size
 | .ref p=>(∃a,Nm K H p a/\n=a.length)\/∃a,Wt K H p a/\n=a.length
 | _=>False
theorem Qj:Nt X (.builtin "len") (λxs H Q=>∃x n,xs=[x]/\JU X.K x H n/\Q (.int n) H):=by
 intro j s v H xs w Q I r h
 obtain ⟨x,n,rfl,e,q⟩:=h
 obtain ⟨u,rfl,g⟩:=vals1 r
 have m:=Yj
 have o:Au=16777216:=Gs
 cases x with
 | str y =>
  obtain ⟨t,rfl⟩:=g
  obtain ⟨k,b⟩ : y.length<=Au/\n=y.length:=e
  subst b
  exact len_str (by omega) ⟨.int _,H,I.tok _,⟨_,rfl⟩,q⟩
 | byt y =>
  obtain ⟨t,rfl⟩:=g
  obtain ⟨k,b⟩ : y.size<=Au/\n=y.size:=e
  subst b
  exact PySem.W.len_bytes (by omega) ⟨.int _,H,I.tok _,⟨_,rfl⟩,q⟩
 | ref p =>
  cases g
  have b:(∃xs,Nm X.K H p xs/\n=xs.length)\/∃xs,Wt X.K H p xs/\n=xs.length:=e
  rcases b with ⟨xs,i,b⟩ | ⟨xs,i,b⟩
  ·subst b
   obtain ⟨c,d,f,l⟩:=I.list i
   have a:=d.length
   exact Calls.call_len_list f.isList (by simp only[Av]; omega) ⟨.int xs.length,H,I.tok _,⟨_,by simp only[Av]; rw[a]⟩,q⟩
  ·subst b
   obtain ⟨c,d,f,l⟩:=I.tuple i
   have a:=d.length
   exact len_tuple f (by simp only[Av]; omega) ⟨.int xs.length,H,I.tok _,⟨_,by simp only[Av]; rw[a]⟩,q⟩
 | _=>exact (show False from e).elim
end
theorem zF.some_of(r:zF (some v) o):∃u,o=some u/\RelV v u:=by
 cases o with
 | none=>exact (show False from r).elim
 | some u=>exact ⟨u,rfl,r⟩
structure Room(k:Nat)(A:Ck):Prop where
 hd:A.handled=none
 dp:A.depth+3 * k+5<recursionLimit
 un:A.units+16 * k+200<cLine
 gd:A.guards=some []
theorem Room.mono(r:Room k A)(h:j<=k):Room j A:=⟨r.hd,by have:=r.dp; omega,by have:=r.un; omega,r.gd⟩
theorem Room.deeper(r:Room (k+1) A)(env:Env):Room k (A.deeper env) :=
 ⟨r.hd,by have:=r.dp; show A.depth+1+3 * k+5<_; omega,by have:=r.un; show A.units+3+16 * k+200<_; omega,r.gd⟩
theorem Room.depth(r:Room k A):A.depth<recursionLimit:=by have:=r.dp; omega
theorem Room.units(r:Room k A):A.units+64<cLine:=by have:=r.un; omega
def KR:TA:=λ_ H Q=>Q [] H
def KA(c:TE)(tr:TA):TA:=λa H Q=>c a H λx b=>tr a b λe d=>Q (x::e) d
section
variable{X:Cx}{e:Expr}{es:List Expr}{a:TE}{t:TA}{pos:Pos}
theorem Oc:PA X [] KR:=λ_ _ _ _ H Q I h=>cW ⟨[],H,I,.nil,h⟩
theorem Ik(l:PE X e a)(j:PA X es t)(g:Bo (e::es) X.env=(false,eval e X.env)::Bo es X.env:=by rfl):PA X (e::es) (KA a t):=by
 intro pos b s d H Q I h
 rw[g]
 show wpAny _ _ (spliced ((false,eval e X.env)::Hm pos (Bo es X.env))) _ _ s
 refine aU (Gj (l b s d H _ I h) λu k c => ?_)
 obtain ⟨x,m,r,i,p⟩ := c
 exact Gj (j pos b k d m _ r p) λy w ⟨o,q,v,f,n⟩=>⟨x::o,q,v,.cons i f,n⟩
def PB(t:TA):TE:=λc H Q=>t c H λa b=>a.length<=Au/\∀p,b p=none->Q (.ref p) (upd b p (.tup a))
def OC(t:TA):TE:=λc H Q=>t c H λa b=>a.length<=Au/\∀p,b p=none->Q (.ref p) (upd b p (.lst a))
theorem GP(h:PA X es t):PE X (.Tuple es x1 pos) (PB t):=by
 intro a s i H Q I g
 refine wpAny_Tuple_spliced (Gj (h pos a s i H _ I g) λl c ⟨k,d,f,r,z,q⟩=>⟨by rw[<- r.length]; exact z,?_⟩)
 have j:d c.heap.objs.size=none:=f.hok.fresh (Ak _)
 refine ⟨.ref c.heap.objs.size,upd d c.heap.objs.size (.tup k),f.laid (t':=c.toks) (λb u e=>Ai _ e) (Ak _) ?_,rfl,q _ j⟩
 exact ⟨z,l,r,⟨_,Ap _ rfl,rfl,_,rfl⟩⟩
theorem uO(h:PA X es t):PE X (.List es pos) (OC t):=by
 intro a s i H Q I g
 refine wpAny_List_spliced (Gj (h pos a s i H _ I g) λl c ⟨k,d,f,r,z,q⟩=>⟨by rw[<- r.length]; exact z,?_⟩)
 have j:d c.heap.objs.size=none:=f.hok.fresh (Ak _)
 refine ⟨.ref c.heap.objs.size,upd d c.heap.objs.size (.lst k),f.laid (t':=c.toks) (λb u e=>Ai _ e) (Ak _) ?_,rfl,q _ j⟩
 exact ⟨z,l,0,r,Ap _ rfl⟩
end
abbrev Sp:=List V->Hp->VK->XK->Prop
abbrev vN:=List Env->Hp->Ah->XK->Value->Ah->Prop
structure Env0(P:Bn)(w:World)(K:PySem.W.Frag)(mg:Str->Option Value)(base:Heap)(A:Ck)(outer:List Env)(s:Ah)(H:Hp):Prop where
 frames:A.frames=some outer
 mod:Mod K mg base
 bs:∀b o,base.get? b=some o->s.heap.get? b=some o/\H b=none
 bsz:base.objs.size<=s.heap.objs.size
 funs:s.heap.FunFrames base outer
 frf:∀b∈q9 outer,H b=none
 hok:aS P w H s.heap
 bare:Zd s.gens
def CE(outer:List Env)(P:Bn)(w:World)(H:Hp)(s:Ah)(Q:VK)(u:Value)(s':Ah):Prop :=
 ∃v a,s'.os=s.os/\Zd s'.gens/\Un (q9 outer) [] H a s.heap s'.heap/\aS P w a s'.heap/\RelV v u/\Q v a
def CR(CX:vN)(outer:List Env)(P:Bn)(w:World)(H:Hp)(s:Ah)(Q:VK)(E:XK)(r:Result)(s':Ah):Prop :=
 match r with
 | .ok (.ret u)=>CE outer P w H s Q u s'
 | .ok _=>False
 | .error e=>CX outer H s E e s'
structure FnOk(P:Bn)(w:World)(K:PySem.W.Frag)(mg:Str->Option Value)(base:Heap)(CX:vN)(k:Nat)(f:Addr)(fd:Cv)(ps:List Str)(sp:Sp):Prop where
 len:∀vs H Q E,sp vs H Q E->vs.length=ps.length
 run:∀(A:Ck) (outer:List Env) (s:Ah) (H:Hp) (args:Args) (us:List Value) (vs:List V) (Q:VK) (E:XK),Room k A->Env0 P w K mg base A outer s H->BindsTo s fd args (ps.zip us)->Gn vs us->sp vs H Q E ->
  Hy (model P w) A (.call (.ref f) args) (CR CX outer P w H s Q E) s
theorem FnOk.imp{P:Bn}{w:World}{K:PySem.W.Frag}{mg:Str->Option Value}{base:Heap}(F:FnOk P w K mg base CX k f d ps sp)(h:∀vs H Q E,b vs H Q E->sp vs H Q E):FnOk P w K mg base CX k f d ps b :=
 ⟨λvs H Q E q=>F.len vs H Q E (h _ _ _ _ q),λA a s H c m vs Q E g i l j e=>F.run A a s H c m vs Q E g i l j (h _ _ _ _ e)⟩
section
variable{X:Cx}{a:List (Addr×Obj)}{c:St}{H:Hp}{s s':Ah}
theorem Inv.env0(I:Inv X a c H s):Env0 X.prog X.w X.K X.mg X.base X.A X.stack s H :=
 ⟨I.ok.frames,I.ok.mod,I.bs,Ca I.ok.bsz I.sz,I.stack,I.stkFree,I.hok,I.bare⟩
theorem Inv.after(I:Inv X a c H s)(h:CE X.stack X.prog X.w H s Q u s'):EP X a c Q u s':=by
 obtain ⟨v,k,os,e,un,f,r,q⟩:=h
 obtain ⟨j,g,d,t,i⟩:=s'
 obtain rfl:i=s.os:=os
 exact ⟨v,k,I.call (h':=j) (g':=g) (d':=d) (t':=t) (ch:=[]) un f e (λb z=>absurd z (by simp)),r,q⟩
end
def CT(sp:Sp)(a:List V)(E:XK)(t:TA):TE:=λb H Q=>t b H λvs c=>sp (vs++a) c Q E
def Binds(K:PySem.W.Frag)(b:Cv)(ps:List Str)(ds:List Value):Prop :=
 ∀(s:Ah) (a:List Value),K.In s.heap->(a++ds).length=ps.length->BindsTo s b ⟨a,[]⟩ (ps.zip (a++ds))
theorem Binds.all{K:PySem.W.Frag}(h:∀us:List Value,us.length=ps.length->bindArgs b ⟨us,[]⟩=pure (ps.zip us)):Binds K b ps []:=λs us _ a=>by
 rw[Eb] at a ⊢
 exact .of_eq (h us a)
def Qx(CX:vN)(X:Cx)(E:XK):Prop:=∀(a:List (Addr×Obj)) (c:St) (H:Hp) (s:Ah) (e:Value) (b:Ah),Inv X a c H s->CX X.stack H s E e b->X.xe e b
section
variable{X:Cx}{CX:vN}{k:Nat}{f C:Addr}{b:Cv}{ps:List Str}{sp:Sp}{a:List V}{ds:List Value}{E:XK}{x m:Str}{p pos c:Pos}{e o:Expr}{es:List Expr}{d:TE}{t:TA}
theorem R4{c:List (Addr×Obj)}{g:St}(F:FnOk X.prog X.w X.K X.mg X.base CX k f b ps sp)(l:Room k X.A)(hb:Binds X.K b ps ds)(hd:Gn a ds)(o:Qx CX X E)(I:Inv X c g H s)(r:Gn vs us)(h:sp (vs++a) H Q E):wpAny (model X.prog X.w) X.A (call (.ref f) us) (EP X c g Q) X.xe s:=by
 have i:Gn (vs++a) (us++ds):=r.append hd
 have j:(us++ds).length=ps.length:=by rw[<- i.length]; exact F.len _ _ _ _ h
 refine wpAny_call (Pj (F.run X.A X.stack s H ⟨us,[]⟩ (us++ds) (vs++a) Q E l I.env0 (hb s us I.kIn j) i h) λr m d=>?_)
 cases r with
 | error e=>exact o c g H s e m I d
 | ok n =>
  cases n with
  | ret u=>exact I.after d
  | next=>exact Lw d
  | brk=>exact Lw d
  | cont=>exact Lw d
theorem Wu(F:FnOk X.prog X.w X.K X.mg X.base CX k f b ps sp)(m:Room k X.A)(v:Gl X x)(j:X.mg x=some (.ref f))(u:PySem.W.keepIn X.K (.ref f)=true)(hb:Binds X.K b ps ds)(hd:Gn a ds)(y:Qx CX X E)(n:PA X (e::es) t)(d:(x == ("__debug__" : Str))=false:=by decide)(l:Bo (e::es) X.env=(false,eval e X.env)::Bo es X.env:=by rfl)(g:(Hm pos (Bo es X.env)).any (·.1)=false:=by rfl):PE X (.Call (.Name x p) (e::es) [] pos) (CT sp a E t):=by
 intro c s o H Q I h
 refine Uz (wD I v j ?_ d)
 refine PySem.W.callWith_K (h₀:=X.base) I.ok.mod.kin u (Gj (n pos c s o H _ I h) λC z ⟨vs,B,i,r,q⟩=>⟨i.kIn,?_⟩) l g
 exact R4 F m hb hd y i r q
end
structure FnScope(N P:List Str)(sc:Scope):Prop where
 kind:sc.kind=.function
 co:sc.isCoroutine=false
 gen:sc.isGenerator=false
 nd:N.Nodup
 pre:N.take P.length=P
 par:∀x∈P,sc.names.lookup x=some .local\/sc.names.lookup x=some .cell
 nofree:∀y∈sc.names,y.2≠.free
theorem kX{kindOf:Str->Option Sf}:∀{binds:List (Str×Value)} {m:Str->Option Value},(∀v,(x,v)∉binds)->bindL kindOf binds m x=m x
 | [],_,_=>rfl
 | (n,v)::r,m,h=>by
  unfold bindL
  rw[kX λw a=>h w (Ac _ a)]
  split
  ·have : x≠n:=by rintro rfl; exact h v Ab
   simp [this]
  ·rfl
theorem kO{kindOf:Str->Option Sf}:∀{binds:List (Str×Value)} {m:Str->Option Value},(∀v,(x,v)∉binds)->bindC kindOf binds m x=m x
 | [],_,_=>rfl
 | (n,v)::r,m,h=>by
  unfold bindC
  rw[kO λw a=>h w (Ac _ a)]
  split
  ·rfl
  ·have : x≠n:=by rintro rfl; exact h v Ab
   simp [this]
theorem kC{kindOf:Str->Option Sf}:∀{P:List Str} {vs:List Value} {i:Nat} {m:Str->Option Value},P.Nodup->P[i]? = some x->vs[i]? = some v->kindOf x=some .local->bindL kindOf (P.zip vs) m x=some v
 | [],_,_,_,_,h,_,_=>by simp at h
 | _::_,[],_,_,_,_,h,_=>by simp at h
 | p::P,w::vs,0,m,nd,h1,h2,hk=>by
  simp at h1 h2; subst h1; subst h2
  show bindL kindOf ((p,w)::P.zip vs) m p=_
  unfold bindL
  rw[kX λv a=>(Bx.mp nd).1 (List.of_mem_zip a).1,if_pos hk]
  simp
 | p::P,w::vs,i+1,m,nd,h1,h2,hk=>by
  show bindL kindOf ((p,w)::P.zip vs) m x=_
  unfold bindL
  exact kC (i:=i) (Bx.mp nd).2 (by simpa using h1) (by simpa using h2) hk
theorem kN{kindOf:Str->Option Sf}:∀{P:List Str} {vs:List Value} {i:Nat} {m:Str->Option Value},P.Nodup->P[i]? = some x->vs[i]? = some v->kindOf x≠some .local->bindC kindOf (P.zip vs) m x=some v
 | [],_,_,_,_,h,_,_=>by simp at h
 | _::_,[],_,_,_,_,h,_=>by simp at h
 | p::P,w::vs,0,m,nd,h1,h2,hk=>by
  simp at h1 h2; subst h1; subst h2
  show bindC kindOf ((p,w)::P.zip vs) m p=_
  unfold bindC
  rw[kO λv a=>(Bx.mp nd).1 (List.of_mem_zip a).1,if_neg hk]
  simp
 | p::P,w::vs,i+1,m,nd,h1,h2,hk=>by
  show bindC kindOf ((p,w)::P.zip vs) m x=_
  unfold bindC
  exact kN (i:=i) (Bx.mp nd).2 (by simpa using h1) (by simpa using h2) hk
def start(N:List Str)(vs:List V):St:=vs.map some++Cc (N.length - vs.length) none
def Na(CX:vN)(P:Bn)(w:World)(K:PySem.W.Frag)(mg:Str->Option Value)(base:Heap)(N:List Str)(b:Str)(a:Scope)(f:Addr)(d:Value)(A:Ck)(outer:List Env)(s:Ah)(H:Hp)(E:XK):Cx where
 prog:=P
 w:=w
 K:=K
 mg:=mg
 base:=base
 A:=A.deeper (Ss b a s.heap.objs.size f d)
 N:=N
 s₀:=s
 H₀:=H
 env:=Ss b a s.heap.objs.size f d
 outer:=outer
 stack:=Ss b a s.heap.objs.size f d::outer
 ex:=[]
 calm:=true
 fn:=λ_=>true
 pn:=[]
 xe:=λe g=>wpAny (model P w) (A.deeper (Ss b a s.heap.objs.size f d)) (leaving (Ss b a s.heap.objs.size f d) e) (λ_ c=>CX outer H s E e c) (λh c=>CX outer H s E h c) g
theorem sM{a:Scope}(h:a.names.lookup x=some .cell):∃c,(Es n a.names []).lookup x=some c:=by
 have q:=PySem.W.cellsFrom_some a.names n [] (.inl h)
 exact Tq.mp q
theorem x9{CX:vN}{P:Bn}{w:World}{K:PySem.W.Frag}{mg:Str->Option Value}{base:Heap}{N ps:List Str}{g:Str}{d:Scope}{f:Addr}{D:Value}{A:Ck}(S:FnScope N ps d)(hd:A.handled=none)(l:Env0 P w K mg base A outer s H)(hl:vs.length=ps.length)(r:Gn vs us)(x:InCallC s s.heap.objs.size (bindL (Ss g d s.heap.objs.size f D).kindOf (ps.zip us) λ_=>none) (Es (s.heap.objs.size+1) d.names []) (bindC (Ss g d s.heap.objs.size f D).kindOf (ps.zip us) λ_=>none) F):Inv (Na CX P w K mg base N g d f D A outer s H E) [] (start N vs) H F:=by
 have M:ps.length<=N.length:=by have:=congrArg Fh S.pre; rw[Dw] at this; omega
 obtain ⟨B,Q,rfl,G⟩:=x.done
 have m:∀b:Addr,b∉(Na CX P w K mg base N g d f D A outer s H E).ex:=λb z=>absurd (show b∈([]:List Addr) from z) (by simp)
 refine ⟨⟨l.mod,S.kind,rfl,rfl,Ak _,λy z c B j=>?_,λy hy=>?_,λy c _ h=>?_,λ_=>hd,Around.frames_deeper l.frames,.inr ⟨rfl,rfl⟩,λb z=>absurd z (m b),l.bs,l.bsz,λb _ _=>m b,λb z=>absurd z (m b),l.funs,l.frf⟩,
  rfl,l.bare,Un.kept G,⟨_,x.toInCall.ns,λi y v B j O=>?_⟩,λy c h=>⟨_,x.cell y c h⟩,l.hok.fresh (Ak _),λy c h=>?_,λp t=>absurd (show p∈([]:List (Addr×Obj)) from t) (by simp),l.hok.kept G,?_⟩
 ·exact name_of_addr x.apart (PySem.mem_of_lookup B) (PySem.mem_of_lookup j)
 ·have hy:d.names.lookup y=some .cell\/d.names.lookup y=some .free:=hy
  rcases hy with hy | hy
  ·exact sM hy
  ·exact absurd rfl (S.nofree _ (PySem.mem_of_lookup hy))
 ·exact La (x.above y c (PySem.mem_of_lookup h))
 ·have C:i<vs.length:=by
   unfold start at j
   by_cases C:i<vs.length
   ·exact C
   ·rw[Jb (by simpa using C)] at j
    rw[List.getElem?_replicate] at j
    split at j <;> cases j
  have L:vs[i]? = some v:=by
   unfold start at j
   rw[Mk (by simpa using C),Bg] at j
   cases e:vs[i]? with
   | none=>rw[e] at j; cases j
   | some a=>rw[e] at j; cases j; rfl
  obtain ⟨u,I,J⟩:=r.get L
  have t:ps[i]? = some y:=by
   rw[<- S.pre,Jx (by omega)]; exact B
  have o:ps.Nodup:=by rw[<- S.pre]; exact S.nd.sublist (Jp _ _)
  refine ⟨u,J,?_⟩
  rcases S.par y (Bj t) with k | k
  ·exact .inl ⟨k,kC o t I k⟩
  ·obtain ⟨c,e⟩:=sM (n:=s.heap.objs.size+1) k
   refine .inr ⟨.inl k,c,e,?_⟩
   have q:=x.cell y c e
   rw[kN o t I (by show d.names.lookup y≠_; rw[k]; decide)] at q
   exact q
 ·exact l.hok.fresh (La (x.above y c (PySem.mem_of_lookup h)))
 ·unfold start
  show _=N.length
  rw[Bm,Ad,Pb]
  omega
theorem KS{CX:vN}{P:Bn}{w:World}{K:PySem.W.Frag}{mg:Str->Option Value}{base:Heap}{k:Nat}{f:Addr}{name c:Str}{g:Arguments}{h:List Stmt}{dV kV z Y d ct oc:Value}(lk:K.lookup f=some ⟨oc,od,.func (PySem.W.fnOf name c g h a dV kV z Y X d ct),F⟩)(R:PySem.W.codeIn K d c=true)(S:FnScope N ps a)(len:∀vs H Q E,sp vs H Q E->vs.length=ps.length)(l:∀(A:Ck) (outer:List Env) (s:Ah) (H:Hp) (vs:List V) (Q:VK) (E:XK),Room k (A.deeper (Ss c a s.heap.objs.size f d))->sp vs H Q E->∃t,wO (Na CX P w K mg base N c a f d A outer s H E) h t/\t { nx:=λ_ j=>Q .non j,rt:=Q } (start N vs) H):FnOk P w K mg base CX (k+1) f (PySem.W.fnOf name c g h a dV kV z Y X d ct) ps sp:=by
 refine ⟨len,λA outer s H U us vs Q E G B hb r C=>?_⟩
 have hl:=len _ _ _ _ C
 have Z:K.In s.heap:=B.mod.kin.keeps λb o e=>(B.bs b o e).1
 have O:s.heap.NoLimit:=B.mod.nolimit.keeps λb o e=>(B.bs b o e).1
 have m:∀y∈ps.zip us,a.names.lookup y.1=some .local\/(a.names.lookup y.1=some .cell/\((Es (s.heap.objs.size+1) a.names []).lookup y.1).isSome=true):=λ⟨n,v⟩ hy=>by
  rcases S.par n (List.of_mem_zip hy).1 with q | q
  ·exact .inl q
  ·exact .inr ⟨q,PySem.W.cellsFrom_some _ _ _ (.inl q)⟩
 refine codeAny_call_function G.depth (Z _ _ lk) rfl S.co S.gen rfl (PySem.W.codeRec_of Z R) (hb _ _ _ _ ?_)
 refine wpAny_newFunctionEnv_cells S.kind m λh0 he T x=>?_
 subst he
 refine ⟨O.keeps x.toInCall.keep,codeAny_func ?_⟩
 obtain ⟨t,ht,hq⟩:=l A outer s H vs Q E (G.deeper _) C
 have I:Inv (Na CX P w K mg base N c a f d A outer s H E) [] (start N vs) H T:=x9 S G.hd B hl r x
 refine Da (ht [] T (start N vs) H _ I hq) (λfl L p=>?_) λe L p=>p
 have D:∀{i:St} {j:Hp} {v:V} {u:Value},Inv (Na CX P w K mg base N c a f d A outer s H E) [] i j L->RelV v u->Q v j->CE outer P w H s Q u L :=
  λ{i j v u} J M q=>⟨v,j,J.os,J.bare,J.base,J.hok,M,q⟩
 cases fl with
 | ret u =>
  obtain ⟨v,i,j,J,M,q⟩:=p
  exact D J M q
 | next =>
  obtain ⟨i,j,J,q⟩:=p
  exact D (v:=V.non) (u:=Gu) J rfl q
 | brk =>
  obtain ⟨_,_,_,q⟩:=p
  exact Lw q
 | cont =>
  obtain ⟨_,_,_,q⟩:=p
  exact Lw q
section
variable{X:Cx}{x:Str}{p pos:Pos}{e:Expr}{es:List Expr}{t:TA}{id T:String}{r:List V->Hp->VK->Prop}
def PL(r:List V->Hp->VK->Prop)(t:TA):TE:=λa H Q=>t a H λvs b=>r vs b Q
theorem fV(f:Nt X (.builtin id) r)(w:Gl X x)(g:X.mg x=none)(o:Pl x=some (.builtin id))(l:PA X (e::es) t)(n:x ≠ "__name__" := by decide)(b:(x == ("__debug__" : Str))=false:=by decide)(j:Bo (e::es) X.env=(false,eval e X.env)::Bo es X.env:=by rfl)(c:(Hm pos (Bo es X.env)).any (·.1)=false:=by rfl):PE X (.Call (.Name x p) (e::es) [] pos) (PL r t):=by
 intro a s d H Q I h
 refine Uz (Tw I w g o ?_ n b)
 exact PyProof.Rows.callWith_builtin1 (Gj (l pos a s d H _ I h) λv k ⟨vs,m,u,i,q⟩=>f a k d m vs v Q u i q) j c
theorem Oa(f:Nt X (.type T) r)(w:Gl X x)(g:X.mg x=none)(o:Pl x=some (.type T))(l:PA X (e::es) t)(n:x ≠ "__name__" := by decide)(b:(x == ("__debug__" : Str))=false:=by decide)(j:Bo (e::es) X.env=(false,eval e X.env)::Bo es X.env:=by rfl)(c:(Hm pos (Bo es X.env)).any (·.1)=false:=by rfl):PE X (.Call (.Name x p) (e::es) [] pos) (PL r t):=by
 intro a s d H Q I h
 refine Uz (Tw I w g o ?_ n b)
 exact Fc (Gj (l pos a s d H _ I h) λv k ⟨vs,m,u,i,q⟩=>f a k d m vs v Q u i q) j c
end
end L2
namespace HT
open PySem PyProof.Rows
def lexLt:List Int->List Int->Bool
 | [],[]=>false
 | [],_::_=>true
 | _::_,[]=>false
 | x::xs,y::ys=>if x=y then lexLt xs ys else decide (x<y)
theorem lexLt_cons(x y:Int)(xs ys:List Int):lexLt (x::xs) (y::ys)=if x=y then lexLt xs ys else decide (x<y):=rfl
theorem lexLt_nil_nil:lexLt [] []=false:=rfl
theorem lexLt_nil_cons(y:Int)(ys:List Int):lexLt [] (y::ys)=true:=rfl
theorem lexLt_cons_nil(x:Int)(xs:List Int):lexLt (x::xs) []=false:=rfl
theorem O5(A:Ck)(s:Ah)(a:Int)(t:Tok)(c:Int)(u:Tok):∃e,Pa A s (.int a t) (.int c u) e/\(e=true↔a=c) :=
 ⟨(a == c),SeqAt.EqAt.int_int a t c u,by simp⟩
theorem Q6(A:Ck)(s:Ah)(a:Int)(t:Tok)(c:Int)(u:Tok)(prog:Bn)(w:World)(E:Value->Ah->Prop)(Q:Value->Ah->Prop)(h:Q (.bool (decide (a<c))) s):wpAny (model prog w) A (richCompare .Lt (.int a t) (.int c u)) Q E s :=
 (PyProof.Rows.lt_int h:wpAny (model prog w) A (Jy .Lt (.int a t) (.int c u)) Q E s)
section
open PySem.SeqAt
open PySem.AutoSeq1 (wpAny_loadPart')
open PySem.MeetsSeq PySem.MeetsSeq2 PySem.MeetsSeq3
theorem tuple_lt_ints(l b:Addr)(i f:Array Value)(n W:Nat)(Y L:Option Addr)(T N:Array (Option Value))(ns F:List Int)(P:Fm i.toList ns)(O:Fm f.toList F):Meets (Builtin.«tuple.__lt__» ⟨[.ref l,.ref b],[]⟩) (λ_ R s=>s.heap.get? l=some { cls:=.type "tuple",dict:=Y,data:=.seq i n,slots:=T }/\s.heap.get? b=some { cls:=.type "tuple",dict:=L,data:=.seq f W,slots:=N }/\R (.ok (.ret (.bool (lexLt ns F)))) s) :=
 .of_wp λv w A R s h=>by
  obtain ⟨G,g,d,H,os⟩:=s; obtain ⟨V,U,h⟩:=h
  have Z:=AutoSeq1.sub_tuple_tuple
  have z1:i.size=ns.length:=by rw[<- P.length]; simp
  have z2:f.size=F.length:=by rw[<- O.length]; simp
  wp_walk using aH V,aH U,wpAny_forIn_list _ (λIy b J=>b.1=none/\J=⟨G,g,d,H,os⟩/\∃(vs I:List Value) (k m:List Int),Iy=vs.zip I /\
   Fm vs k/\Fm I m/\k.length+f.size=m.length+i.size/\R (.ok (.ret (.bool (lexLt k m)))) ⟨G,g,d,H,os⟩) _
  case turn =>
   (rintro ⟨y,x⟩ Iy b J K; obtain ⟨B,rfl,vs,I,k,m,o,C,p,j,z⟩ := K)
   cases C with
   | nil=>rw[List.zip_nil_left] at o; cases o
   | cons a t D =>
    cases p with
    | nil=>rw[List.zip_nil_right] at o; cases o
    | cons c u E =>
     rw[Nj] at o
     injection o with hyx hrest
     injection hyx with hy hx
     subst hy hx
     rw[lexLt_cons] at z
     simp only[Bh] at j
     obtain ⟨e,S,r⟩:=O5 A.in1 ⟨G,g,d,H,os⟩ a t c u
     refine Aa (S v w _ _ ?_)
     cases e with
     | true =>
      rw[if_pos (r.mp rfl)] at z
      wp_walk
      exact ⟨rfl,rfl,_,_,_,_,hrest,D,E,by omega,z⟩
     | false =>
      rw[if_neg (λq=>absurd (r.mpr q) Bk)] at z
      have M:=Q6 A.in1 ⟨G,g,d,H,os⟩ a t c u v w
      wp_walk using M
      exact ⟨_,rfl,by simpa using z⟩
  case fin =>
   (rintro ⟨b1,b2⟩ J K; obtain ⟨B,rfl,vs,I,k,m,o,C,p,j,z⟩ := K)
   simp only at B
   subst B
   have Q:lexLt k m=decide (i.size<f.size):=by
    cases C with
    | nil =>
     cases p with
     | nil =>
      simp only[Jl] at j
      rw[lexLt_nil_nil]
      exact (decide_eq_false (by omega)).symm
     | cons c u X =>
      simp only[Jl,Bh] at j
      rw[lexLt_nil_cons]
      exact (decide_eq_true (by omega)).symm
    | cons a t Q =>
     cases p with
     | nil =>
      simp only[Jl,Bh] at j
      rw[lexLt_cons_nil]
      exact (decide_eq_false (by omega)).symm
     | cons c u X =>
      rw[Nj] at o
      cases o
   rw[Q] at z
   wp_walk
   exact ⟨_,rfl,by simpa [Builtin.Tuple.tupleCompareSizes] using z⟩
  case h =>
   exact ⟨rfl,rfl,i.toList,f.toList,ns,F,rfl,P,O,by omega,h⟩
end
section
variable{prog:Bn}{w:World}{A:Ck}{E:Value->Ah->Prop}{s:Ah}
theorem lt_tupInts(hl:IsTup s.heap l c)(hb:IsTup s.heap b a)(z:Fm c.toList ns)(u:Fm a.toList e)(y:A.units<cLine)(h:Q (.bool (lexLt ns e)) s):wpAny (model prog w) A (Jy .Lt (.ref l) (.ref b)) Q E s:=by
 obtain ⟨⟨t,B,q,r⟩,m,k,n,o⟩:=id hl
 obtain ⟨⟨p,i,data2,j⟩,d,f,v,g⟩:=id hb
 simp only at k o f g
 subst k o f g
 exact richCompare_meets_room (op:=.Lt) ⟨_,m,rfl⟩ ⟨_,d,rfl⟩ PySem.F.slot_tuple_lt PySem.F.entry_tuple_lt (PySem.F.args_tuple_lt_2 _ _) (tuple_lt_ints l b c a n v B i r j ns e z u)
  ⟨m,d,show Value.bool (lexLt ns e)≠Value.notImplemented/\Q (.bool (lexLt ns e)) s from ⟨(λx=>nomatch x),h⟩⟩ y
theorem cat_tup(u:IsTup s.heap t vs.toArray)(hb:IsTup s.heap b a.toArray)(o:vs≠[])(h1:a=[]->Q (.ref t) s)(v:a≠[]->Q (.ref s.heap.objs.size) { s with heap:=s.heap.push { cls:=.type "tuple",data:=.seq (vs++a).toArray } })(hsz:vs.length+a.length<=Au):wpAny (model prog w) A (Kb .Add (.ref t) (.ref b)) Q E s:=by
 obtain ⟨⟨cls,q,data,m⟩,j,k,n,r⟩:=id u
 obtain ⟨⟨p,g,data2,h⟩,c,f,l,d⟩:=id hb
 simp only at k r f d
 subst k r f d
 have e:vs.toArray++a.toArray=(vs++a).toArray:=by simp
 by_cases i:a=[]
 ·exact concat_meets ⟨_,j,rfl⟩ ⟨_,c,rfl⟩ oY seq_tuple_add PySem.F.slot_tuple_add PySem.F.entry_tuple_add (PySem.F.args_tuple_add_2 _ _)
   (tuple_addW1 t b vs.toArray a.toArray n l q g m h (by simpa using o) (by simp [i])) ⟨j,c,h1 i⟩
 ·refine concat_meets ⟨_,j,rfl⟩ ⟨_,c,rfl⟩ oY seq_tuple_add PySem.F.slot_tuple_add PySem.F.entry_tuple_add (PySem.F.args_tuple_add_2 _ _)
   (tuple_addW2 t b vs.toArray a.toArray n l q g m h (by simpa using o) (by simpa using i) (by rw[Av,Av]; exact hsz)) ⟨j,c,?_⟩
  rw[e]
  exact v i
def sIx(n d:Nat):Option Int->Nat
 | none=>d
 | some v=>if v<0 then (v+(n:Int)).toNat else min v.toNat n
theorem sIx_none(n d:Nat):sIx n d none=d:=rfl
theorem sIx_nat(n d k:Nat):sIx n d (some (k:Int))=min k n:=by
 show (if (k:Int)<0 then ((k:Int)+(n:Int)).toNat else min (k:Int).toNat n)=min k n
 rw[if_neg (by omega),Ed]
theorem EU(n d:Nat)(hd:d<=n)(o:Option Int):sIx n d o<=n:=by
 cases o with
 | none=>exact hd
 | some v =>
  show (if v<0 then (v+(n:Int)).toNat else min v.toNat n)<=n
  by_cases a:v<0
  ·rw[if_pos a]; omega
  ·rw[if_neg a]; exact Nat.min_le_right _ _
theorem yE(v:Int)(n d:Nat):(if v<0 then max (v+(n:Int)) 0 else min v (n:Int))=((sIx n d (some v):Nat):Int):=by
 show (if v<0 then max (v+(n:Int)) 0 else min v (n:Int))=(((if v<0 then (v+(n:Int)).toNat else min v.toNat n):Nat):Int)
 by_cases a:v<0
 ·simp only[if_pos a]; omega
 ·simp only[if_neg a]; omega
theorem uK(lo a:Option Int)(n:Nat):Pp lo a 1 (n:Int)=(((sIx n 0 lo:Nat):Int),((sIx n n a:Nat):Int)):=by
 have b:¬ ((1:Int)<0):=by omega
 unfold Pp
 simp only[b,if_false]
 refine Prod.ext ?_ ?_
 ·cases lo with
  | none=>rfl
  | some v=>exact yE v n 0
 ·cases a with
  | none=>rfl
  | some v=>exact yE v n n
theorem tK(i j:Nat):Lc (i:Int) (j:Int) 1=j - i:=by
 unfold Lc
 have a:(1:Int) > 0:=by omega
 simp only[a,if_true,Int.ediv_one]
 split <;> omega
theorem gR(p:cV v o)(h:Q o s):wpAny (model prog w) A (Builtin.Slice.slicePartIndex v) Q E s:=by
 cases p with
 | none=>exact slicePart_none h
 | int i t=>exact slicePart_int h
theorem sliceApplied_gen{lo b:Option Int}{n:Nat}(g:s.heap.IsSliceOf f e d .none)(k:cV e lo)(i:cV d b)(h:Q (((sIx n 0 lo:Nat):Int),1,sIx n n b - sIx n 0 lo) s):wpAny (model prog w) A (aY (.ref f) (pure (n:Int))) Q E s:=by
 obtain ⟨os,c,j,a⟩:=id g
 unfold aY Builtin.Slice.sliceFields
 refine Aa (Aa (Fl c a (x:=e) rfl (Aa (Fl c a (x:=d) rfl (Aa (Fl c a (x:=.none) rfl (Ae ?_)))))))
 refine Aa (slicePart_none ?_)
 show wpAny _ _ (if ((1:Int) == 0)=true then _ else _) _ _ s
 rw[if_neg (by decide)]
 refine Aa (gR k (Aa (gR i (Aa (Ae ?_)))))
 show wpAny _ _ (match Pp lo b 1 (n:Int) with | (lo,b)=>pure (lo,(1:Int),Lc lo b 1)) _ _ s
 rw[uK lo b n]
 show wpAny _ _ (pure (((sIx n 0 lo:Nat):Int),(1:Int),Lc ((sIx n 0 lo:Nat):Int) ((sIx n n b:Nat):Int) 1)) _ _ s
 rw[tK]
 exact Ae h
theorem J4(xs:Array Value)(i k:Nat):((Bw k).filterMap λ(m:Nat)=>xs[((i:Int)+(m:Int) * 1).toNat]?).toArray=((xs.toList.drop i).take k).toArray:=by
 have e:(λ(m:Nat)=>xs[((i:Int)+(m:Int) * 1).toNat]?)=λm=>xs[i+m]?:=by
  funext m
  have : ((i:Int)+(m:Int) * 1).toNat=i+m:=by omega
  rw[this]
 rw[e]
 have:=pick_run xs i k
 rw[List.filterMap_map] at this
 have a:((λx=>xs[x]?) ∘ λx=>i+x)=λm=>xs[i+m]?:=rfl
 rw[a] at this
 rw[this]
theorem getItem_tuple_cut{lo c:Option Int}(d:IsTup s.heap t a)(k:s.heap.IsSliceOf e n l .none)(r:cV n lo)(p:cV l c)(hw:¬ (sIx a.size 0 lo=0/\sIx a.size a.size c=a.size))(h:Q (.ref s.heap.objs.size) { s with heap:=s.heap.push { cls:=.type "tuple",data:=.seq ((a.toList.drop (sIx a.size 0 lo)).take (sIx a.size a.size c - sIx a.size 0 lo)).toArray } })(hsz:a.size<=Au):wpAny (model prog w) A (Tt (.ref t) (.ref e)) Q E s:=by
 have b:sizeOk (.seq ((a.toList.drop (sIx a.size 0 lo)).take (sIx a.size a.size c - sIx a.size 0 lo)).toArray):=by
  show ((a.toList.drop (sIx a.size 0 lo)).take (sIx a.size a.size c - sIx a.size 0 lo)).toArray.size<=Au
  rw[Av,Dw,Vd,An]
  omega
 have v:sIx a.size a.size c<=a.size:=EU _ _ (Ak _) c
 obtain ⟨os,i,f,o⟩:=id k
 have g:s.TypeIs (.ref e) "slice" := ⟨os,i,f⟩
 unfold Tt
 try with_reducible refine Ce ?_
 first | refine Aa (Ae ?_) | skip
 refine Aa (lA d.typeIs (by decide) ?_)
 refine Aa (Cy (name:=Cq "__getitem__") d.typeIs Fg
  (Ct Fg d.typeIs entry_tuple_getitem ?_ (args_tuple_getitem _ _)))
 show wpAny _ _ (aW (.ref t) >>= _) _ _ s
 refine Aa (tupleItemsOf_ d ?_)
 refine Aa (Jc g ?_)
 rw[if_pos (by decide)]
 refine Aa (sliceApplied_gen k r p ?_)
 have j:¬ ((((sIx a.size 0 lo:Nat):Int) == 0 && (1:Int) == 1 && (sIx a.size a.size c - sIx a.size 0 lo) == a.size)=true):=by
  intro q
  rw[En,En] at q
  have x:((sIx a.size 0 lo:Nat):Int)=0:=Ee q.1.1
  have u:sIx a.size a.size c - sIx a.size 0 lo=a.size:=Ee q.2
  exact hw ⟨by omega,by omega⟩
 show wpAny _ _ (if (((sIx a.size 0 lo:Nat):Int) == 0 && (1:Int) == 1 && (sIx a.size a.size c - sIx a.size 0 lo) == a.size)=true then _ else _) _ _ s
 rw[if_neg j,J4]
 first
  | exact Aa (m:=Gz _) (Cf (Ae ⟨_,rfl,Ae h⟩) b)
  | exact Aa (m:=Gz _) (Cf (Aa (Ae (Ae ⟨_,rfl,Ae h⟩))) b)
  | exact Aa (Aa (m:=Gz _) (Cf (Ae (Ae ⟨_,rfl,Ae h⟩)) b))
  | exact Aa (Aa (m:=Gz _) (Cf (Ae ⟨_,rfl,Ae h⟩) b))
end
end HT
namespace L2
open PySem PySem.Spec PyProof.Rows
abbrev TO:=St->Hp->(Option Int->Hp->Prop)->Prop
def PO(X:Cx)(e:Option Expr)(t:TO):Prop :=
 ∀(a:List (Addr×Obj)) (s:Ah) (b:St) (H:Hp) (Q:Option Int->Hp->Prop),Inv X a b H s->t b H Q ->
  wpAny (model X.prog X.w) X.A (evalPart e X.env) (λu d=>∃o c,Inv X a b c d/\cV u o/\Q o c) X.xe s
def V6:TO:=λ_ H Q=>Q none H
def JC(t:TE):TO:=λa H Q=>t a H λx b=>∃i,x=.int i/\Q (some i) b
theorem intsAre_of:∀{us:List Value},Gn (ns.map V.int) us->Fm us ns:=by
 induction ns with
 | nil=>intro us r; rw[Oi] at r; cases r; exact .nil
 | cons n ns b =>
  intro us r
  rw[Aq] at r
  cases r with
  | cons c a =>
   obtain ⟨t,e⟩:=c
   subst e
   exact .cons n t (b a)
section
variable{X:Cx}{e:Expr}{d:TE}{lo c:Option Expr}{g j:TO}{pos f:Pos}
theorem AM:PO X none V6:=by
 intro a s b H Q I h
 rw[evalPart_none]
 exact Ae ⟨none,H,I,.none,h⟩
theorem BX(h:PE X e d):PO X (some e) (JC d):=by
 intro a s f H Q I g
 rw[evalPart_some]
 refine Gj (h a s f H _ I g) λu m b => ?_
 obtain ⟨x,l,k,c,j⟩ := b
 obtain ⟨i,rfl,q⟩:=j
 obtain ⟨t,rfl⟩:=c
 exact ⟨some i,l,k,.int i t,q⟩
def FX(X:Cx)(r:V->Option Int->Option Int->Hp->VK->Prop):Prop :=
 ∀(a:List (Addr×Obj)) (s:Ah) (d:St) (H:Hp) (x:V) (v f e:Value) (lo c:Option Int) (b:Addr) (Q:VK),Inv X a d H s->RelV x v->s.heap.IsSliceOf b f e .none->cV f lo->cV e c->r x lo c H Q ->
  ∃T id,iR (.type T) "__getitem__" = pure (some (.builtin id))/\s.TypeIs v T/\wpAny (model X.prog X.w) X.A (Tt v (.ref b)) (EP X a d Q) X.xe s
theorem FX.or(h:FX X r)(h':FX X i):FX X (λx lo c H Q=>r x lo c H Q\/i x lo c H Q):=by
 intro a s f H x v j g lo c d Q I l b k e q
 rcases q with q | q
 ·exact h a s f H x v j g lo c d Q I l b k e q
 ·exact h' a s f H x v j g lo c d Q I l b k e q
def QS(r:V->Option Int->Option Int->Hp->VK->Prop)(d:TE)(g j:TO):TE:=λa H Q=>d a H λx e=>g a e λl b=>j a b λu c=>r x l u c Q
theorem rW(E:FX X r)(z:PE X e d)(hl:PO X lo g)(N:PO X c j):PE X (.Subscript e (.Slice lo c none f) pos) (QS r d g j):=by
 intro a s m H Q I h
 refine Subscript_ (Gj (z a s m H _ I h) λv F k => ?_)
 obtain ⟨x,L,P,y,B⟩ := k
 refine wpAny_Slice (Gj (hl a F m L _ P B) λo O ⟨l,K,W,C,J⟩=>Gj (N a O m K _ W J) λn i k => ?_)
 obtain ⟨u,p,R,S,M⟩ := k
 rw[evalPart_none]
 refine Ae ?_
 have D:Inv X a m p { i with heap:=i.heap.push { cls:=.type "slice",data:=.fields #[o,n,.none] } }:=R.kept (t':=i.toks) λb Y q=>Ai _ q
 obtain ⟨T,id,t,G,U⟩:=E a { i with heap:=i.heap.push { cls:=.type "slice",data:=.fields #[o,n,.none] } } m p x v o n l u i.heap.objs.size Q D y (Heap.IsSliceOf.new ..) C S M
 show wpAny (model X.prog X.w) X.A (iJ e (.Slice lo c none f) v (.ref i.heap.objs.size)) (EP X a m Q) X.xe { i with heap:=i.heap.push { cls:=.type "slice",data:=.fields #[o,n,.none] } }
 exact tail_any (ops:=[.ref i.heap.objs.size,v]) G t U (by with_unfolding_all rfl)
def gH(xs:List V)(lo c:Option Int):List V:=(xs.drop (HT.sIx xs.length 0 lo)).take (HT.sIx xs.length xs.length c - HT.sIx xs.length 0 lo)
theorem cM(xs:List V)(lo c:Option Int):(gH xs lo c).length<=xs.length:=by
 unfold gH
 rw[Dw,Vd]
 omega
def OG(K:PySem.W.Frag):V->Option Int->Option Int->Hp->VK->Prop:=λx lo c H Q=>∃a b,x=.ref a/\Wt K H a b /\
 ¬ (HT.sIx b.length 0 lo=0/\HT.sIx b.length b.length c=b.length)/\∀p,H p=none->Q (.ref p) (upd H p (.tup (gH b lo c)))
theorem GO:FX X (OG X.K):=by
 intro j s y H x v A z lo c w Q I p k n m h
 obtain ⟨a,e,rfl,t,l,q⟩:=h
 cases p
 obtain ⟨f,r,g,i⟩:=I.tuple t
 have d:f.toArray.size=e.length:=by rw[Av]; exact r.length.symm
 refine ⟨"tuple",_,Fg.lookup,g.typeIs,?_⟩
 refine HT.getItem_tuple_cut g k n m (by rw[d]; exact l) ?_ (by rw[d]; exact i)
 rw[d]
 refine ⟨.ref s.heap.objs.size,_,I.laid (t':=s.toks) (o:=.tup (gH e lo c)) (λb u q=>Ai _ q) (Ak _) ?_,rfl,q _ (I.hok.fresh (Ak _))⟩
 exact ⟨Ca (cM e lo c) i,_,(r.drop (HT.sIx e.length 0 lo)).take (HT.sIx e.length e.length c - HT.sIx e.length 0 lo),IsTup.new _ _⟩
def MB(K:PySem.W.Frag):R2:=λx y H Q=>∃a b d c,x=.ref a/\y=.ref b/\Wt K H a d/\Wt K H b c/\d≠[]/\d.length+c.length<=Au /\
 (c=[]->Q (.ref a) H)/\(c≠[]->∀p,H p=none->Q (.ref p) (upd H p (.tup (d++c))))
theorem Gn.nil_iff(r:Gn xs us):us=[]↔xs=[]:=by
 cases r with
 | nil=>simp
 | cons _ _=>simp
theorem Z0:aQ X (Kb .Add) (MB X.K):=by
 intro i s E H x y v u Q I A j h
 obtain ⟨a,b,p,k,rfl,rfl,l,t,C,e,m,n⟩:=h
 cases A
 cases j
 obtain ⟨r,d,B,_⟩:=I.tuple l
 obtain ⟨g,c,f,_⟩:=I.tuple t
 refine HT.cat_tup B f (λz=>C (d.nil_iff.mp z)) (λz=>⟨.ref a,H,I,rfl,m (c.nil_iff.mp z)⟩) (λz=>?_) (by rw[<- d.length,<- c.length]; exact e)
 refine ⟨.ref s.heap.objs.size,_,I.laid (t':=s.toks) (o:=.tup (p++k)) (λb D q=>Ai _ q) (Ak _) ?_,rfl,n (λw=>z (c.nil_iff.mpr w)) _ (I.hok.fresh (Ak _))⟩
 exact ⟨by rw[Bm]; exact e,_,d.append c,IsTup.new _ _⟩
end
def V0(n:Nat)(i:Int):Option Nat:=if 0<=i then (if i<n then some i.toNat else none) else if -(n:Int)<=i then some (i+n).toNat else none
def aR{a:Type}(xs:List a)(i:Int):Option a:=(V0 xs.length i).bind λj=>xs[j]?
theorem xY(h:V0 n i=some j):seqIndex? i n=some j/\j<n /\ -(n:Int)<=i/\i<n:=by
 unfold V0 at h
 by_cases b:0<=i
 ·rw[if_pos b] at h
  by_cases a:i<n
  ·rw[if_pos a] at h
   have e:i.toNat=j:=Cj h
   exact ⟨by rw[seqIndex_of b a,e],by omega,by omega,a⟩
  ·rw[if_neg a] at h; cases h
 ·rw[if_neg b] at h
  by_cases a:-(n:Int)<=i
  ·rw[if_pos a] at h
   have e:(i+n).toNat=j:=Cj h
   exact ⟨by rw[seqIndex_neg (by omega) a,e],by omega,a,by omega⟩
  ·rw[if_neg a] at h; cases h
theorem oB{xs:List a}{v:a}(h:aR xs i=some v):∃j,seqIndex? i xs.length=some j/\xs[j]? = some v/\j<xs.length /\ -(xs.length:Int)<=i/\i<xs.length:=by
 unfold aR at h
 cases e:V0 xs.length i with
 | none=>rw[e] at h; cases h
 | some j =>
  rw[e] at h
  obtain ⟨c,f,d,b⟩:=xY e
  exact ⟨j,c,h,f,d,b⟩
theorem xG{xs:List a}{j:Nat}{v:a}(h:xs[j]? = some v):aR xs (j:Int)=some v:=by
 have b:j<xs.length:=(Bb.mp h).1
 have e:V0 xs.length (j:Int)=some j:=by
  unfold V0
  rw[if_pos (by omega),if_pos (by omega)]; simp
 unfold aR; rw[e]; exact h
def lV(b:Expr):Prop:=∀o i,subscripted b false o i=operate [o,i] (Tt o i)
def AA(X:Cx)(r:R2):Prop :=
 ∀(c a:Expr) (b:List (Addr×Obj)) (s:Ah) (d:St) (H:Hp) (x y:V) (v u:Value) (Q:VK),Inv X b d H s->RelV x v->RelV y u->r x y H Q ->
  subscripted a false v u=operate [v,u] (Tt v u)->wpAny (model X.prog X.w) X.A (iJ c a v u) (EP X b d Q) X.xe s
def QV(X:Cx)(id:String)(r:V->List V->Hp->VK->Prop):Prop :=
 ∀(a:List (Addr×Obj)) (s:Ah) (b:St) (H:Hp) (x:V) (d:List V) (v:Value) (c:List Value) (Q:VK),Inv X a b H s->RelV x v->Gn d c->r x d H Q ->
  wpAny (model X.prog X.w) X.A (call (.builtin id) (v::c)) (EP X a b Q) X.xe s
section
variable{X:Cx}{a b:Expr}{A B:TE}{pos:Pos}
theorem AA.or(h:AA X r)(h':AA X g):AA X (λx y H Q=>r x y H Q\/g x y H Q):=by
 intro a b c s f H x y v u Q I i e q d
 rcases q with q | q
 ·exact h a b c s f H x y v u Q I i e q d
 ·exact h' a b c s f H x y v u Q I i e q d
theorem Uy(e:AA X r)(g:PE X a A)(hb:PE X b B)(d:lV b):PE X (.Subscript a b pos) (MT r A B):=by
 intro c s i H Q I h
 exact Subscript_ (IK g hb I h λv u j x y m l k f q=>e a b c j i m x y v u Q l k f q (d _ _))
def T8(K:PySem.W.Frag):R2:=λx y H Q=>∃p a i v,x=.ref p/\y=.int i/\Nm K H p a/\aR a i=some v/\Q v H
def BB(K:PySem.W.Frag):R2:=λx y H Q=>∃p a i v,x=.ref p/\y=.int i/\Wt K H p a/\aR a i=some v/\Q v H
def JE:R2:=λx y H Q=>∃z i c,x=.str z/\y=.int i/\z.length<=Au/\aR z.cps.toList i=some c/\Q (.str ⟨#[c]⟩) H
theorem Pt:AA X (T8 X.K):=by
 intro d g a s o H x y v u Q I M E h n
 obtain ⟨p,P,i,z,rfl,rfl,L,C,q⟩:=h
 cases M
 obtain ⟨t,rfl⟩:=E
 obtain ⟨k,r,e,O⟩:=I.list L
 obtain ⟨j,c,J,N,F,B⟩:=oB C
 obtain ⟨w,m,f⟩:=r.get J
 have G:=r.length
 have R:=Yj
 have b:EP X a o Q w s:=⟨z,H,I,f,q⟩
 by_cases A:0<=i
 ·have l:i.toNat=j:=by
   rw[seqIndex_of A B] at c
   exact Cj c
  exact item_listR e.isList A (by omega) (by rw[l]; simpa using m) b n
 ·have l:(i+(k.toArray.size:Int)).toNat=j:=by
   rw[seqIndex_neg (by omega) F] at c
   rw[Av,<- G]
   exact Cj c
  exact V2 (x:=w) e.isList.typeIs lD.lookup
   (wpAny_getItem_list_neg (Q:=λr D=>r=w/\EP X a o Q r D) e.isList (by omega) (by rw[Av] <;> omega) (by omega) (by rw[l]; simpa using m) ⟨rfl,b⟩) n
theorem L5:AA X (BB X.K):=by
 intro b d a s g H x y v u Q I F o h D
 obtain ⟨p,N,i,z,rfl,rfl,E,k,q⟩:=h
 cases F
 obtain ⟨t,rfl⟩:=o
 obtain ⟨A,r,f,M⟩:=I.tuple E
 obtain ⟨j,l,C,J,L,G⟩:=oB k
 obtain ⟨w,m,c⟩:=r.get C
 have B:=r.length
 have O:=Yj
 have e:EP X a g Q w s:=⟨z,H,I,c,q⟩
 exact V2 (x:=w) f.typeIs slot_tuple_getitem.lookup
  (getItem_tuple (j:=j) (Q:=λr n=>r=w/\EP X a g Q r n) f (by omega) (by omega) (by rw[Av,<- B]; exact l) (by simpa using m) ⟨rfl,e⟩) D
theorem HV:AA X JE:=by
 intro a b e s D H x y v u Q I w l h p
 obtain ⟨z,i,c,rfl,rfl,C,g,q⟩:=h
 obtain ⟨t,rfl⟩:=w
 obtain ⟨A,rfl⟩:=l
 obtain ⟨j,d,o,B,m,f⟩:=oB g
 have n:z.cps.toList.length=z.length:=by simp [Str.length]
 rw[n] at d m f
 have E:=Yj
 exact tail_any (typeIs_str s z t) slot_str_getitem.lookup (getItem_str (c:=c) (by
  have r:decide (i < -(2 ^ 63:Int))=false:=decide_eq_false (by omega)
  have k:decide (i ≥ 2 ^ 63)=false:=decide_eq_false (by omega)
  rw[r,k,Bool.or_false]) (by rw[d]; simpa using o) ⟨.str ⟨#[c]⟩,H,I.tok _,⟨_,rfl⟩,q⟩) p
def QI(K:PySem.W.Frag):R2:=λx y H Q=>T8 K x y H Q\/BB K x y H Q\/JE x y H Q
theorem FQ:AA X (QI X.K):=Pt.or (L5.or HV)
theorem tJ(a:List Value)(n j:Nat)(u:Value):Eo (·.setIfInBounds j u) { cls:=.type "list",data:=.seq a.toArray n }={ cls:=.type "list",data:=.seq (a.set j u).toArray n }:=by
 simp [Eo]
theorem Inv.lst{b:List (Addr×Obj)}{c:St}{H:Hp}{s:Ah}{p:Addr}{xs:List V}(I:Inv X b c H s)(h:H p=some (.lst xs)):∃(a:List Value) (n:Nat),Gn xs a/\s.heap.get? p=some { cls:=.type "list",data:=.seq a.toArray n }/\xs.length<=Au:=by
 obtain ⟨z,a,n,r,e⟩:=I.hok p _ h
 exact ⟨a,n,r,e,z⟩
theorem Inv.lstUpd{a:List (Addr×Obj)}{d:St}{H:Hp}{c its':List Value}(I:Inv X a d H s)(h:H p=some (.lst xs))(i:s.heap.get? p=some { cls:=.type "list",data:=.seq c.toArray n })(g:f { cls:=.type "list",data:=.seq c.toArray n }={ cls:=.type "list",data:=.seq its'.toArray n' })(r:Gn ys its')(hz:ys.length<=Au)(t:Nat):Inv X a d (upd H p (.lst ys)) { s with heap:=s.heap.update p f,toks:=t }:=by
 have e:(s.heap.update p f).get? p=some { cls:=.type "list",data:=.seq its'.toArray n' }:=by
  rw[Fj f i (by rw[g] <;> rfl),g]
 refine I.write (x:=p) (e:=p) (by rw[h]; trivial) (.inl rfl) (λb u j q=>(wB _ _ (Nk j)).trans q) ⟨_,e⟩ ?_
 exact ⟨hz,its',n',r,e⟩
def LL:V->V->V->Hp->(Hp->Prop)->Prop:=λo i v H Q=>∃p a k j,o=.ref p/\i=.int k/\H p=some (.lst a)/\V0 a.length k=some j/\Q (upd H p (.lst (a.set j v)))
theorem fR:FM X LL:=by
 intro a s E H o i v J F u Q I D A y h
 obtain ⟨p,C,k,j,rfl,rfl,l,z,q⟩:=h
 cases D
 obtain ⟨t,rfl⟩:=A
 obtain ⟨b,n,r,e,B⟩:=I.lst l
 obtain ⟨c,G,g,w⟩:=xY z
 have f:=r.length
 have K:=Yj
 have m:Inv X a E (upd H p (.lst (C.set j v))) { s with heap:=s.heap.update p (Eo (·.setIfInBounds j u)) } :=
  I.lstUpd l e (tJ b n j u) (r.set y j) (by rw[Xm]; exact B) s.toks
 by_cases x:0<=k
 ·have d:k.toNat=j:=by
   rw[seqIndex_of x w] at c
   exact Cj c
  exact PySem.W.ki_setAt e x (by omega) (by rw[Av,<- f]; exact w) (by rw[d]; exact ⟨_,m,q⟩)
 ·have d:(k+(b.toArray.size:Int)).toNat=j:=by
   rw[seqIndex_neg (by omega) g] at c
   rw[Av,<- f]
   exact Cj c
  exact PySem.W.ki_setBack e (by omega) (by rw[Av,<- f]; exact g) (by omega) (by rw[d]; exact ⟨_,m,q⟩)
theorem lQ(lo a:Option Int)(n:Nat):(Ll lo a none n).1=((HT.sIx n 0 lo:Nat):Int)/\(Ll lo a none n).2.1=((HT.sIx n n a:Nat):Int)/\(Ll lo a none n).2.2=1:=by
 refine ⟨?_,?_,rfl⟩
 ·cases lo with
  | none=>simp [Ll,HT.sIx]
  | some i =>
   simp only[Ll,HT.sIx,Option.getD_none,show (1:Int) > 0 by decide,if_true]
   by_cases h:i<0
   ·simp only[h,if_true] <;> omega
   ·simp only[h,if_false] <;> omega
 ·cases a with
  | none=>simp [Ll,HT.sIx]
  | some i =>
   simp only[Ll,HT.sIx,Option.getD_none,show (1:Int) > 0 by decide,if_true]
   by_cases h:i<0
   ·simp only[h,if_true] <;> omega
   ·simp only[h,if_false] <;> omega
theorem jM(a:List Value)(lo b:Option Int):slicePick a.toArray lo b none=((a.drop (HT.sIx a.length 0 lo)).take (HT.sIx a.length a.length b - HT.sIx a.length 0 lo)).toArray:=by
 obtain ⟨c,e,d⟩:=lQ lo b a.toArray.size
 unfold slicePick
 rw[c,e,d]
 simp only[sliceRange_one,pick_run,Av] <;> rfl
def HN(K:PySem.W.Frag):V->Option Int->Option Int->Hp->VK->Prop:=λx lo c H Q=>∃a b,x=.ref a/\Nm K H a b/\∀p,H p=none->Q (.ref p) (upd H p (.lst (gH b lo c)))
theorem AR:FX X (HN X.K):=by
 intro g s w H x v z y lo e u Q I n i m j h
 obtain ⟨a,c,rfl,p,q⟩:=h
 cases n
 obtain ⟨k,r,f,l⟩:=I.list p
 have d:=r.length
 refine ⟨"list",_,lD.lookup,f.isList.typeIs,?_⟩
 refine A5 f.isList i m j .none (by simp) ?_ (by rw[Av] <;> omega)
 rw[jM,<- d]
 refine ⟨.ref s.heap.objs.size,_,I.laid (t':=s.toks) (o:=.lst (gH c lo e)) (λb t q=>Ai _ q) (Ak _) ?_,rfl,q _ (I.hok.fresh (Ak _))⟩
 exact ⟨Ca (cM c lo e) l,_,0,(r.drop (HT.sIx c.length 0 lo)).take (HT.sIx c.length c.length e - HT.sIx c.length 0 lo),Ap _ rfl⟩
theorem Xv:Nt X (.type "tuple") (λxs H Q=>∃p ys,xs=[.ref p]/\((Nm X.K H p ys/\∀l,H l=none->Q (.ref l) (upd H l (.tup ys)))\/(Wt X.K H p ys/\Q (.ref p) H))):=by
 intro a s k H xs x Q I r h
 obtain ⟨p,ys,rfl,h⟩:=h
 obtain ⟨u,rfl,t⟩:=vals1 r
 cases t
 rcases h with ⟨f,q⟩ | ⟨f,q⟩
 ·obtain ⟨c,g,i,m⟩:=I.list f
  have j:=g.length
  refine call_tuple_list i.isList (λd kp=>?_) (by simp only[Av] <;> omega)
  have n:Inv X a k H { s with heap:=d }:=I.kept (t':=s.toks) kp
  have v:Inv X a k (upd H d.objs.size (.tup ys)) { s with heap:=d.push { cls:=.type "tuple",data:=.seq c.toArray } } :=
   n.laid (t':=s.toks) (λb o e=>Ai _ e) (Ak _) (show Kw X.prog X.w _ _ _ (.tup ys) from ⟨m,c,g,IsTup.new _ _⟩)
  exact ⟨.ref d.objs.size,_,v,rfl,q _ (n.hok.fresh (Ak _))⟩
 ·obtain ⟨c,g,i,m⟩:=I.tuple f
  exact call_tuple_same i ⟨.ref p,H,I,rfl,q⟩
def PN(K:PySem.W.Frag)(T:String)(x:V)(H:Hp):Prop:=match x with
 | .str _=>T = "str"
 | .int _=>T = "int"
 | .ref p=>(T = "list" /\ ∃b,Nm K H p b)\/(T = "tuple" /\ ∃o,K.lookup p=some o/\o.cls=.type "tuple" /\ o.dict=none) \/
   (T = "dict" /\ ((∃a,H p=some (.dK a))\/∃a,H p=some (.dT a)))\/(T = "set" /\ ∃S n,H p=some (.set S n))
 | _=>False
theorem IM{f:List (Addr×Obj)}{u:St}(I:Inv X f u H s)(r:RelV x v)(ty:PN X.K T x H):s.TypeIs v T/\∀a,v=.ref a->∃k,s.heap.get? a=some k/\k.dict=none:=by
 cases x with
 | str z =>
  obtain ⟨t,rfl⟩:=r
  cases (show T = "str" from ty)
  exact ⟨typeIs_str s z t,λ_ e=>nomatch e⟩
 | int i =>
  obtain ⟨t,rfl⟩:=r
  cases (show T = "int" from ty)
  exact ⟨typeIs_int s i t,λ_ e=>nomatch e⟩
 | ref p =>
  cases r
  rcases ty with ⟨rfl,y,q⟩ | ⟨rfl,o,b,m,j⟩ | ⟨rfl,b⟩ | ⟨rfl,S,n,b⟩
  ·obtain ⟨w,_,l,_⟩:=I.list q
   refine ⟨l.isList.typeIs,λa e=>?_⟩
   cases e
   obtain ⟨o,n,e,c,j,_⟩:=l
   exact ⟨o,e,j⟩
  ·refine ⟨⟨o,I.kIn p o b,m⟩,λa e=>?_⟩
   cases e
   exact ⟨o,I.kIn _ o b,j⟩
  ·have z:∃o,s.heap.get? p=some o/\o.ExactDict:=by
    rcases b with ⟨g,b⟩ | ⟨g,b⟩
    ·obtain ⟨_,_,_,_,o,_,_,e,d,_⟩:=I.hok p _ b
     exact ⟨o,e,d⟩
    ·obtain ⟨_,_,_,_,o,_,_,e,d,_⟩:=I.hok p _ b
     exact ⟨o,e,d⟩
   obtain ⟨o,e,d⟩:=z
   refine ⟨⟨o,e,d.1⟩,λa h=>?_⟩
   cases h
   exact ⟨o,e,d.2.1⟩
  ·obtain ⟨o,_,_,_,e,d,_⟩:=I.hok p _ b
   refine ⟨⟨o,e,d.1⟩,λa h=>?_⟩
   cases h
   exact ⟨o,e,d.2.1⟩
 | _=>exact Lw ty
def QO(K:PySem.W.Frag)(T:String)(r:V->List V->Hp->VK->Prop)(m:TE)(t:TA):TE:=λb H Q=>m b H λx a=>PN K T x a/\t b a λd c=>r x d c Q
variable{o e:Expr}{es:List Expr}{m:TE}{t:TA}{name:Str}{g d:Pos}{T id:String}{r:V->List V->Hp->VK->Prop}
theorem U1(E:PlainAttrs T)(slot:Slot T name id)(j:typeOf (.builtin id)=pure (.type "method_descriptor"))(F:QV X id r)(A:PE X o m)(G:PA X (e::es) t)
  (c:Ro o name X.env (eval o X.env)=eval o X.env:=by rfl)
  (i:((Hm d (Bo (e::es) X.env)).all (λx=>!x.1) && (backToKw d (keywordEach [] X.env)).all (λx=>x.1.isSome)
   && decide ((e::es).length+([]:List dR).length+(if ([]:List dR).isEmpty then 0 else 1)<30))=true:=by rfl)
  (f:(g.endLine == d.line)=true:=by rfl) (M:Bo (e::es) X.env=(false,eval e X.env)::Bo es X.env:=by rfl) (b:(Hm d (Bo es X.env)).any (·.1)=false:=by rfl) :
  PE X (.Call (.Attribute o name g) (e::es) [] d) (QO X.K T r m t):=by
 intro a s k H Q I h
 refine wpAny_Call_method_late c i f rfl (Gj (A a s k H _ I h) λv y l => ?_)
 obtain ⟨x,D,q,n,ty,N⟩ := l
 obtain ⟨u,J⟩:=IM q n ty
 refine ⟨T,id,E,slot,j,u,J,?_⟩
 have p:=G d a y k D _ q N
 rw[M] at p ⊢
 refine Vi (by show (false || (Hm d (Bo es X.env)).any (·.1))=false; rw[b] <;> rfl) (Calls.evalArgs_plain ?_)
 exact Gj p λC L ⟨vs,B,O,w,z⟩=>F a L k B x vs v C Q O n w z
end
def QD(X:Cx)(id:String)(r:V->List V->Hp->VK->Prop):Prop :=
 ∀(a:List (Addr×Obj)) (s:Ah) (b:St) (H:Hp) (x:V) (d:List V) (v:Value) (c:List Value) (Q:VK),Inv X a b H s->RelV x v->Gn d c->r x d H Q ->
  wpAny (model X.prog X.w) X.A (call (.builtin id) (v::c)) (EP X a b Q) X.xe s
theorem Gn.one:∀{x:V} {us:List Value},Gn [x] us->∃u,us=[u]/\RelV x u
 | _,_,.cons r .nil=>⟨_,rfl,r⟩
theorem Gn.reverse(h:Gn xs us):Gn xs.reverse us.reverse:=by
 induction h with
 | nil=>exact .nil
 | cons r t a=>rw[Oh,Oh]; exact Gn.append a (.cons r .nil)
theorem Gn.rep(h:Gn xs us):∀k:Nat,Gn (Cc k xs).flatten (Cc k us).flatten
 | 0=>.nil
 | k+1=>by
  rw[Gx,Gx,Jq,Jq]
  exact Gn.append h (Gn.rep h k)
theorem foldl_rep(a:List Value):∀(k:Nat) (b:List Value),List.foldl (λf d=>f++d) b.toArray (Cc k a.toArray)=(b++(Cc k a).flatten).toArray
 | 0,b=>by simp
 | k+1,b=>by
  have e:b.toArray++a.toArray=(b++a).toArray:=by simp
  have c:(b++a)++(Cc k a).flatten=b++(Cc (k+1) a).flatten:=by
   rw[Gx,Jq,Br]
  rw[<- c,<- foldl_rep a k (b++a),<- e,Gx,List.foldl_cons]
section
variable{X:Cx}{a:List (Addr×Obj)}{c:St}{H:Hp}{s:Ah}{l b:Addr}{xs ys d:List V}
theorem Inv.lset{b its':List Value}(I:Inv X a c H s)(h:H l=some (.lst xs))(e:s.heap.get? l=some { cls:=.type "list",data:=.seq b.toArray n })(g:f b.toArray=its'.toArray)(d:Gn ys its')(hz:ys.length<=Au):Inv X a c (upd H l (.lst ys)) { s with heap:=s.heap.update l (Eo f),toks:=t' }:=by
 have q:=PySem.IsL.update e f
 rw[g] at q
 refine I.write (x:=l) (e:=l) (by rw[h]; exact trivial) (.inl rfl) (λk u j i=>(wB s.heap (Eo f) (Nk j)).trans i) ⟨_,q⟩ ?_
 exact ⟨hz,its',_,d,q⟩
theorem Inv.lnew{b:List Value}(I:Inv X a c H s)(d:Gn ys b)(hz:ys.length<=Au):Inv X a c (upd H s.heap.objs.size (.lst ys)) { s with heap:=s.heap.push { cls:=.type "list",data:=.seq b.toArray },toks:=t' } :=
 I.laid (λ_ _ q=>Ai _ q) (Ak _) ⟨hz,b,0,d,Ap _ rfl⟩
theorem Inv.fresh(I:Inv X a c H s):H s.heap.objs.size=none:=I.hok.fresh (Ak _)
theorem Inv.lstM(I:Inv X a c H s)(d:H l=some (.lst xs)):xs.length<=Au/\∃(b:List Value) (n:Nat),Gn xs b/\xs.length=b.length/\s.heap.get? l=some { cls:=.type "list",data:=.seq b.toArray n }:=by
 obtain ⟨z,b,n,r,e⟩:=I.hok l _ d
 exact ⟨z,b,n,r,r.length,e⟩
theorem qD(h:n<=Au):Ls n=false:=by
 unfold Ls
 exact decide_eq_false (by omega)
end
section
variable{X:Cx}
def CL:V->List V->Hp->VK->Prop:=λx vs H Q=>∃l a y,x=.ref l/\vs=[y]/\H l=some (.lst a)/\a.length<Au/\Q .non (upd H l (.lst (a++[y])))
theorem Oe:QD X "list.append" CL:=by
 intro c s j H x vs v o Q I f d h
 obtain ⟨l,k,y,rfl,rfl,b,m,q⟩:=h
 cases f
 obtain ⟨u,rfl,g⟩:=d.one
 obtain ⟨z,a,n,r,i,e⟩:=I.lstM b
 refine iU F.slot_list_append ⟨_,e,rfl⟩ F.entry_list_append (F.args_list_append_2 _ _) (PySem.list_append l a.toArray n u (by rw[Av]; omega)) ⟨e,?_⟩
 refine ⟨.non,_,I.lset (its':=a++[u]) b e (by simp) (r.append (.cons g .nil)) ?_,rfl,q⟩
 rw[Bm,Fi]
 omega
def AB:V->List V->Hp->VK->Prop:=λx vs H Q=>∃l b a c,x=.ref l/\vs=[.ref b]/\H l=some (.lst a)/\H b=some (.lst c)/\a.length+c.length<=Au/\Q .non (upd H l (.lst (a++c)))
def GL:R2:=λx y H Q=>∃l b a c,x=.ref l/\y=.ref b/\H l=some (.lst a)/\H b=some (.lst c)/\a.length+c.length<=Au/\∀p,H p=none->Q (.ref p) (upd H p (.lst (a++c)))
theorem A9:aQ X (Kb .Add) GL:=by
 intro d s B H x y v u Q I p k h
 obtain ⟨l,b,D,C,rfl,rfl,m,j,E,q⟩:=h
 cases p
 cases k
 obtain ⟨z,c,n,r,t,e⟩:=I.lstM m
 obtain ⟨A,a,w,f,o,g⟩:=I.lstM j
 refine PySem.P.add_list e g ?_ (by rw[Av,Av]; omega)
 have i:c.toArray++a.toArray=(c++a).toArray:=by simp
 rw[i]
 exact ⟨.ref _,_,I.lnew (t':=s.toks) (r.append f) (by rw[Bm]; omega),rfl,q _ I.fresh⟩
def MC:R2:=λx y H Q=>∃l k a,x=.ref l/\y=.int k/\H l=some (.lst a) /\ -(2 ^ 63)<=k/\k<2 ^ 63/\a.length * k.toNat<=Au /\
 ∀p,H p=none->Q (.ref p) (upd H p (.lst (Cc k.toNat a).flatten))
theorem wG{b:Type}(xs:List b)(k:Nat):(Cc k xs).flatten.length=k * xs.length:=by
 induction k with
 | zero=>simp
 | succ k a=>rw[Gx,Jq,Bm,a,Nat.succ_mul,Nat.add_comm]
theorem FD:aQ X (Kb .Mult) MC:=by
 intro p s N H x y v u Q I K E h
 obtain ⟨l,k,M,rfl,rfl,B,A,J,w,q⟩:=h
 cases K
 obtain ⟨t,rfl⟩:=E
 obtain ⟨z,b,n,r,G,e⟩:=I.lstM B
 have f:b.toArray.size * k.toNat<=Au:=by rw[Av,<- G]; exact w
 have g:¬ b.toArray.size * k.toNat > (2 ^ 63 - 1) / 8:=by
  have : (Au:Nat)<=(2 ^ 63 - 1) / 8:=by decide
  omega
 have d:¬ (!Builtin.List.listFitsIndex k)=true:=by
  rw[fitsIndex_both A J]
  exact Bk
 have c:¬ Ls (b.toArray.size * k.toNat)=true:=by
  rw[qD f]
  exact Bk
 have i:List.foldl (λo j=>o++j) #[] (Cc (if b.toArray.isEmpty=true then 0 else k.toNat) b.toArray)=(Cc k.toNat b).flatten.toArray:=by
  have C:∀m:Nat,List.foldl (λo j=>o++j) #[] (Cc m b.toArray)=(Cc m b).flatten.toArray:=λm=>by
   have:=foldl_rep b m []
   rw[List.nil_append] at this
   exact this
  rw[C]
  cases b with
  | nil=>simp
  | cons a L=>rw[if_neg (by simp)]
 refine wpAny_binaryOp_repeat_ref (T := "list") (U := "int") (by decide) ⟨_,e,rfl⟩ (λD=>typeIs_int D k t) noFill_list_mul F.fills_int_mul F.slot_int_rmul repeat_list F.slot_int_index.lookup
  (iU F.slot_int_rmul (typeIs_int s k t) F.entry_int_rmul (F.args_int_rmul_2 _ _) (int___rmul___int_list k t l b.toArray n)
   ⟨e,rfl,⟨_,e,rfl⟩,iU F.slot_list_mul ⟨_,e,rfl⟩ F.entry_list_mul (F.args_list_mul_2 _ _) (AutoListH.list___mul___list_int_3 l b.toArray n k t d g c) ⟨e,?_⟩⟩)
 rw[i]
 exact ⟨.ref _,_,I.lnew (t':=s.toks) (r.rep k.toNat) (by rw[wG,Nat.mul_comm]; exact w),rfl,q _ I.fresh⟩
end
end L2
namespace Att
open PySem PySem.W PySem.Calls PyProof.Rows
theorem cY:∀(ns:List Int) (vs:List Value),WellAll P h vs (ns.map WData.int)->Fm vs ns:=by
 intro ns
 induction ns with
 | nil =>
  intro vs w
  rw[Oi] at w
  cases w
  exact .nil
 | cons n ns c =>
  intro vs w
  rw[Aq] at w
  cases w with
  | cons a b =>
   cases a
   exact .cons _ _ (c _ b)
theorem zE{l:OpenLaw}(t:l.most=some n)(b:l.row.toRowW.claim.pre args=true)(j:WellAll P h c args):∃a vs ns,c=[Be a]/\args=[WData.list (ns.map WData.int)]/\h.get? a=some { cls:=.type "list",data:=.seq vs.toArray }/\Fm vs ns/\ns.length<=n:=by
 have k:WShape.hasAll [] args [.list .int]=true:=(pre_splitW b).1
 have m:l.pre.holds [] { args:=args }=true:=(pre_splitW b).2
 obtain ⟨d,r,rfl,p,u⟩:=hasAllW_cons k
 obtain rfl:=hasAllW_nil u
 obtain ⟨y,rfl,s⟩:=hasW_list p
 obtain ⟨ns,rfl⟩:=items_int s
 have e:ns.length<=n:=by
  unfold OpenLaw.pre at m
  have g:(WTm.not (.lt (.lit (.int (n:Int))) (.len (.arg 0)))).holds [] { args:=[.list (ns.map .int)] }=true:=by
   have g:=(holds_andW m).1
   rw[t] at g
   exact g
  have i:=condW_of g (w_not (w_lt w_lit (w_len_list (w_arg rfl))))
  rw[Ad] at i
  refine Nat.le_of_not_lt λq=>?_
  have w:(n:Int)<((ns.length:Nat):Int):=by omega
  first
   | (rw[decide_eq_true w] at i; exact absurd i (by decide))
   | (simp at i; omega)
 cases j with
 | cons o x =>
  cases x
  cases o with
  | list v f=>exact ⟨_,_,ns,rfl,rfl,v,cY ns _ f,e⟩
theorem zD(l:OpenLaw)(args:List WData):l.row.toRowW.claim.post args (.bool true) args=true :=
 postW_of (r:=l.row.toRowW) (X:=(true == true))
  (show WShape.has [] (.bool true) .bool=true by first | rfl | decide | simp [WShape.has,WShape.arms,WShape.armsAll])
  (show (WTm.eq .res (.lit (.bool true))).value [] { args:=args,res:=some (.bool true),after:=args }=some (.bool (true == true)) from w_eq_bool (w_res rfl) w_lit) rfl
theorem attach_call{l:OpenLaw}(M:l.most=some n)(m:d.params.defaults=[])(call:∀(w:World) (s₀ b:Ah) (mg s:Str->Option Value) (i:Addr) (o:Obj) (v k c:Value) (a:Addr) (vs:List Value) (ns:List Int),Ground q loose [] XP w s₀ mg s b.heap->YP w b.heap->b.heap.get? i=some o->o.data=.func (docDef d.name d.params d.body d.scope v k c)->b.heap.CodeRec k d.name->mg d.name=some (.ref i)->b.heap.get? a=some { cls:=.type "list",data:=.seq vs.toArray }->Fm vs ns->ns.length<=n->b.gens=#[]->Hy (model l.prog w) callerA (.call (.ref i) ⟨[.ref a],[]⟩) (λr s'=>r=.ok (.ret (.bool true))/\OldK b.heap s'.heap/\s'.os=b.os/\Zd s'.gens) b):WalkO q loose XP YP l.row.toRowW d [] (λf vs=>PySem.call f vs):=by
 intro w s₀ b mg s G Y i o v k c dV kV E F u A t B y z N g x L p D
 obtain rfl:dV=.none:=Dflts.none A m
 obtain rfl:kV=.none:=Dflts.noKw A
 obtain ⟨a,vs,ns,rfl,rfl,j,e,h⟩:=zE M g p
 refine enter_call (Pj (call w s₀ b mg s i o v k c a vs ns G Y E (fd_plain F) u t j e h B) λr s' K=>?_)
 obtain ⟨rfl,J,C,H⟩:=K
 exact ⟨.inl ⟨.bool true,.bool true,[],rfl,λ_=>rfl,.bool true,zD l _,λ_=>⟨Ds,λ_ I=>(nomatch I)⟩⟩,J,C,H⟩
end Att
namespace L2
open PySem PySem.Spec PyProof.Rows
theorem kH:∀{vs:List Value} {ns:List Int},Fm vs ns->Gn (ns.map V.int) vs
 | _,_,.nil=>.nil
 | _,_,.cons n t h=>.cons ⟨t,rfl⟩ (kH h)
def GG(H:Hp):Prop:=∀b,H b=none\/∃o a,H b=some (.frz o (.lst a))
def Rt(s:Stmt):Arguments:=match s with
 | .FunctionDef _ a _ _ _ _ _ _ _ _=>a
 | _=>{ posonlyargs:=[],args:=[],vararg:=none,kwonlyargs:=[],kw_defaults:=[],kwarg:=none,defaults:=[] }
def Kx(s:Stmt):List Stmt:=match s with
 | .FunctionDef _ _ b _ _ _ _ _ _ _=>b
 | _=>[]
def Bv(s:Stmt):Scope:=match s with
 | .FunctionDef _ _ _ _ _ _ a _ _ _=>a
 | _=>{ kind:=.function,names:=[],isGenerator:=false,isCoroutine:=false }
abbrev Ja:vN:=λ_ _ _ _ _ _=>False
abbrev E0:XK:=λ_ _ _=>False
theorem Gi:Qx Ja X E0:=λ_ _ _ _ _ _ _ h=>h.elim
structure Fun(K:PySem.W.Frag)(x qual:Str)(st:Stmt)(f:Addr)(fd:Cv):Prop where
 ex:∃(oc:Value) (od:Option Addr) (kV doc pm:Value) (an:Option Addr) (cdv ct:Value) (osl:Array (Option Value)),
  fd=PySem.W.fnOf x qual (Rt st) (Kx st) (Bv st) .none kV doc pm an cdv ct/\K.lookup f=some ⟨oc,od,.func fd,osl⟩/\PySem.W.codeIn K cdv qual=true
 kp:PySem.W.keepIn K (.ref f)=true
section
variable{P:Bn}{w:World}{K:PySem.W.Frag}{mg:Str->Option Value}{base:Heap}
theorem Fun.ok{x a:Str}{st:Stmt}(F:Fun K x a st f g)(S:FnScope N ps (Bv st))(len:∀vs H Q E,sp vs H Q E->vs.length=ps.length)(c:∀(b:Value) (A:Ck) (outer:List Env) (s:Ah) (H:Hp) (vs:List V) (Q:VK) (E:XK),Room k (A.deeper (Ss a (Bv st) s.heap.objs.size f b))->sp vs H Q E->∃t,wO (Na Ja P w K mg base N a (Bv st) f b A outer s H E).nox (Kx st) t/\t { nx:=λ_ l=>Q .non l,rt:=Q } (start N vs) H):FnOk P w K mg base Ja (k+1) f g ps sp:=by
 obtain ⟨v,o,kV,n,u,r,b,p,j,rfl,m,e⟩:=F.ex
 refine KS m e S len λA outer s H vs Q E i d=>?_
 obtain ⟨t,h,q⟩:=c b A outer s H vs Q E i d
 exact ⟨t,h.nox,q⟩
theorem Fun.binds{st:Stmt}(F:Fun K x a st f g)(h:∀(kV c e:Value) (d:Option Addr) (b ct:Value) (us:List Value),us.length=ps.length->bindArgs (PySem.W.fnOf x a (Rt st) (Kx st) (Bv st) .none kV c e d b ct) ⟨us,[]⟩=pure (ps.zip us)):Binds K g ps []:=by
 obtain ⟨m,k,kV,c,e,d,b,ct,j,rfl,l,i⟩:=F.ex
 exact .all (h kV c e d b ct)
theorem P8{x a:Str}{st:Stmt}{kV d h b ct:Value}(l:K.lookup f=some ⟨j,i,.func (PySem.W.fnOf x a (Rt st) (Kx st) (Bv st) .none kV d h g b ct),e⟩)(c:PySem.W.codeIn K b a=true)(k:PySem.W.keepIn K (.ref f)=true):Fun K x a st f (PySem.W.fnOf x a (Rt st) (Kx st) (Bv st) .none kV d h g b ct):=⟨⟨j,i,kV,d,h,g,b,ct,e,rfl,l,c⟩,k⟩
end
theorem zX(h:n<=1000):n<Au:=Nat.lt_of_le_of_lt h (by decide)
section
variable{X:Cx}
theorem pv(i:Nat){pos:Pos}(b:X.N[i]? = some x:=by rfl)(c:MY X.env.scope x:=by first | exact Dk rfl | exact Xo (Dk rfl) | exact Xo (Xo rfl))(hd:(x == ("__debug__" : Str))=false:=by decide)(a:(x == ("__classdict__" : Str))=false:=by decide):PE X (.Name x pos) (mG i):=HU b c hd a
end
theorem vR{A B:Prop}(h:B):if false=true then A else B:=by
 rw[if_neg Bk]
 exact h
theorem uA{A B:Prop}(h:A):if true=true then A else B:=by
 rw[if_pos rfl]
 exact h
theorem GB{c A B:Prop}[Decidable c](h1:c->A)(a:¬ c->B):if c then A else B:=by
 by_cases h:c
 ·rw[if_pos h]
  exact h1 h
 ·rw[if_neg h]
  exact a h
def Va(H a:Hp):Prop:=∀b o,H b=some o->a b=some o
theorem Va.refl(H:Hp):Va H H:=λ_ _ h=>h
theorem Va.trans(a:Va H e)(b:Va e d):Va H d:=λc o h=>b c o (a c o h)
theorem Va.free(e:Va H a)(h:a l=Su):H l=Su:=by
 cases q:H l with
 | none=>rfl
 | some o =>
  rw[e l o q] at h
  cases h
end L2
namespace Nd
open PySem PySem.Spec PyProof.Rows L2
def Dh(X:Cx)(a:Scope)(b:List (Str×Addr))(N:List Str)(fp:List Addr)(s:Ah)(H:Hp):Cx where
 prog:=X.prog
 w:=X.w
 K:=X.K
 mg:=X.mg
 base:=X.base
 A:=X.A
 N:=N
 s₀:=s
 H₀:=H
 env:=Xy a (Es (s.heap.objs.size+1) a.names b) s.heap.objs.size X.env
 outer:=X.stack
 stack:=X.stack
 ex:=fp
 fn:=λy=>decide (a.names.lookup y=some Eh)
 calm:=X.calm
 pn:=[]
 xe:=λ_ _=>False
section
variable{prog:Bn}{w:World}{A:Ck}{R:Result->Ah->Prop}{s:Ah}
theorem Yp(J:Nat->Ah->Prop) (turn:∀n s,J n s->wpAny (model prog w) A (Ig it) (λr i=>match r with
    | none=>R (.ok .next) i
    | some v=>wpAny (model prog w) A (Il f it v) (λ_ o=>wpAny (model prog w) A (Pm f env v) (λ_ q =>
      wpAny (model prog w) A (forIn b true λc r=>if r=true then (do
        let ok <- isTrue c env (eval c env)
        pure (Eu ok)) else pure (Eu r)) (λok g =>
       if ok=true then
        wpAny (model prog w) A (eval d env) (λx p=>wpAny (model prog w) A (call (.builtin "list.append") [e,x]) (λ_ l=>∃m,m<n/\J m l) (λ_ _=>False) p) (λ_ _=>False) g
       else ∃m,m<n/\J m g) (λ_ _=>False) q) (λ_ _=>False) o) (λ_ _=>False) i) (λ_ _=>False) s)
  (n:Nat) (h:J n s):Hy (model prog w) A (.compLoop (.ListComp d [⟨f,iter,b,0⟩] a pos) 0 it e env) R s:=by
 refine lF rfl J (λn s B=>?_) n h
 show wpAny _ A (Sem.onRaise (compTurn (.ListComp d [⟨f,iter,b,0⟩] a pos) 0 it e env) (λx=>do noteFrame x env; theTreesLotGoes x)) _ _ s
 refine wpAny_noted ?_
 rw[compTurn_list]
 refine Aa (Hx (Aa (Da (turn n s B) (λr i k=>?_) λ_ _ z=>z.elim)))
 cases r with
 | none=>exact Ae k
 | some v =>
  refine Aa (Da k (λ_ o y=>?_) λ_ _ z=>z.elim)
  refine Aa (Da y (λ_ q u=>?_) λ_ _ z=>z.elim)
  refine Aa (Da u (λok g j=>?_) λ_ _ z=>z.elim)
  cases ok with
  | false=>exact Ae ⟨rfl,j⟩
  | true =>
   refine Aa (Aa (Da j (λx p t=>?_) λ_ _ z=>z.elim))
   exact Aa (Da t (λ_ l C=>Ae (Ae ⟨rfl,C⟩)) λ_ _ z=>z.elim)
end
section
variable{X:Cx}{a:List (Addr×Obj)}{b:L2.St}{H:Hp}{s:Ah}{scope:Scope}{cl:List (Str×Addr)}{fp:List Addr}{N:List Str}
def dJ(scope:Scope)(x:Str):Prop:=scope.names.lookup x=some .local\/scope.names.lookup x=some .cell
structure CompScope(X:Cx)(scope:Scope)(cl:List (Str×Addr))(x:Str)(ys:List Str)(js:List Nat):Prop where
 clos:closureFor scope X.env=pure cl
 oc:(∀y∈scope.names,y.2≠.cell)\/∃z:Str,(∀n,Es n scope.names []=[(z,n)])/\scope.names.lookup z=some .cell/\∀y∈scope.names,y.2=.cell->y.1=z
 kind:scope.kind=.function
 locs:∀y∈scope.names,y.2=.local->scope.names.lookup y.1=some .local
 own:dJ scope x
 sub:∀y c,cl.lookup y=some c->X.env.cells.lookup y=some c
 has_:(scope.names.all λy=>!(y.2 == Fd) || (cl.lookup y.1).isSome)=true
 nd:(x::ys).Nodup
 len:ys.length=js.length
 at_:∀(k:Nat) (y:Str) (j:Nat),ys[k]? = some y->js[k]? = some j->X.N[j]? = some y/\scope.names.lookup y=some .free/\(X.env.kindOf y=some .cell\/X.env.kindOf y=some .free)
theorem CompScope.has{a:List Nat}(C:CompScope X scope cl x ys a):∀y∈scope.names,y.2=.free->(cl.lookup y.1).isSome=true:=λy b e=>by
 have h:=List.all_eq_true.mp C.has_ y b
 rw[e] at h
 simpa using h
theorem Vq{env:Env}{y:Str}{k:Sf}:∀{names:List (Str×Sf)},
  (names.map λ(n,k)=>if (k == Fd && env.scope.kind == .function && env.kindOf n == some .cell) then (n,Eh) else (n,k)).lookup y=some k ->
  ∃c,names.lookup y=some c/\(k=c\/(c=.free/\k=.cell))
 | [],h=>by simp at h
 | (n,c)::r,h=>by
  have i:=@Vq env y k r
  rw[Aq] at h
  by_cases d:(c == Fd && env.scope.kind == .function && env.kindOf n == some .cell)=true
  ·have b:Nl y ((n,Eh)::(r.map λ(n,k)=>if (k == Fd && env.scope.kind == .function && env.kindOf n == some .cell) then (n,Eh) else (n,k)))=some k:=by
    simpa [d] using h
   cases a:y == n with
   | true =>
    rw[Ci,a] at b
    have e:k=Eh:=by simpa using b.symm
    refine ⟨c,by rw[Ci,a],.inr ⟨?_,e⟩⟩
    rw[En,En] at d
    exact Ee d.1.1
   | false =>
    rw[Ci,a] at b
    obtain ⟨q,g,f⟩:=i b
    exact ⟨q,by rw[Ci,a]; exact g,f⟩
  ·have b:Nl y ((n,c)::(r.map λ(n,k)=>if (k == Fd && env.scope.kind == .function && env.kindOf n == some .cell) then (n,Eh) else (n,k)))=some k:=by
    simpa [d] using h
   cases a:y == n with
   | true =>
    rw[Ci,a] at b
    exact ⟨c,by rw[Ci,a],.inl (by simpa using b.symm)⟩
   | false =>
    rw[Ci,a] at b
    obtain ⟨q,g,f⟩:=i b
    exact ⟨q,by rw[Ci,a]; exact g,f⟩
theorem Zn{env:Env}{y:Str}:∀{names:List (Str×Sf)},names.lookup y=some .free ->
  (names.map λ(n,k)=>if (k == Fd && env.scope.kind == .function && env.kindOf n == some .cell) then (n,Eh) else (n,k)).lookup y=some .cell \/
  (names.map λ(n,k)=>if (k == Fd && env.scope.kind == .function && env.kindOf n == some .cell) then (n,Eh) else (n,k)).lookup y=some .free
 | [],h=>by simp at h
 | (n,k0)::r,h=>by
  have c:=@Zn env y r
  show Nl y ((if (k0 == Fd && env.scope.kind == .function && env.kindOf n == some .cell)=true then (n,Eh) else (n,k0))::_)=_\/Nl y ((if (k0 == Fd && env.scope.kind == .function && env.kindOf n == some .cell)=true then (n,Eh) else (n,k0))::_)=_
  by_cases b:(k0 == Fd && env.scope.kind == .function && env.kindOf n == some .cell)=true
  ·rw[if_pos b]
   cases a:y == n with
   | true=>exact .inl (by rw[Ci,a])
   | false =>
    rw[Ci,a] at h
    simp only[Ci,a]
    exact c h
  ·rw[if_neg b]
   cases a:y == n with
   | true =>
    rw[Ci,a] at h
    exact .inr (by rw[Ci,a]; exact h)
   | false =>
    rw[Ci,a] at h
    simp only[Ci,a]
    exact c h
theorem Ge{a c:Type}[BEq a][LawfulBEq a]{y:a}{k:c}:∀{l:List (a×c)},l.lookup y=some k->(y,k)∈l
 | [],h=>by simp at h
 | (n,v)::r,h=>by
  cases b:y == n with
  | true =>
   rw[Ci,b] at h
   have e:=Ee b
   subst e
   have : v=k:=by simpa using h
   subst this
   exact Ab
  | false =>
   rw[Ci,b] at h
   exact Ac _ (Ge h)
end
theorem oA(h:c<a)(e:c=a+1):False:=by omega
theorem Km:∀(names:List (Str×Sf)) (n:Nat) (a:List (Str×Addr)),Es n names a=Es n names []++a
 | [],_,_=>rfl
 | (x,k)::r,n,a=>by
  unfold Es
  by_cases h:(k == Eh)=true
  ·rw[if_pos h,if_pos h,Km r _ ((x,n)::a),Km r _ [(x,n)],Br]; rfl
  ·rw[if_neg h,if_neg h]; exact Km r n a
theorem Qh:∀(names:List (Str×Sf)) (n:Nat) (a:List (Str×Addr)),(∀y∈names,y.2≠.cell)->Es n names a=a
 | [],_,_,_=>rfl
 | (x,k)::r,n,a,h=>by
  unfold Es
  rw[if_neg (by have:=h (x,k) Ab; simpa using this)]
  exact Qh r n a λy b=>h y (Ac _ b)
theorem Zq{env:Env}{y:Str}:∀{names:List (Str×Sf)},names.lookup y=some .cell->(names.map λ(n,k)=>if (k == Fd && env.scope.kind == .function && env.kindOf n == some .cell) then (n,Eh) else (n,k)).lookup y=some .cell
 | [],h=>by simp at h
 | (n,k0)::r,h=>by
  have c:=@Zq env y r
  show Nl y ((if (k0 == Fd && env.scope.kind == .function && env.kindOf n == some .cell)=true then (n,Eh) else (n,k0))::_)=_
  by_cases b:(k0 == Fd && env.scope.kind == .function && env.kindOf n == some .cell)=true
  ·rw[if_pos b]
   cases a:y == n with
   | true=>rw[Ci,a]
   | false=>rw[Ci,a] at h ⊢; exact c h
  ·rw[if_neg b]
   cases a:y == n with
   | true=>rw[Ci,a] at h ⊢; exact h
   | false=>rw[Ci,a] at h ⊢; exact c h
theorem Pw(o:dJ a x):Loc (relabel a env) x:=o.imp lookup_relabel_local Zq
section
variable{X:Cx}{a:Scope}{d:List (Str×Addr)}{x y:Str}{ys:List Str}{f:List Nat}{n c:Nat}{N:List Str}{fp:List Addr}{s:Ah}{H:Hp}
theorem Ud(o:dJ a x):(Dh X a d N fp s H).fn x=true\/(Dh X a d N fp s H).env.scope.names.lookup x=some .local:=by
 rcases o with o | o
 ·exact .inr (lookup_relabel_local o)
 ·exact .inl (decide_eq_true o)
theorem CompScope.split(C:CompScope X a d x ys f)(h:(Es n a.names d).lookup y=some c):d.lookup y=some c\/(c=n/\Es 0 a.names []=[(y,0)]/\Es n a.names []=[(y,n)]/\a.names.lookup y=some .cell):=by
 rcases C.oc with o | ⟨z,g,j,_⟩
 ·rw[Qh _ _ _ o] at h; exact .inl h
 ·rw[Km,g] at h
  have b:Nl y ((z,n)::d)=some c:=h
  rw[Ci] at b
  cases e:y == z with
  | true =>
   rw[e] at b
   have i:c=n:=(Cj b).symm
   have k:=Ee e
   subst k
   exact .inr ⟨i,g 0,g n,j⟩
  | false=>rw[e] at b; exact .inl b
theorem CompScope.find(C:CompScope X a d x ys f)(h:d.lookup y=some c)(b:a.names.lookup y=some .free):(Es n a.names d).lookup y=some c:=by
 rcases C.oc with o | ⟨z,g,i,_⟩
 ·rw[Qh _ _ _ o]; exact h
 ·rw[Km,g]
  show Nl y ((z,n)::d)=some c
  rw[Ci]
  cases e:y == z with
  | true=>rw[Ee e,i] at b; cases b
  | false=>exact h
theorem CompScope.cellAt(C:CompScope X a d x ys f)(b:(y,Eh)∈a.names):(Es n a.names d).lookup y=some n:=by
 rcases C.oc with o | ⟨z,c,h,g⟩
 ·exact absurd rfl (o _ b)
 ·have e:y=z:=g _ b rfl
  subst e
  rw[Km,c]
  show Nl y ((y,n)::d)=some n
  rw[Ci,beq_self_eq_true]
theorem Tf(C:CompScope X a d x ys f)(i:∀g,g.Ns s.heap.objs.size (λ_=>none)->(∀b u,s.heap.get? b=some u->g.get? b=some u)->(∀z n,Es (s.heap.objs.size+1) a.names []=[(z,n)]->g.IsCell n none)->Q (newEnv a s.heap.objs.size X.env.globals (Es (s.heap.objs.size+1) a.names d) X.env.qual none .none (some X.env) builtinsNs) { s with heap:=g,toks:=s.toks+([]:List (Str×Value)).length }):wpAny M A (Mt a X.env.globals d [] X.env.qual none .none (some X.env)) Q E s:=by
 simp only[Mt,Option.isSome_some,if_true]
 refine Aa (wpAny_alloc (Aa (wpAny_layCells _ (λx k j=>by cases e:k == Eh <;> simp [e]) _ _ _ _ ?_)))
 have c:({ s with heap:=s.heap.push { cls:=.type "dict",data:=.dict #[] } }:Ah).heap.objs.size=s.heap.objs.size+1:=Fo ..
 rw[c]
 refine Aa (Ae (Ae (i _ ((Heap.Ns.new s.heap (.type "dict")).keeps (pushCells_keeps _ _)) (λb u e=>pushCells_keeps _ _ b u (Ai _ e)) λz n e=>?_)))
 have ok:=(cellsFrom_ok a.names (s.heap.push { cls:=.type "dict",data:=.dict #[] }) 0 [] ⟨λ_ _ h=>(nomatch h),Ds⟩ (Dq _)).empty z n
 rw[show (s.heap.push { cls:=.type "dict",data:=.dict #[] }).objs.size=s.heap.objs.size+1 from c,e] at ok
 exact (ok (Aj.mpr rfl)).1
end
section
variable{X:Cx}{f:List (Addr×Obj)}{g:L2.St}{H:Hp}{s:Ah}{a:Scope}{t:List (Str×Addr)}{fp:List Addr}{N:List Str}
theorem BG(C:CompScope X a t x ys G)(I:Inv X f g H s)(v:∀b∈fp,Mu X f H b)(E:∀b∈fp,∃o,s.heap.get? b=some o):(Dh X a t N fp s H).Ok where
 mod:=I.ok.mod
 kind:=C.kind
 glob:=I.ok.glob
 blt:=I.ok.blt
 above:=Ak _
 inj:=λy z c u l=>by
  have lt:∀y,t.lookup y=some c->c<s.heap.objs.size:=λy e=>let ⟨_,q⟩:=I.cell y c (C.sub y c e); q.lt
  rcases C.split u with u | ⟨e1,F,_⟩
  ·rcases C.split l with l | ⟨w,_⟩
   ·exact I.ok.inj y z c (C.sub y c u) (C.sub z c l)
   ·exact (oA (lt y u) w).elim
  ·rcases C.split l with l | ⟨w,A,_⟩
   ·exact (oA (lt z l) e1).elim
   ·rw[F] at A
    simpa using A
 has:=λy hy=>by
  have r:∀k,(k=Eh\/k=Fd)->(Xy a t s.heap.objs.size X.env).kindOf y=some k->∃c,(Es (s.heap.objs.size+1) a.names t).lookup y=some c:=by
   intro k hk e
   obtain ⟨D,B,e1⟩:=Vq (names:=a.names) (env:=X.env) (y:=y) (k:=k) e
   have m:=Ge B
   by_cases p:D=.cell
   ·exact ⟨_,C.cellAt (p▸m)⟩
   have d:D=.free:=by
    rcases e1 with e1 | e1
    ·subst e1
     rcases hk with hk | hk
     ·exact absurd hk p
     ·exact hk
    ·exact e1.1
   obtain ⟨c,i⟩:=Tq.mp (C.has _ m d)
   exact ⟨c,C.find i (d▸B)⟩
  rcases hy with hy | hy
  ·exact r _ (.inl rfl) hy
  ·exact r _ (.inr rfl) hy
 cab:=λy c h e=>by
  have h:a.names.lookup y=some .cell:=of_decide_eq_true h
  have:=(C.cellAt (n:=s.heap.objs.size+1) (Ge h)).symm.trans e
  show s.heap.objs.size<=c
  have:=Cj this
  omega
 hd:=I.ok.hd
 frames:=I.ok.frames
 stk:=.inl rfl
 exf:=λb j=>by
  obtain ⟨o,e⟩:=E b j
  refine ⟨By (Ax e),λy c i=>?_⟩
  rcases C.split i with i | ⟨i,_⟩
  ·exact (v b j).2.2.2.2.1 y c (C.sub y c i)
  ·exact λz=>oA (Ax e) (z.symm.trans i)
 bs:=I.bs
 bsz:=Ca I.ok.bsz I.sz
 noex:=λb o e j=>by
  rcases (v b j).2.2.2.1 with z | z
  ·exact I.ok.noex b o e z
  ·exact absurd (Cb (Ax (I.ok.bs b o e).1) z) (Ip _)
 exfs:=λb j z=>by
  rcases Al.mp (I.stkSub b z) with e | e
  ·exact (v b j).2.1 e
  ·exact (v b j).2.2.1 e
 funs:=I.stack
 frf:=I.stkFree
def Ey(g:L2.St)(a:List Nat):L2.St:=a.map λj=>(g[j]?).join
theorem Qq(C:CompScope X a t x ys D)(I:Inv X f g H s)(hf:∀b∈fp,Mu X f H b)(W:∀b∈fp,∃o,s.heap.get? b=some o)(N:h1.Ns s.heap.objs.size O)(keep:∀b u,s.heap.get? b=some u->h1.get? b=some u)(L:∀z n,Es (s.heap.objs.size+1) a.names []=[(z,n)]->h1.IsCell n none):Inv (Dh X a t (pre++ys) fp s H) [] (pre.map (λ_=>none)++Ey g D) H { s with heap:=h1,toks:=Y }:=by
 have w:∀y c,t.lookup y=some c->∃v,s.heap.IsCell c v/\h1.IsCell c v:=λy c e=>by
  obtain ⟨v,o,q,d⟩:=I.cell y c (C.sub y c e)
  exact ⟨v,⟨o,q,d⟩,o,keep c o q,d⟩
 refine ⟨BG C I hf W,rfl,I.bare,Un.kept keep,⟨O,N,λi y v G m _=>?_⟩,λy c e=>?_,I.hok.fresh (Ak _),λy c e=>?_,λp S=>?_,I.hok.kept keep,?_⟩
 ·have m:(pre.map (λ_=>(none:Option V))++Ey g D)[i]? = some (some v):=m
  have G:(pre++ys)[i]? = some y:=G
  by_cases hi:i<pre.length
  ·rw[Mk (by rw[Ad]; exact hi),Bg] at m
   cases q:pre[i]? with
   | none=>rw[q] at m; cases m
   | some z=>rw[q] at m; cases m
  ·rw[Jb (by rw[Ad]; omega),Ad] at m
   rw[Jb (by omega)] at G
   have E:=G
   have h:=m
   generalize i - pre.length=k at E h
   unfold Ey at h
   rw[Bg] at h
   cases J:D[k]? with
   | none=>rw[J] at h; simp at h
   | some j =>
    rw[J] at h
    have A:(g[j]?).join=some v:=by simpa using h
    have U:g[j]? = some (some v):=by
     cases q:g[j]? with
     | none=>rw[q] at A; simp at A
     | some z=>rw[q] at A; simp at A; rw[A]
    obtain ⟨a1,K,a3⟩:=C.at_ k y j E J
    obtain ⟨m0,_,Z⟩:=I.loc
    have M:MY X.env.scope y:=a3.elim (λa3=>.inr (.inl a3)) λa3=>.inr (.inr a3)
    obtain ⟨u,r,l⟩:=Z j y v a1 U M
    refine ⟨u,r,?_⟩
    rcases l with ⟨Q,_⟩ | ⟨_,c,T,hv⟩
    ·rcases a3 with a3 | a3 <;> rw[Q] at a3 <;> cases a3
    ·obtain ⟨F,B⟩:=Tq.mp (C.has _ (Ge K) rfl)
     have P:F=c:=by
      have:=C.sub y F B
      rw[T] at this
      exact (Cj this).symm
     subst P
     obtain ⟨o,q,d⟩:=hv
     exact .inr ⟨Zn K,F,C.find B K,o,keep F o q,d⟩
 ·rcases C.split e with e | ⟨e,_,R,_⟩
  ·obtain ⟨v,_,z⟩:=w y c e
   exact ⟨v,z⟩
  ·exact ⟨_,e▸L _ _ R⟩
 ·rcases C.split e with e | ⟨e,_⟩
  ·exact I.freeC y c (C.sub y c e)
  ·exact I.hok.fresh (by omega)
 ·cases (show p∈([]:List (Addr×Obj)) from S)
 ·show (pre.map (λ_=>(none:Option V))++Ey g D).length=(pre++ys).length
  simp [Ey,C.len]
end
section
variable{X:Cx}
def MV(J:It)(g:List Nat)(n:TT)(o:TE)(f:L2.St)(k:Hp)(Q:VK):Prop:=∀D,k D=none->∃W:Nat->Nat->Hp->Prop,(∃m,W 0 m (upd k D (.lst [])))/\∀i m H,W i m H ->
 (J.stop i H/\Q (.ref D) H)\/(J.go i H/\∀x h,J.yld i H x h->∃(l:Hp->Prop) (j:VK),(∀d,l d->∃b,b<m/\W (i+1) b d) /\
  (∀y e,j y e->∃a,e D=some (.lst a)/\a.length<Au/\∃b,b<m/\W (i+1) b (upd e D (.lst (a++[y])))) /\
  n (some x::Ey f g) h λc d=>if c=true then o (some x::Ey f g) d j else l d)
def yG(c:TI)(d:List Nat)(b:TT)(f:TE):TE:=λa H Q=>c a H λJ e=>MV J d b f a e Q
def Tz:TT:=λ_ H Q=>Q true H
def sY(X:Cx)(d:List Expr)(t:TT):Prop :=
 ∀(a:List (Addr×Obj)) (s:Ah) (b:L2.St) (H:Hp) (Q:Bool->Hp->Prop),Inv X a b H s->t b H Q ->
  wpAny (model X.prog X.w) X.A (forIn d true λc r=>if r=true then (do
   let ok <- isTrue c X.env (eval c X.env)
   pure (Eu ok)) else pure (Eu r)) (TP X a b Q) X.xe s
theorem N9:sY X [] Tz:=λa s b H Q I h=>wpAny_tests_nil ⟨H,I,h⟩
theorem BJ(h:PT X c t):sY X [c] t:=λa s b H Q I q=>wpAny_tests_one (h a s b H Q I q)
theorem Ue{X B:Cx}{d:List (Addr×Obj)}{G E:L2.St}(a:Dh X j O N fp f v=B)(M:Inv X d G v f)(C:∀b∈fp,Mu X d v b)(m:Inv B [] E p i):∃D,i.heap.Ns f.heap.objs.size D/\∀r,Cw f.heap.objs.size i.heap r->Inv X d G p { i with heap:=r }:=by
 have I:B.prog=X.prog:=by rw[<- a]; rfl
 have P:B.w=X.w:=by rw[<- a]; rfl
 obtain ⟨D,u,_⟩:=m.loc
 have x:i.heap.Ns f.heap.objs.size D:=by rw[<- a] at u; exact u
 refine ⟨D,x,λr g=>?_⟩
 have A:p f.heap.objs.size=none:=by have:=m.free; rw[<- a] at this; exact this
 have l:Un (q9 X.stack) fp v p f.heap i.heap:=by have:=m.base; rw[<- a] at this; exact this
 have k:∀b o,f.heap.get? b=some o->b≠f.heap.objs.size:=λb o q=>By (Ax q)
 have K:Un (q9 X.stack) fp v p f.heap r:=by
  refine ⟨λb o q n h s=>(g.2 b (k b o q)).trans (l.keep b o q n h s),λb o q n h s=>?_,l.free,λb o q s=>?_,l.tups,l.frzs,l.tbls⟩
  ·obtain ⟨H,z⟩:=l.slot b o q n h s
   exact ⟨H,(g.2 b (k b o q)).trans z⟩
  ·obtain ⟨L,z⟩:=l.there b o q s
   exact ⟨L,(g.2 b (k b o q)).trans z⟩
 have y:aS X.prog X.w p r:=λb J e=>by
  have t:=m.hok
  rw[I,P] at t
  refine (t b J e).stay (λc Q hcc q=>(g.2 c ?_).trans q) (λ_ q=>q) λ_ _ q=>q
  rintro rfl
  rcases hcc with rfl | hcc
  ·rw[A] at e; cases e
  ·rw[A] at hcc; cases hcc
 have F:i.os=f.os:=by have:=m.os; rw[<- a] at this; exact this
 exact M.call' (s':={ i with heap:=r }) (ch:=fp) F K y m.bare (λb h=>⟨(C b h).2.2.2.1,(C b h).2.1,(C b h).2.2.2.2.1,(C b h).2.2.2.2.2⟩)
theorem Tg{X e:Cx}{f:L2.St}{n k:Hp}(d:Dh X c j N fp o n=e)(q:Inv e [] f k l)(m:∀b∈fp,g b=none):∀b∈fp,Mu e [] g b:=λb h=>by
 have ok:=q.ok
 have a:b∈e.ex:=by rw[<- d]; exact h
 exact ⟨m b h,(ok.exf b a).1,ok.exfs b a,.inl a,(ok.exf b a).2,λp i=>by rw[<- d] at i; cases (show p∈([]:List (Addr×Obj)) from i)⟩
theorem Vj(e:X.calm=true)(c:Dh X a d N fp g f=b):b.prog=X.prog/\b.w=X.w/\b.K=X.K/\b.A=X.A/\b.calm=true:=by
 subst c
 exact ⟨rfl,rfl,rfl,rfl,e⟩
theorem e7{X o:Cx}{a:List (Addr×Obj)}{p l:L2.St}(m:Dh X c q N fp e n=o)(r:Inv X a p n e)(g:∀b∈fp,Mu X a n b)(d:Inv o [] l j h):(∃k,h.heap.Ns e.heap.objs.size k)/\j e.heap.objs.size=none/\Inv X a p j h:=by
 subst m
 obtain ⟨k,i,_⟩:=d.loc
 exact ⟨⟨k,i⟩,d.free,r.call' (s':=h) (ch:=fp) d.os d.base d.hok d.bare (λb f=>⟨(g b f).2.2.2.1,(g b f).2.1,(g b f).2.2.2.2.1,(g b f).2.2.2.2.2⟩)⟩
theorem Wb{X:Cx}{a:List (Addr×Obj)}{j:L2.St}{h:Hp}{c:Ah}{l:Expr}(n:Inv X a j h c)(T:Turn X.prog X.w X.K l J fp it f)(e:f 0 c.heap)(i:∀b∈fp,Mu X a h b)(m:Inv X a j (upd h c.heap.objs.size k) { c with heap:=c.heap.push g }):(∀b∈fp,Mu X a (upd h c.heap.objs.size k) b)/\f 0 (c.heap.push g)/\∀b∈fp,∃o,(c.heap.push g).get? b=some o:=by
 have Ua:f 0 (c.heap.push g):=T.keep 0 _ _ e λb d o q=>Ai _ q
 refine ⟨λb d=>⟨?_,(i b d).2⟩,Ua,λb d=>?_⟩
 ·rw[Dr ?_]
  ·exact (i b d).1
  ·intro z
   obtain ⟨o,q,_⟩:=T.obj _ _ e b d
   have:=Ax q
   rw[z] at this
   exact absurd this (Ip _)
 ·obtain ⟨o,q,_⟩:=T.obj _ _ Ua b d
  exact ⟨o,q⟩
theorem yL{G iter:Expr}{x:Str}{px pos:Pos}{D:List Expr}{a:Scope}{K:List Nat}(C:CompScope X a E x ys K)(hc:X.calm=true)(hi:PI X (.Name x px) iter wi)(ht:∀fp s H,sY (Dh X a E (x::ys) fp s H) D tc)(he:∀fp s H,PE (Dh X a E (x::ys) fp s H) G te)(hs:∀x,Dd iter X.env x=pure x:=by intro _; rfl):PE X (.ListComp G [⟨.Name x px,iter,D,0⟩] a pos) (yG wi K tc te):=by
 intro j s B H Q I h
 rw[eval_ListComp]
 refine Kh (use:=none) rfl hs C.clos C.kind C.locs (Gj (hi j s B H _ I h) λv s1 h1=>Gj h1 λj7 d h2=>?_)
 obtain ⟨it,fp,tn,J,V,e,I2,T,q4,f2,q2⟩:=h2
 subst e
 have fD:V d.heap.objs.size=none:=I2.hok.fresh (Ak _)
 obtain ⟨W,⟨m0,w0⟩,k2⟩:=q2 d.heap.objs.size fD
 refine Cf ?_
 have I3:Inv X j B (upd V d.heap.objs.size (.lst [])) { d with heap:=d.heap.push { cls:=.type "list",dict:=none,data:=.seq ([]:List Value).toArray } } :=
  I2.laid (t':=d.toks) (λb u q=>Ai _ q) (Ak _) ⟨Dq _,[],0,.nil,Ap _ rfl⟩
 obtain ⟨f3,k0,j2⟩:=Wb I2 T q4 f2 I3
 generalize k3:({ d with heap:=d.heap.push { cls:=.type "list",dict:=none,data:=.seq ([]:List Value).toArray } }:Ah)=s3 at I3
 have Ua:tn 0 s3.heap:=by rw[<- k3]; exact k0
 have o3:∀b∈fp,∃o,s3.heap.get? b=some o:=by rw[<- k3]; exact j2
 show wpAny _ _ (Mt a X.env.globals E [] X.env.qual none .none (some X.env)) _ _ _
 refine Tf C λh4 k4 k Z=>?_
 have I4:∀tk,Inv (Dh X a E (x::ys) fp s3 (upd V d.heap.objs.size (.lst []))) [] (none::Ey B K) (upd V d.heap.objs.size (.lst [])) { s3 with heap:=h4,toks:=tk }:=λtk=>Qq (pre:=[x]) C I3 f3 o3 k4 k Z
 have S:tn 0 h4:=T.keep 0 _ _ Ua λb F o q=>k b o q
 generalize p:Dh X a E (x::ys) fp s3 (upd V d.heap.objs.size (.lst []))=X' at I4
 obtain ⟨eP,eW,eK,eA,eC⟩:=Vj hc p
 have g:∀{f:Hp},(∀b∈fp,f b=none)->∀b∈fp,Mu X' [] f b:=λ{f} hn=>Tg p (I4 0) hn
 have t:∀s5:Ah,s5={ s3 with heap:=h4,toks:=s3.toks+([]:List (Str×Value)).length } ->
   Hy (model X.prog X.w) X.A (.compLoop (.ListComp G [⟨.Name x px,iter,D,0⟩] a pos) 0 (.ref it) (.ref d.heap.objs.size) (Xy a (Es (s3.heap.objs.size+1) a.names E) s3.heap.objs.size X.env))
    (compPost (model X.prog X.w) X.A X.xe none (EP X j B Q) (.ref d.heap.objs.size) s3.heap.objs.size) s5:=by
  rintro s5 rfl
  refine Yp (λn s'=>∃i o f,Inv X' [] (o::Ey B K) f s'/\tn i s'.heap/\(∀b∈fp,f b=none)/\W i n f) ?_ m0
   ⟨0,none,_,I4 _,S,λb F=>(f3 b F).1,w0⟩
  (intro n s6 q_; obtain ⟨i,o,H6,I6,h6,h5,w6⟩ := q_)
  rcases k2 i n H6 w6 with ⟨O,qn⟩ | ⟨go,step⟩
  ·have hd:=T.done X' eP eW eK eC i [] s6 _ H6 (λ_ _=>False) I6 (g h5) h6 O
   rw[eA] at hd
   refine Gj hd λr s7 c => ?_
   obtain ⟨hr,I7⟩ := c
   subst hr
   obtain ⟨m7,k6,h0⟩:=Ue p I3 f3 I7
   exact ⟨m7,k6,λh8 j4=>⟨.ref d.heap.objs.size,H6,h0 h8 j4,rfl,qn⟩⟩
  ·have h9:=T.item X' eP eW eK eC i [] s6 _ H6 (λ_ _=>False) I6 (g h5) h6 go
   rw[eA] at h9
   refine Gj h9 λr s7 c => ?_
   obtain ⟨u,hr,h7⟩ := c
   subst hr
   refine Gj h7 λ_ s8 c => ?_
   obtain ⟨y,H8,I8,r8,y8,L,j0⟩ := c
   have q8:=I8.pinned (g j0) (T.obj _ _ L)
   obtain ⟨N1,N2,q0,k8,k5⟩:=step y H8 y8
   have again:∀{R:Hp} {M:Ah} {N:Nat},Inv X' ([]++Qe fp s8.heap) (some y::Ey B K) R M->N<n->W (i+1) N R->∃m,m<n/\∃i o f,Inv X' [] (o::Ey B K) f M/\tn i M.heap/\(∀b∈fp,f b=none)/\W i m f:=λ{R M N} U Y w9=>by
    refine ⟨N,Y,i+1,some y,R,U.unpinned,T.keep _ _ _ L λb F o e=>(U.pin (b,o) (Ag _ (Ag _ (Gr F e)))).1,λb F=>?_,w9⟩
    obtain ⟨o,e,_⟩:=T.obj _ _ L b F
    exact (U.pin (b,o) (Ag _ (Ag _ (Gr F e)))).2.1
   subst p
   refine Gj (Ni (i:=0) (x:=x) (pos:=px) C.nd rfl (Pw C.own) (Ud C.own) _ s8 _ H8 y u (λk7 f=>k7=some y::Ey B K/\f=H8) q8 r8 ⟨rfl,rfl⟩) λ_ M c => ?_
   obtain ⟨x0,R,U,e9,q7⟩ := c
   subst e9 q7
   refine Gj (ht fp s3 _ _ M _ _ _ U k5) λok q9 c => ?_
   obtain ⟨j6,k1,l⟩ := c
   cases ok with
   | false =>
    rw[if_neg Bk] at l ⊢
    obtain ⟨N,Y,q5⟩:=q0 _ l
    exact again k1 Y q5
   | true =>
    rw[if_pos rfl] at l ⊢
    refine Gj (he fp s3 _ _ q9 _ _ _ k1 l) λz j3 c => ?_
    obtain ⟨vz,h3,k9,q3,q1⟩ := c
    obtain ⟨P,ha,hz,N,Y,j1⟩:=k8 _ _ q1
    refine Gj (Oe _ j3 _ h3 (.ref d.heap.objs.size) [vz] (.ref d.heap.objs.size) [z] (λ_ f=>f=upd h3 d.heap.objs.size (.lst (P++[vz]))) k9 rfl (.cons q3 .nil) ⟨_,P,vz,rfl,rfl,ha,hz,rfl⟩) λ_ j8 c => ?_
    obtain ⟨_,j9,q6,_,j5⟩ := c
    subst j5
    exact again q6 Y j1
 exact Pk (t _ rfl) (T.self X.A 0 _ _ _ S (t _ rfl))
end
theorem Ew(h:H p=none)(o:HO):Va H (upd H p o):=λb u q=>by rw[Dr (Gf q h)]; exact q
theorem Ft{a:Type}{xs:List a}{x:a}(h:xs[i]? = some x):xs.take (i+1)=xs.take i++[x]:=by
 rw[List.take_succ,h]; rfl
mutual
inductive RdV (K:PySem.W.Frag) (H:Hp):V->Af->Prop
 | non:RdV K H .non .none
 | bl (b:Bool):RdV K H (.bl b) (.bool b)
 | int (i:Int):RdV K H (.int i) (.int i)
 | str (x:Str):RdV K H (.str x) (.str x)
 | lst {a:Addr} {xs:List V} {ds:List Af}:Nm K H a xs->RdVs K H xs ds->RdV K H (.ref a) (.list ds)
 | tup {a:Addr} {xs:List V} {ds:List Af}:Wt K H a xs->RdVs K H xs ds->RdV K H (.ref a) (.tuple ds)
inductive RdVs (K:PySem.W.Frag) (H:Hp):List V->List Af->Prop
 | nil:RdVs K H [] []
 | cons {x:V} {d:Af} {xs:List V} {ds:List Af}:RdV K H x d->RdVs K H xs ds->RdVs K H (x::xs) (d::ds)
end
section
variable{X:Cx}{a:List (Addr×Obj)}{c:L2.St}{H f:Hp}{s:Ah}{K:PySem.W.Frag}
mutual
theorem RdV.reads(I:Inv X a c H s):∀{v:V} {d:Af} {u:Value},RdV X.K H v d->RelV v u->∃g,Reads s.heap u d g
 | _,_,_,.non,r=>by cases r; exact ⟨_,.none⟩
 | _,_,_,.bl b,r=>by cases r; exact ⟨_,.bool b⟩
 | _,_,_,.int i,r=>by obtain ⟨t,rfl⟩:=r; exact ⟨_,.int i t⟩
 | _,_,_,.str x,r=>by obtain ⟨t,rfl⟩:=r; exact ⟨_,.str x t⟩
 | _,_,_,.lst h hs,r=>by
  cases r
  obtain ⟨k,j,⟨o,n,e,f,_,m⟩,_⟩:=I.list h
  obtain ⟨g,l⟩:=RdVs.reads I hs j
  exact ⟨_,.list e f m (by simpa using l)⟩
 | _,_,_,.tup h hs,r=>by
  cases r
  obtain ⟨k,j,⟨o,e,f,n,m⟩,_⟩:=I.tuple h
  obtain ⟨g,l⟩:=RdVs.reads I hs j
  exact ⟨_,.tuple e f m (by simpa using l)⟩
theorem RdVs.reads(I:Inv X a c H s):∀{vs:List V} {ds:List Af} {us:List Value},RdVs X.K H vs ds->Gn vs us->∃b,ReadsAll s.heap us ds b
 | _,_,_,.nil,r=>by cases r; exact ⟨_,.nil⟩
 | _,_,_,.cons h hs,r=>by
  cases r with
  | cons r e =>
   obtain ⟨b,f⟩:=RdV.reads I h r
   obtain ⟨bs,d⟩:=RdVs.reads I hs e
   exact ⟨_,.cons f d⟩
end
mutual
theorem RdV.noDict:∀{v:V} {d:Af},RdV K H v d->d.hasDict=false
 | _,_,.non=>by simp only[Nq]
 | _,_,.bl b=>by simp only[Nq]
 | _,_,.int i=>by simp only[Nq]
 | _,_,.str x=>by simp only[Nq]
 | _,_,.lst h hs=>by simp only[Nq]; exact RdVs.noDict hs
 | _,_,.tup h hs=>by simp only[Nq]; exact RdVs.noDict hs
theorem RdVs.noDict:∀{vs:List V} {ds:List Af},RdVs K H vs ds->cE ds=false
 | _,_,.nil=>by simp only[cE]
 | _,_,.cons h hs=>by simp only[cE,RdV.noDict h,RdVs.noDict hs,Bool.or_self]
end
end
mutual
def Nc(b:Nat):Af->Prop
 | .none=>True
 | .bool _=>True
 | .int i=>i.natAbs<10 ^ b
 | .str x=>(reprText x).length<=b
 | .list a=>Mi b a
 | .tuple a=>Mi b a
 | .dict _=>False
def Mi(b:Nat):List Af->Prop
 | []=>True
 | x::xs=>Nc b x/\Mi b xs
end
mutual
def Kv:Af->Nat
 | .list a=>Jv a+1
 | .tuple a=>Jv a+1
 | _=>1
def Jv:List Af->Nat
 | []=>0
 | x::xs=>Kv x+Jv xs
end
theorem Ry:∀{xs:List Af},Mi b xs↔∀x∈xs,Nc b x
 | []=>by simp [Mi]
 | x::xs=>by simp only[Mi,Al,forall_eq_or_imp,Ry (xs:=xs)]
theorem cP:∀{xs:List Af},(∀x∈xs,Kv x<=m)->Jv xs<=m * xs.length
 | [],_=>by simp [Jv]
 | x::xs,h=>by
  have b:=h x (Ab ..)
  have c:=cP (xs:=xs) λy a=>h y (Ac _ a)
  simp only[Jv,Bh,Nat.mul_add,Nat.mul_one]
  omega
theorem iC(ns:List Int):Jv (ns.map Az)=ns.length:=by
 induction ns with
 | nil=>rfl
 | cons n ns a=>simp only[Aq,Jv,Kv,a,Bh]; omega
theorem uE(ns:List Int):Bu (ns.map Az)=0:=by
 induction ns with
 | nil=>rfl
 | cons n ns a=>simp only[Aq,Bu,Ea,a,Nat.max_self]
theorem cK:∀{xs:List Af},(∀x∈xs,x.depth<=m)->Bu xs<=m
 | [],_=>by simp [Bu]
 | x::xs,h=>by
  have b:=h x (Ab ..)
  have c:=cK (xs:=xs) λy a=>h y (Ac _ a)
  simp only[Bu]
  omega
theorem pR(a:List Str):(listText a).length<=piled a+2:=by
 cases a with
 | nil=>rw[listText_nil]; decide
 | cons t r =>
  have h:=textFrom_length_pos r 1 (("[" : Str)++(if (0:Nat) > 0 then ", " else "" : String)++t) (Xj 0)
  have e:((("[" : Str)++(if (0:Nat) > 0 then ", " else "" : String)++t)).length=1+t.length:=by
   rw[Xh,Xh]; rfl
  have c:(listText (t::r)).length=(textFrom 0 "[" (t::r)).length+1:=by
   show (textFrom 0 "[" (t::r) ++ "]").length=_
   rw[Xh]; rfl
  have b:(textFrom 0 "[" (t::r)).length=(textFrom 1 (("[" : Str)++(if (0:Nat) > 0 then ", " else "" : String)++t) r).length:=rfl
  rw[c,b,h,e,piled_cons]; omega
theorem oR(a:List Str):(tupleText a).length<=piled a+3:=by
 unfold tupleText
 rw[Xh,Xh]
 have b:((("(" : String):Str)).length=1:=rfl
 have c:(((if a.length == 1 then ",)" else ")" : String):Str)).length<=2:=by split <;> decide
 rw[b]
 by_cases h:a=[]
 ·subst h
  have : (Str.join ", " []).length=0:=rfl
  omega
 ·have:=join_length_add a h
  omega
mutual
theorem sS:∀{d:Af},Nc b d->d.shown.length+4<=(b+12) * Kv d
 | .none,_=>by simp only[Re,Kv]; show 4+4<=_; omega
 | .bool c,_=>by
  simp only[Re,Kv]
  cases c
  ·show 5+4<=_; omega
  ·show 4+4<=_; omega
 | .int i,h=>by
  simp only[Re,Kv]
  have f:i.natAbs<10 ^ b:=by simpa only [Nc] using h
  have e:i.natAbs<10 ^ (b+1):=Cb f (Zb (by decide) (by omega))
  have m:(Cq (toString i)).length<=b+2:=by
   have j:=int_text_length_le10 (a:=i) (k:=b+1) (by omega) e
   have l:(Cq (toString i)).length=(toString i).length:=PySem.ofString_length _
   omega
  have n:((toString i:String):Str).length=(Cq (toString i)).length:=rfl
  omega
 | .str x,h=>by
  simp only[Re,Kv]
  have f:(reprText x).length<=b:=by simpa only [Nc] using h
  omega
 | .list xs,h=>by
  simp only[Re,Kv]
  have g:=Vs (b:=b) (xs:=xs) (by simpa only [Nc] using h)
  have e:=pR (Px xs)
  rw[Nat.mul_add]
  omega
 | .tuple xs,h=>by
  simp only[Re,Kv]
  have g:=Vs (b:=b) (xs:=xs) (by simpa only [Nc] using h)
  have e:=oR (Px xs)
  rw[Nat.mul_add]
  omega
 | .dict kvs,h=>by simp only[Nc] at h
theorem Vs:∀{xs:List Af},Mi b xs->piled (Px xs)<=(b+12) * Jv xs
 | [],_=>by simp only[Px,Jv,piled_nil]; omega
 | x::xs,h=>by
  simp only[Mi] at h
  have c:=sS h.1
  have a:=Vs h.2
  simp only[Px,Jv,piled_cons]
  rw[Nat.mul_add]
  omega
end
theorem u7(hb:b<=400)(h:i<10 ^ b):i.log2<1920:=by
 have a:i<2 ^ 1920:=Cb h (Ca (Zb (by decide) hb) (by decide +kernel))
 by_cases z:i=0
 ·subst z; decide
 ·exact (Nat.log2_lt z).mpr a
mutual
theorem cJ(hb:b<=400):∀{d:Af},Nc b d->d.showable=true
 | .none,_=>by simp only[Kr]
 | .bool c,_=>by simp only[Kr]
 | .int i,h=>by
  simp only[Kr]
  exact decide_eq_true (u7 hb (by simpa only [Nc] using h))
 | .str x,h=>by simp only[Kr]
 | .list xs,h=>by simp only[Kr]; exact showableAll_of hb (by simpa only [Nc] using h)
 | .tuple xs,h=>by simp only[Kr]; exact showableAll_of hb (by simpa only [Nc] using h)
 | .dict kvs,h=>by simp only[Nc] at h
theorem showableAll_of(hb:b<=400):∀{xs:List Af},Mi b xs->aM xs=true
 | [],_=>by simp only[aM]
 | x::xs,h=>by
  simp only[Mi] at h
  simp only[aM,cJ hb h.1,showableAll_of hb h.2,Bool.and_self]
end
def fI:Af->Str
 | .str x=>x
 | d=>d.shown
structure Tells(K:PySem.W.Frag)(H:Hp)(x:V)(d:Af):Prop where
 rd:RdV K H x d
 fits:∃b,b<=400/\Nc b d/\(b+12) * Kv d<=Au
 depth:d.depth<=90
def KY(K:PySem.W.Frag):List V->Hp->VK->Prop:=λa H Q=>∃x d,a=[x]/\Tells K H x d/\Q (.str (fI d)) H
theorem Wy(p:X.A.guards=some [])(J:X.A.units+100<cLine):Nt X (.type "str") (KY X.K):=by
 intro l s N H M F Q I r h
 obtain ⟨x,d,rfl,⟨g,⟨b,w,o,L⟩,G⟩,q⟩:=h
 obtain ⟨u,rfl,a⟩:=vals1 r
 have k:=cJ w o
 have m:d.shown.length<=Au:=by have:=sS o; omega
 have f:=g.noDict
 obtain ⟨E,n⟩:=g.reads I a
 cases g with
 | non=>cases a; exact PySem.P.str_of_none ⟨.str _,H,I.tok _,⟨_,rfl⟩,q⟩
 | bl c=>cases a; exact PySem.P.str_of_bool ⟨.str _,H,I.tok _,⟨_,rfl⟩,by cases c <;> exact q⟩
 | int i =>
  obtain ⟨t,rfl⟩:=a
  exact PySem.P.str_of_int (by simpa [Kr] using k) ⟨.str _,H,I.tok _,⟨_,rfl⟩,q⟩
 | str y =>
  obtain ⟨t,rfl⟩:=a
  exact PySem.P.str_of_str ⟨.str _,H,I,⟨_,rfl⟩,q⟩
 | lst v D =>
  cases a
  exact str_of_reads n k (λz=>by rw[f] at z; cases z) p (by omega) (λ_ _ e=>e) (λB u C j=>⟨.str _,H,I.kept j,⟨_,rfl⟩,q⟩) m
 | tup v D =>
  cases a
  exact str_of_reads n k (λz=>by rw[f] at z; cases z) p (by omega) (λ_ _ e=>e) (λB u C j=>⟨.str _,H,I.kept j,⟨_,rfl⟩,q⟩) m
section
variable{X:Cx}{a:List (Addr×Obj)}{b:L2.St}{H:Hp}{s:Ah}{A:Ck}
theorem bX(A:Ck):A.in1.units<=A.units+1:=by
 first | exact Ak _ | (simp [Around.in1]; done) | (unfold Around.in1; simp)
end
section
variable{prog:Bn}{w:World}{A:Ck}{E:Value->Ah->Prop}{s:Ah}
theorem Xn{lo k:Option Int}(b:IsTup s.heap t a)(j:s.heap.IsSliceOf d m l .none)(q:cV m lo)(p:cV l k)(hw:HT.sIx a.size 0 lo=0/\HT.sIx a.size a.size k=a.size)(h:Q (.ref t) s):wpAny (model prog w) A (Tt (.ref t) (.ref d)) Q E s:=by
 obtain ⟨os,g,e,o⟩:=id j
 have f:s.TypeIs (.ref d) "slice" := ⟨os,g,e⟩
 unfold Tt
 try with_reducible refine Ce ?_
 first | refine Aa (Ae ?_) | skip
 refine Aa (lA b.typeIs (by decide) ?_)
 refine Aa (Cy (name:=Cq "__getitem__") b.typeIs Fg
  (Ct Fg b.typeIs entry_tuple_getitem ?_ (args_tuple_getitem _ _)))
 show wpAny _ _ (aW (.ref t) >>= _) _ _ s
 refine Aa (tupleItemsOf_ b ?_)
 refine Aa (Jc f ?_)
 rw[if_pos (by decide)]
 refine Aa (HT.sliceApplied_gen j q p ?_)
 rw[hw.1,hw.2]
 have c:(((0:Nat):Int) == 0 && (1:Int) == 1 && (a.size - 0) == a.size)=true:=by simp
 show wpAny _ _ (if (((0:Nat):Int) == 0 && (1:Int) == 1 && (a.size - 0) == a.size)=true then _ else _) _ _ s
 rw[if_pos c]
 have i:∀{R:Bool->Ah->Prop},R true s->wpAny (model prog w) A.in1 (aX (.ref t)) R E s:=λ{R} n=>by
  unfold aX
  refine Aa (Jc b.typeIs (Ae ?_))
  rw[beq_self_eq_true]
  exact n
 refine Aa (i ?_)
 rw[if_pos rfl]
 exact Aa (Ln (Ae ⟨_,rfl,Ae h⟩))
end
mutual
def Eg:Af->Af->Bool
 | .none,.none=>true
 | .bool a,.bool b=>a == b
 | .bool a,.int b=>(if a then 1 else 0) == b
 | .int a,.bool b=>a == (if b then 1 else 0)
 | .int a,.int b=>a == b
 | .str a,.str b=>a == b
 | .list xs,.list ys=>Nn xs ys
 | .tuple xs,.tuple ys=>Nn xs ys
 | _,_=>false
def Nn:List Af->List Af->Bool
 | [],[]=>true
 | x::xs,y::ys=>Eg x y && Nn xs ys
 | _,_=>false
end
theorem Qo:∀ds es:List Af,(((Bw (min ds.length es.length)).all λj=>Eg (ds.getD j .none) (es.getD j .none)) && ds.length == es.length)=Nn ds es
 | [],[]=>by simp [Nn]
 | [],_::_=>by simp [Nn]
 | _::_,[]=>by simp [Nn]
 | d::ds,e::es=>by
  have c:=Qo ds es
  rw[Nn,<- c]
  have a:min (d::ds).length (e::es).length=min ds.length es.length+1:=by simp only[Bh]; omega
  rw[a,List.range_succ_eq_map,List.all_cons,List.all_map]
  have b:((d::ds).length == (e::es).length)=(ds.length == es.length):=by
   rw[Jn]; simp
  rw[b,Bool.and_assoc]
  rfl
section
variable{X:Cx}{a:List (Addr×Obj)}{c:L2.St}{H:Hp}{s:Ah}{K:PySem.W.Frag}
mutual
theorem RdV.eqD_self:∀{v:V} {d:Af},RdV K H v d->Eg d d=true
 | _,_,.non=>by simp [Eg]
 | _,_,.bl b=>by simp [Eg]
 | _,_,.int i=>by simp [Eg]
 | _,_,.str x=>by simp [Eg]
 | _,_,.lst _ h=>by rw[Eg]; exact RdVs.eqDs_self h
 | _,_,.tup _ h=>by rw[Eg]; exact RdVs.eqDs_self h
theorem RdVs.eqDs_self:∀{vs:List V} {ds:List Af},RdVs K H vs ds->Nn ds ds=true
 | _,_,.nil=>by simp [Nn]
 | _,_,.cons h t=>by rw[Nn,RdV.eqD_self h,RdVs.eqDs_self t]; rfl
end
theorem pJ(I:Inv X pins σ H s){a:Addr}(h1:Nm X.K H a xs)(b:Wt X.K H a ys):False:=by
 obtain ⟨e,_,d,_⟩:=I.list h1
 obtain ⟨vs,_,c,_⟩:=I.tuple b
 exact SeqAt.ne_of_list_tuple d.isList c rfl
mutual
theorem RdV.det(I:Inv X pins σ H s):∀{v:V} {d e:Af},RdV X.K H v d->RdV X.K H v e->d=e
 | _,_,_,.non,h=>by cases h; rfl
 | _,_,_,.bl b,h=>by cases h; rfl
 | _,_,_,.int i,h=>by cases h; rfl
 | _,_,_,.str x,h=>by cases h; rfl
 | _,_,_,.lst q r,h=>by
  cases h with
  | lst a c =>
   have e:=I.list_inj q a
   subst e
   rw[RdVs.det I r c]
  | tup a c=>exact (pJ I q a).elim
 | _,_,_,.tup q r,h=>by
  cases h with
  | lst a c=>exact (pJ I a q).elim
  | tup a c =>
   have e:=I.tuple_inj q a
   subst e
   rw[RdVs.det I r c]
theorem RdVs.det(I:Inv X pins σ H s):∀{vs:List V} {ds es:List Af},RdVs X.K H vs ds->RdVs X.K H vs es->ds=es
 | _,_,_,.nil,h=>by cases h; rfl
 | _,_,_,.cons r t,h=>by
  cases h with
  | cons b a=>rw[RdV.det I r b,RdVs.det I t a]
end
theorem RdVs.length:∀{vs:List V} {ds:List Af},RdVs K H vs ds->vs.length=ds.length
 | _,_,.nil=>rfl
 | _,_,.cons _ t=>by rw[Bh,Bh,RdVs.length t]
theorem bK{A:Ck}(h:A.units+(n+1)<cLine):A.in1.units+n<cLine:=by
 have:=bX A
 omega
theorem sD{a b:Addr}{us vs:List Value}(k:PlainL s.heap a us.toArray)(f:PlainL s.heap b vs.toArray)(l1:us.length=ds.length)(l2:vs.length=es.length)(i:A.units<cLine)(l:∀j (h1:j<us.length) (g:j<vs.length),Pa A.in1 s us[j] vs[j] (Eg (ds.getD j .none) (es.getD j .none))):SeqAt.RcAt A s (.ref a) (.ref b) (Nn ds es):=by
 rw[<- Qo]
 by_cases c:ds.length=es.length
 ·have d:us.toArray.size=vs.toArray.size:=by rw[Av,Av,l1,l2,c]
  have h:=SeqAt.RcAt.lists (A:=A) (e:=λj=>Eg (ds.getD j .none) (es.getD j .none)) k.isList f.isList d i (λj h1 g=>by simpa using l j (by simpa using h1) (by simpa using g))
  rw[Av,l1] at h
  rw[c,Nat.min_self,beq_self_eq_true,Bool.and_true,<- c]
  exact h
 ·have d:(us.toArray.size != vs.toArray.size)=true:=by rw[Av,Av,l1,l2]; simpa using c
  have h:=SeqAt.RcAt.lists_lengths (A:=A) k.isList f.isList d i
  have m:(ds.length == es.length)=false:=by simpa using c
  rw[m,Yw]
  exact h
theorem kE{a b:Addr}{us vs:List Value}(i:IsTup s.heap a us.toArray)(d:IsTup s.heap b vs.toArray)(l1:us.length=ds.length)(l2:vs.length=es.length)(g:A.units<cLine)(f:∀j (h1:j<us.length) (c:j<vs.length),Pa A.in1 s us[j] vs[j] (Eg (ds.getD j .none) (es.getD j .none))):SeqAt.RcAt A s (.ref a) (.ref b) (Nn ds es):=by
 rw[<- Qo]
 have h:=SeqAt.RcAt.tuples (A:=A) (e:=λj=>Eg (ds.getD j .none) (es.getD j .none)) (show s.heap.IsTuple a us.toArray from i) (show s.heap.IsTuple b vs.toArray from d) g (λj h1 c=>by simpa using f j (by simpa using h1) (by simpa using c))
 rw[Av,Av,l1,l2] at h
 exact h
mutual
theorem B3(I:Inv X pins σ H s):∀{A:Ck} {x y:V} {d e:Af} {u v:Value},RdV X.K H x d->RdV X.K H y e->RelV x u->RelV y v->A.units+d.depth<cLine->Pa A s u v (Eg d e)
 | A,_,_,_,_,_,_,.non,h,ru,rv,hu=>by
  cases ru
  have c:A.units<cLine:=by omega
  cases h with
  | non=>cases rv; rw[Eg]; exact SeqAt.EqAt.same _
  | bl b=>cases rv; rw[Eg]; exact SeqAt.EqAt.none_bool b; all_goals simp
  | int b=>obtain ⟨t,rfl⟩:=rv; rw[Eg]; exact SeqAt.EqAt.none_int b t; all_goals simp
  | str b=>obtain ⟨t,rfl⟩:=rv; rw[Eg]; exact SeqAt.EqAt.none_str b t; all_goals simp
  | lst q r=>cases rv; obtain ⟨l,_,p,_⟩:=I.list q; rw[Eg]; exact SeqAt.EqAt.none_list p.isList c; all_goals simp
  | tup q r=>cases rv; obtain ⟨l,_,p,_⟩:=I.tuple q; rw[Eg]; exact SeqAt.EqAt.none_tuple p c; all_goals simp
 | A,_,_,_,_,_,_,.bl a,h,ru,rv,hu=>by
  cases ru
  have c:A.units<cLine:=by omega
  cases h with
  | non=>cases rv; rw[Eg]; exact SeqAt.EqAt.bool_none a; all_goals simp
  | bl b=>cases rv; rw[Eg]; exact SeqAt.EqAt.bool_bool a b
  | int b=>obtain ⟨t,rfl⟩:=rv; rw[Eg]; exact SeqAt.EqAt.bool_int a b t
  | str b=>obtain ⟨t,rfl⟩:=rv; rw[Eg]; exact SeqAt.EqAt.bool_str a b t; all_goals simp
  | lst q r=>cases rv; obtain ⟨l,_,p,_⟩:=I.list q; rw[Eg]; exact SeqAt.EqAt.bool_list a p.isList c; all_goals simp
  | tup q r=>cases rv; obtain ⟨l,_,p,_⟩:=I.tuple q; rw[Eg]; exact SeqAt.EqAt.bool_tuple a p c; all_goals simp
 | A,_,_,_,_,_,_,.int a,h,ru,rv,hu=>by
  obtain ⟨g,rfl⟩:=ru
  have c:A.units<cLine:=by omega
  cases h with
  | non=>cases rv; rw[Eg]; exact SeqAt.EqAt.int_none a g; all_goals simp
  | bl b=>cases rv; rw[Eg]; exact SeqAt.EqAt.int_bool a g b
  | int b=>obtain ⟨t,rfl⟩:=rv; rw[Eg]; exact SeqAt.EqAt.int_int a g b t
  | str b=>obtain ⟨t,rfl⟩:=rv; rw[Eg]; exact SeqAt.EqAt.int_str a g b t; all_goals simp
  | lst q r=>cases rv; obtain ⟨l,_,p,_⟩:=I.list q; rw[Eg]; exact SeqAt.EqAt.int_list a g p.isList c; all_goals simp
  | tup q r=>cases rv; obtain ⟨l,_,p,_⟩:=I.tuple q; rw[Eg]; exact SeqAt.EqAt.int_tuple a g p c; all_goals simp
 | A,_,_,_,_,_,_,.str a,h,ru,rv,hu=>by
  obtain ⟨g,rfl⟩:=ru
  have c:A.units<cLine:=by omega
  cases h with
  | non=>cases rv; rw[Eg]; exact SeqAt.EqAt.str_none a g; all_goals simp
  | bl b=>cases rv; rw[Eg]; exact SeqAt.EqAt.str_bool a g b; all_goals simp
  | int b=>obtain ⟨t,rfl⟩:=rv; rw[Eg]; exact SeqAt.EqAt.str_int a g b t; all_goals simp
  | str b=>obtain ⟨t,rfl⟩:=rv; rw[Eg]; exact SeqAt.EqAt.str_str a g b t
  | lst q r=>cases rv; obtain ⟨l,_,p,_⟩:=I.list q; rw[Eg]; exact SeqAt.EqAt.str_list a g p.isList c; all_goals simp
  | tup q r=>cases rv; obtain ⟨l,_,p,_⟩:=I.tuple q; rw[Eg]; exact SeqAt.EqAt.str_tuple a g p c; all_goals simp
 | A,_,_,_,_,_,_,@RdV.lst _ _ a xs ds q r,h,ru,rv,hu=>by
  cases ru
  have c:A.units<cLine:=by omega
  obtain ⟨l,o,p,_⟩:=I.list q
  cases h with
  | non=>cases rv; rw[Eg]; exact SeqAt.EqAt.list_none p.isList c; all_goals simp
  | bl b=>cases rv; rw[Eg]; exact SeqAt.EqAt.list_bool b p.isList c; all_goals simp
  | int b=>obtain ⟨t,rfl⟩:=rv; rw[Eg]; exact SeqAt.EqAt.list_int b t p.isList c; all_goals simp
  | str b=>obtain ⟨t,rfl⟩:=rv; rw[Eg]; exact SeqAt.EqAt.list_str b t p.isList c; all_goals simp
  | @lst b B C k f =>
   cases rv
   obtain ⟨vs,n,m,_⟩:=I.list k
   rw[Eg]
   by_cases i:a=b
   ·subst i
    have e:=I.list_inj q k
    subst e
    rw[<- RdVs.det I r f,RdVs.eqDs_self r]
    exact SeqAt.EqAt.same _
   ·refine SeqAt.EqAt.of_refs i (sD p m (o.length.symm.trans r.length) (n.length.symm.trans f.length) c λj w z=>?_)
    exact Ug I r f o n (bK (by simpa only [Ea] using hu)) j w z
  | tup k f=>cases rv; obtain ⟨vs,_,m,_⟩:=I.tuple k; rw[Eg]; exact SeqAt.EqAt.list_tuple p.isList m c; all_goals simp
 | A,_,_,_,_,_,_,@RdV.tup _ _ a xs ds q r,h,ru,rv,hu=>by
  cases ru
  have c:A.units<cLine:=by omega
  obtain ⟨l,o,p,_⟩:=I.tuple q
  cases h with
  | non=>cases rv; rw[Eg]; exact SeqAt.EqAt.tuple_none p c; all_goals simp
  | bl b=>cases rv; rw[Eg]; exact SeqAt.EqAt.tuple_bool b p c; all_goals simp
  | int b=>obtain ⟨t,rfl⟩:=rv; rw[Eg]; exact SeqAt.EqAt.tuple_int b t p c; all_goals simp
  | str b=>obtain ⟨t,rfl⟩:=rv; rw[Eg]; exact SeqAt.EqAt.tuple_str b t p c; all_goals simp
  | lst k f=>cases rv; obtain ⟨vs,_,m,_⟩:=I.list k; rw[Eg]; exact SeqAt.EqAt.tuple_list p m.isList c; all_goals simp
  | @tup b B C k f =>
   cases rv
   obtain ⟨vs,n,m,_⟩:=I.tuple k
   rw[Eg]
   by_cases i:a=b
   ·subst i
    have e:=I.tuple_inj q k
    subst e
    rw[<- RdVs.det I r f,RdVs.eqDs_self r]
    exact SeqAt.EqAt.same _
   ·refine SeqAt.EqAt.of_refs i (kE p m (o.length.symm.trans r.length) (n.length.symm.trans f.length) c λj w z=>?_)
    exact Ug I r f o n (bK (by simpa only [Ea] using hu)) j w z
theorem Ug(I:Inv X pins σ H s):∀{A:Ck} {xs ys:List V} {ds es:List Af} {us vs:List Value},RdVs X.K H xs ds->RdVs X.K H ys es->Gn xs us->Gn ys vs->A.units+Bu ds<cLine->∀j (h1:j<us.length) (a:j<vs.length),Pa A s us[j] vs[j] (Eg (ds.getD j .none) (es.getD j .none))
 | _,_,_,_,_,_,_,.nil,_,r1,_,_=>λj h1 a=>by cases r1; exact absurd h1 (Ld _)
 | A,_,_,_,_,_,_,@RdVs.cons _ _ x d xs ds r t,h,r1,r2,hu=>λj h1 a=>by
  cases h with
  | nil=>cases r2; exact absurd a (Ld _)
  | cons g c =>
   cases r1 with
   | cons i f =>
    cases r2 with
    | cons e k =>
     have b:A.units+d.depth<cLine/\A.units+Bu ds<cLine:=by
      simp only[Bu] at hu
      omega
     cases j with
     | zero=>simpa using B3 I r g i e b.1
     | succ j=>simpa using Ug I t c f k b.2 j (by simpa using h1) (by simpa using a)
end
end
section
variable{X:Cx}{c:List (Addr×Obj)}{d:L2.St}{H:Hp}{s:Ah}{K:PySem.W.Frag}
theorem zA{us vs:List Value}(k:PlainL s.heap a us.toArray)(f:PlainL s.heap b vs.toArray)(l1:us.length=ds.length)(l2:vs.length=es.length)(i:A.units<cLine)(l:∀j (h1:j<us.length) (g:j<vs.length),Pa A.in1 s us[j] vs[j] (Eg (ds.getD j .none) (es.getD j .none))):SeqAt.RcNeAt A s (.ref a) (.ref b) (!Nn ds es):=by
 rw[<- Qo]
 by_cases c:ds.length=es.length
 ·have d:us.toArray.size=vs.toArray.size:=by rw[Av,Av,l1,l2,c]
  have h:=SeqAt.RcNeAt.lists (A:=A) (e:=λj=>Eg (ds.getD j .none) (es.getD j .none)) k.isList f.isList d i (λj h1 g=>by simpa using l j (by simpa using h1) (by simpa using g))
  rw[Av,l1] at h
  rw[c,Nat.min_self,beq_self_eq_true,Bool.and_true,<- c]
  exact h
 ·have d:(us.toArray.size != vs.toArray.size)=true:=by rw[Av,Av,l1,l2]; simpa using c
  have h:=SeqAt.RcNeAt.lists_lengths (A:=A) k.isList f.isList d i
  have m:(ds.length == es.length)=false:=by simpa using c
  rw[m,Yw]
  exact h
theorem tP{us vs:List Value}(i:IsTup s.heap a us.toArray)(d:IsTup s.heap b vs.toArray)(l1:us.length=ds.length)(l2:vs.length=es.length)(g:A.units<cLine)(f:∀j (h1:j<us.length) (c:j<vs.length),Pa A.in1 s us[j] vs[j] (Eg (ds.getD j .none) (es.getD j .none))):SeqAt.RcNeAt A s (.ref a) (.ref b) (!Nn ds es):=by
 rw[<- Qo]
 have h:=SeqAt.RcNeAt.tuples (A:=A) (e:=λj=>Eg (ds.getD j .none) (es.getD j .none)) (show s.heap.IsTuple a us.toArray from i) (show s.heap.IsTuple b vs.toArray from d) g (λj h1 c=>by simpa using f j (by simpa using h1) (by simpa using c))
 rw[Av,Av,l1,l2] at h
 exact h
end
section
variable{X:Cx}
def MX(K:PySem.W.Frag):R2:=λx y H Q=>∃d e,RdV K H x d/\RdV K H y e/\d.depth<=60/\Q (.bl (Eg d e)) H
def MF(K:PySem.W.Frag):R2:=λx y H Q=>∃d e,RdV K H x d/\RdV K H y e/\d.depth<=60/\Q (.bl (!Eg d e)) H
theorem O6(M:X.A.units+64<cLine):aQ X (Jy .Eq) (MX X.K):=by
 intro E s N H x y v u Q I z f h
 obtain ⟨d,e,C,w,F,q⟩:=h
 have c:X.A.units<cLine:=by omega
 cases C with
 | non =>
  cases z
  cases w with
  | non=>cases f; rw[Eg] at q; exact SeqAt.RcAt.none_none _ _ _ _ ⟨.bl _,H,I,rfl,q⟩
  | bl b=>cases f; rw[Eg] at q; exact SeqAt.RcAt.none_bool b _ _ _ _ ⟨.bl _,H,I,rfl,q⟩; all_goals simp
  | int b=>obtain ⟨t,rfl⟩:=f; rw[Eg] at q; exact SeqAt.RcAt.none_int b t _ _ _ _ ⟨.bl _,H,I,rfl,q⟩; all_goals simp
  | str b=>obtain ⟨t,rfl⟩:=f; rw[Eg] at q; exact SeqAt.RcAt.none_str b t _ _ _ _ ⟨.bl _,H,I,rfl,q⟩; all_goals simp
  | @lst b n o i g=>cases f; obtain ⟨vs,l,k,_⟩:=I.list i; rw[Eg] at q; exact SeqAt.RcAt.none_list k.isList c _ _ _ _ ⟨.bl _,H,I,rfl,q⟩; all_goals simp
  | @tup b n o i g=>cases f; obtain ⟨vs,l,k,_⟩:=I.tuple i; rw[Eg] at q; exact SeqAt.RcAt.none_tuple k c _ _ _ _ ⟨.bl _,H,I,rfl,q⟩; all_goals simp
 | bl a =>
  cases z
  cases w with
  | non=>cases f; rw[Eg] at q; exact SeqAt.RcAt.bool_none a _ _ _ _ ⟨.bl _,H,I,rfl,q⟩; all_goals simp
  | bl b=>cases f; rw[Eg] at q; exact SeqAt.RcAt.bool_bool a b _ _ _ _ ⟨.bl _,H,I,rfl,q⟩
  | int b=>obtain ⟨t,rfl⟩:=f; rw[Eg] at q; exact SeqAt.RcAt.bool_int a b t _ _ _ _ ⟨.bl _,H,I,rfl,q⟩
  | str b=>obtain ⟨t,rfl⟩:=f; rw[Eg] at q; exact SeqAt.RcAt.bool_str a b t _ _ _ _ ⟨.bl _,H,I,rfl,q⟩; all_goals simp
  | @lst b n o i g=>cases f; obtain ⟨vs,l,k,_⟩:=I.list i; rw[Eg] at q; exact SeqAt.RcAt.bool_list a k.isList c _ _ _ _ ⟨.bl _,H,I,rfl,q⟩; all_goals simp
  | @tup b n o i g=>cases f; obtain ⟨vs,l,k,_⟩:=I.tuple i; rw[Eg] at q; exact SeqAt.RcAt.bool_tuple a k c _ _ _ _ ⟨.bl _,H,I,rfl,q⟩; all_goals simp
 | int a =>
  obtain ⟨m,rfl⟩:=z
  cases w with
  | non=>cases f; rw[Eg] at q; exact SeqAt.RcAt.int_none a m _ _ _ _ ⟨.bl _,H,I,rfl,q⟩; all_goals simp
  | bl b=>cases f; rw[Eg] at q; exact SeqAt.RcAt.int_bool a m b _ _ _ _ ⟨.bl _,H,I,rfl,q⟩
  | int b=>obtain ⟨t,rfl⟩:=f; rw[Eg] at q; exact SeqAt.RcAt.int_int a m b t _ _ _ _ ⟨.bl _,H,I,rfl,q⟩
  | str b=>obtain ⟨t,rfl⟩:=f; rw[Eg] at q; exact SeqAt.RcAt.int_str a m b t _ _ _ _ ⟨.bl _,H,I,rfl,q⟩; all_goals simp
  | @lst b n o i g=>cases f; obtain ⟨vs,l,k,_⟩:=I.list i; rw[Eg] at q; exact SeqAt.RcAt.int_list a m k.isList c _ _ _ _ ⟨.bl _,H,I,rfl,q⟩; all_goals simp
  | @tup b n o i g=>cases f; obtain ⟨vs,l,k,_⟩:=I.tuple i; rw[Eg] at q; exact SeqAt.RcAt.int_tuple a m k c _ _ _ _ ⟨.bl _,H,I,rfl,q⟩; all_goals simp
 | str a =>
  obtain ⟨m,rfl⟩:=z
  cases w with
  | non=>cases f; rw[Eg] at q; exact SeqAt.RcAt.str_none a m _ _ _ _ ⟨.bl _,H,I,rfl,q⟩; all_goals simp
  | bl b=>cases f; rw[Eg] at q; exact SeqAt.RcAt.str_bool a m b _ _ _ _ ⟨.bl _,H,I,rfl,q⟩; all_goals simp
  | int b=>obtain ⟨t,rfl⟩:=f; rw[Eg] at q; exact SeqAt.RcAt.str_int a m b t _ _ _ _ ⟨.bl _,H,I,rfl,q⟩; all_goals simp
  | str b=>obtain ⟨t,rfl⟩:=f; rw[Eg] at q; exact SeqAt.RcAt.str_str a m b t _ _ _ _ ⟨.bl _,H,I,rfl,q⟩
  | @lst b n o i g=>cases f; obtain ⟨vs,l,k,_⟩:=I.list i; rw[Eg] at q; exact SeqAt.RcAt.str_list a m k.isList c _ _ _ _ ⟨.bl _,H,I,rfl,q⟩; all_goals simp
  | @tup b n o i g=>cases f; obtain ⟨vs,l,k,_⟩:=I.tuple i; rw[Eg] at q; exact SeqAt.RcAt.str_tuple a m k c _ _ _ _ ⟨.bl _,H,I,rfl,q⟩; all_goals simp
 | @lst a L J D r =>
  cases z
  obtain ⟨G,B,p,_⟩:=I.list D
  cases w with
  | non=>cases f; rw[Eg] at q; exact SeqAt.RcAt.list_none p.isList c _ _ _ _ ⟨.bl _,H,I,rfl,q⟩; all_goals simp
  | bl b=>cases f; rw[Eg] at q; exact SeqAt.RcAt.list_bool b p.isList c _ _ _ _ ⟨.bl _,H,I,rfl,q⟩; all_goals simp
  | int b=>obtain ⟨t,rfl⟩:=f; rw[Eg] at q; exact SeqAt.RcAt.list_int b t p.isList c _ _ _ _ ⟨.bl _,H,I,rfl,q⟩; all_goals simp
  | str b=>obtain ⟨t,rfl⟩:=f; rw[Eg] at q; exact SeqAt.RcAt.list_str b t p.isList c _ _ _ _ ⟨.bl _,H,I,rfl,q⟩; all_goals simp
  | @lst b n o i g=>cases f; obtain ⟨vs,l,k,_⟩:=I.list i; rw[Eg] at q; exact sD p k (B.length.symm.trans r.length) (l.length.symm.trans g.length) c (λj C w=>Ug I r g B l (bK (by simp only[Ea] at F; omega)) j C w) _ _ _ _ ⟨.bl _,H,I,rfl,q⟩
  | @tup b n o i g=>cases f; obtain ⟨vs,l,k,_⟩:=I.tuple i; rw[Eg] at q; exact SeqAt.RcAt.list_tuple p.isList k c _ _ _ _ ⟨.bl _,H,I,rfl,q⟩; all_goals simp
 | @tup a L J D r =>
  cases z
  obtain ⟨G,B,p,_⟩:=I.tuple D
  cases w with
  | non=>cases f; rw[Eg] at q; exact SeqAt.RcAt.tuple_none p c _ _ _ _ ⟨.bl _,H,I,rfl,q⟩; all_goals simp
  | bl b=>cases f; rw[Eg] at q; exact SeqAt.RcAt.tuple_bool b p c _ _ _ _ ⟨.bl _,H,I,rfl,q⟩; all_goals simp
  | int b=>obtain ⟨t,rfl⟩:=f; rw[Eg] at q; exact SeqAt.RcAt.tuple_int b t p c _ _ _ _ ⟨.bl _,H,I,rfl,q⟩; all_goals simp
  | str b=>obtain ⟨t,rfl⟩:=f; rw[Eg] at q; exact SeqAt.RcAt.tuple_str b t p c _ _ _ _ ⟨.bl _,H,I,rfl,q⟩; all_goals simp
  | @lst b n o i g=>cases f; obtain ⟨vs,l,k,_⟩:=I.list i; rw[Eg] at q; exact SeqAt.RcAt.tuple_list p k.isList c _ _ _ _ ⟨.bl _,H,I,rfl,q⟩; all_goals simp
  | @tup b n o i g=>cases f; obtain ⟨vs,l,k,_⟩:=I.tuple i; rw[Eg] at q; exact kE p k (B.length.symm.trans r.length) (l.length.symm.trans g.length) c (λj C w=>Ug I r g B l (bK (by simp only[Ea] at F; omega)) j C w) _ _ _ _ ⟨.bl _,H,I,rfl,q⟩
theorem ES(M:X.A.units+64<cLine):aQ X (Jy .NotEq) (MF X.K):=by
 intro E s N H x y v u Q I z f h
 obtain ⟨d,e,C,w,F,q⟩:=h
 have c:X.A.units<cLine:=by omega
 cases C with
 | non =>
  cases z
  cases w with
  | non=>cases f; rw[Eg] at q; exact SeqAt.RcNeAt.none_none _ _ _ _ ⟨.bl _,H,I,rfl,q⟩
  | bl b=>cases f; rw[Eg] at q; exact SeqAt.RcNeAt.none_bool b _ _ _ _ ⟨.bl _,H,I,rfl,q⟩; all_goals simp
  | int b=>obtain ⟨t,rfl⟩:=f; rw[Eg] at q; exact SeqAt.RcNeAt.none_int b t _ _ _ _ ⟨.bl _,H,I,rfl,q⟩; all_goals simp
  | str b=>obtain ⟨t,rfl⟩:=f; rw[Eg] at q; exact SeqAt.RcNeAt.none_str b t _ _ _ _ ⟨.bl _,H,I,rfl,q⟩; all_goals simp
  | @lst b n o i g=>cases f; obtain ⟨vs,l,k,_⟩:=I.list i; rw[Eg] at q; exact SeqAt.RcNeAt.none_list k.isList c _ _ _ _ ⟨.bl _,H,I,rfl,q⟩; all_goals simp
  | @tup b n o i g=>cases f; obtain ⟨vs,l,k,_⟩:=I.tuple i; rw[Eg] at q; exact SeqAt.RcNeAt.none_tuple k c _ _ _ _ ⟨.bl _,H,I,rfl,q⟩; all_goals simp
 | bl a =>
  cases z
  cases w with
  | non=>cases f; rw[Eg] at q; exact SeqAt.RcNeAt.bool_none a _ _ _ _ ⟨.bl _,H,I,rfl,q⟩; all_goals simp
  | bl b=>cases f; rw[Eg] at q; exact SeqAt.RcNeAt.bool_bool a b _ _ _ _ ⟨.bl _,H,I,rfl,q⟩
  | int b=>obtain ⟨t,rfl⟩:=f; rw[Eg] at q; exact SeqAt.RcNeAt.bool_int a b t _ _ _ _ ⟨.bl _,H,I,rfl,q⟩
  | str b=>obtain ⟨t,rfl⟩:=f; rw[Eg] at q; exact SeqAt.RcNeAt.bool_str a b t _ _ _ _ ⟨.bl _,H,I,rfl,q⟩; all_goals simp
  | @lst b n o i g=>cases f; obtain ⟨vs,l,k,_⟩:=I.list i; rw[Eg] at q; exact SeqAt.RcNeAt.bool_list a k.isList c _ _ _ _ ⟨.bl _,H,I,rfl,q⟩; all_goals simp
  | @tup b n o i g=>cases f; obtain ⟨vs,l,k,_⟩:=I.tuple i; rw[Eg] at q; exact SeqAt.RcNeAt.bool_tuple a k c _ _ _ _ ⟨.bl _,H,I,rfl,q⟩; all_goals simp
 | int a =>
  obtain ⟨m,rfl⟩:=z
  cases w with
  | non=>cases f; rw[Eg] at q; exact SeqAt.RcNeAt.int_none a m _ _ _ _ ⟨.bl _,H,I,rfl,q⟩; all_goals simp
  | bl b=>cases f; rw[Eg] at q; exact SeqAt.RcNeAt.int_bool a m b _ _ _ _ ⟨.bl _,H,I,rfl,q⟩
  | int b=>obtain ⟨t,rfl⟩:=f; rw[Eg] at q; exact SeqAt.RcNeAt.int_int a m b t _ _ _ _ ⟨.bl _,H,I,rfl,q⟩
  | str b=>obtain ⟨t,rfl⟩:=f; rw[Eg] at q; exact SeqAt.RcNeAt.int_str a m b t _ _ _ _ ⟨.bl _,H,I,rfl,q⟩; all_goals simp
  | @lst b n o i g=>cases f; obtain ⟨vs,l,k,_⟩:=I.list i; rw[Eg] at q; exact SeqAt.RcNeAt.int_list a m k.isList c _ _ _ _ ⟨.bl _,H,I,rfl,q⟩; all_goals simp
  | @tup b n o i g=>cases f; obtain ⟨vs,l,k,_⟩:=I.tuple i; rw[Eg] at q; exact SeqAt.RcNeAt.int_tuple a m k c _ _ _ _ ⟨.bl _,H,I,rfl,q⟩; all_goals simp
 | str a =>
  obtain ⟨m,rfl⟩:=z
  cases w with
  | non=>cases f; rw[Eg] at q; exact SeqAt.RcNeAt.str_none a m _ _ _ _ ⟨.bl _,H,I,rfl,q⟩; all_goals simp
  | bl b=>cases f; rw[Eg] at q; exact SeqAt.RcNeAt.str_bool a m b _ _ _ _ ⟨.bl _,H,I,rfl,q⟩; all_goals simp
  | int b=>obtain ⟨t,rfl⟩:=f; rw[Eg] at q; exact SeqAt.RcNeAt.str_int a m b t _ _ _ _ ⟨.bl _,H,I,rfl,q⟩; all_goals simp
  | str b=>obtain ⟨t,rfl⟩:=f; rw[Eg] at q; exact SeqAt.RcNeAt.str_str a m b t _ _ _ _ ⟨.bl _,H,I,rfl,q⟩
  | @lst b n o i g=>cases f; obtain ⟨vs,l,k,_⟩:=I.list i; rw[Eg] at q; exact SeqAt.RcNeAt.str_list a m k.isList c _ _ _ _ ⟨.bl _,H,I,rfl,q⟩; all_goals simp
  | @tup b n o i g=>cases f; obtain ⟨vs,l,k,_⟩:=I.tuple i; rw[Eg] at q; exact SeqAt.RcNeAt.str_tuple a m k c _ _ _ _ ⟨.bl _,H,I,rfl,q⟩; all_goals simp
 | @lst a L J D r =>
  cases z
  obtain ⟨G,B,p,_⟩:=I.list D
  cases w with
  | non=>cases f; rw[Eg] at q; exact SeqAt.RcNeAt.list_none p.isList c _ _ _ _ ⟨.bl _,H,I,rfl,q⟩; all_goals simp
  | bl b=>cases f; rw[Eg] at q; exact SeqAt.RcNeAt.list_bool b p.isList c _ _ _ _ ⟨.bl _,H,I,rfl,q⟩; all_goals simp
  | int b=>obtain ⟨t,rfl⟩:=f; rw[Eg] at q; exact SeqAt.RcNeAt.list_int b t p.isList c _ _ _ _ ⟨.bl _,H,I,rfl,q⟩; all_goals simp
  | str b=>obtain ⟨t,rfl⟩:=f; rw[Eg] at q; exact SeqAt.RcNeAt.list_str b t p.isList c _ _ _ _ ⟨.bl _,H,I,rfl,q⟩; all_goals simp
  | @lst b n o i g=>cases f; obtain ⟨vs,l,k,_⟩:=I.list i; rw[Eg] at q; exact zA p k (B.length.symm.trans r.length) (l.length.symm.trans g.length) c (λj C w=>Ug I r g B l (bK (by simp only[Ea] at F; omega)) j C w) _ _ _ _ ⟨.bl _,H,I,rfl,q⟩
  | @tup b n o i g=>cases f; obtain ⟨vs,l,k,_⟩:=I.tuple i; rw[Eg] at q; exact SeqAt.RcNeAt.list_tuple p.isList k c _ _ _ _ ⟨.bl _,H,I,rfl,q⟩; all_goals simp
 | @tup a L J D r =>
  cases z
  obtain ⟨G,B,p,_⟩:=I.tuple D
  cases w with
  | non=>cases f; rw[Eg] at q; exact SeqAt.RcNeAt.tuple_none p c _ _ _ _ ⟨.bl _,H,I,rfl,q⟩; all_goals simp
  | bl b=>cases f; rw[Eg] at q; exact SeqAt.RcNeAt.tuple_bool b p c _ _ _ _ ⟨.bl _,H,I,rfl,q⟩; all_goals simp
  | int b=>obtain ⟨t,rfl⟩:=f; rw[Eg] at q; exact SeqAt.RcNeAt.tuple_int b t p c _ _ _ _ ⟨.bl _,H,I,rfl,q⟩; all_goals simp
  | str b=>obtain ⟨t,rfl⟩:=f; rw[Eg] at q; exact SeqAt.RcNeAt.tuple_str b t p c _ _ _ _ ⟨.bl _,H,I,rfl,q⟩; all_goals simp
  | @lst b n o i g=>cases f; obtain ⟨vs,l,k,_⟩:=I.list i; rw[Eg] at q; exact SeqAt.RcNeAt.tuple_list p k.isList c _ _ _ _ ⟨.bl _,H,I,rfl,q⟩; all_goals simp
  | @tup b n o i g=>cases f; obtain ⟨vs,l,k,_⟩:=I.tuple i; rw[Eg] at q; exact tP p k (B.length.symm.trans r.length) (l.length.symm.trans g.length) c (λj C w=>Ug I r g B l (bK (by simp only[Ea] at F; omega)) j C w) _ _ _ _ ⟨.bl _,H,I,rfl,q⟩
theorem A8(h:RelV z v)(h':RelV a v):z=a:=by
 cases z <;> cases a <;> simp only[L2.RelV] at h h' <;> first | rfl | (subst h; cases h'; rfl) | (subst h; cases h'; done) | (obtain ⟨t,rfl⟩:=h; obtain ⟨b,e⟩:=h'; cases e; rfl) | (obtain ⟨t,rfl⟩:=h; obtain ⟨b,e⟩:=h'; cases e; done) | (obtain ⟨t,rfl⟩:=h; cases h'; done) | (subst h; obtain ⟨b,e⟩:=h'; cases e)
open Classical in
noncomputable def Pg(K:PySem.W.Frag)(H:Hp)(d:Af)(v:Value):Bool:=if h:∃e z,RdV K H z e/\RelV z v then Eg h.choose d else false
theorem qC{a:List (Addr×Obj)}{c:L2.St}(I:Inv X a c H s)(h:RdV X.K H z e)(r:RelV z v):Pg X.K H d v=Eg e d:=by
 unfold Pg
 have b:∃e z,RdV X.K H z e/\RelV z v:=⟨e,z,h,r⟩
 rw[dif_pos b]
 obtain ⟨j,i,g⟩:=b.choose_spec
 have f:=A8 g r
 subst f
 rw[RdV.det I i h]
theorem Sz{c:L2.St}(I:Inv X a c H s):∀{xs:List V} {ds:List Af} {us:List Value},RdVs X.K H xs ds->Gn xs us->us.any (Pg X.K H d)=ds.any λe=>Eg e d
 | _,_,_,.nil,r=>by cases r; rfl
 | _,_,_,.cons h t,r=>by
  cases r with
  | cons f b=>rw[Po,Po,qC I h f,Sz I t b]
theorem Td{a:List (Addr×Obj)}{j:L2.St}(I:Inv X a j H s)(g:RdV X.K H x d)(f:RelV x u):∀{xs:List V} {ds:List Af} {us:List Value},RdVs X.K H xs ds->Gn xs us->A.units+Bu ds<cLine->∀v∈us,Pa A s v u (Pg X.K H d v)
 | _,_,_,.nil,r,_=>λv hv=>by cases r; cases hv
 | _,_,_,@RdVs.cons _ _ y e ys es h t,r,hu=>λv hv=>by
  have b:A.units+e.depth<cLine/\A.units+Bu es<cLine:=by
   simp only[Bu] at hu
   omega
  cases r with
  | cons c i =>
   rcases Al.mp hv with rfl | hv
   ·rw[qC I h c]; exact B3 I h g c f b.1
   ·exact Td I g f t i b.2 v hv
def FK(K:PySem.W.Frag)(neg:Bool):R2:=λx y H Q=>∃p b d a,y=.ref p/\(Nm K H p b\/Wt K H p b)/\RdV K H x d/\RdVs K H b a/\Bu a<=60/\Q (.bl (if neg then !(a.any λe=>Eg e d) else a.any λe=>Eg e d)) H
theorem Q7(t:X.A.units+64<cLine):aQ X (Jy .In) (FK X.K false):=by
 intro i s n H x y v u Q I g k h
 obtain ⟨p,o,d,l,rfl,hq,j,c,z,q⟩:=h
 cases k
 have b:X.A.in1.units+Bu l<cLine:=by have:=bX X.A; omega
 rcases hq with hq | hq
 ·obtain ⟨a,r,f,m⟩:=I.list hq
  refine SeqAt.in_listAt (Pg X.K H d) f.isList (λw e=>Td I j g c r b w (by simpa using e)) ⟨.bl _,H,I,rfl,?_⟩
  rw[show a.toArray.any (Pg X.K H d)=a.any (Pg X.K H d) by simp,Sz I c r]
  exact q
 ·obtain ⟨a,r,f,m⟩:=I.tuple hq
  refine SeqAt.in_tupleAt (Pg X.K H d) f (λw e=>Td I j g c r b w (by simpa using e)) ⟨.bl _,H,I,rfl,?_⟩
  rw[show a.toArray.any (Pg X.K H d)=a.any (Pg X.K H d) by simp,Sz I c r]
  exact q
theorem b0(t:X.A.units+64<cLine):aQ X (Jy .NotIn) (FK X.K true):=by
 intro i s n H x y v u Q I g k h
 obtain ⟨p,o,d,l,rfl,hq,j,c,z,q⟩:=h
 cases k
 have b:X.A.in1.units+Bu l<cLine:=by have:=bX X.A; omega
 rcases hq with hq | hq
 ·obtain ⟨a,r,f,m⟩:=I.list hq
  refine SeqAt.notIn_listAt (Pg X.K H d) f.isList (λw e=>Td I j g c r b w (by simpa using e)) ⟨.bl _,H,I,rfl,?_⟩
  rw[show a.toArray.any (Pg X.K H d)=a.any (Pg X.K H d) by simp,Sz I c r]
  exact q
 ·obtain ⟨a,r,f,m⟩:=I.tuple hq
  refine SeqAt.notIn_tupleAt (Pg X.K H d) f (λw e=>Td I j g c r b w (by simpa using e)) ⟨.bl _,H,I,rfl,?_⟩
  rw[show a.toArray.any (Pg X.K H d)=a.any (Pg X.K H d) by simp,Sz I c r]
  exact q
end
def OH(K:PySem.W.Frag)(a:Addr):It :=
 ⟨λi H=>∃b x,Nm K H a b/\b[i]? = some x,λi H x c=>∃p y,x=.ref p/\H p=none/\c=upd H p (.tup [.int i,y])/\∀b,Nm K H a b->b[i]? = some y,λi H=>∃b,Nm K H a b/\b.length<=i⟩
section
variable{X:Cx}{a:List (Addr×Obj)}{d:L2.St}{H:Hp}{s:Ah}{h':Heap}
theorem Pu{fp:List Addr}(I:Inv X a d H s)(k:∀b o,b∉fp->s.heap.get? b=some o->h'.get? b=some o)(h:∀b∈fp,Mu X a H b):Inv X a d H { s with heap:=h',toks:=t' }:=by
 have g:∀b u,H b=some u->b∉fp:=λb u e z=>by rw[(h b z).1] at e; cases e
 refine I.step (g':=s.gens) (d':=s.drawn) (ch:=fp) (λb y=>?_) (λb o _ _ f e _=>k b o f e) (λb o _ _ f e _=>⟨o.slots,k b o f e⟩) (λ_ _ _ _ n=>n)
  (λb o f e=>⟨o,k b o f e⟩) (λ_ _ e=>e) (λ_ _ _ e=>e) (λb B e=>⟨#[],by rw[e]; simp⟩) (λm i=>?_) (λb u e=>?_) I.bare
 ·obtain ⟨_,p,_,A,j,l⟩:=h b y
  exact ⟨A,p,j,l⟩
 ·obtain ⟨o,t,x,w,r⟩:=i
  exact ⟨o,t,x,k _ o (λz=>(h _ z).2.1 rfl) w,r⟩
 ·refine (I.hok b u e).stay (λc v f q=>k c v ?_ q) (λ_ q=>q) λ_ _ q=>q
  rcases f with z | z
  ·rw[z]; exact g b u e
  ·exact g c _ z
end
theorem t9{K:PySem.W.Frag}(a e it:Addr)(Z:e≠it):Turn P w K (.Tuple A k pos) (OH K a) [e,it] e (λi h=>(∃g,IsEnum h e it ((i:Nat):Int) g)/\h.IsListIter it a i) where
 mem:=Ab
 obj:=λi h st b f=>by
  obtain ⟨⟨g,j⟩,o,e1,c,d⟩:=st
  rcases Al.mp f with z | z
  ·subst z
   exact ⟨_,j,λv z=>by cases z⟩
  ·rw[Aj.mp z]
   exact ⟨o,e1,λv z=>by rw[d] at z; cases z⟩
 keep:=λi h h' st kp=>⟨let ⟨g,j⟩:=st.1; ⟨g,kp e Ab _ j⟩,st.2.at λo q=>kp it (Ac _ Ab) o q⟩
 item:=by
  intro X Q N J U i m s Y H E I B st R
  subst Q N J
  obtain ⟨xs,x,C,F⟩:=R
  obtain ⟨L,G,p,hz⟩:=I.list C
  obtain ⟨u,hu,ru⟩:=G.get F
  obtain ⟨⟨g,j⟩,l⟩:=st
  have el:e<s.heap.objs.size:=Ax j
  have il:it<s.heap.objs.size:=by obtain ⟨_,q,_⟩:=l; exact Ax q
  refine wpAny_pyNext_enum_item j l p.isList (x:=u) (by simpa using hu) Z λT ho y hT h0 hk=>⟨_,rfl,wpAny_letOwnedTupleGo_enum ho λV O D=>?_⟩
  have n:Cw e T V:=D
  -- the pair laid,then the iterators turned
  have I1:Inv X m Y (upd H s.heap.objs.size (.tup [.int i,x])) { s with heap:=s.heap.push { cls:=.type "tuple",data:=.seq #[.int i s.toks,u] } } :=
   I.laid (t':=s.toks) (λb o q=>Ai _ q) (Ak _) ⟨by show 2<=Au; decide,[.int i s.toks,u],.cons ⟨_,rfl⟩ (.cons ru .nil),_,Ap _ rfl,rfl,0,rfl⟩
  have nT:∀b∈[e,it],b≠s.heap.objs.size:=λb f=>by
   rcases Al.mp f with z | z
   ·rw[z]; exact By el
   ·rw[Aj.mp z]; exact By il
  have S:∀b∈[e,it],(upd H s.heap.objs.size (.tup [.int i,x])) b=none:=λb f=>by rw[Dr (nT b f)]; exact (B b f).1
  refine ⟨.ref s.heap.objs.size,_,Pu (fp:=[e,it]) (s:={ s with heap:=s.heap.push { cls:=.type "tuple",data:=.seq #[.int i s.toks,u] } }) (h':=V) (t':=s.toks+1) I1 (λb o f q=>?_) (λb f=>⟨S b f,(B b f).2⟩),rfl,⟨_,x,rfl,I.hok.fresh (Ak _),rfl,λys hy=>by rw[I.list_inj hy C]; exact F⟩,⟨⟨u,?_⟩,?_⟩,S⟩
  ·have r:b≠e:=λz=>f (by rw[z]; exact Ab)
   have M:b≠it:=λz=>f (by rw[z]; exact Ac _ Ab)
   refine (n.2 b r).trans ?_
   by_cases t:b=s.heap.objs.size
   ·subst t
    have q':=(Ap s.heap (o:={ cls:=.type "tuple",data:=.seq #[.int i s.toks,u] }) rfl).symm.trans q
    rw[hT]
    exact q'
   ·refine hk b o r M ?_
    have q0:(s.heap.push { cls:=.type "tuple",data:=.seq #[.int i s.toks,u] }).get? b=some o:=q
    rcases Ys q0 with z | z
    ·exact absurd z.1 t
    ·exact z
  ·have : ((i+1:Nat):Int)=(i:Int)+1:=by omega
   rw[this]
   exact O
  ·exact y.at λo q=>(n.2 it (Nk Z)).trans q
 done:=by
  intro X Q N J U i m s Y H E I B st R
  subst Q N J
  obtain ⟨xs,C,F⟩:=R
  obtain ⟨L,G,p,hz⟩:=I.list C
  obtain ⟨⟨g,j⟩,l⟩:=st
  have hl:=G.length
  exact wpAny_pyNext_enum_end (I.ok.hd U) j l p.isList (by simp; omega) λT eb=>⟨rfl,Pu (fp:=[e,it]) (t':=s.toks) I (λb o f q=>eb b o (λz=>f (by rw[z]; exact Ac _ Ab)) q) B⟩
 self:=λ_ _ _ _ _ st h=>let ⟨_,j⟩:=st.1; wpAny_pyIter_enum j h
section
variable{X:Cx}
def MG(K:PySem.W.Frag)(e:TA):TI:=λd H R=>e d H λvs b=>∃a,vs=[.ref a]/\(∃c,Nm K b a c)/\R (OH K a) b
theorem W5(J:Gl X "enumerate")(A:X.mg "enumerate" = none)(C:PA X [a] m)(D:Bo [a] X.env=[(false,eval a X.env)]:=by rfl):PI X (.Tuple g k G) (.Call (.Name "enumerate" p) [a] [] pos) (MG X.K m):=by
 intro c s F H R I h
 refine Call_ (Tw I J A (u:=.type "enumerate") (by decide +kernel) (Fc (Gj (C pos c s F H _ I h) λN d ⟨vs,n,f,o,t⟩=>?_) D rfl))
 obtain ⟨l,e,⟨Q,E⟩,q⟩:=t
 subst e
 obtain ⟨u,rfl,L⟩:=vals1 o
 cases L
 obtain ⟨y,M,w,P⟩:=f.list E
 refine call_enumerate_list w.isList λO j i B x=>wpAny_pyIter_enum j ?_
 have r:∀b∈[d.heap.objs.size+1,d.heap.objs.size],Mu X c n b:=λb v=>by
  rcases Al.mp v with z | z
  ·rw[z]; exact f.fpOk (Qc _) (f.hok.fresh (Qc _))
  ·rw[Aj.mp z]; exact f.fpOk (Ak _) (f.hok.fresh (Ak _))
 exact ⟨d.heap.objs.size+1,[d.heap.objs.size+1,d.heap.objs.size],_,_,n,rfl,f.kept (t':=d.toks) x,t9 l _ _ (Nat.succ_ne_self _),⟨⟨_,j⟩,i⟩,r,q⟩
end
section
variable{X:Cx}
def GK(K:PySem.W.Frag)(J:It)(k:List Nat)(p:TT)(q:TE)(j:L2.St)(n:Hp)(Q:VK):Prop:=∀D,n D=none->∃W:Nat->Nat->Hp->Prop,(∃m,W 0 m (upd n D (.lst [])))/\∀i m H,W i m H ->
 (J.stop i H/\Q (.ref D) H)\/(J.go i H/\∀x h,J.yld i H x h->∃(t:Addr) (e g:V),x=.ref t/\Wt K h t [e,g]/\∃(o:Hp->Prop) (l:VK),(∀d,o d->∃b,b<m/\W (i+1) b d) /\
  (∀y f,l y f->∃a,f D=some (.lst a)/\a.length<Au/\∃b,b<m/\W (i+1) b (upd f D (.lst (a++[y])))) /\
  p (some e::some g::Ey j k) h λc d=>if c=true then q (some e::some g::Ey j k) d l else o d)
def L3(K:PySem.W.Frag)(c:TI)(d:List Nat)(b:TT)(f:TE):TE:=λa H Q=>c a H λJ e=>GK K J d b f a e Q
theorem sU(C:CompScope X a p x ys P)(E:dJ a g)(k1:(x::g::ys).Nodup)(hc:X.calm=true)(hi:PI X (.Tuple [.Name x px,.Name g D] kt pt) iter wi)(ht:∀fp s H,sY (Dh X a p (x::g::ys) fp s H) L tc)(he:∀fp s H,PE (Dh X a p (x::g::ys) fp s H) N te)(hs:∀x,Dd iter X.env x=pure x:=by intro _; rfl):PE X (.ListComp N [⟨.Tuple [.Name x px,.Name g D] kt pt,iter,L,0⟩] a pos) (L3 X.K wi P tc te):=by
 intro k s G H Q I h
 rw[eval_ListComp]
 refine Kh (use:=none) rfl hs C.clos C.kind C.locs (Gj (hi k s G H _ I h) λv s1 h1=>Gj h1 λx1 d h2=>?_)
 obtain ⟨it,fp,tn,J,O,e,I2,T,q8,f2,q2⟩:=h2
 subst e
 have fD:O d.heap.objs.size=none:=I2.hok.fresh (Ak _)
 obtain ⟨W,⟨m0,w0⟩,k5⟩:=q2 d.heap.objs.size fD
 refine Cf ?_
 have I3:Inv X k G (upd O d.heap.objs.size (.lst [])) { d with heap:=d.heap.push { cls:=.type "list",dict:=none,data:=.seq ([]:List Value).toArray } } :=
  I2.laid (t':=d.toks) (λb u q=>Ai _ q) (Ak _) ⟨Dq _,[],0,.nil,Ap _ rfl⟩
 obtain ⟨f3,k3,j6⟩:=Wb I2 T q8 f2 I3
 generalize k6:({ d with heap:=d.heap.push { cls:=.type "list",dict:=none,data:=.seq ([]:List Value).toArray } }:Ah)=s3 at I3
 have Ua:tn 0 s3.heap:=by rw[<- k6]; exact k3
 have o3:∀b∈fp,∃o,s3.heap.get? b=some o:=by rw[<- k6]; exact j6
 show wpAny _ _ (Mt a X.env.globals p [] X.env.qual none .none (some X.env)) _ _ _
 refine Tf C λh4 k7 l h3=>?_
 have I4:∀tk,Inv (Dh X a p (x::g::ys) fp s3 (upd O d.heap.objs.size (.lst []))) [] (none::none::Ey G P) (upd O d.heap.objs.size (.lst [])) { s3 with heap:=h4,toks:=tk }:=λtk=>Qq (pre:=[x,g]) C I3 f3 o3 k7 l h3
 have h0:tn 0 h4:=T.keep 0 _ _ Ua λb M o q=>l b o q
 generalize B:Dh X a p (x::g::ys) fp s3 (upd O d.heap.objs.size (.lst []))=X' at I4
 obtain ⟨eP,eW,eK,eA,eC⟩:=Vj hc B
 have j:∀{f:Hp},(∀b∈fp,f b=none)->∀b∈fp,Mu X' [] f b:=λ{f} hn=>Tg B (I4 0) hn
 have F:∀s5:Ah,s5={ s3 with heap:=h4,toks:=s3.toks+([]:List (Str×Value)).length } ->
   Hy (model X.prog X.w) X.A (.compLoop (.ListComp N [⟨.Tuple [.Name x px,.Name g D] kt pt,iter,L,0⟩] a pos) 0 (.ref it) (.ref d.heap.objs.size) (Xy a (Es (s3.heap.objs.size+1) a.names p) s3.heap.objs.size X.env))
    (compPost (model X.prog X.w) X.A X.xe none (EP X k G Q) (.ref d.heap.objs.size) s3.heap.objs.size) s5:=by
  rintro s5 rfl
  refine Yp (λn s'=>∃i o o2 f,Inv X' [] (o::o2::Ey G P) f s'/\tn i s'.heap/\(∀b∈fp,f b=none)/\W i n f) ?_ m0
   ⟨0,none,none,_,I4 _,h0,λb M=>(f3 b M).1,w0⟩
  (intro n s6 q_; obtain ⟨i,o,o2,H6,I6,k0,h9,w6⟩ := q_)
  rcases k5 i n H6 w6 with ⟨V,qn⟩ | ⟨go,step⟩
  ·have hd:=T.done X' eP eW eK eC i [] s6 _ H6 (λ_ _=>False) I6 (j h9) k0 V
   rw[eA] at hd
   refine Gj hd λr s7 c => ?_
   obtain ⟨hr,I7⟩ := c
   subst hr
   obtain ⟨m7,k9,h5⟩:=Ue B I3 f3 I7
   exact ⟨m7,k9,λh8 j8=>⟨.ref d.heap.objs.size,H6,h5 h8 j8,rfl,qn⟩⟩
  ·have k2:=T.item X' eP eW eK eC i [] s6 _ H6 (λ_ _=>False) I6 (j h9) k0 go
   rw[eA] at k2
   refine Gj k2 λr s7 c => ?_
   obtain ⟨u,hr,h7⟩ := c
   subst hr
   refine Gj h7 λ_ s8 c => ?_
   obtain ⟨y,H8,I8,r8,y8,R,j4⟩ := c
   have j2:=I8.pinned (j j4) (T.obj _ _ R)
   obtain ⟨tp,w1,w2,ey,q4,N1,N2,q5,q1,k8⟩:=step y H8 y8
   have again:∀{Z:Hp} {S:Ah} {U:Nat},Inv X' ([]++Qe fp s8.heap) (some w1::some w2::Ey G P) Z S->U<n->W (i+1) U Z->∃m,m<n/\∃i o o2 f,Inv X' [] (o::o2::Ey G P) f S/\tn i S.heap/\(∀b∈fp,f b=none)/\W i m f:=λ{Z S U} I9 hm w9=>by
    refine ⟨U,hm,i+1,some w1,some w2,Z,I9.unpinned,T.keep _ _ _ R λb M o e=>(I9.pin (b,o) (Ag _ (Ag _ (Gr M e)))).1,λb M=>?_,w9⟩
    obtain ⟨o,e,_⟩:=T.obj _ _ R b M
    exact (I9.pin (b,o) (Ag _ (Ag _ (Gr M e)))).2.1
   subst B
   have g1:PG (Dh X a p (x::g::ys) fp s3 (upd O d.heap.objs.size (.lst []))) (.Tuple [.Name x px,.Name g D] kt pt) (BW X.K 2 (gW (Uu 0) (gW (Uu 1) Z6))) :=
    nO (X:=Dh X a p (x::g::ys) fp s3 (upd O d.heap.objs.size (.lst []))) hc (Qw (Ni (i:=0) (x:=x) k1 rfl (Pw C.own) (Ud C.own)) (Qw (Ni (i:=1) (x:=g) k1 rfl (Pw E) (Ud E)) eN))
   refine Gj (g1 _ s8 _ H8 y u (λq0 f=>q0=some w1::some w2::Ey G P/\f=H8) j2 r8 ⟨tp,[w1,w2],ey,q4,rfl,_,_,rfl,_,_,rfl,rfl,rfl,rfl⟩) λ_ S c => ?_
   obtain ⟨x5,Z,I9,e9,j1⟩ := c
   subst e9 j1
   refine Gj (ht fp s3 _ _ S _ _ _ I9 k8) λok j3 c => ?_
   obtain ⟨x0,k4,t⟩ := c
   cases ok with
   | false =>
    rw[if_neg Bk] at t ⊢
    obtain ⟨U,hm,q9⟩:=q5 _ t
    exact again k4 hm q9
   | true =>
    rw[if_pos rfl] at t ⊢
    refine Gj (he fp s3 _ _ j3 _ _ _ k4 t) λz j7 c => ?_
    obtain ⟨vz,h6,q3,q7,q6⟩ := c
    obtain ⟨Y,ha,hz,U,hm,j5⟩:=q1 _ _ q6
    refine Gj (Oe _ j7 _ h6 (.ref d.heap.objs.size) [vz] (.ref d.heap.objs.size) [z] (λ_ f=>f=upd h6 d.heap.objs.size (.lst (Y++[vz]))) q3 rfl (.cons q7 .nil) ⟨_,Y,vz,rfl,rfl,ha,hz,rfl⟩) λ_ x3 c => ?_
    obtain ⟨_,x4,j0,_,j9⟩ := c
    subst j9
    exact again j0 hm j5
 exact Pk (F _ rfl) (T.self X.A 0 _ _ _ h0 (F _ rfl))
end
section
variable{X:Cx}
theorem AH{B iter:Expr}{x L:Str}{px py pos P:Pos}{i0:Nat}{k:List Expr}{a:Scope}{V:List (Str×Addr)}(hN:X.N.Nodup)(x2:X.N[i0]? = some L)(k4:X.env.scope.names.lookup L=some .local)(C:CompScope X a V x ys R)(hc:X.calm=true)(hi:PI X (.Name x px) iter wi)(ht:∀fp s H,sY (Dh X a V (x::ys) fp s H) k tc)(he:∀fp s H,PE (Dh X a V (x::ys) fp s H) B te)(hs:∀x,Dd iter X.env x=pure x:=by intro _; rfl)(j3:Oy (.ListComp B [⟨.Name x px,iter,k,0⟩] a pos) (some (.Name L py)) P.line X.env=pure true:=by rfl):PS X (.Assign [.Name L py] (.ListComp B [⟨.Name x px,iter,k,0⟩] a pos) P) (AS (yG wi R tc te) (Uu i0)):=by
 intro d s j H De I h
 have h:yG wi R tc te j H λv H1=>De.nx (j.set i0 (some v)) H1:=h
 rw[exec_Assign_Name_used _ _ _ _ j3]
 refine Aa (Hx (Aa ?_))
 show wpAny _ X.A (do let _ <- comprehension (.ListComp B [⟨.Name x px,iter,k,0⟩] a pos) a X.env _ (newList []) false (eval iter X.env) (some (Pm (.Name L py) X.env))) _ _ s
 refine Aa (Da (Kh (use:=some (Pm (.Name L py) X.env)) (Q:=λ_ Y=>SP X d De .next Y) rfl hs C.clos C.kind C.locs (Gj (hi d s j H _ I h) λv s1 h1=>Gj h1 λx5 f h2=>?_)) (λ_ Y hq=>Ae (Ae hq)) λ_ _ e=>e)
 obtain ⟨it,fp,tn,J,H2,e,I2,T,j0,f2,q2⟩:=h2
 subst e
 have fD:H2 f.heap.objs.size=none:=I2.hok.fresh (Ak _)
 obtain ⟨W,⟨m0,w0⟩,k8⟩:=q2 f.heap.objs.size fD
 refine Cf ?_
 have I3:Inv X d j (upd H2 f.heap.objs.size (.lst [])) { f with heap:=f.heap.push { cls:=.type "list",dict:=none,data:=.seq ([]:List Value).toArray } } :=
  I2.laid (t':=f.toks) (λb u q=>Ai _ q) (Ak _) ⟨Dq _,[],0,.nil,Ap _ rfl⟩
 obtain ⟨f3,k6,j8⟩:=Wb I2 T j0 f2 I3
 generalize q0:({ f with heap:=f.heap.push { cls:=.type "list",dict:=none,data:=.seq ([]:List Value).toArray } }:Ah)=s3 at I3
 have Ua:tn 0 s3.heap:=by rw[<- q0]; exact k6
 have o3:∀b∈fp,∃o,s3.heap.get? b=some o:=by rw[<- q0]; exact j8
 show wpAny _ _ (Mt a X.env.globals V [] X.env.qual none .none (some X.env)) _ _ _
 refine Tf C λh4 q1 D h9=>?_
 have I4:∀tk,Inv (Dh X a V (x::ys) fp s3 (upd H2 f.heap.objs.size (.lst []))) [] (none::Ey j R) (upd H2 f.heap.objs.size (.lst [])) { s3 with heap:=h4,toks:=tk }:=λtk=>Qq (pre:=[x]) C I3 f3 o3 q1 D h9
 have h8:tn 0 h4:=T.keep 0 _ _ Ua λb l o q=>D b o q
 generalize F:Dh X a V (x::ys) fp s3 (upd H2 f.heap.objs.size (.lst []))=X' at I4
 obtain ⟨eP,eW,eK,eA,eC⟩:=Vj hc F
 have t:∀{g:Hp},(∀b∈fp,g b=none)->∀b∈fp,Mu X' [] g b:=λ{g} hn=>Tg F (I4 0) hn
 have S:∀s5:Ah,s5={ s3 with heap:=h4,toks:=s3.toks+([]:List (Str×Value)).length } ->
   Hy (model X.prog X.w) X.A (.compLoop (.ListComp B [⟨.Name x px,iter,k,0⟩] a pos) 0 (.ref it) (.ref f.heap.objs.size) (Xy a (Es (s3.heap.objs.size+1) a.names V) s3.heap.objs.size X.env))
    (compPost (model X.prog X.w) X.A X.xe (some (Pm (.Name L py) X.env)) (λ_ Y=>SP X d De .next Y) (.ref f.heap.objs.size) s3.heap.objs.size) s5:=by
  rintro s5 rfl
  refine Yp (λn Y=>∃i o g,Inv X' [] (o::Ey j R) g Y/\tn i Y.heap/\(∀b∈fp,g b=none)/\W i n g) ?_ m0
   ⟨0,none,_,I4 _,h8,λb l=>(f3 b l).1,w0⟩
  (intro n s6 q_; obtain ⟨i,o,H6,I6,k3,k2,w6⟩ := q_)
  rcases k8 i n H6 w6 with ⟨h5,qn⟩ | ⟨go,step⟩
  ·have hd:=T.done X' eP eW eK eC i [] s6 _ H6 (λ_ _=>False) I6 (t k2) k3 h5
   rw[eA] at hd
   refine Gj hd λr s7 c => ?_
   obtain ⟨hr,I7⟩ := c
   subst hr
   obtain ⟨⟨m7,O⟩,q3,J7⟩:=e7 F I3 f3 I7
   have fC:Mu X d H6 s3.heap.objs.size:=I3.fpOk (Ak _) q3
   obtain ⟨oC,x6,x7,k9,rC⟩:=id O
   have J8:Inv X (d++[(s3.heap.objs.size,oC)]) j H6 s7:=J7.pins_of λp hp=>by
    rcases Aw.mp hp with z | z
    ·have q:=J7.pin p (Ag _ z)
     exact q
    ·rw[Aj.mp z]
     exact ⟨k9,q3,fC.2.1,fC.2.2.1,λv hv=>by rw[rC.1] at hv; cases hv⟩
   refine Gj (Ni (X:=X) (i:=i0) (x:=L) (pos:=py) hN x2 (.inl k4) (.inr k4) (d++[(s3.heap.objs.size,oC)]) s7 j H6 (.ref f.heap.objs.size) (.ref f.heap.objs.size) (λU g=>U=j.set i0 (some (.ref f.heap.objs.size))/\g=H6) J8 rfl ⟨rfl,rfl⟩) λ_ K c => ?_
   obtain ⟨j9,M,G,e9,Z⟩ := c
   subst e9 Z
   have h3:=(G.pin (s3.heap.objs.size,oC) (Ag _ (Ag _ Ab))).1
   have x3:Inv X d (j.set i0 (some (.ref f.heap.objs.size))) M K:=G.pins_of λp hp=>G.pin p (Ag _ (Am _ hp))
   refine ⟨m7,O.at λo e=>by rw[k9] at e; cases e; exact h3,λy1 k0=>?_⟩
   exact ⟨_,M,Pu (t':=K.toks) (fp:=[s3.heap.objs.size]) x3 (λb o l e=>(k0.2 b (λz=>l (by rw[z]; exact Ab))).trans e) (λb l=>by rw[Aj.mp l]; exact fC),qn⟩
  ·have k5:=T.item X' eP eW eK eC i [] s6 _ H6 (λ_ _=>False) I6 (t k2) k3 go
   rw[eA] at k5
   refine Gj k5 λr s7 c => ?_
   obtain ⟨u,hr,h7⟩ := c
   subst hr
   refine Gj h7 λ_ s8 c => ?_
   obtain ⟨y,H8,I8,r8,y8,h0,j6⟩ := c
   have j4:=I8.pinned (t j6) (T.obj _ _ h0)
   obtain ⟨N1,N2,q7,q5,q4⟩:=step y H8 y8
   have again:∀{M:Hp} {K:Ah} {m':Nat},Inv X' ([]++Qe fp s8.heap) (some y::Ey j R) M K->m'<n->W (i+1) m' M->∃m,m<n/\∃i o g,Inv X' [] (o::Ey j R) g K/\tn i K.heap/\(∀b∈fp,g b=none)/\W i m g:=λ{M K m'} G hm w9=>by
    refine ⟨m',hm,i+1,some y,M,G.unpinned,T.keep _ _ _ h0 λb l o e=>(G.pin (b,o) (Ag _ (Ag _ (Gr l e)))).1,λb l=>?_,w9⟩
    obtain ⟨o,e,_⟩:=T.obj _ _ h0 b l
    exact (G.pin (b,o) (Ag _ (Ag _ (Gr l e)))).2.1
   subst F
   refine Gj (Ni (i:=0) (x:=x) (pos:=px) C.nd rfl (Pw C.own) (Ud C.own) _ s8 _ H8 y u (λU g=>U=some y::Ey j R/\g=H8) j4 r8 ⟨rfl,rfl⟩) λ_ K c => ?_
   obtain ⟨j9,M,G,e9,Z⟩ := c
   subst e9 Z
   refine Gj (ht fp s3 _ _ K _ _ _ G q4) λok j5 c => ?_
   obtain ⟨x4,k7,E⟩ := c
   cases ok with
   | false =>
    rw[if_neg Bk] at E ⊢
    obtain ⟨m',hm,j1⟩:=q7 _ E
    exact again k7 hm j1
   | true =>
    rw[if_pos rfl] at E ⊢
    refine Gj (he fp s3 _ _ j5 _ _ _ k7 E) λz x0 c => ?_
    obtain ⟨vz,k1,q6,q9,q8⟩ := c
    obtain ⟨h6,ha,hz,m',hm,j7⟩:=q5 _ _ q8
    refine Gj (Oe _ x0 _ k1 (.ref f.heap.objs.size) [vz] (.ref f.heap.objs.size) [z] (λ_ g=>g=upd k1 f.heap.objs.size (.lst (h6++[vz]))) q6 rfl (.cons q9 .nil) ⟨_,h6,vz,rfl,rfl,ha,hz,rfl⟩) λ_ x8 c => ?_
    obtain ⟨_,x9,j2,_,x1⟩ := c
    subst x1
    exact again j2 hm j7
 exact Pk (S _ rfl) (T.self X.A 0 _ _ _ h8 (S _ rfl))
end
end Nd
namespace Nd
open PySem L2
def EK(K:PySem.W.Frag):R2:=λx y H Q=>∃a b d c,x=.ref a/\y=.ref b/\Wt K H a d/\Wt K H b c/\d.length+c.length<=Au/\(d=[]->Q (.ref b) H)/\(c=[]->Q (.ref a) H)/\(∀p,H p=none->Q (.ref p) (upd H p (.tup (d++c))))
open PyProof.Rows in
theorem V3:aQ X (Kb .Add) (EK X.K):=by
 intro c s P H x y v u Q I w n h
 obtain ⟨a,b,t,M,rfl,rfl,r,l,O,S,N,E⟩:=h
 by_cases e:t=[]
 ·cases w
  cases n
  obtain ⟨f,z,G,_⟩:=I.tuple r
  obtain ⟨k,T,J,_⟩:=I.tuple l
  have d:f=[]:=z.nil_iff.mpr e
  subst d
  obtain ⟨⟨U,C,R,g⟩,p,j,B,d⟩:=id G
  obtain ⟨⟨V,D,A,i⟩,q,o,L,m⟩:=id J
  simp only at j d o m
  subst j d o m
  exact concat_meets ⟨_,p,rfl⟩ ⟨_,q,rfl⟩ oY seq_tuple_add PySem.F.slot_tuple_add PySem.F.entry_tuple_add (PySem.F.args_tuple_add_2 _ _)
   (tuple_addW0 a b _ _ B L C D g i rfl) ⟨p,q,⟨.ref b,H,I,rfl,S e⟩⟩
 ·exact Z0 c s P H (.ref a) (.ref b) v u Q I w n ⟨a,b,t,M,rfl,rfl,r,l,e,O,N,λ_=>E⟩
theorem bZ:∀{l:List Int},l.Nodup->l.Pairwise (·<=·)->l.Pairwise (· < ·)
 | [],_,_=>.nil
 | a::l,n,p=>by
  obtain ⟨d,g⟩:=Ay.mp p
  obtain ⟨f,e⟩:=Bx.mp n
  refine Ay.mpr ⟨λb c=>?_,bZ e g⟩
  have:=d b c
  have : a≠b:=λz=>f (by rw[z]; exact c)
  omega
end Nd
namespace Nd
open PySem PySem.Spec PyProof.Rows L2
end Nd
namespace Nd
open PySem L2
theorem compScope0(d:closureFor a X.env=pure [])(b:∀y∈a.names,y.2≠.cell)(kind:a.kind=.function)(locs:∀y∈a.names,y.2=.local->a.names.lookup y.1=some .local)(e:a.names.lookup x=some .local)(c:(a.names.all λy=>!(y.2 == Fd) || (([]:List (Str×Addr)).lookup y.1).isSome)=true):CompScope X a [] x [] [] :=
 ⟨d,.inl b,kind,locs,.inl e,λ_ _ h=>by simp at h,c,Bx.mpr ⟨Ba,Dx⟩,rfl,λk y j f _=>by simp at f⟩
theorem sz(h:n<=1000:=by first | decide | simp | (simp; omega)):n<=Au:=La (zX h)
end Nd
namespace Nd
open PySem PySem.Spec PyProof.Rows L2
theorem S9(xs:Array Value):((Bw xs.size).filterMap λ(k:Nat)=>xs[((xs.size:Int) - 1+(k:Int) * (-1)).toNat]?).toArray=xs.toList.reverse.toArray:=by
 congr 1
 have h:∀n,n<=xs.size->((Bw n).filterMap λ(k:Nat)=>xs[((xs.size:Int) - 1+(k:Int) * (-1)).toNat]?)=xs.toList.reverse.take n:=by
  intro n
  induction n with
  | zero=>intro _; simp
  | succ n a =>
   intro b
   rw[List.range_succ,List.filterMap_append,a (by omega)]
   have e:((xs.size:Int) - 1+(n:Int) * (-1)).toNat=xs.size - 1 - n:=by omega
   have lt:n<xs.toList.reverse.length:=by rw[Kc,An]; omega
   rw[List.take_add_one,Co lt]
   congr 1
   simp only[Kd,List.filterMap_nil,e]
   rw[Hg (by omega),List.getElem_reverse]
   simp
 have:=h xs.size (Ak _)
 rw[this]
 rw[Gw (by rw[Kc,An]; exact Ak _)]
theorem L9:∀{vs:List Value} {ns:List Int},Fm vs ns->Gn (ns.map V.int) vs
 | _,_,.nil=>.nil
 | _,_,.cons n t h=>.cons ⟨t,rfl⟩ (L9 h)
section
variable{X:Cx}
theorem B1(xs:Array Value):slicePick xs none none (some (-1))=xs.toList.reverse.toArray:=by
 rw[<- S9]
 unfold slicePick
 congr 1
 have a:sliceRange (Ll none none (some (-1)) xs.size).1 (Ll none none (some (-1)) xs.size).2.1 (Ll none none (some (-1)) xs.size).2.2=(Bw xs.size).map λ(k:Nat)=>((xs.size:Int) - 1+(k:Int) * (-1)).toNat:=by
  show sliceRange ((xs.size:Int) - 1) (-1) (-1)=_
  unfold sliceRange
  have c:(if (-1:Int) > 0 then (if (xs.size:Int) - 1 < -1 then (-1 - ((xs.size:Int) - 1) + -1 - 1) / -1 else 0) else (if (xs.size:Int) - 1 > -1 then ((xs.size:Int) - 1 - -1 - -1 - 1) / (- -1) else 0)).toNat=xs.size:=by
   rw[if_neg (by decide),show (- -1:Int)=1 from rfl,Int.ediv_one]
   split <;> omega
  dsimp only
  rw[c]
  refine Gy λk _=>?_
  congr 1
  omega
 rw[a,List.filterMap_map]
 rfl
end
end Nd
namespace NdS
open PySem
theorem sO{led plain:Bool}(h:Ko mask finger moves led plain c=some (t,order)):t.led=led/\t.mask=mask/\t.plain=plain/\t.dummies=#[]:=by
 unfold Ko at h
 cases b:Sd mask c with
 | none=>rw[b] at h; cases h
 | some a =>
  rw[b] at h
  cases h
  exact ⟨rfl,rfl,rfl,rfl⟩
def st(m i:Nat):Nat:=(i * 5+1) % m
def it(m:Nat):Nat->Nat->Nat
 | 0,i=>i
 | t+1,i=>it m t (st m i)
theorem lO(m:Nat):∀(a b i:Nat),it m (a+b) i=it m b (it m a i)
 | 0,b,i=>by rw[Os]; rfl
 | a+1,b,i=>by rw[Nat.add_right_comm]; exact lO m a b (st m i)
def NH(m:Nat):Nat->Nat->List Nat
 | 0,_=>[]
 | f+1,i=>i::NH m f (st m i)
theorem nS:∀{f i e:Nat},e∈NH m f i->∃t,t<f/\it m t i=e
 | 0,_,_,h=>by cases h
 | f+1,i,e,h=>by
  rcases Al.mp h with z | z
  ·exact ⟨0,Xj _,z.symm⟩
  ·obtain ⟨t,a,b⟩:=nS z
   exact ⟨t+1,Nat.succ_lt_succ a,b⟩
def Qm(m:Nat):Prop:=0<m/\it m m 0=0/\∀e,e<m->e∈NH m m 0
theorem Sw(h0:0<m)(h1:(it m m 0 == 0)=true)(b:((Bw m).all λe=>(NH m m 0).contains e)=true):Qm m :=
 ⟨h0,by simpa using h1,λe a=>by
  have:=List.all_eq_true.mp b e (Hs.mpr a)
  simpa using this⟩
theorem CY:Qm 8:=Sw (by decide) (by decide +kernel) (by decide +kernel)
theorem HC:Qm 16:=Sw (by decide) (by decide +kernel) (by decide +kernel)
theorem FS:Qm 32:=Sw (by decide) (by decide +kernel) (by decide +kernel)
theorem HS:Qm 64:=Sw (by decide) (by decide +kernel) (by decide +kernel)
theorem W4:Qm 128:=Sw (by decide) (by decide +kernel) (by decide +kernel)
theorem X5:Qm 256:=Sw (by decide) (by decide +kernel) (by decide +kernel)
theorem KP(g:Qm m)(l:i<m)(j:e<m):∃t,t<m/\it m t i=e:=by
 obtain ⟨o,k,f⟩:=g
 obtain ⟨a,n,h⟩:=nS (f i l)
 obtain ⟨b,p,d⟩:=nS (f e j)
 by_cases c:a<=b
 ·refine ⟨b - a,by omega,?_⟩
  rw[<- h,<- lO,Nat.add_sub_cancel' c]
  exact d
 ·refine ⟨b+m - a,by omega,?_⟩
  rw[<- h,<- lO,show a+(b+m - a)=m+b by omega,lO,k]
  exact d
def lp(m:Nat):Nat->Nat->Nat->Nat×Nat
 | 0,i,p=>(i,p)
 | t+1,i,p=>lp m t ((i * 5+1+p / 32) % m) (p / 32)
theorem E3(m:Nat):∀(a b i p:Nat),lp m (a+b) i p=lp m b (lp m a i p).1 (lp m a i p).2
 | 0,b,i,p=>by rw[Os]; rfl
 | a+1,b,i,p=>by rw[Nat.add_right_comm]; exact E3 m a b _ _
theorem wF(m:Nat):∀(t i:Nat),lp m t i 0=(it m t i,0)
 | 0,_=>rfl
 | t+1,i=>wF m t (st m i)
theorem rN:∀(n i p:Nat),p<32 ^ n->(lp m n i p).2=0
 | 0,i,p,h=>by show p=0; simpa using h
 | n+1,i,p,h=>rN n _ _ (by rw[Nat.pow_succ] at h; exact Nat.div_lt_of_lt_mul (by omega))
theorem EE(h0:0<m):∀(n i p:Nat),i<m->(lp m n i p).1<m
 | 0,i,p,h=>h
 | n+1,i,p,h=>EE h0 n _ _ (Xk _ h0)
theorem sC(g:Qm m)(c:i<m)(f:p<2 ^ 64)(b:e<m):∃t,t<m+14/\(lp m t i p).1=e:=by
 have a:=rN (m:=m) 13 i p (Cb f (by decide))
 obtain ⟨t,h,d⟩:=KP g (EE g.1 13 i p c) b
 refine ⟨13+t,by omega,?_⟩
 rw[E3,a,wF]
 exact d
theorem bL(mask i:Nat):i<=Jd mask i:=by unfold Jd; split <;> omega
theorem jR:∀(fuel i p t:Nat),t<fuel->(owner.getD (lp (mask+1) t i p).1 (some 0)).isNone=true->∃j,Lv mask owner fuel i p=some j/\(owner.getD j (some 0)).isNone=true
 | 0,_,_,_,h,_=>absurd h (Ld _)
 | fuel+1,i,p,t,h,hn=>by
  unfold Lv
  split
  ·rename_i k a
   exact ⟨i+k,rfl,by have:=List.find?_some a; exact this⟩
  ·rename_i a
   rw[List.find?_eq_none] at a
   cases t with
   | zero =>
    have:=a 0 (Hs.mpr (by have:=bL mask i; omega))
    exact absurd hn (by simpa [lp] using this)
   | succ t =>
    exact jR fuel _ _ t (by omega) hn
theorem Yo{L:List (Option Nat)}:∀{j x:Nat},L[j]? = some none->((L.set j (some x)).filterMap id).Perm (x::L.filterMap id):=by
 induction L with
 | nil=>intro j x h; simp at h
 | cons a L d =>
  intro j x h
  cases j with
  | zero =>
   simp at h
   subst h
   simp
  | succ j =>
   have c:L[j]? = some none:=by simpa using h
   have:=d (x:=x) c
   cases a with
   | none=>simpa using this
   | some b=>simpa using (Jt b this).trans (Ef x b _)
theorem u4{L:List (Option Nat)}:(L.filterMap id).length<L.length->∃j:Nat,L[j]? = some none:=by
 induction L with
 | nil=>intro h; simp at h
 | cons a L d =>
  intro h
  cases a with
  | none=>exact ⟨0,rfl⟩
  | some b =>
   have : (L.filterMap id).length<L.length:=by simpa using h
   obtain ⟨j,c⟩:=d this
   exact ⟨j+1,by simpa using c⟩
theorem wX(h:Int):Dl h<2 ^ 64:=by
 unfold Dl
 have a:=Int.emod_nonneg h (show (2 ^ 64:Int)≠0 by decide)
 have b:=Int.emod_lt_of_pos h (show (0:Int)<2 ^ 64 by decide)
 omega
def IJ(mask:Nat)(a:Option (Array (Option Nat)×Nat))(h:Int):Option (Array (Option Nat)×Nat):=do
 let (owner,k) <- a
 let j <- Lv mask owner (Ij mask) (Dl h % (mask+1)) (Dl h)
 pure (owner.setIfInBounds j (some k),k+1)
theorem rO(g:Qm (mask+1)):∀(b:List Int) (owner:Array (Option Nat)) (n:Nat),owner.size=mask+1->(owner.toList.filterMap id).Perm (Bw n)->n+b.length<=mask->∃a:Array (Option Nat),b.foldl (IJ mask) (some (owner,n))=some (a,n+b.length)/\a.size=mask+1/\(a.toList.filterMap id).Perm (Bw (n+b.length))
 | [],owner,n,h1,h2,_=>⟨owner,rfl,h1,h2⟩
 | h::b,owner,n,h1,h2,h3=>by
  rw[Bh] at h3
  have len:(owner.toList.filterMap id).length=n:=by rw[h2.length_eq,Cu]
  obtain ⟨e,k⟩:=u4 (L:=owner.toList) (by rw[len,An]; omega)
  have f:e<mask+1:=by
   have:=(Bb.mp k).1
   rw[An] at this
   omega
  obtain ⟨t,z,u⟩:=sC g (i:=Dl h % (mask+1)) (p:=Dl h) (e:=e) (Xk _ g.1) (wX h) f
  have l:(owner.getD (lp (mask+1) t (Dl h % (mask+1)) (Dl h)).1 (some 0)).isNone=true:=by
   rw[u,Dc,<- Gd,k]
   rfl
  obtain ⟨j,m,c⟩:=jR (mask:=mask) (owner:=owner) (Ij mask) _ _ t (by unfold Ij; omega) l
  have d:owner.toList[j]? = some none:=by
   rw[Dc,<- Gd] at c
   cases q:owner.toList[j]? with
   | none=>rw[q] at c; simp at c
   | some v =>
    rw[q] at c
    cases v with
    | none=>rfl
    | some v=>simp at c
  have s:IJ mask (some (owner,n)) h=some (owner.setIfInBounds j (some n),n+1):=by
   show (do
    let j <- Lv mask owner (Ij mask) (Dl h % (mask+1)) (Dl h)
    pure (owner.setIfInBounds j (some n),n+1))=_
   rw[m]
   rfl
  rw[List.foldl_cons,s]
  have y:((owner.setIfInBounds j (some n)).toList.filterMap id).Perm (Bw (n+1)):=by
   rw[lJ]
   refine (Yo d).trans ?_
   rw[List.range_succ]
   exact (Jt n h2).trans (Dy (l₁:=[n]) (l₂:=Bw n))
  obtain ⟨w,x,o,r⟩:=rO g b (owner.setIfInBounds j (some n)) (n+1) (by rw[Tu]; exact h1) y (by omega)
  refine ⟨w,?_,o,?_⟩
  ·rw[x,Bh]
   congr 2
   omega
  ·rw[Bh,show n+(b.length+1)=n+1+b.length by omega]
   exact r
theorem sF(g:Qm (mask+1))(a:Array Int)(hl:a.size<=mask):∃owner:Array (Option Nat),Sd mask a=some owner/\owner.size=mask+1/\(owner.toList.filterMap id).Perm (Bw a.size):=by
 have d:((Array.replicate (mask+1) (none:Option Nat)).toList.filterMap id).Perm (Bw 0):=by
  rw[Array.toList_replicate]
  simp
 obtain ⟨o,b,e,c⟩:=rO g a.toList (Array.replicate (mask+1) none) 0 (by simp) d (by simpa using hl)
 rw[An,Os] at b c
 refine ⟨o,?_,e,c⟩
 unfold Sd
 rw[<- Array.foldl_toList]
 show (a.toList.foldl (IJ mask) (some (Array.replicate (mask+1) none,0))).map (·.1)=some o
 rw[b]
 rfl
theorem tO(owner:Array (Option Nat)):((Bw owner.size).filterMap λj=>(owner.getD j none).map λx=>(j,x)).map (·.2)=owner.toList.filterMap id:=by
 obtain ⟨L⟩:=owner
 simp only[Av]
 have h:∀(L:List (Option Nat)) (c:List (Option Nat)),((List.range' c.length L.length).filterMap λj=>(((c++L)[j]?).getD none).map λx=>(j,x)).map (·.2)=L.filterMap id:=by
  intro L
  induction L with
  | nil=>intro c; rfl
  | cons a L f =>
   intro c
   rw[Bh,List.range'_succ,Kd]
   have e:((c++a::L)[c.length]?).getD none=a:=by simp
   have d:=f (c++[a])
   rw[Bm,Fi,Br,List.singleton_append] at d
   cases a with
   | none =>
    simp only[e,Option.map_none,List.filterMap_cons_none,id]
    exact d
   | some b =>
    simp only[e,Option.map_some,Aq,List.filterMap_cons_some,id]
    rw[d]
    simp
 have:=h L []
 rw[Jl,<- List.range_eq_range',List.nil_append] at this
 rw[<- this]
 congr 1
 congr 1
 funext j
 rw[Dc]
 simp
theorem W7{led plain:Bool}(g:Qm (mask+1))(a:Array Int)(hl:a.size<=mask):∃(t:Cr) (order:Array Nat),Ko mask finger moves led plain a=some (t,order)/\order.toList.Perm (Bw a.size)/\t.fits a.size=true/\t.led=led:=by
 obtain ⟨o,c,d,b⟩:=sF g a hl
 have e:Ko mask finger moves led plain a=some ({ mask:=mask,place:=(((Bw (mask+1)).filterMap λj=>(o.getD j none).map λx=>(j,x)).map (·.1)).toArray,dummies:=#[],finger:=finger,led:=led,moves:=moves,plain:=plain },
   (((Bw (mask+1)).filterMap λj=>(o.getD j none).map λx=>(j,x)).map (·.2)).toArray):=by
  unfold Ko
  rw[c]
  rfl
 have lo:=tO o
 rw[d] at lo
 have len:((Bw (mask+1)).filterMap λj=>(o.getD j none).map λx=>(j,x)).length=a.size:=by
  have:=congrArg Fh lo
  rw[Ad,b.length_eq,Cu] at this
  exact this
 refine ⟨_,_,e,by rw[List.toList_toArray,lo]; exact b,?_,rfl⟩
 simp only[SetTable.fits,Si,Av,Ad,len,En,beq_self_eq_true,true_and,decide_eq_true_eq]
 show a.size+0<=mask
 omega
theorem vE{a:Type}(es:Array a){order:Array Nat}(p:order.toList.Perm (Bw es.size)):(order.filterMap (es[·]?)).toList.Perm es.toList/\(order.filterMap (es[·]?)).size=es.size:=by
 have e:(order.filterMap (es[·]?)).toList.Perm es.toList:=by
  rw[Array.toList_filterMap]
  have:=p.filterMap (es[·]?)
  rw[filterMap_getElem?_range] at this
  exact this
 exact ⟨e,by rw[<- An,e.length_eq,An]⟩
theorem Vt(h:n<256):∃m,Dv n=m+1/\Qm (m+1)/\n<=m:=by
 have a:∀k:Fin 256,(Dv k.1 == 8 && decide (k.1<8)) || (Dv k.1 == 16 && decide (k.1<16)) || (Dv k.1 == 32 && decide (k.1<32)) || (Dv k.1 == 64 && decide (k.1<64)) || (Dv k.1 == 128 && decide (k.1<128)) || (Dv k.1 == 256 && decide (k.1<256))=true:=by decide +kernel
 have q:=a ⟨n,h⟩
 simp only[Bool.or_eq_true,En,beq_iff_eq,decide_eq_true_eq] at q
 rcases q with ((((q | q) | q) | q) | q) | q
 ·exact ⟨7,q.1,CY,by omega⟩
 ·exact ⟨15,q.1,HC,by omega⟩
 ·exact ⟨31,q.1,FS,by omega⟩
 ·exact ⟨63,q.1,HS,by omega⟩
 ·exact ⟨127,q.1,W4,by omega⟩
 ·exact ⟨255,q.1,X5,by omega⟩
abbrev nX(p:Array Nat):Prop:=p.toList.Pairwise (· < ·)
theorem Xf(r:nX p)(h:i<j)(a:j<p.size):p[i]'(by omega)<p[j]:=by
 have:=Mj.mp r i j (by rw[An]; omega) (by rw[An]; exact a) h
 simpa using this
structure Below(p:Array Nat)(j b:Nat):Prop where
 le:b<=p.size
 lo:∀i (h:i<p.size),i<b->p[i]<j
 hi:∀i (h:i<p.size),b<=i->j<=p[i]
theorem iA(r:nX p):∀(fuel lo a:Nat),a<=p.size->lo<=a->a - lo<=fuel->(∀i (h:i<p.size),i<lo->p[i]<j)->(∀i (h:i<p.size),a<=i->j<=p[i])->Below p j (Wk p j fuel lo a)
 | 0,lo,a,h1,h2,h3,h4,h5=>by
  unfold Wk
  have e:lo=a:=by omega
  exact ⟨by omega,λi h b=>h4 i h b,λi h b=>h5 i h (by omega)⟩
 | fuel+1,lo,a,h1,h2,h3,h4,h5=>by
  unfold Wk
  split
  ·rename_i b
   have f:(lo+a) / 2<p.size:=by omega
   have e:p.getD ((lo+a) / 2) j=p[(lo+a) / 2]:=by simp [Array.getD,f]
   dsimp only
   rw[e]
   split
   ·rename_i c
    refine iA r fuel _ a h1 (by omega) (by omega) (λi h d=>?_) h5
    by_cases z:i=(lo+a) / 2
    ·subst z; exact c
    ·exact Xl (Xf r (show i<(lo+a) / 2 by omega) f) c
   ·rename_i c
    refine iA r fuel lo _ (by omega) (by omega) (by omega) h4 (λi h d=>?_)
    by_cases z:i=(lo+a) / 2
    ·subst z; omega
    ·exact Ca (by omega) (La (Xf r (show (lo+a) / 2<i by omega) h))
  ·exact ⟨by omega,λi h b=>h4 i h b,λi h b=>h5 i h (by omega)⟩
theorem Zl(r:nX p)(j:Nat):Below p j (Cs p j) :=
 iA r _ _ _ (Ak _) (Dq _) (by omega) (λi h a=>absurd a (Ld _)) (λi h a=>absurd a (by omega))
theorem Below.eq(x:Below p j b)(y:Below p j a):b=a:=by
 rcases Nat.lt_trichotomy b a with z | z | z
 ·have h:b<p.size:=Cb z y.le
  exact absurd (y.lo b h z) (Nat.not_lt.mpr (x.hi b h (Ak _)))
 ·exact z
 ·have h:a<p.size:=Cb z x.le
  exact absurd (x.lo a h z) (Nat.not_lt.mpr (y.hi a h (Ak _)))
theorem qF(r:nX p):Cs p 0=0 :=
 (Zl r 0).eq ⟨Dq _,λi h a=>absurd a (Ld _),λi h _=>Dq _⟩
theorem tE(r:nX p)(h:i<p.size):Cs p (p[i]+1)=i+1 :=
 (Zl r _).eq ⟨h,λk a b=>by
  by_cases z:k=i
  ·subst z; exact Vh _
  ·exact Gb (Xf r (show k<i by omega) h),λk a b=>Xf r (show i<k by omega) a⟩
structure TabOk(n:Nat)(t:Cr):Prop where
 good:Qm (t.mask+1)
 dum:t.dummies=#[]
 plain:t.plain=true
 rise:nX t.place
 top:∀j∈t.place.toList,j<=t.mask
 size:t.place.size=n
structure Tab(n:Nat)(t:Cr):Prop extends TabOk n t where
 room:n * 5<t.mask * 3
theorem oS(x:Tab n t):n+1<=t.mask:=by have:=x.room; omega
theorem TabOk.fits(x:TabOk n t)(h:n<=t.mask):t.fits n=true:=by
 simp only[SetTable.fits,Si,x.dum,x.size,En,beq_self_eq_true,true_and,decide_eq_true_eq]
 show n+0<=t.mask
 omega
theorem Tab.fits(x:Tab n t):t.fits n=true:=x.toTabOk.fits (by have:=oS x; omega)
theorem Ye(x:TabOk n t):t.slot j=.empty↔j∉t.place.toList:=by
 have m:SetTable.has t.dummies j=false:=by rw[x.dum]; rfl
 unfold SetTable.slot
 dsimp only
 rw[m]
 constructor
 ·intro h g
  obtain ⟨i,c,e⟩:=Ht.mp g
  rw[An] at c
  have a:t.place[i]=j:=by simpa using e
  have b:Cs t.place j=i:=(Zl x.rise j).eq ⟨La c,λk f d=>by rw[<- a]; exact Xf x.rise d c,λk f d=>by
   by_cases z:i=k
   ·subst z; exact Nat.le_of_eq a.symm
   ·rw[<- a]; exact La (Xf x.rise (show i<k by omega) f)⟩
  rw[b,Hg c,a,if_pos (by simp)] at h
  cases h
 ·intro h
  rw[if_neg (λz=>h ?_)]
  ·rfl
  ·have l:t.place[Cs t.place j]? = some j:=by simpa using z
   have:=Array.mem_of_getElem? l
   exact Array.mem_def.mp this
theorem fL(x:TabOk n t):t.slot j≠.dummy:=by
 have a:SetTable.has t.dummies j=false:=by rw[x.dum]; rfl
 unfold SetTable.slot
 dsimp only
 rw[a]
 split
 ·intro h; cases h
 ·intro h; cases h
theorem kI(h:i<=mask):Jd mask i<=mask:=by unfold Jd; split <;> omega
theorem Ws(mask i:Nat):Jd mask i - i<=9:=by unfold Jd; split <;> omega
theorem V8(mask i p:Nat):SetTable.leap mask i p=((i * 5+1+p / 32) % (mask+1),p / 32):=rfl
theorem gG(x:TabOk n t):∀(fuel u:Nat) (p:SetTable.Probe),p.more<=9->p.j+p.more<=t.mask->p.dummy=none->p.more+2+10 * u<=fuel->t.slot (lp (t.mask+1) (u+1) p.i p.perturb).1=.empty->∃j,Pn t (λ_=>h+1) h fuel p=some (.empty j none)/\t.slot j=.empty/\j<=t.mask
 | 0,u,p,_,_,_,h3,_=>absurd h3 (by omega)
 | fuel+1,u,p,h1,h2,hd,h3,h4=>by
  unfold Pn
  split
  ·rename_i b
   exact ⟨p.j,by rw[hd],b,by omega⟩
  ·rename_i b
   exact absurd b (fL x)
  ·rw[if_neg (by simp; omega)]
   unfold SetTable.advance
   split
   ·rename_i d
    exact gG x fuel u _ (by dsimp only; omega) (by dsimp only; omega) hd (by dsimp only; omega) h4
   ·rename_i d
    rw[V8]
    dsimp only
    have c:(p.i * 5+1+p.perturb / 32) % (t.mask+1)<=t.mask:=lG.mp (Xk _ (Xj _))
    cases u with
    | zero =>
     cases fuel with
     | zero=>omega
     | succ fuel =>
      unfold Pn
      dsimp only
      have a:t.slot ((p.i * 5+1+p.perturb / 32) % (t.mask+1))=.empty:=h4
      rw[a]
      exact ⟨_,by rw[hd],a,c⟩
    | succ u =>
     refine gG x fuel u _ (Ws _ _) ?_ hd ?_ h4
     ·dsimp only
      have:=kI c
      have:=bL t.mask ((p.i * 5+1+p.perturb / 32) % (t.mask+1))
      omega
     ·dsimp only
      have:=Ws t.mask ((p.i * 5+1+p.perturb / 32) % (t.mask+1))
      omega
theorem U5:∀{l1 l2:List Nat},l1.Nodup->(∀e∈l1,e∈l2)->l1.length<=l2.length
 | [],_,_,_=>Dq _
 | a::l1,l2,nd,h=>by
  have b:=Bx.mp nd
  have d:=h a (Ab ..)
  have:=U5 (l2:=l2.erase a) b.2 λe c=>(List.mem_erase_of_ne (show e≠a from λz=>b.1 (by rw[<- z]; exact c))).mpr (h e (Ac _ c))
  rw[sX d] at this
  have p:0<l2.length:=vX d
  rw[Bh]
  omega
theorem CI{l:List Nat}(b:l.Pairwise (· < ·))(h:l.length<m):∃e,e<m/\e∉l:=by
 refine Rk λz=>?_
 have all:∀e,e∈Bw m->e∈l:=λe a=>Rk λq=>z ⟨e,Hs.mp a,q⟩
 have:=U5 List.nodup_range all
 rw[Cu] at this
 omega
theorem pH(x:Tab n t)(h:Int):∃j,t.freeSlot h=some (j,false)/\j∉t.place.toList/\j<=t.mask:=by
 have v:=oS x
 obtain ⟨e,k,c⟩:=CI (m:=t.mask+1) x.rise (by rw[An,x.size]; omega)
 obtain ⟨u,w,d⟩:=sC x.good (i:=Dl h % (t.mask+1)) (p:=Dl h) (e:=e) (Xk _ (Xj _)) (wX h) k
 have g:Dl h % (t.mask+1)<=t.mask:=lG.mp (Xk _ (Xj _))
 have b:∃j,t.probe (λ_=>h+1) h (t.probeStart h)=some (.empty j none)/\t.slot j=.empty/\j<=t.mask:=by
  unfold SetTable.probe
  cases u with
  | zero =>
   have s:t.slot (Dl h % (t.mask+1))=.empty:=(Ye x.toTabOk).mpr (by rw[show Dl h % (t.mask+1)=e from d]; exact c)
   obtain ⟨f,q⟩ : ∃f,10 * Ij t.mask=f+1:=⟨10 * Ij t.mask - 1,by unfold Ij; omega⟩
   rw[q]
   unfold Pn
   have a:t.slot (t.probeStart h).j=.empty:=s
   rw[a]
   exact ⟨_,rfl,a,g⟩
  | succ u =>
   refine gG x.toTabOk _ u (t.probeStart h) (Ws _ _) ?_ rfl ?_ ?_
   ·have:=kI g
    have:=bL t.mask (Dl h % (t.mask+1))
    show Dl h % (t.mask+1)+(Jd t.mask (Dl h % (t.mask+1)) - Dl h % (t.mask+1))<=t.mask
    omega
   ·have:=Ws t.mask (Dl h % (t.mask+1))
    show Jd t.mask (Dl h % (t.mask+1)) - Dl h % (t.mask+1)+2+10 * u<=10 * Ij t.mask
    unfold Ij
    omega
   ·exact (Ye x.toTabOk).mpr (by rw[show (lp (t.mask+1) (u+1) (t.probeStart h).i (t.probeStart h).perturb).1=e from d]; exact c)
 obtain ⟨j,o,r,l⟩:=b
 refine ⟨j,?_,(Ye x.toTabOk).mp r,l⟩
 unfold SetTable.freeSlot
 rw[o]
 rfl
theorem sQ(r:nX p)(h:j∉p.toList):nX (Ho p (Cs p j) j):=by
  have b:=Zl r j
  show (Ho p (Cs p j) j).toList.Pairwise (· < ·)
  rw[SetTable.toList_insertAt]
  have n:(p.toList.take (Cs p j)).Pairwise (· < ·):=r.sublist (Jp _ _)
  have m:(p.toList.drop (Cs p j)).Pairwise (· < ·):=r.sublist (Jr _ _)
  have lo:∀e∈p.toList.take (Cs p j),e<j:=λe k=>by
    obtain ⟨i,d,l⟩:=List.mem_take_iff_getElem.mp k
    rw[An] at d
    have:=b.lo i (by omega) (by omega)
    rw[<- l]
    simpa using this
  have d:∀e∈p.toList.drop (Cs p j),j<e:=λe k=>by
    have o:e∈p.toList:=List.mem_of_mem_drop k
    obtain ⟨i,d,l⟩:=List.mem_drop_iff_getElem.mp k
    rw[An] at d
    have:=b.hi (i+Cs p j) (by omega) (by omega)
    have q:j<=e:=by
      rw[<- l]
      simpa [Nat.add_comm] using this
    exact Nat.lt_of_le_of_ne q λz=>h (by rw[z]; exact o)
  simp only[List.pairwise_append,List.pairwise_cons,Al,Aw]
  first
    | exact ⟨n,⟨d,m⟩,λa g c f=>by
        rcases f with z | z
        · rw[z]; exact lo a g
        · exact Xl (lo a g) (d c z)⟩
    | (refine ⟨⟨n,⟨by simp,Ds⟩,λa g c f=>?_⟩,m,λa g c f=>?_⟩
       · have z:c=j:=by simpa using f
         rw[z]; exact lo a g
       · rcases g with z | z | z
         · exact Xl (lo a z) (d c f)
         · rw[z]; exact d c f
         · cases z)
theorem FU(x:Tab es.size t)(h:Int)(v:Value):∃(a:Array (Int×Value)) (c:Cr),layNew t es h v=(a,c,false,false)/\a.toList.Perm (es.toList++[(h,v)])/\a.size=es.size+1/\TabOk a.size c/\c.mask=t.mask/\c.led=t.led:=by
 obtain ⟨j,k,l,i⟩:=pH x h
 have n:=oS x
 have perm:=oV es (Cs t.place j) (h,v)
 rw[Jo] at perm
 have size:(Ho es (Cs t.place j) (h,v)).size=es.size+1:=by
  rw[<- An,perm.length_eq,Bm,An]
  rfl
 have d:=oV t.place (Cs t.place j) j
 rw[Jo] at d
 have b:(Ho t.place (Cs t.place j) j).size=es.size+1:=by
  rw[<- An,d.length_eq,Bm,An,x.size]
  rfl
 have m:SetTable.has t.dummies j=false:=by rw[x.dum]; rfl
 have ok:TabOk (es.size+1) { t with place:=Ho t.place (Cs t.place j) j } :=
  ⟨x.good,x.dum,x.plain,sQ x.rise l,λe g=>by
   rcases Aw.mp (d.mem_iff.mp g) with z | z
   ·exact x.top e z
   ·rw[Aj.mp z]; exact i,b⟩
 refine ⟨_,{ t with place:=Ho t.place (Cs t.place j) j },?_,perm,size,by rw[size]; exact ok,rfl,rfl⟩
 have f:({ t with place:=Ho t.place (Cs t.place j) j }:Cr).fits (Ho es (Cs t.place j) (h,v)).size=true:=by
  rw[size]
  exact ok.fits (by omega)
 unfold layNew
 rw[k]
 simp only[SetTable.put,m,Bt,if_false,SetTable.orStandIn,f,if_true,Us]
theorem p9{led plain:Bool}(h:Ko mask finger moves led plain r=some (t,order)):nX t.place/\(∀j∈t.place.toList,j<=mask):=by
 unfold Ko at h
 cases i:Sd mask r with
 | none=>rw[i] at h; cases h
 | some b =>
  rw[i] at h
  cases h
  have sub:∀(l:List Nat),l.Pairwise (· < ·)->(((l.filterMap λj=>(b.getD j none).map λx=>(j,x)).map (·.1)).Pairwise (· < ·))/\∀j∈((l.filterMap λj=>(b.getD j none).map λx=>(j,x)).map (·.1)),j∈l:=by
   intro l i
   have m:∀j∈((l.filterMap λj=>(b.getD j none).map λx=>(j,x)).map (·.1)),j∈l:=λj f=>by
    obtain ⟨q,o,rfl⟩:=Cm.mp f
    obtain ⟨k,p,c⟩:=cG.mp o
    cases n:b.getD k none with
    | none=>rw[n] at c; cases c
    | some v=>rw[n] at c; cases c; exact p
   refine ⟨?_,m⟩
   clear m
   induction l with
   | nil=>exact Ds
   | cons a l s =>
    have e:=Ay.mp i
    have g:=s e.2
    rw[Kd]
    cases n:b.getD a none with
    | none=>simpa [n] using g
    | some v =>
     simp only[Option.map_some,Aq,List.pairwise_cons]
     refine ⟨λj f=>?_,g⟩
     obtain ⟨q,o,rfl⟩:=Cm.mp f
     obtain ⟨k,p,c⟩:=cG.mp o
     cases d:b.getD k none with
     | none=>rw[d] at c; cases c
     | some y=>rw[d] at c; cases c; exact e.1 k p
  obtain ⟨u,w⟩:=sub (Bw (mask+1)) List.pairwise_lt_range
  exact ⟨u,λj f=>lG.mp (Hs.mp (w j f))⟩
theorem pG(g:Qm (mask+1))(a:Array Int)(hl:a.size * 5<mask * 3):∃(t:Cr) (order:Array Nat),Ko mask finger moves led true a=some (t,order)/\order.toList.Perm (Bw a.size)/\Tab a.size t/\t.led=led:=by
 obtain ⟨t,order,b,i,f,l⟩:=W7 (finger:=finger) (moves:=moves) (led:=led) (plain:=true) g a (by omega)
 obtain ⟨j,c,k,h⟩:=sO b
 obtain ⟨e,d⟩:=p9 b
 have sz:t.place.size=a.size:=by
  have:=f
  simp only[SetTable.fits,En,beq_iff_eq] at this
  exact this.1
 exact ⟨t,order,b,i,⟨⟨by rw[c]; exact g,h,k,e,by rw[c]; exact d,sz⟩,by rw[c]; exact hl⟩,j⟩
theorem qU{t:Cr}{es:Array (Int×Value)}(h:t.plain=true)(hw:wanted<256)(l:es.size * 2<=wanted):∃(t':Cr) (order:Array Nat),t.relaid (es.map (·.1)) wanted=some (t',order)/\order.toList.Perm (Bw es.size)/\Tab es.size t'/\t'.led=t.led:=by
 obtain ⟨m,e,g,j⟩:=Vt hw
 have sz:(es.map (·.1)).size=es.size:=Yb ..
 have i:7<=m:=by
  have : 8<=Dv wanted:=by
   have a:∀k:Fin 256,decide (8<=Dv k.1)=true:=by decide +kernel
   exact of_decide_eq_true (a ⟨wanted,hw⟩)
  omega
 obtain ⟨t',order,f,b,c,d⟩:=pG (mask:=m) (finger:=t.finger) (moves:=t.movedTo m) (led:=t.led) g (es.map (·.1)) (by rw[sz]; omega)
 rw[sz] at b c
 refine ⟨t',order,?_,b,c,d⟩
 unfold SetTable.relaid
 rw[e,Nat.add_sub_cancel,h]
 exact f
theorem pP(k:t.plain=true)(l:es.size<64):∃(a:Array (Int×Value)) (t':Cr),relayAll t es (SetTable.grown es.size)=(a,t',false)/\a.toList.Perm es.toList/\a.size=es.size/\Tab a.size t'/\t'.led=t.led:=by
 have h:SetTable.grown es.size=es.size * 4:=by unfold SetTable.grown; rw[if_neg (by omega)]
 obtain ⟨t',order,i,d,e,g⟩:=qU (t:=t) (es:=es) (wanted:=es.size * 4) k (by omega) (by omega)
 obtain ⟨j,b⟩:=vE es d
 refine ⟨order.filterMap (es[·]?),t',?_,j,b,by rw[b]; exact e,g⟩
 unfold relayAll
 rw[h,i]
 dsimp only
 have c:coversAll order es.size=true:=by
  unfold coversAll
  exact List.isPerm_iff.mpr d
 have f:t'.fits (order.filterMap (es[·]?)).size=true:=by rw[b]; exact e.fits
 rw[c,f]
 rfl
abbrev bt(w:World):Bool:=w.params.followText "set-order"
def Ou:Int×Value->Int
 | (_,.int k _)=>k
 | _=>0
def Zw(e:Int×Value):Prop:=∃k a,e=(hashInt k,Lz k a)
abbrev keys(es:Array (Int×Value)):List Int:=es.toList.map Ou
abbrev Lx(es:Array (Int×Value))(ep:Nat)(t:Cr):Obj:={ cls:=.type "set",dict:=none,data:=.set es ep t }
structure SetS(w:World)(h:Heap)(a:Addr)(es:Array (Int×Value))(ep:Nat)(t:Cr):Prop where
 obj:h.get? a=some (Lx es ep t)
 ent:∀e∈es.toList,Zw e
 nd:(keys es).Nodup
 tab:Tab es.size t
 led:bt w=false->t.led=true
 few:es.size<64
theorem SetS.keep(S:SetS w h a es ep t)(k:∀o,h.get? a=some o->h'.get? a=some o):SetS w h' a es ep t :=
 ⟨k _ S.obj,S.ent,S.nd,S.tab,S.led,S.few⟩
def ins(k:Int)(l:List Int):List Int:=if k∈l then l else k::l
theorem DJ(S:SetS w h a es ep t):ElemsOf (Yz prog w) es.toList:=λe b=>by
 obtain ⟨k,c,rfl⟩:=S.ent e b
 exact ⟨⟨k,intKind_is _ _ _ _,rfl⟩,rfl⟩
theorem P4(h:Zw e)(k:Int):(Yz prog w).is k e.2=true↔Ou e=k:=by
 obtain ⟨a,b,rfl⟩:=h
 show Value.isInt k (.int a b)=true↔a=k
 simp [Value.isInt]
 try exact eq_comm
theorem small(h:n<64):n<=Au:=by rw[Gs]; omega
theorem xD(a:Array (Int×Value))(t':Cr):Obj.putSet a t' (Lx es ep t)=Lx a (ep+1) t':=putSet_of a t' rfl
theorem eO{h:Heap}(c:h.get? a=some (Lx es ep t))(b:Array (Int×Value))(t':Cr):(h.update a (Obj.putSet b t')).get? a=some (Lx b (ep+1) t'):=by
 have:=Fj (Obj.putSet b t') c (by rw[xD]; rfl)
 rw[xD] at this
 exact this
section
variable{prog:Bn}{w:World}{A:Ck}{E:Value->Ah->Prop}{s:Ah}
theorem Hw(S:SetS w s.heap a es ep t)(h:Q (es,ep,t) s):wpAny (model prog w) A (setState a) Q E s :=
 wpAny_setState_of S.obj rfl S.tab.fits h
theorem cA(S:SetS w s.heap a es ep t)(f:∀e∈b.toList,Zw e)(g:(keys b).Nodup)(d:Tab b.size t')(led:bt w=false->t'.led=true)(c:b.size<64)(h:∀h',Cw a s.heap h'->SetS w h' a b (ep+1) t'->Q () { s with heap:=h' }):wpAny (model prog w) A (storeSet a b t') Q E s :=
 Wh S.obj rfl (h _ (Bs ..) ⟨eO S.obj b t',f,g,d,led,c⟩) (small c)
theorem kU(c:∀e∈es.toList,Zw e):es.toList.findIdx? (λe=>(Yz prog w).is k e.2)=none↔k∉keys es:=by
 rw[List.findIdx?_eq_none_iff]
 constructor
 ·intro h b
  obtain ⟨e,a,rfl⟩:=Cm.mp b
  have:=h e a
  rw[(P4 (c e a) _).mpr rfl] at this
  cases this
 ·intro h e b
  cases q:(Yz prog w).is k e.2 with
  | false=>rfl
  | true=>exact absurd (Cm.mpr ⟨e,b,(P4 (c e b) k).mp q⟩) h
theorem P0(S:SetS w s.heap a es ep t)(U:es.size<63)(h:∀b r F t' h',Cw a s.heap h'->SetS w h' a r F t'->(keys r).Perm (ins k (keys es))->Q b { s with heap:=h' }):wpAny (model prog w) A (setAddHashed a (.int k u) (hashInt k)) Q E s:=by
 unfold setAddHashed setAddHashedIn
 refine Ce (Aa (Hw S ?_))
 dsimp only
 rw[byScan_of (knd:=Yz prog w) (x:=.int k u) rfl (Xl S.few (by decide)) (DJ S),if_pos rfl]
 unfold setAddByScan
 refine Aa (Aa (Ln (Aa ?_)))
 refine wpAny_setScan_of (knd:=Yz prog w) (k:=k) (intKind_is _ _ _ _) S.obj rfl S.tab.fits (DJ S) ?_
 cases H:es.toList.findIdx? (λe=>(Yz prog w).is k e.2) with
 | some j =>
  dsimp only
  have o:k∈keys es:=Rk λz=>by
   rw[(kU (prog:=prog) (w:=w) S.ent).mpr z] at H
   cases H
  refine Ae (Ae ?_)
  have:=h false es ep t s.heap (Qd a s.heap) S (by unfold ins; rw[if_pos o])
  exact this
 | none =>
  dsimp only
  have o:k∉keys es:=(kU (prog:=prog) (w:=w) S.ent).mp H
  obtain ⟨c,g,P,J,T,f,V,M⟩:=FU S.tab (hashInt k) (.int k u)
  rw[P]
  dsimp only
  have l:∀e∈c.toList,Zw e:=λe D=>by
   rcases Aw.mp (J.mem_iff.mp D) with z | z
   ·exact S.ent e z
   ·rw[Aj.mp z]; exact ⟨k,u,rfl⟩
  have n:(keys c).Perm (k::keys es):=by
   have:=J.map Ou
   rw[Bp] at this
   exact this.trans Dy
  have G:(keys c).Nodup:=n.nodup_iff.mpr (Bx.mpr ⟨o,S.nd⟩)
  have d:c.size<64:=by omega
  have p:bt w=false->g.led=true:=λz=>by rw[M]; exact S.led z
  refine Aa (m:=(pure ():Sem Unit)) (Ae ?_)
  rw[f.plain,if_pos rfl]
  refine Aa (m:=hashByValue 8 (.int k u)) (Ae ?_)
  simp only[if_true]
  by_cases C:g.tooFull=true
  ·obtain ⟨i,I,N,L,R,v,O⟩:=pP (es:=c) f.plain d
   have B:∀e∈i.toList,Zw e:=λe D=>l e (L.mem_iff.mp D)
   have y:(keys i).Perm (k::keys es):=(L.map Ou).trans n
   refine Aa (Wh S.obj rfl ?_ (small d))
   rw[C,if_pos (by decide),N]
   dsimp only
   refine Aa (m:=(pure ():Sem Unit)) (Ae ?_)
   have K:=eO S.obj c g
   refine Aa (Wh K rfl (Ae ?_) (small (by omega)))
   dsimp only
   refine Ae (h true i (ep+1+1) I _ ((Bs s.heap a _).trans (Bs _ a _)) ⟨eO K i I,B,y.nodup_iff.mpr (Bx.mpr ⟨o,S.nd⟩),v,λz=>by rw[O,M]; exact S.led z,by omega⟩ ?_)
   unfold ins
   rw[if_neg o]
   exact y
  ·have q:c.size * 5<g.mask * 3:=by
    have : ¬ (g.fill * 5 ≥ g.mask * 3):=λz=>C (by unfold SetTable.tooFull; exact decide_eq_true z)
    have e:g.fill=c.size:=by
     unfold Si
     rw[f.dum,f.size]
     rfl
    omega
   refine Aa (Wh S.obj rfl ?_ (small d))
   rw[Bool.not_eq_true] at C
   rw[C]
   simp only[Yw,Bt,if_false]
   refine Ae ?_
   dsimp only
   refine Ae (h true c (ep+1) g _ (Bs s.heap a _) ⟨eO S.obj c g,l,G,⟨f,q⟩,p,d⟩ ?_)
   unfold ins
   rw[if_neg o]
   exact n
end
theorem Mn{b:Type}:∀{l:List b} {i:Nat} (h:i<l.length),(l[i]::l.eraseIdx i).Perm l
 | [],_,h=>absurd h (Ld _)
 | a::l,0,h=>Hj _
 | a::l,i+1,h=>by
  have:=Mn (l:=l) (i:=i) (by simpa using h)
  exact (Ef a _ _).trans (Jt a this)
theorem xC(next:Nat->Nat):∀(fuel k:Nat) (left:List b) (out:Array b),left.length=fuel->(pickOrder.go next fuel k left out).toList.Perm (out.toList++left)
 | 0,k,left,out,h=>by
  unfold pickOrder.go
  have : left=[]:=iV h
  subst this
  simp
 | fuel+1,k,left,out,h=>by
  unfold pickOrder.go
  have a:next k % left.length<left.length:=Xk _ (by omega)
  rw[Co a]
  dsimp only
  refine (xC next fuel (k+1) _ _ (by rw[List.length_eraseIdx,if_pos a]; omega)).trans ?_
  rw[Jo,Br]
  exact Kq _ (Mn a)
theorem zO(next:Nat->Nat)(xs:Array a):(Xx next xs).toList.Perm xs.toList:=by
 unfold Xx
 simpa using xC next xs.size 0 xs.toList #[] (by simp)
section
variable{prog:Bn}{w:World}{A:Ck}{E:Value->Ah->Prop}{s:Ah}
theorem Tb(h:Q (bt w) s):wpAny (model prog w) A setsByText Q E s:=by
 unfold setsByText
 exact Aa (Xw (Ae h))
theorem wZ(S:SetS w s.heap a es ep t)(h:Q (if bt w then Xx (w.params.setOrder a ep) es else es) s):wpAny (model prog w) A (setWalk a) Q E s:=by
 unfold setWalk
 refine Aa (Hw S ?_)
 dsimp only
 refine Aa (Tb ?_)
 cases i:bt w with
 | true =>
  rw[i] at h
  rw[if_pos rfl] at h ⊢
  exact Aa (Xw (Ae h))
 | false =>
  have l:=S.led i
  have n:=S.tab.plain
  rw[i] at h
  obtain ⟨k,j,b,c,e,f,plain⟩:=t
  have g:e=true:=l
  have d:plain=true:=n
  subst g d
  exact Aa (m:=(pure ():Sem Unit)) (Ae (Ae h))
theorem kW{es:Array (Int×Value)}:(if bt w then Xx (w.params.setOrder a ep) es else es).toList.Perm es.toList:=by
 cases bt w with
 | true=>exact zO _ _
 | false=>exact Hj _
theorem i8(S:SetS w s.heap a es ep t)(h:Q (if bt w then Xx (w.params.setOrder a ep) es else es) s) :
  wpAny (model prog w) A (setWalkUnseen a b d) Q E s:=by
 unfold setWalkUnseen
 refine Aa (Hw S ?_)
 dsimp only
 refine Aa (Tb ?_)
 have c:(bt w || (t.led && t.plain) || decide (es.size<=1))=true:=by
  cases e:bt w with
  | true=>rfl
  | false=>rw[S.led e,S.tab.plain]; rfl
 rw[if_pos c]
 exact wZ S h
theorem zR(S:SetS w s.heap a es ep t)(hw:wanted<256)(p:es.size * 2<=wanted)(h:∀c t' h',Cw a s.heap h'->SetS w h' a c (ep+1) t'->(keys c).Perm (keys es)->wanted<=t'.mask->7<=t'.mask->Q () { s with heap:=h' }):wpAny (model prog w) A (setRelay a wanted) Q E s:=by
 obtain ⟨t',order,f,q,r,j⟩:=qU (es:=es) S.tab.plain hw p
 obtain ⟨i,d⟩:=vE es q
 obtain ⟨m,v,g,x⟩:=Vt hw
 have mk:t'.mask=m:=by
  unfold SetTable.relaid at f
  rw[(sO f).2.1,v]
  rfl
 have l:7<=t'.mask:=by
  have : 8<=Dv wanted:=by
   have b:∀k:Fin 256,decide (8<=Dv k.1)=true:=by decide +kernel
   exact of_decide_eq_true (b ⟨wanted,hw⟩)
  omega
 have sz:Dv wanted<=256:=by
  have b:∀k:Fin 256,decide (Dv k.1<=256)=true:=by decide +kernel
  exact of_decide_eq_true (b ⟨wanted,hw⟩)
 unfold setRelay
 refine Aa (Hw S ?_)
 dsimp only
 rw[if_neg (by rw[Gs]; omega),f]
 refine Aa ?_
 show wpAny (model prog w) A (do
  if (order.filterMap (es[·]?)).size != es.size then unsupported "internal:set-table-lost-an-element"
  pure (order.filterMap (es[·]?),t')) _ _ _
 rw[if_neg (by rw[d]; simp)]
 refine Ae ?_
 dsimp only
 refine cA S (λe o=>S.ent e (i.mem_iff.mp o)) ((i.map Ou).nodup_iff.mpr S.nd) (by rw[d]; exact r) (λz=>by rw[j]; exact S.led z) (by rw[d]; exact S.few) λh' u n=>?_
 exact h _ _ h' u n (i.map Ou) (by omega) l
theorem zY(p:(keys a).Perm (keys es)):a.size=es.size:=by
 have:=p.length_eq
 rw[Ad,Ad,An,An] at this
 exact this
theorem BA(S:SetS w s.heap a es ep t)(j:es.size+more<128)(h:∀b d t' h',Cw a s.heap h'->SetS w h' a b d t'->(keys b).Perm (keys es)->(es.size+more) * 5<t'.mask * 3->Q () { s with heap:=h' }):wpAny (model prog w) A (setRoomFor a more) Q E s:=by
 have g:t.fill=es.size:=by
  unfold Si
  rw[S.tab.dum,S.tab.size]
  rfl
 unfold setRoomFor
 refine Aa (Hw S ?_)
 dsimp only
 unfold SetTable.roomFor
 rw[g,S.tab.size]
 by_cases c:(es.size+more) * 5 ≥ t.mask * 3
 ·rw[if_pos c]
  dsimp only
  refine zR S (by omega) (by omega) λb t' h' f e p k i=>h b _ t' h' f e p ?_
  omega
 ·rw[if_neg c]
  dsimp only
  exact Ae (h es ep t s.heap (Qd _ _) S (Hj _) (by omega))
end
def Among(U:List Int)(l:List Int):Prop:=∀x∈l,x∈U
theorem len_leI:∀{l1 l2:List Int},l1.Nodup->(∀e∈l1,e∈l2)->l1.length<=l2.length
 | [],_,_,_=>Dq _
 | a::l1,l2,nd,h=>by
  have b:=Bx.mp nd
  have d:=h a (Ab ..)
  have:=len_leI (l2:=l2.erase a) b.2 λe c=>(List.mem_erase_of_ne (show e≠a from λz=>b.1 (by rw[<- z]; exact c))).mpr (h e (Ac _ c))
  rw[sX d] at this
  have p:0<l2.length:=vX d
  rw[Bh]
  omega
theorem Among.size(h:Among U (keys es))(a:(keys es).Nodup):es.size<=U.length:=by
 have:=len_leI a h
 rw[Ad,An] at this
 exact this
theorem yM:x∈ins k l↔x=k\/x∈l:=by
 unfold ins
 split
 ·rename_i h
  constructor
  ·exact .inr
  ·rintro (z | z)
   ·rw[z]; exact h
   ·exact z
 ·rw[Al]
section
variable{prog:Bn}{w:World}{A:Ck}{E:Value->Ah->Prop}
theorem fX(J:U.length<=62)(D:a≠o)
  (G:∀(s:Ah) (Q:Unit->Ah->Prop),SetS w s.heap o p c u->Q () s->wpAny (model prog w) A each Q E s) :
  ∀(l:List (Int×Value)) (s:Ah) (es:Array (Int×Value)) (ep:Nat) (t:Cr) (Q:Unit->Ah->Prop),(∀e∈l,Zw e)->Among U (l.map Ou)->Among U (keys es)->SetS w s.heap a es ep t->SetS w s.heap o p c u ->
   (∀i n t' h',Cw a s.heap h'->SetS w h' a i n t'->(∀x,x∈keys i↔x∈keys es\/x∈l.map Ou)->Q () { s with heap:=h' }) ->
   wpAny (model prog w) A (forIn l PUnit.unit λ(x:Int×Value) _=>do
    let _ <- Rn [x.2] (setAddHashed a x.2 x.1)
    each
    if (<- setState o).2.1 != c then unsupported "set.changed-during-merge"
    pure (Eu PUnit.unit)) Q E s
 | [],s,es,ep,t,Q,_,_,_,S,_,h=>by
  rw[Sk]
  exact Ae (h es ep t s.heap (Qd _ _) S (by simp))
 | e::l,s,es,ep,t,Q,he,hl,hk,S,So,h=>by
  obtain ⟨k,T,rfl⟩:=he e (Ab ..)
  rw[Rg]
  have V:=hk.size S.nd
  refine Aa (Aa (Ce (P0 S (by omega) λb f m M j g K L=>?_)))
  have d:SetS w j o p c u:=So.keep λR q=>(g.2 o (Nk D)).trans q
  refine Aa (G { s with heap:=j } _ d ?_)
  refine Aa (Hw (s:={ s with heap:=j }) d ?_)
  dsimp only
  rw[if_neg (by simp)]
  refine Ae ?_
  have F:∀x,x∈keys f↔x=k\/x∈keys es:=λx=>by rw[L.mem_iff,yM]
  have v:Among U (keys f):=λx r=>by
   rcases (F x).mp r with z | z
   ·rw[z]; exact hl k (Ab ..)
   ·exact hk x z
  refine fX J D G l { s with heap:=j } f m M Q (λe N=>he e (Ac _ N)) (λx r=>hl x (Ac _ r)) v K d λC y I P B O H=>?_
  refine h C y I P (g.trans B) O λx=>?_
  rw[H,F,Aq,Al]
  show (x=k\/x∈keys es)\/x∈l.map Ou↔x∈keys es\/x=k\/x∈l.map Ou
  constructor
  ·rintro ((z | z) | z)
   ·exact .inr (.inl z)
   ·exact .inl z
   ·exact .inr (.inr z)
  ·rintro (z | z | z)
   ·exact .inl (.inr z)
   ·exact .inl (.inl z)
   ·exact .inr z
end
section
variable{prog:Bn}{w:World}{A:Ck}{E:Value->Ah->Prop}{s:Ah}
theorem qB(Z:U.length<=62)(C:a≠o)(hE:∀(s:Ah) (Q:Unit->Ah->Prop),SetS w s.heap o c f j->Q () s->wpAny (model prog w) A each Q E s)(S:SetS w s.heap a es ep t)(H:SetS w s.heap o c f j)(T:Among U (keys es))(V:Among U (keys c))(h:∀r I t' h',Cw a s.heap h'->SetS w h' a r I t'->(∀x,x∈keys r↔x∈keys es\/x∈keys c)->Q () { s with heap:=h' }):wpAny (model prog w) A (setMerge a o each) Q E s:=by
 have n1:=T.size S.nd
 have n2:=V.size H.nd
 unfold setMerge
 rw[if_neg (by simpa using C)]
 refine Aa (Hw H ?_)
 dsimp only
 by_cases em:c.isEmpty=true
 ·rw[if_pos em]
  have : c=#[]:=by simpa using em
  refine Ae (h es ep t s.heap (Qd _ _) S λx=>?_)
  rw[this]
  simp
 rw[if_neg em]
 refine Aa (BA S (by omega) λK F d y l i L r1=>?_)
 have b:SetS w y o c f j:=H.keep λob q=>(l.2 o (Nk C)).trans q
 refine Aa (Hw (s:={ s with heap:=y }) i ?_)
 dsimp only
 have z1:=zY L
 have fl:d.fill=es.size:=by
  unfold Si
  rw[i.tab.dum,i.tab.size]
  exact z1
 have g:d.fill=0->∀x,x∉keys es:=λz x p=>by
  have : es.size=0:=by omega
  have e:es=#[]:=Array.eq_empty_of_size_eq_zero this
  rw[e] at p
  simp at p
 cases m:d.road j with
 | slotForSlot =>
  unfold SetTable.road at m
  split at m
  ·cases m
  ·rename_i N
   have n:d.fill=0:=by simpa using N
   split at m
   ·rename_i hm
    simp only[En,beq_iff_eq] at hm
    refine cA i b.ent b.nd (t':={ j with finger:=d.finger,led:=d.led && j.led,moves:=d.moves,plain:=d.plain && j.plain }) ⟨⟨b.tab.good,b.tab.dum,by show (d.plain && j.plain)=true; rw[i.tab.plain,b.tab.plain]; rfl,b.tab.rise,b.tab.top,b.tab.size⟩,b.tab.room⟩
     (λz=>by show (d.led && j.led)=true; rw[i.led z,b.led z]; rfl) b.few λv k u=>?_
    refine h c _ _ v (l.trans k) u λx=>⟨.inr,λz=>z.elim (λq=>absurd q (g n x)) id⟩
   ·cases m
 | clean =>
  have n:d.fill=0:=by
   unfold SetTable.road at m
   split at m
   ·cases m
   ·rename_i N
    simpa using N
  have sz:(c.map (·.1)).size=c.size:=Yb ..
  obtain ⟨J,order,q1,R,W,q4⟩:=pG (mask:=d.mask) (finger:=d.finger) (moves:=d.moves) (led:=d.led && j.led) i.tab.good (c.map (·.1)) (by rw[sz]; omega)
  rw[sz] at R W
  obtain ⟨O,D⟩:=vE c R
  dsimp only
  have Y:(d.plain && j.plain)=true:=by rw[i.tab.plain,b.tab.plain]; rfl
  rw[Y,q1]
  refine Aa ?_
  show wpAny (model prog w) A (do
   if (order.filterMap (c[·]?)).size != c.size then unsupported "internal:set-table-lost-an-element"
   pure (order.filterMap (c[·]?),J)) _ _ _
  rw[if_neg (by rw[D]; simp)]
  refine Ae ?_
  dsimp only
  refine cA i (λe G=>b.ent e (O.mem_iff.mp G)) ((O.map Ou).nodup_iff.mpr b.nd) (by rw[D]; exact W) (λz=>by rw[q4,i.led z,b.led z]; rfl) (by rw[D]; exact b.few) λv k u=>?_
  refine h _ _ _ v (l.trans k) u λx=>?_
  rw[(O.map Ou).mem_iff]
  exact ⟨.inr,λz=>z.elim (λq=>absurd q (g n x)) id⟩
 | oneByOne =>
  dsimp only
  refine Aa (i8 (s:={ s with heap:=y }) b ?_)
  have B:=kW (w:=w) (a:=o) (es:=c) (ep:=f)
  generalize (if bt w then Xx (w.params.setOrder o f) c else c)=arr at B
  rw[<- bA]
  refine Aa (fX Z C hE arr.toList { s with heap:=y } K F d _ (λe G=>b.ent e (B.mem_iff.mp G)) (λx p=>V x ((B.map Ou).mem_iff.mp p)) (λx p=>T x (L.mem_iff.mp p)) i b λP M J v k u X=>Ae ?_)
  refine h P M J v (l.trans k) u λx=>?_
  rw[X,L.mem_iff,(B.map Ou).mem_iff]
end
theorem mU:entryFor table "set.__or__" = some Builtin.«frozenset.__or__» :=
 cU (id' := "frozenset.__or__") (by kernel_rfl) (by first | rfl | decide +kernel) (by decide +kernel) (by kernel_rfl)
theorem Rp:isSubtype (.type "set") (.type "set")=pure true:=by rw[cS]; kernel_rfl
section
variable{prog:Bn}{w:World}{A:Ck}{E:Value->Ah->Prop}{s:Ah}
theorem SetS.ty(S:SetS w s.heap a es ep t):s.TypeIs (.ref a) "set" := ⟨_,S.obj,rfl⟩
theorem kR{h:Heap}:SetS w (h.push (Lx #[] 0 (.fresh 0 0 (!bt w)))) h.objs.size #[] 0 (.fresh 0 0 (!bt w)) :=
 ⟨Ap _ rfl,(λe a=>by simp at a),Ds,⟨⟨CY,rfl,rfl,Ds,(λj b=>by simp [SetTable.fresh] at b),rfl⟩,by show 0 * 5<7 * 3; decide⟩,(λz=>by show (!bt w)=true; rw[z]; rfl),by decide⟩
theorem q8(h:Q (.ref s.heap.objs.size) { s with heap:=s.heap.push (Lx #[] 0 (.fresh 0 0 (!bt w))) }):wpAny (model prog w) A (newSet (.type "set")) Q E s:=by
 unfold newSet
 refine Aa (Tb ?_)
 dsimp only
 simp only[newObj]
 exact Aa (wpAny_alloc (Ae h))
theorem bF(T:s.TypeIs (.ref a) "set")(h:Q true s):wpAny (model prog w) A (Kf (.ref a)) Q E s:=by
 unfold Kf
 exact Aa (Hu T Rp (Ae h))
theorem BU(T:s.TypeIs (.ref a) "set")(h:Q (.type "set") s):wpAny (model prog w) A (Zc a) Q E s:=by
 unfold Zc
 exact Aa (Hu T Rp (Ae h))
theorem yK{h h' c:Heap}(k:∀b o,h.get? b=some o->h'.get? b=some o)(n:h.get? a=none)(d:Cw a h' c):∀b o,h.get? b=some o->c.get? b=some o:=λb o e =>
 (d.2 b (λz=>by rw[z,n] at e; cases e)).trans (k b o e)
theorem BZ(g:U.length<=62)(S:SetS w s.heap a es ep t)(i:Among U (keys es))(h:∀c d t' h',(∀b o,s.heap.get? b=some o->h'.get? b=some o)->SetS w h' s.heap.objs.size c d t'->(∀x,x∈keys c↔x∈keys es)->Q (.ref s.heap.objs.size) { s with heap:=h' }):wpAny (model prog w) A (Pc a) Q E s:=by
 have lt:=Ax S.obj
 have k:s.heap.objs.size≠a:=Se lt
 unfold Pc
 refine Aa (BU S.ty (Aa (q8 ?_)))
 refine Aa (m:=Ep (.ref s.heap.objs.size)) (Ae ?_)
 refine Aa (qB (s:={ s with heap:=s.heap.push (Lx #[] 0 (.fresh 0 0 (!bt w))) }) g k (each:=pure ()) (λn p _ q=>Ae q) kR (S.keep λo q=>Ai _ q) (λx l=>by simp at l) i λc d t' h' j f m=>Ae ?_)
 exact h c d t' h' (yK (λb o e=>Ai _ e) (Yt (Ak _)) j) f λx=>by rw[m]; simp
theorem KB(B:U.length<=62)(M:a≠b)(k:SetS w s.heap a u t N)(j:SetS w s.heap b i e D)(C:Among U (keys u))(V:Among U (keys i))(h:∀f p t' h',(∀c o,s.heap.get? c=some o->h'.get? c=some o)->SetS w h' s.heap.objs.size f p t'->(∀x,x∈keys f↔x∈keys u\/x∈keys i)->Q (.ref s.heap.objs.size) { s with heap:=h' }):wpAny (model prog w) A (Kb .BitOr (.ref a) (.ref b)) Q E s:=by
 refine wpAny_binaryOp_same (id := "set.__or__") k.ty j.ty PySem.F.fills_set_or PySem.F.slot_set_or (Ct PySem.F.slot_set_or k.ty mU ?_ (PySem.F.args_set_or_2 _ _))
 show wpAny (model prog w) _ (do
  let (self,other) <- aP "__or__" ⟨[.ref a,.ref b],[]⟩
  let (l,r):=(self,other)
  if !(<- Kf l <&&> Kf r) then rule s!"frozenset.{"__or__"}.declined"; return <- ret .notImplemented
  ret (<- (do
   let result <- Pc (<- Ep l)
   if r != .ref (<- Ep l) then Rn [result] (Mx s!"frozenset.{"__or__"}" (<- Ep result) r)
   return result))) _ _ _
 refine Aa (m:=aP "__or__" ⟨[.ref a,.ref b],[]⟩) (Jz (a:=(Be a,Be b)) rfl ?_)
 dsimp only
 refine Aa (Aa (bF k.ty ?_))
 refine bF j.ty ?_
 simp only[Us,Bt,if_false]
 refine Aa (Aa (m:=Ep (.ref a)) (Ae (Aa (BZ B k C λe1 Y Z g y O G=>?_))))
 have W:s.heap.objs.size≠b:=Se (Ax j.obj)
 have P:s.heap.get? s.heap.objs.size=none:=Yt (Ak _)
 have d:SetS w g b i e D:=j.keep λo q=>y b o q
 refine Aa (m:=Ep (.ref a)) (Ae ?_)
 rw[if_pos (show (Be b != Be a)=true by simpa using Nk M)]
 refine Aa (m:=Ep (.ref s.heap.objs.size)) (Ae (Aa (Ce ?_)))
 unfold Mx
 refine Aa (bF (s:={ s with heap:=g }) (w:=w) d.ty ?_)
 rw[if_pos rfl]
 refine Aa (m:=Ep (.ref b)) (Ae ?_)
 unfold Builtin.Frozenset.merge setEpoch
 refine Aa (Aa (Hw (s:={ s with heap:=g }) d (Ae ?_)))
 refine qB (s:={ s with heap:=g }) B W (λX Q' n I=>?_) O d (λx K=>C x ((G x).mp K)) V λL R J T v S H=>?_
 ·unfold Builtin.Frozenset.unchanged setEpoch
  refine Aa (Aa (Hw n (Ae ?_)))
  dsimp only
  rw[if_neg (by simp)]
  exact Ae I
 ·refine Ae (Ae ⟨_,rfl,(λz=>nomatch z),h L R J T (yK y P v) S λx=>by rw[H,G]⟩)
end
end NdS
namespace NdS
open PySem PyProof.Rows
section
variable{prog:Bn}{w:World}{A:Ck}{R:Result->Ah->Prop}
theorem fH(hU:U.length<=62){a it l:Addr}(G:a≠it)(Y:a≠l)(n3:l≠it)(L:Fm c.toList ns)(hN:Among U ns)(hh:A.in1.handled=none):∀(k i:Nat) (s:Ah) (es:Array (Int×Value)) (ep:Nat) (t:Cr),c.size - i=k->i<=c.size->s.heap.IsTupleIter it l i->s.heap.IsTuple l c->SetS w s.heap a es ep t->Among U (keys es)->(∀h v t' h' n,(∀b o,b≠a->b≠it->s.heap.get? b=some o->h'.get? b=some o)->SetS w h' a h v t'->(∀x,x∈keys h↔x∈keys es\/x∈ns.drop i)->R (.ok (.ret .none)) { s with heap:=h',toks:=n })->Hy (model prog w) A (.builtin "set.update.loop" ⟨[.ref a,.ref it],[]⟩) R s:=by
 have len:ns.length=c.size:=by rw[<- L.length,An]
 intro k
 induction k with
 | zero =>
  intro i s es ep t X hi g p S C F
  have e:i=c.size:=by omega
  refine Gp Ur ?_
  rw[Gm Lb _]
  show wpAny _ A.in1 (Ig (.ref it) >>= _) _ _ s
  refine Aa (V1 hh g p (by rw[e]; simp) λh' x=>?_)
  refine Ae (F es ep t h' s.toks (λb o _ q e=>x b o q e) (S.keep λo q=>x a o G q) λx=>?_)
  rw[e,<- len,List.drop_length]
  simp
 | succ k O =>
  intro i s es ep t X hi g p S C F
  have lt:i<c.size:=by omega
  have lt':i<ns.length:=by omega
  obtain ⟨n,N⟩:=IntsAre.int_at L i c[i] (by simp [lt])
  have W:ns.getD i 0=ns[i]:=by simp [List.getD,lt']
  rw[W] at N
  refine Gp Ur ?_
  rw[Gm Lb _]
  show wpAny _ A.in1 (Ig (.ref it) >>= _) _ _ s
  refine Aa (U8 g p (x:=c[i]) (by simp [lt]) λI j d=>?_)
  rw[N]
  show wpAny _ A.in1 (Rn [Lz ns[i] n] (setAdd a (.int ns[i] n)) >>= _) _ _ _
  refine Aa (Ce ?_)
  unfold setAdd
  refine Ce (Aa ((Yz prog w).pyHash (k:=ns[i]) (intKind_is _ _ _ _) ?_))
  have M:SetS w I a es ep t:=S.keep λo q=>(d.2 a G).trans q
  have z:=C.size M.nd
  refine P0 (s:={ s with heap:=I,toks:=s.toks+1 }) M (by omega) λb m B T h2 f Z p2=>?_
  have H:∀x,x∈keys m↔x=ns[i]\/x∈keys es:=λx=>by rw[p2.mem_iff,yM]
  refine Ae ⟨Rm Lb _,?_⟩
  refine O (i+1) { s with heap:=h2,toks:=s.toks+1 } m B T (by omega) lt ?_ ?_ Z (λx V=>?_) λD E t3 P u Q S3 m3=>?_
  ·obtain ⟨o,y,r⟩:=j
   exact ⟨o,(f.2 it (Nk G)).trans y,r⟩
  ·obtain ⟨o,y,r⟩:=p
   exact ⟨o,(f.2 l (Nk Y)).trans ((d.2 l n3).trans y),r⟩
  ·rcases (H x).mp V with q | q
   ·rw[q]; exact hN _ (List.getElem_mem lt')
   ·exact C x q
  ·refine F D E t3 P u (λb o J K e=>Q b o J K ((f.2 b J).trans ((d.2 b K).trans e))) S3 λx=>?_
   rw[m3,H,Tr lt',Al]
   constructor
   ·rintro ((q | q) | q)
    ·exact .inr (.inl q)
    ·exact .inl q
    ·exact .inr (.inr q)
   ·rintro (q | q | q)
    ·exact .inl (.inr q)
    ·exact .inl (.inl q)
    ·exact .inr q
end
section
variable{prog:Bn}{w:World}{A:Ck}{E:Value->Ah->Prop}{s:Ah}
theorem U4(v:Value)(h:Q (.ref s.heap.objs.size) { s with heap:=s.heap.push (Lx #[] 0 (.fresh 0 0 (!bt w))) }):Hy (model prog w) A (.call (.builtin "set.__new__") ⟨[.type "set",v],[]⟩) (wants Q E) s:=by
 have sub:=Rp
 obtain ⟨b,g,d,a,os⟩:=s
 refine aJ (show wpAny _ A.in1 (do checkBuiltinCall "set.__new__" ⟨[.type "set",v],[]⟩; again (.builtin "set.__new__" ⟨[.type "set",v],[]⟩)) _ _ _ from ?_)
 refine Aa (Jz (PySem.F.newCall_set_1 v) (Ae ⟨Rm PySem.F.plain_set_new _,Gp PySem.F.entry_set_new ?_⟩))
 rw[Gm PySem.F.plain_set_new _]
 unfold Builtin.«set.__new__» Builtin.Frozenset.newClass
 dsimp only
 wp_walk
 refine Xw (Ae ?_)
 dsimp only
 simp only[newObj]
 exact Aa (wpAny_alloc (Ae (Ae h)))
theorem Y4(S:U.length<=62)(X:A.handled=none)(hl:s.heap.IsTuple l a)(T:Fm a.toList ns)(Y:Among U ns)(h:∀es ep t h' f,(∀b o,s.heap.get? b=some o->h'.get? b=some o)->SetS w h' s.heap.objs.size es ep t->(∀x,x∈keys es↔x∈ns)->Q (.ref s.heap.objs.size) { s with heap:=h',toks:=f }):wpAny (model prog w) A (call (.type "set") [.ref l]) Q E s:=by
 obtain ⟨c,tl,H⟩:=PySem.F.called_set.mro
 have z:=PySem.F.called_set.made
 have G:=PySem.F.called_set.sub
 have h1:=PySem.F.called_set.notType
 have h2:=PySem.F.called_set.canCreate
 have N:=PySem.F.typeCall_set_1 (.ref l)
 refine wpAny_call (aJ (show wpAny _ _ (callAny (.type "set") _) _ _ _ from ?_))
 refine Ae ⟨Code.quiet_builtin _ (by decide +kernel),Gp PySem.F.entry_type_call ?_⟩
 rw[Around.under_plain (weight_type_call_type "set" [.ref l] []) rfl]
 repeat (any_goals (first | assumption | wp_step))
 refine Pj (U4 (.ref l) (E:=E) (Q:=λv C=>v=.ref s.heap.objs.size/\C={ s with heap:=s.heap.push (Lx #[] 0 (.fresh 0 0 (!bt w))) }) ⟨rfl,rfl⟩) λr C d=>?_
 rcases r with e | (_ | _ | _ | v)
 ·exact d
 ·exact d.elim
 ·exact d.elim
 ·exact d.elim
 obtain ⟨rfl,rfl⟩:=d
 have I:=kR (w:=w) (h:=s.heap)
 have L:Shared.TypeIs { s with heap:=s.heap.push (Lx #[] 0 (.fresh 0 0 (!bt w))) } (.ref s.heap.objs.size) "set" := ⟨_,I.obj,rfl⟩
 have Z:=PySem.F.called_set.init.lookup
 have h0:=PySem.F.called_set.init.bind (.ref s.heap.objs.size)
 repeat (any_goals (first | assumption | wp_step))
 refine Pj (codeAny_call_builtin (R:=wants (λr K=>r=.none/\∃es ep t h' f,K={ s with heap:=h',toks:=f }/\(∀b o,s.heap.get? b=some o->h'.get? b=some o)/\SetS w h' s.heap.objs.size es ep t/\∀x,x∈keys es↔x∈ns) E)
  PySem.F.called_set.init.plain PySem.F.entry_set_init (check_set_init_1 L ?_)) λr K d=>?_
 ·obtain ⟨⟨oc,od,m,M⟩,D,P,n,V⟩:=id hl
  have i:oc=.type "tuple" := P
  have y:m=.seq a n:=V
  subst i y
  have g:=Ai (Lx #[] 0 (.fresh 0 0 (!bt w))) D
  have j:(s.heap.push (Lx #[] 0 (.fresh 0 0 (!bt w)))).IsTuple l a:=⟨_,g,rfl,n,rfl⟩
  have f1:=PySem.F.sub_tuple_set
  have f2:=PySem.F.sub_tuple_frozenset
  have f3:(Lu "tuple" == Lu "dict")=false:=by decide
  have lt:=Ax D
  unfold Builtin.«set.__init__» noKeywords Mx
  generalize k:cR=PI
  wp_walk
  subst k
  refine wpAny_pyIter_tuple j (Aa (wpAny_runValue ?_))
  have sz:(s.heap.push (Lx #[] 0 (.fresh 0 0 (!bt w)))).objs.size=s.heap.objs.size+1:=Fo _ _
  have W:((s.heap.push (Lx #[] 0 (.fresh 0 0 (!bt w)))).push { cls:=.type "tuple_iterator",data:=.fields #[.ref l,.int 0 0] }).get? (s.heap.push (Lx #[] 0 (.fresh 0 0 (!bt w)))).objs.size=some { cls:=.type "tuple_iterator",data:=.fields #[.ref l,.int 0 0] }:=Ap _ rfl
  refine fH S (by rw[sz]; exact By (Vh _)) (Se lt) (by rw[sz]; exact By (Gb lt)) T Y (by simp [X]) (a.size - 0) 0 _ #[] 0 (.fresh 0 0 (!bt w)) rfl (Dq _) ⟨_,W,rfl,rfl⟩ ⟨_,Ai _ g,rfl,n,rfl⟩
   (I.keep λo q=>Ai _ q) (λx O=>by simp at O) λes ep t h' f p u B=>?_
  refine Ae (Ae ⟨rfl,es,ep,t,h',f,rfl,λb o e=>?_,u,λx=>?_⟩)
  ·have J:=Ax e
   exact p b o (By J) (by rw[sz]; exact By (Gb J)) (Ai _ (Ai _ e))
  ·rw[B,Sm]
   simp
 ·rcases r with e | (_ | _ | _ | v)
  ·exact d
  ·exact d.elim
  ·exact d.elim
  ·exact d.elim
  obtain ⟨rfl,es,ep,t,h',f,rfl,p,u,B⟩:=d
  repeat (any_goals (first | assumption | wp_step))
  exact h es ep t h' f p u B
end
theorem Wp:Slot "set_iterator" "__next__" "set_iterator.__next__" :=
 .of (owner := "set_iterator") (n := "__next__") (by rw[aI,Rc]; kernel_rfl) (by decide +kernel) (by decide +kernel) (by decide +kernel) (by first | exact .inl (by decide +kernel) | exact .inr (by decide +kernel)) (by rw[cS]; kernel_rfl)
theorem fS:entryFor table "set_iterator.__next__" = some Builtin.«set_iterator.__next__»:=entryFor_of_tree (by kernel_rfl)
theorem jQ(a:Value):argsOk "set_iterator.__next__" ⟨[a],[]⟩:=by unfold argsOk; kernel_rfl
theorem vI:entryFor table "set.__iter__" = some Builtin.«frozenset.__iter__» :=
 cU (id' := "frozenset.__iter__") (by kernel_rfl) (by first | rfl | decide +kernel) (by decide +kernel) (by kernel_rfl)
abbrev wY(f i:Nat)(a:Addr)(n ep:Nat):Obj:={ cls:=.type "set_iterator",data:=.fields #[Ff f,Ff i,.ref a,Ff n,Ff ep] }
def arrOf(w:World)(a:Addr)(ep:Nat)(es:Array (Int×Value)):Array (Int×Value):=if bt w then Xx (w.params.setOrder a ep) es else es
theorem K9:(arrOf w a ep es).toList.Perm es.toList:=kW
theorem Tj:(arrOf w a ep es).size=es.size:=by
 have:=(K9 (w:=w) (a:=a) (ep:=ep) (es:=es)).length_eq
 rw[An,An] at this
 exact this
def pA(w:World)(I a:Addr)(es:Array (Int×Value))(ep:Nat)(t:Cr)(i:Nat)(h:Heap):Prop :=
 (∃f,h.get? I=some (wY f i a es.size ep)/\(bt w=false->Cs t.place f=i))/\SetS w h a es ep t
section
variable{prog:Bn}{w:World}{A:Ck}{E:Value->Ah->Prop}{s:Ah}
theorem BO(S:SetS w s.heap a es ep t)(h:Q (.ref s.heap.objs.size) { s with heap:=s.heap.push (wY 0 0 a es.size ep) }):wpAny (model prog w) A (cR (.ref a)) Q E s:=by
 refine Wi S.ty PySem.F.slot_set_iter (Ct PySem.F.slot_set_iter S.ty vI ?_ (PySem.F.args_set_iter_1 _))
 unfold Builtin.«frozenset.__iter__»
 refine Aa (m:=Builtin.Frozenset.slot0 "__iter__" ⟨[.ref a],[]⟩) (Jz (a:=a) rfl ?_)
 unfold Builtin.Frozenset.sizeOf iT setDrawn setEpoch
 refine Aa (Aa (Aa (Hw S (Ae (Ae ?_)))))
 refine Aa (Aa (Hw S ?_))
 dsimp only
 refine Aa (Tb (Ae ?_))
 have o:=S.tab.plain
 have b:wpAny (model prog w) A.in1 (do
   let first <- (pure (Ff 0):Sem Value)
   ret (<- newFields "set_iterator" [first,Ff 0,.ref a,Ff es.size,Ff (<- (do return (<- setState a).2.1))])) (λe k=>∃v,e=.done (.ret v)/\∃l r,k.TypeIs v l/\iR (.type l) "__next__" = pure (some r)/\Q v k) E s:=by
  refine Aa (Ae ?_)
  refine Aa (Aa (Hw S (Ae ?_)))
  refine Aa (Cf (Ae ⟨_,rfl, "set_iterator",_,⟨_,Ap _ rfl,rfl⟩,Wp.lookup,h⟩))
 obtain ⟨j,i,c,d,n,g,plain⟩:=t
 have f:plain=true:=o
 subst f
 cases p:bt w with
 | true=>exact b
 | false=>exact b
theorem hV(S:SetS w s.heap a es ep t)(B:bt w=false->Cs t.place f=i)(h1:∀(b:i<es.size) v,(bt w=false->Cs t.place v=i+1)->Q (some (((arrOf w a ep es)[i]'(by rw[Tj]; exact b)).2,v)) s)(u:es.size<=i->Q none s):wpAny (model prog w) A (setNext a f i ep) Q E s:=by
 unfold setNext
 refine Aa (Hw S ?_)
 dsimp only
 refine Aa (Tb ?_)
 cases k:bt w with
 | true =>
  rw[if_pos rfl,if_neg (by simp)]
  refine Aa (wZ S (Ae ?_))
  show Q (((arrOf w a ep es)[i]?).map λe=>(e.2,f)) s
  by_cases b:i<es.size
  ·rw[Hg (by rw[Tj]; exact b)]
   exact h1 b f (λz=>by rw[k] at z; cases z)
  ·rw[Nz (by rw[Tj]; omega)]
   exact u (by omega)
 | false =>
  have y:=S.led k
  have C:=S.tab.plain
  have g:wpAny (model prog w) A (pure (match es[Cs t.place f]?,t.place[Cs t.place f]? with
    | some (_,x),some j=>some (x,j+1)
    | _,_=>none):Sem (Option (Value×Nat))) Q E s:=by
   rw[B k]
   by_cases b:i<es.size
   ·have c:i<t.place.size:=by rw[S.tab.size]; exact b
    rw[Hg b,Hg c]
    refine Ae ?_
    have:=h1 b (t.place[i]+1) (λ_=>tE S.tab.rise c)
    have e:arrOf w a ep es=es:=by unfold arrOf; rw[k]; rfl
    simp only[e] at this
    exact this
   ·rw[Nz (by omega)]
    exact Ae (u (by omega))
  obtain ⟨r,q,d,h,n,o,plain⟩:=t
  have p:n=true:=y
  have l:plain=true:=C
  subst p l
  exact Aa (m:=(pure ():Sem Unit)) (Ae g)
theorem yZ(st:pA w I a es ep t i s.heap)(j:a≠I)(g:i<es.size)(h:∀h',pA w I a es ep t (i+1) h'->Cw I s.heap h'->Q (some ((arrOf w a ep es)[i]'(by rw[Tj]; exact g)).2) { s with heap:=h' }):wpAny (model prog w) A (Ig (.ref I)) Q E s:=by
 obtain ⟨⟨f,b,k⟩,S⟩:=st
 have T:s.TypeIs (.ref I) "set_iterator" := ⟨_,b,rfl⟩
 unfold Ig
 refine Aa (Jh (Cy (name:=Cq "__next__") T Wp (Ct Wp T fS ?_ (jQ _))))
 unfold Builtin.«set_iterator.__next__»
 refine Aa (m:=slotArgs "__next__" 0 ⟨[.ref I],[]⟩) (Jz (a:=(Be I,[])) rfl ?_)
 dsimp only
 refine Aa (Pi b rfl ?_)
 show wpAny (model prog w) A.in1 (do
  if (((<- iT a).size:Nat):Int) != (es.size:Int) then
   rule "set_iterator.__next__.size-changed"
   Nw (.ref I) 3 (Ff (-1))
   raiseError "RuntimeError" "Set changed size during iteration"
  match <- setNext a (f:Int).toNat (i:Int).toNat (ep:Int).toNat with
  | some (x,next) =>
   Nw (.ref I) 0 (Ff next)
   Nw (.ref I) 1 (Ff ((i:Int)+1))
   ret x
  | none=>Nw (.ref I) 2 .none; raiseNew (<- newExc (.type "StopIteration") [])) _ _ _
 unfold iT
 refine Aa (Aa (Hw S (Ae ?_)))
 rw[if_neg (by simp)]
 simp only[Ed]
 refine Aa (hV S k (λ_ d c=>?_) (λz=>absurd g (by omega)))
 dsimp only
 refine Aa (Ms b rfl (by simp) ?_)
 have e:(s.heap.update I (Py (·.setIfInBounds 0 (Ff d)))).get? I=some (wY d i a es.size ep):=Fj _ b rfl
 refine Aa (Ms e rfl (by simp) (Ae ⟨_,rfl,Ae (h _ ⟨⟨d,?_,c⟩,?_⟩ ((Bs ..).trans (Bs ..)))⟩))
 ·exact Fj _ e rfl
 ·refine S.keep λo q=>?_
  exact ((Bs _ _ _).2 a j).trans (((Bs _ _ _).2 a j).trans q)
theorem U2(e:A.handled=none)(st:pA w I a es ep t es.size s.heap)(h:∀h',Yu I s.heap h'->Q none { s with heap:=h' }):wpAny (model prog w) A (Ig (.ref I)) Q E s:=by
 obtain ⟨⟨f,c,d⟩,S⟩:=st
 have T:s.TypeIs (.ref I) "set_iterator" := ⟨_,c,rfl⟩
 unfold Ig
 refine Aa (Jh (Cy (name:=Cq "__next__") T Wp (Ct Wp T fS ?_ (jQ _))))
 unfold Builtin.«set_iterator.__next__»
 refine Aa (m:=slotArgs "__next__" 0 ⟨[.ref I],[]⟩) (Jz (a:=(Be I,[])) rfl ?_)
 dsimp only
 refine Aa (Pi c rfl ?_)
 show wpAny (model prog w) A.in1 (do
  if (((<- iT a).size:Nat):Int) != (es.size:Int) then
   rule "set_iterator.__next__.size-changed"
   Nw (.ref I) 3 (Ff (-1))
   raiseError "RuntimeError" "Set changed size during iteration"
  match <- setNext a (f:Int).toNat (es.size:Int).toNat (ep:Int).toNat with
  | some (x,next) =>
   Nw (.ref I) 0 (Ff next)
   Nw (.ref I) 1 (Ff ((es.size:Int)+1))
   ret x
  | none=>Nw (.ref I) 2 .none; raiseNew (<- newExc (.type "StopIteration") [])) _ _ _
 unfold iT
 refine Aa (Aa (Hw S (Ae ?_)))
 rw[if_neg (by simp)]
 simp only[Ed]
 refine Aa (hV S d (λz _ _=>absurd z (Ip _)) (λ_=>?_))
 dsimp only
 refine Aa (Ms c rfl (by simp) (Aa ?_))
 simp only[newExc,newTuple]
 refine Aa (Cf ?_ (by size_fits))
 refine Aa (m:=Kz _ _) (Jz (a:=Gu) (by first | rfl | (simp only[Kz]; rfl)) (Cf ?_ (by size_fits)))
 simp only[raiseNew]
 refine Aa (wpAny_handled ?_)
 rw[show A.in1.handled=none from e]
 refine Aa (Ae (wpAny_throw ?_))
 refine Aa (Hu (T := "StopIteration") (b:=true) ⟨_,Ap _ rfl,rfl⟩ cT ?_)
 exact Ae (h _ (((Bs ..).extBut.push _).push _))
end
theorem kK:Slot "set_iterator" "__iter__" "set_iterator.__iter__" :=
 .of (owner := "set_iterator") (n := "__iter__") (by rw[aI,Rc]; kernel_rfl) (by decide +kernel) (by decide +kernel) (by decide +kernel) (by first | exact .inl (by decide +kernel) | exact .inr (by decide +kernel)) (by rw[cS]; kernel_rfl)
theorem tF:entryFor table "set_iterator.__iter__" = some Builtin.«dict_keyiterator.__iter__» :=
 cU (id' := "dict_keyiterator.__iter__") (by kernel_rfl) (by first | rfl | decide +kernel) (by decide +kernel) (by kernel_rfl)
theorem p7(a:Value):argsOk "set_iterator.__iter__" ⟨[a],[]⟩:=by unfold argsOk; kernel_rfl
section
variable{prog:Bn}{w:World}{A:Ck}{E:Value->Ah->Prop}{s:Ah}
theorem zI(p:A.handled=none)(u:a≠I)(es:Array (Int×Value))(ep:Nat)(t:Cr):Walks prog w A I [I,a] [I] es.size (λi v=>∃e,(arrOf w a ep es)[i]? = some e/\v=e.2) (λi h=>pA w I a es ep t i h) where
 sub:=λb c=>by simp at c; simp [c]
 frame:=λi h g ⟨⟨f,j,m⟩,S⟩ n=>⟨⟨f,n I (by simp) _ j,m⟩,S.keep λo q=>n a (by simp) o q⟩
 item:=λi s Q E l st d=>yZ st u l λg k r=>d _ g s.toks ⟨_,Hg (by rw[Tj]; exact l),rfl⟩ k λb o c e=>(r.2 b (λz=>c (by simp [z]))).trans e
 done:=λs Q E st d=>U2 p st λg x=>d g s.toks λb o c e=>x b o (λz=>c (by simp [z])) e
 self:=λi s Q E st d=>by
  obtain ⟨⟨f,j,m⟩,S⟩:=st
  have T:s.TypeIs (.ref I) "set_iterator" := ⟨_,j,rfl⟩
  refine Wi T kK (Ct kK T tF ?_ (p7 _))
  exact Ae ⟨_,rfl, "set_iterator",_,T,Wp.lookup,d⟩
theorem B9(c:s.TypeIs (.ref r) "set")(h:Q false s):wpAny (model prog w) A (aZ (.ref r)) Q E s:=by
 unfold aZ
 refine Aa (wpAny_specialOf c PySem.F.slot_set_len.lookup ?_)
 generalize a:("set.__len__" : String)=id0
 wp_delta
 rw[show splitId id0=some ("set", "__len__") from by subst a; decide +kernel]
 subst a
 refine Aa (Hu (T := "set") (b:=true) c Rp ?_)
 refine wpAny_ite_split (λz=>absurd z (by decide)) (λ_=>wpAny_ite_split (λ_=>?_) (λz=>absurd (by decide +kernel) z))
 exact Aa (Jc c (Ae h))
theorem CF(a:Addr)(es:Array (Int×Value))(ep:Nat)(t:Cr):PySem.W.KdlSrc prog w "set" a a es.size (λi v=>∃e,(arrOf w a ep es)[i]? = some e/\v=e.2) (λh=>SetS w h a es ep t) where
 type:=λs S=>S.ty
 there:=λh S=>⟨Ax S.obj,Ax S.obj⟩
 keep:=λh c S k=>S.keep λo q=>k a (.inl rfl) o q
 notList:=by decide
 notTuple:=by decide
 hint:=λA E s Q S h=>B9 S.ty h
 iter:=λA s b S=>by
  have lt:=Ax S.obj
  refine ⟨wY 0 0 a es.size ep,λi h=>pA w s.heap.objs.size a es ep t i h,λE Q h=>BO S h,?_,⟨⟨0,Ap _ rfl,λ_=>qF S.tab.rise⟩,S.keep λo q=>Ai _ q⟩⟩
  exact zI b (By lt) es ep t
theorem jA{a:Array (Int×Value)}(d:∀e∈a.toList,Zw e)(h:ItemsOf (λi v=>∃e,a[i]? = some e/\v=e.2) b a.size):Fm b.toList (a.toList.map Ou):=by
 have n:∀(l:List (Int×Value)) (vs:List Value),(∀e∈l,Zw e)->vs.length=l.length->(∀(j:Nat) v,vs[j]? = some v->∃e,l[j]? = some e/\v=e.2)->Fm vs (l.map Ou):=by
  intro l
  induction l with
  | nil =>
   intro vs _ c _
   cases vs with
   | nil=>exact .nil
   | cons v vs=>cases c
  | cons e l q =>
   intro vs d c o
   cases vs with
   | nil=>cases c
   | cons v vs =>
    obtain ⟨k,r,rfl⟩:=d e (Ab ..)
    obtain ⟨s,f,g⟩:=o 0 v rfl
    cases f
    subst g
    exact .cons k r (q vs (λe p=>d e (Ac _ p)) (by simpa using c) λj u m=>o (j+1) u (by simpa using m))
 refine n a.toList b.toList d (by rw[An,An]; exact h.1) λj v m=>?_
 obtain ⟨e,f,g⟩:=h.2 j v (by rw[<- Gd]; exact m)
 exact ⟨e,by rw[Gd]; exact f,g⟩
theorem tH(z:A.handled=none)(S:SetS w s.heap a es ep t)(h:∀(p:Addr) (out:Array Value) (ns:List Int) (n:Nat) (h1 h':Heap) (g:Nat),Fm out.toList ns->ns.Perm (keys es)->ns.Pairwise (·<=·)->(∀b o,s.heap.get? b=some o->h1.get? b=some o)->h1.objs.size<=p->(∀b o,h1.get? b=some o->h'.get? b=some o)->h'.get? p=some (Er "list" out n)->Q (.ref p) { s with heap:=h',toks:=g }):wpAny (model prog w) A (call (.builtin "sorted") [.ref a]) Q E s:=by
 refine Mh kind_sorted plain_sorted entry_sorted (args_sorted1 _) ?_
 unfold aV
 refine Aa (m:=checkCount "sorted" 1 1 _) (Ae (Aa (PySem.W.kdu_collect (A:=A.in1) (CF a es ep t) z S (small S.few) λh1 g c r d=>?_)))
 have f:ItemsOf (λi v=>∃e,(arrOf w a ep es)[i]? = some e/\v=e.2) c (arrOf w a ep es).size:=by rw[Tj]; exact d
 have C:=jA (λe x=>S.ent e (K9.mem_iff.mp x)) f
 have len:c.toList.length<64:=by rw[An,d.1]; exact S.few
 refine Aa (Xg ?_ (Ca (La len) (by rw[Gs]; decide)))
 have k:(h1.push (Er "list" c.toList.toArray 0)).get? h1.objs.size=some (Er "list" c.toList.toArray 0):=Ap _ rfl
 refine Aa (Ce (Ct slot_list_sort ⟨_,k,rfl⟩ entry_list_sort (list_sort_tree (s:={ s with heap:=h1.push (Er "list" c.toList.toArray 0),toks:=g }) k C len λout j F y B=>⟨_,rfl,?_⟩) (args_list_sort _)))
 refine Ae ⟨_,rfl,?_⟩
 have q:=Og k (λ_=>#[])
 have u:=Ai (Er "list" #[] 0) (Ai (Er "tuple" c.toList.toArray 0) q)
 have D:=Og u (λ_=>out)
 refine h h1.objs.size out j _ h1 _ g F (y.trans (K9.map Ou)) B r (Ak _) (λb o e=>?_) D
 have l:b≠h1.objs.size:=By (Ax e)
 exact ((Bs _ _ _).2 b l).trans (Ai _ (Ai _ (((Bs _ _ _).2 b l).trans (Ai _ e))))
end
end NdS
namespace Nd
open PySem PySem.Spec PyProof.Rows L2 NdS
def O8(w:World)(a:Addr)(ks:List Int)(h:Heap):Prop:=∃b c t,SetS w h a b c t/\∀x,x∈keys b↔x∈ks
abbrev bJ(w:World)(a:Addr)(ks:List Int):HO:=.ext (O8 w a ks)
theorem xT(e:O8 w a ks h):Kw P d H h a (bJ w a ks) :=
 ⟨e,let ⟨_,_,_,S,_⟩:=e; ⟨_,S.obj⟩,λf g ⟨b,c,t,S,m⟩ k=>⟨b,c,t,S.keep λo q=>k o q,m⟩⟩
theorem iB(ok:aS P w H h)(e:H a=some (bJ w a ks)):O8 w a ks h :=
 (show Kw P w H h a (bJ w a ks) from ok a _ e).1
section
variable{X:Cx}
def IC(w:World)(K:PySem.W.Frag):List V->Hp->VK->Prop:=λc H Q=>∃(a:Addr) (b U:List Int),c=[.ref a]/\Wt K H a (b.map V.int)/\U.length<=62/\Among U b/\∀p,H p=none->Q (.ref p) (upd H p (bJ w p b))
theorem gA(d:X.calm=true):Nt X (.type "set") (IC X.w X.K):=by
 intro c s z H C E Q I r h
 obtain ⟨a,A,U,rfl,f,g,v,q⟩:=h
 obtain ⟨u,rfl,x⟩:=vals1 r
 cases x
 obtain ⟨p,i,⟨o,e,b,n,y⟩,_⟩:=I.tuple f
 refine Y4 g (I.ok.hd d) ⟨o,e,b,n,y⟩ (by simpa using intsAre_of i) v λj l t B D k S m=>?_
 exact ⟨.ref s.heap.objs.size,_,I.laid k (Ak _) (xT ⟨j,l,t,S,m⟩),rfl,q _ (I.hok.fresh (Ak _))⟩
def QC(w:World):R2:=λx y H Q=>∃(a b:Addr) (c d U:List Int),x=.ref a/\y=.ref b/\a≠b/\H a=some (bJ w a c)/\H b=some (bJ w b d)/\U.length<=62/\Among U c/\Among U d/\∀p,H p=none->Q (.ref p) (upd H p (bJ w p (c++d)))
theorem N0:aQ X (Kb .BitOr) (QC X.w):=by
 intro d s O H x y v u Q I C n h
 obtain ⟨a,b,D,K,U,rfl,rfl,B,o,i,l,g,p,q⟩:=h
 cases C
 cases n
 obtain ⟨N,M,G,z,f⟩:=iB I.hok o
 obtain ⟨F,E,L,j,e⟩:=iB I.hok i
 refine KB l B z j (λx c=>g x ((f x).mp c)) (λx c=>p x ((e x).mp c)) λA r t J k S m=>?_
 exact ⟨.ref s.heap.objs.size,_,I.laid (t':=s.toks) k (Ak _) (xT ⟨A,r,t,S,λx=>by rw[m,f,e,Aw]⟩),rfl,q _ (I.hok.fresh (Ak _))⟩
theorem aG:∀{vs:List Value} {ns:List Int},Fm vs ns->Gn (ns.map V.int) vs
 | _,_,.nil=>.nil
 | _,_,.cons n t h=>.cons ⟨t,rfl⟩ (aG h)
def xO(w:World):List V->Hp->VK->Prop:=λd H Q=>∃(a:Addr) (c:List Int),d=[.ref a]/\H a=some (bJ w a c)/\∀(p:Addr) (b:List Int),H p=none->b.Nodup->b.Pairwise (·<=·)->(∀x,x∈b↔x∈c)->Q (.ref p) (upd H p (.lst (b.map V.int)))
theorem aB(k:X.calm=true):Nt X (.builtin "sorted") (xO X.w):=by
 intro c s y H K F Q I r h
 obtain ⟨a,D,rfl,o,q⟩:=h
 obtain ⟨u,rfl,C⟩:=vals1 r
 cases C
 obtain ⟨L,J,t,S,m⟩:=iB I.hok o
 refine tH (I.ok.hd k) S λp out d n j E f z e v i b l B=>?_
 have g:Inv X c y H { s with heap:=j,toks:=f }:=I.kept i
 have A:d.Nodup:=e.nodup_iff.mpr S.nd
 have G:d.length<64:=by
  rw[e.length_eq,Ad,An]
  exact S.few
 refine ⟨.ref p,upd H p (.lst (d.map V.int)),g.laid (t':=f) l b ⟨by rw[Ad,Gs]; omega,out.toList,n,aG z,by simpa using B⟩,rfl,q p d (g.hok.fresh b) A v λx=>by rw[e.mem_iff,m]⟩
end
end Nd
namespace Nd
open PySem L2
def Xu(d:Addr)(H a:Hp):Prop:=∀b o,b≠d->H b=some o->a b=some o
theorem Xu.trans(a:Xu d H f)(b:Xu d f e):Xu d H e:=λc o n h=>b c o n (a c o n h)
theorem Xu.upd:Xu d H (upd H d o):=λb o n h=>by rw[Dr n]; exact h
theorem Va.tup{K:PySem.W.Frag}{H b:Hp}{a:Addr}{xs:List V}(e:Va H b)(h:Wt K H a xs):Wt K b a xs:=by
 rcases h with (h | ⟨o,h⟩) | h
 ·exact .inl (.inl (e _ _ h))
 ·exact .inl (.inr ⟨o,e _ _ h⟩)
 ·exact .inr h
theorem iQ(h:n<=1000000):n<=Au:=by rw[Gs]; omega
theorem oM(a b:Int)(h:0<b):0<=a % b/\a % b<b:=⟨Int.emod_nonneg _ (by omega),Int.emod_lt_of_pos _ h⟩
def Cz(h:Int)(ns:List Int):Prop:=ns.Pairwise (· < ·)/\∀x∈ns,0<=x/\x<h
theorem Cz.nil(h:Int):Cz h []:=⟨Ds,λx a=>by cases a⟩
theorem Cz.more(r:Cz h ns)(h0:0<=h):Cz (h+1) (ns++[h]) :=
 ⟨Cg.mpr ⟨r.1,Em _ _,λa c b e=>by rw[Aj.mp e]; exact (r.2 a c).2⟩,λx d=>by
  rcases Aw.mp d with z | z
  ·have:=r.2 x z; omega
  ·have:=Aj.mp z; omega⟩
theorem Cz.up(r:Cz h ns)(l:h<=h'):Cz h' ns:=⟨r.1,λx a=>by have:=r.2 x a; omega⟩
def gJ(H:Hp)(d:Addr)(c k:Int)(f:Bool):Prop:=H d=some (.lst [.int c,.int k,.bl f])
def Q9:Sp:=λvs H Q _=>∃(d:Addr) (c k:Int) (f:Bool),vs=[.ref d]/\gJ H d c k f/\0<=k/\k<=1000000/\∀(r b:Int) (a:Hp),gJ a d b (k+1) f->Xu d H a->Q (.int r) a
def Bf(ns:List Int):Af:=.tuple (ns.map Az)
theorem vP(ns:List Int):(Bf ns).depth<=1:=by
 have : (Bf ns).depth<=Bu (ns.map Az)+1:=by simp [Bf,Ea]
 rw[uE] at this
 exact this
def IT:List Int:=(Bw 60).map λi:Nat=>(i:Int)
theorem Zr(h0:0<=x)(h1:x<60):x∈IT:=Cm.mpr ⟨x.toNat,Hs.mpr (by omega),by omega⟩
theorem Y6(TD:List Af):Eg (.list TD) (.list [])=TD.isEmpty:=by cases TD <;> simp [Eg,Nn]
theorem kA:∀{l1 l2:List Int},l1.Pairwise (· < ·)->l2.Pairwise (· < ·)->(∀x,x∈l1↔x∈l2)->l1=l2
 | [],[],_,_,_=>rfl
 | [],b::l,_,_,h=>by have:=(h b).mpr Ab; cases this
 | a::l,[],_,_,h=>by have:=(h a).mp Ab; cases this
 | a::l1,b::l2,p1,p2,h=>by
  obtain ⟨d,i⟩:=Ay.mp p1
  obtain ⟨f,g⟩:=Ay.mp p2
  have e:a=b:=by
   rcases Al.mp ((h a).mp Ab) with z | z
   ·exact z
   ·rcases Al.mp ((h b).mpr Ab) with y | y
    ·exact y.symm
    ·have:=d b y; have:=f a z; omega
  subst e
  rw[kA i g λx=>⟨λc=>?_,λc=>?_⟩]
  ·rcases Al.mp ((h x).mp (Ac _ c)) with z | z
   ·have:=d x c; omega
   ·exact z
  ·rcases Al.mp ((h x).mpr (Ac _ c)) with z | z
   ·have:=f x c; omega
   ·exact z
theorem wC(r:Cz 60 ns):NdS.Among IT ns:=λx a=>Zr (r.2 x a).1 (r.2 x a).2
def EB(K:PySem.W.Frag):Sp:=λvs H Q _=>∃(a b:Addr) (d f:List Int),vs=[.ref a,.ref b]/\Wt K H a (d.map V.int)/\Wt K H b (f.map V.int)/\Cz 60 d/\Cz 60 f /\
 ∀(r:Addr) (c:List Int) (e:Hp),H r=none->e r=some (.tup (c.map V.int))->c.Nodup->c.Pairwise (·<=·)->(∀x,x∈c↔x∈d++f)->Va H e->Q (.ref r) e
def K0(b:Bool):Str:=if b=true then "back" else "front"
def order{c:Type}(a b:c)(l:List c):Option Bool->List c
 | none=>l
 | some true=>[a,b]
 | some false=>[b,a]
structure TD(K:PySem.W.Frag)(H:Hp)(x:V)(d:Af)(n m:Nat):Prop where
 rd:RdV K H x d
 fits:Nc 22 d
 nd:Kv d<=n
 dp:d.depth<=m
abbrev EM(K:PySem.W.Frag):List V->Hp->VK->Prop:=λb H Q=>∃p a,b=[V.ref p]/\((Nm K H p a/\∀l,H l=none->Q (.ref l) (upd H l (.tup a)))\/(Wt K H p a/\Q (.ref p) H))
theorem Wf:Nt X (.type "tuple") (EM X.K):=Xv
end Nd
namespace DL
open PySem L2 Nd
def KL(K:PySem.W.Frag)(H:Hp)(a:Addr)(xs:List V):Prop :=
 (∃o,H a=some (.frz o (.lst xs)))\/∃(b:Array Value) (n:Nat),K.lookup a=some { cls:=.type "list",data:=.seq b n }/\b.size<=Au/\Gn xs b.toList
def rK:Nat->Af
 | 0=>.none
 | n+1=>.tuple [rK n]
def Qs(ks:List (List Int×Af)):List (Af×Af):=(rK 100,.none)::ks.map λp=>(Bf p.1,p.2)
def Mb(w:List Int):List Ky:=w.map aK
mutual
inductive RdF (K:PySem.W.Frag) (H:Hp):V->Af->List Addr->Prop
 | non:RdF K H .non .none []
 | bl (b:Bool):RdF K H (.bl b) (.bool b) []
 | int (i:Int):RdF K H (.int i) (.int i) []
 | str (x:Str):RdF K H (.str x) (.str x) []
 | lst {a:Addr} {xs:List V} {ds:List Af} {F:List Addr}:H a=some (.lst xs)->ds.length<=Au->RdFs K H xs ds F->RdF K H (.ref a) (.list ds) (a::F)
 | tup {a:Addr} {xs:List V} {ds:List Af} {F:List Addr}:H a=some (.tup xs)->ds.length<=Au->RdFs K H xs ds F->RdF K H (.ref a) (.tuple ds) F
 | dic {a:Addr} {kv:List (List Ky×V)} {ks:List (List Int×Af)}:H a=some (.dT kv)->kv.map (·.1)=ks.map (λp=>Mb p.1)->RdFs K H (kv.map (·.2)) (ks.map (·.2)) []->RdF K H (.ref a) (.dict (Qs ks)) [a]
inductive RdFs (K:PySem.W.Frag) (H:Hp):List V->List Af->List Addr->Prop
 | nil:RdFs K H [] [] []
 | cons {x:V} {d:Af} {xs:List V} {ds:List Af} {F G:List Addr}:RdF K H x d F->RdFs K H xs ds G->RdFs K H (x::xs) (d::ds) (F++G)
end
def OT(o:HO):Prop:=(∃b,o=.tup b)\/∃a u,o=.frz a u
def Kp(F:List Addr)(H a:Hp):Prop:=∀b o,H b=some o->(b∈F\/OT o)->a b=some o
theorem Kp.of(s:Va H a):Kp F H a:=λb o e _=>s b o e
theorem Kp.sub(k:Kp F H c)(h:∀a∈G,a∈F):Kp G H c:=λb o e z=>k b o e (z.imp (h b) id)
section
variable{K:PySem.W.Frag}{H c:Hp}
theorem KL.kp(h:KL K H a xs)(k:Kp F H c):KL K c a xs:=by
 rcases h with ⟨o,h⟩ | h
 ·exact .inl ⟨o,k _ _ h (.inr (.inr ⟨_,_,rfl⟩))⟩
 ·exact .inr h
theorem KL.sq(h:KL K H a xs):Nm K H a xs:=by
 rcases h with ⟨o,h⟩ | ⟨b,n,h,c,r⟩
 ·exact .inl (.inr ⟨o,h⟩)
 ·exact .inr ⟨_,b,n,h,rfl,rfl,rfl,c,r⟩
mutual
theorem RdF.kp:∀{v:V} {d:Af} {F:List Addr},RdF K H v d F->Kp F H c->RdF K c v d F
 | _,_,_,.non,_=>.non
 | _,_,_,.bl b,_=>.bl b
 | _,_,_,.int i,_=>.int i
 | _,_,_,.str x,_=>.str x
 | _,_,_,.lst h l hs,k=>.lst (k _ _ h (.inl Ab)) l (RdFs.kp hs (k.sub λ_ z=>Ac _ z))
 | _,_,_,.tup h l hs,k=>.tup (k _ _ h (.inr (.inl ⟨_,rfl⟩))) l (RdFs.kp hs k)
 | _,_,_,.dic h e hs,k=>.dic (k _ _ h (.inl Ab)) e (RdFs.kp hs (k.sub λ_ z=>nomatch z))
theorem RdFs.kp:∀{v:List V} {d:List Af} {F:List Addr},RdFs K H v d F->Kp F H c->RdFs K c v d F
 | _,_,_,.nil,_=>.nil
 | _,_,_,.cons h hs,k=>.cons (RdF.kp h (k.sub λ_ z=>Am _ z)) (RdFs.kp hs (k.sub λ_ z=>Ag _ z))
end
theorem cO:∀n,(rK n).depth=n
 | 0=>by simp [rK,Ea]
 | n+1=>by
  have:=cO n
  simp only[rK,Ea,Bu,this]
  omega
theorem Q5:100<=(PyData.dict (Qs ks)).depth:=by
 have:=cO 100
 simp only[Qs,Ea,PyData.depthKv,this]
 omega
mutual
theorem RdF.rd:∀{v:V} {d:Af} {F:List Addr},RdF K H v d F->d.depth<=90->RdV K H v d
 | _,_,_,.non,_=>.non
 | _,_,_,.bl b,_=>.bl b
 | _,_,_,.int i,_=>.int i
 | _,_,_,.str x,_=>.str x
 | _,_,_,.lst h l hs,z=>.lst (Nm.of h) (RdFs.rd hs (by simp only[Ea] at z; omega))
 | _,_,_,.tup h l hs,z=>.tup (Wt.of h) (RdFs.rd hs (by simp only[Ea] at z; omega))
 | _,_,_,.dic h e hs,z=>absurd (Ca Q5 z) (by decide)
theorem RdFs.rd:∀{v:List V} {d:List Af} {F:List Addr},RdFs K H v d F->Bu d<=90->RdVs K H v d
 | _,_,_,.nil,_=>.nil
 | _,_,_,.cons h hs,z=>.cons (RdF.rd h (by simp only[Bu] at z; omega)) (RdFs.rd hs (by simp only[Bu] at z; omega))
end
mutual
theorem RdF.dom:∀{v:V} {d:Af} {F:List Addr},RdF K H v d F->∀a∈F,∃o,H a=some o
 | _,_,_,.non,_,z=>nomatch z
 | _,_,_,.bl b,_,z=>nomatch z
 | _,_,_,.int i,_,z=>nomatch z
 | _,_,_,.str x,_,z=>nomatch z
 | _,_,_,.lst h l hs,b,z=>by
  rcases Al.mp z with rfl | z
  ·exact ⟨_,h⟩
  ·exact RdFs.dom hs b z
 | _,_,_,.tup h l hs,b,z=>RdFs.dom hs b z
 | _,_,_,.dic h e hs,b,z=>⟨_,Aj.mp z▸h⟩
theorem RdFs.dom:∀{v:List V} {d:List Af} {F:List Addr},RdFs K H v d F->∀a∈F,∃o,H a=some o
 | _,_,_,.nil,_,z=>nomatch z
 | _,_,_,.cons h hs,b,z=>by
  rcases Aw.mp z with z | z
  ·exact RdF.dom h b z
  ·exact RdFs.dom hs b z
end
theorem RdFs.len:∀{v:List V} {d:List Af} {F:List Addr},RdFs K H v d F->v.length=d.length
 | _,_,_,.nil=>rfl
 | _,_,_,.cons _ t=>by rw[Bh,Bh,RdFs.len t]
theorem RdFs.get:∀{v:List V} {d:List Af} {F:List Addr} {i:Nat} {e:Af},RdFs K H v d F->d[i]? = some e->∃x G,v[i]? = some x/\RdF K H x e G/\G.Sublist F
 | _,_,_,_,_,.nil,z=>by simp at z
 | _,_,_,0,_,.cons h _,z=>by
  simp at z
  subst z
  exact ⟨_,_,rfl,h,List.sublist_append_left _ _⟩
 | _,_,_,i+1,e,.cons _ t,z=>by
  obtain ⟨x,G,a,c,b⟩:=RdFs.get (i:=i) (e:=e) t (by simpa using z)
  exact ⟨x,G,by simpa using a,c,b.trans (Bq _ _)⟩
theorem RdFs.app:∀{v w:List V} {d e:List Af} {F G:List Addr},RdFs K H v d F->RdFs K H w e G->RdFs K H (v++w) (d++e) (F++G)
 | _,_,_,_,_,_,.nil,h=>h
 | _,_,_,_,_,_,.cons a t,h=>by
  rw[Br]
  exact .cons a (RdFs.app t h)
theorem RdFs.snoc(t:RdFs K H v d F)(h:RdF K H x e G):RdFs K H (v++[x]) (d++[e]) (F++G):=by
 have:=t.app (.cons h .nil)
 rw[Eb] at this
 exact this
end
mutual
def imm:Af->Bool
 | .list _=>false
 | .dict _=>false
 | .tuple a=>Ei a
 | _=>true
def Ei:List Af->Bool
 | []=>true
 | x::xs=>imm x && Ei xs
end
theorem vW:∀{xs:List Af},Ei xs=true↔∀x∈xs,imm x=true
 | []=>by simp [Ei]
 | x::xs=>by simp [Ei,vW (xs:=xs)]
theorem Yc{b:Type}{f:b->Af}(h:∀a,imm (f a)=true)(l:List b):Ei (l.map f)=true:=vW.mpr λx c=>by
 obtain ⟨a,_,rfl⟩:=Cm.mp c
 exact h a
theorem I0(ns:List Int):imm (Bf ns)=true:=by
 unfold Bf
 rw[imm]
 exact Yc (λ_=>by simp [imm]) ns
section
variable{K:PySem.W.Frag}{H a:Hp}
mutual
theorem RdF.imm:∀{v:V} {d:Af} {F:List Addr},RdF K H v d F->DL.imm d=true->F=[]
 | _,_,_,.non,_=>rfl
 | _,_,_,.bl b,_=>rfl
 | _,_,_,.int i,_=>rfl
 | _,_,_,.str x,_=>rfl
 | _,_,_,.lst h l hs,k=>by simp [DL.imm] at k
 | _,_,_,.tup h l hs,k=>RdFs.imm hs (by simpa [DL.imm] using k)
 | _,_,_,.dic h e hs,k=>by simp [DL.imm] at k
theorem RdFs.imm:∀{v:List V} {d:List Af} {F:List Addr},RdFs K H v d F->Ei d=true->F=[]
 | _,_,_,.nil,_=>rfl
 | _,_,_,.cons h hs,k=>by
  rw[Ei,En] at k
  rw[RdF.imm h k.1,RdFs.imm hs k.2]
  rfl
end
end
inductive Md where
 | pk | sh | tp | ow
 deriving DecidableEq
inductive DV where
 | un
 | dat (m:Md) (d:Af)
 | drw
 | dT (kvs:List (List Ky×Af))
 | val (v:V)
 | scr (ns:List Int)
 | acc (ds:List Af)
 | grd (Hc:Hp)
 | tpl (xs:List V)
structure DS where
 sl:List DV
 n:Nat
structure Ent where
 v:Option V
 x:DV
 F:List Addr
def Qg:DV->Bool
 | .dat .pk _=>true
 | _=>false
def MA:DV->Bool
 | .drw=>true
 | _=>false
def HW:DV->Bool
 | .drw=>true
 | .acc _=>true
 | .dT _=>true
 | .grd _=>true
 | _=>false
def cells(e:Ent):List Addr:=match e.x with
 | .dat .ow _=>e.F
 | .dat .tp _=>e.F.take 1
 | .drw=>e.F
 | .dT _=>e.F
 | .acc _=>e.F.take 1
 | .grd _=>e.F
 | _=>[]
theorem Fu(e:Ent):∀a∈cells e,a∈e.F:=by
 obtain ⟨v,x,F⟩:=e
 intro a h
 cases x with
 | un=>exact nomatch h
 | val _=>exact nomatch h
 | scr _=>exact nomatch h
 | drw=>exact h
 | dT _=>exact h
 | grd _=>exact h
 | tpl _=>exact nomatch h
 | acc _=>exact (Jp _ _).subset h
 | dat m d =>
  cases m with
  | pk=>exact nomatch h
  | sh=>exact nomatch h
  | tp=>exact (Jp _ _).subset h
  | ow=>exact h
def Zu(e f:Ent):Prop:=((Qg f.x=false\/HW e.x=true)->∀a∈cells e,a∉f.F)/\((Qg e.x=false\/HW f.x=true)->∀a∈cells f,a∉e.F)
theorem Zu.symm(h:Zu e f):Zu f e:=⟨h.2,h.1⟩
def Ir(K:PySem.W.Frag)(H:Hp)(n:Nat)(e:Ent):Prop:=match e.x with
 | .un=>e.F=[]
 | .dat m d=>∃v,e.v=some v/\RdF K H v d e.F/\(m=.ow->e.F.Nodup)/\(m=.tp->∀a l,e.F=a::l->a∉l)
 | .drw=>∃i c k f,e.v=some (.ref i)/\e.F=[i]/\gJ H i c k f/\0<=k/\k<=(n:Int)
 | .dT b=>∃a h,e.v=some (.ref a)/\e.F=[a]/\H a=some (.dT h)/\h.map (·.1)=b.map (·.1)/\RdFs K H (h.map (·.2)) (b.map (·.2)) []
 | .val v=>e.v=some v/\e.F=[]
 | .scr j=>∃a,e.v=some (.ref a)/\e.F=[]/\KL K H a (j.map V.int)/\j.length<=63
 | .acc p=>∃a g G,e.v=some (.ref a)/\e.F=a::G/\H a=some (.lst g)/\RdFs K H g p G/\p.length<=Au/\a∉G
 | .grd q=>∀a∈e.F,∃o,q a=some o/\H a=some o
 | .tpl g=>∃t,e.v=some (.ref t)/\H t=some (.tup g)/\e.F=[]
structure At(K:PySem.W.Frag)(H0:Hp)(X:Addr->Prop)(n:Nat)(E:List Ent)(H:Hp):Prop where
 ok:∀e∈E,Ir K H n e
 sep:E.Pairwise Zu
 new:∀e∈E,∀a∈cells e,H0 a=none\/(X a/\MA e.x=true)
 same:∀b o,¬ X b->H0 b=some o->H b=some o
 dom:∀b o,H0 b=some o->∃o',H b=some o'
 xd:∀b,X b->H0 b≠none/\∃c k f,gJ H b c k f/\0<=k/\k<=(n:Int)
section
variable{K:PySem.W.Frag}{i H y:Hp}{X:Addr->Prop}{n n':Nat}{E j S T:List Ent}{e f:Ent}
theorem At.perm(h:At K i X n E H)(p:E.Perm j):At K i X n j H :=
 ⟨λe c=>h.ok e (p.mem_iff.mpr c),(p.pairwise_iff λ{a b}=>Zu.symm).mp h.sep,λe c=>h.new e (p.mem_iff.mpr c),h.same,h.dom,h.xd⟩
theorem At.sub(h:At K i X n E H)(p:j.Sublist E):At K i X n j H :=
 ⟨λe a=>h.ok e (p.subset a),h.sep.sublist p,λe a=>h.new e (p.subset a),h.same,h.dom,h.xd⟩
theorem At.drop(h:At K i X n (S++e::T) H):At K i X n (S++T) H:=h.sub ((Cp S).append (Di _ _))
theorem qX:(S++e::T).Perm (e::(S++T)):=El
theorem At.mid(h:At K i X n (S++e::T) H):At K i X n (e::(S++T)) H:=h.perm qX
theorem At.tomid(h:At K i X n (e::(S++T)) H):At K i X n (S++e::T) H:=h.perm qX.symm
theorem Ir.dom(h:Ir K H n e):∀a∈e.F,∃o,H a=some o:=by
 obtain ⟨v,x,F⟩:=e
 intro a ha
 cases x with
 | un=>rw[show F=[] from h] at ha; cases ha
 | val _=>rw[show F=[] from h.2] at ha; cases ha
 | scr _ =>
  obtain ⟨_,_,g,_⟩:=h
  rw[show F=[] from g] at ha; cases ha
 | dat m d =>
  obtain ⟨w,_,h,_⟩:=h
  obtain ⟨i,z⟩:=h.dom a ha
  exact ⟨_,z⟩
 | drw =>
  obtain ⟨q,c,k,f,_,g,h,_⟩:=h
  rw[show F=[q] from g] at ha
  rw[Aj.mp ha]
  exact ⟨_,h⟩
 | grd s =>
  obtain ⟨o,_,z⟩:=h a ha
  exact ⟨o,z⟩
 | tpl i =>
  obtain ⟨_,_,_,g⟩:=h
  rw[show F=[] from g] at ha; cases ha
 | dT j =>
  obtain ⟨b,p,_,g,h,_⟩:=h
  rw[show F=[b] from g] at ha
  rw[Aj.mp ha]
  exact ⟨_,h⟩
 | acc r =>
  obtain ⟨b,p,G,_,g,h,l,_⟩:=h
  rw[show F=b::G from g] at ha
  rcases Al.mp ha with rfl | ha
  ·exact ⟨_,h⟩
  ·obtain ⟨i,z⟩:=l.dom a ha
   exact ⟨_,z⟩
theorem Ir.kp(h:Ir K H n e)(k:Kp e.F H y)(C:n<=n'):Ir K y n' e:=by
 obtain ⟨v,x,F⟩:=e
 cases x with
 | un=>exact h
 | val _=>exact h
 | scr _ =>
  obtain ⟨a,g,i,j,p⟩:=h
  exact ⟨a,g,i,j.kp k,p⟩
 | dat m d =>
  obtain ⟨w,g,i,j⟩:=h
  exact ⟨w,g,i.kp k,j⟩
 | drw =>
  obtain ⟨u,c,B,f,g,q,i,j,p⟩:=h
  have l:F=[u]:=q
  subst l
  exact ⟨u,c,B,f,g,rfl,k _ _ i (.inl Ab),j,by omega⟩
 | tpl E =>
  obtain ⟨t,g,i,j⟩:=h
  exact ⟨t,g,k _ _ i (.inr (.inl ⟨_,rfl⟩)),j⟩
 | grd I =>
  intro a s
  obtain ⟨o,g,i⟩:=h a s
  exact ⟨o,g,k _ _ i (.inl s)⟩
 | dT A =>
  obtain ⟨b,r,g,q,i,j,p⟩:=h
  have l:F=[b]:=q
  subst l
  exact ⟨b,r,g,rfl,k _ _ i (.inl Ab),j,p.kp (k.sub λ_ z=>nomatch z)⟩
 | acc D =>
  obtain ⟨b,r,G,g,q,i,j,p⟩:=h
  have l:F=b::G:=q
  subst l
  exact ⟨b,r,G,g,rfl,k _ _ i (.inl Ab),j.kp (k.sub λ_ z=>Ac _ z),p⟩
theorem At.grow(h:At K i X n E H)(s:Va H y)(g:n<=n'):At K i X n' E y :=
 ⟨λe a=>(h.ok e a).kp (Kp.of s) g,h.sep,h.new,λb o d e=>s _ _ (h.same b o d e),λb o e=>let ⟨o',q⟩:=h.dom b o e; ⟨o',s _ _ q⟩,λb j=>let ⟨z,c,k,f,h1,h2,h3⟩:=h.xd b j; ⟨z,c,k,f,s _ _ h1,h2,by omega⟩⟩
theorem At.free(h:At K i X n E H)(c:H a=none):∀e∈E,a∉e.F:=λe b z=>by
 obtain ⟨o,q⟩:=(h.ok e b).dom a z
 rw[c] at q; cases q
theorem At.push(h:At K i X n E H)(ok:Ir K H n e)(c:∀f∈E,Zu e f)(b:∀a∈cells e,i a=none\/(X a/\MA e.x=true)):At K i X n (e::E) H :=
 ⟨λg hg=>by
  rcases Al.mp hg with rfl | hg
  ·exact ok
  ·exact h.ok g hg,Ay.mpr ⟨c,h.sep⟩,λg hg=>by
  rcases Al.mp hg with rfl | hg
  ·exact b
  ·exact h.new g hg,h.same,h.dom,h.xd⟩
theorem At.new0(h:At K i X n E H)(a:H p=none):i p=none:=by
 cases q:i p with
 | none=>rfl
 | some o =>
  obtain ⟨b,z⟩:=h.dom p o q
  rw[a] at z; cases z
theorem X7:Zu ⟨v,.dat m d,[]⟩ f:=by
 refine ⟨λ_ a b=>?_,λ_ a _=>Ba⟩
 have:=Fu _ a b
 cases this
theorem At.pushI(h:At K i X n (S++T) H)(r:RdF K H v d []):At K i X n (S++⟨some v,.dat m d,[]⟩::T) H :=
 (h.push (e:=⟨some v,.dat m d,[]⟩) ⟨v,rfl,r,λ_=>Dx,λ_ a l z=>nomatch z⟩ (λf _=>X7) (λa b=>nomatch Fu _ a b)).tomid
def wk:Md->Md->Bool
 | _,.pk=>true
 | .pk,_=>false
 | _,.sh=>true
 | .sh,_=>false
 | _,.tp=>true
 | .tp,.ow=>false
 | .ow,.ow=>true
theorem rD(w:wk m c=true):∀a∈cells ⟨v,.dat c d,F⟩,a∈cells ⟨v,.dat m d,F⟩:=by
 intro a b
 cases m <;> cases c <;> first | exact absurd w (by decide) | exact b | exact absurd b Ba | exact (Jp 1 F).subset b
theorem j5{b:Type}{F:List b}(h:F.Nodup):∀a l,F=a::l->a∉l:=λa l e=>by
 subst e
 exact (Bx.mp h).1
theorem Ir.wk(w:wk m b=true)(h:Ir K H n ⟨v,.dat m d,F⟩):Ir K H n ⟨v,.dat b d,F⟩:=by
 obtain ⟨u,f,g,a,c⟩:=h
 refine ⟨u,f,g,λe=>?_,λe=>?_⟩
 ·subst e
  cases m <;> first | exact absurd w (by decide) | exact a rfl
 ·subst e
  cases m <;> first | exact absurd w (by decide) | exact c rfl | exact j5 (a rfl)
theorem Zu.wk(w:wk m c=true)(h:Zu ⟨v,.dat m d,F⟩ f):Zu ⟨v,.dat c d,F⟩ f:=by
 refine ⟨λhp a b=>?_,λhp a b=>?_⟩
 ·rcases hp with hp | hp
  ·exact h.1 (.inl hp) a (rD w a b)
  ·cases hp
 ·rcases hp with hp | hp
  ·refine h.2 (.inl ?_) a b
   cases m <;> cases c <;> first | rfl | exact absurd w (by decide) | exact absurd hp (by show ¬ (true=false); decide)
  ·exact h.2 (.inr hp) a b
theorem At.wk(w:wk m b=true)(h:At K i X n (⟨v,.dat m d,F⟩::E) H):At K i X n (⟨v,.dat b d,F⟩::E) H:=by
 have e:=Ay.mp h.sep
 refine (h.sub (Di _ _)).push ((h.ok _ Ab).wk w) (λf c=>(e.1 f c).wk w) λa g=>?_
 rcases h.new _ Ab a (rD w a g) with z | z
 ·exact .inl z
 ·cases z.2
end
abbrev DE:=DS->(DV->DS->Prop)->Prop
abbrev DT:=DS->(Bool->DS->Prop)->Prop
abbrev DA:=DS->(List DV->DS->Prop)->Prop
structure DEnds where
 nx:DS->Prop
 rt:DV->DS->Prop
 bk:DS->Prop:=λ_=>False
 ct:DS->Prop:=λ_=>False
abbrev DB:=DEnds->DS->Prop
abbrev DG:=DV->DS->(DS->Prop)->Prop
abbrev j8:=List DV->DS->(DS->Prop)->Prop
def vs(S:List Ent):L2.St:=S.map Ent.v
def Sl(S:List Ent)(a:DS):Prop:=S.map Ent.x=a.sl
section
variable(K:PySem.W.Frag)
def LE(g:DE):TE:=λd H Q=>∃(f:Hp) (X:Addr->Prop) (S T:List Ent) (c:DS) (P:DV->DS->Prop),vs S=d/\Sl S c/\At K f X c.n (S++T) H/\g c P /\
 ∀x a v F b e,vs b=d->Sl b a->At K f X a.n (b++⟨some v,x,F⟩::T) e->P x a->Q v e
def LT(dt:DT):TT:=λf H Q=>∃(g:Hp) (X:Addr->Prop) (S T:List Ent) (d:DS) (P:Bool->DS->Prop),vs S=f/\Sl S d/\At K g X d.n (S++T) H/\dt d P /\
 ∀b a c e,vs c=f->Sl c a->At K g X a.n (c++T) e->P b a->Q b e
def LA(j:DA):TA:=λf H Q=>∃(h:Hp) (X:Addr->Prop) (S T:List Ent) (d:DS) (P:List DV->DS->Prop),vs S=f/\Sl S d/\At K h X d.n (S++T) H/\j d P /\
 ∀i a c e b g,vs b=f->Sl b a->c.map Ent.x=i->c.map Ent.v=e.map some->At K h X a.n (b++(c++T)) g->P i a->Q e g
def LS(g:DB):TS:=λD h H=>∃(d:Hp) (X:Addr->Prop) (S T:List Ent) (f:DS) (P:DEnds),vs S=h/\Sl S f/\(∀e∈T,Qg e.x=false)/\At K d X f.n (S++T) H/\g P f /\
 (∀a b c,Sl b a->At K d X a.n (b++T) c->P.nx a->D.nx (vs b) c) /\
 (∀x a v F b c,Sl b a->At K d X a.n (b++⟨some v,x,F⟩::T) c->P.rt x a->D.rt v c) /\
 (∀a b c,Sl b a->At K d X a.n (b++T) c->P.bk a->D.bk (vs b) c) /\
 (∀a b c,Sl b a->At K d X a.n (b++T) c->P.ct a->D.ct (vs b) c)
def LG(f:DG):TG:=λv g H Q=>∃(e:Hp) (X:Addr->Prop) (S T:List Ent) (c:DS) (x:DV) (F:List Addr) (P:DS->Prop),vs S=g/\Sl S c/\At K e X c.n (S++⟨some v,x,F⟩::T) H/\f x c P /\
 ∀a b d,Sl b a->At K e X a.n (b++T) d->P a->Q (vs b) d
def QR(h:j8):F7:=λg i H Q=>∃(f:Hp) (X:Addr->Prop) (S T c:List Ent) (d:DS) (P:DS->Prop),vs S=i/\Sl S d/\c.map Ent.v=g.map some/\At K f X d.n (S++(c++T)) H/\h (c.map Ent.x) d P /\
 ∀a b e,Sl b a->At K f X a.n (b++T) e->P a->Q (vs b) e
end
abbrev Fw(X:Cx)(e:Expr)(a:DE):Prop:=PE X e (LE X.K a)
abbrev sG(X:Cx)(e:Expr)(dt:DT):Prop:=PT X e (LT X.K dt)
abbrev IA(X:Cx)(e:Expr)(dt:DT):Prop:=PW X e (LT X.K dt)
abbrev lN(X:Cx)(es:List Expr)(a:DA):Prop:=PA X es (LA X.K a)
abbrev zS(X:Cx)(st:Stmt)(a:DB):Prop:=PS X st (LS X.K a)
abbrev dF(X:Cx)(st:List Stmt)(a:DB):Prop:=wO X st (LS X.K a)
abbrev IP(X:Cx)(b:Expr)(a:DG):Prop:=PG X b (LG X.K a)
abbrev F8(X:Cx)(b:List Expr)(a:j8):Prop:=CU X b (QR X.K a)
theorem PE.imp(h:PE X e t)(k:∀a H Q,t' a H Q->t a H Q):PE X e t':=λb s a H Q I q=>h b s a H Q I (k a H Q q)
theorem PT.imp(h:PT X e t)(k:∀a H Q,t' a H Q->t a H Q):PT X e t':=λb s a H Q I q=>h b s a H Q I (k a H Q q)
theorem PW.imp(h:PW X e t)(k:∀a H Q,t' a H Q->t a H Q):PW X e t':=λc b s a H Q I q=>h c b s a H Q I (k a H Q q)
theorem PA.imp(h:PA X e t)(k:∀a H Q,t' a H Q->t a H Q):PA X e t':=λc b s a H Q I q=>h c b s a H Q I (k a H Q q)
theorem PG.imp(h:PG X e t)(k:∀v a H Q,t' v a H Q->t v a H Q):PG X e t':=λb s a H v u Q I r q=>h b s a H v u Q I r (k v a H Q q)
theorem CU.imp(h:CU X e t)(k:∀v a H Q,t' v a H Q->t v a H Q):CU X e t':=λb s a H v u Q I r q=>h b s a H v u Q I r (k v a H Q q)
section
variable{K:PySem.W.Frag}{H:Hp}{v:V}{F:List Addr}
theorem RdF.int_inv(h:RdF K H v (.int i) F):v=.int i/\F=[]:=by cases h; exact ⟨rfl,rfl⟩
theorem RdF.bl_inv(h:RdF K H v (.bool i) F):v=.bl i/\F=[]:=by cases h; exact ⟨rfl,rfl⟩
theorem RdF.str_inv(h:RdF K H v (.str i) F):v=.str i/\F=[]:=by cases h; exact ⟨rfl,rfl⟩
theorem RdF.list_inv(h:RdF K H v (.list ds) F):∃a xs G,v=.ref a/\H a=some (.lst xs)/\RdFs K H xs ds G/\F=a::G/\ds.length<=Au:=by
 cases h with
 | lst h l b=>exact ⟨_,_,_,rfl,h,b,rfl,l⟩
theorem RdF.tup_inv(h:RdF K H v (.tuple ds) F):∃a xs,v=.ref a/\H a=some (.tup xs)/\RdFs K H xs ds F/\ds.length<=Au:=by
 cases h with
 | tup h l b=>exact ⟨_,_,rfl,h,b,l⟩
end
section
variable{K:PySem.W.Frag}{a H b:Hp}{X:Addr->Prop}{n:Nat}{E S T:List Ent}{v:V}{m:Md}{d:Af}{F:List Addr}
theorem At.told(h:At K a X n E H)(b:⟨some v,.dat m d,F⟩∈E):RdF K H v d F:=by
 obtain ⟨w,e,c,_⟩:=h.ok _ b
 cases e
 exact c
theorem mem_mid:e∈S++e::T:=Ag _ Ab
theorem Fp:f∈S++e::f::T:=Ag _ (Ac _ Ab)
theorem At.drop2(h:At K a X n (S++e::f::T) H):At K a X n (S++T) H:=h.drop.drop
theorem At.dropL(h:At K a X n (S++(As++T)) H):At K a X n (S++T) H:=h.sub ((Cp S).append (Bq As T))
end
def pZ:Md->Md
 | .ow=>.pk
 | .tp=>.pk
 | m=>m
def GH(i:Nat):DE:=λa P=>match a.sl[i]? with
 | some (.dat m d)=>P (.dat (pZ m) d) a
 | _=>False
def dC(d:Af):DE:=λa P=>P (.dat .ow d) a
theorem Mz{i:Nat}(h:Sl S b)(e:b.sl[i]? = some x):∃a,S[i]? = some a/\a.x=x:=by
 unfold Sl at h
 rw[<- h,Bg] at e
 cases q:S[i]? with
 | none=>rw[q] at e; cases e
 | some a=>rw[q] at e; exact ⟨a,rfl,Cj e⟩
theorem Uw{i:Nat}(h:S[i]? = some e):(vs S)[i]? = some e.v:=by
 unfold vs
 rw[Bg,h]
 rfl
theorem At.look(h:At K j X n (S++T) H)(o:⟨u,.dat m d,F⟩∈S)(q:u=some v):At K j X n (S++⟨some v,.dat (pZ m) d,F⟩::T) H:=by
 subst q
 obtain ⟨i,c,rfl⟩:=List.append_of_mem o
 have k:((i++⟨some v,.dat m d,F⟩::c)++T).Perm (⟨some v,.dat m d,F⟩::(i++(c++T))):=by
  rw[Br,Fq]
  exact El
 have g:=h.perm k
 have l:=Ay.mp g.sep
 refine (h.push (e:=⟨some v,.dat (pZ m) d,F⟩) ?_ (λf hf=>?_) λa b=>?_).tomid
 ·obtain ⟨w,r,p,_⟩:=g.ok _ Ab
  refine ⟨w,r,p,λz=>?_,λz=>?_⟩ <;> cases m <;> cases z
 ·refine ⟨λ_ a b=>?_,λhq a b=>?_⟩
  ·cases m <;> exact nomatch b
  ·rcases Al.mp (k.mem_iff.mp hf) with rfl | hf
   ·rcases hq with hq | hq
    ·cases m <;> first | cases hq; done | exact nomatch b
    ·cases hq
   ·refine (l.1 f hf).2 ?_ a b
    rcases hq with hq | hq
    ·refine .inl ?_
     cases m <;> first | rfl | exact hq
    ·exact .inr hq
 ·cases m <;> exact nomatch b
section
variable{X:Cx}{e:Expr}
theorem Ar(h:PE X e (mG i)):Fw X e (GH i):=by
 refine PE.imp h λq H Q h=>?_
 obtain ⟨r,Y,S,T,p,P,rfl,l,g,b,k⟩:=h
 unfold GH at b
 split at b
 ·rename_i m d o
  obtain ⟨a,c,n⟩:=Mz l o
  have f:a∈S:=Bj c
  obtain ⟨u,x,F⟩:=a
  subst n
  obtain ⟨v,j,_⟩:=g.ok _ (Am _ f)
  refine ⟨v,by rw[Uw c]; exact congrArg some j,k _ p v F S H rfl l (g.look f j) b⟩
 ·exact b.elim
theorem vC(h:PE X e (tC v))(r:∀H,RdF X.K H v d []):Fw X e (dC d):=by
 refine PE.imp h λg H Q h=>?_
 obtain ⟨i,Y,S,T,c,P,rfl,b,a,f,k⟩:=h
 exact k _ c v [] S H rfl b (a.pushI (r H)) f
theorem Dt:Fw X (.Constant (.int i) j pos) (dC (.int i)):=vC Fn λ_=>.int i
theorem jW:Fw X (.Constant (.bool i) j pos) (dC (.bool i)):=vC F0 λ_=>.bl i
theorem mN:Fw X (.Constant (.str i) j pos) (dC (.str i)):=vC U6 λ_=>.str i
end
def MO(b:DE):DE:=λc P=>b c λx a=>match x with
 | .dat _ d=>imm d=true/\P (.dat .ow d) a
 | _=>False
theorem Qi(h:Fw X e c):Fw X e (MO c):=by
 refine PE.imp h λt H Q h=>?_
 obtain ⟨q,Y,S,T,j,P,rfl,n,i,s,k⟩:=h
 refine ⟨q,Y,S,T,j,_,rfl,n,i,s,λx b v F g o l f a p=>?_⟩
 cases x with
 | dat m d =>
  have r:=a.told mem_mid
  obtain rfl:=r.imm p.1
  exact k _ b v [] g o l f (a.drop.pushI r) p.2
 | _=>exact p.elim
def C0(i:Nat):DE:=λa P=>match a.sl[i]? with
 | some (.dat m d)=>P (.dat m d) ⟨a.sl.set i .un,a.n⟩
 | _=>False
theorem fO{a:Type}:∀{l:List a} {i:Nat} {x y:a},l[i]? = some x->(y::l).Perm (x::l.set i y)
 | [],i,x,y,h=>by simp at h
 | z::l,0,x,y,h=>by
  simp at h
  subst h
  exact Ef _ _ _
 | z::l,i+1,x,y,h=>by
  have b:=fO (l:=l) (i:=i) (x:=x) (y:=y) (by simpa using h)
  rw[List.set_cons_succ]
  exact (Ef z y l).trans ((b.cons z).trans (Ef x z _))
theorem eL(h:PE X e (mG i)):Fw X e (C0 i):=by
 refine PE.imp h λI H Q h=>?_
 obtain ⟨G,Y,S,T,z,P,rfl,q,s,g,k⟩:=h
 unfold C0 at g
 split at g
 ·rename_i m d E
  obtain ⟨b,c,t⟩:=Mz q E
  have B:b∈S:=Bj c
  obtain ⟨u,x,F⟩:=b
  subst t
  obtain ⟨v,D,C⟩:=s.ok _ (Am _ B)
  have o:u=some v:=D
  subst o
  refine ⟨v,by rw[Uw c],k _ _ v F (S.set i ⟨some v,.un,[]⟩) H ?_ ?_ ?_ g⟩
  ·unfold vs
   rw[Ks]
   apply Ol
   intro j
   rw[Oj]
   split
   ·rename_i l
    subst l
    rw[Bg,c]
    split
    ·rfl
    ·rename_i r
     rw[Ad] at r
     exact absurd (Bb.mp c).1 r
   ·rfl
  ·unfold Sl at q ⊢
   rw[Ks,q]
  ·have w:=s.push (e:=⟨some v,.un,[]⟩) (show Ir X.K H z.n ⟨some v,.un,[]⟩ from rfl) (λf _=>⟨λ_ a p=>(nomatch p),λ_ a _=>Ba⟩) (λa p=>(nomatch p))
   have A:(⟨some v,.un,[]⟩::(S++T)).Perm ((S.set i ⟨some v,.un,[]⟩)++⟨some v,.dat m d,F⟩::T):=by
    rw[<- Fq]
    exact ((fO (y:=(⟨some v,.un,[]⟩ : Ent)) c).append_right T).trans (by rw[Fq]; exact List.perm_middle.symm)
   exact w.perm A
 ·exact g.elim
abbrev D2:=DV->DV->(DV->Prop)->Prop
def sZ(K:PySem.W.Frag)(r:R2)(rd:D2):Prop:=∀(b:Hp) (X:Addr->Prop) (n:Nat) (S T:List Ent) (x y:DV) (v w:V) (F G:List Addr) (H:Hp) (Q:VK) (P:DV->Prop),
 At K b X n (S++⟨some w,y,G⟩::⟨some v,x,F⟩::T) H->rd x y P->(∀z u c a,At K b X n (S++⟨some u,z,c⟩::T) a->P z->Q u a)->r v w H Q
def dI(rd:D2)(d c:DE):DE:=λe P=>d e λx a=>c a λy b=>rd x y λz=>P z b
theorem pN(o:sZ K r rd):∀g H Q,LE K (dI rd j i) g H Q->MT r (LE K j) (LE K i) g H Q:=by
 intro g H Q h
 obtain ⟨e,Y,S,T,A,P,rfl,I,E,C,k⟩:=h
 refine ⟨e,Y,S,T,A,_,rfl,I,E,C,λx b v F s O L q d B=>?_⟩
 refine ⟨e,Y,s,⟨some v,x,F⟩::T,b,_,L,q,d,B,λy a w G l t m N c D=>?_⟩
 exact o e Y a.n l T x y v w F G t Q _ c D λz u J p f M=>k z a u J l p m N f M
section
variable{X:Cx}{a b:Expr}{d c:DE}{pos:Pos}{r:R2}{rd:D2}
theorem Zt(f:aQ X (Kb op) r)(o:sZ X.K r rd)(e:Fw X a d)(hb:Fw X b c):Fw X (.BinOp a op b pos) (dI rd d c):=PE.imp (Ku f e hb) (pN o)
theorem tN(g:aQ X (Jy op) r)(o:sZ X.K r rd)(f:Fw X a d)(hb:Fw X b c)(e:Hf op b=false):Fw X (.Compare a [op] [b] pos) (dI rd d c):=PE.imp (BL g f hb e) (pN o)
theorem KI(g:AA X r)(o:sZ X.K r rd)(e:Fw X a d)(hb:Fw X b c)(f:lV b):Fw X (.Subscript a b pos) (dI rd d c):=PE.imp (Uy g e hb f) (pN o)
end
def IQ(C:Int->Int->Prop)(g:Int->Int->Af):D2:=λx y P=>match x,y with
 | .dat _ (.int i),.dat _ (.int j)=>C i j/\P (.dat .ow (g i j))
 | _,_=>False
def j6(g:Int->Int->Af):D2:=λx y P=>match x,y with
 | .dat _ (.int i),.dat _ (.int j)=>P (.dat .ow (g i j))
 | _,_=>False
section
variable{K:PySem.W.Frag}
theorem HM(h:∀i j H,RdF K H (g i j) (g' i j) []):sZ K (rI C g) (IQ C g'):=by
 intro c X n S T x y v w F G H Q P b a k
 unfold IQ at a
 split at a
 ·obtain ⟨rfl,_⟩:=(b.told Fp).int_inv
  obtain ⟨rfl,_⟩:=(b.told mem_mid).int_inv
  exact ⟨_,_,rfl,rfl,a.1,k _ _ [] H (b.drop2.pushI (h _ _ H)) a.2⟩
 ·exact a.elim
theorem xB(h:∀i j H,RdF K H (g i j) (g' i j) []):sZ K (FI g) (j6 g'):=by
 intro c X n S T x y v w F G H Q P b a k
 unfold j6 at a
 split at a
 ·obtain ⟨rfl,_⟩:=(b.told Fp).int_inv
  obtain ⟨rfl,_⟩:=(b.told mem_mid).int_inv
  exact ⟨_,_,rfl,rfl,k _ _ [] H (b.drop2.pushI (h _ _ H)) a⟩
 ·exact a.elim
end
abbrev rdAdd:D2:=j6 λi j=>.int (i+j)
abbrev rdSub:D2:=j6 λi j=>.int (i - j)
abbrev rdMul:D2:=IQ AL λi j=>.int (i * j)
abbrev rdDiv:D2:=IQ FJ λi j=>.int (i / j)
abbrev rdMod:D2:=IQ (λ_ j=>0<j) λi j=>.int (i % j)
abbrev rdLt:D2:=j6 λi j=>.bool (decide (i<j))
section
variable{X:Cx}{a b:Expr}{d c:DE}{pos:Pos}
theorem cB(e:Fw X a d)(hb:Fw X b c):Fw X (.BinOp a .Add b pos) (dI rdAdd d c):=Zt gP (xB λ_ _ _=>.int _) e hb
theorem EZ(e:Fw X a d)(hb:Fw X b c):Fw X (.BinOp a .Sub b pos) (dI rdSub d c):=Zt GZ (xB λ_ _ _=>.int _) e hb
theorem GY(e:Fw X a d)(hb:Fw X b c):Fw X (.BinOp a .Mult b pos) (dI rdMul d c):=Zt bV (HM λ_ _ _=>.int _) e hb
theorem mF(e:Fw X a d)(hb:Fw X b c):Fw X (.BinOp a .FloorDiv b pos) (dI rdDiv d c):=Zt nQ (HM λ_ _ _=>.int _) e hb
theorem Qv(e:Fw X a d)(hb:Fw X b c):Fw X (.BinOp a .Mod b pos) (dI rdMod d c):=Zt Yd (HM λ_ _ _=>.int _) e hb
theorem IX(e:Fw X a d)(hb:Fw X b c):Fw X (.Compare a [.Lt] [b] pos) (dI rdLt d c):=tN CZ (xB λ_ _ _=>.bl _) e hb (Yn _)
end
def nK(a:Bool):D2:=λx y P=>match x,y with
 | .dat _ d,.dat _ e=>d.depth<=60/\e.depth<=60/\P (.dat .ow (.bool (match a with | true=>!Eg d e | false=>Eg d e)))
 | _,_=>False
def vF(a:Bool):D2:=λx y P=>match x,y with
 | .dat _ d,.dat _ (.list es)=>Bu es<=60/\d.depth<=60/\P (.dat .ow (.bool (match a with | true=>!(es.any λe=>Eg e d) | false=>es.any λe=>Eg e d)))
 | .dat _ d,.dat _ (.tuple es)=>Bu es<=60/\d.depth<=60/\P (.dat .ow (.bool (match a with | true=>!(es.any λe=>Eg e d) | false=>es.any λe=>Eg e d)))
 | _,_=>False
section
variable{K:PySem.W.Frag}
theorem ED:sZ K (MX K) (nK false):=by
 intro c X n S T x y v w F G H Q P b a k
 unfold nK at a
 split at a
 ·exact ⟨_,_,(b.told Fp).rd (Ca a.1 (by decide)),(b.told mem_mid).rd (Ca a.2.1 (by decide)),a.1,k _ _ [] H (b.drop2.pushI (.bl _)) a.2.2⟩
 ·exact a.elim
theorem MU:sZ K (MF K) (nK true):=by
 intro c X n S T x y v w F G H Q P b a k
 unfold nK at a
 split at a
 ·exact ⟨_,_,(b.told Fp).rd (Ca a.1 (by decide)),(b.told mem_mid).rd (Ca a.2.1 (by decide)),a.1,k _ _ [] H (b.drop2.pushI (.bl _)) a.2.2⟩
 ·exact a.elim
theorem K1:sZ K (FK K d) (vF d):=by
 intro h X n S T x y v w F G H Q P c b k
 unfold vF at b
 split at b
 ·obtain ⟨a,g,i,rfl,f,e,_,_⟩:=(c.told mem_mid).list_inv
  refine ⟨a,g,_,_,rfl,.inl (Nm.of f),(c.told Fp).rd (Ca b.2.1 (by decide)),e.rd (Ca b.1 (by decide)),b.1,?_⟩
  cases d with
  | true=>exact k _ _ [] H (c.drop2.pushI (.bl _)) b.2.2
  | false=>exact k _ _ [] H (c.drop2.pushI (.bl _)) b.2.2
 ·obtain ⟨a,g,rfl,f,e,_⟩:=(c.told mem_mid).tup_inv
  refine ⟨a,g,_,_,rfl,.inr (Wt.of f),(c.told Fp).rd (Ca b.2.1 (by decide)),e.rd (Ca b.1 (by decide)),b.1,?_⟩
  cases d with
  | true=>exact k _ _ [] H (c.drop2.pushI (.bl _)) b.2.2
  | false=>exact k _ _ [] H (c.drop2.pushI (.bl _)) b.2.2
 ·exact b.elim
end
section
variable{X:Cx}{a b:Expr}{d c:DE}{pos:Pos}
theorem eV(f:X.A.units+64<cLine)(e:Fw X a d)(hb:Fw X b c):Fw X (.Compare a [.Eq] [b] pos) (dI (nK false) d c):=tN (O6 f) ED e hb (Yn _)
theorem JJ(g:X.A.units+64<cLine)(e:Fw X a d)(hb:Fw X b c)(f:Hf .In b=false:=by with_unfolding_all rfl):Fw X (.Compare a [.In] [b] pos) (dI (vF false) d c):=tN (Q7 g) K1 e hb f
end
def Pe:Md->Md
 | .ow=>.ow
 | .tp=>.sh
 | m=>m
theorem At.part(h:At K l X n (S++⟨some v,.dat m d,F⟩::T) H)(r:RdF K H w e G)(c:G.Sublist F):At K l X n (S++⟨some w,.dat (Pe m) e,G⟩::T) H:=by
 have g:=h.mid
 have j:=Ay.mp g.sep
 obtain ⟨s,t,p,o,q⟩:=g.ok _ Ab
 have i:∀a∈cells ⟨some w,.dat (Pe m) e,G⟩,a∈cells ⟨some v,.dat m d,F⟩:=λa b=>by
  cases m with
  | ow=>exact c.subset b
  | tp=>exact nomatch b
  | sh=>exact nomatch b
  | pk=>exact nomatch b
 refine (h.drop.push (e:=⟨some w,.dat (Pe m) e,G⟩) ⟨w,rfl,r,λz=>?_,λz=>?_⟩ (λf k=>?_) λa b=>?_).tomid
 ·cases m with
  | ow=>exact (o rfl).sublist c
  | _=>cases z
 ·cases m <;> cases z
 ·refine ⟨λhp a b=>(j.1 f k).1 ?_ a (i a b),λhp a b z=>(j.1 f k).2 ?_ a b (c.subset z)⟩
  ·rcases hp with hp | hp
   ·exact .inl hp
   ·cases hp
  ·rcases hp with hp | hp
   ·refine .inl ?_
    cases m <;> first | rfl | exact hp
   ·exact .inr hp
 ·rcases g.new _ Ab a (i a b) with z | z
  ·exact .inl z
  ·cases z.2
def T6:D2:=λx y P=>match x,y with
 | .dat m (.list ds),.dat _ (.int i)=>∃d,aR ds i=some d/\P (.dat (Pe m) d)
 | .dat m (.tuple ds),.dat _ (.int i)=>∃d,aR ds i=some d/\P (.dat (Pe m) d)
 | .dat _ (.str z),.dat _ (.int i)=>z.length<=Au/\∃c,aR z.cps.toList i=some c/\P (.dat .ow (.str ⟨#[c]⟩))
 | _,_=>False
theorem Q4(r:RdFs K H xs ds F)(h:aR ds i=some d):∃x G,aR xs i=some x/\RdF K H x d G/\G.Sublist F:=by
 unfold aR at h ⊢
 rw[r.len]
 cases e:V0 ds.length i with
 | none=>rw[e] at h; cases h
 | some j =>
  rw[e] at h
  exact r.get h
theorem At.swap(h:At K a X n (S++e::f::T) H):At K a X n (S++f::e::T) H:=h.perm ((Hj S).append (Ef f e T))
theorem KH:sZ K (QI K) T6:=by
 intro z X n S T x y v w F G H Q P b f k
 unfold T6 at f
 split at f
 ·obtain ⟨d,g,p⟩:=f
  obtain ⟨rfl,_⟩:=(b.told mem_mid).int_inv
  have r:=b.told Fp
  have e:=b.drop
  obtain ⟨a,t,u,rfl,l,h,q,_⟩:=r.list_inv
  obtain ⟨x,o,i,m,j⟩:=Q4 h g
  subst q
  exact .inl ⟨_,_,_,_,rfl,rfl,Nm.of l,i,k _ _ o H (e.part m (j.trans (Di _ _))) p⟩
 ·obtain ⟨d,g,p⟩:=f
  obtain ⟨rfl,_⟩:=(b.told mem_mid).int_inv
  have r:=b.told Fp
  have e:=b.drop
  obtain ⟨a,t,rfl,l,h,_⟩:=r.tup_inv
  obtain ⟨x,o,i,m,j⟩:=Q4 h g
  exact .inr (.inl ⟨_,_,_,_,rfl,rfl,Wt.of l,i,k _ _ o H (e.part m j) p⟩)
 ·obtain ⟨s,c,g,p⟩:=f
  obtain ⟨rfl,_⟩:=(b.told mem_mid).int_inv
  obtain ⟨rfl,_⟩:=(b.told Fp).str_inv
  exact .inr (.inr ⟨_,_,_,rfl,rfl,s,g,k _ _ [] H (b.drop2.pushI (.str _)) p⟩)
 ·exact f.elim
theorem Iw(f:Fw X a d)(hb:Fw X b c)(e:lV b:=by intro _ _; rfl):Fw X (.Subscript a b pos) (dI T6 d c):=KI FQ KH f hb e
def Zz:Md->Md
 | .ow=>.ow
 | .pk=>.pk
 | _=>.tp
def Wa(i:Bool)(m:Md)(ds:List Af)(P:DV->Prop):Prop:=match i with
 | true=>Ei ds=true/\P (.dat .ow (.list ds))
 | false=>P (.dat (Zz m) (.list ds))
def mR(i:Bool)(m:Md)(ds:List Af)(P:DV->Prop):Prop:=match i with
 | true=>Ei ds=true/\P (.dat .ow (.tuple ds))
 | false=>P (.dat (Pe m) (.tuple ds))
section
variable{K:PySem.W.Frag}{b H:Hp}{X:Addr->Prop}{n:Nat}{S T:List Ent}{v w:V}{m:Md}{d e:Af}{F G:List Addr}{p:Addr}{xs:List V}{ds:List Af}{P:DV->Prop}{i:Bool}
theorem At.newI(h:At K b X n (S++T) H)(r:RdFs K H xs ds G)(k:Ei ds=true)(hz:ds.length<=Au)(d:H p=none)(m:Md):At K b X n (S++⟨some (.ref p),.dat m (.list ds),[p]⟩::T) (upd H p (.lst xs)):=by
 obtain rfl:=r.imm k
 have g:=Ew d (.lst xs)
 have j:=h.grow (n':=n) g (Ak _)
 refine (j.push (e:=⟨some (.ref p),.dat m (.list ds),[p]⟩) ⟨_,rfl,.lst Dn hz (r.kp (Kp.of g)),λ_=>Bx.mpr ⟨Ba,Dx⟩,λ_ a l z=>by cases z; exact Ba⟩ (λf o=>?_) λa c=>?_).tomid
 ·have i:=h.free d f o
  refine ⟨λ_ a c z=>?_,λ_ a c z=>?_⟩
  ·have:=Fu _ a c
   rw[Aj.mp this] at z
   exact i z
  ·rw[Aj.mp z] at c
   exact i (Fu _ _ c)
 ·have:=Fu _ a c
  rw[Aj.mp this]
  exact .inl (h.new0 d)
theorem At.newL(h:At K b X n (S++⟨some v,.dat m d,F⟩::T) H)(r:RdFs K H xs ds G)(o:G.Sublist F)(hz:ds.length<=Au)(k:H p=none)(q:Wa i m ds P):∃z C,At K b X n (S++⟨some (.ref p),z,C⟩::T) (upd H p (.lst xs))/\P z:=by
 cases i with
 | true=>exact ⟨_,_,h.drop.newI r q.1 hz k .ow,q.2⟩
 | false =>
  have q:P (.dat (Zz m) (.list ds)):=q
  refine ⟨_,p::G,?_,q⟩
  have x:=Ew k (.lst xs)
  have g:=h.mid
  have w:=Ay.mp g.sep
  obtain ⟨D,E,_,B,_⟩:=g.ok _ Ab
  have A:=h.drop.grow (n':=n) x (Ak _)
  have t:p∉F:=g.free k _ Ab
  have j:p∉G:=λz=>t (o.subset z)
  have u:∀a∈cells ⟨some (.ref p),.dat (Zz m) (.list ds),p::G⟩,a=p\/(a∈cells ⟨some v,.dat m d,F⟩):=λa c=>by
   cases m with
   | ow =>
    rcases Al.mp c with z | z
    ·exact .inl z
    ·exact .inr (o.subset z)
   | tp=>exact .inl (Aj.mp c)
   | sh=>exact .inl (Aj.mp c)
   | pk=>exact nomatch c
  refine (A.push (e:=⟨some (.ref p),.dat (Zz m) (.list ds),p::G⟩) ⟨_,rfl,.lst Dn hz (r.kp (Kp.of x)),λz=>?_,λz a l e=>?_⟩ (λf s=>?_) λa c=>?_).tomid
  ·cases m with
   | ow=>exact Bx.mpr ⟨j,(B rfl).sublist o⟩
   | _=>cases z
  ·cases e
   exact j
  ·have y:=g.free k f (Ac _ s)
   refine ⟨λhq a c z=>?_,λhq a c z=>?_⟩
   ·rcases u a c with rfl | hc
    ·exact y z
    ·refine (w.1 f s).1 ?_ a hc z
     rcases hq with hq | hq
     ·exact .inl hq
     ·cases hq
   ·rcases Al.mp z with rfl | z
    ·exact y (Fu _ _ c)
    ·refine (w.1 f s).2 ?_ a c (o.subset z)
     rcases hq with hq | hq
     ·refine .inl ?_
      cases m <;> first | rfl | exact hq
     ·exact .inr hq
  ·rcases u a c with rfl | hc
   ·exact .inl (g.new0 k)
   ·rcases g.new _ Ab a hc with z | z
    ·exact .inl z
    ·cases z.2
theorem At.newT(h:At K b X n (S++⟨some v,.dat m d,F⟩::T) H)(r:RdFs K H xs ds G)(e:G.Sublist F)(hz:ds.length<=Au)(g:H p=none)(q:mR i m ds P):∃z f,At K b X n (S++⟨some (.ref p),z,f⟩::T) (upd H p (.tup xs))/\P z:=by
 have a:=Ew g (.tup xs)
 have c:=h.grow (n':=n) a (Ak _)
 cases i with
 | true =>
  obtain rfl:=r.imm q.1
  exact ⟨_,[],c.drop.pushI (.tup Dn hz (r.kp (Kp.of a))),q.2⟩
 | false=>exact ⟨_,G,c.part (.tup Dn hz (r.kp (Kp.of a))) e,q⟩
theorem At.oldT(h:At K b X n (S++⟨some v,.dat m d,F⟩::T) H)(r:RdFs K H xs ds G)(c:G.Sublist F)(hz:ds.length<=Au)(a:H t=some (.tup xs))(q:mR i m ds P):∃z e,At K b X n (S++⟨some (.ref t),z,e⟩::T) H/\P z:=by
 cases i with
 | true =>
  obtain rfl:=r.imm q.1
  exact ⟨_,[],h.drop.pushI (.tup a hz r),q.2⟩
 | false=>exact ⟨_,G,h.part (.tup a hz r) c,q⟩
end
def FF:DA:=λa P=>P [] a
def CP(d:DE)(c:DA):DA:=λe P=>d e λx a=>c a λf b=>P (x::f) b
section
variable{X:Cx}{e:Expr}{es:List Expr}{a:DE}{b:DA}
theorem Bd:lN X [] FF:=by
 refine PA.imp Oc λe H Q h=>?_
 obtain ⟨f,Y,S,T,c,P,rfl,b,a,d,k⟩:=h
 exact k [] c [] [] S H rfl b rfl rfl a d
theorem Ao(z:Fw X e a)(o:lN X es b)(D:Bo (e::es) X.env=(false,eval e X.env)::Bo es X.env:=by rfl):lN X (e::es) (CP a b):=by
 refine PA.imp (Ik z o D) λK H Q h=>?_
 obtain ⟨i,Y,S,T,r,P,rfl,B,y,u,k⟩:=h
 refine ⟨i,Y,S,T,r,_,rfl,B,y,u,λx c v F p J G m f t=>?_⟩
 refine ⟨i,Y,p,⟨some v,x,F⟩::T,c,_,G,m,f,t,λC g E s j q l I n A d w=>?_⟩
 refine k (x::C) g (⟨some v,x,F⟩::E) (v::s) j q l I (by rw[Aq,n]) (by rw[Aq,Aq,A]) (d.perm ((Hj j).append ?_)) w
 exact El
end
def allOw:List DV->Bool
 | []=>true
 | .dat .ow _::xs=>allOw xs
 | _=>false
def noPk:List DV->Bool
 | []=>true
 | .dat .pk _::_=>false
 | .dat _ _::xs=>noPk xs
 | _=>false
def datas:List DV->Option (List Af)
 | []=>some []
 | .dat _ d::xs=>(datas xs).map (d::·)
 | _=>none
def pkMd(top:Md)(xs:List DV):Md:=if allOw xs=true then .ow else if noPk xs=true then top else .pk
section
variable{K:PySem.W.Frag}{c H:Hp}{X:Addr->Prop}{n:Nat}{S T As:List Ent}
theorem Zx:∀{As:List Ent} {us:List V} {ds:List Af},As.map Ent.v=us.map some->datas (As.map Ent.x)=some ds->(∀e∈As,Ir K H n e)->RdFs K H us ds (As.flatMap Ent.F)
 | [],us,ds,e,h,_=>by
  cases us with
  | nil=>cases h; exact .nil
  | cons _ _=>cases e
 | ent::As,us,ds,e,h,ok=>by
  cases us with
  | nil=>cases e
  | cons u us =>
   rw[Aq,Aq] at e
   obtain ⟨j,c⟩:=Ec e
   obtain ⟨v,x,F⟩:=ent
   have a:v=some u:=j
   subst a
   rw[Aq] at h
   cases x with
   | dat m d =>
    rw[show datas (DV.dat m d::As.map Ent.x)=(datas (As.map Ent.x)).map (d::·) from rfl] at h
    cases q:datas (As.map Ent.x) with
    | none=>rw[q] at h; cases h
    | some k =>
     rw[q] at h
     cases h
     obtain ⟨w,g,b,_⟩:=ok _ Ab
     cases g
     rw[Lp]
     exact .cons b (Zx c q λf i=>ok f (Ac _ i))
   | _=>cases h
theorem Tc:∀{As:List Ent},allOw (As.map Ent.x)=true->∀e∈As,∃d,e.x=.dat .ow d
 | [],_,_,h=>nomatch h
 | ⟨v,x,F⟩::As,h,e,he=>by
  rw[Aq] at h
  have a:(∃d,x=.dat .ow d)/\allOw (As.map Ent.x)=true:=by
   cases x with
   | dat m d=>cases m <;> first | exact ⟨⟨d,rfl⟩,h⟩ | cases h
   | _=>cases h
  rcases Al.mp he with rfl | he
  ·exact a.1
  ·exact Tc a.2 e he
theorem rL:∀{As:List Ent},noPk (As.map Ent.x)=true->∀e∈As,Qg e.x=false
 | [],_,_,h=>nomatch h
 | ⟨v,x,F⟩::As,h,e,he=>by
  rw[Aq] at h
  have a:Qg x=false/\noPk (As.map Ent.x)=true:=by
   cases x with
   | dat m d=>cases m <;> first | exact ⟨rfl,h⟩ | cases h
   | _=>cases h
  rcases Al.mp he with rfl | he
  ·exact a.1
  ·exact rL a.2 e he
theorem fQ:∀{As:List Ent},(∀e∈As,∃d,e.x=.dat .ow d)->(∀e∈As,Ir K H n e)->As.Pairwise Zu->(As.flatMap Ent.F).Nodup
 | [],_,_,_=>Dx
 | ent::As,ho,ok,hs=>by
  rw[Lp]
  have i:=Ay.mp hs
  obtain ⟨v,x,F⟩:=ent
  obtain ⟨d,m⟩:=ho _ Ab
  have c:x=.dat .ow d:=m
  subst c
  obtain ⟨w,_,_,l,_⟩:=ok _ Ab
  refine Fz.mpr ⟨l rfl,fQ (λe g=>ho e (Ac _ g)) (λe g=>ok e (Ac _ g)) i.2,λa k b h z=>?_⟩
  subst z
  obtain ⟨f,j,h⟩:=Iq.mp h
  obtain ⟨o,c⟩:=ho f (Ac _ j)
  exact (i.1 f j).1 (.inl (by rw[c]; rfl)) a k h
theorem At.pack(h:At K c X n (S++(As++T)) H)(s:Va H B)(L:∀a∈N,H a=none)(D:N.Nodup)(m:(top=.tp/\N.length=1)\/(top=.sh/\N=[]))(r:RdF K B v d (N++As.flatMap Ent.F)):At K c X n (S++⟨some v,.dat (pkMd top (As.map Ent.x)) d,N++As.flatMap Ent.F⟩::T) B:=by
 have Q:(S++(As++T)).Perm (As++(S++T)):=by
  rw[<- Br,<- Br]
  exact Dy.append_right T
 have A:=h.perm Q
 have G:=Cg.mp A.sep
 have u:=(h.dropL).grow (n':=n) s (Ak _)
 have E:∀a∈N,∀f∈As++(S++T),a∉f.F:=λa i f p=>A.free (L a i) f p
 have j:∀a∈N,a∉As.flatMap Ent.F:=λa i z=>by
  obtain ⟨f,p,z⟩:=Iq.mp z
  exact E a i f (Am _ p) z
 have J:∀a∈cells ⟨some v,.dat (pkMd top (As.map Ent.x)) d,N++As.flatMap Ent.F⟩,a∈N\/(allOw (As.map Ent.x)=true/\∃f∈As,a∈cells f):=λa i=>by
  unfold pkMd at i
  by_cases k:allOw (As.map Ent.x)=true
  ·rw[if_pos k] at i
   rcases Aw.mp i with z | z
   ·exact .inl z
   ·obtain ⟨f,p,z⟩:=Iq.mp z
    obtain ⟨M,o⟩:=Tc k f p
    refine .inr ⟨k,f,p,?_⟩
    unfold cells
    rw[o]
    exact z
  ·rw[if_neg k] at i
   by_cases w:noPk (As.map Ent.x)=true
   ·rw[if_pos w] at i
    rcases m with ⟨rfl,u⟩ | ⟨rfl,rfl⟩
    ·match N,u,i with
     | [b],_,i=>exact .inl i
    ·exact nomatch i
   ·rw[if_neg w] at i
    exact nomatch i
 refine (u.push (e:=⟨some v,.dat (pkMd top (As.map Ent.x)) d,N++As.flatMap Ent.F⟩) ⟨_,rfl,r,λz=>?_,λz a l e=>?_⟩ (λf p=>?_) λa i=>?_).tomid
 ·have k:allOw (As.map Ent.x)=true:=by
   unfold pkMd at z
   by_cases k:allOw (As.map Ent.x)=true
   ·exact k
   ·rw[if_neg k] at z
    split at z
    ·rcases m with ⟨rfl,_⟩ | ⟨rfl,_⟩ <;> cases z
    ·cases z
  refine Fz.mpr ⟨D,fQ (Tc k) (λe O=>A.ok e (Am _ O)) G.1,λa i b P e=>?_⟩
  subst e
  exact j a i P
 ·have R:top=.tp:=by
   unfold pkMd at z
   split at z
   ·cases z
   ·split at z
    ·exact z
    ·cases z
  subst R
  rcases m with ⟨_,u⟩ | ⟨u,_⟩
  ·match N,u,e,j with
   | [b],_,e,j =>
    cases e
    exact j a Ab
  ·cases u
 ·have y:f∈As++(S++T):=Ag _ p
  refine ⟨λhq a i z=>?_,λhq a i z=>?_⟩
  ·rcases J a i with I | ⟨_,g,t,C⟩
   ·exact E a I f y z
   ·refine (G.2.2 g t f p).1 ?_ a C z
    rcases hq with hq | hq
    ·exact .inl hq
    ·cases hq
  ·rcases Aw.mp z with z | z
   ·exact E a z f y (Fu _ _ i)
   ·obtain ⟨g,t,z⟩:=Iq.mp z
    refine (G.2.2 g t f p).2 ?_ a i z
    rcases hq with hq | hq
    ·refine .inl ?_
     have q:Qg (.dat (pkMd top (As.map Ent.x)) d)=false:=hq
     unfold pkMd at q
     by_cases k:allOw (As.map Ent.x)=true
     ·obtain ⟨M,o⟩:=Tc k g t
      rw[o]
      rfl
     ·rw[if_neg k] at q
      by_cases w:noPk (As.map Ent.x)=true
      ·exact rL w g t
      ·rw[if_neg w] at q
       cases q
    ·exact .inr hq
 ·rcases J a i with I | ⟨_,g,t,C⟩
  ·exact .inl (A.new0 (L a I))
  ·rcases A.new g (Am _ t) a C with z | z
   ·exact .inl z
   ·obtain ⟨M,o⟩:=Tc (by assumption) g t
    rw[o] at z
    cases z.2
end
def KU(d:DA):DE:=λe P=>d e λc a=>match datas c with
 | some b=>b.length<=1000/\P (.dat (pkMd .sh c) (.tuple b)) a
 | none=>False
def KJ(d:DA):DE:=λe P=>d e λc a=>match datas c with
 | some b=>b.length<=1000/\P (.dat (pkMd .tp c) (.list b)) a
 | none=>False
section
variable{X:Cx}{es:List Expr}{b:DA}{pos:Pos}
theorem Sh(h:lN X es b):Fw X (.Tuple es x1 pos) (KU b):=by
 refine PE.imp (GP h) λE H Q h=>?_
 obtain ⟨g,Y,S,T,n,P,rfl,w,s,o,k⟩:=h
 refine ⟨g,Y,S,T,n,_,rfl,w,s,o,λy c F m A C B i j u a p=>?_⟩
 cases q:datas y with
 | none=>rw[q] at p; exact p.elim
 | some x =>
  rw[q] at p
  subst j
  have r:=Zx u q λe f=>a.ok e (Ag _ (Am _ f))
  have D:=r.len
  have v:x.length<=Au:=sz p.1
  refine ⟨by omega,λt l=>?_⟩
  have d:=Ew l (.tup m)
  exact k _ c _ _ A _ B i (a.pack (N:=[]) d (λ_ z=>nomatch z) Dx (.inr ⟨rfl,rfl⟩) (.tup Dn v (r.kp (Kp.of d)))) p.2
theorem Iz(h:lN X es b):Fw X (.List es pos) (KJ b):=by
 refine PE.imp (uO h) λF H Q h=>?_
 obtain ⟨j,Y,S,T,o,P,rfl,x,u,s,k⟩:=h
 refine ⟨j,Y,S,T,o,_,rfl,x,u,s,λA d G n B D C l m v c p=>?_⟩
 cases q:datas A with
 | none=>rw[q] at p; exact p.elim
 | some y =>
  rw[q] at p
  subst m
  have r:=Zx v q λe i=>c.ok e (Ag _ (Am _ i))
  have E:=r.len
  have w:y.length<=Au:=sz p.1
  refine ⟨by omega,λt f=>?_⟩
  have g:=Ew f (.lst n)
  exact k _ d _ _ B _ C l (c.pack (N:=[t]) g (λa z=>by rw[Aj.mp z]; exact f) (Bx.mpr ⟨Ba,Dx⟩) (.inl ⟨rfl,rfl⟩) (.lst Dn w (r.kp (Kp.of g)))) p.2
end
end DL
namespace Nd
open PySem PySem.Spec PyProof.Rows L2
section
variable{X:Cx}
def DH:V->Option Int->Option Int->Hp->VK->Prop:=λx lo d H Q=>∃a c,x=.ref a/\H a=some (.tup c)/\∀p b,b p=some (.tup (gH c lo d))->Va H b->Q (.ref p) b
theorem W6:FX X DH:=by
 intro c s w H x v y u lo n o Q I z l i m h
 obtain ⟨a,b,rfl,e,q⟩:=h
 have j:Wt X.K H a b:=Wt.of e
 cases z
 by_cases f:HT.sIx b.length 0 lo=0/\HT.sIx b.length b.length n=b.length
 ·obtain ⟨g,r,k,A⟩:=I.tuple j
  have d:g.toArray.size=b.length:=by rw[Av]; exact r.length.symm
  refine ⟨"tuple",_,Fg.lookup,k.typeIs,?_⟩
  refine Xn k l i m (by rw[d]; exact f) ⟨.ref a,H,I,rfl,q a H ?_ (Va.refl _)⟩
  unfold gH
  rw[f.1,f.2,Sm,Nat.sub_zero,Ek]
  exact e
 ·exact GO c s w H (.ref a) (.ref a) y u lo n o Q I rfl l i m ⟨a,b,rfl,j,f,λp t=>q p _ Dn (Ew t _)⟩
end
theorem Yl:∀{vs:List Value} {ns:List Int},Gn (ns.map V.int) vs->∃xs:List (Int×Tok),vs=xs.map (λp=>Lz p.1 p.2)/\xs.map (·.1)=ns
 | [],[],_=>⟨[],rfl,rfl⟩
 | v::vs,n::ns,h=>by
  cases h with
  | cons a c =>
   obtain ⟨t,rfl⟩:=a
   obtain ⟨xs,d,b⟩:=Yl c
   exact ⟨(n,t)::xs,by rw[d]; rfl,by rw[<- b]; rfl⟩
 | [],n::ns,h=>nomatch h
 | v::vs,[],h=>nomatch h
section
variable{X:Cx}
def ME(K:PySem.W.Frag):List V->Hp->VK->Prop:=λc H Q=>∃(a:Addr) (b:List Int),c=[.ref a]/\Nm K H a (b.map V.int)/\b≠[]/\∀M∈b,(∀x∈b,M<=x)->Q (.int M) H
def DQ(K:PySem.W.Frag):List V->Hp->VK->Prop:=λc H Q=>∃(a:Addr) (b:List Int),c=[.ref a]/\Nm K H a (b.map V.int)/\b≠[]/\∀M∈b,(∀x∈b,x<=M)->Q (.int M) H
theorem yS(i:X.calm=true):Nt X (.builtin "max") (DQ X.K):=by
 intro c s J H G F Q I r h
 obtain ⟨p,L,rfl,g,z,q⟩:=h
 obtain ⟨u,rfl,B⟩:=vals1 r
 cases B
 obtain ⟨m,l,e,_⟩:=I.list g
 obtain ⟨a,rfl,rfl⟩:=Yl l
 have n:s.heap.IsList p (intItems a.toArray):=by simpa [intItems] using e.isList
 have b:0<a.toArray.size:=by rcases a with _ | ⟨x,a⟩ <;> simp at z ⊢
 refine max_intList (I.ok.hd i) n b λv D E y k=>?_
 obtain ⟨t,rfl⟩:=intItems_at y
 obtain ⟨C,o⟩:=argBest_gt (numAt a.toArray) (a.toArray.size - 1)
 refine ⟨.int _,H,I.kept k,⟨t,rfl⟩,q _ ?_ λx f=>?_⟩
 ·rw[numAt_eq]; exact getD_mem (by rw[Ad]; show _<a.length; have w:a.toArray.size=a.length:=Av; omega)
 ·obtain ⟨j,d,rfl⟩:=mem_getD f
  rw[Ad] at d
  have:=o j (by have w:a.toArray.size=a.length:=Av; have A:j<a.length:=d; omega)
  rw[numAt_eq a.toArray j] at this
  exact this
end
end Nd
namespace Ts
open PySem PyProof.Rows
def Xd:Bool->Keyed->Array Keyed->Nat->Nat->Nat->StateT Bz Sem (Option Nat):=sortPriv% PySem.Builtin.gallop
structure Cmp(prog:Bn)(w:World)(A:Ck)(s:Ah)(kd:Ny)(Ok:Keyed->Prop)(blt:Keyed->Keyed->Bool):Prop where
 run:∀(x y:Keyed) (Q:Bool->Ah->Prop) (E:Value->Ah->Prop),Ok x->Ok y->Q (blt x y) s->wpAny (model prog w) A (keyLt' kd x.1 y.1) Q E s
 irr:∀x,blt x x=false
 tr:∀x y z,blt x y=true->blt y z=true->blt x z=true
 neg:∀x y z,blt x z=true->blt x y=true\/blt y z=true
def le(blt:Keyed->Keyed->Bool)(x y:Keyed):Prop:=blt y x=false
section
variable{prog:Bn}{w:World}{A:Ck}{s:Ah}{d:Ny}{Ok:Keyed->Prop}{blt:Keyed->Keyed->Bool}
theorem Cmp.refl(C:Cmp prog w A s d Ok blt)(x:Keyed):le blt x x:=C.irr x
theorem Cmp.ofLt(C:Cmp prog w A s d Ok blt)(h:blt x y=true):le blt x y:=by
 unfold le
 cases q:blt y x with
 | false=>rfl
 | true=>have:=C.tr _ _ _ h q; rw[C.irr] at this; cases this
theorem Cmp.trans(C:Cmp prog w A s d Ok blt)(h1:le blt x y)(a:le blt y z):le blt x z:=by
 unfold le at *
 cases q:blt z x with
 | false=>rfl
 | true =>
  rcases C.neg _ y _ q with h | h
  ·rw[a] at h; cases h
  ·rw[h1] at h; cases h
theorem Cmp.ltLe(C:Cmp prog w A s d Ok blt)(h1:blt x y=true)(a:le blt y z):blt x z=true:=by
 unfold le at a
 rcases C.neg _ z _ h1 with h | h
 ·exact h
 ·rw[a] at h; cases h
theorem Cmp.leLt(C:Cmp prog w A s d Ok blt)(h1:le blt x y)(a:blt y z=true):blt x z=true:=by
 unfold le at h1
 rcases C.neg _ x _ a with h | h
 ·rw[h1] at h; cases h
 ·exact h
variable{E:Value->Ah->Prop}
structure Kept(st st':Bz):Prop where
 kind:kindOf st'=kindOf st
 arr:arrOf st'=arrOf st
 pend:Bi st'=Bi st
 fail:Nx st'=Nx st
theorem Kept.refl(st:Bz):Kept st st:=⟨rfl,rfl,rfl,rfl⟩
theorem Kept.trans(h:Kept a b)(k:Kept b c):Kept a c:=⟨k.kind.trans h.kind,k.arr.trans h.arr,k.pend.trans h.pend,k.fail.trans h.fail⟩
theorem rF(C:Cmp prog w A s d Ok blt){st:Bz}(a:kindOf st=d)(c:Ok x)(b:Ok y)(h:Q (some (blt x y)) st):wpS (model prog w) A E s (lt' x y) Q st:=by
 rw[lt'_eq]
 refine Bc (Ph ?_)
 rw[a]
 exact Bc (wpS_lift (Jh (C.run x y _ _ c b ⟨rfl,Bl h⟩)))
theorem Gq{st:Bz}(h:xs[i]? = some p)(q:Q p st):wpS (model prog w) A E s (elem' xs i) Q st:=by
 rw[elem'_eq,h]
 exact Bl q
def Wx(left:Bool)(a:Keyed)(b:Array Keyed)(base i:Nat):StateT Bz Sem (Option Bool):=do
 let x <- elem' b (base+i)
 if left then lt' x a else return (<- lt' a x).map (!·)
def xW(left:Bool)(d:Keyed)(b:Array Keyed)(base n c a:Nat):StateT Bz Sem (Option Nat):=do
 let mut lo:=c
 let mut hi:=a
 for _ in [0:n] do
  if lo ≥ hi then break
  let mid:=lo+(hi - lo) / 2
  let some up <- Wx left d b base mid | return none
  if up then lo:=mid+1 else hi:=mid
 return some hi
theorem vK(left:Bool)(b:Keyed)(a:Array Keyed)(base n hint:Nat):Xd left b a base n hint=(do
  let some right <- Wx left b a base hint | return none
  let mut last:=0
  let mut ofs:=1
  if right then
   let top:=n - hint
   for _ in [0:n] do
    if ofs ≥ top then break
    let some up <- Wx left b a base (hint+ofs) | return none
    if !up then break
    last:=ofs
    ofs:=2 * ofs+1
   xW left b a base n (hint+last+1) (hint+min ofs top)
  else
   let top:=hint+1
   for _ in [0:n] do
    if ofs ≥ top then break
    let some got <- Wx left b a base (hint - ofs) | return none
    if got then break
    last:=ofs
    ofs:=2 * ofs+1
   xW left b a base n (hint+1 - min ofs top) (hint - last)):=rfl
def Ia(blt:Keyed->Keyed->Bool)(left:Bool)(a x:Keyed):Bool:=if left then blt x a else !blt a x
structure Row(Ok:Keyed->Prop)(arr:Array Keyed)(base n:Nat)(el:Nat->Keyed):Prop where
 at_:∀i,i<n->arr[base+i]? = some (el i)
 ok:∀i,i<n->Ok (el i)
theorem Xb(C:Cmp prog w A s d Ok blt){st:Bz}(R:Row Ok b base n e)(ok:Ok a)(f:kindOf st=d)(c:i<n)(h:Q (some (Ia blt left a (e i))) st):wpS (model prog w) A E s (Wx left a b base i) Q st:=by
 unfold Wx
 refine Bc (Gq (R.at_ i c) ?_)
 cases left with
 | true =>
  rw[if_pos rfl]
  exact rF C f (R.ok i c) ok h
 | false =>
  rw[if_neg Bk]
  exact Bc (rF C f ok (R.ok i c) (Bl h))
theorem xP(C:Cmp prog w A s d Ok blt){st:Bz}{base n lo g:Nat}(R:Row Ok t base n f)(ok:Ok a)(F:kindOf st=d)(mono:∀i j,i<=j->j<n->Ia blt left a (f j)=true->Ia blt left a (f i)=true)(h1:lo<=g)(H:g<=n)(G:∀i,i<lo->Ia blt left a (f i)=true)(D:∀i,g<=i->i<n->Ia blt left a (f i)=false)(h:∀k,k<=n->(∀i,i<k->Ia blt left a (f i)=true)->(∀i,k<=i->i<n->Ia blt left a (f i)=false)->Q (some k) st):wpS (model prog w) A E s (xW left a t base n lo g) Q st:=by
 unfold xW
 refine Bc (Iu (Fe (I:=λx c b=>∃l r,c=(none,l,r)/\b=st/\l<=r/\r<=n/\r - l+x<=n/\(∀i,i<l->Ia blt left a (f i)=true)/\(∀i,r<=i->i<n->Ia blt left a (f i)=false))
  (Q:=λc b=>∃r,c=(none,r,r)/\b=st/\r<=n/\(∀i,i<r->Ia blt left a (f i)=true)/\(∀i,r<=i->i<n->Ia blt left a (f i)=false)) ?_ ?_ ⟨lo,g,rfl,rfl,h1,H,by omega,G,D⟩) ?_)
 ·(intro x c b _ L v; obtain ⟨l,r,rfl,rfl,J,o,B,p,m⟩ := v)
  dsimp only
  by_cases u:l ≥ r
  ·rw[if_pos u]
   have e:l=r:=by omega
   subst e
   exact Bl ⟨l,rfl,rfl,o,p,m⟩
  ·rw[if_neg u]
   have z:l+(r - l) / 2<n:=by omega
   refine Bc (Xb C R ok F z ?_)
   dsimp only
   cases y:Ia blt left a (f (l+(r - l) / 2)) with
   | true =>
    rw[if_pos rfl]
    exact Bl ⟨l+(r - l) / 2+1,r,rfl,rfl,by omega,o,by omega,λi g=>mono i _ (by omega) z y,m⟩
   | false =>
    rw[if_neg Bk]
    refine Bl ⟨l,l+(r - l) / 2,rfl,rfl,by omega,by omega,by omega,p,λi g K=>?_⟩
    cases q:Ia blt left a (f i) with
    | false=>rfl
    | true=>rw[mono _ i g K q] at y; cases y
 ·(intro c b v; obtain ⟨l,r,rfl,rfl,J,o,B,p,m⟩ := v)
  have e:l=r:=by
   have : max 0 n=n:=by omega
   rw[this] at B
   omega
  subst e
  exact ⟨l,rfl,rfl,o,p,m⟩
 ·(intro c b v; obtain ⟨r,rfl,rfl,o,p,m⟩ := v)
  exact Bl (h r o p m)
theorem Qb(C:Cmp prog w A s d Ok blt){st:Bz}(R:Row Ok y base n f)(ok:Ok a)(B:kindOf st=d)(O:hint<n)(mono:∀i j,i<=j->j<n->Ia blt left a (f j)=true->Ia blt left a (f i)=true)(h:∀k,k<=n->(∀i,i<k->Ia blt left a (f i)=true)->(∀i,k<=i->i<n->Ia blt left a (f i)=false)->Q (some k) st):wpS (model prog w) A E s (Xd left a y base n hint) Q st:=by
 have t:∀i j,i<=j->j<n->Ia blt left a (f i)=false->Ia blt left a (f j)=false:=λi j H N q=>by
  cases z:Ia blt left a (f j) with
  | false=>rfl
  | true=>rw[mono i j H N z] at q; cases q
 rw[vK]
 refine Bc (Xb C R ok B O ?_)
 dsimp only
 cases L:Ia blt left a (f hint) with
 | true =>
  rw[if_pos rfl]
  refine Bc (Iu (Fe (I:=λx c e=>∃b o,c=(none,b,o)/\e=st/\b<o/\x+1<=o/\hint+b<n/\Ia blt left a (f (hint+b))=true)
   (Q:=λc e=>∃b o,c=(none,b,o)/\e=st/\b<o/\hint+b<n/\Ia blt left a (f (hint+b))=true/\(o ≥ n - hint\/(hint+o<n/\Ia blt left a (f (hint+o))=false))) ?_ ?_
   ⟨0,1,rfl,rfl,by omega,by omega,by omega,L⟩) ?_)
  ·(intro x c e _ M p; obtain ⟨b,o,rfl,rfl,r,F,l,g⟩ := p)
   dsimp only
   by_cases v:o ≥ n - hint
   ·rw[if_pos v]
    exact Bl ⟨b,o,rfl,rfl,r,l,g,.inl v⟩
   ·rw[if_neg v]
    have D:hint+o<n:=by omega
    refine Bc (Xb C R ok B D ?_)
    dsimp only
    cases m:Ia blt left a (f (hint+o)) with
    | true =>
     simp only[Us,Bt,if_false]
     exact Bl ⟨o,2 * o+1,rfl,rfl,by omega,by omega,D,m⟩
    | false =>
     simp only[Bool.not_false,if_true]
     exact Bl ⟨b,o,rfl,rfl,r,l,g,.inr ⟨D,m⟩⟩
  ·(intro c e p; obtain ⟨b,o,rfl,rfl,r,F,l,g⟩ := p)
   have : max 0 n=n:=by omega
   rw[this] at F
   exact ⟨b,o,rfl,rfl,r,l,g,.inl (by omega)⟩
  ·(intro c e p; obtain ⟨b,o,rfl,rfl,r,l,g,u⟩ := p)
   dsimp only
   refine xP C R ok B mono (by omega) (by omega) (λi G=>mono i _ (by omega) l g) (λi G K=>?_) h
   rcases u with u | ⟨u,J⟩
   ·exfalso; omega
   ·exact t _ i (by omega) K J
 | false =>
  rw[if_neg Bk]
  refine Bc (Iu (Fe (I:=λx c e=>∃b o,c=(none,b,o)/\e=st/\b<o/\x+1<=o/\b<=hint/\Ia blt left a (f (hint - b))=false)
   (Q:=λc e=>∃b o,c=(none,b,o)/\e=st/\b<o/\b<=hint/\Ia blt left a (f (hint - b))=false/\(o ≥ hint+1\/(o<=hint/\Ia blt left a (f (hint - o))=true))) ?_ ?_
   ⟨0,1,rfl,rfl,by omega,by omega,by omega,L⟩) ?_)
  ·(intro x c e _ M p; obtain ⟨b,o,rfl,rfl,r,F,l,g⟩ := p)
   dsimp only
   by_cases v:o ≥ hint+1
   ·rw[if_pos v]
    exact Bl ⟨b,o,rfl,rfl,r,l,g,.inl v⟩
   ·rw[if_neg v]
    have D:hint - o<n:=by omega
    refine Bc (Xb C R ok B D ?_)
    dsimp only
    cases m:Ia blt left a (f (hint - o)) with
    | true =>
     rw[if_pos rfl]
     exact Bl ⟨b,o,rfl,rfl,r,l,g,.inr ⟨by omega,m⟩⟩
    | false =>
     rw[if_neg Bk]
     exact Bl ⟨o,2 * o+1,rfl,rfl,by omega,by omega,by omega,m⟩
  ·(intro c e p; obtain ⟨b,o,rfl,rfl,r,F,l,g⟩ := p)
   have : max 0 n=n:=by omega
   rw[this] at F
   exact ⟨b,o,rfl,rfl,r,l,g,.inl (by omega)⟩
  ·(intro c e p; obtain ⟨b,o,rfl,rfl,r,l,g,u⟩ := p)
   dsimp only
   refine xP C R ok B mono (by omega) (by omega) (λi G=>?_) (λi G K=>t _ i G K g) h
   rcases u with u | ⟨u,J⟩
   ·exfalso; omega
   ·exact mono i _ (by omega) (by omega) J
end
structure MI{α:Type}(R:α->α->Prop)(xs ys out:List α)(i j:Nat):Prop where
 perm:out.Perm (xs.take i++ys.take j)
 srt:out.Pairwise R
 lx:∀o∈out,∀z∈xs.drop i,R o z
 ly:∀o∈out,∀z∈ys.drop j,R o z
section
variable{c:Type}{R:c->c->Prop}{xs ys out:List c}{i j:Nat}
theorem jT{l:List c}(h:l[n]? = some a):l.drop n=a::l.drop (n+1):=by
 obtain ⟨b,e⟩:=Bb.mp h
 rw[Tr b,e]
theorem take_snoc{l:List c}(h:l[n]? = some a):l.take (n+1)=l.take n++[a]:=by
 rw[List.take_succ,h]; rfl
theorem MI.pushY(M:MI R xs ys out i j)(h:ys.Pairwise R)(d:ys[j]? = some y)(k:∀z∈xs.drop i,R y z):MI R xs ys (out++[y]) i (j+1):=by
 have b:=jT d
 have g:(y::ys.drop (j+1)).Pairwise R:=by rw[<- b]; exact Ke (Jr _ _) h
 obtain ⟨f,l⟩:=Ay.mp g
 refine ⟨?_,?_,λo ho z a=>?_,λo ho z a=>?_⟩
 ·rw[take_snoc d,<- Br]
  exact M.perm.append_right _
 ·refine Cg.mpr ⟨M.srt,Em _ _,λo ho z a=>?_⟩
  have e:z=y:=by simpa using a
  rw[e]
  exact M.ly o ho y (by rw[b]; exact Ab)
 ·rcases Aw.mp ho with ho | ho
  ·exact M.lx o ho z a
  ·have e:o=y:=by simpa using ho
   rw[e]; exact k z a
 ·rcases Aw.mp ho with ho | ho
  ·exact M.ly o ho z (by rw[b]; exact Ac _ a)
  ·have e:o=y:=by simpa using ho
   rw[e]; exact f z a
theorem MI.pushX(M:MI R xs ys out i j)(h:xs.Pairwise R)(d:xs[i]? = some x)(g:∀z∈ys.drop j,R x z):MI R xs ys (out++[x]) (i+1) j:=by
 have b:=jT d
 have k:(x::xs.drop (i+1)).Pairwise R:=by rw[<- b]; exact Ke (Jr _ _) h
 obtain ⟨f,m⟩:=Ay.mp k
 refine ⟨?_,?_,λo ho z a=>?_,λo ho z a=>?_⟩
 ·rw[take_snoc d]
  have l:(out++[x]).Perm ((xs.take i++ys.take j)++[x]):=M.perm.append_right _
  refine l.trans ?_
  rw[Br,Br]
  exact Kq _ Dy
 ·refine Cg.mpr ⟨M.srt,Em _ _,λo ho z a=>?_⟩
  have e:z=x:=by simpa using a
  rw[e]
  exact M.lx o ho x (by rw[b]; exact Ab)
 ·rcases Aw.mp ho with ho | ho
  ·exact M.lx o ho z (by rw[b]; exact Ac _ a)
  ·have e:o=x:=by simpa using ho
   rw[e]; exact f z a
 ·rcases Aw.mp ho with ho | ho
  ·exact M.ly o ho z a
  ·have e:o=x:=by simpa using ho
   rw[e]; exact g z a
theorem Vu{l:List c}(h:l[n+k]? = some a):(l.drop n).take (k+1)=(l.drop n).take k++[a]:=take_snoc (by rw[cH]; exact h)
theorem MI.blockX(M:MI R xs ys out i j)(b:xs.Pairwise R):∀k,i+k<=xs.length->(∀m,m<k->∀x,xs[i+m]? = some x->∀z∈ys.drop j,R x z)->MI R xs ys (out++(xs.drop i).take k) (i+k) j
 | 0,_,_=>by simpa using M
 | k+1,hk,h=>by
  have c:=MI.blockX M b k (by omega) λm d=>h m (by omega)
  obtain ⟨x,a⟩ : ∃x,xs[i+k]? = some x:=⟨xs[i+k],by simp⟩
  rw[Vu a,<- Br]
  exact c.pushX b a (h k (by omega) x a)
theorem MI.blockY(M:MI R xs ys out i j)(b:ys.Pairwise R):∀k,j+k<=ys.length->(∀m,m<k->∀y,ys[j+m]? = some y->∀z∈xs.drop i,R y z)->MI R xs ys (out++(ys.drop j).take k) i (j+k)
 | 0,_,_=>by simpa using M
 | k+1,hk,h=>by
  have c:=MI.blockY M b k (by omega) λm d=>h m (by omega)
  obtain ⟨y,a⟩ : ∃y,ys[j+k]? = some y:=⟨ys[j+k],by simp⟩
  rw[Vu a,<- Br]
  exact c.pushY b a (h k (by omega) y a)
theorem MI.endX(M:MI R xs ys out i j)(c:xs.Pairwise R)(a:ys.length<=j):(out++xs.drop i++ys.drop j).Perm (xs++ys)/\(out++xs.drop i++ys.drop j).Pairwise R:=by
 rw[List.drop_eq_nil_of_le a,Eb]
 constructor
 ·have d:(out++xs.drop i).Perm ((xs.take i++ys.take j)++xs.drop i):=M.perm.append_right _
  refine d.trans ?_
  rw[Gw a]
  have b:(xs.take i++ys++xs.drop i).Perm (xs.take i++(xs.drop i++ys)):=by
   rw[Br]
   exact Kq _ Dy
  refine b.trans ?_
  rw[<- Br,Je]
 ·exact Cg.mpr ⟨M.srt,Ke (Jr _ _) c,M.lx⟩
theorem MI.endYX(M:MI R xs ys out i j)(e:xs.Pairwise R)(f:ys.Pairwise R)(h:∀y∈ys.drop j,∀x∈xs.drop i,R y x):(out++ys.drop j++xs.drop i).Perm (xs++ys)/\(out++ys.drop j++xs.drop i).Pairwise R:=by
 constructor
 ·have g:(out++(ys.drop j++xs.drop i)).Perm ((xs.take i++ys.take j)++(ys.drop j++xs.drop i)):=M.perm.append_right _
  rw[Br]
  refine g.trans ?_
  rw[Br,<- Br (ys.take j),Je]
  have d:(xs.take i++(ys++xs.drop i)).Perm (xs.take i++(xs.drop i++ys)):=Kq _ Dy
  refine d.trans ?_
  rw[<- Br,Je]
 ·refine Cg.mpr ⟨Cg.mpr ⟨M.srt,Ke (Jr _ _) f,M.ly⟩,Ke (Jr _ _) e,λa ha b c=>?_⟩
  rcases Aw.mp ha with ha | ha
  ·exact M.lx a ha b c
  ·exact h a ha b c
end
def rZ:Array Keyed->Array Keyed->StateT Bz Sem (Array Keyed):=sortPriv% PySem.Builtin.mergeLo
def dY:Nat->StateT Bz Sem Unit:=sortPriv% PySem.Builtin.setMinGallop
abbrev GV(st:Bz)(g:Nat):Bz:=SortSt.mk' (kindOf st) (arrOf st) (Bi st) g (Nx st)
theorem vG(g:Nat):dY g=modify λst=>GV st g:=rfl
theorem dZ(p:Array Keyed)(i:Nat):(p.extract i p.size).toList=p.toList.drop i:=by
 rw[Pq,Ml,Gw]
 rw[Vd,An]
 exact Ak _
theorem Zs(p:Array Keyed)(i k:Nat):(p.extract i (i+k)).toList=(p.toList.drop i).take k:=by
 rw[Pq,Ml,Nat.add_sub_cancel_left]
abbrev dn(p q out:Array Keyed)(i j:Nat):Array Keyed:=out++p.extract i p.size++q.extract j q.size
abbrev lst(p q out:Array Keyed)(i j:Nat):Array Keyed:=out++q.extract j q.size++p.extract i p.size
theorem Z2(p q out:Array Keyed)(i j:Nat):(dn p q out i j).toList=out.toList++p.toList.drop i++q.toList.drop j:=by
 rw[Dz,Dz,dZ,dZ]
theorem R7(p q out:Array Keyed)(i j:Nat):(lst p q out i j).toList=out.toList++q.toList.drop j++p.toList.drop i:=by
 rw[Dz,Dz,dZ,dZ]
abbrev BF:=Option (Array Keyed)×Array Keyed×Nat×Nat×Nat×Nat×Nat
def V7(p q out:Array Keyed)(i j g a k:Nat):StateT Bz Sem (ForInStep BF):=do
 let x <- elem' p i
 if (i+1+1 == p.size)=true then pure (Df (some (lst p q (out.push x) (i+1) j),out.push x,i+1,j,g,a,k))
 else if (decide (a<7) && decide (k<7))=true then pure (Df (none,out.push x,i+1,j,g,a,k))
 else pure (Eu (none,out.push x,i+1,j,g,a,k))
def AI(p q out:Array Keyed)(i j g a b:Nat):StateT Bz Sem (ForInStep BF):=do
 let y <- elem' q j
 if (j+1 == q.size)=true then pure (Df (some (dn p q (out.push y) i (j+1)),out.push y,i,j+1,g,a,b))
 else do
  let x <- elem' p i
  let some k <- Xd true x q (j+1) (q.size - (j+1)) 0 | pure (Df (some (dn p q (out.push y) i (j+1)),out.push y,i,j+1,g,a,b))
  if k > 0 then
   if (j+1+k == q.size)=true then pure (Df (some (dn p q (out.push y++q.extract (j+1) (j+1+k)) i (j+1+k)),out.push y++q.extract (j+1) (j+1+k),i,j+1+k,g,a,k))
   else V7 p q (out.push y++q.extract (j+1) (j+1+k)) i (j+1+k) g a k
  else V7 p q (out.push y) i (j+1) g a k
def FT(p q out:Array Keyed)(i j g b a:Nat):StateT Bz Sem (ForInStep BF):=do
 dY g
 let y <- elem' q j
 let some k <- Xd false y p i (p.size - i) 0 | pure (Df (some (dn p q out i j),out,i,j,g,b,a))
 if k > 0 then
  if (i+k+1 == p.size)=true then pure (Df (some (lst p q (out++p.extract i (i+k)) (i+k) j),out++p.extract i (i+k),i+k,j,g,k,a))
  else if (i+k == p.size)=true then pure (Df (some (dn p q (out++p.extract i (i+k)) (i+k) j),out++p.extract i (i+k),i+k,j,g,k,a))
  else AI p q (out++p.extract i (i+k)) (i+k) j g k a
 else AI p q out i j g k a
section
variable{prog:Bn}{w:World}{A:Ck}{s:Ah}{d:Ny}{Ok:Keyed->Prop}{blt:Keyed->Keyed->Bool}{E:Value->Ah->Prop}
theorem Wz{st:Bz}(h:Q () st):wpS (model prog w) A E s (liftM (rule x):StateT Bz Sem Unit) Q st:=wpS_lift (Ln ⟨rfl,h⟩)
theorem Wq{st:Bz}(h:∀a,Kept st a->Q () a):wpS (model prog w) A E s (dY g) Q st:=by
 rw[vG]
 exact Lm (h _ ⟨rfl,rfl,rfl,rfl⟩)
structure Two(Ok:Keyed->Prop)(blt:Keyed->Keyed->Bool)(p q:Array Keyed)(x0 y0 xl:Keyed):Prop where
 op:∀x∈p.toList,Ok x
 oq:∀x∈q.toList,Ok x
 sp:p.toList.Pairwise (le blt)
 sq:q.toList.Pairwise (le blt)
 hx0:p[0]? = some x0
 hy0:q[0]? = some y0
 hxl:p[p.size - 1]? = some xl
 first:blt y0 x0=true
 last:∀y∈q.toList,blt y xl=true
abbrev uH(blt:Keyed->Keyed->Bool)(p q r:Array Keyed):Prop:=r.toList.Perm (p.toList++q.toList)/\r.toList.Pairwise (le blt)
theorem Ez{p:Array Keyed}{i:Nat}(h:p[i]? = some x):p.toList[i]? = some x:=by simpa using h
theorem Gv{p:Array Keyed}(h:i<p.size):∃x,p[i]? = some x:=⟨p[i],by simp [h]⟩
theorem Le{p:Array Keyed}{i:Nat}(h:p[i]? = some x):x∈p.toList:=Bj (Ez h)
theorem sN{a:Type}{l:List a}{z:a}(h:z∈l.drop i):∃k,l[i+k]? = some z:=by
 obtain ⟨k,b,e⟩:=Ht.mp h
 exact ⟨k,by rw[<- cH,Co b,e]⟩
theorem Mq(C:Cmp prog w A s d Ok blt){l:List Keyed}(g:l.Pairwise (le blt)){i j:Nat}(f:i<=j)(b:l[i]? = some x)(a:l[j]? = some y):le blt x y:=by
 by_cases e:i=j
 ·subst e
  rw[b] at a
  cases a
  exact C.refl x
 ·obtain ⟨h,c⟩:=Bb.mp b
  obtain ⟨k,m⟩:=Bb.mp a
  have:=Mj.mp g i j h k (by omega)
  rw[c,m] at this
  exact this
theorem Rx(C:Cmp prog w A s d Ok blt){l:List Keyed}(b:l.Pairwise (le blt))(e:l[i]? = some x)(h:le blt y x):∀z∈l.drop i,le blt y z:=λz c=>by
 obtain ⟨k,a⟩:=sN c
 exact C.trans h (Mq C b (Ki i k) e a)
abbrev LI(blt:Keyed->Keyed->Bool)(p q out:Array Keyed)(i j:Nat):Prop:=MI (le blt) p.toList q.toList out.toList i j
theorem Pz(out:Array Keyed)(x:Keyed):(out.push x).toList=out.toList++[x]:=by simp
theorem Two.last_end(C:Cmp prog w A s d Ok blt)(T:Two Ok blt p q g c a)(M:LI blt p q out i j)(m:i+1=p.size):uH blt p q (lst p q out i j):=by
 have h:=M.endYX T.sp T.sq (λy f x l=>?_)
 ·rw[<- R7] at h
  exact h
 ·obtain ⟨k,b⟩:=sN l
  have : k=0:=by
   have:=(Bb.mp b).1
   rw[An] at this
   omega
  subst this
  have e:x=a:=by
   have:=Ez T.hxl
   rw[show p.size - 1=i+0 by omega,b] at this
   exact Cj this
  rw[e]
  exact C.ofLt (T.last y (List.mem_of_mem_drop f))
theorem Two.done_end(T:Two Ok blt p q a b c)(M:LI blt p q out i j)(d:q.size<=j):uH blt p q (dn p q out i j):=by
 have h:=M.endX T.sp (by rw[An]; exact d)
 rw[<- Z2] at h
 exact h
def KQ(blt:Keyed->Keyed->Bool)(p q:Array Keyed)(st:Bz)(n:Nat)(r:ForInStep BF)(a:Bz):Prop:=Kept st a/\match r with
 | .done (some r,_)=>uH blt p q r
 | .done (none,out,i,j,_)=>LI blt p q out i j/\i+1<p.size/\j<q.size/\n<i+j
 | .yield (none,out,i,j,_)=>LI blt p q out i j/\i+1<p.size/\j<q.size/\n<i+j
 | .yield (some _,_)=>False
theorem wH(C:Cmp prog w A s d Ok blt)(T:Two Ok blt p q r o m){a st:Bz}(kp:Kept a st)(M:LI blt p q out i j)(u:i+1<p.size)(e:j<q.size)(t:n<=i+j)(h:p[i]? = some x)(l:∀z∈q.toList.drop j,le blt x z):wpS (model prog w) A E s (V7 p q out i j g f k) (KQ blt p q a n) st:=by
 unfold V7
 refine Bc (Gq h ?_)
 have M1:LI blt p q (out.push x) (i+1) j:=by
  have:=M.pushX T.sp (Ez h) l
  rw[<- Pz] at this
  exact this
 by_cases b:i+1+1=p.size
 ·rw[if_pos (by rw[b]; exact beq_self_eq_true _)]
  exact Bl ⟨kp,T.last_end C M1 b⟩
 ·rw[if_neg (λz=>b (Ee z))]
  by_cases c:(decide (f<7) && decide (k<7))=true
  ·rw[if_pos c]
   exact Bl ⟨kp,M1,by omega,e,by omega⟩
  ·rw[if_neg c]
   exact Bl ⟨kp,M1,by omega,e,by omega⟩
theorem xK(C:Cmp prog w A s d Ok blt)(T:Two Ok blt p q Y V xl){t st:Bz}(kp:Kept t st)(O:kindOf st=d)(M:LI blt p q out i j)(K:i+1<p.size)(hj:j<q.size)(hn:n<=i+j)(f:p[i]? = some x)(L:q[j]? = some y)(D:blt y x=true):wpS (model prog w) A E s (AI p q out i j g X W) (KQ blt p q t n) st:=by
 unfold AI
 refine Bc (Gq L ?_)
 have M1:LI blt p q (out.push y) i (j+1):=by
  have:=M.pushY T.sq (Ez L) (Rx C T.sp (Ez f) (C.ofLt D))
  rw[<- Pz] at this
  exact this
 by_cases F:j+1=q.size
 ·rw[if_pos (by rw[F]; exact beq_self_eq_true _)]
  exact Bl ⟨kp,T.done_end M1 (by omega)⟩
 ·rw[if_neg (λz=>F (Ee z))]
  refine Bc (Gq f ?_)
  have R:Row Ok q (j+1) (q.size - (j+1)) (λm=>q.getD (j+1+m) y):=⟨λm B=>?_,λm B=>?_⟩
  ·refine Bc (Qb C R (T.op x (Le f)) O (by omega) (λa b Z hb N=>?_) λk Q S H=>?_)
   ·obtain ⟨o,c⟩:=Gv (p:=q) (i:=j+1+a) (by omega)
    obtain ⟨yb,I⟩:=Gv (p:=q) (i:=j+1+b) (by omega)
    have U:q.getD (j+1+a) y=o:=by simp [Dc,c]
    have gb:q.getD (j+1+b) y=yb:=by simp [Dc,I]
    simp only[U,gb,Ia,if_true] at N ⊢
    exact C.leLt (Mq C T.sq (by omega) (Ez c) (Ez I)) N
   ·dsimp only
    have val:∀m h,q[j+1+m]? = some h->q.getD (j+1+m) y=h:=λm h e=>by simp [Dc,e]
    have M2:LI blt p q (out.push y++q.extract (j+1) (j+1+k)) i (j+1+k):=by
     have:=M1.blockY T.sq k (by rw[An]; omega) (λm B h P=>by
      have v:q[j+1+m]? = some h:=by simpa using P
      have:=S m B
      rw[val m h v] at this
      simp only[Ia,if_true] at this
      exact Rx C T.sp (Ez f) (C.ofLt this))
     rw[<- Zs,<- Dz] at this
     exact this
    by_cases J:k > 0
    ·rw[if_pos J]
     by_cases G:j+1+k=q.size
     ·rw[if_pos (by rw[G]; exact beq_self_eq_true _)]
      exact Bl ⟨kp,T.done_end M2 (by omega)⟩
     ·rw[if_neg (λz=>G (Ee z))]
      obtain ⟨l,r⟩:=Gv (p:=q) (i:=j+1+k) (by omega)
      refine wH C T kp M2 K (by omega) (by omega) f (Rx C T.sq (Ez r) ?_)
      have:=H k (Ak _) (by omega)
      rw[val k l r] at this
      have z:blt l x=false:=by simpa only [Ia,if_true] using this
      exact z
    ·rw[if_neg J]
     have u:k=0:=by omega
     subst u
     obtain ⟨l,r⟩:=Gv (p:=q) (i:=j+1) (by omega)
     refine wH C T kp M1 K (by omega) (by omega) f (Rx C T.sq (Ez r) ?_)
     have:=H 0 (Ak _) (by omega)
     rw[val 0 l r] at this
     have z:blt l x=false:=by simpa only [Ia,if_true] using this
     exact z
  ·obtain ⟨o,c⟩:=Gv (p:=q) (i:=j+1+m) (by omega)
   rw[c]
   simp [Dc,c]
  ·obtain ⟨o,c⟩:=Gv (p:=q) (i:=j+1+m) (by omega)
   have : q.getD (j+1+m) y=o:=by simp [Dc,c]
   rw[this]
   exact T.oq o (Le c)
theorem X6(C:Cmp prog w A s d Ok blt)(T:Two Ok blt p q x0 W H){u st:Bz}(kp:Kept u st)(U:kindOf st=d)(M:LI blt p q out i j)(hi:i+1<p.size)(B:j<q.size)(hn:n<=i+j):wpS (model prog w) A E s (FT p q out i j g Z X) (KQ blt p q u n) st:=by
 unfold FT
 refine Bc (Wq λI t=>?_)
 have h:=kp.trans t
 have f:kindOf I=d:=t.kind.trans U
 obtain ⟨y,r⟩:=Gv (p:=q) B
 refine Bc (Gq r ?_)
 have val:∀m o,p[i+m]? = some o->p.getD (i+m) y=o:=λm o e=>by simp [Dc,e]
 have R:Row Ok p i (p.size - i) (λm=>p.getD (i+m) y):=⟨λm G=>by
  obtain ⟨l,c⟩:=Gv (p:=p) (i:=i+m) (by omega)
  rw[val m l c,c],λm G=>by
  obtain ⟨l,c⟩:=Gv (p:=p) (i:=i+m) (by omega)
  show Ok (p.getD (i+m) y)
  rw[val m l c]
  exact T.op l (Le c)⟩
 refine Bc (Qb C R (T.oq y (Le r)) f (by omega) (λa b Y hb O=>?_) λk V L Q=>?_)
 ·obtain ⟨l,c⟩:=Gv (p:=p) (i:=i+a) (by omega)
  obtain ⟨xb,K⟩:=Gv (p:=p) (i:=i+b) (by omega)
  simp only[val a l c,val b xb K,Ia,Bt,if_false,Lq] at O ⊢
  exact C.trans (Mq C T.sp (by omega) (Ez c) (Ez K)) O
 ·dsimp only
  -- the last one is beyond y: so k does not reach it
  have h0:i+k+1<=p.size:=by
   rcases Nat.lt_or_ge (i+k) p.size with z | z
   ·omega
   ·exfalso
    have:=L (p.size - 1 - i) (by omega)
    have e:p[i+(p.size - 1 - i)]? = some H:=by
     rw[show i+(p.size - 1 - i)=p.size - 1 by omega]
     exact T.hxl
    rw[val _ H e] at this
    simp only[Ia,Bt,if_false,T.last y (Le r),Us] at this
  have M1:LI blt p q (out++p.extract i (i+k)) (i+k) j:=by
   have:=M.blockX T.sp k (by rw[An]; omega) (λm G o S=>by
    have J:p[i+m]? = some o:=by simpa using S
    have:=L m G
    rw[val m o J] at this
    simp only[Ia,Bt,if_false,Lq] at this
    exact Rx C T.sq (Ez r) this)
   rw[<- Zs,<- Dz] at this
   exact this
  obtain ⟨P,D⟩:=Gv (p:=p) (i:=i+k) (by omega)
  have v:blt y P=true:=by
   have:=Q k (Ak _) (by omega)
   rw[val k P D] at this
   simpa only [Ia,Bt,if_false,Sq] using this
  by_cases N:k > 0
  ·rw[if_pos N]
   by_cases x:i+k+1=p.size
   ·rw[if_pos (by rw[x]; exact beq_self_eq_true _)]
    exact Bl ⟨h,T.last_end C M1 x⟩
   ·rw[if_neg (λz=>x (Ee z)),if_neg (λz=>by have:=Ee z; omega)]
    exact xK C T h f M1 (by omega) B (by omega) D r v
  ·rw[if_neg N]
   have F:k=0:=by omega
   subst F
   exact xK C T h f M hi B hn D r v
theorem uX(C:Cmp prog w A s d Ok blt)(T:Two Ok blt p q x0 X xl){st:Bz}(W:kindOf st=d)(h:∀r a,Kept st a->uH blt p q r->Q r a):wpS (model prog w) A E s (rZ p q) Q st:=by
 have p0:0<p.size:=by
  have:=(Iv.mp T.hx0).1
  exact this
 have q0:0<q.size:=by
  have:=(Iv.mp T.hy0).1
  exact this
 have O:LI blt p q #[X] 0 1:=by
  have m:LI blt p q #[] 0 0:=⟨by simp,by simp,λo N=>by simp at N,λo N=>by simp at N⟩
  have:=m.pushY T.sq (Ez T.hy0) (Rx C T.sp (Ez T.hx0) (C.ofLt T.first))
  simpa using this
 unfold rZ
 refine Bc (Wz ?_)
 refine Bc (Gq T.hy0 ?_)
 dsimp only
 by_cases U:1=q.size
 ·rw[if_pos (by rw[<- U]; rfl)]
  exact Bl (h _ _ (Kept.refl _) (T.done_end O (by omega)))
 rw[if_neg (λz=>U (Ee z))]
 by_cases Y:0+1=p.size
 ·rw[if_pos (by rw[<- Y]; rfl)]
  exact Bl (h _ _ (Kept.refl _) (T.last_end C O (by omega)))
 rw[if_neg (λz=>Y (Ee z))]
 refine Bc (Ph ?_)
 refine Bc (Iu (Fe
  (I:=λx c a=>Kept st a/\∃out i j g,c=(none,out,i,j,g)/\LI blt p q out i j/\i+1<p.size/\j<q.size/\x+1<=i+j)
  (Q:=λc a=>Kept st a/\∃r Iy,c=(some r,Iy)/\uH blt p q r) ?_ ?_ ⟨Kept.refl _,_,0,1,_,rfl,O,by omega,by omega,by omega⟩) ?_)
 ·(intro x c D _ F t; obtain ⟨n,out,i,j,g,rfl,M,u,l,v⟩ := t)
  dsimp only
  -- one by one
  refine Bc (Iu (Fe
   (I:=λ_ c a=>a=D/\∃out i j f e,c=(none,out,i,j,f,e)/\LI blt p q out i j/\i+1<p.size/\j<q.size/\x+1<=i+j)
   (Q:=λc a=>a=D/\((∃r Iy,c=(some r,Iy)/\uH blt p q r)\/∃out i j f e,c=(none,out,i,j,f,e)/\LI blt p q out i j/\i+1<p.size/\j<q.size/\x+1<=i+j)) ?_ ?_ ⟨rfl,out,i,j,0,0,rfl,M,u,l,v⟩) ?_)
  ·(intro z c H _ hz t; obtain ⟨rfl,out,i,j,f,e,rfl,M,u,l,v⟩ := t)
   dsimp only
   obtain ⟨P,G⟩:=Gv (p:=q) l
   obtain ⟨S,F⟩:=Gv (p:=p) (i:=i) (by omega)
   refine Bc (Gq G ?_)
   refine Bc (Gq F ?_)
   refine Bc (rF C (n.kind.trans W) (T.oq P (Le G)) (T.op S (Le F)) ?_)
   dsimp only
   cases V:blt P S with
   | true =>
    rw[if_pos rfl]
    refine Bc (Gq G ?_)
    have M1:LI blt p q (out.push P) i (j+1):=by
     have:=M.pushY T.sq (Ez G) (Rx C T.sp (Ez F) (C.ofLt V))
     rw[<- Pz] at this
     exact this
    by_cases K:j+1=q.size
    ·rw[if_pos (by rw[K]; exact beq_self_eq_true _)]
     exact Bl ⟨rfl,.inl ⟨_,_,rfl,T.done_end M1 (by omega)⟩⟩
    ·rw[if_neg (λz=>K (Ee z))]
     split
     ·exact Bl ⟨rfl,.inr ⟨_,_,_,_,_,rfl,M1,u,by omega,by omega⟩⟩
     ·exact Bl ⟨rfl,_,_,_,_,_,rfl,M1,u,by omega,by omega⟩
   | false =>
    rw[if_neg Bk]
    refine Bc (Gq F ?_)
    have M1:LI blt p q (out.push S) (i+1) j:=by
     have:=M.pushX T.sp (Ez F) (Rx C T.sq (Ez G) V)
     rw[<- Pz] at this
     exact this
    by_cases K:i+1+1=p.size
    ·rw[if_pos (by rw[K]; exact beq_self_eq_true _)]
     exact Bl ⟨rfl,.inl ⟨_,_,rfl,T.last_end C M1 (by omega)⟩⟩
    ·rw[if_neg (λz=>K (Ee z))]
     split
     ·exact Bl ⟨rfl,.inr ⟨_,_,_,_,_,rfl,M1,by omega,l,by omega⟩⟩
     ·exact Bl ⟨rfl,_,_,_,_,_,rfl,M1,by omega,l,by omega⟩
  ·(intro c H t; obtain ⟨rfl,out,i,j,f,e,rfl,M⟩ := t)
   exact ⟨rfl,.inr ⟨out,i,j,f,e,rfl,M⟩⟩
  ·rintro c H ⟨rfl,hc⟩
   rcases hc with hc | hc
   ·obtain ⟨r,Iy,rfl,b⟩:=hc
    exact Bl ⟨n,r,_,rfl,b⟩
   ·obtain ⟨out,i,j,f,e,rfl,M,u,l,v⟩:=hc
    dsimp only
    refine Bc (Wz ?_)
    -- the gallop
    refine Bc (Iu (Fe
     (I:=λy c a=>Kept st a/\∃out i j g f e,c=(none,out,i,j,g,f,e)/\LI blt p q out i j/\i+1<p.size/\j<q.size/\(if y=0 then x+1<=i+j else x+2<=i+j))
     (Q:=λc a=>Kept st a/\((∃r Iy,c=(some r,Iy)/\uH blt p q r)\/∃out i j g f e,c=(none,out,i,j,g,f,e)/\LI blt p q out i j/\i+1<p.size/\j<q.size/\x+2<=i+j)) ?_ ?_
     ⟨n,out,i,j,_,f,e,rfl,M,u,l,by rw[if_pos rfl]; exact v⟩) ?_)
    ·(intro y c Ua _ G t; obtain ⟨k,out,i,j,g,f,e,rfl,M,u,l,v⟩ := t)
     have R:x+1<=i+j:=by split at v <;> omega
     have J:∀Z,wpS (model prog w) A E s (FT p q out i j Z f e) (KQ blt p q st (x+1)) Ua:=λZ=>X6 C T k (k.kind.trans W) M u l R
     dsimp only
     refine Iu (?_:wpS (model prog w) A E s _ (KQ blt p q st (x+1)) Ua) λr L b=>?_
     ·by_cases hg:g > 1
      ·rw[if_pos hg]
       exact J _
      ·rw[if_neg hg]
       exact J _
     ·obtain ⟨B,b⟩:=b
      match r,b with
      | .done (some r,Iy),b=>exact ⟨B,.inl ⟨r,Iy,rfl,b⟩⟩
      | .done (none,out,i,j,g,f,e),b=>exact ⟨B,.inr ⟨out,i,j,g,f,e,rfl,b.1,b.2.1,b.2.2.1,by have:=b.2.2.2; omega⟩⟩
      | .yield (none,out,i,j,g,f,e),b=>exact ⟨B,out,i,j,g,f,e,rfl,b.1,b.2.1,b.2.2.1,by rw[if_neg (by omega)]; have:=b.2.2.2; omega⟩
    ·(intro c Ua t; obtain ⟨k,out,i,j,g,f,e,rfl,M,u,l,v⟩ := t)
     rw[if_neg (by omega)] at v
     exact ⟨k,.inr ⟨out,i,j,g,f,e,rfl,M,u,l,v⟩⟩
    ·rintro c Ua ⟨k,hc⟩
     rcases hc with hc | hc
     ·obtain ⟨r,Iy,rfl,b⟩:=hc
      exact Bl ⟨k,r,_,rfl,b⟩
     ·obtain ⟨out,i,j,g,f,e,rfl,M,u,l,v⟩:=hc
      dsimp only
      refine Bc (Wq λL B=>?_)
      exact Bl ⟨k.trans B,out,i,j,_,rfl,M,u,l,by omega⟩
 ·(intro c D t; obtain ⟨n,out,i,j,g,rfl,M,u,l,v⟩ := t)
  exfalso
  have : max 0 (p.size+q.size)=p.size+q.size:=by omega
  rw[this] at v
  omega
 ·(intro c D t; obtain ⟨n,r,Iy,rfl,b⟩ := t)
  exact Bl (h r D n b)
end
def sW:Array Keyed->Array Keyed->StateT Bz Sem (Array Keyed):=sortPriv% PySem.Builtin.mergeHi
abbrev FR(p q out:Array Keyed)(m n:Nat):Array Keyed:=p.extract 0 m++q.extract 0 n++out.reverse
abbrev NG(p q out:Array Keyed)(m n:Nat):Array Keyed:=q.extract 0 n++p.extract 0 m++out.reverse
abbrev BR:=Option (Array Keyed)×Nat×Nat×Array Keyed×Nat×Nat×Nat
def CH(p q out:Array Keyed)(m n g a k:Nat):StateT Bz Sem (ForInStep BR):=do
 let x <- elem' p (m - 1)
 if (m - 1 == 0)=true then pure (Df (some (FR p q (out.push x) (m - 1) n),m - 1,n,out.push x,g,a,k))
 else if (decide (a<7) && decide (k<7))=true then pure (Df (none,m - 1,n,out.push x,g,a,k))
 else pure (Eu (none,m - 1,n,out.push x,g,a,k))
def AD(p q out:Array Keyed)(m n g a b:Nat):StateT Bz Sem (ForInStep BR):=do
 let y <- elem' q (n - 1)
 if (n - 1 == 1)=true then pure (Df (some (NG p q (out.push y) m (n - 1)),m,n - 1,out.push y,g,a,b))
 else do
  let x <- elem' p (m - 1)
  let some t <- Xd true x q 0 (n - 1) (n - 1 - 1) | pure (Df (some (FR p q (out.push y) m (n - 1)),m,n - 1,out.push y,g,a,b))
  if n - 1 - t > 0 then
   if (t == 1)=true then pure (Df (some (NG p q (out.push y++(q.extract t (n - 1)).reverse) m t),m,t,out.push y++(q.extract t (n - 1)).reverse,g,a,n - 1 - t))
   else if (t == 0)=true then pure (Df (some (FR p q (out.push y++(q.extract t (n - 1)).reverse) m t),m,t,out.push y++(q.extract t (n - 1)).reverse,g,a,n - 1 - t))
   else CH p q (out.push y++(q.extract t (n - 1)).reverse) m t g a (n - 1 - t)
  else CH p q (out.push y) m (n - 1) g a (n - 1 - t)
def EX(p q out:Array Keyed)(m n g b a:Nat):StateT Bz Sem (ForInStep BR):=do
 dY g
 let y <- elem' q (n - 1)
 let some t <- Xd false y p 0 m (m - 1) | pure (Df (some (FR p q out m n),m,n,out,g,b,a))
 if m - t > 0 then
  if (t == 0)=true then pure (Df (some (FR p q (out++(p.extract t m).reverse) t n),t,n,out++(p.extract t m).reverse,g,m - t,a))
  else AD p q (out++(p.extract t m).reverse) t n g (m - t) a
 else AD p q out m n g (m - t) a
section
variable{a:Type}{R:a->a->Prop}{xs ys out:List a}{i j:Nat}
theorem MI.swap(M:MI R xs ys out i j):MI R ys xs out j i:=⟨M.perm.trans Dy,M.srt,M.ly,M.lx⟩
theorem MI.endXY(M:MI R xs ys out i j)(b:xs.Pairwise R)(a:ys.Pairwise R)(h:∀x∈xs.drop i,∀y∈ys.drop j,R x y):(out++xs.drop i++ys.drop j).Perm (xs++ys)/\(out++xs.drop i++ys.drop j).Pairwise R:=by
 have:=M.swap.endYX a b h
 exact ⟨this.1.trans Dy,this.2⟩
end
abbrev ge(blt:Keyed->Keyed->Bool)(x y:Keyed):Prop:=le blt y x
abbrev HI(blt:Keyed->Keyed->Bool)(p q out:Array Keyed)(m n:Nat):Prop:=MI (ge blt) p.toList.reverse q.toList.reverse out.toList (p.size - m) (q.size - n)
theorem Lh(p:Array Keyed)(h:m<=p.size):p.toList.reverse.drop (p.size - m)=(p.toList.take m).reverse:=by
 rw[List.drop_reverse,An]
 congr 2
 omega
theorem C8{p:Array Keyed}(h0:0<m)(h:m<=p.size)(e:p[m - 1]? = some x):p.toList.reverse[p.size - m]? = some x:=by
 rw[Xq (by rw[An]; omega),An,show p.size - 1 - (p.size - m)=m - 1 by omega]
 exact Ez e
theorem AK(p:Array Keyed)(m:Nat):(p.extract 0 m).toList=p.toList.take m:=by
 rw[Pq,Ml,Sm,Nat.sub_zero]
theorem MN(p:Array Keyed)(h1:t<=m)(a:m<=p.size):(p.extract t m).reverse.toList=(p.toList.reverse.drop (p.size - m)).take (m - t):=by
 rw[Lh p a,List.take_reverse,Xz,Pq,Ml,Dw,An,List.drop_take]
 congr 2
 ·omega
 ·congr 1
  omega
section
variable{prog:Bn}{w:World}{A:Ck}{s:Ah}{d:Ny}{Ok:Keyed->Prop}{blt:Keyed->Keyed->Bool}{E:Value->Ah->Prop}
theorem Lg{l:List Keyed}(h:l.Pairwise (le blt)):l.reverse.Pairwise (ge blt):=Xp.mpr h
theorem Two.dn_end(T:Two Ok blt p q j i g)(M:HI blt p q out m n)(b:m<=p.size)(c:n<=q.size)(h:m=0\/n=0):uH blt p q (FR p q out m n):=by
 have a:=M.endYX (Lg T.sp) (Lg T.sq) (λy d x f=>by
  rw[Lh p b] at f
  rw[Lh q c] at d
  rcases h with h | h
  ·subst h; simp at f
  ·subst h; simp at d)
 rw[Lh p b,Lh q c] at a
 have e:(FR p q out m n).toList=(out.toList++(q.toList.take n).reverse++(p.toList.take m).reverse).reverse:=by
  rw[Dz,Dz,AK,AK,Xz]
  simp
 refine ⟨?_,?_⟩
 ·rw[e]
  refine (Lo _).trans (a.1.trans ?_)
  exact List.Perm.append (Lo _) (Lo _)
 ·rw[e]
  exact Xp.mpr a.2
theorem Two.fs_end(C:Cmp prog w A s d Ok blt)(T:Two Ok blt p q u j r)(M:HI blt p q out m n)(h:m<=p.size)(t:n=1)(i:1<=q.size):uH blt p q (NG p q out m n):=by
 subst t
 have g:=M.endXY (Lg T.sp) (Lg T.sq) (λx o y l=>by
  rw[Lh p h] at o
  rw[Lh q i] at l
  have v:y=j:=by
   have : y∈q.toList.take 1:=Vc.mp l
   obtain ⟨k,b,e⟩:=Ht.mp this
   have c:k=0:=by
    rw[Dw] at b
    omega
   subst c
   have a:q.toList[0]? = some y:=by
    rw[<- e,<- Co b,Jx (by omega)]
   rw[Ez T.hy0] at a
   exact (Cj a).symm
  rw[v]
  have f:x∈p.toList:=List.mem_of_mem_take (Vc.mp o)
  obtain ⟨k,b,e⟩:=Ht.mp f
  have a:p.toList[k]? = some x:=by rw[<- e,Co b]
  exact C.trans (C.ofLt T.first) (Mq C T.sp (Dq k) (Ez T.hx0) a))
 rw[Lh p h,Lh q i] at g
 have e:(NG p q out m 1).toList=(out.toList++(p.toList.take m).reverse++(q.toList.take 1).reverse).reverse:=by
  rw[Dz,Dz,AK,AK,Xz]
  simp
 refine ⟨?_,?_⟩
 ·rw[e]
  refine (Lo _).trans (g.1.trans ?_)
  exact List.Perm.append (Lo _) (Lo _)
 ·rw[e]
  exact Xp.mpr g.2
theorem Wo(C:Cmp prog w A s d Ok blt){p:Array Keyed}(sp:p.toList.Pairwise (le blt))(h0:0<m)(f:m<=p.size)(g:p[m - 1]? = some x)(h:le blt x y):∀z∈p.toList.reverse.drop (p.size - m),ge blt y z:=λz b=>by
 rw[Lh p f] at b
 obtain ⟨k,a,e⟩:=Ht.mp (Vc.mp b)
 have c:p.toList[k]? = some z:=by
  rw[Dw] at a
  rw[<- e,<- Co (by rw[Dw]; exact a),Jx (by omega)]
 rw[Dw] at a
 exact C.trans (Mq C sp (by omega) c (Ez g)) h
theorem HI.pushX(C:Cmp prog w A s d Ok blt)(T:Two Ok blt p q e c b)(M:HI blt p q out m n)(h0:0<m)(a:m<=p.size)(f:p[m - 1]? = some x)(h:∀z∈q.toList.reverse.drop (q.size - n),ge blt x z):HI blt p q (out.push x) (m - 1) n:=by
 have:=MI.pushX M (Lg T.sp) (C8 h0 a f) h
 rw[<- Pz,show p.size - m+1=p.size - (m - 1) by omega] at this
 exact this
theorem HI.pushY(C:Cmp prog w A s d Ok blt)(T:Two Ok blt p q f b c)(M:HI blt p q out m n)(h0:0<n)(a:n<=q.size)(e:q[n - 1]? = some y)(h:∀z∈p.toList.reverse.drop (p.size - m),ge blt y z):HI blt p q (out.push y) m (n - 1):=by
 have:=MI.pushY M (Lg T.sq) (C8 h0 a e) h
 rw[<- Pz,show q.size - n+1=q.size - (n - 1) by omega] at this
 exact this
def LY(blt:Keyed->Keyed->Bool)(p q:Array Keyed)(st:Bz)(b:Nat)(r:ForInStep BR)(a:Bz):Prop:=Kept st a/\match r with
 | .done (some r,_)=>uH blt p q r
 | .done (none,m,n,out,_)=>HI blt p q out m n/\0<m/\m<=p.size/\1<n/\n<=q.size/\m+n<b
 | .yield (none,m,n,out,_)=>HI blt p q out m n/\0<m/\m<=p.size/\1<n/\n<=q.size/\m+n<b
 | .yield (some _,_)=>False
theorem yB(C:Cmp prog w A s d Ok blt)(T:Two Ok blt p q u r t){a st:Bz}(kp:Kept a st)(M:HI blt p q out m n)(v:0<m)(l:m<=p.size)(f:1<n)(e:n<=q.size)(hb:m+n<=b)(j:p[m - 1]? = some x)(o:∀z∈q.toList.reverse.drop (q.size - n),ge blt x z):wpS (model prog w) A E s (CH p q out m n g i k) (LY blt p q a b) st:=by
 unfold CH
 refine Bc (Gq j ?_)
 have M1:=HI.pushX C T M v l j o
 by_cases c:m - 1=0
 ·rw[if_pos (by rw[c]; rfl)]
  exact Bl ⟨kp,T.dn_end M1 (by omega) e (.inl c)⟩
 ·rw[if_neg (λz=>c (Ee z))]
  by_cases h:(decide (i<7) && decide (k<7))=true
  ·rw[if_pos h]
   exact Bl ⟨kp,M1,by omega,by omega,f,e,by omega⟩
  ·rw[if_neg h]
   exact Bl ⟨kp,M1,by omega,by omega,f,e,by omega⟩
theorem yP(C:Cmp prog w A s d Ok blt)(T:Two Ok blt p q x0 y0 xl){v st:Bz}(kp:Kept v st)(X:kindOf st=d)(M:HI blt p q out m n)(B:0<m)(j:m<=p.size)(n0:1<n)(hn:n<=q.size)(hb:m+n<=b)(r:p[m - 1]? = some x)(O:q[n - 1]? = some y)(D:le blt x y):wpS (model prog w) A E s (AD p q out m n g ac bc) (LY blt p q v b) st:=by
 unfold AD
 refine Bc (Gq O ?_)
 have M1:=HI.pushY C T M (by omega) hn O (Wo C T.sp B j r D)
 by_cases F:n - 1=1
 ·rw[if_pos (by rw[F]; rfl)]
  exact Bl ⟨kp,T.fs_end C M1 j F (by omega)⟩
 rw[if_neg (λz=>F (Ee z))]
 refine Bc (Gq r ?_)
 have val:∀i l,q[i]? = some l->q.getD (0+i) y=l:=λi l e=>by rw[Os]; simp [Dc,e]
 have R:Row Ok q 0 (n - 1) (λi=>q.getD (0+i) y):=⟨λi P=>by
  obtain ⟨o,h⟩:=Gv (p:=q) (i:=i) (by omega)
  rw[val i o h,Os,h],λi P=>by
  obtain ⟨o,h⟩:=Gv (p:=q) (i:=i) (by omega)
  show Ok (q.getD (0+i) y)
  rw[val i o h]
  exact T.oq o (Le h)⟩
 refine Bc (Qb C R (T.op x (Le r)) X (by omega) (λa c I hc Q=>?_) λt ht Z V=>?_)
 ·obtain ⟨o,h⟩:=Gv (p:=q) (i:=a) (by omega)
  obtain ⟨Y,J⟩:=Gv (p:=q) (i:=c) (by omega)
  simp only[val a o h,val c Y J,Ia,if_true] at Q ⊢
  exact C.leLt (Mq C T.sq I (Ez h) (Ez J)) Q
 dsimp only
 have M2:HI blt p q (out.push y++(q.extract t (n - 1)).reverse) m t:=by
  have:=MI.blockY M1 (Lg T.sq) (n - 1 - t) (by rw[Kc,An]; omega) (λi P l K=>by
   have e1:q[n - 1 - i - 1]? = some l:=by
    rw[Xq (by rw[An]; omega),An,show q.size - 1 - (q.size - (n - 1)+i)=n - 1 - i - 1 by omega] at K
    simpa using K
   have:=V (n - 1 - i - 1) (by omega) (by omega)
   rw[val _ l e1] at this
   have z:blt l x=false:=by simpa only [Ia,if_true] using this
   exact Wo C T.sp B j r z)
  rw[<- MN q (by omega) (by omega),<- Dz,show q.size - (n - 1)+(n - 1 - t)=q.size - t by omega] at this
  exact this
 -- what is left of q is f x
 have f:∀z∈q.toList.reverse.drop (q.size - t),ge blt x z:=λz N=>by
  rw[Lh q (by omega)] at N
  obtain ⟨k,u,e⟩:=Ht.mp (Vc.mp N)
  rw[Dw] at u
  have W:q.toList[k]? = some z:=by
   rw[<- e,<- Co (by rw[Dw]; exact u),Jx (by omega)]
  have S:q[k]? = some z:=by simpa using W
  have:=Z k (by omega)
  rw[val k z S] at this
  exact C.ofLt (by simpa only [Ia,if_true] using this)
 by_cases L:n - 1 - t > 0
 ·rw[if_pos L]
  by_cases G:t=1
  ·rw[if_pos (by rw[G]; rfl)]
   exact Bl ⟨kp,T.fs_end C M2 j G (by omega)⟩
  ·rw[if_neg (λz=>G (Ee z))]
   by_cases H:t=0
   ·rw[if_pos (by rw[H]; rfl)]
    exact Bl ⟨kp,T.dn_end M2 j (by omega) (.inr H)⟩
   ·rw[if_neg (λz=>H (Ee z))]
    exact yB C T kp M2 B j (by omega) (by omega) (by omega) r f
 ·rw[if_neg L]
  have U:t=n - 1:=by omega
  rw[U] at f
  exact yB C T kp M1 B j (by omega) (by omega) (by omega) r f
theorem AZ(C:Cmp prog w A s d Ok blt)(T:Two Ok blt p q x0 X xl){v st:Bz}(kp:Kept v st)(V:kindOf st=d)(M:HI blt p q out m n)(Q:0<m)(K:m<=p.size)(N:1<n)(D:n<=q.size)(hb:m+n<=b):wpS (model prog w) A E s (EX p q out m n g Z Y) (LY blt p q v b) st:=by
 unfold EX
 refine Bc (Wq λH u=>?_)
 have o:=kp.trans u
 have k:kindOf H=d:=u.kind.trans V
 obtain ⟨y,B⟩:=Gv (p:=q) (i:=n - 1) (by omega)
 refine Bc (Gq B ?_)
 have val:∀i l,p[i]? = some l->p.getD (0+i) y=l:=λi l e=>by rw[Os]; simp [Dc,e]
 have R:Row Ok p 0 m (λi=>p.getD (0+i) y):=⟨λi O=>by
  obtain ⟨r,h⟩:=Gv (p:=p) (i:=i) (by omega)
  rw[val i r h,Os,h],λi O=>by
  obtain ⟨r,h⟩:=Gv (p:=p) (i:=i) (by omega)
  show Ok (p.getD (0+i) y)
  rw[val i r h]
  exact T.op r (Le h)⟩
 refine Bc (Qb C R (T.oq y (Le B)) k (by omega) (λa c G hc P=>?_) λt ht W U=>?_)
 ·obtain ⟨r,h⟩:=Gv (p:=p) (i:=a) (by omega)
  obtain ⟨xc,I⟩:=Gv (p:=p) (i:=c) (by omega)
  simp only[val a r h,val c xc I,Ia,Bt,if_false,Lq] at P ⊢
  exact C.trans (Mq C T.sp G (Ez h) (Ez I)) P
 dsimp only
 have M1:HI blt p q (out++(p.extract t m).reverse) t n:=by
  have:=MI.blockX M (Lg T.sp) (m - t) (by rw[Kc,An]; omega) (λi O l J=>by
   have e1:p[m - i - 1]? = some l:=by
    rw[Xq (by rw[An]; omega),An,show p.size - 1 - (p.size - m+i)=m - i - 1 by omega] at J
    simpa using J
   have:=U (m - i - 1) (by omega) (by omega)
   rw[val _ l e1] at this
   have z:blt y l=true:=by simpa only [Ia,Bt,if_false,Sq] using this
   exact Wo C T.sq (by omega) D B (C.ofLt z))
  rw[<- MN p (by omega) K,<- Dz,show p.size - m+(m - t)=p.size - t by omega] at this
  exact this
 have f:∀x,0<t->p[t - 1]? = some x->le blt x y:=λx h0 j=>by
  have:=W (t - 1) (by omega)
  rw[val _ x j] at this
  have z:blt y x=false:=by simpa only [Ia,Bt,if_false,Lq] using this
  exact z
 by_cases L:m - t > 0
 ·rw[if_pos L]
  by_cases F:t=0
  ·rw[if_pos (by rw[F]; rfl)]
   exact Bl ⟨o,T.dn_end M1 (by omega) D (.inl F)⟩
  ·rw[if_neg (λz=>F (Ee z))]
   obtain ⟨x,j⟩:=Gv (p:=p) (i:=t - 1) (by omega)
   exact yP C T o k M1 (by omega) (by omega) N D (by omega) j B (f x (by omega) j)
 ·rw[if_neg L]
  have S:t=m:=by omega
  subst S
  obtain ⟨x,j⟩:=Gv (p:=p) (i:=t - 1) (by omega)
  exact yP C T o k M Q K N D hb j B (f x Q j)
theorem vJ(C:Cmp prog w A s d Ok blt)(T:Two Ok blt p q x0 y0 xl){st:Bz}(Y:kindOf st=d)(h:∀r a,Kept st a->uH blt p q r->Q r a):wpS (model prog w) A E s (sW p q) Q st:=by
 have p0:0<p.size:=(Iv.mp T.hx0).1
 have q0:0<q.size:=(Iv.mp T.hy0).1
 obtain ⟨yl,N⟩:=Gv (p:=q) (i:=q.size - 1) (by omega)
 have W:HI blt p q #[xl] (p.size - 1) q.size:=by
  have m:HI blt p q #[] p.size q.size:=⟨by simp,by simp,λo V=>by simp at V,λo V=>by simp at V⟩
  have:=HI.pushX C T m p0 (Ak _) T.hxl (Wo C T.sq q0 (Ak _) N (C.ofLt (T.last yl (Le N))))
  simpa using this
 unfold sW
 refine Bc (Wz ?_)
 refine Bc (Gq T.hxl ?_)
 dsimp only
 by_cases S:p.size - 1=0
 ·rw[if_pos (by rw[S]; rfl)]
  exact Bl (h _ _ (Kept.refl _) (T.dn_end W (by omega) (by omega) (.inl S)))
 rw[if_neg (λz=>S (Ee z))]
 by_cases X:q.size=1
 ·rw[if_pos (by rw[X]; rfl)]
  exact Bl (h _ _ (Kept.refl _) (T.fs_end C W (by omega) X (by omega)))
 rw[if_neg (λz=>X (Ee z))]
 refine Bc (Ph ?_)
 refine Bc (Iu (Fe
  (I:=λx c a=>Kept st a/\∃m n out g,c=(none,m,n,out,g)/\HI blt p q out m n/\0<m/\m<=p.size/\1<n/\n<=q.size/\m+n+x+1<=p.size+q.size)
  (Q:=λc a=>Kept st a/\∃r Iy,c=(some r,Iy)/\uH blt p q r) ?_ ?_ ⟨Kept.refl _,_,_,_,_,rfl,W,by omega,by omega,by omega,by omega,by omega⟩) ?_)
 ·(intro x c G _ J v; obtain ⟨u,m,n,out,g,rfl,M,t,j,B,k,D⟩ := v)
  dsimp only
  -- one by one
  refine Bc (Iu (Fe
   (I:=λ_ c a=>a=G/\∃m n out f e,c=(none,m,n,out,f,e)/\HI blt p q out m n/\0<m/\m<=p.size/\1<n/\n<=q.size/\m+n+x+1<=p.size+q.size)
   (Q:=λc a=>a=G/\((∃r Iy,c=(some r,Iy)/\uH blt p q r)\/∃m n out f e,c=(none,m,n,out,f,e)/\HI blt p q out m n/\0<m/\m<=p.size/\1<n/\n<=q.size/\m+n+x+1<=p.size+q.size)) ?_ ?_ ⟨rfl,m,n,out,0,0,rfl,M,t,j,B,k,D⟩) ?_)
  ·(intro z c O _ hz v; obtain ⟨rfl,m,n,out,f,e,rfl,M,t,j,B,k,D⟩ := v)
   dsimp only
   obtain ⟨Z,L⟩:=Gv (p:=q) (i:=n - 1) (by omega)
   obtain ⟨xx,J⟩:=Gv (p:=p) (i:=m - 1) (by omega)
   refine Bc (Gq L ?_)
   refine Bc (Gq J ?_)
   refine Bc (rF C (u.kind.trans Y) (T.oq Z (Le L)) (T.op xx (Le J)) ?_)
   dsimp only
   cases R:blt Z xx with
   | true =>
    rw[if_pos rfl]
    refine Bc (Gq J ?_)
    have M1:=HI.pushX C T M t j J (Wo C T.sq (by omega) k L (C.ofLt R))
    by_cases H:m - 1=0
    ·rw[if_pos (by rw[H]; rfl)]
     exact Bl ⟨rfl,.inl ⟨_,_,rfl,T.dn_end M1 (by omega) k (.inl H)⟩⟩
    ·rw[if_neg (λz=>H (Ee z))]
     split
     ·exact Bl ⟨rfl,.inr ⟨_,_,_,_,_,rfl,M1,by omega,by omega,B,k,by omega⟩⟩
     ·exact Bl ⟨rfl,_,_,_,_,_,rfl,M1,by omega,by omega,B,k,by omega⟩
   | false =>
    rw[if_neg Bk]
    refine Bc (Gq L ?_)
    have M1:=HI.pushY C T M (by omega) k L (Wo C T.sp t j J R)
    by_cases H:n - 1=1
    ·rw[if_pos (by rw[H]; rfl)]
     exact Bl ⟨rfl,.inl ⟨_,_,rfl,T.fs_end C M1 j H (by omega)⟩⟩
    ·rw[if_neg (λz=>H (Ee z))]
     split
     ·exact Bl ⟨rfl,.inr ⟨_,_,_,_,_,rfl,M1,t,j,by omega,by omega,by omega⟩⟩
     ·exact Bl ⟨rfl,_,_,_,_,_,rfl,M1,t,j,by omega,by omega,by omega⟩
  ·(intro c O v; obtain ⟨rfl,m,n,out,f,e,rfl,M⟩ := v)
   exact ⟨rfl,.inr ⟨m,n,out,f,e,rfl,M⟩⟩
  ·rintro c O ⟨rfl,hc⟩
   rcases hc with hc | hc
   ·obtain ⟨r,Iy,rfl,b⟩:=hc
    exact Bl ⟨u,r,_,rfl,b⟩
   ·obtain ⟨m,n,out,f,e,rfl,M,t,j,B,k,D⟩:=hc
    dsimp only
    refine Bc (Wz ?_)
    -- the gallop
    refine Bc (Iu (Fe
     (I:=λy c a=>Kept st a/\∃m n out g f e,c=(none,m,n,out,g,f,e)/\HI blt p q out m n/\0<m/\m<=p.size/\1<n/\n<=q.size/\(if y=0 then m+n+x+1<=p.size+q.size else m+n+x+2<=p.size+q.size))
     (Q:=λc a=>Kept st a/\((∃r Iy,c=(some r,Iy)/\uH blt p q r)\/∃m n out g f e,c=(none,m,n,out,g,f,e)/\HI blt p q out m n/\0<m/\m<=p.size/\1<n/\n<=q.size/\m+n+x+2<=p.size+q.size)) ?_ ?_
     ⟨u,m,n,out,_,f,e,rfl,M,t,j,B,k,by rw[if_pos rfl]; exact D⟩) ?_)
    ·(intro y c Ua _ L v; obtain ⟨l,m,n,out,g,f,e,rfl,M,t,j,B,k,D⟩ := v)
     have h0:m+n+x+1<=p.size+q.size:=by split at D <;> omega
     have P:∀K,wpS (model prog w) A E s (EX p q out m n K f e) (LY blt p q st (m+n)) Ua:=λK=>AZ C T l (l.kind.trans Y) M t j B k (Ak _)
     dsimp only
     refine Iu (?_:wpS (model prog w) A E s _ (LY blt p q st (m+n)) Ua) λr U b=>?_
     ·by_cases hg:g > 1
      ·rw[if_pos hg]
       exact P _
      ·rw[if_neg hg]
       exact P _
     ·obtain ⟨F,b⟩:=b
      match r,b with
      | .done (some r,Iy),b=>exact ⟨F,.inl ⟨r,Iy,rfl,b⟩⟩
      | .done (none,m',n',out',K,ac',bc'),b=>exact ⟨F,.inr ⟨m',n',out',K,ac',bc',rfl,b.1,b.2.1,b.2.2.1,b.2.2.2.1,b.2.2.2.2.1,by have:=b.2.2.2.2.2; omega⟩⟩
      | .yield (none,m',n',out',K,ac',bc'),b=>exact ⟨F,m',n',out',K,ac',bc',rfl,b.1,b.2.1,b.2.2.1,b.2.2.2.1,b.2.2.2.2.1,by rw[if_neg (by omega)]; have:=b.2.2.2.2.2; omega⟩
    ·(intro c Ua v; obtain ⟨l,m,n,out,g,f,e,rfl,M,t,j,B,k,D⟩ := v)
     rw[if_neg (by omega)] at D
     exact ⟨l,.inr ⟨m,n,out,g,f,e,rfl,M,t,j,B,k,D⟩⟩
    ·rintro c Ua ⟨l,hc⟩
     rcases hc with hc | hc
     ·obtain ⟨r,Iy,rfl,b⟩:=hc
      exact Bl ⟨l,r,_,rfl,b⟩
     ·obtain ⟨m,n,out,g,f,e,rfl,M,t,j,B,k,D⟩:=hc
      dsimp only
      refine Bc (Wq λU F=>?_)
      exact Bl ⟨l.trans F,m,n,out,_,rfl,M,t,j,B,k,by omega⟩
 ·(intro c G v; obtain ⟨u,m,n,out,g,rfl,M,t,j,B,k,D⟩ := v)
  exfalso
  have : max 0 (p.size+q.size)=p.size+q.size:=by omega
  rw[this] at D
  omega
 ·(intro c G v; obtain ⟨u,r,Iy,rfl,b⟩ := v)
  exact Bl (h r G u b)
end
def jX:Nat->Nat->StateT Bz Sem (Option Nat):=sortPriv% PySem.Builtin.countRun
def cI:Nat->Nat->Nat->StateT Bz Sem Bool:=sortPriv% PySem.Builtin.binarySort
def X(xs:Array Keyed)(i:Nat):Keyed:=xs[i]?.getD (Gu,Gu)
theorem dH(h:i<xs.size):xs[i]? = some (X xs i):=by
 unfold X
 rw[getElem?_pos xs i h]
 rfl
theorem Um(h:xs[i]? = ys[j]?):X xs i=X ys j:=by unfold X; rw[h]
theorem Vo(a:j<=xs.size)(k:Nat):X (mirror xs i j ((j - i) / 2)) k=if i<=k/\k<j then X xs (i+j - 1 - k) else X xs k:=by
 have e:=getElem?_mirror_all (i:=i) a k
 by_cases h:i<=k/\k<j
 ·rw[if_pos h] at e ⊢; exact Um e
 ·rw[if_neg h] at e ⊢; exact Um e
theorem F9(c:src<xs.size)(hd:d<=src)(k:Nat):X (bubble xs src d) k=if k=src - d then X xs src else if src - d<k/\k<=src then X xs (k - 1) else X xs k:=by
 have e:=getElem?_bubble c d hd k
 by_cases a:k=src - d
 ·rw[if_pos a] at e ⊢; exact Um e
 ·rw[if_neg a] at e ⊢
  by_cases b:src - d<k/\k<=src
  ·rw[if_pos b] at e ⊢; exact Um e
  ·rw[if_neg b] at e ⊢; exact Um e
def Vy(blt:Keyed->Keyed->Bool)(xs:Array Keyed)(a b:Nat):Prop:=∀i j,a<=i->i<=j->j<b->le blt (X xs i) (X xs j)
def A4(blt:Keyed->Keyed->Bool)(xs:Array Keyed)(a b:Nat):Prop:=∀i j,a<=i->i<=j->j<b->le blt (X xs j) (X xs i)
structure Good(kd:Ny)(a₀:Array Keyed)(pend:Array (Nat×Nat×Nat))(st:Bz):Prop where
 kind:kindOf st=kd
 fail:Nx st=none
 perm:(arrOf st).Perm a₀
 pd:Bi st=pend
def oX(xs ys:Array Keyed)(a b:Nat):Prop:=∀i,(i<a\/b<=i)->X ys i=X xs i
theorem oX.refl(xs:Array Keyed)(a b:Nat):oX xs xs a b:=λ_ _=>rfl
theorem oX.trans(h:oX xs ys a b)(k:oX ys c a b):oX xs c a b:=λi d=>(k i d).trans (h i d)
section
variable{prog:Bn}{w:World}{A:Ck}{s:Ah}{f:Ny}{Ok:Keyed->Prop}{blt:Keyed->Keyed->Bool}{E:Value->Ah->Prop}{a₀:Array Keyed}{d:Array (Nat×Nat×Nat)}
theorem Good.size{st:Bz}(g:Good f a₀ d st):(arrOf st).size=a₀.size:=g.perm.size_eq
theorem Good.okX{st:Bz}(g:Good f a₀ d st)(h0:∀x∈a₀.toList,Ok x)(a:i<a₀.size):Ok (X (arrOf st) i):=by
 have e:=dH (xs:=arrOf st) (i:=i) (by rw[g.size]; exact a)
 exact h0 _ ((Sg.mp g.perm).mem_iff.mp (Le e))
theorem Good.set{st:Bz}(g:Good f a₀ d st)(h:xs.Perm (arrOf st)):Good f a₀ d (setArr st xs):=⟨g.kind,g.fail,h.trans g.perm,g.pd⟩
theorem Zj(C:Cmp prog w A s f Ok blt){st:Bz}(g:Good f a₀ d st)(h0:∀x∈a₀.toList,Ok x)(b:i<a₀.size)(a:j<a₀.size)(h:Q (some (blt (X (arrOf st) i) (X (arrOf st) j))) st):wpS (model prog w) A E s (ltAt' i j) Q st:=by
 rw[ltAt'_eq]
 refine Bc (Ph ?_)
 refine Bc (Gq (dH (by rw[g.size]; exact b)) ?_)
 refine Bc (Gq (dH (by rw[g.size]; exact a)) ?_)
 exact rF C g.kind (g.okX h0 b) (g.okX h0 a) h
theorem Up{st:Bz}(h:Q () (setArr st (mirror (arrOf st) i j ((j - i) / 2)))):wpS (model prog w) A E s (Xi i j) Q st:=by
 rw[reverseSlice'_eq]
 exact Lm h
def KM(lo a b:Nat):StateT Bz Sem (Option (Option Nat)×Nat) :=
 forIn [a:b] ((none,a):Option (Option Nat)×Nat) λ_ c=>do
  let some jE <- ltAt' (lo+c.2) (lo+c.2 - 1) | pure (Df (some none,c.2))
  if jE=true then pure (Df (none,c.2)) else pure (Eu (none,c.2+1))
theorem R8(C:Cmp prog w A s f Ok blt){st:Bz}(g:Good f a₀ d st)(h0:∀x∈a₀.toList,Ok x){lo a b:Nat}(hb:lo+b<=a₀.size)(z:1<=a)(q:a<=b)(h1:Vy blt (arrOf st) lo (lo+a))(h:∀n,a<=n->n<=b->Vy blt (arrOf st) lo (lo+n)->(n=b\/blt (X (arrOf st) (lo+n)) (X (arrOf st) (lo+n - 1))=true)->Q (none,n) st):wpS (model prog w) A E s (KM lo a b) Q st:=by
 unfold KM
 refine Fe (I:=λx c e=>e=st/\c=(none,x)/\Vy blt (arrOf st) lo (lo+x)) ?_ ?_ ⟨rfl,rfl,h1⟩
 ·(intro x c e p v r; obtain ⟨rfl,rfl,k⟩ := r)
  dsimp only
  refine Bc (Zj C g h0 (by omega) (by omega) ?_)
  dsimp only
  cases t:blt (X (arrOf e) (lo+x)) (X (arrOf e) (lo+x - 1)) with
  | true =>
   rw[if_pos rfl]
   exact Bl (h x p (by omega) k (.inr t))
  | false =>
   rw[if_neg Bk]
   refine Bl ⟨rfl,rfl,λi j u m B=>?_⟩
   by_cases l:j<lo+x
   ·exact k i j u m l
   ·have y:j=lo+x:=by omega
    subst y
    by_cases o:i=lo+x
    ·subst o; exact C.refl _
    ·exact C.trans (k i (lo+x - 1) u (by omega) (by omega)) t
 ·(intro c e r; obtain ⟨rfl,rfl,k⟩ := r)
  rw[show max a b=b by omega] at k ⊢
  exact h b q (Ak _) k (.inl rfl)
theorem tZ{lo n:Nat}(a:lo+n<=xs.size)(h:A4 blt xs lo (lo+n)):Vy blt (mirror xs lo (lo+n) ((lo+n - lo) / 2)) lo (lo+n):=λi j d b c=>by
 rw[Vo a,Vo a,if_pos (by omega),if_pos (by omega)]
 exact h _ _ (by omega) (by omega) (by omega)
theorem bQ{lo n b e:Nat}(m:lo+n<=xs.size)(l:e<=lo+n)(hb:lo<=b)(h:A4 blt xs lo (lo+n))(d:∀i j,b<=i->i<e->b<=j->j<e->le blt (X xs i) (X xs j)):A4 blt (mirror xs b e ((e - b) / 2)) lo (lo+n):=λi j g c k=>by
 rw[Vo (by omega),Vo (by omega)]
 by_cases f:b<=j/\j<e
 ·rw[if_pos f]
  by_cases a:b<=i/\i<e
  ·rw[if_pos a]
   exact d _ _ (by omega) (by omega) (by omega) (by omega)
  ·rw[if_neg a]
   exact h _ _ g (by omega) (by omega)
 ·rw[if_neg f]
  by_cases a:b<=i/\i<e
  ·rw[if_pos a]
   exact h _ _ (by omega) (by omega) (by omega)
  ·rw[if_neg a]
   exact h i j g c k
theorem Ul(h1:a<=i)(d:j<=b)(c:j<=xs.size):oX xs (mirror xs i j ((j - i) / 2)) a b:=λk e=>by
 rw[Vo c,if_neg (by omega)]
def E9(lo n b:Nat):StateT Bz Sem (Option Nat):=do
 Xi lo (lo+n)
 let mut m:=n
 for _ in [n:b] do
  let some jE <- ltAt' (lo+m) (lo+m - 1) | return none
  if jE then break
  m:=m+1
 return some m
theorem wU(C:Cmp prog w A s f Ok blt){st:Bz}(g:Good f a₀ d st)(h0:∀x∈a₀.toList,Ok x){lo n b:Nat}(hb:lo+b<=a₀.size)(l:1<=n)(e:n<=b)(h1:A4 blt (arrOf st) lo (lo+n))(h:∀m a,Good f a₀ d a->1<=m->m<=b->Vy blt (arrOf a) lo (lo+m)->oX (arrOf st) (arrOf a) lo (lo+b)->Q (some m) a):wpS (model prog w) A E s (E9 lo n b) Q st:=by
 unfold E9
 have c:lo+n<=(arrOf st).size:=by rw[g.size]; omega
 refine Bc (Up ?_)
 have j:Good f a₀ d (setArr st (mirror (arrOf st) lo (lo+n) ((lo+n - lo) / 2))):=g.set (mirror_perm _ _ _ _)
 refine Bc (R8 C j h0 hb l e (tZ c h1) λm o i k _=>?_)
 exact Bl (h m _ j (by omega) i k (Ul (Ak _) (by omega) c))
abbrev FH:=Option (Option Nat)×Nat×Nat
def IZ(lo a b:Nat):StateT Bz Sem FH :=
 forIn [a:b] ((none,a,0):FH) λ_ c=>do
  let some jE <- ltAt' (lo+c.2.1) (lo+c.2.1 - 1) | pure (Df (some none,c.2.1,c.2.2))
  if jE=true then
   if c.2.2 > 0 then do
    Xi (lo+c.2.1 - (c.2.2+1)) (lo+c.2.1)
    pure (Eu (none,c.2.1+1,0))
   else pure (Eu (none,c.2.1+1,0))
  else do
   let some more <- ltAt' (lo+c.2.1 - 1) (lo+c.2.1) | pure (Df (some none,c.2.1,c.2.2))
   if more=true then pure (Df (none,c.2.1,c.2.2)) else pure (Eu (none,c.2.1+1,c.2.2+1))
def BK(blt:Keyed->Keyed->Bool)(xs:Array Keyed)(lo n e:Nat):Prop:=e+1<=n/\∀i j,lo+n - (e+1)<=i->i<lo+n->lo+n - (e+1)<=j->j<lo+n->le blt (X xs i) (X xs j)
theorem K5(C:Cmp prog w A s f Ok blt){lo n:Nat}(h:1<=n):BK blt xs lo n 0:=⟨by omega,λi j a d c b=>by
 have e:i=j:=by omega
 subst e
 exact C.refl _⟩
theorem Zo(C:Cmp prog w A s f Ok blt){lo n:Nat}(g:1<=n)(h:A4 blt xs lo (lo+n))(hl:le blt (X xs (lo+n)) (X xs (lo+n - 1))):A4 blt xs lo (lo+(n+1)):=λi j d b k=>by
 by_cases a:j<lo+n
 ·exact h i j d b a
 ·have e:j=lo+n:=by omega
  subst e
  by_cases c:i=lo+n
  ·subst c; exact C.refl _
  ·exact C.trans hl (h i (lo+n - 1) d (by omega) (by omega))
theorem AW(C:Cmp prog w A s f Ok blt){st:Bz}(g:Good f a₀ d st)(h0:∀x∈a₀.toList,Ok x){lo a b:Nat}(hb:lo+b<=a₀.size)(N:1<=a)(B:a<=b)(h1:A4 blt (arrOf st) lo (lo+a))(h:∀n e k,Good f a₀ d k->a<=n->n<=b->A4 blt (arrOf k) lo (lo+n)->BK blt (arrOf k) lo n e->oX (arrOf st) (arrOf k) lo (lo+b)->Q (none,n,e) k):wpS (model prog w) A E s (IZ lo a b) Q st:=by
 unfold IZ
 refine Fe (I:=λx c k=>∃e,c=(none,x,e)/\Good f a₀ d k/\A4 blt (arrOf k) lo (lo+x)/\BK blt (arrOf k) lo x e/\oX (arrOf st) (arrOf k) lo (lo+b)) ?_ ?_
  ⟨0,rfl,g,h1,K5 C N,oX.refl _ _ _⟩
 ·(intro x c k v L z; obtain ⟨e,rfl,m,p,l,o⟩ := z)
  have M:(arrOf k).size=a₀.size:=m.size
  dsimp only
  refine Bc (Zj C m h0 (by omega) (by omega) ?_)
  dsimp only
  cases H:blt (X (arrOf k) (lo+x)) (X (arrOf k) (lo+x - 1)) with
  | true =>
   rw[if_pos rfl]
   have F:=Zo C (by omega) p (C.ofLt H)
   have one:∀K:Array Keyed,BK blt K lo (x+1) 0:=λK=>⟨by omega,λi j u r q y=>by
    have : i=j:=by omega
    subst this
    exact C.refl _⟩
   by_cases D:e > 0
   ·rw[if_pos D]
    refine Bc (Up ?_)
    refine Bl ⟨0,rfl,m.set (mirror_perm _ _ _ _),?_,one _,o.trans (Ul (by have:=l.1; omega) (by omega) (by omega))⟩
    exact bQ (by omega) (by omega) (by have:=l.1; omega) F λi j u r q y=>l.2 i j u r q y
   ·rw[if_neg D]
    exact Bl ⟨0,rfl,m,F,one _,o⟩
  | false =>
   rw[if_neg Bk]
   refine Bc (Zj C m h0 (by omega) (by omega) ?_)
   dsimp only
   cases J:blt (X (arrOf k) (lo+x - 1)) (X (arrOf k) (lo+x)) with
   | true =>
    rw[if_pos rfl]
    exact Bl (h x e k m v (by omega) p l o)
   | false =>
    rw[if_neg Bk]
    refine Bl ⟨e+1,rfl,m,Zo C (by omega) p J,⟨by have:=l.1; omega,λi j u r q y=>?_⟩,o⟩
    have O:le blt (X (arrOf k) (lo+x - 1)) (X (arrOf k) (lo+x)):=H
    have P:le blt (X (arrOf k) (lo+x)) (X (arrOf k) (lo+x - 1)):=J
    by_cases G:i=lo+x
    ·by_cases t:j=lo+x
     ·rw[G,t]; exact C.refl _
     ·rw[G]
      exact C.trans P (l.2 (lo+x - 1) j (by omega) (by omega) (by omega) (by omega))
    ·by_cases t:j=lo+x
     ·rw[t]
      exact C.trans (l.2 i (lo+x - 1) (by omega) (by omega) (by omega) (by omega)) O
     ·exact l.2 i j (by omega) (by omega) (by omega) (by omega)
 ·(intro c k z; obtain ⟨e,rfl,m,p,l,o⟩ := z)
  rw[show max a b=b by omega] at p l ⊢
  exact h b e k m B (Ak _) p l o
def CQ(lo n b:Nat):StateT Bz Sem (Option Nat):=do
 liftM (rule "list.sort.descending-run")
 let mut m:=n+1
 let mut e:=0
 for _ in [m:b] do
  let some jE <- ltAt' (lo+m) (lo+m - 1) | return none
  if jE then
   if e > 0 then Xi (lo+m - (e+1)) (lo+m)
   e:=0
  else
   let some more <- ltAt' (lo+m - 1) (lo+m) | return none
   if more then break
   e:=e+1
  m:=m+1
 if e > 0 then Xi (lo+m - (e+1)) (lo+m)
 E9 lo m b
theorem xX(C:Cmp prog w A s f Ok blt){st:Bz}(g:Good f a₀ d st)(h0:∀x∈a₀.toList,Ok x){lo n b:Nat}(hb:lo+b<=a₀.size)(q:n+1<=b)(h1:A4 blt (arrOf st) lo (lo+(n+1)))(h:∀m a,Good f a₀ d a->1<=m->m<=b->Vy blt (arrOf a) lo (lo+m)->oX (arrOf st) (arrOf a) lo (lo+b)->Q (some m) a):wpS (model prog w) A E s (CQ lo n b) Q st:=by
 unfold CQ
 refine Bc (Wz ?_)
 refine Bc (AW C g h0 hb (by omega) q h1 λk e v t L D B r F=>?_)
 dsimp only
 have K:(arrOf v).size=a₀.size:=t.size
 by_cases z:e > 0
 ·rw[if_pos z]
  refine Bc (Up ?_)
  refine wU C (t.set (mirror_perm _ _ _ _)) h0 hb (by omega) D (bQ (by omega) (by omega) (by have:=r.1; omega) B λi j I H G J=>r.2 i j I H G J) λm c u y o p l=>?_
  exact h m c u y o p ((F.trans (Ul (by have:=r.1; omega) (by omega) (by omega))).trans l)
 ·rw[if_neg z]
  exact wU C t h0 hb (by omega) D B λm c u y o p l=>h m c u y o p (F.trans l)
theorem E2(C:Cmp prog w A s f Ok blt){st:Bz}(g:Good f a₀ d st)(h0:∀x∈a₀.toList,Ok x){lo b:Nat}(hb:lo+b<=a₀.size)(M:1<=b)(h:∀m a,Good f a₀ d a->1<=m->m<=b->Vy blt (arrOf a) lo (lo+m)->oX (arrOf st) (arrOf a) lo (lo+b)->Q (some m) a):wpS (model prog w) A E s (jX lo b) Q st:=by
 unfold jX
 have L:(arrOf st).size=a₀.size:=g.size
 refine Bc (R8 C g h0 hb (Ak _) M (λi j l q k=>by
  have : i=j:=by omega
  subst this
  exact C.refl _) λn r B p u=>?_)
 dsimp only
 by_cases e:n=b
 ·rw[if_pos (by rw[e]; exact beq_self_eq_true _)]
  exact Bl (h n st g r B p (oX.refl _ _ _))
 rw[if_neg (λz=>e (Ee z))]
 have o:blt (X (arrOf st) (lo+n)) (X (arrOf st) (lo+n - 1))=true:=u.resolve_left e
 by_cases D:n > 1
 ·rw[if_pos D]
  refine Bc (Zj C g h0 (by omega) (by omega) ?_)
  dsimp only
  cases I:blt (X (arrOf st) lo) (X (arrOf st) (lo+n - 1)) with
  | true =>
   rw[if_pos rfl]
   exact Bl (h n st g r B p (oX.refl _ _ _))
  | false =>
   rw[if_neg Bk]
   refine Bc (Up ?_)
   -- all of it are alike
   have c:∀i j,lo<=i->i<lo+n->lo<=j->j<lo+n->le blt (X (arrOf st) i) (X (arrOf st) j):=λi j l q k J =>
    C.trans (p i (lo+n - 1) l (by omega) (by omega)) (C.trans I (p lo j (Ak _) k J))
   have t:A4 blt (arrOf st) lo (lo+(n+1)):=Zo C r (λi j l q k=>c j i (by omega) k l (by omega)) (C.ofLt o)
   exact xX C (g.set (mirror_perm _ _ _ _)) h0 hb (by omega) (bQ (by omega) (by omega) (Ak _) t c) λm v K N F H y=>h m v K N F H ((Ul (Ak _) (by omega) (by omega)).trans y)
 ·rw[if_neg D]
  have G:n=1:=by omega
  subst G
  have t:A4 blt (arrOf st) lo (lo+(1+1)):=Zo C (Ak _) (λi j l q k=>by
   have : i=j:=by omega
   subst this
   exact C.refl _) (C.ofLt o)
  exact xX C g h0 hb (by omega) t h
end
def Zk:Nat->StateT Bz Sem Bool:=sortPriv% PySem.Builtin.mergeAt
section
variable{prog:Bn}{w:World}{A:Ck}{s:Ah}{b:Ny}{Ok:Keyed->Prop}{blt:Keyed->Keyed->Bool}{E:Value->Ah->Prop}{a₀:Array Keyed}{a:Array (Nat×Nat×Nat)}
theorem qE{st:Bz}(h:Q () (setArr st (bubble (arrOf st) i (i - j)))):wpS (model prog w) A E s (moveDown' i j) Q st:=by
 rw[moveDown'_eq]
 exact Lm h
theorem o4(C:Cmp prog w A s b Ok blt){st:Bz}(g:Good b a₀ a st)(h0:∀x∈a₀.toList,Ok x){lo n ok:Nat}(hb:lo+n<=a₀.size)(h1:Vy blt (arrOf st) lo (lo+ok))(V:ok<=n)(h:∀f,Good b a₀ a f->Vy blt (arrOf f) lo (lo+n)->oX (arrOf st) (arrOf f) lo (lo+n)->Q true f):wpS (model prog w) A E s (cI lo n ok) Q st:=by
 unfold cI
 refine Bc (Iu (Fe
  (I:=λk c f=>c=(none,())/\Good b a₀ a f/\Vy blt (arrOf f) lo (lo+k)/\oX (arrOf st) (arrOf f) lo (lo+n))
  (Q:=λc f=>c=(none,())/\Good b a₀ a f/\Vy blt (arrOf f) lo (lo+n)/\oX (arrOf st) (arrOf f) lo (lo+n)) ?_ ?_ ⟨rfl,g,?_,oX.refl _ _ _⟩) ?_)
 ·(intro k c m T Y p; obtain ⟨rfl,t,q,H⟩ := p)
  have U:(arrOf m).size=a₀.size:=t.size
  dsimp only
  refine Bc (Iu (Fe
   (I:=λy c f=>f=m/\∃l r,c=(none,l,r)/\l<=r/\r<=k/\r - l+y<=k/\(∀i,i<l->le blt (X (arrOf m) (lo+i)) (X (arrOf m) (lo+k)))/\(∀i,r<=i->i<k->blt (X (arrOf m) (lo+k)) (X (arrOf m) (lo+i))=true))
   (Q:=λc f=>f=m/\∃l,c=(none,l,l)/\l<=k/\(∀i,i<l->le blt (X (arrOf m) (lo+i)) (X (arrOf m) (lo+k)))/\(∀i,l<=i->i<k->blt (X (arrOf m) (lo+k)) (X (arrOf m) (lo+i))=true)) ?_ ?_
   ⟨rfl,0,k,rfl,by omega,by omega,by omega,λi P=>by omega,λi h1 Z=>by omega⟩) ?_)
  ·(intro y c o _ hy p; obtain ⟨rfl,l,r,rfl,W,G,N,v,u⟩ := p)
   dsimp only
   by_cases D:l ≥ r
   ·rw[if_pos D]
    have e:l=r:=by omega
    subst e
    exact Bl ⟨rfl,l,rfl,G,v,u⟩
   ·rw[if_neg D]
    refine Bc (Zj C t h0 (by omega) (by omega) ?_)
    dsimp only
    cases M:blt (X (arrOf o) (lo+k)) (X (arrOf o) (lo+(l+r) / 2)) with
    | true =>
     rw[if_pos rfl]
     exact Bl ⟨rfl,l,(l+r) / 2,rfl,by omega,by omega,by omega,v,λi B z=>C.ltLe M (q _ _ (by omega) (by omega) (by omega))⟩
    | false =>
     rw[if_neg Bk]
     exact Bl ⟨rfl,(l+r) / 2+1,r,rfl,by omega,G,by omega,λi P=>C.trans (q _ _ (by omega) (by omega) (by omega)) M,u⟩
  ·(intro c o p; obtain ⟨rfl,l,r,rfl,W,G,N,v,u⟩ := p)
   have : max 0 k=k:=by omega
   rw[this] at N
   have e:l=r:=by omega
   subst e
   exact ⟨rfl,l,rfl,G,v,u⟩
  ·(intro c o p; obtain ⟨rfl,l,rfl,G,v,u⟩ := p)
   dsimp only
   refine Bc (qE ?_)
   have K:=λi=>F9 (xs:=arrOf o) (src:=lo+k) (d:=lo+k - (lo+l)) (by omega) (by omega) i
   have O:lo+k - (lo+k - (lo+l))=lo+l:=by omega
   refine Bl ⟨rfl,t.set (bubble_perm _ _ _),λi j B z L=>?_,H.trans λi P=>?_⟩
   ·show le blt (X (bubble (arrOf o) (lo+k) (lo+k - (lo+l))) i) (X (bubble (arrOf o) (lo+k) (lo+k - (lo+l))) j)
    rw[K,K,O]
    by_cases R:i=lo+l
    ·rw[if_pos R]
     by_cases F:j=lo+l
     ·rw[if_pos F]; exact C.refl _
     ·rw[if_neg F]
      by_cases J:lo+l<j/\j<=lo+k
      ·rw[if_pos J]
       have:=u (j - 1 - lo) (by omega) (by omega)
       rw[show lo+(j - 1 - lo)=j - 1 by omega] at this
       exact C.ofLt this
      ·exfalso; omega
    ·rw[if_neg R]
     by_cases F:j=lo+l
     ·rw[if_pos F,if_neg (by omega)]
      have:=v (i - lo) (by omega)
      rw[show lo+(i - lo)=i by omega] at this
      exact this
     ·rw[if_neg F]
      by_cases J:lo+l<i/\i<=lo+k
      ·rw[if_pos J,if_pos (by omega)]
       exact q _ _ (by omega) (by omega) (by omega)
      ·rw[if_neg J]
       by_cases S:lo+l<j/\j<=lo+k
       ·rw[if_pos S]
        exact q _ _ (by omega) (by omega) (by omega)
       ·rw[if_neg S]
        exact q _ _ (by omega) (by omega) (by omega)
   ·show X (bubble (arrOf o) (lo+k) (lo+k - (lo+l))) i=X (arrOf o) i
    rw[K,O,if_neg (by omega),if_neg (by omega)]
 ·(intro c m p; obtain ⟨rfl,t,q,H⟩ := p)
  refine ⟨rfl,t,λi j B z L=>q i j B z (by omega),H⟩
 ·intro i j B z L
  by_cases e:i=j
  ·subst e; exact C.refl _
  ·exact h1 i j B z (by omega)
 ·(intro c m p; obtain ⟨rfl,t,q,H⟩ := p)
  exact Bl (h m t q H)
end
abbrev Qn(xs:Array Keyed)(b:Nat)(l:List (Keyed×Nat)):Array Keyed:=l.foldl (λa x=>match x with | (p,j)=>a.setIfInBounds (b+j) p) xs
theorem gB(b:Nat):∀(l:List Keyed) (o:Nat) (xs:Array Keyed),b+o+l.length<=xs.size->(Qn xs b (l.zipIdx o)).size=xs.size/\∀i:Nat,(Qn xs b (l.zipIdx o))[i]? = if b+o<=i/\i<b+o+l.length then l[i - (b+o)]? else xs[i]?
 | [],o,xs,_=>⟨rfl,λi=>by rw[if_neg (by rw[Jl]; omega)]; rfl⟩
 | x::l,o,xs,h=>by
  rw[Bh] at h
  have c:=gB b l (o+1) (xs.setIfInBounds (b+o) x) (by rw[Tu]; omega)
  have e:Qn xs b ((x::l).zipIdx o)=Qn (xs.setIfInBounds (b+o) x) b (l.zipIdx (o+1)):=by
   rw[Pf]
   rfl
  rw[e]
  refine ⟨c.1.trans (Tu),λi=>?_⟩
  rw[c.2 i,Bh]
  by_cases a:b+(o+1)<=i/\i<b+(o+1)+l.length
  ·rw[if_pos a,if_pos (by omega)]
   rw[show i - (b+o)=(i - (b+(o+1)))+1 by omega,List.getElem?_cons_succ]
  ·rw[if_neg a]
   by_cases d:i=b+o
   ·subst d
    rw[if_pos (by omega),Array.getElem?_setIfInBounds_self_of_lt (by omega),Nat.sub_self]
    rfl
   ·rw[if_neg (by omega),Array.getElem?_setIfInBounds_ne (by omega)]
theorem tL{xs m:Array Keyed}(hb:b+n<=xs.size)(g:m.size=n)(j:m.toList.Perm ((xs.toList.drop b).take n)):(Qn xs b m.toList.zipIdx).Perm xs:=by
 have f:=gB b m.toList 0 xs (by rw[An]; omega)
 have e:(Qn xs b m.toList.zipIdx).toList=xs.toList.take b++(m.toList++xs.toList.drop (b+n)):=by
  apply Ol
  intro i
  have a:=f.2 i
  rw[An,g] at a
  have h:(Qn xs b m.toList.zipIdx).toList[i]? = (Qn xs b m.toList.zipIdx)[i]?:=by simp
  rw[h,a]
  have lt:(xs.toList.take b).length=b:=by rw[Dw,An]; omega
  by_cases d:i<b
  ·rw[if_neg (by omega),Mk (by omega),Jx d]
   simp
  ·rw[Jb (by omega),lt]
   by_cases k:i<b+n
   ·rw[if_pos (by omega),Mk (by rw[An]; omega)]
    congr 1
   ·rw[if_neg (by omega),Jb (by rw[An]; omega),cH,An]
    rw[show b+n+(i - b - m.size)=i by omega]
    simp
 refine Array.perm_iff_toList_perm.mpr ?_
 rw[e]
 have c:xs.toList=xs.toList.take b++((xs.toList.drop b).take n++xs.toList.drop (b+n)):=by
  conv=>lhs; rw[<- Je b xs.toList]
  congr 1
  conv=>lhs; rw[<- Je n (xs.toList.drop b)]
  rw[List.drop_drop]
 conv=>rhs; rw[c]
 exact Kq _ (List.Perm.append_right _ j)
theorem bE(h:a+n<=xs.size)(b:i<n):(xs.extract a (a+n))[i]? = some (X xs (a+i)):=by
 rw[Array.getElem?_extract,if_pos (by omega)]
 exact dH (by omega)
theorem Vp{xs:Array Keyed}(h:a+n<=xs.size):(xs.extract a (a+n)).size=n:=by
 rw[Array.size_extract]
 omega
theorem Zv(h:a+n<=xs.size)(f:x∈(xs.extract a (a+n)).toList):∃i,i<n/\x=X xs (a+i):=by
 obtain ⟨i,b,e⟩:=Ht.mp f
 rw[An,Vp h] at b
 refine ⟨i,b,?_⟩
 have d:=bE h b
 have c:(xs.extract a (a+n)).toList[i]? = some x:=by rw[<- e,<- Co]
 rw[Gd,d] at c
 exact (Cj c).symm
section
variable{prog:Bn}{w:World}{A:Ck}{s:Ah}{kd:Ny}{Ok:Keyed->Prop}{blt:Keyed->Keyed->Bool}{E:Value->Ah->Prop}{a₀:Array Keyed}{f:Array (Nat×Nat×Nat)}
theorem gQ(C:Cmp prog w A s kd Ok blt)(h:a+n<=xs.size)(g:Vy blt xs c d)(h1:c<=a)(p:a+n<=d):(xs.extract a (a+n)).toList.Pairwise (le blt):=by
 rw[Mj]
 intro i j b e l
 rw[An,Vp h] at b e
 have o:(xs.extract a (a+n)).toList[i]? = some (X xs (a+i)):=by rw[Gd]; exact bE h b
 have f:(xs.extract a (a+n)).toList[j]? = some (X xs (a+j)):=by rw[Gd]; exact bE h e
 obtain ⟨_,m⟩:=Bb.mp o
 obtain ⟨_,k⟩:=Bb.mp f
 rw[m,k]
 exact g _ _ (by omega) (by omega) (by omega)
theorem sT(C:Cmp prog w A s kd Ok blt)(m:a<b)(h1:Vy blt xs a b)(f:Vy blt xs b c)(h:le blt (X xs (b - 1)) (X xs b)):Vy blt xs a c:=λi j g e d=>by
 by_cases l:j<b
 ·exact h1 i j g e l
 ·by_cases k:b<=i
  ·exact f i j k e d
  ·exact C.trans (h1 i (b - 1) g (by omega) (by omega)) (C.trans h (f b j (Ak _) (by omega) d))
structure Good0(kd:Ny)(a₀:Array Keyed)(st:Bz):Prop where
 kind:kindOf st=kd
 fail:Nx st=none
 perm:(arrOf st).Perm a₀
theorem Good0.size{st:Bz}(g:Good0 kd a₀ st):(arrOf st).size=a₀.size:=g.perm.size_eq
theorem Good0.okX{st:Bz}(g:Good0 kd a₀ st)(h0:∀x∈a₀.toList,Ok x)(a:i<a₀.size):Ok (X (arrOf st) i):=by
 have e:=dH (xs:=arrOf st) (i:=i) (by rw[g.size]; exact a)
 exact h0 _ ((Sg.mp g.perm).mem_iff.mp (Le e))
theorem K7{st:Bz}(g:Good0 kd a₀ st)(h0:∀x∈a₀.toList,Ok x)(h:b+n<=a₀.size):Row Ok (arrOf st) b n (λi=>X (arrOf st) (b+i)) :=
 ⟨λi a=>dH (by rw[g.size]; omega),λi a=>g.okX h0 (by omega)⟩
theorem HZ{st a:Bz}{Q:Unit->Bz->Prop}(h:Q () a):wpS (model prog w) A E s (set a:StateT Bz Sem Unit) Q st:=by
 unfold wpS
 rw[StateT.run_set]
 exact Ae ⟨rfl,h⟩
theorem tM(C:Cmp prog w A s kd Ok blt){st:Bz}(g:Good0 kd a₀ st)(h0:∀x∈a₀.toList,Ok x){i f p U j q pb:Nat}(hi:(Bi st)[i]? = some (f,p,U))(hj:(Bi st)[i+1]? = some (j,q,pb))(e1:j=f+p)(n1:1<=p)(n2:1<=q)(hz:j+q<=a₀.size)(I:Vy blt (arrOf st) f j)(G:Vy blt (arrOf st) j (j+q))(h:∀v,Good0 kd a₀ v->Bi v=((Bi st).setIfInBounds i (f,p+q,U)).eraseIdxIfInBounds (i+1)->Vy blt (arrOf v) f (j+q)->oX (arrOf st) (arrOf v) f (j+q)->Q true v):wpS (model prog w) A E s (Zk i) Q st:=by
 have V:(arrOf st).size=a₀.size:=g.size
 unfold Zk
 refine Bc (Ph ?_)
 rw[hi,hj]
 dsimp only
 refine Bc (HZ ?_)
 refine Bc (Gq (dH (xs:=arrOf st) (i:=j) (by rw[V]; omega)) ?_)
 show wpS (model prog w) A E s _ _ (SortSt.mk' (kindOf st) (arrOf st) (((Bi st).setIfInBounds i (f,p+q,U)).eraseIdxIfInBounds (i+1)) (gallopOf st) (Nx st))
 generalize t:SortSt.mk' (kindOf st) (arrOf st) (((Bi st).setIfInBounds i (f,p+q,U)).eraseIdxIfInBounds (i+1)) (gallopOf st) (Nx st)=st1
 have L:kindOf st1=kd:=by rw[<- t]; exact g.kind
 have D:arrOf st1=arrOf st:=by rw[<- t]
 have N:Bi st1=((Bi st).setIfInBounds i (f,p+q,U)).eraseIdxIfInBounds (i+1):=by rw[<- t]
 have R:Nx st1=none:=by rw[<- t]; exact g.fail
 have g1:Good0 kd a₀ st1:=⟨L,R,by rw[D]; exact g.perm⟩
 have same:Good0 kd a₀ st1->Vy blt (arrOf st) f (j+q)->Q true st1:=λgg as=>h st1 gg N (by rw[D]; exact as) (by rw[D]; exact oX.refl _ _ _)
 refine Bc (Qb C (hint:=0) (n:=p) (K7 g h0 (b:=f) (n:=p) (by omega)) (g.okX h0 (i:=j) (by omega)) L (by omega) (λa c h7 hc q1=>?_) λk kn t1 t2=>?_)
 ·simp only[Ia,Bt,if_false,Lq] at q1 ⊢
  exact C.trans (I _ _ (by omega) (by omega) (by omega)) q1
 dsimp only
 have f1:∀m,m<k->le blt (X (arrOf st) (f+m)) (X (arrOf st) j):=λm u=>by
  have:=t1 m u
  have z:blt (X (arrOf st) j) (X (arrOf st) (f+m))=false:=by simpa only [Ia,Bt,if_false,Lq] using this
  exact z
 by_cases P:p - k=0
 ·rw[if_pos (by rw[P]; rfl)]
  refine Bl (same g1 (sT C (by omega) I G ?_))
  have:=f1 (p - 1) (by omega)
  rw[show f+(p - 1)=j - 1 by omega] at this
  exact this
 rw[if_neg (λz=>P (Ee z))]
 have f2:blt (X (arrOf st) j) (X (arrOf st) (f+k))=true:=by
  have:=t2 k (Ak _) (by omega)
  simpa only [Ia,Bt,if_false,Sq] using this
 have el:f+k+(p - k) - 1=j - 1:=by omega
 rw[el]
 refine Bc (Gq (dH (xs:=arrOf st) (i:=j - 1) (by rw[V]; omega)) ?_)
 refine Bc (Qb C (hint:=q - 1) (n:=q) (K7 g h0 (b:=j) (n:=q) (by omega)) (g.okX h0 (i:=j - 1) (by omega)) L (by omega) (λa c h7 hc q1=>?_) λl ln u1 u2=>?_)
 ·simp only[Ia,if_true] at q1 ⊢
  exact C.leLt (G _ _ (by omega) (by omega) (by omega)) q1
 dsimp only
 have f3:∀m,m<l->blt (X (arrOf st) (j+m)) (X (arrOf st) (j - 1))=true:=λm u=>by
  have:=u1 m u
  simpa only [Ia,if_true] using this
 have f4:∀m,l<=m->m<q->le blt (X (arrOf st) (j - 1)) (X (arrOf st) (j+m)):=λm h1 h2=>by
  have:=u2 m h1 h2
  have z:blt (X (arrOf st) (j+m)) (X (arrOf st) (j - 1))=false:=by simpa only [Ia,if_true] using this
  exact z
 by_cases c2:l=0
 ·rw[if_pos (by rw[c2]; rfl)]
  subst c2
  exact Bl (same g1 (sT C (by omega) I G (f4 0 (Ak _) (by omega))))
 rw[if_neg (λz=>c2 (Ee z))]
 have ep:(arrOf st).extract (f+k) j=(arrOf st).extract (f+k) (f+k+(p - k)):=by rw[show f+k+(p - k)=j by omega]
 rw[ep]
 have H:f+k+(p - k)<=(arrOf st).size:=by omega
 have M:j+l<=(arrOf st).size:=by omega
 have T:Two Ok blt ((arrOf st).extract (f+k) (f+k+(p - k))) ((arrOf st).extract j (j+l)) (X (arrOf st) (f+k)) (X (arrOf st) j) (X (arrOf st) (j - 1)):=by
  refine ⟨λx O=>?_,λx O=>?_,gQ C H I (by omega) (by omega),gQ C M G (by omega) (by omega),?_,?_,?_,f2,λy hy=>?_⟩
  ·obtain ⟨m,u,rfl⟩:=Zv H O
   exact g.okX h0 (by omega)
  ·obtain ⟨m,u,rfl⟩:=Zv M O
   exact g.okX h0 (by omega)
  ·exact bE H (by omega)
  ·exact bE M (by omega)
  ·rw[Vp H,bE H (by omega),show f+k+(p - k - 1)=j - 1 by omega]
  ·obtain ⟨m,u,rfl⟩:=Zv M hy
   exact f3 m u
 -- uB the merge
 have Z:∀(r:Array Keyed) (o:Bz),Kept st1 o->uH blt ((arrOf st).extract (f+k) (f+k+(p - k))) ((arrOf st).extract j (j+l)) r ->
   Q (Nx (setArr o (Qn (arrOf o) (f+k) r.toList.zipIdx))).isNone (setArr o (Qn (arrOf o) (f+k) r.toList.zipIdx)):=by
  intro r o kp F
  have J:arrOf o=arrOf st:=kp.arr.trans D
  have h6:Nx o=none:=kp.fail.trans R
  have S:r.size=p - k+l:=by
   have:=F.1.length_eq
   rw[Bm,An,An,An,Vp H,Vp M] at this
   exact this
  have h5:((arrOf st).toList.drop (f+k)).take (p - k+l)=((arrOf st).extract (f+k) (f+k+(p - k))).toList++((arrOf st).extract j (j+l)).toList:=by
   rw[Zs,Zs,List.take_add,List.drop_drop,show f+k+(p - k)=j by omega]
  have h3:=gB (f+k) r.toList 0 (arrOf st) (by rw[An]; omega)
  have K:∀m,X (Qn (arrOf st) (f+k) r.toList.zipIdx) m=if f+k<=m/\m<j+l then X r (m - (f+k)) else X (arrOf st) m:=λm=>by
   have:=h3.2 m
   rw[An,S,Nat.add_zero] at this
   by_cases u:f+k<=m/\m<j+l
   ·rw[if_pos u]
    rw[if_pos (by omega)] at this
    refine Um (this.trans ?_)
    simp
   ·rw[if_neg u]
    rw[if_neg (by omega)] at this
    exact Um this
  -- each thing of the merged is one of the two runs'
  have B:∀m,m<p - k+l->(∃c,f+k<=c/\c<j/\X r m=X (arrOf st) c)\/(∃c,j<=c/\c<j+l/\X r m=X (arrOf st) c):=λm u=>by
   have O:=Le (dH (xs:=r) (i:=m) (by omega))
   rcases Aw.mp (F.1.mem_iff.mp O) with z | z
   ·obtain ⟨c,hc,e⟩:=Zv H z
    exact .inl ⟨f+k+c,by omega,by omega,e⟩
   ·obtain ⟨c,hc,e⟩:=Zv M z
    exact .inr ⟨j+c,by omega,by omega,e⟩
  have rs:∀m n,m<=n->n<p - k+l->le blt (X r m) (X r n):=λm n h4 hn=>Mq C F.2 h4 (Ez (dH (by omega))) (Ez (dH (by omega)))
  have e3:Nx (setArr o (Qn (arrOf o) (f+k) r.toList.zipIdx))=none:=h6
  rw[e3]
  refine h _ ⟨kp.kind.trans L,e3,?_⟩ (kp.pend.trans N) ?_ ?_
  ·show (Qn (arrOf o) (f+k) r.toList.zipIdx).Perm a₀
   rw[J]
   refine (tL (by omega) S ?_).trans g.perm
   rw[h5]
   exact F.1
  ·show Vy blt (Qn (arrOf o) (f+k) r.toList.zipIdx) f (j+q)
   rw[J]
   intro c d P cd d1
   rw[K,K]
   by_cases zc:f+k<=c/\c<j+l
   ·rw[if_pos zc]
    by_cases W:f+k<=d/\d<j+l
    ·rw[if_pos W]
     exact rs _ _ (by omega) (by omega)
    ·rw[if_neg W]
     rcases B (c - (f+k)) (by omega) with ⟨b,Y,b2,e⟩ | ⟨b,Y,b2,e⟩
     ·rw[e]
      refine C.trans (I b (j - 1) (by omega) (by omega) (by omega)) ?_
      have:=f4 (d - j) (by omega) (by omega)
      rw[show j+(d - j)=d by omega] at this
      exact this
     ·rw[e]
      exact G b d Y (by omega) (by omega)
   ·rw[if_neg zc]
    by_cases W:f+k<=d/\d<j+l
    ·rw[if_pos W]
     rcases B (d - (f+k)) (by omega) with ⟨b,Y,b2,e⟩ | ⟨b,Y,b2,e⟩
     ·rw[e]
      exact I c b P (by omega) b2
     ·rw[e]
      have:=f1 (c - f) (by omega)
      rw[show f+(c - f)=c by omega] at this
      exact C.trans this (G j b (Ak _) Y (by omega))
    ·rw[if_neg W]
     by_cases y1:d<j
     ·exact I c d P cd y1
     ·by_cases y2:j<=c
      ·exact G c d y2 cd d1
      ·have:=f1 (c - f) (by omega)
       rw[show f+(c - f)=c by omega] at this
       exact C.trans this (G j d (Ak _) (by omega) d1)
  ·show oX (arrOf st) (Qn (arrOf o) (f+k) r.toList.zipIdx) f (j+q)
   rw[J]
   intro m u
   rw[K,if_neg (by omega)]
 by_cases c3:p - k<=l
 ·rw[if_pos c3]
  refine Bc (uX C T L λr o kp F=>?_)
  exact Bc (Lm (Bc (Ph (Bl (Z r o kp F)))))
 ·rw[if_neg c3]
  refine Bc (vJ C T L λr o kp F=>?_)
  exact Bc (Lm (Bc (Ph (Bl (Z r o kp F)))))
end
def kM:StateT Bz Sem Unit:=sortPriv% PySem.Builtin.sortRuns
def Runs(blt:Keyed->Keyed->Bool)(xs:Array Keyed):List (Nat×Nat×Nat)->Nat->Nat->Prop
 | [],a,b=>a=b
 | (s,n,_)::r,a,b=>s=a/\1<=n/\Vy blt xs a (a+n)/\Runs blt xs r (a+n) b
variable{blt:Keyed->Keyed->Bool}
theorem Runs.len:∀{l:List (Nat×Nat×Nat)} {a b:Nat},Runs blt xs l a b->a+l.length<=b
 | [],a,b,h=>by
  have e:a=b:=h
  rw[Jl]
  omega
 | (s,n,p)::r,a,b,h=>by
  have:=Runs.len h.2.2.2
  have:=h.2.1
  rw[Bh]
  omega
theorem Vy.out(h:Vy blt xs a b)(o:oX xs ys c d)(e:b<=c\/d<=a):Vy blt ys a b:=λi j f k g=>by
 rw[o i (by omega),o j (by omega)]
 exact h i j f k g
theorem Runs.out(o:oX xs ys c d):∀{l:List (Nat×Nat×Nat)} {a b:Nat},(b<=c\/d<=a)->Runs blt xs l a b->Runs blt ys l a b
 | [],_,_,_,h=>h
 | (s,n,p)::r,a,b,e,h=>by
  have f:=Runs.len h.2.2.2
  exact ⟨h.1,h.2.1,h.2.2.1.out o (by omega),Runs.out o (by omega) h.2.2.2⟩
theorem Runs.push(c:1<=m):∀{l:List (Nat×Nat×Nat)} {a b:Nat},Runs blt xs l a b->Vy blt xs b (b+m)->Runs blt xs (l++[(b,m,q)]) a (b+m)
 | [],a,b,h,hs=>by
  have e:a=b:=h
  subst e
  exact ⟨rfl,c,hs,rfl⟩
 | (s,n,p)::r,a,b,h,hs=>⟨h.1,h.2.1,h.2.2.1,Runs.push c h.2.2.2 hs⟩
theorem Runs.power:∀{l:List (Nat×Nat×Nat)} {a b:Nat} (k:Nat),Runs blt xs l a b->Runs blt xs (l.modify k λx=>(x.1,x.2.1,c)) a b
 | [],_,_,k,h=>by simpa using h
 | (s,n,p)::r,a,b,0,h=>by
  rw[List.modify_zero_cons]
  exact h
 | (s,n,p)::r,a,b,k+1,h=>by
  rw[List.modify_succ_cons]
  exact ⟨h.1,h.2.1,h.2.2.1,Runs.power k h.2.2.2⟩
theorem Runs.two:∀{l:List (Nat×Nat×Nat)} {a b i d g k c f j:Nat},Runs blt xs l a b->l[i]? = some (d,g,k)->l[i+1]? = some (c,f,j)->c=d+g/\1<=g/\1<=f/\a<=d/\c+f<=b/\Vy blt xs d c/\Vy blt xs c (c+f)
 | [],_,_,_,_,_,_,_,_,_,_,h,_=>by simp at h
 | (s,n,p)::r,a,b,0,d,g,k,c,f,j,h,h1,h2=>by
  obtain ⟨e,E,D,B⟩:=h
  have q:s=d/\n=g/\p=k:=by simpa using h1
  obtain ⟨x,t,v⟩:=q
  subst x t v
  subst e
  cases r with
  | nil=>simp at h2
  | cons y G =>
   obtain ⟨C,F,z⟩:=y
   have A:C=c/\F=f/\z=j:=by simpa using h2
   obtain ⟨x,t,v⟩:=A
   subst x t v
   obtain ⟨o,w,m,u⟩:=B
   have:=Runs.len u
   exact ⟨o,E,w,Ak _,by omega,by rw[o]; exact D,by rw[o]; exact m⟩
 | (s,n,p)::r,a,b,i+1,d,g,k,c,f,j,h,h1,h2=>by
  have:=Runs.two h.2.2.2 (by simpa using h1) (by simpa using h2)
  exact ⟨this.1,this.2.1,this.2.2.1,by have:=this.2.2.2.1; have:=h.2.1; omega,this.2.2.2.2.1,this.2.2.2.2.2⟩
theorem Runs.merge:∀{l:List (Nat×Nat×Nat)} {a b i c j g f d m:Nat},Runs blt xs l a b->l[i]? = some (c,j,g)->l[i+1]? = some (f,d,m)->oX xs ys c (f+d)->Vy blt ys c (f+d)->Runs blt ys ((l.set i (c,j+d,g)).eraseIdx (i+1)) a b
 | [],_,_,_,_,_,_,_,_,_,_,h,_,_,_=>by simp at h
 | (s,n,p)::r,a,b,0,c,j,g,f,d,m,h,h1,h2,o,as=>by
  have z:=Runs.two h h1 h2
  obtain ⟨e,I,H,D⟩:=h
  have q:s=c/\n=j/\p=g:=by simpa using h1
  obtain ⟨w,t,v⟩:=q
  subst w t v
  subst e
  cases r with
  | nil=>simp at h2
  | cons y G =>
   obtain ⟨x,k,B⟩:=y
   have C:x=f/\k=d/\B=m:=by simpa using h2
   obtain ⟨w,t,v⟩:=C
   subst w t v
   obtain ⟨F,E,A,u⟩:=D
   rw[List.set_cons_zero,Ve,List.eraseIdx_cons_zero]
   refine ⟨rfl,by omega,?_,?_⟩
   ·rw[show s+(n+k)=x+k by omega]
    exact as
   ·rw[show s+(n+k)=s+n+k by omega]
    exact Runs.out o (.inr (by omega)) u
 | (s,n,p)::r,a,b,i+1,c,j,g,f,d,m,h,h1,h2,o,as=>by
  have z:=Runs.two (i:=i) h.2.2.2 (by simpa using h1) (by simpa using h2)
  rw[List.set_cons_succ,Ve]
  exact ⟨h.1,h.2.1,h.2.2.1.out o (.inl z.2.2.2.1),Runs.merge h.2.2.2 (by simpa using h1) (by simpa using h2) o as⟩
theorem kS(P:Array (Nat×Nat×Nat))(i:Nat)(v:Nat×Nat×Nat):((P.setIfInBounds i v).eraseIdxIfInBounds (i+1)).toList=(P.toList.set i v).eraseIdx (i+1):=by
 rw[Array.toList_eraseIdxIfInBounds,lJ]
section
variable{prog:Bn}{w:World}{A:Ck}{s:Ah}{a:Ny}{Ok:Keyed->Prop}{E:Value->Ah->Prop}{a₀:Array Keyed}
theorem Ru{a:Type}[Decidable c]{p q:StateT Bz Sem a}{Q:a->Bz->Prop}{st:Bz}(h1:c->wpS (model prog w) A E s p Q st)(b:¬ c->wpS (model prog w) A E s q Q st):wpS (model prog w) A E s (if c then p else q) Q st:=by
 by_cases h:c
 ·rw[if_pos h]; exact h1 h
 ·rw[if_neg h]; exact b h
theorem oF(C:Cmp prog w A s a Ok blt){st:Bz}(g:Good0 a a₀ st)(h0:∀x∈a₀.toList,Ok x){lo i:Nat}(o:lo<=a₀.size)(j:Runs blt (arrOf st) (Bi st).toList 0 lo)(H:i+1<(Bi st).size)(h:∀b,Good0 a a₀ b->Runs blt (arrOf b) (Bi b).toList 0 lo->(Bi b).size+1=(Bi st).size->(∀c d,lo<=c->Vy blt (arrOf st) c d->Vy blt (arrOf b) c d)->Q true b):wpS (model prog w) A E s (Zk i) Q st:=by
 obtain ⟨⟨q,F,y⟩,l⟩ : ∃x,(Bi st)[i]? = some x:=⟨(Bi st)[i],by simp⟩
 obtain ⟨⟨I,u,r⟩,e⟩ : ∃x,(Bi st)[i+1]? = some x:=⟨(Bi st)[i+1],by simp⟩
 have f:(Bi st).toList[i]? = some (q,F,y):=by simpa using l
 have m:(Bi st).toList[i+1]? = some (I,u,r):=by simpa using e
 obtain ⟨B,p,J,M,K,v,z⟩:=j.two f m
 refine tM C g h0 l e B p J (by omega) v z λb D k t n=>?_
 refine h b D ?_ ?_ λc d L G=>G.out n (.inr (by omega))
 ·rw[k,kS]
  exact j.merge f m n t
 ·have : (Bi b).toList.length+1=(Bi st).toList.length:=by
   rw[k,kS,List.length_eraseIdx,Xm,An,if_pos H]
   omega
  simpa using this
theorem BH{st:Bz}(g:Good0 a a₀ st):Good a a₀ (Bi st) st:=⟨g.kind,g.fail,g.perm,rfl⟩
theorem qT{st:Bz}(g:Good a a₀ p st):Good0 a a₀ st:=⟨g.kind,g.fail,g.perm⟩
theorem yT(C:Cmp prog w A s a Ok blt){st:Bz}(g:Good0 a a₀ st)(h0:∀x∈a₀.toList,Ok x)(hp:Bi st=#[])(hz:1<=a₀.size)(h:∀d,Good0 a a₀ d->Vy blt (arrOf d) 0 a₀.size->Q () d):wpS (model prog w) A E s kM Q st:=by
 unfold kM
 refine Bc (Ph ?_)
 have h5:(arrOf st).size=a₀.size:=g.size
 dsimp only
 rw[h5]
 generalize (sortPriv% PySem.Builtin.minRun) a₀.size a₀.size 0=mr
 refine Bc (Iu (Fe
  (I:=λx c d=>∃lo,c=(none,lo)/\Good0 a a₀ d/\Runs blt (arrOf d) (Bi d).toList 0 lo/\lo<=a₀.size/\x<=lo)
  (Q:=λc d=>c=(none,a₀.size)/\Good0 a a₀ d/\Runs blt (arrOf d) (Bi d).toList 0 a₀.size) ?_ ?_ ⟨0,rfl,g,by rw[hp]; exact rfl,by omega,by omega⟩) ?_)
 ·(intro x c W _ hx q; obtain ⟨lo,rfl,M,G,K,U⟩ := q)
  dsimp only
  by_cases S:lo ≥ a₀.size
  ·rw[if_pos S]
   have e:lo=a₀.size:=by omega
   subst e
   exact Bl ⟨rfl,M,G⟩
  rw[if_neg S]
  refine Bc (E2 C (BH M) h0 (lo:=lo) (b:=a₀.size - lo) (by omega) (by omega) λm j v m1 m2 L ou=>?_)
  dsimp only
  have k:Runs blt (arrOf j) (Bi j).toList 0 lo:=by
   rw[v.pd]
   exact G.out ou (.inl (Ak _))
  have D:=qT v
  clear G M
  refine Ru (λH=>?_) (λH=>?_)
  ·refine Bc (Wz ?_)
   refine Bc (o4 C v h0 (lo:=lo) (n:=min (a₀.size - lo) mr) (ok:=m) (by omega) L (by omega) λUa P O V=>?_)
   refine Ru (λz=>absurd z (by decide)) (λ_=>?_)
   have X:1<=min (a₀.size - lo) mr:=by omega
   have R:lo+min (a₀.size - lo) mr<=a₀.size:=by omega
   have u:Runs blt (arrOf Ua) (Bi Ua).toList 0 lo:=by
    rw[P.pd,<- v.pd]
    exact k.out V (.inl (Ak _))
   have F:=qT P
   generalize min (a₀.size - lo) mr=n at O X R
   clear v D k L ou V P m1 m2 H
   refine Bc (Ph ?_)
   cases hb:(Bi Ua).back? with
   | none =>
    dsimp only
    refine Bc (Lm ?_)
    refine Bl ⟨lo+n,rfl,⟨F.kind,F.fail,F.perm⟩,?_,R,by omega⟩
    show Runs blt (arrOf Ua) ((Bi Ua).push (lo,n,0)).toList 0 (lo+n)
    rw[Jo]
    exact u.push X O
   | some y =>
    obtain ⟨s1,l1,p1⟩:=y
    dsimp only
    refine Bc (Iu (Fe
     (I:=λ_ c d=>c=(none,())/\Good0 a a₀ d/\Runs blt (arrOf d) (Bi d).toList 0 lo/\Vy blt (arrOf d) lo (lo+n))
     (Q:=λc d=>c=(none,())/\Good0 a a₀ d/\Runs blt (arrOf d) (Bi d).toList 0 lo/\Vy blt (arrOf d) lo (lo+n)) ?_ (λ_ _ z=>z) ⟨rfl,F,u,O⟩) ?_)
    ·(intro z c f _ _ q; obtain ⟨rfl,t,o,p⟩ := q)
     refine Bc (Ph ?_)
     by_cases B:(Bi f).size > 1
     ·rw[if_pos B]
      obtain ⟨⟨a1,b1,J⟩,ho⟩ : ∃x,(Bi f)[(Bi f).size - 2]? = some x:=⟨(Bi f)[(Bi f).size - 2],by simp⟩
      rw[ho]
      dsimp only
      refine Ru (λ_=>Bl ⟨rfl,t,o,p⟩) (λ_=>?_)
      refine Bc (oF C t h0 K o (i:=(Bi f).size - 2) (show (Bi f).size - 2+1<(Bi f).size by omega) λh2 Z N _ keep=>?_)
      refine Ru (λz=>absurd z (by decide)) (λ_=>?_)
      exact Bl ⟨rfl,Z,N,keep _ _ (Ak _) p⟩
     ·rw[if_neg B]
      exact Bl ⟨rfl,t,o,p⟩
    ·(intro c f q; obtain ⟨rfl,t,o,p⟩ := q)
     dsimp only
     refine Bc (Lm ?_)
     refine Bc (Lm ?_)
     refine Bl ⟨lo+n,rfl,⟨t.kind,t.fail,t.perm⟩,?_,R,by omega⟩
     show Runs blt (arrOf f) (((Bi f).modify ((Bi f).size - 1) _).push (lo,n,0)).toList 0 (lo+n)
     rw[Jo,Array.toList_modify]
     exact (o.power _).push X p
  ·have R:lo+m<=a₀.size:=by omega
   refine Bc (Ph ?_)
   cases hb:(Bi j).back? with
   | none =>
    dsimp only
    refine Bc (Lm ?_)
    refine Bl ⟨lo+m,rfl,⟨D.kind,D.fail,D.perm⟩,?_,R,by omega⟩
    show Runs blt (arrOf j) ((Bi j).push (lo,m,0)).toList 0 (lo+m)
    rw[Jo]
    exact k.push m1 L
   | some y =>
    obtain ⟨s1,l1,p1⟩:=y
    dsimp only
    refine Bc (Iu (Fe
     (I:=λ_ c d=>c=(none,())/\Good0 a a₀ d/\Runs blt (arrOf d) (Bi d).toList 0 lo/\Vy blt (arrOf d) lo (lo+m))
     (Q:=λc d=>c=(none,())/\Good0 a a₀ d/\Runs blt (arrOf d) (Bi d).toList 0 lo/\Vy blt (arrOf d) lo (lo+m)) ?_ (λ_ _ z=>z) ⟨rfl,D,k,L⟩) ?_)
    ·(intro z c f _ _ q; obtain ⟨rfl,t,o,p⟩ := q)
     refine Bc (Ph ?_)
     by_cases B:(Bi f).size > 1
     ·rw[if_pos B]
      obtain ⟨⟨a1,b1,J⟩,ho⟩ : ∃x,(Bi f)[(Bi f).size - 2]? = some x:=⟨(Bi f)[(Bi f).size - 2],by simp⟩
      rw[ho]
      dsimp only
      refine Ru (λ_=>Bl ⟨rfl,t,o,p⟩) (λ_=>?_)
      refine Bc (oF C t h0 K o (i:=(Bi f).size - 2) (show (Bi f).size - 2+1<(Bi f).size by omega) λh2 Z N _ keep=>?_)
      refine Ru (λz=>absurd z (by decide)) (λ_=>?_)
      exact Bl ⟨rfl,Z,N,keep _ _ (Ak _) p⟩
     ·rw[if_neg B]
      exact Bl ⟨rfl,t,o,p⟩
    ·(intro c f q; obtain ⟨rfl,t,o,p⟩ := q)
     dsimp only
     refine Bc (Lm ?_)
     refine Bc (Lm ?_)
     refine Bl ⟨lo+m,rfl,⟨t.kind,t.fail,t.perm⟩,?_,R,by omega⟩
     show Runs blt (arrOf f) (((Bi f).modify ((Bi f).size - 1) _).push (lo,m,0)).toList 0 (lo+m)
     rw[Jo,Array.toList_modify]
     exact (o.power _).push m1 p
 ·(intro c W q; obtain ⟨lo,rfl,M,G,K,U⟩ := q)
  have : max 0 a₀.size=a₀.size:=by omega
  rw[this] at U
  have e:lo=a₀.size:=by omega
  subst e
  exact ⟨rfl,M,G⟩
 ·(intro c W q; obtain ⟨rfl,M,G⟩ := q)
  dsimp only
  have T:=Runs.len G
  rw[An] at T
  refine Bc (Iu (Fe
   (I:=λx c d=>c=(none,())/\Good0 a a₀ d/\Runs blt (arrOf d) (Bi d).toList 0 a₀.size/\((Bi d).size<=1\/(Bi d).size+x<=a₀.size))
   (Q:=λc d=>c=(none,())/\Good0 a a₀ d/\Runs blt (arrOf d) (Bi d).toList 0 a₀.size/\(Bi d).size<=1) ?_ ?_ ⟨rfl,M,G,.inr (by omega)⟩) ?_)
  ·(intro x c j _ hx q; obtain ⟨rfl,v,k,Y⟩ := q)
   refine Bc (Ph ?_)
   refine Ru (λh1=>Bl ⟨rfl,v,k,h1⟩) (λh1=>?_)
   have h6:¬ (Bi j).size<=1:=h1
   generalize hB:Option.any _ _=bb
   have h4:∀i,i+1<(Bi j).size->wpS (model prog w) A E s (Zk i) (λr Ua=>r=true/\Good0 a a₀ Ua/\Runs blt (arrOf Ua) (Bi Ua).toList 0 a₀.size/\(Bi Ua).size+1=(Bi j).size) j :=
    λi hi=>oF C v h0 (Ak _) k hi λUa P u sz _=>⟨rfl,P,u,sz⟩
   refine Bc (Iu (h4 _ ?_) λr Ua ⟨er,P,u,sz⟩=>?_)
   ·cases bb with
    | true=>show (Bi j).size - 2 - 1+1<(Bi j).size; omega
    | false=>show (Bi j).size - 2+1<(Bi j).size; omega
   subst er
   refine Ru (λz=>absurd z (by decide)) (λ_=>?_)
   exact Bl ⟨rfl,P,u,.inr (by omega)⟩
  ·(intro c j q; obtain ⟨rfl,v,k,Y⟩ := q)
   have : max 0 a₀.size=a₀.size:=by omega
   rw[this] at Y
   exact ⟨rfl,v,k,by omega⟩
  ·(intro c j q; obtain ⟨rfl,v,k,Y⟩ := q)
   dsimp only
   refine Bl (h j v ?_)
   generalize hl:(Bi j).toList=l at k
   have h3:l.length<=1:=by rw[<- hl,An]; exact Y
   match l,k,h3 with
   | [],k,_ =>
    have e:0=a₀.size:=k
    omega
   | [(s1,X,p1)],k,_ =>
    obtain ⟨_,_,L,e⟩:=k
    have e':0+X=a₀.size:=e
    rw[e'] at L
    exact L
end
end Ts
namespace Ts
open PySem PyProof.Rows L2
theorem lex_irr:∀l:List Int,HT.lexLt l l=false
 | []=>rfl
 | x::r=>by rw[HT.lexLt_cons,if_pos rfl]; exact lex_irr r
theorem fA:∀{a b c:List Int},HT.lexLt a b=true->HT.lexLt b c=true->HT.lexLt a c=true
 | [],[],_,h,_=>by rw[HT.lexLt_nil_nil] at h; cases h
 | [],_::_,[],_,h=>by rw[HT.lexLt_cons_nil] at h; cases h
 | [],_::_,_::_,_,_=>HT.lexLt_nil_cons _ _
 | _::_,[],_,h,_=>by rw[HT.lexLt_cons_nil] at h; cases h
 | _::_,_::_,[],_,h=>by rw[HT.lexLt_cons_nil] at h; cases h
 | x::a,y::b,z::c,h1,h2=>by
  rw[HT.lexLt_cons] at h1 h2 ⊢
  by_cases e:x=y
  ·subst e
   rw[if_pos rfl] at h1
   by_cases d:x=z
   ·subst d
    rw[if_pos rfl] at h2 ⊢
    exact fA h1 h2
   ·rw[if_neg d] at h2 ⊢
    exact h2
  ·rw[if_neg e] at h1
   have g:x<y:=of_decide_eq_true h1
   by_cases d:y=z
   ·subst d
    rw[if_neg e]
    exact h1
   ·rw[if_neg d] at h2
    have f:y<z:=of_decide_eq_true h2
    rw[if_neg (by omega)]
    exact decide_eq_true (by omega)
theorem mJ:∀{a b:List Int},HT.lexLt a b=false->HT.lexLt b a=false->a=b
 | [],[],_,_=>rfl
 | [],_::_,h,_=>by rw[HT.lexLt_nil_cons] at h; cases h
 | _::_,[],_,h=>by rw[HT.lexLt_nil_cons] at h; cases h
 | x::a,y::b,h1,h2=>by
  rw[HT.lexLt_cons] at h1 h2
  by_cases e:x=y
  ·subst e
   rw[if_pos rfl] at h1 h2
   rw[mJ h1 h2]
  ·rw[if_neg e] at h1
   rw[if_neg (Nk e)] at h2
   have d:=of_decide_eq_false h1
   have c:=of_decide_eq_false h2
   omega
theorem mM(h:HT.lexLt a c=true):HT.lexLt a b=true\/HT.lexLt b c=true:=by
 cases e:HT.lexLt a b with
 | true=>exact .inl rfl
 | false =>
  cases d:HT.lexLt b a with
  | true=>exact .inr (fA d h)
  | false =>
   rw[<- mJ e d]
   exact .inr h
def QK(c:Addr->List Int)(x:Keyed):List Int:=match x.1 with
 | .ref a=>c a
 | _=>[]
def QU(c:Addr->List Int)(x y:Keyed):Bool:=HT.lexLt (QK c x) (QK c y)
def W1(c:Addr->List Int)(b:List Addr)(h:Heap):Prop:=∀r∈b,∃a:List Value,Fm a (c r)/\IsTup h r a.toArray
section
variable{prog:Bn}{w:World}{A:Ck}{E:Value->Ah->Prop}{s:Ah}{c:Addr->List Int}{d:List Addr}
theorem e8(j:W1 c d s.heap)(x:A.units<cLine)(v:a∈d)(hb:b∈d)(h:Q (HT.lexLt (c a) (c b)) s):wpAny (model prog w) A (oneLt' true (.ref a) (.ref b)) Q E s:=by
 obtain ⟨C,t,⟨D,o,y,f⟩,e,i,z,m⟩:=j a v
 obtain ⟨B,p,⟨G,q,n,g⟩,r,l,u,k⟩:=j b hb
 simp only at i m l k
 subst i m l k
 rw[oneLt'_eq]
 simp only[if_true]
 refine Aa (wpAny_cRoomFor x (Aa (wpAny_callSpecialIfBound?_slot ⟨_,e,rfl⟩ PySem.F.slot_tuple_lt ?_)))
 refine iU PySem.F.slot_tuple_lt ⟨_,e,rfl⟩ PySem.F.entry_tuple_lt (PySem.F.args_tuple_lt_2 _ _) (HT.tuple_lt_ints a b _ _ z u o q f g (c a) (c b) (by simpa using t) (by simpa using p)) ⟨e,r,?_⟩
 exact Mf h
theorem V5(j:W1 c d s.heap)(k:A.units<cLine):Cmp prog w A s oneType' (λx=>∃r∈d,x.1=.ref r) (QU c) where
 run:=λx y Q E ⟨r,g,b⟩ ⟨o,a,e⟩ h=>by
  obtain ⟨m,n⟩:=x
  obtain ⟨p,l⟩:=y
  simp only at b e
  subst b e
  rw[keyLt'_oneType]
  exact e8 j k g a h
 irr:=λx=>lex_irr _
 tr:=λx y z f i=>fA f i
 neg:=λx y z h=>mM h
theorem Yr:∀{l:List Addr} {Q:List (Option Value)->Ah->Prop},(∀r∈l,∃j:List Value,Fm j (c r)/\IsTup s.heap r j.toArray)->(∀fs:List (Option Value),fs.length=l.length->(∀(i:Nat) (r:Addr),l[i]? = some r->∃f,fs[i]? = some f/\(f.isSome=true↔c r≠[]))->Q fs s)->wpAny (model prog w) A ((l.map Be).mapM iL) Q E s
 | [],Q,_,h=>by
  rw[Oi,List.mapM_nil]
  exact Ae (h [] rfl λi r e=>by simp at e)
 | r::l,Q,hH,h=>by
  obtain ⟨j,v,o,g,k,n,e⟩:=hH r Ab
  rw[Aq,List.mapM_cons]
  have one:∀{R:Option Value->Ah->Prop},R j.toArray[0]? s->wpAny (model prog w) A (iL (.ref r)) R E s:=λ{R} y=>by
   unfold iL
   refine Aa (Jc (T := "tuple") ⟨o,g,k⟩ ?_)
   rw[if_neg (by simp)]
   exact Aa (lE g e (Ae y))
  refine Aa (one (Aa (Yr (λm q=>hH m (Ac _ q)) λfs u B=>Ae (h _ (by rw[Bh,Bh,u]) λi m t=>?_))))
  cases i with
  | zero =>
   have z:r=m:=by simpa using t
   subst z
   refine ⟨_,rfl,?_⟩
   have d:=v.length
   cases j with
   | nil =>
    cases p:c r with
    | nil=>simp
    | cons _ _=>rw[p] at d; simp at d
   | cons a b =>
    cases p:c r with
    | nil=>rw[p] at d; simp at d
    | cons _ _=>simp
  | succ i =>
   obtain ⟨f,x,C⟩:=B i m (by simpa using t)
   exact ⟨f,by simpa using x,C⟩
theorem kP:∀{l:List Addr} {Q:List Value->Ah->Prop},(∀r∈l,∃a:List Value,Fm a (c r)/\IsTup s.heap r a.toArray)->Q (l.map λ_=>Lu "tuple") s->wpAny (model prog w) A ((l.map Be).mapM typeOf) Q E s
 | [],Q,_,h=>by
  rw[Oi,List.mapM_nil]
  exact Ae h
 | r::l,Q,hH,h=>by
  obtain ⟨a,f,o,g,k,n,e⟩:=hH r Ab
  rw[Aq,List.mapM_cons]
  exact Aa (Jc (T := "tuple") ⟨o,g,k⟩ (Aa (kP (λd b=>hH d (Ac _ b)) (Ae h))))
theorem Q8(b:W1 c (r::l) s.heap)(h0:c r=[])(h:Q oneType' s):wpAny (model prog w) A (keyKind' ((r::l).map Be).toArray) Q E s:=by
 rw[keyKind'_eq,dO]
 refine Aa ?_
 show wpAny (model prog w) A (List.toArray <$> ((r::l).map Be).mapM iL) _ E s
 rw[map_eq_pure_bind]
 refine Aa (Yr b λfs n g=>Ae ?_)
 obtain ⟨f,a,i⟩:=g 0 r rfl
 have e:f=none:=by
  cases f with
  | none=>rfl
  | some v=>exact absurd h0 (i.mp rfl)
 subst e
 have j:¬ (fs.toArray.all λx=>x.isSome)=true:=by
  intro z
  have:=Array.all_eq_true'.mp z none (by
   have:=Bj a
   simpa using this)
  simp at this
 have d:¬ (fs.toArray[0]?.bind id).isSome=true:=by
  rw[List.getElem?_toArray,a]
  simp
 rw[if_neg j,if_neg d,oneTypeOnly'_eq,dO]
 refine Aa (Aa ?_)
 show wpAny (model prog w) A (List.toArray <$> ((r::l).map Be).mapM typeOf) _ E s
 rw[map_eq_pure_bind]
 refine Aa (kP b (Ae ?_))
 have k:((r::l).map λ_=>Lu "tuple").toArray[0]? = some (Lu "tuple"):=by simp
 have m:(((r::l).map λ_=>Lu "tuple").toArray.all λx=>x == Lu "tuple")=true:=by
  simp only[List.all_toArray,List.all_map,Vf]
  intro _ _
  rfl
 rw[k]
 dsimp only
 rw[m,if_pos rfl]
 exact Ae (Ae h)
end
theorem kZ:∀{b:List Addr} {us:List Value},Gn (b.map V.ref) us->us=b.map Be
 | [],_,r=>by cases r; rfl
 | a::l,_,r=>by
  rw[Aq] at r
  cases r with
  | cons d c =>
   cases d
   rw[kZ c]
   rfl
theorem jZ:∀a:List Addr,Gn (a.map V.ref) (a.map Be)
 | []=>.nil
 | _::l=>.cons rfl (jZ l)
section
variable{prog:Bn}{w:World}{A:Ck}{E:Value->Ah->Prop}{s:Ah}{c:Addr->List Int}{a:List Addr}
theorem cX(e:h.get? b=some o):(dN h vs out).get? b=some o:=by
 have lt:=Ax e
 unfold dN sortedHeap
 have c:((h.push (Er "list" #[] 0)).update h.objs.size (Eo (·++vs.toArray))).objs.size=h.objs.size+1:=by rw[Mg,iS]
 have a:b≠h.objs.size+1:=By (Gb lt)
 refine ((Bs _ _ _).2 b a).trans (Ai _ (Ai _ (((Bs _ _ _).2 b a).trans (Ai _ ?_))))
 exact ((Bs _ _ _).2 b (By lt)).trans (Ai _ e)
theorem jJ:∃n,(dN h vs out).get? (h.objs.size+1)=some (Er "list" out n):=by
 unfold dN sortedHeap
 have b:((h.push (Er "list" #[] 0)).update h.objs.size (Eo (·++vs.toArray))).objs.size=h.objs.size+1:=by rw[Mg,iS]
 have c:(((h.push (Er "list" #[] 0)).update h.objs.size (Eo (·++vs.toArray))).push (Er "list" vs.toArray 0)).get? (h.objs.size+1)=some (Er "list" vs.toArray 0):=by
  rw[<- b]
  exact Ap _ rfl
 have a:=Og c (λ_=>#[])
 have d:=Ai (Er "list" #[] 0) (Ai (Er "tuple" vs.toArray 0) a)
 exact ⟨_,Og d (λ_=>out)⟩
end
def KO{b:Type}(c:Addr->b)(d0:b)(x:Keyed):b:=match x.1 with
 | .ref a=>c a
 | _=>d0
def QG{a:Type}(c:Addr->a)(d0:a)(lt_:a->a->Bool)(x y:Keyed):Bool:=lt_ (KO c d0 x) (KO c d0 y)
def tQ{a:Type}(prog:Bn)(w:World)(A:Ck)(s:Ah)(b:List Addr)(c:Addr->a)(d0:a)(lt_:a->a->Bool):Prop :=
 ∃d,(∀(R:Ny->Ah->Prop) (E:Value->Ah->Prop),R d s->wpAny (model prog w) A (keyKind' (b.map Be).toArray) R E s)/\Cmp prog w A s d (λx=>∃r∈b,x.1=.ref r) (QG c d0 lt_)
section
variable{prog:Bn}{w:World}{A:Ck}{E:Value->Ah->Prop}{s:Ah}{f:Type}{c:Addr->f}{d0:f}{lt_:f->f->Bool}{d:List Addr}
theorem uN(hl:s.heap.get? a=some (Er "list" (d.map Be).toArray n))(hC:∀h':Heap,(∀b o,b≠a->s.heap.get? b=some o->h'.get? b=some o)->2<=d.length->tQ prog w A { s with heap:=h' } d c d0 lt_)(hz:d.length<=Au)(h:∀f:List Addr,f.Perm d->f.Pairwise (λx y=>lt_ (c y) (c x)=false)->P (.done (.ret .none)) { s with heap:=sortedHeap s.heap a (d.map Be) (f.map Be).toArray }):wpAny (model prog w) A (Builtin.«list.sort» ⟨[.ref a],[]⟩) P E s:=by
 have lt:=Ax hl
 have q:(d.map Be).toArray.size=d.length:=by simp
 rw[list_sort_plain]
 refine Aa (lE hl rfl (Aa (iK hl rfl ?_ (by rw[q]; exact hz))))
 obtain ⟨M,B⟩ : ∃M,(s.heap.update a (Eo λ_=>#[])).get? a=some (Er "list" #[] M):=⟨_,Og hl (λ_=>#[])⟩
 refine Aa (seqEpoch_at B rfl (Aa (wpAny_newTuple (Aa (Xg (Ce ?_)) ))))
 have p:(((s.heap.update a (Eo λ_=>#[])).push (Er "tuple" (d.map Be).toArray 0)).push (Er "list" #[] 0)).get? a=some (Er "list" #[] M):=by
  rw[Heap.get?_push_ne _ _ _ (by rw[iS,Mg]; exact By (Gb lt)),
   Heap.get?_push_ne _ _ _ (by rw[Mg]; exact By lt)]
  exact B
 have kept:∀b o,b≠a->s.heap.get? b=some o->(((s.heap.update a (Eo λ_=>#[])).push (Er "tuple" (d.map Be).toArray 0)).push (Er "list" #[] 0)).get? b=some o:=λb o Z e=>by
  refine Ai _ (Ai _ ?_)
  exact ((Bs s.heap a _).2 b Z).trans e
 show wpAny (model prog w) A _ P E { s with heap:=((s.heap.update a (Eo λ_=>#[])).push (Er "tuple" (d.map Be).toArray 0)).push (Er "list" #[] 0) }
 dsimp only
 -- what is left uB the runs
 have F:∀(out:Array Value) (f:List Addr),out=(f.map Be).toArray->f.Perm d->f.Pairwise (λx y=>lt_ (c y) (c x)=false) ->
   P (.done (.ret .none)) { s with heap:=sortedHeap s.heap a (d.map Be) out }:=λout f e p1 p2=>by rw[e]; exact h f p1 p2
 by_cases t:(d.map Be).toArray.size<2
 ·rw[if_pos t,if_pos t]
  refine Aa (Ae ?_)
  rw[StateT.run_pure]
  refine Aa (Ae (Aa (seqEpoch_at p rfl (Aa (iK p rfl ?_ (by simp) ?_)))))
  ·simp only[bne_self_eq_false,Bt,if_false]
   refine Ae (F _ d ?_ (Hj _) ?_)
   ·show Array.map (λx=>x.2) ((d.map Be).toArray.zip (d.map Be).toArray)=_
    apply Array.ext'
    simp [List.map_snd_zip]
   ·rw[q] at t
    match d,t with
    | [],_=>exact Ds
    | [_],_=>exact Em _ _
    | _::_::_,t=>simp only[Bh] at t; omega
  ·show (Array.map (λx:Keyed=>x.2) ((d.map Be).toArray.zip (d.map Be).toArray)).size<=Au+1
   rw[Yb,Array.size_zip,q]
   omega
 ·rw[if_neg t,if_neg t]
  rw[q] at t
  obtain ⟨U,G,C⟩:=hC (((s.heap.update a (Eo λ_=>#[])).push (Er "tuple" (d.map Be).toArray 0)).push (Er "list" #[] 0)) kept (by omega)
  refine Aa (G _ _ ?_)
  have H:(pairsOf (d.map Be)).size=d.length:=by rw[pairsOf_size,Ad]
  refine Aa (Da (yT C (a₀:=pairsOf (d.map Be)) (st:=SortSt.mk' U ((d.map Be).toArray.zip (d.map Be).toArray) #[] 7 none) (E:=E)
   (Q:=λ_ m=>Good0 U (pairsOf (d.map Be)) m/\Vy (QG c d0 lt_) (arrOf m) 0 (pairsOf (d.map Be)).size)
   ⟨rfl,rfl,Array.Perm.refl _⟩ (λx v=>?_) rfl (by rw[H]; omega) λm g J=>⟨g,J⟩) ?_ λ_ _ z=>z)
  ·rw[pairsOf_toList] at v
   obtain ⟨_,L⟩:=mem_zip_self v
   obtain ⟨r,K,e⟩:=Cm.mp L
   exact ⟨r,K,e.symm⟩
  ·(rintro ⟨⟨⟩,m⟩ s' q_; obtain ⟨rfl,g,J⟩ := q_)
   dsimp only
   -- the things of the new order
   have I:(arrOf m).toList.Perm ((d.map Be).zip (d.map Be)):=by rw[<- pairsOf_toList]; exact Sg.mp g.perm
   have D:∀x∈(arrOf m).toList,∃r∈d,x=(Be r,Be r):=λx v=>by
    obtain ⟨e,L⟩:=mem_zip_self (I.mem_iff.mp v)
    obtain ⟨r,K,N⟩:=Cm.mp L
    refine ⟨r,K,?_⟩
    obtain ⟨x1,x2⟩:=x
    simp only at e N
    rw[<- e,N]
   have ex:∀l:List Keyed,(∀x∈l,∃r∈d,x=(Be r,Be r))->∃f:List Addr,l=f.map λr=>(Be r,Be r):=by
    intro l
    induction l with
    | nil=>intro _; exact ⟨[],rfl⟩
    | cons x l V =>
     intro v
     obtain ⟨r,_,e⟩:=v x Ab
     obtain ⟨f,Y⟩:=V λy hy=>v y (Ac _ hy)
     exact ⟨r::f,by rw[Aq,e,Y]⟩
   obtain ⟨f,u⟩:=ex _ D
   have zz:(d.map Be).zip (d.map Be)=d.map λr=>(Be r,Be r):=by
    rw[List.zip_map',]
   rw[u,zz] at I
   have inj:∀x:Keyed,∃a:Addr,True:=λ_=>⟨0,trivial⟩
   have S:f.Perm d:=by
    have:=I.map (λx:Keyed=>match x.1 with | .ref a=>a | _=>0)
    rw[Dj,Dj] at this
    simpa [Function.comp_def] using this
   have so:f.Pairwise (λx y=>lt_ (c y) (c x)=false):=by
    rw[Mj]
    intro i j hi O W
    have ls:(arrOf m).size=f.length:=by
     have:=congrArg Fh u
     rw[An,Ad] at this
     exact this
    have R:∀k (G:k<f.length),X (arrOf m) k=(Be f[k],Be f[k]):=λk G=>by
     have T:=Ez (dH (xs:=arrOf m) (i:=k) (by omega))
     rw[u,Bg,Co G] at T
     exact (Cj T).symm
    have:=J i j (Dq _) (by omega) (by rw[H,<- S.length_eq]; exact O)
    rw[R i hi,R j O] at this
    exact this
   refine Aa (seqEpoch_at p rfl (Aa (iK p rfl ?_ (by simp) ?_)))
   ·have fl:Nx m=none:=g.fail
    rw[fl]
    simp only[bne_self_eq_false,Bt,if_false]
    refine Ae (F _ f ?_ S so)
    apply Array.ext'
    rw[Array.toList_map,u,Dj]
    rfl
   ·show (Array.map (λx:Keyed=>x.2) (arrOf m)).size<=Au+1
    rw[Yb,g.size,H]
    omega
theorem oJ(hl:s.heap.IsList l (d.map Be).toArray)(j:∀(f:Ck) (h':Heap),f.units<=A.units+2->f.handled=A.handled->(∀b o,s.heap.get? b=some o->h'.get? b=some o)->2<=d.length->tQ prog w f { s with heap:=h' } d c d0 lt_)(hz:d.length<=Au)(h:∀a:List Addr,a.Perm d->a.Pairwise (λx y=>lt_ (c y) (c x)=false)->Q (.ref (s.heap.objs.size+1)) { s with heap:=dN s.heap (d.map Be) (a.map Be).toArray }):wpAny (model prog w) A (call (.builtin "sorted") [.ref l]) Q E s:=by
 refine Mh (by exact kind_sorted) plain_sorted entry_sorted (args_sorted1 _) ?_
 unfold aV
 refine Aa (m:=checkCount "sorted" 1 1 _) (Ae (Aa (collect_list hl (Aa (Xg ?_)) (by rw[Ad]; exact hz))))
 have i:((s.heap.push (Er "list" #[] 0)).update s.heap.objs.size (Eo (·++(d.map Be).toArray))).objs.size=s.heap.objs.size+1:=by rw[Mg,iS]
 have g:(((s.heap.push (Er "list" #[] 0)).update s.heap.objs.size (Eo (·++(d.map Be).toArray))).push (Er "list" (d.map Be).toArray 0)).get? (s.heap.objs.size+1)=some (Er "list" (d.map Be).toArray 0):=by
  rw[<- i]
  exact Ap _ rfl
 have kept:∀b o,s.heap.get? b=some o->(((s.heap.push (Er "list" #[] 0)).update s.heap.objs.size (Eo (·++(d.map Be).toArray))).push (Er "list" (d.map Be).toArray 0)).get? b=some o:=λb o e=>by
  refine Ai _ (((Bs _ _ _).2 b (By (Ax e))).trans (Ai _ e))
 show wpAny _ _ _ _ _ { s with heap:=((s.heap.push (Er "list" #[] 0)).update s.heap.objs.size (Eo (·++(d.map Be).toArray))).push (Er "list" (d.map Be).toArray 0) }
 rw[i]
 refine Aa (Ce (Ct slot_list_sort ⟨_,g,rfl⟩ entry_list_sort (uN g (λh' p n=>j _ h' ?_ ?_ (λb o e=>p b o (By (Gb (Ax e))) (kept b o e)) n) hz λa q k=>⟨_,rfl,?_⟩) (args_list_sort _)))
 ·first | exact Ak _ | (show A.units+1<=A.units+2; omega) | (show A.units<=A.units+2; omega)
 ·rfl
 ·exact Ae ⟨_,rfl,h a q k⟩
end
section
variable{prog:Bn}{w:World}{A:Ck}{E:Value->Ah->Prop}{s:Ah}{c:Addr->List Int}{a:List Addr}
theorem W0(h:Q (decide (x<y)) s):wpAny (model prog w) A (oneLt' b (.int x t) (.int y u)) Q E s:=by
 cases b with
 | true=>exact oneLt_int h
 | false=>exact PySem.W.kat_one _ _ (lt_int h)
theorem pX:∀{xs ys:List Value} {ns c:List Int} (i:Nat),Fm xs ns->Fm ys c->Q (HT.lexLt ns c) s->PySem.W.KatLex prog w A b (decide (xs.length<ys.length)) Q (xs.zip ys) i s
 | _,_,_,_,i,.nil,.nil,h=>h
 | _,_,_,_,i,.nil,.cons m u k,h=>h
 | _,_,_,_,i,.cons n t k,.nil,h=>h
 | _,_,_,_,i,.cons (vs:=xs) n t k,.cons (vs:=ys) m u k2,h=>by
  rw[Nj]
  refine PySem.W.kat_cons (wpAny_eqBool_int ?_)
  rw[HT.lexLt_cons] at h
  cases a:(n == m) with
  | true =>
   have e:n=m:=by simpa using a
   rw[if_pos e] at h
   refine PySem.W.kat_yes ?_
   have : decide ((Lz n t::xs).length<(Lz m u::ys).length)=decide (xs.length<ys.length):=by simp
   rw[this]
   exact pX (i+1) k k2 h
  | false =>
   have e:¬ n=m:=by simpa using a
   rw[if_neg e] at h
   exact PySem.W.kat_no (W0 h)
theorem fW:∀{l:List Addr},(∀r∈l,∃a:List Value,Fm a (c r)/\IsTup s.heap r a.toArray)->(∀r∈l,c r≠[])->∃fs:List Value,PySem.W.KatTups s.heap (l.map Be) fs/\fs.length=l.length/\∀v∈fs,∃i t,v=.int i t
 | [],_,_=>⟨[],.nil,rfl,λ_ h=>(nomatch h)⟩
 | r::l,hH,hn=>by
  obtain ⟨fs,q,w,u⟩:=fW (λj d=>hH j (Ac _ d)) (λj d=>hn j (Ac _ d))
  obtain ⟨a,b,o,g,k,n,e⟩:=hH r Ab
  have f:=hn r Ab
  match a,b with
  | [],b=>cases p:c r with
   | nil=>exact absurd p f
   | cons _ _=>rw[p] at b; cases b
  | v::a,b =>
   have : ∃i t,v=.int i t:=by
    revert b
    generalize c r=cr
    intro b
    cases b with
    | cons m t k=>exact ⟨_,_,rfl⟩
   refine ⟨v::fs,PySem.W.KatTups.cons g k e (by simp) q,by rw[Bh,Bh,w],λx hx=>?_⟩
   rcases Al.mp hx with rfl | hx
   ·exact this
   ·exact u x hx
theorem pM(b:W1 c a s.heap)(I:A.units<cLine)(V:2<=a.length):tQ prog w A s a c [] HT.lexLt:=by
 obtain ⟨r,l,rfl⟩ : ∃r l,a=r::l:=by
  cases a with
  | nil=>simp at V
  | cons r l=>exact ⟨r,l,rfl⟩
 by_cases J:c r=[]
 ·exact ⟨oneType',λR E h=>Q8 b J h,V5 b I⟩
 by_cases d:∀C∈r::l,c C≠[]
 ·obtain ⟨fs,N,K,Y⟩:=fW b d
  refine ⟨tuples' true,λR E h=>?_,?_⟩
  ·refine PySem.W.kat_kind (T:=.type "int") N (by rw[K]; simp) (λv hv=>?_) (by decide) h
   obtain ⟨i,t,rfl⟩:=Y v hv
   exact .now
  ·refine ⟨λx y Q E ⟨k,j,n⟩ ⟨m,g,o⟩ h=>?_,λx=>lex_irr _,λx y z=>fA,λx y z=>mM⟩
   obtain ⟨Z,x2⟩:=x
   obtain ⟨y1,L⟩:=y
   simp only at n o
   subst n o
   obtain ⟨q,F,o1,P,k1,n1,e1⟩:=b k j
   obtain ⟨p,u,o2,S,k2,n2,M⟩:=b m g
   refine PySem.W.kat_lt P e1 S M ?_
   have e:(decide (q.toArray.size<p.toArray.size))=decide (q.length<p.length):=by simp
   rw[e]
   exact pX 0 F u h
 ·refine ⟨general',λR E h=>?_,?_⟩
  ·rw[kat_kind_eq,dO,map_eq_pure_bind]
   refine Aa (Aa (Yr b λfs hl H=>Ae ?_))
   have X:¬ (fs.toArray.all λx=>x.isSome)=true:=by
    intro z
    refine d λC D=>?_
    obtain ⟨i,hi⟩:=List.getElem?_of_mem D
    obtain ⟨f,G,B⟩:=H i C hi
    refine B.mp ?_
    exact Array.all_eq_true'.mp z f (by have:=Bj G; simpa using this)
   obtain ⟨f,G,B⟩:=H 0 r rfl
   have n0:(fs.toArray[0]?.bind id).isSome=true:=by
    rw[List.getElem?_toArray,G]
    simpa using B.mpr J
   rw[if_neg X,if_pos n0]
   exact Ae h
  ·refine ⟨λx y Q E ⟨k,j,n⟩ ⟨m,g,o⟩ h=>?_,λx=>lex_irr _,λx y z=>fA,λx y z=>mM⟩
   obtain ⟨Z,x2⟩:=x
   obtain ⟨y1,L⟩:=y
   simp only at n o
   subst n o
   obtain ⟨q,F,O⟩:=b k j
   obtain ⟨p,u,U⟩:=b m g
   show wpAny (model prog w) A (oneLt' false (.ref k) (.ref m)) Q E s
   exact PySem.W.kat_one _ _ (HT.lt_tupInts O U (show Fm q.toArray.toList (c k) by simpa using F) (show Fm p.toArray.toList (c m) by simpa using u) I h)
end
section
variable{X:Cx}
def rSortI(K:PySem.W.Frag):List V->Hp->VK->Prop:=λe H Q=>∃(a:Addr) (d:List Addr) (c:Addr->List Int),e=[.ref a]/\Nm K H a (d.map V.ref)/\(∀r∈d,Wt K H r ((c r).map V.int)) /\
  ∀(p:Addr) (b:List Addr),H p=none->b.Perm d->b.Pairwise (λx y=>HT.lexLt (c y) (c x)=false)->Q (.ref p) (upd H p (.lst (b.map V.ref)))
theorem call_sortedI(N:X.A.units+64<cLine):Nt X (.builtin "sorted") (rSortI X.K):=by
 intro i s P H O J Q I r h
 obtain ⟨a,z,c,rfl,x,m,q⟩:=h
 obtain ⟨u,rfl,F⟩:=vals1 r
 cases F
 obtain ⟨w,t,l,f⟩:=I.list x
 have e:=kZ t
 subst e
 rw[Ad] at f
 refine oJ (c:=c) (d0:=[]) (lt_:=HT.lexLt) l.isList (λL G M _ v D=>pM (λr p=>?_) (by omega) D) f λd j y=>?_
 ·obtain ⟨B,C,⟨o,g,k⟩,_⟩:=I.tuple (m r p)
  exact ⟨B,intsAre_of C,o,v _ _ g,k⟩
 ·obtain ⟨n,E⟩:=jJ (h:=s.heap) (vs:=z.map Be) (out:=(d.map Be).toArray)
  refine ⟨.ref (s.heap.objs.size+1),upd H (s.heap.objs.size+1) (.lst (d.map V.ref)),I.laid (t':=s.toks) (λb o e=>cX e) (Qc _) ⟨?_,_,n,jZ d,E⟩,rfl,q _ d (I.hok.fresh (Qc _)) j y⟩
  rw[Ad,j.length_eq]
  exact f
end
end Ts
namespace DL
open PySem L2 Nd
def Np{a:Type}(xs:List a)(lo b:Option Int):List a:=(xs.drop (HT.sIx xs.length 0 lo)).take (HT.sIx xs.length xs.length b - HT.sIx xs.length 0 lo)
theorem sH(f:b->c)(xs:List b)(lo a:Option Int):Np (xs.map f) lo a=(Np xs lo a).map f:=by
 unfold Np
 rw[Ad,List.map_take,List.map_drop]
theorem Qp(xs:List b)(lo a:Option Int):(Np xs lo a).Sublist xs:=(Jp _ _).trans (Jr _ _)
theorem kG(xs:List a)(k:Nat):Np xs none (some (k:Int))=xs.take k:=by
 unfold Np
 rw[HT.sIx_none,HT.sIx_nat,Sm,Nat.sub_zero]
 by_cases h:k<=xs.length
 ·rw[Nat.min_eq_left h]
 ·rw[Nat.min_eq_right (by omega),Ek,Gw (by omega)]
section
variable{K:PySem.W.Frag}{H:Hp}
theorem RdFs.drop:∀(n:Nat) {xs:List V} {ds:List Af} {F:List Addr},RdFs K H xs ds F->∃G,RdFs K H (xs.drop n) (ds.drop n) G/\G.Sublist F
 | 0,_,_,F,h=>⟨F,h,Cp _⟩
 | n+1,_,_,_,.nil=>⟨[],.nil,Cp _⟩
 | n+1,_,_,_,.cons _ t=>by
  obtain ⟨G,a,b⟩:=RdFs.drop n t
  exact ⟨G,a,b.trans (Bq _ _)⟩
theorem RdFs.take:∀(n:Nat) {xs:List V} {ds:List Af} {F:List Addr},RdFs K H xs ds F->∃G,RdFs K H (xs.take n) (ds.take n) G/\G.Sublist F
 | 0,_,_,F,h=>⟨[],.nil,List.nil_sublist _⟩
 | n+1,_,_,_,.nil=>⟨[],.nil,Cp _⟩
 | n+1,_,_,_,.cons a t=>by
  obtain ⟨G,b,c⟩:=RdFs.take n t
  exact ⟨_,.cons a b,(Cp _).append c⟩
theorem RdFs.cut(h:RdFs K H xs ds F)(lo a:Option Int):∃G,RdFs K H (gH xs lo a) (Np ds lo a) G/\G.Sublist F:=by
 unfold gH Np
 rw[h.len]
 obtain ⟨G,c,e⟩:=h.drop (HT.sIx ds.length 0 lo)
 obtain ⟨f,d,b⟩:=c.take (HT.sIx ds.length ds.length a - HT.sIx ds.length 0 lo)
 exact ⟨f,d,b.trans e⟩
theorem RdFs.rep(h:RdFs K H xs ds []):∀k:Nat,RdFs K H (Cc k xs).flatten (Cc k ds).flatten []
 | 0=>.nil
 | k+1=>by
  rw[Gx,Gx,Jq,Jq]
  exact h.app (RdFs.rep h k)
theorem RdFs.ints:∀ns:List Int,RdFs K H (ns.map V.int) (ns.map Az) []
 | []=>.nil
 | n::ns=>RdFs.cons (F:=[]) (.int n) (RdFs.ints ns)
theorem RdFs.ints_inv:∀{ns:List Int} {xs:List V} {F:List Addr},RdFs K H xs (ns.map Az) F->xs=ns.map V.int/\F=[]
 | [],_,_,h=>by cases h; exact ⟨rfl,rfl⟩
 | n::ns,_,_,h=>by
  rw[Aq] at h
  cases h with
  | cons a t =>
   obtain ⟨rfl,rfl⟩:=a.int_inv
   obtain ⟨rfl,rfl⟩:=RdFs.ints_inv t
   exact ⟨rfl,rfl⟩
end
theorem fU:Ei (a++b)=(Ei a && Ei b):=by
 induction a with
 | nil=>simp [Ei]
 | cons x a c=>simp [Ei,c,Bool.and_assoc]
theorem Ov(ns:List Int):Ei (ns.map Az)=true:=Yc (λ_=>by simp [imm]) ns
def yC:D2:=λx y P=>match x,y with
 | .dat _ (.list ds),.dat _ (.list es)=>Ei ds=true/\Ei es=true/\ds.length+es.length<=1000000/\P (.dat .ow (.list (ds++es)))
 | _,_=>False
def nY:D2:=λx y P=>match x,y with
 | .dat _ (.tuple ds),.dat _ (.tuple es)=>Ei ds=true/\Ei es=true/\ds.length+es.length<=1000000/\P (.dat .ow (.tuple (ds++es)))
 | _,_=>False
def xH:D2:=λx y P=>match x,y with
 | .dat _ (.list ds),.dat _ (.int k)=>Ei ds=true /\ -1000000<=k/\k<=1000000/\ds.length * k.toNat<=1000000/\P (.dat .ow (.list (Cc k.toNat ds).flatten))
 | _,_=>False
section
variable{K:PySem.W.Frag}
theorem GW:sZ K GL yC:=by
 intro A X n S T x y v w F G H Q P d c k
 unfold yC at c
 split at c
 ·obtain ⟨h,l,t,p⟩:=c
  obtain ⟨b,i,r,rfl,m,e,_,_⟩:=(d.told mem_mid).list_inv
  obtain ⟨a,o,s,rfl,j,f,_,_⟩:=(d.told Fp).list_inv
  have u:=f.len
  have z:=e.len
  refine ⟨a,b,o,i,rfl,rfl,j,m,iQ (by omega),λq g=>?_⟩
  exact k _ _ _ _ (d.drop2.newI (f.app e) (by rw[fU,h,l]; rfl) (by rw[Bm]; exact iQ (by omega)) g .ow) p
 ·exact c.elim
theorem GJ:sZ K MC xH:=by
 intro A X n S T x y v w F G H Q P d c k
 unfold xH at c
 split at c
 ·obtain ⟨g,u,s,f,p⟩:=c
  obtain ⟨rfl,_⟩:=(d.told mem_mid).int_inv
  obtain ⟨a,r,t,rfl,m,e,_,_⟩:=(d.told Fp).list_inv
  have o:=e.len
  obtain rfl:=e.imm g
  rename_i j
  refine ⟨a,_,r,rfl,rfl,m,by omega,by omega,iQ (by rw[o]; exact f),λq i=>?_⟩
  refine k _ _ _ _ (d.drop2.newI (e.rep _) ?_ (by rw[wG,Nat.mul_comm]; exact iQ f) i .ow) p
  refine vW.mpr λz b=>?_
  obtain ⟨l,h,b⟩:=List.mem_flatten.mp b
  rw[(Hk.mp h).2] at b
  exact vW.mp g z b
 ·exact c.elim
theorem AQ:sZ K (EK K) nY:=by
 intro C X n S T x y v w F G H Q P c g k
 unfold nY at g
 split at g
 ·obtain ⟨s,t,B,p⟩:=g
  obtain ⟨b,h,rfl,l,d,o⟩:=(c.told mem_mid).tup_inv
  obtain ⟨a,m,rfl,j,f,u⟩:=(c.told Fp).tup_inv
  have z:=f.len
  have A:=d.len
  obtain rfl:=f.imm s
  obtain rfl:=d.imm t
  refine ⟨a,b,m,h,rfl,rfl,Wt.of j,Wt.of l,iQ (by omega),λe=>?_,λe=>?_,λq r=>?_⟩
  ·subst e
   obtain rfl:=Kg.mp (z.symm.trans rfl)
   exact k _ _ [] _ (c.drop2.pushI (.tup l o d)) p
  ·subst e
   obtain rfl:=Kg.mp (A.symm.trans rfl)
   rw[Eb] at p
   exact k _ _ [] _ (c.drop2.pushI (.tup j u f)) p
  ·have i:=Ew r (.tup (m++h))
   exact k _ _ [] _ ((c.drop2.grow i (Ak _)).pushI (.tup Dn (by rw[Bm]; exact iQ (by omega)) ((f.app d).kp (Kp.of i)))) p
 ·exact g.elim
end
section
variable{X:Cx}{a b:Expr}{d c:DE}{pos:Pos}
theorem Vw(e:Fw X a d)(hb:Fw X b c):Fw X (.BinOp a .Add b pos) (dI yC d c):=Zt A9 GW e hb
theorem eJ(e:Fw X a d)(hb:Fw X b c):Fw X (.BinOp a .Add b pos) (dI nY d c):=Zt V3 AQ e hb
theorem C5(e:Fw X a d)(hb:Fw X b c):Fw X (.BinOp a .Mult b pos) (dI xH d c):=Zt FD GJ e hb
end
abbrev DO:=DS->(Option Int->DS->Prop)->Prop
def LO(K:PySem.W.Frag)(c:DO):TO:=λf H Q=>∃(g:Hp) (X:Addr->Prop) (S T:List Ent) (d:DS) (P:Option Int->DS->Prop),vs S=f/\Sl S d/\At K g X d.n (S++T) H/\c d P /\
 ∀o a b e,vs b=f->Sl b a->At K g X a.n (b++T) e->P o a->Q o e
abbrev IR(X:Cx)(e:Option Expr)(d:DO):Prop:=PO X e (LO X.K d)
theorem PO.imp(h:PO X e t)(k:∀a H Q,t' a H Q->t a H Q):PO X e t':=λb s a H Q I q=>h b s a H Q I (k a H Q q)
def wV:DO:=λa P=>P none a
def DD(b:DE):DO:=λc P=>b c λx a=>match x with
 | .dat _ (.int i)=>P (some i) a
 | _=>False
section
variable{X:Cx}{e:Expr}{b:DE}{lo c:Option Expr}{dl d:DO}{pos f:Pos}
theorem Tp:IR X none wV:=by
 refine PO.imp AM λe H Q h=>?_
 obtain ⟨f,Y,S,T,c,P,rfl,b,a,d,k⟩:=h
 exact k _ c S H rfl b a d
theorem To(h:Fw X e b):IR X (some e) (DD b):=by
 refine PO.imp (BX h) λq H Q h=>?_
 obtain ⟨n,Y,S,T,m,P,rfl,l,g,o,k⟩:=h
 refine ⟨n,Y,S,T,m,_,rfl,l,g,o,λx c v F f i j d a p=>?_⟩
 split at p
 ·obtain ⟨rfl,_⟩:=(a.told mem_mid).int_inv
  exact ⟨_,rfl,k _ c f i j d a.drop p⟩
 ·exact p.elim
def PY(i:Bool)(b:DE)(dl d:DO):DE:=λf P=>b f λx c=>dl c λl e=>d e λh a=>match x with
 | .dat m (.list ds)=>Wa i m (Np ds l h) λz=>P z a
 | .dat m (.tuple ds)=>mR i m (Np ds l h) λz=>P z a
 | _=>False
def OL(K:PySem.W.Frag):V->Option Int->Option Int->Hp->VK->Prop:=λx lo c H Q=>HN K x lo c H Q\/DH x lo c H Q
theorem Vr(R:Fw X e b)(hl:IR X lo dl)(hh:IR X c d):Fw X (.Subscript e (.Slice lo c none f) pos) (PY i b dl d):=by
 refine PE.imp (rW (r:=OL X.K) (AR.or W6) R hl hh) λσ H Q h=>?_
 obtain ⟨w,Y,S,T,Z,P,rfl,hS,hA,hd,k⟩:=h
 refine ⟨w,Y,S,T,Z,_,rfl,hS,hA,hd,λx o v F W H1 e1 V t p1=>?_⟩
 refine ⟨w,Y,W,⟨some v,x,F⟩::T,o,_,e1,V,t,p1,λl y S2 H2 U e4 s f=>?_⟩
 refine ⟨w,Y,S2,⟨some v,x,F⟩::T,y,_,U,e4,s,f,λh m O H3 N L g n=>?_⟩
 split at n
 ·obtain ⟨a,I,G,rfl,C,u,rfl,E⟩:=(g.told mem_mid).list_inv
  refine .inl ⟨a,I,rfl,Nm.of C,λp A=>?_⟩
  obtain ⟨G',q,D⟩:=u.cut l h
  obtain ⟨z,J,j,B⟩:=g.newL q (D.trans (Di _ _)) (Ca (Qp _ _ _).length_le E) A n
  exact k z m _ J O _ N L j B
 ·obtain ⟨a,I,rfl,C,u,E⟩:=(g.told mem_mid).tup_inv
  refine .inr ⟨a,I,rfl,C,λp H' A M=>?_⟩
  obtain ⟨G',q,D⟩:=u.cut l h
  obtain ⟨z,J,j,B⟩:=(g.grow M (Ak _)).oldT (q.kp (Kp.of M)) D (Ca (Qp _ _ _).length_le E) A n
  exact k z m _ J O _ N L j B
 ·exact n.elim
end
end DL
namespace NdS
open PySem PyProof.Rows
end NdS
namespace Nd
open PySem PySem.Spec PyProof.Rows L2 NdS
end Nd
namespace DL
open PySem L2 Nd
def qI(x:Int):List Int->List Int
 | []=>[x]
 | y::l=>if x<y then x::y::l else if x=y then y::l else y::qI x l
def Mv(ns:List Int):List Int:=ns.foldr qI []
theorem qV:∀{l:List Int},z∈qI x l↔z=x\/z∈l
 | []=>by simp [qI]
 | y::l=>by
  unfold qI
  split
  ·simp
  ·split
   ·rename_i b a
    subst a
    simp
   ·simp only[Al,qV (l:=l)]
    constructor
    ·rintro (h | h | h) <;> simp [h]
    ·rintro (h | h | h) <;> simp [h]
theorem jY:∀{l:List Int},l.Pairwise (· < ·)->(qI x l).Pairwise (· < ·)
 | [],_=>Em _ _
 | y::l,h=>by
  obtain ⟨a,c⟩:=Ay.mp h
  unfold qI
  split
  ·rename_i b
   refine Ay.mpr ⟨λz hz=>?_,h⟩
   rcases Al.mp hz with rfl | hz
   ·exact b
   ·exact Int.lt_trans b (a z hz)
  ·split
   ·exact h
   ·refine Ay.mpr ⟨λz hz=>?_,jY c⟩
    rcases qV.mp hz with rfl | hz
    ·omega
    ·exact a z hz
theorem Ti:∀ns:List Int,(Mv ns).Pairwise (· < ·)
 | []=>Ds
 | n::ns=>jY (Ti ns)
theorem hZ:∀{ns:List Int},x∈Mv ns↔x∈ns
 | []=>Iff.rfl
 | n::ns=>by
  rw[show Mv (n::ns)=qI n (Mv ns) from rfl,qV,hZ (ns:=ns),Al]
theorem mP(h:l.Pairwise (· < ·))(m:∀x,x∈l↔x∈ns):l=Mv ns:=kA h (Ti ns) λx=>(m x).trans hZ.symm
theorem BC(h:l.Pairwise (· < ·)):Mv l=l:=(mP h λ_=>Iff.rfl).symm
theorem fK:∀{l m:List Int},l.Perm m->l.Pairwise (·<=·)->m.Pairwise (·<=·)->l=m
 | [],m,p,_,_=>(List.nil_perm.mp p).symm
 | a::l,[],p,_,_=>(List.perm_nil.mp p)
 | a::l,b::m,p,h1,h2=>by
  obtain ⟨f,g⟩:=Ay.mp h1
  obtain ⟨c,d⟩:=Ay.mp h2
  have e:a=b:=by
   rcases Al.mp (p.mem_iff.mp Ab) with z | z
   ·exact z
   ·rcases Al.mp (p.mem_iff.mpr Ab) with y | y
    ·exact y.symm
    ·have:=c a z; have:=f b y; omega
  subst e
  rw[fK (List.perm_cons _ |>.mp p) g d]
def x8(x:Int):List Int->List Int
 | []=>[x]
 | y::l=>if x<=y then x::y::l else y::x8 x l
def gE(ns:List Int):List Int:=ns.foldr x8 []
theorem r9:∀{l:List Int},(x8 x l).Perm (x::l)
 | []=>Hj _
 | y::l=>by
  unfold x8
  split
  ·exact Hj _
  ·exact ((r9 (l:=l)).cons y).trans (Ef _ _ _)
theorem Ym:∀ns:List Int,(gE ns).Perm ns
 | []=>Hj _
 | n::ns=>r9.trans ((Ym ns).cons n)
theorem yQ:∀{l:List Int},l.Pairwise (·<=·)->(x8 x l).Pairwise (·<=·)
 | [],_=>Em _ _
 | y::l,h=>by
  obtain ⟨a,c⟩:=Ay.mp h
  unfold x8
  split
  ·rename_i b
   refine Ay.mpr ⟨λz hz=>?_,h⟩
   rcases Al.mp hz with rfl | hz
   ·exact b
   ·exact Int.le_trans b (a z hz)
  ·refine Ay.mpr ⟨λz hz=>?_,yQ c⟩
   rcases Al.mp (r9.mem_iff.mp hz) with rfl | hz
   ·omega
   ·exact a z hz
theorem pF:∀ns:List Int,(gE ns).Pairwise (·<=·)
 | []=>Ds
 | n::ns=>yQ (pF ns)
theorem pV(p:l.Perm ns)(h:l.Pairwise (·<=·)):l=gE ns:=fK (p.trans (Ym ns).symm) h (pF ns)
theorem o6(ns:List Int):(gE ns).length=ns.length:=(Ym ns).length_eq
abbrev DC:=List DV->(DV->Prop)->Prop
def We(K:PySem.W.Frag)(r:List V->Hp->VK->Prop)(rd:DC):Prop:=∀(d:Hp) (X:Addr->Prop) (n:Nat) (S T a:List Ent) (c:List V) (H:Hp) (Q:VK) (P:DV->Prop),
 a.map Ent.v=c.map some->At K d X n (S++(a++T)) H->rd (a.map Ent.x) P->(∀z u e b,At K d X n (S++⟨some u,z,e⟩::T) b->P z->Q u b)->r c H Q
def NI(rd:DC)(d:DA):DE:=λb P=>d b λc a=>rd c λz=>P z a
section
variable{X:Cx}{x:Str}{p pos:Pos}{e:Expr}{es:List Expr}{a:DA}{id T:String}{r:List V->Hp->VK->Prop}{rd:DC}
theorem EC(o:We K r rd):∀f H Q,LE K (NI rd a) f H Q->PL r (LA K a) f H Q:=by
 intro f H Q h
 obtain ⟨g,Y,S,T,s,P,rfl,x,v,t,k⟩:=h
 refine ⟨g,Y,S,T,s,_,rfl,x,v,t,λD b A q i j B l m w c p=>?_⟩
 subst m
 exact o g Y b.n i T A q j Q _ w c p λz u y d e C=>k z b u y i d B l e C
theorem Ju(d:Nt X (.builtin id) r)(o:We X.K r rd)(k:Gl X x)(f:X.mg x=none)(j:Pl x=some (.builtin id))(h:lN X (e::es) a)(i:x ≠ "__name__" := by decide)(b:(x == ("__debug__" : Str))=false:=by decide)(g:Bo (e::es) X.env=(false,eval e X.env)::Bo es X.env:=by rfl)(c:(Hm pos (Bo es X.env)).any (·.1)=false:=by rfl):Fw X (.Call (.Name x p) (e::es) [] pos) (NI rd a) :=
 PE.imp (fV d k f j h i b g c) (EC o)
theorem Kn(d:Nt X (.type T) r)(o:We X.K r rd)(k:Gl X x)(f:X.mg x=none)(j:Pl x=some (.type T))(h:lN X (e::es) a)(i:x ≠ "__name__" := by decide)(b:(x == ("__debug__" : Str))=false:=by decide)(g:Bo (e::es) X.env=(false,eval e X.env)::Bo es X.env:=by rfl)(c:(Hm pos (Bo es X.env)).any (·.1)=false:=by rfl):Fw X (.Call (.Name x p) (e::es) [] pos) (NI rd a) :=
 PE.imp (Oa d k f j h i b g c) (EC o)
end
theorem HR{c b:Type}{f:c->b}{l:List c}{x:b}(h:l.map f=[x]):∃a,l=[a]/\f a=x:=by
 cases l with
 | nil=>cases h
 | cons a t =>
  obtain ⟨d,e⟩:=Ec h
  exact ⟨a,by rw[aN.mp e],d⟩
theorem JG{c d:Type}{f:c->d}{l:List c}{x y:d}(h:l.map f=[x,y]):∃a b,l=[a,b]/\f a=x/\f b=y:=by
 cases l with
 | nil=>cases h
 | cons a t =>
  obtain ⟨e,i⟩:=Ec h
  obtain ⟨b,rfl,g⟩:=HR i
  exact ⟨a,b,rfl,e,g⟩
theorem Js(f:As.map Ent.v=us.map some)(d:At K c X n (S++(As++T)) H)(ex:As.map Ent.x=[x]):∃v F,us=[v]/\At K c X n (S++⟨some v,x,F⟩::T) H:=by
 obtain ⟨⟨v,y,F⟩,rfl,e⟩:=HR ex
 obtain ⟨u,rfl,g⟩:=HR f.symm
 have b:y=x:=e
 have a:some u=v:=g
 subst b a
 exact ⟨u,F,rfl,d⟩
theorem fB(m:As.map Ent.v=us.map some)(i:At K f X n (S++(As++T)) H)(ex:As.map Ent.x=[x,y]):∃v F w G,us=[v,w]/\At K f X n (S++⟨some v,x,F⟩::⟨some w,y,G⟩::T) H:=by
 obtain ⟨⟨v,h,F⟩,⟨w,l,G⟩,rfl,j,o⟩:=JG ex
 obtain ⟨u,e,rfl,k,g⟩:=JG m.symm
 have d:h=x:=j
 have b:l=y:=o
 have a:some u=v:=k
 have c:some e=w:=g
 subst d b a c
 exact ⟨u,F,e,G,rfl,i⟩
def yI:DC:=λa P=>match a with
 | [.dat _ (.list ds)]=>P (.dat .ow (.int ds.length))
 | [.dat _ (.tuple ds)]=>P (.dat .ow (.int ds.length))
 | [.dat _ (.str z)]=>z.length<=1000000/\P (.dat .ow (.int z.length))
 | _=>False
def OP(i:Bool):DC:=λa P=>match a with
 | [.dat m (.list ds)]=>Wa i m ds P
 | [.dat m (.tuple ds)]=>Wa i m ds P
 | _=>False
def oO(i:Bool):DC:=λa P=>match a with
 | [.dat m (.list ds)]=>mR i m ds P
 | [.dat m (.tuple ds)]=>P (.dat m (.tuple ds))
 | _=>False
def T3:DC:=λa P=>match a with
 | [.dat _ (.int i)]=>P (.dat .ow (.int i))
 | [.dat _ (.bool b)]=>P (.dat .ow (.int (if b=true then 1 else 0)))
 | _=>False
def NN:DC:=λb P=>match b with
 | [.dat _ (.list ds)]=>∃a:List Int,ds=a.map Az/\a≠[]/\∀M∈a,(∀x∈a,M<=x)->P (.dat .ow (.int M))
 | _=>False
def tY:DC:=λb P=>match b with
 | [.dat _ (.list ds)]=>∃a:List Int,ds=a.map Az/\a≠[]/\∀M∈a,(∀x∈a,x<=M)->P (.dat .ow (.int M))
 | _=>False
def NY:Af->String
 | .none => "NoneType"
 | .bool _ => "bool"
 | .int _ => "int"
 | .str _ => "str"
 | .list _ => "list"
 | .tuple _ => "tuple"
 | .dict _ => "dict"
def M3:DC:=λa P=>match a with
 | [.dat _ d]=>(∃b,b<=400/\Nc b d/\(b+12) * Kv d<=Au)/\d.depth<=90/\P (.dat .ow (.str (fI d)))
 | _=>False
section
variable{K:PySem.W.Frag}
theorem Yq:We K (λxs H Q=>∃x n,xs=[x]/\JU K x H n/\Q (.int n) H) yI:=by
 intro j X n S T h i H Q P f b c k
 unfold yI at c
 split at c
 ·rename_i d
  obtain ⟨v,F,rfl,b⟩:=Js f b d
  obtain ⟨a,xs,G,rfl,e,g,_,_⟩:=(b.told mem_mid).list_inv
  exact ⟨_,_,rfl,.inl ⟨xs,Nm.of e,g.len.symm⟩,k _ _ [] H (b.drop.pushI (.int _)) c⟩
 ·rename_i d
  obtain ⟨v,F,rfl,b⟩:=Js f b d
  obtain ⟨a,xs,rfl,e,g,_⟩:=(b.told mem_mid).tup_inv
  exact ⟨_,_,rfl,.inr ⟨xs,Wt.of e,g.len.symm⟩,k _ _ [] H (b.drop.pushI (.int _)) c⟩
 ·rename_i d
  obtain ⟨v,F,rfl,b⟩:=Js f b d
  obtain ⟨rfl,_⟩:=(b.told mem_mid).str_inv
  exact ⟨_,_,rfl,⟨iQ c.1,rfl⟩,k _ _ [] H (b.drop.pushI (.int _)) c.2⟩
 ·exact c.elim
theorem Wc:We K (EM K) (oO i):=by
 intro t X n S T r s H Q P g b c k
 unfold oO at c
 split at c
 ·rename_i d
  obtain ⟨v,F,rfl,b⟩:=Js g b d
  obtain ⟨a,f,G,rfl,e,j,rfl,h⟩:=(b.told mem_mid).list_inv
  refine ⟨a,f,rfl,.inl ⟨Nm.of e,λl m=>?_⟩⟩
  obtain ⟨z,q,o,p⟩:=b.newT j (Di _ _) h m c
  exact k _ _ _ _ o p
 ·rename_i d
  obtain ⟨v,F,rfl,b⟩:=Js g b d
  obtain ⟨a,f,rfl,e,j,h⟩:=(b.told mem_mid).tup_inv
  exact ⟨a,f,rfl,.inr ⟨Wt.of e,k _ _ F H b c⟩⟩
 ·exact c.elim
theorem HQ:We K (λxs H Q=>(∃i,xs=[V.int i]/\Q (.int i) H)\/∃k,xs=[V.bl k]/\Q (.int (if k then 1 else 0)) H) T3:=by
 intro g X n S T e f H Q P d a b k
 unfold T3 at b
 split at b
 ·rename_i c
  obtain ⟨v,F,rfl,a⟩:=Js d a c
  obtain ⟨rfl,_⟩:=(a.told mem_mid).int_inv
  exact .inl ⟨_,rfl,k _ _ [] H (a.drop.pushI (.int _)) b⟩
 ·rename_i c
  obtain ⟨v,F,rfl,a⟩:=Js d a c
  obtain ⟨rfl,_⟩:=(a.told mem_mid).bl_inv
  exact .inr ⟨_,rfl,k _ _ [] H (a.drop.pushI (.int _)) b⟩
 ·exact b.elim
theorem X1:We K (DQ K) tY:=by
 intro r X n S T o q H Q P i b c k
 unfold tY at c
 split at c
 ·rename_i e
  obtain ⟨v,F,rfl,b⟩:=Js i b e
  obtain ⟨l,rfl,j,f⟩:=c
  obtain ⟨a,s,G,rfl,g,m,rfl,p⟩:=(b.told mem_mid).list_inv
  obtain ⟨rfl,_⟩:=m.ints_inv
  exact ⟨a,l,rfl,Nm.of g,j,λM h d=>k _ _ [] H (b.drop.pushI (.int _)) (f M h d)⟩
 ·exact c.elim
theorem nH:We K (KY K) M3:=by
 intro g X n S T e f H Q P d b a k
 unfold M3 at a
 split at a
 ·rename_i c
  obtain ⟨v,F,rfl,b⟩:=Js d b c
  exact ⟨_,_,rfl,⟨(b.told mem_mid).rd a.2.1,a.1,a.2.1⟩,k _ _ [] H (b.drop.pushI (.str _)) a.2.2⟩
 ·exact a.elim
end
def dV(v:V):DE:=λa P=>P (.val v) a
theorem qM(h:∀x∈ns,0<=x/\x<60):(Mv ns).length<=60 :=
 Ca (NdS.len_leI ((Ti ns).imp λ{x y} h=>eQ h) λe a=>Zr (h e (hZ.mp a)).1 (h e (hZ.mp a)).2) (by decide)
end DL
namespace Nd
open PySem PySem.Spec PyProof.Rows L2
def NV(K:PySem.W.Frag)(a b:Addr):It :=
  ⟨λi H=>∃d c x y,Nm K H a d/\Nm K H b c/\d[i]? = some x/\c[i]? = some y,
   λi H x e=>∃p u v,x=.ref p/\H p=none/\e=upd H p (.tup [u,v])/\(∀d,Nm K H a d->d[i]? = some u)/\∀c,Nm K H b c->c[i]? = some v,
   λi H=>∃d c,Nm K H a d/\Nm K H b c/\(d.length<=i\/c.length<=i)⟩
theorem L1{K:PySem.W.Frag}(a b z TI TO l j:Addr)(D:Rz z TI TO l j a b):Turn P w K (.Tuple Q k pos) (NV K a b) [z,TI,TO,l,j] z (λi h=>IsZip h z TI TO .none/\Gh h TI (.ref l) (.ref j)/\(∃u v,Gh h TO u v)/\h.IsListIter l a i/\h.IsListIter j b i) where
 mem:=Ab
 obj:=λi h st c d=>by
  obtain ⟨A,e,⟨u,v,f⟩,⟨o1,e1,c1,d1⟩,⟨o2,e2,c2,d2⟩⟩:=st
  simp only[Al,Ba,or_false] at d
  rcases d with rfl | rfl | rfl | rfl | rfl
  ·exact ⟨_,A,λv z=>by cases z⟩
  ·exact ⟨_,e,λv z=>by cases z⟩
  ·exact ⟨_,f,λv z=>by cases z⟩
  ·exact ⟨o1,e1,λv z=>by rw[d1] at z; cases z⟩
  ·exact ⟨o2,e2,λv z=>by rw[d2] at z; cases z⟩
 keep:=λi h h' st kp=>by
  obtain ⟨A,e,⟨u,v,f⟩,L,T⟩:=st
  exact ⟨kp z (by simp) _ A,kp TI (by simp) _ e,⟨u,v,kp TO (by simp) _ f⟩,L.at λo q=>kp l (by simp) o q,T.at λo q=>kp j (by simp) o q⟩
 item:=by
  intro X hP hw hK d i t s σ H E I U st hg
  subst hP hw hK
  obtain ⟨xs,ys,x,y,p,n,R,hy⟩:=hg
  obtain ⟨O,G,p1,h0⟩:=I.list p
  obtain ⟨M,B,p2,h6⟩:=I.list n
  obtain ⟨F,Z,h5⟩:=G.get R
  obtain ⟨C,h3,V⟩:=B.get hy
  obtain ⟨A,e,⟨o1,o2,f⟩,r,m⟩:=st
  have zl:z<s.heap.objs.size:=Ax A
  have h8:TI<s.heap.objs.size:=Ax e
  have k2:TO<s.heap.objs.size:=Ax f
  have h7:l<s.heap.objs.size:=by obtain ⟨_,q,_⟩:=r; exact Ax q
  have k1:j<s.heap.objs.size:=by obtain ⟨_,q,_⟩:=m; exact Ax q
  refine wpAny_pyNext_zip_item D A e f r m p1.isList p2.isList (x:=F) (y:=C) (by simpa using Z) (by simpa using h3) λL a1 a2 a3 a4 a5 a6 S=>⟨_,rfl,A3 a1 λT h4 Y=>?_⟩
  have g:Cw z L T:=Y
  have I1:Inv X t σ (upd H s.heap.objs.size (.tup [x,y])) { s with heap:=s.heap.push { cls:=.type "tuple",data:=.seq #[F,C] } } :=
   I.laid (t':=s.toks) (λb o q=>Ai _ q) (Ak _) ⟨by show 2<=Au; decide,[F,C],.cons h5 (.cons V .nil),_,Ap _ rfl,rfl,0,rfl⟩
  have nT:∀c∈[z,TI,TO,l,j],c≠s.heap.objs.size:=λc d=>by
   simp only[Al,Ba,or_false] at d
   rcases d with rfl | rfl | rfl | rfl | rfl <;> exact By (by assumption)
  have fr:∀c∈[z,TI,TO,l,j],(upd H s.heap.objs.size (.tup [x,y])) c=none:=λc d=>by rw[Dr (nT c d)]; exact (U c d).1
  refine ⟨.ref s.heap.objs.size,_,Pu (fp:=[z,TI,TO,l,j]) (s:={ s with heap:=s.heap.push { cls:=.type "tuple",data:=.seq #[F,C] } }) (h':=T) (t':=s.toks) I1 (λc o d q=>?_) (λc d=>⟨fr c d,(U c d).2⟩),rfl,⟨_,x,y,rfl,I.hok.fresh (Ak _),rfl,(λzs J=>by rw[I.list_inj J p]; exact R),λzs J=>by rw[I.list_inj J n]; exact hy⟩,⟨h4,?_,⟨F,C,?_⟩,?_,?_⟩,fr⟩
  ·simp only[Al,Ba,or_false,not_or] at d
   refine (g.2 c d.1).trans ?_
   by_cases N:c=s.heap.objs.size
   ·subst N
    have q':=(Ap s.heap (o:={ cls:=.type "tuple",data:=.seq #[F,C] }) rfl).symm.trans q
    rw[show L.get? s.heap.objs.size=_ from a5]
    exact q'
   ·refine S c o d.1 d.2.2.1 d.2.2.2.1 d.2.2.2.2 ?_
    have q0:(s.heap.push { cls:=.type "tuple",data:=.seq #[F,C] }).get? c=some o:=q
    rcases Ys q0 with zz | zz
    ·exact absurd zz.1 N
    ·exact zz
  ·exact (g.2 TI D.TIz).trans (S TI _ D.TIz D.TITO D.TIi1 D.TIi2 e)
  ·exact (g.2 TO D.TOz).trans a2
  ·exact a3.at λo q=>(g.2 l D.i1z).trans q
  ·exact a4.at λo q=>(g.2 j D.i2z).trans q
 done:=by
  intro X hP hw hK d i t s σ H E I U st hg
  subst hP hw hK
  obtain ⟨xs,ys,p,n,R⟩:=hg
  obtain ⟨O,G,p1,h0⟩:=I.list p
  obtain ⟨M,B,p2,h6⟩:=I.list n
  obtain ⟨A,e,⟨o1,o2,f⟩,r,m⟩:=st
  have h9:=G.length
  have k0:=B.length
  refine wpAny_pyNext_zip_end (I.ok.hd d) D A e f r m p1.isList p2.isList ?_ λL S=>⟨rfl,Pu (fp:=[z,TI,TO,l,j]) (t':=s.toks) I (λc o d q=>?_) U⟩
  ·rcases R with h | h
   ·exact .inl (by simp; omega)
   ·exact .inr (by simp; omega)
  ·simp only[Al,Ba,or_false,not_or] at d
   exact S c o d.1 d.2.2.1 d.2.2.2.1 d.2.2.2.2 q
 self:=λ_ _ _ _ _ st h=>Rh st.1 h
theorem jS(I l1 l2:Nat)(h1:l1<I)(a:l2<I):Rz (I+4) (I+2) (I+3) I (I+1) l1 l2:=by
 constructor <;> (intro e; have b:(_:Nat)=_:=e; omega)
section
variable{X:Cx}
def OU(K:PySem.W.Frag)(g:TA):TI:=λe H R=>g e H λvs c=>∃a b,vs=[.ref a,.ref b]/\(∃f,Nm K c a f)/\(∃d,Nm K c b d)/\R (NV K a b) c
theorem HJ{r:List Expr}{k:Nat}{tp:Pos}{p pos:Pos}(hg:Gl X "zip")(W:X.mg "zip" = none)(Z:PA X [a,b] G)(hs:Bo [a,b] X.env=(false,eval a X.env)::Bo [b] X.env:=by rfl)(T:(Hm pos (Bo [b] X.env)).any (·.1)=false:=by rfl):PI X (.Tuple r k tp) (.Call (.Name "zip" p) [a,b] [] pos) (OU X.K G):=by
 intro f s σ H R I h
 refine Call_ (Tw I hg W (u:=.type "zip") (by decide +kernel) (Fc (Gj (Z pos f s σ H _ I h) λus g ⟨vs,y,m,P,S⟩=>?_) hs T))
 obtain ⟨L,M,e,⟨xs,B⟩,⟨ys,A⟩,q⟩:=S
 subst e
 obtain ⟨u1,u2,rfl,C,v⟩:=vals2 P
 cases C
 cases v
 obtain ⟨N,h0,i,U⟩:=m.list B
 obtain ⟨E,O,j,h1⟩:=m.list A
 have l:L<g.heap.objs.size:=let ⟨o,q,_⟩:=i.isList; Ax q
 have t:M<g.heap.objs.size:=let ⟨o,q,_⟩:=j.isList; Ax q
 refine call_zip_2 i.isList j.isList λh2 J w x D z Y V=>Rh J ?_
 have d:∀n,Mu X f y (g.heap.objs.size+n):=λn=>m.fpOk (Ki _ _) (m.hok.fresh (Ki _ _))
 have Q:∀c∈[g.heap.objs.size+4,g.heap.objs.size+2,g.heap.objs.size+3,g.heap.objs.size,g.heap.objs.size+1],Mu X f y c:=λc F=>by
  simp only[Al,Ba,or_false] at F
  rcases F with rfl | rfl | rfl | rfl | rfl
  ·exact d 4
  ·exact d 2
  ·exact d 3
  ·exact d 0
  ·exact d 1
 exact ⟨g.heap.objs.size+4,_,_,_,y,rfl,m.kept (t':=g.toks) V,L1 L M _ _ _ _ _ (jS _ _ _ l t),⟨J,w,⟨_,_,x⟩,D,z⟩,Q,q⟩
end
end Nd
namespace Nd
open PySem PySem.Spec PyProof.Rows L2
open AutoSeq1 (wpAny_loadPart')
end Nd
namespace DL
open PySem L2 Nd
def dB(c:DE):DT:=λd P=>c d λx a=>match x with
 | .dat _ (.bool b)=>P b a
 | _=>False
def DY(dt:DT):DT:=λc P=>dt c λb a=>P (!b) a
def CO(dt d:DT):DT:=λc P=>dt c λb a=>match b with
 | true=>d a P
 | false=>P false a
def JL(dt d:DT):DT:=λc P=>dt c λb a=>match b with
 | true=>P true a
 | false=>d a P
def MH(d c:DE):DE:=λb P=>d b λx a=>match x with
 | .dat _ (.bool true)=>c a P
 | .dat _ (.bool false)=>P (.dat .ow (.bool false)) a
 | _=>False
def LC(dt:DT)(e d:DE):DE:=λc P=>dt c λb a=>match b with
 | true=>e a P
 | false=>d a P
def MS(b:DE):DE:=λc P=>b c λx a=>match x with
 | .dat _ (.int i)=>P (.dat .ow (.int (-i))) a
 | _=>False
section
variable{K:PySem.W.Frag}{a:DE}
theorem IY:∀d H Q,LT K (dB a) d H Q->LE K a d H λx i=>∃k,x=.bl k/\Q k i:=by
 intro d H Q h
 obtain ⟨o,Y,S,T,n,P,rfl,m,g,q,k⟩:=h
 refine ⟨o,Y,S,T,n,_,rfl,m,g,q,λx c v F l p j f b e=>?_⟩
 split at e
 ·obtain ⟨rfl,_⟩:=(b.told mem_mid).bl_inv
  exact ⟨_,rfl,k _ c l p j f b.drop e⟩
 ·exact e.elim
end
section
variable{X:Cx}{a b c e:Expr}{d f i:DE}{dt g:DT}{pos:Pos}{Iy:List Expr}
theorem uW(h:Fw X e i)(b:∀a,isTrue e X.env a=(do let v <- a; dM e.pos; Rn [v] (truthy v)):=by intro _; rfl):sG X e (dB i):=PT.imp (T4 h b) IY
theorem gK(e:aQ X (Jy op) r)(o:sZ X.K r rd)(g:Fw X a d)(hb:Fw X b f)(c:Hf op b=false):sG X (.Compare a [op] [b] pos) (dB (dI rd d f)):=by
 refine PT.imp (lM e g hb c) λi H Q h=>?_
 exact pN o _ _ _ (IY i H Q h)
theorem CV(c:Fw X a d)(hb:Fw X b f):sG X (.Compare a [.Lt] [b] pos) (dB (dI rdLt d f)):=gK CZ (xB λ_ _ _=>.bl _) c hb (Yn _)
theorem yJ(e:X.A.units+64<cLine)(c:Fw X a d)(hb:Fw X b f):sG X (.Compare a [.Eq] [b] pos) (dB (dI (nK false) d f)):=gK (O6 e) ED c hb (Yn _)
theorem cN(e:X.A.units+64<cLine)(c:Fw X a d)(hb:Fw X b f):sG X (.Compare a [.NotEq] [b] pos) (dB (dI (nK true) d f)):=gK (ES e) MU c hb (Yn _)
theorem EA(g:X.A.units+64<cLine)(c:Fw X a d)(hb:Fw X b f)(e:Hf .In b=false:=by with_unfolding_all rfl):sG X (.Compare a [.In] [b] pos) (dB (dI (vF false) d f)):=gK (Q7 g) K1 c hb e
theorem eS(g:X.A.units+64<cLine)(c:Fw X a d)(hb:Fw X b f)(e:Hf .NotIn b=false:=by with_unfolding_all rfl):sG X (.Compare a [.NotIn] [b] pos) (dB (dI (vF true) d f)):=gK (b0 g) K1 c hb e
theorem GM(h:sG X a dt):sG X (.UnaryOp .Not a pos) (DY dt):=by
 refine PT.imp (FP h) λq H Q h=>?_
 obtain ⟨n,Y,S,T,i,P,rfl,l,g,o,k⟩:=h
 exact ⟨n,Y,S,T,i,_,rfl,l,g,o,λb d f m j e c p=>k _ d f m j e c p⟩
theorem oP(h:sG X a dt):IA X (.BoolOp .And [a] pos) dt:=BV h
theorem FA(h:sG X a dt):IA X (.BoolOp .Or [a] pos) dt:=II h
theorem tV(h:sG X a dt)(hb:IA X (.BoolOp .And (b::Iy) pos) g):IA X (.BoolOp .And (a::b::Iy) pos) (CO dt g):=by
 refine PW.imp (GU h hb) λr H Q h=>?_
 obtain ⟨j,Y,S,T,o,P,rfl,n,l,q,k⟩:=h
 refine ⟨j,Y,S,T,o,_,rfl,n,l,q,λb d f m i e c p=>?_⟩
 cases b with
 | true=>exact uA ⟨j,Y,f,T,d,P,i,e,c,p,k⟩
 | false=>exact vR (k _ d f m i e c p)
theorem LB(h:sG X a dt)(hb:IA X (.BoolOp .Or (b::Iy) pos) g):IA X (.BoolOp .Or (a::b::Iy) pos) (JL dt g):=by
 refine PW.imp (LV h hb) λr H Q h=>?_
 obtain ⟨j,Y,S,T,o,P,rfl,n,l,q,k⟩:=h
 refine ⟨j,Y,S,T,o,_,rfl,n,l,q,λb d f m i e c p=>?_⟩
 cases b with
 | true=>exact uA (k _ d f m i e c p)
 | false=>exact vR ⟨j,Y,f,T,d,P,i,e,c,p,k⟩
theorem X2(h:IA X a dt):sG X a dt:=PW.pt h
theorem M9(h:Fw X a d):Fw X (.BoolOp op [a] pos) d:=HB h
theorem vU(h:Fw X a d)(hb:Fw X (.BoolOp .And (b::Iy) pos) f):Fw X (.BoolOp .And (a::b::Iy) pos) (MH d f):=by
 refine PE.imp (GA h hb) λs H Q h=>?_
 obtain ⟨m,Y,S,T,p,P,rfl,o,n,r,k⟩:=h
 refine ⟨m,Y,S,T,p,_,rfl,o,n,r,λx e v F l q j i c g=>?_⟩
 split at g
 ·obtain ⟨rfl,_⟩:=(c.told mem_mid).bl_inv
  exact ⟨_,rfl,uA ⟨m,Y,l,T,e,P,j,i,c.drop,g,k⟩⟩
 ·obtain ⟨rfl,_⟩:=(c.told mem_mid).bl_inv
  exact ⟨_,rfl,vR (k _ e _ [] l q j i (c.drop.pushI (.bl _)) g)⟩
 ·exact g.elim
theorem C4(h:Fw X a d):Fw X (.UnaryOp .USub a pos) (MS d):=by
 refine PE.imp (JH FV h) λq H Q h=>?_
 obtain ⟨n,Y,S,T,m,P,rfl,l,g,p,k⟩:=h
 refine ⟨n,Y,S,T,m,_,rfl,l,g,p,λx c v F j o i f b e=>?_⟩
 split at e
 ·obtain ⟨rfl,_⟩:=(b.told mem_mid).int_inv
  exact ⟨_,rfl,k _ c _ [] j o i f (b.drop.pushI (.int _)) e⟩
 ·exact e.elim
theorem HD(n:sG X c dt)(q:Fw X a d)(hb:Fw X b f):Fw X (.IfExp c a b pos) (LC dt d f):=by
 refine PE.imp (C9 n q hb) λv H Q h=>?_
 obtain ⟨i,Y,S,T,s,P,rfl,r,o,t,k⟩:=h
 refine ⟨i,Y,S,T,s,_,rfl,r,o,t,λb g l u m j e p=>?_⟩
 cases b with
 | true=>exact uA ⟨i,Y,l,T,g,P,m,j,e,p,k⟩
 | false=>exact vR ⟨i,Y,l,T,g,P,m,j,e,p,k⟩
end
theorem PS.impD(h:PS X st t)(k:∀D a H,t' D a H->t D a H):PS X st t':=λb s a H D I q=>h b s a H D I (k D a H q)
theorem wO.impD(h:wO X st t)(k:∀D a H,t' D a H->t D a H):wO X st t':=λb s a H D I q=>h b s a H D I (k D a H q)
def DN:DB:=λD a=>D.nx a
def JK(t u:DB):DB:=λD b=>t { D with nx:=λa=>u D a } b
def LR(a:DE):DB:=λD b=>a b D.rt
def PP(dt:DT)(t u:DB):DB:=λD c=>dt c λb a=>match b with
 | true=>t D a
 | false=>u D a
def w8(b:DE)(d:DG):DB:=λD c=>b c λx a=>d x a D.nx
section
variable{X:Cx}{st:Stmt}{e f c:Expr}{t u:DB}{Iy:List Stmt}{d:DE}{i:DG}{dt:DT}{pos:Pos}
theorem Qr:dF X [] DN:=by
 refine wO.impD dS λD g H h=>?_
 obtain ⟨k,Y,S,T,d,P,rfl,c,f,b,e,a,i,j,l⟩:=h
 exact a d S H c b e
theorem Cn(h1:zS X st t)(n:dF X Iy u):dF X (st::Iy) (JK t u):=by
 refine wO.impD (Mc h1 n) λD r H h=>?_
 obtain ⟨f,Y,S,T,m,P,rfl,o,c,l,q,j,d,e,g⟩:=h
 exact ⟨f,Y,S,T,m,_,rfl,o,c,l,q,λb k s i a p=>⟨f,Y,k,T,b,P,rfl,i,c,a,p,j,d,e,g⟩,d,e,g⟩
theorem Ej(h1:zS X st t):dF X [st] t:=Rq h1
theorem Ii(i:Fw X e d):zS X (.Return (some e) pos) (LR d):=by
 refine PS.impD (cD i) λD s H h=>?_
 obtain ⟨n,Y,S,T,m,P,rfl,l,q,g,o,r,k,u,w⟩:=h
 exact ⟨n,Y,S,T,m,_,rfl,l,g,o,λx b v F f j t c a p=>k x b v F f j c a p⟩
theorem Vz(q:sG X c dt)(w:dF X a t)(hb:dF X b u):zS X (.If c a b pos) (PP dt t u):=by
 refine PS.impD (xE q w hb) λD z H h=>?_
 obtain ⟨f,Y,S,T,r,P,rfl,x,g,v,s,i,l,j,o⟩:=h
 refine ⟨f,Y,S,T,r,_,rfl,x,v,s,λb e m y n k d p=>?_⟩
 cases b with
 | true=>exact uA ⟨f,Y,m,T,e,P,n,k,g,d,p,i,l,j,o⟩
 | false=>exact vR ⟨f,Y,m,T,e,P,n,k,g,d,p,i,l,j,o⟩
theorem lW(h1:∀a H Q,LE K d a H Q->k a H Q)(w:∀v a H Q,LG K i v a H Q->g v a H Q):∀D a H,LS K (w8 d i) D a H->AS k g D a H:=by
 intro D a H h
 obtain ⟨j,Y,S,T,r,P,rfl,y,B,u,s,l,G,C,I⟩:=h
 refine h1 _ _ _ ⟨j,Y,S,T,r,_,rfl,y,u,s,λx f v F z E A n b p=>?_⟩
 exact w _ _ _ _ ⟨j,Y,z,T,f,x,F,P.nx,A,n,b,p,λe t o m c q=>l e t o m c q⟩
theorem N8(a:Fw X e d)(c:IP X f i)(b:swapsWithSole [f] e pos.line X.env=pure false:=by rfl)(hw:swappedStores [f] e X.env=pure none:=by rfl)(h1:(Gg [f] X.env).map (·.2)=[Pm f X.env]:=by rfl):zS X (.Assign [f] e pos) (w8 d i):=PS.impD (tX a c b hw h1) (lW (λ_ _ _ h=>h) λ_ _ _ _ h=>h)
end
def Uk(i:Nat):DG:=λx a P=>match x with
 | .dat .pk _=>False
 | .dat _ d=>P ⟨a.sl.set i (.dat .sh d),a.n⟩
 | .val v=>P ⟨a.sl.set i (.val v),a.n⟩
 | .drw=>P ⟨a.sl.set i .drw,a.n⟩
 | .dT b=>P ⟨a.sl.set i (.dT b),a.n⟩
 | _=>False
def qK(i:Nat):DG:=λx a P=>match x with
 | .dat .ow d=>P ⟨a.sl.set i (.dat .ow d),a.n⟩
 | .dat .tp d=>P ⟨a.sl.set i (.dat .tp d),a.n⟩
 | _=>False
theorem At.store(h:At K a X n (S++e::T) H):At K a X n (S.set i e++T) H:=by
 by_cases c:i<S.length
 ·have b:S[i]? = some S[i]:=by simp [c]
  have p:(S++e::T).Perm (S[i]::(S.set i e++T)):=by
   refine El.trans ?_
   rw[<- Fq,<- Fq]
   exact (fO b).append_right T
  exact (h.perm p).sub (Di _ _)
 ·rw[List.set_eq_of_length_le (by omega)]
  exact h.drop
theorem R6:vs (S.set i ⟨some v,x,F⟩)=(vs S).set i (some v):=by
 unfold vs
 rw[Ks]
theorem C1(h:Sl S a):Sl (S.set i ⟨some v,x,F⟩) ⟨a.sl.set i x,n⟩:=by
 unfold Sl at h ⊢
 rw[Ks,h]
theorem nA:∀v f H Q,LG K (Uk i) v f H Q->Uu i v f H Q:=by
 intro v f H Q h
 obtain ⟨o,Y,S,T,g,x,F,P,rfl,l,c,b,k⟩:=h
 show Q ((vs S).set i (some v)) H
 have a:∀y,At K o Y g.n (S++⟨some v,y,F⟩::T) H->P ⟨g.sl.set i y,g.n⟩->Q ((vs S).set i (some v)) H:=λy e p=>by
  rw[<- R6 (x:=y) (F:=F)]
  exact k _ _ H (C1 l) e.store p
 unfold Uk at b
 split at b
 ·exact b.elim
 ·rename_i m d j
  refine a _ ?_ b
  refine (c.mid.wk ?_).tomid
  cases m <;> first | rfl | exact (j rfl).elim
 ·exact a _ c b
 ·exact a _ c b
 ·exact a _ c b
 ·exact b.elim
theorem M5:∀v d H Q,LG K (qK i) v d H Q->Uu i v d H Q:=by
 intro v d H Q h
 obtain ⟨j,Y,S,T,e,x,F,P,rfl,g,f,b,k⟩:=h
 show Q ((vs S).set i (some v)) H
 have a:∀y,At K j Y e.n (S++⟨some v,y,F⟩::T) H->P ⟨e.sl.set i y,e.n⟩->Q ((vs S).set i (some v)) H:=λy c p=>by
  rw[<- R6 (x:=y) (F:=F)]
  exact k _ _ H (C1 g) c.store p
 unfold qK at b
 split at b
 ·exact a _ f b
 ·exact a _ f b
 ·exact b.elim
section
variable{X:Cx}{pos:Pos}
theorem Hz(b:X.N.Nodup)(d:X.N[i]? = some x)(c:Loc X.env.scope x)(a:X.fn x=true\/X.env.scope.names.lookup x=some .local:=by first | exact .inl rfl | exact .inr rfl | assumption):IP X (.Name x pos) (Uk i):=PG.imp (Ni b d c a) nA
theorem Ex(j:X.N.Nodup)(f:X.N[i]? = some x)(k:Loc X.env.scope x)(d:Fw X e b)(c:Oy e (some (.Name x a)) pos.line X.env=pure false:=by rfl)(g:X.fn x=true\/X.env.scope.names.lookup x=some .local:=by first | exact .inl rfl | exact .inr rfl | assumption):zS X (.Assign [.Name x a] e pos) (w8 b (Uk i)):=PS.impD (cC j f k d c g) (lW (λ_ _ _ h=>h) nA)
theorem Xa(j:X.N.Nodup)(f:X.N[i]? = some x)(k:Loc X.env.scope x)(d:Fw X e b)(c:Oy e (some (.Name x a)) pos.line X.env=pure false:=by rfl)(g:X.fn x=true\/X.env.scope.names.lookup x=some .local:=by first | exact .inl rfl | exact .inr rfl | assumption):zS X (.Assign [.Name x a] e pos) (w8 b (qK i)):=PS.impD (cC j f k d c g) (lW (λ_ _ _ h=>h) M5)
end
def J5:j8:=λb a P=>match b with
 | []=>P a
 | _=>False
def xM(g:DG)(b:j8):j8:=λc d P=>match c with
 | x::r=>g x d λa=>b r a P
 | []=>False
def T9(n:Nat)(a:j8):DG:=λx b P=>match x with
 | .dat m (.tuple ds)=>ds.length=n/\a (ds.map λd=>.dat (Pe m) d) b P
 | _=>False
theorem At.unpack:∀{us:List V} {ds:List Af} {F:List Addr} {E:List Ent},RdFs K H us ds F->(m=.ow->F.Nodup)->(∀f∈E,Zu ⟨none,.dat (Pe m) .none,F⟩ f)->(∀a∈cells ⟨none,.dat (Pe m) .none,F⟩,l a=none)->At K l X n E H->∃As:List Ent,As.map Ent.v=us.map some/\As.map Ent.x=ds.map (λd=>.dat (Pe m) d)/\(∀e∈As,∀a∈e.F,a∈F)/\At K l X n (As++E) H
 | _,_,_,_,.nil,_,_,_,h=>⟨[],rfl,rfl,λ_ z=>(nomatch z),h⟩
 | _,_,_,E,.cons (x:=x) (d:=d) (F:=F1) (G:=G1) a t,hn,hs,hnew,h=>by
  have j:∀{G:List Addr} {u:Option V} {g:Af},(∀b∈G,b∈F1++G1)->∀b∈cells ⟨u,.dat (Pe m) g,G⟩,b∈cells ⟨none,.dat (Pe m) .none,F1++G1⟩:=λ{G u g} i b c=>by
   cases m with
   | ow=>exact i b c
   | _=>exact nomatch c
  have sub:∀{G:List Addr} {u:Option V} {g:Af} {f:Ent},(∀b∈G,b∈F1++G1)->Zu ⟨none,.dat (Pe m) .none,F1++G1⟩ f->Zu ⟨u,.dat (Pe m) g,G⟩ f:=λ{G u g f} i q=>by
   refine ⟨λhp b c=>q.1 ?_ b (j i b c),λhp b c z=>q.2 ?_ b c (i b z)⟩
   ·rcases hp with hp | hp
    ·exact .inl hp
    ·cases hp
   ·rcases hp with hp | hp
    ·refine .inl ?_
     cases m <;> exact hp
    ·exact .inr hp
  obtain ⟨As,w,o,k,r⟩:=At.unpack (m:=m) t (λz=>(Fz.mp (hn z)).2.1) (λf hf=>sub (λb c=>Ag _ c) (hs f hf)) (λb c=>hnew b (j (λb c=>Ag _ c) b c)) h
  refine ⟨⟨some x,.dat (Pe m) d,F1⟩::As,by rw[Aq,Aq,w],by rw[Aq,Aq,o],λe he b c=>?_,?_⟩
  ·rcases Al.mp he with rfl | he
   ·exact Am _ c
   ·exact Ag _ (k e he b c)
  ·refine r.push ⟨x,rfl,a,λz=>?_,λz=>?_⟩ (λf hf=>?_) λb c=>.inl (hnew b (j (λb c=>Am _ c) b c))
   ·cases m with
    | ow=>exact (Fz.mp (hn rfl)).1
    | _=>cases z
   ·cases m <;> cases z
   ·rcases Aw.mp hf with hf | hf
    ·have p:f.x∈As.map Ent.x:=Cm.mpr ⟨f,hf,rfl⟩
     rw[o] at p
     obtain ⟨g,_,s⟩:=Cm.mp p
     refine ⟨λhp b c z=>?_,λhp b c z=>?_⟩
     ·cases m with
      | ow=>exact (Fz.mp (hn rfl)).2.2 b c b (k f hf b z) rfl
      | _=>exact nomatch c
     ·cases m with
      | ow=>exact (Fz.mp (hn rfl)).2.2 b z b (k f hf b (Fu _ _ c)) rfl
      | _ =>
       unfold cells at c
       rw[<- s] at c
       exact nomatch c
    ·exact sub (λb c=>Am _ c) (hs f hf)
section
variable{X:Cx}{pos:Pos}
theorem oE:F8 X [] J5:=by
 refine CU.imp eN λg i H Q h=>?_
 obtain ⟨j,Y,S,T,d,e,P,rfl,f,c,b,a,k⟩:=h
 match d,b,a,c with
 | [],b,a,c =>
  cases g with
  | nil=>exact ⟨rfl,k e S H f b a⟩
  | cons _ _=>cases c
 | _::_,b,a,c=>exact a.elim
theorem Qz(h1:IP X e g)(s:F8 X es n)(w:(Gg (e::es) X.env).map (·.2)=Pm e X.env::(Gg es X.env).map (·.2):=by rfl):F8 X (e::es) (xM g n):=by
 refine CU.imp (Qw h1 s w) λi B H Q h=>?_
 obtain ⟨m,Y,S,T,d,r,P,rfl,t,a,c,b,k⟩:=h
 match d,c,b,a with
 | [],c,b,a=>exact b.elim
 | ⟨v,x,F⟩::d,c,b,a =>
  cases i with
  | nil=>cases a
  | cons u i =>
   rw[Aq,Aq] at a
   obtain ⟨z,q⟩:=Ec a
   have j:v=some u:=z
   subst j
   refine ⟨u,i,rfl,m,Y,S,d++T,r,x,F,_,rfl,t,c,b,λl y A o f p=>?_⟩
   exact ⟨m,Y,y,T,d,l,P,rfl,o,q,f,p,k⟩
theorem P5{t:Nat}(y:X.calm=true)(h:F8 X es r)(K:(Gg es X.env).length=n:=by rfl)(e:(Gg es X.env).findIdx? (·.1)=none:=by rfl):IP X (.Tuple es t pos) (T9 n r):=by
 refine PG.imp (nO y h K e) λv O H Q h=>?_
 obtain ⟨u,Y,S,T,A,x,F,P,rfl,I,i,d,k⟩:=h
 unfold T9 at d
 split at d
 ·rename_i m G
  obtain ⟨a,J,rfl,C,l,N⟩:=(i.told mem_mid).tup_inv
  have g:=i.mid
  have o:=Ay.mp g.sep
  obtain ⟨w,_,_,j,_⟩:=g.ok _ Ab
  have p:∀b∈cells ⟨none,.dat (Pe m) .none,F⟩,b∈cells ⟨some (.ref a),.dat m (.tuple G),F⟩:=λb c=>by
   cases m with
   | ow=>exact c
   | _=>exact nomatch c
  obtain ⟨L,s,D,M,B⟩:=At.unpack (m:=m) (E:=S++T) l j (λf q=>by
   refine ⟨λhq b c=>(o.1 f q).1 ?_ b (p b c),λhq b c=>(o.1 f q).2 ?_ b c⟩
   ·rcases hq with hq | hq
    ·exact .inl hq
    ·cases hq
   ·rcases hq with hq | hq
    ·refine .inl ?_
     cases m <;> first | rfl | exact hq
    ·exact .inr hq) (λb c=>by
   rcases g.new _ Ab b (p b c) with z | z
   ·exact z
   ·cases z.2) i.drop
  refine ⟨a,J,rfl,Wt.of C,by rw[l.len]; exact d.1,u,Y,S,T,L,A,P,rfl,I,s,B.perm ?_,by rw[D]; exact d.2,k⟩
  rw[<- Br,<- Br]
  exact Dy.append_right T
 ·exact d.elim
end
theorem uI(h:At K d X n E H):∀{e f:Ent},e∈E->f∈E->e=f\/Zu e f:=by
 have a:∀{E:List Ent},E.Pairwise Zu->∀{e f:Ent},e∈E->f∈E->e=f\/Zu e f:=by
  intro E
  induction E with
  | nil=>intro _ e f he; cases he
  | cons g E c =>
   intro i e f he hf
   have b:=Ay.mp i
   rcases Al.mp he with he | he
   ·subst he
    rcases Al.mp hf with hf | hf
    ·exact .inl hf.symm
    ·exact .inr (b.1 f hf)
   ·rcases Al.mp hf with hf | hf
    ·rw[hf]
     exact .inr (b.1 e he).symm
    ·exact c b.2 he hf
 intro e f he hf
 exact a h.sep he hf
abbrev DI:=DS->(Md->List Af->DS->Prop)->Prop
structure IterOk(K:PySem.W.Frag)(J:It)(hid:List Ent)(m:Md)(ds:List Af):Prop where
 md:m=.sh\/m=.pk
 hd:∀e∈hid,cells e=[]
 np:m=.sh->∀e∈hid,Qg e.x=false
 go:∀H n i,(∀e∈hid,Ir K H n e)->i<ds.length->J.go i H
 yld:∀H n i x H',(∀e∈hid,Ir K H n e)->i<ds.length->J.yld i H x H'->Va H H'/\∃d F,ds[i]? = some d/\RdF K H' x d F/\∀a∈F,∃e∈hid,a∈e.F
 stop:∀H n,(∀e∈hid,Ir K H n e)->J.stop ds.length H
def LI(K:PySem.W.Frag)(i:DI):TI:=λg H R=>∃(h:Hp) (X:Addr->Prop) (S T:List Ent) (e:DS) (P:Md->List Af->DS->Prop),vs S=g/\Sl S e/\At K h X e.n (S++T) H/\i e P /\
 ∀m d a J b c f,vs c=g->Sl c a->At K h X a.n (c++(b++T)) f->IterOk K J b m d->d.length<=Au->P m d a->R J f
abbrev uT(X:Cx)(a iter:Expr)(b:DI):Prop:=PI X a iter (LI X.K b)
theorem PI.imp(h:PI X c e t)(k:∀a H Q,t' a H Q->t a H Q):PI X c e t':=λb s a H Q I q=>h b s a H Q I (k a H Q q)
def Kk:Md->Md
 | .pk=>.pk
 | _=>.sh
theorem Uq(m:Md):wk m (Kk m)=true:=by cases m <;> rfl
theorem At.item(h:At K l X n (S++(b++T)) H)(s:Va H j)(r:RdF K j v d F)(t:∀a∈F,∃e∈b,a∈e.F)(md:m=.sh\/m=.pk)(p:∀e∈b,cells e=[])(np:m=.sh->∀e∈b,Qg e.x=false):At K l X n (S++⟨some v,.dat m d,F⟩::(b++T)) j:=by
 have o:=h.grow (n':=n) s (Ak _)
 have k:∀a,a∉cells ⟨some v,.dat m d,F⟩:=λa c=>by
  rcases md with rfl | rfl <;> exact nomatch c
 refine (o.push (e:=⟨some v,.dat m d,F⟩) ⟨v,rfl,r,λz=>?_,λz=>?_⟩ (λf w=>⟨λ_ a c=>absurd c (k a),λhq a c z=>?_⟩) λa c=>absurd c (k a)).tomid
 ·rcases md with rfl | rfl <;> cases z
 ·rcases md with rfl | rfl <;> cases z
 ·obtain ⟨e,i,u⟩:=t a z
  have g:e∈S++(b++T):=Ag _ (Am _ i)
  rcases uI h g w with rfl | q
  ·rw[p e i] at c
   cases c
  ·refine q.2 ?_ a c u
   rcases hq with hq | hq
   ·refine .inl (np ?_ e i)
    rcases md with rfl | rfl
    ·rfl
    ·cases hq
   ·exact .inr hq
def QL(b:DE):DI:=λc P=>b c λx a=>match x with
 | .dat m (.list ds)=>P (Kk m) ds a
 | .dat m (.tuple ds)=>P (Kk m) ds a
 | _=>False
def pL(d:DA):DI:=λb P=>d b λc a=>match c with
 | [.dat _ (.int j)]=>-1000000<=j/\j<=1000000/\P .sh ((Bw j.toNat).map λi:Nat=>.int i) a
 | _=>False
def T5(d:DA):DI:=λb P=>d b λc a=>match c with
 | [.dat m (.list ds)]=>P (Kk m) (ds.zipIdx.map λp=>.tuple [.int p.2,p.1]) a
 | _=>False
def NL(d:DA):DI:=λb P=>d b λc a=>match c with
 | [.dat m (.tuple ds)]=>P (Kk m) (ds.zipIdx.map λp=>.tuple [.int p.2,p.1]) a
 | _=>False
def mdZip:Md->Md->Md
 | .pk,_=>.pk
 | _,.pk=>.pk
 | _,_=>.sh
def EO(d:DA):DI:=λb P=>d b λc a=>match c with
 | [.dat m (.list ds),.dat m' (.list es)]=>P (mdZip m m') ((ds.zip es).map λp=>.tuple [p.1,p.2]) a
 | _=>False
section
variable{K:PySem.W.Frag}
theorem Hh{H:Hp}{a:List Ent}(h:∀e∈a,Ir K H n e)(b:⟨some v,.dat m d,F⟩∈a):RdF K H v d F:=by
 obtain ⟨w,c,f,_⟩:=h _ b
 cases c
 exact f
theorem Vm:cells ⟨v,.dat (Kk m) d,F⟩=[]:=by cases m <;> rfl
theorem vT:∀e∈[(⟨v,.dat (Kk m) d,F⟩ : Ent)],cells e=[]:=λe a=>by
 rw[Aj.mp a]
 exact Vm
theorem R0:Kk m=.sh->∀e∈[(⟨v,.dat (Kk m) d,F⟩ : Ent)],Qg e.x=false:=λz e a=>by
 rw[Aj.mp a]
 show Qg (.dat (Kk m) d)=false
 rw[z]
 rfl
theorem mO(m:Md):Kk m=.sh\/Kk m=.pk:=by cases m <;> simp [Kk]
theorem u5:IterOk K (OZ K a) [⟨some (.ref a),.dat (Kk m) (.list ds),F⟩] (Kk m) ds where
 md:=mO m
 hd:=vT
 np:=R0
 go:=λH n i h j=>by
  obtain ⟨b,d,G,e,g,f,_,_⟩:=(Hh h Ab).list_inv
  cases e
  have s:=f.len
  exact ⟨d,d[i],Nm.of g,by simp [show i<d.length by omega]⟩
 yld:=λH n i x u h j y=>by
  obtain ⟨b,d,G,e,g,f,rfl,_⟩:=(Hh h Ab).list_inv
  cases e
  obtain ⟨rfl,y⟩:=y
  have r:=y d (Nm.of g)
  obtain ⟨t,p,k,q,o⟩:=f.get (i:=i) (e:=ds[i]) (by simp [j])
  rw[r] at k
  cases k
  exact ⟨Va.refl _,ds[i],p,by simp [j],q,λc l=>⟨_,Ab,Ac _ (o.subset l)⟩⟩
 stop:=λH n h=>by
  obtain ⟨b,d,G,e,g,f,_,_⟩:=(Hh h Ab).list_inv
  cases e
  exact ⟨d,Nm.of g,by rw[f.len]; exact Ak _⟩
theorem F4:IterOk K (PJ K a) [⟨some (.ref a),.dat (Kk m) (.tuple ds),F⟩] (Kk m) ds where
 md:=mO m
 hd:=vT
 np:=R0
 go:=λH n i h j=>by
  obtain ⟨b,d,e,g,f,_⟩:=(Hh h Ab).tup_inv
  cases e
  have s:=f.len
  exact ⟨d,d[i],Wt.of g,by simp [show i<d.length by omega]⟩
 yld:=λH n i x u h j y=>by
  obtain ⟨b,d,e,g,f,_⟩:=(Hh h Ab).tup_inv
  cases e
  obtain ⟨rfl,y⟩:=y
  have r:=y d (Wt.of g)
  obtain ⟨t,p,k,q,o⟩:=f.get (i:=i) (e:=ds[i]) (by simp [j])
  rw[r] at k
  cases k
  exact ⟨Va.refl _,ds[i],p,by simp [j],q,λc l=>⟨_,Ab,o.subset l⟩⟩
 stop:=λH n h=>by
  obtain ⟨b,d,e,g,f,_⟩:=(Hh h Ab).tup_inv
  cases e
  exact ⟨d,Wt.of g,by rw[f.len]; exact Ak _⟩
theorem uM:IterOk K (MJ lo n) [] .sh ((Bw n).map λi:Nat=>.int (lo+i)) where
 md:=.inl rfl
 hd:=λ_ z=>nomatch z
 np:=λ_ _ z=>nomatch z
 go:=λH k i h a=>by
  show i<n
  simpa using a
 yld:=λH k i x b h a y=>by
  obtain ⟨rfl,rfl⟩:=y
  rw[Ad,Cu] at a
  exact ⟨Va.refl _,.int (lo+i),[],by simp [a],.int _,λ_ z=>nomatch z⟩
 stop:=λH k h=>by simp [MJ]
theorem zH:IterOk K (OH K a) [⟨some (.ref a),.dat (Kk m) (.list ds),F⟩] (Kk m) (ds.zipIdx.map λp=>.tuple [.int p.2,p.1]) where
 md:=mO m
 hd:=vT
 np:=R0
 go:=λH n i h g=>by
  obtain ⟨b,d,G,e,j,f,_,_⟩:=(Hh h Ab).list_inv
  cases e
  have w:=f.len
  rw[Ad,Kt] at g
  exact ⟨d,d[i],Nm.of j,by simp [show i<d.length by omega]⟩
 yld:=λH n i x B h g y=>by
  obtain ⟨b,d,G,e,j,f,rfl,_⟩:=(Hh h Ab).list_inv
  cases e
  rw[Ad,Kt] at g
  obtain ⟨t,z,rfl,q,rfl,y⟩:=y
  have v:=y d (Nm.of j)
  obtain ⟨A,s,k,u,r⟩:=f.get (i:=i) (e:=ds[i]) (by simp [g])
  rw[v] at k
  cases k
  have l:=Ew q (.tup [.int i,z])
  refine ⟨l,.tuple [.int i,ds[i]],s,by simp [g],.tup Dn (by simp [Gs]) ?_,λc o=>⟨_,Ab,Ac _ (r.subset o)⟩⟩
  have:=RdFs.cons (F:=[]) (.int (i:Int)) (RdFs.cons (u.kp (Kp.of l)) RdFs.nil)
  rw[Eb] at this
  exact this
 stop:=λH n h=>by
  obtain ⟨b,d,G,e,j,f,_,_⟩:=(Hh h Ab).list_inv
  cases e
  exact ⟨d,Nm.of j,by rw[Ad,Kt,f.len]; exact Ak _⟩
theorem O9:IterOk K (NV K a b) [⟨some (.ref a),.dat (Kk m) (.list ds),F⟩,⟨some (.ref b),.dat (Kk w) (.list es),G⟩] (mdZip m w) ((ds.zip es).map λp=>.tuple [p.1,p.2]) where
 md:=by cases m <;> cases w <;> simp [mdZip]
 hd:=λe he=>by
  rcases Al.mp he with rfl | he
  ·exact Vm
  ·rw[Aj.mp he]
   exact Vm
 np:=λz e he=>by
  rcases Al.mp he with rfl | he
  ·cases m <;> cases w <;> first | rfl | cases z
  ·rw[Aj.mp he]
   cases m <;> cases w <;> first | rfl | cases z
 go:=λH n i h L=>by
  obtain ⟨P,l,O,s,j,f,_,_⟩:=(Hh h Ab).list_inv
  obtain ⟨N,k,M,o,g,d,_,_⟩:=(Hh h (Ac _ Ab)).list_inv
  cases s
  cases o
  have T:=f.len
  have U:=d.len
  rw[Ad,Ib] at L
  exact ⟨l,k,l[i],k[i],Nm.of j,Nm.of g,by simp [show i<l.length by omega],by simp [show i<k.length by omega]⟩
 yld:=λH n i x X h L y=>by
  obtain ⟨P,l,O,s,j,f,rfl,_⟩:=(Hh h Ab).list_inv
  obtain ⟨N,k,M,o,g,d,rfl,_⟩:=(Hh h (Ac _ Ab)).list_inv
  cases s
  cases o
  rw[Ad,Ib] at L
  obtain ⟨t,u,v,rfl,W,rfl,V,Q⟩:=y
  have E:=V l (Nm.of j)
  have A:=Q k (Nm.of g)
  obtain ⟨Y,R,q,D,I⟩:=f.get (i:=i) (e:=ds[i]) (by simp [show i<ds.length by omega])
  obtain ⟨Z,S,r,C,J⟩:=d.get (i:=i) (e:=es[i]) (by simp [show i<es.length by omega])
  rw[E] at q
  cases q
  rw[A] at r
  cases r
  have B:=Ew W (.tup [u,v])
  refine ⟨B,.tuple [ds[i],es[i]],R++S,?_,.tup Dn (by simp [Gs]) ?_,λc hc=>?_⟩
  ·rw[Bg,show (ds.zip es)[i]? = some (ds[i],es[i]) from oZ.mpr ⟨by simp [show i<ds.length by omega],by simp [show i<es.length by omega]⟩]
   rfl
  ·have:=RdFs.cons (D.kp (Kp.of B)) (RdFs.cons (C.kp (Kp.of B)) RdFs.nil)
   rw[Eb] at this
   exact this
  ·rcases Aw.mp hc with hc | hc
   ·exact ⟨_,Ab,Ac _ (I.subset hc)⟩
   ·exact ⟨_,Ac _ Ab,Ac _ (J.subset hc)⟩
 stop:=λH n h=>by
  obtain ⟨P,l,O,s,j,f,_,_⟩:=(Hh h Ab).list_inv
  obtain ⟨N,k,M,o,g,d,_,_⟩:=(Hh h (Ac _ Ab)).list_inv
  cases s
  cases o
  have T:=f.len
  have U:=d.len
  refine ⟨l,k,Nm.of j,Nm.of g,?_⟩
  rw[Ad,Ib]
  omega
end
section
variable{X:Cx}{g e:Expr}{c:DE}{l:DI}
def dL(c:DE):DI:=λb P=>c b λx a=>match x with
 | .dat m (.list ds)=>P (Kk m) ds a
 | _=>False
def QH(c:DE):DI:=λb P=>c b λx a=>match x with
 | .dat m (.tuple ds)=>P (Kk m) ds a
 | _=>False
theorem U9(h:Fw X e c):uT X g e (dL c):=by
 refine PI.imp (CM h) λy H R h=>?_
 obtain ⟨s,Y,S,T,r,P,rfl,q,j,u,k⟩:=h
 refine ⟨s,Y,S,T,r,_,rfl,q,j,u,λx d v F p m o i b f=>?_⟩
 split at f
 ·obtain ⟨a,t,G,rfl,l,w,rfl,n⟩:=(b.told mem_mid).list_inv
  exact ⟨a,rfl,⟨t,Nm.of l⟩,k _ _ d _ [_] p m o i ((b.mid.wk (Uq _)).tomid) u5 n f⟩
 ·exact f.elim
theorem NC(h:Fw X e c):uT X g e (QH c):=by
 refine PI.imp (IE h) λy H R h=>?_
 obtain ⟨s,Y,S,T,r,P,rfl,q,j,u,k⟩:=h
 refine ⟨s,Y,S,T,r,_,rfl,q,j,u,λx d v F p m o i b f=>?_⟩
 split at f
 ·obtain ⟨a,t,rfl,l,w,n⟩:=(b.told mem_mid).tup_inv
  exact ⟨a,rfl,⟨t,Wt.of l⟩,k _ _ d _ [_] p m o i ((b.mid.wk (Uq _)).tomid) F4 n f⟩
 ·exact f.elim
variable{es:List Expr}{f:DA}{a b:Expr}{p pos j:Pos}{d:List Expr}{i:Nat}
theorem Jw(z:Gl X "range")(q:X.mg "range" = none)(s:lN X [a] f)(w:Bo [a] X.env=[(false,eval a X.env)]:=by rfl):uT X g (.Call (.Name "range" p) [a] [] pos) (pL f):=by
 refine PI.imp (u6 z q s w) λE H R h=>?_
 obtain ⟨i,Y,S,T,m,P,rfl,u,r,n,k⟩:=h
 refine ⟨i,Y,S,T,m,_,rfl,u,r,n,λD d G C x e y j l t c p=>?_⟩
 split at p
 ·obtain ⟨v,F,rfl,b⟩:=Js t c l
  obtain ⟨rfl,_⟩:=(b.told mem_mid).int_inv
  obtain ⟨B,A,o⟩:=p
  refine ⟨_,rfl,by omega,by omega,k _ _ d _ [] x e y j b.drop uM (by rw[Ad,Cu]; exact iQ (by omega)) ?_⟩
  simpa using o
 ·exact p.elim
theorem Y9(C:Gl X "enumerate")(t:X.mg "enumerate" = none)(e:lN X [a] f)(z:Bo [a] X.env=[(false,eval a X.env)]:=by rfl):uT X (.Tuple d i j) (.Call (.Name "enumerate" p) [a] [] pos) (T5 f):=by
 refine PI.imp (W5 C t e z) λI H R h=>?_
 obtain ⟨n,Y,S,T,r,P,rfl,y,u,s,k⟩:=h
 refine ⟨n,Y,S,T,r,_,rfl,y,u,s,λl g J E A m B o q w c p=>?_⟩
 split at p
 ·obtain ⟨v,F,rfl,b⟩:=Js w c q
  obtain ⟨a,l,G,rfl,e,D,rfl,x⟩:=(b.told mem_mid).list_inv
  exact ⟨a,rfl,⟨l,Nm.of e⟩,k _ _ g _ [_] A m B o ((b.mid.wk (Uq _)).tomid) zH (by rw[Ad,Kt]; exact x) p⟩
 ·exact p.elim
theorem FO(K:Gl X "zip")(y:X.mg "zip" = none)(g:lN X [a,b] f)(D:Bo [a,b] X.env=(false,eval a X.env)::Bo [b] X.env:=by rfl)(r:(Hm pos (Bo [b] X.env)).any (·.1)=false:=by rfl):uT X (.Tuple d i j) (.Call (.Name "zip" p) [a,b] [] pos) (EO f):=by
 refine PI.imp (HJ K y g D r) λV H R h=>?_
 obtain ⟨q,Y,S,T,u,P,rfl,C,z,x,k⟩:=h
 refine ⟨q,Y,S,T,u,_,rfl,C,z,x,λm l W O E o J s t B e p=>?_⟩
 split at p
 ·obtain ⟨v,F,w,G,rfl,c⟩:=fB B e t
  obtain ⟨a,m,N,rfl,g,M,rfl,U⟩:=(c.told mem_mid).list_inv
  obtain ⟨b,A,L,rfl,n,Q,rfl,I⟩:=(c.told Fp).list_inv
  refine ⟨a,b,rfl,⟨m,Nm.of g⟩,⟨A,Nm.of n⟩,k _ _ l _ [_,_] E o J s (((((c.mid.wk (Uq _)).tomid).swap.mid.wk (Uq _)).tomid).swap) O9 (by rw[Ad,Ib]; omega) p⟩
 ·exact p.elim
end
def KW(h:DI)(g:DG)(f:DB):DB:=λD j=>h j λm e b=>m=.sh/\∃I:Nat->DS->Prop,I 0 b /\
 (∀i d a,e[i]? = some d->I i a->g (.dat .sh d) a λc=>f { D with nx:=I (i+1),ct:=I (i+1),bk:=D.nx } c)/\∀a,I e.length a->D.nx a
section
variable{X:Cx}{b iter:Expr}{g:DI}{f:DG}{c:DB}{a:List Stmt}{pos:Pos}
theorem At.dropH{b H:Hp}{X:Addr->Prop}{S T a:List Ent}(h:At K b X n (S++e::(a++T)) H):At K b X n (S++e::T) H:=h.sub ((Cp S).append ((Bq a T).cons₂ e))
theorem Od(hp:PassesOwn (model X.prog X.w) X.A X.env X.xe)(hc:X.calm=true)(hi:uT X b iter g)(hg:IP X b f)(hb:dF X a c)(R:∀x,Dd iter X.env x=pure x:=by intro _; rfl):zS X (.For b iter a [] pos) (KW g f c):=by
 refine PS.impD (HX hp hc hi hg hb R) λD V H h=>?_
 obtain ⟨E,Y,S,T,r,P,rfl,hS,hT,hA,hd,Z,k2,k3,k4⟩:=h
 refine ⟨E,Y,S,T,r,_,rfl,hS,hA,hd,λm C N J p S1 H1 e1 e2 Q it hz p1=>?_⟩
 obtain ⟨rfl,I,h0,R,hf⟩:=p1
 rw[<- e1]
 have O:∀e∈p++T,Qg e.x=false:=λe he=>by
  rcases Aw.mp he with he | he
  ·exact it.np rfl e he
  ·exact hT e he
 refine ⟨λi q V H=>q=C.length - i/\i<=C.length/\∃S r,vs S=V/\Sl S r/\At X.K E Y r.n (S++(p++T)) H/\I i r,⟨C.length,by simp,Dq _,S1,N,rfl,e2,Q,h0⟩,?_⟩
 (intro i q V H q_; obtain ⟨rfl,hi,S2,k,rfl,e3,s,hI⟩ := q_)
 have j:∀e∈p,Ir X.K H k.n e:=λe he=>s.ok e (Ag _ (Am _ he))
 by_cases z:i<C.length
 ·refine .inr ⟨it.go H k.n i j z,λG M=>∃S r,vs S=G/\Sl S r/\At X.K E Y r.n (S++(p++T)) M/\I (i+1) r,λG M q=>⟨C.length - (i+1),by omega,rfl,z,q⟩,λx M y=>?_⟩
  obtain ⟨s1,d,F,h1,h2,h3⟩:=it.yld H k.n i x M j z y
  refine ⟨E,Y,S2,p++T,k,.dat .sh d,F,_,rfl,e3,s.item s1 h2 h3 it.md it.hd it.np,R i d k h1 hI,λW S3 H3 e4 U p3=>?_⟩
  refine ⟨E,Y,S3,p++T,W,_,rfl,e4,O,U,p3,λl t L B o u=>⟨t,l,rfl,B,o,u⟩,λx l v F t L B o u=>k2 x l v F t L B o.dropH u,
   λl t L B o u=>Z l t L B o.dropL u,λl t L B o u=>⟨t,l,rfl,B,o,u⟩⟩
 ·have e:i=C.length:=by omega
  subst e
  exact .inl ⟨it.stop H k.n j,Z k S2 H e3 s.dropL (hf k hI)⟩
end
end DL
namespace Nd
open PySem PySem.Spec PyProof.Rows L2
theorem jC(b e f g d:Expr)(a:Scope)(pos:Pos)(it c:Value)(env:Env) :
  compTurn (.ListComp b [⟨e,f,[],0⟩,⟨g,d,[],0⟩] a pos) 0 it c env=(do
   dM f.pos
   match <- Ig it with
   | none=>pure (.done .next)
   | some v =>
    Il e it v
    Pm e env v
    let x <- eval d env
    dM d.pos
    let x <- Dd d env x
    let it2 <- Rn [x] (cR x)
    let _ <- runOwn (.compStart (.ListComp b [⟨e,f,[],0⟩,⟨g,d,[],0⟩] a pos) 1 it2 c env) env
    again (.compLoop (.ListComp b [⟨e,f,[],0⟩,⟨g,d,[],0⟩] a pos) 0 it c env)):=by rfl
theorem jD(b f g d e:Expr)(a:Scope)(pos:Pos)(it c:Value)(env:Env) :
  compTurn (.ListComp b [⟨f,g,[],0⟩,⟨d,e,[],0⟩] a pos) 1 it c env=(do
   dM e.pos
   match <- Ig it with
   | none=>pure (.done .next)
   | some v =>
    Il d it v
    Pm d env v
    (do let _ <- call (.builtin "list.append") [c,<- eval b env])
    again (.compLoop (.ListComp b [⟨f,g,[],0⟩,⟨d,e,[],0⟩] a pos) 1 it c env)):=by rfl
section
variable{prog:Bn}{w:World}{A:Ck}{R:Result->Ah->Prop}{s:Ah}
theorem jH(h0:Hy (model prog w) A (.compLoop (.ListComp b [g,⟨f,e,[],0⟩] a pos) 1 it c env) R s)(h:wpAny (model prog w) A (cR it) (λd s'=>Hy (model prog w) A (.compLoop (.ListComp b [g,⟨f,e,[],0⟩] a pos) 1 d c env) R s') (λ_ _=>False) s):Hy (model prog w) A (.compStart (.ListComp b [g,⟨f,e,[],0⟩] a pos) 1 it c env) R s:=by
 refine aJ ?_
 show wpAny _ _ ((compStart (.ListComp b [g,⟨f,e,[],0⟩] a pos) 1 it c env).onRaise (λx=>do noteFrame x env; dM theWindowsPlace)) _ _ s
 refine wpAny_notedAt ?_
 unfold compStart
 show wpAny _ _ (ask >>= _) _ _ s
 refine Aa (Xw (wpAny_ite ?_))
 split
 ·first
   | exact Aa (Ae (Ae (And.intro rfl h0)))
   | exact Ae (And.intro rfl h0)
 ·first
   | exact Aa (Ln (Aa (Hx (Aa (Da h (λd s' i=>Ae (And.intro rfl i)) λ_ _ x=>x.elim)))))
   | (refine Aa (Ln ?_); show wpAny _ _ (dM e.pos >>= _) _ _ s; exact Aa (Hx (Aa (Da h (λd s' i=>Ae (And.intro rfl i)) λ_ _ x=>x.elim))))
theorem pO(l:∀x,Dd d env x=pure x)(J:Nat->Ah->Prop) (turn:∀n s,J n s->wpAny (model prog w) A (Ig it) (λr o=>match r with
    | none=>R (.ok .next) o
    | some v=>wpAny (model prog w) A (Il g it v) (λ_ y=>wpAny (model prog w) A (Pm g env v) (λ_ u =>
      wpAny (model prog w) A (eval d env) (λx q=>wpAny (model prog w) A (cR x) (λi C =>
       Hy (model prog w) A (.compStart (.ListComp b [⟨g,k,[],0⟩,⟨j,d,[],0⟩] a pos) 1 i c env) (λr t=>match r with | .ok _=>∃m,m<n/\J m t | .error _=>False) C) (λ_ _=>False) q) (λ_ _=>False) u) (λ_ _=>False) y) (λ_ _=>False) o) (λ_ _=>False) s)
  (n:Nat) (h:J n s):Hy (model prog w) A (.compLoop (.ListComp b [⟨g,k,[],0⟩,⟨j,d,[],0⟩] a pos) 0 it c env) R s:=by
 refine lF rfl J (λn s F=>?_) n h
 show wpAny _ A (Sem.onRaise (compTurn (.ListComp b [⟨g,k,[],0⟩,⟨j,d,[],0⟩] a pos) 0 it c env) (λx=>do noteFrame x env; theTreesLotGoes x)) _ _ s
 refine wpAny_noted ?_
 rw[jC]
 refine Aa (Hx (Aa (Da (turn n s F) (λr o p=>?_) λ_ _ z=>z.elim)))
 cases r with
 | none=>exact Ae p
 | some v =>
  refine Aa (Da p (λ_ y H=>?_) λ_ _ z=>z.elim)
  refine Aa (Da H (λ_ u E=>?_) λ_ _ z=>z.elim)
  refine Aa (Da E (λx q G=>?_) λ_ _ z=>z.elim)
  refine Aa (Hx (Aa (Jz (l x) (Aa (Ce (Da G (λi C D=>?_) λ_ _ z=>z.elim))))))
  refine Aa (wpAny_runOwn ?_)
  refine Pj D λr t B=>?_
  cases r with
  | ok f=>exact Ae ⟨rfl,B⟩
  | error e=>exact B.elim
theorem qR(J:Nat->Ah->Prop) (turn:∀n s,J n s->wpAny (model prog w) A (Ig it) (λr e=>match r with
    | none=>R (.ok .next) e
    | some v=>wpAny (model prog w) A (Il d it v) (λ_ k=>wpAny (model prog w) A (Pm d env v) (λ_ o =>
      wpAny (model prog w) A (eval b env) (λx l=>wpAny (model prog w) A (call (.builtin "list.append") [c,x]) (λ_ i=>∃m,m<n/\J m i) (λ_ _=>False) l) (λ_ _=>False) o) (λ_ _=>False) k) (λ_ _=>False) e) (λ_ _=>False) s)
  (n:Nat) (h:J n s):Hy (model prog w) A (.compLoop (.ListComp b [⟨f,p,[],0⟩,⟨d,j,[],0⟩] a pos) 1 it c env) R s:=by
 refine lF rfl J (λn s y=>?_) n h
 show wpAny _ A (Sem.onRaise (compTurn (.ListComp b [⟨f,p,[],0⟩,⟨d,j,[],0⟩] a pos) 1 it c env) (λx=>do noteFrame x env; theTreesLotGoes x)) _ _ s
 refine wpAny_noted ?_
 rw[jD]
 refine Aa (Hx (Aa (Da (turn n s y) (λr e g=>?_) λ_ _ z=>z.elim)))
 cases r with
 | none=>exact Ae g
 | some v =>
  refine Aa (Da g (λ_ k u=>?_) λ_ _ z=>z.elim)
  refine Aa (Da u (λ_ o t=>?_) λ_ _ z=>z.elim)
  refine Aa (Aa (Da t (λx l q=>?_) λ_ _ z=>z.elim))
  exact Aa (Da q (λ_ i B=>Ae (Ae ⟨rfl,B⟩)) λ_ _ z=>z.elim)
end
section
variable{X:Cx}
def IF(J:It)(n:List Nat)(g:TI)(t:TE)(k:L2.St)(r:Hp)(Q:VK):Prop:=∀D,r D=none->∃W:Nat->Nat->Hp->Prop,(∃m,W 0 m (upd r D (.lst [])))/\∀i m H,W i m H ->
 (J.stop i H/\Q (.ref D) H)\/(J.go i H/\∀x p,J.yld i H x p->∀o:Option V,g (some x::o::Ey k n) p λf s=>∃h:Nat->Nat->Hp->Prop,(∃e,h 0 e s)/\∀b e d,h b e d ->
  (f.stop b d/\∃q,q<m/\W (i+1) q d)\/(f.go b d/\∀y j,f.yld b d y j->t (some x::some y::Ey k n) j λz l=>∃a,l D=some (.lst a)/\a.length<Au/\∃c,c<e/\h (b+1) c (upd l D (.lst (a++[z])))))
def GD(c:TI)(d:List Nat)(a:TI)(f:TE):TE:=λb H Q=>c b H λJ e=>IF J d a f b e Q
end
end Nd
namespace DL
open PySem L2 Nd
def al(e:Ent):Ent:=match e.x with
 | .dat m d=>⟨e.v,.dat (pZ m) d,e.F⟩
 | .val _=>e
 | .scr _=>e
 | _=>⟨e.v,.un,[]⟩
def alD:DV->DV
 | .dat m d=>.dat (pZ m) d
 | .val v=>.val v
 | .scr a=>.scr a
 | _=>.un
def B4(S:List Ent)(j:Nat):Ent:=match S[j]? with
 | some e=>al e
 | none=>⟨none,.un,[]⟩
def jF(S:List Ent)(a:List Nat):List Ent:=a.map (B4 S)
def frD1(a:List DV)(j:Nat):DV:=match a[j]? with
 | some x=>alD x
 | none=>.un
def frD(a:List DV)(b:List Nat):List DV:=b.map (frD1 a)
theorem OE(e:Ent):(al e).v=e.v:=by
 obtain ⟨v,x,F⟩:=e
 cases x <;> rfl
theorem OY(e:Ent):(al e).x=alD e.x:=by
 obtain ⟨v,x,F⟩:=e
 cases x <;> rfl
theorem pC(S:List Ent)(a:List Nat):vs (jF S a)=Ey (vs S) a:=by
 unfold vs jF Ey
 rw[Dj]
 refine Gy λj _=>?_
 rw[Bg]
 simp only[Function.comp,B4]
 cases S[j]? with
 | none=>rfl
 | some e=>exact OE e
theorem sP(h:Sl S a)(b:List Nat):(jF S b).map Ent.x=frD a.sl b:=by
 unfold Sl at h
 unfold jF frD
 rw[Dj]
 refine Gy λj _=>?_
 simp only[Function.comp,B4,frD1]
 rw[<- h,Bg]
 cases S[j]? with
 | none=>rfl
 | some e=>exact OY e
section
variable{K:PySem.W.Frag}{g H i:Hp}{X:Addr->Prop}{n:Nat}{E S T:List Ent}
theorem rR(e:Ent):cells (al e)=[]:=by
 obtain ⟨v,x,F⟩:=e
 cases x with
 | dat m d=>cases m <;> rfl
 | _=>rfl
theorem At.view1(h:At K g X n E H)(c:e∈E):At K g X n (al e::E) H:=by
 refine h.push ?_ (λf l=>⟨λ_ a b=>(by rw[rR] at b; cases b),λhq a b z=>?_⟩) λa b=>(by rw[rR] at b; cases b)
 ·have:=h.ok e c
  obtain ⟨v,x,F⟩:=e
  cases x with
  | dat m d =>
   obtain ⟨w,i,k,_⟩:=this
   exact ⟨w,i,k,λz=>(by cases m <;> cases z),λz=>(by cases m <;> cases z)⟩
  | val v=>exact this
  | scr o=>exact this
  | _=>exact (rfl:([]:List Addr)=[])
 ·obtain ⟨v,x,F⟩:=e
  cases x with
  | dat m d =>
   rcases uI h c l with rfl | q
   ·rcases hq with hq | hq
    ·cases m <;> first | cases hq; done | exact nomatch b
    ·cases hq
   ·refine q.2 ?_ a b z
    rcases hq with hq | hq
    ·refine .inl ?_
     cases m <;> first | rfl | exact hq
    ·exact .inr hq
  | val v =>
   rw[show F=[] from (h.ok _ c).2] at z
   cases z
  | scr o =>
   obtain ⟨_,_,j,_⟩:=h.ok _ c
   rw[show F=[] from j] at z
   cases z
  | _=>exact nomatch z
theorem At.blank(h:At K g X n E H):At K g X n (⟨v,.un,[]⟩::E) H :=
 h.push (rfl:([]:List Addr)=[]) (λf _=>⟨λ_ a b=>(nomatch b),λ_ a _=>Ba⟩) (λa b=>(nomatch b))
theorem At.view(h:At K g X n E H)(b:∀e∈S,e∈E):∀a:List Nat,At K g X n (jF S a++E) H
 | []=>h
 | j::a=>by
  have c:=At.view h b a
  show At K g X n (B4 S j::(jF S a++E)) H
  unfold B4
  cases e:S[j]? with
  | none=>exact c.blank
  | some x=>exact c.view1 (Ag _ (b x (Bj e)))
theorem At.accNew(h:At K g X n E H)(c:H D=Su):At K g X n (⟨some (.ref D),.acc [],[D]⟩::E) (upd H D (.lst [])):=by
 have e:=Ew c (.lst [])
 refine (h.grow (n':=n) e (Ak _)).push ⟨D,[],[],rfl,rfl,Dn,.nil,Dq _,Ba⟩ (λf i=>?_) λa b=>?_
 ·have d:=h.free c f i
  refine ⟨λ_ a b z=>?_,λ_ a b z=>?_⟩
  ·rw[Aj.mp b] at z
   exact d z
  ·rw[Aj.mp z] at b
   exact d (Fu _ _ b)
 ·rw[Aj.mp b]
  exact .inl (h.new0 c)
theorem At.accPutG(h:At K g X n (⟨some (.ref D),.acc ds,D::G⟩::⟨some v,.dat m e,F⟩::E) H)(C:m≠.pk)(hz:ds.length+1<=Au):∃xs,H D=some (.lst xs)/\xs.length=ds.length/\At K g X n (⟨some (.ref D),.acc (ds++[e]),D::(G++F)⟩::E) (upd H D (.lst (xs++[v]))):=by
 obtain ⟨a,xs,P,O,L,w,u,_,x⟩:=h.ok _ Ab
 have t:some (V.ref D)=some (V.ref a):=O
 cases t
 have s:D::G=D::P:=L
 cases s
 have r:RdF K H v e F:=h.told (Ac _ Ab)
 have j:=Ay.mp h.sep
 have i:=Ay.mp j.2
 have l:=(h.sub (Di _ _)).sub (Di _ _)
 have npk:Qg (.dat m e)=false:=by cases m <;> first | rfl | exact absurd rfl C
 have A:D∉F:=(j.1 _ Ab).1 (.inr rfl) D Ab
 have kp:∀{F:List Addr},D∉F->Kp F H (upd H D (.lst (xs++[v]))):=λ{F} N b o q z=>by
  have : b≠D:=by
   rintro rfl
   rw[w] at q
   cases q
   rcases z with z | z
   ·exact N z
   ·rcases z with ⟨_,z⟩ | ⟨_,_,z⟩ <;> cases z
  rw[Dr this]
  exact q
 have p:g D=Su:=by
  rcases h.new _ Ab D Ab with z | z
  ·exact z
  ·cases z.2
 refine ⟨xs,w,u.len,?_⟩
 refine ⟨λf hf=>?_,?_,λf hf=>?_,λb o J q=>?_,λb o q=>?_,λb B=>?_⟩
 rotate_right
 ·obtain ⟨z,c,k,f,l,I⟩:=h.xd b B
  refine ⟨z,c,k,f,(Dr ?_).trans l,I⟩
  rintro rfl
  exact z p
 ·rcases Al.mp hf with rfl | hf
  ·exact ⟨D,xs++[v],G++F,rfl,rfl,Dn,(u.kp (kp x)).snoc (r.kp (kp A)),by rw[Bm]; exact hz,λz=>(Aw.mp z).elim x A⟩
  ·exact (l.ok f hf).kp (kp ((j.1 f (Ac _ hf)).1 (.inr rfl) D Ab)) (Ak _)
 ·refine Ay.mpr ⟨λf hf=>⟨λM a d=>(j.1 f (Ac _ hf)).1 (.inr rfl) a d,λM a d z=>?_⟩,i.2⟩
  have y:=(j.1 f (Ac _ hf)).2 (.inl rfl) a d
  rcases Al.mp z with z | z
  ·exact y (z▸Ab)
  ·rcases Aw.mp z with z | z
   ·exact y (Ac _ z)
   ·exact (i.1 f hf).2 (.inl npk) a d z
 ·rcases Al.mp hf with rfl | hf
  ·intro a d
   rw[Aj.mp d]
   exact .inl p
  ·exact l.new f hf
 ·rw[Dr (Gf q p)]
  exact h.same b o J q
 ·rw[Dr (Gf q p)]
  exact h.dom b o q
theorem At.accPut(h:At K g X n (⟨some (.ref D),.acc ds,[D]⟩::E) H)(r:RdF K H v e [])(hz:ds.length+1<=Au):∃xs,H D=some (.lst xs)/\xs.length=ds.length/\At K g X n (⟨some (.ref D),.acc (ds++[e]),[D]⟩::E) (upd H D (.lst (xs++[v]))) :=
 At.accPutG (m:=.ow) (At.pushI (S:=[⟨some (.ref D),.acc ds,[D]⟩]) h r) (by decide) hz
def Ux:Bool->Md
 | true=>.ow
 | false=>.tp
theorem At.accGetG(h:At K g X n (⟨some (.ref D),.acc ds,D::G⟩::E) H)(hb:b=true->G=[]):At K g X n (⟨some (.ref D),.dat (Ux b) (.list ds),D::G⟩::E) H:=by
 obtain ⟨a,w,v,u,t,q,s,r,o⟩:=h.ok _ Ab
 have d:some (V.ref D)=some (V.ref a):=u
 cases d
 have i:D::G=D::v:=t
 cases i
 have k:=Ay.mp h.sep
 have j:∀a∈cells ⟨some (.ref D),.dat (Ux b) (.list ds),D::G⟩,a=D:=λa c=>by
  cases b with
  | true=>rw[hb rfl] at c; exact Aj.mp c
  | false=>exact Aj.mp c
 refine (h.sub (Di _ _)).push ⟨_,rfl,.lst q r s,λz=>?_,λ_ a l e=>?_⟩ (λf m=>⟨λp a c=>?_,λp a c=>(k.1 f m).2 (.inl rfl) a c⟩) λa c=>?_
 ·cases b with
  | true=>rw[hb rfl]; exact Bx.mpr ⟨Ba,Dx⟩
  | false=>cases z
 ·have e:D::G=a::l:=e
  cases e
  exact o
 ·rw[j a c]
  exact (k.1 f m).1 (.inr rfl) D Ab
 ·rw[j a c]
  rcases h.new _ Ab D Ab with z | z
  ·exact .inl z
  ·cases z.2
end
def Oq:DT:=λa P=>P true a
def EW(b:Bool)(m:Md)(e:Af):Prop:=match b with
 | true=>imm e=true
 | false=>m≠.pk
def He(b:Bool)(dc:DT)(g:DE)(i:DS)(d:Af->Nat->Prop)(h:Nat->Prop):Prop:=dc i λc a=>match c with
 | true=>g a λy f=>match y with
  | .dat m e=>EW b m e/\d e f.n
  | _=>False
 | false=>h a.n
def uD(b:Bool)(j:DI)(l:List Nat)(dc:DT)(h:DE):DE:=λk P=>j k λm g c=>∃I:Nat->List Af->Nat->Prop,I 0 [] c.n /\
 (∀i d a n,g[i]? = some d->I i a n->He b dc h ⟨.dat m d::frD c.sl l,n⟩ (λe f=>I (i+1) (a++[e]) f) (λf=>I (i+1) a f)) /\
 ∀a n,I g.length a n->P (.dat (Ux b) (.list a)) ⟨c.sl,n⟩
def mQ(b:Bool)(l:DI)(p:List Nat)(dc:DT)(k:DE):DE:=λo P=>l o λm j c=>∃I:Nat->List Af->Nat->Prop,I 0 [] c.n /\
 (∀i d a n,j[i]? = some d->I i a n->∃h g,d=.tuple [h,g]/\He b dc k ⟨.dat m h::.dat m g::frD c.sl p,n⟩ (λe f=>I (i+1) (a++[e]) f) (λf=>I (i+1) a f)) /\
 ∀a n,I j.length a n->P (.dat (Ux b) (.list a)) ⟨c.sl,n⟩
def Qt:DT->DE->DS->(Af->Nat->Prop)->(Nat->Prop)->Prop:=He true
def E7:DI->List Nat->DT->DE->DE:=uD true
def B8:DI->List Nat->DT->DE->DE:=mQ true
def U7:DI->List Nat->DT->DE->DE:=uD false
def wR:DI->List Nat->DT->DE->DE:=mQ false
section
variable{K:PySem.W.Frag}{f H g:Hp}{Y:Addr->Prop}{n:Nat}{E S T:List Ent}
theorem Zm{b:Bool}{dc:DT}{t:DE}{l:DS}{k:Af->Nat->Prop}{N1:Hp->Prop}(I:Sl S l)(hb:b=true->G=[])(C:At K f Y l.n (S++⟨some (.ref D),.acc a,D::G⟩::T) H)(h:He b dc t l k u)(hz:a.length+1<=Au)(k1:∀n' g,At K f Y n' (⟨some (.ref D),.acc a,D::G⟩::T) g->u n'->N1 g)(k2:∀e n' v g x,(b=true->x=[])->(∃xs,g D=some (.lst xs)/\xs.length=a.length/\At K f Y n' (⟨some (.ref D),.acc (a++[e]),D::x⟩::T) (upd g D (.lst (xs++[v]))))->k e n'->N2 v g):LT K dc (vs S) H λc p=>if c=true then LE K t (vs S) p N2 else N1 p:=by
 refine ⟨f,Y,S,⟨some (.ref D),.acc a,D::G⟩::T,l,_,rfl,I,C,h,λc o B p J A j w=>?_⟩
 cases c with
 | false=>exact vR (k1 _ _ (j.sub (Bq _ _)) w)
 | true =>
  refine uA ⟨f,Y,B,⟨some (.ref D),.acc a,D::G⟩::T,o,_,J,A,j,w,λy s v F M E L N d i=>?_⟩
  split at i
  ·rename_i m e
   have r:=d.told mem_mid
   cases b with
   | true =>
    obtain rfl:=r.imm i.1
    obtain rfl:=hb rfl
    exact k2 _ _ _ _ [] (λ_=>rfl) ((d.drop.sub (Bq _ _)).accPut r hz) i.2
   | false =>
    have q:At K f Y s.n (⟨some v,.dat m e,F⟩::⟨some (.ref D),.acc a,D::G⟩::T) E:=d.sub (Bq _ _)
    exact k2 _ _ _ _ (G++F) (λz=>nomatch z) ((q.perm (Ef _ _ _)).accPutG i.1 hz) i.2
  ·exact i.elim
theorem bP{dt:TT}:∀a H Q,LT K Oq a H Q->Tz a H Q:=by
 intro a H Q h
 obtain ⟨f,Y,S,T,d,P,rfl,c,b,e,k⟩:=h
 exact k true d S H rfl c b e
theorem sY.imp(h:sY X e t)(k:∀a H Q,t' a H Q->t a H Q):sY X e t':=λb s a H Q I q=>h b s a H Q I (k a H Q q)
theorem lU:∀U H Q,LE K (uD b Z s dc X) U H Q->yG (LI K Z) s (LT K dc) (LE K X) U H Q:=by
 intro U H Q h
 obtain ⟨f,Y,S,T,δ,P,rfl,hS,hA,hd,k⟩:=h
 refine ⟨f,Y,S,T,δ,_,rfl,hS,hA,hd,λm r t J l j H1 e1 e2 E it hz p1=>?_⟩
 obtain ⟨I,h0,hs,hf⟩:=p1
 rw[<- e1]
 intro D hD
 refine ⟨λi q H=>q=r.length - i/\i<=r.length/\∃a n G,(b=true->G=[])/\At K f Y n (⟨some (.ref D),.acc a,D::G⟩::(j++(l++T))) H/\a.length<=i/\I i a n,⟨r.length,by simp,Dq _,[],t.n,[],λ_=>rfl,E.accNew hD,Ak _,h0⟩,?_⟩
 (intro i q H q_; obtain ⟨rfl,hi,a,n,G,M,w,hl,hI⟩ := q_)
 have c:∀e∈l,Ir K H n e:=λe C=>w.ok e (Ac _ (Ag _ (Am _ C)))
 by_cases o:i<r.length
 ·refine .inr ⟨it.go H n i c o,λx g y=>?_⟩
  obtain ⟨s1,d,F,h1,h2,h3⟩:=it.yld H n i x g c o y
  have z:At K f Y n ((⟨some (.ref D),.acc a,D::G⟩::j)++⟨some x,.dat m d,F⟩::(l++T)) g:=At.item (S:=⟨some (.ref D),.acc a,D::G⟩::j) w s1 h2 h3 it.md it.hd it.np
  have A:=z.mid
  have L:=At.view (S:=j) A (λe C=>Ac _ (Am _ (Ac _ C))) s
  have O:At K f Y n ((⟨some x,.dat m d,F⟩::jF j s)++⟨some (.ref D),.acc a,D::G⟩::(j++(l++T))) g:=L.mid
  have B:Sl (⟨some x,.dat m d,F⟩::jF j s) ⟨.dat m d::frD t.sl s,n⟩:=by
   unfold Sl
   rw[Aq,sP e2]
  have hv:vs (⟨some x,.dat m d,F⟩::jF j s)=some x::Ey (vs j) s:=by
   rw[<- pC]
   rfl
  refine ⟨λN=>∃W,W<r.length - i/\_,λy H3=>∃a,H3 D=some (.lst a)/\a.length<Au/\∃W,W<r.length - i/\_,λN q=>q,λy H3 q=>q,?_⟩
  rw[<- hv]
  refine Zm B M O (hs i d a n h1 hI) (by omega) (λV N u p=>?_) (λe V v N G' R u p=>?_)
  ·exact ⟨r.length - (i+1),by omega,rfl,o,a,V,G,M,u,by omega,p⟩
  ·obtain ⟨xs,g1,g2,g3⟩:=u
   exact ⟨xs,g1,by omega,r.length - (i+1),by omega,rfl,o,a++[e],V,G',R,g3,by rw[Bm]; simp; omega,p⟩
 ·have e:i=r.length:=by omega
  subst e
  refine .inl ⟨it.stop H n c,k _ ⟨t.sl,n⟩ _ (D::G) j H e1 e2 ?_ (hf a n hI)⟩
  have z:=w.accGetG M
  have A:At K f Y n (⟨some (.ref D),.dat (Ux b) (.list a),D::G⟩::(j++T)) H:=z.sub (((Cp j).append (Bq l T)).cons₂ _)
  exact A.tomid
theorem rQ:∀σ H Q,LE K (mQ b di A dc de) σ H Q->L3 K (LI K di) A (LT K dc) (LE K de) σ H Q:=by
 intro σ H Q h
 obtain ⟨f,Y,S,T,δ,P,rfl,hS,hA,hd,k⟩:=h
 refine ⟨f,Y,S,T,δ,_,rfl,hS,hA,hd,λm u B J l o H1 e1 e2 h5 it hz p1=>?_⟩
 obtain ⟨I,h0,hs,hf⟩:=p1
 rw[<- e1]
 intro D hD
 refine ⟨λi q H=>q=u.length - i/\i<=u.length/\∃c n G,(b=true->G=[])/\At K f Y n (⟨some (.ref D),.acc c,D::G⟩::(o++(l++T))) H/\c.length<=i/\I i c n,⟨u.length,by simp,Dq _,[],B.n,[],λ_=>rfl,h5.accNew hD,Ak _,h0⟩,?_⟩
 (intro i q H q_; obtain ⟨rfl,hi,c,n,G,hG,E,hl,hI⟩ := q_)
 have j:∀e∈l,Ir K H n e:=λe he=>E.ok e (Ac _ (Ag _ (Am _ he)))
 by_cases s:i<u.length
 ·refine .inr ⟨it.go H n i j s,λx g y=>?_⟩
  obtain ⟨s1,d,F,h1,h2,h3⟩:=it.yld H n i x g j s y
  obtain ⟨w,U,rfl,h7⟩:=hs i d c n h1 hI
  obtain ⟨t,Z,rfl,ht,V,_⟩:=h2.tup_inv
  cases V with
  | @cons r _ Z _ M _ r1 V =>
   cases V with
   | @cons R _ Z _ X G r2 V =>
    cases V
    have N:At K f Y n ((⟨some (.ref D),.acc c,D::G⟩::o)++⟨some r,.dat m w,M⟩::(l++T)) g:=At.item (S:=⟨some (.ref D),.acc c,D::G⟩::o) E s1 r1 (λa ha=>h3 a (Am _ ha)) it.md it.hd it.np
    have W:At K f Y n ((⟨some r,.dat m w,M⟩::⟨some (.ref D),.acc c,D::G⟩::o)++(l++T)) g:=N.mid
    have L:At K f Y n ((⟨some r,.dat m w,M⟩::⟨some (.ref D),.acc c,D::G⟩::o)++⟨some R,.dat m U,X⟩::(l++T)) g:=At.item W (Va.refl _) r2 (λa ha=>h3 a (Ag _ (Am _ ha))) it.md it.hd it.np
    have O:At K f Y n (⟨some r,.dat m w,M⟩::⟨some R,.dat m U,X⟩::⟨some (.ref D),.acc c,D::G⟩::(o++(l++T))) g:=L.mid.perm (Ef _ _ _)
    have h6:=At.view (S:=o) O (λe he=>Ac _ (Ac _ (Ac _ (Am _ he)))) A
    have h8:At K f Y n ((⟨some r,.dat m w,M⟩::⟨some R,.dat m U,X⟩::jF o A)++⟨some (.ref D),.acc c,D::G⟩::(o++(l++T))) g:=by
     have z:=h6.mid
     refine z.perm ?_
     exact (El).cons _
    have h4:Sl (⟨some r,.dat m w,M⟩::⟨some R,.dat m U,X⟩::jF o A) ⟨.dat m w::.dat m U::frD B.sl A,n⟩:=by
     unfold Sl
     rw[Aq,Aq,sP e2]
    have hv:vs (⟨some r,.dat m w,M⟩::⟨some R,.dat m U,X⟩::jF o A)=some r::some R::Ey (vs o) A:=by
     rw[<- pC]
     rfl
    refine ⟨t,r,R,rfl,Wt.of ht,λH2=>∃m',m'<u.length - i/\_,λy H3=>∃c,H3 D=some (.lst c)/\c.length<Au/\∃m',m'<u.length - i/\_,λH2 q=>q,λy H3 q=>q,?_⟩
    rw[<- hv]
    refine Zm h4 hG h8 h7 (by omega) (λn' H2 C p=>?_) (λe n' v H2 G' h9 C p=>?_)
    ·exact ⟨u.length - (i+1),by omega,rfl,s,c,n',G,hG,C,by omega,p⟩
    ·obtain ⟨Z,g1,g2,g3⟩:=C
     exact ⟨Z,g1,by omega,u.length - (i+1),by omega,rfl,s,c++[e],n',G',h9,g3,by rw[Bm]; simp; omega,p⟩
 ·have e:i=u.length:=by omega
  subst e
  refine .inl ⟨it.stop H n j,k _ ⟨B.sl,n⟩ _ (D::G) o H e1 e2 ?_ (hf c n hI)⟩
  have N:=E.accGetG hG
  have O:At K f Y n (⟨some (.ref D),.dat (Ux b) (.list c),D::G⟩::(o++T)) H:=N.sub (((Cp o).append (Bq l T)).cons₂ _)
  exact O.tomid
end
section
variable{X:Cx}{b iter c:Expr}{x f q:Str}{g m pt r pos n:Pos}{p i0:Nat}{d:List Expr}{a:Scope}{e:List (Str×Addr)}{ys:List Str}{l:List Nat}{k:DI}{dc:DT}{j:DE}
theorem Ng:sY X [] (LT X.K Oq):=sY.imp N9 (bP (dt:=Tz))
theorem Xe(h:sG X c dc):sY X [c] (LT X.K dc):=BJ h
theorem Oo(C:CompScope X a e x ys l)(c:X.calm=true)(m:uT X (.Name x g) iter k)(i:∀fp s H,sY (Dh X a e (x::ys) fp s H) d (LT X.K dc))(h:∀fp s H,Fw (Dh X a e (x::ys) fp s H) b j)(f:∀x,Dd iter X.env x=pure x:=by intro _; rfl):Fw X (.ListComp b [⟨.Name x g,iter,d,0⟩] a pos) (E7 k l dc j):=PE.imp (yL C c m i h f) lU
theorem N4(C:CompScope X a e x ys l)(c:dJ a f)(h:(x::f::ys).Nodup)(i:X.calm=true)(r:uT X (.Tuple [.Name x g,.Name f m] p pt) iter k)(q:∀fp s H,sY (Dh X a e (x::f::ys) fp s H) d (LT X.K dc))(o:∀fp s H,Fw (Dh X a e (x::f::ys) fp s H) b j)(n:∀x,Dd iter X.env x=pure x:=by intro _; rfl):Fw X (.ListComp b [⟨.Tuple [.Name x g,.Name f m] p pt,iter,d,0⟩] a pos) (B8 k l dc j):=PE.imp (sU C c h i r q o n) rQ
def NX(o:Bool)(i:Nat):DG:=match o with
 | true=>qK i
 | false=>Uk i
theorem OB:∀v a H Q,LG K (NX o i) v a H Q->Uu i v a H Q:=by
 cases o with
 | true=>exact M5
 | false=>exact nA
theorem Y7{o:Bool}(v:X.N.Nodup)(c:X.N[i0]? = some q)(h:X.env.scope.names.lookup q=some .local)(C:CompScope X a e x ys l)(i:X.calm=true)(u:uT X (.Name x g) iter k)(t:∀fp s H,sY (Dh X a e (x::ys) fp s H) d (LT X.K dc))(p:∀fp s H,Fw (Dh X a e (x::ys) fp s H) b j)(m:∀x,Dd iter X.env x=pure x:=by intro _; rfl)(f:Oy (.ListComp b [⟨.Name x g,iter,d,0⟩] a pos) (some (.Name q r)) n.line X.env=pure true:=by rfl):zS X (.Assign [.Name q r] (.ListComp b [⟨.Name x g,iter,d,0⟩] a pos) n) (w8 (E7 k l dc j) (NX o i0)):=PS.impD (AH v c h C i u t p m f) (lW lU OB)
theorem B2(C:CompScope X a e x ys l)(c:X.calm=true)(m:uT X (.Name x g) iter k)(i:∀fp s H,sY (Dh X a e (x::ys) fp s H) d (LT X.K dc))(h:∀fp s H,Fw (Dh X a e (x::ys) fp s H) b j)(f:∀x,Dd iter X.env x=pure x:=by intro _; rfl):Fw X (.ListComp b [⟨.Name x g,iter,d,0⟩] a pos) (U7 k l dc j):=PE.imp (yL C c m i h f) lU
theorem p8(C:CompScope X a e x ys l)(c:dJ a f)(h:(x::f::ys).Nodup)(i:X.calm=true)(r:uT X (.Tuple [.Name x g,.Name f m] p pt) iter k)(q:∀fp s H,sY (Dh X a e (x::f::ys) fp s H) d (LT X.K dc))(o:∀fp s H,Fw (Dh X a e (x::f::ys) fp s H) b j)(n:∀x,Dd iter X.env x=pure x:=by intro _; rfl):Fw X (.ListComp b [⟨.Tuple [.Name x g,.Name f m] p pt,iter,d,0⟩] a pos) (wR k l dc j):=PE.imp (sU C c h i r q o n) rQ
end
end DL
namespace DL
open PySem PySem.Spec PyProof.Rows L2 Nd
section
variable{K:PySem.W.Frag}{g H i:Hp}{X:Addr->Prop}{n n':Nat}{E S T:List Ent}
theorem At.pushF(h:At K g X n E H)(r:RdF K H v d F)(j:F.Nodup)(c:∀a∈F,∀f∈E,a∉f.F)(i:∀a∈F,g a=none):At K g X n (⟨some v,.dat .ow d,F⟩::E) H:=by
 refine h.push ⟨v,rfl,r,λ_=>j,λz=>nomatch z⟩ (λf e=>⟨λ_ a b z=>c a b f e z,λ_ a b z=>c a z f e (Fu _ _ b)⟩) λa b=>.inl (i a b)
theorem At.drawn(h:At K g X n E H)(r:e∈E)(M:e.x=.drw)(P:e.v=some (.ref a))(s:Xu a H i)(hd:∃c k f,gJ i a c k f/\0<=k/\k<=(n':Int))(O:n<=n'):At K g X n' E i:=by
 obtain ⟨v,x,F⟩:=e
 have A:x=.drw:=M
 subst A
 obtain ⟨t,R,T,S,p,N,w,_⟩:=h.ok _ r
 have Q:some (V.ref a)=some (V.ref t):=P.symm.trans p
 cases Q
 have u:F=[a]:=N
 subst u
 refine ⟨λf G=>?_,h.sep,h.new,λb o I q=>?_,λb o q=>?_,λb d=>?_⟩
 rotate_right
 ·obtain ⟨z,c,k,f,m,y,B⟩:=h.xd b d
  by_cases l:b=a
  ·subst l
   exact ⟨z,hd⟩
  ·exact ⟨z,c,k,f,s _ _ l m,y,by omega⟩
 ·rcases uI h r G with rfl | q
  ·obtain ⟨c,k,C,m,y,B⟩:=hd
   exact ⟨a,c,k,C,p,rfl,m,y,B⟩
  ·have L:a∉f.F:=q.1 (.inr rfl) a Ab
   refine (h.ok f G).kp (λb o D z=>?_) O
   by_cases d:b=a
   ·subst d
    rcases z with z | z
    ·exact absurd z L
    ·have j:H b=some (.lst _):=w
     rw[D] at j
     cases j
     rcases z with ⟨_,z⟩ | ⟨_,_,z⟩ <;> cases z
   ·exact s b o d D
 ·have d:b≠a:=by
   rintro rfl
   rcases h.new _ r b Ab with z | z
   ·rw[z] at q; cases q
   ·exact I z.1
  exact s b o d (h.same b o I q)
 ·by_cases d:b=a
  ·subst d
   obtain ⟨c,k,C,m,_⟩:=hd
   exact ⟨_,m⟩
  ·obtain ⟨J,z⟩:=h.dom b o q
   exact ⟨J,s b J d z⟩
end
abbrev PF:=List Af->(Af->Prop)->Prop
abbrev DF:=List Af->Nat->(Af->Nat->Prop)->Prop
def Vg(K:PySem.W.Frag)(g:PF):Sp:=λh H Q _=>∃(c:List Ent) (n:Nat) (f:List Af) (R:Af->Prop),c.map Ent.v=h.map some/\(∀e∈c,Ir K H n e)/\datas (c.map Ent.x)=some f/\g f R /\
 ∀v d F b,R d->RdF K b v d F->F.Nodup->(∀a∈F,H a=none)->Va H b->Q v b
def j9(K:PySem.W.Frag)(m:DF):Sp:=λo H Q _=>∃(b:Addr) (j:List V) (g:List Ent) (n:Nat) (l:List Af) (R:Af->Nat->Prop),o=.ref b::j/\g.map Ent.v=j.map some/\(∀e∈g,Ir K H n e)/\(∀e∈g,b∉e.F)/\(∃c k f,gJ H b c k f/\0<=k/\k<=(n:Int))/\datas (g.map Ent.x)=some l/\m l n R /\
 ∀v d F i h,n<=i->R d i->RdF K h v d F->F.Nodup->(∀a∈F,H a=none)->(∃c k f,gJ h b c k f/\0<=k/\k<=(i:Int))->Xu b H h->Q v h
def O0(f:PF)(b:DA):DE:=λc P=>b c λg a=>match datas g with
 | some e=>f e λd=>P (.dat .ow d) a
 | none=>False
def uV(i:Nat)(c:DF)(e:DA):DE:=λb P=>match b.sl[i]? with
 | some .drw=>e b λh a=>match a.sl[i]? with
  | some .drw=>match datas h with
   | some g=>c g a.n λd f=>P (.dat .ow d) ⟨a.sl,f⟩
   | none=>False
  | _=>False
 | _=>False
section
variable{X:Cx}{CX:vN}{k:Nat}{f:Addr}{g:Cv}{ps:List Str}{j:PF}{m:DF}{E:XK}{x:Str}{p pos:Pos}{e l:Expr}{es:List Expr}{b:DA}
theorem Gk(F:FnOk X.prog X.w X.K X.mg X.base CX k f g ps (Vg X.K j))(J:Room k X.A)(hg:Gl X x)(O:X.mg x=some (.ref f))(L:PySem.W.keepIn X.K (.ref f)=true)(hb:Binds X.K g ps [])(D:Qx CX X E)(i:lN X (e::es) b)(o:(x == ("__debug__" : Str))=false:=by decide)(m:Bo (e::es) X.env=(false,eval e X.env)::Bo es X.env:=by rfl)(u:(Hm pos (Bo es X.env)).any (·.1)=false:=by rfl):Fw X (.Call (.Name x p) (e::es) [] pos) (O0 j b):=by
 refine PE.imp (Wu F J hg O L hb .nil D i o m u) λσ H Q h=>?_
 obtain ⟨C,Y,S,T,M,P,rfl,V,R,N,B⟩:=h
 refine ⟨C,Y,S,T,M,_,rfl,V,R,N,λxs l z us S' H' e1 G I U c p=>?_⟩
 subst I
 cases q:datas (z.map Ent.x) with
 | none=>rw[q] at p; exact p.elim
 | some Z =>
  rw[q] at p
  rw[Eb]
  refine ⟨z,l.n,Z,_,U,λe m=>c.ok e (Ag _ (Am _ m)),q,p,λv d F t r rd nd y s=>?_⟩
  exact B _ l v F S' t e1 G (((c.dropL.grow s (Ak _)).pushF rd nd (λa i=>c.dropL.free (y a i)) (λa i=>c.new0 (y a i))).tomid) r
theorem Kj(F:FnOk X.prog X.w X.K X.mg X.base CX k f g ps (j9 X.K m))(hr:Room k X.A)(hg:Gl X x)(hm:X.mg x=some (.ref f))(hk:PySem.W.keepIn X.K (.ref f)=true)(hb:Binds X.K g ps [])(hx:Qx CX X E)(h0:PE X l (mG i))(I:lN X es b)(h2:(x == ("__debug__" : Str))=false:=by decide)(B:Bo (l::es) X.env=(false,eval l X.env)::Bo es X.env:=by rfl)(h7:(Hm pos (Bo es X.env)).any (·.1)=false:=by rfl):Fw X (.Call (.Name x p) (l::es) [] pos) (uV i m b):=by
 refine PE.imp (Wu F hr hg hm hk hb .nil hx (Ik h0 I B) h2 B h7) λσ H Q h=>?_
 obtain ⟨H0,Y,S,T,δ,P,rfl,hS,hA,M,kk⟩:=h
 unfold uV at M
 split at M
 case h_2=>exact M.elim
 rename_i J
 have D:∀w,(vs S)[i]? = some (some w)->LA X.K b (vs S) H λxs H2=>j9 X.K m ((w::xs)++[]) H2 Q E:=λw N=>by
  refine ⟨H0,Y,S,T,δ,_,rfl,hS,hA,M,λxs L As us S' H' e1 e2 ex eu c p=>?_⟩
  subst ex
  split at p
  ·rename_i h6
   obtain ⟨j,G,s2⟩:=Mz e2 h6
   have o:j∈S':=Bj G
   have hv:j.v=some w:=by
    have:=Uw G
    rw[e1,N] at this
    exact (Cj this).symm
   obtain ⟨u,z,F⟩:=j
   have y:z=.drw:=s2
   subst y
   have hE:(⟨u,.drw,F⟩ : Ent)∈S'++(As++T):=Am _ o
   obtain ⟨C,c0,k0,f0,t,R,h3,h1,Z⟩:=c.ok _ hE
   have ew:some w=some (V.ref C):=hv.symm.trans t
   cases ew
   have U:F=[C]:=R
   subst U
   cases q:datas (As.map Ent.x) with
   | none=>rw[q] at p; exact p.elim
   | some ds =>
    rw[q] at p
    rw[Eb]
    refine ⟨C,us,As,L.n,ds,_,rfl,eu,λe B=>c.ok e (Ag _ (Am _ B)),λe B=>?_,⟨c0,k0,f0,h3,h1,Z⟩,q,p,λv d F n' h4 hn r rd nd fr h5 s=>?_⟩
    ·obtain ⟨_,_,hp⟩ := Cg.mp c.sep
     exact (hp _ o e (Am _ B)).1 (.inr rfl) C Ab
    ·have O:=c.dropL.drawn (Am _ o) rfl hv s h5 hn
     exact kk _ ⟨L.sl,n'⟩ v F S' h4 e1 e2 ((O.pushF rd nd (λa I=>c.dropL.free (fr a I)) (λa I=>c.new0 (fr a I))).tomid) r
  ·exact p.elim
 obtain ⟨j,G,s2⟩:=Mz hS J
 have o:j∈S:=Bj G
 obtain ⟨u,z,F⟩:=j
 have y:z=.drw:=s2
 subst y
 obtain ⟨C,c0,k0,f0,t,_⟩:=hA.ok _ (Am _ o)
 have N:(vs S)[i]? = some (some (.ref C)):=(Uw G).trans (congrArg some t)
 exact ⟨_,N,D _ N⟩
def Zf:Sp:=λvs H Q _=>∃c:Int,vs=[.int c]/\∀(p:Addr) (b:Int) (f:Bool) (a:Hp),H p=none->gJ a p b 0 f->Va H a->Q (.ref p) a
def A7(b:DA):DE:=λc P=>b c λd a=>match d with
 | [.dat _ (.int _)]=>P .drw a
 | _=>False
theorem L6(F:FnOk X.prog X.w X.K X.mg X.base CX k f g ps Zf)(M:Room k X.A)(hg:Gl X x)(U:X.mg x=some (.ref f))(N:PySem.W.keepIn X.K (.ref f)=true)(hb:Binds X.K g ps [])(I:Qx CX X E)(d:lN X (e::es) b)(l:(x == ("__debug__" : Str))=false:=by decide)(y:Bo (e::es) X.env=(false,eval e X.env)::Bo es X.env:=by rfl)(r:(Hm pos (Bo es X.env)).any (·.1)=false:=by rfl):Fw X (.Call (.Name x p) (e::es) [] pos) (A7 b):=by
 refine PE.imp (Wu F M hg U N hb .nil I d l y r) λσ H Q h=>?_
 obtain ⟨G,Y,S,T,O,P,rfl,hS,V,R,B⟩:=h
 refine ⟨G,Y,S,T,O,_,rfl,hS,V,R,λxs i As us S' H' e1 J L Z j p=>?_⟩
 split at p
 ·obtain ⟨v,F,rfl,c⟩:=Js Z j L
  obtain ⟨rfl,_⟩:=(c.told mem_mid).int_inv
  refine ⟨_,rfl,λq c' D m u o s=>?_⟩
  have C:=c.drop.grow (n':=i.n) s (Ak _)
  refine B _ i _ [q] S' m e1 J ((C.push (e:=⟨some (.ref q),.drw,[q]⟩) ⟨q,_,0,D,rfl,rfl,o,by decide,by omega⟩ (λf hf=>?_) λa d=>?_).tomid) p
  ·have t:=c.drop.free u f hf
   refine ⟨λ_ a d z=>?_,λ_ a d z=>?_⟩
   ·rw[Aj.mp d] at z
    exact t z
   ·rw[Aj.mp z] at d
    exact t (Fu _ _ d)
  ·rw[Aj.mp d]
   exact .inl (c.new0 u)
 ·exact p.elim
end
def args0(ds:List Af)(k:Nat):List DV:=ds.map (λd=>.dat .sh d)++Cc k .un
def bU(e:Ent):Ent:=match e.x with
 | .dat _ d=>⟨e.v,.dat .sh d,e.F⟩
 | _=>e
theorem Kl:∀{xs:List DV} {ds:List Af},datas xs=some ds->xs.length=ds.length
 | [],ds,h=>by cases h; rfl
 | x::xs,ds,h=>by
  cases x with
  | dat m d =>
   cases q:datas xs with
   | none=>simp [datas,q] at h
   | some a =>
    simp [datas,q] at h
    subst h
    rw[Bh,Bh,Kl q]
  | _=>cases h
theorem Wd:∀{As:List Ent} {ds:List Af},datas (As.map Ent.x)=some ds->(As.map bU).map Ent.x=ds.map (λd=>.dat .sh d)
 | [],ds,h=>by cases h; rfl
 | ⟨v,x,F⟩::As,ds,h=>by
  rw[Aq] at h
  cases x with
  | dat m d =>
   cases q:datas (As.map Ent.x) with
   | none=>simp [datas,q] at h
   | some a =>
    simp [datas,q] at h
    subst h
    rw[Aq,Aq,Aq,Wd q]
    rfl
  | _=>cases h
theorem bD:∀{As:List Ent} {ds:List Af},datas (As.map Ent.x)=some ds->∀e∈As,∃m d,e.x=.dat m d
 | [],ds,h,e,he=>nomatch he
 | ⟨v,x,F⟩::As,ds,h,e,he=>by
  rw[Aq] at h
  cases x with
  | dat m d =>
   cases q:datas (As.map Ent.x) with
   | none=>simp [datas,q] at h
   | some a =>
    rcases Al.mp he with rfl | he
    ·exact ⟨m,d,rfl⟩
    ·exact bD q e he
  | _=>cases h
theorem AV(As:List Ent):(As.map bU).map Ent.v=As.map Ent.v:=by
 rw[Dj]
 refine Gy λe _=>?_
 obtain ⟨v,x,F⟩:=e
 cases x <;> rfl
def Ih(k:Nat):List Ent:=Cc k ⟨none,.un,[]⟩
theorem dU{As:List Ent}(q:datas (As.map Ent.x)=some ds)(k:Nat):∀e∈As.map bU++Ih k,cells e=[]/\HW e.x=false:=λe he=>by
 rcases Aw.mp he with he | he
 ·obtain ⟨f,c,rfl⟩:=Cm.mp he
  obtain ⟨m,d,b⟩:=bD q f c
  obtain ⟨v,x,F⟩:=f
  have a:x=.dat m d:=b
  subst a
  exact ⟨rfl,rfl⟩
 ·rw[(Hk.mp he).2]
  exact ⟨rfl,rfl⟩
theorem Sx{c:Type}{R:c->c->Prop}:∀{l:List c},(∀a∈l,∀b∈l,R a b)->l.Pairwise R
 | [],_=>Ds
 | a::l,h=>Ay.mpr ⟨λb d=>h a Ab b (Ac _ d),Sx λx e y f=>h x (Ac _ e) y (Ac _ f)⟩
theorem xI{K:PySem.W.Frag}{As:List Ent}(q:datas (As.map Ent.x)=some ds)(ok:∀e∈As,Ir K H n e)(k:Nat):∀e∈As.map bU++Ih k,Ir K H n e:=λe he=>by
 rcases Aw.mp he with he | he
 ·obtain ⟨f,b,rfl⟩:=Cm.mp he
  obtain ⟨m,d,h⟩:=bD q f b
  have o:=ok f b
  obtain ⟨v,x,F⟩:=f
  have a:x=.dat m d:=h
  subst a
  obtain ⟨w,c,g,_⟩:=o
  exact ⟨w,c,g,λz=>(nomatch z),λz=>(nomatch z)⟩
 ·rw[(Hk.mp he).2]
  exact (rfl:([]:List Addr)=[])
theorem On{b c:Type}(f:b->c)(k:Nat)(a:b):(Cc k a).map f=Cc k (f a):=by
 rw[List.map_replicate]
def retE(R:Af->Prop):DEnds where
 nx:=λ_=>R .none
 rt:=λx _=>∃d,x=.dat .ow d/\R d
def retW(n:Nat)(R:Af->Nat->Prop):DEnds where
 nx:=λa=>n<=a.n/\R .none a.n
 rt:=λx a=>n<=a.n/\∃d,x=.dat .ow d/\R d a.n
section
variable{P:Bn}{w:World}{K:PySem.W.Frag}{mg:Str->Option Value}{base:Heap}
theorem Nh{x g:Str}{st:Stmt}{V:DB}(F:Fun K x g st f U)(S:FnScope N ps (Bv st))(hb:∀(i:Value) (A:Ck) (outer:List Env) (s:Ah) (H:Hp) (E:XK),Room k (A.deeper (Ss g (Bv st) s.heap.objs.size f i))->dF (Na Ja P w K mg base N g (Bv st) f i A outer s H E).nox (Kx st) V)(h:∀ds R,X ds R->ds.length=ps.length/\V (retE R) ⟨args0 ds (N.length - ps.length),0⟩):FnOk P w K mg base Ja (k+1) f U ps (Vg K X):=by
 refine F.ok S (λvs H Q E z=>?_) λi A outer s H us Q E Z z=>?_
 ·obtain ⟨W,n,ds,R,y,ok,q,G,_⟩:=z
  have l1:=(h ds R G).1
  have L:=Kl q
  rw[Ad] at L
  have I:=congrArg Fh y
  rw[Ad,Ad] at I
  omega
 ·obtain ⟨W,n,ds,R,y,ok,q,G,T⟩:=z
  obtain ⟨l1,hd⟩:=h ds R G
  have L:=Kl q
  rw[Ad] at L
  have I:=congrArg Fh y
  rw[Ad,Ad] at I
  refine ⟨_,hb i A outer s H E Z,H,λ_=>False,W.map bU++Ih (N.length - ps.length),[],⟨args0 ds (N.length - ps.length),0⟩,retE R,?_,?_,λ_ z=>(nomatch z),?_,hd,λJ O D e1 j p=>?_,λx J v M O D e1 j p=>?_,λ_ _ _ _ _ p=>p.elim,λ_ _ _ _ _ p=>p.elim⟩
  ·unfold vs L2.start Ih
   rw[Bp,AV,y,On,show us.length=ps.length by omega]
  ·unfold Sl args0 Ih
   rw[Bp,Wd q,On]
  ·rw[Eb]
   have B:=dU q (N.length - ps.length)
   refine ⟨λe t=>?_,Sx λa l b C=>⟨λhq c m=>?_,λhq c m=>?_⟩,λe t a l=>?_,λb o _ e=>e,λb o e=>⟨o,e⟩,λb hb=>hb.elim⟩
   ·have:=xI q ok (N.length - ps.length) e t
    obtain ⟨v,x,F⟩:=e
    cases x with
    | drw=>exact absurd (B _ t).2 (by show ¬ (true=false); decide)
    | _=>exact this
   ·rw[(B a l).1] at m; cases m
   ·rw[(B b C).1] at m; cases m
   ·rw[(B e t).1] at l; cases l
  ·exact T .non .none [] D p .non Dx (λ_ z=>(nomatch z)) λb o e=>j.same b o (λz=>z) e
  ·obtain ⟨d,rfl,r⟩:=p
   rw[show O++[(⟨some v,.dat .ow d,M⟩ : Ent)]=O++⟨some v,.dat .ow d,M⟩::[] from rfl] at j
   obtain ⟨u,Y,rd,nd,_⟩:=j.ok _ mem_mid
   cases Y
   refine T v d M D r rd (nd rfl) (λa l=>?_) λb o e=>j.same b o (λz=>z) e
   rcases j.new _ mem_mid a l with z | z
   ·exact z
   ·exact z.1.elim
theorem yO{x g:Str}{st:Stmt}{f:Addr}(F:Fun K x g st f fd)(S:FnScope N (B::ps) (Bv st))(hb:∀(t:Value) (A:Ck) (outer:List Env) (s:Ah) (H:Hp) (E:XK),Room k (A.deeper (Ss g (Bv st) s.heap.objs.size f t))->dF (Na Ja P w K mg base N g (Bv st) f t A outer s H E).nox (Kx st) db)(h:∀ds n R,df ds n R->ds.length=ps.length/\db (retW n R) ⟨.drw::args0 ds (N.length - (B::ps).length),n⟩):FnOk P w K mg base Ja (k+1) f fd (B::ps) (j9 K df):=by
 refine F.ok S (λvs H Q E z=>?_) λt A outer s H us Q E hr z=>?_
 ·obtain ⟨l,ws,As,n,ds,R,rfl,L,ok,nd,D,q,W,_⟩:=z
  have l1:=(h ds n R W).1
  have Z:=Kl q
  rw[Ad] at Z
  have X:=congrArg Fh L
  rw[Ad,Ad] at X
  rw[Bh,Bh]
  omega
 ·obtain ⟨l,ws,As,n,ds,R,rfl,L,ok,U,D,q,W,k1⟩:=z
  obtain ⟨l1,hd⟩:=h ds n R W
  have Z:=Kl q
  rw[Ad] at Z
  have X:=congrArg Fh L
  rw[Ad,Ad] at X
  -- what the end tells of the draws: they stand in an old cell
  have y:∀{E':List Ent} {n':Nat} {I:Hp},At K H (·=l) n' E' I->∀b o,b≠l->H b=some o->I b=some o:=λj b o nb e=>j.same b o nb e
  refine ⟨_,hb t A outer s H E hr,H,(·=l),⟨some (.ref l),.drw,[l]⟩::(As.map bU++Ih (N.length - (B::ps).length)),[],⟨.drw::args0 ds (N.length - (B::ps).length),n⟩,retW n R,?_,?_,λ_ z=>(nomatch z),?_,hd,λG S' I e1 j p=>?_,λx G v F' S' I e1 j p=>?_,λ_ _ _ _ _ p=>p.elim,λ_ _ _ _ _ p=>p.elim⟩
  ·unfold vs L2.start Ih
   rw[Aq,Bp,AV,L,On,Bh,Bh,show ws.length=ps.length by omega]
   rfl
  ·unfold Sl args0 Ih
   rw[Aq,Bp,Wd q,On]
  ·rw[Eb]
   have M:=dU q (N.length - (B::ps).length)
   have J:∀e∈As.map bU++Ih (N.length - (B::ps).length),l∉e.F:=λe he=>by
    rcases Aw.mp he with he | he
    ·obtain ⟨f,hf,rfl⟩:=Cm.mp he
     obtain ⟨v,x,F⟩:=f
     have:=U _ hf
     cases x <;> exact this
    ·rw[(Hk.mp he).2]
     exact Ba
   refine ⟨λe he=>?_,Ay.mpr ⟨λb m=>⟨λhq c i=>?_,λhq c i=>?_⟩,Sx λa C b m=>⟨λhq c i=>?_,λhq c i=>?_⟩⟩,λe he a C=>?_,λb o _ e=>e,λb o e=>⟨o,e⟩,λb hb=>?_⟩
   rotate_right
   ·subst hb
    obtain ⟨c,T,V,O,Y⟩:=D
    exact ⟨λz=>(by rw[show H b=some _ from O] at z; cases z),c,T,V,O,Y⟩
   ·rcases Al.mp he with rfl | he
    ·obtain ⟨c,T,V,O,Y,z3⟩:=D
     exact ⟨l,c,T,V,rfl,rfl,O,Y,z3⟩
    ·exact xI q ok _ e he
   ·rw[Aj.mp i]
    exact J b m
   ·rw[(M b m).1] at i; cases i
   ·rw[(M a C).1] at i; cases i
   ·rw[(M b m).1] at i; cases i
   ·rcases Al.mp he with rfl | he
    ·rw[Aj.mp C]
     exact .inr ⟨rfl,rfl⟩
    ·rw[(M e he).1] at C; cases C
  ·exact k1 .non .none [] G.n I p.1 p.2 .non Dx (λ_ z=>(nomatch z)) (j.xd l rfl).2 (y j)
  ·obtain ⟨hn,d,rfl,r⟩:=p
   rw[show S'++[(⟨some v,.dat .ow d,F'⟩ : Ent)]=S'++⟨some v,.dat .ow d,F'⟩::[] from rfl] at j
   obtain ⟨u,e2,rd,nd,_⟩:=j.ok _ mem_mid
   cases e2
   refine k1 v d F' G.n I hn r rd (nd rfl) (λa C=>?_) (j.xd l rfl).2 (y j)
   rcases j.new _ mem_mid a C with z | z
   ·exact z
   ·cases z.2
end
end DL
namespace L2
open PySem PySem.Spec PyProof.Rows
theorem zK{P:Bn}{w:World}{K:PySem.W.Frag}{mg O:Str->Option Value}{CX:vN}{k:Nat}{N a:Addr}(KX:K.In c.heap)(y:c.heap.Ns Do mg)(hb:c.heap.Ns builtinsNs O)(R:∀x:Str,x ≠ "__name__" -> O x=Pl x)(p:c.heap.NoLimit)(hg:c.gens=#[])(I:c.heap.get? a=some { cls:=.type "list",data:=.seq vs.toArray })(Z:Fm vs ns)(hl:ns.length<=Au)(hr:Room k callerA)(F:∀base:Heap,K.In base->base.Ns Do mg->FnOk P w K mg base CX k N T [x] sp)(j:∀(s:Ah) (u:Value),BindsTo s T ⟨[u],[]⟩ [(x,u)])(Q:∀H:Hp,GG H->DL.KL K H a (ns.map V.int)->sp [.ref a] H (λv _=>v=.bl true) λ_ _ _=>False)(L:∀H e s',CX [] H c (λ_ _ _=>False) e s'->False):Hy (model P w) callerA (.call (.ref N) ⟨[.ref a],[]⟩) (λr s'=>r=.ok (.ret (.bool true))/\OldK c.heap s'.heap/\s'.os=c.os/\Zd s'.gens) c:=by
 have U:=kH Z
 have l:=Z.length
 -- from an abstract heap in which nothing but the script may be tracked
 have i:∀H:Hp,GG H->DL.KL K H a (ns.map V.int)->aS P w H c.heap->(∀b,H b≠none->b=a)->(H a≠none->K.lookup a=none) ->
   Hy (model P w) callerA (.call (.ref N) ⟨[.ref a],[]⟩) (λr s'=>r=.ok (.ret (.bool true))/\OldK c.heap s'.heap/\s'.os=c.os/\Zd s'.gens) c:=by
  intro H Y hS B X hK
  have f:∀{b:Addr} {o:Obj},c.heap.get? b=some o->H b=none->(lS c.heap H).get? b=some o:=λe n=>F5 e n
  have S:∀{b:Addr} {o:Obj} {G:Array Hv} {D:Nat},c.heap.get? b=some o->o.data=.dict G D->H b=none:=λ{b o G D} e d=>by
   cases q:H b with
   | none=>rfl
   | some u =>
    have J:b=a:=X b (by rw[q]; simp)
    subst J
    rw[I] at e; cases e
    have d':Data.seq vs.toArray _=Data.dict G D:=d
    cases d'
  have g:∀{b:Addr} {m:Str->Option Value},c.heap.Ns b m->(lS c.heap H).Ns b m:=λ{b m} ⟨o,G,D,e,d,r⟩=>⟨o,G,D,f e (S e d),d,r⟩
  have A:K.In (lS c.heap H):=λb o e=>f (KX b o e) (by
   cases q:H b with
   | none=>rfl
   | some u =>
    have J:b=a:=X b (by rw[q]; simp)
    subst J
    rw[hK (by rw[q]; simp)] at e; cases e)
  have hM:Mod K mg (lS c.heap H):=⟨A,g y,⟨O,g hb,R⟩,let ⟨mc,h1,h2⟩:=p; ⟨mc,g h1,h2⟩⟩
  have e0:Env0 P w K mg (lS c.heap H) callerA [] c H:=⟨rfl,hM,λb o e=>CC e,Nat.le_of_eq (u0 _ _),trivial,λb hb=>absurd (show b∈([]:List Addr) from hb) (by simp),B,.of_eq hg⟩
  refine Pj ((F _ A (g y)).run callerA [] c H ⟨[.ref a],[]⟩ [.ref a] [.ref a] _ _ hr e0 (j c (.ref a)) (.cons rfl .nil) (Q H Y hS)) λr s' h=>?_
  cases r with
  | error e=>exact (L H e s' h).elim
  | ok fl =>
   cases fl with
   | next=>exact Lw h
   | brk=>exact Lw h
   | cont=>exact Lw h
   | ret u =>
    obtain ⟨v,H',os,C,un,t,r',q⟩:=h
    have q':v=.bl true:=q
    subst q'
    obtain rfl:u=Value.bool true:=r'
    refine ⟨rfl,OldK.of_keep λb o e=>?_,os,C⟩
    cases q:H b with
    | none=>exact un.keep b o e q (by intro z; exact absurd (show b∈([]:List Addr) from z) (by simp)) (by simp)
    | some u =>
     rcases Y b with z | ⟨ob,xs,z⟩
     ·rw[q] at z; cases z
     ·have z2:=un.frzs b ob _ z
      obtain ⟨e1,_⟩:=B b _ z
      obtain ⟨e2,_⟩:=t b _ z2
      rw[e] at e1; cases e1
      exact e2
 cases M:K.lookup a with
 | some o =>
  -- the script is one of the module's own objects
  have e:=KX a o M
  rw[I] at e
  cases e
  refine i (λ_=>none) (λ_=>.inl rfl) (.inr ⟨vs.toArray,_,M,by rw[Av,l]; exact hl,by simpa using U⟩) (λb u z=>by have E:(none:Option HO)=some u:=z; cases E) (λb z=>absurd rfl z) λz=>absurd rfl z
 | none =>
  refine i (λb=>if b=a then some (.frz { cls:=.type "list",data:=.seq vs.toArray } (.lst (ns.map V.int))) else none) (λb=>?_) (.inl ⟨{ cls:=.type "list",data:=.seq vs.toArray },if_pos rfl⟩) (λb u z=>?_) (λb z=>?_) λ_=>M
  ·by_cases hb:b=a
   ·exact .inr ⟨_,_,if_pos hb⟩
   ·exact .inl (if_neg hb)
  ·by_cases hb:b=a
   ·have E:=(if_pos hb).symm.trans z
    cases E
    subst hb
    exact ⟨I,by rw[Ad]; exact hl,vs,_,U,I⟩
   ·have E:=(if_neg hb).symm.trans z
    cases E
  ·by_cases hb:b=a
   ·exact hb
   ·exact absurd (if_neg hb) z
theorem walk_ofD{l:PySem.W.OpenLaw}{n k:Nat}{q:Bn}{loose:List Str}{XP:(Str->Option Value)->Heap->Prop}{K:Params->PySem.W.Frag}{CX:World->vN}{sp:World->Sp}(Q:l.most=some n)(z:n<=Au)(r:d.params.defaults=[])(L:Room k callerA)(E:∀(w:World) (h:Heap),YP w h->(K w.params).In h)(F:∀(w:World) (mg:Str->Option Value) (p:Addr) (h:Heap),(K w.params).In h->h.Ns Do mg->mg d.name=some (.ref p)->∃y:Cv,(∀(s:Ah) (u:Value),BindsTo s y ⟨[u],[]⟩ [(x,u)])/\∀base:Heap,(K w.params).In base->base.Ns Do mg->FnOk l.prog w (K w.params) mg base (CX w) k p y [x] (sp w))(A:∀(w:World) (H:Hp) (a:Addr) (ns:List Int),ns.length<=n->GG H->DL.KL (K w.params) H a (ns.map V.int)->sp w [.ref a] H (λv _=>v=.bl true) λ_ _ _=>False)(t:∀(w:World) (H:Hp) (s:Ah) (e:Value) (s':Ah),CX w [] H s (λ_ _ _=>False) e s'->False):PySem.W.WalkO q loose XP YP l.row.toRowW d [] (λf vs=>PySem.call f vs):=by
 refine Att.attach_call Q r λw C m mg X p o pm Z M a vs ns G Y S U R B j i c I=>?_
 have D:=E w _ Y
 obtain ⟨y,J,P⟩:=F w mg p _ D G.T.g B
 exact zK D G.T.g G.T.b G.T.builtins G.T.nolimit I j i (Ca c z) L P J (λH N O=>A w H a ns c N O) λH e s'=>t w H m e s'
end L2
namespace DL
open PySem PySem.Spec PyProof.Rows L2 Nd
def npk:List DV->Bool
 | []=>true
 | .dat .pk _::_=>false
 | _::xs=>npk xs
theorem mI:∀{S:List Ent} {a:List DV},S.map Ent.x=a->npk a=true->∀e∈S,Qg e.x=false
 | [],_,_,_,e,he=>nomatch he
 | ⟨v,x,F⟩::S,_,h,hn,e,he=>by
  subst h
  rw[Aq] at hn
  have : Qg x=false/\npk (S.map Ent.x)=true:=by
   cases x with
   | dat m d=>cases m <;> first | exact ⟨rfl,hn⟩ | cases hn
   | _=>exact ⟨rfl,hn⟩
  rcases Al.mp he with rfl | he
  ·exact this.1
  ·exact mI rfl this.2 e he
def own1:Md->Bool
 | .ow=>true
 | .tp=>true
 | _=>false
section
variable{K:PySem.W.Frag}{d H:Hp}{X:Addr->Prop}{n:Nat}{E:List Ent}
theorem At.write(h:At K d X n (⟨v,.dat m (.list ds),a::F⟩::E) H)(j:own1 m=true)(U:v=some (.ref a))(np:∀e∈E,Qg e.x=false)(r:RdFs K H ys es G)(s:G.Sublist F)(hz:es.length<=Au):At K d X n (⟨v,.dat m (.list es),a::G⟩::E) (upd H a (.lst ys)):=by
 obtain ⟨w,e1,rd,I,N⟩:=h.ok _ Ab
 obtain ⟨b,Z,S,Y,O,W,L,_⟩:=rd.list_inv
 have u:a::F=b::S:=L
 cases u
 have t:=Ay.mp h.sep
 have y:a∉F:=by
  cases m with
  | ow=>exact (Bx.mp (I rfl)).1
  | tp=>exact N rfl a F rfl
  | sh=>cases j
  | pk=>cases j
 have C:a∈cells ⟨v,.dat m (.list ds),a::F⟩:=by
  cases m <;> first | exact Ab | cases j
 have kp:∀{A:List Addr},a∉A->Kp A H (upd H a (.lst ys)):=λ{A} T b o q z=>by
  have : b≠a:=by
   rintro rfl
   rw[O] at q
   cases q
   rcases z with z | z
   ·exact T z
   ·rcases z with ⟨_,z⟩ | ⟨_,_,z⟩ <;> cases z
  rw[Dr this]
  exact q
 have B:d a=none:=by
  rcases h.new _ Ab a C with z | z
  ·exact z
  ·cases z.2
 have D:∀c∈cells ⟨v,.dat m (.list es),a::G⟩,c∈cells ⟨v,.dat m (.list ds),a::F⟩:=λc g=>by
  cases m with
  | ow =>
   rcases Al.mp g with z | z
   ·exact Al.mpr (.inl z)
   ·exact Al.mpr (.inr (s.subset z))
  | tp=>exact g
  | sh=>cases j
  | pk=>cases j
 have p:∀c∈a::G,c∈a::F:=λc g=>by
  rcases Al.mp g with z | z
  ·exact Al.mpr (.inl z)
  ·exact Al.mpr (.inr (s.subset z))
 have i:a∉G:=λz=>y (s.subset z)
 refine ⟨λf hf=>?_,?_,λf hf=>?_,λb o Q q=>?_,λb o q=>?_,λb M=>?_⟩
 ·rcases Al.mp hf with rfl | hf
  ·refine ⟨.ref a,U,.lst Dn hz (r.kp (kp i)),λz=>?_,λz c l e=>?_⟩
   ·exact Bx.mpr ⟨i,(Bx.mp (I z)).2.sublist s⟩
   ·cases e
    exact i
  ·exact (h.ok f (Ac _ hf)).kp (kp ((t.1 f hf).1 (.inl (np f hf)) a C)) (Ak _)
 ·refine Ay.mpr ⟨λf hf=>⟨λR c g=>(t.1 f hf).1 (.inl (np f hf)) c (D c g),λR c g z=>(t.1 f hf).2 (.inl ?_) c g (p c z)⟩,t.2⟩
  cases m <;> first | rfl | cases j
 ·rcases Al.mp hf with rfl | hf
  ·exact λc g=>h.new _ Ab c (D c g)
  ·exact h.new f (Ac _ hf)
 ·rw[Dr (Gf q B)]
  exact h.same b o Q q
 ·rw[Dr (Gf q B)]
  exact h.dom b o q
 ·obtain ⟨z,c,k,f,J,P⟩:=h.xd b M
  refine ⟨z,c,k,f,(Dr ?_).trans J,P⟩
  rintro rfl
  exact z B
end
theorem Mn{a:Type}:∀{l:List a} {i:Nat} {x:a},l[i]? = some x->l.Perm (x::l.eraseIdx i)
 | [],i,x,h=>by simp at h
 | z::l,0,x,h=>by
  simp at h
  subst h
  exact Hj _
 | z::l,i+1,x,h=>by
  have b:=Mn (l:=l) (i:=i) (x:=x) (by simpa using h)
  rw[Ve]
  exact (b.cons z).trans (Ef x z _)
theorem kJ{b:Type}{l:List b}{x y:b}(h:l[i]? = some x):(l.set i y).Perm (y::l.eraseIdx i):=by
 have a:=(Bb.mp h).1
 have q:=Mn (l:=l.set i y) (i:=i) (x:=y) (by rw[Oj]; simp [a])
 rw[List.eraseIdx_set_eq] at q
 exact q
theorem eT{K:PySem.W.Frag}{q H:Hp}(f:Sl S b)(y:∀e∈T,Qg e.x=false)(t:At K q X b.n (S++T) H)(N:b.sl[i]? = some (.dat m (.list ds)))(E:own1 m=true)(np:npk b.sl=true):∃a xs G,(vs S)[i]? = some (some (.ref a))/\H a=some (.lst xs)/\RdFs K H xs ds G/\ds.length<=Au/\∀ys g,RdFs K H ys es g->g.Sublist G->es.length<=Au->∃p,vs p=vs S/\Sl p ⟨b.sl.set i (.dat m (.list es)),b.n⟩/\At K q X b.n (p++T) (upd H a (.lst ys)):=by
 obtain ⟨d,c,B⟩:=Mz f N
 have I:d∈S:=Bj c
 obtain ⟨u,x,F⟩:=d
 have k:x=.dat m (.list ds):=B
 subst k
 obtain ⟨v,w,rd,_⟩:=t.ok _ (Am _ I)
 obtain ⟨a,xs,G,rfl,J,C,A,L⟩:=rd.list_inv
 have l:F=a::G:=A
 subst l
 refine ⟨a,xs,G,by rw[Uw c]; exact congrArg some w,J,C,L,λys g r D o=>?_⟩
 have M:=mI f np
 have O:(S++T).Perm (⟨u,.dat m (.list ds),a::G⟩::(S.eraseIdx i++T)):=by
  exact (Mn c).append_right T
 have z:=(t.perm O).write (es:=es) (ys:=ys) E w (λe he=>?_) r D o
 ·refine ⟨S.set i ⟨u,.dat m (.list es),a::g⟩,?_,?_,z.perm ?_⟩
  ·unfold vs
   rw[Ks]
   apply Ol
   intro j
   rw[Oj]
   split
   ·rename_i h
    subst h
    rw[Bg,c]
    split
    ·rfl
    ·rename_i s
     rw[Ad] at s
     exact absurd (Bb.mp c).1 s
   ·rfl
  ·unfold Sl at f ⊢
   rw[Ks,f]
  ·exact ((kJ c).append_right T).symm
 ·rcases Aw.mp he with he | he
  ·exact M e ((List.eraseIdx_sublist S i).subset he)
  ·exact y e he
def mL(i:Nat)(c:DE):DB:=λD b=>match b.sl[i]? with
 | some (.dat _ (.list _))=>c b λy a=>match a.sl[i]?,y with
  | some (.dat m (.list ds)),.dat _ e=>own1 m=true/\npk a.sl=true/\imm e=true/\ds.length<1000000/\D.nx ⟨a.sl.set i (.dat m (.list (ds++[e]))),a.n⟩
  | _,_=>False
 | _=>False
section
variable{X:Cx}{o e:Expr}{f:DE}{d c pos:Pos}{i:Nat}
theorem bY(ho:PE X o (mG i))(he:Fw X e f)(j:Ro o "append" X.env (eval o X.env)=eval o X.env:=by rfl)
  (z:((Hm c (Bo [e] X.env)).all (λx=>!x.1) && (backToKw c (keywordEach [] X.env)).all (λx=>x.1.isSome)
   && decide (([e]:List Expr).length+([]:List dR).length+(if ([]:List dR).isEmpty then 0 else 1)<30))=true:=by rfl)
  (k:(d.endLine == c.line)=true:=by rfl) (O:Bo [e] X.env=(false,eval e X.env)::Bo [] X.env:=by rfl) (g:(Hm c (Bo [] X.env)).any (·.1)=false:=by rfl)
  (B:Oy (.Call (.Attribute o "append" d) [e] [] c) none pos.line X.env=pure false:=by rfl) :
  zS X (.Expr (.Call (.Attribute o "append" d) [e] [] c) pos) (mL i f):=by
 refine PS.impD (eG (U1 PySem.F.plainAttrs_list PySem.F.slot_list_append PySem.F.type_list_append Oe ho (Ik he Oc O) j z k O g) B) λD σ H h=>?_
 obtain ⟨H0,Y,S,T,δ,P,rfl,N,W,M,A,Z,k2,k3,k4⟩:=h
 unfold mL at A
 split at A
 case h_2=>exact A.elim
 rename_i m0 I J
 obtain ⟨p,E,e3⟩:=Mz N J
 have hm:p∈S:=Bj E
 obtain ⟨u,x,F⟩:=p
 have C:x=.dat m0 (.list I):=e3
 subst C
 obtain ⟨v,R,rd,_⟩:=M.ok _ (Am _ hm)
 obtain ⟨a,xs,G,rfl,ha,ra,eF,hz⟩:=rd.list_inv
 refine ⟨.ref a,by rw[Uw E]; exact congrArg some R,.inl ⟨rfl,xs,Nm.of ha⟩,H0,Y,S,T,δ,_,rfl,N,M,A,λy U w F1 S1 H1 K e5 l q=>?_⟩
 split at q
 ·rename_i m ds m' e' t
  obtain ⟨q,p2,p3,p4,p5⟩:=q
  have r:=l.told mem_mid
  obtain rfl:=r.imm p3
  obtain ⟨b,s,G1,L,g2,Q,g4,g5⟩:=eT (es:=ds++[e']) e5 W l.drop t q p2
  rw[K,Uw E] at L
  have : some (V.ref b)=some (V.ref a):=(Cj L).symm.trans R
  cases this
  obtain ⟨S2,h1,h2,h3⟩:=g5 (s++[w]) (G1++[]) (Q.snoc r) (by rw[Eb]; exact Cp _) (by rw[Bm]; exact iQ (by simp; omega))
  have hl:=Q.len
  refine ⟨a,s,w,rfl,rfl,g2,Cb (by omega) (iQ (n:=1000000) (Ak _)),?_⟩
  rw[<- K,<- h1]
  exact Z ⟨_,_⟩ S2 _ h2 h3 p5
 ·exact q.elim
end
theorem RdFs.setI{K:PySem.W.Frag}:∀{xs:List V} {ds:List Af} {j:Nat} {v:V} {e:Af},RdFs K H xs ds []->RdF K H v e []->RdFs K H (xs.set j v) (ds.set j e) []:=by
 have b:∀{xs:List V} {ds:List Af} {F:List Addr} {j:Nat} {v:V} {e:Af},RdFs K H xs ds F->F=[]->RdF K H v e []->RdFs K H (xs.set j v) (ds.set j e) []:=by
  intro xs ds F j v e h
  induction j generalizing xs ds F with
  | zero =>
   intro c r
   cases h with
   | nil=>exact .nil
   | cons a t =>
    obtain ⟨rfl,rfl⟩:=Wl.mp c
    exact RdFs.cons (F:=[]) r t
  | succ j d =>
   intro c r
   cases h with
   | nil=>exact .nil
   | cons a t =>
    obtain ⟨rfl,rfl⟩:=Wl.mp c
    exact RdFs.cons (F:=[]) a (d t rfl r)
 intro xs ds j v e h r
 exact b h rfl r
def spLawD(K:PySem.W.Frag):Sp:=λc H Q _=>∃(a:Addr) (b:List Int),c=[.ref a]/\KL K H a (b.map V.int)/\b.length<=63/\∀d,Q (.bl true) d
def retL:DEnds where
 nx:=λ_=>False
 rt:=λx _=>∃m,x=.dat m (.bool true)
section
variable{P:Bn}{w:World}{K:PySem.W.Frag}{mg:Str->Option Value}{base:Heap}
theorem HK{x d B:Str}{st:Stmt}(F:Fun K x d st f u)(S:FnScope N [B] (Bv st))(hb:∀(g:Value) (A:Ck) (outer:List Env) (s:Ah) (H:Hp) (E:XK),Room k (A.deeper (Ss d (Bv st) s.heap.objs.size f g))->dF (Na Ja P w K mg base N d (Bv st) f g A outer s H E).nox (Kx st) C)(h:∀ns:List Int,ns.length<=63->C retL ⟨.scr ns::Cc (N.length - 1) .un,0⟩):FnOk P w K mg base Ja (k+1) f u [B] (spLawD K):=by
 refine F.ok S (λvs H Q E z=>?_) λg A outer s H O Q E I z=>?_
 ·obtain ⟨a,ns,rfl,_⟩:=z
  rfl
 ·obtain ⟨a,ns,rfl,J,i,G⟩:=z
  refine ⟨_,hb g A outer s H E I,H,λ_=>False,⟨some (.ref a),.scr ns,[]⟩::Ih (N.length - 1),[],⟨.scr ns::Cc (N.length - 1) .un,0⟩,retL,?_,?_,λ_ z=>(nomatch z),?_,h ns i,λr t y M q p=>p.elim,λx r v D t y M q p=>?_,λ_ _ _ _ _ p=>p.elim,λ_ _ _ _ _ p=>p.elim⟩
  ·unfold vs L2.start Ih
   rw[Aq,On]
   rfl
  ·unfold Sl Ih
   rw[Aq,On]
  ·rw[Eb]
   have n:∀e∈(⟨some (.ref a),.scr ns,[]⟩::Ih (N.length - 1):List Ent),cells e=[]:=λe he=>by
    rcases Al.mp he with rfl | he
    ·rfl
    ·rw[(Hk.mp he).2]
     rfl
   refine ⟨λe he=>?_,Sx λa j b l=>⟨λL c z=>?_,λL c z=>?_⟩,λe he a j=>?_,λb o _ e=>e,λb o e=>⟨o,e⟩,λb hb=>hb.elim⟩
   ·rcases Al.mp he with rfl | he
    ·exact ⟨a,rfl,rfl,J,i⟩
    ·rw[(Hk.mp he).2]
     exact (rfl:([]:List Addr)=[])
   ·rw[n a j] at z; cases z
   ·rw[n b l] at z; cases z
   ·rw[n e he] at j; cases j
  ·obtain ⟨m,rfl⟩:=p
   rw[show t++[(⟨some v,.dat m (.bool true),D⟩ : Ent)]=t++⟨some v,.dat m (.bool true),D⟩::[] from rfl] at q
   obtain ⟨rfl,_⟩:=(q.told mem_mid).bl_inv
   exact G y
end
def uS(i:Nat)(dl d:DO):DE:=λc P=>match c.sl[i]? with
 | some (.scr ns)=>dl c λl a=>d a λh b=>P (.dat .ow (.list ((Np ns l h).map Az))) b
 | _=>False
section
variable{X:Cx}{e b:Expr}{g:DE}{lo c:Option Expr}{dl f:DO}{pos d:Pos}{i:Nat}
theorem FZ{K:PySem.W.Frag}{f:DS}(q:Sl S f)(k:At K r Y f.n (S++T) H)(c:f.sl[i]? = some (.scr ns)):∃a,(vs S)[i]? = some (some (.ref a))/\(⟨some (.ref a),.scr ns,[]⟩ : Ent)∈S/\KL K H a (ns.map V.int)/\ns.length<=63:=by
 obtain ⟨b,h,o⟩:=Mz q c
 have j:b∈S:=Bj h
 obtain ⟨u,x,F⟩:=b
 have e:x=.scr ns:=o
 subst e
 obtain ⟨a,l,p,m⟩:=k.ok _ (Am _ j)
 have g:u=some (.ref a):=l
 have d:F=[]:=p
 subst g d
 exact ⟨a,by rw[Uw h],j,m⟩
theorem Q1(A:PE X e (mG i))(hl:IR X lo dl)(J:IR X c f):Fw X (.Subscript e (.Slice lo c none d) pos) (uS i dl f):=by
 refine PE.imp (rW (r:=HN X.K) AR A hl J) λσ H Q h=>?_
 obtain ⟨o,Y,S,T,w,P,rfl,y,x,j,k⟩:=h
 unfold uS at j
 split at j
 case h_2=>exact j.elim
 rename_i b u
 obtain ⟨a,M,G,R,E⟩:=FZ y x u
 have t:At X.K o Y w.n (S++⟨some (.ref a),.scr b,[]⟩::T) H:=(At.view1 x (Am _ G)).tomid
 refine ⟨.ref a,M,o,Y,S,⟨some (.ref a),.scr b,[]⟩::T,w,_,rfl,y,t,j,λl q F U C O m d=>?_⟩
 refine ⟨o,Y,F,⟨some (.ref a),.scr b,[]⟩::T,q,_,C,O,m,d,λh v L W I z g N=>?_⟩
 obtain ⟨a',B,_,s,_⟩:=g.ok _ mem_mid
 cases B
 refine ⟨a,_,rfl,s.sq,λp D=>?_⟩
 have : gH (b.map V.int) l h=(Np b l h).map V.int:=by
  rw[<- sH]; rfl
 rw[this]
 refine k _ v _ _ L _ I z (g.drop.newI (RdFs.ints _) (Ov _) ?_ D .ow) N
 rw[Ad]
 have Z:=(Qp b l h).length_le
 exact sz (by omega)
end
section
variable{K:PySem.W.Frag}{d H a:Hp}{Y:Addr->Prop}{n n':Nat}{E S T:List Ent}
theorem At.re(h:At K d Y n E H)(ok:∀e∈E,Ir K a n' e)(s:∀b o,¬ Y b->d b=some o->a b=some o)(g:∀b o,d b=some o->∃i,a b=some i)(j:∀b,Y b->d b≠none/\∃c k f,gJ a b c k f/\0<=k/\k<=(n':Int)):At K d Y n' E a:=⟨ok,h.sep,h.new,s,g,j⟩
end
def LN(i j:Int):Prop:=0<=j/\(Builtin.Int.intBits i:Int) * j<=2 ^ 27
theorem BN:aQ X (Kb .Pow) (rI LN λi j=>.int (i ^ j.toNat)):=LX λ_ _ _ _ _ _ _ a q=>pow_int a.1 a.2 q
def eU:DF:=λa n R=>a=[]/\n<=100000/\∀r:Int,R (.int r) (n+1)
theorem Y3{P:Bn}{w:World}{K:PySem.W.Frag}(F:FnOk P w K mg base Ja k f j ps Q9):FnOk P w K mg base Ja k f j ps (j9 K eU):=by
 refine F.imp λC H Q E h=>?_
 obtain ⟨v,l,y,n,D,R,rfl,u,ok,I,⟨c,g,i,d,A,B⟩,q,t,m⟩:=h
 obtain ⟨rfl,G,x⟩:=t
 have b:y=[]:=by
  have:=Kl q
  rw[Ad] at this
  exact Kg.mp this
 subst b
 have a:l=[]:=by
  cases l with
  | nil=>rfl
  | cons _ _=>cases u
 subst a
 refine ⟨v,c,g,i,rfl,d,A,by omega,λr p o e s=>?_⟩
 exact m (.int r) (.int r) [] (n+1) o (by omega) (x r) (.int r) Dx (λ_ z=>(nomatch z)) ⟨p,g+1,i,e,by omega,by omega⟩ s
def M7:PF:=λc R=>∃a b:List Int,c=[Bf a,Bf b]/\Cz 60 a/\Cz 60 b/\R (Bf (Mv (a++b)))
theorem Yi(r:Cz 60 ns):ns.length<=60:=Ca (NdS.len_leI (r.1.imp λ{x y} h=>eQ h) λe a=>Zr (r.2 e a).1 (r.2 e a).2) (by decide)
theorem sL{K:PySem.W.Frag}(r:RdF K H v (Bf ns) F):∃a,v=.ref a/\H a=some (.tup (ns.map V.int)):=by
 obtain ⟨a,d,rfl,b,c,_⟩:=RdF.tup_inv (ds:=ns.map Az) r
 obtain ⟨rfl,_⟩:=c.ints_inv
 exact ⟨a,rfl,b⟩
theorem Z3{K:PySem.W.Frag}(h:H a=some (.tup (ns.map V.int)))(l:ns.length<=1000000):RdF K H (.ref a) (Bf ns) []:=.tup h (by rw[Ad]; exact iQ l) (RdFs.ints ns)
theorem R9{K:PySem.W.Frag}{As:List Ent}(i:As.map Ent.v=us.map some)(ok:∀e∈As,Ir K H n e)(q:datas (As.map Ent.x)=some [g,f]):∃d c h j,us=[d,c]/\RdF K H d g h/\RdF K H c f j:=by
 have r:=Zx i q ok
 generalize As.flatMap Ent.F=G0 at r
 cases r with
 | cons a t =>
  cases t with
  | cons b t =>
   cases t
   exact ⟨_,_,_,_,rfl,a,b⟩
section
variable{P:Bn}{w:World}{K:PySem.W.Frag}{mg:Str->Option Value}{base:Heap}{k:Nat}{f:Addr}{c:Cv}{ps:List Str}
theorem FW(F:FnOk P w K mg base Ja k f c ps (EB K)):FnOk P w K mg base Ja k f c ps (Vg K M7):=by
 refine F.imp λM H Q E h=>?_
 obtain ⟨V,n,T,R,C,ok,q,u,j⟩:=h
 obtain ⟨a,b,rfl,g,i,I⟩:=u
 obtain ⟨U,O,L,S,rfl,l,v⟩:=R9 C ok q
 obtain ⟨A,rfl,m⟩:=sL l
 obtain ⟨B,rfl,D⟩:=sL v
 refine ⟨A,B,a,b,rfl,Wt.of m,Wt.of D,g,i,λr o p N y J G d s=>?_⟩
 have e:o=Mv (a++b):=mP (bZ J G) d
 subst e
 refine j (.ref r) _ [] p I (Z3 y ?_) Dx (λ_ z=>(nomatch z)) s
 have:=qM (ns:=a++b) (λx t=>by
  rcases Aw.mp t with z | z
  ·exact g.2 x z
  ·exact i.2 x z)
 omega
end
end DL
namespace Nd
open PySem PySem.Spec PyProof.Rows L2
end Nd
namespace DL
open PySem PySem.Spec PyProof.Rows L2 Nd
section
variable{X:Cx}
theorem Q2(xs:Array Value):slicePick xs none none (some 1)=xs:=slicePick_all xs
theorem G4(N:PE X e L)(U:PE X k F):PE X (.Subscript e (.Slice none none (some k) G) pos) (λg H Q=>L g H λx u=>F g u λy j=>∃a xs k,x=.ref a/\y=.int k/\Nm X.K j a xs/\(k=1\/k = -1)/\∀p,j p=none->Q (.ref p) (upd j p (.lst (if k=1 then xs else xs.reverse)))):=by
 intro c s g H Q I h
 refine Subscript_ (Gj (N c s g H _ I h) λv S i => ?_)
 obtain ⟨x,u,V,M,B⟩ := i
 refine wpAny_Slice ?_
 rw[evalPart_none]
 refine Ae (Ae ?_)
 rw[evalPart_some]
 refine Gj (U c S g u _ V B) λZ d i => ?_
 obtain ⟨y,j,Y,P,a,xs,n,W,R,O,l,q⟩ := i
 subst W R
 cases M
 obtain ⟨t,rfl⟩:=P
 have m:Inv X c g j { d with heap:=d.heap.push { cls:=.type "slice",data:=.fields #[.none,.none,.int n t] } }:=Y.kept (t':=d.toks) λb D q=>Ai _ q
 obtain ⟨f,r,E,J⟩:=m.list O
 have C:=r.length
 show wpAny (model X.prog X.w) X.A (iJ e (.Slice none none (some k) G) (.ref a) (.ref d.heap.objs.size)) (EP X c g Q) X.xe { d with heap:=d.heap.push { cls:=.type "slice",data:=.fields #[.none,.none,.int n t] } }
 refine tail_any (ops:=[.ref a,.ref d.heap.objs.size]) (T := "list") E.isList.typeIs lD.lookup (A5 E.isList (Heap.IsSliceOf.new ..) .none .none (.int n t) (by rcases l with rfl | rfl <;> simp) ?_ (by rw[Av] <;> omega)) (by with_unfolding_all rfl)
 rcases l with rfl | rfl
 ·rw[Q2]
  rw[if_pos rfl] at q
  exact ⟨.ref _,_,m.laid (o:=.lst xs) (t':=d.toks) (λb D q=>Ai _ q) (Ak _) ⟨J,f,0,r,by
   have z:=Ap (d.heap.push { cls:=.type "slice",data:=.fields #[.none,.none,.int 1 t] }) (o:={ cls:=.type "list",data:=.seq f.toArray }) rfl
   simpa using z⟩,rfl,q _ (m.hok.fresh (Ak _))⟩
 ·rw[B1]
  rw[if_neg (by decide)] at q
  exact ⟨.ref _,_,m.laid (o:=.lst xs.reverse) (t':=d.toks) (λb D q=>Ai _ q) (Ak _) ⟨by rw[Kc]; exact J,f.reverse,0,r.reverse,by
   have z:=Ap (d.heap.push { cls:=.type "slice",data:=.fields #[.none,.none,.int (-1) t] }) (o:={ cls:=.type "list",data:=.seq f.toArray.toList.reverse.toArray }) rfl
   simpa using z⟩,rfl,q _ (m.hok.fresh (Ak _))⟩
end
section
variable{K:PySem.W.Frag}{b H:Hp}{X:Addr->Prop}{n:Nat}{S T:List Ent}{v w:V}{m:Md}{d e:Af}{F G:List Addr}{p:Addr}{xs:List V}{ds:List Af}{P:DV->Prop}{i:Bool}
theorem At.newLP(h:At K b X n (S++⟨some v,.dat m d,F⟩::T) H)(r:RdFs K H xs ds G)(t:∀c∈G,c∈F)(s:F.Nodup->G.Nodup)(hz:ds.length<=Au)(o:H p=none)(q:Wa i m ds P):∃z E,At K b X n (S++⟨some (.ref p),z,E⟩::T) (upd H p (.lst xs))/\P z:=by
 cases i with
 | true=>exact ⟨_,_,h.drop.newI r q.1 hz o .ow,q.2⟩
 | false =>
  have q:P (.dat (Zz m) (.list ds)):=q
  refine ⟨_,p::G,?_,q⟩
  have A:=Ew o (.lst xs)
  have j:=h.mid
  have y:=Ay.mp j.sep
  obtain ⟨I,J,_,D,_⟩:=j.ok _ Ab
  have C:=h.drop.grow (n':=n) A (Ak _)
  have w:p∉F:=j.free o _ Ab
  have k:p∉G:=λz=>w (t _ z)
  have x:∀a∈cells ⟨some (.ref p),.dat (Zz m) (.list ds),p::G⟩,a=p\/(a∈cells ⟨some v,.dat m d,F⟩):=λa g=>by
   cases m with
   | ow =>
    rcases Al.mp g with z | z
    ·exact .inl z
    ·exact .inr (t _ z)
   | tp=>exact .inl (Aj.mp g)
   | sh=>exact .inl (Aj.mp g)
   | pk=>exact nomatch g
  refine (C.push (e:=⟨some (.ref p),.dat (Zz m) (.list ds),p::G⟩) ⟨_,rfl,.lst Dn hz (r.kp (Kp.of A)),λz=>?_,λz a l e=>?_⟩ (λf u=>?_) λa g=>?_).tomid
  ·cases m with
   | ow=>exact Bx.mpr ⟨k,s (D rfl)⟩
   | _=>cases z
  ·cases e
   exact k
  ·have B:=j.free o f (Ac _ u)
   refine ⟨λhq a g z=>?_,λhq a g z=>?_⟩
   ·rcases x a g with rfl | hc
    ·exact B z
    ·refine (y.1 f u).1 ?_ a hc z
     rcases hq with hq | hq
     ·exact .inl hq
     ·cases hq
   ·rcases Al.mp z with rfl | z
    ·exact B (Fu _ _ g)
    ·refine (y.1 f u).2 ?_ a g (t _ z)
     rcases hq with hq | hq
     ·refine .inl ?_
      cases m <;> first | rfl | exact hq
     ·exact .inr hq
  ·rcases x a g with rfl | hc
   ·exact .inl (j.new0 o)
   ·rcases j.new _ Ab a hc with z | z
    ·exact .inl z
    ·cases z.2
theorem RdFs.revP:∀{xs:List V} {ds:List Af} {F:List Addr},RdFs K H xs ds F->∃G,RdFs K H xs.reverse ds.reverse G/\G.Perm F
 | _,_,_,.nil=>⟨[],.nil,.refl _⟩
 | _,_,_,.cons (x:=x) (d:=d) (F:=F1) (G:=F2) a t=>by
  obtain ⟨G,b,c⟩:=RdFs.revP t
  rw[Oh,Oh]
  exact ⟨G++F1,b.snoc a,(c.append_right F1).trans Dy⟩
end
def mH(i:Bool)(x z:DV)(a:DS)(P:DV->DS->Prop):Prop:=match x,z with
 | .dat m (.list ds),.dat _ (.int k)=>(k=1\/k = -1)/\Wa i m (if k=1 then ds else ds.reverse) λz=>P z a
 | _,_=>False
def N6(i:Bool)(d c:DE):DE:=λe P=>d e λx a=>c a λz b=>mH i x z b P
section
variable{X:Cx}{e k:Expr}{d f:DE}{pos b:Pos}
theorem F6(K:Fw X e d)(N:Fw X k f):Fw X (.Subscript e (.Slice none none (some k) b) pos) (N6 i d f):=by
 refine PE.imp (G4 K N) λσ H Q h=>?_
 obtain ⟨B,Y,S,T,R,P,rfl,hS,W,V,w⟩:=h
 refine ⟨B,Y,S,T,R,_,rfl,hS,W,V,λx o v F O H1 e1 M r U=>?_⟩
 refine ⟨B,Y,O,⟨some v,x,F⟩::T,o,_,e1,M,r,U,λz l v2 F2 D H2 y J g b=>?_⟩
 unfold mH at b
 split at b
 ·rename_i m ds mz Z
  obtain ⟨rfl,_⟩:=(g.told mem_mid).int_inv
  obtain ⟨a,xs,G,rfl,ha,A,rfl,I⟩:=(g.told Fp).list_inv
  refine ⟨a,xs,Z,rfl,rfl,Nm.of ha,b.1,λp C=>?_⟩
  have n:=g.drop
  rcases b.1 with rfl | rfl
  ·rw[if_pos rfl]
   have q:=b.2
   rw[if_pos rfl] at q
   obtain ⟨z,u,j,t⟩:=n.newLP A (λc s=>Ac _ s) (λz=>(Bx.mp z).2) I C q
   exact w z l _ u D _ y J j t
  ·rw[if_neg (by decide)]
   have q:=b.2
   rw[if_neg (by decide)] at q
   obtain ⟨G',L,E⟩:=A.revP
   obtain ⟨z,u,j,t⟩:=n.newLP L (λc s=>Ac _ (E.mem_iff.mp s)) (λz=>E.nodup_iff.mpr (Bx.mp z).2) (by rw[Kc]; exact I) C q
   exact w z l _ u D _ y J j t
 ·exact b.elim
end
section
variable{prog:Bn}{w:World}{A:Ck}{E:Value->Ah->Prop}
theorem jV{vs:Array Value}(m:A.handled=none)(c:l≠I):∀(n i:Nat) (s:Ah) (Q:List Value->Ah->Prop),s.heap.IsListIter I l i->s.heap.IsList l vs->i+n<=vs.size->(∀h' u,h'.IsListIter I l (i+n)->h'.IsList l vs->(∀b o,b∉[I]->s.heap.get? b=some o->h'.get? b=some o)->Q ((vs.toList.drop i).take n) { s with heap:=h',toks:=u })->wpAny (model prog w) A (draw (.ref I) n) Q E s
 | 0,i,s,Q,hit,hl,_,hQ=>Ae (by simpa using hQ s.heap s.toks hit hl λ_ _ _ e=>e)
 | n+1,i,s,Q,hit,hl,hle,hQ=>by
  have a:i<vs.size:=by omega
  refine Aa ((Walks.list (prog:=prog) (w:=w) (A:=A) m I l c vs).item i s _ _ a ⟨hit,hl⟩ λv y q j d t=>?_)
  have j:vs[i]? = some v:=j
  refine Aa (Ce (jV m c n (i+1) _ _ d.1 d.2 (by omega) λr k f h g=>Ae ?_))
  have x:vs.toList.drop i=v::vs.toList.drop (i+1):=by
   have : vs[i]=v:=by simpa [a] using j
   rw[<- this]; simp [Tr,a]
  have z:=hQ r k (by rw[show i+(n+1)=i+1+n by omega]; exact f) h λb o p e=>g b o p (t b o p e)
  rw[x,List.take_succ_cons] at z
  exact z
variable{s:Ah}
theorem fE{env:Env}{vs:Array Value}(n:A.handled=none)(hl:s.heap.IsList l vs)(q:(Gg a env).length=vs.size)(c:(Gg a env).findIdx? (·.1)=none)(h:∀h' x,(∀b o,s.heap.get? b=some o->h'.get? b=some o)->wpAny (model prog w) A (assignInOrder ((Gg a env).map (·.2)) vs.toList) Q E { s with heap:=h',toks:=x }):wpAny (model prog w) A (Pm (.Tuple a x1 pos) env (.ref l)) Q E s:=by
 rw[assign_Tuple]
 have d:l≠s.heap.objs.size:=by obtain ⟨o,u,_⟩:=hl; exact By (Ax u)
 refine Aa (Hx ?_)
 unfold unpack
 rw[q,c]
 refine Aa (Ce ?_)
 unfold unpackItems notIterableAtAll
 refine Aa (Aa (wpAny_specialOf hl.typeIs slot_list_iter.lookup (Ae ?_)))
 simp only[Bt,if_false]
 refine Aa (Ce (lC hl ?_))
 refine Aa (Ce (jV n d vs.size 0 _ _ ⟨_,Ap _ rfl,rfl,rfl⟩ (hl.push _) (by omega) λm p i g t=>?_))
 have v:List.take vs.size (List.drop 0 vs.toList)=vs.toList:=by rw[Sm]; exact Gw (by simp)
 rw[v,if_neg (by simp)]
 have st:m.IsListIter s.heap.objs.size l vs.size/\m.IsList l vs:=⟨by simpa using i,g⟩
 refine Aa (Ce ((Walks.list (prog:=prog) (w:=w) (A:=A) n s.heap.objs.size l d vs).done _ _ _ st λr j f=>?_))
 simp only[Option.isSome_none,Bt,if_false]
 refine Ae (h r j λb o e=>?_)
 have k:b∉[s.heap.objs.size]:=λz=>absurd (Ax e) (by rw[Aj.mp z]; exact Ip _)
 exact f b o k (t b o k (Ai _ e))
end
section
variable{X:Cx}{pos:Pos}
def OS(K:PySem.W.Frag)(n:Nat)(t:F7):TG:=λv c H Q=>∃a b,v=.ref a/\Nm K H a b/\b.length=n/\t b c H Q
theorem GQ{k:Nat}(g:X.calm=true)(h:CU X es t)(m:(Gg es X.env).length=n:=by rfl)(c:(Gg es X.env).findIdx? (·.1)=none:=by rfl):PG X (.Tuple es k pos) (OS X.K n t):=by
 intro b s l H v u Q I r d
 obtain ⟨a,o,q,i,f,d⟩:=d
 subst q
 cases r
 obtain ⟨p,e,j,z⟩:=I.list i
 refine fE (I.ok.hd g) j.isList (by simp [m,<- f,e.length]) c λy w x=>?_
 exact h b _ l H o _ Q (I.kept (t':=w) x) (by simpa using e) d
end
def O7(n:Nat)(a:j8):DG:=λx b P=>match x with
 | .dat m (.list ds)=>ds.length=n/\a (ds.map λd=>.dat (Pe m) d) b P
 | _=>False
section
variable{X:Cx}{pos:Pos}
theorem ID{t:Nat}(y:X.calm=true)(h:F8 X es r)(L:(Gg es X.env).length=n:=by rfl)(e:(Gg es X.env).findIdx? (·.1)=none:=by rfl):IP X (.Tuple es t pos) (O7 n r):=by
 refine PG.imp (GQ y h L e) λv R H Q h=>?_
 obtain ⟨u,Y,S,T,A,x,F,P,rfl,J,i,d,k⟩:=h
 unfold O7 at d
 split at d
 ·rename_i m I
  obtain ⟨a,K,G,rfl,C,l,rfl,O⟩:=(i.told mem_mid).list_inv
  have g:=i.mid
  have o:=Ay.mp g.sep
  obtain ⟨w,_,_,j,_⟩:=g.ok _ Ab
  have p:∀b∈cells ⟨none,.dat (Pe m) .none,G⟩,b∈cells ⟨some (.ref a),.dat m (.list I),a::G⟩:=λb c=>by
   cases m with
   | ow=>exact Ac _ c
   | _=>exact nomatch c
  obtain ⟨M,s,D,N,B⟩:=At.unpack (m:=m) (E:=S++T) l (λz=>(Bx.mp (j z)).2) (λf q=>by
   refine ⟨λhq b c=>(o.1 f q).1 ?_ b (p b c),λhq b c z=>(o.1 f q).2 ?_ b c (Ac _ z)⟩
   ·rcases hq with hq | hq
    ·exact .inl hq
    ·cases hq
   ·rcases hq with hq | hq
    ·refine .inl ?_
     cases m <;> first | rfl | exact hq
    ·exact .inr hq) (λb c=>by
   rcases g.new _ Ab b (p b c) with z | z
   ·exact z
   ·cases z.2) i.drop
  refine ⟨a,K,rfl,Nm.of C,by rw[l.len]; exact d.1,u,Y,S,T,M,A,P,rfl,J,s,B.perm ?_,by rw[D]; exact d.2,k⟩
  rw[<- Br,<- Br]
  exact Dy.append_right T
 ·exact d.elim
end
def bW:D2:=λx y P=>match x,y with
 | .dat m (.list ds),.dat m' (.list es)=>m≠.pk/\m'≠.pk/\ds.length+es.length<=1000000/\P (.dat .tp (.list (ds++es)))
 | _,_=>False
theorem EG(h:m≠.pk):Qg (.dat m d)=false:=by cases m <;> first | rfl | exact absurd rfl h
theorem W3{K:PySem.W.Frag}:sZ K GL bW:=by
 intro Y X n S T x y v w F G H Q P g h k
 unfold bW at h
 split at h
 ·rename_i m O m' U
  obtain ⟨L,E,Z,p⟩:=h
  obtain ⟨b,C,t,rfl,J,B,rfl,_⟩:=(g.told mem_mid).list_inv
  obtain ⟨a,D,r,rfl,N,s,rfl,_⟩:=(g.told Fp).list_inv
  have l1:=s.len
  have l2:=B.len
  refine ⟨a,b,D,C,rfl,rfl,N,J,iQ (by omega),λq j=>?_⟩
  have u:=Ew j (.lst (D++C))
  have R:=Ay.mp g.mid.sep
  have I:=Ay.mp g.drop.mid.sep
  have A:∀f∈S++_::_::T,q∉f.F:=g.free j
  have V:q∉t:=λz=>A _ mem_mid (Ac _ z)
  have M:q∉r:=λz=>A _ Fp (Ac _ z)
  have o:=g.drop2.free j
  refine k _ _ _ _ (((g.drop2.grow (n':=n) u (Ak _)).push (e:=⟨some (.ref q),.dat .tp (.list (O++U)),q::(r++t)⟩) ⟨_,rfl,.lst Dn (by rw[Bm]; exact iQ (by omega)) ((s.app B).kp (Kp.of u)),λz=>(nomatch z),λ_ a l e=>?_⟩ (λf i=>⟨λ_ c d z=>?_,λ_ c d z=>?_⟩) λc d=>?_).tomid) p
  ·cases e
   exact λz=>(Aw.mp z).elim M V
  ·rw[Aj.mp d] at z
   exact o f i z
  ·rcases Al.mp z with z | z
   ·rw[z] at d
    exact o f i (Fu _ _ d)
   ·rcases Aw.mp z with z | z
    ·exact (I.1 f i).2 (.inl (EG L)) c d (Ac _ z)
    ·exact (R.1 f ((Cp S).append (Di _ T) |>.subset i)).2 (.inl (EG E)) c d (Ac _ z)
  ·rw[Aj.mp d]
   exact .inl (g.new0 j)
 ·exact h.elim
theorem wJ(e:Fw X a d)(hb:Fw X b c):Fw X (.BinOp a .Add b pos) (dI bW d c):=Zt A9 W3 e hb
end DL
namespace Nd
open PySem PySem.Spec PyProof.Rows
section
variable{prog:Bn}{w:World}{i:Type}[DecidableEq i](knd:HeapKind prog w i)
def DictE(h:Heap)(d:Addr)(xs:List (i×Addr×Value)):Prop :=
 ∃(o:Obj) (a:Array Hv) (b:Nat),h.get? d=some o/\o.ExactDict/\o.data=.dict a b/\a.toList=xs.map (Za knd)/\(∀x∈xs,knd.is h x.1 x.2.1)/\(xs.map (·.1)).Nodup/\b=a.size
variable{knd}
theorem DictE.of(x:DictE knd h d xs):h.DictOfH knd d xs:=let ⟨o,es,ep,a,b,c,e,f,g,_⟩:=x; ⟨o,es,ep,a,b,c,e,f,g⟩
variable{A:Ck}{E:Value->Ah->Prop}{s:Ah}{d a:Addr}{xs:List (i×Addr×Value)}{k:i}{v:Value}
theorem t8(d:(xs.map (·.1)).Nodup)(c:k∉xs.map (·.1)):((xs++[(k,a,v)]).map (·.1)).Nodup:=by
 rw[Bp,List.nodup_append]
 refine ⟨d,by simp,λx f y b e=>c ?_⟩
 rw[Aq,Oi,Aj] at b
 have b:y=k:=b
 rw[<- b,<- e]
 exact f
theorem J6(f:h.get? d=some o)(g:o.ExactDict)(hd:o.data=.dict es ep)(i:es.toList=xs.map (Za knd))(c:∀x∈xs,knd.is h x.1 x.2.1)(l:(xs.map (·.1)).Nodup)(e:ep=es.size)(b:knd.is h k a)(j:atKey xs k=none)(m:k∉xs.map (·.1)):DictE knd (h.update d (Obj.mapDictKeys λes=>es.push ⟨knd.hash k,.ref a,v⟩)) d (storedH xs k a v):=by
 rw[storedH_new j]
 refine ⟨_,_,ep+1,Fj _ f (Obj.isFreed_of_dict (Obj.data_mapDictKeys hd _)),g.mapDictKeys _,Obj.data_mapDictKeys hd _,by simp [i,Za],λx n=>?_,t8 l m,by rw[e,Array.size_push]⟩
 rcases Aw.mp n with z | z
 ·exact knd.keeps (c x z) f hd (Bs ..)
 ·rw[Aj.mp z]
  exact knd.keeps b f hd (Bs ..)
theorem gS(u:knd.room A)(b:knd.is s.heap k a)(B:DictE knd s.heap d xs)(q:∀h',DictE knd h' d (storedH xs k a v)->Cw d s.heap h'->Q () { s with heap:=h',toks:=s.toks+knd.draws k })(hz:xs.length<=Au):wpAny (model prog w) A (dictSet d (.ref a) v) Q E s:=by
 obtain ⟨o,D,F,g,n,f,m,c,h,i⟩:=B
 unfold dictSet
 try with_reducible refine Ce ?_
 refine Aa (knd.pyHash u b ?_)
 unfold dictSetHashed
 try with_reducible refine Ce ?_
 refine Aa (wpAny_dictFind_heap (s:={ s with toks:=s.toks+knd.draws k }) u b g f m c h (λr=>?_) λj p t=>?_)
 ·exact Aa (Ln (wpAny_updateDictKeys (hz:=by have e:=size_of_entries m; omega) (s:={ s with toks:=s.toks+knd.draws k }) g f (q _ (J6 g n f m c h i b (atKey_none_of_get r) (not_mem_keys_of_get r)) (Bs ..))))
 ·refine Aa (Ln (Aa (wpAny_updateDict (s:={ s with toks:=s.toks+knd.draws k }) g f (wpAny_point (q _ ?_ (Bs ..))))))
  rw[storedH_old (atKey_of_get h t)]
  refine ⟨_,_,F,Fj _ g (Obj.isFreed_of_dict (Obj.data_mapDict f _)),n.mapDict _,Obj.data_mapDict f _,?_,λx G=>?_,by rw[keys_map_putAt]; exact h,by rw[i]; simp⟩
  ·have z:=modify_map_putAt (Za knd) (λe:Hv=>{ e with val:=v }) k v (λ_ _=>rfl) h t
   rw[<- m] at z
   obtain ⟨l⟩:=D
   simpa using z
  ·obtain ⟨y,C,rfl⟩:=Cm.mp G
   unfold putAt
   split <;> exact knd.keeps (c y C) g f (Bs ..)
theorem setItemE(g:knd.room A.in1)(c:knd.is s.heap k a)(f:DictE knd s.heap d xs)(q:∀h',DictE knd h' d (storedH xs k a v)->Cw d s.heap h'->Q () { s with heap:=h',toks:=s.toks+knd.draws k })(hz:xs.length<=Au):wpAny (model prog w) A (setItem (.ref d) (.ref a) v) Q E s:=by
 have e:=f.of.typeIs
 unfold setItem
 try with_reducible refine Ce ?_
 refine Aa (lA e (by decide) ?_)
 refine Aa (Cy (name:=Cq "__setitem__") e slot_dict_setitem (Ct slot_dict_setitem e entry_dict_setitem ?_ (args_dict_setitem _ _ _)))
 show wpAny _ _ (bind (Builtin.Dict.notOrdered "__setitem__" ⟨[.ref d,.ref a,v],[]⟩) _) _ _ s
 refine Aa (Rb e ?_)
 show wpAny _ _ (bind (dictSet d (.ref a) v) _) _ _ s
 exact Aa (gS g c f (λh' a b=>Ae ⟨.none,rfl,Ae (q h' a b)⟩) hz)
end
end Nd
namespace L2
open PySem PySem.Spec PyProof.Rows
section
variable{a:Type}[DecidableEq a]
def bR(b:List (a×V))(k:a):Option V:=(b.find? λc=>decide (c.1=k)).map (·.2)
def Pr(b:List (a×V))(k:a)(v:V):List (a×V) :=
 if (b.any λc=>decide (c.1=k))=true then b.map (λc=>if c.1=k then (c.1,v) else c) else b++[(k,v)]
theorem aD{p:a×V}(e:p.1=k):bR (p::r) k=some p.2:=by simp [bR,Jm,e]
theorem aE{p:a×V}(e:¬ p.1=k):bR (p::r) k=bR r k:=by simp [bR,Jm,e]
theorem qO(k:a):∀b:List (a×V),(b.any λkv=>decide (kv.1=k))=(bR b k).isSome
 | []=>rfl
 | p::r=>by
  rw[Po]
  by_cases e:p.1=k
  ·simp only[aD e,decide_eq_true e,Bool.true_or,Option.isSome_some]
  ·rw[aE e,decide_eq_false e,Bool.false_or]; exact qO k r
theorem Rv(b:List (a×V))(k:a)(v:V):(Pr b k v).length<=b.length+1:=by
 unfold Pr
 split
 ·rw[Ad]; omega
 ·rw[Bm,Bh,Jl]; omega
theorem zF.isSome_eq(r:zF o u):o.isSome=u.isSome:=by
 cases o with
 | none=>cases u with
  | none=>rfl
  | some _=>exact (show False from r).elim
 | some _=>cases u with
  | none=>exact (show False from r).elim
  | some _=>rfl
theorem KV.val(r:KV c vs)(k:a):zF (bR c k) (valueAt vs k):=by
 unfold KV at r
 induction r with
 | nil=>exact Wj
 | @cons p q l f h t i =>
  obtain ⟨g,j⟩:=h
  by_cases e:p.1=k
  ·have d:q.1=k:=g.symm.trans e
   have b:valueAt (q::f) k=some q.2:=by simp [valueAt,Jm,d]
   rw[aD e,b]; exact j
  ·have d:¬ q.1=k:=λz=>e (g.trans z)
   have b:valueAt (q::f) k=valueAt f k:=by simp [valueAt,Jm,d]
   rw[aE e,b]; exact i
theorem KV.any(r:KV b vs)(k:a):(b.any λkv=>decide (kv.1=k))=vs.any λkv=>decide (kv.1=k):=by
 unfold KV at r
 induction r with
 | nil=>rfl
 | cons h t c=>rw[Po,Po,c,h.1]
theorem KV.repl(r:KV b vs)(k:a)(f:RelV y u):KV (b.map λkv=>if kv.1=k then (kv.1,y) else kv) (vs.map λkv=>if kv.1=k then (kv.1,u) else kv):=by
 unfold KV at r ⊢
 induction r with
 | nil=>exact .nil
 | @cons p q i j h t d =>
  rw[Aq,Aq]
  refine .cons ?_ d
  obtain ⟨c,g⟩:=h
  by_cases e:p.1=k
  ·rw[if_pos e,if_pos (c.symm.trans e)]; exact ⟨c,f⟩
  ·rw[if_neg e,if_neg (λz=>e (c.trans z))]; exact ⟨c,g⟩
theorem KV.put(r:KV b vs)(k:a)(c:RelV y u):KV (Pr b k y) (stored vs k u):=by
 unfold Pr stored
 rw[r.any k]
 by_cases e:(vs.any λd=>decide (d.1=k))=true
 ·rw[if_pos e,if_pos e]; exact r.repl k c
 ·rw[if_neg e,if_neg e]; exact Paired.snoc r ⟨rfl,c⟩
theorem KV.length{b:List (a×V)}(r:KV b vs):b.length=vs.length:=Paired.length r
end
theorem E4(r:RelV (kV k) u):(Jf P w).is k u=true:=by
 cases k with
 | inl i=>obtain ⟨t,e⟩:=(show ∃t,u=Lz i t from r); subst e; exact qS P w i t
 | inr x=>obtain ⟨t,e⟩:=(show ∃t,u=Value.str x t from r); subst e; exact rE P w x t
theorem kB:∀{ks:List Ky} {us:List Value},Gn (ks.map kV) us->ItemsAre (Jf P w) ks us
 | [],_,r=>by rw[Oi] at r; cases r; exact .nil
 | k::ks,_,r=>by
  rw[Aq] at r
  cases r with
  | cons h t=>exact .cons (E4 h) (kB t)
abbrev KT(H:Hp):List (List Ky×V)->List (List Ky×Addr×Value)->Prop:=Paired λp q=>p.1=q.1/\H q.2.1=some (.tup (p.1.map kV))/\RelV p.2 q.2.2
theorem KT.val(r:KT H a xs)(k:List Ky):zF (bR a k) ((atKey xs k).map (·.2)):=by
 induction r with
 | nil=>exact Wj
 | @cons p q j d h t g =>
  obtain ⟨f,_,i⟩:=h
  by_cases e:p.1=k
  ·have c:q.1=k:=f.symm.trans e
   have b:atKey (q::d) k=some q.2:=by simp [atKey,Jm,c]
   rw[aD e,b]; exact i
  ·have c:¬ q.1=k:=λz=>e (f.trans z)
   have b:atKey (q::d) k=atKey d k:=by simp [atKey,Jm,c]
   rw[aE e,b]; exact g
theorem KT.repl(r:KT H a xs)(k:List Ky)(g:RelV y u):KT H (a.map λkv=>if kv.1=k then (kv.1,y) else kv) (xs.map (putAt k u)):=by
 induction r with
 | nil=>exact .nil
 | @cons p q i j h t d =>
  rw[Aq,Aq]
  refine .cons ?_ d
  obtain ⟨b,c,f⟩:=h
  unfold putAt
  by_cases e:p.1=k
  ·rw[if_pos e,if_pos (b.symm.trans e)]; exact ⟨b,c,g⟩
  ·rw[if_neg e,if_neg (λz=>e (b.trans z))]; exact ⟨b,c,f⟩
theorem KT.put(r:KT H a xs)(k:List Ky)(hb:H b=some (.tup (k.map kV)))(c:RelV y u):KT H (Pr a k y) (storedH xs k b u):=by
 have e:(a.any λd=>decide (d.1=k))=(atKey xs k).isSome:=by
  rw[qO,(r.val k).isSome_eq,Option.isSome_map]
 unfold Pr storedH
 rw[e]
 by_cases q:(atKey xs k).isSome=true
 ·rw[if_pos q,if_pos q]; exact r.repl k c
 ·rw[if_neg q,if_neg q]; exact Paired.snoc r ⟨rfl,hb,c⟩
theorem KT.keeps(r:KT H a xs)(d:∀b ys,H b=some (.tup ys)->c b=some (.tup ys)):KT c a xs :=
 Paired.mapP r λ_ _ z=>⟨z.1,d _ _ z.2.1,z.2.2⟩
section
variable{P:Bn}{w:World}{H:Hp}{h:Heap}{a:Addr}
theorem S6(ok:aS P w H h)(e:Rd H a u):Kw P w H h a u:=e.ok ok
theorem wI(ok:aS P w H h)(e:Rd H a (.dK b)):b.length<=Au/\(a == Fs)=false/\∃vs,KV b vs/\h.DictOf (Jf P w) a vs :=
 show Kw P w H h a (.dK b) from S6 ok e
theorem LK(ok:aS P w H h)(e:H a=some (.dK b)):b.length<=Au/\(a == Fs)=false/\∃vs,KV b vs/\h.DictOf (Jf P w) a vs:=wI ok (.inl e)
theorem bH(ok:aS P w H h)(e:H a=some (.tup (ks.map kV))):(Ox (Jf P w)).is h ks a:=by
 obtain ⟨_,b,r,o,c,f,n,d⟩:=(show Kw P w H h a (.tup (ks.map kV)) from ok a _ e)
 exact ⟨o,b.toArray,n,c,f,d,by simpa using kB r⟩
theorem wQ(ok:aS P w H h)(e:Rd H a (.dT b)):b.length<=Au/\(a == Fs)=false/\∃xs,KT H b xs/\h.DictOfH (Ox (Jf P w)) a xs:=by
 obtain ⟨z,y,xs,r,o,n,s,i,k,j,d,f,A⟩:=(show Kw P w H h a (.dT b) from S6 ok e)
 refine ⟨z,y,xs,r,o,n,s,i,k,j,d,λx hx=>?_,f⟩
 have all:∀{l:List (List Ky×V)} {m:List (List Ky×Addr×Value)},KT H l m->∀x∈m,(Ox (Jf P w)).is h x.1 x.2.1:=by
  intro l m q
  induction q with
  | nil=>intro x hx; exact nomatch hx
  | @cons p q u v c t g =>
   intro x hx
   rcases Al.mp hx with e | hx
   ·subst e
    exact bH ok (by rw[<- c.1]; exact c.2.1)
   ·exact g x hx
 exact all r x hx
theorem lR(ok:aS P w H h)(e:Rd H a (.dT b)):b.length<=Au/\(a == Fs)=false/\∃xs,KT H b xs/\Nd.DictE (Ox (Jf P w)) h a xs:=by
 obtain ⟨z,y,xs,r,o,n,s,i,k,j,d,f,u⟩:=(show Kw P w H h a (.dT b) from S6 ok e)
 refine ⟨z,y,xs,r,o,n,s,i,k,j,d,λx hx=>?_,f,u⟩
 have all:∀{l:List (List Ky×V)} {m:List (List Ky×Addr×Value)},KT H l m->∀x∈m,(Ox (Jf P w)).is h x.1 x.2.1:=by
  intro l m q
  induction q with
  | nil=>intro x hx; exact nomatch hx
  | @cons p q v A c t g =>
   intro x hx
   rcases Al.mp hx with e | hx
   ·subst e
    exact bH ok (by rw[<- c.1]; exact c.2.1)
   ·exact g x hx
 exact all r x hx
theorem KZ(ok:aS P w H h)(e:H a=some (.dT b)):b.length<=Au/\(a == Fs)=false/\∃xs,KT H b xs/\h.DictOfH (Ox (Jf P w)) a xs:=wQ ok (.inl e)
end
def Q3(H:Hp)(a:Addr)(y:V)(r:Option V):Prop :=
 (∃c k,Rd H a (.dK c)/\y=kV k/\r=bR c k)\/∃c k b,Rd H a (.dT c)/\y=.ref b/\H b=some (.tup (k.map kV))/\r=bR c k
def FN(H:Hp)(a:Addr)(y v:V)(d:Hp):Prop :=
 (∃c k,H a=some (.dK c)/\y=kV k/\c.length<Au/\d=upd H a (.dK (Pr c k v))) \/
 ∃c k b,H a=some (.dT c)/\y=.ref b/\H b=some (.tup (k.map kV))/\c.length<Au/\d=upd H a (.dT (Pr c k v))
theorem Q3.t(e:H a=some (.dT c))(d:H b=some (.tup (k.map kV))):Q3 H a (.ref b) (bR c k):=.inr ⟨c,k,b,.inl e,rfl,d,rfl⟩
theorem FN.t(e:H a=some (.dT c))(d:H b=some (.tup (k.map kV)))(hl:c.length<Au):FN H a (.ref b) v (upd H a (.dT (Pr c k v))):=.inr ⟨c,k,b,e,rfl,d,hl,rfl⟩
section
variable{X:Cx}{d:List (Addr×Obj)}{f:St}{H:Hp}{s:Ah}{a:Addr}{y v:V}{u r:Value}{o:Option V}{A:Ck}{E:Value->Ah->Prop}
theorem Inv.big(I:Inv X d f H s):Fs<s.heap.objs.size:=by
 have h:Do<s.heap.objs.size:=(I.mod.glob.keeps I.bk).lt
 exact Xl (by decide) h
theorem zL(D:A.units+1<cLine)(I:Inv X d f H s)(g:Q3 H a y (some v))(x:RelV y u)(h:∀j s',Inv X d f H s'->RelV v j->Q j s'):wpAny (model X.prog X.w) A (Tt (.ref a) u) Q E s:=by
 rcases g with ⟨m,k,e,t,l⟩ | ⟨m,k,b,e,t,B,l⟩
 ·subst t
  obtain ⟨z,G,vs,c,r⟩:=wI I.hok e
  obtain ⟨j,q,i⟩:=zF.some_of (v:=v) (o:=valueAt vs k) (by rw[l]; exact c.val k)
  exact wpAny_getItem_of (E4 x) r.mapOf q (h j _ (I.tok _) i)
 ·subst t
  cases (show u=Be b from x)
  obtain ⟨z,G,F,c,r⟩:=wQ I.hok e
  obtain ⟨j,q,i⟩:=zF.some_of (v:=v) (o:=(atKey F k).map (·.2)) (by rw[l]; exact c.val k)
  obtain ⟨p,C,n⟩:=Option.map_eq_some_iff.mp q
  refine wpAny_getItem_heap (tupleKind_room_in1 D) (bH I.hok B) r C ?_
  rw[n]
  exact h j _ (I.tok _) i
theorem eB(I:Inv X d f H s)(j:LD (H a))(h:Cw a s.heap h')(i:∃q,h'.get? a=some q)(g:Kw X.prog X.w (upd H a c) h' a c):Inv X d f (upd H a c) { s with heap:=h',toks:=t' } :=
 I.write (x:=a) (e:=a) j (.inl rfl) (λb q k z=>(h.2 b k).trans z) i g
theorem HP{d:Hp}(z:b.length<=Au)(hd:(a == Fs)=false)(c:KV b vs)(e:h'.DictOf (Jf P w) a vs):Kw P w d h' a (.dK b):=⟨z,hd,vs,c,e⟩
theorem u3(T:A.units+1<cLine)(I:Inv X d f H s)(g:FN H a y v F)(J:RelV y u)(K:RelV v r)(h:∀s',Inv X d f F s'->Q () s'):wpAny (model X.prog X.w) A (setItem (.ref a) u r) Q E s:=by
 rcases g with ⟨i,k,e,o,l,B⟩ | ⟨i,k,b,e,o,G,l,B⟩
 ·subst o B
  obtain ⟨z,p,vs,j,C⟩:=LK I.hok e
  have hz:vs.length<=Au:=by rw[<- j.length]; exact z
  have t:(Pr i k v).length<=Au:=by have:=Rv i k v; omega
  refine wpAny_setItem_pairs (hsz:=hz) (E4 J) C λL m x=>h _ ?_
  have N:∃q,L.get? a=some q:=let ⟨q,_,_,n,_⟩:=m; ⟨q,n⟩
  exact eB I (by rw[e]; exact Wj) x N (HP t p (j.put k K) m)
 ·subst o B
  cases (show u=Be b from J)
  obtain ⟨z,p,U,j,C⟩:=lR I.hok (.inl e)
  have hz:U.length<=Au:=by rw[<- Paired.length j]; exact z
  have t:(Pr i k v).length<=Au:=by have:=Rv i k v; omega
  refine Nd.setItemE (hz:=hz) (tupleKind_room_in1 T) (bH I.hok G) C λL m x=>h _ ?_
  obtain ⟨q,V,S,n,R,O,P,_,M⟩:=m
  refine eB I (by rw[e]; exact Wj) x ⟨q,n⟩ ⟨t,p,_,(j.put k G K).keeps λc W D=>?_,q,V,S,n,R,O,P,M⟩
  rw[Dr (L0 D e (λz=>nomatch z))]
  exact D
end
def GF(i:Expr):Prop:=∀a b,subscripted i false a b=operate [a,b] (Tt a b)
theorem AY{prog:Bn}{w:World}{A:Ck}{E:Value->Ah->Prop}{T id:String}(hl:iR (.type T) "__getitem__" = pure (some (.builtin id)))(m:GF a)(h:wpAny (model prog w) A (eval b env) (λo f=>wpAny (model prog w) A (eval a env) (λi c=>c.TypeIs o T/\wpAny (model prog w) A (Tt o i) Q E c) E f) E s):wpAny (model prog w) A (eval (.Subscript b a pos) env) Q E s:=by
 refine Subscript_ (Da h (λo f j=>Da j (λi c d=>?_) λ_ _ x=>x) λ_ _ x=>x)
 obtain ⟨l,d⟩:=d
 unfold iJ
 refine Aa ?_
 rw[getitemInPython_of_ne l.not_modules]
 refine Aa (wpAny_specialOf l hl ?_)
 have g:wpAny (model prog w) A (subscripted a false o i) (λr e=>wpAny (model prog w) A (letTemporaryGo b o r >>= λ_=>pure r) Q E e) E c:=by
  rw[m o i]
  exact wpAny_operating (Da d (λr e k=>Aa (wpAny_letTemporaryGo (Ae k))) λ_ _ x=>x)
 first
  | exact Ae (Aa g)
  | exact Aa (Ae (Aa g))
  | exact Aa g
theorem qN{X:Cx}{c:List (Addr×Obj)}{h:St}(I:Inv X c h H s)(g:Q3 H a y o):s.TypeIs (.ref a) "dict" := by
 rcases g with ⟨d,k,e,_,_⟩ | ⟨d,k,b,e,_,_,_⟩
 ·obtain ⟨_,_,vs,_,f⟩:=wI I.hok e
  exact f.typeIs
 ·obtain ⟨_,_,i,_,f⟩:=wQ I.hok e
  exact f.typeIs
def JY(e ty:TE):TE:=λc H Q=>e c H λx d=>ty c d λy b=>∃a v,x=.ref a/\Q3 b a y (some v)/\Q v b
def LM(d ty g:TE):TS:=λD b H=>g b H λv h=>d b h λx f=>ty b f λy e=>∃a c,x=.ref a/\FN e a y v c/\D.nx b c
section
variable{X:Cx}{o i e b:Expr}{pos c f:Pos}{d ty j:TE}
theorem BS(t:X.A.units+1<cLine)(p:PE X o d)(C:PE X i ty)(B:GF i):PE X (.Subscript o i pos) (JY d ty):=by
 intro b s f H Q I h
 refine AY PySem.F.slot_dict_getitem.lookup B (Gj (p b s f H _ I h) λu m ⟨x,r,w,D,E⟩=>Gj (C b m f r _ w E) λJ L e => ?_)
 obtain ⟨y,q,j,l,a,v,k,g,n⟩ := e
 subst k
 obtain rfl:u=Be a:=D
 exact ⟨qN j g,zL t j g l λG K z c=>⟨v,q,z,c,n⟩⟩
theorem X3(C:X.A.units+1<cLine)(t:PE X o d)(M:PE X i ty)(L:PE X b j)(J:Oy b (some (.Subscript o i c)) pos.line X.env=pure false):PS X (.Assign [.Subscript o i c] b pos) (LM d ty j):=by
 intro e s f H D I h
 refine wpAny_Assign_Subscript (Gj (L e s f H _ I h) λr n ⟨v,z,F,m,O⟩=>Gj (t e n f z _ F O) λu E ⟨x,w,P,N,q⟩=>Gj (M e E f w _ P q) λR T ⟨y,S,G,p,a,K,l,g,B⟩=>?_) J
 subst l
 obtain rfl:u=Be a:=N
 exact u3 C G g p m λQ k=>⟨f,K,k,B⟩
end
theorem rA(h:Heap)(hb:Fs<h.objs.size):Kw P w H (h.push { cls:=.type "dict",data:=.dict #[] }) h.objs.size (.dT []) :=
 ⟨Dq _,beq_eq_false_iff_ne.mpr (Nk (By hb)),[],.nil,_,#[],0,Ap _ rfl,⟨rfl,rfl,rfl⟩,rfl,rfl,Dx,rfl⟩
structure M1(X:Cx)(o:Expr)(m:Str)(apos:Pos)(e:Expr)(cpos:Pos):Prop where
 base:Ro o m X.env (eval o X.env)=eval o X.env
 few:((Hm cpos (Bo [e] X.env)).all (λx=>!x.1) && (backToKw cpos (keywordEach [] X.env)).all (λx=>x.1.isSome)
  && decide (([e]:List Expr).length+([]:List dR).length+(if ([]:List dR).isEmpty then 0 else 1)<30))=true
 line:(apos.endLine == cpos.line)=true
 trees:Hm cpos (Bo [e] X.env)=[(false,eval e X.env)]
structure M2(X:Cx)(o:Expr)(m:Str)(apos:Pos)(e f:Expr)(cpos:Pos):Prop where
 base:Ro o m X.env (eval o X.env)=eval o X.env
 few:((Hm cpos (Bo [e,f] X.env)).all (λx=>!x.1) && (backToKw cpos (keywordEach [] X.env)).all (λx=>x.1.isSome)
  && decide (([e,f]:List Expr).length+([]:List dR).length+(if ([]:List dR).isEmpty then 0 else 1)<30))=true
 line:(apos.endLine == cpos.line)=true
 trees:Hm cpos (Bo [e,f] X.env)=[(false,eval e X.env),(false,eval f X.env)]
def RD(H:Hp)(a:Addr):Prop:=(∃b,Rd H a (.dK b))\/∃b,Rd H a (.dT b)
theorem GC{l:St}(I:Inv X f l H s)(d:RD H a):s.TypeIs (.ref a) "dict" /\ (∀b,Be a=.ref b->∃c,s.heap.get? b=some c/\c.dict=none)/\(a == Fs)=false:=by
 rcases d with ⟨h,e⟩ | ⟨h,e⟩
 ·obtain ⟨_,k,vs,_,g⟩:=wI I.hok e
  refine ⟨g.typeIs,λb q=>?_,k⟩
  cases q
  obtain ⟨c,_,_,i,j,_⟩:=g
  exact ⟨c,i,j.2.1⟩
 ·obtain ⟨_,k,m,_,g⟩:=wQ I.hok e
  refine ⟨g.typeIs,λb q=>?_,k⟩
  cases q
  obtain ⟨c,_,_,i,j,_⟩:=g
  exact ⟨c,i,j.2.1⟩
end L2
namespace Nd
open PySem PySem.Spec PyProof.Rows L2
section
variable{prog:Bn}{w:World}{A:Ck}{E:Value->Ah->Prop}{s:Ah}{a:Type}[DecidableEq a]
theorem uY(knd:HeapKind prog w a)(d:Addr)(hd:(d == Fs)=false):MeetsIn prog w (Builtin.«dict.__len__» ⟨[.ref d],[]⟩) (λ_ R s=>∃xs,s.heap.DictOfH knd d xs/\R (.ok (.ret (.int xs.length s.toks))) { s with toks:=s.toks+1 }) :=
 .of_wp λA R s ⟨xs,c,h⟩=>by
  obtain ⟨o,g,l,i,j,b,e,f,k⟩:=c
  show wpAny _ _ (dictSize d >>= _) _ _ s
  unfold dictSize
  refine Aa (Aa (Ka i b (Ae ?_)))
  show wpAny _ _ (Builtin.Dict.pendingCount d >>= _) _ _ s
  refine Aa (wpAny_pendingCount_other hd ?_)
  refine wpAny_ret_mkInt ?_
  have : g.size=xs.length:=size_of_entries e
  rw[Nat.add_zero,this]; exact h
theorem jL{knd:HeapKind prog w a}(hd:(d == Fs)=false)(b:s.heap.DictOfH knd d xs)(c:(xs.length:Int)<2 ^ 63)(h:Q (.int xs.length (s.toks+1)) { s with toks:=s.toks+1+1 }):wpAny (model prog w) A (call (.builtin "len") [.ref d]) Q E s:=by
 refine Mh kind_len plain_len entry_len (args_len1 _) ?_
 unfold Builtin.«len»
 refine Aa (m:=oneArg "len" _) (Ae ?_)
 refine Aa (m:=callSpecial? (.ref d) (Cq "__len__")) (Cy (name:=Cq "__len__") b.typeIs F.slot_dict_len
  (call_meetsIn F.slot_dict_len b.typeIs F.entry_dict_len (F.args_dict_len_1 _) (uY knd d hd) ⟨xs,b,?_⟩))
 show wpAny _ _ _ _ _ { s with toks:=s.toks+1 }
 refine Aa (Ce (Ae ?_))
 refine Aa (wpAny_letGo ?_)
 show wpAny _ _ (if ((xs.length:Nat):Int)<0 then _ else _) _ _ _
 rw[if_neg (by omega)]
 show wpAny _ _ (if ((xs.length:Nat):Int) ≥ 2 ^ 63 then _ else _) _ _ _
 rw[if_neg (by omega)]
 exact Aa (wpAny_mkInt (Ae ⟨_,rfl,h⟩))
end
def DK:List V->Hp->VK->Prop:=λc H Q=>∃a b,c=[V.ref a]/\H a=some (.dT b)/\Q (.int b.length) H
theorem zG:Nt X (.builtin "len") DK:=by
 intro d s k H f l Q I r h
 obtain ⟨a,c,rfl,e,q⟩:=h
 obtain ⟨u,rfl,i⟩:=vals1 r
 cases i
 obtain ⟨z,j,f,b,g⟩:=KZ I.hok e
 refine jL j g (by rw[<- Paired.length b]; rw[Gs] at z; omega) ?_
 rw[<- Paired.length b]
 exact ⟨.int c.length,H,I.tok _,⟨_,rfl⟩,q⟩
end Nd
namespace DL
open PySem PySem.Spec PyProof.Rows L2 Nd
def dD(ks:List (List Int×Af))(w:List Int):Option Af:=(ks.find? λp=>decide (p.1=w)).map (·.2)
def Ta(ks:List (List Int×Af))(w:List Int)(d:Af):List (List Int×Af) :=
 if (ks.any λp=>decide (p.1=w))=true then ks.map (λp=>if p.1=w then (p.1,d) else p) else ks++[(w,d)]
theorem eD{c i:Type}{f:c->i}(d:∀a b,f a=f b->a=b):∀{l m:List c},l.map f=m.map f->l=m
 | [],[],_=>rfl
 | [],_::_,h=>by cases h
 | _::_,[],h=>by cases h
 | a::l,b::m,h=>by
  obtain ⟨e,g⟩:=Ec h
  rw[d a b e,eD d g]
theorem Zp(h:Bf a=Bf b):a=b:=eD (λx y e=>by cases e; rfl) (PyData.tuple.inj h)
theorem Lr(h:Qs a=Qs b):a=b:=eD (λx y e=>by
 obtain ⟨d,c⟩:=Prod.mk.inj e
 exact Prod.ext (Zp d) c) (Ec h).2
theorem gU(h:Mb a=Mb b):a=b:=eD (λx y e=>by cases e; rfl) h
theorem oG(w:List Int):(Mb w).map kV=w.map V.int:=by
 unfold Mb
 rw[Dj]
 rfl
section
variable{K:PySem.W.Frag}{H b:Hp}
structure DRel(K:PySem.W.Frag)(H:Hp)(kv:List (List Ky×V))(ks:List (List Int×Af)):Prop where
 key:kv.map (·.1)=ks.map λp=>Mb p.1
 val:RdFs K H (kv.map (·.2)) (ks.map (·.2)) []
theorem RdF.dict_inv(h:RdF K H v (.dict X) F):∃a kv ks,v=.ref a/\X=Qs ks/\H a=some (.dT kv)/\DRel K H kv ks/\F=[a]:=by
 cases h with
 | dic h e b=>exact ⟨_,_,_,rfl,rfl,h,⟨e,b⟩,rfl⟩
theorem RdFs.cons_nil(h:RdFs K H (x::xs) (d::ds) F)(b:F=[]):RdF K H x d []/\RdFs K H xs ds []:=by
 cases h with
 | cons a t =>
  obtain ⟨rfl,rfl⟩:=Wl.mp b
  exact ⟨a,t⟩
theorem Qu(r:DRel K H kv ks):kv.length=ks.length:=by
 have:=congrArg Fh r.key
 simpa using this
theorem qG(w:List Int):∀{kv:List (List Ky×V)} {ks:List (List Int×Af)},DRel K H kv ks->(bR kv (Mb w)=none/\dD ks w=none)\/∃v d,bR kv (Mb w)=some v/\dD ks w=some d/\RdF K H v d []
 | [],[],_=>.inl ⟨rfl,rfl⟩
 | [],_::_,r=>by cases r.key
 | _::_,[],r=>by cases r.key
 | (k,v)::kv,(u,d)::ks,r=>by
  obtain ⟨a,b⟩:=Ec r.key
  have a:k=Mb u:=a
  obtain ⟨e,c⟩:=RdFs.cons_nil r.val rfl
  by_cases h:u=w
  ·subst h a
   refine .inr ⟨v,d,aD rfl,by simp [dD],e⟩
  ·have f:¬ k=Mb w:=λz=>h (gU (a.symm.trans z))
   rw[aE f,show dD ((u,d)::ks) w=dD ks w by simp [dD,h]]
   exact qG w ⟨b,c⟩
theorem L7(w:List Int)(r:DRel K H kv ks):(kv.any λp=>decide (p.1=Mb w))=(ks.any λp=>decide (p.1=w)):=by
 have a:(kv.any λp=>decide (p.1=Mb w))=((kv.map (·.1)).any λk=>decide (k=Mb w)):=by rw[dQ]; rfl
 rw[a,r.key,dQ]
 congr 1
 funext p
 exact decide_eq_decide.mpr ⟨λz=>gU z,λz=>by show Mb p.1=Mb w; rw[z]⟩
theorem kD(w:List Int)(c:RdF K H v d []):∀{kv:List (List Ky×V)} {ks:List (List Int×Af)},DRel K H kv ks->DRel K H (kv.map λp=>if p.1=Mb w then (p.1,v) else p) (ks.map λp=>if p.1=w then (p.1,d) else p)
 | [],[],r=>r
 | [],_::_,r=>by cases r.key
 | _::_,[],r=>by cases r.key
 | (k,v')::kv,(u,d')::ks,r=>by
  obtain ⟨a,e⟩:=Ec r.key
  have a:k=Mb u:=a
  obtain ⟨g,f⟩:=RdFs.cons_nil r.val rfl
  have b:=kD w c (kv:=kv) (ks:=ks) ⟨e,f⟩
  rw[Aq,Aq]
  by_cases h:u=w
  ·rw[if_pos (show k=Mb w by rw[a,h]),if_pos h]
   exact ⟨by rw[Aq,Aq,b.key]; exact congrArg (·::_) a,RdFs.cons (F:=[]) (G:=[]) c b.val⟩
  ·have i:¬ k=Mb w:=λz=>h (gU (a.symm.trans z))
   rw[if_neg (show ¬ (k,v').1=Mb w from i),if_neg (show ¬ (u,d').1=w from h)]
   exact ⟨by rw[Aq,Aq,b.key]; exact congrArg (·::_) a,RdFs.cons (F:=[]) (G:=[]) g b.val⟩
theorem qL(w:List Int)(a:RdF K H v d [])(r:DRel K H kv ks):DRel K H (Pr kv (Mb w) v) (Ta ks w d):=by
 unfold Pr Ta
 rw[L7 w r]
 split
 ·exact kD w a r
 ·refine ⟨by rw[Bp,Bp,r.key]; rfl,?_⟩
  rw[Bp,Bp]
  exact r.val.snoc a
theorem DRel.kp(r:DRel K H kv ks)(k:Kp [] H b):DRel K b kv ks:=⟨r.key,r.val.kp k⟩
end
def KC:R2:=λx y H Q=>∃a v,x=.ref a/\Q3 H a y (some v)/\Q v H
def nV:D2:=λx y P=>match x,y with
 | .dat _ (.dict X),.dat _ k=>∃a w d,X=Qs a/\k=Bf w/\dD a w=some d/\P (.dat .ow d)
 | _,_=>False
section
variable{K:PySem.W.Frag}
theorem Zg(r:RdF K H v (Bf w) F):∃b,v=.ref b/\H b=some (.tup ((Mb w).map kV)):=by
 obtain ⟨b,d,rfl,c,a,_⟩:=r.tup_inv
 obtain ⟨rfl,_⟩:=a.ints_inv
 exact ⟨b,rfl,by rw[oG]; exact c⟩
theorem BY:sZ K KC nV:=by
 intro C X n S T x y v w F G H Q P f e k
 unfold nV at e
 split at e
 ·obtain ⟨s,u,d,rfl,rfl,c,p⟩:=e
  obtain ⟨b,rfl,r⟩:=Zg (f.told mem_mid)
  obtain ⟨a,A,o,rfl,q,j,g,_⟩:=(f.told Fp).dict_inv
  obtain rfl:=Lr q
  rcases qG u g with ⟨_,z⟩ | ⟨m,B,h,l,i⟩
  ·rw[z] at c; cases c
  ·rw[l] at c; cases c
   exact ⟨a,m,rfl,h▸Q3.t j r,k _ _ [] H (f.drop2.pushI i) p⟩
 ·exact e.elim
end
section
variable{X:Cx}{a b:Expr}{d c:DE}{pos:Pos}
theorem OV(a:n+64<cLine):n+1<cLine:=by omega
theorem Ww(g:X.A.units+64<cLine)(f:Fw X a d)(hb:Fw X b c)(e:GF b:=by intro _ _; rfl):Fw X (.Subscript a b pos) (dI nV d c):=PE.imp (BS (OV g) f hb e) (pN BY)
end
def tT:DC:=λb P=>match b with
 | [.dat _ (.dict X)]=>∃a,X=Qs a/\P (.dat .ow (.int a.length))
 | _=>False
theorem Y2{K:PySem.W.Frag}:We K DK tT:=by
 intro q X n S T l o H Q P g b c k
 unfold tT at c
 split at c
 ·rename_i e
  obtain ⟨v,F,rfl,b⟩:=Js g b e
  obtain ⟨m,rfl,p⟩:=c
  obtain ⟨a,h,i,rfl,j,f,d,_⟩:=(b.told mem_mid).dict_inv
  obtain rfl:=Lr j
  refine ⟨a,h,rfl,f,?_⟩
  rw[Qu d]
  exact k _ _ [] H (b.drop.pushI (.int _)) p
 ·exact c.elim
theorem At.writeD{K:PySem.W.Frag}{j H:Hp}{X:Addr->Prop}(h:At K j X n (⟨v,.dat .ow (.dict (Qs ks)),[a]⟩::E) H)(F:v=some (.ref a))(np:∀e∈E,Qg e.x=false)(r:DRel K H kv' ks'):At K j X n (⟨v,.dat .ow (.dict (Qs ks')),[a]⟩::E) (upd H a (.dT kv')):=by
 obtain ⟨w,N,rd,M,I⟩:=h.ok _ Ab
 obtain ⟨b,J,B,G,L,u,_,s⟩:=rd.dict_inv
 have i:[a]=[b]:=s
 cases i
 have g:=Ay.mp h.sep
 have kp:∀{l:List Addr},a∉l->Kp l H (upd H a (.dT kv')):=λ{l} D b o q z=>by
  have : b≠a:=by
   rintro rfl
   rw[u] at q
   cases q
   rcases z with z | z
   ·exact D z
   ·rcases z with ⟨_,z⟩ | ⟨_,_,z⟩ <;> cases z
  rw[Dr this]
  exact q
 have m:j a=none:=by
  rcases h.new _ Ab a Ab with z | z
  ·exact z
  ·cases z.2
 refine ⟨λf hf=>?_,Ay.mpr ⟨λf hf=>⟨λC c d=>(g.1 f hf).1 (.inl (np f hf)) c d,λC c d=>(g.1 f hf).2 (.inl rfl) c d⟩,g.2⟩,λf hf=>?_,λb o A q=>?_,λb o q=>?_,λb t=>?_⟩
 ·rcases Al.mp hf with rfl | hf
  ·exact ⟨.ref a,F,.dic Dn r.key (r.val.kp (kp Ba)),λ_=>Bx.mpr ⟨Ba,Dx⟩,λz=>nomatch z⟩
  ·exact (h.ok f (Ac _ hf)).kp (kp ((g.1 f hf).1 (.inl (np f hf)) a Ab)) (Ak _)
 ·rcases Al.mp hf with rfl | hf
  ·exact λc d=>h.new _ Ab c d
  ·exact h.new f (Ac _ hf)
 ·rw[Dr (Gf q m)]
  exact h.same b o A q
 ·rw[Dr (Gf q m)]
  exact h.dom b o q
 ·obtain ⟨z,c,k,f,p,y⟩:=h.xd b t
  refine ⟨z,c,k,f,(Dr ?_).trans p,y⟩
  rintro rfl
  exact z m
theorem pI{K:PySem.W.Frag}(f:Sl S b)(t:∀e∈T,Qg e.x=false)(q:At K o X b.n (S++T) H)(G:b.sl[i]? = some (.dat .ow (.dict (Qs ks))))(np:npk b.sl=true):∃a kv,(vs S)[i]? = some (some (.ref a))/\H a=some (.dT kv)/\DRel K H kv ks/\∀kv',DRel K H kv' ks'->∃m,vs m=vs S/\Sl m ⟨b.sl.set i (.dat .ow (.dict (Qs ks'))),b.n⟩/\At K o X b.n (m++T) (upd H a (.dT kv')):=by
 obtain ⟨d,c,z⟩:=Mz f G
 have B:d∈S:=Bj c
 obtain ⟨u,x,F⟩:=d
 have h:x=.dat .ow (.dict (Qs ks)):=z
 subst h
 obtain ⟨v,s,rd,_⟩:=q.ok _ (Am _ B)
 obtain ⟨a,kv,D,rfl,A,C,l,y⟩:=rd.dict_inv
 obtain rfl:=Lr A
 have k:F=[a]:=y
 subst k
 refine ⟨a,kv,by rw[Uw c]; exact congrArg some s,C,l,λkv' r=>?_⟩
 have E:=mI f np
 have w:=(q.perm ((Mn c).append_right T)).writeD (ks':=ks') (kv':=kv') s (λe he=>?_) r
 ·refine ⟨S.set i ⟨u,.dat .ow (.dict (Qs ks')),[a]⟩,?_,?_,w.perm ((kJ c).append_right T).symm⟩
  ·unfold vs
   rw[Ks]
   apply Ol
   intro j
   rw[Oj]
   split
   ·rename_i g
    subst g
    rw[Bg,c]
    split
    ·rfl
    ·rename_i p
     rw[Ad] at p
     exact absurd (Bb.mp c).1 p
   ·rfl
  ·unfold Sl at f ⊢
   rw[Ks,f]
 ·rcases Aw.mp he with he | he
  ·exact E e ((List.eraseIdx_sublist S i).subset he)
  ·exact t e he
def dputB(i:Nat)(y z:DV)(a:DS)(D:DEnds):Prop:=match a.sl[i]?,y,z with
 | some (.dat .ow (.dict X)),.dat _ e,.dat _ k=>npk a.sl=true/\imm e=true/\∃b w,X=Qs b/\k=Bf w/\b.length<1000000/\D.nx ⟨a.sl.set i (.dat .ow (.dict (Qs (Ta b w e)))),a.n⟩
 | _,_,_=>False
def isDct:Option DV->Bool
 | some (.dat _ (.dict _))=>true
 | _=>false
def DX(i:Nat)(c d:DE):DB:=λD e=>d e λy a=>isDct a.sl[i]? = true/\c a λz b=>dputB i y z b D
section
variable{X:Cx}{o i e:Expr}{f g:DE}{j l pos c:Pos}{n:Nat}
theorem R1{K:PySem.W.Frag}{o H:Hp}{c:DS}(l:Sl S c)(h:At K o Y c.n (S++T) H)(b:isDct c.sl[n]? = true):∃a kv,(vs S)[n]? = some (some (.ref a))/\H a=some (.dT kv):=by
 cases q:c.sl[n]? with
 | none=>rw[q] at b; cases b
 | some x =>
  rw[q] at b
  obtain ⟨e,f,j⟩:=Mz l q
  obtain ⟨u,y,F⟩:=e
  have d:y=x:=j
  subst d
  have g:(⟨u,y,F⟩ : Ent)∈S:=Bj f
  match y,b with
  | .dat m (.dict X),_ =>
   obtain ⟨v,k,rd,_⟩:=h.ok _ (Am _ g)
   obtain ⟨a,kv,p,rfl,_,i,_⟩:=rd.dict_inv
   exact ⟨a,kv,by rw[Uw f]; exact congrArg some k,i⟩
theorem Z1(hu:X.A.units+64<cLine)(ho:PE X o (mG n))(hi:Fw X i f)(Q:Fw X e g)(hs:Oy e (some (.Subscript o i c)) pos.line X.env=pure false:=by rfl):zS X (.Assign [.Subscript o i c] e pos) (DX n f g):=by
 refine PS.impD (X3 (OV hu) ho hi Q hs) λD σ H h=>?_
 obtain ⟨E,Y,S,T,δ,P,rfl,hS,M,hA,hd,N,k2,k3,k4⟩:=h
 refine ⟨E,Y,S,T,δ,_,rfl,hS,hA,hd,λy p v F S1 H1 L I m q=>?_⟩
 obtain ⟨q,p2⟩:=q
 obtain ⟨a,kv,x,ha⟩:=R1 I m.drop q
 rw[L] at x
 refine ⟨.ref a,x,E,Y,S1,⟨some v,y,F⟩::T,p,_,L,I,m,p2,λz Z w G S2 H2 C e4 j l=>?_⟩
 unfold dputB at l
 split at l
 ·rename_i X0 m1 d m2 k B
  obtain ⟨l,p4,V,u,rfl,rfl,p5,O⟩:=l
  obtain ⟨b,rfl,W⟩:=Zg (j.told mem_mid)
  have r:=j.told Fp
  obtain rfl:=r.imm p4
  obtain ⟨a',s,J,g2,K,g4⟩:=pI (ks':=Ta V u d) e4 M j.drop2 B l
  rw[C,x] at J
  cases J
  obtain ⟨S3,R,h2,U⟩:=g4 (Pr s (Mb u) v) (qL u r K)
  refine ⟨a,_,rfl,FN.t g2 W (by rw[Qu K]; exact Cb p5 (iQ (n:=1000000) (Ak _))),?_⟩
  rw[<- C,<- R]
  exact N ⟨_,_⟩ S3 _ h2 U O
 ·exact l.elim
end
def QX(i:Nat)(z:DV)(a:DS)(D:DEnds):Prop:=match a.sl[i]?,z with
 | some (.dat m (.list ds)),.dat _ (.int k)=>own1 m=true/\npk a.sl=true/\Ei ds=true/\0<=k/\k<ds.length/\k<=1000000/\D.nx ⟨a.sl.set i (.dat m (.list (ds.eraseIdx k.toNat))),a.n⟩
 | _,_=>False
def isLst:Option DV->Bool
 | some (.dat _ (.list _))=>true
 | _=>false
def CW:V->Int
 | .int i=>i
 | _=>0
def DU(H:Hp)(r:Addr):List Int:=match H r with
 | some (.tup xs)=>xs.map CW
 | _=>[]
theorem HG(h:H r=some (.tup (w.map V.int))):DU H r=w:=by
 unfold DU
 rw[h]
 show (w.map V.int).map CW=w
 rw[Dj]
 exact List.map_id' w
section
variable{K:PySem.W.Frag}{H:Hp}
theorem rJ:∀{c:List (List Int)} {xs:List V} {ds:List Af} {G:List Addr},RdFs K H xs ds G->ds=c.map Bf->∃b:List Addr,xs=b.map V.ref/\c=b.map (DU H)/\G=[]/\(∀r∈b,H r=some (.tup ((DU H r).map V.int)))/\∀r∈b,RdF K H (.ref r) (Bf (DU H r)) []
 | [],_,_,_,h,e=>by
  subst e
  cases h
  exact ⟨[],rfl,rfl,rfl,(λ_ z=>nomatch z),(λ_ z=>nomatch z)⟩
 | w::c,_,_,_,h,e=>by
  cases h with
  | nil=>cases e
  | cons a t =>
   obtain ⟨k,g⟩:=Ec e
   obtain ⟨b,rfl,rfl,rfl,i,j⟩:=rJ t g
   subst k
   obtain ⟨r,rfl,f⟩:=Zg a
   rw[oG] at f
   have d:=HG f
   obtain rfl:=a.imm (show imm (Bf w)=true from Ov w)
   refine ⟨r::b,rfl,by rw[Aq,d],rfl,λx hx=>?_,λx hx=>?_⟩
   ·rcases Al.mp hx with rfl | hx
    ·rw[d]; exact f
    ·exact i x hx
   ·rcases Al.mp hx with rfl | hx
    ·rw[d]; exact a
    ·exact j x hx
theorem iH:∀{a:List Addr},(∀r∈a,RdF K H (.ref r) (Bf (DU H r)) [])->RdFs K H (a.map V.ref) ((a.map (DU H)).map Bf) []
 | [],_=>.nil
 | r::a,h=>RdFs.cons (F:=[]) (G:=[]) (h r (Ab ..)) (iH λx b=>h x (Ac _ b))
theorem eZ:∀L:List (List Int),Ei (L.map Bf)=true
 | []=>rfl
 | w::L=>by
  show (imm (Bf w) && Ei (L.map Bf))=true
  rw[eZ L,show imm (Bf w)=true from Ov w]; rfl
def lY:DC:=λb P=>match b with
 | [.dat _ (.list ds)]=>∃a:List (List Int),ds=a.map Bf/\∀L:List (List Int),L.Perm a->L.Pairwise (λx y=>HT.lexLt y x=false)->P (.dat .ow (.list (L.map Bf)))
 | _=>False
theorem gM:We K (Ts.rSortI K) lY:=by
 intro w X n S T A x H Q P o c b k
 unfold lY at b
 split at b
 ·rename_i i
  obtain ⟨v,F,rfl,c⟩:=Js o c i
  obtain ⟨z,rfl,f⟩:=b
  obtain ⟨a,y,G,rfl,m,g,rfl,p⟩:=(c.told mem_mid).list_inv
  obtain ⟨l,rfl,rfl,rfl,h,u⟩:=rJ g rfl
  refine ⟨a,l,DU H,rfl,Nm.of m,λr d=>Wt.of (h r d),λq s j e t=>?_⟩
  refine k _ _ _ _ (c.drop.newI (iH λr d=>u r (e.mem_iff.mp d)) (eZ _) (by rw[Ad,Ad,e.length_eq]; simpa using p) j .ow) (f _ (e.map _) (List.pairwise_map.mpr t))
 ·exact b.elim
end
end DL
namespace Nd
open PySem PySem.Spec PyProof.Rows L2
def Wg(h:Heap)(d:Addr)(es:Array Hv)(ep:Nat):Prop:=∃a,h.get? d=some a/\a.ExactDict/\a.data=.dict es ep
theorem Wg.at(x:Wg h d es ep)(k:∀o,h.get? d=some o->h'.get? d=some o):Wg h' d es ep:=let ⟨ob,e,r⟩:=x; ⟨ob,k ob e,r⟩
section
variable{prog:Bn}{w:World}{A:Ck}{E:Value->Ah->Prop}{s:Ah}{it d:Addr}{es:Array Hv}{i ep:Nat}
theorem nZ(h:s.heap.IsKeyIter it d i es.size ep)(m:Wg s.heap d es ep)(j:es[i]? = some x)(k:∀h',h'.IsKeyIter it d (i+1) es.size ep->Cw it s.heap h'->Q (some x.key) { s with heap:=h' }):wpAny (model prog w) A (callSpecial? (.ref it) (Cq "__next__")) Q E s:=by
 obtain ⟨q,c,l,b⟩:=id h
 obtain ⟨p,g,r,e⟩:=id m
 have a:=h.typeIs
 refine Cy (name:=Cq "__next__") a PySem.F.slot_dict_keyiterator_next (Ct PySem.F.slot_dict_keyiterator_next a PySem.F.entry_dict_keyiterator_next ?_ (PySem.F.args_dict_keyiterator_next_1 _))
 refine Aa (Ae (Aa (Aa ?_)))
 first | refine Aa (Lj a (Ae ?_)) | refine Aa (Nv a (Ae ?_))
 refine Aa (Pi c b ?_)
 simp only[show Hb "dict_keyiterator" = false by decide,Bt,if_false]
 show wpAny _ _ (ite ((Be d == Gu)=true) _ _) _ _ s
 rw[if_neg (show ¬ (Be d == Gu)=true from Bk)]
 refine Aa (Ae (Aa (Ka g e ?_)))
 rw[if_neg (by simp)]
 refine Aa (Ae (Aa (Of g e ?_)))
 rw[if_neg (by simp)]
 refine Ae ?_
 obtain ⟨n,o⟩:=Iv.mp j
 simp only[show ¬ ((i:Int)<0) from by omega,Ed,if_false,j]
 refine Aa ?_
 first | refine Aa (Lj a (Ae ?_)) | refine Aa (Nv a (Ae ?_))
 refine Aa (wpAny_isOneOf_keyiter a ?_)
 show wpAny _ _ (bind (Nw (.ref it) 1 (Ff ((i:Int)+1))) _) _ _ s
 refine Aa (Ms c b (by simp) ?_)
 have f:(s.heap.update it (Py (·.setIfInBounds 1 (Ff ((i:Int)+1))))).IsKeyIter it d (i+1) es.size ep :=
  ⟨_,Fj _ c (Obj.isFreed_of_fields (Sv b _)),(Obj.cls_mapFields ..).trans l,by rw[Sv b]; simp [Ff]⟩
 refine Aa (Ce (Aa (wpAny_isOneOf_keyiter (s:={ s with heap:=s.heap.update it (Py (·.setIfInBounds 1 (Ff ((i:Int)+1)))) }) f.typeIs ?_)))
 show wpAny _ _ (pure x.key) _ _ _
 exact Ae (Ae ⟨_,rfl,k _ f (Bs ..)⟩)
theorem A2(g:A.handled=none)(h:s.heap.IsKeyIter it d es.size es.size ep)(l:Wg s.heap d es ep)(k:∀h' e,Yu it s.heap h'->(∃o,h'.get? e=some o/\o.cls=.type "StopIteration")->E (.ref e) { s with heap:=h' }):wpAny (model prog w) A (callSpecial? (.ref it) (Cq "__next__")) Q E s:=by
 obtain ⟨q,j,n,i⟩:=id h
 obtain ⟨p,f,r,c⟩:=id l
 have b:=h.typeIs
 refine Cy (name:=Cq "__next__") b PySem.F.slot_dict_keyiterator_next (Ct PySem.F.slot_dict_keyiterator_next b PySem.F.entry_dict_keyiterator_next ?_ (PySem.F.args_dict_keyiterator_next_1 _))
 refine Aa (Ae (Aa (Aa ?_)))
 first | refine Aa (Lj b (Ae ?_)) | refine Aa (Nv b (Ae ?_))
 refine Aa (Pi j i ?_)
 simp only[show Hb "dict_keyiterator" = false by decide,Bt,if_false]
 show wpAny _ _ (ite ((Be d == Gu)=true) _ _) _ _ s
 rw[if_neg (show ¬ (Be d == Gu)=true from Bk)]
 refine Aa (Ae (Aa (Ka f c ?_)))
 rw[if_neg (by simp)]
 refine Aa (Ae (Aa (Of f c ?_)))
 rw[if_neg (by simp)]
 refine Ae ?_
 simp only[show ¬ ((es.size:Int)<0) from by omega,Ed,if_false,Nz (Ak es.size)]
 refine Aa ?_
 first | refine Aa (Lj b (Ae ?_)) | refine Aa (Nv b (Ae ?_))
 show wpAny _ _ (bind (Nw (.ref it) 0 .none) _) _ _ s
 refine Aa (Ms j i (by simp) ?_)
 show wpAny _ _ (bind (newExc (.type "StopIteration") []) _) _ _ _
 refine Aa ?_
 simp only[newTuple,newExc]
 refine Aa (Cf ?_ (by size_fits))
 refine Aa (m:=Kz _ _) (Jz (a:=Gu) (by first | rfl | (simp only[Kz]; rfl)) (Cf ?_ (by size_fits)))
 simp only[raiseNew]
 refine Aa (wpAny_handled ?_)
 first | rw[show A.in1.handled=none from g] | rw[g]
 refine Aa (Ae (wpAny_throw ?_))
 exact k _ _ (((Bs ..).extBut.push _).push _) ⟨_,Ap _ rfl,rfl⟩
theorem i9(hd:(d == Fs)=false)(f:Wg s.heap d es ep)(k:Q (.ref s.heap.objs.size) { s with heap:=s.heap.push { cls:=.type "dict_keyiterator",data:=.fields #[.ref d,.int 0 0,.int es.size 0,.int ep 0] } }):wpAny (model prog w) A (cR (.ref d)) Q E s:=by
 obtain ⟨e,b,g,c⟩:=id f
 have a:s.TypeIs (.ref d) "dict" := ⟨e,b,g.1⟩
 refine Wi a PySem.F.slot_dict_iter (Ct PySem.F.slot_dict_iter a PySem.F.entry_dict_iter ?_ (PySem.F.args_dict_iter_1 _))
 unfold Builtin.«dict.__iter__» Builtin.Dict.dictSlotNone
 refine Aa (Aa (Rb a ?_))
 show wpAny _ _ (pure (.ref d:Value)) _ _ s
 refine Ae ?_
 show wpAny _ _ (bind (My d) _) _ _ s
 unfold My
 rw[if_neg (by rw[hd]; exact Bk)]
 refine Aa (Ae (Aa (Ka b c (Aa (Of b c ?_)))))
 refine Aa (Cf (Ae ⟨_,rfl, "dict_keyiterator",_,⟨_,Ap _ rfl,rfl⟩,PySem.F.slot_dict_keyiterator_next.lookup,?_⟩))
 exact k
end
theorem jU(g:A.handled=none)(it d:Addr)(a:d≠it)(es:Array Hv)(ep:Nat):Draws prog w A it [it,d] es.size (λi v=>∃x,es[i]? = some x/\v=x.key) (λi h=>h.IsKeyIter it d i es.size ep/\Wg h d es ep) where
 live:=λ_ _ st=>let ⟨o,ho,_⟩:=st.1; ⟨o,ho⟩
 frame:=λ_ _ _ st f=>⟨st.1.at λo e=>f it (by simp) o e,st.2.at λo e=>f d (by simp) o e⟩
 item:=λi s Q E c st m=>by
  unfold Dm
  refine Aa (nZ st.1 st.2 (x:=es[i]) (by simp [c]) λk j b=>Ae ?_)
  exact m _ k s.toks ⟨_,by simp [c],rfl⟩ ⟨j,st.2.at λo e=>(b.2 d a).trans e⟩ b
 done:=λs Q E st l=>by
  unfold Dm
  exact Aa (A2 g st.1 st.2 l)
structure ZApart(z TI TO i1 i2:Addr)(f1 f2:List Addr):Prop where
 tiz:TI≠z
 toz:TO≠z
 z1:i1≠z
 z2:i2≠z
 tito:TI≠TO
 ti1:TI≠i1
 ti2:TI≠i2
 to1:TO≠i1
 to2:TO≠i2
 i12:i1≠i2
 zf1:z∉f1
 zf2:z∉f2
 of1:TO∉f1
 of2:TO∉f2
 if1:i2∉f1
 if2:i1∉f2
section
variable{prog:Bn}{w:World}{A:Ck}{E:Value->Ah->Prop}{s:Ah}{z TI TO j l:Addr}{u t:List Addr}{p r i:Nat}{B C:Nat->Value->Prop}{n m:Nat->Heap->Prop}
theorem Hn{f:List Addr}(h:a∉f)(hb:b∈f):b≠a:=λe=>h (e▸hb)
theorem j3{Q:Value->Ah->Prop}(Z:Draws prog w A j u p B n)(D2:Draws prog w A l t r C m)(f:ZApart z TI TO j l u t)(V:IsZip s.heap z TI TO .none)(gI:Gh s.heap TI (.ref j) (.ref l))(gO:Gh s.heap TO a b)(g1:n i s.heap)(g2:m i s.heap)(l1:i<p)(l2:i<r)(k:∀x y h' tk,B i x->C i y->IsZip h' z TI TO (Ff s.heap.objs.size)->Gh h' TO x y->n (i+1) h'->m (i+1) h'->Gh h' s.heap.objs.size x y->h'.objs.size=s.heap.objs.size+1->(∀c o,c≠z->c≠TO->c≠j->c≠l->s.heap.get? c=some o->h'.get? c=some o)->Q (.ref s.heap.objs.size) { s with heap:=h',toks:=tk }):wpAny (model prog w) A (Builtin.«zip.__next__» ⟨[.ref z],[]⟩) (λfin s'=>∃v,fin=.done (.ret v)/\Q v s') E s:=by
 obtain ⟨hp,g,d,k8,os⟩:=s
 show wpAny _ _ (bind (field (.ref z) 2) _) _ _ _
 refine Aa (Fl V rfl (x:=.bool false) rfl ?_)
 show wpAny _ _ (bind (field (.ref z) 3) _) _ _ _
 refine Aa (Fl V rfl (x:=.ref TI) rfl (Aa (Jk gI rfl ?_)))
 show wpAny _ _ (bind (Dg (.ref z)) _) _ _ _
 refine Aa ?_
 unfold Dg
 refine Aa (Fl V rfl (x:=.none) rfl (Ae ?_))
 simp only[if_true]
 refine Aa (Ln (Aa (Fl V rfl (x:=.ref TO) rfl (Aa (Jj V (by simp) λR H L=>?_)))))
 replace H:IsZip R z TI TO .ellipsis:=H
 replace L:Cw z hp R:=L
 refine Aa ?_
 simp only[Rg,Sk,Pf,List.zipIdx_nil]
 have k1:n i R:=Z.frame _ _ _ g1 λb D o q=>(L.2 b (Hn f.zf1 D)).trans q
 have h6:m i R:=D2.frame _ _ _ g2 λb D o q=>(L.2 b (Hn f.zf2 D)).trans q
 refine Aa (Aa (iI ?_))
 show wpAny _ _ (bind (Dm (.ref j)) _) _ _ _
 refine Aa (Z.item i _ _ _ l1 k1 λx h2 k7 px h0 O=>Ae ?_)
 replace O:Cw j R h2:=O
 have S:Gh h2 TO a b:=(O.2 TO f.to1).trans ((L.2 TO f.toz).trans gO)
 refine Aa (Jk S rfl (Aa (cQ S λX J N=>?_)))
 replace J:Gh X TO x b:=J
 replace N:Cw TO h2 X:=N
 refine Aa (wpAny_letGo (Ae ?_))
 have k2:m i X:=D2.frame _ _ _ h6 λb D o q=>(N.2 b (Hn f.of2 D)).trans ((O.2 b (Hn f.if2 D)).trans q)
 refine Aa (Aa (iI ?_))
 show wpAny _ _ (bind (Dm (.ref l)) _) _ _ _
 refine Aa (D2.item i _ _ _ l2 k2 λy h4 k0 py h9 I=>Ae ?_)
 replace I:Cw l X h4:=I
 have U:Gh h4 TO x b:=(I.2 TO f.to2).trans J
 refine Aa (Jk U rfl (Aa (cQ U λh G P=>?_)))
 replace G:Gh h TO x y:=G
 replace P:Cw TO h4 h:=P
 refine Aa (wpAny_letGo (Ae (Ae ?_)))
 refine Aa (Jk G rfl (Aa (wpAny_newTuple ?_)))
 have sz:h.objs.size=hp.objs.size:=by rw[P.1,I.1,N.1,O.1,L.1]
 have T:IsZip h z TI TO .ellipsis:=(P.2 z f.toz.symm).trans ((I.2 z f.z2.symm).trans ((N.2 z f.toz.symm).trans ((O.2 z f.z1.symm).trans H)))
 have k5:∀c o,c≠z->c≠TO->c≠j->c≠l->hp.get? c=some o->h.get? c=some o:=λc o K Y c3 c4 e =>
  (P.2 c Y).trans ((I.2 c c4).trans ((N.2 c Y).trans ((O.2 c c3).trans ((L.2 c K).trans e))))
 have k3:n (i+1) h:=Z.frame _ _ _ h0 λb D o q=>(P.2 b (Hn f.of1 D)).trans ((I.2 b (Hn f.if1 D)).trans ((N.2 b (Hn f.of1 D)).trans q))
 have k4:m (i+1) h:=D2.frame _ _ _ h9 λb D o q=>(P.2 b (Hn f.of2 D)).trans q
 have zl:z<h.objs.size:=Ax T
 show wpAny _ _ (bind (Sn (.ref z) (.ref h.objs.size)) _) _ _ _
 refine Aa ?_
 unfold Sn
 have k6:IsZip (h.push { cls:=.type "tuple",data:=.seq #[x,y] }) z TI TO .ellipsis:=Ai _ T
 refine Aa (Jj k6 (by simp) λh7 M s7=>?_)
 replace M:IsZip h7 z TI TO (Ff h.objs.size):=M
 refine Jj M (by simp) λW F s8=>?_
 replace F:IsZip W z TI TO (Ff h.objs.size):=F
 have up:∀c o,c≠z->h.get? c=some o->W.get? c=some o:=λc o K e=>(s8.2 c K).trans ((s7.2 c K).trans (Ai _ e))
 have gT:Gh W h.objs.size x y:=(s8.2 _ (Se zl)).trans ((s7.2 _ (Se zl)).trans (Ap _ rfl))
 have z8:W.objs.size=h.objs.size+1:=by rw[s8.1,s7.1,Fo]
 rw[sz] at F gT z8
 refine Ae ⟨_,rfl,?_⟩
 show Q (.ref h.objs.size) _
 rw[sz]
 exact k x y W k0 px py F (up _ _ f.toz G) (Z.frame _ _ _ k3 λb D o q=>up b o (Hn f.zf1 D) q) (D2.frame _ _ _ k4 λb D o q=>up b o (Hn f.zf2 D) q) gT z8 λc o K Y c3 c4 e=>up c o K (k5 c o K Y c3 c4 e)
theorem C6(Z:Draws prog w A j u p B n)(D2:Draws prog w A l t r C m)(f:ZApart z TI TO j l u t)(O:IsZip s.heap z TI TO .none)(gI:Gh s.heap TI (.ref j) (.ref l))(gO:Gh s.heap TO a b)(g1:n i s.heap)(g2:m i s.heap)(hn:i=p\/(i<p/\i=r))(k:∀h' e tk,(∀c o,c≠z->c≠TO->c≠j->c≠l->s.heap.get? c=some o->h'.get? c=some o)->(∃o,h'.get? e=some o/\o.cls=.type "StopIteration")->E (.ref e) { s with heap:=h',toks:=tk }):wpAny (model prog w) A (Builtin.«zip.__next__» ⟨[.ref z],[]⟩) Q E s:=by
 obtain ⟨hp,g,d,h7,os⟩:=s
 show wpAny _ _ (bind (field (.ref z) 2) _) _ _ _
 refine Aa (Fl O rfl (x:=.bool false) rfl ?_)
 show wpAny _ _ (bind (field (.ref z) 3) _) _ _ _
 refine Aa (Fl O rfl (x:=.ref TI) rfl (Aa (Jk gI rfl ?_)))
 show wpAny _ _ (bind (Dg (.ref z)) _) _ _ _
 refine Aa ?_
 unfold Dg
 refine Aa (Fl O rfl (x:=.none) rfl (Ae ?_))
 simp only[if_true]
 refine Aa (Ln (Aa (Fl O rfl (x:=.ref TO) rfl (Aa (Jj O (by simp) λD h y=>?_)))))
 replace h:IsZip D z TI TO .ellipsis:=h
 replace y:Cw z hp D:=y
 refine Aa ?_
 simp only[Rg,Sk,Pf,List.zipIdx_nil]
 have N:n i D:=Z.frame _ _ _ g1 λb F o q=>(y.2 b (Hn f.zf1 F)).trans q
 have V:m i D:=D2.frame _ _ _ g2 λb F o q=>(y.2 b (Hn f.zf2 F)).trans q
 refine Aa (Aa (iI ?_))
 show wpAny _ _ (bind (Dm (.ref j)) _) _ _ _
 rcases hn with rfl | ⟨l1,rfl⟩
 ·refine Aa (Z.done _ _ _ N λG e S U=>?_)
  obtain ⟨Y,ge,P⟩:=U
  replace S:Yu j D G:=S
  have K:IsZip G z TI TO .ellipsis:=S _ _ f.z1.symm h
  have X:e≠z:=λx=>by subst x; rw[K] at ge; cases ge; simp at P
  exact Jj K (by simp) λI _ v=>k I e _ (λc o M _ T _ x=>(v.2 c M).trans (S _ _ T ((y.2 c M).trans x))) ⟨Y,(v.2 e X).trans ge,P⟩
 ·refine Aa (Z.item _ _ _ _ l1 N λx G h0 px h6 H=>Ae ?_)
  replace H:Cw j D G:=H
  have J:Gh G TO a b:=(H.2 TO f.to1).trans ((y.2 TO f.toz).trans gO)
  refine Aa (Jk J rfl (Aa (cQ J λI h8 v=>?_)))
  replace v:Cw TO G I:=v
  refine Aa (wpAny_letGo (Ae (Aa (Aa (iI ?_)))))
  have W:m i I:=D2.frame _ _ _ V λb F o q=>(v.2 b (Hn f.of2 F)).trans ((H.2 b (Hn f.if2 F)).trans q)
  show wpAny _ _ (bind (Dm (.ref l)) _) _ _ _
  refine Aa (D2.done _ _ _ W λh4 e R U=>?_)
  obtain ⟨Y,ge,P⟩:=U
  replace R:Yu l I h4:=R
  have L:IsZip h4 z TI TO .ellipsis:=R _ _ f.z2.symm ((v.2 z f.toz.symm).trans ((H.2 z f.z1.symm).trans h))
  have X:e≠z:=λx=>by subst x; rw[L] at ge; cases ge; simp at P
  exact Jj L (by simp) λh5 _ s5=>k h5 e _ (λc o M c2 T c4 x=>(s5.2 c M).trans (R _ _ c4 ((v.2 c c2).trans ((H.2 c T).trans ((y.2 c M).trans x))))) ⟨Y,(s5.2 e X).trans ge,P⟩
theorem x6(I:Draws prog w A.in1 j u p B n)(D2:Draws prog w A.in1 l t r C m)(q:ZApart z TI TO j l u t)(e:IsZip s.heap z TI TO .none)(v:Gh s.heap TI (.ref j) (.ref l))(G:Gh s.heap TO a b)(g1:n i s.heap)(g2:m i s.heap)(l1:i<p)(l2:i<r)(k:∀x y h' d,B i x->C i y->IsZip h' z TI TO (Ff s.heap.objs.size)->Gh h' TO x y->n (i+1) h'->m (i+1) h'->Gh h' s.heap.objs.size x y->h'.objs.size=s.heap.objs.size+1->(∀c o,c≠z->c≠TO->c≠j->c≠l->s.heap.get? c=some o->h'.get? c=some o)->Q (some (.ref s.heap.objs.size)) { s with heap:=h',toks:=d }):wpAny (model prog w) A (Ig (.ref z)) Q E s:=by
 have f:s.TypeIs (.ref z) "zip" := ⟨_,e,rfl⟩
 unfold Ig
 refine Aa (Jh (Cy (name:=Cq "__next__") f PySem.F.slot_zip_next (Ct PySem.F.slot_zip_next f PySem.F.entry_zip_next ?_ (PySem.F.args_zip_next_1 _))))
 exact j3 I D2 q e v G g1 g2 l1 l2 λx y h' d N h M D J L H g K=>Ae (k x y h' d N h M D J L H g K)
theorem i7(H:Draws prog w A.in1 j u p B n)(D2:Draws prog w A.in1 l t r C m)(v:ZApart z TI TO j l u t)(g:IsZip s.heap z TI TO .none)(y:Gh s.heap TI (.ref j) (.ref l))(G:Gh s.heap TO a b)(g1:n i s.heap)(g2:m i s.heap)(D:i=p\/(i<p/\i=r))(k:∀h' f,(∀c o,c≠z->c≠TO->c≠j->c≠l->s.heap.get? c=some o->h'.get? c=some o)->Q none { s with heap:=h',toks:=f }):wpAny (model prog w) A (Ig (.ref z)) Q E s:=by
 have h:s.TypeIs (.ref z) "zip" := ⟨_,g,rfl⟩
 unfold Ig
 refine Aa (Jh (Cy (name:=Cq "__next__") h PySem.F.slot_zip_next (Ct PySem.F.slot_zip_next h PySem.F.entry_zip_next ?_ (PySem.F.args_zip_next_1 _))))
 refine C6 H D2 v g y G g1 g2 D λh' e f x d => ?_
 obtain ⟨o,I,q⟩ := d
 exact Aa (Hu (T := "StopIteration") (b:=true) ⟨o,I,q⟩ cT (Ae (k h' f x)))
end
abbrev ML(h:Heap)(d:Addr)(n ep:Nat):Heap:=h.push { cls:=.type "dict_keyiterator",data:=.fields #[.ref d,.int 0 0,.int n 0,.int ep 0] }
abbrev NB(h:Heap)(d:Addr)(n ep:Nat)(l:Addr):Heap:=(ML h d n ep).push { cls:=.type "list_iterator",data:=.fields #[.ref l,.int 0 0] }
abbrev NK(h:Heap)(d:Addr)(n ep:Nat)(l:Addr):Heap:=(NB h d n ep l).push { cls:=.type "tuple",data:=.seq #[.ref h.objs.size,.ref (ML h d n ep).objs.size] }
abbrev NA(h:Heap)(d:Addr)(n ep:Nat)(l:Addr):Heap:=(NK h d n ep l).push { cls:=.type "tuple",data:=.seq #[.none,.none] }
abbrev IS(h:Heap)(d:Addr)(n ep:Nat)(l:Addr):Heap:=(NA h d n ep l).push { cls:=.type "zip",data:=.fields #[.none,.bool false,.bool false,.ref (NB h d n ep l).objs.size,.ref (NK h d n ep l).objs.size] }
theorem rS(d l:Addr)(es:Array Hv)(ep:Nat)(ys:Array Value)(hd:(d == Fs)=false):Meets (Builtin.«zip.__new__» ⟨[.type "zip",.ref d,.ref l],[]⟩) (λ_ R s=>Wg s.heap d es ep/\s.heap.IsList l ys/\R (.ok (.ret (.ref (NA s.heap d es.size ep l).objs.size))) { s with heap:=IS s.heap d es.size ep l }) :=
 .of_wp λe w A R s h=>by
  obtain ⟨f,g,b,c,os⟩:=s
  obtain ⟨m,i,q⟩:=h
  have a:=sub_zip
  have j:Wg (Shared.heap ⟨f,g,b,c,os⟩) d es ep:=m
  have k:Heap.IsList (Shared.heap ⟨ML f d es.size ep,g,b,c,os⟩) l ys:=Heap.IsList.push i _
  wp_walk using i9 hd j,lC k
  exact ⟨_,rfl,q⟩
section
variable{prog:Bn}{w:World}{A:Ck}{E:Value->Ah->Prop}{s:Ah}
theorem vM(hd:(d == Fs)=false)(v:Wg s.heap d es ep)(y:s.heap.IsList l ys)(k:∀h',IsZip h' (s.heap.objs.size+4) (s.heap.objs.size+2) (s.heap.objs.size+3) .none->Gh h' (s.heap.objs.size+2) (.ref s.heap.objs.size) (.ref (s.heap.objs.size+1))->Gh h' (s.heap.objs.size+3) .none .none->h'.IsKeyIter s.heap.objs.size d 0 es.size ep->h'.IsListIter (s.heap.objs.size+1) l 0->(∀c o,s.heap.get? c=some o->h'.get? c=some o)->Q (.ref (s.heap.objs.size+4)) { s with heap:=h' }):wpAny (model prog w) A (call (.type "zip") [.ref d,.ref l]) Q E s:=by
 refine callType_new PySem.F.called_zip (by decide) (PySem.F.typeCall_zip_2 _ _) (PySem.F.newCall_zip_2 _ _) (λj=>PySem.F.args_object_init_3 j _ _) PySem.F.entry_zip_new (rS d l es ep ys hd) ⟨v,y,?_⟩
 have m:(ML s.heap d es.size ep).objs.size=s.heap.objs.size+1:=Fo ..
 have f:(NB s.heap d es.size ep l).objs.size=s.heap.objs.size+2:=by rw[Fo,m]
 have i:(NK s.heap d es.size ep l).objs.size=s.heap.objs.size+3:=by rw[Fo,f]
 have r:(NA s.heap d es.size ep l).objs.size=s.heap.objs.size+4:=by rw[Fo,i]
 have b:∀{h:Heap} {a:Addr} {u:Obj} (o:Obj),h.get? a=some u->(h.push o).get? a=some u:=λo e=>Ai _ e
 have g:(IS s.heap d es.size ep l).get? (NA s.heap d es.size ep l).objs.size=some _:=Ap _ rfl
 have q:(IS s.heap d es.size ep l).get? (NK s.heap d es.size ep l).objs.size=some _:=b _ (Ap _ rfl)
 have p:(IS s.heap d es.size ep l).get? (NB s.heap d es.size ep l).objs.size=some _:=b _ (b _ (Ap _ rfl))
 have n:(IS s.heap d es.size ep l).get? (ML s.heap d es.size ep).objs.size=some _:=b _ (b _ (b _ (Ap _ rfl)))
 have t:(IS s.heap d es.size ep l).get? s.heap.objs.size=some _:=b _ (b _ (b _ (b _ (Ap _ rfl))))
 show _/\_
 rw[f,i,r] at g
 rw[m,f] at p
 rw[i] at q
 rw[m] at n
 rw[r]
 exact ⟨⟨_,g,rfl⟩,k _ g p q ⟨_,t,rfl,rfl⟩ ⟨_,n,rfl,rfl⟩ λc o x=>b _ (b _ (b _ (b _ (b _ x))))⟩
end
theorem vH(ok:aS P w H h)(e:H a=some (.dT c)):∃(es:Array Hv),(a == Fs)=false/\Wg h a es c.length/\es.size=c.length/\∀(i:Nat) (x:Hv),es[i]? = some x->∃k b v,c[i]? = some (k,v)/\x.key=.ref b/\H b=some (.tup (k.map kV))/\k.length<=Au:=by
 obtain ⟨_,E,l,g,o,es,I,A,D,B,s,_,n⟩:=(show Kw P w H h a (.dT c) from ok a _ e)
 have t:es.size=c.length:=by
  have:=congrArg Fh s
  rw[Ad,<- Paired.length g] at this
  simpa using this
 refine ⟨es,E,⟨o,A,D,by rw[B,n,t]⟩,t,λi x F=>?_⟩
 have d:es.toList[i]? = some x:=by rw[Gd]; exact F
 rw[s,Bg] at d
 cases q:l[i]? with
 | none=>rw[q] at d; cases d
 | some y =>
  rw[q] at d
  cases d
  have C:∀{c:List (List Ky×V)} {l:List (List Ky×Addr×Value)} {i:Nat},Paired (λ(p:List Ky×V) (q:List Ky×Addr×Value)=>p.1=q.1/\H q.2.1=some (.tup (p.1.map kV))/\RelV p.2 q.2.2) c l->l[i]? = some y->∃p,c[i]? = some p/\H y.2.1=some (.tup (p.1.map kV)):=by
   intro c l i r
   induction r generalizing i with
   | nil=>intro z; simp at z
   | cons G _ u =>
    intro z
    cases i with
    | zero=>simp at z; subst z; exact ⟨_,rfl,G.2.1⟩
    | succ j=>exact u (by simpa using z)
  obtain ⟨p,m,f⟩:=C g q
  refine ⟨p.1,y.2.1,p.2,m,rfl,f,?_⟩
  have:=(show Kw P w H h y.2.1 (.tup (p.1.map kV)) from ok _ _ f).1
  rwa [Ad] at this
def FG(K:PySem.W.Frag)(a b:Addr)(n:Nat):It :=
  ⟨λi H=>∃c d y,H a=some (.dT c)/\c.length=n/\Nm K H b d/\i<n/\d[i]? = some y,
   λi H x e=>∃p t k v u,x=.ref p/\H p=none/\e=upd H p (.tup [.ref t,u])/\(∀c,H a=some (.dT c)->c[i]? = some (k,v))/\H t=some (.tup (k.map kV))/\k.length<=Au/\∀d,Nm K H b d->d[i]? = some u,
   λi H=>∃c d,H a=some (.dT c)/\c.length=n/\Nm K H b d/\(i=n\/(i<n/\i=d.length))⟩
theorem i3{P:Bn}{K:PySem.W.Frag}(a b z TI TO p m:Addr)(r:ZApart z TI TO p m [p,a] [m,b])(na:a≠p)(nb:b≠m):Turn P w K (.Tuple R k pos) (FG K a b n) [z,TI,TO,p,m] z (λi h=>IsZip h z TI TO .none/\Gh h TI (.ref p) (.ref m)/\(∃u v,Gh h TO u v)/\h.IsKeyIter p a i n n/\h.IsListIter m b i) where
 mem:=Ab
 obj:=λi h st c d=>by
  obtain ⟨J,e,⟨u,v,g⟩,⟨o1,e1,c1,d1⟩,⟨o2,e2,c2,d2⟩⟩:=st
  simp only[Al,Ba,or_false] at d
  rcases d with rfl | rfl | rfl | rfl | rfl
  ·exact ⟨_,J,λv z=>by cases z⟩
  ·exact ⟨_,e,λv z=>by cases z⟩
  ·exact ⟨_,g,λv z=>by cases z⟩
  ·exact ⟨o1,e1,λv z=>by rw[d1] at z; cases z⟩
  ·exact ⟨o2,e2,λv z=>by rw[d2] at z; cases z⟩
 keep:=λi h h' st kp=>by
  obtain ⟨J,e,⟨u,v,g⟩,M,T⟩:=st
  exact ⟨kp z (by simp) _ J,kp TI (by simp) _ e,⟨u,v,kp TO (by simp) _ g⟩,M.at λo q=>kp p (by simp) o q,T.at λo q=>kp m (by simp) o q⟩
 item:=by
  intro X hP hw hK d i G s σ H E I V st hg
  subst hP hw hK
  obtain ⟨kv,ys,y,U,rfl,x,hx,hy⟩:=hg
  obtain ⟨S,hd,hE,l,F⟩:=vH I.hok U
  obtain ⟨f,C,p2,h9⟩:=I.list x
  obtain ⟨J,e,⟨o1,o2,g⟩,B,D⟩:=st
  have Q:X.A.in1.handled=none:=I.ok.hd d
  have D1:=jU (prog:=X.prog) (w:=X.w) (A:=X.A.in1) Q p a na S S.size
  have D2:=Draws.list (prog:=X.prog) (w:=X.w) (A:=X.A.in1) Q m b nb f.toArray
  have h4:=C.length
  have ly:i<f.length:=by
   have:=(Bb.mp hy).1
   omega
  have zl:z<s.heap.objs.size:=Ax J
  have k4:TI<s.heap.objs.size:=Ax e
  have k6:TO<s.heap.objs.size:=Ax g
  have k1:p<s.heap.objs.size:=by obtain ⟨_,q,_⟩:=B; exact Ax q
  have k2:m<s.heap.objs.size:=by obtain ⟨_,q,_⟩:=D; exact Ax q
  refine x6 D1 D2 r J e g ⟨by rw[l]; exact B,by rw[l]; exact hE⟩ ⟨D,p2.isList⟩ (by omega) (by simpa using ly) λu1 L M Z q1 q2 a1 a2 a3 a4 a5 a6 Y=>⟨_,rfl,A3 (s:={ s with heap:=M,toks:=Z }) a1 λT h7 h3=>?_⟩
  have j:Cw z M T:=h3
  obtain ⟨x1,k0,rfl⟩:=q1
  obtain ⟨kk,t,vv,ek,eb,hb,h0⟩:=F i x1 k0
  rw[eb] at a2 a5
  have h5:f[i]? = some L:=by simpa using q2
  obtain ⟨k3,O,h6⟩:=C.get hy
  rw[h5] at O
  cases O
  have I1:Inv X G σ (upd H s.heap.objs.size (.tup [.ref t,y])) { s with heap:=s.heap.push { cls:=.type "tuple",data:=.seq #[.ref t,L] } } :=
   I.laid (t':=s.toks) (λb o q=>Ai _ q) (Ak _) ⟨by show 2<=Au; decide,[.ref t,L],.cons rfl (.cons h6 .nil),_,Ap _ rfl,rfl,0,rfl⟩
  have nT:∀c∈[z,TI,TO,p,m],c≠s.heap.objs.size:=λc d=>by
   simp only[Al,Ba,or_false] at d
   rcases d with rfl | rfl | rfl | rfl | rfl <;> exact By (by assumption)
  have fr:∀c∈[z,TI,TO,p,m],(upd H s.heap.objs.size (.tup [.ref t,y])) c=none:=λc d=>by rw[Dr (nT c d)]; exact (V c d).1
  refine ⟨.ref s.heap.objs.size,_,Pu (fp:=[z,TI,TO,p,m]) (s:={ s with heap:=s.heap.push { cls:=.type "tuple",data:=.seq #[.ref t,L] } }) (h':=T) (t':=Z) I1 (λc o d q=>?_) (λc d=>⟨fr c d,(V c d).2⟩),rfl,⟨_,t,kk,vv,y,rfl,I.hok.fresh (Ak _),rfl,(λk5 h'=>by rw[U] at h'; cases h'; exact ek),hb,h0,λzs h8=>by rw[I.list_inj h8 x]; exact hy⟩,⟨h7,?_,⟨.ref t,L,?_⟩,?_,?_⟩,fr⟩
  ·simp only[Al,Ba,or_false,not_or] at d
   refine (j.2 c d.1).trans ?_
   by_cases N:c=s.heap.objs.size
   ·subst N
    have q':=(Ap s.heap (o:={ cls:=.type "tuple",data:=.seq #[.ref t,L] }) rfl).symm.trans q
    rw[show M.get? s.heap.objs.size=_ from a5]
    exact q'
   ·refine Y c o d.1 d.2.2.1 d.2.2.2.1 d.2.2.2.2 ?_
    have q0:(s.heap.push { cls:=.type "tuple",data:=.seq #[.ref t,L] }).get? c=some o:=q
    rcases Ys q0 with zz | zz
    ·exact absurd zz.1 N
    ·exact zz
  ·exact (j.2 TI r.tiz).trans (Y TI _ r.tiz r.tito r.ti1 r.ti2 e)
  ·exact (j.2 TO r.toz).trans a2
  ·rw[l] at a3
   exact a3.1.at λo q=>(j.2 p r.z1).trans q
  ·exact a4.1.at λo q=>(j.2 m r.z2).trans q
 done:=by
  intro X hP hw hK d i G s σ H E I V st hg
  subst hP hw hK
  obtain ⟨kv,ys,U,rfl,x,hx⟩:=hg
  obtain ⟨S,hd,hE,l,F⟩:=vH I.hok U
  obtain ⟨f,C,p2,h9⟩:=I.list x
  obtain ⟨J,e,⟨o1,o2,g⟩,B,D⟩:=st
  have Q:X.A.in1.handled=none:=I.ok.hd d
  have D1:=jU (prog:=X.prog) (w:=X.w) (A:=X.A.in1) Q p a na S S.size
  have D2:=Draws.list (prog:=X.prog) (w:=X.w) (A:=X.A.in1) Q m b nb f.toArray
  have h4:=C.length
  refine i7 D1 D2 r J e g ⟨by rw[l]; exact B,by rw[l]; exact hE⟩ ⟨D,p2.isList⟩ ?_ λM Z Y=>⟨rfl,Pu (fp:=[z,TI,TO,p,m]) (t':=Z) I (λc o d q=>?_) V⟩
  ·rw[l,Av]
   omega
  ·simp only[Al,Ba,or_false,not_or] at d
   exact Y c o d.1 d.2.2.1 d.2.2.2.1 d.2.2.2.2 q
 self:=λ_ _ _ _ _ st h=>Rh st.1 h
theorem IL(I a b:Nat)(h1:a<I)(d:b<I):ZApart (I+4) (I+2) (I+3) I (I+1) [I,a] [I+1,b]:=by
 constructor <;> (first | (intro e; have c:(_:Nat)=_:=e; omega) | (intro e; simp only[Al,Ba,or_false] at e; rcases e with e | e <;> (have c:(_:Nat)=_:=e; omega)))
section
variable{X:Cx}
def JV(K:PySem.W.Frag)(g:TA):TI:=λf H R=>g f H λvs c=>∃a b d,vs=[.ref a,.ref b]/\c a=some (.dT d)/\(∃e,Nm K c b e)/\R (FG K a b d.length) c
theorem CD{r:List Expr}{k:Nat}{tp:Pos}{p pos:Pos}(hg:Gl X "zip")(Y:X.mg "zip" = none)(Z:PA X [a,b] G)(hs:Bo [a,b] X.env=(false,eval a X.env)::Bo [b] X.env:=by rfl)(U:(Hm pos (Bo [b] X.env)).any (·.1)=false:=by rfl):PI X (.Tuple r k tp) (.Call (.Name "zip" p) [a,b] [] pos) (JV X.K G):=by
 intro f s σ H R I h
 refine Call_ (Tw I hg Y (u:=.type "zip") (by decide +kernel) (Fc (Gj (Z pos f s σ H _ I h) λus g ⟨vs,z,m,Q,T⟩=>?_) hs U))
 obtain ⟨M,N,kv,e,C,⟨ys,B⟩,q⟩:=T
 subst e
 obtain ⟨u1,u2,rfl,D,v⟩:=vals2 Q
 cases D
 cases v
 obtain ⟨es,W,O,y,J⟩:=vH m.hok C
 obtain ⟨E,P,l,h0⟩:=m.list B
 have i:M<g.heap.objs.size:=let ⟨o,q,_⟩:=O; Ax q
 have j:N<g.heap.objs.size:=let ⟨o,q,_⟩:=l.isList; Ax q
 refine vM W O l.isList λh2 L w x t A V=>Rh L ?_
 have d:∀n,Mu X f z (g.heap.objs.size+n):=λn=>m.fpOk (Ki _ _) (m.hok.fresh (Ki _ _))
 have S:∀c∈[g.heap.objs.size+4,g.heap.objs.size+2,g.heap.objs.size+3,g.heap.objs.size,g.heap.objs.size+1],Mu X f z c:=λc F=>by
  simp only[Al,Ba,or_false] at F
  rcases F with rfl | rfl | rfl | rfl | rfl
  ·exact d 4
  ·exact d 2
  ·exact d 3
  ·exact d 0
  ·exact d 1
 rw[y] at t
 exact ⟨g.heap.objs.size+4,_,_,_,z,rfl,m.kept (t':=g.toks) V,i3 M N _ _ _ _ _ (IL _ _ _ i j) (By i) (By (Gb j)),⟨L,w,⟨_,_,x⟩,t,A⟩,S,q⟩
end
section
variable{prog:Bn}{w:World}{A:Ck}{R:Result->Ah->Prop}{s:Ah}
theorem rM(J:Nat->Ah->Prop) (turn:∀n s,J n s->wpAny (model prog w) A (Ig it) (λr e=>match r with
    | none=>R (.ok .next) e
    | some v=>wpAny (model prog w) A (Il f it v) (λ_ q=>wpAny (model prog w) A (Pm f env v) (λ_ p =>
      wpAny (model prog w) A (forIn b true λc r=>if r=true then (do
        let ok <- isTrue c env (eval c env)
        pure (Eu ok)) else pure (Eu r)) (λok d =>
       if ok=true then
        wpAny (model prog w) A (eval j env) (λk t=>wpAny (model prog w) A (eval o env) (λy i=>wpAny (model prog w) A (dictSet D k y) (λ_ u=>∃m,m<n/\J m u) (λ_ _=>False) i) (λ_ _=>False) t) (λ_ _=>False) d
       else ∃m,m<n/\J m d) (λ_ _=>False) p) (λ_ _=>False) q) (λ_ _=>False) e) (λ_ _=>False) s)
  (n:Nat) (h:J n s):Hy (model prog w) A (.compLoop (.DictComp j o [⟨f,iter,b,0⟩] a pos) 0 it (.ref D) env) R s:=by
 refine lF rfl J (λn s E=>wpAny_noted ?_) n h
 rw[compTurn_dict]
 refine Aa (Hx (Aa (Da (turn n s E) (λr e g=>?_) λ_ _ z=>z.elim)))
 cases r with
 | none=>exact Ae g
 | some v =>
  refine Aa (Da g (λ_ q F=>Aa (Da F (λ_ p B=>Aa (Da B (λok d l=>?_) λ_ _ z=>z.elim)) λ_ _ z=>z.elim)) λ_ _ z=>z.elim)
  cases ok with
  | false=>exact Ae ⟨rfl,l⟩
  | true =>
   refine Aa (Aa (Da l (λk t x=>Aa (Ce (Da x (λy i G=>?_) λ_ _ z=>z.elim))) λ_ _ z=>z.elim))
   exact Aa (Hx (Ce (Da G (λ_ u C=>Ae ⟨rfl,C⟩) λ_ _ z=>z.elim)))
end
section
variable{X:Cx}{f:List (Addr×Obj)}{g:L2.St}{H:Hp}{s:Ah}{a b:Addr}{v:V}{r:Value}{A:Ck}{E:Value->Ah->Prop}{d:List (List Ky×V)}{k:List Ky}
theorem zQ(F:A.units+1<cLine)(I:Inv X f g H s)(e:H a=some (.dT d))(n:H b=some (.tup (k.map kV)))(l:d.length<Au)(u:RelV v r)(h:∀s',Inv X f g (upd H a (.dT (Pr d k v))) s'->Q () s'):wpAny (model X.prog X.w) A (dictSet a (.ref b) r) Q E s:=by
 obtain ⟨z,x,G,i,L⟩:=lR I.hok (.inl e)
 have hz:G.length<=Au:=by rw[<- Paired.length i]; exact z
 have B:(Pr d k v).length<=Au:=by have:=Rv d k v; omega
 refine gS (hz:=hz) (show (Ox _).room A from Nat.lt_of_succ_lt F) (bH I.hok n) L λM j J=>h _ ?_
 obtain ⟨q,K,D,o,C,t,y,_,p⟩:=j
 refine eB I (by rw[e]; exact Wj) J ⟨q,o⟩ ⟨B,x,_,(i.put k n u).keeps λc N m=>(Dr (L0 m e (λz=>nomatch z))).trans m,q,K,D,o,C,t,y,p⟩
end
section
variable{X:Cx}
def AO(K:PySem.W.Frag)(J:It)(n:List Nat)(u:TT)(w v:TE)(l:L2.St)(r:Hp)(Q:VK):Prop:=∀D,r D=none->∃W:Nat->Nat->Hp->Prop,(∃m,W 0 m (upd r D (.dT [])))/\∀i m H,W i m H ->
 (J.stop i H/\Q (.ref D) H)\/(J.go i H/\∀x o,J.yld i H x o->∃(t:Addr) (g j:V),x=.ref t/\Wt K o t [g,j]/\∃(s:Hp->Prop) (q:V->VK),(∀e,s e->∃f,f<m/\W (i+1) f e) /\
  (∀h p d,q h p d->∃a k b,d D=some (.dT a)/\h=.ref b/\d b=some (.tup (k.map kV))/\a.length<Au/\∃f,f<m/\W (i+1) f (upd d D (.dT (Pr a k p)))) /\
  u (some g::some j::Ey l n) o λc e=>if c=true then w (some g::some j::Ey l n) e (λh d=>v (some g::some j::Ey l n) d (q h)) else s e)
def xR(K:PySem.W.Frag)(c:TI)(d:List Nat)(b:TT)(e f:TE):TE:=λa H Q=>c a H λJ g=>AO K J d b e f a g Q
theorem o7(C:CompScope X a j x ys N)(E:dJ a f)(h9:(x::f::ys).Nodup)(hc:X.calm=true)(hu:X.A.units+1<cLine)(hi:PI X (.Tuple [.Name x px,.Name f D] kt pt) iter wi)(ht:∀fp s H,sY (Dh X a j (x::f::ys) fp s H) M tc)(hk:∀fp s H,PE (Dh X a j (x::f::ys) fp s H) kx tk)(hv:∀fp s H,PE (Dh X a j (x::f::ys) fp s H) vx tv)(hs:∀x,Dd iter X.env x=pure x:=by intro _; rfl):PE X (.DictComp kx vx [⟨.Tuple [.Name x px,.Name f D] kt pt,iter,M,0⟩] a pos) (xR X.K wi N tc tk tv):=by
 intro l s L H Q I h
 rw[arm_eval_DictComp]
 show wpAny _ _ (comprehension _ a X.env _ newDict false (eval iter X.env) none) _ _ s
 refine Kh (use:=none) rfl hs C.clos C.kind C.locs (Gj (hi l s L H _ I h) λv s1 h1=>Gj h1 λx1 d h2=>?_)
 obtain ⟨it,fp,tn,J,F,e,I2,T,q9,f2,q2⟩:=h2
 subst e
 have fD:F d.heap.objs.size=none:=I2.hok.fresh (Ak _)
 obtain ⟨W,⟨m0,w0⟩,k3⟩:=q2 d.heap.objs.size fD
 refine Cf ?_
 have I3:Inv X l L (upd F d.heap.objs.size (.dT [])) { d with heap:=d.heap.push { cls:=.type "dict",data:=.dict #[] } } :=
  I2.laid (t':=d.toks) (λb u q=>Ai _ q) (Ak _) (rA d.heap I2.big)
 obtain ⟨f3,k1,j6⟩:=Wb I2 T q9 f2 I3
 generalize k4:({ d with heap:=d.heap.push { cls:=.type "dict",data:=.dict #[] } }:Ah)=s3 at I3
 have Ua:tn 0 s3.heap:=by rw[<- k4]; exact k1
 have o3:∀b∈fp,∃o,s3.heap.get? b=some o:=by rw[<- k4]; exact j6
 show wpAny _ _ (Mt a X.env.globals j [] X.env.qual none .none (some X.env)) _ _ _
 refine Tf C λh4 k5 p h0=>?_
 have I4:∀tk,Inv (Dh X a j (x::f::ys) fp s3 (upd F d.heap.objs.size (.dT []))) [] (none::none::Ey L N) (upd F d.heap.objs.size (.dT [])) { s3 with heap:=h4,toks:=tk }:=λtk=>Qq (pre:=[x,f]) C I3 f3 o3 k5 p h0
 have V:tn 0 h4:=T.keep 0 _ _ Ua λb z o q=>p b o q
 generalize B:Dh X a j (x::f::ys) fp s3 (upd F d.heap.objs.size (.dT []))=X' at I4
 obtain ⟨eP,eW,eK,eA,eC⟩:=Vj hc B
 have k:∀{g:Hp},(∀b∈fp,g b=none)->∀b∈fp,Mu X' [] g b:=λ{g} hn=>Tg B (I4 0) hn
 have G:∀s5:Ah,s5={ s3 with heap:=h4,toks:=s3.toks+([]:List (Str×Value)).length } ->
   Hy (model X.prog X.w) X.A (.compLoop (.DictComp kx vx [⟨.Tuple [.Name x px,.Name f D] kt pt,iter,M,0⟩] a pos) 0 (.ref it) (.ref d.heap.objs.size) (Xy a (Es (s3.heap.objs.size+1) a.names j) s3.heap.objs.size X.env))
    (compPost (model X.prog X.w) X.A X.xe none (EP X l L Q) (.ref d.heap.objs.size) s3.heap.objs.size) s5:=by
  rintro s5 rfl
  refine rM (λn s'=>∃i o o2 g,Inv X' [] (o::o2::Ey L N) g s'/\tn i s'.heap/\(∀b∈fp,g b=none)/\W i n g) ?_ m0
   ⟨0,none,none,_,I4 _,V,λb z=>(f3 b z).1,w0⟩
  (intro n s6 q_; obtain ⟨i,o,o2,H6,I6,h6,h5,w6⟩ := q_)
  rcases k3 i n H6 w6 with ⟨S,qn⟩ | ⟨go,step⟩
  ·have hd:=T.done X' eP eW eK eC i [] s6 _ H6 (λ_ _=>False) I6 (k h5) h6 S
   rw[eA] at hd
   refine Gj hd λr s7 c => ?_
   obtain ⟨hr,I7⟩ := c
   subst hr
   obtain ⟨m7,k9,h3⟩:=Ue B I3 f3 I7
   exact ⟨m7,k9,λh8 j8=>⟨.ref d.heap.objs.size,H6,h3 h8 j8,rfl,qn⟩⟩
  ·have k0:=T.item X' eP eW eK eC i [] s6 _ H6 (λ_ _=>False) I6 (k h5) h6 go
   rw[eA] at k0
   refine Gj k0 λr s7 c => ?_
   obtain ⟨u,hr,h7⟩ := c
   subst hr
   refine Gj h7 λ_ s8 c => ?_
   obtain ⟨y,H8,I8,r8,y8,O,j5⟩ := c
   have j3:=I8.pinned (k j5) (T.obj _ _ O)
   obtain ⟨tp,w1,w2,ey,q4,N1,N2,q6,q1,k7⟩:=step y H8 y8
   have again:∀{U:Hp} {P:Ah} {R:Nat},Inv X' ([]++Qe fp s8.heap) (some w1::some w2::Ey L N) U P->R<n->W (i+1) R U->∃m,m<n/\∃i o o2 g,Inv X' [] (o::o2::Ey L N) g P/\tn i P.heap/\(∀b∈fp,g b=none)/\W i m g:=λ{U P R} Y Z w9=>by
    refine ⟨R,Z,i+1,some w1,some w2,U,Y.unpinned,T.keep _ _ _ O λb z o e=>(Y.pin (b,o) (Ag _ (Ag _ (Gr z e)))).1,λb z=>?_,w9⟩
    obtain ⟨o,e,_⟩:=T.obj _ _ O b z
    exact (Y.pin (b,o) (Ag _ (Ag _ (Gr z e)))).2.1
   subst B
   have g1:PG (Dh X a j (x::f::ys) fp s3 (upd F d.heap.objs.size (.dT []))) (.Tuple [.Name x px,.Name f D] kt pt) (BW X.K 2 (gW (Uu 0) (gW (Uu 1) Z6))) :=
    nO (X:=Dh X a j (x::f::ys) fp s3 (upd F d.heap.objs.size (.dT []))) hc (Qw (Ni (i:=0) (x:=x) h9 rfl (Pw C.own) (Ud C.own)) (Qw (Ni (i:=1) (x:=f) h9 rfl (Pw E) (Ud E)) eN))
   refine Gj (g1 _ s8 _ H8 y u (λq0 g=>q0=some w1::some w2::Ey L N/\g=H8) j3 r8 ⟨tp,[w1,w2],ey,q4,rfl,_,_,rfl,_,_,rfl,rfl,rfl,rfl⟩) λ_ P c => ?_
   obtain ⟨x7,U,Y,e9,j2⟩ := c
   subst e9 j2
   refine Gj (ht fp s3 _ _ P _ _ _ Y k7) λok j4 c => ?_
   obtain ⟨x0,k2,t⟩ := c
   cases ok with
   | false =>
    rw[if_neg Bk] at t ⊢
    obtain ⟨R,Z,j0⟩:=q6 _ t
    exact again k2 Z j0
   | true =>
    rw[if_pos rfl] at t ⊢
    refine Gj (hk fp s3 _ _ j4 _ _ _ k2 t) λzk j7 c => ?_
    obtain ⟨vk,x5,q3,q8,q7⟩ := c
    refine Gj (hv fp s3 _ _ j7 _ _ _ q3 q7) λzv x3 c => ?_
    obtain ⟨vv,x4,j1,q5,k8⟩ := c
    obtain ⟨x6,kk,b,ha,eb,z,hz,R,Z,k6⟩:=q1 _ _ _ k8
    subst eb
    cases (show zk=Be b from q8)
    exact zQ (X:=Dh X a j (x::f::ys) fp s3 (upd F d.heap.objs.size (.dT []))) (A:=X.A) hu j1 ha z hz q5 λx8 j9=>again j9 Z k6
 exact codeAny_compStart_dict (G _ rfl) (T.self X.A 0 _ _ _ V (G _ rfl))
end
end Nd
namespace DL
open PySem PySem.Spec PyProof.Rows L2 Nd
section
variable{K:PySem.W.Frag}
theorem IB{i:Nat}(r:DRel K H kv ks)(h:kv[i]? = some (k,v)):∃w d,ks[i]? = some (w,d)/\k=Mb w:=by
 have e:=congrArg (λl=>l[i]?) r.key
 simp only[Bg,h,Option.map_some] at e
 cases q:ks[i]? with
 | none=>rw[q] at e; cases e
 | some p=>rw[q] at e; exact ⟨p.1,p.2,rfl,Cj e⟩
theorem Z7(h:H t=some (.tup ((Mb w).map kV)))(hl:(Mb w).length<=Au):RdF K H (.ref t) (Bf w) []:=by
 rw[oG] at h
 refine .tup h ?_ (RdFs.ints w)
 unfold Mb at hl
 rw[Ad] at hl ⊢
 exact hl
theorem zV:IterOk K (FG K a b ks.length) [⟨some (.ref a),.dat (Kk m) (.dict (Qs ks)),F⟩,⟨some (.ref b),.dat (Kk C) (.list es),G⟩] (mdZip m C) ((ks.zip es).map λp=>.tuple [Bf p.1.1,p.2]) where
 md:=by cases m <;> cases C <;> simp [mdZip]
 hd:=λe he=>by
  rcases Al.mp he with rfl | he
  ·exact Vm
  ·rw[Aj.mp he]
   exact Vm
 np:=λz e he=>by
  rcases Al.mp he with rfl | he
  ·cases m <;> cases C <;> first | rfl | cases z
  ·rw[Aj.mp he]
   cases m <;> cases C <;> first | rfl | cases z
 go:=λH n i h L=>by
  obtain ⟨c,q,B,e,r,s,j,_⟩:=(Hh h Ab).dict_inv
  cases e
  obtain rfl:=Lr r
  obtain ⟨N,l,M,o,g,f,_,_⟩:=(Hh h (Ac _ Ab)).list_inv
  cases o
  have S:=f.len
  rw[Ad,Ib] at L
  exact ⟨q,l,l[i],s,Qu j,Nm.of g,by omega,by simp [show i<l.length by omega]⟩
 yld:=λH n i x X h L y=>by
  obtain ⟨c,q,B,e,r,s,j,_⟩:=(Hh h Ab).dict_inv
  cases e
  obtain rfl:=Lr r
  obtain ⟨N,l,M,o,g,f,rfl,_⟩:=(Hh h (Ac _ Ab)).list_inv
  cases o
  rw[Ad,Ib] at L
  obtain ⟨p,t,k,v,u,rfl,O,rfl,T,P,U,V⟩:=y
  obtain ⟨w,d,W,rfl⟩:=IB j (T q s)
  have D:=V l (Nm.of g)
  obtain ⟨Y,R,A,I,J⟩:=f.get (i:=i) (e:=es[i]) (by simp [show i<es.length by omega])
  rw[D] at A
  cases A
  have E:=Ew O (.tup [.ref t,u])
  refine ⟨E,.tuple [Bf w,es[i]],R,?_,.tup Dn (by simp [Gs]) ?_,λc Q=>⟨_,Ac _ Ab,Ac _ (J.subset Q)⟩⟩
  ·rw[Bg,show (ks.zip es)[i]? = some ((w,d),es[i]) from oZ.mpr ⟨W,by simp [show i<es.length by omega]⟩]
   rfl
  ·have:=RdFs.cons ((Z7 (K:=K) P U).kp (Kp.of E)) (RdFs.cons (I.kp (Kp.of E)) RdFs.nil)
   rw[Eb] at this
   exact this
 stop:=λH n h=>by
  obtain ⟨c,q,B,e,r,s,j,_⟩:=(Hh h Ab).dict_inv
  cases e
  obtain rfl:=Lr r
  obtain ⟨N,l,M,o,g,f,_,_⟩:=(Hh h (Ac _ Ab)).list_inv
  cases o
  have S:=f.len
  refine ⟨q,l,s,Qu j,Nm.of g,?_⟩
  rw[Ad,Ib]
  omega
end
def NR(c:DE):DI:=λd P=>c d λx b=>match x with
 | .dat m (.dict X)=>∃a,X=Qs a/\a.length<=1000000/\P (Kk m) (a.map λp=>Bf p.1) b
 | _=>False
def N7(c:DA):DI:=λd P=>c d λe a=>match e with
 | [.dat m (.dict X),.dat m' (.list es)]=>∃b,X=Qs b/\P (mdZip m m') ((b.zip es).map λp=>.tuple [Bf p.1.1,p.2]) a
 | _=>False
section
variable{X:Cx}{i e a b:Expr}{g:DE}{d:DA}{c:List Expr}{k:Nat}{f p pos:Pos}
theorem mW(t:Gl X "zip")(F:X.mg "zip" = none)(h:lN X [a,b] d)(Q:Bo [a,b] X.env=(false,eval a X.env)::Bo [b] X.env:=by rfl)(w:(Hm pos (Bo [b] X.env)).any (·.1)=false:=by rfl):uT X (.Tuple c k f) (.Call (.Name "zip" p) [a,b] [] pos) (N7 d):=by
 refine PI.imp (CD t F h Q w) λσ H R h=>?_
 obtain ⟨o,Y,S,T,D,P,rfl,O,I,E,k⟩:=h
 refine ⟨o,Y,S,T,D,_,rfl,O,I,E,λxs g As us q r V x y M j i=>?_⟩
 split at i
 ·rename_i m X' m' U
  obtain ⟨u,rfl,i⟩:=i
  obtain ⟨v1,z,v2,F2,rfl,e⟩:=fB M j y
  obtain ⟨a,B,W,rfl,C,L,l,_⟩:=(e.told mem_mid).dict_inv
  obtain rfl:=Lr C
  obtain ⟨b,J,G,rfl,v,rb,rfl,N⟩:=(e.told Fp).list_inv
  refine ⟨a,b,B,rfl,L,⟨J,Nm.of v⟩,?_⟩
  rw[Qu l]
  have Z:=(e.mid.wk (Uq _)).tomid
  have A:At X.K o Y g.n ((q++[⟨some (.ref a),.dat (Kk m) (.dict (Qs u)),z⟩])++⟨some (.ref b),.dat m' (.list U),b::G⟩::T) r:=by rw[Br]; exact Z
  have s:=(A.mid.wk (Uq _)).tomid
  rw[Br] at s
  exact k _ _ g _ [_,_] q r V x s zV (by rw[Ad,Ib]; exact Ca (Nat.min_le_right _ _) N) i
 ·exact i.elim
end
def iP(ks:List (List Int×Af)):List (List Ky×Af):=ks.map λp=>(Mb p.1,p.2)
section
variable{K:PySem.W.Frag}{d H g:Hp}{X:Addr->Prop}{n:Nat}{E S T:List Ent}
theorem K4(h1:kv.map (·.1)=(iP ks).map (·.1))(a:RdFs K H (kv.map (·.2)) ((iP ks).map (·.2)) []):DRel K H kv ks:=by
 unfold iP at h1 a
 rw[Dj] at h1 a
 exact ⟨h1,a⟩
theorem HH(r:DRel K H kv ks):kv.map (·.1)=(iP ks).map (·.1)/\RdFs K H (kv.map (·.2)) ((iP ks).map (·.2)) []:=by
 unfold iP
 rw[Dj,Dj]
 exact ⟨r.key,r.val⟩
theorem At.dNew(h:At K d X n E H)(c:H D=Su):At K d X n (⟨some (.ref D),.dT (iP []),[D]⟩::E) (upd H D (.dT [])):=by
 have g:=Ew c (.dT [])
 refine (h.grow (n':=n) g (Ak _)).push ⟨D,[],rfl,rfl,Dn,rfl,.nil⟩ (λf i=>?_) λa b=>?_
 ·have e:=h.free c f i
  refine ⟨λ_ a b z=>?_,λ_ a b z=>?_⟩
  ·rw[Aj.mp b] at z
   exact e z
  ·rw[Aj.mp z] at b
   exact e (Fu _ _ b)
 ·rw[Aj.mp b]
  exact .inl (h.new0 c)
theorem At.dPut(h:At K d X n (⟨some (.ref D),.dT (iP ks),[D]⟩::E) H)(r:RdF K H v e []):∃kv,H D=some (.dT kv)/\kv.length=ks.length/\At K d X n (⟨some (.ref D),.dT (iP (Ta ks w e)),[D]⟩::E) (upd H D (.dT (Pr kv (Mb w) v))):=by
 obtain ⟨a,kv,J,L,x,t,u⟩:=h.ok _ Ab
 have p:some (V.ref D)=some (V.ref a):=J
 cases p
 have i:=K4 t u
 have l:=Ay.mp h.sep
 have y:=h.sub (Di _ _)
 have kp:∀{F:List Addr},D∉F->Kp F H (upd H D (.dT (Pr kv (Mb w) v))):=λ{F} C b o q z=>by
  have : b≠D:=by
   rintro rfl
   rw[x] at q
   cases q
   rcases z with z | z
   ·exact C z
   ·rcases z with ⟨_,z⟩ | ⟨_,_,z⟩ <;> cases z
  rw[Dr this]
  exact q
 have m:d D=Su:=by
  rcases h.new _ Ab D Ab with z | z
  ·exact z
  ·cases z.2
 have j:=(qL w r i).kp (kp Ba)
 obtain ⟨B,A⟩:=HH j
 refine ⟨kv,x,Qu i,?_⟩
 refine ⟨λf hf=>?_,Ay.mpr ⟨λf hf=>⟨λs a g=>(l.1 f hf).1 s a g,λs a g=>(l.1 f hf).2 (s.imp id id) a g⟩,l.2⟩,λf hf=>?_,λb o G q=>?_,λb o q=>?_,λb I=>?_⟩
 rotate_right
 ·obtain ⟨z,c,k,f,t,u⟩:=h.xd b I
  refine ⟨z,c,k,f,(Dr ?_).trans t,u⟩
  rintro rfl
  exact z m
 ·rcases Al.mp hf with rfl | hf
  ·exact ⟨D,_,rfl,rfl,Dn,B,A⟩
  ·exact (y.ok f hf).kp (kp ((l.1 f hf).1 (.inr rfl) D Ab)) (Ak _)
 ·rcases Al.mp hf with rfl | hf
  ·intro a g
   rw[Aj.mp g]
   exact .inl m
  ·exact y.new f hf
 ·rw[Dr (Gf q m)]
  exact h.same b o G q
 ·rw[Dr (Gf q m)]
  exact h.dom b o q
theorem At.dGot(h:At K d X n (⟨some (.ref D),.dT (iP ks),[D]⟩::E) H):At K d X n (⟨some (.ref D),.dat .ow (.dict (Qs ks)),[D]⟩::E) H:=by
 obtain ⟨a,p,o,q,l,k,m⟩:=h.ok _ Ab
 have e:some (V.ref D)=some (V.ref a):=o
 cases e
 have c:=K4 k m
 have g:=Ay.mp h.sep
 refine (h.sub (Di _ _)).push ⟨_,rfl,.dic l c.key c.val,λ_=>Bx.mpr ⟨Ba,Dx⟩,λz=>nomatch z⟩ (λf i=>⟨λj a b=>(g.1 f i).1 (.inr rfl) a b,λj a b=>(g.1 f i).2 (.inl rfl) a b⟩) λa b=>?_
 rcases h.new _ Ab a b with z | z
 ·exact .inl z
 ·cases z.2
end
def qY(a:List Int->Af->Nat->Prop)(y z:DV)(b:DS):Prop:=match y,z with
 | .dat _ k,.dat _ e=>∃w,k=Bf w/\imm e=true/\a w e b.n
 | _,_=>False
def oU(dc:DT)(f h:DE)(i:DS)(d:List Int->Af->Nat->Prop)(g:Nat->Prop):Prop:=dc i λc a=>match c with
 | true=>f a λy e=>h e λz b=>qY d y z b
 | false=>g a.n
def lK(k:DI)(o:List Nat)(dc:DT)(j p:DE):DE:=λl P=>k l λm f b=>f.length<=1000000/\∃I:Nat->List (List Int×Af)->Nat->Prop,I 0 [] b.n /\
 (∀i d a n,f[i]? = some d->I i a n->∃h g,d=.tuple [h,g]/\oU dc j p ⟨.dat m h::.dat m g::frD b.sl o,n⟩ (λw e c=>I (i+1) (Ta a w e) c) (λc=>I (i+1) a c)) /\
 ∀a n,I f.length a n->P (.dat .ow (.dict (Qs a))) ⟨b.sl,n⟩
theorem pB(ks:List (List Int×Af))(w:List Int)(d:Af):(Ta ks w d).length<=ks.length+1:=by
 unfold Ta
 split
 ·rw[Ad]; omega
 ·rw[Bm]; simp
section
variable{K:PySem.W.Frag}{f H g:Hp}{Y:Addr->Prop}{n:Nat}{E S T:List Ent}
theorem zB:∀σ H Q,LE K (lK di B dc dk dv) σ H Q->xR K (LI K di) B (LT K dc) (LE K dk) (LE K dv) σ H Q:=by
 intro σ H Q h
 obtain ⟨f,Y,S,T,δ,P,rfl,hS,hA,hd,k⟩:=h
 refine ⟨f,Y,S,T,δ,_,rfl,hS,hA,hd,λm u C J l o H1 e1 e2 k0 it hz p1=>?_⟩
 obtain ⟨k6,I,h0,hs,hf⟩:=p1
 have k7:=iQ (n:=1000000) (Ak _)
 rw[<- e1]
 intro D hD
 refine ⟨λi q H=>q=u.length - i/\i<=u.length/\∃j n,At K f Y n (⟨some (.ref D),.dT (iP j),[D]⟩::(o++(l++T))) H/\j.length<=i/\I i j n,⟨u.length,by simp,Dq _,[],C.n,k0.dNew hD,Ak _,h0⟩,?_⟩
 (intro i q H q_; obtain ⟨rfl,hi,j,n,M,hl,hI⟩ := q_)
 have p:∀e∈l,Ir K H n e:=λe he=>M.ok e (Ac _ (Ag _ (Am _ he)))
 by_cases s:i<u.length
 ·refine .inr ⟨it.go H n i p s,λx g y=>?_⟩
  obtain ⟨s1,d,F,h1,h2,h3⟩:=it.yld H n i x g p s y
  obtain ⟨A,U,rfl,h9⟩:=hs i d j n h1 hI
  obtain ⟨t,xs,rfl,ht,rt,_⟩:=h2.tup_inv
  cases rt with
  | @cons v _ xs _ E _ r1 rt =>
   cases rt with
   | @cons L _ xs _ F2 G r2 rt =>
    cases rt
    have k5:At K f Y n ((⟨some (.ref D),.dT (iP j),[D]⟩::o)++⟨some v,.dat m A,E⟩::(l++T)) g:=At.item (S:=⟨some (.ref D),.dT (iP j),[D]⟩::o) M s1 r1 (λa ha=>h3 a (Am _ ha)) it.md it.hd it.np
    have X:At K f Y n ((⟨some v,.dat m A,E⟩::⟨some (.ref D),.dT (iP j),[D]⟩::o)++(l++T)) g:=k5.mid
    have N:At K f Y n ((⟨some v,.dat m A,E⟩::⟨some (.ref D),.dT (iP j),[D]⟩::o)++⟨some L,.dat m U,F2⟩::(l++T)) g:=At.item X (Va.refl _) r2 (λa ha=>h3 a (Ag _ (Am _ ha))) it.md it.hd it.np
    have R:At K f Y n (⟨some v,.dat m A,E⟩::⟨some L,.dat m U,F2⟩::⟨some (.ref D),.dT (iP j),[D]⟩::(o++(l++T))) g:=N.mid.perm (Ef _ _ _)
    have k1:=At.view (S:=o) R (λe he=>Ac _ (Ac _ (Ac _ (Am _ he)))) B
    have k4:At K f Y n ((⟨some v,.dat m A,E⟩::⟨some L,.dat m U,F2⟩::jF o B)++⟨some (.ref D),.dT (iP j),[D]⟩::(o++(l++T))) g:=by
     have z:=k1.mid
     refine z.perm ?_
     exact (El).cons _
    have h8:Sl (⟨some v,.dat m A,E⟩::⟨some L,.dat m U,F2⟩::jF o B) ⟨.dat m A::.dat m U::frD C.sl B,n⟩:=by
     unfold Sl
     rw[Aq,Aq,sP e2]
    have hv:vs (⟨some v,.dat m A,E⟩::⟨some L,.dat m U,F2⟩::jF o B)=some v::some L::Ey (vs o) B:=by
     rw[<- pC]
     rfl
    refine ⟨t,v,L,rfl,Wt.of ht,λH2=>∃m',m'<u.length - i/\_,λkx vx H3=>∃(h7:List (List Ky×V)) (k:List Ky) (b:Addr),H3 D=some (.dT h7)/\kx=.ref b/\H3 b=some (.tup (k.map kV))/\h7.length<Au/\∃m',m'<u.length - i/\_,λH2 q=>q,λkx vx H3 q=>q,?_⟩
    rw[<- hv]
    refine ⟨f,Y,_,⟨some (.ref D),.dT (iP j),[D]⟩::(o++(l++T)),_,_,rfl,h8,k4,h9,λc Z S2 H2 f1 f2 h6 p2=>?_⟩
    cases c with
    | false=>exact vR ⟨u.length - (i+1),by omega,rfl,s,j,Z.n,h6.sub (Bq _ _),by omega,p2⟩
    | true =>
     refine uA ⟨f,Y,S2,⟨some (.ref D),.dT (iP j),[D]⟩::(o++(l++T)),Z,_,f1,f2,h6,p2,λyk k3 vk Fk S3 H3 f3 f4 k2 p3=>?_⟩
     refine ⟨f,Y,S3,⟨some vk,yk,Fk⟩::⟨some (.ref D),.dT (iP j),[D]⟩::(o++(l++T)),k3,_,f3,f4,k2,p3,λyv W vv Fv S4 H4 f5 f6 O p4=>?_⟩
     unfold qY at p4
     split at p4
     ·rename_i mk k8 mv h4
      obtain ⟨w,rfl,im,p5⟩:=p4
      obtain ⟨b,rfl,hb⟩:=Zg (O.told Fp)
      have r:=O.told mem_mid
      obtain rfl:=r.imm im
      have h5:At K f Y W.n (⟨some (.ref D),.dT (iP j),[D]⟩::(o++(l++T))) H4:=O.drop2.sub (Bq _ _)
      obtain ⟨kv,g1,g2,g3⟩:=h5.dPut (w:=w) r
      have:=pB j w h4
      exact ⟨kv,Mb w,b,g1,rfl,hb,by omega,u.length - (i+1),by omega,rfl,s,Ta j w h4,W.n,g3,by omega,p5⟩
     ·exact p4.elim
 ·have e:i=u.length:=by omega
  subst e
  refine .inl ⟨it.stop H n p,k _ ⟨C.sl,n⟩ _ [D] o H e1 e2 ?_ (hf j n hI)⟩
  have R:At K f Y n (⟨some (.ref D),.dat .ow (.dict (Qs j)),[D]⟩::(o++T)) H:=M.dGot.sub (((Cp o).append (Bq l T)).cons₂ _)
  exact R.tomid
end
section
variable{X:Cx}{k i iter:Expr}{x b:Str}{h c pt pos:Pos}{f:Nat}{d:List Expr}{a:Scope}{e:List (Str×Addr)}{ys:List Str}{m:List Nat}{j:DI}{dc:DT}{g l:DE}
theorem zW(w:X.A.units+64<cLine)(C:CompScope X a e x ys m)(n:dJ a b)(o:(x::b::ys).Nodup)(p:X.calm=true)(t:uT X (.Tuple [.Name x h,.Name b c] f pt) iter j)(r:∀fp s H,sY (Dh X a e (x::b::ys) fp s H) d (LT X.K dc))(u:∀fp s H,Fw (Dh X a e (x::b::ys) fp s H) k g)(v:∀fp s H,Fw (Dh X a e (x::b::ys) fp s H) i l)(q:∀x,Dd iter X.env x=pure x:=by intro _; rfl):Fw X (.DictComp k i [⟨.Tuple [.Name x h,.Name b c] f pt,iter,d,0⟩] a pos) (lK j m dc g l):=PE.imp (o7 C n o p (OV w) t r u v q) zB
end
def MP(K:PySem.W.Frag):V->V->Hp->VK->Prop:=λo i H Q=>∃p a k z,o=.ref p/\i=.int k/\Nm K H p a/\0<=k/\a[k.toNat]? = some z/\Q z H
theorem E1:MW X (MP X.K):=by
 intro c s A H o i y v Q I d m h
 obtain ⟨p,C,k,z,rfl,rfl,f,g,b,q⟩:=h
 cases d
 obtain ⟨t,rfl⟩:=m
 obtain ⟨j,r,n,u⟩:=I.list f
 obtain ⟨w,e,a⟩:=r.get b
 have:=Yj
 have l:=r.length
 have B:=(Bb.mp b).1
 refine wpAny_getItem_list (x:=w) n.isList g (by omega) (by simpa using e) ⟨z,H,I,a,q⟩
def augIB(i:Nat)(k:Int)(a:Int)(y:DV)(c:DS)(D:DEnds):Prop:=match c.sl[i]?,y with
 | some (.dat m (.list ds)),.dat _ (.int b)=>own1 m=true/\npk c.sl=true/\Ei ds=true/\k<ds.length/\D.nx ⟨c.sl.set i (.dat m (.list (ds.set k.toNat (.int (a+b))))),c.n⟩
 | _,_=>False
def augIK(i:Nat)(d:DE)(z:DV)(c:DS)(D:DEnds):Prop:=match c.sl[i]?,z with
 | some (.dat _ (.list ds)),.dat _ (.int k)=>0<=k/\∃a,ds[k.toNat]? = some (.int a)/\d c λy b=>augIB i k a y b D
 | _,_=>False
def DR(i:Nat)(c d:DE):DB:=λD b=>isLst b.sl[i]? = true/\c b λz a=>augIK i d z a D
section
variable{X:Cx}{o d e:Expr}{f g:DE}{pos c:Pos}{i:Nat}
theorem R3{K:PySem.W.Frag}{c:DS}{n:Nat}(k:Sl S c)(h:At K l Y c.n (S++T) H)(b:isLst c.sl[n]? = true):∃a,(vs S)[n]? = some (some (.ref a)):=by
 cases q:c.sl[n]? with
 | none=>rw[q] at b; cases b
 | some x =>
  rw[q] at b
  obtain ⟨e,f,i⟩:=Mz k q
  obtain ⟨u,y,F⟩:=e
  have d:y=x:=i
  subst d
  have g:(⟨u,y,F⟩ : Ent)∈S:=Bj f
  match y,b with
  | .dat m (.list ds),_ =>
   obtain ⟨v,j,rd,_⟩:=h.ok _ (Am _ g)
   obtain ⟨a,p,G,rfl,o,_⟩:=rd.list_inv
   exact ⟨a,by rw[Uw f]; exact congrArg some j⟩
theorem AJ(ho:PE X o (mG i))(hk:Fw X d g)(he:Fw X e f)(ha:∀C B l,augStore d C B l=(do Rn [l,C,B] (setItem C B l); release [l,C,B] []; pure .next):=by intros; rfl):zS X (.AugAssign (.Subscript o d c) .Add e pos) (DR i g f):=by
 refine PS.impD (X4 ho hk E1 he HA fR ha) λD σ H h=>?_
 obtain ⟨H0,Y,S,T,δ,P,rfl,hS,hT,hA,I,k1,k2,k3,k4⟩:=h
 obtain ⟨J,I⟩:=I
 obtain ⟨a,M⟩:=R3 hS hA J
 refine ⟨.ref a,M,H0,Y,S,T,δ,_,rfl,hS,hA,I,λz E w F U H1 e1 W n p=>?_⟩
 unfold augIK at p
 split at p
 ·rename_i m ds m' k Q
  obtain ⟨p,j,p2,p3⟩:=p
  obtain ⟨rfl,_⟩:=(n.told mem_mid).int_inv
  obtain ⟨s,V,f3⟩:=Mz W Q
  have hm:s∈U:=Bj V
  obtain ⟨u,x,G0⟩:=s
  have R:x=.dat m (.list ds):=f3
  subst R
  obtain ⟨v,N,rd,_⟩:=n.ok _ (Am _ hm)
  obtain ⟨a',xs,G,rfl,L,ra,eF,hz⟩:=rd.list_inv
  have ea:(vs U)[i]? = some (some (.ref a')):=by rw[Uw V]; exact congrArg some N
  rw[e1,M] at ea
  cases ea
  obtain ⟨x',F',x1,x2,_⟩:=ra.get p2
  obtain ⟨rfl,_⟩:=x2.int_inv
  refine ⟨a,xs,k,.int j,rfl,rfl,Nm.of L,p,x1,H0,Y,U,T,E,_,e1,W,n.drop,p3,λy h0 w2 F2 S2 H2 e3 e4 r A=>?_⟩
  unfold augIB at A
  split at A
  ·rename_i m2 O m3 b q
   obtain ⟨q1,q2,q3,q4,q5⟩:=A
   obtain ⟨rfl,_⟩:=(r.told mem_mid).int_inv
   obtain ⟨b',t,G1,Z,g2,K,g4,g5⟩:=eT (es:=O.set k.toNat (.int (j+b))) e4 hT r.drop q q1 q2
   rw[e3,M] at Z
   cases Z
   obtain rfl:=K.imm q3
   obtain ⟨S3,h1,h2,h3⟩:=g5 (t.set k.toNat (.int (j+b))) [] (K.setI (.int _)) (Cp _) (by rw[Xm]; exact g4)
   refine ⟨j,b,rfl,rfl,a,t,k,k.toNat,rfl,rfl,g2,?_,?_⟩
   ·rw[K.len]
    unfold V0
    rw[if_pos p,if_pos q4]
   rw[<- e3,<- h1]
   exact k1 ⟨_,_⟩ S3 _ h2 h3 q5
  ·exact A.elim
 ·exact p.elim
end
end DL
namespace Nd
open PySem PySem.Spec PySem.Calls PyProof.Rows PyProof.V L2
def KF(r:Addr)(j:Int)(h:Heap):Prop:=∃t u v,IsRange h r 0 j 1 t u v
abbrev B7(r:Addr)(j:Int):HO:=.ext (KF r j)
section
variable{prog:Bn}{w:World}{A:Ck}{E:Value->Ah->Prop}{s:Ah}
theorem jI{n:Nat}(N:A.handled=none)(M:IsRange s.heap r a b c t u v)(m:Builtin.Range.small a b c=true)(O:Ly a b c=n)(B:n<=2 ^ 24)(h:∀(h':Heap) (k:Nat) (D:Array Value),(∀b o,s.heap.get? b=some o->h'.get? b=some o)->ItemsOf (λi v=>∃t,v=.int (a+i * c) t) D n->R D.toList { s with heap:=h',toks:=k }):wpAny (model prog w) A (collect (.ref r)) R E s:=by
 unfold collect
 refine Aa (wpAny_runValue (Gp PyProof.Rows.entry_proto_collect' ?_))
 rw[Gm PySem.F.plain_proto_collect _]
 show wpAny _ A.in1 (newList [] >>= λl=>again (.builtin "list.__iadd__" ⟨[l,.ref r],[]⟩)) _ _ s
 refine Aa (Cf ?_)
 refine Ae ⟨Rm PySem.F.plain_list_iadd _,Gp PyProof.Rows.entry_list_iadd' ?_⟩
 rw[Gm PySem.F.plain_list_iadd _]
 have p:(s.heap.push { cls:=.type "list",data:=.seq ([]:List Value).toArray }).get? s.heap.objs.size=some { cls:=.type "list",data:=.seq #[] }:=Ap _ rfl
 show wpAny _ A.in1 (Oz (.ref s.heap.objs.size) (.ref r) (.ref s.heap.objs.size)) _ _ _
 have H:=wpAny_extend_range (prog:=prog) (w:=w) (A:=A) (s:={ s with heap:=s.heap.push { cls:=.type "list",data:=.seq ([]:List Value).toArray } })
  (R:=λ(q:Result) (G:Ah)=>∃(h':Heap) (k:Nat) (d:Array Value) (z:Nat),q=.ok (.ret (.ref s.heap.objs.size))/\G={ s with heap:=h',toks:=k } /\
   (∀b o,s.heap.get? b=some o->h'.get? b=some o)/\h'.get? s.heap.objs.size=some { cls:=.type "list",dict:=none,data:=.seq d z,slots:=#[] }/\ItemsOf (λi v=>∃t,v=.int (a+i * c) t) d n)
  N (Ai _ M) m O B s.heap.objs.size (.ref s.heap.objs.size) 0 p
  (λh' k d z C j g=>⟨h',k,d,z,rfl,rfl,λb o e=>C b o (By (Ax e)) (Ai _ e),j,g⟩)
 refine Da H (λI G x=>?_) λe G x=>?_
 ·cases I with
  | done f =>
   obtain ⟨h',k,d,z,e,rfl,C,j,g⟩:=x
   cases e
   show wpAny _ A (load s.heap.objs.size >>= _) _ _ _
   refine Aa (Yy j ?_)
   exact Ae (h h' k d C g)
  | again J =>
   refine ⟨x.1,Pj x.2 λq K y=>?_⟩
   obtain ⟨h',k,d,z,rfl,rfl,C,j,g⟩:=y
   show wpAny _ A (load s.heap.objs.size >>= _) _ _ _
   refine Aa (Yy j ?_)
   exact Ae (h h' k d C g)
 ·obtain ⟨_,_,_,_,L,_⟩:=x
  cases L
theorem bM{n:Nat}(B:A.handled=none)(p:IsRange s.heap r a b c t u v)(f:Builtin.Range.small a b c=true)(C:Ly a b c=n)(q:n<=1000)(h:∀(h':Heap) (m:Nat) (d:Array Value),(∀b o,s.heap.get? b=some o->h'.get? b=some o)->ItemsOf (λi v=>∃t,v=.int (a+i * c) t) d n->Q₁ (.ref h'.objs.size) { s with heap:=h'.push { cls:=.type "tuple",data:=.seq d },toks:=m }):Hy (model prog w) A (.call (.builtin "tuple.__new__") ⟨[.type "tuple",.ref r],[]⟩) (wants Q₁ E) s:=by
 refine aJ ?_
 show wpAny _ A.in1 (do checkBuiltinCall "tuple.__new__" ⟨[.type "tuple",.ref r],[]⟩; again (.builtin "tuple.__new__" ⟨[.type "tuple",.ref r],[]⟩)) _ _ s
 refine Aa (Jz (F.newCall_tuple_1 _) (Ae ⟨Rm F.plain_tuple_new _,Gp F.entry_tuple_new ?_⟩))
 rw[Gm F.plain_tuple_new _]
 have x:=sub_tuple_self
 have k:=init_tuple_lookup
 have z:=madeHere_tuple
 have l:s.TypeIs (.ref r) "range" := ⟨_,p,rfl⟩
 have j:A.in1.handled=none:=B
 wp_walk using Jc l,jI j p f C (by omega)
 intro h' m d y g
 show wpAny _ _ (Gz d.toList.toArray >>= λv=>ret v) _ _ _
 unfold Gz
 refine Aa (Cf ?_ (by show d.toList.toArray.size<=Au; simp only[Array.toArray_toList]; rw[g.1,Gs]; omega))
 refine Ae ?_
 have e:d.toList.toArray=d:=by simp
 rw[e]
 exact h h' m d y g
end
theorem iW:∀{n:Nat} {a:Array Value},a.size=n->(∀(i:Nat) v,a[i]? = some v->∃t,v=Lz (i:Int) t)->Fm a.toList ((Bw n).map λk:Nat=>(k:Int)):=by
 intro n a f h
 have b:∀(l:List Value) (m:Nat),(∀(i:Nat) v,l[i]? = some v->∃t,v=Lz ((m+i:Nat):Int) t)->Fm l ((List.range' m l.length).map λk:Nat=>(k:Int)):=by
  intro l
  induction l with
  | nil=>intro m _; exact .nil
  | cons x l g =>
   intro m d
   obtain ⟨t,e⟩:=d 0 x rfl
   have:=g (m+1) λi v c=>by
    obtain ⟨t,e⟩:=d (i+1) v c
    exact ⟨t,by rw[e]; congr 1; omega⟩
   rw[Bh,List.range'_succ,Aq]
   rw[e]
   exact .cons _ t this
 have:=b a.toList 0 λi v c=>by
  obtain ⟨t,e⟩:=h i v (by simpa using c)
  exact ⟨t,by rw[e]; congr 1; omega⟩
 rw[List.range_eq_range']
 have e:a.toList.length=n:=by simpa using f
 rw[e] at this
 exact this
section
variable{X:Cx}
def KD:List V->Hp->VK->Prop:=λa H Q=>∃j:Int,a=[.int j]/\∀r,H r=none->Q (.ref r) (upd H r (B7 r j))
theorem pS:Nt X (.type "range") KD:=by
 intro c s f H i l Q I r h
 obtain ⟨j,rfl,q⟩:=h
 obtain ⟨u,rfl,t,rfl⟩:=vals1 r
 refine call_range_1 ⟨.ref s.heap.objs.size,_,I.laid (a:=s.heap.objs.size) (o:=B7 s.heap.objs.size j) (t':=s.toks+1+1) (λb o e=>Ai _ e) (Ak _) ?_,rfl,q _ (I.hok.fresh (Ak _))⟩
 refine ⟨⟨_,_,_,Ap _ rfl⟩,⟨_,Ap _ rfl⟩,λd g ⟨t,u,v,e⟩ k=>⟨t,u,v,k _ e⟩⟩
def KG:List V->Hp->VK->Prop:=λa H Q=>∃(r:Addr) (j:Int),a=[.ref r]/\H r=some (B7 r j)/\0<=j/\j<=1000/\∀l,H l=none->Q (.ref l) (upd H l (.tup (((Bw j.toNat).map λn:Nat=>(n:Int)).map V.int)))
theorem qW(D:X.calm=true):Nt X (.type "tuple") KG:=by
 intro g s x H P O Q I r h
 obtain ⟨p,j,rfl,C,N,M,q⟩:=h
 obtain ⟨u,rfl,L⟩:=vals1 r
 cases L
 obtain ⟨⟨t,u,v,G⟩,_,_⟩:=(show Kw X.prog X.w H s.heap p (B7 p j) from I.hok p _ C)
 have K:Ly 0 j 1=((j.toNat:Nat):Int):=by rw[rangeSize_one]; split <;> omega
 refine callType_codes (Q₁:=λd c=>c.TypeIs d "tuple" /\ EP X g x Q d c) F.called_tuple (F.typeCall_tuple_1 _) F.entry_object_init
  (bM (prog:=X.prog) (w:=X.w) (E:=X.xe) (Q₁:=λd c=>c.TypeIs d "tuple" /\ EP X g x Q d c) (A:=X.A.in1) (show X.A.in1.handled=none from I.ok.hd D) G (small_one (by omega) (by omega) (by omega) (by omega)) K (by omega) λm z k J l=>⟨⟨_,Ap _ rfl,rfl⟩,?_⟩) λd c f=>?_
 ·have B:Inv X g x H { s with heap:=m,toks:=z }:=I.kept J
  have y:Gn (((Bw j.toNat).map λn:Nat=>(n:Int)).map V.int) k.toList:=by
   refine L9 (iW ?_ ?_)
   ·exact l.1
   ·intro i v y
    obtain ⟨t,e⟩:=l.2 i v y
    exact ⟨t,by rw[e]; congr 1; omega⟩
  refine ⟨.ref m.objs.size,_,B.laid (a:=m.objs.size) (o:=.tup (((Bw j.toNat).map λn:Nat=>(n:Int)).map V.int)) (t':=z) (λb o e=>Ai _ e) (Ak _) ⟨?_,k.toList,y,?_⟩,rfl,q _ (B.hok.fresh (Ak _))⟩
  ·rw[Ad,Ad,Cu]; exact sz (by omega)
  ·have e:k=k.toList.toArray:=by simp
   rw[e]
   exact IsTup.new _ _
 ·exact ⟨f.1,F.args_object_init_2 d _,object_init_meets F.called_tuple.init.lookup F.called_tuple.made (by decide) X.prog X.w X.A.in1 _ c ⟨f.1,rfl,f.2⟩⟩
end
end Nd
namespace DL
open PySem PySem.Spec PyProof.Rows L2 Nd
def JD(K:PySem.W.Frag)(g:PF):Sp:=λh H Q _=>∃(b:List Ent) (n:Nat) (f:List Af) (R:Af->Prop) (C:List Addr),b.map Ent.v=h.map some/\(∀e∈b,Ir K H n e)/\datas (b.map Ent.x)=some f/\g f R/\(∀a∈C,H a≠none/\∀e∈b,a∉e.F) /\
 ∀v d F c,R d->RdF K c v d F->(∀a∈F,a∉C)->Va H c->Q v c
def retA(R:Af->Prop):DEnds where
 nx:=λ_=>R .none
 rt:=λx _=>∃m d,x=.dat m d/\m≠.pk/\R d
section
variable{K:PySem.W.Frag}{b H c:Hp}{X:Addr->Prop}{n:Nat}{E S T:List Ent}
theorem At.pushS(h:At K b X n E H)(r:RdF K H v d F)(g:∀f∈E,∀a∈cells f,a∉F):At K b X n (⟨some v,.dat .sh d,F⟩::E) H :=
 h.push ⟨v,rfl,r,λz=>(nomatch z),λz=>(nomatch z)⟩ (λf e=>⟨λ_ a c=>(nomatch c),λ_ a c=>g f e a c⟩) λa c=>(nomatch c)
end
section
variable{P:Bn}{w:World}{K:PySem.W.Frag}{mg:Str->Option Value}{base:Heap}
theorem LU{As:List Ent}:∀e∈As.map bU++Ih k,∀a∈e.F,∃f∈As,a∈f.F:=λe he a b=>by
 rcases Aw.mp he with he | he
 ·obtain ⟨f,c,rfl⟩:=Cm.mp he
  refine ⟨f,c,?_⟩
  obtain ⟨v,x,F⟩:=f
  cases x <;> exact b
 ·rw[(Hk.mp he).2] at b
  exact nomatch b
theorem J1{x j:Str}{st:Stmt}(F:Fun K x j st f Z)(S:FnScope N ps (Bv st))(hb:∀(l:Value) (A:Ck) (outer:List Env) (s:Ah) (H:Hp) (E:XK),Room k (A.deeper (Ss j (Bv st) s.heap.objs.size f l))->dF (Na Ja P w K mg base N j (Bv st) f l A outer s H E).nox (Kx st) db)(h:∀ds R,pf ds R->ds.length=ps.length/\db (retA R) ⟨args0 ds (N.length - ps.length),0⟩):FnOk P w K mg base Ja (k+1) f Z ps (JD K pf):=by
 refine F.ok S (λvs H Q E z=>?_) λl A outer s H us Q E hr z=>?_
 ·obtain ⟨As,n,ds,R,C,T,ok,q,U,_⟩:=z
  have l1:=(h ds R U).1
  have W:=Kl q
  rw[Ad] at W
  have V:=congrArg Fh T
  rw[Ad,Ad] at V
  omega
 ·obtain ⟨As,n,ds,R,C,T,ok,q,U,hG,Y⟩:=z
  obtain ⟨l1,hd⟩:=h ds R U
  have W:=Kl q
  rw[Ad] at W
  have V:=congrArg Fh T
  rw[Ad,Ad] at V
  let L:Hp:=λa=>open Classical in if a∈C then none else H a
  have G:∀{a},a∈C->L a=none:=λz=>if_pos z
  have I:∀{a},a∉C->L a=H a:=λz=>if_neg z
  -- what holds at the end
  have y:∀{E':List Ent} {n':Nat} {t:Hp},At K L (λ_=>False) n' (E'++[⟨none,.grd H,C⟩]) t->Va H t:=λ{E' n' t} D b o e=>by
   by_cases hb:b∈C
   ·obtain ⟨o',g1,g2⟩:=D.ok _ (Ag _ Ab) b hb
    rw[e] at g1
    cases g1
    exact g2
   ·exact D.same b o (λz=>z) (by rw[I hb]; exact e)
  refine ⟨_,hb l A outer s H E hr,L,λ_=>False,As.map bU++Ih (N.length - ps.length),[⟨none,.grd H,C⟩],⟨args0 ds (N.length - ps.length),0⟩,retA R,?_,?_,λe z=>?_,?_,hd,λM S' t e1 D p=>?_,λx M v F' S' t e1 D p=>?_,λ_ _ _ _ _ p=>p.elim,λ_ _ _ _ _ p=>p.elim⟩
  ·unfold vs L2.start Ih
   rw[Bp,AV,T,On,show us.length=ps.length by omega]
  ·unfold Sl args0 Ih
   rw[Bp,Wd q,On]
  ·rw[Aj.mp z]; rfl
  ·have O:=dU q (N.length - ps.length)
   have hF:=LU (As:=As) (k:=N.length - ps.length)
   have gF:∀e∈As.map bU++Ih (N.length - ps.length),∀a∈C,a∉e.F:=λe he a g z=>by
    obtain ⟨f,hf,zf⟩:=hF e he a z
    exact (hG _ g).2 f hf zf
   refine ⟨λe he=>?_,Cg.mpr ⟨Sx λa g b B=>⟨λX c i=>?_,λX c i=>?_⟩,Em _ _,λa g b B=>⟨λX c i=>?_,λX c i=>?_⟩⟩,λe he a g=>?_,λb o _ e=>?_,λb o e=>?_,λb hb=>hb.elim⟩
   ·rcases Aw.mp he with he | he
    ·have:=xI q ok (N.length - ps.length) e he
     obtain ⟨v,x,F⟩:=e
     cases x with
     | drw=>exact absurd (O _ he).2 (by show ¬ (true=false); decide)
     | _=>exact this
    ·rw[Aj.mp he]
     intro a g
     have:=(hG _ g).1
     cases q:H a with
     | none=>exact absurd q this
     | some o=>exact ⟨o,by first | rfl | exact q,by first | rfl | exact q⟩
   ·rw[(O a g).1] at i; cases i
   ·rw[(O b B).1] at i; cases i
   ·rw[(O a g).1] at i; cases i
   ·rw[Aj.mp B] at i
    exact gF a g c i
   ·rcases Aw.mp he with he | he
    ·rw[(O e he).1] at g; cases g
    ·rw[Aj.mp he] at g
     exact .inl (G g)
   ·by_cases hb:b∈C
    ·rw[G hb] at e; cases e
    ·rw[I hb] at e; exact e
   ·by_cases hb:b∈C
    ·rw[G hb] at e; cases e
    ·rw[I hb] at e; exact ⟨o,e⟩
  ·exact Y .non .none [] t p .non (λ_ z=>(nomatch z)) (y D)
  ·obtain ⟨m,d,rfl,hm,r⟩:=p
   obtain ⟨u,e2,rd,_⟩:=D.ok _ mem_mid
   cases e2
   have J:At K L (λ_=>False) M.n ((S'++[⟨some v,.dat m d,F'⟩])++[⟨none,.grd H,C⟩]) t:=by rw[Br]; exact D
   refine Y v d F' t r rd (λa g=>?_) (y J)
   have sp:=(Cg.mp J.sep).2.2 _ (Ag _ Ab) _ Ab
   exact λz=>sp.2 (.inr rfl) a z g
end
def C7(g:PF)(c:DA):DE:=λe P=>c e λb a=>noPk b=true/\match datas b with
 | some f=>g f λd=>P (.dat .sh d) a
 | none=>False
theorem fT:∀{As:List Ent},noPk (As.map Ent.x)=true->∀e∈As,Qg e.x=false
 | [],_,e,he=>nomatch he
 | ⟨v,x,F⟩::As,h,e,he=>by
  rw[Aq] at h
  have a:Qg x=false/\noPk (As.map Ent.x)=true:=by
   cases x with
   | dat m d=>cases m <;> first | exact ⟨rfl,h⟩ | (simp [noPk] at h)
   | _=>exact ⟨rfl,by simpa [noPk] using h⟩
  rcases Al.mp he with rfl | he
  ·exact a.1
  ·exact fT a.2 e he
section
variable{X:Cx}{CX:vN}{k:Nat}{f:Addr}{b:Cv}{ps:List Str}{c:PF}{E:XK}{x:Str}{p pos:Pos}{e:Expr}{es:List Expr}{i:DA}
theorem rP(F:FnOk X.prog X.w X.K X.mg X.base CX k f b ps (JD X.K c))(hr:Room k X.A)(hg:Gl X x)(hm:X.mg x=some (.ref f))(hk:PySem.W.keepIn X.K (.ref f)=true)(hb:Binds X.K b ps [])(R:Qx CX X E)(u:lN X (e::es) i)(C:(x == ("__debug__" : Str))=false:=by decide)(j:Bo (e::es) X.env=(false,eval e X.env)::Bo es X.env:=by rfl)(G:(Hm pos (Bo es X.env)).any (·.1)=false:=by rfl):Fw X (.Call (.Name x p) (e::es) [] pos) (C7 c i):=by
 refine PE.imp (Wu F hr hg hm hk hb .nil R u C j G) λσ H Q h=>?_
 obtain ⟨O,Y,S,T,δ,P,rfl,hS,hA,hd,N⟩:=h
 refine ⟨O,Y,S,T,δ,_,rfl,hS,hA,hd,λxs y J us I H' e1 V Z eu l p=>?_⟩
 subst Z
 obtain ⟨np,p⟩:=p
 cases q:datas (J.map Ent.x) with
 | none=>rw[q] at p; exact p.elim
 | some ds =>
  rw[q] at p
  rw[Eb]
  have t:=fT np
  have L:=l.dropL
  refine ⟨J,y.n,ds,_,(I++T).flatMap cells,eu,λe j=>l.ok e (Ag _ (Am _ j)),q,p,λa u=>?_,λv d F D r rd M s=>?_⟩
  ·obtain ⟨g,hg1,m⟩:=Iq.mp u
   refine ⟨λz=>?_,λe j=>?_⟩
   ·obtain ⟨o,q⟩:=(L.ok g hg1).dom a (Fu _ _ m)
    rw[z] at q; cases q
   ·obtain ⟨_,B,U⟩ := Cg.mp l.sep
    rcases Aw.mp hg1 with hg1 | hg1
    ·exact (U g hg1 e (Am _ j)).1 (.inl (t e j)) a m
    ·exact ((Cg.mp B).2.2 e j g hg1).2 (.inl (t e j)) a m
  ·refine N _ y v F I D e1 V (((L.grow s (Ak _)).pushS rd λf hf a u z=>M a z (List.mem_flatMap.mpr ⟨f,hf,u⟩)).tomid) r
end
def JI(c:DA):DE:=λd P=>c d λe a=>match e with
 | [.dat _ (.tuple ds)]=>∃b:List Int,ds=b.map Az/\(∀x∈b,0<=x/\x<60)/\P (.dat .ow (.list ((Mv b).map Az))) a
 | _=>False
section
variable{X:Cx}{p c pos b:Pos}{e:Expr}{d:DA}
theorem FC(y:X.calm=true)(hg:Gl X "sorted")(M:X.mg "sorted" = none)(j:Gl X "set")(t:X.mg "set" = none)(n:lN X [e] d)(z:Bo [e] X.env=[(false,eval e X.env)]:=by rfl)(g:Bo [.Call (.Name "set" c) [e] [] b] X.env=[(false,eval (.Call (.Name "set" c) [e] [] b) X.env)]:=by rfl):Fw X (.Call (.Name "sorted" p) [.Call (.Name "set" c) [e] [] b] [] pos) (JI d):=by
 refine PE.imp (fV (aB y) hg M (by decide +kernel) (Ik (Oa (gA y) j t (by decide +kernel) n (by decide) (by decide) z rfl) Oc g) (by decide) (by decide) g rfl) λσ H Q h=>?_
 obtain ⟨B,Y,S,T,J,P,rfl,R,N,K,k⟩:=h
 refine ⟨B,Y,S,T,J,_,rfl,R,N,K,λU o As G W H' e1 C D O i p=>?_⟩
 split at p
 ·obtain ⟨v,F,rfl,f⟩:=Js O i D
  obtain ⟨s,rfl,l,L⟩:=p
  obtain ⟨a,U,rfl,n,A,hz⟩:=(f.told mem_mid).tup_inv
  obtain ⟨rfl,_⟩:=A.ints_inv
  refine ⟨a,s,IT,rfl,Wt.of n,by decide,λx u=>Zr (l x u).1 (l x u).2,λq Z=>?_⟩
  refine ⟨q,s,rfl,Dn,λr G I nd V m=>?_⟩
  rw[mP (bZ nd V) m]
  have E:=Ew Z (bJ X.w q s)
  exact k _ o _ _ W _ e1 C ((f.drop.grow E (Ak _)).newI (RdFs.ints _) (Ov _) (by rw[Ad]; exact sz (by have:=qM l; omega)) I .ow) L
 ·exact p.elim
end
def Ji(j:Nat):List Int:=(Bw j).map λn:Nat=>(n:Int)
def NF(x:DV)(a:DS)(P:DV->DS->Prop):Prop:=match x with
 | .dat _ (.int j)=>0<=j/\j<=1000/\P (.dat .ow (Bf (Ji j.toNat))) a
 | _=>False
def PZ(c:DE):DE:=λb P=>c b λx a=>NF x a P
section
variable{X:Cx}{p b pos a:Pos}{e:Expr}{c:DE}
theorem j4(t:X.calm=true)(M:Gl X "tuple")(C:X.mg "tuple" = none)(g:Gl X "range")(n:X.mg "range" = none)(E:Fw X e c)(o:Bo [e] X.env=[(false,eval e X.env)]:=by rfl)(f:Bo [.Call (.Name "range" b) [e] [] a] X.env=[(false,eval (.Call (.Name "range" b) [e] [] a) X.env)]:=by rfl):Fw X (.Call (.Name "tuple" p) [.Call (.Name "range" b) [e] [] a] [] pos) (PZ c):=by
 refine PE.imp (Oa (qW t) M C (by decide +kernel) (Ik (Oa pS g n (by decide +kernel) (Ik E Oc o) (by decide) (by decide) o rfl) Oc f) (by decide) (by decide) f rfl) λO H Q h=>?_
 obtain ⟨s,Y,S,T,z,P,rfl,I,D,B,k⟩:=h
 refine ⟨s,Y,S,T,z,_,rfl,I,D,B,λx i v F K N L u d p=>?_⟩
 unfold NF at p
 split at p
 ·rename_i m j
  obtain ⟨y,q,p⟩:=p
  obtain ⟨rfl,_⟩:=(d.told mem_mid).int_inv
  refine ⟨j,rfl,λr A=>⟨r,j,rfl,Dn,y,q,λl G=>?_⟩⟩
  have w:=Ew A (B7 r j)
  have J:=Ew G (.tup ((Ji j.toNat).map V.int))
  refine k _ i _ _ K _ L u (((d.drop.grow w (Ak _)).grow J (Ak _)).pushI (RdF.tup Dn ?_ (RdFs.ints _))) p
  rw[Ad]
  unfold Ji
  rw[Ad,Cu]
  exact iQ (by omega)
 ·exact p.elim
end
def Y1(K:PySem.W.Frag)(m:DF):Sp:=λo H Q _=>∃(b:Addr) (j:List V) (g:List Ent) (n:Nat) (l:List Af) (R:Af->Nat->Prop) (C:List Addr),o=.ref b::j/\g.map Ent.v=j.map some/\(∀e∈g,Ir K H n e)/\(∀e∈g,b∉e.F)/\(∃c k f,gJ H b c k f/\0<=k/\k<=(n:Int))/\datas (g.map Ent.x)=some l/\m l n R /\
 b∉C/\(∀a∈C,H a≠none/\∀e∈g,a∉e.F) /\
 ∀v d F i h,n<=i->R d i->RdF K h v d F->(∀a∈F,a∉C)->Xu b H h->(∃c k f,gJ h b c k f/\0<=k/\k<=(i:Int))->Q v h
def retWT(n:Nat)(R:Af->Nat->Prop):DEnds where
 nx:=λa=>n<=a.n/\R .none a.n
 rt:=λx a=>n<=a.n/\∃m d,x=.dat m d/\m≠.pk/\R d a.n
section
variable{P:Bn}{w:World}{K:PySem.W.Frag}{mg:Str->Option Value}{base:Heap}
theorem G7{x l:Str}{st:Stmt}{f:Addr}(F:Fun K x l st f fd)(S:FnScope N (t::ps) (Bv st))(hb:∀(G:Value) (A:Ck) (outer:List Env) (s:Ah) (H:Hp) (E:XK),Room k (A.deeper (Ss l (Bv st) s.heap.objs.size f G))->dF (Na Ja P w K mg base N l (Bv st) f G A outer s H E).nox (Kx st) db)(h:∀ds n R,df ds n R->ds.length=ps.length/\db (retWT n R) ⟨.drw::args0 ds (N.length - (t::ps).length),n⟩):FnOk P w K mg base Ja (k+1) f fd (t::ps) (Y1 K df):=by
 refine F.ok S (λvs H Q E z=>?_) λG A outer s H us Q E hr z=>?_
 ·obtain ⟨j,ws,As,n,ds,R,C,rfl,eu,ok,nd,B,q,hp,_⟩:=z
  have l1:=(h ds n R hp).1
  have l2:=Kl q
  rw[Ad] at l2
  have l3:=congrArg Fh eu
  rw[Ad,Ad] at l3
  rw[Bh,Bh]
  omega
 ·obtain ⟨j,ws,As,n,ds,R,C,rfl,eu,ok,h0,B,q,hp,hC,hG,k1⟩:=z
  obtain ⟨l1,hd⟩:=h ds n R hp
  have l2:=Kl q
  rw[Ad] at l2
  have l3:=congrArg Fh eu
  rw[Ad,Ad] at l3
  let T:Hp:=λa=>open Classical in if a∈C then none else H a
  have O:∀{a},a∈C->T a=none:=λz=>if_pos z
  have I:∀{a},a∉C->T a=H a:=λz=>if_neg z
  have L:∀{E':List Ent} {n':Nat} {J:Hp},At K T (·=j) n' (E'++[⟨none,.grd H,C⟩]) J->Xu j H J:=λ{E' n' J} y b o nb e=>by
   by_cases hb:b∈C
   ·obtain ⟨o',g1,g2⟩:=y.ok _ (Ag _ Ab) b hb
    rw[e] at g1
    cases g1
    exact g2
   ·exact y.same b o nb (by rw[I hb]; exact e)
  refine ⟨_,hb G A outer s H E hr,T,(·=j),⟨some (.ref j),.drw,[j]⟩::(As.map bU++Ih (N.length - (t::ps).length)),[⟨none,.grd H,C⟩],⟨.drw::args0 ds (N.length - (t::ps).length),n⟩,retWT n R,?_,?_,λe z=>?_,?_,hd,λD S' J e1 y p=>?_,λx D v F' S' J e1 y p=>?_,λ_ _ _ _ _ p=>p.elim,λ_ _ _ _ _ p=>p.elim⟩
  ·unfold vs L2.start Ih
   rw[Aq,Bp,AV,eu,On,Bh,Bh,show ws.length=ps.length by omega]
   rfl
  ·unfold Sl args0 Ih
   rw[Aq,Bp,Wd q,On]
  ·rw[Aj.mp z]; rfl
  ·have X:=dU q (N.length - (t::ps).length)
   have hF:=LU (As:=As) (k:=N.length - (t::ps).length)
   have gF:∀e∈As.map bU++Ih (N.length - (t::ps).length),∀a∈C,a∉e.F:=λe he a i z=>by
    obtain ⟨f,hf,zf⟩:=hF e he a z
    exact (hG a i).2 f hf zf
   have V:∀e∈As.map bU++Ih (N.length - (t::ps).length),j∉e.F:=λe he z=>by
    obtain ⟨f,hf,zf⟩:=hF e he j z
    exact h0 f hf zf
   have W:T j≠none:=by
    rw[I hC]
    obtain ⟨c,Z,fl,Y,z2⟩:=B
    exact λz=>(by rw[show H j=some _ from Y] at z; cases z)
   refine ⟨λe he=>?_,Ay.mpr ⟨λb hb'=>?_,Cg.mpr ⟨Sx λa i b hb'=>⟨λM c g=>?_,λM c g=>?_⟩,Em _ _,λa i b hb'=>⟨λM c g=>?_,λM c g=>?_⟩⟩⟩,λe he a i=>?_,λb o _ e=>?_,λb o e=>?_,λb hb=>?_⟩
   ·rcases Al.mp he with rfl | he
    ·obtain ⟨c,Z,fl,Y,z2,z3⟩:=B
     exact ⟨j,c,Z,fl,rfl,rfl,Y,z2,z3⟩
    ·rcases Aw.mp he with he | he
     ·exact xI q ok _ e he
     ·rw[Aj.mp he]
      intro a i
      have:=(hG a i).1
      cases q:H a with
      | none=>exact absurd q this
      | some o=>exact ⟨o,by first | rfl | exact q,by first | rfl | exact q⟩
   ·rcases Aw.mp hb' with hb' | hb'
    ·refine ⟨λM c g=>?_,λM c g=>?_⟩
     ·rw[Aj.mp g]; exact V b hb'
     ·rw[(X b hb').1] at g; cases g
    ·rw[Aj.mp hb']
     refine ⟨λM c g=>?_,λM c g z=>?_⟩
     ·rw[Aj.mp g]; exact hC
     ·rw[Aj.mp z] at g; exact hC g
   ·rw[(X a i).1] at g; cases g
   ·rw[(X b hb').1] at g; cases g
   ·rw[(X a i).1] at g; cases g
   ·rw[Aj.mp hb'] at g
    exact gF a i c g
   ·rcases Al.mp he with rfl | he
    ·rw[Aj.mp i]
     exact .inr ⟨rfl,rfl⟩
    ·rcases Aw.mp he with he | he
     ·rw[(X e he).1] at i; cases i
     ·rw[Aj.mp he] at i
      exact .inl (O i)
   ·by_cases hb:b∈C
    ·rw[O hb] at e; cases e
    ·rw[I hb] at e; exact e
   ·by_cases hb:b∈C
    ·rw[O hb] at e; cases e
    ·rw[I hb] at e; exact ⟨o,e⟩
   ·subst hb
    obtain ⟨c,Z,fl,Y,z2⟩:=B
    exact ⟨W,c,Z,fl,Y,z2⟩
  ·exact k1 .non .none [] D.n J p.1 p.2 .non (λ_ z=>(nomatch z)) (L y) (y.xd j rfl).2
  ·obtain ⟨hn,m,d,rfl,hm,r⟩:=p
   obtain ⟨u,e2,rd,_⟩:=y.ok _ mem_mid
   cases e2
   have U:At K T (·=j) D.n ((S'++[⟨some v,.dat m d,F'⟩])++[⟨none,.grd H,C⟩]) J:=by rw[Br]; exact y
   refine k1 v d F' D.n J hn r rd (λa i=>?_) (L U) (y.xd j rfl).2
   have sp:=(Cg.mp U.sep).2.2 _ (Ag _ Ab) _ Ab
   exact λz=>sp.2 (.inr rfl) a z i
end
def oH(b:DF)(xs:List DV)(a:DS)(P:DV->DS->Prop):Prop:=match xs with
 | .drw::ys=>noPk ys=true/\match datas ys with
  | some e=>b e a.n λd c=>P (.dat .sh d) ⟨a.sl,c⟩
  | none=>False
 | _=>False
def xA(b:DF)(c:DA):DE:=λd P=>c d λe a=>oH b e a P
section
variable{X:Cx}{CX:vN}{k:Nat}{f:Addr}{c:Cv}{ps:List Str}{b:DF}{E:XK}{x:Str}{p pos:Pos}{e:Expr}{es:List Expr}{i:DA}
theorem zT(F:FnOk X.prog X.w X.K X.mg X.base CX k f c ps (Y1 X.K b))(hr:Room k X.A)(hg:Gl X x)(hm:X.mg x=some (.ref f))(hk:PySem.W.keepIn X.K (.ref f)=true)(hb:Binds X.K c ps [])(hx:Qx CX X E)(I:lN X (e::es) i)(h4:(x == ("__debug__" : Str))=false:=by decide)(m:Bo (e::es) X.env=(false,eval e X.env)::Bo es X.env:=by rfl)(k2:(Hm pos (Bo es X.env)).any (·.1)=false:=by rfl):Fw X (.Call (.Name x p) (e::es) [] pos) (xA b i):=by
 refine PE.imp (Wu F hr hg hm hk hb .nil hx I h4 m k2) λσ H Q h=>?_
 obtain ⟨H0,Y,S,T,δ,P,rfl,hS,hA,hd,kk⟩:=h
 refine ⟨H0,Y,S,T,δ,_,rfl,hS,hA,hd,λxs B t M y H' e1 e2 ex O j p=>?_⟩
 subst ex
 unfold oH at p
 split at p
 ·rename_i ys N
  match t,M,N,O,j with
  | ent::t,w::M,N,O,j =>
   obtain ⟨u,z,F⟩:=ent
   have ez:z=.drw:=(Ec N).1
   have h6:t.map Ent.x=ys:=(Ec N).2
   subst ez h6
   obtain ⟨np,p⟩:=p
   have G:=fT np
   have k1:u=some w:=(Ec O).1
   have h8:t.map Ent.v=M.map some:=(Ec O).2
   have hE:(⟨u,.drw,F⟩ : Ent)∈y++((⟨u,.drw,F⟩::t)++T):=Ag _ (Am _ Ab)
   obtain ⟨L,c0,k0,f0,D,h0,h5,h3,h2⟩:=j.ok _ hE
   have ew:some w=some (V.ref L):=k1.symm.trans D
   cases ew
   have h1:F=[L]:=h0
   subst h1
   have hM:=j.perm (qX (S:=y) (T:=t++T))
   have C:=Ay.mp hM.sep
   have Z:At X.K H0 Y B.n (y++T) H':=hM.sub (((Cp y).append (Bq t T)).cons _)
   cases q:datas (t.map Ent.x) with
   | none=>rw[q] at p; exact p.elim
   | some ds =>
    rw[q] at p
    rw[Eb]
    refine ⟨L,M,t,B.n,ds,_,(y++T).flatMap cells,rfl,h8,λe m=>j.ok e (Ag _ (Am _ (Ac _ m))),λe m=>?_,⟨c0,k0,f0,h5,h3,h2⟩,q,p,λz=>?_,λa I=>?_,λv d F n' J hn r rd fr s h7=>?_⟩
    ·exact (C.1 e (Ag _ (Am _ m))).1 (.inr rfl) L Ab
    ·obtain ⟨g,hg1,l⟩:=Iq.mp z
     refine (C.1 g ?_).1 (.inr rfl) L Ab (Fu _ _ l)
     rcases Aw.mp hg1 with h | h
     ·exact Am _ h
     ·exact Ag _ (Ag _ h)
    ·obtain ⟨g,hg1,l⟩:=Iq.mp I
     refine ⟨λz=>?_,λe m=>?_⟩
     ·obtain ⟨o,q⟩:=(Z.ok g hg1).dom a (Fu _ _ l)
      rw[z] at q; cases q
     ·obtain ⟨_,U,hp⟩ := Cg.mp C.2
      rcases Aw.mp hg1 with hg1 | hg1
      ·exact (hp g hg1 e (Am _ m)).1 (.inl (G e m)) a l
      ·exact ((Cg.mp U).2.2 e m g hg1).2 (.inl (G e m)) a l
    ·have R:=hM.drawn Ab rfl D s h7 hn
     have h9:At X.K H0 Y n' (y++T) J:=R.sub (((Cp y).append (Bq t T)).cons _)
     exact kk _ ⟨B.sl,n'⟩ v F y J e1 e2 ((h9.pushS rd λf hf a I z=>fr a z (List.mem_flatMap.mpr ⟨f,hf,I⟩)).tomid) r
 ·exact p.elim
end
abbrev PX:=List Af->(Af->Prop)->(Addr->Prop)->Prop
end DL
namespace Nd
open PySem PySem.Spec PyProof.Rows L2
section
variable{X:Cx}
def GE(K:PySem.W.Frag)(J:It)(p:List Nat)(f:TI)(w:TE)(s:L2.St)(q:Hp)(Q:VK):Prop:=∀D,q D=none->∃W:Nat->Nat->Hp->Prop,(∃m,W 0 m (upd q D (.lst [])))/\∀i m H,W i m H ->
 (J.stop i H/\Q (.ref D) H)\/(J.go i H/\∀x h,J.yld i H x h->∃(t:Addr) (j l:V),x=.ref t/\Wt K h t [j,l]/\∀o:Option V,f (some j::some l::o::Ey s p) h λk v=>∃g:Nat->Nat->Hp->Prop,(∃e,g 0 e v)/\∀b e d,g b e d ->
  (k.stop b d/\∃u,u<m/\W (i+1) u d)\/(k.go b d/\∀y r,k.yld b d y r->w (some j::some l::some y::Ey s p) r λz n=>∃a,n D=some (.lst a)/\a.length<Au/\∃c,c<e/\g (b+1) c (upd n D (.lst (a++[z])))))
def K3(K:PySem.W.Frag)(c:TI)(d:List Nat)(a:TI)(f:TE):TE:=λb H Q=>c b H λJ e=>GE K J d a f b e Q
theorem B5{U iter g:Expr}{x j k:Str}{px N F pt pos:Pos}{kt:Nat}(C:CompScope X a t x ys R)(Z:dJ a j)(Y:dJ a k)(k3:(x::j::k::ys).Nodup)(hc:X.calm=true)(hi:PI X (.Tuple [.Name x px,.Name j N] kt pt) iter wi)(w4:∀fp s H,PI (Dh X a t (x::j::k::ys) fp s H) (.Name k F) g j7)(he:∀fp s H,PE (Dh X a t (x::j::k::ys) fp s H) U te)(hs:∀x,Dd iter X.env x=pure x:=by intro _; rfl)(y1:∀fp s H v,Dd g (Dh X a t (x::j::k::ys) fp s H).env v=pure v:=by intro _ _ _ _; rfl):PE X (.ListComp U [⟨.Tuple [.Name x px,.Name j N] kt pt,iter,[],0⟩,⟨.Name k F,g,[],0⟩] a pos) (K3 X.K wi R j7 te):=by
 intro M s P H Q I h
 rw[eval_ListComp]
 refine Kh (use:=none) rfl hs C.clos C.kind C.locs (Gj (hi M s P H _ I h) λv s1 h1=>Gj h1 λa5 f h2=>?_)
 obtain ⟨it,fp,tn,J,G,e,I2,T,y3,f2,q2⟩:=h2
 subst e
 have fD:G f.heap.objs.size=none:=I2.hok.fresh (Ak _)
 obtain ⟨W,⟨m0,w0⟩,j8⟩:=q2 f.heap.objs.size fD
 refine Cf ?_
 have I3:Inv X M P (upd G f.heap.objs.size (.lst [])) { f with heap:=f.heap.push { cls:=.type "list",dict:=none,data:=.seq ([]:List Value).toArray } } :=
  I2.laid (t':=f.toks) (λb u q=>Ai _ q) (Ak _) ⟨Dq _,[],0,.nil,Ap _ rfl⟩
 obtain ⟨f3,j6,v4⟩:=Wb I2 T y3 f2 I3
 generalize j9:({ f with heap:=f.heap.push { cls:=.type "list",dict:=none,data:=.seq ([]:List Value).toArray } }:Ah)=s3 at I3
 have Ua:tn 0 s3.heap:=by rw[<- j9]; exact j6
 have o3:∀b∈fp,∃o,s3.heap.get? b=some o:=by rw[<- j9]; exact v4
 show wpAny _ _ (Mt a X.env.globals t [] X.env.qual none .none (some X.env)) _ _ _
 refine Tf C λh4 x1 O q4=>?_
 have I4:∀tk,Inv (Dh X a t (x::j::k::ys) fp s3 (upd G f.heap.objs.size (.lst []))) [] (none::none::none::Ey P R) (upd G f.heap.objs.size (.lst [])) { s3 with heap:=h4,toks:=tk }:=λtk=>Qq (pre:=[x,j,k]) C I3 f3 o3 x1 O q4
 have q1:tn 0 h4:=T.keep 0 _ _ Ua λb l o q=>O b o q
 generalize S:Dh X a t (x::j::k::ys) fp s3 (upd G f.heap.objs.size (.lst []))=X' at I4
 obtain ⟨eP,eW,eK,eA,eC⟩:=Vj hc S
 have E:∀{d:Hp},(∀b∈fp,d b=none)->∀b∈fp,Mu X' [] d b:=λ{d} hn=>Tg S (I4 0) hn
 have h6:∀s5:Ah,s5={ s3 with heap:=h4,toks:=s3.toks+([]:List (Str×Value)).length } ->
   Hy (model X.prog X.w) X.A (.compLoop (.ListComp U [⟨.Tuple [.Name x px,.Name j N] kt pt,iter,[],0⟩,⟨.Name k F,g,[],0⟩] a pos) 0 (.ref it) (.ref f.heap.objs.size) (Xy a (Es (s3.heap.objs.size+1) a.names t) s3.heap.objs.size X.env))
    (compPost (model X.prog X.w) X.A X.xe none (EP X M P Q) (.ref f.heap.objs.size) s3.heap.objs.size) s5:=by
  rintro s5 rfl
  refine pO (λv=>y1 fp s3 (upd G f.heap.objs.size (.lst [])) v) (λn s'=>∃i o ob D d,Inv X' [] (o::ob::D::Ey P R) d s'/\tn i s'.heap/\(∀b∈fp,d b=none)/\W i n d) ?_ m0
   ⟨0,none,none,none,_,I4 _,q1,λb l=>(f3 b l).1,w0⟩
  (intro n s6 q_; obtain ⟨i,o,ob,D,H6,I6,j1,j0,w6⟩ := q_)
  rcases j8 i n H6 w6 with ⟨k8,qn⟩ | ⟨go,step⟩
  ·have hd:=T.done X' eP eW eK eC i [] s6 _ H6 (λ_ _=>False) I6 (E j0) j1 k8
   rw[eA] at hd
   refine Gj hd λr s7 c => ?_
   obtain ⟨hr,I7⟩ := c
   subst hr
   obtain ⟨m7,x4,q8⟩:=Ue S I3 f3 I7
   exact ⟨m7,x4,λh8 a1=>⟨.ref f.heap.objs.size,H6,q8 h8 a1,rfl,qn⟩⟩
  ·have j3:=T.item X' eP eW eK eC i [] s6 _ H6 (λ_ _=>False) I6 (E j0) j1 go
   rw[eA] at j3
   refine Gj j3 λr s7 c => ?_
   obtain ⟨u,hr,h7⟩ := c
   subst hr
   refine Gj h7 λ_ s8 c => ?_
   obtain ⟨y,H8,I8,r8,y8,k2,z8⟩ := c
   have z5:=I8.pinned (E z8) (T.obj _ _ k2)
   obtain ⟨tp,w1,w2,ey,y0,j2⟩:=step y H8 y8
   have x6:=j2 D
   have again:∀{H9:Hp} {s9:Ah} {m':Nat} {o9:Option V},Inv X' ([]++Qe fp s8.heap) (some w1::some w2::o9::Ey P R) H9 s9->m'<n->W (i+1) m' H9->∃m,m<n/\∃i o ob D d,Inv X' [] (o::ob::D::Ey P R) d s9/\tn i s9.heap/\(∀b∈fp,d b=none)/\W i m d:=λ{H9 s9 m' o9} I9 hm w9=>by
    refine ⟨m',hm,i+1,some w1,some w2,o9,H9,I9.unpinned,T.keep _ _ _ k2 λb l o e=>(I9.pin (b,o) (Ag _ (Ag _ (Gr l e)))).1,λb l=>?_,w9⟩
    obtain ⟨o,e,_⟩:=T.obj _ _ k2 b l
    exact (I9.pin (b,o) (Ag _ (Ag _ (Gr l e)))).2.1
   subst S
   have g1:PG (Dh X a t (x::j::k::ys) fp s3 (upd G f.heap.objs.size (.lst []))) (.Tuple [.Name x px,.Name j N] kt pt) (BW X.K 2 (gW (Uu 0) (gW (Uu 1) Z6))) :=
    nO (X:=Dh X a t (x::j::k::ys) fp s3 (upd G f.heap.objs.size (.lst []))) hc (Qw (Ni (i:=0) (x:=x) k3 rfl (Pw C.own) (Ud C.own)) (Qw (Ni (i:=1) (x:=j) k3 rfl (Pw Z) (Ud Z)) eN))
   refine Gj (g1 _ s8 _ H8 y u (λh9 d=>h9=some w1::some w2::D::Ey P R/\d=H8) z5 r8 ⟨tp,[w1,w2],ey,y0,rfl,_,_,rfl,_,_,rfl,rfl,rfl,rfl⟩) λ_ s9 c => ?_
   obtain ⟨a9,H9,I9,e9,y7⟩ := c
   subst e9 y7
   refine Gj (w4 fp s3 _ _ s9 _ _ _ I9 x6) λv2 a8 v5=>Gj v5 λa3 w7 z6=>?_
   obtain ⟨z9,k6,v6,J2,z7,z1,x9,T2,h0,q6,W2,⟨v0,z2⟩,k5⟩:=z6
   subst z1
   have p:∀{d:Hp},(∀b∈k6,d b=none)->∀b∈k6,Mu (Dh X a t (x::j::k::ys) fp s3 (upd G f.heap.objs.size (.lst []))) ([]++Qe fp s8.heap) d b:=λhn b l=>⟨hn b l,(q6 b l).2⟩
   have B:Hy (model X.prog X.w) X.A (.compLoop (.ListComp U [⟨.Tuple [.Name x px,.Name j N] kt pt,iter,[],0⟩,⟨.Name k F,g,[],0⟩] a pos) 1 (.ref z9) (.ref f.heap.objs.size) (Xy a (Es (s3.heap.objs.size+1) a.names t) s3.heap.objs.size X.env))
     (λr s6=>match r with | .ok _=>∃m,m<n/\∃i o ob D d,Inv (Dh X a t (x::j::k::ys) fp s3 (upd G f.heap.objs.size (.lst []))) [] (o::ob::D::Ey P R) d s6/\tn i s6.heap/\(∀b∈fp,d b=none)/\W i m d | .error _=>False) w7:=by
    refine qR (λn2 s'=>∃i2 D d,Inv (Dh X a t (x::j::k::ys) fp s3 (upd G f.heap.objs.size (.lst []))) ([]++Qe fp s8.heap) (some w1::some w2::D::Ey P R) d s'/\v6 i2 s'.heap/\(∀b∈k6,d b=none)/\W2 i2 n2 d) ?_ v0
     ⟨0,D,z7,x9,h0,λb l=>(q6 b l).1,z2⟩
    (intro n2 q9 q_; obtain ⟨i2,p2,k1,q5,h5,h3,x3⟩ := q_)
    rcases k5 i2 n2 k1 x3 with ⟨k0,m',y4,w'⟩ | ⟨y5,k7⟩
    ·have hd:=T2.done _ rfl rfl rfl hc i2 _ q9 _ k1 (λ_ _=>False) q5 (p h3) h5 k0
     refine Gj hd λr a0 c => ?_
     obtain ⟨hr,a2⟩ := c
     subst hr
     exact again a2 y4 w'
    ·have q7:=T2.item _ rfl rfl rfl hc i2 _ q9 _ k1 (λ_ _=>False) q5 (p h3) h5 y5
     refine Gj q7 λr a0 c => ?_
     obtain ⟨u2,hr,x5⟩ := c
     subst hr
     refine Gj x5 λ_ y2 c => ?_
     obtain ⟨z,j4,x7,y9,z0,L,j5⟩ := c
     have x0:=x7.pinned (p j5) (T2.obj _ _ L)
     refine Gj (Ni (i:=2) (x:=k) (pos:=F) k3 rfl (Pw Y) (Ud Y) _ y2 _ j4 z u2 (λh9 d=>h9=some w1::some w2::some z::Ey P R/\d=j4) x0 y9 ⟨rfl,rfl⟩) λ_ w5 c => ?_
     obtain ⟨a4,v9,v1,x8,q3⟩ := c
     subst x8 q3
     refine Gj (he fp s3 _ _ w5 _ _ _ v1 (k7 z v9 z0)) λzv z3 c => ?_
     obtain ⟨vz,q0,w3,w8,v7⟩ := c
     obtain ⟨k9,ha,hz,y6,v3,v8⟩:=v7
     refine Gj (Oe _ z3 _ q0 (.ref f.heap.objs.size) [vz] (.ref f.heap.objs.size) [zv] (λ_ d=>d=upd q0 f.heap.objs.size (.lst (k9++[vz]))) w3 rfl (.cons w8 .nil) ⟨_,k9,vz,rfl,rfl,ha,hz,rfl⟩) λ_ a6 c => ?_
     obtain ⟨_,a7,k4,_,z4⟩ := c
     subst z4
     refine ⟨y6,v3,i2+1,some z,_,k4.unpinned,T2.keep _ _ _ L λb l o e=>(k4.pin (b,o) (Ag _ (Ag _ (Gr l e)))).1,λb l=>?_,v8⟩
     obtain ⟨o,e,_⟩:=T2.obj _ _ L b l
     exact (k4.pin (b,o) (Ag _ (Ag _ (Gr l e)))).2.1
   exact jH B (T2.self X.A 0 _ _ _ h0 B)
 exact Pk (h6 _ rfl) (T.self X.A 0 _ _ _ q1 (h6 _ rfl))
end
end Nd
namespace DL
open PySem PySem.Spec PyProof.Rows L2 Nd
def ET(b:Bool)(u:DI)(q:List Nat)(j:DI)(t:DE):DE:=λv P=>u v λm p f=>∃I:Nat->List Af->Nat->Prop,I 0 [] f.n /\
 (∀i d c n,p[i]? = some d->I i c n->j ⟨.dat m d::.un::frD f.sl q,n⟩ λr o l=>∃h:Nat->List Af->Nat->Prop,h 0 c l.n /\
  (∀k e a g,o[k]? = some e->h k a g->a.length+1<=Au/\He b Oq t ⟨.dat m d::.dat r e::frD f.sl q,g⟩ (λz s=>h (k+1) (a++[z]) s) (λ_=>False)) /\
  ∀a g,h o.length a g->I (i+1) a g) /\
 ∀c n,I p.length c n->P (.dat (Ux b) (.list c)) ⟨f.sl,n⟩
def vO(b:Bool)(w:DI)(s:List Nat)(j:DI)(v:DE):DE:=λx P=>w x λm r f=>∃I:Nat->List Af->Nat->Prop,I 0 [] f.n /\
 (∀i d c n,r[i]? = some d->I i c n->∃o k,d=.tuple [o,k]/\j ⟨.dat m o::.dat m k::.un::frD f.sl s,n⟩ λt q p=>∃h:Nat->List Af->Nat->Prop,h 0 c p.n /\
  (∀l e a g,q[l]? = some e->h l a g->a.length+1<=Au/\He b Oq v ⟨.dat m o::.dat m k::.dat t e::frD f.sl s,g⟩ (λz u=>h (l+1) (a++[z]) u) (λ_=>False)) /\
  ∀a g,h q.length a g->I (i+1) a g) /\
 ∀c n,I r.length c n->P (.dat (Ux b) (.list c)) ⟨f.sl,n⟩
theorem oN(h:m=.sh\/m=.pk):al ⟨v,.dat m d,F⟩=⟨v,.dat m d,F⟩:=by
 rcases h with rfl | rfl <;> rfl
section
variable{K:PySem.W.Frag}
theorem D0:∀σ H Q,LE K (vO b di U k5 de) σ H Q->K3 K (LI K di) U (LI K k5) (LE K de) σ H Q:=by
 intro σ H Q h
 obtain ⟨E,Y,S,T,δ,P,rfl,hS,hA,hd,k⟩:=h
 refine ⟨E,Y,S,T,δ,_,rfl,hS,hA,hd,λm ds R J g l H1 e1 e2 q1 it hz p1=>?_⟩
 obtain ⟨I,h0,hs,hf⟩:=p1
 rw[<- e1]
 intro D hD
 refine ⟨λi q H=>q=ds.length - i/\i<=ds.length/\∃c n G,(b=true->G=[])/\At K E Y n (⟨some (.ref D),.acc c,D::G⟩::(l++(g++T))) H/\I i c n,⟨ds.length,by simp,Dq _,[],R.n,[],λ_=>rfl,q1.accNew hD,h0⟩,?_⟩
 (intro i q H q_; obtain ⟨rfl,hi,c,n,G,hG,h5,hI⟩ := q_)
 have s:∀e∈g,Ir K H n e:=λe he=>h5.ok e (Ac _ (Ag _ (Am _ he)))
 by_cases Z:i<ds.length
 ·refine .inr ⟨it.go H n i s Z,λx H' y=>?_⟩
  obtain ⟨s1,d,F,h1,h2,h3⟩:=it.yld H n i x H' s Z y
  obtain ⟨t,f,rfl,q0⟩:=hs i d c n h1 hI
  obtain ⟨tt,q8,rfl,ht,rt,_⟩:=h2.tup_inv
  cases rt with
  | @cons u _ q9 _ A _ r1 rt =>
  cases rt with
  | @cons B _ j0 _ L G0 r2 rt =>
  cases rt
  refine ⟨tt,u,B,rfl,Wt.of ht,λo=>?_⟩
  have h8:At K E Y n ((⟨some (.ref D),.acc c,D::G⟩::l)++⟨some u,.dat m t,A⟩::(g++T)) H':=At.item (S:=⟨some (.ref D),.acc c,D::G⟩::l) h5 s1 r1 (λa ha=>h3 a (Am _ ha)) it.md it.hd it.np
  have k0:At K E Y n ((⟨some u,.dat m t,A⟩::⟨some (.ref D),.acc c,D::G⟩::l)++(g++T)) H':=h8.mid
  have h6:At K E Y n ((⟨some u,.dat m t,A⟩::⟨some (.ref D),.acc c,D::G⟩::l)++⟨some B,.dat m f,L⟩::(g++T)) H':=At.item k0 (Va.refl _) r2 (λa ha=>h3 a (Ag _ (Am _ ha))) it.md it.hd it.np
  have h7:At K E Y n (⟨some (.ref D),.acc c,D::G⟩::⟨some u,.dat m t,A⟩::⟨some B,.dat m f,L⟩::(l++(g++T))) H':=(h6.mid).perm (((Ef _ _ _).trans ((Ef _ _ _).cons _)).trans (Ef _ _ _))
  have view:∀{n:Nat} {H:Hp} {e0:Ent} {hid2:List Ent} (O:Ent),At K E Y n (O::e0::⟨some u,.dat m t,A⟩::⟨some B,.dat m f,L⟩::(l++hid2)) H->At K E Y n ((⟨some u,.dat m t,A⟩::⟨some B,.dat m f,L⟩::O::jF l U)++e0::⟨some u,.dat m t,A⟩::⟨some B,.dat m f,L⟩::(l++hid2)) H:=λ{n H e0 hid2} O h=>by
   have g1:=At.view (S:=l) h (λe he=>Ac _ (Ac _ (Ac _ (Ac _ (Am _ he))))) U
   have g2:=g1.view1 (e:=⟨some B,.dat m f,L⟩) (Ag _ (Ac _ (Ac _ (Ac _ Ab))))
   rw[oN it.md] at g2
   have g3:=g2.view1 (e:=⟨some u,.dat m t,A⟩) (Ac _ (Ag _ (Ac _ (Ac _ Ab))))
   rw[oN it.md] at g3
   refine g3.perm ?_
   rw[Fq,Fq,Fq]
   exact ((El).cons _).cons _
  have h9:∀(O:Ent) (n:Nat),Sl (⟨some u,.dat m t,A⟩::⟨some B,.dat m f,L⟩::O::jF l U) ⟨.dat m t::.dat m f::O.x::frD R.sl U,n⟩:=λO n=>by
   unfold Sl
   rw[Aq,Aq,Aq,sP e2]
  have hv:∀(O:Ent),vs (⟨some u,.dat m t,A⟩::⟨some B,.dat m f,L⟩::O::jF l U)=some u::some B::O.v::Ey (vs l) U:=λO=>by
   rw[<- pC]
   rfl
  have hB:=view (hid2:=g++T) ⟨o,.un,[]⟩ h7.blank
  refine ⟨E,Y,_,_,⟨.dat m t::.dat m f::.un::frD R.sl U,n⟩,_,hv ⟨o,.un,[]⟩,h9 ⟨o,.un,[]⟩ n,hB,q0,λm2 W k4 J2 hid2 S2 H2 f1 f2 q3 M j2 p2=>?_⟩
  obtain ⟨I2,g0,gs,gf⟩:=p2
  have q7:At K E Y k4.n (⟨some (.ref D),.acc c,D::G⟩::(⟨some u,.dat m t,A⟩::⟨some B,.dat m f,L⟩::(l++(hid2++(g++T))))) H2:=by
   have z:=q3.sub (Bq S2 _)
   refine z.perm ?_
   refine El.trans (Jt _ ?_)
   refine El.trans (Jt _ ?_)
   refine El.trans (Jt _ ?_)
   exact lH _ _ _
  refine ⟨λC q2 H=>q2=W.length - C/\C<=W.length/\∃c n G,(b=true->G=[])/\At K E Y n (⟨some (.ref D),.acc c,D::G⟩::(⟨some u,.dat m t,A⟩::⟨some B,.dat m f,L⟩::(l++(hid2++(g++T))))) H/\I2 C c n,⟨W.length,by simp,Dq _,c,k4.n,G,hG,q7,g0⟩,?_⟩
  (intro C q2 H3 q_; obtain ⟨rfl,j1,r,V,G2,k9,h4,k8⟩ := q_)
  have j:∀e∈hid2,Ir K H3 V e:=λe he=>h4.ok e (Ac _ (Ac _ (Ac _ (Ag _ (Am _ he)))))
  by_cases N:C<W.length
  ·refine .inr ⟨M.go H3 V C j N,λy2 H4 yy=>?_⟩
   obtain ⟨s2,d2,F2,k1,k2,k3⟩:=M.yld H3 V C y2 H4 j N yy
   obtain ⟨lz,st⟩:=gs C d2 r V k1 k8
   have q4:At K E Y V ((⟨some (.ref D),.acc r,D::G2⟩::⟨some u,.dat m t,A⟩::⟨some B,.dat m f,L⟩::l)++⟨some y2,.dat m2 d2,F2⟩::(hid2++(g++T))) H4:=At.item (S:=⟨some (.ref D),.acc r,D::G2⟩::⟨some u,.dat m t,A⟩::⟨some B,.dat m f,L⟩::l) h4 s2 k2 k3 M.md M.hd M.np
   have q6:=view (hid2:=hid2++(g++T)) ⟨some y2,.dat m2 d2,F2⟩ q4.mid
   have z:=Zm (dc:=Oq) (N1:=λ_=>False) (N2:=λv H5=>∃c,H5 D=some (.lst c)/\c.length<Au/\∃k6,k6<W.length - C/\(k6=W.length - (C+1)/\C+1<=W.length/\∃X n G,(b=true->G=[])/\At K E Y n (⟨some (.ref D),.acc X,D::G⟩::(⟨some u,.dat m t,A⟩::⟨some B,.dat m f,L⟩::(l++(hid2++(g++T))))) (upd H5 D (.lst (c++[v])))/\I2 (C+1) X n)) (h9 ⟨some y2,.dat m2 d2,F2⟩ V) k9 q6 st lz (λ_ _ _ z=>z) (λe n' v H5 G' q5 k7 p=>?_)
   ·rw[hv] at z
    have w:=bP (dt:=Tz) _ _ _ z
    unfold Tz at w
    dsimp only at w
    rw[if_pos rfl] at w
    exact w
   ·obtain ⟨xs,l1,l2,l3⟩:=k7
    exact ⟨xs,l1,by omega,W.length - (C+1),by omega,rfl,N,r++[e],n',G',q5,l3,p⟩
  ·have e:C=W.length:=by omega
   subst e
   refine .inl ⟨M.stop H3 V j,ds.length - (i+1),by omega,rfl,Z,r,V,G2,k9,?_,gf r V k8⟩
   refine h4.sub (List.Sublist.cons₂ _ (Xr _ (Xr _ ?_)))
   exact (Cp l).append (Bq hid2 _)
 ·have e:i=ds.length:=by omega
  subst e
  refine .inl ⟨it.stop H n s,k _ ⟨R.sl,n⟩ _ (D::G) l H e1 e2 ?_ (hf c n hI)⟩
  have h8:=h5.accGetG hG
  have h7:At K E Y n (⟨some (.ref D),.dat (Ux b) (.list c),D::G⟩::(l++T)) H:=h8.sub (((Cp l).append (Bq g T)).cons₂ _)
  exact h7.tomid
end
section
variable{X:Cx}{h iter c:Expr}{x d e r:Str}{l i g pt q pos n:Pos}{k:Nat}{a:Scope}{j:List (Str×Addr)}{ys:List Str}{p:List Nat}{o f:DI}{m:DE}
theorem J9{b:Bool}(C:CompScope X a j x ys p)(q:dJ a d)(n:dJ a e)(t:(x::d::e::ys).Nodup)(w:X.calm=true)(A:uT X (.Tuple [.Name x l,.Name d i] k pt) iter o)(r:∀fp s H,uT (Dh X a j (x::d::e::ys) fp s H) (.Name e g) c f)(z:∀fp s H,Fw (Dh X a j (x::d::e::ys) fp s H) h m)(y:∀x,Dd iter X.env x=pure x:=by intro _; rfl)(u:∀fp s H v,Dd c (Dh X a j (x::d::e::ys) fp s H).env v=pure v:=by intro _ _ _ _; rfl):Fw X (.ListComp h [⟨.Tuple [.Name x l,.Name d i] k pt,iter,[],0⟩,⟨.Name e g,c,[],0⟩] a pos) (vO b o p f m):=PE.imp (B5 C q n t w A r z y u) D0
end
def GR(b:Bool)(l:DE)(pre c:List DV)(h:List Af)(fin:List Af->Nat->Prop)(j:Md)(es:List Af)(i:DS):Prop:=∃f:Nat->List Af->Nat->Prop,f 0 h i.n /\
 (∀g e a d,es[g]? = some e->f g a d->a.length+1<=Au/\He b Oq l ⟨pre++.dat j e::c,d⟩ (λz k=>f (g+1) (a++[z]) k) (λ_=>False)) /\
 ∀a d,f es.length a d->fin a d
def JP(b:Bool)(h:List Nat)(e:DI)(j:DE)(P:DV->DS->Prop)(m:Md)(ds:List Af)(c:DS):Prop:=∃I:Nat->List Af->Nat->Prop,I 0 [] c.n /\
 (∀i d a n,ds[i]? = some d->I i a n->∃g f,d=.tuple [g,f]/\e ⟨.dat m g::.dat m f::.un::frD c.sl h,n⟩ (GR b j [.dat m g,.dat m f] (frD c.sl h) a (I (i+1)))) /\
 ∀a n,I ds.length a n->P (.dat (Ux b) (.list a)) ⟨c.sl,n⟩
section
variable{b:Bool}{p:List Nat}{s k:DI}{o:DE}{P:DV->DS->Prop}{t c j:DS}{m q:Md}{ds es:List Af}
theorem OO{r:Type}{l:List r}{g:r->Af}{c:List Af}(e:es=l.map g)(f:r->Af)(hz:c.length+l.length<=Au)(s:∀y∈l,∀k:Af->Nat->Prop,k (f y) j.n->He b Oq o ⟨pre++.dat q (g y)::h,j.n⟩ k (λ_=>False))(t:fin (c++l.map f) j.n):GR b o pre h c fin q es j:=by
 subst e
 refine ⟨λi a n=>a=c++(l.take i).map f/\n=j.n,⟨by simp,rfl⟩,?_,?_⟩
 ·rintro i d _ _ p ⟨rfl,rfl⟩
  rw[Bg] at p
  cases m:l[i]? with
  | none=>rw[m] at p; cases p
  | some y =>
   rw[m] at p
   obtain rfl:g y=d:=Cj p
   have u:=(Bb.mp m).1
   refine ⟨?_,s y (Bj m) _ ⟨?_,rfl⟩⟩
   ·rw[Bm,Ad,Dw]
    omega
   ·rw[Ft m,Bp,Br]
    rfl
 ·rintro _ _ ⟨rfl,rfl⟩
  rw[Ad,Ek]
  exact t
theorem sI{b c:Type}(r:b->List c){l:List b}{a:b}(h:l[i]? = some a):((l.take i).flatMap r).length+(r a).length<=(l.flatMap r).length:=by
 have e:l.take (i+1)=l.take i++[a]:=Ft h
 have : ((l.take (i+1)).flatMap r).length<=(l.flatMap r).length:=by
  conv=>rhs; rw[<- Je (i+1) l,aO,Bm]
  omega
 rw[e,aO,Bm] at this
 simpa using this
theorem LZ{j:Type}{l:List j}{g1 g2:j->Af}(e:ds=l.map λa=>.tuple [g1 a,g2 a])(r:j->List Af)(hz:(l.flatMap r).length<=Au)(q:∀a∈l,∀(f:List Af) (fin:List Af->Nat->Prop),f.length+(r a).length<=Au->fin (f++r a) c.n->k ⟨.dat m (g1 a)::.dat m (g2 a)::.un::frD c.sl p,c.n⟩ (GR b o [.dat m (g1 a),.dat m (g2 a)] (frD c.sl p) f fin))(s:P (.dat (Ux b) (.list (l.flatMap r))) ⟨c.sl,c.n⟩):JP b p k o P m ds c:=by
 subst e
 refine ⟨λi a n=>a=(l.take i).flatMap r/\n=c.n,⟨by simp,rfl⟩,?_,?_⟩
 ·rintro i d _ _ h ⟨rfl,rfl⟩
  rw[Bg] at h
  cases g:l[i]? with
  | none=>rw[g] at h; cases h
  | some y =>
   rw[g] at h
   obtain rfl:Vb [g1 y,g2 y]=d:=Cj h
   refine ⟨g1 y,g2 y,rfl,q y (Bj g) _ _ (Ca (sI r g) hz) ⟨?_,rfl⟩⟩
   rw[Ft g,aO]
   simp
 ·rintro _ _ ⟨rfl,rfl⟩
  rw[Ad,Ek]
  exact s
end
end DL
namespace Nd
open PySem PySem.Spec PyProof.Rows L2
abbrev ZF(h:Heap)(z TI TO:Addr)(b a:Value):Prop:=h.get? z=some { cls:=.type "zip",dict:=none,data:=.fields #[b,a,.bool false,.ref TI,.ref TO],slots:=#[] }
section
variable{prog:Bn}{w:World}{A:Ck}{E:Value->Ah->Prop}{s:Ah}
theorem qA(b:s.heap.get? a=some o)(h:Q (some o) s):wpAny (model prog w) A (loadIfAlive a) Q E s:=λc p _=>by
 unfold loadIfAlive
 rw[Sem.wp_loadIfAlive,b]
 exact (Sem.wp_pure ..)▸h
theorem eX{z TI TO a:Addr}(hz:ZF s.heap z TI TO (Ff (a:Int)) (.bool d))(h:s.heap.get? a=some f):wpAny (model prog w) A (Dg (.ref z)) (λb s'=>b=false/\∃h',s'={ s with heap:=h' }/\ZF h' z TI TO (Ff (a:Int)) (.bool true)/\Cw z s.heap h') E s:=by
 unfold Dg
 refine Aa (Fl hz rfl (x:=Ff (a:Int)) rfl ?_)
 show wpAny _ _ (loadIfAlive ((a:Int).toNat) >>= _) _ _ _
 refine Aa (qA (a:=(a:Int).toNat) (o:=f) (by rw[Ed]; exact h) ?_)
 simp only[Option.isNone_some,Bt,if_false]
 refine Aa (Fl hz rfl (x:=.bool d) rfl ?_)
 cases d with
 | false =>
  rw[if_pos (by decide)]
  exact Aa (Jj hz (by simp) λg c e=>Ae ⟨rfl,g,rfl,c,e⟩)
 | true =>
  rw[if_neg (by decide)]
  exact Ae ⟨rfl,s.heap,rfl,hz,⟨rfl,λ_ _=>rfl⟩⟩
theorem i4{z TI TO h g l1 l2 a:Addr}{Q:Value->Ah->Prop}(D:Rz z TI TO h g l1 l2)(hz:ZF s.heap z TI TO (Ff (a:Int)) (.bool u))(I:s.heap.get? a=some G)(l:Gh s.heap TI (.ref h) (.ref g))(h1:s.heap.IsListIter h l1 k1)(J:s.heap.IsListIter g l2 k2)(p:s.heap.IsList l1 xs)(q:s.heap.IsList l2 ys)(C:xs[k1]? = some x)(K:ys[k2]? = some y)(B:∀h',ZF h' z TI TO (Ff (a:Int)) (.bool true)->h'.IsListIter h l1 (k1+1)->h'.IsListIter g l2 (k2+1)->Gh h' s.heap.objs.size x y->h'.objs.size=s.heap.objs.size+1->(∀c o,c≠z->c≠h->c≠g->s.heap.get? c=some o->h'.get? c=some o)->Q (.ref s.heap.objs.size) { s with heap:=h' }):wpAny (model prog w) A (Builtin.«zip.__next__» ⟨[.ref z],[]⟩) (λfin s'=>∃v,fin=.done (.ret v)/\Q v s') E s:=by
 unfold Builtin.«zip.__next__»
 refine Aa (Ae (Aa (Fl hz rfl (x:=.bool false) rfl (Aa (Fl hz rfl (x:=.ref TI) rfl (Aa (Jk l rfl ?_)))))))
 show wpAny _ _ (Dg (.ref z) >>= _) _ _ _
 refine Aa (Gj (eX (E:=E) hz I) λN O r => ?_)
 obtain ⟨F,R,L,n,b⟩ := r
 subst F L
 simp only[Bt,if_false]
 simp only[<- bA,Rg,Sk]
 refine Aa (Aa (Aa (Ce ?_)))
 show wpAny _ _ (Dm (.ref h) >>= _) _ _ _
 refine Aa (Yx (h1.extBut b.extBut D.i1z) (p.extBut b.extBut D.l1z) C λP M d=>Ae (Ae ?_))
 refine Aa (Aa (Ce ?_))
 show wpAny _ _ (Dm (.ref g) >>= _) _ _ _
 refine Aa (Yx ((J.extBut b.extBut D.i2z).extBut d.extBut D.i12.symm) ((q.extBut b.extBut D.l2z).extBut d.extBut D.l2i1) K λi H f=>Ae (Ae (Ae ?_)))
 show wpAny _ _ (newTuple [x,y] >>= _) _ _ _
 refine Aa (wpAny_newTuple ?_)
 have sz:i.objs.size=s.heap.objs.size:=by rw[f.1,d.1,b.1]
 have up:∀c o,c≠z->c≠h->c≠g->s.heap.get? c=some o->i.get? c=some o:=λc o m t j e=>f.extBut _ _ j (d.extBut _ _ t (b.extBut _ _ m e))
 have k:ZF i z TI TO (Ff (a:Int)) (.bool true):=f.extBut _ _ D.i2z.symm (d.extBut _ _ D.i1z.symm n)
 have fin:=B (i.push { cls:=.type "tuple",data:=.seq #[x,y] }) (Ai _ k) ((M.extBut f.extBut D.i12).at λo e=>Ai _ e) (H.at λo e=>Ai _ e) (by rw[<- sz]; exact Ap _ rfl) (by rw[Fo,sz]) (λc o m t j e=>Ai _ (up c o m t j e))
 refine Ae ⟨_,rfl,?_⟩
 rw[<- sz] at fin
 exact fin
theorem jK{z TI TO g f l1 l2 a:Addr}(v:A.handled=none)(D:Rz z TI TO g f l1 l2)(hz:ZF s.heap z TI TO (Ff (a:Int)) (.bool C))(I:s.heap.get? a=some G)(l:Gh s.heap TI (.ref g) (.ref f))(h1:s.heap.IsListIter g l1 k1)(J:s.heap.IsListIter f l2 k2)(i:s.heap.IsList l1 xs)(p:s.heap.IsList l2 ys)(h:xs[k1]? = none\/ys[k2]? = none)(y:∀h' e,(∀c o,c≠z->c≠g->c≠f->s.heap.get? c=some o->h'.get? c=some o)->(∃o,h'.get? e=some o/\o.cls=.type "StopIteration")->E (.ref e) { s with heap:=h' }):wpAny (model prog w) A (Builtin.«zip.__next__» ⟨[.ref z],[]⟩) Q E s:=by
 unfold Builtin.«zip.__next__»
 refine Aa (Ae (Aa (Fl hz rfl (x:=.bool false) rfl (Aa (Fl hz rfl (x:=.ref TI) rfl (Aa (Jk l rfl ?_)))))))
 show wpAny _ _ (Dg (.ref z) >>= _) _ _ _
 refine Aa (Gj (eX (E:=E) hz I) λN O r => ?_)
 obtain ⟨F,P,M,H,b⟩ := r
 subst F M
 simp only[Bt,if_false]
 simp only[<- bA,Rg,Sk]
 refine Aa (Aa (Aa (Ce ?_)))
 show wpAny _ _ (Dm (.ref g) >>= _) _ _ _
 cases m:xs[k1]? with
 | none =>
  refine Aa (wpAny_nextOf_list_end v (h1.extBut b.extBut D.i1z) (i.extBut b.extBut D.l1z) m λu e d k=>?_)
  exact y u e (λc o n t _ q=>d _ _ t (b.extBut _ _ n q)) k
 | some x =>
  have L:ys[k2]? = none:=h.resolve_left λq=>by rw[m] at q; cases q
  refine Aa (Yx (h1.extBut b.extBut D.i1z) (i.extBut b.extBut D.l1z) m λu R d=>Ae (Ae ?_))
  refine Aa (Aa (Ce ?_))
  show wpAny _ _ (Dm (.ref f) >>= _) _ _ _
  refine Aa (wpAny_nextOf_list_end v ((J.extBut b.extBut D.i2z).extBut d.extBut D.i12.symm) ((p.extBut b.extBut D.l2z).extBut d.extBut D.l2i1) L λK e j k=>?_)
  exact y K e (λc o n t B q=>j _ _ B (d.extBut _ _ t (b.extBut _ _ n q))) k
theorem uG{z TI TO d b l1 l2 a:Addr}(D:Rz z TI TO d b l1 l2)(hz:ZF s.heap z TI TO (Ff (a:Int)) (.bool i))(p:s.heap.get? a=some l)(e:Gh s.heap TI (.ref d) (.ref b))(h1:s.heap.IsListIter d l1 k1)(q:s.heap.IsListIter b l2 k2)(f:s.heap.IsList l1 xs)(g:s.heap.IsList l2 ys)(k:xs[k1]? = some x)(B:ys[k2]? = some y)(j:∀h',ZF h' z TI TO (Ff (a:Int)) (.bool true)->h'.IsListIter d l1 (k1+1)->h'.IsListIter b l2 (k2+1)->Gh h' s.heap.objs.size x y->h'.objs.size=s.heap.objs.size+1->(∀c o,c≠z->c≠d->c≠b->s.heap.get? c=some o->h'.get? c=some o)->Q (some (.ref s.heap.objs.size)) { s with heap:=h' }):wpAny (model prog w) A (Ig (.ref z)) Q E s:=by
 have ty:s.TypeIs (.ref z) "zip" := ⟨_,hz,rfl⟩
 unfold Ig
 refine Aa (Jh (Cy (name:=Cq "__next__") ty Yv (Ct Yv ty F.entry_zip_next (i4 D hz p e h1 q f g k B λu v h t m n r=>Ae (j u v h t m n r)) (F.args_zip_next_1 _))))
theorem gD{z TI TO g f l1 l2 a:Addr}(p:A.handled=none)(D:Rz z TI TO g f l1 l2)(hz:ZF s.heap z TI TO (Ff (a:Int)) (.bool m))(q:s.heap.get? a=some l)(i:Gh s.heap TI (.ref g) (.ref f))(h1:s.heap.IsListIter g l1 k1)(r:s.heap.IsListIter f l2 k2)(h:s.heap.IsList l1 xs)(j:s.heap.IsList l2 ys)(d:xs[k1]? = none\/ys[k2]? = none)(u:∀h',(∀c o,c≠z->c≠g->c≠f->s.heap.get? c=some o->h'.get? c=some o)->Q none { s with heap:=h' }):wpAny (model prog w) A (Ig (.ref z)) Q E s:=by
 have ty:s.TypeIs (.ref z) "zip" := ⟨_,hz,rfl⟩
 unfold Ig
 refine Aa (Jh (Cy (name:=Cq "__next__") ty Yv (Ct Yv ty F.entry_zip_next (jK p D hz q i h1 r h j d λv e kp n=>?_) (F.args_zip_next_1 _))))
 obtain ⟨o,t,k⟩:=n
 exact Aa (Hu (T := "StopIteration") (b:=true) ⟨o,t,k⟩ cT (Ae (u _ kp)))
end
end Nd
namespace Nd
open PySem PySem.Spec
theorem mV:entryFor table "zip.__getattribute__" = some Builtin.«object.__getattribute__» :=
 cU (id' := "object.__getattribute__") (by kernel_rfl) (by first | rfl | decide +kernel) (by decide +kernel) (by kernel_rfl)
theorem qH:iR (.type "zip") "keys" = pure none:=by rw[aI,Rc]; kernel_rfl
section
variable{prog:Bn}{w:World}{A:Ck}{E:Value->Ah->Prop}{h:Heap}{g:Array GenState}{d:Drawn}{t:Nat}{os:OsState}{a:Addr}{fs:Array Value}
theorem gX:isSubtype (.type "AttributeError") (.type "AttributeError")=pure true:=by rw[cS]; kernel_rfl
theorem tU(args:List Value):Kz (.type "AttributeError") args=pure Gu:=by
 have h:((Manifest.find? "AttributeError").elim false λt=>t.mro.contains "StopIteration" || t.mro.contains "SystemExit")=false:=by decide +kernel
 simp only[Kz,h]
 rfl
theorem uU{name a:Str}{Q:j->Ah->Prop}(m:A.handled=none)(l:a.length<=Au)(p:∀h' t' e,(∀c o,h.get? c=some o->h'.get? c=some o)->t<=t'->(∃o,h'.get? e=some o/\o.cls=.type "AttributeError")->E (.ref e) ⟨h',g,d,t',os⟩):wpAny (model prog w) A (raiseAttrError v name a:Sem j) Q E ⟨h,g,d,t,os⟩:=by
 unfold raiseAttrError newExc newTuple
 refine Aa (wpAny_mkStr' ?_ l)
 refine Aa (Aa (Cf ?_ (by show (1:Nat)<=Au; decide)))
 refine Aa (Jz (tU _) (Cf ?_))
 generalize f:h.push { cls:=.type "tuple",data:=.seq [Value.str a t].toArray }=h1
 have i:∀c o,h.get? c=some o->h1.get? c=some o:=λc o q=>by rw[<- f]; exact Ai _ q
 have b:(h1.push { cls:=.type "AttributeError",data:=.fields #[.ref h.objs.size,.none,.none,.none,.bool false,.none,Lk,Lk] }).get? h1.objs.size=some { cls:=.type "AttributeError",data:=.fields #[.ref h.objs.size,.none,.none,.none,.bool false,.none,Lk,Lk] }:=Ap _ rfl
 show wpAny _ _ _ _ _ ⟨h1.push { cls:=.type "AttributeError",data:=.fields #[.ref h.objs.size,.none,.none,.none,.bool false,.none,Lk,Lk] },g,d,t+1,os⟩
 have k:∀c o,h1.get? c=some o->(h1.push { cls:=.type "AttributeError",data:=.fields #[.ref h.objs.size,.none,.none,.none,.bool false,.none,Lk,Lk] }).get? c=some o:=λc o q=>Ai _ q
 have n:∀c o,h1.get? c=some o->c≠h1.objs.size:=λc o q=>By (Ax q)
 generalize h1.push { cls:=.type "AttributeError",data:=.fields #[.ref h.objs.size,.none,.none,.none,.bool false,.none,Lk,Lk] }=h2 at b k ⊢
 refine Aa (wpAny_mkText ?_)
 refine Aa ?_
 unfold noteAttr
 show wpAny _ _ (lacksNameAndObj (.ref h1.objs.size) >>= _) _ _ _
 refine Aa ?_
 unfold lacksNameAndObj
 have ty:(⟨h2,g,d,t+1+1,os⟩ : Ah).TypeIs (.ref h1.objs.size) "AttributeError" := ⟨_,b,rfl⟩
 refine Aa (Hu ty gX ?_)
 simp only[Us,Bt,if_false]
 refine Aa (Yy b ?_)
 show wpAny _ _ (pure true) _ _ _
 refine Ae ?_
 simp only[if_true]
 refine Aa (Ln ?_)
 refine Aa (Jc ty ?_)
 show wpAny _ _ (layMembers h1.objs.size 6 _) _ _ _
 unfold layMembers
 refine Aa (Yy b ?_)
 refine wpAny_update b ?_
 refine wpAny_raiseNew_none m (p _ _ _ (λc o q=>?_) (by show t<=t+1+1; omega) ⟨_,Fj _ b rfl,rfl⟩)
 exact Heap.get?_update_of_ne _ (n c o (i c o q)).symm (k c o (i c o q))
theorem uJ(b:A.handled=none)(j:h.get? a=some { cls:=.type "zip",dict:=none,data:=.fields fs,slots:=#[] })(f:∀h' t' e,(∀c o,h.get? c=some o->h'.get? c=some o)->t<=t'->(∃o,h'.get? e=some o/\o.cls=.type "AttributeError")->E (.ref e) ⟨h',g,d,t',os⟩):wpAny (model prog w) A (Builtin.«object.__getattribute__» ⟨[.ref a,.str "keys" i],[]⟩) Q E ⟨h,g,d,t,os⟩:=by
 have k:(⟨h,g,d,t,os⟩ : Ah).TypeIs (.ref a) "zip" := ⟨_,j,rfl⟩
 have l:=qH
 repeat (any_goals (first | assumption | wp_step))
 exact uU b (by decide +kernel) f
theorem yV(i:A.handled=none)(b:h.get? a=some { cls:=.type "zip",dict:=none,data:=.fields fs,slots:=#[] })(j:∀h' t' e,(∀c o,h.get? c=some o->h'.get? c=some o)->t<=t'->(∃o,h'.get? e=some o/\o.cls=.type "AttributeError")->R (.error (.ref e)) ⟨h',g,d,t',os⟩):Hy (model prog w) A (.call (.builtin "zip.__getattribute__") ⟨[.ref a,.str "keys" f],[]⟩) R ⟨h,g,d,t,os⟩ :=
 codeAny_call_builtin F.slot_zip_getattribute.plain mV (F.slot_zip_getattribute.check _ _ _ _ _ _ _ _ (show (⟨h,g,d,t,os⟩ : Ah).TypeIs (.ref a) "zip" from ⟨_,b,rfl⟩) (F.args_zip_getattribute_2 _ _) (uJ i b j))
theorem i6:iR (.type "zip") "__getattr__" = pure none:=by rw[aI,Rc]; kernel_rfl
theorem BE(l:A.handled=none)(i:h.get? a=some { cls:=.type "zip",dict:=none,data:=.fields fs,slots:=#[] })(m:∀h' t' e,(∀c o,h.get? c=some o->h'.get? c=some o)->t<=t'->(∃o,h'.get? e=some o/\o.cls=.type "AttributeError")->E (.ref e) ⟨h',g,d,t',os⟩):wpAny (model prog w) A (getAttrBy (.ref a) (.str "keys" n) false) Q E ⟨h,g,d,t,os⟩:=by
 have q:(⟨h,g,d,t,os⟩ : Ah).TypeIs (.ref a) "zip" := ⟨_,i,rfl⟩
 have r:=F.slot_zip_getattribute.lookup
 have s:=F.slot_zip_getattribute.bind (.ref a)
 have u:=i6
 repeat (any_goals (first | assumption | wp_step))
 refine yV l i λh' t' e kp lt k=>?_
 obtain ⟨o,f,b⟩:=k
 have ty:(⟨h',g,d,t',os⟩ : Ah).TypeIs (.ref e) "AttributeError" := ⟨_,f,b⟩
 have p:=gX
 have j:=m h' t' e kp lt ⟨o,f,b⟩
 repeat (any_goals (first | assumption | wp_step))
theorem yW(j:A.handled=none)(m:h.get? a=some { cls:=.type "zip",dict:=none,data:=.fields fs,slots:=#[] })(l:∀h' t',(∀c o,h.get? c=some o->h'.get? c=some o)->t<=t'->Q none ⟨h',g,d,t',os⟩):wpAny (model prog w) A (getAttr? (.ref a) "keys") Q E ⟨h,g,d,t,os⟩:=by
 unfold getAttr? getAttrBy?
 refine Aa (wpAny_mkText (Aa (Jh (BE j m λh' t' e kp lt i=>?_))))
 obtain ⟨o,k,f⟩:=i
 exact Aa (Hu (T := "AttributeError") (b:=true) ⟨o,k,f⟩ gX (Ae (l _ _ kp (Nat.le_of_succ_le lt))))
end
end Nd
namespace Nd
open PySem PySem.Spec PyProof.Rows L2
theorem Vn:entryFor table "dict.update.loop" = some Builtin.«dict.update.loop»:=entryFor_of_tree (by kernel_rfl)
theorem Nf:plainId "dict.update.loop" = true:=by decide +kernel
def FE(h:Heap)(z TI TO b c l1 l2:Addr)(k:Nat):Prop:=Gh h TI (.ref b) (.ref c)/\h.IsListIter b l1 k/\h.IsListIter c l2 k /\
 ((IsZip h z TI TO .none/\∃u v,Gh h TO u v)\/∃(a:Addr) (e:Obj) (d:Bool),ZF h z TI TO (Ff (Int.ofNat a)) (.bool d)/\h.get? a=some e)
theorem FE.keep{z TI TO i g l1 l2 D:Addr}(st:FE h z TI TO i g l1 l2 k)(f:∀c,c≠D->h'.get? c=h.get? c)(p:∃o,h'.get? D=some o)(n:∀c∈[z,TI,TO,i,g],c≠D):FE h' z TI TO i g l1 l2 k:=by
 obtain ⟨a,b,c,d⟩:=st
 have j:=n z (by simp)
 have s:=n TI (by simp)
 have x:=n TO (by simp)
 have m:=n i (by simp)
 have t:=n g (by simp)
 refine ⟨(f TI s).trans a,b.at λo q=>(f i m).trans q,c.at λo q=>(f g t).trans q,?_⟩
 rcases d with ⟨d,u,v,e⟩ | ⟨a,r,l,d,e⟩
 ·exact .inl ⟨(f z j).trans d,u,v,(f TO x).trans e⟩
 ·refine .inr ?_
  by_cases q:a=D
  ·obtain ⟨o,w⟩:=p
   exact ⟨a,o,l,(f z j).trans d,by rw[q]; exact w⟩
  ·exact ⟨a,r,l,(f z j).trans d,(f a q).trans e⟩
section
variable{prog:Bn}{w:World}{A:Ck}{E:Value->Ah->Prop}{s:Ah}{z TI TO f g l1 l2:Addr}{k:Nat}{xs ys:Array Value}{x y:Value}{Q:Option Value->Ah->Prop}
theorem R5(D:Rz z TI TO f g l1 l2)(st:FE s.heap z TI TO f g l1 l2 k)(l:s.heap.IsList l1 xs)(m:s.heap.IsList l2 ys)(G:xs[k]? = some x)(K:ys[k]? = some y)(C:∀h',FE h' z TI TO f g l1 l2 (k+1)->Gh h' s.heap.objs.size x y->(∀c o,c∉[z,TI,TO,f,g]->s.heap.get? c=some o->h'.get? c=some o)->Q (some (.ref s.heap.objs.size)) { s with heap:=h' }):wpAny (model prog w) A (Ig (.ref z)) Q E s:=by
 obtain ⟨a,b,c,d⟩:=st
 rcases d with ⟨d,u,v,e⟩ | ⟨i,L,M,d,e⟩
 ·refine wpAny_pyNext_zip_item D d a e b c l m G K λh' j r p B t n F=>C h' ⟨F TI _ D.TIz D.TITO D.TIi1 D.TIi2 a,p,B,.inr ⟨_,_,false,j,t⟩⟩ t λc o h q=>?_
  simp only[Al,Ba,or_false,not_or] at h
  exact F c o h.1 h.2.2.1 h.2.2.2.1 h.2.2.2.2 q
 ·refine uG D d e a b c l m G K λh' j r p B t n=>?_
  have up:∀c o,c∉[z,TI,TO,f,g]->s.heap.get? c=some o->h'.get? c=some o:=λc o h q=>by
   simp only[Al,Ba,or_false,not_or] at h
   exact n c o h.1 h.2.2.2.1 h.2.2.2.2 q
  refine C h' ⟨n TI _ D.TIz D.TIi1 D.TIi2 a,r,p,.inr ?_⟩ B up
  by_cases H:i=z
  ·subst H
   exact ⟨i,_,true,j,j⟩
  by_cases I:i=f
  ·subst I
   obtain ⟨o,q,_⟩:=r
   exact ⟨i,o,true,j,q⟩
  by_cases J:i=g
  ·subst J
   obtain ⟨o,q,_⟩:=p
   exact ⟨i,o,true,j,q⟩
  exact ⟨i,L,true,j,n i _ H I J e⟩
theorem W8(m:A.handled=none)(D:Rz z TI TO f g l1 l2)(st:FE s.heap z TI TO f g l1 l2 k)(i:s.heap.IsList l1 xs)(j:s.heap.IsList l2 ys)(l:xs[k]? = none\/ys[k]? = none)(n:∀h',(∀c o,c∉[z,TI,TO,f,g]->s.heap.get? c=some o->h'.get? c=some o)->Q none { s with heap:=h' }):wpAny (model prog w) A (Ig (.ref z)) Q E s:=by
 obtain ⟨a,b,c,d⟩:=st
 rcases d with ⟨d,u,v,e⟩ | ⟨y,t,x,d,e⟩
 ·refine wpAny_pyNext_zip_end m D d a e b c i j l λh' p=>n h' λc o h q=>?_
  simp only[Al,Ba,or_false,not_or] at h
  exact p c o h.1 h.2.2.1 h.2.2.2.1 h.2.2.2.2 q
 ·refine gD m D d e a b c i j l λh' r=>n h' λc o h q=>?_
  simp only[Al,Ba,or_false,not_or] at h
  exact r c o h.1 h.2.2.2.1 h.2.2.2.2 q
end
section
variable{X:Cx}{f:List (Addr×Obj)}{j:L2.St}{H:Hp}{s:Ah}{a b:Addr}{v:V}{r:Value}{A:Ck}{E:Value->Ah->Prop}{d:List (List Ky×V)}{k:List Ky}
theorem uR(K:A.units+1<cLine)(I:Inv X f j H s)(e:H a=some (.dT d))(p:H b=some (.tup (k.map kV)))(l:d.length<Au)(B:RelV v r)(h:∀s',Inv X f j (upd H a (.dT (Pr d k v))) s'->(∀c,c≠a->s'.heap.get? c=s.heap.get? c)->(∃o,s'.heap.get? a=some o)->Q () s'):wpAny (model X.prog X.w) A (dictSet a (.ref b) r) Q E s:=by
 obtain ⟨z,C,L,g,N⟩:=lR I.hok (.inl e)
 have hz:L.length<=Au:=by rw[<- Paired.length g]; exact z
 have F:(Pr d k v).length<=Au:=by have:=Rv d k v; omega
 refine gS (hz:=hz) (show (Ox _).room A from Nat.lt_of_succ_lt K) (bH I.hok p) N λO i t=>?_
 obtain ⟨q,M,J,m,G,x,D,_,u⟩:=i
 exact h _ (eB I (by rw[e]; exact Wj) t ⟨q,m⟩ ⟨F,C,_,(g.put k p B).keeps λc P n=>(Dr (L0 n e (λz=>nomatch z))).trans n,q,M,J,m,G,x,D,u⟩) (λc y=>t.2 c y) ⟨q,m⟩
theorem fH{z TI TO v u l1 l2 D:Addr}(hh:A.handled=none)(hu:A.units+2<cLine)(Z:Rz z TI TO v u l1 l2)(W:Nat->Hp->Prop)(Y:∀i H x y,xs[i]? = some x->ys[i]? = some y->W i H->Nm X.K H l1 xs/\Nm X.K H l2 ys/\∃d k p,H D=some (.dT d)/\x=.ref p/\H p=some (.tup (k.map kV))/\d.length<Au/\W (i+1) (upd H D (.dT (Pr d k y))))(hE:∀H,W (min xs.length ys.length) H->Nm X.K H l1 xs/\Nm X.K H l2 ys)(hR:∀H s',W (min xs.length ys.length) H->Inv X f j H s'->R (.ok (.ret .none)) s'):∀n i s H,n=min xs.length ys.length - i->i<=min xs.length ys.length->Inv X f j H s->FE s.heap z TI TO v u l1 l2 i->(∀c∈[z,TI,TO,v,u],Mu X f H c)->W i H->Hy (model X.prog X.w) A (.builtin "dict.update.loop" ⟨[.ref D,.ref z,Ff (i:Int),.none],[]⟩) R s:=by
 intro n
 induction n with
 | zero =>
  intro i s H hn hi I st h B
  have e:i=min xs.length ys.length:=by omega
  subst e
  obtain ⟨P,M⟩:=hE H B
  obtain ⟨r,b,N,_⟩:=I.list P
  obtain ⟨m,a,O,_⟩:=I.list M
  have h0:=b.length
  have h1:=a.length
  refine Gp Vn ?_
  rw[Gm Nf _]
  unfold Builtin.«dict.update.loop»
  refine Aa (W8 (A:=A.in1) hh Z st N.isList O.isList ?_ λQ kp=>?_)
  ·by_cases q:xs.length<=min xs.length ys.length
   ·exact .inl (by simp; omega)
   ·exact .inr (by simp; omega)
  have L:=Pu (t':=s.toks) I kp h
  show wpAny _ _ (Builtin.Dict.addKeywords D [] >>= _) _ _ _
  exact Aa (Ae (Ae (hR _ _ B L)))
 | succ n U =>
  intro i s H hn hi I st h B
  have l1:i<xs.length:=by omega
  have l2:i<ys.length:=by omega
  obtain ⟨P,M,d,k,p,S,ex,hp,hz,w1⟩:=Y i H _ _ (Co l1) (Co l2) B
  obtain ⟨r,b,N,_⟩:=I.list P
  obtain ⟨m,a,O,_⟩:=I.list M
  obtain ⟨u1,G,t⟩:=b.get (Co l1)
  obtain ⟨F,J,C⟩:=a.get (Co l2)
  rw[ex] at t
  cases (show u1=Be p from t)
  refine Gp Vn ?_
  rw[Gm Nf _]
  unfold Builtin.«dict.update.loop»
  refine Aa (R5 (A:=A.in1) Z st N.isList O.isList (x:=.ref p) (y:=F) (by simpa using G) (by simpa using J) λQ E l kp=>?_)
  have L:=Pu (t':=s.toks) I kp h
  have T:∀c∈[z,TI,TO,v,u],c≠D:=λc o e=>by
   have:=(h c o).1
   rw[e,S] at this
   cases this
  refine Aa (Ce ?_)
  refine Aa (wpAny_tryCatch ?_)
  unfold Builtin.Dict.pairItems
  have ty:({ s with heap:=Q }:Ah).TypeIs (.ref s.heap.objs.size) "tuple" := ⟨_,l,rfl⟩
  refine Aa (Jc ty ?_)
  rw[if_pos (by decide)]
  refine Aa (Jk l rfl (Ae ?_))
  show wpAny _ _ (Rn [.ref p,F] (dictSet D (.ref p) F)) _ _ _
  refine Ce (uR (A:=A.in1) hu L S hp hz C λs2 I2 k2 o2=>?_)
  refine Ae ⟨Rm Nf _,?_⟩
  have g:=U (i+1) s2 _ (by omega) (by omega) I2 (E.keep k2 o2 T) (λc o=>⟨by rw[Dr (T c o)]; exact (h c o).1,(h c o).2⟩) w1
  rw[show ((i+1:Nat):Int)=(i:Int)+1 by omega] at g
  exact g
theorem qP{z TI TO l h l1 l2:Addr}(M:A.handled=none)(hu:A.units+8<cLine)(Z:Rz z TI TO l h l1 l2)(I:Inv X f j n s)(hz:IsZip s.heap z TI TO .none)(r:Gh s.heap TI (.ref l) (.ref h))(a:∃u v,Gh s.heap TO u v)(h1:s.heap.IsListIter l l1 0)(N:s.heap.IsListIter h l2 0)(O:∀c∈[z,TI,TO,l,h],Mu X f n c)(hq:∀D,n D=none->∃W:Nat->Hp->Prop,W 0 (upd n D (.dT []))/\(∀i H x y,xs[i]? = some x->ys[i]? = some y->W i H->Nm X.K H l1 xs/\Nm X.K H l2 ys/\∃d k p,H D=some (.dT d)/\x=.ref p/\H p=some (.tup (k.map kV))/\d.length<Au/\W (i+1) (upd H D (.dT (Pr d k y))))/\∀H,W (min xs.length ys.length) H->Nm X.K H l1 xs/\Nm X.K H l2 ys/\∀s',Inv X f j H s'->Q (.ref D) s'):wpAny (model X.prog X.w) A (call (.type "dict") [.ref z]) Q E s:=by
 refine callType_codes (Q₁:=λt e=>t=.ref s.heap.objs.size/\e={ s with heap:=s.heap.push { cls:=.type "dict",data:=.dict #[] } }) F.kt_called_dict (F.kt_typeCall_dict_1 _) F.entry_dict_init (kt_code_dict_new _ ⟨rfl,rfl⟩) ?_
 rintro t e ⟨rfl,rfl⟩
 have Y:n s.heap.objs.size=none:=I.hok.fresh (Ak _)
 obtain ⟨W,w0,S,J⟩:=hq s.heap.objs.size Y
 have NY:({ s with heap:=s.heap.push { cls:=.type "dict",data:=.dict #[] } }:Ah).TypeIs (.ref s.heap.objs.size) "dict" := ⟨_,Ap _ rfl,rfl⟩
 have I3:Inv X f j (upd n s.heap.objs.size (.dT [])) { s with heap:=s.heap.push { cls:=.type "dict",data:=.dict #[] } } :=
  I.laid (t':=s.toks) (λb u q=>Ai _ q) (Ak _) (rA s.heap I.big)
 have L:IsZip (s.heap.push { cls:=.type "dict",data:=.dict #[] }) z TI TO .none:=Ai _ hz
 have G:({ s with heap:=s.heap.push { cls:=.type "dict",data:=.dict #[] } }:Ah).TypeIs (.ref z) "zip" := ⟨_,L,rfl⟩
 refine ⟨NY,F.args_dict_init_2 _ _,?_⟩
 unfold Builtin.«dict.__init__»
 refine Aa ?_
 unfold Builtin.Dict.selfAndRest
 refine Aa (Rb NY ?_)
 show wpAny _ _ (pure (s.heap.objs.size,[Be z])) _ _ _
 refine Ae ?_
 show wpAny _ _ (eR "dict.__init__" s.heap.objs.size (.ref z) [] .none) _ _ _
 unfold eR
 refine Aa (Jc G ?_)
 rw[if_pos (by decide)]
 refine Aa (yW (A:=A.in1.in1) M L λB t4 g _=>?_)
 simp only[Option.isNone_none,if_true]
 refine Aa (Ln ?_)
 have P:IsZip B z TI TO .none:=g _ _ L
 refine Aa (Rh P ?_)
 have R:=I3.kept (h':=B) (t':=t4) g
 have up:∀c o,s.heap.get? c=some o->B.get? c=some o:=λc o q=>g c o (Ai _ q)
 obtain ⟨u,v,a⟩:=a
 have C:FE B z TI TO l h l1 l2 0:=⟨up _ _ r,h1.at λo q=>up _ _ q,N.at λo q=>up _ _ q,.inl ⟨P,u,v,up _ _ a⟩⟩
 have nz:∀c∈[z,TI,TO,l,h],c≠s.heap.objs.size:=λc m=>by
  obtain ⟨o1,e1,_⟩:=h1
  obtain ⟨o2,T,_⟩:=N
  simp only[Al,Ba,or_false] at m
  rcases m with rfl | rfl | rfl | rfl | rfl
  ·exact By (Ax hz)
  ·exact By (Ax r)
  ·exact By (Ax a)
  ·exact By (Ax e1)
  ·exact By (Ax T)
 refine Ae ⟨Rm Nf _,?_⟩
 exact fH (A:=A.in1) M (Nat.lt_of_le_of_lt (La (show A.in1.units+2<A.units+8 from by show A.units+1+2<A.units+8; omega)) hu) Z W S (λH w=>⟨(J H w).1,(J H w).2.1⟩) (λH s' w U=>⟨rfl,(J H w).2.2 s' U⟩) _ 0 _ _ rfl (Dq _) R C (λc m=>⟨by rw[Dr (nz c m)]; exact (O c m).1,(O c m).2⟩) w0
end
section
variable{X:Cx}
def O4(K:PySem.W.Frag)(h:TA):TE:=λg H Q=>h g H λvs d=>∃e f c b,vs=[.ref e,.ref f]/\Nm K d e c/\Nm K d f b/\∀D,d D=none->∃W:Nat->Hp->Prop,W 0 (upd d D (.dT [])) /\
   (∀i H x y,c[i]? = some x->b[i]? = some y->W i H->Nm K H e c/\Nm K H f b/\∃a k p,H D=some (.dT a)/\x=.ref p/\H p=some (.tup (k.map kV))/\a.length<Au/\W (i+1) (upd H D (.dT (Pr a k y)))) /\
   ∀H,W (min c.length b.length) H->Nm K H e c/\Nm K H f b/\Q (.ref D) H
theorem P6{p p2 pos i:Pos}(E:Gl X "dict")(L:X.mg "dict" = none)(hg:Gl X "zip")(hm:X.mg "zip" = none)(t:X.calm=true)(hu:X.A.units+64<cLine)(ha:PA X [a,b] N)(hs:Bo [a,b] X.env=(false,eval a X.env)::Bo [b] X.env:=by rfl)(Y:(Hm pos (Bo [b] X.env)).any (·.1)=false:=by rfl):PE X (.Call (.Name "dict" p2) [.Call (.Name "zip" p) [a,b] [] pos] [] i) (O4 X.K N):=by
 intro f s σ H R I h
 refine Call_ (Tw I E L (u:=.type "dict") (by decide +kernel) (Fc ?_ rfl rfl))
 show wpAny _ _ (spliced ((false,eval (.Call (.Name "zip" p) [a,b] [] pos) X.env)::Hm i (Bo [] X.env))) _ _ s
 refine aU ?_
 refine Call_ (Tw I hg hm (u:=.type "zip") (by decide +kernel) (Fc (Gj (ha pos f s σ H _ I h) λus g ⟨vs,O,r,S,U⟩=>?_) hs Y))
 obtain ⟨l1,l2,xs,ys,e,C,B,q⟩:=U
 subst e
 obtain ⟨u1,u2,rfl,F,v⟩:=vals2 S
 cases F
 cases v
 obtain ⟨P,h1,j,Z⟩:=r.list C
 obtain ⟨M,Q,k,h3⟩:=r.list B
 have l:l1<g.heap.objs.size:=let ⟨o,q,_⟩:=j.isList; Ax q
 have m:l2<g.heap.objs.size:=let ⟨o,q,_⟩:=k.isList; Ax q
 refine call_zip_2 j.isList k.isList λh2 hz x y G z h0 hk=>?_
 have d:∀n,Mu X f O (g.heap.objs.size+n):=λn=>r.fpOk (Ki _ _) (r.hok.fresh (Ki _ _))
 have T:∀c∈[g.heap.objs.size+4,g.heap.objs.size+2,g.heap.objs.size+3,g.heap.objs.size,g.heap.objs.size+1],Mu X f O c:=λc t=>by
  simp only[Al,Ba,or_false] at t
  rcases t with rfl | rfl | rfl | rfl | rfl
  ·exact d 4
  ·exact d 2
  ·exact d 3
  ·exact d 0
  ·exact d 1
 refine cW ?_
 refine qP (xs:=xs) (ys:=ys) (I.ok.hd t) (by omega) (jS _ _ _ l m) (r.kept (t':=g.toks) hk) hz x ⟨_,_,y⟩ G z T λD hD=>?_
 obtain ⟨W,w0,V,J⟩:=q D hD
 exact ⟨W,w0,V,λH w=>⟨(J H w).1,(J H w).2.1,λs' I'=>⟨.ref D,H,I',rfl,(J H w).2.2⟩⟩⟩
end
end Nd
namespace DL
open PySem PySem.Spec PyProof.Rows L2 Nd
def Uv(b:List (List Int×Af))(l:List (List Int×Af)):List (List Int×Af):=l.foldl (λa p=>Ta a p.1 p.2) b
def mY(xs:List DV)(b:DS)(P:DV->DS->Prop):Prop:=match xs with
 | [.dat _ (.list ds),.dat _ (.list es)]=>ds.length<=1000000/\Ei es=true/\∃a:List (List Int),ds=a.map Bf/\P (.dat .ow (.dict (Qs (Uv [] (a.zip es))))) b
 | _=>False
def uF(d:DA):DE:=λb P=>d b λc a=>mY c a P
theorem kF:∀(l:List (List Int×Af)) (a:List (List Int×Af)),(Uv a l).length<=a.length+l.length
 | [],a=>Ak _
 | p::l,a=>by
  have b:=kF l (Ta a p.1 p.2)
  have c:=pB a p.1 p.2
  show (Uv (Ta a p.1 p.2) l).length<=_
  rw[Bh]
  omega
theorem vS{a:List (List Int)}(h1:a[i]? = some w)(b:es[i]? = some e):Uv [] ((a.zip es).take (i+1))=Ta (Uv [] ((a.zip es).take i)) w e:=by
 have c:(a.zip es)[i]? = some (w,e):=by
  rw[List.getElem?_zip_eq_some]
  exact ⟨h1,b⟩
 rw[List.take_add_one,c]
 unfold Uv
 rw[dP]
 rfl
section
variable{X:Cx}{a b:Expr}{d:DA}{p e pos c:Pos}
theorem M4{K:PySem.W.Frag}:∀U H Q,LE K (uF d) U H Q->O4 K (LA K d) U H Q:=by
 intro U H Q h
 obtain ⟨X,Y,S,T,δ,P,rfl,hS,hA,hd,k⟩:=h
 refine ⟨X,Y,S,T,δ,_,rfl,hS,hA,hd,λA u As us R H' E o ex eu I p=>?_⟩
 unfold mY at p
 split at p
 ·rename_i m ds m' g
  obtain ⟨hl,im,e,rfl,pk⟩:=p
  obtain ⟨v,F,w,G,rfl,f⟩:=fB eu I ex
  obtain ⟨a,A,G1,rfl,C,ra,rfl,hz⟩:=(f.told mem_mid).list_inv
  obtain ⟨b,N,G2,rfl,B,rb,rfl,h5⟩:=(f.told Fp).list_inv
  refine ⟨a,b,A,N,rfl,Nm.of C,Nm.of B,λD O=>?_⟩
  have h3:=iQ (n:=1000000) (Ak _)
  have s:a≠D:=λz=>by rw[z,O] at C; cases C
  have l:b≠D:=λz=>by rw[z,O] at B; cases B
  have l1:e.length=A.length:=by have:=ra.len; rw[Ad] at this; exact this.symm
  have l2:=rb.len
  refine ⟨λi H=>H a=some (.lst A)/\H b=some (.lst N)/\At K X Y u.n (⟨some (.ref D),.dT (iP (Uv [] ((e.zip g).take i))),[D]⟩::(R++(⟨some (.ref a),.dat m (.list (e.map Bf)),a::G1⟩::⟨some (.ref b),.dat m' (.list g),b::G2⟩::T))) H,⟨?_,?_,?_⟩,?_,?_⟩
  ·rw[Dr s]; exact C
  ·rw[Dr l]; exact B
  ·exact f.dNew O
  ·(intro i H x y Z hy M; obtain ⟨j,t,c⟩ := M)
   have li:=(Bb.mp Z).1
   have h4:=(Bb.mp hy).1
   obtain ⟨a2,h7,F2,ea,r,L,_,_⟩:=(c.told (Ac _ mem_mid)).list_inv
   cases ea
   rw[j] at r
   cases r
   obtain ⟨b2,h6,F3,eb,q,J,_,_⟩:=(c.told (Ac _ Fp)).list_inv
   cases eb
   rw[t] at q
   cases q
   have E:e[i]? = some (e[i]'(by omega)):=Co _
   have o:g[i]? = some (g[i]'(by omega)):=Co _
   obtain ⟨x',Fx,g1,g2,_⟩:=L.get (by rw[Bg,E]; rfl)
   rw[Z] at g1
   cases g1
   obtain ⟨p,rfl,hp⟩:=Zg g2
   obtain ⟨y',Fy,g3,g4,_⟩:=J.get o
   rw[hy] at g3
   cases g3
   obtain rfl:=g4.imm (vW.mp im _ (Bj o))
   obtain ⟨kv,q1,q2,q3⟩:=c.dPut (w:=e[i]'(by omega)) g4
   refine ⟨Nm.of j,Nm.of t,kv,Mb _,p,q1,rfl,hp,?_,?_,?_,?_⟩
   ·have:=kF ((e.zip g).take i) []
    rw[Dw] at this
    rw[Ad] at hl
    rw[q2]
    show _<Au
    have h0:([]:List (List Int×Af)).length=0:=rfl
    omega
   ·rw[Dr s]; exact j
   ·rw[Dr l]; exact t
   ·rw[vS E o]
    exact q3
  ·(intro H M; obtain ⟨j,t,c⟩ := M)
   refine ⟨Nm.of j,Nm.of t,k _ u _ [D] R H E o ?_ pk⟩
   have et:(e.zip g).take (min A.length N.length)=e.zip g:=Gw (by rw[Ib]; omega)
   rw[et] at c
   have V:=c.dGot
   exact (V.sub (((Cp R).append ((Cp T).cons _ |>.cons _)).cons₂ _)).tomid
 ·exact p.elim
theorem M6(l:X.A.units+64<cLine)(f:Gl X "dict")(g:X.mg "dict" = none)(m:Gl X "zip")(j:X.mg "zip" = none)(h:X.calm=true)(k:lN X [a,b] d)(i:Bo [a,b] X.env=(false,eval a X.env)::Bo [b] X.env:=by rfl)(n:(Hm pos (Bo [b] X.env)).any (·.1)=false:=by rfl):Fw X (.Call (.Name "dict" e) [.Call (.Name "zip" p) [a,b] [] pos] [] c) (uF d):=PE.imp (P6 f g m j h l k i n) M4
end
end DL
namespace Nd
open PySem PySem.Spec PyProof.Rows L2
section
variable{prog:Bn}{w:World}{A:Ck}{E:Value->Ah->Prop}{s:Ah}{it d:Addr}{es:Array Hv}{i ep:Nat}
theorem yU(h:s.heap.IsValIter it d i es.size ep)(m:Wg s.heap d es ep)(l:es[i]? = some x)(k:∀h',h'.IsValIter it d (i+1) es.size ep->Cw it s.heap h'->Q (some x.val) { s with heap:=h' }):wpAny (model prog w) A (Ig (.ref it)) Q E s:=by
 obtain ⟨o,e,j,b⟩:=id h
 obtain ⟨n,g,p,f⟩:=id m
 have a:=h.typeIs
 unfold Ig
 refine Aa (Jh (Cy (name:=Cq "__next__") a PySem.F.slot_dict_valueiterator_next (Ct PySem.F.slot_dict_valueiterator_next a PySem.F.entry_dict_valueiterator_next ?_ (PySem.F.args_dict_valueiterator_next_1 _))))
 refine Aa (Ae (Aa (Aa ?_)))
 first | refine Aa (Li a (Ae ?_)) | refine Aa (Nu a (Ae ?_))
 refine Aa (Pi e b ?_)
 simp only[show Hb "dict_valueiterator" = false by decide,Bt,if_false]
 show wpAny _ _ (ite ((Be d == Gu)=true) _ _) _ _ s
 rw[if_neg (show ¬ (Be d == Gu)=true from Bk)]
 refine Aa (Ae (Aa (Ka g f ?_)))
 rw[if_neg (by simp)]
 refine Aa (Ae (Aa (Of g f ?_)))
 rw[if_neg (by simp)]
 refine Ae ?_
 simp only[show ¬ ((i:Int)<0) from by omega,Ed,if_false,l]
 refine Aa ?_
 first | refine Aa (Li a (Ae ?_)) | refine Aa (Nu a (Ae ?_))
 refine Aa (aT a ?_)
 show wpAny _ _ (bind (Nw (.ref it) 1 (Ff ((i:Int)+1))) _) _ _ s
 refine Aa (Ms e b (by simp) ?_)
 have c:(s.heap.update it (Py (·.setIfInBounds 1 (Ff ((i:Int)+1))))).IsValIter it d (i+1) es.size ep :=
  ⟨_,Fj _ e (Obj.isFreed_of_fields (Sv b _)),(Obj.cls_mapFields ..).trans j,by rw[Sv b]; simp [Ff]⟩
 refine Aa (Ce (Aa (aT (s:={ s with heap:=s.heap.update it (Py (·.setIfInBounds 1 (Ff ((i:Int)+1)))) }) c.typeIs (Aa (aT (s:={ s with heap:=s.heap.update it (Py (·.setIfInBounds 1 (Ff ((i:Int)+1)))) }) c.typeIs ?_)))))
 show wpAny _ _ (pure x.val) _ _ _
 exact Ae (Ae ⟨_,rfl,Ae (k _ c (Bs ..))⟩)
theorem O3(g:A.handled=none)(h:s.heap.IsValIter it d es.size es.size ep)(l:Wg s.heap d es ep)(k:∀h',Yu it s.heap h'->Q none { s with heap:=h' }):wpAny (model prog w) A (Ig (.ref it)) Q E s:=by
 obtain ⟨p,j,n,i⟩:=id h
 obtain ⟨o,f,q,e⟩:=id l
 have c:=h.typeIs
 unfold Ig
 refine Aa (Jh (Cy (name:=Cq "__next__") c PySem.F.slot_dict_valueiterator_next (Ct PySem.F.slot_dict_valueiterator_next c PySem.F.entry_dict_valueiterator_next ?_ (PySem.F.args_dict_valueiterator_next_1 _))))
 refine Aa (Ae (Aa (Aa ?_)))
 first | refine Aa (Li c (Ae ?_)) | refine Aa (Nu c (Ae ?_))
 refine Aa (Pi j i ?_)
 simp only[show Hb "dict_valueiterator" = false by decide,Bt,if_false]
 show wpAny _ _ (ite ((Be d == Gu)=true) _ _) _ _ s
 rw[if_neg (show ¬ (Be d == Gu)=true from Bk)]
 refine Aa (Ae (Aa (Ka f e ?_)))
 rw[if_neg (by simp)]
 refine Aa (Ae (Aa (Of f e ?_)))
 rw[if_neg (by simp)]
 refine Ae ?_
 simp only[show ¬ ((es.size:Int)<0) from by omega,Ed,if_false,Nz (Ak es.size)]
 refine Aa ?_
 first | refine Aa (Li c (Ae ?_)) | refine Aa (Nu c (Ae ?_))
 show wpAny _ _ (bind (Nw (.ref it) 0 .none) _) _ _ s
 refine Aa (Ms j i (by simp) ?_)
 show wpAny _ _ (bind (newExc (.type "StopIteration") []) _) _ _ _
 refine Aa ?_
 simp only[newTuple,newExc]
 refine Aa (Cf ?_ (by size_fits))
 refine Aa (m:=Kz _ _) (Jz (a:=Gu) (by first | rfl | (simp only[Kz]; rfl)) (Cf ?_ (by size_fits)))
 simp only[raiseNew]
 refine Aa (wpAny_handled ?_)
 first | rw[show A.in1.handled=none from g] | rw[g]
 refine Aa (Ae (wpAny_throw ?_))
 refine Aa (Hu (T := "StopIteration") (b:=true) ⟨_,Ap _ rfl,rfl⟩ cT (Ae (k _ (((Bs ..).extBut.push _).push _))))
theorem zM(a:s.heap.IsValuesView v d)(h:Wg s.heap d es ep)(k:Q (.ref s.heap.objs.size) { s with heap:=s.heap.push { cls:=.type "dict_valueiterator",data:=.fields #[.ref d,.int 0 0,.int es.size 0,.int ep 0] } }):wpAny (model prog w) A (cR (.ref v)) Q E s:=by
 obtain ⟨i,b,g,c⟩:=id a
 obtain ⟨j,f,l,e⟩:=id h
 refine Wi a.typeIs PySem.F.slot_dict_values_iter (Ct PySem.F.slot_dict_values_iter a.typeIs PySem.F.entry_dict_values_iter ?_ (PySem.F.args_dict_values_iter_1 _))
 unfold Builtin.«dict_values.__iter__»
 refine Aa (Ae (Aa ?_))
 unfold Builtin.Dict_items.dictOf
 refine Aa (Fl b c (x:=.ref d) rfl (Ae (Aa ?_)))
 unfold Builtin.Dict_items.newIterator
 refine Aa (Ka f e (Aa (Of f e ?_)))
 simp only[show Hb "dict_valueiterator" = false by decide,Bt,if_false]
 refine Cf (Ae ⟨_,rfl, "dict_valueiterator",_,⟨_,Ap _ rfl,rfl⟩,PySem.F.slot_dict_valueiterator_next.lookup,?_⟩)
 exact k
theorem zN(hd:(d == Fs)=false)(e:Wg s.heap d es ep)(k:Q (.ref s.heap.objs.size) { s with heap:=s.heap.push { cls:=.type "dict_values",data:=.fields #[.ref d] } }):wpAny (model prog w) A (call (.builtin "dict.values") [.ref d]) Q E s:=by
 obtain ⟨b,c,f,g⟩:=id e
 have a:s.TypeIs (.ref d) "dict" := ⟨b,c,f.1⟩
 refine Ct PySem.F.slot_dict_values a PySem.F.entry_dict_values ?_ (PySem.F.args_dict_values_1 _)
 refine Aa ?_
 unfold Builtin.Dict.noArgs
 refine Aa (Rb a ?_)
 show wpAny _ _ (pure d) _ _ s
 refine Ae ?_
 show wpAny _ _ (bind (My d) _) _ _ s
 unfold My
 rw[if_neg (by rw[hd]; exact Bk)]
 exact Aa (Ae (Aa (Cf (Ae ⟨_,rfl,k⟩))))
end
theorem IG(n:A.handled=none)(it d:Addr)(f:d≠it)(es:Array Hv)(ep:Nat):Walks prog w A it [it,d] [it] es.size (λi v=>∃x,es[i]? = some x/\v=x.val) (λi h=>h.IsValIter it d i es.size ep/\Wg h d es ep) where
 sub:=λb a=>by simp at a; simp [a]
 frame:=λ_ _ _ st m=>⟨let ⟨o,e,r⟩:=st.1; ⟨o,m it (by simp) o e,r⟩,st.2.at λo e=>m d (by simp) o e⟩
 item:=λi s Q E l st c=>by
  refine yU st.1 st.2 (x:=es[i]) (by simp [l]) λg p k=>?_
  exact c _ g s.toks ⟨_,by simp [l],rfl⟩ ⟨p,st.2.at λo e=>(k.2 d f).trans e⟩ λb o a e=>k.extBut b o (λh=>a (by simp [h])) e
 done:=λs Q E st c=>O3 n st.1 st.2 λg j=>c g s.toks λb o a e=>j b o (λh=>a (by simp [h])) e
 self:=λ_ _ _ _ st c=>wpAny_pyIter_valiter st.1 c
section
variable{X:Cx}
theorem kY:∀{xs:List b} {ys:List a} {i:Nat} {y:a},Paired R xs ys->ys[i]? = some y->∃x,xs[i]? = some x/\R x y
 | _,_,0,y,.cons r _,h=>⟨_,rfl,by cases h; exact r⟩
 | _,_,i+1,y,.cons _ rs,h=>kY (i:=i) rs h
def EI(d:TE):TE:=λe H Q=>d e H λx c=>∃a b,x=.ref a/\c a=some (.dT b)/\b≠[]/\∃f:List Int,b.map (·.2)=f.map V.int/\∀M∈f,(∀z∈f,M<=z)->Q (.int M) c
theorem V4{p d g pos:Pos}(hg:Gl X "min")(hm:X.mg "min" = none)(hc:X.calm=true)(ho:PE X o Z)(r:Ro o "values" X.env (eval o X.env)=eval o X.env:=by rfl)(B:(d.endLine == g.line)=true:=by rfl):PE X (.Call (.Name "min" p) [.Call (.Attribute o "values" d) [] [] g] [] pos) (EI Z):=by
 intro D s σ H Q I h
 refine Call_ (Tw I hg hm (u:=.builtin "min") (by decide +kernel) (Vi rfl (Calls.evalArgs_plain ?_)))
 show wpAny _ _ (spliced ((false,eval (.Call (.Attribute o "values" d) [] [] g) X.env)::Hm pos (Bo [] X.env))) _ _ s
 refine aU ?_
 refine wpAny_Call_method0_late r B (Gj (ho D s σ H _ I h) λv l T => ?_)
 obtain ⟨x,H1,P,r1,a,c,ex,ha,ne,f,ef,q⟩ := T
 subst ex
 obtain rfl:v=Be a:=r1
 obtain ⟨t1,t2,K⟩:=GC P (.inr ⟨c,.inl ha⟩)
 obtain ⟨hz,_,xs,J,ob,C,O,g1,g2,g3,Y,_⟩:=lR P.hok (.inl ha)
 have U:Wg l.heap a C O:=⟨ob,g1,g2,g3⟩
 refine ⟨_,_,PySem.F.plainAttrs_dict,PySem.F.slot_dict_values,PySem.F.type_dict_values,t1,t2,Vi rfl (PySem.evalArgs_none (zN K U (cW ?_)))⟩
 have lt:=Ax g1
 have L:Wg (l.heap.push { cls:=.type "dict_values",data:=.fields #[.ref a] }) a C O:=U.at λo q=>Ai _ q
 have el:C.size=c.length:=by
  have:=congrArg Fh Y
  rw[Ad,<- Paired.length J] at this
  simpa using this
 have fl:f.length=c.length:=by
  have:=congrArg Fh ef
  simpa using this.symm
 have nz:0<c.length:=Mo.mpr ne
 have val:∀(i:Nat) (v:Value),(∃x:Hv,C[i]? = some x/\v=x.val)->∃t,v=Lz (f.getD i 0) t:=by
  (intro i v q_; obtain ⟨x,hx,rfl⟩ := q_)
  have k:(xs.map (Za (Ox (Jf X.prog X.w))))[i]? = some x:=by rw[<- Y]; simpa using hx
  rw[Bg] at k
  cases S:xs[i]? with
  | none=>rw[S] at k; cases k
  | some y =>
   rw[S] at k
   cases k
   obtain ⟨z,e1,_,_,W⟩:=kY J S
   have E:(c.map (·.2))[i]? = some z.2:=by rw[Bg,e1]; rfl
   rw[ef,Bg] at E
   cases R:f[i]? with
   | none=>rw[R] at E; cases E
   | some n =>
    rw[R] at E
    have e5:V.int n=z.2:=Cj E
    rw[<- e5] at W
    obtain ⟨t,e6⟩:=W
    refine ⟨t,?_⟩
    rw[List.getD_eq_getElem?_getD,R]
    exact e6
 refine call_min_walk (zM (A:=X.A.in1) ⟨_,Ap _ rfl,rfl,rfl⟩ L ⟨_,_,_,_,_,_,_,rfl,IG (A:=X.A.in1) (I.ok.hd hc) _ a ?_ C O,⟨⟨_,Ap _ rfl,rfl,rfl⟩,L.at λo q=>Ai _ q⟩,?_,by omega,CmpOf.ints_lt (λi=>f.getD i 0) val,λv h' tk hP hk=>?_⟩)
 ·rw[Fo]; exact By (Gb lt)
 ·intro b M
  simp only[Al,Ba,or_false] at M
  show b<((l.heap.push _).push _).objs.size
  rw[Fo,Fo]
  rcases M with rfl | rfl
  ·show (l.heap.push _).objs.size<_
   rw[Fo]
   exact Vh _
  ·exact Gb (Gb lt)
 ·obtain ⟨t,rfl⟩:=val _ _ hP
  obtain ⟨b1,b2⟩:=argBest_lt (λi=>f.getD i 0) (C.size - 1)
  have kp:∀b o,l.heap.get? b=some o->h'.get? b=some o:=λb o e=>by
   have G:=Ax e
   refine hk b o ?_ (Ai _ (Ai _ e))
   intro M
   rw[Aj.mp M] at G
   have sz:(l.heap.push { cls:=.type "dict_values",data:=.fields #[.ref a] }).objs.size=l.heap.objs.size+1:=Fo ..
   have m:(l.heap.push { cls:=.type "dict_values",data:=.fields #[.ref a] }).objs.size<l.heap.objs.size:=G
   rw[sz] at m
   exact absurd m (Nat.not_lt.mpr (Qc _))
  refine ⟨.int _,H1,P.kept kp,⟨t,rfl⟩,q _ (getD_mem (by omega)) λz N=>?_⟩
  obtain ⟨j,hj,rfl⟩:=mem_getD N
  exact b2 j (by omega)
end
end Nd
namespace DL
open PySem PySem.Spec PyProof.Rows L2 Nd
def xJ(x:DV)(b:DS)(P:DV->DS->Prop):Prop:=match x with
 | .dat _ (.dict X)=>∃(a:List (List Int×Af)) (f:List Int),X=Qs a/\a≠[]/\a.map (·.2)=f.map Az/\∀M∈f,(∀z∈f,M<=z)->P (.dat .ow (.int M)) b
 | _=>False
def E5(b:DE):DE:=λc P=>b c λx a=>xJ x a P
section
variable{K:PySem.W.Frag}
theorem AU:∀g H Q,LE K (E5 i) g H Q->EI (LE K i) g H Q:=by
 intro g H Q h
 obtain ⟨m,Y,S,T,s,P,rfl,B,w,u,k⟩:=h
 refine ⟨m,Y,S,T,s,_,rfl,B,w,u,λx e v F r t E n b d=>?_⟩
 unfold xJ at d
 split at d
 ·obtain ⟨J,f,rfl,G,C,p⟩:=d
  obtain ⟨a,o,I,rfl,q,y,c,_⟩:=(b.told mem_mid).dict_inv
  obtain rfl:=Lr q
  have j:=c.val
  rw[C] at j
  obtain ⟨l,_⟩:=j.ints_inv
  refine ⟨a,o,rfl,y,λz=>G ?_,f,l,λM D A=>k _ e _ [] r t E n (b.drop.pushI (.int _)) (p M D A)⟩
  have:=Qu c
  rw[z] at this
  exact Kg.mp this.symm
 ·exact d.elim
end
section
variable{X:Cx}{o e f:Expr}{c g d:DE}{p a b pos:Pos}
theorem AE(i:Gl X "min")(g:X.mg "min" = none)(f:X.calm=true)(h:Fw X o c)(d:Ro o "values" X.env (eval o X.env)=eval o X.env:=by rfl)(e:(a.endLine == b.line)=true:=by rfl):Fw X (.Call (.Name "min" p) [.Call (.Attribute o "values" a) [] [] b] [] pos) (E5 c):=PE.imp (V4 i g f h d e) AU
end
end DL
namespace Nd
open PySem PySem.Spec PyProof.Rows L2
section
variable{prog:Bn}{w:World}{A:Ck}{E:Value->Ah->Prop}{s:Ah}
theorem rH(c:s.heap.get? l=some o)(a:o.cls=.type "tuple")(hd:o.data=.seq vs.toArray n)(h:Q vs { s with heap:=(s.heap.push (Er "list" #[] 0)).update s.heap.objs.size (Eo (·++vs.toArray)) })(hsz:vs.length<=Au):wpAny (model prog w) A (collect (.ref l)) Q E s:=by
 unfold collect
 refine Aa (wpAny_runValue (Gp entry_proto_collect' ?_))
 show wpAny _ _ (bind (newList []) λq=>again (.builtin "list.__iadd__" ⟨[q,.ref l],[]⟩)) _ _ s
 refine Aa (Xg (Ae ⟨Code.quiet_builtin _ (by decide +kernel),Gp entry_list_iadd' ?_⟩))
 show wpAny _ _ (Oz (.ref s.heap.objs.size) (.ref l) (.ref s.heap.objs.size)) _ _ { s with heap:=s.heap.push (Er "list" #[] 0) }
 unfold Oz
 have g:(s.heap.push (Er "list" #[] 0)).get? l=some o:=Ai _ c
 refine Aa (Jc (T := "tuple") ⟨o,g,a⟩ ?_)
 rw[if_pos (by rw[show (Lu "tuple" == Lu "tuple")=true from rfl,Bool.or_true])]
 refine Aa (lE g hd (Aa (lE (xs:=#[]) (n:=0) (Ap _ rfl) rfl ?_)))
 rw[if_neg (by simp)]
 refine Aa (iK (xs:=#[]) (n:=0) (Ap _ rfl) rfl (Ae ?_) (Dq _) (by show (#[]++vs.toArray).size<=Au+1; simp only[Array.size_append,Av,Jl]; omega))
 have b:((s.heap.push (Er "list" #[] 0)).update s.heap.objs.size (Eo (·++vs.toArray))).get? s.heap.objs.size=some _:=Og (Ap _ rfl) _
 refine Aa (Yy b ?_)
 show wpAny _ _ (pure ((#[]:Array Value)++vs.toArray).toList) Q E _
 rw[show ((#[]:Array Value)++vs.toArray).toList=vs by simp]
 exact Ae h
theorem vA(i:s.heap.get? l=some o)(c:o.cls=.type "tuple")(hd:o.data=.seq vs.toArray n)(f:Fm vs ns)(b:vs.length<64)(h:∀(out:Array Value) (a:List Int),Fm out.toList a->a.Perm ns->a.Pairwise (·<=·)->Q (.ref (s.heap.objs.size+1)) { s with heap:=dN s.heap vs out }):wpAny (model prog w) A (call (.builtin "sorted") [.ref l]) Q E s:=by
 refine Mh kind_sorted plain_sorted entry_sorted (args_sorted1 _) ?_
 unfold aV
 refine Aa (m:=checkCount "sorted" 1 1 _) (Ae (Aa (rH i c hd (Aa (Xg ?_)) (by rw[Gs]; omega))))
 have z:((s.heap.push (Er "list" #[] 0)).update s.heap.objs.size (Eo (·++vs.toArray))).objs.size=s.heap.objs.size+1:=by
  rw[Mg,iS]
 have g:(((s.heap.push (Er "list" #[] 0)).update s.heap.objs.size (Eo (·++vs.toArray))).push (Er "list" vs.toArray 0)).get? (s.heap.objs.size+1)=some (Er "list" vs.toArray 0):=by
  rw[<- z]; exact Ap _ rfl
 show wpAny _ _ _ _ _ { s with heap:=((s.heap.push (Er "list" #[] 0)).update s.heap.objs.size (Eo (·++vs.toArray))).push (Er "list" vs.toArray 0) }
 rw[z]
 refine Aa (Ce (Ct slot_list_sort ⟨_,g,rfl⟩ entry_list_sort (list_sort_tree g f b λout a j d e=>⟨_,rfl,?_⟩) (args_list_sort _)))
 exact Ae ⟨_,rfl,h out a j d e⟩
end
section
variable{X:Cx}
def pT(K:PySem.W.Frag):List V->Hp->VK->Prop:=λd H Q=>∃(a:Addr) (b:List Int),d=[.ref a]/\H a=some (.tup (b.map V.int))/\b.length<64 /\
 ∀(p:Addr) (c:List Int),H p=none->c.Perm b->c.Pairwise (·<=·)->Q (.ref p) (upd H p (.lst (c.map V.int)))
theorem nR:Nt X (.builtin "sorted") (pT X.K):=by
 intro d s A H z x Q I r h
 obtain ⟨a,B,rfl,v,g,q⟩:=h
 obtain ⟨u,rfl,w⟩:=vals1 r
 cases w
 obtain ⟨_,b,f,o,l,k,n,m⟩:=I.hok a _ v
 have len:b.length<64:=by rw[<- f.length,Ad]; exact g
 refine vA l k m (intsAre_of f) len λout c t i p=>?_
 obtain ⟨e,j⟩:=sortedAll_at s.heap b out
 have y:c.length<64:=by rw[i.length_eq]; exact g
 exact ⟨.ref (s.heap.objs.size+1),_,I.laid (t':=s.toks) (o:=.lst (c.map V.int)) (λ_ _=>sortedAll_old) (Qc _) ⟨by rw[Ad,Gs]; omega,out.toList,e,L9 t,by simpa using j⟩,rfl,q _ c (I.hok.fresh (Qc _)) i p⟩
end
end Nd
namespace DL
open PySem PySem.Spec PyProof.Rows L2 Nd
def mC:DC:=λb P=>match b with
 | [.dat _ (.tuple ds)]=>∃a:List Int,ds=a.map Az/\a.length<64/\P (.dat .ow (.list ((gE a).map Az)))
 | _=>False
theorem C2{K:PySem.W.Frag}:We K (pT K) mC:=by
 intro s X n S T r p H Q P i b c k
 unfold mC at c
 split at c
 ·rename_i e
  obtain ⟨v,F,rfl,b⟩:=Js i b e
  obtain ⟨m,rfl,j,g⟩:=c
  obtain ⟨a,t,rfl,h,o,_⟩:=(b.told mem_mid).tup_inv
  obtain ⟨rfl,_⟩:=o.ints_inv
  refine ⟨a,m,rfl,h,j,λq p l f d=>?_⟩
  rw[pV f d]
  exact k _ _ _ _ (b.drop.newI (RdFs.ints _) (Ov _) (by rw[Ad,o6]; exact sz (by omega)) l .ow) g
 ·exact c.elim
def IU(t u:DB)(D:DEnds)(b:Bool)(a:DS):Prop:=match b with
 | true=>t D a
 | false=>u D a
def JQ(x:DV)(a:DS)(P:DV->DS->Prop):Prop:=match x with
 | .dat _ d=>imm d=true/\P (.dat .ow d) a
 | _=>False
def QM(i:Nat)(s:Option DV)(a:DS)(P:DV->DS->Prop):Prop:=match s with
 | some (.dat .pk _)=>False
 | some (.dat _ d)=>P (.dat .sh d) ⟨a.sl.set i (.dat .sh d),a.n⟩
 | _=>False
def tupB(xs:List DV)(b:DS)(P:DV->DS->Prop):Prop:=match datas xs with
 | some a=>a.length<=1000/\P (.dat (pkMd .sh xs) (.tuple a)) b
 | none=>False
def lstB(xs:List DV)(b:DS)(P:DV->DS->Prop):Prop:=match datas xs with
 | some a=>a.length<=1000/\P (.dat (pkMd .tp xs) (.list a)) b
 | none=>False
def EH(x:DV)(a:DS)(P:Option Int->DS->Prop):Prop:=match x with
 | .dat _ (.int i)=>P (some i) a
 | _=>False
def QJ(i:Bool)(x:DV)(l h:Option Int)(a:DS)(P:DV->DS->Prop):Prop:=match x with
 | .dat m (.list ds)=>Wa i m (Np ds l h) λz=>P z a
 | .dat m (.tuple ds)=>mR i m (Np ds l h) λz=>P z a
 | _=>False
def RG(xs:List DV)(b:DS)(P:DV->DS->Prop):Prop:=match xs with
 | [.dat _ (.list ds)]=>∃a:List Int,ds=a.map Az/\(∀x∈a,0<=x/\x<60)/\P (.dat .ow (.list ((Mv a).map Az))) b
 | [.dat _ (.tuple ds)]=>∃a:List Int,ds=a.map Az/\(∀x∈a,0<=x/\x<60)/\P (.dat .ow (.list ((Mv a).map Az))) b
 | _=>False
def bB(x:DV)(a:DS)(P:Bool->DS->Prop):Prop:=match x with
 | .dat _ (.bool b)=>P b a
 | _=>False
def CN(c:DT)(b:Bool)(a:DS)(P:Bool->DS->Prop):Prop:=match b with
 | true=>c a P
 | false=>P false a
def QA(c:DT)(b:Bool)(a:DS)(P:Bool->DS->Prop):Prop:=match b with
 | true=>P true a
 | false=>c a P
def MR(b:DE)(x:DV)(a:DS)(P:DV->DS->Prop):Prop:=match x with
 | .dat _ (.bool true)=>b a P
 | .dat _ (.bool false)=>P (.dat .ow (.bool false)) a
 | _=>False
def QE(d c:DE)(b:Bool)(a:DS)(P:DV->DS->Prop):Prop:=match b with
 | true=>d a P
 | false=>c a P
def LF(x:DV)(a:DS)(P:DV->DS->Prop):Prop:=match x with
 | .dat _ (.int i)=>P (.dat .ow (.int (-i))) a
 | _=>False
def lB(x:DV)(a:DS)(P:Md->List Af->DS->Prop):Prop:=match x with
 | .dat m (.list ds)=>P (Kk m) ds a
 | _=>False
def QB(x:DV)(a:DS)(P:Md->List Af->DS->Prop):Prop:=match x with
 | .dat m (.tuple ds)=>P (Kk m) ds a
 | _=>False
def EJ(xs:List DV)(a:DS)(P:Md->List Af->DS->Prop):Prop:=match xs with
 | [.dat _ (.int j)]=>-1000000<=j/\j<=1000000/\P .sh ((Bw j.toNat).map λi:Nat=>.int i) a
 | _=>False
def EN(xs:List DV)(a:DS)(P:Md->List Af->DS->Prop):Prop:=match xs with
 | [.dat m (.list ds)]=>P (Kk m) (ds.zipIdx.map λp=>.tuple [.int p.2,p.1]) a
 | _=>False
def OX(xs:List DV)(a:DS)(P:Md->List Af->DS->Prop):Prop:=match xs with
 | [.dat m (.tuple ds)]=>P (Kk m) (ds.zipIdx.map λp=>.tuple [.int p.2,p.1]) a
 | _=>False
def JM(xs:List DV)(a:DS)(P:Md->List Af->DS->Prop):Prop:=match xs with
 | [.dat m (.list ds),.dat m' (.list es)]=>P (mdZip m m') ((ds.zip es).map λp=>.tuple [p.1,p.2]) a
 | _=>False
def JA(f:DG)(e:DB)(D:DEnds)(m:Md)(ds:List Af)(b:DS):Prop:=m=.sh/\∃I:Nat->DS->Prop,I 0 b /\
 (∀i d a,ds[i]? = some d->I i a->f (.dat .sh d) a λc=>e { D with nx:=I (i+1),ct:=I (i+1),bk:=D.nx } c)/\∀a,I ds.length a->D.nx a
def S7(g:List Nat)(dc:DT)(f:DE)(P:DV->DS->Prop)(m:Md)(ds:List Af)(b:DS):Prop:=∃I:Nat->List Af->Nat->Prop,I 0 [] b.n /\
 (∀i d a n,ds[i]? = some d->I i a n->Qt dc f ⟨.dat m d::frD b.sl g,n⟩ (λe c=>I (i+1) (a++[e]) c) (λc=>I (i+1) a c)) /\
 ∀a n,I ds.length a n->P (.dat .ow (.list a)) ⟨b.sl,n⟩
def M8(j:List Nat)(dc:DT)(h:DE)(P:DV->DS->Prop)(m:Md)(ds:List Af)(b:DS):Prop:=∃I:Nat->List Af->Nat->Prop,I 0 [] b.n /\
 (∀i d a n,ds[i]? = some d->I i a n->∃g f,d=.tuple [g,f]/\Qt dc h ⟨.dat m g::.dat m f::frD b.sl j,n⟩ (λe c=>I (i+1) (a++[e]) c) (λc=>I (i+1) a c)) /\
 ∀a n,I ds.length a n->P (.dat .ow (.list a)) ⟨b.sl,n⟩
def vV(g:List Nat)(dc:DT)(f:DE)(P:DV->DS->Prop)(m:Md)(ds:List Af)(b:DS):Prop:=∃I:Nat->List Af->Nat->Prop,I 0 [] b.n /\
 (∀i d a n,ds[i]? = some d->I i a n->He false dc f ⟨.dat m d::frD b.sl g,n⟩ (λe c=>I (i+1) (a++[e]) c) (λc=>I (i+1) a c)) /\
 ∀a n,I ds.length a n->P (.dat .tp (.list a)) ⟨b.sl,n⟩
def lP(j:List Nat)(dc:DT)(h:DE)(P:DV->DS->Prop)(m:Md)(ds:List Af)(b:DS):Prop:=∃I:Nat->List Af->Nat->Prop,I 0 [] b.n /\
 (∀i d a n,ds[i]? = some d->I i a n->∃g f,d=.tuple [g,f]/\He false dc h ⟨.dat m g::.dat m f::frD b.sl j,n⟩ (λe c=>I (i+1) (a++[e]) c) (λc=>I (i+1) a c)) /\
 ∀a n,I ds.length a n->P (.dat .tp (.list a)) ⟨b.sl,n⟩
def Y5(a:Af->Nat->Prop)(y:DV)(b:DS):Prop:=match y with
 | .dat _ e=>imm e=true/\a e b.n
 | _=>False
def G5(e:DE)(a:Af->Nat->Prop)(f:Nat->Prop)(b:Bool)(d:DS):Prop:=match b with
 | true=>e d λy c=>Y5 a y c
 | false=>f d.n
def xQ(a:Af->Nat->Prop)(y:DV)(b:DS):Prop:=match y with
 | .dat m e=>m≠.pk/\a e b.n
 | _=>False
def B0(e:DE)(a:Af->Nat->Prop)(f:Nat->Prop)(b:Bool)(d:DS):Prop:=match b with
 | true=>e d λy c=>xQ a y c
 | false=>f d.n
def callB(b:PF)(xs:List DV)(c:DS)(P:DV->DS->Prop):Prop:=match datas xs with
 | some a=>b a λd=>P (.dat .ow d) c
 | none=>False
def callBW(i:Nat)(b:DF)(xs:List DV)(a:DS)(P:DV->DS->Prop):Prop:=match a.sl[i]? with
 | some .drw=>match datas xs with
  | some e=>b e a.n λd c=>P (.dat .ow d) ⟨a.sl,c⟩
  | none=>False
 | _=>False
def S8(xs:List DV)(a:DS)(P:DV->DS->Prop):Prop:=match xs with
 | [.dat _ (.int _)]=>P .drw a
 | _=>False
def appB(i:Nat)(y:DV)(a:DS)(D:DEnds):Prop:=match a.sl[i]?,y with
 | some (.dat m (.list ds)),.dat _ e=>own1 m=true/\npk a.sl=true/\imm e=true/\ds.length<1000000/\D.nx ⟨a.sl.set i (.dat m (.list (ds++[e]))),a.n⟩
 | _,_=>False
def callAB(b:PF)(xs:List DV)(c:DS)(P:DV->DS->Prop):Prop:=match datas xs with
 | some a=>b a λd=>P (.dat .sh d) c
 | none=>False
def JB(xs:List DV)(b:DS)(P:DV->DS->Prop):Prop:=match xs with
 | [.dat _ (.tuple ds)]=>∃a:List Int,ds=a.map Az/\(∀x∈a,0<=x/\x<60)/\P (.dat .ow (.list ((Mv a).map Az))) b
 | _=>False
def callWSD(b:DF)(ys:List DV)(a:DS)(P:DV->DS->Prop):Prop:=match datas ys with
 | some e=>b e a.n λd c=>P (.dat .sh d) ⟨a.sl,c⟩
 | none=>False
def RC(x:DV)(b:DS)(P:Md->List Af->DS->Prop):Prop:=match x with
 | .dat m (.dict X)=>∃a,X=Qs a/\a.length<=1000000/\P (Kk m) (a.map λp=>Bf p.1) b
 | _=>False
def EF(xs:List DV)(b:DS)(P:Md->List Af->DS->Prop):Prop:=match xs with
 | [.dat m (.dict X),.dat m' (.list es)]=>∃a,X=Qs a/\P (mdZip m m') ((a.zip es).map λp=>.tuple [Bf p.1.1,p.2]) b
 | _=>False
def PU(f h:DE)(b:List Int->Af->Nat->Prop)(g:Nat->Prop)(c:Bool)(e:DS):Prop:=match c with
 | true=>f e λy d=>h d λz a=>qY b y z a
 | false=>g e.n
def xS(j:List Nat)(dc:DT)(h k:DE)(P:DV->DS->Prop)(m:Md)(ds:List Af)(b:DS):Prop:=ds.length<=1000000/\∃I:Nat->List (List Int×Af)->Nat->Prop,I 0 [] b.n /\
 (∀i d a n,ds[i]? = some d->I i a n->∃g f,d=.tuple [g,f]/\oU dc h k ⟨.dat m g::.dat m f::frD b.sl j,n⟩ (λw e c=>I (i+1) (Ta a w e) c) (λc=>I (i+1) a c)) /\
 ∀a n,I ds.length a n->P (.dat .ow (.dict (Qs a))) ⟨b.sl,n⟩
theorem e_seq:JK t u D b=(t { D with nx:=λa=>u D a } b):=rfl
theorem e_skip:DN D a=(D.nx a):=rfl
theorem e_ret:LR a D b=(a b D.rt):=rfl
theorem e_if:PP dt t u D a=(dt a (IU t u D)):=rfl
theorem e_asg:w8 b d D c=(b c λx a=>d x a D.nx):=rfl
theorem e_name{m:Md}:Uk i (.dat .ow d) a Q=(Q ⟨a.sl.set i (.dat .sh d),a.n⟩):=rfl
theorem e_name2{m:Md}:Uk i (.dat .sh d) a Q=(Q ⟨a.sl.set i (.dat .sh d),a.n⟩):=rfl
theorem e_name3{m:Md}:Uk i (.dat .tp d) a Q=(Q ⟨a.sl.set i (.dat .sh d),a.n⟩):=rfl
theorem e_own:qK i (.dat .ow d) a Q=(Q ⟨a.sl.set i (.dat .ow d),a.n⟩):=rfl
theorem e_nF:NX false i x a Q=(Uk i x a Q):=rfl
theorem e_gtup:T9 n a (.dat m (.tuple ds)) b Q=(ds.length=n/\a (ds.map λd=>.dat (Pe m) d) b Q):=rfl
theorem e_gsn:J5 [] a Q=(Q a):=rfl
theorem e_gsc:xM g b (x::r) c Q=(g x c λa=>b r a Q):=rfl
theorem e_op:dI rd d c e P=(d e λx a=>c a λy b=>rd x y λz=>P z b):=rfl
theorem e_var:GH i a P=(match a.sl[i]? with | some (.dat m d)=>P (.dat (pZ m) d) a | _=>False):=rfl
theorem e_c:dC d a P=(P (.dat .ow d) a):=rfl
theorem e_imm:MO b c P=(b c λx a=>JQ x a P):=rfl
theorem e_immB:JQ (.dat m d) a P=(imm d=true/\P (.dat .ow d) a):=rfl
theorem e_take:C0 i a P=(match a.sl[i]? with | some (.dat m d)=>P (.dat m d) ⟨a.sl.set i .un,a.n⟩ | _=>False):=rfl
theorem e_I:IQ C g (.dat m (.int i)) (.dat a (.int j)) P=(C i j/\P (.dat .ow (g i j))):=rfl
theorem e_I0:j6 g (.dat m (.int i)) (.dat a (.int j)) P=(P (.dat .ow (g i j))):=rfl
theorem e_eqF:nK false (.dat m d) (.dat a e) P=(d.depth<=60/\e.depth<=60/\P (.dat .ow (.bool (Eg d e)))):=rfl
theorem e_eqT:nK true (.dat m d) (.dat a e) P=(d.depth<=60/\e.depth<=60/\P (.dat .ow (.bool (!Eg d e)))):=rfl
theorem e_inFt_w1{es:List Af}:vF false (.dat m d) (.dat b (Bf a)) P=(Bu (a.map Az)<=60/\d.depth<=60/\P (.dat .ow (.bool ((a.map Az).any λe=>Eg e d)))):=rfl
theorem e_inTt_w1{es:List Af}:vF true (.dat m d) (.dat b (Bf a)) P=(Bu (a.map Az)<=60/\d.depth<=60/\P (.dat .ow (.bool (!((a.map Az).any λe=>Eg e d))))):=rfl
theorem e_ixl:T6 (.dat m (.list ds)) (.dat a (.int i)) P=(∃d,aR ds i=some d/\P (.dat (Pe m) d)):=rfl
theorem e_ixt:T6 (.dat m (.tuple ds)) (.dat a (.int i)) P=(∃d,aR ds i=some d/\P (.dat (Pe m) d)):=rfl
theorem e_cat:yC (.dat m (.list ds)) (.dat a (.list es)) P=(Ei ds=true/\Ei es=true/\ds.length+es.length<=1000000/\P (.dat .ow (.list (ds++es)))):=rfl
theorem e_catT_w1{ds es:List Af}:nY (.dat m (Bf a)) (.dat b (.tuple es)) P=(Ei (a.map Az)=true/\Ei es=true/\(a.map Az).length+es.length<=1000000/\P (.dat .ow (.tuple ((a.map Az)++es)))):=rfl
theorem e_rep:xH (.dat m (.list ds)) (.dat a (.int k)) P=(Ei ds=true /\ -1000000<=k/\k<=1000000/\ds.length * k.toNat<=1000000/\P (.dat .ow (.list (Cc k.toNat ds).flatten))):=rfl
theorem e_nlT:Wa true m ds P=(Ei ds=true/\P (.dat .ow (.list ds))):=rfl
theorem e_nlF:Wa false m ds P=(P (.dat (Zz m) (.list ds))):=rfl
theorem e_ntT:mR true m ds P=(Ei ds=true/\P (.dat .ow (.tuple ds))):=rfl
theorem e_pkOfsh  : pZ .sh=(Md.sh):=rfl
theorem e_pkOfow  : pZ .ow=(Md.pk):=rfl
theorem e_mdInpk  : Pe .pk=(Md.pk):=rfl
theorem e_mdInsh  : Pe .sh=(Md.sh):=rfl
theorem e_mdIntp  : Pe .tp=(Md.sh):=rfl
theorem e_mdNewsh  : Zz .sh=(Md.tp):=rfl
theorem e_mdItsh  : Kk .sh=(Md.sh):=rfl
theorem e_mdIttp  : Kk .tp=(Md.sh):=rfl
theorem e_mdItow  : Kk .ow=(Md.sh):=rfl
theorem e_nil:FF a P=(P [] a):=rfl
theorem e_cons:CP d c e P=(d e λx a=>c a λxs b=>P (x::xs) b):=rfl
theorem e_tup:KU c b P=(c b λxs a=>tupB xs a P):=rfl
theorem e_lst:KJ c b P=(c b λxs a=>lstB xs a P):=rfl
theorem e_noPart:wV a P=(P none a):=rfl
theorem e_part:DD b c P=(b c λx a=>EH x a P):=rfl
theorem e_partB:EH (.dat m (.int i)) a P=(P (some i) a):=rfl
theorem e_sl{dl d:DO}:PY i e dl d f P=(e f λx a=>dl a λl b=>d b λh c=>QJ i x l h c P):=rfl
theorem e_slBl:QJ i (.dat m (.list ds)) l h a P=(Wa i m (Np ds l h) λz=>P z a):=rfl
theorem e_cb:NI rd c b P=(c b λxs a=>rd xs λz=>P z a):=rfl
theorem e_lenl{m a:Md}:yI [.dat m (.list ds)] P=(P (.dat .ow (.int ds.length))):=rfl
theorem e_lent_w1{ds:List Af}{m b:Md}:yI [.dat m (Bf a)] P=(P (.dat .ow (.int (a.map Az).length))):=rfl
theorem e_tuplel{m a:Md}:oO i [.dat m (.list ds)] P=(mR i m ds P):=rfl
theorem e_intb{m a:Md}:T3 [.dat m (.bool i)] P=(P (.dat .ow (.int (if i=true then 1 else 0)))):=rfl
theorem e_MaxL{m a:Md}:tY [.dat m (.list ds)] P=(∃ns:List Int,ds=ns.map Az/\ns≠[]/\∀M∈ns,(∀x∈ns,x<=M)->P (.dat .ow (.int M))):=rfl
theorem e_sortT{m a:Md}:mC [.dat m (.tuple ds)] P=(∃ns:List Int,ds=ns.map Az/\ns.length<64/\P (.dat .ow (.list ((gE ns).map Az)))):=rfl
theorem e_str{m a:Md}:M3 [.dat m d] P=((∃b,b<=400/\Nc b d/\(b+12) * Kv d<=Au)/\d.depth<=90/\P (.dat .ow (.str (fI d)))):=rfl
theorem e_b:dB b c P=(b c λx a=>bB x a P):=rfl
theorem e_bB:bB (.dat m (.bool b)) a P=(P b a):=rfl
theorem e_notT:DY dt c P=(dt c λb a=>P (!b) a):=rfl
theorem e_andT:CO dt d c P=(dt c λb a=>CN d b a P):=rfl
theorem e_orT:JL dt d c P=(dt c λb a=>QA d b a P):=rfl
theorem e_orTf:QA b false a P=(b a P):=rfl
theorem e_and:MH d c b P=(d b λx a=>MR c x a P):=rfl
theorem e_andt:MR b (.dat m (.bool true)) a P=(b a P):=rfl
theorem e_ifE:LC dt e d c P=(dt c λb a=>QE e d b a P):=rfl
theorem e_neg:MS b c P=(b c λx a=>LF x a P):=rfl
theorem e_negB:LF (.dat m (.int i)) a P=(P (.dat .ow (.int (-i))) a):=rfl
theorem e_dL:dL b c P=(b c λx a=>lB x a P):=rfl
theorem e_dTp:QH b c P=(b c λx a=>QB x a P):=rfl
theorem e_lB:lB (.dat m (.list ds)) a P=(P (Kk m) ds a):=rfl
theorem e_tpB_w1{ds:List Af}:QB (.dat m (Bf a)) b P=(P (Kk m) (a.map Az) b):=rfl
theorem e_range1:pL c b P=(c b λxs a=>EJ xs a P):=rfl
theorem e_rng1B:EJ [.dat m (.int j)] a P=(-1000000<=j/\j<=1000000/\P .sh ((Bw j.toNat).map λi:Nat=>.int i) a):=rfl
theorem e_enum:T5 c b P=(c b λxs a=>EN xs a P):=rfl
theorem e_enumB:EN [.dat m (.list ds)] a P=(P (Kk m) (ds.zipIdx.map λp=>.tuple [.int p.2,p.1]) a):=rfl
theorem e_zip:EO c b P=(c b λxs a=>JM xs a P):=rfl
theorem e_zipB:JM [.dat m (.list ds),.dat b (.list es)] a P=(P (mdZip m b) ((ds.zip es).map λp=>.tuple [p.1,p.2]) a):=rfl
theorem e_for:KW d c b D a=(d a (JA c b D)):=rfl
theorem e_comp:E7 d c dc a b P=(d b (S7 c dc a P)):=rfl
theorem e_comp2:B8 d c dc a b P=(d b (M8 c dc a P)):=rfl
theorem e_compL:U7 d c dc a b P=(d b (vV c dc a P)):=rfl
theorem e_comp2L:wR d c dc a b P=(d b (lP c dc a P)):=rfl
theorem e_stepL:He false dc d f a e=(dc f λb c=>B0 d a e b c):=rfl
theorem e_stepLT:B0 c a e true d=(c d λy b=>xQ a y b):=rfl
theorem e_glst:O7 n a (.dat m (.list ds)) b Q=(ds.length=n/\a (ds.map λd=>.dat (Pe m) d) b Q):=rfl
theorem e_noTest:Oq a P=(P true a):=rfl
theorem e_step:Qt dc d f a e=(dc f λb c=>G5 d a e b c):=rfl
theorem e_stepT:G5 c a e true d=(c d λy b=>Y5 a y b):=rfl
theorem e_yesB:Y5 a (.dat m e) b=(imm e=true/\a e b.n):=rfl
theorem e_call:O0 b d c P=(d c λxs a=>callB b xs a P):=rfl
theorem e_callW:uV i c d b P=(match b.sl[i]? with | some .drw=>d b λxs a=>callBW i c xs a P | _=>False):=rfl
theorem e_draws:A7 c b P=(c b λxs a=>S8 xs a P):=rfl
theorem e_drawsB:S8 [.dat m (.int i)] a P=(P .drw a):=rfl
theorem e_append:mL i c D b=(match b.sl[i]? with | some (.dat _ (.list _))=>c b λy a=>appB i y a D | _=>False):=rfl
theorem e_stepK:N6 i d c e P=(d e λx a=>c a λz b=>mH i x z b P):=rfl
theorem e_stepKB:mH i (.dat m (.list ds)) (.dat b (.int k)) a P=((k=1\/k = -1)/\Wa i m (if k=1 then ds else ds.reverse) λz=>P z a):=rfl
theorem e_scrSl{dl d:DO}:uS i dl d a P=(match a.sl[i]? with | some (.scr ns)=>dl a λl b=>d b λh c=>P (.dat .ow (.list ((Np ns l h).map Az))) c | _=>False):=rfl
theorem e_sortW:lY [.dat m (.list ds)] P=(∃a:List (List Int),ds=a.map Bf/\∀L:List (List Int),L.Perm a->L.Pairwise (λx y=>HT.lexLt y x=false)->P (.dat .ow (.list (L.map Bf)))):=rfl
theorem e_dput:DX i c d D e=(d e λy a=>isDct a.sl[i]? = true/\c a λz b=>dputB i y z b D):=rfl
theorem e_zipD:N7 c b P=(c b λxs a=>EF xs a P):=rfl
theorem e_zipDB:EF [.dat m (.dict X),.dat b (.list es)] a P=(∃ks,X=Qs ks/\P (mdZip m b) ((ks.zip es).map λp=>.tuple [Bf p.1.1,p.2]) a):=rfl
theorem e_dcomp2:lK b c dc a d e P=(b e (xS c dc a d P)):=rfl
theorem e_dcStep:oU dc d f g a e=(dc g λc b=>PU d f a e c b):=rfl
theorem e_dcBT:PU d e a g true f=(d f λy c=>e c λz b=>qY a y z b):=rfl
theorem e_dcYes:qY a (.dat m k) (.dat c e) b=(∃w,k=Bf w/\imm e=true/\a w e b.n):=rfl
theorem e_augX:DR i c d D b=(isLst b.sl[i]? = true/\c b λz a=>augIK i d z a D):=rfl
theorem e_dictZ:uF c b P=(c b λxs a=>mY xs a P):=rfl
theorem e_dictZB:mY [.dat m (.list ds),.dat c (.list es)] a P=(ds.length<=1000000/\Ei es=true/\∃b:List (List Int),ds=b.map Bf/\P (.dat .ow (.dict (Qs (Uv [] (b.zip es))))) a):=rfl
theorem e_minV:E5 b c P=(b c λx a=>xJ x a P):=rfl
theorem e_compP:vO b e g a d f P=(e f λm ds c=>JP b g a d P m ds c):=rfl
theorem e_callA:C7 b d c P=(d c λxs a=>noPk xs=true/\callAB b xs a P):=rfl
theorem e_ssT:JI c b P=(c b λxs a=>JB xs a P):=rfl
theorem e_ssTt:JB [.dat m (.tuple ds)] a P=(∃ns:List Int,ds=ns.map Az/\(∀x∈ns,0<=x/\x<60)/\P (.dat .ow (.list ((Mv ns).map Az))) a):=rfl
theorem e_tr:PZ c b P=(c b λx a=>NF x a P):=rfl
theorem e_trB:NF (.dat m (.int j)) a P=(0<=j/\j<=1000/\P (.dat .ow (Bf (Ji j.toNat))) a):=rfl
theorem e_callWS:xA b d c P=(d c λxs a=>oH b xs a P):=rfl
theorem e_callWSB:oH a (.drw::ys) b P=(noPk ys=true/\callWSD a ys b P):=rfl
section
variable{t u:DB}{D:DEnds}{c b:DS}
theorem bC{n:Type}{l:List n}{g:n->Af}(e:ds=l.map g)(I:Nat->DS->Prop)(h0:I 0 b)(o:∀i a c,l[i]? = some a->I i c->m (.dat .sh (g a)) c λj=>k { D with nx:=I (i+1),ct:=I (i+1),bk:=D.nx } j)(p:∀c,I l.length c->D.nx c):JA m k D .sh ds b:=by
 subst e
 refine ⟨rfl,I,h0,λi d c f r=>?_,λc h=>p c (by rw[Ad] at h; exact h)⟩
 rw[Bg] at f
 cases q:l[i]? with
 | none=>rw[q] at f; cases f
 | some a=>rw[q] at f; cases f; exact o i a c q r
end
section
variable{k:List Nat}{dc:DT}{j:DE}{P:DV->DS->Prop}{m:Md}{ds:List Af}{b:DS}{c:Type}
theorem gV{l:List c}(e:ds=l.map g)(p:c->Bool)(f:c->Af)(h:∀a∈l,∀(r:Af->Nat->Prop) (w:Nat->Prop),(p a=true->r (f a) b.n)->(p a=false->w b.n)->Qt dc j ⟨.dat m (g a)::frD b.sl k,b.n⟩ r w)(q:P (.dat .ow (.list ((l.filter p).map f))) b):S7 k dc j P m ds b:=by
 subst e
 refine ⟨λi o n=>n=b.n/\o=((l.take i).filter p).map f,⟨rfl,by simp⟩,λi d o n s ⟨u,t⟩=>?_,λo n ⟨u,t⟩=>?_⟩
 ·subst u t
  rw[Bg] at s
  cases q:l[i]? with
  | none=>rw[q] at s; cases s
  | some a =>
   rw[q] at s
   cases s
   refine h a (Bj q) _ _ (λv=>⟨rfl,?_⟩) (λv=>⟨rfl,?_⟩)
   ·rw[Ft q,Hl,Bp]; simp [v]
   ·rw[Ft q,Hl,Bp]; simp [v]
 ·subst u t
  rw[Ad,Ek]
  exact q
theorem qZ{l:List c}(e:ds=l.map g)(f:c->Af)(h:∀a∈l,∀(d:Af->Nat->Prop) (i:Nat->Prop),d (f a) b.n->Qt dc j ⟨.dat m (g a)::frD b.sl k,b.n⟩ d i)(q:P (.dat .ow (.list (l.map f))) b):S7 k dc j P m ds b:=by
 refine gV e (λ_=>true) f (λa p d i o _=>h a p d i (o rfl)) ?_
 rw[Mp.mpr λ_ _=>rfl]
 exact q
theorem HE{l:List c}{g1 g2:c->Af}(e:ds=l.map λa=>.tuple [g1 a,g2 a])(p:c->Bool)(f:c->Af)(h:∀a∈l,∀(o:Af->Nat->Prop) (v:Nat->Prop),(p a=true->o (f a) b.n)->(p a=false->v b.n)->Qt dc j ⟨.dat m (g1 a)::.dat m (g2 a)::frD b.sl k,b.n⟩ o v)(q:P (.dat .ow (.list ((l.filter p).map f))) b):M8 k dc j P m ds b:=by
 subst e
 refine ⟨λi g n=>n=b.n/\g=((l.take i).filter p).map f,⟨rfl,by simp⟩,λi d g n r ⟨t,s⟩=>?_,λg n ⟨t,s⟩=>?_⟩
 ·subst t s
  rw[Bg] at r
  cases q:l[i]? with
  | none=>rw[q] at r; cases r
  | some a =>
   rw[q] at r
   cases r
   refine ⟨_,_,rfl,h a (Bj q) _ _ (λu=>⟨rfl,?_⟩) (λu=>⟨rfl,?_⟩)⟩
   ·rw[Ft q,Hl,Bp]; simp [u]
   ·rw[Ft q,Hl,Bp]; simp [u]
 ·subst t s
  rw[Ad,Ek]
  exact q
theorem IH{l:List c}(e:ds=l.map g)(p:c->Bool)(f:c->Af)(h:∀a∈l,∀(r:Af->Nat->Prop) (w:Nat->Prop),(p a=true->r (f a) b.n)->(p a=false->w b.n)->He false dc j ⟨.dat m (g a)::frD b.sl k,b.n⟩ r w)(q:P (.dat .tp (.list ((l.filter p).map f))) b):vV k dc j P m ds b:=by
 subst e
 refine ⟨λi o n=>n=b.n/\o=((l.take i).filter p).map f,⟨rfl,by simp⟩,λi d o n s ⟨u,t⟩=>?_,λo n ⟨u,t⟩=>?_⟩
 ·subst u t
  rw[Bg] at s
  cases q:l[i]? with
  | none=>rw[q] at s; cases s
  | some a =>
   rw[q] at s
   cases s
   refine h a (Bj q) _ _ (λv=>⟨rfl,?_⟩) (λv=>⟨rfl,?_⟩)
   ·rw[Ft q,Hl,Bp]; simp [v]
   ·rw[Ft q,Hl,Bp]; simp [v]
 ·subst u t
  rw[Ad,Ek]
  exact q
theorem BD{l:List c}{g1 g2:c->Af}(e:ds=l.map λa=>.tuple [g1 a,g2 a])(p:c->Bool)(f:c->Af)(h:∀a∈l,∀(o:Af->Nat->Prop) (v:Nat->Prop),(p a=true->o (f a) b.n)->(p a=false->v b.n)->He false dc j ⟨.dat m (g1 a)::.dat m (g2 a)::frD b.sl k,b.n⟩ o v)(q:P (.dat .tp (.list ((l.filter p).map f))) b):lP k dc j P m ds b:=by
 subst e
 refine ⟨λi g n=>n=b.n/\g=((l.take i).filter p).map f,⟨rfl,by simp⟩,λi d g n r ⟨t,s⟩=>?_,λg n ⟨t,s⟩=>?_⟩
 ·subst t s
  rw[Bg] at r
  cases q:l[i]? with
  | none=>rw[q] at r; cases r
  | some a =>
   rw[q] at r
   cases r
   refine ⟨_,_,rfl,h a (Bj q) _ _ (λu=>⟨rfl,?_⟩) (λu=>⟨rfl,?_⟩)⟩
   ·rw[Ft q,Hl,Bp]; simp [u]
   ·rw[Ft q,Hl,Bp]; simp [u]
 ·subst t s
  rw[Ad,Ek]
  exact q
theorem HY{l:List c}(e:ds=l.map g)(f:c->Af)(h:∀a∈l,∀(d:Af->Nat->Prop) (i:Nat->Prop),d (f a) b.n->He false dc j ⟨.dat m (g a)::frD b.sl k,b.n⟩ d i)(q:P (.dat .tp (.list (l.map f))) b):vV k dc j P m ds b:=by
 refine IH e (λ_=>true) f (λa p d i o _=>h a p d i (o rfl)) ?_
 rw[Mp.mpr λ_ _=>rfl]
 exact q
theorem CA{l:List c}{g1 g2:c->Af}(e:ds=l.map λa=>.tuple [g1 a,g2 a])(f:c->Af)(h:∀a∈l,∀(d:Af->Nat->Prop) (g:Nat->Prop),d (f a) b.n->He false dc j ⟨.dat m (g1 a)::.dat m (g2 a)::frD b.sl k,b.n⟩ d g)(q:P (.dat .tp (.list (l.map f))) b):lP k dc j P m ds b:=by
 refine BD e (λ_=>true) f (λa o d g i _=>h a o d g (i rfl)) ?_
 rw[Mp.mpr λ_ _=>rfl]
 exact q
end
theorem qQ(h1:b=true->t D a)(c:b=false->u D a):IU t u D b a:=by
 cases b with
 | true=>exact h1 rfl
 | false=>exact c rfl
theorem LJ(h1:b=true->d a P)(e:b=false->c a P):QE d c b a P:=by
 cases b with
 | true=>exact h1 rfl
 | false=>exact e rfl
theorem uL(h1:b=true->c a P)(d:b=false->P false a):CN c b a P:=by
 cases b with
 | true=>exact h1 rfl
 | false=>exact d rfl
theorem Wr(h1:b=true->e c λy d=>Y5 a y d)(g:b=false->f c.n):G5 e a f b c:=by
 cases b with
 | true=>exact h1 rfl
 | false=>exact g rfl
class Im (d:Af):Prop where
 h:imm d=true
class ImA (ds:List Af):Prop where
 h:Ei ds=true
theorem im[h:Im d]:imm d=true:=h.h
theorem QT[h:ImA ds]:Ei ds=true:=h.h
instance {i:Int}:Im (.int i):=⟨by simp [imm]⟩
instance {i:Bool}:Im (.bool i):=⟨by simp [imm]⟩
instance {i:Str}:Im (.str i):=⟨by simp [imm]⟩
instance:Im .none:=⟨by simp [imm]⟩
instance {ds:List Af} [h:ImA ds]:Im (.tuple ds):=⟨by rw[imm]; exact h.h⟩
instance {ns:List Int}:Im (Bf ns):=⟨I0 ns⟩
instance:ImA []:=⟨by simp [Ei]⟩
instance {d:Af} {ds:List Af} [h:Im d] [t:ImA ds]:ImA (d::ds):=⟨by rw[Ei,h.h,t.h]; rfl⟩
instance {α:Type} {f:α->Af} {l:List α} [h:∀a,Im (f a)]:ImA (l.map f):=⟨Yc (λa=>(h a).h) l⟩
instance {a b:List Af} [h:ImA a] [k:ImA b]:ImA (a++b):=⟨by rw[fU,h.h,k.h]; rfl⟩
class Dp (d:Af) (k:outParam Nat):Prop where
 h:d.depth<=k
class DpA (ds:List Af) (k:outParam Nat):Prop where
 h:Bu ds<=k
theorem dp[h:Dp d k](a:k<=60:=by decide):d.depth<=60:=Ca h.h a
instance {i:Int}:Dp (.int i) 0:=⟨by simp [Ea]⟩
instance {i:Bool}:Dp (.bool i) 0:=⟨by simp [Ea]⟩
instance {i:Str}:Dp (.str i) 0:=⟨by simp [Ea]⟩
instance:Dp .none 0:=⟨by simp [Ea]⟩
instance {ds:List Af} {k:Nat} [h:DpA ds k]:Dp (.tuple ds) (k+1):=⟨by have:=h.h; simp only[Ea]; omega⟩
instance {ds:List Af} {k:Nat} [h:DpA ds k]:Dp (.list ds) (k+1):=⟨by have:=h.h; simp only[Ea]; omega⟩
instance {ns:List Int}:Dp (Bf ns) 1:=⟨vP ns⟩
instance:DpA [] 0:=⟨by simp [Bu]⟩
instance {d:Af} {ds:List Af} {k j:Nat} [h:Dp d k] [t:DpA ds j]:DpA (d::ds) (k+j):=⟨by have:=h.h; have:=t.h; simp only[Bu]; omega⟩
instance {α:Type} {f:α->Af} {l:List α} {k:Nat} [h:∀a,Dp (f a) k]:DpA (l.map f) k:=⟨cK λx hx=>by
 obtain ⟨a,_,rfl⟩:=Cm.mp hx
 exact (h a).h⟩
theorem lZ:Bu (a++b)<=Bu a+Bu b:=by
 induction a with
 | nil=>simp [Bu]
 | cons x a c=>simp only[Fq,Bu]; omega
instance {a b:List Af} {k j:Nat} [h:DpA a k] [t:DpA b j]:DpA (a++b) (k+j):=⟨by have:=h.h; have:=t.h; have:=lZ (a:=a) (b:=b); omega⟩
theorem eqD_bl(i j:Bool):Eg (.bool i) (.bool j)=(i == j):=by simp [Eg]
theorem eqD_str(i j:Str):Eg (.str i) (.str j)=(i == j):=by simp [Eg]
theorem fP(a b:List Af):Eg (.list a) (.list b)=Nn a b:=by simp [Eg]
theorem xU(a b:List Af):Eg (.tuple a) (.tuple b)=Nn a b:=by simp [Eg]
theorem Wm(x y:Af)(a b:List Af):Nn (x::a) (y::b)=(Eg x y && Nn a b):=by simp [Nn]
theorem sJ:Nn [] []=true:=by simp [Nn]
theorem Zi{c:Type}[DecidableEq c]{f:c->Af}(h:∀a b,Eg (f a) (f b)=decide (a=b)):∀l m:List c,Nn (l.map f) (m.map f)=decide (l=m)
 | [],[]=>by simp [Nn]
 | [],_::_=>by simp [Nn]
 | _::_,[]=>by simp [Nn]
 | a::l,b::m=>by simp [Nn,h,Zi h l m]
theorem eqD_intd(i j:Int):Eg (.int i) (.int j)=decide (i=j):=by simp [Eg]; rfl
theorem N5(a b:List Int):Eg (Bf a) (Bf b)=decide (a=b):=by
 unfold Bf
 rw[xU,Zi eqD_intd]
def wordsD(a:List (List Int)):Af:=.list (a.map Bf)
instance {ws:List (List Int)}:Dp (wordsD ws) 2:=⟨(inferInstance:Dp (.list (ws.map Bf)) 2).h⟩
theorem A1(a b:List (List Int)):Eg (wordsD a) (wordsD b)=decide (a=b):=by
 unfold wordsD
 rw[fP,Zi N5]
def xZ(ns:List Int):Af:=.list (ns.map Az)
instance {ns:List Int}:Dp (xZ ns) 1:=⟨(inferInstance:Dp (.list (ns.map Az)) 1).h⟩
theorem P3(a b:List Int):Eg (xZ a) (xZ b)=decide (a=b):=by
 unfold xZ
 rw[fP,Zi eqD_intd]
theorem any_int(ns:List Int)(i:Int):((ns.map Az).any λe=>Eg e (.int i))=decide (i∈ns):=by
 rw[dQ]
 induction ns with
 | nil=>rfl
 | cons n ns a =>
  rw[Po,a]
  simp only[Function.comp,eqD_intd,Al]
  by_cases h:n=i
  ·subst h; simp
  ·have : ¬ i=n:=λz=>h z.symm
   simp [h,this]
theorem Z8{a b:Type}(f:a->b)(l:List a):(l.map f).zipIdx=l.zipIdx.map λp=>(f p.1,p.2):=by
 rw[List.zipIdx_map]
 rfl
theorem dX(f:a->b)(l:List a)(i:Int):aR (l.map f) i=(aR l i).map f:=by
 unfold aR
 rw[Ad]
 cases V0 l.length i with
 | none=>rfl
 | some j=>simp
theorem aC{l:List c}{i:Int}(h0:0<=i)(h1:i<l.length):∃a,l[i.toNat]? = some a/\aR l i=some a/\a∈l:=by
 have b:i.toNat<l.length:=by omega
 refine ⟨l[i.toNat],by simp [b],?_,List.getElem_mem b⟩
 have q:aR l ((i.toNat:Nat):Int)=some l[i.toNat]:=xG (by simp [b])
 rwa [show ((i.toNat:Nat):Int)=i by omega] at q
theorem im_e[h:Im d]:(imm d=true)=True:=eq_true h.h
theorem ima_e[h:ImA ds]:(Ei ds=true)=True:=eq_true h.h
theorem dp_e[h:Dp d k](a:k<=60):(d.depth<=60)=True:=eq_true (Ca h.h a)
theorem dpa_e[h:DpA ds k](a:k<=60):(Bu ds<=60)=True:=eq_true (Ca h.h a)
theorem eqD_lw(a b:List (List Int)):Eg (.list (a.map Bf)) (.list (b.map Bf))=decide (a=b):=A1 a b
theorem eqD_li(a b:List Int):Eg (.list (a.map Az)) (.list (b.map Az))=decide (a=b):=P3 a b
theorem eqD_l0(a:List Af):Eg (.list a) (.list [])=a.isEmpty:=Y6 a
theorem ow_e{R:Af->Prop}:(∃e,DV.dat .ow d=.dat .ow e/\R e)=R d:=by
 apply propext
 constructor
 ·(intro a; obtain ⟨e,h,r⟩ := a); cases h; exact r
 ·intro r; exact ⟨d,rfl,r⟩
theorem tt_e:(∃a,DV.dat m (.bool b)=.dat a (.bool true))=(b=true):=by
 apply propext
 constructor
 ·rintro ⟨e,h⟩; cases h; rfl
 ·intro r; subst r; exact ⟨m,rfl⟩
theorem cdiv_e:FJ i j=(0<j/\j<1073741824):=rfl
theorem Tn(h:b=a)(h':n=n'):(⟨b,n⟩ : DS)=⟨a,n'⟩:=by subst h h'; rfl
theorem Qk(h:(Bw j)[i]? = some a):a=i/\i<j:=by
 obtain ⟨b,c⟩:=Bb.mp h
 rw[Cu] at b
 rw[List.getElem_range] at c
 exact ⟨c.symm,b⟩
def NP(v:DV):Prop:=∀l,npk (v::l)=npk l
theorem Ra:NP .un:=λ_=>rfl
theorem Ie:NP (.dat .sh d):=λ_=>rfl
theorem DZ(X:(Bool->DS->Prop)->Prop)(J:DS->Prop)(h:∀N:DS->Prop,(∀a,J a->N a)->X (IU t u { D with nx:=N }))(k:∀a,J a->D.nx a):X (IU t u D):=h D.nx k
theorem fold_w(w:List Int):Vb (List.map Az w)=Bf w:=rfl
theorem yX{a:List (List Int)}{i:Int}(h0:0<=i)(h1:i<a.length):∃w∈a,aR (a.map Bf) i=some (Bf w):=by
 obtain ⟨w,_,b,c⟩:=aC (l:=a) h0 h1
 exact ⟨w,c,by rw[dX,b]; rfl⟩
theorem KN{ns:List Int}(k:Nat):(Np ns none (some (k:Int))).length<=k:=by
 rw[kG,Dw]
 exact Nat.min_le_left _ _
theorem ifB_lt:IU t u D true a=t D a:=rfl
theorem ifB_lf:IU t u D false a=u D a:=rfl
theorem str_self(s:Str):(s == s)=true:=by simp
theorem Q0{l:List c}{i:Nat}{a:c}(h:l[i]? = some a):aR l (i:Int)=some a:=by
 obtain ⟨b,e,d,_⟩:=aC (l:=l) (i:=(i:Int)) (by omega) (by have:=(Bb.mp h).1; omega)
 rw[d,<- e,<- h]; rfl
theorem yesL_ow:xQ a (.dat .ow e) b=a e b.n:=propext ⟨λh=>h.2,λh=>⟨by decide,h⟩⟩
theorem yesL_sh:xQ a (.dat .sh e) b=a e b.n:=propext ⟨λh=>h.2,λh=>⟨by decide,h⟩⟩
theorem J3(h1:m≠.pk)(b:a≠.pk):bW (.dat m (.list ds)) (.dat a (.list es)) P=(ds.length+es.length<=1000000/\P (.dat .tp (.list (ds++es)))):=propext ⟨λh=>h.2.2,λh=>⟨h1,b,h⟩⟩
theorem catL_owtp:bW (.dat .ow (.list ds)) (.dat .tp (.list es)) P=(ds.length+es.length<=1000000/\P (.dat .tp (.list (ds++es)))):=J3 (by decide) (by decide)
theorem catL_shtp:bW (.dat .sh (.list ds)) (.dat .tp (.list es)) P=(ds.length+es.length<=1000000/\P (.dat .tp (.list (ds++es)))):=J3 (by decide) (by decide)
theorem atI_0(x:a)(l:List a):aR (x::l) 0=some x:=Q0 (i:=0) rfl
theorem atI_1(x y:a)(l:List a):aR (x::y::l) 1=some y:=Q0 (i:=1) rfl
theorem atI_2(x y z:a)(l:List a):aR (x::y::z::l) 2=some z:=Q0 (i:=2) rfl
theorem some_e{b:Type}{a:b}{R:b->Prop}:(∃d,some a=some d/\R d)=R a:=propext ⟨λ⟨_,e,h⟩=>by cases e; exact h,λh=>⟨a,rfl,h⟩⟩
theorem dk_e{Q:List (List Int×Af)->List Int->Prop}:(∃ks' a,Qs ks=Qs ks'/\Bf w=Bf a/\Q ks' a)=Q ks w:=propext ⟨λ⟨ks',a,c,b,h⟩=>by cases Lr c; cases Zp b; exact h,λh=>⟨ks,w,rfl,rfl,h⟩⟩
theorem dget_e:nV (.dat m (.dict (Qs ks))) (.dat e (Bf w)) P=∃d,dD ks w=some d/\P (.dat .ow d):=propext ⟨λ⟨c,f,d,b,a,h⟩=>by cases Lr b; cases Zp a; exact ⟨d,h⟩,λ⟨d,h⟩=>⟨ks,w,d,rfl,rfl,h⟩⟩
theorem minV_e:xJ (.dat m (.dict (Qs ks))) b P=(ks≠[]/\∃f:List Int,ks.map (·.2)=f.map Az/\∀M∈f,(∀z∈f,M<=z)->P (.dat .ow (.int M)) b):=propext ⟨λ⟨d,f,c,h⟩=>by cases Lr c; exact ⟨h.1,f,h.2⟩,λ⟨a,f,h⟩=>⟨ks,f,rfl,a,h⟩⟩
theorem lenD_e:tT [.dat m (.dict (Qs ks))] P=P (.dat .ow (.int ks.length)):=propext ⟨λ⟨b,a,h⟩=>by cases Lr a; exact h,λh=>⟨ks,rfl,h⟩⟩
theorem wd_e{R:List Int->Prop}:(∃w,Bf k=Bf w/\R w)=R k:=by
 apply propext
 constructor
 ·(intro a; obtain ⟨w,h,r⟩ := a); rw[Zp h]; exact r
 ·intro r; exact ⟨k,rfl,r⟩
theorem Z5{y:List Nat}{dc:DT}{w A:DE}{P:DV->DS->Prop}{p:Type}{l:List p}{g1 g2:p->Af}(e:ds=l.map λa=>.tuple [g1 a,g2 a])(hl:l.length<=1000000)(c:p->List Int)(r:p->Af)(F:(l.map c).Nodup)(h:∀a∈l,∀(o:List Int->Af->Nat->Prop) (D:Nat->Prop),o (c a) (r a) b.n->oU dc w A ⟨.dat m (g1 a)::.dat m (g2 a)::frD b.sl y,b.n⟩ o D)(q:P (.dat .ow (.dict (Qs (l.map λa=>(c a,r a))))) b):xS y dc w A P m ds b:=by
 subst e
 refine ⟨by rw[Ad]; exact hl,λi g n=>n=b.n/\g=(l.take i).map λa=>(c a,r a),⟨rfl,by simp⟩,λi d g n k ⟨u,t⟩=>?_,λg n ⟨u,t⟩=>?_⟩
 ·subst u t
  rw[Bg] at k
  cases q:l[i]? with
  | none=>rw[q] at k; cases k
  | some a =>
   rw[q] at k
   cases k
   refine ⟨_,_,rfl,h a (Bj q) _ _ ⟨rfl,?_⟩⟩
   rw[Ft q,Bp]
   unfold Ta
   rw[if_neg]
   ·rfl
   ·rw[dQ,iN]
    (intro E; obtain ⟨x,C,f⟩ := E)
    have f:c x=c a:=of_decide_eq_true f
    obtain ⟨G,B⟩:=Bb.mp q
    obtain ⟨j,s⟩:=yR.mp C
    have v:=(Bb.mp s).1
    rw[Dw] at v
    rw[List.getElem?_take,if_pos (by omega)] at s
    have z:=(List.getElem?_inj (l:=l.map c) (i:=j) (j:=i) (by rw[Ad]; omega) F).mp (by rw[Bg,Bg,s,q]; exact congrArg some f)
    omega
 ·subst u t
  rw[Ad,Ek]
  exact q
theorem dkv_e{R:List (List Int×Af)->Prop}:(∃ks',Qs ks=Qs ks'/\R ks')=R ks:=propext ⟨λ⟨ks',e,h⟩=>by cases Lr e; exact h,λh=>⟨ks,rfl,h⟩⟩
theorem retA_sh{R:Af->Prop}:(∃m d',DV.dat .sh d=.dat m d'/\m≠.pk/\R d')=R d:=propext ⟨λ⟨m,d',e,_,h⟩=>by cases e; exact h,λh=>⟨_,_,rfl,by decide,h⟩⟩
theorem retA_tp{R:Af->Prop}:(∃m d',DV.dat .tp d=.dat m d'/\m≠.pk/\R d')=R d:=propext ⟨λ⟨m,d',e,_,h⟩=>by cases e; exact h,λh=>⟨_,_,rfl,by decide,h⟩⟩
end DL
namespace K55
open PySem L2 Nd DL
def top(i:Nat):Stmt:=PySem.Challenge.pw_needledeck_k55_whole_one_thing_other.main.body.getD i (.Pass ⟨0,0,0,0⟩)
abbrev Uh:Stmt:=top 1
abbrev Rw:Stmt:=top 2
abbrev Uc:Stmt:=top 4
abbrev Zh:Stmt:=top 5
abbrev fY:Stmt:=top 6
abbrev Vk:Stmt:=top 7
abbrev Wn:Stmt:=top 8
abbrev tS:Stmt:=top 9
abbrev nM:Stmt:=top 11
abbrev yN:Stmt:=top 12
abbrev Pv:Stmt:=top 13
abbrev Rr:Stmt:=top 14
abbrev Uj:Stmt:=top 15
abbrev Vl:Stmt:=top 17
abbrev Me:Stmt:=top 18
abbrev Qy:Stmt:=top 19
abbrev Ma:Stmt:=top 20
abbrev Nb:Stmt:=top 21
abbrev Ql:Stmt:=top 22
abbrev Yh:Stmt:=top 23
section
variable{P:Bn}{w:World}{K:PySem.W.Frag}{mg:Str->Option Value}{base:Heap}
theorem QY:FnScope ["_law_cell"] ["_law_cell"] (Bv nM):=⟨rfl,rfl,rfl,by decide +kernel,rfl,by decide +kernel,by decide +kernel⟩
theorem G6(F:Fun K "_law_draws" "_law_draws" nM f d):FnOk P w K mg base Ja 1 f d ["_law_cell"] Zf:=by
 refine F.ok QY (λvs H Q E h=>?_) (λe A b s H vs Q E g h=>?_)
 ·obtain ⟨c,rfl,_⟩:=h
  rfl
 obtain ⟨c,rfl,q⟩:=h
 refine ⟨_,Mc (xE (lM JT (pv 0) (Ku oK Fn Fn) (Yn _)) (Rq (cD (uO (Ik (Ku Yd (pv 0) (Ku BN (Ku oK Fn Fn) Fn)) (Ik Fn (Ik F0 Oc)))))) dS)
  (Rq (cD (uO (Ik (Ku Yd (pv 0) Fn) (Ik Fn (Ik F0 Oc)))))),?_⟩
 refine ⟨_,rfl,10,18,rfl,rfl,⟨by decide,by decide,by decide⟩,_,_,rfl,rfl,_,rfl,GB (λ_=>?_) (λ_=>?_)⟩
 ·refine ⟨_,rfl,10,60,rfl,rfl,⟨by decide,by decide,by decide⟩,_,16,rfl,rfl,⟨by decide,by show (Builtin.Int.intBits (10 ^ (60:Int).toNat):Int) * 16<=2 ^ 27; decide +kernel⟩,_,_,rfl,rfl,(by show (0:Int)<(10 ^ (60:Int).toNat) ^ (16:Int).toNat; decide +kernel),(by show 3<=Au; decide),λp a=>?_⟩
  exact q p _ _ _ a Dn (Ew a _)
 ·refine ⟨_,rfl,_,_,rfl,rfl,(by show (0:Int)<1000003; decide),(by show 3<=Au; decide),λp a=>?_⟩
  exact q p _ _ _ a Dn (Ew a _)
theorem RB:FnScope ["_law_draws_here", "_law_k", "_law_number"] ["_law_draws_here"] (Bv yN):=⟨rfl,rfl,rfl,by decide +kernel,rfl,by decide +kernel,by decide +kernel⟩
theorem X9(F:Fun K "_law_next" "_law_next" yN f l):FnOk P w K mg base Ja 1 f l ["_law_draws_here"] Q9:=by
 refine F.ok RB (λvs H Q E h=>?_) (λo A e s H vs Q E t h=>?_)
 ·obtain ⟨d,c,k,b,rfl,_⟩:=h
  rfl
 obtain ⟨d,c,k,b,rfl,m,u,r,q⟩:=h
 refine ⟨_,Mc (tX (Ku gP (Uy Pt (pv 0) Fn (λ_ _=>rfl)) Fn) (E8 (pv 0) Fn fR))
  (Mc (xE (T4 (Uy Pt (pv 0) Fn (λ_ _=>rfl)))
   (Mc (cC (i:=2) RB.nd rfl (Dk rfl) (Ku Yd (Uy Pt (pv 0) Fn (λ_ _=>rfl)) (Ku oK Fn Fn)))
    (Mc (tX (Ku nQ (Uy Pt (pv 0) Fn (λ_ _=>rfl)) (Ku oK Fn Fn)) (E8 (pv 0) Fn fR))
    (Rq (cD (pv 2))))) dS)
  (Mc (cC (i:=1) RB.nd rfl (Dk rfl) (Uy Pt (pv 0) Fn (λ_ _=>rfl)))
  (Mc (cC (i:=2) RB.nd rfl (Dk rfl) (Ku Yd (Ku bV (Ku gP (Ku gP (Uy Pt (pv 0) Fn (λ_ _=>rfl)) (Ku bV (Ku bV (pv 1) (pv 1)) Fn)) (pv 1)) Fn) Fn))
  (Mc (cC (i:=2) RB.nd rfl (Dk rfl) (Ku Yd (Ku bV (pv 2) (pv 2)) Fn))
  (Rq (cD (Ku nQ (Ku Yd (Ku bV (pv 2) (Ku gP (pv 2) Fn)) Fn) Fn))))))),?_⟩
 -- draws[1]=draws[1]+1
 refine ⟨_,rfl,d,_,1,_,rfl,rfl,Nm.of m,rfl,_,_,rfl,rfl,_,rfl,d,_,1,1,rfl,rfl,m,rfl,?_⟩
 have a:(upd H d (.lst ([V.int c,V.int k,V.bl b].set 1 (V.int (k+1))))) d=some (.lst [.int c,.int (k+1),.bl b]):=Dn
 generalize g:upd H d (.lst ([V.int c,V.int k,V.bl b].set 1 (V.int (k+1))))=H1 at a
 have j:Xu d H H1:=by rw[<- g]; exact Xu.upd
 refine ⟨_,rfl,d,_,2,_,rfl,rfl,Nm.of a,rfl,_,rfl,?_⟩
 refine GB (λ_=>?_) (λ_=>?_)
 ·refine ⟨_,rfl,d,_,0,_,rfl,rfl,Nm.of a,rfl,10,6,rfl,rfl,⟨by decide,by decide,by decide⟩,_,_,rfl,rfl,(by show (0:Int)<10 ^ (6:Int).toNat; decide),?_⟩
  refine ⟨_,rfl,d,_,0,_,rfl,rfl,Nm.of a,rfl,10,6,rfl,rfl,⟨by decide,by decide,by decide⟩,_,_,rfl,rfl,⟨by decide,by decide⟩,_,rfl,d,_,0,0,rfl,rfl,a,rfl,_,rfl,?_⟩
  exact q _ _ _ Dn (j.trans Xu.upd)
 ·refine ⟨_,rfl,d,_,1,_,rfl,rfl,Nm.of a,rfl,?_⟩
  have n:=oM ((c+(k+1) * (k+1) * 7919+(k+1)) * 48271) 2147483629 (by decide)
  refine ⟨_,rfl,d,_,0,_,rfl,rfl,Nm.of a,rfl,_,rfl,_,rfl,_,_,rfl,rfl,.inl ⟨by omega,by omega⟩,_,_,rfl,rfl,.inr ⟨by decide,by decide⟩,_,_,rfl,rfl,_,rfl,_,_,rfl,rfl,
   _,_,rfl,rfl,.inr ⟨by decide,by decide⟩,_,_,rfl,rfl,(by show (0:Int)<2147483629; decide),?_⟩
  generalize ((c+(k+1) * (k+1) * 7919+(k+1)) * 48271) % 2147483629=x at n
  have p:=oM (x * x) 2147483587 (by decide)
  refine ⟨_,rfl,_,rfl,_,_,rfl,rfl,.inl ⟨by omega,by omega⟩,_,_,rfl,rfl,(by show (0:Int)<2147483587; decide),?_⟩
  generalize (x * x) % 2147483587=y at p
  refine ⟨_,rfl,_,rfl,_,_,rfl,rfl,_,_,rfl,rfl,.inl ⟨by omega,by omega⟩,_,_,rfl,rfl,(by show (0:Int)<2147483579; decide),_,_,rfl,rfl,⟨by decide,by decide⟩,?_⟩
  exact q _ _ _ a j
theorem w5(F:Fun K "_law_draws" "_law_draws" nM f a):FnOk P w K mg base Ja 1 f a ["_law_cell"] Zf:=G6 F
theorem G3(F:Fun K "_law_next" "_law_next" yN f a):FnOk P w K mg base Ja 1 f a ["_law_draws_here"] (j9 K eU):=Y3 (X9 F)
end
end K55
namespace DL
open PySem L2 Nd
def sub(a b:List Int):Bool:=a.all λi=>decide (i∈b)
def jE(a b:List Int):List Int:=a.filter λi=>decide (i∉b)
theorem Zy:sub a b=true↔∀i∈a,i∈b:=by
 unfold sub
 simp [Vf]
theorem K8:jE a b=[]↔sub a b=true:=by
 unfold jE
 rw[vZ,Zy]
 simp
theorem fN(r:Cz h a):a.Nodup:=r.1.imp λ{x y} h=>eQ h
theorem zJ{a:List Int}(c:a.Nodup)(h:∀x∈a,0<=x/\x<60):a.length<=60:=Ca (NdS.len_leI c λe b=>Zr (h e b).1 (h e b).2) (by decide)
theorem Yk(a:Int)(h:0<b):0<=a % b/\a % b<b:=oM a b h
end DL
namespace Nd
open PySem L2 Ts
def Du:Nat->List (List Int)
 | 0=>[[]]
 | n+1=>Du n++(Du n).map (·++[(n:Int)])
theorem iE:∀n,(Du n).length=2 ^ n
 | 0=>rfl
 | n+1=>by
  show (Du n++(Du n).map (·++[(n:Int)])).length=2 ^ (n+1)
  rw[Bm,Ad,iE n,Nat.pow_succ]
  omega
theorem Tx(h:n<=10):(Du n).length<=1024:=by
 rw[iE]
 exact Zb (by decide) h
theorem Ot:∀n,∀w∈Du n,w.length<=n
 | 0,w,h=>by
  have : w=[]:=by simpa [Du] using h
  rw[this]
  exact Ak _
 | n+1,w,h=>by
  rcases Aw.mp (show w∈Du n++(Du n).map (·++[(n:Int)]) from h) with h | h
  ·exact Nat.le_succ_of_le (Ot n w h)
  ·obtain ⟨v,a,e⟩:=Cm.mp h
   rw[<- e,Bm,Fi]
   exact Nat.succ_le_succ (Ot n v a)
def Ord(l:List (List Int)):Prop:=l.Pairwise λx y=>HT.lexLt y x=false
theorem Ow:∀{l m:List (List Int)},l.Perm m->Ord l->Ord m->l=m
 | [],m,p,_,_=>(List.Perm.nil_eq p)
 | x::l,[],p,_,_=>by
  have:=p.length_eq
  simp at this
 | x::l,y::m,p,h1,h2=>by
  obtain ⟨b,c⟩:=Ay.mp h1
  obtain ⟨a,d⟩:=Ay.mp h2
  have e:x=y:=by
   have mx:x∈y::m:=p.mem_iff.mp Ab
   have my:y∈x::l:=p.mem_iff.mpr Ab
   rcases Al.mp mx with e | mx
   ·exact e
   ·rcases Al.mp my with e | my
    ·exact e.symm
    ·exact mJ (a x mx) (b y my) |>.symm▸rfl
  subst e
  rw[Ow ((List.perm_cons x).mp p) c d]
end Nd
namespace Nd
open PySem L2
def ch:Nat->Nat->Nat
 | _,0=>1
 | 0,_+1=>0
 | n+1,k+1=>ch n k+ch n (k+1)
def cw:Nat->Int->Nat->List (List Int)
 | _,_,0=>[[]]
 | 0,_,_+1=>[]
 | d+1,p,m+1=>(cw d (p+1) m).map (p::·)++cw d (p+1) (m+1)
def uB(top:Int):Nat->List Int->Nat
 | _,[]=>0
 | m,x::w=>ch (top - 1 - x).toNat m+uB top (m - 1) w
theorem gL:∀{n:Nat} {w:List Int},w∈Du n↔Cz n w
 | 0,w=>by
  show w∈[[]]↔_
  rw[Aj]
  constructor
  ·rintro rfl; exact Cz.nil _
  ·rintro ⟨_,h⟩
   match w with
   | []=>rfl
   | x::w=>have:=h x Ab; omega
 | n+1,w=>by
  show w∈Du n++(Du n).map (·++[(n:Int)])↔_
  rw[Aw,List.mem_map,gL]
  constructor
  ·rintro (h | ⟨v,hv,rfl⟩)
   ·exact h.up (by omega)
   ·have:=(gL.mp hv).more (by omega)
    exact this.up (by omega)
  ·intro h
   by_cases b:(n:Int)∈w
   ·refine .inr ⟨w.dropLast,gL.mpr ?_,?_⟩
    ·have a:w≠[]:=λz=>by rw[z] at b; cases b
     have g:w.getLast a=n:=by
      have i:=h.2 _ (List.getLast_mem a)
      by_cases e:w.getLast a=n
      ·exact e
      ·exfalso
       have d:=Ic a
       rw[<- d] at b
       rcases Aw.mp b with z | z
       ·have c:=h.1
        rw[<- d] at c
        have:=(Cg.mp c).2.2 _ z _ (Aj.mpr rfl)
        omega
       ·exact e (Aj.mp z).symm
     have d:=Ic a
     have c:=h.1
     rw[<- d,g] at c
     obtain ⟨k,_,j⟩:=Cg.mp c
     exact ⟨k,λx f=>⟨(h.2 x (List.dropLast_subset w f)).1,j x f _ (Aj.mpr rfl)⟩⟩
    ·have a:w≠[]:=λz=>by rw[z] at b; cases b
     have g:w.getLast a=n:=by
      have i:=h.2 _ (List.getLast_mem a)
      by_cases e:w.getLast a=n
      ·exact e
      ·exfalso
       have d:=Ic a
       rw[<- d] at b
       rcases Aw.mp b with z | z
       ·have c:=h.1
        rw[<- d] at c
        have:=(Cg.mp c).2.2 _ z _ (Aj.mpr rfl)
        omega
       ·exact e (Aj.mp z).symm
     rw[<- g]
     exact Ic a
   ·refine .inl ⟨h.1,λx f=>?_⟩
    have:=h.2 x f
    have : x≠n:=λz=>b (by rw[<- z]; exact f)
    omega
theorem Ui:∀n:Nat,(Du n).Nodup
 | 0=>Bx.mpr ⟨Ba,Dx⟩
 | n+1=>by
  show (Du n++(Du n).map (·++[(n:Int)])).Nodup
  refine Fz.mpr ⟨Ui n,?_,λx c y d e=>?_⟩
  ·exact List.Pairwise.map _ (λa b h e=>h (List.append_cancel_right e)) (Ui n)
  ·subst e
   obtain ⟨v,_,rfl⟩:=Cm.mp d
   have:=(gL.mp c).2 n (Ag _ (Aj.mpr rfl))
   omega
end Nd
namespace DL
open PySem L2 Nd
def dW:PF:=λa R=>∃h:Int,a=[.int h]/\0<=h/\h<=10/\∀L:List (List Int),L.Perm (Du h.toNat)->Ord L->R (wordsD L)
theorem Te{L:List (List Int)}(a:n<=10)(p:L.Perm (Du n)):L.length<=1024/\∀w∈L,Cz n w/\w.length<=10:=⟨by rw[p.length_eq]; exact Tx a,λw b=>⟨gL.mp (p.mem_iff.mp b),Ca (Ot n w (p.mem_iff.mp b)) a⟩⟩
def oQ(L:List (List Int)):List (List Int×Af):=L.zipIdx.map λp=>(p.1,.int (p.2:Int))
def qJ(L:List (List Int)):Af:=.dict (Qs (oQ L))
def Hr(L:List (List Int))(f:List Int->Int):Af:=.list ((L.map f).map Az)
instance {L:List (List Int)} {f:List Int->Int}:Dp (Hr L f) 1:=⟨(inferInstance:Dp (.list ((L.map f).map Az)) 1).h⟩
theorem pQ:∀{L:List (List Int)} (k:Nat),w∈L->∃i:Nat,L[i]? = some w/\(((L.zipIdx k).map λp=>(p.1,Az (p.2:Int))).find? λp=>decide (p.1=w))=some (w,.int ((i+k:Nat):Int))
 | [],_,h=>nomatch h
 | x::L,k,h=>by
  rw[Pf,Aq,Jm]
  by_cases e:x=w
  ·subst e
   exact ⟨0,rfl,by simp⟩
  ·obtain ⟨i,a,b⟩:=pQ (k+1) ((Al.mp h).resolve_left λz=>e z.symm)
   refine ⟨i+1,by simpa using a,?_⟩
   have c:decide (x=w)=false:=decide_eq_false e
   simp only[c,b]
   congr 3
   omega
theorem nE(h:w∈L):∃i:Nat,L[i]? = some w/\dD (oQ L) w=some (.int (i:Int)):=by
 obtain ⟨i,a,b⟩:=pQ 0 h
 refine ⟨i,a,?_⟩
 unfold dD oQ
 rw[b]
 rfl
theorem CG(L:List (List Int)):(oQ L).length=L.length:=by
 unfold oQ
 rw[Ad,Kt]
theorem xF:∀(L:List (List Int)) (k:Nat),((((L.zipIdx k).map λp=>(p.1,Az (p.2:Int)))).zip (L.map f)).map (λp=>Vb [Bf p.1.1,p.2])=L.map λw=>.tuple [Bf w,f w]
 | [],_=>rfl
 | x::L,k=>by
  rw[Pf,Aq,Aq,Nj,Aq,Aq,xF L (k+1)]
theorem mX(L:List (List Int))(f:List Int->Int):(((oQ L).zip ((L.map f).map Az)).map λp=>Vb [Bf p.1.1,p.2])=L.map λw=>.tuple [Bf w,.int (f w)]:=by
 rw[Dj]
 exact xF (f:=λw=>.int (f w)) L 0
theorem K2{L:List (List Int)}{i:Nat}(h:L[i]? = some w):aR ((L.map f).map Az) (i:Int)=some (.int (f w)):=xG (by rw[Bg,Bg,h]; rfl)
theorem wK{L:List (List Int)}(b:L.Nodup)(h:L[i]? = some w):((L.map f).map Az).set i (.int z)=(L.map λv=>if v=w then z else f v).map Az:=by
 rw[Dj,Dj]
 apply Ol
 intro j
 rw[Oj]
 split
 ·rename_i a
  subst a
  rw[Ad,if_pos (Bb.mp h).1,Bg,h]
  simp
 ·rename_i a
  rw[Bg,Bg]
  cases q:L[j]? with
  | none=>rfl
  | some v =>
   have : v≠w:=by
    rintro rfl
    exact a ((List.getElem?_inj (l:=L) (i:=i) (j:=j) (Bb.mp h).1 b).mp (by rw[h,q]))
   simp [this]
def Rl(p t:Int)(f:List Int->Int)(w:List Int):Int:=if p∈w then f w else f w+t * f (Mv (w++[p]))
def eI:PF:=λa R=>∃h:Int,a=[.int h]/\0<=h/\h<=10/\∀L:List (List Int),L.Perm (Du h.toNat)->Ord L->R (qJ L)
def xN:PF:=λa R=>∃(n:Nat) (L:List (List Int)) (f:List Int->Int) (p t:Int),a=[Hr L f,qJ L,.int p,.int t]/\n<=10/\L.Perm (Du n)/\0<=p/\p<n/\(t=1\/t = -1)/\R (Hr L (Rl p t f))
def Hq(a:List (List Int))(w:List Int):Int:=(a.countP λc=>sub w c:Nat)
def gZ:PF:=λb R=>∃(h:Int) (a:List (List Int)),b=[.int h,.list (a.map Bf)]/\0<=h/\h<=10/\(∀c∈a,Cz h c)/\∀L:List (List Int),L.Perm (Du h.toNat)->Ord L->R (Hr L (Hq a))
theorem Mr{L:List (List Int)}(p:L.Perm (Du n)):L.Nodup:=p.nodup_iff.mpr (Ui n)
theorem Hd{L:List (List Int)}(p:L.Perm (Du n)):w∈L↔Cz n w:=p.mem_iff.trans gL
theorem Tv(r:Cz n w)(a:0<=p)(b:p<n):Cz n (Mv (w++[p])):=⟨Ti _,λx c=>by
 rcases Aw.mp (hZ.mp c) with z | z
 ·exact r.2 x z
 ·rw[Aj.mp z]; exact ⟨a,b⟩⟩
def mt(k:Nat)(w c:List Int):Bool:=sub w c && c.all λi=>decide (i∈w\/i<k)
theorem Yg:mt k w c=true↔(∀i∈w,i∈c)/\∀i∈c,i∈w\/i<k:=by
 unfold mt
 rw[En,Zy,Vf]
 simp
theorem bI{b:Type}{p q r:b->Bool}(h:∀a,(p a=true↔q a=true\/r a=true)/\¬ (q a=true/\r a=true)):∀l:List b,l.countP p=l.countP q+l.countP r
 | []=>rfl
 | a::l=>by
  obtain ⟨d,f⟩:=h a
  rw[iM,iM,iM,bI h l]
  cases g:p a <;> cases c:q a <;> cases e:r a <;> simp_all <;> omega
theorem LQ{k:Nat}(h:(k:Int)∈w):mt (k+1) w c=mt k w c:=by
 rw[Jn,Yg,Yg]
 refine and_congr_right λ_=>forall_congr' λi=>imp_congr_right λa=>?_
 constructor
 ·rintro (z | z)
  ·exact .inl z
  ·by_cases e:i=k
   ·exact .inl (e▸h)
   ·exact .inr (by omega)
 ·rintro (z | z)
  ·exact .inl z
  ·exact .inr (by omega)
theorem yF:i∈Mv (w++[p])↔i∈w\/i=p:=by
 rw[hZ,Aw,Aj]
theorem HF{k:Nat}(h:(k:Int)∉w):(mt (k+1) w c=true↔mt k w c=true\/mt k (Mv (w++[(k:Int)])) c=true)/\¬ (mt k w c=true/\mt k (Mv (w++[(k:Int)])) c=true):=by
 rw[Yg,Yg,Yg]
 simp only[yF]
 constructor
 ·constructor
  ·rintro ⟨d,b⟩
   by_cases f:(k:Int)∈c
   ·refine .inr ⟨λi a=>?_,λi a=>?_⟩
    ·rcases a with a | rfl
     ·exact d i a
     ·exact f
    ·rcases b i a with z | z
     ·exact .inl (.inl z)
     ·by_cases e:i=k
      ·exact .inl (.inr e)
      ·exact .inr (by omega)
   ·refine .inl ⟨d,λi a=>?_⟩
    rcases b i a with z | z
    ·exact .inl z
    ·refine .inr ?_
     have : i≠k:=by rintro rfl; exact f a
     omega
  ·rintro (⟨d,b⟩ | ⟨d,b⟩)
   ·refine ⟨d,λi a=>(b i a).imp id λz=>by omega⟩
   ·refine ⟨λi a=>d i (.inl a),λi a=>?_⟩
    rcases b i a with (z | z) | z
    ·exact .inl z
    ·exact .inr (by omega)
    ·exact .inr (by omega)
 ·(intro j; obtain ⟨⟨d,b⟩,⟨g,l⟩⟩ := j)
  rcases b k (g k (.inr rfl)) with z | z
  ·exact h z
  ·omega
def bG(a:List (List Int))(k:Nat)(w:List Int):Int:=(a.countP (mt k w):Nat)
theorem Z9(a:List (List Int))(k:Nat)(w:List Int):Rl k 1 (bG a k) w=bG a (k+1) w:=by
 unfold Rl bG
 split
 ·rename_i h
  congr 2
  funext c
  exact (LQ h).symm
 ·rename_i h
  rw[bI (q:=mt k w) (r:=mt k (Mv (w++[(k:Int)]))) (λc=>HF (c:=c) h) a]
  omega
theorem BP{n:Nat}(hd:∀c∈a,Cz n c)(w:List Int):bG a n w=Hq a w:=by
 unfold bG Hq
 congr 1
 refine Om λc b=>?_
 rw[Yg,Zy]
 exact ⟨λh=>h.1,λh=>⟨h,λi d=>.inr ((hd c b).2 i d).2⟩⟩
theorem bO(c:Cz n a)(hb:Cz m b)(h:∀i,i∈a↔i∈b):a=b:=by
 have p:a.Perm b:=(oW (fN c) (fN hb)).mpr h
 exact p.eq_of_pairwise (λx y _ _ d e=>by omega) c.1 hb.1
def Pd(a:List (List Int))(w:List Int):Int:=(a.count w:Nat)
theorem W9{n:Nat}(hd:∀c∈a,Cz n c)(hw:Cz n w):bG a 0 w=Pd a w:=by
 unfold bG Pd
 congr 1
 rw[List.count_eq_countP]
 refine Om λc b=>?_
 rw[Yg,beq_iff_eq]
 constructor
 ·rintro ⟨e,f⟩
  refine bO (hd c b) hw λi=>⟨λd=>?_,e i⟩
  rcases f i d with z | z
  ·exact z
  ·have:=(hd c b).2 i d
   omega
 ·rintro rfl
  exact ⟨λ_ h=>h,λ_ h=>.inl h⟩
theorem Xc(h:∀w∈L,f w=g w):Hr L f=Hr L g:=by
 unfold Hr
 rw[Gy h]
def Ha(Q:List Int)(f:List Int->Int):List Int->Int:=Q.foldl (λf q=>Rl q (-1) f) f
theorem Qa(Q:List Int)(q:Int)(f:List Int->Int):Ha (Q++[q]) f=Rl q (-1) (Ha Q f):=by
 unfold Ha
 rw[dP]
 rfl
def iG:PF:=λa R=>∃(n:Nat) (L:List (List Int)) (f:List Int->Int) (Q:List Int),a=[qJ L,Hr L f,Bf Q]/\n<=10/\L.Perm (Du n)/\(∀q∈Q,0<=q/\q<n)/\R (Hr L (Ha Q f))
def L4:PF:=λa R=>∃(h:Int) (L:List (List Int)) (f:List Int->Int) (w Q:List Int),a=[.int h,Hr L f,Bf w,Bf Q]/\0<=h/\h<=10/\L.Perm (Du h.toNat)/\Ord L/\Cz h w/\(∀q∈Q,0<=q/\q<h)/\R (.int (Ha Q f w))
def jm(Q w c:List Int):Bool:=sub w c && c.all λi=>decide (i∈w\/i∉Q)
theorem Vv:jm Q w c=true↔(∀i∈w,i∈c)/\∀i∈c,i∈w\/i∉Q:=by
 unfold jm
 rw[En,Zy,Vf]
 simp
def j7(a:List (List Int))(Q w:List Int):Int:=(a.countP (jm Q w):Nat)
theorem GS(hw:q∉w)(f:q∉Q)(c:List Int):(jm Q w c=true↔jm (Q++[q]) w c=true\/jm Q (Mv (w++[q])) c=true)/\¬ (jm (Q++[q]) w c=true/\jm Q (Mv (w++[q])) c=true):=by
 rw[Vv,Vv,Vv]
 simp only[yF,Aw,Aj,not_or]
 constructor
 ·constructor
  ·rintro ⟨d,b⟩
   by_cases e:q∈c
   ·refine .inr ⟨λi a=>?_,λi a=>(b i a).imp .inl id⟩
    rcases a with a | rfl
    ·exact d i a
    ·exact e
   ·refine .inl ⟨d,λi a=>(b i a).imp id λz=>⟨z,?_⟩⟩
    rintro rfl
    exact e a
  ·rintro (⟨d,b⟩ | ⟨d,b⟩)
   ·exact ⟨d,λi a=>(b i a).imp id And.left⟩
   ·refine ⟨λi a=>d i (.inl a),λi a=>?_⟩
    rcases b i a with (z | rfl) | z
    ·exact .inl z
    ·exact .inr f
    ·exact .inr z
 ·(intro h; obtain ⟨⟨d,b⟩,⟨g,j⟩⟩ := h)
  rcases b q (g q (.inr rfl)) with z | z
  ·exact hw z
  ·exact z.2 rfl
theorem JF(hw:q∈w):jm (Q++[q]) w c=jm Q w c:=by
 rw[Jn,Vv,Vv]
 simp only[Aw,Aj,not_or]
 refine and_congr_right λ_=>forall_congr' λi=>imp_congr_right λa=>?_
 constructor
 ·rintro (z | z)
  ·exact .inl z
  ·exact .inr z.1
 ·rintro (z | z)
  ·exact .inl z
  ·by_cases e:i=q
   ·exact .inl (e▸hw)
   ·exact .inr ⟨z,e⟩
theorem rV(a:List (List Int)):∀(k:Nat) (Q:List Int),Q.length=k->Q.Nodup->∀w,Ha Q (Hq a) w=j7 a Q w:=by
 intro k
 induction k with
 | zero =>
  intro Q e _ w
  obtain rfl:=Kg.mp e
  show Hq a w=j7 a [] w
  unfold Hq j7
  congr 1
  refine Om λc _=>?_
  rw[Vv,Zy]
  simp
 | succ k f =>
  intro Q e j w
  have d:Q≠[]:=λz=>by rw[z] at e; cases e
  obtain ⟨b,q,rfl⟩ : ∃b q,Q=b++[q]:=⟨Q.dropLast,Q.getLast d,(Ic d).symm⟩
  obtain ⟨l,m,i⟩:=Fz.mp j
  have g:q∉b:=λz=>i q z q (Aj.mpr rfl) rfl
  have f:=f b (by simpa using e) l
  rw[Qa]
  unfold Rl
  rw[f,f]
  unfold j7
  split
  ·rename_i h
   congr 2
   funext c
   exact (JF h).symm
  ·rename_i h
   have:=bI (p:=jm b w) (q:=jm (b++[q]) w) (r:=jm b (Mv (w++[q]))) (GS h g) a
   omega
end DL
namespace DL
open PySem PySem.Spec PyProof.Rows L2 Nd
def Ub(L:List (List Int))(f:List Int->Int):List (List Int×Af):=L.map λw=>(w,.int (f w))
theorem rX:∀(L:List (List Int)) (es:List Af) (a:List (List Int×Af)),L.length=es.length->L.Nodup->(∀w∈L,∀p∈a,p.1≠w)->Uv a (L.zip es)=a++L.zip es
 | [],es,a,_,_,_=>by simp [Uv]
 | w::L,[],a,h,_,_=>by cases h
 | w::L,e::es,a,h,nd,hn=>by
  have c:Ta a w e=a++[(w,e)]:=by
   unfold Ta
   rw[if_neg]
   rw[iN]
   (intro f; obtain ⟨p,c,z⟩ := f)
   exact hn w Ab p c (of_decide_eq_true z)
  have b:=Bx.mp nd
  show Uv (Ta a w e) (L.zip es)=_
  rw[c,rX L es _ (Nat.succ.inj h) b.2 λv d p c=>?_]
  ·rw[Br]; rfl
  ·rcases Aw.mp c with z | z
   ·exact hn v (Ac _ d) p z
   ·rw[Aj.mp z]
    rintro rfl
    exact b.1 d
theorem sV:∀(L:List (List Int)) (f:List Int->Int),L.zip ((L.map f).map Az)=Ub L f
 | [],f=>rfl
 | w::L,f=>by
  have a:=sV L f
  unfold Ub at a ⊢
  rw[Aq,Aq,Nj,a]
  rfl
theorem P7(a:L.Nodup)(f:List Int->Int):Uv [] (L.zip ((L.map f).map Az))=Ub L f:=by
 rw[rX L _ [] (by rw[Ad,Ad]) a λ_ _ p b=>(nomatch b),List.nil_append,sV]
theorem eE:∀{L:List (List Int)},w∈L->dD (Ub L f) w=some (.int (f w))
 | [],h=>(nomatch h)
 | v::L,h=>by
  unfold dD Ub
  rw[Aq,Jm]
  by_cases e:v=w
  ·subst e
   rw[show decide ((v,Az (f v)).1=v)=true from decide_eq_true rfl]
   rfl
  ·rw[show decide ((v,Az (f v)).1=w)=false from decide_eq_false e]
   have a:=eE (f:=f) (List.mem_of_ne_of_mem (λz=>e z.symm) h)
   exact a
theorem BI(h:w∈L)(z:Int):Ta (Ub L f) w (.int z)=Ub L λv=>if v=w then z else f v:=by
 unfold Ta
 rw[if_pos]
 ·unfold Ub
  rw[Dj]
  refine Gy λv _=>?_
  show (if v=w then (v,Az z) else (v,Az (f v)))=(v,Az (if v=w then z else f v))
  split <;> rfl
 ·rw[iN]
  exact ⟨(w,.int (f w)),Cm.mpr ⟨w,h,rfl⟩,decide_eq_true rfl⟩
theorem tR(h:∀w∈L,f w=g w):Ub L f=Ub L g:=by
 unfold Ub
 refine Gy λw a=>?_
 rw[h w a]
theorem xV(h:L≠[]):Ub L f≠[]:=by
 unfold Ub
 intro z
 exact h (aN.mp z)
theorem kQ(L:List (List Int))(f:List Int->Int):(Ub L f).map (·.2)=(L.map f).map Az:=by
 unfold Ub
 rw[Dj,Dj]
 rfl
def Nr(p:Int)(g:List Int->Int)(T:List (List Int))(w:List Int):Int:=if w∈T then Rl p (-1) g w else g w
theorem CB(h:p∈w):Nr p g T w=g w:=by
 unfold Nr Rl
 rw[if_pos h,ite_self]
theorem sum_map_add{b:Type}(f g:b->Int):∀l:List b,(l.map λx=>f x+g x).sum=(l.map f).sum+(l.map g).sum
 | []=>rfl
 | a::l=>by rw[Aq,Aq,Aq,Io,Io,Io,sum_map_add f g l]; omega
theorem bN(n:Nat):Ji (n+1)=Ji n++[(n:Int)]:=by
 unfold Ji
 rw[List.range_succ,Bp]
 rfl
theorem AF(n:Nat)(g:List Int->Int):((Du (n+1)).map (Rl n (-1) g)).sum=((Du n).map g).sum:=by
 have e:Du (n+1)=Du n++(Du n).map (λw=>w++[(n:Int)]):=rfl
 rw[e,Bp,List.sum_append,Dj,<- sum_map_add]
 congr 1
 refine Gy λw d=>?_
 have r:=gL.mp d
 have a:(n:Int)∉w:=λz=>by have:=r.2 _ z; omega
 have c:(n:Int)∈w++[(n:Int)]:=Ag _ Ab
 have b:Cz ((n:Int)+1) (w++[(n:Int)]):=r.more (by omega)
 show Rl n (-1) g w+Rl n (-1) g (w++[(n:Int)])=g w
 unfold Rl
 rw[if_neg a,if_pos c,BC b.1]
 omega
theorem pK(f:List Int->Int):∀n:Nat,((Du n).map (Ha (Ji n) f)).sum=f []
 | 0=>by show f []+0=f []; omega
 | n+1=>by rw[bN,Qa,AF,pK f n]
theorem U3{l m:List Int}(h:l.Perm m):l.sum=m.sum:=by
 induction h with
 | nil=>rfl
 | cons x _ c=>rw[Io,Io,c]
 | swap x y l=>rw[Io,Io,Io,Io]; omega
 | trans _ _ a b=>exact a.trans b
end DL
namespace DRow
open PySem L2 Nd DL
abbrev Cd:=List Int
def aA(w u:List Int):Bool:=w.all λi=>decide (i∈u)
def CS(c:Cd->List Int)(a:List Cd)(ns:List Int):List Cd:=a.filter λr=>aA ns (c r)
def DP(c:Cd->List Int)(a:List Cd)(ns:List Int):List Cd:=a.filter λr=>!aA ns (c r)
def MK(c:Cd->List Int)(a:List Cd)(p:List Int×Bool):List Cd:=if p.2=true then DP c a p.1++CS c a p.1 else CS c a p.1++DP c a p.1
def DW(c:Cd->List Int)(a:List Cd)(ps:List (List Int×Bool)):List Cd:=ps.foldl (MK c) a
def Y0(a b:List Int)(ps:List (List Int×Bool)):Option Bool:=ps.foldl (λst p=>if aA p.1 a=aA p.1 b then st else some (aA p.1 a == !p.2)) none
theorem Y8(a b:List Int)(ps:List (List Int×Bool))(p:List Int×Bool):Y0 a b (ps++[p])=if aA p.1 a=aA p.1 b then Y0 a b ps else some (aA p.1 a == !p.2):=by
 unfold Y0
 rw[dP]
 rfl
def fJ(ps:List (List Int×Bool))(n:List Int):List Int:=ps.reverse.map λp=>if aA p.1 n=p.2 then 1 else 0
theorem jP(ps:List (List Int×Bool))(p:List Int×Bool)(n:List Int):fJ (ps++[p]) n=(if aA p.1 n=p.2 then 1 else 0)::fJ ps n:=by
 unfold fJ
 rw[List.reverse_append,Bp]
 rfl
theorem A6{a:Type}{P:List a->Prop}(h0:P [])(h1:∀l x,P l->P (l++[x]))(l:List a):P l:=by
 have : ∀m:List a,P m.reverse:=λm=>by
  induction m with
  | nil=>exact h0
  | cons x m b=>rw[Oh]; exact h1 _ _ b
 have:=this l.reverse
 rwa [List.reverse_reverse] at this
theorem E6(b a:List Int)(ps:List (List Int×Bool)):(Y0 b a ps=none↔fJ ps b=fJ ps a)/\(Y0 b a ps=some true↔HT.lexLt (fJ ps b) (fJ ps a)=true):=by
 induction ps using A6 with
 | h0=>exact ⟨⟨λ_=>rfl,λ_=>rfl⟩,⟨λh=>(by cases h),λh=>(by cases h)⟩⟩
 | h1 l p c =>
  rw[Y8,jP,jP,HT.lexLt_cons]
  by_cases h:aA p.1 b=aA p.1 a
  ·rw[if_pos h,h,if_pos rfl]
   refine ⟨c.1.trans ⟨λe=>by rw[e],λe=>(Ec e).2⟩,c.2⟩
  ·rw[if_neg h]
   cases h1:aA p.1 b <;> cases d:aA p.1 a <;> cases f:p.2 <;> rw[h1,d] at h <;> first | exact absurd rfl h | simp
theorem Ua(x y:List Int)(ps:List (List Int×Bool)):Y0 x y ps=some false↔(¬ fJ ps x=fJ ps y/\¬ HT.lexLt (fJ ps x) (fJ ps y)=true):=by
 rw[<- (E6 x y ps).1,<- (E6 x y ps).2]
 cases Y0 x y ps with
 | none=>simp
 | some b=>cases b <;> simp
def two(x y:Cd):Cd->Bool:=λr=>decide (r=x) || decide (r=y)
abbrev Ps:=List Int×Bool
def yD(p:Ps):Af:=.tuple [Bf p.1,.str (K0 p.2)]
instance {p:Ps}:Im (yD p):=⟨(inferInstance:Im (.tuple [Bf p.1,.str (K0 p.2)])).h⟩
instance {p:Ps}:Dp (yD p) 2:=⟨(inferInstance:Dp (.tuple [Bf p.1,.str (K0 p.2)]) _).h⟩
instance {α:Type} {f:α->Af} {l:List α} {lo hi:Option Int} [h:∀a,Im (f a)]:ImA (Np (l.map f) lo hi):=⟨by rw[sH]; exact QT⟩
theorem cutG_from(xs:List a)(k:Nat):Np xs (some (k:Int)) none=xs.drop k:=by
 unfold Np
 rw[HT.sIx_none,HT.sIx_nat]
 by_cases h:k<=xs.length
 ·rw[Nat.min_eq_left h,Gw (by rw[Vd]; exact Ak _)]
 ·rw[Nat.min_eq_right (by omega),wA (by omega),wA (by omega),List.take_nil]
def xN:PF:=λe R=>∃(L:List (List Int)) (d c:List Ps),e=[.list (L.map Bf),.list (d.map yD),.list (c.map yD)]/\L.length<=1000/\L.Nodup/\(DW id L d=DW id L c->R (.list []))/\∀a b,a∈L->b∈L->Y0 a b d≠Y0 a b c->R (.list [Bf a,Bf b])
end DRow
namespace DL
open PySem PySem.Spec PyProof.Rows L2 Nd DRow
theorem rY{g k:Type}{f:g->k}:∀{l:List g},l.Nodup->(∀a∈l,∀b∈l,f a=f b->a=b)->(l.map f).Nodup
 | [],_,_=>Dx
 | x::l,nd,h=>by
  have c:=Bx.mp nd
  rw[Aq,List.nodup_cons]
  refine ⟨λz=>?_,rY c.2 λa i b j=>h a (Ac _ i) b (Ac _ j)⟩
  obtain ⟨y,d,e⟩:=Cm.mp z
  have:=h y (Ac _ d) x Ab e
  rw[this] at d
  exact c.1 d
theorem AC(h:Nat):(Ji h).Nodup:=rY List.nodup_range λa _ b _ e=>by have : (a:Int)=b:=e; omega
theorem sE{h:Nat}(hd:∀c∈d,Cz (h:Int) c)(hw:Cz (h:Int) w):Ha (Ji h) (Hq d) w=Pd d w:=by
 rw[rV d h (Ji h) (by unfold Ji; rw[Ad,Cu]) (AC h)]
 unfold j7 Pd
 rw[List.count_eq_countP]
 congr 1
 refine Om λc f=>?_
 rw[Vv,beq_iff_eq]
 constructor
 ·rintro ⟨a,b⟩
  refine (bO hw (hd c f) λi=>⟨a i,λe=>?_⟩).symm
  rcases b i e with z | z
  ·exact z
  ·refine absurd ?_ z
   have:=(hd c f).2 i e
   unfold Ji
   exact Cm.mpr ⟨i.toNat,Hs.mpr (by omega),by omega⟩
 ·rintro rfl
  exact ⟨λi e=>e,λi e=>.inl e⟩
def Lf(L:List (List Int))(c:List Int->Int):List (List Int):=L.flatMap λw=>Cc (c w).toNat w
theorem zU(h:Nd.Ord L):Nd.Ord (Lf L c):=by
 unfold Nd.Ord Lf
 rw[List.pairwise_flatMap]
 refine ⟨λa _=>?_,h.imp λ{a b} d x e y f=>?_⟩
 ·refine List.pairwise_iff_forall_sublist.mpr λ{x y} g=>?_
  have e:=Mw (g.subset Ab)
  have f:=Mw (g.subset (Ac _ Ab))
  rw[e,f]
  exact Ts.lex_irr a
 ·rw[Mw e,Mw f]
  exact d
theorem Vx:∀{L:List (List Int)},L.Nodup->(Lf L c).count w=if w∈L then (c w).toNat else 0
 | [],_=>rfl
 | v::L,nd=>by
  have a:=Bx.mp nd
  unfold Lf
  rw[Lp,List.count_append]
  have b:=Vx (c:=c) (w:=w) a.2
  unfold Lf at b
  rw[b,List.count_replicate]
  by_cases e:v=w
  ·subst e
   simp [a.1]
  ·have d:¬ w=v:=λz=>e z.symm
   have f:(v == w)=false:=beq_eq_false_iff_ne.mpr e
   simp [f,d]
theorem fG{L a:List (List Int)}(b:L.Perm (Du h))(hd:∀c∈a,Cz (h:Int) c):(Lf L (Pd a)).Perm a:=by
 rw[List.perm_iff_count]
 intro w
 rw[Vx (Mr b)]
 split
 ·unfold Pd; omega
 ·rename_i n
  refine (List.count_eq_zero.mpr λz=>n ((Hd b).mpr (hd w z))).symm
theorem oT(L:List (List Int))(c:List Int->Int):(L.flatMap λw=>Cc (c w).toNat (Bf w))=(Lf L c).map Bf:=by
 unfold Lf
 rw[List.map_flatMap]
 congr 1
 funext w
 rw[List.map_replicate]
end DL
namespace DL
open PySem PySem.Spec PyProof.Rows L2 Nd
def OR(K:PySem.W.Frag):Sp:=λe H Q _=>∃(t a p:Addr) (c:List V) (z:Str) (y:V),e=[.ref t]/\H t=some (.lst [.ref a,.ref p])/\H a=some (.lst c)/\H p=some (.tup [.str z,y])/\a≠t/\c.length<Au /\
 (z≠Cq "deck" -> Q .non (upd H a (.lst (c++[.non])))) /\
 (z=Cq "deck" -> ∃(b:Addr) (d:List V),y=.ref b/\H b=some (.lst d)/\b≠a/\d.length<Au/\Q .non (upd (upd H a (.lst (c++[.non]))) b (.lst (d++[.non]))))
theorem At.spoil{K:PySem.W.Frag}{l H p:Hp}(h:At K l X n (⟨v,.dat .ow d,F⟩::E) H)(np:∀f∈E,Qg f.x=false)(g:∀b o,H b=some o->(b∉F\/OT o)->p b=some o):At K l X n E p:=by
 have B:=Ay.mp h.sep
 have i:∀a∈F,l a=none:=λa t=>by
  rcases h.new _ Ab a t with z | z
  ·exact z
  ·cases z.2
 refine At.re (h.sub (Di _ _)) (λf j=>(h.ok f (Ac _ j)).kp (λb o e z=>g b o e (z.imp (λq r=>(B.1 f j).1 (.inl (np f j)) b r q) id)) (Ak _)) (λb o y q=>g b o (h.same b o y q) (.inl λz=>?_)) (λb o q=>?_) λb A=>?_
 ·rw[i b z] at q; cases q
 ·obtain ⟨m,e⟩:=h.dom b o q
  exact ⟨m,g b m e (.inl λz=>by rw[i b z] at q; cases q)⟩
 ·obtain ⟨z,c,k,f,s,u⟩:=h.xd b A
  exact ⟨z,c,k,f,g _ _ s (.inl λw=>z (i b w)),u⟩
def OK(xs:List DV)(b:DS)(D:DEnds):Prop:=match xs with
 | [.dat .ow (.list [.list as,.tuple [.str z,y]])]=>npk b.sl=true/\as.length<1000000/\(z=Cq "deck" -> ∃a,y=.list a/\a.length<1000000)/\D.nx b
 | _=>False
def B6(d:DA):DB:=λD b=>d b λc a=>OK c a D
section
variable{X:Cx}{CX:vN}{k:Nat}{f:Addr}{g:Cv}{ps:List Str}{E:XK}{x:Str}{p d pos:Pos}{e:Expr}{es:List Expr}{i:DA}
theorem T1(F:FnOk X.prog X.w X.K X.mg X.base CX k f g ps (OR X.K))(hr:Room k X.A)(hg:Gl X x)(hm:X.mg x=some (.ref f))(hk:PySem.W.keepIn X.K (.ref f)=true)(hb:Binds X.K g ps [])(hx:Qx CX X E)(ha:lN X (e::es) i)(h8:(x == ("__debug__" : Str))=false:=by decide)(he:Bo (e::es) X.env=(false,eval e X.env)::Bo es X.env:=by rfl)(h4:(Hm d (Bo es X.env)).any (·.1)=false:=by rfl)(h5:Oy (.Call (.Name x p) (e::es) [] d) none pos.line X.env=pure false:=by rfl):zS X (.Expr (.Call (.Name x p) (e::es) [] d) pos) (B6 i):=by
 refine PS.impD (eG (Wu F hr hg hm hk hb .nil hx ha h8 he h4) h5) λD σ H h=>?_
 obtain ⟨H0,Y,S,T,δ,P,rfl,hS,hT,hA,hd,k1,k2,k3,k4⟩:=h
 refine ⟨H0,Y,S,T,δ,_,rfl,hS,hA,hd,λxs m As us R H' e1 Z ex Q C p=>?_⟩
 unfold OK at p
 split at p
 case h_2=>exact p.elim
 rename_i as z y
 obtain ⟨p1,p2,p3,p4⟩:=p
 match As,ex,Q with
 | [⟨v,w,F⟩],ex,Q =>
 have h6:w=.dat .ow (.list [.list as,.tuple [.str z,y]]):=(Ec ex).1
 subst h6
 obtain ⟨u,hu,rd,nd,_⟩:=C.ok ⟨v,.dat .ow (.list [.list as,.tuple [.str z,y]]),F⟩ (Ag _ Ab)
 have h0:v=some u:=hu
 subst h0
 have h2:us=[u]:=by
  cases us with
  | nil=>cases Q
  | cons a l=>cases l with
   | nil=>exact congrArg (λz=>[z]) (Cj (Ec Q).1).symm
   | cons b l=>cases (Ec Q).2
 subst h2
 have I:=nd rfl
 obtain ⟨t,k6,G,rfl,ht,M,eF,_⟩:=rd.list_inv
 have h7:F=t::G:=eF
 subst h7
 cases M with
 | cons r1 M =>
 cases M with
 | cons r2 M =>
 cases M
 obtain ⟨a,xa,Ga,rfl,r,h9,rfl,_⟩:=r1.list_inv
 obtain ⟨q,xq,rfl,hq,J,_⟩:=r2.tup_inv
 cases J with
 | cons r3 J =>
 cases J with
 | @cons vy _ _ _ Fy _ r4 J =>
 cases J
 cases r3
 have la:=h9.len
 have B:∀{c:Addr} {o:HO} {l:List V},H' c=some (.lst l)->∀{b},H' b=some o->OT o->b≠c:=λ{c o l} hc {b} j s e=>by
  subst e
  rw[hc] at j
  cases j
  rcases s with ⟨_,s⟩ | ⟨_,_,s⟩ <;> cases s
 have L:At X.K H0 Y m.n (⟨some (.ref t),.dat .ow (.list [.list as,.tuple [.str z,y]]),t::((a::Ga)++(([]++(Fy++[]))++[]))⟩::(R++T)) H':=C.mid
 have O:∀f∈R++T,Qg f.x=false:=λf hf=>by
  rcases Aw.mp hf with hf | hf
  ·exact mI Z p1 f hf
  ·exact hT f hf
 have U:a≠t:=λe=>by
  subst e
  exact (Bx.mp I).1 (Am _ Ab)
 have aF:a∈t::((a::Ga)++(([]++(Fy++[]))++[])):=Ac _ (Am _ Ab)
 refine ⟨t,a,q,xa,z,vy,rfl,ht,r,hq,U,Cb (by rw[la]; omega) (iQ (n:=1000000) (Ak _)),λ_=>?_,λhz=>?_⟩
 ·rw[<- e1]
  refine k1 m R _ Z (L.spoil O λb o j hz'=>?_) p4
  rw[Dr ?_]
  ·exact j
  ·rcases hz' with hz' | hz'
   ·rintro rfl; exact hz' aF
   ·exact B r j hz'
 ·obtain ⟨k5,rfl,k0⟩:=p3 hz
  obtain ⟨c,yc,Gc,rfl,N,h1,rfl,_⟩:=r4.list_inv
  have lc:=h1.len
  have cF:c∈([]++((c::Gc)++[]))++([]:List Addr):=by simp
  have h3:c≠a:=λe=>by
   subst e
   have:=(Fz.mp (Bx.mp I).2).2.2 c Ab c cF
   exact this rfl
  refine ⟨c,yc,rfl,N,h3,Cb (by rw[lc]; omega) (iQ (n:=1000000) (Ak _)),?_⟩
  rw[<- e1]
  refine k1 m R _ Z (L.spoil O λb o j hz'=>?_) p4
  rw[Dr ?_,Dr ?_]
  ·exact j
  ·rcases hz' with hz' | hz'
   ·rintro rfl; exact hz' aF
   ·exact B r j hz'
  ·rcases hz' with hz' | hz'
   ·rintro rfl; exact hz' (Ac _ (Ag _ cF))
   ·exact B N j hz'
end
end DL
namespace K55
open PySem L2 Nd DL
local macro_rules | `(tactic| array_get_dec) => do
  let ids:=(("e_seq e_skip e_ret e_if e_asg e_name e_name2 e_name3 e_own e_nF e_gtup e_gsn e_gsc e_op e_var e_c e_imm e_immB e_take e_I e_I0 e_eqF e_eqT e_inFt_w1 e_inTt_w1 e_ixl e_ixt e_cat e_catT_w1 e_rep e_nlT e_nlF e_ntT e_pkOfsh e_pkOfow e_mdInpk e_mdInsh e_mdIntp e_mdNewsh e_mdItsh e_mdIttp e_mdItow e_nil e_cons e_tup e_lst e_noPart e_part e_partB e_sl e_slBl e_cb e_lenl e_lent_w1 e_tuplel e_intb e_MaxL e_sortT e_str e_b e_bB e_notT e_andT e_orT e_orTf e_and e_andt e_ifE e_neg e_negB e_dL e_dTp e_lB e_tpB_w1 e_range1 e_rng1B e_enum e_enumB e_zip e_zipB e_for e_comp e_comp2 e_compL e_comp2L e_stepL e_stepLT e_glst e_noTest e_step e_stepT e_yesB e_call e_callW e_draws e_drawsB e_append e_stepK e_stepKB e_scrSl e_sortW e_dput e_zipD e_zipDB e_dcomp2 e_dcStep e_dcBT e_dcYes e_augX e_dictZ e_dictZB e_minV e_compP e_callA e_ssT e_ssTt e_tr e_trB e_callWS e_callWSB minV_e callWSD retWT callAB retA retA_sh retA_tp augIK augIB wd_e dkv_e isDct isLst dputB dk_e dget_e lenD_e wordsD callB callBW tupB lstB datas pkMd allOw noPk appB own1 npk retE retW retL args0 frD frD1 alD List.map_cons List.map_nil List.replicate List.getElem?_cons_zero List.getElem?_cons_succ List.set_cons_zero List.set_cons_succ List.cons_append List.nil_append Option.map_some List.length_cons List.length_nil List.append_nil rdAdd rdSub rdMul rdDiv rdMod rdLt if_true if_false Bool.false_eq_true mdZip List.append_assoc Nat.reduceAdd Nat.reduceSub Nat.reduceLeDiff true_and im_e ima_e dp_e dpa_e any_int eqD_intd eqD_bl eqD_str eqD_lw eqD_li eqD_l0 ow_e tt_e cdiv_e Int.reduceLT Int.reduceLE Int.reduceNeg and_self Int.reduceToNat Nat.reduceMul fold_w Bool.not_true decide_true or_true ifB_lt ifB_lf str_self Int.reduceEq atI_0 atI_1 atI_2 some_e yesL_ow yesL_sh catL_owtp catL_shtp" : String).splitOn " ").toArray.map λ(x:String)=>Lean.mkIdent x.toName
  `(tactic| try simp only [$[$ids:ident],*])
section
variable{P:Bn}{w:World}{K:PySem.W.Frag}{mg:Str->Option Value}{base:Heap}
theorem OW:FnScope ["one", "other"] ["one", "other"] (Bv Uh):=⟨rfl,rfl,rfl,by decide +kernel,rfl,by decide +kernel,by decide +kernel⟩
theorem sR(F:Fun K "together" "together" Uh f k)(D:mg "tuple" = none)(R:mg "sorted" = none)(m:mg "set" = none):FnOk P w K mg base Ja 1 f k ["one", "other"] (EB K):=by
 refine F.ok OW (λvs H Q E h=>?_) (λN A i s H vs Q E W h=>?_)
 ·obtain ⟨a,b,d,c,rfl,_⟩:=h
  rfl
 obtain ⟨a,b,d,c,rfl,I,O,n,j,q⟩:=h
 refine ⟨_,Rq (cD (Oa Xv rfl D (by decide +kernel) (Ik (fV (r:=xO w) (aB rfl) rfl R (by decide +kernel) (Ik
  (Ku (r:=QC w) N0 (Oa (r:=IC w K) (gA rfl) rfl m (by decide +kernel) (Ik (pv 0) Oc)) (Oa (r:=IC w K) (gA rfl) rfl m (by decide +kernel) (Ik (pv 1) Oc))) Oc)) Oc))),?_⟩
 refine ⟨_,rfl,a,d,IT,rfl,I,(by show IT.length<=62; decide),wC n,λo U=>?_⟩
 have l:=Ew U (bJ w o d)
 refine ⟨_,rfl,b,c,IT,rfl,Va.tup l O,(by show IT.length<=62; decide),wC j,λp t=>?_⟩
 have v:=Ew t (bJ w p c)
 refine ⟨o,p,d,c,IT,rfl,rfl,Gf Dn t,v _ _ Dn,Dn,(by show IT.length<=62; decide),wC n,wC j,λy L=>?_⟩
 have J:=Ew L (bJ w y (d++c))
 refine ⟨y,_,rfl,Dn,λG e z S M g=>?_⟩
 have B:=Ew z (.lst (e.map V.int))
 refine ⟨G,_,rfl,.inl ⟨Nm.of Dn,λC x=>?_⟩⟩
 have T:=Ew x (.tup (e.map V.int))
 have u:=((l.trans v).trans (J.trans B))
 exact q C e _ (u.free x) Dn S M g (u.trans T)
theorem mD(F:Fun K "together" "together" Uh f a)(c:mg "tuple" = none)(b:mg "sorted" = none)(d:mg "set" = none):FnOk P w K mg base Ja 1 f a ["one", "other"] (Vg K M7):=FW (sR F c b d)
theorem mK:FnScope ["holes", "words", "place"] ["holes"] (Bv Rw):=⟨rfl,rfl,rfl,by decide +kernel,rfl,by decide +kernel,by decide +kernel⟩
theorem oI(F:Fun K "all_words" "all_words" Rw f B)(e:mg "range" = none)(d:mg "sorted" = none):FnOk P w K mg base Ja 1 f B ["holes"] (Vg K (dW)):=by
 refine' Nh (k:=0) F mK (λu A m s H E C=>?hb) ?h
 case hb =>
  have o:=C.units
  have t:∀{b:Scope} (h:b={ kind:=.function,names:=[(".0",.local),("word",.local),("place",.free)],isGenerator:=false,isCoroutine:=false }),
    CompScope (Na Ja P w K mg base ["holes", "words", "place"] "all_words" (Bv Rw) f u A m s H E).nox b [("place",s.heap.objs.size+1)] "word" ["place"] [2]:=by
   rintro b rfl
   refine ⟨by rfl,.inl (by decide +kernel),by rfl,by decide +kernel,.inl rfl,λy c h=>?_,by rfl,by decide +kernel,rfl,λk y j q r=>?_⟩
   ·have z:=Ge h
    simp only[Al,Ba,or_false,Hi] at z
    obtain ⟨rfl,rfl⟩:=z; rfl
   ·match k,q,r with
    | 0,q,r=>cases q; cases r; exact ⟨rfl,rfl,by first | exact .inl rfl | exact .inr rfl⟩
    | k+1,q,r=>cases q
  exact Cn (Ex (i:=1) mK.nd rfl (Dk rfl) (Iz (Ao (Sh Bd) Bd)))
   (Cn (Od Et rfl (Jw rfl e (Ao (Ar (pv 0)) Bd)) (Hz (i:=2) mK.nd rfl (Xo rfl))
   (Ej (Ex (i:=1) mK.nd rfl (Dk rfl) (Vw (Ar (pv 1)) (Oo (t rfl) rfl (U9 (Ar (pv 1))) (λ_ _ _=>Ng) (λ_ _ _=>eJ (Ar (pv 0)) (Sh (Ao (Qi (Ar (pv 1))) Bd))))))))
   (Ej (Ii (Ju (Ts.call_sortedI o) gM rfl d (by decide +kernel) (Ao (Ar (pv 1)) Bd)))))
 case h =>
  (intro W R p; obtain ⟨h,rfl,X,S,O⟩ := p)
  refine ⟨rfl,?_⟩
  array_get_dec
  refine ⟨by omega,by omega,?_⟩
  refine bC (l:=Bw h.toNat) (g:=λi:Nat=>.int i) rfl (λi D=>∃v:DV,D=⟨[.dat .sh (.int h),.dat .sh (.list ((Du i).map Bf)),v],0⟩/\NP v) ?_ ?_ ?_
  ·exact ⟨_,rfl,Ra⟩
  ·(intro i a _ J p; obtain ⟨v,rfl,Q⟩ := p)
   obtain ⟨rfl,Y⟩:=Qk J
   have V:=Tx (n:=a) (by omega)
   array_get_dec
   refine qZ (l:=Du a) (g:=Bf) rfl (λw=>Bf (w++[(a:Int)])) (λw M I T x=>?_) ?_
   ·have U:=Ot a w M
    array_get_dec
    refine ⟨by rw[Ad]; omega,?_⟩
    unfold Bf at x
    rw[Bp] at x
    exact x
   ·array_get_dec
    refine ⟨by rw[Ad,Ad]; omega,.dat .sh (.int a),Tn ?_ rfl,Ie⟩
    show _=[DV.dat .sh (.int h),.dat .sh (.list ((Du a++(Du a).map (·++[(a:Int)])).map Bf)),.dat .sh (.int a)]
    rw[Bp,Dj]
    rfl
  ·(intro _ p; obtain ⟨v,rfl,Q⟩ := p)
   rw[Cu]
   array_get_dec
   exact ⟨_,rfl,λL G N=>O L G N⟩
theorem jB:FnScope ["_law_holes", "_law_found", "_law_place"] ["_law_holes"] (Bv Pv):=⟨rfl,rfl,rfl,by decide +kernel,rfl,by decide +kernel,by decide +kernel⟩
theorem iX(F:Fun K "_law_words" "_law_words" Pv f B)(e:mg "range" = none)(d:mg "sorted" = none):FnOk P w K mg base Ja 1 f B ["_law_holes"] (Vg K (dW)):=by
 refine' Nh (k:=0) F jB (λu A m s H E C=>?hb) ?h
 case hb =>
  have o:=C.units
  have t:∀{b:Scope} (h:b={ kind:=.function,names:=[(".0",.local),("_law_word",.local),("_law_place",.free)],isGenerator:=false,isCoroutine:=false }),
    CompScope (Na Ja P w K mg base ["_law_holes", "_law_found", "_law_place"] "_law_words" (Bv Pv) f u A m s H E).nox b [("_law_place",s.heap.objs.size+1)] "_law_word" ["_law_place"] [2]:=by
   rintro b rfl
   refine ⟨by rfl,.inl (by decide +kernel),by rfl,by decide +kernel,.inl rfl,λy c h=>?_,by rfl,by decide +kernel,rfl,λk y j q r=>?_⟩
   ·have z:=Ge h
    simp only[Al,Ba,or_false,Hi] at z
    obtain ⟨rfl,rfl⟩:=z; rfl
   ·match k,q,r with
    | 0,q,r=>cases q; cases r; exact ⟨rfl,rfl,by first | exact .inl rfl | exact .inr rfl⟩
    | k+1,q,r=>cases q
  exact Cn (Ex (i:=1) jB.nd rfl (Dk rfl) (Iz (Ao (Sh Bd) Bd)))
   (Cn (Od Et rfl (Jw rfl e (Ao (Ar (pv 0)) Bd)) (Hz (i:=2) jB.nd rfl (Xo rfl))
   (Ej (Ex (i:=1) jB.nd rfl (Dk rfl) (Vw (Ar (pv 1)) (Oo (t rfl) rfl (U9 (Ar (pv 1))) (λ_ _ _=>Ng) (λ_ _ _=>eJ (Ar (pv 0)) (Sh (Ao (Qi (Ar (pv 1))) Bd))))))))
   (Ej (Ii (Ju (Ts.call_sortedI o) gM rfl d (by decide +kernel) (Ao (Ar (pv 1)) Bd)))))
 case h =>
  (intro W R p; obtain ⟨h,rfl,X,S,O⟩ := p)
  refine ⟨rfl,?_⟩
  array_get_dec
  refine ⟨by omega,by omega,?_⟩
  refine bC (l:=Bw h.toNat) (g:=λi:Nat=>.int i) rfl (λi D=>∃v:DV,D=⟨[.dat .sh (.int h),.dat .sh (.list ((Du i).map Bf)),v],0⟩/\NP v) ?_ ?_ ?_
  ·exact ⟨_,rfl,Ra⟩
  ·(intro i a _ J p; obtain ⟨v,rfl,Q⟩ := p)
   obtain ⟨rfl,Y⟩:=Qk J
   have V:=Tx (n:=a) (by omega)
   array_get_dec
   refine qZ (l:=Du a) (g:=Bf) rfl (λw=>Bf (w++[(a:Int)])) (λw M I T x=>?_) ?_
   ·have U:=Ot a w M
    array_get_dec
    refine ⟨by rw[Ad]; omega,?_⟩
    unfold Bf at x
    rw[Bp] at x
    exact x
   ·array_get_dec
    refine ⟨by rw[Ad,Ad]; omega,.dat .sh (.int a),Tn ?_ rfl,Ie⟩
    show _=[DV.dat .sh (.int h),.dat .sh (.list ((Du a++(Du a).map (·++[(a:Int)])).map Bf)),.dat .sh (.int a)]
    rw[Bp,Dj]
    rfl
  ·(intro _ p; obtain ⟨v,rfl,Q⟩ := p)
   rw[Cu]
   array_get_dec
   exact ⟨_,rfl,λL G N=>O L G N⟩
end
def nW:DF:=λb n R=>∃h:Int,b=[.int h]/\0<h/\h<=60/\n<=90000/\∀a,Cz h a->R (Bf a) (n+1)
def O2:DF:=λb n R=>∃h m:Int,b=[.int h,.int m]/\0<h/\h<=10/\0<=m/\m<=60/\n<=50000/\∀(a:List (List Int)) n',n<=n'->n'<=n+200->a.length<=60->(∀c∈a,Cz h c)->R (.list (a.map Bf)) n'
def vQ:PF:=λc R=>∃a b:List Int,c=[Bf a,Bf b]/\R (.bool (sub a b))
section
variable{P:Bn}{w:World}{K:PySem.W.Frag}{mg:Str->Option Value}{base:Heap}
theorem jG:FnScope ["_law_draws_here", "_law_holes", "_law_pick", "_law_told", "_law_place"] ["_law_draws_here", "_law_holes"] (Bv Uj):=⟨rfl,rfl,rfl,by decide +kernel,rfl,by decide +kernel,by decide +kernel⟩
theorem jN(F:Fun K "_law_small" "_law_small" Uj f D)(q:FnOk P w K mg base Ja 1 b c ["_law_draws_here"] (j9 K eU))(o:Binds K c ["_law_draws_here"] [])(d:PySem.W.keepIn K (.ref b)=true)(e:mg "_law_next" = some (.ref b))(j:mg "range" = none)(m:mg "tuple" = none):FnOk P w K mg base Ja 2 f D ["_law_draws_here", "_law_holes"] (j9 K (nW)):=by
 refine' yO (k:=1) F jG (λM A B s H E r=>?hb) ?h
 case hb =>
  have z:Room 1 _:=r.mono (by decide)
  have u:=r.units
  exact Cn (Ex (i:=2) jG.nd rfl (Dk rfl) (Kj q z rfl e d o Gi (pv 0) Bd))
   (Cn (Xa (i:=3) jG.nd rfl (Dk rfl) (Iz Bd))
   (Cn (Od Et rfl (Jw rfl j (Ao (Ar (pv 1)) Bd)) (Hz (i:=4) jG.nd rfl (Dk rfl))
   (Cn (Vz (yJ u (Qv (Ar (pv 2)) Dt) Dt)
    (Ej (bY (pv 3) (Ar (pv 4)))) Qr)
    (Ej (Ex (i:=2) jG.nd rfl (Dk rfl) (mF (Ar (pv 2)) Dt)))))
   (Ej (Ii (Kn Wf (Wc (i:=true)) rfl m (by decide +kernel) (Ao (Ar (pv 3)) Bd))))))
 case h =>
  (intro T n R y; obtain ⟨h,rfl,U,S,V,N⟩ := y)
  refine ⟨rfl,?_⟩
  array_get_dec
  refine ⟨rfl,by omega,λQ=>?_⟩
  array_get_dec
  refine ⟨by omega,by omega,?_⟩
  refine bC (l:=Bw h.toNat) (g:=λi:Nat=>.int i) rfl (λi J=>∃(p:Int) (t:List Int) (v:DV),J=⟨[.drw,.dat .sh (.int h),.dat .sh (.int p),.dat .ow (.list (t.map Az)),v],n+1⟩/\Cz i t/\NP v) ?_ ?_ ?_
  ·exact ⟨_,[],_,rfl,Cz.nil _,Ra⟩
  ·(intro i a _ L y; obtain ⟨p,t,v,rfl,r,O⟩ := y)
   obtain ⟨rfl,X⟩:=Qk L
   have G:=zJ (fN r) (λx I=>by have:=r.2 x I; omega)
   array_get_dec
   refine qQ (λC=>?_) (λC=>?_)
   ·array_get_dec
    refine ⟨by rw[Ad]; omega,?_⟩
    refine ⟨_,t++[(a:Int)],_,Tn (by rw[Bp]; rfl) rfl,r.more (by omega),Ie⟩
   ·array_get_dec
    exact ⟨_,t,_,rfl,r.up (by omega),Ie⟩
  ·(intro _ y; obtain ⟨p,t,v,rfl,r,O⟩ := y)
   rw[Cu] at r
   array_get_dec
   exact ⟨by omega,N t (by rwa [show ((h.toNat:Nat):Int)=h by omega] at r)⟩
theorem nC:FnScope ["_law_one", "_law_other"] ["_law_one", "_law_other"] (Bv Rr):=⟨rfl,rfl,rfl,by decide +kernel,rfl,by decide +kernel,by decide +kernel⟩
theorem nJ(F:Fun K "_law_lies" "_law_lies" Rr f t):FnOk P w K mg base Ja 1 f t ["_law_one", "_law_other"] (Vg K (vQ)):=by
 refine' Nh (k:=0) F nC (λq A n s H E v=>?hb) ?h
 case hb =>
  have m:=v.units
  have r:∀{d:Scope} (h:d={ kind:=.function,names:=[(".0",.local),("_law_place",.local),("_law_other",.free)],isGenerator:=false,isCoroutine:=false }),
    CompScope (Na Ja P w K mg base ["_law_one", "_law_other"] "_law_lies" (Bv Rr) f q A n s H E).nox d [("_law_other",s.heap.objs.size+1)] "_law_place" ["_law_other"] [1]:=by
   rintro d rfl
   refine ⟨by rfl,.inl (by decide +kernel),by rfl,by decide +kernel,.inl rfl,λy c h=>?_,by rfl,by decide +kernel,rfl,λk y j o p=>?_⟩
   ·have z:=Ge h
    simp only[Al,Ba,or_false,Hi] at z
    obtain ⟨rfl,rfl⟩:=z; rfl
   ·match k,o,p with
    | 0,o,p=>cases o; cases p; exact ⟨rfl,rfl,by first | exact .inl rfl | exact .inr rfl⟩
    | k+1,o,p=>cases o
  exact Ej (Ii (eV m (Oo (r rfl) rfl (NC (Ar (pv 0))) (λ_ _ _=>Xe (eS m (Ar (pv 0)) (Ar (pv 1)))) (λ_ _ _=>Ar (pv 0))) (Iz Bd)))
 case h =>
  (intro I R u; obtain ⟨a,b,rfl,x⟩ := u)
  refine ⟨rfl,?_⟩
  array_get_dec
  refine gV (l:=a) (g:=Az) rfl (λi=>decide (i∉b)) (λi=>.int i) (λi _ B G D C=>?_) ?_
  ·array_get_dec
   refine Wr (λh=>?_) (λh=>?_)
   ·array_get_dec
    exact D (by simpa using h)
   ·exact C (by simpa using h)
  ·array_get_dec
   have e:((a.filter λi=>decide (i∉b)).map Az).isEmpty=sub a b:=by
    rw[Jn,List.isEmpty_iff,List.map_eq_nil_iff]
    exact K8
   rw[e]
   exact x
theorem pW:FnScope ["holes"] ["holes"] (Bv Uc):=⟨rfl,rfl,rfl,by decide +kernel,rfl,by decide +kernel,by decide +kernel⟩
theorem rG(F:Fun K "order_of" "order_of" Uc f x)(g:FnOk P w K mg base Ja 1 a b ["holes"] (Vg K (dW)))(e:Binds K b ["holes"] [])(i:PySem.W.keepIn K (.ref a)=true)(d:mg "all_words" = some (.ref a))(c:mg "enumerate" = none):FnOk P w K mg base Ja 2 f x ["holes"] (Vg K (eI)):=by
 refine' Nh (k:=1) F pW (λu A m s H E y=>?hb) ?h
 case hb =>
  have q:Room 1 _:=y.mono (by decide)
  have o:=y.units
  have r:∀{j:Scope} (h:j={ kind:=.function,names:=[(".0",.local),("number",.local),("word",.local)],isGenerator:=false,isCoroutine:=false }),
    CompScope (Na Ja P w K mg base ["holes"] "order_of" (Bv Uc) f u A m s H E).nox j [] "number" [] []:=by
   rintro j rfl
   exact Nd.compScope0 (by rfl) (by decide +kernel) (by rfl) (by decide +kernel) (by rfl) (by rfl)
  exact Ej (Ii (zW o (r rfl) (.inl rfl) (by decide +kernel) rfl (Y9 rfl c (Ao (Gk g q rfl d i e Gi (Ao (Ar (pv 0)) Bd)) Bd)) (λ_ _ _=>Ng) (λ_ _ _=>Ar (pv 1)) (λ_ _ _=>Ar (pv 0))))
 case h =>
  (intro N R B; obtain ⟨h,rfl,G,v,D⟩ := B)
  refine ⟨rfl,?_⟩
  array_get_dec
  refine ⟨h,rfl,G,v,λL t z=>?_⟩
  have J:=Mr t
  have O:=(Te (n:=h.toNat) (by omega) t).1
  array_get_dec
  refine Z5 (l:=L.zipIdx) (g1:=λp=>.int p.2) (g2:=λp=>Bf p.1) (by rw[Z8,Dj]; rfl) (by rw[Kt]; omega) (λp=>p.1) (λp=>.int p.2) (by rw[List.zipIdx_map_fst]; exact J) (λp _ C M I=>?_) ?_
  ·array_get_dec
   exact I
  ·array_get_dec
   exact D L t z
theorem zZ:FnScope ["numbers", "order", "place", "times"] ["numbers", "order", "place", "times"] (Bv Zh):=⟨rfl,rfl,rfl,by decide +kernel,rfl,by decide +kernel,by decide +kernel⟩
theorem w4(F:Fun K "put_to" "put_to" Zh f N)(m:FnOk P w K mg base Ja 1 a b ["one", "other"] (Vg K M7))(e:Binds K b ["one", "other"] [])(g:PySem.W.keepIn K (.ref a)=true)(d:mg "together" = some (.ref a))(u:mg "zip" = none):FnOk P w K mg base Ja 2 f N ["numbers", "order", "place", "times"] (Vg K (xN)):=by
 refine' Nh (k:=1) F zZ (λJ A B s H E O=>?hb) ?h
 case hb =>
  have G:Room 1 _:=O.mono (by decide)
  have v:=O.units
  have I:∀{o:Scope} (h:o={ kind:=.function,names:=[(".0",.local),("word",.local),("number",.local),("together",.globalImplicit),("numbers",.free),("order",.free),("place",.free),("times",.free)],isGenerator:=false,isCoroutine:=false }),
    CompScope (Na Ja P w K mg base ["numbers", "order", "place", "times"] "put_to" (Bv Zh) f J A B s H E).nox o [("times",s.heap.objs.size+4),("place",s.heap.objs.size+3),("order",s.heap.objs.size+2),("numbers",s.heap.objs.size+1)] "word" ["numbers", "order", "place", "times"] [0,1,2,3]:=by
   rintro o rfl
   refine ⟨by rfl,.inl (by decide +kernel),by rfl,by decide +kernel,.inl rfl,λy c h=>?_,by rfl,by decide +kernel,rfl,λk y j q r=>?_⟩
   ·have z:=Ge h
    simp only[Al,Ba,or_false,Hi] at z
    rcases z with ⟨rfl,rfl⟩ | ⟨rfl,rfl⟩ | ⟨rfl,rfl⟩ | ⟨rfl,rfl⟩ <;> rfl
   ·match k,q,r with
    | 0,q,r=>cases q; cases r; exact ⟨rfl,rfl,by first | exact .inl rfl | exact .inr rfl⟩
    | 1,q,r=>cases q; cases r; exact ⟨rfl,rfl,by first | exact .inl rfl | exact .inr rfl⟩
    | 2,q,r=>cases q; cases r; exact ⟨rfl,rfl,by first | exact .inl rfl | exact .inr rfl⟩
    | 3,q,r=>cases q; cases r; exact ⟨rfl,rfl,by first | exact .inl rfl | exact .inr rfl⟩
    | k+4,q,r=>cases q
  exact Ej (Ii (N4 (I rfl) (.inl rfl) (by decide +kernel) rfl (mW rfl u (Ao (Ar (pv 1)) (Ao (Ar (pv 0)) Bd))) (λ_ _ _=>Ng) (λ_ _ _=>HD (EA v (Ar (pv 4)) (Ar (pv 0))) (Ar (pv 1)) (cB (Ar (pv 1)) (GY (Ar (pv 5)) (Iw (Ar (pv 2)) (Ww v (Ar (pv 3)) (Gk m G rfl d g e Gi (Ao (Ar (pv 0)) (Ao (Sh (Ao (Qi (Ar (pv 4))) Bd)) Bd))))))))))
 case h =>
  (intro ds R X; obtain ⟨n,L,f,p,t,rfl,hn,Z,U,Y,V,M⟩ := X)
  refine ⟨rfl,?_⟩
  have Q:=λw=>(Hd (w:=w) Z)
  unfold Hr qJ
  array_get_dec
  rw[mX]
  refine HE (l:=L) (g1:=Bf) (g2:=λw=>.int (f w)) rfl (λ_=>true) (λw=>.int (Rl p t f w)) (λw hw h0 no C _=>?_) ?_
  ·have C:=C rfl
   have D:=(Q w).mp hw
   unfold Rl at C
   array_get_dec
   refine LJ (λh=>?_) (λh=>?_)
   ·array_get_dec
    rw[if_pos (of_decide_eq_true h)] at C
    exact C
   ·rw[if_neg (of_decide_eq_false h)] at C
    have rp:=Tv D U Y
    obtain ⟨i,q,r⟩:=nE ((Q _).mpr rp)
    have S:=K2 (f:=f) q
    array_get_dec
    refine ⟨w,[p],rfl,D.up (by omega),⟨Em _ _,λx T=>by rw[Aj.mp T]; omega⟩,?_⟩
    array_get_dec
    refine ⟨_,r,?_⟩
    array_get_dec
    refine ⟨_,S,?_⟩
    have ct:AL t (f (Mv (w++[p]))):=by rcases V with rfl | rfl <;> exact .inl ⟨by decide,by decide⟩
    array_get_dec
    exact ⟨ct,C⟩
  ·rw[Mp.mpr λ_ _=>rfl]
   array_get_dec
   unfold Hr at M
   rw[Dj] at M
   exact M
theorem lX:FnScope ["order", "numbers", "places", "told", "place"] ["order", "numbers", "places"] (Bv Vk):=⟨rfl,rfl,rfl,by decide +kernel,rfl,by decide +kernel,by decide +kernel⟩
theorem nB(F:Fun K "parted_by" "parted_by" Vk f x)(e:FnOk P w K mg base Ja 2 a b ["numbers", "order", "place", "times"] (Vg K (xN)))(j:Binds K b ["numbers", "order", "place", "times"] [])(c:PySem.W.keepIn K (.ref a)=true)(d:mg "put_to" = some (.ref a)):FnOk P w K mg base Ja 3 f x ["order", "numbers", "places"] (JD K (iG)):=by
 refine' J1 (k:=2) F lX (λI A u s H E t=>?hb) ?h
 case hb =>
  have B:Room 1 _:=t.mono (by decide)
  have p:Room 2 _:=t.mono (by decide)
  have y:=t.units
  exact Cn (Ex (i:=3) lX.nd rfl (Dk rfl) (Ar (pv 1)))
   (Cn (Od Et rfl (NC (Ar (pv 2))) (Hz (i:=4) lX.nd rfl (Dk rfl))
   (Ej (Ex (i:=3) lX.nd rfl (Dk rfl) (Gk e p rfl d c j Gi (Ao (Ar (pv 3)) (Ao (Ar (pv 0)) (Ao (Ar (pv 4)) (Ao (C4 Dt) Bd))))))))
   (Ej (Ii (Ar (pv 3)))))
 case h =>
  (intro N R m; obtain ⟨n,L,f,Q,rfl,M,G,C,J⟩ := m)
  refine ⟨rfl,?_⟩
  array_get_dec
  refine bC (l:=Q) (g:=Az) rfl (λi D=>∃(o:DV),D=⟨[.dat .sh (qJ L),.dat .sh (Hr L f),.dat .sh (Bf Q),.dat .sh (Hr L (Ha (Q.take i) f)),o],0⟩/\NP o) ?_ ?_ ?_
  ·exact ⟨_,rfl,Ra⟩
  ·(intro i q _ z m; obtain ⟨o,rfl,r⟩ := m)
   have v:=C q (Bj z)
   array_get_dec
   refine ⟨n,L,Ha (Q.take i) f,q,-1,rfl,M,G,v.1,v.2,.inr rfl,?_⟩
   try array_get_dec
   refine ⟨.dat .sh (.int q),Tn ?_ rfl,Ie⟩
   rw[Ft z,Qa]
  ·(intro _ m; obtain ⟨o,rfl,r⟩ := m)
   rw[Ek]
   array_get_dec
   exact J
theorem zP:FnScope ["holes", "deck", "order", "told", "card", "place"] ["holes", "deck"] (Bv fY):=⟨rfl,rfl,rfl,by decide +kernel,rfl,by decide +kernel,by decide +kernel⟩
theorem o8(F:Fun K "counts" "counts" fY f fd)(y:FnOk P w K mg base Ja 2 d p ["holes"] (Vg K (eI)))(u:Binds K p ["holes"] [])(r:PySem.W.keepIn K (.ref d)=true)(t:mg "order_of" = some (.ref d))(G:FnOk P w K mg base Ja 2 o q ["numbers", "order", "place", "times"] (Vg K (xN)))(I:Binds K q ["numbers", "order", "place", "times"] [])(B:PySem.W.keepIn K (.ref o)=true)(D:mg "put_to" = some (.ref o))(N:mg "len" = none)(C:mg "range" = none):FnOk P w K mg base Ja 3 f fd ["holes", "deck"] (Vg K (gZ)):=by
 refine' Nh (k:=2) F zP (λh4 A h1 s H E Z=>?hb) ?h
 case hb =>
  have h3:Room 1 _:=Z.mono (by decide)
  have S:Room 2 _:=Z.mono (by decide)
  have U:=Z.units
  exact Cn (Ex (i:=2) zP.nd rfl (Dk rfl) (Gk y S rfl t r u Gi (Ao (Ar (pv 0)) Bd)))
   (Cn (Xa (i:=3) zP.nd rfl (Dk rfl) (C5 (Iz (Ao Dt Bd)) (Ju zG Y2 rfl N (by decide +kernel) (Ao (Ar (pv 2)) Bd))))
   (Cn (Od Et rfl (U9 (Ar (pv 1))) (Hz (i:=4) zP.nd rfl (Dk rfl))
   (Ej (AJ (pv 3) (Ww U (Ar (pv 2)) (Ar (pv 4))) Dt)))
   (Cn (Od Et rfl (Jw rfl C (Ao (Ar (pv 0)) Bd)) (Hz (i:=5) zP.nd rfl (Dk rfl))
   (Ej (Xa (i:=3) zP.nd rfl (Dk rfl) (Gk G S rfl D B I Gi (Ao (Ar (pv 3)) (Ao (Ar (pv 2)) (Ao (Ar (pv 5)) (Ao Dt Bd))))))))
   (Ej (Ii (eL (pv 3)))))))
 case h =>
  (intro ds R O; obtain ⟨h,b,rfl,h0,h2,hd,hR⟩ := O)
  refine ⟨rfl,?_⟩
  array_get_dec
  refine ⟨h,rfl,h0,h2,λL Q po=>?_⟩
  have nd:=Mr Q
  have ll:=(Te (n:=h.toNat) (by omega) Q).1
  have en:((h.toNat:Nat):Int)=h:=by omega
  have hm:=λw=>(Hd (w:=w) Q)
  unfold qJ
  array_get_dec
  rw[CG]
  refine ⟨by omega,by omega,by rw[Ed]; omega,?_⟩
  have e0:(Cc (L.length:Int).toNat [Az 0]).flatten=(L.map (Pd [])).map Az:=by
   rw[Ed]
   clear Q po nd ll hm
   induction L with
   | nil=>rfl
   | cons x L ih=>rw[Bh,Gx,Jq,ih]; rfl
  rw[e0]
  refine bC (l:=b) (g:=Bf) rfl (λi δ=>∃(T M:DV),δ=⟨[.dat .sh (.int h),.dat .sh (.list (b.map Bf)),.dat .sh (.dict (Qs (oQ L))),.dat .ow (.list ((L.map (Pd (b.take i))).map Az)),T,M],0⟩/\NP T/\NP M) ?_ ?_ ?_
  ·exact ⟨_,_,rfl,Ra,Ra⟩
  ·(intro i c _ X O; obtain ⟨T,M,rfl,Y,J⟩ := O)
   have cm:c∈L:=(hm c).mpr (by rw[en]; exact hd c (Bj X))
   obtain ⟨j,e1,e2⟩:=nE cm
   have hj:=(Bb.mp e1).1
   array_get_dec
   refine ⟨_,e2,?_⟩
   array_get_dec
   refine ⟨by omega,Pd (b.take i) c,by rw[Ed,Bg,Bg,e1]; rfl,?_⟩
   refine ⟨by simp [npk,J _],by rw[Ad,Ad]; omega,?_⟩
   refine ⟨.dat .sh (Bf c),M,Tn ?_ rfl,Ie,J⟩
   rw[Ed,wK nd e1]
   have e4:(λv=>if v=c then Pd (b.take i) c+1 else Pd (b.take i) v)=Pd (b.take (i+1)):=by
    funext v
    unfold Pd
    rw[Ft X,List.count_append]
    by_cases e:v=c
    ·subst e; simp
    ·have : ¬ c=v:=λz=>e z.symm
     simp [e,this,List.count_singleton]
   rw[e4]
  ·(intro _ O; obtain ⟨T,M,rfl,Y,J⟩ := O)
   have V:∀c∈b,Cz (h.toNat:Int) c:=λc X=>by rw[en]; exact hd c X
   rw[Ek]
   array_get_dec
   refine ⟨by omega,by omega,?_⟩
   refine bC (l:=Bw h.toNat) (g:=λi:Nat=>.int i) rfl (λi δ=>∃(m:Md) (M:DV),δ=⟨[.dat .sh (.int h),.dat .sh (.list (b.map Bf)),.dat .sh (.dict (Qs (oQ L))),.dat .ow (Hr L (bG b i)),T,M],0⟩/\NP M) ?_ ?_ ?_
   ·refine ⟨.ow,_,Tn ?_ rfl,J⟩
    rw[Xc (f:=bG b 0) (g:=Pd b) λw hw=>W9 V ((hm w).mp hw)]
    rfl
   ·(intro i a _ ha O; obtain ⟨m,M,rfl,J⟩ := O)
    obtain ⟨rfl,hi⟩:=Qk ha
    array_get_dec
    refine ⟨h.toNat,L,bG b a,a,1,rfl,by omega,Q,by omega,by omega,.inl rfl,?_⟩
    try array_get_dec
    refine ⟨.ow,.dat .sh (.int a),Tn ?_ rfl,Ie⟩
    rw[Xc (f:=Rl a 1 (bG b a)) (g:=bG b (a+1)) λw _=>Z9 b a w]
   ·(intro _ O; obtain ⟨m,M,rfl,J⟩ := O)
    rw[Cu]
    array_get_dec
    have:=hR L Q po
    rw[Xc (f:=Hq b) (g:=bG b h.toNat) λw _=>(BP V w).symm] at this
    exact this
theorem BM:FnScope ["holes", "numbers", "notched", "whole", "order"] ["holes", "numbers", "notched", "whole"] (Bv tS):=⟨rfl,rfl,rfl,by decide +kernel,rfl,by decide +kernel,by decide +kernel⟩
theorem AX(F:Fun K "just" "just" tS f I)(p:FnOk P w K mg base Ja 2 b d ["holes"] (Vg K (eI)))(o:Binds K d ["holes"] [])(m:PySem.W.keepIn K (.ref b)=true)(n:mg "order_of" = some (.ref b))(j:FnOk P w K mg base Ja 3 a c ["order", "numbers", "places"] (JD K (iG)))(l:Binds K c ["order", "numbers", "places"] [])(e:PySem.W.keepIn K (.ref a)=true)(g:mg "parted_by" = some (.ref a)):FnOk P w K mg base Ja 4 f I ["holes", "numbers", "notched", "whole"] (Vg K (L4)):=by
 refine' Nh (k:=3) F BM (λV A B s H E t=>?hb) ?h
 case hb =>
  have M:Room 1 _:=t.mono (by decide)
  have u:Room 2 _:=t.mono (by decide)
  have v:Room 3 _:=t.mono (by decide)
  have r:=t.units
  exact Cn (Ex (i:=4) BM.nd rfl (Dk rfl) (Gk p u rfl n m o Gi (Ao (Ar (pv 0)) Bd)))
   (Ej (Ii (Qi (Iw (rP j v rfl g e l Gi (Ao (Ar (pv 4)) (Ao (Ar (pv 1)) (Ao (Ar (pv 3)) Bd)))) (Ww r (Ar (pv 4)) (Ar (pv 2)))))))
 case h =>
  (intro ds R U; obtain ⟨h,L,f,w,Q,rfl,Z,D,z,T,C,O,Y⟩ := U)
  refine ⟨rfl,?_⟩
  have G:((h.toNat:Nat):Int)=h:=by omega
  array_get_dec
  refine ⟨h,rfl,Z,D,λJ x y=>?_⟩
  obtain rfl:J=L:=Ow (x.trans z.symm) y T
  array_get_dec
  refine ⟨h.toNat,J,f,Q,rfl,by omega,z,λq X=>by rw[G]; exact O q X,?_⟩
  obtain ⟨i,e1,S⟩:=nE ((Hd z).mpr (by rw[G]; exact C))
  have N:=K2 (f:=Ha Q f) e1
  unfold qJ Hr
  array_get_dec
  refine ⟨_,S,?_⟩
  array_get_dec
  refine ⟨_,N,?_⟩
  array_get_dec
  exact Y
theorem nU:FnScope ["_law_draws_here", "_law_holes", "_law_limit", "_law_deck_here", "_law_k", "_law_card", "_law_pick", "_law_place"] ["_law_draws_here", "_law_holes", "_law_limit"] (Bv Vl):=⟨rfl,rfl,rfl,by decide +kernel,rfl,by decide +kernel,by decide +kernel⟩
theorem lT(F:Fun K "_law_deck" "_law_deck" Vl f fd)(y:FnOk P w K mg base Ja 1 o u ["_law_draws_here"] (j9 K eU))(v:Binds K u ["_law_draws_here"] [])(r:PySem.W.keepIn K (.ref o)=true)(t:mg "_law_next" = some (.ref o))(G:FnOk P w K mg base Ja 2 j p ["_law_draws_here", "_law_holes"] (j9 K (nW)))(I:Binds K p ["_law_draws_here", "_law_holes"] [])(J:PySem.W.keepIn K (.ref j)=true)(C:mg "_law_small" = some (.ref j))(Q:mg "range" = none)(M:mg "len" = none)(L:mg "sorted" = none)(T:mg "set" = none)(S:mg "tuple" = none):FnOk P w K mg base Ja 3 f fd ["_law_draws_here", "_law_holes", "_law_limit"] (j9 K (O2)):=by
 refine' yO (k:=2) F nU (λk3 A k0 s H E hr=>?hb) ?h
 case hb =>
  have h3:Room 1 _:=hr.mono (by decide)
  have h5:Room 2 _:=hr.mono (by decide)
  have O:=hr.units
  exact Cn (Xa (i:=3) nU.nd rfl (Dk rfl) (Iz Bd))
   (Cn (Od Et rfl (Jw rfl Q (Ao (Qv (Kj y h3 rfl t r v Gi (pv 0) Bd) (cB (Ar (pv 2)) Dt)) Bd)) (Hz (i:=4) nU.nd rfl (Dk rfl))
   (Cn (Ex (i:=5) nU.nd rfl (Dk rfl) (Kj G h5 rfl C J I Gi (pv 0) (Ao (Ar (pv 1)) Bd)))
    (Cn (Ex (i:=6) nU.nd rfl (Dk rfl) (Kj y h3 rfl t r v Gi (pv 0) Bd))
    (Cn (Vz (X2 (tV (cN O (Ar (pv 3)) (Iz Bd)) (oP (yJ O (Qv (Ar (pv 6)) Dt) Dt))))
    (Ej (Ex (i:=5) nU.nd rfl (Dk rfl) (Qi (Iw (Ar (pv 3)) (Qv (mF (Ar (pv 6)) Dt) (Ju Qj Yq rfl M (by decide +kernel) (Ao (Ar (pv 3)) Bd))))))) Qr)
    (Cn (Vz (X2 (tV (cN O (Ar (pv 3)) (Iz Bd)) (oP (yJ O (Qv (Ar (pv 6)) Dt) Dt))))
    (Cn (Ex (i:=5) nU.nd rfl (Dk rfl) (Qi (Iw (Ar (pv 3)) (Qv (mF (Ar (pv 6)) Dt) (Ju Qj Yq rfl M (by decide +kernel) (Ao (Ar (pv 3)) Bd))))))
     (Cn (Ex (i:=7) nU.nd rfl (Dk rfl) (Qv (mF (Ar (pv 6)) Dt) (Ar (pv 1))))
     (Ej (Ex (i:=5) nU.nd rfl (Dk rfl) (Kn Wf (Wc (i:=true)) rfl S (by decide +kernel) (Ao (FC rfl rfl L rfl T (Ao (eJ (Ar (pv 5)) (Sh (Ao (Qi (Ar (pv 7))) Bd))) Bd)) Bd)))))) Qr)
    (Ej (bY (pv 3) (Ar (pv 5)))))))))
   (Ej (Ii (eL (pv 3)))))
 case h =>
  (intro ds n R U; obtain ⟨h,m,rfl,h0,h1,m0,m1,hn,hR⟩ := U)
  refine ⟨rfl,?_⟩
  array_get_dec
  refine ⟨rfl,by omega,λr1=>?_⟩
  array_get_dec
  have bm:=Yk r1 (b:=m+1) (by omega)
  refine ⟨by omega,by omega,by omega,?_⟩
  refine bC (l:=Bw (r1 % (m+1)).toNat) (g:=λi:Nat=>.int i) rfl (λi δ=>∃(d:List (List Int)) (v4 v5 v6 V:DV) (n':Nat),δ=⟨[.drw,.dat .sh (.int h),.dat .sh (.int m),.dat .ow (.list (d.map Bf)),v4,v5,v6,V],n'⟩/\n'=n+1+2 * i/\d.length=i/\(∀c∈d,Cz h c)/\NP v4/\NP v5/\NP v6/\NP V) ?_ ?_ ?_
  ·exact ⟨[],_,_,_,_,_,rfl,rfl,rfl,λ_ z=>(nomatch z),Ra,Ra,Ra,Ra⟩
  ·(intro i a _ ha U; obtain ⟨d,v4,v5,v6,V,n1,rfl,k1,ld,hd,h6,h8,h9,D⟩ := U)
   obtain ⟨rfl,hi⟩:=Qk ha
   array_get_dec
   refine ⟨h,rfl,h0,by omega,by omega,λw h4=>?_⟩
   array_get_dec
   refine ⟨rfl,by omega,λr2=>?_⟩
   array_get_dec
   have Y:∀q:Int,d≠[]->∃c∈d,aR (d.map Bf) (q % ((d.map Bf).length:Int))=some (Bf c):=λq B=>by
    have hl:0<d.length:=Mo.mpr B
    have bl:=Yk q (b:=((d.map Bf).length:Int)) (by rw[Ad]; omega)
    rw[Ad] at bl ⊢
    exact yX bl.1 bl.2
   refine DZ (λP=>CN _ _ _ P) (λδ=>∃(c:List Int),δ=⟨[.drw,.dat .sh (.int h),.dat .sh (.int m),.dat .ow (.list (d.map Bf)),.dat .sh (.int a),.dat .sh (Bf c),.dat .sh (.int r2),V],n1+1+1⟩/\Cz h c) (λN hN=>?_) ?_
   ·refine uL (λX=>?_) (λX=>?_)
    ·have B:d≠[]:=λz=>by rw[z] at X; cases X
     array_get_dec
     refine qQ (λZ=>?_) (λZ=>?_)
     ·obtain ⟨c,hc,e⟩:=Y (r2 / 3) B
      have hl:0<d.length:=Mo.mpr B
      array_get_dec
      rw[e]
      refine ⟨by rw[Ad]; omega,Bf c,rfl,?_⟩
      try array_get_dec
      exact hN _ ⟨c,rfl,hd c hc⟩
     ·array_get_dec
      exact hN _ ⟨w,rfl,h4⟩
    ·array_get_dec
     exact hN _ ⟨w,rfl,h4⟩
   ·(intro _ U; obtain ⟨c,rfl,rc⟩ := U)
    array_get_dec
    refine DZ (λP=>CN _ _ _ P) (λδ=>∃(c:List Int) (V:DV),δ=⟨[.drw,.dat .sh (.int h),.dat .sh (.int m),.dat .ow (.list (d.map Bf)),.dat .sh (.int a),.dat .sh (Bf c),.dat .sh (.int r2),V],n1+1+1⟩/\Cz h c/\NP V) (λN hN=>?_) ?_
    ·refine uL (λX=>?_) (λX=>?_)
     ·have B:d≠[]:=λz=>by rw[z] at X; cases X
      array_get_dec
      refine qQ (λZ=>?_) (λZ=>?_)
      ·obtain ⟨c2,h7,e⟩:=Y (r2 / 3) B
       have hl:0<d.length:=Mo.mpr B
       have bh:=Yk (r2 / 300) h0
       have h2:=hd c2 h7
       have k2:=Yi (h2.up (show h<=60 by omega))
       array_get_dec
       rw[e]
       refine ⟨by rw[Ad]; omega,Bf c2,rfl,?_⟩
       array_get_dec
       refine ⟨by omega,by rw[Ad]; omega,c2++[r2 / 300 % h],by rw[Bp]; rfl,λx hx=>?_,?_⟩
       ·rcases Aw.mp hx with z | z
        ·have:=h2.2 x z; omega
        ·rw[Aj.mp z]; omega
       ·try array_get_dec
        exact hN _ ⟨_,_,rfl,Tv h2 bh.1 bh.2,Ie⟩
      ·array_get_dec
       exact hN _ ⟨c,_,rfl,rc,D⟩
     ·array_get_dec
      exact hN _ ⟨c,_,rfl,rc,D⟩
    ·clear D
     (intro _ U; obtain ⟨c,V,rfl,rc,D⟩ := U)
     array_get_dec
     refine ⟨by simp [npk,D _],by rw[Ad]; omega,?_⟩
     refine ⟨d++[c],_,_,_,_,_,Tn (by rw[Bp]; rfl) rfl,by omega,by rw[Bm,Fi]; omega,λx hx=>?_,Ie,Ie,Ie,D⟩
     rcases Aw.mp hx with z | z
     ·exact hd x z
     ·rw[Aj.mp z]; exact rc
  ·(intro _ U; obtain ⟨d,v4,v5,v6,V,n1,rfl,k1,ld,hd,h6,h8,h9,D⟩ := U)
   rw[Cu] at k1 ld
   array_get_dec
   exact ⟨by omega,hR d _ (by omega) (by omega) (by omega) hd⟩
end
def Xs(L:List (List Int))(c:List Int->Int):List Af:=L.flatMap λw=>Cc (c w).toNat (Bf w)
def gY:PF:=λa R=>∃(h:Int) (L:List (List Int)) (f:List Int->Int),a=[.int h,Hr L f]/\0<=h/\h<=10/\L.Perm (Du h.toNat)/\Ord L /\
 ((∀w∈L,0<=Ha (Ji h.toNat) f w)->(Xs L (Ha (Ji h.toNat) f)).length<=10000/\R (.tuple [.str (Cq "deck"),.list (Xs L (Ha (Ji h.toNat) f))])) /\
 ∀w∈L,Ha (Ji h.toNat) f w<0->R (.tuple [.str (Cq "never"),Bf w])
section
variable{P:Bn}{w:World}{K:PySem.W.Frag}{mg:Str->Option Value}{base:Heap}
theorem uQ:FnScope ["holes", "numbers", "order", "many", "word", "cards"] ["holes", "numbers"] (Bv Wn):=⟨rfl,rfl,rfl,by decide +kernel,rfl,by decide +kernel,by decide +kernel⟩
theorem vD(F:Fun K "deck_of" "deck_of" Wn f fd)(C:FnOk P w K mg base Ja 2 d j ["holes"] (Vg K (eI)))(B:Binds K j ["holes"] [])(u:PySem.W.keepIn K (.ref d)=true)(v:mg "order_of" = some (.ref d))(r:FnOk P w K mg base Ja 3 a e ["order", "numbers", "places"] (JD K (iG)))(t:Binds K e ["order", "numbers", "places"] [])(o:PySem.W.keepIn K (.ref a)=true)(p:mg "parted_by" = some (.ref a))(I:mg "tuple" = none)(m:mg "range" = none)(G:mg "zip" = none):FnOk P w K mg base Ja 4 f fd ["holes", "numbers"] (Vg K (gY)):=by
 refine' Nh (k:=3) F uQ (λh4 A M s H E U=>?hb) ?h
 case hb =>
  have h7:Room 1 _:=U.mono (by decide)
  have V:Room 2 _:=U.mono (by decide)
  have Y:Room 3 _:=U.mono (by decide)
  have h6:=U.units
  have h2:∀{D:Scope} (h:D={ kind:=.function,names:=[(".0",.local),("word",.local),("cards",.local),("card",.local),("range",.globalImplicit)],isGenerator:=false,isCoroutine:=false }),
    CompScope (Na Ja P w K mg base ["holes", "numbers", "order", "many", "word", "cards"] "deck_of" (Bv Wn) f h4 A M s H E).nox D [] "word" [] []:=by
   rintro D rfl
   exact Nd.compScope0 (by rfl) (by decide +kernel) (by rfl) (by decide +kernel) (by rfl) (by rfl)
  exact Cn (Ex (i:=2) uQ.nd rfl (Dk rfl) (Gk C V rfl v u B Gi (Ao (Ar (pv 0)) Bd)))
   (Cn (Ex (i:=3) uQ.nd rfl (Dk rfl) (rP r Y rfl p o t Gi (Ao (Ar (pv 2)) (Ao (Ar (pv 1)) (Ao (j4 rfl rfl I rfl m (Ar (pv 0))) Bd)))))
   (Cn (Od Et rfl (mW rfl G (Ao (Ar (pv 2)) (Ao (Ar (pv 3)) Bd))) (P5 (n:=2) rfl (Qz (Hz (i:=4) uQ.nd rfl (Dk rfl)) (Qz (Hz (i:=5) uQ.nd rfl (Dk rfl)) oE)))
   (Ej (Vz (CV (Ar (pv 5)) Dt)
    (Ej (Ii (Sh (Ao mN (Ao (Qi (Ar (pv 4))) Bd))))) Qr)))
   (Ej (Ii (Sh (Ao mN (Ao (J9 (b:=true) (h2 rfl) (.inl rfl) (.inl rfl) (by decide +kernel) rfl (mW rfl G (Ao (Ar (pv 2)) (Ao (Ar (pv 3)) Bd))) (λ_ _ _=>Jw rfl m (Ao (Ar (pv 1)) Bd)) (λ_ _ _=>Ar (pv 0))) Bd)))))))
 case h =>
  (intro ds R Q; obtain ⟨h,L,f,rfl,h0,h5,pe,po,hD,hN⟩ := Q)
  refine ⟨rfl,?_⟩
  have en:((h.toNat:Nat):Int)=h:=by omega
  array_get_dec
  refine ⟨h,rfl,h0,h5,λJ h1 h3=>?_⟩
  obtain rfl:J=L:=Ow (h1.trans pe.symm) h3 po
  array_get_dec
  refine ⟨h0,by omega,?_⟩
  array_get_dec
  refine ⟨h.toNat,J,f,Ji h.toNat,rfl,by omega,pe,λq hq=>?_,?_⟩
  ·unfold Ji at hq
   obtain ⟨k,hk,rfl⟩:=Cm.mp hq
   have:=Hs.mp hk
   omega
  generalize Ha (Ji h.toNat) f=c at hD hN
  unfold qJ Hr
  array_get_dec
  rw[mX]
  refine bC (l:=J) (g:=λw=>.tuple [Bf w,.int (c w)]) rfl (λi δ=>∃(Z X:DV),δ=⟨[.dat .sh (.int h),.dat .sh (.list ((J.map f).map Az)),.dat .sh (.dict (Qs (oQ J))),.dat .sh (.list ((J.map c).map Az)),Z,X],0⟩/\∀w∈J.take i,0<=c w) ?_ ?_ ?_
  ·exact ⟨_,_,rfl,λ_ z=>(nomatch z)⟩
  ·(intro i w _ S Q; obtain ⟨Z,X,rfl,N⟩ := Q)
   array_get_dec
   refine qQ (λT=>?_) (λT=>?_)
   ·array_get_dec
    exact hN w (Bj S) (of_decide_eq_true T)
   ·array_get_dec
    refine ⟨_,_,rfl,λx hx=>?_⟩
    rw[Ft S] at hx
    rcases Aw.mp hx with z | z
    ·exact N x z
    ·rw[Aj.mp z]
     have:=of_decide_eq_false T
     omega
  ·(intro _ Q; obtain ⟨Z,X,rfl,N⟩ := Q)
   rw[Ek] at N
   obtain ⟨hl,hR⟩:=hD N
   array_get_dec
   rw[mX]
   refine LZ (l:=J) (g1:=Bf) (g2:=λw=>.int (c w)) rfl (λw=>Cc (c w).toNat (Bf w)) (iQ (Ca hl (by decide))) (λw S h9 k0 hz hf=>?_) ?_
   ·have c0:=N w S
    have c1:(c w).toNat<=10000:=by
     obtain ⟨i,hi⟩:=yR.mp S
     have:=sI (λw=>Cc (c w).toNat (Bf w)) hi
     rw[Pb] at this
     unfold Xs at hl
     omega
    array_get_dec
    refine ⟨by omega,by omega,OO (l:=Bw (c w).toNat) (g:=λi:Nat=>.int i) rfl (λ_=>Bf w) (by rw[Cu]; rw[Pb] at hz; exact hz) (λy hy h8 O=>?_) ?_⟩
    ·show Qt Oq _ _ _ _
     array_get_dec
     exact O
    ·rw[List.map_const',Cu]
     exact hf
   ·array_get_dec
    exact ⟨_,rfl,hR⟩
end
def iO(L:List (List Int)):Af:=.list (L.map Bf)
def pY:PF:=λa R=>∃(h:Int) (L:List (List Int)) (f:List Int->Int),a=[iO L,Hr L f,.int h]/\0<=h/\h<=10/\L.Perm (Du h.toNat)/\R (.dict (Qs (Ub L (Ha (Ji h.toNat) f))))
theorem r6(r:Cz n w)(i:p∉w):gE (w++[p])=Mv (w++[p]):=by
 have c:(Mv (w++[p])).Pairwise (· < ·):=Ti _
 have g:(Mv (w++[p])).Nodup:=c.imp λh=>eQ h
 have d:(w++[p]).Nodup:=Fz.mpr ⟨fN r,by simp,λa e b f=>by rw[Aj.mp f]; rintro rfl; exact i e⟩
 exact (pV ((oW g d).mpr λa=>hZ) (c.imp λh=>Int.le_of_lt h)).symm
theorem U0{a:Type}{L:List a}{w:a}(b:L.Nodup)(h:L[j]? = some w):w∉L.take j:=by
 have n:=b.sublist (Jp (j+1) L)
 rw[Ft h,List.nodup_append] at n
 exact λz=>n.2.2 w z w Ab rfl
theorem o5(hw:w∉T)(a:p∉w):(λv=>if v=w then Nr p g T w - Nr p g T (Mv (w++[p])) else Nr p g T v)=Nr p g (T++[w]):=by
 funext v
 by_cases e:v=w
 ·subst e
  rw[if_pos rfl,CB (w:=Mv (v++[p])) (yF.mpr (.inr rfl))]
  unfold Nr
  rw[if_neg hw,if_pos (Ag _ Ab)]
  unfold Rl
  rw[if_neg a]
  omega
 ·rw[if_neg e]
  unfold Nr
  by_cases z:v∈T
  ·rw[if_pos z,if_pos (Am _ z)]
  ·rw[if_neg z,if_neg λq=>(Aw.mp q).elim z λq=>e (Aj.mp q)]
theorem i5(a:p∈w):Nr p g T=Nr p g (T++[w]):=by
 funext v
 unfold Nr
 by_cases z:v∈T
 ·rw[if_pos z,if_pos (Am _ z)]
 ·rw[if_neg z]
  by_cases e:v=w
  ·subst e
   rw[if_pos (Ag _ Ab)]
   unfold Rl
   rw[if_pos a]
  ·rw[if_neg λq=>(Aw.mp q).elim z λq=>e (Aj.mp q)]
section
variable{P:Bn}{w:World}{K:PySem.W.Frag}{mg:Str->Option Value}{base:Heap}
theorem dA:FnScope ["_law_words_here", "_law_numbers", "_law_holes", "_law_told", "_law_place", "_law_word"] ["_law_words_here", "_law_numbers", "_law_holes"] (Bv Qy):=⟨rfl,rfl,rfl,by decide +kernel,rfl,by decide +kernel,by decide +kernel⟩
theorem cZ(F:Fun K "_law_just_so" "_law_just_so" Qy f J)(o:mg "dict" = none)(q:mg "zip" = none)(e:mg "range" = none)(d:mg "sorted" = none)(m:mg "tuple" = none):FnOk P w K mg base Ja 1 f J ["_law_words_here", "_law_numbers", "_law_holes"] (Vg K (pY)):=by
 refine' Nh (k:=0) F dA (λU A I s H E Q=>?hb) ?h
 case hb =>
  have b:=Q.units
  exact Cn (Xa (i:=3) dA.nd rfl (Dk rfl) (M6 b rfl o rfl q rfl (Ao (Ar (pv 0)) (Ao (Ar (pv 1)) Bd))))
   (Cn (Od Et rfl (Jw rfl e (Ao (Ar (pv 2)) Bd)) (Hz (i:=4) dA.nd rfl (Dk rfl))
   (Ej (Od Et rfl (U9 (Ar (pv 0))) (Hz (i:=5) dA.nd rfl (Dk rfl))
    (Ej (Vz (eS b (Ar (pv 4)) (Ar (pv 5)))
     (Ej (Z1 b (pv 3) (Ar (pv 5)) (EZ (Ww b (Ar (pv 3)) (Ar (pv 5))) (Ww b (Ar (pv 3)) (Kn Wf (Wc (i:=true)) rfl m (by decide +kernel) (Ao (Ju nR C2 rfl d (by decide +kernel) (Ao (eJ (Ar (pv 5)) (Sh (Ao (Qi (Ar (pv 4))) Bd))) Bd)) Bd)))))) Qr)))))
   (Ej (Ii (eL (pv 3)))))
 case h =>
  (intro ds R r; obtain ⟨h,L,f,rfl,h0,Y,G,V⟩ := r)
  refine ⟨rfl,?_⟩
  have N:=Mr G
  have ll:=(Te (n:=h.toNat) (by omega) G).1
  have M:=λw=>(Hd (w:=w) G)
  unfold iO Hr
  array_get_dec
  refine ⟨by rw[Ad]; omega,L,rfl,by omega,by omega,?_⟩
  rw[P7 N f]
  refine bC (l:=Bw h.toNat) (g:=λi:Nat=>.int i) rfl (λi D=>∃(B p:DV),D=⟨[.dat .sh (.list (L.map Bf)),.dat .sh (.list ((L.map f).map Az)),.dat .sh (.int h),.dat .ow (.dict (Qs (Ub L (Ha (Ji i) f)))),B,p],0⟩/\NP B/\NP p) ?_ ?_ ?_
  ·exact ⟨_,_,rfl,Ra,Ra⟩
  ·(intro i a _ T r; obtain ⟨B,p,rfl,C,c⟩ := r)
   obtain ⟨rfl,hi⟩:=Qk T
   array_get_dec
   rw[bN,Qa]
   generalize Ha (Ji a) f=g
   refine bC (l:=L) (g:=Bf) rfl (λj D=>∃(p:DV),D=⟨[.dat .sh (.list (L.map Bf)),.dat .sh (.list ((L.map f).map Az)),.dat .sh (.int h),.dat .ow (.dict (Qs (Ub L (Nr a g (L.take j))))),.dat .sh (.int a),p],0⟩/\NP p) ?_ ?_ ?_
   ·refine ⟨_,Tn ?_ rfl,c⟩
    rw[show Nr (a:Int) g (L.take 0)=g by funext v; unfold Nr; rw[if_neg (λz=>nomatch z)]]
   ·clear c
    (intro j w _ x r; obtain ⟨p,rfl,c⟩ := r)
    have wL:=Bj x
    have t:=(M w).mp wL
    have W:(a:Int)∉w->Cz (h.toNat:Int) (Mv (w++[(a:Int)])):=λ_=>Tv t (by omega) (by omega)
    have Z:=Yi (t.up (show ((h.toNat:Nat):Int)<=60 by omega))
    have S:w∉L.take j:=U0 N x
    have X:=eE (f:=Nr a g (L.take j)) wL
    array_get_dec
    refine qQ (λu=>?_) (λu=>?_)
    ·have y:(a:Int)∉w:=λz=>by rw[decide_eq_true z] at u; cases u
     have O:=eE (f:=Nr a g (L.take j)) ((M _).mpr (W y))
     array_get_dec
     refine ⟨_,X,by rw[Ad]; omega,w++[(a:Int)],by rw[Bp]; rfl,by rw[Bm,Fi]; omega,_,by rw[r6 t y]; exact O,?_⟩
     array_get_dec
     refine ⟨by unfold Ub; rw[Ad]; omega,?_⟩
     refine ⟨.dat .sh (Bf w),Tn ?_ rfl,Ie⟩
     rw[BI wL,o5 S y,Ft x]
    ·have y:(a:Int)∈w:=of_decide_eq_true (by rw[Sq] at u; exact u)
     array_get_dec
     refine ⟨.dat .sh (Bf w),Tn ?_ rfl,Ie⟩
     rw[Ft x,<- i5 y]
   ·clear c
    (intro _ r; obtain ⟨p,rfl,c⟩ := r)
    rw[Ek]
    refine ⟨.dat .sh (.int a),p,Tn ?_ rfl,Ie,c⟩
    rw[tR (f:=Nr a g L) (g:=Rl a (-1) g) λw x=>by unfold Nr; rw[if_pos x]]
  ·(intro _ r; obtain ⟨B,p,rfl,C,c⟩ := r)
   rw[Cu]
   array_get_dec
   exact V
end
def mZ:PF:=λb R=>∃(L a:List (List Int)),b=[iO L,iO a]/\R (Hr L (Hq a))
section
variable{P:Bn}{w:World}{K:PySem.W.Frag}{mg:Str->Option Value}{base:Heap}
theorem fF:FnScope ["_law_words_here", "_law_deck_here"] ["_law_words_here", "_law_deck_here"] (Bv Me):=⟨rfl,rfl,rfl,by decide +kernel,rfl,by decide +kernel,by decide +kernel⟩
theorem eY(F:Fun K "_law_counts" "_law_counts" Me f N)(n:FnOk P w K mg base Ja 1 b d ["_law_one", "_law_other"] (Vg K (vQ)))(m:Binds K d ["_law_one", "_law_other"] [])(i:PySem.W.keepIn K (.ref b)=true)(e:mg "_law_lies" = some (.ref b))(q:mg "len" = none):FnOk P w K mg base Ja 2 f N ["_law_words_here", "_law_deck_here"] (Vg K (mZ)):=by
 refine' Nh (k:=1) F fF (λv A o s H E S=>?hb) ?h
 case hb =>
  have B:Room 1 _:=S.mono (by decide)
  have Q:=S.units
  have D:∀{a:Scope} (h:a={ kind:=.function,names:=[(".0",.local),("_law_word",.cell),("len",.globalImplicit),("_law_deck_here",.free)],isGenerator:=false,isCoroutine:=false }),
    CompScope (Na Ja P w K mg base ["_law_words_here", "_law_deck_here"] "_law_counts" (Bv Me) f v A o s H E).nox a [("_law_deck_here",s.heap.objs.size+1)] "_law_word" ["_law_deck_here"] [1]:=by
   rintro a rfl
   refine ⟨by rfl,.inr ⟨"_law_word",λ_=>rfl,rfl,by decide +kernel⟩,by rfl,by decide +kernel,.inr rfl,λy c h=>?_,by rfl,by decide +kernel,rfl,λk y j p r=>?_⟩
   ·have z:=Ge h
    simp only[Al,Ba,or_false,Hi] at z
    obtain ⟨rfl,rfl⟩:=z; rfl
   ·match k,p,r with
    | 0,p,r=>cases p; cases r; exact ⟨rfl,rfl,by first | exact .inl rfl | exact .inr rfl⟩
    | k+1,p,r=>cases p
  have M:∀{a:Scope} (h:a={ kind:=.function,names:=[(".0",.local),("_law_card",.local),("_law_lies",.globalImplicit),("_law_word",.free)],isGenerator:=false,isCoroutine:=false }) (u:List Addr) (I:Ah) (O:Hp),
    CompScope (Dh (Na Ja P w K mg base ["_law_words_here", "_law_deck_here"] "_law_counts" (Bv Me) f v A o s H E).nox { kind:=.function,names:=[(".0",.local),("_law_word",.cell),("len",.globalImplicit),("_law_deck_here",.free)],isGenerator:=false,isCoroutine:=false } [("_law_deck_here",s.heap.objs.size+1)] ["_law_word", "_law_deck_here"] u I O) a [("_law_word",I.heap.objs.size+1)] "_law_card" ["_law_word"] [0]:=by
   rintro a rfl u I O
   refine ⟨by rfl,.inl (by decide +kernel),by rfl,by decide +kernel,.inl rfl,λy c h=>?_,by rfl,by decide +kernel,rfl,λk y j p r=>?_⟩
   ·have z:=Ge h
    simp only[Al,Ba,or_false,Hi] at z
    obtain ⟨rfl,rfl⟩:=z; rfl
   ·match k,p,r with
    | 0,p,r=>cases p; cases r; exact ⟨rfl,rfl,by first | exact .inl rfl | exact .inr rfl⟩
    | k+1,p,r=>cases p
  exact Ej (Ii (Oo (D rfl) rfl (U9 (Ar (pv 0))) (λ_ _ _=>Ng) (λ_ _ _=>Ju Qj Yq rfl q (by decide +kernel) (Ao (Oo (M rfl _ _ _) rfl (U9 (Ar (pv 1))) (λ_ _ _=>Xe (uW (Gk n B rfl e i m Gi (Ao (Ar (pv 1)) (Ao (Ar (pv 0)) Bd))))) (λ_ _ _=>Ar (pv 0))) Bd))))
 case h =>
  (intro ds R V; obtain ⟨L,t,rfl,J⟩ := V)
  refine ⟨rfl,?_⟩
  unfold iO
  array_get_dec
  refine qZ (l:=L) (g:=Bf) rfl (λw=>.int (Hq t w)) (λw hw X no Y=>?_) ?_
  ·array_get_dec
   refine gV (l:=t) (g:=Bf) rfl (λc=>sub w c) Bf (λc Z T U C G=>?_) ?_
   ·array_get_dec
    refine ⟨w,c,rfl,?_⟩
    refine Wr (λx=>?_) (λx=>?_)
    ·array_get_dec
     exact C x
    ·exact G x
   ·array_get_dec
    rw[Ad,<- jO]
    exact Y
  array_get_dec
  unfold Hr at J
  rw[Dj] at J
  exact J
theorem NQ:FnScope ["_law_told"] ["_law_told"] (Bv Ql):=⟨rfl,rfl,rfl,by decide +kernel,rfl,by decide +kernel,by decide +kernel⟩
theorem dG(F:Fun K "_law_spoiled" "_law_spoiled" Ql f v):FnOk P w K mg base Ja 1 f v ["_law_told"] (OR K):=by
 refine F.ok NQ (λvs H Q E h=>?_) (λI A o s H vs Q E L h=>?_)
 ·obtain ⟨t,a,p,c,z,y,rfl,_⟩:=h
  rfl
 obtain ⟨t,a,p,c,z,y,rfl,x,n,k,j,C,J,D⟩:=h
 refine ⟨_,Mc (eG (U1 PySem.F.plainAttrs_list PySem.F.slot_list_append PySem.F.type_list_append Oe (Uy (r:=T8 K) Pt (pv 0) Fn (λ_ _=>rfl)) (Ik G9 Oc)))
  (Rq (xE (lM JS (Uy (r:=BB K) L5 (Uy (r:=T8 K) Pt (pv 0) Fn (λ_ _=>rfl)) Fn (λ_ _=>rfl)) U6 (Yn _))
   (Rq (eG (U1 PySem.F.plainAttrs_list PySem.F.slot_list_append PySem.F.type_list_append Oe (Uy (r:=BB K) L5 (Uy (r:=T8 K) Pt (pv 0) Fn (λ_ _=>rfl)) Fn (λ_ _=>rfl)) (Ik G9 Oc)))) dS)),?_⟩
 have i:upd H a (.lst (c++[.non])) t=some (.lst [.ref a,.ref p]):=by rw[Dr j.symm]; exact x
 have g:upd H a (.lst (c++[.non])) p=some (.tup [.str z,y]):=by
  rw[Dr ?_]
  ·exact k
  ·rintro rfl; rw[n] at k; cases k
 refine ⟨_,rfl,t,_,0,.ref a,rfl,rfl,Nm.of x,rfl,.inl ⟨rfl,c,Nm.of n⟩,a,c,.non,rfl,rfl,n,C,?_⟩
 refine ⟨_,rfl,t,_,1,.ref p,rfl,rfl,Nm.of i,rfl,p,_,0,.str z,rfl,rfl,Wt.of g,rfl,rfl,_,rfl,?_⟩
 refine GB (λe=>?_) (λe=>?_)
 ·have u:z=Cq "deck" := by
   have:=of_decide_eq_true e
   exact V.str.inj this
  obtain ⟨b,m,rfl,B,l,G,q⟩:=D u
  have d:upd H a (.lst (c++[.non])) b=some (.lst m):=by rw[Dr l]; exact B
  exact ⟨_,rfl,t,_,1,.ref p,rfl,rfl,Nm.of i,rfl,p,_,1,.ref b,rfl,rfl,Wt.of g,rfl,.inl ⟨rfl,m,Nm.of d⟩,b,m,.non,rfl,rfl,d,G,q⟩
 ·exact J λu=>e (decide_eq_true (by rw[u]))
end
def yH(p:List Int×List Int):Af:=.tuple [Bf p.1,Bf p.2]
def Wv(L a d:List (List Int))(c:List Int->Int)(e b:List Int×List Int):Af:=.list [iO L,.list [iO a,iO d],.list [Hr L (Hq a),Hr L c],.list [yH e,yH b]]
def N3(h:Int)(p:List Int×List Int):Prop:=Cz h p.1/\Cz h p.2/\∀x∈p.2,x∉p.1
structure Th(h:Int)(L d1 d2:List (List Int))(f2:List Int->Int)(p1 p2:List Int×List Int):Prop where
 h0:0<h
 h1:h<=4
 pe:L.Perm (Du h.toNat)
 po:Nd.Ord L
 ll:L.length<=16
 l1:d1.length<=61
 l2:d2.length<=61
 r1:∀c∈d1,Cz h c
 r2:∀c∈d2,Cz h c
 b2:∀w∈L,-1000<=f2 w/\f2 w<=1000
 q1:N3 h p1
 q2:N3 h p2
theorem wW(xs:List a)(k:Nat)(y:a)(b:k<xs.length):Np xs none (some (k:Int))++y::Np xs (some ((k:Int)+1)) none=xs.set k y:=by
 rw[kG,show ((k:Int)+1)=((k+1:Nat):Int) by omega,DRow.cutG_from,List.set_eq_take_append_cons_drop,if_pos b]
theorem bS(p:Nat->Bool)(n:Nat):Cz n (((Bw n).filter p).map λi:Nat=>(i:Int)):=by
 refine ⟨(List.pairwise_lt_range.filter p).map _ λa b h=>by omega,λx c=>?_⟩
 obtain ⟨i,d,rfl⟩:=Cm.mp c
 have:=Hs.mp (Rf.mp d).1
 omega
def pE:DF:=λg n R=>g=[]/\n<=40000/\∀h L e d c f b a,n<=a->a<=n+300->Th h L e d c f b->R (Wv L e d c f b) a
section
variable{P:Bn}{w:World}{K:PySem.W.Frag}{mg:Str->Option Value}{base:Heap}
theorem fM:FnScope ["_law_draws_here", "_law_holes", "_law_words_here", "_law_deck_here", "_law_at", "_law_place", "_law_k", "_law_card", "_law_numbers", "_law_spot", "_law_more", "_law_pairs", "_law_one"] ["_law_draws_here"] (Bv Ma):=⟨rfl,rfl,rfl,by decide +kernel,rfl,by decide +kernel,by decide +kernel⟩
theorem gC(F:Fun K "_law_things" "_law_things" Ma f fd)(m:FnOk P w K mg base Ja 1 O X ["_law_draws_here"] (j9 K eU))(r:Binds K X ["_law_draws_here"] [])(o:PySem.W.keepIn K (.ref O)=true)(q:mg "_law_next" = some (.ref O))(h6:FnOk P w K mg base Ja 1 M S ["_law_holes"] (Vg K (dW)))(h8:Binds K S ["_law_holes"] [])(h9:PySem.W.keepIn K (.ref M)=true)(h7:mg "_law_words" = some (.ref M))(C:FnOk P w K mg base Ja 2 D T ["_law_draws_here", "_law_holes"] (j9 K (nW)))(G:Binds K T ["_law_draws_here", "_law_holes"] [])(B:PySem.W.keepIn K (.ref D)=true)(I:mg "_law_small" = some (.ref D))(k6:FnOk P w K mg base Ja 3 N Y ["_law_draws_here", "_law_holes", "_law_limit"] (j9 K (O2)))(k4:Binds K Y ["_law_draws_here", "_law_holes", "_law_limit"] [])(k7:PySem.W.keepIn K (.ref N)=true)(k5:mg "_law_deck" = some (.ref N))(h3:FnOk P w K mg base Ja 2 d Q ["_law_words_here", "_law_deck_here"] (Vg K (mZ)))(h5:Binds K Q ["_law_words_here", "_law_deck_here"] [])(h1:PySem.W.keepIn K (.ref d)=true)(h2:mg "_law_counts" = some (.ref d))(k0:mg "len" = none)(U:mg "range" = none)(V:mg "tuple" = none):FnOk P w K mg base Ja 4 f fd ["_law_draws_here"] (Y1 K (pE)):=by
 refine' G7 (k:=3) F fM (λq5 A k9 s H E hr=>?hb) ?h
 case hb =>
  have k8:Room 1 _:=hr.mono (by decide)
  have q0:Room 2 _:=hr.mono (by decide)
  have j1:Room 3 _:=hr.mono (by decide)
  have k3:=hr.units
  have j4:∀{J:Scope} (h:J={ kind:=.function,names:=[(".0",.local),("_law_k",.local),("_law_at",.free),("_law_deck_here",.free),("_law_place",.free)],isGenerator:=false,isCoroutine:=false }),
    CompScope (Na Ja P w K mg base ["_law_draws_here", "_law_holes", "_law_words_here", "_law_deck_here", "_law_at", "_law_place", "_law_k", "_law_card", "_law_numbers", "_law_spot", "_law_more", "_law_pairs", "_law_one"] "_law_things" (Bv Ma) f q5 A k9 s H E).nox J [("_law_place",s.heap.objs.size+3),("_law_deck_here",s.heap.objs.size+1),("_law_at",s.heap.objs.size+2)] "_law_k" ["_law_at", "_law_deck_here", "_law_place"] [4,3,5]:=by
   rintro J rfl
   refine ⟨by rfl,.inl (by decide +kernel),by rfl,by decide +kernel,.inl rfl,λy c h=>?_,by rfl,by decide +kernel,rfl,λk y j Z e2=>?_⟩
   ·have z:=Ge h
    simp only[Al,Ba,or_false,Hi] at z
    rcases z with ⟨rfl,rfl⟩ | ⟨rfl,rfl⟩ | ⟨rfl,rfl⟩ <;> rfl
   ·match k,Z,e2 with
    | 0,Z,e2=>cases Z; cases e2; exact ⟨rfl,rfl,by first | exact .inl rfl | exact .inr rfl⟩
    | 1,Z,e2=>cases Z; cases e2; exact ⟨rfl,rfl,by first | exact .inl rfl | exact .inr rfl⟩
    | 2,Z,e2=>cases Z; cases e2; exact ⟨rfl,rfl,by first | exact .inl rfl | exact .inr rfl⟩
    | k+3,Z,e2=>cases Z
  have j6:∀{J:Scope} (h:J={ kind:=.function,names:=[(".0",.local),("_law_place",.local),("_law_one",.free)],isGenerator:=false,isCoroutine:=false }),
    CompScope (Na Ja P w K mg base ["_law_draws_here", "_law_holes", "_law_words_here", "_law_deck_here", "_law_at", "_law_place", "_law_k", "_law_card", "_law_numbers", "_law_spot", "_law_more", "_law_pairs", "_law_one"] "_law_things" (Bv Ma) f q5 A k9 s H E).nox J [("_law_one",s.heap.objs.size+4)] "_law_place" ["_law_one"] [12]:=by
   rintro J rfl
   refine ⟨by rfl,.inl (by decide +kernel),by rfl,by decide +kernel,.inl rfl,λy c h=>?_,by rfl,by decide +kernel,rfl,λk y j Z e2=>?_⟩
   ·have z:=Ge h
    simp only[Al,Ba,or_false,Hi] at z
    obtain ⟨rfl,rfl⟩:=z; rfl
   ·match k,Z,e2 with
    | 0,Z,e2=>cases Z; cases e2; exact ⟨rfl,rfl,by first | exact .inl rfl | exact .inr rfl⟩
    | k+1,Z,e2=>cases Z
  exact Cn (Ex (i:=1) fM.nd rfl (Dk rfl) (cB Dt (Qv (Kj m k8 rfl q o r Gi (pv 0) Bd) Dt)))
   (Cn (Ex (i:=2) fM.nd rfl (Dk rfl) (Gk h6 k8 rfl h7 h9 h8 Gi (Ao (Ar (pv 1)) Bd)))
   (Cn (Ex (i:=3) fM.nd rfl (Xo rfl) (Vw (Iz (Ao (Kj C q0 rfl I B G Gi (pv 0) (Ao (Ar (pv 1)) Bd)) Bd)) (Kj k6 j1 rfl k5 k7 k4 Gi (pv 0) (Ao (Ar (pv 1)) (Ao Dt Bd)))))
   (Cn (Ex (i:=4) fM.nd rfl (Xo rfl) (Qv (Kj m k8 rfl q o r Gi (pv 0) Bd) (Ju Qj Yq rfl k0 (by decide +kernel) (Ao (Ar (pv 3)) Bd))))
   (Cn (Ex (i:=5) fM.nd rfl (Xo rfl) (Qv (Kj m k8 rfl q o r Gi (pv 0) Bd) (Ar (pv 1))))
   (Cn (Ex (i:=7) fM.nd rfl (Dk rfl) (Kn Wf (Wc (i:=true)) rfl V (by decide +kernel) (Ao (Oo (j4 rfl) rfl (Jw rfl U (Ao (Ar (pv 1)) Bd)) (λ_ _ _=>Xe (cN k3 (JJ k3 (Ar (pv 0)) (Iw (Ar (pv 2)) (Ar (pv 1)))) (eV k3 (Ar (pv 0)) (Ar (pv 3))))) (λ_ _ _=>Ar (pv 0))) Bd)))
   (Cn (Ex (i:=8) fM.nd rfl (Dk rfl) (Gk h3 q0 rfl h2 h1 h5 Gi (Ao (Ar (pv 2)) (Ao (Ar (pv 3)) Bd))))
   (Cn (Ex (i:=9) fM.nd rfl (Dk rfl) (Qv (Kj m k8 rfl q o r Gi (pv 0) Bd) (Ju Qj Yq rfl k0 (by decide +kernel) (Ao (Ar (pv 2)) Bd))))
   (Cn (Ex (i:=10) fM.nd rfl (Dk rfl) (Vw (Vw (Vr (i:=true) (Ar (pv 8)) Tp (To (Ar (pv 9)))) (Iz (Ao (cB (Iw (Ar (pv 8)) (Ar (pv 9))) Dt) Bd))) (Vr (i:=true) (Ar (pv 8)) (To (cB (Ar (pv 9)) Dt)) Tp)))
   (Cn (Xa (i:=11) fM.nd rfl (Dk rfl) (Iz Bd))
   (Cn (Od Et rfl (Jw rfl U (Ao Dt Bd)) (Hz (i:=6) fM.nd rfl (Dk rfl))
   (Cn (Ex (i:=12) fM.nd rfl (Xo rfl) (Kj C q0 rfl I B G Gi (pv 0) (Ao (Ar (pv 1)) Bd)))
    (Ej (bY (pv 11) (Sh (Ao (Qi (Ar (pv 12))) (Ao (Kn Wf (Wc (i:=true)) rfl V (by decide +kernel) (Ao (Oo (j6 rfl) rfl (NC (Kj C q0 rfl I B G Gi (pv 0) (Ao (Ar (pv 1)) Bd))) (λ_ _ _=>Xe (eS k3 (Ar (pv 0)) (Ar (pv 1)))) (λ_ _ _=>Ar (pv 0))) Bd)) Bd)))))))
   (Ej (Ii (Iz (Ao (Ar (pv 2)) (Ao (Iz (Ao (Ar (pv 3)) (Ao (Vw (Vw (Vr (i:=true) (Ar (pv 3)) Tp (To (Ar (pv 4)))) (Iz (Ao (Qi (Ar (pv 7))) Bd))) (Vr (i:=true) (Ar (pv 3)) (To (cB (Ar (pv 4)) Dt)) Tp)) Bd))) (Ao (Iz (Ao (Ar (pv 8)) (Ao (Ar (pv 10)) Bd))) (Ao (eL (pv 11)) Bd)))))))))))))))))
 case h =>
  (intro ds n R q_; obtain ⟨rfl,hn,hR⟩ := q_)
  refine ⟨rfl,?_⟩
  array_get_dec
  refine ⟨rfl,by omega,λr1=>?_⟩
  array_get_dec
  have b4:=Yk r1 (b:=4) (by decide)
  obtain ⟨h,eh,h0,h4⟩ : ∃h:Int,1+r1 % 4=h/\0<h/\h<=4:=⟨_,rfl,by omega,by omega⟩
  rw[eh]
  refine ⟨h,rfl,by omega,by omega,λL pe po=>?_⟩
  refine ⟨h,rfl,h0,by omega,by omega,λw1 j0=>?_⟩
  refine ⟨h,7,rfl,h0,by omega,by decide,by decide,by omega,λdk n1 k1 k2 ld hd=>?_⟩
  obtain ⟨t,Z,l0,l1,q6⟩ : ∃t:List (List Int),Bf w1::dk.map Bf=t.map Bf/\0<t.length/\t.length<=61/\∀c∈t,Cz h c:=⟨w1::dk,rfl,by simp,by simp; omega,λc hc=>by
   rcases Al.mp hc with rfl | z
   ·exact j0
   ·exact hd c z⟩
  array_get_dec
  have j5:(dk.map Bf).length+1=t.length:=by have:=congrArg Fh Z; simpa using this
  rw[j5,Z]
  refine ⟨by rw[Ad]; omega,rfl,by omega,λr2=>?_⟩
  array_get_dec
  have bt:=Yk r2 (b:=(t.length:Int)) (by omega)
  refine ⟨by omega,rfl,by omega,λr3=>?_⟩
  array_get_dec
  have bp:=Yk r3 h0
  refine ⟨by omega,by omega,by omega,?_⟩
  generalize r2 % (t.length:Int)=at_ at bt
  obtain ⟨ka,rfl⟩ : ∃k:Nat,at_=k:=⟨at_.toNat,by omega⟩
  generalize r3 % h=pl at bp
  obtain ⟨ca,a1,a2,a3⟩:=aC (l:=t) bt.1 bt.2
  refine gV (l:=Bw h.toNat) (g:=λi:Nat=>.int i) rfl (λi=>decide ((i:Int)∈ca) != decide ((i:Int)=pl)) (λi=>.int i) (λi hi q7 no hy hn=>?_) ?_
  ·array_get_dec
   refine ⟨Bf ca,by rw[dX,a2]; rfl,?_⟩
   array_get_dec
   rw[show (!decide ((i:Int)∈ca) == decide ((i:Int)=pl))=(decide ((i:Int)∈ca) != decide ((i:Int)=pl)) from rfl]
   refine Wr (λhb=>?_) (λhb=>?_)
   ·array_get_dec
    exact hy hb
   ·exact hn hb
  ·array_get_dec
   obtain ⟨cw,ec,rc⟩ : ∃cw:List Int,Vb (((Bw h.toNat).filter λi:Nat=>decide ((i:Int)∈ca) != decide ((i:Int)=pl)).map λi:Nat=>Az i)=Bf cw/\Cz h cw:=⟨_,by unfold Bf; rw[Dj]; rfl,by have:=bS (λi:Nat=>decide ((i:Int)∈ca) != decide ((i:Int)=pl)) h.toNat; rwa [show ((h.toNat:Nat):Int)=h by omega] at this⟩
   rw[ec]
   refine ⟨L,t,rfl,rfl,by omega,λr4=>?_⟩
   have nL:[]∈L:=(Hd pe).mpr ⟨Ds,λ_ z=>(nomatch z)⟩
   have lL:0<L.length:=Mo.mpr (Sj nL)
   have ll:=(Te (n:=h.toNat) (by omega) pe).1
   have nd:=Mr pe
   unfold Hr
   array_get_dec
   rw[Ad]
   have bs:=Yk r4 (b:=(L.length:Int)) (by omega)
   generalize r4 % (L.length:Int)=sp at bs
   obtain ⟨ks,rfl⟩ : ∃k:Nat,sp=k:=⟨sp.toNat,by omega⟩
   obtain ⟨wv,s1,s2,s3⟩:=aC (l:=L) bs.1 bs.2
   rw[Ed] at s1
   have es:∀y,Np ((L.map (Hq t)).map Az) none (some (ks:Int))++.int y::Np ((L.map (Hq t)).map Az) (some ((ks:Int)+1)) none=(L.map λv=>if v=wv then y else Hq t v).map Az:=λy=>by
    rw[wW _ _ _ (by rw[Ad,Ad]; omega),wK nd s1]
   have c1:=(Qp ((L.map (Hq t)).map Az) none (some (ks:Int))).length_le
   have c2:=(Qp ((L.map (Hq t)).map Az) (some ((ks:Int)+1)) none).length_le
   rw[Ad,Ad] at c1 c2
   refine ⟨by omega,.int (Hq t wv),by rw[dX,dX,s2]; rfl,?_⟩
   array_get_dec
   rw[es]
   refine ⟨by omega,by rw[Bm,Fi]; omega,?_⟩
   refine bC (l:=Bw 2) (g:=λi:Nat=>.int i) rfl (λi δ=>∃(ps:List (List Int×List Int)) (v6 q3:DV),δ=⟨[.drw,.dat .sh (.int h),.dat .sh (.list (L.map Bf)),.dat .sh (.list (t.map Bf)),.dat .sh (.int ka),.dat .sh (.int pl),v6,.dat .sh (Bf cw),.dat .sh (.list ((L.map (Hq t)).map Az)),.dat .sh (.int ks),.dat .sh (.list ((L.map λv=>if v=wv then Hq t wv+1 else Hq t v).map Az)),.dat .ow (.list (ps.map yH)),q3],n1+1+1+1+2 * i⟩/\ps.length=i/\(∀p∈ps,N3 h p)/\NP v6/\NP q3) ?_ ?_ ?_
   ·exact ⟨[],_,_,rfl,rfl,λ_ z=>(nomatch z),Ra,Ra⟩
   ·(intro i a _ ha q_; obtain ⟨ps,v6,q3,rfl,lp,hp,q8,q4⟩ := q_)
    obtain ⟨rfl,hi⟩:=Qk ha
    array_get_dec
    refine ⟨h,rfl,h0,by omega,by omega,λu ru=>?_⟩
    array_get_dec
    refine ⟨h,rfl,h0,by omega,by omega,λv rv=>?_⟩
    array_get_dec
    refine gV (l:=v) (g:=Az) rfl (λi=>decide (i∉u)) (λi=>.int i) (λi _ q7 no hy j2=>?_) ?_
    ·array_get_dec
     refine Wr (λhb=>?_) (λhb=>?_)
     ·array_get_dec
      exact hy (by simpa using hb)
     ·exact j2 (by simpa using hb)
    ·array_get_dec
     refine ⟨by rw[Ad]; omega,ps++[(u,v.filter λi=>decide (i∉u))],_,_,Tn (by rw[Bp]; rfl) (by omega),by rw[Bm,Fi,lp],λp j3=>?_,Ie,Ie⟩
     rcases Aw.mp j3 with z | z
     ·exact hp p z
     ·rw[Aj.mp z]
      exact ⟨ru,⟨rv.1.filter _,λx hx=>rv.2 x (Rf.mp hx).1⟩,λx hx=>of_decide_eq_true (Rf.mp hx).2⟩
   ·(intro _ q_; obtain ⟨ps,v6,q3,rfl,lp,hp,q8,q4⟩ := q_)
    obtain ⟨p1,p2,rfl⟩ : ∃p1 p2,ps=[p1,p2]:=by
     match ps,lp with
     | [p1,p2],_=>exact ⟨p1,p2,rfl⟩
    have ed:Np (t.map Bf) none (some (ka:Int))++Bf cw::Np (t.map Bf) (some ((ka:Int)+1)) none=(t.set ka cw).map Bf:=by
     rw[wW _ _ _ (by rw[Ad]; omega),Ks]
    array_get_dec
    rw[ed]
    have c3:=(Qp (t.map Bf) none (some (ka:Int))).length_le
    have c4:=(Qp (t.map Bf) (some ((ka:Int)+1)) none).length_le
    rw[Ad] at c3 c4
    have q9:L.length<=16:=by
     rw[pe.length_eq]
     rcases (show h.toNat=1\/h.toNat=2\/h.toNat=3\/h.toNat=4 by omega) with z | z | z | z <;> rw[z] <;> decide
    have bc:∀w,0<=Hq t w/\Hq t w<=61:=λw=>by
     unfold Hq
     have:=List.countP_le_length (p:=λc=>sub w c) (l:=t)
     omega
    refine ⟨by omega,by rw[Bm,Fi]; omega,by omega,?_⟩
    refine hR h L t (t.set ka cw) (λv=>if v=wv then Hq t wv+1 else Hq t v) p1 p2 _ (by omega) (by rw[Cu]; omega) ⟨h0,h4,pe,po,q9,l1,by rw[Xm]; exact l1,q6,λc hc=>?_,λw _=>?_,hp p1 Ab,hp p2 (Ac _ Ab)⟩
    ·rcases List.mem_or_eq_of_mem_set hc with z | z
     ·exact q6 c z
     ·rw[z]; exact rc
    ·have q1:=bc w
     have q2:=bc wv
     by_cases e:w=wv
     ·rw[if_pos e]; omega
     ·rw[if_neg e]; omega
end
theorem Z4(d:0<=p)(e:p<n)(h:∀w,Cz n w->Rl p (-1) f w=Rl p (-1) g w):∀w,Cz n w->f w=g w:=by
 have c:∀w,Cz n w->p∈w->f w=g w:=λw b a=>by
  have:=h w b
  unfold Rl at this
  rwa [if_pos a,if_pos a] at this
 intro w b
 by_cases a:p∈w
 ·exact c w b a
 ·have:=h w b
  unfold Rl at this
  rw[if_neg a,if_neg a,c _ (Tv b d e) (yF.mpr (.inr rfl))] at this
  omega
theorem rB:∀k:Nat,k<=n->(∀w,Cz n w->Ha (Ji k) f w=Ha (Ji k) g w)->∀w,Cz n w->f w=g w
 | 0,_,h=>h
 | k+1,hk,h=>rB k (by omega) (Z4 (p:=k) (by omega) (by omega) (by rw[bN,Qa,Qa] at h; exact h))
theorem O1(b:L.Perm (Du n))(h:∀w∈L,0<=Ha (Ji n) f w):∀w∈L,Hq (Lf L (Ha (Ji n) f)) w=f w:=by
 have i:∀c∈Lf L (Ha (Ji n) f),Cz n c:=λc a=>by
  unfold Lf at a
  obtain ⟨v,d,a⟩:=Iq.mp a
  rw[(Hk.mp a).2]
  exact (Hd b).mp d
 intro w g
 refine rB n (Ak _) (λv d=>?_) w ((Hd b).mp g)
 have e:=(Hd b).mpr d
 rw[sE i d]
 unfold Pd
 rw[Vx (Mr b),if_pos e]
 have:=h v e
 omega
theorem C3:(∀w∈L,0<=c w)->((Xs L c).length:Int)=(L.map c).sum:=by
 unfold Xs
 induction L with
 | nil=>intro _; rfl
 | cons w L a =>
  intro h
  rw[Lp,Bm,Pb,Aq,Io,<- a λv b=>h v (Ac _ b)]
  have:=h w Ab
  omega
theorem Uo(p:L.Perm (Du n))(h:∀w∈L,0<=Ha (Ji n) f w)(b:f []<=10000):(Xs L (Ha (Ji n) f)).length<=10000:=by
 have e:=C3 h
 rw[U3 (p.map _),pK f n] at e
 omega
def yA:PF:=λb R=>∃(h:Int) (L a:List (List Int)) (f:List Int->Int) (p:List Int×List Int),b=[iO L,.int h,iO a,Hr L f,yH p]/\0<h/\h<=10/\L.Perm (Du h.toNat)/\Nd.Ord L/\a.length<=120/\(∀c∈a,Cz h c)/\(∀w∈L,-1000<=f w/\f w<=1000)/\N3 h p/\R (.bool true)
section
variable{P:Bn}{w:World}{K:PySem.W.Frag}{mg:Str->Option Value}{base:Heap}
theorem iY:FnScope ["_law_words_here", "_law_holes", "_law_deck_here", "_law_numbers", "_law_pair", "_law_one", "_law_other", "_law_told", "_law_some", "_law_just_so_here", "_law_found"] ["_law_words_here", "_law_holes", "_law_deck_here", "_law_numbers", "_law_pair"] (Bv Nb):=⟨rfl,rfl,rfl,by decide +kernel,rfl,by decide +kernel,by decide +kernel⟩
theorem iZ(F:Fun K "_law_right" "_law_right" Nb f fd)(k5:FnOk P w K mg base Ja 3 v S ["holes", "deck"] (Vg K (gZ)))(k0:Binds K S ["holes", "deck"] [])(k2:PySem.W.keepIn K (.ref v)=true)(h9:mg "counts" = some (.ref v))(h2:FnOk P w K mg base Ja 4 m N ["holes", "numbers"] (Vg K (gY)))(h3:Binds K N ["holes", "numbers"] [])(h6:PySem.W.keepIn K (.ref m)=true)(h4:mg "deck_of" = some (.ref m))(q1:FnOk P w K mg base Ja 4 X h7 ["holes", "numbers", "notched", "whole"] (Vg K (L4)))(k9:Binds K h7 ["holes", "numbers", "notched", "whole"] [])(k8:PySem.W.keepIn K (.ref X)=true)(q0:mg "just" = some (.ref X))(k4:FnOk P w K mg base Ja 1 u Q ["_law_one", "_law_other"] (Vg K (vQ)))(h8:Binds K Q ["_law_one", "_law_other"] [])(k1:PySem.W.keepIn K (.ref u)=true)(k3:mg "_law_lies" = some (.ref u))(I:FnOk P w K mg base Ja 2 b B ["_law_words_here", "_law_deck_here"] (Vg K (mZ)))(J:Binds K B ["_law_words_here", "_law_deck_here"] [])(x:PySem.W.keepIn K (.ref b)=true)(G:mg "_law_counts" = some (.ref b))(V:FnOk P w K mg base Ja 1 a t ["_law_words_here", "_law_numbers", "_law_holes"] (Vg K (pY)))(T:Binds K t ["_law_words_here", "_law_numbers", "_law_holes"] [])(Y:PySem.W.keepIn K (.ref a)=true)(U:mg "_law_just_so" = some (.ref a))(k7:mg "len" = none)(q2:mg "min" = none)(h5:mg "sorted" = none):FnOk P w K mg base Ja 5 f fd ["_law_words_here", "_law_holes", "_law_deck_here", "_law_numbers", "_law_pair"] (Vg K (yA)):=by
 refine' Nh (k:=4) F iY (λq8 A k6 s H E hr=>?hb) ?h
 case hb =>
  have q7:Room 1 _:=hr.mono (by decide)
  have q4:Room 2 _:=hr.mono (by decide)
  have j0:Room 3 _:=hr.mono (by decide)
  have q6:Room 4 _:=hr.mono (by decide)
  have e:=hr.units
  have j6:∀{r:Scope} (h:r={ kind:=.function,names:=[(".0",.local),("_law_card",.cell),("_law_lies",.globalImplicit),("_law_one",.free),("_law_other",.free)],isGenerator:=false,isCoroutine:=false }),
    CompScope (Na Ja P w K mg base ["_law_words_here", "_law_holes", "_law_deck_here", "_law_numbers", "_law_pair", "_law_one", "_law_other", "_law_told", "_law_some", "_law_just_so_here", "_law_found"] "_law_right" (Bv Nb) f q8 A k6 s H E).nox r [("_law_other",s.heap.objs.size+2),("_law_one",s.heap.objs.size+1)] "_law_card" ["_law_one", "_law_other"] [5,6]:=by
   rintro r rfl
   refine ⟨by rfl,.inr ⟨"_law_card",λ_=>rfl,rfl,by decide +kernel⟩,by rfl,by decide +kernel,.inr rfl,λy c h=>?_,by rfl,by decide +kernel,rfl,λk y j e1 e2=>?_⟩
   ·have z:=Ge h
    simp only[Al,Ba,or_false,Hi] at z
    rcases z with ⟨rfl,rfl⟩ | ⟨rfl,rfl⟩ <;> rfl
   ·match k,e1,e2 with
    | 0,e1,e2=>cases e1; cases e2; exact ⟨rfl,rfl,by first | exact .inl rfl | exact .inr rfl⟩
    | 1,e1,e2=>cases e1; cases e2; exact ⟨rfl,rfl,by first | exact .inl rfl | exact .inr rfl⟩
    | k+2,e1,e2=>cases e1
  have j9:∀{r:Scope} (h:r={ kind:=.function,names:=[(".0",.local),("_law_k",.local),("_law_card",.free)],isGenerator:=false,isCoroutine:=false }) (q5:List Addr) (s0:Ah) (H0:Hp),
    CompScope (Dh (Na Ja P w K mg base ["_law_words_here", "_law_holes", "_law_deck_here", "_law_numbers", "_law_pair", "_law_one", "_law_other", "_law_told", "_law_some", "_law_just_so_here", "_law_found"] "_law_right" (Bv Nb) f q8 A k6 s H E).nox { kind:=.function,names:=[(".0",.local),("_law_card",.cell),("_law_lies",.globalImplicit),("_law_one",.free),("_law_other",.free)],isGenerator:=false,isCoroutine:=false } [("_law_other",s.heap.objs.size+2),("_law_one",s.heap.objs.size+1)] ["_law_card", "_law_one", "_law_other"] q5 s0 H0) r [("_law_card",s0.heap.objs.size+1)] "_law_k" ["_law_card"] [0]:=by
   rintro r rfl q5 s0 H0
   refine ⟨by rfl,.inl (by decide +kernel),by rfl,by decide +kernel,.inl rfl,λy c h=>?_,by rfl,by decide +kernel,rfl,λk y j e1 e2=>?_⟩
   ·have z:=Ge h
    simp only[Al,Ba,or_false,Hi] at z
    obtain ⟨rfl,rfl⟩:=z; rfl
   ·match k,e1,e2 with
    | 0,e1,e2=>cases e1; cases e2; exact ⟨rfl,rfl,by first | exact .inl rfl | exact .inr rfl⟩
    | k+1,e1,e2=>cases e1
  exact Cn (N8 (Ar (pv 4)) (P5 (n:=2) rfl (Qz (Hz (i:=5) iY.nd rfl (Xo rfl)) (Qz (Hz (i:=6) iY.nd rfl (Xo rfl)) oE))))
   (Cn (Ex (i:=7) iY.nd rfl (Dk rfl) (Gk k5 j0 rfl h9 k2 k0 Gi (Ao (Ar (pv 1)) (Ao (Ar (pv 2)) Bd))))
   (Cn (Vz (cN e (Ar (pv 7)) (Gk I q4 rfl G x J Gi (Ao (Ar (pv 0)) (Ao (Ar (pv 2)) Bd))))
   (Ej (Ii jW)) Qr)
   (Cn (Y7 (o:=false) (i0:=8) iY.nd rfl rfl (j6 rfl) rfl (U9 (Ar (pv 2))) (λ_ _ _=>Xe (X2 (tV (uW (Gk k4 q7 rfl k3 k1 h8 Gi (Ao (Ar (pv 1)) (Ao (Ar (pv 0)) Bd)))) (oP (yJ e (Oo (j9 rfl _ _ _) rfl (NC (Ar (pv 2))) (λ_ _ _=>Xe (EA e (Ar (pv 0)) (Ar (pv 1)))) (λ_ _ _=>Ar (pv 0))) (Iz Bd)))))) (λ_ _ _=>Ar (pv 0)))
   (Cn (Vz (cN e (Gk q1 q6 rfl q0 k8 k9 Gi (Ao (Ar (pv 1)) (Ao (Ar (pv 7)) (Ao (Ar (pv 5)) (Ao (Ar (pv 6)) Bd))))) (Ju Qj Yq rfl k7 (by decide +kernel) (Ao (Ar (pv 8)) Bd)))
   (Ej (Ii jW)) Qr)
   (Cn (Ex (i:=9) iY.nd rfl (Dk rfl) (Gk V q7 rfl U Y T Gi (Ao (Ar (pv 0)) (Ao (Ar (pv 3)) (Ao (Ar (pv 1)) Bd)))))
   (Cn (Ex (i:=10) iY.nd rfl (Dk rfl) (Gk h2 q6 rfl h4 h6 h3 Gi (Ao (Ar (pv 1)) (Ao (Ar (pv 3)) Bd))))
   (Cn (Vz (CV (AE rfl q2 rfl (Ar (pv 9))) Dt)
   (Ej (Ii (vU (eV e (Iw (Ar (pv 10)) Dt) mN) (M9 (IX (Ww e (Ar (pv 9)) (Iw (Ar (pv 10)) Dt)) Dt))))) Qr)
   (Ej (Ii (vU (eV e (Iw (Ar (pv 10)) Dt) mN) (vU (eV e (Gk I q4 rfl G x J Gi (Ao (Ar (pv 0)) (Ao (Iw (Ar (pv 10)) Dt) Bd))) (Ar (pv 3))) (M9 (eV e (Iw (Ar (pv 10)) Dt) (Ju (Ts.call_sortedI e) gM rfl h5 (by decide +kernel) (Ao (Iw (Ar (pv 10)) Dt) Bd)))))))))))))))
 case h =>
  (intro ds R q_; obtain ⟨h,L,C,f,p,rfl,h0,h1,pe,po,ld,hd,bf,hp,hR⟩ := q_)
  refine ⟨rfl,?_⟩
  have en:((h.toNat:Nat):Int)=h:=by omega
  have nL:[]∈L:=(Hd pe).mpr ⟨Ds,λ_ z=>(nomatch z)⟩
  have ll:=(Te (n:=h.toNat) (by omega) pe).1
  unfold iO Hr yH
  array_get_dec
  refine ⟨h,C,rfl,by omega,h1,hd,λO j2 j8=>?_⟩
  obtain rfl:O=L:=Ow (j2.trans pe.symm) j8 po
  unfold Hr
  array_get_dec
  refine ⟨O,C,rfl,?_⟩
  unfold Hr
  array_get_dec
  refine gV (l:=C) (g:=Bf) rfl (λc=>sub p.1 c && (p.2.filter λi=>decide (i∈c)).isEmpty) Bf (λc hc x1 no hy hn=>?_) ?_
  ·array_get_dec
   refine ⟨p.1,c,rfl,?_⟩
   array_get_dec
   refine uL (λz1=>?_) (λz1=>?_)
   ·array_get_dec
    refine gV (l:=p.2) (g:=Az) rfl (λi=>decide (i∈c)) (λi=>.int i) (λi _ x0 x2 j1 j4=>?_) ?_
    ·array_get_dec
     refine Wr (λz2=>?_) (λz2=>?_)
     ·array_get_dec
      exact j1 z2
     ·exact j4 z2
    ·array_get_dec
     rw[show ((p.2.filter λi=>decide (i∈c)).map λi=>Az i).isEmpty=(p.2.filter λi=>decide (i∈c)).isEmpty by cases p.2.filter λi=>decide (i∈c) <;> rfl]
     refine Wr (λz2=>?_) (λz2=>?_)
     ·array_get_dec
      exact hy (by rw[z1,z2]; rfl)
     ·exact hn (by rw[z1,z2]; rfl)
   ·exact hn (by rw[z1]; rfl)
  ·array_get_dec
   have ej:Ha p.2 (Hq C) p.1=(((C.filter λc=>sub p.1 c && (p.2.filter λi=>decide (i∈c)).isEmpty).map Bf).length:Int):=by
    rw[rV C _ p.2 rfl (fN hp.2.1) p.1,Ad,<- jO]
    unfold j7
    congr 1
    refine Om λc _=>?_
    rw[Vv,En,List.isEmpty_iff,vZ]
    refine ⟨λz=>⟨?_,λi hi q=>?_⟩,λz=>⟨?_,λi hi=>.inr λq=>z.2 i q (decide_eq_true hi)⟩⟩
    ·exact Zy.mpr z.1
    ·have j3:=of_decide_eq_true q
     rcases z.2 i j3 with w | w
     ·exact hp.2.2 i hi w
     ·exact w hi
    ·exact Zy.mp z.1
   refine ⟨h,O,Hq C,p.1,p.2,rfl,by omega,h1,pe,po,hp.1,λq hq=>hp.2.1.2 q hq,?_⟩
   rw[ej]
   array_get_dec
   have f0:f []<=10000:=by have:=bf _ nL; omega
   generalize (C.filter λc=>sub p.1 c && (p.2.filter λi=>decide (i∈c)).isEmpty).map Bf=sm
   refine ⟨h,O,f,rfl,by omega,h1,pe,?_⟩
   refine ⟨h,O,f,rfl,by omega,h1,pe,po,λZ=>⟨Uo pe Z f0,?_⟩,λw hw q3=>?_⟩
   ·have hs:=Uo pe Z f0
    have hc:=O1 pe Z
    have hl:(Lf O (Ha (Ji h.toNat) f)).length<=10000:=by
     unfold Xs at hs
     rw[oT,Ad] at hs
     exact hs
    generalize Ha (Ji h.toNat) f=c at Z hc hs hl
    rw[show Xs O c=(Lf O c).map Bf from oT O c]
    array_get_dec
    refine ⟨xV (Sj nL),O.map c,kQ O c,λM hM hz=>?_⟩
    obtain ⟨wM,j5,rfl⟩:=Cm.mp hM
    array_get_dec
    rw[decide_eq_false (Int.not_lt.mpr (Z wM j5))]
    array_get_dec
    refine ⟨O,Lf O c,rfl,?_⟩
    have q9:Hr O (Hq (Lf O c))=.list ((O.map f).map Az):=Xc hc
    rw[q9]
    array_get_dec
    refine ⟨Lf O c,rfl,λD pD oD=>?_⟩
    obtain rfl:D=Lf O c:=Ow pD oD (zU po)
    rw[decide_eq_true rfl]
    exact hR
   ·have e1:=eE (f:=Ha (Ji h.toNat) f) hw
    array_get_dec
    refine ⟨xV (Sj nL),O.map (Ha (Ji h.toNat) f),kQ O _,λM hM hz=>?_⟩
    array_get_dec
    have : M<0:=Int.lt_of_le_of_lt (hz _ (List.mem_map_of_mem hw)) q3
    rw[decide_eq_true this]
    array_get_dec
    refine ⟨_,e1,?_⟩
    show ∃d,DV.dat .ow (.bool (decide (Ha (Ji h.toNat) f w<0)))=.dat .ow d/\R d
    rw[decide_eq_true q3]
    exact ⟨_,rfl,hR⟩
end
theorem Sy(r:Cz 60 w):Nc 12 (Bf w):=by
 unfold Bf
 rw[Nc,Ry]
 intro x a
 obtain ⟨i,b,rfl⟩:=Cm.mp a
 have:=r.2 i b
 rw[Nc]
 omega
theorem Qf(r:Cz 60 w):Kv (Bf w)<=61:=by
 unfold Bf
 rw[Kv,iC]
 have:=Yi r
 omega
theorem eM(h:∀w∈a,Cz 60 w):Nc 12 (iO a):=by
 unfold iO
 rw[Nc,Ry]
 intro x b
 obtain ⟨w,c,rfl⟩:=Cm.mp b
 exact Sy (h w c)
theorem Ze(h:∀w∈a,Cz 60 w):Kv (iO a)<=61 * a.length+1:=by
 unfold iO
 rw[Kv]
 have:=cP (m:=61) (xs:=a.map Bf) λx b=>by
  obtain ⟨w,c,rfl⟩:=Cm.mp b
  exact Qf (h w c)
 rw[Ad] at this
 omega
theorem fZ(h:∀w∈L,-1000<=f w/\f w<=1000):Nc 12 (Hr L f):=by
 unfold Hr
 rw[Nc,Ry]
 intro x a
 obtain ⟨i,c,rfl⟩:=Cm.mp a
 obtain ⟨w,b,rfl⟩:=Cm.mp c
 have:=h w b
 rw[Nc]
 omega
theorem bT:Kv (Hr L f)=L.length+1:=by
 unfold Hr
 rw[Kv,iC,Ad]
theorem J0(h:d.length<=61)(w:List Int):-1000<=Hq d w/\Hq d w<=1000:=by
 unfold Hq
 have:=List.countP_le_length (p:=λc=>sub w c) (l:=d)
 omega
theorem Th.wL(t:Th h L e c b f a):∀w∈L,Cz 60 w:=λw d=>((Hd t.pe).mp d).up (by have:=t.h1; have:=t.h0; omega)
theorem CK(t:Th h L b d c e g):Nc 12 (Wv L b d c e g)/\(12+12) * Kv (Wv L b d c e g)<=Au:=by
 have a:h<=60:=by have:=t.h1; omega
 have j:∀w∈b,Cz 60 w:=λw i=>(t.r1 w i).up a
 have k:∀w∈d,Cz 60 w:=λw i=>(t.r2 w i).up a
 have y:=Ze t.wL
 have o:=Ze j
 have s:=Ze k
 have m:=bT (L:=L) (f:=Hq b)
 have v:=bT (L:=L) (f:=c)
 have x:=Qf (t.q1.1.up a)
 have p:=Qf (t.q1.2.1.up a)
 have n:=Qf (t.q2.1.up a)
 have u:=Qf (t.q2.2.1.up a)
 have q:=t.ll
 have l:=t.l1
 have r:=t.l2
 unfold Wv yH
 refine ⟨?_,iQ ?_⟩
 ·simp only[Nc,Mi]
  exact ⟨eM t.wL,⟨eM j,eM k,trivial⟩,⟨fZ λw _=>J0 l w,fZ t.b2,trivial⟩,⟨⟨Sy (t.q1.1.up a),Sy (t.q1.2.1.up a),trivial⟩,⟨Sy (t.q2.1.up a),Sy (t.q2.2.1.up a),trivial⟩,trivial⟩,trivial⟩
 ·simp only[Kv,Jv]
  omega
def iF(L a:List (List Int)):Af:=.list [Hr L (Hq a),.tuple [.str (Cq "deck"),iO (Lf L (Pd a))]]
theorem tG(t:Th h L b j i n g):Nc 12 (iF L b)/\(12+12) * Kv (iF L b)<=Au:=by
 have o:h<=60:=by have:=t.h1; omega
 have l:((h.toNat:Nat):Int)=h:=by have:=t.h0; omega
 have a:=fG t.pe (λc e=>by rw[l]; exact t.r1 c e)
 have d:∀w∈Lf L (Pd b),Cz 60 w:=λw k=>(t.r1 w (a.mem_iff.mp k)).up o
 have dl:=a.length_eq
 have q:=Ze d
 have p:=bT (L:=L) (f:=Hq b)
 have r:=t.ll
 have m:=t.l1
 unfold iF
 refine ⟨?_,iQ ?_⟩
 ·simp only[Nc,Mi]
  exact ⟨fZ λw _=>J0 m w,⟨by decide +kernel,eM d,trivial⟩,trivial⟩
 ·simp only[Kv,Jv]
  omega
theorem K6{h:Nat}(f:L.Perm (Du h))(hd:∀c∈a,Cz (h:Int) c):(∀w∈L,0<=Ha (Ji h) (Hq a) w)/\Xs L (Ha (Ji h) (Hq a))=(Lf L (Pd a)).map Bf:=by
 have e:∀w∈L,Ha (Ji h) (Hq a) w=Pd a w:=λw b=>sE hd ((Hd f).mp b)
 refine ⟨λw b=>by rw[e w b]; unfold Pd; omega,?_⟩
 rw[<- oT]
 unfold Xs
 have : ∀M:List (List Int),(∀w∈M,Ha (Ji h) (Hq a) w=Pd a w)->(M.flatMap λw=>Cc (Ha (Ji h) (Hq a) w).toNat (Bf w))=M.flatMap λw=>Cc (Pd a w).toNat (Bf w):=λM=>by
  induction M with
  | nil=>intro _; rfl
  | cons v M g =>
   intro d
   rw[Lp,Lp,g λw b=>d w (Ac _ b),d v Ab]
 exact this L e
theorem AN{L:List (List Int)}(h0:0<h)(d:L.Perm (Du h.toNat))(f:M∈L.map λw=>(w.length:Int))(hz:∀x∈L.map (λw=>(w.length:Int)),x<=M):M=h:=by
 have p:((h.toNat:Nat):Int)=h:=by omega
 obtain ⟨w,g,rfl⟩:=Cm.mp f
 have a:=(Hd d).mp g
 have e:=bO a (bS (λi=>decide ((i:Int)∈w)) h.toNat) (λi=>⟨λc=>by
  have b:=a.2 i c
  exact Cm.mpr ⟨i.toNat,List.mem_filter.mpr ⟨Hs.mpr (by omega),decide_eq_true (by rw[show ((i.toNat:Nat):Int)=i by omega]; exact c)⟩,by omega⟩,λc=>by
  obtain ⟨k,j,rfl⟩:=Cm.mp c
  exact of_decide_eq_true (Rf.mp j).2⟩)
 have l:=congrArg Fh e
 rw[Ad] at l
 have m:=List.length_filter_le (λi:Nat=>decide ((i:Int)∈w)) (Bw h.toNat)
 rw[Cu] at m
 have n:Cz (h.toNat:Int) (Ji h.toNat):=by
  have:=bS (λ_=>true) h.toNat
  rw[Mp.mpr λ_ _=>rfl] at this
  exact this
 have:=hz _ (List.mem_map_of_mem ((Hd d).mpr n))
 have o:(Ji h.toNat).length=h.toNat:=by unfold Ji; rw[Ad,Cu]
 omega
def mB{c:Type}(x:Int)(a b:c):c:=if x=0 then a else b
theorem uP(a b:c)(h:x=0\/x=1):aR [a,b] x=some (mB x a b):=by
 rcases h with rfl | rfl
 ·exact atI_0 _ _
 ·exact atI_1 _ _ _
theorem tW{P:c->Prop}{a b:c}(d:P a)(hb:P b):P (mB x a b):=by
 unfold mB
 split
 ·exact d
 ·exact hb
theorem nP(f:c->d)(x:Int)(a b:c):mB x (f a) (f b)=f (mB x a b):=by
 unfold mB
 split <;> rfl
theorem Ut{b:Type}:∀{l:List b},l.length=n+1->∃v a,l=v::a/\a.length=n
 | v::l,h=>⟨v,l,rfl,Nat.succ.inj h⟩
theorem ER{y:Type}{l:List y}(h:l.length=12):∃o m f e d i n g p a c b,l=[o,m,f,e,d,i,n,g,p,a,c,b]:=by
 obtain ⟨o,J,rfl,s⟩:=Ut h
 obtain ⟨m,K,rfl,A⟩:=Ut s
 obtain ⟨f,H,rfl,t⟩:=Ut A
 obtain ⟨e,L,rfl,z⟩:=Ut t
 obtain ⟨d,E,rfl,r⟩:=Ut z
 obtain ⟨i,M,rfl,B⟩:=Ut r
 obtain ⟨n,F,rfl,v⟩:=Ut B
 obtain ⟨g,G,rfl,D⟩:=Ut v
 obtain ⟨p,I,rfl,x⟩:=Ut D
 obtain ⟨a,w,rfl,q⟩:=Ut x
 obtain ⟨c,C,rfl,k⟩:=Ut q
 obtain ⟨b,u,rfl,j⟩:=Ut k
 cases iV j
 exact ⟨o,m,f,e,d,i,n,g,p,a,c,b,rfl⟩
theorem EL(h1:npk a.sl=true)(e:b.length<1000000)(d:z=Cq "deck" -> ∃es,y=.list es/\es.length<1000000)(c:D.nx a):OK [.dat .ow (.list [.list b,.tuple [.str z,y]])] a D:=⟨h1,e,d,c⟩
def QF:List (Int×Int×Int):=[(0,0,0),(1,0,0),(0,1,0),(0,0,1),(0,0,1),(0,1,0),(1,0,0),(0,0,0)]
def PQ(p:Int×Int×Int):Af:=.list [.int p.1,.int p.2.1,.int p.2.2]
theorem GT:∀p∈QF,(p.1=0\/p.1=1)/\(p.2.1=0\/p.2.1=1)/\(p.2.2=0\/p.2.2=1):=by decide
section
variable{P:Bn}{w:World}{K:PySem.W.Frag}{mg:Str->Option Value}{base:Heap}
theorem FB:FnScope ["_law_script", "_law_cell", "_law_things_here", "_law_words_here", "_law_holes", "_law_kept", "_law_first", "_law_text", "_law_picks", "_law_pick", "_law_deck_here", "_law_numbers", "_law_pair"] ["_law_script"] (Bv Yh):=⟨rfl,rfl,rfl,by decide +kernel,rfl,by decide +kernel,by decide +kernel⟩
theorem FY{fd h4 Y X T V G:Cv}(F:Fun K "law" "law" Yh f fd)(R:FnOk P w K mg base Ja 3 S h4 ["holes", "deck"] (Vg K (gZ)))(N:Binds K h4 ["holes", "deck"] [])(O:PySem.W.keepIn K (.ref S)=true)(J:mg "counts" = some (.ref S))(q:FnOk P w K mg base Ja 4 x Y ["holes", "numbers"] (Vg K (gY)))(r:Binds K Y ["holes", "numbers"] [])(B:PySem.W.keepIn K (.ref x)=true)(u:mg "deck_of" = some (.ref x))(q0:FnOk P w K mg base Ja 1 C X ["_law_cell"] (Zf))(q7:Binds K X ["_law_cell"] [])(k7:PySem.W.keepIn K (.ref C)=true)(q6:mg "_law_draws" = some (.ref C))(k4:FnOk P w K mg base Ja 4 o T ["_law_draws_here"] (Y1 K (pE)))(k6:Binds K T ["_law_draws_here"] [])(k5:PySem.W.keepIn K (.ref o)=true)(k3:mg "_law_things" = some (.ref o))(q5:FnOk P w K mg base Ja 5 D V ["_law_words_here", "_law_holes", "_law_deck_here", "_law_numbers", "_law_pair"] (Vg K (yA)))(k8:Binds K V ["_law_words_here", "_law_holes", "_law_deck_here", "_law_numbers", "_law_pair"] [])(q4:PySem.W.keepIn K (.ref D)=true)(k9:mg "_law_right" = some (.ref D))(h9:FnOk P w K mg base Ja 1 b G ["_law_told"] (OR K))(h6:Binds K G ["_law_told"] [])(h7:PySem.W.keepIn K (.ref b)=true)(k0:mg "_law_spoiled" = some (.ref b))(j7:mg "len" = none)(j9:mg "max" = none)(U:mg "str" = none)(h3:mg "range" = none)(j6:mg "int" = none)(x0:mg "zip" = none):FnOk P w K mg base Ja 6 f fd ["_law_script"] (spLawD K):=by
 refine' HK (k:=5) F FB (λj0 A Q s H E hr=>?hb) ?h
 case hb =>
  have y3:Room 1 _:=hr.mono (by decide)
  have z4:Room 2 _:=hr.mono (by decide)
  have x6:Room 3 _:=hr.mono (by decide)
  have x1:Room 4 _:=hr.mono (by decide)
  have y7:Room 5 _:=hr.mono (by decide)
  have q8:=hr.units
  have y6:Room 5 (Na Ja P w K mg base ["_law_script", "_law_cell", "_law_things_here", "_law_words_here", "_law_holes", "_law_kept", "_law_first", "_law_text", "_law_picks", "_law_pick", "_law_deck_here", "_law_numbers", "_law_pair"] "law" (Bv Yh) f j0 A Q s H E).nox.A:=hr
  have h8:(Na Ja P w K mg base ["_law_script", "_law_cell", "_law_things_here", "_law_words_here", "_law_holes", "_law_kept", "_law_first", "_law_text", "_law_picks", "_law_pick", "_law_deck_here", "_law_numbers", "_law_pair"] "law" (Bv Yh) f j0 A Q s H E).nox.A.units+100<cLine:=by have:=y6.un; omega
  have z0:∀{a:Scope} (h:a={ kind:=.function,names:=[(".0",.local),("_law_word",.local),("len",.globalImplicit)],isGenerator:=false,isCoroutine:=false }),
    CompScope (Na Ja P w K mg base ["_law_script", "_law_cell", "_law_things_here", "_law_words_here", "_law_holes", "_law_kept", "_law_first", "_law_text", "_law_picks", "_law_pick", "_law_deck_here", "_law_numbers", "_law_pair"] "law" (Bv Yh) f j0 A Q s H E).nox a [] "_law_word" [] []:=by
   rintro a rfl
   exact Nd.compScope0 (by rfl) (by decide +kernel) (by rfl) (by decide +kernel) (by rfl) (by rfl)
  have z2:∀{a:Scope} (h:a={ kind:=.function,names:=[(".0",.local),("_law_k",.cell),("range",.globalImplicit)],isGenerator:=false,isCoroutine:=false }),
    CompScope (Na Ja P w K mg base ["_law_script", "_law_cell", "_law_things_here", "_law_words_here", "_law_holes", "_law_kept", "_law_first", "_law_text", "_law_picks", "_law_pick", "_law_deck_here", "_law_numbers", "_law_pair"] "law" (Bv Yh) f j0 A Q s H E).nox a [] "_law_k" [] []:=by
   rintro a rfl
   exact ⟨by rfl,.inr ⟨"_law_k",λ_=>rfl,rfl,by decide +kernel⟩,by rfl,by decide +kernel,.inr rfl,λy c h=>by simp at h,by rfl,by decide +kernel,rfl,λk y j e1 e2=>by simp at e1⟩
  have y8:∀{a:Scope} (h:a={ kind:=.function,names:=[(".0",.local),("_law_j",.local),("int",.globalImplicit),("_law_k",.free)],isGenerator:=false,isCoroutine:=false }) (y2:List Addr) (s0:Ah) (H0:Hp),
    CompScope (Dh (Na Ja P w K mg base ["_law_script", "_law_cell", "_law_things_here", "_law_words_here", "_law_holes", "_law_kept", "_law_first", "_law_text", "_law_picks", "_law_pick", "_law_deck_here", "_law_numbers", "_law_pair"] "law" (Bv Yh) f j0 A Q s H E).nox { kind:=.function,names:=[(".0",.local),("_law_k",.cell),("range",.globalImplicit)],isGenerator:=false,isCoroutine:=false } [] ["_law_k"] y2 s0 H0) a [("_law_k",s0.heap.objs.size+1)] "_law_j" ["_law_k"] [0]:=by
   rintro a rfl y2 s0 H0
   refine ⟨by rfl,.inl (by decide +kernel),by rfl,by decide +kernel,.inl rfl,λy c h=>?_,by rfl,by decide +kernel,rfl,λk y j e1 e2=>?_⟩
   ·have z:=Ge h
    simp only[Al,Ba,or_false,Hi] at z
    obtain ⟨rfl,rfl⟩:=z; rfl
   ·match k,e1,e2 with
    | 0,e1,e2=>cases e1; cases e2; exact ⟨rfl,rfl,by first | exact .inl rfl | exact .inr rfl⟩
    | k+1,e1,e2=>cases e1
  have y9:∀{a:Scope} (h:a={ kind:=.function,names:=[(".0",.local),("_law_one",.local),("_law_k",.local)],isGenerator:=false,isCoroutine:=false }),
    CompScope (Na Ja P w K mg base ["_law_script", "_law_cell", "_law_things_here", "_law_words_here", "_law_holes", "_law_kept", "_law_first", "_law_text", "_law_picks", "_law_pick", "_law_deck_here", "_law_numbers", "_law_pair"] "law" (Bv Yh) f j0 A Q s H E).nox a [] "_law_one" [] []:=by
   rintro a rfl
   exact Nd.compScope0 (by rfl) (by decide +kernel) (by rfl) (by decide +kernel) (by rfl) (by rfl)
  exact Cn (Od Et rfl (U9 (Vw (Q1 (pv 0) Tp (To Dt)) (Iz (Ao Dt Bd)))) (Hz (i:=1) FB.nd rfl (Dk rfl))
   (Cn (Ex (i:=2) FB.nd rfl (Dk rfl) (zT k4 x1 rfl k3 k5 k6 Gi (Ao (L6 q0 y3 rfl q6 k7 q7 Gi (Ao (Ar (pv 1)) Bd)) Bd)))
    (Cn (Ex (i:=3) FB.nd rfl (Dk rfl) (Iw (Ar (pv 2)) Dt))
    (Cn (Ex (i:=4) FB.nd rfl (Dk rfl) (Ju (yS rfl) X1 rfl j9 (by decide +kernel) (Ao (Oo (z0 rfl) rfl (U9 (Ar (pv 3))) (λ_ _ _=>Ng) (λ_ _ _=>Ju Qj Yq rfl j7 (by decide +kernel) (Ao (Ar (pv 0)) Bd))) Bd)))
    (Cn (Ex (i:=5) FB.nd rfl (Dk rfl) (Kn (Wy hr.gd h8) nH rfl U (by decide +kernel) (Ao (Ar (pv 2)) Bd)))
    (Cn (Ex (i:=6) FB.nd rfl (Dk rfl) (Iz (Ao (Gk R x6 rfl J O N Gi (Ao (Ar (pv 4)) (Ao (Iw (Iw (Ar (pv 2)) Dt) Dt) Bd))) (Ao (Gk q x1 rfl u B r Gi (Ao (Ar (pv 4)) (Ao (Iw (Iw (Ar (pv 2)) Dt) Dt) Bd))) Bd))))
    (Cn (Ex (i:=7) FB.nd rfl (Dk rfl) (Kn (Wy hr.gd h8) nH rfl U (by decide +kernel) (Ao (Ar (pv 6)) Bd)))
    (Cn (Ex (i:=8) FB.nd rfl (Dk rfl) (wJ (Iz (Ao (C5 (Iz (Ao Dt Bd)) Dt) Bd)) (B2 (z2 rfl) rfl (Jw rfl h3 (Ao Dt Bd)) (λ_ _ _=>Ng) (λ_ _ _=>Oo (y8 rfl _ _ _) rfl (Jw rfl h3 (Ao Dt Bd)) (λ_ _ _=>Ng) (λ_ _ _=>Kn r0 HQ rfl j6 (by decide +kernel) (Ao (eV q8 (Ar (pv 0)) (Ar (pv 1))) Bd))))))
    (Cn (Od Et rfl (U9 (wJ (Ar (pv 8)) (F6 (i:=false) (Ar (pv 8)) (C4 Dt)))) (Hz (i:=9) FB.nd rfl (Dk rfl))
    (Cn (N8 (p8 (y9 rfl) (.inl rfl) (by decide +kernel) rfl (FO rfl x0 (Ao (Vr (i:=false) (Ar (pv 2)) (To Dt) Tp) (Ao (Ar (pv 9)) Bd))) (λ_ _ _=>Ng) (λ_ _ _=>Iw (Ar (pv 0)) (Ar (pv 1)))) (ID (n:=3) rfl (Qz (Hz (i:=10) FB.nd rfl (Dk rfl)) (Qz (Hz (i:=11) FB.nd rfl (Dk rfl)) (Qz (Hz (i:=12) FB.nd rfl (Dk rfl)) oE)))))
     (Cn (Vz (X2 (LB (GM (uW (Gk q5 y7 rfl k9 q4 k8 Gi (Ao (Ar (pv 3)) (Ao (Ar (pv 4)) (Ao (Ar (pv 10)) (Ao (Ar (pv 11)) (Ao (Ar (pv 12)) Bd)))))))) (FA (cN q8 (Kn (Wy hr.gd h8) nH rfl U (by decide +kernel) (Ao (Ar (pv 2)) Bd)) (Ar (pv 5))))))
     (Ej (Ii jW)) Qr)
     (Cn (id (T1 h9 y3 rfl k0 h7 h6 Gi (Ao (Iz (Ao (Gk R x6 rfl J O N Gi (Ao (Ar (pv 4)) (Ao (Ar (pv 10)) Bd))) (Ao (Gk q x1 rfl u B r Gi (Ao (Ar (pv 4)) (Ao (Ar (pv 11)) Bd))) Bd))) Bd)))
     (Ej (Vz (cN q8 (Kn (Wy hr.gd h8) nH rfl U (by decide +kernel) (Ao (Ar (pv 6)) Bd)) (Ar (pv 7)))
     (Ej (Ii jW)) Qr))))))
    (Ej (Vz (cN q8 (Iz (Ao (Gk R x6 rfl J O N Gi (Ao (Ar (pv 4)) (Ao (Iw (Iw (Ar (pv 2)) Dt) Dt) Bd))) (Ao (Gk q x1 rfl u B r Gi (Ao (Ar (pv 4)) (Ao (Iw (Iw (Ar (pv 2)) Dt) Dt) Bd))) Bd))) (Ar (pv 6)))
    (Ej (Ii jW)) Qr)))))))))))
   (Ej (Ii jW))
 case h =>
  intro ns w1
  array_get_dec
  have lc:(Np ns none (some 4)).length<=4:=KN 4
  refine ⟨by rw[Ad]; omega,?_⟩
  refine bC (l:=Np ns none (some 4)++[0]) (g:=Az) (by rw[Bp]; rfl) (λi δ=>∃(l:List DV) (n':Nat),δ=⟨.scr ns::l,n'⟩/\l.length=12/\(∀v∈l,NP v)/\n'<=3000 * i) ?_ ?_ ?_
  ·exact ⟨_,_,rfl,rfl,by simp [Ra],by omega⟩
  ·(intro i c _ hc q_; obtain ⟨l,n0,rfl,hl,hv,hn⟩ := q_)
   have hi:i<5:=by
    have:=(Bb.mp hc).1
    rw[Bm,Fi] at this
    omega
   obtain ⟨v1,v2,v3,v4,v5,v6,v7,v8,v9,j1,j5,j2,rfl⟩:=ER hl
   simp only[List.forall_mem_cons] at hv
   obtain ⟨z9,v0,z8,z5,z6,z7,w0,w3,q9,h2,h5,Z,-⟩:=hv
   array_get_dec
   refine ⟨rfl,by omega,λh L I d2 f2 p1 p2 n1 k1 k2 t=>?_⟩
   obtain ⟨t1,t2⟩:=CK t
   obtain ⟨t3,t4⟩:=tG t
   obtain ⟨tx,x7⟩ : ∃tx,fI (Wv L I d2 f2 p1 p2)=tx:=⟨_,rfl⟩
   have h0:=t.h0
   have h1:=t.h1
   have ll:=t.ll
   have nL:[]∈L:=(Hd t.pe).mpr ⟨Ds,λ_ z=>(nomatch z)⟩
   unfold Wv iO at x7 t1 t2 ⊢
   array_get_dec
   refine qZ (l:=L) (g:=Bf) rfl (λw=>.int (w.length:Int)) (λw hw x8 no hy=>?_) ?_
   ·array_get_dec
    rw[Ad]
    exact hy
   array_get_dec
   refine ⟨L.map λw=>(w.length:Int),by rw[Dj]; rfl,λz=>Sj nL (aN.mp z),λM hM hz=>?_⟩
   rw[AN h0 t.pe hM hz]
   clear hz hM M
   refine ⟨⟨12,by decide,t1,t2⟩,Ca (m:=60) (by unfold Hr yH; exact dp) (by decide),?_⟩
   have en:((h.toNat:Nat):Int)=h:=by omega
   have y1:∀c∈I,Cz (h.toNat:Int) c:=λc hc=>by rw[en]; exact t.r1 c hc
   obtain ⟨o1,o2⟩:=K6 t.pe y1
   have z1:=fG t.pe y1
   have dl:=z1.length_eq
   have l1:=t.l1
   refine ⟨h,I,rfl,by omega,by omega,t.r1,λL' y0 y4=>?_⟩
   obtain rfl:L'=L:=Ow (y0.trans t.pe.symm) y4 t.po
   clear y0 y4
   refine ⟨h,L',Hq I,rfl,by omega,by omega,t.pe,t.po,λ_=>⟨by rw[o2,Ad,dl]; omega,?_⟩,λw hw x4=>absurd (o1 w hw) (by omega)⟩
   rw[o2]
   obtain ⟨ty,j8⟩ : ∃ty,fI (iF L' I)=ty:=⟨_,rfl⟩
   unfold iF iO at j8 t3 t4
   refine ⟨⟨12,by decide,t3,t4⟩,Ca (m:=60) (by unfold Hr; exact dp) (by decide),?_⟩
   rw[x7,j8]
   refine HY (l:=Bw 3) (g:=λi:Nat=>.int i) rfl (λk=>.list ((Bw 3).map λj:Nat=>.int (if decide ((j:Int)=(k:Int))=true then 1 else 0))) (λk _ x8 no hy=>?_) ?_
   ·array_get_dec
    refine qZ (l:=Bw 3) (g:=λi:Nat=>.int i) rfl (λj:Nat=>.int (if decide ((j:Int)=(k:Int))=true then 1 else 0)) (λj _ z3 w2 y5=>?_) ?_
    ·array_get_dec
     exact y5
    ·array_get_dec
     exact hy
   array_get_dec
   refine ⟨by simp,by simp,?_⟩
   refine bC (l:=QF) (g:=PQ) (by rfl) (λi δ=>∃(d8:Af) (v9 j1 j5 j2:DV),δ=⟨[.scr ns,.dat .sh (.int c),.dat .sh (.list [.list (L'.map Bf),.list [.list (I.map Bf),.list (d2.map Bf)],.list [Hr L' (Hq I),Hr L' f2],.list [yH p1,yH p2]]),.dat .sh (.list (L'.map Bf)),.dat .sh (.int h),.dat .sh (.str tx),.dat .sh (.list [Hr L' (Hq I),.tuple [.str (Cq "deck"),.list ((Lf L' (Pd I)).map Bf)]]),.dat .sh (.str ty),.dat .sh d8,v9,j1,j5,j2],n1⟩/\NP v9/\NP j1/\NP j5/\NP j2) ?_ ?_ ?_
   ·exact ⟨_,_,_,_,_,rfl,q9,h2,h5,Z⟩
   ·clear q9 h2 h5 Z
    (intro k p _ hp q_; obtain ⟨d8,v9,j1,j5,j2,rfl,q9,h2,h5,Z⟩ := q_)
    obtain ⟨q1,q2,q3⟩:=GT p (Bj hp)
    unfold PQ
    array_get_dec
    refine CA (l:=[(0:Nat),1,2]) (g1:=λi=>[PyData.list [.list (I.map Bf),.list (d2.map Bf)],.list [Hr L' (Hq I),Hr L' f2],.list [yH p1,yH p2]].getD i .none) (g2:=λi=>[Az p.1,.int p.2.1,.int p.2.2].getD i .none) rfl (λi=>[iO (mB p.1 I d2),Hr L' (mB p.2.1 (Hq I) f2),yH (mB p.2.2 p1 p2)].getD i .none) (λi hi x8 no hy=>?_) ?_
    ·simp only[Al,Ba,or_false] at hi
     rcases hi with rfl | rfl | rfl
     ·simp only[Ri,Rj] at hy ⊢
      array_get_dec
      refine ⟨_,uP _ _ q1,?_⟩
      array_get_dec
      rw[show mB p.1 (PyData.list (I.map Bf)) (.list (d2.map Bf))=iO (mB p.1 I d2) from nP iO _ _ _]
      exact hy
     ·simp only[Ri,Rj] at hy ⊢
      array_get_dec
      refine ⟨_,uP _ _ q2,?_⟩
      array_get_dec
      rw[nP (Hr L')]
      exact hy
     ·simp only[Ri,Rj] at hy ⊢
      array_get_dec
      refine ⟨_,uP _ _ q3,?_⟩
      array_get_dec
      rw[nP yH]
      exact hy
    simp only[Aq,Oi,Ri,Rj]
    have x5:(mB p.1 I d2).length<=61/\∀c∈mB p.1 I d2,Cz h c:=tW (P:=λd=>Fh d<=61/\∀c∈d,Cz h c) ⟨t.l1,t.r1⟩ ⟨t.l2,t.r2⟩
    have x2:∀w∈L',-1000<=mB p.2.1 (Hq I) f2 w/\mB p.2.1 (Hq I) f2 w<=1000:=tW (P:=λf:List Int->Int=>∀w∈L',-1000<=f w/\f w<=1000) (λw _=>J0 t.l1 w) t.b2
    have x9:N3 h (mB p.2.2 p1 p2):=tW t.q1 t.q2
    generalize mB p.1 I d2=da at x5
    generalize mB p.2.1 (Hq I) f2=fa at x2
    generalize mB p.2.2 p1 p2=pa at x9
    unfold iO
    array_get_dec
    refine ⟨h,L',da,fa,pa,rfl,h0,by omega,t.pe,t.po,by omega,x5.2,x2,x9,?_⟩
    array_get_dec
    refine ⟨⟨12,by decide,t1,t2⟩,Ca (m:=60) (by unfold Hr yH; exact dp) (by decide),?_⟩
    rw[x7]
    array_get_dec
    unfold B6
    array_get_dec
    refine ⟨h,da,rfl,by omega,by omega,x5.2,λL2 j4 j3=>?_⟩
    obtain rfl:L2=L':=Ow (j4.trans t.pe.symm) j3 t.po
    clear j4 j3
    refine ⟨h,L2,fa,rfl,by omega,by omega,t.pe,t.po,λx3=>⟨Uo t.pe x3 (by have:=x2 _ nL; omega),?_⟩,λw hw x4=>?_⟩
    ·have hs:=Uo t.pe x3 (by have:=x2 _ nL; omega)
     refine EL (by simp [npk]) (by rw[Ad,Ad]; omega) (λ_=>⟨_,rfl,by omega⟩) ?_
     array_get_dec
     refine ⟨⟨12,by decide,t3,t4⟩,Ca (m:=60) (by unfold Hr; exact dp) (by decide),?_⟩
     rw[j8]
     array_get_dec
     exact ⟨_,_,_,_,_,rfl,Ie,Ie,Ie,Ie⟩
    ·refine EL (by simp [npk]) (by rw[Ad,Ad]; omega) (λe=>absurd e (by decide +kernel)) ?_
     array_get_dec
     refine ⟨⟨12,by decide,t3,t4⟩,Ca (m:=60) (by unfold Hr; exact dp) (by decide),?_⟩
     rw[j8]
     array_get_dec
     exact ⟨_,_,_,_,_,rfl,Ie,Ie,Ie,Ie⟩
   ·clear q9 h2 h5 Z
    (intro _ q_; obtain ⟨d8,v9,j1,j5,j2,rfl,q9,h2,h5,Z⟩ := q_)
    array_get_dec
    refine ⟨h,I,rfl,by omega,by omega,t.r1,λL2 j4 j3=>?_⟩
    obtain rfl:L2=L':=Ow (j4.trans t.pe.symm) j3 t.po
    clear j4 j3
    refine ⟨h,L2,Hq I,rfl,by omega,by omega,t.pe,t.po,λ_=>⟨by rw[o2,Ad,dl]; omega,?_⟩,λw hw x4=>absurd (o1 w hw) (by omega)⟩
    rw[o2]
    have e1:Eg (.list [Hr L2 (Hq I),.tuple [.str (Cq "deck"),.list ((Lf L2 (Pd I)).map Bf)]]) (.list [Hr L2 (Hq I),.tuple [.str (Cq "deck"),.list ((Lf L2 (Pd I)).map Bf)]])=true:=by
     unfold Hr
     rw[fP,Wm,Wm,sJ,eqD_li,xU,Wm,Wm,sJ,eqD_lw,eqD_str]
     simp
    refine ⟨by unfold Hr; exact dp,?_⟩
    rw[e1]
    array_get_dec
    refine ⟨_,_,rfl,rfl,?_,by omega⟩
    simp only[List.forall_mem_cons]
    exact ⟨Ie,Ie,Ie,Ie,Ie,Ie,Ie,Ie,q9,h2,h5,Z,λ_ z=>(nomatch z)⟩
  ·(intro _ q_; obtain ⟨l,n',rfl,hl,hv,hn⟩ := q_)
   array_get_dec
end
structure Def(K:PySem.W.Frag)(x:Str)(st:Stmt)(f:Addr)(fd:Cv):Prop where
 nm:PySem.W.nsIn K Do x=some (some (.ref f))
 fn:Fun K x x st f fd
theorem def_mk{K:PySem.W.Frag}{i kV dc e b ct:Value}(a:PySem.W.nsIn K Do x=some (some (.ref f)))(l:K.lookup f=some ⟨i,h,.func (PySem.W.fnOf x x (Rt st) (Kx st) (Bv st) .none kV dc e d b ct),g⟩)(c:PySem.W.codeIn K b x=true)(k:PySem.W.keepIn K (.ref f)=true):Def K x st f (PySem.W.fnOf x x (Rt st) (Kx st) (Bv st) .none kV dc e d b ct):=⟨a,P8 l c k⟩
theorem QZ{P:List Value->Prop}(h:P []):∀us:List Value,us.length=0->P us
 | [],_=>h
theorem JR{P:List Value->Prop}(h:∀a (us:List Value),us.length=n->P (a::us)):∀us:List Value,us.length=n+1->P us
 | a::us,e=>h a us (Nat.succ.inj e)
theorem DM{P:List Value->Prop}(h:∀b,P [b]):∀us:List Value,us.length=1->P us:=JR λa us e=>QZ (P:=λus=>P (a::us)) (h a) us e
theorem EV{P:List Value->Prop}(h:∀b a1,P [b,a1]):∀us:List Value,us.length=2->P us:=JR λa us e=>DM (P:=λus=>P (a::us)) (h a) us e
theorem NJ{P:List Value->Prop}(h:∀b a1 a2,P [b,a1,a2]):∀us:List Value,us.length=3->P us:=JR λa us e=>EV (P:=λus=>P (a::us)) (h a) us e
theorem ON{P:List Value->Prop}(h:∀b a1 a2 a3,P [b,a1,a2,a3]):∀us:List Value,us.length=4->P us:=JR λa us e=>NJ (P:=λus=>P (a::us)) (h a) us e
theorem QN{P:List Value->Prop}(h:∀b a1 a2 a3 a4,P [b,a1,a2,a3,a4]):∀us:List Value,us.length=5->P us:=JR λa us e=>ON (P:=λus=>P (a::us)) (h a) us e
theorem all_mk{l:PySem.W.OpenLaw}{w:World}{K:PySem.W.Frag}{h:Heap}{fa f1 f2 f3 f4 f5 f6 f7 f8 f9 j1 h6 q3 k7 k5 q8 q4 j6 h1 k2 o:Addr}{d1 d2 d3 d4 d5 d6 d7 d8 d9 h5 V q5 k9 U k6 h7 q9 h0 Y:Cv}(X:K.In h)(G:h.Ns Do mg)(j4:mg "law" = some (.ref fa)){oc kV dc pm cd ct:Value}(N:Def K "_law_draws" nM f1 d1)(D2:Def K "_law_next" yN f2 d2)(R:Def K "together" Uh f3 d3)(O:Def K "all_words" Rw f4 d4)(S:Def K "_law_words" Pv f5 d5)(M:Def K "_law_small" Uj f6 d6)(I:Def K "_law_lies" Rr f7 d7)(p:Def K "order_of" Uc f8 d8)(y:Def K "put_to" Zh f9 d9)(c:Def K "parted_by" Vk j1 h5)(b:Def K "counts" fY h6 V)(g:Def K "just" tS q3 q5)(n:Def K "_law_deck" Vl k7 k9)(d:Def K "deck_of" Wn k5 U)(f:Def K "_law_just_so" Qy q8 k6)(a:Def K "_law_counts" Me q4 h7)(k:Def K "_law_spoiled" Ql j6 q9)(j:Def K "_law_things" Ma h1 h0)(i:Def K "_law_right" Nb k2 Y)(aL:PySem.W.nsIn K Do "law" = some (some (.ref o)))(lL:K.lookup o=some ⟨oc,od,.func (PySem.W.fnOf "law" "law" (Rt Yh) (Kx Yh) (Bv Yh) .none kV dc pm an cd ct),sl⟩)(cL:PySem.W.codeIn K cd "law" = true)(kL:PySem.W.keepIn K (.ref o)=true)(z1:PySem.W.nsIn K Do "tuple" = some none)(z2:PySem.W.nsIn K Do "sorted" = some none)(z3:PySem.W.nsIn K Do "set" = some none)(z4:PySem.W.nsIn K Do "range" = some none)(z5:PySem.W.nsIn K Do "enumerate" = some none)(z6:PySem.W.nsIn K Do "zip" = some none)(z7:PySem.W.nsIn K Do "len" = some none)(z8:PySem.W.nsIn K Do "dict" = some none)(z9:PySem.W.nsIn K Do "min" = some none)(z10:PySem.W.nsIn K Do "max" = some none)(z11:PySem.W.nsIn K Do "str" = some none)(z12:PySem.W.nsIn K Do "int" = some none):∃fd:Cv,(∀(s:Ah) (v:Value),BindsTo s fd ⟨[v],[]⟩ [("_law_script",v)])/\∀base:Heap,K.In base->base.Ns Do mg->FnOk l.prog w K mg base Ja 6 fa fd ["_law_script"] (DL.spLawD K):=by
 have e:=j4.symm.trans (PySem.W.mg_of X G aL)
 cases e
 have FL:=P8 (st:=Yh) lL cL kL
 have b1:=N.fn.binds (ps:=["_law_cell"]) λ_ _ _ _ _ _=>DM (λ_=>rfl)
 have b2:=D2.fn.binds (ps:=["_law_draws_here"]) λ_ _ _ _ _ _=>DM (λ_=>rfl)
 have b3:=R.fn.binds (ps:=["one", "other"]) λ_ _ _ _ _ _=>EV (λ_ _=>rfl)
 have b4:=O.fn.binds (ps:=["holes"]) λ_ _ _ _ _ _=>DM (λ_=>rfl)
 have b5:=S.fn.binds (ps:=["_law_holes"]) λ_ _ _ _ _ _=>DM (λ_=>rfl)
 have b6:=M.fn.binds (ps:=["_law_draws_here", "_law_holes"]) λ_ _ _ _ _ _=>EV (λ_ _=>rfl)
 have b7:=I.fn.binds (ps:=["_law_one", "_law_other"]) λ_ _ _ _ _ _=>EV (λ_ _=>rfl)
 have b8:=p.fn.binds (ps:=["holes"]) λ_ _ _ _ _ _=>DM (λ_=>rfl)
 have b9:=y.fn.binds (ps:=["numbers", "order", "place", "times"]) λ_ _ _ _ _ _=>ON (λ_ _ _ _=>rfl)
 have u:=c.fn.binds (ps:=["order", "numbers", "places"]) λ_ _ _ _ _ _=>NJ (λ_ _ _=>rfl)
 have z:=b.fn.binds (ps:=["holes", "deck"]) λ_ _ _ _ _ _=>EV (λ_ _=>rfl)
 have T:=g.fn.binds (ps:=["holes", "numbers", "notched", "whole"]) λ_ _ _ _ _ _=>ON (λ_ _ _ _=>rfl)
 have k0:=n.fn.binds (ps:=["_law_draws_here", "_law_holes", "_law_limit"]) λ_ _ _ _ _ _=>NJ (λ_ _ _=>rfl)
 have x:=d.fn.binds (ps:=["holes", "numbers"]) λ_ _ _ _ _ _=>EV (λ_ _=>rfl)
 have k8:=f.fn.binds (ps:=["_law_words_here", "_law_numbers", "_law_holes"]) λ_ _ _ _ _ _=>NJ (λ_ _ _=>rfl)
 have E:=a.fn.binds (ps:=["_law_words_here", "_law_deck_here"]) λ_ _ _ _ _ _=>EV (λ_ _=>rfl)
 have q1:=k.fn.binds (ps:=["_law_told"]) λ_ _ _ _ _ _=>DM (λ_=>rfl)
 have j2:=j.fn.binds (ps:=["_law_draws_here"]) λ_ _ _ _ _ _=>DM (λ_=>rfl)
 have Z:=i.fn.binds (ps:=["_law_words_here", "_law_holes", "_law_deck_here", "_law_numbers", "_law_pair"]) λ_ _ _ _ _ _=>QN (λ_ _ _ _ _=>rfl)
 have m1:=PySem.W.mg_of X G N.nm
 have m2:=PySem.W.mg_of X G D2.nm
 have m3:=PySem.W.mg_of X G R.nm
 have m4:=PySem.W.mg_of X G O.nm
 have m5:=PySem.W.mg_of X G S.nm
 have m6:=PySem.W.mg_of X G M.nm
 have m7:=PySem.W.mg_of X G I.nm
 have m8:=PySem.W.mg_of X G p.nm
 have m9:=PySem.W.mg_of X G y.nm
 have A:=PySem.W.mg_of X G c.nm
 have F:=PySem.W.mg_of X G b.nm
 have j5:=PySem.W.mg_of X G g.nm
 have j0:=PySem.W.mg_of X G n.nm
 have J:=PySem.W.mg_of X G d.nm
 have k4:=PySem.W.mg_of X G f.nm
 have H:=PySem.W.mg_of X G a.nm
 have h8:=PySem.W.mg_of X G k.nm
 have q6:=PySem.W.mg_of X G j.nm
 have q7:=PySem.W.mg_of X G i.nm
 have t:=PySem.W.mg_none_of X G z1
 have q:=PySem.W.mg_none_of X G z2
 have y3:=PySem.W.mg_none_of X G z3
 have m:=PySem.W.mg_none_of X G z4
 have y5:=PySem.W.mg_none_of X G z5
 have Q:=PySem.W.mg_none_of X G z6
 have r:=PySem.W.mg_none_of X G z7
 have y8:=PySem.W.mg_none_of X G z8
 have y9:=PySem.W.mg_none_of X G z9
 have h3:=PySem.W.mg_none_of X G z10
 have h2:=PySem.W.mg_none_of X G z11
 have k1:=PySem.W.mg_none_of X G z12
 refine ⟨PySem.W.fnOf "law" "law" (Rt Yh) (Kx Yh) (Bv Yh) .none kV dc pm an cd ct,λs v=>.of_eq rfl,λbase _ _=>?_⟩
 have g1:=w5 (P:=l.prog) (w:=w) (mg:=mg) (base:=base) N.fn
 have g2:=G3 (P:=l.prog) (w:=w) (mg:=mg) (base:=base) D2.fn
 have g3:=mD (P:=l.prog) (w:=w) (mg:=mg) (base:=base) R.fn t q y3
 have g4:=oI (P:=l.prog) (w:=w) (mg:=mg) (base:=base) O.fn m q
 have g5:=iX (P:=l.prog) (w:=w) (mg:=mg) (base:=base) S.fn m q
 have g6:=jN (P:=l.prog) (w:=w) (mg:=mg) (base:=base) M.fn g2 b2 D2.fn.kp m2 m t
 have g7:=nJ (P:=l.prog) (w:=w) (mg:=mg) (base:=base) I.fn
 have g8:=rG (P:=l.prog) (w:=w) (mg:=mg) (base:=base) p.fn g4 b4 O.fn.kp m4 y5
 have g9:=w4 (P:=l.prog) (w:=w) (mg:=mg) (base:=base) y.fn g3 b3 R.fn.kp m3 Q
 have D:=nB (P:=l.prog) (w:=w) (mg:=mg) (base:=base) c.fn g9 b9 y.fn.kp m9
 have B:=o8 (P:=l.prog) (w:=w) (mg:=mg) (base:=base) b.fn g8 b8 p.fn.kp m8 g9 b9 y.fn.kp m9 r m
 have h4:=AX (P:=l.prog) (w:=w) (mg:=mg) (base:=base) g.fn g8 b8 p.fn.kp m8 D u c.fn.kp A
 have h9:=lT (P:=l.prog) (w:=w) (mg:=mg) (base:=base) n.fn g2 b2 D2.fn.kp m2 g6 b6 M.fn.kp m6 m r q y3 t
 have C:=vD (P:=l.prog) (w:=w) (mg:=mg) (base:=base) d.fn g8 b8 p.fn.kp m8 D u c.fn.kp A t m Q
 have j3:=cZ (P:=l.prog) (w:=w) (mg:=mg) (base:=base) f.fn y8 Q m q t
 have L:=eY (P:=l.prog) (w:=w) (mg:=mg) (base:=base) a.fn g7 b7 I.fn.kp m7 r
 have q0:=dG (P:=l.prog) (w:=w) (mg:=mg) (base:=base) k.fn
 have k3:=gC (P:=l.prog) (w:=w) (mg:=mg) (base:=base) j.fn g2 b2 D2.fn.kp m2 g5 b5 S.fn.kp m5 g6 b6 M.fn.kp m6 h9 k0 n.fn.kp j0 L E a.fn.kp H r m t
 have q2:=iZ (P:=l.prog) (w:=w) (mg:=mg) (base:=base) i.fn B z b.fn.kp F C x d.fn.kp J h4 T g.fn.kp j5 g7 b7 I.fn.kp m7 L E a.fn.kp H j3 k8 f.fn.kp k4 r y9 q
 exact FY FL B z b.fn.kp F C x d.fn.kp J g1 b1 N.fn.kp m1 k3 j2 j.fn.kp q6 q2 Z i.fn.kp q7 q0 q1 k.fn.kp h8 r h3 h2 m k1 Q
theorem walk{l:PySem.W.OpenLaw}{K:Params->PySem.W.Frag}(j:l.most=some 63)(b:d.params.defaults=[])(i:∀(w:World) (h:Heap),YP w h->(K w.params).In h)(F:∀(w:World) (mg:Str->Option Value) (c:Addr) (h:Heap),(K w.params).In h->h.Ns Do mg->mg d.name=some (.ref c)->∃e:Cv,(∀(s:Ah) (u:Value),BindsTo s e ⟨[u],[]⟩ [("_law_script",u)])/\∀base:Heap,(K w.params).In base->base.Ns Do mg->FnOk l.prog w (K w.params) mg base Ja 6 c e ["_law_script"] (DL.spLawD (K w.params))):PySem.W.WalkO q loose XP YP l.row.toRowW d [] (λf vs=>PySem.call f vs) :=
 L2.walk_ofD (n:=63) (k:=6) (x := "_law_script") (CX:=λ_=>Ja) (sp:=λw=>DL.spLawD (K w.params)) j (by decide) b ⟨rfl,by decide,by decide,rfl⟩ i F (λ_ _ a m g _ o=>⟨a,m,rfl,o,g,λ_=>rfl⟩) λ_ _ _ _ _ z=>z
end K55
open PySem PySem.W PyProof.Rows
local macro_rules | `(tactic| refine $h:ident (q := $q) (loose := $l) (Xt := $a) (XP := $b) (Yf := $c) (Ya := $d) (YP := $e) (N := $n) ?hl $y*) => `(tactic| refine $h:ident (q := $q) (loose := $l) (Xt := $a) (XP := $b) (Yf := $c) (Ya := $d) (YP := $e) (N := $n) (fun _ => by kernel_rfl) $y*)
set_option maxRecDepth 100000 in
set_option maxHeartbeats 0 in
theorem PySem.Challenge.cw_needledeck_k55_whole_one_thing_other_holds : PySem.Challenge.rw_needledeck_k55_whole_one_thing_other.Holds := by
 w_on; refine holds_law (by kernel_rfl) λsaid=>?_; k_head; (case hw=>w_witness2)
 k_fill
 refine K55.walk (l:=PySem.Challenge.rw_needledeck_k55_whole_one_thing_other) rfl rfl (λw h Y=>PySem.W.kIn_of Y) ?F
 case F =>
  intro w mg fa h KX G hmg
  refine' K55.all_mk KX G hmg (K55.def_mk ?a1 ?l1 ?c1 ?k1) (K55.def_mk ?a2 ?l2 ?c2 ?k2) (K55.def_mk ?a3 ?l3 ?c3 ?k3) (K55.def_mk ?a4 ?l4 ?c4 ?k4) (K55.def_mk ?a5 ?l5 ?c5 ?k5) (K55.def_mk ?a6 ?l6 ?c6 ?k6) (K55.def_mk ?a7 ?l7 ?c7 ?k7) (K55.def_mk ?a8 ?l8 ?c8 ?k8) (K55.def_mk ?a9 ?l9 ?c9 ?k9) (K55.def_mk ?a10 ?l10 ?c10 ?k10) (K55.def_mk ?a11 ?l11 ?c11 ?k11) (K55.def_mk ?a12 ?l12 ?c12 ?k12) (K55.def_mk ?a13 ?l13 ?c13 ?k13) (K55.def_mk ?a14 ?l14 ?c14 ?k14) (K55.def_mk ?a15 ?l15 ?c15 ?k15) (K55.def_mk ?a16 ?l16 ?c16 ?k16) (K55.def_mk ?a17 ?l17 ?c17 ?k17) (K55.def_mk ?a18 ?l18 ?c18 ?k18) (K55.def_mk ?a19 ?l19 ?c19 ?k19) ?aL ?lL ?cL ?kL ?z1 ?z2 ?z3 ?z4 ?z5 ?z6 ?z7 ?z8 ?z9 ?z10 ?z11 ?z12
  (case a1=>k_is); (case l1=>k_is); (case c1=>k_is); (case k1=>k_is)
  (case a2=>k_is); (case l2=>k_is); (case c2=>k_is); (case k2=>k_is)
  (case a3=>k_is); (case l3=>k_is); (case c3=>k_is); (case k3=>k_is)
  (case a4=>k_is); (case l4=>k_is); (case c4=>k_is); (case k4=>k_is)
  (case a5=>k_is); (case l5=>k_is); (case c5=>k_is); (case k5=>k_is)
  (case a6=>k_is); (case l6=>k_is); (case c6=>k_is); (case k6=>k_is)
  (case a7=>k_is); (case l7=>k_is); (case c7=>k_is); (case k7=>k_is)
  (case a8=>k_is); (case l8=>k_is); (case c8=>k_is); (case k8=>k_is)
  (case a9=>k_is); (case l9=>k_is); (case c9=>k_is); (case k9=>k_is)
  (case a10=>k_is); (case l10=>k_is); (case c10=>k_is); (case k10=>k_is)
  (case a11=>k_is); (case l11=>k_is); (case c11=>k_is); (case k11=>k_is)
  (case a12=>k_is); (case l12=>k_is); (case c12=>k_is); (case k12=>k_is)
  (case a13=>k_is); (case l13=>k_is); (case c13=>k_is); (case k13=>k_is)
  (case a14=>k_is); (case l14=>k_is); (case c14=>k_is); (case k14=>k_is)
  (case a15=>k_is); (case l15=>k_is); (case c15=>k_is); (case k15=>k_is)
  (case a16=>k_is); (case l16=>k_is); (case c16=>k_is); (case k16=>k_is)
  (case a17=>k_is); (case l17=>k_is); (case c17=>k_is); (case k17=>k_is)
  (case a18=>k_is); (case l18=>k_is); (case c18=>k_is); (case k18=>k_is)
  (case a19=>k_is); (case l19=>k_is); (case c19=>k_is); (case k19=>k_is)
  (case aL=>k_is); (case lL=>k_is); (case cL=>k_is); (case kL=>k_is)
  (case z1=>k_is); (case z2=>k_is); (case z3=>k_is); (case z4=>k_is); (case z5=>k_is); (case z6=>k_is); (case z7=>k_is); (case z8=>k_is); (case z9=>k_is); (case z10=>k_is); (case z11=>k_is); (case z12=>k_is)