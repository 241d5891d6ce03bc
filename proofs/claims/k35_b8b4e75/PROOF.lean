import PyProof.Rows.All
import KE.KLam
import Wide.All
import OpenK.AllK
import Wide.FinOn
import Lean
import PyProof.EqAt
import PyProof.EqKinds
import PyProof.TupleCall
import PyProof.FactsAll.set
import PyProof.FactsAll.subtypes
import KE.KTupSum
import KE.KMinBuiltin
import PyProof.Draws
import PyProof.DictWalks
import PyProof.DictCompW
import PyProof.IsiH_tuple
import PyProof.FactsAll.zip
import KE.KDictOf
import PyProof.DictValues
import KE.KSortKey
import PySem.Challenge.RW_needledeck_k35_values_written
set_option Elab.async false
set_option linter.all false
set_option maxRecDepth 100000
set_option maxHeartbeats 4000000
set_option genSizeOf false
local macro_rules|`(tactic|omega)=>`(tactic|first|lia|omega +splitDisjunctions)
theorem e0a2{G:Prop}(k:A→B→G)(h:A∧B):G:=k h.1 h.2
theorem e0a3{G:Prop}(k:A→B→C→G)(h:A∧B∧C):G:=k h.1 h.2.1 h.2.2
theorem e0a4{G:Prop}(k:A→B→C→D→G)(h:A∧B∧C∧D):G:=k h.1 h.2.1 h.2.2.1 h.2.2.2
theorem e0a5{G:Prop}(k:A→B→C→D→E→G)(h:A∧B∧C∧D∧E):G:=k h.1 h.2.1 h.2.2.1 h.2.2.2.1 h.2.2.2.2
theorem e0a6{G:Prop}(k:A→B→C→D→E→F→G)(h:A∧B∧C∧D∧E∧F):G:=k h.1 h.2.1 h.2.2.1 h.2.2.2.1 h.2.2.2.2.1 h.2.2.2.2.2
theorem e1a1{t0:Type}{A:t0→Prop}{G:Prop}(k:∀x,A x→G)(h:∃x,A x):G:=h.elim λx h=>k x h
theorem e1a2{t0:Type}{A B:t0→Prop}{G:Prop}(k:∀x,A x→B x→G)(h:∃x,A x∧B x):G:=h.elim λx h=>k x h.1 h.2
theorem e1a3{t0:Type}{A B C:t0→Prop}{G:Prop}(k:∀x,A x→B x→C x→G)(h:∃x,A x∧B x∧C x):G:=h.elim λx h=>k x h.1 h.2.1 h.2.2
theorem e1a4{t0:Type}{A B C D:t0→Prop}{G:Prop}(k:∀x,A x→B x→C x→D x→G)(h:∃x,A x∧B x∧C x∧D x):G:=h.elim λx h=>k x h.1 h.2.1 h.2.2.1 h.2.2.2
theorem e2a1{t0 t1:Type}{A:t0→t1→Prop}{G:Prop}(k:∀x y,A x y→G)(h:∃x y,A x y):G:=h.elim λx h=>h.elim λy h=>k x y h
theorem e2a2{t0 t1:Type}{A B:t0→t1→Prop}{G:Prop}(k:∀x y,A x y→B x y→G)(h:∃x y,A x y∧B x y):G:=h.elim λx h=>h.elim λy h=>k x y h.1 h.2
theorem e2a3{t0 t1:Type}{A B C:t0→t1→Prop}{G:Prop}(k:∀x y,A x y→B x y→C x y→G)(h:∃x y,A x y∧B x y∧C x y):G:=h.elim λx h=>h.elim λy h=>k x y h.1 h.2.1 h.2.2
theorem e2a4{t0 t1:Type}{A B C D:t0→t1→Prop}{G:Prop}(k:∀x y,A x y→B x y→C x y→D x y→G)(h:∃x y,A x y∧B x y∧C x y∧D x y):G:=h.elim λx h=>h.elim λy h=>k x y h.1 h.2.1 h.2.2.1 h.2.2.2
theorem e3a1{t0 t1 t2:Type}{A:t0→t1→t2→Prop}{G:Prop}(k:∀x y z,A x y z→G)(h:∃x y z,A x y z):G:=h.elim λx h=>h.elim λy h=>h.elim λz h=>k x y z h
theorem e3a3{t0 t1 t2:Type}{A B C:t0→t1→t2→Prop}{G:Prop}(k:∀x y z,A x y z→B x y z→C x y z→G)(h:∃x y z,A x y z∧B x y z∧C x y z):G:=h.elim λx h=>h.elim λy h=>h.elim λz h=>k x y z h.1 h.2.1 h.2.2
theorem e3a4{t0 t1 t2:Type}{A B C D:t0→t1→t2→Prop}{G:Prop}(k:∀x y z,A x y z→B x y z→C x y z→D x y z→G)(h:∃x y z,A x y z∧B x y z∧C x y z∧D x y z):G:=h.elim λx h=>h.elim λy h=>h.elim λz h=>k x y z h.1 h.2.1 h.2.2.1 h.2.2.2
theorem e3a5{t0 t1 t2:Type}{A B C D E:t0→t1→t2→Prop}{G:Prop}(k:∀x y z,A x y z→B x y z→C x y z→D x y z→E x y z→G)(h:∃x y z,A x y z∧B x y z∧C x y z∧D x y z∧E x y z):G:=h.elim λx h=>h.elim λy h=>h.elim λz h=>k x y z h.1 h.2.1 h.2.2.1 h.2.2.2.1 h.2.2.2.2
theorem e4a1{t0 t1 t2 t3:Type}{A:t0→t1→t2→t3→Prop}{G:Prop}(k:∀x y z w,A x y z w→G)(h:∃x y z w,A x y z w):G:=h.elim λx h=>h.elim λy h=>h.elim λz h=>h.elim λw h=>k x y z w h
theorem e4a2{t0 t1 t2 t3:Type}{A B:t0→t1→t2→t3→Prop}{G:Prop}(k:∀x y z w,A x y z w→B x y z w→G)(h:∃x y z w,A x y z w∧B x y z w):G:=h.elim λx h=>h.elim λy h=>h.elim λz h=>h.elim λw h=>k x y z w h.1 h.2
theorem e5a2{t0 t1 t2 t3 t4:Type}{A B:t0→t1→t2→t3→t4→Prop}{G:Prop}(k:∀x y z w u,A x y z w u→B x y z w u→G)(h:∃x y z w u,A x y z w u∧B x y z w u):G:=h.elim λx h=>h.elim λy h=>h.elim λz h=>h.elim λw h=>h.elim λu h=>k x y z w u h.1 h.2
theorem e4a5{t0 t1 t2 t3:Type}{A B C D E:t0→t1→t2→t3→Prop}{G:Prop}(k:∀x y z w,A x y z w→B x y z w→C x y z w→D x y z w→E x y z w→G)(h:∃x y z w,A x y z w∧B x y z w∧C x y z w∧D x y z w∧E x y z w):G:=h.elim λx h=>h.elim λy h=>h.elim λz h=>h.elim λw h=>k x y z w h.1 h.2.1 h.2.2.1 h.2.2.2.1 h.2.2.2.2
theorem e5a5{t0 t1 t2 t3 t4:Type}{A B C D E:t0→t1→t2→t3→t4→Prop}{G:Prop}(k:∀x y z w u,A x y z w u→B x y z w u→C x y z w u→D x y z w u→E x y z w u→G)(h:∃x y z w u,A x y z w u∧B x y z w u∧C x y z w u∧D x y z w u∧E x y z w u):G:=h.elim λx h=>h.elim λy h=>h.elim λz h=>h.elim λw h=>h.elim λu h=>k x y z w u h.1 h.2.1 h.2.2.1 h.2.2.2.1 h.2.2.2.2
theorem e6a5{t0 t1 t2 t3 t4 t5:Type}{A B C D E:t0→t1→t2→t3→t4→t5→Prop}{G:Prop}(k:∀x y z w u v,A x y z w u v→B x y z w u v→C x y z w u v→D x y z w u v→E x y z w u v→G)(h:∃x y z w u v,A x y z w u v∧B x y z w u v∧C x y z w u v∧D x y z w u v∧E x y z w u v):G:=h.elim λx h=>h.elim λy h=>h.elim λz h=>h.elim λw h=>h.elim λu h=>h.elim λv h=>k x y z w u v h.1 h.2.1 h.2.2.1 h.2.2.2.1 h.2.2.2.2
theorem e4a7{t0 t1 t2 t3:Type}{A B C D E F H:t0→t1→t2→t3→Prop}{G:Prop}(k:∀x y z w,A x y z w→B x y z w→C x y z w→D x y z w→E x y z w→F x y z w→H x y z w→G)(h:∃x y z w,A x y z w∧B x y z w∧C x y z w∧D x y z w∧E x y z w∧F x y z w∧H x y z w):G:=h.elim λx h=>h.elim λy h=>h.elim λz h=>h.elim λw h=>k x y z w h.1 h.2.1 h.2.2.1 h.2.2.2.1 h.2.2.2.2.1 h.2.2.2.2.2.1 h.2.2.2.2.2.2
theorem e5a7{t0 t1 t2 t3 t4:Type}{A B C D E F H:t0→t1→t2→t3→t4→Prop}{G:Prop}(k:∀x y z w u,A x y z w u→B x y z w u→C x y z w u→D x y z w u→E x y z w u→F x y z w u→H x y z w u→G)(h:∃x y z w u,A x y z w u∧B x y z w u∧C x y z w u∧D x y z w u∧E x y z w u∧F x y z w u∧H x y z w u):G:=h.elim λx h=>h.elim λy h=>h.elim λz h=>h.elim λw h=>h.elim λu h=>k x y z w u h.1 h.2.1 h.2.2.1 h.2.2.2.1 h.2.2.2.2.1 h.2.2.2.2.2.1 h.2.2.2.2.2.2
theorem e6a7{t0 t1 t2 t3 t4 t5:Type}{A B C D E F H:t0→t1→t2→t3→t4→t5→Prop}{G:Prop}(k:∀x y z w u v,A x y z w u v→B x y z w u v→C x y z w u v→D x y z w u v→E x y z w u v→F x y z w u v→H x y z w u v→G)(h:∃x y z w u v,A x y z w u v∧B x y z w u v∧C x y z w u v∧D x y z w u v∧E x y z w u v∧F x y z w u v∧H x y z w u v):G:=h.elim λx h=>h.elim λy h=>h.elim λz h=>h.elim λw h=>h.elim λu h=>h.elim λv h=>k x y z w u v h.1 h.2.1 h.2.2.1 h.2.2.2.1 h.2.2.2.2.1 h.2.2.2.2.2.1 h.2.2.2.2.2.2
local macro_rules|`(tactic|obtain $p:rcasesPatMed:=$v:term)=>do
 let c s:=((p.raw.reprint.getD "").splitOn s).length
 if c ","<3||c "|">1||c ":">1 then Lean.Macro.throwUnsupported
 let T (a:Lean.Syntax):Lean.TSyntax `Lean.Parser.Tactic.rcasesPatMed:=⟨a⟩
 let q:=p.raw
 let x:=q[0][0]
 let l:=x[1].getSepArgs
 let mut a:Array (Lean.TSyntax ``Lean.Parser.Tactic.tacticSeq):=#[]
 let mut y:Array Lean.Term:=#[]
 let mut z:Array (Array (Lean.TSyntax `tactic)):=#[]
 for o in l do
  let u:=o[0][0][0]
  let f:=Lean.mkIdent (←Lean.Macro.addMacroScope (.mkSimple s!"f{y.size}"))
  if u[0].getId==`rfl then
   y:=y.push f
   z:=z.push #[←`(tactic|subst $f:term)]
  else if u[0].isIdent then
   y:=y.push ⟨u[0]⟩
   z:=z.push #[]
  else if u[1].isMissing then
   y:=y.push (←`(_))
   z:=z.push #[]
  else
   y:=y.push f
   z:=z.push #[←`(tactic|obtain $(T o[0]):rcasesPatMed:=$f)]
 for j in [0:l.size] do
  if j==1 then continue
  let n:=l.size-j
  let mut i:=y.extract 0 n
  let mut w:=(z.extract 0 n).flatten
  if j>0 then
   i:=i.push (←`(r_))
   w:=w.push (←`(tactic|obtain $(T (q.setArg 0 (q[0].setArg 0 (x.setArg 1 (Lean.mkNullNode (Lean.mkSepArray (l.extract n l.size) (Lean.mkAtom ","))))))):rcasesPatMed:=r_))
  for k in [0:i.size] do
   let m:=Lean.mkIdent (.mkSimple s!"e{k}a{i.size-k}")
   let g←if v.raw.isIdent then `(tactic|(revert $(⟨v⟩):ident;refine $m fun $i*=>?_)) else `(tactic|refine $m (fun $i*=>?_) $v)
   a:=a.push (←`(Lean.Parser.Tactic.tacticSeq| $g:tactic;$[$w];*))
  if j==0&& !v.raw.isIdent then
   a:=a.push (←`(Lean.Parser.Tactic.tacticSeq| have h_ := $v; obtain $p := h_))
   break
 a:=a.push (←`(Lean.Parser.Tactic.tacticSeq| rcases $v:term with $p))
 `(tactic|first $[| $a]*)
open Array renaming length_toList → Bd, toList_append → Cy, getD_eq_getD_getElem? → Dq, getElem?_eq_some_iff → Hb, toList_push → Ls, getElem?_toList → Mk, toList_extract → My, perm_iff_toList_perm → Pe, toList_reverse → Ul, forIn_toList → Ww, getElem?_eq_getElem → iE, size_setIfInBounds → iI, getElem?_eq_none → lN
open Bool renaming false_ne_true → Bq, false_eq_true → Ca, and_eq_true → Gc, not_eq_true' → Jn, eq_iff_iff → Tz, not_eq_false' → Xq
open Classical renaming byContradiction → bR
open False renaming elim → Jw
open ForInStep renaming done → Cp, yield → Ff
open Function renaming comp → Uj
open Int renaming toNat_natCast → Et, emod_nonneg → Oh, emod_lt_of_pos → Pq, zero_add → Zm
open LawfulBEq renaming eq_of_beq → Dw
open List renaming mem_cons_self → Aa, length_map → Ac, mem_cons_of_mem → Ae, mem_singleton → Ag, getElem?_eq_some_iff → Ah, mem_cons → Aj, mem_append_right → Al, mem_append_left → Am, getElem?_eq_getElem → Ap, size_toArray → Aq, map_cons → Ar, mem_of_getElem? → Au, not_mem_nil → Ax, getElem?_map → Az, pairwise_cons → Bf, mem_append → Bg, map_append → Bh, length_cons → Bp, mem_map → Bs, length_append → Bw, map_map → Bx, nodup_cons → Bz, lookup_cons → Cb, append_assoc → Ce, nodup_nil → Co, getD_eq_getElem?_getD → Cs, sublist_append_right → Cu, length_take → Cv, sublist_cons_self → Dg, mem_filter → Di, append_nil → Dj, range → Dk, cons_append → Dl, pairwise_append → Dm, perm_middle → Dv, pairwise_iff_getElem → Dx, getElem?_take_of_lt → Ef, map_set → Eg, take_of_length_le → Em, getElem?_append_right → Fj, map_congr_left → Fk, length → Fm, perm_append_comm → Fv, mem_iff_getElem? → Fw, nodup_append → Gi, getElem?_set → Gj, ext_getElem? → Gk, length_nil → Gr, take_append_drop → Hf, drop_eq_getElem_cons → Hs, reverse_perm → Hw, mem_iff_getElem → Hx, any_cons → Ia, mem_map_of_mem → Ig, length_reverse → Ih, take_length → Ij, replicate → Ik, find?_cons → Iy, dropLast_concat_getLast → Iz, take_add_one → Jl, drop_sublist → Jm, map_nil → Kf, getElem?_append_left → Ki, extract_eq_take_drop → Kj, length_zip → Kr, zip_cons_cons → Lb, mem_replicate → Lc, filter_append → Ld, pairwise_singleton → Le, lookup → Lf, take_sublist → Ly, length_range → Lz, pairwise_reverse → Mm, length_singleton → Mn, eraseIdx_sublist → Mo, mem_reverse → Mr, getElem?_set_ne → Nf, mem_zipIdx_iff_getElem? → Nz, map_eq_nil_iff → Of, filterMap_cons → Og, any_map → Om, set_cons_succ → Pk, length_zipIdx → Pl, getElem?_drop → Pm, mem_of_find?_eq_some → Qb, reverse_cons → Qc, mem_flatMap → Rc, length_eq_zero_iff → Re, eraseIdx_cons_succ → Rf, nil_append → Tw, forIn_cons → Tx, getElem?_toArray → Ub, getElem?_reverse → Uc, forIn_nil → Vd, pairwise_map → Yw, all_map → Yx, zipIdx_cons → bN, take_subset → bO, any_eq_true → bP, all_eq_true → bQ, length_erase_of_mem → lF, mem_singleton_self → lI, getElem?_cons_succ → lJ, length_pos_of_mem → pB, getElem?_set_self → pC, append_eq_nil_iff → pD, find?_eq_none → j3
open List.Pairwise renaming sublist → Ii, nil → Kk
open List.Perm renaming swap → Er, append_left → Lj, refl → Rh
open List.Sublist renaming refl → Ec
open List.cons renaming inj → Ep
open Nat renaming le_refl → Ak, lt_of_lt_of_le → Br, ne_of_lt → By, le_trans → Cc, zero_le → Cr, lt_irrefl → Gf, le_add_right → Gz, lt_of_le_of_lt → He, le_of_lt → Mc, zero_add → Pb, pow_le_pow_right → Vm, le_succ → Vn, lt_succ_of_lt → Zl
open Ne renaming symm → Pj
open Option renaming none → Pp, isSome_iff_exists → Qa
open Option.some renaming inj → Bl
open Or renaming inl → Dr, inr → Li
open Prod.mk renaming injEq → Fc
open PyProof.Rows renaming wpS_bind → Be, pendingOf → Bj, wpS_pure → Bk, SortSt → Bt, seqObj → Cw, callWith_type1 → Eb, wpS_forRange → Ee, IntsAre → Ey, wpS_mono → Gy, wpS_modify → Jj, get?_update_seq → Ju, failedOf → Ko, listUpdate_at → Lo, SortKind → Lq, wpS_get → Mu, size_push' → Ra, AllBare → Sr, reverseSlice' → Tu, oneType' → Uh, callWith_builtin1 → Vc, Subscript_ → Vl, seqEpoch_at → Yd, callWith_kw → Yv, subscriptTail → bL, firstOfTuple' → bM, listItems_at → eQ, subscriptTail_builtinR → j6
open PyProof.Rows.SortSt renaming mk' → Wt
open PySem renaming wpAny_bind → Ab, PyData → Ad, Shared → Ai, wpAny_pure → Ao, sizeLine → Av, starEach → Bm, Program → Bo, mainGlobals → Cd, FuncData → Ci, Around → Cn, wpAny_holding → Df, foldedSetIterable → Dz, cellsFrom → Eh, wpAny_mono → Eo, IsPair → Ew, wpAny_callSpecial?_slot → Fg, behindInMarks → Fp, wpAny_seqItems → Fq, wpAny_newObj_type → Fs, sysModules → Ft, wpAny_field → Gb, backTo → Gd, wpAny_call_entry → Gg, wpAny_truthy_bool → Gv, rawInt → Hd, swapsWith → Hm, compareOp → Ho, wpAny_setField_rec → Hu, wpAny_Call_Name_kw → Hv, DictEntry → Ic, sizeLine_eq → Ie, wpAny_attempt → Io, wpAny_typeNameOfWhole_keyiter → Jf, unsetMember → Jg, sliceBounds → Jh, bootBuiltins → Jk, wpAny_loadPart' → Jt, binaryOp → Jv, pyNext → Kn, assignEach → Kq, wpAny_typeNameOf_keyiter → Ll, wpAny_comprehension_free → Ln, attributeBase → Lp, Keyword → Ma, wpAny_letGo → Mj, newFunctionEnv → Mv, codeAny_compStart_list → Mw, codeAny → Mx, wpAny_rule → Oc, wpAny_pyIter_zip → Od, wpAny_isInstance → Oe, plainId_quiet → Ol, keywordEach → Oz, ZipApart → Pa, NameKind → Pc, wpAny_passesOwn → Po, tupleKind → Qt, codeAmong → Qu, wpAny_tryCatch → Qx, wpAny_Name → Qy, wpAny_pyIter_list → Sn, holding → So, wpAny_newList → Tr, strLen_append → Tt, assign → Tv, intItems → Ui, Arguments → Um, wpAny_typeOf → Vi, wpAny_nextOf_list_item → Vj, builtinsNs → Vk, letOwnedTupleGo → Wq, codeAny_builtin → Wr, wpAny_notOrdered_dict → Wv, wpAny_updateSeq_pair → Xz, wpAny_newTuple → Yb, wpAny_loadName_local → Yc, recursionLimit → Ye, firstArgMember → Yg, backToKw → Yh, callerA → Yu, wpAny_loadName_free → Zk, wpAny_standAt → bJ, wpAny_onRaise → bK, tupleKind_room_in1 → bS, entryOfKey → bT, closureFor → bU, wpAny_dictEntries → eM, slot_list_getitem → eO, noFill_tuple_add → iG, wpAny_letOwnedTupleGo_zip → tX, wpAny_getItem_list_slice → uA
open PySem.Around renaming under_plainId → Ms
open PySem.AutoSeq1 renaming sub_tuple_tuple → cK
open PySem.Builtin.Builtins renaming bindParams → Uk
open PySem.Builtin.Dict renaming updateFrom → Zn
open PySem.Builtin.Dict_items renaming ownsTuple → Sq
open PySem.Builtin.List renaming listTooLong → Oa
open PySem.Builtin.SmallTypes renaming ownedTupleIsFree → Cq, nextOf → Cz, ownedTupleHandOut → Pn
open PySem.Builtin.Tuple renaming tupleCompareSizes → Ud
open PySem.Calls renaming spliced_cons → Ha, spliced_nil → Lr, Name_function_global → Pd, loadGlobal_builtin → iH, callWith_builtin → lK
open PySem.F renaming slot_zip_next → Vf
open PySem.Heap renaming get?_push_of_some → Af, lt_size → Ba, get?_push_size → Bb, SameBut → Dh, size_update → Il, get?_update_self → Ji, size_push → Ka, get?_none_of_le → Ng, get?_push_cases → Ve, get?_update_other → pE
open PySem.Heap.SameBut renaming update → Cf
open PySem.NameKind renaming free → Ds, cell → Dt
open PySem.Obj renaming mapSeq → Cg
open PySem.PassesOwn renaming never → Fe
open PySem.PyData renaming int → An, depthAll → Bi, depth → Ct, list → Gs, showable → Iv, hasDict → Lh, shownAll → Nc, shown → Ny, showableAll → Wu, hasDictAll → Xp
open PySem.SeqAt renaming EqAt → Ml
open PySem.Str renaming ofString → Ei
open PySem.Value renaming ref → Bc, type → Hy, none → Ir, int → Vb
open Sum renaming inl → Qv
open ToString renaming toString → Qz
open True renaming intro → Jz
namespace L2
open PySem PySem.Spec PyProof.Rows
abbrev Hr:=Sum Int Str
def eJ:Hr->Value->Bool
 | .inl k,v=>Value.isInt k v
 | .inr x,v=>Value.isStrOf x v
def ET(w:World):Hr->Int
 | .inl k=>hashInt k
 | .inr x=>hashStr w x
theorem Hi:∀{k:Hr} {v:Value},eJ k v=true->(∃i t,k=Qv i/\v=Vb i t)\/(∃x t,k=Sum.inr x/\v=Value.str x t)
 | .inl i,v,h=>by
  obtain ⟨t,e⟩:=Value.isInt_shape (k:=i) (v:=v) h
  exact .inl ⟨i,t,rfl,e⟩
 | .inr x,v,h=>by
  obtain ⟨t,e⟩:=Value.isStrOf_shape (x:=x) (v:=v) h
  exact .inr ⟨x,t,rfl,e⟩
theorem sI(i:Int)(t:Tok):eJ (.inl i) (.int i t)=true:=by simp [eJ,Value.isInt]
theorem tU(x:Str)(t:Tok):eJ (.inr x) (.str x t)=true:=by simp [eJ,Value.isStrOf]
theorem V9(a b:Int):decide ((Qv a:Hr)=Qv b)=(a == b):=by
 by_cases e:a=b
 ·subst e; simp
 ·have h:¬ (Qv a:Hr)=Qv b:=λq=>e (Sum.inl.inj q)
  rw[decide_eq_false h]
  exact (beq_eq_false_iff_ne.mpr e).symm
theorem W0(a b:Str):decide ((Sum.inr a:Hr)=Sum.inr b)=decide (a=b):=by
 by_cases e:a=b
 ·subst e; simp
 ·have h:¬ (Sum.inr a:Hr)=Sum.inr b:=λq=>e (Sum.inr.inj q)
  rw[decide_eq_false h,decide_eq_false e]
theorem T8(a:Int)(b:Str):decide ((Qv a:Hr)=Sum.inr b)=false:=decide_eq_false (λq=>nomatch q)
theorem Q5(a:Str)(b:Int):decide ((Sum.inr a:Hr)=Qv b)=false:=decide_eq_false (λq=>nomatch q)
def Hh(prog:Bo)(w:World):PySem.KeyKind prog w Hr where
 is:=eJ
 hash:=ET w
 inj:=λv a b ha hb=>by
  rcases Hi ha with ⟨i,t,rfl,rfl⟩ | ⟨x,t,rfl,rfl⟩
  ·rcases Hi hb with ⟨j,u,rfl,e⟩ | ⟨y,u,rfl,e⟩
   ·injection e with e1 _; rw[e1]
   ·exact nomatch e
  ·rcases Hi hb with ⟨j,u,rfl,e⟩ | ⟨y,u,rfl,e⟩
   ·exact nomatch e
   ·injection e with e1 _; rw[e1]
 byValue:=λk v h=>by
  rcases Hi h with ⟨i,t,rfl,rfl⟩ | ⟨x,t,rfl,rfl⟩ <;> rfl
 pyHash:=λhv h=>by
  rcases Hi hv with ⟨i,t,rfl,rfl⟩ | ⟨x,t,rfl,rfl⟩
  ·exact wpAny_pyHash_int h
  ·exact wpAny_pyHash_str h
 eqBool:=λhu hv h=>by
  rcases Hi hu with ⟨i,t,rfl,rfl⟩ | ⟨x,t,rfl,rfl⟩
  ·rcases Hi hv with ⟨j,u,rfl,rfl⟩ | ⟨y,u,rfl,rfl⟩
   ·rw[V9] at h; exact wpAny_eqBool_int h
   ·rw[T8] at h; exact SeqAt.EqAt.int_str i t y u _ _ _ _ h
  ·rcases Hi hv with ⟨j,u,rfl,rfl⟩ | ⟨y,u,rfl,rfl⟩
   ·rw[Q5] at h; exact SeqAt.EqAt.str_int x t j u _ _ _ _ h
   ·rw[W0] at h; exact wpAny_eqBool_str h
 «strs»:=λk x t v h=>by
  rcases Hi h with ⟨i,u,rfl,e⟩ | ⟨y,u,rfl,e⟩
  ·exact nomatch e
  ·injection e with e1 _
   subst e1
   cases v <;> rfl
theorem iN(prog:Bo)(w:World)(i:Int)(t:Tok):(Hh prog w).is (.inl i) (.int i t)=true:=sI i t
theorem jL(prog:Bo)(w:World)(x:Str)(t:Tok):(Hh prog w).is (.inr x) (.str x t)=true:=tU x t
inductive V where
 | non | bl (b:Bool) | int (i:Int) | str (x:Str) | byt (b:Array UInt8) | flt (b:UInt64) | ref (a:Addr) | ty (n:String)
 deriving DecidableEq
def RelV:V->Value->Prop
 | .non,u=>u=Ir
 | .bl b,u=>u=Value.bool b
 | .int i,u=>∃t,u=Vb i t
 | .str x,u=>∃t,u=Value.str x t
 | .byt b,u=>∃t,u=Value.bytes b t
 | .flt b,u=>∃t,u=Value.float b t
 | .ref a,u=>u=Bc a
 | .ty n,u=>u=Hy n
abbrev Fd:List V->List Value->Prop:=Paired RelV
theorem Fd.length(r:Fd xs us):xs.length=us.length:=Paired.length r
theorem Fd.get:∀{xs:List V} {us:List Value} {i:Nat} {x:V},Fd xs us->xs[i]? = some x->∃u,us[i]? = some u/\RelV x u
 | _,_,_,_,.nil,e=>by simp at e
 | _,_,0,_,.cons r _,e=>by simp at e; subst e; exact ⟨_,rfl,r⟩
 | _,_,i+1,x,.cons _ t,e=>by
  obtain ⟨u,h1,h2⟩:=Fd.get (i:=i) (x:=x) t (by simpa using e)
  exact ⟨u,by simpa using h1,h2⟩
theorem Fd.set(r:RelV x u):∀{xs:List V} {us:List Value} (i:Nat),Fd xs us->Fd (xs.set i x) (us.set i u)
 | _,_,_,.nil=>.nil
 | _,_,0,.cons _ t=>.cons r t
 | _,_,i+1,.cons q t=>.cons q (Fd.set r i t)
theorem Fd.append:∀{xs ys:List V} {us ws:List Value},Fd xs us->Fd ys ws->Fd (xs++ys) (us++ws)
 | _,_,_,_,.nil,s=>s
 | _,_,_,_,.cons r t,s=>.cons r (Fd.append t s)
theorem Fd.take:∀{xs:List V} {us:List Value} (n:Nat),Fd xs us->Fd (xs.take n) (us.take n)
 | _,_,0,_=>.nil
 | _,_,_+1,.nil=>.nil
 | _,_,n+1,.cons r t=>.cons r (Fd.take n t)
theorem Fd.drop:∀{xs:List V} {us:List Value} (n:Nat),Fd xs us->Fd (xs.drop n) (us.drop n)
 | _,_,0,r=>r
 | _,_,_+1,.nil=>.nil
 | _,_,n+1,.cons _ t=>Fd.drop n t
def iY:Option V->Option Value->Prop
 | some v,some u=>RelV v u
 | none,none=>True
 | _,_=>False
def KV{κ:Type}:List (κ×V)->List (κ×Value)->Prop:=Paired λ(p:κ×V) (q:κ×Value)=>p.1=q.1/\RelV p.2 q.2
def kV:Hr->V
 | .inl i=>.int i
 | .inr x=>.str x
inductive HO where
 /-- a list -/
 | lst (xs:List V)
 /-- a tuple (never changes) -/
 | tup (xs:List V)
 /-- a dict whose keys are ints and texts; one whose keys are tuples of ints and texts (the empty one is both) -/
 | dK (kvs:List (Hr×V)) | dT (kvs:List (List Hr×V))
 /-- a set of ints: its members,its size -/
 | set (S:Int->Bool) (n:Nat)
 /-- an instance of the class at C,its dict at dx,its attributes -/
 | ins (C dx:Addr) (fs:List (Str×V))
 /-- the dict of the instance at x -/
 | own (x:Addr)
 /-- the dict of an exception -/
 | xd (fs:List (Str×V))
 /-- a bound method,f of x -/
 | met (f x:Addr)
 /-- a range object lo,lo+1,.. below hi -/
 | rng (lo hi:Int)
 /-- a thing that is known to the object (the script; a dict while a loop walks it): read,never written while it is so -/
 | frz (o:Obj) (u:HO)
 /-- a code object's table -/
 | tbl (ps:Array Value)
 /-- any other thing,by what is true of its one object (a def of one's own: ER a S n:=HO.ext λh=>..) -/
 | ext (φ:Heap->Prop)
abbrev Hp:=Addr->Option HO
def upd(H:Hp)(a:Addr)(o:HO):Hp:=λb=>if b=a then some o else H b
theorem Cm:upd H a o a=some o:=by unfold upd; rw[if_pos rfl]
theorem Cj(h:b≠a):upd H a o b=H b:=by unfold upd; rw[if_neg h]
theorem qT{H:Hp}(h:H a=some o)(h':H b=some u)(d:o≠u):a≠b:=by
 intro e; subst e; rw[h] at h'; exact d (Bl h')
theorem Dc{H:Hp}(h:H a=some o)(h':H b=none):a≠b:=by
 intro e; subst e; rw[h] at h'; cases h'
section
variable(P:Bo)(w:World)
def Hk(H:Hp)(h:Heap)(a:Addr):HO->Prop
 | .lst xs=>xs.length<=Av/\∃(its:List Value) (n:Nat),Fd xs its/\h.get? a=some { cls:=.type "list",data:=.seq its.toArray n }
 | .tup xs=>xs.length<=Av/\∃its:List Value,Fd xs its/\IsTup h a its.toArray
 | .dK kvs=>kvs.length<=Av/\(a == Ft)=false/\∃vs,KV kvs vs/\h.DictOf (Hh P w) a vs
 | .dT kvs=>kvs.length<=Av/\(a == Ft)=false/\∃xs:List (List Hr×Addr×Value),
   Paired (λ(p:List Hr×V) (q:List Hr×Addr×Value)=>p.1=q.1/\H q.2.1=some (.tup (p.1.map kV))/\RelV p.2 q.2.2) kvs xs /\
   ∃o es ep,h.get? a=some o/\o.ExactDict/\o.data=.dict es ep/\es.toList=xs.map (bT (Qt (Hh P w)))/\(xs.map (·.1)).Nodup/\ep=es.size
 | .set S n=>h.SetOf (intKind P w) a S n
 | .ins C dx fs=>H dx=some (.own a)/\fs.length<=1000/\dx≠a/\h.get? a=some (PySem.W.instObj C dx) /\
   ∃mA,h.Ns1 dx mA/\(∀f,iY (fs.lookup f) (mA f))/\PySem.Within mA (fs.map (·.1))
 | .own _=>∃o,h.get? a=some o
 | .xd fs=>∃mA,h.Ns1 a mA/\∀f,iY (fs.lookup f) (mA f)
 | .rng lo hi=>∃t u v,h.get? a=some { cls:=.type "range",data:=.fields #[.int lo t,.int hi u,.int 1 v] }
 | .frz o u=>h.get? a=some o/\Hk H h a u
 | .tbl ps=>∃qs:Array Value,h.get? a=some { cls:=.none,data:=.fields qs }/\TriplesOk qs.toList/\∀(pos:Pos) (v:Value),Qu pos qs.toList=some v->∃(c:Addr) (oc:Obj) (us:Array Value) (q:Str) (t t0:Tok),v=.ref c/\H c=some (.own a)/\h.get? c=some oc/\oc.data=.fields us/\us[1]? = some (.str q t)/\ps[0]? = some (.str q t0)
 | .met f x=>h.get? a=some (PySem.W.methodObj (.ref f) (.ref x))
 | .ext φ=>φ h/\(∃o,h.get? a=some o)/\∀h1 h2:Heap,φ h1->(∀o,h1.get? a=some o->h2.get? a=some o)->φ h2
def Vr(H:Hp)(h:Heap):Prop:=∀a o,H a=some o->Hk P w H h a o
end
section
variable{P:Bo}{w:World}{H H':Hp}{h h':Heap}{a:Addr}{o:HO}
theorem Hk.lt(x:Hk P w H h a o):a<h.objs.size:=by
 cases o with
 | lst xs=>obtain ⟨_,_,_,_,e⟩:=x; exact Ba e
 | tup xs=>obtain ⟨_,_,_,p⟩:=x; exact p.lt
 | dK kvs=>obtain ⟨_,_,_,_,o,_,_,e,_⟩:=x; exact Ba e
 | dT kvs=>obtain ⟨_,_,_,_,o,_,_,e,_⟩:=x; exact Ba e
 | set S n=>obtain ⟨o,_,_,_,e,_⟩:=x; exact Ba e
 | ins C dx fs=>obtain ⟨_,_,_,e,_⟩:=x; exact Ba e
 | own y=>obtain ⟨_,e⟩:=x; exact Ba e
 | xd fs=>obtain ⟨_,⟨_,_,_,e,_⟩,_⟩:=x; exact Ba e
 | rng lo hi=>obtain ⟨_,_,_,e⟩:=x; exact Ba e
 | frz ob u=>obtain ⟨e,_⟩:=x; exact Ba e
 | tbl ps=>obtain ⟨_,e,_⟩:=x; exact Ba e
 | met f y=>exact Ba (show h.get? a=some _ from x)
 | ext φ=>obtain ⟨_,⟨_,e⟩,_⟩:=x; exact Ba e
theorem Paired.mapP:∀{l₁:List α} {l₂:List β},Paired F l₁ l₂->(∀a b,F a b->G a b)->Paired G l₁ l₂
 | _,_,.nil,_=>.nil
 | _,_,.cons r t,f=>.cons (f _ _ r) (Paired.mapP t f)
theorem Hk.stay(x:Hk P w H h a o)(k:∀b u,(b=a\/H b=some (.own a))->h.get? b=some u->h'.get? b=some u)(ho:∀b,H b=some (.own a)->H' b=some (.own a))(ht:∀b xs,H b=some (.tup xs)->H' b=some (.tup xs)):Hk P w H' h' a o:=by
 induction o with
 | lst xs=>obtain ⟨z,its,n,r,e⟩:=x; exact ⟨z,its,n,r,k _ _ (.inl rfl) e⟩
 | tup xs=>obtain ⟨z,its,r,ob,e,c⟩:=x; exact ⟨z,its,r,ob,k _ _ (.inl rfl) e,c⟩
 | dK kvs=>obtain ⟨z,y,vs,r,ob,es,ep,e,c⟩:=x; exact ⟨z,y,vs,r,ob,es,ep,k _ _ (.inl rfl) e,c⟩
 | dT kvs =>
  obtain ⟨z,y,xs,r,ob,es,ep,e,c⟩:=x
  exact ⟨z,y,xs,Paired.mapP r λp q z=>⟨z.1,ht _ _ z.2.1,z.2.2⟩,ob,es,ep,k _ _ (.inl rfl) e,c⟩
 | set S n=>obtain ⟨ob,es,ep,t,e,c⟩:=x; exact ⟨ob,es,ep,t,k _ _ (.inl rfl) e,c⟩
 | ins C dx fs =>
  obtain ⟨d,z,ne,e,mA,⟨od,es,ep,e2,c⟩,r⟩:=x
  exact ⟨ho _ d,z,ne,k _ _ (.inl rfl) e,mA,⟨od,es,ep,k _ _ (.inr d) e2,c⟩,r⟩
 | own y=>obtain ⟨ob,e⟩:=x; exact ⟨ob,k _ _ (.inl rfl) e⟩
 | xd fs=>obtain ⟨mA,⟨od,es,ep,e,c⟩,r⟩:=x; exact ⟨mA,⟨od,es,ep,k _ _ (.inl rfl) e,c⟩,r⟩
 | rng lo hi=>obtain ⟨t,u,v,e⟩:=x; exact ⟨t,u,v,k _ _ (.inl rfl) e⟩
 | frz ob u ih=>obtain ⟨e,q⟩:=x; exact ⟨k _ _ (.inl rfl) e,ih q⟩
 | tbl ps =>
  obtain ⟨qs,e,t,z⟩:=x
  exact ⟨qs,k _ _ (.inl rfl) e,t,λpos v y=>by
   obtain ⟨c,oc,us,q,t,t0,h1,h2,h3,h4⟩:=z pos v y
   exact ⟨c,oc,us,q,t,t0,h1,ho _ h2,k _ _ (.inr h2) h3,h4⟩⟩
 | met f y =>
  have e:h.get? a=some (PySem.W.methodObj (.ref f) (.ref y)):=x
  show h'.get? a=some (PySem.W.methodObj (.ref f) (.ref y))
  exact k a _ (.inl rfl) e
 | ext φ=>obtain ⟨p,⟨o,e⟩,st⟩:=x; exact ⟨st _ _ p λo q=>k _ _ (.inl rfl) q,⟨o,k _ _ (.inl rfl) e⟩,st⟩
theorem Vr.lt(x:Vr P w H h)(e:H a=some o):a<h.objs.size:=(x a o e).lt
theorem Vr.fresh(x:Vr P w H h)(e:h.objs.size<=a):H a=none:=by
 cases q:H a with
 | none=>rfl
 | some u=>exact absurd (Br (x.lt q) e) (Gf _)
theorem Vr.kept(x:Vr P w H h)(k:∀b u,h.get? b=some u->h'.get? b=some u):Vr P w H h':=λa o e =>
 (x a o e).stay (λb u _ q=>k b u q) (λ_ q=>q) λ_ _ q=>q
theorem Vr.laid(x:Vr P w H h)(k:∀b u,h.get? b=some u->h'.get? b=some u)(hp:h.objs.size<=a)(new:Hk P w (upd H a o) h' a o):Vr P w (upd H a o) h':=λb u e=>by
 have hn:=x.fresh hp
 by_cases hb:b=a
 ·subst hb; rw[Cm] at e; cases e; exact new
 ·rw[Cj hb] at e
  exact (x b u e).stay (λc v _ q=>k c v q) (λc q=>by rw[Cj (Dc q hn)]; exact q) λc xs q=>by rw[Cj (Dc q hn)]; exact q
end
def Rd(H:Hp)(a:Addr)(u:HO):Prop:=H a=some u\/∃o,H a=some (.frz o u)
theorem Rd.ok(r:Rd H a u)(x:Vr P w H h):Hk P w H h a u:=by
 rcases r with r | ⟨o,r⟩
 ·exact x a u r
 ·obtain ⟨_,q⟩:=x a _ r
  exact q
def BJ:Option HO->Prop
 | some (.lst _)=>True
 | some (.dK _)=>True
 | some (.dT _)=>True
 | some (.set _ _)=>True
 | some (.ins _ _ _)=>True
 | some (.ext _)=>True
 | _=>False
section
variable{P:Bo}{w:World}{H:Hp}{h h':Heap}{x e:Addr}{o':HO}
theorem Vr.write(ok:Vr P w H h)(mu:BJ (H x))(he:e=x\/H e=some (.own x))(k:∀b u,b≠e->h.get? b=some u->h'.get? b=some u)(heo:∃u,h'.get? e=some u)(new:Hk P w (upd H x o') h' x o'):Vr P w (upd H x o') h':=λb u q=>by
 have nown:∀c y,H c=some (.own y)->c≠x:=λc y r z=>by subst z; rw[r] at mu; exact mu
 have CW:∀c xs,H c=some (.tup xs)->c≠x:=λc xs r z=>by subst z; rw[r] at mu; exact mu
 by_cases hb:b=x
 ·subst hb; rw[Cm] at q; cases q; exact new
 ·rw[Cj hb] at q
  by_cases hbe:b=e
  ·have q':H b=some (.own x):=by
    rcases he with z | z
    ·exact absurd (hbe.trans z) hb
    ·rw[hbe]; exact z
   rw[q] at q'; cases q'
   obtain ⟨v,hv⟩:=heo
   exact ⟨v,by rw[hbe]; exact hv⟩
  ·refine (ok b u q).stay (λc v hc r=>k c v ?_ r) (λc r=>by rw[Cj (nown c b r)]; exact r) λc xs r=>by rw[Cj (CW c xs r)]; exact r
   rcases hc with rfl | hc
   ·exact hbe
   ·rintro rfl
    rcases he with z | z
    ·exact nown c b hc z
    ·rw[hc] at z; cases z; exact hb rfl
end
structure Un(fs ex:List Addr)(H H':Hp)(h h':Heap):Prop where
 keep:∀b o,h.get? b=some o->H b=none->b∉fs->b∉ex->h'.get? b=some o
 slot:∀b o,h.get? b=some o->H b=none->b∈fs->b∉ex->∃sl,h'.get? b=some { o with slots:=sl }
 free:∀b o,h.get? b=some o->H b=none->b∉ex->H' b=none
 there:∀b o,h.get? b=some o->b∉ex->∃o',h'.get? b=some o'
 tups:∀b xs,H b=some (.tup xs)->H' b=some (.tup xs)
 frzs:∀b o u,H b=some (.frz o u)->H' b=some (.frz o u)
 tbls:∀b ps,H b=some (.tbl ps)->∃more,H' b=some (.tbl (ps++more))
section
variable{fs fs' ex ex':List Addr}{H H1 H2:Hp}{h h1 h2 h':Heap}{a x e:Addr}{o:HO}
theorem Un.any(u:Un fs ex H H1 h h1)(q:h.get? b=some ob)(n:H b=none)(hx:b∉ex):∃sl,h1.get? b=some { ob with slots:=sl }:=by
 by_cases hb:b∈fs
 ·exact u.slot b ob q n hb hx
 ·exact ⟨ob.slots,u.keep b ob q n hb hx⟩
theorem Un.kept(k:∀b u,h.get? b=some u->h'.get? b=some u):Un fs ex H H h h' :=
 ⟨λb ob q _ _ _=>k b ob q,λb ob q _ _ _=>⟨ob.slots,k b ob q⟩,λ_ _ _ n _=>n,λb ob q _=>⟨ob,k b ob q⟩,λ_ _ q=>q,λ_ _ _ q=>q,λ_ ps q=>⟨#[],by rw[q]; simp⟩⟩
theorem Un.refl:Un fs ex H H h h:=Un.kept λ_ _ q=>q
theorem Un.laid(k:∀b u,h.get? b=some u->h'.get? b=some u)(hp:h.objs.size<=a)(hn:H a=none):Un fs ex H (upd H a o) h h' where
 keep:=λb u q _ _ _=>k b u q
 slot:=λb u q _ _ _=>⟨u.slots,k b u q⟩
 free:=λb u q n _=>by rw[Cj (By (Br (Ba q) hp))]; exact n
 there:=λb u q _=>⟨u,k b u q⟩
 tups:=λb xs q=>by rw[Cj (Dc q hn)]; exact q
 frzs:=λb u xs q=>by rw[Cj (Dc q hn)]; exact q
 tbls:=λb ps q=>⟨#[],by rw[Cj (Dc q hn),q]; simp⟩
theorem Un.write(mu:BJ (H x))(he:e=x\/H e=some (.own x))(k:∀b u,b≠e->h.get? b=some u->h'.get? b=some u)(heo:∃u,h'.get? e=some u):Un fs ex H (upd H x o) h h':=by
 have hx:∀b,H b=none->b≠x:=λb n z=>by subst z; rw[n] at mu; exact mu
 have hb:∀b,H b=none->b≠e:=λb n z=>by
  subst z
  rcases he with r | r
  ·exact hx b n r
  ·rw[n] at r; cases r
 have hm:∀b u,H b=some u->¬ BJ (some u)->b≠x:=λb u q nm z=>by subst z; rw[q] at mu; exact nm mu
 refine ⟨λb u q n _ _=>k b u (hb b n) q,λb u q n _ _=>⟨u.slots,k b u (hb b n) q⟩,λb u q n _=>by rw[Cj (hx b n)]; exact n,λb u q _=>?_,
  λb xs q=>by rw[Cj (hm b _ q λz=>z)]; exact q,λb u xs q=>by rw[Cj (hm b _ q λz=>z)]; exact q,λb ps q=>⟨#[],by rw[Cj (hm b _ q λz=>z),q]; simp⟩⟩
 by_cases hbe:b=e
 ·subst hbe; exact heo
 ·exact ⟨u,k b u hbe q⟩
end
def ED(h:Heap)(H:Hp):List Addr:=(Dk h.objs.size).filter λa=>(H a).isSome
def bW(h:Heap)(H:Hp):Heap:=PySem.W.hideAll h (ED h H)
theorem sG(h:Heap)(H:Hp):(bW h H).objs.size=h.objs.size:=PySem.W.hideAll_size _ _
theorem vN(e:h.get? b=some o)(n:H b=none):(bW h H).get? b=some o :=
 PySem.W.hideAll_get _ e λhm=>by
  have q:(H b).isSome=true:=(Di.mp hm).2
  rw[n] at q; simp at q
theorem B3(e:(bW h H).get? b=some o):h.get? b=some o/\H b=none:=by
 have e':h.get? b=some o:=PySem.W.of_hideAll (ED h H) e
 refine ⟨e',?_⟩
 cases q:H b with
 | none=>rfl
 | some x =>
  have hm:b∈ED h H:=Di.mpr ⟨List.mem_range.mpr (Ba e'),by simp [q]⟩
  have z:(bW h H).get? b=none:=PySem.W.hideAll_none (ED h H) hm
  rw[z] at e; cases e
def C1(g h:Heap)(L:Addr):List (Addr×Obj):=(Dk h.objs.size).filterMap λa=>if a=L\/(g.get? a).isSome=true then none else (h.get? a).map λo=>(a,o)
def Fz(g h:Heap)(L d:Addr):List (Addr×Obj):=(C1 g h L).filter λp=>decide (p.1≠d)
structure Mod(K:PySem.W.Frag)(mg:Str->Option Value)(base:Heap):Prop where
 kin:K.In base
 glob:base.Ns Cd mg
 blt:∃mb,base.Ns Vk mb/\∀x:Str,x ≠ "__name__" -> mb x=Jk x
 nolimit:base.NoLimit
def Pt:List Str:=["often", "cut_by"]
def cE(x:Str):Str:=x ++ ".<locals>." ++ "<lambda>"
def K8(H:Hp)(P:Addr)(q:Str):Prop:=∃(ps:Array Value) (t0:Tok),H P=some (.tbl ps)/\ps[0]? = some (.str q t0)
def yP(K:PySem.W.Frag)(mg:Str->Option Value)(base:Heap)(H:Hp):Prop:=∀x∈Pt,∀c P,PySem.W.tabIn K x=some (c,P)->PySem.W.CodeHd base c P/\base.BuiltinsAt mg P/\K8 H P (cE x)
theorem yP.un{K:PySem.W.Frag}(t:yP K mg base H)(u:Un fs ex H H' h h'):yP K mg base H':=λx hx c P e=>by
 obtain ⟨h1,h2,ps,t0,h3,h4⟩:=t x hx c P e
 obtain ⟨more,h5⟩:=u.tbls P ps h3
 refine ⟨h1,h2,ps++more,t0,h5,?_⟩
 have hl:0<ps.size:=by
  rcases Nat.eq_zero_or_pos ps.size with z | z
  ·rw[lN (by omega)] at h4; cases h4
  ·exact z
 rw[Array.getElem?_append_left hl]
 exact h4
structure Cx where
 prog:Bo
 w:World
 K:PySem.W.Frag
 mg:Str->Option Value
 base:Heap
 A:Cn
 N:List Str
 s₀:Ai
 H₀:Hp
 env:Env
 outer:List Env
 stack:List Env
 ex:List Addr
 fn:Str->Bool
 calm:Bool
 pn:List (Addr×Obj)
 xe:Value->Ai->Prop
def rM(l:List Env):List Addr:=l.filterMap (·.frame)
abbrev Cx.fs(X:Cx):List Addr:=rM X.outer
def EJ(sc:Scope)(x:Str):Prop:=sc.names.lookup x=some .local\/sc.names.lookup x=some .cell\/sc.names.lookup x=some .free
def Loc(sc:Scope)(x:Str):Prop:=sc.names.lookup x=some .local\/sc.names.lookup x=some .cell
def FO(env:Env)(h:Heap)(m:Str->Option Value)(x:Str)(u:Value):Prop :=
 (env.kindOf x=some .local/\m x=some u)\/((env.kindOf x=some .cell\/env.kindOf x=some .free)/\∃c,env.cells.lookup x=some c/\h.IsCell c (some u))
structure Cx.Ok(X:Cx):Prop where
 mod:Mod X.K X.mg X.base
 kind:X.env.scope.kind=.function
 glob:X.env.globals=Cd
 blt:X.env.builtins=Vk
 above:X.s₀.heap.objs.size<=X.env.locals
 inj:∀x y c,X.env.cells.lookup x=some c->X.env.cells.lookup y=some c->x=y
 has:∀x,(X.env.kindOf x=some .cell\/X.env.kindOf x=some .free)->∃c,X.env.cells.lookup x=some c
 cab:∀x c,X.fn x=true->X.env.cells.lookup x=some c->X.s₀.heap.objs.size<=c
 hd:X.calm=true->X.A.handled=none
 frames:X.A.frames=some X.stack
 stk:X.stack=X.outer\/(X.stack=X.env::X.outer/\X.env.frame=some X.env.locals)
 exf:∀b∈X.ex,b≠X.env.locals/\∀x c,X.env.cells.lookup x=some c->c≠b
 bs:∀b o,X.base.get? b=some o->X.s₀.heap.get? b=some o/\X.H₀ b=none
 bsz:X.base.objs.size<=X.s₀.heap.objs.size
 noex:∀b o,X.base.get? b=some o->b∉X.ex
 exfs:∀b∈X.ex,b∉X.fs
 funs:X.s₀.heap.FunFrames X.base X.outer
 frf:∀b∈X.fs,X.H₀ b=none
 tab:yP X.K X.mg X.base X.H₀
structure Inv(X:Cx)(pins:List (Addr×Obj))(σ:List (Option V))(H:Hp)(s:Ai):Prop where
 ok:X.Ok
 os:s.os=X.s₀.os
 bare:Sr s.gens
 base:Un X.fs X.ex X.H₀ H X.s₀.heap s.heap
 loc:∃m,s.heap.Ns X.env.locals m/\∀(i:Nat) (x:Str) (v:V),X.N[i]? = some x->σ[i]? = some (some v)->EJ X.env.scope x->∃u,RelV v u/\FO X.env s.heap m x u
 cell:∀x c,X.env.cells.lookup x=some c->∃v,s.heap.IsCell c v
 free:H X.env.locals=none
 freeC:∀x c,X.env.cells.lookup x=some c->H c=none
 pin:∀p∈X.pn++pins,s.heap.get? p.1=some p.2/\H p.1=none/\p.1≠X.env.locals/\p.1∉X.fs/\∀v,p.2.data≠.cell v
 hok:Vr X.prog X.w H s.heap
 len:σ.length=X.N.length
section
variable{X:Cx}{pins:List (Addr×Obj)}{σ:List (Option V)}{H H':Hp}{s:Ai}{h':Heap}
theorem Cx.Ok.nofr(ok:X.Ok)(e:X.base.get? b=some o):b∉X.fs:=λhb=>by
 have:=(ok.funs.mem hb).1
 rw[e] at this; cases this
theorem Inv.bs(I:Inv X pins σ H s):∀b o,X.base.get? b=some o->s.heap.get? b=some o/\H b=none:=λb o e =>
 ⟨I.base.keep b o (I.ok.bs b o e).1 (I.ok.bs b o e).2 (I.ok.nofr e) (I.ok.noex b o e),I.base.free b o (I.ok.bs b o e).1 (I.ok.bs b o e).2 (I.ok.noex b o e)⟩
theorem Inv.bk(I:Inv X pins σ H s):∀b o,X.base.get? b=some o->s.heap.get? b=some o:=λb o e=>(I.bs b o e).1
theorem Inv.mod(I:Inv X pins σ H s):Mod X.K X.mg X.base:=I.ok.mod
theorem Inv.kIn(I:Inv X pins σ H s):X.K.In s.heap:=I.ok.mod.kin.keeps I.bk
theorem Inv.nolimit(I:Inv X pins σ H s):s.heap.NoLimit:=I.ok.mod.nolimit.keeps I.bk
theorem Inv.lt(I:Inv X pins σ H s):X.env.locals<s.heap.objs.size:=let ⟨_,hn,_⟩:=I.loc; hn.lt
theorem Inv.sz(I:Inv X pins σ H s):X.s₀.heap.objs.size<=s.heap.objs.size:=Cc I.ok.above (Mc I.lt)
theorem Inv.nofs(I:Inv X pins σ H s){a:Addr}(h:s.heap.objs.size<=a):a∉X.fs:=λhb=>by
 obtain ⟨_,o,ho,_⟩:=I.ok.funs.mem hb
 exact absurd (Br (Ba ho) (Cc I.sz h)) (Gf _)
theorem Inv.cne(I:Inv X pins σ H s):∀x c,X.env.cells.lookup x=some c->c≠X.env.locals:=λx c e z=>by
 obtain ⟨v,o,ho,hd⟩:=I.cell x c e
 obtain ⟨m,⟨o',es,ep,ho',hd',_⟩,_⟩:=I.loc
 rw[z,ho'] at ho; cases ho; rw[hd'] at hd; cases hd
theorem Inv.funs(I:Inv X pins σ H s):s.heap.FunFrames X.base X.outer:=by
 have all:∀(l:List Env),(∀b∈rM l,b∈X.fs)->X.s₀.heap.FunFrames X.base l->s.heap.FunFrames X.base l:=by
  intro l
  induction l with
  | nil=>intro _ _; trivial
  | cons env r ih =>
   intro hs hl
   obtain ⟨hk,⟨L,o,hf,hn,ho,hd⟩,hr⟩:=hl
   have hL:L∈X.fs:=hs L (by unfold rM; rw[Og,hf]; exact Aa)
   obtain ⟨sl,e⟩:=I.base.slot L o ho (I.ok.frf L hL) hL λz=>I.ok.exfs L z hL
   exact ⟨hk,⟨L,_,hf,hn,e,hd⟩,ih (λb hb=>hs b (by unfold rM; rw[Og,hf]; exact Ae _ hb)) hr⟩
 exact all X.outer (λ_ hb=>hb) I.ok.funs
theorem Inv.stack(I:Inv X pins σ H s):s.heap.FunFrames X.base X.stack:=by
 rcases I.ok.stk with e | ⟨e,hf⟩
 ·rw[e]; exact I.funs
 ·rw[e]
  obtain ⟨m,hn,_⟩:=I.loc
  refine .cons (by rw[I.ok.kind]; decide) hf hn ?_ I.funs
  exact Ng (Cc I.ok.bsz I.ok.above)
theorem Inv.stkSub(I:Inv X pins σ H s):∀b∈rM X.stack,b∈X.env.locals::X.fs:=λb hb=>by
 rcases I.ok.stk with e | ⟨e,hf⟩
 ·rw[e] at hb; exact Ae _ hb
 ·rw[e] at hb
  unfold rM at hb
  rw[Og,hf] at hb
  exact hb
theorem Inv.stkFree(I:Inv X pins σ H s):∀b∈rM X.stack,H b=none:=λb hb=>by
 rcases Aj.mp (I.stkSub b hb) with e | hb
 ·rw[e]; exact I.free
 ·obtain ⟨_,o,ho,_⟩:=I.ok.funs.mem hb
  exact I.base.free b o ho (I.ok.frf b hb) λz=>I.ok.exfs b z hb
theorem Inv.step{ch:List Addr}(I:Inv X pins σ H s)(hch:∀b∈ch,(b∈X.ex\/X.s₀.heap.objs.size<=b)/\b≠X.env.locals/\(∀x c,X.env.cells.lookup x=some c->c≠b)/\∀p∈X.pn++pins,p.1≠b)(keep:∀b o,b≠X.env.locals->b∉X.fs->b∉ch->s.heap.get? b=some o->H b=none->h'.get? b=some o)(slot:∀b o,b≠X.env.locals->b∈X.fs->b∉ch->s.heap.get? b=some o->H b=none->∃sl,h'.get? b=some { o with slots:=sl })(free:∀b o,b∉ch->s.heap.get? b=some o->H b=none->H' b=none)(there:∀b o,b∉ch->s.heap.get? b=some o->∃o',h'.get? b=some o')(tups:∀b xs,H b=some (.tup xs)->H' b=some (.tup xs))(frzs:∀b o u,H b=some (.frz o u)->H' b=some (.frz o u))(tbls:∀b ps,H b=some (.tbl ps)->∃more,H' b=some (.tbl (ps++more)))(ns:∀m,s.heap.Ns X.env.locals m->h'.Ns X.env.locals m)(hok:Vr X.prog X.w H' h')(hg:Sr g'):Inv X pins σ H' { s with heap:=h',gens:=g',drawn:=d',toks:=t' }:=by
 have neL:∀b o,X.s₀.heap.get? b=some o->b≠X.env.locals:=λb o e=>By (Br (Ba e) I.ok.above)
 have neC:∀b o,X.s₀.heap.get? b=some o->b∉X.ex->b∉ch:=λb o e hx hb=>by
  rcases (hch b hb).1 with z | z
  ·exact hx z
  ·exact absurd (Br (Ba e) z) (Gf _)
 have cellK:∀x c,X.env.cells.lookup x=some c->∀v,s.heap.IsCell c v->h'.IsCell c v:=λx c e v ⟨o,ho,hd⟩=>by
  have nch:c∉ch:=λz=>(hch c z).2.2.1 x c e rfl
  by_cases hc:c∈X.fs
  ·obtain ⟨sl,q⟩:=slot c o (I.cne x c e) hc nch ho (I.freeC x c e)
   exact ⟨_,q,hd⟩
  ·exact ⟨o,keep c o (I.cne x c e) hc nch ho (I.freeC x c e),hd⟩
 refine ⟨I.ok,I.os,hg,⟨λb o e n hb hx=>?_,λb o e n hb hx=>?_,λb o e n hx=>?_,λb o e hx=>?_,λb xs e=>tups b xs (I.base.tups b xs e),λb o xs e=>frzs b o xs (I.base.frzs b o xs e),λb ps e=>?_⟩,?_,λx c e=>?_,?_,λx c e=>?_,λp hp=>?_,hok,I.len⟩
 ·exact keep b o (neL b o e) hb (neC b o e hx) (I.base.keep b o e n hb hx) (I.base.free b o e n hx)
 ·obtain ⟨sl,e1⟩:=I.base.slot b o e n hb hx
  obtain ⟨sl',e2⟩:=slot b _ (neL b o e) hb (neC b o e hx) e1 (I.base.free b o e n hx)
  exact ⟨sl',e2⟩
 ·obtain ⟨o',e1⟩:=I.base.there b o e hx
  exact free b o' (neC b o e hx) e1 (I.base.free b o e n hx)
 ·obtain ⟨o',e1⟩:=I.base.there b o e hx
  exact there b o' (neC b o e hx) e1
 ·obtain ⟨m1,e1⟩:=I.base.tbls b ps e
  obtain ⟨m2,e2⟩:=tbls b _ e1
  exact ⟨m1++m2,by rw[e2,Array.append_assoc]⟩
 ·obtain ⟨m,hn,hl⟩:=I.loc
  refine ⟨m,ns m hn,λi x v e1 e2 e3=>?_⟩
  obtain ⟨u,r,l⟩:=hl i x v e1 e2 e3
  refine ⟨u,r,?_⟩
  rcases l with l | ⟨k,c,e,z⟩
  ·exact .inl l
  ·exact .inr ⟨k,c,e,cellK x c e _ z⟩
 ·obtain ⟨v,z⟩:=I.cell x c e
  exact ⟨v,cellK x c e v z⟩
 ·obtain ⟨m,⟨o,_,_,ho,_⟩,_⟩:=I.loc
  exact free _ o (λz=>(hch _ z).2.1 rfl) ho I.free
 ·obtain ⟨v,o,ho,hd⟩:=I.cell x c e
  exact free c o (λz=>(hch c z).2.2.1 x c e rfl) ho (I.freeC x c e)
 ·obtain ⟨e,n,ne,nf,d⟩:=I.pin p hp
  have nch:p.1∉ch:=λz=>(hch p.1 z).2.2.2 p hp rfl
  exact ⟨keep p.1 p.2 ne nf nch e n,free p.1 p.2 nch e n,ne,nf,d⟩
theorem Inv.un(I:Inv X pins σ H s)(u:Un X.fs [] H H' s.heap h')(hok:Vr X.prog X.w H' h'):Inv X pins σ H' { s with heap:=h',toks:=t' }:=by
 obtain ⟨m,⟨o,es,ep,ho,r⟩,_⟩:=id I.loc
 obtain ⟨sl,hL⟩:=u.any ho I.free (by simp)
 exact I.step (g':=s.gens) (d':=s.drawn) (ch:=[]) (λ_ z=>nomatch z) (λb o _ hb _ e n=>u.keep b o e n hb (by simp)) (λb o _ hb _ e n=>u.slot b o e n hb (by simp)) (λb o _ e n=>u.free b o e n (by simp)) (λb o _ e=>u.there b o e (by simp)) u.tups u.frzs u.tbls (λm' hm=>by
  obtain ⟨o',es',ep',ho',r'⟩:=hm
  rw[ho] at ho'; cases ho'
  exact ⟨_,es',ep',hL,r'⟩) hok I.bare
theorem Inv.call(I:Inv X pins σ H s)(u:Un (rM X.stack) ch H H' s.heap h')(hok:Vr X.prog X.w H' h')(hg:Sr g')(hch:∀b∈ch,(b∈X.ex\/X.s₀.heap.objs.size<=b)/\b≠X.env.locals/\(∀x c,X.env.cells.lookup x=some c->c≠b)/\∀p∈X.pn++pins,p.1≠b):Inv X pins σ H' { s with heap:=h',gens:=g',drawn:=d',toks:=t' }:=by
 obtain ⟨m,⟨o,es,ep,ho,r⟩,_⟩:=id I.loc
 obtain ⟨sl,hL⟩:=u.any ho I.free λz=>(hch _ z).2.1 rfl
 exact I.step (ch:=ch) hch (λb o hL hb hc e n=>u.keep b o e n (λz=>(Aj.mp (I.stkSub b z)).elim hL hb) hc) (λb o _ _ hc e n=>u.any e n hc) (λb o hc e n=>u.free b o e n hc) (λb o hc e=>u.there b o e hc) u.tups u.frzs u.tbls (λm' hm=>by
  obtain ⟨o',es',ep',ho',r'⟩:=hm
  rw[ho] at ho'; cases ho'
  exact ⟨_,es',ep',hL,r'⟩) hok hg
theorem Inv.turned(I:Inv X pins σ H s)(k:∀b o,b≠it->s.heap.get? b=some o->h'.get? b=some o)(hn:H it=none)(hL:it≠X.env.locals)(h1:it∈X.ex\/X.s₀.heap.objs.size<=it)(h2:∀x c,X.env.cells.lookup x=some c->c≠it)(h3:∀p∈X.pn++pins,p.1≠it):Inv X pins σ H { s with heap:=h',toks:=t' }:=by
 have nit:∀b u,H b=some u->b≠it:=λb u e z=>by rw[z,hn] at e; cases e
 refine I.step (g':=s.gens) (d':=s.drawn) (ch:=[it]) (λb hb=>?_) (λb o _ _ hc e _=>k b o (λz=>hc (by simp [z])) e) (λb o _ _ hc e _=>⟨o.slots,k b o (λz=>hc (by simp [z])) e⟩) (λ_ _ _ _ n=>n)
  (λb o hc e=>⟨o,k b o (λz=>hc (by simp [z])) e⟩) (λ_ _ e=>e) (λ_ _ _ e=>e) (λb ps e=>⟨#[],by rw[e]; simp⟩) (λm hm=>?_) (λb u e=>?_) I.bare
 ·have e:b=it:=by simpa using hb
  subst e
  exact ⟨h1,hL,h2,h3⟩
 ·obtain ⟨o,es,ep,ho,r⟩:=hm
  exact ⟨o,es,ep,k _ o (Pj hL) ho,r⟩
 ·refine (I.hok b u e).stay (λc v hc q=>k c v ?_ q) (λ_ q=>q) λ_ _ q=>q
  rcases hc with z | z
  ·rw[z]; exact nit b u e
  ·exact nit c _ z
theorem Inv.tok(I:Inv X pins σ H s)(t:Nat):Inv X pins σ H { s with toks:=t }:=I.un (h':=s.heap) (t':=t) Un.refl I.hok
theorem Inv.kept(I:Inv X pins σ H s)(k:∀b u,s.heap.get? b=some u->h'.get? b=some u):Inv X pins σ H { s with heap:=h',toks:=t' }:=I.un (Un.kept k) (I.hok.kept k)
theorem Inv.laid{a:Addr}(I:Inv X pins σ H s)(k:∀b u,s.heap.get? b=some u->h'.get? b=some u)(hp:s.heap.objs.size<=a)(new:Hk X.prog X.w (upd H a o) h' a o):Inv X pins σ (upd H a o) { s with heap:=h',toks:=t' }:=I.un (Un.laid k hp (I.hok.fresh hp)) (I.hok.laid k hp new)
theorem Inv.write(I:Inv X pins σ H s)(mu:BJ (H x))(he:e=x\/H e=some (.own x))(k:∀b u,b≠e->s.heap.get? b=some u->h'.get? b=some u)(heo:∃u,h'.get? e=some u)(new:Hk X.prog X.w (upd H x o) h' x o):Inv X pins σ (upd H x o) { s with heap:=h',toks:=t' }:=I.un (Un.write mu he k heo) (I.hok.write mu he k heo new)
theorem Inv.pins_of(I:Inv X pins σ H s)(h:∀p∈pins',s.heap.get? p.1=some p.2/\H p.1=none/\p.1≠X.env.locals/\p.1∉X.fs/\∀v,p.2.data≠.cell v):Inv X pins' σ H s :=
 ⟨I.ok,I.os,I.bare,I.base,I.loc,I.cell,I.free,I.freeC,λp hp=>(Bg.mp hp).elim (λz=>I.pin p (Am _ z)) (h p),I.hok,I.len⟩
theorem jA{N:List Str}(hN:N.Nodup){i j:Nat}(a:N[i]? = some x)(b:N[j]? = some x):i=j:=by
 obtain ⟨h1,e1⟩:=Ah.mp a
 obtain ⟨h2,e2⟩:=Ah.mp b
 exact (List.getElem_inj hN).mp (e1.trans e2.symm)
theorem rH(I:Inv X pins σ H s)(hN:X.N.Nodup)(hi:X.N[i]? = some x)(hx:Loc X.env.scope x)(r:RelV v u)(h:∀s',Inv X pins (σ.set i (some v)) H s'->(∃a,Dh a s.heap s'.heap/\(a=X.env.locals\/X.env.cells.lookup x=some a))->Q () s')(hf:X.fn x=true\/X.env.scope.names.lookup x=some .local:=by first | exact .inl rfl | exact .inr rfl | assumption):wpAny M A (storeName X.env x u) Q E s:=by
 obtain ⟨m,hn,hl⟩:=id I.loc
 have hcls:(X.env.scope.kind == .class || (X.env.scope.kind == .module && X.env.locals != X.env.globals))=false:=by rw[I.ok.kind]; rfl
 have hiσ:i<σ.length:=by rw[I.len]; exact (Ah.mp hi).1
 have cne:=I.cne
 have tracked:∀{a:Addr} {h':Heap},(∃o,s.heap.get? a=some o/\H a=none)->Dh a s.heap h'->Vr X.prog X.w H h':=λ{a h'} ha hs b ob e=>by
  obtain ⟨_,_,hfree⟩:=ha
  refine (I.hok b ob e).stay (λc w' hc q=>(hs.2 c ?_).trans q) (λ_ q=>q) λ_ _ q=>q
  rintro rfl
  rcases hc with rfl | hc
  ·rw[hfree] at e; cases e
  ·rw[hfree] at hc; cases hc
 rcases hx with hk | hk
 ·refine wpAny_storeName_local hk hn (λh' hn' hs=>?_) hcls
  obtain ⟨oL,_,_,hoL,_⟩:=id hn
  refine h _ ⟨I.ok,I.os,I.bare,⟨λb o e n hb hx=>?_,λb o e n hb hx=>?_,I.base.free,λb o e hx=>?_,I.base.tups,I.base.frzs,I.base.tbls⟩,⟨_,hn',λj y v' e1 e2 e3=>?_⟩,λy c e=>?_,I.free,I.freeC,λp hp=>?_,tracked ⟨oL,hoL,I.free⟩ hs,by simpa using I.len⟩ ⟨_,hs,.inl rfl⟩
  ·exact (hs.2 b (By (Br (Ba e) I.ok.above))).trans (I.base.keep b o e n hb hx)
  ·obtain ⟨sl,e1⟩:=I.base.slot b o e n hb hx
   exact ⟨sl,(hs.2 b (By (Br (Ba e) I.ok.above))).trans e1⟩
  ·obtain ⟨o',e1⟩:=I.base.there b o e hx
   exact ⟨o',(hs.2 b (By (Br (Ba e) I.ok.above))).trans e1⟩
  ·by_cases hj:j=i
   ·subst hj
    rw[hi] at e1; cases e1
    rw[pC hiσ] at e2
    cases e2
    exact ⟨u,r,.inl ⟨hk,by simp⟩⟩
   ·rw[Nf (Pj hj)] at e2
    obtain ⟨u',r',q⟩:=hl j y v' e1 e2 e3
    refine ⟨u',r',?_⟩
    rcases q with ⟨k,e⟩ | ⟨k,c,e,z⟩
    ·refine .inl ⟨k,?_⟩
     have : y≠x:=λe=>hj (jA hN e1 (e▸hi))
     simp [this,e]
    ·exact .inr ⟨k,c,e,z.sameBut hs (cne y c e)⟩
  ·obtain ⟨w',z⟩:=I.cell y c e
   exact ⟨w',z.sameBut hs (cne y c e)⟩
  ·obtain ⟨e,n,ne,nf,d⟩:=I.pin p hp
   exact ⟨(hs.2 p.1 ne).trans e,n,ne,nf,d⟩
 ·have hfn:X.fn x=true:=by
   rcases hf with z | z
   ·exact z
   ·rw[z] at hk; cases hk
  obtain ⟨c,hc⟩:=I.ok.has x (.inl hk)
  obtain ⟨w',z⟩:=I.cell x c hc
  refine wpAny_storeName_cell I.ok.kind hk hc z (λh' hc' hs=>?_)
  obtain ⟨oc,hoc,hocd⟩:=id z
  refine h { s with heap:=h' } ⟨I.ok,I.os,I.bare,⟨λb o e n hb hx=>?_,λb o e n hb hx=>?_,I.base.free,λb o e hx=>?_,I.base.tups,I.base.frzs,I.base.tbls⟩,⟨m,hn.sameBut hs (Pj (cne x c hc)),λj y v' e1 e2 e3=>?_⟩,λy c' e=>?_,I.free,I.freeC,λp hp=>?_,tracked ⟨oc,hoc,I.freeC x c hc⟩ hs,by simpa using I.len⟩ ⟨c,hs,.inr hc⟩
  ·exact (hs.2 b (By (Br (Ba e) (I.ok.cab x c hfn hc)))).trans (I.base.keep b o e n hb hx)
  ·obtain ⟨sl,e1⟩:=I.base.slot b o e n hb hx
   exact ⟨sl,(hs.2 b (By (Br (Ba e) (I.ok.cab x c hfn hc)))).trans e1⟩
  ·obtain ⟨o',e1⟩:=I.base.there b o e hx
   exact ⟨o',(hs.2 b (By (Br (Ba e) (I.ok.cab x c hfn hc)))).trans e1⟩
  ·by_cases hj:j=i
   ·subst hj
    rw[hi] at e1; cases e1
    rw[pC hiσ] at e2
    cases e2
    exact ⟨u,r,.inr ⟨.inl hk,c,hc,hc'⟩⟩
   ·rw[Nf (Pj hj)] at e2
    obtain ⟨u',r',q⟩:=hl j y v' e1 e2 e3
    refine ⟨u',r',?_⟩
    rcases q with q | ⟨k,c',e,z'⟩
    ·exact .inl q
    ·refine .inr ⟨k,c',e,z'.sameBut hs ?_⟩
     rintro rfl
     exact hj (jA hN e1 (I.ok.inj _ _ _ e hc▸hi))
  ·by_cases hcc:c'=c
   ·subst hcc; exact ⟨_,hc'⟩
   ·obtain ⟨w2,z2⟩:=I.cell y c' e
    exact ⟨w2,z2.sameBut hs hcc⟩
  ·obtain ⟨e,n,ne,nf,d⟩:=I.pin p hp
   refine ⟨(hs.2 p.1 ?_).trans e,n,ne,nf,d⟩
   intro q
   rw[q,hoc] at e
   have q':oc=p.2:=Bl e
   exact d w' (by rw[<- q']; exact hocd)
theorem kC(I:Inv X pins σ H s)(hN:X.N.Nodup)(hi:X.N[i]? = some x)(hx:Loc X.env.scope x)(r:RelV v u)(h:∀s',Inv X pins (σ.set i (some v)) H s'->Q () s')(hf:X.fn x=true\/X.env.scope.names.lookup x=some .local:=by first | exact .inl rfl | exact .inr rfl | assumption):wpAny M A (storeName X.env x u) Q E s :=
 rH I hN hi hx r (λs' I' _=>h s' I') hf
theorem Inv.call'(I:Inv X pins σ H s)(ho:s'.os=s.os)(u:Un (rM X.stack) ch H H' s.heap s'.heap)(hok:Vr X.prog X.w H' s'.heap)(hg:Sr s'.gens)(hch:∀b∈ch,(b∈X.ex\/X.s₀.heap.objs.size<=b)/\b≠X.env.locals/\(∀x c,X.env.cells.lookup x=some c->c≠b)/\∀p∈X.pn++pins,p.1≠b):Inv X pins σ H' s':=by
 obtain ⟨h',g',d',t',o'⟩:=s'
 have e:o'=s.os:=ho
 subst e
 exact I.call (g':=g') (t':=t') (d':=d') u hok hg hch
end
abbrev XK:=Value->Option Addr->Hp->Prop
abbrev St:=List (Option V)
abbrev VK:=V->Hp->Prop
abbrev TE:=St->Hp->VK->Prop
abbrev TT:=St->Hp->(Bool->Hp->Prop)->Prop
abbrev TA:=St->Hp->(List V->Hp->Prop)->Prop
structure Ends where
 nx:St->Hp->Prop
 rt:VK
 bk:St->Hp->Prop:=λ_ _=>False
 ct:St->Hp->Prop:=λ_ _=>False
abbrev TS:=Ends->St->Hp->Prop
def EP(X:Cx)(pins:List (Addr×Obj))(σ:St)(Q:VK)(u:Value)(s':Ai):Prop:=∃v H',Inv X pins σ H' s'/\RelV v u/\Q v H'
def TP(X:Cx)(pins:List (Addr×Obj))(σ:St)(Q:Bool->Hp->Prop)(b:Bool)(s':Ai):Prop:=∃H',Inv X pins σ H' s'/\Q b H'
def AP(X:Cx)(pins:List (Addr×Obj))(σ:St)(Q:List V->Hp->Prop)(us:List Value)(s':Ai):Prop:=∃vs H',Inv X pins σ H' s'/\Fd vs us/\Q vs H'
def SP(X:Cx)(pins:List (Addr×Obj))(D:Ends)(f:Flow)(s':Ai):Prop :=
 match f with
 | .next=>∃σ' H',Inv X pins σ' H' s'/\D.nx σ' H'
 | .brk=>∃σ' H',Inv X pins σ' H' s'/\D.bk σ' H'
 | .cont=>∃σ' H',Inv X pins σ' H' s'/\D.ct σ' H'
 | .ret u=>∃v σ' H',Inv X pins σ' H' s'/\RelV v u/\D.rt v H'
def PE(X:Cx)(e:Expr)(t:TE):Prop :=
 ∀(pins:List (Addr×Obj)) (s:Ai) (σ:St) (H:Hp) (Q:VK),Inv X pins σ H s->t σ H Q->wpAny (model X.prog X.w) X.A (eval e X.env) (EP X pins σ Q) X.xe s
def PT(X:Cx)(e:Expr)(t:TT):Prop :=
 ∀(pins:List (Addr×Obj)) (s:Ai) (σ:St) (H:Hp) (Q:Bool->Hp->Prop),Inv X pins σ H s->t σ H Q->wpAny (model X.prog X.w) X.A (isTrue e X.env (eval e X.env)) (TP X pins σ Q) X.xe s
def PW(X:Cx)(e:Expr)(t:TT):Prop :=
 ∀(whole:Sem Value) (pins:List (Addr×Obj)) (s:Ai) (σ:St) (H:Hp) (Q:Bool->Hp->Prop),Inv X pins σ H s->t σ H Q->wpAny (model X.prog X.w) X.A (isTrue e X.env whole) (TP X pins σ Q) X.xe s
theorem PW.pt(h:PW X e t):PT X e t:=h _
def PA(X:Cx)(es:List Expr)(t:TA):Prop :=
 ∀(pos:Pos) (pins:List (Addr×Obj)) (s:Ai) (σ:St) (H:Hp) (Q:List V->Hp->Prop),Inv X pins σ H s->t σ H Q->wpAny (model X.prog X.w) X.A (spliced (Gd pos (Bm es X.env))) (AP X pins σ Q) X.xe s
def PS(X:Cx)(st:Stmt)(t:TS):Prop :=
 ∀(pins:List (Addr×Obj)) (s:Ai) (σ:St) (H:Hp) (D:Ends),Inv X pins σ H s->t D σ H->wpAny (model X.prog X.w) X.A (exec st X.env) (SP X pins D) X.xe s
def mZ(X:Cx)(st:List Stmt)(t:TS):Prop :=
 ∀(pins:List (Addr×Obj)) (s:Ai) (σ:St) (H:Hp) (D:Ends),Inv X pins σ H s->t D σ H->wpAny (model X.prog X.w) X.A (execs st X.env) (SP X pins D) X.xe s
theorem Fn(h:wpAny M A t Q E s)(hQ:∀a s,Q a s->Q' a s):wpAny M A t Q' E s:=Eo h hQ λ_ _ x=>x
section
variable{X:Cx}
theorem HE{a b:Expr}{ta tb:TE}(ha:PE X a ta)(hb:PE X b tb){pins:List (Addr×Obj)}{s:Ai}{σ:St}{R:V->V->Hp->Prop}(I:Inv X pins σ H s)(h:ta σ H λx H1=>tb σ H1 λy H2=>R x y H2){Q:α->Ai->Prop}{f:Value->Value->Sem α}(hf:∀v u s2 x y H2,Inv X pins σ H2 s2->RelV x v->RelV y u->R x y H2->wpAny (model X.prog X.w) X.A (f v u) Q X.xe s2):wpAny (model X.prog X.w) X.A (eval a X.env) (λv s₁=>wpAny (model X.prog X.w) X.A (eval b X.env) (λu s₂=>wpAny (model X.prog X.w) X.A (f v u) Q X.xe s₂) X.xe s₁) X.xe s:=by
 refine Fn (ha pins s σ H _ I h) λv s1 q0_ => ?_
 obtain ⟨x,H1,I1,r1,q1⟩ := q0_
 refine Fn (hb pins s1 σ H1 _ I1 q1) λu s2 q0_ => ?_
 obtain ⟨y,H2,I2,r2,q2⟩ := q0_
 exact hf v u s2 x y H2 I2 r1 r2 q2
def Yi(i:Nat):TE:=λσ H Q=>∃v,σ[i]? = some (some v)/\Q v H
def tC(v:V):TE:=λ_ H Q=>Q v H
theorem O9{pos:Pos}(hN:X.N[i]? = some x)(hv:EJ X.env.scope x)(hd:(x == ("__debug__" : Str))=false:=by decide)(hcd:(x == ("__classdict__" : Str))=false:=by decide):PE X (.Name x pos) (Yi i):=by
 intro pins s σ H Q I h
 obtain ⟨v,e,h⟩:=h
 obtain ⟨m,hn,hl⟩:=I.loc
 obtain ⟨u,r,l⟩:=hl i x v hN e hv
 have fin:EP X pins σ Q u s:=⟨v,H,I,r,h⟩
 rcases l with ⟨hk,hm⟩ | ⟨hk,c,hc,hcell⟩
 ·exact Qy (Yc I.ok.kind hk hn hm fin) hd
 ·rcases hk with hk | hk
  ·exact Qy (wpAny_loadName_cell I.ok.kind hk hc hcell fin) hd
  ·exact Qy (Zk I.ok.kind hk hc hcell fin hcd) hd
theorem Dd:PE X (.Constant (.int i) j pos) (tC (.int i)):=λ_ _ _ H _ I h=>wpAny_Constant_int ⟨.int i,H,I.tok _,⟨_,rfl⟩,h⟩
theorem uY:PE X (.Constant (.bool b) j pos) (tC (.bl b)):=λ_ _ _ H _ I h=>Constant_bool ⟨.bl b,H,I,rfl,h⟩
theorem vE:PE X (.Constant .none j pos) (tC .non):=λ_ _ _ H _ I h=>Constant_none ⟨.non,H,I,rfl,h⟩
theorem V5:PE X (.Constant (.str x) j pos) (tC (.str x)):=λ_ _ _ H _ I h=>Calls.Constant_str ⟨.str x,H,I.tok _,⟨_,rfl⟩,h⟩
def Gl(X:Cx)(x:Str):Prop:=X.env.kindOf x=some .globalImplicit
theorem qK{E:Value->Ai->Prop}{pins:List (Addr×Obj)}{s:Ai}{σ:St}(I:Inv X pins σ H s)(hg:Gl X x)(hm:X.mg x=some u)(h:Q u s)(hd:(x == ("__debug__" : Str))=false:=by decide):wpAny (model X.prog X.w) X.A (eval (.Name x pos) X.env) Q E s :=
 Pd I.ok.kind hg (Calls.loadGlobal_global (by rw[I.ok.glob]; exact I.mod.glob.keeps I.bk) hm h) hd
theorem Mq{E:Value->Ai->Prop}{pins:List (Addr×Obj)}{s:Ai}{σ:St}{pos:Pos}(I:Inv X pins σ H s)(hg:Gl X x)(hm:X.mg x=none)(hv:Jk x=some u)(h:Q u s)(hn:x ≠ "__name__" := by decide)(hd:(x == ("__debug__" : Str))=false:=by decide):wpAny (model X.prog X.w) X.A (eval (.Name x pos) X.env) Q E s:=by
 obtain ⟨mb,h1,h2⟩:=I.mod.blt
 exact Pd I.ok.kind hg (iH (by rw[I.ok.glob]; exact I.mod.glob.keeps I.bk) hm (by rw[I.ok.blt]; exact h1.keeps I.bk) ((h2 x hn).trans hv) h) hd
theorem J9{pos:Pos}(hg:Gl X x)(hm:X.mg x=none)(hv:Jk x=some u)(r:RelV v u)(hn:x ≠ "__name__" := by decide)(hd:(x == ("__debug__" : Str))=false:=by decide):PE X (.Name x pos) (tC v) :=
 λ_ _ _ H _ I h=>Mq I hg hm hv ⟨v,H,I,r,h⟩ hn hd
variable{a b:Expr}{ta tb:TE}{pos:Pos}
def PC(X:Cx)(op:CmpOp)(a b:Expr)(t:TE):Prop :=
 ∀(pins:List (Addr×Obj)) (s:Ai) (σ:St) (H:Hp) (Q:VK),Inv X pins σ H s->t σ H Q ->
  wpAny (model X.prog X.w) X.A (eval a X.env) (λv s₁=>wpAny (model X.prog X.w) X.A (eval b X.env) (λu s₂=>wpAny (model X.prog X.w) X.A (Ho op v u) (EP X pins σ Q) X.xe s₂) X.xe s₁) X.xe s
theorem yH(b:Expr)(h:op≠.In)(h2:op≠.NotIn):Fp op b=false:=by
 have e1:(op == CmpOp.In)=false:=by cases op <;> first | rfl | exact absurd rfl h
 have e2:(op == CmpOp.NotIn)=false:=by cases op <;> first | rfl | exact absurd rfl h2
 cases b <;> simp [Fp,e1,e2]
def tB(t:TE):TT:=λσ H Q=>t σ H λx H1=>∃c,x=.bl c/\Q c H1
theorem EZ(h:PC X op a b t)(h1:Fp op b=false:=by first | exact yH _ (by decide) (by decide) | rfl):PT X (.Compare a [op] [b] pos) (tB t):=by
 intro pins s σ H Q I hw
 refine wpAny_isTrue_Compare1 (Fn (h pins s σ H _ I hw) λv s1 h1=>Fn h1 λu s2 h2=>Fn h2 λc s3 ⟨x,H1,I1,r1,q1⟩=>?_) h1
 obtain ⟨d,rfl,q⟩:=q1
 cases r1
 exact Gv ⟨H1,I1,q⟩
theorem oS(h:PE X e t)(he:∀whole,isTrue e X.env whole=(do let v <- whole; standAt e.pos; So [v] (truthy v)):=by intro _; rfl):PT X e (tB t):=by
 intro pins s σ H Q I hw
 refine isTrue_plain (Fn (h pins s σ H _ I hw) λv s1 ⟨x,H1,I1,r1,q1⟩=>?_) (he _)
 obtain ⟨d,rfl,q⟩:=q1
 cases r1
 exact Gv ⟨H1,I1,q⟩
variable{tA tB':TT}{Fz:List Expr}
def FQ(t u:TT):TT:=λσ H Q=>t σ H λc H1=>if c=true then u σ H1 Q else Q false H1
def GV(t u:TT):TT:=λσ H Q=>t σ H λc H1=>if c=true then Q true H1 else u σ H1 Q
def EO(t:TT):TT:=λσ H Q=>t σ H λc H1=>Q (!c) H1
theorem E7(ha:PT X a tA):PW X (.BoolOp .And [a] pos) tA:=by
 intro wh pins s σ H Q I h
 refine isTrue_and (Fn (ha pins s σ H Q I h) λc s1 e=>?_)
 cases c with
 | true=>exact isTrue_and_nil e
 | false=>exact e
theorem R8(ha:PT X a tA):PW X (.BoolOp .Or [a] pos) tA:=by
 intro wh pins s σ H Q I h
 refine isTrue_or (Fn (ha pins s σ H Q I h) λc s1 e=>?_)
 cases c with
 | false=>exact isTrue_or_nil e
 | true=>exact e
theorem T7(ha:PT X a tA)(hb:PW X (.BoolOp .And (b::Fz) pos) tB'):PW X (.BoolOp .And (a::b::Fz) pos) (FQ tA tB'):=by
 intro wh pins s σ H Q I h
 refine isTrue_and (Fn (ha pins s σ H _ I h) λc s1 q0_ => ?_)
 obtain ⟨H1,I1,q1⟩ := q0_
 cases c with
 | true=>exact hb wh pins s1 σ H1 Q I1 q1
 | false=>exact ⟨H1,I1,q1⟩
theorem CK(ha:PT X a tA)(hb:PW X (.BoolOp .Or (b::Fz) pos) tB'):PW X (.BoolOp .Or (a::b::Fz) pos) (GV tA tB'):=by
 intro wh pins s σ H Q I h
 refine isTrue_or (Fn (ha pins s σ H _ I h) λc s1 q0_ => ?_)
 obtain ⟨H1,I1,q1⟩ := q0_
 cases c with
 | true=>exact ⟨H1,I1,q1⟩
 | false=>exact hb wh pins s1 σ H1 Q I1 q1
theorem T3(ha:PT X a tA):PT X (.UnaryOp .Not a pos) (EO tA):=by
 intro pins s σ H Q I h
 exact isTrue_not (ha pins s σ H (λc H1=>Q (!c) H1) I h)
def DN(ta tb:TE):TE:=λσ H Q=>ta σ H λx H1=>∃c,x=.bl c/\if c=true then tb σ H1 Q else Q (.bl false) H1
theorem P4(h:PE X a t):PE X (.BoolOp op [a] pos) t:=λpins s σ H Q I hw=>BoolOp_one (h pins s σ H Q I hw)
theorem X9(ha:PE X a ta)(hb:PE X (.BoolOp .And (b::Fz) pos) tb):PE X (.BoolOp .And (a::b::Fz) pos) (DN ta tb):=by
 intro pins s σ H Q I h
 refine BoolOp_and (Fn (ha pins s σ H _ I h) λv s1 q0_ => ?_)
 obtain ⟨x,H1,I1,r1,q1⟩ := q0_
 obtain ⟨c,rfl,q1⟩:=q1
 cases r1
 refine Gv ?_
 cases c with
 | true=>exact hb pins s1 σ H1 Q I1 q1
 | false=>exact ⟨.bl false,H1,I1,rfl,q1⟩
def HC(t:TT)(ta tb:TE):TE:=λσ H Q=>t σ H λc H1=>if c=true then ta σ H1 Q else tb σ H1 Q
theorem b0(hc:PT X c tA)(ha:PE X a ta)(hb:PE X b tb):PE X (.IfExp c a b pos) (HC tA ta tb):=by
 intro pins s σ H Q I h
 refine wpAny_IfExp (Fn (hc pins s σ H _ I h) λd s1 q0_ => ?_)
 obtain ⟨H1,I1,q1⟩ := q0_
 cases d with
 | true=>exact ha pins s1 σ H1 Q I1 q1
 | false=>exact hb pins s1 σ H1 Q I1 q1
end
def Kb(K:PySem.W.Frag)(H:Hp)(a:Addr)(xs:List V):Prop :=
 Rd H a (.lst xs) \/
  ∃(o:Obj) (its:Array Value) (n:Nat),K.lookup a=some o/\o.cls=.type "list" /\ o.dict=none/\o.data=.seq its n/\its.size<=Av/\Fd xs its.toList
def Vh(K:PySem.W.Frag)(H:Hp)(a:Addr)(xs:List V):Prop :=
 Rd H a (.tup xs) \/
  ∃(o:Obj) (its:Array Value) (n:Nat),K.lookup a=some o/\o.cls=.type "tuple" /\ o.data=.seq its n/\its.size<=Av/\Fd xs its.toList
def FH:Value->Option V
 | .none=>some .non
 | .bool b=>some (.bl b)
 | .int i _=>some (.int i)
 | .str x _=>some (.str x)
 | .bytes b _=>some (.byt b)
 | .float b _=>some (.flt b)
 | .ref a=>some (.ref a)
 | .type n=>some (.ty n)
 | _=>none
theorem RelV.abs(r:RelV x u):FH u=some x:=by
 cases x with
 | non=>cases r; rfl
 | bl _=>cases r; rfl
 | int _=>obtain ⟨t,rfl⟩:=r; rfl
 | str _=>obtain ⟨t,rfl⟩:=r; rfl
 | byt _=>obtain ⟨t,rfl⟩:=r; rfl
 | flt _=>obtain ⟨t,rfl⟩:=r; rfl
 | ref _=>cases r; rfl
 | ty _=>cases r; rfl
theorem RelV.inj(r:RelV x u)(q:RelV y u):x=y:=Bl (r.abs.symm.trans q.abs)
theorem Fd.inj:∀{xs ys:List V} {us:List Value},Fd xs us->Fd ys us->xs=ys
 | _,_,_,.nil,.nil=>rfl
 | _,_,_,.cons r t,.cons r' t'=>by rw[r.inj r',Fd.inj t t']
section
variable{X:Cx}{pins:List (Addr×Obj)}{σ:St}{H:Hp}{s:Ai}{a:Addr}{xs ys:List V}
theorem Kb.of{K:PySem.W.Frag}(h:H a=some (.lst xs)):Kb K H a xs:=.inl (.inl h)
theorem Vh.of{K:PySem.W.Frag}(h:H a=some (.tup xs)):Vh K H a xs:=.inl (.inl h)
theorem Inv.list(I:Inv X pins σ H s)(h:Kb X.K H a xs):∃its:List Value,Fd xs its/\PlainL s.heap a its.toArray/\xs.length<=Av:=by
 rcases h with h | ⟨o,its,n,hk,hc,hd,hs,hz,r⟩
 ·obtain ⟨z,its,n,r,e⟩:=h.ok I.hok
  exact ⟨its,r,⟨_,n,e,rfl,rfl,rfl⟩,z⟩
 ·refine ⟨its.toList,r,⟨o,n,I.kIn a o hk,hc,hd,by simpa using hs⟩,?_⟩
  have e:=r.length
  simp only[Bd] at e
  omega
theorem Inv.tuple(I:Inv X pins σ H s)(h:Vh X.K H a xs):∃its:List Value,Fd xs its/\IsTup s.heap a its.toArray/\xs.length<=Av:=by
 rcases h with h | ⟨o,its,n,hk,hc,hs,hz,r⟩
 ·obtain ⟨z,its,r,p⟩:=h.ok I.hok
  exact ⟨its,r,p,z⟩
 ·refine ⟨its.toList,r,⟨o,I.kIn a o hk,hc,n,by simpa using hs⟩,?_⟩
  have e:=r.length
  simp only[Bd] at e
  omega
theorem Inv.list_inj(I:Inv X pins σ H s)(h:Kb X.K H a xs)(h':Kb X.K H a ys):xs=ys:=by
 obtain ⟨its,r,⟨o,n,e,_,_,d⟩,_⟩:=I.list h
 obtain ⟨its',r',⟨o',n',e',_,_,d'⟩,_⟩:=I.list h'
 rw[e] at e'; cases e'
 rw[d] at d'
 injection d' with d1 _
 have : its=its':=by simpa using congrArg Array.toList d1
 subst this
 exact r.inj r'
theorem Inv.tuple_inj(I:Inv X pins σ H s)(h:Vh X.K H a xs)(h':Vh X.K H a ys):xs=ys:=by
 obtain ⟨its,r,⟨o,e,_,n,d⟩,_⟩:=I.tuple h
 obtain ⟨its',r',⟨o',e',_,n',d'⟩,_⟩:=I.tuple h'
 rw[e] at e'; cases e'
 rw[d] at d'
 injection d' with d1 _
 have : its=its':=by simpa using congrArg Array.toList d1
 subst this
 exact r.inj r'
end
abbrev Cx.wish(X:Cx)(E:Value->Ai->Prop):Cx:={ X with xe:=E }
abbrev Cx.nox(X:Cx):Cx:=X.wish λ_ _=>False
theorem Cx.Ok.wish{X:Cx}(ok:X.Ok)(E:Value->Ai->Prop):(X.wish E).Ok :=
 ⟨ok.mod,ok.kind,ok.glob,ok.blt,ok.above,ok.inj,ok.has,ok.cab,ok.hd,ok.frames,ok.stk,ok.exf,ok.bs,ok.bsz,ok.noex,ok.exfs,ok.funs,ok.frf,ok.tab⟩
theorem Cx.Ok.unwish{X:Cx}(ok:(X.wish E).Ok):X.Ok :=
 ⟨ok.mod,ok.kind,ok.glob,ok.blt,ok.above,ok.inj,ok.has,ok.cab,ok.hd,ok.frames,ok.stk,ok.exf,ok.bs,ok.bsz,ok.noex,ok.exfs,ok.funs,ok.frf,ok.tab⟩
section
variable{X:Cx}{pins:List (Addr×Obj)}{σ:St}{H:Hp}{s:Ai}{E:Value->Ai->Prop}
theorem Inv.wish(I:Inv X pins σ H s)(E:Value->Ai->Prop):Inv (X.wish E) pins σ H s:=⟨I.ok.wish E,I.os,I.bare,I.base,I.loc,I.cell,I.free,I.freeC,I.pin,I.hok,I.len⟩
theorem Inv.unwish(I:Inv (X.wish E) pins σ H s):Inv X pins σ H s:=⟨I.ok.unwish,I.os,I.bare,I.base,I.loc,I.cell,I.free,I.freeC,I.pin,I.hok,I.len⟩
theorem SP.unwish(h:SP (X.wish E) pins D f s'):SP X pins D f s':=by
 cases f with
 | next=>obtain ⟨σ',H',I,q⟩:=h; exact ⟨σ',H',I.unwish,q⟩
 | brk=>obtain ⟨σ',H',I,q⟩:=h; exact ⟨σ',H',I.unwish,q⟩
 | cont=>obtain ⟨σ',H',I,q⟩:=h; exact ⟨σ',H',I.unwish,q⟩
 | ret u=>obtain ⟨v,σ',H',I,r,q⟩:=h; exact ⟨v,σ',H',I.unwish,r,q⟩
theorem mZ.nox{st:List Stmt}(h:mZ X.nox st t):mZ X st t:=λpins s σ H D I hw =>
 Eo (h pins s σ H D (I.wish _) hw) (λ_ _ q=>q.unwish) λ_ _ z=>Jw z
end
section
variable{X:Cx}{st:Stmt}{Fz:List Stmt}{t u:TS}{e:Expr}{te:TE}{pos:Pos}
def DM:TS:=λD σ H=>D.nx σ H
def EN(t u:TS):TS:=λD σ H=>t { D with nx:=u D } σ H
theorem Zc:mZ X [] DM:=λ_ _ σ H _ I h=>wpAny_execs_nil ⟨σ,H,I,h⟩
theorem Ex(h1:PS X st t)(h2:mZ X Fz u):mZ X (st::Fz) (EN t u):=by
 intro pins s σ H D I h
 refine wpAny_execs_cons (Fn (h1 pins s σ H { D with nx:=u D } I h) λf s1 q=>?_)
 cases f with
 | next =>
  obtain ⟨σ',H',I',q⟩:=q
  exact h2 pins s1 σ' H' D I' q
 | ret v=>exact q
 | brk=>exact q
 | cont=>exact q
theorem Kv(h1:PS X st t):mZ X [st] t:=by
 intro pins s σ H D I h
 refine wpAny_execs_cons (Fn (h1 pins s σ H D I h) λf s1 q=>?_)
 cases f with
 | next=>exact wpAny_execs_nil q
 | ret v=>exact q
 | brk=>exact q
 | cont=>exact q
theorem Inv.quiet{σ:St}(I:Inv X pins σ H s):interactive X.env=false:=by simp [interactive,I.ok.kind]
def AV(te:TE):TS:=λD σ H=>te σ H λ_ H1=>D.nx σ H1
theorem fO(he:PE X e te)(hs:Hm e none pos.line X.env=pure false:=by rfl):PS X (.Expr e pos) (AV te):=by
 intro pins s σ H D I h
 exact wpAny_Expr_any (Fn (he pins s σ H _ I h) λv s1 ⟨x,H1,I1,r1,q1⟩=>⟨σ,H1,I1,q1⟩) I.quiet hs
def EL(te:TE):TS:=λD σ H=>te σ H D.rt
theorem Qe(he:PE X e te):PS X (.Return (some e) pos) (EL te):=by
 intro pins s σ H D I h
 exact wpAny_Return_some (Fn (he pins s σ H _ I h) λv s1 ⟨x,H1,I1,r1,q1⟩=>⟨x,σ,H1,I1,r1,q1⟩)
def FP(c:TT)(t u:TS):TS:=λD σ H=>c σ H λb H1=>if b=true then t D σ H1 else u D σ H1
theorem pF(hc:PT X c tc)(ha:mZ X a t)(hb:mZ X b u):PS X (.If c a b pos) (FP tc t u):=by
 intro pins s σ H D I h
 refine wpAny_If (Fn (hc pins s σ H _ I h) λd s1 q0_ => ?_)
 obtain ⟨H1,I1,q1⟩ := q0_
 cases d with
 | true=>exact ha pins s1 σ H1 D I1 q1
 | false=>exact hb pins s1 σ H1 D I1 q1
end
abbrev TG:=V->St->Hp->(St->Hp->Prop)->Prop
abbrev J2:=List V->St->Hp->(St->Hp->Prop)->Prop
def PG(X:Cx)(target:Expr)(t:TG):Prop :=
 ∀(pins:List (Addr×Obj)) (s:Ai) (σ:St) (H:Hp) (v:V) (u:Value) (Q:St->Hp->Prop),Inv X pins σ H s->RelV v u->t v σ H Q ->
  wpAny (model X.prog X.w) X.A (Tv target X.env u) (λ_ s'=>∃σ' H',Inv X pins σ' H' s'/\Q σ' H') X.xe s
def U7(X:Cx)(ts:List Expr)(t:J2):Prop :=
 ∀(pins:List (Addr×Obj)) (s:Ai) (σ:St) (H:Hp) (vs:List V) (us:List Value) (Q:St->Hp->Prop),Inv X pins σ H s->Fd vs us->t vs σ H Q ->
  wpAny (model X.prog X.w) X.A (assignInOrder ((Kq ts X.env).map (·.2)) us) (λ_ s'=>∃σ' H',Inv X pins σ' H' s'/\Q σ' H') X.xe s
abbrev R6:=V->V->V->Hp->(Hp->Prop)->Prop
def AK(X:Cx)(t:R6):Prop :=
 ∀(pins:List (Addr×Obj)) (s:Ai) (σ:St) (H:Hp) (o i v:V) (ov iv u:Value) (Q:Hp->Prop),Inv X pins σ H s->RelV o ov->RelV i iv->RelV v u->t o i v H Q ->
  wpAny (model X.prog X.w) X.A (setItem ov iv u) (λ_ s'=>∃H',Inv X pins σ H' s'/\Q H') X.xe s
section
variable{X:Cx}{pos:Pos}
def Rz(i:Nat):TG:=λv σ H Q=>Q (σ.set i (some v)) H
theorem Kz(hN:X.N.Nodup)(hi:X.N[i]? = some x)(hx:Loc X.env.scope x)(hf:X.fn x=true\/X.env.scope.names.lookup x=some .local:=by first | exact .inl rfl | exact .inr rfl | assumption):PG X (.Name x pos) (Rz i):=by
 intro pins s σ H v u Q I r h
 exact wpAny_assign_Name (kC I hN hi hx r (λs' I'=>⟨_,H,I',h⟩) hf)
def T5:J2:=λvs σ H Q=>vs=[]/\Q σ H
def iT(t:TG)(u:J2):J2:=λvs σ H Q=>∃v r,vs=v::r/\t v σ H λσ' H'=>u r σ' H' Q
theorem iD:U7 X [] T5:=by
 intro pins s σ H vs us Q I r h
 obtain ⟨e,h⟩:=h
 subst e
 cases r
 exact assignInOrder_nil ⟨σ,H,I,h⟩
theorem Sh(h1:PG X e t)(h2:U7 X es u)(hs:(Kq (e::es) X.env).map (·.2)=Tv e X.env::(Kq es X.env).map (·.2):=by rfl):U7 X (e::es) (iT t u):=by
 intro pins s σ H vs us Q I r h
 obtain ⟨v,vr,e1,h⟩:=h
 subst e1
 cases r with
 | cons r rr =>
  rw[hs]
  refine assignInOrder_cons (Fn (h1 pins s σ H _ _ _ I r h) λ_ s1 q0_ => ?_)
  obtain ⟨σ1,H1,I1,q1⟩ := q0_
  exact h2 pins s1 σ1 H1 _ _ Q I1 rr q1
def S0(K:PySem.W.Frag)(n:Nat)(t:J2):TG:=λv σ H Q=>∃a xs,v=.ref a/\Vh K H a xs/\xs.length=n/\t xs σ H Q
theorem mG{k:Nat}(hc:X.calm=true)(h:U7 X es t)(hn:(Kq es X.env).length=n:=by rfl)(hst:(Kq es X.env).findIdx? (·.1)=none:=by rfl):PG X (.Tuple es k pos) (S0 X.K n t):=by
 intro pins s σ H v u Q I r hw
 obtain ⟨a,xs,e1,hq,hl,hw⟩:=hw
 subst e1
 cases r
 obtain ⟨its,rv,ht,hz⟩:=I.tuple hq
 refine assign_Tuple_tuple (I.ok.hd hc) ht (by simp [hn,<- hl,rv.length]) hst λh' hx=>?_
 have I1:Inv X pins σ H { s with heap:=h' }:=I.kept (t':=s.toks) λb o e=>hx b o (By (Ba e)) e
 exact h pins _ σ H xs _ Q I1 (by simpa using rv) hw
def FS(to ti:TE)(t:R6):TG:=λv σ H Q=>to σ H λo H1=>ti σ H1 λi H2=>t o i v H2 λH3=>Q σ H3
theorem fB(ho:PE X o to)(hi:PE X i ti)(hs:AK X t)
  (ha:∀v,Tv (.Subscript o i pos) X.env v=(do
   let ov <- So [v] (eval o X.env)
   let iv <- So [v,ov] (eval i X.env)
   standAt pos
   So [v,ov,iv] (setItem ov iv v)
   release [v,ov,iv] []):=by intro _; rfl):PG X (.Subscript o i pos) (FS to ti t):=by
 intro pins s σ H v u Q I r h
 rw[ha]
 refine Ab (Df (Fn (ho pins s σ H _ I h) λov s1 q0_ => ?_))
 obtain ⟨x,H1,I1,r1,q1⟩ := q0_
 refine Ab (Df (Fn (hi pins s1 σ H1 _ I1 q1) λiv s2 q0_ => ?_))
 obtain ⟨y,H2,I2,r2,q2⟩ := q0_
 refine Ab (bJ (Ab (Df (Fn (hs pins s2 σ H2 x y v ov iv u _ I2 r1 r2 r q2) λ_ s3 q0_ => ?_))))
 obtain ⟨H3,I3,q3⟩ := q0_
 exact wpAny_release ⟨σ,H3,I3,q3⟩
def uG(te:TE)(g:TG):TS:=λD σ H=>te σ H λx H1=>g x σ H1 D.nx
theorem gB(he:PE X e te)(hg:PG X tg g)(hs:swapsWithSole [tg] e pos.line X.env=pure false:=by rfl)(hw:swappedStores [tg] e X.env=pure none:=by rfl)(h1:(Kq [tg] X.env).map (·.2)=[Tv tg X.env]:=by rfl):PS X (.Assign [tg] e pos) (uG te g):=by
 intro pins s σ H D I h
 refine wpAny_Assign_stores (Fn (he pins s σ H _ I h) λv s1 ⟨x,H1,I1,r1,q1⟩=>?_) hs hw
 rw[h1]
 exact Fn (hg pins s1 σ H1 x v _ I1 r1 q1) λ_ s2 q=>q
theorem Kt(hN:X.N.Nodup)(hi:X.N[i]? = some x)(hx:Loc X.env.scope x)(he:PE X e te)(hs:Hm e (some (.Name x pos')) pos.line X.env=pure false:=by rfl)(hf:X.fn x=true\/X.env.scope.names.lookup x=some .local:=by first | exact .inl rfl | exact .inr rfl | assumption):PS X (.Assign [.Name x pos'] e pos) (uG te (Rz i)):=by
 intro pins s σ H D I h
 refine wpAny_Assign_Name (Fn (he pins s σ H _ I h) λv s1 ⟨y,H1,I1,r1,q1⟩=>?_) hs
 exact kC I1 hN hi hx r1 (λs2 I2=>⟨_,H1,I2,q1⟩) hf
end
structure It where
 go:Nat->Hp->Prop
 yld:Nat->Hp->V->Hp->Prop
 stop:Nat->Hp->Prop
def Ky(X:Cx)(pins:List (Addr×Obj))(H:Hp)(b:Addr):Prop :=
 H b=none/\b≠X.env.locals/\b∉X.fs/\(b∈X.ex\/X.s₀.heap.objs.size<=b)/\(∀x c,X.env.cells.lookup x=some c->c≠b)/\∀p∈X.pn++pins,p.1≠b
theorem Inv.fpOk{σ:St}{b:Addr}(I:Inv X pins σ H s)(hb:s.heap.objs.size<=b)(hn:H' b=none):Ky X pins H' b:=by
 refine ⟨hn,Nat.ne_of_gt (Br I.lt hb),I.nofs hb,.inr (Cc I.sz hb),λx c e z=>?_,λp hp z=>?_⟩
 ·obtain ⟨v,q⟩:=I.cell x c e
  exact absurd (Br q.lt (by rw[z]; exact hb)) (Gf _)
 ·exact absurd (Br (Ba (I.pin p hp).1) (by rw[z]; exact hb)) (Gf _)
structure Turn(P:Bo)(w:World)(K:PySem.W.Frag)(tg:Expr)(J:It)(fp:List Addr)(it:Addr)(tn:Nat->Heap->Prop):Prop where
 mem:it∈fp
 obj:∀i h,tn i h->∀b∈fp,∃o,h.get? b=some o/\∀v,o.data≠.cell v
 keep:∀i h h',tn i h->(∀b∈fp,∀o,h.get? b=some o->h'.get? b=some o)->tn i h'
 item:∀(X:Cx),X.prog=P->X.w=w->X.K=K->X.calm=true->∀(i:Nat) (pins:List (Addr×Obj)) (s:Ai) (σ:St) (H:Hp) (E:Value->Ai->Prop),Inv X pins σ H s->(∀b∈fp,Ky X pins H b)->tn i s.heap->J.go i H ->
  wpAny (model P w) X.A (Kn (.ref it)) (λr s1=>∃u,r=some u /\
   wpAny (model P w) X.A (Wq tg (.ref it) u) (λ_ s2=>∃x H',Inv X pins σ H' s2/\RelV x u/\J.yld i H x H'/\tn (i+1) s2.heap/\∀b∈fp,H' b=none) E s1) E s
 done:∀(X:Cx),X.prog=P->X.w=w->X.K=K->X.calm=true->∀(i:Nat) (pins:List (Addr×Obj)) (s:Ai) (σ:St) (H:Hp) (E:Value->Ai->Prop),Inv X pins σ H s->(∀b∈fp,Ky X pins H b)->tn i s.heap->J.stop i H ->
  wpAny (model P w) X.A (Kn (.ref it)) (λr s1=>r=none/\Inv X pins σ H s1) E s
 self:∀(A:Cn) (i:Nat) (s:Ai) (Q:Value->Ai->Prop) (E:Value->Ai->Prop),tn i s.heap->Q (.ref it) s->wpAny (model P w) A (pyIter (.ref it)) Q E s
abbrev TI:=St->Hp->(It->Hp->Prop)->Prop
def FW(X:Cx)(pins:List (Addr×Obj))(σ:St)(tg:Expr)(R:It->Hp->Prop)(itv:Value)(s2:Ai):Prop :=
 ∃(it:Addr) (fp:List Addr) (tn:Nat->Heap->Prop) (J:It) (H':Hp),itv=.ref it/\Inv X pins σ H' s2/\Turn X.prog X.w X.K tg J fp it tn/\tn 0 s2.heap/\(∀b∈fp,Ky X pins H' b)/\R J H'
def PI(X:Cx)(tg iter:Expr)(wi:TI):Prop :=
 ∀(pins:List (Addr×Obj)) (s:Ai) (σ:St) (H:Hp) (R:It->Hp->Prop),Inv X pins σ H s->wi σ H R ->
  wpAny (model X.prog X.w) X.A (eval iter X.env) (λv s1=>wpAny (model X.prog X.w) X.A (pyIter v) (FW X pins σ tg R) X.xe s1) X.xe s
theorem qV(ho:s.heap.get? it=some o)(hc:o.cls=.type n)(hd:o.data=.fields vs)(hn:["enumerate", "zip", "dict_itemiterator", "dict_reverseitemiterator", "odict_iterator", "itertools.zip_longest", "itertools.pairwise"].contains n=false)(hQ:Q () s):wpAny M A (Wq tg (.ref it) u) Q E s:=by
  unfold Wq
  cases tg <;> first
    | exact Ao hQ
    | (cases u <;> first
        | exact Ao hQ
        | (refine Ab (wpAny_load ho ?_)
           rw[hc,hd]
           show wpAny M A (if (["enumerate", "zip", "dict_itemiterator", "dict_reverseitemiterator", "odict_iterator", "itertools.zip_longest", "itertools.pairwise"].contains n && vs[0]? == some (Hd _))=true then _ else _) Q E s
           rw[if_neg (by intro h; rw[hn,Bool.false_and] at h; cases h)]
           exact Ao hQ))
def EH(K:PySem.W.Frag)(a:Addr):It :=
 ⟨λi H=>∃xs x,Kb K H a xs/\xs[i]? = some x,λi H x H'=>H'=H/\∀xs,Kb K H a xs->xs[i]? = some x,λi H=>∃xs,Kb K H a xs/\xs.length<=i⟩
def FD(K:PySem.W.Frag)(a:Addr):It :=
 ⟨λi H=>∃xs x,Vh K H a xs/\xs[i]? = some x,λi H x H'=>H'=H/\∀xs,Vh K H a xs->xs[i]? = some x,λi H=>∃xs,Vh K H a xs/\xs.length<=i⟩
def N4(lo:Int)(n:Nat):It:=⟨λi _=>i<n,λi H x H'=>H'=H/\x=.int (lo+i),λi _=>n<=i⟩
theorem tR{K:PySem.W.Frag}(a it:Addr):Turn P w K tg (EH K a) [it] it (λi h=>h.IsListIter it a i) where
 mem:=by simp
 obj:=λi h st b hb=>by
  have e:b=it:=by simpa using hb
  subst e
  obtain ⟨o,e,c,d⟩:=st
  exact ⟨o,e,λv z=>by rw[d] at z; cases z⟩
 keep:=λi h h' st k=>st.at λo e=>k it (by simp) o e
 item:=by
  intro X hP hw hK hc i pins s σ H E I hf st hg
  subst hP hw hK
  obtain ⟨xs,x,hq,hx⟩:=hg
  obtain ⟨its,rv,p,hz⟩:=I.list hq
  obtain ⟨u,hu,ru⟩:=rv.get hx
  obtain ⟨f0,f1,f2,f3,f4,f5⟩:=hf it (by simp)
  refine wpAny_pyNext_list_item st p.isList (x:=u) (by simpa using hu) λh' st' sb=>?_
  have I1:Inv X pins σ H { s with heap:=h' }:=I.turned (t':=s.toks) (λb o hb e=>(sb.2 b hb).trans e) f0 f1 f3 f4 f5
  obtain ⟨o,e,c,d⟩:=id st'
  exact ⟨u,rfl,qV (s:={ s with heap:=h' }) e c d (by decide) ⟨x,H,I1,ru,⟨rfl,λys hy=>by rw[I.list_inj hy hq]; exact hx⟩,st',λb hb=>(hf b hb).1⟩⟩
 done:=by
  intro X hP hw hK hc i pins s σ H E I hf st hg
  subst hP hw hK
  obtain ⟨xs,hq,hx⟩:=hg
  obtain ⟨its,rv,p,hz⟩:=I.list hq
  obtain ⟨f0,f1,f2,f3,f4,f5⟩:=hf it (by simp)
  have hl:=rv.length
  exact wpAny_pyNext_list_end (I.ok.hd hc) st p.isList (by simp; omega) λh' eb=>⟨rfl,I.turned (t':=s.toks) (λb o hb e=>eb b o hb e) f0 f1 f3 f4 f5⟩
 self:=λ_ _ _ _ _ st h=>wpAny_pyIter_listiter st h
theorem mQ{K:PySem.W.Frag}(a it:Addr):Turn P w K tg (FD K a) [it] it (λi h=>h.IsTupleIter it a i) where
 mem:=by simp
 obj:=λi h st b hb=>by
  have e:b=it:=by simpa using hb
  subst e
  obtain ⟨o,e,c,d⟩:=st
  exact ⟨o,e,λv z=>by rw[d] at z; cases z⟩
 keep:=λi h h' st k=>st.at λo e=>k it (by simp) o e
 item:=by
  intro X hP hw hK hc i pins s σ H E I hf st hg
  subst hP hw hK
  obtain ⟨xs,x,hq,hx⟩:=hg
  obtain ⟨its,rv,p,hz⟩:=I.tuple hq
  obtain ⟨u,hu,ru⟩:=rv.get hx
  obtain ⟨f0,f1,f2,f3,f4,f5⟩:=hf it (by simp)
  refine wpAny_pyNext_tuple_item st (show s.heap.IsTuple a its.toArray from p) (x:=u) (by simpa using hu) λh' st' sb=>?_
  have I1:Inv X pins σ H { s with heap:=h' }:=I.turned (t':=s.toks) (λb o hb e=>(sb.2 b hb).trans e) f0 f1 f3 f4 f5
  obtain ⟨o,e,c,d⟩:=id st'
  exact ⟨u,rfl,qV (s:={ s with heap:=h' }) e c d (by decide) ⟨x,H,I1,ru,⟨rfl,λys hy=>by rw[I.tuple_inj hy hq]; exact hx⟩,st',λb hb=>(hf b hb).1⟩⟩
 done:=by
  intro X hP hw hK hc i pins s σ H E I hf st hg
  subst hP hw hK
  obtain ⟨xs,hq,hx⟩:=hg
  obtain ⟨its,rv,p,hz⟩:=I.tuple hq
  obtain ⟨f0,f1,f2,f3,f4,f5⟩:=hf it (by simp)
  have hl:=rv.length
  exact wpAny_pyNext_tuple_end (I.ok.hd hc) st (show s.heap.IsTuple a its.toArray from p) (by simp; omega) λh' eb=>⟨rfl,I.turned (t':=s.toks) (λb o hb e=>eb b o hb e) f0 f1 f3 f4 f5⟩
 self:=λ_ _ _ _ _ st h=>wpAny_pyIter_tupleiter st h
theorem mF{K:PySem.W.Frag}(it:Addr)(lo:Int)(n:Nat):Turn P w K tg (N4 lo n) [it] it (λi h=>IsRangeIter h it (lo+(i:Nat) * 1) ((n:Int) - (i:Nat)) 1) where
 mem:=by simp
 obj:=λi h st b hb=>by
  have e:b=it:=by simpa using hb
  subst e
  exact ⟨_,st,λv z=>by
   have z':Data.fields _=Data.cell v:=z
   cases z'⟩
 keep:=λi h h' st k=>k it (by simp) _ st
 item:=by
  intro X hP hw hK hc i pins s σ H E I hf st hg
  subst hP hw hK
  obtain ⟨f0,f1,f2,f3,f4,f5⟩:=hf it (by simp)
  have W:=Walks.range (prog:=X.prog) (w:=X.w) (I.ok.hd hc) it lo 1 n
  refine W.item i s _ _ hg st λv h' tk hv st' kk=>?_
  obtain ⟨t,rfl⟩:=hv
  have I1:Inv X pins σ H { s with heap:=h',toks:=tk }:=I.turned (λb o hb e=>kk b o (by simpa using hb) e) f0 f1 f3 f4 f5
  refine ⟨_,rfl,qV (s:={ s with heap:=h',toks:=tk }) (n := "range_iterator") st' rfl rfl (by decide) ⟨.int (lo+i),H,I1,⟨t,?_⟩,⟨rfl,rfl⟩,st',λb hb=>(hf b hb).1⟩⟩
  rw[Int.mul_one]
 done:=by
  intro X hP hw hK hc i pins s σ H E I hf st hg
  subst hP hw hK
  obtain ⟨f0,f1,f2,f3,f4,f5⟩:=hf it (by simp)
  exact wpAny_pyNext_range_end (I.ok.hd hc) st (by have : n<=i:=hg; omega) λh' eb=>⟨rfl,I.turned (t':=s.toks) (λb o hb e=>eb b o hb e) f0 f1 f3 f4 f5⟩
 self:=λ_ _ _ _ _ st h=>wpAny_pyIter_rangeiter st h
section
variable{X:Cx}{tg:Expr}
def BM(K:PySem.W.Frag)(tl:TE):TI:=λσ H R=>tl σ H λx H1=>∃a,x=.ref a/\(∃xs,Kb K H1 a xs)/\R (EH K a) H1
def FG(K:PySem.W.Frag)(tl:TE):TI:=λσ H R=>tl σ H λx H1=>∃a,x=.ref a/\(∃xs,Vh K H1 a xs)/\R (FD K a) H1
theorem fH(hl:PE X l tl):PI X tg l (BM X.K tl):=by
 intro pins s σ H R I h
 refine Fn (hl pins s σ H _ I h) λv s1 q0_ => ?_
 obtain ⟨x,H1,I1,r1,q1⟩ := q0_
 obtain ⟨a,e,⟨xs,hq⟩,q⟩:=q1
 subst e
 cases r1
 obtain ⟨its,rv,p,hz⟩:=I1.list hq
 refine Sn p.isList ?_
 refine ⟨s1.heap.objs.size,[s1.heap.objs.size],_,_,H1,rfl,I1.kept (t':=s1.toks) λb o e=>Af _ e,tR a _,⟨_,Bb _ rfl,rfl,rfl⟩,λb hb=>?_,q⟩
 have e:b=s1.heap.objs.size:=by simpa using hb
 subst e
 exact I1.fpOk (Ak _) (I1.hok.fresh (Ak _))
theorem W9(hl:PE X l tl):PI X tg l (FG X.K tl):=by
 intro pins s σ H R I h
 refine Fn (hl pins s σ H _ I h) λv s1 q0_ => ?_
 obtain ⟨x,H1,I1,r1,q1⟩ := q0_
 obtain ⟨a,e,⟨xs,hq⟩,q⟩:=q1
 subst e
 cases r1
 obtain ⟨its,rv,p,hz⟩:=I1.tuple hq
 refine wpAny_pyIter_tuple (show s1.heap.IsTuple a its.toArray from p) ?_
 refine ⟨s1.heap.objs.size,[s1.heap.objs.size],_,_,H1,rfl,I1.kept (t':=s1.toks) λb o e=>Af _ e,mQ a _,⟨_,Bb _ rfl,rfl,rfl⟩,λb hb=>?_,q⟩
 have e:b=s1.heap.objs.size:=by simpa using hb
 subst e
 exact I1.fpOk (Ak _) (I1.hok.fresh (Ak _))
theorem uJ{pins:List (Addr×Obj)}{σ:St}{H:Hp}{lo hi:Int}(I:Inv X pins σ H s)(h1:-(2 ^ 62)<=lo)(h2:lo<2 ^ 62)(h3:-(2 ^ 62)<=hi)(h4:hi<2 ^ 62)(q:R (N4 lo (hi - lo).toNat) H):wpAny (model X.prog X.w) X.A (pyIter (.ref s.heap.objs.size)) (FW X pins σ tg R) E { s with heap:=s.heap.push { cls:=.type "range",data:=.fields #[.int lo t,.int hi u,.int 1 v] },toks:=tk }:=by
 refine wpAny_pyIter_range (IsRange.new ..) (small_one h1 h2 h3 h4) ?_
 have I1:Inv X pins σ H { s with heap:=s.heap.push { cls:=.type "range",data:=.fields #[.int lo t,.int hi u,.int 1 v] },toks:=tk }:=I.kept λb o e=>Af _ e
 refine ⟨(s.heap.push { cls:=.type "range",data:=.fields #[.int lo t,.int hi u,.int 1 v] }).objs.size,[(s.heap.push { cls:=.type "range",data:=.fields #[.int lo t,.int hi u,.int 1 v] }).objs.size],_,_,H,rfl,
  I1.kept (t':=tk) λb o e=>Af _ e,mF _ lo (hi - lo).toNat,?_,λb hb=>?_,q⟩
 ·have e1:lo+((0:Nat):Int) * 1=lo:=by simp
  have e2:(((hi - lo).toNat:Nat):Int) - ((0:Nat):Int)=Builtin.Range.rangeSize lo hi 1:=by rw[rangeSize_one]; split <;> omega
  show IsRangeIter _ _ (lo+((0:Nat):Int) * 1) ((((hi - lo).toNat:Nat):Int) - ((0:Nat):Int)) 1
  rw[e1,e2]
  exact Bb _ rfl
 ·have e:b=(s.heap.push { cls:=.type "range",data:=.fields #[.int lo t,.int hi u,.int 1 v] }).objs.size:=by simpa using hb
  subst e
  exact I1.fpOk (Ak _) (I1.hok.fresh (Ak _))
def BW(ta:TA):TI:=λσ H R=>ta σ H λvs H1=>∃j:Int,vs=[.int j] /\ -(2 ^ 62)<=j/\j<2 ^ 62/\R (N4 0 j.toNat) H1
theorem Xd(hg:Gl X "range")(hm:X.mg "range" = none)(ha:PA X [a] ta)(hs:Bm [a] X.env=[(false,eval a X.env)]:=by rfl):PI X tg (.Call (.Name "range" p) [a] [] pos) (BW ta):=by
 intro pins s σ H R I h
 refine Call_ (Mq I hg hm boot_range (Eb (Fn (ha pos pins s σ H _ I h) λus s1 ⟨vs,H1,I1,r1,q1⟩=>?_) hs rfl))
 obtain ⟨j,e,q1,q2,q⟩:=q1
 subst e
 cases r1 with
 | cons r rr =>
  cases rr
  obtain ⟨t,rfl⟩:=r
  exact call_range_1 (uJ I1 (by omega) (by omega) q1 q2 (by simpa using q))
def EX(wi:TI)(g:TG)(tb:TS):TS:=λD σ H=>wi σ H λJ H1=>∃W:Nat->Nat->St->Hp->Prop,(∃m,W 0 m σ H1)/\∀i m σ H,W i m σ H ->
 (J.stop i H/\D.nx σ H)\/(J.go i H/\∃N:St->Hp->Prop,(∀σ' H',N σ' H'->∃m',m'<m/\W (i+1) m' σ' H')/\∀x H',J.yld i H x H'->g x σ H' λσ2 H2=>tb { D with nx:=N,ct:=N,bk:=D.nx } σ2 H2)
def Ru(fp:List Addr)(h:Heap):List (Addr×Obj):=fp.filterMap λb=>(h.get? b).map λo=>(b,o)
theorem Hq(hb:b∈fp)(e:h.get? b=some o):(b,o)∈Ru fp h:=List.mem_filterMap.mpr ⟨b,hb,by rw[e]; rfl⟩
theorem sH(hp:p∈Ru fp h):p.1∈fp/\h.get? p.1=some p.2:=by
 obtain ⟨b,hb,e⟩:=List.mem_filterMap.mp hp
 cases q:h.get? b with
 | none=>rw[q] at e; cases e
 | some o =>
  rw[q] at e
  have e':(b,o)=p:=Bl e
  subst e'
  exact ⟨hb,q⟩
theorem Inv.pinned{σ:St}(I:Inv X pins σ H s)(hf:∀b∈fp,Ky X pins H b)(ho:∀b∈fp,∃o,s.heap.get? b=some o/\∀v,o.data≠.cell v):Inv X (pins++Ru fp s.heap) σ H s :=
 I.pins_of λp hp=>(Bg.mp hp).elim (λz=>I.pin p (Al _ z)) λz=>by
  obtain ⟨hb,e⟩:=sH z
  obtain ⟨f0,f1,f2,_⟩:=hf p.1 hb
  obtain ⟨o,e',d⟩:=ho p.1 hb
  rw[e] at e'; cases e'
  exact ⟨e,f0,f1,f2,d⟩
theorem Inv.unpinned{σ:St}(I:Inv X (pins++pl) σ H s):Inv X pins σ H s:=I.pins_of λp hp=>I.pin p (Al _ (Am _ hp))
theorem fJ(hp:PassesOwn (model X.prog X.w) X.A X.env X.xe)(hc:X.calm=true)(hi:PI X tg iter wi)(hg:PG X tg g)(hb:mZ X body tb)(hs:∀x,Dz iter X.env x=pure x:=by intro _; rfl):PS X (.For tg iter body [] pos) (EX wi g tb):=by
 intro pins s σ H D I h
 refine wpAny_For (Fn (hi pins s σ H _ I h) λv s1 h1=>Fn h1 λitv s2 h2=>?_) hs
 obtain ⟨it,fp,tn,J,H2,e,I2,T,st2,f2,W,⟨m0,w0⟩,turn⟩:=h2
 subst e
 -- what stays true of the iterator's objects through the loop
 have stat:∀{H':Hp},(∀b∈fp,H' b=none)->∀b∈fp,Ky X pins H' b:=λhn b hb=>⟨hn b hb,(f2 b hb).2⟩
 refine codeAny_forLoop_any (λn s'=>∃i σ' H',Inv X pins σ' H' s'/\tn i s'.heap/\(∀b∈fp,H' b=none)/\W i n σ' H') ?_ m0 ⟨0,σ,H2,I2,st2,λb hb=>(f2 b hb).1,w0⟩
 (intro n s3 q_; obtain ⟨i,σ3,H3,I3,st3,fr3,w3⟩ := q_)
 rcases turn i n σ3 H3 w3 with ⟨stop,qn⟩ | ⟨go,N,hN,step⟩
 ·refine Po hp (Fn (T.done X rfl rfl rfl hc i pins s3 σ3 H3 X.xe I3 (stat fr3) st3 stop) λr s4 q0_ => ?_)
  obtain ⟨hr,I4⟩ := q0_
  subst hr
  exact wpAny_execs_nil ⟨σ3,H3,I4,qn⟩
 ·refine Po hp (Fn (T.item X rfl rfl rfl hc i pins s3 σ3 H3 X.xe I3 (stat fr3) st3 go) λr s4 q0_ => ?_)
  obtain ⟨u,hr,h4⟩ := q0_
  subst hr
  refine Po hp (Fn h4 λ_ s5 q0_ => ?_)
  obtain ⟨x,H5,I5,r5,y5,st5,fr5⟩ := q0_
  have I5':=I5.pinned (stat fr5) (T.obj _ _ st5)
  refine Po hp (Fn (hg _ s5 σ3 H5 x u _ I5' r5 (step x H5 y5)) λ_ s6 q0_ => ?_)
  obtain ⟨σ6,H6,I6,q6⟩ := q0_
  refine Po hp (Fn (hb _ s6 σ6 H6 _ I6 q6) λf s7 q7=>?_)
  have again:∀{σ7:St} {H7:Hp},Inv X (pins++Ru fp s5.heap) σ7 H7 s7->N σ7 H7->∃m,m<n/\∃i σ' H',Inv X pins σ' H' s7/\tn i s7.heap/\(∀b∈fp,H' b=none)/\W i m σ' H':=λ{σ7 H7} I7 n7=>by
   obtain ⟨m',hm,w7⟩:=hN σ7 H7 n7
   refine ⟨m',hm,i+1,σ7,H7,I7.unpinned,T.keep _ _ _ st5 λb hb o e=>(I7.pin (b,o) (Al _ (Al _ (Hq hb e)))).1,λb hb=>?_,w7⟩
   obtain ⟨o,e,d⟩:=T.obj _ _ st5 b hb
   exact (I7.pin (b,o) (Al _ (Al _ (Hq hb e)))).2.1
  cases f with
  | next=>obtain ⟨σ7,H7,I7,n7⟩:=q7; exact again I7 n7
  | cont=>obtain ⟨σ7,H7,I7,n7⟩:=q7; exact again I7 n7
  | brk=>obtain ⟨σ7,H7,I7,q7⟩:=q7; exact ⟨σ7,H7,I7.unpinned,q7⟩
  | ret v=>obtain ⟨x7,σ7,H7,I7,r7,q7⟩:=q7; exact ⟨x7,σ7,H7,I7.unpinned,r7,q7⟩
end
theorem dO{lo:Int}{g:TG}{tb:TS}{D:Ends}(Pv:Nat->St->Hp->Prop)(h0:Pv 0 σ H)(hs:∀i σ H,i<n->Pv i σ H->g (.int (lo+i)) σ H λσ2 H2=>tb { D with nx:=Pv (i+1),ct:=Pv (i+1),bk:=D.nx } σ2 H2)(hd:∀σ H,Pv n σ H->D.nx σ H):∃W:Nat->Nat->St->Hp->Prop,(∃m,W 0 m σ H)/\∀i m σ H,W i m σ H->((N4 lo n).stop i H/\D.nx σ H)\/((N4 lo n).go i H/\∃N:St->Hp->Prop,(∀σ' H',N σ' H'->∃m',m'<m/\W (i+1) m' σ' H')/\∀x H',(N4 lo n).yld i H x H'->g x σ H' λσ2 H2=>tb { D with nx:=N,ct:=N,bk:=D.nx } σ2 H2):=by
 refine ⟨λi m σ H=>m=n - i/\i<=n/\Pv i σ H,⟨n,by simp,Cr _,h0⟩,?_⟩
 (intro i m σ H q_; obtain ⟨rfl,hi,p⟩ := q_)
 by_cases hlt:i<n
 ·refine .inr ⟨hlt,Pv (i+1),λσ' H' p'=>⟨n - (i+1),by omega,rfl,hlt,p'⟩,λx H' y=>?_⟩
  obtain ⟨e,y⟩:=y
  subst e y
  exact hs i σ _ hlt p
 ·have e:i=n:=by omega
  subst e
  exact .inl ⟨Ak _,hd σ H p⟩
abbrev R2:=V->V->Hp->VK->Prop
def Xo(X:Cx)(f:Value->Value->Sem Value)(r:R2):Prop :=
 ∀(pins:List (Addr×Obj)) (s:Ai) (σ:St) (H:Hp) (x y:V) (v u:Value) (Q:VK),Inv X pins σ H s->RelV x v->RelV y u->r x y H Q ->
  wpAny (model X.prog X.w) X.A (f v u) (EP X pins σ Q) X.xe s
def FM(X:Cx)(f:Value->Sem Value)(r:V->Hp->VK->Prop):Prop :=
 ∀(pins:List (Addr×Obj)) (s:Ai) (σ:St) (H:Hp) (x:V) (v:Value) (Q:VK),Inv X pins σ H s->RelV x v->r x H Q ->
  wpAny (model X.prog X.w) X.A (f v) (EP X pins σ Q) X.xe s
def Mf(X:Cx)(f:Value)(r:List V->Hp->VK->Prop):Prop :=
 ∀(pins:List (Addr×Obj)) (s:Ai) (σ:St) (H:Hp) (xs:List V) (us:List Value) (Q:VK),Inv X pins σ H s->Fd xs us->r xs H Q ->
  wpAny (model X.prog X.w) X.A (call f us) (EP X pins σ Q) X.xe s
def EU(X:Cx)(r:V->Hp->(Bool->Hp->Prop)->Prop):Prop :=
 ∀(pins:List (Addr×Obj)) (s:Ai) (σ:St) (H:Hp) (x:V) (v:Value) (Q:Bool->Hp->Prop),Inv X pins σ H s->RelV x v->r x H Q ->
  wpAny (model X.prog X.w) X.A (truthy v) (TP X pins σ Q) X.xe s
def BP(r:R2)(ta tb:TE):TE:=λσ H Q=>ta σ H λx H1=>tb σ H1 λy H2=>r x y H2 Q
def HB(r:V->Hp->VK->Prop)(ta:TE):TE:=λσ H Q=>ta σ H λx H1=>r x H1 Q
def rI(C:Int->Int->Prop)(g:Int->Int->V):R2:=λx y H Q=>∃i j,x=.int i/\y=.int j/\C i j/\Q (g i j) H
def O1(g:Int->Int->V):R2:=λx y H Q=>∃i j,x=.int i/\y=.int j/\Q (g i j) H
def rU(g:Int->V):V->Hp->VK->Prop:=λx H Q=>∃i,x=.int i/\Q (g i) H
section
variable{X:Cx}{a b c:Expr}{ta tb tc:TE}{pos:Pos}
theorem W1(ha:PE X a ta)(hb:PE X b tb){pins:List (Addr×Obj)}{σ:St}{R:V->V->Hp->Prop}(I:Inv X pins σ H s)(h:ta σ H λx H1=>tb σ H1 λy H2=>R x y H2){f:Value->Value->Sem Value}(hf:∀v u s2 x y H2,Inv X pins σ H2 s2->RelV x v->RelV y u->R x y H2->wpAny (model X.prog X.w) X.A (f v u) Q X.xe s2):wpAny (model X.prog X.w) X.A (eval a X.env) (λv s₁=>wpAny (model X.prog X.w) X.A (eval b X.env) (λu s₂=>wpAny (model X.prog X.w) X.A (f v u) Q X.xe s₂) X.xe s₁) X.xe s:=by
 refine Fn (ha pins s σ H _ I h) λv s1 q0_ => ?_
 obtain ⟨x,H1,I1,r1,q1⟩ := q0_
 refine Fn (hb pins s1 σ H1 _ I1 q1) λu s2 q0_ => ?_
 obtain ⟨y,H2,I2,r2,q2⟩ := q0_
 exact hf v u s2 x y H2 I2 r1 r2 q2
theorem En(ho:Xo X (Jv op) r)(ha:PE X a ta)(hb:PE X b tb):PE X (.BinOp a op b pos) (BP r ta tb):=by
 intro pins s σ H Q I h
 exact wpAny_BinOp (W1 ha hb I h λv u s2 x y H2 I2 rx ry q=>ho pins s2 σ H2 x y v u Q I2 rx ry q)
theorem AL(ho:FM X (unaryOp op) r)(ha:PE X a ta):PE X (.UnaryOp op a pos) (HB r ta):=by
 intro pins s σ H Q I h
 exact UnaryOp_ (Fn (ha pins s σ H _ I h) λv s1 ⟨x,H1,I1,r1,q1⟩=>ho pins s1 σ H1 x v Q I1 r1 q1)
theorem DP{g:Int->Int->Int}(rule:∀(i j:Int) (t u:Tok) (s:Ai) (Q:Value->Ai->Prop) (E:Value->Ai->Prop),C i j->Q (.int (g i j) s.toks) { s with toks:=s.toks+1 }->wpAny (model X.prog X.w) X.A (f (.int i t) (.int j u)) Q E s):Xo X f (rI C λi j=>.int (g i j)):=by
 intro pins s σ H x y v u Q I rx ry h
 obtain ⟨i,j,rfl,rfl,hc,q⟩:=h
 obtain ⟨t,rfl⟩:=rx
 obtain ⟨t',rfl⟩:=ry
 exact rule i j t t' s _ _ hc ⟨.int (g i j),H,I.tok _,⟨_,rfl⟩,q⟩
theorem Q4{g:Int->Int->Int}(rule:∀(i j:Int) (t u:Tok) (s:Ai) (Q:Value->Ai->Prop) (E:Value->Ai->Prop),Q (.int (g i j) s.toks) { s with toks:=s.toks+1 }->wpAny (model X.prog X.w) X.A (f (.int i t) (.int j u)) Q E s):Xo X f (O1 λi j=>.int (g i j)):=by
 intro pins s σ H x y v u Q I rx ry h
 obtain ⟨i,j,rfl,rfl,q⟩:=h
 obtain ⟨t,rfl⟩:=rx
 obtain ⟨t',rfl⟩:=ry
 exact rule i j t t' s _ _ ⟨.int (g i j),H,I.tok _,⟨_,rfl⟩,q⟩
theorem BA{g:Int->Int->Bool}(rule:∀(i j:Int) (t u:Tok) (s:Ai) (Q:Value->Ai->Prop) (E:Value->Ai->Prop),Q (.bool (g i j)) s->wpAny (model X.prog X.w) X.A (f (.int i t) (.int j u)) Q E s):Xo X f (O1 λi j=>.bl (g i j)):=by
 intro pins s σ H x y v u Q I rx ry h
 obtain ⟨i,j,rfl,rfl,q⟩:=h
 obtain ⟨t,rfl⟩:=rx
 obtain ⟨t',rfl⟩:=ry
 exact rule i j t t' s _ _ ⟨.bl (g i j),H,I,rfl,q⟩
def V4(i j:Int):Prop:=0<j/\j<1073741824
def P6(i j:Int):Prop:=0<=j/\j<=1000000/\i.natAbs<2 ^ 64
def T4(i j:Int):Prop:=(-(2 ^ 64)<i/\i<2 ^ 64)\/(-(2 ^ 64)<j/\j<2 ^ 64)
theorem T4.ok(h:T4 i j):IntMulOk i j:=by
 rcases h with ⟨h1,h2⟩ | ⟨h1,h2⟩
 ·exact .of_left (intBits_le_64 h1 h2)
 ·exact .of_right (intBits_le_64 h1 h2)
theorem Qq:Xo X (Jv .Add) (O1 λi j=>.int (i+j)):=Q4 λ_ _ _ _ _ _ _ q=>add_int q
theorem Y0:Xo X (Jv .Sub) (O1 λi j=>.int (i - j)):=Q4 λ_ _ _ _ _ _ _ q=>sub_int q
theorem Np:Xo X (Jv .Mult) (rI T4 λi j=>.int (i * j)):=DP λ_ _ _ _ _ _ _ hc q=>mul_int q hc.ok
theorem Wf:Xo X (Jv .FloorDiv) (rI V4 λi j=>.int (i / j)):=DP λi j _ _ _ _ _ hc q=>by
 have h1:(0:Int)<j:=hc.1
 have h2:j<1073741824:=hc.2
 exact floordiv_int (by omega) (by rw[Int.fdiv_eq_ediv_of_nonneg i (by omega)]; exact q) (.inl (PyProof.noPylong_small (by omega)))
theorem Nu:Xo X (Jv .Mod) (rI (λ_ j=>0<j) λi j=>.int (i % j)):=DP λi j _ _ _ _ _ hc q=>by
 have h1:(0:Int)<j:=hc
 exact mod_int' (by omega) (by rw[Int.fmod_eq_emod_of_nonneg i (by omega)]; exact q)
theorem Uz:Xo X (Jv .Pow) (rI P6 λi j=>.int (i ^ j.toNat)):=DP λ_ _ _ _ _ _ _ hc q=>pow_int_small hc.1 hc.2.1 hc.2.2 q
theorem Y4:Xo X (Jv .BitXor) (O1 λi j=>.int (Builtin.bitXor i j)):=Q4 λ_ _ _ _ _ _ _ q=>xor_int q
theorem GU{g:Int->Int}(rule:∀(i:Int) (t:Tok) (s:Ai) (Q:Value->Ai->Prop) (E:Value->Ai->Prop),Q (.int (g i) s.toks) { s with toks:=s.toks+1 }->wpAny (model X.prog X.w) X.A (f (.int i t)) Q E s):FM X f (rU λi=>.int (g i)):=by
 intro pins s σ H x v Q I rx h
 obtain ⟨i,rfl,q⟩:=h
 obtain ⟨t,rfl⟩:=rx
 exact rule i t s _ _ ⟨.int (g i),H,I.tok _,⟨_,rfl⟩,q⟩
theorem T6:FM X (unaryOp .USub) (rU λi=>.int (-i)):=GU λ_ _ _ _ _ q=>neg_int q
end
section
variable{X:Cx}{a b c:Expr}{ta tb tc:TE}{pos:Pos}
theorem U5{σ:St}(I:Inv X pins σ H s)(q:Q (.bl k) H)(e:k=k'):EP X pins σ Q (.bool k') s:=by
 subst e
 exact ⟨.bl k,H,I,rfl,q⟩
theorem BN:Xo X (Ho .Gt) (O1 λi j=>.bl (decide (j<i))):=BA λ_ _ _ _ _ _ _ q=>gt_int q
theorem CA:Xo X (Ho .GtE) (O1 λi j=>.bl (decide (j<=i))):=BA λ_ _ _ _ _ _ _ q=>ge_int q
theorem U6:Xo X (Ho .Is) (λx y H Q=>y=.non/\Q (.bl (decide (x=.non))) H):=by
 intro pins s σ H x y v u Q I rx ry h
 obtain ⟨rfl,q⟩:=h
 cases ry
 refine is_none_gen (U5 I q ?_)
 cases x <;> first
  | (cases rx; rfl)
  | (obtain ⟨t,rfl⟩:=rx; rfl)
theorem Xf(b:Expr)(h:op≠.In:=by decide)(h2:op≠.NotIn:=by decide):Fp op b=false:=by
 have e1:(op == CmpOp.In)=false:=by cases op <;> first | rfl | exact absurd rfl h
 have e2:(op == CmpOp.NotIn)=false:=by cases op <;> first | rfl | exact absurd rfl h2
 cases b <;> simp [Fp,e1,e2]
theorem A0(ho:Xo X (Ho op) r)(ha:PE X a ta)(hb:PE X b tb)(hm:Fp op b=false):PE X (.Compare a [op] [b] pos) (BP r ta tb):=by
 intro pins s σ H Q I h
 exact wpAny_Compare1 (W1 ha hb I h λv u s2 x y H2 I2 rx ry q=>ho pins s2 σ H2 x y v u Q I2 rx ry q) hm
def DR(t:TE):TT:=λσ H Q=>t σ H λx H'=>∃k,x=.bl k/\Q k H'
theorem qB(ho:Xo X (Ho op) r)(ha:PE X a ta)(hb:PE X b tb)(hm:Fp op b=false):PT X (.Compare a [op] [b] pos) (DR (BP r ta tb)):=by
 intro pins s σ H Q I h
 refine wpAny_isTrue_Compare1 (Fn (ha pins s σ H _ I h) λv s1 ⟨x,H1,I1,r1,q1⟩=>Fn (hb pins s1 σ H1 _ I1 q1) λu s2 ⟨y,H2,I2,r2,q2⟩ =>
  Fn (ho pins s2 σ H2 x y v u _ I2 r1 r2 q2) λc s3 ⟨z,H3,I3,r3,k,e,q3⟩=>?_) hm
 subst e
 cases r3
 exact Gv ⟨H3,I3,q3⟩
def C5(K:PySem.W.Frag)(x:V)(H:Hp)(k:Bool):Prop :=
 match x with
 | .non=>k=false
 | .bl b=>k=b
 | .int i=>k=(i != 0)
 | .str y=>y.length<=Av/\k=((y.length:Int) != 0)
 | .byt y=>y.size<=Av/\k=((y.size:Int) != 0)
 | .ref p=>(∃xs,Kb K H p xs/\k = !xs.isEmpty)\/(∃xs,Vh K H p xs/\k = !xs.isEmpty)\/∃kvs,H p=some (.dK kvs)/\k = !kvs.isEmpty
 | _=>False
theorem mK{kvs:List (κ×V)}{vs:List (κ×Value)}(r:KV kvs vs):(!vs.isEmpty) = !kvs.isEmpty:=by
 cases r <;> rfl
theorem aK(r:Fd xs its):(!its.toArray.isEmpty) = !xs.isEmpty:=by
 cases r <;> simp
theorem Up:(Av:Nat)<2 ^ 63:=by rw[Ie]; decide
theorem P8:EU X (λx H Q=>∃k,C5 X.K x H k/\Q k H):=by
 intro pins s σ H x v Q I rx h
 obtain ⟨k,e,q⟩:=h
 have hl:=Up
 have hs:Av=16777216:=Ie
 cases x with
 | non =>
  cases rx
  have e':k=false:=e
  subst e'
  exact truthy_none ⟨H,I,q⟩
 | bl b =>
  cases rx
  have e':k=b:=e
  subst e'
  exact Gv ⟨H,I,q⟩
 | int i =>
  obtain ⟨t,rfl⟩:=rx
  have e':k=(i != 0):=e
  subst e'
  exact PySem.P.truthy_int ⟨H,I,q⟩
 | str y =>
  obtain ⟨t,rfl⟩:=rx
  obtain ⟨hy,e'⟩ : y.length<=Av/\k=((y.length:Int) != 0):=e
  subst e'
  exact PySem.P.truthy_str (by omega) ⟨H,I.tok _,q⟩
 | byt y =>
  obtain ⟨t,rfl⟩:=rx
  obtain ⟨hy,e'⟩ : y.size<=Av/\k=((y.size:Int) != 0):=e
  subst e'
  exact PySem.W.truthy_bytes (by omega) ⟨H,I.tok _,q⟩
 | ref p =>
  cases rx
  have e':(∃xs,Kb X.K H p xs/\k = !xs.isEmpty)\/(∃xs,Vh X.K H p xs/\k = !xs.isEmpty)\/∃kvs,H p=some (.dK kvs)/\k = !kvs.isEmpty:=e
  rcases e' with ⟨xs,hx,e'⟩ | ⟨xs,hx,e'⟩ | ⟨kvs,hx,e'⟩
  ·subst e'
   obtain ⟨its,r,pl,hz⟩:=I.list hx
   have hlen:=r.length
   exact wpAny_truthy_list pl.isList (by simp only[Aq]; omega) ⟨H,I.tok _,by rw[aK r]; exact q⟩
  ·subst e'
   obtain ⟨its,r,pl,hz⟩:=I.tuple hx
   have hlen:=r.length
   exact truthy_tuple pl (by simp only[Aq]; omega) ⟨H,I.tok _,by rw[aK r]; exact q⟩
  ·subst e'
   obtain ⟨hz,hS,vs,r,m⟩ : kvs.length<=Av/\(p == Ft)=false/\∃vs,KV kvs vs/\s.heap.DictOf (Hh X.prog X.w) p vs:=I.hok p _ hx
   have hlen:kvs.length=vs.length:=Paired.length r
   exact wpAny_truthy_dict hS m (by omega) ⟨H,I.tok _,by rw[mK r]; exact q⟩
 | _=>exact (show False from e).elim
theorem xF(ha:PE X a ta)(he:∀whole,isTrue a X.env whole=(do let v <- whole; standAt a.pos; So [v] (truthy v))) :
  PT X a (λσ H Q=>ta σ H λx H'=>∃k,C5 X.K x H' k/\Q k H'):=by
 intro pins s σ H Q I h
 exact isTrue_plain (Fn (ha pins s σ H _ I h) λv s1 ⟨x,H1,I1,r1,q1⟩=>P8 pins s1 σ H1 x v Q I1 r1 q1) (he _)
theorem vals1(r:Fd [x] us):∃u,us=[u]/\RelV x u:=by
 cases r with
 | cons r1 r2=>cases r2; exact ⟨_,rfl,r1⟩
theorem vals2(r:Fd [x,y] us):∃u w',us=[u,w']/\RelV x u/\RelV y w':=by
 cases r with
 | cons r1 r2 =>
  cases r2 with
  | cons r3 r4=>cases r4; exact ⟨_,_,rfl,r1,r3⟩
theorem dY(hc:X.calm=true):Mf X (.builtin "max") (λxs H Q=>∃i j,xs=[.int i,.int j]/\Q (.int (if j > i then j else i)) H):=by
 intro pins s σ H xs us Q I r h
 obtain ⟨i,j,rfl,q⟩:=h
 obtain ⟨u,w',rfl,⟨t,rfl⟩,⟨t',rfl⟩⟩:=vals2 r
 refine max_two_ints (I.ok.hd hc) λh' tk k=>⟨_,H,I.kept k,?_,q⟩
 by_cases hj:j > i
 ·rw[if_pos hj,if_pos hj]; exact ⟨_,rfl⟩
 ·rw[if_neg hj,if_neg hj]; exact ⟨_,rfl⟩
theorem Px:Mf X (.type "int") (λxs H Q=>(∃i,xs=[.int i]/\Q (.int i) H)\/∃k,xs=[.bl k]/\Q (.int (if k then 1 else 0)) H):=by
 intro pins s σ H xs us Q I r h
 rcases h with ⟨i,rfl,q⟩ | ⟨k,rfl,q⟩
 ·obtain ⟨u,rfl,t,rfl⟩:=vals1 r
  exact call_int_int ⟨.int i,H,I,⟨_,rfl⟩,q⟩
 ·obtain ⟨u,rfl,r1⟩:=vals1 r
  cases r1
  exact call_int_bool ⟨.int (if k then 1 else 0),H,I.tok _,⟨_,rfl⟩,q⟩
def AG(K:PySem.W.Frag)(x:V)(H:Hp)(n:Nat):Prop :=
 match x with
 | .str y=>y.length<=Av/\n=y.length
 | .byt y=>y.size<=Av/\n=y.size
 | .ref p=>(∃xs,Kb K H p xs/\n=xs.length)\/∃xs,Vh K H p xs/\n=xs.length
 | _=>False
theorem Hz:Mf X (.builtin "len") (λxs H Q=>∃x n,xs=[x]/\AG X.K x H n/\Q (.int n) H):=by
 intro pins s σ H xs us Q I r h
 obtain ⟨x,n,rfl,e,q⟩:=h
 obtain ⟨u,rfl,rx⟩:=vals1 r
 have hl:=Up
 have hs:Av=16777216:=Ie
 cases x with
 | str y =>
  obtain ⟨t,rfl⟩:=rx
  obtain ⟨hy,e'⟩ : y.length<=Av/\n=y.length:=e
  subst e'
  exact len_str (by omega) ⟨.int _,H,I.tok _,⟨_,rfl⟩,q⟩
 | byt y =>
  obtain ⟨t,rfl⟩:=rx
  obtain ⟨hy,e'⟩ : y.size<=Av/\n=y.size:=e
  subst e'
  exact PySem.W.len_bytes (by omega) ⟨.int _,H,I.tok _,⟨_,rfl⟩,q⟩
 | ref p =>
  cases rx
  have e':(∃xs,Kb X.K H p xs/\n=xs.length)\/∃xs,Vh X.K H p xs/\n=xs.length:=e
  rcases e' with ⟨xs,hx,e'⟩ | ⟨xs,hx,e'⟩
  ·subst e'
   obtain ⟨its,r',pl,hz⟩:=I.list hx
   have hlen:=r'.length
   exact Calls.call_len_list pl.isList (by simp only[Aq]; omega) ⟨.int xs.length,H,I.tok _,⟨_,by simp only[Aq]; rw[hlen]⟩,q⟩
  ·subst e'
   obtain ⟨its,r',pl,hz⟩:=I.tuple hx
   have hlen:=r'.length
   exact len_tuple pl (by simp only[Aq]; omega) ⟨.int xs.length,H,I.tok _,⟨_,by simp only[Aq]; rw[hlen]⟩,q⟩
 | _=>exact (show False from e).elim
end
structure ObjM(h:Heap)(x dx C:Addr)(mA:Str->Option Value):Prop where
 obj:h.get? x=some (PySem.W.instObj C dx)
 ns:h.Ns1 dx mA
 ne:dx≠x
theorem rV{h:Heap}(n:h.Ns1 dx mA):∃od,h.get? dx=some od/\∀name,PySem.W.lookIn name od=some (mA name):=by
 obtain ⟨o,es,ep,ho,hd,hk,_,hm⟩:=n
 refine ⟨o,ho,λname=>?_⟩
 have e:=hm name
 unfold nsFind findBy at e
 rw[<- Array.find?_toList] at e
 unfold PySem.W.lookIn
 rw[hd]
 dsimp only
 split
 ·rename_i y q
  rw[q] at e
  exact congrArg some e
 ·rename_i q
  rw[q] at e
  have a:es.toList.any (·.refKey)=false:=by
   rw[List.any_eq_false]
   intro y hy
   obtain ⟨z,t,hkey⟩:=hk y (Array.mem_toList_iff.mp hy)
   simp [DictEntry.refKey,hkey]
  have a':¬ es.toList.any (·.refKey)=true:=by rw[a]; exact Bq
  rw[if_neg a']
  exact congrArg some e
theorem ObjM.look(I:ObjM h x dx C mA):∃od,PySem.W.InstAt h x (PySem.W.instObj C dx) C (some od)/\∀name,PySem.W.lookIn name od=some (mA name) :=
 let ⟨od,ho,hl⟩:=rV I.ns
 ⟨od,⟨I.obj,rfl,rfl,ho⟩,hl⟩
theorem iY.some_of(r:iY (some v) o):∃u,o=some u/\RelV v u:=by
 cases o with
 | none=>exact (show False from r).elim
 | some u=>exact ⟨u,rfl,r⟩
section
variable{P:Bo}{w:World}{H H':Hp}{h h':Heap}{a C dx:Addr}{fs fs':List (Str×V)}
theorem C8(hok:Vr P w H h)(e:H a=some (.ins C dx fs)):∃mA,ObjM h a dx C mA/\(∀f,iY (fs.lookup f) (mA f))/\PySem.Within mA (fs.map (·.1))/\fs.length<=1000/\H dx=some (.own a):=by
 obtain ⟨d,z,ne,ob,mA,n,r,q⟩:=(show Hk P w H h a (.ins C dx fs) from hok a _ e)
 exact ⟨mA,⟨ob,n,ne⟩,r,q,z,d⟩
end
structure Cls(K:PySem.W.Frag)(C:Addr):Prop where
 pg:PySem.W.plainGet K C Str.empty=true
 hd:PySem.W.hasDictIn K C=true
 po:PySem.W.plainOver K C=true
 sa:PySem.W.findIn K (.ref C) "__setattr__" = some (some (.builtin "object.__setattr__"))
theorem Cls.get{K:PySem.W.Frag}(c:Cls K C)(f:Str):PySem.W.plainGet K C f=true:=c.pg
section
variable{X:Cx}{pins:List (Addr×Obj)}{σ:St}{H:Hp}{s:Ai}{A:Cn}{E:Value->Ai->Prop}{Q:Value->Ai->Prop}{c:Value}{b:Bool}
inductive TyOf (K:PySem.W.Frag) (H:Hp):V->Value->Prop where
 | non:TyOf K H .non (.type "NoneType")
 | bl (x:Bool):TyOf K H (.bl x) (.type "bool")
 | int (i:Int):TyOf K H (.int i) (.type "int")
 | str (x:Str):TyOf K H (.str x) (.type "str")
 | flt (x:UInt64):TyOf K H (.flt x) (.type "float")
 | lst {a:Addr} {xs:List V} (e:H a=some (.lst xs)):TyOf K H (.ref a) (.type "list")
 | frz {a:Addr} {o:Obj} {xs:List V} (e:H a=some (.frz o (.lst xs))):TyOf K H (.ref a) (.type "list")
 | tup {a:Addr} {xs:List V} (e:H a=some (.tup xs)):TyOf K H (.ref a) (.type "tuple")
 | dK {a:Addr} {kvs:List (Hr×V)} (e:H a=some (.dK kvs)):TyOf K H (.ref a) (.type "dict")
 | dT {a:Addr} {kvs:List (List Hr×V)} (e:H a=some (.dT kvs)):TyOf K H (.ref a) (.type "dict")
 | ins {a C dx:Addr} {fs:List (Str×V)} (e:H a=some (.ins C dx fs)) (cl:Cls K C) (ha:PySem.W.findIn K (.ref C) "__class__" = some (some (.builtin "object.__class__")))
   (hn:PySem.W.specialIn K (.builtin "object.__class__") "__get__" = some (some (.builtin "getset_descriptor.__get__"))) (htk:PySem.W.takesIn K (.builtin "object.__class__")=some true)
   (hm:PySem.W.mroIn K C (.type "object")=some true):TyOf K H (.ref a) (.ref C)
theorem sL(I:Inv X pins σ H s)(rx:RelV x u)(ty:TyOf X.K H x t)(e:PySem.W.kitOne X.K t c=some b)(h:∀tk,Q (.bool b) { s with toks:=tk }):wpAny (model X.prog X.w) A (call (.builtin "isinstance") [u,c]) Q E s:=by
 cases ty with
 | non=>cases (show u=Ir from rx); exact PySem.W.kia_one PySem.W.kitx_none I.kIn Jz e (λz=>nomatch z) h
 | bl y=>cases (show u=Value.bool y from rx); exact PySem.W.kia_one PySem.W.kitx_bool I.kIn Jz e (λz=>nomatch z) h
 | int i=>obtain ⟨t,q⟩:=(show ∃t,u=Vb i t from rx); cases q; exact PySem.W.kia_one PySem.W.kitx_int I.kIn Jz e (λz=>nomatch z) h
 | str y=>obtain ⟨t,q⟩:=(show ∃t,u=Value.str y t from rx); cases q; exact PySem.W.kia_one PySem.W.kitx_str I.kIn Jz e (λz=>nomatch z) h
 | flt y=>obtain ⟨t,q⟩:=(show ∃t,u=Value.float y t from rx); cases q; exact PySem.W.kia_one PySem.W.kitx_float I.kIn Jz e (λz=>nomatch z) h
 | @lst a xs ea =>
  cases (show u=Bc a from rx)
  obtain ⟨_,_,n,_,h1⟩:=(show Hk X.prog X.w H s.heap a (.lst xs) from I.hok a _ ea)
  exact PySem.W.kia_one PySem.W.kitx_list I.kIn ⟨_,h1,rfl⟩ e (λz=>nomatch z) h
 | @frz a ob xs ea =>
  cases (show u=Bc a from rx)
  obtain ⟨_,_,_,n,_,h1⟩:=(show Hk X.prog X.w H s.heap a (.frz ob (.lst xs)) from I.hok a _ ea)
  exact PySem.W.kia_one PySem.W.kitx_list I.kIn ⟨_,h1,rfl⟩ e (λz=>nomatch z) h
 | @tup a xs ea =>
  cases (show u=Bc a from rx)
  obtain ⟨_,_,_,p⟩:=(show Hk X.prog X.w H s.heap a (.tup xs) from I.hok a _ ea)
  obtain ⟨o,h1,h2,_⟩:=p
  exact PySem.W.kia_one PySem.W.kitx_tuple I.kIn ⟨o,h1,h2⟩ e (λz=>nomatch z) h
 | @dK a kvs ea =>
  cases (show u=Bc a from rx)
  obtain ⟨_,_,vs,_,p⟩:=(show Hk X.prog X.w H s.heap a (.dK kvs) from I.hok a _ ea)
  obtain ⟨o,es,ep,h1,h2,_⟩:=p
  exact PySem.W.kia_one PySem.W.kitx_dict I.kIn ⟨o,h1,h2.1⟩ e (λz=>nomatch z) h
 | @dT a kvs ea =>
  cases (show u=Bc a from rx)
  obtain ⟨_,_,xs,_,o,es,ep,h1,h2,_⟩:=(show Hk X.prog X.w H s.heap a (.dT kvs) from I.hok a _ ea)
  exact PySem.W.kia_one PySem.W.kitx_dict I.kIn ⟨o,h1,h2.1⟩ e (λz=>nomatch z) h
 | @ins a C dx fs ea cl ha hn htk hm =>
  cases (show u=Bc a from rx)
  obtain ⟨mA,O,_⟩:=C8 I.hok ea
  obtain ⟨od,J,_⟩:=O.look
  exact PySem.W.kia_one (PySem.W.kitx_own (cl.get _) cl.hd ha hn htk hm) I.kIn J e (λz=>nomatch z) h
end
structure Room(k:Nat)(A:Cn):Prop where
 hd:A.handled=none
 dp:A.depth+3 * k+5<Ye
 un:A.units+16 * k+200<cLine
 gd:A.guards=some []
theorem Room.mono(r:Room k A)(h:j<=k):Room j A:=⟨r.hd,by have:=r.dp; omega,by have:=r.un; omega,r.gd⟩
theorem Room.deeper(r:Room (k+1) A)(env:Env):Room k (A.deeper env) :=
 ⟨r.hd,by have:=r.dp; show A.depth+1+3 * k+5<_; omega,by have:=r.un; show A.units+3+16 * k+200<_; omega,r.gd⟩
theorem Room.depth(r:Room k A):A.depth<Ye:=by have:=r.dp; omega
theorem Room.units(r:Room k A):A.units+64<cLine:=by have:=r.un; omega
def BU:TA:=λ_ H Q=>Q [] H
def CN(ta:TE)(tr:TA):TA:=λσ H Q=>ta σ H λx H1=>tr σ H1 λxs H2=>Q (x::xs) H2
section
variable{X:Cx}{e:Expr}{es:List Expr}{te:TE}{t:TA}{pos:Pos}
theorem Iu:PA X [] BU:=λ_ _ _ _ H Q I h=>Lr ⟨[],H,I,.nil,h⟩
theorem Fu(ha:PE X e te)(hr:PA X es t)(hs:Bm (e::es) X.env=(false,eval e X.env)::Bm es X.env:=by rfl):PA X (e::es) (CN te t):=by
 intro pos pins s σ H Q I h
 rw[hs]
 show wpAny _ _ (spliced ((false,eval e X.env)::Gd pos (Bm es X.env))) _ _ s
 refine Ha (Fn (ha pins s σ H _ I h) λu s1 q0_ => ?_)
 obtain ⟨x,H1,I1,r1,q1⟩ := q0_
 exact Fn (hr pos pins s1 σ H1 _ I1 q1) λus s2 ⟨xs,H2,I2,r2,q2⟩=>⟨x::xs,H2,I2,.cons r1 r2,q2⟩
def FN(t:TA):TE:=λσ H Q=>t σ H λxs H1=>xs.length<=Av/\∀p,H1 p=none->Q (.ref p) (upd H1 p (.tup xs))
def FT(t:TA):TE:=λσ H Q=>t σ H λxs H1=>xs.length<=Av/\∀p,H1 p=none->Q (.ref p) (upd H1 p (.lst xs))
theorem aS(h:PA X es t):PE X (.Tuple es x1 pos) (FN t):=by
 intro pins s σ H Q I hq
 refine wpAny_Tuple_spliced (Fn (h pos pins s σ H _ I hq) λus s1 ⟨xs,H1,I1,r,z,q⟩=>⟨by rw[<- r.length]; exact z,?_⟩)
 have hf:H1 s1.heap.objs.size=none:=I1.hok.fresh (Ak _)
 refine ⟨.ref s1.heap.objs.size,upd H1 s1.heap.objs.size (.tup xs),I1.laid (t':=s1.toks) (λb u e=>Af _ e) (Ak _) ?_,rfl,q _ hf⟩
 exact ⟨z,us,r,⟨_,Bb _ rfl,rfl,_,rfl⟩⟩
theorem aC(h:PA X es t):PE X (.List es pos) (FT t):=by
 intro pins s σ H Q I hq
 refine wpAny_List_spliced (Fn (h pos pins s σ H _ I hq) λus s1 ⟨xs,H1,I1,r,z,q⟩=>⟨by rw[<- r.length]; exact z,?_⟩)
 have hf:H1 s1.heap.objs.size=none:=I1.hok.fresh (Ak _)
 refine ⟨.ref s1.heap.objs.size,upd H1 s1.heap.objs.size (.lst xs),I1.laid (t':=s1.toks) (λb u e=>Af _ e) (Ak _) ?_,rfl,q _ hf⟩
 exact ⟨z,us,0,r,Bb _ rfl⟩
end
abbrev Sp:=List V->Hp->VK->XK->Prop
abbrev tZ:=List Env->Hp->Ai->XK->Value->Ai->Prop
structure Env0(P:Bo)(w:World)(K:PySem.W.Frag)(mg:Str->Option Value)(base:Heap)(A:Cn)(outer:List Env)(s:Ai)(H:Hp):Prop where
 frames:A.frames=some outer
 mod:Mod K mg base
 bs:∀b o,base.get? b=some o->s.heap.get? b=some o/\H b=none
 bsz:base.objs.size<=s.heap.objs.size
 funs:s.heap.FunFrames base outer
 frf:∀b∈rM outer,H b=none
 hok:Vr P w H s.heap
 bare:Sr s.gens
 tab:yP K mg base H
def CE(outer:List Env)(P:Bo)(w:World)(H:Hp)(s:Ai)(Q:VK)(u:Value)(s':Ai):Prop :=
 ∃v H',s'.os=s.os/\Sr s'.gens/\Un (rM outer) [] H H' s.heap s'.heap/\Vr P w H' s'.heap/\RelV v u/\Q v H'
def CR(CX:tZ)(outer:List Env)(P:Bo)(w:World)(H:Hp)(s:Ai)(Q:VK)(E:XK)(r:Result)(s':Ai):Prop :=
 match r with
 | .ok (.ret u)=>CE outer P w H s Q u s'
 | .ok _=>False
 | .error e=>CX outer H s E e s'
structure FnOk(P:Bo)(w:World)(K:PySem.W.Frag)(mg:Str->Option Value)(base:Heap)(CX:tZ)(k:Nat)(f:Addr)(fd:Ci)(ps:List Str)(sp:Sp):Prop where
 len:∀vs H Q E,sp vs H Q E->vs.length=ps.length
 run:∀(A:Cn) (outer:List Env) (s:Ai) (H:Hp) (args:Args) (us:List Value) (vs:List V) (Q:VK) (E:XK),Room k A->Env0 P w K mg base A outer s H->BindsTo s fd args (ps.zip us)->Fd vs us->sp vs H Q E ->
  Mx (model P w) A (.call (.ref f) args) (CR CX outer P w H s Q E) s
theorem FnOk.imp{P:Bo}{w:World}{K:PySem.W.Frag}{mg:Str->Option Value}{base:Heap}(F:FnOk P w K mg base CX k f fd ps sp)(h:∀vs H Q E,sp' vs H Q E->sp vs H Q E):FnOk P w K mg base CX k f fd ps sp' :=
 ⟨λvs H Q E q=>F.len vs H Q E (h _ _ _ _ q),λA outer s H args us vs Q E hr he hb hv hs=>F.run A outer s H args us vs Q E hr he hb hv (h _ _ _ _ hs)⟩
section
variable{X:Cx}{pins:List (Addr×Obj)}{σ:St}{H:Hp}{s s':Ai}
theorem Inv.env0(I:Inv X pins σ H s):Env0 X.prog X.w X.K X.mg X.base X.A X.stack s H :=
 ⟨I.ok.frames,I.ok.mod,I.bs,Cc I.ok.bsz I.sz,I.stack,I.stkFree,I.hok,I.bare,I.ok.tab.un I.base⟩
theorem Inv.after(I:Inv X pins σ H s)(h:CE X.stack X.prog X.w H s Q u s'):EP X pins σ Q u s':=by
 obtain ⟨v,H',os,bare,un,hok,r,q⟩:=h
 obtain ⟨hh,g,d,t,os'⟩:=s'
 obtain rfl:os'=s.os:=os
 exact ⟨v,H',I.call (h':=hh) (g':=g) (d':=d) (t':=t) (ch:=[]) un hok bare (λb z=>absurd z (by simp)),r,q⟩
end
def L8(sp:Sp)(dvs:List V)(E:XK)(t:TA):TE:=λσ H Q=>t σ H λvs H1=>sp (vs++dvs) H1 Q E
def Binds(K:PySem.W.Frag)(fd:Ci)(ps:List Str)(ds:List Value):Prop :=
 ∀(s:Ai) (us:List Value),K.In s.heap->(us++ds).length=ps.length->BindsTo s fd ⟨us,[]⟩ (ps.zip (us++ds))
theorem Binds.all{K:PySem.W.Frag}(h:∀us:List Value,us.length=ps.length->bindArgs fd ⟨us,[]⟩=pure (ps.zip us)):Binds K fd ps []:=λs us _ hl=>by
 rw[Dj] at hl ⊢
 exact .of_eq (h us hl)
def Rn(CX:tZ)(X:Cx)(E:XK):Prop:=∀(pins:List (Addr×Obj)) (σ:St) (H:Hp) (s:Ai) (e:Value) (s':Ai),Inv X pins σ H s->CX X.stack H s E e s'->X.xe e s'
section
variable{X:Cx}{CX:tZ}{k:Nat}{f C:Addr}{fd:Ci}{ps:List Str}{sp:Sp}{dvs:List V}{ds:List Value}{E:XK}{x m:Str}{p pos apos:Pos}{e o:Expr}{es:List Expr}{ta:TE}{t:TA}
theorem zM{pins:List (Addr×Obj)}{σ:St}(F:FnOk X.prog X.w X.K X.mg X.base CX k f fd ps sp)(hr:Room k X.A)(hb:Binds X.K fd ps ds)(hd:Fd dvs ds)(hx:Rn CX X E)(I:Inv X pins σ H s)(r:Fd vs us)(h:sp (vs++dvs) H Q E):wpAny (model X.prog X.w) X.A (call (.ref f) us) (EP X pins σ Q) X.xe s:=by
 have r2:Fd (vs++dvs) (us++ds):=r.append hd
 have hl:(us++ds).length=ps.length:=by rw[<- r2.length]; exact F.len _ _ _ _ h
 refine wpAny_call (codeAny_mono (F.run X.A X.stack s H ⟨us,[]⟩ (us++ds) (vs++dvs) Q E hr I.env0 (hb s us I.kIn hl) r2 h) λr s' hq=>?_)
 cases r with
 | error e=>exact hx pins σ H s e s' I hq
 | ok fl =>
  cases fl with
  | ret u=>exact I.after hq
  | next=>exact Jw hq
  | brk=>exact Jw hq
  | cont=>exact Jw hq
theorem hV(F:FnOk X.prog X.w X.K X.mg X.base CX k f fd ps sp)(hr:Room k X.A)(hg:Gl X x)(hm:X.mg x=some (.ref f))(hk:PySem.W.keepIn X.K (.ref f)=true)(hb:Binds X.K fd ps ds)(hd:Fd dvs ds)(hx:Rn CX X E)(ha:PA X (e::es) t)(hdb:(x == ("__debug__" : Str))=false:=by decide)(he:Bm (e::es) X.env=(false,eval e X.env)::Bm es X.env:=by rfl)(hpl:(Gd pos (Bm es X.env)).any (·.1)=false:=by rfl):PE X (.Call (.Name x p) (e::es) [] pos) (L8 sp dvs E t):=by
 intro pins s σ H Q I h
 refine Hv (qK I hg hm ?_ hdb)
 refine PySem.W.callWith_K (h₀:=X.base) I.ok.mod.kin hk (Fn (ha pos pins s σ H _ I h) λus s1 ⟨vs,H1,I1,r,q⟩=>⟨I1.kIn,?_⟩) he hpl
 exact zM F hr hb hd hx I1 r q
theorem xE(F:FnOk X.prog X.w X.K X.mg X.base CX k f fd ps sp)(hr:Room k X.A)(hg:Gl X x)(hm:X.mg x=some (.ref f))(hk:PySem.W.keepIn X.K (.ref f)=true)(hb:Binds X.K fd ps ds)(hd:Fd dvs ds)(hx:Rn CX X E)(hdb:(x == ("__debug__" : Str))=false:=by decide):PE X (.Call (.Name x p) [] [] pos) (L8 sp dvs E BU):=by
 intro pins s σ H Q I h
 refine Hv (qK I hg hm ?_ hdb)
 exact PySem.W.callWith_K0 I.kIn hk (zM (us:=[]) F hr hb hd hx I .nil h)
end
structure FnScope(N P:List Str)(sc:Scope):Prop where
 kind:sc.kind=.function
 co:sc.isCoroutine=false
 gen:sc.isGenerator=false
 nd:N.Nodup
 pre:N.take P.length=P
 par:∀x∈P,sc.names.lookup x=some .local\/sc.names.lookup x=some .cell
 nofree:∀y∈sc.names,y.2≠.free
theorem dA{kindOf:Str->Option Pc}:∀{binds:List (Str×Value)} {m:Str->Option Value},(∀v,(x,v)∉binds)->bindL kindOf binds m x=m x
 | [],_,_=>rfl
 | (n,v)::r,m,h=>by
  unfold bindL
  rw[dA λw hw=>h w (Ae _ hw)]
  split
  ·have : x≠n:=by rintro rfl; exact h v Aa
   simp [this]
  ·rfl
theorem cQ{kindOf:Str->Option Pc}:∀{binds:List (Str×Value)} {m:Str->Option Value},(∀v,(x,v)∉binds)->bindC kindOf binds m x=m x
 | [],_,_=>rfl
 | (n,v)::r,m,h=>by
  unfold bindC
  rw[cQ λw hw=>h w (Ae _ hw)]
  split
  ·rfl
  ·have : x≠n:=by rintro rfl; exact h v Aa
   simp [this]
theorem cY{kindOf:Str->Option Pc}:∀{P:List Str} {vs:List Value} {i:Nat} {m:Str->Option Value},P.Nodup->P[i]? = some x->vs[i]? = some v->kindOf x=some .local->bindL kindOf (P.zip vs) m x=some v
 | [],_,_,_,_,h,_,_=>by simp at h
 | _::_,[],_,_,_,_,h,_=>by simp at h
 | p::P,w::vs,0,m,nd,h1,h2,hk=>by
  simp at h1 h2; subst h1; subst h2
  show bindL kindOf ((p,w)::P.zip vs) m p=_
  unfold bindL
  rw[dA λv hv=>(Bz.mp nd).1 (List.of_mem_zip hv).1,if_pos hk]
  simp
 | p::P,w::vs,i+1,m,nd,h1,h2,hk=>by
  show bindL kindOf ((p,w)::P.zip vs) m x=_
  unfold bindL
  exact cY (i:=i) (Bz.mp nd).2 (by simpa using h1) (by simpa using h2) hk
theorem dQ{kindOf:Str->Option Pc}:∀{P:List Str} {vs:List Value} {i:Nat} {m:Str->Option Value},P.Nodup->P[i]? = some x->vs[i]? = some v->kindOf x≠some .local->bindC kindOf (P.zip vs) m x=some v
 | [],_,_,_,_,h,_,_=>by simp at h
 | _::_,[],_,_,_,_,h,_=>by simp at h
 | p::P,w::vs,0,m,nd,h1,h2,hk=>by
  simp at h1 h2; subst h1; subst h2
  show bindC kindOf ((p,w)::P.zip vs) m p=_
  unfold bindC
  rw[cQ λv hv=>(Bz.mp nd).1 (List.of_mem_zip hv).1,if_neg hk]
  simp
 | p::P,w::vs,i+1,m,nd,h1,h2,hk=>by
  show bindC kindOf ((p,w)::P.zip vs) m x=_
  unfold bindC
  exact dQ (i:=i) (Bz.mp nd).2 (by simpa using h1) (by simpa using h2) hk
def start(N:List Str)(vs:List V):St:=vs.map some++Ik (N.length - vs.length) none
def Mh(CX:tZ)(P:Bo)(w:World)(K:PySem.W.Frag)(mg:Str->Option Value)(base:Heap)(N:List Str)(qual:Str)(scope:Scope)(f:Addr)(cd:Value)(A:Cn)(outer:List Env)(s:Ai)(H:Hp)(E:XK):Cx where
 prog:=P
 w:=w
 K:=K
 mg:=mg
 base:=base
 A:=A.deeper (envOfC qual scope s.heap.objs.size f cd)
 N:=N
 s₀:=s
 H₀:=H
 env:=envOfC qual scope s.heap.objs.size f cd
 outer:=outer
 stack:=envOfC qual scope s.heap.objs.size f cd::outer
 ex:=[]
 calm:=true
 fn:=λ_=>true
 pn:=[]
 xe:=λe s'=>wpAny (model P w) (A.deeper (envOfC qual scope s.heap.objs.size f cd)) (leaving (envOfC qual scope s.heap.objs.size f cd) e) (λ_ s''=>CX outer H s E e s'') (λe' s''=>CX outer H s E e' s'') s'
theorem kY{sc:Scope}(h:sc.names.lookup x=some .cell):∃c,(Eh n sc.names []).lookup x=some c:=by
 have q:=PySem.W.cellsFrom_some sc.names n [] (.inl h)
 exact Qa.mp q
theorem rT{CX:tZ}{P:Bo}{w:World}{K:PySem.W.Frag}{mg:Str->Option Value}{base:Heap}{N ps:List Str}{qual:Str}{scope:Scope}{f:Addr}{cd:Value}{A:Cn}(S:FnScope N ps scope)(hd:A.handled=none)(e0:Env0 P w K mg base A outer s H)(hl:vs.length=ps.length)(r:Fd vs us)(x:InCallC s s.heap.objs.size (bindL (envOfC qual scope s.heap.objs.size f cd).kindOf (ps.zip us) λ_=>none) (Eh (s.heap.objs.size+1) scope.names []) (bindC (envOfC qual scope s.heap.objs.size f cd).kindOf (ps.zip us) λ_=>none) s1):Inv (Mh CX P w K mg base N qual scope f cd A outer s H E) [] (start N vs) H s1:=by
 have hpl:ps.length<=N.length:=by have:=congrArg Fm S.pre; rw[Cv] at this; omega
 obtain ⟨h1,tk,rfl,hk⟩:=x.done
 have noA:∀b:Addr,b∉(Mh CX P w K mg base N qual scope f cd A outer s H E).ex:=λb z=>absurd (show b∈([]:List Addr) from z) (by simp)
 refine ⟨⟨e0.mod,S.kind,rfl,rfl,Ak _,λy z c h1 h2=>?_,λy hy=>?_,λy c _ h=>?_,λ_=>hd,Around.frames_deeper e0.frames,.inr ⟨rfl,rfl⟩,λb z=>absurd z (noA b),e0.bs,e0.bsz,λb _ _=>noA b,λb z=>absurd z (noA b),e0.funs,e0.frf,e0.tab⟩,
  rfl,e0.bare,Un.kept hk,⟨_,x.toInCall.ns,λi y v h1 h2 h3=>?_⟩,λy c h=>⟨_,x.cell y c h⟩,e0.hok.fresh (Ak _),λy c h=>?_,λp hp=>absurd (show p∈([]:List (Addr×Obj)) from hp) (by simp),e0.hok.kept hk,?_⟩
 ·exact name_of_addr x.apart (PySem.mem_of_lookup h1) (PySem.mem_of_lookup h2)
 ·have hy:scope.names.lookup y=some .cell\/scope.names.lookup y=some .free:=hy
  rcases hy with hy | hy
  ·exact kY hy
  ·exact absurd rfl (S.nofree _ (PySem.mem_of_lookup hy))
 ·exact Mc (x.above y c (PySem.mem_of_lookup h))
 ·have hi:i<vs.length:=by
   unfold start at h2
   by_cases hi:i<vs.length
   ·exact hi
   ·rw[Fj (by simpa using hi)] at h2
    rw[List.getElem?_replicate] at h2
    split at h2 <;> cases h2
  have ha:vs[i]? = some v:=by
   unfold start at h2
   rw[Ki (by simpa using hi),Az] at h2
   cases e:vs[i]? with
   | none=>rw[e] at h2; cases h2
   | some a=>rw[e] at h2; cases h2; rfl
  obtain ⟨u,hu,rv⟩:=r.get ha
  have hp:ps[i]? = some y:=by
   rw[<- S.pre,Ef (by omega)]; exact h1
  have ndP:ps.Nodup:=by rw[<- S.pre]; exact S.nd.sublist (Ly _ _)
  refine ⟨u,rv,?_⟩
  rcases S.par y (Au hp) with k | k
  ·exact .inl ⟨k,cY ndP hp hu k⟩
  ·obtain ⟨c,e⟩:=kY (n:=s.heap.objs.size+1) k
   refine .inr ⟨.inl k,c,e,?_⟩
   have q:=x.cell y c e
   rw[dQ ndP hp hu (by show scope.names.lookup y≠_; rw[k]; decide)] at q
   exact q
 ·exact e0.hok.fresh (Mc (x.above y c (PySem.mem_of_lookup h)))
 ·unfold start
  show _=N.length
  rw[Bw,Ac,List.length_replicate]
  omega
theorem L5{CX:tZ}{P:Bo}{w:World}{K:PySem.W.Frag}{mg:Str->Option Value}{base:Heap}{k:Nat}{f:Addr}{name qual:Str}{params:Um}{body:List Stmt}{dV kV doc pm cdv ct oc:Value}(lk:K.lookup f=some ⟨oc,od,.func (PySem.W.fnOf name qual params body scope dV kV doc pm an cdv ct),osl⟩)(hcd:PySem.W.codeIn K cdv qual=true)(S:FnScope N ps scope)(len:∀vs H Q E,sp vs H Q E->vs.length=ps.length)(hbody:∀(A:Cn) (outer:List Env) (s:Ai) (H:Hp) (vs:List V) (Q:VK) (E:XK),Room k (A.deeper (envOfC qual scope s.heap.objs.size f cdv))->sp vs H Q E->∃t,mZ (Mh CX P w K mg base N qual scope f cdv A outer s H E) body t/\t { nx:=λ_ H'=>Q .non H',rt:=Q } (start N vs) H):FnOk P w K mg base CX (k+1) f (PySem.W.fnOf name qual params body scope dV kV doc pm an cdv ct) ps sp:=by
 refine ⟨len,λA outer s H args us vs Q E hr e0 hb r hsp=>?_⟩
 have hl:=len _ _ _ _ hsp
 have KX:K.In s.heap:=e0.mod.kin.keeps λb o e=>(e0.bs b o e).1
 have lim:s.heap.NoLimit:=e0.mod.nolimit.keeps λb o e=>(e0.bs b o e).1
 have hkind:∀y∈ps.zip us,scope.names.lookup y.1=some .local\/(scope.names.lookup y.1=some .cell/\((Eh (s.heap.objs.size+1) scope.names []).lookup y.1).isSome=true):=λ⟨n,v⟩ hy=>by
  rcases S.par n (List.of_mem_zip hy).1 with q | q
  ·exact .inl q
  ·exact .inr ⟨q,PySem.W.cellsFrom_some _ _ _ (.inl q)⟩
 refine codeAny_call_function hr.depth (KX _ _ lk) rfl S.co S.gen rfl (PySem.W.codeRec_of KX hcd) (hb _ _ _ _ ?_)
 refine wpAny_newFunctionEnv_cells S.kind hkind λenv he s1 x=>?_
 subst he
 refine ⟨lim.keeps x.toInCall.keep,codeAny_func ?_⟩
 obtain ⟨t,ht,hq⟩:=hbody A outer s H vs Q E (hr.deeper _) hsp
 have I:Inv (Mh CX P w K mg base N qual scope f cdv A outer s H E) [] (start N vs) H s1:=rT S hr.hd e0 hl r x
 refine Eo (ht [] s1 (start N vs) H _ I hq) (λfl s' hs=>?_) λe s' hs=>hs
 have fin:∀{σ':St} {H':Hp} {v:V} {u:Value},Inv (Mh CX P w K mg base N qual scope f cdv A outer s H E) [] σ' H' s'->RelV v u->Q v H'->CE outer P w H s Q u s' :=
  λ{σ' H' v u} J rv q=>⟨v,H',J.os,J.bare,J.base,J.hok,rv,q⟩
 cases fl with
 | ret u =>
  obtain ⟨v,σ',H',J,rv,q⟩:=hs
  exact fin J rv q
 | next =>
  obtain ⟨σ',H',J,q⟩:=hs
  exact fin (v:=V.non) (u:=Ir) J rfl q
 | brk =>
  obtain ⟨_,_,_,q⟩:=hs
  exact Jw q
 | cont =>
  obtain ⟨_,_,_,q⟩:=hs
  exact Jw q
section
variable{X:Cx}{x:Str}{p pos:Pos}{e:Expr}{es:List Expr}{t:TA}{id T:String}{r:List V->Hp->VK->Prop}
def DY(r:List V->Hp->VK->Prop)(t:TA):TE:=λσ H Q=>t σ H λvs H1=>r vs H1 Q
theorem bD(hc:Mf X (.builtin id) r)(hg:Gl X x)(hm:X.mg x=none)(hv:Jk x=some (.builtin id))(ha:PA X (e::es) t)(hn:x ≠ "__name__" := by decide)(hdb:(x == ("__debug__" : Str))=false:=by decide)(he:Bm (e::es) X.env=(false,eval e X.env)::Bm es X.env:=by rfl)(hpl:(Gd pos (Bm es X.env)).any (·.1)=false:=by rfl):PE X (.Call (.Name x p) (e::es) [] pos) (DY r t):=by
 intro pins s σ H Q I h
 refine Hv (Mq I hg hm hv ?_ hn hdb)
 exact Vc (Fn (ha pos pins s σ H _ I h) λus s1 ⟨vs,H1,I1,r1,q1⟩=>hc pins s1 σ H1 vs us Q I1 r1 q1) he hpl
theorem sV(hc:Mf X (.type T) r)(hg:Gl X x)(hm:X.mg x=none)(hv:Jk x=some (.type T))(ha:PA X (e::es) t)(hn:x ≠ "__name__" := by decide)(hdb:(x == ("__debug__" : Str))=false:=by decide)(he:Bm (e::es) X.env=(false,eval e X.env)::Bm es X.env:=by rfl)(hpl:(Gd pos (Bm es X.env)).any (·.1)=false:=by rfl):PE X (.Call (.Name x p) (e::es) [] pos) (DY r t):=by
 intro pins s σ H Q I h
 refine Hv (Mq I hg hm hv ?_ hn hdb)
 exact Eb (Fn (ha pos pins s σ H _ I h) λus s1 ⟨vs,H1,I1,r1,q1⟩=>hc pins s1 σ H1 vs us Q I1 r1 q1) he hpl
end
end L2
namespace HT
open PySem PyProof.Rows
def lexLt:List Int->List Int->Bool
 | [],[]=>false
 | [],_::_=>true
 | _::_,[]=>false
 | x::xs,y::ys=>if x=y then lexLt xs ys else decide (x<y)
theorem lexLt_cons(x y:Int)(xs ys:List Int):lexLt (x::xs) (y::ys)=if x=y then lexLt xs ys else decide (x<y):=rfl
theorem lexLt_nil_nil:lexLt [] []=false:=rfl
theorem lexLt_nil_cons(y:Int)(ys:List Int):lexLt [] (y::ys)=true:=rfl
theorem lexLt_cons_nil(x:Int)(xs:List Int):lexLt (x::xs) []=false:=rfl
theorem kO(A:Cn)(s:Ai)(a:Int)(t:Tok)(c:Int)(u:Tok):∃e,Ml A s (.int a t) (.int c u) e/\(e=true↔a=c) :=
 ⟨(a == c),SeqAt.EqAt.int_int a t c u,by simp⟩
theorem wR(A:Cn)(s:Ai)(a:Int)(t:Tok)(c:Int)(u:Tok)(prog:Bo)(w:World)(E:Value->Ai->Prop)(Q:Value->Ai->Prop)(h:Q (.bool (decide (a<c))) s):wpAny (model prog w) A (richCompare .Lt (.int a t) (.int c u)) Q E s :=
 (PyProof.Rows.lt_int h:wpAny (model prog w) A (Ho .Lt (.int a t) (.int c u)) Q E s)
section
open PySem.SeqAt
open PySem.AutoSeq1 (wpAny_loadPart')
open PySem.MeetsSeq PySem.MeetsSeq2 PySem.MeetsSeq3
theorem tuple_lt_ints(l b:Addr)(items items2:Array Value)(n n2:Nat)(dd dd2:Option Addr)(sl sl2:Array (Option Value))(ns ms:List Int)(hi:Ey items.toList ns)(hj:Ey items2.toList ms):Meets (Builtin.«tuple.__lt__» ⟨[.ref l,.ref b],[]⟩) (λ_ R s=>s.heap.get? l=some { cls:=.type "tuple",dict:=dd,data:=.seq items n,slots:=sl }/\s.heap.get? b=some { cls:=.type "tuple",dict:=dd2,data:=.seq items2 n2,slots:=sl2 }/\R (.ok (.ret (.bool (lexLt ns ms)))) s) :=
 .of_wp λprog w A R s h=>by
  obtain ⟨hp,g,d,tk,os⟩:=s; obtain ⟨hl,hb,h⟩:=h
  have f2:=cK
  have z1:items.size=ns.length:=by rw[<- hi.length]; simp
  have z2:items2.size=ms.length:=by rw[<- hj.length]; simp
  wp_walk using Jt hl,Jt hb,wpAny_forIn_list _ (λFz b s'=>b.1=none/\s'=⟨hp,g,d,tk,os⟩/\∃(vs ws:List Value) (ns' ms':List Int),Fz=vs.zip ws /\
   Ey vs ns'/\Ey ws ms'/\ns'.length+items2.size=ms'.length+items.size/\R (.ok (.ret (.bool (lexLt ns' ms')))) ⟨hp,g,d,tk,os⟩) _
  case turn =>
   (rintro ⟨y,x⟩ Fz b s' q_; obtain ⟨hb',rfl,vs,ws,ns',ms',hz,hvi,hwi,hlen,hR⟩ := q_)
   cases hvi with
   | nil=>rw[List.zip_nil_left] at hz; cases hz
   | cons a t hvi' =>
    cases hwi with
    | nil=>rw[List.zip_nil_right] at hz; cases hz
    | cons c u hwi' =>
     rw[Lb] at hz
     injection hz with hyx hrest
     injection hyx with hy hx
     subst hy hx
     rw[lexLt_cons] at hR
     simp only[Bp] at hlen
     obtain ⟨e,he,hiff⟩:=kO A.in1 ⟨hp,g,d,tk,os⟩ a t c u
     refine Ab (he prog w _ _ ?_)
     cases e with
     | true =>
      rw[if_pos (hiff.mp rfl)] at hR
      wp_walk
      exact ⟨rfl,rfl,_,_,_,_,hrest,hvi',hwi',by omega,hR⟩
     | false =>
      rw[if_neg (λq=>absurd (hiff.mpr q) Bq)] at hR
      have hri:=wR A.in1 ⟨hp,g,d,tk,os⟩ a t c u prog w
      wp_walk using hri
      exact ⟨_,rfl,by simpa using hR⟩
  case fin =>
   (rintro ⟨b1,b2⟩ s' q_; obtain ⟨hb',rfl,vs,ws,ns',ms',hz,hvi,hwi,hlen,hR⟩ := q_)
   simp only at hb'
   subst hb'
   have hv:lexLt ns' ms'=decide (items.size<items2.size):=by
    cases hvi with
    | nil =>
     cases hwi with
     | nil =>
      simp only[Gr] at hlen
      rw[lexLt_nil_nil]
      exact (decide_eq_false (by omega)).symm
     | cons c u hw =>
      simp only[Gr,Bp] at hlen
      rw[lexLt_nil_cons]
      exact (decide_eq_true (by omega)).symm
    | cons a t hv =>
     cases hwi with
     | nil =>
      simp only[Gr,Bp] at hlen
      rw[lexLt_cons_nil]
      exact (decide_eq_false (by omega)).symm
     | cons c u hw =>
      rw[Lb] at hz
      cases hz
   rw[hv] at hR
   wp_walk
   exact ⟨_,rfl,by simpa [Ud] using hR⟩
  case h =>
   exact ⟨rfl,rfl,items.toList,items2.toList,ns,ms,rfl,hi,hj,by omega,h⟩
end
section
variable{prog:Bo}{w:World}{A:Cn}{E:Value->Ai->Prop}{s:Ai}
theorem cat_tup(ht:IsTup s.heap t vs.toArray)(hb:IsTup s.heap b ws.toArray)(hv:vs≠[])(h1:ws=[]->Q (.ref t) s)(h2:ws≠[]->Q (.ref s.heap.objs.size) { s with heap:=s.heap.push { cls:=.type "tuple",data:=.seq (vs++ws).toArray } })(hsz:vs.length+ws.length<=Av):wpAny (model prog w) A (Jv .Add (.ref t) (.ref b)) Q E s:=by
 obtain ⟨⟨cls,dd,data,sl⟩,ho,hc,n,hd⟩:=id ht
 obtain ⟨⟨cls2,dd2,data2,sl2⟩,ho2,hc2,n2,hd2⟩:=id hb
 simp only at hc hd hc2 hd2
 subst hc hd hc2 hd2
 have e:vs.toArray++ws.toArray=(vs++ws).toArray:=by simp
 by_cases hw:ws=[]
 ·exact concat_meets ⟨_,ho,rfl⟩ ⟨_,ho2,rfl⟩ iG seq_tuple_add PySem.F.slot_tuple_add PySem.F.entry_tuple_add (PySem.F.args_tuple_add_2 _ _)
   (tuple_addW1 t b vs.toArray ws.toArray n n2 dd dd2 sl sl2 (by simpa using hv) (by simp [hw])) ⟨ho,ho2,h1 hw⟩
 ·refine concat_meets ⟨_,ho,rfl⟩ ⟨_,ho2,rfl⟩ iG seq_tuple_add PySem.F.slot_tuple_add PySem.F.entry_tuple_add (PySem.F.args_tuple_add_2 _ _)
   (tuple_addW2 t b vs.toArray ws.toArray n n2 dd dd2 sl sl2 (by simpa using hv) (by simpa using hw) (by rw[Aq,Aq]; exact hsz)) ⟨ho,ho2,?_⟩
  rw[e]
  exact h2 hw
def sIx(n d:Nat):Option Int->Nat
 | none=>d
 | some v=>if v<0 then (v+(n:Int)).toNat else min v.toNat n
theorem sIx_none(n d:Nat):sIx n d none=d:=rfl
theorem sIx_nat(n d k:Nat):sIx n d (some (k:Int))=min k n:=by
 show (if (k:Int)<0 then ((k:Int)+(n:Int)).toNat else min (k:Int).toNat n)=min k n
 rw[if_neg (by omega),Et]
end
end HT
namespace L2
open PySem PySem.Spec PyProof.Rows
abbrev TO:=St->Hp->(Option Int->Hp->Prop)->Prop
def PO(X:Cx)(e:Option Expr)(t:TO):Prop :=
 ∀(pins:List (Addr×Obj)) (s:Ai) (σ:St) (H:Hp) (Q:Option Int->Hp->Prop),Inv X pins σ H s->t σ H Q ->
  wpAny (model X.prog X.w) X.A (evalPart e X.env) (λu s'=>∃o H',Inv X pins σ H' s'/\IsPart u o/\Q o H') X.xe s
def B4:TO:=λ_ H Q=>Q none H
def BZ(t:TE):TO:=λσ H Q=>t σ H λx H1=>∃i,x=.int i/\Q (some i) H1
theorem intsAre_of:∀{us:List Value},Fd (ns.map V.int) us->Ey us ns:=by
 induction ns with
 | nil=>intro us r; rw[Kf] at r; cases r; exact .nil
 | cons n ns ih =>
  intro us r
  rw[Ar] at r
  cases r with
  | cons r1 r2 =>
   obtain ⟨t,e⟩:=r1
   subst e
   exact .cons n t (ih r2)
section
variable{X:Cx}{e:Expr}{te:TE}{lo hi:Option Expr}{tl th:TO}{pos p2:Pos}
theorem A6:PO X none B4:=by
 intro pins s σ H Q I h
 rw[evalPart_none]
 exact Ao ⟨none,H,I,.none,h⟩
theorem B2(h:PE X e te):PO X (some e) (BZ te):=by
 intro pins s σ H Q I hw
 rw[evalPart_some]
 refine Fn (h pins s σ H _ I hw) λu s1 q0_ => ?_
 obtain ⟨x,H1,I1,r1,q1⟩ := q0_
 obtain ⟨i,rfl,q⟩:=q1
 obtain ⟨t,rfl⟩:=r1
 exact ⟨some i,H1,I1,.int i t,q⟩
def GI(X:Cx)(r:V->Option Int->Option Int->Hp->VK->Prop):Prop :=
 ∀(pins:List (Addr×Obj)) (s:Ai) (σ:St) (H:Hp) (x:V) (v vl vu:Value) (lo hi:Option Int) (sl:Addr) (Q:VK),Inv X pins σ H s->RelV x v->s.heap.IsSliceOf sl vl vu .none->IsPart vl lo->IsPart vu hi->r x lo hi H Q ->
  ∃T id,typeLookup (.type T) "__getitem__" = pure (some (.builtin id))/\s.TypeIs v T/\wpAny (model X.prog X.w) X.A (getItem v (.ref sl)) (EP X pins σ Q) X.xe s
def GZ(r:V->Option Int->Option Int->Hp->VK->Prop)(te:TE)(tl th:TO):TE:=λσ H Q=>te σ H λx H1=>tl σ H1 λl H2=>th σ H2 λu H3=>r x l u H3 Q
theorem uR(hr:GI X r)(he:PE X e te)(hl:PO X lo tl)(hu:PO X hi th):PE X (.Subscript e (.Slice lo hi none p2) pos) (GZ r te tl th):=by
 intro pins s σ H Q I h
 refine Vl (Fn (he pins s σ H _ I h) λv s1 q0_ => ?_)
 obtain ⟨x,H1,I1,r1,q1⟩ := q0_
 refine wpAny_Slice (Fn (hl pins s1 σ H1 _ I1 q1) λvl s2 ⟨l,H2,I2,pl,q2⟩=>Fn (hu pins s2 σ H2 _ I2 q2) λvu s3 q0_ => ?_)
 obtain ⟨u,H3,I3,pu,q3⟩ := q0_
 rw[evalPart_none]
 refine Ao ?_
 have I4:Inv X pins σ H3 { s3 with heap:=s3.heap.push { cls:=.type "slice",data:=.fields #[vl,vu,.none] } }:=I3.kept (t':=s3.toks) λb ob q=>Af _ q
 obtain ⟨T,id,hT,ht,hg⟩:=hr pins { s3 with heap:=s3.heap.push { cls:=.type "slice",data:=.fields #[vl,vu,.none] } } σ H3 x v vl vu l u s3.heap.objs.size Q I4 r1 (Heap.IsSliceOf.new ..) pl pu q3
 show wpAny (model X.prog X.w) X.A (bL e (.Slice lo hi none p2) v (.ref s3.heap.objs.size)) (EP X pins σ Q) X.xe { s3 with heap:=s3.heap.push { cls:=.type "slice",data:=.fields #[vl,vu,.none] } }
 exact tail_any (ops:=[.ref s3.heap.objs.size,v]) ht hT hg (by with_unfolding_all rfl)
def yS(xs:List V)(lo hi:Option Int):List V:=(xs.drop (HT.sIx xs.length 0 lo)).take (HT.sIx xs.length xs.length hi - HT.sIx xs.length 0 lo)
theorem iZ(xs:List V)(lo hi:Option Int):(yS xs lo hi).length<=xs.length:=by
 unfold yS
 rw[Cv,List.length_drop]
 omega
def BS(K:PySem.W.Frag):R2:=λx y H Q=>∃a b xs ys,x=.ref a/\y=.ref b/\Vh K H a xs/\Vh K H b ys/\xs≠[]/\xs.length+ys.length<=Av /\
 (ys=[]->Q (.ref a) H)/\(ys≠[]->∀p,H p=none->Q (.ref p) (upd H p (.tup (xs++ys))))
theorem Fd.nil_iff(r:Fd xs us):us=[]↔xs=[]:=by
 cases r with
 | nil=>simp
 | cons _ _=>simp
theorem x5:Xo X (Jv .Add) (BS X.K):=by
 intro pins s σ H x y v u Q I rx ry h
 obtain ⟨a,b,xs,ys,rfl,rfl,ha,hb,hx,hz,q1,q2⟩:=h
 cases rx
 cases ry
 obtain ⟨its,r1,p1,_⟩:=I.tuple ha
 obtain ⟨its2,r2,p2,_⟩:=I.tuple hb
 refine HT.cat_tup p1 p2 (λz=>hx (r1.nil_iff.mp z)) (λz=>⟨.ref a,H,I,rfl,q1 (r2.nil_iff.mp z)⟩) (λz=>?_) (by rw[<- r1.length,<- r2.length]; exact hz)
 refine ⟨.ref s.heap.objs.size,_,I.laid (t':=s.toks) (o:=.tup (xs++ys)) (λb ob q=>Af _ q) (Ak _) ?_,rfl,q2 (λw=>z (r2.nil_iff.mpr w)) _ (I.hok.fresh (Ak _))⟩
 exact ⟨by rw[Bw]; exact hz,_,r1.append r2,IsTup.new _ _⟩
end
def F4(n:Nat)(i:Int):Option Nat:=if 0<=i then (if i<n then some i.toNat else none) else if -(n:Int)<=i then some (i+n).toNat else none
def Uv{α:Type}(xs:List α)(i:Int):Option α:=(F4 xs.length i).bind λj=>xs[j]?
theorem rE(h:F4 n i=some j):seqIndex? i n=some j/\j<n /\ -(n:Int)<=i/\i<n:=by
 unfold F4 at h
 by_cases h0:0<=i
 ·rw[if_pos h0] at h
  by_cases h1:i<n
  ·rw[if_pos h1] at h
   have e:i.toNat=j:=Bl h
   exact ⟨by rw[seqIndex_of h0 h1,e],by omega,by omega,h1⟩
  ·rw[if_neg h1] at h; cases h
 ·rw[if_neg h0] at h
  by_cases h1:-(n:Int)<=i
  ·rw[if_pos h1] at h
   have e:(i+n).toNat=j:=Bl h
   exact ⟨by rw[seqIndex_neg (by omega) h1,e],by omega,h1,by omega⟩
  ·rw[if_neg h1] at h; cases h
theorem fE(h:Uv xs i=some v):∃j,seqIndex? i xs.length=some j/\xs[j]? = some v/\j<xs.length /\ -(xs.length:Int)<=i/\i<xs.length:=by
 unfold Uv at h
 cases e:F4 xs.length i with
 | none=>rw[e] at h; cases h
 | some j =>
  rw[e] at h
  obtain ⟨h1,h2,h3,h4⟩:=rE e
  exact ⟨j,h1,h,h2,h3,h4⟩
theorem qX{xs:List α}{j:Nat}{v:α}(h:xs[j]? = some v):Uv xs (j:Int)=some v:=by
 have hj:j<xs.length:=(Ah.mp h).1
 have e:F4 xs.length (j:Int)=some j:=by
  unfold F4
  rw[if_pos (by omega),if_pos (by omega)]; simp
 unfold Uv; rw[e]; exact h
def fA(b:Expr):Prop:=∀o i,subscripted b false o i=operate [o,i] (getItem o i)
def G7(X:Cx)(r:R2):Prop :=
 ∀(value slice:Expr) (pins:List (Addr×Obj)) (s:Ai) (σ:St) (H:Hp) (x y:V) (v u:Value) (Q:VK),Inv X pins σ H s->RelV x v->RelV y u->r x y H Q ->
  subscripted slice false v u=operate [v,u] (getItem v u)->wpAny (model X.prog X.w) X.A (bL value slice v u) (EP X pins σ Q) X.xe s
def GF(X:Cx)(id:String)(r:V->List V->Hp->VK->Prop):Prop :=
 ∀(pins:List (Addr×Obj)) (s:Ai) (σ:St) (H:Hp) (x:V) (xs:List V) (v:Value) (us:List Value) (Q:VK),Inv X pins σ H s->RelV x v->Fd xs us->r x xs H Q ->
  wpAny (model X.prog X.w) X.A (call (.builtin id) (v::us)) (EP X pins σ Q) X.xe s
section
variable{X:Cx}{a b:Expr}{ta tb:TE}{pos:Pos}
theorem G7.or(h:G7 X r)(h':G7 X r'):G7 X (λx y H Q=>r x y H Q\/r' x y H Q):=by
 intro value slice pins s σ H x y v u Q I rx ry q hs
 rcases q with q | q
 ·exact h value slice pins s σ H x y v u Q I rx ry q hs
 ·exact h' value slice pins s σ H x y v u Q I rx ry q hs
theorem Ow(hr:G7 X r)(ha:PE X a ta)(hb:PE X b tb)(hs:fA b):PE X (.Subscript a b pos) (BP r ta tb):=by
 intro pins s σ H Q I h
 exact Vl (W1 ha hb I h λv u s2 x y H2 I2 rx ry q=>hr a b pins s2 σ H2 x y v u Q I2 rx ry q (hs _ _))
def DK(K:PySem.W.Frag):R2:=λx y H Q=>∃p xs i v,x=.ref p/\y=.int i/\Kb K H p xs/\Uv xs i=some v/\Q v H
def AW(K:PySem.W.Frag):R2:=λx y H Q=>∃p xs i v,x=.ref p/\y=.int i/\Vh K H p xs/\Uv xs i=some v/\Q v H
def AO:R2:=λx y H Q=>∃z i c,x=.str z/\y=.int i/\z.length<=Av/\Uv z.cps.toList i=some c/\Q (.str ⟨#[c]⟩) H
theorem Kg:G7 X (DK X.K):=by
 intro value slice pins s σ H x y v u Q I rx ry h hs
 obtain ⟨p,xs,i,z,rfl,rfl,hq,he,q⟩:=h
 cases rx
 obtain ⟨t,rfl⟩:=ry
 obtain ⟨its,r,pl,hz⟩:=I.list hq
 obtain ⟨j,h1,h2,h3,h4,h5⟩:=fE he
 obtain ⟨w,ew,rw'⟩:=r.get h2
 have hl:=r.length
 have hn:=Up
 have fin:EP X pins σ Q w s:=⟨z,H,I,rw',q⟩
 by_cases h0:0<=i
 ·have hj:i.toNat=j:=by
   rw[seqIndex_of h0 h5] at h1
   exact Bl h1
  exact item_listR pl.isList h0 (by omega) (by rw[hj]; simpa using ew) fin hs
 ·have hj:(i+(its.toArray.size:Int)).toNat=j:=by
   rw[seqIndex_neg (by omega) h4] at h1
   rw[Aq,<- hl]
   exact Bl h1
  exact j6 (x:=w) pl.isList.typeIs eO.lookup
   (wpAny_getItem_list_neg (Q:=λr s'=>r=w/\EP X pins σ Q r s') pl.isList (by omega) (by rw[Aq] <;> omega) (by omega) (by rw[hj]; simpa using ew) ⟨rfl,fin⟩) hs
theorem Y5:G7 X (AW X.K):=by
 intro value slice pins s σ H x y v u Q I rx ry h hs
 obtain ⟨p,xs,i,z,rfl,rfl,hq,he,q⟩:=h
 cases rx
 obtain ⟨t,rfl⟩:=ry
 obtain ⟨its,r,pl,hz⟩:=I.tuple hq
 obtain ⟨j,h1,h2,h3,h4,h5⟩:=fE he
 obtain ⟨w,ew,rw'⟩:=r.get h2
 have hl:=r.length
 have hn:=Up
 have fin:EP X pins σ Q w s:=⟨z,H,I,rw',q⟩
 exact j6 (x:=w) pl.typeIs slot_tuple_getitem.lookup
  (getItem_tuple (j:=j) (Q:=λr s'=>r=w/\EP X pins σ Q r s') pl (by omega) (by omega) (by rw[Aq,<- hl]; exact h1) (by simpa using ew) ⟨rfl,fin⟩) hs
theorem X5:G7 X AO:=by
 intro value slice pins s σ H x y v u Q I rx ry h hs
 obtain ⟨z,i,c,rfl,rfl,hz,he,q⟩:=h
 obtain ⟨t,rfl⟩:=rx
 obtain ⟨t',rfl⟩:=ry
 obtain ⟨j,h1,h2,h3,h4,h5⟩:=fE he
 have hl:z.cps.toList.length=z.length:=by simp [Str.length]
 rw[hl] at h1 h4 h5
 have hn:=Up
 exact tail_any (typeIs_str s z t) slot_str_getitem.lookup (getItem_str (c:=c) (by
  have e1:decide (i < -(2 ^ 63:Int))=false:=decide_eq_false (by omega)
  have e2:decide (i ≥ 2 ^ 63)=false:=decide_eq_false (by omega)
  rw[e1,e2,Bool.or_false]) (by rw[h1]; simpa using h2) ⟨.str ⟨#[c]⟩,H,I.tok _,⟨_,rfl⟩,q⟩) hs
def GM(K:PySem.W.Frag):R2:=λx y H Q=>DK K x y H Q\/AW K x y H Q\/AO x y H Q
theorem Y1:G7 X (GM X.K):=Kg.or (Y5.or X5)
theorem pA(its:List Value)(n j:Nat)(u:Value):Cg (·.setIfInBounds j u) { cls:=.type "list",data:=.seq its.toArray n }={ cls:=.type "list",data:=.seq (its.set j u).toArray n }:=by
 simp [Cg]
theorem Inv.lst{pins:List (Addr×Obj)}{σ:St}{H:Hp}{s:Ai}{p:Addr}{xs:List V}(I:Inv X pins σ H s)(h:H p=some (.lst xs)):∃(its:List Value) (n:Nat),Fd xs its/\s.heap.get? p=some { cls:=.type "list",data:=.seq its.toArray n }/\xs.length<=Av:=by
 obtain ⟨z,its,n,r,e⟩:=I.hok p _ h
 exact ⟨its,n,r,e,z⟩
theorem Inv.lstUpd{pins:List (Addr×Obj)}{σ:St}{H:Hp}{its its':List Value}(I:Inv X pins σ H s)(h:H p=some (.lst xs))(ho:s.heap.get? p=some { cls:=.type "list",data:=.seq its.toArray n })(hf:f { cls:=.type "list",data:=.seq its.toArray n }={ cls:=.type "list",data:=.seq its'.toArray n' })(r:Fd ys its')(hz:ys.length<=Av)(t:Nat):Inv X pins σ (upd H p (.lst ys)) { s with heap:=s.heap.update p f,toks:=t }:=by
 have e:(s.heap.update p f).get? p=some { cls:=.type "list",data:=.seq its'.toArray n' }:=by
  rw[Ji f ho (by rw[hf] <;> rfl),hf]
 refine I.write (x:=p) (e:=p) (by rw[h]; trivial) (.inl rfl) (λb u hb q=>(pE _ _ (Pj hb)).trans q) ⟨_,e⟩ ?_
 exact ⟨hz,its',n',r,e⟩
def CS:V->V->V->Hp->(Hp->Prop)->Prop:=λo i v H Q=>∃p xs k j,o=.ref p/\i=.int k/\H p=some (.lst xs)/\F4 xs.length k=some j/\Q (upd H p (.lst (xs.set j v)))
theorem Vx:AK X CS:=by
 intro pins s σ H o i v ov iv u Q I ro ri rv h
 obtain ⟨p,xs,k,j,rfl,rfl,hp,hj,q⟩:=h
 cases ro
 obtain ⟨t,rfl⟩:=ri
 obtain ⟨its,n,r,ho,hz⟩:=I.lst hp
 obtain ⟨h1,h2,h3,h4⟩:=rE hj
 have hl:=r.length
 have hn:=Up
 have I':Inv X pins σ (upd H p (.lst (xs.set j v))) { s with heap:=s.heap.update p (Cg (·.setIfInBounds j u)) } :=
  I.lstUpd hp ho (pA its n j u) (r.set rv j) (by rw[List.length_set]; exact hz) s.toks
 by_cases h0:0<=k
 ·have hk:k.toNat=j:=by
   rw[seqIndex_of h0 h4] at h1
   exact Bl h1
  exact PySem.W.ki_setAt ho h0 (by omega) (by rw[Aq,<- hl]; exact h4) (by rw[hk]; exact ⟨_,I',q⟩)
 ·have hk:(k+(its.toArray.size:Int)).toNat=j:=by
   rw[seqIndex_neg (by omega) h3] at h1
   rw[Aq,<- hl]
   exact Bl h1
  exact PySem.W.ki_setBack ho (by omega) (by rw[Aq,<- hl]; exact h3) (by omega) (by rw[hk]; exact ⟨_,I',q⟩)
theorem gX(lo hi:Option Int)(n:Nat):(Jh lo hi none n).1=((HT.sIx n 0 lo:Nat):Int)/\(Jh lo hi none n).2.1=((HT.sIx n n hi:Nat):Int)/\(Jh lo hi none n).2.2=1:=by
 refine ⟨?_,?_,rfl⟩
 ·cases lo with
  | none=>simp [Jh,HT.sIx]
  | some i =>
   simp only[Jh,HT.sIx,Option.getD_none,show (1:Int) > 0 by decide,if_true]
   by_cases h:i<0
   ·simp only[h,if_true] <;> omega
   ·simp only[h,if_false] <;> omega
 ·cases hi with
  | none=>simp [Jh,HT.sIx]
  | some i =>
   simp only[Jh,HT.sIx,Option.getD_none,show (1:Int) > 0 by decide,if_true]
   by_cases h:i<0
   ·simp only[h,if_true] <;> omega
   ·simp only[h,if_false] <;> omega
theorem cC(its:List Value)(lo hi:Option Int):slicePick its.toArray lo hi none=((its.drop (HT.sIx its.length 0 lo)).take (HT.sIx its.length its.length hi - HT.sIx its.length 0 lo)).toArray:=by
 obtain ⟨h1,h2,h3⟩:=gX lo hi its.toArray.size
 unfold slicePick
 rw[h1,h2,h3]
 simp only[sliceRange_one,pick_run,Aq] <;> rfl
def Z8(K:PySem.W.Frag):V->Option Int->Option Int->Hp->VK->Prop:=λx lo hi H Q=>∃a xs,x=.ref a/\Kb K H a xs/\∀p,H p=none->Q (.ref p) (upd H p (.lst (yS xs lo hi)))
theorem o6:GI X (Z8 X.K):=by
 intro pins s σ H x v vl vu lo hi sl Q I rx hs pl pu h
 obtain ⟨a,xs,rfl,hx,q⟩:=h
 cases rx
 obtain ⟨its,r,ht,hz⟩:=I.list hx
 have hlen:=r.length
 refine ⟨"list",_,eO.lookup,ht.isList.typeIs,?_⟩
 refine uA ht.isList hs pl pu .none (by simp) ?_ (by rw[Aq] <;> omega)
 rw[cC,<- hlen]
 refine ⟨.ref s.heap.objs.size,_,I.laid (t':=s.toks) (o:=.lst (yS xs lo hi)) (λb ob q=>Af _ q) (Ak _) ?_,rfl,q _ (I.hok.fresh (Ak _))⟩
 exact ⟨Cc (iZ xs lo hi) hz,_,0,(r.drop (HT.sIx xs.length 0 lo)).take (HT.sIx xs.length xs.length hi - HT.sIx xs.length 0 lo),Bb _ rfl⟩
theorem fF:Mf X (.type "list") (λxs H Q=>∃p ys,xs=[.ref p]/\(Kb X.K H p ys\/Vh X.K H p ys)/\∀l,H l=none->Q (.ref l) (upd H l (.lst ys))):=by
 intro pins s σ H xs us Q I r h
 obtain ⟨p,ys,rfl,hq,q⟩:=h
 obtain ⟨u,rfl,rx⟩:=vals1 r
 cases rx
 have fin:∀(its:List Value),Fd ys its->ys.length<=Av->∀(h':Heap) (c':Nat),(∀b o',s.heap.get? b=some o'->h'.get? b=some o') ->
   h'.get? s.heap.objs.size=some { cls:=.type "list",dict:=none,data:=.seq its.toArray c',slots:=#[] }->EP X pins σ Q (.ref s.heap.objs.size) { s with heap:=h' }:=λits r' hz h' c' kp e =>
  ⟨.ref s.heap.objs.size,_,I.laid (t':=s.toks) kp (Ak _) (show Hk X.prog X.w _ h' _ (.lst ys) from ⟨hz,its,c',r',e⟩),rfl,q _ (I.hok.fresh (Ak _))⟩
 rcases hq with hq | hq
 ·obtain ⟨its,r',pl,hz⟩:=I.list hq
  have hlen:=r'.length
  obtain ⟨o,ho,hc,n,hd⟩:=pl.isList
  exact call_list_seq p (.inl rfl) ho hc hd (λh' c' kp e=>fin its r' hz h' c' kp e) (by simp only[Aq] <;> omega)
 ·obtain ⟨its,r',pl,hz⟩:=I.tuple hq
  have hlen:=r'.length
  obtain ⟨o,ho,hc,n,hd⟩:=pl
  exact call_list_seq p (.inr rfl) ho hc hd (λh' c' kp e=>fin its r' hz h' c' kp e) (by simp only[Aq] <;> omega)
def GL(K:PySem.W.Frag)(T:String)(x:V)(H:Hp):Prop:=match x with
 | .str _=>T = "str"
 | .int _=>T = "int"
 | .ref p=>(T = "list" /\ ∃xs,Kb K H p xs)\/(T = "tuple" /\ ∃o,K.lookup p=some o/\o.cls=.type "tuple" /\ o.dict=none) \/
   (T = "dict" /\ ((∃kvs,H p=some (.dK kvs))\/∃kvs,H p=some (.dT kvs)))\/(T = "set" /\ ∃S n,H p=some (.set S n))
 | _=>False
theorem Y3{pins:List (Addr×Obj)}{σ:St}(I:Inv X pins σ H s)(r:RelV x v)(ty:GL X.K T x H):s.TypeIs v T/\∀a,v=.ref a->∃ob,s.heap.get? a=some ob/\ob.dict=none:=by
 cases x with
 | str z =>
  obtain ⟨t,rfl⟩:=r
  cases (show T = "str" from ty)
  exact ⟨typeIs_str s z t,λ_ e=>nomatch e⟩
 | int i =>
  obtain ⟨t,rfl⟩:=r
  cases (show T = "int" from ty)
  exact ⟨typeIs_int s i t,λ_ e=>nomatch e⟩
 | ref p =>
  cases r
  rcases ty with ⟨rfl,xs,hq⟩ | ⟨rfl,o,hk,hc,hd⟩ | ⟨rfl,hk⟩ | ⟨rfl,S,n,hk⟩
  ·obtain ⟨its,_,pl,_⟩:=I.list hq
   refine ⟨pl.isList.typeIs,λa e=>?_⟩
   cases e
   obtain ⟨o,n,e,c,hd,_⟩:=pl
   exact ⟨o,e,hd⟩
  ·refine ⟨⟨o,I.kIn p o hk,hc⟩,λa e=>?_⟩
   cases e
   exact ⟨o,I.kIn _ o hk,hd⟩
  ·have z:∃o,s.heap.get? p=some o/\o.ExactDict:=by
    rcases hk with ⟨kvs,hk⟩ | ⟨kvs,hk⟩
    ·obtain ⟨_,_,_,_,o,_,_,e,ex,_⟩:=I.hok p _ hk
     exact ⟨o,e,ex⟩
    ·obtain ⟨_,_,_,_,o,_,_,e,ex,_⟩:=I.hok p _ hk
     exact ⟨o,e,ex⟩
   obtain ⟨o,e,ex⟩:=z
   refine ⟨⟨o,e,ex.1⟩,λa e2=>?_⟩
   cases e2
   exact ⟨o,e,ex.2.1⟩
  ·obtain ⟨o,_,_,_,e,ex,_⟩:=I.hok p _ hk
   refine ⟨⟨o,e,ex.1⟩,λa e2=>?_⟩
   cases e2
   exact ⟨o,e,ex.2.1⟩
 | _=>exact Jw ty
def GR(K:PySem.W.Frag)(T:String)(r:V->List V->Hp->VK->Prop)(to:TE)(t:TA):TE:=λσ H Q=>to σ H λx H1=>GL K T x H1/\t σ H1 λxs H2=>r x xs H2 Q
variable{o e:Expr}{es:List Expr}{to:TE}{t:TA}{name:Str}{apos cpos:Pos}{T id:String}{r:V->List V->Hp->VK->Prop}
theorem rG(pa:PlainAttrs T)(slot:Slot T name id)(hty:typeOf (.builtin id)=pure (.type "method_descriptor"))(hm:GF X id r)(ho:PE X o to)(ha:PA X (e::es) t)
  (hbase:Lp o name X.env (eval o X.env)=eval o X.env:=by rfl)
  (hfew:((Gd cpos (Bm (e::es) X.env)).all (λx=>!x.1) && (Yh cpos (Oz [] X.env)).all (λx=>x.1.isSome)
   && decide ((e::es).length+([]:List Ma).length+(if ([]:List Ma).isEmpty then 0 else 1)<30))=true:=by rfl)
  (hline:(apos.endLine == cpos.line)=true:=by rfl) (hs:Bm (e::es) X.env=(false,eval e X.env)::Bm es X.env:=by rfl) (hplain:(Gd cpos (Bm es X.env)).any (·.1)=false:=by rfl) :
  PE X (.Call (.Attribute o name apos) (e::es) [] cpos) (GR X.K T r to t):=by
 intro pins s σ H Q I h
 refine wpAny_Call_method_late hbase hfew hline rfl (Fn (ho pins s σ H _ I h) λv s1 q0_ => ?_)
 obtain ⟨x,H1,I1,r1,ty,q1⟩ := q0_
 obtain ⟨h1,h2⟩:=Y3 I1 r1 ty
 refine ⟨T,id,pa,slot,hty,h1,h2,?_⟩
 have hA:=ha cpos pins s1 σ H1 _ I1 q1
 rw[hs] at hA ⊢
 refine lK (by show (false || (Gd cpos (Bm es X.env)).any (·.1))=false; rw[hplain] <;> rfl) (Calls.evalArgs_plain ?_)
 exact Fn hA λus s2 ⟨vs,H2,I2,r2,q2⟩=>hm pins s2 σ H2 x vs v us Q I2 r1 r2 q2
end
def FV(X:Cx)(id:String)(r:V->List V->Hp->VK->Prop):Prop :=
 ∀(pins:List (Addr×Obj)) (s:Ai) (σ:St) (H:Hp) (x:V) (xs:List V) (v:Value) (us:List Value) (Q:VK),Inv X pins σ H s->RelV x v->Fd xs us->r x xs H Q ->
  wpAny (model X.prog X.w) X.A (call (.builtin id) (v::us)) (EP X pins σ Q) X.xe s
theorem Fd.one:∀{x:V} {us:List Value},Fd [x] us->∃u,us=[u]/\RelV x u
 | _,_,.cons r .nil=>⟨_,rfl,r⟩
theorem Fd.reverse(h:Fd xs us):Fd xs.reverse us.reverse:=by
 induction h with
 | nil=>exact .nil
 | cons r t ih=>rw[Qc,Qc]; exact Fd.append ih (.cons r .nil)
section
variable{X:Cx}{pins:List (Addr×Obj)}{σ:St}{H:Hp}{s:Ai}{l b:Addr}{xs ys zs:List V}
theorem Inv.lset{its its':List Value}(I:Inv X pins σ H s)(hH:H l=some (.lst xs))(e:s.heap.get? l=some { cls:=.type "list",data:=.seq its.toArray n })(hf:f its.toArray=its'.toArray)(hv:Fd ys its')(hz:ys.length<=Av):Inv X pins σ (upd H l (.lst ys)) { s with heap:=s.heap.update l (Cg f),toks:=t' }:=by
 have q:=PySem.IsL.update e f
 rw[hf] at q
 refine I.write (x:=l) (e:=l) (by rw[hH]; exact trivial) (.inl rfl) (λb' u hb hu=>(pE s.heap (Cg f) (Pj hb)).trans hu) ⟨_,q⟩ ?_
 exact ⟨hz,its',_,hv,q⟩
theorem Inv.lnew(I:Inv X pins σ H s)(hv:Fd ys its)(hz:ys.length<=Av):Inv X pins σ (upd H s.heap.objs.size (.lst ys)) { s with heap:=s.heap.push { cls:=.type "list",data:=.seq its.toArray },toks:=t' } :=
 I.laid (λ_ _ q=>Af _ q) (Ak _) ⟨hz,its,0,hv,Bb _ rfl⟩
theorem Inv.fresh(I:Inv X pins σ H s):H s.heap.objs.size=none:=I.hok.fresh (Ak _)
theorem Inv.lstM(I:Inv X pins σ H s)(hH:H l=some (.lst xs)):xs.length<=Av/\∃(its:List Value) (n:Nat),Fd xs its/\xs.length=its.length/\s.heap.get? l=some { cls:=.type "list",data:=.seq its.toArray n }:=by
 obtain ⟨z,its,n,r,e⟩:=I.hok l _ hH
 exact ⟨z,its,n,r,r.length,e⟩
theorem zJ(h:n<=Av):Oa n=false:=by
 unfold Oa
 exact decide_eq_false (by omega)
end
section
variable{X:Cx}
def J0:V->List V->Hp->VK->Prop:=λx vs H Q=>∃l xs y,x=.ref l/\vs=[y]/\H l=some (.lst xs)/\xs.length<Av/\Q .non (upd H l (.lst (xs++[y])))
theorem Lw:FV X "list.append" J0:=by
 intro pins s σ H x vs v us Q I rx rv h
 obtain ⟨l,xs,y,rfl,rfl,hH,hz,q⟩:=h
 cases rx
 obtain ⟨u,rfl,ru⟩:=rv.one
 obtain ⟨z,its,n,r,hl,e⟩:=I.lstM hH
 refine call_meets F.slot_list_append ⟨_,e,rfl⟩ F.entry_list_append (F.args_list_append_2 _ _) (PySem.list_append l its.toArray n u (by rw[Aq]; omega)) ⟨e,?_⟩
 refine ⟨.non,_,I.lset (its':=its++[u]) hH e (by simp) (r.append (.cons ru .nil)) ?_,rfl,q⟩
 rw[Bw,Mn]
 omega
def o5:V->List V->Hp->VK->Prop:=λx vs H Q=>∃l b xs zs,x=.ref l/\vs=[.ref b]/\H l=some (.lst xs)/\H b=some (.lst zs)/\xs.length+zs.length<=Av/\Q .non (upd H l (.lst (xs++zs)))
theorem Y9:FV X "list.extend" o5:=by
 intro pins s σ H x vs v us Q I rx rv h
 obtain ⟨l,b,xs,zs,rfl,rfl,hH,hB,hz,q⟩:=h
 cases rx
 obtain ⟨u,rfl,ru⟩:=rv.one
 cases ru
 obtain ⟨z,its,n,r,hl,e⟩:=I.lstM hH
 obtain ⟨z2,its2,n2,r2,hl2,e2⟩:=I.lstM hB
 have hsz:its.toArray.size+its2.toArray.size<=Av:=by rw[Aq,Aq]; omega
 have hlong:¬ (!its.toArray.isEmpty && Oa (its.toArray.size+its2.toArray.size))=true:=by
  rw[zJ hsz,Bool.and_false]
  exact Bq
 refine call_meets F.slot_list_extend ⟨_,e,rfl⟩ F.entry_list_extend (F.args_list_extend_2 _ _)
  (AutoSeq1.list_extend_list_list_0 l its.toArray n b its2.toArray n2 hlong (by rw[Aq]; omega) (by omega)) ⟨e,e2,?_⟩
 refine ⟨.non,_,I.lset (its':=its++its2) hH e (by simp) (r.append r2) ?_,rfl,q⟩
 rw[Bw]
 omega
def CZ:R2:=λx y H Q=>∃l b xs zs,x=.ref l/\y=.ref b/\H l=some (.lst xs)/\H b=some (.lst zs)/\xs.length+zs.length<=Av/\∀p,H p=none->Q (.ref p) (upd H p (.lst (xs++zs)))
theorem mE:Xo X (Jv .Add) CZ:=by
 intro pins s σ H x y v u Q I rx ry h
 obtain ⟨l,b,xs,zs,rfl,rfl,hH,hB,hz,q⟩:=h
 cases rx
 cases ry
 obtain ⟨z,its,n,r,hl,e⟩:=I.lstM hH
 obtain ⟨z2,its2,n2,r2,hl2,e2⟩:=I.lstM hB
 refine PySem.P.add_list e e2 ?_ (by rw[Aq,Aq]; omega)
 have ea:its.toArray++its2.toArray=(its++its2).toArray:=by simp
 rw[ea]
 exact ⟨.ref _,_,I.lnew (t':=s.toks) (r.append r2) (by rw[Bw]; omega),rfl,q _ I.fresh⟩
end
end L2
namespace Att
open PySem PySem.W PySem.Calls PyProof.Rows
theorem Ym:∀(ns:List Int) (vs:List Value),WellAll P h vs (ns.map WData.int)->Ey vs ns:=by
 intro ns
 induction ns with
 | nil =>
  intro vs w
  rw[Kf] at w
  cases w
  exact .nil
 | cons n ns ih =>
  intro vs w
  rw[Ar] at w
  cases w with
  | cons a b =>
   cases a
   exact .cons _ _ (ih _ b)
theorem sE{l:OpenLaw}(hn:l.most=some n)(hpre:l.row.toRowW.claim.pre args=true)(hwl:WellAll P h vals args):∃a vs ns,vals=[Bc a]/\args=[WData.list (ns.map WData.int)]/\h.get? a=some { cls:=.type "list",data:=.seq vs.toArray }/\Ey vs ns/\ns.length<=n:=by
 have hsh:WShape.hasAll [] args [.list .int]=true:=(pre_splitW hpre).1
 have hc:l.pre.holds [] { args:=args }=true:=(pre_splitW hpre).2
 obtain ⟨d,r,rfl,h1,h2⟩:=hasAllW_cons hsh
 obtain rfl:=hasAllW_nil h2
 obtain ⟨xs,rfl,h3⟩:=hasW_list h1
 obtain ⟨ns,rfl⟩:=items_int h3
 have hlen:ns.length<=n:=by
  unfold OpenLaw.pre at hc
  have h4:(WTm.not (.lt (.lit (.int (n:Int))) (.len (.arg 0)))).holds [] { args:=[.list (ns.map .int)] }=true:=by
   have h4:=(holds_andW hc).1
   rw[hn] at h4
   exact h4
  have h5:=condW_of h4 (w_not (w_lt w_lit (w_len_list (w_arg rfl))))
  rw[Ac] at h5
  refine Nat.le_of_not_lt λq=>?_
  have q':(n:Int)<((ns.length:Nat):Int):=by omega
  first
   | (rw[decide_eq_true q'] at h5; exact absurd h5 (by decide))
   | (simp at h5; omega)
 cases hwl with
 | cons w1 w2 =>
  cases w2
  cases w1 with
  | list ho hall=>exact ⟨_,_,ns,rfl,rfl,ho,Ym ns _ hall,hlen⟩
theorem rW(l:OpenLaw)(args:List WData):l.row.toRowW.claim.post args (.bool true) args=true :=
 postW_of (r:=l.row.toRowW) (X:=(true == true))
  (show WShape.has [] (.bool true) .bool=true by first | rfl | decide | simp [WShape.has,WShape.arms,WShape.armsAll])
  (show (WTm.eq .res (.lit (.bool true))).value [] { args:=args,res:=some (.bool true),after:=args }=some (.bool (true == true)) from w_eq_bool (w_res rfl) w_lit) rfl
theorem attach_call{l:OpenLaw}(hn:l.most=some n)(hdf:d.params.defaults=[])(call:∀(w:World) (s₀ s₁:Ai) (mg mb:Str->Option Value) (fa:Addr) (o:Obj) (pm cd doc:Value) (a:Addr) (vs:List Value) (ns:List Int),Ground q loose [] XP w s₀ mg mb s₁.heap->YP w s₁.heap->s₁.heap.get? fa=some o->o.data=.func (docDef d.name d.params d.body d.scope pm cd doc)->s₁.heap.CodeRec cd d.name->mg d.name=some (.ref fa)->s₁.heap.get? a=some { cls:=.type "list",data:=.seq vs.toArray }->Ey vs ns->ns.length<=n->s₁.gens=#[]->Mx (model l.prog w) Yu (.call (.ref fa) ⟨[.ref a],[]⟩) (λr s'=>r=.ok (.ret (.bool true))/\OldK s₁.heap s'.heap/\s'.os=s₁.os/\Sr s'.gens) s₁):WalkO q loose XP YP l.row.toRowW d [] (λf vs=>PySem.call f vs):=by
 intro w s₀ s₁ mg mb G Y fa o pm cd doc dV kV ho hd hcd hD hmg hg args vals as hpre hlay hrd hwl hlo
 obtain rfl:dV=.none:=Dflts.none hD hdf
 obtain rfl:kV=.none:=Dflts.noKw hD
 obtain ⟨a,vs,ns,rfl,rfl,hobj,hints,hlen⟩:=sE hn hpre hwl
 refine enter_call (codeAny_mono (call w s₀ s₁ mg mb fa o pm cd doc a vs ns G Y ho (fd_plain hd) hcd hmg hobj hints hlen hg) λr s' hq=>?_)
 obtain ⟨rfl,h2,h3,h4⟩:=hq
 exact ⟨.inl ⟨.bool true,.bool true,[],rfl,λ_=>rfl,.bool true,rW l _,λ_=>⟨Kk,λ_ hm=>(nomatch hm)⟩⟩,h2,h3,h4⟩
end Att
namespace L2
open PySem PySem.Spec PyProof.Rows
theorem eI:∀{vs:List Value} {ns:List Int},Ey vs ns->Fd (ns.map V.int) vs
 | _,_,.nil=>.nil
 | _,_,.cons n t h=>.cons ⟨t,rfl⟩ (eI h)
def Oq(s:Stmt):Um:=match s with
 | .FunctionDef _ a _ _ _ _ _ _ _ _=>a
 | _=>{ posonlyargs:=[],args:=[],vararg:=none,kwonlyargs:=[],kw_defaults:=[],kwarg:=none,defaults:=[] }
def Iw(s:Stmt):List Stmt:=match s with
 | .FunctionDef _ _ b _ _ _ _ _ _ _=>b
 | _=>[]
def Bu(s:Stmt):Scope:=match s with
 | .FunctionDef _ _ _ _ _ _ sc _ _ _=>sc
 | _=>{ kind:=.function,names:=[],isGenerator:=false,isCoroutine:=false }
abbrev Ib:tZ:=λ_ _ _ _ _ _=>False
abbrev E0:XK:=λ_ _ _=>False
theorem Ht:Rn Ib X E0:=λ_ _ _ _ _ _ _ h=>h.elim
structure Fun(K:PySem.W.Frag)(x qual:Str)(st:Stmt)(f:Addr)(fd:Ci):Prop where
 ex:∃(oc:Value) (od:Option Addr) (kV doc pm:Value) (an:Option Addr) (cdv ct:Value) (osl:Array (Option Value)),
  fd=PySem.W.fnOf x qual (Oq st) (Iw st) (Bu st) .none kV doc pm an cdv ct/\K.lookup f=some ⟨oc,od,.func fd,osl⟩/\PySem.W.codeIn K cdv qual=true
 kp:PySem.W.keepIn K (.ref f)=true
section
variable{P:Bo}{w:World}{K:PySem.W.Frag}{mg:Str->Option Value}{base:Heap}
theorem Fun.ok{x qual:Str}{st:Stmt}(F:Fun K x qual st f fd)(S:FnScope N ps (Bu st))(len:∀vs H Q E,sp vs H Q E->vs.length=ps.length)(hbody:∀(cdv:Value) (A:Cn) (outer:List Env) (s:Ai) (H:Hp) (vs:List V) (Q:VK) (E:XK),Room k (A.deeper (envOfC qual (Bu st) s.heap.objs.size f cdv))->sp vs H Q E->∃t,mZ (Mh Ib P w K mg base N qual (Bu st) f cdv A outer s H E).nox (Iw st) t/\t { nx:=λ_ H'=>Q .non H',rt:=Q } (start N vs) H):FnOk P w K mg base Ib (k+1) f fd ps sp:=by
 obtain ⟨oc,od,kV,doc,pm,an,cdv,ct,osl,rfl,lk,hcd⟩:=F.ex
 refine L5 lk hcd S len λA outer s H vs Q E hr hsp=>?_
 obtain ⟨t,h,q⟩:=hbody cdv A outer s H vs Q E hr hsp
 exact ⟨t,h.nox,q⟩
theorem Fun.binds{st:Stmt}(F:Fun K x qual st f fd)(h:∀(kV doc pm:Value) (an:Option Addr) (cdv ct:Value) (us:List Value),us.length=ps.length->bindArgs (PySem.W.fnOf x qual (Oq st) (Iw st) (Bu st) .none kV doc pm an cdv ct) ⟨us,[]⟩=pure (ps.zip us)):Binds K fd ps []:=by
 obtain ⟨oc,od,kV,doc,pm,an,cdv,ct,osl,rfl,lk,hcd⟩:=F.ex
 exact .all (h kV doc pm an cdv ct)
theorem xW{x qual:Str}{st:Stmt}{kV doc pm cdv ct:Value}(l:K.lookup f=some ⟨oc,od,.func (PySem.W.fnOf x qual (Oq st) (Iw st) (Bu st) .none kV doc pm an cdv ct),osl⟩)(c:PySem.W.codeIn K cdv qual=true)(k:PySem.W.keepIn K (.ref f)=true):Fun K x qual st f (PySem.W.fnOf x qual (Oq st) (Iw st) (Bu st) .none kV doc pm an cdv ct):=⟨⟨oc,od,kV,doc,pm,an,cdv,ct,osl,rfl,l,c⟩,k⟩
end
theorem dX(h:n<=1000):n<Av:=He h (by decide)
section
variable{X:Cx}
theorem pv(i:Nat){pos:Pos}(hN:X.N[i]? = some x:=by rfl)(hv:EJ X.env.scope x:=by first | exact Dr rfl | exact Li (Dr rfl) | exact Li (Li rfl))(hd:(x == ("__debug__" : Str))=false:=by decide)(hcd:(x == ("__classdict__" : Str))=false:=by decide):PE X (.Name x pos) (Yi i):=O9 hN hv hd hcd
end
theorem mH{A B:Prop}(h:B):if false=true then A else B:=by
 rw[if_neg Bq]
 exact h
theorem kW{A B:Prop}(h:A):if true=true then A else B:=by
 rw[if_pos rfl]
 exact h
theorem U8{c A B:Prop}[Decidable c](h1:c->A)(h2:¬ c->B):if c then A else B:=by
 by_cases h:c
 ·rw[if_pos h]
  exact h1 h
 ·rw[if_neg h]
  exact h2 h
def Mg(H H':Hp):Prop:=∀b o,H b=some o->H' b=some o
theorem Mg.refl(H:Hp):Mg H H:=λ_ _ h=>h
theorem Mg.trans(a:Mg H H1)(b:Mg H1 H2):Mg H H2:=λc o h=>b c o (a c o h)
theorem Mg.free(e:Mg H H')(h:H' l=Pp):H l=Pp:=by
 cases q:H l with
 | none=>rfl
 | some o =>
  rw[e l o q] at h
  cases h
end L2
namespace Nd
open PySem PySem.Spec PyProof.Rows L2
def Dy(X:Cx)(scope:Scope)(cl:List (Str×Addr))(N:List Str)(fp:List Addr)(s:Ai)(H:Hp):Cx where
 prog:=X.prog
 w:=X.w
 K:=X.K
 mg:=X.mg
 base:=X.base
 A:=X.A
 N:=N
 s₀:=s
 H₀:=H
 env:=compEnvC scope (Eh (s.heap.objs.size+1) scope.names cl) s.heap.objs.size X.env
 outer:=X.stack
 stack:=X.stack
 ex:=fp
 fn:=λy=>decide (scope.names.lookup y=some Dt)
 calm:=X.calm
 pn:=[]
 xe:=λ_ _=>False
section
variable{prog:Bo}{w:World}{A:Cn}{R:Result->Ai->Prop}{s:Ai}
theorem Qm(J:Nat->Ai->Prop) (turn:∀n s,J n s->wpAny (model prog w) A (Kn it) (λr s1=>match r with
    | none=>R (.ok .next) s1
    | some v=>wpAny (model prog w) A (Wq tg it v) (λ_ s2=>wpAny (model prog w) A (Tv tg env v) (λ_ s3 =>
      wpAny (model prog w) A (forIn ifs true λc r=>if r=true then (do
        let ok <- isTrue c env (eval c env)
        pure (Ff ok)) else pure (Ff r)) (λok s4 =>
       if ok=true then
        wpAny (model prog w) A (eval elt env) (λx s5=>wpAny (model prog w) A (call (.builtin "list.append") [acc,x]) (λ_ s6=>∃m,m<n/\J m s6) (λ_ _=>False) s5) (λ_ _=>False) s4
       else ∃m,m<n/\J m s4) (λ_ _=>False) s3) (λ_ _=>False) s2) (λ_ _=>False) s1) (λ_ _=>False) s)
  (n:Nat) (h:J n s):Mx (model prog w) A (.compLoop (.ListComp elt [⟨tg,iter,ifs,0⟩] scope pos) 0 it acc env) R s:=by
 refine codeAny_loop rfl J (λn s hJ=>?_) n h
 show wpAny _ A (Sem.onRaise (compTurn (.ListComp elt [⟨tg,iter,ifs,0⟩] scope pos) 0 it acc env) (λx=>do noteFrame x env; theTreesLotGoes x)) _ _ s
 refine wpAny_noted ?_
 rw[compTurn_list]
 refine Ab (bJ (Ab (Eo (turn n s hJ) (λr s1 h1=>?_) λ_ _ z=>z.elim)))
 cases r with
 | none=>exact Ao h1
 | some v =>
  refine Ab (Eo h1 (λ_ s2 h2=>?_) λ_ _ z=>z.elim)
  refine Ab (Eo h2 (λ_ s3 h3=>?_) λ_ _ z=>z.elim)
  refine Ab (Eo h3 (λok s4 h4=>?_) λ_ _ z=>z.elim)
  cases ok with
  | false=>exact Ao ⟨rfl,h4⟩
  | true =>
   refine Ab (Ab (Eo h4 (λx s5 h5=>?_) λ_ _ z=>z.elim))
   exact Ab (Eo h5 (λ_ s6 h6=>Ao (Ao ⟨rfl,h6⟩)) λ_ _ z=>z.elim)
end
section
variable{X:Cx}{pins:List (Addr×Obj)}{σ:L2.St}{H:Hp}{s:Ai}{scope:Scope}{cl:List (Str×Addr)}{fp:List Addr}{N:List Str}
def mP(scope:Scope)(x:Str):Prop:=scope.names.lookup x=some .local\/scope.names.lookup x=some .cell
structure CompScope(X:Cx)(scope:Scope)(cl:List (Str×Addr))(x:Str)(ys:List Str)(js:List Nat):Prop where
 clos:bU scope X.env=pure cl
 oc:(∀y∈scope.names,y.2≠.cell)\/∃z:Str,(∀n,Eh n scope.names []=[(z,n)])/\scope.names.lookup z=some .cell/\∀y∈scope.names,y.2=.cell->y.1=z
 kind:scope.kind=.function
 locs:∀y∈scope.names,y.2=.local->scope.names.lookup y.1=some .local
 own:mP scope x
 sub:∀y c,cl.lookup y=some c->X.env.cells.lookup y=some c
 has_:(scope.names.all λy=>!(y.2 == Ds) || (cl.lookup y.1).isSome)=true
 nd:(x::ys).Nodup
 len:ys.length=js.length
 at_:∀(k:Nat) (y:Str) (j:Nat),ys[k]? = some y->js[k]? = some j->X.N[j]? = some y/\scope.names.lookup y=some .free/\(X.env.kindOf y=some .cell\/X.env.kindOf y=some .free)
theorem CompScope.has(C:CompScope X scope cl x ys js):∀y∈scope.names,y.2=.free->(cl.lookup y.1).isSome=true:=λy hy e=>by
 have h:=List.all_eq_true.mp C.has_ y hy
 rw[e] at h
 simpa using h
theorem aD(clos:bU scope X.env=pure cl)(nocell:∀y∈scope.names,y.2≠.cell)(kind:scope.kind=.function)(locs:∀y∈scope.names,y.2=.local->scope.names.lookup y.1=some .local)(own:scope.names.lookup x=some .local)(sub:∀y c,cl.lookup y=some c->X.env.cells.lookup y=some c)(has_:(scope.names.all λy=>!(y.2 == Ds) || (cl.lookup y.1).isSome)=true)(nd:[x,y].Nodup)(hN:X.N[j]? = some y)(hfree:scope.names.lookup y=some .free)(hk:X.env.kindOf y=some .cell):CompScope X scope cl x [y] [j] :=
 ⟨clos,.inl nocell,kind,locs,.inl own,sub,has_,nd,rfl,λk z i e1 e2=>by
  cases k with
  | zero =>
   have h1:y=z:=by simpa using e1
   have h2:j=i:=by simpa using e2
   subst h1 h2
   exact ⟨hN,hfree,.inl hk⟩
  | succ k=>simp at e1⟩
theorem Rt{env:Env}{y:Str}{k:Pc}:∀{names:List (Str×Pc)},
  (names.map λ(n,k)=>if (k == Ds && env.scope.kind == .function && env.kindOf n == some .cell) then (n,Dt) else (n,k)).lookup y=some k ->
  ∃k0,names.lookup y=some k0/\(k=k0\/(k0=.free/\k=.cell))
 | [],h=>by simp at h
 | (n,k0)::r,h=>by
  have ih:=@Rt env y k r
  rw[Ar] at h
  by_cases hc:(k0 == Ds && env.scope.kind == .function && env.kindOf n == some .cell)=true
  ·have h':Lf y ((n,Dt)::(r.map λ(n,k)=>if (k == Ds && env.scope.kind == .function && env.kindOf n == some .cell) then (n,Dt) else (n,k)))=some k:=by
    simpa [hc] using h
   cases hy:y == n with
   | true =>
    rw[Cb,hy] at h'
    have e:k=Dt:=by simpa using h'.symm
    refine ⟨k0,by rw[Cb,hy],.inr ⟨?_,e⟩⟩
    rw[Gc,Gc] at hc
    exact Dw hc.1.1
   | false =>
    rw[Cb,hy] at h'
    obtain ⟨q,e1,e2⟩:=ih h'
    exact ⟨q,by rw[Cb,hy]; exact e1,e2⟩
  ·have h':Lf y ((n,k0)::(r.map λ(n,k)=>if (k == Ds && env.scope.kind == .function && env.kindOf n == some .cell) then (n,Dt) else (n,k)))=some k:=by
    simpa [hc] using h
   cases hy:y == n with
   | true =>
    rw[Cb,hy] at h'
    exact ⟨k0,by rw[Cb,hy],.inl (by simpa using h'.symm)⟩
   | false =>
    rw[Cb,hy] at h'
    obtain ⟨q,e1,e2⟩:=ih h'
    exact ⟨q,by rw[Cb,hy]; exact e1,e2⟩
theorem Wi{env:Env}{y:Str}:∀{names:List (Str×Pc)},names.lookup y=some .free ->
  (names.map λ(n,k)=>if (k == Ds && env.scope.kind == .function && env.kindOf n == some .cell) then (n,Dt) else (n,k)).lookup y=some .cell \/
  (names.map λ(n,k)=>if (k == Ds && env.scope.kind == .function && env.kindOf n == some .cell) then (n,Dt) else (n,k)).lookup y=some .free
 | [],h=>by simp at h
 | (n,k0)::r,h=>by
  have ih:=@Wi env y r
  show Lf y ((if (k0 == Ds && env.scope.kind == .function && env.kindOf n == some .cell)=true then (n,Dt) else (n,k0))::_)=_\/Lf y ((if (k0 == Ds && env.scope.kind == .function && env.kindOf n == some .cell)=true then (n,Dt) else (n,k0))::_)=_
  by_cases hc:(k0 == Ds && env.scope.kind == .function && env.kindOf n == some .cell)=true
  ·rw[if_pos hc]
   cases hy:y == n with
   | true=>exact .inl (by rw[Cb,hy])
   | false =>
    rw[Cb,hy] at h
    simp only[Cb,hy]
    exact ih h
  ·rw[if_neg hc]
   cases hy:y == n with
   | true =>
    rw[Cb,hy] at h
    exact .inr (by rw[Cb,hy]; exact h)
   | false =>
    rw[Cb,hy] at h
    simp only[Cb,hy]
    exact ih h
theorem El{α β:Type}[BEq α][LawfulBEq α]{y:α}{k:β}:∀{l:List (α×β)},l.lookup y=some k->(y,k)∈l
 | [],h=>by simp at h
 | (n,v)::r,h=>by
  cases hy:y == n with
  | true =>
   rw[Cb,hy] at h
   have e:=Dw hy
   subst e
   have : v=k:=by simpa using h
   subst this
   exact Aa
  | false =>
   rw[Cb,hy] at h
   exact Ae _ (El h)
end
theorem gQ(h:c<a)(e:c=a+1):False:=by omega
theorem Ip:∀(names:List (Str×Pc)) (n:Nat) (acc:List (Str×Addr)),Eh n names acc=Eh n names []++acc
 | [],_,_=>rfl
 | (x,k)::r,n,acc=>by
  unfold Eh
  by_cases h:(k == Dt)=true
  ·rw[if_pos h,if_pos h,Ip r _ ((x,n)::acc),Ip r _ [(x,n)],Ce]; rfl
  ·rw[if_neg h,if_neg h]; exact Ip r n acc
theorem Nq:∀(names:List (Str×Pc)) (n:Nat) (acc:List (Str×Addr)),(∀y∈names,y.2≠.cell)->Eh n names acc=acc
 | [],_,_,_=>rfl
 | (x,k)::r,n,acc,h=>by
  unfold Eh
  rw[if_neg (by have:=h (x,k) Aa; simpa using this)]
  exact Nq r n acc λy hy=>h y (Ae _ hy)
theorem Vz{env:Env}{y:Str}:∀{names:List (Str×Pc)},names.lookup y=some .cell->(names.map λ(n,k)=>if (k == Ds && env.scope.kind == .function && env.kindOf n == some .cell) then (n,Dt) else (n,k)).lookup y=some .cell
 | [],h=>by simp at h
 | (n,k0)::r,h=>by
  have ih:=@Vz env y r
  show Lf y ((if (k0 == Ds && env.scope.kind == .function && env.kindOf n == some .cell)=true then (n,Dt) else (n,k0))::_)=_
  by_cases hc:(k0 == Ds && env.scope.kind == .function && env.kindOf n == some .cell)=true
  ·rw[if_pos hc]
   cases hy:y == n with
   | true=>rw[Cb,hy]
   | false=>rw[Cb,hy] at h ⊢; exact ih h
  ·rw[if_neg hc]
   cases hy:y == n with
   | true=>rw[Cb,hy] at h ⊢; exact h
   | false=>rw[Cb,hy] at h ⊢; exact ih h
theorem Tq(o:mP scope x):Loc (relabel scope env) x:=o.imp lookup_relabel_local Vz
section
variable{X:Cx}{scope:Scope}{cl:List (Str×Addr)}{x y:Str}{ys:List Str}{js:List Nat}{n c:Nat}{N:List Str}{fp:List Addr}{s:Ai}{H:Hp}
theorem Xh(o:mP scope x):(Dy X scope cl N fp s H).fn x=true\/(Dy X scope cl N fp s H).env.scope.names.lookup x=some .local:=by
 rcases o with o | o
 ·exact .inr (lookup_relabel_local o)
 ·exact .inl (decide_eq_true o)
theorem CompScope.split(C:CompScope X scope cl x ys js)(h:(Eh n scope.names cl).lookup y=some c):cl.lookup y=some c\/(c=n/\Eh 0 scope.names []=[(y,0)]/\Eh n scope.names []=[(y,n)]/\scope.names.lookup y=some .cell):=by
 rcases C.oc with o | ⟨z,o1,o2,_⟩
 ·rw[Nq _ _ _ o] at h; exact .inl h
 ·rw[Ip,o1] at h
  have h2:Lf y ((z,n)::cl)=some c:=h
  rw[Cb] at h2
  cases e:y == z with
  | true =>
   rw[e] at h2
   have ec:c=n:=(Bl h2).symm
   have ey:=Dw e
   subst ey
   exact .inr ⟨ec,o1 0,o1 n,o2⟩
  | false=>rw[e] at h2; exact .inl h2
theorem CompScope.find(C:CompScope X scope cl x ys js)(h:cl.lookup y=some c)(hy:scope.names.lookup y=some .free):(Eh n scope.names cl).lookup y=some c:=by
 rcases C.oc with o | ⟨z,o1,o2,_⟩
 ·rw[Nq _ _ _ o]; exact h
 ·rw[Ip,o1]
  show Lf y ((z,n)::cl)=some c
  rw[Cb]
  cases e:y == z with
  | true=>rw[Dw e,o2] at hy; cases hy
  | false=>exact h
theorem CompScope.cellAt(C:CompScope X scope cl x ys js)(hy:(y,Dt)∈scope.names):(Eh n scope.names cl).lookup y=some n:=by
 rcases C.oc with o | ⟨z,o1,o2,o3⟩
 ·exact absurd rfl (o _ hy)
 ·have ez:y=z:=o3 _ hy rfl
  subst ez
  rw[Ip,o1]
  show Lf y ((y,n)::cl)=some n
  rw[Cb,beq_self_eq_true]
theorem Tn(C:CompScope X scope cl x ys js)(hQ:∀h4,h4.Ns s.heap.objs.size (λ_=>none)->(∀b u,s.heap.get? b=some u->h4.get? b=some u)->(∀z n,Eh (s.heap.objs.size+1) scope.names []=[(z,n)]->h4.IsCell n none)->Q (newEnv scope s.heap.objs.size X.env.globals (Eh (s.heap.objs.size+1) scope.names cl) X.env.qual none .none (some X.env) Vk) { s with heap:=h4,toks:=s.toks+([]:List (Str×Value)).length }):wpAny M A (Mv scope X.env.globals cl [] X.env.qual none .none (some X.env)) Q E s:=by
 simp only[Mv,Option.isSome_some,if_true]
 refine Ab (wpAny_alloc (Ab (wpAny_layCells _ (λx k cs=>by cases e:k == Dt <;> simp [e]) _ _ _ _ ?_)))
 have hsz:({ s with heap:=s.heap.push { cls:=.type "dict",data:=.dict #[] } }:Ai).heap.objs.size=s.heap.objs.size+1:=Ka ..
 rw[hsz]
 refine Ab (Ao (Ao (hQ _ ((Heap.Ns.new s.heap (.type "dict")).keeps (pushCells_keeps _ _)) (λb u e=>pushCells_keeps _ _ b u (Af _ e)) λz n e=>?_)))
 have ok:=(cellsFrom_ok scope.names (s.heap.push { cls:=.type "dict",data:=.dict #[] }) 0 [] ⟨λ_ _ hm=>(nomatch hm),Kk⟩ (Cr _)).empty z n
 rw[show (s.heap.push { cls:=.type "dict",data:=.dict #[] }).objs.size=s.heap.objs.size+1 from hsz,e] at ok
 exact (ok (Ag.mpr rfl)).1
end
section
variable{X:Cx}{pins:List (Addr×Obj)}{σ:L2.St}{H:Hp}{s:Ai}{scope:Scope}{cl:List (Str×Addr)}{fp:List Addr}{N:List Str}
theorem F5(C:CompScope X scope cl x ys js)(I:Inv X pins σ H s)(hf:∀b∈fp,Ky X pins H b)(ho:∀b∈fp,∃o,s.heap.get? b=some o):(Dy X scope cl N fp s H).Ok where
 mod:=I.ok.mod
 kind:=C.kind
 glob:=I.ok.glob
 blt:=I.ok.blt
 above:=Ak _
 inj:=λy z c h1 h2=>by
  have lt:∀y,cl.lookup y=some c->c<s.heap.objs.size:=λy e=>let ⟨_,q⟩:=I.cell y c (C.sub y c e); q.lt
  rcases C.split h1 with h1 | ⟨e1,a1,_⟩
  ·rcases C.split h2 with h2 | ⟨e2,_⟩
   ·exact I.ok.inj y z c (C.sub y c h1) (C.sub z c h2)
   ·exact (gQ (lt y h1) e2).elim
  ·rcases C.split h2 with h2 | ⟨e2,a2,_⟩
   ·exact (gQ (lt z h2) e1).elim
   ·rw[a1] at a2
    simpa using a2
 has:=λy hy=>by
  have key:∀k,(k=Dt\/k=Ds)->(compEnvC scope cl s.heap.objs.size X.env).kindOf y=some k->∃c,(Eh (s.heap.objs.size+1) scope.names cl).lookup y=some c:=by
   intro k hk e
   obtain ⟨k0,e0,e1⟩:=Rt (names:=scope.names) (env:=X.env) (y:=y) (k:=k) e
   have m:=El e0
   by_cases hk0:k0=.cell
   ·exact ⟨_,C.cellAt (hk0▸m)⟩
   have hfree:k0=.free:=by
    rcases e1 with e1 | e1
    ·subst e1
     rcases hk with hk | hk
     ·exact absurd hk hk0
     ·exact hk
    ·exact e1.1
   obtain ⟨c,hc⟩:=Qa.mp (C.has _ m hfree)
   exact ⟨c,C.find hc (hfree▸e0)⟩
  rcases hy with hy | hy
  ·exact key _ (.inl rfl) hy
  ·exact key _ (.inr rfl) hy
 cab:=λy c h e=>by
  have h:scope.names.lookup y=some .cell:=of_decide_eq_true h
  have:=(C.cellAt (n:=s.heap.objs.size+1) (El h)).symm.trans e
  show s.heap.objs.size<=c
  have:=Bl this
  omega
 hd:=I.ok.hd
 frames:=I.ok.frames
 stk:=.inl rfl
 exf:=λb hb=>by
  obtain ⟨o,e⟩:=ho b hb
  refine ⟨By (Ba e),λy c hc=>?_⟩
  rcases C.split hc with hc | ⟨hc,_⟩
  ·exact (hf b hb).2.2.2.2.1 y c (C.sub y c hc)
  ·exact λz=>gQ (Ba e) (z.symm.trans hc)
 bs:=I.bs
 bsz:=Cc I.ok.bsz I.sz
 noex:=λb o e hb=>by
  rcases (hf b hb).2.2.2.1 with z | z
  ·exact I.ok.noex b o e z
  ·exact absurd (Br (Ba (I.ok.bs b o e).1) z) (Gf _)
 exfs:=λb hb z=>by
  rcases Aj.mp (I.stkSub b z) with e | e
  ·exact (hf b hb).2.1 e
  ·exact (hf b hb).2.2.1 e
 funs:=I.stack
 frf:=I.stkFree
 tab:=I.ok.tab.un I.base
def Fl(σ:L2.St)(js:List Nat):L2.St:=js.map λj=>(σ[j]?).join
theorem Qh(C:CompScope X scope cl x ys js)(I:Inv X pins σ H s)(hf:∀b∈fp,Ky X pins H b)(ho:∀b∈fp,∃o,s.heap.get? b=some o)(hns:h1.Ns s.heap.objs.size m1)(keep:∀b u,s.heap.get? b=some u->h1.get? b=some u)(new:∀z n,Eh (s.heap.objs.size+1) scope.names []=[(z,n)]->h1.IsCell n none):Inv (Dy X scope cl (pre++ys) fp s H) [] (pre.map (λ_=>none)++Fl σ js) H { s with heap:=h1,toks:=tk }:=by
 have cellK:∀y c,cl.lookup y=some c->∃v,s.heap.IsCell c v/\h1.IsCell c v:=λy c e=>by
  obtain ⟨v,o,q,d⟩:=I.cell y c (C.sub y c e)
  exact ⟨v,⟨o,q,d⟩,o,keep c o q,d⟩
 refine ⟨F5 C I hf ho,rfl,I.bare,Un.kept keep,⟨m1,hns,λi y v e1 e2 _=>?_⟩,λy c e=>?_,I.hok.fresh (Ak _),λy c e=>?_,λp hp=>?_,I.hok.kept keep,?_⟩
 ·have e2:(pre.map (λ_=>(none:Option V))++Fl σ js)[i]? = some (some v):=e2
  have e1:(pre++ys)[i]? = some y:=e1
  by_cases hi:i<pre.length
  ·rw[Ki (by rw[Ac]; exact hi),Az] at e2
   cases q:pre[i]? with
   | none=>rw[q] at e2; cases e2
   | some z=>rw[q] at e2; cases e2
  ·rw[Fj (by rw[Ac]; omega),Ac] at e2
   rw[Fj (by omega)] at e1
   have e1':=e1
   have e2':=e2
   generalize i - pre.length=k at e1' e2'
   unfold Fl at e2'
   rw[Az] at e2'
   cases ej:js[k]? with
   | none=>rw[ej] at e2'; simp at e2'
   | some j =>
    rw[ej] at e2'
    have e3:(σ[j]?).join=some v:=by simpa using e2'
    have e4:σ[j]? = some (some v):=by
     cases q:σ[j]? with
     | none=>rw[q] at e3; simp at e3
     | some z=>rw[q] at e3; simp at e3; rw[e3]
    obtain ⟨a1,a2,a3⟩:=C.at_ k y j e1' ej
    obtain ⟨m0,_,hl⟩:=I.loc
    have vis:EJ X.env.scope y:=a3.elim (λa3=>.inr (.inl a3)) λa3=>.inr (.inr a3)
    obtain ⟨u,r,l⟩:=hl j y v a1 e4 vis
    refine ⟨u,r,?_⟩
    rcases l with ⟨k1,_⟩ | ⟨_,c,hc,hv⟩
    ·rcases a3 with a3 | a3 <;> rw[k1] at a3 <;> cases a3
    ·obtain ⟨c',hc'⟩:=Qa.mp (C.has _ (El a2) rfl)
     have ec:c'=c:=by
      have:=C.sub y c' hc'
      rw[hc] at this
      exact (Bl this).symm
     subst ec
     obtain ⟨o,q,d⟩:=hv
     exact .inr ⟨Wi a2,c',C.find hc' a2,o,keep c' o q,d⟩
 ·rcases C.split e with e | ⟨e,_,e',_⟩
  ·obtain ⟨v,_,z⟩:=cellK y c e
   exact ⟨v,z⟩
  ·exact ⟨_,e▸new _ _ e'⟩
 ·rcases C.split e with e | ⟨e,_⟩
  ·exact I.freeC y c (C.sub y c e)
  ·exact I.hok.fresh (by omega)
 ·cases (show p∈([]:List (Addr×Obj)) from hp)
 ·show (pre.map (λ_=>(none:Option V))++Fl σ js).length=(pre++ys).length
  simp [Fl,C.len]
end
section
variable{X:Cx}
def K6(J:It)(js:List Nat)(tc:TT)(te:TE)(σ:L2.St)(H1:Hp)(Q:VK):Prop:=∀D,H1 D=none->∃W:Nat->Nat->Hp->Prop,(∃m,W 0 m (upd H1 D (.lst [])))/\∀i m H,W i m H ->
 (J.stop i H/\Q (.ref D) H)\/(J.go i H/\∀x H',J.yld i H x H'->∃(N1:Hp->Prop) (N2:VK),(∀H2,N1 H2->∃m',m'<m/\W (i+1) m' H2) /\
  (∀y H3,N2 y H3->∃acc,H3 D=some (.lst acc)/\acc.length<Av/\∃m',m'<m/\W (i+1) m' (upd H3 D (.lst (acc++[y])))) /\
  tc (some x::Fl σ js) H' λc H2=>if c=true then te (some x::Fl σ js) H2 N2 else N1 H2)
def kN(wi:TI)(js:List Nat)(tc:TT)(te:TE):TE:=λσ H Q=>wi σ H λJ H1=>K6 J js tc te σ H1 Q
def Zf:TT:=λ_ H Q=>Q true H
theorem uC{te:TE}{N1:Hp->Prop}(h:te σ' H N2):Zf σ H λc H2=>if c=true then te σ' H2 N2 else N1 H2:=by
 show if true=true then te σ' H N2 else N1 H
 exact kW h
def oM(X:Cx)(ifs:List Expr)(t:TT):Prop :=
 ∀(pins:List (Addr×Obj)) (s:Ai) (σ:L2.St) (H:Hp) (Q:Bool->Hp->Prop),Inv X pins σ H s->t σ H Q ->
  wpAny (model X.prog X.w) X.A (forIn ifs true λc r=>if r=true then (do
   let ok <- isTrue c X.env (eval c X.env)
   pure (Ff ok)) else pure (Ff r)) (TP X pins σ Q) X.xe s
theorem bG:oM X [] Zf:=λpins s σ H Q I h=>wpAny_tests_nil ⟨H,I,h⟩
theorem o7(h:PT X c t):oM X [c] t:=λpins s σ H Q I q=>wpAny_tests_one (h pins s σ H Q I q)
theorem bI{X X':Cx}{pins:List (Addr×Obj)}{σ σ':L2.St}(hX':Dy X scope cl N fp s3 H3=X')(I3:Inv X pins σ H3 s3)(f3:∀b∈fp,Ky X pins H3 b)(I7:Inv X' [] σ' H6 s7):∃m7,s7.heap.Ns s3.heap.objs.size m7/\∀h8,Dh s3.heap.objs.size s7.heap h8->Inv X pins σ H6 { s7 with heap:=h8 }:=by
 have eP:X'.prog=X.prog:=by rw[<- hX']; rfl
 have eW:X'.w=X.w:=by rw[<- hX']; rfl
 obtain ⟨m7,hn7,_⟩:=I7.loc
 have hn7':s7.heap.Ns s3.heap.objs.size m7:=by rw[<- hX'] at hn7; exact hn7
 refine ⟨m7,hn7',λh8 hs8=>?_⟩
 have I7f:H6 s3.heap.objs.size=none:=by have:=I7.free; rw[<- hX'] at this; exact this
 have b7:Un (rM X.stack) fp H3 H6 s3.heap s7.heap:=by have:=I7.base; rw[<- hX'] at this; exact this
 have ne8:∀b o,s3.heap.get? b=some o->b≠s3.heap.objs.size:=λb o q=>By (Ba q)
 have u8:Un (rM X.stack) fp H3 H6 s3.heap h8:=by
  refine ⟨λb o q n hb hx=>(hs8.2 b (ne8 b o q)).trans (b7.keep b o q n hb hx),λb o q n hb hx=>?_,b7.free,λb o q hx=>?_,b7.tups,b7.frzs,b7.tbls⟩
  ·obtain ⟨sl,z⟩:=b7.slot b o q n hb hx
   exact ⟨sl,(hs8.2 b (ne8 b o q)).trans z⟩
  ·obtain ⟨o',z⟩:=b7.there b o q hx
   exact ⟨o',(hs8.2 b (ne8 b o q)).trans z⟩
 have hok8:Vr X.prog X.w H6 h8:=λb ob e=>by
  have hk7:=I7.hok
  rw[eP,eW] at hk7
  refine (hk7 b ob e).stay (λc w' hcc q=>(hs8.2 c ?_).trans q) (λ_ q=>q) λ_ _ q=>q
  rintro rfl
  rcases hcc with rfl | hcc
  ·rw[I7f] at e; cases e
  ·rw[I7f] at hcc; cases hcc
 have os7:s7.os=s3.os:=by have:=I7.os; rw[<- hX'] at this; exact this
 exact I3.call' (s':={ s7 with heap:=h8 }) (ch:=fp) os7 u8 hok8 I7.bare (λb hb=>⟨(f3 b hb).2.2.2.1,(f3 b hb).2.1,(f3 b hb).2.2.2.2.1,(f3 b hb).2.2.2.2.2⟩)
theorem Tp{X X':Cx}{σ':L2.St}{H3 H6:Hp}(hX':Dy X scope cl N fp s3 H3=X')(I4:Inv X' [] σ' H6 s7)(hn:∀b∈fp,H' b=none):∀b∈fp,Ky X' [] H' b:=λb hb=>by
 have ok:=I4.ok
 have hex:b∈X'.ex:=by rw[<- hX']; exact hb
 exact ⟨hn b hb,(ok.exf b hex).1,ok.exfs b hex,.inl hex,(ok.exf b hex).2,λp hp=>by rw[<- hX'] at hp; cases (show p∈([]:List (Addr×Obj)) from hp)⟩
theorem We(hc:X.calm=true)(hX':Dy X scope cl N fp s3 H3=X'):X'.prog=X.prog/\X'.w=X.w/\X'.K=X.K/\X'.A=X.A/\X'.calm=true:=by
 subst hX'
 exact ⟨rfl,rfl,rfl,rfl,hc⟩
theorem cU{X X':Cx}{pins:List (Addr×Obj)}{σ σ':L2.St}(hX':Dy X scope cl N fp s3 H3=X')(I3:Inv X pins σ H3 s3)(f3:∀b∈fp,Ky X pins H3 b)(I7:Inv X' [] σ' H6 s7):(∃m7,s7.heap.Ns s3.heap.objs.size m7)/\H6 s3.heap.objs.size=none/\Inv X pins σ H6 s7:=by
 subst hX'
 obtain ⟨m7,hn7,_⟩:=I7.loc
 exact ⟨⟨m7,hn7⟩,I7.free,I3.call' (s':=s7) (ch:=fp) I7.os I7.base I7.hok I7.bare (λb hb=>⟨(f3 b hb).2.2.2.1,(f3 b hb).2.1,(f3 b hb).2.2.2.2.1,(f3 b hb).2.2.2.2.2⟩)⟩
theorem Wa{X:Cx}{pins:List (Addr×Obj)}{σ:L2.St}{H2:Hp}{s2:Ai}{tg:Expr}(I2:Inv X pins σ H2 s2)(T:Turn X.prog X.w X.K tg J fp it tn)(st2:tn 0 s2.heap)(f2:∀b∈fp,Ky X pins H2 b)(I3:Inv X pins σ (upd H2 s2.heap.objs.size ho) { s2 with heap:=s2.heap.push ob }):(∀b∈fp,Ky X pins (upd H2 s2.heap.objs.size ho) b)/\tn 0 (s2.heap.push ob)/\∀b∈fp,∃o,(s2.heap.push ob).get? b=some o:=by
 have st3:tn 0 (s2.heap.push ob):=T.keep 0 _ _ st2 λb hb o q=>Af _ q
 refine ⟨λb hb=>⟨?_,(f2 b hb).2⟩,st3,λb hb=>?_⟩
 ·rw[Cj ?_]
  ·exact (f2 b hb).1
  ·intro z
   obtain ⟨o,q,_⟩:=T.obj _ _ st2 b hb
   have:=Ba q
   rw[z] at this
   exact absurd this (Gf _)
 ·obtain ⟨o,q,_⟩:=T.obj _ _ st3 b hb
  exact ⟨o,q⟩
theorem gD(C:CompScope X scope cl x ys js)(hc:X.calm=true)(hi:PI X (.Name x px) iter wi)(ht:∀fp s H,oM (Dy X scope cl (x::ys) fp s H) ifs tc)(he:∀fp s H,PE (Dy X scope cl (x::ys) fp s H) elt te)(hs:∀x,Dz iter X.env x=pure x:=by intro _; rfl):PE X (.ListComp elt [⟨.Name x px,iter,ifs,0⟩] scope pos) (kN wi js tc te):=by
 intro pins s σ H Q I h
 rw[eval_ListComp]
 refine Ln (use:=none) rfl hs C.clos C.kind C.locs (Fn (hi pins s σ H _ I h) λv s1 h1=>Fn h1 λitv s2 h2=>?_)
 obtain ⟨it,fp,tn,J,H2,e,I2,T,st2,f2,q2⟩:=h2
 subst e
 have fD:H2 s2.heap.objs.size=none:=I2.hok.fresh (Ak _)
 obtain ⟨W,⟨m0,w0⟩,turn⟩:=q2 s2.heap.objs.size fD
 refine Fs ?_
 have I3:Inv X pins σ (upd H2 s2.heap.objs.size (.lst [])) { s2 with heap:=s2.heap.push { cls:=.type "list",dict:=none,data:=.seq ([]:List Value).toArray } } :=
  I2.laid (t':=s2.toks) (λb u q=>Af _ q) (Ak _) ⟨Cr _,[],0,.nil,Bb _ rfl⟩
 obtain ⟨f3,st3',o3'⟩:=Wa I2 T st2 f2 I3
 generalize hS3:({ s2 with heap:=s2.heap.push { cls:=.type "list",dict:=none,data:=.seq ([]:List Value).toArray } }:Ai)=s3 at I3
 have st3:tn 0 s3.heap:=by rw[<- hS3]; exact st3'
 have o3:∀b∈fp,∃o,s3.heap.get? b=some o:=by rw[<- hS3]; exact o3'
 show wpAny _ _ (Mv scope X.env.globals cl [] X.env.qual none .none (some X.env)) _ _ _
 refine Tn C λh4 hns4 keep4 new4=>?_
 have I4:∀tk,Inv (Dy X scope cl (x::ys) fp s3 (upd H2 s2.heap.objs.size (.lst []))) [] (none::Fl σ js) (upd H2 s2.heap.objs.size (.lst [])) { s3 with heap:=h4,toks:=tk }:=λtk=>Qh (pre:=[x]) C I3 f3 o3 hns4 keep4 new4
 have st4:tn 0 h4:=T.keep 0 _ _ st3 λb hb o q=>keep4 b o q
 generalize hX':Dy X scope cl (x::ys) fp s3 (upd H2 s2.heap.objs.size (.lst []))=X' at I4
 obtain ⟨eP,eW,eK,eA,eC⟩:=We hc hX'
 have stat:∀{H':Hp},(∀b∈fp,H' b=none)->∀b∈fp,Ky X' [] H' b:=λ{H'} hn=>Tp hX' (I4 0) hn
 have loop:∀s5:Ai,s5={ s3 with heap:=h4,toks:=s3.toks+([]:List (Str×Value)).length } ->
   Mx (model X.prog X.w) X.A (.compLoop (.ListComp elt [⟨.Name x px,iter,ifs,0⟩] scope pos) 0 (.ref it) (.ref s2.heap.objs.size) (compEnvC scope (Eh (s3.heap.objs.size+1) scope.names cl) s3.heap.objs.size X.env))
    (compPost (model X.prog X.w) X.A X.xe none (EP X pins σ Q) (.ref s2.heap.objs.size) s3.heap.objs.size) s5:=by
  rintro s5 rfl
  refine Qm (λn s'=>∃i o H',Inv X' [] (o::Fl σ js) H' s'/\tn i s'.heap/\(∀b∈fp,H' b=none)/\W i n H') ?_ m0
   ⟨0,none,_,I4 _,st4,λb hb=>(f3 b hb).1,w0⟩
  (intro n s6 q_; obtain ⟨i,o,H6,I6,st6,fr6,w6⟩ := q_)
  rcases turn i n H6 w6 with ⟨stop,qn⟩ | ⟨go,step⟩
  ·have hd:=T.done X' eP eW eK eC i [] s6 _ H6 (λ_ _=>False) I6 (stat fr6) st6 stop
   rw[eA] at hd
   refine Fn hd λr s7 q0_ => ?_
   obtain ⟨hr,I7⟩ := q0_
   subst hr
   obtain ⟨m7,hn7,fin7⟩:=bI hX' I3 f3 I7
   exact ⟨m7,hn7,λh8 hs8=>⟨.ref s2.heap.objs.size,H6,fin7 h8 hs8,rfl,qn⟩⟩
  ·have hit:=T.item X' eP eW eK eC i [] s6 _ H6 (λ_ _=>False) I6 (stat fr6) st6 go
   rw[eA] at hit
   refine Fn hit λr s7 q0_ => ?_
   obtain ⟨u,hr,h7⟩ := q0_
   subst hr
   refine Fn h7 λ_ s8 q0_ => ?_
   obtain ⟨y,H8,I8,r8,y8,st8,fr8⟩ := q0_
   have I8':=I8.pinned (stat fr8) (T.obj _ _ st8)
   obtain ⟨N1,N2,hN1,hN2,hst⟩:=step y H8 y8
   have again:∀{H9:Hp} {s9:Ai} {m':Nat},Inv X' ([]++Ru fp s8.heap) (some y::Fl σ js) H9 s9->m'<n->W (i+1) m' H9->∃m,m<n/\∃i o H',Inv X' [] (o::Fl σ js) H' s9/\tn i s9.heap/\(∀b∈fp,H' b=none)/\W i m H':=λ{H9 s9 m'} I9 hm w9=>by
    refine ⟨m',hm,i+1,some y,H9,I9.unpinned,T.keep _ _ _ st8 λb hb o e=>(I9.pin (b,o) (Al _ (Al _ (Hq hb e)))).1,λb hb=>?_,w9⟩
    obtain ⟨o,e,_⟩:=T.obj _ _ st8 b hb
    exact (I9.pin (b,o) (Al _ (Al _ (Hq hb e)))).2.1
   subst hX'
   refine Fn (Kz (i:=0) (x:=x) (pos:=px) C.nd rfl (Tq C.own) (Xh C.own) _ s8 _ H8 y u (λσ' H'=>σ'=some y::Fl σ js/\H'=H8) I8' r8 ⟨rfl,rfl⟩) λ_ s9 q0_ => ?_
   obtain ⟨σ9,H9,I9,e9,e9'⟩ := q0_
   subst e9 e9'
   refine Fn (ht fp s3 _ _ s9 _ _ _ I9 hst) λok s10 q0_ => ?_
   obtain ⟨H10,I10,q10⟩ := q0_
   cases ok with
   | false =>
    rw[if_neg Bq] at q10 ⊢
    obtain ⟨m',hm,w10⟩:=hN1 _ q10
    exact again I10 hm w10
   | true =>
    rw[if_pos rfl] at q10 ⊢
    refine Fn (he fp s3 _ _ s10 _ _ _ I10 q10) λz s11 q0_ => ?_
    obtain ⟨vz,H11,I11,r11,q11⟩ := q0_
    obtain ⟨acc,ha,hz,m',hm,w11⟩:=hN2 _ _ q11
    refine Fn (Lw _ s11 _ H11 (.ref s2.heap.objs.size) [vz] (.ref s2.heap.objs.size) [z] (λ_ H'=>H'=upd H11 s2.heap.objs.size (.lst (acc++[vz]))) I11 rfl (.cons r11 .nil) ⟨_,acc,vz,rfl,rfl,ha,hz,rfl⟩) λ_ s12 q0_ => ?_
    obtain ⟨_,H12,I12,_,e12⟩ := q0_
    subst e12
    exact again I12 hm w11
 exact Mw (loop _ rfl) (T.self X.A 0 _ _ _ st4 (loop _ rfl))
end
structure Walked(J:It)(G:Hp->Prop)(xs:List V):Prop where
 go:∀i H,i<xs.length->G H->J.go i H
 yld:∀i H x H',i<xs.length->G H->J.yld i H x H'->H'=H/\xs[i]? = some x
 stop:∀H,G H->J.stop xs.length H
theorem Xv{K:PySem.W.Frag}:Walked (EH K a) (λH=>Kb K H a xs) xs where
 go:=λi H h q=>⟨xs,xs[i],q,by simp [h]⟩
 yld:=λi H x H' _ q y=>⟨y.1,y.2 xs q⟩
 stop:=λH q=>⟨xs,q,Ak _⟩
theorem qY(wk:Walked J G xs)(hz:xs.length<=Av)(Pv:Addr->Nat->List V->Hp->Prop)
  (h0:∀D,H1 D=none->Pv D 0 [] (upd H1 D (.lst []))) (hg:∀D i acc H,Pv D i acc H->G H)
  (hs:∀D i x acc H,H1 D=none->xs[i]? = some x->H D=some (.lst acc)->Pv D i acc H->tc (some x::Fl σ js) H λc H2=>if c=true then te (some x::Fl σ js) H2 λy H3=>H3 D=some (.lst acc)/\Pv D (i+1) (acc++[y]) (upd H3 D (.lst (acc++[y])))
   else H2 D=some (.lst acc)/\Pv D (i+1) acc H2)
  (hd:∀D acc H,H1 D=none->H D=some (.lst acc)->Pv D xs.length acc H->Q (.ref D) H):K6 J js tc te σ H1 Q:=by
 intro D nD
 refine ⟨λi m H=>m=xs.length - i/\i<=xs.length/\∃acc,H D=some (.lst acc)/\acc.length<=i/\Pv D i acc H,⟨xs.length,by simp,Cr _,[],Cm,Ak _,h0 D nD⟩,?_⟩
 (intro i m H q_; obtain ⟨rfl,hi,acc,ha,hl,p⟩ := q_)
 have g:=hg D i acc H p
 by_cases hlt:i<xs.length
 ·refine .inr ⟨wk.go i H hlt g,λx H' y=>?_⟩
  obtain ⟨e,hx⟩:=wk.yld i H x H' hlt g y
  subst e
  refine ⟨λH2=>H2 D=some (.lst acc)/\Pv D (i+1) acc H2,λy H3=>H3 D=some (.lst acc)/\Pv D (i+1) (acc++[y]) (upd H3 D (.lst (acc++[y]))),λH2 q=>?_,λz H3 q=>?_,hs D i x acc _ nD hx ha p⟩
  ·exact ⟨xs.length - (i+1),by omega,rfl,hlt,acc,q.1,by omega,q.2⟩
  ·exact ⟨acc,q.1,by omega,xs.length - (i+1),by omega,rfl,hlt,acc++[z],Cm,by rw[Bw,Mn]; omega,q.2⟩
 ·have e:i=xs.length:=by omega
  subst e
  exact .inl ⟨wk.stop H g,hd D acc H nD ha p⟩
theorem Dn(h:H p=none)(o:HO):Mg H (upd H p o):=λb u q=>by rw[Cj (Dc q h)]; exact q
theorem Nj{α:Type}{xs:List α}{x:α}(h:xs[i]? = some x):xs.take (i+1)=xs.take i++[x]:=by
 rw[List.take_succ,h]; rfl
mutual
inductive RdV (K:PySem.W.Frag) (H:Hp):V->Ad->Prop
 | non:RdV K H .non .none
 | bl (b:Bool):RdV K H (.bl b) (.bool b)
 | int (i:Int):RdV K H (.int i) (.int i)
 | str (x:Str):RdV K H (.str x) (.str x)
 | lst {a:Addr} {xs:List V} {ds:List Ad}:Kb K H a xs->RdVs K H xs ds->RdV K H (.ref a) (.list ds)
 | tup {a:Addr} {xs:List V} {ds:List Ad}:Vh K H a xs->RdVs K H xs ds->RdV K H (.ref a) (.tuple ds)
inductive RdVs (K:PySem.W.Frag) (H:Hp):List V->List Ad->Prop
 | nil:RdVs K H [] []
 | cons {x:V} {d:Ad} {xs:List V} {ds:List Ad}:RdV K H x d->RdVs K H xs ds->RdVs K H (x::xs) (d::ds)
end
section
variable{X:Cx}{pins:List (Addr×Obj)}{σ:L2.St}{H H':Hp}{s:Ai}{K:PySem.W.Frag}
mutual
theorem RdV.reads(I:Inv X pins σ H s):∀{v:V} {d:Ad} {u:Value},RdV X.K H v d->RelV v u->∃as,Reads s.heap u d as
 | _,_,_,.non,r=>by cases r; exact ⟨_,.none⟩
 | _,_,_,.bl b,r=>by cases r; exact ⟨_,.bool b⟩
 | _,_,_,.int i,r=>by obtain ⟨t,rfl⟩:=r; exact ⟨_,.int i t⟩
 | _,_,_,.str x,r=>by obtain ⟨t,rfl⟩:=r; exact ⟨_,.str x t⟩
 | _,_,_,.lst h hs,r=>by
  cases r
  obtain ⟨its,rv,⟨o,n,e,hc,_,hd⟩,_⟩:=I.list h
  obtain ⟨as,ra⟩:=RdVs.reads I hs rv
  exact ⟨_,.list e hc hd (by simpa using ra)⟩
 | _,_,_,.tup h hs,r=>by
  cases r
  obtain ⟨its,rv,⟨o,e,hc,n,hd⟩,_⟩:=I.tuple h
  obtain ⟨as,ra⟩:=RdVs.reads I hs rv
  exact ⟨_,.tuple e hc hd (by simpa using ra)⟩
theorem RdVs.reads(I:Inv X pins σ H s):∀{vs:List V} {ds:List Ad} {us:List Value},RdVs X.K H vs ds->Fd vs us->∃as,ReadsAll s.heap us ds as
 | _,_,_,.nil,r=>by cases r; exact ⟨_,.nil⟩
 | _,_,_,.cons h hs,r=>by
  cases r with
  | cons r rs =>
   obtain ⟨as,ra⟩:=RdV.reads I h r
   obtain ⟨bs,rb⟩:=RdVs.reads I hs rs
   exact ⟨_,.cons ra rb⟩
end
mutual
theorem RdV.noDict:∀{v:V} {d:Ad},RdV K H v d->d.hasDict=false
 | _,_,.non=>by simp only[Lh]
 | _,_,.bl b=>by simp only[Lh]
 | _,_,.int i=>by simp only[Lh]
 | _,_,.str x=>by simp only[Lh]
 | _,_,.lst h hs=>by simp only[Lh]; exact RdVs.noDict hs
 | _,_,.tup h hs=>by simp only[Lh]; exact RdVs.noDict hs
theorem RdVs.noDict:∀{vs:List V} {ds:List Ad},RdVs K H vs ds->Xp ds=false
 | _,_,.nil=>by simp only[Xp]
 | _,_,.cons h hs=>by simp only[Xp,RdV.noDict h,RdVs.noDict hs,Bool.or_self]
end
end
mutual
def Mz(b:Nat):Ad->Prop
 | .none=>True
 | .bool _=>True
 | .int i=>i.natAbs<10 ^ b
 | .str x=>(reprText x).length<=b
 | .list xs=>Mb b xs
 | .tuple xs=>Mb b xs
 | .dict _=>False
def Mb(b:Nat):List Ad->Prop
 | []=>True
 | x::xs=>Mz b x/\Mb b xs
end
mutual
def Jr:Ad->Nat
 | .list xs=>Kc xs+1
 | .tuple xs=>Kc xs+1
 | _=>1
def Kc:List Ad->Nat
 | []=>0
 | x::xs=>Jr x+Kc xs
end
theorem jX:∀{xs:List Ad},Mb b xs↔∀x∈xs,Mz b x
 | []=>by simp [Mb]
 | x::xs=>by simp only[Mb,Aj,forall_eq_or_imp,jX (xs:=xs)]
theorem Xu:∀{xs:List Ad},(∀x∈xs,Jr x<=m)->Kc xs<=m * xs.length
 | [],_=>by simp [Kc]
 | x::xs,h=>by
  have h1:=h x (Aa ..)
  have h2:=Xu (xs:=xs) λy hy=>h y (Ae _ hy)
  simp only[Kc,Bp,Nat.mul_add,Nat.mul_one]
  omega
theorem nR(ns:List Int):Bi (ns.map An)=0:=by
 induction ns with
 | nil=>rfl
 | cons n ns ih=>simp only[Ar,Bi,Ct,ih,Nat.max_self]
theorem Xx:∀{xs:List Ad},(∀x∈xs,x.depth<=m)->Bi xs<=m
 | [],_=>by simp [Bi]
 | x::xs,h=>by
  have h1:=h x (Aa ..)
  have h2:=Xx (xs:=xs) λy hy=>h y (Ae _ hy)
  simp only[Bi]
  omega
theorem jW(ts:List Str):(listText ts).length<=piled ts+2:=by
 cases ts with
 | nil=>rw[listText_nil]; decide
 | cons t r =>
  have h:=textFrom_length_pos r 1 (("[" : Str)++(if (0:Nat) > 0 then ", " else "" : String)++t) (Nat.succ_pos 0)
  have e:((("[" : Str)++(if (0:Nat) > 0 then ", " else "" : String)++t)).length=1+t.length:=by
   rw[Tt,Tt]; rfl
  have hX:(listText (t::r)).length=(textFrom 0 "[" (t::r)).length+1:=by
   show (textFrom 0 "[" (t::r) ++ "]").length=_
   rw[Tt]; rfl
  have hY:(textFrom 0 "[" (t::r)).length=(textFrom 1 (("[" : Str)++(if (0:Nat) > 0 then ", " else "" : String)++t) r).length:=rfl
  rw[hX,hY,h,e,piled_cons]; omega
theorem fU(ts:List Str):(tupleText ts).length<=piled ts+3:=by
 unfold tupleText
 rw[Tt,Tt]
 have e1:((("(" : String):Str)).length=1:=rfl
 have e3:(((if ts.length == 1 then ",)" else ")" : String):Str)).length<=2:=by split <;> decide
 rw[e1]
 by_cases h:ts=[]
 ·subst h
  have : (Str.join ", " []).length=0:=rfl
  omega
 ·have:=join_length_add ts h
  omega
mutual
theorem iO:∀{d:Ad},Mz b d->d.shown.length+4<=(b+12) * Jr d
 | .none,_=>by simp only[Ny,Jr]; show 4+4<=_; omega
 | .bool c,_=>by
  simp only[Ny,Jr]
  cases c
  ·show 5+4<=_; omega
  ·show 4+4<=_; omega
 | .int i,h=>by
  simp only[Ny,Jr]
  have h':i.natAbs<10 ^ b:=by simpa only [Mz] using h
  have h2:i.natAbs<10 ^ (b+1):=Br h' (Vm (by decide) (by omega))
  have h3:(Ei (Qz i)).length<=b+2:=by
   have h4:=int_text_length_le10 (a:=i) (k:=b+1) (by omega) h2
   have h5:(Ei (Qz i)).length=(Qz i).length:=PySem.ofString_length _
   omega
  have h6:((Qz i:String):Str).length=(Ei (Qz i)).length:=rfl
  omega
 | .str x,h=>by
  simp only[Ny,Jr]
  have h':(reprText x).length<=b:=by simpa only [Mz] using h
  omega
 | .list xs,h=>by
  simp only[Ny,Jr]
  have h1:=Ro (b:=b) (xs:=xs) (by simpa only [Mz] using h)
  have h2:=jW (Nc xs)
  rw[Nat.mul_add]
  omega
 | .tuple xs,h=>by
  simp only[Ny,Jr]
  have h1:=Ro (b:=b) (xs:=xs) (by simpa only [Mz] using h)
  have h2:=fU (Nc xs)
  rw[Nat.mul_add]
  omega
 | .dict kvs,h=>by simp only[Mz] at h
theorem Ro:∀{xs:List Ad},Mb b xs->piled (Nc xs)<=(b+12) * Kc xs
 | [],_=>by simp only[Nc,Kc,piled_nil]; omega
 | x::xs,h=>by
  simp only[Mb] at h
  have h1:=iO h.1
  have h2:=Ro h.2
  simp only[Nc,Kc,piled_cons]
  rw[Nat.mul_add]
  omega
end
theorem tG(hb:b<=400)(h:i<10 ^ b):i.log2<1920:=by
 have h1:i<2 ^ 1920:=Br h (Cc (Vm (by decide) hb) (by decide +kernel))
 by_cases z:i=0
 ·subst z; decide
 ·exact (Nat.log2_lt z).mpr h1
mutual
theorem Xy(hb:b<=400):∀{d:Ad},Mz b d->d.showable=true
 | .none,_=>by simp only[Iv]
 | .bool c,_=>by simp only[Iv]
 | .int i,h=>by
  simp only[Iv]
  exact decide_eq_true (tG hb (by simpa only [Mz] using h))
 | .str x,h=>by simp only[Iv]
 | .list xs,h=>by simp only[Iv]; exact showableAll_of hb (by simpa only [Mz] using h)
 | .tuple xs,h=>by simp only[Iv]; exact showableAll_of hb (by simpa only [Mz] using h)
 | .dict kvs,h=>by simp only[Mz] at h
theorem showableAll_of(hb:b<=400):∀{xs:List Ad},Mb b xs->Wu xs=true
 | [],_=>by simp only[Wu]
 | x::xs,h=>by
  simp only[Mb] at h
  simp only[Wu,Xy hb h.1,showableAll_of hb h.2,Bool.and_self]
end
def fI:Ad->Str
 | .str x=>x
 | d=>d.shown
structure Tells(K:PySem.W.Frag)(H:Hp)(x:V)(d:Ad):Prop where
 rd:RdV K H x d
 fits:∃b,b<=400/\Mz b d/\(b+12) * Jr d<=Av
 depth:d.depth<=90
def AZ(K:PySem.W.Frag):List V->Hp->VK->Prop:=λxs H Q=>∃x d,xs=[x]/\Tells K H x d/\Q (.str (fI d)) H
theorem dM(hg:X.A.guards=some [])(hu:X.A.units+100<cLine):Mf X (.type "str") (AZ X.K):=by
 intro pins s σ H xs us Q I r h
 obtain ⟨x,d,rfl,⟨hr,⟨b,hb,hf,hz⟩,hd⟩,q⟩:=h
 obtain ⟨u,rfl,ru⟩:=vals1 r
 have hs:=Xy hb hf
 have hl:d.shown.length<=Av:=by have:=iO hf; omega
 have hnd:=hr.noDict
 obtain ⟨as,rs⟩:=hr.reads I ru
 cases hr with
 | non=>cases ru; exact PySem.P.str_of_none ⟨.str _,H,I.tok _,⟨_,rfl⟩,q⟩
 | bl c=>cases ru; exact PySem.P.str_of_bool ⟨.str _,H,I.tok _,⟨_,rfl⟩,by cases c <;> exact q⟩
 | int i =>
  obtain ⟨t,rfl⟩:=ru
  exact PySem.P.str_of_int (by simpa [Iv] using hs) ⟨.str _,H,I.tok _,⟨_,rfl⟩,q⟩
 | str y =>
  obtain ⟨t,rfl⟩:=ru
  exact PySem.P.str_of_str ⟨.str _,H,I,⟨_,rfl⟩,q⟩
 | lst h1 h2 =>
  cases ru
  exact str_of_reads rs hs (λz=>by rw[hnd] at z; cases z) hg (by omega) (λ_ _ e=>e) (λh' u tk hk=>⟨.str _,H,I.kept hk,⟨_,rfl⟩,q⟩) hl
 | tup h1 h2 =>
  cases ru
  exact str_of_reads rs hs (λz=>by rw[hnd] at z; cases z) hg (by omega) (λ_ _ e=>e) (λh' u tk hk=>⟨.str _,H,I.kept hk,⟨_,rfl⟩,q⟩) hl
theorem xC(h:i.natAbs<10 ^ b):Mz b (.int i):=by simpa only [Mz] using h
theorem iU(h:∀d∈ds,Mz b d):Mz b (.list ds):=by simpa only [Mz] using jX.mpr h
theorem Fd.at'(r:Fd xs us)(h:j<us.length):∃x,xs[j]? = some x/\RelV x us[j]:=by
 have hl:=r.length
 have hj:j<xs.length:=by omega
 obtain ⟨u,hu,ru⟩:=r.get (i:=j) (x:=xs[j]) (by simp [hj])
 rw[Ap h] at hu
 cases hu
 exact ⟨xs[j],by simp [hj],ru⟩
section
variable{X:Cx}{pins:List (Addr×Obj)}{σ:L2.St}{H:Hp}{s:Ai}{A:Cn}
theorem To(A:Cn):A.in1.units<=A.units+1:=by
 first | exact Ak _ | (simp [Around.in1]; done) | (unfold Around.in1; simp)
theorem lC:Mf X (.builtin "isinstance") (λxs H Q=>∃x n t b,xs=[x,.ty n]/\TyOf X.K H x t/\PySem.W.kitOne X.K t (.type n)=some b/\Q (.bl b) H):=by
 intro pins s σ H xs us Q I r h
 obtain ⟨x,n,t,b,rfl,ty,e,q⟩:=h
 obtain ⟨u,v,rfl,ru,rv⟩:=vals2 r
 cases rv
 exact sL I ru ty e λtk=>⟨.bl b,H,I.tok _,rfl,q⟩
theorem yG(hc:X.calm=true):Mf X (.builtin "all") (λxs H Q=>∃(p:Addr) (bs:List Bool),xs=[.ref p]/\Kb X.K H p (bs.map V.bl)/\Q (.bl (bs.all id)) H):=by
 intro pins s σ H xs us Q I r h
 obtain ⟨p,bs,rfl,hp,q⟩:=h
 obtain ⟨u,rfl,ru⟩:=vals1 r
 cases ru
 obtain ⟨its,rv,pl,_⟩:=I.list hp
 have hlen:its.toArray.size=bs.length:=by
  have:=rv.length
  rw[Ac] at this
  rw[Aq]; omega
 refine call_all_walk (Sn pl.isList ?_)
 have hd:X.A.in1.handled=none:=I.ok.hd hc
 have ne:p≠s.heap.objs.size:=By (let ⟨o,q,_⟩:=pl.isList; Ba q)
 refine ⟨s.heap.objs.size,_,_,_,_,_,λi=>bs.getD i false,rfl,Walks.list hd s.heap.objs.size p ne its.toArray,⟨⟨_,Bb _ rfl,rfl,rfl⟩,pl.isList.push _⟩,?_,?_⟩
 ·intro i v s' Q' E' hv hq
  have hv':its[i]? = some v:=by simpa using hv
  have hi:i<its.length:=(Ah.mp hv').1
  obtain ⟨x,e1,q1⟩:=Fd.at' rv hi
  rw[Ap hi] at hv'
  have hv'':its[i]=v:=Bl hv'
  rw[hv''] at q1
  rw[Az] at e1
  cases eb:bs[i]? with
  | none=>rw[eb] at e1; cases e1
  | some b =>
   rw[eb] at e1
   cases e1
   cases q1
   have : bs.getD i false=b:=by simp [Cs,eb]
   have hq':Q' (bs.getD i false) s':=hq
   rw[this] at hq'
   exact Gv hq'
 ·intro h' tk hk
  have e:((Dk its.toArray.size).all λi=>bs.getD i false)=bs.all id:=by
   rw[hlen]
   have : bs=(Dk bs.length).map (λj=>bs.getD j false):=(range_getD bs false).symm
   conv=>rhs; rw[this]
   rw[Yx]
   rfl
  rw[e]
  refine ⟨.bl _,H,I.kept (h':=h') (t':=tk) (λb o qq=>hk b o ?_ (Af _ qq)),rfl,q⟩
  intro z
  have e2:b=s.heap.objs.size:=by simpa using z
  have e3:=Ba qq
  rw[e2] at e3
  exact absurd e3 (Gf _)
end
mutual
def Do:Ad->Ad->Bool
 | .none,.none=>true
 | .bool a,.bool b=>a == b
 | .bool a,.int b=>(if a then 1 else 0) == b
 | .int a,.bool b=>a == (if b then 1 else 0)
 | .int a,.int b=>a == b
 | .str a,.str b=>a == b
 | .list xs,.list ys=>Oj xs ys
 | .tuple xs,.tuple ys=>Oj xs ys
 | _,_=>false
def Oj:List Ad->List Ad->Bool
 | [],[]=>true
 | x::xs,y::ys=>Do x y && Oj xs ys
 | _,_=>false
end
theorem Nt:∀ds es:List Ad,(((Dk (min ds.length es.length)).all λj=>Do (ds.getD j .none) (es.getD j .none)) && ds.length == es.length)=Oj ds es
 | [],[]=>by simp [Oj]
 | [],_::_=>by simp [Oj]
 | _::_,[]=>by simp [Oj]
 | d::ds,e::es=>by
  have ih:=Nt ds es
  rw[Oj,<- ih]
  have h1:min (d::ds).length (e::es).length=min ds.length es.length+1:=by simp only[Bp]; omega
  rw[h1,List.range_succ_eq_map,List.all_cons,Yx]
  have h2:((d::ds).length == (e::es).length)=(ds.length == es.length):=by
   rw[Tz]; simp
  rw[h2,Bool.and_assoc]
  rfl
section
variable{X:Cx}{pins:List (Addr×Obj)}{σ:L2.St}{H:Hp}{s:Ai}{K:PySem.W.Frag}
mutual
theorem RdV.eqD_self:∀{v:V} {d:Ad},RdV K H v d->Do d d=true
 | _,_,.non=>by simp [Do]
 | _,_,.bl b=>by simp [Do]
 | _,_,.int i=>by simp [Do]
 | _,_,.str x=>by simp [Do]
 | _,_,.lst _ h=>by rw[Do]; exact RdVs.eqDs_self h
 | _,_,.tup _ h=>by rw[Do]; exact RdVs.eqDs_self h
theorem RdVs.eqDs_self:∀{vs:List V} {ds:List Ad},RdVs K H vs ds->Oj ds ds=true
 | _,_,.nil=>by simp [Oj]
 | _,_,.cons h t=>by rw[Oj,RdV.eqD_self h,RdVs.eqDs_self t]; rfl
end
theorem kB(I:Inv X pins σ H s)(h1:Kb X.K H a xs)(h2:Vh X.K H a ys):False:=by
 obtain ⟨us,_,p1,_⟩:=I.list h1
 obtain ⟨vs,_,p2,_⟩:=I.tuple h2
 exact SeqAt.ne_of_list_tuple p1.isList p2 rfl
mutual
theorem RdV.det(I:Inv X pins σ H s):∀{v:V} {d e:Ad},RdV X.K H v d->RdV X.K H v e->d=e
 | _,_,_,.non,h=>by cases h; rfl
 | _,_,_,.bl b,h=>by cases h; rfl
 | _,_,_,.int i,h=>by cases h; rfl
 | _,_,_,.str x,h=>by cases h; rfl
 | _,_,_,.lst q r,h=>by
  cases h with
  | lst q' r' =>
   have e:=I.list_inj q q'
   subst e
   rw[RdVs.det I r r']
  | tup q' r'=>exact (kB I q q').elim
 | _,_,_,.tup q r,h=>by
  cases h with
  | lst q' r'=>exact (kB I q' q).elim
  | tup q' r' =>
   have e:=I.tuple_inj q q'
   subst e
   rw[RdVs.det I r r']
theorem RdVs.det(I:Inv X pins σ H s):∀{vs:List V} {ds es:List Ad},RdVs X.K H vs ds->RdVs X.K H vs es->ds=es
 | _,_,_,.nil,h=>by cases h; rfl
 | _,_,_,.cons r t,h=>by
  cases h with
  | cons r' t'=>rw[RdV.det I r r',RdVs.det I t t']
end
theorem RdVs.length:∀{vs:List V} {ds:List Ad},RdVs K H vs ds->vs.length=ds.length
 | _,_,.nil=>rfl
 | _,_,.cons _ t=>by rw[Bp,Bp,RdVs.length t]
theorem Wy{A:Cn}(h:A.units+(n+1)<cLine):A.in1.units+n<cLine:=by
 have:=To A
 omega
theorem jC{us vs:List Value}(p1:PlainL s.heap a us.toArray)(p2:PlainL s.heap b vs.toArray)(l1:us.length=ds.length)(l2:vs.length=es.length)(hu:A.units<cLine)(he:∀j (h1:j<us.length) (h2:j<vs.length),Ml A.in1 s us[j] vs[j] (Do (ds.getD j .none) (es.getD j .none))):SeqAt.RcAt A s (.ref a) (.ref b) (Oj ds es):=by
 rw[<- Nt]
 by_cases hl:ds.length=es.length
 ·have hs:us.toArray.size=vs.toArray.size:=by rw[Aq,Aq,l1,l2,hl]
  have h:=SeqAt.RcAt.lists (A:=A) (e:=λj=>Do (ds.getD j .none) (es.getD j .none)) p1.isList p2.isList hs hu (λj h1 h2=>by simpa using he j (by simpa using h1) (by simpa using h2))
  rw[Aq,l1] at h
  rw[hl,Nat.min_self,beq_self_eq_true,Bool.and_true,<- hl]
  exact h
 ·have hs:(us.toArray.size != vs.toArray.size)=true:=by rw[Aq,Aq,l1,l2]; simpa using hl
  have h:=SeqAt.RcAt.lists_lengths (A:=A) p1.isList p2.isList hs hu
  have e0:(ds.length == es.length)=false:=by simpa using hl
  rw[e0,Bool.and_false]
  exact h
theorem cN{us vs:List Value}(p1:IsTup s.heap a us.toArray)(p2:IsTup s.heap b vs.toArray)(l1:us.length=ds.length)(l2:vs.length=es.length)(hu:A.units<cLine)(he:∀j (h1:j<us.length) (h2:j<vs.length),Ml A.in1 s us[j] vs[j] (Do (ds.getD j .none) (es.getD j .none))):SeqAt.RcAt A s (.ref a) (.ref b) (Oj ds es):=by
 rw[<- Nt]
 have h:=SeqAt.RcAt.tuples (A:=A) (e:=λj=>Do (ds.getD j .none) (es.getD j .none)) (show s.heap.IsTuple a us.toArray from p1) (show s.heap.IsTuple b vs.toArray from p2) hu (λj h1 h2=>by simpa using he j (by simpa using h1) (by simpa using h2))
 rw[Aq,Aq,l1,l2] at h
 exact h
mutual
theorem uN(I:Inv X pins σ H s):∀{A:Cn} {x y:V} {d e:Ad} {u v:Value},RdV X.K H x d->RdV X.K H y e->RelV x u->RelV y v->A.units+d.depth<cLine->Ml A s u v (Do d e)
 | A,_,_,_,_,_,_,.non,h,ru,rv,hu=>by
  cases ru
  have hu':A.units<cLine:=by omega
  cases h with
  | non=>cases rv; rw[Do]; exact SeqAt.EqAt.same _
  | bl b=>cases rv; rw[Do]; exact SeqAt.EqAt.none_bool b; all_goals simp
  | int b=>obtain ⟨t,rfl⟩:=rv; rw[Do]; exact SeqAt.EqAt.none_int b t; all_goals simp
  | str b=>obtain ⟨t,rfl⟩:=rv; rw[Do]; exact SeqAt.EqAt.none_str b t; all_goals simp
  | lst q r=>cases rv; obtain ⟨us,_,p,_⟩:=I.list q; rw[Do]; exact SeqAt.EqAt.none_list p.isList hu'; all_goals simp
  | tup q r=>cases rv; obtain ⟨us,_,p,_⟩:=I.tuple q; rw[Do]; exact SeqAt.EqAt.none_tuple p hu'; all_goals simp
 | A,_,_,_,_,_,_,.bl a,h,ru,rv,hu=>by
  cases ru
  have hu':A.units<cLine:=by omega
  cases h with
  | non=>cases rv; rw[Do]; exact SeqAt.EqAt.bool_none a; all_goals simp
  | bl b=>cases rv; rw[Do]; exact SeqAt.EqAt.bool_bool a b
  | int b=>obtain ⟨t,rfl⟩:=rv; rw[Do]; exact SeqAt.EqAt.bool_int a b t
  | str b=>obtain ⟨t,rfl⟩:=rv; rw[Do]; exact SeqAt.EqAt.bool_str a b t; all_goals simp
  | lst q r=>cases rv; obtain ⟨us,_,p,_⟩:=I.list q; rw[Do]; exact SeqAt.EqAt.bool_list a p.isList hu'; all_goals simp
  | tup q r=>cases rv; obtain ⟨us,_,p,_⟩:=I.tuple q; rw[Do]; exact SeqAt.EqAt.bool_tuple a p hu'; all_goals simp
 | A,_,_,_,_,_,_,.int a,h,ru,rv,hu=>by
  obtain ⟨t',rfl⟩:=ru
  have hu':A.units<cLine:=by omega
  cases h with
  | non=>cases rv; rw[Do]; exact SeqAt.EqAt.int_none a t'; all_goals simp
  | bl b=>cases rv; rw[Do]; exact SeqAt.EqAt.int_bool a t' b
  | int b=>obtain ⟨t,rfl⟩:=rv; rw[Do]; exact SeqAt.EqAt.int_int a t' b t
  | str b=>obtain ⟨t,rfl⟩:=rv; rw[Do]; exact SeqAt.EqAt.int_str a t' b t; all_goals simp
  | lst q r=>cases rv; obtain ⟨us,_,p,_⟩:=I.list q; rw[Do]; exact SeqAt.EqAt.int_list a t' p.isList hu'; all_goals simp
  | tup q r=>cases rv; obtain ⟨us,_,p,_⟩:=I.tuple q; rw[Do]; exact SeqAt.EqAt.int_tuple a t' p hu'; all_goals simp
 | A,_,_,_,_,_,_,.str a,h,ru,rv,hu=>by
  obtain ⟨t',rfl⟩:=ru
  have hu':A.units<cLine:=by omega
  cases h with
  | non=>cases rv; rw[Do]; exact SeqAt.EqAt.str_none a t'; all_goals simp
  | bl b=>cases rv; rw[Do]; exact SeqAt.EqAt.str_bool a t' b; all_goals simp
  | int b=>obtain ⟨t,rfl⟩:=rv; rw[Do]; exact SeqAt.EqAt.str_int a t' b t; all_goals simp
  | str b=>obtain ⟨t,rfl⟩:=rv; rw[Do]; exact SeqAt.EqAt.str_str a t' b t
  | lst q r=>cases rv; obtain ⟨us,_,p,_⟩:=I.list q; rw[Do]; exact SeqAt.EqAt.str_list a t' p.isList hu'; all_goals simp
  | tup q r=>cases rv; obtain ⟨us,_,p,_⟩:=I.tuple q; rw[Do]; exact SeqAt.EqAt.str_tuple a t' p hu'; all_goals simp
 | A,_,_,_,_,_,_,@RdV.lst _ _ a xs ds q r,h,ru,rv,hu=>by
  cases ru
  have hu':A.units<cLine:=by omega
  obtain ⟨us,r1,p,_⟩:=I.list q
  cases h with
  | non=>cases rv; rw[Do]; exact SeqAt.EqAt.list_none p.isList hu'; all_goals simp
  | bl b=>cases rv; rw[Do]; exact SeqAt.EqAt.list_bool b p.isList hu'; all_goals simp
  | int b=>obtain ⟨t,rfl⟩:=rv; rw[Do]; exact SeqAt.EqAt.list_int b t p.isList hu'; all_goals simp
  | str b=>obtain ⟨t,rfl⟩:=rv; rw[Do]; exact SeqAt.EqAt.list_str b t p.isList hu'; all_goals simp
  | @lst b ys es q2 rr2 =>
   cases rv
   obtain ⟨vs,r2,p2,_⟩:=I.list q2
   rw[Do]
   by_cases hab:a=b
   ·subst hab
    have e:=I.list_inj q q2
    subst e
    rw[<- RdVs.det I r rr2,RdVs.eqDs_self r]
    exact SeqAt.EqAt.same _
   ·refine SeqAt.EqAt.of_refs hab (jC p p2 (r1.length.symm.trans r.length) (r2.length.symm.trans rr2.length) hu' λj h1 h2=>?_)
    exact Ql I r rr2 r1 r2 (Wy (by simpa only [Ct] using hu)) j h1 h2
  | tup q2 rr2=>cases rv; obtain ⟨vs,_,p2,_⟩:=I.tuple q2; rw[Do]; exact SeqAt.EqAt.list_tuple p.isList p2 hu'; all_goals simp
 | A,_,_,_,_,_,_,@RdV.tup _ _ a xs ds q r,h,ru,rv,hu=>by
  cases ru
  have hu':A.units<cLine:=by omega
  obtain ⟨us,r1,p,_⟩:=I.tuple q
  cases h with
  | non=>cases rv; rw[Do]; exact SeqAt.EqAt.tuple_none p hu'; all_goals simp
  | bl b=>cases rv; rw[Do]; exact SeqAt.EqAt.tuple_bool b p hu'; all_goals simp
  | int b=>obtain ⟨t,rfl⟩:=rv; rw[Do]; exact SeqAt.EqAt.tuple_int b t p hu'; all_goals simp
  | str b=>obtain ⟨t,rfl⟩:=rv; rw[Do]; exact SeqAt.EqAt.tuple_str b t p hu'; all_goals simp
  | lst q2 rr2=>cases rv; obtain ⟨vs,_,p2,_⟩:=I.list q2; rw[Do]; exact SeqAt.EqAt.tuple_list p p2.isList hu'; all_goals simp
  | @tup b ys es q2 rr2 =>
   cases rv
   obtain ⟨vs,r2,p2,_⟩:=I.tuple q2
   rw[Do]
   by_cases hab:a=b
   ·subst hab
    have e:=I.tuple_inj q q2
    subst e
    rw[<- RdVs.det I r rr2,RdVs.eqDs_self r]
    exact SeqAt.EqAt.same _
   ·refine SeqAt.EqAt.of_refs hab (cN p p2 (r1.length.symm.trans r.length) (r2.length.symm.trans rr2.length) hu' λj h1 h2=>?_)
    exact Ql I r rr2 r1 r2 (Wy (by simpa only [Ct] using hu)) j h1 h2
theorem Ql(I:Inv X pins σ H s):∀{A:Cn} {xs ys:List V} {ds es:List Ad} {us vs:List Value},RdVs X.K H xs ds->RdVs X.K H ys es->Fd xs us->Fd ys vs->A.units+Bi ds<cLine->∀j (h1:j<us.length) (h2:j<vs.length),Ml A s us[j] vs[j] (Do (ds.getD j .none) (es.getD j .none))
 | _,_,_,_,_,_,_,.nil,_,r1,_,_=>λj h1 h2=>by cases r1; exact absurd h1 (Nat.not_lt_zero _)
 | A,_,_,_,_,_,_,@RdVs.cons _ _ x d xs ds r t,h,r1,r2,hu=>λj h1 h2=>by
  cases h with
  | nil=>cases r2; exact absurd h2 (Nat.not_lt_zero _)
  | cons r' t' =>
   cases r1 with
   | cons ra ta =>
    cases r2 with
    | cons rb tb =>
     have hm:A.units+d.depth<cLine/\A.units+Bi ds<cLine:=by
      simp only[Bi] at hu
      omega
     cases j with
     | zero=>simpa using uN I r r' ra rb hm.1
     | succ j=>simpa using Ql I t t' ta tb hm.2 j (by simpa using h1) (by simpa using h2)
end
end
section
variable{X:Cx}{pins:List (Addr×Obj)}{σ:L2.St}{H:Hp}{s:Ai}{K:PySem.W.Frag}
theorem rJ{us vs:List Value}(p1:PlainL s.heap a us.toArray)(p2:PlainL s.heap b vs.toArray)(l1:us.length=ds.length)(l2:vs.length=es.length)(hu:A.units<cLine)(he:∀j (h1:j<us.length) (h2:j<vs.length),Ml A.in1 s us[j] vs[j] (Do (ds.getD j .none) (es.getD j .none))):SeqAt.RcNeAt A s (.ref a) (.ref b) (!Oj ds es):=by
 rw[<- Nt]
 by_cases hl:ds.length=es.length
 ·have hs:us.toArray.size=vs.toArray.size:=by rw[Aq,Aq,l1,l2,hl]
  have h:=SeqAt.RcNeAt.lists (A:=A) (e:=λj=>Do (ds.getD j .none) (es.getD j .none)) p1.isList p2.isList hs hu (λj h1 h2=>by simpa using he j (by simpa using h1) (by simpa using h2))
  rw[Aq,l1] at h
  rw[hl,Nat.min_self,beq_self_eq_true,Bool.and_true,<- hl]
  exact h
 ·have hs:(us.toArray.size != vs.toArray.size)=true:=by rw[Aq,Aq,l1,l2]; simpa using hl
  have h:=SeqAt.RcNeAt.lists_lengths (A:=A) p1.isList p2.isList hs hu
  have e0:(ds.length == es.length)=false:=by simpa using hl
  rw[e0,Bool.and_false]
  exact h
theorem lY{us vs:List Value}(p1:IsTup s.heap a us.toArray)(p2:IsTup s.heap b vs.toArray)(l1:us.length=ds.length)(l2:vs.length=es.length)(hu:A.units<cLine)(he:∀j (h1:j<us.length) (h2:j<vs.length),Ml A.in1 s us[j] vs[j] (Do (ds.getD j .none) (es.getD j .none))):SeqAt.RcNeAt A s (.ref a) (.ref b) (!Oj ds es):=by
 rw[<- Nt]
 have h:=SeqAt.RcNeAt.tuples (A:=A) (e:=λj=>Do (ds.getD j .none) (es.getD j .none)) (show s.heap.IsTuple a us.toArray from p1) (show s.heap.IsTuple b vs.toArray from p2) hu (λj h1 h2=>by simpa using he j (by simpa using h1) (by simpa using h2))
 rw[Aq,Aq,l1,l2] at h
 exact h
end
section
variable{X:Cx}
def CP(K:PySem.W.Frag):R2:=λx y H Q=>∃d e,RdV K H x d/\RdV K H y e/\d.depth<=60/\Q (.bl (Do d e)) H
def BD(K:PySem.W.Frag):R2:=λx y H Q=>∃d e,RdV K H x d/\RdV K H y e/\d.depth<=60/\Q (.bl (!Do d e)) H
theorem vP(hu:X.A.units+64<cLine):Xo X (Ho .Eq) (CP X.K):=by
 intro pins s σ H x y v u Q I rx ry h
 obtain ⟨d,e,h1,h2,hd,q⟩:=h
 have hu':X.A.units<cLine:=by omega
 cases h1 with
 | non =>
  cases rx
  cases h2 with
  | non=>cases ry; rw[Do] at q; exact SeqAt.RcAt.none_none _ _ _ _ ⟨.bl _,H,I,rfl,q⟩
  | bl b=>cases ry; rw[Do] at q; exact SeqAt.RcAt.none_bool b _ _ _ _ ⟨.bl _,H,I,rfl,q⟩; all_goals simp
  | int b=>obtain ⟨t,rfl⟩:=ry; rw[Do] at q; exact SeqAt.RcAt.none_int b t _ _ _ _ ⟨.bl _,H,I,rfl,q⟩; all_goals simp
  | str b=>obtain ⟨t,rfl⟩:=ry; rw[Do] at q; exact SeqAt.RcAt.none_str b t _ _ _ _ ⟨.bl _,H,I,rfl,q⟩; all_goals simp
  | @lst b ys es q2 rr2=>cases ry; obtain ⟨vs,r2,p2,_⟩:=I.list q2; rw[Do] at q; exact SeqAt.RcAt.none_list p2.isList hu' _ _ _ _ ⟨.bl _,H,I,rfl,q⟩; all_goals simp
  | @tup b ys es q2 rr2=>cases ry; obtain ⟨vs,r2,p2,_⟩:=I.tuple q2; rw[Do] at q; exact SeqAt.RcAt.none_tuple p2 hu' _ _ _ _ ⟨.bl _,H,I,rfl,q⟩; all_goals simp
 | bl a =>
  cases rx
  cases h2 with
  | non=>cases ry; rw[Do] at q; exact SeqAt.RcAt.bool_none a _ _ _ _ ⟨.bl _,H,I,rfl,q⟩; all_goals simp
  | bl b=>cases ry; rw[Do] at q; exact SeqAt.RcAt.bool_bool a b _ _ _ _ ⟨.bl _,H,I,rfl,q⟩
  | int b=>obtain ⟨t,rfl⟩:=ry; rw[Do] at q; exact SeqAt.RcAt.bool_int a b t _ _ _ _ ⟨.bl _,H,I,rfl,q⟩
  | str b=>obtain ⟨t,rfl⟩:=ry; rw[Do] at q; exact SeqAt.RcAt.bool_str a b t _ _ _ _ ⟨.bl _,H,I,rfl,q⟩; all_goals simp
  | @lst b ys es q2 rr2=>cases ry; obtain ⟨vs,r2,p2,_⟩:=I.list q2; rw[Do] at q; exact SeqAt.RcAt.bool_list a p2.isList hu' _ _ _ _ ⟨.bl _,H,I,rfl,q⟩; all_goals simp
  | @tup b ys es q2 rr2=>cases ry; obtain ⟨vs,r2,p2,_⟩:=I.tuple q2; rw[Do] at q; exact SeqAt.RcAt.bool_tuple a p2 hu' _ _ _ _ ⟨.bl _,H,I,rfl,q⟩; all_goals simp
 | int a =>
  obtain ⟨t',rfl⟩:=rx
  cases h2 with
  | non=>cases ry; rw[Do] at q; exact SeqAt.RcAt.int_none a t' _ _ _ _ ⟨.bl _,H,I,rfl,q⟩; all_goals simp
  | bl b=>cases ry; rw[Do] at q; exact SeqAt.RcAt.int_bool a t' b _ _ _ _ ⟨.bl _,H,I,rfl,q⟩
  | int b=>obtain ⟨t,rfl⟩:=ry; rw[Do] at q; exact SeqAt.RcAt.int_int a t' b t _ _ _ _ ⟨.bl _,H,I,rfl,q⟩
  | str b=>obtain ⟨t,rfl⟩:=ry; rw[Do] at q; exact SeqAt.RcAt.int_str a t' b t _ _ _ _ ⟨.bl _,H,I,rfl,q⟩; all_goals simp
  | @lst b ys es q2 rr2=>cases ry; obtain ⟨vs,r2,p2,_⟩:=I.list q2; rw[Do] at q; exact SeqAt.RcAt.int_list a t' p2.isList hu' _ _ _ _ ⟨.bl _,H,I,rfl,q⟩; all_goals simp
  | @tup b ys es q2 rr2=>cases ry; obtain ⟨vs,r2,p2,_⟩:=I.tuple q2; rw[Do] at q; exact SeqAt.RcAt.int_tuple a t' p2 hu' _ _ _ _ ⟨.bl _,H,I,rfl,q⟩; all_goals simp
 | str a =>
  obtain ⟨t',rfl⟩:=rx
  cases h2 with
  | non=>cases ry; rw[Do] at q; exact SeqAt.RcAt.str_none a t' _ _ _ _ ⟨.bl _,H,I,rfl,q⟩; all_goals simp
  | bl b=>cases ry; rw[Do] at q; exact SeqAt.RcAt.str_bool a t' b _ _ _ _ ⟨.bl _,H,I,rfl,q⟩; all_goals simp
  | int b=>obtain ⟨t,rfl⟩:=ry; rw[Do] at q; exact SeqAt.RcAt.str_int a t' b t _ _ _ _ ⟨.bl _,H,I,rfl,q⟩; all_goals simp
  | str b=>obtain ⟨t,rfl⟩:=ry; rw[Do] at q; exact SeqAt.RcAt.str_str a t' b t _ _ _ _ ⟨.bl _,H,I,rfl,q⟩
  | @lst b ys es q2 rr2=>cases ry; obtain ⟨vs,r2,p2,_⟩:=I.list q2; rw[Do] at q; exact SeqAt.RcAt.str_list a t' p2.isList hu' _ _ _ _ ⟨.bl _,H,I,rfl,q⟩; all_goals simp
  | @tup b ys es q2 rr2=>cases ry; obtain ⟨vs,r2,p2,_⟩:=I.tuple q2; rw[Do] at q; exact SeqAt.RcAt.str_tuple a t' p2 hu' _ _ _ _ ⟨.bl _,H,I,rfl,q⟩; all_goals simp
 | @lst a xs ds qa r =>
  cases rx
  obtain ⟨us,r1,p,_⟩:=I.list qa
  cases h2 with
  | non=>cases ry; rw[Do] at q; exact SeqAt.RcAt.list_none p.isList hu' _ _ _ _ ⟨.bl _,H,I,rfl,q⟩; all_goals simp
  | bl b=>cases ry; rw[Do] at q; exact SeqAt.RcAt.list_bool b p.isList hu' _ _ _ _ ⟨.bl _,H,I,rfl,q⟩; all_goals simp
  | int b=>obtain ⟨t,rfl⟩:=ry; rw[Do] at q; exact SeqAt.RcAt.list_int b t p.isList hu' _ _ _ _ ⟨.bl _,H,I,rfl,q⟩; all_goals simp
  | str b=>obtain ⟨t,rfl⟩:=ry; rw[Do] at q; exact SeqAt.RcAt.list_str b t p.isList hu' _ _ _ _ ⟨.bl _,H,I,rfl,q⟩; all_goals simp
  | @lst b ys es q2 rr2=>cases ry; obtain ⟨vs,r2,p2,_⟩:=I.list q2; rw[Do] at q; exact jC p p2 (r1.length.symm.trans r.length) (r2.length.symm.trans rr2.length) hu' (λj h1 h2=>Ql I r rr2 r1 r2 (Wy (by simp only[Ct] at hd; omega)) j h1 h2) _ _ _ _ ⟨.bl _,H,I,rfl,q⟩
  | @tup b ys es q2 rr2=>cases ry; obtain ⟨vs,r2,p2,_⟩:=I.tuple q2; rw[Do] at q; exact SeqAt.RcAt.list_tuple p.isList p2 hu' _ _ _ _ ⟨.bl _,H,I,rfl,q⟩; all_goals simp
 | @tup a xs ds qa r =>
  cases rx
  obtain ⟨us,r1,p,_⟩:=I.tuple qa
  cases h2 with
  | non=>cases ry; rw[Do] at q; exact SeqAt.RcAt.tuple_none p hu' _ _ _ _ ⟨.bl _,H,I,rfl,q⟩; all_goals simp
  | bl b=>cases ry; rw[Do] at q; exact SeqAt.RcAt.tuple_bool b p hu' _ _ _ _ ⟨.bl _,H,I,rfl,q⟩; all_goals simp
  | int b=>obtain ⟨t,rfl⟩:=ry; rw[Do] at q; exact SeqAt.RcAt.tuple_int b t p hu' _ _ _ _ ⟨.bl _,H,I,rfl,q⟩; all_goals simp
  | str b=>obtain ⟨t,rfl⟩:=ry; rw[Do] at q; exact SeqAt.RcAt.tuple_str b t p hu' _ _ _ _ ⟨.bl _,H,I,rfl,q⟩; all_goals simp
  | @lst b ys es q2 rr2=>cases ry; obtain ⟨vs,r2,p2,_⟩:=I.list q2; rw[Do] at q; exact SeqAt.RcAt.tuple_list p p2.isList hu' _ _ _ _ ⟨.bl _,H,I,rfl,q⟩; all_goals simp
  | @tup b ys es q2 rr2=>cases ry; obtain ⟨vs,r2,p2,_⟩:=I.tuple q2; rw[Do] at q; exact cN p p2 (r1.length.symm.trans r.length) (r2.length.symm.trans rr2.length) hu' (λj h1 h2=>Ql I r rr2 r1 r2 (Wy (by simp only[Ct] at hd; omega)) j h1 h2) _ _ _ _ ⟨.bl _,H,I,rfl,q⟩
theorem Q7(hu:X.A.units+64<cLine):Xo X (Ho .NotEq) (BD X.K):=by
 intro pins s σ H x y v u Q I rx ry h
 obtain ⟨d,e,h1,h2,hd,q⟩:=h
 have hu':X.A.units<cLine:=by omega
 cases h1 with
 | non =>
  cases rx
  cases h2 with
  | non=>cases ry; rw[Do] at q; exact SeqAt.RcNeAt.none_none _ _ _ _ ⟨.bl _,H,I,rfl,q⟩
  | bl b=>cases ry; rw[Do] at q; exact SeqAt.RcNeAt.none_bool b _ _ _ _ ⟨.bl _,H,I,rfl,q⟩; all_goals simp
  | int b=>obtain ⟨t,rfl⟩:=ry; rw[Do] at q; exact SeqAt.RcNeAt.none_int b t _ _ _ _ ⟨.bl _,H,I,rfl,q⟩; all_goals simp
  | str b=>obtain ⟨t,rfl⟩:=ry; rw[Do] at q; exact SeqAt.RcNeAt.none_str b t _ _ _ _ ⟨.bl _,H,I,rfl,q⟩; all_goals simp
  | @lst b ys es q2 rr2=>cases ry; obtain ⟨vs,r2,p2,_⟩:=I.list q2; rw[Do] at q; exact SeqAt.RcNeAt.none_list p2.isList hu' _ _ _ _ ⟨.bl _,H,I,rfl,q⟩; all_goals simp
  | @tup b ys es q2 rr2=>cases ry; obtain ⟨vs,r2,p2,_⟩:=I.tuple q2; rw[Do] at q; exact SeqAt.RcNeAt.none_tuple p2 hu' _ _ _ _ ⟨.bl _,H,I,rfl,q⟩; all_goals simp
 | bl a =>
  cases rx
  cases h2 with
  | non=>cases ry; rw[Do] at q; exact SeqAt.RcNeAt.bool_none a _ _ _ _ ⟨.bl _,H,I,rfl,q⟩; all_goals simp
  | bl b=>cases ry; rw[Do] at q; exact SeqAt.RcNeAt.bool_bool a b _ _ _ _ ⟨.bl _,H,I,rfl,q⟩
  | int b=>obtain ⟨t,rfl⟩:=ry; rw[Do] at q; exact SeqAt.RcNeAt.bool_int a b t _ _ _ _ ⟨.bl _,H,I,rfl,q⟩
  | str b=>obtain ⟨t,rfl⟩:=ry; rw[Do] at q; exact SeqAt.RcNeAt.bool_str a b t _ _ _ _ ⟨.bl _,H,I,rfl,q⟩; all_goals simp
  | @lst b ys es q2 rr2=>cases ry; obtain ⟨vs,r2,p2,_⟩:=I.list q2; rw[Do] at q; exact SeqAt.RcNeAt.bool_list a p2.isList hu' _ _ _ _ ⟨.bl _,H,I,rfl,q⟩; all_goals simp
  | @tup b ys es q2 rr2=>cases ry; obtain ⟨vs,r2,p2,_⟩:=I.tuple q2; rw[Do] at q; exact SeqAt.RcNeAt.bool_tuple a p2 hu' _ _ _ _ ⟨.bl _,H,I,rfl,q⟩; all_goals simp
 | int a =>
  obtain ⟨t',rfl⟩:=rx
  cases h2 with
  | non=>cases ry; rw[Do] at q; exact SeqAt.RcNeAt.int_none a t' _ _ _ _ ⟨.bl _,H,I,rfl,q⟩; all_goals simp
  | bl b=>cases ry; rw[Do] at q; exact SeqAt.RcNeAt.int_bool a t' b _ _ _ _ ⟨.bl _,H,I,rfl,q⟩
  | int b=>obtain ⟨t,rfl⟩:=ry; rw[Do] at q; exact SeqAt.RcNeAt.int_int a t' b t _ _ _ _ ⟨.bl _,H,I,rfl,q⟩
  | str b=>obtain ⟨t,rfl⟩:=ry; rw[Do] at q; exact SeqAt.RcNeAt.int_str a t' b t _ _ _ _ ⟨.bl _,H,I,rfl,q⟩; all_goals simp
  | @lst b ys es q2 rr2=>cases ry; obtain ⟨vs,r2,p2,_⟩:=I.list q2; rw[Do] at q; exact SeqAt.RcNeAt.int_list a t' p2.isList hu' _ _ _ _ ⟨.bl _,H,I,rfl,q⟩; all_goals simp
  | @tup b ys es q2 rr2=>cases ry; obtain ⟨vs,r2,p2,_⟩:=I.tuple q2; rw[Do] at q; exact SeqAt.RcNeAt.int_tuple a t' p2 hu' _ _ _ _ ⟨.bl _,H,I,rfl,q⟩; all_goals simp
 | str a =>
  obtain ⟨t',rfl⟩:=rx
  cases h2 with
  | non=>cases ry; rw[Do] at q; exact SeqAt.RcNeAt.str_none a t' _ _ _ _ ⟨.bl _,H,I,rfl,q⟩; all_goals simp
  | bl b=>cases ry; rw[Do] at q; exact SeqAt.RcNeAt.str_bool a t' b _ _ _ _ ⟨.bl _,H,I,rfl,q⟩; all_goals simp
  | int b=>obtain ⟨t,rfl⟩:=ry; rw[Do] at q; exact SeqAt.RcNeAt.str_int a t' b t _ _ _ _ ⟨.bl _,H,I,rfl,q⟩; all_goals simp
  | str b=>obtain ⟨t,rfl⟩:=ry; rw[Do] at q; exact SeqAt.RcNeAt.str_str a t' b t _ _ _ _ ⟨.bl _,H,I,rfl,q⟩
  | @lst b ys es q2 rr2=>cases ry; obtain ⟨vs,r2,p2,_⟩:=I.list q2; rw[Do] at q; exact SeqAt.RcNeAt.str_list a t' p2.isList hu' _ _ _ _ ⟨.bl _,H,I,rfl,q⟩; all_goals simp
  | @tup b ys es q2 rr2=>cases ry; obtain ⟨vs,r2,p2,_⟩:=I.tuple q2; rw[Do] at q; exact SeqAt.RcNeAt.str_tuple a t' p2 hu' _ _ _ _ ⟨.bl _,H,I,rfl,q⟩; all_goals simp
 | @lst a xs ds qa r =>
  cases rx
  obtain ⟨us,r1,p,_⟩:=I.list qa
  cases h2 with
  | non=>cases ry; rw[Do] at q; exact SeqAt.RcNeAt.list_none p.isList hu' _ _ _ _ ⟨.bl _,H,I,rfl,q⟩; all_goals simp
  | bl b=>cases ry; rw[Do] at q; exact SeqAt.RcNeAt.list_bool b p.isList hu' _ _ _ _ ⟨.bl _,H,I,rfl,q⟩; all_goals simp
  | int b=>obtain ⟨t,rfl⟩:=ry; rw[Do] at q; exact SeqAt.RcNeAt.list_int b t p.isList hu' _ _ _ _ ⟨.bl _,H,I,rfl,q⟩; all_goals simp
  | str b=>obtain ⟨t,rfl⟩:=ry; rw[Do] at q; exact SeqAt.RcNeAt.list_str b t p.isList hu' _ _ _ _ ⟨.bl _,H,I,rfl,q⟩; all_goals simp
  | @lst b ys es q2 rr2=>cases ry; obtain ⟨vs,r2,p2,_⟩:=I.list q2; rw[Do] at q; exact rJ p p2 (r1.length.symm.trans r.length) (r2.length.symm.trans rr2.length) hu' (λj h1 h2=>Ql I r rr2 r1 r2 (Wy (by simp only[Ct] at hd; omega)) j h1 h2) _ _ _ _ ⟨.bl _,H,I,rfl,q⟩
  | @tup b ys es q2 rr2=>cases ry; obtain ⟨vs,r2,p2,_⟩:=I.tuple q2; rw[Do] at q; exact SeqAt.RcNeAt.list_tuple p.isList p2 hu' _ _ _ _ ⟨.bl _,H,I,rfl,q⟩; all_goals simp
 | @tup a xs ds qa r =>
  cases rx
  obtain ⟨us,r1,p,_⟩:=I.tuple qa
  cases h2 with
  | non=>cases ry; rw[Do] at q; exact SeqAt.RcNeAt.tuple_none p hu' _ _ _ _ ⟨.bl _,H,I,rfl,q⟩; all_goals simp
  | bl b=>cases ry; rw[Do] at q; exact SeqAt.RcNeAt.tuple_bool b p hu' _ _ _ _ ⟨.bl _,H,I,rfl,q⟩; all_goals simp
  | int b=>obtain ⟨t,rfl⟩:=ry; rw[Do] at q; exact SeqAt.RcNeAt.tuple_int b t p hu' _ _ _ _ ⟨.bl _,H,I,rfl,q⟩; all_goals simp
  | str b=>obtain ⟨t,rfl⟩:=ry; rw[Do] at q; exact SeqAt.RcNeAt.tuple_str b t p hu' _ _ _ _ ⟨.bl _,H,I,rfl,q⟩; all_goals simp
  | @lst b ys es q2 rr2=>cases ry; obtain ⟨vs,r2,p2,_⟩:=I.list q2; rw[Do] at q; exact SeqAt.RcNeAt.tuple_list p p2.isList hu' _ _ _ _ ⟨.bl _,H,I,rfl,q⟩; all_goals simp
  | @tup b ys es q2 rr2=>cases ry; obtain ⟨vs,r2,p2,_⟩:=I.tuple q2; rw[Do] at q; exact lY p p2 (r1.length.symm.trans r.length) (r2.length.symm.trans rr2.length) hu' (λj h1 h2=>Ql I r rr2 r1 r2 (Wy (by simp only[Ct] at hd; omega)) j h1 h2) _ _ _ _ ⟨.bl _,H,I,rfl,q⟩
theorem wX(h:RelV z v)(h':RelV z' v):z=z':=by
 cases z <;> cases z' <;> simp only[L2.RelV] at h h' <;> first | rfl | (subst h; cases h'; rfl) | (subst h; cases h'; done) | (obtain ⟨t,rfl⟩:=h; obtain ⟨t',e⟩:=h'; cases e; rfl) | (obtain ⟨t,rfl⟩:=h; obtain ⟨t',e⟩:=h'; cases e; done) | (obtain ⟨t,rfl⟩:=h; cases h'; done) | (subst h; obtain ⟨t',e⟩:=h'; cases e)
open Classical in
noncomputable def Lk(K:PySem.W.Frag)(H:Hp)(d:Ad)(v:Value):Bool:=if h:∃e z,RdV K H z e/\RelV z v then Do h.choose d else false
theorem aP{pins:List (Addr×Obj)}{σ:L2.St}(I:Inv X pins σ H s)(h:RdV X.K H z e)(r:RelV z v):Lk X.K H d v=Do e d:=by
 unfold Lk
 have hx:∃e z,RdV X.K H z e/\RelV z v:=⟨e,z,h,r⟩
 rw[dif_pos hx]
 obtain ⟨z',h',r'⟩:=hx.choose_spec
 have ez:=wX r' r
 subst ez
 rw[RdV.det I h' h]
theorem Pr{σ:L2.St}(I:Inv X pins σ H s):∀{xs:List V} {ds:List Ad} {us:List Value},RdVs X.K H xs ds->Fd xs us->us.any (Lk X.K H d)=ds.any λe=>Do e d
 | _,_,_,.nil,r=>by cases r; rfl
 | _,_,_,.cons h t,r=>by
  cases r with
  | cons r1 r2=>rw[Ia,Ia,aP I h r1,Pr I t r2]
theorem Nk{pins:List (Addr×Obj)}{σ:L2.St}(I:Inv X pins σ H s)(hx:RdV X.K H x d)(rx:RelV x u):∀{xs:List V} {ds:List Ad} {us:List Value},RdVs X.K H xs ds->Fd xs us->A.units+Bi ds<cLine->∀v∈us,Ml A s v u (Lk X.K H d v)
 | _,_,_,.nil,r,_=>λv hv=>by cases r; cases hv
 | _,_,_,@RdVs.cons _ _ y e ys es h t,r,hu=>λv hv=>by
  have hm:A.units+e.depth<cLine/\A.units+Bi es<cLine:=by
   simp only[Bi] at hu
   omega
  cases r with
  | cons r1 r2 =>
   rcases Aj.mp hv with rfl | hv
   ·rw[aP I h r1]; exact uN I h hx r1 rx hm.1
   ·exact Nk I hx rx t r2 hm.2 v hv
def S6(K:PySem.W.Frag)(neg:Bool):R2:=λx y H Q=>∃p xs d ds,y=.ref p/\(Kb K H p xs\/Vh K H p xs)/\RdV K H x d/\RdVs K H xs ds/\Bi ds<=60/\Q (.bl (if neg then !(ds.any λe=>Do e d) else ds.any λe=>Do e d)) H
theorem xV(hu:X.A.units+64<cLine):Xo X (Ho .In) (S6 X.K false):=by
 intro pins s σ H x y v u Q I rx ry h
 obtain ⟨p,xs,d,ds,rfl,hq,hx,hs,hd,q⟩:=h
 cases ry
 have hu1:X.A.in1.units+Bi ds<cLine:=by have:=To X.A; omega
 rcases hq with hq | hq
 ·obtain ⟨its,r,pl,hz⟩:=I.list hq
  refine SeqAt.in_listAt (Lk X.K H d) pl.isList (λw hw=>Nk I hx rx hs r hu1 w (by simpa using hw)) ⟨.bl _,H,I,rfl,?_⟩
  rw[show its.toArray.any (Lk X.K H d)=its.any (Lk X.K H d) by simp,Pr I hs r]
  exact q
 ·obtain ⟨its,r,pl,hz⟩:=I.tuple hq
  refine SeqAt.in_tupleAt (Lk X.K H d) pl (λw hw=>Nk I hx rx hs r hu1 w (by simpa using hw)) ⟨.bl _,H,I,rfl,?_⟩
  rw[show its.toArray.any (Lk X.K H d)=its.any (Lk X.K H d) by simp,Pr I hs r]
  exact q
theorem rR(hu:X.A.units+64<cLine):Xo X (Ho .NotIn) (S6 X.K true):=by
 intro pins s σ H x y v u Q I rx ry h
 obtain ⟨p,xs,d,ds,rfl,hq,hx,hs,hd,q⟩:=h
 cases ry
 have hu1:X.A.in1.units+Bi ds<cLine:=by have:=To X.A; omega
 rcases hq with hq | hq
 ·obtain ⟨its,r,pl,hz⟩:=I.list hq
  refine SeqAt.notIn_listAt (Lk X.K H d) pl.isList (λw hw=>Nk I hx rx hs r hu1 w (by simpa using hw)) ⟨.bl _,H,I,rfl,?_⟩
  rw[show its.toArray.any (Lk X.K H d)=its.any (Lk X.K H d) by simp,Pr I hs r]
  exact q
 ·obtain ⟨its,r,pl,hz⟩:=I.tuple hq
  refine SeqAt.notIn_tupleAt (Lk X.K H d) pl (λw hw=>Nk I hx rx hs r hu1 w (by simpa using hw)) ⟨.bl _,H,I,rfl,?_⟩
  rw[show its.toArray.any (Lk X.K H d)=its.any (Lk X.K H d) by simp,Pr I hs r]
  exact q
end
def FE(K:PySem.W.Frag)(a:Addr):It :=
 ⟨λi H=>∃xs x,Kb K H a xs/\xs[i]? = some x,λi H x H'=>∃p y,x=.ref p/\H p=none/\H'=upd H p (.tup [.int i,y])/\∀xs,Kb K H a xs->xs[i]? = some y,λi H=>∃xs,Kb K H a xs/\xs.length<=i⟩
section
variable{X:Cx}{pins:List (Addr×Obj)}{σ:L2.St}{H:Hp}{s:Ai}{h':Heap}
theorem Kh{fp:List Addr}(I:Inv X pins σ H s)(k:∀b o,b∉fp->s.heap.get? b=some o->h'.get? b=some o)(hf:∀b∈fp,Ky X pins H b):Inv X pins σ H { s with heap:=h',toks:=t' }:=by
 have nit:∀b u,H b=some u->b∉fp:=λb u e z=>by rw[(hf b z).1] at e; cases e
 refine I.step (g':=s.gens) (d':=s.drawn) (ch:=fp) (λb hb=>?_) (λb o _ _ hc e _=>k b o hc e) (λb o _ _ hc e _=>⟨o.slots,k b o hc e⟩) (λ_ _ _ _ n=>n)
  (λb o hc e=>⟨o,k b o hc e⟩) (λ_ _ e=>e) (λ_ _ _ e=>e) (λb ps e=>⟨#[],by rw[e]; simp⟩) (λm hm=>?_) (λb u e=>?_) I.bare
 ·obtain ⟨_,f1,_,f3,f4,f5⟩:=hf b hb
  exact ⟨f3,f1,f4,f5⟩
 ·obtain ⟨o,es,ep,ho,r⟩:=hm
  exact ⟨o,es,ep,k _ o (λz=>(hf _ z).2.1 rfl) ho,r⟩
 ·refine (I.hok b u e).stay (λc v hc q=>k c v ?_ q) (λ_ q=>q) λ_ _ q=>q
  rcases hc with z | z
  ·rw[z]; exact nit b u e
  ·exact nit c _ z
end
theorem tK{K:PySem.W.Frag}(a e it:Addr)(ne:e≠it):Turn P w K (.Tuple elts k pos) (FE K a) [e,it] e (λi h=>(∃old,IsEnum h e it ((i:Nat):Int) old)/\h.IsListIter it a i) where
 mem:=Aa
 obj:=λi h st b hb=>by
  obtain ⟨⟨old,he⟩,o,e1,c,d⟩:=st
  rcases Aj.mp hb with z | z
  ·subst z
   exact ⟨_,he,λv z=>by cases z⟩
  ·rw[Ag.mp z]
   exact ⟨o,e1,λv z=>by rw[d] at z; cases z⟩
 keep:=λi h h' st kp=>⟨let ⟨old,he⟩:=st.1; ⟨old,kp e Aa _ he⟩,st.2.at λo q=>kp it (Ae _ Aa) o q⟩
 item:=by
  intro X hP hw hK hc i pins s σ H E I hf st hg
  subst hP hw hK
  obtain ⟨xs,x,hq,hx⟩:=hg
  obtain ⟨its,rv,p,hz⟩:=I.list hq
  obtain ⟨u,hu,ru⟩:=rv.get hx
  obtain ⟨⟨old,he⟩,hit⟩:=st
  have el:e<s.heap.objs.size:=Ba he
  have il:it<s.heap.objs.size:=by obtain ⟨_,q,_⟩:=hit; exact Ba q
  refine wpAny_pyNext_enum_item he hit p.isList (x:=u) (by simpa using hu) ne λh1 ho hit1 hT hsz hk=>⟨_,rfl,wpAny_letOwnedTupleGo_enum ho λh2 he2 hs2=>?_⟩
  have hs2':Dh e h1 h2:=hs2
  -- the pair laid,then the iterators turned
  have I1:Inv X pins σ (upd H s.heap.objs.size (.tup [.int i,x])) { s with heap:=s.heap.push { cls:=.type "tuple",data:=.seq #[.int i s.toks,u] } } :=
   I.laid (t':=s.toks) (λb o q=>Af _ q) (Ak _) ⟨by show 2<=Av; decide,[.int i s.toks,u],.cons ⟨_,rfl⟩ (.cons ru .nil),_,Bb _ rfl,rfl,0,rfl⟩
  have nT:∀b∈[e,it],b≠s.heap.objs.size:=λb hb=>by
   rcases Aj.mp hb with z | z
   ·rw[z]; exact By el
   ·rw[Ag.mp z]; exact By il
  have fr:∀b∈[e,it],(upd H s.heap.objs.size (.tup [.int i,x])) b=none:=λb hb=>by rw[Cj (nT b hb)]; exact (hf b hb).1
  refine ⟨.ref s.heap.objs.size,_,Kh (fp:=[e,it]) (s:={ s with heap:=s.heap.push { cls:=.type "tuple",data:=.seq #[.int i s.toks,u] } }) (h':=h2) (t':=s.toks+1) I1 (λb o hb q=>?_) (λb hb=>⟨fr b hb,(hf b hb).2⟩),rfl,⟨_,x,rfl,I.hok.fresh (Ak _),rfl,λys hy=>by rw[I.list_inj hy hq]; exact hx⟩,⟨⟨u,?_⟩,?_⟩,fr⟩
  ·have nbe:b≠e:=λz=>hb (by rw[z]; exact Aa)
   have nbi:b≠it:=λz=>hb (by rw[z]; exact Ae _ Aa)
   refine (hs2'.2 b nbe).trans ?_
   by_cases hbT:b=s.heap.objs.size
   ·subst hbT
    have q':=(Bb s.heap (o:={ cls:=.type "tuple",data:=.seq #[.int i s.toks,u] }) rfl).symm.trans q
    rw[hT]
    exact q'
   ·refine hk b o nbe nbi ?_
    have q0:(s.heap.push { cls:=.type "tuple",data:=.seq #[.int i s.toks,u] }).get? b=some o:=q
    rcases Ve q0 with z | z
    ·exact absurd z.1 hbT
    ·exact z
  ·have : ((i+1:Nat):Int)=(i:Int)+1:=by omega
   rw[this]
   exact he2
  ·exact hit1.at λo q=>(hs2'.2 it (Pj ne)).trans q
 done:=by
  intro X hP hw hK hc i pins s σ H E I hf st hg
  subst hP hw hK
  obtain ⟨xs,hq,hx⟩:=hg
  obtain ⟨its,rv,p,hz⟩:=I.list hq
  obtain ⟨⟨old,he⟩,hit⟩:=st
  have hl:=rv.length
  exact wpAny_pyNext_enum_end (I.ok.hd hc) he hit p.isList (by simp; omega) λh1 eb=>⟨rfl,Kh (fp:=[e,it]) (t':=s.toks) I (λb o hb q=>eb b o (λz=>hb (by rw[z]; exact Ae _ Aa)) q) hf⟩
 self:=λ_ _ _ _ _ st h=>let ⟨_,he⟩:=st.1; wpAny_pyIter_enum he h
section
variable{X:Cx}
def Z6(K:PySem.W.Frag)(ta:TA):TI:=λσ H R=>ta σ H λvs H1=>∃a,vs=[.ref a]/\(∃xs,Kb K H1 a xs)/\R (FE K a) H1
theorem C2(hg:Gl X "enumerate")(hm:X.mg "enumerate" = none)(ha:PA X [a] ta)(hs:Bm [a] X.env=[(false,eval a X.env)]:=by rfl):PI X (.Tuple elts k tp) (.Call (.Name "enumerate" p) [a] [] pos) (Z6 X.K ta):=by
 intro pins s σ H R I h
 refine Call_ (Mq I hg hm (u:=.type "enumerate") (by decide +kernel) (Eb (Fn (ha pos pins s σ H _ I h) λus s1 ⟨vs,H1,I1,r1,q1⟩=>?_) hs rfl))
 obtain ⟨l,e,⟨xs,hq⟩,q⟩:=q1
 subst e
 obtain ⟨u,rfl,ru⟩:=vals1 r1
 cases ru
 obtain ⟨its,rv,pl,hz⟩:=I1.list hq
 refine call_enumerate_list pl.isList λh2 he hit hsz hk=>wpAny_pyIter_enum he ?_
 have fr:∀b∈[s1.heap.objs.size+1,s1.heap.objs.size],Ky X pins H1 b:=λb hb=>by
  rcases Aj.mp hb with z | z
  ·rw[z]; exact I1.fpOk (Vn _) (I1.hok.fresh (Vn _))
  ·rw[Ag.mp z]; exact I1.fpOk (Ak _) (I1.hok.fresh (Ak _))
 exact ⟨s1.heap.objs.size+1,[s1.heap.objs.size+1,s1.heap.objs.size],_,_,H1,rfl,I1.kept (t':=s1.toks) hk,tK l _ _ (Nat.succ_ne_self _),⟨⟨_,he⟩,hit⟩,fr,q⟩
end
section
variable{X:Cx}
def P5(K:PySem.W.Frag)(J:It)(js:List Nat)(tc:TT)(te:TE)(σ:L2.St)(H1:Hp)(Q:VK):Prop:=∀D,H1 D=none->∃W:Nat->Nat->Hp->Prop,(∃m,W 0 m (upd H1 D (.lst [])))/\∀i m H,W i m H ->
 (J.stop i H/\Q (.ref D) H)\/(J.go i H/\∀x H',J.yld i H x H'->∃(t:Addr) (w1 w2:V),x=.ref t/\Vh K H' t [w1,w2]/\∃(N1:Hp->Prop) (N2:VK),(∀H2,N1 H2->∃m',m'<m/\W (i+1) m' H2) /\
  (∀y H3,N2 y H3->∃acc,H3 D=some (.lst acc)/\acc.length<Av/\∃m',m'<m/\W (i+1) m' (upd H3 D (.lst (acc++[y])))) /\
  tc (some w1::some w2::Fl σ js) H' λc H2=>if c=true then te (some w1::some w2::Fl σ js) H2 N2 else N1 H2)
def fZ(K:PySem.W.Frag)(wi:TI)(js:List Nat)(tc:TT)(te:TE):TE:=λσ H Q=>wi σ H λJ H1=>P5 K J js tc te σ H1 Q
theorem yA(C:CompScope X scope cl x ys js)(own2:mP scope x2)(nd2:(x::x2::ys).Nodup)(hc:X.calm=true)(hi:PI X (.Tuple [.Name x px,.Name x2 px2] kt pt) iter wi)(ht:∀fp s H,oM (Dy X scope cl (x::x2::ys) fp s H) ifs tc)(he:∀fp s H,PE (Dy X scope cl (x::x2::ys) fp s H) elt te)(hs:∀x,Dz iter X.env x=pure x:=by intro _; rfl):PE X (.ListComp elt [⟨.Tuple [.Name x px,.Name x2 px2] kt pt,iter,ifs,0⟩] scope pos) (fZ X.K wi js tc te):=by
 intro pins s σ H Q I h
 rw[eval_ListComp]
 refine Ln (use:=none) rfl hs C.clos C.kind C.locs (Fn (hi pins s σ H _ I h) λv s1 h1=>Fn h1 λitv s2 h2=>?_)
 obtain ⟨it,fp,tn,J,H2,e,I2,T,st2,f2,q2⟩:=h2
 subst e
 have fD:H2 s2.heap.objs.size=none:=I2.hok.fresh (Ak _)
 obtain ⟨W,⟨m0,w0⟩,turn⟩:=q2 s2.heap.objs.size fD
 refine Fs ?_
 have I3:Inv X pins σ (upd H2 s2.heap.objs.size (.lst [])) { s2 with heap:=s2.heap.push { cls:=.type "list",dict:=none,data:=.seq ([]:List Value).toArray } } :=
  I2.laid (t':=s2.toks) (λb u q=>Af _ q) (Ak _) ⟨Cr _,[],0,.nil,Bb _ rfl⟩
 obtain ⟨f3,st3',o3'⟩:=Wa I2 T st2 f2 I3
 generalize hS3:({ s2 with heap:=s2.heap.push { cls:=.type "list",dict:=none,data:=.seq ([]:List Value).toArray } }:Ai)=s3 at I3
 have st3:tn 0 s3.heap:=by rw[<- hS3]; exact st3'
 have o3:∀b∈fp,∃o,s3.heap.get? b=some o:=by rw[<- hS3]; exact o3'
 show wpAny _ _ (Mv scope X.env.globals cl [] X.env.qual none .none (some X.env)) _ _ _
 refine Tn C λh4 hns4 keep4 new4=>?_
 have I4:∀tk,Inv (Dy X scope cl (x::x2::ys) fp s3 (upd H2 s2.heap.objs.size (.lst []))) [] (none::none::Fl σ js) (upd H2 s2.heap.objs.size (.lst [])) { s3 with heap:=h4,toks:=tk }:=λtk=>Qh (pre:=[x,x2]) C I3 f3 o3 hns4 keep4 new4
 have st4:tn 0 h4:=T.keep 0 _ _ st3 λb hb o q=>keep4 b o q
 generalize hX':Dy X scope cl (x::x2::ys) fp s3 (upd H2 s2.heap.objs.size (.lst []))=X' at I4
 obtain ⟨eP,eW,eK,eA,eC⟩:=We hc hX'
 have stat:∀{H':Hp},(∀b∈fp,H' b=none)->∀b∈fp,Ky X' [] H' b:=λ{H'} hn=>Tp hX' (I4 0) hn
 have loop:∀s5:Ai,s5={ s3 with heap:=h4,toks:=s3.toks+([]:List (Str×Value)).length } ->
   Mx (model X.prog X.w) X.A (.compLoop (.ListComp elt [⟨.Tuple [.Name x px,.Name x2 px2] kt pt,iter,ifs,0⟩] scope pos) 0 (.ref it) (.ref s2.heap.objs.size) (compEnvC scope (Eh (s3.heap.objs.size+1) scope.names cl) s3.heap.objs.size X.env))
    (compPost (model X.prog X.w) X.A X.xe none (EP X pins σ Q) (.ref s2.heap.objs.size) s3.heap.objs.size) s5:=by
  rintro s5 rfl
  refine Qm (λn s'=>∃i o o2 H',Inv X' [] (o::o2::Fl σ js) H' s'/\tn i s'.heap/\(∀b∈fp,H' b=none)/\W i n H') ?_ m0
   ⟨0,none,none,_,I4 _,st4,λb hb=>(f3 b hb).1,w0⟩
  (intro n s6 q_; obtain ⟨i,o,o2,H6,I6,st6,fr6,w6⟩ := q_)
  rcases turn i n H6 w6 with ⟨stop,qn⟩ | ⟨go,step⟩
  ·have hd:=T.done X' eP eW eK eC i [] s6 _ H6 (λ_ _=>False) I6 (stat fr6) st6 stop
   rw[eA] at hd
   refine Fn hd λr s7 q0_ => ?_
   obtain ⟨hr,I7⟩ := q0_
   subst hr
   obtain ⟨m7,hn7,fin7⟩:=bI hX' I3 f3 I7
   exact ⟨m7,hn7,λh8 hs8=>⟨.ref s2.heap.objs.size,H6,fin7 h8 hs8,rfl,qn⟩⟩
  ·have hit:=T.item X' eP eW eK eC i [] s6 _ H6 (λ_ _=>False) I6 (stat fr6) st6 go
   rw[eA] at hit
   refine Fn hit λr s7 q0_ => ?_
   obtain ⟨u,hr,h7⟩ := q0_
   subst hr
   refine Fn h7 λ_ s8 q0_ => ?_
   obtain ⟨y,H8,I8,r8,y8,st8,fr8⟩ := q0_
   have I8':=I8.pinned (stat fr8) (T.obj _ _ st8)
   obtain ⟨tp,w1,w2,ey,hsq,N1,N2,hN1,hN2,hst⟩:=step y H8 y8
   have again:∀{H9:Hp} {s9:Ai} {m':Nat},Inv X' ([]++Ru fp s8.heap) (some w1::some w2::Fl σ js) H9 s9->m'<n->W (i+1) m' H9->∃m,m<n/\∃i o o2 H',Inv X' [] (o::o2::Fl σ js) H' s9/\tn i s9.heap/\(∀b∈fp,H' b=none)/\W i m H':=λ{H9 s9 m'} I9 hm w9=>by
    refine ⟨m',hm,i+1,some w1,some w2,H9,I9.unpinned,T.keep _ _ _ st8 λb hb o e=>(I9.pin (b,o) (Al _ (Al _ (Hq hb e)))).1,λb hb=>?_,w9⟩
    obtain ⟨o,e,_⟩:=T.obj _ _ st8 b hb
    exact (I9.pin (b,o) (Al _ (Al _ (Hq hb e)))).2.1
   subst hX'
   have g1:PG (Dy X scope cl (x::x2::ys) fp s3 (upd H2 s2.heap.objs.size (.lst []))) (.Tuple [.Name x px,.Name x2 px2] kt pt) (S0 X.K 2 (iT (Rz 0) (iT (Rz 1) T5))) :=
    mG (X:=Dy X scope cl (x::x2::ys) fp s3 (upd H2 s2.heap.objs.size (.lst []))) hc (Sh (Kz (i:=0) (x:=x) nd2 rfl (Tq C.own) (Xh C.own)) (Sh (Kz (i:=1) (x:=x2) nd2 rfl (Tq own2) (Xh own2)) iD))
   refine Fn (g1 _ s8 _ H8 y u (λσ' H'=>σ'=some w1::some w2::Fl σ js/\H'=H8) I8' r8 ⟨tp,[w1,w2],ey,hsq,rfl,_,_,rfl,_,_,rfl,rfl,rfl,rfl⟩) λ_ s9 q0_ => ?_
   obtain ⟨σ9,H9,I9,e9,e9'⟩ := q0_
   subst e9 e9'
   refine Fn (ht fp s3 _ _ s9 _ _ _ I9 hst) λok s10 q0_ => ?_
   obtain ⟨H10,I10,q10⟩ := q0_
   cases ok with
   | false =>
    rw[if_neg Bq] at q10 ⊢
    obtain ⟨m',hm,w10⟩:=hN1 _ q10
    exact again I10 hm w10
   | true =>
    rw[if_pos rfl] at q10 ⊢
    refine Fn (he fp s3 _ _ s10 _ _ _ I10 q10) λz s11 q0_ => ?_
    obtain ⟨vz,H11,I11,r11,q11⟩ := q0_
    obtain ⟨acc,ha,hz,m',hm,w11⟩:=hN2 _ _ q11
    refine Fn (Lw _ s11 _ H11 (.ref s2.heap.objs.size) [vz] (.ref s2.heap.objs.size) [z] (λ_ H'=>H'=upd H11 s2.heap.objs.size (.lst (acc++[vz]))) I11 rfl (.cons r11 .nil) ⟨_,acc,vz,rfl,rfl,ha,hz,rfl⟩) λ_ s12 q0_ => ?_
    obtain ⟨_,H12,I12,_,e12⟩ := q0_
    subst e12
    exact again I12 hm w11
 exact Mw (loop _ rfl) (T.self X.A 0 _ _ _ st4 (loop _ rfl))
end
section
variable{X:Cx}
theorem qC{elt iter:Expr}{x y0:Str}{px py pos spos:Pos}{i0:Nat}{ifs:List Expr}{scope:Scope}(hN:X.N.Nodup)(hi0:X.N[i0]? = some y0)(hy0:X.env.scope.names.lookup y0=some .local)(C:CompScope X scope cl x ys js)(hc:X.calm=true)(hi:PI X (.Name x px) iter wi)(ht:∀fp s H,oM (Dy X scope cl (x::ys) fp s H) ifs tc)(he:∀fp s H,PE (Dy X scope cl (x::ys) fp s H) elt te)(hs:∀x,Dz iter X.env x=pure x:=by intro _; rfl)(hsw:Hm (.ListComp elt [⟨.Name x px,iter,ifs,0⟩] scope pos) (some (.Name y0 py)) spos.line X.env=pure true:=by rfl):PS X (.Assign [.Name y0 py] (.ListComp elt [⟨.Name x px,iter,ifs,0⟩] scope pos) spos) (uG (kN wi js tc te) (Rz i0)):=by
 intro pins s σ H De I h
 have h:kN wi js tc te σ H λv H1=>De.nx (σ.set i0 (some v)) H1:=h
 rw[exec_Assign_Name_used _ _ _ _ hsw]
 refine Ab (bJ (Ab ?_))
 show wpAny _ X.A (do let _ <- comprehension (.ListComp elt [⟨.Name x px,iter,ifs,0⟩] scope pos) scope X.env _ (newList []) false (eval iter X.env) (some (Tv (.Name y0 py) X.env))) _ _ s
 refine Ab (Eo (Ln (use:=some (Tv (.Name y0 py) X.env)) (Q:=λ_ s'=>SP X pins De .next s') rfl hs C.clos C.kind C.locs (Fn (hi pins s σ H _ I h) λv s1 h1=>Fn h1 λitv s2 h2=>?_)) (λ_ s' hq=>Ao (Ao hq)) λ_ _ e=>e)
 obtain ⟨it,fp,tn,J,H2,e,I2,T,st2,f2,q2⟩:=h2
 subst e
 have fD:H2 s2.heap.objs.size=none:=I2.hok.fresh (Ak _)
 obtain ⟨W,⟨m0,w0⟩,turn⟩:=q2 s2.heap.objs.size fD
 refine Fs ?_
 have I3:Inv X pins σ (upd H2 s2.heap.objs.size (.lst [])) { s2 with heap:=s2.heap.push { cls:=.type "list",dict:=none,data:=.seq ([]:List Value).toArray } } :=
  I2.laid (t':=s2.toks) (λb u q=>Af _ q) (Ak _) ⟨Cr _,[],0,.nil,Bb _ rfl⟩
 obtain ⟨f3,st3',o3'⟩:=Wa I2 T st2 f2 I3
 generalize hS3:({ s2 with heap:=s2.heap.push { cls:=.type "list",dict:=none,data:=.seq ([]:List Value).toArray } }:Ai)=s3 at I3
 have st3:tn 0 s3.heap:=by rw[<- hS3]; exact st3'
 have o3:∀b∈fp,∃o,s3.heap.get? b=some o:=by rw[<- hS3]; exact o3'
 show wpAny _ _ (Mv scope X.env.globals cl [] X.env.qual none .none (some X.env)) _ _ _
 refine Tn C λh4 hns4 keep4 new4=>?_
 have I4:∀tk,Inv (Dy X scope cl (x::ys) fp s3 (upd H2 s2.heap.objs.size (.lst []))) [] (none::Fl σ js) (upd H2 s2.heap.objs.size (.lst [])) { s3 with heap:=h4,toks:=tk }:=λtk=>Qh (pre:=[x]) C I3 f3 o3 hns4 keep4 new4
 have st4:tn 0 h4:=T.keep 0 _ _ st3 λb hb o q=>keep4 b o q
 generalize hX':Dy X scope cl (x::ys) fp s3 (upd H2 s2.heap.objs.size (.lst []))=X' at I4
 obtain ⟨eP,eW,eK,eA,eC⟩:=We hc hX'
 have stat:∀{H':Hp},(∀b∈fp,H' b=none)->∀b∈fp,Ky X' [] H' b:=λ{H'} hn=>Tp hX' (I4 0) hn
 have loop:∀s5:Ai,s5={ s3 with heap:=h4,toks:=s3.toks+([]:List (Str×Value)).length } ->
   Mx (model X.prog X.w) X.A (.compLoop (.ListComp elt [⟨.Name x px,iter,ifs,0⟩] scope pos) 0 (.ref it) (.ref s2.heap.objs.size) (compEnvC scope (Eh (s3.heap.objs.size+1) scope.names cl) s3.heap.objs.size X.env))
    (compPost (model X.prog X.w) X.A X.xe (some (Tv (.Name y0 py) X.env)) (λ_ s'=>SP X pins De .next s') (.ref s2.heap.objs.size) s3.heap.objs.size) s5:=by
  rintro s5 rfl
  refine Qm (λn s'=>∃i o H',Inv X' [] (o::Fl σ js) H' s'/\tn i s'.heap/\(∀b∈fp,H' b=none)/\W i n H') ?_ m0
   ⟨0,none,_,I4 _,st4,λb hb=>(f3 b hb).1,w0⟩
  (intro n s6 q_; obtain ⟨i,o,H6,I6,st6,fr6,w6⟩ := q_)
  rcases turn i n H6 w6 with ⟨stop,qn⟩ | ⟨go,step⟩
  ·have hd:=T.done X' eP eW eK eC i [] s6 _ H6 (λ_ _=>False) I6 (stat fr6) st6 stop
   rw[eA] at hd
   refine Fn hd λr s7 q0_ => ?_
   obtain ⟨hr,I7⟩ := q0_
   subst hr
   obtain ⟨⟨m7,hn7'⟩,I7f,J7⟩:=cU hX' I3 f3 I7
   have fC:Ky X pins H6 s3.heap.objs.size:=I3.fpOk (Ak _) I7f
   obtain ⟨oC,esC,epC,hoC,rC⟩:=id hn7'
   have J8:Inv X (pins++[(s3.heap.objs.size,oC)]) σ H6 s7:=J7.pins_of λp hp=>by
    rcases Bg.mp hp with z | z
    ·have q:=J7.pin p (Al _ z)
     exact q
    ·rw[Ag.mp z]
     exact ⟨hoC,I7f,fC.2.1,fC.2.2.1,λv hv=>by rw[rC.1] at hv; cases hv⟩
   refine Fn (Kz (X:=X) (i:=i0) (x:=y0) (pos:=py) hN hi0 (.inl hy0) (.inr hy0) (pins++[(s3.heap.objs.size,oC)]) s7 σ H6 (.ref s2.heap.objs.size) (.ref s2.heap.objs.size) (λσ' H'=>σ'=σ.set i0 (some (.ref s2.heap.objs.size))/\H'=H6) J8 rfl ⟨rfl,rfl⟩) λ_ s9 q0_ => ?_
   obtain ⟨σ9,H9,I9,e9,e9'⟩ := q0_
   subst e9 e9'
   have hoC9:=(I9.pin (s3.heap.objs.size,oC) (Al _ (Al _ Aa))).1
   have I9':Inv X pins (σ.set i0 (some (.ref s2.heap.objs.size))) H9 s9:=I9.pins_of λp hp=>I9.pin p (Al _ (Am _ hp))
   refine ⟨m7,hn7'.at λo e=>by rw[hoC] at e; cases e; exact hoC9,λh10 hs10=>?_⟩
   exact ⟨_,H9,Kh (t':=s9.toks) (fp:=[s3.heap.objs.size]) I9' (λb o hb e=>(hs10.2 b (λz=>hb (by rw[z]; exact Aa))).trans e) (λb hb=>by rw[Ag.mp hb]; exact fC),qn⟩
  ·have hit:=T.item X' eP eW eK eC i [] s6 _ H6 (λ_ _=>False) I6 (stat fr6) st6 go
   rw[eA] at hit
   refine Fn hit λr s7 q0_ => ?_
   obtain ⟨u,hr,h7⟩ := q0_
   subst hr
   refine Fn h7 λ_ s8 q0_ => ?_
   obtain ⟨y,H8,I8,r8,y8,st8,fr8⟩ := q0_
   have I8':=I8.pinned (stat fr8) (T.obj _ _ st8)
   obtain ⟨N1,N2,hN1,hN2,hst⟩:=step y H8 y8
   have again:∀{H9:Hp} {s9:Ai} {m':Nat},Inv X' ([]++Ru fp s8.heap) (some y::Fl σ js) H9 s9->m'<n->W (i+1) m' H9->∃m,m<n/\∃i o H',Inv X' [] (o::Fl σ js) H' s9/\tn i s9.heap/\(∀b∈fp,H' b=none)/\W i m H':=λ{H9 s9 m'} I9 hm w9=>by
    refine ⟨m',hm,i+1,some y,H9,I9.unpinned,T.keep _ _ _ st8 λb hb o e=>(I9.pin (b,o) (Al _ (Al _ (Hq hb e)))).1,λb hb=>?_,w9⟩
    obtain ⟨o,e,_⟩:=T.obj _ _ st8 b hb
    exact (I9.pin (b,o) (Al _ (Al _ (Hq hb e)))).2.1
   subst hX'
   refine Fn (Kz (i:=0) (x:=x) (pos:=px) C.nd rfl (Tq C.own) (Xh C.own) _ s8 _ H8 y u (λσ' H'=>σ'=some y::Fl σ js/\H'=H8) I8' r8 ⟨rfl,rfl⟩) λ_ s9 q0_ => ?_
   obtain ⟨σ9,H9,I9,e9,e9'⟩ := q0_
   subst e9 e9'
   refine Fn (ht fp s3 _ _ s9 _ _ _ I9 hst) λok s10 q0_ => ?_
   obtain ⟨H10,I10,q10⟩ := q0_
   cases ok with
   | false =>
    rw[if_neg Bq] at q10 ⊢
    obtain ⟨m',hm,w10⟩:=hN1 _ q10
    exact again I10 hm w10
   | true =>
    rw[if_pos rfl] at q10 ⊢
    refine Fn (he fp s3 _ _ s10 _ _ _ I10 q10) λz s11 q0_ => ?_
    obtain ⟨vz,H11,I11,r11,q11⟩ := q0_
    obtain ⟨acc,ha,hz,m',hm,w11⟩:=hN2 _ _ q11
    refine Fn (Lw _ s11 _ H11 (.ref s2.heap.objs.size) [vz] (.ref s2.heap.objs.size) [z] (λ_ H'=>H'=upd H11 s2.heap.objs.size (.lst (acc++[vz]))) I11 rfl (.cons r11 .nil) ⟨_,acc,vz,rfl,rfl,ha,hz,rfl⟩) λ_ s12 q0_ => ?_
    obtain ⟨_,H12,I12,_,e12⟩ := q0_
    subst e12
    exact again I12 hm w11
 exact Mw (loop _ rfl) (T.self X.A 0 _ _ _ st4 (loop _ rfl))
end
end Nd
namespace Nd
open PySem L2
end Nd
namespace Nd
open PySem PySem.Spec PyProof.Rows L2
end Nd
namespace Nd
open PySem L2
def GQ(K:PySem.W.Frag):List V->Hp->VK->Prop:=λxs H Q=>∃x n t b,xs=[x,.ty n]/\TyOf K H x t/\PySem.W.kitOne K t (.type n)=some b/\Q (.bl b) H
theorem oY:Mf X (.builtin "isinstance") (GQ X.K):=lC
theorem W6:PySem.W.kitOne K (.type T) (.type T)=some true:=by
 unfold PySem.W.kitOne
 rw[if_pos (by simp)]
theorem compScope0(clos:bU scope X.env=pure [])(nocell:∀y∈scope.names,y.2≠.cell)(kind:scope.kind=.function)(locs:∀y∈scope.names,y.2=.local->scope.names.lookup y.1=some .local)(own:scope.names.lookup x=some .local)(has_:(scope.names.all λy=>!(y.2 == Ds) || (([]:List (Str×Addr)).lookup y.1).isSome)=true):CompScope X scope [] x [] [] :=
 ⟨clos,.inl nocell,kind,locs,.inl own,λ_ _ h=>by simp at h,has_,Bz.mpr ⟨Ax,Co⟩,rfl,λk y j e1 _=>by simp at e1⟩
theorem sz(h:n<=1000:=by first | decide | simp | (simp; omega)):n<=Av:=Mc (dX h)
end Nd
namespace Nd
open PySem PySem.Spec PyProof.Rows L2
theorem P7{K:PySem.W.Frag}(h1:(Hy T == Hy n)=false)(h2:PySem.W.kitMeta n=true)(h3:(fastBuiltinMro T).map (λx=>x.contains (Hy n))=some b):PySem.W.kitOne K (.type T) (.type n)=some b:=by
 unfold PySem.W.kitOne PySem.W.kitCls
 rw[h1,if_neg (by decide)]
 dsimp only
 rw[if_pos h2]
 exact h3
theorem uX(xs:Array Value):((Dk xs.size).filterMap λ(k:Nat)=>xs[((xs.size:Int) - 1+(k:Int) * (-1)).toNat]?).toArray=xs.toList.reverse.toArray:=by
 congr 1
 have h:∀n,n<=xs.size->((Dk n).filterMap λ(k:Nat)=>xs[((xs.size:Int) - 1+(k:Int) * (-1)).toNat]?)=xs.toList.reverse.take n:=by
  intro n
  induction n with
  | zero=>intro _; simp
  | succ n ih =>
   intro hn
   rw[List.range_succ,List.filterMap_append,ih (by omega)]
   have e:((xs.size:Int) - 1+(n:Int) * (-1)).toNat=xs.size - 1 - n:=by omega
   have lt:n<xs.toList.reverse.length:=by rw[Ih,Bd]; omega
   rw[Jl,Ap lt]
   congr 1
   simp only[Og,List.filterMap_nil,e]
   rw[iE (by omega),List.getElem_reverse]
   simp
 have:=h xs.size (Ak _)
 rw[this]
 rw[Em (by rw[Ih,Bd]; exact Ak _)]
section
variable{X:Cx}
theorem uE(xs:Array Value):slicePick xs none none (some (-1))=xs.toList.reverse.toArray:=by
 rw[<- uX]
 unfold slicePick
 congr 1
 have e1:sliceRange (Jh none none (some (-1)) xs.size).1 (Jh none none (some (-1)) xs.size).2.1 (Jh none none (some (-1)) xs.size).2.2=(Dk xs.size).map λ(k:Nat)=>((xs.size:Int) - 1+(k:Int) * (-1)).toNat:=by
  show sliceRange ((xs.size:Int) - 1) (-1) (-1)=_
  unfold sliceRange
  have c:(if (-1:Int) > 0 then (if (xs.size:Int) - 1 < -1 then (-1 - ((xs.size:Int) - 1) + -1 - 1) / -1 else 0) else (if (xs.size:Int) - 1 > -1 then ((xs.size:Int) - 1 - -1 - -1 - 1) / (- -1) else 0)).toNat=xs.size:=by
   rw[if_neg (by decide),show (- -1:Int)=1 from rfl,Int.ediv_one]
   split <;> omega
  dsimp only
  rw[c]
  refine Fk λk _=>?_
  congr 1
  omega
 rw[e1,List.filterMap_map]
 rfl
theorem C9(he:PE X e te)(hk:PE X k tk)(htk:∀σ H Q,Q (.int (-1)) H->tk σ H Q):PE X (.Subscript e (.Slice none none (some k) p2) pos) (λσ H Q=>te σ H λx H1=>∃a xs,x=.ref a/\Kb X.K H1 a xs/\∀p,H1 p=none->Q (.ref p) (upd H1 p (.lst xs.reverse))):=by
 intro pins s σ H Q I h
 refine Vl (Fn (he pins s σ H _ I h) λv s1 q0_ => ?_)
 obtain ⟨x,H1,I1,r1,a,xs,e1,hx,q⟩ := q0_
 subst e1
 cases r1
 refine wpAny_Slice ?_
 rw[evalPart_none]
 refine Ao (Ao ?_)
 rw[evalPart_some]
 refine Fn (hk pins s1 σ H1 (λy H2=>y=.int (-1)/\H2=H1) I1 (htk _ _ _ ⟨rfl,rfl⟩)) λvk s2 q0_ => ?_
 obtain ⟨y,H2,I2,r2,e2,e3⟩ := q0_
 subst e2
 subst e3
 obtain ⟨t,rfl⟩:=r2
 have I3:Inv X pins σ H2 { s2 with heap:=s2.heap.push { cls:=.type "slice",data:=.fields #[.none,.none,.int (-1) t] } }:=I2.kept (t':=s2.toks) λb ob q=>Af _ q
 obtain ⟨its,r,ht,hz⟩:=I3.list hx
 have hlen:=r.length
 show wpAny (model X.prog X.w) X.A (bL e (.Slice none none (some k) p2) (.ref a) (.ref s2.heap.objs.size)) (EP X pins σ Q) X.xe { s2 with heap:=s2.heap.push { cls:=.type "slice",data:=.fields #[.none,.none,.int (-1) t] } }
 refine tail_any (ops:=[.ref a,.ref s2.heap.objs.size]) (T := "list") ht.isList.typeIs eO.lookup (uA ht.isList (Heap.IsSliceOf.new ..) .none .none (.int (-1) t) (by simp) ?_ (by rw[Aq] <;> omega)) (by with_unfolding_all rfl)
 rw[uE]
 exact ⟨.ref _,_,I3.laid (o:=.lst xs.reverse) (t':=s2.toks) (λb ob q=>Af _ q) (Ak _) ⟨by rw[Ih]; exact hz,its.reverse,0,r.reverse,by
  have z:=Bb (s2.heap.push { cls:=.type "slice",data:=.fields #[.none,.none,.int (-1) t] }) (o:={ cls:=.type "list",data:=.seq its.toArray.toList.reverse.toArray }) rfl
  simpa using z⟩,rfl,q _ (I3.hok.fresh (Ak _))⟩
end
end Nd
namespace NdS
open PySem
def st(m i:Nat):Nat:=(i * 5+1) % m
def it(m:Nat):Nat->Nat->Nat
 | 0,i=>i
 | t+1,i=>it m t (st m i)
def GD(m:Nat):Nat->Nat->List Nat
 | 0,_=>[]
 | f+1,i=>i::GD m f (st m i)
def CH(m:Nat):Prop:=0<m/\it m m 0=0/\∀e,e<m->e∈GD m m 0
def lp(m:Nat):Nat->Nat->Nat->Nat×Nat
 | 0,i,p=>(i,p)
 | t+1,i,p=>lp m t ((i * 5+1+p / 32) % m) (p / 32)
abbrev FR(p:Array Nat):Prop:=p.toList.Pairwise (· < ·)
structure TabOk(n:Nat)(t:SetTable):Prop where
 good:CH (t.mask+1)
 dum:t.dummies=#[]
 plain:t.plain=true
 rise:FR t.place
 top:∀j∈t.place.toList,j<=t.mask
 size:t.place.size=n
structure Tab(n:Nat)(t:SetTable):Prop extends TabOk n t where
 room:n * 5<t.mask * 3
abbrev bt(w:World):Bool:=w.params.followText "set-order"
def BY:Int×Value->Int
 | (_,.int k _)=>k
 | _=>0
def BV(e:Int×Value):Prop:=∃k tk,e=(hashInt k,Vb k tk)
abbrev keys(es:Array (Int×Value)):List Int:=es.toList.map BY
abbrev Q6(es:Array (Int×Value))(ep:Nat)(t:SetTable):Obj:={ cls:=.type "set",dict:=none,data:=.set es ep t }
structure SetS(w:World)(h:Heap)(a:Addr)(es:Array (Int×Value))(ep:Nat)(t:SetTable):Prop where
 obj:h.get? a=some (Q6 es ep t)
 ent:∀e∈es.toList,BV e
 nd:(keys es).Nodup
 tab:Tab es.size t
 led:bt w=false->t.led=true
 few:es.size<64
def ins(k:Int)(l:List Int):List Int:=if k∈l then l else k::l
theorem uQ(h:n<64):n<=Av:=by rw[Ie]; omega
theorem len_leI:∀{l1 l2:List Int},l1.Nodup->(∀e∈l1,e∈l2)->l1.length<=l2.length
 | [],_,_,_=>Cr _
 | a::l1,l2,nd,h=>by
  have nd':=Bz.mp nd
  have ha:=h a (Aa ..)
  have:=len_leI (l2:=l2.erase a) nd'.2 λe he=>(List.mem_erase_of_ne (show e≠a from λz=>nd'.1 (by rw[<- z]; exact he))).mpr (h e (Ae _ he))
  rw[lF ha] at this
  have p:0<l2.length:=pB ha
  rw[Bp]
  omega
end NdS
namespace NdS
open PySem PyProof.Rows
def arrOf(w:World)(a:Addr)(ep:Nat)(es:Array (Int×Value)):Array (Int×Value):=if bt w then pickOrder (w.params.setOrder a ep) es else es
end NdS
namespace Nd
open PySem PySem.Spec PyProof.Rows L2 NdS
def CQ(w:World)(a:Addr)(ks:List Int)(h:Heap):Prop:=∃es ep t,SetS w h a es ep t/\∀x,x∈keys es↔x∈ks
abbrev ER(w:World)(a:Addr)(ks:List Int):HO:=.ext (CQ w a ks)
end Nd
namespace Nd
open PySem L2
def Ue(d:Addr)(H H':Hp):Prop:=∀b o,b≠d->H b=some o->H' b=some o
theorem Ue.trans(a:Ue d H H1)(b:Ue d H1 H2):Ue d H H2:=λc o n h=>b c o n (a c o n h)
theorem Ue.upd:Ue d H (upd H d o):=λb o n h=>by rw[Cj n]; exact h
theorem uQ(h:n<=1000):n<=Av:=Mc (dX h)
theorem lG(h:n<=1000000):n<=Av:=by rw[Ie]; omega
theorem Vy(a b:Int)(h:0<b):0<=a % b/\a % b<b:=⟨Oh _ (by omega),Pq _ h⟩
def Ks(h:Int)(ns:List Int):Prop:=ns.Pairwise (· < ·)/\∀x∈ns,0<=x/\x<h
theorem Ks.nil(h:Int):Ks h []:=⟨Kk,λx hx=>by cases hx⟩
theorem Ks.more(r:Ks h ns)(h0:0<=h):Ks (h+1) (ns++[h]) :=
 ⟨Dm.mpr ⟨r.1,Le _ _,λa ha b hb=>by rw[Ag.mp hb]; exact (r.2 a ha).2⟩,λx hx=>by
  rcases Bg.mp hx with z | z
  ·have:=r.2 x z; omega
  ·have:=Ag.mp z; omega⟩
theorem Ks.up(r:Ks h ns)(l:h<=h'):Ks h' ns:=⟨r.1,λx hx=>by have:=r.2 x hx; omega⟩
def aX(H:Hp)(d:Addr)(c k:Int)(f:Bool):Prop:=H d=some (.lst [.int c,.int k,.bl f])
def uK:Sp:=λvs H Q _=>∃(d:Addr) (c k:Int) (f:Bool),vs=[.ref d]/\aX H d c k f/\0<=k/\k<=1000000/\∀(r c':Int) (H':Hp),aX H' d c' (k+1) f->Ue d H H'->Q (.int r) H'
def Bv(ns:List Int):Ad:=.tuple (ns.map An)
theorem oK(ns:List Int):(Bv ns).depth<=1:=by
 have : (Bv ns).depth<=Bi (ns.map An)+1:=by simp [Bv,Ct]
 rw[nR] at this
 exact this
theorem u0(TD:List Ad):Do (.list TD) (.list [])=TD.isEmpty:=by cases TD <;> simp [Do,Oj]
def order{α:Type}(a b:α)(l:List α):Option Bool->List α
 | none=>l
 | some true=>[a,b]
 | some false=>[b,a]
structure TD(K:PySem.W.Frag)(H:Hp)(x:V)(d:Ad)(n m:Nat):Prop where
 rd:RdV K H x d
 fits:Mz 22 d
 nd:Jr d<=n
 dp:d.depth<=m
abbrev N5(K:PySem.W.Frag):List V->Hp->VK->Prop:=λxs H Q=>∃p ys,xs=[V.ref p]/\(Kb K H p ys\/Vh K H p ys)/\∀l,H l=none->Q (.ref l) (upd H l (.lst ys))
theorem gN:Mf X (.type "list") (N5 X.K):=fF
end Nd
namespace DL
open PySem L2 Nd
def KL(K:PySem.W.Frag)(H:Hp)(a:Addr)(xs:List V):Prop :=
 (∃o,H a=some (.frz o (.lst xs)))\/∃(its:Array Value) (n:Nat),K.lookup a=some { cls:=.type "list",data:=.seq its n }/\its.size<=Av/\Fd xs its.toList
def aU:Nat->Ad
 | 0=>.none
 | n+1=>.tuple [aU n]
def Qr(ks:List (List Int×Ad)):List (Ad×Ad):=(aU 100,.none)::ks.map λp=>(Bv p.1,p.2)
def Yl(ks:List (Int×Ad)):List (Ad×Ad):=(aU 100,.bool true)::ks.map λp=>(.int p.1,p.2)
def G5:List (Ad×Ad)->Bool
 | (_,.none)::_=>true
 | _=>false
def rO:List (Ad×Ad)->Bool
 | (_,.bool _)::_=>true
 | _=>false
def Vt(a:Addr)(ks:List (List Int×Ad)):List (Ad×Ad):=(aU 100,.int a)::ks.map λp=>(Bv p.1,p.2)
def Kd(w:List Int):List Hr:=w.map Qv
mutual
inductive RdF (K:PySem.W.Frag) (H:Hp):V->Ad->List Addr->Prop
 | non:RdF K H .non .none []
 | bl (b:Bool):RdF K H (.bl b) (.bool b) []
 | int (i:Int):RdF K H (.int i) (.int i) []
 | str (x:Str):RdF K H (.str x) (.str x) []
 | lst {a:Addr} {xs:List V} {ds:List Ad} {F:List Addr}:H a=some (.lst xs)->ds.length<=Av->RdFs K H xs ds F->RdF K H (.ref a) (.list ds) (a::F)
 | tup {a:Addr} {xs:List V} {ds:List Ad} {F:List Addr}:H a=some (.tup xs)->ds.length<=Av->RdFs K H xs ds F->RdF K H (.ref a) (.tuple ds) F
 | dic {a:Addr} {kv:List (List Hr×V)} {ks:List (List Int×Ad)}:H a=some (.dT kv)->kv.map (·.1)=ks.map (λp=>Kd p.1)->RdFs K H (kv.map (·.2)) (ks.map (·.2)) []->RdF K H (.ref a) (.dict (Qr ks)) [a]
 | dik {a:Addr} {kv:List (Hr×V)} {ks:List (Int×Ad)}:H a=some (.dK kv)->kv.map (·.1)=ks.map (λp=>(Qv p.1:Hr))->RdFs K H (kv.map (·.2)) (ks.map (·.2)) []->RdF K H (.ref a) (.dict (Yl ks)) [a]
 | dnm {a:Addr} {kv:List (List Hr×V)} {ks:List (List Int×Ad)}:H a=some (.dT kv)->kv.map (·.1)=ks.map (λp=>Kd p.1)->RdFs K H (kv.map (·.2)) (ks.map (·.2)) []->RdF K H (.ref a) (.dict (Vt a ks)) [a]
inductive RdFs (K:PySem.W.Frag) (H:Hp):List V->List Ad->List Addr->Prop
 | nil:RdFs K H [] [] []
 | cons {x:V} {d:Ad} {xs:List V} {ds:List Ad} {F G:List Addr}:RdF K H x d F->RdFs K H xs ds G->RdFs K H (x::xs) (d::ds) (F++G)
end
def GX(o:HO):Prop:=(∃xs,o=.tup xs)\/∃ob u,o=.frz ob u
def Kp(F:List Addr)(H H':Hp):Prop:=∀b o,H b=some o->(b∈F\/GX o)->H' b=some o
theorem Kp.of(s:Mg H H'):Kp F H H':=λb o e _=>s b o e
theorem Kp.sub(k:Kp F H H')(h:∀a∈G,a∈F):Kp G H H':=λb o e z=>k b o e (z.imp (h b) id)
section
variable{K:PySem.W.Frag}{H H':Hp}
theorem KL.kp(h:KL K H a xs)(k:Kp F H H'):KL K H' a xs:=by
 rcases h with ⟨o,h⟩ | h
 ·exact .inl ⟨o,k _ _ h (.inr (.inr ⟨_,_,rfl⟩))⟩
 ·exact .inr h
theorem KL.sq(h:KL K H a xs):Kb K H a xs:=by
 rcases h with ⟨o,h⟩ | ⟨its,n,h,hz,r⟩
 ·exact .inl (.inr ⟨o,h⟩)
 ·exact .inr ⟨_,its,n,h,rfl,rfl,rfl,hz,r⟩
mutual
theorem RdF.kp:∀{v:V} {d:Ad} {F:List Addr},RdF K H v d F->Kp F H H'->RdF K H' v d F
 | _,_,_,.non,_=>.non
 | _,_,_,.bl b,_=>.bl b
 | _,_,_,.int i,_=>.int i
 | _,_,_,.str x,_=>.str x
 | _,_,_,.lst h l hs,k=>.lst (k _ _ h (.inl Aa)) l (RdFs.kp hs (k.sub λ_ z=>Ae _ z))
 | _,_,_,.tup h l hs,k=>.tup (k _ _ h (.inr (.inl ⟨_,rfl⟩))) l (RdFs.kp hs k)
 | _,_,_,.dic h e hs,k=>.dic (k _ _ h (.inl Aa)) e (RdFs.kp hs (k.sub λ_ z=>nomatch z))
 | _,_,_,.dik h e hs,k=>.dik (k _ _ h (.inl Aa)) e (RdFs.kp hs (k.sub λ_ z=>nomatch z))
 | _,_,_,.dnm h e hs,k=>.dnm (k _ _ h (.inl Aa)) e (RdFs.kp hs (k.sub λ_ z=>nomatch z))
theorem RdFs.kp:∀{v:List V} {d:List Ad} {F:List Addr},RdFs K H v d F->Kp F H H'->RdFs K H' v d F
 | _,_,_,.nil,_=>.nil
 | _,_,_,.cons h hs,k=>.cons (RdF.kp h (k.sub λ_ z=>Am _ z)) (RdFs.kp hs (k.sub λ_ z=>Al _ z))
end
theorem Oo:∀n,(aU n).depth=n
 | 0=>by simp [aU,Ct]
 | n+1=>by
  have:=Oo n
  simp only[aU,Ct,Bi,this]
  omega
theorem xH:100<=(PyData.dict (Yl ks)).depth:=by
 have:=Oo 100
 simp only[Yl,Ct,PyData.depthKv,this]
 omega
theorem yD:100<=(PyData.dict (Vt a ks)).depth:=by
 have:=Oo 100
 simp only[Vt,Ct,PyData.depthKv,this]
 omega
theorem uT:100<=(PyData.dict (Qr ks)).depth:=by
 have:=Oo 100
 simp only[Qr,Ct,PyData.depthKv,this]
 omega
mutual
theorem RdF.rd:∀{v:V} {d:Ad} {F:List Addr},RdF K H v d F->d.depth<=90->RdV K H v d
 | _,_,_,.non,_=>.non
 | _,_,_,.bl b,_=>.bl b
 | _,_,_,.int i,_=>.int i
 | _,_,_,.str x,_=>.str x
 | _,_,_,.lst h l hs,z=>.lst (Kb.of h) (RdFs.rd hs (by simp only[Ct] at z; omega))
 | _,_,_,.tup h l hs,z=>.tup (Vh.of h) (RdFs.rd hs (by simp only[Ct] at z; omega))
 | _,_,_,.dic h e hs,z=>absurd (Cc uT z) (by decide)
 | _,_,_,.dik h e hs,z=>absurd (Cc xH z) (by decide)
 | _,_,_,.dnm h e hs,z=>absurd (Cc yD z) (by decide)
theorem RdFs.rd:∀{v:List V} {d:List Ad} {F:List Addr},RdFs K H v d F->Bi d<=90->RdVs K H v d
 | _,_,_,.nil,_=>.nil
 | _,_,_,.cons h hs,z=>.cons (RdF.rd h (by simp only[Bi] at z; omega)) (RdFs.rd hs (by simp only[Bi] at z; omega))
end
mutual
theorem RdF.dom:∀{v:V} {d:Ad} {F:List Addr},RdF K H v d F->∀a∈F,∃o,H a=some o
 | _,_,_,.non,_,z=>nomatch z
 | _,_,_,.bl b,_,z=>nomatch z
 | _,_,_,.int i,_,z=>nomatch z
 | _,_,_,.str x,_,z=>nomatch z
 | _,_,_,.lst h l hs,b,z=>by
  rcases Aj.mp z with rfl | z
  ·exact ⟨_,h⟩
  ·exact RdFs.dom hs b z
 | _,_,_,.tup h l hs,b,z=>RdFs.dom hs b z
 | _,_,_,.dic h e hs,b,z=>⟨_,Ag.mp z▸h⟩
 | _,_,_,.dik h e hs,b,z=>⟨_,Ag.mp z▸h⟩
 | _,_,_,.dnm h e hs,b,z=>⟨_,Ag.mp z▸h⟩
theorem RdFs.dom:∀{v:List V} {d:List Ad} {F:List Addr},RdFs K H v d F->∀a∈F,∃o,H a=some o
 | _,_,_,.nil,_,z=>nomatch z
 | _,_,_,.cons h hs,b,z=>by
  rcases Bg.mp z with z | z
  ·exact RdF.dom h b z
  ·exact RdFs.dom hs b z
end
theorem RdFs.len:∀{v:List V} {d:List Ad} {F:List Addr},RdFs K H v d F->v.length=d.length
 | _,_,_,.nil=>rfl
 | _,_,_,.cons _ t=>by rw[Bp,Bp,RdFs.len t]
theorem RdFs.get:∀{v:List V} {d:List Ad} {F:List Addr} {i:Nat} {e:Ad},RdFs K H v d F->d[i]? = some e->∃x G,v[i]? = some x/\RdF K H x e G/\G.Sublist F
 | _,_,_,_,_,.nil,z=>by simp at z
 | _,_,_,0,_,.cons h _,z=>by
  simp at z
  subst z
  exact ⟨_,_,rfl,h,List.sublist_append_left _ _⟩
 | _,_,_,i+1,e,.cons _ t,z=>by
  obtain ⟨x,G,h1,h2,h3⟩:=RdFs.get (i:=i) (e:=e) t (by simpa using z)
  exact ⟨x,G,by simpa using h1,h2,h3.trans (Cu _ _)⟩
theorem RdFs.app:∀{v w:List V} {d e:List Ad} {F G:List Addr},RdFs K H v d F->RdFs K H w e G->RdFs K H (v++w) (d++e) (F++G)
 | _,_,_,_,_,_,.nil,h=>h
 | _,_,_,_,_,_,.cons a t,h=>by
  rw[Ce]
  exact .cons a (RdFs.app t h)
theorem RdFs.snoc(t:RdFs K H v d F)(h:RdF K H x e G):RdFs K H (v++[x]) (d++[e]) (F++G):=by
 have:=t.app (.cons h .nil)
 rw[Dj] at this
 exact this
end
mutual
def imm:Ad->Bool
 | .list _=>false
 | .dict _=>false
 | .tuple xs=>Ed xs
 | _=>true
def Ed:List Ad->Bool
 | []=>true
 | x::xs=>imm x && Ed xs
end
theorem mI:∀{xs:List Ad},Ed xs=true↔∀x∈xs,imm x=true
 | []=>by simp [Ed]
 | x::xs=>by simp [Ed,mI (xs:=xs)]
theorem Ux{α:Type}{f:α->Ad}(h:∀a,imm (f a)=true)(l:List α):Ed (l.map f)=true:=mI.mpr λx hx=>by
 obtain ⟨a,_,rfl⟩:=Bs.mp hx
 exact h a
theorem xX(ns:List Int):imm (Bv ns)=true:=by
 unfold Bv
 rw[imm]
 exact Ux (λ_=>by simp [imm]) ns
section
variable{K:PySem.W.Frag}{H H':Hp}
mutual
theorem RdF.imm:∀{v:V} {d:Ad} {F:List Addr},RdF K H v d F->DL.imm d=true->F=[]
 | _,_,_,.non,_=>rfl
 | _,_,_,.bl b,_=>rfl
 | _,_,_,.int i,_=>rfl
 | _,_,_,.str x,_=>rfl
 | _,_,_,.lst h l hs,k=>by simp [DL.imm] at k
 | _,_,_,.tup h l hs,k=>RdFs.imm hs (by simpa [DL.imm] using k)
 | _,_,_,.dic h e hs,k=>by simp [DL.imm] at k
 | _,_,_,.dik h e hs,k=>by simp [DL.imm] at k
 | _,_,_,.dnm h e hs,k=>by simp [DL.imm] at k
theorem RdFs.imm:∀{v:List V} {d:List Ad} {F:List Addr},RdFs K H v d F->Ed d=true->F=[]
 | _,_,_,.nil,_=>rfl
 | _,_,_,.cons h hs,k=>by
  rw[Ed,Gc] at k
  rw[RdF.imm h k.1,RdFs.imm hs k.2]
  rfl
end
end
inductive Md where
 | pk | sh | tp | ow
 deriving DecidableEq
inductive DV where
 | un
 | dat (m:Md) (d:Ad)
 | drw
 | dT (kvs:List (List Hr×Ad))
 | val (v:V)
 | scr (ns:List Int)
 | acc (ds:List Ad)
 | grd (Hc:Hp)
 | tpl (xs:List V)
structure DS where
 sl:List DV
 n:Nat
structure Ent where
 v:Option V
 x:DV
 F:List Addr
def Lg:DV->Bool
 | .dat .pk _=>true
 | _=>false
def BK:DV->Bool
 | .drw=>true
 | _=>false
def X3:DV->Bool
 | .drw=>true
 | .acc _=>true
 | .dT _=>true
 | .grd _=>true
 | _=>false
def cells(e:Ent):List Addr:=match e.x with
 | .dat .ow _=>e.F
 | .dat .tp _=>e.F.take 1
 | .drw=>e.F
 | .dT _=>e.F
 | .acc _=>e.F.take 1
 | .grd _=>e.F
 | _=>[]
theorem Fo(e:Ent):∀a∈cells e,a∈e.F:=by
 obtain ⟨v,x,F⟩:=e
 intro a h
 cases x with
 | un=>exact nomatch h
 | val _=>exact nomatch h
 | scr _=>exact nomatch h
 | drw=>exact h
 | dT _=>exact h
 | grd _=>exact h
 | tpl _=>exact nomatch h
 | acc _=>exact (Ly _ _).subset h
 | dat m d =>
  cases m with
  | pk=>exact nomatch h
  | sh=>exact nomatch h
  | tp=>exact (Ly _ _).subset h
  | ow=>exact h
def Wk(e f:Ent):Prop:=((Lg f.x=false\/X3 e.x=true)->∀a∈cells e,a∉f.F)/\((Lg e.x=false\/X3 f.x=true)->∀a∈cells f,a∉e.F)
theorem Wk.symm(h:Wk e f):Wk f e:=⟨h.2,h.1⟩
def Hl(K:PySem.W.Frag)(H:Hp)(n:Nat)(e:Ent):Prop:=match e.x with
 | .un=>e.F=[]
 | .dat m d=>∃v,e.v=some v/\RdF K H v d e.F/\(m=.ow->e.F.Nodup)/\(m=.tp->∀a l,e.F=a::l->a∉l)
 | .drw=>∃dr c k f,e.v=some (.ref dr)/\e.F=[dr]/\aX H dr c k f/\0<=k/\k<=(n:Int)
 | .dT kvs=>∃a ks,e.v=some (.ref a)/\e.F=[a]/\H a=some (.dT ks)/\ks.map (·.1)=kvs.map (·.1)/\RdFs K H (ks.map (·.2)) (kvs.map (·.2)) []
 | .val v=>e.v=some v/\e.F=[]
 | .scr ns=>∃a,e.v=some (.ref a)/\e.F=[]/\KL K H a (ns.map V.int)/\ns.length<=63
 | .acc ds=>∃a xs G,e.v=some (.ref a)/\e.F=a::G/\H a=some (.lst xs)/\RdFs K H xs ds G/\ds.length<=Av/\a∉G
 | .grd Hc=>∀a∈e.F,∃o,Hc a=some o/\H a=some o
 | .tpl xs=>∃t,e.v=some (.ref t)/\H t=some (.tup xs)/\e.F=[]
structure At(K:PySem.W.Frag)(H0:Hp)(X:Addr->Prop)(n:Nat)(E:List Ent)(H:Hp):Prop where
 ok:∀e∈E,Hl K H n e
 sep:E.Pairwise Wk
 new:∀e∈E,∀a∈cells e,H0 a=none\/(X a/\BK e.x=true)
 same:∀b o,¬ X b->H0 b=some o->H b=some o
 dom:∀b o,H0 b=some o->∃o',H b=some o'
 xd:∀b,X b->H0 b≠none/\∃c k f,aX H b c k f/\0<=k/\k<=(n:Int)
section
variable{K:PySem.W.Frag}{H0 H H':Hp}{X:Addr->Prop}{n n':Nat}{E E' S T:List Ent}{e f:Ent}
theorem At.perm(h:At K H0 X n E H)(p:E.Perm E'):At K H0 X n E' H :=
 ⟨λe he=>h.ok e (p.mem_iff.mpr he),(p.pairwise_iff λ{a b}=>Wk.symm).mp h.sep,λe he=>h.new e (p.mem_iff.mpr he),h.same,h.dom,h.xd⟩
theorem At.sub(h:At K H0 X n E H)(p:E'.Sublist E):At K H0 X n E' H :=
 ⟨λe he=>h.ok e (p.subset he),h.sep.sublist p,λe he=>h.new e (p.subset he),h.same,h.dom,h.xd⟩
theorem At.drop(h:At K H0 X n (S++e::T) H):At K H0 X n (S++T) H:=h.sub ((Ec S).append (Dg _ _))
theorem zW:(S++e::T).Perm (e::(S++T)):=Dv
theorem At.mid(h:At K H0 X n (S++e::T) H):At K H0 X n (e::(S++T)) H:=h.perm zW
theorem At.tomid(h:At K H0 X n (e::(S++T)) H):At K H0 X n (S++e::T) H:=h.perm zW.symm
theorem Hl.dom(h:Hl K H n e):∀a∈e.F,∃o,H a=some o:=by
 obtain ⟨v,x,F⟩:=e
 intro a ha
 cases x with
 | un=>rw[show F=[] from h] at ha; cases ha
 | val _=>rw[show F=[] from h.2] at ha; cases ha
 | scr _ =>
  obtain ⟨_,_,hF,_⟩:=h
  rw[show F=[] from hF] at ha; cases ha
 | dat m d =>
  obtain ⟨w,_,h,_⟩:=h
  obtain ⟨xs,z⟩:=h.dom a ha
  exact ⟨_,z⟩
 | drw =>
  obtain ⟨dr,c,k,f,_,hF,h,_⟩:=h
  rw[show F=[dr] from hF] at ha
  rw[Ag.mp ha]
  exact ⟨_,h⟩
 | grd Hc =>
  obtain ⟨o,_,z⟩:=h a ha
  exact ⟨o,z⟩
 | tpl xs =>
  obtain ⟨_,_,_,hF⟩:=h
  rw[show F=[] from hF] at ha; cases ha
 | dT kvs =>
  obtain ⟨b,ks,_,hF,h,_⟩:=h
  rw[show F=[b] from hF] at ha
  rw[Ag.mp ha]
  exact ⟨_,h⟩
 | acc ds =>
  obtain ⟨b,ks,G,_,hF,h,hr,_⟩:=h
  rw[show F=b::G from hF] at ha
  rcases Aj.mp ha with rfl | ha
  ·exact ⟨_,h⟩
  ·obtain ⟨xs,z⟩:=hr.dom a ha
   exact ⟨_,z⟩
theorem Hl.kp(h:Hl K H n e)(k:Kp e.F H H')(hn:n<=n'):Hl K H' n' e:=by
 obtain ⟨v,x,F⟩:=e
 cases x with
 | un=>exact h
 | val _=>exact h
 | scr _ =>
  obtain ⟨a,h1,h2,h3,h4⟩:=h
  exact ⟨a,h1,h2,h3.kp k,h4⟩
 | dat m d =>
  obtain ⟨w,h1,h2,h3⟩:=h
  exact ⟨w,h1,h2.kp k,h3⟩
 | drw =>
  obtain ⟨dr,c,kk,f,h1,hF,h2,h3,h4⟩:=h
  have hF':F=[dr]:=hF
  subst hF'
  exact ⟨dr,c,kk,f,h1,rfl,k _ _ h2 (.inl Aa),h3,by omega⟩
 | tpl xs =>
  obtain ⟨t,h1,h2,h3⟩:=h
  exact ⟨t,h1,k _ _ h2 (.inr (.inl ⟨_,rfl⟩)),h3⟩
 | grd Hc =>
  intro a ha
  obtain ⟨o,h1,h2⟩:=h a ha
  exact ⟨o,h1,k _ _ h2 (.inl ha)⟩
 | dT kvs =>
  obtain ⟨b,ks,h1,hF,h2,h3,h4⟩:=h
  have hF':F=[b]:=hF
  subst hF'
  exact ⟨b,ks,h1,rfl,k _ _ h2 (.inl Aa),h3,h4.kp (k.sub λ_ z=>nomatch z)⟩
 | acc ds =>
  obtain ⟨b,ks,G,h1,hF,h2,h3,h4⟩:=h
  have hF':F=b::G:=hF
  subst hF'
  exact ⟨b,ks,G,h1,rfl,k _ _ h2 (.inl Aa),h3.kp (k.sub λ_ z=>Ae _ z),h4⟩
theorem At.grow(h:At K H0 X n E H)(s:Mg H H')(hn:n<=n'):At K H0 X n' E H' :=
 ⟨λe he=>(h.ok e he).kp (Kp.of s) hn,h.sep,h.new,λb o nx e=>s _ _ (h.same b o nx e),λb o e=>let ⟨o',q⟩:=h.dom b o e; ⟨o',s _ _ q⟩,λb hb=>let ⟨z,c,k,f,h1,h2,h3⟩:=h.xd b hb; ⟨z,c,k,f,s _ _ h1,h2,by omega⟩⟩
theorem At.free(h:At K H0 X n E H)(ha:H a=none):∀e∈E,a∉e.F:=λe he z=>by
 obtain ⟨o,q⟩:=(h.ok e he).dom a z
 rw[ha] at q; cases q
theorem At.push(h:At K H0 X n E H)(ok:Hl K H n e)(sep:∀f∈E,Wk e f)(new:∀a∈cells e,H0 a=none\/(X a/\BK e.x=true)):At K H0 X n (e::E) H :=
 ⟨λg hg=>by
  rcases Aj.mp hg with rfl | hg
  ·exact ok
  ·exact h.ok g hg,Bf.mpr ⟨sep,h.sep⟩,λg hg=>by
  rcases Aj.mp hg with rfl | hg
  ·exact new
  ·exact h.new g hg,h.same,h.dom,h.xd⟩
theorem At.new0(h:At K H0 X n E H)(hp:H p=none):H0 p=none:=by
 cases q:H0 p with
 | none=>rfl
 | some o =>
  obtain ⟨o',z⟩:=h.dom p o q
  rw[hp] at z; cases z
theorem D0:Wk ⟨v,.dat m d,[]⟩ f:=by
 refine ⟨λ_ a ha=>?_,λ_ a _=>Ax⟩
 have:=Fo _ a ha
 cases this
theorem At.pushI(h:At K H0 X n (S++T) H)(r:RdF K H v d []):At K H0 X n (S++⟨some v,.dat m d,[]⟩::T) H :=
 (h.push (e:=⟨some v,.dat m d,[]⟩) ⟨v,rfl,r,λ_=>Co,λ_ a l z=>nomatch z⟩ (λf _=>D0) (λa ha=>nomatch Fo _ a ha)).tomid
def wk:Md->Md->Bool
 | _,.pk=>true
 | .pk,_=>false
 | _,.sh=>true
 | .sh,_=>false
 | _,.tp=>true
 | .tp,.ow=>false
 | .ow,.ow=>true
theorem jI(w:wk m m'=true):∀a∈cells ⟨v,.dat m' d,F⟩,a∈cells ⟨v,.dat m d,F⟩:=by
 intro a ha
 cases m <;> cases m' <;> first | exact absurd w (by decide) | exact ha | exact absurd ha Ax | exact (Ly 1 F).subset ha
theorem tN{α:Type}{F:List α}(h:F.Nodup):∀a l,F=a::l->a∉l:=λa l e=>by
 subst e
 exact (Bz.mp h).1
theorem Hl.wk(w:wk m m'=true)(h:Hl K H n ⟨v,.dat m d,F⟩):Hl K H n ⟨v,.dat m' d,F⟩:=by
 obtain ⟨u,h1,h2,h3,h4⟩:=h
 refine ⟨u,h1,h2,λe=>?_,λe=>?_⟩
 ·subst e
  cases m <;> first | exact absurd w (by decide) | exact h3 rfl
 ·subst e
  cases m <;> first | exact absurd w (by decide) | exact h4 rfl | exact tN (h3 rfl)
theorem Wk.wk(w:wk m m'=true)(h:Wk ⟨v,.dat m d,F⟩ f):Wk ⟨v,.dat m' d,F⟩ f:=by
 refine ⟨λhp a ha=>?_,λhp a ha=>?_⟩
 ·rcases hp with hp | hp
  ·exact h.1 (.inl hp) a (jI w a ha)
  ·cases hp
 ·rcases hp with hp | hp
  ·refine h.2 (.inl ?_) a ha
   cases m <;> cases m' <;> first | rfl | exact absurd w (by decide) | exact absurd hp (by show ¬ (true=false); decide)
  ·exact h.2 (.inr hp) a ha
theorem At.wk(w:wk m m'=true)(h:At K H0 X n (⟨v,.dat m d,F⟩::E) H):At K H0 X n (⟨v,.dat m' d,F⟩::E) H:=by
 have hs:=Bf.mp h.sep
 refine (h.sub (Dg _ _)).push ((h.ok _ Aa).wk w) (λf hf=>(hs.1 f hf).wk w) λa ha=>?_
 rcases h.new _ Aa a (jI w a ha) with z | z
 ·exact .inl z
 ·cases z.2
end
abbrev DE:=DS->(DV->DS->Prop)->Prop
abbrev DT:=DS->(Bool->DS->Prop)->Prop
abbrev DA:=DS->(List DV->DS->Prop)->Prop
structure DEnds where
 nx:DS->Prop
 rt:DV->DS->Prop
 bk:DS->Prop:=λ_=>False
 ct:DS->Prop:=λ_=>False
abbrev DB:=DEnds->DS->Prop
abbrev DG:=DV->DS->(DS->Prop)->Prop
abbrev j4:=List DV->DS->(DS->Prop)->Prop
def vs(S:List Ent):L2.St:=S.map Ent.v
def Sl(S:List Ent)(δ:DS):Prop:=S.map Ent.x=δ.sl
section
variable(K:PySem.W.Frag)
def LE(de:DE):TE:=λσ H Q=>∃(H0:Hp) (X:Addr->Prop) (S T:List Ent) (δ:DS) (P:DV->DS->Prop),vs S=σ/\Sl S δ/\At K H0 X δ.n (S++T) H/\de δ P /\
 ∀x δ' v F S' H',vs S'=σ->Sl S' δ'->At K H0 X δ'.n (S'++⟨some v,x,F⟩::T) H'->P x δ'->Q v H'
def LT(dt:DT):TT:=λσ H Q=>∃(H0:Hp) (X:Addr->Prop) (S T:List Ent) (δ:DS) (P:Bool->DS->Prop),vs S=σ/\Sl S δ/\At K H0 X δ.n (S++T) H/\dt δ P /\
 ∀b δ' S' H',vs S'=σ->Sl S' δ'->At K H0 X δ'.n (S'++T) H'->P b δ'->Q b H'
def LA(da:DA):TA:=λσ H Q=>∃(H0:Hp) (X:Addr->Prop) (S T:List Ent) (δ:DS) (P:List DV->DS->Prop),vs S=σ/\Sl S δ/\At K H0 X δ.n (S++T) H/\da δ P /\
 ∀xs δ' As us S' H',vs S'=σ->Sl S' δ'->As.map Ent.x=xs->As.map Ent.v=us.map some->At K H0 X δ'.n (S'++(As++T)) H'->P xs δ'->Q us H'
def LS(db:DB):TS:=λD σ H=>∃(H0:Hp) (X:Addr->Prop) (S T:List Ent) (δ:DS) (P:DEnds),vs S=σ/\Sl S δ/\(∀e∈T,Lg e.x=false)/\At K H0 X δ.n (S++T) H/\db P δ /\
 (∀δ' S' H',Sl S' δ'->At K H0 X δ'.n (S'++T) H'->P.nx δ'->D.nx (vs S') H') /\
 (∀x δ' v F S' H',Sl S' δ'->At K H0 X δ'.n (S'++⟨some v,x,F⟩::T) H'->P.rt x δ'->D.rt v H') /\
 (∀δ' S' H',Sl S' δ'->At K H0 X δ'.n (S'++T) H'->P.bk δ'->D.bk (vs S') H') /\
 (∀δ' S' H',Sl S' δ'->At K H0 X δ'.n (S'++T) H'->P.ct δ'->D.ct (vs S') H')
def LG(dg:DG):TG:=λv σ H Q=>∃(H0:Hp) (X:Addr->Prop) (S T:List Ent) (δ:DS) (x:DV) (F:List Addr) (P:DS->Prop),vs S=σ/\Sl S δ/\At K H0 X δ.n (S++⟨some v,x,F⟩::T) H/\dg x δ P /\
 ∀δ' S' H',Sl S' δ'->At K H0 X δ'.n (S'++T) H'->P δ'->Q (vs S') H'
def GW(dg:j4):J2:=λus σ H Q=>∃(H0:Hp) (X:Addr->Prop) (S T As:List Ent) (δ:DS) (P:DS->Prop),vs S=σ/\Sl S δ/\As.map Ent.v=us.map some/\At K H0 X δ.n (S++(As++T)) H/\dg (As.map Ent.x) δ P /\
 ∀δ' S' H',Sl S' δ'->At K H0 X δ'.n (S'++T) H'->P δ'->Q (vs S') H'
end
abbrev Eu(X:Cx)(e:Expr)(de:DE):Prop:=PE X e (LE X.K de)
abbrev fP(X:Cx)(e:Expr)(dt:DT):Prop:=PT X e (LT X.K dt)
abbrev O8(X:Cx)(e:Expr)(dt:DT):Prop:=PW X e (LT X.K dt)
abbrev oW(X:Cx)(es:List Expr)(da:DA):Prop:=PA X es (LA X.K da)
abbrev lH(X:Cx)(st:Stmt)(db:DB):Prop:=PS X st (LS X.K db)
abbrev Yo(X:Cx)(st:List Stmt)(db:DB):Prop:=mZ X st (LS X.K db)
abbrev BQ(X:Cx)(tg:Expr)(dg:DG):Prop:=PG X tg (LG X.K dg)
abbrev B8(X:Cx)(tg:List Expr)(dg:j4):Prop:=U7 X tg (GW X.K dg)
theorem PE.imp(h:PE X e t)(k:∀σ H Q,t' σ H Q->t σ H Q):PE X e t':=λpins s σ H Q I q=>h pins s σ H Q I (k σ H Q q)
theorem PT.imp(h:PT X e t)(k:∀σ H Q,t' σ H Q->t σ H Q):PT X e t':=λpins s σ H Q I q=>h pins s σ H Q I (k σ H Q q)
theorem PW.imp(h:PW X e t)(k:∀σ H Q,t' σ H Q->t σ H Q):PW X e t':=λwh pins s σ H Q I q=>h wh pins s σ H Q I (k σ H Q q)
theorem PA.imp(h:PA X e t)(k:∀σ H Q,t' σ H Q->t σ H Q):PA X e t':=λpos pins s σ H Q I q=>h pos pins s σ H Q I (k σ H Q q)
theorem PG.imp(h:PG X e t)(k:∀v σ H Q,t' v σ H Q->t v σ H Q):PG X e t':=λpins s σ H v u Q I r q=>h pins s σ H v u Q I r (k v σ H Q q)
theorem U7.imp(h:U7 X e t)(k:∀v σ H Q,t' v σ H Q->t v σ H Q):U7 X e t':=λpins s σ H v u Q I r q=>h pins s σ H v u Q I r (k v σ H Q q)
section
variable{K:PySem.W.Frag}{H:Hp}{v:V}{F:List Addr}
theorem RdF.int_inv(h:RdF K H v (.int i) F):v=.int i/\F=[]:=by cases h; exact ⟨rfl,rfl⟩
theorem RdF.bl_inv(h:RdF K H v (.bool i) F):v=.bl i/\F=[]:=by cases h; exact ⟨rfl,rfl⟩
theorem RdF.str_inv(h:RdF K H v (.str i) F):v=.str i/\F=[]:=by cases h; exact ⟨rfl,rfl⟩
theorem RdF.non_inv(h:RdF K H v .none F):v=.non/\F=[]:=by cases h; exact ⟨rfl,rfl⟩
theorem RdF.list_inv(h:RdF K H v (.list ds) F):∃a xs G,v=.ref a/\H a=some (.lst xs)/\RdFs K H xs ds G/\F=a::G/\ds.length<=Av:=by
 cases h with
 | lst h l hs=>exact ⟨_,_,_,rfl,h,hs,rfl,l⟩
theorem RdF.tup_inv(h:RdF K H v (.tuple ds) F):∃a xs,v=.ref a/\H a=some (.tup xs)/\RdFs K H xs ds F/\ds.length<=Av:=by
 cases h with
 | tup h l hs=>exact ⟨_,_,rfl,h,hs,l⟩
end
section
variable{K:PySem.W.Frag}{H0 H H':Hp}{X:Addr->Prop}{n:Nat}{E S T:List Ent}{v:V}{m:Md}{d:Ad}{F:List Addr}
theorem At.told(h:At K H0 X n E H)(he:⟨some v,.dat m d,F⟩∈E):RdF K H v d F:=by
 obtain ⟨w,e1,h1,_⟩:=h.ok _ he
 cases e1
 exact h1
theorem mem_mid:e∈S++e::T:=Al _ Aa
theorem Ek:f∈S++e::f::T:=Al _ (Ae _ Aa)
theorem At.drop2(h:At K H0 X n (S++e::f::T) H):At K H0 X n (S++T) H:=h.drop.drop
theorem At.dropL(h:At K H0 X n (S++(As++T)) H):At K H0 X n (S++T) H:=h.sub ((Ec S).append (Cu As T))
end
def fW:Md->Md
 | .ow=>.pk
 | .tp=>.pk
 | m=>m
def U1(i:Nat):DE:=λδ P=>match δ.sl[i]? with
 | some (.dat m d)=>P (.dat (fW m) d) δ
 | _=>False
def dC(d:Ad):DE:=λδ P=>P (.dat .ow d) δ
theorem Gq{i:Nat}(h:Sl S δ)(e:δ.sl[i]? = some x):∃ent,S[i]? = some ent/\ent.x=x:=by
 unfold Sl at h
 rw[<- h,Az] at e
 cases q:S[i]? with
 | none=>rw[q] at e; cases e
 | some ent=>rw[q] at e; exact ⟨ent,rfl,Bl e⟩
theorem Ke{i:Nat}(h:S[i]? = some e):(vs S)[i]? = some e.v:=by
 unfold vs
 rw[Az,h]
 rfl
theorem At.look(h:At K H0 X n (S++T) H)(he:⟨u,.dat m d,F⟩∈S)(hu:u=some v):At K H0 X n (S++⟨some v,.dat (fW m) d,F⟩::T) H:=by
 subst hu
 obtain ⟨S1,S2,rfl⟩:=List.append_of_mem he
 have hp:((S1++⟨some v,.dat m d,F⟩::S2)++T).Perm (⟨some v,.dat m d,F⟩::(S1++(S2++T))):=by
  rw[Ce,Dl]
  exact Dv
 have h2:=h.perm hp
 have hs:=Bf.mp h2.sep
 refine (h.push (e:=⟨some v,.dat (fW m) d,F⟩) ?_ (λf hf=>?_) λa ha=>?_).tomid
 ·obtain ⟨w,e1,h1,_⟩:=h2.ok _ Aa
  refine ⟨w,e1,h1,λz=>?_,λz=>?_⟩ <;> cases m <;> cases z
 ·refine ⟨λ_ a ha=>?_,λhq a ha=>?_⟩
  ·cases m <;> exact nomatch ha
  ·rcases Aj.mp (hp.mem_iff.mp hf) with rfl | hf
   ·rcases hq with hq | hq
    ·cases m <;> first | cases hq; done | exact nomatch ha
    ·cases hq
   ·refine (hs.1 f hf).2 ?_ a ha
    rcases hq with hq | hq
    ·refine .inl ?_
     cases m <;> first | rfl | exact hq
    ·exact .inr hq
 ·cases m <;> exact nomatch ha
section
variable{X:Cx}{e:Expr}
theorem Aw(h:PE X e (Yi i)):Eu X e (U1 i):=by
 refine PE.imp h λσ H Q h=>?_
 obtain ⟨H0,Y,S,T,δ,P,rfl,hS,hA,hd,k⟩:=h
 unfold U1 at hd
 split at hd
 ·rename_i m d e1
  obtain ⟨ent,e2,e3⟩:=Gq hS e1
  have hm:ent∈S:=Au e2
  obtain ⟨u,x,F⟩:=ent
  subst e3
  obtain ⟨v,hv,_⟩:=hA.ok _ (Am _ hm)
  refine ⟨v,by rw[Ke e2]; exact congrArg some hv,k _ δ v F S H rfl hS (hA.look hm hv) hd⟩
 ·exact hd.elim
theorem fY(h:PE X e (tC v))(r:∀H,RdF X.K H v d []):Eu X e (dC d):=by
 refine PE.imp h λσ H Q h=>?_
 obtain ⟨H0,Y,S,T,δ,P,rfl,hS,hA,hd,k⟩:=h
 exact k _ δ v [] S H rfl hS (hA.pushI (r H)) hd
theorem Da:Eu X (.Constant (.int i) j pos) (dC (.int i)):=fY Dd λ_=>.int i
theorem Xw:Eu X (.Constant (.bool i) j pos) (dC (.bool i)):=fY uY λ_=>.bl i
theorem aN:Eu X (.Constant (.str i) j pos) (dC (.str i)):=fY V5 λ_=>.str i
theorem uF:Eu X (.Constant .none j pos) (dC .none):=fY vE λ_=>.non
end
def AR(de:DE):DE:=λδ P=>de δ λx δ'=>match x with
 | .dat _ d=>imm d=true/\P (.dat .ow d) δ'
 | _=>False
theorem uI(h:Eu X e de):Eu X e (AR de):=by
 refine PE.imp h λσ H Q h=>?_
 obtain ⟨H0,Y,S,T,δ,P,rfl,hS,hA,hd,k⟩:=h
 refine ⟨H0,Y,S,T,δ,_,rfl,hS,hA,hd,λx δ' v F S' H' e1 e2 hA' p=>?_⟩
 cases x with
 | dat m d =>
  have r:=hA'.told mem_mid
  obtain rfl:=r.imm p.1
  exact k _ δ' v [] S' H' e1 e2 (hA'.drop.pushI r) p.2
 | _=>exact p.elim
def vH(i:Nat):DE:=λδ P=>match δ.sl[i]? with
 | some (.dat m d)=>P (.dat m d) ⟨δ.sl.set i .un,δ.n⟩
 | _=>False
theorem Rj{α:Type}:∀{l:List α} {i:Nat} {x y:α},l[i]? = some x->(y::l).Perm (x::l.set i y)
 | [],i,x,y,h=>by simp at h
 | z::l,0,x,y,h=>by
  simp at h
  subst h
  exact Er _ _ _
 | z::l,i+1,x,y,h=>by
  have ih:=Rj (l:=l) (i:=i) (x:=x) (y:=y) (by simpa using h)
  rw[Pk]
  exact (Er z y l).trans ((ih.cons z).trans (Er x z _))
theorem fG(h:PE X e (Yi i)):Eu X e (vH i):=by
 refine PE.imp h λσ H Q h=>?_
 obtain ⟨H0,Y,S,T,δ,P,rfl,hS,hA,hd,k⟩:=h
 unfold vH at hd
 split at hd
 ·rename_i m d e1
  obtain ⟨ent,e2,e3⟩:=Gq hS e1
  have hm:ent∈S:=Au e2
  obtain ⟨u,x,F⟩:=ent
  subst e3
  obtain ⟨v,hv,hv2⟩:=hA.ok _ (Am _ hm)
  have hv':u=some v:=hv
  subst hv'
  refine ⟨v,by rw[Ke e2],k _ _ v F (S.set i ⟨some v,.un,[]⟩) H ?_ ?_ ?_ hd⟩
  ·unfold vs
   rw[Eg]
   apply Gk
   intro j
   rw[Gj]
   split
   ·rename_i hij
    subst hij
    rw[Az,e2]
    split
    ·rfl
    ·rename_i hj
     rw[Ac] at hj
     exact absurd (Ah.mp e2).1 hj
   ·rfl
  ·unfold Sl at hS ⊢
   rw[Eg,hS]
  ·have hp:=hA.push (e:=⟨some v,.un,[]⟩) (show Hl X.K H δ.n ⟨some v,.un,[]⟩ from rfl) (λf _=>⟨λ_ a ha=>(nomatch ha),λ_ a _=>Ax⟩) (λa ha=>(nomatch ha))
   have p1:(⟨some v,.un,[]⟩::(S++T)).Perm ((S.set i ⟨some v,.un,[]⟩)++⟨some v,.dat m d,F⟩::T):=by
    rw[<- Dl]
    exact ((Rj (y:=(⟨some v,.un,[]⟩ : Ent)) e2).append_right T).trans (by rw[Dl]; exact Dv.symm)
   exact hp.perm p1
 ·exact hd.elim
abbrev D2:=DV->DV->(DV->Prop)->Prop
def oF(K:PySem.W.Frag)(r:R2)(rd:D2):Prop:=∀(H0:Hp) (X:Addr->Prop) (n:Nat) (S T:List Ent) (x y:DV) (v w:V) (F G:List Addr) (H:Hp) (Q:VK) (P:DV->Prop),
 At K H0 X n (S++⟨some w,y,G⟩::⟨some v,x,F⟩::T) H->rd x y P->(∀z u F' H',At K H0 X n (S++⟨some u,z,F'⟩::T) H'->P z->Q u H')->r v w H Q
def Yk(rd:D2)(da db:DE):DE:=λδ P=>da δ λx δ1=>db δ1 λy δ2=>rd x y λz=>P z δ2
theorem dF(o:oF K r rd):∀σ H Q,LE K (Yk rd da db) σ H Q->BP r (LE K da) (LE K db) σ H Q:=by
 intro σ H Q h
 obtain ⟨H0,Y,S,T,δ,P,rfl,hS,hA,hd,k⟩:=h
 refine ⟨H0,Y,S,T,δ,_,rfl,hS,hA,hd,λx δ1 v F S1 H1 e1 e2 hA1 p1=>?_⟩
 refine ⟨H0,Y,S1,⟨some v,x,F⟩::T,δ1,_,e1,e2,hA1,p1,λy δ2 w G S2 H2 e3 e4 hA2 p2=>?_⟩
 exact o H0 Y δ2.n S2 T x y v w F G H2 Q _ hA2 p2 λz u F' H' hA3 p3=>k z δ2 u F' S2 H' e3 e4 hA3 p3
section
variable{X:Cx}{a b:Expr}{da db:DE}{pos:Pos}{r:R2}{rd:D2}
theorem Xs(ho:Xo X (Jv op) r)(o:oF X.K r rd)(ha:Eu X a da)(hb:Eu X b db):Eu X (.BinOp a op b pos) (Yk rd da db):=PE.imp (En ho ha hb) (dF o)
theorem zG(ho:Xo X (Ho op) r)(o:oF X.K r rd)(ha:Eu X a da)(hb:Eu X b db)(hm:Fp op b=false):Eu X (.Compare a [op] [b] pos) (Yk rd da db):=PE.imp (A0 ho ha hb hm) (dF o)
theorem CJ(ho:G7 X r)(o:oF X.K r rd)(ha:Eu X a da)(hb:Eu X b db)(hs:fA b):Eu X (.Subscript a b pos) (Yk rd da db):=PE.imp (Ow ho ha hb hs) (dF o)
end
def U9(C:Int->Int->Prop)(g:Int->Int->Ad):D2:=λx y P=>match x,y with
 | .dat _ (.int i),.dat _ (.int j)=>C i j/\P (.dat .ow (g i j))
 | _,_=>False
def oV(g:Int->Int->Ad):D2:=λx y P=>match x,y with
 | .dat _ (.int i),.dat _ (.int j)=>P (.dat .ow (g i j))
 | _,_=>False
section
variable{K:PySem.W.Frag}
theorem F8(h:∀i j H,RdF K H (g i j) (g' i j) []):oF K (rI C g) (U9 C g'):=by
 intro H0 X n S T x y v w F G H Q P hA hd k
 unfold U9 at hd
 split at hd
 ·obtain ⟨rfl,_⟩:=(hA.told Ek).int_inv
  obtain ⟨rfl,_⟩:=(hA.told mem_mid).int_inv
  exact ⟨_,_,rfl,rfl,hd.1,k _ _ [] H (hA.drop2.pushI (h _ _ H)) hd.2⟩
 ·exact hd.elim
theorem rF(h:∀i j H,RdF K H (g i j) (g' i j) []):oF K (O1 g) (oV g'):=by
 intro H0 X n S T x y v w F G H Q P hA hd k
 unfold oV at hd
 split at hd
 ·obtain ⟨rfl,_⟩:=(hA.told Ek).int_inv
  obtain ⟨rfl,_⟩:=(hA.told mem_mid).int_inv
  exact ⟨_,_,rfl,rfl,k _ _ [] H (hA.drop2.pushI (h _ _ H)) hd⟩
 ·exact hd.elim
end
abbrev rdAdd:D2:=oV λi j=>.int (i+j)
abbrev rdSub:D2:=oV λi j=>.int (i - j)
abbrev rdMul:D2:=U9 T4 λi j=>.int (i * j)
abbrev rdDiv:D2:=U9 V4 λi j=>.int (i / j)
abbrev rdMod:D2:=U9 (λ_ j=>0<j) λi j=>.int (i % j)
abbrev rdPow:D2:=U9 P6 λi j=>.int (i ^ j.toNat)
abbrev rdXor:D2:=oV λi j=>.int (Builtin.bitXor i j)
abbrev rdGt:D2:=oV λi j=>.bool (decide (j<i))
section
variable{X:Cx}{a b:Expr}{da db:DE}{pos:Pos}
theorem Ph(ha:Eu X a da)(hb:Eu X b db):Eu X (.BinOp a .Add b pos) (Yk rdAdd da db):=Xs Qq (rF λ_ _ _=>.int _) ha hb
theorem yU(ha:Eu X a da)(hb:Eu X b db):Eu X (.BinOp a .Sub b pos) (Yk rdSub da db):=Xs Y0 (rF λ_ _ _=>.int _) ha hb
theorem nJ(ha:Eu X a da)(hb:Eu X b db):Eu X (.BinOp a .Mult b pos) (Yk rdMul da db):=Xs Np (F8 λ_ _ _=>.int _) ha hb
theorem aI(ha:Eu X a da)(hb:Eu X b db):Eu X (.BinOp a .FloorDiv b pos) (Yk rdDiv da db):=Xs Wf (F8 λ_ _ _=>.int _) ha hb
theorem Gm(ha:Eu X a da)(hb:Eu X b db):Eu X (.BinOp a .Mod b pos) (Yk rdMod da db):=Xs Nu (F8 λ_ _ _=>.int _) ha hb
theorem V6(ha:Eu X a da)(hb:Eu X b db):Eu X (.BinOp a .Pow b pos) (Yk rdPow da db):=Xs Uz (F8 λ_ _ _=>.int _) ha hb
theorem W2(ha:Eu X a da)(hb:Eu X b db):Eu X (.BinOp a .BitXor b pos) (Yk rdXor da db):=Xs Y4 (rF λ_ _ _=>.int _) ha hb
end
def gZ(ne:Bool):D2:=λx y P=>match x,y with
 | .dat _ d,.dat _ e=>d.depth<=60/\e.depth<=60/\P (.dat .ow (.bool (match ne with | true=>!Do d e | false=>Do d e)))
 | _,_=>False
def fT(ne:Bool):D2:=λx y P=>match x,y with
 | .dat _ d,.dat _ (.list es)=>Bi es<=60/\d.depth<=60/\P (.dat .ow (.bool (match ne with | true=>!(es.any λe=>Do e d) | false=>es.any λe=>Do e d)))
 | .dat _ d,.dat _ (.tuple es)=>Bi es<=60/\d.depth<=60/\P (.dat .ow (.bool (match ne with | true=>!(es.any λe=>Do e d) | false=>es.any λe=>Do e d)))
 | _,_=>False
section
variable{K:PySem.W.Frag}
theorem N3:oF K (CP K) (gZ false):=by
 intro H0 X n S T x y v w F G H Q P hA hd k
 unfold gZ at hd
 split at hd
 ·exact ⟨_,_,(hA.told Ek).rd (Cc hd.1 (by decide)),(hA.told mem_mid).rd (Cc hd.2.1 (by decide)),hd.1,k _ _ [] H (hA.drop2.pushI (.bl _)) hd.2.2⟩
 ·exact hd.elim
theorem DJ:oF K (BD K) (gZ true):=by
 intro H0 X n S T x y v w F G H Q P hA hd k
 unfold gZ at hd
 split at hd
 ·exact ⟨_,_,(hA.told Ek).rd (Cc hd.1 (by decide)),(hA.told mem_mid).rd (Cc hd.2.1 (by decide)),hd.1,k _ _ [] H (hA.drop2.pushI (.bl _)) hd.2.2⟩
 ·exact hd.elim
theorem zF:oF K (S6 K ne) (fT ne):=by
 intro H0 X n S T x y v w F G H Q P hA hd k
 unfold fT at hd
 split at hd
 ·obtain ⟨a,xs,G',rfl,hq,hs,_,_⟩:=(hA.told mem_mid).list_inv
  refine ⟨a,xs,_,_,rfl,.inl (Kb.of hq),(hA.told Ek).rd (Cc hd.2.1 (by decide)),hs.rd (Cc hd.1 (by decide)),hd.1,?_⟩
  cases ne with
  | true=>exact k _ _ [] H (hA.drop2.pushI (.bl _)) hd.2.2
  | false=>exact k _ _ [] H (hA.drop2.pushI (.bl _)) hd.2.2
 ·obtain ⟨a,xs,rfl,hq,hs,_⟩:=(hA.told mem_mid).tup_inv
  refine ⟨a,xs,_,_,rfl,.inr (Vh.of hq),(hA.told Ek).rd (Cc hd.2.1 (by decide)),hs.rd (Cc hd.1 (by decide)),hd.1,?_⟩
  cases ne with
  | true=>exact k _ _ [] H (hA.drop2.pushI (.bl _)) hd.2.2
  | false=>exact k _ _ [] H (hA.drop2.pushI (.bl _)) hd.2.2
 ·exact hd.elim
def isNone:Ad->Bool
 | .none=>true
 | _=>false
theorem x6(r:RdF K H v d F):decide (v=.non)=isNone d:=by
 cases r <;> simp [isNone]
def qO(ne:Bool):D2:=λx y P=>match x,y with
 | .dat _ d,.dat _ .none=>P (.dat .ow (.bool (match ne with | true=>!isNone d | false=>isNone d)))
 | _,_=>False
theorem R7:oF K (λx y H Q=>y=.non/\Q (.bl (decide (x=.non))) H) (qO false):=by
 intro H0 X n S T x y v w F G H Q P hA hd k
 unfold qO at hd
 split at hd
 ·obtain ⟨rfl,_⟩:=(hA.told mem_mid).non_inv
  refine ⟨rfl,k _ _ [] H (hA.drop2.pushI (m:=.ow) (.bl _)) ?_⟩
  rw[x6 (hA.told Ek)]
  exact hd
 ·exact hd.elim
end
section
variable{X:Cx}{a b:Expr}{da db:DE}{pos:Pos}
theorem Vo(hu:X.A.units+64<cLine)(ha:Eu X a da)(hb:Eu X b db):Eu X (.Compare a [.Eq] [b] pos) (Yk (gZ false) da db):=zG (vP hu) N3 ha hb (Xf _)
theorem K4(hu:X.A.units+64<cLine)(ha:Eu X a da)(hb:Eu X b db)(hm:Fp .In b=false:=by with_unfolding_all rfl):Eu X (.Compare a [.In] [b] pos) (Yk (fT false) da db):=zG (xV hu) zF ha hb hm
end
def Oi:Md->Md
 | .ow=>.ow
 | .tp=>.sh
 | m=>m
theorem At.part(h:At K H0 X n (S++⟨some v,.dat m d,F⟩::T) H)(r:RdF K H w e G)(hG:G.Sublist F):At K H0 X n (S++⟨some w,.dat (Oi m) e,G⟩::T) H:=by
 have h2:=h.mid
 have hs:=Bf.mp h2.sep
 obtain ⟨v',e1,h1,hn,ht⟩:=h2.ok _ Aa
 have cs:∀a∈cells ⟨some w,.dat (Oi m) e,G⟩,a∈cells ⟨some v,.dat m d,F⟩:=λa ha=>by
  cases m with
  | ow=>exact hG.subset ha
  | tp=>exact nomatch ha
  | sh=>exact nomatch ha
  | pk=>exact nomatch ha
 refine (h.drop.push (e:=⟨some w,.dat (Oi m) e,G⟩) ⟨w,rfl,r,λz=>?_,λz=>?_⟩ (λf hf=>?_) λa ha=>?_).tomid
 ·cases m with
  | ow=>exact (hn rfl).sublist hG
  | _=>cases z
 ·cases m <;> cases z
 ·refine ⟨λhp a ha=>(hs.1 f hf).1 ?_ a (cs a ha),λhp a ha z=>(hs.1 f hf).2 ?_ a ha (hG.subset z)⟩
  ·rcases hp with hp | hp
   ·exact .inl hp
   ·cases hp
  ·rcases hp with hp | hp
   ·refine .inl ?_
    cases m <;> first | rfl | exact hp
   ·exact .inr hp
 ·rcases h2.new _ Aa a (cs a ha) with z | z
  ·exact .inl z
  ·cases z.2
def wK:D2:=λx y P=>match x,y with
 | .dat m (.list ds),.dat _ (.int i)=>∃d,Uv ds i=some d/\P (.dat (Oi m) d)
 | .dat m (.tuple ds),.dat _ (.int i)=>∃d,Uv ds i=some d/\P (.dat (Oi m) d)
 | .dat _ (.str z),.dat _ (.int i)=>z.length<=Av/\∃c,Uv z.cps.toList i=some c/\P (.dat .ow (.str ⟨#[c]⟩))
 | _,_=>False
theorem zN(r:RdFs K H xs ds F)(h:Uv ds i=some d):∃x G,Uv xs i=some x/\RdF K H x d G/\G.Sublist F:=by
 unfold Uv at h ⊢
 rw[r.len]
 cases e:F4 ds.length i with
 | none=>rw[e] at h; cases h
 | some j =>
  rw[e] at h
  exact r.get h
theorem At.swap(h:At K H0 X n (S++e::f::T) H):At K H0 X n (S++f::e::T) H:=h.perm ((Rh S).append (Er f e T))
theorem AH:oF K (GM K) wK:=by
 intro H0 X n S T x y v w F G H Q P hA hd k
 unfold wK at hd
 split at hd
 ·obtain ⟨d,hi,p⟩:=hd
  obtain ⟨rfl,_⟩:=(hA.told mem_mid).int_inv
  have r:=hA.told Ek
  have hA':=hA.drop
  obtain ⟨a,xs,G0,rfl,hq,hs,hG,_⟩:=r.list_inv
  obtain ⟨x,G',h1,h2,h3⟩:=zN hs hi
  subst hG
  exact .inl ⟨_,_,_,_,rfl,rfl,Kb.of hq,h1,k _ _ G' H (hA'.part h2 (h3.trans (Dg _ _))) p⟩
 ·obtain ⟨d,hi,p⟩:=hd
  obtain ⟨rfl,_⟩:=(hA.told mem_mid).int_inv
  have r:=hA.told Ek
  have hA':=hA.drop
  obtain ⟨a,xs,rfl,hq,hs,_⟩:=r.tup_inv
  obtain ⟨x,G',h1,h2,h3⟩:=zN hs hi
  exact .inr (.inl ⟨_,_,_,_,rfl,rfl,Vh.of hq,h1,k _ _ G' H (hA'.part h2 h3) p⟩)
 ·obtain ⟨hz,c,hi,p⟩:=hd
  obtain ⟨rfl,_⟩:=(hA.told mem_mid).int_inv
  obtain ⟨rfl,_⟩:=(hA.told Ek).str_inv
  exact .inr (.inr ⟨_,_,_,rfl,rfl,hz,hi,k _ _ [] H (hA.drop2.pushI (.str _)) p⟩)
 ·exact hd.elim
theorem Fh(ha:Eu X a da)(hb:Eu X b db)(hs:fA b:=by intro _ _; rfl):Eu X (.Subscript a b pos) (Yk wK da db):=CJ Y1 AH ha hb hs
def qN:Md->Md
 | .ow=>.ow
 | .pk=>.pk
 | _=>.tp
def jR(i:Bool)(m:Md)(ds:List Ad)(P:DV->Prop):Prop:=match i with
 | true=>Ed ds=true/\P (.dat .ow (.list ds))
 | false=>P (.dat (qN m) (.list ds))
def CW(i:Bool)(m:Md)(ds:List Ad)(P:DV->Prop):Prop:=match i with
 | true=>Ed ds=true/\P (.dat .ow (.tuple ds))
 | false=>P (.dat (Oi m) (.tuple ds))
section
variable{K:PySem.W.Frag}{H0 H:Hp}{X:Addr->Prop}{n:Nat}{S T:List Ent}{v w:V}{m:Md}{d e:Ad}{F G:List Addr}{p:Addr}{xs:List V}{ds:List Ad}{P:DV->Prop}{i:Bool}
theorem At.newI(h:At K H0 X n (S++T) H)(r:RdFs K H xs ds G)(hi:Ed ds=true)(hz:ds.length<=Av)(hp:H p=none)(m:Md):At K H0 X n (S++⟨some (.ref p),.dat m (.list ds),[p]⟩::T) (upd H p (.lst xs)):=by
 obtain rfl:=r.imm hi
 have s1:=Dn hp (.lst xs)
 have h1:=h.grow (n':=n) s1 (Ak _)
 refine (h1.push (e:=⟨some (.ref p),.dat m (.list ds),[p]⟩) ⟨_,rfl,.lst Cm hz (r.kp (Kp.of s1)),λ_=>Bz.mpr ⟨Ax,Co⟩,λ_ a l z=>by cases z; exact Ax⟩ (λf hf=>?_) λa ha=>?_).tomid
 ·have nf:=h.free hp f hf
  refine ⟨λ_ a ha z=>?_,λ_ a ha z=>?_⟩
  ·have:=Fo _ a ha
   rw[Ag.mp this] at z
   exact nf z
  ·rw[Ag.mp z] at ha
   exact nf (Fo _ _ ha)
 ·have:=Fo _ a ha
  rw[Ag.mp this]
  exact .inl (h.new0 hp)
theorem At.newL(h:At K H0 X n (S++⟨some v,.dat m d,F⟩::T) H)(r:RdFs K H xs ds G)(hG:G.Sublist F)(hz:ds.length<=Av)(hp:H p=none)(q:jR i m ds P):∃z F',At K H0 X n (S++⟨some (.ref p),z,F'⟩::T) (upd H p (.lst xs))/\P z:=by
 cases i with
 | true=>exact ⟨_,_,h.drop.newI r q.1 hz hp .ow,q.2⟩
 | false =>
  have q:P (.dat (qN m) (.list ds)):=q
  refine ⟨_,p::G,?_,q⟩
  have s1:=Dn hp (.lst xs)
  have h2:=h.mid
  have hs:=Bf.mp h2.sep
  obtain ⟨v',e1,_,hn,_⟩:=h2.ok _ Aa
  have h1:=h.drop.grow (n':=n) s1 (Ak _)
  have npF:p∉F:=h2.free hp _ Aa
  have npG:p∉G:=λz=>npF (hG.subset z)
  have cs:∀a∈cells ⟨some (.ref p),.dat (qN m) (.list ds),p::G⟩,a=p\/(a∈cells ⟨some v,.dat m d,F⟩):=λa ha=>by
   cases m with
   | ow =>
    rcases Aj.mp ha with z | z
    ·exact .inl z
    ·exact .inr (hG.subset z)
   | tp=>exact .inl (Ag.mp ha)
   | sh=>exact .inl (Ag.mp ha)
   | pk=>exact nomatch ha
  refine (h1.push (e:=⟨some (.ref p),.dat (qN m) (.list ds),p::G⟩) ⟨_,rfl,.lst Cm hz (r.kp (Kp.of s1)),λz=>?_,λz a l e=>?_⟩ (λf hf=>?_) λa ha=>?_).tomid
  ·cases m with
   | ow=>exact Bz.mpr ⟨npG,(hn rfl).sublist hG⟩
   | _=>cases z
  ·cases e
   exact npG
  ·have nf:=h2.free hp f (Ae _ hf)
   refine ⟨λhq a ha z=>?_,λhq a ha z=>?_⟩
   ·rcases cs a ha with rfl | hc
    ·exact nf z
    ·refine (hs.1 f hf).1 ?_ a hc z
     rcases hq with hq | hq
     ·exact .inl hq
     ·cases hq
   ·rcases Aj.mp z with rfl | z
    ·exact nf (Fo _ _ ha)
    ·refine (hs.1 f hf).2 ?_ a ha (hG.subset z)
     rcases hq with hq | hq
     ·refine .inl ?_
      cases m <;> first | rfl | exact hq
     ·exact .inr hq
  ·rcases cs a ha with rfl | hc
   ·exact .inl (h2.new0 hp)
   ·rcases h2.new _ Aa a hc with z | z
    ·exact .inl z
    ·cases z.2
end
def X6:DA:=λδ P=>P [] δ
def M9(de:DE)(da:DA):DA:=λδ P=>de δ λx δ1=>da δ1 λxs δ2=>P (x::xs) δ2
section
variable{X:Cx}{e:Expr}{es:List Expr}{de:DE}{da:DA}
theorem Bn:oW X [] X6:=by
 refine PA.imp Iu λσ H Q h=>?_
 obtain ⟨H0,Y,S,T,δ,P,rfl,hS,hA,hd,k⟩:=h
 exact k [] δ [] [] S H rfl hS rfl rfl hA hd
theorem Ay(ha:Eu X e de)(hr:oW X es da)(hs:Bm (e::es) X.env=(false,eval e X.env)::Bm es X.env:=by rfl):oW X (e::es) (M9 de da):=by
 refine PA.imp (Fu ha hr hs) λσ H Q h=>?_
 obtain ⟨H0,Y,S,T,δ,P,rfl,hS,hA,hd,k⟩:=h
 refine ⟨H0,Y,S,T,δ,_,rfl,hS,hA,hd,λx δ1 v F S1 H1 e1 e2 hA1 p1=>?_⟩
 refine ⟨H0,Y,S1,⟨some v,x,F⟩::T,δ1,_,e1,e2,hA1,p1,λxs δ2 As us S2 H2 e3 e4 ex eu hA2 p2=>?_⟩
 refine k (x::xs) δ2 (⟨some v,x,F⟩::As) (v::us) S2 H2 e3 e4 (by rw[Ar,ex]) (by rw[Ar,Ar,eu]) (hA2.perm ((Rh S2).append ?_)) p2
 exact Dv
end
def allOw:List DV->Bool
 | []=>true
 | .dat .ow _::xs=>allOw xs
 | _=>false
def noPk:List DV->Bool
 | []=>true
 | .dat .pk _::_=>false
 | .dat _ _::xs=>noPk xs
 | _=>false
def datas:List DV->Option (List Ad)
 | []=>some []
 | .dat _ d::xs=>(datas xs).map (d::·)
 | _=>none
def pkMd(top:Md)(xs:List DV):Md:=if allOw xs=true then .ow else if noPk xs=true then top else .pk
section
variable{K:PySem.W.Frag}{H0 H:Hp}{X:Addr->Prop}{n:Nat}{S T As:List Ent}
theorem Sb:∀{As:List Ent} {us:List V} {ds:List Ad},As.map Ent.v=us.map some->datas (As.map Ent.x)=some ds->(∀e∈As,Hl K H n e)->RdFs K H us ds (As.flatMap Ent.F)
 | [],us,ds,e,h,_=>by
  cases us with
  | nil=>cases h; exact .nil
  | cons _ _=>cases e
 | ent::As,us,ds,e,h,ok=>by
  cases us with
  | nil=>cases e
  | cons u us =>
   rw[Ar,Ar] at e
   obtain ⟨e1,e2⟩:=Ep e
   obtain ⟨v,x,F⟩:=ent
   have e1':v=some u:=e1
   subst e1'
   rw[Ar] at h
   cases x with
   | dat m d =>
    rw[show datas (DV.dat m d::As.map Ent.x)=(datas (As.map Ent.x)).map (d::·) from rfl] at h
    cases q:datas (As.map Ent.x) with
    | none=>rw[q] at h; cases h
    | some es =>
     rw[q] at h
     cases h
     obtain ⟨w,ew,rw',_⟩:=ok _ Aa
     cases ew
     rw[List.flatMap_cons]
     exact .cons rw' (Sb e2 q λf hf=>ok f (Ae _ hf))
   | _=>cases h
theorem Pw:∀{As:List Ent},allOw (As.map Ent.x)=true->∀e∈As,∃d,e.x=.dat .ow d
 | [],_,_,h=>nomatch h
 | ⟨v,x,F⟩::As,h,e,he=>by
  rw[Ar] at h
  have hx:(∃d,x=.dat .ow d)/\allOw (As.map Ent.x)=true:=by
   cases x with
   | dat m d=>cases m <;> first | exact ⟨⟨d,rfl⟩,h⟩ | cases h
   | _=>cases h
  rcases Aj.mp he with rfl | he
  ·exact hx.1
  ·exact Pw hx.2 e he
theorem kQ:∀{As:List Ent},noPk (As.map Ent.x)=true->∀e∈As,Lg e.x=false
 | [],_,_,h=>nomatch h
 | ⟨v,x,F⟩::As,h,e,he=>by
  rw[Ar] at h
  have hx:Lg x=false/\noPk (As.map Ent.x)=true:=by
   cases x with
   | dat m d=>cases m <;> first | exact ⟨rfl,h⟩ | cases h
   | _=>cases h
  rcases Aj.mp he with rfl | he
  ·exact hx.1
  ·exact kQ hx.2 e he
theorem bA:∀{As:List Ent},(∀e∈As,∃d,e.x=.dat .ow d)->(∀e∈As,Hl K H n e)->As.Pairwise Wk->(As.flatMap Ent.F).Nodup
 | [],_,_,_=>Co
 | ent::As,ho,ok,hs=>by
  rw[List.flatMap_cons]
  have hc:=Bf.mp hs
  obtain ⟨v,x,F⟩:=ent
  obtain ⟨d,hd⟩:=ho _ Aa
  have hd':x=.dat .ow d:=hd
  subst hd'
  obtain ⟨w,_,_,hn,_⟩:=ok _ Aa
  refine Gi.mpr ⟨hn rfl,bA (λe he=>ho e (Ae _ he)) (λe he=>ok e (Ae _ he)) hc.2,λa ha b hb z=>?_⟩
  subst z
  obtain ⟨f,hf,hb⟩:=Rc.mp hb
  obtain ⟨d',hd'⟩:=ho f (Ae _ hf)
  exact (hc.1 f hf).1 (.inl (by rw[hd']; rfl)) a ha hb
theorem At.pack(h:At K H0 X n (S++(As++T)) H)(s:Mg H H')(hN:∀a∈N,H a=none)(ndN:N.Nodup)(htop:(top=.tp/\N.length=1)\/(top=.sh/\N=[]))(r:RdF K H' v d (N++As.flatMap Ent.F)):At K H0 X n (S++⟨some v,.dat (pkMd top (As.map Ent.x)) d,N++As.flatMap Ent.F⟩::T) H':=by
 have hp:(S++(As++T)).Perm (As++(S++T)):=by
  rw[<- Ce,<- Ce]
  exact Fv.append_right T
 have h2:=h.perm hp
 have hs:=Dm.mp h2.sep
 have h1:=(h.dropL).grow (n':=n) s (Ak _)
 have nN:∀a∈N,∀f∈As++(S++T),a∉f.F:=λa ha f hf=>h2.free (hN a ha) f hf
 have nFlat:∀a∈N,a∉As.flatMap Ent.F:=λa ha z=>by
  obtain ⟨f,hf,z⟩:=Rc.mp z
  exact nN a ha f (Am _ hf) z
 have cs:∀a∈cells ⟨some v,.dat (pkMd top (As.map Ent.x)) d,N++As.flatMap Ent.F⟩,a∈N\/(allOw (As.map Ent.x)=true/\∃f∈As,a∈cells f):=λa ha=>by
  unfold pkMd at ha
  by_cases hw:allOw (As.map Ent.x)=true
  ·rw[if_pos hw] at ha
   rcases Bg.mp ha with z | z
   ·exact .inl z
   ·obtain ⟨f,hf,z⟩:=Rc.mp z
    obtain ⟨d',hd'⟩:=Pw hw f hf
    refine .inr ⟨hw,f,hf,?_⟩
    unfold cells
    rw[hd']
    exact z
  ·rw[if_neg hw] at ha
   by_cases hk:noPk (As.map Ent.x)=true
   ·rw[if_pos hk] at ha
    rcases htop with ⟨rfl,h1⟩ | ⟨rfl,rfl⟩
    ·match N,h1,ha with
     | [b],_,ha=>exact .inl ha
    ·exact nomatch ha
   ·rw[if_neg hk] at ha
    exact nomatch ha
 refine (h1.push (e:=⟨some v,.dat (pkMd top (As.map Ent.x)) d,N++As.flatMap Ent.F⟩) ⟨_,rfl,r,λz=>?_,λz a l e=>?_⟩ (λf hf=>?_) λa ha=>?_).tomid
 ·have hw:allOw (As.map Ent.x)=true:=by
   unfold pkMd at z
   by_cases hw:allOw (As.map Ent.x)=true
   ·exact hw
   ·rw[if_neg hw] at z
    split at z
    ·rcases htop with ⟨rfl,_⟩ | ⟨rfl,_⟩ <;> cases z
    ·cases z
  refine Gi.mpr ⟨ndN,bA (Pw hw) (λe he=>h2.ok e (Am _ he)) hs.1,λa ha b hb e=>?_⟩
  subst e
  exact nFlat a ha hb
 ·have ht:top=.tp:=by
   unfold pkMd at z
   split at z
   ·cases z
   ·split at z
    ·exact z
    ·cases z
  subst ht
  rcases htop with ⟨_,h1⟩ | ⟨h1,_⟩
  ·match N,h1,e,nFlat with
   | [b],_,e,nFlat =>
    cases e
    exact nFlat a Aa
  ·cases h1
 ·have hf':f∈As++(S++T):=Al _ hf
  refine ⟨λhq a ha z=>?_,λhq a ha z=>?_⟩
  ·rcases cs a ha with hn | ⟨_,g,hg,hc⟩
   ·exact nN a hn f hf' z
   ·refine (hs.2.2 g hg f hf).1 ?_ a hc z
    rcases hq with hq | hq
    ·exact .inl hq
    ·cases hq
  ·rcases Bg.mp z with z | z
   ·exact nN a z f hf' (Fo _ _ ha)
   ·obtain ⟨g,hg,z⟩:=Rc.mp z
    refine (hs.2.2 g hg f hf).2 ?_ a ha z
    rcases hq with hq | hq
    ·refine .inl ?_
     have hq':Lg (.dat (pkMd top (As.map Ent.x)) d)=false:=hq
     unfold pkMd at hq'
     by_cases hw:allOw (As.map Ent.x)=true
     ·obtain ⟨d',hd'⟩:=Pw hw g hg
      rw[hd']
      rfl
     ·rw[if_neg hw] at hq'
      by_cases hk:noPk (As.map Ent.x)=true
      ·exact kQ hk g hg
      ·rw[if_neg hk] at hq'
       cases hq'
    ·exact .inr hq
 ·rcases cs a ha with hn | ⟨_,g,hg,hc⟩
  ·exact .inl (h2.new0 (hN a hn))
  ·rcases h2.new g (Am _ hg) a hc with z | z
   ·exact .inl z
   ·obtain ⟨d',hd'⟩:=Pw (by assumption) g hg
    rw[hd'] at z
    cases z.2
end
def Z3(da:DA):DE:=λδ P=>da δ λxs δ'=>match datas xs with
 | some ds=>ds.length<=1000/\P (.dat (pkMd .sh xs) (.tuple ds)) δ'
 | none=>False
def AC(da:DA):DE:=λδ P=>da δ λxs δ'=>match datas xs with
 | some ds=>ds.length<=1000/\P (.dat (pkMd .tp xs) (.list ds)) δ'
 | none=>False
section
variable{X:Cx}{es:List Expr}{da:DA}{pos:Pos}
theorem vW(h:oW X es da):Eu X (.Tuple es x1 pos) (Z3 da):=by
 refine PE.imp (aS h) λσ H Q h=>?_
 obtain ⟨H0,Y,S,T,δ,P,rfl,hS,hA,hd,k⟩:=h
 refine ⟨H0,Y,S,T,δ,_,rfl,hS,hA,hd,λxs δ' As us S' H' e1 e2 ex eu hA' p=>?_⟩
 cases q:datas xs with
 | none=>rw[q] at p; exact p.elim
 | some ds =>
  rw[q] at p
  subst ex
  have r:=Sb eu q λe he=>hA'.ok e (Al _ (Am _ he))
  have hl:=r.len
  have hz:ds.length<=Av:=sz p.1
  refine ⟨by omega,λt ht=>?_⟩
  have s1:=Dn ht (.tup us)
  exact k _ δ' _ _ S' _ e1 e2 (hA'.pack (N:=[]) s1 (λ_ z=>nomatch z) Co (.inr ⟨rfl,rfl⟩) (.tup Cm hz (r.kp (Kp.of s1)))) p.2
theorem Kx(h:oW X es da):Eu X (.List es pos) (AC da):=by
 refine PE.imp (aC h) λσ H Q h=>?_
 obtain ⟨H0,Y,S,T,δ,P,rfl,hS,hA,hd,k⟩:=h
 refine ⟨H0,Y,S,T,δ,_,rfl,hS,hA,hd,λxs δ' As us S' H' e1 e2 ex eu hA' p=>?_⟩
 cases q:datas xs with
 | none=>rw[q] at p; exact p.elim
 | some ds =>
  rw[q] at p
  subst ex
  have r:=Sb eu q λe he=>hA'.ok e (Al _ (Am _ he))
  have hl:=r.len
  have hz:ds.length<=Av:=sz p.1
  refine ⟨by omega,λt ht=>?_⟩
  have s1:=Dn ht (.lst us)
  exact k _ δ' _ _ S' _ e1 e2 (hA'.pack (N:=[t]) s1 (λa z=>by rw[Ag.mp z]; exact ht) (Bz.mpr ⟨Ax,Co⟩) (.inl ⟨rfl,rfl⟩) (.lst Cm hz (r.kp (Kp.of s1)))) p.2
end
end DL
namespace Nd
open PySem PySem.Spec PyProof.Rows L2
theorem Nx:∀{vs:List Value} {ns:List Int},Fd (ns.map V.int) vs->∃xs:List (Int×Tok),vs=xs.map (λp=>Vb p.1 p.2)/\xs.map (·.1)=ns
 | [],[],_=>⟨[],rfl,rfl⟩
 | v::vs,n::ns,h=>by
  cases h with
  | cons h1 h2 =>
   obtain ⟨t,rfl⟩:=h1
   obtain ⟨xs,e1,e2⟩:=Nx h2
   exact ⟨(n,t)::xs,by rw[e1]; rfl,by rw[<- e2]; rfl⟩
 | [],n::ns,h=>nomatch h
 | v::vs,[],h=>nomatch h
section
variable{X:Cx}
def K7(K:PySem.W.Frag):List V->Hp->VK->Prop:=λxs H Q=>∃(a:Addr) (ns:List Int),xs=[.ref a]/\Kb K H a (ns.map V.int)/\ns≠[]/\∀M∈ns,(∀x∈ns,M<=x)->Q (.int M) H
def N9(K:PySem.W.Frag):List V->Hp->VK->Prop:=λxs H Q=>∃(a:Addr) (ns:List Int),xs=[.ref a]/\Kb K H a (ns.map V.int)/\ns≠[]/\∀M∈ns,(∀x∈ns,x<=M)->Q (.int M) H
theorem cR(hc:X.calm=true):Mf X (.builtin "min") (K7 X.K):=by
 intro pins s σ H xs us Q I r h
 obtain ⟨p,ns,rfl,hp,ne,q⟩:=h
 obtain ⟨u,rfl,ru⟩:=vals1 r
 cases ru
 obtain ⟨its,rv,pl,_⟩:=I.list hp
 obtain ⟨ps,rfl,rfl⟩:=Nx rv
 have hl:s.heap.IsList p (Ui ps.toArray):=by simpa [Ui] using pl.isList
 have hpos:0<ps.toArray.size:=by rcases ps with _ | ⟨x,ps⟩ <;> simp at ne ⊢
 refine min_intList (I.ok.hd hc) hl hpos λv h' tk hv k=>?_
 obtain ⟨t,rfl⟩:=intItems_at hv
 obtain ⟨h1,h2⟩:=argBest_lt (numAt ps.toArray) (ps.toArray.size - 1)
 refine ⟨.int _,H,I.kept k,⟨t,rfl⟩,q _ ?_ λx hx=>?_⟩
 ·rw[numAt_eq]; exact getD_mem (by rw[Ac]; show _<ps.length; have hs:ps.toArray.size=ps.length:=Aq; omega)
 ·obtain ⟨j,hj,rfl⟩:=mem_getD hx
  rw[Ac] at hj
  have:=h2 j (by have hs:ps.toArray.size=ps.length:=Aq; have hj':j<ps.length:=hj; omega)
  rw[numAt_eq ps.toArray j] at this
  exact this
theorem sT(hc:X.calm=true):Mf X (.builtin "max") (N9 X.K):=by
 intro pins s σ H xs us Q I r h
 obtain ⟨p,ns,rfl,hp,ne,q⟩:=h
 obtain ⟨u,rfl,ru⟩:=vals1 r
 cases ru
 obtain ⟨its,rv,pl,_⟩:=I.list hp
 obtain ⟨ps,rfl,rfl⟩:=Nx rv
 have hl:s.heap.IsList p (Ui ps.toArray):=by simpa [Ui] using pl.isList
 have hpos:0<ps.toArray.size:=by rcases ps with _ | ⟨x,ps⟩ <;> simp at ne ⊢
 refine max_intList (I.ok.hd hc) hl hpos λv h' tk hv k=>?_
 obtain ⟨t,rfl⟩:=intItems_at hv
 obtain ⟨h1,h2⟩:=argBest_gt (numAt ps.toArray) (ps.toArray.size - 1)
 refine ⟨.int _,H,I.kept k,⟨t,rfl⟩,q _ ?_ λx hx=>?_⟩
 ·rw[numAt_eq]; exact getD_mem (by rw[Ac]; show _<ps.length; have hs:ps.toArray.size=ps.length:=Aq; omega)
 ·obtain ⟨j,hj,rfl⟩:=mem_getD hx
  rw[Ac] at hj
  have:=h2 j (by have hs:ps.toArray.size=ps.length:=Aq; have hj':j<ps.length:=hj; omega)
  rw[numAt_eq ps.toArray j] at this
  exact this
end
end Nd
namespace Ts
open PySem PyProof.Rows
def Ss:Bool->Keyed->Array Keyed->Nat->Nat->Nat->StateT Bt Sem (Option Nat):=sortPriv% PySem.Builtin.gallop
structure Cmp(prog:Bo)(w:World)(A:Cn)(s:Ai)(kd:Lq)(Ok:Keyed->Prop)(blt:Keyed->Keyed->Bool):Prop where
 run:∀(x y:Keyed) (Q:Bool->Ai->Prop) (E:Value->Ai->Prop),Ok x->Ok y->Q (blt x y) s->wpAny (model prog w) A (keyLt' kd x.1 y.1) Q E s
 irr:∀x,blt x x=false
 tr:∀x y z,blt x y=true->blt y z=true->blt x z=true
 neg:∀x y z,blt x z=true->blt x y=true\/blt y z=true
def le(blt:Keyed->Keyed->Bool)(x y:Keyed):Prop:=blt y x=false
section
variable{prog:Bo}{w:World}{A:Cn}{s:Ai}{kd:Lq}{Ok:Keyed->Prop}{blt:Keyed->Keyed->Bool}
theorem Cmp.refl(C:Cmp prog w A s kd Ok blt)(x:Keyed):le blt x x:=C.irr x
theorem Cmp.ofLt(C:Cmp prog w A s kd Ok blt)(h:blt x y=true):le blt x y:=by
 unfold le
 cases q:blt y x with
 | false=>rfl
 | true=>have:=C.tr _ _ _ h q; rw[C.irr] at this; cases this
theorem Cmp.trans(C:Cmp prog w A s kd Ok blt)(h1:le blt x y)(h2:le blt y z):le blt x z:=by
 unfold le at *
 cases q:blt z x with
 | false=>rfl
 | true =>
  rcases C.neg _ y _ q with h | h
  ·rw[h2] at h; cases h
  ·rw[h1] at h; cases h
theorem Cmp.ltLe(C:Cmp prog w A s kd Ok blt)(h1:blt x y=true)(h2:le blt y z):blt x z=true:=by
 unfold le at h2
 rcases C.neg _ z _ h1 with h | h
 ·exact h
 ·rw[h2] at h; cases h
theorem Cmp.leLt(C:Cmp prog w A s kd Ok blt)(h1:le blt x y)(h2:blt y z=true):blt x z=true:=by
 unfold le at h1
 rcases C.neg _ x _ h2 with h | h
 ·rw[h1] at h; cases h
 ·exact h
variable{E:Value->Ai->Prop}
structure Kept(st st':Bt):Prop where
 kind:kindOf st'=kindOf st
 arr:arrOf st'=arrOf st
 pend:Bj st'=Bj st
 fail:Ko st'=Ko st
theorem Kept.refl(st:Bt):Kept st st:=⟨rfl,rfl,rfl,rfl⟩
theorem Kept.trans(h:Kept a b)(k:Kept b c):Kept a c:=⟨k.kind.trans h.kind,k.arr.trans h.arr,k.pend.trans h.pend,k.fail.trans h.fail⟩
theorem jS(C:Cmp prog w A s kd Ok blt){st:Bt}(hk:kindOf st=kd)(ox:Ok x)(oy:Ok y)(h:Q (some (blt x y)) st):wpS (model prog w) A E s (lt' x y) Q st:=by
 rw[lt'_eq]
 refine Be (Mu ?_)
 rw[hk]
 exact Be (wpS_lift (Io (C.run x y _ _ ox oy ⟨rfl,Bk h⟩)))
theorem Fb{st:Bt}(h:xs[i]? = some p)(q:Q p st):wpS (model prog w) A E s (elem' xs i) Q st:=by
 rw[elem'_eq,h]
 exact Bk q
def Su(left:Bool)(key:Keyed)(arr:Array Keyed)(base i:Nat):StateT Bt Sem (Option Bool):=do
 let x <- elem' arr (base+i)
 if left then lt' x key else return (<- lt' key x).map (!·)
def pY(left:Bool)(key:Keyed)(arr:Array Keyed)(base n lo0 hi0:Nat):StateT Bt Sem (Option Nat):=do
 let mut lo:=lo0
 let mut hi:=hi0
 for _ in [0:n] do
  if lo ≥ hi then break
  let mid:=lo+(hi - lo) / 2
  let some up <- Su left key arr base mid | return none
  if up then lo:=mid+1 else hi:=mid
 return some hi
theorem lW(left:Bool)(key:Keyed)(arr:Array Keyed)(base n hint:Nat):Ss left key arr base n hint=(do
  let some right <- Su left key arr base hint | return none
  let mut last:=0
  let mut ofs:=1
  if right then
   let top:=n - hint
   for _ in [0:n] do
    if ofs ≥ top then break
    let some up <- Su left key arr base (hint+ofs) | return none
    if !up then break
    last:=ofs
    ofs:=2 * ofs+1
   pY left key arr base n (hint+last+1) (hint+min ofs top)
  else
   let top:=hint+1
   for _ in [0:n] do
    if ofs ≥ top then break
    let some got <- Su left key arr base (hint - ofs) | return none
    if got then break
    last:=ofs
    ofs:=2 * ofs+1
   pY left key arr base n (hint+1 - min ofs top) (hint - last)):=rfl
def Gp(blt:Keyed->Keyed->Bool)(left:Bool)(key x:Keyed):Bool:=if left then blt x key else !blt key x
structure Row(Ok:Keyed->Prop)(arr:Array Keyed)(base n:Nat)(el:Nat->Keyed):Prop where
 at_:∀i,i<n->arr[base+i]? = some (el i)
 ok:∀i,i<n->Ok (el i)
theorem Tc(C:Cmp prog w A s kd Ok blt){st:Bt}(R:Row Ok arr base n el)(ok:Ok key)(hk:kindOf st=kd)(hi:i<n)(h:Q (some (Gp blt left key (el i))) st):wpS (model prog w) A E s (Su left key arr base i) Q st:=by
 unfold Su
 refine Be (Fb (R.at_ i hi) ?_)
 cases left with
 | true =>
  rw[if_pos rfl]
  exact jS C hk (R.ok i hi) ok h
 | false =>
  rw[if_neg Bq]
  exact Be (jS C hk ok (R.ok i hi) (Bk h))
theorem qP(C:Cmp prog w A s kd Ok blt){st:Bt}{base n lo hi:Nat}(R:Row Ok arr base n el)(ok:Ok key)(hk:kindOf st=kd)(mono:∀i j,i<=j->j<n->Gp blt left key (el j)=true->Gp blt left key (el i)=true)(h1:lo<=hi)(h2:hi<=n)(t1:∀i,i<lo->Gp blt left key (el i)=true)(t2:∀i,hi<=i->i<n->Gp blt left key (el i)=false)(h:∀k,k<=n->(∀i,i<k->Gp blt left key (el i)=true)->(∀i,k<=i->i<n->Gp blt left key (el i)=false)->Q (some k) st):wpS (model prog w) A E s (pY left key arr base n lo hi) Q st:=by
 unfold pY
 refine Be (Gy (Ee (I:=λx c st'=>∃l r,c=(none,l,r)/\st'=st/\l<=r/\r<=n/\r - l+x<=n/\(∀i,i<l->Gp blt left key (el i)=true)/\(∀i,r<=i->i<n->Gp blt left key (el i)=false))
  (Q:=λc st'=>∃r,c=(none,r,r)/\st'=st/\r<=n/\(∀i,i<r->Gp blt left key (el i)=true)/\(∀i,r<=i->i<n->Gp blt left key (el i)=false)) ?_ ?_ ⟨lo,hi,rfl,rfl,h1,h2,by omega,t1,t2⟩) ?_)
 ·(intro x c st' _ hx q_; obtain ⟨l,r,rfl,rfl,a1,a2,a3,b1,b2⟩ := q_)
  dsimp only
  by_cases hlr:l ≥ r
  ·rw[if_pos hlr]
   have e:l=r:=by omega
   subst e
   exact Bk ⟨l,rfl,rfl,a2,b1,b2⟩
  ·rw[if_neg hlr]
   have hm:l+(r - l) / 2<n:=by omega
   refine Be (Tc C R ok hk hm ?_)
   dsimp only
   cases hb:Gp blt left key (el (l+(r - l) / 2)) with
   | true =>
    rw[if_pos rfl]
    exact Bk ⟨l+(r - l) / 2+1,r,rfl,rfl,by omega,a2,by omega,λi hi=>mono i _ (by omega) hm hb,b2⟩
   | false =>
    rw[if_neg Bq]
    refine Bk ⟨l,l+(r - l) / 2,rfl,rfl,by omega,by omega,by omega,b1,λi hi hn=>?_⟩
    cases q:Gp blt left key (el i) with
    | false=>rfl
    | true=>rw[mono _ i hi hn q] at hb; cases hb
 ·(intro c st' q_; obtain ⟨l,r,rfl,rfl,a1,a2,a3,b1,b2⟩ := q_)
  have e:l=r:=by
   have : max 0 n=n:=by omega
   rw[this] at a3
   omega
  subst e
  exact ⟨l,rfl,rfl,a2,b1,b2⟩
 ·(intro c st' q_; obtain ⟨r,rfl,rfl,a2,b1,b2⟩ := q_)
  exact Bk (h r a2 b1 b2)
theorem Ni(C:Cmp prog w A s kd Ok blt){st:Bt}(R:Row Ok arr base n el)(ok:Ok key)(hk:kindOf st=kd)(hh:hint<n)(mono:∀i j,i<=j->j<n->Gp blt left key (el j)=true->Gp blt left key (el i)=true)(h:∀k,k<=n->(∀i,i<k->Gp blt left key (el i)=true)->(∀i,k<=i->i<n->Gp blt left key (el i)=false)->Q (some k) st):wpS (model prog w) A E s (Ss left key arr base n hint) Q st:=by
 have anti:∀i j,i<=j->j<n->Gp blt left key (el i)=false->Gp blt left key (el j)=false:=λi j hij hj q=>by
  cases z:Gp blt left key (el j) with
  | false=>rfl
  | true=>rw[mono i j hij hj z] at q; cases q
 rw[lW]
 refine Be (Tc C R ok hk hh ?_)
 dsimp only
 cases hb:Gp blt left key (el hint) with
 | true =>
  rw[if_pos rfl]
  refine Be (Gy (Ee (I:=λx c st'=>∃la o,c=(none,la,o)/\st'=st/\la<o/\x+1<=o/\hint+la<n/\Gp blt left key (el (hint+la))=true)
   (Q:=λc st'=>∃la o,c=(none,la,o)/\st'=st/\la<o/\hint+la<n/\Gp blt left key (el (hint+la))=true/\(o ≥ n - hint\/(hint+o<n/\Gp blt left key (el (hint+o))=false))) ?_ ?_
   ⟨0,1,rfl,rfl,by omega,by omega,by omega,hb⟩) ?_)
  ·(intro x c st' _ hx q_; obtain ⟨la,o,rfl,rfl,a1,a2,a3,b1⟩ := q_)
   dsimp only
   by_cases ho:o ≥ n - hint
   ·rw[if_pos ho]
    exact Bk ⟨la,o,rfl,rfl,a1,a3,b1,.inl ho⟩
   ·rw[if_neg ho]
    have hm:hint+o<n:=by omega
    refine Be (Tc C R ok hk hm ?_)
    dsimp only
    cases hb2:Gp blt left key (el (hint+o)) with
    | true =>
     simp only[Bool.not_true,Ca,if_false]
     exact Bk ⟨o,2 * o+1,rfl,rfl,by omega,by omega,hm,hb2⟩
    | false =>
     simp only[Bool.not_false,if_true]
     exact Bk ⟨la,o,rfl,rfl,a1,a3,b1,.inr ⟨hm,hb2⟩⟩
  ·(intro c st' q_; obtain ⟨la,o,rfl,rfl,a1,a2,a3,b1⟩ := q_)
   have : max 0 n=n:=by omega
   rw[this] at a2
   exact ⟨la,o,rfl,rfl,a1,a3,b1,.inl (by omega)⟩
  ·(intro c st' q_; obtain ⟨la,o,rfl,rfl,a1,a3,b1,b2⟩ := q_)
   dsimp only
   refine qP C R ok hk mono (by omega) (by omega) (λi hi=>mono i _ (by omega) a3 b1) (λi hi hn=>?_) h
   rcases b2 with b2 | ⟨b2,b3⟩
   ·exfalso; omega
   ·exact anti _ i (by omega) hn b3
 | false =>
  rw[if_neg Bq]
  refine Be (Gy (Ee (I:=λx c st'=>∃la o,c=(none,la,o)/\st'=st/\la<o/\x+1<=o/\la<=hint/\Gp blt left key (el (hint - la))=false)
   (Q:=λc st'=>∃la o,c=(none,la,o)/\st'=st/\la<o/\la<=hint/\Gp blt left key (el (hint - la))=false/\(o ≥ hint+1\/(o<=hint/\Gp blt left key (el (hint - o))=true))) ?_ ?_
   ⟨0,1,rfl,rfl,by omega,by omega,by omega,hb⟩) ?_)
  ·(intro x c st' _ hx q_; obtain ⟨la,o,rfl,rfl,a1,a2,a3,b1⟩ := q_)
   dsimp only
   by_cases ho:o ≥ hint+1
   ·rw[if_pos ho]
    exact Bk ⟨la,o,rfl,rfl,a1,a3,b1,.inl ho⟩
   ·rw[if_neg ho]
    have hm:hint - o<n:=by omega
    refine Be (Tc C R ok hk hm ?_)
    dsimp only
    cases hb2:Gp blt left key (el (hint - o)) with
    | true =>
     rw[if_pos rfl]
     exact Bk ⟨la,o,rfl,rfl,a1,a3,b1,.inr ⟨by omega,hb2⟩⟩
    | false =>
     rw[if_neg Bq]
     exact Bk ⟨o,2 * o+1,rfl,rfl,by omega,by omega,by omega,hb2⟩
  ·(intro c st' q_; obtain ⟨la,o,rfl,rfl,a1,a2,a3,b1⟩ := q_)
   have : max 0 n=n:=by omega
   rw[this] at a2
   exact ⟨la,o,rfl,rfl,a1,a3,b1,.inl (by omega)⟩
  ·(intro c st' q_; obtain ⟨la,o,rfl,rfl,a1,a3,b1,b2⟩ := q_)
   dsimp only
   refine qP C R ok hk mono (by omega) (by omega) (λi hi=>?_) (λi hi hn=>anti _ i hi hn b1) h
   rcases b2 with b2 | ⟨b2,b3⟩
   ·exfalso; omega
   ·exact mono i _ (by omega) (by omega) b3
end
structure MI{α:Type}(R:α->α->Prop)(xs ys out:List α)(i j:Nat):Prop where
 perm:out.Perm (xs.take i++ys.take j)
 srt:out.Pairwise R
 lx:∀o∈out,∀z∈xs.drop i,R o z
 ly:∀o∈out,∀z∈ys.drop j,R o z
section
variable{α:Type}{R:α->α->Prop}{xs ys out:List α}{i j:Nat}
theorem dH{l:List α}(h:l[n]? = some a):l.drop n=a::l.drop (n+1):=by
 obtain ⟨hn,e⟩:=Ah.mp h
 rw[Hs hn,e]
theorem take_snoc{l:List α}(h:l[n]? = some a):l.take (n+1)=l.take n++[a]:=by
 rw[List.take_succ,h]; rfl
theorem MI.pushY(M:MI R xs ys out i j)(sy:ys.Pairwise R)(hy:ys[j]? = some y)(hx:∀z∈xs.drop i,R y z):MI R xs ys (out++[y]) i (j+1):=by
 have dy:=dH hy
 have sd:(y::ys.drop (j+1)).Pairwise R:=by rw[<- dy]; exact Ii (Jm _ _) sy
 obtain ⟨s1,s2⟩:=Bf.mp sd
 refine ⟨?_,?_,λo ho z hz=>?_,λo ho z hz=>?_⟩
 ·rw[take_snoc hy,<- Ce]
  exact M.perm.append_right _
 ·refine Dm.mpr ⟨M.srt,Le _ _,λo ho z hz=>?_⟩
  have e:z=y:=by simpa using hz
  rw[e]
  exact M.ly o ho y (by rw[dy]; exact Aa)
 ·rcases Bg.mp ho with ho | ho
  ·exact M.lx o ho z hz
  ·have e:o=y:=by simpa using ho
   rw[e]; exact hx z hz
 ·rcases Bg.mp ho with ho | ho
  ·exact M.ly o ho z (by rw[dy]; exact Ae _ hz)
  ·have e:o=y:=by simpa using ho
   rw[e]; exact s1 z hz
theorem MI.pushX(M:MI R xs ys out i j)(sx:xs.Pairwise R)(hx:xs[i]? = some x)(hy:∀z∈ys.drop j,R x z):MI R xs ys (out++[x]) (i+1) j:=by
 have dx:=dH hx
 have sd:(x::xs.drop (i+1)).Pairwise R:=by rw[<- dx]; exact Ii (Jm _ _) sx
 obtain ⟨s1,s2⟩:=Bf.mp sd
 refine ⟨?_,?_,λo ho z hz=>?_,λo ho z hz=>?_⟩
 ·rw[take_snoc hx]
  have p1:(out++[x]).Perm ((xs.take i++ys.take j)++[x]):=M.perm.append_right _
  refine p1.trans ?_
  rw[Ce,Ce]
  exact Lj _ Fv
 ·refine Dm.mpr ⟨M.srt,Le _ _,λo ho z hz=>?_⟩
  have e:z=x:=by simpa using hz
  rw[e]
  exact M.lx o ho x (by rw[dx]; exact Aa)
 ·rcases Bg.mp ho with ho | ho
  ·exact M.lx o ho z (by rw[dx]; exact Ae _ hz)
  ·have e:o=x:=by simpa using ho
   rw[e]; exact s1 z hz
 ·rcases Bg.mp ho with ho | ho
  ·exact M.ly o ho z hz
  ·have e:o=x:=by simpa using ho
   rw[e]; exact hy z hz
theorem Ri{l:List α}(h:l[n+k]? = some a):(l.drop n).take (k+1)=(l.drop n).take k++[a]:=take_snoc (by rw[Pm]; exact h)
theorem MI.blockX(M:MI R xs ys out i j)(sx:xs.Pairwise R):∀k,i+k<=xs.length->(∀m,m<k->∀x,xs[i+m]? = some x->∀z∈ys.drop j,R x z)->MI R xs ys (out++(xs.drop i).take k) (i+k) j
 | 0,_,_=>by simpa using M
 | k+1,hk,h=>by
  have ih:=MI.blockX M sx k (by omega) λm hm=>h m (by omega)
  obtain ⟨x,hx⟩ : ∃x,xs[i+k]? = some x:=⟨xs[i+k],by simp⟩
  rw[Ri hx,<- Ce]
  exact ih.pushX sx hx (h k (by omega) x hx)
theorem MI.blockY(M:MI R xs ys out i j)(sy:ys.Pairwise R):∀k,j+k<=ys.length->(∀m,m<k->∀y,ys[j+m]? = some y->∀z∈xs.drop i,R y z)->MI R xs ys (out++(ys.drop j).take k) i (j+k)
 | 0,_,_=>by simpa using M
 | k+1,hk,h=>by
  have ih:=MI.blockY M sy k (by omega) λm hm=>h m (by omega)
  obtain ⟨y,hy⟩ : ∃y,ys[j+k]? = some y:=⟨ys[j+k],by simp⟩
  rw[Ri hy,<- Ce]
  exact ih.pushY sy hy (h k (by omega) y hy)
theorem MI.endX(M:MI R xs ys out i j)(sx:xs.Pairwise R)(hj:ys.length<=j):(out++xs.drop i++ys.drop j).Perm (xs++ys)/\(out++xs.drop i++ys.drop j).Pairwise R:=by
 rw[List.drop_eq_nil_of_le hj,Dj]
 constructor
 ·have p1:(out++xs.drop i).Perm ((xs.take i++ys.take j)++xs.drop i):=M.perm.append_right _
  refine p1.trans ?_
  rw[Em hj]
  have p2:(xs.take i++ys++xs.drop i).Perm (xs.take i++(xs.drop i++ys)):=by
   rw[Ce]
   exact Lj _ Fv
  refine p2.trans ?_
  rw[<- Ce,Hf]
 ·exact Dm.mpr ⟨M.srt,Ii (Jm _ _) sx,M.lx⟩
theorem MI.endYX(M:MI R xs ys out i j)(sx:xs.Pairwise R)(sy:ys.Pairwise R)(h:∀y∈ys.drop j,∀x∈xs.drop i,R y x):(out++ys.drop j++xs.drop i).Perm (xs++ys)/\(out++ys.drop j++xs.drop i).Pairwise R:=by
 constructor
 ·have p1:(out++(ys.drop j++xs.drop i)).Perm ((xs.take i++ys.take j)++(ys.drop j++xs.drop i)):=M.perm.append_right _
  rw[Ce]
  refine p1.trans ?_
  rw[Ce,<- Ce (ys.take j),Hf]
  have p2:(xs.take i++(ys++xs.drop i)).Perm (xs.take i++(xs.drop i++ys)):=Lj _ Fv
  refine p2.trans ?_
  rw[<- Ce,Hf]
 ·refine Dm.mpr ⟨Dm.mpr ⟨M.srt,Ii (Jm _ _) sy,M.ly⟩,Ii (Jm _ _) sx,λa ha b hb=>?_⟩
  rcases Bg.mp ha with ha | ha
  ·exact M.lx a ha b hb
  ·exact h a ha b hb
end
def kJ:Array Keyed->Array Keyed->StateT Bt Sem (Array Keyed):=sortPriv% PySem.Builtin.mergeLo
def Zg:Nat->StateT Bt Sem Unit:=sortPriv% PySem.Builtin.setMinGallop
abbrev Y2(st:Bt)(g:Nat):Bt:=Wt (kindOf st) (arrOf st) (Bj st) g (Ko st)
theorem mU(g:Nat):Zg g=modify λst=>Y2 st g:=rfl
theorem Yy(p:Array Keyed)(i:Nat):(p.extract i p.size).toList=p.toList.drop i:=by
 rw[My,Kj,Em]
 rw[List.length_drop,Bd]
 exact Ak _
theorem Vq(p:Array Keyed)(i k:Nat):(p.extract i (i+k)).toList=(p.toList.drop i).take k:=by
 rw[My,Kj,Nat.add_sub_cancel_left]
abbrev dn(p q out:Array Keyed)(i j:Nat):Array Keyed:=out++p.extract i p.size++q.extract j q.size
abbrev lst(p q out:Array Keyed)(i j:Nat):Array Keyed:=out++q.extract j q.size++p.extract i p.size
theorem J6(p q out:Array Keyed)(i j:Nat):(dn p q out i j).toList=out.toList++p.toList.drop i++q.toList.drop j:=by
 rw[Cy,Cy,Yy,Yy]
theorem vX(p q out:Array Keyed)(i j:Nat):(lst p q out i j).toList=out.toList++q.toList.drop j++p.toList.drop i:=by
 rw[Cy,Cy,Yy,Yy]
abbrev E3:=Option (Array Keyed)×Array Keyed×Nat×Nat×Nat×Nat×Nat
def A5(p q out:Array Keyed)(i j g ac k:Nat):StateT Bt Sem (ForInStep E3):=do
 let x <- elem' p i
 if (i+1+1 == p.size)=true then pure (Cp (some (lst p q (out.push x) (i+1) j),out.push x,i+1,j,g,ac,k))
 else if (decide (ac<7) && decide (k<7))=true then pure (Cp (none,out.push x,i+1,j,g,ac,k))
 else pure (Ff (none,out.push x,i+1,j,g,ac,k))
def o8(p q out:Array Keyed)(i j g ac bc:Nat):StateT Bt Sem (ForInStep E3):=do
 let y <- elem' q j
 if (j+1 == q.size)=true then pure (Cp (some (dn p q (out.push y) i (j+1)),out.push y,i,j+1,g,ac,bc))
 else do
  let x <- elem' p i
  let some k <- Ss true x q (j+1) (q.size - (j+1)) 0 | pure (Cp (some (dn p q (out.push y) i (j+1)),out.push y,i,j+1,g,ac,bc))
  if k > 0 then
   if (j+1+k == q.size)=true then pure (Cp (some (dn p q (out.push y++q.extract (j+1) (j+1+k)) i (j+1+k)),out.push y++q.extract (j+1) (j+1+k),i,j+1+k,g,ac,k))
   else A5 p q (out.push y++q.extract (j+1) (j+1+k)) i (j+1+k) g ac k
  else A5 p q (out.push y) i (j+1) g ac k
def X8(p q out:Array Keyed)(i j g ac bc:Nat):StateT Bt Sem (ForInStep E3):=do
 Zg g
 let y <- elem' q j
 let some k <- Ss false y p i (p.size - i) 0 | pure (Cp (some (dn p q out i j),out,i,j,g,ac,bc))
 if k > 0 then
  if (i+k+1 == p.size)=true then pure (Cp (some (lst p q (out++p.extract i (i+k)) (i+k) j),out++p.extract i (i+k),i+k,j,g,k,bc))
  else if (i+k == p.size)=true then pure (Cp (some (dn p q (out++p.extract i (i+k)) (i+k) j),out++p.extract i (i+k),i+k,j,g,k,bc))
  else o8 p q (out++p.extract i (i+k)) (i+k) j g k bc
 else o8 p q out i j g k bc
section
variable{prog:Bo}{w:World}{A:Cn}{s:Ai}{kd:Lq}{Ok:Keyed->Prop}{blt:Keyed->Keyed->Bool}{E:Value->Ai->Prop}
theorem Ti{st:Bt}(h:Q () st):wpS (model prog w) A E s (liftM (rule x):StateT Bt Sem Unit) Q st:=wpS_lift (Oc ⟨rfl,h⟩)
theorem Tb{st:Bt}(h:∀st',Kept st st'->Q () st'):wpS (model prog w) A E s (Zg g) Q st:=by
 rw[mU]
 exact Jj (h _ ⟨rfl,rfl,rfl,rfl⟩)
structure Two(Ok:Keyed->Prop)(blt:Keyed->Keyed->Bool)(p q:Array Keyed)(x0 y0 xl:Keyed):Prop where
 op:∀x∈p.toList,Ok x
 oq:∀x∈q.toList,Ok x
 sp:p.toList.Pairwise (le blt)
 sq:q.toList.Pairwise (le blt)
 hx0:p[0]? = some x0
 hy0:q[0]? = some y0
 hxl:p[p.size - 1]? = some xl
 first:blt y0 x0=true
 last:∀y∈q.toList,blt y xl=true
abbrev oT(blt:Keyed->Keyed->Bool)(p q r:Array Keyed):Prop:=r.toList.Perm (p.toList++q.toList)/\r.toList.Pairwise (le blt)
theorem Ea{p:Array Keyed}{i:Nat}(h:p[i]? = some x):p.toList[i]? = some x:=by simpa using h
theorem Fi{p:Array Keyed}(h:i<p.size):∃x,p[i]? = some x:=⟨p[i],by simp [h]⟩
theorem Jc{p:Array Keyed}{i:Nat}(h:p[i]? = some x):x∈p.toList:=Au (Ea h)
theorem jP{α:Type}{l:List α}{z:α}(h:z∈l.drop i):∃k,l[i+k]? = some z:=by
 obtain ⟨k,hk,e⟩:=Hx.mp h
 exact ⟨k,by rw[<- Pm,Ap hk,e]⟩
theorem Km(C:Cmp prog w A s kd Ok blt){l:List Keyed}(sl:l.Pairwise (le blt)){i j:Nat}(hij:i<=j)(hx:l[i]? = some x)(hy:l[j]? = some y):le blt x y:=by
 by_cases e:i=j
 ·subst e
  rw[hx] at hy
  cases hy
  exact C.refl x
 ·obtain ⟨hi,ex⟩:=Ah.mp hx
  obtain ⟨hj,ey⟩:=Ah.mp hy
  have:=Dx.mp sl i j hi hj (by omega)
  rw[ex,ey] at this
  exact this
theorem Ou(C:Cmp prog w A s kd Ok blt){l:List Keyed}(sl:l.Pairwise (le blt))(hx:l[i]? = some x)(h:le blt y x):∀z∈l.drop i,le blt y z:=λz hz=>by
 obtain ⟨k,hk⟩:=jP hz
 exact C.trans h (Km C sl (Gz i k) hx hk)
abbrev LI(blt:Keyed->Keyed->Bool)(p q out:Array Keyed)(i j:Nat):Prop:=MI (le blt) p.toList q.toList out.toList i j
theorem Nh(out:Array Keyed)(x:Keyed):(out.push x).toList=out.toList++[x]:=by simp
theorem Two.last_end(C:Cmp prog w A s kd Ok blt)(T:Two Ok blt p q x0 y0 xl)(M:LI blt p q out i j)(hi:i+1=p.size):oT blt p q (lst p q out i j):=by
 have h:=M.endYX T.sp T.sq (λy hy x hx=>?_)
 ·rw[<- vX] at h
  exact h
 ·obtain ⟨k,hk⟩:=jP hx
  have : k=0:=by
   have:=(Ah.mp hk).1
   rw[Bd] at this
   omega
  subst this
  have e:x=xl:=by
   have:=Ea T.hxl
   rw[show p.size - 1=i+0 by omega,hk] at this
   exact Bl this
  rw[e]
  exact C.ofLt (T.last y (List.mem_of_mem_drop hy))
theorem Two.done_end(T:Two Ok blt p q x0 y0 xl)(M:LI blt p q out i j)(hj:q.size<=j):oT blt p q (dn p q out i j):=by
 have h:=M.endX T.sp (by rw[Bd]; exact hj)
 rw[<- J6] at h
 exact h
def AD(blt:Keyed->Keyed->Bool)(p q:Array Keyed)(st:Bt)(n:Nat)(r:ForInStep E3)(st':Bt):Prop:=Kept st st'/\match r with
 | .done (some r,_)=>oT blt p q r
 | .done (none,out,i,j,_)=>LI blt p q out i j/\i+1<p.size/\j<q.size/\n<i+j
 | .yield (none,out,i,j,_)=>LI blt p q out i j/\i+1<p.size/\j<q.size/\n<i+j
 | .yield (some _,_)=>False
theorem qR(C:Cmp prog w A s kd Ok blt)(T:Two Ok blt p q x0 y0 xl){st0 st:Bt}(kp:Kept st0 st)(M:LI blt p q out i j)(hi:i+1<p.size)(hj:j<q.size)(hn:n<=i+j)(hx:p[i]? = some x)(hq:∀z∈q.toList.drop j,le blt x z):wpS (model prog w) A E s (A5 p q out i j g ac k) (AD blt p q st0 n) st:=by
 unfold A5
 refine Be (Fb hx ?_)
 have M1:LI blt p q (out.push x) (i+1) j:=by
  have:=M.pushX T.sp (Ea hx) hq
  rw[<- Nh] at this
  exact this
 by_cases h1:i+1+1=p.size
 ·rw[if_pos (by rw[h1]; exact beq_self_eq_true _)]
  exact Bk ⟨kp,T.last_end C M1 h1⟩
 ·rw[if_neg (λz=>h1 (Dw z))]
  by_cases h2:(decide (ac<7) && decide (k<7))=true
  ·rw[if_pos h2]
   exact Bk ⟨kp,M1,by omega,hj,by omega⟩
  ·rw[if_neg h2]
   exact Bk ⟨kp,M1,by omega,hj,by omega⟩
theorem pL(C:Cmp prog w A s kd Ok blt)(T:Two Ok blt p q x0 y0 xl){st0 st:Bt}(kp:Kept st0 st)(hk:kindOf st=kd)(M:LI blt p q out i j)(hi:i+1<p.size)(hj:j<q.size)(hn:n<=i+j)(hx:p[i]? = some x)(hy:q[j]? = some y)(hyx:blt y x=true):wpS (model prog w) A E s (o8 p q out i j g ac bc) (AD blt p q st0 n) st:=by
 unfold o8
 refine Be (Fb hy ?_)
 have M1:LI blt p q (out.push y) i (j+1):=by
  have:=M.pushY T.sq (Ea hy) (Ou C T.sp (Ea hx) (C.ofLt hyx))
  rw[<- Nh] at this
  exact this
 by_cases h1:j+1=q.size
 ·rw[if_pos (by rw[h1]; exact beq_self_eq_true _)]
  exact Bk ⟨kp,T.done_end M1 (by omega)⟩
 ·rw[if_neg (λz=>h1 (Dw z))]
  refine Be (Fb hx ?_)
  have R:Row Ok q (j+1) (q.size - (j+1)) (λm=>q.getD (j+1+m) y):=⟨λm hm=>?_,λm hm=>?_⟩
  ·refine Be (Ni C R (T.op x (Jc hx)) hk (by omega) (λa b hab hb q1=>?_) λk hk1 t1 t2=>?_)
   ·obtain ⟨ya,ea⟩:=Fi (p:=q) (i:=j+1+a) (by omega)
    obtain ⟨yb,eb⟩:=Fi (p:=q) (i:=j+1+b) (by omega)
    have ga:q.getD (j+1+a) y=ya:=by simp [Dq,ea]
    have gb:q.getD (j+1+b) y=yb:=by simp [Dq,eb]
    simp only[ga,gb,Gp,if_true] at q1 ⊢
    exact C.leLt (Km C T.sq (by omega) (Ea ea) (Ea eb)) q1
   ·dsimp only
    have val:∀m yy,q[j+1+m]? = some yy->q.getD (j+1+m) y=yy:=λm yy e=>by simp [Dq,e]
    have M2:LI blt p q (out.push y++q.extract (j+1) (j+1+k)) i (j+1+k):=by
     have:=M1.blockY T.sq k (by rw[Bd]; omega) (λm hm yy ey=>by
      have ey':q[j+1+m]? = some yy:=by simpa using ey
      have:=t1 m hm
      rw[val m yy ey'] at this
      simp only[Gp,if_true] at this
      exact Ou C T.sp (Ea hx) (C.ofLt this))
     rw[<- Vq,<- Cy] at this
     exact this
    by_cases h2:k > 0
    ·rw[if_pos h2]
     by_cases h3:j+1+k=q.size
     ·rw[if_pos (by rw[h3]; exact beq_self_eq_true _)]
      exact Bk ⟨kp,T.done_end M2 (by omega)⟩
     ·rw[if_neg (λz=>h3 (Dw z))]
      obtain ⟨yk,ek⟩:=Fi (p:=q) (i:=j+1+k) (by omega)
      refine qR C T kp M2 hi (by omega) (by omega) hx (Ou C T.sq (Ea ek) ?_)
      have:=t2 k (Ak _) (by omega)
      rw[val k yk ek] at this
      have z:blt yk x=false:=by simpa only [Gp,if_true] using this
      exact z
    ·rw[if_neg h2]
     have hk0:k=0:=by omega
     subst hk0
     obtain ⟨yk,ek⟩:=Fi (p:=q) (i:=j+1) (by omega)
     refine qR C T kp M1 hi (by omega) (by omega) hx (Ou C T.sq (Ea ek) ?_)
     have:=t2 0 (Ak _) (by omega)
     rw[val 0 yk ek] at this
     have z:blt yk x=false:=by simpa only [Gp,if_true] using this
     exact z
  ·obtain ⟨ya,ea⟩:=Fi (p:=q) (i:=j+1+m) (by omega)
   rw[ea]
   simp [Dq,ea]
  ·obtain ⟨ya,ea⟩:=Fi (p:=q) (i:=j+1+m) (by omega)
   have : q.getD (j+1+m) y=ya:=by simp [Dq,ea]
   rw[this]
   exact T.oq ya (Jc ea)
theorem l0(C:Cmp prog w A s kd Ok blt)(T:Two Ok blt p q x0 y0 xl){st0 st:Bt}(kp:Kept st0 st)(hk:kindOf st=kd)(M:LI blt p q out i j)(hi:i+1<p.size)(hj:j<q.size)(hn:n<=i+j):wpS (model prog w) A E s (X8 p q out i j g ac bc) (AD blt p q st0 n) st:=by
 unfold X8
 refine Be (Tb λst1 kp1=>?_)
 have kp':=kp.trans kp1
 have hk':kindOf st1=kd:=kp1.kind.trans hk
 obtain ⟨y,hy⟩:=Fi (p:=q) hj
 refine Be (Fb hy ?_)
 have val:∀m xx,p[i+m]? = some xx->p.getD (i+m) y=xx:=λm xx e=>by simp [Dq,e]
 have R:Row Ok p i (p.size - i) (λm=>p.getD (i+m) y):=⟨λm hm=>by
  obtain ⟨xa,ea⟩:=Fi (p:=p) (i:=i+m) (by omega)
  rw[val m xa ea,ea],λm hm=>by
  obtain ⟨xa,ea⟩:=Fi (p:=p) (i:=i+m) (by omega)
  show Ok (p.getD (i+m) y)
  rw[val m xa ea]
  exact T.op xa (Jc ea)⟩
 refine Be (Ni C R (T.oq y (Jc hy)) hk' (by omega) (λa b hab hb q1=>?_) λk hk1 t1 t2=>?_)
 ·obtain ⟨xa,ea⟩:=Fi (p:=p) (i:=i+a) (by omega)
  obtain ⟨xb,eb⟩:=Fi (p:=p) (i:=i+b) (by omega)
  simp only[val a xa ea,val b xb eb,Gp,Ca,if_false,Jn] at q1 ⊢
  exact C.trans (Km C T.sp (by omega) (Ea ea) (Ea eb)) q1
 ·dsimp only
  -- the last one is beyond y: so k does not reach it
  have hkl:i+k+1<=p.size:=by
   rcases Nat.lt_or_ge (i+k) p.size with z | z
   ·omega
   ·exfalso
    have:=t1 (p.size - 1 - i) (by omega)
    have e:p[i+(p.size - 1 - i)]? = some xl:=by
     rw[show i+(p.size - 1 - i)=p.size - 1 by omega]
     exact T.hxl
    rw[val _ xl e] at this
    simp only[Gp,Ca,if_false,T.last y (Jc hy),Bool.not_true] at this
  have M1:LI blt p q (out++p.extract i (i+k)) (i+k) j:=by
   have:=M.blockX T.sp k (by rw[Bd]; omega) (λm hm xx ex=>by
    have ex':p[i+m]? = some xx:=by simpa using ex
    have:=t1 m hm
    rw[val m xx ex'] at this
    simp only[Gp,Ca,if_false,Jn] at this
    exact Ou C T.sq (Ea hy) this)
   rw[<- Vq,<- Cy] at this
   exact this
  obtain ⟨xk,ek⟩:=Fi (p:=p) (i:=i+k) (by omega)
  have hyx:blt y xk=true:=by
   have:=t2 k (Ak _) (by omega)
   rw[val k xk ek] at this
   simpa only [Gp,Ca,if_false,Xq] using this
  by_cases h2:k > 0
  ·rw[if_pos h2]
   by_cases h3:i+k+1=p.size
   ·rw[if_pos (by rw[h3]; exact beq_self_eq_true _)]
    exact Bk ⟨kp',T.last_end C M1 h3⟩
   ·rw[if_neg (λz=>h3 (Dw z)),if_neg (λz=>by have:=Dw z; omega)]
    exact pL C T kp' hk' M1 (by omega) hj (by omega) ek hy hyx
  ·rw[if_neg h2]
   have hk0:k=0:=by omega
   subst hk0
   exact pL C T kp' hk' M hi hj hn ek hy hyx
theorem oA(C:Cmp prog w A s kd Ok blt)(T:Two Ok blt p q x0 y0 xl){st:Bt}(hk:kindOf st=kd)(h:∀r st',Kept st st'->oT blt p q r->Q r st'):wpS (model prog w) A E s (kJ p q) Q st:=by
 have p0:0<p.size:=by
  have:=(Hb.mp T.hx0).1
  exact this
 have q0:0<q.size:=by
  have:=(Hb.mp T.hy0).1
  exact this
 have M0:LI blt p q #[y0] 0 1:=by
  have m:LI blt p q #[] 0 0:=⟨by simp,by simp,λo ho=>by simp at ho,λo ho=>by simp at ho⟩
  have:=m.pushY T.sq (Ea T.hy0) (Ou C T.sp (Ea T.hx0) (C.ofLt T.first))
  simpa using this
 unfold kJ
 refine Be (Ti ?_)
 refine Be (Fb T.hy0 ?_)
 dsimp only
 by_cases h1:1=q.size
 ·rw[if_pos (by rw[<- h1]; rfl)]
  exact Bk (h _ _ (Kept.refl _) (T.done_end M0 (by omega)))
 rw[if_neg (λz=>h1 (Dw z))]
 by_cases h2:0+1=p.size
 ·rw[if_pos (by rw[<- h2]; rfl)]
  exact Bk (h _ _ (Kept.refl _) (T.last_end C M0 (by omega)))
 rw[if_neg (λz=>h2 (Dw z))]
 refine Be (Mu ?_)
 refine Be (Gy (Ee
  (I:=λx c st'=>Kept st st'/\∃out i j g,c=(none,out,i,j,g)/\LI blt p q out i j/\i+1<p.size/\j<q.size/\x+1<=i+j)
  (Q:=λc st'=>Kept st st'/\∃r Fz,c=(some r,Fz)/\oT blt p q r) ?_ ?_ ⟨Kept.refl _,_,0,1,_,rfl,M0,by omega,by omega,by omega⟩) ?_)
 ·(intro x c st1 _ hx q_; obtain ⟨kp1,out,i,j,g,rfl,M,hi,hj,hn⟩ := q_)
  dsimp only
  -- one by one
  refine Be (Gy (Ee
   (I:=λ_ c st'=>st'=st1/\∃out i j ac bc,c=(none,out,i,j,ac,bc)/\LI blt p q out i j/\i+1<p.size/\j<q.size/\x+1<=i+j)
   (Q:=λc st'=>st'=st1/\((∃r Fz,c=(some r,Fz)/\oT blt p q r)\/∃out i j ac bc,c=(none,out,i,j,ac,bc)/\LI blt p q out i j/\i+1<p.size/\j<q.size/\x+1<=i+j)) ?_ ?_ ⟨rfl,out,i,j,0,0,rfl,M,hi,hj,hn⟩) ?_)
  ·(intro z c st2 _ hz q_; obtain ⟨rfl,out,i,j,ac,bc,rfl,M,hi,hj,hn⟩ := q_)
   dsimp only
   obtain ⟨yy,hy⟩:=Fi (p:=q) hj
   obtain ⟨xx,hx⟩:=Fi (p:=p) (i:=i) (by omega)
   refine Be (Fb hy ?_)
   refine Be (Fb hx ?_)
   refine Be (jS C (kp1.kind.trans hk) (T.oq yy (Jc hy)) (T.op xx (Jc hx)) ?_)
   dsimp only
   cases hb:blt yy xx with
   | true =>
    rw[if_pos rfl]
    refine Be (Fb hy ?_)
    have M1:LI blt p q (out.push yy) i (j+1):=by
     have:=M.pushY T.sq (Ea hy) (Ou C T.sp (Ea hx) (C.ofLt hb))
     rw[<- Nh] at this
     exact this
    by_cases e1:j+1=q.size
    ·rw[if_pos (by rw[e1]; exact beq_self_eq_true _)]
     exact Bk ⟨rfl,.inl ⟨_,_,rfl,T.done_end M1 (by omega)⟩⟩
    ·rw[if_neg (λz=>e1 (Dw z))]
     split
     ·exact Bk ⟨rfl,.inr ⟨_,_,_,_,_,rfl,M1,hi,by omega,by omega⟩⟩
     ·exact Bk ⟨rfl,_,_,_,_,_,rfl,M1,hi,by omega,by omega⟩
   | false =>
    rw[if_neg Bq]
    refine Be (Fb hx ?_)
    have M1:LI blt p q (out.push xx) (i+1) j:=by
     have:=M.pushX T.sp (Ea hx) (Ou C T.sq (Ea hy) hb)
     rw[<- Nh] at this
     exact this
    by_cases e1:i+1+1=p.size
    ·rw[if_pos (by rw[e1]; exact beq_self_eq_true _)]
     exact Bk ⟨rfl,.inl ⟨_,_,rfl,T.last_end C M1 (by omega)⟩⟩
    ·rw[if_neg (λz=>e1 (Dw z))]
     split
     ·exact Bk ⟨rfl,.inr ⟨_,_,_,_,_,rfl,M1,by omega,hj,by omega⟩⟩
     ·exact Bk ⟨rfl,_,_,_,_,_,rfl,M1,by omega,hj,by omega⟩
  ·(intro c st2 q_; obtain ⟨rfl,out,i,j,ac,bc,rfl,M⟩ := q_)
   exact ⟨rfl,.inr ⟨out,i,j,ac,bc,rfl,M⟩⟩
  ·rintro c st2 ⟨rfl,hc⟩
   rcases hc with hc | hc
   ·obtain ⟨r,Fz,rfl,hr⟩:=hc
    exact Bk ⟨kp1,r,_,rfl,hr⟩
   ·obtain ⟨out,i,j,ac,bc,rfl,M,hi,hj,hn⟩:=hc
    dsimp only
    refine Be (Ti ?_)
    -- the gallop
    refine Be (Gy (Ee
     (I:=λy c st'=>Kept st st'/\∃out i j g ac bc,c=(none,out,i,j,g,ac,bc)/\LI blt p q out i j/\i+1<p.size/\j<q.size/\(if y=0 then x+1<=i+j else x+2<=i+j))
     (Q:=λc st'=>Kept st st'/\((∃r Fz,c=(some r,Fz)/\oT blt p q r)\/∃out i j g ac bc,c=(none,out,i,j,g,ac,bc)/\LI blt p q out i j/\i+1<p.size/\j<q.size/\x+2<=i+j)) ?_ ?_
     ⟨kp1,out,i,j,_,ac,bc,rfl,M,hi,hj,by rw[if_pos rfl]; exact hn⟩) ?_)
    ·(intro y c st3 _ hy q_; obtain ⟨kp3,out,i,j,g,ac,bc,rfl,M,hi,hj,hn⟩ := q_)
     have hn':x+1<=i+j:=by split at hn <;> omega
     have key:∀g',wpS (model prog w) A E s (X8 p q out i j g' ac bc) (AD blt p q st (x+1)) st3:=λg'=>l0 C T kp3 (kp3.kind.trans hk) M hi hj hn'
     dsimp only
     refine Gy (?_:wpS (model prog w) A E s _ (AD blt p q st (x+1)) st3) λr st4 hr=>?_
     ·by_cases hg:g > 1
      ·rw[if_pos hg]
       exact key _
      ·rw[if_neg hg]
       exact key _
     ·obtain ⟨kp4,hr⟩:=hr
      match r,hr with
      | .done (some r,Fz),hr=>exact ⟨kp4,.inl ⟨r,Fz,rfl,hr⟩⟩
      | .done (none,out,i,j,g,ac,bc),hr=>exact ⟨kp4,.inr ⟨out,i,j,g,ac,bc,rfl,hr.1,hr.2.1,hr.2.2.1,by have:=hr.2.2.2; omega⟩⟩
      | .yield (none,out,i,j,g,ac,bc),hr=>exact ⟨kp4,out,i,j,g,ac,bc,rfl,hr.1,hr.2.1,hr.2.2.1,by rw[if_neg (by omega)]; have:=hr.2.2.2; omega⟩
    ·(intro c st3 q_; obtain ⟨kp3,out,i,j,g,ac,bc,rfl,M,hi,hj,hn⟩ := q_)
     rw[if_neg (by omega)] at hn
     exact ⟨kp3,.inr ⟨out,i,j,g,ac,bc,rfl,M,hi,hj,hn⟩⟩
    ·rintro c st3 ⟨kp3,hc⟩
     rcases hc with hc | hc
     ·obtain ⟨r,Fz,rfl,hr⟩:=hc
      exact Bk ⟨kp3,r,_,rfl,hr⟩
     ·obtain ⟨out,i,j,g,ac,bc,rfl,M,hi,hj,hn⟩:=hc
      dsimp only
      refine Be (Tb λst4 kp4=>?_)
      exact Bk ⟨kp3.trans kp4,out,i,j,_,rfl,M,hi,hj,by omega⟩
 ·(intro c st1 q_; obtain ⟨kp1,out,i,j,g,rfl,M,hi,hj,hn⟩ := q_)
  exfalso
  have : max 0 (p.size+q.size)=p.size+q.size:=by omega
  rw[this] at hn
  omega
 ·(intro c st1 q_; obtain ⟨kp1,r,Fz,rfl,hr⟩ := q_)
  exact Bk (h r st1 kp1 hr)
end
def iS:Array Keyed->Array Keyed->StateT Bt Sem (Array Keyed):=sortPriv% PySem.Builtin.mergeHi
abbrev V0(p q out:Array Keyed)(m n:Nat):Array Keyed:=p.extract 0 m++q.extract 0 n++out.reverse
abbrev DX(p q out:Array Keyed)(m n:Nat):Array Keyed:=q.extract 0 n++p.extract 0 m++out.reverse
abbrev G8:=Option (Array Keyed)×Nat×Nat×Array Keyed×Nat×Nat×Nat
def n6(p q out:Array Keyed)(m n g ac k:Nat):StateT Bt Sem (ForInStep G8):=do
 let x <- elem' p (m - 1)
 if (m - 1 == 0)=true then pure (Cp (some (V0 p q (out.push x) (m - 1) n),m - 1,n,out.push x,g,ac,k))
 else if (decide (ac<7) && decide (k<7))=true then pure (Cp (none,m - 1,n,out.push x,g,ac,k))
 else pure (Ff (none,m - 1,n,out.push x,g,ac,k))
def A4(p q out:Array Keyed)(m n g ac bc:Nat):StateT Bt Sem (ForInStep G8):=do
 let y <- elem' q (n - 1)
 if (n - 1 == 1)=true then pure (Cp (some (DX p q (out.push y) m (n - 1)),m,n - 1,out.push y,g,ac,bc))
 else do
  let x <- elem' p (m - 1)
  let some t <- Ss true x q 0 (n - 1) (n - 1 - 1) | pure (Cp (some (V0 p q (out.push y) m (n - 1)),m,n - 1,out.push y,g,ac,bc))
  if n - 1 - t > 0 then
   if (t == 1)=true then pure (Cp (some (DX p q (out.push y++(q.extract t (n - 1)).reverse) m t),m,t,out.push y++(q.extract t (n - 1)).reverse,g,ac,n - 1 - t))
   else if (t == 0)=true then pure (Cp (some (V0 p q (out.push y++(q.extract t (n - 1)).reverse) m t),m,t,out.push y++(q.extract t (n - 1)).reverse,g,ac,n - 1 - t))
   else n6 p q (out.push y++(q.extract t (n - 1)).reverse) m t g ac (n - 1 - t)
  else n6 p q (out.push y) m (n - 1) g ac (n - 1 - t)
def S9(p q out:Array Keyed)(m n g ac bc:Nat):StateT Bt Sem (ForInStep G8):=do
 Zg g
 let y <- elem' q (n - 1)
 let some t <- Ss false y p 0 m (m - 1) | pure (Cp (some (V0 p q out m n),m,n,out,g,ac,bc))
 if m - t > 0 then
  if (t == 0)=true then pure (Cp (some (V0 p q (out++(p.extract t m).reverse) t n),t,n,out++(p.extract t m).reverse,g,m - t,bc))
  else A4 p q (out++(p.extract t m).reverse) t n g (m - t) bc
 else A4 p q out m n g (m - t) bc
section
variable{α:Type}{R:α->α->Prop}{xs ys out:List α}{i j:Nat}
theorem MI.swap(M:MI R xs ys out i j):MI R ys xs out j i:=⟨M.perm.trans Fv,M.srt,M.ly,M.lx⟩
theorem MI.endXY(M:MI R xs ys out i j)(sx:xs.Pairwise R)(sy:ys.Pairwise R)(h:∀x∈xs.drop i,∀y∈ys.drop j,R x y):(out++xs.drop i++ys.drop j).Perm (xs++ys)/\(out++xs.drop i++ys.drop j).Pairwise R:=by
 have:=M.swap.endYX sy sx h
 exact ⟨this.1.trans Fv,this.2⟩
end
abbrev ge(blt:Keyed->Keyed->Bool)(x y:Keyed):Prop:=le blt y x
abbrev HI(blt:Keyed->Keyed->Bool)(p q out:Array Keyed)(m n:Nat):Prop:=MI (ge blt) p.toList.reverse q.toList.reverse out.toList (p.size - m) (q.size - n)
theorem Jd(p:Array Keyed)(h:m<=p.size):p.toList.reverse.drop (p.size - m)=(p.toList.take m).reverse:=by
 rw[List.drop_reverse,Bd]
 congr 2
 omega
theorem i7{p:Array Keyed}(h0:0<m)(h:m<=p.size)(e:p[m - 1]? = some x):p.toList.reverse[p.size - m]? = some x:=by
 rw[Uc (by rw[Bd]; omega),Bd,show p.size - 1 - (p.size - m)=m - 1 by omega]
 exact Ea e
theorem E9(p:Array Keyed)(m:Nat):(p.extract 0 m).toList=p.toList.take m:=by
 rw[My,Kj,List.drop_zero,Nat.sub_zero]
theorem AX(p:Array Keyed)(h1:t<=m)(h2:m<=p.size):(p.extract t m).reverse.toList=(p.toList.reverse.drop (p.size - m)).take (m - t):=by
 rw[Jd p h2,List.take_reverse,Ul,My,Kj,Cv,Bd,List.drop_take]
 congr 2
 ·omega
 ·congr 1
  omega
section
variable{prog:Bo}{w:World}{A:Cn}{s:Ai}{kd:Lq}{Ok:Keyed->Prop}{blt:Keyed->Keyed->Bool}{E:Value->Ai->Prop}
theorem Ja{l:List Keyed}(h:l.Pairwise (le blt)):l.reverse.Pairwise (ge blt):=Mm.mpr h
theorem Two.dn_end(T:Two Ok blt p q x0 y0 xl)(M:HI blt p q out m n)(hm:m<=p.size)(hn:n<=q.size)(h:m=0\/n=0):oT blt p q (V0 p q out m n):=by
 have h1:=M.endYX (Ja T.sp) (Ja T.sq) (λy hy x hx=>by
  rw[Jd p hm] at hx
  rw[Jd q hn] at hy
  rcases h with h | h
  ·subst h; simp at hx
  ·subst h; simp at hy)
 rw[Jd p hm,Jd q hn] at h1
 have e:(V0 p q out m n).toList=(out.toList++(q.toList.take n).reverse++(p.toList.take m).reverse).reverse:=by
  rw[Cy,Cy,E9,E9,Ul]
  simp
 refine ⟨?_,?_⟩
 ·rw[e]
  refine (Hw _).trans (h1.1.trans ?_)
  exact List.Perm.append (Hw _) (Hw _)
 ·rw[e]
  exact Mm.mpr h1.2
theorem Two.fs_end(C:Cmp prog w A s kd Ok blt)(T:Two Ok blt p q x0 y0 xl)(M:HI blt p q out m n)(hm:m<=p.size)(hn:n=1)(hq:1<=q.size):oT blt p q (DX p q out m n):=by
 subst hn
 have h1:=M.endXY (Ja T.sp) (Ja T.sq) (λx hx y hy=>by
  rw[Jd p hm] at hx
  rw[Jd q hq] at hy
  have ey:y=y0:=by
   have : y∈q.toList.take 1:=Mr.mp hy
   obtain ⟨k,hk,e⟩:=Hx.mp this
   have hk0:k=0:=by
    rw[Cv] at hk
    omega
   subst hk0
   have e2:q.toList[0]? = some y:=by
    rw[<- e,<- Ap hk,Ef (by omega)]
   rw[Ea T.hy0] at e2
   exact (Bl e2).symm
  rw[ey]
  have hx':x∈p.toList:=List.mem_of_mem_take (Mr.mp hx)
  obtain ⟨k,hk,e⟩:=Hx.mp hx'
  have e2:p.toList[k]? = some x:=by rw[<- e,Ap hk]
  exact C.trans (C.ofLt T.first) (Km C T.sp (Cr k) (Ea T.hx0) e2))
 rw[Jd p hm,Jd q hq] at h1
 have e:(DX p q out m 1).toList=(out.toList++(p.toList.take m).reverse++(q.toList.take 1).reverse).reverse:=by
  rw[Cy,Cy,E9,E9,Ul]
  simp
 refine ⟨?_,?_⟩
 ·rw[e]
  refine (Hw _).trans (h1.1.trans ?_)
  exact List.Perm.append (Hw _) (Hw _)
 ·rw[e]
  exact Mm.mpr h1.2
theorem Sy(C:Cmp prog w A s kd Ok blt){p:Array Keyed}(sp:p.toList.Pairwise (le blt))(h0:0<m)(hm:m<=p.size)(hx:p[m - 1]? = some x)(h:le blt x y):∀z∈p.toList.reverse.drop (p.size - m),ge blt y z:=λz hz=>by
 rw[Jd p hm] at hz
 obtain ⟨k,hk,e⟩:=Hx.mp (Mr.mp hz)
 have e2:p.toList[k]? = some z:=by
  rw[Cv] at hk
  rw[<- e,<- Ap (by rw[Cv]; exact hk),Ef (by omega)]
 rw[Cv] at hk
 exact C.trans (Km C sp (by omega) e2 (Ea hx)) h
theorem HI.pushX(C:Cmp prog w A s kd Ok blt)(T:Two Ok blt p q x0 y0 xl)(M:HI blt p q out m n)(h0:0<m)(hm:m<=p.size)(hx:p[m - 1]? = some x)(h:∀z∈q.toList.reverse.drop (q.size - n),ge blt x z):HI blt p q (out.push x) (m - 1) n:=by
 have:=MI.pushX M (Ja T.sp) (i7 h0 hm hx) h
 rw[<- Nh,show p.size - m+1=p.size - (m - 1) by omega] at this
 exact this
theorem HI.pushY(C:Cmp prog w A s kd Ok blt)(T:Two Ok blt p q x0 y0 xl)(M:HI blt p q out m n)(h0:0<n)(hn:n<=q.size)(hy:q[n - 1]? = some y)(h:∀z∈p.toList.reverse.drop (p.size - m),ge blt y z):HI blt p q (out.push y) m (n - 1):=by
 have:=MI.pushY M (Ja T.sq) (i7 h0 hn hy) h
 rw[<- Nh,show q.size - n+1=q.size - (n - 1) by omega] at this
 exact this
def AJ(blt:Keyed->Keyed->Bool)(p q:Array Keyed)(st:Bt)(b:Nat)(r:ForInStep G8)(st':Bt):Prop:=Kept st st'/\match r with
 | .done (some r,_)=>oT blt p q r
 | .done (none,m,n,out,_)=>HI blt p q out m n/\0<m/\m<=p.size/\1<n/\n<=q.size/\m+n<b
 | .yield (none,m,n,out,_)=>HI blt p q out m n/\0<m/\m<=p.size/\1<n/\n<=q.size/\m+n<b
 | .yield (some _,_)=>False
theorem pK(C:Cmp prog w A s kd Ok blt)(T:Two Ok blt p q x0 y0 xl){st0 st:Bt}(kp:Kept st0 st)(M:HI blt p q out m n)(m0:0<m)(hm:m<=p.size)(n0:1<n)(hn:n<=q.size)(hb:m+n<=b)(hx:p[m - 1]? = some x)(hq:∀z∈q.toList.reverse.drop (q.size - n),ge blt x z):wpS (model prog w) A E s (n6 p q out m n g ac k) (AJ blt p q st0 b) st:=by
 unfold n6
 refine Be (Fb hx ?_)
 have M1:=HI.pushX C T M m0 hm hx hq
 by_cases h1:m - 1=0
 ·rw[if_pos (by rw[h1]; rfl)]
  exact Bk ⟨kp,T.dn_end M1 (by omega) hn (.inl h1)⟩
 ·rw[if_neg (λz=>h1 (Dw z))]
  by_cases h2:(decide (ac<7) && decide (k<7))=true
  ·rw[if_pos h2]
   exact Bk ⟨kp,M1,by omega,by omega,n0,hn,by omega⟩
  ·rw[if_neg h2]
   exact Bk ⟨kp,M1,by omega,by omega,n0,hn,by omega⟩
theorem pQ(C:Cmp prog w A s kd Ok blt)(T:Two Ok blt p q x0 y0 xl){st0 st:Bt}(kp:Kept st0 st)(hk:kindOf st=kd)(M:HI blt p q out m n)(m0:0<m)(hm:m<=p.size)(n0:1<n)(hn:n<=q.size)(hb:m+n<=b)(hx:p[m - 1]? = some x)(hy:q[n - 1]? = some y)(hxy:le blt x y):wpS (model prog w) A E s (A4 p q out m n g ac bc) (AJ blt p q st0 b) st:=by
 unfold A4
 refine Be (Fb hy ?_)
 have M1:=HI.pushY C T M (by omega) hn hy (Sy C T.sp m0 hm hx hxy)
 by_cases h1:n - 1=1
 ·rw[if_pos (by rw[h1]; rfl)]
  exact Bk ⟨kp,T.fs_end C M1 hm h1 (by omega)⟩
 rw[if_neg (λz=>h1 (Dw z))]
 refine Be (Fb hx ?_)
 have val:∀i yy,q[i]? = some yy->q.getD (0+i) y=yy:=λi yy e=>by rw[Pb]; simp [Dq,e]
 have R:Row Ok q 0 (n - 1) (λi=>q.getD (0+i) y):=⟨λi hi=>by
  obtain ⟨ya,ea⟩:=Fi (p:=q) (i:=i) (by omega)
  rw[val i ya ea,Pb,ea],λi hi=>by
  obtain ⟨ya,ea⟩:=Fi (p:=q) (i:=i) (by omega)
  show Ok (q.getD (0+i) y)
  rw[val i ya ea]
  exact T.oq ya (Jc ea)⟩
 refine Be (Ni C R (T.op x (Jc hx)) hk (by omega) (λa c hab hc q1=>?_) λt ht t1 t2=>?_)
 ·obtain ⟨ya,ea⟩:=Fi (p:=q) (i:=a) (by omega)
  obtain ⟨yc,ec⟩:=Fi (p:=q) (i:=c) (by omega)
  simp only[val a ya ea,val c yc ec,Gp,if_true] at q1 ⊢
  exact C.leLt (Km C T.sq hab (Ea ea) (Ea ec)) q1
 dsimp only
 have M2:HI blt p q (out.push y++(q.extract t (n - 1)).reverse) m t:=by
  have:=MI.blockY M1 (Ja T.sq) (n - 1 - t) (by rw[Ih,Bd]; omega) (λi hi yy ey=>by
   have e1:q[n - 1 - i - 1]? = some yy:=by
    rw[Uc (by rw[Bd]; omega),Bd,show q.size - 1 - (q.size - (n - 1)+i)=n - 1 - i - 1 by omega] at ey
    simpa using ey
   have:=t2 (n - 1 - i - 1) (by omega) (by omega)
   rw[val _ yy e1] at this
   have z:blt yy x=false:=by simpa only [Gp,if_true] using this
   exact Sy C T.sp m0 hm hx z)
  rw[<- AX q (by omega) (by omega),<- Cy,show q.size - (n - 1)+(n - 1 - t)=q.size - t by omega] at this
  exact this
 -- what is left of q is below x
 have below:∀z∈q.toList.reverse.drop (q.size - t),ge blt x z:=λz hz=>by
  rw[Jd q (by omega)] at hz
  obtain ⟨k,hk',e⟩:=Hx.mp (Mr.mp hz)
  rw[Cv] at hk'
  have e2:q.toList[k]? = some z:=by
   rw[<- e,<- Ap (by rw[Cv]; exact hk'),Ef (by omega)]
  have e3:q[k]? = some z:=by simpa using e2
  have:=t1 k (by omega)
  rw[val k z e3] at this
  exact C.ofLt (by simpa only [Gp,if_true] using this)
 by_cases h2:n - 1 - t > 0
 ·rw[if_pos h2]
  by_cases h3:t=1
  ·rw[if_pos (by rw[h3]; rfl)]
   exact Bk ⟨kp,T.fs_end C M2 hm h3 (by omega)⟩
  ·rw[if_neg (λz=>h3 (Dw z))]
   by_cases h4:t=0
   ·rw[if_pos (by rw[h4]; rfl)]
    exact Bk ⟨kp,T.dn_end M2 hm (by omega) (.inr h4)⟩
   ·rw[if_neg (λz=>h4 (Dw z))]
    exact pK C T kp M2 m0 hm (by omega) (by omega) (by omega) hx below
 ·rw[if_neg h2]
  have et:t=n - 1:=by omega
  rw[et] at below
  exact pK C T kp M1 m0 hm (by omega) (by omega) (by omega) hx below
theorem j8(C:Cmp prog w A s kd Ok blt)(T:Two Ok blt p q x0 y0 xl){st0 st:Bt}(kp:Kept st0 st)(hk:kindOf st=kd)(M:HI blt p q out m n)(m0:0<m)(hm:m<=p.size)(n0:1<n)(hn:n<=q.size)(hb:m+n<=b):wpS (model prog w) A E s (S9 p q out m n g ac bc) (AJ blt p q st0 b) st:=by
 unfold S9
 refine Be (Tb λst1 kp1=>?_)
 have kp':=kp.trans kp1
 have hk':kindOf st1=kd:=kp1.kind.trans hk
 obtain ⟨y,hy⟩:=Fi (p:=q) (i:=n - 1) (by omega)
 refine Be (Fb hy ?_)
 have val:∀i xx,p[i]? = some xx->p.getD (0+i) y=xx:=λi xx e=>by rw[Pb]; simp [Dq,e]
 have R:Row Ok p 0 m (λi=>p.getD (0+i) y):=⟨λi hi=>by
  obtain ⟨xa,ea⟩:=Fi (p:=p) (i:=i) (by omega)
  rw[val i xa ea,Pb,ea],λi hi=>by
  obtain ⟨xa,ea⟩:=Fi (p:=p) (i:=i) (by omega)
  show Ok (p.getD (0+i) y)
  rw[val i xa ea]
  exact T.op xa (Jc ea)⟩
 refine Be (Ni C R (T.oq y (Jc hy)) hk' (by omega) (λa c hab hc q1=>?_) λt ht t1 t2=>?_)
 ·obtain ⟨xa,ea⟩:=Fi (p:=p) (i:=a) (by omega)
  obtain ⟨xc,ec⟩:=Fi (p:=p) (i:=c) (by omega)
  simp only[val a xa ea,val c xc ec,Gp,Ca,if_false,Jn] at q1 ⊢
  exact C.trans (Km C T.sp hab (Ea ea) (Ea ec)) q1
 dsimp only
 have M1:HI blt p q (out++(p.extract t m).reverse) t n:=by
  have:=MI.blockX M (Ja T.sp) (m - t) (by rw[Ih,Bd]; omega) (λi hi xx ex=>by
   have e1:p[m - i - 1]? = some xx:=by
    rw[Uc (by rw[Bd]; omega),Bd,show p.size - 1 - (p.size - m+i)=m - i - 1 by omega] at ex
    simpa using ex
   have:=t2 (m - i - 1) (by omega) (by omega)
   rw[val _ xx e1] at this
   have z:blt y xx=true:=by simpa only [Gp,Ca,if_false,Xq] using this
   exact Sy C T.sq (by omega) hn hy (C.ofLt z))
  rw[<- AX p (by omega) hm,<- Cy,show p.size - m+(m - t)=p.size - t by omega] at this
  exact this
 have below:∀x,0<t->p[t - 1]? = some x->le blt x y:=λx h0 hx=>by
  have:=t1 (t - 1) (by omega)
  rw[val _ x hx] at this
  have z:blt y x=false:=by simpa only [Gp,Ca,if_false,Jn] using this
  exact z
 by_cases h2:m - t > 0
 ·rw[if_pos h2]
  by_cases h3:t=0
  ·rw[if_pos (by rw[h3]; rfl)]
   exact Bk ⟨kp',T.dn_end M1 (by omega) hn (.inl h3)⟩
  ·rw[if_neg (λz=>h3 (Dw z))]
   obtain ⟨x,hx⟩:=Fi (p:=p) (i:=t - 1) (by omega)
   exact pQ C T kp' hk' M1 (by omega) (by omega) n0 hn (by omega) hx hy (below x (by omega) hx)
 ·rw[if_neg h2]
  have et:t=m:=by omega
  subst et
  obtain ⟨x,hx⟩:=Fi (p:=p) (i:=t - 1) (by omega)
  exact pQ C T kp' hk' M m0 hm n0 hn hb hx hy (below x m0 hx)
theorem mT(C:Cmp prog w A s kd Ok blt)(T:Two Ok blt p q x0 y0 xl){st:Bt}(hk:kindOf st=kd)(h:∀r st',Kept st st'->oT blt p q r->Q r st'):wpS (model prog w) A E s (iS p q) Q st:=by
 have p0:0<p.size:=(Hb.mp T.hx0).1
 have q0:0<q.size:=(Hb.mp T.hy0).1
 obtain ⟨yl,hyl⟩:=Fi (p:=q) (i:=q.size - 1) (by omega)
 have M0:HI blt p q #[xl] (p.size - 1) q.size:=by
  have m:HI blt p q #[] p.size q.size:=⟨by simp,by simp,λo ho=>by simp at ho,λo ho=>by simp at ho⟩
  have:=HI.pushX C T m p0 (Ak _) T.hxl (Sy C T.sq q0 (Ak _) hyl (C.ofLt (T.last yl (Jc hyl))))
  simpa using this
 unfold iS
 refine Be (Ti ?_)
 refine Be (Fb T.hxl ?_)
 dsimp only
 by_cases h1:p.size - 1=0
 ·rw[if_pos (by rw[h1]; rfl)]
  exact Bk (h _ _ (Kept.refl _) (T.dn_end M0 (by omega) (by omega) (.inl h1)))
 rw[if_neg (λz=>h1 (Dw z))]
 by_cases h2:q.size=1
 ·rw[if_pos (by rw[h2]; rfl)]
  exact Bk (h _ _ (Kept.refl _) (T.fs_end C M0 (by omega) h2 (by omega)))
 rw[if_neg (λz=>h2 (Dw z))]
 refine Be (Mu ?_)
 refine Be (Gy (Ee
  (I:=λx c st'=>Kept st st'/\∃m n out g,c=(none,m,n,out,g)/\HI blt p q out m n/\0<m/\m<=p.size/\1<n/\n<=q.size/\m+n+x+1<=p.size+q.size)
  (Q:=λc st'=>Kept st st'/\∃r Fz,c=(some r,Fz)/\oT blt p q r) ?_ ?_ ⟨Kept.refl _,_,_,_,_,rfl,M0,by omega,by omega,by omega,by omega,by omega⟩) ?_)
 ·(intro x c st1 _ hx q_; obtain ⟨kp1,m,n,out,g,rfl,M,m0,hm,n0,hn,hb⟩ := q_)
  dsimp only
  -- one by one
  refine Be (Gy (Ee
   (I:=λ_ c st'=>st'=st1/\∃m n out ac bc,c=(none,m,n,out,ac,bc)/\HI blt p q out m n/\0<m/\m<=p.size/\1<n/\n<=q.size/\m+n+x+1<=p.size+q.size)
   (Q:=λc st'=>st'=st1/\((∃r Fz,c=(some r,Fz)/\oT blt p q r)\/∃m n out ac bc,c=(none,m,n,out,ac,bc)/\HI blt p q out m n/\0<m/\m<=p.size/\1<n/\n<=q.size/\m+n+x+1<=p.size+q.size)) ?_ ?_ ⟨rfl,m,n,out,0,0,rfl,M,m0,hm,n0,hn,hb⟩) ?_)
  ·(intro z c st2 _ hz q_; obtain ⟨rfl,m,n,out,ac,bc,rfl,M,m0,hm,n0,hn,hb⟩ := q_)
   dsimp only
   obtain ⟨yy,hy⟩:=Fi (p:=q) (i:=n - 1) (by omega)
   obtain ⟨xx,hx⟩:=Fi (p:=p) (i:=m - 1) (by omega)
   refine Be (Fb hy ?_)
   refine Be (Fb hx ?_)
   refine Be (jS C (kp1.kind.trans hk) (T.oq yy (Jc hy)) (T.op xx (Jc hx)) ?_)
   dsimp only
   cases hlt:blt yy xx with
   | true =>
    rw[if_pos rfl]
    refine Be (Fb hx ?_)
    have M1:=HI.pushX C T M m0 hm hx (Sy C T.sq (by omega) hn hy (C.ofLt hlt))
    by_cases e1:m - 1=0
    ·rw[if_pos (by rw[e1]; rfl)]
     exact Bk ⟨rfl,.inl ⟨_,_,rfl,T.dn_end M1 (by omega) hn (.inl e1)⟩⟩
    ·rw[if_neg (λz=>e1 (Dw z))]
     split
     ·exact Bk ⟨rfl,.inr ⟨_,_,_,_,_,rfl,M1,by omega,by omega,n0,hn,by omega⟩⟩
     ·exact Bk ⟨rfl,_,_,_,_,_,rfl,M1,by omega,by omega,n0,hn,by omega⟩
   | false =>
    rw[if_neg Bq]
    refine Be (Fb hy ?_)
    have M1:=HI.pushY C T M (by omega) hn hy (Sy C T.sp m0 hm hx hlt)
    by_cases e1:n - 1=1
    ·rw[if_pos (by rw[e1]; rfl)]
     exact Bk ⟨rfl,.inl ⟨_,_,rfl,T.fs_end C M1 hm e1 (by omega)⟩⟩
    ·rw[if_neg (λz=>e1 (Dw z))]
     split
     ·exact Bk ⟨rfl,.inr ⟨_,_,_,_,_,rfl,M1,m0,hm,by omega,by omega,by omega⟩⟩
     ·exact Bk ⟨rfl,_,_,_,_,_,rfl,M1,m0,hm,by omega,by omega,by omega⟩
  ·(intro c st2 q_; obtain ⟨rfl,m,n,out,ac,bc,rfl,M⟩ := q_)
   exact ⟨rfl,.inr ⟨m,n,out,ac,bc,rfl,M⟩⟩
  ·rintro c st2 ⟨rfl,hc⟩
   rcases hc with hc | hc
   ·obtain ⟨r,Fz,rfl,hr⟩:=hc
    exact Bk ⟨kp1,r,_,rfl,hr⟩
   ·obtain ⟨m,n,out,ac,bc,rfl,M,m0,hm,n0,hn,hb⟩:=hc
    dsimp only
    refine Be (Ti ?_)
    -- the gallop
    refine Be (Gy (Ee
     (I:=λy c st'=>Kept st st'/\∃m n out g ac bc,c=(none,m,n,out,g,ac,bc)/\HI blt p q out m n/\0<m/\m<=p.size/\1<n/\n<=q.size/\(if y=0 then m+n+x+1<=p.size+q.size else m+n+x+2<=p.size+q.size))
     (Q:=λc st'=>Kept st st'/\((∃r Fz,c=(some r,Fz)/\oT blt p q r)\/∃m n out g ac bc,c=(none,m,n,out,g,ac,bc)/\HI blt p q out m n/\0<m/\m<=p.size/\1<n/\n<=q.size/\m+n+x+2<=p.size+q.size)) ?_ ?_
     ⟨kp1,m,n,out,_,ac,bc,rfl,M,m0,hm,n0,hn,by rw[if_pos rfl]; exact hb⟩) ?_)
    ·(intro y c st3 _ hy q_; obtain ⟨kp3,m,n,out,g,ac,bc,rfl,M,m0,hm,n0,hn,hb⟩ := q_)
     have hb':m+n+x+1<=p.size+q.size:=by split at hb <;> omega
     have key:∀g',wpS (model prog w) A E s (S9 p q out m n g' ac bc) (AJ blt p q st (m+n)) st3:=λg'=>j8 C T kp3 (kp3.kind.trans hk) M m0 hm n0 hn (Ak _)
     dsimp only
     refine Gy (?_:wpS (model prog w) A E s _ (AJ blt p q st (m+n)) st3) λr st4 hr=>?_
     ·by_cases hg:g > 1
      ·rw[if_pos hg]
       exact key _
      ·rw[if_neg hg]
       exact key _
     ·obtain ⟨kp4,hr⟩:=hr
      match r,hr with
      | .done (some r,Fz),hr=>exact ⟨kp4,.inl ⟨r,Fz,rfl,hr⟩⟩
      | .done (none,m',n',out',g',ac',bc'),hr=>exact ⟨kp4,.inr ⟨m',n',out',g',ac',bc',rfl,hr.1,hr.2.1,hr.2.2.1,hr.2.2.2.1,hr.2.2.2.2.1,by have:=hr.2.2.2.2.2; omega⟩⟩
      | .yield (none,m',n',out',g',ac',bc'),hr=>exact ⟨kp4,m',n',out',g',ac',bc',rfl,hr.1,hr.2.1,hr.2.2.1,hr.2.2.2.1,hr.2.2.2.2.1,by rw[if_neg (by omega)]; have:=hr.2.2.2.2.2; omega⟩
    ·(intro c st3 q_; obtain ⟨kp3,m,n,out,g,ac,bc,rfl,M,m0,hm,n0,hn,hb⟩ := q_)
     rw[if_neg (by omega)] at hb
     exact ⟨kp3,.inr ⟨m,n,out,g,ac,bc,rfl,M,m0,hm,n0,hn,hb⟩⟩
    ·rintro c st3 ⟨kp3,hc⟩
     rcases hc with hc | hc
     ·obtain ⟨r,Fz,rfl,hr⟩:=hc
      exact Bk ⟨kp3,r,_,rfl,hr⟩
     ·obtain ⟨m,n,out,g,ac,bc,rfl,M,m0,hm,n0,hn,hb⟩:=hc
      dsimp only
      refine Be (Tb λst4 kp4=>?_)
      exact Bk ⟨kp3.trans kp4,m,n,out,_,rfl,M,m0,hm,n0,hn,by omega⟩
 ·(intro c st1 q_; obtain ⟨kp1,m,n,out,g,rfl,M,m0,hm,n0,hn,hb⟩ := q_)
  exfalso
  have : max 0 (p.size+q.size)=p.size+q.size:=by omega
  rw[this] at hb
  omega
 ·(intro c st1 q_; obtain ⟨kp1,r,Fz,rfl,hr⟩ := q_)
  exact Bk (h r st1 kp1 hr)
end
def dP:Nat->Nat->StateT Bt Sem (Option Nat):=sortPriv% PySem.Builtin.countRun
def Xr:Nat->Nat->Nat->StateT Bt Sem Bool:=sortPriv% PySem.Builtin.binarySort
def X(xs:Array Keyed)(i:Nat):Keyed:=xs[i]?.getD (Ir,Ir)
theorem Xi(h:i<xs.size):xs[i]? = some (X xs i):=by
 unfold X
 rw[getElem?_pos xs i h]
 rfl
theorem Qj(h:xs[i]? = ys[j]?):X xs i=X ys j:=by unfold X; rw[h]
theorem Rv(hj:j<=xs.size)(k:Nat):X (mirror xs i j ((j - i) / 2)) k=if i<=k/\k<j then X xs (i+j - 1 - k) else X xs k:=by
 have e:=getElem?_mirror_all (i:=i) hj k
 by_cases h:i<=k/\k<j
 ·rw[if_pos h] at e ⊢; exact Qj e
 ·rw[if_neg h] at e ⊢; exact Qj e
theorem zA(hs:src<xs.size)(hd:d<=src)(k:Nat):X (bubble xs src d) k=if k=src - d then X xs src else if src - d<k/\k<=src then X xs (k - 1) else X xs k:=by
 have e:=getElem?_bubble hs d hd k
 by_cases h1:k=src - d
 ·rw[if_pos h1] at e ⊢; exact Qj e
 ·rw[if_neg h1] at e ⊢
  by_cases h2:src - d<k/\k<=src
  ·rw[if_pos h2] at e ⊢; exact Qj e
  ·rw[if_neg h2] at e ⊢; exact Qj e
def Rg(blt:Keyed->Keyed->Bool)(xs:Array Keyed)(a b:Nat):Prop:=∀i j,a<=i->i<=j->j<b->le blt (X xs i) (X xs j)
def tY(blt:Keyed->Keyed->Bool)(xs:Array Keyed)(a b:Nat):Prop:=∀i j,a<=i->i<=j->j<b->le blt (X xs j) (X xs i)
structure Good(kd:Lq)(a₀:Array Keyed)(pend:Array (Nat×Nat×Nat))(st:Bt):Prop where
 kind:kindOf st=kd
 fail:Ko st=none
 perm:(arrOf st).Perm a₀
 pd:Bj st=pend
def iF(xs ys:Array Keyed)(a b:Nat):Prop:=∀i,(i<a\/b<=i)->X ys i=X xs i
theorem iF.refl(xs:Array Keyed)(a b:Nat):iF xs xs a b:=λ_ _=>rfl
theorem iF.trans(h:iF xs ys a b)(k:iF ys zs a b):iF xs zs a b:=λi hi=>(k i hi).trans (h i hi)
section
variable{prog:Bo}{w:World}{A:Cn}{s:Ai}{kd:Lq}{Ok:Keyed->Prop}{blt:Keyed->Keyed->Bool}{E:Value->Ai->Prop}{a₀:Array Keyed}{pend:Array (Nat×Nat×Nat)}
theorem Good.size{st:Bt}(g:Good kd a₀ pend st):(arrOf st).size=a₀.size:=g.perm.size_eq
theorem Good.okX{st:Bt}(g:Good kd a₀ pend st)(h0:∀x∈a₀.toList,Ok x)(hi:i<a₀.size):Ok (X (arrOf st) i):=by
 have e:=Xi (xs:=arrOf st) (i:=i) (by rw[g.size]; exact hi)
 exact h0 _ ((Pe.mp g.perm).mem_iff.mp (Jc e))
theorem Good.set{st:Bt}(g:Good kd a₀ pend st)(h:xs.Perm (arrOf st)):Good kd a₀ pend (setArr st xs):=⟨g.kind,g.fail,h.trans g.perm,g.pd⟩
theorem Wd(C:Cmp prog w A s kd Ok blt){st:Bt}(g:Good kd a₀ pend st)(h0:∀x∈a₀.toList,Ok x)(hi:i<a₀.size)(hj:j<a₀.size)(h:Q (some (blt (X (arrOf st) i) (X (arrOf st) j))) st):wpS (model prog w) A E s (ltAt' i j) Q st:=by
 rw[ltAt'_eq]
 refine Be (Mu ?_)
 refine Be (Fb (Xi (by rw[g.size]; exact hi)) ?_)
 refine Be (Fb (Xi (by rw[g.size]; exact hj)) ?_)
 exact jS C g.kind (g.okX h0 hi) (g.okX h0 hj) h
theorem Qs{st:Bt}(h:Q () (setArr st (mirror (arrOf st) i j ((j - i) / 2)))):wpS (model prog w) A E s (Tu i j) Q st:=by
 rw[reverseSlice'_eq]
 exact Jj h
def AM(lo a b:Nat):StateT Bt Sem (Option (Option Nat)×Nat) :=
 forIn [a:b] ((none,a):Option (Option Nat)×Nat) λ_ c=>do
  let some iQ <- ltAt' (lo+c.2) (lo+c.2 - 1) | pure (Cp (some none,c.2))
  if iQ=true then pure (Cp (none,c.2)) else pure (Ff (none,c.2+1))
theorem yX(C:Cmp prog w A s kd Ok blt){st:Bt}(g:Good kd a₀ pend st)(h0:∀x∈a₀.toList,Ok x){lo a b:Nat}(hb:lo+b<=a₀.size)(ha:1<=a)(hab:a<=b)(h1:Rg blt (arrOf st) lo (lo+a))(h:∀n,a<=n->n<=b->Rg blt (arrOf st) lo (lo+n)->(n=b\/blt (X (arrOf st) (lo+n)) (X (arrOf st) (lo+n - 1))=true)->Q (none,n) st):wpS (model prog w) A E s (AM lo a b) Q st:=by
 unfold AM
 refine Ee (I:=λx c st'=>st'=st/\c=(none,x)/\Rg blt (arrOf st) lo (lo+x)) ?_ ?_ ⟨rfl,rfl,h1⟩
 ·(intro x c st' hx1 hx2 q_; obtain ⟨rfl,rfl,hs⟩ := q_)
  dsimp only
  refine Be (Wd C g h0 (by omega) (by omega) ?_)
  dsimp only
  cases hl:blt (X (arrOf st') (lo+x)) (X (arrOf st') (lo+x - 1)) with
  | true =>
   rw[if_pos rfl]
   exact Bk (h x hx1 (by omega) hs (.inr hl))
  | false =>
   rw[if_neg Bq]
   refine Bk ⟨rfl,rfl,λi j hi hij hj=>?_⟩
   by_cases hjx:j<lo+x
   ·exact hs i j hi hij hjx
   ·have ej:j=lo+x:=by omega
    subst ej
    by_cases hi':i=lo+x
    ·subst hi'; exact C.refl _
    ·exact C.trans (hs i (lo+x - 1) hi (by omega) (by omega)) hl
 ·(intro c st' q_; obtain ⟨rfl,rfl,hs⟩ := q_)
  rw[show max a b=b by omega] at hs ⊢
  exact h b hab (Ak _) hs (.inl rfl)
theorem nP{lo n:Nat}(hn:lo+n<=xs.size)(h:tY blt xs lo (lo+n)):Rg blt (mirror xs lo (lo+n) ((lo+n - lo) / 2)) lo (lo+n):=λi j hi hij hj=>by
 rw[Rv hn,Rv hn,if_pos (by omega),if_pos (by omega)]
 exact h _ _ (by omega) (by omega) (by omega)
theorem Wz{lo n b e:Nat}(hn:lo+n<=xs.size)(he:e<=lo+n)(hb:lo<=b)(h:tY blt xs lo (lo+n))(eqv:∀i j,b<=i->i<e->b<=j->j<e->le blt (X xs i) (X xs j)):tY blt (mirror xs b e ((e - b) / 2)) lo (lo+n):=λi j hi hij hj=>by
 rw[Rv (by omega),Rv (by omega)]
 by_cases h1:b<=j/\j<e
 ·rw[if_pos h1]
  by_cases h2:b<=i/\i<e
  ·rw[if_pos h2]
   exact eqv _ _ (by omega) (by omega) (by omega) (by omega)
  ·rw[if_neg h2]
   exact h _ _ hi (by omega) (by omega)
 ·rw[if_neg h1]
  by_cases h2:b<=i/\i<e
  ·rw[if_pos h2]
   exact h _ _ (by omega) (by omega) (by omega)
  ·rw[if_neg h2]
   exact h i j hi hij hj
theorem Qg(h1:a<=i)(h2:j<=b)(h3:j<=xs.size):iF xs (mirror xs i j ((j - i) / 2)) a b:=λk hk=>by
 rw[Rv h3,if_neg (by omega)]
def uS(lo n b:Nat):StateT Bt Sem (Option Nat):=do
 Tu lo (lo+n)
 let mut m:=n
 for _ in [n:b] do
  let some iQ <- ltAt' (lo+m) (lo+m - 1) | return none
  if iQ then break
  m:=m+1
 return some m
theorem qA(C:Cmp prog w A s kd Ok blt){st:Bt}(g:Good kd a₀ pend st)(h0:∀x∈a₀.toList,Ok x){lo n b:Nat}(hb:lo+b<=a₀.size)(hn:1<=n)(hnb:n<=b)(h1:tY blt (arrOf st) lo (lo+n))(h:∀m st',Good kd a₀ pend st'->1<=m->m<=b->Rg blt (arrOf st') lo (lo+m)->iF (arrOf st) (arrOf st') lo (lo+b)->Q (some m) st'):wpS (model prog w) A E s (uS lo n b) Q st:=by
 unfold uS
 have hsz:lo+n<=(arrOf st).size:=by rw[g.size]; omega
 refine Be (Qs ?_)
 have g':Good kd a₀ pend (setArr st (mirror (arrOf st) lo (lo+n) ((lo+n - lo) / 2))):=g.set (mirror_perm _ _ _ _)
 refine Be (yX C g' h0 hb hn hnb (nP hsz h1) λm hm1 hm2 hs _=>?_)
 exact Bk (h m _ g' (by omega) hm2 hs (Qg (Ak _) (by omega) hsz))
abbrev U3:=Option (Option Nat)×Nat×Nat
def Z4(lo a b:Nat):StateT Bt Sem U3 :=
 forIn [a:b] ((none,a,0):U3) λ_ c=>do
  let some iQ <- ltAt' (lo+c.2.1) (lo+c.2.1 - 1) | pure (Cp (some none,c.2.1,c.2.2))
  if iQ=true then
   if c.2.2 > 0 then do
    Tu (lo+c.2.1 - (c.2.2+1)) (lo+c.2.1)
    pure (Ff (none,c.2.1+1,0))
   else pure (Ff (none,c.2.1+1,0))
  else do
   let some more <- ltAt' (lo+c.2.1 - 1) (lo+c.2.1) | pure (Cp (some none,c.2.1,c.2.2))
   if more=true then pure (Cp (none,c.2.1,c.2.2)) else pure (Ff (none,c.2.1+1,c.2.2+1))
def K0(blt:Keyed->Keyed->Bool)(xs:Array Keyed)(lo n e:Nat):Prop:=e+1<=n/\∀i j,lo+n - (e+1)<=i->i<lo+n->lo+n - (e+1)<=j->j<lo+n->le blt (X xs i) (X xs j)
theorem zV(C:Cmp prog w A s kd Ok blt){lo n:Nat}(h:1<=n):K0 blt xs lo n 0:=⟨by omega,λi j i1 i2 j1 j2=>by
 have e:i=j:=by omega
 subst e
 exact C.refl _⟩
theorem Wm(C:Cmp prog w A s kd Ok blt){lo n:Nat}(hn:1<=n)(h:tY blt xs lo (lo+n))(hl:le blt (X xs (lo+n)) (X xs (lo+n - 1))):tY blt xs lo (lo+(n+1)):=λi j hi hij hj=>by
 by_cases hjx:j<lo+n
 ·exact h i j hi hij hjx
 ·have ej:j=lo+n:=by omega
  subst ej
  by_cases hi':i=lo+n
  ·subst hi'; exact C.refl _
  ·exact C.trans hl (h i (lo+n - 1) hi (by omega) (by omega))
theorem w5(C:Cmp prog w A s kd Ok blt){st:Bt}(g:Good kd a₀ pend st)(h0:∀x∈a₀.toList,Ok x){lo a b:Nat}(hb:lo+b<=a₀.size)(ha:1<=a)(hab:a<=b)(h1:tY blt (arrOf st) lo (lo+a))(h:∀n e st',Good kd a₀ pend st'->a<=n->n<=b->tY blt (arrOf st') lo (lo+n)->K0 blt (arrOf st') lo n e->iF (arrOf st) (arrOf st') lo (lo+b)->Q (none,n,e) st'):wpS (model prog w) A E s (Z4 lo a b) Q st:=by
 unfold Z4
 refine Ee (I:=λx c st'=>∃e,c=(none,x,e)/\Good kd a₀ pend st'/\tY blt (arrOf st') lo (lo+x)/\K0 blt (arrOf st') lo x e/\iF (arrOf st) (arrOf st') lo (lo+b)) ?_ ?_
  ⟨0,rfl,g,h1,zV C ha,iF.refl _ _ _⟩
 ·(intro x c st' hx1 hx2 q_; obtain ⟨e,rfl,g',hs,lk,ou⟩ := q_)
  have hsz:(arrOf st').size=a₀.size:=g'.size
  dsimp only
  refine Be (Wd C g' h0 (by omega) (by omega) ?_)
  dsimp only
  cases hl:blt (X (arrOf st') (lo+x)) (X (arrOf st') (lo+x - 1)) with
  | true =>
   rw[if_pos rfl]
   have d1:=Wm C (by omega) hs (C.ofLt hl)
   have one:∀ys:Array Keyed,K0 blt ys lo (x+1) 0:=λys=>⟨by omega,λi j i1 i2 j1 j2=>by
    have : i=j:=by omega
    subst this
    exact C.refl _⟩
   by_cases he:e > 0
   ·rw[if_pos he]
    refine Be (Qs ?_)
    refine Bk ⟨0,rfl,g'.set (mirror_perm _ _ _ _),?_,one _,ou.trans (Qg (by have:=lk.1; omega) (by omega) (by omega))⟩
    exact Wz (by omega) (by omega) (by have:=lk.1; omega) d1 λi j i1 i2 j1 j2=>lk.2 i j i1 i2 j1 j2
   ·rw[if_neg he]
    exact Bk ⟨0,rfl,g',d1,one _,ou⟩
  | false =>
   rw[if_neg Bq]
   refine Be (Wd C g' h0 (by omega) (by omega) ?_)
   dsimp only
   cases hm:blt (X (arrOf st') (lo+x - 1)) (X (arrOf st') (lo+x)) with
   | true =>
    rw[if_pos rfl]
    exact Bk (h x e st' g' hx1 (by omega) hs lk ou)
   | false =>
    rw[if_neg Bq]
    refine Bk ⟨e+1,rfl,g',Wm C (by omega) hs hm,⟨by have:=lk.1; omega,λi j i1 i2 j1 j2=>?_⟩,ou⟩
    have l1:le blt (X (arrOf st') (lo+x - 1)) (X (arrOf st') (lo+x)):=hl
    have l2:le blt (X (arrOf st') (lo+x)) (X (arrOf st') (lo+x - 1)):=hm
    by_cases ei:i=lo+x
    ·by_cases ej:j=lo+x
     ·rw[ei,ej]; exact C.refl _
     ·rw[ei]
      exact C.trans l2 (lk.2 (lo+x - 1) j (by omega) (by omega) (by omega) (by omega))
    ·by_cases ej:j=lo+x
     ·rw[ej]
      exact C.trans (lk.2 i (lo+x - 1) (by omega) (by omega) (by omega) (by omega)) l1
     ·exact lk.2 i j (by omega) (by omega) (by omega) (by omega)
 ·(intro c st' q_; obtain ⟨e,rfl,g',hs,lk,ou⟩ := q_)
  rw[show max a b=b by omega] at hs lk ⊢
  exact h b e st' g' hab (Ak _) hs lk ou
def M7(lo n b:Nat):StateT Bt Sem (Option Nat):=do
 liftM (rule "list.sort.descending-run")
 let mut m:=n+1
 let mut e:=0
 for _ in [m:b] do
  let some iQ <- ltAt' (lo+m) (lo+m - 1) | return none
  if iQ then
   if e > 0 then Tu (lo+m - (e+1)) (lo+m)
   e:=0
  else
   let some more <- ltAt' (lo+m - 1) (lo+m) | return none
   if more then break
   e:=e+1
  m:=m+1
 if e > 0 then Tu (lo+m - (e+1)) (lo+m)
 uS lo m b
theorem rD(C:Cmp prog w A s kd Ok blt){st:Bt}(g:Good kd a₀ pend st)(h0:∀x∈a₀.toList,Ok x){lo n b:Nat}(hb:lo+b<=a₀.size)(hnb:n+1<=b)(h1:tY blt (arrOf st) lo (lo+(n+1)))(h:∀m st',Good kd a₀ pend st'->1<=m->m<=b->Rg blt (arrOf st') lo (lo+m)->iF (arrOf st) (arrOf st') lo (lo+b)->Q (some m) st'):wpS (model prog w) A E s (M7 lo n b) Q st:=by
 unfold M7
 refine Be (Ti ?_)
 refine Be (w5 C g h0 hb (by omega) hnb h1 λk e st1 g1 k1 k2 d1 lk ou=>?_)
 dsimp only
 have hsz:(arrOf st1).size=a₀.size:=g1.size
 by_cases he:e > 0
 ·rw[if_pos he]
  refine Be (Qs ?_)
  refine qA C (g1.set (mirror_perm _ _ _ _)) h0 hb (by omega) k2 (Wz (by omega) (by omega) (by have:=lk.1; omega) d1 λi j i1 i2 j1 j2=>lk.2 i j i1 i2 j1 j2) λm st2 g2 m1 m2 as ou2=>?_
  exact h m st2 g2 m1 m2 as ((ou.trans (Qg (by have:=lk.1; omega) (by omega) (by omega))).trans ou2)
 ·rw[if_neg he]
  exact qA C g1 h0 hb (by omega) k2 d1 λm st2 g2 m1 m2 as ou2=>h m st2 g2 m1 m2 as (ou.trans ou2)
theorem xA(C:Cmp prog w A s kd Ok blt){st:Bt}(g:Good kd a₀ pend st)(h0:∀x∈a₀.toList,Ok x){lo b:Nat}(hb:lo+b<=a₀.size)(b1:1<=b)(h:∀m st',Good kd a₀ pend st'->1<=m->m<=b->Rg blt (arrOf st') lo (lo+m)->iF (arrOf st) (arrOf st') lo (lo+b)->Q (some m) st'):wpS (model prog w) A E s (dP lo b) Q st:=by
 unfold dP
 have hsz:(arrOf st).size=a₀.size:=g.size
 refine Be (yX C g h0 hb (Ak _) b1 (λi j i1 i2 j1=>by
  have : i=j:=by omega
  subst this
  exact C.refl _) λn n1 n2 hs hor=>?_)
 dsimp only
 by_cases e:n=b
 ·rw[if_pos (by rw[e]; exact beq_self_eq_true _)]
  exact Bk (h n st g n1 n2 hs (iF.refl _ _ _))
 rw[if_neg (λz=>e (Dw z))]
 have hlt:blt (X (arrOf st) (lo+n)) (X (arrOf st) (lo+n - 1))=true:=hor.resolve_left e
 by_cases hg:n > 1
 ·rw[if_pos hg]
  refine Be (Wd C g h0 (by omega) (by omega) ?_)
  dsimp only
  cases hr:blt (X (arrOf st) lo) (X (arrOf st) (lo+n - 1)) with
  | true =>
   rw[if_pos rfl]
   exact Bk (h n st g n1 n2 hs (iF.refl _ _ _))
  | false =>
   rw[if_neg Bq]
   refine Be (Qs ?_)
   -- all of it are alike
   have like:∀i j,lo<=i->i<lo+n->lo<=j->j<lo+n->le blt (X (arrOf st) i) (X (arrOf st) j):=λi j i1 i2 j1 j2 =>
    C.trans (hs i (lo+n - 1) i1 (by omega) (by omega)) (C.trans hr (hs lo j (Ak _) j1 j2))
   have d1:tY blt (arrOf st) lo (lo+(n+1)):=Wm C n1 (λi j i1 i2 j1=>like j i (by omega) j1 i1 (by omega)) (C.ofLt hlt)
   exact rD C (g.set (mirror_perm _ _ _ _)) h0 hb (by omega) (Wz (by omega) (by omega) (Ak _) d1 like) λm st2 g2 m1 m2 as ou2=>h m st2 g2 m1 m2 as ((Qg (Ak _) (by omega) (by omega)).trans ou2)
 ·rw[if_neg hg]
  have en:n=1:=by omega
  subst en
  have d1:tY blt (arrOf st) lo (lo+(1+1)):=Wm C (Ak _) (λi j i1 i2 j1=>by
   have : i=j:=by omega
   subst this
   exact C.refl _) (C.ofLt hlt)
  exact rD C g h0 hb (by omega) d1 h
end
def Wb:Nat->StateT Bt Sem Bool:=sortPriv% PySem.Builtin.mergeAt
section
variable{prog:Bo}{w:World}{A:Cn}{s:Ai}{kd:Lq}{Ok:Keyed->Prop}{blt:Keyed->Keyed->Bool}{E:Value->Ai->Prop}{a₀:Array Keyed}{pend:Array (Nat×Nat×Nat)}
theorem jG{st:Bt}(h:Q () (setArr st (bubble (arrOf st) i (i - j)))):wpS (model prog w) A E s (moveDown' i j) Q st:=by
 rw[moveDown'_eq]
 exact Jj h
theorem sU(C:Cmp prog w A s kd Ok blt){st:Bt}(g:Good kd a₀ pend st)(h0:∀x∈a₀.toList,Ok x){lo n ok:Nat}(hb:lo+n<=a₀.size)(h1:Rg blt (arrOf st) lo (lo+ok))(hok:ok<=n)(h:∀st',Good kd a₀ pend st'->Rg blt (arrOf st') lo (lo+n)->iF (arrOf st) (arrOf st') lo (lo+n)->Q true st'):wpS (model prog w) A E s (Xr lo n ok) Q st:=by
 unfold Xr
 refine Be (Gy (Ee
  (I:=λk c st'=>c=(none,())/\Good kd a₀ pend st'/\Rg blt (arrOf st') lo (lo+k)/\iF (arrOf st) (arrOf st') lo (lo+n))
  (Q:=λc st'=>c=(none,())/\Good kd a₀ pend st'/\Rg blt (arrOf st') lo (lo+n)/\iF (arrOf st) (arrOf st') lo (lo+n)) ?_ ?_ ⟨rfl,g,?_,iF.refl _ _ _⟩) ?_)
 ·(intro k c st1 hk1 hk2 q_; obtain ⟨rfl,g1,hs,ou⟩ := q_)
  have hsz:(arrOf st1).size=a₀.size:=g1.size
  dsimp only
  refine Be (Gy (Ee
   (I:=λy c st'=>st'=st1/\∃l r,c=(none,l,r)/\l<=r/\r<=k/\r - l+y<=k/\(∀i,i<l->le blt (X (arrOf st1) (lo+i)) (X (arrOf st1) (lo+k)))/\(∀i,r<=i->i<k->blt (X (arrOf st1) (lo+k)) (X (arrOf st1) (lo+i))=true))
   (Q:=λc st'=>st'=st1/\∃l,c=(none,l,l)/\l<=k/\(∀i,i<l->le blt (X (arrOf st1) (lo+i)) (X (arrOf st1) (lo+k)))/\(∀i,l<=i->i<k->blt (X (arrOf st1) (lo+k)) (X (arrOf st1) (lo+i))=true)) ?_ ?_
   ⟨rfl,0,k,rfl,by omega,by omega,by omega,λi hi=>by omega,λi h1 h2=>by omega⟩) ?_)
  ·(intro y c st2 _ hy q_; obtain ⟨rfl,l,r,rfl,a1,a2,a3,b1,b2⟩ := q_)
   dsimp only
   by_cases hlr:l ≥ r
   ·rw[if_pos hlr]
    have e:l=r:=by omega
    subst e
    exact Bk ⟨rfl,l,rfl,a2,b1,b2⟩
   ·rw[if_neg hlr]
    refine Be (Wd C g1 h0 (by omega) (by omega) ?_)
    dsimp only
    cases hl:blt (X (arrOf st2) (lo+k)) (X (arrOf st2) (lo+(l+r) / 2)) with
    | true =>
     rw[if_pos rfl]
     exact Bk ⟨rfl,l,(l+r) / 2,rfl,by omega,by omega,by omega,b1,λi i1 i2=>C.ltLe hl (hs _ _ (by omega) (by omega) (by omega))⟩
    | false =>
     rw[if_neg Bq]
     exact Bk ⟨rfl,(l+r) / 2+1,r,rfl,by omega,a2,by omega,λi hi=>C.trans (hs _ _ (by omega) (by omega) (by omega)) hl,b2⟩
  ·(intro c st2 q_; obtain ⟨rfl,l,r,rfl,a1,a2,a3,b1,b2⟩ := q_)
   have : max 0 k=k:=by omega
   rw[this] at a3
   have e:l=r:=by omega
   subst e
   exact ⟨rfl,l,rfl,a2,b1,b2⟩
  ·(intro c st2 q_; obtain ⟨rfl,l,rfl,a2,b1,b2⟩ := q_)
   dsimp only
   refine Be (jG ?_)
   have xb:=λi=>zA (xs:=arrOf st2) (src:=lo+k) (d:=lo+k - (lo+l)) (by omega) (by omega) i
   have ed:lo+k - (lo+k - (lo+l))=lo+l:=by omega
   refine Bk ⟨rfl,g1.set (bubble_perm _ _ _),λi j i1 i2 j1=>?_,ou.trans λi hi=>?_⟩
   ·show le blt (X (bubble (arrOf st2) (lo+k) (lo+k - (lo+l))) i) (X (bubble (arrOf st2) (lo+k) (lo+k - (lo+l))) j)
    rw[xb,xb,ed]
    by_cases e1:i=lo+l
    ·rw[if_pos e1]
     by_cases e2:j=lo+l
     ·rw[if_pos e2]; exact C.refl _
     ·rw[if_neg e2]
      by_cases e3:lo+l<j/\j<=lo+k
      ·rw[if_pos e3]
       have:=b2 (j - 1 - lo) (by omega) (by omega)
       rw[show lo+(j - 1 - lo)=j - 1 by omega] at this
       exact C.ofLt this
      ·exfalso; omega
    ·rw[if_neg e1]
     by_cases e2:j=lo+l
     ·rw[if_pos e2,if_neg (by omega)]
      have:=b1 (i - lo) (by omega)
      rw[show lo+(i - lo)=i by omega] at this
      exact this
     ·rw[if_neg e2]
      by_cases e3:lo+l<i/\i<=lo+k
      ·rw[if_pos e3,if_pos (by omega)]
       exact hs _ _ (by omega) (by omega) (by omega)
      ·rw[if_neg e3]
       by_cases e4:lo+l<j/\j<=lo+k
       ·rw[if_pos e4]
        exact hs _ _ (by omega) (by omega) (by omega)
       ·rw[if_neg e4]
        exact hs _ _ (by omega) (by omega) (by omega)
   ·show X (bubble (arrOf st2) (lo+k) (lo+k - (lo+l))) i=X (arrOf st2) i
    rw[xb,ed,if_neg (by omega),if_neg (by omega)]
 ·(intro c st1 q_; obtain ⟨rfl,g1,hs,ou⟩ := q_)
  refine ⟨rfl,g1,λi j i1 i2 j1=>hs i j i1 i2 (by omega),ou⟩
 ·intro i j i1 i2 j1
  by_cases e:i=j
  ·subst e; exact C.refl _
  ·exact h1 i j i1 i2 (by omega)
 ·(intro c st1 q_; obtain ⟨rfl,g1,hs,ou⟩ := q_)
  exact Bk (h st1 g1 hs ou)
end
abbrev Nr(xs:Array Keyed)(b:Nat)(l:List (Keyed×Nat)):Array Keyed:=l.foldl (λa x=>match x with | (p,j)=>a.setIfInBounds (b+j) p) xs
theorem Zp(b:Nat):∀(l:List Keyed) (o:Nat) (xs:Array Keyed),b+o+l.length<=xs.size->(Nr xs b (l.zipIdx o)).size=xs.size/\∀i:Nat,(Nr xs b (l.zipIdx o))[i]? = if b+o<=i/\i<b+o+l.length then l[i - (b+o)]? else xs[i]?
 | [],o,xs,_=>⟨rfl,λi=>by rw[if_neg (by rw[Gr]; omega)]; rfl⟩
 | x::l,o,xs,h=>by
  rw[Bp] at h
  have ih:=Zp b l (o+1) (xs.setIfInBounds (b+o) x) (by rw[iI]; omega)
  have e:Nr xs b ((x::l).zipIdx o)=Nr (xs.setIfInBounds (b+o) x) b (l.zipIdx (o+1)):=by
   rw[bN]
   rfl
  rw[e]
  refine ⟨ih.1.trans (iI),λi=>?_⟩
  rw[ih.2 i,Bp]
  by_cases h1:b+(o+1)<=i/\i<b+(o+1)+l.length
  ·rw[if_pos h1,if_pos (by omega)]
   rw[show i - (b+o)=(i - (b+(o+1)))+1 by omega,lJ]
  ·rw[if_neg h1]
   by_cases h2:i=b+o
   ·subst h2
    rw[if_pos (by omega),Array.getElem?_setIfInBounds_self_of_lt (by omega),Nat.sub_self]
    rfl
   ·rw[if_neg (by omega),Array.getElem?_setIfInBounds_ne (by omega)]
theorem nM{xs m:Array Keyed}(hb:b+n<=xs.size)(hn:m.size=n)(hp:m.toList.Perm ((xs.toList.drop b).take n)):(Nr xs b m.toList.zipIdx).Perm xs:=by
 have ha:=Zp b m.toList 0 xs (by rw[Bd]; omega)
 have e:(Nr xs b m.toList.zipIdx).toList=xs.toList.take b++(m.toList++xs.toList.drop (b+n)):=by
  apply Gk
  intro i
  have h1:=ha.2 i
  rw[Bd,hn] at h1
  have h2:(Nr xs b m.toList.zipIdx).toList[i]? = (Nr xs b m.toList.zipIdx)[i]?:=by simp
  rw[h2,h1]
  have lt:(xs.toList.take b).length=b:=by rw[Cv,Bd]; omega
  by_cases c1:i<b
  ·rw[if_neg (by omega),Ki (by omega),Ef c1]
   simp
  ·rw[Fj (by omega),lt]
   by_cases c2:i<b+n
   ·rw[if_pos (by omega),Ki (by rw[Bd]; omega)]
    congr 1
   ·rw[if_neg (by omega),Fj (by rw[Bd]; omega),Pm,Bd]
    rw[show b+n+(i - b - m.size)=i by omega]
    simp
 refine Array.perm_iff_toList_perm.mpr ?_
 rw[e]
 have e2:xs.toList=xs.toList.take b++((xs.toList.drop b).take n++xs.toList.drop (b+n)):=by
  conv=>lhs; rw[<- Hf b xs.toList]
  congr 1
  conv=>lhs; rw[<- Hf n (xs.toList.drop b)]
  rw[List.drop_drop]
 conv=>rhs; rw[e2]
 exact Lj _ (List.Perm.append_right _ hp)
theorem Wx(h:a+n<=xs.size)(hi:i<n):(xs.extract a (a+n))[i]? = some (X xs (a+i)):=by
 rw[Array.getElem?_extract,if_pos (by omega)]
 exact Xi (by omega)
theorem Se{xs:Array Keyed}(h:a+n<=xs.size):(xs.extract a (a+n)).size=n:=by
 rw[Array.size_extract]
 omega
theorem Wn(h:a+n<=xs.size)(hx:x∈(xs.extract a (a+n)).toList):∃i,i<n/\x=X xs (a+i):=by
 obtain ⟨i,hi,e⟩:=Hx.mp hx
 rw[Bd,Se h] at hi
 refine ⟨i,hi,?_⟩
 have h1:=Wx h hi
 have h2:(xs.extract a (a+n)).toList[i]? = some x:=by rw[<- e,<- Ap]
 rw[Mk,h1] at h2
 exact (Bl h2).symm
section
variable{prog:Bo}{w:World}{A:Cn}{s:Ai}{kd:Lq}{Ok:Keyed->Prop}{blt:Keyed->Keyed->Bool}{E:Value->Ai->Prop}{a₀:Array Keyed}{pend:Array (Nat×Nat×Nat)}
theorem bE(C:Cmp prog w A s kd Ok blt)(h:a+n<=xs.size)(hs:Rg blt xs c d)(h1:c<=a)(h2:a+n<=d):(xs.extract a (a+n)).toList.Pairwise (le blt):=by
 rw[Dx]
 intro i j hi hj hij
 rw[Bd,Se h] at hi hj
 have e1:(xs.extract a (a+n)).toList[i]? = some (X xs (a+i)):=by rw[Mk]; exact Wx h hi
 have e2:(xs.extract a (a+n)).toList[j]? = some (X xs (a+j)):=by rw[Mk]; exact Wx h hj
 obtain ⟨_,f1⟩:=Ah.mp e1
 obtain ⟨_,f2⟩:=Ah.mp e2
 rw[f1,f2]
 exact hs _ _ (by omega) (by omega) (by omega)
theorem iX(C:Cmp prog w A s kd Ok blt)(hab:a<b)(h1:Rg blt xs a b)(h2:Rg blt xs b c)(h:le blt (X xs (b - 1)) (X xs b)):Rg blt xs a c:=λi j i1 i2 j1=>by
 by_cases e1:j<b
 ·exact h1 i j i1 i2 e1
 ·by_cases e2:b<=i
  ·exact h2 i j e2 i2 j1
  ·exact C.trans (h1 i (b - 1) i1 (by omega) (by omega)) (C.trans h (h2 b j (Ak _) (by omega) j1))
structure Good0(kd:Lq)(a₀:Array Keyed)(st:Bt):Prop where
 kind:kindOf st=kd
 fail:Ko st=none
 perm:(arrOf st).Perm a₀
theorem Good0.size{st:Bt}(g:Good0 kd a₀ st):(arrOf st).size=a₀.size:=g.perm.size_eq
theorem Good0.okX{st:Bt}(g:Good0 kd a₀ st)(h0:∀x∈a₀.toList,Ok x)(hi:i<a₀.size):Ok (X (arrOf st) i):=by
 have e:=Xi (xs:=arrOf st) (i:=i) (by rw[g.size]; exact hi)
 exact h0 _ ((Pe.mp g.perm).mem_iff.mp (Jc e))
theorem yI{st:Bt}(g:Good0 kd a₀ st)(h0:∀x∈a₀.toList,Ok x)(h:b+n<=a₀.size):Row Ok (arrOf st) b n (λi=>X (arrOf st) (b+i)) :=
 ⟨λi hi=>Xi (by rw[g.size]; omega),λi hi=>g.okX h0 (by omega)⟩
theorem Y6{st st':Bt}{Q:Unit->Bt->Prop}(h:Q () st'):wpS (model prog w) A E s (set st':StateT Bt Sem Unit) Q st:=by
 unfold wpS
 rw[StateT.run_set]
 exact Ao ⟨rfl,h⟩
theorem lQ(C:Cmp prog w A s kd Ok blt){st:Bt}(g:Good0 kd a₀ st)(h0:∀x∈a₀.toList,Ok x)(hi:(Bj st)[i]? = some (sa,na,pa))(hj:(Bj st)[i+1]? = some (sb,nb,pb))(e1:sb=sa+na)(n1:1<=na)(n2:1<=nb)(hz:sb+nb<=a₀.size)(s1:Rg blt (arrOf st) sa sb)(s2:Rg blt (arrOf st) sb (sb+nb))(h:∀st',Good0 kd a₀ st'->Bj st'=((Bj st).setIfInBounds i (sa,na+nb,pa)).eraseIdxIfInBounds (i+1)->Rg blt (arrOf st') sa (sb+nb)->iF (arrOf st) (arrOf st') sa (sb+nb)->Q true st'):wpS (model prog w) A E s (Wb i) Q st:=by
 have hsz:(arrOf st).size=a₀.size:=g.size
 unfold Wb
 refine Be (Mu ?_)
 rw[hi,hj]
 dsimp only
 refine Be (Y6 ?_)
 refine Be (Fb (Xi (xs:=arrOf st) (i:=sb) (by rw[hsz]; omega)) ?_)
 show wpS (model prog w) A E s _ _ (Wt (kindOf st) (arrOf st) (((Bj st).setIfInBounds i (sa,na+nb,pa)).eraseIdxIfInBounds (i+1)) (gallopOf st) (Ko st))
 generalize hst1:Wt (kindOf st) (arrOf st) (((Bj st).setIfInBounds i (sa,na+nb,pa)).eraseIdxIfInBounds (i+1)) (gallopOf st) (Ko st)=st1
 have k1:kindOf st1=kd:=by rw[<- hst1]; exact g.kind
 have ar1:arrOf st1=arrOf st:=by rw[<- hst1]
 have pd1:Bj st1=((Bj st).setIfInBounds i (sa,na+nb,pa)).eraseIdxIfInBounds (i+1):=by rw[<- hst1]
 have fl1:Ko st1=none:=by rw[<- hst1]; exact g.fail
 have g1:Good0 kd a₀ st1:=⟨k1,fl1,by rw[ar1]; exact g.perm⟩
 have same:Good0 kd a₀ st1->Rg blt (arrOf st) sa (sb+nb)->Q true st1:=λgg as=>h st1 gg pd1 (by rw[ar1]; exact as) (by rw[ar1]; exact iF.refl _ _ _)
 refine Be (Ni C (hint:=0) (n:=na) (yI g h0 (b:=sa) (n:=na) (by omega)) (g.okX h0 (i:=sb) (by omega)) k1 (by omega) (λa c hac hc q1=>?_) λk kn t1 t2=>?_)
 ·simp only[Gp,Ca,if_false,Jn] at q1 ⊢
  exact C.trans (s1 _ _ (by omega) (by omega) (by omega)) q1
 dsimp only
 have f1:∀m,m<k->le blt (X (arrOf st) (sa+m)) (X (arrOf st) sb):=λm hm=>by
  have:=t1 m hm
  have z:blt (X (arrOf st) sb) (X (arrOf st) (sa+m))=false:=by simpa only [Gp,Ca,if_false,Jn] using this
  exact z
 by_cases c1:na - k=0
 ·rw[if_pos (by rw[c1]; rfl)]
  refine Bk (same g1 (iX C (by omega) s1 s2 ?_))
  have:=f1 (na - 1) (by omega)
  rw[show sa+(na - 1)=sb - 1 by omega] at this
  exact this
 rw[if_neg (λz=>c1 (Dw z))]
 have f2:blt (X (arrOf st) sb) (X (arrOf st) (sa+k))=true:=by
  have:=t2 k (Ak _) (by omega)
  simpa only [Gp,Ca,if_false,Xq] using this
 have el:sa+k+(na - k) - 1=sb - 1:=by omega
 rw[el]
 refine Be (Fb (Xi (xs:=arrOf st) (i:=sb - 1) (by rw[hsz]; omega)) ?_)
 refine Be (Ni C (hint:=nb - 1) (n:=nb) (yI g h0 (b:=sb) (n:=nb) (by omega)) (g.okX h0 (i:=sb - 1) (by omega)) k1 (by omega) (λa c hac hc q1=>?_) λl ln u1 u2=>?_)
 ·simp only[Gp,if_true] at q1 ⊢
  exact C.leLt (s2 _ _ (by omega) (by omega) (by omega)) q1
 dsimp only
 have f3:∀m,m<l->blt (X (arrOf st) (sb+m)) (X (arrOf st) (sb - 1))=true:=λm hm=>by
  have:=u1 m hm
  simpa only [Gp,if_true] using this
 have f4:∀m,l<=m->m<nb->le blt (X (arrOf st) (sb - 1)) (X (arrOf st) (sb+m)):=λm h1 h2=>by
  have:=u2 m h1 h2
  have z:blt (X (arrOf st) (sb+m)) (X (arrOf st) (sb - 1))=false:=by simpa only [Gp,if_true] using this
  exact z
 by_cases c2:l=0
 ·rw[if_pos (by rw[c2]; rfl)]
  subst c2
  exact Bk (same g1 (iX C (by omega) s1 s2 (f4 0 (Ak _) (by omega))))
 rw[if_neg (λz=>c2 (Dw z))]
 have ep:(arrOf st).extract (sa+k) sb=(arrOf st).extract (sa+k) (sa+k+(na - k)):=by rw[show sa+k+(na - k)=sb by omega]
 rw[ep]
 have hp:sa+k+(na - k)<=(arrOf st).size:=by omega
 have hq:sb+l<=(arrOf st).size:=by omega
 have T:Two Ok blt ((arrOf st).extract (sa+k) (sa+k+(na - k))) ((arrOf st).extract sb (sb+l)) (X (arrOf st) (sa+k)) (X (arrOf st) sb) (X (arrOf st) (sb - 1)):=by
  refine ⟨λx hx=>?_,λx hx=>?_,bE C hp s1 (by omega) (by omega),bE C hq s2 (by omega) (by omega),?_,?_,?_,f2,λy hy=>?_⟩
  ·obtain ⟨m,hm,rfl⟩:=Wn hp hx
   exact g.okX h0 (by omega)
  ·obtain ⟨m,hm,rfl⟩:=Wn hq hx
   exact g.okX h0 (by omega)
  ·exact Wx hp (by omega)
  ·exact Wx hq (by omega)
  ·rw[Se hp,Wx hp (by omega),show sa+k+(na - k - 1)=sb - 1 by omega]
  ·obtain ⟨m,hm,rfl⟩:=Wn hq hy
   exact f3 m hm
 -- Xg the merge
 have fin:∀(r:Array Keyed) (st2:Bt),Kept st1 st2->oT blt ((arrOf st).extract (sa+k) (sa+k+(na - k))) ((arrOf st).extract sb (sb+l)) r ->
   Q (Ko (setArr st2 (Nr (arrOf st2) (sa+k) r.toList.zipIdx))).isNone (setArr st2 (Nr (arrOf st2) (sa+k) r.toList.zipIdx)):=by
  intro r st2 kp hr
  have ar2:arrOf st2=arrOf st:=kp.arr.trans ar1
  have fl2:Ko st2=none:=kp.fail.trans fl1
  have rsz:r.size=na - k+l:=by
   have:=hr.1.length_eq
   rw[Bw,Bd,Bd,Bd,Se hp,Se hq] at this
   exact this
  have seg:((arrOf st).toList.drop (sa+k)).take (na - k+l)=((arrOf st).extract (sa+k) (sa+k+(na - k))).toList++((arrOf st).extract sb (sb+l)).toList:=by
   rw[Vq,Vq,List.take_add,List.drop_drop,show sa+k+(na - k)=sb by omega]
  have pa':=Zp (sa+k) r.toList 0 (arrOf st) (by rw[Bd]; omega)
  have xat:∀m,X (Nr (arrOf st) (sa+k) r.toList.zipIdx) m=if sa+k<=m/\m<sb+l then X r (m - (sa+k)) else X (arrOf st) m:=λm=>by
   have:=pa'.2 m
   rw[Bd,rsz,Nat.add_zero] at this
   by_cases hm:sa+k<=m/\m<sb+l
   ·rw[if_pos hm]
    rw[if_pos (by omega)] at this
    refine Qj (this.trans ?_)
    simp
   ·rw[if_neg hm]
    rw[if_neg (by omega)] at this
    exact Qj this
  -- each thing of the merged is one of the two runs'
  have from2:∀m,m<na - k+l->(∃c,sa+k<=c/\c<sb/\X r m=X (arrOf st) c)\/(∃c,sb<=c/\c<sb+l/\X r m=X (arrOf st) c):=λm hm=>by
   have hx:=Jc (Xi (xs:=r) (i:=m) (by omega))
   rcases Bg.mp (hr.1.mem_iff.mp hx) with z | z
   ·obtain ⟨c,hc,e⟩:=Wn hp z
    exact .inl ⟨sa+k+c,by omega,by omega,e⟩
   ·obtain ⟨c,hc,e⟩:=Wn hq z
    exact .inr ⟨sb+c,by omega,by omega,e⟩
  have rs:∀m n,m<=n->n<na - k+l->le blt (X r m) (X r n):=λm n hmn hn=>Km C hr.2 hmn (Ea (Xi (by omega))) (Ea (Xi (by omega)))
  have e3:Ko (setArr st2 (Nr (arrOf st2) (sa+k) r.toList.zipIdx))=none:=fl2
  rw[e3]
  refine h _ ⟨kp.kind.trans k1,e3,?_⟩ (kp.pend.trans pd1) ?_ ?_
  ·show (Nr (arrOf st2) (sa+k) r.toList.zipIdx).Perm a₀
   rw[ar2]
   refine (nM (by omega) rsz ?_).trans g.perm
   rw[seg]
   exact hr.1
  ·show Rg blt (Nr (arrOf st2) (sa+k) r.toList.zipIdx) sa (sb+nb)
   rw[ar2]
   intro c d c1 cd d1
   rw[xat,xat]
   by_cases zc:sa+k<=c/\c<sb+l
   ·rw[if_pos zc]
    by_cases zd:sa+k<=d/\d<sb+l
    ·rw[if_pos zd]
     exact rs _ _ (by omega) (by omega)
    ·rw[if_neg zd]
     rcases from2 (c - (sa+k)) (by omega) with ⟨b,b1,b2,e⟩ | ⟨b,b1,b2,e⟩
     ·rw[e]
      refine C.trans (s1 b (sb - 1) (by omega) (by omega) (by omega)) ?_
      have:=f4 (d - sb) (by omega) (by omega)
      rw[show sb+(d - sb)=d by omega] at this
      exact this
     ·rw[e]
      exact s2 b d b1 (by omega) (by omega)
   ·rw[if_neg zc]
    by_cases zd:sa+k<=d/\d<sb+l
    ·rw[if_pos zd]
     rcases from2 (d - (sa+k)) (by omega) with ⟨b,b1,b2,e⟩ | ⟨b,b1,b2,e⟩
     ·rw[e]
      exact s1 c b c1 (by omega) b2
     ·rw[e]
      have:=f1 (c - sa) (by omega)
      rw[show sa+(c - sa)=c by omega] at this
      exact C.trans this (s2 sb b (Ak _) b1 (by omega))
    ·rw[if_neg zd]
     by_cases y1:d<sb
     ·exact s1 c d c1 cd y1
     ·by_cases y2:sb<=c
      ·exact s2 c d y2 cd d1
      ·have:=f1 (c - sa) (by omega)
       rw[show sa+(c - sa)=c by omega] at this
       exact C.trans this (s2 sb d (Ak _) (by omega) d1)
  ·show iF (arrOf st) (Nr (arrOf st2) (sa+k) r.toList.zipIdx) sa (sb+nb)
   rw[ar2]
   intro m hm
   rw[xat,if_neg (by omega)]
 by_cases c3:na - k<=l
 ·rw[if_pos c3]
  refine Be (oA C T k1 λr st2 kp hr=>?_)
  exact Be (Jj (Be (Mu (Bk (fin r st2 kp hr)))))
 ·rw[if_neg c3]
  refine Be (mT C T k1 λr st2 kp hr=>?_)
  exact Be (Jj (Be (Mu (Bk (fin r st2 kp hr)))))
end
def eE:StateT Bt Sem Unit:=sortPriv% PySem.Builtin.sortRuns
def Runs(blt:Keyed->Keyed->Bool)(xs:Array Keyed):List (Nat×Nat×Nat)->Nat->Nat->Prop
 | [],a,b=>a=b
 | (s,n,_)::r,a,b=>s=a/\1<=n/\Rg blt xs a (a+n)/\Runs blt xs r (a+n) b
variable{blt:Keyed->Keyed->Bool}
theorem Runs.len:∀{l:List (Nat×Nat×Nat)} {a b:Nat},Runs blt xs l a b->a+l.length<=b
 | [],a,b,h=>by
  have e:a=b:=h
  rw[Gr]
  omega
 | (s,n,p)::r,a,b,h=>by
  have:=Runs.len h.2.2.2
  have:=h.2.1
  rw[Bp]
  omega
theorem Rg.out(h:Rg blt xs a b)(o:iF xs ys c d)(e:b<=c\/d<=a):Rg blt ys a b:=λi j i1 i2 j1=>by
 rw[o i (by omega),o j (by omega)]
 exact h i j i1 i2 j1
theorem Runs.out(o:iF xs ys c d):∀{l:List (Nat×Nat×Nat)} {a b:Nat},(b<=c\/d<=a)->Runs blt xs l a b->Runs blt ys l a b
 | [],_,_,_,h=>h
 | (s,n,p)::r,a,b,e,h=>by
  have hl:=Runs.len h.2.2.2
  exact ⟨h.1,h.2.1,h.2.2.1.out o (by omega),Runs.out o (by omega) h.2.2.2⟩
theorem Runs.push(hm:1<=m):∀{l:List (Nat×Nat×Nat)} {a b:Nat},Runs blt xs l a b->Rg blt xs b (b+m)->Runs blt xs (l++[(b,m,q)]) a (b+m)
 | [],a,b,h,hs=>by
  have e:a=b:=h
  subst e
  exact ⟨rfl,hm,hs,rfl⟩
 | (s,n,p)::r,a,b,h,hs=>⟨h.1,h.2.1,h.2.2.1,Runs.push hm h.2.2.2 hs⟩
theorem Runs.power:∀{l:List (Nat×Nat×Nat)} {a b:Nat} (k:Nat),Runs blt xs l a b->Runs blt xs (l.modify k λx=>(x.1,x.2.1,pw)) a b
 | [],_,_,k,h=>by simpa using h
 | (s,n,p)::r,a,b,0,h=>by
  rw[List.modify_zero_cons]
  exact h
 | (s,n,p)::r,a,b,k+1,h=>by
  rw[List.modify_succ_cons]
  exact ⟨h.1,h.2.1,h.2.2.1,Runs.power k h.2.2.2⟩
theorem Runs.two:∀{l:List (Nat×Nat×Nat)} {a b i sa na pa sb nb pb:Nat},Runs blt xs l a b->l[i]? = some (sa,na,pa)->l[i+1]? = some (sb,nb,pb)->sb=sa+na/\1<=na/\1<=nb/\a<=sa/\sb+nb<=b/\Rg blt xs sa sb/\Rg blt xs sb (sb+nb)
 | [],_,_,_,_,_,_,_,_,_,_,h,_=>by simp at h
 | (s,n,p)::r,a,b,0,sa,na,pa,sb,nb,pb,h,h1,h2=>by
  obtain ⟨e,hn,hs,hr⟩:=h
  have q:s=sa/\n=na/\p=pa:=by simpa using h1
  obtain ⟨q1,q2,q3⟩:=q
  subst q1 q2 q3
  subst e
  cases r with
  | nil=>simp at h2
  | cons y r' =>
   obtain ⟨s',n',p'⟩:=y
   have q':s'=sb/\n'=nb/\p'=pb:=by simpa using h2
   obtain ⟨q1,q2,q3⟩:=q'
   subst q1 q2 q3
   obtain ⟨e',hn',hs',hr'⟩:=hr
   have:=Runs.len hr'
   exact ⟨e',hn,hn',Ak _,by omega,by rw[e']; exact hs,by rw[e']; exact hs'⟩
 | (s,n,p)::r,a,b,i+1,sa,na,pa,sb,nb,pb,h,h1,h2=>by
  have:=Runs.two h.2.2.2 (by simpa using h1) (by simpa using h2)
  exact ⟨this.1,this.2.1,this.2.2.1,by have:=this.2.2.2.1; have:=h.2.1; omega,this.2.2.2.2.1,this.2.2.2.2.2⟩
theorem Runs.merge:∀{l:List (Nat×Nat×Nat)} {a b i sa na pa sb nb pb:Nat},Runs blt xs l a b->l[i]? = some (sa,na,pa)->l[i+1]? = some (sb,nb,pb)->iF xs ys sa (sb+nb)->Rg blt ys sa (sb+nb)->Runs blt ys ((l.set i (sa,na+nb,pa)).eraseIdx (i+1)) a b
 | [],_,_,_,_,_,_,_,_,_,_,h,_,_,_=>by simp at h
 | (s,n,p)::r,a,b,0,sa,na,pa,sb,nb,pb,h,h1,h2,o,as=>by
  have tw:=Runs.two h h1 h2
  obtain ⟨e,hn,hs,hr⟩:=h
  have q:s=sa/\n=na/\p=pa:=by simpa using h1
  obtain ⟨q1,q2,q3⟩:=q
  subst q1 q2 q3
  subst e
  cases r with
  | nil=>simp at h2
  | cons y r' =>
   obtain ⟨s',n',p'⟩:=y
   have q':s'=sb/\n'=nb/\p'=pb:=by simpa using h2
   obtain ⟨q1,q2,q3⟩:=q'
   subst q1 q2 q3
   obtain ⟨e',hn',hs',hr'⟩:=hr
   rw[List.set_cons_zero,Rf,List.eraseIdx_cons_zero]
   refine ⟨rfl,by omega,?_,?_⟩
   ·rw[show s+(n+n')=s'+n' by omega]
    exact as
   ·rw[show s+(n+n')=s+n+n' by omega]
    exact Runs.out o (.inr (by omega)) hr'
 | (s,n,p)::r,a,b,i+1,sa,na,pa,sb,nb,pb,h,h1,h2,o,as=>by
  have tw:=Runs.two (i:=i) h.2.2.2 (by simpa using h1) (by simpa using h2)
  rw[Pk,Rf]
  exact ⟨h.1,h.2.1,h.2.2.1.out o (.inl tw.2.2.2.1),Runs.merge h.2.2.2 (by simpa using h1) (by simpa using h2) o as⟩
theorem cV(P:Array (Nat×Nat×Nat))(i:Nat)(v:Nat×Nat×Nat):((P.setIfInBounds i v).eraseIdxIfInBounds (i+1)).toList=(P.toList.set i v).eraseIdx (i+1):=by
 rw[Array.toList_eraseIdxIfInBounds,Array.toList_setIfInBounds]
section
variable{prog:Bo}{w:World}{A:Cn}{s:Ai}{kd:Lq}{Ok:Keyed->Prop}{E:Value->Ai->Prop}{a₀:Array Keyed}
theorem On[Decidable c]{p q:StateT Bt Sem α}{Q:α->Bt->Prop}{st:Bt}(h1:c->wpS (model prog w) A E s p Q st)(h2:¬ c->wpS (model prog w) A E s q Q st):wpS (model prog w) A E s (if c then p else q) Q st:=by
 by_cases h:c
 ·rw[if_pos h]; exact h1 h
 ·rw[if_neg h]; exact h2 h
theorem iA(C:Cmp prog w A s kd Ok blt){st:Bt}(g:Good0 kd a₀ st)(h0:∀x∈a₀.toList,Ok x){lo i:Nat}(hlo:lo<=a₀.size)(rn:Runs blt (arrOf st) (Bj st).toList 0 lo)(hi:i+1<(Bj st).size)(h:∀st',Good0 kd a₀ st'->Runs blt (arrOf st') (Bj st').toList 0 lo->(Bj st').size+1=(Bj st).size->(∀c d,lo<=c->Rg blt (arrOf st) c d->Rg blt (arrOf st') c d)->Q true st'):wpS (model prog w) A E s (Wb i) Q st:=by
 obtain ⟨⟨sa,na,pa⟩,ha⟩ : ∃x,(Bj st)[i]? = some x:=⟨(Bj st)[i],by simp⟩
 obtain ⟨⟨sb,nb,pb⟩,hb⟩ : ∃x,(Bj st)[i+1]? = some x:=⟨(Bj st)[i+1],by simp⟩
 have la:(Bj st).toList[i]? = some (sa,na,pa):=by simpa using ha
 have lb:(Bj st).toList[i+1]? = some (sb,nb,pb):=by simpa using hb
 obtain ⟨t1,t2,t3,t4,t5,t6,t7⟩:=rn.two la lb
 refine lQ C g h0 ha hb t1 t2 t3 (by omega) t6 t7 λst' g' pd as ou=>?_
 refine h st' g' ?_ ?_ λc d hc hs=>hs.out ou (.inr (by omega))
 ·rw[pd,cV]
  exact rn.merge la lb ou as
 ·have : (Bj st').toList.length+1=(Bj st).toList.length:=by
   rw[pd,cV,List.length_eraseIdx,List.length_set,Bd,if_pos hi]
   omega
  simpa using this
theorem u4{st:Bt}(g:Good0 kd a₀ st):Good kd a₀ (Bj st) st:=⟨g.kind,g.fail,g.perm,rfl⟩
theorem kI{st:Bt}(g:Good kd a₀ p st):Good0 kd a₀ st:=⟨g.kind,g.fail,g.perm⟩
theorem dD(C:Cmp prog w A s kd Ok blt){st:Bt}(g:Good0 kd a₀ st)(h0:∀x∈a₀.toList,Ok x)(hp:Bj st=#[])(hz:1<=a₀.size)(h:∀st',Good0 kd a₀ st'->Rg blt (arrOf st') 0 a₀.size->Q () st'):wpS (model prog w) A E s eE Q st:=by
 unfold eE
 refine Be (Mu ?_)
 have hsz:(arrOf st).size=a₀.size:=g.size
 dsimp only
 rw[hsz]
 generalize (sortPriv% PySem.Builtin.minRun) a₀.size a₀.size 0=mr
 refine Be (Gy (Ee
  (I:=λx c st'=>∃lo,c=(none,lo)/\Good0 kd a₀ st'/\Runs blt (arrOf st') (Bj st').toList 0 lo/\lo<=a₀.size/\x<=lo)
  (Q:=λc st'=>c=(none,a₀.size)/\Good0 kd a₀ st'/\Runs blt (arrOf st') (Bj st').toList 0 a₀.size) ?_ ?_ ⟨0,rfl,g,by rw[hp]; exact rfl,by omega,by omega⟩) ?_)
 ·(intro x c st1 _ hx q_; obtain ⟨lo,rfl,g1,rn,hlo,hxl⟩ := q_)
  dsimp only
  by_cases hge:lo ≥ a₀.size
  ·rw[if_pos hge]
   have e:lo=a₀.size:=by omega
   subst e
   exact Bk ⟨rfl,g1,rn⟩
  rw[if_neg hge]
  refine Be (xA C (u4 g1) h0 (lo:=lo) (b:=a₀.size - lo) (by omega) (by omega) λm st2 g2 m1 m2 as ou=>?_)
  dsimp only
  have rn2:Runs blt (arrOf st2) (Bj st2).toList 0 lo:=by
   rw[g2.pd]
   exact rn.out ou (.inl (Ak _))
  have g2':=kI g2
  clear rn g1
  refine On (λhmin=>?_) (λhmin=>?_)
  ·refine Be (Ti ?_)
   refine Be (sU C g2 h0 (lo:=lo) (n:=min (a₀.size - lo) mr) (ok:=m) (by omega) as (by omega) λst3 g3 as3 ou3=>?_)
   refine On (λz=>absurd z (by decide)) (λ_=>?_)
   have n1:1<=min (a₀.size - lo) mr:=by omega
   have n2:lo+min (a₀.size - lo) mr<=a₀.size:=by omega
   have rn3:Runs blt (arrOf st3) (Bj st3).toList 0 lo:=by
    rw[g3.pd,<- g2.pd]
    exact rn2.out ou3 (.inl (Ak _))
   have g3':=kI g3
   generalize min (a₀.size - lo) mr=n at as3 n1 n2
   clear g2 g2' rn2 as ou ou3 g3 m1 m2 hmin
   refine Be (Mu ?_)
   cases hb:(Bj st3).back? with
   | none =>
    dsimp only
    refine Be (Jj ?_)
    refine Bk ⟨lo+n,rfl,⟨g3'.kind,g3'.fail,g3'.perm⟩,?_,n2,by omega⟩
    show Runs blt (arrOf st3) ((Bj st3).push (lo,n,0)).toList 0 (lo+n)
    rw[Ls]
    exact rn3.push n1 as3
   | some y =>
    obtain ⟨s1,l1,p1⟩:=y
    dsimp only
    refine Be (Gy (Ee
     (I:=λ_ c st'=>c=(none,())/\Good0 kd a₀ st'/\Runs blt (arrOf st') (Bj st').toList 0 lo/\Rg blt (arrOf st') lo (lo+n))
     (Q:=λc st'=>c=(none,())/\Good0 kd a₀ st'/\Runs blt (arrOf st') (Bj st').toList 0 lo/\Rg blt (arrOf st') lo (lo+n)) ?_ (λ_ _ z=>z) ⟨rfl,g3',rn3,as3⟩) ?_)
    ·(intro z c st4 _ _ q_; obtain ⟨rfl,g4,rn4,as4⟩ := q_)
     refine Be (Mu ?_)
     by_cases hs1:(Bj st4).size > 1
     ·rw[if_pos hs1]
      obtain ⟨⟨a1,b1,older⟩,ho⟩ : ∃x,(Bj st4)[(Bj st4).size - 2]? = some x:=⟨(Bj st4)[(Bj st4).size - 2],by simp⟩
      rw[ho]
      dsimp only
      refine On (λ_=>Bk ⟨rfl,g4,rn4,as4⟩) (λ_=>?_)
      refine Be (iA C g4 h0 hlo rn4 (i:=(Bj st4).size - 2) (show (Bj st4).size - 2+1<(Bj st4).size by omega) λst5 g5 rn5 _ keep=>?_)
      refine On (λz=>absurd z (by decide)) (λ_=>?_)
      exact Bk ⟨rfl,g5,rn5,keep _ _ (Ak _) as4⟩
     ·rw[if_neg hs1]
      exact Bk ⟨rfl,g4,rn4,as4⟩
    ·(intro c st4 q_; obtain ⟨rfl,g4,rn4,as4⟩ := q_)
     dsimp only
     refine Be (Jj ?_)
     refine Be (Jj ?_)
     refine Bk ⟨lo+n,rfl,⟨g4.kind,g4.fail,g4.perm⟩,?_,n2,by omega⟩
     show Runs blt (arrOf st4) (((Bj st4).modify ((Bj st4).size - 1) _).push (lo,n,0)).toList 0 (lo+n)
     rw[Ls,Array.toList_modify]
     exact (rn4.power _).push n1 as4
  ·have n2:lo+m<=a₀.size:=by omega
   refine Be (Mu ?_)
   cases hb:(Bj st2).back? with
   | none =>
    dsimp only
    refine Be (Jj ?_)
    refine Bk ⟨lo+m,rfl,⟨g2'.kind,g2'.fail,g2'.perm⟩,?_,n2,by omega⟩
    show Runs blt (arrOf st2) ((Bj st2).push (lo,m,0)).toList 0 (lo+m)
    rw[Ls]
    exact rn2.push m1 as
   | some y =>
    obtain ⟨s1,l1,p1⟩:=y
    dsimp only
    refine Be (Gy (Ee
     (I:=λ_ c st'=>c=(none,())/\Good0 kd a₀ st'/\Runs blt (arrOf st') (Bj st').toList 0 lo/\Rg blt (arrOf st') lo (lo+m))
     (Q:=λc st'=>c=(none,())/\Good0 kd a₀ st'/\Runs blt (arrOf st') (Bj st').toList 0 lo/\Rg blt (arrOf st') lo (lo+m)) ?_ (λ_ _ z=>z) ⟨rfl,g2',rn2,as⟩) ?_)
    ·(intro z c st4 _ _ q_; obtain ⟨rfl,g4,rn4,as4⟩ := q_)
     refine Be (Mu ?_)
     by_cases hs1:(Bj st4).size > 1
     ·rw[if_pos hs1]
      obtain ⟨⟨a1,b1,older⟩,ho⟩ : ∃x,(Bj st4)[(Bj st4).size - 2]? = some x:=⟨(Bj st4)[(Bj st4).size - 2],by simp⟩
      rw[ho]
      dsimp only
      refine On (λ_=>Bk ⟨rfl,g4,rn4,as4⟩) (λ_=>?_)
      refine Be (iA C g4 h0 hlo rn4 (i:=(Bj st4).size - 2) (show (Bj st4).size - 2+1<(Bj st4).size by omega) λst5 g5 rn5 _ keep=>?_)
      refine On (λz=>absurd z (by decide)) (λ_=>?_)
      exact Bk ⟨rfl,g5,rn5,keep _ _ (Ak _) as4⟩
     ·rw[if_neg hs1]
      exact Bk ⟨rfl,g4,rn4,as4⟩
    ·(intro c st4 q_; obtain ⟨rfl,g4,rn4,as4⟩ := q_)
     dsimp only
     refine Be (Jj ?_)
     refine Be (Jj ?_)
     refine Bk ⟨lo+m,rfl,⟨g4.kind,g4.fail,g4.perm⟩,?_,n2,by omega⟩
     show Runs blt (arrOf st4) (((Bj st4).modify ((Bj st4).size - 1) _).push (lo,m,0)).toList 0 (lo+m)
     rw[Ls,Array.toList_modify]
     exact (rn4.power _).push m1 as4
 ·(intro c st1 q_; obtain ⟨lo,rfl,g1,rn,hlo,hxl⟩ := q_)
  have : max 0 a₀.size=a₀.size:=by omega
  rw[this] at hxl
  have e:lo=a₀.size:=by omega
  subst e
  exact ⟨rfl,g1,rn⟩
 ·(intro c st1 q_; obtain ⟨rfl,g1,rn⟩ := q_)
  dsimp only
  have len0:=Runs.len rn
  rw[Bd] at len0
  refine Be (Gy (Ee
   (I:=λx c st'=>c=(none,())/\Good0 kd a₀ st'/\Runs blt (arrOf st') (Bj st').toList 0 a₀.size/\((Bj st').size<=1\/(Bj st').size+x<=a₀.size))
   (Q:=λc st'=>c=(none,())/\Good0 kd a₀ st'/\Runs blt (arrOf st') (Bj st').toList 0 a₀.size/\(Bj st').size<=1) ?_ ?_ ⟨rfl,g1,rn,.inr (by omega)⟩) ?_)
  ·(intro x c st2 _ hx q_; obtain ⟨rfl,g2,rn2,hs⟩ := q_)
   refine Be (Mu ?_)
   refine On (λh1=>Bk ⟨rfl,g2,rn2,h1⟩) (λh1=>?_)
   have h1':¬ (Bj st2).size<=1:=h1
   generalize hB:Option.any _ _=bb
   have key:∀i,i+1<(Bj st2).size->wpS (model prog w) A E s (Wb i) (λr st3=>r=true/\Good0 kd a₀ st3/\Runs blt (arrOf st3) (Bj st3).toList 0 a₀.size/\(Bj st3).size+1=(Bj st2).size) st2 :=
    λi hi=>iA C g2 h0 (Ak _) rn2 hi λst3 g3 rn3 sz _=>⟨rfl,g3,rn3,sz⟩
   refine Be (Gy (key _ ?_) λr st3 ⟨er,g3,rn3,sz⟩=>?_)
   ·cases bb with
    | true=>show (Bj st2).size - 2 - 1+1<(Bj st2).size; omega
    | false=>show (Bj st2).size - 2+1<(Bj st2).size; omega
   subst er
   refine On (λz=>absurd z (by decide)) (λ_=>?_)
   exact Bk ⟨rfl,g3,rn3,.inr (by omega)⟩
  ·(intro c st2 q_; obtain ⟨rfl,g2,rn2,hs⟩ := q_)
   have : max 0 a₀.size=a₀.size:=by omega
   rw[this] at hs
   exact ⟨rfl,g2,rn2,by omega⟩
  ·(intro c st2 q_; obtain ⟨rfl,g2,rn2,hs⟩ := q_)
   dsimp only
   refine Bk (h st2 g2 ?_)
   generalize hl:(Bj st2).toList=l at rn2
   have hll:l.length<=1:=by rw[<- hl,Bd]; exact hs
   match l,rn2,hll with
   | [],rn2,_ =>
    have e:0=a₀.size:=rn2
    omega
   | [(s1,n1,p1)],rn2,_ =>
    obtain ⟨_,_,as,e⟩:=rn2
    have e':0+n1=a₀.size:=e
    rw[e'] at as
    exact as
end
end Ts
namespace Ts
open PySem PyProof.Rows L2
theorem Za:∀l:List Int,HT.lexLt l l=false
 | []=>rfl
 | x::r=>by rw[HT.lexLt_cons,if_pos rfl]; exact Za r
theorem fK:∀{a b c:List Int},HT.lexLt a b=true->HT.lexLt b c=true->HT.lexLt a c=true
 | [],[],_,h,_=>by rw[HT.lexLt_nil_nil] at h; cases h
 | [],_::_,[],_,h=>by rw[HT.lexLt_cons_nil] at h; cases h
 | [],_::_,_::_,_,_=>HT.lexLt_nil_cons _ _
 | _::_,[],_,h,_=>by rw[HT.lexLt_cons_nil] at h; cases h
 | _::_,_::_,[],_,h=>by rw[HT.lexLt_cons_nil] at h; cases h
 | x::a,y::b,z::c,h1,h2=>by
  rw[HT.lexLt_cons] at h1 h2 ⊢
  by_cases e1:x=y
  ·subst e1
   rw[if_pos rfl] at h1
   by_cases e2:x=z
   ·subst e2
    rw[if_pos rfl] at h2 ⊢
    exact fK h1 h2
   ·rw[if_neg e2] at h2 ⊢
    exact h2
  ·rw[if_neg e1] at h1
   have l1:x<y:=of_decide_eq_true h1
   by_cases e2:y=z
   ·subst e2
    rw[if_neg e1]
    exact h1
   ·rw[if_neg e2] at h2
    have l2:y<z:=of_decide_eq_true h2
    rw[if_neg (by omega)]
    exact decide_eq_true (by omega)
theorem gF:∀{a b:List Int},HT.lexLt a b=false->HT.lexLt b a=false->a=b
 | [],[],_,_=>rfl
 | [],_::_,h,_=>by rw[HT.lexLt_nil_cons] at h; cases h
 | _::_,[],_,h=>by rw[HT.lexLt_nil_cons] at h; cases h
 | x::a,y::b,h1,h2=>by
  rw[HT.lexLt_cons] at h1 h2
  by_cases e:x=y
  ·subst e
   rw[if_pos rfl] at h1 h2
   rw[gF h1 h2]
  ·rw[if_neg e] at h1
   rw[if_neg (Pj e)] at h2
   have l1:=of_decide_eq_false h1
   have l2:=of_decide_eq_false h2
   omega
theorem F6(h:HT.lexLt a c=true):HT.lexLt a b=true\/HT.lexLt b c=true:=by
 cases h1:HT.lexLt a b with
 | true=>exact .inl rfl
 | false =>
  cases h2:HT.lexLt b a with
  | true=>exact .inr (fK h2 h)
  | false =>
   rw[<- gF h1 h2]
   exact .inr h
def GC(c:Addr->List Int)(x:Keyed):List Int:=match x.1 with
 | .ref a=>c a
 | _=>[]
def FX(c:Addr->List Int)(x y:Keyed):Bool:=HT.lexLt (GC c x) (GC c y)
def sO(c:Addr->List Int)(rs:List Addr)(h:Heap):Prop:=∀r∈rs,∃its:List Value,Ey its (c r)/\IsTup h r its.toArray
section
variable{prog:Bo}{w:World}{A:Cn}{E:Value->Ai->Prop}{s:Ai}{c:Addr->List Int}{rs:List Addr}
theorem sZ(hH:sO c rs s.heap)(hu:A.units<cLine)(ha:a∈rs)(hb:b∈rs)(h:Q (HT.lexLt (c a) (c b)) s):wpAny (model prog w) A (oneLt' true (.ref a) (.ref b)) Q E s:=by
 obtain ⟨i1,t1,⟨c1,d1,dt1,sl1⟩,g1,k1,n1,e1⟩:=hH a ha
 obtain ⟨i2,t2,⟨c2,d2,dt2,sl2⟩,g2,k2,n2,e2⟩:=hH b hb
 simp only at k1 e1 k2 e2
 subst k1 e1 k2 e2
 rw[oneLt'_eq]
 simp only[if_true]
 refine Ab (wpAny_cRoomFor hu (Ab (wpAny_callSpecialIfBound?_slot ⟨_,g1,rfl⟩ PySem.F.slot_tuple_lt ?_)))
 refine call_meets PySem.F.slot_tuple_lt ⟨_,g1,rfl⟩ PySem.F.entry_tuple_lt (PySem.F.args_tuple_lt_2 _ _) (HT.tuple_lt_ints a b _ _ n1 n2 d1 d2 sl1 sl2 (c a) (c b) (by simpa using t1) (by simpa using t2)) ⟨g1,g2,?_⟩
 exact Gv h
theorem B9(hH:sO c rs s.heap)(hu:A.units<cLine):Cmp prog w A s Uh (λx=>∃r∈rs,x.1=.ref r) (FX c) where
 run:=λx y Q E ⟨r,hr,ex⟩ ⟨r',hr',ey⟩ h=>by
  obtain ⟨x1,x2⟩:=x
  obtain ⟨y1,y2⟩:=y
  simp only at ex ey
  subst ex ey
  rw[keyLt'_oneType]
  exact sZ hH hu hr hr' h
 irr:=λx=>Za _
 tr:=λx y z h1 h2=>fK h1 h2
 neg:=λx y z h=>F6 h
theorem Zw:∀{l:List Addr} {Q:List (Option Value)->Ai->Prop},(∀r∈l,∃its:List Value,Ey its (c r)/\IsTup s.heap r its.toArray)->(∀fs:List (Option Value),fs.length=l.length->(∀(i:Nat) (r:Addr),l[i]? = some r->∃f,fs[i]? = some f/\(f.isSome=true↔c r≠[]))->Q fs s)->wpAny (model prog w) A ((l.map Bc).mapM bM) Q E s
 | [],Q,_,h=>by
  rw[Kf,List.mapM_nil]
  exact Ao (h [] rfl λi r e=>by simp at e)
 | r::l,Q,hH,h=>by
  obtain ⟨its,ti,o,g,k,n,e⟩:=hH r Aa
  rw[Ar,List.mapM_cons]
  have one:∀{R:Option Value->Ai->Prop},R its.toArray[0]? s->wpAny (model prog w) A (bM (.ref r)) R E s:=λ{R} hR=>by
   unfold bM
   refine Ab (Vi (T := "tuple") ⟨o,g,k⟩ ?_)
   rw[if_neg (by simp)]
   exact Ab (eQ g e (Ao hR))
  refine Ab (one (Ab (Zw (λr' hr'=>hH r' (Ae _ hr')) λfs hl hf=>Ao (h _ (by rw[Bp,Bp,hl]) λi r' er=>?_))))
  cases i with
  | zero =>
   have e':r=r':=by simpa using er
   subst e'
   refine ⟨_,rfl,?_⟩
   have hlen:=ti.length
   cases its with
   | nil =>
    cases hc:c r with
    | nil=>simp
    | cons _ _=>rw[hc] at hlen; simp at hlen
   | cons a b =>
    cases hc:c r with
    | nil=>rw[hc] at hlen; simp at hlen
    | cons _ _=>simp
  | succ i =>
   obtain ⟨f,h1,h2⟩:=hf i r' (by simpa using er)
   exact ⟨f,by simpa using h1,h2⟩
theorem eB:∀{l:List Addr} {Q:List Value->Ai->Prop},(∀r∈l,∃its:List Value,Ey its (c r)/\IsTup s.heap r its.toArray)->Q (l.map λ_=>Hy "tuple") s->wpAny (model prog w) A ((l.map Bc).mapM typeOf) Q E s
 | [],Q,_,h=>by
  rw[Kf,List.mapM_nil]
  exact Ao h
 | r::l,Q,hH,h=>by
  obtain ⟨its,ti,o,g,k,n,e⟩:=hH r Aa
  rw[Ar,List.mapM_cons]
  exact Ab (Vi (T := "tuple") ⟨o,g,k⟩ (Ab (eB (λr' hr'=>hH r' (Ae _ hr')) (Ao h))))
theorem yE(hH:sO c (r::l) s.heap)(h0:c r=[])(h:Q Uh s):wpAny (model prog w) A (keyKind' ((r::l).map Bc).toArray) Q E s:=by
 rw[keyKind'_eq,List.mapM_toArray]
 refine Ab ?_
 show wpAny (model prog w) A (List.toArray <$> ((r::l).map Bc).mapM bM) _ E s
 rw[map_eq_pure_bind]
 refine Ab (Zw hH λfs hl hf=>Ao ?_)
 obtain ⟨f,h1,h2⟩:=hf 0 r rfl
 have fn:f=none:=by
  cases f with
  | none=>rfl
  | some v=>exact absurd h0 (h2.mp rfl)
 subst fn
 have na:¬ (fs.toArray.all λx=>x.isSome)=true:=by
  intro z
  have:=Array.all_eq_true'.mp z none (by
   have:=Au h1
   simpa using this)
  simp at this
 have n0:¬ (fs.toArray[0]?.bind id).isSome=true:=by
  rw[Ub,h1]
  simp
 rw[if_neg na,if_neg n0,oneTypeOnly'_eq,List.mapM_toArray]
 refine Ab (Ab ?_)
 show wpAny (model prog w) A (List.toArray <$> ((r::l).map Bc).mapM typeOf) _ E s
 rw[map_eq_pure_bind]
 refine Ab (eB hH (Ao ?_))
 have e0:((r::l).map λ_=>Hy "tuple").toArray[0]? = some (Hy "tuple"):=by simp
 have ea:(((r::l).map λ_=>Hy "tuple").toArray.all λx=>x == Hy "tuple")=true:=by
  simp only[List.all_toArray,Yx,bQ]
  intro _ _
  rfl
 rw[e0]
 dsimp only
 rw[ea,if_pos rfl]
 exact Ao (Ao h)
theorem tL(hl:s.heap.get? a=some (Cw "list" (rs.map Bc).toArray n))(hH:sO c rs s.heap)(h0:∀r l,rs=r::l->c r=[])(hu:A.units<cLine)(hz:rs.length<=Av)(h:∀rs':List Addr,rs'.Perm rs->rs'.Pairwise (λx y=>HT.lexLt (c y) (c x)=false)->P (.done (.ret .none)) { s with heap:=sortedHeap s.heap a (rs.map Bc) (rs'.map Bc).toArray }):wpAny (model prog w) A (Builtin.«list.sort» ⟨[.ref a],[]⟩) P E s:=by
 have lt:=Ba hl
 have hsz:(rs.map Bc).toArray.size=rs.length:=by simp
 rw[list_sort_plain]
 refine Ab (eQ hl rfl (Ab (Lo hl rfl ?_ (by rw[hsz]; exact hz))))
 obtain ⟨ep,hl1⟩ : ∃ep,(s.heap.update a (Cg λ_=>#[])).get? a=some (Cw "list" #[] ep):=⟨_,Ju hl (λ_=>#[])⟩
 refine Ab (Yd hl1 rfl (Ab (Yb (Ab (Tr (Df ?_)) ))))
 have hl2:(((s.heap.update a (Cg λ_=>#[])).push (Cw "tuple" (rs.map Bc).toArray 0)).push (Cw "list" #[] 0)).get? a=some (Cw "list" #[] ep):=by
  rw[Heap.get?_push_ne _ _ _ (by rw[Ra,Il]; exact By (Zl lt)),
   Heap.get?_push_ne _ _ _ (by rw[Il]; exact By lt)]
  exact hl1
 have kept:∀b o,b≠a->s.heap.get? b=some o->(((s.heap.update a (Cg λ_=>#[])).push (Cw "tuple" (rs.map Bc).toArray 0)).push (Cw "list" #[] 0)).get? b=some o:=λb o hb e=>by
  refine Af _ (Af _ ?_)
  exact ((Cf s.heap a _).2 b hb).trans e
 have hH2:sO c rs (((s.heap.update a (Cg λ_=>#[])).push (Cw "tuple" (rs.map Bc).toArray 0)).push (Cw "list" #[] 0)):=λr hr=>by
  obtain ⟨its,t1,o,g1,k1,m1,e1⟩:=hH r hr
  refine ⟨its,t1,o,kept r o ?_ g1,k1,m1,e1⟩
  rintro rfl
  rw[hl] at g1
  cases g1
  exact absurd k1 (by simp)
 show wpAny (model prog w) A _ P E { s with heap:=((s.heap.update a (Cg λ_=>#[])).push (Cw "tuple" (rs.map Bc).toArray 0)).push (Cw "list" #[] 0) }
 dsimp only
 -- what is left Xg the runs
 have fin:∀(out:Array Value) (rs':List Addr),out=(rs'.map Bc).toArray->rs'.Perm rs->rs'.Pairwise (λx y=>HT.lexLt (c y) (c x)=false) ->
   P (.done (.ret .none)) { s with heap:=sortedHeap s.heap a (rs.map Bc) out }:=λout rs' e p1 p2=>by rw[e]; exact h rs' p1 p2
 by_cases h2:(rs.map Bc).toArray.size<2
 ·rw[if_pos h2,if_pos h2]
  refine Ab (Ao ?_)
  rw[StateT.run_pure]
  refine Ab (Ao (Ab (Yd hl2 rfl (Ab (Lo hl2 rfl ?_ (by simp) ?_)))))
  ·simp only[bne_self_eq_false,Ca,if_false]
   refine Ao (fin _ rs ?_ (Rh _) ?_)
   ·show Array.map (λx=>x.2) ((rs.map Bc).toArray.zip (rs.map Bc).toArray)=_
    apply Array.ext'
    simp [List.map_snd_zip]
   ·rw[hsz] at h2
    match rs,h2 with
    | [],_=>exact Kk
    | [_],_=>exact Le _ _
    | _::_::_,h2=>simp only[Bp] at h2; omega
  ·show (Array.map (λx:Keyed=>x.2) ((rs.map Bc).toArray.zip (rs.map Bc).toArray)).size<=Av+1
   rw[Array.size_map,Array.size_zip,hsz]
   omega
 ·rw[if_neg h2,if_neg h2]
  rw[hsz] at h2
  obtain ⟨r0,Fz,e0⟩ : ∃r l,rs=r::l:=by
   cases rs with
   | nil=>simp at h2
   | cons r l=>exact ⟨r,l,rfl⟩
  have hk:∀{R:Lq->Ai->Prop},R Uh { s with heap:=((s.heap.update a (Cg λ_=>#[])).push (Cw "tuple" (rs.map Bc).toArray 0)).push (Cw "list" #[] 0) } ->
    wpAny (model prog w) A (keyKind' (rs.map Bc).toArray) R E { s with heap:=((s.heap.update a (Cg λ_=>#[])).push (Cw "tuple" (rs.map Bc).toArray 0)).push (Cw "list" #[] 0) }:=λ{R} hR=>by
   have hH3:=hH2
   rw[e0] at hH3 hR ⊢
   exact yE hH3 (h0 r0 Fz e0) hR
  refine Ab (hk ?_)
  have C:=B9 (prog:=prog) (w:=w) (A:=A) (s:={ s with heap:=((s.heap.update a (Cg λ_=>#[])).push (Cw "tuple" (rs.map Bc).toArray 0)).push (Cw "list" #[] 0) }) hH2 hu
  have a0:(pairsOf (rs.map Bc)).size=rs.length:=by rw[pairsOf_size,Ac]
  refine Ab (Eo (dD C (a₀:=pairsOf (rs.map Bc)) (st:=Wt Uh ((rs.map Bc).toArray.zip (rs.map Bc).toArray) #[] 7 none) (E:=E)
   (Q:=λ_ st'=>Good0 Uh (pairsOf (rs.map Bc)) st'/\Rg (FX c) (arrOf st') 0 (pairsOf (rs.map Bc)).size)
   ⟨rfl,rfl,Array.Perm.refl _⟩ (λx hx=>?_) rfl (by rw[a0]; omega) λst' g as=>⟨g,as⟩) ?_ λ_ _ z=>z)
  ·rw[pairsOf_toList] at hx
   obtain ⟨_,hm⟩:=mem_zip_self hx
   obtain ⟨r,hr,e⟩:=Bs.mp hm
   exact ⟨r,hr,e.symm⟩
  ·(rintro ⟨⟨⟩,st'⟩ s' q_; obtain ⟨rfl,g,as⟩ := q_)
   dsimp only
   -- the things of the new order
   have pl:(arrOf st').toList.Perm ((rs.map Bc).zip (rs.map Bc)):=by rw[<- pairsOf_toList]; exact Pe.mp g.perm
   have each:∀x∈(arrOf st').toList,∃r∈rs,x=(Bc r,Bc r):=λx hx=>by
    obtain ⟨e,hm⟩:=mem_zip_self (pl.mem_iff.mp hx)
    obtain ⟨r,hr,e2⟩:=Bs.mp hm
    refine ⟨r,hr,?_⟩
    obtain ⟨x1,x2⟩:=x
    simp only at e e2
    rw[<- e,e2]
   have ex:∀l:List Keyed,(∀x∈l,∃r∈rs,x=(Bc r,Bc r))->∃rs':List Addr,l=rs'.map λr=>(Bc r,Bc r):=by
    intro l
    induction l with
    | nil=>intro _; exact ⟨[],rfl⟩
    | cons x l ih =>
     intro hx
     obtain ⟨r,_,e⟩:=hx x Aa
     obtain ⟨rs',e'⟩:=ih λy hy=>hx y (Ae _ hy)
     exact ⟨r::rs',by rw[Ar,e,e']⟩
   obtain ⟨rs',ers⟩:=ex _ each
   have zz:(rs.map Bc).zip (rs.map Bc)=rs.map λr=>(Bc r,Bc r):=by
    rw[List.zip_map',]
   rw[ers,zz] at pl
   have inj:∀x:Keyed,∃a:Addr,True:=λ_=>⟨0,trivial⟩
   have pr:rs'.Perm rs:=by
    have:=pl.map (λx:Keyed=>match x.1 with | .ref a=>a | _=>0)
    rw[Bx,Bx] at this
    simpa [Function.comp_def] using this
   have so:rs'.Pairwise (λx y=>HT.lexLt (c y) (c x)=false):=by
    rw[Dx]
    intro i j hi hj hij
    have ls:(arrOf st').size=rs'.length:=by
     have:=congrArg Fm ers
     rw[Bd,Ac] at this
     exact this
    have xe:∀k (hk:k<rs'.length),X (arrOf st') k=(Bc rs'[k],Bc rs'[k]):=λk hk=>by
     have e1:=Ea (Xi (xs:=arrOf st') (i:=k) (by omega))
     rw[ers,Az,Ap hk] at e1
     exact (Bl e1).symm
    have:=as i j (Cr _) (by omega) (by rw[a0,<- pr.length_eq]; exact hj)
    rw[xe i hi,xe j hj] at this
    exact this
   refine Ab (Yd hl2 rfl (Ab (Lo hl2 rfl ?_ (by simp) ?_)))
   ·have fl:Ko st'=none:=g.fail
    rw[fl]
    simp only[bne_self_eq_false,Ca,if_false]
    refine Ao (fin _ rs' ?_ pr so)
    apply Array.ext'
    rw[Array.toList_map,ers,Bx]
    rfl
   ·show (Array.map (λx:Keyed=>x.2) (arrOf st')).size<=Av+1
    rw[Array.size_map,g.size,a0]
    omega
end
theorem Sx:∀{rs:List Addr} {us:List Value},Fd (rs.map V.ref) us->us=rs.map Bc
 | [],_,r=>by cases r; rfl
 | a::l,_,r=>by
  rw[Ar] at r
  cases r with
  | cons r1 r2 =>
   cases r1
   rw[Sx r2]
   rfl
theorem Xe:∀rs:List Addr,Fd (rs.map V.ref) (rs.map Bc)
 | []=>.nil
 | _::l=>.cons rfl (Xe l)
section
variable{prog:Bo}{w:World}{A:Cn}{E:Value->Ai->Prop}{s:Ai}{c:Addr->List Int}{rs:List Addr}
theorem jQ(hl:s.heap.IsList l (rs.map Bc).toArray)(hH:sO c rs s.heap)(h0:∀r l,rs=r::l->c r=[])(hu:A.units+2<cLine)(hz:rs.length<=Av)(h:∀rs':List Addr,rs'.Perm rs->rs'.Pairwise (λx y=>HT.lexLt (c y) (c x)=false)->Q (.ref (s.heap.objs.size+1)) { s with heap:=sortedAll s.heap (rs.map Bc) (rs'.map Bc).toArray }):wpAny (model prog w) A (call (.builtin "sorted") [.ref l]) Q E s:=by
 refine Calls.call_function_entry (by exact kind_sorted) plain_sorted entry_sorted (args_sorted1 _) ?_
 unfold Builtin.«sorted»
 refine Ab (m:=checkCount "sorted" 1 1 _) (Ao (Ab (collect_list hl (Ab (Tr ?_)) (by rw[Ac]; exact hz))))
 have z1:((s.heap.push (Cw "list" #[] 0)).update s.heap.objs.size (Cg (·++(rs.map Bc).toArray))).objs.size=s.heap.objs.size+1:=by rw[Il,Ra]
 have g1:(((s.heap.push (Cw "list" #[] 0)).update s.heap.objs.size (Cg (·++(rs.map Bc).toArray))).push (Cw "list" (rs.map Bc).toArray 0)).get? (s.heap.objs.size+1)=some (Cw "list" (rs.map Bc).toArray 0):=by
  rw[<- z1]
  exact Bb _ rfl
 have kept:∀b o,s.heap.get? b=some o->(((s.heap.push (Cw "list" #[] 0)).update s.heap.objs.size (Cg (·++(rs.map Bc).toArray))).push (Cw "list" (rs.map Bc).toArray 0)).get? b=some o:=λb o e=>by
  refine Af _ (((Cf _ _ _).2 b (By (Ba e))).trans (Af _ e))
 show wpAny _ _ _ _ _ { s with heap:=((s.heap.push (Cw "list" #[] 0)).update s.heap.objs.size (Cg (·++(rs.map Bc).toArray))).push (Cw "list" (rs.map Bc).toArray 0) }
 rw[z1]
 refine Ab (Df (Gg slot_list_sort ⟨_,g1,rfl⟩ entry_list_sort (tL g1 (λr hr=>?_) h0 ?_ hz λrs' p1 p2=>⟨_,rfl,?_⟩) (args_list_sort _)))
 ·obtain ⟨its,t1,o,q1,k1,m1,e1⟩:=hH r hr
  exact ⟨its,t1,o,kept r o q1,k1,m1,e1⟩
 ·first | exact He (by show A.units+2<=A.units+2; exact Ak _) hu | exact He (Gz _ 2) hu | (show A.units+1<cLine; omega) | trace_state
 ·exact Ao ⟨_,rfl,h rs' p1 p2⟩
theorem Yj(e:h.get? b=some o):(sortedAll h vs out).get? b=some o:=by
 have lt:=Ba e
 unfold sortedAll sortedHeap
 have z1:((h.push (Cw "list" #[] 0)).update h.objs.size (Cg (·++vs.toArray))).objs.size=h.objs.size+1:=by rw[Il,Ra]
 have n1:b≠h.objs.size+1:=By (Zl lt)
 refine ((Cf _ _ _).2 b n1).trans (Af _ (Af _ (((Cf _ _ _).2 b n1).trans (Af _ ?_))))
 exact ((Cf _ _ _).2 b (By lt)).trans (Af _ e)
theorem cB:∃n,(sortedAll h vs out).get? (h.objs.size+1)=some (Cw "list" out n):=by
 unfold sortedAll sortedHeap
 have z1:((h.push (Cw "list" #[] 0)).update h.objs.size (Cg (·++vs.toArray))).objs.size=h.objs.size+1:=by rw[Il,Ra]
 have g1:(((h.push (Cw "list" #[] 0)).update h.objs.size (Cg (·++vs.toArray))).push (Cw "list" vs.toArray 0)).get? (h.objs.size+1)=some (Cw "list" vs.toArray 0):=by
  rw[<- z1]
  exact Bb _ rfl
 have g2:=Ju g1 (λ_=>#[])
 have g3:=Af (Cw "list" #[] 0) (Af (Cw "tuple" vs.toArray 0) g2)
 exact ⟨_,Ju g3 (λ_=>out)⟩
end
section
variable{X:Cx}
theorem call_sorted(hu:X.A.units+2<cLine):Mf X (.builtin "sorted") (λxs H Q=>∃(a:Addr) (rs:List Addr) (c:Addr->List Int),xs=[.ref a]/\Kb X.K H a (rs.map V.ref)/\(∀r∈rs,Vh X.K H r ((c r).map V.int))/\(∀r l,rs=r::l->c r=[])/\∀(p:Addr) (rs':List Addr),H p=none->rs'.Perm rs->rs'.Pairwise (λx y=>HT.lexLt (c y) (c x)=false)->Q (.ref p) (upd H p (.lst (rs'.map V.ref)))):=by
 intro pins s σ H xs us Q I r h
 obtain ⟨a,rs,c,rfl,hl,hc,h0,q⟩:=h
 obtain ⟨u,rfl,ru⟩:=vals1 r
 cases ru
 obtain ⟨its,rv,pl,hz⟩:=I.list hl
 have e:=Sx rv
 subst e
 rw[Ac] at hz
 refine jQ (c:=c) pl.isList (λr hr=>?_) h0 hu hz λrs' p1 p2=>?_
 ·obtain ⟨ti,t1,t2,_⟩:=I.tuple (hc r hr)
  exact ⟨ti,intsAre_of t1,t2⟩
 ·obtain ⟨n,hn⟩:=cB (h:=s.heap) (vs:=rs.map Bc) (out:=(rs'.map Bc).toArray)
  refine ⟨.ref (s.heap.objs.size+1),upd H (s.heap.objs.size+1) (.lst (rs'.map V.ref)),I.laid (t':=s.toks) (λb o e=>Yj e) (Vn _) ⟨?_,_,n,Xe rs',hn⟩,rfl,q _ rs' (I.hok.fresh (Vn _)) p1 p2⟩
  rw[Ac,p1.length_eq]
  exact hz
end
section
variable{prog:Bo}{w:World}{A:Cn}{E:Value->Ai->Prop}{s:Ai}{c:Addr->List Int}{rs:List Addr}
theorem j7(h:Q (decide (x<y)) s):wpAny (model prog w) A (oneLt' b (.int x t) (.int y u)) Q E s:=by
 cases b with
 | true=>exact oneLt_int h
 | false=>exact PySem.W.kat_one _ _ (lt_int h)
end
end Ts
namespace DL
open PySem L2 Nd
def Yn{α:Type}(xs:List α)(lo hi:Option Int):List α:=(xs.drop (HT.sIx xs.length 0 lo)).take (HT.sIx xs.length xs.length hi - HT.sIx xs.length 0 lo)
theorem wY(f:α->β)(xs:List α)(lo hi:Option Int):Yn (xs.map f) lo hi=(Yn xs lo hi).map f:=by
 unfold Yn
 rw[Ac,List.map_take,List.map_drop]
theorem xU(xs:List α)(lo hi:Option Int):(Yn xs lo hi).Sublist xs:=(Ly _ _).trans (Jm _ _)
theorem rQ(xs:List α)(k:Nat):Yn xs none (some (k:Int))=xs.take k:=by
 unfold Yn
 rw[HT.sIx_none,HT.sIx_nat,List.drop_zero,Nat.sub_zero]
 by_cases h:k<=xs.length
 ·rw[Nat.min_eq_left h]
 ·rw[Nat.min_eq_right (by omega),Ij,Em (by omega)]
section
variable{K:PySem.W.Frag}{H:Hp}
theorem RdFs.rev:∀{xs:List V} {ds:List Ad},RdFs K H xs ds []->RdFs K H xs.reverse ds.reverse []:=λ{xs ds} h=>by
 have : ∀{xs:List V} {ds:List Ad} {F:List Addr},RdFs K H xs ds F->F=[]->RdFs K H xs.reverse ds.reverse []:=by
  intro xs ds F h
  induction xs generalizing ds F with
  | nil=>intro _; cases h; exact .nil
  | cons x xs ih =>
   intro e
   cases h with
   | @cons _ d _ ds F G a t =>
    obtain ⟨rfl,rfl⟩:=pD.mp e
    rw[Qc,Qc]
    exact (ih t rfl).snoc a
 exact this h rfl
theorem RdFs.ints:∀ns:List Int,RdFs K H (ns.map V.int) (ns.map An) []
 | []=>.nil
 | n::ns=>RdFs.cons (F:=[]) (.int n) (RdFs.ints ns)
theorem RdFs.ints_inv:∀{ns:List Int} {xs:List V} {F:List Addr},RdFs K H xs (ns.map An) F->xs=ns.map V.int/\F=[]
 | [],_,_,h=>by cases h; exact ⟨rfl,rfl⟩
 | n::ns,_,_,h=>by
  rw[Ar] at h
  cases h with
  | cons a t =>
   obtain ⟨rfl,rfl⟩:=a.int_inv
   obtain ⟨rfl,rfl⟩:=RdFs.ints_inv t
   exact ⟨rfl,rfl⟩
theorem RdFs.bools_inv:∀{ns:List Bool} {xs:List V} {F:List Addr},RdFs K H xs (ns.map PyData.bool) F->xs=ns.map V.bl/\F=[]
 | [],_,_,h=>by cases h; exact ⟨rfl,rfl⟩
 | n::ns,_,_,h=>by
  rw[Ar] at h
  cases h with
  | cons a t =>
   obtain ⟨rfl,rfl⟩:=a.bl_inv
   obtain ⟨rfl,rfl⟩:=RdFs.bools_inv t
   exact ⟨rfl,rfl⟩
end
theorem Zx:Ed (a++b)=(Ed a && Ed b):=by
 induction a with
 | nil=>simp [Ed]
 | cons x a ih=>simp [Ed,ih,Bool.and_assoc]
theorem Rm(ns:List Int):Ed (ns.map An)=true:=Ux (λ_=>by simp [imm]) ns
def rA:D2:=λx y P=>match x,y with
 | .dat _ (.list ds),.dat _ (.list es)=>Ed ds=true/\Ed es=true/\ds.length+es.length<=1000000/\P (.dat .ow (.list (ds++es)))
 | _,_=>False
def GB:D2:=λx y P=>match x,y with
 | .dat _ (.list ds),.dat _ (.int k)=>Ed ds=true /\ -1000000<=k/\k<=1000000/\ds.length * k.toNat<=1000000/\P (.dat .ow (.list (Ik k.toNat ds).flatten))
 | _,_=>False
section
variable{K:PySem.W.Frag}
theorem V8:oF K CZ rA:=by
 intro H0 X n S T x y v w F G H Q P hA hd k
 unfold rA at hd
 split at hd
 ·obtain ⟨i1,i2,hz,p⟩:=hd
  obtain ⟨b,ys,G1,rfl,hb,rb,_,_⟩:=(hA.told mem_mid).list_inv
  obtain ⟨a,xs,G2,rfl,ha,ra,_,_⟩:=(hA.told Ek).list_inv
  have l1:=ra.len
  have l2:=rb.len
  refine ⟨a,b,xs,ys,rfl,rfl,ha,hb,lG (by omega),λq hq=>?_⟩
  exact k _ _ _ _ (hA.drop2.newI (ra.app rb) (by rw[Zx,i1,i2]; rfl) (by rw[Bw]; exact lG (by omega)) hq .ow) p
 ·exact hd.elim
end
section
variable{X:Cx}{a b:Expr}{da db:DE}{pos:Pos}
theorem lT(ha:Eu X a da)(hb:Eu X b db):Eu X (.BinOp a .Add b pos) (Yk rA da db):=Xs mE V8 ha hb
end
abbrev DO:=DS->(Option Int->DS->Prop)->Prop
def LO(K:PySem.W.Frag)(do_:DO):TO:=λσ H Q=>∃(H0:Hp) (X:Addr->Prop) (S T:List Ent) (δ:DS) (P:Option Int->DS->Prop),vs S=σ/\Sl S δ/\At K H0 X δ.n (S++T) H/\do_ δ P /\
 ∀o δ' S' H',vs S'=σ->Sl S' δ'->At K H0 X δ'.n (S'++T) H'->P o δ'->Q o H'
abbrev DZ(X:Cx)(e:Option Expr)(d:DO):Prop:=PO X e (LO X.K d)
theorem PO.imp(h:PO X e t)(k:∀σ H Q,t' σ H Q->t σ H Q):PO X e t':=λpins s σ H Q I q=>h pins s σ H Q I (k σ H Q q)
def pP:DO:=λδ P=>P none δ
def L1(de:DE):DO:=λδ P=>de δ λx δ'=>match x with
 | .dat _ (.int i)=>P (some i) δ'
 | _=>False
section
variable{X:Cx}{e:Expr}{de:DE}{lo hi:Option Expr}{dl dh:DO}{pos p2:Pos}
theorem xS:DZ X none pP:=by
 refine PO.imp A6 λσ H Q h=>?_
 obtain ⟨H0,Y,S,T,δ,P,rfl,hS,hA,hd,k⟩:=h
 exact k _ δ S H rfl hS hA hd
theorem zQ(h:Eu X e de):DZ X (some e) (L1 de):=by
 refine PO.imp (B2 h) λσ H Q h=>?_
 obtain ⟨H0,Y,S,T,δ,P,rfl,hS,hA,hd,k⟩:=h
 refine ⟨H0,Y,S,T,δ,_,rfl,hS,hA,hd,λx δ' v F S' H' e1 e2 hA' p=>?_⟩
 split at p
 ·obtain ⟨rfl,_⟩:=(hA'.told mem_mid).int_inv
  exact ⟨_,rfl,k _ δ' S' H' e1 e2 hA'.drop p⟩
 ·exact p.elim
def K9(de:DE):DE:=λδ P=>de δ λx δ1=>match x with
 | .dat _ (.list ds)=>Ed ds=true/\P (.dat .ow (.list ds.reverse)) δ1
 | _=>False
theorem oO(h:Ed ds=true):Ed ds.reverse=true:=mI.mpr λx hx=>mI.mp h x (Mr.mp hx)
theorem E2(he:Eu X e de)(hk:PE X k tk)(htk:∀σ H Q,Q (.int (-1)) H->tk σ H Q):Eu X (.Subscript e (.Slice none none (some k) p2) pos) (K9 de):=by
 refine PE.imp (C9 he hk htk) λσ H Q h=>?_
 obtain ⟨H0,Y,S,T,δ,P,rfl,hS,hA,hd,kk⟩:=h
 refine ⟨H0,Y,S,T,δ,_,rfl,hS,hA,hd,λx δ1 v F S1 H1 e1 e2 hA1 p1=>?_⟩
 split at p1
 ·obtain ⟨a,xs,G,rfl,ha,ra,rfl,hz⟩:=(hA1.told mem_mid).list_inv
  obtain rfl:=ra.imm p1.1
  refine ⟨a,xs,rfl,Kb.of ha,λp hp=>?_⟩
  exact kk _ δ1 _ _ S1 _ e1 e2 (hA1.drop.newI ra.rev (oO p1.1) (by rw[Ih]; exact hz) hp .ow) p1.2
 ·exact p1.elim
end
end DL
namespace NdS
open PySem PyProof.Rows
end NdS
namespace Nd
open PySem PySem.Spec PyProof.Rows L2 NdS
end Nd
namespace DL
open PySem L2 Nd
def Z7(x:Int):List Int->List Int
 | []=>[x]
 | y::l=>if x<y then x::y::l else if x=y then y::l else y::Z7 x l
def BO(ns:List Int):List Int:=ns.foldr Z7 []
abbrev DC:=List DV->(DV->Prop)->Prop
def Ot(K:PySem.W.Frag)(r:List V->Hp->VK->Prop)(rd:DC):Prop:=∀(H0:Hp) (X:Addr->Prop) (n:Nat) (S T As:List Ent) (us:List V) (H:Hp) (Q:VK) (P:DV->Prop),
 As.map Ent.v=us.map some->At K H0 X n (S++(As++T)) H->rd (As.map Ent.x) P->(∀z u F' H',At K H0 X n (S++⟨some u,z,F'⟩::T) H'->P z->Q u H')->r us H Q
def AE(rd:DC)(da:DA):DE:=λδ P=>da δ λxs δ1=>rd xs λz=>P z δ1
section
variable{X:Cx}{x:Str}{p pos:Pos}{e:Expr}{es:List Expr}{da:DA}{id T:String}{r:List V->Hp->VK->Prop}{rd:DC}
theorem zU(o:Ot K r rd):∀σ H Q,LE K (AE rd da) σ H Q->DY r (LA K da) σ H Q:=by
 intro σ H Q h
 obtain ⟨H0,Y,S,T,δ,P,rfl,hS,hA,hd,k⟩:=h
 refine ⟨H0,Y,S,T,δ,_,rfl,hS,hA,hd,λxs δ' As us S' H' e1 e2 ex eu hA' p=>?_⟩
 subst ex
 exact o H0 Y δ'.n S' T As us H' Q _ eu hA' p λz u F' H'' hA3 p3=>k z δ' u F' S' H'' e1 e2 hA3 p3
theorem Ej(hc:Mf X (.builtin id) r)(o:Ot X.K r rd)(hg:Gl X x)(hm:X.mg x=none)(hv:Jk x=some (.builtin id))(ha:oW X (e::es) da)(hn:x ≠ "__name__" := by decide)(hdb:(x == ("__debug__" : Str))=false:=by decide)(he:Bm (e::es) X.env=(false,eval e X.env)::Bm es X.env:=by rfl)(hpl:(Gd pos (Bm es X.env)).any (·.1)=false:=by rfl):Eu X (.Call (.Name x p) (e::es) [] pos) (AE rd da) :=
 PE.imp (bD hc hg hm hv ha hn hdb he hpl) (zU o)
theorem Iq(hc:Mf X (.type T) r)(o:Ot X.K r rd)(hg:Gl X x)(hm:X.mg x=none)(hv:Jk x=some (.type T))(ha:oW X (e::es) da)(hn:x ≠ "__name__" := by decide)(hdb:(x == ("__debug__" : Str))=false:=by decide)(he:Bm (e::es) X.env=(false,eval e X.env)::Bm es X.env:=by rfl)(hpl:(Gd pos (Bm es X.env)).any (·.1)=false:=by rfl):Eu X (.Call (.Name x p) (e::es) [] pos) (AE rd da) :=
 PE.imp (sV hc hg hm hv ha hn hdb he hpl) (zU o)
end
theorem X4{α β:Type}{f:α->β}{l:List α}{x:β}(h:l.map f=[x]):∃a,l=[a]/\f a=x:=by
 cases l with
 | nil=>cases h
 | cons a t =>
  obtain ⟨h1,h2⟩:=Ep h
  exact ⟨a,by rw[Of.mp h2],h1⟩
theorem AQ{α β:Type}{f:α->β}{l:List α}{x y:β}(h:l.map f=[x,y]):∃a b,l=[a,b]/\f a=x/\f b=y:=by
 cases l with
 | nil=>cases h
 | cons a t =>
  obtain ⟨h1,h2⟩:=Ep h
  obtain ⟨b,rfl,h3⟩:=X4 h2
  exact ⟨a,b,rfl,h1,h3⟩
theorem Hg(eu:As.map Ent.v=us.map some)(hA:At K H0 X n (S++(As++T)) H)(ex:As.map Ent.x=[x]):∃v F,us=[v]/\At K H0 X n (S++⟨some v,x,F⟩::T) H:=by
 obtain ⟨⟨v,y,F⟩,rfl,h1⟩:=X4 ex
 obtain ⟨u,rfl,h2⟩:=X4 eu.symm
 have h1':y=x:=h1
 have h2':some u=v:=h2
 subst h1' h2'
 exact ⟨u,F,rfl,hA⟩
theorem Wo(eu:As.map Ent.v=us.map some)(hA:At K H0 X n (S++(As++T)) H)(ex:As.map Ent.x=[x,y]):∃v F w G,us=[v,w]/\At K H0 X n (S++⟨some v,x,F⟩::⟨some w,y,G⟩::T) H:=by
 obtain ⟨⟨v,x',F⟩,⟨w,y',G⟩,rfl,h1,h2⟩:=AQ ex
 obtain ⟨u,u',rfl,h3,h4⟩:=AQ eu.symm
 have h1':x'=x:=h1
 have h2':y'=y:=h2
 have h3':some u=v:=h3
 have h4':some u'=w:=h4
 subst h1' h2' h3' h4'
 exact ⟨u,F,u',G,rfl,hA⟩
def kX:DC:=λxs P=>match xs with
 | [.dat _ (.list ds)]=>P (.dat .ow (.int ds.length))
 | [.dat _ (.tuple ds)]=>P (.dat .ow (.int ds.length))
 | [.dat _ (.str z)]=>z.length<=1000000/\P (.dat .ow (.int z.length))
 | _=>False
def oG(i:Bool):DC:=λxs P=>match xs with
 | [.dat m (.list ds)]=>jR i m ds P
 | [.dat m (.tuple ds)]=>jR i m ds P
 | _=>False
def vI:DC:=λxs P=>match xs with
 | [.dat _ (.int i)]=>P (.dat .ow (.int i))
 | [.dat _ (.bool b)]=>P (.dat .ow (.int (if b=true then 1 else 0)))
 | _=>False
def lZ:DC:=λxs P=>match xs with
 | [.dat _ (.int i),.dat _ (.int j)]=>P (.dat .ow (.int (if j > i then j else i)))
 | _=>False
def nQ:DC:=λxs P=>match xs with
 | [.dat _ (.list ds)]=>∃ns:List Int,ds=ns.map An/\ns≠[]/\∀M∈ns,(∀x∈ns,M<=x)->P (.dat .ow (.int M))
 | _=>False
def nW:DC:=λxs P=>match xs with
 | [.dat _ (.list ds)]=>∃ns:List Int,ds=ns.map An/\ns≠[]/\∀M∈ns,(∀x∈ns,x<=M)->P (.dat .ow (.int M))
 | _=>False
def zO:DC:=λxs P=>match xs with
 | [.dat _ (.list ds)]=>∃bs:List Bool,ds=bs.map PyData.bool/\P (.dat .ow (.bool (bs.all id)))
 | _=>False
def j5:Ad->String
 | .none => "NoneType"
 | .bool _ => "bool"
 | .int _ => "int"
 | .str _ => "str"
 | .list _ => "list"
 | .tuple _ => "tuple"
 | .dict _ => "dict"
def eR(d:Ad)(n:String):Bool:=j5 d == n || (j5 d == "bool" && n == "int")
def i3:DC:=λxs P=>match xs with
 | [.dat _ d,.val (.ty n)]=>(n = "int" \/ n = "bool" \/ n = "str" \/ n = "list" \/ n = "tuple")/\P (.dat .ow (.bool (eR d n)))
 | _=>False
def zY:DC:=λxs P=>match xs with
 | [.dat _ d]=>(∃b,b<=400/\Mz b d/\(b+12) * Jr d<=Av)/\d.depth<=90/\P (.dat .ow (.str (fI d)))
 | _=>False
section
variable{K:PySem.W.Frag}
theorem Lu:Ot K (λxs H Q=>∃x n,xs=[x]/\AG K x H n/\Q (.int n) H) kX:=by
 intro H0 X n S T As us H Q P eu hA hd k
 unfold kX at hd
 split at hd
 ·rename_i ex
  obtain ⟨v,F,rfl,hA⟩:=Hg eu hA ex
  obtain ⟨a,xs,G,rfl,ha,ra,_,_⟩:=(hA.told mem_mid).list_inv
  exact ⟨_,_,rfl,.inl ⟨xs,Kb.of ha,ra.len.symm⟩,k _ _ [] H (hA.drop.pushI (.int _)) hd⟩
 ·rename_i ex
  obtain ⟨v,F,rfl,hA⟩:=Hg eu hA ex
  obtain ⟨a,xs,rfl,ha,ra,_⟩:=(hA.told mem_mid).tup_inv
  exact ⟨_,_,rfl,.inr ⟨xs,Vh.of ha,ra.len.symm⟩,k _ _ [] H (hA.drop.pushI (.int _)) hd⟩
 ·rename_i ex
  obtain ⟨v,F,rfl,hA⟩:=Hg eu hA ex
  obtain ⟨rfl,_⟩:=(hA.told mem_mid).str_inv
  exact ⟨_,_,rfl,⟨lG hd.1,rfl⟩,k _ _ [] H (hA.drop.pushI (.int _)) hd.2⟩
 ·exact hd.elim
theorem gR:Ot K (N5 K) (oG i):=by
 intro H0 X n S T As us H Q P eu hA hd k
 unfold oG at hd
 split at hd
 ·rename_i ex
  obtain ⟨v,F,rfl,hA⟩:=Hg eu hA ex
  obtain ⟨a,xs,G,rfl,ha,ra,rfl,hz⟩:=(hA.told mem_mid).list_inv
  refine ⟨a,xs,rfl,.inl (Kb.of ha),λl hl=>?_⟩
  obtain ⟨z,F',h1,h2⟩:=hA.newL ra (Dg _ _) hz hl hd
  exact k _ _ _ _ h1 h2
 ·rename_i ex
  obtain ⟨v,F,rfl,hA⟩:=Hg eu hA ex
  obtain ⟨a,xs,rfl,ha,ra,hz⟩:=(hA.told mem_mid).tup_inv
  refine ⟨a,xs,rfl,.inr (Vh.of ha),λl hl=>?_⟩
  obtain ⟨z,F',h1,h2⟩:=hA.newL ra (Ec _) hz hl hd
  exact k _ _ _ _ h1 h2
 ·exact hd.elim
theorem aR:Ot K (λxs H Q=>(∃i,xs=[V.int i]/\Q (.int i) H)\/∃k,xs=[V.bl k]/\Q (.int (if k then 1 else 0)) H) vI:=by
 intro H0 X n S T As us H Q P eu hA hd k
 unfold vI at hd
 split at hd
 ·rename_i ex
  obtain ⟨v,F,rfl,hA⟩:=Hg eu hA ex
  obtain ⟨rfl,_⟩:=(hA.told mem_mid).int_inv
  exact .inl ⟨_,rfl,k _ _ [] H (hA.drop.pushI (.int _)) hd⟩
 ·rename_i ex
  obtain ⟨v,F,rfl,hA⟩:=Hg eu hA ex
  obtain ⟨rfl,_⟩:=(hA.told mem_mid).bl_inv
  exact .inr ⟨_,rfl,k _ _ [] H (hA.drop.pushI (.int _)) hd⟩
 ·exact hd.elim
theorem pH:Ot K (λxs H Q=>∃i j,xs=[V.int i,V.int j]/\Q (.int (if j > i then j else i)) H) lZ:=by
 intro H0 X n S T As us H Q P eu hA hd k
 unfold lZ at hd
 split at hd
 ·rename_i ex
  obtain ⟨v,F,w,G,rfl,hA⟩:=Wo eu hA ex
  obtain ⟨rfl,_⟩:=(hA.told mem_mid).int_inv
  obtain ⟨rfl,_⟩:=(hA.told Ek).int_inv
  exact ⟨_,_,rfl,k _ _ [] H (hA.drop2.pushI (.int _)) hd⟩
 ·exact hd.elim
theorem pG:Ot K (K7 K) nQ:=by
 intro H0 X n S T As us H Q P eu hA hd k
 unfold nQ at hd
 split at hd
 ·rename_i ex
  obtain ⟨v,F,rfl,hA⟩:=Hg eu hA ex
  obtain ⟨ns,rfl,h0,h1⟩:=hd
  obtain ⟨a,xs,G,rfl,ha,ra,rfl,hz⟩:=(hA.told mem_mid).list_inv
  obtain ⟨rfl,_⟩:=ra.ints_inv
  exact ⟨a,ns,rfl,Kb.of ha,h0,λM hM hm=>k _ _ [] H (hA.drop.pushI (.int _)) (h1 M hM hm)⟩
 ·exact hd.elim
theorem B1:Ot K (N9 K) nW:=by
 intro H0 X n S T As us H Q P eu hA hd k
 unfold nW at hd
 split at hd
 ·rename_i ex
  obtain ⟨v,F,rfl,hA⟩:=Hg eu hA ex
  obtain ⟨ns,rfl,h0,h1⟩:=hd
  obtain ⟨a,xs,G,rfl,ha,ra,rfl,hz⟩:=(hA.told mem_mid).list_inv
  obtain ⟨rfl,_⟩:=ra.ints_inv
  exact ⟨a,ns,rfl,Kb.of ha,h0,λM hM hm=>k _ _ [] H (hA.drop.pushI (.int _)) (h1 M hM hm)⟩
 ·exact hd.elim
theorem T2:Ot K (λxs H Q=>∃(p:Addr) (bs:List Bool),xs=[.ref p]/\Kb K H p (bs.map V.bl)/\Q (.bl (bs.all id)) H) zO:=by
 intro H0 X n S T As us H Q P eu hA hd k
 unfold zO at hd
 split at hd
 ·rename_i ex
  obtain ⟨v,F,rfl,hA⟩:=Hg eu hA ex
  obtain ⟨bs,rfl,h1⟩:=hd
  obtain ⟨a,xs,G,rfl,ha,ra,rfl,hz⟩:=(hA.told mem_mid).list_inv
  obtain ⟨rfl,_⟩:=ra.bools_inv
  exact ⟨a,bs,rfl,Kb.of ha,k _ _ [] H (hA.drop.pushI (.bl _)) h1⟩
 ·exact hd.elim
theorem J1(h1:(Hy T == Hy n)=false)(h2:PySem.W.kitMeta n=true)(h3:(fastBuiltinMro T).map (λx=>x.contains (Hy n))=some b):PySem.W.kitOne K (.type T) (.type n)=some b:=P7 h1 h2 h3
theorem G4(hn:n = "int" \/ n = "bool" \/ n = "str" \/ n = "list" \/ n = "tuple"):PySem.W.kitOne K (.type (j5 d)) (.type n)=some (eR d n):=by
 have main:∀T:String,(T = "NoneType" \/ T = "bool" \/ T = "int" \/ T = "str" \/ T = "list" \/ T = "tuple" \/ T = "dict")->PySem.W.kitOne K (.type T) (.type n)=some (T == n || (T == "bool" && n == "int")):=by
  intro T hT
  rcases hT with rfl | rfl | rfl | rfl | rfl | rfl | rfl <;> rcases hn with rfl | rfl | rfl | rfl | rfl <;> first | exact W6 | exact J1 (by decide +kernel) (by decide +kernel) (by decide +kernel)
 unfold eR
 refine main _ ?_
 cases d <;> simp [j5]
theorem mX:Ot K (GQ K) i3:=by
 intro H0 X n S T As us H Q P eu hA hd k
 unfold i3 at hd
 split at hd
 ·rename_i ex
  obtain ⟨v,F,w,G,rfl,hA⟩:=Wo eu hA ex
  have hw:w=.ty _:=Bl (hA.ok _ Ek).1
  subst hw
  have r:=hA.told mem_mid
  refine ⟨v,_,.type (j5 _),_,rfl,?_,G4 hd.1,k _ _ [] H (hA.drop2.pushI (.bl _)) hd.2⟩
  ·cases r with
   | non=>exact .non
   | bl b=>exact .bl b
   | int i=>exact .int i
   | str x=>exact .str x
   | lst h l hs=>exact .lst h
   | tup h l hs=>exact .tup h
   | dic h e hs=>exact .dT h
   | dik h e hs=>exact .dK h
   | dnm h e hs=>exact .dT h
 ·exact hd.elim
theorem wJ:Ot K (AZ K) zY:=by
 intro H0 X n S T As us H Q P eu hA hd k
 unfold zY at hd
 split at hd
 ·rename_i ex
  obtain ⟨v,F,rfl,hA⟩:=Hg eu hA ex
  exact ⟨_,_,rfl,⟨(hA.told mem_mid).rd hd.2.1,hd.1,hd.2.1⟩,k _ _ [] H (hA.drop.pushI (.str _)) hd.2.2⟩
 ·exact hd.elim
end
def dV(v:V):DE:=λδ P=>P (.val v) δ
section
variable{X:Cx}{e:Expr}
theorem S8(h:PE X e (tC v)):Eu X e (dV v):=by
 refine PE.imp h λσ H Q h=>?_
 obtain ⟨H0,Y,S,T,δ,P,rfl,hS,hA,hd,k⟩:=h
 exact k _ δ v [] S H rfl hS ((hA.push (e:=⟨some v,.val v,[]⟩) ⟨rfl,rfl⟩ (λf _=>⟨λ_ a ha=>(nomatch ha),λ_ a _=>Ax⟩) (λa ha=>(nomatch ha))).tomid) hd
theorem wU{pos:Pos}(hg:Gl X x)(hm:X.mg x=none)(hv:Jk x=some (.type n))(hn:x ≠ "__name__" := by decide)(hd:(x == ("__debug__" : Str))=false:=by decide):Eu X (.Name x pos) (dV (.ty n)):=S8 (J9 hg hm hv rfl hn hd)
end
end DL
namespace Nd
open PySem PySem.Spec PyProof.Rows L2
def FJ(K:PySem.W.Frag)(a b:Addr):It :=
  ⟨λi H=>∃xs ys x y,Kb K H a xs/\Kb K H b ys/\xs[i]? = some x/\ys[i]? = some y,
   λi H x H'=>∃p u v,x=.ref p/\H p=none/\H'=upd H p (.tup [u,v])/\(∀xs,Kb K H a xs->xs[i]? = some u)/\∀ys,Kb K H b ys->ys[i]? = some v,
   λi H=>∃xs ys,Kb K H a xs/\Kb K H b ys/\(xs.length<=i\/ys.length<=i)⟩
theorem vA{K:PySem.W.Frag}(a b z TI TO i1 i2:Addr)(D:Pa z TI TO i1 i2 a b):Turn P w K (.Tuple elts k pos) (FJ K a b) [z,TI,TO,i1,i2] z (λi h=>IsZip h z TI TO .none/\Ew h TI (.ref i1) (.ref i2)/\(∃u v,Ew h TO u v)/\h.IsListIter i1 a i/\h.IsListIter i2 b i) where
 mem:=Aa
 obj:=λi h st c hc=>by
  obtain ⟨hz,hTI,⟨u,v,hTO⟩,⟨o1,e1,c1,d1⟩,⟨o2,e2,c2,d2⟩⟩:=st
  simp only[Aj,Ax,or_false] at hc
  rcases hc with rfl | rfl | rfl | rfl | rfl
  ·exact ⟨_,hz,λv z=>by cases z⟩
  ·exact ⟨_,hTI,λv z=>by cases z⟩
  ·exact ⟨_,hTO,λv z=>by cases z⟩
  ·exact ⟨o1,e1,λv z=>by rw[d1] at z; cases z⟩
  ·exact ⟨o2,e2,λv z=>by rw[d2] at z; cases z⟩
 keep:=λi h h' st kp=>by
  obtain ⟨hz,hTI,⟨u,v,hTO⟩,h1,h2⟩:=st
  exact ⟨kp z (by simp) _ hz,kp TI (by simp) _ hTI,⟨u,v,kp TO (by simp) _ hTO⟩,h1.at λo q=>kp i1 (by simp) o q,h2.at λo q=>kp i2 (by simp) o q⟩
 item:=by
  intro X hP hw hK hc i pins s σ H E I hf st hg
  subst hP hw hK
  obtain ⟨xs,ys,x,y,hq1,hq2,hx,hy⟩:=hg
  obtain ⟨its1,rv1,p1,hz1⟩:=I.list hq1
  obtain ⟨its2,rv2,p2,hz2⟩:=I.list hq2
  obtain ⟨u1,hu1,ru1⟩:=rv1.get hx
  obtain ⟨u2,hu2,ru2⟩:=rv2.get hy
  obtain ⟨hz,hTI,⟨o1,o2,hTO⟩,hi1,hi2⟩:=st
  have zl:z<s.heap.objs.size:=Ba hz
  have TIl:TI<s.heap.objs.size:=Ba hTI
  have TOl:TO<s.heap.objs.size:=Ba hTO
  have i1l:i1<s.heap.objs.size:=by obtain ⟨_,q,_⟩:=hi1; exact Ba q
  have i2l:i2<s.heap.objs.size:=by obtain ⟨_,q,_⟩:=hi2; exact Ba q
  refine wpAny_pyNext_zip_item D hz hTI hTO hi1 hi2 p1.isList p2.isList (x:=u1) (y:=u2) (by simpa using hu1) (by simpa using hu2) λh1 a1 a2 a3 a4 a5 a6 hk=>⟨_,rfl,tX a1 λh2 he2 hs2=>?_⟩
  have hs2':Dh z h1 h2:=hs2
  have I1:Inv X pins σ (upd H s.heap.objs.size (.tup [x,y])) { s with heap:=s.heap.push { cls:=.type "tuple",data:=.seq #[u1,u2] } } :=
   I.laid (t':=s.toks) (λb o q=>Af _ q) (Ak _) ⟨by show 2<=Av; decide,[u1,u2],.cons ru1 (.cons ru2 .nil),_,Bb _ rfl,rfl,0,rfl⟩
  have nT:∀c∈[z,TI,TO,i1,i2],c≠s.heap.objs.size:=λc hc=>by
   simp only[Aj,Ax,or_false] at hc
   rcases hc with rfl | rfl | rfl | rfl | rfl <;> exact By (by assumption)
  have fr:∀c∈[z,TI,TO,i1,i2],(upd H s.heap.objs.size (.tup [x,y])) c=none:=λc hc=>by rw[Cj (nT c hc)]; exact (hf c hc).1
  refine ⟨.ref s.heap.objs.size,_,Kh (fp:=[z,TI,TO,i1,i2]) (s:={ s with heap:=s.heap.push { cls:=.type "tuple",data:=.seq #[u1,u2] } }) (h':=h2) (t':=s.toks) I1 (λc o hc q=>?_) (λc hc=>⟨fr c hc,(hf c hc).2⟩),rfl,⟨_,x,y,rfl,I.hok.fresh (Ak _),rfl,(λzs hzs=>by rw[I.list_inj hzs hq1]; exact hx),λzs hzs=>by rw[I.list_inj hzs hq2]; exact hy⟩,⟨he2,?_,⟨u1,u2,?_⟩,?_,?_⟩,fr⟩
  ·simp only[Aj,Ax,or_false,not_or] at hc
   refine (hs2'.2 c hc.1).trans ?_
   by_cases hbT:c=s.heap.objs.size
   ·subst hbT
    have q':=(Bb s.heap (o:={ cls:=.type "tuple",data:=.seq #[u1,u2] }) rfl).symm.trans q
    rw[show h1.get? s.heap.objs.size=_ from a5]
    exact q'
   ·refine hk c o hc.1 hc.2.2.1 hc.2.2.2.1 hc.2.2.2.2 ?_
    have q0:(s.heap.push { cls:=.type "tuple",data:=.seq #[u1,u2] }).get? c=some o:=q
    rcases Ve q0 with zz | zz
    ·exact absurd zz.1 hbT
    ·exact zz
  ·exact (hs2'.2 TI D.TIz).trans (hk TI _ D.TIz D.TITO D.TIi1 D.TIi2 hTI)
  ·exact (hs2'.2 TO D.TOz).trans a2
  ·exact a3.at λo q=>(hs2'.2 i1 D.i1z).trans q
  ·exact a4.at λo q=>(hs2'.2 i2 D.i2z).trans q
 done:=by
  intro X hP hw hK hc i pins s σ H E I hf st hg
  subst hP hw hK
  obtain ⟨xs,ys,hq1,hq2,hx⟩:=hg
  obtain ⟨its1,rv1,p1,hz1⟩:=I.list hq1
  obtain ⟨its2,rv2,p2,hz2⟩:=I.list hq2
  obtain ⟨hz,hTI,⟨o1,o2,hTO⟩,hi1,hi2⟩:=st
  have hl1:=rv1.length
  have hl2:=rv2.length
  refine wpAny_pyNext_zip_end (I.ok.hd hc) D hz hTI hTO hi1 hi2 p1.isList p2.isList ?_ λh1 hk=>⟨rfl,Kh (fp:=[z,TI,TO,i1,i2]) (t':=s.toks) I (λc o hc q=>?_) hf⟩
  ·rcases hx with h | h
   ·exact .inl (by simp; omega)
   ·exact .inr (by simp; omega)
  ·simp only[Aj,Ax,or_false,not_or] at hc
   exact hk c o hc.1 hc.2.2.1 hc.2.2.2.1 hc.2.2.2.2 q
 self:=λ_ _ _ _ _ st h=>Od st.1 h
theorem dS(I l1 l2:Nat)(h1:l1<I)(h2:l2<I):Pa (I+4) (I+2) (I+3) I (I+1) l1 l2:=by
 constructor <;> (intro e; have e':(_:Nat)=_:=e; omega)
section
variable{X:Cx}
def FF(K:PySem.W.Frag)(ta:TA):TI:=λσ H R=>ta σ H λvs H1=>∃a b,vs=[.ref a,.ref b]/\(∃xs,Kb K H1 a xs)/\(∃ys,Kb K H1 b ys)/\R (FJ K a b) H1
theorem V2{elts:List Expr}{k:Nat}{tp:Pos}{p pos:Pos}(hg:Gl X "zip")(hm:X.mg "zip" = none)(ha:PA X [a,b] ta)(hs:Bm [a,b] X.env=(false,eval a X.env)::Bm [b] X.env:=by rfl)(hp:(Gd pos (Bm [b] X.env)).any (·.1)=false:=by rfl):PI X (.Tuple elts k tp) (.Call (.Name "zip" p) [a,b] [] pos) (FF X.K ta):=by
 intro pins s σ H R I h
 refine Call_ (Mq I hg hm (u:=.type "zip") (by decide +kernel) (Eb (Fn (ha pos pins s σ H _ I h) λus s1 ⟨vs,H1,I1,r1,q1⟩=>?_) hs hp))
 obtain ⟨l1,l2,e,⟨xs,hq1⟩,⟨ys,hq2⟩,q⟩:=q1
 subst e
 obtain ⟨u1,u2,rfl,ru1,ru2⟩:=vals2 r1
 cases ru1
 cases ru2
 obtain ⟨its1,rv1,pl1,hz1⟩:=I1.list hq1
 obtain ⟨its2,rv2,pl2,hz2⟩:=I1.list hq2
 have hlt1:l1<s1.heap.objs.size:=let ⟨o,q,_⟩:=pl1.isList; Ba q
 have hlt2:l2<s1.heap.objs.size:=let ⟨o,q,_⟩:=pl2.isList; Ba q
 refine call_zip_2 pl1.isList pl2.isList λh2 hz hTI hTO hi1 hi2 hsz hk=>Od hz ?_
 have fr1:∀n,Ky X pins H1 (s1.heap.objs.size+n):=λn=>I1.fpOk (Gz _ _) (I1.hok.fresh (Gz _ _))
 have fr:∀c∈[s1.heap.objs.size+4,s1.heap.objs.size+2,s1.heap.objs.size+3,s1.heap.objs.size,s1.heap.objs.size+1],Ky X pins H1 c:=λc hc=>by
  simp only[Aj,Ax,or_false] at hc
  rcases hc with rfl | rfl | rfl | rfl | rfl
  ·exact fr1 4
  ·exact fr1 2
  ·exact fr1 3
  ·exact fr1 0
  ·exact fr1 1
 exact ⟨s1.heap.objs.size+4,_,_,_,H1,rfl,I1.kept (t':=s1.toks) hk,vA l1 l2 _ _ _ _ _ (dS _ _ _ hlt1 hlt2),⟨hz,hTI,⟨_,_,hTO⟩,hi1,hi2⟩,fr,q⟩
end
end Nd
namespace Nd
open PySem PySem.Spec PyProof.Rows L2
open AutoSeq1 (wpAny_loadPart')
end Nd
namespace DL
open PySem L2 Nd
def dB(de:DE):DT:=λδ P=>de δ λx δ'=>match x with
 | .dat _ (.bool b)=>P b δ'
 | _=>False
def J4:Ad->Bool
 | .none=>false
 | .bool b=>b
 | .int i=>i != 0
 | .str s=>(s.length:Int) != 0
 | .list ds=>!ds.isEmpty
 | .tuple ds=>!ds.isEmpty
 | .dict _=>true
def BF:Ad->Prop
 | .str s=>s.length<=1000000
 | .dict _=>False
 | _=>True
def Q0(de:DE):DT:=λδ P=>de δ λx δ'=>match x with
 | .dat _ d=>BF d/\P (J4 d) δ'
 | _=>False
def L7(dt:DT):DT:=λδ P=>dt δ λb δ'=>P (!b) δ'
def N8(dt du:DT):DT:=λδ P=>dt δ λb δ'=>match b with
 | true=>du δ' P
 | false=>P false δ'
def CU(dt du:DT):DT:=λδ P=>dt δ λb δ'=>match b with
 | true=>P true δ'
 | false=>du δ' P
def BH(da db:DE):DE:=λδ P=>da δ λx δ'=>match x with
 | .dat _ (.bool true)=>db δ' P
 | .dat _ (.bool false)=>P (.dat .ow (.bool false)) δ'
 | _=>False
def AY(dt:DT)(da db:DE):DE:=λδ P=>dt δ λb δ'=>match b with
 | true=>da δ' P
 | false=>db δ' P
section
variable{K:PySem.W.Frag}{de:DE}
theorem CC:∀σ H Q,LT K (dB de) σ H Q->LE K de σ H λx H'=>∃k,x=.bl k/\Q k H':=by
 intro σ H Q h
 obtain ⟨H0,Y,S,T,δ,P,rfl,hS,hA,hd,k⟩:=h
 refine ⟨H0,Y,S,T,δ,_,rfl,hS,hA,hd,λx δ1 v F S1 H1 e1 e2 hA1 p1=>?_⟩
 split at p1
 ·obtain ⟨rfl,_⟩:=(hA1.told mem_mid).bl_inv
  exact ⟨_,rfl,k _ δ1 S1 H1 e1 e2 hA1.drop p1⟩
 ·exact p1.elim
theorem X7(r:RdF K H v d F)(h:BF d):C5 K v H (J4 d):=by
 cases r with
 | non=>rfl
 | bl b=>rfl
 | int i=>rfl
 | str x=>exact ⟨lG h,rfl⟩
 | lst e l hs =>
  refine .inl ⟨_,Kb.of e,?_⟩
  have:=hs.len
  rename_i xs ds G
  cases xs <;> cases ds <;> first | rfl | cases this
 | tup e l hs =>
  refine .inr (.inl ⟨_,Vh.of e,?_⟩)
  have:=hs.len
  rename_i xs ds
  cases xs <;> cases ds <;> first | rfl | cases this
 | dic _ _ _=>exact h.elim
 | dik _ _ _=>exact h.elim
 | dnm _ _ _=>exact h.elim
theorem R5:∀σ H Q,LT K (Q0 de) σ H Q->LE K de σ H λx H'=>∃k,C5 K x H' k/\Q k H':=by
 intro σ H Q h
 obtain ⟨H0,Y,S,T,δ,P,rfl,hS,hA,hd,k⟩:=h
 refine ⟨H0,Y,S,T,δ,_,rfl,hS,hA,hd,λx δ1 v F S1 H1 e1 e2 hA1 p1=>?_⟩
 split at p1
 ·exact ⟨_,X7 (hA1.told mem_mid) p1.1,k _ δ1 S1 H1 e1 e2 hA1.drop p1.2⟩
 ·exact p1.elim
end
section
variable{X:Cx}{a b c e:Expr}{da db de:DE}{dt du:DT}{pos:Pos}{Fz:List Expr}
theorem Qf(h:Eu X e de)(he:∀whole,isTrue e X.env whole=(do let v <- whole; standAt e.pos; So [v] (truthy v)):=by intro _; rfl):fP X e (dB de):=PT.imp (oS h he) CC
theorem Xc(ho:Xo X (Ho op) r)(o:oF X.K r rd)(ha:Eu X a da)(hb:Eu X b db)(hm:Fp op b=false):fP X (.Compare a [op] [b] pos) (dB (Yk rd da db)):=by
 refine PT.imp (qB ho ha hb hm) λσ H Q h=>?_
 exact dF o _ _ _ (CC σ H Q h)
theorem CB(ha:Eu X a da)(hb:Eu X b db):fP X (.Compare a [.Gt] [b] pos) (dB (Yk rdGt da db)):=Xc BN (rF λ_ _ _=>.bl _) ha hb (Xf _)
theorem dE(hu:X.A.units+64<cLine)(ha:Eu X a da)(hb:Eu X b db):fP X (.Compare a [.Eq] [b] pos) (dB (Yk (gZ false) da db)):=Xc (vP hu) N3 ha hb (Xf _)
theorem qH(hu:X.A.units+64<cLine)(ha:Eu X a da)(hb:Eu X b db):fP X (.Compare a [.NotEq] [b] pos) (dB (Yk (gZ true) da db)):=Xc (Q7 hu) DJ ha hb (Xf _)
theorem DQ(hu:X.A.units+64<cLine)(ha:Eu X a da)(hb:Eu X b db)(hm:Fp .In b=false:=by with_unfolding_all rfl):fP X (.Compare a [.In] [b] pos) (dB (Yk (fT false) da db)):=Xc (xV hu) zF ha hb hm
theorem bH(hu:X.A.units+64<cLine)(ha:Eu X a da)(hb:Eu X b db)(hm:Fp .NotIn b=false:=by with_unfolding_all rfl):fP X (.Compare a [.NotIn] [b] pos) (dB (Yk (fT true) da db)):=Xc (rR hu) zF ha hb hm
theorem U2(ha:Eu X a da)(hb:Eu X b db):fP X (.Compare a [.Is] [b] pos) (dB (Yk (qO false) da db)):=Xc U6 R7 ha hb (Xf _)
theorem yB(ha:Eu X a da)(he:∀whole,isTrue a X.env whole=(do let v <- whole; standAt a.pos; So [v] (truthy v)):=by intro _; rfl):fP X a (Q0 da):=PT.imp (xF ha he) R5
theorem aH(h:fP X a dt):fP X (.UnaryOp .Not a pos) (L7 dt):=by
 refine PT.imp (T3 h) λσ H Q h=>?_
 obtain ⟨H0,Y,S,T,δ,P,rfl,hS,hA,hd,k⟩:=h
 exact ⟨H0,Y,S,T,δ,_,rfl,hS,hA,hd,λb δ' S' H' e1 e2 hA' p=>k _ δ' S' H' e1 e2 hA' p⟩
theorem fS(h:fP X a dt):O8 X (.BoolOp .And [a] pos) dt:=E7 h
theorem oU(h:fP X a dt):O8 X (.BoolOp .Or [a] pos) dt:=R8 h
theorem lO(h:fP X a dt)(hb:O8 X (.BoolOp .And (b::Fz) pos) du):O8 X (.BoolOp .And (a::b::Fz) pos) (N8 dt du):=by
 refine PW.imp (T7 h hb) λσ H Q h=>?_
 obtain ⟨H0,Y,S,T,δ,P,rfl,hS,hA,hd,k⟩:=h
 refine ⟨H0,Y,S,T,δ,_,rfl,hS,hA,hd,λb δ' S' H' e1 e2 hA' p=>?_⟩
 cases b with
 | true=>exact kW ⟨H0,Y,S',T,δ',P,e1,e2,hA',p,k⟩
 | false=>exact mH (k _ δ' S' H' e1 e2 hA' p)
theorem kT(h:fP X a dt)(hb:O8 X (.BoolOp .Or (b::Fz) pos) du):O8 X (.BoolOp .Or (a::b::Fz) pos) (CU dt du):=by
 refine PW.imp (CK h hb) λσ H Q h=>?_
 obtain ⟨H0,Y,S,T,δ,P,rfl,hS,hA,hd,k⟩:=h
 refine ⟨H0,Y,S,T,δ,_,rfl,hS,hA,hd,λb δ' S' H' e1 e2 hA' p=>?_⟩
 cases b with
 | true=>exact kW (k _ δ' S' H' e1 e2 hA' p)
 | false=>exact mH ⟨H0,Y,S',T,δ',P,e1,e2,hA',p,k⟩
theorem sN(h:O8 X a dt):fP X a dt:=PW.pt h
theorem Q3(h:Eu X a da):Eu X (.BoolOp op [a] pos) da:=P4 h
theorem P0(h:Eu X a da)(hb:Eu X (.BoolOp .And (b::Fz) pos) db):Eu X (.BoolOp .And (a::b::Fz) pos) (BH da db):=by
 refine PE.imp (X9 h hb) λσ H Q h=>?_
 obtain ⟨H0,Y,S,T,δ,P,rfl,hS,hA,hd,k⟩:=h
 refine ⟨H0,Y,S,T,δ,_,rfl,hS,hA,hd,λx δ1 v F S1 H1 e1 e2 hA1 p1=>?_⟩
 split at p1
 ·obtain ⟨rfl,_⟩:=(hA1.told mem_mid).bl_inv
  exact ⟨_,rfl,kW ⟨H0,Y,S1,T,δ1,P,e1,e2,hA1.drop,p1,k⟩⟩
 ·obtain ⟨rfl,_⟩:=(hA1.told mem_mid).bl_inv
  exact ⟨_,rfl,mH (k _ δ1 _ [] S1 H1 e1 e2 (hA1.drop.pushI (.bl _)) p1)⟩
 ·exact p1.elim
theorem W4(hc:fP X c dt)(ha:Eu X a da)(hb:Eu X b db):Eu X (.IfExp c a b pos) (AY dt da db):=by
 refine PE.imp (b0 hc ha hb) λσ H Q h=>?_
 obtain ⟨H0,Y,S,T,δ,P,rfl,hS,hA,hd,k⟩:=h
 refine ⟨H0,Y,S,T,δ,_,rfl,hS,hA,hd,λb δ' S' H' e1 e2 hA' p=>?_⟩
 cases b with
 | true=>exact kW ⟨H0,Y,S',T,δ',P,e1,e2,hA',p,k⟩
 | false=>exact mH ⟨H0,Y,S',T,δ',P,e1,e2,hA',p,k⟩
end
theorem PS.impD(h:PS X st t)(k:∀D σ H,t' D σ H->t D σ H):PS X st t':=λpins s σ H D I q=>h pins s σ H D I (k D σ H q)
theorem mZ.impD(h:mZ X st t)(k:∀D σ H,t' D σ H->t D σ H):mZ X st t':=λpins s σ H D I q=>h pins s σ H D I (k D σ H q)
def O3:DB:=λD δ=>D.nx δ
def BX(t u:DB):DB:=λD δ=>t { D with nx:=λδ'=>u D δ' } δ
def CT(de:DE):DB:=λD δ=>de δ D.rt
def GP(dt:DT)(t u:DB):DB:=λD δ=>dt δ λb δ'=>match b with
 | true=>t D δ'
 | false=>u D δ'
def oH(de:DE)(dg:DG):DB:=λD δ=>de δ λx δ'=>dg x δ' D.nx
section
variable{X:Cx}{st:Stmt}{e tg c:Expr}{t u:DB}{Fz:List Stmt}{de:DE}{dg:DG}{dt:DT}{pos:Pos}
theorem Nw:Yo X [] O3:=by
 refine mZ.impD Zc λD σ H h=>?_
 obtain ⟨H0,Y,S,T,δ,P,rfl,hS,hT,hA,hd,k1,k2,k3,k4⟩:=h
 exact k1 δ S H hS hA hd
theorem Ck(h1:lH X st t)(h2:Yo X Fz u):Yo X (st::Fz) (BX t u):=by
 refine mZ.impD (Ex h1 h2) λD σ H h=>?_
 obtain ⟨H0,Y,S,T,δ,P,rfl,hS,hT,hA,hd,k1,k2,k3,k4⟩:=h
 exact ⟨H0,Y,S,T,δ,_,rfl,hS,hT,hA,hd,λδ' S' H' e2 hA' p=>⟨H0,Y,S',T,δ',P,rfl,e2,hT,hA',p,k1,k2,k3,k4⟩,k2,k3,k4⟩
theorem Es(h1:lH X st t):Yo X [st] t:=Kv h1
theorem Gu(he:Eu X e de):lH X (.Return (some e) pos) (CT de):=by
 refine PS.impD (Qe he) λD σ H h=>?_
 obtain ⟨H0,Y,S,T,δ,P,rfl,hS,hT,hA,hd,k1,k2,k3,k4⟩:=h
 exact ⟨H0,Y,S,T,δ,_,rfl,hS,hA,hd,λx δ' v F S' H' e1 e2 hA' p=>k2 x δ' v F S' H' e2 hA' p⟩
theorem Sd(hc:fP X c dt)(ha:Yo X a t)(hb:Yo X b u):lH X (.If c a b pos) (GP dt t u):=by
 refine PS.impD (pF hc ha hb) λD σ H h=>?_
 obtain ⟨H0,Y,S,T,δ,P,rfl,hS,hT,hA,hd,k1,k2,k3,k4⟩:=h
 refine ⟨H0,Y,S,T,δ,_,rfl,hS,hA,hd,λb δ' S' H' e1 e2 hA' p=>?_⟩
 cases b with
 | true=>exact kW ⟨H0,Y,S',T,δ',P,e1,e2,hT,hA',p,k1,k2,k3,k4⟩
 | false=>exact mH ⟨H0,Y,S',T,δ',P,e1,e2,hT,hA',p,k1,k2,k3,k4⟩
theorem aZ(h1:∀σ H Q,LE K de σ H Q->te σ H Q)(h2:∀v σ H Q,LG K dg v σ H Q->g v σ H Q):∀D σ H,LS K (oH de dg) D σ H->uG te g D σ H:=by
 intro D σ H h
 obtain ⟨H0,Y,S,T,δ,P,rfl,hS,hT,hA,hd,k1,k2,k3,k4⟩:=h
 refine h1 _ _ _ ⟨H0,Y,S,T,δ,_,rfl,hS,hA,hd,λx δ' v F S' H' e1 e2 hA' p=>?_⟩
 exact h2 _ _ _ _ ⟨H0,Y,S',T,δ',x,F,P.nx,e1,e2,hA',p,λδ2 S2 H2 e3 hA2 q=>k1 δ2 S2 H2 e3 hA2 q⟩
end
def Qp(i:Nat):DG:=λx δ P=>match x with
 | .dat .pk _=>False
 | .dat _ d=>P ⟨δ.sl.set i (.dat .sh d),δ.n⟩
 | .val v=>P ⟨δ.sl.set i (.val v),δ.n⟩
 | .drw=>P ⟨δ.sl.set i .drw,δ.n⟩
 | .dT kvs=>P ⟨δ.sl.set i (.dT kvs),δ.n⟩
 | _=>False
def iP(i:Nat):DG:=λx δ P=>match x with
 | .dat .ow d=>P ⟨δ.sl.set i (.dat .ow d),δ.n⟩
 | .dat .tp d=>P ⟨δ.sl.set i (.dat .tp d),δ.n⟩
 | _=>False
theorem At.store(h:At K H0 X n (S++e::T) H):At K H0 X n (S.set i e++T) H:=by
 by_cases hi:i<S.length
 ·have hx:S[i]? = some S[i]:=by simp [hi]
  have p:(S++e::T).Perm (S[i]::(S.set i e++T)):=by
   refine Dv.trans ?_
   rw[<- Dl,<- Dl]
   exact (Rj hx).append_right T
  exact (h.perm p).sub (Dg _ _)
 ·rw[List.set_eq_of_length_le (by omega)]
  exact h.drop
theorem hU:vs (S.set i ⟨some v,x,F⟩)=(vs S).set i (some v):=by
 unfold vs
 rw[Eg]
theorem fL(h:Sl S δ):Sl (S.set i ⟨some v,x,F⟩) ⟨δ.sl.set i x,n⟩:=by
 unfold Sl at h ⊢
 rw[Eg,h]
theorem fM:∀v σ H Q,LG K (Qp i) v σ H Q->Rz i v σ H Q:=by
 intro v σ H Q h
 obtain ⟨H0,Y,S,T,δ,x,F,P,rfl,hS,hA,hd,k⟩:=h
 show Q ((vs S).set i (some v)) H
 have fin:∀y,At K H0 Y δ.n (S++⟨some v,y,F⟩::T) H->P ⟨δ.sl.set i y,δ.n⟩->Q ((vs S).set i (some v)) H:=λy hA' p=>by
  rw[<- hU (x:=y) (F:=F)]
  exact k _ _ H (fL hS) hA'.store p
 unfold Qp at hd
 split at hd
 ·exact hd.elim
 ·rename_i m d hm
  refine fin _ ?_ hd
  refine (hA.mid.wk ?_).tomid
  cases m <;> first | rfl | exact (hm rfl).elim
 ·exact fin _ hA hd
 ·exact fin _ hA hd
 ·exact fin _ hA hd
 ·exact hd.elim
theorem xZ:∀v σ H Q,LG K (iP i) v σ H Q->Rz i v σ H Q:=by
 intro v σ H Q h
 obtain ⟨H0,Y,S,T,δ,x,F,P,rfl,hS,hA,hd,k⟩:=h
 show Q ((vs S).set i (some v)) H
 have fin:∀y,At K H0 Y δ.n (S++⟨some v,y,F⟩::T) H->P ⟨δ.sl.set i y,δ.n⟩->Q ((vs S).set i (some v)) H:=λy hA' p=>by
  rw[<- hU (x:=y) (F:=F)]
  exact k _ _ H (fL hS) hA'.store p
 unfold iP at hd
 split at hd
 ·exact fin _ hA hd
 ·exact fin _ hA hd
 ·exact hd.elim
section
variable{X:Cx}{pos:Pos}
theorem Na(hN:X.N.Nodup)(hi:X.N[i]? = some x)(hx:Loc X.env.scope x)(hf:X.fn x=true\/X.env.scope.names.lookup x=some .local:=by first | exact .inl rfl | exact .inr rfl | assumption):BQ X (.Name x pos) (Qp i):=PG.imp (Kz hN hi hx hf) fM
theorem Ga(hN:X.N.Nodup)(hi:X.N[i]? = some x)(hx:Loc X.env.scope x)(he:Eu X e de)(hs:Hm e (some (.Name x pos')) pos.line X.env=pure false:=by rfl)(hf:X.fn x=true\/X.env.scope.names.lookup x=some .local:=by first | exact .inl rfl | exact .inr rfl | assumption):lH X (.Assign [.Name x pos'] e pos) (oH de (Qp i)):=PS.impD (Kt hN hi hx he hs hf) (aZ (λ_ _ _ h=>h) fM)
theorem Qk(hN:X.N.Nodup)(hi:X.N[i]? = some x)(hx:Loc X.env.scope x)(he:Eu X e de)(hs:Hm e (some (.Name x pos')) pos.line X.env=pure false:=by rfl)(hf:X.fn x=true\/X.env.scope.names.lookup x=some .local:=by first | exact .inl rfl | exact .inr rfl | assumption):lH X (.Assign [.Name x pos'] e pos) (oH de (iP i)):=PS.impD (Kt hN hi hx he hs hf) (aZ (λ_ _ _ h=>h) xZ)
end
def vL:j4:=λxs δ P=>match xs with
 | []=>P δ
 | _=>False
def pR(g:DG)(gs:j4):j4:=λxs δ P=>match xs with
 | x::r=>g x δ λδ'=>gs r δ' P
 | []=>False
def yZ(n:Nat)(gs:j4):DG:=λx δ P=>match x with
 | .dat m (.tuple ds)=>ds.length=n/\gs (ds.map λd=>.dat (Oi m) d) δ P
 | _=>False
theorem At.unpack:∀{us:List V} {ds:List Ad} {F:List Addr} {E:List Ent},RdFs K H us ds F->(m=.ow->F.Nodup)->(∀f∈E,Wk ⟨none,.dat (Oi m) .none,F⟩ f)->(∀a∈cells ⟨none,.dat (Oi m) .none,F⟩,H0 a=none)->At K H0 X n E H->∃As:List Ent,As.map Ent.v=us.map some/\As.map Ent.x=ds.map (λd=>.dat (Oi m) d)/\(∀e∈As,∀a∈e.F,a∈F)/\At K H0 X n (As++E) H
 | _,_,_,_,.nil,_,_,_,h=>⟨[],rfl,rfl,λ_ z=>(nomatch z),h⟩
 | _,_,_,E,.cons (x:=x) (d:=d) (F:=F1) (G:=G1) a t,hn,hs,hnew,h=>by
  have cs:∀{G:List Addr} {u:Option V} {d':Ad},(∀b∈G,b∈F1++G1)->∀b∈cells ⟨u,.dat (Oi m) d',G⟩,b∈cells ⟨none,.dat (Oi m) .none,F1++G1⟩:=λ{G u d'} hG b hb=>by
   cases m with
   | ow=>exact hG b hb
   | _=>exact nomatch hb
  have sub:∀{G:List Addr} {u:Option V} {d':Ad} {f:Ent},(∀b∈G,b∈F1++G1)->Wk ⟨none,.dat (Oi m) .none,F1++G1⟩ f->Wk ⟨u,.dat (Oi m) d',G⟩ f:=λ{G u d' f} hG q=>by
   refine ⟨λhp b hb=>q.1 ?_ b (cs hG b hb),λhp b hb z=>q.2 ?_ b hb (hG b z)⟩
   ·rcases hp with hp | hp
    ·exact .inl hp
    ·cases hp
   ·rcases hp with hp | hp
    ·refine .inl ?_
     cases m <;> exact hp
    ·exact .inr hp
  obtain ⟨As,h1,h2,h3,h4⟩:=At.unpack (m:=m) t (λz=>(Gi.mp (hn z)).2.1) (λf hf=>sub (λb hb=>Al _ hb) (hs f hf)) (λb hb=>hnew b (cs (λb hb=>Al _ hb) b hb)) h
  refine ⟨⟨some x,.dat (Oi m) d,F1⟩::As,by rw[Ar,Ar,h1],by rw[Ar,Ar,h2],λe he b hb=>?_,?_⟩
  ·rcases Aj.mp he with rfl | he
   ·exact Am _ hb
   ·exact Al _ (h3 e he b hb)
  ·refine h4.push ⟨x,rfl,a,λz=>?_,λz=>?_⟩ (λf hf=>?_) λb hb=>.inl (hnew b (cs (λb hb=>Am _ hb) b hb))
   ·cases m with
    | ow=>exact (Gi.mp (hn rfl)).1
    | _=>cases z
   ·cases m <;> cases z
   ·rcases Bg.mp hf with hf | hf
    ·have hx:f.x∈As.map Ent.x:=Bs.mpr ⟨f,hf,rfl⟩
     rw[h2] at hx
     obtain ⟨d',_,ed⟩:=Bs.mp hx
     refine ⟨λhp b hb z=>?_,λhp b hb z=>?_⟩
     ·cases m with
      | ow=>exact (Gi.mp (hn rfl)).2.2 b hb b (h3 f hf b z) rfl
      | _=>exact nomatch hb
     ·cases m with
      | ow=>exact (Gi.mp (hn rfl)).2.2 b z b (h3 f hf b (Fo _ _ hb)) rfl
      | _ =>
       unfold cells at hb
       rw[<- ed] at hb
       exact nomatch hb
    ·exact sub (λb hb=>Am _ hb) (hs f hf)
section
variable{X:Cx}{pos:Pos}
theorem B6:B8 X [] vL:=by
 refine U7.imp iD λus σ H Q h=>?_
 obtain ⟨H0,Y,S,T,As,δ,P,rfl,hS,eu,hA,hd,k⟩:=h
 match As,hA,hd,eu with
 | [],hA,hd,eu =>
  cases us with
  | nil=>exact ⟨rfl,k δ S H hS hA hd⟩
  | cons _ _=>cases eu
 | _::_,hA,hd,eu=>exact hd.elim
theorem kR(h1:BQ X e g)(h2:B8 X es gs)(hs:(Kq (e::es) X.env).map (·.2)=Tv e X.env::(Kq es X.env).map (·.2):=by rfl):B8 X (e::es) (pR g gs):=by
 refine U7.imp (Sh h1 h2 hs) λus σ H Q h=>?_
 obtain ⟨H0,Y,S,T,As,δ,P,rfl,hS,eu,hA,hd,k⟩:=h
 match As,hA,hd,eu with
 | [],hA,hd,eu=>exact hd.elim
 | ⟨v,x,F⟩::As,hA,hd,eu =>
  cases us with
  | nil=>cases eu
  | cons u us =>
   rw[Ar,Ar] at eu
   obtain ⟨e1,e2⟩:=Ep eu
   have e1':v=some u:=e1
   subst e1'
   refine ⟨u,us,rfl,H0,Y,S,As++T,δ,x,F,_,rfl,hS,hA,hd,λδ' S' H' e3 hA' p=>?_⟩
   exact ⟨H0,Y,S',T,As,δ',P,rfl,e3,e2,hA',p,k⟩
theorem S7{kk:Nat}(hc:X.calm=true)(h:B8 X es gs)(hn:(Kq es X.env).length=n:=by rfl)(hst:(Kq es X.env).findIdx? (·.1)=none:=by rfl):BQ X (.Tuple es kk pos) (yZ n gs):=by
 refine PG.imp (mG hc h hn hst) λv σ H Q h=>?_
 obtain ⟨H0,Y,S,T,δ,x,F,P,rfl,hS,hA,hd,k⟩:=h
 unfold yZ at hd
 split at hd
 ·rename_i m ds
  obtain ⟨a,xs,rfl,ha,ra,hz⟩:=(hA.told mem_mid).tup_inv
  have hm:=hA.mid
  have hp:=Bf.mp hm.sep
  obtain ⟨w,_,_,hnd,_⟩:=hm.ok _ Aa
  have cs:∀b∈cells ⟨none,.dat (Oi m) .none,F⟩,b∈cells ⟨some (.ref a),.dat m (.tuple ds),F⟩:=λb hb=>by
   cases m with
   | ow=>exact hb
   | _=>exact nomatch hb
  obtain ⟨As,h1,h2,h3,h4⟩:=At.unpack (m:=m) (E:=S++T) ra hnd (λf hf=>by
   refine ⟨λhq b hb=>(hp.1 f hf).1 ?_ b (cs b hb),λhq b hb=>(hp.1 f hf).2 ?_ b hb⟩
   ·rcases hq with hq | hq
    ·exact .inl hq
    ·cases hq
   ·rcases hq with hq | hq
    ·refine .inl ?_
     cases m <;> first | rfl | exact hq
    ·exact .inr hq) (λb hb=>by
   rcases hm.new _ Aa b (cs b hb) with z | z
   ·exact z
   ·cases z.2) hA.drop
  refine ⟨a,xs,rfl,Vh.of ha,by rw[ra.len]; exact hd.1,H0,Y,S,T,As,δ,P,rfl,hS,h1,h4.perm ?_,by rw[h2]; exact hd.2,k⟩
  rw[<- Ce,<- Ce]
  exact Fv.append_right T
 ·exact hd.elim
end
theorem mL(h:At K H0 X n E H):∀{e f:Ent},e∈E->f∈E->e=f\/Wk e f:=by
 have main:∀{E:List Ent},E.Pairwise Wk->∀{e f:Ent},e∈E->f∈E->e=f\/Wk e f:=by
  intro E
  induction E with
  | nil=>intro _ e f he; cases he
  | cons g E ih =>
   intro hp e f he hf
   have hc:=Bf.mp hp
   rcases Aj.mp he with he | he
   ·subst he
    rcases Aj.mp hf with hf | hf
    ·exact .inl hf.symm
    ·exact .inr (hc.1 f hf)
   ·rcases Aj.mp hf with hf | hf
    ·rw[hf]
     exact .inr (hc.1 e he).symm
    ·exact ih hc.2 he hf
 intro e f he hf
 exact main h.sep he hf
abbrev DI:=DS->(Md->List Ad->DS->Prop)->Prop
structure IterOk(K:PySem.W.Frag)(J:It)(hid:List Ent)(m:Md)(ds:List Ad):Prop where
 md:m=.sh\/m=.pk
 hd:∀e∈hid,cells e=[]
 np:m=.sh->∀e∈hid,Lg e.x=false
 go:∀H n i,(∀e∈hid,Hl K H n e)->i<ds.length->J.go i H
 yld:∀H n i x H',(∀e∈hid,Hl K H n e)->i<ds.length->J.yld i H x H'->Mg H H'/\∃d F,ds[i]? = some d/\RdF K H' x d F/\∀a∈F,∃e∈hid,a∈e.F
 stop:∀H n,(∀e∈hid,Hl K H n e)->J.stop ds.length H
def LI(K:PySem.W.Frag)(di:DI):TI:=λσ H R=>∃(H0:Hp) (X:Addr->Prop) (S T:List Ent) (δ:DS) (P:Md->List Ad->DS->Prop),vs S=σ/\Sl S δ/\At K H0 X δ.n (S++T) H/\di δ P /\
 ∀m ds δ' J hid S' H',vs S'=σ->Sl S' δ'->At K H0 X δ'.n (S'++(hid++T)) H'->IterOk K J hid m ds->ds.length<=Av->P m ds δ'->R J H'
abbrev yQ(X:Cx)(tg iter:Expr)(di:DI):Prop:=PI X tg iter (LI X.K di)
theorem PI.imp(h:PI X tg e t)(k:∀σ H Q,t' σ H Q->t σ H Q):PI X tg e t':=λpins s σ H Q I q=>h pins s σ H Q I (k σ H Q q)
def Kl:Md->Md
 | .pk=>.pk
 | _=>.sh
theorem Vu(m:Md):wk m (Kl m)=true:=by cases m <;> rfl
theorem At.item(h:At K H0 X n (S++(hid++T)) H)(s:Mg H H')(r:RdF K H' v d F)(hF:∀a∈F,∃e∈hid,a∈e.F)(md:m=.sh\/m=.pk)(hh:∀e∈hid,cells e=[])(np:m=.sh->∀e∈hid,Lg e.x=false):At K H0 X n (S++⟨some v,.dat m d,F⟩::(hid++T)) H':=by
 have h1:=h.grow (n':=n) s (Ak _)
 have c0:∀a,a∉cells ⟨some v,.dat m d,F⟩:=λa ha=>by
  rcases md with rfl | rfl <;> exact nomatch ha
 refine (h1.push (e:=⟨some v,.dat m d,F⟩) ⟨v,rfl,r,λz=>?_,λz=>?_⟩ (λf hf=>⟨λ_ a ha=>absurd ha (c0 a),λhq a ha z=>?_⟩) λa ha=>absurd ha (c0 a)).tomid
 ·rcases md with rfl | rfl <;> cases z
 ·rcases md with rfl | rfl <;> cases z
 ·obtain ⟨e,he,ze⟩:=hF a z
  have he':e∈S++(hid++T):=Al _ (Am _ he)
  rcases mL h he' hf with rfl | q
  ·rw[hh e he] at ha
   cases ha
  ·refine q.2 ?_ a ha ze
   rcases hq with hq | hq
   ·refine .inl (np ?_ e he)
    rcases md with rfl | rfl
    ·rfl
    ·cases hq
   ·exact .inr hq
def GA(de:DE):DI:=λδ P=>de δ λx δ'=>match x with
 | .dat m (.list ds)=>P (Kl m) ds δ'
 | .dat m (.tuple ds)=>P (Kl m) ds δ'
 | _=>False
def iJ(da:DA):DI:=λδ P=>da δ λxs δ'=>match xs with
 | [.dat _ (.int j)]=>-1000000<=j/\j<=1000000/\P .sh ((Dk j.toNat).map λi:Nat=>.int i) δ'
 | _=>False
def yJ(da:DA):DI:=λδ P=>da δ λxs δ'=>match xs with
 | [.dat m (.list ds)]=>P (Kl m) (ds.zipIdx.map λp=>.tuple [.int p.2,p.1]) δ'
 | _=>False
def EG(da:DA):DI:=λδ P=>da δ λxs δ'=>match xs with
 | [.dat m (.tuple ds)]=>P (Kl m) (ds.zipIdx.map λp=>.tuple [.int p.2,p.1]) δ'
 | _=>False
def mdZip:Md->Md->Md
 | .pk,_=>.pk
 | _,.pk=>.pk
 | _,_=>.sh
def M5(da:DA):DI:=λδ P=>da δ λxs δ'=>match xs with
 | [.dat m (.list ds),.dat m' (.list es)]=>P (mdZip m m') ((ds.zip es).map λp=>.tuple [p.1,p.2]) δ'
 | _=>False
section
variable{K:PySem.W.Frag}
theorem Gx{H:Hp}{hid:List Ent}(h:∀e∈hid,Hl K H n e)(he:⟨some v,.dat m d,F⟩∈hid):RdF K H v d F:=by
 obtain ⟨w,e1,h1,_⟩:=h _ he
 cases e1
 exact h1
theorem aE:cells ⟨v,.dat (Kl m) d,F⟩=[]:=by cases m <;> rfl
theorem iC:∀e∈[(⟨v,.dat (Kl m) d,F⟩ : Ent)],cells e=[]:=λe he=>by
 rw[Ag.mp he]
 exact aE
theorem qL:Kl m=.sh->∀e∈[(⟨v,.dat (Kl m) d,F⟩ : Ent)],Lg e.x=false:=λz e he=>by
 rw[Ag.mp he]
 show Lg (.dat (Kl m) d)=false
 rw[z]
 rfl
theorem gY(m:Md):Kl m=.sh\/Kl m=.pk:=by cases m <;> simp [Kl]
theorem tQ:IterOk K (EH K a) [⟨some (.ref a),.dat (Kl m) (.list ds),F⟩] (Kl m) ds where
 md:=gY m
 hd:=iC
 np:=qL
 go:=λH n i h hi=>by
  obtain ⟨b,xs,G,e,hb,rb,_,_⟩:=(Gx h Aa).list_inv
  cases e
  have hl:=rb.len
  exact ⟨xs,xs[i],Kb.of hb,by simp [show i<xs.length by omega]⟩
 yld:=λH n i x H' h hi y=>by
  obtain ⟨b,xs,G,e,hb,rb,rfl,_⟩:=(Gx h Aa).list_inv
  cases e
  obtain ⟨rfl,y⟩:=y
  have hx:=y xs (Kb.of hb)
  obtain ⟨x',F',h1,h2,h3⟩:=rb.get (i:=i) (e:=ds[i]) (by simp [hi])
  rw[hx] at h1
  cases h1
  exact ⟨Mg.refl _,ds[i],F',by simp [hi],h2,λc hc=>⟨_,Aa,Ae _ (h3.subset hc)⟩⟩
 stop:=λH n h=>by
  obtain ⟨b,xs,G,e,hb,rb,_,_⟩:=(Gx h Aa).list_inv
  cases e
  exact ⟨xs,Kb.of hb,by rw[rb.len]; exact Ak _⟩
theorem i6:IterOk K (FD K a) [⟨some (.ref a),.dat (Kl m) (.tuple ds),F⟩] (Kl m) ds where
 md:=gY m
 hd:=iC
 np:=qL
 go:=λH n i h hi=>by
  obtain ⟨b,xs,e,hb,rb,_⟩:=(Gx h Aa).tup_inv
  cases e
  have hl:=rb.len
  exact ⟨xs,xs[i],Vh.of hb,by simp [show i<xs.length by omega]⟩
 yld:=λH n i x H' h hi y=>by
  obtain ⟨b,xs,e,hb,rb,_⟩:=(Gx h Aa).tup_inv
  cases e
  obtain ⟨rfl,y⟩:=y
  have hx:=y xs (Vh.of hb)
  obtain ⟨x',F',h1,h2,h3⟩:=rb.get (i:=i) (e:=ds[i]) (by simp [hi])
  rw[hx] at h1
  cases h1
  exact ⟨Mg.refl _,ds[i],F',by simp [hi],h2,λc hc=>⟨_,Aa,h3.subset hc⟩⟩
 stop:=λH n h=>by
  obtain ⟨b,xs,e,hb,rb,_⟩:=(Gx h Aa).tup_inv
  cases e
  exact ⟨xs,Vh.of hb,by rw[rb.len]; exact Ak _⟩
theorem nV:IterOk K (N4 lo n) [] .sh ((Dk n).map λi:Nat=>.int (lo+i)) where
 md:=.inl rfl
 hd:=λ_ z=>nomatch z
 np:=λ_ _ z=>nomatch z
 go:=λH k i h hi=>by
  show i<n
  simpa using hi
 yld:=λH k i x H' h hi y=>by
  obtain ⟨rfl,rfl⟩:=y
  rw[Ac,Lz] at hi
  exact ⟨Mg.refl _,.int (lo+i),[],by simp [hi],.int _,λ_ z=>nomatch z⟩
 stop:=λH k h=>by simp [N4]
theorem sM:IterOk K (FE K a) [⟨some (.ref a),.dat (Kl m) (.list ds),F⟩] (Kl m) (ds.zipIdx.map λp=>.tuple [.int p.2,p.1]) where
 md:=gY m
 hd:=iC
 np:=qL
 go:=λH n i h hi=>by
  obtain ⟨b,xs,G,e,hb,rb,_,_⟩:=(Gx h Aa).list_inv
  cases e
  have hl:=rb.len
  rw[Ac,Pl] at hi
  exact ⟨xs,xs[i],Kb.of hb,by simp [show i<xs.length by omega]⟩
 yld:=λH n i x H' h hi y=>by
  obtain ⟨b,xs,G,e,hb,rb,rfl,_⟩:=(Gx h Aa).list_inv
  cases e
  rw[Ac,Pl] at hi
  obtain ⟨t,z,rfl,nt,rfl,y⟩:=y
  have hx:=y xs (Kb.of hb)
  obtain ⟨x',F',h1,h2,h3⟩:=rb.get (i:=i) (e:=ds[i]) (by simp [hi])
  rw[hx] at h1
  cases h1
  have s1:=Dn nt (.tup [.int i,z])
  refine ⟨s1,.tuple [.int i,ds[i]],F',by simp [hi],.tup Cm (by simp [Ie]) ?_,λc hc=>⟨_,Aa,Ae _ (h3.subset hc)⟩⟩
  have:=RdFs.cons (F:=[]) (.int (i:Int)) (RdFs.cons (h2.kp (Kp.of s1)) RdFs.nil)
  rw[Dj] at this
  exact this
 stop:=λH n h=>by
  obtain ⟨b,xs,G,e,hb,rb,_,_⟩:=(Gx h Aa).list_inv
  cases e
  exact ⟨xs,Kb.of hb,by rw[Ac,Pl,rb.len]; exact Ak _⟩
theorem xN:IterOk K (FJ K a b) [⟨some (.ref a),.dat (Kl m) (.list ds),F⟩,⟨some (.ref b),.dat (Kl m') (.list es),G⟩] (mdZip m m') ((ds.zip es).map λp=>.tuple [p.1,p.2]) where
 md:=by cases m <;> cases m' <;> simp [mdZip]
 hd:=λe he=>by
  rcases Aj.mp he with rfl | he
  ·exact aE
  ·rw[Ag.mp he]
   exact aE
 np:=λz e he=>by
  rcases Aj.mp he with rfl | he
  ·cases m <;> cases m' <;> first | rfl | cases z
  ·rw[Ag.mp he]
   cases m <;> cases m' <;> first | rfl | cases z
 go:=λH n i h hi=>by
  obtain ⟨b1,xs,G1,e1,hb1,rb1,_,_⟩:=(Gx h Aa).list_inv
  obtain ⟨b2,ys,G2,e2,hb2,rb2,_,_⟩:=(Gx h (Ae _ Aa)).list_inv
  cases e1
  cases e2
  have l1:=rb1.len
  have l2:=rb2.len
  rw[Ac,Kr] at hi
  exact ⟨xs,ys,xs[i],ys[i],Kb.of hb1,Kb.of hb2,by simp [show i<xs.length by omega],by simp [show i<ys.length by omega]⟩
 yld:=λH n i x H' h hi y=>by
  obtain ⟨b1,xs,G1,e1,hb1,rb1,rfl,_⟩:=(Gx h Aa).list_inv
  obtain ⟨b2,ys,G2,e2,hb2,rb2,rfl,_⟩:=(Gx h (Ae _ Aa)).list_inv
  cases e1
  cases e2
  rw[Ac,Kr] at hi
  obtain ⟨t,u,v,rfl,nt,rfl,y1,y2⟩:=y
  have hx1:=y1 xs (Kb.of hb1)
  have hx2:=y2 ys (Kb.of hb2)
  obtain ⟨x1,F1,h11,h12,h13⟩:=rb1.get (i:=i) (e:=ds[i]) (by simp [show i<ds.length by omega])
  obtain ⟨x2,F2,h21,h22,h23⟩:=rb2.get (i:=i) (e:=es[i]) (by simp [show i<es.length by omega])
  rw[hx1] at h11
  cases h11
  rw[hx2] at h21
  cases h21
  have s1:=Dn nt (.tup [u,v])
  refine ⟨s1,.tuple [ds[i],es[i]],F1++F2,?_,.tup Cm (by simp [Ie]) ?_,λc hc=>?_⟩
  ·rw[Az,show (ds.zip es)[i]? = some (ds[i],es[i]) from List.getElem?_zip_eq_some.mpr ⟨by simp [show i<ds.length by omega],by simp [show i<es.length by omega]⟩]
   rfl
  ·have:=RdFs.cons (h12.kp (Kp.of s1)) (RdFs.cons (h22.kp (Kp.of s1)) RdFs.nil)
   rw[Dj] at this
   exact this
  ·rcases Bg.mp hc with hc | hc
   ·exact ⟨_,Aa,Ae _ (h13.subset hc)⟩
   ·exact ⟨_,Ae _ Aa,Ae _ (h23.subset hc)⟩
 stop:=λH n h=>by
  obtain ⟨b1,xs,G1,e1,hb1,rb1,_,_⟩:=(Gx h Aa).list_inv
  obtain ⟨b2,ys,G2,e2,hb2,rb2,_,_⟩:=(Gx h (Ae _ Aa)).list_inv
  cases e1
  cases e2
  have l1:=rb1.len
  have l2:=rb2.len
  refine ⟨xs,ys,Kb.of hb1,Kb.of hb2,?_⟩
  rw[Ac,Kr]
  omega
end
section
variable{X:Cx}{tg e:Expr}{de:DE}{di:DI}
def dL(de:DE):DI:=λδ P=>de δ λx δ'=>match x with
 | .dat m (.list ds)=>P (Kl m) ds δ'
 | _=>False
def GH(de:DE):DI:=λδ P=>de δ λx δ'=>match x with
 | .dat m (.tuple ds)=>P (Kl m) ds δ'
 | _=>False
theorem E5(h:Eu X e de):yQ X tg e (dL de):=by
 refine PI.imp (fH h) λσ H R h=>?_
 obtain ⟨H0,Y,S,T,δ,P,rfl,hS,hA,hd,k⟩:=h
 refine ⟨H0,Y,S,T,δ,_,rfl,hS,hA,hd,λx δ1 v F S1 H1 e1 e2 hA1 p1=>?_⟩
 split at p1
 ·obtain ⟨a,xs,G,rfl,ha,ra,rfl,hz⟩:=(hA1.told mem_mid).list_inv
  exact ⟨a,rfl,⟨xs,Kb.of ha⟩,k _ _ δ1 _ [_] S1 H1 e1 e2 ((hA1.mid.wk (Vu _)).tomid) tQ hz p1⟩
 ·exact p1.elim
theorem FU(h:Eu X e de):yQ X tg e (GH de):=by
 refine PI.imp (W9 h) λσ H R h=>?_
 obtain ⟨H0,Y,S,T,δ,P,rfl,hS,hA,hd,k⟩:=h
 refine ⟨H0,Y,S,T,δ,_,rfl,hS,hA,hd,λx δ1 v F S1 H1 e1 e2 hA1 p1=>?_⟩
 split at p1
 ·obtain ⟨a,xs,rfl,ha,ra,hz⟩:=(hA1.told mem_mid).tup_inv
  exact ⟨a,rfl,⟨xs,Vh.of ha⟩,k _ _ δ1 _ [_] S1 H1 e1 e2 ((hA1.mid.wk (Vu _)).tomid) i6 hz p1⟩
 ·exact p1.elim
variable{es:List Expr}{da:DA}{a b:Expr}{p pos tp:Pos}{elts:List Expr}{kt:Nat}
theorem Tg(hg:Gl X "range")(hm:X.mg "range" = none)(ha:oW X [a] da)(hs:Bm [a] X.env=[(false,eval a X.env)]:=by rfl):yQ X tg (.Call (.Name "range" p) [a] [] pos) (iJ da):=by
 refine PI.imp (Xd hg hm ha hs) λσ H R h=>?_
 obtain ⟨H0,Y,S,T,δ,P,rfl,hS,hA,hd,k⟩:=h
 refine ⟨H0,Y,S,T,δ,_,rfl,hS,hA,hd,λxs δ' As us S' H' e1 e2 ex eu hA' p=>?_⟩
 split at p
 ·obtain ⟨v,F,rfl,hA2⟩:=Hg eu hA' ex
  obtain ⟨rfl,_⟩:=(hA2.told mem_mid).int_inv
  obtain ⟨j0,j1,pp⟩:=p
  refine ⟨_,rfl,by omega,by omega,k _ _ δ' _ [] S' H' e1 e2 hA2.drop nV (by rw[Ac,Lz]; exact lG (by omega)) ?_⟩
  simpa using pp
 ·exact p.elim
theorem eX(hg:Gl X "enumerate")(hm:X.mg "enumerate" = none)(ha:oW X [a] da)(hs:Bm [a] X.env=[(false,eval a X.env)]:=by rfl):yQ X (.Tuple elts kt tp) (.Call (.Name "enumerate" p) [a] [] pos) (yJ da):=by
 refine PI.imp (C2 hg hm ha hs) λσ H R h=>?_
 obtain ⟨H0,Y,S,T,δ,P,rfl,hS,hA,hd,k⟩:=h
 refine ⟨H0,Y,S,T,δ,_,rfl,hS,hA,hd,λxs δ' As us S' H' e1 e2 ex eu hA' p=>?_⟩
 split at p
 ·obtain ⟨v,F,rfl,hA2⟩:=Hg eu hA' ex
  obtain ⟨a,xs,G,rfl,ha,ra,rfl,hz⟩:=(hA2.told mem_mid).list_inv
  exact ⟨a,rfl,⟨xs,Kb.of ha⟩,k _ _ δ' _ [_] S' H' e1 e2 ((hA2.mid.wk (Vu _)).tomid) sM (by rw[Ac,Pl]; exact hz) p⟩
 ·exact p.elim
theorem R9(hg:Gl X "zip")(hm:X.mg "zip" = none)(ha:oW X [a,b] da)(hs:Bm [a,b] X.env=(false,eval a X.env)::Bm [b] X.env:=by rfl)(hp:(Gd pos (Bm [b] X.env)).any (·.1)=false:=by rfl):yQ X (.Tuple elts kt tp) (.Call (.Name "zip" p) [a,b] [] pos) (M5 da):=by
 refine PI.imp (V2 hg hm ha hs hp) λσ H R h=>?_
 obtain ⟨H0,Y,S,T,δ,P,rfl,hS,hA,hd,k⟩:=h
 refine ⟨H0,Y,S,T,δ,_,rfl,hS,hA,hd,λxs δ' As us S' H' e1 e2 ex eu hA' p=>?_⟩
 split at p
 ·obtain ⟨v,F,w,G,rfl,hA2⟩:=Wo eu hA' ex
  obtain ⟨a,xs,G1,rfl,ha,ra,rfl,hz⟩:=(hA2.told mem_mid).list_inv
  obtain ⟨b,ys,G2,rfl,hb,rb,rfl,hz2⟩:=(hA2.told Ek).list_inv
  refine ⟨a,b,rfl,⟨xs,Kb.of ha⟩,⟨ys,Kb.of hb⟩,k _ _ δ' _ [_,_] S' H' e1 e2 (((((hA2.mid.wk (Vu _)).tomid).swap.mid.wk (Vu _)).tomid).swap) xN (by rw[Ac,Kr]; omega) p⟩
 ·exact p.elim
end
def BB(di:DI)(dg:DG)(db:DB):DB:=λD δ=>di δ λm ds δ1=>m=.sh/\∃I:Nat->DS->Prop,I 0 δ1 /\
 (∀i d δ',ds[i]? = some d->I i δ'->dg (.dat .sh d) δ' λδ2=>db { D with nx:=I (i+1),ct:=I (i+1),bk:=D.nx } δ2)/\∀δ',I ds.length δ'->D.nx δ'
section
variable{X:Cx}{tg iter:Expr}{di:DI}{dg:DG}{db:DB}{body:List Stmt}{pos:Pos}
theorem At.dropH{X:Addr->Prop}(h:At K H0 X n (S++e::(hid++T)) H):At K H0 X n (S++e::T) H:=h.sub ((Ec S).append ((Cu hid T).cons₂ e))
theorem Ur(hp:PassesOwn (model X.prog X.w) X.A X.env X.xe)(hc:X.calm=true)(hi:yQ X tg iter di)(hg:BQ X tg dg)(hb:Yo X body db)(hs:∀x,Dz iter X.env x=pure x:=by intro _; rfl):lH X (.For tg iter body [] pos) (BB di dg db):=by
 refine PS.impD (fJ hp hc hi hg hb hs) λD σ H h=>?_
 obtain ⟨H0,Y,S,T,δ,P,rfl,hS,hT,hA,hd,k1,k2,k3,k4⟩:=h
 refine ⟨H0,Y,S,T,δ,_,rfl,hS,hA,hd,λm ds δ1 J hid S1 H1 e1 e2 hA1 it hz p1=>?_⟩
 obtain ⟨rfl,I,h0,hs,hf⟩:=p1
 rw[<- e1]
 have hT':∀e∈hid++T,Lg e.x=false:=λe he=>by
  rcases Bg.mp he with he | he
  ·exact it.np rfl e he
  ·exact hT e he
 refine ⟨λi q σ H=>q=ds.length - i/\i<=ds.length/\∃S δ,vs S=σ/\Sl S δ/\At X.K H0 Y δ.n (S++(hid++T)) H/\I i δ,⟨ds.length,by simp,Cr _,S1,δ1,rfl,e2,hA1,h0⟩,?_⟩
 (intro i q σ H q_; obtain ⟨rfl,hi,S2,δ2,rfl,e3,hA2,hI⟩ := q_)
 have hid_ok:∀e∈hid,Hl X.K H δ2.n e:=λe he=>hA2.ok e (Al _ (Am _ he))
 by_cases hlt:i<ds.length
 ·refine .inr ⟨it.go H δ2.n i hid_ok hlt,λσ' H'=>∃S δ,vs S=σ'/\Sl S δ/\At X.K H0 Y δ.n (S++(hid++T)) H'/\I (i+1) δ,λσ' H' q=>⟨ds.length - (i+1),by omega,rfl,hlt,q⟩,λx H' y=>?_⟩
  obtain ⟨s1,d,F,h1,h2,h3⟩:=it.yld H δ2.n i x H' hid_ok hlt y
  refine ⟨H0,Y,S2,hid++T,δ2,.dat .sh d,F,_,rfl,e3,hA2.item s1 h2 h3 it.md it.hd it.np,hs i d δ2 h1 hI,λδ3 S3 H3 e4 hA3 p3=>?_⟩
  refine ⟨H0,Y,S3,hid++T,δ3,_,rfl,e4,hT',hA3,p3,λδ4 S4 H4 e5 hA4 p4=>⟨S4,δ4,rfl,e5,hA4,p4⟩,λx δ4 v F S4 H4 e5 hA4 p4=>k2 x δ4 v F S4 H4 e5 hA4.dropH p4,
   λδ4 S4 H4 e5 hA4 p4=>k1 δ4 S4 H4 e5 hA4.dropL p4,λδ4 S4 H4 e5 hA4 p4=>⟨S4,δ4,rfl,e5,hA4,p4⟩⟩
 ·have e:i=ds.length:=by omega
  subst e
  exact .inl ⟨it.stop H δ2.n hid_ok,k1 δ2 S2 H e3 hA2.dropL (hf δ2 hI)⟩
end
end DL
namespace Nd
open PySem PySem.Spec PyProof.Rows L2
section
variable{X:Cx}
theorem yF{elt iter:Expr}{x x2 y0:Str}{px px2 pt py pos spos:Pos}{kt:Nat}{i0:Nat}{ifs:List Expr}{scope:Scope}(hN:X.N.Nodup)(hi0:X.N[i0]? = some y0)(hy0:X.env.scope.names.lookup y0=some .local)(C:CompScope X scope cl x ys js)(own2:mP scope x2)(nd2:(x::x2::ys).Nodup)(hc:X.calm=true)(hi:PI X (.Tuple [.Name x px,.Name x2 px2] kt pt) iter wi)(ht:∀fp s H,oM (Dy X scope cl (x::x2::ys) fp s H) ifs tc)(he:∀fp s H,PE (Dy X scope cl (x::x2::ys) fp s H) elt te)(hs:∀x,Dz iter X.env x=pure x:=by intro _; rfl)(hsw:Hm (.ListComp elt [⟨.Tuple [.Name x px,.Name x2 px2] kt pt,iter,ifs,0⟩] scope pos) (some (.Name y0 py)) spos.line X.env=pure true:=by rfl):PS X (.Assign [.Name y0 py] (.ListComp elt [⟨.Tuple [.Name x px,.Name x2 px2] kt pt,iter,ifs,0⟩] scope pos) spos) (uG (fZ X.K wi js tc te) (Rz i0)):=by
 intro pins s σ H De I h
 have h:fZ X.K wi js tc te σ H λv H1=>De.nx (σ.set i0 (some v)) H1:=h
 rw[exec_Assign_Name_used _ _ _ _ hsw]
 refine Ab (bJ (Ab ?_))
 show wpAny _ X.A (do let _ <- comprehension (.ListComp elt [⟨.Tuple [.Name x px,.Name x2 px2] kt pt,iter,ifs,0⟩] scope pos) scope X.env _ (newList []) false (eval iter X.env) (some (Tv (.Name y0 py) X.env))) _ _ s
 refine Ab (Eo (Ln (use:=some (Tv (.Name y0 py) X.env)) (Q:=λ_ s'=>SP X pins De .next s') rfl hs C.clos C.kind C.locs (Fn (hi pins s σ H _ I h) λv s1 h1=>Fn h1 λitv s2 h2=>?_)) (λ_ s' hq=>Ao (Ao hq)) λ_ _ e=>e)
 obtain ⟨it,fp,tn,J,H2,e,I2,T,st2,f2,q2⟩:=h2
 subst e
 have fD:H2 s2.heap.objs.size=none:=I2.hok.fresh (Ak _)
 obtain ⟨W,⟨m0,w0⟩,turn⟩:=q2 s2.heap.objs.size fD
 refine Fs ?_
 have I3:Inv X pins σ (upd H2 s2.heap.objs.size (.lst [])) { s2 with heap:=s2.heap.push { cls:=.type "list",dict:=none,data:=.seq ([]:List Value).toArray } } :=
  I2.laid (t':=s2.toks) (λb u q=>Af _ q) (Ak _) ⟨Cr _,[],0,.nil,Bb _ rfl⟩
 obtain ⟨f3,st3',o3'⟩:=Wa I2 T st2 f2 I3
 generalize hS3:({ s2 with heap:=s2.heap.push { cls:=.type "list",dict:=none,data:=.seq ([]:List Value).toArray } }:Ai)=s3 at I3
 have st3:tn 0 s3.heap:=by rw[<- hS3]; exact st3'
 have o3:∀b∈fp,∃o,s3.heap.get? b=some o:=by rw[<- hS3]; exact o3'
 show wpAny _ _ (Mv scope X.env.globals cl [] X.env.qual none .none (some X.env)) _ _ _
 refine Tn C λh4 hns4 keep4 new4=>?_
 have I4:∀tk,Inv (Dy X scope cl (x::x2::ys) fp s3 (upd H2 s2.heap.objs.size (.lst []))) [] (none::none::Fl σ js) (upd H2 s2.heap.objs.size (.lst [])) { s3 with heap:=h4,toks:=tk }:=λtk=>Qh (pre:=[x,x2]) C I3 f3 o3 hns4 keep4 new4
 have st4:tn 0 h4:=T.keep 0 _ _ st3 λb hb o q=>keep4 b o q
 generalize hX':Dy X scope cl (x::x2::ys) fp s3 (upd H2 s2.heap.objs.size (.lst []))=X' at I4
 obtain ⟨eP,eW,eK,eA,eC⟩:=We hc hX'
 have stat:∀{H':Hp},(∀b∈fp,H' b=none)->∀b∈fp,Ky X' [] H' b:=λ{H'} hn=>Tp hX' (I4 0) hn
 have loop:∀s5:Ai,s5={ s3 with heap:=h4,toks:=s3.toks+([]:List (Str×Value)).length } ->
   Mx (model X.prog X.w) X.A (.compLoop (.ListComp elt [⟨.Tuple [.Name x px,.Name x2 px2] kt pt,iter,ifs,0⟩] scope pos) 0 (.ref it) (.ref s2.heap.objs.size) (compEnvC scope (Eh (s3.heap.objs.size+1) scope.names cl) s3.heap.objs.size X.env))
    (compPost (model X.prog X.w) X.A X.xe (some (Tv (.Name y0 py) X.env)) (λ_ s'=>SP X pins De .next s') (.ref s2.heap.objs.size) s3.heap.objs.size) s5:=by
  rintro s5 rfl
  refine Qm (λn s'=>∃i o o2 H',Inv X' [] (o::o2::Fl σ js) H' s'/\tn i s'.heap/\(∀b∈fp,H' b=none)/\W i n H') ?_ m0
   ⟨0,none,none,_,I4 _,st4,λb hb=>(f3 b hb).1,w0⟩
  (intro n s6 q_; obtain ⟨i,o,o2,H6,I6,st6,fr6,w6⟩ := q_)
  rcases turn i n H6 w6 with ⟨stop,qn⟩ | ⟨go,step⟩
  ·have hd:=T.done X' eP eW eK eC i [] s6 _ H6 (λ_ _=>False) I6 (stat fr6) st6 stop
   rw[eA] at hd
   refine Fn hd λr s7 q0_ => ?_
   obtain ⟨hr,I7⟩ := q0_
   subst hr
   obtain ⟨⟨m7,hn7'⟩,I7f,J7⟩:=cU hX' I3 f3 I7
   have fC:Ky X pins H6 s3.heap.objs.size:=I3.fpOk (Ak _) I7f
   obtain ⟨oC,esC,epC,hoC,rC⟩:=id hn7'
   have J8:Inv X (pins++[(s3.heap.objs.size,oC)]) σ H6 s7:=J7.pins_of λp hp=>by
    rcases Bg.mp hp with z | z
    ·have q:=J7.pin p (Al _ z)
     exact q
    ·rw[Ag.mp z]
     exact ⟨hoC,I7f,fC.2.1,fC.2.2.1,λv hv=>by rw[rC.1] at hv; cases hv⟩
   refine Fn (Kz (X:=X) (i:=i0) (x:=y0) (pos:=py) hN hi0 (.inl hy0) (.inr hy0) (pins++[(s3.heap.objs.size,oC)]) s7 σ H6 (.ref s2.heap.objs.size) (.ref s2.heap.objs.size) (λσ' H'=>σ'=σ.set i0 (some (.ref s2.heap.objs.size))/\H'=H6) J8 rfl ⟨rfl,rfl⟩) λ_ s9 q0_ => ?_
   obtain ⟨σ9,H9,I9,e9,e9'⟩ := q0_
   subst e9 e9'
   have hoC9:=(I9.pin (s3.heap.objs.size,oC) (Al _ (Al _ Aa))).1
   have I9':Inv X pins (σ.set i0 (some (.ref s2.heap.objs.size))) H9 s9:=I9.pins_of λp hp=>I9.pin p (Al _ (Am _ hp))
   refine ⟨m7,hn7'.at λo e=>by rw[hoC] at e; cases e; exact hoC9,λh10 hs10=>?_⟩
   exact ⟨_,H9,Kh (t':=s9.toks) (fp:=[s3.heap.objs.size]) I9' (λb o hb e=>(hs10.2 b (λz=>hb (by rw[z]; exact Aa))).trans e) (λb hb=>by rw[Ag.mp hb]; exact fC),qn⟩
  ·have hit:=T.item X' eP eW eK eC i [] s6 _ H6 (λ_ _=>False) I6 (stat fr6) st6 go
   rw[eA] at hit
   refine Fn hit λr s7 q0_ => ?_
   obtain ⟨u,hr,h7⟩ := q0_
   subst hr
   refine Fn h7 λ_ s8 q0_ => ?_
   obtain ⟨y,H8,I8,r8,y8,st8,fr8⟩ := q0_
   have I8':=I8.pinned (stat fr8) (T.obj _ _ st8)
   obtain ⟨tp,w1,w2,ey,hsq,N1,N2,hN1,hN2,hst⟩:=step y H8 y8
   have again:∀{H9:Hp} {s9:Ai} {m':Nat},Inv X' ([]++Ru fp s8.heap) (some w1::some w2::Fl σ js) H9 s9->m'<n->W (i+1) m' H9->∃m,m<n/\∃i o o2 H',Inv X' [] (o::o2::Fl σ js) H' s9/\tn i s9.heap/\(∀b∈fp,H' b=none)/\W i m H':=λ{H9 s9 m'} I9 hm w9=>by
    refine ⟨m',hm,i+1,some w1,some w2,H9,I9.unpinned,T.keep _ _ _ st8 λb hb o e=>(I9.pin (b,o) (Al _ (Al _ (Hq hb e)))).1,λb hb=>?_,w9⟩
    obtain ⟨o,e,_⟩:=T.obj _ _ st8 b hb
    exact (I9.pin (b,o) (Al _ (Al _ (Hq hb e)))).2.1
   subst hX'
   have g1:PG (Dy X scope cl (x::x2::ys) fp s3 (upd H2 s2.heap.objs.size (.lst []))) (.Tuple [.Name x px,.Name x2 px2] kt pt) (S0 X.K 2 (iT (Rz 0) (iT (Rz 1) T5))) :=
    mG (X:=Dy X scope cl (x::x2::ys) fp s3 (upd H2 s2.heap.objs.size (.lst []))) hc (Sh (Kz (i:=0) (x:=x) nd2 rfl (Tq C.own) (Xh C.own)) (Sh (Kz (i:=1) (x:=x2) nd2 rfl (Tq own2) (Xh own2)) iD))
   refine Fn (g1 _ s8 _ H8 y u (λσ' H'=>σ'=some w1::some w2::Fl σ js/\H'=H8) I8' r8 ⟨tp,[w1,w2],ey,hsq,rfl,_,_,rfl,_,_,rfl,rfl,rfl,rfl⟩) λ_ s9 q0_ => ?_
   obtain ⟨σ9,H9,I9,e9,e9'⟩ := q0_
   subst e9 e9'
   refine Fn (ht fp s3 _ _ s9 _ _ _ I9 hst) λok s10 q0_ => ?_
   obtain ⟨H10,I10,q10⟩ := q0_
   cases ok with
   | false =>
    rw[if_neg Bq] at q10 ⊢
    obtain ⟨m',hm,w10⟩:=hN1 _ q10
    exact again I10 hm w10
   | true =>
    rw[if_pos rfl] at q10 ⊢
    refine Fn (he fp s3 _ _ s10 _ _ _ I10 q10) λz s11 q0_ => ?_
    obtain ⟨vz,H11,I11,r11,q11⟩ := q0_
    obtain ⟨acc,ha,hz,m',hm,w11⟩:=hN2 _ _ q11
    refine Fn (Lw _ s11 _ H11 (.ref s2.heap.objs.size) [vz] (.ref s2.heap.objs.size) [z] (λ_ H'=>H'=upd H11 s2.heap.objs.size (.lst (acc++[vz]))) I11 rfl (.cons r11 .nil) ⟨_,acc,vz,rfl,rfl,ha,hz,rfl⟩) λ_ s12 q0_ => ?_
    obtain ⟨_,H12,I12,_,e12⟩ := q0_
    subst e12
    exact again I12 hm w11
 exact Mw (loop _ rfl) (T.self X.A 0 _ _ _ st4 (loop _ rfl))
end
end Nd
namespace DL
open PySem L2 Nd
def al(e:Ent):Ent:=match e.x with
 | .dat m d=>⟨e.v,.dat (fW m) d,e.F⟩
 | .val _=>e
 | .scr _=>e
 | _=>⟨e.v,.un,[]⟩
def alD:DV->DV
 | .dat m d=>.dat (fW m) d
 | .val v=>.val v
 | .scr ns=>.scr ns
 | _=>.un
def yN(S:List Ent)(j:Nat):Ent:=match S[j]? with
 | some e=>al e
 | none=>⟨none,.un,[]⟩
def Zb(S:List Ent)(js:List Nat):List Ent:=js.map (yN S)
def frD1(sl:List DV)(j:Nat):DV:=match sl[j]? with
 | some x=>alD x
 | none=>.un
def frD(sl:List DV)(js:List Nat):List DV:=js.map (frD1 sl)
theorem FA(e:Ent):(al e).v=e.v:=by
 obtain ⟨v,x,F⟩:=e
 cases x <;> rfl
theorem EV(e:Ent):(al e).x=alD e.x:=by
 obtain ⟨v,x,F⟩:=e
 cases x <;> rfl
theorem qU(S:List Ent)(js:List Nat):vs (Zb S js)=Fl (vs S) js:=by
 unfold vs Zb Fl
 rw[Bx]
 refine Fk λj _=>?_
 rw[Az]
 simp only[Uj,yN]
 cases S[j]? with
 | none=>rfl
 | some e=>exact FA e
theorem qJ(h:Sl S δ)(js:List Nat):(Zb S js).map Ent.x=frD δ.sl js:=by
 unfold Sl at h
 unfold Zb frD
 rw[Bx]
 refine Fk λj _=>?_
 simp only[Uj,yN,frD1]
 rw[<- h,Az]
 cases S[j]? with
 | none=>rfl
 | some e=>exact EV e
section
variable{K:PySem.W.Frag}{H0 H H':Hp}{X:Addr->Prop}{n:Nat}{E S T:List Ent}
theorem kU(e:Ent):cells (al e)=[]:=by
 obtain ⟨v,x,F⟩:=e
 cases x with
 | dat m d=>cases m <;> rfl
 | _=>rfl
theorem At.view1(h:At K H0 X n E H)(he:e∈E):At K H0 X n (al e::E) H:=by
 refine h.push ?_ (λf hf=>⟨λ_ a ha=>(by rw[kU] at ha; cases ha),λhq a ha z=>?_⟩) λa ha=>(by rw[kU] at ha; cases ha)
 ·have:=h.ok e he
  obtain ⟨v,x,F⟩:=e
  cases x with
  | dat m d =>
   obtain ⟨w,h1,h2,_⟩:=this
   exact ⟨w,h1,h2,λz=>(by cases m <;> cases z),λz=>(by cases m <;> cases z)⟩
  | val v=>exact this
  | scr ns=>exact this
  | _=>exact (rfl:([]:List Addr)=[])
 ·obtain ⟨v,x,F⟩:=e
  cases x with
  | dat m d =>
   rcases mL h he hf with rfl | q
   ·rcases hq with hq | hq
    ·cases m <;> first | cases hq; done | exact nomatch ha
    ·cases hq
   ·refine q.2 ?_ a ha z
    rcases hq with hq | hq
    ·refine .inl ?_
     cases m <;> first | rfl | exact hq
    ·exact .inr hq
  | val v =>
   rw[show F=[] from (h.ok _ he).2] at z
   cases z
  | scr ns =>
   obtain ⟨_,_,hF,_⟩:=h.ok _ he
   rw[show F=[] from hF] at z
   cases z
  | _=>exact nomatch z
theorem At.blank(h:At K H0 X n E H):At K H0 X n (⟨v,.un,[]⟩::E) H :=
 h.push (rfl:([]:List Addr)=[]) (λf _=>⟨λ_ a ha=>(nomatch ha),λ_ a _=>Ax⟩) (λa ha=>(nomatch ha))
theorem At.view(h:At K H0 X n E H)(hS:∀e∈S,e∈E):∀js:List Nat,At K H0 X n (Zb S js++E) H
 | []=>h
 | j::js=>by
  have ih:=At.view h hS js
  show At K H0 X n (yN S j::(Zb S js++E)) H
  unfold yN
  cases e:S[j]? with
  | none=>exact ih.blank
  | some x=>exact ih.view1 (Al _ (hS x (Au e)))
theorem At.accNew(h:At K H0 X n E H)(hD:H D=Pp):At K H0 X n (⟨some (.ref D),.acc [],[D]⟩::E) (upd H D (.lst [])):=by
 have s1:=Dn hD (.lst [])
 refine (h.grow (n':=n) s1 (Ak _)).push ⟨D,[],[],rfl,rfl,Cm,.nil,Cr _,Ax⟩ (λf hf=>?_) λa ha=>?_
 ·have nf:=h.free hD f hf
  refine ⟨λ_ a ha z=>?_,λ_ a ha z=>?_⟩
  ·rw[Ag.mp ha] at z
   exact nf z
  ·rw[Ag.mp z] at ha
   exact nf (Fo _ _ ha)
 ·rw[Ag.mp ha]
  exact .inl (h.new0 hD)
theorem At.accPutG(h:At K H0 X n (⟨some (.ref D),.acc ds,D::G⟩::⟨some v,.dat m e,F⟩::E) H)(hm:m≠.pk)(hz:ds.length+1<=Av):∃xs,H D=some (.lst xs)/\xs.length=ds.length/\At K H0 X n (⟨some (.ref D),.acc (ds++[e]),D::(G++F)⟩::E) (upd H D (.lst (xs++[v]))):=by
 obtain ⟨a,xs,G',e1,e0,ha,ra,_,nG⟩:=h.ok _ Aa
 have e1':some (V.ref D)=some (V.ref a):=e1
 cases e1'
 have e0':D::G=D::G':=e0
 cases e0'
 have r:RdF K H v e F:=h.told (Ae _ Aa)
 have hs:=Bf.mp h.sep
 have hs2:=Bf.mp hs.2
 have h1:=(h.sub (Dg _ _)).sub (Dg _ _)
 have npk:Lg (.dat m e)=false:=by cases m <;> first | rfl | exact absurd rfl hm
 have nF:D∉F:=(hs.1 _ Aa).1 (.inr rfl) D Aa
 have kp:∀{F:List Addr},D∉F->Kp F H (upd H D (.lst (xs++[v]))):=λ{F} hF b o q z=>by
  have : b≠D:=by
   rintro rfl
   rw[ha] at q
   cases q
   rcases z with z | z
   ·exact hF z
   ·rcases z with ⟨_,z⟩ | ⟨_,_,z⟩ <;> cases z
  rw[Cj this]
  exact q
 have nD:H0 D=Pp:=by
  rcases h.new _ Aa D Aa with z | z
  ·exact z
  ·cases z.2
 refine ⟨xs,ha,ra.len,?_⟩
 refine ⟨λf hf=>?_,?_,λf hf=>?_,λb o nx q=>?_,λb o q=>?_,λb hb=>?_⟩
 rotate_right
 ·obtain ⟨z,c,k,f,h1,h2⟩:=h.xd b hb
  refine ⟨z,c,k,f,(Cj ?_).trans h1,h2⟩
  rintro rfl
  exact z nD
 ·rcases Aj.mp hf with rfl | hf
  ·exact ⟨D,xs++[v],G++F,rfl,rfl,Cm,(ra.kp (kp nG)).snoc (r.kp (kp nF)),by rw[Bw]; exact hz,λz=>(Bg.mp z).elim nG nF⟩
  ·exact (h1.ok f hf).kp (kp ((hs.1 f (Ae _ hf)).1 (.inr rfl) D Aa)) (Ak _)
 ·refine Bf.mpr ⟨λf hf=>⟨λhq a ha'=>(hs.1 f (Ae _ hf)).1 (.inr rfl) a ha',λhq a ha' z=>?_⟩,hs2.2⟩
  have z1:=(hs.1 f (Ae _ hf)).2 (.inl rfl) a ha'
  rcases Aj.mp z with z | z
  ·exact z1 (z▸Aa)
  ·rcases Bg.mp z with z | z
   ·exact z1 (Ae _ z)
   ·exact (hs2.1 f hf).2 (.inl npk) a ha' z
 ·rcases Aj.mp hf with rfl | hf
  ·intro a ha'
   rw[Ag.mp ha']
   exact .inl nD
  ·exact h1.new f hf
 ·rw[Cj (Dc q nD)]
  exact h.same b o nx q
 ·rw[Cj (Dc q nD)]
  exact h.dom b o q
theorem At.accPut(h:At K H0 X n (⟨some (.ref D),.acc ds,[D]⟩::E) H)(r:RdF K H v e [])(hz:ds.length+1<=Av):∃xs,H D=some (.lst xs)/\xs.length=ds.length/\At K H0 X n (⟨some (.ref D),.acc (ds++[e]),[D]⟩::E) (upd H D (.lst (xs++[v]))) :=
 At.accPutG (m:=.ow) (At.pushI (S:=[⟨some (.ref D),.acc ds,[D]⟩]) h r) (by decide) hz
def dW:Bool->Md
 | true=>.ow
 | false=>.tp
theorem At.accGetG(h:At K H0 X n (⟨some (.ref D),.acc ds,D::G⟩::E) H)(hb:b=true->G=[]):At K H0 X n (⟨some (.ref D),.dat (dW b) (.list ds),D::G⟩::E) H:=by
 obtain ⟨a,xs,G',e1,e0,ha,ra,hz,nG⟩:=h.ok _ Aa
 have e1':some (V.ref D)=some (V.ref a):=e1
 cases e1'
 have e0':D::G=D::G':=e0
 cases e0'
 have hs:=Bf.mp h.sep
 have cs:∀a∈cells ⟨some (.ref D),.dat (dW b) (.list ds),D::G⟩,a=D:=λa ha'=>by
  cases b with
  | true=>rw[hb rfl] at ha'; exact Ag.mp ha'
  | false=>exact Ag.mp ha'
 refine (h.sub (Dg _ _)).push ⟨_,rfl,.lst ha hz ra,λz=>?_,λ_ a l e=>?_⟩ (λf hf=>⟨λhq a ha'=>?_,λhq a ha'=>(hs.1 f hf).2 (.inl rfl) a ha'⟩) λa ha'=>?_
 ·cases b with
  | true=>rw[hb rfl]; exact Bz.mpr ⟨Ax,Co⟩
  | false=>cases z
 ·have e:D::G=a::l:=e
  cases e
  exact nG
 ·rw[cs a ha']
  exact (hs.1 f hf).1 (.inr rfl) D Aa
 ·rw[cs a ha']
  rcases h.new _ Aa D Aa with z | z
  ·exact .inl z
  ·cases z.2
theorem At.accGet(h:At K H0 X n (⟨some (.ref D),.acc ds,[D]⟩::E) H):At K H0 X n (⟨some (.ref D),.dat .ow (.list ds),[D]⟩::E) H:=At.accGetG (b:=true) h λ_=>rfl
end
def gH:DT:=λδ P=>P true δ
def S5(b:Bool)(m:Md)(e:Ad):Prop:=match b with
 | true=>imm e=true
 | false=>m≠.pk
def Ta(b:Bool)(dc:DT)(de:DE)(δ:DS)(yes:Ad->Nat->Prop)(no:Nat->Prop):Prop:=dc δ λc δ2=>match c with
 | true=>de δ2 λy δ3=>match y with
  | .dat m e=>S5 b m e/\yes e δ3.n
  | _=>False
 | false=>no δ2.n
def xB(b:Bool)(di:DI)(js:List Nat)(dc:DT)(de:DE):DE:=λδ P=>di δ λm ds δ1=>∃I:Nat->List Ad->Nat->Prop,I 0 [] δ1.n /\
 (∀i d acc n,ds[i]? = some d->I i acc n->Ta b dc de ⟨.dat m d::frD δ1.sl js,n⟩ (λe n'=>I (i+1) (acc++[e]) n') (λn'=>I (i+1) acc n')) /\
 ∀acc n,I ds.length acc n->P (.dat (dW b) (.list acc)) ⟨δ1.sl,n⟩
def pV(b:Bool)(di:DI)(js:List Nat)(dc:DT)(de:DE):DE:=λδ P=>di δ λm ds δ1=>∃I:Nat->List Ad->Nat->Prop,I 0 [] δ1.n /\
 (∀i d acc n,ds[i]? = some d->I i acc n->∃d1 d2,d=.tuple [d1,d2]/\Ta b dc de ⟨.dat m d1::.dat m d2::frD δ1.sl js,n⟩ (λe n'=>I (i+1) (acc++[e]) n') (λn'=>I (i+1) acc n')) /\
 ∀acc n,I ds.length acc n->P (.dat (dW b) (.list acc)) ⟨δ1.sl,n⟩
def Pz:DT->DE->DS->(Ad->Nat->Prop)->(Nat->Prop)->Prop:=Ta true
def zD:DI->List Nat->DT->DE->DE:=xB true
def lR:DI->List Nat->DT->DE->DE:=pV true
section
variable{K:PySem.W.Frag}{H0 H H':Hp}{Y:Addr->Prop}{n:Nat}{E S T:List Ent}
theorem lD{b:Bool}{dc:DT}{de:DE}{δ:DS}{yes:Ad->Nat->Prop}{N1:Hp->Prop}(hS:Sl S δ)(hb:b=true->G=[])(hA:At K H0 Y δ.n (S++⟨some (.ref D),.acc acc,D::G⟩::T) H)(h:Ta b dc de δ yes no)(hz:acc.length+1<=Av)(k1:∀n' H',At K H0 Y n' (⟨some (.ref D),.acc acc,D::G⟩::T) H'->no n'->N1 H')(k2:∀e n' v H' G',(b=true->G'=[])->(∃xs,H' D=some (.lst xs)/\xs.length=acc.length/\At K H0 Y n' (⟨some (.ref D),.acc (acc++[e]),D::G'⟩::T) (upd H' D (.lst (xs++[v]))))->yes e n'->N2 v H'):LT K dc (vs S) H λc H2=>if c=true then LE K de (vs S) H2 N2 else N1 H2:=by
 refine ⟨H0,Y,S,⟨some (.ref D),.acc acc,D::G⟩::T,δ,_,rfl,hS,hA,h,λc δ2 S2 H2 e1 e2 hA2 p2=>?_⟩
 cases c with
 | false=>exact mH (k1 _ _ (hA2.sub (Cu _ _)) p2)
 | true =>
  refine kW ⟨H0,Y,S2,⟨some (.ref D),.acc acc,D::G⟩::T,δ2,_,e1,e2,hA2,p2,λy δ3 v F S3 H3 e3 e4 hA3 p3=>?_⟩
  split at p3
  ·rename_i m e
   have r:=hA3.told mem_mid
   cases b with
   | true =>
    obtain rfl:=r.imm p3.1
    obtain rfl:=hb rfl
    exact k2 _ _ _ _ [] (λ_=>rfl) ((hA3.drop.sub (Cu _ _)).accPut r hz) p3.2
   | false =>
    have hA4:At K H0 Y δ3.n (⟨some v,.dat m e,F⟩::⟨some (.ref D),.acc acc,D::G⟩::T) H3:=hA3.sub (Cu _ _)
    exact k2 _ _ _ _ (G++F) (λz=>nomatch z) ((hA4.perm (Er _ _ _)).accPutG p3.1 hz) p3.2
  ·exact p3.elim
theorem sC{dt:TT}:∀σ H Q,LT K gH σ H Q->Zf σ H Q:=by
 intro σ H Q h
 obtain ⟨H0,Y,S,T,δ,P,rfl,hS,hA,hd,k⟩:=h
 exact k true δ S H rfl hS hA hd
theorem oM.imp(h:oM X e t)(k:∀σ H Q,t' σ H Q->t σ H Q):oM X e t':=λpins s σ H Q I q=>h pins s σ H Q I (k σ H Q q)
theorem pZ:∀σ H Q,LE K (xB b di js dc de) σ H Q->kN (LI K di) js (LT K dc) (LE K de) σ H Q:=by
 intro σ H Q h
 obtain ⟨H0,Y,S,T,δ,P,rfl,hS,hA,hd,k⟩:=h
 refine ⟨H0,Y,S,T,δ,_,rfl,hS,hA,hd,λm ds δ1 J hid S1 H1 e1 e2 hA1 it hz p1=>?_⟩
 obtain ⟨I,h0,hs,hf⟩:=p1
 rw[<- e1]
 intro D hD
 refine ⟨λi q H=>q=ds.length - i/\i<=ds.length/\∃acc n G,(b=true->G=[])/\At K H0 Y n (⟨some (.ref D),.acc acc,D::G⟩::(S1++(hid++T))) H/\acc.length<=i/\I i acc n,⟨ds.length,by simp,Cr _,[],δ1.n,[],λ_=>rfl,hA1.accNew hD,Ak _,h0⟩,?_⟩
 (intro i q H q_; obtain ⟨rfl,hi,acc,n,G,hG,hA2,hl,hI⟩ := q_)
 have hid_ok:∀e∈hid,Hl K H n e:=λe he=>hA2.ok e (Ae _ (Al _ (Am _ he)))
 by_cases hlt:i<ds.length
 ·refine .inr ⟨it.go H n i hid_ok hlt,λx H' y=>?_⟩
  obtain ⟨s1,d,F,h1,h2,h3⟩:=it.yld H n i x H' hid_ok hlt y
  have hA3:At K H0 Y n ((⟨some (.ref D),.acc acc,D::G⟩::S1)++⟨some x,.dat m d,F⟩::(hid++T)) H':=At.item (S:=⟨some (.ref D),.acc acc,D::G⟩::S1) hA2 s1 h2 h3 it.md it.hd it.np
  have hA4:=hA3.mid
  have hA5:=At.view (S:=S1) hA4 (λe he=>Ae _ (Am _ (Ae _ he))) js
  have hA6:At K H0 Y n ((⟨some x,.dat m d,F⟩::Zb S1 js)++⟨some (.ref D),.acc acc,D::G⟩::(S1++(hid++T))) H':=hA5.mid
  have hS6:Sl (⟨some x,.dat m d,F⟩::Zb S1 js) ⟨.dat m d::frD δ1.sl js,n⟩:=by
   unfold Sl
   rw[Ar,qJ e2]
  have hv:vs (⟨some x,.dat m d,F⟩::Zb S1 js)=some x::Fl (vs S1) js:=by
   rw[<- qU]
   rfl
  refine ⟨λH2=>∃m',m'<ds.length - i/\_,λy H3=>∃acc,H3 D=some (.lst acc)/\acc.length<Av/\∃m',m'<ds.length - i/\_,λH2 q=>q,λy H3 q=>q,?_⟩
  rw[<- hv]
  refine lD hS6 hG hA6 (hs i d acc n h1 hI) (by omega) (λn' H2 hA7 p=>?_) (λe n' v H2 G' hG' hA7 p=>?_)
  ·exact ⟨ds.length - (i+1),by omega,rfl,hlt,acc,n',G,hG,hA7,by omega,p⟩
  ·obtain ⟨xs,g1,g2,g3⟩:=hA7
   exact ⟨xs,g1,by omega,ds.length - (i+1),by omega,rfl,hlt,acc++[e],n',G',hG',g3,by rw[Bw]; simp; omega,p⟩
 ·have e:i=ds.length:=by omega
  subst e
  refine .inl ⟨it.stop H n hid_ok,k _ ⟨δ1.sl,n⟩ _ (D::G) S1 H e1 e2 ?_ (hf acc n hI)⟩
  have hA3:=hA2.accGetG hG
  have hA4:At K H0 Y n (⟨some (.ref D),.dat (dW b) (.list acc),D::G⟩::(S1++T)) H:=hA3.sub (((Ec S1).append (Cu hid T)).cons₂ _)
  exact hA4.tomid
theorem jH:∀σ H Q,LE K (pV b di js dc de) σ H Q->fZ K (LI K di) js (LT K dc) (LE K de) σ H Q:=by
 intro σ H Q h
 obtain ⟨H0,Y,S,T,δ,P,rfl,hS,hA,hd,k⟩:=h
 refine ⟨H0,Y,S,T,δ,_,rfl,hS,hA,hd,λm ds δ1 J hid S1 H1 e1 e2 hA1 it hz p1=>?_⟩
 obtain ⟨I,h0,hs,hf⟩:=p1
 rw[<- e1]
 intro D hD
 refine ⟨λi q H=>q=ds.length - i/\i<=ds.length/\∃acc n G,(b=true->G=[])/\At K H0 Y n (⟨some (.ref D),.acc acc,D::G⟩::(S1++(hid++T))) H/\acc.length<=i/\I i acc n,⟨ds.length,by simp,Cr _,[],δ1.n,[],λ_=>rfl,hA1.accNew hD,Ak _,h0⟩,?_⟩
 (intro i q H q_; obtain ⟨rfl,hi,acc,n,G,hG,hA2,hl,hI⟩ := q_)
 have hid_ok:∀e∈hid,Hl K H n e:=λe he=>hA2.ok e (Ae _ (Al _ (Am _ he)))
 by_cases hlt:i<ds.length
 ·refine .inr ⟨it.go H n i hid_ok hlt,λx H' y=>?_⟩
  obtain ⟨s1,d,F,h1,h2,h3⟩:=it.yld H n i x H' hid_ok hlt y
  obtain ⟨d1,d2,rfl,hst⟩:=hs i d acc n h1 hI
  obtain ⟨t,xs,rfl,ht,rt,_⟩:=h2.tup_inv
  cases rt with
  | @cons w1 _ xs _ F1 _ r1 rt =>
   cases rt with
   | @cons w2 _ xs _ F2 G r2 rt =>
    cases rt
    have hA3:At K H0 Y n ((⟨some (.ref D),.acc acc,D::G⟩::S1)++⟨some w1,.dat m d1,F1⟩::(hid++T)) H':=At.item (S:=⟨some (.ref D),.acc acc,D::G⟩::S1) hA2 s1 r1 (λa ha=>h3 a (Am _ ha)) it.md it.hd it.np
    have hA3':At K H0 Y n ((⟨some w1,.dat m d1,F1⟩::⟨some (.ref D),.acc acc,D::G⟩::S1)++(hid++T)) H':=hA3.mid
    have hA3'':At K H0 Y n ((⟨some w1,.dat m d1,F1⟩::⟨some (.ref D),.acc acc,D::G⟩::S1)++⟨some w2,.dat m d2,F2⟩::(hid++T)) H':=At.item hA3' (Mg.refl _) r2 (λa ha=>h3 a (Al _ (Am _ ha))) it.md it.hd it.np
    have hA4:At K H0 Y n (⟨some w1,.dat m d1,F1⟩::⟨some w2,.dat m d2,F2⟩::⟨some (.ref D),.acc acc,D::G⟩::(S1++(hid++T))) H':=hA3''.mid.perm (Er _ _ _)
    have hA5:=At.view (S:=S1) hA4 (λe he=>Ae _ (Ae _ (Ae _ (Am _ he)))) js
    have hA6:At K H0 Y n ((⟨some w1,.dat m d1,F1⟩::⟨some w2,.dat m d2,F2⟩::Zb S1 js)++⟨some (.ref D),.acc acc,D::G⟩::(S1++(hid++T))) H':=by
     have z:=hA5.mid
     refine z.perm ?_
     exact (Dv).cons _
    have hS6:Sl (⟨some w1,.dat m d1,F1⟩::⟨some w2,.dat m d2,F2⟩::Zb S1 js) ⟨.dat m d1::.dat m d2::frD δ1.sl js,n⟩:=by
     unfold Sl
     rw[Ar,Ar,qJ e2]
    have hv:vs (⟨some w1,.dat m d1,F1⟩::⟨some w2,.dat m d2,F2⟩::Zb S1 js)=some w1::some w2::Fl (vs S1) js:=by
     rw[<- qU]
     rfl
    refine ⟨t,w1,w2,rfl,Vh.of ht,λH2=>∃m',m'<ds.length - i/\_,λy H3=>∃acc,H3 D=some (.lst acc)/\acc.length<Av/\∃m',m'<ds.length - i/\_,λH2 q=>q,λy H3 q=>q,?_⟩
    rw[<- hv]
    refine lD hS6 hG hA6 hst (by omega) (λn' H2 hA7 p=>?_) (λe n' v H2 G' hG' hA7 p=>?_)
    ·exact ⟨ds.length - (i+1),by omega,rfl,hlt,acc,n',G,hG,hA7,by omega,p⟩
    ·obtain ⟨xs,g1,g2,g3⟩:=hA7
     exact ⟨xs,g1,by omega,ds.length - (i+1),by omega,rfl,hlt,acc++[e],n',G',hG',g3,by rw[Bw]; simp; omega,p⟩
 ·have e:i=ds.length:=by omega
  subst e
  refine .inl ⟨it.stop H n hid_ok,k _ ⟨δ1.sl,n⟩ _ (D::G) S1 H e1 e2 ?_ (hf acc n hI)⟩
  have hA3:=hA2.accGetG hG
  have hA4:At K H0 Y n (⟨some (.ref D),.dat (dW b) (.list acc),D::G⟩::(S1++T)) H:=hA3.sub (((Ec S1).append (Cu hid T)).cons₂ _)
  exact hA4.tomid
end
section
variable{X:Cx}{elt iter c:Expr}{x x2 y0:Str}{px px2 pt py pos spos:Pos}{kt i0:Nat}{ifs:List Expr}{scope:Scope}{cl:List (Str×Addr)}{ys:List Str}{js:List Nat}{di:DI}{dc:DT}{de:DE}
theorem Nv:oM X [] (LT X.K gH):=oM.imp bG (sC (dt:=Zf))
theorem Tf(h:fP X c dc):oM X [c] (LT X.K dc):=o7 h
theorem Ov(C:CompScope X scope cl x ys js)(hc:X.calm=true)(hi:yQ X (.Name x px) iter di)(ht:∀fp s H,oM (Dy X scope cl (x::ys) fp s H) ifs (LT X.K dc))(he:∀fp s H,Eu (Dy X scope cl (x::ys) fp s H) elt de)(hs:∀x,Dz iter X.env x=pure x:=by intro _; rfl):Eu X (.ListComp elt [⟨.Name x px,iter,ifs,0⟩] scope pos) (zD di js dc de):=PE.imp (gD C hc hi ht he hs) pZ
theorem jO(C:CompScope X scope cl x ys js)(own2:mP scope x2)(nd2:(x::x2::ys).Nodup)(hc:X.calm=true)(hi:yQ X (.Tuple [.Name x px,.Name x2 px2] kt pt) iter di)(ht:∀fp s H,oM (Dy X scope cl (x::x2::ys) fp s H) ifs (LT X.K dc))(he:∀fp s H,Eu (Dy X scope cl (x::x2::ys) fp s H) elt de)(hs:∀x,Dz iter X.env x=pure x:=by intro _; rfl):Eu X (.ListComp elt [⟨.Tuple [.Name x px,.Name x2 px2] kt pt,iter,ifs,0⟩] scope pos) (lR di js dc de):=PE.imp (yA C own2 nd2 hc hi ht he hs) jH
def AA(o:Bool)(i:Nat):DG:=match o with
 | true=>iP i
 | false=>Qp i
theorem Q8:∀v σ H Q,LG K (AA o i) v σ H Q->Rz i v σ H Q:=by
 cases o with
 | true=>exact xZ
 | false=>exact fM
theorem A9{o:Bool}(hN:X.N.Nodup)(hi0:X.N[i0]? = some y0)(hy0:X.env.scope.names.lookup y0=some .local)(C:CompScope X scope cl x ys js)(hc:X.calm=true)(hi:yQ X (.Name x px) iter di)(ht:∀fp s H,oM (Dy X scope cl (x::ys) fp s H) ifs (LT X.K dc))(he:∀fp s H,Eu (Dy X scope cl (x::ys) fp s H) elt de)(hs:∀x,Dz iter X.env x=pure x:=by intro _; rfl)(hsw:Hm (.ListComp elt [⟨.Name x px,iter,ifs,0⟩] scope pos) (some (.Name y0 py)) spos.line X.env=pure true:=by rfl):lH X (.Assign [.Name y0 py] (.ListComp elt [⟨.Name x px,iter,ifs,0⟩] scope pos) spos) (oH (zD di js dc de) (AA o i0)):=PS.impD (qC hN hi0 hy0 C hc hi ht he hs hsw) (aZ pZ Q8)
theorem xM{o:Bool}(hN:X.N.Nodup)(hi0:X.N[i0]? = some y0)(hy0:X.env.scope.names.lookup y0=some .local)(C:CompScope X scope cl x ys js)(own2:mP scope x2)(nd2:(x::x2::ys).Nodup)(hc:X.calm=true)(hi:yQ X (.Tuple [.Name x px,.Name x2 px2] kt pt) iter di)(ht:∀fp s H,oM (Dy X scope cl (x::x2::ys) fp s H) ifs (LT X.K dc))(he:∀fp s H,Eu (Dy X scope cl (x::x2::ys) fp s H) elt de)(hs:∀x,Dz iter X.env x=pure x:=by intro _; rfl)(hsw:Hm (.ListComp elt [⟨.Tuple [.Name x px,.Name x2 px2] kt pt,iter,ifs,0⟩] scope pos) (some (.Name y0 py)) spos.line X.env=pure true:=by rfl):lH X (.Assign [.Name y0 py] (.ListComp elt [⟨.Tuple [.Name x px,.Name x2 px2] kt pt,iter,ifs,0⟩] scope pos) spos) (oH (lR di js dc de) (AA o i0)):=PS.impD (yF hN hi0 hy0 C own2 nd2 hc hi ht he hs hsw) (aZ jH Q8)
end
end DL
namespace DL
open PySem PySem.Spec PyProof.Rows L2 Nd
section
variable{K:PySem.W.Frag}{H0 H H':Hp}{X:Addr->Prop}{n n':Nat}{E S T:List Ent}
theorem At.pushF(h:At K H0 X n E H)(r:RdF K H v d F)(nd:F.Nodup)(fr:∀a∈F,∀f∈E,a∉f.F)(f0:∀a∈F,H0 a=none):At K H0 X n (⟨some v,.dat .ow d,F⟩::E) H:=by
 refine h.push ⟨v,rfl,r,λ_=>nd,λz=>nomatch z⟩ (λf hf=>⟨λ_ a ha z=>fr a ha f hf z,λ_ a ha z=>fr a z f hf (Fo _ _ ha)⟩) λa ha=>.inl (f0 a ha)
theorem At.drawn(h:At K H0 X n E H)(he:e∈E)(hx:e.x=.drw)(hv:e.v=some (.ref dr))(s:Ue dr H H')(hd:∃c k f,aX H' dr c k f/\0<=k/\k<=(n':Int))(hn:n<=n'):At K H0 X n' E H':=by
 obtain ⟨v,x,F⟩:=e
 have hx':x=.drw:=hx
 subst hx'
 obtain ⟨dr',c0,k0,f0,hv',hF,hd0,_⟩:=h.ok _ he
 have e1:some (V.ref dr)=some (V.ref dr'):=hv.symm.trans hv'
 cases e1
 have hF':F=[dr]:=hF
 subst hF'
 refine ⟨λf hf=>?_,h.sep,h.new,λb o nx q=>?_,λb o q=>?_,λb hb=>?_⟩
 rotate_right
 ·obtain ⟨z,c,k,f,h1,h2,h3⟩:=h.xd b hb
  by_cases hbd:b=dr
  ·subst hbd
   exact ⟨z,hd⟩
  ·exact ⟨z,c,k,f,s _ _ hbd h1,h2,by omega⟩
 ·rcases mL h he hf with rfl | q
  ·obtain ⟨c,k,fl,h1,h2,h3⟩:=hd
   exact ⟨dr,c,k,fl,hv',rfl,h1,h2,h3⟩
  ·have nf:dr∉f.F:=q.1 (.inr rfl) dr Aa
   refine (h.ok f hf).kp (λb o eb z=>?_) hn
   by_cases hb:b=dr
   ·subst hb
    rcases z with z | z
    ·exact absurd z nf
    ·have hd0':H b=some (.lst _):=hd0
     rw[eb] at hd0'
     cases hd0'
     rcases z with ⟨_,z⟩ | ⟨_,_,z⟩ <;> cases z
   ·exact s b o hb eb
 ·have hb:b≠dr:=by
   rintro rfl
   rcases h.new _ he b Aa with z | z
   ·rw[z] at q; cases q
   ·exact nx z.1
  exact s b o hb (h.same b o nx q)
 ·by_cases hb:b=dr
  ·subst hb
   obtain ⟨c,k,fl,h1,_⟩:=hd
   exact ⟨_,h1⟩
  ·obtain ⟨o',z⟩:=h.dom b o q
   exact ⟨o',s b o' hb z⟩
end
abbrev PF:=List Ad->(Ad->Prop)->Prop
abbrev DF:=List Ad->Nat->(Ad->Nat->Prop)->Prop
def Vg(K:PySem.W.Frag)(pf:PF):Sp:=λus H Q _=>∃(As:List Ent) (n:Nat) (ds:List Ad) (R:Ad->Prop),As.map Ent.v=us.map some/\(∀e∈As,Hl K H n e)/\datas (As.map Ent.x)=some ds/\pf ds R /\
 ∀v d F H',R d->RdF K H' v d F->F.Nodup->(∀a∈F,H a=none)->Mg H H'->Q v H'
def jD(K:PySem.W.Frag)(df:DF):Sp:=λus H Q _=>∃(dr:Addr) (ws:List V) (As:List Ent) (n:Nat) (ds:List Ad) (R:Ad->Nat->Prop),us=.ref dr::ws/\As.map Ent.v=ws.map some/\(∀e∈As,Hl K H n e)/\(∀e∈As,dr∉e.F)/\(∃c k f,aX H dr c k f/\0<=k/\k<=(n:Int))/\datas (As.map Ent.x)=some ds/\df ds n R /\
 ∀v d F n' H',n<=n'->R d n'->RdF K H' v d F->F.Nodup->(∀a∈F,H a=none)->(∃c k f,aX H' dr c k f/\0<=k/\k<=(n':Int))->Ue dr H H'->Q v H'
def wC(pf:PF)(da:DA):DE:=λδ P=>da δ λxs δ1=>match datas xs with
 | some ds=>pf ds λd=>P (.dat .ow d) δ1
 | none=>False
def lX(i:Nat)(df:DF)(da:DA):DE:=λδ P=>match δ.sl[i]? with
 | some .drw=>da δ λxs δ1=>match δ1.sl[i]? with
  | some .drw=>match datas xs with
   | some ds=>df ds δ1.n λd n'=>P (.dat .ow d) ⟨δ1.sl,n'⟩
   | none=>False
  | _=>False
 | _=>False
section
variable{X:Cx}{CX:tZ}{k:Nat}{f:Addr}{fd:Ci}{ps:List Str}{pf:PF}{df:DF}{E:XK}{x:Str}{p pos:Pos}{e e0:Expr}{es:List Expr}{da:DA}
theorem Jo(F:FnOk X.prog X.w X.K X.mg X.base CX k f fd ps (Vg X.K pf))(hr:Room k X.A)(hg:Gl X x)(hm:X.mg x=some (.ref f))(hk:PySem.W.keepIn X.K (.ref f)=true)(hb:Binds X.K fd ps [])(hx:Rn CX X E)(ha:oW X (e::es) da)(hdb:(x == ("__debug__" : Str))=false:=by decide)(he:Bm (e::es) X.env=(false,eval e X.env)::Bm es X.env:=by rfl)(hpl:(Gd pos (Bm es X.env)).any (·.1)=false:=by rfl):Eu X (.Call (.Name x p) (e::es) [] pos) (wC pf da):=by
 refine PE.imp (hV F hr hg hm hk hb .nil hx ha hdb he hpl) λσ H Q h=>?_
 obtain ⟨H0,Y,S,T,δ,P,rfl,hS,hA,hd,kk⟩:=h
 refine ⟨H0,Y,S,T,δ,_,rfl,hS,hA,hd,λxs δ' As us S' H' e1 e2 ex eu hA' p=>?_⟩
 subst ex
 cases q:datas (As.map Ent.x) with
 | none=>rw[q] at p; exact p.elim
 | some ds =>
  rw[q] at p
  rw[Dj]
  refine ⟨As,δ'.n,ds,_,eu,λe he=>hA'.ok e (Al _ (Am _ he)),q,p,λv d F H'' r rd nd fr s=>?_⟩
  exact kk _ δ' v F S' H'' e1 e2 (((hA'.dropL.grow s (Ak _)).pushF rd nd (λa ha=>hA'.dropL.free (fr a ha)) (λa ha=>hA'.new0 (fr a ha))).tomid) r
theorem CO(F:FnOk X.prog X.w X.K X.mg X.base CX k f fd ps (Vg X.K pf))(hr:Room k X.A)(hg:Gl X x)(hm:X.mg x=some (.ref f))(hk:PySem.W.keepIn X.K (.ref f)=true)(hb:Binds X.K fd ps [])(hx:Rn CX X E)(hdb:(x == ("__debug__" : Str))=false:=by decide):Eu X (.Call (.Name x p) [] [] pos) (wC pf X6):=by
 refine PE.imp (xE F hr hg hm hk hb .nil hx hdb) λσ H Q h=>?_
 obtain ⟨H0,Y,S,T,δ,P,rfl,hS,hA,hd,kk⟩:=h
 show Vg X.K pf [] H Q E
 refine ⟨[],δ.n,[],_,rfl,λe he=>(nomatch he),rfl,hd,λv d F H'' r rd nd fr s=>?_⟩
 exact kk _ δ v F S H'' rfl hS (((hA.grow s (Ak _)).pushF rd nd (λa ha=>hA.free (fr a ha)) (λa ha=>hA.new0 (fr a ha))).tomid) r
theorem Hj(F:FnOk X.prog X.w X.K X.mg X.base CX k f fd ps (jD X.K df))(hr:Room k X.A)(hg:Gl X x)(hm:X.mg x=some (.ref f))(hk:PySem.W.keepIn X.K (.ref f)=true)(hb:Binds X.K fd ps [])(hx:Rn CX X E)(h0:PE X e0 (Yi i))(ha:oW X es da)(hdb:(x == ("__debug__" : Str))=false:=by decide)(he:Bm (e0::es) X.env=(false,eval e0 X.env)::Bm es X.env:=by rfl)(hpl:(Gd pos (Bm es X.env)).any (·.1)=false:=by rfl):Eu X (.Call (.Name x p) (e0::es) [] pos) (lX i df da):=by
 refine PE.imp (hV F hr hg hm hk hb .nil hx (Fu h0 ha he) hdb he hpl) λσ H Q h=>?_
 obtain ⟨H0,Y,S,T,δ,P,rfl,hS,hA,hd,kk⟩:=h
 unfold lX at hd
 split at hd
 case h_2=>exact hd.elim
 rename_i hsl0
 have main:∀w,(vs S)[i]? = some (some w)->LA X.K da (vs S) H λxs H2=>jD X.K df ((w::xs)++[]) H2 Q E:=λw hw=>by
  refine ⟨H0,Y,S,T,δ,_,rfl,hS,hA,hd,λxs δ' As us S' H' e1 e2 ex eu hA' p=>?_⟩
  subst ex
  split at p
  ·rename_i hsl
   obtain ⟨ent,s1,s2⟩:=Gq e2 hsl
   have hm':ent∈S':=Au s1
   have hv:ent.v=some w:=by
    have:=Ke s1
    rw[e1,hw] at this
    exact (Bl this).symm
   obtain ⟨u,z,F⟩:=ent
   have s2':z=.drw:=s2
   subst s2'
   have hE:(⟨u,.drw,F⟩ : Ent)∈S'++(As++T):=Am _ hm'
   obtain ⟨dr,c0,k0,f0,hv0,hF0,hd0,hk0,hk1⟩:=hA'.ok _ hE
   have ew:some w=some (V.ref dr):=hv.symm.trans hv0
   cases ew
   have hF':F=[dr]:=hF0
   subst hF'
   cases q:datas (As.map Ent.x) with
   | none=>rw[q] at p; exact p.elim
   | some ds =>
    rw[q] at p
    rw[Dj]
    refine ⟨dr,us,As,δ'.n,ds,_,rfl,eu,λe he=>hA'.ok e (Al _ (Am _ he)),λe he=>?_,⟨c0,k0,f0,hd0,hk0,hk1⟩,q,p,λv d F n' H'' hn r rd nd fr hdr s=>?_⟩
    ·obtain ⟨_,_,hp⟩ := Dm.mp hA'.sep
     exact (hp _ hm' e (Am _ he)).1 (.inr rfl) dr Aa
    ·have hA2:=hA'.dropL.drawn (Am _ hm') rfl hv s hdr hn
     exact kk _ ⟨δ'.sl,n'⟩ v F S' H'' e1 e2 ((hA2.pushF rd nd (λa ha=>hA'.dropL.free (fr a ha)) (λa ha=>hA'.new0 (fr a ha))).tomid) r
  ·exact p.elim
 obtain ⟨ent,s1,s2⟩:=Gq hS hsl0
 have hm':ent∈S:=Au s1
 obtain ⟨u,z,F⟩:=ent
 have s2':z=.drw:=s2
 subst s2'
 obtain ⟨dr,c0,k0,f0,hv0,_⟩:=hA.ok _ (Am _ hm')
 have hw:(vs S)[i]? = some (some (.ref dr)):=(Ke s1).trans (congrArg some hv0)
 exact ⟨_,hw,main _ hw⟩
def Wp:Sp:=λvs H Q _=>∃c:Int,vs=[.int c]/\∀(p:Addr) (c':Int) (f:Bool) (H':Hp),H p=none->aX H' p c' 0 f->Mg H H'->Q (.ref p) H'
def i4(da:DA):DE:=λδ P=>da δ λxs δ1=>match xs with
 | [.dat _ (.int _)]=>P .drw δ1
 | _=>False
theorem xP(F:FnOk X.prog X.w X.K X.mg X.base CX k f fd ps Wp)(hr:Room k X.A)(hg:Gl X x)(hm:X.mg x=some (.ref f))(hk:PySem.W.keepIn X.K (.ref f)=true)(hb:Binds X.K fd ps [])(hx:Rn CX X E)(ha:oW X (e::es) da)(hdb:(x == ("__debug__" : Str))=false:=by decide)(he:Bm (e::es) X.env=(false,eval e X.env)::Bm es X.env:=by rfl)(hpl:(Gd pos (Bm es X.env)).any (·.1)=false:=by rfl):Eu X (.Call (.Name x p) (e::es) [] pos) (i4 da):=by
 refine PE.imp (hV F hr hg hm hk hb .nil hx ha hdb he hpl) λσ H Q h=>?_
 obtain ⟨H0,Y,S,T,δ,P,rfl,hS,hA,hd,kk⟩:=h
 refine ⟨H0,Y,S,T,δ,_,rfl,hS,hA,hd,λxs δ' As us S' H' e1 e2 ex eu hA' p=>?_⟩
 split at p
 ·obtain ⟨v,F,rfl,hA2⟩:=Hg eu hA' ex
  obtain ⟨rfl,_⟩:=(hA2.told mem_mid).int_inv
  refine ⟨_,rfl,λq c' fl H'' nq hdr s=>?_⟩
  have h3:=hA2.drop.grow (n':=δ'.n) s (Ak _)
  refine kk _ δ' _ [q] S' H'' e1 e2 ((h3.push (e:=⟨some (.ref q),.drw,[q]⟩) ⟨q,_,0,fl,rfl,rfl,hdr,by decide,by omega⟩ (λf hf=>?_) λa ha=>?_).tomid) p
  ·have nf:=hA2.drop.free nq f hf
   refine ⟨λ_ a ha z=>?_,λ_ a ha z=>?_⟩
   ·rw[Ag.mp ha] at z
    exact nf z
   ·rw[Ag.mp z] at ha
    exact nf (Fo _ _ ha)
  ·rw[Ag.mp ha]
   exact .inl (hA2.new0 nq)
 ·exact p.elim
end
def args0(ds:List Ad)(k:Nat):List DV:=ds.map (λd=>.dat .sh d)++Ik k .un
def iR(e:Ent):Ent:=match e.x with
 | .dat _ d=>⟨e.v,.dat .sh d,e.F⟩
 | _=>e
theorem Jp:∀{xs:List DV} {ds:List Ad},datas xs=some ds->xs.length=ds.length
 | [],ds,h=>by cases h; rfl
 | x::xs,ds,h=>by
  cases x with
  | dat m d =>
   cases q:datas xs with
   | none=>simp [datas,q] at h
   | some es =>
    simp [datas,q] at h
    subst h
    rw[Bp,Bp,Jp q]
  | _=>cases h
theorem Wj:∀{As:List Ent} {ds:List Ad},datas (As.map Ent.x)=some ds->(As.map iR).map Ent.x=ds.map (λd=>.dat .sh d)
 | [],ds,h=>by cases h; rfl
 | ⟨v,x,F⟩::As,ds,h=>by
  rw[Ar] at h
  cases x with
  | dat m d =>
   cases q:datas (As.map Ent.x) with
   | none=>simp [datas,q] at h
   | some es =>
    simp [datas,q] at h
    subst h
    rw[Ar,Ar,Ar,Wj q]
    rfl
  | _=>cases h
theorem Xa:∀{As:List Ent} {ds:List Ad},datas (As.map Ent.x)=some ds->∀e∈As,∃m d,e.x=.dat m d
 | [],ds,h,e,he=>nomatch he
 | ⟨v,x,F⟩::As,ds,h,e,he=>by
  rw[Ar] at h
  cases x with
  | dat m d =>
   cases q:datas (As.map Ent.x) with
   | none=>simp [datas,q] at h
   | some es =>
    rcases Aj.mp he with rfl | he
    ·exact ⟨m,d,rfl⟩
    ·exact Xa q e he
  | _=>cases h
theorem X2(As:List Ent):(As.map iR).map Ent.v=As.map Ent.v:=by
 rw[Bx]
 refine Fk λe _=>?_
 obtain ⟨v,x,F⟩:=e
 cases x <;> rfl
def Jy(k:Nat):List Ent:=Ik k ⟨none,.un,[]⟩
theorem gW{As:List Ent}(q:datas (As.map Ent.x)=some ds)(k:Nat):∀e∈As.map iR++Jy k,cells e=[]/\X3 e.x=false:=λe he=>by
 rcases Bg.mp he with he | he
 ·obtain ⟨f,hf,rfl⟩:=Bs.mp he
  obtain ⟨m,d,hx⟩:=Xa q f hf
  obtain ⟨v,x,F⟩:=f
  have hx':x=.dat m d:=hx
  subst hx'
  exact ⟨rfl,rfl⟩
 ·rw[(Lc.mp he).2]
  exact ⟨rfl,rfl⟩
theorem Rk{α:Type}{R:α->α->Prop}:∀{l:List α},(∀a∈l,∀b∈l,R a b)->l.Pairwise R
 | [],_=>Kk
 | a::l,h=>Bf.mpr ⟨λb hb=>h a Aa b (Ae _ hb),Rk λx hx y hy=>h x (Ae _ hx) y (Ae _ hy)⟩
theorem zE{K:PySem.W.Frag}{As:List Ent}(q:datas (As.map Ent.x)=some ds)(ok:∀e∈As,Hl K H n e)(k:Nat):∀e∈As.map iR++Jy k,Hl K H n e:=λe he=>by
 rcases Bg.mp he with he | he
 ·obtain ⟨f,hf,rfl⟩:=Bs.mp he
  obtain ⟨m,d,hx⟩:=Xa q f hf
  have o:=ok f hf
  obtain ⟨v,x,F⟩:=f
  have hx':x=.dat m d:=hx
  subst hx'
  obtain ⟨w,h1,h2,_⟩:=o
  exact ⟨w,h1,h2,λz=>(nomatch z),λz=>(nomatch z)⟩
 ·rw[(Lc.mp he).2]
  exact (rfl:([]:List Addr)=[])
theorem Ox{α β:Type}(f:α->β)(k:Nat)(a:α):(Ik k a).map f=Ik k (f a):=by
 rw[List.map_replicate]
def retE(R:Ad->Prop):DEnds where
 nx:=λ_=>R .none
 rt:=λx _=>∃d,x=.dat .ow d/\R d
def retW(n:Nat)(R:Ad->Nat->Prop):DEnds where
 nx:=λδ=>n<=δ.n/\R .none δ.n
 rt:=λx δ=>n<=δ.n/\∃d,x=.dat .ow d/\R d δ.n
section
variable{P:Bo}{w:World}{K:PySem.W.Frag}{mg:Str->Option Value}{base:Heap}
theorem Oy{x qual:Str}{st:Stmt}(F:Fun K x qual st f fd)(S:FnScope N ps (Bu st))(hb:∀(cdv:Value) (A:Cn) (outer:List Env) (s:Ai) (H:Hp) (E:XK),Room k (A.deeper (envOfC qual (Bu st) s.heap.objs.size f cdv))->Yo (Mh Ib P w K mg base N qual (Bu st) f cdv A outer s H E).nox (Iw st) db)(h:∀ds R,pf ds R->ds.length=ps.length/\db (retE R) ⟨args0 ds (N.length - ps.length),0⟩):FnOk P w K mg base Ib (k+1) f fd ps (Vg K pf):=by
 refine F.ok S (λvs H Q E z=>?_) λcdv A outer s H us Q E hr z=>?_
 ·obtain ⟨As,n,ds,R,eu,ok,q,hp,_⟩:=z
  have l1:=(h ds R hp).1
  have l2:=Jp q
  rw[Ac] at l2
  have l3:=congrArg Fm eu
  rw[Ac,Ac] at l3
  omega
 ·obtain ⟨As,n,ds,R,eu,ok,q,hp,k1⟩:=z
  obtain ⟨l1,hd⟩:=h ds R hp
  have l2:=Jp q
  rw[Ac] at l2
  have l3:=congrArg Fm eu
  rw[Ac,Ac] at l3
  refine ⟨_,hb cdv A outer s H E hr,H,λ_=>False,As.map iR++Jy (N.length - ps.length),[],⟨args0 ds (N.length - ps.length),0⟩,retE R,?_,?_,λ_ z=>(nomatch z),?_,hd,λδ' S' H' e1 hA p=>?_,λx δ' v F' S' H' e1 hA p=>?_,λ_ _ _ _ _ p=>p.elim,λ_ _ _ _ _ p=>p.elim⟩
  ·unfold vs L2.start Jy
   rw[Bh,X2,eu,Ox,show us.length=ps.length by omega]
  ·unfold Sl args0 Jy
   rw[Bh,Wj q,Ox]
  ·rw[Dj]
   have hs:=gW q (N.length - ps.length)
   refine ⟨λe he=>?_,Rk λa ha b hb'=>⟨λhq c hc=>?_,λhq c hc=>?_⟩,λe he a ha=>?_,λb o _ e=>e,λb o e=>⟨o,e⟩,λb hb=>hb.elim⟩
   ·have:=zE q ok (N.length - ps.length) e he
    obtain ⟨v,x,F⟩:=e
    cases x with
    | drw=>exact absurd (hs _ he).2 (by show ¬ (true=false); decide)
    | _=>exact this
   ·rw[(hs a ha).1] at hc; cases hc
   ·rw[(hs b hb').1] at hc; cases hc
   ·rw[(hs e he).1] at ha; cases ha
  ·exact k1 .non .none [] H' p .non Co (λ_ z=>(nomatch z)) λb o e=>hA.same b o (λz=>z) e
  ·obtain ⟨d,rfl,r⟩:=p
   rw[show S'++[(⟨some v,.dat .ow d,F'⟩ : Ent)]=S'++⟨some v,.dat .ow d,F'⟩::[] from rfl] at hA
   obtain ⟨u,e2,rd,nd,_⟩:=hA.ok _ mem_mid
   cases e2
   refine k1 v d F' H' r rd (nd rfl) (λa ha=>?_) λb o e=>hA.same b o (λz=>z) e
   rcases hA.new _ mem_mid a ha with z | z
   ·exact z
   ·exact z.1.elim
theorem fQ{x qual:Str}{st:Stmt}{f:Addr}(F:Fun K x qual st f fd)(S:FnScope N (p0::ps) (Bu st))(hb:∀(cdv:Value) (A:Cn) (outer:List Env) (s:Ai) (H:Hp) (E:XK),Room k (A.deeper (envOfC qual (Bu st) s.heap.objs.size f cdv))->Yo (Mh Ib P w K mg base N qual (Bu st) f cdv A outer s H E).nox (Iw st) db)(h:∀ds n R,df ds n R->ds.length=ps.length/\db (retW n R) ⟨.drw::args0 ds (N.length - (p0::ps).length),n⟩):FnOk P w K mg base Ib (k+1) f fd (p0::ps) (jD K df):=by
 refine F.ok S (λvs H Q E z=>?_) λcdv A outer s H us Q E hr z=>?_
 ·obtain ⟨dr,ws,As,n,ds,R,rfl,eu,ok,nd,hdr,q,hp,_⟩:=z
  have l1:=(h ds n R hp).1
  have l2:=Jp q
  rw[Ac] at l2
  have l3:=congrArg Fm eu
  rw[Ac,Ac] at l3
  rw[Bp,Bp]
  omega
 ·obtain ⟨dr,ws,As,n,ds,R,rfl,eu,ok,ndr,hdr,q,hp,k1⟩:=z
  obtain ⟨l1,hd⟩:=h ds n R hp
  have l2:=Jp q
  rw[Ac] at l2
  have l3:=congrArg Fm eu
  rw[Ac,Ac] at l3
  -- what the end tells of the draws: they stand in an old cell
  have ends:∀{E':List Ent} {n':Nat} {H':Hp},At K H (·=dr) n' E' H'->∀b o,b≠dr->H b=some o->H' b=some o:=λhA b o nb e=>hA.same b o nb e
  refine ⟨_,hb cdv A outer s H E hr,H,(·=dr),⟨some (.ref dr),.drw,[dr]⟩::(As.map iR++Jy (N.length - (p0::ps).length)),[],⟨.drw::args0 ds (N.length - (p0::ps).length),n⟩,retW n R,?_,?_,λ_ z=>(nomatch z),?_,hd,λδ' S' H' e1 hA p=>?_,λx δ' v F' S' H' e1 hA p=>?_,λ_ _ _ _ _ p=>p.elim,λ_ _ _ _ _ p=>p.elim⟩
  ·unfold vs L2.start Jy
   rw[Ar,Bh,X2,eu,Ox,Bp,Bp,show ws.length=ps.length by omega]
   rfl
  ·unfold Sl args0 Jy
   rw[Ar,Bh,Wj q,Ox]
  ·rw[Dj]
   have hs:=gW q (N.length - (p0::ps).length)
   have hsub:∀e∈As.map iR++Jy (N.length - (p0::ps).length),dr∉e.F:=λe he=>by
    rcases Bg.mp he with he | he
    ·obtain ⟨f,hf,rfl⟩:=Bs.mp he
     obtain ⟨v,x,F⟩:=f
     have:=ndr _ hf
     cases x <;> exact this
    ·rw[(Lc.mp he).2]
     exact Ax
   refine ⟨λe he=>?_,Bf.mpr ⟨λb hb'=>⟨λhq c hc=>?_,λhq c hc=>?_⟩,Rk λa ha b hb'=>⟨λhq c hc=>?_,λhq c hc=>?_⟩⟩,λe he a ha=>?_,λb o _ e=>e,λb o e=>⟨o,e⟩,λb hb=>?_⟩
   rotate_right
   ·subst hb
    obtain ⟨c,kk,fl,z1,z2⟩:=hdr
    exact ⟨λz=>(by rw[show H b=some _ from z1] at z; cases z),c,kk,fl,z1,z2⟩
   ·rcases Aj.mp he with rfl | he
    ·obtain ⟨c,kk,fl,z1,z2,z3⟩:=hdr
     exact ⟨dr,c,kk,fl,rfl,rfl,z1,z2,z3⟩
    ·exact zE q ok _ e he
   ·rw[Ag.mp hc]
    exact hsub b hb'
   ·rw[(hs b hb').1] at hc; cases hc
   ·rw[(hs a ha).1] at hc; cases hc
   ·rw[(hs b hb').1] at hc; cases hc
   ·rcases Aj.mp he with rfl | he
    ·rw[Ag.mp ha]
     exact .inr ⟨rfl,rfl⟩
    ·rw[(hs e he).1] at ha; cases ha
  ·exact k1 .non .none [] δ'.n H' p.1 p.2 .non Co (λ_ z=>(nomatch z)) (hA.xd dr rfl).2 (ends hA)
  ·obtain ⟨hn,d,rfl,r⟩:=p
   rw[show S'++[(⟨some v,.dat .ow d,F'⟩ : Ent)]=S'++⟨some v,.dat .ow d,F'⟩::[] from rfl] at hA
   obtain ⟨u,e2,rd,nd,_⟩:=hA.ok _ mem_mid
   cases e2
   refine k1 v d F' δ'.n H' hn r rd (nd rfl) (λa ha=>?_) (hA.xd dr rfl).2 (ends hA)
   rcases hA.new _ mem_mid a ha with z | z
   ·exact z
   ·cases z.2
end
end DL
namespace L2
open PySem PySem.Spec PyProof.Rows
def zL(H:Hp):Prop:=∀b,H b=none\/(∃o xs,H b=some (.frz o (.lst xs)))\/∃ps,H b=some (.tbl ps)
def jV(tabs:List (Addr×Addr×Str))(H:Hp):Hp:=λb=>match tabs.find? (λr=>r.2.1 == b) with | some t=>some (.tbl #[.str t.2.2 0]) | none=>H b
theorem Uq(h:tabs.find? (λr=>r.2.1 == b)=some t):jV tabs H b=some (.tbl #[.str t.2.2 0]):=by unfold jV; rw[h]
theorem Lx(h:tabs.find? (λr=>r.2.1 == b)=none):jV tabs H b=H b:=by unfold jV; rw[h]
def eT(q:Bo)(K:PySem.W.Frag):Prop:=∃tabs:List (Addr×Addr×Str),(∀t∈tabs,∃x d,(recsOf q).find? (λe=>e.name == x)=some d/\PySem.W.tabIn K x=some (t.1,t.2.1))/\(∀t∈tabs,∀t'∈tabs,t.2.1=t'.2.1->t=t') /\
 (∀x∈Pt,∀c P,PySem.W.tabIn K x=some (c,P)->(c,P,cE x)∈tabs)/\∀t∈tabs,K.lookup t.2.1=none
theorem A8(hx:x∈Pt):x = "often" \/ x = "cut_by" := by
 rcases Aj.mp hx with h | hx
 ·exact .inl h
 ·exact .inr (Ag.mp hx)
theorem wH{K:PySem.W.Frag}(h2:PySem.W.tabIn K "often" = none)(h1:PySem.W.tabIn K "cut_by" = some (c,P))(hd:(recsOf q).find? (λe=>e.name == ("cut_by" : Str))=some d)(hl:K.lookup P=none):eT q K:=by
 refine ⟨[(c,P,cE "cut_by")],λt ht=>⟨"cut_by",d,hd,?_⟩,λt ht t' ht' _=>?_,λx hx c' P' e=>?_,λt ht=>?_⟩
 ·rw[Ag.mp ht]; exact h1
 ·rw[Ag.mp ht,Ag.mp ht']
 ·rcases A8 hx with rfl | rfl
  ·rw[h2] at e; cases e
  ·rw[h1] at e; cases e; exact Ag.mpr rfl
 ·rw[Ag.mp ht]; exact hl
theorem sF{P:Bo}{w:World}{K:PySem.W.Frag}{mg mb:Str->Option Value}{CX:tZ}{k:Nat}{fa a:Addr}(tabs:List (Addr×Addr×Str))(hT:∀t∈tabs,PySem.W.CodeHd s₁.heap t.1 t.2.1/\s₁.heap.get? t.2.1=some (PySem.W.tabObj #[]))(hu:∀t∈tabs,∀t'∈tabs,t.2.1=t'.2.1->t=t')(hL:∀x∈Pt,∀c P,PySem.W.tabIn K x=some (c,P)->(c,P,cE x)∈tabs)(hnt:∀t∈tabs,K.lookup t.2.1=none)(hbm:∃bm ob,mg "__builtins__" = some (.ref bm)/\bm≠Vk/\s₁.heap.get? bm=some ob/\ob.cls=.type "module" /\ ob.dict=some Vk/\ob.data=.plain)(KX:K.In s₁.heap)(hns:s₁.heap.Ns Cd mg)(hb:s₁.heap.Ns Vk mb)(hbb:∀x:Str,x ≠ "__name__" -> mb x=Jk x)(hlim:s₁.heap.NoLimit)(hg:s₁.gens=#[])(ha:s₁.heap.get? a=some { cls:=.type "list",data:=.seq vs.toArray })(hi:Ey vs ns)(hl:ns.length<=Av)(hr:Room k Yu)(F:∀base:Heap,K.In base->base.Ns Cd mg->FnOk P w K mg base CX k fa fd [x] sp)(hbind:∀(s:Ai) (u:Value),BindsTo s fd ⟨[u],[]⟩ [(x,u)])(hsp:∀H:Hp,zL H->DL.KL K H a (ns.map V.int)->sp [.ref a] H (λv _=>v=.bl true) λ_ _ _=>False)(hCX:∀H e s',CX [] H s₁ (λ_ _ _=>False) e s'->False):Mx (model P w) Yu (.call (.ref fa) ⟨[.ref a],[]⟩) (λr s'=>r=.ok (.ret (.bool true))/\OldK s₁.heap s'.heap/\s'.os=s₁.os/\Sr s'.gens) s₁:=by
 have rv:=eI hi
 have lenV:=hi.length
 -- from an abstract heap in which nothing but the script may be tracked
 have core:∀H:Hp,zL H->DL.KL K H a (ns.map V.int)->Vr P w H s₁.heap->(∀b,H b≠none->b=a\/∃t∈tabs,b=t.2.1)->(H a≠none->K.lookup a=none)->(∀t∈tabs,K8 H t.2.1 t.2.2) ->
   Mx (model P w) Yu (.call (.ref fa) ⟨[.ref a],[]⟩) (λr s'=>r=.ok (.ret (.bool true))/\OldK s₁.heap s'.heap/\s'.os=s₁.os/\Sr s'.gens) s₁:=by
  intro H hO hS hok hA hK hTH
  have base_of:∀{b:Addr} {o:Obj},s₁.heap.get? b=some o->H b=none->(bW s₁.heap H).get? b=some o:=λe n=>vN e n
  have noA:∀{b:Addr} {o:Obj} {es:Array Ic} {ep:Nat},s₁.heap.get? b=some o->o.data=.dict es ep->H b=none:=λ{b o es ep} e d=>by
   cases q:H b with
   | none=>rfl
   | some u =>
    rcases hA b (by rw[q]; simp) with e' | ⟨t,ht,e'⟩
    ·subst e'
     rw[ha] at e; cases e
     have d':Data.seq vs.toArray _=Data.dict es ep:=d
     cases d'
    ·rw[e',(hT t ht).2] at e; cases e
     cases d
  have nsK:∀{b:Addr} {m:Str->Option Value},s₁.heap.Ns b m->(bW s₁.heap H).Ns b m:=λ{b m} ⟨o,es,ep,e,d,r⟩=>⟨o,es,ep,base_of e (noA e d),d,r⟩
  have hKb:K.In (bW s₁.heap H):=λb o e=>base_of (KX b o e) (by
   cases q:H b with
   | none=>rfl
   | some u =>
    rcases hA b (by rw[q]; simp) with e' | ⟨t,ht,e'⟩
    ·subst e'
     rw[hK (by rw[q]; simp)] at e; cases e
    ·rw[e',hnt t ht] at e; cases e)
  have noC:∀{b:Addr} {o:Obj},s₁.heap.get? b=some o->o.cls≠.none->o.cls≠.type "list" -> H b=none:=λ{b o} e d d2=>by
   cases q:H b with
   | none=>rfl
   | some u =>
    rcases hA b (by rw[q]; simp) with e' | ⟨t,ht,e'⟩
    ·subst e'
     rw[ha] at e; cases e
     exact absurd rfl d2
    ·rw[e',(hT t ht).2] at e; cases e
     exact absurd rfl d
  have hTb:yP K mg (bW s₁.heap H) H:=λx hx c P e=>by
   have ht:=hL x hx c P e
   obtain ⟨bm,ob,b1,b2,b3,b4,b5,b6⟩:=hbm
   obtain ⟨⟨o,us,file,tf,flags,tg,inF,text,tt,e1,r1,r2⟩,hP⟩:=hT _ ht
   refine ⟨⟨o,us,file,tf,flags,tg,inF,text,tt,base_of e1 (noC e1 (by rw[r1]; nofun) (by rw[r1]; simp)),r1,r2⟩,⟨bm,ob,b1,b2,λz=>?_,λz=>?_,base_of b3 (noC b3 (by rw[b4]; nofun) (by rw[b4]; simp)),b4,b5,b6⟩,hTH _ ht⟩
   ·obtain ⟨o',es,ep,e',d,_⟩:=hns
    rw[<- z,b3] at e'; cases e'; rw[b6] at d; cases d
   ·have hP:s₁.heap.get? P=_:=hP
    rw[<- z,b3] at hP; cases hP; cases b4
  have hM:Mod K mg (bW s₁.heap H):=⟨hKb,nsK hns,⟨mb,nsK hb,hbb⟩,let ⟨mc,h1,h2⟩:=hlim; ⟨mc,nsK h1,h2⟩⟩
  have e0:Env0 P w K mg (bW s₁.heap H) Yu [] s₁ H:=⟨rfl,hM,λb o e=>B3 e,Nat.le_of_eq (sG _ _),trivial,λb hb=>absurd (show b∈([]:List Addr) from hb) (by simp),hok,.of_eq hg,hTb⟩
  refine codeAny_mono ((F _ hKb (nsK hns)).run Yu [] s₁ H ⟨[.ref a],[]⟩ [.ref a] [.ref a] _ _ hr e0 (hbind s₁ (.ref a)) (.cons rfl .nil) (hsp H hO hS)) λr s' h=>?_
  cases r with
  | error e=>exact (hCX H e s' h).elim
  | ok fl =>
   cases fl with
   | next=>exact Jw h
   | brk=>exact Jw h
   | cont=>exact Jw h
   | ret u =>
    obtain ⟨v,H',os,bare,un,hok',r',q⟩:=h
    have q':v=.bl true:=q
    subst q'
    obtain rfl:u=Value.bool true:=r'
    have old:∀b o,s₁.heap.get? b=some o->s'.heap.get? b=some o\/∃t∈tabs,b=t.2.1:=λb o e=>by
     cases q:H b with
     | none=>exact .inl (un.keep b o e q (by intro z; exact absurd (show b∈([]:List Addr) from z) (by simp)) (by simp))
     | some u =>
      rcases hO b with z | ⟨ob,xs,z⟩ | ⟨ps,z⟩
      ·rw[q] at z; cases z
      ·have z2:=un.frzs b ob _ z
       obtain ⟨e1,_⟩:=hok b _ z
       obtain ⟨e2,_⟩:=hok' b _ z2
       rw[e] at e1; cases e1
       exact .inl e2
      ·rcases hA b (by rw[q]; simp) with e' | h'
       ·obtain ⟨_,e1,_⟩:=hok b _ z
        rw[e',ha] at e1; cases e1
       ·exact .inr h'
    have grown:∀t∈tabs,∃ps,s'.heap.get? t.2.1=some (PySem.W.tabObj ps):=λt ht=>by
     obtain ⟨ps,t0,h3,_⟩:=hTH t ht
     obtain ⟨more,h5⟩:=un.tbls _ _ h3
     obtain ⟨qs,e1,_⟩:=hok' _ _ h5
     exact ⟨qs,e1⟩
    refine ⟨rfl,⟨λb o e=>?_,λb o e=>?_⟩,os,bare⟩
    ·rcases old b o e with z | ⟨t,ht,rfl⟩
     ·exact .inl z
     ·obtain ⟨ps,hP⟩:=grown t ht
      have e2:=(hT t ht).2
      rw[e] at e2
      cases e2
      exact .inr (.inl ⟨((hT t ht).1.tab (hT t ht).2).isCodeTable,rfl,#[],ps,rfl,by rw[Array.empty_append]; exact hP⟩)
    ·rcases old b o e with z | ⟨t,ht,rfl⟩
     ·exact ⟨_,z⟩
     ·obtain ⟨ps,hP⟩:=grown t ht
      exact ⟨_,hP⟩
 have tabH:∀(t:Addr×Addr×Str),t∈tabs->tabs.find? (λr=>r.2.1 == t.2.1)=some t:=λt ht=>by
  cases q:tabs.find? (λr=>r.2.1 == t.2.1) with
  | none=>exact absurd (List.find?_eq_none.mp q t ht) (by simp)
  | some r=>exact congrArg some (hu r (Qb q) t ht (by have:=List.find?_some q; simpa using this))
 have neA:∀t∈tabs,t.2.1≠a:=λt ht z=>by
  have e:=(hT t ht).2
  rw[z,ha] at e; cases e
 have all:∀H:Hp,(∀b,H b=none\/∃o xs,H b=some (.frz o (.lst xs)))->(∀b,H b≠none->b=a)->(H a≠none->K.lookup a=none)->DL.KL K H a (ns.map V.int)->Vr P w H s₁.heap ->
   Mx (model P w) Yu (.call (.ref fa) ⟨[.ref a],[]⟩) (λr s'=>r=.ok (.ret (.bool true))/\OldK s₁.heap s'.heap/\s'.os=s₁.os/\Sr s'.gens) s₁:=by
  intro H h1 h2 h3 h4 h5
  refine core (jV tabs H) (λb=>?_) ?_ (λb u z=>?_) (λb z=>?_) (λz=>?_) λt ht=>?_
  ·cases q:tabs.find? (λr=>r.2.1 == b) with
   | some t=>exact .inr (.inr ⟨_,Uq q⟩)
   | none =>
    rcases h1 b with z | ⟨o,xs,z⟩
    ·exact .inl (by rw[Lx q]; exact z)
    ·exact .inr (.inl ⟨o,xs,by rw[Lx q]; exact z⟩)
  ·have na:tabs.find? (λr=>r.2.1 == a)=none:=j3.mpr λt ht z=>neA t ht (by simpa using z)
   rcases h4 with ⟨o,h⟩ | h
   ·exact .inl ⟨o,by rw[Lx na]; exact h⟩
   ·exact .inr h
  ·cases q:tabs.find? (λr=>r.2.1 == b) with
   | some t =>
    rw[Uq q] at z
    cases z
    have eb:t.2.1=b:=by have:=List.find?_some q; simpa using this
    exact ⟨#[],by rw[<- eb]; exact (hT t (Qb q)).2,by simp [TriplesOk],λpos v y=>by simp [Qu] at y⟩
   | none =>
    rw[Lx q] at z
    rcases h1 b with y | ⟨o,xs,y⟩
    ·rw[z] at y; cases y
    ·rw[z] at y
     cases y
     exact h5 b _ z
  ·cases q:tabs.find? (λr=>r.2.1 == b) with
   | some t=>exact .inr ⟨t,Qb q,by have:=List.find?_some q; exact (by simpa using this : t.2.1=b).symm⟩
   | none =>
    rw[Lx q] at z
    exact .inl (h2 b z)
  ·have na:tabs.find? (λr=>r.2.1 == a)=none:=j3.mpr λt ht z=>neA t ht (by simpa using z)
   rw[Lx na] at z
   exact h3 z
  ·exact ⟨#[.str t.2.2 0],0,Uq (tabH t ht),rfl⟩
 cases hk:K.lookup a with
 | some o =>
  -- the script is one of the module's own objects
  have e:=KX a o hk
  rw[ha] at e
  cases e
  exact all (λ_=>none) (λ_=>.inl rfl) (λb z=>absurd rfl z) (λz=>absurd rfl z) (.inr ⟨vs.toArray,_,hk,by rw[Aq,lenV]; exact hl,by simpa using rv⟩) (λb u z=>by have z':(none:Option HO)=some u:=z; cases z')
 | none =>
  refine all (λb=>if b=a then some (.frz { cls:=.type "list",data:=.seq vs.toArray } (.lst (ns.map V.int))) else none) (λb=>?_) (λb z=>?_) (λ_=>hk) (.inl ⟨{ cls:=.type "list",data:=.seq vs.toArray },if_pos rfl⟩) (λb u z=>?_)
  ·by_cases hb:b=a
   ·exact .inr ⟨_,_,if_pos hb⟩
   ·exact .inl (if_neg hb)
  ·by_cases hb:b=a
   ·exact hb
   ·exact absurd (if_neg hb) z
  ·by_cases hb:b=a
   ·have z':=(if_pos hb).symm.trans z
    cases z'
    subst hb
    exact ⟨ha,by rw[Ac]; exact hl,vs,_,rv,ha⟩
   ·have z':=(if_neg hb).symm.trans z
    cases z'
theorem walk_ofD{l:PySem.W.OpenLaw}{n k:Nat}{q:Bo}{loose:List Str}{XP:(Str->Option Value)->Heap->Prop}{K:Params->PySem.W.Frag}{CX:World->tZ}{sp:World->Sp}(hn:l.most=some n)(hn2:n<=Av)(hdf:d.params.defaults=[])(hr:Room k Yu)(hY:∀(w:World) (h:Heap),YP w h->(K w.params).In h)(F:∀(w:World) (mg:Str->Option Value) (fa:Addr) (h:Heap),(K w.params).In h->h.Ns Cd mg->mg d.name=some (.ref fa)->(eT q (K w.params))/\∃fd:Ci,(∀(s:Ai) (u:Value),BindsTo s fd ⟨[u],[]⟩ [(x,u)])/\∀base:Heap,(K w.params).In base->base.Ns Cd mg->FnOk l.prog w (K w.params) mg base (CX w) k fa fd [x] (sp w))(hsp:∀(w:World) (H:Hp) (a:Addr) (ns:List Int),ns.length<=n->zL H->DL.KL (K w.params) H a (ns.map V.int)->sp w [.ref a] H (λv _=>v=.bl true) λ_ _ _=>False)(hCX:∀(w:World) (H:Hp) (s:Ai) (e:Value) (s':Ai),CX w [] H s (λ_ _ _=>False) e s'->False):PySem.W.WalkO q loose XP YP l.row.toRowW d [] (λf vs=>PySem.call f vs):=by
 refine Att.attach_call hn hdf λw s₀ s₁ mg mb fa o pm cd doc a vs ns G Y ho hd hcd hmg hobj hints hlen hg=>?_
 have KX:=hY w _ Y
 obtain ⟨⟨tabs,t1,t2,t3,t4⟩,fd,hb,hF⟩:=F w mg fa _ KX G.T.g hmg
 exact sF tabs (λt ht=>by
  obtain ⟨x,d,h1,h2⟩:=t1 t ht
  exact PySem.W.tab_of G.T KX h1 h2) t2 t3 t4 G.T.bmain KX G.T.g G.T.b G.T.builtins G.T.nolimit hg hobj hints (Cc hlen hn2) hr hF hb (λH hO hS=>hsp w H a ns hlen hO hS) λH e s'=>hCX w H s₁ e s'
end L2
namespace DL
open PySem PySem.Spec PyProof.Rows L2 Nd
def npk:List DV->Bool
 | []=>true
 | .dat .pk _::_=>false
 | _::xs=>npk xs
theorem Xn:∀{S:List Ent} {sl:List DV},S.map Ent.x=sl->npk sl=true->∀e∈S,Lg e.x=false
 | [],_,_,_,e,he=>nomatch he
 | ⟨v,x,F⟩::S,_,h,hn,e,he=>by
  subst h
  rw[Ar] at hn
  have : Lg x=false/\npk (S.map Ent.x)=true:=by
   cases x with
   | dat m d=>cases m <;> first | exact ⟨rfl,hn⟩ | cases hn
   | _=>exact ⟨rfl,hn⟩
  rcases Aj.mp he with rfl | he
  ·exact this.1
  ·exact Xn rfl this.2 e he
def own1:Md->Bool
 | .ow=>true
 | .tp=>true
 | _=>false
section
variable{K:PySem.W.Frag}{H0 H:Hp}{X:Addr->Prop}{n:Nat}{E:List Ent}
theorem At.write(h:At K H0 X n (⟨v,.dat m (.list ds),a::F⟩::E) H)(ho:own1 m=true)(hv:v=some (.ref a))(np:∀e∈E,Lg e.x=false)(r:RdFs K H ys es G)(hG:G.Sublist F)(hz:es.length<=Av):At K H0 X n (⟨v,.dat m (.list es),a::G⟩::E) (upd H a (.lst ys)):=by
 obtain ⟨w,e1,rd,hn,ht⟩:=h.ok _ Aa
 obtain ⟨b,xs,G0,e2,ha,ra,eF,_⟩:=rd.list_inv
 have eF':a::F=b::G0:=eF
 cases eF'
 have hs:=Bf.mp h.sep
 have naF:a∉F:=by
  cases m with
  | ow=>exact (Bz.mp (hn rfl)).1
  | tp=>exact ht rfl a F rfl
  | sh=>cases ho
  | pk=>cases ho
 have ca:a∈cells ⟨v,.dat m (.list ds),a::F⟩:=by
  cases m <;> first | exact Aa | cases ho
 have kp:∀{F':List Addr},a∉F'->Kp F' H (upd H a (.lst ys)):=λ{F'} hF b o q z=>by
  have : b≠a:=by
   rintro rfl
   rw[ha] at q
   cases q
   rcases z with z | z
   ·exact hF z
   ·rcases z with ⟨_,z⟩ | ⟨_,_,z⟩ <;> cases z
  rw[Cj this]
  exact q
 have n0:H0 a=none:=by
  rcases h.new _ Aa a ca with z | z
  ·exact z
  ·cases z.2
 have cs:∀c∈cells ⟨v,.dat m (.list es),a::G⟩,c∈cells ⟨v,.dat m (.list ds),a::F⟩:=λc hc=>by
  cases m with
  | ow =>
   rcases Aj.mp hc with z | z
   ·exact Aj.mpr (.inl z)
   ·exact Aj.mpr (.inr (hG.subset z))
  | tp=>exact hc
  | sh=>cases ho
  | pk=>cases ho
 have hsub:∀c∈a::G,c∈a::F:=λc hc=>by
  rcases Aj.mp hc with z | z
  ·exact Aj.mpr (.inl z)
  ·exact Aj.mpr (.inr (hG.subset z))
 have naG:a∉G:=λz=>naF (hG.subset z)
 refine ⟨λf hf=>?_,?_,λf hf=>?_,λb o nx q=>?_,λb o q=>?_,λb hb=>?_⟩
 ·rcases Aj.mp hf with rfl | hf
  ·refine ⟨.ref a,hv,.lst Cm hz (r.kp (kp naG)),λz=>?_,λz c l e=>?_⟩
   ·exact Bz.mpr ⟨naG,(Bz.mp (hn z)).2.sublist hG⟩
   ·cases e
    exact naG
  ·exact (h.ok f (Ae _ hf)).kp (kp ((hs.1 f hf).1 (.inl (np f hf)) a ca)) (Ak _)
 ·refine Bf.mpr ⟨λf hf=>⟨λhq c hc=>(hs.1 f hf).1 (.inl (np f hf)) c (cs c hc),λhq c hc z=>(hs.1 f hf).2 (.inl ?_) c hc (hsub c z)⟩,hs.2⟩
  cases m <;> first | rfl | cases ho
 ·rcases Aj.mp hf with rfl | hf
  ·exact λc hc=>h.new _ Aa c (cs c hc)
  ·exact h.new f (Ae _ hf)
 ·rw[Cj (Dc q n0)]
  exact h.same b o nx q
 ·rw[Cj (Dc q n0)]
  exact h.dom b o q
 ·obtain ⟨z,c,k,f,h1,h2⟩:=h.xd b hb
  refine ⟨z,c,k,f,(Cj ?_).trans h1,h2⟩
  rintro rfl
  exact z n0
end
theorem Jb{α:Type}:∀{l:List α} {i:Nat} {x:α},l[i]? = some x->l.Perm (x::l.eraseIdx i)
 | [],i,x,h=>by simp at h
 | z::l,0,x,h=>by
  simp at h
  subst h
  exact Rh _
 | z::l,i+1,x,h=>by
  have ih:=Jb (l:=l) (i:=i) (x:=x) (by simpa using h)
  rw[Rf]
  exact (ih.cons z).trans (Er x z _)
theorem Nl{α:Type}{l:List α}{x y:α}(h:l[i]? = some x):(l.set i y).Perm (y::l.eraseIdx i):=by
 have hlt:=(Ah.mp h).1
 have q:=Jb (l:=l.set i y) (i:=i) (x:=y) (by rw[Gj]; simp [hlt])
 rw[List.eraseIdx_set_eq] at q
 exact q
theorem oD{K:PySem.W.Frag}{H0 H:Hp}(hS:Sl S δ)(hT:∀e∈T,Lg e.x=false)(hA:At K H0 X δ.n (S++T) H)(hi:δ.sl[i]? = some (.dat m (.list ds)))(ho:own1 m=true)(np:npk δ.sl=true):∃a xs G,(vs S)[i]? = some (some (.ref a))/\H a=some (.lst xs)/\RdFs K H xs ds G/\ds.length<=Av/\∀ys G',RdFs K H ys es G'->G'.Sublist G->es.length<=Av->∃S',vs S'=vs S/\Sl S' ⟨δ.sl.set i (.dat m (.list es)),δ.n⟩/\At K H0 X δ.n (S'++T) (upd H a (.lst ys)):=by
 obtain ⟨ent,e2,e3⟩:=Gq hS hi
 have hm:ent∈S:=Au e2
 obtain ⟨u,x,F⟩:=ent
 have e3':x=.dat m (.list ds):=e3
 subst e3'
 obtain ⟨v,hv,rd,_⟩:=hA.ok _ (Am _ hm)
 obtain ⟨a,xs,G,rfl,ha,ra,eF,hz⟩:=rd.list_inv
 have eF':F=a::G:=eF
 subst eF'
 refine ⟨a,xs,G,by rw[Ke e2]; exact congrArg some hv,ha,ra,hz,λys G' r hG hz'=>?_⟩
 have hn:=Xn hS np
 have pm:(S++T).Perm (⟨u,.dat m (.list ds),a::G⟩::(S.eraseIdx i++T)):=by
  exact (Jb e2).append_right T
 have h1:=(hA.perm pm).write (es:=es) (ys:=ys) ho hv (λe he=>?_) r hG hz'
 ·refine ⟨S.set i ⟨u,.dat m (.list es),a::G'⟩,?_,?_,h1.perm ?_⟩
  ·unfold vs
   rw[Eg]
   apply Gk
   intro j
   rw[Gj]
   split
   ·rename_i hij
    subst hij
    rw[Az,e2]
    split
    ·rfl
    ·rename_i hj
     rw[Ac] at hj
     exact absurd (Ah.mp e2).1 hj
   ·rfl
  ·unfold Sl at hS ⊢
   rw[Eg,hS]
  ·exact ((Nl e2).append_right T).symm
 ·rcases Bg.mp he with he | he
  ·exact hn e ((Mo S i).subset he)
  ·exact hT e he
def fN(i:Nat)(de:DE):DB:=λD δ=>match δ.sl[i]? with
 | some (.dat _ (.list _))=>de δ λy δ1=>match δ1.sl[i]?,y with
  | some (.dat m (.list ds)),.dat _ e=>own1 m=true/\npk δ1.sl=true/\imm e=true/\ds.length<1000000/\D.nx ⟨δ1.sl.set i (.dat m (.list (ds++[e]))),δ1.n⟩
  | _,_=>False
 | _=>False
section
variable{X:Cx}{o e:Expr}{de:DE}{apos cpos pos:Pos}{i:Nat}
theorem dJ(ho:PE X o (Yi i))(he:Eu X e de)(hbase:Lp o "append" X.env (eval o X.env)=eval o X.env:=by rfl)
  (hfew:((Gd cpos (Bm [e] X.env)).all (λx=>!x.1) && (Yh cpos (Oz [] X.env)).all (λx=>x.1.isSome)
   && decide (([e]:List Expr).length+([]:List Ma).length+(if ([]:List Ma).isEmpty then 0 else 1)<30))=true:=by rfl)
  (hline:(apos.endLine == cpos.line)=true:=by rfl) (hs:Bm [e] X.env=(false,eval e X.env)::Bm [] X.env:=by rfl) (hplain:(Gd cpos (Bm [] X.env)).any (·.1)=false:=by rfl)
  (hsw:Hm (.Call (.Attribute o "append" apos) [e] [] cpos) none pos.line X.env=pure false:=by rfl) :
  lH X (.Expr (.Call (.Attribute o "append" apos) [e] [] cpos) pos) (fN i de):=by
 refine PS.impD (fO (rG PySem.F.plainAttrs_list PySem.F.slot_list_append PySem.F.type_list_append Lw ho (Fu he Iu hs) hbase hfew hline hs hplain) hsw) λD σ H h=>?_
 obtain ⟨H0,Y,S,T,δ,P,rfl,hS,hT,hA,hd,k1,k2,k3,k4⟩:=h
 unfold fN at hd
 split at hd
 case h_2=>exact hd.elim
 rename_i m0 ds0 hsl
 obtain ⟨ent,e2,e3⟩:=Gq hS hsl
 have hm:ent∈S:=Au e2
 obtain ⟨u,x,F⟩:=ent
 have e3':x=.dat m0 (.list ds0):=e3
 subst e3'
 obtain ⟨v,hv,rd,_⟩:=hA.ok _ (Am _ hm)
 obtain ⟨a,xs,G,rfl,ha,ra,eF,hz⟩:=rd.list_inv
 refine ⟨.ref a,by rw[Ke e2]; exact congrArg some hv,.inl ⟨rfl,xs,Kb.of ha⟩,H0,Y,S,T,δ,_,rfl,hS,hA,hd,λy δ1 w F1 S1 H1 e4 e5 hA1 p1=>?_⟩
 split at p1
 ·rename_i m ds m' e' hsl1
  obtain ⟨p1,p2,p3,p4,p5⟩:=p1
  have r:=hA1.told mem_mid
  obtain rfl:=r.imm p3
  obtain ⟨b,xs1,G1,g1,g2,g3,g4,g5⟩:=oD (es:=ds++[e']) e5 hT hA1.drop hsl1 p1 p2
  rw[e4,Ke e2] at g1
  have : some (V.ref b)=some (V.ref a):=(Bl g1).symm.trans hv
  cases this
  obtain ⟨S2,h1,h2,h3⟩:=g5 (xs1++[w]) (G1++[]) (g3.snoc r) (by rw[Dj]; exact Ec _) (by rw[Bw]; exact lG (by simp; omega))
  have hl:=g3.len
  refine ⟨a,xs1,w,rfl,rfl,g2,Br (by omega) (lG (n:=1000000) (Ak _)),?_⟩
  rw[<- e4,<- h1]
  exact k1 ⟨_,_⟩ S2 _ h2 h3 p5
 ·exact p1.elim
end
def spLawD(K:PySem.W.Frag):Sp:=λus H Q _=>∃(a:Addr) (ns:List Int),us=[.ref a]/\KL K H a (ns.map V.int)/\ns.length<=63/\∀H',Q (.bl true) H'
def retL:DEnds where
 nx:=λ_=>False
 rt:=λx _=>∃m,x=.dat m (.bool true)
section
variable{P:Bo}{w:World}{K:PySem.W.Frag}{mg:Str->Option Value}{base:Heap}
theorem R0{x qual p0:Str}{st:Stmt}(F:Fun K x qual st f fd)(S:FnScope N [p0] (Bu st))(hb:∀(cdv:Value) (A:Cn) (outer:List Env) (s:Ai) (H:Hp) (E:XK),Room k (A.deeper (envOfC qual (Bu st) s.heap.objs.size f cdv))->Yo (Mh Ib P w K mg base N qual (Bu st) f cdv A outer s H E).nox (Iw st) db)(h:∀ns:List Int,ns.length<=63->db retL ⟨.scr ns::Ik (N.length - 1) .un,0⟩):FnOk P w K mg base Ib (k+1) f fd [p0] (spLawD K):=by
 refine F.ok S (λvs H Q E z=>?_) λcdv A outer s H us Q E hr z=>?_
 ·obtain ⟨a,ns,rfl,_⟩:=z
  rfl
 ·obtain ⟨a,ns,rfl,hK,h63,k1⟩:=z
  refine ⟨_,hb cdv A outer s H E hr,H,λ_=>False,⟨some (.ref a),.scr ns,[]⟩::Jy (N.length - 1),[],⟨.scr ns::Ik (N.length - 1) .un,0⟩,retL,?_,?_,λ_ z=>(nomatch z),?_,h ns h63,λδ' S' H' e1 hA p=>p.elim,λx δ' v F' S' H' e1 hA p=>?_,λ_ _ _ _ _ p=>p.elim,λ_ _ _ _ _ p=>p.elim⟩
  ·unfold vs L2.start Jy
   rw[Ar,Ox]
   rfl
  ·unfold Sl Jy
   rw[Ar,Ox]
  ·rw[Dj]
   have hc:∀e∈(⟨some (.ref a),.scr ns,[]⟩::Jy (N.length - 1):List Ent),cells e=[]:=λe he=>by
    rcases Aj.mp he with rfl | he
    ·rfl
    ·rw[(Lc.mp he).2]
     rfl
   refine ⟨λe he=>?_,Rk λa ha b hb'=>⟨λhq c z=>?_,λhq c z=>?_⟩,λe he a ha=>?_,λb o _ e=>e,λb o e=>⟨o,e⟩,λb hb=>hb.elim⟩
   ·rcases Aj.mp he with rfl | he
    ·exact ⟨a,rfl,rfl,hK,h63⟩
    ·rw[(Lc.mp he).2]
     exact (rfl:([]:List Addr)=[])
   ·rw[hc a ha] at z; cases z
   ·rw[hc b hb'] at z; cases z
   ·rw[hc e he] at ha; cases ha
  ·obtain ⟨m,rfl⟩:=p
   rw[show S'++[(⟨some v,.dat m (.bool true),F'⟩ : Ent)]=S'++⟨some v,.dat m (.bool true),F'⟩::[] from rfl] at hA
   obtain ⟨rfl,_⟩:=(hA.told mem_mid).bl_inv
   exact k1 H'
end
def oZ(i:Nat)(dl dh:DO):DE:=λδ P=>match δ.sl[i]? with
 | some (.scr ns)=>dl δ λl δ2=>dh δ2 λh δ3=>P (.dat .ow (.list ((Yn ns l h).map An))) δ3
 | _=>False
def EB(i:Nat)(de:DE):DE:=λδ P=>match δ.sl[i]? with
 | some (.scr ns)=>de δ λy δ1=>match y with
  | .dat _ (.list es)=>Ed es=true/\ns.length+es.length<=1000000/\P (.dat .ow (.list (ns.map An++es))) δ1
  | _=>False
 | _=>False
section
variable{X:Cx}{e b:Expr}{de:DE}{lo hi:Option Expr}{dl dh:DO}{pos p2:Pos}{i:Nat}
theorem T1{K:PySem.W.Frag}(hS:Sl S δ)(hA:At K H0 Y δ.n (S++T) H)(hi:δ.sl[i]? = some (.scr ns)):∃a,(vs S)[i]? = some (some (.ref a))/\(⟨some (.ref a),.scr ns,[]⟩ : Ent)∈S/\KL K H a (ns.map V.int)/\ns.length<=63:=by
 obtain ⟨ent,e2,e3⟩:=Gq hS hi
 have hm:ent∈S:=Au e2
 obtain ⟨u,x,F⟩:=ent
 have e3':x=.scr ns:=e3
 subst e3'
 obtain ⟨a,h1,h2,h3⟩:=hA.ok _ (Am _ hm)
 have h1':u=some (.ref a):=h1
 have h2':F=[]:=h2
 subst h1' h2'
 exact ⟨a,by rw[Ke e2],hm,h3⟩
theorem vR(he:PE X e (Yi i))(hl:DZ X lo dl)(hh:DZ X hi dh):Eu X (.Subscript e (.Slice lo hi none p2) pos) (oZ i dl dh):=by
 refine PE.imp (uR (r:=Z8 X.K) o6 he hl hh) λσ H Q h=>?_
 obtain ⟨H0,Y,S,T,δ,P,rfl,hS,hA,hd,k⟩:=h
 unfold oZ at hd
 split at hd
 case h_2=>exact hd.elim
 rename_i ns hsl
 obtain ⟨a,ha,hm,hK,h63⟩:=T1 hS hA hsl
 have hA0:At X.K H0 Y δ.n (S++⟨some (.ref a),.scr ns,[]⟩::T) H:=(At.view1 hA (Am _ hm)).tomid
 refine ⟨.ref a,ha,H0,Y,S,⟨some (.ref a),.scr ns,[]⟩::T,δ,_,rfl,hS,hA0,hd,λl δ2 S2 H2 e3 e4 hA2 p2=>?_⟩
 refine ⟨H0,Y,S2,⟨some (.ref a),.scr ns,[]⟩::T,δ2,_,e3,e4,hA2,p2,λh δ3 S3 H3 e5 e6 hA3 p3=>?_⟩
 obtain ⟨a',h1,_,hK3,_⟩:=hA3.ok _ mem_mid
 cases h1
 refine ⟨a,_,rfl,hK3.sq,λp hp=>?_⟩
 have : yS (ns.map V.int) l h=(Yn ns l h).map V.int:=by
  rw[<- wY]; rfl
 rw[this]
 refine k _ δ3 _ _ S3 _ e5 e6 (hA3.drop.newI (RdFs.ints _) (Rm _) ?_ hp .ow) p3
 rw[Ac]
 have l1:=(xU ns l h).length_le
 exact sz (by omega)
end
def Py(p:Nat)(dc:DT)(de:DE)(δ:DS)(yes:Ad->Nat->Prop)(no:Nat->Prop):Prop:=dc δ λb δ2=>match b with
 | true=>de δ2 λy δ3=>match y with
  | .dat _ e=>imm e=true/\δ3.sl[p]? = some .drw/\yes e δ3.n
  | _=>False
 | false=>δ2.sl[p]? = some .drw/\no δ2.n
def nK(di:DI)(js1:List Nat)(j0:Nat)(js2:List Nat)(dc:DT)(de:DE):DE:=λδ P=>di δ λm ds δ1=>δ1.sl[j0]? = some .drw/\∃I:Nat->List Ad->Nat->Prop,I 0 [] δ1.n /\
 (∀i d acc n,ds[i]? = some d->I i acc n->Py (js1.length+1) dc de ⟨.dat m d::(frD (δ1.sl.set j0 .un) js1++.drw::frD (δ1.sl.set j0 .un) js2),n⟩ (λe n'=>I (i+1) (acc++[e]) n') (λn'=>I (i+1) acc n')) /\
 ∀acc n,I ds.length acc n->P (.dat .ow (.list acc)) ⟨δ1.sl,n⟩
section
variable{K:PySem.W.Frag}{H0 H H':Hp}{Y:Addr->Prop}{n n':Nat}{E S T:List Ent}
theorem At.re(h:At K H0 Y n E H)(ok:∀e∈E,Hl K H' n' e)(s:∀b o,¬ Y b->H0 b=some o->H' b=some o)(dm:∀b o,H0 b=some o->∃o',H' b=some o')(xd:∀b,Y b->H0 b≠none/\∃c k f,aX H' b c k f/\0<=k/\k<=(n':Int)):At K H0 Y n' E H':=⟨ok,h.sep,h.new,s,dm,xd⟩
theorem yR{p:Nat}(hA:At K H0 Y n E H)(hE:∀e∈S',e∈E)(hS:Sl S' δ)(hp:δ.sl[p]? = some .drw)(hv:(vs S')[p]? = some (some (.ref dr))):Hl K H n ⟨some (.ref dr),.drw,[dr]⟩:=by
 obtain ⟨ent,e2,e3⟩:=Gq hS hp
 have hm:ent∈S':=Au e2
 rw[Ke e2] at hv
 obtain ⟨u,x,F⟩:=ent
 have e3':x=.drw:=e3
 subst e3'
 have hu:u=some (.ref dr):=Bl hv
 subst hu
 obtain ⟨dr',c,k,f,h1,h2,h3⟩:=hA.ok _ (hE _ hm)
 have h1':some (V.ref dr)=some (V.ref dr'):=h1
 cases h1'
 exact ⟨dr,c,k,f,rfl,rfl,h3⟩
theorem i5{p:Nat}{dr:Addr}{dc:DT}{de:DE}{δ:DS}{N1:Hp->Prop}(hS:Sl S δ)(hA:At K H0 Y δ.n (S++⟨some (.ref D),.acc acc,[D]⟩::T) H)(hp:(vs S)[p]? = some (some (.ref dr)))(h:Py p dc de δ yes no)(k1:∀n' H',At K H0 Y n' (⟨some (.ref D),.acc acc,[D]⟩::T) H'->Hl K H' n' ⟨some (.ref dr),.drw,[dr]⟩->no n'->N1 H')(k2:∀e n' v H',At K H0 Y n' (⟨some (.ref D),.acc acc,[D]⟩::T) H'->Hl K H' n' ⟨some (.ref dr),.drw,[dr]⟩->RdF K H' v e []->yes e n'->N2 v H'):LT K dc (vs S) H λc H2=>if c=true then LE K de (vs S) H2 N2 else N1 H2:=by
 refine ⟨H0,Y,S,⟨some (.ref D),.acc acc,[D]⟩::T,δ,_,rfl,hS,hA,h,λb δ2 S2 H2 e1 e2 hA2 p2=>?_⟩
 cases b with
 | false=>exact mH (k1 _ _ (hA2.sub (Cu _ _)) (yR hA2 (λe he=>Am _ he) e2 p2.1 (by rw[e1]; exact hp)) p2.2)
 | true =>
  refine kW ⟨H0,Y,S2,⟨some (.ref D),.acc acc,[D]⟩::T,δ2,_,e1,e2,hA2,p2,λy δ3 v F S3 H3 e3 e4 hA3 p3=>?_⟩
  split at p3
  ·have r:=hA3.told mem_mid
   obtain rfl:=r.imm p3.1
   exact k2 _ _ _ _ (hA3.drop.sub (Cu _ _)) (yR hA3 (λe he=>Am _ he) e4 p3.2.1 (by rw[e3]; exact hp)) r p3.2.2
  ·exact p3.elim
theorem uU:∀σ H Q,LE K (nK di js1 j0 js2 dc de) σ H Q->kN (LI K di) (js1++j0::js2) (LT K dc) (LE K de) σ H Q:=by
 intro σ H Q h
 obtain ⟨H0,Y,S,T,δ,P,rfl,hS,hA,hd,k⟩:=h
 refine ⟨H0,Y,S,T,δ,_,rfl,hS,hA,hd,λm ds δ1 J hid S1 H1 e1 e2 hA1 it hz p1=>?_⟩
 obtain ⟨hj,I,h0,hs,hf⟩:=p1
 rw[<- e1]
 obtain ⟨ent,s1,s2⟩:=Gq e2 hj
 have hm':ent∈S1:=Au s1
 obtain ⟨u,x,F0⟩:=ent
 have s2':x=.drw:=s2
 subst s2'
 obtain ⟨dr,_,_,_,hv0,hF0,_⟩:=hA1.ok _ (Am _ hm')
 have hv0':u=some (.ref dr):=hv0
 have hF0':F0=[dr]:=hF0
 subst hv0' hF0'
 intro D hD
 refine ⟨λi q H=>q=ds.length - i/\i<=ds.length/\∃acc n,At K H0 Y n (⟨some (.ref D),.acc acc,[D]⟩::(S1++(hid++T))) H/\acc.length<=i/\I i acc n,⟨ds.length,by simp,Cr _,[],δ1.n,hA1.accNew hD,Ak _,h0⟩,?_⟩
 (intro i q H q_; obtain ⟨rfl,hi,acc,n,hA2,hl,hI⟩ := q_)
 have hid_ok:∀e∈hid,Hl K H n e:=λe he=>hA2.ok e (Ae _ (Al _ (Am _ he)))
 by_cases hlt:i<ds.length
 ·refine .inr ⟨it.go H n i hid_ok hlt,λx H' y=>?_⟩
  obtain ⟨s1',d,F,h1,h2,h3⟩:=it.yld H n i x H' hid_ok hlt y
  have hA3:At K H0 Y n ((⟨some (.ref D),.acc acc,[D]⟩::S1)++⟨some x,.dat m d,F⟩::(hid++T)) H':=At.item (S:=⟨some (.ref D),.acc acc,[D]⟩::S1) hA2 s1' h2 h3 it.md it.hd it.np
  -- the draws are taken out of their slot
  have hA4:At K H0 Y n (⟨some (.ref dr),.drw,[dr]⟩::⟨some x,.dat m d,F⟩::⟨some (.ref D),.acc acc,[D]⟩::(S1.set j0 ⟨some (.ref dr),.un,[]⟩++(hid++T))) H':=by
   have q:=hA3.mid.blank (v:=some (.ref dr))
   refine q.perm ?_
   have pS:(⟨some (.ref dr),.un,[]⟩::S1:List Ent).Perm (⟨some (.ref dr),.drw,[dr]⟩::S1.set j0 ⟨some (.ref dr),.un,[]⟩):=Rj s1
   have p2:=pS.append_right (hid++T)
   -- un::x::D::S1.. ~ x::D::un::S1..
   have a1:((⟨some (.ref dr),.un,[]⟩ : Ent)::⟨some x,.dat m d,F⟩::((⟨some (.ref D),.acc acc,[D]⟩::S1)++(hid++T))).Perm (⟨some x,.dat m d,F⟩::⟨some (.ref D),.acc acc,[D]⟩::⟨some (.ref dr),.un,[]⟩::(S1++(hid++T))) :=
    (Er _ _ _).trans ((Er _ _ _).cons _)
   have a2:((⟨some x,.dat m d,F⟩ : Ent)::⟨some (.ref D),.acc acc,[D]⟩::⟨some (.ref dr),.drw,[dr]⟩::(S1.set j0 ⟨some (.ref dr),.un,[]⟩++(hid++T))).Perm (⟨some (.ref dr),.drw,[dr]⟩::⟨some x,.dat m d,F⟩::⟨some (.ref D),.acc acc,[D]⟩::(S1.set j0 ⟨some (.ref dr),.un,[]⟩++(hid++T))) :=
    ((Er _ _ _).cons _).trans (Er _ _ _)
   exact a1.trans (((p2.cons _).cons _).trans a2)
  have e2':Sl (S1.set j0 ⟨some (.ref dr),.un,[]⟩) ⟨δ1.sl.set j0 .un,n⟩:=fL e2
  have vS:vs (S1.set j0 ⟨some (.ref dr),.un,[]⟩)=vs S1:=by
   rw[hU]
   apply Gk
   intro j
   rw[Gj]
   split
   ·rename_i hij
    subst hij
    rw[Ke s1]
    split
    ·rfl
    ·rename_i hj'
     unfold vs at hj'
     rw[Ac] at hj'
     exact absurd (Ah.mp s1).1 hj'
   ·rfl
  have hsub:∀e∈S1.set j0 ⟨some (.ref dr),.un,[]⟩,e∈(⟨some (.ref dr),.drw,[dr]⟩::⟨some x,.dat m d,F⟩::⟨some (.ref D),.acc acc,[D]⟩::(S1.set j0 ⟨some (.ref dr),.un,[]⟩++(hid++T)):List Ent):=λe he=>Ae _ (Ae _ (Ae _ (Am _ he)))
  have hA5:=At.view (S:=S1.set j0 ⟨some (.ref dr),.un,[]⟩) hA4 hsub js2
  have hA5':=At.view (S:=S1.set j0 ⟨some (.ref dr),.un,[]⟩) hA5 (λe he=>Al _ (hsub e he)) js1
  have hA6:At K H0 Y n ((⟨some x,.dat m d,F⟩::(Zb (S1.set j0 ⟨some (.ref dr),.un,[]⟩) js1++⟨some (.ref dr),.drw,[dr]⟩::Zb (S1.set j0 ⟨some (.ref dr),.un,[]⟩) js2))++⟨some (.ref D),.acc acc,[D]⟩::(S1.set j0 ⟨some (.ref dr),.un,[]⟩++(hid++T))) H':=by
   refine hA5'.perm ?_
   generalize Zb (S1.set j0 ⟨some (.ref dr),.un,[]⟩) js1=A1
   generalize Zb (S1.set j0 ⟨some (.ref dr),.un,[]⟩) js2=A2
   generalize (⟨some (.ref D),.acc acc,[D]⟩::(S1.set j0 ⟨some (.ref dr),.un,[]⟩++(hid++T)):List Ent)=R
   have b1:(A2++((⟨some (.ref dr),.drw,[dr]⟩ : Ent)::⟨some x,.dat m d,F⟩::R)).Perm ((⟨some x,.dat m d,F⟩ : Ent)::⟨some (.ref dr),.drw,[dr]⟩::(A2++R)) :=
    (Dv.trans ((Dv).cons _)).trans (Er _ _ _)
   have b2:=b1.append_left A1
   refine b2.trans (Dv.trans ?_)
   rw[Dl,Ce,Dl]
  have hS6:Sl (⟨some x,.dat m d,F⟩::(Zb (S1.set j0 ⟨some (.ref dr),.un,[]⟩) js1++⟨some (.ref dr),.drw,[dr]⟩::Zb (S1.set j0 ⟨some (.ref dr),.un,[]⟩) js2)) ⟨.dat m d::(frD (δ1.sl.set j0 .un) js1++.drw::frD (δ1.sl.set j0 .un) js2),n⟩:=by
   unfold Sl
   rw[Ar,Bh,Ar,qJ e2',qJ e2']
  have hv:vs (⟨some x,.dat m d,F⟩::(Zb (S1.set j0 ⟨some (.ref dr),.un,[]⟩) js1++⟨some (.ref dr),.drw,[dr]⟩::Zb (S1.set j0 ⟨some (.ref dr),.un,[]⟩) js2))=some x::Fl (vs S1) (js1++j0::js2):=by
   have f1:=qU (S1.set j0 ⟨some (.ref dr),.un,[]⟩) js1
   have f2:=qU (S1.set j0 ⟨some (.ref dr),.un,[]⟩) js2
   rw[vS] at f1 f2
   unfold vs at f1 f2 ⊢
   rw[Ar,Bh,Ar,f1,f2]
   unfold Fl
   rw[Bh,Ar,Az,s1]
   rfl
  have hp6:(vs (⟨some x,.dat m d,F⟩::(Zb (S1.set j0 ⟨some (.ref dr),.un,[]⟩) js1++⟨some (.ref dr),.drw,[dr]⟩::Zb (S1.set j0 ⟨some (.ref dr),.un,[]⟩) js2)))[js1.length+1]? = some (some (.ref dr)):=by
   unfold vs
   rw[Ar,lJ,Bh,Fj (by rw[Ac]; unfold Zb; rw[Ac]; exact Ak _)]
   rw[Ac]
   unfold Zb
   rw[Ac,Nat.sub_self]
   rfl
  -- back to the outer names
  have back:∀{n':Nat} {H2:Hp},At K H0 Y n' (⟨some (.ref D),.acc acc,[D]⟩::(S1.set j0 ⟨some (.ref dr),.un,[]⟩++(hid++T))) H2->Hl K H2 n' ⟨some (.ref dr),.drw,[dr]⟩->At K H0 Y n' (⟨some (.ref D),.acc acc,[D]⟩::(S1++(hid++T))) H2:=λ{n' H2} hB hd'=>by
   refine hA2.re (λe he=>?_) hB.same hB.dom hB.xd
   rcases Aj.mp he with rfl | he
   ·exact hB.ok _ Aa
   ·rcases Bg.mp he with he | he
    ·obtain ⟨j,hj1⟩:=List.getElem?_of_mem he
     by_cases hjj:j=j0
     ·subst hjj
      rw[s1] at hj1
      cases hj1
      exact hd'
     ·refine hB.ok e (Ae _ (Am _ (Au (i:=j) ?_)))
      rw[Nf (Pj hjj)]
      exact hj1
    ·exact hB.ok e (Ae _ (Al _ he))
  refine ⟨λH2=>∃m',m'<ds.length - i/\_,λy H3=>∃acc,H3 D=some (.lst acc)/\acc.length<Av/\∃m',m'<ds.length - i/\_,λH2 q=>q,λy H3 q=>q,?_⟩
  rw[<- hv]
  refine i5 hS6 hA6 hp6 (hs i d acc n h1 hI) (λn' H2 hA7 hd7 p=>?_) (λe n' v H2 hA7 hd7 r7 p=>?_)
  ·exact ⟨ds.length - (i+1),by omega,rfl,hlt,acc,n',back hA7 hd7,by omega,p⟩
  ·obtain ⟨xs,g1,g2,g3⟩:=(back hA7 hd7).accPut r7 (by omega)
   exact ⟨xs,g1,by omega,ds.length - (i+1),by omega,rfl,hlt,acc++[e],n',g3,by rw[Bw]; simp; omega,p⟩
 ·have e:i=ds.length:=by omega
  subst e
  refine .inl ⟨it.stop H n hid_ok,k _ ⟨δ1.sl,n⟩ _ [D] S1 H e1 e2 ?_ (hf acc n hI)⟩
  have hA3:=hA2.accGet
  have hA4:At K H0 Y n (⟨some (.ref D),.dat .ow (.list acc),[D]⟩::(S1++T)) H:=hA3.sub (((Ec S1).append (Cu hid T)).cons₂ _)
  exact hA4.tomid
end
section
variable{X:Cx}{elt iter c:Expr}{x y0:Str}{px py pos spos:Pos}{i0:Nat}{ifs:List Expr}{scope:Scope}{cl:List (Str×Addr)}{ys:List Str}{js1 js2:List Nat}{j0:Nat}{di:DI}{dc:DT}{de:DE}
theorem vT{o:Bool}(hN:X.N.Nodup)(hi0:X.N[i0]? = some y0)(hy0:X.env.scope.names.lookup y0=some .local)(C:CompScope X scope cl x ys (js1++j0::js2))(hc:X.calm=true)(hi:yQ X (.Name x px) iter di)(ht:∀fp s H,oM (Dy X scope cl (x::ys) fp s H) ifs (LT X.K dc))(he:∀fp s H,Eu (Dy X scope cl (x::ys) fp s H) elt de)(hs:∀x,Dz iter X.env x=pure x:=by intro _; rfl)(hsw:Hm (.ListComp elt [⟨.Name x px,iter,ifs,0⟩] scope pos) (some (.Name y0 py)) spos.line X.env=pure true:=by rfl):lH X (.Assign [.Name y0 py] (.ListComp elt [⟨.Name x px,iter,ifs,0⟩] scope pos) spos) (oH (nK di js1 j0 js2 dc de) (AA o i0)):=PS.impD (qC hN hi0 hy0 C hc hi ht he hs hsw) (aZ uU Q8)
end
def CY(i j:Int):Prop:=0<=j/\(Builtin.Int.intBits i:Int) * j<=2 ^ 27
theorem w4:Xo X (Jv .Pow) (rI CY λi j=>.int (i ^ j.toNat)):=DP λ_ _ _ _ _ _ _ hc q=>pow_int hc.1 hc.2 q
def Zv:DF:=λds n R=>ds=[]/\n<=100000/\∀r:Int,R (.int r) (n+1)
theorem n8{P:Bo}{w:World}{K:PySem.W.Frag}(F:FnOk P w K mg base Ib k f fd ps uK):FnOk P w K mg base Ib k f fd ps (jD K Zv):=by
 refine F.imp λus H Q E h=>?_
 obtain ⟨dr,ws,As,n,ds,R,rfl,eu,ok,nd,⟨c,kk,fl,hdr,h0,h1⟩,q,hp,k1⟩:=h
 obtain ⟨rfl,hn,hR⟩:=hp
 have hAs:As=[]:=by
  have:=Jp q
  rw[Ac] at this
  exact Re.mp this
 subst hAs
 have hws:ws=[]:=by
  cases ws with
  | nil=>rfl
  | cons _ _=>cases eu
 subst hws
 refine ⟨dr,c,kk,fl,rfl,hdr,h0,by omega,λr c' H' hd' s=>?_⟩
 exact k1 (.int r) (.int r) [] (n+1) H' (by omega) (hR r) (.int r) Co (λ_ z=>(nomatch z)) ⟨c',kk+1,fl,hd',by omega,by omega⟩ s
theorem t8{K:PySem.W.Frag}(h:H a=some (.tup (ns.map V.int)))(l:ns.length<=1000000):RdF K H (.ref a) (Bv ns) []:=.tup h (by rw[Ac]; exact lG l) (RdFs.ints ns)
theorem uD{K:PySem.W.Frag}{As:List Ent}(eu:As.map Ent.v=us.map some)(ok:∀e∈As,Hl K H n e)(q:datas (As.map Ent.x)=some [d1]):∃v1 F1,us=[v1]/\RdF K H v1 d1 F1:=by
 have r:=Sb eu q ok
 generalize As.flatMap Ent.F=G0 at r
 cases r with
 | cons a t =>
  cases t
  exact ⟨_,_,rfl,a⟩
def M8(K:PySem.W.Frag):List V->Hp->VK->Prop:=λxs H Q=>∃(a:Addr) (ns:List Int),xs=[.ref a]/\(Kb K H a (ns.map V.int)\/Vh K H a (ns.map V.int))/\Q (.int ns.sum) H
section
variable{X:Cx}
theorem rZ(hc:X.calm=true):Mf X (.builtin "sum") (M8 X.K):=by
 intro pins s σ H xs us Q I r h
 obtain ⟨p,ns,rfl,hp,q⟩:=h
 obtain ⟨u,rfl,ru⟩:=vals1 r
 cases ru
 rcases hp with hp | hp
 ·obtain ⟨its,rv,pl,_⟩:=I.list hp
  obtain ⟨ps,rfl,rfl⟩:=Nx rv
  have hl:s.heap.IsList p (Ui ps.toArray):=by simpa [Ui] using pl.isList
  refine sum_intListG (I.ok.hd hc) hl λh' tk t' k=>?_
  rw[preSum_eq,Em (by simp)]
  exact ⟨.int _,H,I.kept k,⟨t',rfl⟩,q⟩
 ·obtain ⟨its,rv,pl,_⟩:=I.tuple hp
  obtain ⟨ps,rfl,rfl⟩:=Nx rv
  obtain ⟨o,ho,hoc,m,hd⟩:=pl
  have hl:s.heap.IsTuple p (Ui ps.toArray):=⟨o,ho,hoc,m,by rw[hd]; simp [Ui]⟩
  refine PySem.W.ktm_sumG (I.ok.hd hc) hl λh' tk t' k=>?_
  rw[preSum_eq,Em (by simp)]
  exact ⟨.int _,H,I.kept k,⟨t',rfl⟩,q⟩
end
def wV:DC:=λxs P=>match xs with
 | [.dat _ (.list ds)]=>∃ns:List Int,ds=ns.map An/\P (.dat .ow (.int ns.sum))
 | [.dat _ (.tuple ds)]=>∃ns:List Int,ds=ns.map An/\P (.dat .ow (.int ns.sum))
 | _=>False
section
variable{K:PySem.W.Frag}
theorem O7:Ot K (M8 K) wV:=by
 intro H0 X n S T As us H Q P eu hA hd k
 unfold wV at hd
 split at hd
 ·rename_i ex
  obtain ⟨v,F,rfl,hA⟩:=Hg eu hA ex
  obtain ⟨ns,rfl,h1⟩:=hd
  obtain ⟨a,xs,G,rfl,ha,ra,rfl,hz⟩:=(hA.told mem_mid).list_inv
  obtain ⟨rfl,_⟩:=ra.ints_inv
  exact ⟨a,ns,rfl,.inl (Kb.of ha),k _ _ [] H (hA.drop.pushI (.int _)) h1⟩
 ·rename_i ex
  obtain ⟨v,F,rfl,hA⟩:=Hg eu hA ex
  obtain ⟨ns,rfl,h1⟩:=hd
  obtain ⟨a,xs,rfl,ha,ra,hz⟩:=(hA.told mem_mid).tup_inv
  obtain ⟨rfl,_⟩:=ra.ints_inv
  exact ⟨a,ns,rfl,.inr (Vh.of ha),k _ _ [] H (hA.drop.pushI (.int _)) h1⟩
 ·exact hd.elim
end
def mmd:Md->Md->Md
 | .ow,.ow=>.ow
 | _,_=>.tp
section
variable{K:PySem.W.Frag}{H0 H:Hp}{X:Addr->Prop}{n:Nat}{E:List Ent}
theorem At.merge(h:At K H0 X n (⟨v,.dat m (.list ds),a::F⟩::⟨some w,.dat my e,Fy⟩::E) H)(ho:own1 m=true)(hy:my≠.pk)(hv:v=some (.ref a))(np:∀e∈E,Lg e.x=false)(r:RdFs K H ys es G)(hG:∀c∈G,c∈F\/c∈Fy)(hnd:(F++Fy).Nodup->G.Nodup)(hz:es.length<=Av):At K H0 X n (⟨v,.dat (mmd m my) (.list es),a::G⟩::E) (upd H a (.lst ys)):=by
 obtain ⟨w1,e1,rd,hn,ht⟩:=h.ok _ Aa
 obtain ⟨w2,e2',rdy,hny,hty⟩:=h.ok _ (Ae _ Aa)
 obtain ⟨b,xs,G0,e2,ha,ra,eF,_⟩:=rd.list_inv
 have eF':a::F=b::G0:=eF
 cases eF'
 have hs:=Bf.mp h.sep
 have hs2:=Bf.mp hs.2
 have s12:=hs.1 _ Aa
 have pk2:Lg (DV.dat my e)=false:=by cases my <;> first | rfl | exact absurd rfl hy
 have pk1:Lg (DV.dat m (.list ds))=false:=by cases m <;> first | rfl | cases ho
 have naF:a∉F:=by
  cases m with
  | ow=>exact (Bz.mp (hn rfl)).1
  | tp=>exact ht rfl a F rfl
  | sh=>cases ho
  | pk=>cases ho
 have ca:a∈cells ⟨v,.dat m (.list ds),a::F⟩:=by
  cases m <;> first | exact Aa | cases ho
 have naY:a∉Fy:=s12.1 (.inl pk2) a ca
 have naG:a∉G:=λz=>(hG a z).elim naF naY
 have kp:∀{F':List Addr},a∉F'->Kp F' H (upd H a (.lst ys)):=λ{F'} hF b o q z=>by
  have : b≠a:=by
   rintro rfl
   rw[ha] at q
   cases q
   rcases z with z | z
   ·exact hF z
   ·rcases z with ⟨_,z⟩ | ⟨_,_,z⟩ <;> cases z
  rw[Cj this]
  exact q
 have n0:H0 a=none:=by
  rcases h.new _ Aa a ca with z | z
  ·exact z
  ·cases z.2
 have cs:∀c∈cells ⟨v,.dat (mmd m my) (.list es),a::G⟩,c∈cells ⟨v,.dat m (.list ds),a::F⟩\/c∈cells ⟨some w,.dat my e,Fy⟩:=λc hc=>by
  by_cases hm:m=.ow/\my=.ow
  ·obtain ⟨rfl,rfl⟩:=hm
   rcases Aj.mp (show c∈a::G from hc) with z | z
   ·rw[z]; exact .inl ca
   ·rcases hG c z with z | z
    ·exact .inl (Ae _ z)
    ·exact .inr z
  ·have hc':c∈[a]:=by
    cases m <;> cases my <;> first | exact hc | exact absurd ⟨rfl,rfl⟩ hm
   rw[Ag.mp hc']; exact .inl ca
 refine ⟨λf hf=>?_,?_,λf hf=>?_,λb o nx q=>?_,λb o q=>?_,λb hb=>?_⟩
 ·rcases Aj.mp hf with rfl | hf
  ·refine ⟨.ref a,hv,.lst Cm hz (r.kp (kp naG)),λz=>?_,λz c l e=>?_⟩
   ·have hm:m=.ow/\my=.ow:=by
     cases m <;> cases my <;> first | exact ⟨rfl,rfl⟩ | cases z
    obtain ⟨rfl,rfl⟩:=hm
    refine Bz.mpr ⟨naG,hnd (Gi.mpr ⟨(Bz.mp (hn rfl)).2,hny rfl,λx hx y hy' e=>?_⟩)⟩
    subst e
    exact s12.1 (.inl pk2) x (Ae _ hx) hy'
   ·cases e
    exact naG
  ·have f1:=Ae (⟨some w,.dat my e,Fy⟩ : Ent) hf
   exact (h.ok f (Ae _ f1)).kp (kp ((hs.1 f f1).1 (.inl (np f hf)) a ca)) (Ak _)
 ·refine Bf.mpr ⟨λf hf=>?_,hs2.2⟩
  have f1:=Ae (⟨some w,.dat my e,Fy⟩ : Ent) hf
  refine ⟨λhq c hc=>?_,λhq c hc z=>?_⟩
  ·rcases cs c hc with z | z
   ·exact (hs.1 f f1).1 (.inl (np f hf)) c z
   ·exact (hs2.1 f hf).1 (.inl (np f hf)) c z
  ·rcases Aj.mp z with z | z
   ·exact (hs.1 f f1).2 (.inl pk1) c hc (by rw[z]; exact Aa)
   ·rcases hG c z with z | z
    ·exact (hs.1 f f1).2 (.inl pk1) c hc (Ae _ z)
    ·exact (hs2.1 f hf).2 (.inl pk2) c hc z
 ·rcases Aj.mp hf with rfl | hf
  ·intro c hc
   rcases cs c hc with z | z
   ·rcases h.new _ Aa c z with z | z
    ·exact .inl z
    ·cases z.2
   ·rcases h.new _ (Ae _ Aa) c z with z | z
    ·exact .inl z
    ·cases z.2
  ·exact h.new f (Ae _ (Ae _ hf))
 ·rw[Cj (Dc q n0)]
  exact h.same b o nx q
 ·rw[Cj (Dc q n0)]
  exact h.dom b o q
 ·obtain ⟨z,c,k,f,h1,h2⟩:=h.xd b hb
  refine ⟨z,c,k,f,(Cj ?_).trans h1,h2⟩
  rintro rfl
  exact z n0
end
theorem mC{K:PySem.W.Frag}{H0 H:Hp}{X:Addr->Prop}{S T:List Ent}{δ:DS}(hS:Sl S δ)(hT:∀e∈T,Lg e.x=false)(hA:At K H0 X δ.n (S++⟨some w,.dat my e,Fy⟩::T) H)(hi:δ.sl[i]? = some (.dat m (.list ds)))(ho:own1 m=true)(hy:my≠.pk)(np:npk δ.sl=true)(hl:ds.length<1000000):∃a xs,(vs S)[i]? = some (some (.ref a))/\H a=some (.lst xs)/\xs.length=ds.length/\∃S',vs S'=vs S/\Sl S' ⟨δ.sl.set i (.dat (mmd m my) (.list (ds++[e]))),δ.n⟩/\At K H0 X δ.n (S'++T) (upd H a (.lst (xs++[w]))):=by
 obtain ⟨ent,e2,e3⟩:=Gq hS hi
 have hm:ent∈S:=Au e2
 obtain ⟨u,x,F⟩:=ent
 have e3':x=.dat m (.list ds):=e3
 subst e3'
 obtain ⟨v,hv,rd,_⟩:=hA.ok _ (Am _ hm)
 obtain ⟨a,xs,G,rfl,ha,ra,eF,hz⟩:=rd.list_inv
 have eF':F=a::G:=eF
 subst eF'
 have rw_:=hA.told mem_mid
 refine ⟨a,xs,by rw[Ke e2]; exact congrArg some hv,ha,ra.len,?_⟩
 have hn:=Xn hS np
 have pm:(S++⟨some w,.dat my e,Fy⟩::T).Perm (⟨u,.dat m (.list ds),a::G⟩::⟨some w,.dat my e,Fy⟩::(S.eraseIdx i++T)):=by
  refine ((Jb e2).append_right _).trans ?_
  rw[Dl]
  exact List.Perm.cons _ Dv
 have h1:=(hA.perm pm).merge (es:=ds++[e]) (ys:=xs++[w]) (G:=G++Fy) ho hy hv (λf hf=>?_) (ra.snoc rw_) (λc hc=>Bg.mp hc) (λz=>z) (by rw[Bw]; exact lG (by simp; omega))
 ·refine ⟨S.set i ⟨u,.dat (mmd m my) (.list (ds++[e])),a::(G++Fy)⟩,?_,?_,h1.perm ?_⟩
  ·unfold vs
   rw[Eg]
   apply Gk
   intro j
   rw[Gj]
   split
   ·rename_i hij
    subst hij
    rw[Az,e2]
    split
    ·rfl
    ·rename_i hj
     rw[Ac] at hj
     exact absurd (Ah.mp e2).1 hj
   ·rfl
  ·unfold Sl at hS ⊢
   rw[Eg,hS]
  ·exact ((Nl e2).append_right T).symm
 ·rcases Bg.mp hf with hf | hf
  ·exact hn f ((Mo S i).subset hf)
  ·exact hT f hf
def appOB(i:Nat)(y:DV)(δ:DS)(D:DEnds):Prop:=match δ.sl[i]?,y with
 | some (.dat m (.list ds)),.dat my e=>own1 m=true/\npk δ.sl=true/\my≠.pk/\ds.length<1000000/\D.nx ⟨δ.sl.set i (.dat (mmd m my) (.list (ds++[e]))),δ.n⟩
 | _,_=>False
def aO(i:Nat)(de:DE):DB:=λD δ=>match δ.sl[i]? with
 | some (.dat _ (.list _))=>de δ λy δ1=>appOB i y δ1 D
 | _=>False
section
variable{X:Cx}{o e:Expr}{de:DE}{apos cpos pos:Pos}{i:Nat}
theorem nO(ho:PE X o (Yi i))(he:Eu X e de)(hbase:Lp o "append" X.env (eval o X.env)=eval o X.env:=by rfl)
  (hfew:((Gd cpos (Bm [e] X.env)).all (λx=>!x.1) && (Yh cpos (Oz [] X.env)).all (λx=>x.1.isSome)
   && decide (([e]:List Expr).length+([]:List Ma).length+(if ([]:List Ma).isEmpty then 0 else 1)<30))=true:=by rfl)
  (hline:(apos.endLine == cpos.line)=true:=by rfl) (hs:Bm [e] X.env=(false,eval e X.env)::Bm [] X.env:=by rfl) (hplain:(Gd cpos (Bm [] X.env)).any (·.1)=false:=by rfl)
  (hsw:Hm (.Call (.Attribute o "append" apos) [e] [] cpos) none pos.line X.env=pure false:=by rfl) :
  lH X (.Expr (.Call (.Attribute o "append" apos) [e] [] cpos) pos) (aO i de):=by
 refine PS.impD (fO (rG PySem.F.plainAttrs_list PySem.F.slot_list_append PySem.F.type_list_append Lw ho (Fu he Iu hs) hbase hfew hline hs hplain) hsw) λD σ H h=>?_
 obtain ⟨H0,Y,S,T,δ,P,rfl,hS,hT,hA,hd,k1,k2,k3,k4⟩:=h
 unfold aO at hd
 split at hd
 case h_2=>exact hd.elim
 rename_i m0 ds0 hsl
 obtain ⟨ent,e2,e3⟩:=Gq hS hsl
 have hm:ent∈S:=Au e2
 obtain ⟨u,x,F⟩:=ent
 have e3':x=.dat m0 (.list ds0):=e3
 subst e3'
 obtain ⟨v,hv,rd,_⟩:=hA.ok _ (Am _ hm)
 obtain ⟨a,xs,G,rfl,ha,ra,eF,hz⟩:=rd.list_inv
 refine ⟨.ref a,by rw[Ke e2]; exact congrArg some hv,.inl ⟨rfl,xs,Kb.of ha⟩,H0,Y,S,T,δ,_,rfl,hS,hA,hd,λy δ1 w F1 S1 H1 e4 e5 hA1 p1=>?_⟩
 unfold appOB at p1
 split at p1
 ·rename_i m ds my e' hsl1
  obtain ⟨p1,p2,p3,p4,p5⟩:=p1
  obtain ⟨b,xs1,g1,g2,g3,S2,h1,h2,h3⟩:=mC e5 hT hA1 hsl1 p1 p3 p2 p4
  rw[e4,Ke e2] at g1
  have : some (V.ref b)=some (V.ref a):=(Bl g1).symm.trans hv
  cases this
  refine ⟨a,xs1,w,rfl,rfl,g2,Br (by omega) (lG (n:=1000000) (Ak _)),?_⟩
  rw[<- e4,<- h1]
  exact k1 ⟨_,_⟩ S2 _ h2 h3 p5
 ·exact p1.elim
end
end DL
namespace Nd
open PySem PySem.Spec PyProof.Rows L2
end Nd
namespace DL
open PySem PySem.Spec PyProof.Rows L2 Nd
end DL
namespace Nd
open PySem PySem.Spec PyProof.Rows
section
variable{prog:Bo}{w:World}{κ:Type}[DecidableEq κ](knd:HeapKind prog w κ)
def DictE(h:Heap)(d:Addr)(xs:List (κ×Addr×Value)):Prop :=
 ∃(o:Obj) (es:Array Ic) (ep:Nat),h.get? d=some o/\o.ExactDict/\o.data=.dict es ep/\es.toList=xs.map (bT knd)/\(∀x∈xs,knd.is h x.1 x.2.1)/\(xs.map (·.1)).Nodup/\ep=es.size
variable{knd}
theorem DictE.of(x:DictE knd h d xs):h.DictOfH knd d xs:=let ⟨o,es,ep,a,b,c,e,f,g,_⟩:=x; ⟨o,es,ep,a,b,c,e,f,g⟩
variable{A:Cn}{E:Value->Ai->Prop}{s:Ai}{d a:Addr}{xs:List (κ×Addr×Value)}{k:κ}{v:Value}
theorem rX(hn:(xs.map (·.1)).Nodup)(hk:k∉xs.map (·.1)):((xs++[(k,a,v)]).map (·.1)).Nodup:=by
 rw[Bh,List.nodup_append]
 refine ⟨hn,by simp,λx hx y hy e=>hk ?_⟩
 rw[Ar,Kf,List.mem_singleton] at hy
 have hy:y=k:=hy
 rw[<- hy,<- e]
 exact hx
theorem vQ(ho:h.get? d=some o)(hc:o.ExactDict)(hd:o.data=.dict es ep)(he:es.toList=xs.map (bT knd))(his:∀x∈xs,knd.is h x.1 x.2.1)(hn:(xs.map (·.1)).Nodup)(hep:ep=es.size)(hkey:knd.is h k a)(ha:atKey xs k=none)(hk:k∉xs.map (·.1)):DictE knd (h.update d (Obj.mapDictKeys λes=>es.push ⟨knd.hash k,.ref a,v⟩)) d (storedH xs k a v):=by
 rw[storedH_new ha]
 refine ⟨_,_,ep+1,Ji _ ho (Obj.isFreed_of_dict (Obj.data_mapDictKeys hd _)),hc.mapDictKeys _,Obj.data_mapDictKeys hd _,by simp [he,bT],λx hx=>?_,rX hn hk,by rw[hep,Array.size_push]⟩
 rcases Bg.mp hx with z | z
 ·exact knd.keeps (his x z) ho hd (Cf ..)
 ·rw[Ag.mp z]
  exact knd.keeps hkey ho hd (Cf ..)
theorem iV(hu:knd.room A)(hkey:knd.is s.heap k a)(hm:DictE knd s.heap d xs)(q:∀h',DictE knd h' d (storedH xs k a v)->Dh d s.heap h'->Q () { s with heap:=h',toks:=s.toks+knd.draws k })(hz:xs.length<=Av):wpAny (model prog w) A (dictSet d (.ref a) v) Q E s:=by
 obtain ⟨o,es,ep,ho,hc,hd,he,his,hn,hep⟩:=hm
 unfold dictSet
 try with_reducible refine Df ?_
 refine Ab (knd.pyHash hu hkey ?_)
 unfold dictSetHashed
 try with_reducible refine Df ?_
 refine Ab (wpAny_dictFind_heap (s:={ s with toks:=s.toks+knd.draws k }) hu hkey ho hd he his hn (λno=>?_) λj p hj=>?_)
 ·exact Ab (Oc (wpAny_updateDictKeys (hz:=by have e:=size_of_entries he; omega) (s:={ s with toks:=s.toks+knd.draws k }) ho hd (q _ (vQ ho hc hd he his hn hep hkey (atKey_none_of_get no) (not_mem_keys_of_get no)) (Cf ..))))
 ·refine Ab (Oc (Ab (wpAny_updateDict (s:={ s with toks:=s.toks+knd.draws k }) ho hd (wpAny_point (q _ ?_ (Cf ..))))))
  rw[storedH_old (atKey_of_get hn hj)]
  refine ⟨_,_,ep,Ji _ ho (Obj.isFreed_of_dict (Obj.data_mapDict hd _)),hc.mapDict _,Obj.data_mapDict hd _,?_,λx hx=>?_,by rw[keys_map_putAt]; exact hn,by rw[hep]; simp⟩
  ·have e1:=modify_map_putAt (bT knd) (λe:Ic=>{ e with val:=v }) k v (λ_ _=>rfl) hn hj
   rw[<- he] at e1
   obtain ⟨l⟩:=es
   simpa using e1
  ·obtain ⟨y,hy,rfl⟩:=Bs.mp hx
   unfold putAt
   split <;> exact knd.keeps (his y hy) ho hd (Cf ..)
theorem setItemE(hu:knd.room A.in1)(hkey:knd.is s.heap k a)(hm:DictE knd s.heap d xs)(q:∀h',DictE knd h' d (storedH xs k a v)->Dh d s.heap h'->Q () { s with heap:=h',toks:=s.toks+knd.draws k })(hz:xs.length<=Av):wpAny (model prog w) A (setItem (.ref d) (.ref a) v) Q E s:=by
 have tD:=hm.of.typeIs
 unfold setItem
 try with_reducible refine Df ?_
 refine Ab (wpAny_sequenceKey tD (by decide) ?_)
 refine Ab (Fg (name:=Ei "__setitem__") tD slot_dict_setitem (Gg slot_dict_setitem tD entry_dict_setitem ?_ (args_dict_setitem _ _ _)))
 show wpAny _ _ (bind (Builtin.Dict.notOrdered "__setitem__" ⟨[.ref d,.ref a,v],[]⟩) _) _ _ s
 refine Ab (Wv tD ?_)
 show wpAny _ _ (bind (dictSet d (.ref a) v) _) _ _ s
 exact Ab (iV hu hkey hm (λh' a b=>Ao ⟨.none,rfl,Ao (q h' a b)⟩) hz)
end
end Nd
namespace L2
open PySem PySem.Spec PyProof.Rows
section
variable{κ:Type}[DecidableEq κ]
def Ua(kvs:List (κ×V))(k:κ):Option V:=(kvs.find? λkv=>decide (kv.1=k)).map (·.2)
def Mp(kvs:List (κ×V))(k:κ)(v:V):List (κ×V) :=
 if (kvs.any λkv=>decide (kv.1=k))=true then kvs.map (λkv=>if kv.1=k then (kv.1,v) else kv) else kvs++[(k,v)]
theorem Rl{p:κ×V}(e:p.1=k):Ua (p::r) k=some p.2:=by simp [Ua,Iy,e]
theorem Sg{p:κ×V}(e:¬ p.1=k):Ua (p::r) k=Ua r k:=by simp [Ua,Iy,e]
theorem kE(k:κ):∀kvs:List (κ×V),(kvs.any λkv=>decide (kv.1=k))=(Ua kvs k).isSome
 | []=>rfl
 | p::r=>by
  rw[Ia]
  by_cases e:p.1=k
  ·simp only[Rl e,decide_eq_true e,Bool.true_or,Option.isSome_some]
  ·rw[Sg e,decide_eq_false e,Bool.false_or]; exact kE k r
theorem Rq(kvs:List (κ×V))(k:κ)(v:V):(Mp kvs k v).length<=kvs.length+1:=by
 unfold Mp
 split
 ·rw[Ac]; omega
 ·rw[Bw,Bp,Gr]; omega
theorem iY.isSome_eq(r:iY o u):o.isSome=u.isSome:=by
 cases o with
 | none=>cases u with
  | none=>rfl
  | some _=>exact (show False from r).elim
 | some _=>cases u with
  | none=>exact (show False from r).elim
  | some _=>rfl
theorem iY.getD(r:iY o u)(rd:RelV d d'):RelV (o.getD d) (u.getD d'):=by
 cases o with
 | none=>cases u with
  | none=>exact rd
  | some _=>exact (show False from r).elim
 | some _=>cases u with
  | none=>exact (show False from r).elim
  | some _=>exact r
theorem KV.val(r:KV kvs vs)(k:κ):iY (Ua kvs k) (valueAt vs k):=by
 unfold KV at r
 induction r with
 | nil=>exact Jz
 | @cons p q ps qs h t ih =>
  obtain ⟨h1,h2⟩:=h
  by_cases e:p.1=k
  ·have e':q.1=k:=h1.symm.trans e
   have b:valueAt (q::qs) k=some q.2:=by simp [valueAt,Iy,e']
   rw[Rl e,b]; exact h2
  ·have e':¬ q.1=k:=λz=>e (h1.trans z)
   have b:valueAt (q::qs) k=valueAt qs k:=by simp [valueAt,Iy,e']
   rw[Sg e,b]; exact ih
theorem KV.any(r:KV kvs vs)(k:κ):(kvs.any λkv=>decide (kv.1=k))=vs.any λkv=>decide (kv.1=k):=by
 unfold KV at r
 induction r with
 | nil=>rfl
 | cons h t ih=>rw[Ia,Ia,ih,h.1]
theorem KV.repl(r:KV kvs vs)(k:κ)(ry:RelV y u):KV (kvs.map λkv=>if kv.1=k then (kv.1,y) else kv) (vs.map λkv=>if kv.1=k then (kv.1,u) else kv):=by
 unfold KV at r ⊢
 induction r with
 | nil=>exact .nil
 | @cons p q ps qs h t ih =>
  rw[Ar,Ar]
  refine .cons ?_ ih
  obtain ⟨h1,h2⟩:=h
  by_cases e:p.1=k
  ·rw[if_pos e,if_pos (h1.symm.trans e)]; exact ⟨h1,ry⟩
  ·rw[if_neg e,if_neg (λz=>e (h1.trans z))]; exact ⟨h1,h2⟩
theorem KV.put(r:KV kvs vs)(k:κ)(ry:RelV y u):KV (Mp kvs k y) (stored vs k u):=by
 unfold Mp stored
 rw[r.any k]
 by_cases e:(vs.any λkv=>decide (kv.1=k))=true
 ·rw[if_pos e,if_pos e]; exact r.repl k ry
 ·rw[if_neg e,if_neg e]; exact Paired.snoc r ⟨rfl,ry⟩
theorem KV.length{kvs:List (κ×V)}(r:KV kvs vs):kvs.length=vs.length:=Paired.length r
end
theorem pT(r:RelV (kV k) u):(Hh P w).is k u=true:=by
 cases k with
 | inl i=>obtain ⟨t,e⟩:=(show ∃t,u=Vb i t from r); subst e; exact iN P w i t
 | inr x=>obtain ⟨t,e⟩:=(show ∃t,u=Value.str x t from r); subst e; exact jL P w x t
theorem cT:∀{ks:List Hr} {us:List Value},Fd (ks.map kV) us->ItemsAre (Hh P w) ks us
 | [],_,r=>by rw[Kf] at r; cases r; exact .nil
 | k::ks,_,r=>by
  rw[Ar] at r
  cases r with
  | cons h t=>exact .cons (pT h) (cT t)
abbrev KT(H:Hp):List (List Hr×V)->List (List Hr×Addr×Value)->Prop:=Paired λp q=>p.1=q.1/\H q.2.1=some (.tup (p.1.map kV))/\RelV p.2 q.2.2
theorem KT.val(r:KT H kvs xs)(k:List Hr):iY (Ua kvs k) ((atKey xs k).map (·.2)):=by
 induction r with
 | nil=>exact Jz
 | @cons p q ps qs h t ih =>
  obtain ⟨h1,_,h2⟩:=h
  by_cases e:p.1=k
  ·have e':q.1=k:=h1.symm.trans e
   have b:atKey (q::qs) k=some q.2:=by simp [atKey,Iy,e']
   rw[Rl e,b]; exact h2
  ·have e':¬ q.1=k:=λz=>e (h1.trans z)
   have b:atKey (q::qs) k=atKey qs k:=by simp [atKey,Iy,e']
   rw[Sg e,b]; exact ih
theorem KT.repl(r:KT H kvs xs)(k:List Hr)(ry:RelV y u):KT H (kvs.map λkv=>if kv.1=k then (kv.1,y) else kv) (xs.map (putAt k u)):=by
 induction r with
 | nil=>exact .nil
 | @cons p q ps qs h t ih =>
  rw[Ar,Ar]
  refine .cons ?_ ih
  obtain ⟨h1,h2,h3⟩:=h
  unfold putAt
  by_cases e:p.1=k
  ·rw[if_pos e,if_pos (h1.symm.trans e)]; exact ⟨h1,h2,ry⟩
  ·rw[if_neg e,if_neg (λz=>e (h1.trans z))]; exact ⟨h1,h2,h3⟩
theorem KT.put(r:KT H kvs xs)(k:List Hr)(hb:H b=some (.tup (k.map kV)))(ry:RelV y u):KT H (Mp kvs k y) (storedH xs k b u):=by
 have e:(kvs.any λkv=>decide (kv.1=k))=(atKey xs k).isSome:=by
  rw[kE,(r.val k).isSome_eq,Option.isSome_map]
 unfold Mp storedH
 rw[e]
 by_cases q:(atKey xs k).isSome=true
 ·rw[if_pos q,if_pos q]; exact r.repl k ry
 ·rw[if_neg q,if_neg q]; exact Paired.snoc r ⟨rfl,hb,ry⟩
theorem KT.keeps(r:KT H kvs xs)(ht:∀b ys,H b=some (.tup ys)->H' b=some (.tup ys)):KT H' kvs xs :=
 Paired.mapP r λ_ _ z=>⟨z.1,ht _ _ z.2.1,z.2.2⟩
section
variable{P:Bo}{w:World}{H:Hp}{h:Heap}{a:Addr}
theorem d0(ok:Vr P w H h)(e:Rd H a u):Hk P w H h a u:=e.ok ok
theorem kK(ok:Vr P w H h)(e:Rd H a (.dK kvs)):kvs.length<=Av/\(a == Ft)=false/\∃vs,KV kvs vs/\h.DictOf (Hh P w) a vs :=
 show Hk P w H h a (.dK kvs) from d0 ok e
theorem BI(ok:Vr P w H h)(e:H a=some (.dK kvs)):kvs.length<=Av/\(a == Ft)=false/\∃vs,KV kvs vs/\h.DictOf (Hh P w) a vs:=kK ok (.inl e)
theorem Xk(ok:Vr P w H h)(e:H a=some (.tup (ks.map kV))):(Qt (Hh P w)).is h ks a:=by
 obtain ⟨_,its,r,o,h1,h2,n,h3⟩:=(show Hk P w H h a (.tup (ks.map kV)) from ok a _ e)
 exact ⟨o,its.toArray,n,h1,h2,h3,by simpa using cT r⟩
theorem pN(ok:Vr P w H h)(e:Rd H a (.dT kvs)):kvs.length<=Av/\(a == Ft)=false/\∃xs,KT H kvs xs/\h.DictOfH (Qt (Hh P w)) a xs:=by
 obtain ⟨z,y,xs,r,o,es,ep,h1,h2,h3,h4,h5,h6⟩:=(show Hk P w H h a (.dT kvs) from d0 ok e)
 refine ⟨z,y,xs,r,o,es,ep,h1,h2,h3,h4,λx hx=>?_,h5⟩
 have all:∀{l:List (List Hr×V)} {m:List (List Hr×Addr×Value)},KT H l m->∀x∈m,(Qt (Hh P w)).is h x.1 x.2.1:=by
  intro l m q
  induction q with
  | nil=>intro x hx; exact nomatch hx
  | @cons p q ps qs hq t ih =>
   intro x hx
   rcases Aj.mp hx with e | hx
   ·subst e
    exact Xk ok (by rw[<- hq.1]; exact hq.2.1)
   ·exact ih x hx
 exact all r x hx
theorem zB(ok:Vr P w H h)(e:Rd H a (.dT kvs)):kvs.length<=Av/\(a == Ft)=false/\∃xs,KT H kvs xs/\Nd.DictE (Qt (Hh P w)) h a xs:=by
 obtain ⟨z,y,xs,r,o,es,ep,h1,h2,h3,h4,h5,h6⟩:=(show Hk P w H h a (.dT kvs) from d0 ok e)
 refine ⟨z,y,xs,r,o,es,ep,h1,h2,h3,h4,λx hx=>?_,h5,h6⟩
 have all:∀{l:List (List Hr×V)} {m:List (List Hr×Addr×Value)},KT H l m->∀x∈m,(Qt (Hh P w)).is h x.1 x.2.1:=by
  intro l m q
  induction q with
  | nil=>intro x hx; exact nomatch hx
  | @cons p q ps qs hq t ih =>
   intro x hx
   rcases Aj.mp hx with e | hx
   ·subst e
    exact Xk ok (by rw[<- hq.1]; exact hq.2.1)
   ·exact ih x hx
 exact all r x hx
end
def kG(H:Hp)(a:Addr)(y:V)(r:Option V):Prop :=
 (∃kvs k,Rd H a (.dK kvs)/\y=kV k/\r=Ua kvs k)\/∃kvs k b,Rd H a (.dT kvs)/\y=.ref b/\H b=some (.tup (k.map kV))/\r=Ua kvs k
def o9(H:Hp)(a:Addr)(y v:V)(H':Hp):Prop :=
 (∃kvs k,H a=some (.dK kvs)/\y=kV k/\kvs.length<Av/\H'=upd H a (.dK (Mp kvs k v))) \/
 ∃kvs k b,H a=some (.dT kvs)/\y=.ref b/\H b=some (.tup (k.map kV))/\kvs.length<Av/\H'=upd H a (.dT (Mp kvs k v))
theorem kG.k{k:Hr}(e:H a=some (.dK kvs)):kG H a (kV k) (Ua kvs k):=.inl ⟨kvs,k,.inl e,rfl,rfl⟩
theorem kG.t{k:List Hr}(e:H a=some (.dT kvs))(eb:H b=some (.tup (k.map kV))):kG H a (.ref b) (Ua kvs k):=.inr ⟨kvs,k,b,.inl e,rfl,eb,rfl⟩
theorem o9.k{k:Hr}(e:H a=some (.dK kvs))(hl:kvs.length<Av):o9 H a (kV k) v (upd H a (.dK (Mp kvs k v))):=.inl ⟨kvs,k,e,rfl,hl,rfl⟩
theorem o9.t{k:List Hr}(e:H a=some (.dT kvs))(eb:H b=some (.tup (k.map kV)))(hl:kvs.length<Av):o9 H a (.ref b) v (upd H a (.dT (Mp kvs k v))):=.inr ⟨kvs,k,b,e,rfl,eb,hl,rfl⟩
section
variable{X:Cx}{pins:List (Addr×Obj)}{σ:St}{H:Hp}{s:Ai}{a:Addr}{y v:V}{u r:Value}{o:Option V}{A:Cn}{E:Value->Ai->Prop}
theorem Inv.big(I:Inv X pins σ H s):Ft<s.heap.objs.size:=by
 have h:Cd<s.heap.objs.size:=(I.mod.glob.keeps I.bk).lt
 exact Nat.lt_trans (by decide) h
theorem tS(hu:A.units+1<cLine)(I:Inv X pins σ H s)(g:kG H a y (some v))(ry:RelV y u)(h:∀w' s',Inv X pins σ H s'->RelV v w'->Q w' s'):wpAny (model X.prog X.w) A (getItem (.ref a) u) Q E s:=by
 rcases g with ⟨kvs,k,e,ey,l⟩ | ⟨kvs,k,b,e,ey,eb,l⟩
 ·subst ey
  obtain ⟨z,hd,vs,rel,dd⟩:=kK I.hok e
  obtain ⟨w',hw,rw'⟩:=iY.some_of (v:=v) (o:=valueAt vs k) (by rw[l]; exact rel.val k)
  exact wpAny_getItem_of (pT ry) dd.mapOf hw (h w' _ (I.tok _) rw')
 ·subst ey
  cases (show u=Bc b from ry)
  obtain ⟨z,hd,xs,rel,dd⟩:=pN I.hok e
  obtain ⟨w',hw,rw'⟩:=iY.some_of (v:=v) (o:=(atKey xs k).map (·.2)) (by rw[l]; exact rel.val k)
  obtain ⟨p,hp,hp2⟩:=Option.map_eq_some_iff.mp hw
  refine wpAny_getItem_heap (bS hu) (Xk I.hok eb) dd hp ?_
  rw[hp2]
  exact h w' _ (I.tok _) rw'
theorem gE(I:Inv X pins σ H s)(mu:BJ (H a))(hs:Dh a s.heap h')(he:∃q,h'.get? a=some q)(new:Hk X.prog X.w (upd H a ob) h' a ob):Inv X pins σ (upd H a ob) { s with heap:=h',toks:=t' } :=
 I.write (x:=a) (e:=a) mu (.inl rfl) (λb q hb z=>(hs.2 b hb).trans z) he new
theorem W3(z:kvs.length<=Av)(hd:(a == Ft)=false)(rel:KV kvs vs)(dd:h'.DictOf (Hh P w) a vs):Hk P w H' h' a (.dK kvs):=⟨z,hd,vs,rel,dd⟩
theorem sX(hu:A.units+1<cLine)(I:Inv X pins σ H s)(g:o9 H a y v H')(ry:RelV y u)(rv:RelV v r)(h:∀s',Inv X pins σ H' s'->Q () s'):wpAny (model X.prog X.w) A (setItem (.ref a) u r) Q E s:=by
 rcases g with ⟨kvs,k,e,ey,l,eH⟩ | ⟨kvs,k,b,e,ey,eb,l,eH⟩
 ·subst ey eH
  obtain ⟨z,hd,vs,rel,dd⟩:=BI I.hok e
  have hz:vs.length<=Av:=by rw[<- rel.length]; exact z
  have hl:(Mp kvs k v).length<=Av:=by have:=Rq kvs k v; omega
  refine wpAny_setItem_pairs (hsz:=hz) (pT ry) dd λh' dd' hs=>h _ ?_
  have he:∃q,h'.get? a=some q:=let ⟨q,_,_,hq,_⟩:=dd'; ⟨q,hq⟩
  exact gE I (by rw[e]; exact Jz) hs he (W3 hl hd (rel.put k rv) dd')
 ·subst ey eH
  cases (show u=Bc b from ry)
  obtain ⟨z,hd,xs,rel,dd⟩:=zB I.hok (.inl e)
  have hz:xs.length<=Av:=by rw[<- Paired.length rel]; exact z
  have hl:(Mp kvs k v).length<=Av:=by have:=Rq kvs k v; omega
  refine Nd.setItemE (hz:=hz) (bS hu) (Xk I.hok eb) dd λh' dd' hs=>h _ ?_
  obtain ⟨q,es,ep,hq,h2,h3,h4,_,h5⟩:=dd'
  refine gE I (by rw[e]; exact Jz) hs ⟨q,hq⟩ ⟨hl,hd,_,(rel.put k eb rv).keeps λc ys ec=>?_,q,es,ep,hq,h2,h3,h4,h5⟩
  rw[Cj (qT ec e (λz=>nomatch z))]
  exact ec
end
def u5(i:Expr):Prop:=∀ov iv,subscripted i false ov iv=operate [ov,iv] (getItem ov iv)
theorem u3{prog:Bo}{w:World}{A:Cn}{E:Value->Ai->Prop}{T id:String}(hl:typeLookup (.type T) "__getitem__" = pure (some (.builtin id)))(hs:u5 slice)(h:wpAny (model prog w) A (eval value env) (λo s₁=>wpAny (model prog w) A (eval slice env) (λi s₂=>s₂.TypeIs o T/\wpAny (model prog w) A (getItem o i) Q E s₂) E s₁) E s):wpAny (model prog w) A (eval (.Subscript value slice pos) env) Q E s:=by
 refine Vl (Eo h (λo s₁ h₁=>Eo h₁ (λi s₂ h₂=>?_) λ_ _ x=>x) λ_ _ x=>x)
 obtain ⟨hT,h₂⟩:=h₂
 unfold bL
 refine Ab ?_
 rw[getitemInPython_of_ne hT.not_modules]
 refine Ab (wpAny_specialOf hT hl ?_)
 have fin:wpAny (model prog w) A (subscripted slice false o i) (λr s₃=>wpAny (model prog w) A (letTemporaryGo value o r >>= λ_=>pure r) Q E s₃) E s₂:=by
  rw[hs o i]
  exact wpAny_operating (Eo h₂ (λr s₃ h₃=>Ab (wpAny_letTemporaryGo (Ao h₃))) λ_ _ x=>x)
 first
  | exact Ao (Ab fin)
  | exact Ab (Ao (Ab fin))
  | exact Ab fin
theorem kP{X:Cx}{pins:List (Addr×Obj)}{σ:St}(I:Inv X pins σ H s)(g:kG H a y o):s.TypeIs (.ref a) "dict" := by
 rcases g with ⟨kvs,k,e,_,_⟩ | ⟨kvs,k,b,e,_,_,_⟩
 ·obtain ⟨_,_,vs,_,dd⟩:=kK I.hok e
  exact dd.typeIs
 ·obtain ⟨_,_,xs,_,dd⟩:=pN I.hok e
  exact dd.typeIs
def CD(td ty:TE):TE:=λσ H Q=>td σ H λx H1=>ty σ H1 λy H2=>∃a v,x=.ref a/\kG H2 a y (some v)/\Q v H2
def CL(td ty tv:TE):TS:=λD σ H=>tv σ H λv H1=>td σ H1 λx H2=>ty σ H2 λy H3=>∃a H4,x=.ref a/\o9 H3 a y v H4/\D.nx σ H4
section
variable{X:Cx}{o i e value:Expr}{pos pos' tpos:Pos}{td ty tv:TE}
theorem pI(hu:X.A.units+1<cLine)(ho:PE X o td)(hi:PE X i ty)(hs:u5 i):PE X (.Subscript o i pos) (CD td ty):=by
 intro pins s σ H Q I h
 refine u3 PySem.F.slot_dict_getitem.lookup hs (Fn (ho pins s σ H _ I h) λu s1 ⟨x,H1,I1,rx,q1⟩=>Fn (hi pins s1 σ H1 _ I1 q1) λiv s2 q0_ => ?_)
 obtain ⟨y,H2,I2,ry,a,v,ex,g,q2⟩ := q0_
 subst ex
 obtain rfl:u=Bc a:=rx
 exact ⟨kP I2 g,tS hu I2 g ry λw' s3 I3 rw'=>⟨v,H2,I3,rw',q2⟩⟩
theorem pM(hu:X.A.units+1<cLine)(ho:PE X o td)(hi:PE X i ty)(hv:PE X value tv)(hs:Hm value (some (.Subscript o i pos')) pos.line X.env=pure false):PS X (.Assign [.Subscript o i pos'] value pos) (CL td ty tv):=by
 intro pins s σ H D I h
 refine wpAny_Assign_Subscript (Fn (hv pins s σ H _ I h) λr s1 ⟨v,H1,I1,rv,q1⟩=>Fn (ho pins s1 σ H1 _ I1 q1) λu s2 ⟨x,H2,I2,rx,q2⟩=>Fn (hi pins s2 σ H2 _ I2 q2) λiv s3 ⟨y,H3,I3,ry,a,H4,ex,g,q3⟩=>?_) hs
 subst ex
 obtain rfl:u=Bc a:=rx
 exact sX hu I3 g ry rv λs4 I4=>⟨σ,H4,I4,q3⟩
end
theorem vJ(h:Heap)(hb:Ft<h.objs.size):Hk P w H (h.push { cls:=.type "dict",data:=.dict #[] }) h.objs.size (.dK []) :=
 ⟨Cr _,beq_eq_false_iff_ne.mpr (Pj (By hb)),[],.nil,Heap.DictOf.new h⟩
theorem jK(h:Heap)(hb:Ft<h.objs.size):Hk P w H (h.push { cls:=.type "dict",data:=.dict #[] }) h.objs.size (.dT []) :=
 ⟨Cr _,beq_eq_false_iff_ne.mpr (Pj (By hb)),[],.nil,_,#[],0,Bb _ rfl,⟨rfl,rfl,rfl⟩,rfl,rfl,Co,rfl⟩
def V7:TE:=λ_ H Q=>∀p,H p=none->Q (.ref p) (upd H p (.dK []))
def V1:TE:=λ_ H Q=>∀p,H p=none->Q (.ref p) (upd H p (.dT []))
section
variable{X:Cx}{pos:Pos}
theorem xD:PE X (.Dict [] [] pos) V7:=λpins s σ H Q I h =>
 wpAny_Dict_empty ⟨.ref s.heap.objs.size,_,I.laid (a:=s.heap.objs.size) (o:=.dK []) (t':=s.toks) (λ_ _ q=>Af _ q) (Ak _) (vJ s.heap I.big),rfl,h _ (I.hok.fresh (Ak _))⟩
theorem vY:PE X (.Dict [] [] pos) V1:=λpins s σ H Q I h =>
 wpAny_Dict_empty ⟨.ref s.heap.objs.size,_,I.laid (a:=s.heap.objs.size) (o:=.dT []) (t':=s.toks) (λ_ _ q=>Af _ q) (Ak _) (jK s.heap I.big),rfl,h _ (I.hok.fresh (Ak _))⟩
end
structure M1(X:Cx)(o:Expr)(m:Str)(apos:Pos)(e:Expr)(cpos:Pos):Prop where
 base:Lp o m X.env (eval o X.env)=eval o X.env
 few:((Gd cpos (Bm [e] X.env)).all (λx=>!x.1) && (Yh cpos (Oz [] X.env)).all (λx=>x.1.isSome)
  && decide (([e]:List Expr).length+([]:List Ma).length+(if ([]:List Ma).isEmpty then 0 else 1)<30))=true
 line:(apos.endLine == cpos.line)=true
 trees:Gd cpos (Bm [e] X.env)=[(false,eval e X.env)]
structure M2(X:Cx)(o:Expr)(m:Str)(apos:Pos)(e f:Expr)(cpos:Pos):Prop where
 base:Lp o m X.env (eval o X.env)=eval o X.env
 few:((Gd cpos (Bm [e,f] X.env)).all (λx=>!x.1) && (Yh cpos (Oz [] X.env)).all (λx=>x.1.isSome)
  && decide (([e,f]:List Expr).length+([]:List Ma).length+(if ([]:List Ma).isEmpty then 0 else 1)<30))=true
 line:(apos.endLine == cpos.line)=true
 trees:Gd cpos (Bm [e,f] X.env)=[(false,eval e X.env),(false,eval f X.env)]
def GG(H:Hp)(a:Addr):Prop:=(∃kvs,Rd H a (.dK kvs))\/∃kvs,Rd H a (.dT kvs)
theorem O6{σ:St}(I:Inv X pins σ H s)(d:GG H a):s.TypeIs (.ref a) "dict" /\ (∀b,Bc a=.ref b->∃ob,s.heap.get? b=some ob/\ob.dict=none)/\(a == Ft)=false:=by
 rcases d with ⟨kvs,e⟩ | ⟨kvs,e⟩
 ·obtain ⟨_,hd,vs,_,dd⟩:=kK I.hok e
  refine ⟨dd.typeIs,λb q=>?_,hd⟩
  cases q
  obtain ⟨ob,_,_,h1,h2,_⟩:=dd
  exact ⟨ob,h1,h2.2.1⟩
 ·obtain ⟨_,hd,xs,_,dd⟩:=pN I.hok e
  refine ⟨dd.typeIs,λb q=>?_,hd⟩
  cases q
  obtain ⟨ob,_,_,h1,h2,_⟩:=dd
  exact ⟨ob,h1,h2.2.1⟩
section
variable{X:Cx}{pins:List (Addr×Obj)}{σ:St}{H:Hp}{s:Ai}{a:Addr}{y d:V}{u r:Value}{o:Option V}{A:Cn}{E:Value->Ai->Prop}
theorem Y7(hu:A.units+1<cLine)(I:Inv X pins σ H s)(g:kG H a y o)(ry:RelV y u)(rd:RelV d r)(h:∀w' s',Inv X pins σ H s'->RelV (o.getD d) w'->Q w' s'):wpAny (model X.prog X.w) A (call (.builtin "dict.get") [.ref a,u,r]) Q E s:=by
 rcases g with ⟨kvs,k,e,ey,l⟩ | ⟨kvs,k,b,e,ey,eb,l⟩
 ·subst ey
  obtain ⟨z,hd,vs,rel,dd⟩:=kK I.hok e
  refine call_meetsIn PySem.F.slot_dict_get dd.typeIs PySem.F.entry_dict_get (PySem.F.args_dict_get_3 _ _ _) (meets_dict_get_default (Hh X.prog X.w) a (pT ry) hd r) ⟨_,dd.mapOf,h _ _ (I.tok _) ?_⟩
  rw[l]
  exact (rel.val k).getD rd
 ·subst ey
  cases (show u=Bc b from ry)
  obtain ⟨z,hd,xs,rel,dd⟩:=pN I.hok e
  refine call_meetsIn PySem.F.slot_dict_get dd.typeIs PySem.F.entry_dict_get (PySem.F.args_dict_get_3 _ _ _) (meetsH_dict_get_default (Qt (Hh X.prog X.w)) a b hd r) ⟨bS hu,k,xs,Xk I.hok eb,dd,h _ _ (I.tok _) ?_⟩
  rw[l]
  exact (rel.val k).getD rd
end
def xO(td ty tx:TE):TE:=λσ H Q=>td σ H λx H1=>∃a,x=.ref a/\GG H1 a/\ty σ H1 λy H2=>tx σ H2 λz H3=>∃o,kG H3 a y o/\Q (o.getD z) H3
section
variable{X:Cx}{o e f:Expr}{apos cpos:Pos}{td ty tx:TE}
theorem wB(hu:X.A.units+1<cLine)(ho:PE X o td)(he:PE X e ty)(hf:PE X f tx)(m:M2 X o "get" apos e f cpos):PE X (.Call (.Attribute o "get" apos) [e,f] [] cpos) (xO td ty tx):=by
 intro pins s σ H Q I h
 refine wpAny_Call_method m.base m.few m.line PySem.F.plainAttrs_dict PySem.F.slot_dict_get PySem.F.type_dict_get (Fn (ho pins s σ H _ I h) λu s1 q0_ => ?_)
 obtain ⟨x,H1,I1,rx,a,ex,d,q1⟩ := q0_
 subst ex
 obtain rfl:u=Bc a:=rx
 obtain ⟨t1,t2,_⟩:=O6 I1 d
 refine ⟨t1,t2,?_⟩
 rw[m.trees]
 refine lK rfl (Calls.evalArgs_plain (Ha (Fn (he pins s1 σ H1 _ I1 q1) λiv s2 ⟨y,H2,I2,ry,q2⟩ =>
  Ha (Fn (hf pins s2 σ H2 _ I2 q2) λfv s3 ⟨z,H3,I3,rz,ov,g,q3⟩=>Lr ?_))))
 exact Y7 hu I3 g ry rz λw' s4 I4 rw'=>⟨_,H3,I4,rw',q3⟩
end
end L2
namespace Nd
open PySem PySem.Spec PyProof.Rows L2
end Nd
namespace DL
open PySem PySem.Spec PyProof.Rows L2 Nd
def Yt(ks:List (List Int×Ad))(w:List Int):Option Ad:=(ks.find? λp=>decide (p.1=w)).map (·.2)
def Ry(ks:List (List Int×Ad))(w:List Int)(d:Ad):List (List Int×Ad) :=
 if (ks.any λp=>decide (p.1=w))=true then ks.map (λp=>if p.1=w then (p.1,d) else p) else ks++[(w,d)]
theorem Tj{α β:Type}{f:α->β}(hf:∀a b,f a=f b->a=b):∀{l m:List α},l.map f=m.map f->l=m
 | [],[],_=>rfl
 | [],_::_,h=>by cases h
 | _::_,[],h=>by cases h
 | a::l,b::m,h=>by
  obtain ⟨h1,h2⟩:=Ep h
  rw[hf a b h1,Tj hf h2]
theorem Sm(h:Bv a=Bv b):a=b:=Tj (λx y e=>by cases e; rfl) (PyData.tuple.inj h)
theorem Sv(h:Qr a=Qr b):a=b:=Tj (λx y e=>by
 obtain ⟨e1,e2⟩:=Prod.mk.inj e
 exact Prod.ext (Sm e1) e2) (Ep h).2
theorem Zq(h:Kd a=Kd b):a=b:=Tj (λx y e=>by cases e; rfl) h
theorem gU(w:List Int):(Kd w).map kV=w.map V.int:=by
 unfold Kd
 rw[Bx]
 rfl
section
variable{K:PySem.W.Frag}{H H':Hp}
structure DRel(K:PySem.W.Frag)(H:Hp)(kv:List (List Hr×V))(ks:List (List Int×Ad)):Prop where
 key:kv.map (·.1)=ks.map λp=>Kd p.1
 val:RdFs K H (kv.map (·.2)) (ks.map (·.2)) []
theorem RdF.dict_inv(h:RdF K H v (.dict X) F)(hX:G5 X=true:=by first | rfl | assumption):∃a kv ks,v=.ref a/\X=Qr ks/\H a=some (.dT kv)/\DRel K H kv ks/\F=[a]:=by
 cases h with
 | dic h e hs=>exact ⟨_,_,_,rfl,rfl,h,⟨e,hs⟩,rfl⟩
 | dik h e hs=>cases hX
 | dnm h e hs=>cases hX
theorem RdFs.cons_nil(h:RdFs K H (x::xs) (d::ds) F)(hF:F=[]):RdF K H x d []/\RdFs K H xs ds []:=by
 cases h with
 | cons a t =>
  obtain ⟨rfl,rfl⟩:=pD.mp hF
  exact ⟨a,t⟩
theorem Rp(r:DRel K H kv ks):kv.length=ks.length:=by
 have:=congrArg Fm r.key
 simpa using this
theorem aW(w:List Int):∀{kv:List (List Hr×V)} {ks:List (List Int×Ad)},DRel K H kv ks->(Ua kv (Kd w)=none/\Yt ks w=none)\/∃v d,Ua kv (Kd w)=some v/\Yt ks w=some d/\RdF K H v d []
 | [],[],_=>.inl ⟨rfl,rfl⟩
 | [],_::_,r=>by cases r.key
 | _::_,[],r=>by cases r.key
 | (k,v)::kv,(u,d)::ks,r=>by
  obtain ⟨e1,e2⟩:=Ep r.key
  have e1:k=Kd u:=e1
  obtain ⟨r1,r2⟩:=RdFs.cons_nil r.val rfl
  by_cases h:u=w
  ·subst h e1
   refine .inr ⟨v,d,Rl rfl,by simp [Yt],r1⟩
  ·have hk:¬ k=Kd w:=λz=>h (Zq (e1.symm.trans z))
   rw[Sg hk,show Yt ((u,d)::ks) w=Yt ks w by simp [Yt,h]]
   exact aW w ⟨e2,r2⟩
theorem wN(w:List Int)(r:DRel K H kv ks):(kv.any λp=>decide (p.1=Kd w))=(ks.any λp=>decide (p.1=w)):=by
 have h1:(kv.any λp=>decide (p.1=Kd w))=((kv.map (·.1)).any λk=>decide (k=Kd w)):=by rw[Om]; rfl
 rw[h1,r.key,Om]
 congr 1
 funext p
 exact decide_eq_decide.mpr ⟨λz=>Zq z,λz=>by show Kd p.1=Kd w; rw[z]⟩
theorem dN(w:List Int)(rv:RdF K H v d []):∀{kv:List (List Hr×V)} {ks:List (List Int×Ad)},DRel K H kv ks->DRel K H (kv.map λp=>if p.1=Kd w then (p.1,v) else p) (ks.map λp=>if p.1=w then (p.1,d) else p)
 | [],[],r=>r
 | [],_::_,r=>by cases r.key
 | _::_,[],r=>by cases r.key
 | (k,v')::kv,(u,d')::ks,r=>by
  obtain ⟨e1,e2⟩:=Ep r.key
  have e1:k=Kd u:=e1
  obtain ⟨r1,r2⟩:=RdFs.cons_nil r.val rfl
  have ih:=dN w rv (kv:=kv) (ks:=ks) ⟨e2,r2⟩
  rw[Ar,Ar]
  by_cases h:u=w
  ·rw[if_pos (show k=Kd w by rw[e1,h]),if_pos h]
   exact ⟨by rw[Ar,Ar,ih.key]; exact congrArg (·::_) e1,RdFs.cons (F:=[]) (G:=[]) rv ih.val⟩
  ·have hk:¬ k=Kd w:=λz=>h (Zq (e1.symm.trans z))
   rw[if_neg (show ¬ (k,v').1=Kd w from hk),if_neg (show ¬ (u,d').1=w from h)]
   exact ⟨by rw[Ar,Ar,ih.key]; exact congrArg (·::_) e1,RdFs.cons (F:=[]) (G:=[]) r1 ih.val⟩
theorem kH(w:List Int)(rv:RdF K H v d [])(r:DRel K H kv ks):DRel K H (Mp kv (Kd w) v) (Ry ks w d):=by
 unfold Mp Ry
 rw[wN w r]
 split
 ·exact dN w rv r
 ·refine ⟨by rw[Bh,Bh,r.key]; rfl,?_⟩
  rw[Bh,Bh]
  exact r.val.snoc rv
theorem DRel.kp(r:DRel K H kv ks)(k:Kp [] H H'):DRel K H' kv ks:=⟨r.key,r.val.kp k⟩
end
def O2:R2:=λx y H Q=>∃a v,x=.ref a/\kG H a y (some v)/\Q v H
def gV:D2:=λx y P=>match x,y with
 | .dat _ (.dict X),.dat _ k=>∃ks w d,X=Qr ks/\k=Bv w/\Yt ks w=some d/\P (.dat .ow d)
 | _,_=>False
section
variable{K:PySem.W.Frag}
theorem Vw(r:RdF K H v (Bv w) F):∃b,v=.ref b/\H b=some (.tup ((Kd w).map kV)):=by
 obtain ⟨b,xs,rfl,hb,rb,_⟩:=r.tup_inv
 obtain ⟨rfl,_⟩:=rb.ints_inv
 exact ⟨b,rfl,by rw[gU]; exact hb⟩
theorem C7:oF K O2 gV:=by
 intro H0 X n S T x y v w F G H Q P hA hd k
 unfold gV at hd
 split at hd
 ·obtain ⟨ks,u,d,rfl,rfl,hg,p⟩:=hd
  obtain ⟨b,rfl,hb⟩:=Vw (hA.told mem_mid)
  obtain ⟨a,kv,ks',rfl,ek,ha,rel,_⟩:=(hA.told Ek).dict_inv
  obtain rfl:=Sv ek
  rcases aW u rel with ⟨_,z⟩ | ⟨v',d',h1,h2,h3⟩
  ·rw[z] at hg; cases hg
  ·rw[h2] at hg; cases hg
   exact ⟨a,v',rfl,h1▸kG.t ha hb,k _ _ [] H (hA.drop2.pushI h3) p⟩
 ·exact hd.elim
end
section
variable{X:Cx}{a b:Expr}{da db:DE}{pos:Pos}
theorem DU(hu:n+64<cLine):n+1<cLine:=by omega
theorem Yz(hu:X.A.units+64<cLine)(ha:Eu X a da)(hb:Eu X b db)(hs:u5 b:=by intro _ _; rfl):Eu X (.Subscript a b pos) (Yk gV da db):=PE.imp (pI (DU hu) ha hb hs) (dF C7)
end
def M6:DE:=λδ P=>P (.dat .ow (.dict (Qr []))) δ
theorem At.newD{K:PySem.W.Frag}(h:At K H0 X n (S++T) H)(hp:H p=none):At K H0 X n (S++⟨some (.ref p),.dat .ow (.dict (Qr [])),[p]⟩::T) (upd H p (.dT [])):=by
 have s1:=Dn hp (.dT [])
 refine ((h.grow (n':=n) s1 (Ak _)).push (e:=⟨some (.ref p),.dat .ow (.dict (Qr [])),[p]⟩) ⟨_,rfl,.dic Cm rfl .nil,λ_=>Bz.mpr ⟨Ax,Co⟩,λz=>nomatch z⟩ (λf hf=>?_) λa ha=>?_).tomid
 ·have nf:=h.free hp f hf
  refine ⟨λ_ a ha z=>?_,λ_ a ha z=>?_⟩
  ·rw[Ag.mp ha] at z
   exact nf z
  ·rw[Ag.mp z] at ha
   exact nf (Fo _ _ ha)
 ·rw[Ag.mp ha]
  exact .inl (h.new0 hp)
theorem B7:Eu X (.Dict [] [] pos) M6:=by
 refine PE.imp vY λσ H Q h=>?_
 obtain ⟨H0,Y,S,T,δ,P,rfl,hS,hA,hd,k⟩:=h
 exact λp hp=>k _ δ _ _ S _ rfl hS (hA.newD hp) hd
theorem At.writeD{K:PySem.W.Frag}{H0 H:Hp}{X:Addr->Prop}(h:At K H0 X n (⟨v,.dat .ow (.dict (Qr ks)),[a]⟩::E) H)(hv:v=some (.ref a))(np:∀e∈E,Lg e.x=false)(r:DRel K H kv' ks'):At K H0 X n (⟨v,.dat .ow (.dict (Qr ks')),[a]⟩::E) (upd H a (.dT kv')):=by
 obtain ⟨w,e1,rd,hn,ht⟩:=h.ok _ Aa
 obtain ⟨b,kv,ks0,e2,ek,ha,_,eF⟩:=rd.dict_inv
 have eF':[a]=[b]:=eF
 cases eF'
 have hs:=Bf.mp h.sep
 have kp:∀{F':List Addr},a∉F'->Kp F' H (upd H a (.dT kv')):=λ{F'} hF b o q z=>by
  have : b≠a:=by
   rintro rfl
   rw[ha] at q
   cases q
   rcases z with z | z
   ·exact hF z
   ·rcases z with ⟨_,z⟩ | ⟨_,_,z⟩ <;> cases z
  rw[Cj this]
  exact q
 have n0:H0 a=none:=by
  rcases h.new _ Aa a Aa with z | z
  ·exact z
  ·cases z.2
 refine ⟨λf hf=>?_,Bf.mpr ⟨λf hf=>⟨λhq c hc=>(hs.1 f hf).1 (.inl (np f hf)) c hc,λhq c hc=>(hs.1 f hf).2 (.inl rfl) c hc⟩,hs.2⟩,λf hf=>?_,λb o nx q=>?_,λb o q=>?_,λb hb=>?_⟩
 ·rcases Aj.mp hf with rfl | hf
  ·exact ⟨.ref a,hv,.dic Cm r.key (r.val.kp (kp Ax)),λ_=>Bz.mpr ⟨Ax,Co⟩,λz=>nomatch z⟩
  ·exact (h.ok f (Ae _ hf)).kp (kp ((hs.1 f hf).1 (.inl (np f hf)) a Aa)) (Ak _)
 ·rcases Aj.mp hf with rfl | hf
  ·exact λc hc=>h.new _ Aa c hc
  ·exact h.new f (Ae _ hf)
 ·rw[Cj (Dc q n0)]
  exact h.same b o nx q
 ·rw[Cj (Dc q n0)]
  exact h.dom b o q
 ·obtain ⟨z,c,k,f,h1,h2⟩:=h.xd b hb
  refine ⟨z,c,k,f,(Cj ?_).trans h1,h2⟩
  rintro rfl
  exact z n0
theorem jT{K:PySem.W.Frag}(hS:Sl S δ)(hT:∀e∈T,Lg e.x=false)(hA:At K H0 X δ.n (S++T) H)(hi:δ.sl[i]? = some (.dat .ow (.dict (Qr ks))))(np:npk δ.sl=true):∃a kv,(vs S)[i]? = some (some (.ref a))/\H a=some (.dT kv)/\DRel K H kv ks/\∀kv',DRel K H kv' ks'->∃S',vs S'=vs S/\Sl S' ⟨δ.sl.set i (.dat .ow (.dict (Qr ks'))),δ.n⟩/\At K H0 X δ.n (S'++T) (upd H a (.dT kv')):=by
 obtain ⟨ent,e2,e3⟩:=Gq hS hi
 have hm:ent∈S:=Au e2
 obtain ⟨u,x,F⟩:=ent
 have e3':x=.dat .ow (.dict (Qr ks)):=e3
 subst e3'
 obtain ⟨v,hv,rd,_⟩:=hA.ok _ (Am _ hm)
 obtain ⟨a,kv,ks0,rfl,ek,ha,rel,eF⟩:=rd.dict_inv
 obtain rfl:=Sv ek
 have eF':F=[a]:=eF
 subst eF'
 refine ⟨a,kv,by rw[Ke e2]; exact congrArg some hv,ha,rel,λkv' r=>?_⟩
 have hn:=Xn hS np
 have h1:=(hA.perm ((Jb e2).append_right T)).writeD (ks':=ks') (kv':=kv') hv (λe he=>?_) r
 ·refine ⟨S.set i ⟨u,.dat .ow (.dict (Qr ks')),[a]⟩,?_,?_,h1.perm ((Nl e2).append_right T).symm⟩
  ·unfold vs
   rw[Eg]
   apply Gk
   intro j
   rw[Gj]
   split
   ·rename_i hij
    subst hij
    rw[Az,e2]
    split
    ·rfl
    ·rename_i hj
     rw[Ac] at hj
     exact absurd (Ah.mp e2).1 hj
   ·rfl
  ·unfold Sl at hS ⊢
   rw[Eg,hS]
 ·rcases Bg.mp he with he | he
  ·exact hn e ((Mo S i).subset he)
  ·exact hT e he
theorem Ug{α:Type}:∀{l:List α} {i:Nat} {x:α},l[i]? = some x->l.set i x=l
 | [],_,_,h=>by simp at h
 | a::l,0,x,h=>by simp at h; subst h; rfl
 | a::l,i+1,x,h=>by
  rw[Pk,Ug (by simpa using h)]
def dputB(i:Nat)(y z:DV)(δ:DS)(D:DEnds):Prop:=match δ.sl[i]?,y,z with
 | some (.dat .ow (.dict X)),.dat _ e,.dat _ k=>npk δ.sl=true/\imm e=true/\∃ks w,X=Qr ks/\k=Bv w/\ks.length<1000000/\D.nx ⟨δ.sl.set i (.dat .ow (.dict (Qr (Ry ks w e)))),δ.n⟩
 | _,_,_=>False
def isDct:Option DV->Bool
 | some (.dat _ (.dict X))=>G5 X
 | _=>false
def O4(i:Nat)(dk de:DE):DB:=λD δ=>de δ λy δ1=>isDct δ1.sl[i]? = true/\dk δ1 λz δ2=>dputB i y z δ2 D
section
variable{X:Cx}{o i e:Expr}{dk de:DE}{apos cpos pos pos':Pos}{n:Nat}
theorem zZ{K:PySem.W.Frag}(hS:Sl S δ)(hA:At K H0 Y δ.n (S++T) H)(hi:isDct δ.sl[n]? = true):∃a kv,(vs S)[n]? = some (some (.ref a))/\H a=some (.dT kv):=by
 cases q:δ.sl[n]? with
 | none=>rw[q] at hi; cases hi
 | some x =>
  rw[q] at hi
  obtain ⟨ent,e2,e3⟩:=Gq hS q
  obtain ⟨u,y,F⟩:=ent
  have e3':y=x:=e3
  subst e3'
  have hm:(⟨u,y,F⟩ : Ent)∈S:=Au e2
  match y,hi with
  | .dat m (.dict X),hi =>
   have hX:G5 X=true:=hi
   obtain ⟨v,hv,rd,_⟩:=hA.ok _ (Am _ hm)
   obtain ⟨a,kv,ks,rfl,_,ha,_⟩:=rd.dict_inv
   exact ⟨a,kv,by rw[Ke e2]; exact congrArg some hv,ha⟩
theorem I0(hu:X.A.units+64<cLine)(ho:PE X o (Yi n))(hi:Eu X i dk)(he:Eu X e de)(hs:Hm e (some (.Subscript o i pos')) pos.line X.env=pure false:=by rfl):lH X (.Assign [.Subscript o i pos'] e pos) (O4 n dk de):=by
 refine PS.impD (pM (DU hu) ho hi he hs) λD σ H h=>?_
 obtain ⟨H0,Y,S,T,δ,P,rfl,hS,hT,hA,hd,k1,k2,k3,k4⟩:=h
 refine ⟨H0,Y,S,T,δ,_,rfl,hS,hA,hd,λy δ1 v F S1 H1 e1 e2 hA1 p1=>?_⟩
 obtain ⟨p1,p2⟩:=p1
 obtain ⟨a,kv,hv,ha⟩:=zZ e2 hA1.drop p1
 rw[e1] at hv
 refine ⟨.ref a,hv,H0,Y,S1,⟨some v,y,F⟩::T,δ1,_,e1,e2,hA1,p2,λz δ2 w G S2 H2 e3 e4 hA2 p3=>?_⟩
 unfold dputB at p3
 split at p3
 ·rename_i X0 m1 d m2 k hsl
  obtain ⟨p3,p4,ks,u,rfl,rfl,p5,p6⟩:=p3
  obtain ⟨b,rfl,hb⟩:=Vw (hA2.told mem_mid)
  have r:=hA2.told Ek
  obtain rfl:=r.imm p4
  obtain ⟨a',kv',g1,g2,g3,g4⟩:=jT (ks':=Ry ks u d) e4 hT hA2.drop2 hsl p3
  rw[e3,hv] at g1
  cases g1
  obtain ⟨S3,h1,h2,h3⟩:=g4 (Mp kv' (Kd u) v) (kH u r g3)
  refine ⟨a,_,rfl,o9.t g2 hb (by rw[Rp g3]; exact Br p5 (lG (n:=1000000) (Ak _))),?_⟩
  rw[<- e3,<- h1]
  exact k1 ⟨_,_⟩ S3 _ h2 h3 p6
 ·exact p3.elim
end
def L0:V->Int
 | .int i=>i
 | _=>0
def x3(H:Hp)(r:Addr):List Int:=match H r with
 | some (.tup xs)=>xs.map L0
 | _=>[]
theorem R3(h:H r=some (.tup (w.map V.int))):x3 H r=w:=by
 unfold x3
 rw[h]
 show (w.map V.int).map L0=w
 rw[Bx]
 exact List.map_id' w
section
variable{K:PySem.W.Frag}{H:Hp}
theorem aV:∀{ws:List (List Int)} {xs:List V} {ds:List Ad} {G:List Addr},RdFs K H xs ds G->ds=ws.map Bv->∃rs:List Addr,xs=rs.map V.ref/\ws=rs.map (x3 H)/\G=[]/\(∀r∈rs,H r=some (.tup ((x3 H r).map V.int)))/\∀r∈rs,RdF K H (.ref r) (Bv (x3 H r)) []
 | [],_,_,_,h,e=>by
  subst e
  cases h
  exact ⟨[],rfl,rfl,rfl,(λ_ z=>nomatch z),(λ_ z=>nomatch z)⟩
 | w::ws,_,_,_,h,e=>by
  cases h with
  | nil=>cases e
  | cons a t =>
   obtain ⟨e1,e2⟩:=Ep e
   obtain ⟨rs,rfl,rfl,rfl,h1,h2⟩:=aV t e2
   subst e1
   obtain ⟨r,rfl,hr⟩:=Vw a
   rw[gU] at hr
   have ew:=R3 hr
   obtain rfl:=a.imm (show imm (Bv w)=true from Rm w)
   refine ⟨r::rs,rfl,by rw[Ar,ew],rfl,λx hx=>?_,λx hx=>?_⟩
   ·rcases Aj.mp hx with rfl | hx
    ·rw[ew]; exact hr
    ·exact h1 x hx
   ·rcases Aj.mp hx with rfl | hx
    ·rw[ew]; exact a
    ·exact h2 x hx
theorem aT:∀{rs:List Addr},(∀r∈rs,RdF K H (.ref r) (Bv (x3 H r)) [])->RdFs K H (rs.map V.ref) ((rs.map (x3 H)).map Bv) []
 | [],_=>.nil
 | r::rs,h=>RdFs.cons (F:=[]) (G:=[]) (h r (Aa ..)) (aT λx hx=>h x (Ae _ hx))
theorem Zr:∀L:List (List Int),Ed (L.map Bv)=true
 | []=>rfl
 | w::L=>by
  show (imm (Bv w) && Ed (L.map Bv))=true
  rw[Zr L,show imm (Bv w)=true from Rm w]; rfl
end
end DL
namespace Nd
open PySem PySem.Spec PyProof.Rows L2
def Yq(h:Heap)(d:Addr)(es:Array Ic)(ep:Nat):Prop:=∃ob,h.get? d=some ob/\ob.ExactDict/\ob.data=.dict es ep
theorem Yq.at(x:Yq h d es ep)(k:∀o,h.get? d=some o->h'.get? d=some o):Yq h' d es ep:=let ⟨ob,e,r⟩:=x; ⟨ob,k ob e,r⟩
section
variable{prog:Bo}{w:World}{A:Cn}{E:Value->Ai->Prop}{s:Ai}{it d:Addr}{es:Array Ic}{i ep:Nat}
theorem Vs(hI:s.heap.IsKeyIter it d i es.size ep)(hE:Yq s.heap d es ep)(hX:es[i]? = some x)(k:∀h',h'.IsKeyIter it d (i+1) es.size ep->Dh it s.heap h'->Q (some x.key) { s with heap:=h' }):wpAny (model prog w) A (callSpecial? (.ref it) (Ei "__next__")) Q E s:=by
 obtain ⟨oi,gi,ci,di⟩:=id hI
 obtain ⟨ob,gb,xb,db⟩:=id hE
 have tI:=hI.typeIs
 refine Fg (name:=Ei "__next__") tI PySem.F.slot_dict_keyiterator_next (Gg PySem.F.slot_dict_keyiterator_next tI PySem.F.entry_dict_keyiterator_next ?_ (PySem.F.args_dict_keyiterator_next_1 _))
 refine Ab (Ao (Ab (Ab ?_)))
 first | refine Ab (Jf tI (Ao ?_)) | refine Ab (Ll tI (Ao ?_))
 refine Ab (wpAny_fieldsOf gi di ?_)
 simp only[show Sq "dict_keyiterator" = false by decide,Ca,if_false]
 show wpAny _ _ (ite ((Bc d == Ir)=true) _ _) _ _ s
 rw[if_neg (show ¬ (Bc d == Ir)=true from Bq)]
 refine Ab (Ao (Ab (eM gb db ?_)))
 rw[if_neg (by simp)]
 refine Ab (Ao (Ab (wpAny_dictEpoch gb db ?_)))
 rw[if_neg (by simp)]
 refine Ao ?_
 obtain ⟨hl,ex⟩:=Hb.mp hX
 simp only[show ¬ ((i:Int)<0) from by omega,Et,if_false,hX]
 refine Ab ?_
 first | refine Ab (Jf tI (Ao ?_)) | refine Ab (Ll tI (Ao ?_))
 refine Ab (wpAny_isOneOf_keyiter tI ?_)
 show wpAny _ _ (bind (setField (.ref it) 1 (Hd ((i:Int)+1))) _) _ _ s
 refine Ab (wpAny_setField gi di (by simp) ?_)
 have nI:(s.heap.update it (Obj.mapFields (·.setIfInBounds 1 (Hd ((i:Int)+1))))).IsKeyIter it d (i+1) es.size ep :=
  ⟨_,Ji _ gi (Obj.isFreed_of_fields (Obj.data_mapFields di _)),(Obj.cls_mapFields ..).trans ci,by rw[Obj.data_mapFields di]; simp [Hd]⟩
 refine Ab (Df (Ab (wpAny_isOneOf_keyiter (s:={ s with heap:=s.heap.update it (Obj.mapFields (·.setIfInBounds 1 (Hd ((i:Int)+1)))) }) nI.typeIs ?_)))
 show wpAny _ _ (pure x.key) _ _ _
 exact Ao (Ao ⟨_,rfl,k _ nI (Cf ..)⟩)
theorem dR(hh:A.handled=none)(hI:s.heap.IsKeyIter it d es.size es.size ep)(hE:Yq s.heap d es ep)(k:∀h' e,Heap.ExtBut it s.heap h'->(∃o,h'.get? e=some o/\o.cls=.type "StopIteration")->E (.ref e) { s with heap:=h' }):wpAny (model prog w) A (callSpecial? (.ref it) (Ei "__next__")) Q E s:=by
 obtain ⟨oi,gi,ci,di⟩:=id hI
 obtain ⟨ob,gb,xb,db⟩:=id hE
 have tI:=hI.typeIs
 refine Fg (name:=Ei "__next__") tI PySem.F.slot_dict_keyiterator_next (Gg PySem.F.slot_dict_keyiterator_next tI PySem.F.entry_dict_keyiterator_next ?_ (PySem.F.args_dict_keyiterator_next_1 _))
 refine Ab (Ao (Ab (Ab ?_)))
 first | refine Ab (Jf tI (Ao ?_)) | refine Ab (Ll tI (Ao ?_))
 refine Ab (wpAny_fieldsOf gi di ?_)
 simp only[show Sq "dict_keyiterator" = false by decide,Ca,if_false]
 show wpAny _ _ (ite ((Bc d == Ir)=true) _ _) _ _ s
 rw[if_neg (show ¬ (Bc d == Ir)=true from Bq)]
 refine Ab (Ao (Ab (eM gb db ?_)))
 rw[if_neg (by simp)]
 refine Ab (Ao (Ab (wpAny_dictEpoch gb db ?_)))
 rw[if_neg (by simp)]
 refine Ao ?_
 simp only[show ¬ ((es.size:Int)<0) from by omega,Et,if_false,lN (Ak es.size)]
 refine Ab ?_
 first | refine Ab (Jf tI (Ao ?_)) | refine Ab (Ll tI (Ao ?_))
 show wpAny _ _ (bind (setField (.ref it) 0 .none) _) _ _ s
 refine Ab (wpAny_setField gi di (by simp) ?_)
 show wpAny _ _ (bind (newExc (.type "StopIteration") []) _) _ _ _
 refine Ab ?_
 simp only[newTuple,newExc]
 refine Ab (Fs ?_ (by size_fits))
 refine Ab (m:=Yg _ _) (wpAny_of_eq (a:=Ir) (by first | rfl | (simp only[Yg]; rfl)) (Fs ?_ (by size_fits)))
 simp only[raiseNew]
 refine Ab (wpAny_handled ?_)
 first | rw[show A.in1.handled=none from hh] | rw[hh]
 refine Ab (Ao (wpAny_throw ?_))
 exact k _ _ (((Cf ..).extBut.push _).push _) ⟨_,Bb _ rfl,rfl⟩
theorem cP(hd:(d == Ft)=false)(hE:Yq s.heap d es ep)(k:Q (.ref s.heap.objs.size) { s with heap:=s.heap.push { cls:=.type "dict_keyiterator",data:=.fields #[.ref d,.int 0 0,.int es.size 0,.int ep 0] } }):wpAny (model prog w) A (pyIter (.ref d)) Q E s:=by
 obtain ⟨ob,gb,xb,db⟩:=id hE
 have tD:s.TypeIs (.ref d) "dict" := ⟨ob,gb,xb.1⟩
 refine wpAny_pyIter_slot tD PySem.F.slot_dict_iter (Gg PySem.F.slot_dict_iter tD PySem.F.entry_dict_iter ?_ (PySem.F.args_dict_iter_1 _))
 unfold Builtin.«dict.__iter__» Builtin.Dict.dictSlotNone
 refine Ab (Ab (Wv tD ?_))
 show wpAny _ _ (pure (.ref d:Value)) _ _ s
 refine Ao ?_
 show wpAny _ _ (bind (Builtin.Dict.showsAll d) _) _ _ s
 unfold Builtin.Dict.showsAll
 rw[if_neg (by rw[hd]; exact Bq)]
 refine Ab (Ao (Ab (eM gb db (Ab (wpAny_dictEpoch gb db ?_)))))
 refine Ab (Fs (Ao ⟨_,rfl, "dict_keyiterator",_,⟨_,Bb _ rfl,rfl⟩,PySem.F.slot_dict_keyiterator_next.lookup,?_⟩))
 exact k
theorem tP(hI:s.heap.IsKeyIter it d i es.size ep)(hE:Yq s.heap d es ep)(hX:es[i]? = some x)(k:∀h',h'.IsKeyIter it d (i+1) es.size ep->Dh it s.heap h'->Q (some x.key) { s with heap:=h' }):wpAny (model prog w) A (Kn (.ref it)) Q E s:=by
 unfold Kn
 exact Ab (Io (Vs hI hE hX λh' a b=>Ao (k h' a b)))
theorem i8(hh:A.handled=none)(hI:s.heap.IsKeyIter it d es.size es.size ep)(hE:Yq s.heap d es ep)(k:∀h',Heap.ExtBut it s.heap h'->Q none { s with heap:=h' }):wpAny (model prog w) A (Kn (.ref it)) Q E s:=by
 unfold Kn
 refine Ab (Io (dR hh hI hE λh' e x q0_ => ?_))
 obtain ⟨o,ho,hc⟩ := q0_
 exact Ab (Oe (T := "StopIteration") (b:=true) ⟨o,ho,hc⟩ isSubtype_stop (Ao (k h' x)))
end
theorem dU(hh:A.handled=none)(it d:Addr)(hne:d≠it)(es:Array Ic)(ep:Nat):Draws prog w A it [it,d] es.size (λi v=>∃x,es[i]? = some x/\v=x.key) (λi h=>h.IsKeyIter it d i es.size ep/\Yq h d es ep) where
 live:=λ_ _ st=>let ⟨o,ho,_⟩:=st.1; ⟨o,ho⟩
 frame:=λ_ _ _ st hk=>⟨st.1.at λo e=>hk it (by simp) o e,Yq.at st.2 λo e=>hk d (by simp) o e⟩
 item:=λi s Q E hi st hQ=>by
  unfold Cz
  refine Ab (Vs st.1 st.2 (x:=es[i]) (by simp [hi]) λh' hI hs=>Ao ?_)
  exact hQ _ h' s.toks ⟨_,by simp [hi],rfl⟩ ⟨hI,Yq.at st.2 λo e=>(hs.2 d hne).trans e⟩ hs
 done:=λs Q E st hE=>by
  unfold Cz
  exact Ab (dR hh st.1 st.2 hE)
structure ZApart(z TI TO i1 i2:Addr)(f1 f2:List Addr):Prop where
 tiz:TI≠z
 toz:TO≠z
 z1:i1≠z
 z2:i2≠z
 tito:TI≠TO
 ti1:TI≠i1
 ti2:TI≠i2
 to1:TO≠i1
 to2:TO≠i2
 i12:i1≠i2
 zf1:z∉f1
 zf2:z∉f2
 of1:TO∉f1
 of2:TO∉f2
 if1:i2∉f1
 if2:i1∉f2
section
variable{prog:Bo}{w:World}{A:Cn}{E:Value->Ai->Prop}{s:Ai}{z TI TO i1 i2:Addr}{f1 f2:List Addr}{n1 n2 i:Nat}{P1 P2:Nat->Value->Prop}{S1 S2:Nat->Heap->Prop}
theorem Ge{f:List Addr}(h:a∉f)(hb:b∈f):b≠a:=λe=>h (e▸hb)
theorem rY{Q:Value->Ai->Prop}(D1:Draws prog w A i1 f1 n1 P1 S1)(D2:Draws prog w A i2 f2 n2 P2 S2)(ap:ZApart z TI TO i1 i2 f1 f2)(gz:IsZip s.heap z TI TO .none)(gI:Ew s.heap TI (.ref i1) (.ref i2))(gO:Ew s.heap TO a b)(g1:S1 i s.heap)(g2:S2 i s.heap)(l1:i<n1)(l2:i<n2)(k:∀x y h' tk,P1 i x->P2 i y->IsZip h' z TI TO (Hd s.heap.objs.size)->Ew h' TO x y->S1 (i+1) h'->S2 (i+1) h'->Ew h' s.heap.objs.size x y->h'.objs.size=s.heap.objs.size+1->(∀c o,c≠z->c≠TO->c≠i1->c≠i2->s.heap.get? c=some o->h'.get? c=some o)->Q (.ref s.heap.objs.size) { s with heap:=h',toks:=tk }):wpAny (model prog w) A (Builtin.«zip.__next__» ⟨[.ref z],[]⟩) (λfin s'=>∃v,fin=.done (.ret v)/\Q v s') E s:=by
 obtain ⟨hp,g,d,tk0,os⟩:=s
 show wpAny _ _ (bind (field (.ref z) 2) _) _ _ _
 refine Ab (Gb gz rfl (x:=.bool false) rfl ?_)
 show wpAny _ _ (bind (field (.ref z) 3) _) _ _ _
 refine Ab (Gb gz rfl (x:=.ref TI) rfl (Ab (Fq gI rfl ?_)))
 show wpAny _ _ (bind (Cq (.ref z)) _) _ _ _
 refine Ab ?_
 unfold Cq
 refine Ab (Gb gz rfl (x:=.none) rfl (Ao ?_))
 simp only[if_true]
 refine Ab (Oc (Ab (Gb gz rfl (x:=.ref TO) rfl (Ab (Hu gz (by simp) λh1 gz1 s1=>?_)))))
 replace gz1:IsZip h1 z TI TO .ellipsis:=gz1
 replace s1:Dh z hp h1:=s1
 refine Ab ?_
 simp only[Tx,Vd,bN,List.zipIdx_nil]
 have g11:S1 i h1:=D1.frame _ _ _ g1 λb hb o q=>(s1.2 b (Ge ap.zf1 hb)).trans q
 have g21:S2 i h1:=D2.frame _ _ _ g2 λb hb o q=>(s1.2 b (Ge ap.zf2 hb)).trans q
 refine Ab (Ab (bK ?_))
 show wpAny _ _ (bind (Cz (.ref i1)) _) _ _ _
 refine Ab (D1.item i _ _ _ l1 g11 λx h2 tk1 px g12 s2=>Ao ?_)
 replace s2:Dh i1 h1 h2:=s2
 have gO2:Ew h2 TO a b:=(s2.2 TO ap.to1).trans ((s1.2 TO ap.toz).trans gO)
 refine Ab (Fq gO2 rfl (Ab (Xz gO2 λh3 gO3 s3=>?_)))
 replace gO3:Ew h3 TO x b:=gO3
 replace s3:Dh TO h2 h3:=s3
 refine Ab (Mj (Ao ?_))
 have g23:S2 i h3:=D2.frame _ _ _ g21 λb hb o q=>(s3.2 b (Ge ap.of2 hb)).trans ((s2.2 b (Ge ap.if2 hb)).trans q)
 refine Ab (Ab (bK ?_))
 show wpAny _ _ (bind (Cz (.ref i2)) _) _ _ _
 refine Ab (D2.item i _ _ _ l2 g23 λy h4 tk2 py g24 s4=>Ao ?_)
 replace s4:Dh i2 h3 h4:=s4
 have gO4:Ew h4 TO x b:=(s4.2 TO ap.to2).trans gO3
 refine Ab (Fq gO4 rfl (Ab (Xz gO4 λh5 gO5 s5=>?_)))
 replace gO5:Ew h5 TO x y:=gO5
 replace s5:Dh TO h4 h5:=s5
 refine Ab (Mj (Ao (Ao ?_)))
 refine Ab (Fq gO5 rfl (Ab (Yb ?_)))
 have sz:h5.objs.size=hp.objs.size:=by rw[s5.1,s4.1,s3.1,s2.1,s1.1]
 have gz5:IsZip h5 z TI TO .ellipsis:=(s5.2 z ap.toz.symm).trans ((s4.2 z ap.z2.symm).trans ((s3.2 z ap.toz.symm).trans ((s2.2 z ap.z1.symm).trans gz1)))
 have k5:∀c o,c≠z->c≠TO->c≠i1->c≠i2->hp.get? c=some o->h5.get? c=some o:=λc o c1 c2 c3 c4 e =>
  (s5.2 c c2).trans ((s4.2 c c4).trans ((s3.2 c c2).trans ((s2.2 c c3).trans ((s1.2 c c1).trans e))))
 have g15:S1 (i+1) h5:=D1.frame _ _ _ g12 λb hb o q=>(s5.2 b (Ge ap.of1 hb)).trans ((s4.2 b (Ge ap.if1 hb)).trans ((s3.2 b (Ge ap.of1 hb)).trans q))
 have g25:S2 (i+1) h5:=D2.frame _ _ _ g24 λb hb o q=>(s5.2 b (Ge ap.of2 hb)).trans q
 have zl:z<h5.objs.size:=Ba gz5
 show wpAny _ _ (bind (Pn (.ref z) (.ref h5.objs.size)) _) _ _ _
 refine Ab ?_
 unfold Pn
 have gz6:IsZip (h5.push { cls:=.type "tuple",data:=.seq #[x,y] }) z TI TO .ellipsis:=Af _ gz5
 refine Ab (Hu gz6 (by simp) λh7 gz7 s7=>?_)
 replace gz7:IsZip h7 z TI TO (Hd h5.objs.size):=gz7
 refine Hu gz7 (by simp) λh8 gz8 s8=>?_
 replace gz8:IsZip h8 z TI TO (Hd h5.objs.size):=gz8
 have up:∀c o,c≠z->h5.get? c=some o->h8.get? c=some o:=λc o c1 e=>(s8.2 c c1).trans ((s7.2 c c1).trans (Af _ e))
 have gT:Ew h8 h5.objs.size x y:=(s8.2 _ (Nat.ne_of_gt zl)).trans ((s7.2 _ (Nat.ne_of_gt zl)).trans (Bb _ rfl))
 have z8:h8.objs.size=h5.objs.size+1:=by rw[s8.1,s7.1,Ka]
 rw[sz] at gz8 gT z8
 refine Ao ⟨_,rfl,?_⟩
 show Q (.ref h5.objs.size) _
 rw[sz]
 exact k x y h8 tk2 px py gz8 (up _ _ ap.toz gO5) (D1.frame _ _ _ g15 λb hb o q=>up b o (Ge ap.zf1 hb) q) (D2.frame _ _ _ g25 λb hb o q=>up b o (Ge ap.zf2 hb) q) gT z8 λc o c1 c2 c3 c4 e=>up c o c1 (k5 c o c1 c2 c3 c4 e)
theorem zX(D1:Draws prog w A i1 f1 n1 P1 S1)(D2:Draws prog w A i2 f2 n2 P2 S2)(ap:ZApart z TI TO i1 i2 f1 f2)(gz:IsZip s.heap z TI TO .none)(gI:Ew s.heap TI (.ref i1) (.ref i2))(gO:Ew s.heap TO a b)(g1:S1 i s.heap)(g2:S2 i s.heap)(hn:i=n1\/(i<n1/\i=n2))(k:∀h' e tk,(∀c o,c≠z->c≠TO->c≠i1->c≠i2->s.heap.get? c=some o->h'.get? c=some o)->(∃o,h'.get? e=some o/\o.cls=.type "StopIteration")->E (.ref e) { s with heap:=h',toks:=tk }):wpAny (model prog w) A (Builtin.«zip.__next__» ⟨[.ref z],[]⟩) Q E s:=by
 obtain ⟨hp,g,d,tk0,os⟩:=s
 show wpAny _ _ (bind (field (.ref z) 2) _) _ _ _
 refine Ab (Gb gz rfl (x:=.bool false) rfl ?_)
 show wpAny _ _ (bind (field (.ref z) 3) _) _ _ _
 refine Ab (Gb gz rfl (x:=.ref TI) rfl (Ab (Fq gI rfl ?_)))
 show wpAny _ _ (bind (Cq (.ref z)) _) _ _ _
 refine Ab ?_
 unfold Cq
 refine Ab (Gb gz rfl (x:=.none) rfl (Ao ?_))
 simp only[if_true]
 refine Ab (Oc (Ab (Gb gz rfl (x:=.ref TO) rfl (Ab (Hu gz (by simp) λh1 gz1 s1=>?_)))))
 replace gz1:IsZip h1 z TI TO .ellipsis:=gz1
 replace s1:Dh z hp h1:=s1
 refine Ab ?_
 simp only[Tx,Vd,bN,List.zipIdx_nil]
 have g11:S1 i h1:=D1.frame _ _ _ g1 λb hb o q=>(s1.2 b (Ge ap.zf1 hb)).trans q
 have g21:S2 i h1:=D2.frame _ _ _ g2 λb hb o q=>(s1.2 b (Ge ap.zf2 hb)).trans q
 refine Ab (Ab (bK ?_))
 show wpAny _ _ (bind (Cz (.ref i1)) _) _ _ _
 rcases hn with rfl | ⟨l1,rfl⟩
 ·refine Ab (D1.done _ _ _ g11 λh2 e x2 he=>?_)
  obtain ⟨oe,ge,ce⟩:=he
  replace x2:Heap.ExtBut i1 h1 h2:=x2
  have gz2:IsZip h2 z TI TO .ellipsis:=x2 _ _ ap.z1.symm gz1
  have ez:e≠z:=λx=>by subst x; rw[gz2] at ge; cases ge; simp at ce
  exact Hu gz2 (by simp) λh3 _ s3=>k h3 e _ (λc o c1 _ c3 _ x=>(s3.2 c c1).trans (x2 _ _ c3 ((s1.2 c c1).trans x))) ⟨oe,(s3.2 e ez).trans ge,ce⟩
 ·refine Ab (D1.item _ _ _ _ l1 g11 λx h2 tk1 px g12 s2=>Ao ?_)
  replace s2:Dh i1 h1 h2:=s2
  have gO2:Ew h2 TO a b:=(s2.2 TO ap.to1).trans ((s1.2 TO ap.toz).trans gO)
  refine Ab (Fq gO2 rfl (Ab (Xz gO2 λh3 gO3 s3=>?_)))
  replace s3:Dh TO h2 h3:=s3
  refine Ab (Mj (Ao (Ab (Ab (bK ?_)))))
  have g23:S2 i h3:=D2.frame _ _ _ g21 λb hb o q=>(s3.2 b (Ge ap.of2 hb)).trans ((s2.2 b (Ge ap.if2 hb)).trans q)
  show wpAny _ _ (bind (Cz (.ref i2)) _) _ _ _
  refine Ab (D2.done _ _ _ g23 λh4 e x4 he=>?_)
  obtain ⟨oe,ge,ce⟩:=he
  replace x4:Heap.ExtBut i2 h3 h4:=x4
  have gz4:IsZip h4 z TI TO .ellipsis:=x4 _ _ ap.z2.symm ((s3.2 z ap.toz.symm).trans ((s2.2 z ap.z1.symm).trans gz1))
  have ez:e≠z:=λx=>by subst x; rw[gz4] at ge; cases ge; simp at ce
  exact Hu gz4 (by simp) λh5 _ s5=>k h5 e _ (λc o c1 c2 c3 c4 x=>(s5.2 c c1).trans (x4 _ _ c4 ((s3.2 c c2).trans ((s2.2 c c3).trans ((s1.2 c c1).trans x))))) ⟨oe,(s5.2 e ez).trans ge,ce⟩
theorem sA(D1:Draws prog w A.in1 i1 f1 n1 P1 S1)(D2:Draws prog w A.in1 i2 f2 n2 P2 S2)(ap:ZApart z TI TO i1 i2 f1 f2)(gz:IsZip s.heap z TI TO .none)(gI:Ew s.heap TI (.ref i1) (.ref i2))(gO:Ew s.heap TO a b)(g1:S1 i s.heap)(g2:S2 i s.heap)(l1:i<n1)(l2:i<n2)(k:∀x y h' tk,P1 i x->P2 i y->IsZip h' z TI TO (Hd s.heap.objs.size)->Ew h' TO x y->S1 (i+1) h'->S2 (i+1) h'->Ew h' s.heap.objs.size x y->h'.objs.size=s.heap.objs.size+1->(∀c o,c≠z->c≠TO->c≠i1->c≠i2->s.heap.get? c=some o->h'.get? c=some o)->Q (some (.ref s.heap.objs.size)) { s with heap:=h',toks:=tk }):wpAny (model prog w) A (Kn (.ref z)) Q E s:=by
 have tz:s.TypeIs (.ref z) "zip" := ⟨_,gz,rfl⟩
 unfold Kn
 refine Ab (Io (Fg (name:=Ei "__next__") tz PySem.F.slot_zip_next (Gg PySem.F.slot_zip_next tz PySem.F.entry_zip_next ?_ (PySem.F.args_zip_next_1 _))))
 exact rY D1 D2 ap gz gI gO g1 g2 l1 l2 λx y h' tk p1 p2 a1 a2 a3 a4 a5 a6 a7=>Ao (k x y h' tk p1 p2 a1 a2 a3 a4 a5 a6 a7)
theorem sD(D1:Draws prog w A.in1 i1 f1 n1 P1 S1)(D2:Draws prog w A.in1 i2 f2 n2 P2 S2)(ap:ZApart z TI TO i1 i2 f1 f2)(gz:IsZip s.heap z TI TO .none)(gI:Ew s.heap TI (.ref i1) (.ref i2))(gO:Ew s.heap TO a b)(g1:S1 i s.heap)(g2:S2 i s.heap)(hn:i=n1\/(i<n1/\i=n2))(k:∀h' tk,(∀c o,c≠z->c≠TO->c≠i1->c≠i2->s.heap.get? c=some o->h'.get? c=some o)->Q none { s with heap:=h',toks:=tk }):wpAny (model prog w) A (Kn (.ref z)) Q E s:=by
 have tz:s.TypeIs (.ref z) "zip" := ⟨_,gz,rfl⟩
 unfold Kn
 refine Ab (Io (Fg (name:=Ei "__next__") tz PySem.F.slot_zip_next (Gg PySem.F.slot_zip_next tz PySem.F.entry_zip_next ?_ (PySem.F.args_zip_next_1 _))))
 refine zX D1 D2 ap gz gI gO g1 g2 hn λh' e tk x q0_ => ?_
 obtain ⟨o,ho,hc⟩ := q0_
 exact Ab (Oe (T := "StopIteration") (b:=true) ⟨o,ho,hc⟩ isSubtype_stop (Ao (k h' tk x)))
end
abbrev DD(h:Heap)(d:Addr)(n ep:Nat):Heap:=h.push { cls:=.type "dict_keyiterator",data:=.fields #[.ref d,.int 0 0,.int n 0,.int ep 0] }
abbrev EI(h:Heap)(d:Addr)(n ep:Nat)(l:Addr):Heap:=(DD h d n ep).push { cls:=.type "list_iterator",data:=.fields #[.ref l,.int 0 0] }
abbrev EK(h:Heap)(d:Addr)(n ep:Nat)(l:Addr):Heap:=(EI h d n ep l).push { cls:=.type "tuple",data:=.seq #[.ref h.objs.size,.ref (DD h d n ep).objs.size] }
abbrev EF(h:Heap)(d:Addr)(n ep:Nat)(l:Addr):Heap:=(EK h d n ep l).push { cls:=.type "tuple",data:=.seq #[.none,.none] }
abbrev Z2(h:Heap)(d:Addr)(n ep:Nat)(l:Addr):Heap:=(EF h d n ep l).push { cls:=.type "zip",data:=.fields #[.none,.bool false,.bool false,.ref (EI h d n ep l).objs.size,.ref (EK h d n ep l).objs.size] }
theorem kZ(d l:Addr)(es:Array Ic)(ep:Nat)(ys:Array Value)(hd:(d == Ft)=false):Meets (Builtin.«zip.__new__» ⟨[.type "zip",.ref d,.ref l],[]⟩) (λ_ R s=>Yq s.heap d es ep/\s.heap.IsList l ys/\R (.ok (.ret (.ref (EF s.heap d es.size ep l).objs.size))) { s with heap:=Z2 s.heap d es.size ep l }) :=
 .of_wp λprog w A R s h=>by
  obtain ⟨hp,g,dd,tk,os⟩:=s
  obtain ⟨hE,hL,q⟩:=h
  have hsub:=sub_zip
  have h1:Yq (Shared.heap ⟨hp,g,dd,tk,os⟩) d es ep:=hE
  have h2:Heap.IsList (Shared.heap ⟨DD hp d es.size ep,g,dd,tk,os⟩) l ys:=Heap.IsList.push hL _
  wp_walk using cP hd h1,Sn h2
  exact ⟨_,rfl,q⟩
section
variable{prog:Bo}{w:World}{A:Cn}{E:Value->Ai->Prop}{s:Ai}
theorem nY(hd:(d == Ft)=false)(hE:Yq s.heap d es ep)(hL:s.heap.IsList l ys)(k:∀h',IsZip h' (s.heap.objs.size+4) (s.heap.objs.size+2) (s.heap.objs.size+3) .none->Ew h' (s.heap.objs.size+2) (.ref s.heap.objs.size) (.ref (s.heap.objs.size+1))->Ew h' (s.heap.objs.size+3) .none .none->h'.IsKeyIter s.heap.objs.size d 0 es.size ep->h'.IsListIter (s.heap.objs.size+1) l 0->(∀c o,s.heap.get? c=some o->h'.get? c=some o)->Q (.ref (s.heap.objs.size+4)) { s with heap:=h' }):wpAny (model prog w) A (call (.type "zip") [.ref d,.ref l]) Q E s:=by
 refine callType_new PySem.F.called_zip (by decide) (PySem.F.typeCall_zip_2 _ _) (PySem.F.newCall_zip_2 _ _) (λobj=>PySem.F.args_object_init_3 obj _ _) PySem.F.entry_zip_new (kZ d l es ep ys hd) ⟨hE,hL,?_⟩
 have e1:(DD s.heap d es.size ep).objs.size=s.heap.objs.size+1:=Ka ..
 have e2:(EI s.heap d es.size ep l).objs.size=s.heap.objs.size+2:=by rw[Ka,e1]
 have e3:(EK s.heap d es.size ep l).objs.size=s.heap.objs.size+3:=by rw[Ka,e2]
 have e4:(EF s.heap d es.size ep l).objs.size=s.heap.objs.size+4:=by rw[Ka,e3]
 have p1:∀{h:Heap} {a:Addr} {u:Obj} (o:Obj),h.get? a=some u->(h.push o).get? a=some u:=λo e=>Af _ e
 have g5:(Z2 s.heap d es.size ep l).get? (EF s.heap d es.size ep l).objs.size=some _:=Bb _ rfl
 have g4:(Z2 s.heap d es.size ep l).get? (EK s.heap d es.size ep l).objs.size=some _:=p1 _ (Bb _ rfl)
 have g3:(Z2 s.heap d es.size ep l).get? (EI s.heap d es.size ep l).objs.size=some _:=p1 _ (p1 _ (Bb _ rfl))
 have g2:(Z2 s.heap d es.size ep l).get? (DD s.heap d es.size ep).objs.size=some _:=p1 _ (p1 _ (p1 _ (Bb _ rfl)))
 have g1:(Z2 s.heap d es.size ep l).get? s.heap.objs.size=some _:=p1 _ (p1 _ (p1 _ (p1 _ (Bb _ rfl))))
 show _/\_
 rw[e2,e3,e4] at g5
 rw[e1,e2] at g3
 rw[e3] at g4
 rw[e1] at g2
 rw[e4]
 exact ⟨⟨_,g5,rfl⟩,k _ g5 g3 g4 ⟨_,g1,rfl,rfl⟩ ⟨_,g2,rfl,rfl⟩ λc o x=>p1 _ (p1 _ (p1 _ (p1 _ (p1 _ x))))⟩
end
theorem Xl(ok:Vr P w H h)(e:H a=some (.dT kvs)):∃(es:Array Ic),(a == Ft)=false/\Yq h a es kvs.length/\es.size=kvs.length/\∀(i:Nat) (x:Ic),es[i]? = some x->∃k b v,kvs[i]? = some (k,v)/\x.key=.ref b/\H b=some (.tup (k.map kV))/\k.length<=Av:=by
 obtain ⟨_,hd,xs,rel,o,es,ep,h1,h2,h3,h4,_,hep⟩:=(show Hk P w H h a (.dT kvs) from ok a _ e)
 have hl:es.size=kvs.length:=by
  have:=congrArg Fm h4
  rw[Ac,<- Paired.length rel] at this
  simpa using this
 refine ⟨es,hd,⟨o,h1,h2,by rw[h3,hep,hl]⟩,hl,λi x hx=>?_⟩
 have hx':es.toList[i]? = some x:=by rw[Mk]; exact hx
 rw[h4,Az] at hx'
 cases q:xs[i]? with
 | none=>rw[q] at hx'; cases hx'
 | some y =>
  rw[q] at hx'
  cases hx'
  have go:∀{kvs:List (List Hr×V)} {xs:List (List Hr×Addr×Value)} {i:Nat},Paired (λ(p:List Hr×V) (q:List Hr×Addr×Value)=>p.1=q.1/\H q.2.1=some (.tup (p.1.map kV))/\RelV p.2 q.2.2) kvs xs->xs[i]? = some y->∃p,kvs[i]? = some p/\H y.2.1=some (.tup (p.1.map kV)):=by
   intro kvs xs i r
   induction r generalizing i with
   | nil=>intro z; simp at z
   | cons hp _ ih =>
    intro z
    cases i with
    | zero=>simp at z; subst z; exact ⟨_,rfl,hp.2.1⟩
    | succ j=>exact ih (by simpa using z)
  obtain ⟨p,hp1,hp2⟩:=go rel q
  refine ⟨p.1,y.2.1,p.2,hp1,rfl,hp2,?_⟩
  have:=(show Hk P w H h y.2.1 (.tup (p.1.map kV)) from ok _ _ hp2).1
  rwa [Ac] at this
def CF(K:PySem.W.Frag)(a b:Addr)(n:Nat):It :=
  ⟨λi H=>∃kv ys y,H a=some (.dT kv)/\kv.length=n/\Kb K H b ys/\i<n/\ys[i]? = some y,
   λi H x H'=>∃p t k v u,x=.ref p/\H p=none/\H'=upd H p (.tup [.ref t,u])/\(∀kv,H a=some (.dT kv)->kv[i]? = some (k,v))/\H t=some (.tup (k.map kV))/\k.length<=Av/\∀ys,Kb K H b ys->ys[i]? = some u,
   λi H=>∃kv ys,H a=some (.dT kv)/\kv.length=n/\Kb K H b ys/\(i=n\/(i<n/\i=ys.length))⟩
def EW(a:Addr)(n:Nat):It :=
  ⟨λi H=>∃kv,H a=some (.dT kv)/\kv.length=n/\i<n,
   λi H x H'=>∃t k v,x=.ref t/\H'=H/\(∀kv,H a=some (.dT kv)->kv[i]? = some (k,v))/\H t=some (.tup (k.map kV))/\k.length<=Av,
   λi H=>∃kv,H a=some (.dT kv)/\kv.length=n/\i=n⟩
theorem sW{P:Bo}{K:PySem.W.Frag}(a b z TI TO i1 i2:Addr)(ap:ZApart z TI TO i1 i2 [i1,a] [i2,b])(na:a≠i1)(nb:b≠i2):Turn P w K (.Tuple elts k pos) (CF K a b n) [z,TI,TO,i1,i2] z (λi h=>IsZip h z TI TO .none/\Ew h TI (.ref i1) (.ref i2)/\(∃u v,Ew h TO u v)/\h.IsKeyIter i1 a i n n/\h.IsListIter i2 b i) where
 mem:=Aa
 obj:=λi h st c hc=>by
  obtain ⟨hz,hTI,⟨u,v,hTO⟩,⟨o1,e1,c1,d1⟩,⟨o2,e2,c2,d2⟩⟩:=st
  simp only[Aj,Ax,or_false] at hc
  rcases hc with rfl | rfl | rfl | rfl | rfl
  ·exact ⟨_,hz,λv z=>by cases z⟩
  ·exact ⟨_,hTI,λv z=>by cases z⟩
  ·exact ⟨_,hTO,λv z=>by cases z⟩
  ·exact ⟨o1,e1,λv z=>by rw[d1] at z; cases z⟩
  ·exact ⟨o2,e2,λv z=>by rw[d2] at z; cases z⟩
 keep:=λi h h' st kp=>by
  obtain ⟨hz,hTI,⟨u,v,hTO⟩,h1,h2⟩:=st
  exact ⟨kp z (by simp) _ hz,kp TI (by simp) _ hTI,⟨u,v,kp TO (by simp) _ hTO⟩,h1.at λo q=>kp i1 (by simp) o q,h2.at λo q=>kp i2 (by simp) o q⟩
 item:=by
  intro X hP hw hK hc i pins s σ H E I hf st hg
  subst hP hw hK
  obtain ⟨kv,ys,y,ha,rfl,hq2,hx,hy⟩:=hg
  obtain ⟨es,hd,hE,hes,hent⟩:=Xl I.hok ha
  obtain ⟨its2,rv2,p2,hz2⟩:=I.list hq2
  obtain ⟨hz,hTI,⟨o1,o2,hTO⟩,hi1,hi2⟩:=st
  have hh:X.A.in1.handled=none:=I.ok.hd hc
  have D1:=dU (prog:=X.prog) (w:=X.w) (A:=X.A.in1) hh i1 a na es es.size
  have D2:=Draws.list (prog:=X.prog) (w:=X.w) (A:=X.A.in1) hh i2 b nb its2.toArray
  have hl2:=rv2.length
  have ly:i<its2.length:=by
   have:=(Ah.mp hy).1
   omega
  have zl:z<s.heap.objs.size:=Ba hz
  have TIl:TI<s.heap.objs.size:=Ba hTI
  have TOl:TO<s.heap.objs.size:=Ba hTO
  have i1l:i1<s.heap.objs.size:=by obtain ⟨_,q,_⟩:=hi1; exact Ba q
  have i2l:i2<s.heap.objs.size:=by obtain ⟨_,q,_⟩:=hi2; exact Ba q
  refine sA D1 D2 ap hz hTI hTO ⟨by rw[hes]; exact hi1,by rw[hes]; exact hE⟩ ⟨hi2,p2.isList⟩ (by omega) (by simpa using ly) λu1 u2 h1 tk q1 q2 a1 a2 a3 a4 a5 a6 hk=>⟨_,rfl,tX (s:={ s with heap:=h1,toks:=tk }) a1 λh2 he2 hs2=>?_⟩
  have hs2':Dh z h1 h2:=hs2
  obtain ⟨x1,ex1,rfl⟩:=q1
  obtain ⟨kk,bb,vv,ek,eb,hb,hkl⟩:=hent i x1 ex1
  rw[eb] at a2 a5
  have q2':its2[i]? = some u2:=by simpa using q2
  obtain ⟨u2',hu2,ru2⟩:=rv2.get hy
  rw[q2'] at hu2
  cases hu2
  have I1:Inv X pins σ (upd H s.heap.objs.size (.tup [.ref bb,y])) { s with heap:=s.heap.push { cls:=.type "tuple",data:=.seq #[.ref bb,u2] } } :=
   I.laid (t':=s.toks) (λb o q=>Af _ q) (Ak _) ⟨by show 2<=Av; decide,[.ref bb,u2],.cons rfl (.cons ru2 .nil),_,Bb _ rfl,rfl,0,rfl⟩
  have nT:∀c∈[z,TI,TO,i1,i2],c≠s.heap.objs.size:=λc hc=>by
   simp only[Aj,Ax,or_false] at hc
   rcases hc with rfl | rfl | rfl | rfl | rfl <;> exact By (by assumption)
  have fr:∀c∈[z,TI,TO,i1,i2],(upd H s.heap.objs.size (.tup [.ref bb,y])) c=none:=λc hc=>by rw[Cj (nT c hc)]; exact (hf c hc).1
  refine ⟨.ref s.heap.objs.size,_,Kh (fp:=[z,TI,TO,i1,i2]) (s:={ s with heap:=s.heap.push { cls:=.type "tuple",data:=.seq #[.ref bb,u2] } }) (h':=h2) (t':=tk) I1 (λc o hc q=>?_) (λc hc=>⟨fr c hc,(hf c hc).2⟩),rfl,⟨_,bb,kk,vv,y,rfl,I.hok.fresh (Ak _),rfl,(λkv' h'=>by rw[ha] at h'; cases h'; exact ek),hb,hkl,λzs hzs=>by rw[I.list_inj hzs hq2]; exact hy⟩,⟨he2,?_,⟨.ref bb,u2,?_⟩,?_,?_⟩,fr⟩
  ·simp only[Aj,Ax,or_false,not_or] at hc
   refine (hs2'.2 c hc.1).trans ?_
   by_cases hbT:c=s.heap.objs.size
   ·subst hbT
    have q':=(Bb s.heap (o:={ cls:=.type "tuple",data:=.seq #[.ref bb,u2] }) rfl).symm.trans q
    rw[show h1.get? s.heap.objs.size=_ from a5]
    exact q'
   ·refine hk c o hc.1 hc.2.2.1 hc.2.2.2.1 hc.2.2.2.2 ?_
    have q0:(s.heap.push { cls:=.type "tuple",data:=.seq #[.ref bb,u2] }).get? c=some o:=q
    rcases Ve q0 with zz | zz
    ·exact absurd zz.1 hbT
    ·exact zz
  ·exact (hs2'.2 TI ap.tiz).trans (hk TI _ ap.tiz ap.tito ap.ti1 ap.ti2 hTI)
  ·exact (hs2'.2 TO ap.toz).trans a2
  ·rw[hes] at a3
   exact a3.1.at λo q=>(hs2'.2 i1 ap.z1).trans q
  ·exact a4.1.at λo q=>(hs2'.2 i2 ap.z2).trans q
 done:=by
  intro X hP hw hK hc i pins s σ H E I hf st hg
  subst hP hw hK
  obtain ⟨kv,ys,ha,rfl,hq2,hx⟩:=hg
  obtain ⟨es,hd,hE,hes,hent⟩:=Xl I.hok ha
  obtain ⟨its2,rv2,p2,hz2⟩:=I.list hq2
  obtain ⟨hz,hTI,⟨o1,o2,hTO⟩,hi1,hi2⟩:=st
  have hh:X.A.in1.handled=none:=I.ok.hd hc
  have D1:=dU (prog:=X.prog) (w:=X.w) (A:=X.A.in1) hh i1 a na es es.size
  have D2:=Draws.list (prog:=X.prog) (w:=X.w) (A:=X.A.in1) hh i2 b nb its2.toArray
  have hl2:=rv2.length
  refine sD D1 D2 ap hz hTI hTO ⟨by rw[hes]; exact hi1,by rw[hes]; exact hE⟩ ⟨hi2,p2.isList⟩ ?_ λh1 tk hk=>⟨rfl,Kh (fp:=[z,TI,TO,i1,i2]) (t':=tk) I (λc o hc q=>?_) hf⟩
  ·rw[hes,Aq]
   omega
  ·simp only[Aj,Ax,or_false,not_or] at hc
   exact hk c o hc.1 hc.2.2.1 hc.2.2.2.1 hc.2.2.2.2 q
 self:=λ_ _ _ _ _ st h=>Od st.1 h
theorem Y8(I a b:Nat)(h1:a<I)(h2:b<I):ZApart (I+4) (I+2) (I+3) I (I+1) [I,a] [I+1,b]:=by
 constructor <;> (first | (intro e; have e':(_:Nat)=_:=e; omega) | (intro e; simp only[Aj,Ax,or_false] at e; rcases e with e | e <;> (have e':(_:Nat)=_:=e; omega)))
theorem rP{K:PySem.W.Frag}(a it:Addr)(na:a≠it):Turn P w K tg (EW a n) [it] it (λi h=>h.IsKeyIter it a i n n) where
 mem:=Aa
 obj:=λi h st c hc=>by
  obtain ⟨o1,e1,c1,d1⟩:=st
  rw[Ag.mp hc]
  exact ⟨o1,e1,λv z=>by rw[d1] at z; cases z⟩
 keep:=λi h h' st kp=>st.at λo q=>kp it (by simp) o q
 item:=by
  intro X hP hw hK hc i pins s σ H E I hf st hg
  subst hP hw hK
  obtain ⟨kv,ha,rfl,hx⟩:=hg
  obtain ⟨es,hd,hE,hes,hent⟩:=Xl I.hok ha
  have hi:i<es.size:=by omega
  refine tP (es:=es) (by rw[hes]; exact st) (by exact hE) (x:=es[i]) (by simp [hi]) λh1 hI hs=>⟨_,rfl,?_⟩
  rw[hes] at hI
  obtain ⟨o1,e1,c1,d1⟩:=id hI
  refine qV e1 c1 d1 (by decide) ?_
  obtain ⟨kk,bb,vv,ek,eb,hb,hkl⟩:=hent i es[i] (by simp [hi])
  have hs':Dh it s.heap h1:=hs
  exact ⟨.ref bb,H,Kh (fp:=[it]) (t':=s.toks) I (λc o hc q=>(hs'.2 c λz=>hc (by simp [z])).trans q) hf,eb,⟨bb,kk,vv,rfl,rfl,λkv' h'=>by rw[ha] at h'; cases h'; exact ek,hb,hkl⟩,hI,λc hc=>(hf c hc).1⟩
 done:=by
  intro X hP hw hK hc i pins s σ H E I hf st hg
  subst hP hw hK
  obtain ⟨kv,ha,rfl,rfl⟩:=hg
  obtain ⟨es,hd,hE,hes,hent⟩:=Xl I.hok ha
  refine i8 (es:=es) (I.ok.hd hc) (by rw[hes]; exact st) hE λh1 hx=>⟨rfl,Kh (fp:=[it]) (t':=s.toks) I (λc o hc q=>hx c o (λz=>hc (by simp [z])) q) hf⟩
 self:=λ_ _ _ _ _ st h=>wpAny_pyIter_keyiter st h
section
variable{X:Cx}
def Z9(K:PySem.W.Frag)(ta:TA):TI:=λσ H R=>ta σ H λvs H1=>∃a b kv,vs=[.ref a,.ref b]/\H1 a=some (.dT kv)/\(∃ys,Kb K H1 b ys)/\R (CF K a b kv.length) H1
theorem EC{elts:List Expr}{k:Nat}{tp:Pos}{p pos:Pos}(hg:Gl X "zip")(hm:X.mg "zip" = none)(ha:PA X [a,b] ta)(hs:Bm [a,b] X.env=(false,eval a X.env)::Bm [b] X.env:=by rfl)(hp:(Gd pos (Bm [b] X.env)).any (·.1)=false:=by rfl):PI X (.Tuple elts k tp) (.Call (.Name "zip" p) [a,b] [] pos) (Z9 X.K ta):=by
 intro pins s σ H R I h
 refine Call_ (Mq I hg hm (u:=.type "zip") (by decide +kernel) (Eb (Fn (ha pos pins s σ H _ I h) λus s1 ⟨vs,H1,I1,r1,q1⟩=>?_) hs hp))
 obtain ⟨l1,l2,kv,e,hq1,⟨ys,hq2⟩,q⟩:=q1
 subst e
 obtain ⟨u1,u2,rfl,ru1,ru2⟩:=vals2 r1
 cases ru1
 cases ru2
 obtain ⟨es,hd,hE,hes,hent⟩:=Xl I1.hok hq1
 obtain ⟨its2,rv2,pl2,hz2⟩:=I1.list hq2
 have hlt1:l1<s1.heap.objs.size:=let ⟨o,q,_⟩:=hE; Ba q
 have hlt2:l2<s1.heap.objs.size:=let ⟨o,q,_⟩:=pl2.isList; Ba q
 refine nY hd hE pl2.isList λh2 hz hTI hTO hi1 hi2 hk=>Od hz ?_
 have fr1:∀n,Ky X pins H1 (s1.heap.objs.size+n):=λn=>I1.fpOk (Gz _ _) (I1.hok.fresh (Gz _ _))
 have fr:∀c∈[s1.heap.objs.size+4,s1.heap.objs.size+2,s1.heap.objs.size+3,s1.heap.objs.size,s1.heap.objs.size+1],Ky X pins H1 c:=λc hc=>by
  simp only[Aj,Ax,or_false] at hc
  rcases hc with rfl | rfl | rfl | rfl | rfl
  ·exact fr1 4
  ·exact fr1 2
  ·exact fr1 3
  ·exact fr1 0
  ·exact fr1 1
 rw[hes] at hi1
 exact ⟨s1.heap.objs.size+4,_,_,_,H1,rfl,I1.kept (t':=s1.toks) hk,sW l1 l2 _ _ _ _ _ (Y8 _ _ _ hlt1 hlt2) (By hlt1) (By (Zl hlt2)),⟨hz,hTI,⟨_,_,hTO⟩,hi1,hi2⟩,fr,q⟩
def CM(te:TE):TI:=λσ H R=>te σ H λv H1=>∃a kv,v=.ref a/\H1 a=some (.dT kv)/\R (EW a kv.length) H1
theorem F7(he:PE X e te):PI X tg e (CM te):=by
 intro pins s σ H R I h
 refine Fn (he pins s σ H _ I h) λu s1 q0_ => ?_
 obtain ⟨v,H1,I1,rv,a,kv,ev,ha,q⟩ := q0_
 subst ev
 cases (show u=Bc a from rv)
 obtain ⟨es,hd,hE,hes,hent⟩:=Xl I1.hok ha
 have hlt:a<s1.heap.objs.size:=let ⟨o,q,_⟩:=hE; Ba q
 refine cP hd hE ?_
 refine ⟨s1.heap.objs.size,_,_,_,H1,rfl,I1.kept (t':=s1.toks) (λb u q=>Af _ q),rP a _ (By hlt),⟨_,Bb _ rfl,rfl,by rw[hes]; rfl⟩,λc hc=>?_,q⟩
 rw[Ag.mp hc]
 exact I1.fpOk (Ak _) (I1.hok.fresh (Ak _))
end
end Nd
namespace DL
open PySem PySem.Spec PyProof.Rows L2 Nd
section
variable{K:PySem.W.Frag}
theorem R1{i:Nat}(r:DRel K H kv ks)(h:kv[i]? = some (k,v)):∃w d,ks[i]? = some (w,d)/\k=Kd w:=by
 have e:=congrArg (λl=>l[i]?) r.key
 simp only[Az,h,Option.map_some] at e
 cases q:ks[i]? with
 | none=>rw[q] at e; cases e
 | some p=>rw[q] at e; exact ⟨p.1,p.2,rfl,Bl e⟩
theorem G6(h:H t=some (.tup ((Kd w).map kV)))(hl:(Kd w).length<=Av):RdF K H (.ref t) (Bv w) []:=by
 rw[gU] at h
 refine .tup h ?_ (RdFs.ints w)
 unfold Kd at hl
 rw[Ac] at hl ⊢
 exact hl
end
def xG(ks:List (List Int×Ad)):List (List Hr×Ad):=ks.map λp=>(Kd p.1,p.2)
section
variable{K:PySem.W.Frag}{H0 H H':Hp}{X:Addr->Prop}{n:Nat}{E S T:List Ent}
theorem yW(h1:kv.map (·.1)=(xG ks).map (·.1))(h2:RdFs K H (kv.map (·.2)) ((xG ks).map (·.2)) []):DRel K H kv ks:=by
 unfold xG at h1 h2
 rw[Bx] at h1 h2
 exact ⟨h1,h2⟩
theorem T9(r:DRel K H kv ks):kv.map (·.1)=(xG ks).map (·.1)/\RdFs K H (kv.map (·.2)) ((xG ks).map (·.2)) []:=by
 unfold xG
 rw[Bx,Bx]
 exact ⟨r.key,r.val⟩
theorem At.dNew(h:At K H0 X n E H)(hD:H D=Pp):At K H0 X n (⟨some (.ref D),.dT (xG []),[D]⟩::E) (upd H D (.dT [])):=by
 have s1:=Dn hD (.dT [])
 refine (h.grow (n':=n) s1 (Ak _)).push ⟨D,[],rfl,rfl,Cm,rfl,.nil⟩ (λf hf=>?_) λa ha=>?_
 ·have nf:=h.free hD f hf
  refine ⟨λ_ a ha z=>?_,λ_ a ha z=>?_⟩
  ·rw[Ag.mp ha] at z
   exact nf z
  ·rw[Ag.mp z] at ha
   exact nf (Fo _ _ ha)
 ·rw[Ag.mp ha]
  exact .inl (h.new0 hD)
theorem At.dPut(h:At K H0 X n (⟨some (.ref D),.dT (xG ks),[D]⟩::E) H)(r:RdF K H v e []):∃kv,H D=some (.dT kv)/\kv.length=ks.length/\At K H0 X n (⟨some (.ref D),.dT (xG (Ry ks w e)),[D]⟩::E) (upd H D (.dT (Mp kv (Kd w) v))):=by
 obtain ⟨a,kv,e1,e0,ha,h1,h2⟩:=h.ok _ Aa
 have e1':some (V.ref D)=some (V.ref a):=e1
 cases e1'
 have rel:=yW h1 h2
 have hs:=Bf.mp h.sep
 have hE:=h.sub (Dg _ _)
 have kp:∀{F:List Addr},D∉F->Kp F H (upd H D (.dT (Mp kv (Kd w) v))):=λ{F} hF b o q z=>by
  have : b≠D:=by
   rintro rfl
   rw[ha] at q
   cases q
   rcases z with z | z
   ·exact hF z
   ·rcases z with ⟨_,z⟩ | ⟨_,_,z⟩ <;> cases z
  rw[Cj this]
  exact q
 have nD:H0 D=Pp:=by
  rcases h.new _ Aa D Aa with z | z
  ·exact z
  ·cases z.2
 have rel':=(kH w r rel).kp (kp Ax)
 obtain ⟨g1,g2⟩:=T9 rel'
 refine ⟨kv,ha,Rp rel,?_⟩
 refine ⟨λf hf=>?_,Bf.mpr ⟨λf hf=>⟨λhq a ha'=>(hs.1 f hf).1 hq a ha',λhq a ha'=>(hs.1 f hf).2 (hq.imp id id) a ha'⟩,hs.2⟩,λf hf=>?_,λb o nx q=>?_,λb o q=>?_,λb hb=>?_⟩
 rotate_right
 ·obtain ⟨z,c,k,f,h1,h2⟩:=h.xd b hb
  refine ⟨z,c,k,f,(Cj ?_).trans h1,h2⟩
  rintro rfl
  exact z nD
 ·rcases Aj.mp hf with rfl | hf
  ·exact ⟨D,_,rfl,rfl,Cm,g1,g2⟩
  ·exact (hE.ok f hf).kp (kp ((hs.1 f hf).1 (.inr rfl) D Aa)) (Ak _)
 ·rcases Aj.mp hf with rfl | hf
  ·intro a ha'
   rw[Ag.mp ha']
   exact .inl nD
  ·exact hE.new f hf
 ·rw[Cj (Dc q nD)]
  exact h.same b o nx q
 ·rw[Cj (Dc q nD)]
  exact h.dom b o q
theorem At.dGot(h:At K H0 X n (⟨some (.ref D),.dT (xG ks),[D]⟩::E) H):At K H0 X n (⟨some (.ref D),.dat .ow (.dict (Qr ks)),[D]⟩::E) H:=by
 obtain ⟨a,kv,e1,e0,ha,h1,h2⟩:=h.ok _ Aa
 have e1':some (V.ref D)=some (V.ref a):=e1
 cases e1'
 have rel:=yW h1 h2
 have hs:=Bf.mp h.sep
 refine (h.sub (Dg _ _)).push ⟨_,rfl,.dic ha rel.key rel.val,λ_=>Bz.mpr ⟨Ax,Co⟩,λz=>nomatch z⟩ (λf hf=>⟨λhq a ha'=>(hs.1 f hf).1 (.inr rfl) a ha',λhq a ha'=>(hs.1 f hf).2 (.inl rfl) a ha'⟩) λa ha'=>?_
 rcases h.new _ Aa a ha' with z | z
 ·exact .inl z
 ·cases z.2
end
theorem yO(ks:List (List Int×Ad))(w:List Int)(d:Ad):(Ry ks w d).length<=ks.length+1:=by
 unfold Ry
 split
 ·rw[Ac]; omega
 ·rw[Bw]; simp
end DL
namespace Nd
open PySem PySem.Spec PySem.Calls PyProof.Rows PyProof.V L2
end Nd
namespace DL
open PySem PySem.Spec PyProof.Rows L2 Nd
abbrev PX:=List Ad->(Ad->Prop)->(Addr->Prop)->Prop
end DL
namespace Nd
open PySem PySem.Spec PyProof.Rows L2
end Nd
namespace DL
open PySem PySem.Spec PyProof.Rows L2 Nd
def qD(i:Nat)(ds:List Ad)(k:Nat)(c y:Ad)(δ:DS)(D:DEnds):Prop:=match y with
 | .list es=>npk (δ.sl.set i .un)=true/\imm c=true/\es.length<1000000/\D.nx ⟨δ.sl.set i (.dat .ow (.tuple (ds.set k (.list (es++[c]))))),δ.n⟩
 | _=>False
def vO(i k:Nat)(c:Ad):DB:=λD δ=>match δ.sl[i]? with
 | some (.dat .ow (.tuple ds))=>∃y,ds[k]? = some y/\qD i ds k c y δ D
 | _=>False
theorem jF:∀l:List Ad,datas (l.map λd=>DV.dat .ow d)=some l
 | []=>rfl
 | d::l=>by
  rw[Ar,datas,jF l]
  rfl
theorem iW:∀l:List Ad,allOw (l.map λd=>DV.dat .ow d)=true
 | []=>rfl
 | d::l=>by
  rw[Ar,allOw]
  exact iW l
section
variable{X:Cx}{o e:Expr}{apos cpos pos ip sp:Pos}{j:Nat}{i k:Nat}{c:Ad}{w:V}
theorem C6(ho:PE X o (Yi i))(he:PE X e (tC w))(hr:∀H,RdF X.K H w c [])
  (hbase:Lp (.Subscript o (.Constant (.int (k:Int)) j ip) sp) "append" X.env (eval (.Subscript o (.Constant (.int (k:Int)) j ip) sp) X.env)=eval (.Subscript o (.Constant (.int (k:Int)) j ip) sp) X.env:=by rfl)
  (hfew:((Gd cpos (Bm [e] X.env)).all (λx=>!x.1) && (Yh cpos (Oz [] X.env)).all (λx=>x.1.isSome)
   && decide (([e]:List Expr).length+([]:List Ma).length+(if ([]:List Ma).isEmpty then 0 else 1)<30))=true:=by rfl)
  (hline:(apos.endLine == cpos.line)=true:=by rfl) (hs:Bm [e] X.env=(false,eval e X.env)::Bm [] X.env:=by rfl) (hplain:(Gd cpos (Bm [] X.env)).any (·.1)=false:=by rfl)
  (hsw:Hm (.Call (.Attribute (.Subscript o (.Constant (.int (k:Int)) j ip) sp) "append" apos) [e] [] cpos) none pos.line X.env=pure false:=by rfl) :
  lH X (.Expr (.Call (.Attribute (.Subscript o (.Constant (.int (k:Int)) j ip) sp) "append" apos) [e] [] cpos) pos) (vO i k c):=by
 refine PS.impD (fO (rG PySem.F.plainAttrs_list PySem.F.slot_list_append PySem.F.type_list_append Lw (Ow Y5 ho Dd (λ_ _=>rfl)) (Fu he Iu hs) hbase hfew hline hs hplain) hsw) λD σ H h=>?_
 obtain ⟨H0,Y,S,T,δ,P,rfl,hS,hT,hA,hd,k1,k2,k3,k4⟩:=h
 unfold vO at hd
 split at hd
 case h_2=>exact hd.elim
 rename_i ds hsl
 obtain ⟨y,hy,hd⟩:=hd
 unfold qD at hd
 split at hd
 case h_2=>exact hd.elim
 rename_i es
 obtain ⟨hn,hc,hz,hD⟩:=hd
 obtain ⟨ent,e2,e3⟩:=Gq hS hsl
 have hm:ent∈S:=Au e2
 obtain ⟨u,x,F⟩:=ent
 have e3':x=.dat .ow (.tuple ds):=e3
 subst e3'
 obtain ⟨v,hv,rd,nd,_⟩:=hA.ok _ (Am _ hm)
 have hv':u=some v:=hv
 subst hv'
 obtain ⟨t,xs,rfl,ht,ra,lz⟩:=rd.tup_inv
 -- the slot out of its row
 have p1:((⟨some (.ref t),.un,[]⟩ : Ent)::(S++T)).Perm (⟨some (.ref t),.dat .ow (.tuple ds),F⟩::(S.set i ⟨some (.ref t),.un,[]⟩++T)):=by
  rw[<- Dl]
  exact (Rj (y:=(⟨some (.ref t),.un,[]⟩ : Ent)) e2).append_right T
 have hA1:=(hA.blank (v:=some (.ref t))).perm p1
 generalize hS':S.set i ⟨some (.ref t),.un,[]⟩=S' at hA1
 have hp:=Bf.mp hA1.sep
 obtain ⟨As,a1,a2,a3,a4⟩:=At.unpack (m:=.ow) (E:=S'++T) ra (λ_=>nd rfl) (λf hf=>by
  refine ⟨λhq b hb=>(hp.1 f hf).1 ?_ b hb,λhq b hb=>(hp.1 f hf).2 ?_ b hb⟩
  ·rcases hq with hq | hq
   ·exact .inl hq
   ·cases hq
  ·rcases hq with hq | hq
   ·exact .inl hq
   ·exact .inr hq) (λb hb=>by
  rcases hA1.new _ Aa b hb with z | z
  ·exact z
  ·cases z.2) (hA1.sub (Dg _ _))
 -- the item
 have lA:As.length=ds.length:=by have:=congrArg Fm a2; simpa using this
 have hk:k<As.length:=by rw[lA]; exact (Ah.mp hy).1
 have eA:As=As.take k++As[k]::As.drop (k+1):=by rw[<- Hs hk,Hf]
 have kx:As[k].x=.dat .ow (.list es):=by
  have:=congrArg (·[k]?) a2
  simp only[Az,hy,Ap hk,Option.map_some] at this
  exact Bl this
 generalize hE:As[k]=E at eA kx
 obtain ⟨v1,x1,F1⟩:=E
 have kx':x1=.dat .ow (.list es):=kx
 subst kx'
 obtain ⟨v2,hv2,rd2,_⟩:=a4.ok ⟨v1,.dat .ow (.list es),F1⟩ (Am _ (by rw[eA]; exact mem_mid))
 have hv2':v1=some v2:=hv2
 subst hv2'
 obtain ⟨a,ys,G,rfl,ha,ry,rfl,lz2⟩:=rd2.list_inv
 have kv:xs[k]? = some (.ref a):=by
  have:=congrArg (·[k]?) a1
  simp only[Az,Ap hk,hE,Option.map_some] at this
  cases q:xs[k]? with
  | none=>rw[q] at this; cases this
  | some z =>
   rw[q] at this
   exact congrArg some (Bl (Bl this)).symm
 refine ⟨.ref t,by rw[Ke e2],t,xs,(k:Int),.ref a,rfl,rfl,Vh.of ht,qX kv,.inl ⟨rfl,ys,Kb.of ha⟩,a,ys,w,rfl,rfl,ha,Br (by rw[ry.len]; omega) (lG (n:=1000000) (Ak _)),?_⟩
 have npS:∀f∈S',Lg f.x=false:=Xn (sl:=δ.sl.set i .un) (by rw[<- hS',Eg,hS]) hn
 have q1:(As++(S'++T)).Perm (⟨some (.ref a),.dat .ow (.list es),a::G⟩::((As.take k++As.drop (k+1))++(S'++T))):=by
  conv=>lhs; rw[eA]
  rw[<- Dl]
  exact (Dv).append_right _
 have npA:∀f∈As,Lg f.x=false:=λf hf=>by
  have:=Ig (f:=Ent.x) hf
  rw[a2] at this
  obtain ⟨d,_,z⟩:=Bs.mp this
  rw[<- z]
  rfl
 have h1:=(a4.perm q1).write (es:=es++[c]) (ys:=ys++[w]) (G:=G++[]) rfl rfl (λf hf=>by
  rcases Bg.mp hf with hf | hf
  ·rcases Bg.mp hf with hf | hf
   ·exact npA f (List.mem_of_mem_take hf)
   ·exact npA f (List.mem_of_mem_drop hf)
  ·rcases Bg.mp hf with hf | hf
   ·exact npS f hf
   ·exact hT f hf) (ry.snoc (hr H)) (by rw[Dj]; exact Ec _) (by rw[Bw]; exact lG (by simp; omega))
 have q2:((⟨some (.ref a),.dat .ow (.list (es++[c])),a::(G++[])⟩ : Ent)::((As.take k++As.drop (k+1))++(S'++T))).Perm ([]++((As.take k++⟨some (.ref a),.dat .ow (.list (es++[c])),a::(G++[])⟩::As.drop (k+1))++(S'++T))):=by
  rw[<- Dl,Tw]
  exact (Dv.symm).append_right _
 have h2:=h1.perm q2
 generalize hAs:As.take k++(⟨some (.ref a),.dat .ow (.list (es++[c])),a::(G++[])⟩ : Ent)::As.drop (k+1)=As' at h2
 have b1:As'.map Ent.v=xs.map some:=by
  rw[<- hAs,<- a1]
  conv=>rhs; rw[eA]
  rw[Bh,Bh,Ar,Ar]
 have b2:As'.map Ent.x=(ds.set k (.list (es++[c]))).map λd=>DV.dat .ow d:=by
  rw[<- hAs,Bh,Ar,List.map_take,List.map_drop,a2,<- List.map_take,<- List.map_drop]
  rw[List.set_eq_take_append_cons_drop,if_pos (by rw[<- lA]; exact hk),Bh,Ar]
  rfl
 have r2:=Sb b1 (by rw[b2]; exact jF _) λf hf=>h2.ok f (Al _ (Am _ hf))
 have ht2:(upd H a (.lst (ys++[w]))) t=some (.tup xs):=by
  rw[Cj (λz=>by rw[z,ha] at ht; cases ht)]
  exact ht
 have h3:=h2.pack (N:=[]) (top:=.sh) (Mg.refl _) (λ_ z=>(nomatch z)) Co (.inr ⟨rfl,rfl⟩) (.tup (F:=As'.flatMap Ent.F) ht2 (by rw[List.length_set]; exact lz) r2)
 rw[show pkMd .sh (As'.map Ent.x)=.ow by unfold pkMd; rw[b2,iW,if_pos rfl]] at h3
 have h4:At X.K H0 Y δ.n (S'++⟨some (.ref t),.dat .ow (.tuple (ds.set k (.list (es++[c])))),[]++As'.flatMap Ent.F⟩::T) (upd H a (.lst (ys++[w]))):=h3.tomid
 have h5:=h4.store (i:=i)
 rw[<- hS',List.set_set] at h5
 have h6:=k1 ⟨δ.sl.set i (.dat .ow (.tuple (ds.set k (.list (es++[c]))))),δ.n⟩ _ _ (fL hS) h5 hD
 have e9:(vs S).set i (some (.ref t))=vs S:=by
  apply Gk
  intro j2
  rw[Gj]
  split
  ·rename_i hij
   subst hij
   rw[Ke e2]
   split
   ·rfl
   ·rename_i hj
    unfold vs at hj
    rw[Ac] at hj
    exact absurd (Ah.mp e2).1 hj
  ·rfl
 rw[hU,e9] at h6
 exact h6
end
end DL
namespace Nd
open PySem PySem.Spec PyProof.Rows L2
abbrev ZF(h:Heap)(z TI TO:Addr)(f0 f1:Value):Prop:=h.get? z=some { cls:=.type "zip",dict:=none,data:=.fields #[f0,f1,.bool false,.ref TI,.ref TO],slots:=#[] }
section
variable{prog:Bo}{w:World}{A:Cn}{E:Value->Ai->Prop}{s:Ai}
theorem jY(ho:s.heap.get? a=some o)(h:Q (some o) s):wpAny (model prog w) A (loadIfAlive a) Q E s:=λΓ p _=>by
 unfold loadIfAlive
 rw[Sem.wp_loadIfAlive,ho]
 exact (Sem.wp_pure ..)▸h
theorem aG{z TI TO a:Addr}(hz:ZF s.heap z TI TO (Hd (a:Int)) (.bool fl))(ha:s.heap.get? a=some oa):wpAny (model prog w) A (Cq (.ref z)) (λb s'=>b=false/\∃h',s'={ s with heap:=h' }/\ZF h' z TI TO (Hd (a:Int)) (.bool true)/\Dh z s.heap h') E s:=by
 unfold Cq
 refine Ab (Gb hz rfl (x:=Hd (a:Int)) rfl ?_)
 show wpAny _ _ (loadIfAlive ((a:Int).toNat) >>= _) _ _ _
 refine Ab (jY (a:=(a:Int).toNat) (o:=oa) (by rw[Et]; exact ha) ?_)
 simp only[Option.isNone_some,Ca,if_false]
 refine Ab (Gb hz rfl (x:=.bool fl) rfl ?_)
 cases fl with
 | false =>
  rw[if_pos (by decide)]
  exact Ab (Hu hz (by simp) λg1 hz1 hs1=>Ao ⟨rfl,g1,rfl,hz1,hs1⟩)
 | true =>
  rw[if_neg (by decide)]
  exact Ao ⟨rfl,s.heap,rfl,hz,⟨rfl,λ_ _=>rfl⟩⟩
theorem tV{z TI TO i1 i2 l1 l2 a:Addr}{Q:Value->Ai->Prop}(D:Pa z TI TO i1 i2 l1 l2)(hz:ZF s.heap z TI TO (Hd (a:Int)) (.bool fl))(ha:s.heap.get? a=some oa)(hTI:Ew s.heap TI (.ref i1) (.ref i2))(h1:s.heap.IsListIter i1 l1 k1)(h2:s.heap.IsListIter i2 l2 k2)(hl1:s.heap.IsList l1 xs)(hl2:s.heap.IsList l2 ys)(hx:xs[k1]? = some x)(hy:ys[k2]? = some y)(hQ:∀h',ZF h' z TI TO (Hd (a:Int)) (.bool true)->h'.IsListIter i1 l1 (k1+1)->h'.IsListIter i2 l2 (k2+1)->Ew h' s.heap.objs.size x y->h'.objs.size=s.heap.objs.size+1->(∀c o,c≠z->c≠i1->c≠i2->s.heap.get? c=some o->h'.get? c=some o)->Q (.ref s.heap.objs.size) { s with heap:=h' }):wpAny (model prog w) A (Builtin.«zip.__next__» ⟨[.ref z],[]⟩) (λfin s'=>∃v,fin=.done (.ret v)/\Q v s') E s:=by
 unfold Builtin.«zip.__next__»
 refine Ab (Ao (Ab (Gb hz rfl (x:=.bool false) rfl (Ab (Gb hz rfl (x:=.ref TI) rfl (Ab (Fq hTI rfl ?_)))))))
 show wpAny _ _ (Cq (.ref z) >>= _) _ _ _
 refine Ab (Fn (aG (E:=E) hz ha) λbb s1 q0_ => ?_)
 obtain ⟨eb,g1,e1,hz1,hs1⟩ := q0_
 subst eb e1
 simp only[Ca,if_false]
 simp only[<- Ww,Tx,Vd]
 refine Ab (Ab (Ab (Df ?_)))
 show wpAny _ _ (Cz (.ref i1) >>= _) _ _ _
 refine Ab (Vj (h1.extBut hs1.extBut D.i1z) (hl1.extBut hs1.extBut D.l1z) hx λg2 q1 hs2=>Ao (Ao ?_))
 refine Ab (Ab (Df ?_))
 show wpAny _ _ (Cz (.ref i2) >>= _) _ _ _
 refine Ab (Vj ((h2.extBut hs1.extBut D.i2z).extBut hs2.extBut D.i12.symm) ((hl2.extBut hs1.extBut D.l2z).extBut hs2.extBut D.l2i1) hy λg3 q2 hs3=>Ao (Ao (Ao ?_)))
 show wpAny _ _ (newTuple [x,y] >>= _) _ _ _
 refine Ab (Yb ?_)
 have sz:g3.objs.size=s.heap.objs.size:=by rw[hs3.1,hs2.1,hs1.1]
 have up:∀c o,c≠z->c≠i1->c≠i2->s.heap.get? c=some o->g3.get? c=some o:=λc o c1 c2 c3 e=>hs3.extBut _ _ c3 (hs2.extBut _ _ c2 (hs1.extBut _ _ c1 e))
 have hz3:ZF g3 z TI TO (Hd (a:Int)) (.bool true):=hs3.extBut _ _ D.i2z.symm (hs2.extBut _ _ D.i1z.symm hz1)
 have fin:=hQ (g3.push { cls:=.type "tuple",data:=.seq #[x,y] }) (Af _ hz3) ((q1.extBut hs3.extBut D.i12).at λo e=>Af _ e) (q2.at λo e=>Af _ e) (by rw[<- sz]; exact Bb _ rfl) (by rw[Ka,sz]) (λc o c1 c2 c3 e=>Af _ (up c o c1 c2 c3 e))
 refine Ao ⟨_,rfl,?_⟩
 rw[<- sz] at fin
 exact fin
theorem bY{z TI TO i1 i2 l1 l2 a:Addr}(hh:A.handled=none)(D:Pa z TI TO i1 i2 l1 l2)(hz:ZF s.heap z TI TO (Hd (a:Int)) (.bool fl))(ha:s.heap.get? a=some oa)(hTI:Ew s.heap TI (.ref i1) (.ref i2))(h1:s.heap.IsListIter i1 l1 k1)(h2:s.heap.IsListIter i2 l2 k2)(hl1:s.heap.IsList l1 xs)(hl2:s.heap.IsList l2 ys)(hend:xs[k1]? = none\/ys[k2]? = none)(hE:∀h' e,(∀c o,c≠z->c≠i1->c≠i2->s.heap.get? c=some o->h'.get? c=some o)->(∃o,h'.get? e=some o/\o.cls=.type "StopIteration")->E (.ref e) { s with heap:=h' }):wpAny (model prog w) A (Builtin.«zip.__next__» ⟨[.ref z],[]⟩) Q E s:=by
 unfold Builtin.«zip.__next__»
 refine Ab (Ao (Ab (Gb hz rfl (x:=.bool false) rfl (Ab (Gb hz rfl (x:=.ref TI) rfl (Ab (Fq hTI rfl ?_)))))))
 show wpAny _ _ (Cq (.ref z) >>= _) _ _ _
 refine Ab (Fn (aG (E:=E) hz ha) λbb s1 q0_ => ?_)
 obtain ⟨eb,g1,e1,hz1,hs1⟩ := q0_
 subst eb e1
 simp only[Ca,if_false]
 simp only[<- Ww,Tx,Vd]
 refine Ab (Ab (Ab (Df ?_)))
 show wpAny _ _ (Cz (.ref i1) >>= _) _ _ _
 cases hx:xs[k1]? with
 | none =>
  refine Ab (wpAny_nextOf_list_end hh (h1.extBut hs1.extBut D.i1z) (hl1.extBut hs1.extBut D.l1z) hx λg2 e hs2 he=>?_)
  exact hE g2 e (λc o c1 c2 _ q=>hs2 _ _ c2 (hs1.extBut _ _ c1 q)) he
 | some x =>
  have hy:ys[k2]? = none:=hend.resolve_left λq=>by rw[hx] at q; cases q
  refine Ab (Vj (h1.extBut hs1.extBut D.i1z) (hl1.extBut hs1.extBut D.l1z) hx λg2 q1 hs2=>Ao (Ao ?_))
  refine Ab (Ab (Df ?_))
  show wpAny _ _ (Cz (.ref i2) >>= _) _ _ _
  refine Ab (wpAny_nextOf_list_end hh ((h2.extBut hs1.extBut D.i2z).extBut hs2.extBut D.i12.symm) ((hl2.extBut hs1.extBut D.l2z).extBut hs2.extBut D.l2i1) hy λg3 e hs3 he=>?_)
  exact hE g3 e (λc o c1 c2 c3 q=>hs3 _ _ c3 (hs2.extBut _ _ c2 (hs1.extBut _ _ c1 q))) he
theorem nC{z TI TO i1 i2 l1 l2 a:Addr}(D:Pa z TI TO i1 i2 l1 l2)(hz:ZF s.heap z TI TO (Hd (a:Int)) (.bool fl))(ha:s.heap.get? a=some oa)(hTI:Ew s.heap TI (.ref i1) (.ref i2))(h1:s.heap.IsListIter i1 l1 k1)(h2:s.heap.IsListIter i2 l2 k2)(hl1:s.heap.IsList l1 xs)(hl2:s.heap.IsList l2 ys)(hx:xs[k1]? = some x)(hy:ys[k2]? = some y)(hQ:∀h',ZF h' z TI TO (Hd (a:Int)) (.bool true)->h'.IsListIter i1 l1 (k1+1)->h'.IsListIter i2 l2 (k2+1)->Ew h' s.heap.objs.size x y->h'.objs.size=s.heap.objs.size+1->(∀c o,c≠z->c≠i1->c≠i2->s.heap.get? c=some o->h'.get? c=some o)->Q (some (.ref s.heap.objs.size)) { s with heap:=h' }):wpAny (model prog w) A (Kn (.ref z)) Q E s:=by
 have ty:s.TypeIs (.ref z) "zip" := ⟨_,hz,rfl⟩
 unfold Kn
 refine Ab (Io (Fg (name:=Ei "__next__") ty Vf (Gg Vf ty F.entry_zip_next (tV D hz ha hTI h1 h2 hl1 hl2 hx hy λg' b1 b2 b3 b4 b5 b6=>Ao (hQ g' b1 b2 b3 b4 b5 b6)) (F.args_zip_next_1 _))))
theorem aA{z TI TO i1 i2 l1 l2 a:Addr}(hh:A.handled=none)(D:Pa z TI TO i1 i2 l1 l2)(hz:ZF s.heap z TI TO (Hd (a:Int)) (.bool fl))(ha:s.heap.get? a=some oa)(hTI:Ew s.heap TI (.ref i1) (.ref i2))(h1:s.heap.IsListIter i1 l1 k1)(h2:s.heap.IsListIter i2 l2 k2)(hl1:s.heap.IsList l1 xs)(hl2:s.heap.IsList l2 ys)(hend:xs[k1]? = none\/ys[k2]? = none)(hQ:∀h',(∀c o,c≠z->c≠i1->c≠i2->s.heap.get? c=some o->h'.get? c=some o)->Q none { s with heap:=h' }):wpAny (model prog w) A (Kn (.ref z)) Q E s:=by
 have ty:s.TypeIs (.ref z) "zip" := ⟨_,hz,rfl⟩
 unfold Kn
 refine Ab (Io (Fg (name:=Ei "__next__") ty Vf (Gg Vf ty F.entry_zip_next (bY hh D hz ha hTI h1 h2 hl1 hl2 hend λg' e kp he=>?_) (F.args_zip_next_1 _))))
 obtain ⟨o,ho,hc⟩:=he
 exact Ab (Oe (T := "StopIteration") (b:=true) ⟨o,ho,hc⟩ isSubtype_stop (Ao (hQ _ kp)))
end
end Nd
namespace Nd
open PySem PySem.Spec
theorem hZ:entryFor table "zip.__getattribute__" = some Builtin.«object.__getattribute__» :=
 entryFor_alias (id' := "object.__getattribute__") (by kernel_rfl) (by first | rfl | decide +kernel) (by decide +kernel) (by kernel_rfl)
theorem kD:typeLookup (.type "zip") "keys" = pure none:=by rw[typeLookup_type,builtinLookup_eq_fast]; kernel_rfl
section
variable{prog:Bo}{w:World}{A:Cn}{E:Value->Ai->Prop}{h:Heap}{g:Array GenState}{d:Drawn}{t:Nat}{os:OsState}{a:Addr}{fs:Array Value}
theorem aQ:isSubtype (.type "AttributeError") (.type "AttributeError")=pure true:=by rw[isSubtype_type]; kernel_rfl
theorem lU(args:List Value):Yg (.type "AttributeError") args=pure Ir:=by
 have h:((Manifest.find? "AttributeError").elim false λt=>t.mro.contains "StopIteration" || t.mro.contains "SystemExit")=false:=by decide +kernel
 simp only[Yg,h]
 rfl
theorem nU(hh:A.handled=none)(hm:msg.length<=Av)(hE:∀h' t' e,(∀c o,h.get? c=some o->h'.get? c=some o)->t<=t'->(∃o,h'.get? e=some o/\o.cls=.type "AttributeError")->E (.ref e) ⟨h',g,d,t',os⟩):wpAny (model prog w) A (raiseAttrError v name msg:Sem α) Q E ⟨h,g,d,t,os⟩:=by
 unfold raiseAttrError newExc newTuple
 refine Ab (wpAny_mkStr' ?_ hm)
 refine Ab (Ab (Fs ?_ (by show (1:Nat)<=Av; decide)))
 refine Ab (wpAny_of_eq (lU _) (Fs ?_))
 generalize hh1:h.push { cls:=.type "tuple",data:=.seq [Value.str msg t].toArray }=h1
 have k1:∀c o,h.get? c=some o->h1.get? c=some o:=λc o q=>by rw[<- hh1]; exact Af _ q
 have g0:(h1.push { cls:=.type "AttributeError",data:=.fields #[.ref h.objs.size,.none,.none,.none,.bool false,.none,Jg,Jg] }).get? h1.objs.size=some { cls:=.type "AttributeError",data:=.fields #[.ref h.objs.size,.none,.none,.none,.bool false,.none,Jg,Jg] }:=Bb _ rfl
 show wpAny _ _ _ _ _ ⟨h1.push { cls:=.type "AttributeError",data:=.fields #[.ref h.objs.size,.none,.none,.none,.bool false,.none,Jg,Jg] },g,d,t+1,os⟩
 have k2:∀c o,h1.get? c=some o->(h1.push { cls:=.type "AttributeError",data:=.fields #[.ref h.objs.size,.none,.none,.none,.bool false,.none,Jg,Jg] }).get? c=some o:=λc o q=>Af _ q
 have k3:∀c o,h1.get? c=some o->c≠h1.objs.size:=λc o q=>By (Ba q)
 generalize h1.push { cls:=.type "AttributeError",data:=.fields #[.ref h.objs.size,.none,.none,.none,.bool false,.none,Jg,Jg] }=h2 at g0 k2 ⊢
 refine Ab (wpAny_mkText ?_)
 refine Ab ?_
 unfold noteAttr
 show wpAny _ _ (lacksNameAndObj (.ref h1.objs.size) >>= _) _ _ _
 refine Ab ?_
 unfold lacksNameAndObj
 have ty:(⟨h2,g,d,t+1+1,os⟩ : Ai).TypeIs (.ref h1.objs.size) "AttributeError" := ⟨_,g0,rfl⟩
 refine Ab (Oe ty aQ ?_)
 simp only[Bool.not_true,Ca,if_false]
 refine Ab (wpAny_load g0 ?_)
 show wpAny _ _ (pure true) _ _ _
 refine Ao ?_
 simp only[if_true]
 refine Ab (Oc ?_)
 refine Ab (Vi ty ?_)
 show wpAny _ _ (layMembers h1.objs.size 6 _) _ _ _
 unfold layMembers
 refine Ab (wpAny_load g0 ?_)
 refine wpAny_update g0 ?_
 refine wpAny_raiseNew_none hh (hE _ _ _ (λc o q=>?_) (by show t<=t+1+1; omega) ⟨_,Ji _ g0 rfl,rfl⟩)
 exact Heap.get?_update_of_ne _ (k3 c o (k1 c o q)).symm (k2 c o (k1 c o q))
theorem mD(hh:A.handled=none)(hx:h.get? a=some { cls:=.type "zip",dict:=none,data:=.fields fs,slots:=#[] })(hE:∀h' t' e,(∀c o,h.get? c=some o->h'.get? c=some o)->t<=t'->(∃o,h'.get? e=some o/\o.cls=.type "AttributeError")->E (.ref e) ⟨h',g,d,t',os⟩):wpAny (model prog w) A (Builtin.«object.__getattribute__» ⟨[.ref a,.str "keys" tk],[]⟩) Q E ⟨h,g,d,t,os⟩:=by
 have hT:(⟨h,g,d,t,os⟩ : Ai).TypeIs (.ref a) "zip" := ⟨_,hx,rfl⟩
 have f4:=kD
 repeat (any_goals (first | assumption | wp_step))
 exact nU hh (by decide +kernel) hE
theorem sS(hh:A.handled=none)(hx:h.get? a=some { cls:=.type "zip",dict:=none,data:=.fields fs,slots:=#[] })(hE:∀h' t' e,(∀c o,h.get? c=some o->h'.get? c=some o)->t<=t'->(∃o,h'.get? e=some o/\o.cls=.type "AttributeError")->R (.error (.ref e)) ⟨h',g,d,t',os⟩):Mx (model prog w) A (.call (.builtin "zip.__getattribute__") ⟨[.ref a,.str "keys" tk],[]⟩) R ⟨h,g,d,t,os⟩ :=
 codeAny_call_builtin F.slot_zip_getattribute.plain hZ (F.slot_zip_getattribute.check _ _ _ _ _ _ _ _ (show (⟨h,g,d,t,os⟩ : Ai).TypeIs (.ref a) "zip" from ⟨_,hx,rfl⟩) (F.args_zip_getattribute_2 _ _) (mD hh hx hE))
theorem sQ:typeLookup (.type "zip") "__getattr__" = pure none:=by rw[typeLookup_type,builtinLookup_eq_fast]; kernel_rfl
theorem x8(hh:A.handled=none)(hx:h.get? a=some { cls:=.type "zip",dict:=none,data:=.fields fs,slots:=#[] })(hE:∀h' t' e,(∀c o,h.get? c=some o->h'.get? c=some o)->t<=t'->(∃o,h'.get? e=some o/\o.cls=.type "AttributeError")->E (.ref e) ⟨h',g,d,t',os⟩):wpAny (model prog w) A (getAttrBy (.ref a) (.str "keys" tk) false) Q E ⟨h,g,d,t,os⟩:=by
 have hT:(⟨h,g,d,t,os⟩ : Ai).TypeIs (.ref a) "zip" := ⟨_,hx,rfl⟩
 have f2:=F.slot_zip_getattribute.lookup
 have f3:=F.slot_zip_getattribute.bind (.ref a)
 have f5:=sQ
 repeat (any_goals (first | assumption | wp_step))
 refine sS hh hx λh' t' e kp lt he=>?_
 obtain ⟨o,ho,hc⟩:=he
 have ty:(⟨h',g,d,t',os⟩ : Ai).TypeIs (.ref e) "AttributeError" := ⟨_,ho,hc⟩
 have f6:=aQ
 have fin:=hE h' t' e kp lt ⟨o,ho,hc⟩
 repeat (any_goals (first | assumption | wp_step))
theorem sR(hh:A.handled=none)(hx:h.get? a=some { cls:=.type "zip",dict:=none,data:=.fields fs,slots:=#[] })(hQ:∀h' t',(∀c o,h.get? c=some o->h'.get? c=some o)->t<=t'->Q none ⟨h',g,d,t',os⟩):wpAny (model prog w) A (getAttr? (.ref a) "keys") Q E ⟨h,g,d,t,os⟩:=by
 unfold getAttr? getAttrBy?
 refine Ab (wpAny_mkText (Ab (Io (x8 hh hx λh' t' e kp lt he=>?_))))
 obtain ⟨o,ho,hc⟩:=he
 exact Ab (Oe (T := "AttributeError") (b:=true) ⟨o,ho,hc⟩ aQ (Ao (hQ _ _ kp (Nat.le_of_succ_le lt))))
end
end Nd
namespace Nd
open PySem PySem.Spec PyProof.Rows L2
theorem Sa:entryFor table "dict.update.loop" = some Builtin.«dict.update.loop»:=entryFor_of_tree (by kernel_rfl)
theorem Ku:plainId "dict.update.loop" = true:=by decide +kernel
def V3(h:Heap)(z TI TO i1 i2 l1 l2:Addr)(k:Nat):Prop:=Ew h TI (.ref i1) (.ref i2)/\h.IsListIter i1 l1 k/\h.IsListIter i2 l2 k /\
 ((IsZip h z TI TO .none/\∃u v,Ew h TO u v)\/∃(a:Addr) (oa:Obj) (fl:Bool),ZF h z TI TO (Hd (Int.ofNat a)) (.bool fl)/\h.get? a=some oa)
theorem V3.keep{z TI TO i1 i2 l1 l2 D:Addr}(st:V3 h z TI TO i1 i2 l1 l2 k)(hs:∀c,c≠D->h'.get? c=h.get? c)(hD:∃o,h'.get? D=some o)(n:∀c∈[z,TI,TO,i1,i2],c≠D):V3 h' z TI TO i1 i2 l1 l2 k:=by
 obtain ⟨a,b,c,d⟩:=st
 have n1:=n z (by simp)
 have n2:=n TI (by simp)
 have n3:=n TO (by simp)
 have n4:=n i1 (by simp)
 have n5:=n i2 (by simp)
 refine ⟨(hs TI n2).trans a,b.at λo q=>(hs i1 n4).trans q,c.at λo q=>(hs i2 n5).trans q,?_⟩
 rcases d with ⟨d,u,v,e⟩ | ⟨a,oa,fl,d,e⟩
 ·exact .inl ⟨(hs z n1).trans d,u,v,(hs TO n3).trans e⟩
 ·refine .inr ?_
  by_cases q:a=D
  ·obtain ⟨o,ho⟩:=hD
   exact ⟨a,o,fl,(hs z n1).trans d,by rw[q]; exact ho⟩
  ·exact ⟨a,oa,fl,(hs z n1).trans d,(hs a q).trans e⟩
section
variable{prog:Bo}{w:World}{A:Cn}{E:Value->Ai->Prop}{s:Ai}{z TI TO i1 i2 l1 l2:Addr}{k:Nat}{xs ys:Array Value}{x y:Value}{Q:Option Value->Ai->Prop}
theorem uH(D:Pa z TI TO i1 i2 l1 l2)(st:V3 s.heap z TI TO i1 i2 l1 l2 k)(hl1:s.heap.IsList l1 xs)(hl2:s.heap.IsList l2 ys)(hx:xs[k]? = some x)(hy:ys[k]? = some y)(hQ:∀h',V3 h' z TI TO i1 i2 l1 l2 (k+1)->Ew h' s.heap.objs.size x y->(∀c o,c∉[z,TI,TO,i1,i2]->s.heap.get? c=some o->h'.get? c=some o)->Q (some (.ref s.heap.objs.size)) { s with heap:=h' }):wpAny (model prog w) A (Kn (.ref z)) Q E s:=by
 obtain ⟨a,b,c,d⟩:=st
 rcases d with ⟨d,u,v,e⟩ | ⟨a',oa,fl,d,e⟩
 ·refine wpAny_pyNext_zip_item D d a e b c hl1 hl2 hx hy λh' q1 q2 q3 q4 q5 q6 q7=>hQ h' ⟨q7 TI _ D.TIz D.TITO D.TIi1 D.TIi2 a,q3,q4,.inr ⟨_,_,false,q1,q5⟩⟩ q5 λc o hc q=>?_
  simp only[Aj,Ax,or_false,not_or] at hc
  exact q7 c o hc.1 hc.2.2.1 hc.2.2.2.1 hc.2.2.2.2 q
 ·refine nC D d e a b c hl1 hl2 hx hy λh' q1 q2 q3 q4 q5 q6=>?_
  have up:∀c o,c∉[z,TI,TO,i1,i2]->s.heap.get? c=some o->h'.get? c=some o:=λc o hc q=>by
   simp only[Aj,Ax,or_false,not_or] at hc
   exact q6 c o hc.1 hc.2.2.2.1 hc.2.2.2.2 q
  refine hQ h' ⟨q6 TI _ D.TIz D.TIi1 D.TIi2 a,q2,q3,.inr ?_⟩ q4 up
  by_cases g1:a'=z
  ·subst g1
   exact ⟨a',_,true,q1,q1⟩
  by_cases g2:a'=i1
  ·subst g2
   obtain ⟨o,q,_⟩:=q2
   exact ⟨a',o,true,q1,q⟩
  by_cases g3:a'=i2
  ·subst g3
   obtain ⟨o,q,_⟩:=q3
   exact ⟨a',o,true,q1,q⟩
  exact ⟨a',oa,true,q1,q6 a' _ g1 g2 g3 e⟩
theorem E1(hh:A.handled=none)(D:Pa z TI TO i1 i2 l1 l2)(st:V3 s.heap z TI TO i1 i2 l1 l2 k)(hl1:s.heap.IsList l1 xs)(hl2:s.heap.IsList l2 ys)(he:xs[k]? = none\/ys[k]? = none)(hQ:∀h',(∀c o,c∉[z,TI,TO,i1,i2]->s.heap.get? c=some o->h'.get? c=some o)->Q none { s with heap:=h' }):wpAny (model prog w) A (Kn (.ref z)) Q E s:=by
 obtain ⟨a,b,c,d⟩:=st
 rcases d with ⟨d,u,v,e⟩ | ⟨a',oa,fl,d,e⟩
 ·refine wpAny_pyNext_zip_end hh D d a e b c hl1 hl2 he λh' q7=>hQ h' λc o hc q=>?_
  simp only[Aj,Ax,or_false,not_or] at hc
  exact q7 c o hc.1 hc.2.2.1 hc.2.2.2.1 hc.2.2.2.2 q
 ·refine aA hh D d e a b c hl1 hl2 he λh' q6=>hQ h' λc o hc q=>?_
  simp only[Aj,Ax,or_false,not_or] at hc
  exact q6 c o hc.1 hc.2.2.2.1 hc.2.2.2.2 q
end
section
variable{X:Cx}{pins:List (Addr×Obj)}{σ:L2.St}{H:Hp}{s:Ai}{a b:Addr}{v:V}{r:Value}{A:Cn}{E:Value->Ai->Prop}{kvs:List (List Hr×V)}{k:List Hr}
theorem nB(hu:A.units+1<cLine)(I:Inv X pins σ H s)(e:H a=some (.dT kvs))(eb:H b=some (.tup (k.map kV)))(l:kvs.length<Av)(rv:RelV v r)(h:∀s',Inv X pins σ (upd H a (.dT (Mp kvs k v))) s'->(∀c,c≠a->s'.heap.get? c=s.heap.get? c)->(∃o,s'.heap.get? a=some o)->Q () s'):wpAny (model X.prog X.w) A (dictSet a (.ref b) r) Q E s:=by
 obtain ⟨z,hd,xs,rel,dd⟩:=zB I.hok (.inl e)
 have hz:xs.length<=Av:=by rw[<- Paired.length rel]; exact z
 have hl:(Mp kvs k v).length<=Av:=by have:=Rq kvs k v; omega
 refine iV (hz:=hz) (show (Qt _).room A from Nat.lt_of_succ_lt hu) (Xk I.hok eb) dd λh' dd' hs=>?_
 obtain ⟨q,es,ep,hq,h2,h3,h4,_,h5⟩:=dd'
 exact h _ (gE I (by rw[e]; exact Jz) hs ⟨q,hq⟩ ⟨hl,hd,_,(rel.put k eb rv).keeps λc ys ec=>(Cj (qT ec e (λz=>nomatch z))).trans ec,q,es,ep,hq,h2,h3,h4,h5⟩) (λc hc=>hs.2 c hc) ⟨q,hq⟩
theorem xT{z TI TO i1 i2 l1 l2 D:Addr}(hh:A.handled=none)(hu:A.units+2<cLine)(Z:Pa z TI TO i1 i2 l1 l2)(W:Nat->Hp->Prop)(hW:∀i H x y,xs[i]? = some x->ys[i]? = some y->W i H->Kb X.K H l1 xs/\Kb X.K H l2 ys/\∃kvs k p,H D=some (.dT kvs)/\x=.ref p/\H p=some (.tup (k.map kV))/\kvs.length<Av/\W (i+1) (upd H D (.dT (Mp kvs k y))))(hE:∀H,W (min xs.length ys.length) H->Kb X.K H l1 xs/\Kb X.K H l2 ys)(hR:∀H s',W (min xs.length ys.length) H->Inv X pins σ H s'->R (.ok (.ret .none)) s'):∀n i s H,n=min xs.length ys.length - i->i<=min xs.length ys.length->Inv X pins σ H s->V3 s.heap z TI TO i1 i2 l1 l2 i->(∀c∈[z,TI,TO,i1,i2],Ky X pins H c)->W i H->Mx (model X.prog X.w) A (.builtin "dict.update.loop" ⟨[.ref D,.ref z,Hd (i:Int),.none],[]⟩) R s:=by
 intro n
 induction n with
 | zero =>
  intro i s H hn hi I st hf w0
  have e:i=min xs.length ys.length:=by omega
  subst e
  obtain ⟨q1,q2⟩:=hE H w0
  obtain ⟨its1,rv1,p1,_⟩:=I.list q1
  obtain ⟨its2,rv2,p2,_⟩:=I.list q2
  have hl1:=rv1.length
  have hl2:=rv2.length
  refine Wr Sa ?_
  rw[Ms Ku _]
  unfold Builtin.«dict.update.loop»
  refine Ab (E1 (A:=A.in1) hh Z st p1.isList p2.isList ?_ λh' kp=>?_)
  ·by_cases q:xs.length<=min xs.length ys.length
   ·exact .inl (by simp; omega)
   ·exact .inr (by simp; omega)
  have I':=Kh (t':=s.toks) I kp hf
  show wpAny _ _ (Builtin.Dict.addKeywords D [] >>= _) _ _ _
  exact Ab (Ao (Ao (hR _ _ w0 I')))
 | succ n ih =>
  intro i s H hn hi I st hf w0
  have l1:i<xs.length:=by omega
  have l2:i<ys.length:=by omega
  obtain ⟨q1,q2,kvs,k,p,hD,ex,hp,hz,w1⟩:=hW i H _ _ (Ap l1) (Ap l2) w0
  obtain ⟨its1,rv1,p1,_⟩:=I.list q1
  obtain ⟨its2,rv2,p2,_⟩:=I.list q2
  obtain ⟨u1,hu1,ru1⟩:=rv1.get (Ap l1)
  obtain ⟨u2,hu2,ru2⟩:=rv2.get (Ap l2)
  rw[ex] at ru1
  cases (show u1=Bc p from ru1)
  refine Wr Sa ?_
  rw[Ms Ku _]
  unfold Builtin.«dict.update.loop»
  refine Ab (uH (A:=A.in1) Z st p1.isList p2.isList (x:=.ref p) (y:=u2) (by simpa using hu1) (by simpa using hu2) λh' st' hpr kp=>?_)
  have I':=Kh (t':=s.toks) I kp hf
  have nD:∀c∈[z,TI,TO,i1,i2],c≠D:=λc hc e=>by
   have:=(hf c hc).1
   rw[e,hD] at this
   cases this
  refine Ab (Df ?_)
  refine Ab (Qx ?_)
  unfold Builtin.Dict.pairItems
  have ty:({ s with heap:=h' }:Ai).TypeIs (.ref s.heap.objs.size) "tuple" := ⟨_,hpr,rfl⟩
  refine Ab (Vi ty ?_)
  rw[if_pos (by decide)]
  refine Ab (Fq hpr rfl (Ao ?_))
  show wpAny _ _ (So [.ref p,u2] (dictSet D (.ref p) u2)) _ _ _
  refine Df (nB (A:=A.in1) hu I' hD hp hz ru2 λs2 I2 k2 o2=>?_)
  refine Ao ⟨Ol Ku _,?_⟩
  have g:=ih (i+1) s2 _ (by omega) (by omega) I2 (st'.keep k2 o2 nD) (λc hc=>⟨by rw[Cj (nD c hc)]; exact (hf c hc).1,(hf c hc).2⟩) w1
  rw[show ((i+1:Nat):Int)=(i:Int)+1 by omega] at g
  exact g
theorem jE{z TI TO i1 i2 l1 l2:Addr}(hh:A.handled=none)(hu:A.units+8<cLine)(Z:Pa z TI TO i1 i2 l1 l2)(I:Inv X pins σ H1 s)(hz:IsZip s.heap z TI TO .none)(hTI:Ew s.heap TI (.ref i1) (.ref i2))(hTO:∃u v,Ew s.heap TO u v)(h1:s.heap.IsListIter i1 l1 0)(h2:s.heap.IsListIter i2 l2 0)(hf:∀c∈[z,TI,TO,i1,i2],Ky X pins H1 c)(hq:∀D,H1 D=none->∃W:Nat->Hp->Prop,W 0 (upd H1 D (.dT []))/\(∀i H x y,xs[i]? = some x->ys[i]? = some y->W i H->Kb X.K H l1 xs/\Kb X.K H l2 ys/\∃kvs k p,H D=some (.dT kvs)/\x=.ref p/\H p=some (.tup (k.map kV))/\kvs.length<Av/\W (i+1) (upd H D (.dT (Mp kvs k y))))/\∀H,W (min xs.length ys.length) H->Kb X.K H l1 xs/\Kb X.K H l2 ys/\∀s',Inv X pins σ H s'->Q (.ref D) s'):wpAny (model X.prog X.w) A (call (.type "dict") [.ref z]) Q E s:=by
 refine callType_codes (Q₁:=λobj s₁=>obj=.ref s.heap.objs.size/\s₁={ s with heap:=s.heap.push { cls:=.type "dict",data:=.dict #[] } }) F.kt_called_dict (F.kt_typeCall_dict_1 _) F.entry_dict_init (kt_code_dict_new _ ⟨rfl,rfl⟩) ?_
 rintro obj s₁ ⟨rfl,rfl⟩
 have fD:H1 s.heap.objs.size=none:=I.hok.fresh (Ak _)
 obtain ⟨W,w0,hW,hE⟩:=hq s.heap.objs.size fD
 have j5:({ s with heap:=s.heap.push { cls:=.type "dict",data:=.dict #[] } }:Ai).TypeIs (.ref s.heap.objs.size) "dict" := ⟨_,Bb _ rfl,rfl⟩
 have I3:Inv X pins σ (upd H1 s.heap.objs.size (.dT [])) { s with heap:=s.heap.push { cls:=.type "dict",data:=.dict #[] } } :=
  I.laid (t':=s.toks) (λb u q=>Af _ q) (Ak _) (jK s.heap I.big)
 have z3:IsZip (s.heap.push { cls:=.type "dict",data:=.dict #[] }) z TI TO .none:=Af _ hz
 have tyz:({ s with heap:=s.heap.push { cls:=.type "dict",data:=.dict #[] } }:Ai).TypeIs (.ref z) "zip" := ⟨_,z3,rfl⟩
 refine ⟨j5,F.args_dict_init_2 _ _,?_⟩
 unfold Builtin.«dict.__init__»
 refine Ab ?_
 unfold Builtin.Dict.selfAndRest
 refine Ab (Wv j5 ?_)
 show wpAny _ _ (pure (s.heap.objs.size,[Bc z])) _ _ _
 refine Ao ?_
 show wpAny _ _ (Zn "dict.__init__" s.heap.objs.size (.ref z) [] .none) _ _ _
 unfold Zn
 refine Ab (Vi tyz ?_)
 rw[if_pos (by decide)]
 refine Ab (sR (A:=A.in1.in1) hh z3 λh4 t4 kp4 _=>?_)
 simp only[Option.isNone_none,if_true]
 refine Ab (Oc ?_)
 have z4:IsZip h4 z TI TO .none:=kp4 _ _ z3
 refine Ab (Od z4 ?_)
 have I4:=I3.kept (h':=h4) (t':=t4) kp4
 have up:∀c o,s.heap.get? c=some o->h4.get? c=some o:=λc o q=>kp4 c o (Af _ q)
 obtain ⟨u,v,hTO⟩:=hTO
 have st4:V3 h4 z TI TO i1 i2 l1 l2 0:=⟨up _ _ hTI,h1.at λo q=>up _ _ q,h2.at λo q=>up _ _ q,.inl ⟨z4,u,v,up _ _ hTO⟩⟩
 have nz:∀c∈[z,TI,TO,i1,i2],c≠s.heap.objs.size:=λc hc=>by
  obtain ⟨o1,e1,_⟩:=h1
  obtain ⟨o2,e2,_⟩:=h2
  simp only[Aj,Ax,or_false] at hc
  rcases hc with rfl | rfl | rfl | rfl | rfl
  ·exact By (Ba hz)
  ·exact By (Ba hTI)
  ·exact By (Ba hTO)
  ·exact By (Ba e1)
  ·exact By (Ba e2)
 refine Ao ⟨Ol Ku _,?_⟩
 exact xT (A:=A.in1) hh (He (Mc (show A.in1.units+2<A.units+8 from by show A.units+1+2<A.units+8; omega)) hu) Z W hW (λH w=>⟨(hE H w).1,(hE H w).2.1⟩) (λH s' w I'=>⟨rfl,(hE H w).2.2 s' I'⟩) _ 0 _ _ rfl (Cr _) I4 st4 (λc hc=>⟨by rw[Cj (nz c hc)]; exact (hf c hc).1,(hf c hc).2⟩) w0
end
section
variable{X:Cx}
def vM(K:PySem.W.Frag)(ta:TA):TE:=λσ H Q=>ta σ H λvs H1=>∃l1 l2 xs ys,vs=[.ref l1,.ref l2]/\Kb K H1 l1 xs/\Kb K H1 l2 ys/\∀D,H1 D=none->∃W:Nat->Hp->Prop,W 0 (upd H1 D (.dT [])) /\
   (∀i H x y,xs[i]? = some x->ys[i]? = some y->W i H->Kb K H l1 xs/\Kb K H l2 ys/\∃kvs k p,H D=some (.dT kvs)/\x=.ref p/\H p=some (.tup (k.map kV))/\kvs.length<Av/\W (i+1) (upd H D (.dT (Mp kvs k y)))) /\
   ∀H,W (min xs.length ys.length) H->Kb K H l1 xs/\Kb K H l2 ys/\Q (.ref D) H
theorem wG{p p2 pos pos2:Pos}(hgd:Gl X "dict")(hmd:X.mg "dict" = none)(hg:Gl X "zip")(hm:X.mg "zip" = none)(hc:X.calm=true)(hu:X.A.units+64<cLine)(ha:PA X [a,b] ta)(hs:Bm [a,b] X.env=(false,eval a X.env)::Bm [b] X.env:=by rfl)(hp:(Gd pos (Bm [b] X.env)).any (·.1)=false:=by rfl):PE X (.Call (.Name "dict" p2) [.Call (.Name "zip" p) [a,b] [] pos] [] pos2) (vM X.K ta):=by
 intro pins s σ H R I h
 refine Call_ (Mq I hgd hmd (u:=.type "dict") (by decide +kernel) (Eb ?_ rfl rfl))
 show wpAny _ _ (spliced ((false,eval (.Call (.Name "zip" p) [a,b] [] pos) X.env)::Gd pos2 (Bm [] X.env))) _ _ s
 refine Ha ?_
 refine Call_ (Mq I hg hm (u:=.type "zip") (by decide +kernel) (Eb (Fn (ha pos pins s σ H _ I h) λus s1 ⟨vs,H1,I1,r1,q1⟩=>?_) hs hp))
 obtain ⟨l1,l2,xs,ys,e,hq1,hq2,q⟩:=q1
 subst e
 obtain ⟨u1,u2,rfl,ru1,ru2⟩:=vals2 r1
 cases ru1
 cases ru2
 obtain ⟨its1,rv1,pl1,hz1⟩:=I1.list hq1
 obtain ⟨its2,rv2,pl2,hz2⟩:=I1.list hq2
 have hlt1:l1<s1.heap.objs.size:=let ⟨o,q,_⟩:=pl1.isList; Ba q
 have hlt2:l2<s1.heap.objs.size:=let ⟨o,q,_⟩:=pl2.isList; Ba q
 refine call_zip_2 pl1.isList pl2.isList λh2 hz hTI hTO hi1 hi2 hsz hk=>?_
 have fr1:∀n,Ky X pins H1 (s1.heap.objs.size+n):=λn=>I1.fpOk (Gz _ _) (I1.hok.fresh (Gz _ _))
 have fr:∀c∈[s1.heap.objs.size+4,s1.heap.objs.size+2,s1.heap.objs.size+3,s1.heap.objs.size,s1.heap.objs.size+1],Ky X pins H1 c:=λc hc=>by
  simp only[Aj,Ax,or_false] at hc
  rcases hc with rfl | rfl | rfl | rfl | rfl
  ·exact fr1 4
  ·exact fr1 2
  ·exact fr1 3
  ·exact fr1 0
  ·exact fr1 1
 refine Lr ?_
 refine jE (xs:=xs) (ys:=ys) (I.ok.hd hc) (by omega) (dS _ _ _ hlt1 hlt2) (I1.kept (t':=s1.toks) hk) hz hTI ⟨_,_,hTO⟩ hi1 hi2 fr λD hD=>?_
 obtain ⟨W,w0,hW,hE⟩:=q D hD
 exact ⟨W,w0,hW,λH w=>⟨(hE H w).1,(hE H w).2.1,λs' I'=>⟨.ref D,H,I',rfl,(hE H w).2.2⟩⟩⟩
end
end Nd
namespace DL
open PySem PySem.Spec PyProof.Rows L2 Nd
def Qw(acc:List (List Int×Ad))(l:List (List Int×Ad)):List (List Int×Ad):=l.foldl (λa p=>Ry a p.1 p.2) acc
def fX(xs:List DV)(δ:DS)(P:DV->DS->Prop):Prop:=match xs with
 | [.dat _ (.list ds),.dat _ (.list es)]=>ds.length<=1000000/\Ed es=true/\∃ws:List (List Int),ds=ws.map Bv/\P (.dat .ow (.dict (Qr (Qw [] (ws.zip es))))) δ
 | _=>False
def oX(da:DA):DE:=λδ P=>da δ λxs δ'=>fX xs δ' P
theorem dG:∀(l:List (List Int×Ad)) (acc:List (List Int×Ad)),(Qw acc l).length<=acc.length+l.length
 | [],acc=>Ak _
 | p::l,acc=>by
  have h1:=dG l (Ry acc p.1 p.2)
  have h2:=yO acc p.1 p.2
  show (Qw (Ry acc p.1 p.2) l).length<=_
  rw[Bp]
  omega
theorem oR{ws:List (List Int)}(h1:ws[i]? = some w)(h2:es[i]? = some e):Qw [] ((ws.zip es).take (i+1))=Ry (Qw [] ((ws.zip es).take i)) w e:=by
 have hz:(ws.zip es)[i]? = some (w,e):=by
  rw[List.getElem?_zip_eq_some]
  exact ⟨h1,h2⟩
 rw[Jl,hz]
 unfold Qw
 rw[List.foldl_append]
 rfl
section
variable{X:Cx}{a b:Expr}{da:DA}{p p2 pos pos2:Pos}
theorem zP{K:PySem.W.Frag}:∀σ H Q,LE K (oX da) σ H Q->vM K (LA K da) σ H Q:=by
 intro σ H Q h
 obtain ⟨H0,Y,S,T,δ,P,rfl,hS,hA,hd,k⟩:=h
 refine ⟨H0,Y,S,T,δ,_,rfl,hS,hA,hd,λxs δ' As us S' H' e1 e2 ex eu hA' p=>?_⟩
 unfold fX at p
 split at p
 ·rename_i m ds m' es
  obtain ⟨hl,im,ws,rfl,pk⟩:=p
  obtain ⟨v,F,w,G,rfl,hA2⟩:=Wo eu hA' ex
  obtain ⟨a,xs,G1,rfl,ha,ra,rfl,hz⟩:=(hA2.told mem_mid).list_inv
  obtain ⟨b,ys,G2,rfl,hb,rb,rfl,hz2⟩:=(hA2.told Ek).list_inv
  refine ⟨a,b,xs,ys,rfl,Kb.of ha,Kb.of hb,λD hD=>?_⟩
  have hz3:=lG (n:=1000000) (Ak _)
  have nDa:a≠D:=λz=>by rw[z,hD] at ha; cases ha
  have nDb:b≠D:=λz=>by rw[z,hD] at hb; cases hb
  have l1:ws.length=xs.length:=by have:=ra.len; rw[Ac] at this; exact this.symm
  have l2:=rb.len
  refine ⟨λi H=>H a=some (.lst xs)/\H b=some (.lst ys)/\At K H0 Y δ'.n (⟨some (.ref D),.dT (xG (Qw [] ((ws.zip es).take i))),[D]⟩::(S'++(⟨some (.ref a),.dat m (.list (ws.map Bv)),a::G1⟩::⟨some (.ref b),.dat m' (.list es),b::G2⟩::T))) H,⟨?_,?_,?_⟩,?_,?_⟩
  ·rw[Cj nDa]; exact ha
  ·rw[Cj nDb]; exact hb
  ·exact hA2.dNew hD
  ·(intro i H x y hx hy q_; obtain ⟨h1,h2,hA3⟩ := q_)
   have li:=(Ah.mp hx).1
   have li2:=(Ah.mp hy).1
   obtain ⟨a2,xs2,F2,ea,ha2,ra2,_,_⟩:=(hA3.told (Ae _ mem_mid)).list_inv
   cases ea
   rw[h1] at ha2
   cases ha2
   obtain ⟨b2,ys2,F3,eb,hb2,rb2,_,_⟩:=(hA3.told (Ae _ Ek)).list_inv
   cases eb
   rw[h2] at hb2
   cases hb2
   have e1:ws[i]? = some (ws[i]'(by omega)):=Ap _
   have e2:es[i]? = some (es[i]'(by omega)):=Ap _
   obtain ⟨x',Fx,g1,g2,_⟩:=ra2.get (by rw[Az,e1]; rfl)
   rw[hx] at g1
   cases g1
   obtain ⟨p,rfl,hp⟩:=Vw g2
   obtain ⟨y',Fy,g3,g4,_⟩:=rb2.get e2
   rw[hy] at g3
   cases g3
   obtain rfl:=g4.imm (mI.mp im _ (Au e2))
   obtain ⟨kv,q1,q2,q3⟩:=hA3.dPut (w:=ws[i]'(by omega)) g4
   refine ⟨Kb.of h1,Kb.of h2,kv,Kd _,p,q1,rfl,hp,?_,?_,?_,?_⟩
   ·have:=dG ((ws.zip es).take i) []
    rw[Cv] at this
    rw[Ac] at hl
    rw[q2]
    show _<Av
    have h0:([]:List (List Int×Ad)).length=0:=rfl
    omega
   ·rw[Cj nDa]; exact h1
   ·rw[Cj nDb]; exact h2
   ·rw[oR e1 e2]
    exact q3
  ·(intro H q_; obtain ⟨h1,h2,hA3⟩ := q_)
   refine ⟨Kb.of h1,Kb.of h2,k _ δ' _ [D] S' H e1 e2 ?_ pk⟩
   have et:(ws.zip es).take (min xs.length ys.length)=ws.zip es:=Em (by rw[Kr]; omega)
   rw[et] at hA3
   have hA4:=hA3.dGot
   exact (hA4.sub (((Ec S').append ((Ec T).cons _ |>.cons _)).cons₂ _)).tomid
 ·exact p.elim
theorem uO(hu:X.A.units+64<cLine)(hgd:Gl X "dict")(hmd:X.mg "dict" = none)(hg:Gl X "zip")(hm:X.mg "zip" = none)(hc:X.calm=true)(ha:oW X [a,b] da)(hs:Bm [a,b] X.env=(false,eval a X.env)::Bm [b] X.env:=by rfl)(hp:(Gd pos (Bm [b] X.env)).any (·.1)=false:=by rfl):Eu X (.Call (.Name "dict" p2) [.Call (.Name "zip" p) [a,b] [] pos] [] pos2) (oX da):=PE.imp (wG hgd hmd hg hm hc hu ha hs hp) zP
end
end DL
namespace Nd
open PySem PySem.Spec PyProof.Rows L2
end Nd
namespace DL
open PySem PySem.Spec PyProof.Rows L2 Nd
end DL
namespace Nd
open PySem PySem.Spec PyProof.Rows L2
end Nd
namespace DL
open PySem PySem.Spec PyProof.Rows L2 Nd
end DL
namespace Ts
open PySem PyProof.Rows L2
def Gh(h h':Heap):Prop:=∀b o,h.get? b=some o->h'.get? b=some o
theorem Gh.refl(h:Heap):Gh h h:=λ_ _ e=>e
theorem Gh.trans(x:Gh a b)(y:Gh b c):Gh a c:=λi o e=>y i o (x i o e)
def Z1(x y:Keyed):Bool:=decide (numOf x.1<numOf y.1)
section
variable{prog:Bo}{w:World}{A:Cn}{E:Value->Ai->Prop}{s:Ai}
theorem uZ:Cmp prog w A s Uh (λx=>∃n t,x.1=.int n t) Z1 where
 run:=λx y Q E ⟨n,t,ex⟩ ⟨n',t',ey⟩ h=>by
  obtain ⟨x1,x2⟩:=x
  obtain ⟨y1,y2⟩:=y
  simp only at ex ey
  subst ex ey
  rw[keyLt'_oneType]
  exact j7 h
 irr:=λx=>by simp [Z1]
 tr:=λx y z h1 h2=>by simp only[Z1,decide_eq_true_eq] at *; omega
 neg:=λx y z h=>by simp only[Z1,decide_eq_true_eq] at *; omega
variable{a kS:Addr}{vs:List Value}{kz:List Int}{P:PySem.Fin->Ai->Prop}
structure Fresh2(h0:Heap)(h:Heap)(a kS:Addr)(keys:Array Value)(e1:Nat):Prop where
 keep:Gh h0 h
 na:h0.get? a=none
 nk:h0.get? kS=none
 ne:kS≠a
 ga:h.get? a=some (Cw "list" #[] e1)
 gk:∃e,h.get? kS=some (Cw "list" keys e)
theorem Nm(k:Gh h0 h)(n:h0.get? b=none):Gh h0 (h.update b f):=λi o e =>
 ((Cf h b f).2 i (λz=>by rw[z,n] at e; cases e)).trans (k i o e)
theorem M4{st:Bt}(F:Fresh2 h0 s.heap a kS keys e1)(hk:Ey keys.toList kz)(hlen:kz.length=vs.length)(hz:vs.length<Av)(hp:(arrOf st).Perm (keys.zip vs.toArray))(hs:SortedTo (arrOf st) (arrOf st).size)(hf:Ko st=none)(h:∀h' tk out c,Gh h0 h'->h'.get? a=some (Cw "list" out c)->KskOut false kz vs out.toList->P (.done (.ret .none)) { s with heap:=h',toks:=tk }):wpAny (model prog w) A (ksk_tail a false e1 (.ref kS) st) P E s:=by
 obtain ⟨ek,gk⟩:=F.gk
 have l1:=hk.length
 rw[Bd] at l1
 have vz:vs.toArray.size=vs.length:=Aq
 have l2:(arrOf st).size=vs.length:=by rw[hp.size_eq,Array.size_zip,vz]; omega
 have ga:(s.heap.update kS (Cg λ_=>(#[]:Array Value))).get? a=some (Cw "list" #[] e1):=((Cf s.heap kS _).2 a F.ne.symm).trans F.ga
 have out:=ksk_out (b:=false) hk hp hs
 rw[if_neg Bq] at out
 obtain ⟨c2,g2⟩ : ∃c2,((s.heap.update kS (Cg λ_=>(#[]:Array Value))).update a (Cg λ_=>(arrOf st).map (·.2))).get? a=some (Cw "list" ((arrOf st).map (·.2)) c2):=⟨_,Ju ga λ_=>(arrOf st).map (·.2)⟩
 unfold ksk_tail
 dsimp only
 refine Ab (Lo gk rfl ?_ (by omega) (Cr _))
 refine Ab (Mj (Ab (Yd ga rfl (Ab (Lo ga rfl ?_ (Cr _) ?_)))))
 ·rw[hf]
  simp only[bne_self_eq_false,Ca,if_false]
  exact Ao (h _ _ _ c2 (Nm (Nm F.keep F.nk) F.na) g2 out)
 ·simp only[Ca,if_false,Array.size_map]
  omega
theorem EY(F:Fresh2 h0 s.heap a kS keys e1)(hk:Ey keys.toList kz)(hlen:kz.length=vs.length)(hz:vs.length<Av)(h:∀h' tk out c,Gh h0 h'->h'.get? a=some (Cw "list" out c)->KskOut false kz vs out.toList->P (.done (.ret .none)) { s with heap:=h',toks:=tk }):wpAny (model prog w) A (ksk_end a false vs.toArray e1 (.ref kS) keys) P E s:=by
 have l1:=hk.length
 rw[Bd] at l1
 have vz:vs.toArray.size=vs.length:=Aq
 have l2:(keys.zip vs.toArray).size=vs.length:=by rw[Array.size_zip,vz]; omega
 unfold ksk_end
 dsimp only
 rw[if_neg Bq]
 by_cases h2:vs.toArray.size<2
 ·rw[if_pos h2,if_pos h2]
  refine Ab (Ao ?_)
  rw[StateT.run_pure]
  refine Ab (Ao ?_)
  refine M4 F hk hlen hz (Array.Perm.refl _) (λi j hij hj=>?_) rfl h
  have hj':j<(keys.zip vs.toArray).size:=hj
  rw[l2] at hj'
  rw[Aq] at h2
  obtain rfl:i=j:=by omega
  exact Int.le_refl _
 ·rw[if_neg h2,if_neg h2]
  rw[Aq] at h2
  rw[ksk_kind hk (by omega)]
  refine Ab (Ao ?_)
  refine Ab (Eo (dD uZ (a₀:=keys.zip vs.toArray) (st:=Wt Uh (keys.zip vs.toArray) #[] 7 none) (E:=E)
   (Q:=λ_ st'=>Good0 Uh (keys.zip vs.toArray) st'/\Rg Z1 (arrOf st') 0 (keys.zip vs.toArray).size) ⟨rfl,rfl,Array.Perm.refl _⟩ (ksk_intKeys hk) rfl (by omega) λst' g as=>⟨g,as⟩) ?_ λ_ _ z=>z)
  (rintro ⟨⟨⟩,st'⟩ s' q_; obtain ⟨rfl,g,as⟩ := q_)
  refine M4 F hk hlen hz g.perm (λi j hij hj=>?_) g.fail h
  rw[g.size] at hj
  have q:=as i j (Cr _) hij hj
  unfold le Z1 at q
  have xi:∀k,k<(arrOf st').size->K (arrOf st') k=numOf (X (arrOf st') k).1:=λk hk=>by
   rw[K_eq hk]
   have e1:=Xi (xs:=arrOf st') (i:=k) hk
   rw[iE hk] at e1
   rw[Bl e1]
  have gs:(arrOf st').size=_:=g.size
  have hj0:j<(arrOf st').size:=by rw[gs]; exact hj
  refine Eq.symm (xi i (by omega))▸Eq.symm (xi j hj0)▸?_
  simp only[decide_eq_false_iff_not] at q
  omega
theorem CI(F:Fresh2 h0 s.heap a kS #[] e1)(hlen:kz.length=vs.length)(hz:vs.length<Av)(turn:∀(i:Nat) (v:Value) (k:Int),vs[i]? = some v->kz[i]? = some k->∀(h:Heap) (tk:Nat),Gh h0 h->∀R:Value->Ai->Prop,(∀t h2 tk2,Gh h h2->R (.int k t) { s with heap:=h2,toks:=tk2 })->wpAny (model prog w) A (call f [v]) R (λ_ _=>False) { s with heap:=h,toks:=tk })(h:∀h' tk out c,Gh h0 h'->h'.get? a=some (Cw "list" out c)->KskOut false kz vs out.toList->P (.done (.ret .none)) { s with heap:=h',toks:=tk }):wpAny (model prog w) A (ksk_rest a f false vs.toArray e1 (.ref kS)) P E s:=by
 unfold ksk_rest
 refine Ab (Oc ?_)
 rw[<- Ww]
 simp only[List.toList_toArray]
 refine Ab (ksk_fold (λi s'=>∃h' tk kA,s'={ s with heap:=h',toks:=tk }/\Fresh2 h0 h' a kS kA e1/\Ey kA.toList (kz.take i)) vs 0 s ⟨s.heap,s.toks,#[],rfl,F,by simpa using IntsAre.nil⟩ ?_ ?_)
 ·(intro j x s' hx q_; obtain ⟨h',tk,kA,rfl,F',hk⟩ := q_)
  simp only[Pb] at hk ⊢
  have hj:j<vs.length:=(Ah.mp hx).1
  obtain ⟨k,hkj⟩ : ∃k,kz[j]? = some k:=⟨_,Ap (by omega)⟩
  have l1:=hk.length
  rw[Bd,Cv] at l1
  refine Ab (Io (Eo (turn j x k hx hkj h' tk F'.keep (λv s''=>∃t h2 tk2,v=.int k t/\s''={ s with heap:=h2,toks:=tk2 }/\Gh h' h2) λt h2 tk2 q=>⟨t,h2,tk2,rfl,rfl,q⟩) (λv s'' q=>?_) λ_ _ z=>z.elim))
  obtain ⟨t,h2,tk2,rfl,rfl,q⟩:=q
  dsimp only
  obtain ⟨ek,gk⟩:=F'.gk
  have gk2:=q _ _ gk
  refine Ab (Lo gk2 rfl ?_ (by omega) (by rw[Array.size_push]; omega))
  refine Ao ⟨rfl,_,_,kA.push (.int k t),rfl,⟨Nm (F'.keep.trans q) F'.nk,F'.na,F'.nk,F'.ne,((Cf h2 kS _).2 a F'.ne.symm).trans (q _ _ F'.ga),_,Ju gk2 (·.push (.int k t))⟩,?_⟩
  have e1:kz.take (j+1)=kz.take j++[k]:=by rw[Jl,hkj]; rfl
  rw[Ls,e1]
  exact ksk_snoc hk
 ·(intro s' q_; obtain ⟨h',tk,kA,rfl,F',hk⟩ := q_)
  rw[Pb,Em (by omega)] at hk
  obtain ⟨ek,gk⟩:=F'.gk
  refine Ab (eQ gk rfl ?_)
  exact EY (s:={ s with heap:=h',toks:=tk }) F' hk hlen hz λh3 tk3 out c a1 a2 a3=>h h3 tk3 out c a1 a2 a3
theorem eY(hl:s.heap.IsList l vs.toArray)(hlen:kz.length=vs.length)(hz:vs.length<Av)(ha1:argsOk "sorted" ⟨[.ref l],kw⟩)(ha2:∀x,argsOk "list.sort" ⟨[.ref x],kw⟩)(ht:∀x,Builtin.«list.sort» ⟨[.ref x],kw⟩=ksk_tree x f false)(turn:∀(i:Nat) (v:Value) (k:Int),vs[i]? = some v->kz[i]? = some k->∀(h:Heap) (tk:Nat),Gh s.heap h->∀R:Value->Ai->Prop,(∀t h2 tk2,Gh h h2->R (.int k t) { s with heap:=h2,toks:=tk2 })->wpAny (model prog w) A.in1.in1 (call f [v]) R (λ_ _=>False) { s with heap:=h,toks:=tk })(h:∀D h' tk out c,Gh s.heap h'->s.heap.objs.size<=D->h'.get? D=some (Cw "list" out c)->KskOut false kz vs out.toList->Q (.ref D) { s with heap:=h',toks:=tk }):wpAny (model prog w) A (call (.builtin "sorted") [.ref l] kw) Q E s:=by
 refine call_function_entry_kw kind_sorted plain_sorted entry_sorted ha1 ?_
 unfold Builtin.«sorted»
 refine Ab (m:=checkCount "sorted" 1 1 _) (Ao (Ab (collect_list hl (Ab (Tr ?_ (by omega))) (by omega))))
 have z1:((s.heap.push (Cw "list" #[] 0)).update s.heap.objs.size (Cg (·++vs.toArray))).objs.size=s.heap.objs.size+1:=by rw[Il,Ra]
 have g1:(((s.heap.push (Cw "list" #[] 0)).update s.heap.objs.size (Cg (·++vs.toArray))).push (Cw "list" vs.toArray 0)).get? (s.heap.objs.size+1)=some (Cw "list" vs.toArray 0):=by
  rw[<- z1]
  exact Bb _ rfl
 have kept:Gh s.heap (((s.heap.push (Cw "list" #[] 0)).update s.heap.objs.size (Cg (·++vs.toArray))).push (Cw "list" vs.toArray 0)):=λb o e =>
  Af _ (((Cf _ _ _).2 b (By (Ba e))).trans (Af _ e))
 show wpAny _ _ _ _ _ { s with heap:=((s.heap.push (Cw "list" #[] 0)).update s.heap.objs.size (Cg (·++vs.toArray))).push (Cw "list" vs.toArray 0) }
 rw[z1]
 generalize hH:((s.heap.push (Cw "list" #[] 0)).update s.heap.objs.size (Cg (·++vs.toArray))).push (Cw "list" vs.toArray 0)=H1 at g1 kept
 have none_:∀b,s.heap.objs.size<=b->s.heap.get? b=none:=λb hb=>Ng hb
 refine Ab (Df (wpAny_call_entry_kw slot_list_sort ⟨_,g1,rfl⟩ entry_list_sort ?_ (ha2 _)))
 show wpAny (model prog w) A.in1.in1 (Builtin.«list.sort» ⟨[.ref (s.heap.objs.size+1)],kw⟩) _ _ _
 rw[ht]
 unfold ksk_tree
 have lt:s.heap.objs.size+1<H1.objs.size:=Ba g1
 obtain ⟨ep,g2⟩ : ∃ep,(H1.update (s.heap.objs.size+1) (Cg λ_=>(#[]:Array Value))).get? (s.heap.objs.size+1)=some (Cw "list" #[] ep):=⟨_,Ju g1 λ_=>#[]⟩
 have k2:Gh s.heap (H1.update (s.heap.objs.size+1) (Cg λ_=>(#[]:Array Value))):=Nm kept (none_ _ (by omega))
 refine Ab (eQ g1 rfl (Ab (Lo g1 rfl ?_ (by rw[Aq]; omega) (Cr _))))
 refine Ab (Yd g2 rfl (Ab (Yb (Ab (Tr (Df ?_) (Cr _))) (by show vs.length<=_; omega))))
 have e3:((H1.update (s.heap.objs.size+1) (Cg λ_=>(#[]:Array Value))).push (Cw "tuple" vs.toArray 0)).objs.size=H1.objs.size+1:=by rw[Ra,Il]
 have sz:s.heap.objs.size<H1.objs.size:=by omega
 refine CI (s:={ s with heap:=((H1.update (s.heap.objs.size+1) (Cg λ_=>(#[]:Array Value))).push (Cw "tuple" vs.toArray 0)).push (Cw "list" #[] 0) }) (h0:=s.heap) (a:=s.heap.objs.size+1)
  (kS:=((H1.update (s.heap.objs.size+1) (Cg λ_=>(#[]:Array Value))).push (Cw "tuple" vs.toArray 0)).objs.size)
  ⟨λb o e=>Af _ (Af _ (k2 b o e)),none_ _ (by omega),none_ _ (by rw[e3]; omega),λz=>(by have:=e3.symm.trans z; omega),Af _ (Af _ g2),0,Bb _ rfl⟩ hlen hz turn ?_
 intro h' tk out c a1 a2 a3
 exact ⟨_,rfl,Ao ⟨_,rfl,h _ h' tk out c a1 (Vn _) a2 a3⟩⟩
end
end Ts
namespace DL
open PySem PySem.Spec PyProof.Rows L2 Nd Ts
def mV(K:PySem.W.Frag):V->Hp->VK->Prop:=λx H Q=>∃(p:Addr) (rs:List Addr) (kf:Addr->Nat),x=.ref p/\rs.length<Av/\Kb K H p (rs.map V.ref)/\(∀r∈rs,∃ys,Vh K H r ys/\ys.length=kf r) /\
 ∀(a:Addr) (rs':List Addr),H a=none->rs'.Perm rs->rs'.Pairwise (λx y=>kf x<=kf y)->Q (.ref a) (upd H a (.lst (rs'.map V.ref)))
theorem E8{a b:List Addr}(h:(a.map Bc).Perm (b.map Bc)):a.Perm b:=by
 have:=h.map (λx:Value=>match x with | .ref a=>a | _=>0)
 rw[Bx,Bx] at this
 simpa [Function.comp_def] using this
theorem jN{kf:Addr->Nat}(h:KskOut false (rs.map λr=>(kf r:Int)) (rs.map Bc) out):∃rs':List Addr,out=rs'.map Bc/\rs'.Perm rs/\rs'.Pairwise λx y=>kf x<=kf y:=by
 obtain ⟨ps,h1,rfl,h3⟩:=h
 have e:(rs.map λr=>(kf r:Int)).zip (rs.map Bc)=rs.map λr=>((kf r:Int),Bc r):=List.zip_map' ..
 rw[e] at h1
 have each:∀p∈ps,∃r∈rs,p=((kf r:Int),Bc r):=λp hp=>by
  obtain ⟨r,hr,e⟩:=Bs.mp (h1.mem_iff.mp hp)
  exact ⟨r,hr,e.symm⟩
 have ex:∀l:List (Int×Value),(∀p∈l,∃r∈rs,p=((kf r:Int),Bc r))->∃rs':List Addr,l=rs'.map λr=>((kf r:Int),Bc r):=by
  intro l
  induction l with
  | nil=>exact λ_=>⟨[],rfl⟩
  | cons p l ih =>
   intro hl
   obtain ⟨r,_,rfl⟩:=hl p Aa
   obtain ⟨rs',rfl⟩:=ih λx hx=>hl x (Ae _ hx)
   exact ⟨r::rs',rfl⟩
 obtain ⟨rs',rfl⟩:=ex ps each
 have p2:=h1.map Prod.snd
 rw[Bx,Bx] at p2
 refine ⟨rs',by rw[Bx]; rfl,E8 p2,?_⟩
 have h4:(rs'.map λr=>((kf r:Int),Bc r)).Pairwise (λp q=>p.1<=q.1):=h3
 rw[List.pairwise_map] at h4
 exact h4.imp λq=>by simpa using q
section
variable{X:Cx}{pins:List (Addr×Obj)}{σ:List (Option V)}{H:Hp}{s:Ai}
theorem mO(I:Inv X pins σ H s)(ru:RelV x u)(h:mV X.K x H Q):wpAny (model X.prog X.w) X.A (call (.builtin "sorted") [u] [(Ei "key",.builtin "len")]) (EP X pins σ Q) X.xe s:=by
 obtain ⟨p,rs,kf,rfl,hz,hp,hx,q⟩:=h
 cases ru
 obtain ⟨its,rv,pl,_⟩:=I.list hp
 have e:=Sx rv
 subst e
 have hs:Av=16777216:=Ie
 refine eY (vs:=rs.map Bc) (kz:=rs.map λr=>(kf r:Int)) (f:=.builtin "len") pl.isList (by rw[Ac,Ac]) (by rw[Ac]; exact hz) (ksk_s1 _ _) (λx=>ksk_l1 _ _) (λx=>ksk_t4 _ _) (λi v k hv hk h tk hkeep R hR=>?_) λD h' tk out c k1 k2 k3 k4=>?_
 ·rw[Az] at hv hk
  cases hr:rs[i]? with
  | none=>rw[hr] at hv; cases hv
  | some r =>
   rw[hr] at hv hk
   cases hv
   cases hk
   obtain ⟨ys,hq,hy⟩:=hx r (Au hr)
   obtain ⟨its,r',pl',hz'⟩:=I.tuple hq
   obtain ⟨o,ho,hcl,nn,hd⟩:=pl'
   have hlen:=r'.length
   have hil:IsTup h r its.toArray:=⟨o,hkeep r o ho,hcl,nn,hd⟩
   refine len_tuple hil (by simp only[Aq]; omega) ?_
   simp only[Aq]
   rw[<- hlen,hy]
   exact hR _ h _ (Gh.refl h)
 ·obtain ⟨rs',e1,p1,p2⟩:=jN k4
  have eo:out=(rs'.map Bc).toArray:=by rw[<- e1,Array.toArray_toList]
  subst eo
  refine ⟨.ref D,upd H D (.lst (rs'.map V.ref)),I.laid (t':=tk) k1 k2 ⟨?_,_,c,Xe rs',k3⟩,rfl,q D rs' (I.hok.fresh k2) p1 p2⟩
  rw[Ac,p1.length_eq]
  omega
variable{e:Expr}{t:TA}{p1 p2 kp pos:Pos}
theorem vG(hg:Gl X "sorted")(hm:X.mg "sorted" = none)(hg2:Gl X "len")(hm2:X.mg "len" = none)(ha:PA X [e] t)(hs:Bm [e] X.env=[(false,eval e X.env)]:=by rfl):PE X (.Call (.Name "sorted" p1) [e] [⟨some "key",.Name "len" p2,kp⟩] pos) (DY (λxs H Q=>∃x,xs=[x]/\mV X.K x H Q) t):=by
 intro pins s σ H Q I h
 refine Hv (Mq I hg hm (u:=.builtin "sorted") (by decide +kernel) ?_)
 refine Yv (Fn (ha pos pins s σ H _ I h) λus s1 ⟨vs,H1,I1,r1,q1⟩=>?_) (by rw[hs]; rfl) (by rw[hs]; rfl)
 obtain ⟨x,rfl,q⟩:=q1
 obtain ⟨u,rfl,ru⟩:=vals1 r1
 refine kws_cons (Mq I1 hg2 hm2 (u:=.builtin "len") (by decide +kernel) (kws_nil ?_))
 exact mO I1 ru q
end
def Zd:DC:=λxs P=>match xs with
 | [.dat _ (.list ds)]=>∃ws:List (List Int),ds=ws.map Bv/\ws.length<Av/\∀L:List (List Int),L.Perm ws->L.Pairwise (λx y=>x.length<=y.length)->P (.dat .ow (.list (L.map Bv)))
 | _=>False
section
variable{K:PySem.W.Frag}
theorem vB:Ot K (λxs H Q=>∃x,xs=[x]/\mV K x H Q) Zd:=by
 intro H0 X n S T As us H Q P eu hA hd k
 unfold Zd at hd
 split at hd
 ·rename_i ex
  obtain ⟨v,F,rfl,hA⟩:=Hg eu hA ex
  obtain ⟨ws,rfl,hz0,h1⟩:=hd
  obtain ⟨a,xs,G,rfl,ha,ra,rfl,hz⟩:=(hA.told mem_mid).list_inv
  obtain ⟨rs,rfl,rfl,rfl,c1,c2⟩:=aV ra rfl
  rw[Ac] at hz0
  refine ⟨_,rfl,a,rs,λr=>(x3 H r).length,rfl,hz0,Kb.of ha,λr hr=>⟨_,Vh.of (c1 r hr),Ac ..⟩,λq rs' nq pe pw=>?_⟩
  refine k _ _ _ _ (hA.drop.newI (aT λr hr=>c2 r (pe.mem_iff.mp hr)) (Zr _) (by rw[Ac,Ac,pe.length_eq]; simpa using hz) nq .ow) (h1 _ (pe.map _) (Yw.mpr pw))
 ·exact hd.elim
variable{X:Cx}{e:Expr}{da:DA}{p1 p2 kp pos:Pos}
theorem wA(hg:Gl X "sorted")(hm:X.mg "sorted" = none)(hg2:Gl X "len")(hm2:X.mg "len" = none)(ha:oW X [e] da)(hs:Bm [e] X.env=[(false,eval e X.env)]:=by rfl):Eu X (.Call (.Name "sorted" p1) [e] [⟨some "key",.Name "len" p2,kp⟩] pos) (AE Zd da):=PE.imp (vG hg hm hg2 hm2 ha hs) (zU vB)
end
end DL
namespace DL
open PySem PySem.Spec PyProof.Rows L2 Nd
def Pu(i:Int):Hr:=Qv i
def Pi(ks:List (Int×Ad))(w:Int):Option Ad:=(ks.find? λp=>decide (p.1=w)).map (·.2)
def jM(ks:List (Int×Ad))(w:Int)(d:Ad):List (Int×Ad) :=
 if (ks.any λp=>decide (p.1=w))=true then ks.map (λp=>if p.1=w then (p.1,d) else p) else ks++[(w,d)]
theorem Wg(h:Yl a=Yl b):a=b:=Tj (λx y e=>by
 obtain ⟨e1,e2⟩:=Prod.mk.inj e
 exact Prod.ext (PyData.int.inj e1) e2) (Ep h).2
theorem Zt(h:Pu a=Pu b):a=b:=Sum.inl.inj h
section
variable{K:PySem.W.Frag}{H H':Hp}
structure IRel(K:PySem.W.Frag)(H:Hp)(kv:List (Hr×V))(ks:List (Int×Ad)):Prop where
 key:kv.map (·.1)=ks.map λp=>Pu p.1
 val:RdFs K H (kv.map (·.2)) (ks.map (·.2)) []
theorem RdF.dicI_inv(h:RdF K H v (.dict X) F)(hX:rO X=true:=by first | rfl | assumption):∃a kv ks,v=.ref a/\X=Yl ks/\H a=some (.dK kv)/\IRel K H kv ks/\F=[a]:=by
 cases h with
 | dic h e' hs=>cases hX
 | dnm h e' hs=>cases hX
 | dik h e' hs=>exact ⟨_,_,_,rfl,rfl,h,⟨e',hs⟩,rfl⟩
theorem RdF.int_at(h:RdF K H v (.int i) F):v=kV (Pu i):=by
 cases h; rfl
theorem zH(r:IRel K H kv ks):kv.length=ks.length:=by
 have:=congrArg Fm r.key
 simpa using this
theorem iL(w:Int):∀{kv:List (Hr×V)} {ks:List (Int×Ad)},IRel K H kv ks->(Ua kv (Pu w)=none/\Pi ks w=none)\/∃v d,Ua kv (Pu w)=some v/\Pi ks w=some d/\RdF K H v d []
 | [],[],_=>.inl ⟨rfl,rfl⟩
 | [],_::_,r=>by cases r.key
 | _::_,[],r=>by cases r.key
 | (k,v)::kv,(u,d)::ks,r=>by
  obtain ⟨e1,e2⟩:=Ep r.key
  have e1:k=Pu u:=e1
  obtain ⟨r1,r2⟩:=RdFs.cons_nil r.val rfl
  by_cases h:u=w
  ·subst h e1
   refine .inr ⟨v,d,Rl rfl,by simp [Pi],r1⟩
  ·have hk:¬ k=Pu w:=λz=>h (Zt (e1.symm.trans z))
   rw[Sg hk,show Pi ((u,d)::ks) w=Pi ks w by simp [Pi,h]]
   exact iL w ⟨e2,r2⟩
theorem zT(w:Int)(r:IRel K H kv ks):(kv.any λp=>decide (p.1=Pu w))=(ks.any λp=>decide (p.1=w)):=by
 have h1:(kv.any λp=>decide (p.1=Pu w))=((kv.map (·.1)).any λk=>decide (k=Pu w)):=by rw[Om]; rfl
 rw[h1,r.key,Om]
 congr 1
 funext p
 exact decide_eq_decide.mpr ⟨λz=>Zt z,λz=>by show Pu p.1=Pu w; rw[z]⟩
theorem cW(w:Int)(rv:RdF K H v d []):∀{kv:List (Hr×V)} {ks:List (Int×Ad)},IRel K H kv ks->IRel K H (kv.map λp=>if p.1=Pu w then (p.1,v) else p) (ks.map λp=>if p.1=w then (p.1,d) else p)
 | [],[],r=>r
 | [],_::_,r=>by cases r.key
 | _::_,[],r=>by cases r.key
 | (k,v')::kv,(u,d')::ks,r=>by
  obtain ⟨e1,e2⟩:=Ep r.key
  have e1:k=Pu u:=e1
  obtain ⟨r1,r2⟩:=RdFs.cons_nil r.val rfl
  have ih:=cW w rv (kv:=kv) (ks:=ks) ⟨e2,r2⟩
  rw[Ar,Ar]
  by_cases h:u=w
  ·rw[if_pos (show k=Pu w by rw[e1,h]),if_pos h]
   exact ⟨by rw[Ar,Ar,ih.key]; exact congrArg (·::_) e1,RdFs.cons (F:=[]) (G:=[]) rv ih.val⟩
  ·have hk:¬ k=Pu w:=λz=>h (Zt (e1.symm.trans z))
   rw[if_neg (show ¬ (k,v').1=Pu w from hk),if_neg (show ¬ (u,d').1=w from h)]
   exact ⟨by rw[Ar,Ar,ih.key]; exact congrArg (·::_) e1,RdFs.cons (F:=[]) (G:=[]) r1 ih.val⟩
theorem vV(w:Int)(rv:RdF K H v d [])(r:IRel K H kv ks):IRel K H (Mp kv (Pu w) v) (jM ks w d):=by
 unfold Mp jM
 rw[zT w r]
 split
 ·exact cW w rv r
 ·refine ⟨by rw[Bh,Bh,r.key]; rfl,?_⟩
  rw[Bh,Bh]
  exact r.val.snoc rv
end
def N6:DE:=λδ P=>P (.dat .ow (.dict (Yl []))) δ
theorem At.newI9{K:PySem.W.Frag}(h:At K H0 X n (S++T) H)(hp:H p=none):At K H0 X n (S++⟨some (.ref p),.dat .ow (.dict (Yl [])),[p]⟩::T) (upd H p (.dK [])):=by
 have s1:=Dn hp (.dK [])
 refine ((h.grow (n':=n) s1 (Ak _)).push (e:=⟨some (.ref p),.dat .ow (.dict (Yl [])),[p]⟩) ⟨_,rfl,.dik Cm rfl .nil,λ_=>Bz.mpr ⟨Ax,Co⟩,λz=>nomatch z⟩ (λf hf=>?_) λa ha=>?_).tomid
 ·have nf:=h.free hp f hf
  refine ⟨λ_ a ha z=>?_,λ_ a ha z=>?_⟩
  ·rw[Ag.mp ha] at z
   exact nf z
  ·rw[Ag.mp z] at ha
   exact nf (Fo _ _ ha)
 ·rw[Ag.mp ha]
  exact .inl (h.new0 hp)
theorem G9:Eu X (.Dict [] [] pos) N6:=by
 refine PE.imp xD λσ H Q h=>?_
 obtain ⟨H0,Y,S,T,δ,P,rfl,hS,hA,hd,k⟩:=h
 exact λp hp=>k _ δ _ _ S _ rfl hS (hA.newI9 hp) hd
theorem At.writeI9{K:PySem.W.Frag}{H0 H:Hp}{X:Addr->Prop}(h:At K H0 X n (⟨v,.dat .ow (.dict (Yl ks)),[a]⟩::E) H)(hv:v=some (.ref a))(np:∀e∈E,Lg e.x=false)(r:IRel K H kv' ks'):At K H0 X n (⟨v,.dat .ow (.dict (Yl ks')),[a]⟩::E) (upd H a (.dK kv')):=by
 obtain ⟨w,e1,rd,hn,ht⟩:=h.ok _ Aa
 obtain ⟨b,kv,ks0,e2,ek,ha,_,eF⟩:=rd.dicI_inv
 have eF':[a]=[b]:=eF
 cases eF'
 have hs:=Bf.mp h.sep
 have kp:∀{F':List Addr},a∉F'->Kp F' H (upd H a (.dK kv')):=λ{F'} hF b o q z=>by
  have : b≠a:=by
   rintro rfl
   rw[ha] at q
   cases q
   rcases z with z | z
   ·exact hF z
   ·rcases z with ⟨_,z⟩ | ⟨_,_,z⟩ <;> cases z
  rw[Cj this]
  exact q
 have n0:H0 a=none:=by
  rcases h.new _ Aa a Aa with z | z
  ·exact z
  ·cases z.2
 refine ⟨λf hf=>?_,Bf.mpr ⟨λf hf=>⟨λhq c hc=>(hs.1 f hf).1 (.inl (np f hf)) c hc,λhq c hc=>(hs.1 f hf).2 (.inl rfl) c hc⟩,hs.2⟩,λf hf=>?_,λb o nx q=>?_,λb o q=>?_,λb hb=>?_⟩
 ·rcases Aj.mp hf with rfl | hf
  ·exact ⟨.ref a,hv,.dik Cm r.key (r.val.kp (kp Ax)),λ_=>Bz.mpr ⟨Ax,Co⟩,λz=>nomatch z⟩
  ·exact (h.ok f (Ae _ hf)).kp (kp ((hs.1 f hf).1 (.inl (np f hf)) a Aa)) (Ak _)
 ·rcases Aj.mp hf with rfl | hf
  ·exact λc hc=>h.new _ Aa c hc
  ·exact h.new f (Ae _ hf)
 ·rw[Cj (Dc q n0)]
  exact h.same b o nx q
 ·rw[Cj (Dc q n0)]
  exact h.dom b o q
 ·obtain ⟨z,c,k,f,h1,h2⟩:=h.xd b hb
  refine ⟨z,c,k,f,(Cj ?_).trans h1,h2⟩
  rintro rfl
  exact z n0
theorem gL{K:PySem.W.Frag}(hS:Sl S δ)(hT:∀e∈T,Lg e.x=false)(hA:At K H0 X δ.n (S++T) H)(hi:δ.sl[i]? = some (.dat .ow (.dict (Yl ks))))(np:npk δ.sl=true):∃a kv,(vs S)[i]? = some (some (.ref a))/\H a=some (.dK kv)/\IRel K H kv ks/\∀kv',IRel K H kv' ks'->∃S',vs S'=vs S/\Sl S' ⟨δ.sl.set i (.dat .ow (.dict (Yl ks'))),δ.n⟩/\At K H0 X δ.n (S'++T) (upd H a (.dK kv')):=by
 obtain ⟨ent,e2,e3⟩:=Gq hS hi
 have hm:ent∈S:=Au e2
 obtain ⟨u,x,F⟩:=ent
 have e3':x=.dat .ow (.dict (Yl ks)):=e3
 subst e3'
 obtain ⟨v,hv,rd,_⟩:=hA.ok _ (Am _ hm)
 obtain ⟨a,kv,ks0,rfl,ek,ha,rel,eF⟩:=rd.dicI_inv
 obtain rfl:=Wg ek
 have eF':F=[a]:=eF
 subst eF'
 refine ⟨a,kv,by rw[Ke e2]; exact congrArg some hv,ha,rel,λkv' r=>?_⟩
 have hn:=Xn hS np
 have h1:=(hA.perm ((Jb e2).append_right T)).writeI9 (ks':=ks') (kv':=kv') hv (λe he=>?_) r
 ·refine ⟨S.set i ⟨u,.dat .ow (.dict (Yl ks')),[a]⟩,?_,?_,h1.perm ((Nl e2).append_right T).symm⟩
  ·unfold vs
   rw[Eg]
   apply Gk
   intro j
   rw[Gj]
   split
   ·rename_i hij
    subst hij
    rw[Az,e2]
    split
    ·rfl
    ·rename_i hj
     rw[Ac] at hj
     exact absurd (Ah.mp e2).1 hj
   ·rfl
  ·unfold Sl at hS ⊢
   rw[Eg,hS]
 ·rcases Bg.mp he with he | he
  ·exact hn e ((Mo S i).subset he)
  ·exact hT e he
def iputB(i:Nat)(y z:DV)(δ:DS)(D:DEnds):Prop:=match δ.sl[i]?,y,z with
 | some (.dat .ow (.dict X)),.dat _ e,.dat _ k=>npk δ.sl=true/\imm e=true/\∃ks w,X=Yl ks/\k=.int w/\ks.length<1000000/\D.nx ⟨δ.sl.set i (.dat .ow (.dict (Yl (jM ks w e)))),δ.n⟩
 | _,_,_=>False
def isIct:Option DV->Bool
 | some (.dat _ (.dict X))=>rO X
 | _=>false
def O0(i:Nat)(dk de:DE):DB:=λD δ=>de δ λy δ1=>isIct δ1.sl[i]? = true/\dk δ1 λz δ2=>iputB i y z δ2 D
section
variable{X:Cx}{o i e:Expr}{dk de:DE}{apos cpos pos pos':Pos}{n:Nat}
theorem yT{K:PySem.W.Frag}(hS:Sl S δ)(hA:At K H0 Y δ.n (S++T) H)(hi:isIct δ.sl[n]? = true):∃a kv,(vs S)[n]? = some (some (.ref a))/\H a=some (.dK kv):=by
 cases q:δ.sl[n]? with
 | none=>rw[q] at hi; cases hi
 | some x =>
  rw[q] at hi
  obtain ⟨ent,e2,e3⟩:=Gq hS q
  obtain ⟨u,y,F⟩:=ent
  have e3':y=x:=e3
  subst e3'
  have hm:(⟨u,y,F⟩ : Ent)∈S:=Au e2
  match y,hi with
  | .dat m (.dict X),hi =>
   have hX:rO X=true:=hi
   obtain ⟨v,hv,rd,_⟩:=hA.ok _ (Am _ hm)
   obtain ⟨a,kv,ks,rfl,_,ha,_⟩:=rd.dicI_inv
   exact ⟨a,kv,by rw[Ke e2]; exact congrArg some hv,ha⟩
theorem x9(hu:X.A.units+64<cLine)(ho:PE X o (Yi n))(hi:Eu X i dk)(he:Eu X e de)(hs:Hm e (some (.Subscript o i pos')) pos.line X.env=pure false:=by rfl):lH X (.Assign [.Subscript o i pos'] e pos) (O0 n dk de):=by
 refine PS.impD (pM (DU hu) ho hi he hs) λD σ H h=>?_
 obtain ⟨H0,Y,S,T,δ,P,rfl,hS,hT,hA,hd,k1,k2,k3,k4⟩:=h
 refine ⟨H0,Y,S,T,δ,_,rfl,hS,hA,hd,λy δ1 v F S1 H1 e1 e2 hA1 p1=>?_⟩
 obtain ⟨p1,p2⟩:=p1
 obtain ⟨a,kv,hv,ha⟩:=yT e2 hA1.drop p1
 rw[e1] at hv
 refine ⟨.ref a,hv,H0,Y,S1,⟨some v,y,F⟩::T,δ1,_,e1,e2,hA1,p2,λz δ2 w G S2 H2 e3 e4 hA2 p3=>?_⟩
 unfold iputB at p3
 split at p3
 ·rename_i X0 m1 d m2 k hsl
  obtain ⟨p3,p4,ks,u,rfl,rfl,p5,p6⟩:=p3
  obtain rfl:=(hA2.told mem_mid).int_at
  have r:=hA2.told Ek
  obtain rfl:=r.imm p4
  obtain ⟨a',kv',g1,g2,g3,g4⟩:=gL (ks':=jM ks u d) e4 hT hA2.drop2 hsl p3
  rw[e3,hv] at g1
  cases g1
  obtain ⟨S3,h1,h2,h3⟩:=g4 (Mp kv' (Pu u) v) (vV u r g3)
  refine ⟨a,_,rfl,o9.k g2 (by rw[zH g3]; exact Br p5 (lG (n:=1000000) (Ak _))),?_⟩
  rw[<- e3,<- h1]
  exact k1 ⟨_,_⟩ S3 _ h2 h3 p6
 ·exact p3.elim
end
def qF(x y z:DV)(δ:DS)(P:DV->DS->Prop):Prop:=match x,y,z with
 | .dat _ (.dict X),.dat _ k,.dat _ e=>∃(ks:List (Int×Ad)) (w:Int),X=Yl ks/\k=.int w/\imm e=true/\P (.dat .ow ((Pi ks w).getD e)) δ
 | _,_,_=>False
def zS:DV->Bool
 | .dat _ (.dict X)=>rO X
 | _=>false
def vU(da dk dz:DE):DE:=λδ P=>da δ λx δ1=>zS x=true/\dk δ1 λy δ2=>dz δ2 λz δ3=>qF x y z δ3 P
section
variable{K:PySem.W.Frag}
theorem A7:∀σ H Q,LE K (vU da dk dz) σ H Q->xO (LE K da) (LE K dk) (LE K dz) σ H Q:=by
 intro σ H Q h
 obtain ⟨H0,Y,S,T,δ,P,rfl,hS,hA,hd,k⟩:=h
 refine ⟨H0,Y,S,T,δ,_,rfl,hS,hA,hd,λx δ1 v F S1 H1 e1 e2 hA1 p1=>?_⟩
 obtain ⟨hx,p1⟩:=p1
 match x,hx with
 | .dat m (.dict X),hx =>
  have hX:rO X=true:=hx
  obtain ⟨a,kv,ks',rfl,rfl,ha,rel,_⟩:=(hA1.told mem_mid).dicI_inv
  refine ⟨a,rfl,.inl ⟨kv,.inl ha⟩,H0,Y,S1,_::T,δ1,_,e1,e2,hA1,p1,λy δ2 v2 F2 S2 H2 e3 e4 hA2 p2=>?_⟩
  refine ⟨H0,Y,S2,_::_::T,δ2,_,e3,e4,hA2,p2,λz δ3 v3 F3 S3 H3 e5 e6 hA3 p3=>?_⟩
  unfold qF at p3
  split at p3
  ·rename_i hx'
   obtain ⟨ks,w,ek,rfl,im,p⟩:=p3
   have m3:∀{e f g:Ent},g∈S3++e::f::g::T:=λ{e f g}=>Al _ (Ae _ (Ae _ Aa))
   obtain ⟨a',kv',ks2,ea,ek2,ha',rel',_⟩:=(hA3.told m3).dicI_inv
   cases ea
   cases hx'
   obtain rfl:=Wg ek2
   obtain rfl:=Wg ek
   obtain rfl:=(hA3.told Ek).int_at
   have r:=hA3.told mem_mid
   obtain rfl:=r.imm im
   refine ⟨_,kG.k ha',?_⟩
   rcases iL w rel' with ⟨h1,h2⟩ | ⟨v',d',h1,h2,h3⟩
   ·rw[h1]
    rw[h2] at p
    exact k _ δ3 _ [] S3 H3 e5 e6 (hA3.drop2.drop.pushI r) p
   ·rw[h1]
    rw[h2] at p
    exact k _ δ3 _ [] S3 H3 e5 e6 (hA3.drop2.drop.pushI h3) p
  ·exact p3.elim
end
section
variable{X:Cx}{o e f:Expr}{de dk dz:DE}{p apos cpos pos:Pos}
theorem qQ(hu:X.A.units+64<cLine)(ho:Eu X o de)(he:Eu X e dk)(hf:Eu X f dz)(m:M2 X o "get" apos e f cpos):Eu X (.Call (.Attribute o "get" apos) [e,f] [] cpos) (vU de dk dz):=PE.imp (wB (DU hu) ho he hf m) A7
end
end DL
namespace Nd
open PySem PySem.Spec PyProof.Rows L2
end Nd
namespace DL
open PySem PySem.Spec PyProof.Rows L2 Nd
mutual
def nX:Ad->Bool
 | .list xs=>mN xs
 | .tuple xs=>mN xs
 | .dict _=>false
 | _=>true
def mN:List Ad->Bool
 | []=>true
 | x::xs=>nX x && mN xs
end
def iB:DV->Bool
 | .un=>true
 | .scr _=>true
 | .val _=>true
 | .tpl _=>true
 | .drw=>true
 | .dat .ow _=>true
 | .dat _ d=>nX d
 | _=>false
theorem qZ(h:Vt a x=Vt b y):a=b/\x=y:=by
 obtain ⟨h1,h2⟩:=Ep h
 refine ⟨Int.ofNat.inj (PyData.int.inj (Prod.mk.inj h1).2),?_⟩
 refine Tj (λx y e=>?_) h2
 obtain ⟨e1,e2⟩:=Prod.mk.inj e
 exact Prod.ext (Sm e1) e2
section
variable{K:PySem.W.Frag}{H:Hp}
theorem RdF.dicN_inv(h:RdF K H v (.dict (Vt b ks)) F):∃kv,v=.ref b/\H b=some (.dT kv)/\DRel K H kv ks/\F=[b]:=by
 generalize e:Vt b ks=X at h
 cases h with
 | dic h e' hs=>cases e
 | dik h e' hs=>cases e
 | dnm h e' hs =>
  obtain ⟨rfl,rfl⟩:=qZ e
  exact ⟨_,rfl,h,⟨e',hs⟩,rfl⟩
mutual
theorem RdF.lsts:∀{v:V} {d:Ad} {F:List Addr},RdF K H v d F->nX d=true->∀b∈F,∃xs,H b=some (.lst xs)
 | _,_,_,.non,_,b,z=>nomatch z
 | _,_,_,.bl _,_,b,z=>nomatch z
 | _,_,_,.int _,_,b,z=>nomatch z
 | _,_,_,.str _,_,b,z=>nomatch z
 | _,_,_,.lst h l hs,k,b,z=>by
  rcases Aj.mp z with rfl | z
  ·exact ⟨_,h⟩
  ·exact RdFs.lsts hs (by simpa [nX] using k) b z
 | _,_,_,.tup h l hs,k,b,z=>RdFs.lsts hs (by simpa [nX] using k) b z
 | _,_,_,.dic h e hs,k,b,z=>by simp [nX] at k
 | _,_,_,.dik h e hs,k,b,z=>by simp [nX] at k
 | _,_,_,.dnm h e hs,k,b,z=>by simp [nX] at k
theorem RdFs.lsts:∀{v:List V} {d:List Ad} {F:List Addr},RdFs K H v d F->mN d=true->∀b∈F,∃xs,H b=some (.lst xs)
 | _,_,_,.nil,_,b,z=>nomatch z
 | _,_,_,.cons h hs,k,b,z=>by
  simp only[mN,Gc] at k
  rcases Bg.mp z with z | z
  ·exact RdF.lsts h k.1 b z
  ·exact RdFs.lsts hs k.2 b z
end
theorem B5(h:At K H0 Y n (e::f::E) H)(he:e.F=[a])(hp:Lg e.x=false)(ha:H a=some (.dT kv))(hf:iB f.x=true):a∉f.F:=by
 have ok:=h.ok f (Ae _ Aa)
 have sp:=((Bf.mp h.sep).1 f Aa).2 (.inl hp)
 obtain ⟨v,x,F⟩:=f
 intro z
 have z:a∈F:=z
 cases x with
 | un=>have ok:F=[]:=ok; rw[ok] at z; cases z
 | val _=>have ok:F=[]:=ok.2; rw[ok] at z; cases z
 | scr _=>obtain ⟨_,_,ok,_⟩:=ok; have ok:F=[]:=ok; rw[ok] at z; cases z
 | tpl _=>obtain ⟨_,_,_,ok⟩:=ok; have ok:F=[]:=ok; rw[ok] at z; cases z
 | drw=>exact sp a z (by rw[he]; exact lI a)
 | dT _=>cases hf
 | acc _=>cases hf
 | grd _=>cases hf
 | dat m d =>
  obtain ⟨u,_,rd,_⟩:=ok
  cases m with
  | ow=>exact sp a z (by rw[he]; exact lI a)
  | _ =>
   obtain ⟨xs,q⟩:=rd.lsts hf a z
   rw[ha] at q; cases q
theorem At.thaw(h:At K H0 Y n (⟨v,.dat .sh (.dict (Vt a ks)),F⟩::E) H)(h0:H0 a=none)(hE:∀f∈E,a∉f.F):At K H0 Y n (⟨v,.dat .ow (.dict (Qr ks)),[a]⟩::E) H:=by
 obtain ⟨u,e1,rd,_⟩:=h.ok _ Aa
 obtain ⟨kv,rfl,ha,rel,eF⟩:=rd.dicN_inv
 have sp:=Bf.mp h.sep
 refine ⟨λf hf=>?_,Bf.mpr ⟨λf hf=>⟨λ_ b hb z=>?_,λ_ b hb z=>?_⟩,sp.2⟩,λf hf b hb=>?_,h.same,h.dom,h.xd⟩
 ·rcases Aj.mp hf with rfl | hf
  ·exact ⟨_,e1,.dic ha rel.key rel.val,λ_=>Bz.mpr ⟨Ax,Co⟩,λz=>nomatch z⟩
  ·exact h.ok f (Ae _ hf)
 ·have hb:b∈[a]:=hb
  rw[Ag.mp hb] at z
  exact hE f hf z
 ·have z:b∈[a]:=z
  rw[Ag.mp z] at hb
  exact hE f hf (Fo f _ hb)
 ·rcases Aj.mp hf with rfl | hf
  ·have hb:b∈[a]:=hb
   rw[Ag.mp hb]
   exact .inl h0
  ·exact h.new f (Ae _ hf) b hb
theorem At.named(h:At K H0 Y n (⟨some (.ref a),.dat .ow (.dict (Qr ks)),[a]⟩::E) H):At K H0 Y n (⟨some (.ref a),.dat .sh (.dict (Vt a ks)),[a]⟩::E) H:=by
 obtain ⟨u,e1,rd,_⟩:=h.ok _ Aa
 cases e1
 obtain ⟨a',kv,ks',e2,ek,ha,rel,_⟩:=rd.dict_inv
 cases e2
 obtain rfl:=Sv ek
 have sp:=Bf.mp h.sep
 refine ⟨λf hf=>?_,Bf.mpr ⟨λf hf=>⟨λ_ b hb=>(nomatch hb),λhq b hb z=>(sp.1 f hf).2 hq b hb z⟩,sp.2⟩,λf hf b hb=>?_,h.same,h.dom,h.xd⟩
 ·rcases Aj.mp hf with rfl | hf
  ·exact ⟨_,rfl,.dnm ha rel.key rel.val,λz=>(nomatch z),λz=>(nomatch z)⟩
  ·exact h.ok f (Ae _ hf)
 ·rcases Aj.mp hf with rfl | hf
  ·cases hb
  ·exact h.new f (Ae _ hf) b hb
theorem At.dupS(h:At K H0 Y n (e::E) H)(hc:cells e=[]):At K H0 Y n (e::e::E) H:=by
 have sp:=Bf.mp h.sep
 refine ⟨λf hf=>h.ok f ?_,Bf.mpr ⟨λf hf=>?_,h.sep⟩,λf hf=>h.new f ?_,h.same,h.dom,h.xd⟩
 ·rcases Aj.mp hf with rfl | hf
  ·exact Aa
  ·exact hf
 ·rcases Aj.mp hf with rfl | hf
  ·exact ⟨λ_ b hb=>(by rw[hc] at hb; cases hb),λ_ b hb=>(by rw[hc] at hb; cases hb)⟩
  ·exact sp.1 f hf
 ·rcases Aj.mp hf with rfl | hf
  ·exact Aa
  ·exact hf
theorem nA:IterOk K (EW a ks.length) [⟨some (.ref a),.dat .sh (.dict (Vt a ks)),F⟩] .sh (ks.map λp=>Bv p.1) where
 md:=.inl rfl
 hd:=iC (m:=.sh)
 np:=qL (m:=.sh)
 go:=λH n i h hi=>by
  obtain ⟨kv,e,ha,rel,_⟩:=(Gx h Aa).dicN_inv
  rw[Ac] at hi
  exact ⟨kv,ha,Rp rel,hi⟩
 yld:=λH n i x H' h hi y=>by
  obtain ⟨kv,e,ha,rel,_⟩:=(Gx h Aa).dicN_inv
  obtain ⟨t,k,v,rfl,rfl,y1,y2,y3⟩:=y
  obtain ⟨w,d,e1,rfl⟩:=R1 rel (y1 kv ha)
  exact ⟨Mg.refl _,Bv w,[],by rw[Az,e1]; rfl,G6 y2 y3,λc hc=>nomatch hc⟩
 stop:=λH n h=>by
  obtain ⟨kv,e,ha,rel,_⟩:=(Gx h Aa).dicN_inv
  rw[Ac]
  exact ⟨kv,ha,Rp rel,rfl⟩
end
def O5(i:Nat)(dg:DG)(db:DB):DB:=λD δ=>∃ks,δ.sl[i]? = some (.dat .ow (.dict (Qr ks)))/\ks.length<=1000000/\∀a:Addr,∃I:Nat->DS->Prop,I 0 ⟨δ.sl.set i (.dat .sh (.dict (Vt a ks))),δ.n⟩ /\
 (∀j d δ',(ks.map λp=>Bv p.1)[j]? = some d->I j δ'->dg (.dat .sh d) δ' λδ2=>db { D with nx:=I (j+1),ct:=I (j+1),bk:=λ_=>False } δ2) /\
 ∀δ',I ks.length δ'->δ'.sl[i]? = some (.dat .sh (.dict (Vt a ks)))/\(δ'.sl.set i .un).all iB=true/\D.nx ⟨δ'.sl.set i (.dat .ow (.dict (Qr ks))),δ'.n⟩
section
variable{X:Cx}{tg iter:Expr}{dg:DG}{db:DB}{body:List Stmt}{pos:Pos}{n:Nat}
theorem E6(hp:PassesOwn (model X.prog X.w) X.A X.env X.xe)(hc:X.calm=true)(ho:PE X iter (Yi n))(hg:BQ X tg dg)(hb:Yo X body db)(hs:∀x,Dz iter X.env x=pure x:=by intro _; rfl):lH X (.For tg iter body [] pos) (O5 n dg db):=by
 refine PS.impD (fJ hp hc (F7 ho) hg hb hs) λD σ H h=>?_
 obtain ⟨H0,Y,S,T,δ,P,rfl,hS,hT,hA,hd,k1,k2,k3,k4⟩:=h
 obtain ⟨ks,hsl,hl,hd⟩:=hd
 obtain ⟨ent,e2,e3⟩:=Gq hS hsl
 have hm:ent∈S:=Au e2
 obtain ⟨u,x,F⟩:=ent
 have e3':x=.dat .ow (.dict (Qr ks)):=e3
 subst e3'
 obtain ⟨v,hv,rd,_⟩:=hA.ok _ (Am _ hm)
 obtain ⟨a,kv,ks0,rfl,ek,ha,rel,eF⟩:=rd.dict_inv
 obtain rfl:=Sv ek
 have eF':F=[a]:=eF
 have hv':u=some (.ref a):=hv
 subst eF' hv'
 have q1:=Jb e2
 have q2:=Nl (y:=(⟨some (.ref a),.dat .sh (.dict (Vt a ks)),[a]⟩ : Ent)) e2
 have hB:=hA.perm (q1.append_right T)
 have fresh:H0 a=none:=by
  rcases hB.new _ Aa a Aa with z | z
  ·exact z
  ·cases z.2
 have offT:∀f∈T,a∉f.F:=λf hf=>((Bf.mp hB.sep).1 f (Al _ hf)).1 (.inl (hT f hf)) a Aa
 have hN:=hB.named
 have hA1:At X.K H0 Y δ.n (S.set n ⟨some (.ref a),.dat .sh (.dict (Vt a ks)),[a]⟩++T) H:=hN.perm (q2.append_right T).symm
 refine ⟨.ref a,?_,a,kv,rfl,ha,?_⟩
 ·rw[Ke e2]
 rw[Rp rel]
 obtain ⟨I,h0,hst,hf⟩:=hd a
 have eV:∀{S':List Ent} {x y:DV} {F' F2:List Addr} {w:Option V},S'[n]? = some ⟨w,x,F'⟩->vs (S'.set n ⟨w,y,F2⟩)=vs S':=λ{S' x y F' F2 w} q=>by
  unfold vs
  rw[Eg]
  exact Ug (by rw[Az,q]; rfl)
 have eS:Sl (S.set n ⟨some (.ref a),.dat .sh (.dict (Vt a ks)),[a]⟩) ⟨δ.sl.set n (.dat .sh (.dict (Vt a ks))),δ.n⟩:=by
  unfold Sl at hS ⊢
  rw[Eg,hS]
 have hA2:At X.K H0 Y δ.n (S.set n ⟨some (.ref a),.dat .sh (.dict (Vt a ks)),[a]⟩++([⟨some (.ref a),.dat .sh (.dict (Vt a ks)),[a]⟩]++T)) H :=
  (hN.dupS rfl).perm ((List.Perm.cons _ (q2.append_right T).symm).trans Dv.symm)
 have it:=nA (K:=X.K) (a:=a) (ks:=ks) (F:=[a])
 have hT':∀e∈[(⟨some (.ref a),.dat .sh (.dict (Vt a ks)),[a]⟩ : Ent)]++T,Lg e.x=false:=λe he=>by
  rcases Bg.mp he with he | he
  ·exact it.np rfl e he
  ·exact hT e he
 refine ⟨λi q σ H=>q=ks.length - i/\i<=ks.length/\∃S δ,vs S=σ/\Sl S δ/\At X.K H0 Y δ.n (S++([⟨some (.ref a),.dat .sh (.dict (Vt a ks)),[a]⟩]++T)) H/\I i δ,⟨ks.length,by simp,Cr _,_,_,eV e2,eS,hA2,h0⟩,?_⟩
 (intro i q σ H q_; obtain ⟨rfl,hi,S2,δ2,rfl,e4,hA3,hI⟩ := q_)
 have hid_ok:∀e∈[(⟨some (.ref a),.dat .sh (.dict (Vt a ks)),[a]⟩ : Ent)],Hl X.K H δ2.n e:=λe he=>hA3.ok e (Al _ (Am _ he))
 by_cases hlt:i<ks.length
 ·refine .inr ⟨it.go H δ2.n i hid_ok (by rw[Ac]; exact hlt),λσ' H'=>∃S δ,vs S=σ'/\Sl S δ/\At X.K H0 Y δ.n (S++([⟨some (.ref a),.dat .sh (.dict (Vt a ks)),[a]⟩]++T)) H'/\I (i+1) δ,λσ' H' q=>⟨ks.length - (i+1),by omega,rfl,hlt,q⟩,λx H' y=>?_⟩
  obtain ⟨s1,d,F,h1,h2,h3⟩:=it.yld H δ2.n i x H' hid_ok (by rw[Ac]; exact hlt) y
  refine ⟨H0,Y,S2,_,δ2,.dat .sh d,F,_,rfl,e4,hA3.item s1 h2 h3 it.md it.hd it.np,hst i d δ2 h1 hI,λδ3 S3 H3 e5 hA4 p3=>?_⟩
  refine ⟨H0,Y,S3,_,δ3,_,rfl,e5,hT',hA4,p3,λδ4 S4 H4 e6 hA5 p4=>⟨S4,δ4,rfl,e6,hA5,p4⟩,λx δ4 v F S4 H4 e6 hA5 p4=>k2 x δ4 v F S4 H4 e6 hA5.dropH p4,
   λδ4 S4 H4 e6 hA5 p4=>p4.elim,λδ4 S4 H4 e6 hA5 p4=>⟨S4,δ4,rfl,e6,hA5,p4⟩⟩
 ·have e:i=ks.length:=by omega
  subst e
  refine .inl ⟨by have:=it.stop H δ2.n hid_ok; rwa [Ac] at this,?_⟩
  obtain ⟨g1,g2,g3⟩:=hf δ2 hI
  have hA4:=hA3.dropL
  obtain ⟨ent,e5,e6⟩:=Gq e4 g1
  obtain ⟨u,x,F⟩:=ent
  have e6':x=.dat .sh (.dict (Vt a ks)):=e6
  subst e6'
  have r1:=Jb e5
  have hC:=hA4.perm (r1.append_right T)
  obtain ⟨v,hv,rd2,_⟩:=hC.ok _ Aa
  obtain ⟨kv2,rfl,ha2,_,eF⟩:=rd2.dicN_inv
  have eF':F=[a]:=eF
  have hv':u=some (.ref a):=hv
  subst eF' hv'
  have hE:∀f∈S2.eraseIdx n++T,a∉f.F:=λf hf=>by
   rcases Bg.mp hf with hf | hf
   ·obtain ⟨j,hj,ej⟩:=List.mem_eraseIdx_iff_getElem?.mp hf
    have okf:iB f.x=true:=List.all_eq_true.mp g2 f.x (Au (i:=j) (by
     have e4':S2.map (·.x)=δ2.sl:=e4
     rw[Nf hj.symm,<- e4',Az,ej]; rfl))
    obtain ⟨l1,l2,el⟩:=List.append_of_mem hf
    have hD:=hC.sub (E':=⟨some (.ref a),.dat .sh (.dict (Vt a ks)),[a]⟩::f::[]) (by
     refine List.Sublist.cons₂ _ ?_
     show [f].Sublist (S2.eraseIdx n++T)
     exact List.singleton_sublist.mpr (Am _ hf))
    exact B5 hD rfl rfl ha2 okf
   ·exact offT f hf
  have hF:=hC.thaw fresh hE
  have r2:=Nl (y:=(⟨some (.ref a),.dat .ow (.dict (Qr ks)),[a]⟩ : Ent)) e5
  have:=k1 ⟨δ2.sl.set n (.dat .ow (.dict (Qr ks))),δ2.n⟩ (S2.set n ⟨some (.ref a),.dat .ow (.dict (Qr ks)),[a]⟩) H (by
   unfold Sl at e4 ⊢
   rw[Eg,e4]) (hF.perm (r2.append_right T).symm) g3
  rw[eV e5] at this
  exact this
end
def Ze:D2:=λx y P=>match x,y with
 | .dat _ (.dict X),.dat _ k=>∃a ks w d,X=Vt a ks/\k=Bv w/\Yt ks w=some d/\P (.dat .ow d)
 | _,_=>False
theorem xK{K:PySem.W.Frag}:oF K O2 Ze:=by
 intro H0 X n S T x y v w F G H Q P hA hd k
 unfold Ze at hd
 split at hd
 ·obtain ⟨a,ks,u,d,rfl,rfl,hg,p⟩:=hd
  obtain ⟨b,rfl,hb⟩:=Vw (hA.told mem_mid)
  obtain ⟨kv,rfl,ha,rel,_⟩:=(hA.told Ek).dicN_inv
  rcases aW u rel with ⟨_,z⟩ | ⟨v',d',h1,h2,h3⟩
  ·rw[z] at hg; cases hg
  ·rw[h2] at hg; cases hg
   exact ⟨a,v',rfl,h1▸kG.t ha hb,k _ _ [] H (hA.drop2.pushI h3) p⟩
 ·exact hd.elim
theorem yC(hu:X.A.units+64<cLine)(ha:Eu X a da)(hb:Eu X b db)(hs:u5 b:=by intro _ _; rfl):Eu X (.Subscript a b pos) (Yk Ze da db):=PE.imp (pI (DU hu) ha hb hs) (dF xK)
end DL
namespace Nd
open PySem PySem.Spec PySem.Calls PyProof.Rows PyProof.V L2 Ts
theorem cF(l:List Value):TriplesOk l->Qu pos (l++[Hd a,Hd b,c])=some v->Qu pos l=some v\/v=c:=by
 fun_induction TriplesOk l with
 | case1 =>
  intro _ e
  simp only[Tw,Qu,Hd] at e
  split at e
  ·exact .inr (Bl e).symm
  ·simp [Qu] at e
 | case2 a' t b' u x Fz ih =>
  intro h e
  simp only[Dl,Qu] at e ⊢
  split at e
  ·rename_i hc; rw[if_pos hc]; exact .inl e
  ·rename_i hc; rw[if_neg hc]; exact ih h e
 | case3 l h1 h2=>intro h; exact h.elim
section
variable{X:Cx}{pins:List (Addr×Obj)}{σ:List (Option V)}{H:Hp}{s:Ai}
theorem P9(I:Inv X pins σ H s)(hx:x∈Pt)(ht:PySem.W.tabIn X.K x=some (c,P))(hcode:X.env.code=.ref c)(hq:X.env.qual ++ "<lambda>" = cE x)(hdef:defaultsOf params X.env=([],[]))(hcl:bU scope X.env=pure clos)(h:∀(f c':Addr) (pm ctv:Value) (H1:Hp) (s1:Ai),Inv X pins σ H1 s1->Mg H H1->s1.heap.get? f=some (PySem.W.kla_obj "<lambda>" (cE x) params body scope clos pm c' ctv)->s1.heap.CodeRec (.ref c') (cE x)->Q (.ref f) s1):wpAny (model X.prog X.w) X.A (eval (.Lambda params body scope pos) X.env) Q X.xe s:=by
 obtain ⟨C0,B0,ps,t0,hP,hps⟩:=(I.ok.tab.un I.base) x hx c P ht
 obtain ⟨qs,gP,tri,each⟩:=(show Hk X.prog X.w H s.heap P (.tbl ps) from I.hok P _ hP)
 have C:=C0.keeps I.bk
 have B:s.heap.BuiltinsAt X.mg P:=by
  obtain ⟨bm,o,b1,b2,b3,b4,b5,r⟩:=B0
  exact ⟨bm,o,b1,b2,b3,b4,I.bk _ _ b5,r⟩
 have G:s.heap.Ns Cd X.mg:=I.mod.glob.keeps I.bk
 refine PySem.W.kla_eval hdef ?_
 rw[hq]
 cases hf:Qu pos qs.toList with
 | some cv =>
  obtain ⟨c1,oc,us,q,t,t1,rfl,h2,h3,h4,h5,h6⟩:=each pos cv hf
  rw[hps] at h6
  cases h6
  refine PySem.W.kla_makeFunctionHit (mg:=X.mg) hcl I.ok.glob G hcode C gP tri hf B λctv h' tk hk hsz=>?_
  exact h _ c1 _ ctv H _ (I.kept (t':=tk) λb u e=>Af _ (hk b u e)) (λ_ _ e=>e) (Bb _ rfl) ⟨c1,oc,us,t,rfl,Af _ (hk _ _ h3),h4,h5⟩
 | none =>
  have hgP:Cd≠P:=λz=>by
   obtain ⟨o,es,ep,e,d,_⟩:=G
   rw[z,gP] at e; cases e; cases d
  refine PySem.W.kla_makeFunction (mg:=X.mg) hcl I.ok.glob G hcode C gP tri hf hgP B λc' ctv h' tk hx' hge hlt hrec htb=>?_
  have Hn:H c'=none:=I.hok.fresh hge
  have neP:∀b,H b=none->b≠P:=λb n z=>by rw[z,hP] at n; cases n
  obtain ⟨c2,oc,us,t,e2,g3,g4,g5⟩:=id hrec
  cases e2
  have ncP:c'≠P:=neP c' Hn
  generalize hfo:(PySem.W.kla_obj "<lambda>" (cE x) params body scope clos ((X.mg "__name__").getD .none) c' ctv)=fo
  have keepH:∀b o,b≠P->s.heap.get? b=some o->(h'.push fo).get? b=some o:=λb o n e=>Af _ (hx' b o n e)
  have gPn:(h'.push fo).get? P=some { cls:=.none,data:=.fields (qs++#[Hd pos.line,Hd pos.col,.ref c']) }:=Af _ htb
  have hok:Vr X.prog X.w (upd H c' (.own P)) (h'.push fo):=λb u e=>by
   by_cases hb:b=c'
   ·subst hb
    rw[Cm] at e
    cases e
    exact ⟨oc,Af _ g3⟩
   ·rw[Cj hb] at e
    by_cases hbP:b=P
    ·subst hbP
     rw[hP] at e
     cases e
     refine ⟨_,gPn,by rw[Cy]; exact TriplesOk_snoc _ _ _ _ tri,λpos' v y=>?_⟩
     rw[Cy] at y
     rcases cF qs.toList tri y with y | rfl
     ·obtain ⟨c1,oc1,us1,q1,t1,t2,r1,r2,r3,r4⟩:=each pos' v y
      have n1:c1≠c':=λz=>by rw[z,Hn] at r2; cases r2
      exact ⟨c1,oc1,us1,q1,t1,t2,r1,by rw[Cj n1]; exact r2,keepH _ _ (λz=>by rw[z,hP] at r2; cases r2) r3,r4⟩
     ·exact ⟨c',oc,us,_,t,t0,rfl,Cm,Af _ g3,g4,g5,hps⟩
    ·refine (I.hok b u e).stay (λd v hc q=>keepH d v ?_ q) (λd q=>by rw[Cj (Dc q Hn)]; exact q) λd xs q=>by rw[Cj (Dc q Hn)]; exact q
     rcases hc with rfl | hc
     ·exact hbP
     ·intro z; rw[z,hP] at hc; cases hc
  have I1:Inv X pins σ (upd H c' (.own P)) { s with heap:=h'.push fo,toks:=tk }:=by
   refine I.step (g':=s.gens) (d':=s.drawn) (t':=tk) (ch:=[]) (λ_ z=>nomatch z) (λb o _ _ _ e n=>keepH b o (neP b n) e) (λb o _ _ _ e n=>⟨o.slots,keepH b o (neP b n) e⟩) (λb o _ e n=>?_) (λb o _ e=>?_)
    (λb xs e=>by rw[Cj (Dc e Hn)]; exact e) (λb o u e=>by rw[Cj (Dc e Hn)]; exact e) (λb xs e=>⟨#[],by rw[Cj (Dc e Hn),e]; simp⟩) (λm hm=>?_) hok I.bare
   ·rw[Cj (By (Br (Ba e) hge))]
    exact n
   ·by_cases hb:b=P
    ·subst hb; exact ⟨_,gPn⟩
    ·exact ⟨o,keepH b o hb e⟩
   ·obtain ⟨o,es,ep,e,r⟩:=hm
    exact ⟨o,es,ep,keepH _ o (neP _ I.free) e,r⟩
  refine h _ c' ((X.mg "__name__").getD .none) ctv _ _ I1 (λb o e=>by rw[Cj (Dc e Hn)]; exact e) ?_ ⟨c',oc,us,t,rfl,Af _ g3,g4,g5⟩
  rw[<- hfo]
  exact Bb _ rfl
end
section
variable{prog:Bo}{w:World}{A:Cn}{E:Value->Ai->Prop}{s:Ai}
theorem oI{env:Env}{p1 p2 p3 p4 p5 p6:Pos}{its us:List Value}(hk:env.scope.kind=.function)(hn:env.kindOf "number" = some .local)(hw:env.kindOf "words" = some .free)(hl:env.kindOf "len" = some .globalImplicit)(hm:s.heap.Ns env.locals m)(hv:m "number" = some (.int i t))(hc:env.cells.lookup ("words" : Str)=some c)(hcv:s.heap.IsCell c (some (.ref l)))(hg:s.heap.Ns env.globals mg)(hg0:mg "len" = none)(hb:s.heap.Ns env.builtins mb)(hb0:mb "len" = some (.builtin "len"))(hL:s.heap.IsList l its.toArray)(h0:0<=i)(hi:i<2 ^ 63)(hr:its.toArray[i.toNat]? = some (.ref r))(hT:IsTup s.heap r us.toArray)(hz:us.length<2 ^ 62)(h:∀t' tk,R (.int (-(us.length:Int)) t') { s with toks:=tk }):wpAny (model prog w) A (eval (.UnaryOp .USub (.Call (.Name "len" p1) [.Subscript (.Name "words" p2) (.Name "number" p3) p4] [] p5) p6) env) R E s:=by
 refine UnaryOp_ (Hv (Pd hk hl (iH hg hg0 hb hb0 ?_)))
 refine Vc ?_ rfl rfl
 refine Ha (Vl (Qy (Zk hk hw hc hcv (Qy (Yc hk hn hm hv ?_) (by decide))) (by decide)))
 refine item_listR hL h0 hi hr (Lr ?_)
 refine len_tuple hT (by rw[Aq]; omega) (neg_int ?_)
 rw[Aq]
 exact h _ _
end
theorem oE{K:PySem.W.Frag}(h:Kb K H p xs)(s:Mg H H1):Kb K H1 p xs:=by
 rcases h with (h | ⟨o,h⟩) | h
 ·exact .inl (.inl (s _ _ h))
 ·exact .inl (.inr ⟨o,s _ _ h⟩)
 ·exact .inr h
theorem P3{K:PySem.W.Frag}(h:Vh K H p xs)(s:Mg H H1):Vh K H1 p xs:=by
 rcases h with (h | ⟨o,h⟩) | h
 ·exact .inl (.inl (s _ _ h))
 ·exact .inl (.inr ⟨o,s _ _ h⟩)
 ·exact .inr h
structure LamOf(X:Cx)(x:Str)(params:Um)(body:Expr)(scope:Scope)(pn:Str)(clos:List (Str×Addr)):Prop where
 mem:x∈Pt
 tab:∃c P,PySem.W.tabIn X.K x=some (c,P)/\X.env.code=.ref c
 qual:X.env.qual ++ "<lambda>" = cE x
 dfl:defaultsOf params X.env=([],[])
 cl:bU scope X.env=pure clos
 bind:∀(pm cd ctv v:Value),bindArgs (PySem.W.kla_fn "<lambda>" (cE x) params body scope clos pm cd ctv) ⟨[v],[]⟩=pure [(pn,v)]
 loc:scope.names.lookup pn=some .local
 co:scope.isCoroutine=false
 gen:scope.isGenerator=false
 kind:scope.kind=.function
 cell:∀y∈scope.names,y.2≠.cell
end Nd
namespace DL
open PySem PySem.Spec PyProof.Rows L2 Nd Ts
section
variable{P:Bo}{w:World}{K:PySem.W.Frag}{mg:Str->Option Value}{base:Heap}
theorem u6{x qual:Str}{st:Stmt}(F:Fun K x qual st f fd)(S:FnScope N ps (Bu st))(len:∀vs H Q E,sp vs H Q E->vs.length=ps.length)(hbody:∀(cdv:Value) (A:Cn) (outer:List Env) (s:Ai) (H:Hp) (vs:List V) (Q:VK) (E:XK),fd.code=cdv->Room k (A.deeper (envOfC qual (Bu st) s.heap.objs.size f cdv))->sp vs H Q E->∃t,mZ (Mh Ib P w K mg base N qual (Bu st) f cdv A outer s H E).nox (Iw st) t/\t { nx:=λ_ H'=>Q .non H',rt:=Q } (L2.start N vs) H):FnOk P w K mg base Ib (k+1) f fd ps sp:=by
 obtain ⟨oc,od,kV,doc,pm,an,cdv,ct,osl,rfl,lk,hcd⟩:=F.ex
 refine L5 lk hcd S len λA outer s H vs Q E hr hsp=>?_
 obtain ⟨t,h,q⟩:=hbody cdv A outer s H vs Q E rfl hr hsp
 exact ⟨t,h.nox,q⟩
theorem yY{x qual:Str}{st:Stmt}(F:Fun K x qual st f fd)(S:FnScope N ps (Bu st))(hb:∀(cdv:Value) (A:Cn) (outer:List Env) (s:Ai) (H:Hp) (E:XK),fd.code=cdv->Room k (A.deeper (envOfC qual (Bu st) s.heap.objs.size f cdv))->Yo (Mh Ib P w K mg base N qual (Bu st) f cdv A outer s H E).nox (Iw st) db)(h:∀ds R,pf ds R->ds.length=ps.length/\db (retE R) ⟨args0 ds (N.length - ps.length),0⟩):FnOk P w K mg base Ib (k+1) f fd ps (Vg K pf):=by
 refine u6 F S (λvs H Q E z=>?_) λcdv A outer s H us Q E hcv hr z=>?_
 ·obtain ⟨As,n,ds,R,eu,ok,q,hp,_⟩:=z
  have l1:=(h ds R hp).1
  have l2:=Jp q
  rw[Ac] at l2
  have l3:=congrArg Fm eu
  rw[Ac,Ac] at l3
  omega
 ·obtain ⟨As,n,ds,R,eu,ok,q,hp,k1⟩:=z
  obtain ⟨l1,hd⟩:=h ds R hp
  have l2:=Jp q
  rw[Ac] at l2
  have l3:=congrArg Fm eu
  rw[Ac,Ac] at l3
  refine ⟨_,hb cdv A outer s H E hcv hr,H,λ_=>False,As.map iR++Jy (N.length - ps.length),[],⟨args0 ds (N.length - ps.length),0⟩,retE R,?_,?_,λ_ z=>(nomatch z),?_,hd,λδ' S' H' e1 hA p=>?_,λx δ' v F' S' H' e1 hA p=>?_,λ_ _ _ _ _ p=>p.elim,λ_ _ _ _ _ p=>p.elim⟩
  ·unfold vs L2.start Jy
   rw[Bh,X2,eu,Ox,show us.length=ps.length by omega]
  ·unfold Sl args0 Jy
   rw[Bh,Wj q,Ox]
  ·rw[Dj]
   have hs:=gW q (N.length - ps.length)
   refine ⟨λe he=>?_,Rk λa ha b hb'=>⟨λhq c hc=>?_,λhq c hc=>?_⟩,λe he a ha=>?_,λb o _ e=>e,λb o e=>⟨o,e⟩,λb hb=>hb.elim⟩
   ·have:=zE q ok (N.length - ps.length) e he
    obtain ⟨v,x,F⟩:=e
    cases x with
    | drw=>exact absurd (hs _ he).2 (by show ¬ (true=false); decide)
    | _=>exact this
   ·rw[(hs a ha).1] at hc; cases hc
   ·rw[(hs b hb').1] at hc; cases hc
   ·rw[(hs e he).1] at ha; cases ha
  ·exact k1 .non .none [] H' p .non Co (λ_ z=>(nomatch z)) λb o e=>hA.same b o (λz=>z) e
  ·obtain ⟨d,rfl,r⟩:=p
   rw[show S'++[(⟨some v,.dat .ow d,F'⟩ : Ent)]=S'++⟨some v,.dat .ow d,F'⟩::[] from rfl] at hA
   obtain ⟨u,e2,rd,nd,_⟩:=hA.ok _ mem_mid
   cases e2
   refine k1 v d F' H' r rd (nd rfl) (λa ha=>?_) λb o e=>hA.same b o (λz=>z) e
   rcases hA.new _ mem_mid a ha with z | z
   ·exact z
   ·exact z.1.elim
end
theorem code_tab{K:PySem.W.Frag}{st:Stmt}(nm:PySem.W.nsIn K Cd x=some (some (.ref f)))(F:Fun K x qual st f fd)(t:PySem.W.tabIn K x=some (c,P)):fd.code=.ref c:=by
 obtain ⟨oc,od,kV,doc,pm,an,cdv,ct,osl,e,lk,hcd⟩:=F.ex
 unfold PySem.W.tabIn at t
 rw[nm] at t
 dsimp only at t
 rw[lk] at t
 dsimp only at t
 split at t
 ·rename_i c2 h
  rw[h]
  split at t
  ·split at t
   ·cases t; rfl
   ·cases t
  ·cases t
 ·cases t
theorem tab_mk{K:PySem.W.Frag}{x qual:Str}{st:Stmt}{vs:Array Value}(nm:PySem.W.nsIn K Cd x=some (some (.ref f)))(F:Fun K x qual st f fd)(hc:fd.code=.ref c)(lc:K.lookup c=some ⟨o2,d2,.fields vs,sl2⟩)(hv:vs[11]? = some (.ref P)):PySem.W.tabIn K x=some (c,P):=by
 obtain ⟨oc,od,kV,doc,pm,an,cdv,ct,osl,e,lk,hcd⟩:=F.ex
 unfold PySem.W.tabIn
 rw[nm]
 dsimp only
 rw[lk]
 dsimp only
 rw[hc]
 dsimp only
 rw[lc]
 dsimp only
 rw[hv]
theorem tab_no{K:PySem.W.Frag}(nm:PySem.W.nsIn K Cd x=some none):PySem.W.tabIn K x=none:=by
 unfold PySem.W.tabIn
 rw[nm]
end DL
namespace HT
open PySem PyProof.Rows
theorem wO(A:Cn)(s:Ai)(a:Int)(t:Tok)(c:Int)(u:Tok)(prog:Bo)(w:World)(E:Value->Ai->Prop)(Q:Value->Ai->Prop)(h:Q (.bool (decide (c<a))) s):wpAny (model prog w) A (richCompare .Gt (.int a t) (.int c u)) Q E s :=
 (PyProof.Rows.gt_int h:wpAny (model prog w) A (Ho .Gt (.int a t) (.int c u)) Q E s)
section
open PySem.SeqAt
open PySem.AutoSeq1 (wpAny_loadPart')
open PySem.MeetsSeq PySem.MeetsSeq2 PySem.MeetsSeq3
theorem cG(l b:Addr)(items items2:Array Value)(n n2:Nat)(dd dd2:Option Addr)(sl sl2:Array (Option Value))(ns ms:List Int)(hi:Ey items.toList ns)(hj:Ey items2.toList ms):Meets (Builtin.«tuple.__gt__» ⟨[.ref l,.ref b],[]⟩) (λ_ R s=>s.heap.get? l=some { cls:=.type "tuple",dict:=dd,data:=.seq items n,slots:=sl }/\s.heap.get? b=some { cls:=.type "tuple",dict:=dd2,data:=.seq items2 n2,slots:=sl2 }/\R (.ok (.ret (.bool (lexLt ms ns)))) s) :=
 .of_wp λprog w A R s h=>by
  obtain ⟨hp,g,d,tk,os⟩:=s; obtain ⟨hl,hb,h⟩:=h
  have f2:=cK
  have z1:items.size=ns.length:=by rw[<- hi.length]; simp
  have z2:items2.size=ms.length:=by rw[<- hj.length]; simp
  wp_walk using Jt hl,Jt hb,wpAny_forIn_list _ (λFz b s'=>b.1=none/\s'=⟨hp,g,d,tk,os⟩/\∃(vs ws:List Value) (ns' ms':List Int),Fz=vs.zip ws /\
   Ey vs ns'/\Ey ws ms'/\ns'.length+items2.size=ms'.length+items.size/\R (.ok (.ret (.bool (lexLt ms' ns')))) ⟨hp,g,d,tk,os⟩) _
  case turn =>
   (rintro ⟨y,x⟩ Fz b s' q_; obtain ⟨hb',rfl,vs,ws,ns',ms',hz,hvi,hwi,hlen,hR⟩ := q_)
   cases hvi with
   | nil=>rw[List.zip_nil_left] at hz; cases hz
   | cons a t hvi' =>
    cases hwi with
    | nil=>rw[List.zip_nil_right] at hz; cases hz
    | cons c u hwi' =>
     rw[Lb] at hz
     injection hz with hyx hrest
     injection hyx with hy hx
     subst hy hx
     rw[lexLt_cons] at hR
     simp only[Bp] at hlen
     obtain ⟨e,he,hiff⟩:=kO A.in1 ⟨hp,g,d,tk,os⟩ a t c u
     refine Ab (he prog w _ _ ?_)
     cases e with
     | true =>
      rw[if_pos (hiff.mp rfl).symm] at hR
      wp_walk
      exact ⟨rfl,rfl,_,_,_,_,hrest,hvi',hwi',by omega,hR⟩
     | false =>
      rw[if_neg (λq=>absurd (hiff.mpr q.symm) Bq)] at hR
      have hri:=wO A.in1 ⟨hp,g,d,tk,os⟩ a t c u prog w
      wp_walk using hri
      exact ⟨_,rfl,by simpa using hR⟩
  case fin =>
   (rintro ⟨b1,b2⟩ s' q_; obtain ⟨hb',rfl,vs,ws,ns',ms',hz,hvi,hwi,hlen,hR⟩ := q_)
   simp only at hb'
   subst hb'
   have hv:lexLt ms' ns'=decide (items2.size<items.size):=by
    cases hvi with
    | nil =>
     cases hwi with
     | nil =>
      simp only[Gr] at hlen
      rw[lexLt_nil_nil]
      exact (decide_eq_false (by omega)).symm
     | cons c u hw =>
      simp only[Gr,Bp] at hlen
      rw[lexLt_cons_nil]
      exact (decide_eq_false (by omega)).symm
    | cons a t hv =>
     cases hwi with
     | nil =>
      simp only[Gr,Bp] at hlen
      rw[lexLt_nil_cons]
      exact (decide_eq_true (by omega)).symm
     | cons c u hw =>
      rw[Lb] at hz
      cases hz
   rw[hv] at hR
   wp_walk
   exact ⟨_,rfl,by simpa [Ud] using hR⟩
  case h =>
   exact ⟨rfl,rfl,items.toList,items2.toList,ns,ms,rfl,hi,hj,by omega,h⟩
end
section
variable{prog:Bo}{w:World}{A:Cn}{E:Value->Ai->Prop}{s:Ai}
theorem gt_tupInts(hl:IsTup s.heap l items)(hb:IsTup s.heap b items2)(hi:Ey items.toList ns)(hj:Ey items2.toList ms)(hu:A.units<cLine)(h:Q (.bool (lexLt ms ns)) s):wpAny (model prog w) A (Ho .Gt (.ref l) (.ref b)) Q E s:=by
 obtain ⟨⟨cls,dd,data,sl⟩,ho,hc,n,hd⟩:=id hl
 obtain ⟨⟨cls2,dd2,data2,sl2⟩,ho2,hc2,n2,hd2⟩:=id hb
 simp only at hc hd hc2 hd2
 subst hc hd hc2 hd2
 exact richCompare_meets_room (op:=.Gt) ⟨_,ho,rfl⟩ ⟨_,ho2,rfl⟩ PySem.F.slot_tuple_gt PySem.F.entry_tuple_gt (PySem.F.args_tuple_gt_2 _ _) (cG l b items items2 n n2 dd dd2 sl sl2 ns ms hi hj)
  ⟨ho,ho2,show Value.bool (lexLt ms ns)≠Value.notImplemented/\Q (.bool (lexLt ms ns)) s from ⟨(λx=>nomatch x),h⟩⟩ hu
end
end HT
namespace Nd
open PySem PySem.Spec PySem.Calls PyProof.Rows PyProof.V L2 Ts
def CG(kl:Nat->List Int)(vs:List Value)(h:Heap)(S I:Addr)(j:Nat)(its:Array Value):Prop:=(j=0/\its=#[])\/∃(i:Nat) (v:Value) (r:Addr) (items:Array Value),i<j/\vs[i]? = some v/\its=#[v,.ref r]/\r≠S/\r≠I /\
 IsTup h r items/\Ey items.toList (kl i)/\∀j',j'<j->HT.lexLt (kl i) (kl j')=false
section
variable{prog:Bo}{w:World}{A:Cn}{E:Value->Ai->Prop}{s:Ai}{R:Result->Ai->Prop}{I S l f:Addr}{h0:Heap}{vs:List Value}{kl:Nat->List Int}
theorem sJ(hh:A.handled=none)(hu:A.in1.units<cLine)(hlI:l≠I)(hSI:S≠I)(nI:h0.get? I=none)(nS:h0.get? S=none)(hl:h0.IsList l vs.toArray)(hne:0<vs.length)(turn:∀(i:Nat) (v:Value),vs[i]? = some v->∀(h:Heap) (tk:Nat),Gh h0 h->∀Rr:Value->Ai->Prop,(∀r items h2 tk2,Gh h h2->h.objs.size<=r->IsTup h2 r items->Ey items.toList (kl i)->Rr (.ref r) { s with heap:=h2,toks:=tk2 })->wpAny (model prog w) A.in1 (call (.ref f) [v]) Rr (λ_ _=>False) { s with heap:=h,toks:=tk })(hR:∀i v h' tk',vs[i]? = some v->(∀j,j<vs.length->HT.lexLt (kl i) (kl j)=false)->Gh h0 h'->R (.ok (.ret v)) { s with heap:=h',toks:=tk' }):∀(k j:Nat) (h:Heap) (tk:Nat) (its:Array Value) (c:Nat),vs.length - j=k->j<=vs.length->Gh h0 h->h.IsListIter I l j->h.get? S=some (Cw "list" its c)->CG kl vs h S I j its->Mx (model prog w) A (.builtin "max.loop" ⟨[.ref I,.ref f,.ref S],[]⟩) R { s with heap:=h,toks:=tk }:=by
 have hname:(Qz "max" ++ Qz ".loop" : String) = "max.loop" := by decide
 have W:=Walks.list (prog:=prog) (w:=w) (A:=A.in1) hh I l hlI vs.toArray
 have hsz:vs.toArray.size=vs.length:=Aq ..
 have up0:∀{h h':Heap},Gh h0 h->(∀b o,b∉[I]->h.get? b=some o->h'.get? b=some o)->Gh h0 h':=λk k' b o e=>k' b o (λz=>by rw[Ag.mp z,nI] at e; cases e) (k b o e)
 have lst:∀{h:Heap},Gh h0 h->h.IsList l vs.toArray:=λk=>by
  obtain ⟨o,ho,r⟩:=hl
  exact ⟨o,k _ _ ho,r⟩
 intro k
 induction k with
 | zero =>
  intro j h tk its c hk hj K hit hS hB
  have hin:j=vs.length:=by omega
  rcases hB with ⟨z,_⟩ | ⟨i,v,r,items,hi,hv,rfl,rS,rI,ht,hks,hmax⟩
  ·omega
  refine Wr PySem.F.entry_max_loop ?_
  rw[Ms PySem.F.plain_max_loop _]
  show wpAny _ A.in1 (seqItems? (.ref S) >>= _) _ _ _
  refine Ab (Fq hS rfl ?_)
  show wpAny _ A.in1 (tryCatch (Kn (.ref I)) _ >>= _) _ _ _
  refine Ab (Qx (W.done _ _ _ ⟨by rw[hsz,<- hin]; exact hit,lst K⟩ λh' tk' hk'=>?_))
  have hS':=hk' S _ (by simpa using hSI) hS
  show wpAny _ A.in1 (updateSeq S (λ_=>#[]) >>= _) _ _ _
  refine Ab ?_
  refine wpAny_updateSeq hS' rfl (Ab (Mj (Ao ?_)))
  exact hR i v _ _ hv (λj' hj'=>hmax j' (by omega)) (Nm (up0 K hk') nS)
 | succ k ih =>
  intro j h tk its c hk hj K hit hS hB
  have hlt:j<vs.length:=by omega
  refine Wr PySem.F.entry_max_loop ?_
  rw[Ms PySem.F.plain_max_loop _]
  show wpAny _ A.in1 (seqItems? (.ref S) >>= _) _ _ _
  refine Ab (Fq hS rfl ?_)
  show wpAny _ A.in1 (tryCatch (Kn (.ref I)) _ >>= _) _ _ _
  refine Ab (Qx (W.item j _ _ _ (by rw[hsz]; exact hlt) ⟨hit,lst K⟩ λv h' tk' hP hst' hk'=>?_))
  have hv:vs[j]? = some v:=by simpa using hP
  obtain ⟨oI',hoI',hoc,hod⟩:=id hst'.1
  have K1:=up0 K hk'
  have hS1:=hk' S _ (by simpa using hSI) hS
  show wpAny _ A.in1 (tryCatch (So [v] (call (.ref f) [v])) _ >>= _) _ _ _
  refine Ab (Qx (Df (Eo (turn j v hv h' tk' K1 (λx s''=>∃r items h2 tk2,x=.ref r/\s''={ s with heap:=h2,toks:=tk2 }/\Gh h' h2/\h'.objs.size<=r/\IsTup h2 r items/\Ey items.toList (kl j)) λr items h2 tk2 a1 a2 a3 a4=>⟨r,items,h2,tk2,rfl,rfl,a1,a2,a3,a4⟩) (λx s'' he=>?_) λ_ _ hF=>hF.elim)))
  obtain ⟨r2,items2,h2,tk2,rfl,rfl,K2,sr,ht2,hks2⟩:=he
  have hS2:=K2 _ _ hS1
  have hI2:=K2 _ _ hoI'
  have r2S:r2≠S:=λz=>Gf _ (Br (Ba hS1) (by rw[<- z]; exact sr))
  have r2I:r2≠I:=λz=>Gf _ (Br (Ba hoI') (by rw[<- z]; exact sr))
  have put:∀{c:Nat},True->∃c2,(h2.update S (Cg λ_=>#[v,.ref r2])).get? S=some (Cw "list" #[v,.ref r2] c2):=λ_=>⟨_,Ju hS2 λ_=>#[v,.ref r2]⟩
  obtain ⟨c2,hc2⟩:=put (c:=c) trivial
  have s1:=Cf h2 S (Cg λ_=>#[v,.ref r2])
  have ht3:IsTup (h2.update S (Cg λ_=>#[v,.ref r2])) r2 items2:=by
   obtain ⟨o,ho,rr⟩:=ht2
   exact ⟨o,(s1.2 r2 r2S).trans ho,rr⟩
  rcases hB with ⟨z,rfl⟩ | ⟨i,vb,r,items,hi,hvb,rfl,rS,rI,ht,hks,hmax⟩
  ·subst z
   show wpAny _ A.in1 (updateSeq S (λ_=>#[v,.ref r2]) >>= _) _ _ _
   refine Ab ?_
   refine wpAny_updateSeq hS2 rfl ?_
   rw[hname]
   refine Ao ⟨Ol PySem.F.plain_max_loop _,ih 1 _ _ _ c2 (by omega) hlt (Nm (K1.trans K2) nS) ⟨oI',(s1.2 I hSI.symm).trans hI2,hoc,hod⟩ hc2 (.inr ⟨0,v,r2,items2,by omega,hv,rfl,r2S,r2I,ht3,hks2,λj' hj'=>?_⟩)⟩
   obtain rfl:j'=0:=by omega
   exact Za _
  ·have htb:IsTup h2 r items:=by
    obtain ⟨o,ho,rr⟩:=ht
    exact ⟨o,K2 _ _ (hk' r o (by simpa using rI) ho),rr⟩
   show wpAny _ A.in1 (tryCatch (So [v,.ref r2] (richCompare .Gt (.ref r2) (.ref r) >>= _)) _ >>= _) _ _ _
   refine Ab (Qx (Df (Ab (HT.gt_tupInts ht2 htb hks2 hks hu ?_))))
   refine Ab (Df (Gv ?_))
   refine Ab (Mj (Ao ?_))
   cases hb':HT.lexLt (kl i) (kl j) with
   | true =>
    simp only[if_true]
    refine Ab ?_
    refine wpAny_updateSeq hS2 rfl (Ab (Mj ?_))
    rw[hname]
    refine Ao ⟨Ol PySem.F.plain_max_loop _,ih (j+1) _ _ _ c2 (by omega) hlt (Nm (K1.trans K2) nS) ⟨oI',(s1.2 I hSI.symm).trans hI2,hoc,hod⟩ hc2 (.inr ⟨j,v,r2,items2,by omega,hv,rfl,r2S,r2I,ht3,hks2,λj' hj'=>?_⟩)⟩
    by_cases e:j'=j
    ·subst e; exact Za _
    ·cases q:HT.lexLt (kl j) (kl j') with
     | false=>rfl
     | true =>
      have:=fK hb' q
      rw[hmax j' (by omega)] at this
      cases this
   | false =>
    simp only[Ca,if_false]
    refine Ab (Mj ?_)
    rw[hname]
    refine Ao ⟨Ol PySem.F.plain_max_loop _,ih (j+1) _ _ _ _ (by omega) hlt (K1.trans K2) ⟨oI',hI2,hoc,hod⟩ hS2 (.inr ⟨i,vb,r,items,by omega,hvb,rfl,rS,rI,htb,hks,λj' hj'=>?_⟩)⟩
    by_cases e:j'=j
    ·subst e; exact hb'
    ·exact hmax j' (by omega)
theorem sP(hh:A.handled=none)(hu:A.in1.units<cLine)(hl:s.heap.IsList l vs.toArray)(hne:0<vs.length)(turn:∀(i:Nat) (v:Value),vs[i]? = some v->∀(h:Heap) (tk:Nat),Gh s.heap h->∀Rr:Value->Ai->Prop,(∀r items h2 tk2,Gh h h2->h.objs.size<=r->IsTup h2 r items->Ey items.toList (kl i)->Rr (.ref r) { s with heap:=h2,toks:=tk2 })->wpAny (model prog w) A.in1 (call (.ref f) [v]) Rr (λ_ _=>False) { s with heap:=h,toks:=tk })(hQ:∀i v h' tk',vs[i]? = some v->(∀j,j<vs.length->HT.lexLt (kl i) (kl j)=false)->Gh s.heap h'->Q v { s with heap:=h',toks:=tk' }):wpAny (model prog w) A (call (.builtin "max") [.ref l] [(Ei "key",.ref f)]) Q E s:=by
 have hname:(Qz "max" ++ Qz ".loop" : String) = "max.loop" := by decide
 obtain ⟨ol,hol,_⟩:=id hl
 have hll:l<s.heap.objs.size:=Ba hol
 refine kmb_tree PySem.F.kind_max PySem.F.plain_max PySem.F.entry_max (kmb_max_key _ _) ?_
 show wpAny _ A.in1 (Uk "max" ["key", "default"] 0 ⟨[],[(Ei "key",.ref f)]⟩ >>= _) _ _ s
 refine Ab (wpAny_of_eq (show Uk "max" ["key", "default"] 0 ⟨[],[(Ei "key",.ref f)]⟩=pure [some (.ref f),none] from rfl) ?_)
 refine Ab (Ao ?_)
 refine Ab (Sn hl ?_)
 refine Ab (Tr ?_ (Cr _))
 rw[hname]
 have hS:(s.heap.push { cls:=.type "list_iterator",data:=.fields #[.ref l,.int 0 0] }).objs.size=s.heap.objs.size+1:=Ra ..
 refine Ao ⟨Ol PySem.F.plain_max_loop _,sJ (s:=s) (h0:=s.heap) (l:=l) (I:=s.heap.objs.size) (S:=(s.heap.push { cls:=.type "list_iterator",data:=.fields #[.ref l,.int 0 0] }).objs.size) (vs:=vs) (kl:=kl) hh hu (By hll) (by rw[hS]; exact Nat.succ_ne_self _) (Ng (Ak _)) (Ng (by rw[hS]; omega)) hl hne turn
  (λi v h' tk' h1 h2 h3=>hQ i v h' tk' h1 h2 h3) vs.length 0 _ _ #[] 0 (by omega) (Cr _) (λb o e=>Af _ (Af _ e)) ⟨_,Af _ (Bb _ rfl),rfl,rfl⟩ (Bb _ rfl) (.inl ⟨rfl,rfl⟩)⟩
end
section
variable{prog:Bo}{w:World}{A:Cn}{E:Value->Ai->Prop}{s:Ai}
theorem tE(hroom:A.depth<Ye)(ho:s.heap.get? f=some (PySem.W.kla_obj "<lambda>" q params body scope clos pm c' ctv))(hcd:s.heap.CodeRec (.ref c') q)(hnl:s.heap.NoLimit)(hbind:bindArgs (PySem.W.kla_fn "<lambda>" q params body scope clos pm (.ref c') ctv) ⟨[v],[]⟩=pure [(x,v)])(hx:scope.names.lookup x=some .local)(hco:scope.isCoroutine=false)(hgen:scope.isGenerator=false)(hk:scope.kind=.function)(hcell:∀y∈scope.names,y.2≠.cell)(hb:∀L h₁,h₁.Ns L (λy=>[(x,v)].reverse.lookup y)->Gh s.heap h₁->s.heap.objs.size<=h₁.objs.size->wpAny (model prog w) (A.deeper (PySem.W.envX q scope L f (.ref c') clos)) (eval body (PySem.W.envX q scope L f (.ref c') clos)) R (λ_ _=>False) { s with heap:=h₁,toks:=s.toks+1 }):wpAny (model prog w) A (call (.ref f) [v]) R E s:=by
 refine wpAny_call (PySem.W.kla_callFunE hroom ho rfl hco hgen rfl hcd ?_)
 rw[hbind]
 refine Ao (wpAny_newFunctionEnv hcell (λy hy=>?_) (λh₁ hns hsb=>⟨hnl.fresh _ hsb,?_⟩) hk)
 ·rw[Ag.mp hy]; exact hx
 have hk₁:Gh s.heap h₁:=λb o e=>hsb.extBut b o (By (Ba e)) (Af _ e)
 exact PySem.W.kla_codeExpr (Eo (hb _ h₁ hns hk₁ (Mc hns.lt)) (λv s' z=>z) λ_ _ z=>z.elim)
theorem wQ{env:Env}{p1 p2 p3 p4 p5 p6 p7 p8 p9 p10:Pos}{m mg mb:Str->Option Value}{its us ins:List Value}(hk:env.scope.kind=.function)(hn:env.kindOf "number" = some .local)(hw:env.kindOf "words" = some .free)(hnm:env.kindOf "numbers" = some .free)(hl:env.kindOf "len" = some .globalImplicit)(hm:s.heap.Ns env.locals m)(hv:m "number" = some (.int i t))(hc:env.cells.lookup ("words" : Str)=some c)(hcv:s.heap.IsCell c (some (.ref l)))(hc2:env.cells.lookup ("numbers" : Str)=some cn)(hcv2:s.heap.IsCell cn (some (.ref ln)))(hg:s.heap.Ns env.globals mg)(hg0:mg "len" = none)(hb:s.heap.Ns env.builtins mb)(hb0:mb "len" = some (.builtin "len"))(hL:s.heap.IsList l its.toArray)(hLn:s.heap.IsList ln ins.toArray)(h0:0<=i)(hi:i<2 ^ 63)(hr:its.toArray[i.toNat]? = some (.ref r))(ha:ins.toArray[i.toNat]? = some (.int a ta))(hT:IsTup s.heap r us.toArray)(hz:us.length<2 ^ 62)(h:∀t' tk,R (.ref s.heap.objs.size) { s with heap:=s.heap.push { cls:=.type "tuple",data:=.seq #[.int a ta,.int (-(us.length:Int)) t'] },toks:=tk }):wpAny (model prog w) A (eval (.Tuple [.Subscript (.Name "numbers" p7) (.Name "number" p8) p9,.UnaryOp .USub (.Call (.Name "len" p1) [.Subscript (.Name "words" p2) (.Name "number" p3) p4] [] p5) p6] x1 p10) env) R E s:=by
 refine wpAny_Tuple_spliced ?_
 refine Ha (Vl (Qy (Zk hk hnm hc2 hcv2 (Qy (Yc hk hn hm hv ?_) (by decide))) (by decide)))
 refine item_listR hLn h0 hi ha ?_
 refine Ha (oI hk hn hw hl hm hv hc hcv hg hg0 hb hb0 hL h0 hi hr hT hz λt' tk=>Lr ⟨?_,?_⟩)
 ·exact sz (by show 2<=1000; decide)
 ·exact h t' tk
end
def Yp(nums:List Int)(kf:Nat->Nat)(k:Nat):List Int:=[nums.getD k 0,-((kf k:Nat):Int)]
def BL(K:PySem.W.Frag)(xs:List V)(wn ww:V)(H:Hp)(Q:VK):Prop:=∃(p:Addr) (ns:List Nat) (pn:Addr) (nums:List Int) (pw:Addr) (rs:List Addr) (kf:Nat->Nat),xs=[.ref p]/\Kb K H p (ns.map λk:Nat=>V.int k)/\ns≠[]/\wn=.ref pn/\Kb K H pn (nums.map V.int)/\ww=.ref pw/\Kb K H pw (rs.map V.ref) /\
 (∀k∈ns,k<nums.length/\k<rs.length)/\(∀(i:Nat) a,rs[i]? = some a->∃ys,Vh K H a ys/\ys.length=kf i)/\∀(M:Nat) (H1:Hp),M∈ns->Mg H H1->(∀x∈ns,HT.lexLt (Yp nums kf M) (Yp nums kf x)=false)->Q (.int M) H1
def AU(K:PySem.W.Frag)(jn jw:Nat)(t:TA):TE:=λσ H Q=>t σ H λxs H1=>∃wn ww,σ[jn]? = some (some wn)/\σ[jw]? = some (some ww)/\BL K xs wn ww H1 Q
section
variable{X:Cx}{e:Expr}{t:TA}{p1 kp pos lp q1 q2 q3 q4 q5 q6 q7 q8 q9 q10:Pos}{x1:Nat}{k jn jw:Nat}{x:Str}{params:Um}{scope:Scope}{cw cn:Addr}
theorem z0(hg:Gl X "max")(hm:X.mg "max" = none)(hml:X.mg "len" = none)(hr:Room k X.A)(hcalm:X.calm=true)(Lm:LamOf X x params (.Tuple [.Subscript (.Name "numbers" q7) (.Name "number" q8) q9,.UnaryOp .USub (.Call (.Name "len" q1) [.Subscript (.Name "words" q2) (.Name "number" q3) q4] [] q5) q6] x1 q10) scope "number" [("words",cw),("numbers",cn)])(hcw:X.env.cells.lookup ("words" : Str)=some cw)(hcn:X.env.cells.lookup ("numbers" : Str)=some cn)(hkc:X.env.kindOf "words" = some .cell)(hkn:X.env.kindOf "numbers" = some .cell)(hN:X.N[jw]? = some "words")(hNn:X.N[jn]? = some "numbers")(hwf:scope.names.lookup ("words" : Str)=some .free)(hnf:scope.names.lookup ("numbers" : Str)=some .free)(hlg:scope.names.lookup ("len" : Str)=some .globalImplicit)(ha:PA X [e] t)(hs:Bm [e] X.env=[(false,eval e X.env)]:=by rfl):PE X (.Call (.Name "max" p1) [e] [⟨some "key",.Lambda params (.Tuple [.Subscript (.Name "numbers" q7) (.Name "number" q8) q9,.UnaryOp .USub (.Call (.Name "len" q1) [.Subscript (.Name "words" q2) (.Name "number" q3) q4] [] q5) q6] x1 q10) scope lp,kp⟩] pos) (AU X.K jn jw t):=by
 intro pins s σ H Q I h
 refine Hv (Mq I hg hm (u:=.builtin "max") (by decide +kernel) ?_)
 refine Yv (Fn (ha pos pins s σ H _ I h) λus s1 ⟨vs,H1,I1,r1,q1⟩=>?_) (by rw[hs]; rfl) (by rw[hs]; rfl)
 obtain ⟨wn,ww,hwn,hww,p,ns,pn,nums,pw,rs,kf,rfl,hpl,hne,rfl,hpn,rfl,hpw,hin,hx',q⟩:=q1
 obtain ⟨u,rfl,ru⟩:=vals1 r1
 cases ru
 obtain ⟨c,P,ht,hcode⟩:=Lm.tab
 refine kws_cons (P9 I1 Lm.mem ht hcode Lm.qual Lm.dfl Lm.cl λf c' pm ctv H2 s2 I2 sm ho hcd=>kws_nil ?_)
 have hs:Av=16777216:=Ie
 have cellOf:∀{nm:Str} {j:Nat} {b a:Addr},X.N[j]? = some nm->X.env.kindOf nm=some .cell->X.env.cells.lookup nm=some b->σ[j]? = some (some (.ref a))->s2.heap.IsCell b (some (.ref a)):=λ{nm j b a} h1 h2 h3 h4=>by
  obtain ⟨m,hns,hl⟩:=I2.loc
  obtain ⟨u,ru,l⟩:=hl j nm (.ref a) h1 h4 (.inr (.inl h2))
  cases ru
  rcases l with ⟨hk,_⟩ | ⟨hk,c1,hc1,hcell⟩
  ·rw[h2] at hk; cases hk
  ·rw[h3] at hc1; cases hc1; exact hcell
 have cellW:=cellOf hN hkc hcw hww
 have cellN:=cellOf hNn hkn hcn hwn
 obtain ⟨its,rv,plw,hz⟩:=I2.list (oE hpw sm)
 have e1:=Sx rv
 subst e1
 obtain ⟨fv,rf,plf,hzf⟩:=I2.list (oE hpl sm)
 obtain ⟨nv,rn,pln,hzn⟩:=I2.list (oE hpn sm)
 have lf:=rf.length
 rw[Ac] at lf
 obtain ⟨mb,hb1,hb2⟩:=I2.mod.blt
 have hbl:mb "len" = some (.builtin "len"):=(hb2 "len" (by decide)).trans (by decide +kernel)
 have atF:∀(i:Nat) (v:Value),fv[i]? = some v->∃k t,ns[i]? = some k/\v=.int (k:Int) t:=λi v hv=>by
  have hi:i<ns.length:=by rw[lf]; exact (Ah.mp hv).1
  obtain ⟨u,h1,t,h2⟩:=rf.get (i:=i) (x:=.int ((ns[i]:Nat):Int)) (by rw[Az,Ap hi]; rfl)
  rw[hv] at h1
  cases h1
  exact ⟨ns[i],t,Ap hi,h2⟩
 refine sP (f:=f) (vs:=fv) (kl:=λi=>Yp nums kf (ns.getD i 0)) (I2.ok.hd hcalm) (show X.A.in1.units<cLine from He (show X.A.units+1<=X.A.units+64 by omega) hr.units) plf.isList (by rw[<- lf]; exact List.length_pos_iff.mpr hne) (λi v hv hh tk hkeep R hR=>?_) λi v h' tk' hv hmax kk=>?_
 ·obtain ⟨k,t,hk,rfl⟩:=atF i v hv
  obtain ⟨b1,b2⟩:=hin k (Au hk)
  have gk:ns.getD i 0=k:=by rw[Cs,hk]; rfl
  obtain ⟨a,hra⟩ : ∃a,rs[k]? = some a:=⟨_,Ap b2⟩
  obtain ⟨ys,hy,hyl⟩:=hx' k a hra
  obtain ⟨us,ru,pt,hz2⟩:=I2.tuple (P3 hy sm)
  have hlu:=ru.length
  obtain ⟨z,hzz⟩ : ∃z,nums[k]? = some z:=⟨_,Ap b1⟩
  obtain ⟨zv,hz3,tz,rfl⟩:=rn.get (i:=k) (x:=.int z) (by rw[Az,hzz]; rfl)
  have gz:nums.getD k 0=z:=by rw[Cs,hzz]; rfl
  have k0:Gh s2.heap hh:=hkeep
  refine tE (x := "number") (show X.A.in1.depth<Ye from hr.depth) (k0 _ _ ho) ?_ ?_ (Lm.bind _ _ _ _) Lm.loc Lm.co Lm.gen Lm.kind Lm.cell λL h₁ hns hk1 sizes=>?_
  ·obtain ⟨c2,oc,vs2,t2,e2,g3,g4⟩:=hcd
   exact ⟨c2,oc,vs2,t2,e2,k0 _ _ g3,g4⟩
  ·exact I2.nolimit.keeps k0
  ·have k2:Gh s2.heap h₁:=k0.trans hk1
   obtain ⟨oL,nL,eL,rL⟩:=plw
   obtain ⟨oN,nN,eN,rN⟩:=pln
   obtain ⟨oc,ec,dc⟩:=cellW
   obtain ⟨oc2,ec2,dc2⟩:=cellN
   obtain ⟨ot,et,dt⟩:=pt
   refine wQ (l:=pw) (ln:=pn) (r:=a) (us:=us) (its:=rs.map Bc) (ins:=nv) (i:=(k:Int)) (t:=t) (a:=z) (ta:=tz) Lm.kind Lm.loc hwf hnf hlg hns rfl rfl ⟨oc,k2 _ _ ec,dc⟩ rfl ⟨oc2,k2 _ _ ec2,dc2⟩ ((I2.mod.glob.keeps I2.bk).keeps k2) hml ((hb1.keeps I2.bk).keeps k2) hbl (PlainL.isList ⟨oL,nL,k2 _ _ eL,rL⟩) (PlainL.isList ⟨oN,nN,k2 _ _ eN,rN⟩) (by omega) (by rw[Ac] at hz; omega) ?_ ?_ ⟨ot,k2 _ _ et,dt⟩ (by omega) λt' tk'=>?_
   ·rw[Et,Ub,Az,hra]; rfl
   ·rw[Et,Ub]; exact hz3
   ·refine hR _ _ _ _ (λb o e=>Af _ (hk1 b o e)) sizes (IsTup.new _ _) ?_
    show Ey [.int z tz,.int (-(us.length:Int)) t'] (Yp nums kf (ns.getD i 0))
    unfold Yp
    rw[gk,gz,<- hyl,hlu]
    exact .cons _ _ (.cons _ _ .nil)
 ·obtain ⟨k,t,hk,rfl⟩:=atF i v hv
  have gk:ns.getD i 0=k:=by rw[Cs,hk]; rfl
  refine ⟨.int k,H2,I2.kept (t':=tk') kk,⟨t,rfl⟩,q k H2 (Au hk) sm λy hy=>?_⟩
  obtain ⟨j,hj⟩:=Fw.mp hy
  have hjl:=(Ah.mp hj).1
  have:=hmax j (by omega)
  rw[gk,Cs,hj] at this
  exact this
end
end Nd
namespace DL
open PySem PySem.Spec PyProof.Rows L2 Nd Ts
def cZ(ws:List (List Int))(i:Nat):Nat:=(ws.getD i []).length
def FB(jn jw:Nat)(x:DV)(δ:DS)(P:DV->DS->Prop):Prop:=match x,δ.sl[jn]?,δ.sl[jw]? with
 | .dat _ (.list ds),some (.dat _ (.list es)),some (.dat _ (.list gs))=>∃(ns:List Nat) (nums:List Int) (ws:List (List Int)),ds=ns.map (λk:Nat=>An k)/\es=nums.map An/\gs=ws.map Bv/\ns≠[]/\(∀k∈ns,k<nums.length/\k<ws.length) /\
  ∀M∈ns,(∀x∈ns,HT.lexLt (Yp nums (cZ ws) M) (Yp nums (cZ ws) x)=false)->P (.dat .ow (.int (M:Nat))) δ
 | _,_,_=>False
def M3(jn jw:Nat)(de:DE):DE:=λδ P=>de δ λx δ1=>FB jn jw x δ1 P
section
variable{X:Cx}{e:Expr}{de:DE}{p1 kp pos lp q1 q2 q3 q4 q5 q6 q7 q8 q9 q10:Pos}{x1:Nat}{k jn jw:Nat}{x:Str}{params:Um}{scope:Scope}{cw cn:Addr}
theorem E4(hc:X.calm=true)(hr:Room k X.A)(hg:Gl X "max")(hm:X.mg "max" = none)(hml:X.mg "len" = none)(Lm:LamOf X x params (.Tuple [.Subscript (.Name "numbers" q7) (.Name "number" q8) q9,.UnaryOp .USub (.Call (.Name "len" q1) [.Subscript (.Name "words" q2) (.Name "number" q3) q4] [] q5) q6] x1 q10) scope "number" [("words",cw),("numbers",cn)])(hcw:X.env.cells.lookup ("words" : Str)=some cw)(hcn:X.env.cells.lookup ("numbers" : Str)=some cn)(hkc:X.env.kindOf "words" = some .cell)(hkn:X.env.kindOf "numbers" = some .cell)(hN:X.N[jw]? = some "words")(hNn:X.N[jn]? = some "numbers")(hwf:scope.names.lookup ("words" : Str)=some .free)(hnf:scope.names.lookup ("numbers" : Str)=some .free)(hlg:scope.names.lookup ("len" : Str)=some .globalImplicit)(ha:Eu X e de)(he:Bm [e] X.env=[(false,eval e X.env)]:=by rfl):Eu X (.Call (.Name "max" p1) [e] [⟨some "key",.Lambda params (.Tuple [.Subscript (.Name "numbers" q7) (.Name "number" q8) q9,.UnaryOp .USub (.Call (.Name "len" q1) [.Subscript (.Name "words" q2) (.Name "number" q3) q4] [] q5) q6] x1 q10) scope lp,kp⟩] pos) (M3 jn jw de):=by
 refine PE.imp (z0 hg hm hml hr hc Lm hcw hcn hkc hkn hN hNn hwf hnf hlg (Fu ha Iu he) he) λσ H Q h=>?_
 obtain ⟨H0,Y,S,T,δ,P,rfl,hS,hA,hd,k⟩:=h
 refine ⟨H0,Y,S,T,δ,_,rfl,hS,hA,hd,λx δ' v F S' H' e1 e2 hA' p=>?_⟩
 unfold FB at p
 split at p
 ·rename_i m ds m' es m2 gs hsn hsw
  obtain ⟨ns,nums,ws,rfl,rfl,rfl,hne,hin,p⟩:=p
  have look:∀{j:Nat} {mm:Md} {d:Ad},δ'.sl[j]? = some (.dat mm d)->∃v G,(vs S)[j]? = some (some v)/\RdF X.K H' v d G:=λ{j mm d} hj=>by
   obtain ⟨⟨u,y,G⟩,es,ex⟩:=Gq e2 hj
   have ex:y=.dat mm d:=ex
   subst ex
   obtain ⟨v,ev,rd,_⟩:=hA'.ok _ (Am _ (Au es))
   have ev:u=some v:=ev
   subst ev
   exact ⟨v,G,by rw[<- e1]; exact Ke es,rd⟩
  obtain ⟨vn,Gn,hvn,rdn⟩:=look hsn
  obtain ⟨vw,Gw,hvw,rdw⟩:=look hsw
  obtain ⟨an,xn,Gn',rfl,hln,ran,_,_⟩:=rdn.list_inv
  obtain ⟨rfl,_⟩:=ran.ints_inv
  obtain ⟨aw,xw,Gw',rfl,hlw,raw,_,hz'⟩:=rdw.list_inv
  obtain ⟨rs,rfl,ews,_,c1,c2⟩:=aV raw rfl
  obtain ⟨a,xs,G',rfl,hla,ra,_,_⟩:=(hA'.told mem_mid).list_inv
  have exs:xs=ns.map λk:Nat=>V.int k:=by
   have e9:(ns.map λk:Nat=>An k)=(ns.map λk:Nat=>(k:Int)).map An:=by rw[Bx]; rfl
   rw[e9] at ra
   obtain ⟨rfl,_⟩:=ra.ints_inv
   rw[Bx]
   rfl
  subst exs
  have lrs:rs.length=ws.length:=by rw[ews,Ac]
  refine ⟨.ref an,.ref aw,hvn,hvw,a,ns,an,nums,aw,rs,cZ ws,rfl,Kb.of hla,hne,rfl,Kb.of hln,rfl,Kb.of hlw,λk hk=>by rw[lrs]; exact hin k hk,λi b hb=>?_,λM H1 hM sm hmax=>?_⟩
  ·refine ⟨_,Vh.of (c1 b (Au hb)),?_⟩
   have : ws[i]? = some (x3 H' b):=by rw[ews,Az,hb]; rfl
   rw[Ac]
   show _=(ws.getD i []).length
   rw[Cs,this]
   rfl
  ·exact k _ δ' _ [] S' _ e1 e2 ((hA'.drop.grow sm (Ak _)).pushI (RdF.int _)) (p M hM hmax)
 ·exact p.elim
end
end DL
namespace DL
open PySem PySem.Spec PyProof.Rows L2 Nd
def FK(K:PySem.W.Frag):V->List V->Hp->VK->Prop:=λx xs H Q=>∃p ys y d ds j,x=.ref p/\xs=[y]/\Kb K H p ys/\RdV K H y d/\RdVs K H ys ds/\Bi ds<=60/\ds.findIdx? (λe=>Do e d)=some j/\Q (.int (j:Nat)) H
theorem aF{σ:L2.St}(I:Inv X pins σ H s):∀{xs:List V} {ds:List Ad} {us:List Value},RdVs X.K H xs ds->Fd xs us->∀(j:Nat) (e:Ad) (u:Value),ds[j]? = some e->us[j]? = some u->Lk X.K H d u=Do e d
 | _,_,_,.nil,r,j,e,u,h1,h2=>by simp at h1
 | _,_,_,.cons h t,r,0,e,u,h1,h2=>by
  cases r with
  | cons r1 r2 =>
   simp at h1 h2
   subst h1 h2
   exact aP I h r1
 | _,_,_,.cons h t,r,j+1,e,u,h1,h2=>by
  cases r with
  | cons r1 r2=>exact aF I t r2 j e u (by simpa using h1) (by simpa using h2)
theorem xQ(hu:X.A.units+64<cLine):GF X "list.index" (FK X.K):=by
 intro pins s σ H x xs v us Q I rx rs h
 obtain ⟨p,ys,y,d,ds,j,rfl,rfl,hq,hy,hs,hd,hj,q⟩:=h
 cases rx
 obtain ⟨u,rfl,ry⟩:=vals1 rs
 obtain ⟨its,r,pl,hz⟩:=I.list hq
 have hu1:X.A.in1.units+Bi ds<cLine:=by have:=To X.A; omega
 obtain ⟨⟨cls,dd,data,sl⟩,ho,hc,n,hd2⟩:=id pl.isList
 simp only at hc hd2
 subst hc hd2
 have l1:=r.length
 have l2:=hs.length
 obtain ⟨hjl,hit,hno⟩:=List.findIdx?_eq_some_iff_getElem.mp hj
 have hn:=Up
 have hjs:j<its.toArray.size:=by rw[Aq]; omega
 refine call_meets PySem.F.slot_list_index ⟨_,ho,rfl⟩ PySem.F.entry_list_index (PySem.F.args_list_index_2 _ _)
  (PySem.SeqAt.list_indexAt p its.toArray n dd sl u (Lk X.K H d) j hjs (by omega) ?_ ?_) ⟨ho,λw hw=>Nk I hy ry hs r hu1 w (by simpa using hw),⟨.int (j:Nat),H,I.tok _,⟨_,rfl⟩,q⟩⟩
 ·rw[aF I hs r j ds[j] _ (Ap hjl) (by simp [Ap (show j<its.length by omega)])]
  exact hit
 ·intro m hm hlt
  rw[Aq] at hm
  rw[aF I hs r m (ds[m]'(by omega)) _ (Ap _) (by simp [Ap hm])]
  simpa using hno m hlt
def n9(ds:List Ad)(y:DV)(δ:DS)(P:DV->DS->Prop):Prop:=match y with
 | .dat _ d=>Bi ds<=60/\d.depth<=60/\∃j,ds.findIdx? (λe=>Do e d)=some j/\P (.dat .ow (.int (j:Nat))) δ
 | _=>False
def r9(x:DV)(δ:DS)(db:DE)(P:DV->DS->Prop):Prop:=match x with
 | .dat _ (.list ds)=>db δ λy δ2=>n9 ds y δ2 P
 | _=>False
def AF(da db:DE):DE:=λδ P=>da δ λx δ1=>r9 x δ1 db P
section
variable{X:Cx}{o e:Expr}{da db:DE}{apos cpos:Pos}
theorem bF(hu:X.A.units+64<cLine)(ho:Eu X o da)(he:Eu X e db)
  (hbase:Lp o "index" X.env (eval o X.env)=eval o X.env:=by rfl) (hline:(apos.endLine == cpos.line)=true:=by rfl)
  (hfew:((Gd cpos (Bm [e] X.env)).all (λx=>!x.1) && (Yh cpos (Oz [] X.env)).all (λx=>x.1.isSome)
   && decide (([e]:List Expr).length+([]:List Ma).length+(if ([]:List Ma).isEmpty then 0 else 1)<30))=true:=by rfl)
  (hs:Bm [e] X.env=[(false,eval e X.env)]:=by rfl):Eu X (.Call (.Attribute o "index" apos) [e] [] cpos) (AF da db):=by
 refine PE.imp (rG PySem.F.plainAttrs_list PySem.F.slot_list_index PySem.F.type_list_index (xQ hu) ho (Fu he Iu hs) hbase hfew hline hs rfl) λσ H Q h=>?_
 obtain ⟨H0,Y,S,T,δ,P,rfl,hS,hA,hd,k⟩:=h
 refine ⟨H0,Y,S,T,δ,_,rfl,hS,hA,hd,λx δ1 v F S1 H1 e1 e2 hA1 p1=>?_⟩
 unfold r9 at p1
 split at p1
 ·rename_i m ds
  obtain ⟨a,xs,G',rfl,hla,ra,_,_⟩:=(hA1.told mem_mid).list_inv
  refine ⟨.inl ⟨rfl,xs,Kb.of hla⟩,?_⟩
  refine ⟨H0,Y,S1,⟨some (.ref a),.dat m (.list ds),F⟩::T,δ1,_,e1,e2,hA1,p1,λy δ2 w G S2 H2 e3 e4 hA2 p2=>?_⟩
  unfold n9 at p2
  split at p2
  ·obtain ⟨d1,d2,j,hj,p3⟩:=p2
   obtain ⟨b,ys,G2,eb,hlb,rb,_,_⟩:=(hA2.told Ek).list_inv
   cases eb
   refine ⟨a,ys,w,_,ds,j,rfl,rfl,Kb.of hlb,(hA2.told mem_mid).rd (Cc d2 (by decide)),rb.rd (Cc d1 (by decide)),d1,hj,?_⟩
   exact k _ δ2 _ [] S2 _ e3 e4 (hA2.drop2.pushI (.int _)) p3
  ·exact p2.elim
 ·exact p1.elim
end
def EE(t u:DB)(D:DEnds)(b:Bool)(δ:DS):Prop:=match b with
 | true=>t D δ
 | false=>u D δ
def AI(x:DV)(δ:DS)(P:DV->DS->Prop):Prop:=match x with
 | .dat _ d=>imm d=true/\P (.dat .ow d) δ
 | _=>False
def GT(i:Nat)(s:Option DV)(δ:DS)(P:DV->DS->Prop):Prop:=match s with
 | some (.dat .pk _)=>False
 | some (.dat _ d)=>P (.dat .sh d) ⟨δ.sl.set i (.dat .sh d),δ.n⟩
 | _=>False
def tupB(xs:List DV)(δ:DS)(P:DV->DS->Prop):Prop:=match datas xs with
 | some ds=>ds.length<=1000/\P (.dat (pkMd .sh xs) (.tuple ds)) δ
 | none=>False
def lstB(xs:List DV)(δ:DS)(P:DV->DS->Prop):Prop:=match datas xs with
 | some ds=>ds.length<=1000/\P (.dat (pkMd .tp xs) (.list ds)) δ
 | none=>False
def L9(x:DV)(δ:DS)(P:Option Int->DS->Prop):Prop:=match x with
 | .dat _ (.int i)=>P (some i) δ
 | _=>False
def HD(xs:List DV)(δ:DS)(P:DV->DS->Prop):Prop:=match xs with
 | [.dat _ (.list ds)]=>∃ns:List Int,ds=ns.map An/\(∀x∈ns,0<=x/\x<60)/\P (.dat .ow (.list ((BO ns).map An))) δ
 | [.dat _ (.tuple ds)]=>∃ns:List Int,ds=ns.map An/\(∀x∈ns,0<=x/\x<60)/\P (.dat .ow (.list ((BO ns).map An))) δ
 | _=>False
def bB(x:DV)(δ:DS)(P:Bool->DS->Prop):Prop:=match x with
 | .dat _ (.bool b)=>P b δ
 | _=>False
def AB(x:DV)(δ:DS)(P:Bool->DS->Prop):Prop:=match x with
 | .dat _ d=>BF d/\P (J4 d) δ
 | _=>False
def Z5(du:DT)(b:Bool)(δ:DS)(P:Bool->DS->Prop):Prop:=match b with
 | true=>du δ P
 | false=>P false δ
def GO(du:DT)(b:Bool)(δ:DS)(P:Bool->DS->Prop):Prop:=match b with
 | true=>P true δ
 | false=>du δ P
def CV(db:DE)(x:DV)(δ:DS)(P:DV->DS->Prop):Prop:=match x with
 | .dat _ (.bool true)=>db δ P
 | .dat _ (.bool false)=>P (.dat .ow (.bool false)) δ
 | _=>False
def GE(da db:DE)(b:Bool)(δ:DS)(P:DV->DS->Prop):Prop:=match b with
 | true=>da δ P
 | false=>db δ P
def lB(x:DV)(δ:DS)(P:Md->List Ad->DS->Prop):Prop:=match x with
 | .dat m (.list ds)=>P (Kl m) ds δ
 | _=>False
def GK(x:DV)(δ:DS)(P:Md->List Ad->DS->Prop):Prop:=match x with
 | .dat m (.tuple ds)=>P (Kl m) ds δ
 | _=>False
def L3(xs:List DV)(δ:DS)(P:Md->List Ad->DS->Prop):Prop:=match xs with
 | [.dat _ (.int j)]=>-1000000<=j/\j<=1000000/\P .sh ((Dk j.toNat).map λi:Nat=>.int i) δ
 | _=>False
def K3(xs:List DV)(δ:DS)(P:Md->List Ad->DS->Prop):Prop:=match xs with
 | [.dat m (.list ds)]=>P (Kl m) (ds.zipIdx.map λp=>.tuple [.int p.2,p.1]) δ
 | _=>False
def BG(xs:List DV)(δ:DS)(P:Md->List Ad->DS->Prop):Prop:=match xs with
 | [.dat m (.list ds),.dat m' (.list es)]=>P (mdZip m m') ((ds.zip es).map λp=>.tuple [p.1,p.2]) δ
 | _=>False
def AS(dg:DG)(db:DB)(D:DEnds)(m:Md)(ds:List Ad)(δ1:DS):Prop:=m=.sh/\∃I:Nat->DS->Prop,I 0 δ1 /\
 (∀i d δ',ds[i]? = some d->I i δ'->dg (.dat .sh d) δ' λδ2=>db { D with nx:=I (i+1),ct:=I (i+1),bk:=D.nx } δ2)/\∀δ',I ds.length δ'->D.nx δ'
def yK(js:List Nat)(dc:DT)(de:DE)(P:DV->DS->Prop)(m:Md)(ds:List Ad)(δ1:DS):Prop:=∃I:Nat->List Ad->Nat->Prop,I 0 [] δ1.n /\
 (∀i d acc n,ds[i]? = some d->I i acc n->Pz dc de ⟨.dat m d::frD δ1.sl js,n⟩ (λe n'=>I (i+1) (acc++[e]) n') (λn'=>I (i+1) acc n')) /\
 ∀acc n,I ds.length acc n->P (.dat .ow (.list acc)) ⟨δ1.sl,n⟩
def i9(js:List Nat)(dc:DT)(de:DE)(P:DV->DS->Prop)(m:Md)(ds:List Ad)(δ1:DS):Prop:=∃I:Nat->List Ad->Nat->Prop,I 0 [] δ1.n /\
 (∀i d acc n,ds[i]? = some d->I i acc n->∃d1 d2,d=.tuple [d1,d2]/\Pz dc de ⟨.dat m d1::.dat m d2::frD δ1.sl js,n⟩ (λe n'=>I (i+1) (acc++[e]) n') (λn'=>I (i+1) acc n')) /\
 ∀acc n,I ds.length acc n->P (.dat .ow (.list acc)) ⟨δ1.sl,n⟩
def vF(js1:List Nat)(j0:Nat)(js2:List Nat)(dc:DT)(de:DE)(P:DV->DS->Prop)(m:Md)(ds:List Ad)(δ1:DS):Prop:=δ1.sl[j0]? = some .drw/\∃I:Nat->List Ad->Nat->Prop,I 0 [] δ1.n /\
 (∀i d acc n,ds[i]? = some d->I i acc n->Py (js1.length+1) dc de ⟨.dat m d::(frD (δ1.sl.set j0 .un) js1++.drw::frD (δ1.sl.set j0 .un) js2),n⟩ (λe n'=>I (i+1) (acc++[e]) n') (λn'=>I (i+1) acc n')) /\
 ∀acc n,I ds.length acc n->P (.dat .ow (.list acc)) ⟨δ1.sl,n⟩
def u9(yes:Ad->Nat->Prop)(y:DV)(δ:DS):Prop:=match y with
 | .dat _ e=>imm e=true/\yes e δ.n
 | _=>False
def qG(de:DE)(yes:Ad->Nat->Prop)(no:Nat->Prop)(b:Bool)(δ:DS):Prop:=match b with
 | true=>de δ λy δ3=>u9 yes y δ3
 | false=>no δ.n
def GJ(i:Nat)(x:Option DV)(δ:DS)(P:DV->DS->Prop):Prop:=match x with
 | some (.dat .ow d)=>P (.dat .ow d) ⟨δ.sl.set i (.dat .pk d),δ.n⟩
 | _=>False
def wW(p:Nat)(yes:Ad->Nat->Prop)(y:DV)(δ:DS):Prop:=match y with
 | .dat _ e=>imm e=true/\δ.sl[p]? = some .drw/\yes e δ.n
 | _=>False
def wZ(p:Nat)(de:DE)(yes:Ad->Nat->Prop)(no:Nat->Prop)(b:Bool)(δ:DS):Prop:=match b with
 | true=>de δ λy δ3=>wW p yes y δ3
 | false=>δ.sl[p]? = some .drw/\no δ.n
def callB(pf:PF)(xs:List DV)(δ:DS)(P:DV->DS->Prop):Prop:=match datas xs with
 | some ds=>pf ds λd=>P (.dat .ow d) δ
 | none=>False
def callBW(i:Nat)(df:DF)(xs:List DV)(δ:DS)(P:DV->DS->Prop):Prop:=match δ.sl[i]? with
 | some .drw=>match datas xs with
  | some ds=>df ds δ.n λd n'=>P (.dat .ow d) ⟨δ.sl,n'⟩
  | none=>False
 | _=>False
def uW(xs:List DV)(δ:DS)(P:DV->DS->Prop):Prop:=match xs with
 | [.dat _ (.int _)]=>P .drw δ
 | _=>False
def revLB(x:DV)(δ:DS)(P:DV->DS->Prop):Prop:=match x with
 | .dat _ (.list ds)=>Ed ds=true/\P (.dat .ow (.list ds.reverse)) δ
 | _=>False
def appB(i:Nat)(y:DV)(δ:DS)(D:DEnds):Prop:=match δ.sl[i]?,y with
 | some (.dat m (.list ds)),.dat _ e=>own1 m=true/\npk δ.sl=true/\imm e=true/\ds.length<1000000/\D.nx ⟨δ.sl.set i (.dat m (.list (ds++[e]))),δ.n⟩
 | _,_=>False
def AN(i:Nat)(ks:List (List Int×Ad))(dg:DG)(db:DB)(D:DEnds)(δ:DS):Prop:=∀a:Addr,∃I:Nat->DS->Prop,I 0 ⟨δ.sl.set i (.dat .sh (.dict (Vt a ks))),δ.n⟩ /\
 (∀j d δ',(ks.map λp=>Bv p.1)[j]? = some d->I j δ'->dg (.dat .sh d) δ' λδ2=>db { D with nx:=I (j+1),ct:=I (j+1),bk:=λ_=>False } δ2) /\
 ∀δ',I ks.length δ'->δ'.sl[i]? = some (.dat .sh (.dict (Vt a ks)))/\(δ'.sl.set i .un).all iB=true/\D.nx ⟨δ'.sl.set i (.dat .ow (.dict (Qr ks))),δ'.n⟩
theorem e_maxL:M3 jn jw de δ P=(de δ λx δ1=>FB jn jw x δ1 P):=rfl
theorem e_idx:AF da db δ P=(da δ λx δ1=>r9 x δ1 db P):=rfl
theorem e_idxB:r9 (.dat m (.list ds)) δ db P=(db δ λy δ2=>n9 ds y δ2 P):=rfl
theorem e_idxC:n9 ds (.dat m d) δ P=(Bi ds<=60/\d.depth<=60/\∃j,ds.findIdx? (λe=>Do e d)=some j/\P (.dat .ow (.int (j:Nat))) δ):=rfl
theorem e_seq:BX t u D δ=(t { D with nx:=λδ'=>u D δ' } δ):=rfl
theorem e_skip:O3 D δ=(D.nx δ):=rfl
theorem e_ret:CT de D δ=(de δ D.rt):=rfl
theorem e_if:GP dt t u D δ=(dt δ (EE t u D)):=rfl
theorem e_asg:oH de dg D δ=(de δ λx δ'=>dg x δ' D.nx):=rfl
theorem e_name{m:Md}:Qp i (.dat .ow d) δ Q=(Q ⟨δ.sl.set i (.dat .sh d),δ.n⟩):=rfl
theorem e_name2{m:Md}:Qp i (.dat .sh d) δ Q=(Q ⟨δ.sl.set i (.dat .sh d),δ.n⟩):=rfl
theorem e_name4:Qp i .drw δ Q=(Q ⟨δ.sl.set i .drw,δ.n⟩):=rfl
theorem e_own:iP i (.dat .ow d) δ Q=(Q ⟨δ.sl.set i (.dat .ow d),δ.n⟩):=rfl
theorem e_nF:AA false i x δ Q=(Qp i x δ Q):=rfl
theorem e_gtup:yZ n gs (.dat m (.tuple ds)) δ Q=(ds.length=n/\gs (ds.map λd=>.dat (Oi m) d) δ Q):=rfl
theorem e_gsn:vL [] δ Q=(Q δ):=rfl
theorem e_gsc:pR g gs (x::r) δ Q=(g x δ λδ'=>gs r δ' Q):=rfl
theorem e_op:Yk rd da db δ P=(da δ λx δ1=>db δ1 λy δ2=>rd x y λz=>P z δ2):=rfl
theorem e_var:U1 i δ P=(match δ.sl[i]? with | some (.dat m d)=>P (.dat (fW m) d) δ | _=>False):=rfl
theorem e_c:dC d δ P=(P (.dat .ow d) δ):=rfl
theorem e_imm:AR de δ P=(de δ λx δ'=>AI x δ' P):=rfl
theorem e_immB:AI (.dat m d) δ P=(imm d=true/\P (.dat .ow d) δ):=rfl
theorem e_take:vH i δ P=(match δ.sl[i]? with | some (.dat m d)=>P (.dat m d) ⟨δ.sl.set i .un,δ.n⟩ | _=>False):=rfl
theorem e_I:U9 C g (.dat m (.int i)) (.dat m' (.int j)) P=(C i j/\P (.dat .ow (g i j))):=rfl
theorem e_I0:oV g (.dat m (.int i)) (.dat m' (.int j)) P=(P (.dat .ow (g i j))):=rfl
theorem e_eqF:gZ false (.dat m d) (.dat m' e) P=(d.depth<=60/\e.depth<=60/\P (.dat .ow (.bool (Do d e)))):=rfl
theorem e_eqT:gZ true (.dat m d) (.dat m' e) P=(d.depth<=60/\e.depth<=60/\P (.dat .ow (.bool (!Do d e)))):=rfl
theorem e_inFl:fT false (.dat m d) (.dat m' (.list es)) P=(Bi es<=60/\d.depth<=60/\P (.dat .ow (.bool (es.any λe=>Do e d)))):=rfl
theorem e_inTl:fT true (.dat m d) (.dat m' (.list es)) P=(Bi es<=60/\d.depth<=60/\P (.dat .ow (.bool (!(es.any λe=>Do e d))))):=rfl
theorem e_inFt_w1{es:List Ad}:fT false (.dat m d) (.dat m' (Bv nes)) P=(Bi (nes.map An)<=60/\d.depth<=60/\P (.dat .ow (.bool ((nes.map An).any λe=>Do e d)))):=rfl
theorem e_inTt_w1{es:List Ad}:fT true (.dat m d) (.dat m' (Bv nes)) P=(Bi (nes.map An)<=60/\d.depth<=60/\P (.dat .ow (.bool (!((nes.map An).any λe=>Do e d))))):=rfl
theorem e_isNF:qO false (.dat m d) (.dat m' .none) P=(P (.dat .ow (.bool (isNone d)))):=rfl
theorem e_ixl:wK (.dat m (.list ds)) (.dat m' (.int i)) P=(∃d,Uv ds i=some d/\P (.dat (Oi m) d)):=rfl
theorem e_ixt:wK (.dat m (.tuple ds)) (.dat m' (.int i)) P=(∃d,Uv ds i=some d/\P (.dat (Oi m) d)):=rfl
theorem e_cat:rA (.dat m (.list ds)) (.dat m' (.list es)) P=(Ed ds=true/\Ed es=true/\ds.length+es.length<=1000000/\P (.dat .ow (.list (ds++es)))):=rfl
theorem e_nlT:jR true m ds P=(Ed ds=true/\P (.dat .ow (.list ds))):=rfl
theorem e_pkOfpk  : fW .pk=(Md.pk):=rfl
theorem e_pkOfsh  : fW .sh=(Md.sh):=rfl
theorem e_pkOfow  : fW .ow=(Md.pk):=rfl
theorem e_mdInpk  : Oi .pk=(Md.pk):=rfl
theorem e_mdInsh  : Oi .sh=(Md.sh):=rfl
theorem e_mdInow  : Oi .ow=(Md.ow):=rfl
theorem e_mdItsh  : Kl .sh=(Md.sh):=rfl
theorem e_mdItow  : Kl .ow=(Md.sh):=rfl
theorem e_nil:X6 δ P=(P [] δ):=rfl
theorem e_cons:M9 de da δ P=(de δ λx δ1=>da δ1 λxs δ2=>P (x::xs) δ2):=rfl
theorem e_tup:Z3 da δ P=(da δ λxs δ'=>tupB xs δ' P):=rfl
theorem e_lst:AC da δ P=(da δ λxs δ'=>lstB xs δ' P):=rfl
theorem e_noPart:pP δ P=(P none δ):=rfl
theorem e_part:L1 de δ P=(de δ λx δ'=>L9 x δ' P):=rfl
theorem e_partB:L9 (.dat m (.int i)) δ P=(P (some i) δ):=rfl
theorem e_cb:AE rd da δ P=(da δ λxs δ1=>rd xs λz=>P z δ1):=rfl
theorem e_lenl{m m':Md}:kX [.dat m (.list ds)] P=(P (.dat .ow (.int ds.length))):=rfl
theorem e_lent{m m':Md}:kX [.dat m (.tuple ds)] P=(P (.dat .ow (.int ds.length))):=rfl
theorem e_lent_w1{ds:List Ad}{m m':Md}:kX [.dat m (Bv nds)] P=(P (.dat .ow (.int (nds.map An).length))):=rfl
theorem e_listl{m m':Md}:oG i [.dat m (.list ds)] P=(jR i m ds P):=rfl
theorem e_intb{m m':Md}:vI [.dat m (.bool i)] P=(P (.dat .ow (.int (if i=true then 1 else 0)))):=rfl
theorem e_max2:lZ [.dat m (.int i),.dat m' (.int j)] P=(P (.dat .ow (.int (if j > i then j else i)))):=rfl
theorem e_MinL{m m':Md}:nQ [.dat m (.list ds)] P=(∃ns:List Int,ds=ns.map An/\ns≠[]/\∀M∈ns,(∀x∈ns,M<=x)->P (.dat .ow (.int M))):=rfl
theorem e_MaxL{m m':Md}:nW [.dat m (.list ds)] P=(∃ns:List Int,ds=ns.map An/\ns≠[]/\∀M∈ns,(∀x∈ns,x<=M)->P (.dat .ow (.int M))):=rfl
theorem e_all{m m':Md}:zO [.dat m (.list ds)] P=(∃bs:List Bool,ds=bs.map PyData.bool/\P (.dat .ow (.bool (bs.all id)))):=rfl
theorem e_isi{m m':Md}:i3 [.dat m d,.val (.ty n)] P=((n = "int" \/ n = "bool" \/ n = "str" \/ n = "list" \/ n = "tuple")/\P (.dat .ow (.bool (eR d n)))):=rfl
theorem e_str{m m':Md}:zY [.dat m d] P=((∃b,b<=400/\Mz b d/\(b+12) * Jr d<=Av)/\d.depth<=90/\P (.dat .ow (.str (fI d)))):=rfl
theorem e_v:dV v δ P=(P (.val v) δ):=rfl
theorem e_b:dB de δ P=(de δ λx δ'=>bB x δ' P):=rfl
theorem e_bB:bB (.dat m (.bool b)) δ P=(P b δ):=rfl
theorem e_tru:Q0 de δ P=(de δ λx δ'=>AB x δ' P):=rfl
theorem e_truB:AB (.dat m d) δ P=(BF d/\P (J4 d) δ):=rfl
theorem e_notT:L7 dt δ P=(dt δ λb δ'=>P (!b) δ'):=rfl
theorem e_andT:N8 dt du δ P=(dt δ λb δ'=>Z5 du b δ' P):=rfl
theorem e_orT:CU dt du δ P=(dt δ λb δ'=>GO du b δ' P):=rfl
theorem e_orTf:GO du false δ P=(du δ P):=rfl
theorem e_and:BH da db δ P=(da δ λx δ'=>CV db x δ' P):=rfl
theorem e_andt:CV db (.dat m (.bool true)) δ P=(db δ P):=rfl
theorem e_ifE:AY dt da db δ P=(dt δ λb δ'=>GE da db b δ' P):=rfl
theorem e_dL:dL de δ P=(de δ λx δ'=>lB x δ' P):=rfl
theorem e_dTp:GH de δ P=(de δ λx δ'=>GK x δ' P):=rfl
theorem e_lB:lB (.dat m (.list ds)) δ P=(P (Kl m) ds δ):=rfl
theorem e_tpB_w1{ds:List Ad}:GK (.dat m (Bv nds)) δ P=(P (Kl m) (nds.map An) δ):=rfl
theorem e_range1:iJ da δ P=(da δ λxs δ'=>L3 xs δ' P):=rfl
theorem e_rng1B:L3 [.dat m (.int j)] δ P=(-1000000<=j/\j<=1000000/\P .sh ((Dk j.toNat).map λi:Nat=>.int i) δ):=rfl
theorem e_enum:yJ da δ P=(da δ λxs δ'=>K3 xs δ' P):=rfl
theorem e_enumB:K3 [.dat m (.list ds)] δ P=(P (Kl m) (ds.zipIdx.map λp=>.tuple [.int p.2,p.1]) δ):=rfl
theorem e_zip:M5 da δ P=(da δ λxs δ'=>BG xs δ' P):=rfl
theorem e_zipB:BG [.dat m (.list ds),.dat m' (.list es)] δ P=(P (mdZip m m') ((ds.zip es).map λp=>.tuple [p.1,p.2]) δ):=rfl
theorem e_for:BB di dg db D δ=(di δ (AS dg db D)):=rfl
theorem e_comp:zD di js dc de δ P=(di δ (yK js dc de P)):=rfl
theorem e_comp2:lR di js dc de δ P=(di δ (i9 js dc de P)):=rfl
theorem e_compD:nK di js1 j0 js2 dc de δ P=(di δ (vF js1 j0 js2 dc de P)):=rfl
theorem e_noTest:gH δ P=(P true δ):=rfl
theorem e_step:Pz dc de δ yes no=(dc δ λb δ2=>qG de yes no b δ2):=rfl
theorem e_stepT:qG de yes no true δ=(de δ λy δ3=>u9 yes y δ3):=rfl
theorem e_stepF:qG de yes no false δ=(no δ.n):=rfl
theorem e_yesB:u9 yes (.dat m e) δ=(imm e=true/\yes e δ.n):=rfl
theorem e_stepD:Py p dc de δ yes no=(dc δ λb δ2=>wZ p de yes no b δ2):=rfl
theorem e_stepDT:wZ p de yes no true δ=(de δ λy δ3=>wW p yes y δ3):=rfl
theorem e_yesBD:wW p yes (.dat m e) δ=(imm e=true/\δ.sl[p]? = some .drw/\yes e δ.n):=rfl
theorem e_call:wC pf da δ P=(da δ λxs δ1=>callB pf xs δ1 P):=rfl
theorem e_callW:lX i df da δ P=(match δ.sl[i]? with | some .drw=>da δ λxs δ1=>callBW i df xs δ1 P | _=>False):=rfl
theorem e_draws:i4 da δ P=(da δ λxs δ1=>uW xs δ1 P):=rfl
theorem e_drawsB:uW [.dat m (.int i)] δ P=(P .drw δ):=rfl
theorem e_append:fN i de D δ=(match δ.sl[i]? with | some (.dat _ (.list _))=>de δ λy δ1=>appB i y δ1 D | _=>False):=rfl
theorem e_revL:K9 de δ P=(de δ λx δ1=>revLB x δ1 P):=rfl
theorem e_appendO:aO i de D δ=(match δ.sl[i]? with | some (.dat _ (.list _))=>de δ λy δ1=>appOB i y δ1 D | _=>False):=rfl
theorem e_sumt_w1{ds:List Ad}{m m':Md}:wV [.dat m (Bv nds)] P=(∃ns:List Int,(nds.map An)=ns.map An/\P (.dat .ow (.int ns.sum))):=rfl
theorem e_scrSl{dl dh:DO}:oZ i dl dh δ P=(match δ.sl[i]? with | some (.scr ns)=>dl δ λl δ2=>dh δ2 λh δ3=>P (.dat .ow (.list ((Yn ns l h).map An))) δ3 | _=>False):=rfl
theorem e_dnew:M6 δ P=(P (.dat .ow (.dict (Qr []))) δ):=rfl
theorem e_dput:O4 i dk de D δ=(de δ λy δ1=>isDct δ1.sl[i]? = true/\dk δ1 λz δ2=>dputB i y z δ2 D):=rfl
theorem e_appI:vO i k c D δ=(match δ.sl[i]? with | some (.dat .ow (.tuple ds))=>∃y,ds[k]? = some y/\qD i ds k c y δ D | _=>False):=rfl
theorem e_appIB:qD i ds k c (.list es) δ D=(npk (δ.sl.set i .un)=true/\imm c=true/\es.length<1000000/\D.nx ⟨δ.sl.set i (.dat .ow (.tuple (ds.set k (.list (es++[c]))))),δ.n⟩):=rfl
theorem e_dictZ:oX da δ P=(da δ λxs δ'=>fX xs δ' P):=rfl
theorem e_dictZB:fX [.dat m (.list ds),.dat m' (.list es)] δ P=(ds.length<=1000000/\Ed es=true/\∃ws:List (List Int),ds=ws.map Bv/\P (.dat .ow (.dict (Qr (Qw [] (ws.zip es))))) δ):=rfl
theorem e_tagD:G5 (Qr ks)=(true):=rfl
theorem e_inew:N6 δ P=(P (.dat .ow (.dict (Yl []))) δ):=rfl
theorem e_iput:O0 i dk de D δ=(de δ λy δ1=>isIct δ1.sl[i]? = true/\dk δ1 λz δ2=>iputB i y z δ2 D):=rfl
theorem e_getI:vU da dk dz δ P=(da δ λx δ1=>zS x=true/\dk δ1 λy δ2=>dz δ2 λz δ3=>qF x y z δ3 P):=rfl
theorem e_isIc2:zS (.dat m (.dict (Yl ks)))=(true):=rfl
theorem e_tagI:rO (Yl ks)=(true):=rfl
theorem e_forN:O5 i dg db D δ=(∃ks,δ.sl[i]? = some (.dat .ow (.dict (Qr ks)))/\ks.length<=1000000/\AN i ks dg db D δ):=rfl
theorem e_sortK:Zd [.dat m (.list ds)] P=(∃ws:List (List Int),ds=ws.map Bv/\ws.length<Av/\∀L:List (List Int),L.Perm ws->L.Pairwise (λx y=>x.length<=y.length)->P (.dat .ow (.list (L.map Bv)))):=rfl
section
variable{t u:DB}{D:DEnds}{δ δ1:DS}
theorem mM{α:Type}{l:List α}{g:α->Ad}(e:ds=l.map g)(I:Nat->DS->Prop)(h0:I 0 δ1)(hs:∀i a δ',l[i]? = some a->I i δ'->dg (.dat .sh (g a)) δ' λδ2=>db { D with nx:=I (i+1),ct:=I (i+1),bk:=D.nx } δ2)(hf:∀δ',I l.length δ'->D.nx δ'):AS dg db D .sh ds δ1:=by
 subst e
 refine ⟨rfl,I,h0,λi d δ' hd hI=>?_,λδ' h=>hf δ' (by rw[Ac] at h; exact h)⟩
 rw[Az] at hd
 cases q:l[i]? with
 | none=>rw[q] at hd; cases hd
 | some a=>rw[q] at hd; cases hd; exact hs i a δ' q hI
end
section
variable{js:List Nat}{dc:DT}{de:DE}{P:DV->DS->Prop}{m:Md}{ds:List Ad}{δ1:DS}{α:Type}
theorem rB{l:List α}(e:ds=l.map g)(p:α->Bool)(f:α->Ad)(h:∀a∈l,∀(yes:Ad->Nat->Prop) (no:Nat->Prop),(p a=true->yes (f a) δ1.n)->(p a=false->no δ1.n)->Pz dc de ⟨.dat m (g a)::frD δ1.sl js,δ1.n⟩ yes no)(q:P (.dat .ow (.list ((l.filter p).map f))) δ1):yK js dc de P m ds δ1:=by
 subst e
 refine ⟨λi acc n=>n=δ1.n/\acc=((l.take i).filter p).map f,⟨rfl,by simp⟩,λi d acc n hd ⟨hn,ha⟩=>?_,λacc n ⟨hn,ha⟩=>?_⟩
 ·subst hn ha
  rw[Az] at hd
  cases q:l[i]? with
  | none=>rw[q] at hd; cases hd
  | some a =>
   rw[q] at hd
   cases hd
   refine h a (Au q) _ _ (λhp=>⟨rfl,?_⟩) (λhp=>⟨rfl,?_⟩)
   ·rw[Nj q,Ld,Bh]; simp [hp]
   ·rw[Nj q,Ld,Bh]; simp [hp]
 ·subst hn ha
  rw[Ac,Ij]
  exact q
theorem dI{l:List α}(e:ds=l.map g)(f:α->Ad)(h:∀a∈l,∀(yes:Ad->Nat->Prop) (no:Nat->Prop),yes (f a) δ1.n->Pz dc de ⟨.dat m (g a)::frD δ1.sl js,δ1.n⟩ yes no)(q:P (.dat .ow (.list (l.map f))) δ1):yK js dc de P m ds δ1:=by
 refine rB e (λ_=>true) f (λa ha yes no hy _=>h a ha yes no (hy rfl)) ?_
 rw[List.filter_eq_self.mpr λ_ _=>rfl]
 exact q
theorem nE{l:List α}{g1 g2:α->Ad}(e:ds=l.map λa=>.tuple [g1 a,g2 a])(p:α->Bool)(f:α->Ad)(h:∀a∈l,∀(yes:Ad->Nat->Prop) (no:Nat->Prop),(p a=true->yes (f a) δ1.n)->(p a=false->no δ1.n)->Pz dc de ⟨.dat m (g1 a)::.dat m (g2 a)::frD δ1.sl js,δ1.n⟩ yes no)(q:P (.dat .ow (.list ((l.filter p).map f))) δ1):i9 js dc de P m ds δ1:=by
 subst e
 refine ⟨λi acc n=>n=δ1.n/\acc=((l.take i).filter p).map f,⟨rfl,by simp⟩,λi d acc n hd ⟨hn,ha⟩=>?_,λacc n ⟨hn,ha⟩=>?_⟩
 ·subst hn ha
  rw[Az] at hd
  cases q:l[i]? with
  | none=>rw[q] at hd; cases hd
  | some a =>
   rw[q] at hd
   cases hd
   refine ⟨_,_,rfl,h a (Au q) _ _ (λhp=>⟨rfl,?_⟩) (λhp=>⟨rfl,?_⟩)⟩
   ·rw[Nj q,Ld,Bh]; simp [hp]
   ·rw[Nj q,Ld,Bh]; simp [hp]
 ·subst hn ha
  rw[Ac,Ij]
  exact q
theorem G3{l:List α}(e:ds=l.map g)(hj:δ1.sl[j0]? = some .drw)(I:Nat->List Ad->Nat->Prop)(h0:I 0 [] δ1.n)(h:∀i a acc n,l[i]? = some a->I i acc n->Py (js1.length+1) dc de ⟨.dat m (g a)::(frD (δ1.sl.set j0 .un) js1++.drw::frD (δ1.sl.set j0 .un) js2),n⟩ (λe n'=>I (i+1) (acc++[e]) n') (λn'=>I (i+1) acc n'))(q:∀acc n,I l.length acc n->P (.dat .ow (.list acc)) ⟨δ1.sl,n⟩):vF js1 j0 js2 dc de P m ds δ1:=by
 subst e
 refine ⟨hj,I,h0,λi d acc n hd hI=>?_,λacc n hI=>q acc n (by rw[Ac] at hI; exact hI)⟩
 rw[Az] at hd
 cases q:l[i]? with
 | none=>rw[q] at hd; cases hd
 | some a=>rw[q] at hd; cases hd; exact h i a acc n q hI
end
theorem K5(h1:b=true->t D δ)(h2:b=false->u D δ):EE t u D b δ:=by
 cases b with
 | true=>exact h1 rfl
 | false=>exact h2 rfl
theorem DW(h1:b=true->da δ P)(h2:b=false->db δ P):GE da db b δ P:=by
 cases b with
 | true=>exact h1 rfl
 | false=>exact h2 rfl
theorem mW(h1:b=true->du δ P)(h2:b=false->P false δ):Z5 du b δ P:=by
 cases b with
 | true=>exact h1 rfl
 | false=>exact h2 rfl
theorem Td(h1:b=true->de δ λy δ3=>u9 yes y δ3)(h2:b=false->no δ.n):qG de yes no b δ:=by
 cases b with
 | true=>exact h1 rfl
 | false=>exact h2 rfl
class Im (d:Ad):Prop where
 h:imm d=true
class ImA (ds:List Ad):Prop where
 h:Ed ds=true
theorem im[h:Im d]:imm d=true:=h.h
theorem HA[h:ImA ds]:Ed ds=true:=h.h
instance {i:Int}:Im (.int i):=⟨by simp [imm]⟩
instance {i:Bool}:Im (.bool i):=⟨by simp [imm]⟩
instance {i:Str}:Im (.str i):=⟨by simp [imm]⟩
instance:Im .none:=⟨by simp [imm]⟩
instance {ds:List Ad} [h:ImA ds]:Im (.tuple ds):=⟨by rw[imm]; exact h.h⟩
instance {ns:List Int}:Im (Bv ns):=⟨xX ns⟩
instance:ImA []:=⟨by simp [Ed]⟩
instance {d:Ad} {ds:List Ad} [h:Im d] [t:ImA ds]:ImA (d::ds):=⟨by rw[Ed,h.h,t.h]; rfl⟩
instance {α:Type} {f:α->Ad} {l:List α} [h:∀a,Im (f a)]:ImA (l.map f):=⟨Ux (λa=>(h a).h) l⟩
instance {a b:List Ad} [h:ImA a] [k:ImA b]:ImA (a++b):=⟨by rw[Zx,h.h,k.h]; rfl⟩
class Dp (d:Ad) (k:outParam Nat):Prop where
 h:d.depth<=k
class DpA (ds:List Ad) (k:outParam Nat):Prop where
 h:Bi ds<=k
theorem dp[h:Dp d k](hk:k<=60:=by decide):d.depth<=60:=Cc h.h hk
instance {i:Int}:Dp (.int i) 0:=⟨by simp [Ct]⟩
instance {i:Bool}:Dp (.bool i) 0:=⟨by simp [Ct]⟩
instance {i:Str}:Dp (.str i) 0:=⟨by simp [Ct]⟩
instance:Dp .none 0:=⟨by simp [Ct]⟩
instance {ds:List Ad} {k:Nat} [h:DpA ds k]:Dp (.tuple ds) (k+1):=⟨by have:=h.h; simp only[Ct]; omega⟩
instance {ds:List Ad} {k:Nat} [h:DpA ds k]:Dp (.list ds) (k+1):=⟨by have:=h.h; simp only[Ct]; omega⟩
instance {ns:List Int}:Dp (Bv ns) 1:=⟨oK ns⟩
instance:DpA [] 0:=⟨by simp [Bi]⟩
instance {d:Ad} {ds:List Ad} {k j:Nat} [h:Dp d k] [t:DpA ds j]:DpA (d::ds) (k+j):=⟨by have:=h.h; have:=t.h; simp only[Bi]; omega⟩
instance {α:Type} {f:α->Ad} {l:List α} {k:Nat} [h:∀a,Dp (f a) k]:DpA (l.map f) k:=⟨Xx λx hx=>by
 obtain ⟨a,_,rfl⟩:=Bs.mp hx
 exact (h a).h⟩
theorem eZ:Bi (a++b)<=Bi a+Bi b:=by
 induction a with
 | nil=>simp [Bi]
 | cons x a ih=>simp only[Dl,Bi]; omega
instance {a b:List Ad} {k j:Nat} [h:DpA a k] [t:DpA b j]:DpA (a++b) (k+j):=⟨by have:=h.h; have:=t.h; have:=eZ (a:=a) (b:=b); omega⟩
theorem eqD_str(i j:Str):Do (.str i) (.str j)=(i == j):=by simp [Do]
theorem J3(a b:List Ad):Do (.tuple a) (.tuple b)=Oj a b:=by simp [Do]
theorem jB{α:Type}[DecidableEq α]{f:α->Ad}(h:∀a b,Do (f a) (f b)=decide (a=b)):∀l m:List α,Oj (l.map f) (m.map f)=decide (l=m)
 | [],[]=>by simp [Oj]
 | [],_::_=>by simp [Oj]
 | _::_,[]=>by simp [Oj]
 | a::l,b::m=>by simp [Oj,h,jB h l m]
theorem eqD_intd(i j:Int):Do (.int i) (.int j)=decide (i=j):=by simp [Do]; rfl
theorem eqD_word(a b:List Int):Do (Bv a) (Bv b)=decide (a=b):=by
 unfold Bv
 rw[J3,jB eqD_intd]
def wordsD(ws:List (List Int)):Ad:=.list (ws.map Bv)
instance {ws:List (List Int)}:Dp (wordsD ws) 2:=⟨(inferInstance:Dp (.list (ws.map Bv)) 2).h⟩
def DH(ns:List Int):Ad:=.list (ns.map An)
instance {ns:List Int}:Dp (DH ns) 1:=⟨(inferInstance:Dp (.list (ns.map An)) 1).h⟩
theorem any_int(ns:List Int)(i:Int):((ns.map An).any λe=>Do e (.int i))=decide (i∈ns):=by
 rw[Om]
 induction ns with
 | nil=>rfl
 | cons n ns ih =>
  rw[Ia,ih]
  simp only[Uj,eqD_intd,Aj]
  by_cases h:n=i
  ·subst h; simp
  ·have : ¬ i=n:=λz=>h z.symm
   simp [h,this]
theorem any_map{α:Type}[DecidableEq α]{f:α->Ad}(h:∀a b,Do (f a) (f b)=decide (a=b))(l:List α)(a:α):((l.map f).any λe=>Do e (f a))=decide (a∈l):=by
 rw[Om]
 induction l with
 | nil=>rfl
 | cons n ns ih =>
  rw[Ia,ih]
  simp only[Uj,h,Aj]
  by_cases h:n=a
  ·subst h; simp
  ·have : ¬ a=n:=λz=>h z.symm
   simp [h,this]
theorem any_word(ws:List (List Int))(a:List Int):((ws.map Bv).any λe=>Do e (Bv a))=decide (a∈ws):=(any_map eqD_word ws a).trans (decide_eq_decide.mpr Iff.rfl)
theorem zip_map{α β:Type}(f:α->β)(l:List α):(l.map f).zipIdx=l.zipIdx.map λp=>(f p.1,p.2):=by
 rw[List.zipIdx_map]
 rfl
theorem Zh(f:α->β)(l:List α)(i:Int):Uv (l.map f) i=(Uv l i).map f:=by
 unfold Uv
 rw[Ac]
 cases F4 l.length i with
 | none=>rfl
 | some j=>simp
theorem Sk(h0:0<=i)(h1:i<l.length):∃a,l[i.toNat]? = some a/\Uv l i=some a/\a∈l:=by
 have hk:i.toNat<l.length:=by omega
 refine ⟨l[i.toNat],by simp [hk],?_,List.getElem_mem hk⟩
 have q:Uv l ((i.toNat:Nat):Int)=some l[i.toNat]:=qX (by simp [hk])
 rwa [show ((i.toNat:Nat):Int)=i by omega] at q
theorem im_e[h:Im d]:(imm d=true)=True:=eq_true h.h
theorem ima_e[h:ImA ds]:(Ed ds=true)=True:=eq_true h.h
theorem dp_e[h:Dp d k](hk:k<=60):(d.depth<=60)=True:=eq_true (Cc h.h hk)
theorem dpa_e[h:DpA ds k](hk:k<=60):(Bi ds<=60)=True:=eq_true (Cc h.h hk)
theorem eqD_l0(a:List Ad):Do (.list a) (.list [])=a.isEmpty:=u0 a
theorem ow_e{R:Ad->Prop}:(∃e,DV.dat .ow d=.dat .ow e/\R e)=R d:=by
 apply propext
 constructor
 ·(intro q_; obtain ⟨e,h,r⟩ := q_); cases h; exact r
 ·intro r; exact ⟨d,rfl,r⟩
theorem tt_e:(∃m',DV.dat m (.bool b)=.dat m' (.bool true))=(b=true):=by
 apply propext
 constructor
 ·rintro ⟨e,h⟩; cases h; rfl
 ·intro r; subst r; exact ⟨m,rfl⟩
theorem cdiv_e:V4 i j=(0<j/\j<1073741824):=rfl
theorem cpow_e:P6 i j=(0<=j/\j<=1000000/\i.natAbs<2 ^ 64):=rfl
theorem BE(h:sl=sl')(h':n=n'):(⟨sl,n⟩ : DS)=⟨sl',n'⟩:=by subst h h'; rfl
theorem vD(h:(Dk j)[i]? = some a):a=i/\i<j:=by
 obtain ⟨h1,h2⟩:=Ah.mp h
 rw[Lz] at h1
 rw[List.getElem_range] at h2
 exact ⟨h2.symm,h1⟩
def NP(v:DV):Prop:=∀l,npk (v::l)=npk l
theorem Si:NP .un:=λ_=>rfl
theorem Je:NP (.dat .sh d):=λ_=>rfl
theorem vZ:NP (.dat .ow d):=λ_=>rfl
theorem Q2:NP .drw:=λ_=>rfl
theorem N0(x y:α)(b:Bool):Uv [x,y] (if b=true then 1 else 0)=some (if b=true then y else x):=by cases b <;> rfl
theorem isi_li(ds:List Ad):eR (.list ds) "list" = true:=by simp [eR,j5]
theorem isi_tt(ds:List Ad):eR (.tuple ds) "tuple" = true:=by simp [eR,j5]
theorem isi_wt(w:List Int):eR (Bv w) "tuple" = true:=isi_tt _
theorem BC{ns:List Int}(k:Nat):(Yn ns none (some (k:Int))).length<=k:=by
 rw[rQ,Cv]
 exact Nat.min_le_left _ _
theorem ifB_lt:EE t u D true δ=t D δ:=rfl
theorem ifB_lf:EE t u D false δ=u D δ:=rfl
theorem str_self(s:Str):(s == s)=true:=by simp
theorem Sj{l:List α}{i:Nat}{a:α}(h:l[i]? = some a):Uv l (i:Int)=some a:=by
 obtain ⟨b,e1,e2,_⟩:=Sk (l:=l) (i:=(i:Int)) (by omega) (by have:=(Ah.mp h).1; omega)
 rw[e2,<- e1,<- h]; rfl
theorem okT_l:BF (.list ds)=True:=rfl
theorem atI_0(x:α)(l:List α):Uv (x::l) 0=some x:=Sj (i:=0) rfl
theorem atI_1(x y:α)(l:List α):Uv (x::y::l) 1=some y:=Sj (i:=1) rfl
theorem atI_2(x y z:α)(l:List α):Uv (x::y::z::l) 2=some z:=Sj (i:=2) rfl
theorem BR(x y z t:α)(l:List α):Uv (x::y::z::t::l) 3=some t:=Sj (i:=3) rfl
theorem some_e{α:Type}{a:α}{R:α->Prop}:(∃d,some a=some d/\R d)=R a:=propext ⟨λ⟨_,e,h⟩=>by cases e; exact h,λh=>⟨a,rfl,h⟩⟩
theorem ik_e{Q:List (Int×Ad)->Int->Prop}:(∃ks' w',Yl ks=Yl ks'/\An w=An w'/\Q ks' w')=Q ks w:=propext ⟨λ⟨ks',w',e1,e2,h⟩=>by cases Wg e1; cases e2; exact h,λh=>⟨ks,w,rfl,rfl,h⟩⟩
theorem getI_e:qF (.dat m (.dict (Yl ks))) (.dat m' (.int w)) (.dat m2 e) δ P=(imm e=true/\P (.dat .ow ((Pi ks w).getD e)) δ):=propext ⟨λ⟨ks',w',e1,e2,h⟩=>by cases Wg e1; cases e2; exact h,λh=>⟨ks,w,rfl,rfl,h⟩⟩
theorem dgetN_e:Ze (.dat m (.dict (Vt a ks))) (.dat m' (Bv w)) P=∃d,Yt ks w=some d/\P (.dat .ow d):=propext ⟨λ⟨a',ks',w',d,e1,e2,h⟩=>by obtain ⟨_,rfl⟩:=qZ e1; cases Sm e2; exact ⟨d,h⟩,λ⟨d,h⟩=>⟨a,ks,w,d,rfl,rfl,h⟩⟩
theorem dk_e{Q:List (List Int×Ad)->List Int->Prop}:(∃ks' w',Qr ks=Qr ks'/\Bv w=Bv w'/\Q ks' w')=Q ks w:=propext ⟨λ⟨ks',w',e1,e2,h⟩=>by cases Sv e1; cases Sm e2; exact h,λh=>⟨ks,w,rfl,rfl,h⟩⟩
theorem dget_e:gV (.dat m (.dict (Qr ks))) (.dat m' (Bv w)) P=∃d,Yt ks w=some d/\P (.dat .ow d):=propext ⟨λ⟨ks',w',d,e1,e2,h⟩=>by cases Sv e1; cases Sm e2; exact ⟨d,h⟩,λ⟨d,h⟩=>⟨ks,w,d,rfl,rfl,h⟩⟩
theorem ow_npk:(Md.ow≠Md.pk)=True:=eq_true (by decide)
end DL
namespace K35
open PySem L2 Nd DL
def top(i:Nat):Stmt:=PySem.Challenge.pw_needledeck_k35_values_written.main.body.getD i (.Pass ⟨0,0,0,0⟩)
abbrev Wl:Stmt:=top 1
abbrev Mi:Stmt:=top 2
abbrev Sw:Stmt:=top 4
abbrev Zu:Stmt:=top 5
abbrev Xb:Stmt:=top 6
abbrev gK:Stmt:=top 8
abbrev dZ:Stmt:=top 9
abbrev La:Stmt:=top 10
abbrev Os:Stmt:=top 11
abbrev Pg:Stmt:=top 12
abbrev Qd:Stmt:=top 13
abbrev Nn:Stmt:=top 14
abbrev Pf:Stmt:=top 15
abbrev Kw:Stmt:=top 16
abbrev Ez:Stmt:=top 17
abbrev Nb:Stmt:=top 18
abbrev Vv:Stmt:=top 19
section
variable{P:Bo}{w:World}{K:PySem.W.Frag}{mg:Str->Option Value}{base:Heap}
theorem GY:FnScope ["_law_cell"] ["_law_cell"] (Bu gK):=⟨rfl,rfl,rfl,by decide +kernel,rfl,by decide +kernel,by decide +kernel⟩
theorem uV(F:Fun K "_law_draws" "_law_draws" gK f fd):FnOk P w K mg base Ib 1 f fd ["_law_cell"] Wp:=by
 refine F.ok GY (λvs H Q E h=>?_) (λcdv A outer s H vs Q E hr h=>?_)
 ·obtain ⟨c,rfl,_⟩:=h
  rfl
 obtain ⟨c,rfl,q⟩:=h
 refine ⟨_,Ex (pF (qB CA (pv 0) (En Uz Dd Dd) (Xf _)) (Kv (Qe (aC (Fu (En Nu (pv 0) (En w4 (En Uz Dd Dd) Dd)) (Fu Dd (Fu uY Iu)))))) Zc)
  (Kv (Qe (aC (Fu (En Nu (pv 0) Dd) (Fu Dd (Fu uY Iu)))))),?_⟩
 refine ⟨_,rfl,10,18,rfl,rfl,⟨by decide,by decide,by decide⟩,_,_,rfl,rfl,_,rfl,U8 (λ_=>?_) (λ_=>?_)⟩
 ·refine ⟨_,rfl,10,60,rfl,rfl,⟨by decide,by decide,by decide⟩,_,16,rfl,rfl,⟨by decide,by show (Builtin.Int.intBits (10 ^ (60:Int).toNat):Int) * 16<=2 ^ 27; decide +kernel⟩,_,_,rfl,rfl,(by show (0:Int)<(10 ^ (60:Int).toNat) ^ (16:Int).toNat; decide +kernel),(by show 3<=Av; decide),λp hp=>?_⟩
  exact q p _ _ _ hp Cm (Dn hp _)
 ·refine ⟨_,rfl,_,_,rfl,rfl,(by show (0:Int)<1000003; decide),(by show 3<=Av; decide),λp hp=>?_⟩
  exact q p _ _ _ hp Cm (Dn hp _)
theorem FY:FnScope ["_law_draws_here", "_law_k", "_law_number"] ["_law_draws_here"] (Bu dZ):=⟨rfl,rfl,rfl,by decide +kernel,rfl,by decide +kernel,by decide +kernel⟩
theorem C4(F:Fun K "_law_next" "_law_next" dZ f fd):FnOk P w K mg base Ib 1 f fd ["_law_draws_here"] uK:=by
 refine F.ok FY (λvs H Q E h=>?_) (λcdv A outer s H vs Q E hr h=>?_)
 ·obtain ⟨d,c,k,fl,rfl,_⟩:=h
  rfl
 obtain ⟨d,c,k,fl,rfl,hd,h0,h1,q⟩:=h
 refine ⟨_,Ex (gB (En Qq (Ow Kg (pv 0) Dd (λ_ _=>rfl)) Dd) (fB (pv 0) Dd Vx))
  (Ex (pF (oS (Ow Kg (pv 0) Dd (λ_ _=>rfl)))
   (Ex (Kt (i:=2) FY.nd rfl (Dr rfl) (En Nu (Ow Kg (pv 0) Dd (λ_ _=>rfl)) (En Uz Dd Dd)))
    (Ex (gB (En Wf (Ow Kg (pv 0) Dd (λ_ _=>rfl)) (En Uz Dd Dd)) (fB (pv 0) Dd Vx))
    (Kv (Qe (pv 2))))) Zc)
  (Ex (Kt (i:=1) FY.nd rfl (Dr rfl) (Ow Kg (pv 0) Dd (λ_ _=>rfl)))
  (Ex (Kt (i:=2) FY.nd rfl (Dr rfl) (En Nu (En Np (En Qq (En Qq (Ow Kg (pv 0) Dd (λ_ _=>rfl)) (En Np (En Np (pv 1) (pv 1)) Dd)) (pv 1)) Dd) Dd))
  (Ex (Kt (i:=2) FY.nd rfl (Dr rfl) (En Nu (En Np (pv 2) (pv 2)) Dd))
  (Kv (Qe (En Wf (En Nu (En Np (pv 2) (En Qq (pv 2) Dd)) Dd) Dd))))))),?_⟩
 -- draws[1]=draws[1]+1
 refine ⟨_,rfl,d,_,1,_,rfl,rfl,Kb.of hd,rfl,_,_,rfl,rfl,_,rfl,d,_,1,1,rfl,rfl,hd,rfl,?_⟩
 have e1:(upd H d (.lst ([V.int c,V.int k,V.bl fl].set 1 (V.int (k+1))))) d=some (.lst [.int c,.int (k+1),.bl fl]):=Cm
 generalize hH1:upd H d (.lst ([V.int c,V.int k,V.bl fl].set 1 (V.int (k+1))))=H1 at e1
 have s1:Ue d H H1:=by rw[<- hH1]; exact Ue.upd
 refine ⟨_,rfl,d,_,2,_,rfl,rfl,Kb.of e1,rfl,_,rfl,?_⟩
 refine U8 (λ_=>?_) (λ_=>?_)
 ·refine ⟨_,rfl,d,_,0,_,rfl,rfl,Kb.of e1,rfl,10,6,rfl,rfl,⟨by decide,by decide,by decide⟩,_,_,rfl,rfl,(by show (0:Int)<10 ^ (6:Int).toNat; decide),?_⟩
  refine ⟨_,rfl,d,_,0,_,rfl,rfl,Kb.of e1,rfl,10,6,rfl,rfl,⟨by decide,by decide,by decide⟩,_,_,rfl,rfl,⟨by decide,by decide⟩,_,rfl,d,_,0,0,rfl,rfl,e1,rfl,_,rfl,?_⟩
  exact q _ _ _ Cm (s1.trans Ue.upd)
 ·refine ⟨_,rfl,d,_,1,_,rfl,rfl,Kb.of e1,rfl,?_⟩
  have b1:=Vy ((c+(k+1) * (k+1) * 7919+(k+1)) * 48271) 2147483629 (by decide)
  refine ⟨_,rfl,d,_,0,_,rfl,rfl,Kb.of e1,rfl,_,rfl,_,rfl,_,_,rfl,rfl,.inl ⟨by omega,by omega⟩,_,_,rfl,rfl,.inr ⟨by decide,by decide⟩,_,_,rfl,rfl,_,rfl,_,_,rfl,rfl,
   _,_,rfl,rfl,.inr ⟨by decide,by decide⟩,_,_,rfl,rfl,(by show (0:Int)<2147483629; decide),?_⟩
  generalize ((c+(k+1) * (k+1) * 7919+(k+1)) * 48271) % 2147483629=x at b1
  have b2:=Vy (x * x) 2147483587 (by decide)
  refine ⟨_,rfl,_,rfl,_,_,rfl,rfl,.inl ⟨by omega,by omega⟩,_,_,rfl,rfl,(by show (0:Int)<2147483587; decide),?_⟩
  generalize (x * x) % 2147483587=y at b2
  refine ⟨_,rfl,_,rfl,_,_,rfl,rfl,_,_,rfl,rfl,.inl ⟨by omega,by omega⟩,_,_,rfl,rfl,(by show (0:Int)<2147483579; decide),_,_,rfl,rfl,⟨by decide,by decide⟩,?_⟩
  exact q _ _ _ e1 s1
theorem rK(F:Fun K "_law_draws" "_law_draws" gK f fd):FnOk P w K mg base Ib 1 f fd ["_law_cell"] Wp:=uV F
theorem xJ(F:Fun K "_law_next" "_law_next" dZ f fd):FnOk P w K mg base Ib 1 f fd ["_law_draws_here"] (jD K Zv):=n8 (C4 F)
end
end K35
namespace DL
open PySem L2 Nd
def sub(a b:List Int):Bool:=a.all λi=>decide (i∈b)
def iQ(a b:List Int):List Int:=a.filter λi=>decide (i∉b)
theorem oQ(r:Ks h a):a.Nodup:=r.1.imp λ{x y} h=>Int.ne_of_lt h
theorem Jx(a:Int)(h:0<b):0<=a % b/\a % b<b:=Vy a b h
end DL
namespace Nd
open PySem L2 Ts
def zK(K:PySem.W.Frag):R2:=λx y H Q=>∃a b xs ys,x=.ref a/\y=.ref b/\Vh K H a xs/\Vh K H b ys/\ys≠[]/\xs.length+ys.length<=Av/\(xs=[]->Q (.ref b) H)/\(xs≠[]->∀p,H p=none->Q (.ref p) (upd H p (.tup (xs++ys))))
open PyProof.Rows in
theorem qW{X:Cx}:Xo X (Jv .Add) (zK X.K):=by
 intro pins s σ H x y v u Q I rx ry h
 obtain ⟨a,b,xs,ys,rfl,rfl,ha,hb,hy,hz,q1,q2⟩:=h
 by_cases hx:xs=[]
 ·cases rx
  cases ry
  obtain ⟨its,r1,p1,_⟩:=I.tuple ha
  obtain ⟨its2,r2,p2,_⟩:=I.tuple hb
  have e1:its=[]:=r1.nil_iff.mpr hx
  subst e1
  obtain ⟨⟨c1,d1,dt1,sl1⟩,g1,k1,n1,e1⟩:=id p1
  obtain ⟨⟨c2,d2,dt2,sl2⟩,g2,k2,n2,e2⟩:=id p2
  simp only at k1 e1 k2 e2
  subst k1 e1 k2 e2
  exact concat_meets ⟨_,g1,rfl⟩ ⟨_,g2,rfl⟩ iG seq_tuple_add PySem.F.slot_tuple_add PySem.F.entry_tuple_add (PySem.F.args_tuple_add_2 _ _)
   (tuple_addW0 a b _ _ n1 n2 d1 d2 sl1 sl2 rfl) ⟨g1,g2,⟨.ref b,H,I,rfl,q1 hx⟩⟩
 ·exact x5 pins s σ H (.ref a) (.ref b) v u Q I rx ry ⟨a,b,xs,ys,rfl,rfl,ha,hb,hx,hz,λz=>absurd z hy,λ_=>q2 hx⟩
def Du:Nat->List (List Int)
 | 0=>[[]]
 | n+1=>Du n++(Du n).map (·++[(n:Int)])
theorem Uu:∀n,(Du n).length=2 ^ n
 | 0=>rfl
 | n+1=>by
  show (Du n++(Du n).map (·++[(n:Int)])).length=2 ^ (n+1)
  rw[Bw,Ac,Uu n,Nat.pow_succ]
  omega
theorem Qn(h:n<=10):(Du n).length<=1024:=by
 rw[Uu]
 exact Vm (by decide) h
theorem Me:∀n,∀w∈Du n,w.length<=n
 | 0,w,h=>by
  have : w=[]:=by simpa [Du] using h
  rw[this]
  exact Ak _
 | n+1,w,h=>by
  rcases Bg.mp (show w∈Du n++(Du n).map (·++[(n:Int)]) from h) with h | h
  ·exact Nat.le_succ_of_le (Me n w h)
  ·obtain ⟨v,hv,e⟩:=Bs.mp h
   rw[<- e,Bw,Mn]
   exact Nat.succ_le_succ (Me n v hv)
theorem Rx:∀n,∃r,Du n=[]::r
 | 0=>⟨[],rfl⟩
 | n+1=>by
  obtain ⟨r,e⟩:=Rx n
  refine ⟨r++(Du n).map (·++[(n:Int)]),?_⟩
  show Du n++(Du n).map (·++[(n:Int)])=_
  conv=>lhs; lhs; rw[e]
  rfl
def Ord(l:List (List Int)):Prop:=l.Pairwise λx y=>HT.lexLt y x=false
theorem jJ:∀{l m:List (List Int)},l.Perm m->Ord l->Ord m->l=m
 | [],m,p,_,_=>(List.Perm.nil_eq p)
 | x::l,[],p,_,_=>by
  have:=p.length_eq
  simp at this
 | x::l,y::m,p,h1,h2=>by
  obtain ⟨a1,a2⟩:=Bf.mp h1
  obtain ⟨b1,b2⟩:=Bf.mp h2
  have e:x=y:=by
   have mx:x∈y::m:=p.mem_iff.mp Aa
   have my:y∈x::l:=p.mem_iff.mpr Aa
   rcases Aj.mp mx with e | mx
   ·exact e
   ·rcases Aj.mp my with e | my
    ·exact e.symm
    ·exact gF (b1 x mx) (a1 y my) |>.symm▸rfl
  subst e
  rw[jJ ((List.perm_cons x).mp p) a2 b2]
def Ws(H:Hp)(ws:List (Addr×List Int)):Prop:=∀p∈ws,H p.1=some (.tup (p.2.map V.int))
def yL(H:Hp)(a:Addr):List Int:=match H a with
 | some (.tup xs)=>xs.filterMap λx=>match x with | .int i=>some i | _=>none
 | _=>[]
theorem Ut(h:H a=some (.tup (w.map V.int))):yL H a=w:=by
 unfold yL
 rw[h]
 show (w.map V.int).filterMap _=w
 rw[List.filterMap_map]
 exact List.filterMap_some
theorem Ws.c(h:Ws H ws):(ws.map (·.1)).map (yL H)=ws.map (·.2):=by
 rw[Bx]
 exact Fk λp hp=>Ut (h p hp)
def gM:Sp:=λvs H Q _=>∃h:Int,vs=[.int h]/\0<=h/\h<=10 /\
 ∀(p:Addr) (rs:List Addr) (L:List (List Int)) (H':Hp),H p=none->H' p=some (.lst (rs.map V.ref))->(∀(i:Nat) (r:Addr) (w:List Int),rs[i]? = some r->L[i]? = some w->H' r=some (.tup (w.map V.int)))->rs.length=L.length->L.Perm (Du h.toNat)->Ord L->Mg H H'->Q (.ref p) H'
end Nd
namespace Nd
open PySem L2
def ch:Nat->Nat->Nat
 | _,0=>1
 | 0,_+1=>0
 | n+1,k+1=>ch n k+ch n (k+1)
theorem qM(n k:Nat):ch (n+1) (k+1)=ch n k+ch n (k+1):=rfl
theorem Zy:∀{n k:Nat},n<k->ch n k=0
 | 0,0,h=>absurd h (Gf _)
 | 0,k+1,_=>rfl
 | n+1,0,h=>absurd h (Nat.not_lt_zero _)
 | n+1,k+1,h=>by rw[qM,Zy (by omega:n<k),Zy (by omega:n<k+1)]
theorem o4:∀n:Nat,ch n n=1
 | 0=>rfl
 | n+1=>by rw[qM,o4 n,Zy (Nat.lt_succ_self n)]
def cw:Nat->Int->Nat->List (List Int)
 | _,_,0=>[[]]
 | 0,_,_+1=>[]
 | d+1,p,m+1=>(cw d (p+1) m).map (p::·)++cw d (p+1) (m+1)
def Xg(top:Int):Nat->List Int->Nat
 | _,[]=>0
 | m,x::w=>ch (top - 1 - x).toNat m+Xg top (m - 1) w
theorem oB:∀{n:Nat} {w:List Int},w∈Du n↔Ks n w
 | 0,w=>by
  show w∈[[]]↔_
  rw[List.mem_singleton]
  constructor
  ·rintro rfl; exact Ks.nil _
  ·rintro ⟨_,h⟩
   match w with
   | []=>rfl
   | x::w=>have:=h x Aa; omega
 | n+1,w=>by
  show w∈Du n++(Du n).map (·++[(n:Int)])↔_
  rw[List.mem_append,List.mem_map,oB]
  constructor
  ·rintro (h | ⟨v,hv,rfl⟩)
   ·exact h.up (by omega)
   ·have:=(oB.mp hv).more (by omega)
    exact this.up (by omega)
  ·intro h
   by_cases hn:(n:Int)∈w
   ·refine .inr ⟨w.dropLast,oB.mpr ?_,?_⟩
    ·have hne:w≠[]:=λz=>by rw[z] at hn; cases hn
     have hl:w.getLast hne=n:=by
      have h1:=h.2 _ (List.getLast_mem hne)
      by_cases e:w.getLast hne=n
      ·exact e
      ·exfalso
       have hd:=Iz hne
       rw[<- hd] at hn
       rcases Bg.mp hn with z | z
       ·have hp:=h.1
        rw[<- hd] at hp
        have:=(Dm.mp hp).2.2 _ z _ (Ag.mpr rfl)
        omega
       ·exact e (Ag.mp z).symm
     have hd:=Iz hne
     have hp:=h.1
     rw[<- hd,hl] at hp
     obtain ⟨p1,_,p3⟩:=Dm.mp hp
     exact ⟨p1,λx hx=>⟨(h.2 x (List.dropLast_subset w hx)).1,p3 x hx _ (Ag.mpr rfl)⟩⟩
    ·have hne:w≠[]:=λz=>by rw[z] at hn; cases hn
     have hl:w.getLast hne=n:=by
      have h1:=h.2 _ (List.getLast_mem hne)
      by_cases e:w.getLast hne=n
      ·exact e
      ·exfalso
       have hd:=Iz hne
       rw[<- hd] at hn
       rcases Bg.mp hn with z | z
       ·have hp:=h.1
        rw[<- hd] at hp
        have:=(Dm.mp hp).2.2 _ z _ (Ag.mpr rfl)
        omega
       ·exact e (Ag.mp z).symm
     rw[<- hl]
     exact Iz hne
   ·refine .inl ⟨h.1,λx hx=>?_⟩
    have:=h.2 x hx
    have : x≠n:=λz=>hn (by rw[<- z]; exact hx)
    omega
theorem Qo:∀n:Nat,(Du n).Nodup
 | 0=>Bz.mpr ⟨Ax,Co⟩
 | n+1=>by
  show (Du n++(Du n).map (·++[(n:Int)])).Nodup
  refine Gi.mpr ⟨Qo n,?_,λx hx y hy e=>?_⟩
  ·exact List.Pairwise.map _ (λa b h e=>h (List.append_cancel_right e)) (Qo n)
  ·subst e
   obtain ⟨v,_,rfl⟩:=Bs.mp hy
   have:=(oB.mp hx).2 n (Al _ (Ag.mpr rfl))
   omega
end Nd
namespace DL
open PySem L2 Nd
def Vp:PF:=λds R=>∃h:Int,ds=[.int h]/\0<=h/\h<=10/\∀L:List (List Int),L.Perm (Du h.toNat)->Ord L->R (wordsD L)
theorem lE:∀{rs:List Addr} {L:List (List Int)},(∀(i:Nat) (r:Addr) (w:List Int),rs[i]? = some r->L[i]? = some w->H r=some (.tup (w.map V.int)))->rs.length=L.length->(∀w∈L,w.length<=1000000)->RdFs K H (rs.map V.ref) (L.map Bv) []
 | [],[],_,_,_=>.nil
 | r::rs,w::L,h,l,hw=>by
  have a:=t8 (K:=K) (h 0 r w rfl rfl) (hw w (Aa ..))
  have t:=lE (K:=K) (rs:=rs) (L:=L) (λi r' w' e1 e2=>h (i+1) r' w' e1 e2) (by simpa using l) (λw' z=>hw w' (Ae _ z))
  exact RdFs.cons a t
 | [],_::_,_,l,_=>by simp at l
 | _::_,[],_,l,_=>by simp at l
theorem Te{L:List (List Int)}(hn:n<=10)(p:L.Perm (Du n)):L.length<=1024/\∀w∈L,Ks n w/\w.length<=10:=⟨by rw[p.length_eq]; exact Qn hn,λw hw=>⟨oB.mp (p.mem_iff.mp hw),Cc (Me n w (p.mem_iff.mp hw)) hn⟩⟩
section
variable{P:Bo}{w:World}{K:PySem.W.Frag}{mg:Str->Option Value}{base:Heap}{k:Nat}{f:Addr}{fd:Ci}{ps:List Str}
theorem kM(F:FnOk P w K mg base Ib k f fd ps gM):FnOk P w K mg base Ib k f fd ps (Vg K Vp):=by
 refine F.imp λus H Q E h=>?_
 obtain ⟨As,n,ds,R,eu,ok,q,hp,k1⟩:=h
 obtain ⟨h,rfl,h0,h1,hR⟩:=hp
 obtain ⟨v1,F1,rfl,r1⟩:=uD eu ok q
 obtain ⟨rfl,_⟩:=r1.int_inv
 refine ⟨h,rfl,h0,h1,λp rs L H' np ep hr hl hp ho s=>?_⟩
 obtain ⟨l1,l2⟩:=Te (n:=h.toNat) (by omega) hp
 refine k1 (.ref p) _ [p] H' (hR L hp ho) (RdF.lst ep (by rw[Ac]; exact lG (by omega)) (lE hr hl λw hw=>by have:=(l2 w hw).2; omega)) (Bz.mpr ⟨Ax,Co⟩) (λa ha=>?_) s
 rw[Ag.mp ha]; exact np
end
theorem nZ{α:Type}{l:List α}{p:α×Nat}(h:l.zipIdx[i]? = some p):p.2=i/\l[i]? = some p.1/\p.1∈l/\i<l.length:=by
 rw[List.getElem?_zipIdx] at h
 cases q:l[i]? with
 | none=>rw[q] at h; cases h
 | some a =>
  rw[q] at h
  cases h
  exact ⟨by simp,rfl,Au q,(Ah.mp q).1⟩
def pairD(p:Nat×Nat):Ad:=.tuple [.int p.1,.int p.2]
instance {p:Nat×Nat}:Im (pairD p):=⟨(inferInstance:Im (.tuple [.int p.1,.int p.2])).h⟩
instance {p:Nat×Nat}:Dp (pairD p) 1:=⟨(inferInstance:Dp (.tuple [.int p.1,.int p.2]) 1).h⟩
def L4(p:Nat×Nat×List Int):Ad:=.tuple [.int p.1,.int p.2.1,Bv p.2.2]
instance {p:Nat×Nat×List Int}:Im (L4 p):=⟨(inferInstance:Im (.tuple [.int p.1,.int p.2.1,Bv p.2.2])).h⟩
instance {p:Nat×Nat×List Int}:Dp (L4 p) 2:=⟨(inferInstance:Dp (.tuple [.int p.1,.int p.2.1,Bv p.2.2]) 2).h⟩
def EM(L:List (List Int))(f:List Int->Int):Ad:=.list ((L.map f).map An)
instance {L:List (List Int)} {f:List Int->Int}:Dp (EM L f) 1:=⟨(inferInstance:Dp (.list ((L.map f).map An)) 1).h⟩
theorem Sf{L:List (List Int)}(p:L.Perm (Du n)):L.Nodup:=p.nodup_iff.mpr (Qo n)
theorem tM(ha:Ks n a)(hb:Ks m b)(h:∀i,i∈a↔i∈b):a=b:=by
 have p:a.Perm b:=(List.perm_ext_iff_of_nodup (oQ ha) (oQ hb)).mpr h
 exact p.eq_of_pairwise (λx y _ _ h1 h2=>by omega) ha.1 hb.1
end DL
namespace DL
open PySem PySem.Spec PyProof.Rows L2 Nd
def Rb(L:List (List Int))(f:List Int->Int):List (List Int×Ad):=L.map λw=>(w,.int (f w))
theorem iM:∀(L:List (List Int)) (es:List Ad) (acc:List (List Int×Ad)),L.length=es.length->L.Nodup->(∀w∈L,∀p∈acc,p.1≠w)->Qw acc (L.zip es)=acc++L.zip es
 | [],es,acc,_,_,_=>by simp [Qw]
 | w::L,[],acc,h,_,_=>by cases h
 | w::L,e::es,acc,h,nd,hn=>by
  have hp:Ry acc w e=acc++[(w,e)]:=by
   unfold Ry
   rw[if_neg]
   rw[bP]
   (intro q_; obtain ⟨p,hp,z⟩ := q_)
   exact hn w Aa p hp (of_decide_eq_true z)
  have nd':=Bz.mp nd
  show Qw (Ry acc w e) (L.zip es)=_
  rw[hp,iM L es _ (Nat.succ.inj h) nd'.2 λv hv p hp=>?_]
  ·rw[Ce]; rfl
  ·rcases Bg.mp hp with z | z
   ·exact hn v (Ae _ hv) p z
   ·rw[Ag.mp z]
    rintro rfl
    exact nd'.1 hv
theorem kF:∀(L:List (List Int)) (f:List Int->Int),L.zip ((L.map f).map An)=Rb L f
 | [],f=>rfl
 | w::L,f=>by
  have ih:=kF L f
  unfold Rb at ih ⊢
  rw[Ar,Ar,Lb,ih]
  rfl
theorem wF(nd:L.Nodup)(f:List Int->Int):Qw [] (L.zip ((L.map f).map An))=Rb L f:=by
 rw[iM L _ [] (by rw[Ac,Ac]) nd λ_ _ p hp=>(nomatch hp),Tw,kF]
theorem Th:∀{L:List (List Int)},w∈L->Yt (Rb L f) w=some (.int (f w))
 | [],h=>(nomatch h)
 | v::L,h=>by
  unfold Yt Rb
  rw[Ar,Iy]
  by_cases e:v=w
  ·subst e
   rw[show decide ((v,An (f v)).1=v)=true from decide_eq_true rfl]
   rfl
  ·rw[show decide ((v,An (f v)).1=w)=false from decide_eq_false e]
   have ih:=Th (f:=f) (List.mem_of_ne_of_mem (λz=>e z.symm) h)
   exact ih
end DL
namespace K35
open PySem L2 Nd DL
local macro_rules | `(tactic| array_get_dec) => do
  let ids:=(("e_maxL e_idx e_idxB e_idxC e_seq e_skip e_ret e_if e_asg e_name e_name2 e_name4 e_own e_nF e_gtup e_gsn e_gsc e_op e_var e_c e_imm e_immB e_take e_I e_I0 e_eqF e_eqT e_inFl e_inTl e_inFt_w1 e_inTt_w1 e_isNF e_ixl e_ixt e_cat e_nlT e_pkOfpk e_pkOfsh e_pkOfow e_mdInpk e_mdInsh e_mdInow e_mdItsh e_mdItow e_nil e_cons e_tup e_lst e_noPart e_part e_partB e_cb e_lenl e_lent e_lent_w1 e_listl e_intb e_max2 e_MinL e_MaxL e_all e_isi e_str e_v e_b e_bB e_tru e_truB e_notT e_andT e_orT e_orTf e_and e_andt e_ifE e_dL e_dTp e_lB e_tpB_w1 e_range1 e_rng1B e_enum e_enumB e_zip e_zipB e_for e_comp e_comp2 e_compD e_noTest e_step e_stepT e_stepF e_yesB e_stepD e_stepDT e_yesBD e_call e_callW e_draws e_drawsB e_append e_revL e_appendO e_sumt_w1 e_scrSl e_dnew e_dput e_appI e_appIB e_dictZ e_dictZB e_tagD e_inew e_iput e_getI e_isIc2 e_tagI e_forN e_sortK dgetN_e isIct iputB ik_e getI_e ow_npk isDct dputB dk_e dget_e wordsD callB callBW tupB lstB datas pkMd allOw noPk appB appOB mmd revLB own1 npk retE retW retL args0 frD frD1 alD List.map_cons List.map_nil List.replicate List.getElem?_cons_zero List.getElem?_cons_succ List.set_cons_zero List.set_cons_succ List.cons_append List.nil_append Option.map_some List.length_cons List.length_nil List.append_nil rdAdd rdSub rdMul rdDiv rdMod rdPow rdXor rdGt if_true mdZip Nat.reduceAdd Nat.reduceSub Nat.reduceLeDiff true_and im_e ima_e dp_e dpa_e any_int any_word eqD_intd eqD_word eqD_str eqD_l0 ow_e tt_e cdiv_e cpow_e Int.reduceLT Int.reduceLE Nat.reduceLT Int.reduceNeg and_self Int.reduceToNat Int.reducePow isi_li isi_tt isi_wt Bool.not_true decide_true String.reduceEq or_true true_or List.isEmpty_nil ifB_lt ifB_lf str_self Int.cast_ofNat_Int atI_0 atI_1 atI_2 some_e okT_l" : String).splitOn " ").toArray.map λ(x:String)=>Lean.mkIdent x.toName
  `(tactic| try simp only [$[$ids:ident],*])
section
variable{P:Bo}{w:World}{K:PySem.W.Frag}{mg:Str->Option Value}{base:Heap}
theorem Xm:FnScope ["holes", "words", "place"] ["holes"] (Bu Mi):=⟨rfl,rfl,rfl,by decide +kernel,rfl,by decide +kernel,by decide +kernel⟩
theorem bZ(F:Fun K "all_words" "all_words" Mi f fd)(mR:mg "range" = none)(mS:mg "sorted" = none):FnOk P w K mg base Ib 1 f fd ["holes"] gM:=by
 refine F.ok Xm (λvs H Q E h=>?_) (λcdv A outer s H vs Q E hr h=>?_)
 ·obtain ⟨h,rfl,_⟩:=h
  rfl
 obtain ⟨h,rfl,h0,h1,q⟩:=h
 have hu2:(A.deeper (PyProof.Rows.envOfC "all_words" (Bu Mi) s.heap.objs.size f cdv)).units+2<cLine:=He (Nat.add_le_add_left (by decide:2<=64) _) hr.units
 refine ⟨_,Ex (Kt (i:=1) Xm.nd rfl (Dr rfl) (aC (Fu (aS Iu) Iu)))
  (Ex (fJ Fe rfl (Xd rfl mR (Fu (pv 0) Iu)) (Kz (i:=2) Xm.nd rfl (Li rfl))
   (Kv (Kt (i:=1) Xm.nd rfl (Dr rfl) (En mE (pv 1)
    (gD (aD (x := "word") (y := "place") (j:=2) (cl:=[("place",s.heap.objs.size+1)]) (by rfl) (by decide +kernel) (by rfl) (by decide +kernel) (by rfl) (λ_ _ h=>h) (by rfl) (by decide +kernel) (by rfl) (by rfl) (by rfl)) rfl (fH (pv 1)) (λ_ _ _=>bG)
     (λ_ _ _=>En (r:=zK K) qW (pv 0) (aS (Fu (pv 1) Iu))))))))
  (Kv (Qe (bD (Ts.call_sorted hu2) rfl mS (by decide +kernel) (Fu (pv 1) Iu))))),?_⟩
 refine ⟨(by show 0<=Av; decide),λe ne=>⟨(by show 1<=Av; decide),λl nl=>?_⟩⟩
 have s1:=(Dn ne (.tup [])).trans (Dn nl (.lst [V.ref e]))
 have b1:(upd (upd H e (.tup [])) l (.lst [V.ref e])) l=some (.lst (([(e,[])].map λp:Addr×List Int=>p.1).map V.ref)):=Cm
 have b2:Ws (upd (upd H e (.tup [])) l (.lst [V.ref e])) [(e,[])]:=λp hp=>by
  have : p=(e,[]):=by simpa using hp
  rw[this]
  exact Dn nl _ _ _ Cm
 refine ⟨_,rfl,h,rfl,by omega,by omega,dO (lo:=0) (n:=h.toNat) (λi σ H2=>∃(l:Addr) (ws:List (Addr×List Int)) (pl:Option V),σ=[some (.int h),some (.ref l),pl]/\H2 l=some (.lst ((ws.map λp:Addr×List Int=>p.1).map V.ref))/\Ws H2 ws/\(ws.map λp:Addr×List Int=>p.2)=Du i/\Mg H H2)
  ⟨l,[(e,[])],none,rfl,b1,b2,rfl,s1⟩ ?_ ?_⟩
 ·(intro i σ H2 hi q_; obtain ⟨l,ws,pl,rfl,e1,hw,ew,sm⟩ := q_)
  have i10:i<=10:=by omega
  have lw:ws.length=(Du i).length:=by rw[<- ew,Ac]
  have lz:=Qn i10
  have hz:((ws.map λp:Addr×List Int=>p.1).map V.ref).length=(Du i).length:=by rw[Ac,Ac,lw]
  refine ⟨_,rfl,_,rfl,l,rfl,⟨_,Kb.of e1⟩,qY (Xv (xs:=(ws.map λp:Addr×List Int=>p.1).map V.ref)) (by rw[hz]; exact Cc lz (by decide))
   (λD j acc H3=>∃vs:List (Addr×List Int),acc=((vs.map λp:Addr×List Int=>p.1).map V.ref)/\Ws H3 vs/\(vs.map λp:Addr×List Int=>p.2)=((Du i).take j).map (·++[(i:Int)])/\Mg H2 H3)
   (λD nD=>⟨[],rfl,λp hp=>(nomatch hp),by simp,Dn nD _⟩) (λD j acc H3 ⟨_,_,_,_,s3⟩=>Kb.of (s3 _ _ e1)) ?_ ?_⟩
  ·(intro D j x acc H3 nD hx ha q_; obtain ⟨vs,rfl,wv,ev,s3⟩ := q_)
   refine uC ?_
   rw[Bx,Az] at hx
   cases hj:ws[j]? with
   | none=>rw[hj] at hx; cases hx
   | some pr =>
    obtain ⟨a,wd⟩:=pr
    rw[hj] at hx
    have ex:V.ref a=x:=Bl hx
    subst ex
    have ha2:H3 a=some (.tup (wd.map V.int)):=s3 _ _ (hw (a,wd) (Au hj))
    have ewd:(Du i)[j]? = some wd:=by
     rw[<- ew,Az,hj]
     rfl
    have lwd:wd.length<=10:=Cc (Me i wd (Au ewd)) i10
    -- the new word stands at r
    have fin:∀(r:Addr) (H4:Hp),Mg H3 H4->H4 r=some (.tup ((wd++[(i:Int)]).map V.int))->H4 D=some (.lst ((vs.map λp:Addr×List Int=>p.1).map V.ref)) /\
      ∃vs':List (Addr×List Int),(vs.map λp:Addr×List Int=>p.1).map V.ref++[V.ref r]=(vs'.map λp:Addr×List Int=>p.1).map V.ref/\Ws (upd H4 D (.lst ((vs.map λp:Addr×List Int=>p.1).map V.ref++[V.ref r]))) vs' /\
       (vs'.map λp:Addr×List Int=>p.2)=((Du i).take (j+1)).map (·++[(i:Int)])/\Mg H2 (upd H4 D (.lst ((vs.map λp:Addr×List Int=>p.1).map V.ref++[V.ref r]))):=λr H4 s4 hr4=>by
     have hD4:=s4 _ _ ha
     refine ⟨hD4,vs++[(r,wd++[(i:Int)])],by simp,λp hp=>?_,?_,λb o z=>?_⟩
     ·have hp4:H4 p.1=some (.tup (p.2.map V.int)):=by
       rcases Bg.mp hp with hp | hp
       ·exact s4 _ _ (wv p hp)
       ·have : p=(r,wd++[(i:Int)]):=by simpa using hp
        rw[this]
        exact hr4
      rw[Cj (qT hp4 hD4 (by intro z; cases z))]
      exact hp4
     ·rw[Bh,ev,Nj ewd,Bh]
      rfl
     ·rw[Cj (Dc z nD)]
      exact s4 _ _ (s3 _ _ z)
    refine ⟨_,rfl,_,rfl,(by show 1<=Av; decide),λp1 np1=>?_⟩
    have s4:=Dn np1 (.tup [V.int (0+(i:Int))])
    refine ⟨a,p1,_,_,rfl,rfl,Vh.of (s4 _ _ ha2),Vh.of Cm,(λz=>nomatch z),?_,λz=>?_,λz p2 np2=>?_⟩
    ·rw[Ac]
     show wd.length+1<=Av
     exact uQ (by omega)
    ·have e0:wd=[]:=by simpa using z
     subst e0
     exact fin p1 _ s4 (by rw[Cm,Zm]; rfl)
    ·refine fin p2 _ (s4.trans (Dn np2 _)) ?_
     rw[Cm,Bh,Zm]
     rfl
  ·(intro D acc H3 nD ha q_; obtain ⟨vs,rfl,wv,ev,s3⟩ := q_)
   rw[hz,Ij] at ev
   have lv:vs.length=(Du i).length:=by
    have:=congrArg Fm ev
    rw[Ac,Ac] at this
    exact this
   refine ⟨l,D,_,_,rfl,rfl,s3 _ _ e1,ha,?_,λp np=>?_⟩
   ·rw[Ac,Ac,Ac,Ac,lw,lv]
    exact Cc (by omega:_<=2048) (by decide)
   ·have s4:=Dn np (.lst ((ws.map λp:Addr×List Int=>p.1).map V.ref++(vs.map λp:Addr×List Int=>p.1).map V.ref))
    refine ⟨p,ws++vs,_,rfl,?_,λx hx=>?_,?_,(sm.trans s3).trans s4⟩
    ·rw[Cm,Bh,Bh]
    ·rcases Bg.mp hx with hx | hx
     ·exact s4 _ _ (s3 _ _ (hw x hx))
     ·exact s4 _ _ (wv x hx)
    ·rw[Bh,ew,ev]
     rfl
 ·(intro σ H2 q_; obtain ⟨l,ws,pl,rfl,e1,hw,ew,sm⟩ := q_)
  have ec:=hw.c
  refine ⟨_,rfl,l,ws.map (λp:Addr×List Int=>p.1),yL H2,rfl,Kb.of e1,λr hr'=>?_,λr Fz er=>?_,λp rs' np pr so=>?_⟩
  ·obtain ⟨x,hx,e⟩:=Bs.mp hr'
   subst e
   rw[Ut (hw x hx)]
   exact Vh.of (hw x hx)
  ·obtain ⟨tl,et⟩:=Rx h.toNat
   rw[<- ew] at et
   cases ws with
   | nil=>cases er
   | cons x ws' =>
    have e1:x.1=r:=by
     have:=congrArg List.head? er
     simpa using this
    have e2:x.2=[]:=by
     have:=congrArg List.head? et
     simpa using this
    rw[<- e1,Ut (hw x Aa),e2]
  ·have s3:=Dn np (.lst (rs'.map V.ref))
   refine q p rs' (rs'.map (yL H2)) _ (sm.free np) Cm (λi r wd h1 h2=>?_) (by rw[Ac]) ?_ ?_ (sm.trans s3)
   ·rw[Az,h1] at h2
    have e2:yL H2 r=wd:=Bl h2
    obtain ⟨x,hx,e⟩:=Bs.mp (pr.mem_iff.mp (Au h1))
    have hx':=hw x hx
    have e':x.1=r:=e
    rw[<- e2,<- e',Ut hx']
    exact s3 _ _ hx'
   ·have:=pr.map (yL H2)
    rw[ec,ew] at this
    exact this
   ·exact Yw.mpr so
theorem gA(F:Fun K "all_words" "all_words" Mi f fd)(mR:mg "range" = none)(mS:mg "sorted" = none):FnOk P w K mg base Ib 1 f fd ["holes"] (Vg K Vp):=kM (bZ F mR mS)
theorem Xj:FnScope ["_law_holes_here", "_law_found", "_law_place"] ["_law_holes_here"] (Bu La):=⟨rfl,rfl,rfl,by decide +kernel,rfl,by decide +kernel,by decide +kernel⟩
theorem bC(F:Fun K "_law_words" "_law_words" La f fd)(mR:mg "range" = none)(mS:mg "sorted" = none):FnOk P w K mg base Ib 1 f fd ["_law_holes_here"] gM:=by
 refine F.ok Xj (λvs H Q E h=>?_) (λcdv A outer s H vs Q E hr h=>?_)
 ·obtain ⟨h,rfl,_⟩:=h
  rfl
 obtain ⟨h,rfl,h0,h1,q⟩:=h
 have hu2:(A.deeper (PyProof.Rows.envOfC "_law_words" (Bu La) s.heap.objs.size f cdv)).units+2<cLine:=He (Nat.add_le_add_left (by decide:2<=64) _) hr.units
 refine ⟨_,Ex (Kt (i:=1) Xj.nd rfl (Dr rfl) (aC (Fu (aS Iu) Iu)))
  (Ex (fJ Fe rfl (Xd rfl mR (Fu (pv 0) Iu)) (Kz (i:=2) Xj.nd rfl (Li rfl))
   (Kv (Kt (i:=1) Xj.nd rfl (Dr rfl) (En mE (pv 1)
    (gD (aD (x := "_law_word") (y := "_law_place") (j:=2) (cl:=[("_law_place",s.heap.objs.size+1)]) (by rfl) (by decide +kernel) (by rfl) (by decide +kernel) (by rfl) (λ_ _ h=>h) (by rfl) (by decide +kernel) (by rfl) (by rfl) (by rfl)) rfl (fH (pv 1)) (λ_ _ _=>bG)
     (λ_ _ _=>En (r:=zK K) qW (pv 0) (aS (Fu (pv 1) Iu))))))))
  (Kv (Qe (bD (Ts.call_sorted hu2) rfl mS (by decide +kernel) (Fu (pv 1) Iu))))),?_⟩
 refine ⟨(by show 0<=Av; decide),λe ne=>⟨(by show 1<=Av; decide),λl nl=>?_⟩⟩
 have s1:=(Dn ne (.tup [])).trans (Dn nl (.lst [V.ref e]))
 have b1:(upd (upd H e (.tup [])) l (.lst [V.ref e])) l=some (.lst (([(e,[])].map λp:Addr×List Int=>p.1).map V.ref)):=Cm
 have b2:Ws (upd (upd H e (.tup [])) l (.lst [V.ref e])) [(e,[])]:=λp hp=>by
  have : p=(e,[]):=by simpa using hp
  rw[this]
  exact Dn nl _ _ _ Cm
 refine ⟨_,rfl,h,rfl,by omega,by omega,dO (lo:=0) (n:=h.toNat) (λi σ H2=>∃(l:Addr) (ws:List (Addr×List Int)) (pl:Option V),σ=[some (.int h),some (.ref l),pl]/\H2 l=some (.lst ((ws.map λp:Addr×List Int=>p.1).map V.ref))/\Ws H2 ws/\(ws.map λp:Addr×List Int=>p.2)=Du i/\Mg H H2)
  ⟨l,[(e,[])],none,rfl,b1,b2,rfl,s1⟩ ?_ ?_⟩
 ·(intro i σ H2 hi q_; obtain ⟨l,ws,pl,rfl,e1,hw,ew,sm⟩ := q_)
  have i10:i<=10:=by omega
  have lw:ws.length=(Du i).length:=by rw[<- ew,Ac]
  have lz:=Qn i10
  have hz:((ws.map λp:Addr×List Int=>p.1).map V.ref).length=(Du i).length:=by rw[Ac,Ac,lw]
  refine ⟨_,rfl,_,rfl,l,rfl,⟨_,Kb.of e1⟩,qY (Xv (xs:=(ws.map λp:Addr×List Int=>p.1).map V.ref)) (by rw[hz]; exact Cc lz (by decide))
   (λD j acc H3=>∃vs:List (Addr×List Int),acc=((vs.map λp:Addr×List Int=>p.1).map V.ref)/\Ws H3 vs/\(vs.map λp:Addr×List Int=>p.2)=((Du i).take j).map (·++[(i:Int)])/\Mg H2 H3)
   (λD nD=>⟨[],rfl,λp hp=>(nomatch hp),by simp,Dn nD _⟩) (λD j acc H3 ⟨_,_,_,_,s3⟩=>Kb.of (s3 _ _ e1)) ?_ ?_⟩
  ·(intro D j x acc H3 nD hx ha q_; obtain ⟨vs,rfl,wv,ev,s3⟩ := q_)
   refine uC ?_
   rw[Bx,Az] at hx
   cases hj:ws[j]? with
   | none=>rw[hj] at hx; cases hx
   | some pr =>
    obtain ⟨a,wd⟩:=pr
    rw[hj] at hx
    have ex:V.ref a=x:=Bl hx
    subst ex
    have ha2:H3 a=some (.tup (wd.map V.int)):=s3 _ _ (hw (a,wd) (Au hj))
    have ewd:(Du i)[j]? = some wd:=by
     rw[<- ew,Az,hj]
     rfl
    have lwd:wd.length<=10:=Cc (Me i wd (Au ewd)) i10
    -- the new word stands at r
    have fin:∀(r:Addr) (H4:Hp),Mg H3 H4->H4 r=some (.tup ((wd++[(i:Int)]).map V.int))->H4 D=some (.lst ((vs.map λp:Addr×List Int=>p.1).map V.ref)) /\
      ∃vs':List (Addr×List Int),(vs.map λp:Addr×List Int=>p.1).map V.ref++[V.ref r]=(vs'.map λp:Addr×List Int=>p.1).map V.ref/\Ws (upd H4 D (.lst ((vs.map λp:Addr×List Int=>p.1).map V.ref++[V.ref r]))) vs' /\
       (vs'.map λp:Addr×List Int=>p.2)=((Du i).take (j+1)).map (·++[(i:Int)])/\Mg H2 (upd H4 D (.lst ((vs.map λp:Addr×List Int=>p.1).map V.ref++[V.ref r]))):=λr H4 s4 hr4=>by
     have hD4:=s4 _ _ ha
     refine ⟨hD4,vs++[(r,wd++[(i:Int)])],by simp,λp hp=>?_,?_,λb o z=>?_⟩
     ·have hp4:H4 p.1=some (.tup (p.2.map V.int)):=by
       rcases Bg.mp hp with hp | hp
       ·exact s4 _ _ (wv p hp)
       ·have : p=(r,wd++[(i:Int)]):=by simpa using hp
        rw[this]
        exact hr4
      rw[Cj (qT hp4 hD4 (by intro z; cases z))]
      exact hp4
     ·rw[Bh,ev,Nj ewd,Bh]
      rfl
     ·rw[Cj (Dc z nD)]
      exact s4 _ _ (s3 _ _ z)
    refine ⟨_,rfl,_,rfl,(by show 1<=Av; decide),λp1 np1=>?_⟩
    have s4:=Dn np1 (.tup [V.int (0+(i:Int))])
    refine ⟨a,p1,_,_,rfl,rfl,Vh.of (s4 _ _ ha2),Vh.of Cm,(λz=>nomatch z),?_,λz=>?_,λz p2 np2=>?_⟩
    ·rw[Ac]
     show wd.length+1<=Av
     exact uQ (by omega)
    ·have e0:wd=[]:=by simpa using z
     subst e0
     exact fin p1 _ s4 (by rw[Cm,Zm]; rfl)
    ·refine fin p2 _ (s4.trans (Dn np2 _)) ?_
     rw[Cm,Bh,Zm]
     rfl
  ·(intro D acc H3 nD ha q_; obtain ⟨vs,rfl,wv,ev,s3⟩ := q_)
   rw[hz,Ij] at ev
   have lv:vs.length=(Du i).length:=by
    have:=congrArg Fm ev
    rw[Ac,Ac] at this
    exact this
   refine ⟨l,D,_,_,rfl,rfl,s3 _ _ e1,ha,?_,λp np=>?_⟩
   ·rw[Ac,Ac,Ac,Ac,lw,lv]
    exact Cc (by omega:_<=2048) (by decide)
   ·have s4:=Dn np (.lst ((ws.map λp:Addr×List Int=>p.1).map V.ref++(vs.map λp:Addr×List Int=>p.1).map V.ref))
    refine ⟨p,ws++vs,_,rfl,?_,λx hx=>?_,?_,(sm.trans s3).trans s4⟩
    ·rw[Cm,Bh,Bh]
    ·rcases Bg.mp hx with hx | hx
     ·exact s4 _ _ (s3 _ _ (hw x hx))
     ·exact s4 _ _ (wv x hx)
    ·rw[Bh,ew,ev]
     rfl
 ·(intro σ H2 q_; obtain ⟨l,ws,pl,rfl,e1,hw,ew,sm⟩ := q_)
  have ec:=hw.c
  refine ⟨_,rfl,l,ws.map (λp:Addr×List Int=>p.1),yL H2,rfl,Kb.of e1,λr hr'=>?_,λr Fz er=>?_,λp rs' np pr so=>?_⟩
  ·obtain ⟨x,hx,e⟩:=Bs.mp hr'
   subst e
   rw[Ut (hw x hx)]
   exact Vh.of (hw x hx)
  ·obtain ⟨tl,et⟩:=Rx h.toNat
   rw[<- ew] at et
   cases ws with
   | nil=>cases er
   | cons x ws' =>
    have e1:x.1=r:=by
     have:=congrArg List.head? er
     simpa using this
    have e2:x.2=[]:=by
     have:=congrArg List.head? et
     simpa using this
    rw[<- e1,Ut (hw x Aa),e2]
  ·have s3:=Dn np (.lst (rs'.map V.ref))
   refine q p rs' (rs'.map (yL H2)) _ (sm.free np) Cm (λi r wd h1 h2=>?_) (by rw[Ac]) ?_ ?_ (sm.trans s3)
   ·rw[Az,h1] at h2
    have e2:yL H2 r=wd:=Bl h2
    obtain ⟨x,hx,e⟩:=Bs.mp (pr.mem_iff.mp (Au h1))
    have hx':=hw x hx
    have e':x.1=r:=e
    rw[<- e2,<- e',Ut hx']
    exact s3 _ _ hx'
   ·have:=pr.map (yL H2)
    rw[ec,ew] at this
    exact this
   ·exact Yw.mpr so
theorem cJ(F:Fun K "_law_words" "_law_words" La f fd)(mR:mg "range" = none)(mS:mg "sorted" = none):FnOk P w K mg base Ib 1 f fd ["_law_holes_here"] (Vg K Vp):=kM (bC F mR mS)
end
def mY(w u:List Int):Bool:=w.all λi=>decide (i∈u)
def Wc(face:List Int)(w:List Int)(v:Int)(p:List Int×Nat):Bool:=decide (face[p.2]? = some v) && mY w p.1
def Jq(ws:List (List Int))(face:List Int)(w:List Int)(v:Int):List (List Int×Nat):=ws.zipIdx.filter (Wc face w v)
def eD:PF:=λds R=>∃a b:List Int,ds=[Bv a,Bv b]/\R (.bool (mY a b))
def yV:PF:=λds R=>∃(ws:List (List Int)) (face w:List Int) (v:Int),ds=[.list (ws.map Bv),.list (face.map An),Bv w,.int v]/\ws.length=face.length/\R (.list ((Jq ws face w v).map λp=>.int p.2))
def xI:PF:=λds R=>∃w:List Int,ds=[Bv w]/\∀v:Int,R (.int v)
def pU:DF:=λds n R=>ds=[]/\n<=90000/\∀h:Int,1<=h->h<=7->R (.int h) (n+1)
def jZ:DF:=λds n R=>ds=[]/\n<=90000/\∀h:Int,2<=h->h<=16->R (.int h) (n+1)
def qE:Sp:=λvs H Q _=>∃(d:Addr) (c k:Int) (f:Bool),vs=[.ref d]/\aX H d c k f/\0<=k/\k<=1000000/\∀(r c':Int) (H':Hp),0<=r/\r<4294967296->aX H' d c' (k+1) f->Ue d H H'->Q (.int r) H'
def eU:DF:=λds n R=>ds=[]/\n<=100000/\∀r:Int,0<=r/\r<4294967296->R (.int r) (n+1)
theorem xY(F:FnOk P w K mg base Ib k f fd ps qE):FnOk P w K mg base Ib k f fd ps (jD K eU):=by
 refine F.imp λus H Q E h=>?_
 obtain ⟨dr,ws,As,n,ds,R,rfl,eu,ok,nd,⟨c,kk,fl,hdr,h0,h1⟩,q,hp,k1⟩:=h
 obtain ⟨rfl,hn,hR⟩:=hp
 have hAs:As=[]:=by
  have:=Jp q
  rw[Ac] at this
  exact Re.mp this
 subst hAs
 have hws:ws=[]:=by
  cases ws with
  | nil=>rfl
  | cons _ _=>cases eu
 subst hws
 refine ⟨dr,c,kk,fl,rfl,hdr,h0,by omega,λr c' H' hr hd' s=>?_⟩
 exact k1 (.int r) (.int r) [] (n+1) H' (by omega) (hR r hr) (.int r) Co (λ_ z=>(nomatch z)) ⟨c',kk+1,fl,hd',by omega,by omega⟩ s
section
variable{P:Bo}{w:World}{K:PySem.W.Frag}{mg:Str->Option Value}{base:Heap}
theorem tT(F:Fun K "_law_next" "_law_next" dZ f fd):FnOk P w K mg base Ib 1 f fd ["_law_draws_here"] qE:=by
 refine F.ok FY (λvs H Q E h=>?_) (λcdv A outer s H vs Q E hr h=>?_)
 ·obtain ⟨d,c,k,fl,rfl,_⟩:=h
  rfl
 obtain ⟨d,c,k,fl,rfl,hd,h0,h1,q⟩:=h
 refine ⟨_,Ex (gB (En Qq (Ow Kg (pv 0) Dd (λ_ _=>rfl)) Dd) (fB (pv 0) Dd Vx))
  (Ex (pF (oS (Ow Kg (pv 0) Dd (λ_ _=>rfl)))
   (Ex (Kt (i:=2) FY.nd rfl (Dr rfl) (En Nu (Ow Kg (pv 0) Dd (λ_ _=>rfl)) (En Uz Dd Dd)))
    (Ex (gB (En Wf (Ow Kg (pv 0) Dd (λ_ _=>rfl)) (En Uz Dd Dd)) (fB (pv 0) Dd Vx))
    (Kv (Qe (pv 2))))) Zc)
  (Ex (Kt (i:=1) FY.nd rfl (Dr rfl) (Ow Kg (pv 0) Dd (λ_ _=>rfl)))
  (Ex (Kt (i:=2) FY.nd rfl (Dr rfl) (En Nu (En Np (En Qq (En Qq (Ow Kg (pv 0) Dd (λ_ _=>rfl)) (En Np (En Np (pv 1) (pv 1)) Dd)) (pv 1)) Dd) Dd))
  (Ex (Kt (i:=2) FY.nd rfl (Dr rfl) (En Nu (En Np (pv 2) (pv 2)) Dd))
  (Kv (Qe (En Wf (En Nu (En Np (pv 2) (En Qq (pv 2) Dd)) Dd) Dd))))))),?_⟩
 -- draws[1]=draws[1]+1
 refine ⟨_,rfl,d,_,1,_,rfl,rfl,Kb.of hd,rfl,_,_,rfl,rfl,_,rfl,d,_,1,1,rfl,rfl,hd,rfl,?_⟩
 have e1:(upd H d (.lst ([V.int c,V.int k,V.bl fl].set 1 (V.int (k+1))))) d=some (.lst [.int c,.int (k+1),.bl fl]):=Cm
 generalize hH1:upd H d (.lst ([V.int c,V.int k,V.bl fl].set 1 (V.int (k+1))))=H1 at e1
 have s1:Ue d H H1:=by rw[<- hH1]; exact Ue.upd
 refine ⟨_,rfl,d,_,2,_,rfl,rfl,Kb.of e1,rfl,_,rfl,?_⟩
 refine U8 (λ_=>?_) (λ_=>?_)
 ·refine ⟨_,rfl,d,_,0,_,rfl,rfl,Kb.of e1,rfl,10,6,rfl,rfl,⟨by decide,by decide,by decide⟩,_,_,rfl,rfl,(by show (0:Int)<10 ^ (6:Int).toNat; decide),?_⟩
  refine ⟨_,rfl,d,_,0,_,rfl,rfl,Kb.of e1,rfl,10,6,rfl,rfl,⟨by decide,by decide,by decide⟩,_,_,rfl,rfl,⟨by decide,by decide⟩,_,rfl,d,_,0,0,rfl,rfl,e1,rfl,_,rfl,?_⟩
  exact q _ _ _ ⟨Oh _ (by decide),Int.lt_trans (Pq _ (by decide)) (by decide)⟩ Cm (s1.trans Ue.upd)
 ·refine ⟨_,rfl,d,_,1,_,rfl,rfl,Kb.of e1,rfl,?_⟩
  have b1:=Vy ((c+(k+1) * (k+1) * 7919+(k+1)) * 48271) 2147483629 (by decide)
  refine ⟨_,rfl,d,_,0,_,rfl,rfl,Kb.of e1,rfl,_,rfl,_,rfl,_,_,rfl,rfl,.inl ⟨by omega,by omega⟩,_,_,rfl,rfl,.inr ⟨by decide,by decide⟩,_,_,rfl,rfl,_,rfl,_,_,rfl,rfl,
   _,_,rfl,rfl,.inr ⟨by decide,by decide⟩,_,_,rfl,rfl,(by show (0:Int)<2147483629; decide),?_⟩
  generalize ((c+(k+1) * (k+1) * 7919+(k+1)) * 48271) % 2147483629=x at b1
  have b2:=Vy (x * x) 2147483587 (by decide)
  refine ⟨_,rfl,_,rfl,_,_,rfl,rfl,.inl ⟨by omega,by omega⟩,_,_,rfl,rfl,(by show (0:Int)<2147483587; decide),?_⟩
  generalize (x * x) % 2147483587=y at b2
  refine ⟨_,rfl,_,rfl,_,_,rfl,rfl,_,_,rfl,rfl,.inl ⟨by omega,by omega⟩,_,_,rfl,rfl,(by show (0:Int)<2147483579; decide),_,_,rfl,rfl,⟨by decide,by decide⟩,?_⟩
  exact q _ _ _ ⟨Int.ediv_nonneg (Oh _ (by decide)) (by decide),Int.lt_of_le_of_lt (Int.ediv_le_self _ (Oh _ (by decide))) (Int.lt_trans (Pq _ (by decide)) (by decide))⟩ e1 s1
theorem zI(F:Fun K "_law_next" "_law_next" dZ f fd):FnOk P w K mg base Ib 1 f fd ["_law_draws_here"] (jD K eU):=xY (tT F)
end
def Zo:DF:=λds n R=>∃(ws:List (List Int)) (v:Int),ds=[.list (ws.map Bv),.int v]/\0<v/\v<=16/\ws.length<=1024/\(∀w∈ws,w.length<=10)/\n<=90000/\∀face:List Int,face.length=ws.length->(∀x∈face,0<=x/\x<100000000000000000000)->R (.list (face.map An)) (n+1+ws.length)
section
variable{P:Bo}{w:World}{K:PySem.W.Frag}{mg:Str->Option Value}{base:Heap}
theorem tJ:FnScope ["one", "other"] ["one", "other"] (Bu Wl):=⟨rfl,rfl,rfl,by decide +kernel,rfl,by decide +kernel,by decide +kernel⟩
theorem tH(F:Fun K "within" "within" Wl f fd)(mz_all:mg "all" = none):FnOk P w K mg base Ib 1 f fd ["one", "other"] (Vg K (eD)):=by
 refine' Oy (k:=0) F tJ (λcdv A outer s H E hr=>?hb) ?h
 case hb =>
  have hu64:=hr.units
  have CS1:∀{scope:Scope} (h:scope={ kind:=.function,names:=[(".0",.local),("place",.local),("other",.free)],isGenerator:=false,isCoroutine:=false }),
    CompScope (Mh Ib P w K mg base ["one", "other"] "within" (Bu Wl) f cdv A outer s H E).nox scope [("other",s.heap.objs.size+1)] "place" ["other"] [1]:=by
   rintro scope rfl
   refine ⟨by rfl,.inl (by decide +kernel),by rfl,by decide +kernel,.inl rfl,λy c h=>?_,by rfl,by decide +kernel,rfl,λk y j e1 e2=>?_⟩
   ·have z:=El h
    simp only[Aj,Ax,or_false,Fc] at z
    obtain ⟨rfl,rfl⟩:=z; rfl
   ·match k,e1,e2 with
    | 0,e1,e2=>cases e1; cases e2; exact ⟨rfl,rfl,by first | exact .inl rfl | exact .inr rfl⟩
    | k+1,e1,e2=>cases e1
  exact Es (Gu (Ej (yG rfl) T2 rfl mz_all (by decide +kernel) (Ay (Ov (CS1 rfl) rfl (FU (Aw (pv 0))) (λ_ _ _=>Nv) (λ_ _ _=>K4 hu64 (Aw (pv 0)) (Aw (pv 1)))) Bn)))
 case h =>
  (intro ds R q_; obtain ⟨a,b,rfl,hR⟩ := q_)
  refine ⟨rfl,?_⟩
  array_get_dec
  refine dI (l:=a) (g:=An) rfl (λi=>.bool (decide (i∈b))) (λi _ yes no hy=>?_) ?_
  ·array_get_dec
   exact hy
  ·array_get_dec
   refine ⟨a.map λi=>decide (i∈b),by rw[Bx]; rfl,?_⟩
   rw[Yx]
   exact hR
theorem oJ:FnScope ["words", "reading", "word", "value"] ["words", "reading", "word", "value"] (Bu Sw):=⟨rfl,rfl,rfl,by decide +kernel,rfl,by decide +kernel,by decide +kernel⟩
theorem mJ(F:Fun K "showing" "showing" Sw f fd)(G_within:FnOk P w K mg base Ib 1 f_within d_within ["one", "other"] (Vg K (eD)))(b_within:Binds K d_within ["one", "other"] [])(k_within:PySem.W.keepIn K (.ref f_within)=true)(m_within:mg "within" = some (.ref f_within))(mz_enumerate:mg "enumerate" = none):FnOk P w K mg base Ib 2 f fd ["words", "reading", "word", "value"] (Vg K (yV)):=by
 refine' Oy (k:=1) F oJ (λcdv A outer s H E hr=>?hb) ?h
 case hb =>
  have hr1:Room 1 _:=hr.mono (by decide)
  have hu64:=hr.units
  have CS1:∀{scope:Scope} (h:scope={ kind:=.function,names:=[(".0",.local),("at",.local),("other",.local),("within",.globalImplicit),("reading",.free),("value",.free),("word",.free)],isGenerator:=false,isCoroutine:=false }),
    CompScope (Mh Ib P w K mg base ["words", "reading", "word", "value"] "showing" (Bu Sw) f cdv A outer s H E).nox scope [("word",s.heap.objs.size+2),("value",s.heap.objs.size+3),("reading",s.heap.objs.size+1)] "at" ["reading", "value", "word"] [1,3,2]:=by
   rintro scope rfl
   refine ⟨by rfl,.inl (by decide +kernel),by rfl,by decide +kernel,.inl rfl,λy c h=>?_,by rfl,by decide +kernel,rfl,λk y j e1 e2=>?_⟩
   ·have z:=El h
    simp only[Aj,Ax,or_false,Fc] at z
    rcases z with ⟨rfl,rfl⟩ | ⟨rfl,rfl⟩ | ⟨rfl,rfl⟩ <;> rfl
   ·match k,e1,e2 with
    | 0,e1,e2=>cases e1; cases e2; exact ⟨rfl,rfl,by first | exact .inl rfl | exact .inr rfl⟩
    | 1,e1,e2=>cases e1; cases e2; exact ⟨rfl,rfl,by first | exact .inl rfl | exact .inr rfl⟩
    | 2,e1,e2=>cases e1; cases e2; exact ⟨rfl,rfl,by first | exact .inl rfl | exact .inr rfl⟩
    | k+3,e1,e2=>cases e1
  exact Es (Gu (jO (CS1 rfl) (.inl rfl) (by decide +kernel) rfl (eX rfl mz_enumerate (Ay (Aw (pv 0)) Bn)) (λ_ _ _=>Tf (sN (lO (dE hu64 (Fh (Aw (pv 2)) (Aw (pv 0))) (Aw (pv 3))) (fS (Qf (Jo G_within hr1 rfl m_within k_within b_within Ht (Ay (Aw (pv 4)) (Ay (Aw (pv 1)) Bn)))))))) (λ_ _ _=>Aw (pv 0))))
 case h =>
  (intro ds R q_; obtain ⟨ws,face,w,v,rfl,hl,hR⟩ := q_)
  refine ⟨rfl,?_⟩
  array_get_dec
  refine nE (l:=ws.zipIdx) (g1:=λp=>.int p.2) (g2:=λp=>Bv p.1) (by rw[zip_map,Bx]; rfl) (Wc face w v) (λp=>.int p.2) (λp hp yes no hy hn=>?_) ?_
  ·obtain ⟨k,hk⟩:=Fw.mp hp
   obtain ⟨ek,hp1,hp2,hp3⟩:=nZ hk
   obtain ⟨x,e1,e2,e3⟩:=Sk (l:=face) (i:=(p.2:Int)) (by omega) (by omega)
   rw[Et] at e1
   have hh:Wc face w v p=(decide (x=v) && mY w p.1):=by
    unfold Wc
    rw[e1]
    congr 1
    simp
   rw[hh] at hy hn
   array_get_dec
   refine ⟨.int x,by rw[Zh,e2]; rfl,dp,?_⟩
   array_get_dec
   refine mW (λh1=>?_) (λh1=>?_)
   ·array_get_dec
    refine ⟨w,p.1,rfl,?_⟩
    refine Td (λh2=>?_) (λh2=>?_)
    ·array_get_dec
     exact hy (by rw[h1,h2]; rfl)
    ·exact hn (by rw[h1,h2]; rfl)
   ·array_get_dec
    exact hn (by rw[h1]; rfl)
  ·array_get_dec
   exact hR
theorem fV:FnScope ["_law_one", "_law_other"] ["_law_one", "_law_other"] (Bu Os):=⟨rfl,rfl,rfl,by decide +kernel,rfl,by decide +kernel,by decide +kernel⟩
theorem fR(F:Fun K "_law_lies" "_law_lies" Os f fd):FnOk P w K mg base Ib 1 f fd ["_law_one", "_law_other"] (Vg K (eD)):=by
 refine' Oy (k:=0) F fV (λcdv A outer s H E hr=>?hb) ?h
 case hb =>
  have hu64:=hr.units
  have CS1:∀{scope:Scope} (h:scope={ kind:=.function,names:=[(".0",.local),("_law_place",.local),("_law_other",.free)],isGenerator:=false,isCoroutine:=false }),
    CompScope (Mh Ib P w K mg base ["_law_one", "_law_other"] "_law_lies" (Bu Os) f cdv A outer s H E).nox scope [("_law_other",s.heap.objs.size+1)] "_law_place" ["_law_other"] [1]:=by
   rintro scope rfl
   refine ⟨by rfl,.inl (by decide +kernel),by rfl,by decide +kernel,.inl rfl,λy c h=>?_,by rfl,by decide +kernel,rfl,λk y j e1 e2=>?_⟩
   ·have z:=El h
    simp only[Aj,Ax,or_false,Fc] at z
    obtain ⟨rfl,rfl⟩:=z; rfl
   ·match k,e1,e2 with
    | 0,e1,e2=>cases e1; cases e2; exact ⟨rfl,rfl,by first | exact .inl rfl | exact .inr rfl⟩
    | k+1,e1,e2=>cases e1
  exact Es (Gu (Vo hu64 (Ov (CS1 rfl) rfl (FU (Aw (pv 0))) (λ_ _ _=>Tf (bH hu64 (Aw (pv 0)) (Aw (pv 1)))) (λ_ _ _=>Aw (pv 0))) (Kx Bn)))
 case h =>
  (intro ds R q_; obtain ⟨a,b,rfl,hR⟩ := q_)
  refine ⟨rfl,?_⟩
  array_get_dec
  refine rB (l:=a) (g:=An) rfl (λi=>decide (i∉b)) (λi=>.int i) (λi _ yes no hy hn=>?_) ?_
  ·array_get_dec
   refine Td (λh=>?_) (λh=>?_)
   ·array_get_dec
    exact hy (by simpa using h)
   ·exact hn (by simpa using h)
  ·array_get_dec
   rw[show ((a.filter λi=>decide (i∉b)).map λi=>An i).isEmpty=mY a b from ?_]
   ·exact hR
   ·unfold mY
    rw[Tz,List.isEmpty_iff,List.map_eq_nil_iff,List.filter_eq_nil_iff,bQ]
    simp
theorem Zz:FnScope ["_law_word", "_law_value", "_law_place"] ["_law_word"] (Bu Pg):=⟨rfl,rfl,rfl,by decide +kernel,rfl,by decide +kernel,by decide +kernel⟩
theorem aJ(F:Fun K "_law_folded" "_law_folded" Pg f fd):FnOk P w K mg base Ib 1 f fd ["_law_word"] (Vg K (xI)):=by
 refine' Oy (k:=0) F Zz (λcdv A outer s H E hr=>?hb) ?h
 case hb =>
  have hu64:=hr.units
  exact Ck (Ga (i:=1) Zz.nd rfl (Dr rfl) Da)
   (Ck (Ur Fe rfl (FU (Aw (pv 0))) (Na (i:=2) Zz.nd rfl (Dr rfl))
   (Es (Ga (i:=1) Zz.nd rfl (Dr rfl) (W2 (Aw (pv 1)) (Ph (Aw (pv 2)) Da)))))
   (Es (Gu (uI (Aw (pv 1))))))
 case h =>
  (intro ds R q_; obtain ⟨w,rfl,hR⟩ := q_)
  refine ⟨rfl,?_⟩
  array_get_dec
  refine mM (l:=w) (g:=An) rfl (λi δ=>∃(x:Int) (v:DV),δ=⟨[.dat .sh (Bv w),.dat .sh (.int x),v],0⟩/\NP v) ?_ ?_ ?_
  ·exact ⟨_,_,rfl,Si⟩
  ·(intro i p _ hp q_; obtain ⟨x,v,rfl,hv⟩ := q_)
   array_get_dec
   exact ⟨_,_,rfl,Je⟩
  ·(intro _ q_; obtain ⟨x,v,rfl,hv⟩ := q_)
   array_get_dec
   exact hR _
theorem cD:FnScope ["_law_draws_here", "_law_pick"] ["_law_draws_here"] (Bu Qd):=⟨rfl,rfl,rfl,by decide +kernel,rfl,by decide +kernel,by decide +kernel⟩
theorem bV(F:Fun K "_law_holes" "_law_holes" Qd f fd)(G_L_next:FnOk P w K mg base Ib 1 f_L_next d_L_next ["_law_draws_here"] (jD K Zv))(b_L_next:Binds K d_L_next ["_law_draws_here"] [])(k_L_next:PySem.W.keepIn K (.ref f_L_next)=true)(m_L_next:mg "_law_next" = some (.ref f_L_next))(mz_max:mg "max" = none):FnOk P w K mg base Ib 2 f fd ["_law_draws_here"] (jD K (pU)):=by
 refine' fQ (k:=1) F cD (λcdv A outer s H E hr=>?hb) ?h
 case hb =>
  have hr1:Room 1 _:=hr.mono (by decide)
  have hu64:=hr.units
  exact Ck (Ga (i:=1) cD.nd rfl (Dr rfl) (Hj G_L_next hr1 rfl m_L_next k_L_next b_L_next Ht (pv 0) Bn))
   (Es (Gu (Fh (Kx (Ay (Ph Da (Gm (aI (Aw (pv 1)) Da) Da)) (Ay (Ph Da (Gm (aI (Aw (pv 1)) Da) Da)) (Ay Da (Ay Da Bn))))) (Ej (dY rfl) pH rfl mz_max (by decide +kernel) (Ay Da (Ay (yU (Gm (Aw (pv 1)) Da) Da) Bn))))))
 case h =>
  (intro ds n R q_; obtain ⟨rfl,hn,hR⟩ := q_)
  refine ⟨rfl,?_⟩
  array_get_dec
  refine ⟨rfl,by omega,λr1=>?_⟩
  array_get_dec
  have b8:=Jx r1 (b:=8) (by decide)
  have b5:=Jx (r1 / 8) (b:=5) (by decide)
  rcases (by omega:r1 % 8 - 4<=0\/r1 % 8 - 4=1\/r1 % 8 - 4=2\/r1 % 8 - 4=3) with z | z | z | z
  ·rw[if_neg (by omega)]
   exact ⟨_,atI_0 _ _,by omega,hR _ (by omega) (by omega)⟩
  ·rw[if_pos (by omega),z]
   exact ⟨_,atI_1 _ _ _,by omega,hR _ (by omega) (by omega)⟩
  ·rw[if_pos (by omega),z]
   exact ⟨_,atI_2 _ _ _ _,by omega,hR _ (by omega) (by omega)⟩
  ·rw[if_pos (by omega),z]
   exact ⟨_,BR _ _ _ _ _,by omega,hR _ (by omega) (by omega)⟩
theorem aM:FnScope ["_law_draws_here", "_law_pick"] ["_law_draws_here"] (Bu Pf):=⟨rfl,rfl,rfl,by decide +kernel,rfl,by decide +kernel,by decide +kernel⟩
theorem aB(F:Fun K "_law_values" "_law_values" Pf f fd)(G_L_next:FnOk P w K mg base Ib 1 f_L_next d_L_next ["_law_draws_here"] (jD K Zv))(b_L_next:Binds K d_L_next ["_law_draws_here"] [])(k_L_next:PySem.W.keepIn K (.ref f_L_next)=true)(m_L_next:mg "_law_next" = some (.ref f_L_next))(mz_int:mg "int" = none):FnOk P w K mg base Ib 2 f fd ["_law_draws_here"] (jD K (jZ)):=by
 refine' fQ (k:=1) F aM (λcdv A outer s H E hr=>?hb) ?h
 case hb =>
  have hr1:Room 1 _:=hr.mono (by decide)
  have hu64:=hr.units
  exact Ck (Ga (i:=1) aM.nd rfl (Dr rfl) (Hj G_L_next hr1 rfl m_L_next k_L_next b_L_next Ht (pv 0) Bn))
   (Es (Gu (Fh (Kx (Ay (Ph Da (Gm (aI (Aw (pv 1)) Da) Da)) (Ay Da Bn))) (Iq Px aR rfl mz_int (by decide +kernel) (Ay (Vo hu64 (Gm (Aw (pv 1)) Da) Da) Bn)))))
 case h =>
  (intro ds n R q_; obtain ⟨rfl,hn,hR⟩ := q_)
  refine ⟨rfl,?_⟩
  array_get_dec
  refine ⟨rfl,by omega,λr1=>?_⟩
  array_get_dec
  have b5:=Jx (r1 / 8) (b:=5) (by decide)
  refine ⟨_,N0 _ _ _,by omega,?_⟩
  cases decide (r1 % 8=1)
  ·exact hR _ (by omega) (by omega)
  ·exact hR _ (by decide) (by decide)
theorem Ys:FnScope ["_law_draws_here", "_law_words_here", "_law_values_here", "_law_way", "_law_found", "_law_word", "_law_number", "_law_told"] ["_law_draws_here", "_law_words_here", "_law_values_here"] (Bu Nn):=⟨rfl,rfl,rfl,by decide +kernel,rfl,by decide +kernel,by decide +kernel⟩
theorem Yr(F:Fun K "_law_reading" "_law_reading" Nn f fd)(G_L_next:FnOk P w K mg base Ib 1 f_L_next d_L_next ["_law_draws_here"] (jD K eU))(b_L_next:Binds K d_L_next ["_law_draws_here"] [])(k_L_next:PySem.W.keepIn K (.ref f_L_next)=true)(m_L_next:mg "_law_next" = some (.ref f_L_next))(G_L_folded:FnOk P w K mg base Ib 1 f_L_folded d_L_folded ["_law_word"] (Vg K (xI)))(b_L_folded:Binds K d_L_folded ["_law_word"] [])(k_L_folded:PySem.W.keepIn K (.ref f_L_folded)=true)(m_L_folded:mg "_law_folded" = some (.ref f_L_folded))(mz_len:mg "len" = none)(mz_sum:mg "sum" = none)(mz_int:mg "int" = none):FnOk P w K mg base Ib 2 f fd ["_law_draws_here", "_law_words_here", "_law_values_here"] (jD K (Zo)):=by
 refine' fQ (k:=1) F Ys (λcdv A outer s H E hr=>?hb) ?h
 case hb =>
  have hr1:Room 1 _:=hr.mono (by decide)
  have hu64:=hr.units
  exact Ck (Ga (i:=3) Ys.nd rfl (Dr rfl) (Gm (Hj G_L_next hr1 rfl m_L_next k_L_next b_L_next Ht (pv 0) Bn) Da))
   (Ck (Qk (i:=4) Ys.nd rfl (Dr rfl) (Kx Bn))
   (Ck (Ur Fe rfl (E5 (Aw (pv 1))) (Na (i:=5) Ys.nd rfl (Dr rfl))
   (Ck (Ga (i:=6) Ys.nd rfl (Dr rfl) (Hj G_L_next hr1 rfl m_L_next k_L_next b_L_next Ht (pv 0) Bn))
    (Ck (Ga (i:=7) Ys.nd rfl (Dr rfl) (Kx (Ay (Gm (Aw (pv 6)) (Aw (pv 2))) (Ay (Gm (Ej Hz Lu rfl mz_len (by decide +kernel) (Ay (Aw (pv 5)) Bn)) (Aw (pv 2))) (Ay (Gm (Jo G_L_folded hr1 rfl m_L_folded k_L_folded b_L_folded Ht (Ay (Aw (pv 5)) Bn)) (Aw (pv 2))) (Ay (Gm (Ej (rZ rfl) O7 rfl mz_sum (by decide +kernel) (Ay (Aw (pv 5)) Bn)) (Aw (pv 2))) Bn))))))
    (Ck (Ga (i:=7) Ys.nd rfl (Dr rfl) (lT (Aw (pv 7)) (Kx (Ay (Gm (Aw (pv 6)) (Ph (Aw (pv 2)) Da)) (Ay (nJ (aI (Gm (Aw (pv 6)) Da) Da) (Gm (Aw (pv 6)) (Aw (pv 2)))) (Ay (Gm (Aw (pv 6)) (Aw (pv 2))) Bn))))))
    (Es (dJ (pv 4) (Fh (lT (Aw (pv 7)) (Kx (Ay (Fh (Kx (Ay (Gm (Ej Hz Lu rfl mz_len (by decide +kernel) (Ay (Aw (pv 5)) Bn)) (Aw (pv 2))) (Ay (Ph (V6 Da Da) (Aw (pv 6))) Bn))) (Iq Px aR rfl mz_int (by decide +kernel) (Ay (Vo hu64 (Gm (Aw (pv 6)) Da) Da) Bn))) Bn))) (Aw (pv 3)))))))))
   (Es (Gu (fG (pv 4))))))
 case h =>
  (intro ds n R q_; obtain ⟨ws,v,rfl,v0,v1,lw,hw,hn,hR⟩ := q_)
  refine ⟨rfl,?_⟩
  array_get_dec
  refine ⟨rfl,by omega,λr1 p1=>?_⟩
  array_get_dec
  have b8:=Jx r1 (b:=8) (by decide)
  refine mM (l:=ws) (g:=Bv) rfl (λi δ=>∃(face:List Int) (v1 v2 v3:DV),δ=⟨[.drw,.dat .sh (.list (ws.map Bv)),.dat .sh (.int v),.dat .sh (.int (r1 % 8)),.dat .ow (.list (face.map An)),v1,v2,v3],n+1+i⟩/\face.length=i/\(∀x∈face,0<=x/\x<100000000000000000000)/\NP v1/\NP v2/\NP v3) ?_ ?_ ?_
  ·exact ⟨[],_,_,_,rfl,rfl,λ_ z=>(nomatch z),Si,Si,Si⟩
  ·(intro i u _ hu q_; obtain ⟨face,v1,v2,v3,rfl,lf,nf,hv1,hv2,hv3⟩ := q_)
   have hi:=(Ah.mp hu).1
   have lu:=hw u (Au hu)
   array_get_dec
   refine ⟨rfl,by omega,λr2 p2=>?_⟩
   array_get_dec
   refine ⟨v0,v0,u,rfl,λf=>?_⟩
   array_get_dec
   refine ⟨v0,u,rfl,v0,?_⟩
   array_get_dec
   have bv:=Jx r2 v0
   refine ⟨by omega,v0,.inr ⟨by omega,by omega⟩,v0,v0,by decide,?_⟩
   obtain ⟨x,x0,hx⟩ : ∃x:Int,(0<=x/\x<100000000000000000000)/\Uv [An (((u.map An).length:Int) % v),An (10000000000000000000+r2)] (if decide (r2 % 9=0)=true then 1 else 0)=some (.int x):=by
    rw[N0]
    cases decide (r2 % 9=0)
    ·exact ⟨_,⟨Oh _ (by omega),by have:=Pq ((u.map An).length:Int) v0; omega⟩,rfl⟩
    ·exact ⟨_,⟨by omega,by omega⟩,rfl⟩
   refine ⟨_,hx,HA,?_⟩
   obtain ⟨y,ey,e2,_⟩:=Sk (l:=[r2 % v,((u.map An).length:Int) % v,f % v,u.sum % v,r2 % (v+2),r2 % 7 / 5 * (r2 % v),r2 % v,x]) b8.1 (by simpa using b8.2)
   have e3:=Zh An [r2 % v,((u.map An).length:Int) % v,f % v,u.sum % v,r2 % (v+2),r2 % 7 / 5 * (r2 % v),r2 % v,x] (r1 % 8)
   rw[e2] at e3
   refine ⟨_,e3,im,by rw[Ac]; omega,?_⟩
   have y0:0<=y/\y<100000000000000000000:=by
    have hm:=Au ey
    have m1:=Jx r2 (b:=v) v0
    have m2:=Jx ((u.map An).length:Int) (b:=v) v0
    have m3:=Jx f (b:=v) v0
    have m4:=Jx u.sum (b:=v) v0
    have m5:=Jx r2 (b:=v+2) (by omega)
    have m6:0<=r2 % 7 / 5 * (r2 % v)/\r2 % 7 / 5 * (r2 % v)<100000000000000000000:=by
     have q:r2 % 7 / 5=0\/r2 % 7 / 5=1:=by omega
     rcases q with q | q
     ·rw[q]; omega
     ·rw[q]; omega
    simp only[Aj,Ax,or_false] at hm
    rcases hm with e | e | e | e | e | e | e | e
    ·rw[e]; omega
    ·rw[e]; omega
    ·rw[e]; omega
    ·rw[e]; omega
    ·rw[e]; omega
    ·rw[e]; exact m6
    ·rw[e]; omega
    ·rw[e]; exact x0
   exact ⟨face++[y],_,_,_,BE (by rw[Bh]; rfl) (by omega),by simp [lf],λz hz=>by rcases Bg.mp hz with hz | hz; exact nf z hz; rw[Ag.mp hz]; exact y0,Je,Je,Je⟩
  ·(intro _ q_; obtain ⟨face,v1,v2,v3,rfl,lf,nf,hv1,hv2,hv3⟩ := q_)
   array_get_dec
   exact ⟨by omega,hR face lf nf⟩
end
def Rw(l:List Int):Int:=l.foldr max 0
theorem Zj(hx:0<x):∀{l:List Int},x<=Rw l↔∃y∈l,x<=y
 | []=>⟨λh=>by simp [Rw] at h; omega,λ⟨_,h,_⟩=>nomatch h⟩
 | a::l=>by
  show x<=max a (Rw l)↔_
  have ih:=Zj hx (l:=l)
  constructor
  ·intro h
   rcases (by omega:x<=a\/x<=Rw l) with h | h
   ·exact ⟨a,Aa,h⟩
   ·obtain ⟨y,hy,e⟩:=ih.mp h
    exact ⟨y,Ae _ hy,e⟩
  ·(intro q_; obtain ⟨y,hy,e⟩ := q_)
   rcases Aj.mp hy with rfl | hy
   ·omega
   ·have:=ih.mpr ⟨y,hy,e⟩
    omega
theorem Zi:∀l:List Int,0<=Rw l
 | []=>by simp [Rw]
 | a::l=>by
  show 0<=max a (Rw l)
  have:=Zi l
  omega
def zR(ws:List (List Int))(face nums:List Int)(k:Nat)(v:Int)(r:Option Nat):Prop:=∃(w:List Int) (f:Int),ws[k]? = some w/\face[k]? = some f /\
 ((f=v/\r=some k)\/(f≠v/\r=none/\Jq ws face w v=[])\/(f≠v/\∃p∈Jq ws face w v,r=some p.2/\∀q∈Jq ws face w v,HT.lexLt (Yp nums (cZ ws) p.2) (Yp nums (cZ ws) q.2)=false))
def Q1:Option Nat->Ad
 | none=>.none
 | some k=>.int k
def L6:PF:=λds R=>∃(ws:List (List Int)) (face nums:List Int) (k:Nat) (v:Int),ds=[.list (ws.map Bv),.list (face.map An),.list (nums.map An),.int k,.int v]/\ws.length=face.length/\ws.length=nums.length/\k<ws.length /\
 ∀r,zR ws face nums k v r->R (Q1 r)
section
variable{P:Bo}{w:World}{K:PySem.W.Frag}{mg:Str->Option Value}{base:Heap}
theorem sY:FnScope ["words", "reading", "numbers", "at", "value", "found"] ["words", "reading", "numbers", "at", "value"] (Bu Zu):=⟨rfl,rfl,rfl,by decide +kernel,rfl,by decide +kernel,by decide +kernel⟩
theorem tF(F:Fun K "cut_by" "cut_by" Zu f fd)(G_showing:FnOk P w K mg base Ib 2 f_showing d_showing ["words", "reading", "word", "value"] (Vg K (yV)))(b_showing:Binds K d_showing ["words", "reading", "word", "value"] [])(k_showing:PySem.W.keepIn K (.ref f_showing)=true)(m_showing:mg "showing" = some (.ref f_showing))(mz_max:mg "max" = none)(mz_len:mg "len" = none)(tO:PySem.W.tabIn K "cut_by" = some (cO,pO))(cdO:fd.code=.ref cO):FnOk P w K mg base Ib 3 f fd ["words", "reading", "numbers", "at", "value"] (Vg K (L6)):=by
 refine' yY (k:=2) F sY (λcdv A outer s H E hcv hr=>?hb) ?h
 case hb =>
  have hr1:Room 1 _:=hr.mono (by decide)
  have hr2:Room 2 _:=hr.mono (by decide)
  have hu64:=hr.units
  exact Ck (Sd (dE hu64 (Fh (Aw (pv 1)) (Aw (pv 3))) (Aw (pv 4)))
   (Es (Gu (uI (Aw (pv 3))))) Nw)
   (Ck (Ga (i:=5) sY.nd rfl (Dr rfl) (Jo G_showing hr2 rfl m_showing k_showing b_showing Ht (Ay (Aw (pv 0)) (Ay (Aw (pv 1)) (Ay (Fh (Aw (pv 0)) (Aw (pv 3))) (Ay (Aw (pv 4)) Bn))))))
   (Es (Gu (W4 (yB (Aw (pv 5))) (E4 (x := "cut_by") (jn:=2) (jw:=0) (cw:=s.heap.objs.size+1) (cn:=s.heap.objs.size+2) rfl hr rfl mz_max mz_len ⟨.tail _ (.head _),⟨_,_,tO,hcv.symm.trans cdO⟩,rfl,rfl,rfl,λ_ _ _ _=>rfl,rfl,rfl,rfl,rfl,by decide⟩ rfl rfl rfl rfl rfl rfl rfl rfl rfl (Aw (pv 5))) uF))))
 case h =>
  (intro ds R q_; obtain ⟨ws,face,nums,k,v,rfl,l1,l2,hk,hR⟩ := q_)
  refine ⟨rfl,?_⟩
  obtain ⟨w,hw⟩ : ∃w,ws[k]? = some w:=⟨_,Ap hk⟩
  obtain ⟨f,hf⟩ : ∃f,face[k]? = some f:=⟨_,Ap (by omega)⟩
  have ef:Uv (face.map An) (k:Int)=some (.int f):=Sj (by rw[Az,hf]; rfl)
  have ew:Uv (ws.map Bv) (k:Int)=some (Bv w):=Sj (by rw[Az,hw]; rfl)
  array_get_dec
  refine ⟨_,ef,dp,?_⟩
  array_get_dec
  refine K5 (λq=>?_) (λq=>?_)
  ·array_get_dec
   exact hR (some k) ⟨w,f,hw,hf,.inl ⟨by simpa using q,rfl⟩⟩
  have q:f≠v:=by simpa using q
  array_get_dec
  refine ⟨_,ew,ws,face,w,v,rfl,l1,?_⟩
  array_get_dec
  refine DW (λhb=>?_) (λhb=>?_)
  ·array_get_dec
   rw[show (Jq ws face w v).map (λp=>An p.2)=((Jq ws face w v).map (·.2)).map (λk:Nat=>An k) by rw[Bx]; rfl]
   show ∃(ns:List Nat) (nums':List Int) (ws':List (List Int)),_
   refine ⟨(Jq ws face w v).map (·.2),nums,ws,rfl,rfl,rfl,λz=>?_,λj hj=>?_,λM hM hmax=>?_⟩
   ·rw[Of.mp z] at hb
    cases hb
   ·obtain ⟨p,hp,rfl⟩:=Bs.mp hj
    have:=Nz.mp (Di.mp hp).1
    have:=(Ah.mp this).1
    omega
   ·obtain ⟨p,hp,rfl⟩:=Bs.mp hM
    exact ⟨_,rfl,hR (some p.2) ⟨w,f,hw,hf,.inr (.inr ⟨q,p,hp,rfl,λr hr=>hmax r.2 (Ig hr)⟩)⟩⟩
  ·array_get_dec
   refine hR none ⟨w,f,hw,hf,.inr (.inl ⟨q,rfl,?_⟩)⟩
   cases e:Jq ws face w v with
   | nil=>rfl
   | cons a l=>rw[e] at hb; cases hb
end
inductive WrR (ws:List (List Int)) (face nums:List Int):Nat->List Int->List Nat->Bool->Prop
 | done (k:Nat):WrR ws face nums k [] [] true
 | stuck {k:Nat} {v:Int} {row:List Int}:zR ws face nums k v none->WrR ws face nums k (v::row) [] false
 | step {k:Nat} {v:Int} {row:List Int} {M:Nat} {ms:List Nat} {b:Bool}:zR ws face nums k v (some M)->WrR ws face nums M row ms b->WrR ws face nums k (v::row) (M::ms) b
def W5(b:Bool):Str:=if b then "written" else "stuck"
def EA(L:List (List Int))(b:Bool)(ms:List Nat):Ad:=.tuple [.str (W5 b),.list ((ms.map λm=>L.getD m []).map Bv)]
def eG:PF:=λds R=>∃(h:Int) (L:List (List Int)) (face nums w:List Int) (k:Nat) (row:List Int),ds=[.int h,.list (face.map An),.list (nums.map An),Bv w,.list (row.map An)]/\0<=h/\h<=10/\L.Perm (Du h.toNat)/\Ord L /\
 L.length=face.length/\L.length=nums.length/\L[k]? = some w/\row.length<=1000/\∀ms b,WrR L face nums k row ms b->R (EA L b ms)
theorem lV(h:zR ws face nums k v (some M)):M<ws.length:=by
 obtain ⟨w,f,hw,hf,⟨_,e⟩ | ⟨_,e,_⟩ | ⟨_,p,hp,e,_⟩⟩:=h
 ·cases e
  exact (Ah.mp hw).1
 ·cases e
 ·cases e
  exact (Ah.mp (Nz.mp (Di.mp hp).1)).1
theorem Uw{L:List (List Int)}(nd:L.Nodup)(h:L[k]? = some w):(L.map Bv).findIdx? (λe=>Do e (Bv w))=some k:=by
 obtain ⟨hk,e⟩:=Ah.mp h
 refine List.findIdx?_eq_some_iff_getElem.mpr ⟨by rw[Ac]; exact hk,?_,λj hj=>?_⟩
 ·rw[List.getElem_map,e,eqD_word]
  simp
 ·rw[List.getElem_map,eqD_word]
  have:=Dx.mp nd j k (by omega) hk hj
  rw[e] at this
  simpa using this
section
variable{P:Bo}{w:World}{K:PySem.W.Frag}{mg:Str->Option Value}{base:Heap}
theorem oP:FnScope ["holes", "reading", "numbers", "word", "row", "words", "at", "told", "value"] ["holes", "reading", "numbers", "word", "row"] (Bu Xb):=⟨rfl,rfl,rfl,by decide +kernel,rfl,by decide +kernel,by decide +kernel⟩
theorem mB(F:Fun K "written" "written" Xb f fd)(G_all_words:FnOk P w K mg base Ib 1 f_all_words d_all_words ["holes"] (Vg K Vp))(b_all_words:Binds K d_all_words ["holes"] [])(k_all_words:PySem.W.keepIn K (.ref f_all_words)=true)(m_all_words:mg "all_words" = some (.ref f_all_words))(G_cut_by:FnOk P w K mg base Ib 3 f_cut_by d_cut_by ["words", "reading", "numbers", "at", "value"] (Vg K (L6)))(b_cut_by:Binds K d_cut_by ["words", "reading", "numbers", "at", "value"] [])(k_cut_by:PySem.W.keepIn K (.ref f_cut_by)=true)(m_cut_by:mg "cut_by" = some (.ref f_cut_by)):FnOk P w K mg base Ib 4 f fd ["holes", "reading", "numbers", "word", "row"] (Vg K (eG)):=by
 refine' Oy (k:=3) F oP (λcdv A outer s H E hr=>?hb) ?h
 case hb =>
  have hr1:Room 1 _:=hr.mono (by decide)
  have hr2:Room 2 _:=hr.mono (by decide)
  have hr3:Room 3 _:=hr.mono (by decide)
  have hu64:=hr.units
  exact Ck (Ga (i:=5) oP.nd rfl (Dr rfl) (Jo G_all_words hr1 rfl m_all_words k_all_words b_all_words Ht (Ay (Aw (pv 0)) Bn)))
   (Ck (Ga (i:=6) oP.nd rfl (Dr rfl) (bF hu64 (Aw (pv 5)) (Aw (pv 3))))
   (Ck (Qk (i:=7) oP.nd rfl (Dr rfl) (Kx Bn))
   (Ck (Ur Fe rfl (E5 (Aw (pv 4))) (Na (i:=8) oP.nd rfl (Dr rfl))
   (Ck (Ga (i:=6) oP.nd rfl (Dr rfl) (Jo G_cut_by hr3 rfl m_cut_by k_cut_by b_cut_by Ht (Ay (Aw (pv 5)) (Ay (Aw (pv 1)) (Ay (Aw (pv 2)) (Ay (Aw (pv 6)) (Ay (Aw (pv 8)) Bn)))))))
    (Ck (Sd (U2 (Aw (pv 6)) uF)
    (Es (Gu (vW (Ay aN (Ay (fG (pv 7)) Bn))))) Nw)
    (Es (dJ (pv 7) (Fh (Aw (pv 5)) (Aw (pv 6))))))))
   (Es (Gu (vW (Ay aN (Ay (fG (pv 7)) Bn))))))))
 case h =>
  (intro ds R q_; obtain ⟨h,L,face,nums,w,k,row,rfl,h0,h1,hp,ho,l1,l2,hw,lr,hR⟩ := q_)
  refine ⟨rfl,?_⟩
  array_get_dec
  refine ⟨h,rfl,h0,h1,λL' hp' ho'=>?_⟩
  obtain rfl:=jJ (hp.trans hp'.symm) ho ho'
  obtain ⟨m1,m2⟩:=Te (n:=h.toNat) (by omega) hp
  have nd:=Sf hp
  have hk:=(Ah.mp hw).1
  array_get_dec
  refine ⟨k,Uw nd hw,?_⟩
  refine mM (l:=row) (g:=An) rfl (λi δ=>∃(c:Nat) (ms:List Nat) (v8:DV),δ=⟨[.dat .sh (.int h),.dat .sh (.list (face.map An)),.dat .sh (.list (nums.map An)),.dat .sh (Bv w),.dat .sh (.list (row.map An)),.dat .sh (.list (L.map Bv)),.dat .sh (.int c),.dat .ow (.list ((ms.map λm=>L.getD m []).map Bv)),v8],0⟩/\c<L.length/\ms.length=i/\NP v8/\∀ms' b,WrR L face nums c (row.drop i) ms' b->WrR L face nums k row (ms++ms') b) ?_ ?_ ?_
  ·exact ⟨k,[],_,rfl,hk,rfl,Si,λms' b h=>h⟩
  ·(intro i v _ hv q_; obtain ⟨c,ms,v8,rfl,hc,lm,hv8,hW⟩ := q_)
   have hi:=(Ah.mp hv).1
   have dr:row.drop i=v::row.drop (i+1):=by
    rw[Hs hi,(Ah.mp hv).2]
   array_get_dec
   refine ⟨L,face,nums,c,v,rfl,l1,l2,hc,λr hr=>?_⟩
   cases r with
   | none =>
    dsimp only [Q1]
    array_get_dec
    simp only[isNone]
    array_get_dec
    exact hR ms false (by have:=hW [] false (by rw[dr]; exact .stuck hr); rwa [Dj] at this)
   | some M =>
    dsimp only [Q1]
    have hM:=lV hr
    obtain ⟨u,hu⟩ : ∃u,L[M]? = some u:=⟨_,Ap hM⟩
    array_get_dec
    simp only[isNone]
    array_get_dec
    have gu:L.getD M []=u:=by rw[Cs,hu]; rfl
    refine ⟨Bv u,Sj (by rw[Az,hu]; rfl),im,by rw[Ac,Ac]; omega,M,ms++[M],.dat .sh (.int v),?_,hM,by rw[Bw,lm]; rfl,Je,λms' b hh=>?_⟩
    ·rw[Bh,Bh,Ar,gu]
     rfl
    ·have:=hW (M::ms') b (by rw[dr]; exact .step hr hh)
     rw[Ce]
     exact this
  ·(intro _ q_; obtain ⟨c,ms,v8,rfl,hc,lm,hv8,hW⟩ := q_)
   rw[List.drop_length] at hW
   array_get_dec
   exact hR ms true (by have:=hW [] true (.done c); rwa [Dj] at this)
end
def Js(P:List (List Int))(f g:List Int->Int)(w:List Int)(v:Int):Int:=Rw ((P.filter λu=>decide (f u=v) && mY w u).map λu=>g u+1)
def gS(L:List (List Int))(f:List Int->Int)(vs:Int)(g:List Int->Int)(P:List (List Int)):Prop:=∀w∈P,∀x:Int,x<=g w↔∀v:Int,0<=v->v<vs->v≠f w->x<=Js L f g w v
def wM(L:List (List Int))(f:List Int->Int)(vs:Int)(g:List Int->Int):Prop:=gS L f vs g L
def pW:PF:=λds R=>∃(h:Int) (L:List (List Int)) (f:List Int->Int) (vs:Int),ds=[.list (L.map Bv),.list ((L.map f).map An),.int vs]/\0<=h/\h<=10/\L.Perm (Du h.toNat)/\2<=vs/\vs<=16/\∀g:List Int->Int,wM L f vs g->R (.list ((L.map g).map An))
theorem zC(h:∀x,x∈l↔x∈m):Rw l=Rw m:=by
 have key:∀{l m:List Int},(∀x∈l,x∈m)->Rw l<=Rw m:=λ{l m} h=>by
  by_cases z:0<Rw l
  ·obtain ⟨y,hy,e⟩:=(Zj z (l:=l)).mp (Int.le_refl _)
   exact (Zj z).mpr ⟨y,h y hy,e⟩
  ·have:=Zi m
   omega
 exact Int.le_antisymm (key λx hx=>(h x).mp hx) (key λx hx=>(h x).mpr hx)
theorem cS(x:Int):∀l:List Int,Rw (l++[x])=max (Rw l) x
 | []=>by show max x 0=max 0 x; omega
 | a::l=>by
  show max a (Rw (l++[x]))=max (max a (Rw l)) x
  rw[cS x l]
  omega
theorem Zs(P:List (List Int))(f g:List Int->Int)(w u:List Int)(v:Int):Js (P++[u]) f g w v=if f u=v/\mY w u=true then max (Js P f g w v) (g u+1) else Js P f g w v:=by
 unfold Js
 rw[Ld,Bh]
 by_cases q:f u=v/\mY w u=true
 ·rw[if_pos q,List.filter_cons_of_pos (by simp [q.1,q.2])]
  exact cS _ _
 ·rw[if_neg q,List.filter_cons_of_neg (by simpa using q),List.filter_nil,Kf,Dj]
theorem W7:mY w u=true↔∀i∈w,i∈u:=by
 unfold mY
 rw[bQ]
 simp
theorem gJ(hw:Ks n w)(hu:Ks n u)(hi:mY w u=true)(ne:w≠u):w.length<u.length:=by
 rw[W7] at hi
 obtain ⟨y,hy,hn⟩ : ∃y∈u,y∉w:=bR λz=>ne (tM hw hu λi=>⟨hi i,λq=>bR λr=>z ⟨i,q,r⟩⟩)
 have:=NdS.len_leI (l2:=u.erase y) (oQ hw) λe he=>(List.mem_erase_of_ne (show e≠y from λq=>hn (by rw[<- q]; exact he))).mpr (hi e he)
 rw[lF hy] at this
 have:=pB hy
 omega
theorem Lv(k:Int)(e:Ad)(ks:List (Int×Ad))(v:Int):Pi ((k,e)::ks) v=if k=v then some e else Pi ks v:=by
 unfold Pi
 by_cases h:k=v
 ·rw[List.find?_cons_of_pos (by simpa using h),if_pos h]; rfl
 ·rw[List.find?_cons_of_neg (by simpa using h),if_neg h]
theorem cX:∀{ks:List (Int×Ad)},¬ (ks.any λp=>decide (p.1=w))=true->v=w->Pi ks v=none
 | [],_,_=>rfl
 | (k,e)::ks,h,hv=>by
  rw[Ia,Bool.or_eq_true] at h
  have h1:¬ k=w:=λz=>h (.inl (by simpa using z))
  rw[Lv,if_neg (by rw[hv]; exact h1)]
  exact cX (λz=>h (.inr z)) hv
theorem jU:∀(ks:List (Int×Ad)),Pi (ks.map λp=>if p.1=w then (p.1,d) else p) v=if v=w/\(ks.any λp=>decide (p.1=w))=true then some d else Pi ks v
 | []=>by simp [Pi]
 | (k,e)::ks=>by
  rw[Ar,Lv k e,Ia]
  have ih:=jU (w:=w) (d:=d) (v:=v) ks
  by_cases hk:k=w
  ·subst hk
   rw[if_pos rfl,Lv,ih]
   by_cases hv:v=k
   ·subst hv; simp
   ·have : ¬ k=v:=λz=>hv z.symm
    simp [hv,this]
  ·rw[if_neg hk,Lv,ih]
   by_cases hv:v=w
   ·subst hv
    rw[if_neg hk,show decide (k=v)=false by simpa using hk,Bool.false_or,if_neg hk]
   ·simp [hv]
theorem cM:∀(ks:List (Int×Ad)),Pi (ks++[(w,d)]) v=match Pi ks v with | some e=>some e | none=>if w=v then some d else none
 | []=>by rw[Tw,Lv]; rfl
 | (k,e)::ks=>by
  rw[Dl,Lv,Lv,cM ks]
  by_cases hk:k=v
  ·rw[if_pos hk,if_pos hk]
  ·rw[if_neg hk,if_neg hk]
theorem xR(ks:List (Int×Ad))(w:Int)(d:Ad)(v:Int):Pi (jM ks w d) v=if v=w then some d else Pi ks v:=by
 unfold jM
 split
 ·rename_i h
  rw[jU,h]
  simp
 ·rename_i h
  rw[cM]
  by_cases hv:v=w
  ·rw[cX h hv,if_pos hv,if_pos hv.symm]
  ·rw[if_neg hv,if_neg (λz=>hv z.symm)]
   cases Pi ks v <;> rfl
theorem vK(ks:List (Int×Ad))(w:Int)(d:Ad):(jM ks w d).length<=ks.length+1:=by
 unfold jM
 split
 ·rw[Ac]; omega
 ·rw[Bw]; exact Ak _
def gG(g:List Int->Int)(w:List Int)(X:Int)(u:List Int):Int:=if u=w then X else g u
theorem gC:gG g w X w=X:=if_pos rfl
theorem Sz(h:u≠w):gG g w X u=g u:=if_neg h
theorem nH{L M:List (List Int)}{vs X:Int}(hm:∀u,u∈M↔u∈L)(nd:M.Nodup)(hr:∀u∈L,Ks n u)(hs:M.Pairwise λx y=>y.length<=x.length)(hw:M[i]? = some w)(ho:gS L f vs g (M.take i))(hX:∀x:Int,x<=X↔∀v:Int,0<=v->v<vs->v≠f w->x<=Js (M.take i) f g w v):gS L f vs (gG g w X) (M.take (i+1)):=by
 have hi:=(Ah.mp hw).1
 have wL:=(hm w).mp (Au hw)
 have ahead:∀u∈L,w.length<u.length->u∈M.take i:=λu hu hl=>by
  obtain ⟨j,hj⟩:=Fw.mp ((hm u).mpr hu)
  have hj':=(Ah.mp hj).1
  by_cases q:j<i
  ·exact Au (i:=j) (by rw[Ef q]; exact hj)
  ·exfalso
   by_cases z:j=i
   ·subst z; rw[hw] at hj; cases hj; omega
   ·have:=Dx.mp hs i j hi hj' (by omega)
    rw[Ap hi] at hw
    rw[Ap hj'] at hj
    cases hw
    cases hj
    omega
 have Xg:∀u∈M.take i,w.length<=u.length/\u≠w:=λu hu=>by
  obtain ⟨j,hj⟩:=Fw.mp hu
  have q:j<i:=by
   have:=(Ah.mp hj).1
   rw[Cv] at this
   omega
  rw[Ef q] at hj
  have hj':=(Ah.mp hj).1
  rw[Ap hi] at hw
  rw[Ap hj'] at hj
  cases hw
  cases hj
  refine ⟨Dx.mp hs j i hj' hi q,λz=>?_⟩
  have q3:=Dx.mp nd j i hj' hi q
  exact q3 z
 intro u hu x
 rw[Jl,hw] at hu
 have hu:u∈M.take i++[w]:=hu
 rcases Bg.mp hu with hu | hu
 ·obtain ⟨b1,b2⟩:=Xg u hu
  have uL:=(hm u).mp (bO _ _ hu)
  have same:∀v,Js L f (gG g w X) u v=Js L f g u v:=λv=>by
   unfold Js
   congr 1
   refine Fk λc hc=>?_
   obtain ⟨c1,c2⟩:=Di.mp hc
   rw[Gc] at c2
   have : c≠w:=λz=>by
    subst z
    have:=gJ (hr u uL) (hr c c1) c2.2 b2
    omega
   rw[Sz this]
  rw[Sz b2]
  simp only[same]
  exact ho u hu x
 ·rw[Ag.mp hu,gC,hX x]
  refine forall_congr' λv=>forall_congr' λq1=>forall_congr' λq2=>forall_congr' λq3=>?_
  have : Js (M.take i) f g w v=Js L f (gG g w X) w v:=by
   unfold Js
   refine zC λy=>?_
   constructor
   ·intro hy
    obtain ⟨c,hc,rfl⟩:=Bs.mp hy
    obtain ⟨c1,c2⟩:=Di.mp hc
    exact Bs.mpr ⟨c,Di.mpr ⟨(hm c).mp (bO _ _ c1),c2⟩,by rw[Sz (Xg c c1).2]⟩
   ·intro hy
    obtain ⟨c,hc,rfl⟩:=Bs.mp hy
    obtain ⟨c1,c2⟩:=Di.mp hc
    have c3:=c2
    rw[Gc,decide_eq_true_eq] at c3
    have ne:c≠w:=λz=>q3 (by rw[<- c3.1,z])
    have:=gJ (hr w wL) (hr c c1) c3.2 ne.symm
    exact Bs.mpr ⟨c,Di.mpr ⟨ahead c c1 this,c2⟩,by rw[Sz ne]⟩
  rw[this]
theorem qI{α:Type}(l:List (α×Nat))(k:Nat):((l.map λp=>An (p.2:Nat)).any λe=>Do e (.int (k:Nat)))=decide (∃p∈l,p.2=k):=by
 rw[Tz,bP,decide_eq_true_eq]
 constructor
 ·(intro q_; obtain ⟨e,he,q⟩ := q_)
  obtain ⟨p,hp,rfl⟩:=Bs.mp he
  refine ⟨p,hp,?_⟩
  rw[eqD_intd,decide_eq_true_eq] at q
  omega
 ·(intro q_; obtain ⟨p,hp,rfl⟩ := q_)
  exact ⟨_,Ig hp,by simp [Do]⟩
theorem any_word(l:List (List Int))(w:List Int):((l.map Bv).any λe=>Do e (Bv w))=decide (w∈l):=by
 rw[Tz,bP,decide_eq_true_eq]
 constructor
 ·(intro q_; obtain ⟨e,he,q⟩ := q_)
  obtain ⟨u,hu,rfl⟩:=Bs.mp he
  rw[eqD_word,decide_eq_true_eq] at q
  rw[<- q]
  exact hu
 ·intro h
  exact ⟨_,Ig h,by rw[eqD_word,decide_eq_true rfl]⟩
theorem wI(h:HT.lexLt (Yp nums kf a) (Yp nums kf b)=false):nums.getD b 0<=nums.getD a 0/\(nums.getD a 0=nums.getD b 0->kf a<=kf b):=by
 unfold Yp at h
 rw[HT.lexLt_cons] at h
 by_cases e:nums.getD a 0=nums.getD b 0
 ·rw[if_pos e,HT.lexLt_cons] at h
  refine ⟨by omega,λ_=>?_⟩
  by_cases z:-((kf a:Nat):Int) = -((kf b:Nat):Int)
  ·omega
  ·rw[if_neg z,decide_eq_false_iff_not] at h
   omega
 ·rw[if_neg e,decide_eq_false_iff_not] at h
  exact ⟨by omega,λz=>absurd z e⟩
structure StR(L:List (List Int))(face nums:List Int):Prop where
 nd:L.Nodup
 l1:L.length=face.length
 l2:L.length=nums.length
 ll:L.length<=1024
 lw:∀w∈L,w.length<=10
def yM:PF:=λds R=>∃(L:List (List Int)) (face nums w u:List Int) (k M:Nat) (v:Int),ds=[.list (L.map Bv),.list (face.map An),.list (nums.map An),Bv w,.int v,Bv u]/\StR L face nums/\L[k]? = some w/\L[M]? = some u/\zR L face nums k v (some M)/\R (.bool true)
section
variable{P:Bo}{w:World}{K:PySem.W.Frag}{mg:Str->Option Value}{base:Heap}
theorem Va:FnScope ["_law_words_here", "_law_face", "_law_numbers", "_law_word", "_law_value", "_law_new", "_law_ends", "_law_far", "_law_best"] ["_law_words_here", "_law_face", "_law_numbers", "_law_word", "_law_value", "_law_new"] (Bu Ez):=⟨rfl,rfl,rfl,by decide +kernel,rfl,by decide +kernel,by decide +kernel⟩
theorem Uo(F:Fun K "_law_step_right" "_law_step_right" Ez f fd)(G_L_lies:FnOk P w K mg base Ib 1 f_L_lies d_L_lies ["_law_one", "_law_other"] (Vg K (eD)))(b_L_lies:Binds K d_L_lies ["_law_one", "_law_other"] [])(k_L_lies:PySem.W.keepIn K (.ref f_L_lies)=true)(m_L_lies:mg "_law_lies" = some (.ref f_L_lies))(mz_enumerate:mg "enumerate" = none)(mz_max:mg "max" = none)(mz_len:mg "len" = none)(mz_min:mg "min" = none):FnOk P w K mg base Ib 2 f fd ["_law_words_here", "_law_face", "_law_numbers", "_law_word", "_law_value", "_law_new"] (Vg K (yM)):=by
 refine' Oy (k:=1) F Va (λcdv A outer s H E hr=>?hb) ?h
 case hb =>
  have hr1:Room 1 _:=hr.mono (by decide)
  have hu64:=hr.units
  have CS1:∀{scope:Scope} (h:scope={ kind:=.function,names:=[(".0",.local),("_law_k",.local),("_law_other",.local),("_law_lies",.globalImplicit),("_law_face",.free),("_law_value",.free),("_law_word",.free)],isGenerator:=false,isCoroutine:=false }),
    CompScope (Mh Ib P w K mg base ["_law_words_here", "_law_face", "_law_numbers", "_law_word", "_law_value", "_law_new", "_law_ends", "_law_far", "_law_best"] "_law_step_right" (Bu Ez) f cdv A outer s H E).nox scope [("_law_word",s.heap.objs.size+4),("_law_value",s.heap.objs.size+5),("_law_face",s.heap.objs.size+2)] "_law_k" ["_law_face", "_law_value", "_law_word"] [1,4,3]:=by
   rintro scope rfl
   refine ⟨by rfl,.inl (by decide +kernel),by rfl,by decide +kernel,.inl rfl,λy c h=>?_,by rfl,by decide +kernel,rfl,λk y j e1 e2=>?_⟩
   ·have z:=El h
    simp only[Aj,Ax,or_false,Fc] at z
    rcases z with ⟨rfl,rfl⟩ | ⟨rfl,rfl⟩ | ⟨rfl,rfl⟩ <;> rfl
   ·match k,e1,e2 with
    | 0,e1,e2=>cases e1; cases e2; exact ⟨rfl,rfl,by first | exact .inl rfl | exact .inr rfl⟩
    | 1,e1,e2=>cases e1; cases e2; exact ⟨rfl,rfl,by first | exact .inl rfl | exact .inr rfl⟩
    | 2,e1,e2=>cases e1; cases e2; exact ⟨rfl,rfl,by first | exact .inl rfl | exact .inr rfl⟩
    | k+3,e1,e2=>cases e1
  have CS2:∀{scope:Scope} (h:scope={ kind:=.function,names:=[(".0",.local),("_law_k",.local),("_law_numbers",.free)],isGenerator:=false,isCoroutine:=false }),
    CompScope (Mh Ib P w K mg base ["_law_words_here", "_law_face", "_law_numbers", "_law_word", "_law_value", "_law_new", "_law_ends", "_law_far", "_law_best"] "_law_step_right" (Bu Ez) f cdv A outer s H E).nox scope [("_law_numbers",s.heap.objs.size+3)] "_law_k" ["_law_numbers"] [2]:=by
   rintro scope rfl
   refine ⟨by rfl,.inl (by decide +kernel),by rfl,by decide +kernel,.inl rfl,λy c h=>?_,by rfl,by decide +kernel,rfl,λk y j e1 e2=>?_⟩
   ·have z:=El h
    simp only[Aj,Ax,or_false,Fc] at z
    obtain ⟨rfl,rfl⟩:=z; rfl
   ·match k,e1,e2 with
    | 0,e1,e2=>cases e1; cases e2; exact ⟨rfl,rfl,by first | exact .inl rfl | exact .inr rfl⟩
    | k+1,e1,e2=>cases e1
  have CS3:∀{scope:Scope} (h:scope={ kind:=.function,names:=[(".0",.local),("_law_k",.local),("_law_far",.free),("_law_numbers",.free),("_law_words_here",.free)],isGenerator:=false,isCoroutine:=false }),
    CompScope (Mh Ib P w K mg base ["_law_words_here", "_law_face", "_law_numbers", "_law_word", "_law_value", "_law_new", "_law_ends", "_law_far", "_law_best"] "_law_step_right" (Bu Ez) f cdv A outer s H E).nox scope [("_law_words_here",s.heap.objs.size+1),("_law_numbers",s.heap.objs.size+3),("_law_far",s.heap.objs.size+6)] "_law_k" ["_law_far", "_law_numbers", "_law_words_here"] [7,2,0]:=by
   rintro scope rfl
   refine ⟨by rfl,.inl (by decide +kernel),by rfl,by decide +kernel,.inl rfl,λy c h=>?_,by rfl,by decide +kernel,rfl,λk y j e1 e2=>?_⟩
   ·have z:=El h
    simp only[Aj,Ax,or_false,Fc] at z
    rcases z with ⟨rfl,rfl⟩ | ⟨rfl,rfl⟩ | ⟨rfl,rfl⟩ <;> rfl
   ·match k,e1,e2 with
    | 0,e1,e2=>cases e1; cases e2; exact ⟨rfl,rfl,by first | exact .inl rfl | exact .inr rfl⟩
    | 1,e1,e2=>cases e1; cases e2; exact ⟨rfl,rfl,by first | exact .inl rfl | exact .inr rfl⟩
    | 2,e1,e2=>cases e1; cases e2; exact ⟨rfl,rfl,by first | exact .inl rfl | exact .inr rfl⟩
    | k+3,e1,e2=>cases e1
  have CS4:∀{scope:Scope} (h:scope={ kind:=.function,names:=[(".0",.local),("_law_other",.local),("len",.globalImplicit)],isGenerator:=false,isCoroutine:=false }),
    CompScope (Mh Ib P w K mg base ["_law_words_here", "_law_face", "_law_numbers", "_law_word", "_law_value", "_law_new", "_law_ends", "_law_far", "_law_best"] "_law_step_right" (Bu Ez) f cdv A outer s H E).nox scope [] "_law_other" [] []:=by
   rintro scope rfl
   exact Nd.compScope0 (by rfl) (by decide +kernel) (by rfl) (by decide +kernel) (by rfl) (by rfl)
  exact Ck (xM (o:=false) (i0:=6) Va.nd rfl rfl (CS1 rfl) (.inl rfl) (by decide +kernel) rfl (eX rfl mz_enumerate (Ay (Aw (pv 0)) Bn)) (λ_ _ _=>Tf (sN (lO (dE hu64 (Fh (Aw (pv 2)) (Aw (pv 0))) (Aw (pv 3))) (fS (Qf (Jo G_L_lies hr1 rfl m_L_lies k_L_lies b_L_lies Ht (Ay (Aw (pv 4)) (Ay (Aw (pv 1)) Bn)))))))) (λ_ _ _=>Aw (pv 0)))
   (Ck (Sd (DQ hu64 (bF hu64 (Aw (pv 0)) (Aw (pv 3))) (Aw (pv 6)))
   (Es (Gu (Vo hu64 (Aw (pv 5)) (Aw (pv 3))))) Nw)
   (Ck (Sd (sN (kT (bH hu64 (Aw (pv 5)) (Aw (pv 0))) (oU (bH hu64 (bF hu64 (Aw (pv 0)) (Aw (pv 5))) (Aw (pv 6))))))
   (Es (Gu Xw)) Nw)
   (Ck (Ga (i:=7) Va.nd rfl (Li rfl) (Ej (sT rfl) B1 rfl mz_max (by decide +kernel) (Ay (Ov (CS2 rfl) rfl (E5 (Aw (pv 6))) (λ_ _ _=>Nv) (λ_ _ _=>Fh (Aw (pv 1)) (Aw (pv 0)))) Bn)))
   (Ck (A9 (o:=false) (i0:=8) Va.nd rfl rfl (CS3 rfl) rfl (E5 (Aw (pv 6))) (λ_ _ _=>Tf (dE hu64 (Fh (Aw (pv 2)) (Aw (pv 0))) (Aw (pv 1)))) (λ_ _ _=>Fh (Aw (pv 3)) (Aw (pv 0))))
   (Es (Gu (P0 (K4 hu64 (Aw (pv 5)) (Aw (pv 8))) (Q3 (Vo hu64 (Ej Hz Lu rfl mz_len (by decide +kernel) (Ay (Aw (pv 5)) Bn)) (Ej (cR rfl) pG rfl mz_min (by decide +kernel) (Ay (Ov (CS4 rfl) rfl (E5 (Aw (pv 8))) (λ_ _ _=>Nv) (λ_ _ _=>Ej Hz Lu rfl mz_len (by decide +kernel) (Ay (Aw (pv 0)) Bn))) Bn)))))))))))
 case h =>
  (intro ds R q_; obtain ⟨L,face,nums,w,u,k,M,v,rfl,S,hk,hM,hC,hR⟩ := q_)
  refine ⟨rfl,?_⟩
  obtain ⟨nd,l1,l2,ll,lw⟩:=S
  array_get_dec
  refine nE (l:=L.zipIdx) (g1:=λp=>.int p.2) (g2:=λp=>Bv p.1) (by rw[zip_map,Bx]; rfl) (Wc face w v) (λp=>.int p.2) (λp hp yes no hy hn=>?_) ?_
  ·obtain ⟨j,hj⟩:=Fw.mp hp
   obtain ⟨ek,hp1,hp2,hp3⟩:=nZ hj
   obtain ⟨x,e1,e2,e3⟩:=Sk (l:=face) (i:=(p.2:Int)) (by omega) (by omega)
   rw[Et] at e1
   have hh:Wc face w v p=(decide (x=v) && mY w p.1):=by
    unfold Wc
    rw[e1]
    congr 1
    simp
   rw[hh] at hy hn
   array_get_dec
   refine ⟨.int x,by rw[Zh,e2]; rfl,dp,?_⟩
   array_get_dec
   refine mW (λh1=>?_) (λh1=>?_)
   ·array_get_dec
    refine ⟨w,p.1,rfl,?_⟩
    refine Td (λh2=>?_) (λh2=>?_)
    ·array_get_dec
     exact hy (by rw[h1,h2]; rfl)
    ·exact hn (by rw[h1,h2]; rfl)
   ·array_get_dec
    exact hn (by rw[h1]; rfl)
  have esh:(L.zipIdx.filter (Wc face w v))=Jq L face w v:=rfl
  rw[esh]
  array_get_dec
  refine ⟨k,Uw nd hk,?_⟩
  rw[qI]
  have at':∀p∈Jq L face w v,L[p.2]? = some p.1/\face[p.2]? = some v/\mY w p.1=true:=λp hp=>by
   obtain ⟨p1,p2⟩:=Di.mp hp
   unfold Wc at p2
   rw[Gc,decide_eq_true_eq] at p2
   exact ⟨Nz.mp p1,p2.1,p2.2⟩
  obtain ⟨w',f,hw',hf,⟨rfl,e⟩ | ⟨_,e,_⟩ | ⟨nf,p,hp,e,hmax⟩⟩:=hC
  ·rw[hk] at hw'
   cases hw'
   cases e
   rw[hk] at hM
   cases hM
   rw[decide_eq_true (show ∃p∈Jq L face w f,p.2=k from ⟨(w,k),Di.mpr ⟨List.mem_zipIdx_iff_getElem?.mpr hk,by unfold Wc; rw[hf,decide_eq_true rfl,Bool.true_and]; exact W7.mpr λ_ h=>h⟩,rfl⟩)]
   array_get_dec
   exact hR
  ·cases e
  rw[hk] at hw'
  cases hw'
  cases e
  obtain ⟨ep,fp,ip⟩:=at' p hp
  have eu:p.1=u:=by rw[hM] at ep; exact (Bl ep).symm
  rw[decide_eq_false (show ¬ ∃q∈Jq L face w v,q.2=k from λ⟨q,hq,z⟩=>by
   have:=(at' q hq).2.1
   rw[z,hf] at this
   exact nf (Bl this))]
  array_get_dec
  rw[decide_eq_true (Au hM)]
  array_get_dec
  refine ⟨p.2,Uw nd hM,?_⟩
  rw[qI,decide_eq_true (show ∃q∈Jq L face w v,q.2=p.2 from ⟨p,hp,rfl⟩)]
  array_get_dec
  have gn:∀q∈Jq L face w v,Uv (nums.map An) (q.2:Int)=some (.int (nums.getD q.2 0)):=λq hq=>by
   have:=(Ah.mp (at' q hq).1).1
   refine Sj ?_
   rw[Az,Ap (by omega),Cs,Ap (by omega)]
   rfl
  refine dI (l:=Jq L face w v) (g:=λp=>.int p.2) rfl (λq=>.int (nums.getD q.2 0)) (λq hq yes no hy=>?_) ?_
  ·array_get_dec
   exact ⟨_,gn q hq,im,hy⟩
  array_get_dec
  refine ⟨(Jq L face w v).map (λq=>nums.getD q.2 0),by rw[Bx]; rfl,λz=>?_,λX hX hle=>?_⟩
  ·rw[Of.mp z] at hp; cases hp
  have pX:nums.getD p.2 0=X:=by
   have h1:=hle _ (Ig hp)
   obtain ⟨q,hq,rfl⟩:=Bs.mp hX
   have:=(wI (hmax q hq)).1
   omega
  refine rB (l:=Jq L face w v) (g:=λp=>.int p.2) rfl (λq=>decide (nums.getD q.2 0=X)) (λq=>Bv q.1) (λq hq yes no hy hn=>?_) ?_
  ·array_get_dec
   refine ⟨_,gn q hq,dp,?_⟩
   array_get_dec
   refine Td (λz=>?_) (λz=>?_)
   ·array_get_dec
    exact ⟨Bv q.1,Sj (by rw[Az,(at' q hq).1]; rfl),im,hy (by simpa using z)⟩
   ·exact hn (by simpa using z)
  rw[show (((Jq L face w v).filter λq=>decide (nums.getD q.2 0=X)).map λq=>Bv q.1)=(((Jq L face w v).filter λq=>decide (nums.getD q.2 0=X)).map (·.1)).map Bv by rw[Bx]; rfl]
  have uB:u∈((Jq L face w v).filter λq=>decide (nums.getD q.2 0=X)).map (·.1):=Bs.mpr ⟨p,Di.mpr ⟨hp,by simpa using pX⟩,eu⟩
  have uM:∀c∈((Jq L face w v).filter λq=>decide (nums.getD q.2 0=X)).map (·.1),u.length<=c.length:=λc hc=>by
   obtain ⟨q,hq,rfl⟩:=Bs.mp hc
   obtain ⟨q1,q2⟩:=Di.mp hq
   have:=(wI (hmax q q1)).2 (by rw[pX]; exact (by simpa using q2:nums.getD q.2 0=X).symm)
   unfold cZ at this
   rw[Cs,Cs,hM,(at' q q1).1] at this
   exact this
  generalize ((Jq L face w v).filter λq=>decide (nums.getD q.2 0=X)).map (·.1)=B at uB uM
  array_get_dec
  rw[decide_eq_true uB]
  array_get_dec
  refine dI (l:=B) (g:=Bv) rfl (λc=>.int c.length) (λc hc yes no hy=>?_) ?_
  ·array_get_dec
   rw[Ac]
   exact hy
  array_get_dec
  refine ⟨B.map λc=>(c.length:Int),by rw[Bx]; rfl,λz=>?_,λm hm hle=>?_⟩
  ·rw[Of.mp z] at uB; cases uB
  ·have e:((u.map An).length:Int)=m:=by
    rw[Ac]
    have:=hle _ (Ig uB)
    obtain ⟨c,hc,rfl⟩:=Bs.mp hm
    have:=uM c hc
    omega
   rw[decide_eq_true e]
   exact hR
end
theorem wD(h:WrR ws face nums k row ms b):ms.length<=row.length/\(decide (ms.length=row.length)=b)/\∀m∈ms,m<ws.length:=by
 induction h with
 | done k=>exact ⟨Ak _,rfl,λ_ z=>(nomatch z)⟩
 | stuck h=>exact ⟨Cr _,by simp,λ_ z=>(nomatch z)⟩
 | step h t ih =>
  obtain ⟨h1,h2,h3⟩:=ih
  refine ⟨by rw[Bp,Bp]; omega,by rw[<- h2]; simp,λm hm=>?_⟩
  rcases Aj.mp hm with rfl | hm
  ·exact lV h
  ·exact h3 m hm
def qS:PF:=λds R=>∃(L:List (List Int)) (face nums w:List Int) (k:Nat) (row:List Int) (ms:List Nat) (b:Bool),ds=[.list (L.map Bv),.list (face.map An),.list (nums.map An),Bv w,.list (row.map An),EA L b ms]/\StR L face nums/\L[k]? = some w/\row.length<=1000/\WrR L face nums k row ms b/\R (.bool true)
section
variable{P:Bo}{w:World}{K:PySem.W.Frag}{mg:Str->Option Value}{base:Heap}
theorem bX:FnScope ["_law_words_here", "_law_face", "_law_numbers", "_law_word", "_law_row", "_law_told", "_law_value", "_law_new"] ["_law_words_here", "_law_face", "_law_numbers", "_law_word", "_law_row", "_law_told"] (Bu Nb):=⟨rfl,rfl,rfl,by decide +kernel,rfl,by decide +kernel,by decide +kernel⟩
theorem cA(F:Fun K "_law_right" "_law_right" Nb f fd)(G_L_lies:FnOk P w K mg base Ib 1 f_L_lies d_L_lies ["_law_one", "_law_other"] (Vg K (eD)))(b_L_lies:Binds K d_L_lies ["_law_one", "_law_other"] [])(k_L_lies:PySem.W.keepIn K (.ref f_L_lies)=true)(m_L_lies:mg "_law_lies" = some (.ref f_L_lies))(G_L_step_right:FnOk P w K mg base Ib 2 f_L_step_right d_L_step_right ["_law_words_here", "_law_face", "_law_numbers", "_law_word", "_law_value", "_law_new"] (Vg K (yM)))(b_L_step_right:Binds K d_L_step_right ["_law_words_here", "_law_face", "_law_numbers", "_law_word", "_law_value", "_law_new"] [])(k_L_step_right:PySem.W.keepIn K (.ref f_L_step_right)=true)(m_L_step_right:mg "_law_step_right" = some (.ref f_L_step_right))(mz_len:mg "len" = none)(mz_list:mg "list" = none)(mz_isinstance:mg "isinstance" = none)(mz_tuple:mg "tuple" = none)(mz_int:mg "int" = none)(mz_zip:mg "zip" = none)(mz_enumerate:mg "enumerate" = none):FnOk P w K mg base Ib 3 f fd ["_law_words_here", "_law_face", "_law_numbers", "_law_word", "_law_row", "_law_told"] (Vg K (qS)):=by
 refine' Oy (k:=2) F bX (λcdv A outer s H E hr=>?hb) ?h
 case hb =>
  have hr1:Room 1 _:=hr.mono (by decide)
  have hr2:Room 2 _:=hr.mono (by decide)
  have hu64:=hr.units
  have CS1:∀{scope:Scope} (h:scope={ kind:=.function,names:=[(".0",.local),("_law_k",.local),("_law_other",.local),("_law_lies",.globalImplicit),("_law_face",.free),("_law_value",.free),("_law_word",.free)],isGenerator:=false,isCoroutine:=false }),
    CompScope (Mh Ib P w K mg base ["_law_words_here", "_law_face", "_law_numbers", "_law_word", "_law_row", "_law_told", "_law_value", "_law_new"] "_law_right" (Bu Nb) f cdv A outer s H E).nox scope [("_law_word",s.heap.objs.size+2),("_law_value",s.heap.objs.size+3),("_law_face",s.heap.objs.size+1)] "_law_k" ["_law_face", "_law_value", "_law_word"] [1,6,3]:=by
   rintro scope rfl
   refine ⟨by rfl,.inl (by decide +kernel),by rfl,by decide +kernel,.inl rfl,λy c h=>?_,by rfl,by decide +kernel,rfl,λk y j e1 e2=>?_⟩
   ·have z:=El h
    simp only[Aj,Ax,or_false,Fc] at z
    rcases z with ⟨rfl,rfl⟩ | ⟨rfl,rfl⟩ | ⟨rfl,rfl⟩ <;> rfl
   ·match k,e1,e2 with
    | 0,e1,e2=>cases e1; cases e2; exact ⟨rfl,rfl,by first | exact .inl rfl | exact .inr rfl⟩
    | 1,e1,e2=>cases e1; cases e2; exact ⟨rfl,rfl,by first | exact .inl rfl | exact .inr rfl⟩
    | 2,e1,e2=>cases e1; cases e2; exact ⟨rfl,rfl,by first | exact .inl rfl | exact .inr rfl⟩
    | k+3,e1,e2=>cases e1
  exact Ck (Sd (sN (kT (aH (Qf (Ej oY mX rfl mz_isinstance (by decide +kernel) (Ay (Aw (pv 5)) (Ay (wU (n := "tuple") rfl mz_tuple (by decide +kernel)) Bn))))) (kT (qH hu64 (Ej Hz Lu rfl mz_len (by decide +kernel) (Ay (Aw (pv 5)) Bn)) Da) (kT (aH (Qf (Ej oY mX rfl mz_isinstance (by decide +kernel) (Ay (Fh (Aw (pv 5)) Da) (Ay (wU (n := "list") rfl mz_list (by decide +kernel)) Bn))))) (oU (CB (Ej Hz Lu rfl mz_len (by decide +kernel) (Ay (Fh (Aw (pv 5)) Da) Bn)) (Ej Hz Lu rfl mz_len (by decide +kernel) (Ay (Aw (pv 4)) Bn))))))))
   (Es (Gu Xw)) Nw)
   (Ck (Sd (qH hu64 (Fh (Aw (pv 5)) Da) (Fh (Kx (Ay aN (Ay aN Bn))) (Iq Px aR rfl mz_int (by decide +kernel) (Ay (Vo hu64 (Ej Hz Lu rfl mz_len (by decide +kernel) (Ay (Fh (Aw (pv 5)) Da) Bn)) (Ej Hz Lu rfl mz_len (by decide +kernel) (Ay (Aw (pv 4)) Bn))) Bn))))
   (Es (Gu Xw)) Nw)
   (Ck (Ur Fe rfl (R9 rfl mz_zip (Ay (Aw (pv 4)) (Ay (Fh (Aw (pv 5)) Da) Bn))) (S7 (n:=2) rfl (kR (Na (i:=6) bX.nd rfl (Li rfl)) (kR (Na (i:=7) bX.nd rfl (Dr rfl)) B6)))
   (Ck (Sd (sN (kT (aH (Qf (Ej oY mX rfl mz_isinstance (by decide +kernel) (Ay (Aw (pv 7)) (Ay (wU (n := "tuple") rfl mz_tuple (by decide +kernel)) Bn))))) (oU (aH (Qf (Jo G_L_step_right hr2 rfl m_L_step_right k_L_step_right b_L_step_right Ht (Ay (Aw (pv 0)) (Ay (Aw (pv 1)) (Ay (Aw (pv 2)) (Ay (Aw (pv 3)) (Ay (Aw (pv 6)) (Ay (Aw (pv 7)) Bn))))))))))))
    (Es (Gu Xw)) Nw)
    (Es (Ga (i:=3) bX.nd rfl (Li rfl) (Aw (pv 7))))))
   (Ck (Sd (dE hu64 (Fh (Aw (pv 5)) Da) aN)
   (Es (Gu Xw)) Nw)
   (Ck (Ga (i:=6) bX.nd rfl (Li rfl) (Fh (Aw (pv 4)) (Ej Hz Lu rfl mz_len (by decide +kernel) (Ay (Fh (Aw (pv 5)) Da) Bn))))
   (Es (Gu (Vo hu64 (jO (CS1 rfl) (.inl rfl) (by decide +kernel) rfl (eX rfl mz_enumerate (Ay (Aw (pv 0)) Bn)) (λ_ _ _=>Tf (sN (lO (dE hu64 (Fh (Aw (pv 2)) (Aw (pv 0))) (Aw (pv 3))) (fS (Qf (Jo G_L_lies hr1 rfl m_L_lies k_L_lies b_L_lies Ht (Ay (Aw (pv 4)) (Ay (Aw (pv 1)) Bn)))))))) (λ_ _ _=>Aw (pv 0))) (Kx Bn))))))))
 case h =>
  (intro ds R q_; obtain ⟨L,face,nums,w,k,row,ms,b,rfl,S,hk,lr,hW,hR⟩ := q_)
  refine ⟨rfl,?_⟩
  obtain ⟨w1,w2,w3⟩:=wD hW
  unfold EA
  array_get_dec
  have lms:(((ms.map λm=>L.getD m []).map Bv).length:Int)=(ms.length:Int):=by rw[Ac,Ac]
  have lrow:((row.map An).length:Int)=(row.length:Int):=by rw[Ac]
  rw[lms,lrow,decide_eq_false (show ¬ ((row.length:Int)<(ms.length:Int)) by omega)]
  array_get_dec
  have eb:decide ((ms.length:Int)=(row.length:Int))=b:=by rw[<- w2]; exact decide_eq_decide.mpr ⟨λz=>by omega,λz=>by omega⟩
  rw[lms,lrow,eb]
  refine ⟨.str (W5 b),by cases b <;> rfl,dp,?_⟩
  rw[show (!Do (.str (W5 b)) (.str (W5 b)))=false by cases b <;> simp [Do]]
  array_get_dec
  refine mM (l:=row.zip ms) (g:=λp=>.tuple [.int p.1,Bv (L.getD p.2 [])]) (by rw[Bx (l:=ms),List.zip_map,Bx]; rfl) (λi δ=>∃(c:Nat) (w':List Int) (v6 v7:DV),δ=⟨[.dat .sh (.list (L.map Bv)),.dat .sh (.list (face.map An)),.dat .sh (.list (nums.map An)),.dat .sh (Bv w'),.dat .sh (.list (row.map An)),.dat .sh (.tuple [.str (W5 b),.list ((ms.map λm=>L.getD m []).map Bv)]),v6,v7],0⟩/\L[c]? = some w'/\WrR L face nums c (row.drop i) (ms.drop i) b/\NP v6/\NP v7) ?_ ?_ ?_
  ·exact ⟨k,w,_,_,rfl,hk,hW,Si,Si⟩
  ·(rintro i ⟨v,m⟩ _ hz q_; obtain ⟨c,w',v6,v7,rfl,hc,hWc,hv6,hv7⟩ := q_)
   obtain ⟨z1,z2⟩:=List.getElem?_zip_eq_some.mp hz
   have d1:row.drop i=v::row.drop (i+1):=by
    rw[Hs (Ah.mp z1).1,(Ah.mp z1).2]
   have d2:ms.drop i=m::ms.drop (i+1):=by
    rw[Hs (Ah.mp z2).1,(Ah.mp z2).2]
   rw[d1,d2] at hWc
   cases hWc with
   | step hC hW' =>
   have hm:L[m]? = some (L.getD m []):=by
    rw[Cs,Ap (lV hC)]
    rfl
   array_get_dec
   refine ⟨L,face,nums,w',L.getD m [],c,m,v,rfl,S,hc,hm,hC,?_⟩
   array_get_dec
   exact ⟨m,_,_,_,rfl,hm,hW',Je,Je⟩
  ·(intro _ q_; obtain ⟨c,w',v6,v7,rfl,hc,hWc,hv6,hv7⟩ := q_)
   rw[Kr,Nat.min_eq_right w1,List.drop_length] at hWc
   array_get_dec
   generalize hrd:row.drop ms.length=rd at hWc
   cases hWc with
   | done =>
    rw[show (W5 true == ("written" : Str))=true from by decide +kernel]
    array_get_dec
    exact hR
   | @stuck _ v row' hC =>
    rw[show (W5 false == ("written" : Str))=false from by decide +kernel]
    array_get_dec
    have hv:row[ms.length]? = some v:=by
     have:=congrArg (λl=>l[0]?) hrd
     simpa [Pm] using this
    refine ⟨.int v,by rw[lms]; exact Sj (by rw[Az,hv]; rfl),?_⟩
    array_get_dec
    obtain ⟨nd,l1,l2,ll,lw⟩:=S
    obtain ⟨w2',f,hw',hf,⟨_,e⟩ | ⟨nf,_,e9⟩ | ⟨_,p,hp,e,_⟩⟩:=hC
    ·cases e
    rotate_left
    ·cases e
    rw[hc] at hw'
    cases hw'
    refine nE (l:=L.zipIdx) (g1:=λp=>.int p.2) (g2:=λp=>Bv p.1) (by rw[zip_map,Bx]; rfl) (Wc face w' v) (λp=>.int p.2) (λp hp yes no hy hn=>?_) ?_
    ·obtain ⟨j,hj⟩:=Fw.mp hp
     obtain ⟨ek,hp1,hp2,hp3⟩:=nZ hj
     obtain ⟨x,e1,e2,e3⟩:=Sk (l:=face) (i:=(p.2:Int)) (by omega) (by omega)
     rw[Et] at e1
     have hh:Wc face w' v p=(decide (x=v) && mY w' p.1):=by
      unfold Wc
      rw[e1]
      congr 1
      simp
     rw[hh] at hy hn
     array_get_dec
     refine ⟨.int x,by rw[Zh,e2]; rfl,dp,?_⟩
     array_get_dec
     refine mW (λh1=>?_) (λh1=>?_)
     ·array_get_dec
      refine ⟨w',p.1,rfl,?_⟩
      refine Td (λh2=>?_) (λh2=>?_)
      ·array_get_dec
       exact hy (by rw[h1,h2]; rfl)
      ·exact hn (by rw[h1,h2]; rfl)
     ·array_get_dec
      exact hn (by rw[h1]; rfl)
    rw[show L.zipIdx.filter (Wc face w' v)=[] from e9]
    array_get_dec
    exact hR
end
theorem F9:iB .un=true:=rfl
theorem C3:iB (.dat .sh d)=nX d:=rfl
theorem A3:iB (.dat .ow d)=true:=rfl
theorem J5:nX (.int i)=true:=rfl
theorem Wh{α:Type}{f:α->Ad}(h:∀a,nX (f a)=true):∀l:List α,mN (l.map f)=true
 | []=>rfl
 | a::l=>by show (nX (f a) && mN (l.map f))=true; rw[h a,Wh h l]; rfl
theorem pJ(w:List Int):nX (Bv w)=true:=Wh (λ_=>rfl) w
theorem U4(l:List (List Int)):nX (.list (l.map Bv))=true:=Wh pJ l
theorem R4(l:List Int):nX (.list (l.map An))=true:=Wh (λ_=>rfl) l
theorem tW(L:List (List Int))(g:List Int->Int):(Rb L g).map (λp=>Bv p.1)=L.map Bv:=by
 unfold Rb
 rw[Bx]
 rfl
theorem vC(h:w∉P):Ry (Rb P g) w (.int X)=Rb (P++[w]) (gG g w X):=by
 unfold Ry
 rw[if_neg]
 ·unfold Rb
  rw[Bh,Ar,Kf,gC]
  congr 1
  refine Fk λu hu=>?_
  rw[Sz (show u≠w from λz=>h (by rw[<- z]; exact hu))]
 ·intro z
  obtain ⟨p,hp,e⟩:=List.any_eq_true.mp z
  obtain ⟨u,hu,rfl⟩:=Bs.mp hp
  have q:u=w:=by simpa using e
  exact h (by rw[<- q]; exact hu)
theorem Q9(a b:Int):(if a > b then a else b)=max b a:=by
 by_cases h:a > b
 ·rw[if_pos h]; omega
 ·rw[if_neg h]; omega
section
variable{P:Bo}{w:World}{K:PySem.W.Frag}{mg:Str->Option Value}{base:Heap}
theorem cI:FnScope ["_law_words_here", "_law_face", "_law_values_here", "_law_shown", "_law_known", "_law_word", "_law_best", "_law_other"] ["_law_words_here", "_law_face", "_law_values_here"] (Bu Kw):=⟨rfl,rfl,rfl,by decide +kernel,rfl,by decide +kernel,by decide +kernel⟩
theorem cH(F:Fun K "_law_often" "_law_often" Kw f fd)(G_L_lies:FnOk P w K mg base Ib 1 f_L_lies d_L_lies ["_law_one", "_law_other"] (Vg K (eD)))(b_L_lies:Binds K d_L_lies ["_law_one", "_law_other"] [])(k_L_lies:PySem.W.keepIn K (.ref f_L_lies)=true)(m_L_lies:mg "_law_lies" = some (.ref f_L_lies))(mz_dict:mg "dict" = none)(mz_zip:mg "zip" = none)(mz_sorted:mg "sorted" = none)(mz_len:mg "len" = none)(mz_max:mg "max" = none)(mz_range:mg "range" = none)(mz_min:mg "min" = none):FnOk P w K mg base Ib 2 f fd ["_law_words_here", "_law_face", "_law_values_here"] (Vg K (pW)):=by
 refine' Oy (k:=1) F cI (λcdv A outer s H E hr=>?hb) ?h
 case hb =>
  have hr1:Room 1 _:=hr.mono (by decide)
  have hu64:=hr.units
  have CS1:∀{scope:Scope} (h:scope={ kind:=.function,names:=[(".0",.local),("_law_value",.local),("_law_best",.free),("_law_shown",.free),("_law_word",.free)],isGenerator:=false,isCoroutine:=false }),
    CompScope (Mh Ib P w K mg base ["_law_words_here", "_law_face", "_law_values_here", "_law_shown", "_law_known", "_law_word", "_law_best", "_law_other"] "_law_often" (Bu Kw) f cdv A outer s H E).nox scope [("_law_word",s.heap.objs.size+3),("_law_shown",s.heap.objs.size+1),("_law_best",s.heap.objs.size+4)] "_law_value" ["_law_best", "_law_shown", "_law_word"] [6,3,5]:=by
   rintro scope rfl
   refine ⟨by rfl,.inl (by decide +kernel),by rfl,by decide +kernel,.inl rfl,λy c h=>?_,by rfl,by decide +kernel,rfl,λk y j e1 e2=>?_⟩
   ·have z:=El h
    simp only[Aj,Ax,or_false,Fc] at z
    rcases z with ⟨rfl,rfl⟩ | ⟨rfl,rfl⟩ | ⟨rfl,rfl⟩ <;> rfl
   ·match k,e1,e2 with
    | 0,e1,e2=>cases e1; cases e2; exact ⟨rfl,rfl,by first | exact .inl rfl | exact .inr rfl⟩
    | 1,e1,e2=>cases e1; cases e2; exact ⟨rfl,rfl,by first | exact .inl rfl | exact .inr rfl⟩
    | 2,e1,e2=>cases e1; cases e2; exact ⟨rfl,rfl,by first | exact .inl rfl | exact .inr rfl⟩
    | k+3,e1,e2=>cases e1
  have CS2:∀{scope:Scope} (h:scope={ kind:=.function,names:=[(".0",.local),("_law_word",.local),("_law_known",.free)],isGenerator:=false,isCoroutine:=false }),
    CompScope (Mh Ib P w K mg base ["_law_words_here", "_law_face", "_law_values_here", "_law_shown", "_law_known", "_law_word", "_law_best", "_law_other"] "_law_often" (Bu Kw) f cdv A outer s H E).nox scope [("_law_known",s.heap.objs.size+2)] "_law_word" ["_law_known"] [4]:=by
   rintro scope rfl
   refine ⟨by rfl,.inl (by decide +kernel),by rfl,by decide +kernel,.inl rfl,λy c h=>?_,by rfl,by decide +kernel,rfl,λk y j e1 e2=>?_⟩
   ·have z:=El h
    simp only[Aj,Ax,or_false,Fc] at z
    obtain ⟨rfl,rfl⟩:=z; rfl
   ·match k,e1,e2 with
    | 0,e1,e2=>cases e1; cases e2; exact ⟨rfl,rfl,by first | exact .inl rfl | exact .inr rfl⟩
    | k+1,e1,e2=>cases e1
  exact Ck (Qk (i:=3) cI.nd rfl (Li rfl) (uO hu64 rfl mz_dict rfl mz_zip rfl (Ay (Aw (pv 0)) (Ay (Aw (pv 1)) Bn))))
   (Ck (Qk (i:=4) cI.nd rfl (Li rfl) B7)
   (Ck (Ur Fe rfl (E5 (E2 (wA rfl mz_sorted rfl mz_len (Ay (Aw (pv 0)) Bn)) (AL T6 Dd) (λ_ _ _ h=>⟨_,rfl,h⟩))) (Na (i:=5) cI.nd rfl (Li rfl))
   (Ck (Qk (i:=6) cI.nd rfl (Li rfl) G9)
    (Ck (E6 Fe rfl (pv 4) (Na (i:=7) cI.nd rfl (Dr rfl))
    (Es (Sd (Qf (Jo G_L_lies hr1 rfl m_L_lies k_L_lies b_L_lies Ht (Ay (Aw (pv 5)) (Ay (Aw (pv 7)) Bn))))
     (Es (x9 hu64 (pv 6) (Yz hu64 (Aw (pv 3)) (Aw (pv 7))) (Ej (dY rfl) pH rfl mz_max (by decide +kernel) (Ay (qQ hu64 (Aw (pv 6)) (Yz hu64 (Aw (pv 3)) (Aw (pv 7))) Da ⟨rfl,rfl,rfl,rfl⟩) (Ay (Ph (yC hu64 (Aw (pv 4)) (Aw (pv 7))) Da) Bn))))) Nw)))
    (Es (I0 hu64 (pv 4) (Aw (pv 5)) (Ej (cR rfl) pG rfl mz_min (by decide +kernel) (Ay (Ov (CS1 rfl) rfl (Tg rfl mz_range (Ay (Aw (pv 2)) Bn)) (λ_ _ _=>Tf (qH hu64 (Aw (pv 0)) (Yz hu64 (Aw (pv 2)) (Aw (pv 3))))) (λ_ _ _=>qQ hu64 (Aw (pv 1)) (Aw (pv 0)) Da ⟨rfl,rfl,rfl,rfl⟩)) Bn)))))))
   (Es (Gu (Ov (CS2 rfl) rfl (E5 (Aw (pv 0))) (λ_ _ _=>Nv) (λ_ _ _=>Yz hu64 (Aw (pv 1)) (Aw (pv 0))))))))
 case h =>
  (intro ds R q_; obtain ⟨h,L,f,vs,rfl,h0,h1,hp,v0,v1,hR⟩ := q_)
  refine ⟨rfl,?_⟩
  obtain ⟨l1,l2⟩:=Te (n:=h.toNat) (by omega) hp
  have nd:=Sf hp
  have hz:Av=16777216:=Ie
  array_get_dec
  refine ⟨by rw[Ac]; omega,L,rfl,?_⟩
  rw[wF nd f]
  array_get_dec
  refine ⟨L,rfl,by omega,λM0 hM hs=>?_⟩
  have hM':M0.reverse.Perm L:=(Hw M0).trans hM
  have hs':M0.reverse.Pairwise λx y=>y.length<=x.length:=Mm.mpr hs
  rw[<- List.map_reverse]
  generalize M0.reverse=M at hM' hs'
  have ndM:M.Nodup:=hM'.nodup_iff.mpr nd
  have lM:=hM'.length_eq
  refine mM (l:=M) (g:=Bv) rfl (λi δ=>∃(g:List Int->Int) (v5 v6 v7:DV),δ=⟨[.dat .sh (.list (L.map Bv)),.dat .sh (.list ((L.map f).map An)),.dat .sh (.int vs),.dat .ow (.dict (Qr (Rb L f))),.dat .ow (.dict (Qr (Rb (M.take i) g))),v5,v6,v7],0⟩/\NP v5/\NP v6/\NP v7/\iB v7=true/\gS L f vs g (M.take i)) ?_ ?_ ?_
  ·exact ⟨λ_=>0,_,_,_,rfl,Si,Si,Si,rfl,λ_ z=>nomatch z⟩
  ·(intro i w _ hw q_; obtain ⟨g,v5,v6,v7,rfl,hv5,hv6,hv7,ok7,ho⟩ := q_)
   have wL:=hM'.mem_iff.mp (Au hw)
   have hi:=(Ah.mp hw).1
   array_get_dec
   have lP:(Rb (M.take i) g).length=i:=by simp only[Rb,Ac,Cv]; omega
   refine ⟨_,rfl,by omega,λa=>?_⟩
   refine ⟨λj δ=>∃(bs:List (Int×Ad)) (v7:DV),δ=⟨[.dat .sh (.list (L.map Bv)),.dat .sh (.list ((L.map f).map An)),.dat .sh (.int vs),.dat .ow (.dict (Qr (Rb L f))),.dat .sh (.dict (Vt a (Rb (M.take i) g))),.dat .sh (Bv w),.dat .ow (.dict (Yl bs)),v7],0⟩/\NP v7/\iB v7=true/\bs.length<=j/\∀v,(Pi bs v).getD (.int 0)=.int (Js ((M.take i).take j) f g w v),⟨[],v7,rfl,hv7,ok7,Cr _,λv=>rfl⟩,?_,?_⟩
   ·(intro j d _ hd q_; obtain ⟨bs,u7,rfl,hu7,ok,lb,hb⟩ := q_)
    rw[tW,Az] at hd
    cases hu:(M.take i)[j]? with
    | none=>rw[hu] at hd; cases hd
    | some u =>
    rw[hu] at hd
    cases hd
    have uP:=Au hu
    have uL:=hM'.mem_iff.mp (bO _ _ uP)
    have hj:j<1024:=by
     have:=(Ah.mp hu).1
     rw[Cv] at this
     omega
    have tk:(M.take i).take (j+1)=(M.take i).take j++[u]:=by rw[Jl,hu]; rfl
    array_get_dec
    refine ⟨w,u,rfl,?_⟩
    refine K5 (λhin=>?_) (λhin=>?_)
    ·array_get_dec
     refine ⟨_,Th uL,?_⟩
     array_get_dec
     rw[hb]
     array_get_dec
     refine ⟨_,Th uP,?_⟩
     array_get_dec
     refine ⟨_,Th uL,?_⟩
     array_get_dec
     refine ⟨by omega,_,_,rfl,Je,pJ u,Cc (vK _ _ _) (by omega),λv=>?_⟩
     rw[xR,tk,Zs]
     by_cases q:v=f u
     ·subst q
      rw[if_pos (show f u=f u from rfl),if_pos (show f u=f u/\mY w u=true from ⟨rfl,hin⟩)]
      rw[Option.getD_some,Q9]
     ·rw[if_neg q,if_neg (λz=>q z.1.symm)]
      exact hb v
    ·array_get_dec
     refine ⟨bs,_,rfl,Je,pJ u,by omega,λv=>?_⟩
     rw[tk,Zs,if_neg (λz=>by rw[z.2] at hin; cases hin)]
     exact hb v
   ·(intro _ q_; obtain ⟨bs,u7,rfl,hu7,ok,lb,hb⟩ := q_)
    rw[lP] at hb
    refine ⟨rfl,?_,?_⟩
    ·simp only[Pk,List.set_cons_zero,List.all_cons,List.all_nil,F9,C3,A3,U4,R4,pJ,J5,ok,Bool.and_self]
    rw[show (M.take i).take i=M.take i by rw[List.take_take,Nat.min_self]] at hb
    array_get_dec
    refine ⟨by omega,by omega,?_⟩
    refine rB (l:=Dk vs.toNat) (g:=λi:Nat=>.int i) rfl (λk:Nat=>decide ((k:Int)≠f w)) (λk=>.int (Js (M.take i) f g w k)) (λk _ yes no hy hn=>?_) ?_
    ·array_get_dec
     refine ⟨_,Th wL,?_⟩
     array_get_dec
     refine Td (λq=>?_) (λq=>?_)
     ·array_get_dec
      rw[hb]
      array_get_dec
      exact hy (by simpa using q)
     ·exact hn (by simpa using q)
    array_get_dec
    have mem:∀b:Int,b∈((Dk vs.toNat).filter λk:Nat=>decide ((k:Int)≠f w)).map (λk:Nat=>Js (M.take i) f g w k)↔∃v:Int,0<=v/\v<vs/\v≠f w/\b=Js (M.take i) f g w v:=λb=>by
     constructor
     ·intro q
      obtain ⟨k,hk,rfl⟩:=Bs.mp q
      obtain ⟨q1,q2⟩:=Di.mp hk
      have:=List.mem_range.mp q1
      exact ⟨k,by omega,by omega,by simpa using q2,rfl⟩
     ·(intro q_; obtain ⟨v,q1,q2,q3,rfl⟩ := q_)
      refine Bs.mpr ⟨v.toNat,Di.mpr ⟨List.mem_range.mpr (by omega),?_⟩,by rw[Int.toNat_of_nonneg q1]⟩
      rw[Int.toNat_of_nonneg q1]
      simpa using q3
    refine ⟨((Dk vs.toNat).filter λk:Nat=>decide ((k:Int)≠f w)).map (λk:Nat=>Js (M.take i) f g w k),by rw[Bx]; rfl,λz=>?_,λX hX hle=>?_⟩
    ·have q1:=(mem (Js (M.take i) f g w 0)).mpr
     have q2:=(mem (Js (M.take i) f g w 1)).mpr
     rw[z] at q1 q2
     by_cases q:f w=0
     ·exact absurd (q2 ⟨1,by omega,by omega,by omega,rfl⟩) Ax
     ·exact absurd (q1 ⟨0,by omega,by omega,by omega,rfl⟩) Ax
    array_get_dec
    have nw:w∉M.take i:=λz=>by
     obtain ⟨j,hj⟩:=Fw.mp z
     have hj1:j<i:=by
      have:=(Ah.mp hj).1
      rw[Cv] at this
      omega
     rw[Ef hj1] at hj
     have hj2:=(Ah.mp hj).1
     have:=Dx.mp ndM j i hj2 hi hj1
     rw[Ap hj2] at hj
     rw[Ap hi] at hw
     exact this (Bl (hj.trans hw.symm))
    rw[lP]
    have e9:Ry (Rb (M.take i) g) w (.int X)=Rb (M.take (i+1)) (gG g w X):=by
     rw[vC nw,Jl,hw]
     rfl
    rw[e9]
    refine ⟨by simp [npk,hu7 _],by omega,gG g w X,_,_,_,rfl,Je,vZ,hu7,ok,?_⟩
    ·refine nH (λu=>hM'.mem_iff) ndM (λu hu=>(l2 u hu).1) hs' hw ho λx=>⟨λq v q1 q2 q3=>?_,λq=>?_⟩
     ·have:=hle _ ((mem _).mpr ⟨v,q1,q2,q3,rfl⟩)
      omega
     ·obtain ⟨v,q1,q2,q3,rfl⟩:=(mem X).mp hX
      exact q v q1 q2 q3
  ·(intro _ q_; obtain ⟨g,v5,v6,v7,rfl,hv5,hv6,hv7,ok7,ho⟩ := q_)
   rw[Ij] at ho
   array_get_dec
   rw[Ij]
   refine dI (l:=L) (g:=Bv) rfl (λw=>.int (g w)) (λw hw yes no hy=>?_) ?_
   ·array_get_dec
    refine ⟨_,Th (hM'.mem_iff.mpr hw),?_⟩
    array_get_dec
    exact hy
   ·array_get_dec
    have:=hR g λw hw=>ho w (hM'.mem_iff.mpr hw)
    rw[Bx] at this
    exact this
end
theorem iK:∀{L:List (List Int)},L.Nodup->∀{face:List Int},face.length=L.length->∃f:List Int->Int,face=L.map f
 | [],_,[],_=>⟨λ_=>0,rfl⟩
 | [],_,_::_,h=>by cases h
 | _::_,_,[],h=>by cases h
 | w::L,nd,x::face,h=>by
  obtain ⟨n1,n2⟩:=Bz.mp nd
  obtain ⟨f,e⟩:=iK n2 (face:=face) (by simpa using h)
  refine ⟨gG f w x,?_⟩
  rw[Ar,gC,e]
  congr 1
  refine Fk λu hu=>?_
  rw[Sz (show u≠w from λz=>n1 (by rw[<- z]; exact hu))]
theorem w8{n:Nat}{vs:Int}(h:wM L f vs g)(v0:2<=vs)(hr:∀u∈L,Ks n u)(hl:∀u∈L,u.length<=10):∀(m:Nat) (w:List Int),w∈L->10 - w.length<=m->0<=g w/\g w<=(10 - w.length:Nat):=by
 intro m
 induction m with
 | zero =>
  intro w hw hm
  have hw10:=hl w hw
  refine ⟨(h w hw 0).mpr λv _ _ _=>Zi _,?_⟩
  obtain ⟨v,z1,z2,z3⟩ : ∃v:Int,0<=v/\v<vs/\v≠f w:=by
   by_cases q:f w=0
   ·exact ⟨1,by omega,by omega,by omega⟩
   ·exact ⟨0,by omega,by omega,by omega⟩
  have e:=(h w hw (g w)).mp (Int.le_refl _) v z1 z2 z3
  have : Js L f g w v=0:=by
   unfold Js
   rw[List.filter_eq_nil_iff.mpr]
   ·rfl
   ·intro u hu q
    rw[Gc,decide_eq_true_eq] at q
    have:=gJ (hr w hw) (hr u hu) q.2 (λz=>z3 (by rw[<- q.1,z]))
    have:=hl u hu
    omega
  omega
 | succ m ih =>
  intro w hw hm
  have hw10:=hl w hw
  refine ⟨(h w hw 0).mpr λv _ _ _=>Zi _,?_⟩
  obtain ⟨v,z1,z2,z3⟩ : ∃v:Int,0<=v/\v<vs/\v≠f w:=by
   by_cases q:f w=0
   ·exact ⟨1,by omega,by omega,by omega⟩
   ·exact ⟨0,by omega,by omega,by omega⟩
  have e:=(h w hw (g w)).mp (Int.le_refl _) v z1 z2 z3
  by_cases x0:0<g w
  ·unfold Js at e
   obtain ⟨y,hy,e2⟩:=(Zj x0).mp e
   obtain ⟨u,hu,rfl⟩:=Bs.mp hy
   obtain ⟨u1,u2⟩:=Di.mp hu
   rw[Gc,decide_eq_true_eq] at u2
   have:=gJ (hr w hw) (hr u u1) u2.2 (λz=>z3 (by rw[<- u2.1,z]))
   have u10:=hl u u1
   have:=(ih u u1 (by omega)).2
   omega
  ·omega
def Qi(a b c:List Int):Ad:=.list [.list (a.map An),.list (b.map An),.list (c.map An)]
theorem aY{a:List Int}(h:∀x∈a,-1000000000000000000000000<x/\x<1000000000000000000000000):Mz 30 (.list (a.map An)):=iU λd hd=>by
 obtain ⟨x,hx,rfl⟩:=Bs.mp hd
 refine xC ?_
 have:=h x hx
 have e:(10:Nat) ^ 30=1000000000000000000000000000000:=by decide
 rw[e]
 omega
theorem Us(a:List Int):Jr (.list (a.map An))<=a.length+1:=by
 have:=Xu (m:=1) (xs:=a.map An) λd hd=>by
  obtain ⟨x,hx,rfl⟩:=Bs.mp hd
  simp [Jr]
 rw[Ac] at this
 simp only[Jr]
 omega
theorem Uy(a:List Int):(Gs (a.map An)).depth<=1:=by
 have : Bi (a.map An)=0:=by
  induction a with
  | nil=>simp [Bi]
  | cons x a ih=>simp [Bi,Ct,ih]
 simp only[Ct,this]
 omega
theorem lS(ha:∀x∈a,-1000000000000000000000000<x/\x<1000000000000000000000000)(hb:∀x∈b,-1000000000000000000000000<x/\x<1000000000000000000000000)(hc:∀x∈c,-1000000000000000000000000<x/\x<1000000000000000000000000)(la:a.length<=1024)(lb:b.length<=1024)(lc:c.length<=1024):(∃k,k<=400/\Mz k (Qi a b c)/\(k+12) * Jr (Qi a b c)<=Av)/\(Qi a b c).depth<=90:=by
 refine ⟨⟨30,by decide,iU λd hd=>?_,?_⟩,?_⟩
 ·rcases Aj.mp hd with rfl | hd
  ·exact aY ha
  rcases Aj.mp hd with rfl | hd
  ·exact aY hb
  rw[Ag.mp hd]
  exact aY hc
 ·have h1:=Us a
  have h2:=Us b
  have h3:=Us c
  have : Jr (Qi a b c)=Jr (.list (a.map An))+(Jr (.list (b.map An))+(Jr (.list (c.map An))+0))+1:=by simp only[Qi,Jr,Kc]
  rw[this,Ie]
  omega
 ·have h1:=Uy a
  have h2:=Uy b
  have h3:=Uy c
  simp only[Qi,Ct,Bi] at h1 h2 h3 ⊢
  omega
theorem Mt{l:List DV}(h:l.length=n+1):∃v m,l=v::m/\m.length=n:=by
 cases l with
 | nil=>cases h
 | cons v m=>exact ⟨v,m,rfl,by simpa using h⟩
theorem U0{l:List DV}(h:l.length=16):∃v1 v2 v3 v4 v5 v6 v7 v8 v9 v10 v11 v12 v13 v14 v15 v16,l=[v1,v2,v3,v4,v5,v6,v7,v8,v9,v10,v11,v12,v13,v14,v15,v16]:=by
 obtain ⟨v1,l1,e1,h1⟩:=Mt h
 obtain ⟨v2,l2,e2,h2⟩:=Mt h1
 obtain ⟨v3,l3,e3,h3⟩:=Mt h2
 obtain ⟨v4,l4,e4,h4⟩:=Mt h3
 obtain ⟨v5,l5,e5,h5⟩:=Mt h4
 obtain ⟨v6,l6,e6,h6⟩:=Mt h5
 obtain ⟨v7,l7,e7,h7⟩:=Mt h6
 obtain ⟨v8,l8,e8,h8⟩:=Mt h7
 obtain ⟨v9,l9,e9,h9⟩:=Mt h8
 obtain ⟨v10,l10,e10,h10⟩:=Mt h9
 obtain ⟨v11,l11,e11,h11⟩:=Mt h10
 obtain ⟨v12,l12,e12,h12⟩:=Mt h11
 obtain ⟨v13,l13,e13,h13⟩:=Mt h12
 obtain ⟨v14,l14,e14,h14⟩:=Mt h13
 obtain ⟨v15,l15,e15,h15⟩:=Mt h14
 obtain ⟨v16,l16,e16,h16⟩:=Mt h15
 have e0:=Re.mp h16
 subst e0 e16 e15 e14 e13 e12 e11 e10 e9 e8 e7 e6 e5 e4 e3 e2 e1
 exact ⟨v1,v2,v3,v4,v5,v6,v7,v8,v9,v10,v11,v12,v13,v14,v15,v16,rfl⟩
section
variable{P:Bo}{w:World}{K:PySem.W.Frag}{mg:Str->Option Value}{base:Heap}
theorem W8:FnScope ["_law_script", "_law_cell", "_law_draws_here", "_law_holes_here", "_law_words_here", "_law_values_here", "_law_at", "_law_word", "_law_row", "_law_way", "_law_seed", "_law_face", "_law_numbers", "_law_handed", "_law_kept", "_law_turn", "_law_told"] ["_law_script"] (Bu Vv):=⟨rfl,rfl,rfl,by decide +kernel,rfl,by decide +kernel,by decide +kernel⟩
theorem X1(F:Fun K "law" "law" Vv f fd)(G_written:FnOk P w K mg base Ib 4 f_written d_written ["holes", "reading", "numbers", "word", "row"] (Vg K (eG)))(b_written:Binds K d_written ["holes", "reading", "numbers", "word", "row"] [])(k_written:PySem.W.keepIn K (.ref f_written)=true)(m_written:mg "written" = some (.ref f_written))(G_L_draws:FnOk P w K mg base Ib 1 f_L_draws d_L_draws ["_law_cell"] (Wp))(b_L_draws:Binds K d_L_draws ["_law_cell"] [])(k_L_draws:PySem.W.keepIn K (.ref f_L_draws)=true)(m_L_draws:mg "_law_draws" = some (.ref f_L_draws))(G_L_next:FnOk P w K mg base Ib 1 f_L_next d_L_next ["_law_draws_here"] (jD K Zv))(b_L_next:Binds K d_L_next ["_law_draws_here"] [])(k_L_next:PySem.W.keepIn K (.ref f_L_next)=true)(m_L_next:mg "_law_next" = some (.ref f_L_next))(G_L_words:FnOk P w K mg base Ib 1 f_L_words d_L_words ["_law_holes_here"] (Vg K Vp))(b_L_words:Binds K d_L_words ["_law_holes_here"] [])(k_L_words:PySem.W.keepIn K (.ref f_L_words)=true)(m_L_words:mg "_law_words" = some (.ref f_L_words))(G_L_holes:FnOk P w K mg base Ib 2 f_L_holes d_L_holes ["_law_draws_here"] (jD K (pU)))(b_L_holes:Binds K d_L_holes ["_law_draws_here"] [])(k_L_holes:PySem.W.keepIn K (.ref f_L_holes)=true)(m_L_holes:mg "_law_holes" = some (.ref f_L_holes))(G_L_reading:FnOk P w K mg base Ib 2 f_L_reading d_L_reading ["_law_draws_here", "_law_words_here", "_law_values_here"] (jD K (Zo)))(b_L_reading:Binds K d_L_reading ["_law_draws_here", "_law_words_here", "_law_values_here"] [])(k_L_reading:PySem.W.keepIn K (.ref f_L_reading)=true)(m_L_reading:mg "_law_reading" = some (.ref f_L_reading))(G_L_values:FnOk P w K mg base Ib 2 f_L_values d_L_values ["_law_draws_here"] (jD K (jZ)))(b_L_values:Binds K d_L_values ["_law_draws_here"] [])(k_L_values:PySem.W.keepIn K (.ref f_L_values)=true)(m_L_values:mg "_law_values" = some (.ref f_L_values))(G_L_often:FnOk P w K mg base Ib 2 f_L_often d_L_often ["_law_words_here", "_law_face", "_law_values_here"] (Vg K (pW)))(b_L_often:Binds K d_L_often ["_law_words_here", "_law_face", "_law_values_here"] [])(k_L_often:PySem.W.keepIn K (.ref f_L_often)=true)(m_L_often:mg "_law_often" = some (.ref f_L_often))(G_L_right:FnOk P w K mg base Ib 3 f_L_right d_L_right ["_law_words_here", "_law_face", "_law_numbers", "_law_word", "_law_row", "_law_told"] (Vg K (qS)))(b_L_right:Binds K d_L_right ["_law_words_here", "_law_face", "_law_numbers", "_law_word", "_law_row", "_law_told"] [])(k_L_right:PySem.W.keepIn K (.ref f_L_right)=true)(m_L_right:mg "_law_right" = some (.ref f_L_right))(mz_len:mg "len" = none)(mz_int:mg "int" = none)(mz_range:mg "range" = none)(mz_list:mg "list" = none)(mz_str:mg "str" = none):FnOk P w K mg base Ib 5 f fd ["_law_script"] (spLawD K):=by
 refine' R0 (k:=4) F W8 (λcdv A outer s H E hr=>?hb) ?h
 case hb =>
  have hr1:Room 1 _:=hr.mono (by decide)
  have hr2:Room 2 _:=hr.mono (by decide)
  have hr3:Room 3 _:=hr.mono (by decide)
  have hr4:Room 4 _:=hr.mono (by decide)
  have hu64:=hr.units
  have hrx:Room 4 (Mh Ib P w K mg base ["_law_script", "_law_cell", "_law_draws_here", "_law_holes_here", "_law_words_here", "_law_values_here", "_law_at", "_law_word", "_law_row", "_law_way", "_law_seed", "_law_face", "_law_numbers", "_law_handed", "_law_kept", "_law_turn", "_law_told"] "law" (Bu Vv) f cdv A outer s H E).nox.A:=hr
  have hu100:(Mh Ib P w K mg base ["_law_script", "_law_cell", "_law_draws_here", "_law_holes_here", "_law_words_here", "_law_values_here", "_law_at", "_law_word", "_law_row", "_law_way", "_law_seed", "_law_face", "_law_numbers", "_law_handed", "_law_kept", "_law_turn", "_law_told"] "law" (Bu Vv) f cdv A outer s H E).nox.A.units+100<cLine:=by have:=hrx.un; omega
  have CS1:∀{scope:Scope} (h:scope={ kind:=.function,names:=[(".0",.local),("_law_k",.local),("_law_next",.globalImplicit),("int",.globalImplicit),("_law_draws_here",.free),("_law_values_here",.free)],isGenerator:=false,isCoroutine:=false }),
    CompScope (Mh Ib P w K mg base ["_law_script", "_law_cell", "_law_draws_here", "_law_holes_here", "_law_words_here", "_law_values_here", "_law_at", "_law_word", "_law_row", "_law_way", "_law_seed", "_law_face", "_law_numbers", "_law_handed", "_law_kept", "_law_turn", "_law_told"] "law" (Bu Vv) f cdv A outer s H E).nox scope [("_law_values_here",s.heap.objs.size+3),("_law_draws_here",s.heap.objs.size+1)] "_law_k" ["_law_draws_here", "_law_values_here"] [2,5]:=by
   rintro scope rfl
   refine ⟨by rfl,.inl (by decide +kernel),by rfl,by decide +kernel,.inl rfl,λy c h=>?_,by rfl,by decide +kernel,rfl,λk y j e1 e2=>?_⟩
   ·have z:=El h
    simp only[Aj,Ax,or_false,Fc] at z
    rcases z with ⟨rfl,rfl⟩ | ⟨rfl,rfl⟩ <;> rfl
   ·match k,e1,e2 with
    | 0,e1,e2=>cases e1; cases e2; exact ⟨rfl,rfl,by first | exact .inl rfl | exact .inr rfl⟩
    | 1,e1,e2=>cases e1; cases e2; exact ⟨rfl,rfl,by first | exact .inl rfl | exact .inr rfl⟩
    | k+2,e1,e2=>cases e1
  have CS2:∀{scope:Scope} (h:scope={ kind:=.function,names:=[(".0",.local),("_law_other",.local),("len",.globalImplicit),("_law_holes_here",.free)],isGenerator:=false,isCoroutine:=false }),
    CompScope (Mh Ib P w K mg base ["_law_script", "_law_cell", "_law_draws_here", "_law_holes_here", "_law_words_here", "_law_values_here", "_law_at", "_law_word", "_law_row", "_law_way", "_law_seed", "_law_face", "_law_numbers", "_law_handed", "_law_kept", "_law_turn", "_law_told"] "law" (Bu Vv) f cdv A outer s H E).nox scope [("_law_holes_here",s.heap.objs.size+2)] "_law_other" ["_law_holes_here"] [3]:=by
   rintro scope rfl
   refine ⟨by rfl,.inl (by decide +kernel),by rfl,by decide +kernel,.inl rfl,λy c h=>?_,by rfl,by decide +kernel,rfl,λk y j e1 e2=>?_⟩
   ·have z:=El h
    simp only[Aj,Ax,or_false,Fc] at z
    obtain ⟨rfl,rfl⟩:=z; rfl
   ·match k,e1,e2 with
    | 0,e1,e2=>cases e1; cases e2; exact ⟨rfl,rfl,by first | exact .inl rfl | exact .inr rfl⟩
    | k+1,e1,e2=>cases e1
  have CS3:∀{scope:Scope} (h:scope={ kind:=.function,names:=[(".0",.local),("_law_k",.local),("_law_seed",.free)],isGenerator:=false,isCoroutine:=false }),
    CompScope (Mh Ib P w K mg base ["_law_script", "_law_cell", "_law_draws_here", "_law_holes_here", "_law_words_here", "_law_values_here", "_law_at", "_law_word", "_law_row", "_law_way", "_law_seed", "_law_face", "_law_numbers", "_law_handed", "_law_kept", "_law_turn", "_law_told"] "law" (Bu Vv) f cdv A outer s H E).nox scope [("_law_seed",s.heap.objs.size+4)] "_law_k" ["_law_seed"] [10]:=by
   rintro scope rfl
   refine ⟨by rfl,.inl (by decide +kernel),by rfl,by decide +kernel,.inl rfl,λy c h=>?_,by rfl,by decide +kernel,rfl,λk y j e1 e2=>?_⟩
   ·have z:=El h
    simp only[Aj,Ax,or_false,Fc] at z
    obtain ⟨rfl,rfl⟩:=z; rfl
   ·match k,e1,e2 with
    | 0,e1,e2=>cases e1; cases e2; exact ⟨rfl,rfl,by first | exact .inl rfl | exact .inr rfl⟩
    | k+1,e1,e2=>cases e1
  exact Ck (Ur Fe rfl (E5 (lT (vR (pv 0) xS (zQ Da)) (Kx (Ay Da Bn)))) (Na (i:=1) W8.nd rfl (Dr rfl))
   (Ck (Ga (i:=2) W8.nd rfl (Li rfl) (xP G_L_draws hr1 rfl m_L_draws k_L_draws b_L_draws Ht (Ay (Aw (pv 1)) Bn)))
    (Ck (Ga (i:=3) W8.nd rfl (Li rfl) (Hj G_L_holes hr2 rfl m_L_holes k_L_holes b_L_holes Ht (pv 2) Bn))
    (Ck (Ga (i:=4) W8.nd rfl (Dr rfl) (Jo G_L_words hr1 rfl m_L_words k_L_words b_L_words Ht (Ay (Aw (pv 3)) Bn)))
    (Ck (Ga (i:=5) W8.nd rfl (Li rfl) (Hj G_L_values hr2 rfl m_L_values k_L_values b_L_values Ht (pv 2) Bn))
    (Ck (Ga (i:=6) W8.nd rfl (Dr rfl) (Gm (Hj G_L_next hr1 rfl m_L_next k_L_next b_L_next Ht (pv 2) Bn) (Ej Hz Lu rfl mz_len (by decide +kernel) (Ay (Aw (pv 4)) Bn))))
    (Ck (Ga (i:=7) W8.nd rfl (Dr rfl) (Fh (Aw (pv 4)) (nJ (Aw (pv 6)) (Iq Px aR rfl mz_int (by decide +kernel) (Ay (Vo hu64 (Gm (Hj G_L_next hr1 rfl m_L_next k_L_next b_L_next Ht (pv 2) Bn) Da) Da) Bn)))))
    (Ck (vT (o:=false) (i0:=8) W8.nd rfl rfl (js1:=[]) (j0:=2) (js2:=[5]) (CS1 rfl) rfl (Tg rfl mz_range (Ay (Gm (Hj G_L_next hr1 rfl m_L_next k_L_next b_L_next Ht (pv 2) Bn) Da) Bn)) (λ_ _ _=>Nv) (λ_ _ _=>Gm (Hj G_L_next hr1 rfl m_L_next k_L_next b_L_next Ht (pv 1) Bn) (Ph (Aw (pv 2)) (Iq Px aR rfl mz_int (by decide +kernel) (Ay (Vo hu64 (Gm (Hj G_L_next hr1 rfl m_L_next k_L_next b_L_next Ht (pv 1) Bn) Da) Da) Bn)))))
    (Ck (Ga (i:=9) W8.nd rfl (Dr rfl) (Gm (Hj G_L_next hr1 rfl m_L_next k_L_next b_L_next Ht (pv 2) Bn) Da))
    (Ck (Ga (i:=10) W8.nd rfl (Li rfl) (Hj G_L_next hr1 rfl m_L_next k_L_next b_L_next Ht (pv 2) Bn))
    (Ck (Ga (i:=11) W8.nd rfl (Dr rfl) (Hj G_L_reading hr2 rfl m_L_reading k_L_reading b_L_reading Ht (pv 2) (Ay (Aw (pv 4)) (Ay (Aw (pv 5)) Bn))))
    (Ck (Qk (i:=12) W8.nd rfl (Dr rfl) (Kx (Ay (Jo G_L_often hr2 rfl m_L_often k_L_often b_L_often Ht (Ay (Aw (pv 4)) (Ay (Aw (pv 11)) (Ay (Aw (pv 5)) Bn)))) (Ay (Ov (CS2 rfl) rfl (E5 (Aw (pv 4))) (λ_ _ _=>Nv) (λ_ _ _=>yU (Aw (pv 1)) (Ej Hz Lu rfl mz_len (by decide +kernel) (Ay (Aw (pv 0)) Bn)))) Bn))))
    (Ck (nO (pv 12) (Ov (CS3 rfl) rfl (Tg rfl mz_range (Ay (Ej Hz Lu rfl mz_len (by decide +kernel) (Ay (Aw (pv 4)) Bn)) Bn)) (λ_ _ _=>Nv) (λ_ _ _=>Gm (Ph (aI (Aw (pv 1)) (Ph Da (Gm (Aw (pv 0)) Da))) (nJ (Aw (pv 0)) (Aw (pv 0)))) Da)))
    (Ck (Ga (i:=13) W8.nd rfl (Dr rfl) (Kx (Ay (Iq gN (gR (i:=true)) rfl mz_list (by decide +kernel) (Ay (Aw (pv 11)) Bn)) (Ay (Iq gN (gR (i:=true)) rfl mz_list (by decide +kernel) (Ay (Fh (Aw (pv 12)) (Aw (pv 9))) Bn)) (Ay (Iq gN (gR (i:=true)) rfl mz_list (by decide +kernel) (Ay (Aw (pv 8)) Bn)) Bn)))))
    (Ck (Ga (i:=14) W8.nd rfl (Dr rfl) (Iq (dM hr.gd hu100) wJ rfl mz_str (by decide +kernel) (Ay (Aw (pv 13)) Bn)))
    (Es (Ur Fe rfl (Tg rfl mz_range (Ay Da Bn)) (Na (i:=15) W8.nd rfl (Dr rfl))
    (Ck (Qk (i:=16) W8.nd rfl (Dr rfl) (Jo G_written hr4 rfl m_written k_written b_written Ht (Ay (Aw (pv 3)) (Ay (Fh (Aw (pv 13)) Da) (Ay (Fh (Aw (pv 13)) Da) (Ay (Aw (pv 7)) (Ay (Fh (Aw (pv 13)) Da) Bn)))))))
     (Ck (Sd (qH hu64 (Iq (dM hr.gd hu100) wJ rfl mz_str (by decide +kernel) (Ay (Aw (pv 13)) Bn)) (Aw (pv 14)))
     (Es (Gu Xw)) Nw)
     (Ck (Sd (aH (Qf (Jo G_L_right hr3 rfl m_L_right k_L_right b_L_right Ht (Ay (Aw (pv 4)) (Ay (Aw (pv 11)) (Ay (Fh (Aw (pv 12)) (Aw (pv 9))) (Ay (Aw (pv 7)) (Ay (Aw (pv 8)) (Ay (Aw (pv 16)) Bn)))))))))
     (Es (Gu Xw)) Nw)
     (Es (C6 (k:=1) (pv 16) vE (λ_=>.non)))))))))))))))))))))))
   (Es (Gu Xw))
 case h =>
  intro ns h63
  array_get_dec
  have lc:(Yn ns none (some 4)).length<=4:=BC 4
  refine ⟨by rw[Ac]; omega,?_⟩
  refine mM (l:=Yn ns none (some 4)++[0]) (g:=An) (by rw[Bh]; rfl) (λi δ=>∃(l:List DV) (n':Nat),δ=⟨.scr ns::l,n'⟩/\l.length=16/\(∀v∈l,NP v)/\n'<=2500 * i) ?_ ?_ ?_
  ·exact ⟨_,_,rfl,rfl,by simp [Si],by omega⟩
  ·(intro i c _ hc q_; obtain ⟨l,n0,rfl,hl,hv,hn⟩ := q_)
   have hi:i<5:=by
    have:=(Ah.mp hc).1
    rw[Bw,Mn] at this
    omega
   obtain ⟨v1,v2,v3,v4,v5,v6,v7,v8,v9,v10,v11,v12,v13,v14,v15,v16,rfl⟩:=U0 hl
   simp only[List.forall_mem_cons] at hv
   obtain ⟨hv1,hv2,hv3,hv4,hv5,hv6,hv7,hv8,hv9,hv10,hv11,hv12,hv13,hv14,hv15,hv16,-⟩:=hv
   array_get_dec
   refine ⟨rfl,by omega,λh h0 h1=>?_⟩
   array_get_dec
   refine ⟨h,rfl,by omega,by omega,λL hp ho=>?_⟩
   have lL:L.length=2 ^ h.toNat:=by rw[hp.length_eq,Uu]
   obtain ⟨l1,l2⟩:=Te (n:=h.toNat) (by omega) hp
   have nd:=Sf hp
   have lp:0<L.length:=by rw[lL]; exact Nat.two_pow_pos _
   array_get_dec
   refine ⟨rfl,by omega,λvs w0 w1=>?_⟩
   array_get_dec
   refine ⟨rfl,by omega,λr1=>?_⟩
   array_get_dec
   refine ⟨by rw[Ac]; omega,rfl,by omega,λr2=>?_⟩
   array_get_dec
   rw[show (L.map Bv).length=L.length from Ac ..]
   have b1:=Jx r1 (b:=(L.length:Int)) (by omega)
   obtain ⟨z01,ez01⟩ : ∃z,(if decide (r2 % 3=0)=true then (1:Int) else 0)=z:=⟨_,rfl⟩
   have hz01:z01=0\/z01=1:=by
    rw[<- ez01]
    by_cases q:decide (r2 % 3=0)=true
    ·rw[if_pos q]; exact .inr rfl
    ·rw[if_neg q]; exact .inl rfl
   rw[ez01]
   obtain ⟨j,hj,jl⟩ : ∃j:Nat,r1 % (L.length:Int) * z01=(j:Int)/\j<L.length:=by
    rcases hz01 with rfl | rfl
    ·exact ⟨0,by simp,lp⟩
    ·exact ⟨(r1 % (L.length:Int)).toNat,by omega,by omega⟩
   obtain ⟨w,hw⟩ : ∃w,L[j]? = some w:=⟨_,Ap jl⟩
   refine ⟨.inr (by rcases hz01 with rfl | rfl <;> decide),Bv w,by rw[hj]; exact Sj (by rw[Az,hw]; rfl),rfl,by omega,λr3=>?_⟩
   have b3:=Jx r3 (b:=13) (by decide)
   array_get_dec
   refine ⟨by omega,by omega,?_⟩
   refine G3 (l:=Dk (r3 % 13).toNat) (g:=λi:Nat=>.int i) rfl rfl (λj acc m=>(∃zs:List Int,acc=zs.map An/\zs.length=j/\∀x∈zs,0<=x/\x<20)/\m=n0+5+2 * j) ⟨⟨[],rfl,rfl,λ_ z=>(nomatch z)⟩,(by show n0+1+1+1+1+1=n0+5+2 * 0; omega)⟩ (λj a acc m ha ⟨⟨zs,q1,q3,q4⟩,q2⟩=>?_) (λacc m ⟨⟨row,q1,q3,q4⟩,q2⟩=>?_)
   ·obtain ⟨rfl,hj⟩:=vD ha
    array_get_dec
    refine ⟨rfl,by omega,λr4=>?_⟩
    array_get_dec
    refine ⟨rfl,by omega,λr5=>?_⟩
    array_get_dec
    have pz:0<(vs+if decide (r5 % 9=0)=true then 1 else 0)/\(vs+if decide (r5 % 9=0)=true then 1 else 0)<=17:=by
     by_cases q:decide (r5 % 9=0)=true
     ·rw[if_pos q]; omega
     ·rw[if_neg q]; omega
    generalize (vs+if decide (r5 % 9=0)=true then 1 else 0)=vz at pz
    have b4:=Jx r4 pz.1
    refine ⟨pz.1,⟨zs++[r4 % vz],by rw[q1,Bh]; rfl,by rw[Bw,q3]; rfl,λx hx=>?_⟩,by omega⟩
    rcases Bg.mp hx with hx | hx
    ·exact q4 x hx
    ·rw[Ag.mp hx]; omega
   subst q1
   rw[Lz] at q2 q3
   array_get_dec
   refine ⟨rfl,by omega,λr6=>?_⟩
   have b6:=Jx r6 (b:=3) (by decide)
   array_get_dec
   refine ⟨rfl,by omega,λr7=>?_⟩
   array_get_dec
   refine ⟨L,vs,rfl,by omega,by omega,l1,λw hw=>(l2 w hw).2,by omega,λface lf nf=>?_⟩
   array_get_dec
   obtain ⟨f,rfl⟩:=iK nd lf
   refine ⟨h,L,f,vs,rfl,by omega,by omega,hp,w0,w1,λg hg=>?_⟩
   array_get_dec
   refine dI (l:=L) (g:=Bv) rfl (λc=>.int (h - c.length)) (λc hc yes no hy=>?_) ?_
   ·array_get_dec
    rw[Ac]
    exact hy
   array_get_dec
   rw[show (L.map Bv).length=L.length from Ac ..]
   refine ⟨by omega,by omega,?_⟩
   rw[Et]
   refine dI (l:=Dk L.length) (g:=λi:Nat=>.int i) rfl (λk=>.int ((r7 / (1+(k:Int) % 30)+(k:Int) * k) % 4)) (λk hk yes no hy=>?_) ?_
   ·have hk:=List.mem_range.mp hk
    have bk:=Jx (k:Int) (b:=30) (by decide)
    array_get_dec
    exact ⟨⟨by omega,by omega⟩,.inl ⟨by omega,by omega⟩,hy⟩
   array_get_dec
   have gb:=λw hw=>w8 hg w0 (λu hu=>(l2 u hu).1) (λu hu=>(l2 u hu).2) 10 w hw (by omega)
   obtain ⟨nums,hnum,lnum,bnum⟩ : ∃nums:List Int,Uv [Gs ((L.map g).map An),Gs (L.map λc=>An (h - c.length)),Gs ((Dk L.length).map λk:Nat=>An ((r7 / (1+(k:Int) % 30)+(k:Int) * k) % 4))] (r6 % 3)=some (Gs (nums.map An))/\nums.length=L.length/\∀x∈nums,-100<x/\x<100:=by
    rcases (by omega:r6 % 3=0\/r6 % 3=1\/r6 % 3=2) with q | q | q
    ·rw[q]
     refine ⟨L.map g,rfl,Ac ..,λx hx=>?_⟩
     obtain ⟨w,hw,rfl⟩:=Bs.mp hx
     have:=gb w hw
     omega
    ·rw[q]
     refine ⟨L.map λc=>h - c.length,by show some (Gs (L.map λc=>An (h - c.length)))=some (Gs ((L.map λc=>h - c.length).map An)); rw[Bx]; rfl,Ac ..,λx hx=>?_⟩
     obtain ⟨w,hw,rfl⟩:=Bs.mp hx
     have:=(l2 w hw).2
     omega
    ·rw[q]
     refine ⟨(Dk L.length).map λk:Nat=>(r7 / (1+(k:Int) % 30)+(k:Int) * k) % 4,by show some (Gs ((Dk L.length).map λk:Nat=>An ((r7 / (1+(k:Int) % 30)+(k:Int) * k) % 4)))=some (Gs (((Dk L.length).map λk:Nat=>(r7 / (1+(k:Int) % 30)+(k:Int) * k) % 4).map An)); rw[Bx]; rfl,by rw[Ac,Lz],λx hx=>?_⟩
     obtain ⟨k,hk,rfl⟩:=Bs.mp hx
     have:=Jx (r7 / (1+(k:Int) % 30)+(k:Int) * k) (b:=4) (by decide)
     omega
   refine ⟨by simp [npk,hv13 _,hv14 _,hv15 _,hv16 _],_,hnum,?_⟩
   array_get_dec
   obtain ⟨N12,hN12⟩ : ∃N,[Gs ((L.map g).map An),Gs (L.map λc=>An (h - c.length)),Gs ((Dk L.length).map λk:Nat=>An ((r7 / (1+(k:Int) % 30)+(k:Int) * k) % 4))]=N:=⟨_,rfl⟩
   rw[hN12] at hnum ⊢
   obtain ⟨t1,t2⟩:=lS (a:=L.map f) (b:=nums) (c:=row) (λx hx=>by have:=nf x hx; omega) (λx hx=>by have:=bnum x hx; omega) (λx hx=>by have:=q4 x hx; omega) (by rw[Ac]; omega) (by omega) (by omega)
   refine ⟨t1,t2,?_⟩
   refine mM (l:=Dk 3) (g:=λi:Nat=>.int i) rfl (λj9 δ=>∃(v15 v16:DV),δ=⟨[.scr ns,.dat .sh (.int c),.drw,.dat .sh (.int h),.dat .sh (.list (L.map Bv)),.dat .sh (.int vs),.dat .sh (.int (r1 % (L.length:Int))),.dat .sh (Bv w),.dat .sh (.list (row.map An)),.dat .sh (.int (r6 % 3)),.dat .sh (.int r7),.dat .sh (.list ((L.map f).map An)),.dat .ow (.list N12),.dat .sh (Qi (L.map f) nums row),.dat .sh (.str (fI (Qi (L.map f) nums row))),v15,v16],m+1+1+1+L.length⟩/\NP v15/\NP v16) ?_ ?_ ?_
   ·exact ⟨_,_,rfl,hv15,hv16⟩
   ·clear hv15 hv16
    (intro j9 t9 _ ht9 q_; obtain ⟨v15,v16,rfl,hv15,hv16⟩ := q_)
    unfold Qi
    array_get_dec
    refine ⟨h,L,L.map f,nums,w,j,row,rfl,by omega,by omega,hp,ho,by rw[Ac],lnum.symm,hw,by omega,λms b hW=>?_⟩
    have w1':=(wD hW).1
    refine ⟨t1,t2,_,hnum,L,L.map f,nums,w,j,row,ms,b,rfl,⟨nd,by rw[Ac],lnum.symm,l1,λw hw=>(l2 w hw).2⟩,hw,by omega,hW,?_⟩
    unfold EA
    array_get_dec
    exact ⟨by rw[Ac,Ac]; omega,_,_,rfl,Je,vZ⟩
   ·(intro _ q_; obtain ⟨v15,v16,rfl,hv15,hv16⟩ := q_)
    refine ⟨_,_,rfl,rfl,?_,by omega⟩
    simp only[List.forall_mem_cons]
    exact ⟨Je,Q2,Je,Je,Je,Je,Je,Je,Je,Je,Je,vZ,Je,Je,hv15,hv16,λ_ z=>(nomatch z)⟩
  ·(intro _ q_; obtain ⟨l,n',rfl,hl,hv,hn⟩ := q_)
   array_get_dec
end
structure Def(K:PySem.W.Frag)(x:Str)(st:Stmt)(f:Addr)(fd:Ci):Prop where
 nm:PySem.W.nsIn K Cd x=some (some (.ref f))
 fn:Fun K x x st f fd
theorem def_mk{K:PySem.W.Frag}{oc kV dc pm cd ct:Value}(a:PySem.W.nsIn K Cd x=some (some (.ref f)))(l:K.lookup f=some ⟨oc,od,.func (PySem.W.fnOf x x (Oq st) (Iw st) (Bu st) .none kV dc pm an cd ct),sl⟩)(c:PySem.W.codeIn K cd x=true)(k:PySem.W.keepIn K (.ref f)=true):Def K x st f (PySem.W.fnOf x x (Oq st) (Iw st) (Bu st) .none kV dc pm an cd ct):=⟨a,xW l c k⟩
theorem GS{P:List Value->Prop}(h:P []):∀us:List Value,us.length=0->P us
 | [],_=>h
theorem Z0{P:List Value->Prop}(h:∀a (us:List Value),us.length=n->P (a::us)):∀us:List Value,us.length=n+1->P us
 | a::us,e=>h a us (Nat.succ.inj e)
theorem N7{P:List Value->Prop}(h:∀a0,P [a0]):∀us:List Value,us.length=1->P us:=Z0 λa us e=>GS (P:=λus=>P (a::us)) (h a) us e
theorem FC{P:List Value->Prop}(h:∀a0 a1,P [a0,a1]):∀us:List Value,us.length=2->P us:=Z0 λa us e=>N7 (P:=λus=>P (a::us)) (h a) us e
theorem ES{P:List Value->Prop}(h:∀a0 a1 a2,P [a0,a1,a2]):∀us:List Value,us.length=3->P us:=Z0 λa us e=>FC (P:=λus=>P (a::us)) (h a) us e
theorem GN{P:List Value->Prop}(h:∀a0 a1 a2 a3,P [a0,a1,a2,a3]):∀us:List Value,us.length=4->P us:=Z0 λa us e=>ES (P:=λus=>P (a::us)) (h a) us e
theorem FI{P:List Value->Prop}(h:∀a0 a1 a2 a3 a4,P [a0,a1,a2,a3,a4]):∀us:List Value,us.length=5->P us:=Z0 λa us e=>GN (P:=λus=>P (a::us)) (h a) us e
theorem FZ{P:List Value->Prop}(h:∀a0 a1 a2 a3 a4 a5,P [a0,a1,a2,a3,a4,a5]):∀us:List Value,us.length=6->P us:=Z0 λa us e=>FI (P:=λus=>P (a::us)) (h a) us e
theorem all_mk{l:PySem.W.OpenLaw}{q:Bo}{w:World}{K:PySem.W.Frag}{h:Heap}{mg:Str->Option Value}{fa f1 f2 f3 f4 f5 f6 f7 f8 f9 f10 f11 f12 f13 f14 f15 f16 f17:Addr}{d1 d2 d3 d4 d5 d6 d7 d8 d9 d10 d11 d12 d13 d14 d15 d16:Ci}(X:K.In h)(G:h.Ns Cd mg)(hfa:mg "law" = some (.ref fa)){od an:Option Addr}{sl:Array (Option Value)}{oc kV dc pm cd ct:Value}(D1:Def K "_law_draws" gK f1 d1)(D2:Def K "_law_next" dZ f2 d2)(D3:Def K "all_words" Mi f3 d3)(D4:Def K "_law_words" La f4 d4)(D5:Def K "within" Wl f5 d5)(D6:Def K "showing" Sw f6 d6)(D7:Def K "_law_lies" Os f7 d7)(D8:Def K "_law_folded" Pg f8 d8)(D9:Def K "_law_holes" Qd f9 d9)(D10:Def K "_law_values" Pf f10 d10)(D11:Def K "_law_reading" Nn f11 d11)(D12:Def K "cut_by" Zu f12 d12)(D13:Def K "written" Xb f13 d13)(D14:Def K "_law_step_right" Ez f14 d14)(D15:Def K "_law_right" Nb f15 d15)(D16:Def K "_law_often" Kw f16 d16)(aL:PySem.W.nsIn K Cd "law" = some (some (.ref f17)))(lL:K.lookup f17=some ⟨oc,od,.func (PySem.W.fnOf "law" "law" (Oq Vv) (Iw Vv) (Bu Vv) .none kV dc pm an cd ct),sl⟩)(cL:PySem.W.codeIn K cd "law" = true)(kL:PySem.W.keepIn K (.ref f17)=true)(z1:PySem.W.nsIn K Cd "range" = some none)(z2:PySem.W.nsIn K Cd "sorted" = some none)(z3:PySem.W.nsIn K Cd "all" = some none)(z4:PySem.W.nsIn K Cd "enumerate" = some none)(z5:PySem.W.nsIn K Cd "max" = some none)(z6:PySem.W.nsIn K Cd "int" = some none)(z7:PySem.W.nsIn K Cd "len" = some none)(z8:PySem.W.nsIn K Cd "sum" = some none)(z9:PySem.W.nsIn K Cd "min" = some none)(z10:PySem.W.nsIn K Cd "list" = some none)(z11:PySem.W.nsIn K Cd "isinstance" = some none)(z12:PySem.W.nsIn K Cd "tuple" = some none)(z13:PySem.W.nsIn K Cd "zip" = some none)(z14:PySem.W.nsIn K Cd "dict" = some none)(z15:PySem.W.nsIn K Cd "str" = some none)(tz_often:PySem.W.nsIn K Cd "often" = some none)(tc12:d12.code=.ref e12)(tk12:K.lookup e12=some ⟨o12,u12,.fields x12,w12⟩)(tv12:x12[11]? = some (.ref p12))(td12:(PyProof.Rows.recsOf q).find? (λe=>e.name == ("cut_by" : Str))=some r12)(tl12:K.lookup p12=none):eT q K/\∃fd:Ci,(∀(s:Ai) (v:Value),BindsTo s fd ⟨[v],[]⟩ [("_law_script",v)])/\∀base:Heap,K.In base->base.Ns Cd mg->FnOk l.prog w K mg base Ib 5 fa fd ["_law_script"] (DL.spLawD K):=by
 have e:=hfa.symm.trans (PySem.W.mg_of X G aL)
 cases e
 have FL:=xW (st:=Vv) lL cL kL
 have b1:=D1.fn.binds (ps:=["_law_cell"]) λ_ _ _ _ _ _=>N7 (λ_=>rfl)
 have b2:=D2.fn.binds (ps:=["_law_draws_here"]) λ_ _ _ _ _ _=>N7 (λ_=>rfl)
 have b3:=D3.fn.binds (ps:=["holes"]) λ_ _ _ _ _ _=>N7 (λ_=>rfl)
 have b4:=D4.fn.binds (ps:=["_law_holes_here"]) λ_ _ _ _ _ _=>N7 (λ_=>rfl)
 have b5:=D5.fn.binds (ps:=["one", "other"]) λ_ _ _ _ _ _=>FC (λ_ _=>rfl)
 have b6:=D6.fn.binds (ps:=["words", "reading", "word", "value"]) λ_ _ _ _ _ _=>GN (λ_ _ _ _=>rfl)
 have b7:=D7.fn.binds (ps:=["_law_one", "_law_other"]) λ_ _ _ _ _ _=>FC (λ_ _=>rfl)
 have b8:=D8.fn.binds (ps:=["_law_word"]) λ_ _ _ _ _ _=>N7 (λ_=>rfl)
 have b9:=D9.fn.binds (ps:=["_law_draws_here"]) λ_ _ _ _ _ _=>N7 (λ_=>rfl)
 have b10:=D10.fn.binds (ps:=["_law_draws_here"]) λ_ _ _ _ _ _=>N7 (λ_=>rfl)
 have b11:=D11.fn.binds (ps:=["_law_draws_here", "_law_words_here", "_law_values_here"]) λ_ _ _ _ _ _=>ES (λ_ _ _=>rfl)
 have b12:=D12.fn.binds (ps:=["words", "reading", "numbers", "at", "value"]) λ_ _ _ _ _ _=>FI (λ_ _ _ _ _=>rfl)
 have b13:=D13.fn.binds (ps:=["holes", "reading", "numbers", "word", "row"]) λ_ _ _ _ _ _=>FI (λ_ _ _ _ _=>rfl)
 have b14:=D14.fn.binds (ps:=["_law_words_here", "_law_face", "_law_numbers", "_law_word", "_law_value", "_law_new"]) λ_ _ _ _ _ _=>FZ (λ_ _ _ _ _ _=>rfl)
 have b15:=D15.fn.binds (ps:=["_law_words_here", "_law_face", "_law_numbers", "_law_word", "_law_row", "_law_told"]) λ_ _ _ _ _ _=>FZ (λ_ _ _ _ _ _=>rfl)
 have b16:=D16.fn.binds (ps:=["_law_words_here", "_law_face", "_law_values_here"]) λ_ _ _ _ _ _=>ES (λ_ _ _=>rfl)
 have m1:=PySem.W.mg_of X G D1.nm
 have m2:=PySem.W.mg_of X G D2.nm
 have m3:=PySem.W.mg_of X G D3.nm
 have m4:=PySem.W.mg_of X G D4.nm
 have m5:=PySem.W.mg_of X G D5.nm
 have m6:=PySem.W.mg_of X G D6.nm
 have m7:=PySem.W.mg_of X G D7.nm
 have m8:=PySem.W.mg_of X G D8.nm
 have m9:=PySem.W.mg_of X G D9.nm
 have m10:=PySem.W.mg_of X G D10.nm
 have m11:=PySem.W.mg_of X G D11.nm
 have m12:=PySem.W.mg_of X G D12.nm
 have m13:=PySem.W.mg_of X G D13.nm
 have m14:=PySem.W.mg_of X G D14.nm
 have m15:=PySem.W.mg_of X G D15.nm
 have m16:=PySem.W.mg_of X G D16.nm
 have y1:=PySem.W.mg_none_of X G z1
 have y2:=PySem.W.mg_none_of X G z2
 have y3:=PySem.W.mg_none_of X G z3
 have y4:=PySem.W.mg_none_of X G z4
 have y5:=PySem.W.mg_none_of X G z5
 have y6:=PySem.W.mg_none_of X G z6
 have y7:=PySem.W.mg_none_of X G z7
 have y8:=PySem.W.mg_none_of X G z8
 have y9:=PySem.W.mg_none_of X G z9
 have y10:=PySem.W.mg_none_of X G z10
 have y11:=PySem.W.mg_none_of X G z11
 have y12:=PySem.W.mg_none_of X G z12
 have y13:=PySem.W.mg_none_of X G z13
 have y14:=PySem.W.mg_none_of X G z14
 have y15:=PySem.W.mg_none_of X G z15
 have tn_often:=DL.tab_no tz_often
 have t12:=DL.tab_mk D12.nm D12.fn tc12 tk12 tv12
 refine ⟨wH tn_often t12 td12 tl12,PySem.W.fnOf "law" "law" (Oq Vv) (Iw Vv) (Bu Vv) .none kV dc pm an cd ct,λs v=>.of_eq rfl,λbase _ _=>?_⟩
 have g1:=rK (P:=l.prog) (w:=w) (mg:=mg) (base:=base) D1.fn
 have g2:=xJ (P:=l.prog) (w:=w) (mg:=mg) (base:=base) D2.fn
 have g3:=gA (P:=l.prog) (w:=w) (mg:=mg) (base:=base) D3.fn y1 y2
 have g4:=cJ (P:=l.prog) (w:=w) (mg:=mg) (base:=base) D4.fn y1 y2
 have g5:=tH (P:=l.prog) (w:=w) (mg:=mg) (base:=base) D5.fn y3
 have g6:=mJ (P:=l.prog) (w:=w) (mg:=mg) (base:=base) D6.fn g5 b5 D5.fn.kp m5 y4
 have g7:=fR (P:=l.prog) (w:=w) (mg:=mg) (base:=base) D7.fn
 have g8:=aJ (P:=l.prog) (w:=w) (mg:=mg) (base:=base) D8.fn
 have g9:=bV (P:=l.prog) (w:=w) (mg:=mg) (base:=base) D9.fn g2 b2 D2.fn.kp m2 y5
 have g10:=aB (P:=l.prog) (w:=w) (mg:=mg) (base:=base) D10.fn g2 b2 D2.fn.kp m2 y6
 have g11:=Yr (P:=l.prog) (w:=w) (mg:=mg) (base:=base) D11.fn (zI (P:=l.prog) (w:=w) (mg:=mg) (base:=base) D2.fn) b2 D2.fn.kp m2 g8 b8 D8.fn.kp m8 y7 y8 y6
 have g12:=tF (P:=l.prog) (w:=w) (mg:=mg) (base:=base) D12.fn g6 b6 D6.fn.kp m6 y5 y7 t12 (DL.code_tab D12.nm D12.fn t12)
 have g13:=mB (P:=l.prog) (w:=w) (mg:=mg) (base:=base) D13.fn g3 b3 D3.fn.kp m3 g12 b12 D12.fn.kp m12
 have g14:=Uo (P:=l.prog) (w:=w) (mg:=mg) (base:=base) D14.fn g7 b7 D7.fn.kp m7 y4 y5 y7 y9
 have g15:=cA (P:=l.prog) (w:=w) (mg:=mg) (base:=base) D15.fn g7 b7 D7.fn.kp m7 g14 b14 D14.fn.kp m14 y7 y10 y11 y12 y6 y13 y4
 have g16:=cH (P:=l.prog) (w:=w) (mg:=mg) (base:=base) D16.fn g7 b7 D7.fn.kp m7 y14 y13 y2 y7 y5 y1 y9
 exact X1 FL g13 b13 D13.fn.kp m13 g1 b1 D1.fn.kp m1 g2 b2 D2.fn.kp m2 g4 b4 D4.fn.kp m4 g9 b9 D9.fn.kp m9 g11 b11 D11.fn.kp m11 g10 b10 D10.fn.kp m10 g16 b16 D16.fn.kp m16 g15 b15 D15.fn.kp m15 y7 y6 y1 y10 y15
theorem walk{l:PySem.W.OpenLaw}{K:Params->PySem.W.Frag}(hn:l.most=some 63)(hdf:d.params.defaults=[])(hY:∀(w:World) (h:Heap),YP w h->(K w.params).In h)(F:∀(w:World) (mg:Str->Option Value) (fa:Addr) (h:Heap),(K w.params).In h->h.Ns Cd mg->mg d.name=some (.ref fa)->eT q (K w.params)/\∃fd:Ci,(∀(s:Ai) (u:Value),BindsTo s fd ⟨[u],[]⟩ [("_law_script",u)])/\∀base:Heap,(K w.params).In base->base.Ns Cd mg->FnOk l.prog w (K w.params) mg base Ib 5 fa fd ["_law_script"] (DL.spLawD (K w.params))):PySem.W.WalkO q loose XP YP l.row.toRowW d [] (λf vs=>PySem.call f vs) :=
 L2.walk_ofD (n:=63) (k:=5) (x := "_law_script") (CX:=λ_=>Ib) (sp:=λw=>DL.spLawD (K w.params)) hn (by decide) hdf ⟨rfl,by decide,by decide,rfl⟩ hY F (λ_ _ a ns hl _ hS=>⟨a,ns,rfl,hS,hl,λ_=>rfl⟩) λ_ _ _ _ _ z=>z
end K35
open PySem PySem.W PyProof.Rows
local macro_rules | `(tactic| refine $h:ident (q := $q) (loose := $l) (Xt := $a) (XP := $b) (Yf := $c) (Ya := $d) (YP := $e) (N := $n) ?hl $y*) => `(tactic| refine $h:ident (q := $q) (loose := $l) (Xt := $a) (XP := $b) (Yf := $c) (Ya := $d) (YP := $e) (N := $n) (fun _ => by kernel_rfl) $y*)
set_option maxRecDepth 100000 in
set_option maxHeartbeats 0 in
theorem PySem.Challenge.cw_needledeck_k35_values_written_holds : PySem.Challenge.rw_needledeck_k35_values_written.Holds := by
 w_on; refine holds_law (by kernel_rfl) λsaid=>?_; k_head; (case hw=>w_witness2)
 k_fill
 refine K35.walk (l:=PySem.Challenge.rw_needledeck_k35_values_written) rfl rfl (λw h Y=>PySem.W.km_in_of Y) ?F
 case F =>
  intro w mg fa h KX G hmg
  refine' K35.all_mk KX G hmg (K35.def_mk ?a1 ?l1 ?c1 ?k1) (K35.def_mk ?a2 ?l2 ?c2 ?k2) (K35.def_mk ?a3 ?l3 ?c3 ?k3) (K35.def_mk ?a4 ?l4 ?c4 ?k4) (K35.def_mk ?a5 ?l5 ?c5 ?k5) (K35.def_mk ?a6 ?l6 ?c6 ?k6) (K35.def_mk ?a7 ?l7 ?c7 ?k7) (K35.def_mk ?a8 ?l8 ?c8 ?k8) (K35.def_mk ?a9 ?l9 ?c9 ?k9) (K35.def_mk ?a10 ?l10 ?c10 ?k10) (K35.def_mk ?a11 ?l11 ?c11 ?k11) (K35.def_mk ?a12 ?l12 ?c12 ?k12) (K35.def_mk ?a13 ?l13 ?c13 ?k13) (K35.def_mk ?a14 ?l14 ?c14 ?k14) (K35.def_mk ?a15 ?l15 ?c15 ?k15) (K35.def_mk ?a16 ?l16 ?c16 ?k16) ?aL ?lL ?cL ?kL ?z1 ?z2 ?z3 ?z4 ?z5 ?z6 ?z7 ?z8 ?z9 ?z10 ?z11 ?z12 ?z13 ?z14 ?z15 ?tz_often ?tc12 ?tk12 ?tv12 ?td12 ?tl12
  (case a1=>k_is); (case l1=>k_is); (case c1=>k_is); (case k1=>k_is)
  (case a2=>k_is); (case l2=>k_is); (case c2=>k_is); (case k2=>k_is)
  (case a3=>k_is); (case l3=>k_is); (case c3=>k_is); (case k3=>k_is)
  (case a4=>k_is); (case l4=>k_is); (case c4=>k_is); (case k4=>k_is)
  (case a5=>k_is); (case l5=>k_is); (case c5=>k_is); (case k5=>k_is)
  (case a6=>k_is); (case l6=>k_is); (case c6=>k_is); (case k6=>k_is)
  (case a7=>k_is); (case l7=>k_is); (case c7=>k_is); (case k7=>k_is)
  (case a8=>k_is); (case l8=>k_is); (case c8=>k_is); (case k8=>k_is)
  (case a9=>k_is); (case l9=>k_is); (case c9=>k_is); (case k9=>k_is)
  (case a10=>k_is); (case l10=>k_is); (case c10=>k_is); (case k10=>k_is)
  (case a11=>k_is); (case l11=>k_is); (case c11=>k_is); (case k11=>k_is)
  (case a12=>k_is); (case l12=>k_is); (case c12=>k_is); (case k12=>k_is)
  (case a13=>k_is); (case l13=>k_is); (case c13=>k_is); (case k13=>k_is)
  (case a14=>k_is); (case l14=>k_is); (case c14=>k_is); (case k14=>k_is)
  (case a15=>k_is); (case l15=>k_is); (case c15=>k_is); (case k15=>k_is)
  (case a16=>k_is); (case l16=>k_is); (case c16=>k_is); (case k16=>k_is)
  (case aL=>k_is); (case lL=>k_is); (case cL=>k_is); (case kL=>k_is)
  (case z1=>k_is); (case z2=>k_is); (case z3=>k_is); (case z4=>k_is); (case z5=>k_is); (case z6=>k_is); (case z7=>k_is); (case z8=>k_is); (case z9=>k_is); (case z10=>k_is); (case z11=>k_is); (case z12=>k_is); (case z13=>k_is); (case z14=>k_is); (case z15=>k_is)
  (case tz_often=>k_is)
  (case tc12=>first | rfl | kernel_rfl)
  (case tk12=>k_is)
  (case tv12=>first | rfl | kernel_rfl)
  (case td12=>first | rfl | kernel_rfl)
  (case tl12=>first | rfl | kernel_rfl)