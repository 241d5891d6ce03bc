import PyProof.Rows.All
import KE.KLam
import Wide.All
import OpenK.AllK
import Wide.FinOn
import Lean
import PyProof.EqAt
import PyProof.EqKinds
import PyProof.TupleCall
import PyProof.FactsAll.set
import PyProof.FactsAll.subtypes
import KE.KTupSum
import KE.KMinBuiltin
import PyProof.Draws
import PyProof.DictWalks
import PyProof.DictCompW
import PyProof.IsiH_tuple
import PyProof.FactsAll.zip
import KE.KDictOf
import PyProof.DictValues
import KE.KSortKey
import PySem.Challenge.RW_needledeck_k34_numbers_that_show_at_most
set_option Elab.async false
set_option linter.all false
set_option maxRecDepth 100000
set_option maxHeartbeats 4000000
set_option genSizeOf false
local macro_rules|`(tactic|omega)=>`(tactic|first|lia|omega +splitDisjunctions)
theorem e0a2{G:Prop}(k:A→B→G)(h:A∧B):G:=k h.1 h.2
theorem e0a3{G:Prop}(k:A→B→C→G)(h:A∧B∧C):G:=k h.1 h.2.1 h.2.2
theorem e0a4{G:Prop}(k:A→B→C→D→G)(h:A∧B∧C∧D):G:=k h.1 h.2.1 h.2.2.1 h.2.2.2
theorem e0a5{G:Prop}(k:A→B→C→D→E→G)(h:A∧B∧C∧D∧E):G:=k h.1 h.2.1 h.2.2.1 h.2.2.2.1 h.2.2.2.2
theorem e0a6{G:Prop}(k:A→B→C→D→E→F→G)(h:A∧B∧C∧D∧E∧F):G:=k h.1 h.2.1 h.2.2.1 h.2.2.2.1 h.2.2.2.2.1 h.2.2.2.2.2
theorem e1a1{t0:Type}{A:t0→Prop}{G:Prop}(k:∀x,A x→G)(h:∃x,A x):G:=h.elim λx h=>k x h
theorem e1a2{t0:Type}{A B:t0→Prop}{G:Prop}(k:∀x,A x→B x→G)(h:∃x,A x∧B x):G:=h.elim λx h=>k x h.1 h.2
theorem e1a3{t0:Type}{A B C:t0→Prop}{G:Prop}(k:∀x,A x→B x→C x→G)(h:∃x,A x∧B x∧C x):G:=h.elim λx h=>k x h.1 h.2.1 h.2.2
theorem e1a4{t0:Type}{A B C D:t0→Prop}{G:Prop}(k:∀x,A x→B x→C x→D x→G)(h:∃x,A x∧B x∧C x∧D x):G:=h.elim λx h=>k x h.1 h.2.1 h.2.2.1 h.2.2.2
theorem e2a1{t0 t1:Type}{A:t0→t1→Prop}{G:Prop}(k:∀x y,A x y→G)(h:∃x y,A x y):G:=h.elim λx h=>h.elim λy h=>k x y h
theorem e2a2{t0 t1:Type}{A B:t0→t1→Prop}{G:Prop}(k:∀x y,A x y→B x y→G)(h:∃x y,A x y∧B x y):G:=h.elim λx h=>h.elim λy h=>k x y h.1 h.2
theorem e2a3{t0 t1:Type}{A B C:t0→t1→Prop}{G:Prop}(k:∀x y,A x y→B x y→C x y→G)(h:∃x y,A x y∧B x y∧C x y):G:=h.elim λx h=>h.elim λy h=>k x y h.1 h.2.1 h.2.2
theorem e2a4{t0 t1:Type}{A B C D:t0→t1→Prop}{G:Prop}(k:∀x y,A x y→B x y→C x y→D x y→G)(h:∃x y,A x y∧B x y∧C x y∧D x y):G:=h.elim λx h=>h.elim λy h=>k x y h.1 h.2.1 h.2.2.1 h.2.2.2
theorem e3a1{t0 t1 t2:Type}{A:t0→t1→t2→Prop}{G:Prop}(k:∀x y z,A x y z→G)(h:∃x y z,A x y z):G:=h.elim λx h=>h.elim λy h=>h.elim λz h=>k x y z h
theorem e3a3{t0 t1 t2:Type}{A B C:t0→t1→t2→Prop}{G:Prop}(k:∀x y z,A x y z→B x y z→C x y z→G)(h:∃x y z,A x y z∧B x y z∧C x y z):G:=h.elim λx h=>h.elim λy h=>h.elim λz h=>k x y z h.1 h.2.1 h.2.2
theorem e3a4{t0 t1 t2:Type}{A B C D:t0→t1→t2→Prop}{G:Prop}(k:∀x y z,A x y z→B x y z→C x y z→D x y z→G)(h:∃x y z,A x y z∧B x y z∧C x y z∧D x y z):G:=h.elim λx h=>h.elim λy h=>h.elim λz h=>k x y z h.1 h.2.1 h.2.2.1 h.2.2.2
theorem e3a5{t0 t1 t2:Type}{A B C D E:t0→t1→t2→Prop}{G:Prop}(k:∀x y z,A x y z→B x y z→C x y z→D x y z→E x y z→G)(h:∃x y z,A x y z∧B x y z∧C x y z∧D x y z∧E x y z):G:=h.elim λx h=>h.elim λy h=>h.elim λz h=>k x y z h.1 h.2.1 h.2.2.1 h.2.2.2.1 h.2.2.2.2
theorem e4a1{t0 t1 t2 t3:Type}{A:t0→t1→t2→t3→Prop}{G:Prop}(k:∀x y z w,A x y z w→G)(h:∃x y z w,A x y z w):G:=h.elim λx h=>h.elim λy h=>h.elim λz h=>h.elim λw h=>k x y z w h
theorem e4a2{t0 t1 t2 t3:Type}{A B:t0→t1→t2→t3→Prop}{G:Prop}(k:∀x y z w,A x y z w→B x y z w→G)(h:∃x y z w,A x y z w∧B x y z w):G:=h.elim λx h=>h.elim λy h=>h.elim λz h=>h.elim λw h=>k x y z w h.1 h.2
theorem e5a2{t0 t1 t2 t3 t4:Type}{A B:t0→t1→t2→t3→t4→Prop}{G:Prop}(k:∀x y z w u,A x y z w u→B x y z w u→G)(h:∃x y z w u,A x y z w u∧B x y z w u):G:=h.elim λx h=>h.elim λy h=>h.elim λz h=>h.elim λw h=>h.elim λu h=>k x y z w u h.1 h.2
theorem e4a5{t0 t1 t2 t3:Type}{A B C D E:t0→t1→t2→t3→Prop}{G:Prop}(k:∀x y z w,A x y z w→B x y z w→C x y z w→D x y z w→E x y z w→G)(h:∃x y z w,A x y z w∧B x y z w∧C x y z w∧D x y z w∧E x y z w):G:=h.elim λx h=>h.elim λy h=>h.elim λz h=>h.elim λw h=>k x y z w h.1 h.2.1 h.2.2.1 h.2.2.2.1 h.2.2.2.2
theorem e5a5{t0 t1 t2 t3 t4:Type}{A B C D E:t0→t1→t2→t3→t4→Prop}{G:Prop}(k:∀x y z w u,A x y z w u→B x y z w u→C x y z w u→D x y z w u→E x y z w u→G)(h:∃x y z w u,A x y z w u∧B x y z w u∧C x y z w u∧D x y z w u∧E x y z w u):G:=h.elim λx h=>h.elim λy h=>h.elim λz h=>h.elim λw h=>h.elim λu h=>k x y z w u h.1 h.2.1 h.2.2.1 h.2.2.2.1 h.2.2.2.2
theorem e6a5{t0 t1 t2 t3 t4 t5:Type}{A B C D E:t0→t1→t2→t3→t4→t5→Prop}{G:Prop}(k:∀x y z w u v,A x y z w u v→B x y z w u v→C x y z w u v→D x y z w u v→E x y z w u v→G)(h:∃x y z w u v,A x y z w u v∧B x y z w u v∧C x y z w u v∧D x y z w u v∧E x y z w u v):G:=h.elim λx h=>h.elim λy h=>h.elim λz h=>h.elim λw h=>h.elim λu h=>h.elim λv h=>k x y z w u v h.1 h.2.1 h.2.2.1 h.2.2.2.1 h.2.2.2.2
theorem e4a7{t0 t1 t2 t3:Type}{A B C D E F H:t0→t1→t2→t3→Prop}{G:Prop}(k:∀x y z w,A x y z w→B x y z w→C x y z w→D x y z w→E x y z w→F x y z w→H x y z w→G)(h:∃x y z w,A x y z w∧B x y z w∧C x y z w∧D x y z w∧E x y z w∧F x y z w∧H x y z w):G:=h.elim λx h=>h.elim λy h=>h.elim λz h=>h.elim λw h=>k x y z w h.1 h.2.1 h.2.2.1 h.2.2.2.1 h.2.2.2.2.1 h.2.2.2.2.2.1 h.2.2.2.2.2.2
theorem e5a7{t0 t1 t2 t3 t4:Type}{A B C D E F H:t0→t1→t2→t3→t4→Prop}{G:Prop}(k:∀x y z w u,A x y z w u→B x y z w u→C x y z w u→D x y z w u→E x y z w u→F x y z w u→H x y z w u→G)(h:∃x y z w u,A x y z w u∧B x y z w u∧C x y z w u∧D x y z w u∧E x y z w u∧F x y z w u∧H x y z w u):G:=h.elim λx h=>h.elim λy h=>h.elim λz h=>h.elim λw h=>h.elim λu h=>k x y z w u h.1 h.2.1 h.2.2.1 h.2.2.2.1 h.2.2.2.2.1 h.2.2.2.2.2.1 h.2.2.2.2.2.2
theorem e6a7{t0 t1 t2 t3 t4 t5:Type}{A B C D E F H:t0→t1→t2→t3→t4→t5→Prop}{G:Prop}(k:∀x y z w u v,A x y z w u v→B x y z w u v→C x y z w u v→D x y z w u v→E x y z w u v→F x y z w u v→H x y z w u v→G)(h:∃x y z w u v,A x y z w u v∧B x y z w u v∧C x y z w u v∧D x y z w u v∧E x y z w u v∧F x y z w u v∧H x y z w u v):G:=h.elim λx h=>h.elim λy h=>h.elim λz h=>h.elim λw h=>h.elim λu h=>h.elim λv h=>k x y z w u v h.1 h.2.1 h.2.2.1 h.2.2.2.1 h.2.2.2.2.1 h.2.2.2.2.2.1 h.2.2.2.2.2.2
local macro_rules|`(tactic|obtain $p:rcasesPatMed:=$v:term)=>do
 let c s:=((p.raw.reprint.getD "").splitOn s).length
 if c ","<3||c "|">1||c ":">1 then Lean.Macro.throwUnsupported
 let T (a:Lean.Syntax):Lean.TSyntax `Lean.Parser.Tactic.rcasesPatMed:=⟨a⟩
 let q:=p.raw
 let x:=q[0][0]
 let l:=x[1].getSepArgs
 let mut a:Array (Lean.TSyntax ``Lean.Parser.Tactic.tacticSeq):=#[]
 let mut y:Array Lean.Term:=#[]
 let mut z:Array (Array (Lean.TSyntax `tactic)):=#[]
 for o in l do
  let u:=o[0][0][0]
  let f:=Lean.mkIdent (←Lean.Macro.addMacroScope (.mkSimple s!"f{y.size}"))
  if u[0].getId==`rfl then
   y:=y.push f
   z:=z.push #[←`(tactic|subst $f:term)]
  else if u[0].isIdent then
   y:=y.push ⟨u[0]⟩
   z:=z.push #[]
  else if u[1].isMissing then
   y:=y.push (←`(_))
   z:=z.push #[]
  else
   y:=y.push f
   z:=z.push #[←`(tactic|obtain $(T o[0]):rcasesPatMed:=$f)]
 for j in [0:l.size] do
  if j==1 then continue
  let n:=l.size-j
  let mut i:=y.extract 0 n
  let mut w:=(z.extract 0 n).flatten
  if j>0 then
   i:=i.push (←`(r_))
   w:=w.push (←`(tactic|obtain $(T (q.setArg 0 (q[0].setArg 0 (x.setArg 1 (Lean.mkNullNode (Lean.mkSepArray (l.extract n l.size) (Lean.mkAtom ","))))))):rcasesPatMed:=r_))
  for k in [0:i.size] do
   let m:=Lean.mkIdent (.mkSimple s!"e{k}a{i.size-k}")
   let g←if v.raw.isIdent then `(tactic|(revert $(⟨v⟩):ident;refine $m fun $i*=>?_)) else `(tactic|refine $m (fun $i*=>?_) $v)
   a:=a.push (←`(Lean.Parser.Tactic.tacticSeq| $g:tactic;$[$w];*))
  if j==0&& !v.raw.isIdent then
   a:=a.push (←`(Lean.Parser.Tactic.tacticSeq| have h_ := $v; obtain $p := h_))
   break
 a:=a.push (←`(Lean.Parser.Tactic.tacticSeq| rcases $v:term with $p))
 `(tactic|first $[| $a]*)
open Array renaming length_toList → Az, toList_append → Dq, getD_eq_getD_getElem? → Du, getElem?_eq_some_iff → Gz, toList_push → Lx, getElem?_toList → Mn, toList_extract → Ng, perm_iff_toList_perm → Pf, toList_reverse → Ud, forIn_toList → Wq, getElem?_eq_getElem → iV, size_setIfInBounds → iZ, getElem?_eq_none → mT
open Bool renaming false_ne_true → Br, false_eq_true → Bv, and_eq_true → Dk, not_eq_true' → Jx, eq_iff_iff → Tj, not_eq_false' → Xx
open Classical renaming byContradiction → Fn, propDecidable → Hv
open False renaming elim → Ka
open ForInStep renaming done → Cs, yield → Fi
open Function renaming comp_def → Wj
open Int renaming toNat_natCast → Gp, le_refl → Lq, toNat_of_nonneg → On, zero_add → Zq
open LawfulBEq renaming eq_of_beq → Dt
open List renaming mem_cons_self → Ab, length_map → Ad, mem_cons_of_mem → Ae, mem_singleton → Af, mem_cons → Ag, mem_append_right → Al, mem_append_left → An, getElem?_eq_some_iff → Ap, size_toArray → Ar, not_mem_nil → Av, map_cons → Aw, mem_of_getElem? → Ax, mem_append → Ay, getElem?_eq_getElem → Ba, pairwise_cons → Bb, map_append → Be, getElem?_map → Bf, length_append → Bo, length_cons → Bs, mem_map → Bt, append_assoc → Bw, nodup_cons → Bx, replicate → By, pairwise_append → Ca, lookup_cons → Cb, map_map → Ce, sublist_append_right → Cf, mem_filter → Cn, sublist_cons_self → Cv, length_take → Cw, nodup_nil → Dc, all_eq_true → Dh, range → Di, append_nil → Ea, getElem?_take_of_lt → Ej, take_of_length_le → Es, map_set → Et, pairwise_iff_getElem → Ew, length → Fc, cons_append → Fd, getElem?_append_right → Fl, replicate_succ → Fo, map_congr_left → Fp, perm_append_comm → Fv, mem_iff_getElem? → Fw, take_length → Ga, perm_middle → Gb, pairwise_singleton → Gg, nodup_append → Gh, mem_replicate → Hd, filter_append → He, length_singleton → Hf, reverse_perm → Ho, mem_iff_getElem → Hq, getElem?_set → Hr, flatten_cons → Hs, ext_getElem? → Ht, length_reverse → Hz, mem_flatMap → Ih, find?_cons → Iz, dropLast_concat_getLast → Ja, any_cons → Jc, take_append_drop → Jo, take_add_one → Jt, length_range → Ju, drop_sublist → Jv, mem_range → Ke, map_nil → Kh, getElem?_append_left → Km, extract_eq_take_drop → Kn, length_nil → Lb, length_zipIdx → Ll, lookup → Ln, take_sublist → Mb, pairwise_reverse → Mp, eraseIdx_sublist → Mq, mem_reverse → Mw, getElem?_set_ne → Nm, filterMap_cons → Of, all_map → Om, set_cons_succ → Pn, mem_of_find?_eq_some → Qf, reverse_cons → Qg, eraseIdx_cons_succ → Rb, filter_eq_nil_iff → Sf, any_map → Sg, forIn_cons → Ti, length_replicate → Tv, getElem?_reverse → Tw, forall_mem_cons → Uv, forIn_nil → Uw, all_cons → Wm, zip_cons_cons → Xu, getElem?_drop → Xv, filterMap_map → Xw, pairwise_map → Zd, mk_mem_zipIdx_iff_getElem? → Zp, zipIdx_cons → cJ, take_subset → cK, length_drop → cM, isEmpty_iff → cN, length_erase_of_mem → mI, mem_singleton_self → mN, length_eq_zero_iff → mO, getElem?_cons_succ → mP, length_pos_of_mem → pM, getElem?_set_self → pN, append_eq_nil_iff → pO, filter_eq_self → vE, find?_eq_none → w5
open List.Pairwise renaming sublist → Ia, nil → Ko
open List.Perm renaming swap → Fe, append_left → Lp
open List.Sublist renaming refl → Cq
open List.cons renaming inj → Dr
open Nat renaming le_refl → Ak, le_trans → Bz, lt_of_lt_of_le → Cc, ne_of_lt → Cd, zero_le → Dg, lt_irrefl → Fk, lt_of_le_of_lt → Iy, le_add_right → Kl, zero_add → Pb, le_of_lt → Pc, not_lt_zero → Tu, pow_le_pow_right → Vc, le_succ → Vd, lt_succ_of_lt → Zo
open Ne renaming symm → Lm
open Option renaming none → Pr, isSome_iff_exists → Qe
open Option.some renaming inj → Bn
open Or renaming inl → Ei, inr → Ol
open Prod.mk renaming injEq → Dm
open PyProof.Rows renaming wpS_bind → Bd, pendingOf → Bj, wpS_pure → Bk, SortSt → Bu, seqObj → Df, wpS_forRange → Eh, slot_tuple_getitem → Ek, callWith_type1 → Ez, wpS_mono → Gy, wpS_modify → Jp, IntsAre → Ki, failedOf → Ky, listUpdate_at → Lv, SortKind → Lw, get?_update_seq → Ma, wpS_get → Nb, AllBare → Sj, reverseSlice' → Tg, oneType' → Ub, size_push' → Uz, seqEpoch_at → Yo, callWith_kw → Zc, subscriptTail → cH, firstOfTuple' → cI, listItems_at → fO, subscriptTail_builtinR → x3
open PyProof.Rows.SortSt renaming mk' → Wh
open PySem renaming wpAny_bind → Aa, PyData → Ac, Shared → Aj, wpAny_pure → Am, sizeLine → Au, starEach → Bp, Program → Bq, FuncData → Cg, mainGlobals → Ci, Around → Cr, wpAny_holding → Dd, wpAny_newObj_type → Dv, wpAny_callSpecial?_slot → Ed, foldedSetIterable → Ee, cellsFrom → Ep, wpAny_field → Eu, wpAny_call_entry → Ex, IsPair → Fh, wpAny_truthy_bool → Fq, wpAny_seqItems → Fs, wpAny_mono → Ft, sysModules → Fu, behindInMarks → Gf, backTo → Gw, wpAny_setField_rec → Hn, DictEntry → Hy, wpAny_attempt → Ik, binaryOp → Iw, wpAny_typeNameOfWhole_keyiter → Jk, unsetMember → Jl, sliceBounds → Jm, sizeLine_eq → Jn, wpAny_Call_Name_kw → Jq, rawInt → Jr, bootBuiltins → Js, swapsWith → Kb, compareOp → Kc, wpAny_rule → Kw, pyNext → Kx, assignEach → Kz, wpAny_typeOf → La, wpAny_typeNameOf_keyiter → Lu, wpAny_letGo → Mm, intItems → Nc, wpAny_isInstance → Oe, plainId_quiet → Oi, codeAny → Oj, NameKind → Pd, wpAny_passesOwn → Pq, tupleKind → Qu, newFunctionEnv → Qy, ZipApart → Qz, getItem → Se, Keyword → Sh, wpAny_comprehension_free → Te, strLen_append → Tf, attributeBase → Th, wpAny_nextOf_list_item → Uy, codeAny_compStart_list → Va, builtinsNs → Vb, wpAny_loadPart' → We, letOwnedTupleGo → Wf, codeAny_builtin → Wg, wpAny_notOrdered_dict → Wl, wpAny_updateSeq_pair → Yl, wpAny_tryCatch → Ym, wpAny_newTuple → Yn, keywordEach → Yp, firstArgMember → Yq, IsPart → Yr, callerA → Zb, wpAny_onRaise → cF, wpAny_newList → cG, tupleKind_room_in1 → cO, entryOfKey → cP, call_meets → cQ, wpAny_sequenceKey → fK, wpAny_pyIter_list → fL, wpAny_dictEntries → fM, slot_list_getitem → fN, wpAny_pyIter_zip → iX, noFill_tuple_add → iY, wpAny_getItem_list_slice → vD
open PySem.Around renaming under_plainId → Mx
open PySem.Builtin.Builtins renaming bindParams → Uc
open PySem.Builtin.Dict renaming updateFrom → Zr
open PySem.Builtin.Dict_items renaming ownsTuple → Si
open PySem.Builtin.List renaming listTooLong → Jy
open PySem.Builtin.Slice renaming slicePlaces → Jb, sliceAdjust → Nf, sliceApplied → Wp
open PySem.Builtin.SmallTypes renaming ownedTupleIsFree → Ct, nextOf → Da, ownedTupleHandOut → Po
open PySem.Builtin.Tuple renaming tupleExact → Jw, tupleItemsOf → Wn, tupleIsExact → Wo
open PySem.Calls renaming spliced_cons → Pe, spliced_nil → Ys, Name_function_global → fP, callWith_builtin → mQ
open PySem.F renaming slot_zip_next → Ux
open PySem.Heap renaming get?_push_of_some → Ah, get?_push_size → Bg, lt_size → Bh, SameBut → Dn, get?_update_other → Fm, get?_update_self → Fz, size_update → Ii, size_push → Ij
open PySem.Heap.SameBut renaming update → Cm
open PySem.NameKind renaming free → Dy, cell → Dz
open PySem.Obj renaming mapSeq → Cp
open PySem.PassesOwn renaming never → Ey
open PySem.PyData renaming int → Ai, depthAll → Bm, depth → Cj, showable → Iu, hasDict → Lo, shownAll → Nl, shown → Od, showableAll → Wi, hasDictAll → Xs
open PySem.SeqAt renaming EqAt → Mo
open PySem.Str renaming ofString → Ds
open PySem.Value renaming ref → Bc, type → Hu, none → Iq, int → Uu
open Sum renaming inl → Qv
open ToString renaming toString → Qx
open True renaming intro → Kd
namespace L2
open PySem PySem.Spec PyProof.Rows
abbrev Hm:=Sum Int Str
def eE:Hm->Value->Bool
 | .inl k,v=>Value.isInt k v
 | .inr x,v=>Value.isStrOf x v
def FQ(w:World):Hm->Int
 | .inl k=>hashInt k
 | .inr x=>hashStr w x
theorem Hg:∀{k:Hm} {v:Value},eE k v=true->(∃i t,k=Qv i/\v=Uu i t)\/(∃x t,k=Sum.inr x/\v=Value.str x t)
 | .inl i,v,h=>by
  obtain ⟨t,e⟩:=Value.isInt_shape (k:=i) (v:=v) h
  exact .inl ⟨i,t,rfl,e⟩
 | .inr x,v,h=>by
  obtain ⟨t,e⟩:=Value.isStrOf_shape (x:=x) (v:=v) h
  exact .inr ⟨x,t,rfl,e⟩
theorem uW(i:Int)(t:Tok):eE (.inl i) (.int i t)=true:=by simp [eE,Value.isInt]
theorem uT(x:Str)(t:Tok):eE (.inr x) (.str x t)=true:=by simp [eE,Value.isStrOf]
theorem U7(a b:Int):decide ((Qv a:Hm)=Qv b)=(a == b):=by
 by_cases e:a=b
 ·subst e; simp
 ·have h:¬ (Qv a:Hm)=Qv b:=λq=>e (Sum.inl.inj q)
  rw[decide_eq_false h]
  exact (beq_eq_false_iff_ne.mpr e).symm
theorem T1(a b:Str):decide ((Sum.inr a:Hm)=Sum.inr b)=decide (a=b):=by
 by_cases e:a=b
 ·subst e; simp
 ·have h:¬ (Sum.inr a:Hm)=Sum.inr b:=λq=>e (Sum.inr.inj q)
  rw[decide_eq_false h,decide_eq_false e]
theorem X8(a:Int)(b:Str):decide ((Qv a:Hm)=Sum.inr b)=false:=decide_eq_false (λq=>nomatch q)
theorem R6(a:Str)(b:Int):decide ((Sum.inr a:Hm)=Qv b)=false:=decide_eq_false (λq=>nomatch q)
def Hh(prog:Bq)(w:World):PySem.KeyKind prog w Hm where
 is:=eE
 hash:=FQ w
 inj:=λv a b ha hb=>by
  rcases Hg ha with ⟨i,t,rfl,rfl⟩ | ⟨x,t,rfl,rfl⟩
  ·rcases Hg hb with ⟨j,u,rfl,e⟩ | ⟨y,u,rfl,e⟩
   ·injection e with e1 _; rw[e1]
   ·exact nomatch e
  ·rcases Hg hb with ⟨j,u,rfl,e⟩ | ⟨y,u,rfl,e⟩
   ·exact nomatch e
   ·injection e with e1 _; rw[e1]
 byValue:=λk v h=>by
  rcases Hg h with ⟨i,t,rfl,rfl⟩ | ⟨x,t,rfl,rfl⟩ <;> rfl
 pyHash:=λhv h=>by
  rcases Hg hv with ⟨i,t,rfl,rfl⟩ | ⟨x,t,rfl,rfl⟩
  ·exact wpAny_pyHash_int h
  ·exact wpAny_pyHash_str h
 eqBool:=λhu hv h=>by
  rcases Hg hu with ⟨i,t,rfl,rfl⟩ | ⟨x,t,rfl,rfl⟩
  ·rcases Hg hv with ⟨j,u,rfl,rfl⟩ | ⟨y,u,rfl,rfl⟩
   ·rw[U7] at h; exact wpAny_eqBool_int h
   ·rw[X8] at h; exact SeqAt.EqAt.int_str i t y u _ _ _ _ h
  ·rcases Hg hv with ⟨j,u,rfl,rfl⟩ | ⟨y,u,rfl,rfl⟩
   ·rw[R6] at h; exact SeqAt.EqAt.str_int x t j u _ _ _ _ h
   ·rw[T1] at h; exact wpAny_eqBool_str h
 «strs»:=λk x t v h=>by
  rcases Hg h with ⟨i,u,rfl,e⟩ | ⟨y,u,rfl,e⟩
  ·exact nomatch e
  ·injection e with e1 _
   subst e1
   cases v <;> rfl
theorem kW(prog:Bq)(w:World)(i:Int)(t:Tok):(Hh prog w).is (.inl i) (.int i t)=true:=uW i t
theorem jS(prog:Bq)(w:World)(x:Str)(t:Tok):(Hh prog w).is (.inr x) (.str x t)=true:=uT x t
inductive V where
 | non | bl (b:Bool) | int (i:Int) | str (x:Str) | byt (b:Array UInt8) | flt (b:UInt64) | ref (a:Addr) | ty (n:String)
 deriving DecidableEq
def RelV:V->Value->Prop
 | .non,u=>u=Iq
 | .bl b,u=>u=Value.bool b
 | .int i,u=>∃t,u=Uu i t
 | .str x,u=>∃t,u=Value.str x t
 | .byt b,u=>∃t,u=Value.bytes b t
 | .flt b,u=>∃t,u=Value.float b t
 | .ref a,u=>u=Bc a
 | .ty n,u=>u=Hu n
abbrev Ff:List V->List Value->Prop:=Paired RelV
theorem Ff.length(r:Ff xs us):xs.length=us.length:=Paired.length r
theorem Ff.get:∀{xs:List V} {us:List Value} {i:Nat} {x:V},Ff xs us->xs[i]? = some x->∃u,us[i]? = some u/\RelV x u
 | _,_,_,_,.nil,e=>by simp at e
 | _,_,0,_,.cons r _,e=>by simp at e; subst e; exact ⟨_,rfl,r⟩
 | _,_,i+1,x,.cons _ t,e=>by
  obtain ⟨u,h1,h2⟩:=Ff.get (i:=i) (x:=x) t (by simpa using e)
  exact ⟨u,by simpa using h1,h2⟩
theorem Ff.set(r:RelV x u):∀{xs:List V} {us:List Value} (i:Nat),Ff xs us->Ff (xs.set i x) (us.set i u)
 | _,_,_,.nil=>.nil
 | _,_,0,.cons _ t=>.cons r t
 | _,_,i+1,.cons q t=>.cons q (Ff.set r i t)
theorem Ff.append:∀{xs ys:List V} {us ws:List Value},Ff xs us->Ff ys ws->Ff (xs++ys) (us++ws)
 | _,_,_,_,.nil,s=>s
 | _,_,_,_,.cons r t,s=>.cons r (Ff.append t s)
theorem Ff.take:∀{xs:List V} {us:List Value} (n:Nat),Ff xs us->Ff (xs.take n) (us.take n)
 | _,_,0,_=>.nil
 | _,_,_+1,.nil=>.nil
 | _,_,n+1,.cons r t=>.cons r (Ff.take n t)
theorem Ff.drop:∀{xs:List V} {us:List Value} (n:Nat),Ff xs us->Ff (xs.drop n) (us.drop n)
 | _,_,0,r=>r
 | _,_,_+1,.nil=>.nil
 | _,_,n+1,.cons _ t=>Ff.drop n t
def lV:Option V->Option Value->Prop
 | some v,some u=>RelV v u
 | none,none=>True
 | _,_=>False
def KV{κ:Type}:List (κ×V)->List (κ×Value)->Prop:=Paired λ(p:κ×V) (q:κ×Value)=>p.1=q.1/\RelV p.2 q.2
def kV:Hm->V
 | .inl i=>.int i
 | .inr x=>.str x
inductive HO where
 /-- a list -/
 | lst (xs:List V)
 /-- a tuple (never changes) -/
 | tup (xs:List V)
 /-- a dict whose keys are ints and texts; one whose keys are tuples of ints and texts (the empty one is both) -/
 | dK (kvs:List (Hm×V)) | dT (kvs:List (List Hm×V))
 /-- a set of ints: its members,its size -/
 | set (S:Int->Bool) (n:Nat)
 /-- an instance of the class at C,its dict at dx,its attributes -/
 | ins (C dx:Addr) (fs:List (Str×V))
 /-- the dict of the instance at x -/
 | own (x:Addr)
 /-- the dict of an exception -/
 | xd (fs:List (Str×V))
 /-- a bound method,f of x -/
 | met (f x:Addr)
 /-- a range object lo,lo+1,.. below hi -/
 | rng (lo hi:Int)
 /-- a thing that is known to the object (the script; a dict while a loop walks it): read,never written while it is so -/
 | frz (o:Obj) (u:HO)
 /-- a code object's table -/
 | tbl (ps:Array Value)
 /-- any other thing,by what is true of its one object (a def of one's own: FP a S n:=HO.ext λh=>..) -/
 | ext (φ:Heap->Prop)
abbrev Hp:=Addr->Option HO
def upd(H:Hp)(a:Addr)(o:HO):Hp:=λb=>if b=a then some o else H b
theorem Co:upd H a o a=some o:=by unfold upd; rw[if_pos rfl]
theorem Cz(h:b≠a):upd H a o b=H b:=by unfold upd; rw[if_neg h]
theorem sI{H:Hp}(h:H a=some o)(h':H b=some u)(d:o≠u):a≠b:=by
 intro e; subst e; rw[h] at h'; exact d (Bn h')
theorem Dx{H:Hp}(h:H a=some o)(h':H b=none):a≠b:=by
 intro e; subst e; rw[h] at h'; cases h'
section
variable(P:Bq)(w:World)
def Hj(H:Hp)(h:Heap)(a:Addr):HO->Prop
 | .lst xs=>xs.length<=Au/\∃(its:List Value) (n:Nat),Ff xs its/\h.get? a=some { cls:=.type "list",data:=.seq its.toArray n }
 | .tup xs=>xs.length<=Au/\∃its:List Value,Ff xs its/\IsTup h a its.toArray
 | .dK kvs=>kvs.length<=Au/\(a == Fu)=false/\∃vs,KV kvs vs/\h.DictOf (Hh P w) a vs
 | .dT kvs=>kvs.length<=Au/\(a == Fu)=false/\∃xs:List (List Hm×Addr×Value),
   Paired (λ(p:List Hm×V) (q:List Hm×Addr×Value)=>p.1=q.1/\H q.2.1=some (.tup (p.1.map kV))/\RelV p.2 q.2.2) kvs xs /\
   ∃o es ep,h.get? a=some o/\o.ExactDict/\o.data=.dict es ep/\es.toList=xs.map (cP (Qu (Hh P w)))/\(xs.map (·.1)).Nodup/\ep=es.size
 | .set S n=>h.SetOf (intKind P w) a S n
 | .ins C dx fs=>H dx=some (.own a)/\fs.length<=1000/\dx≠a/\h.get? a=some (PySem.W.instObj C dx) /\
   ∃mA,h.Ns1 dx mA/\(∀f,lV (fs.lookup f) (mA f))/\PySem.Within mA (fs.map (·.1))
 | .own _=>∃o,h.get? a=some o
 | .xd fs=>∃mA,h.Ns1 a mA/\∀f,lV (fs.lookup f) (mA f)
 | .rng lo hi=>∃t u v,h.get? a=some { cls:=.type "range",data:=.fields #[.int lo t,.int hi u,.int 1 v] }
 | .frz o u=>h.get? a=some o/\Hj H h a u
 | .tbl ps=>∃qs:Array Value,h.get? a=some { cls:=.none,data:=.fields qs }/\TriplesOk qs.toList/\∀(pos:Pos) (v:Value),codeAmong pos qs.toList=some v->∃(c:Addr) (oc:Obj) (us:Array Value) (q:Str) (t t0:Tok),v=.ref c/\H c=some (.own a)/\h.get? c=some oc/\oc.data=.fields us/\us[1]? = some (.str q t)/\ps[0]? = some (.str q t0)
 | .met f x=>h.get? a=some (PySem.W.methodObj (.ref f) (.ref x))
 | .ext φ=>φ h/\(∃o,h.get? a=some o)/\∀h1 h2:Heap,φ h1->(∀o,h1.get? a=some o->h2.get? a=some o)->φ h2
def Wk(H:Hp)(h:Heap):Prop:=∀a o,H a=some o->Hj P w H h a o
end
section
variable{P:Bq}{w:World}{H H':Hp}{h h':Heap}{a:Addr}{o:HO}
theorem Hj.lt(x:Hj P w H h a o):a<h.objs.size:=by
 cases o with
 | lst xs=>obtain ⟨_,_,_,_,e⟩:=x; exact Bh e
 | tup xs=>obtain ⟨_,_,_,p⟩:=x; exact p.lt
 | dK kvs=>obtain ⟨_,_,_,_,o,_,_,e,_⟩:=x; exact Bh e
 | dT kvs=>obtain ⟨_,_,_,_,o,_,_,e,_⟩:=x; exact Bh e
 | set S n=>obtain ⟨o,_,_,_,e,_⟩:=x; exact Bh e
 | ins C dx fs=>obtain ⟨_,_,_,e,_⟩:=x; exact Bh e
 | own y=>obtain ⟨_,e⟩:=x; exact Bh e
 | xd fs=>obtain ⟨_,⟨_,_,_,e,_⟩,_⟩:=x; exact Bh e
 | rng lo hi=>obtain ⟨_,_,_,e⟩:=x; exact Bh e
 | frz ob u=>obtain ⟨e,_⟩:=x; exact Bh e
 | tbl ps=>obtain ⟨_,e,_⟩:=x; exact Bh e
 | met f y=>exact Bh (show h.get? a=some _ from x)
 | ext φ=>obtain ⟨_,⟨_,e⟩,_⟩:=x; exact Bh e
theorem Paired.mapP:∀{l₁:List α} {l₂:List β},Paired F l₁ l₂->(∀a b,F a b->G a b)->Paired G l₁ l₂
 | _,_,.nil,_=>.nil
 | _,_,.cons r t,f=>.cons (f _ _ r) (Paired.mapP t f)
theorem Hj.stay(x:Hj P w H h a o)(k:∀b u,(b=a\/H b=some (.own a))->h.get? b=some u->h'.get? b=some u)(ho:∀b,H b=some (.own a)->H' b=some (.own a))(ht:∀b xs,H b=some (.tup xs)->H' b=some (.tup xs)):Hj P w H' h' a o:=by
 induction o with
 | lst xs=>obtain ⟨z,its,n,r,e⟩:=x; exact ⟨z,its,n,r,k _ _ (.inl rfl) e⟩
 | tup xs=>obtain ⟨z,its,r,ob,e,c⟩:=x; exact ⟨z,its,r,ob,k _ _ (.inl rfl) e,c⟩
 | dK kvs=>obtain ⟨z,y,vs,r,ob,es,ep,e,c⟩:=x; exact ⟨z,y,vs,r,ob,es,ep,k _ _ (.inl rfl) e,c⟩
 | dT kvs =>
  obtain ⟨z,y,xs,r,ob,es,ep,e,c⟩:=x
  exact ⟨z,y,xs,Paired.mapP r λp q z=>⟨z.1,ht _ _ z.2.1,z.2.2⟩,ob,es,ep,k _ _ (.inl rfl) e,c⟩
 | set S n=>obtain ⟨ob,es,ep,t,e,c⟩:=x; exact ⟨ob,es,ep,t,k _ _ (.inl rfl) e,c⟩
 | ins C dx fs =>
  obtain ⟨d,z,ne,e,mA,⟨od,es,ep,e2,c⟩,r⟩:=x
  exact ⟨ho _ d,z,ne,k _ _ (.inl rfl) e,mA,⟨od,es,ep,k _ _ (.inr d) e2,c⟩,r⟩
 | own y=>obtain ⟨ob,e⟩:=x; exact ⟨ob,k _ _ (.inl rfl) e⟩
 | xd fs=>obtain ⟨mA,⟨od,es,ep,e,c⟩,r⟩:=x; exact ⟨mA,⟨od,es,ep,k _ _ (.inl rfl) e,c⟩,r⟩
 | rng lo hi=>obtain ⟨t,u,v,e⟩:=x; exact ⟨t,u,v,k _ _ (.inl rfl) e⟩
 | frz ob u ih=>obtain ⟨e,q⟩:=x; exact ⟨k _ _ (.inl rfl) e,ih q⟩
 | tbl ps =>
  obtain ⟨qs,e,t,z⟩:=x
  exact ⟨qs,k _ _ (.inl rfl) e,t,λpos v y=>by
   obtain ⟨c,oc,us,q,t,t0,h1,h2,h3,h4⟩:=z pos v y
   exact ⟨c,oc,us,q,t,t0,h1,ho _ h2,k _ _ (.inr h2) h3,h4⟩⟩
 | met f y =>
  have e:h.get? a=some (PySem.W.methodObj (.ref f) (.ref y)):=x
  show h'.get? a=some (PySem.W.methodObj (.ref f) (.ref y))
  exact k a _ (.inl rfl) e
 | ext φ=>obtain ⟨p,⟨o,e⟩,st⟩:=x; exact ⟨st _ _ p λo q=>k _ _ (.inl rfl) q,⟨o,k _ _ (.inl rfl) e⟩,st⟩
theorem Wk.lt(x:Wk P w H h)(e:H a=some o):a<h.objs.size:=(x a o e).lt
theorem Wk.fresh(x:Wk P w H h)(e:h.objs.size<=a):H a=none:=by
 cases q:H a with
 | none=>rfl
 | some u=>exact absurd (Cc (x.lt q) e) (Fk _)
theorem Wk.kept(x:Wk P w H h)(k:∀b u,h.get? b=some u->h'.get? b=some u):Wk P w H h':=λa o e =>
 (x a o e).stay (λb u _ q=>k b u q) (λ_ q=>q) λ_ _ q=>q
theorem Wk.laid(x:Wk P w H h)(k:∀b u,h.get? b=some u->h'.get? b=some u)(hp:h.objs.size<=a)(new:Hj P w (upd H a o) h' a o):Wk P w (upd H a o) h':=λb u e=>by
 have hn:=x.fresh hp
 by_cases hb:b=a
 ·subst hb; rw[Co] at e; cases e; exact new
 ·rw[Cz hb] at e
  exact (x b u e).stay (λc v _ q=>k c v q) (λc q=>by rw[Cz (Dx q hn)]; exact q) λc xs q=>by rw[Cz (Dx q hn)]; exact q
end
def Rd(H:Hp)(a:Addr)(u:HO):Prop:=H a=some u\/∃o,H a=some (.frz o u)
theorem Rd.ok(r:Rd H a u)(x:Wk P w H h):Hj P w H h a u:=by
 rcases r with r | ⟨o,r⟩
 ·exact x a u r
 ·obtain ⟨_,q⟩:=x a _ r
  exact q
def EJ:Option HO->Prop
 | some (.lst _)=>True
 | some (.dK _)=>True
 | some (.dT _)=>True
 | some (.set _ _)=>True
 | some (.ins _ _ _)=>True
 | some (.ext _)=>True
 | _=>False
section
variable{P:Bq}{w:World}{H:Hp}{h h':Heap}{x e:Addr}{o':HO}
theorem Wk.write(ok:Wk P w H h)(mu:EJ (H x))(he:e=x\/H e=some (.own x))(k:∀b u,b≠e->h.get? b=some u->h'.get? b=some u)(heo:∃u,h'.get? e=some u)(new:Hj P w (upd H x o') h' x o'):Wk P w (upd H x o') h':=λb u q=>by
 have nown:∀c y,H c=some (.own y)->c≠x:=λc y r z=>by subst z; rw[r] at mu; exact mu
 have gZ:∀c xs,H c=some (.tup xs)->c≠x:=λc xs r z=>by subst z; rw[r] at mu; exact mu
 by_cases hb:b=x
 ·subst hb; rw[Co] at q; cases q; exact new
 ·rw[Cz hb] at q
  by_cases hbe:b=e
  ·have q':H b=some (.own x):=by
    rcases he with z | z
    ·exact absurd (hbe.trans z) hb
    ·rw[hbe]; exact z
   rw[q] at q'; cases q'
   obtain ⟨v,hv⟩:=heo
   exact ⟨v,by rw[hbe]; exact hv⟩
  ·refine (ok b u q).stay (λc v hc r=>k c v ?_ r) (λc r=>by rw[Cz (nown c b r)]; exact r) λc xs r=>by rw[Cz (gZ c xs r)]; exact r
   rcases hc with rfl | hc
   ·exact hbe
   ·rintro rfl
    rcases he with z | z
    ·exact nown c b hc z
    ·rw[hc] at z; cases z; exact hb rfl
end
structure Un(fs ex:List Addr)(H H':Hp)(h h':Heap):Prop where
 keep:∀b o,h.get? b=some o->H b=none->b∉fs->b∉ex->h'.get? b=some o
 slot:∀b o,h.get? b=some o->H b=none->b∈fs->b∉ex->∃sl,h'.get? b=some { o with slots:=sl }
 free:∀b o,h.get? b=some o->H b=none->b∉ex->H' b=none
 there:∀b o,h.get? b=some o->b∉ex->∃o',h'.get? b=some o'
 tups:∀b xs,H b=some (.tup xs)->H' b=some (.tup xs)
 frzs:∀b o u,H b=some (.frz o u)->H' b=some (.frz o u)
 tbls:∀b ps,H b=some (.tbl ps)->∃more,H' b=some (.tbl (ps++more))
section
variable{fs fs' ex ex':List Addr}{H H1 H2:Hp}{h h1 h2 h':Heap}{a x e:Addr}{o:HO}
theorem Un.any(u:Un fs ex H H1 h h1)(q:h.get? b=some ob)(n:H b=none)(hx:b∉ex):∃sl,h1.get? b=some { ob with slots:=sl }:=by
 by_cases hb:b∈fs
 ·exact u.slot b ob q n hb hx
 ·exact ⟨ob.slots,u.keep b ob q n hb hx⟩
theorem Un.kept(k:∀b u,h.get? b=some u->h'.get? b=some u):Un fs ex H H h h' :=
 ⟨λb ob q _ _ _=>k b ob q,λb ob q _ _ _=>⟨ob.slots,k b ob q⟩,λ_ _ _ n _=>n,λb ob q _=>⟨ob,k b ob q⟩,λ_ _ q=>q,λ_ _ _ q=>q,λ_ ps q=>⟨#[],by rw[q]; simp⟩⟩
theorem Un.refl:Un fs ex H H h h:=Un.kept λ_ _ q=>q
theorem Un.laid(k:∀b u,h.get? b=some u->h'.get? b=some u)(hp:h.objs.size<=a)(hn:H a=none):Un fs ex H (upd H a o) h h' where
 keep:=λb u q _ _ _=>k b u q
 slot:=λb u q _ _ _=>⟨u.slots,k b u q⟩
 free:=λb u q n _=>by rw[Cz (Cd (Cc (Bh q) hp))]; exact n
 there:=λb u q _=>⟨u,k b u q⟩
 tups:=λb xs q=>by rw[Cz (Dx q hn)]; exact q
 frzs:=λb u xs q=>by rw[Cz (Dx q hn)]; exact q
 tbls:=λb ps q=>⟨#[],by rw[Cz (Dx q hn),q]; simp⟩
theorem Un.write(mu:EJ (H x))(he:e=x\/H e=some (.own x))(k:∀b u,b≠e->h.get? b=some u->h'.get? b=some u)(heo:∃u,h'.get? e=some u):Un fs ex H (upd H x o) h h':=by
 have hx:∀b,H b=none->b≠x:=λb n z=>by subst z; rw[n] at mu; exact mu
 have hb:∀b,H b=none->b≠e:=λb n z=>by
  subst z
  rcases he with r | r
  ·exact hx b n r
  ·rw[n] at r; cases r
 have hm:∀b u,H b=some u->¬ EJ (some u)->b≠x:=λb u q nm z=>by subst z; rw[q] at mu; exact nm mu
 refine ⟨λb u q n _ _=>k b u (hb b n) q,λb u q n _ _=>⟨u.slots,k b u (hb b n) q⟩,λb u q n _=>by rw[Cz (hx b n)]; exact n,λb u q _=>?_,
  λb xs q=>by rw[Cz (hm b _ q λz=>z)]; exact q,λb u xs q=>by rw[Cz (hm b _ q λz=>z)]; exact q,λb ps q=>⟨#[],by rw[Cz (hm b _ q λz=>z),q]; simp⟩⟩
 by_cases hbe:b=e
 ·subst hbe; exact heo
 ·exact ⟨u,k b u hbe q⟩
end
def FA(h:Heap)(H:Hp):List Addr:=(Di h.objs.size).filter λa=>(H a).isSome
def dE(h:Heap)(H:Hp):Heap:=PySem.W.hideAll h (FA h H)
theorem sW(h:Heap)(H:Hp):(dE h H).objs.size=h.objs.size:=PySem.W.hideAll_size _ _
theorem yN(e:h.get? b=some o)(n:H b=none):(dE h H).get? b=some o :=
 PySem.W.hideAll_get _ e λhm=>by
  have q:(H b).isSome=true:=(Cn.mp hm).2
  rw[n] at q; simp at q
theorem F5(e:(dE h H).get? b=some o):h.get? b=some o/\H b=none:=by
 have e':h.get? b=some o:=PySem.W.of_hideAll (FA h H) e
 refine ⟨e',?_⟩
 cases q:H b with
 | none=>rfl
 | some x =>
  have hm:b∈FA h H:=Cn.mpr ⟨Ke.mpr (Bh e'),by simp [q]⟩
  have z:(dE h H).get? b=none:=PySem.W.hideAll_none (FA h H) hm
  rw[z] at e; cases e
def J6(g h:Heap)(L:Addr):List (Addr×Obj):=(Di h.objs.size).filterMap λa=>if a=L\/(g.get? a).isSome=true then none else (h.get? a).map λo=>(a,o)
def Gk(g h:Heap)(L d:Addr):List (Addr×Obj):=(J6 g h L).filter λp=>decide (p.1≠d)
structure Mod(K:PySem.W.Frag)(mg:Str->Option Value)(base:Heap):Prop where
 kin:K.In base
 glob:base.Ns Ci mg
 blt:∃mb,base.Ns Vb mb/\∀x:Str,x ≠ "__name__" -> mb x=Js x
 nolimit:base.NoLimit
def Vi:List Str:=["often", "cut_by"]
def U9(x:Str):Str:=x ++ ".<locals>." ++ "<lambda>"
def Q0(H:Hp)(P:Addr)(q:Str):Prop:=∃(ps:Array Value) (t0:Tok),H P=some (.tbl ps)/\ps[0]? = some (.str q t0)
def zR(K:PySem.W.Frag)(mg:Str->Option Value)(base:Heap)(H:Hp):Prop:=∀x∈Vi,∀c P,PySem.W.tabIn K x=some (c,P)->PySem.W.CodeHd base c P/\base.BuiltinsAt mg P/\Q0 H P (U9 x)
theorem zR.un{K:PySem.W.Frag}(t:zR K mg base H)(u:Un fs ex H H' h h'):zR K mg base H':=λx hx c P e=>by
 obtain ⟨h1,h2,ps,t0,h3,h4⟩:=t x hx c P e
 obtain ⟨more,h5⟩:=u.tbls P ps h3
 refine ⟨h1,h2,ps++more,t0,h5,?_⟩
 have hl:0<ps.size:=by
  rcases Nat.eq_zero_or_pos ps.size with z | z
  ·rw[mT (by omega)] at h4; cases h4
  ·exact z
 rw[Array.getElem?_append_left hl]
 exact h4
structure Cx where
 prog:Bq
 w:World
 K:PySem.W.Frag
 mg:Str->Option Value
 base:Heap
 A:Cr
 N:List Str
 s₀:Aj
 H₀:Hp
 env:Env
 outer:List Env
 stack:List Env
 ex:List Addr
 fn:Str->Bool
 calm:Bool
 pn:List (Addr×Obj)
 xe:Value->Aj->Prop
def tP(l:List Env):List Addr:=l.filterMap (·.frame)
abbrev Cx.fs(X:Cx):List Addr:=tP X.outer
def FG(sc:Scope)(x:Str):Prop:=sc.names.lookup x=some .local\/sc.names.lookup x=some .cell\/sc.names.lookup x=some .free
def Loc(sc:Scope)(x:Str):Prop:=sc.names.lookup x=some .local\/sc.names.lookup x=some .cell
def GC(env:Env)(h:Heap)(m:Str->Option Value)(x:Str)(u:Value):Prop :=
 (env.kindOf x=some .local/\m x=some u)\/((env.kindOf x=some .cell\/env.kindOf x=some .free)/\∃c,env.cells.lookup x=some c/\h.IsCell c (some u))
structure Cx.Ok(X:Cx):Prop where
 mod:Mod X.K X.mg X.base
 kind:X.env.scope.kind=.function
 glob:X.env.globals=Ci
 blt:X.env.builtins=Vb
 above:X.s₀.heap.objs.size<=X.env.locals
 inj:∀x y c,X.env.cells.lookup x=some c->X.env.cells.lookup y=some c->x=y
 has:∀x,(X.env.kindOf x=some .cell\/X.env.kindOf x=some .free)->∃c,X.env.cells.lookup x=some c
 cab:∀x c,X.fn x=true->X.env.cells.lookup x=some c->X.s₀.heap.objs.size<=c
 hd:X.calm=true->X.A.handled=none
 frames:X.A.frames=some X.stack
 stk:X.stack=X.outer\/(X.stack=X.env::X.outer/\X.env.frame=some X.env.locals)
 exf:∀b∈X.ex,b≠X.env.locals/\∀x c,X.env.cells.lookup x=some c->c≠b
 bs:∀b o,X.base.get? b=some o->X.s₀.heap.get? b=some o/\X.H₀ b=none
 bsz:X.base.objs.size<=X.s₀.heap.objs.size
 noex:∀b o,X.base.get? b=some o->b∉X.ex
 exfs:∀b∈X.ex,b∉X.fs
 funs:X.s₀.heap.FunFrames X.base X.outer
 frf:∀b∈X.fs,X.H₀ b=none
 tab:zR X.K X.mg X.base X.H₀
structure Inv(X:Cx)(pins:List (Addr×Obj))(σ:List (Option V))(H:Hp)(s:Aj):Prop where
 ok:X.Ok
 os:s.os=X.s₀.os
 bare:Sj s.gens
 base:Un X.fs X.ex X.H₀ H X.s₀.heap s.heap
 loc:∃m,s.heap.Ns X.env.locals m/\∀(i:Nat) (x:Str) (v:V),X.N[i]? = some x->σ[i]? = some (some v)->FG X.env.scope x->∃u,RelV v u/\GC X.env s.heap m x u
 cell:∀x c,X.env.cells.lookup x=some c->∃v,s.heap.IsCell c v
 free:H X.env.locals=none
 freeC:∀x c,X.env.cells.lookup x=some c->H c=none
 pin:∀p∈X.pn++pins,s.heap.get? p.1=some p.2/\H p.1=none/\p.1≠X.env.locals/\p.1∉X.fs/\∀v,p.2.data≠.cell v
 hok:Wk X.prog X.w H s.heap
 len:σ.length=X.N.length
section
variable{X:Cx}{pins:List (Addr×Obj)}{σ:List (Option V)}{H H':Hp}{s:Aj}{h':Heap}
theorem Cx.Ok.nofr(ok:X.Ok)(e:X.base.get? b=some o):b∉X.fs:=λhb=>by
 have:=(ok.funs.mem hb).1
 rw[e] at this; cases this
theorem Inv.bs(I:Inv X pins σ H s):∀b o,X.base.get? b=some o->s.heap.get? b=some o/\H b=none:=λb o e =>
 ⟨I.base.keep b o (I.ok.bs b o e).1 (I.ok.bs b o e).2 (I.ok.nofr e) (I.ok.noex b o e),I.base.free b o (I.ok.bs b o e).1 (I.ok.bs b o e).2 (I.ok.noex b o e)⟩
theorem Inv.bk(I:Inv X pins σ H s):∀b o,X.base.get? b=some o->s.heap.get? b=some o:=λb o e=>(I.bs b o e).1
theorem Inv.mod(I:Inv X pins σ H s):Mod X.K X.mg X.base:=I.ok.mod
theorem Inv.kIn(I:Inv X pins σ H s):X.K.In s.heap:=I.ok.mod.kin.keeps I.bk
theorem Inv.lt(I:Inv X pins σ H s):X.env.locals<s.heap.objs.size:=let ⟨_,hn,_⟩:=I.loc; hn.lt
theorem Inv.sz(I:Inv X pins σ H s):X.s₀.heap.objs.size<=s.heap.objs.size:=Bz I.ok.above (Pc I.lt)
theorem Inv.nofs(I:Inv X pins σ H s){a:Addr}(h:s.heap.objs.size<=a):a∉X.fs:=λhb=>by
 obtain ⟨_,o,ho,_⟩:=I.ok.funs.mem hb
 exact absurd (Cc (Bh ho) (Bz I.sz h)) (Fk _)
theorem Inv.cne(I:Inv X pins σ H s):∀x c,X.env.cells.lookup x=some c->c≠X.env.locals:=λx c e z=>by
 obtain ⟨v,o,ho,hd⟩:=I.cell x c e
 obtain ⟨m,⟨o',es,ep,ho',hd',_⟩,_⟩:=I.loc
 rw[z,ho'] at ho; cases ho; rw[hd'] at hd; cases hd
theorem Inv.funs(I:Inv X pins σ H s):s.heap.FunFrames X.base X.outer:=by
 have all:∀(l:List Env),(∀b∈tP l,b∈X.fs)->X.s₀.heap.FunFrames X.base l->s.heap.FunFrames X.base l:=by
  intro l
  induction l with
  | nil=>intro _ _; trivial
  | cons env r ih =>
   intro hs hl
   obtain ⟨hk,⟨L,o,hf,hn,ho,hd⟩,hr⟩:=hl
   have hL:L∈X.fs:=hs L (by unfold tP; rw[Of,hf]; exact Ab)
   obtain ⟨sl,e⟩:=I.base.slot L o ho (I.ok.frf L hL) hL λz=>I.ok.exfs L z hL
   exact ⟨hk,⟨L,_,hf,hn,e,hd⟩,ih (λb hb=>hs b (by unfold tP; rw[Of,hf]; exact Ae _ hb)) hr⟩
 exact all X.outer (λ_ hb=>hb) I.ok.funs
theorem Inv.stack(I:Inv X pins σ H s):s.heap.FunFrames X.base X.stack:=by
 rcases I.ok.stk with e | ⟨e,hf⟩
 ·rw[e]; exact I.funs
 ·rw[e]
  obtain ⟨m,hn,_⟩:=I.loc
  refine .cons (by rw[I.ok.kind]; decide) hf hn ?_ I.funs
  exact Heap.get?_none_of_le (Bz I.ok.bsz I.ok.above)
theorem Inv.stkSub(I:Inv X pins σ H s):∀b∈tP X.stack,b∈X.env.locals::X.fs:=λb hb=>by
 rcases I.ok.stk with e | ⟨e,hf⟩
 ·rw[e] at hb; exact Ae _ hb
 ·rw[e] at hb
  unfold tP at hb
  rw[Of,hf] at hb
  exact hb
theorem Inv.stkFree(I:Inv X pins σ H s):∀b∈tP X.stack,H b=none:=λb hb=>by
 rcases Ag.mp (I.stkSub b hb) with e | hb
 ·rw[e]; exact I.free
 ·obtain ⟨_,o,ho,_⟩:=I.ok.funs.mem hb
  exact I.base.free b o ho (I.ok.frf b hb) λz=>I.ok.exfs b z hb
theorem Inv.step{ch:List Addr}(I:Inv X pins σ H s)(hch:∀b∈ch,(b∈X.ex\/X.s₀.heap.objs.size<=b)/\b≠X.env.locals/\(∀x c,X.env.cells.lookup x=some c->c≠b)/\∀p∈X.pn++pins,p.1≠b)(keep:∀b o,b≠X.env.locals->b∉X.fs->b∉ch->s.heap.get? b=some o->H b=none->h'.get? b=some o)(slot:∀b o,b≠X.env.locals->b∈X.fs->b∉ch->s.heap.get? b=some o->H b=none->∃sl,h'.get? b=some { o with slots:=sl })(free:∀b o,b∉ch->s.heap.get? b=some o->H b=none->H' b=none)(there:∀b o,b∉ch->s.heap.get? b=some o->∃o',h'.get? b=some o')(tups:∀b xs,H b=some (.tup xs)->H' b=some (.tup xs))(frzs:∀b o u,H b=some (.frz o u)->H' b=some (.frz o u))(tbls:∀b ps,H b=some (.tbl ps)->∃more,H' b=some (.tbl (ps++more)))(ns:∀m,s.heap.Ns X.env.locals m->h'.Ns X.env.locals m)(hok:Wk X.prog X.w H' h')(hg:Sj g'):Inv X pins σ H' { s with heap:=h',gens:=g',drawn:=d',toks:=t' }:=by
 have neL:∀b o,X.s₀.heap.get? b=some o->b≠X.env.locals:=λb o e=>Cd (Cc (Bh e) I.ok.above)
 have neC:∀b o,X.s₀.heap.get? b=some o->b∉X.ex->b∉ch:=λb o e hx hb=>by
  rcases (hch b hb).1 with z | z
  ·exact hx z
  ·exact absurd (Cc (Bh e) z) (Fk _)
 have cellK:∀x c,X.env.cells.lookup x=some c->∀v,s.heap.IsCell c v->h'.IsCell c v:=λx c e v ⟨o,ho,hd⟩=>by
  have nch:c∉ch:=λz=>(hch c z).2.2.1 x c e rfl
  by_cases hc:c∈X.fs
  ·obtain ⟨sl,q⟩:=slot c o (I.cne x c e) hc nch ho (I.freeC x c e)
   exact ⟨_,q,hd⟩
  ·exact ⟨o,keep c o (I.cne x c e) hc nch ho (I.freeC x c e),hd⟩
 refine ⟨I.ok,I.os,hg,⟨λb o e n hb hx=>?_,λb o e n hb hx=>?_,λb o e n hx=>?_,λb o e hx=>?_,λb xs e=>tups b xs (I.base.tups b xs e),λb o xs e=>frzs b o xs (I.base.frzs b o xs e),λb ps e=>?_⟩,?_,λx c e=>?_,?_,λx c e=>?_,λp hp=>?_,hok,I.len⟩
 ·exact keep b o (neL b o e) hb (neC b o e hx) (I.base.keep b o e n hb hx) (I.base.free b o e n hx)
 ·obtain ⟨sl,e1⟩:=I.base.slot b o e n hb hx
  obtain ⟨sl',e2⟩:=slot b _ (neL b o e) hb (neC b o e hx) e1 (I.base.free b o e n hx)
  exact ⟨sl',e2⟩
 ·obtain ⟨o',e1⟩:=I.base.there b o e hx
  exact free b o' (neC b o e hx) e1 (I.base.free b o e n hx)
 ·obtain ⟨o',e1⟩:=I.base.there b o e hx
  exact there b o' (neC b o e hx) e1
 ·obtain ⟨m1,e1⟩:=I.base.tbls b ps e
  obtain ⟨m2,e2⟩:=tbls b _ e1
  exact ⟨m1++m2,by rw[e2,Array.append_assoc]⟩
 ·obtain ⟨m,hn,hl⟩:=I.loc
  refine ⟨m,ns m hn,λi x v e1 e2 e3=>?_⟩
  obtain ⟨u,r,l⟩:=hl i x v e1 e2 e3
  refine ⟨u,r,?_⟩
  rcases l with l | ⟨k,c,e,z⟩
  ·exact .inl l
  ·exact .inr ⟨k,c,e,cellK x c e _ z⟩
 ·obtain ⟨v,z⟩:=I.cell x c e
  exact ⟨v,cellK x c e v z⟩
 ·obtain ⟨m,⟨o,_,_,ho,_⟩,_⟩:=I.loc
  exact free _ o (λz=>(hch _ z).2.1 rfl) ho I.free
 ·obtain ⟨v,o,ho,hd⟩:=I.cell x c e
  exact free c o (λz=>(hch c z).2.2.1 x c e rfl) ho (I.freeC x c e)
 ·obtain ⟨e,n,ne,nf,d⟩:=I.pin p hp
  have nch:p.1∉ch:=λz=>(hch p.1 z).2.2.2 p hp rfl
  exact ⟨keep p.1 p.2 ne nf nch e n,free p.1 p.2 nch e n,ne,nf,d⟩
theorem Inv.un(I:Inv X pins σ H s)(u:Un X.fs [] H H' s.heap h')(hok:Wk X.prog X.w H' h'):Inv X pins σ H' { s with heap:=h',toks:=t' }:=by
 obtain ⟨m,⟨o,es,ep,ho,r⟩,_⟩:=id I.loc
 obtain ⟨sl,hL⟩:=u.any ho I.free (by simp)
 exact I.step (g':=s.gens) (d':=s.drawn) (ch:=[]) (λ_ z=>nomatch z) (λb o _ hb _ e n=>u.keep b o e n hb (by simp)) (λb o _ hb _ e n=>u.slot b o e n hb (by simp)) (λb o _ e n=>u.free b o e n (by simp)) (λb o _ e=>u.there b o e (by simp)) u.tups u.frzs u.tbls (λm' hm=>by
  obtain ⟨o',es',ep',ho',r'⟩:=hm
  rw[ho] at ho'; cases ho'
  exact ⟨_,es',ep',hL,r'⟩) hok I.bare
theorem Inv.call(I:Inv X pins σ H s)(u:Un (tP X.stack) ch H H' s.heap h')(hok:Wk X.prog X.w H' h')(hg:Sj g')(hch:∀b∈ch,(b∈X.ex\/X.s₀.heap.objs.size<=b)/\b≠X.env.locals/\(∀x c,X.env.cells.lookup x=some c->c≠b)/\∀p∈X.pn++pins,p.1≠b):Inv X pins σ H' { s with heap:=h',gens:=g',drawn:=d',toks:=t' }:=by
 obtain ⟨m,⟨o,es,ep,ho,r⟩,_⟩:=id I.loc
 obtain ⟨sl,hL⟩:=u.any ho I.free λz=>(hch _ z).2.1 rfl
 exact I.step (ch:=ch) hch (λb o hL hb hc e n=>u.keep b o e n (λz=>(Ag.mp (I.stkSub b z)).elim hL hb) hc) (λb o _ _ hc e n=>u.any e n hc) (λb o hc e n=>u.free b o e n hc) (λb o hc e=>u.there b o e hc) u.tups u.frzs u.tbls (λm' hm=>by
  obtain ⟨o',es',ep',ho',r'⟩:=hm
  rw[ho] at ho'; cases ho'
  exact ⟨_,es',ep',hL,r'⟩) hok hg
theorem Inv.turned(I:Inv X pins σ H s)(k:∀b o,b≠it->s.heap.get? b=some o->h'.get? b=some o)(hn:H it=none)(hL:it≠X.env.locals)(h1:it∈X.ex\/X.s₀.heap.objs.size<=it)(h2:∀x c,X.env.cells.lookup x=some c->c≠it)(h3:∀p∈X.pn++pins,p.1≠it):Inv X pins σ H { s with heap:=h',toks:=t' }:=by
 have nit:∀b u,H b=some u->b≠it:=λb u e z=>by rw[z,hn] at e; cases e
 refine I.step (g':=s.gens) (d':=s.drawn) (ch:=[it]) (λb hb=>?_) (λb o _ _ hc e _=>k b o (λz=>hc (by simp [z])) e) (λb o _ _ hc e _=>⟨o.slots,k b o (λz=>hc (by simp [z])) e⟩) (λ_ _ _ _ n=>n)
  (λb o hc e=>⟨o,k b o (λz=>hc (by simp [z])) e⟩) (λ_ _ e=>e) (λ_ _ _ e=>e) (λb ps e=>⟨#[],by rw[e]; simp⟩) (λm hm=>?_) (λb u e=>?_) I.bare
 ·have e:b=it:=by simpa using hb
  subst e
  exact ⟨h1,hL,h2,h3⟩
 ·obtain ⟨o,es,ep,ho,r⟩:=hm
  exact ⟨o,es,ep,k _ o (Lm hL) ho,r⟩
 ·refine (I.hok b u e).stay (λc v hc q=>k c v ?_ q) (λ_ q=>q) λ_ _ q=>q
  rcases hc with z | z
  ·rw[z]; exact nit b u e
  ·exact nit c _ z
theorem Inv.tok(I:Inv X pins σ H s)(t:Nat):Inv X pins σ H { s with toks:=t }:=I.un (h':=s.heap) (t':=t) Un.refl I.hok
theorem Inv.kept(I:Inv X pins σ H s)(k:∀b u,s.heap.get? b=some u->h'.get? b=some u):Inv X pins σ H { s with heap:=h',toks:=t' }:=I.un (Un.kept k) (I.hok.kept k)
theorem Inv.laid{a:Addr}(I:Inv X pins σ H s)(k:∀b u,s.heap.get? b=some u->h'.get? b=some u)(hp:s.heap.objs.size<=a)(new:Hj X.prog X.w (upd H a o) h' a o):Inv X pins σ (upd H a o) { s with heap:=h',toks:=t' }:=I.un (Un.laid k hp (I.hok.fresh hp)) (I.hok.laid k hp new)
theorem Inv.write(I:Inv X pins σ H s)(mu:EJ (H x))(he:e=x\/H e=some (.own x))(k:∀b u,b≠e->s.heap.get? b=some u->h'.get? b=some u)(heo:∃u,h'.get? e=some u)(new:Hj X.prog X.w (upd H x o) h' x o):Inv X pins σ (upd H x o) { s with heap:=h',toks:=t' }:=I.un (Un.write mu he k heo) (I.hok.write mu he k heo new)
theorem Inv.pins_of(I:Inv X pins σ H s)(h:∀p∈pins',s.heap.get? p.1=some p.2/\H p.1=none/\p.1≠X.env.locals/\p.1∉X.fs/\∀v,p.2.data≠.cell v):Inv X pins' σ H s :=
 ⟨I.ok,I.os,I.bare,I.base,I.loc,I.cell,I.free,I.freeC,λp hp=>(Ay.mp hp).elim (λz=>I.pin p (An _ z)) (h p),I.hok,I.len⟩
theorem jR{N:List Str}(hN:N.Nodup){i j:Nat}(a:N[i]? = some x)(b:N[j]? = some x):i=j:=by
 obtain ⟨h1,e1⟩:=Ap.mp a
 obtain ⟨h2,e2⟩:=Ap.mp b
 exact (List.getElem_inj hN).mp (e1.trans e2.symm)
theorem vA(I:Inv X pins σ H s)(hN:X.N.Nodup)(hi:X.N[i]? = some x)(hx:Loc X.env.scope x)(r:RelV v u)(h:∀s',Inv X pins (σ.set i (some v)) H s'->(∃a,Dn a s.heap s'.heap/\(a=X.env.locals\/X.env.cells.lookup x=some a))->Q () s')(hf:X.fn x=true\/X.env.scope.names.lookup x=some .local:=by first | exact .inl rfl | exact .inr rfl | assumption):wpAny M A (storeName X.env x u) Q E s:=by
 obtain ⟨m,hn,hl⟩:=id I.loc
 have hcls:(X.env.scope.kind == .class || (X.env.scope.kind == .module && X.env.locals != X.env.globals))=false:=by rw[I.ok.kind]; rfl
 have hiσ:i<σ.length:=by rw[I.len]; exact (Ap.mp hi).1
 have cne:=I.cne
 have tracked:∀{a:Addr} {h':Heap},(∃o,s.heap.get? a=some o/\H a=none)->Dn a s.heap h'->Wk X.prog X.w H h':=λ{a h'} ha hs b ob e=>by
  obtain ⟨_,_,hfree⟩:=ha
  refine (I.hok b ob e).stay (λc w' hc q=>(hs.2 c ?_).trans q) (λ_ q=>q) λ_ _ q=>q
  rintro rfl
  rcases hc with rfl | hc
  ·rw[hfree] at e; cases e
  ·rw[hfree] at hc; cases hc
 rcases hx with hk | hk
 ·refine wpAny_storeName_local hk hn (λh' hn' hs=>?_) hcls
  obtain ⟨oL,_,_,hoL,_⟩:=id hn
  refine h _ ⟨I.ok,I.os,I.bare,⟨λb o e n hb hx=>?_,λb o e n hb hx=>?_,I.base.free,λb o e hx=>?_,I.base.tups,I.base.frzs,I.base.tbls⟩,⟨_,hn',λj y v' e1 e2 e3=>?_⟩,λy c e=>?_,I.free,I.freeC,λp hp=>?_,tracked ⟨oL,hoL,I.free⟩ hs,by simpa using I.len⟩ ⟨_,hs,.inl rfl⟩
  ·exact (hs.2 b (Cd (Cc (Bh e) I.ok.above))).trans (I.base.keep b o e n hb hx)
  ·obtain ⟨sl,e1⟩:=I.base.slot b o e n hb hx
   exact ⟨sl,(hs.2 b (Cd (Cc (Bh e) I.ok.above))).trans e1⟩
  ·obtain ⟨o',e1⟩:=I.base.there b o e hx
   exact ⟨o',(hs.2 b (Cd (Cc (Bh e) I.ok.above))).trans e1⟩
  ·by_cases hj:j=i
   ·subst hj
    rw[hi] at e1; cases e1
    rw[pN hiσ] at e2
    cases e2
    exact ⟨u,r,.inl ⟨hk,by simp⟩⟩
   ·rw[Nm (Lm hj)] at e2
    obtain ⟨u',r',q⟩:=hl j y v' e1 e2 e3
    refine ⟨u',r',?_⟩
    rcases q with ⟨k,e⟩ | ⟨k,c,e,z⟩
    ·refine .inl ⟨k,?_⟩
     have : y≠x:=λe=>hj (jR hN e1 (e▸hi))
     simp [this,e]
    ·exact .inr ⟨k,c,e,z.sameBut hs (cne y c e)⟩
  ·obtain ⟨w',z⟩:=I.cell y c e
   exact ⟨w',z.sameBut hs (cne y c e)⟩
  ·obtain ⟨e,n,ne,nf,d⟩:=I.pin p hp
   exact ⟨(hs.2 p.1 ne).trans e,n,ne,nf,d⟩
 ·have hfn:X.fn x=true:=by
   rcases hf with z | z
   ·exact z
   ·rw[z] at hk; cases hk
  obtain ⟨c,hc⟩:=I.ok.has x (.inl hk)
  obtain ⟨w',z⟩:=I.cell x c hc
  refine wpAny_storeName_cell I.ok.kind hk hc z (λh' hc' hs=>?_)
  obtain ⟨oc,hoc,hocd⟩:=id z
  refine h { s with heap:=h' } ⟨I.ok,I.os,I.bare,⟨λb o e n hb hx=>?_,λb o e n hb hx=>?_,I.base.free,λb o e hx=>?_,I.base.tups,I.base.frzs,I.base.tbls⟩,⟨m,hn.sameBut hs (Lm (cne x c hc)),λj y v' e1 e2 e3=>?_⟩,λy c' e=>?_,I.free,I.freeC,λp hp=>?_,tracked ⟨oc,hoc,I.freeC x c hc⟩ hs,by simpa using I.len⟩ ⟨c,hs,.inr hc⟩
  ·exact (hs.2 b (Cd (Cc (Bh e) (I.ok.cab x c hfn hc)))).trans (I.base.keep b o e n hb hx)
  ·obtain ⟨sl,e1⟩:=I.base.slot b o e n hb hx
   exact ⟨sl,(hs.2 b (Cd (Cc (Bh e) (I.ok.cab x c hfn hc)))).trans e1⟩
  ·obtain ⟨o',e1⟩:=I.base.there b o e hx
   exact ⟨o',(hs.2 b (Cd (Cc (Bh e) (I.ok.cab x c hfn hc)))).trans e1⟩
  ·by_cases hj:j=i
   ·subst hj
    rw[hi] at e1; cases e1
    rw[pN hiσ] at e2
    cases e2
    exact ⟨u,r,.inr ⟨.inl hk,c,hc,hc'⟩⟩
   ·rw[Nm (Lm hj)] at e2
    obtain ⟨u',r',q⟩:=hl j y v' e1 e2 e3
    refine ⟨u',r',?_⟩
    rcases q with q | ⟨k,c',e,z'⟩
    ·exact .inl q
    ·refine .inr ⟨k,c',e,z'.sameBut hs ?_⟩
     rintro rfl
     exact hj (jR hN e1 (I.ok.inj _ _ _ e hc▸hi))
  ·by_cases hcc:c'=c
   ·subst hcc; exact ⟨_,hc'⟩
   ·obtain ⟨w2,z2⟩:=I.cell y c' e
    exact ⟨w2,z2.sameBut hs hcc⟩
  ·obtain ⟨e,n,ne,nf,d⟩:=I.pin p hp
   refine ⟨(hs.2 p.1 ?_).trans e,n,ne,nf,d⟩
   intro q
   rw[q,hoc] at e
   have q':oc=p.2:=Bn e
   exact d w' (by rw[<- q']; exact hocd)
theorem lW(I:Inv X pins σ H s)(hN:X.N.Nodup)(hi:X.N[i]? = some x)(hx:Loc X.env.scope x)(r:RelV v u)(h:∀s',Inv X pins (σ.set i (some v)) H s'->Q () s')(hf:X.fn x=true\/X.env.scope.names.lookup x=some .local:=by first | exact .inl rfl | exact .inr rfl | assumption):wpAny M A (storeName X.env x u) Q E s :=
 vA I hN hi hx r (λs' I' _=>h s' I') hf
theorem Inv.call'(I:Inv X pins σ H s)(ho:s'.os=s.os)(u:Un (tP X.stack) ch H H' s.heap s'.heap)(hok:Wk X.prog X.w H' s'.heap)(hg:Sj s'.gens)(hch:∀b∈ch,(b∈X.ex\/X.s₀.heap.objs.size<=b)/\b≠X.env.locals/\(∀x c,X.env.cells.lookup x=some c->c≠b)/\∀p∈X.pn++pins,p.1≠b):Inv X pins σ H' s':=by
 obtain ⟨h',g',d',t',o'⟩:=s'
 have e:o'=s.os:=ho
 subst e
 exact I.call (g':=g') (t':=t') (d':=d') u hok hg hch
end
abbrev XK:=Value->Option Addr->Hp->Prop
abbrev St:=List (Option V)
abbrev VK:=V->Hp->Prop
abbrev TE:=St->Hp->VK->Prop
abbrev TT:=St->Hp->(Bool->Hp->Prop)->Prop
abbrev TA:=St->Hp->(List V->Hp->Prop)->Prop
structure Ends where
 nx:St->Hp->Prop
 rt:VK
 bk:St->Hp->Prop:=λ_ _=>False
 ct:St->Hp->Prop:=λ_ _=>False
abbrev TS:=Ends->St->Hp->Prop
def EP(X:Cx)(pins:List (Addr×Obj))(σ:St)(Q:VK)(u:Value)(s':Aj):Prop:=∃v H',Inv X pins σ H' s'/\RelV v u/\Q v H'
def TP(X:Cx)(pins:List (Addr×Obj))(σ:St)(Q:Bool->Hp->Prop)(b:Bool)(s':Aj):Prop:=∃H',Inv X pins σ H' s'/\Q b H'
def AP(X:Cx)(pins:List (Addr×Obj))(σ:St)(Q:List V->Hp->Prop)(us:List Value)(s':Aj):Prop:=∃vs H',Inv X pins σ H' s'/\Ff vs us/\Q vs H'
def SP(X:Cx)(pins:List (Addr×Obj))(D:Ends)(f:Flow)(s':Aj):Prop :=
 match f with
 | .next=>∃σ' H',Inv X pins σ' H' s'/\D.nx σ' H'
 | .brk=>∃σ' H',Inv X pins σ' H' s'/\D.bk σ' H'
 | .cont=>∃σ' H',Inv X pins σ' H' s'/\D.ct σ' H'
 | .ret u=>∃v σ' H',Inv X pins σ' H' s'/\RelV v u/\D.rt v H'
def PE(X:Cx)(e:Expr)(t:TE):Prop :=
 ∀(pins:List (Addr×Obj)) (s:Aj) (σ:St) (H:Hp) (Q:VK),Inv X pins σ H s->t σ H Q->wpAny (model X.prog X.w) X.A (eval e X.env) (EP X pins σ Q) X.xe s
def PT(X:Cx)(e:Expr)(t:TT):Prop :=
 ∀(pins:List (Addr×Obj)) (s:Aj) (σ:St) (H:Hp) (Q:Bool->Hp->Prop),Inv X pins σ H s->t σ H Q->wpAny (model X.prog X.w) X.A (isTrue e X.env (eval e X.env)) (TP X pins σ Q) X.xe s
def PW(X:Cx)(e:Expr)(t:TT):Prop :=
 ∀(whole:Sem Value) (pins:List (Addr×Obj)) (s:Aj) (σ:St) (H:Hp) (Q:Bool->Hp->Prop),Inv X pins σ H s->t σ H Q->wpAny (model X.prog X.w) X.A (isTrue e X.env whole) (TP X pins σ Q) X.xe s
theorem PW.pt(h:PW X e t):PT X e t:=h _
def PA(X:Cx)(es:List Expr)(t:TA):Prop :=
 ∀(pos:Pos) (pins:List (Addr×Obj)) (s:Aj) (σ:St) (H:Hp) (Q:List V->Hp->Prop),Inv X pins σ H s->t σ H Q->wpAny (model X.prog X.w) X.A (spliced (Gw pos (Bp es X.env))) (AP X pins σ Q) X.xe s
def PS(X:Cx)(st:Stmt)(t:TS):Prop :=
 ∀(pins:List (Addr×Obj)) (s:Aj) (σ:St) (H:Hp) (D:Ends),Inv X pins σ H s->t D σ H->wpAny (model X.prog X.w) X.A (exec st X.env) (SP X pins D) X.xe s
def pV(X:Cx)(st:List Stmt)(t:TS):Prop :=
 ∀(pins:List (Addr×Obj)) (s:Aj) (σ:St) (H:Hp) (D:Ends),Inv X pins σ H s->t D σ H->wpAny (model X.prog X.w) X.A (execs st X.env) (SP X pins D) X.xe s
theorem Gj(h:wpAny M A t Q E s)(hQ:∀a s,Q a s->Q' a s):wpAny M A t Q' E s:=Ft h hQ λ_ _ x=>x
section
variable{X:Cx}
theorem ID{a b:Expr}{ta tb:TE}(ha:PE X a ta)(hb:PE X b tb){pins:List (Addr×Obj)}{s:Aj}{σ:St}{R:V->V->Hp->Prop}(I:Inv X pins σ H s)(h:ta σ H λx H1=>tb σ H1 λy H2=>R x y H2){Q:α->Aj->Prop}{f:Value->Value->Sem α}(hf:∀v u s2 x y H2,Inv X pins σ H2 s2->RelV x v->RelV y u->R x y H2->wpAny (model X.prog X.w) X.A (f v u) Q X.xe s2):wpAny (model X.prog X.w) X.A (eval a X.env) (λv s₁=>wpAny (model X.prog X.w) X.A (eval b X.env) (λu s₂=>wpAny (model X.prog X.w) X.A (f v u) Q X.xe s₂) X.xe s₁) X.xe s:=by
 refine Gj (ha pins s σ H _ I h) λv s1 q0_ => ?_
 obtain ⟨x,H1,I1,r1,q1⟩ := q0_
 refine Gj (hb pins s1 σ H1 _ I1 q1) λu s2 q0_ => ?_
 obtain ⟨y,H2,I2,r2,q2⟩ := q0_
 exact hf v u s2 x y H2 I2 r1 r2 q2
def bX(i:Nat):TE:=λσ H Q=>∃v,σ[i]? = some (some v)/\Q v H
def tC(v:V):TE:=λ_ H Q=>Q v H
theorem W3{pos:Pos}(hN:X.N[i]? = some x)(hv:FG X.env.scope x)(hd:(x == ("__debug__" : Str))=false:=by decide)(hcd:(x == ("__classdict__" : Str))=false:=by decide):PE X (.Name x pos) (bX i):=by
 intro pins s σ H Q I h
 obtain ⟨v,e,h⟩:=h
 obtain ⟨m,hn,hl⟩:=I.loc
 obtain ⟨u,r,l⟩:=hl i x v hN e hv
 have fin:EP X pins σ Q u s:=⟨v,H,I,r,h⟩
 rcases l with ⟨hk,hm⟩ | ⟨hk,c,hc,hcell⟩
 ·exact wpAny_Name (wpAny_loadName_local I.ok.kind hk hn hm fin) hd
 ·rcases hk with hk | hk
  ·exact wpAny_Name (wpAny_loadName_cell I.ok.kind hk hc hcell fin) hd
  ·exact wpAny_Name (wpAny_loadName_free I.ok.kind hk hc hcell fin hcd) hd
theorem Fb:PE X (.Constant (.int i) j pos) (tC (.int i)):=λ_ _ _ H _ I h=>wpAny_Constant_int ⟨.int i,H,I.tok _,⟨_,rfl⟩,h⟩
theorem yD:PE X (.Constant (.bool b) j pos) (tC (.bl b)):=λ_ _ _ H _ I h=>Constant_bool ⟨.bl b,H,I,rfl,h⟩
theorem S9:PE X (.Constant .none j pos) (tC .non):=λ_ _ _ H _ I h=>Constant_none ⟨.non,H,I,rfl,h⟩
def Gl(X:Cx)(x:Str):Prop:=X.env.kindOf x=some .globalImplicit
theorem rV{E:Value->Aj->Prop}{pins:List (Addr×Obj)}{s:Aj}{σ:St}(I:Inv X pins σ H s)(hg:Gl X x)(hm:X.mg x=some u)(h:Q u s)(hd:(x == ("__debug__" : Str))=false:=by decide):wpAny (model X.prog X.w) X.A (eval (.Name x pos) X.env) Q E s :=
 fP I.ok.kind hg (Calls.loadGlobal_global (by rw[I.ok.glob]; exact I.mod.glob.keeps I.bk) hm h) hd
theorem Nz{E:Value->Aj->Prop}{pins:List (Addr×Obj)}{s:Aj}{σ:St}{pos:Pos}(I:Inv X pins σ H s)(hg:Gl X x)(hm:X.mg x=none)(hv:Js x=some u)(h:Q u s)(hn:x ≠ "__name__" := by decide)(hd:(x == ("__debug__" : Str))=false:=by decide):wpAny (model X.prog X.w) X.A (eval (.Name x pos) X.env) Q E s:=by
 obtain ⟨mb,h1,h2⟩:=I.mod.blt
 exact fP I.ok.kind hg (Calls.loadGlobal_builtin (by rw[I.ok.glob]; exact I.mod.glob.keeps I.bk) hm (by rw[I.ok.blt]; exact h1.keeps I.bk) ((h2 x hn).trans hv) h) hd
theorem I0{pos:Pos}(hg:Gl X x)(hm:X.mg x=none)(hv:Js x=some u)(r:RelV v u)(hn:x ≠ "__name__" := by decide)(hd:(x == ("__debug__" : Str))=false:=by decide):PE X (.Name x pos) (tC v) :=
 λ_ _ _ H _ I h=>Nz I hg hm hv ⟨v,H,I,r,h⟩ hn hd
variable{a b:Expr}{ta tb:TE}{pos:Pos}
def PC(X:Cx)(op:CmpOp)(a b:Expr)(t:TE):Prop :=
 ∀(pins:List (Addr×Obj)) (s:Aj) (σ:St) (H:Hp) (Q:VK),Inv X pins σ H s->t σ H Q ->
  wpAny (model X.prog X.w) X.A (eval a X.env) (λv s₁=>wpAny (model X.prog X.w) X.A (eval b X.env) (λu s₂=>wpAny (model X.prog X.w) X.A (Kc op v u) (EP X pins σ Q) X.xe s₂) X.xe s₁) X.xe s
theorem t9(b:Expr)(h:op≠.In)(h2:op≠.NotIn):Gf op b=false:=by
 have e1:(op == CmpOp.In)=false:=by cases op <;> first | rfl | exact absurd rfl h
 have e2:(op == CmpOp.NotIn)=false:=by cases op <;> first | rfl | exact absurd rfl h2
 cases b <;> simp [Gf,e1,e2]
def tB(t:TE):TT:=λσ H Q=>t σ H λx H1=>∃c,x=.bl c/\Q c H1
theorem GH(h:PC X op a b t)(h1:Gf op b=false:=by first | exact t9 _ (by decide) (by decide) | rfl):PT X (.Compare a [op] [b] pos) (tB t):=by
 intro pins s σ H Q I hw
 refine wpAny_isTrue_Compare1 (Gj (h pins s σ H _ I hw) λv s1 h1=>Gj h1 λu s2 h2=>Gj h2 λc s3 ⟨x,H1,I1,r1,q1⟩=>?_) h1
 obtain ⟨d,rfl,q⟩:=q1
 cases r1
 exact Fq ⟨H1,I1,q⟩
theorem wK(h:PE X e t)(he:∀whole,isTrue e X.env whole=(do let v <- whole; standAt e.pos; holding [v] (truthy v)):=by intro _; rfl):PT X e (tB t):=by
 intro pins s σ H Q I hw
 refine isTrue_plain (Gj (h pins s σ H _ I hw) λv s1 ⟨x,H1,I1,r1,q1⟩=>?_) (he _)
 obtain ⟨d,rfl,q⟩:=q1
 cases r1
 exact Fq ⟨H1,I1,q⟩
variable{tA tB':TT}{Gk:List Expr}
def GJ(t u:TT):TT:=λσ H Q=>t σ H λc H1=>if c=true then u σ H1 Q else Q false H1
def HM(t u:TT):TT:=λσ H Q=>t σ H λc H1=>if c=true then Q true H1 else u σ H1 Q
def FV(t:TT):TT:=λσ H Q=>t σ H λc H1=>Q (!c) H1
theorem x8(ha:PT X a tA):PW X (.BoolOp .And [a] pos) tA:=by
 intro wh pins s σ H Q I h
 refine isTrue_and (Gj (ha pins s σ H Q I h) λc s1 e=>?_)
 cases c with
 | true=>exact isTrue_and_nil e
 | false=>exact e
theorem AB(ha:PT X a tA):PW X (.BoolOp .Or [a] pos) tA:=by
 intro wh pins s σ H Q I h
 refine isTrue_or (Gj (ha pins s σ H Q I h) λc s1 e=>?_)
 cases c with
 | false=>exact isTrue_or_nil e
 | true=>exact e
theorem Y0(ha:PT X a tA)(hb:PW X (.BoolOp .And (b::Gk) pos) tB'):PW X (.BoolOp .And (a::b::Gk) pos) (GJ tA tB'):=by
 intro wh pins s σ H Q I h
 refine isTrue_and (Gj (ha pins s σ H _ I h) λc s1 q0_ => ?_)
 obtain ⟨H1,I1,q1⟩ := q0_
 cases c with
 | true=>exact hb wh pins s1 σ H1 Q I1 q1
 | false=>exact ⟨H1,I1,q1⟩
theorem AS(ha:PT X a tA)(hb:PW X (.BoolOp .Or (b::Gk) pos) tB'):PW X (.BoolOp .Or (a::b::Gk) pos) (HM tA tB'):=by
 intro wh pins s σ H Q I h
 refine isTrue_or (Gj (ha pins s σ H _ I h) λc s1 q0_ => ?_)
 obtain ⟨H1,I1,q1⟩ := q0_
 cases c with
 | true=>exact ⟨H1,I1,q1⟩
 | false=>exact hb wh pins s1 σ H1 Q I1 q1
theorem Z1(ha:PT X a tA):PT X (.UnaryOp .Not a pos) (FV tA):=by
 intro pins s σ H Q I h
 exact isTrue_not (ha pins s σ H (λc H1=>Q (!c) H1) I h)
def AU(ta tb:TE):TE:=λσ H Q=>ta σ H λx H1=>∃c,x=.bl c/\if c=true then tb σ H1 Q else Q (.bl false) H1
def DU(ta:TE):TE:=λσ H Q=>ta σ H λx H1=>∃c,x=.bl c/\Q (.bl (!c)) H1
theorem Z7(h:PE X a t):PE X (.BoolOp op [a] pos) t:=λpins s σ H Q I hw=>BoolOp_one (h pins s σ H Q I hw)
theorem T3(ha:PE X a ta)(hb:PE X (.BoolOp .And (b::Gk) pos) tb):PE X (.BoolOp .And (a::b::Gk) pos) (AU ta tb):=by
 intro pins s σ H Q I h
 refine BoolOp_and (Gj (ha pins s σ H _ I h) λv s1 q0_ => ?_)
 obtain ⟨x,H1,I1,r1,q1⟩ := q0_
 obtain ⟨c,rfl,q1⟩:=q1
 cases r1
 refine Fq ?_
 cases c with
 | true=>exact hb pins s1 σ H1 Q I1 q1
 | false=>exact ⟨.bl false,H1,I1,rfl,q1⟩
theorem AG(ha:PE X a ta):PE X (.UnaryOp .Not a pos) (DU ta):=by
 intro pins s σ H Q I h
 refine UnaryOp_ (Gj (ha pins s σ H _ I h) λv s1 q0_ => ?_)
 obtain ⟨x,H1,I1,r1,q1⟩ := q0_
 obtain ⟨c,rfl,q1⟩:=q1
 cases r1
 exact not_of (Fq ⟨.bl (!c),H1,I1,rfl,q1⟩)
end
def Mc(K:PySem.W.Frag)(H:Hp)(a:Addr)(xs:List V):Prop :=
 Rd H a (.lst xs) \/
  ∃(o:Obj) (its:Array Value) (n:Nat),K.lookup a=some o/\o.cls=.type "list" /\ o.dict=none/\o.data=.seq its n/\its.size<=Au/\Ff xs its.toList
def Up(K:PySem.W.Frag)(H:Hp)(a:Addr)(xs:List V):Prop :=
 Rd H a (.tup xs) \/
  ∃(o:Obj) (its:Array Value) (n:Nat),K.lookup a=some o/\o.cls=.type "tuple" /\ o.data=.seq its n/\its.size<=Au/\Ff xs its.toList
def FZ:Value->Option V
 | .none=>some .non
 | .bool b=>some (.bl b)
 | .int i _=>some (.int i)
 | .str x _=>some (.str x)
 | .bytes b _=>some (.byt b)
 | .float b _=>some (.flt b)
 | .ref a=>some (.ref a)
 | .type n=>some (.ty n)
 | _=>none
theorem RelV.abs(r:RelV x u):FZ u=some x:=by
 cases x with
 | non=>cases r; rfl
 | bl _=>cases r; rfl
 | int _=>obtain ⟨t,rfl⟩:=r; rfl
 | str _=>obtain ⟨t,rfl⟩:=r; rfl
 | byt _=>obtain ⟨t,rfl⟩:=r; rfl
 | flt _=>obtain ⟨t,rfl⟩:=r; rfl
 | ref _=>cases r; rfl
 | ty _=>cases r; rfl
theorem RelV.inj(r:RelV x u)(q:RelV y u):x=y:=Bn (r.abs.symm.trans q.abs)
theorem Ff.inj:∀{xs ys:List V} {us:List Value},Ff xs us->Ff ys us->xs=ys
 | _,_,_,.nil,.nil=>rfl
 | _,_,_,.cons r t,.cons r' t'=>by rw[r.inj r',Ff.inj t t']
section
variable{X:Cx}{pins:List (Addr×Obj)}{σ:St}{H:Hp}{s:Aj}{a:Addr}{xs ys:List V}
theorem Mc.of{K:PySem.W.Frag}(h:H a=some (.lst xs)):Mc K H a xs:=.inl (.inl h)
theorem Up.of{K:PySem.W.Frag}(h:H a=some (.tup xs)):Up K H a xs:=.inl (.inl h)
theorem Inv.list(I:Inv X pins σ H s)(h:Mc X.K H a xs):∃its:List Value,Ff xs its/\PlainL s.heap a its.toArray/\xs.length<=Au:=by
 rcases h with h | ⟨o,its,n,hk,hc,hd,hs,hz,r⟩
 ·obtain ⟨z,its,n,r,e⟩:=h.ok I.hok
  exact ⟨its,r,⟨_,n,e,rfl,rfl,rfl⟩,z⟩
 ·refine ⟨its.toList,r,⟨o,n,I.kIn a o hk,hc,hd,by simpa using hs⟩,?_⟩
  have e:=r.length
  simp only[Az] at e
  omega
theorem Inv.tuple(I:Inv X pins σ H s)(h:Up X.K H a xs):∃its:List Value,Ff xs its/\IsTup s.heap a its.toArray/\xs.length<=Au:=by
 rcases h with h | ⟨o,its,n,hk,hc,hs,hz,r⟩
 ·obtain ⟨z,its,r,p⟩:=h.ok I.hok
  exact ⟨its,r,p,z⟩
 ·refine ⟨its.toList,r,⟨o,I.kIn a o hk,hc,n,by simpa using hs⟩,?_⟩
  have e:=r.length
  simp only[Az] at e
  omega
theorem Inv.list_inj(I:Inv X pins σ H s)(h:Mc X.K H a xs)(h':Mc X.K H a ys):xs=ys:=by
 obtain ⟨its,r,⟨o,n,e,_,_,d⟩,_⟩:=I.list h
 obtain ⟨its',r',⟨o',n',e',_,_,d'⟩,_⟩:=I.list h'
 rw[e] at e'; cases e'
 rw[d] at d'
 injection d' with d1 _
 have : its=its':=by simpa using congrArg Array.toList d1
 subst this
 exact r.inj r'
theorem Inv.tuple_inj(I:Inv X pins σ H s)(h:Up X.K H a xs)(h':Up X.K H a ys):xs=ys:=by
 obtain ⟨its,r,⟨o,e,_,n,d⟩,_⟩:=I.tuple h
 obtain ⟨its',r',⟨o',e',_,n',d'⟩,_⟩:=I.tuple h'
 rw[e] at e'; cases e'
 rw[d] at d'
 injection d' with d1 _
 have : its=its':=by simpa using congrArg Array.toList d1
 subst this
 exact r.inj r'
end
abbrev Cx.wish(X:Cx)(E:Value->Aj->Prop):Cx:={ X with xe:=E }
abbrev Cx.nox(X:Cx):Cx:=X.wish λ_ _=>False
theorem Cx.Ok.wish{X:Cx}(ok:X.Ok)(E:Value->Aj->Prop):(X.wish E).Ok :=
 ⟨ok.mod,ok.kind,ok.glob,ok.blt,ok.above,ok.inj,ok.has,ok.cab,ok.hd,ok.frames,ok.stk,ok.exf,ok.bs,ok.bsz,ok.noex,ok.exfs,ok.funs,ok.frf,ok.tab⟩
theorem Cx.Ok.unwish{X:Cx}(ok:(X.wish E).Ok):X.Ok :=
 ⟨ok.mod,ok.kind,ok.glob,ok.blt,ok.above,ok.inj,ok.has,ok.cab,ok.hd,ok.frames,ok.stk,ok.exf,ok.bs,ok.bsz,ok.noex,ok.exfs,ok.funs,ok.frf,ok.tab⟩
section
variable{X:Cx}{pins:List (Addr×Obj)}{σ:St}{H:Hp}{s:Aj}{E:Value->Aj->Prop}
theorem Inv.wish(I:Inv X pins σ H s)(E:Value->Aj->Prop):Inv (X.wish E) pins σ H s:=⟨I.ok.wish E,I.os,I.bare,I.base,I.loc,I.cell,I.free,I.freeC,I.pin,I.hok,I.len⟩
theorem Inv.unwish(I:Inv (X.wish E) pins σ H s):Inv X pins σ H s:=⟨I.ok.unwish,I.os,I.bare,I.base,I.loc,I.cell,I.free,I.freeC,I.pin,I.hok,I.len⟩
theorem SP.unwish(h:SP (X.wish E) pins D f s'):SP X pins D f s':=by
 cases f with
 | next=>obtain ⟨σ',H',I,q⟩:=h; exact ⟨σ',H',I.unwish,q⟩
 | brk=>obtain ⟨σ',H',I,q⟩:=h; exact ⟨σ',H',I.unwish,q⟩
 | cont=>obtain ⟨σ',H',I,q⟩:=h; exact ⟨σ',H',I.unwish,q⟩
 | ret u=>obtain ⟨v,σ',H',I,r,q⟩:=h; exact ⟨v,σ',H',I.unwish,r,q⟩
theorem pV.nox{st:List Stmt}(h:pV X.nox st t):pV X st t:=λpins s σ H D I hw =>
 Ft (h pins s σ H D (I.wish _) hw) (λ_ _ q=>q.unwish) λ_ _ z=>Ka z
end
section
variable{X:Cx}{st:Stmt}{Gk:List Stmt}{t u:TS}{e:Expr}{te:TE}{pos:Pos}
def BV:TS:=λD σ H=>D.nx σ H
def GE(t u:TS):TS:=λD σ H=>t { D with nx:=u D } σ H
theorem hV:pV X [] BV:=λ_ _ σ H _ I h=>wpAny_execs_nil ⟨σ,H,I,h⟩
theorem Hw(h1:PS X st t)(h2:pV X Gk u):pV X (st::Gk) (GE t u):=by
 intro pins s σ H D I h
 refine wpAny_execs_cons (Gj (h1 pins s σ H { D with nx:=u D } I h) λf s1 q=>?_)
 cases f with
 | next =>
  obtain ⟨σ',H',I',q⟩:=q
  exact h2 pins s1 σ' H' D I' q
 | ret v=>exact q
 | brk=>exact q
 | cont=>exact q
theorem Nh(h1:PS X st t):pV X [st] t:=by
 intro pins s σ H D I h
 refine wpAny_execs_cons (Gj (h1 pins s σ H D I h) λf s1 q=>?_)
 cases f with
 | next=>exact wpAny_execs_nil q
 | ret v=>exact q
 | brk=>exact q
 | cont=>exact q
theorem Inv.quiet{σ:St}(I:Inv X pins σ H s):interactive X.env=false:=by simp [interactive,I.ok.kind]
def BF(te:TE):TS:=λD σ H=>te σ H λ_ H1=>D.nx σ H1
theorem sL(he:PE X e te)(hs:Kb e none pos.line X.env=pure false:=by rfl):PS X (.Expr e pos) (BF te):=by
 intro pins s σ H D I h
 exact wpAny_Expr_any (Gj (he pins s σ H _ I h) λv s1 ⟨x,H1,I1,r1,q1⟩=>⟨σ,H1,I1,q1⟩) I.quiet hs
def GG(te:TE):TS:=λD σ H=>te σ H D.rt
theorem Uj(he:PE X e te):PS X (.Return (some e) pos) (GG te):=by
 intro pins s σ H D I h
 exact wpAny_Return_some (Gj (he pins s σ H _ I h) λv s1 ⟨x,H1,I1,r1,q1⟩=>⟨x,σ,H1,I1,r1,q1⟩)
def GK(c:TT)(t u:TS):TS:=λD σ H=>c σ H λb H1=>if b=true then t D σ H1 else u D σ H1
theorem vQ(hc:PT X c tc)(ha:pV X a t)(hb:pV X b u):PS X (.If c a b pos) (GK tc t u):=by
 intro pins s σ H D I h
 refine wpAny_If (Gj (hc pins s σ H _ I h) λd s1 q0_ => ?_)
 obtain ⟨H1,I1,q1⟩ := q0_
 cases d with
 | true=>exact ha pins s1 σ H1 D I1 q1
 | false=>exact hb pins s1 σ H1 D I1 q1
end
abbrev TG:=V->St->Hp->(St->Hp->Prop)->Prop
abbrev x9:=List V->St->Hp->(St->Hp->Prop)->Prop
def PG(X:Cx)(target:Expr)(t:TG):Prop :=
 ∀(pins:List (Addr×Obj)) (s:Aj) (σ:St) (H:Hp) (v:V) (u:Value) (Q:St->Hp->Prop),Inv X pins σ H s->RelV v u->t v σ H Q ->
  wpAny (model X.prog X.w) X.A (assign target X.env u) (λ_ s'=>∃σ' H',Inv X pins σ' H' s'/\Q σ' H') X.xe s
def W7(X:Cx)(ts:List Expr)(t:x9):Prop :=
 ∀(pins:List (Addr×Obj)) (s:Aj) (σ:St) (H:Hp) (vs:List V) (us:List Value) (Q:St->Hp->Prop),Inv X pins σ H s->Ff vs us->t vs σ H Q ->
  wpAny (model X.prog X.w) X.A (assignInOrder ((Kz ts X.env).map (·.2)) us) (λ_ s'=>∃σ' H',Inv X pins σ' H' s'/\Q σ' H') X.xe s
abbrev V3:=V->V->V->Hp->(Hp->Prop)->Prop
def EO(X:Cx)(t:V3):Prop :=
 ∀(pins:List (Addr×Obj)) (s:Aj) (σ:St) (H:Hp) (o i v:V) (ov iv u:Value) (Q:Hp->Prop),Inv X pins σ H s->RelV o ov->RelV i iv->RelV v u->t o i v H Q ->
  wpAny (model X.prog X.w) X.A (setItem ov iv u) (λ_ s'=>∃H',Inv X pins σ H' s'/\Q H') X.xe s
section
variable{X:Cx}{pos:Pos}
def Yb(i:Nat):TG:=λv σ H Q=>Q (σ.set i (some v)) H
theorem Ow(hN:X.N.Nodup)(hi:X.N[i]? = some x)(hx:Loc X.env.scope x)(hf:X.fn x=true\/X.env.scope.names.lookup x=some .local:=by first | exact .inl rfl | exact .inr rfl | assumption):PG X (.Name x pos) (Yb i):=by
 intro pins s σ H v u Q I r h
 exact wpAny_assign_Name (lW I hN hi hx r (λs' I'=>⟨_,H,I',h⟩) hf)
def CG:x9:=λvs σ H Q=>vs=[]/\Q σ H
def xT(t:TG)(u:x9):x9:=λvs σ H Q=>∃v r,vs=v::r/\t v σ H λσ' H'=>u r σ' H' Q
theorem sF:W7 X [] CG:=by
 intro pins s σ H vs us Q I r h
 obtain ⟨e,h⟩:=h
 subst e
 cases r
 exact assignInOrder_nil ⟨σ,H,I,h⟩
theorem bQ(h1:PG X e t)(h2:W7 X es u)(hs:(Kz (e::es) X.env).map (·.2)=assign e X.env::(Kz es X.env).map (·.2):=by rfl):W7 X (e::es) (xT t u):=by
 intro pins s σ H vs us Q I r h
 obtain ⟨v,vr,e1,h⟩:=h
 subst e1
 cases r with
 | cons r rr =>
  rw[hs]
  refine assignInOrder_cons (Gj (h1 pins s σ H _ _ _ I r h) λ_ s1 q0_ => ?_)
  obtain ⟨σ1,H1,I1,q1⟩ := q0_
  exact h2 pins s1 σ1 H1 _ _ Q I1 rr q1
def CW(K:PySem.W.Frag)(n:Nat)(t:x9):TG:=λv σ H Q=>∃a xs,v=.ref a/\Up K H a xs/\xs.length=n/\t xs σ H Q
theorem zH{k:Nat}(hc:X.calm=true)(h:W7 X es t)(hn:(Kz es X.env).length=n:=by rfl)(hst:(Kz es X.env).findIdx? (·.1)=none:=by rfl):PG X (.Tuple es k pos) (CW X.K n t):=by
 intro pins s σ H v u Q I r hw
 obtain ⟨a,xs,e1,hq,hl,hw⟩:=hw
 subst e1
 cases r
 obtain ⟨its,rv,ht,hz⟩:=I.tuple hq
 refine assign_Tuple_tuple (I.ok.hd hc) ht (by simp [hn,<- hl,rv.length]) hst λh' hx=>?_
 have I1:Inv X pins σ H { s with heap:=h' }:=I.kept (t':=s.toks) λb o e=>hx b o (Cd (Bh e)) e
 exact h pins _ σ H xs _ Q I1 (by simpa using rv) hw
def GL(to ti:TE)(t:V3):TG:=λv σ H Q=>to σ H λo H1=>ti σ H1 λi H2=>t o i v H2 λH3=>Q σ H3
theorem r6(ho:PE X o to)(hi:PE X i ti)(hs:EO X t)
  (ha:∀v,assign (.Subscript o i pos) X.env v=(do
   let ov <- holding [v] (eval o X.env)
   let iv <- holding [v,ov] (eval i X.env)
   standAt pos
   holding [v,ov,iv] (setItem ov iv v)
   release [v,ov,iv] []):=by intro _; rfl):PG X (.Subscript o i pos) (GL to ti t):=by
 intro pins s σ H v u Q I r h
 rw[ha]
 refine Aa (Dd (Gj (ho pins s σ H _ I h) λov s1 q0_ => ?_))
 obtain ⟨x,H1,I1,r1,q1⟩ := q0_
 refine Aa (Dd (Gj (hi pins s1 σ H1 _ I1 q1) λiv s2 q0_ => ?_))
 obtain ⟨y,H2,I2,r2,q2⟩ := q0_
 refine Aa (wpAny_standAt (Aa (Dd (Gj (hs pins s2 σ H2 x y v ov iv u _ I2 r1 r2 r q2) λ_ s3 q0_ => ?_))))
 obtain ⟨H3,I3,q3⟩ := q0_
 exact wpAny_release ⟨σ,H3,I3,q3⟩
def F6(te:TE)(g:TG):TS:=λD σ H=>te σ H λx H1=>g x σ H1 D.nx
theorem vX(he:PE X e te)(hg:PG X tg g)(hs:swapsWithSole [tg] e pos.line X.env=pure false:=by rfl)(hw:swappedStores [tg] e X.env=pure none:=by rfl)(h1:(Kz [tg] X.env).map (·.2)=[assign tg X.env]:=by rfl):PS X (.Assign [tg] e pos) (F6 te g):=by
 intro pins s σ H D I h
 refine wpAny_Assign_stores (Gj (he pins s σ H _ I h) λv s1 ⟨x,H1,I1,r1,q1⟩=>?_) hs hw
 rw[h1]
 exact Gj (hg pins s1 σ H1 x v _ I1 r1 q1) λ_ s2 q=>q
theorem Ph(hN:X.N.Nodup)(hi:X.N[i]? = some x)(hx:Loc X.env.scope x)(he:PE X e te)(hs:Kb e (some (.Name x pos')) pos.line X.env=pure false:=by rfl)(hf:X.fn x=true\/X.env.scope.names.lookup x=some .local:=by first | exact .inl rfl | exact .inr rfl | assumption):PS X (.Assign [.Name x pos'] e pos) (F6 te (Yb i)):=by
 intro pins s σ H D I h
 refine wpAny_Assign_Name (Gj (he pins s σ H _ I h) λv s1 ⟨y,H1,I1,r1,q1⟩=>?_) hs
 exact lW I1 hN hi hx r1 (λs2 I2=>⟨_,H1,I2,q1⟩) hf
end
structure It where
 go:Nat->Hp->Prop
 yld:Nat->Hp->V->Hp->Prop
 stop:Nat->Hp->Prop
def Ms(X:Cx)(pins:List (Addr×Obj))(H:Hp)(b:Addr):Prop :=
 H b=none/\b≠X.env.locals/\b∉X.fs/\(b∈X.ex\/X.s₀.heap.objs.size<=b)/\(∀x c,X.env.cells.lookup x=some c->c≠b)/\∀p∈X.pn++pins,p.1≠b
theorem Inv.fpOk{σ:St}{b:Addr}(I:Inv X pins σ H s)(hb:s.heap.objs.size<=b)(hn:H' b=none):Ms X pins H' b:=by
 refine ⟨hn,Nat.ne_of_gt (Cc I.lt hb),I.nofs hb,.inr (Bz I.sz hb),λx c e z=>?_,λp hp z=>?_⟩
 ·obtain ⟨v,q⟩:=I.cell x c e
  exact absurd (Cc q.lt (by rw[z]; exact hb)) (Fk _)
 ·exact absurd (Cc (Bh (I.pin p hp).1) (by rw[z]; exact hb)) (Fk _)
structure Turn(P:Bq)(w:World)(K:PySem.W.Frag)(tg:Expr)(J:It)(fp:List Addr)(it:Addr)(tn:Nat->Heap->Prop):Prop where
 mem:it∈fp
 obj:∀i h,tn i h->∀b∈fp,∃o,h.get? b=some o/\∀v,o.data≠.cell v
 keep:∀i h h',tn i h->(∀b∈fp,∀o,h.get? b=some o->h'.get? b=some o)->tn i h'
 item:∀(X:Cx),X.prog=P->X.w=w->X.K=K->X.calm=true->∀(i:Nat) (pins:List (Addr×Obj)) (s:Aj) (σ:St) (H:Hp) (E:Value->Aj->Prop),Inv X pins σ H s->(∀b∈fp,Ms X pins H b)->tn i s.heap->J.go i H ->
  wpAny (model P w) X.A (Kx (.ref it)) (λr s1=>∃u,r=some u /\
   wpAny (model P w) X.A (Wf tg (.ref it) u) (λ_ s2=>∃x H',Inv X pins σ H' s2/\RelV x u/\J.yld i H x H'/\tn (i+1) s2.heap/\∀b∈fp,H' b=none) E s1) E s
 done:∀(X:Cx),X.prog=P->X.w=w->X.K=K->X.calm=true->∀(i:Nat) (pins:List (Addr×Obj)) (s:Aj) (σ:St) (H:Hp) (E:Value->Aj->Prop),Inv X pins σ H s->(∀b∈fp,Ms X pins H b)->tn i s.heap->J.stop i H ->
  wpAny (model P w) X.A (Kx (.ref it)) (λr s1=>r=none/\Inv X pins σ H s1) E s
 self:∀(A:Cr) (i:Nat) (s:Aj) (Q:Value->Aj->Prop) (E:Value->Aj->Prop),tn i s.heap->Q (.ref it) s->wpAny (model P w) A (pyIter (.ref it)) Q E s
abbrev TI:=St->Hp->(It->Hp->Prop)->Prop
def HJ(X:Cx)(pins:List (Addr×Obj))(σ:St)(tg:Expr)(R:It->Hp->Prop)(itv:Value)(s2:Aj):Prop :=
 ∃(it:Addr) (fp:List Addr) (tn:Nat->Heap->Prop) (J:It) (H':Hp),itv=.ref it/\Inv X pins σ H' s2/\Turn X.prog X.w X.K tg J fp it tn/\tn 0 s2.heap/\(∀b∈fp,Ms X pins H' b)/\R J H'
def PI(X:Cx)(tg iter:Expr)(wi:TI):Prop :=
 ∀(pins:List (Addr×Obj)) (s:Aj) (σ:St) (H:Hp) (R:It->Hp->Prop),Inv X pins σ H s->wi σ H R ->
  wpAny (model X.prog X.w) X.A (eval iter X.env) (λv s1=>wpAny (model X.prog X.w) X.A (pyIter v) (HJ X pins σ tg R) X.xe s1) X.xe s
theorem qG(ho:s.heap.get? it=some o)(hc:o.cls=.type n)(hd:o.data=.fields vs)(hn:["enumerate", "zip", "dict_itemiterator", "dict_reverseitemiterator", "odict_iterator", "itertools.zip_longest", "itertools.pairwise"].contains n=false)(hQ:Q () s):wpAny M A (Wf tg (.ref it) u) Q E s:=by
  unfold Wf
  cases tg <;> first
    | exact Am hQ
    | (cases u <;> first
        | exact Am hQ
        | (refine Aa (wpAny_load ho ?_)
           rw[hc,hd]
           show wpAny M A (if (["enumerate", "zip", "dict_itemiterator", "dict_reverseitemiterator", "odict_iterator", "itertools.zip_longest", "itertools.pairwise"].contains n && vs[0]? == some (Jr _))=true then _ else _) Q E s
           rw[if_neg (by intro h; rw[hn,Bool.false_and] at h; cases h)]
           exact Am hQ))
def EX(K:PySem.W.Frag)(a:Addr):It :=
 ⟨λi H=>∃xs x,Mc K H a xs/\xs[i]? = some x,λi H x H'=>H'=H/\∀xs,Mc K H a xs->xs[i]? = some x,λi H=>∃xs,Mc K H a xs/\xs.length<=i⟩
def FU(K:PySem.W.Frag)(a:Addr):It :=
 ⟨λi H=>∃xs x,Up K H a xs/\xs[i]? = some x,λi H x H'=>H'=H/\∀xs,Up K H a xs->xs[i]? = some x,λi H=>∃xs,Up K H a xs/\xs.length<=i⟩
def O7(lo:Int)(n:Nat):It:=⟨λi _=>i<n,λi H x H'=>H'=H/\x=.int (lo+i),λi _=>n<=i⟩
theorem uG{K:PySem.W.Frag}(a it:Addr):Turn P w K tg (EX K a) [it] it (λi h=>h.IsListIter it a i) where
 mem:=by simp
 obj:=λi h st b hb=>by
  have e:b=it:=by simpa using hb
  subst e
  obtain ⟨o,e,c,d⟩:=st
  exact ⟨o,e,λv z=>by rw[d] at z; cases z⟩
 keep:=λi h h' st k=>st.at λo e=>k it (by simp) o e
 item:=by
  intro X hP hw hK hc i pins s σ H E I hf st hg
  subst hP hw hK
  obtain ⟨xs,x,hq,hx⟩:=hg
  obtain ⟨its,rv,p,hz⟩:=I.list hq
  obtain ⟨u,hu,ru⟩:=rv.get hx
  obtain ⟨f0,f1,f2,f3,f4,f5⟩:=hf it (by simp)
  refine wpAny_pyNext_list_item st p.isList (x:=u) (by simpa using hu) λh' st' sb=>?_
  have I1:Inv X pins σ H { s with heap:=h' }:=I.turned (t':=s.toks) (λb o hb e=>(sb.2 b hb).trans e) f0 f1 f3 f4 f5
  obtain ⟨o,e,c,d⟩:=id st'
  exact ⟨u,rfl,qG (s:={ s with heap:=h' }) e c d (by decide) ⟨x,H,I1,ru,⟨rfl,λys hy=>by rw[I.list_inj hy hq]; exact hx⟩,st',λb hb=>(hf b hb).1⟩⟩
 done:=by
  intro X hP hw hK hc i pins s σ H E I hf st hg
  subst hP hw hK
  obtain ⟨xs,hq,hx⟩:=hg
  obtain ⟨its,rv,p,hz⟩:=I.list hq
  obtain ⟨f0,f1,f2,f3,f4,f5⟩:=hf it (by simp)
  have hl:=rv.length
  exact wpAny_pyNext_list_end (I.ok.hd hc) st p.isList (by simp; omega) λh' eb=>⟨rfl,I.turned (t':=s.toks) (λb o hb e=>eb b o hb e) f0 f1 f3 f4 f5⟩
 self:=λ_ _ _ _ _ st h=>wpAny_pyIter_listiter st h
theorem nQ{K:PySem.W.Frag}(a it:Addr):Turn P w K tg (FU K a) [it] it (λi h=>h.IsTupleIter it a i) where
 mem:=by simp
 obj:=λi h st b hb=>by
  have e:b=it:=by simpa using hb
  subst e
  obtain ⟨o,e,c,d⟩:=st
  exact ⟨o,e,λv z=>by rw[d] at z; cases z⟩
 keep:=λi h h' st k=>st.at λo e=>k it (by simp) o e
 item:=by
  intro X hP hw hK hc i pins s σ H E I hf st hg
  subst hP hw hK
  obtain ⟨xs,x,hq,hx⟩:=hg
  obtain ⟨its,rv,p,hz⟩:=I.tuple hq
  obtain ⟨u,hu,ru⟩:=rv.get hx
  obtain ⟨f0,f1,f2,f3,f4,f5⟩:=hf it (by simp)
  refine wpAny_pyNext_tuple_item st (show s.heap.IsTuple a its.toArray from p) (x:=u) (by simpa using hu) λh' st' sb=>?_
  have I1:Inv X pins σ H { s with heap:=h' }:=I.turned (t':=s.toks) (λb o hb e=>(sb.2 b hb).trans e) f0 f1 f3 f4 f5
  obtain ⟨o,e,c,d⟩:=id st'
  exact ⟨u,rfl,qG (s:={ s with heap:=h' }) e c d (by decide) ⟨x,H,I1,ru,⟨rfl,λys hy=>by rw[I.tuple_inj hy hq]; exact hx⟩,st',λb hb=>(hf b hb).1⟩⟩
 done:=by
  intro X hP hw hK hc i pins s σ H E I hf st hg
  subst hP hw hK
  obtain ⟨xs,hq,hx⟩:=hg
  obtain ⟨its,rv,p,hz⟩:=I.tuple hq
  obtain ⟨f0,f1,f2,f3,f4,f5⟩:=hf it (by simp)
  have hl:=rv.length
  exact wpAny_pyNext_tuple_end (I.ok.hd hc) st (show s.heap.IsTuple a its.toArray from p) (by simp; omega) λh' eb=>⟨rfl,I.turned (t':=s.toks) (λb o hb e=>eb b o hb e) f0 f1 f3 f4 f5⟩
 self:=λ_ _ _ _ _ st h=>wpAny_pyIter_tupleiter st h
theorem pA{K:PySem.W.Frag}(it:Addr)(lo:Int)(n:Nat):Turn P w K tg (O7 lo n) [it] it (λi h=>IsRangeIter h it (lo+(i:Nat) * 1) ((n:Int) - (i:Nat)) 1) where
 mem:=by simp
 obj:=λi h st b hb=>by
  have e:b=it:=by simpa using hb
  subst e
  exact ⟨_,st,λv z=>by
   have z':Data.fields _=Data.cell v:=z
   cases z'⟩
 keep:=λi h h' st k=>k it (by simp) _ st
 item:=by
  intro X hP hw hK hc i pins s σ H E I hf st hg
  subst hP hw hK
  obtain ⟨f0,f1,f2,f3,f4,f5⟩:=hf it (by simp)
  have W:=Walks.range (prog:=X.prog) (w:=X.w) (I.ok.hd hc) it lo 1 n
  refine W.item i s _ _ hg st λv h' tk hv st' kk=>?_
  obtain ⟨t,rfl⟩:=hv
  have I1:Inv X pins σ H { s with heap:=h',toks:=tk }:=I.turned (λb o hb e=>kk b o (by simpa using hb) e) f0 f1 f3 f4 f5
  refine ⟨_,rfl,qG (s:={ s with heap:=h',toks:=tk }) (n := "range_iterator") st' rfl rfl (by decide) ⟨.int (lo+i),H,I1,⟨t,?_⟩,⟨rfl,rfl⟩,st',λb hb=>(hf b hb).1⟩⟩
  rw[Int.mul_one]
 done:=by
  intro X hP hw hK hc i pins s σ H E I hf st hg
  subst hP hw hK
  obtain ⟨f0,f1,f2,f3,f4,f5⟩:=hf it (by simp)
  exact wpAny_pyNext_range_end (I.ok.hd hc) st (by have : n<=i:=hg; omega) λh' eb=>⟨rfl,I.turned (t':=s.toks) (λb o hb e=>eb b o hb e) f0 f1 f3 f4 f5⟩
 self:=λ_ _ _ _ _ st h=>wpAny_pyIter_rangeiter st h
section
variable{X:Cx}{tg:Expr}
def DH(K:PySem.W.Frag)(tl:TE):TI:=λσ H R=>tl σ H λx H1=>∃a,x=.ref a/\(∃xs,Mc K H1 a xs)/\R (EX K a) H1
def GF(K:PySem.W.Frag)(tl:TE):TI:=λσ H R=>tl σ H λx H1=>∃a,x=.ref a/\(∃xs,Up K H1 a xs)/\R (FU K a) H1
theorem gV(hl:PE X l tl):PI X tg l (DH X.K tl):=by
 intro pins s σ H R I h
 refine Gj (hl pins s σ H _ I h) λv s1 q0_ => ?_
 obtain ⟨x,H1,I1,r1,q1⟩ := q0_
 obtain ⟨a,e,⟨xs,hq⟩,q⟩:=q1
 subst e
 cases r1
 obtain ⟨its,rv,p,hz⟩:=I1.list hq
 refine fL p.isList ?_
 refine ⟨s1.heap.objs.size,[s1.heap.objs.size],_,_,H1,rfl,I1.kept (t':=s1.toks) λb o e=>Ah _ e,uG a _,⟨_,Bg _ rfl,rfl,rfl⟩,λb hb=>?_,q⟩
 have e:b=s1.heap.objs.size:=by simpa using hb
 subst e
 exact I1.fpOk (Ak _) (I1.hok.fresh (Ak _))
theorem W1(hl:PE X l tl):PI X tg l (GF X.K tl):=by
 intro pins s σ H R I h
 refine Gj (hl pins s σ H _ I h) λv s1 q0_ => ?_
 obtain ⟨x,H1,I1,r1,q1⟩ := q0_
 obtain ⟨a,e,⟨xs,hq⟩,q⟩:=q1
 subst e
 cases r1
 obtain ⟨its,rv,p,hz⟩:=I1.tuple hq
 refine wpAny_pyIter_tuple (show s1.heap.IsTuple a its.toArray from p) ?_
 refine ⟨s1.heap.objs.size,[s1.heap.objs.size],_,_,H1,rfl,I1.kept (t':=s1.toks) λb o e=>Ah _ e,nQ a _,⟨_,Bg _ rfl,rfl,rfl⟩,λb hb=>?_,q⟩
 have e:b=s1.heap.objs.size:=by simpa using hb
 subst e
 exact I1.fpOk (Ak _) (I1.hok.fresh (Ak _))
theorem j6{pins:List (Addr×Obj)}{σ:St}{H:Hp}{lo hi:Int}(I:Inv X pins σ H s)(h1:-(2 ^ 62)<=lo)(h2:lo<2 ^ 62)(h3:-(2 ^ 62)<=hi)(h4:hi<2 ^ 62)(q:R (O7 lo (hi - lo).toNat) H):wpAny (model X.prog X.w) X.A (pyIter (.ref s.heap.objs.size)) (HJ X pins σ tg R) E { s with heap:=s.heap.push { cls:=.type "range",data:=.fields #[.int lo t,.int hi u,.int 1 v] },toks:=tk }:=by
 refine wpAny_pyIter_range (IsRange.new ..) (small_one h1 h2 h3 h4) ?_
 have I1:Inv X pins σ H { s with heap:=s.heap.push { cls:=.type "range",data:=.fields #[.int lo t,.int hi u,.int 1 v] },toks:=tk }:=I.kept λb o e=>Ah _ e
 refine ⟨(s.heap.push { cls:=.type "range",data:=.fields #[.int lo t,.int hi u,.int 1 v] }).objs.size,[(s.heap.push { cls:=.type "range",data:=.fields #[.int lo t,.int hi u,.int 1 v] }).objs.size],_,_,H,rfl,
  I1.kept (t':=tk) λb o e=>Ah _ e,pA _ lo (hi - lo).toNat,?_,λb hb=>?_,q⟩
 ·have e1:lo+((0:Nat):Int) * 1=lo:=by simp
  have e2:(((hi - lo).toNat:Nat):Int) - ((0:Nat):Int)=Builtin.Range.rangeSize lo hi 1:=by rw[rangeSize_one]; split <;> omega
  show IsRangeIter _ _ (lo+((0:Nat):Int) * 1) ((((hi - lo).toNat:Nat):Int) - ((0:Nat):Int)) 1
  rw[e1,e2]
  exact Bg _ rfl
 ·have e:b=(s.heap.push { cls:=.type "range",data:=.fields #[.int lo t,.int hi u,.int 1 v] }).objs.size:=by simpa using hb
  subst e
  exact I1.fpOk (Ak _) (I1.hok.fresh (Ak _))
def CT(ta:TA):TI:=λσ H R=>ta σ H λvs H1=>∃j:Int,vs=[.int j] /\ -(2 ^ 62)<=j/\j<2 ^ 62/\R (O7 0 j.toNat) H1
theorem Xg(hg:Gl X "range")(hm:X.mg "range" = none)(ha:PA X [a] ta)(hs:Bp [a] X.env=[(false,eval a X.env)]:=by rfl):PI X tg (.Call (.Name "range" p) [a] [] pos) (CT ta):=by
 intro pins s σ H R I h
 refine Call_ (Nz I hg hm boot_range (Ez (Gj (ha pos pins s σ H _ I h) λus s1 ⟨vs,H1,I1,r1,q1⟩=>?_) hs rfl))
 obtain ⟨j,e,q1,q2,q⟩:=q1
 subst e
 cases r1 with
 | cons r rr =>
  cases rr
  obtain ⟨t,rfl⟩:=r
  exact call_range_1 (j6 I1 (by omega) (by omega) q1 q2 (by simpa using q))
def GA(wi:TI)(g:TG)(tb:TS):TS:=λD σ H=>wi σ H λJ H1=>∃W:Nat->Nat->St->Hp->Prop,(∃m,W 0 m σ H1)/\∀i m σ H,W i m σ H ->
 (J.stop i H/\D.nx σ H)\/(J.go i H/\∃N:St->Hp->Prop,(∀σ' H',N σ' H'->∃m',m'<m/\W (i+1) m' σ' H')/\∀x H',J.yld i H x H'->g x σ H' λσ2 H2=>tb { D with nx:=N,ct:=N,bk:=D.nx } σ2 H2)
def Uh(fp:List Addr)(h:Heap):List (Addr×Obj):=fp.filterMap λb=>(h.get? b).map λo=>(b,o)
theorem Jg(hb:b∈fp)(e:h.get? b=some o):(b,o)∈Uh fp h:=List.mem_filterMap.mpr ⟨b,hb,by rw[e]; rfl⟩
theorem tG(hp:p∈Uh fp h):p.1∈fp/\h.get? p.1=some p.2:=by
 obtain ⟨b,hb,e⟩:=List.mem_filterMap.mp hp
 cases q:h.get? b with
 | none=>rw[q] at e; cases e
 | some o =>
  rw[q] at e
  have e':(b,o)=p:=Bn e
  subst e'
  exact ⟨hb,q⟩
theorem Inv.pinned{σ:St}(I:Inv X pins σ H s)(hf:∀b∈fp,Ms X pins H b)(ho:∀b∈fp,∃o,s.heap.get? b=some o/\∀v,o.data≠.cell v):Inv X (pins++Uh fp s.heap) σ H s :=
 I.pins_of λp hp=>(Ay.mp hp).elim (λz=>I.pin p (Al _ z)) λz=>by
  obtain ⟨hb,e⟩:=tG z
  obtain ⟨f0,f1,f2,_⟩:=hf p.1 hb
  obtain ⟨o,e',d⟩:=ho p.1 hb
  rw[e] at e'; cases e'
  exact ⟨e,f0,f1,f2,d⟩
theorem Inv.unpinned{σ:St}(I:Inv X (pins++pl) σ H s):Inv X pins σ H s:=I.pins_of λp hp=>I.pin p (Al _ (An _ hp))
theorem fT(hp:PassesOwn (model X.prog X.w) X.A X.env X.xe)(hc:X.calm=true)(hi:PI X tg iter wi)(hg:PG X tg g)(hb:pV X body tb)(hs:∀x,Ee iter X.env x=pure x:=by intro _; rfl):PS X (.For tg iter body [] pos) (GA wi g tb):=by
 intro pins s σ H D I h
 refine wpAny_For (Gj (hi pins s σ H _ I h) λv s1 h1=>Gj h1 λitv s2 h2=>?_) hs
 obtain ⟨it,fp,tn,J,H2,e,I2,T,st2,f2,W,⟨m0,w0⟩,turn⟩:=h2
 subst e
 -- what stays true of the iterator's objects through the loop
 have stat:∀{H':Hp},(∀b∈fp,H' b=none)->∀b∈fp,Ms X pins H' b:=λhn b hb=>⟨hn b hb,(f2 b hb).2⟩
 refine codeAny_forLoop_any (λn s'=>∃i σ' H',Inv X pins σ' H' s'/\tn i s'.heap/\(∀b∈fp,H' b=none)/\W i n σ' H') ?_ m0 ⟨0,σ,H2,I2,st2,λb hb=>(f2 b hb).1,w0⟩
 (intro n s3 q_; obtain ⟨i,σ3,H3,I3,st3,fr3,w3⟩ := q_)
 rcases turn i n σ3 H3 w3 with ⟨stop,qn⟩ | ⟨go,N,hN,step⟩
 ·refine Pq hp (Gj (T.done X rfl rfl rfl hc i pins s3 σ3 H3 X.xe I3 (stat fr3) st3 stop) λr s4 q0_ => ?_)
  obtain ⟨hr,I4⟩ := q0_
  subst hr
  exact wpAny_execs_nil ⟨σ3,H3,I4,qn⟩
 ·refine Pq hp (Gj (T.item X rfl rfl rfl hc i pins s3 σ3 H3 X.xe I3 (stat fr3) st3 go) λr s4 q0_ => ?_)
  obtain ⟨u,hr,h4⟩ := q0_
  subst hr
  refine Pq hp (Gj h4 λ_ s5 q0_ => ?_)
  obtain ⟨x,H5,I5,r5,y5,st5,fr5⟩ := q0_
  have I5':=I5.pinned (stat fr5) (T.obj _ _ st5)
  refine Pq hp (Gj (hg _ s5 σ3 H5 x u _ I5' r5 (step x H5 y5)) λ_ s6 q0_ => ?_)
  obtain ⟨σ6,H6,I6,q6⟩ := q0_
  refine Pq hp (Gj (hb _ s6 σ6 H6 _ I6 q6) λf s7 q7=>?_)
  have again:∀{σ7:St} {H7:Hp},Inv X (pins++Uh fp s5.heap) σ7 H7 s7->N σ7 H7->∃m,m<n/\∃i σ' H',Inv X pins σ' H' s7/\tn i s7.heap/\(∀b∈fp,H' b=none)/\W i m σ' H':=λ{σ7 H7} I7 n7=>by
   obtain ⟨m',hm,w7⟩:=hN σ7 H7 n7
   refine ⟨m',hm,i+1,σ7,H7,I7.unpinned,T.keep _ _ _ st5 λb hb o e=>(I7.pin (b,o) (Al _ (Al _ (Jg hb e)))).1,λb hb=>?_,w7⟩
   obtain ⟨o,e,d⟩:=T.obj _ _ st5 b hb
   exact (I7.pin (b,o) (Al _ (Al _ (Jg hb e)))).2.1
  cases f with
  | next=>obtain ⟨σ7,H7,I7,n7⟩:=q7; exact again I7 n7
  | cont=>obtain ⟨σ7,H7,I7,n7⟩:=q7; exact again I7 n7
  | brk=>obtain ⟨σ7,H7,I7,q7⟩:=q7; exact ⟨σ7,H7,I7.unpinned,q7⟩
  | ret v=>obtain ⟨x7,σ7,H7,I7,r7,q7⟩:=q7; exact ⟨x7,σ7,H7,I7.unpinned,r7,q7⟩
end
theorem eG{lo:Int}{g:TG}{tb:TS}{D:Ends}(Pv:Nat->St->Hp->Prop)(h0:Pv 0 σ H)(hs:∀i σ H,i<n->Pv i σ H->g (.int (lo+i)) σ H λσ2 H2=>tb { D with nx:=Pv (i+1),ct:=Pv (i+1),bk:=D.nx } σ2 H2)(hd:∀σ H,Pv n σ H->D.nx σ H):∃W:Nat->Nat->St->Hp->Prop,(∃m,W 0 m σ H)/\∀i m σ H,W i m σ H->((O7 lo n).stop i H/\D.nx σ H)\/((O7 lo n).go i H/\∃N:St->Hp->Prop,(∀σ' H',N σ' H'->∃m',m'<m/\W (i+1) m' σ' H')/\∀x H',(O7 lo n).yld i H x H'->g x σ H' λσ2 H2=>tb { D with nx:=N,ct:=N,bk:=D.nx } σ2 H2):=by
 refine ⟨λi m σ H=>m=n - i/\i<=n/\Pv i σ H,⟨n,by simp,Dg _,h0⟩,?_⟩
 (intro i m σ H q_; obtain ⟨rfl,hi,p⟩ := q_)
 by_cases hlt:i<n
 ·refine .inr ⟨hlt,Pv (i+1),λσ' H' p'=>⟨n - (i+1),by omega,rfl,hlt,p'⟩,λx H' y=>?_⟩
  obtain ⟨e,y⟩:=y
  subst e y
  exact hs i σ _ hlt p
 ·have e:i=n:=by omega
  subst e
  exact .inl ⟨Ak _,hd σ H p⟩
abbrev R2:=V->V->Hp->VK->Prop
def Xp(X:Cx)(f:Value->Value->Sem Value)(r:R2):Prop :=
 ∀(pins:List (Addr×Obj)) (s:Aj) (σ:St) (H:Hp) (x y:V) (v u:Value) (Q:VK),Inv X pins σ H s->RelV x v->RelV y u->r x y H Q ->
  wpAny (model X.prog X.w) X.A (f v u) (EP X pins σ Q) X.xe s
def GR(X:Cx)(f:Value->Sem Value)(r:V->Hp->VK->Prop):Prop :=
 ∀(pins:List (Addr×Obj)) (s:Aj) (σ:St) (H:Hp) (x:V) (v:Value) (Q:VK),Inv X pins σ H s->RelV x v->r x H Q ->
  wpAny (model X.prog X.w) X.A (f v) (EP X pins σ Q) X.xe s
def Ld(X:Cx)(f:Value)(r:List V->Hp->VK->Prop):Prop :=
 ∀(pins:List (Addr×Obj)) (s:Aj) (σ:St) (H:Hp) (xs:List V) (us:List Value) (Q:VK),Inv X pins σ H s->Ff xs us->r xs H Q ->
  wpAny (model X.prog X.w) X.A (call f us) (EP X pins σ Q) X.xe s
def FW(X:Cx)(r:V->Hp->(Bool->Hp->Prop)->Prop):Prop :=
 ∀(pins:List (Addr×Obj)) (s:Aj) (σ:St) (H:Hp) (x:V) (v:Value) (Q:Bool->Hp->Prop),Inv X pins σ H s->RelV x v->r x H Q ->
  wpAny (model X.prog X.w) X.A (truthy v) (TP X pins σ Q) X.xe s
def CC(r:R2)(ta tb:TE):TE:=λσ H Q=>ta σ H λx H1=>tb σ H1 λy H2=>r x y H2 Q
def HQ(r:V->Hp->VK->Prop)(ta:TE):TE:=λσ H Q=>ta σ H λx H1=>r x H1 Q
def rI(C:Int->Int->Prop)(g:Int->Int->V):R2:=λx y H Q=>∃i j,x=.int i/\y=.int j/\C i j/\Q (g i j) H
def M9(g:Int->Int->V):R2:=λx y H Q=>∃i j,x=.int i/\y=.int j/\Q (g i j) H
def rU(g:Int->V):V->Hp->VK->Prop:=λx H Q=>∃i,x=.int i/\Q (g i) H
section
variable{X:Cx}{a b c:Expr}{ta tb tc:TE}{pos:Pos}
theorem AA(ha:PE X a ta)(hb:PE X b tb){pins:List (Addr×Obj)}{σ:St}{R:V->V->Hp->Prop}(I:Inv X pins σ H s)(h:ta σ H λx H1=>tb σ H1 λy H2=>R x y H2){f:Value->Value->Sem Value}(hf:∀v u s2 x y H2,Inv X pins σ H2 s2->RelV x v->RelV y u->R x y H2->wpAny (model X.prog X.w) X.A (f v u) Q X.xe s2):wpAny (model X.prog X.w) X.A (eval a X.env) (λv s₁=>wpAny (model X.prog X.w) X.A (eval b X.env) (λu s₂=>wpAny (model X.prog X.w) X.A (f v u) Q X.xe s₂) X.xe s₁) X.xe s:=by
 refine Gj (ha pins s σ H _ I h) λv s1 q0_ => ?_
 obtain ⟨x,H1,I1,r1,q1⟩ := q0_
 refine Gj (hb pins s1 σ H1 _ I1 q1) λu s2 q0_ => ?_
 obtain ⟨y,H2,I2,r2,q2⟩ := q0_
 exact hf v u s2 x y H2 I2 r1 r2 q2
theorem Hx(ho:Xp X (Iw op) r)(ha:PE X a ta)(hb:PE X b tb):PE X (.BinOp a op b pos) (CC r ta tb):=by
 intro pins s σ H Q I h
 exact wpAny_BinOp (AA ha hb I h λv u s2 x y H2 I2 rx ry q=>ho pins s2 σ H2 x y v u Q I2 rx ry q)
theorem N4(ho:GR X (unaryOp op) r)(ha:PE X a ta):PE X (.UnaryOp op a pos) (HQ r ta):=by
 intro pins s σ H Q I h
 exact UnaryOp_ (Gj (ha pins s σ H _ I h) λv s1 ⟨x,H1,I1,r1,q1⟩=>ho pins s1 σ H1 x v Q I1 r1 q1)
theorem BO{g:Int->Int->Int}(rule:∀(i j:Int) (t u:Tok) (s:Aj) (Q:Value->Aj->Prop) (E:Value->Aj->Prop),C i j->Q (.int (g i j) s.toks) { s with toks:=s.toks+1 }->wpAny (model X.prog X.w) X.A (f (.int i t) (.int j u)) Q E s):Xp X f (rI C λi j=>.int (g i j)):=by
 intro pins s σ H x y v u Q I rx ry h
 obtain ⟨i,j,rfl,rfl,hc,q⟩:=h
 obtain ⟨t,rfl⟩:=rx
 obtain ⟨t',rfl⟩:=ry
 exact rule i j t t' s _ _ hc ⟨.int (g i j),H,I.tok _,⟨_,rfl⟩,q⟩
theorem Z4{g:Int->Int->Int}(rule:∀(i j:Int) (t u:Tok) (s:Aj) (Q:Value->Aj->Prop) (E:Value->Aj->Prop),Q (.int (g i j) s.toks) { s with toks:=s.toks+1 }->wpAny (model X.prog X.w) X.A (f (.int i t) (.int j u)) Q E s):Xp X f (M9 λi j=>.int (g i j)):=by
 intro pins s σ H x y v u Q I rx ry h
 obtain ⟨i,j,rfl,rfl,q⟩:=h
 obtain ⟨t,rfl⟩:=rx
 obtain ⟨t',rfl⟩:=ry
 exact rule i j t t' s _ _ ⟨.int (g i j),H,I.tok _,⟨_,rfl⟩,q⟩
theorem BJ{g:Int->Int->Bool}(rule:∀(i j:Int) (t u:Tok) (s:Aj) (Q:Value->Aj->Prop) (E:Value->Aj->Prop),Q (.bool (g i j)) s->wpAny (model X.prog X.w) X.A (f (.int i t) (.int j u)) Q E s):Xp X f (M9 λi j=>.bl (g i j)):=by
 intro pins s σ H x y v u Q I rx ry h
 obtain ⟨i,j,rfl,rfl,q⟩:=h
 obtain ⟨t,rfl⟩:=rx
 obtain ⟨t',rfl⟩:=ry
 exact rule i j t t' s _ _ ⟨.bl (g i j),H,I,rfl,q⟩
def U3(i j:Int):Prop:=0<j/\j<1073741824
def Z9(i j:Int):Prop:=0<=j/\j<=1000000/\i.natAbs<2 ^ 64
def E3(i j:Int):Prop:=(-(2 ^ 64)<i/\i<2 ^ 64)\/(-(2 ^ 64)<j/\j<2 ^ 64)
theorem E3.ok(h:E3 i j):IntMulOk i j:=by
 rcases h with ⟨h1,h2⟩ | ⟨h1,h2⟩
 ·exact .of_left (intBits_le_64 h1 h2)
 ·exact .of_right (intBits_le_64 h1 h2)
theorem aA:Xp X (Iw .Add) (M9 λi j=>.int (i+j)):=Z4 λ_ _ _ _ _ _ _ q=>add_int q
theorem V8:Xp X (Iw .Sub) (M9 λi j=>.int (i - j)):=Z4 λ_ _ _ _ _ _ _ q=>sub_int q
theorem Xh:Xp X (Iw .Mult) (rI E3 λi j=>.int (i * j)):=BO λ_ _ _ _ _ _ _ hc q=>mul_int q hc.ok
theorem gB:Xp X (Iw .FloorDiv) (rI U3 λi j=>.int (i / j)):=BO λi j _ _ _ _ _ hc q=>by
 have h1:(0:Int)<j:=hc.1
 have h2:j<1073741824:=hc.2
 exact floordiv_int (by omega) (by rw[Int.fdiv_eq_ediv_of_nonneg i (by omega)]; exact q) (.inl (PyProof.noPylong_small (by omega)))
theorem Uq:Xp X (Iw .Mod) (rI (λ_ j=>0<j) λi j=>.int (i % j)):=BO λi j _ _ _ _ _ hc q=>by
 have h1:(0:Int)<j:=hc
 exact mod_int' (by omega) (by rw[Int.fmod_eq_emod_of_nonneg i (by omega)]; exact q)
theorem bE:Xp X (Iw .Pow) (rI Z9 λi j=>.int (i ^ j.toNat)):=BO λ_ _ _ _ _ _ _ hc q=>pow_int_small hc.1 hc.2.1 hc.2.2 q
theorem T9:Xp X (Iw .BitXor) (M9 λi j=>.int (Builtin.bitXor i j)):=Z4 λ_ _ _ _ _ _ _ q=>xor_int q
theorem HS{g:Int->Int}(rule:∀(i:Int) (t:Tok) (s:Aj) (Q:Value->Aj->Prop) (E:Value->Aj->Prop),Q (.int (g i) s.toks) { s with toks:=s.toks+1 }->wpAny (model X.prog X.w) X.A (f (.int i t)) Q E s):GR X f (rU λi=>.int (g i)):=by
 intro pins s σ H x v Q I rx h
 obtain ⟨i,rfl,q⟩:=h
 obtain ⟨t,rfl⟩:=rx
 exact rule i t s _ _ ⟨.int (g i),H,I.tok _,⟨_,rfl⟩,q⟩
theorem xP:GR X (unaryOp .USub) (rU λi=>.int (-i)):=HS λ_ _ _ _ _ q=>neg_int q
end
section
variable{X:Cx}{a b c:Expr}{ta tb tc:TE}{pos:Pos}
theorem DJ:Xp X (Kc .Lt) (M9 λi j=>.bl (decide (i<j))):=BJ λ_ _ _ _ _ _ _ q=>lt_int q
theorem wU:Xp X (Kc .GtE) (M9 λi j=>.bl (decide (j<=i))):=BJ λ_ _ _ _ _ _ _ q=>ge_int q
theorem Ur(b:Expr)(h:op≠.In:=by decide)(h2:op≠.NotIn:=by decide):Gf op b=false:=by
 have e1:(op == CmpOp.In)=false:=by cases op <;> first | rfl | exact absurd rfl h
 have e2:(op == CmpOp.NotIn)=false:=by cases op <;> first | rfl | exact absurd rfl h2
 cases b <;> simp [Gf,e1,e2]
theorem K5(ho:Xp X (Kc op) r)(ha:PE X a ta)(hb:PE X b tb)(hm:Gf op b=false):PE X (.Compare a [op] [b] pos) (CC r ta tb):=by
 intro pins s σ H Q I h
 exact wpAny_Compare1 (AA ha hb I h λv u s2 x y H2 I2 rx ry q=>ho pins s2 σ H2 x y v u Q I2 rx ry q) hm
def BY(t:TE):TT:=λσ H Q=>t σ H λx H'=>∃k,x=.bl k/\Q k H'
theorem qE(ho:Xp X (Kc op) r)(ha:PE X a ta)(hb:PE X b tb)(hm:Gf op b=false):PT X (.Compare a [op] [b] pos) (BY (CC r ta tb)):=by
 intro pins s σ H Q I h
 refine wpAny_isTrue_Compare1 (Gj (ha pins s σ H _ I h) λv s1 ⟨x,H1,I1,r1,q1⟩=>Gj (hb pins s1 σ H1 _ I1 q1) λu s2 ⟨y,H2,I2,r2,q2⟩ =>
  Gj (ho pins s2 σ H2 x y v u _ I2 r1 r2 q2) λc s3 ⟨z,H3,I3,r3,k,e,q3⟩=>?_) hm
 subst e
 cases r3
 exact Fq ⟨H3,I3,q3⟩
def GP(K:PySem.W.Frag)(x:V)(H:Hp)(k:Bool):Prop :=
 match x with
 | .non=>k=false
 | .bl b=>k=b
 | .int i=>k=(i != 0)
 | .str y=>y.length<=Au/\k=((y.length:Int) != 0)
 | .byt y=>y.size<=Au/\k=((y.size:Int) != 0)
 | .ref p=>(∃xs,Mc K H p xs/\k = !xs.isEmpty)\/(∃xs,Up K H p xs/\k = !xs.isEmpty)\/∃kvs,H p=some (.dK kvs)/\k = !kvs.isEmpty
 | _=>False
theorem mV{kvs:List (κ×V)}{vs:List (κ×Value)}(r:KV kvs vs):(!vs.isEmpty) = !kvs.isEmpty:=by
 cases r <;> rfl
theorem aM(r:Ff xs its):(!its.toArray.isEmpty) = !xs.isEmpty:=by
 cases r <;> simp
theorem Xm:(Au:Nat)<2 ^ 63:=by rw[Jn]; decide
theorem FY:FW X (λx H Q=>∃k,GP X.K x H k/\Q k H):=by
 intro pins s σ H x v Q I rx h
 obtain ⟨k,e,q⟩:=h
 have hl:=Xm
 have hs:Au=16777216:=Jn
 cases x with
 | non =>
  cases rx
  have e':k=false:=e
  subst e'
  exact truthy_none ⟨H,I,q⟩
 | bl b =>
  cases rx
  have e':k=b:=e
  subst e'
  exact Fq ⟨H,I,q⟩
 | int i =>
  obtain ⟨t,rfl⟩:=rx
  have e':k=(i != 0):=e
  subst e'
  exact PySem.P.truthy_int ⟨H,I,q⟩
 | str y =>
  obtain ⟨t,rfl⟩:=rx
  obtain ⟨hy,e'⟩ : y.length<=Au/\k=((y.length:Int) != 0):=e
  subst e'
  exact PySem.P.truthy_str (by omega) ⟨H,I.tok _,q⟩
 | byt y =>
  obtain ⟨t,rfl⟩:=rx
  obtain ⟨hy,e'⟩ : y.size<=Au/\k=((y.size:Int) != 0):=e
  subst e'
  exact PySem.W.truthy_bytes (by omega) ⟨H,I.tok _,q⟩
 | ref p =>
  cases rx
  have e':(∃xs,Mc X.K H p xs/\k = !xs.isEmpty)\/(∃xs,Up X.K H p xs/\k = !xs.isEmpty)\/∃kvs,H p=some (.dK kvs)/\k = !kvs.isEmpty:=e
  rcases e' with ⟨xs,hx,e'⟩ | ⟨xs,hx,e'⟩ | ⟨kvs,hx,e'⟩
  ·subst e'
   obtain ⟨its,r,pl,hz⟩:=I.list hx
   have hlen:=r.length
   exact wpAny_truthy_list pl.isList (by simp only[Ar]; omega) ⟨H,I.tok _,by rw[aM r]; exact q⟩
  ·subst e'
   obtain ⟨its,r,pl,hz⟩:=I.tuple hx
   have hlen:=r.length
   exact truthy_tuple pl (by simp only[Ar]; omega) ⟨H,I.tok _,by rw[aM r]; exact q⟩
  ·subst e'
   obtain ⟨hz,hS,vs,r,m⟩ : kvs.length<=Au/\(p == Fu)=false/\∃vs,KV kvs vs/\s.heap.DictOf (Hh X.prog X.w) p vs:=I.hok p _ hx
   have hlen:kvs.length=vs.length:=Paired.length r
   exact wpAny_truthy_dict hS m (by omega) ⟨H,I.tok _,by rw[mV r]; exact q⟩
 | _=>exact (show False from e).elim
theorem vals1(r:Ff [x] us):∃u,us=[u]/\RelV x u:=by
 cases r with
 | cons r1 r2=>cases r2; exact ⟨_,rfl,r1⟩
theorem vals2(r:Ff [x,y] us):∃u w',us=[u,w']/\RelV x u/\RelV y w':=by
 cases r with
 | cons r1 r2 =>
  cases r2 with
  | cons r3 r4=>cases r4; exact ⟨_,_,rfl,r1,r3⟩
theorem Sy(hc:X.calm=true):Ld X (.builtin "max") (λxs H Q=>∃i j,xs=[.int i,.int j]/\Q (.int (if j > i then j else i)) H):=by
 intro pins s σ H xs us Q I r h
 obtain ⟨i,j,rfl,q⟩:=h
 obtain ⟨u,w',rfl,⟨t,rfl⟩,⟨t',rfl⟩⟩:=vals2 r
 refine max_two_ints (I.ok.hd hc) λh' tk k=>⟨_,H,I.kept k,?_,q⟩
 by_cases hj:j > i
 ·rw[if_pos hj,if_pos hj]; exact ⟨_,rfl⟩
 ·rw[if_neg hj,if_neg hj]; exact ⟨_,rfl⟩
theorem tK(hc:X.calm=true):Ld X (.builtin "min") (λxs H Q=>∃i j,xs=[.int i,.int j]/\Q (.int (if j<i then j else i)) H):=by
 intro pins s σ H xs us Q I r h
 obtain ⟨i,j,rfl,q⟩:=h
 obtain ⟨u,w',rfl,⟨t,rfl⟩,⟨t',rfl⟩⟩:=vals2 r
 refine min_two_ints (I.ok.hd hc) λh' tk k=>⟨_,H,I.kept k,?_,q⟩
 by_cases hj:j<i
 ·rw[if_pos hj,if_pos hj]; exact ⟨_,rfl⟩
 ·rw[if_neg hj,if_neg hj]; exact ⟨_,rfl⟩
theorem fB:Ld X (.type "int") (λxs H Q=>(∃i,xs=[.int i]/\Q (.int i) H)\/∃k,xs=[.bl k]/\Q (.int (if k then 1 else 0)) H):=by
 intro pins s σ H xs us Q I r h
 rcases h with ⟨i,rfl,q⟩ | ⟨k,rfl,q⟩
 ·obtain ⟨u,rfl,t,rfl⟩:=vals1 r
  exact call_int_int ⟨.int i,H,I,⟨_,rfl⟩,q⟩
 ·obtain ⟨u,rfl,r1⟩:=vals1 r
  cases r1
  exact call_int_bool ⟨.int (if k then 1 else 0),H,I.tok _,⟨_,rfl⟩,q⟩
def EW(K:PySem.W.Frag)(x:V)(H:Hp)(n:Nat):Prop :=
 match x with
 | .str y=>y.length<=Au/\n=y.length
 | .byt y=>y.size<=Au/\n=y.size
 | .ref p=>(∃xs,Mc K H p xs/\n=xs.length)\/∃xs,Up K H p xs/\n=xs.length
 | _=>False
theorem Il:Ld X (.builtin "len") (λxs H Q=>∃x n,xs=[x]/\EW X.K x H n/\Q (.int n) H):=by
 intro pins s σ H xs us Q I r h
 obtain ⟨x,n,rfl,e,q⟩:=h
 obtain ⟨u,rfl,rx⟩:=vals1 r
 have hl:=Xm
 have hs:Au=16777216:=Jn
 cases x with
 | str y =>
  obtain ⟨t,rfl⟩:=rx
  obtain ⟨hy,e'⟩ : y.length<=Au/\n=y.length:=e
  subst e'
  exact len_str (by omega) ⟨.int _,H,I.tok _,⟨_,rfl⟩,q⟩
 | byt y =>
  obtain ⟨t,rfl⟩:=rx
  obtain ⟨hy,e'⟩ : y.size<=Au/\n=y.size:=e
  subst e'
  exact PySem.W.len_bytes (by omega) ⟨.int _,H,I.tok _,⟨_,rfl⟩,q⟩
 | ref p =>
  cases rx
  have e':(∃xs,Mc X.K H p xs/\n=xs.length)\/∃xs,Up X.K H p xs/\n=xs.length:=e
  rcases e' with ⟨xs,hx,e'⟩ | ⟨xs,hx,e'⟩
  ·subst e'
   obtain ⟨its,r',pl,hz⟩:=I.list hx
   have hlen:=r'.length
   exact Calls.call_len_list pl.isList (by simp only[Ar]; omega) ⟨.int xs.length,H,I.tok _,⟨_,by simp only[Ar]; rw[hlen]⟩,q⟩
  ·subst e'
   obtain ⟨its,r',pl,hz⟩:=I.tuple hx
   have hlen:=r'.length
   exact len_tuple pl (by simp only[Ar]; omega) ⟨.int xs.length,H,I.tok _,⟨_,by simp only[Ar]; rw[hlen]⟩,q⟩
 | _=>exact (show False from e).elim
end
structure ObjM(h:Heap)(x dx C:Addr)(mA:Str->Option Value):Prop where
 obj:h.get? x=some (PySem.W.instObj C dx)
 ns:h.Ns1 dx mA
 ne:dx≠x
theorem uC{h:Heap}(n:h.Ns1 dx mA):∃od,h.get? dx=some od/\∀name,PySem.W.lookIn name od=some (mA name):=by
 obtain ⟨o,es,ep,ho,hd,hk,_,hm⟩:=n
 refine ⟨o,ho,λname=>?_⟩
 have e:=hm name
 unfold nsFind findBy at e
 rw[<- Array.find?_toList] at e
 unfold PySem.W.lookIn
 rw[hd]
 dsimp only
 split
 ·rename_i y q
  rw[q] at e
  exact congrArg some e
 ·rename_i q
  rw[q] at e
  have a:es.toList.any (·.refKey)=false:=by
   rw[List.any_eq_false]
   intro y hy
   obtain ⟨z,t,hkey⟩:=hk y (Array.mem_toList_iff.mp hy)
   simp [DictEntry.refKey,hkey]
  have a':¬ es.toList.any (·.refKey)=true:=by rw[a]; exact Br
  rw[if_neg a']
  exact congrArg some e
theorem ObjM.look(I:ObjM h x dx C mA):∃od,PySem.W.InstAt h x (PySem.W.instObj C dx) C (some od)/\∀name,PySem.W.lookIn name od=some (mA name) :=
 let ⟨od,ho,hl⟩:=uC I.ns
 ⟨od,⟨I.obj,rfl,rfl,ho⟩,hl⟩
theorem lV.some_of(r:lV (some v) o):∃u,o=some u/\RelV v u:=by
 cases o with
 | none=>exact (show False from r).elim
 | some u=>exact ⟨u,rfl,r⟩
section
variable{P:Bq}{w:World}{H H':Hp}{h h':Heap}{a C dx:Addr}{fs fs':List (Str×V)}
theorem z0(hok:Wk P w H h)(e:H a=some (.ins C dx fs)):∃mA,ObjM h a dx C mA/\(∀f,lV (fs.lookup f) (mA f))/\PySem.Within mA (fs.map (·.1))/\fs.length<=1000/\H dx=some (.own a):=by
 obtain ⟨d,z,ne,ob,mA,n,r,q⟩:=(show Hj P w H h a (.ins C dx fs) from hok a _ e)
 exact ⟨mA,⟨ob,n,ne⟩,r,q,z,d⟩
end
structure Cls(K:PySem.W.Frag)(C:Addr):Prop where
 pg:PySem.W.plainGet K C Str.empty=true
 hd:PySem.W.hasDictIn K C=true
 po:PySem.W.plainOver K C=true
 sa:PySem.W.findIn K (.ref C) "__setattr__" = some (some (.builtin "object.__setattr__"))
theorem Cls.get{K:PySem.W.Frag}(c:Cls K C)(f:Str):PySem.W.plainGet K C f=true:=c.pg
section
variable{X:Cx}{pins:List (Addr×Obj)}{σ:St}{H:Hp}{s:Aj}{A:Cr}{E:Value->Aj->Prop}{Q:Value->Aj->Prop}{c:Value}{b:Bool}
inductive TyOf (K:PySem.W.Frag) (H:Hp):V->Value->Prop where
 | non:TyOf K H .non (.type "NoneType")
 | bl (x:Bool):TyOf K H (.bl x) (.type "bool")
 | int (i:Int):TyOf K H (.int i) (.type "int")
 | str (x:Str):TyOf K H (.str x) (.type "str")
 | flt (x:UInt64):TyOf K H (.flt x) (.type "float")
 | lst {a:Addr} {xs:List V} (e:H a=some (.lst xs)):TyOf K H (.ref a) (.type "list")
 | frz {a:Addr} {o:Obj} {xs:List V} (e:H a=some (.frz o (.lst xs))):TyOf K H (.ref a) (.type "list")
 | tup {a:Addr} {xs:List V} (e:H a=some (.tup xs)):TyOf K H (.ref a) (.type "tuple")
 | dK {a:Addr} {kvs:List (Hm×V)} (e:H a=some (.dK kvs)):TyOf K H (.ref a) (.type "dict")
 | dT {a:Addr} {kvs:List (List Hm×V)} (e:H a=some (.dT kvs)):TyOf K H (.ref a) (.type "dict")
 | ins {a C dx:Addr} {fs:List (Str×V)} (e:H a=some (.ins C dx fs)) (cl:Cls K C) (ha:PySem.W.findIn K (.ref C) "__class__" = some (some (.builtin "object.__class__")))
   (hn:PySem.W.specialIn K (.builtin "object.__class__") "__get__" = some (some (.builtin "getset_descriptor.__get__"))) (htk:PySem.W.takesIn K (.builtin "object.__class__")=some true)
   (hm:PySem.W.mroIn K C (.type "object")=some true):TyOf K H (.ref a) (.ref C)
theorem uA(I:Inv X pins σ H s)(rx:RelV x u)(ty:TyOf X.K H x t)(e:PySem.W.kitOne X.K t c=some b)(h:∀tk,Q (.bool b) { s with toks:=tk }):wpAny (model X.prog X.w) A (call (.builtin "isinstance") [u,c]) Q E s:=by
 cases ty with
 | non=>cases (show u=Iq from rx); exact PySem.W.kia_one PySem.W.kitx_none I.kIn Kd e (λz=>nomatch z) h
 | bl y=>cases (show u=Value.bool y from rx); exact PySem.W.kia_one PySem.W.kitx_bool I.kIn Kd e (λz=>nomatch z) h
 | int i=>obtain ⟨t,q⟩:=(show ∃t,u=Uu i t from rx); cases q; exact PySem.W.kia_one PySem.W.kitx_int I.kIn Kd e (λz=>nomatch z) h
 | str y=>obtain ⟨t,q⟩:=(show ∃t,u=Value.str y t from rx); cases q; exact PySem.W.kia_one PySem.W.kitx_str I.kIn Kd e (λz=>nomatch z) h
 | flt y=>obtain ⟨t,q⟩:=(show ∃t,u=Value.float y t from rx); cases q; exact PySem.W.kia_one PySem.W.kitx_float I.kIn Kd e (λz=>nomatch z) h
 | @lst a xs ea =>
  cases (show u=Bc a from rx)
  obtain ⟨_,_,n,_,h1⟩:=(show Hj X.prog X.w H s.heap a (.lst xs) from I.hok a _ ea)
  exact PySem.W.kia_one PySem.W.kitx_list I.kIn ⟨_,h1,rfl⟩ e (λz=>nomatch z) h
 | @frz a ob xs ea =>
  cases (show u=Bc a from rx)
  obtain ⟨_,_,_,n,_,h1⟩:=(show Hj X.prog X.w H s.heap a (.frz ob (.lst xs)) from I.hok a _ ea)
  exact PySem.W.kia_one PySem.W.kitx_list I.kIn ⟨_,h1,rfl⟩ e (λz=>nomatch z) h
 | @tup a xs ea =>
  cases (show u=Bc a from rx)
  obtain ⟨_,_,_,p⟩:=(show Hj X.prog X.w H s.heap a (.tup xs) from I.hok a _ ea)
  obtain ⟨o,h1,h2,_⟩:=p
  exact PySem.W.kia_one PySem.W.kitx_tuple I.kIn ⟨o,h1,h2⟩ e (λz=>nomatch z) h
 | @dK a kvs ea =>
  cases (show u=Bc a from rx)
  obtain ⟨_,_,vs,_,p⟩:=(show Hj X.prog X.w H s.heap a (.dK kvs) from I.hok a _ ea)
  obtain ⟨o,es,ep,h1,h2,_⟩:=p
  exact PySem.W.kia_one PySem.W.kitx_dict I.kIn ⟨o,h1,h2.1⟩ e (λz=>nomatch z) h
 | @dT a kvs ea =>
  cases (show u=Bc a from rx)
  obtain ⟨_,_,xs,_,o,es,ep,h1,h2,_⟩:=(show Hj X.prog X.w H s.heap a (.dT kvs) from I.hok a _ ea)
  exact PySem.W.kia_one PySem.W.kitx_dict I.kIn ⟨o,h1,h2.1⟩ e (λz=>nomatch z) h
 | @ins a C dx fs ea cl ha hn htk hm =>
  cases (show u=Bc a from rx)
  obtain ⟨mA,O,_⟩:=z0 I.hok ea
  obtain ⟨od,J,_⟩:=O.look
  exact PySem.W.kia_one (PySem.W.kitx_own (cl.get _) cl.hd ha hn htk hm) I.kIn J e (λz=>nomatch z) h
end
structure Room(k:Nat)(A:Cr):Prop where
 hd:A.handled=none
 dp:A.depth+3 * k+5<recursionLimit
 un:A.units+16 * k+200<cLine
 gd:A.guards=some []
theorem Room.mono(r:Room k A)(h:j<=k):Room j A:=⟨r.hd,by have:=r.dp; omega,by have:=r.un; omega,r.gd⟩
theorem Room.deeper(r:Room (k+1) A)(env:Env):Room k (A.deeper env) :=
 ⟨r.hd,by have:=r.dp; show A.depth+1+3 * k+5<_; omega,by have:=r.un; show A.units+3+16 * k+200<_; omega,r.gd⟩
theorem Room.depth(r:Room k A):A.depth<recursionLimit:=by have:=r.dp; omega
theorem Room.units(r:Room k A):A.units+64<cLine:=by have:=r.un; omega
def BZ:TA:=λ_ H Q=>Q [] H
def EH(ta:TE)(tr:TA):TA:=λσ H Q=>ta σ H λx H1=>tr σ H1 λxs H2=>Q (x::xs) H2
section
variable{X:Cx}{e:Expr}{es:List Expr}{te:TE}{t:TA}{pos:Pos}
theorem Kq:PA X [] BZ:=λ_ _ _ _ H Q I h=>Ys ⟨[],H,I,.nil,h⟩
theorem Gv(ha:PE X e te)(hr:PA X es t)(hs:Bp (e::es) X.env=(false,eval e X.env)::Bp es X.env:=by rfl):PA X (e::es) (EH te t):=by
 intro pos pins s σ H Q I h
 rw[hs]
 show wpAny _ _ (spliced ((false,eval e X.env)::Gw pos (Bp es X.env))) _ _ s
 refine Pe (Gj (ha pins s σ H _ I h) λu s1 q0_ => ?_)
 obtain ⟨x,H1,I1,r1,q1⟩ := q0_
 exact Gj (hr pos pins s1 σ H1 _ I1 q1) λus s2 ⟨xs,H2,I2,r2,q2⟩=>⟨x::xs,H2,I2,.cons r1 r2,q2⟩
def GT(t:TA):TE:=λσ H Q=>t σ H λxs H1=>xs.length<=Au/\∀p,H1 p=none->Q (.ref p) (upd H1 p (.tup xs))
def GD(t:TA):TE:=λσ H Q=>t σ H λxs H1=>xs.length<=Au/\∀p,H1 p=none->Q (.ref p) (upd H1 p (.lst xs))
theorem Zw(h:PA X es t):PE X (.Tuple es x1 pos) (GT t):=by
 intro pins s σ H Q I hq
 refine wpAny_Tuple_spliced (Gj (h pos pins s σ H _ I hq) λus s1 ⟨xs,H1,I1,r,z,q⟩=>⟨by rw[<- r.length]; exact z,?_⟩)
 have hf:H1 s1.heap.objs.size=none:=I1.hok.fresh (Ak _)
 refine ⟨.ref s1.heap.objs.size,upd H1 s1.heap.objs.size (.tup xs),I1.laid (t':=s1.toks) (λb u e=>Ah _ e) (Ak _) ?_,rfl,q _ hf⟩
 exact ⟨z,us,r,⟨_,Bg _ rfl,rfl,_,rfl⟩⟩
theorem bV(h:PA X es t):PE X (.List es pos) (GD t):=by
 intro pins s σ H Q I hq
 refine wpAny_List_spliced (Gj (h pos pins s σ H _ I hq) λus s1 ⟨xs,H1,I1,r,z,q⟩=>⟨by rw[<- r.length]; exact z,?_⟩)
 have hf:H1 s1.heap.objs.size=none:=I1.hok.fresh (Ak _)
 refine ⟨.ref s1.heap.objs.size,upd H1 s1.heap.objs.size (.lst xs),I1.laid (t':=s1.toks) (λb u e=>Ah _ e) (Ak _) ?_,rfl,q _ hf⟩
 exact ⟨z,us,0,r,Bg _ rfl⟩
end
abbrev Sp:=List V->Hp->VK->XK->Prop
abbrev pZ:=List Env->Hp->Aj->XK->Value->Aj->Prop
structure Env0(P:Bq)(w:World)(K:PySem.W.Frag)(mg:Str->Option Value)(base:Heap)(A:Cr)(outer:List Env)(s:Aj)(H:Hp):Prop where
 frames:A.frames=some outer
 mod:Mod K mg base
 bs:∀b o,base.get? b=some o->s.heap.get? b=some o/\H b=none
 bsz:base.objs.size<=s.heap.objs.size
 funs:s.heap.FunFrames base outer
 frf:∀b∈tP outer,H b=none
 hok:Wk P w H s.heap
 bare:Sj s.gens
 tab:zR K mg base H
def CE(outer:List Env)(P:Bq)(w:World)(H:Hp)(s:Aj)(Q:VK)(u:Value)(s':Aj):Prop :=
 ∃v H',s'.os=s.os/\Sj s'.gens/\Un (tP outer) [] H H' s.heap s'.heap/\Wk P w H' s'.heap/\RelV v u/\Q v H'
def CR(CX:pZ)(outer:List Env)(P:Bq)(w:World)(H:Hp)(s:Aj)(Q:VK)(E:XK)(r:Result)(s':Aj):Prop :=
 match r with
 | .ok (.ret u)=>CE outer P w H s Q u s'
 | .ok _=>False
 | .error e=>CX outer H s E e s'
structure FnOk(P:Bq)(w:World)(K:PySem.W.Frag)(mg:Str->Option Value)(base:Heap)(CX:pZ)(k:Nat)(f:Addr)(fd:Cg)(ps:List Str)(sp:Sp):Prop where
 len:∀vs H Q E,sp vs H Q E->vs.length=ps.length
 run:∀(A:Cr) (outer:List Env) (s:Aj) (H:Hp) (args:Args) (us:List Value) (vs:List V) (Q:VK) (E:XK),Room k A->Env0 P w K mg base A outer s H->BindsTo s fd args (ps.zip us)->Ff vs us->sp vs H Q E ->
  Oj (model P w) A (.call (.ref f) args) (CR CX outer P w H s Q E) s
theorem FnOk.imp{P:Bq}{w:World}{K:PySem.W.Frag}{mg:Str->Option Value}{base:Heap}(F:FnOk P w K mg base CX k f fd ps sp)(h:∀vs H Q E,sp' vs H Q E->sp vs H Q E):FnOk P w K mg base CX k f fd ps sp' :=
 ⟨λvs H Q E q=>F.len vs H Q E (h _ _ _ _ q),λA outer s H args us vs Q E hr he hb hv hs=>F.run A outer s H args us vs Q E hr he hb hv (h _ _ _ _ hs)⟩
section
variable{X:Cx}{pins:List (Addr×Obj)}{σ:St}{H:Hp}{s s':Aj}
theorem Inv.env0(I:Inv X pins σ H s):Env0 X.prog X.w X.K X.mg X.base X.A X.stack s H :=
 ⟨I.ok.frames,I.ok.mod,I.bs,Bz I.ok.bsz I.sz,I.stack,I.stkFree,I.hok,I.bare,I.ok.tab.un I.base⟩
theorem Inv.after(I:Inv X pins σ H s)(h:CE X.stack X.prog X.w H s Q u s'):EP X pins σ Q u s':=by
 obtain ⟨v,H',os,bare,un,hok,r,q⟩:=h
 obtain ⟨hh,g,d,t,os'⟩:=s'
 obtain rfl:os'=s.os:=os
 exact ⟨v,H',I.call (h':=hh) (g':=g) (d':=d) (t':=t) (ch:=[]) un hok bare (λb z=>absurd z (by simp)),r,q⟩
end
def N0(sp:Sp)(dvs:List V)(E:XK)(t:TA):TE:=λσ H Q=>t σ H λvs H1=>sp (vs++dvs) H1 Q E
def Binds(K:PySem.W.Frag)(fd:Cg)(ps:List Str)(ds:List Value):Prop :=
 ∀(s:Aj) (us:List Value),K.In s.heap->(us++ds).length=ps.length->BindsTo s fd ⟨us,[]⟩ (ps.zip (us++ds))
theorem Binds.all{K:PySem.W.Frag}(h:∀us:List Value,us.length=ps.length->bindArgs fd ⟨us,[]⟩=pure (ps.zip us)):Binds K fd ps []:=λs us _ hl=>by
 rw[Ea] at hl ⊢
 exact .of_eq (h us hl)
def Pl(CX:pZ)(X:Cx)(E:XK):Prop:=∀(pins:List (Addr×Obj)) (σ:St) (H:Hp) (s:Aj) (e:Value) (s':Aj),Inv X pins σ H s->CX X.stack H s E e s'->X.xe e s'
section
variable{X:Cx}{CX:pZ}{k:Nat}{f C:Addr}{fd:Cg}{ps:List Str}{sp:Sp}{dvs:List V}{ds:List Value}{E:XK}{x m:Str}{p pos apos:Pos}{e o:Expr}{es:List Expr}{ta:TE}{t:TA}
theorem xH{pins:List (Addr×Obj)}{σ:St}(F:FnOk X.prog X.w X.K X.mg X.base CX k f fd ps sp)(hr:Room k X.A)(hb:Binds X.K fd ps ds)(hd:Ff dvs ds)(hx:Pl CX X E)(I:Inv X pins σ H s)(r:Ff vs us)(h:sp (vs++dvs) H Q E):wpAny (model X.prog X.w) X.A (call (.ref f) us) (EP X pins σ Q) X.xe s:=by
 have r2:Ff (vs++dvs) (us++ds):=r.append hd
 have hl:(us++ds).length=ps.length:=by rw[<- r2.length]; exact F.len _ _ _ _ h
 refine wpAny_call (codeAny_mono (F.run X.A X.stack s H ⟨us,[]⟩ (us++ds) (vs++dvs) Q E hr I.env0 (hb s us I.kIn hl) r2 h) λr s' hq=>?_)
 cases r with
 | error e=>exact hx pins σ H s e s' I hq
 | ok fl =>
  cases fl with
  | ret u=>exact I.after hq
  | next=>exact Ka hq
  | brk=>exact Ka hq
  | cont=>exact Ka hq
theorem Wb(F:FnOk X.prog X.w X.K X.mg X.base CX k f fd ps sp)(hr:Room k X.A)(hg:Gl X x)(hm:X.mg x=some (.ref f))(hk:PySem.W.keepIn X.K (.ref f)=true)(hb:Binds X.K fd ps ds)(hd:Ff dvs ds)(hx:Pl CX X E)(ha:PA X (e::es) t)(hdb:(x == ("__debug__" : Str))=false:=by decide)(he:Bp (e::es) X.env=(false,eval e X.env)::Bp es X.env:=by rfl)(hpl:(Gw pos (Bp es X.env)).any (·.1)=false:=by rfl):PE X (.Call (.Name x p) (e::es) [] pos) (N0 sp dvs E t):=by
 intro pins s σ H Q I h
 refine Jq (rV I hg hm ?_ hdb)
 refine PySem.W.callWith_K (h₀:=X.base) I.ok.mod.kin hk (Gj (ha pos pins s σ H _ I h) λus s1 ⟨vs,H1,I1,r,q⟩=>⟨I1.kIn,?_⟩) he hpl
 exact xH F hr hb hd hx I1 r q
theorem xS(F:FnOk X.prog X.w X.K X.mg X.base CX k f fd ps sp)(hr:Room k X.A)(hg:Gl X x)(hm:X.mg x=some (.ref f))(hk:PySem.W.keepIn X.K (.ref f)=true)(hb:Binds X.K fd ps ds)(hd:Ff dvs ds)(hx:Pl CX X E)(hdb:(x == ("__debug__" : Str))=false:=by decide):PE X (.Call (.Name x p) [] [] pos) (N0 sp dvs E BZ):=by
 intro pins s σ H Q I h
 refine Jq (rV I hg hm ?_ hdb)
 exact PySem.W.callWith_K0 I.kIn hk (xH (us:=[]) F hr hb hd hx I .nil h)
end
structure FnScope(N P:List Str)(sc:Scope):Prop where
 kind:sc.kind=.function
 co:sc.isCoroutine=false
 gen:sc.isGenerator=false
 nd:N.Nodup
 pre:N.take P.length=P
 par:∀x∈P,sc.names.lookup x=some .local\/sc.names.lookup x=some .cell
 nofree:∀y∈sc.names,y.2≠.free
theorem eN{kindOf:Str->Option Pd}:∀{binds:List (Str×Value)} {m:Str->Option Value},(∀v,(x,v)∉binds)->bindL kindOf binds m x=m x
 | [],_,_=>rfl
 | (n,v)::r,m,h=>by
  unfold bindL
  rw[eN λw hw=>h w (Ae _ hw)]
  split
  ·have : x≠n:=by rintro rfl; exact h v Ab
   simp [this]
  ·rfl
theorem dR{kindOf:Str->Option Pd}:∀{binds:List (Str×Value)} {m:Str->Option Value},(∀v,(x,v)∉binds)->bindC kindOf binds m x=m x
 | [],_,_=>rfl
 | (n,v)::r,m,h=>by
  unfold bindC
  rw[dR λw hw=>h w (Ae _ hw)]
  split
  ·rfl
  ·have : x≠n:=by rintro rfl; exact h v Ab
   simp [this]
theorem eL{kindOf:Str->Option Pd}:∀{P:List Str} {vs:List Value} {i:Nat} {m:Str->Option Value},P.Nodup->P[i]? = some x->vs[i]? = some v->kindOf x=some .local->bindL kindOf (P.zip vs) m x=some v
 | [],_,_,_,_,h,_,_=>by simp at h
 | _::_,[],_,_,_,_,h,_=>by simp at h
 | p::P,w::vs,0,m,nd,h1,h2,hk=>by
  simp at h1 h2; subst h1; subst h2
  show bindL kindOf ((p,w)::P.zip vs) m p=_
  unfold bindL
  rw[eN λv hv=>(Bx.mp nd).1 (List.of_mem_zip hv).1,if_pos hk]
  simp
 | p::P,w::vs,i+1,m,nd,h1,h2,hk=>by
  show bindL kindOf ((p,w)::P.zip vs) m x=_
  unfold bindL
  exact eL (i:=i) (Bx.mp nd).2 (by simpa using h1) (by simpa using h2) hk
theorem eO{kindOf:Str->Option Pd}:∀{P:List Str} {vs:List Value} {i:Nat} {m:Str->Option Value},P.Nodup->P[i]? = some x->vs[i]? = some v->kindOf x≠some .local->bindC kindOf (P.zip vs) m x=some v
 | [],_,_,_,_,h,_,_=>by simp at h
 | _::_,[],_,_,_,_,h,_=>by simp at h
 | p::P,w::vs,0,m,nd,h1,h2,hk=>by
  simp at h1 h2; subst h1; subst h2
  show bindC kindOf ((p,w)::P.zip vs) m p=_
  unfold bindC
  rw[dR λv hv=>(Bx.mp nd).1 (List.of_mem_zip hv).1,if_neg hk]
  simp
 | p::P,w::vs,i+1,m,nd,h1,h2,hk=>by
  show bindC kindOf ((p,w)::P.zip vs) m x=_
  unfold bindC
  exact eO (i:=i) (Bx.mp nd).2 (by simpa using h1) (by simpa using h2) hk
def start(N:List Str)(vs:List V):St:=vs.map some++By (N.length - vs.length) none
def Ie(CX:pZ)(P:Bq)(w:World)(K:PySem.W.Frag)(mg:Str->Option Value)(base:Heap)(N:List Str)(qual:Str)(scope:Scope)(f:Addr)(cd:Value)(A:Cr)(outer:List Env)(s:Aj)(H:Hp)(E:XK):Cx where
 prog:=P
 w:=w
 K:=K
 mg:=mg
 base:=base
 A:=A.deeper (envOfC qual scope s.heap.objs.size f cd)
 N:=N
 s₀:=s
 H₀:=H
 env:=envOfC qual scope s.heap.objs.size f cd
 outer:=outer
 stack:=envOfC qual scope s.heap.objs.size f cd::outer
 ex:=[]
 calm:=true
 fn:=λ_=>true
 pn:=[]
 xe:=λe s'=>wpAny (model P w) (A.deeper (envOfC qual scope s.heap.objs.size f cd)) (leaving (envOfC qual scope s.heap.objs.size f cd) e) (λ_ s''=>CX outer H s E e s'') (λe' s''=>CX outer H s E e' s'') s'
theorem kQ{sc:Scope}(h:sc.names.lookup x=some .cell):∃c,(Ep n sc.names []).lookup x=some c:=by
 have q:=PySem.W.cellsFrom_some sc.names n [] (.inl h)
 exact Qe.mp q
theorem tV{CX:pZ}{P:Bq}{w:World}{K:PySem.W.Frag}{mg:Str->Option Value}{base:Heap}{N ps:List Str}{qual:Str}{scope:Scope}{f:Addr}{cd:Value}{A:Cr}(S:FnScope N ps scope)(hd:A.handled=none)(e0:Env0 P w K mg base A outer s H)(hl:vs.length=ps.length)(r:Ff vs us)(x:InCallC s s.heap.objs.size (bindL (envOfC qual scope s.heap.objs.size f cd).kindOf (ps.zip us) λ_=>none) (Ep (s.heap.objs.size+1) scope.names []) (bindC (envOfC qual scope s.heap.objs.size f cd).kindOf (ps.zip us) λ_=>none) s1):Inv (Ie CX P w K mg base N qual scope f cd A outer s H E) [] (start N vs) H s1:=by
 have hpl:ps.length<=N.length:=by have:=congrArg Fc S.pre; rw[Cw] at this; omega
 obtain ⟨h1,tk,rfl,hk⟩:=x.done
 have noA:∀b:Addr,b∉(Ie CX P w K mg base N qual scope f cd A outer s H E).ex:=λb z=>absurd (show b∈([]:List Addr) from z) (by simp)
 refine ⟨⟨e0.mod,S.kind,rfl,rfl,Ak _,λy z c h1 h2=>?_,λy hy=>?_,λy c _ h=>?_,λ_=>hd,Around.frames_deeper e0.frames,.inr ⟨rfl,rfl⟩,λb z=>absurd z (noA b),e0.bs,e0.bsz,λb _ _=>noA b,λb z=>absurd z (noA b),e0.funs,e0.frf,e0.tab⟩,
  rfl,e0.bare,Un.kept hk,⟨_,x.toInCall.ns,λi y v h1 h2 h3=>?_⟩,λy c h=>⟨_,x.cell y c h⟩,e0.hok.fresh (Ak _),λy c h=>?_,λp hp=>absurd (show p∈([]:List (Addr×Obj)) from hp) (by simp),e0.hok.kept hk,?_⟩
 ·exact name_of_addr x.apart (PySem.mem_of_lookup h1) (PySem.mem_of_lookup h2)
 ·have hy:scope.names.lookup y=some .cell\/scope.names.lookup y=some .free:=hy
  rcases hy with hy | hy
  ·exact kQ hy
  ·exact absurd rfl (S.nofree _ (PySem.mem_of_lookup hy))
 ·exact Pc (x.above y c (PySem.mem_of_lookup h))
 ·have hi:i<vs.length:=by
   unfold start at h2
   by_cases hi:i<vs.length
   ·exact hi
   ·rw[Fl (by simpa using hi)] at h2
    rw[List.getElem?_replicate] at h2
    split at h2 <;> cases h2
  have ha:vs[i]? = some v:=by
   unfold start at h2
   rw[Km (by simpa using hi),Bf] at h2
   cases e:vs[i]? with
   | none=>rw[e] at h2; cases h2
   | some a=>rw[e] at h2; cases h2; rfl
  obtain ⟨u,hu,rv⟩:=r.get ha
  have hp:ps[i]? = some y:=by
   rw[<- S.pre,Ej (by omega)]; exact h1
  have ndP:ps.Nodup:=by rw[<- S.pre]; exact S.nd.sublist (Mb _ _)
  refine ⟨u,rv,?_⟩
  rcases S.par y (Ax hp) with k | k
  ·exact .inl ⟨k,eL ndP hp hu k⟩
  ·obtain ⟨c,e⟩:=kQ (n:=s.heap.objs.size+1) k
   refine .inr ⟨.inl k,c,e,?_⟩
   have q:=x.cell y c e
   rw[eO ndP hp hu (by show scope.names.lookup y≠_; rw[k]; decide)] at q
   exact q
 ·exact e0.hok.fresh (Pc (x.above y c (PySem.mem_of_lookup h)))
 ·unfold start
  show _=N.length
  rw[Bo,Ad,Tv]
  omega
theorem BR{CX:pZ}{P:Bq}{w:World}{K:PySem.W.Frag}{mg:Str->Option Value}{base:Heap}{k:Nat}{f:Addr}{name qual:Str}{params:Arguments}{body:List Stmt}{dV kV doc pm cdv ct oc:Value}(lk:K.lookup f=some ⟨oc,od,.func (PySem.W.fnOf name qual params body scope dV kV doc pm an cdv ct),osl⟩)(hcd:PySem.W.codeIn K cdv qual=true)(S:FnScope N ps scope)(len:∀vs H Q E,sp vs H Q E->vs.length=ps.length)(hbody:∀(A:Cr) (outer:List Env) (s:Aj) (H:Hp) (vs:List V) (Q:VK) (E:XK),Room k (A.deeper (envOfC qual scope s.heap.objs.size f cdv))->sp vs H Q E->∃t,pV (Ie CX P w K mg base N qual scope f cdv A outer s H E) body t/\t { nx:=λ_ H'=>Q .non H',rt:=Q } (start N vs) H):FnOk P w K mg base CX (k+1) f (PySem.W.fnOf name qual params body scope dV kV doc pm an cdv ct) ps sp:=by
 refine ⟨len,λA outer s H args us vs Q E hr e0 hb r hsp=>?_⟩
 have hl:=len _ _ _ _ hsp
 have KX:K.In s.heap:=e0.mod.kin.keeps λb o e=>(e0.bs b o e).1
 have lim:s.heap.NoLimit:=e0.mod.nolimit.keeps λb o e=>(e0.bs b o e).1
 have hkind:∀y∈ps.zip us,scope.names.lookup y.1=some .local\/(scope.names.lookup y.1=some .cell/\((Ep (s.heap.objs.size+1) scope.names []).lookup y.1).isSome=true):=λ⟨n,v⟩ hy=>by
  rcases S.par n (List.of_mem_zip hy).1 with q | q
  ·exact .inl q
  ·exact .inr ⟨q,PySem.W.cellsFrom_some _ _ _ (.inl q)⟩
 refine codeAny_call_function hr.depth (KX _ _ lk) rfl S.co S.gen rfl (PySem.W.codeRec_of KX hcd) (hb _ _ _ _ ?_)
 refine wpAny_newFunctionEnv_cells S.kind hkind λenv he s1 x=>?_
 subst he
 refine ⟨lim.keeps x.toInCall.keep,codeAny_func ?_⟩
 obtain ⟨t,ht,hq⟩:=hbody A outer s H vs Q E (hr.deeper _) hsp
 have I:Inv (Ie CX P w K mg base N qual scope f cdv A outer s H E) [] (start N vs) H s1:=tV S hr.hd e0 hl r x
 refine Ft (ht [] s1 (start N vs) H _ I hq) (λfl s' hs=>?_) λe s' hs=>hs
 have fin:∀{σ':St} {H':Hp} {v:V} {u:Value},Inv (Ie CX P w K mg base N qual scope f cdv A outer s H E) [] σ' H' s'->RelV v u->Q v H'->CE outer P w H s Q u s' :=
  λ{σ' H' v u} J rv q=>⟨v,H',J.os,J.bare,J.base,J.hok,rv,q⟩
 cases fl with
 | ret u =>
  obtain ⟨v,σ',H',J,rv,q⟩:=hs
  exact fin J rv q
 | next =>
  obtain ⟨σ',H',J,q⟩:=hs
  exact fin (v:=V.non) (u:=Iq) J rfl q
 | brk =>
  obtain ⟨_,_,_,q⟩:=hs
  exact Ka q
 | cont =>
  obtain ⟨_,_,_,q⟩:=hs
  exact Ka q
section
variable{X:Cx}{x:Str}{p pos:Pos}{e:Expr}{es:List Expr}{t:TA}{id T:String}{r:List V->Hp->VK->Prop}
def BC(r:List V->Hp->VK->Prop)(t:TA):TE:=λσ H Q=>t σ H λvs H1=>r vs H1 Q
theorem bN(hc:Ld X (.builtin id) r)(hg:Gl X x)(hm:X.mg x=none)(hv:Js x=some (.builtin id))(ha:PA X (e::es) t)(hn:x ≠ "__name__" := by decide)(hdb:(x == ("__debug__" : Str))=false:=by decide)(he:Bp (e::es) X.env=(false,eval e X.env)::Bp es X.env:=by rfl)(hpl:(Gw pos (Bp es X.env)).any (·.1)=false:=by rfl):PE X (.Call (.Name x p) (e::es) [] pos) (BC r t):=by
 intro pins s σ H Q I h
 refine Jq (Nz I hg hm hv ?_ hn hdb)
 exact PyProof.Rows.callWith_builtin1 (Gj (ha pos pins s σ H _ I h) λus s1 ⟨vs,H1,I1,r1,q1⟩=>hc pins s1 σ H1 vs us Q I1 r1 q1) he hpl
theorem tX(hc:Ld X (.type T) r)(hg:Gl X x)(hm:X.mg x=none)(hv:Js x=some (.type T))(ha:PA X (e::es) t)(hn:x ≠ "__name__" := by decide)(hdb:(x == ("__debug__" : Str))=false:=by decide)(he:Bp (e::es) X.env=(false,eval e X.env)::Bp es X.env:=by rfl)(hpl:(Gw pos (Bp es X.env)).any (·.1)=false:=by rfl):PE X (.Call (.Name x p) (e::es) [] pos) (BC r t):=by
 intro pins s σ H Q I h
 refine Jq (Nz I hg hm hv ?_ hn hdb)
 exact Ez (Gj (ha pos pins s σ H _ I h) λus s1 ⟨vs,H1,I1,r1,q1⟩=>hc pins s1 σ H1 vs us Q I1 r1 q1) he hpl
end
end L2
namespace HT
open PySem PyProof.Rows
def lexLt:List Int->List Int->Bool
 | [],[]=>false
 | [],_::_=>true
 | _::_,[]=>false
 | x::xs,y::ys=>if x=y then lexLt xs ys else decide (x<y)
theorem lexLt_cons(x y:Int)(xs ys:List Int):lexLt (x::xs) (y::ys)=if x=y then lexLt xs ys else decide (x<y):=rfl
theorem lexLt_nil_nil:lexLt [] []=false:=rfl
theorem lexLt_nil_cons(y:Int)(ys:List Int):lexLt [] (y::ys)=true:=rfl
theorem lexLt_cons_nil(x:Int)(xs:List Int):lexLt (x::xs) []=false:=rfl
theorem yE(A:Cr)(s:Aj)(a:Int)(t:Tok)(c:Int)(u:Tok):∃e,Mo A s (.int a t) (.int c u) e/\(e=true↔a=c) :=
 ⟨(a == c),SeqAt.EqAt.int_int a t c u,by simp⟩
theorem vM(A:Cr)(s:Aj)(a:Int)(t:Tok)(c:Int)(u:Tok)(prog:Bq)(w:World)(E:Value->Aj->Prop)(Q:Value->Aj->Prop)(h:Q (.bool (decide (a<c))) s):wpAny (model prog w) A (richCompare .Lt (.int a t) (.int c u)) Q E s :=
 (PyProof.Rows.lt_int h:wpAny (model prog w) A (Kc .Lt (.int a t) (.int c u)) Q E s)
section
open PySem.SeqAt
open PySem.AutoSeq1 (wpAny_loadPart')
open PySem.MeetsSeq PySem.MeetsSeq2 PySem.MeetsSeq3
theorem tuple_lt_ints(l b:Addr)(items items2:Array Value)(n n2:Nat)(dd dd2:Option Addr)(sl sl2:Array (Option Value))(ns ms:List Int)(hi:Ki items.toList ns)(hj:Ki items2.toList ms):Meets (Builtin.«tuple.__lt__» ⟨[.ref l,.ref b],[]⟩) (λ_ R s=>s.heap.get? l=some { cls:=.type "tuple",dict:=dd,data:=.seq items n,slots:=sl }/\s.heap.get? b=some { cls:=.type "tuple",dict:=dd2,data:=.seq items2 n2,slots:=sl2 }/\R (.ok (.ret (.bool (lexLt ns ms)))) s) :=
 .of_wp λprog w A R s h=>by
  obtain ⟨hp,g,d,tk,os⟩:=s; obtain ⟨hl,hb,h⟩:=h
  have f2:=AutoSeq1.sub_tuple_tuple
  have z1:items.size=ns.length:=by rw[<- hi.length]; simp
  have z2:items2.size=ms.length:=by rw[<- hj.length]; simp
  wp_walk using We hl,We hb,wpAny_forIn_list _ (λGk b s'=>b.1=none/\s'=⟨hp,g,d,tk,os⟩/\∃(vs ws:List Value) (ns' ms':List Int),Gk=vs.zip ws /\
   Ki vs ns'/\Ki ws ms'/\ns'.length+items2.size=ms'.length+items.size/\R (.ok (.ret (.bool (lexLt ns' ms')))) ⟨hp,g,d,tk,os⟩) _
  case turn =>
   (rintro ⟨y,x⟩ Gk b s' q_; obtain ⟨hb',rfl,vs,ws,ns',ms',hz,hvi,hwi,hlen,hR⟩ := q_)
   cases hvi with
   | nil=>rw[List.zip_nil_left] at hz; cases hz
   | cons a t hvi' =>
    cases hwi with
    | nil=>rw[List.zip_nil_right] at hz; cases hz
    | cons c u hwi' =>
     rw[Xu] at hz
     injection hz with hyx hrest
     injection hyx with hy hx
     subst hy hx
     rw[lexLt_cons] at hR
     simp only[Bs] at hlen
     obtain ⟨e,he,hiff⟩:=yE A.in1 ⟨hp,g,d,tk,os⟩ a t c u
     refine Aa (he prog w _ _ ?_)
     cases e with
     | true =>
      rw[if_pos (hiff.mp rfl)] at hR
      wp_walk
      exact ⟨rfl,rfl,_,_,_,_,hrest,hvi',hwi',by omega,hR⟩
     | false =>
      rw[if_neg (λq=>absurd (hiff.mpr q) Br)] at hR
      have hri:=vM A.in1 ⟨hp,g,d,tk,os⟩ a t c u prog w
      wp_walk using hri
      exact ⟨_,rfl,by simpa using hR⟩
  case fin =>
   (rintro ⟨b1,b2⟩ s' q_; obtain ⟨hb',rfl,vs,ws,ns',ms',hz,hvi,hwi,hlen,hR⟩ := q_)
   simp only at hb'
   subst hb'
   have hv:lexLt ns' ms'=decide (items.size<items2.size):=by
    cases hvi with
    | nil =>
     cases hwi with
     | nil =>
      simp only[Lb] at hlen
      rw[lexLt_nil_nil]
      exact (decide_eq_false (by omega)).symm
     | cons c u hw =>
      simp only[Lb,Bs] at hlen
      rw[lexLt_nil_cons]
      exact (decide_eq_true (by omega)).symm
    | cons a t hv =>
     cases hwi with
     | nil =>
      simp only[Lb,Bs] at hlen
      rw[lexLt_cons_nil]
      exact (decide_eq_false (by omega)).symm
     | cons c u hw =>
      rw[Xu] at hz
      cases hz
   rw[hv] at hR
   wp_walk
   exact ⟨_,rfl,by simpa [Builtin.Tuple.tupleCompareSizes] using hR⟩
  case h =>
   exact ⟨rfl,rfl,items.toList,items2.toList,ns,ms,rfl,hi,hj,by omega,h⟩
end
section
variable{prog:Bq}{w:World}{A:Cr}{E:Value->Aj->Prop}{s:Aj}
theorem cat_tup(ht:IsTup s.heap t vs.toArray)(hb:IsTup s.heap b ws.toArray)(hv:vs≠[])(h1:ws=[]->Q (.ref t) s)(h2:ws≠[]->Q (.ref s.heap.objs.size) { s with heap:=s.heap.push { cls:=.type "tuple",data:=.seq (vs++ws).toArray } })(hsz:vs.length+ws.length<=Au):wpAny (model prog w) A (Iw .Add (.ref t) (.ref b)) Q E s:=by
 obtain ⟨⟨cls,dd,data,sl⟩,ho,hc,n,hd⟩:=id ht
 obtain ⟨⟨cls2,dd2,data2,sl2⟩,ho2,hc2,n2,hd2⟩:=id hb
 simp only at hc hd hc2 hd2
 subst hc hd hc2 hd2
 have e:vs.toArray++ws.toArray=(vs++ws).toArray:=by simp
 by_cases hw:ws=[]
 ·exact concat_meets ⟨_,ho,rfl⟩ ⟨_,ho2,rfl⟩ iY seq_tuple_add PySem.F.slot_tuple_add PySem.F.entry_tuple_add (PySem.F.args_tuple_add_2 _ _)
   (tuple_addW1 t b vs.toArray ws.toArray n n2 dd dd2 sl sl2 (by simpa using hv) (by simp [hw])) ⟨ho,ho2,h1 hw⟩
 ·refine concat_meets ⟨_,ho,rfl⟩ ⟨_,ho2,rfl⟩ iY seq_tuple_add PySem.F.slot_tuple_add PySem.F.entry_tuple_add (PySem.F.args_tuple_add_2 _ _)
   (tuple_addW2 t b vs.toArray ws.toArray n n2 dd dd2 sl sl2 (by simpa using hv) (by simpa using hw) (by rw[Ar,Ar]; exact hsz)) ⟨ho,ho2,?_⟩
  rw[e]
  exact h2 hw
def sIx(n d:Nat):Option Int->Nat
 | none=>d
 | some v=>if v<0 then (v+(n:Int)).toNat else min v.toNat n
theorem sIx_none(n d:Nat):sIx n d none=d:=rfl
theorem sIx_nat(n d k:Nat):sIx n d (some (k:Int))=min k n:=by
 show (if (k:Int)<0 then ((k:Int)+(n:Int)).toNat else min (k:Int).toNat n)=min k n
 rw[if_neg (by omega),Gp]
theorem Y9(n d:Nat)(hd:d<=n)(o:Option Int):sIx n d o<=n:=by
 cases o with
 | none=>exact hd
 | some v =>
  show (if v<0 then (v+(n:Int)).toNat else min v.toNat n)<=n
  by_cases hv:v<0
  ·rw[if_pos hv]; omega
  ·rw[if_neg hv]; exact Nat.min_le_right _ _
theorem qC(v:Int)(n d:Nat):(if v<0 then max (v+(n:Int)) 0 else min v (n:Int))=((sIx n d (some v):Nat):Int):=by
 show (if v<0 then max (v+(n:Int)) 0 else min v (n:Int))=(((if v<0 then (v+(n:Int)).toNat else min v.toNat n):Nat):Int)
 by_cases hv:v<0
 ·simp only[if_pos hv]; omega
 ·simp only[if_neg hv]; omega
theorem oN(lo hi:Option Int)(n:Nat):Nf lo hi 1 (n:Int)=(((sIx n 0 lo:Nat):Int),((sIx n n hi:Nat):Int)):=by
 have h1:¬ ((1:Int)<0):=by omega
 unfold Nf
 simp only[h1,if_false]
 refine Prod.ext ?_ ?_
 ·cases lo with
  | none=>rfl
  | some v=>exact qC v n 0
 ·cases hi with
  | none=>rfl
  | some v=>exact qC v n n
theorem oY(i j:Nat):Jb (i:Int) (j:Int) 1=j - i:=by
 unfold Jb
 have h1:(1:Int) > 0:=by omega
 simp only[h1,if_true,Int.ediv_one]
 split <;> omega
theorem aZ(p:Yr v o)(h:Q o s):wpAny (model prog w) A (Builtin.Slice.slicePartIndex v) Q E s:=by
 cases p with
 | none=>exact slicePart_none h
 | int i t=>exact slicePart_int h
theorem sliceApplied_gen{lo hi:Option Int}{n:Nat}(hs:s.heap.IsSliceOf sl vl vu .none)(pl:Yr vl lo)(pu:Yr vu hi)(h:Q (((sIx n 0 lo:Nat):Int),1,sIx n n hi - sIx n 0 lo) s):wpAny (model prog w) A (Wp (.ref sl) (pure (n:Int))) Q E s:=by
 obtain ⟨os,hos,hcs,hds⟩:=id hs
 unfold Wp Builtin.Slice.sliceFields
 refine Aa (Aa (Eu hos hds (x:=vl) rfl (Aa (Eu hos hds (x:=vu) rfl (Aa (Eu hos hds (x:=.none) rfl (Am ?_)))))))
 refine Aa (slicePart_none ?_)
 show wpAny _ _ (if ((1:Int) == 0)=true then _ else _) _ _ s
 rw[if_neg (by decide)]
 refine Aa (aZ pl (Aa (aZ pu (Aa (Am ?_)))))
 show wpAny _ _ (match Nf lo hi 1 (n:Int) with | (lo,hi)=>pure (lo,(1:Int),Jb lo hi 1)) _ _ s
 rw[oN lo hi n]
 show wpAny _ _ (pure (((sIx n 0 lo:Nat):Int),(1:Int),Jb ((sIx n 0 lo:Nat):Int) ((sIx n n hi:Nat):Int) 1)) _ _ s
 rw[oY]
 exact Am h
theorem q8(xs:Array Value)(i k:Nat):((Di k).filterMap λ(m:Nat)=>xs[((i:Int)+(m:Int) * 1).toNat]?).toArray=((xs.toList.drop i).take k).toArray:=by
 have e:(λ(m:Nat)=>xs[((i:Int)+(m:Int) * 1).toNat]?)=λm=>xs[i+m]?:=by
  funext m
  have : ((i:Int)+(m:Int) * 1).toNat=i+m:=by omega
  rw[this]
 rw[e]
 have:=pick_run xs i k
 rw[Xw] at this
 have e2:((λx=>xs[x]?) ∘ λx=>i+x)=λm=>xs[i+m]?:=rfl
 rw[e2] at this
 rw[this]
theorem getItem_tuple_cut{lo hi:Option Int}(ht:IsTup s.heap t items)(hs:s.heap.IsSliceOf sl vl vu .none)(pl:Yr vl lo)(pu:Yr vu hi)(hw:¬ (sIx items.size 0 lo=0/\sIx items.size items.size hi=items.size))(h:Q (.ref s.heap.objs.size) { s with heap:=s.heap.push { cls:=.type "tuple",data:=.seq ((items.toList.drop (sIx items.size 0 lo)).take (sIx items.size items.size hi - sIx items.size 0 lo)).toArray } })(hsz:items.size<=Au):wpAny (model prog w) A (Se (.ref t) (.ref sl)) Q E s:=by
 have htake:sizeOk (.seq ((items.toList.drop (sIx items.size 0 lo)).take (sIx items.size items.size hi - sIx items.size 0 lo)).toArray):=by
  show ((items.toList.drop (sIx items.size 0 lo)).take (sIx items.size items.size hi - sIx items.size 0 lo)).toArray.size<=Au
  rw[Ar,Cw,cM,Az]
  omega
 have hj:sIx items.size items.size hi<=items.size:=Y9 _ _ (Ak _) hi
 obtain ⟨os,hos,hcs,hds⟩:=id hs
 have hTs:s.TypeIs (.ref sl) "slice" := ⟨os,hos,hcs⟩
 unfold Se
 try with_reducible refine Dd ?_
 first | refine Aa (Am ?_) | skip
 refine Aa (fK ht.typeIs (by decide) ?_)
 refine Aa (Ed (name:=Ds "__getitem__") ht.typeIs Ek
  (Ex Ek ht.typeIs entry_tuple_getitem ?_ (args_tuple_getitem _ _)))
 show wpAny _ _ (Wn (.ref t) >>= _) _ _ s
 refine Aa (tupleItemsOf_ ht ?_)
 refine Aa (La hTs ?_)
 rw[if_pos (by decide)]
 refine Aa (sliceApplied_gen hs pl pu ?_)
 have hno:¬ ((((sIx items.size 0 lo:Nat):Int) == 0 && (1:Int) == 1 && (sIx items.size items.size hi - sIx items.size 0 lo) == items.size)=true):=by
  intro q
  rw[Dk,Dk] at q
  have q1:((sIx items.size 0 lo:Nat):Int)=0:=Dt q.1.1
  have q2:sIx items.size items.size hi - sIx items.size 0 lo=items.size:=Dt q.2
  exact hw ⟨by omega,by omega⟩
 show wpAny _ _ (if (((sIx items.size 0 lo:Nat):Int) == 0 && (1:Int) == 1 && (sIx items.size items.size hi - sIx items.size 0 lo) == items.size)=true then _ else _) _ _ s
 rw[if_neg hno,q8]
 first
  | exact Aa (m:=Jw _) (Dv (Am ⟨_,rfl,Am h⟩) htake)
  | exact Aa (m:=Jw _) (Dv (Aa (Am (Am ⟨_,rfl,Am h⟩))) htake)
  | exact Aa (Aa (m:=Jw _) (Dv (Am (Am ⟨_,rfl,Am h⟩)) htake))
  | exact Aa (Aa (m:=Jw _) (Dv (Am ⟨_,rfl,Am h⟩) htake))
end
end HT
namespace L2
open PySem PySem.Spec PyProof.Rows
abbrev TO:=St->Hp->(Option Int->Hp->Prop)->Prop
def PO(X:Cx)(e:Option Expr)(t:TO):Prop :=
 ∀(pins:List (Addr×Obj)) (s:Aj) (σ:St) (H:Hp) (Q:Option Int->Hp->Prop),Inv X pins σ H s->t σ H Q ->
  wpAny (model X.prog X.w) X.A (evalPart e X.env) (λu s'=>∃o H',Inv X pins σ H' s'/\Yr u o/\Q o H') X.xe s
def M5:TO:=λ_ H Q=>Q none H
def CF(t:TE):TO:=λσ H Q=>t σ H λx H1=>∃i,x=.int i/\Q (some i) H1
theorem intsAre_of:∀{us:List Value},Ff (ns.map V.int) us->Ki us ns:=by
 induction ns with
 | nil=>intro us r; rw[Kh] at r; cases r; exact .nil
 | cons n ns ih =>
  intro us r
  rw[Aw] at r
  cases r with
  | cons r1 r2 =>
   obtain ⟨t,e⟩:=r1
   subst e
   exact .cons n t (ih r2)
section
variable{X:Cx}{e:Expr}{te:TE}{lo hi:Option Expr}{tl th:TO}{pos p2:Pos}
theorem A3:PO X none M5:=by
 intro pins s σ H Q I h
 rw[evalPart_none]
 exact Am ⟨none,H,I,.none,h⟩
theorem x5(h:PE X e te):PO X (some e) (CF te):=by
 intro pins s σ H Q I hw
 rw[evalPart_some]
 refine Gj (h pins s σ H _ I hw) λu s1 q0_ => ?_
 obtain ⟨x,H1,I1,r1,q1⟩ := q0_
 obtain ⟨i,rfl,q⟩:=q1
 obtain ⟨t,rfl⟩:=r1
 exact ⟨some i,H1,I1,.int i t,q⟩
def V0(X:Cx)(r:V->Option Int->Option Int->Hp->VK->Prop):Prop :=
 ∀(pins:List (Addr×Obj)) (s:Aj) (σ:St) (H:Hp) (x:V) (v vl vu:Value) (lo hi:Option Int) (sl:Addr) (Q:VK),Inv X pins σ H s->RelV x v->s.heap.IsSliceOf sl vl vu .none->Yr vl lo->Yr vu hi->r x lo hi H Q ->
  ∃T id,typeLookup (.type T) "__getitem__" = pure (some (.builtin id))/\s.TypeIs v T/\wpAny (model X.prog X.w) X.A (Se v (.ref sl)) (EP X pins σ Q) X.xe s
theorem V0.or(h:V0 X r)(h':V0 X r'):V0 X (λx lo hi H Q=>r x lo hi H Q\/r' x lo hi H Q):=by
 intro pins s σ H x v vl vu lo hi sl Q I rx hs pl pu q
 rcases q with q | q
 ·exact h pins s σ H x v vl vu lo hi sl Q I rx hs pl pu q
 ·exact h' pins s σ H x v vl vu lo hi sl Q I rx hs pl pu q
def HP(r:V->Option Int->Option Int->Hp->VK->Prop)(te:TE)(tl th:TO):TE:=λσ H Q=>te σ H λx H1=>tl σ H1 λl H2=>th σ H2 λu H3=>r x l u H3 Q
theorem kH(hr:V0 X r)(he:PE X e te)(hl:PO X lo tl)(hu:PO X hi th):PE X (.Subscript e (.Slice lo hi none p2) pos) (HP r te tl th):=by
 intro pins s σ H Q I h
 refine Subscript_ (Gj (he pins s σ H _ I h) λv s1 q0_ => ?_)
 obtain ⟨x,H1,I1,r1,q1⟩ := q0_
 refine wpAny_Slice (Gj (hl pins s1 σ H1 _ I1 q1) λvl s2 ⟨l,H2,I2,pl,q2⟩=>Gj (hu pins s2 σ H2 _ I2 q2) λvu s3 q0_ => ?_)
 obtain ⟨u,H3,I3,pu,q3⟩ := q0_
 rw[evalPart_none]
 refine Am ?_
 have I4:Inv X pins σ H3 { s3 with heap:=s3.heap.push { cls:=.type "slice",data:=.fields #[vl,vu,.none] } }:=I3.kept (t':=s3.toks) λb ob q=>Ah _ q
 obtain ⟨T,id,hT,ht,hg⟩:=hr pins { s3 with heap:=s3.heap.push { cls:=.type "slice",data:=.fields #[vl,vu,.none] } } σ H3 x v vl vu l u s3.heap.objs.size Q I4 r1 (Heap.IsSliceOf.new ..) pl pu q3
 show wpAny (model X.prog X.w) X.A (cH e (.Slice lo hi none p2) v (.ref s3.heap.objs.size)) (EP X pins σ Q) X.xe { s3 with heap:=s3.heap.push { cls:=.type "slice",data:=.fields #[vl,vu,.none] } }
 exact tail_any (ops:=[.ref s3.heap.objs.size,v]) ht hT hg (by with_unfolding_all rfl)
def cC(xs:List V)(lo hi:Option Int):List V:=(xs.drop (HT.sIx xs.length 0 lo)).take (HT.sIx xs.length xs.length hi - HT.sIx xs.length 0 lo)
theorem Ye(xs:List V)(lo hi:Option Int):(cC xs lo hi).length<=xs.length:=by
 unfold cC
 rw[Cw,cM]
 omega
def FT(K:PySem.W.Frag):V->Option Int->Option Int->Hp->VK->Prop:=λx lo hi H Q=>∃a xs,x=.ref a/\Up K H a xs /\
 ¬ (HT.sIx xs.length 0 lo=0/\HT.sIx xs.length xs.length hi=xs.length)/\∀p,H p=none->Q (.ref p) (upd H p (.tup (cC xs lo hi)))
theorem X9:V0 X (FT X.K):=by
 intro pins s σ H x v vl vu lo hi sl Q I rx hs pl pu h
 obtain ⟨a,xs,rfl,hx,hw,q⟩:=h
 cases rx
 obtain ⟨its,r,ht,hz⟩:=I.tuple hx
 have hlen:its.toArray.size=xs.length:=by rw[Ar]; exact r.length.symm
 refine ⟨"tuple",_,Ek.lookup,ht.typeIs,?_⟩
 refine HT.getItem_tuple_cut ht hs pl pu (by rw[hlen]; exact hw) ?_ (by rw[hlen]; exact hz)
 rw[hlen]
 refine ⟨.ref s.heap.objs.size,_,I.laid (t':=s.toks) (o:=.tup (cC xs lo hi)) (λb ob q=>Ah _ q) (Ak _) ?_,rfl,q _ (I.hok.fresh (Ak _))⟩
 exact ⟨Bz (Ye xs lo hi) hz,_,(r.drop (HT.sIx xs.length 0 lo)).take (HT.sIx xs.length xs.length hi - HT.sIx xs.length 0 lo),IsTup.new _ _⟩
def BE(K:PySem.W.Frag):R2:=λx y H Q=>∃a b xs ys,x=.ref a/\y=.ref b/\Up K H a xs/\Up K H b ys/\xs≠[]/\xs.length+ys.length<=Au /\
 (ys=[]->Q (.ref a) H)/\(ys≠[]->∀p,H p=none->Q (.ref p) (upd H p (.tup (xs++ys))))
theorem Ff.nil_iff(r:Ff xs us):us=[]↔xs=[]:=by
 cases r with
 | nil=>simp
 | cons _ _=>simp
theorem L5:Xp X (Iw .Add) (BE X.K):=by
 intro pins s σ H x y v u Q I rx ry h
 obtain ⟨a,b,xs,ys,rfl,rfl,ha,hb,hx,hz,q1,q2⟩:=h
 cases rx
 cases ry
 obtain ⟨its,r1,p1,_⟩:=I.tuple ha
 obtain ⟨its2,r2,p2,_⟩:=I.tuple hb
 refine HT.cat_tup p1 p2 (λz=>hx (r1.nil_iff.mp z)) (λz=>⟨.ref a,H,I,rfl,q1 (r2.nil_iff.mp z)⟩) (λz=>?_) (by rw[<- r1.length,<- r2.length]; exact hz)
 refine ⟨.ref s.heap.objs.size,_,I.laid (t':=s.toks) (o:=.tup (xs++ys)) (λb ob q=>Ah _ q) (Ak _) ?_,rfl,q2 (λw=>z (r2.nil_iff.mpr w)) _ (I.hok.fresh (Ak _))⟩
 exact ⟨by rw[Bo]; exact hz,_,r1.append r2,IsTup.new _ _⟩
end
def E5(n:Nat)(i:Int):Option Nat:=if 0<=i then (if i<n then some i.toNat else none) else if -(n:Int)<=i then some (i+n).toNat else none
def Tc{α:Type}(xs:List α)(i:Int):Option α:=(E5 xs.length i).bind λj=>xs[j]?
theorem rA(h:E5 n i=some j):seqIndex? i n=some j/\j<n /\ -(n:Int)<=i/\i<n:=by
 unfold E5 at h
 by_cases h0:0<=i
 ·rw[if_pos h0] at h
  by_cases h1:i<n
  ·rw[if_pos h1] at h
   have e:i.toNat=j:=Bn h
   exact ⟨by rw[seqIndex_of h0 h1,e],by omega,by omega,h1⟩
  ·rw[if_neg h1] at h; cases h
 ·rw[if_neg h0] at h
  by_cases h1:-(n:Int)<=i
  ·rw[if_pos h1] at h
   have e:(i+n).toNat=j:=Bn h
   exact ⟨by rw[seqIndex_neg (by omega) h1,e],by omega,h1,by omega⟩
  ·rw[if_neg h1] at h; cases h
theorem gE(h:Tc xs i=some v):∃j,seqIndex? i xs.length=some j/\xs[j]? = some v/\j<xs.length /\ -(xs.length:Int)<=i/\i<xs.length:=by
 unfold Tc at h
 cases e:E5 xs.length i with
 | none=>rw[e] at h; cases h
 | some j =>
  rw[e] at h
  obtain ⟨h1,h2,h3,h4⟩:=rA e
  exact ⟨j,h1,h,h2,h3,h4⟩
theorem K8{xs:List α}{j:Nat}{v:α}(h:xs[j]? = some v):Tc xs (j:Int)=some v:=by
 have hj:j<xs.length:=(Ap.mp h).1
 have e:E5 xs.length (j:Int)=some j:=by
  unfold E5
  rw[if_pos (by omega),if_pos (by omega)]; simp
 unfold Tc; rw[e]; exact h
def fQ(b:Expr):Prop:=∀o i,subscripted b false o i=operate [o,i] (Se o i)
def E4(X:Cx)(r:R2):Prop :=
 ∀(value slice:Expr) (pins:List (Addr×Obj)) (s:Aj) (σ:St) (H:Hp) (x y:V) (v u:Value) (Q:VK),Inv X pins σ H s->RelV x v->RelV y u->r x y H Q ->
  subscripted slice false v u=operate [v,u] (Se v u)->wpAny (model X.prog X.w) X.A (cH value slice v u) (EP X pins σ Q) X.xe s
def HX(X:Cx)(id:String)(r:V->List V->Hp->VK->Prop):Prop :=
 ∀(pins:List (Addr×Obj)) (s:Aj) (σ:St) (H:Hp) (x:V) (xs:List V) (v:Value) (us:List Value) (Q:VK),Inv X pins σ H s->RelV x v->Ff xs us->r x xs H Q ->
  wpAny (model X.prog X.w) X.A (call (.builtin id) (v::us)) (EP X pins σ Q) X.xe s
section
variable{X:Cx}{a b:Expr}{ta tb:TE}{pos:Pos}
theorem E4.or(h:E4 X r)(h':E4 X r'):E4 X (λx y H Q=>r x y H Q\/r' x y H Q):=by
 intro value slice pins s σ H x y v u Q I rx ry q hs
 rcases q with q | q
 ·exact h value slice pins s σ H x y v u Q I rx ry q hs
 ·exact h' value slice pins s σ H x y v u Q I rx ry q hs
theorem aJ(hr:E4 X r)(ha:PE X a ta)(hb:PE X b tb)(hs:fQ b):PE X (.Subscript a b pos) (CC r ta tb):=by
 intro pins s σ H Q I h
 exact Subscript_ (AA ha hb I h λv u s2 x y H2 I2 rx ry q=>hr a b pins s2 σ H2 x y v u Q I2 rx ry q (hs _ _))
def DN(K:PySem.W.Frag):R2:=λx y H Q=>∃p xs i v,x=.ref p/\y=.int i/\Mc K H p xs/\Tc xs i=some v/\Q v H
def CV(K:PySem.W.Frag):R2:=λx y H Q=>∃p xs i v,x=.ref p/\y=.int i/\Up K H p xs/\Tc xs i=some v/\Q v H
def EK:R2:=λx y H Q=>∃z i c,x=.str z/\y=.int i/\z.length<=Au/\Tc z.cps.toList i=some c/\Q (.str ⟨#[c]⟩) H
theorem Tb:E4 X (DN X.K):=by
 intro value slice pins s σ H x y v u Q I rx ry h hs
 obtain ⟨p,xs,i,z,rfl,rfl,hq,he,q⟩:=h
 cases rx
 obtain ⟨t,rfl⟩:=ry
 obtain ⟨its,r,pl,hz⟩:=I.list hq
 obtain ⟨j,h1,h2,h3,h4,h5⟩:=gE he
 obtain ⟨w,ew,rw'⟩:=r.get h2
 have hl:=r.length
 have hn:=Xm
 have fin:EP X pins σ Q w s:=⟨z,H,I,rw',q⟩
 by_cases h0:0<=i
 ·have hj:i.toNat=j:=by
   rw[seqIndex_of h0 h5] at h1
   exact Bn h1
  exact item_listR pl.isList h0 (by omega) (by rw[hj]; simpa using ew) fin hs
 ·have hj:(i+(its.toArray.size:Int)).toNat=j:=by
   rw[seqIndex_neg (by omega) h4] at h1
   rw[Ar,<- hl]
   exact Bn h1
  exact x3 (x:=w) pl.isList.typeIs fN.lookup
   (wpAny_getItem_list_neg (Q:=λr s'=>r=w/\EP X pins σ Q r s') pl.isList (by omega) (by rw[Ar] <;> omega) (by omega) (by rw[hj]; simpa using ew) ⟨rfl,fin⟩) hs
theorem GN:E4 X (CV X.K):=by
 intro value slice pins s σ H x y v u Q I rx ry h hs
 obtain ⟨p,xs,i,z,rfl,rfl,hq,he,q⟩:=h
 cases rx
 obtain ⟨t,rfl⟩:=ry
 obtain ⟨its,r,pl,hz⟩:=I.tuple hq
 obtain ⟨j,h1,h2,h3,h4,h5⟩:=gE he
 obtain ⟨w,ew,rw'⟩:=r.get h2
 have hl:=r.length
 have hn:=Xm
 have fin:EP X pins σ Q w s:=⟨z,H,I,rw',q⟩
 exact x3 (x:=w) pl.typeIs slot_tuple_getitem.lookup
  (getItem_tuple (j:=j) (Q:=λr s'=>r=w/\EP X pins σ Q r s') pl (by omega) (by omega) (by rw[Ar,<- hl]; exact h1) (by simpa using ew) ⟨rfl,fin⟩) hs
theorem T7:E4 X EK:=by
 intro value slice pins s σ H x y v u Q I rx ry h hs
 obtain ⟨z,i,c,rfl,rfl,hz,he,q⟩:=h
 obtain ⟨t,rfl⟩:=rx
 obtain ⟨t',rfl⟩:=ry
 obtain ⟨j,h1,h2,h3,h4,h5⟩:=gE he
 have hl:z.cps.toList.length=z.length:=by simp [Str.length]
 rw[hl] at h1 h4 h5
 have hn:=Xm
 exact tail_any (typeIs_str s z t) slot_str_getitem.lookup (getItem_str (c:=c) (by
  have e1:decide (i < -(2 ^ 63:Int))=false:=decide_eq_false (by omega)
  have e2:decide (i ≥ 2 ^ 63)=false:=decide_eq_false (by omega)
  rw[e1,e2,Bool.or_false]) (by rw[h1]; simpa using h2) ⟨.str ⟨#[c]⟩,H,I.tok _,⟨_,rfl⟩,q⟩) hs
def HB(K:PySem.W.Frag):R2:=λx y H Q=>DN K x y H Q\/CV K x y H Q\/EK x y H Q
theorem S8:E4 X (HB X.K):=Tb.or (GN.or T7)
theorem nJ(its:List Value)(n j:Nat)(u:Value):Cp (·.setIfInBounds j u) { cls:=.type "list",data:=.seq its.toArray n }={ cls:=.type "list",data:=.seq (its.set j u).toArray n }:=by
 simp [Cp]
theorem Inv.lst{pins:List (Addr×Obj)}{σ:St}{H:Hp}{s:Aj}{p:Addr}{xs:List V}(I:Inv X pins σ H s)(h:H p=some (.lst xs)):∃(its:List Value) (n:Nat),Ff xs its/\s.heap.get? p=some { cls:=.type "list",data:=.seq its.toArray n }/\xs.length<=Au:=by
 obtain ⟨z,its,n,r,e⟩:=I.hok p _ h
 exact ⟨its,n,r,e,z⟩
theorem Inv.lstUpd{pins:List (Addr×Obj)}{σ:St}{H:Hp}{its its':List Value}(I:Inv X pins σ H s)(h:H p=some (.lst xs))(ho:s.heap.get? p=some { cls:=.type "list",data:=.seq its.toArray n })(hf:f { cls:=.type "list",data:=.seq its.toArray n }={ cls:=.type "list",data:=.seq its'.toArray n' })(r:Ff ys its')(hz:ys.length<=Au)(t:Nat):Inv X pins σ (upd H p (.lst ys)) { s with heap:=s.heap.update p f,toks:=t }:=by
 have e:(s.heap.update p f).get? p=some { cls:=.type "list",data:=.seq its'.toArray n' }:=by
  rw[Fz f ho (by rw[hf] <;> rfl),hf]
 refine I.write (x:=p) (e:=p) (by rw[h]; trivial) (.inl rfl) (λb u hb q=>(Fm _ _ (Lm hb)).trans q) ⟨_,e⟩ ?_
 exact ⟨hz,its',n',r,e⟩
def AZ:V->V->V->Hp->(Hp->Prop)->Prop:=λo i v H Q=>∃p xs k j,o=.ref p/\i=.int k/\H p=some (.lst xs)/\E5 xs.length k=some j/\Q (upd H p (.lst (xs.set j v)))
theorem lU:EO X AZ:=by
 intro pins s σ H o i v ov iv u Q I ro ri rv h
 obtain ⟨p,xs,k,j,rfl,rfl,hp,hj,q⟩:=h
 cases ro
 obtain ⟨t,rfl⟩:=ri
 obtain ⟨its,n,r,ho,hz⟩:=I.lst hp
 obtain ⟨h1,h2,h3,h4⟩:=rA hj
 have hl:=r.length
 have hn:=Xm
 have I':Inv X pins σ (upd H p (.lst (xs.set j v))) { s with heap:=s.heap.update p (Cp (·.setIfInBounds j u)) } :=
  I.lstUpd hp ho (nJ its n j u) (r.set rv j) (by rw[List.length_set]; exact hz) s.toks
 by_cases h0:0<=k
 ·have hk:k.toNat=j:=by
   rw[seqIndex_of h0 h4] at h1
   exact Bn h1
  exact PySem.W.ki_setAt ho h0 (by omega) (by rw[Ar,<- hl]; exact h4) (by rw[hk]; exact ⟨_,I',q⟩)
 ·have hk:(k+(its.toArray.size:Int)).toNat=j:=by
   rw[seqIndex_neg (by omega) h3] at h1
   rw[Ar,<- hl]
   exact Bn h1
  exact PySem.W.ki_setBack ho (by omega) (by rw[Ar,<- hl]; exact h3) (by omega) (by rw[hk]; exact ⟨_,I',q⟩)
theorem iP(lo hi:Option Int)(n:Nat):(Jm lo hi none n).1=((HT.sIx n 0 lo:Nat):Int)/\(Jm lo hi none n).2.1=((HT.sIx n n hi:Nat):Int)/\(Jm lo hi none n).2.2=1:=by
 refine ⟨?_,?_,rfl⟩
 ·cases lo with
  | none=>simp [Jm,HT.sIx]
  | some i =>
   simp only[Jm,HT.sIx,Option.getD_none,show (1:Int) > 0 by decide,if_true]
   by_cases h:i<0
   ·simp only[h,if_true] <;> omega
   ·simp only[h,if_false] <;> omega
 ·cases hi with
  | none=>simp [Jm,HT.sIx]
  | some i =>
   simp only[Jm,HT.sIx,Option.getD_none,show (1:Int) > 0 by decide,if_true]
   by_cases h:i<0
   ·simp only[h,if_true] <;> omega
   ·simp only[h,if_false] <;> omega
theorem cU(its:List Value)(lo hi:Option Int):slicePick its.toArray lo hi none=((its.drop (HT.sIx its.length 0 lo)).take (HT.sIx its.length its.length hi - HT.sIx its.length 0 lo)).toArray:=by
 obtain ⟨h1,h2,h3⟩:=iP lo hi its.toArray.size
 unfold slicePick
 rw[h1,h2,h3]
 simp only[sliceRange_one,pick_run,Ar] <;> rfl
def X1(K:PySem.W.Frag):V->Option Int->Option Int->Hp->VK->Prop:=λx lo hi H Q=>∃a xs,x=.ref a/\Mc K H a xs/\∀p,H p=none->Q (.ref p) (upd H p (.lst (cC xs lo hi)))
theorem K1:V0 X (X1 X.K):=by
 intro pins s σ H x v vl vu lo hi sl Q I rx hs pl pu h
 obtain ⟨a,xs,rfl,hx,q⟩:=h
 cases rx
 obtain ⟨its,r,ht,hz⟩:=I.list hx
 have hlen:=r.length
 refine ⟨"list",_,fN.lookup,ht.isList.typeIs,?_⟩
 refine vD ht.isList hs pl pu .none (by simp) ?_ (by rw[Ar] <;> omega)
 rw[cU,<- hlen]
 refine ⟨.ref s.heap.objs.size,_,I.laid (t':=s.toks) (o:=.lst (cC xs lo hi)) (λb ob q=>Ah _ q) (Ak _) ?_,rfl,q _ (I.hok.fresh (Ak _))⟩
 exact ⟨Bz (Ye xs lo hi) hz,_,0,(r.drop (HT.sIx xs.length 0 lo)).take (HT.sIx xs.length xs.length hi - HT.sIx xs.length 0 lo),Bg _ rfl⟩
theorem iE:Ld X (.type "list") (λxs H Q=>∃p ys,xs=[.ref p]/\(Mc X.K H p ys\/Up X.K H p ys)/\∀l,H l=none->Q (.ref l) (upd H l (.lst ys))):=by
 intro pins s σ H xs us Q I r h
 obtain ⟨p,ys,rfl,hq,q⟩:=h
 obtain ⟨u,rfl,rx⟩:=vals1 r
 cases rx
 have fin:∀(its:List Value),Ff ys its->ys.length<=Au->∀(h':Heap) (c':Nat),(∀b o',s.heap.get? b=some o'->h'.get? b=some o') ->
   h'.get? s.heap.objs.size=some { cls:=.type "list",dict:=none,data:=.seq its.toArray c',slots:=#[] }->EP X pins σ Q (.ref s.heap.objs.size) { s with heap:=h' }:=λits r' hz h' c' kp e =>
  ⟨.ref s.heap.objs.size,_,I.laid (t':=s.toks) kp (Ak _) (show Hj X.prog X.w _ h' _ (.lst ys) from ⟨hz,its,c',r',e⟩),rfl,q _ (I.hok.fresh (Ak _))⟩
 rcases hq with hq | hq
 ·obtain ⟨its,r',pl,hz⟩:=I.list hq
  have hlen:=r'.length
  obtain ⟨o,ho,hc,n,hd⟩:=pl.isList
  exact call_list_seq p (.inl rfl) ho hc hd (λh' c' kp e=>fin its r' hz h' c' kp e) (by simp only[Ar] <;> omega)
 ·obtain ⟨its,r',pl,hz⟩:=I.tuple hq
  have hlen:=r'.length
  obtain ⟨o,ho,hc,n,hd⟩:=pl
  exact call_list_seq p (.inr rfl) ho hc hd (λh' c' kp e=>fin its r' hz h' c' kp e) (by simp only[Ar] <;> omega)
theorem cS:Ld X (.type "tuple") (λxs H Q=>∃p ys,xs=[.ref p]/\((Mc X.K H p ys/\∀l,H l=none->Q (.ref l) (upd H l (.tup ys)))\/(Up X.K H p ys/\Q (.ref p) H))):=by
 intro pins s σ H xs us Q I r h
 obtain ⟨p,ys,rfl,h⟩:=h
 obtain ⟨u,rfl,rx⟩:=vals1 r
 cases rx
 rcases h with ⟨hq,q⟩ | ⟨hq,q⟩
 ·obtain ⟨its,r',pl,hz⟩:=I.list hq
  have hlen:=r'.length
  refine call_tuple_list pl.isList (λh' kp=>?_) (by simp only[Ar] <;> omega)
  have I1:Inv X pins σ H { s with heap:=h' }:=I.kept (t':=s.toks) kp
  have I2:Inv X pins σ (upd H h'.objs.size (.tup ys)) { s with heap:=h'.push { cls:=.type "tuple",data:=.seq its.toArray } } :=
   I1.laid (t':=s.toks) (λb o e=>Ah _ e) (Ak _) (show Hj X.prog X.w _ _ _ (.tup ys) from ⟨hz,its,r',IsTup.new _ _⟩)
  exact ⟨.ref h'.objs.size,_,I2,rfl,q _ (I1.hok.fresh (Ak _))⟩
 ·obtain ⟨its,r',pl,hz⟩:=I.tuple hq
  exact call_tuple_same pl ⟨.ref p,H,I,rfl,q⟩
def HH(K:PySem.W.Frag)(T:String)(x:V)(H:Hp):Prop:=match x with
 | .str _=>T = "str"
 | .int _=>T = "int"
 | .ref p=>(T = "list" /\ ∃xs,Mc K H p xs)\/(T = "tuple" /\ ∃o,K.lookup p=some o/\o.cls=.type "tuple" /\ o.dict=none) \/
   (T = "dict" /\ ((∃kvs,H p=some (.dK kvs))\/∃kvs,H p=some (.dT kvs)))\/(T = "set" /\ ∃S n,H p=some (.set S n))
 | _=>False
theorem W4{pins:List (Addr×Obj)}{σ:St}(I:Inv X pins σ H s)(r:RelV x v)(ty:HH X.K T x H):s.TypeIs v T/\∀a,v=.ref a->∃ob,s.heap.get? a=some ob/\ob.dict=none:=by
 cases x with
 | str z =>
  obtain ⟨t,rfl⟩:=r
  cases (show T = "str" from ty)
  exact ⟨typeIs_str s z t,λ_ e=>nomatch e⟩
 | int i =>
  obtain ⟨t,rfl⟩:=r
  cases (show T = "int" from ty)
  exact ⟨typeIs_int s i t,λ_ e=>nomatch e⟩
 | ref p =>
  cases r
  rcases ty with ⟨rfl,xs,hq⟩ | ⟨rfl,o,hk,hc,hd⟩ | ⟨rfl,hk⟩ | ⟨rfl,S,n,hk⟩
  ·obtain ⟨its,_,pl,_⟩:=I.list hq
   refine ⟨pl.isList.typeIs,λa e=>?_⟩
   cases e
   obtain ⟨o,n,e,c,hd,_⟩:=pl
   exact ⟨o,e,hd⟩
  ·refine ⟨⟨o,I.kIn p o hk,hc⟩,λa e=>?_⟩
   cases e
   exact ⟨o,I.kIn _ o hk,hd⟩
  ·have z:∃o,s.heap.get? p=some o/\o.ExactDict:=by
    rcases hk with ⟨kvs,hk⟩ | ⟨kvs,hk⟩
    ·obtain ⟨_,_,_,_,o,_,_,e,ex,_⟩:=I.hok p _ hk
     exact ⟨o,e,ex⟩
    ·obtain ⟨_,_,_,_,o,_,_,e,ex,_⟩:=I.hok p _ hk
     exact ⟨o,e,ex⟩
   obtain ⟨o,e,ex⟩:=z
   refine ⟨⟨o,e,ex.1⟩,λa e2=>?_⟩
   cases e2
   exact ⟨o,e,ex.2.1⟩
  ·obtain ⟨o,_,_,_,e,ex,_⟩:=I.hok p _ hk
   refine ⟨⟨o,e,ex.1⟩,λa e2=>?_⟩
   cases e2
   exact ⟨o,e,ex.2.1⟩
 | _=>exact Ka ty
def HW(K:PySem.W.Frag)(T:String)(r:V->List V->Hp->VK->Prop)(to:TE)(t:TA):TE:=λσ H Q=>to σ H λx H1=>HH K T x H1/\t σ H1 λxs H2=>r x xs H2 Q
variable{o e:Expr}{es:List Expr}{to:TE}{t:TA}{name:Str}{apos cpos:Pos}{T id:String}{r:V->List V->Hp->VK->Prop}
theorem N8(pa:PlainAttrs T)(slot:Slot T name id)(hty:typeOf (.builtin id)=pure (.type "method_descriptor"))(hm:HX X id r)(ho:PE X o to)(ha:PA X (e::es) t)
  (hbase:Th o name X.env (eval o X.env)=eval o X.env:=by rfl)
  (hfew:((Gw cpos (Bp (e::es) X.env)).all (λx=>!x.1) && (backToKw cpos (Yp [] X.env)).all (λx=>x.1.isSome)
   && decide ((e::es).length+([]:List Sh).length+(if ([]:List Sh).isEmpty then 0 else 1)<30))=true:=by rfl)
  (hline:(apos.endLine == cpos.line)=true:=by rfl) (hs:Bp (e::es) X.env=(false,eval e X.env)::Bp es X.env:=by rfl) (hplain:(Gw cpos (Bp es X.env)).any (·.1)=false:=by rfl) :
  PE X (.Call (.Attribute o name apos) (e::es) [] cpos) (HW X.K T r to t):=by
 intro pins s σ H Q I h
 refine wpAny_Call_method_late hbase hfew hline rfl (Gj (ho pins s σ H _ I h) λv s1 q0_ => ?_)
 obtain ⟨x,H1,I1,r1,ty,q1⟩ := q0_
 obtain ⟨h1,h2⟩:=W4 I1 r1 ty
 refine ⟨T,id,pa,slot,hty,h1,h2,?_⟩
 have hA:=ha cpos pins s1 σ H1 _ I1 q1
 rw[hs] at hA ⊢
 refine mQ (by show (false || (Gw cpos (Bp es X.env)).any (·.1))=false; rw[hplain] <;> rfl) (Calls.evalArgs_plain ?_)
 exact Gj hA λus s2 ⟨vs,H2,I2,r2,q2⟩=>hm pins s2 σ H2 x vs v us Q I2 r1 r2 q2
end
def HC(X:Cx)(id:String)(r:V->List V->Hp->VK->Prop):Prop :=
 ∀(pins:List (Addr×Obj)) (s:Aj) (σ:St) (H:Hp) (x:V) (xs:List V) (v:Value) (us:List Value) (Q:VK),Inv X pins σ H s->RelV x v->Ff xs us->r x xs H Q ->
  wpAny (model X.prog X.w) X.A (call (.builtin id) (v::us)) (EP X pins σ Q) X.xe s
theorem Ff.one:∀{x:V} {us:List Value},Ff [x] us->∃u,us=[u]/\RelV x u
 | _,_,.cons r .nil=>⟨_,rfl,r⟩
theorem Ff.reverse(h:Ff xs us):Ff xs.reverse us.reverse:=by
 induction h with
 | nil=>exact .nil
 | cons r t ih=>rw[Qg,Qg]; exact Ff.append ih (.cons r .nil)
theorem Ff.rep(h:Ff xs us):∀k:Nat,Ff (By k xs).flatten (By k us).flatten
 | 0=>.nil
 | k+1=>by
  rw[Fo,Fo,Hs,Hs]
  exact Ff.append h (Ff.rep h k)
theorem foldl_rep(its:List Value):∀(k:Nat) (acc:List Value),List.foldl (λx1 x2=>x1++x2) acc.toArray (By k its.toArray)=(acc++(By k its).flatten).toArray
 | 0,acc=>by simp
 | k+1,acc=>by
  have e:acc.toArray++its.toArray=(acc++its).toArray:=by simp
  have e2:(acc++its)++(By k its).flatten=acc++(By (k+1) its).flatten:=by
   rw[Fo,Hs,Bw]
  rw[<- e2,<- foldl_rep its k (acc++its),<- e,Fo,List.foldl_cons]
section
variable{X:Cx}{pins:List (Addr×Obj)}{σ:St}{H:Hp}{s:Aj}{l b:Addr}{xs ys zs:List V}
theorem Inv.lset{its its':List Value}(I:Inv X pins σ H s)(hH:H l=some (.lst xs))(e:s.heap.get? l=some { cls:=.type "list",data:=.seq its.toArray n })(hf:f its.toArray=its'.toArray)(hv:Ff ys its')(hz:ys.length<=Au):Inv X pins σ (upd H l (.lst ys)) { s with heap:=s.heap.update l (Cp f),toks:=t' }:=by
 have q:=PySem.IsL.update e f
 rw[hf] at q
 refine I.write (x:=l) (e:=l) (by rw[hH]; exact trivial) (.inl rfl) (λb' u hb hu=>(Fm s.heap (Cp f) (Lm hb)).trans hu) ⟨_,q⟩ ?_
 exact ⟨hz,its',_,hv,q⟩
theorem Inv.lnew(I:Inv X pins σ H s)(hv:Ff ys its)(hz:ys.length<=Au):Inv X pins σ (upd H s.heap.objs.size (.lst ys)) { s with heap:=s.heap.push { cls:=.type "list",data:=.seq its.toArray },toks:=t' } :=
 I.laid (λ_ _ q=>Ah _ q) (Ak _) ⟨hz,its,0,hv,Bg _ rfl⟩
theorem Inv.fresh(I:Inv X pins σ H s):H s.heap.objs.size=none:=I.hok.fresh (Ak _)
theorem Inv.lstM(I:Inv X pins σ H s)(hH:H l=some (.lst xs)):xs.length<=Au/\∃(its:List Value) (n:Nat),Ff xs its/\xs.length=its.length/\s.heap.get? l=some { cls:=.type "list",data:=.seq its.toArray n }:=by
 obtain ⟨z,its,n,r,e⟩:=I.hok l _ hH
 exact ⟨z,its,n,r,r.length,e⟩
theorem jM(h:n<=Au):Jy n=false:=by
 unfold Jy
 exact decide_eq_false (by omega)
end
section
variable{X:Cx}
def C8:V->List V->Hp->VK->Prop:=λx vs H Q=>∃l xs y,x=.ref l/\vs=[y]/\H l=some (.lst xs)/\xs.length<Au/\Q .non (upd H l (.lst (xs++[y])))
theorem Qa:HC X "list.append" C8:=by
 intro pins s σ H x vs v us Q I rx rv h
 obtain ⟨l,xs,y,rfl,rfl,hH,hz,q⟩:=h
 cases rx
 obtain ⟨u,rfl,ru⟩:=rv.one
 obtain ⟨z,its,n,r,hl,e⟩:=I.lstM hH
 refine cQ F.slot_list_append ⟨_,e,rfl⟩ F.entry_list_append (F.args_list_append_2 _ _) (PySem.list_append l its.toArray n u (by rw[Ar]; omega)) ⟨e,?_⟩
 refine ⟨.non,_,I.lset (its':=its++[u]) hH e (by simp) (r.append (.cons ru .nil)) ?_,rfl,q⟩
 rw[Bo,Hf]
 omega
def L9:V->List V->Hp->VK->Prop:=λx vs H Q=>∃l b xs zs,x=.ref l/\vs=[.ref b]/\H l=some (.lst xs)/\H b=some (.lst zs)/\xs.length+zs.length<=Au/\Q .non (upd H l (.lst (xs++zs)))
theorem AO:HC X "list.extend" L9:=by
 intro pins s σ H x vs v us Q I rx rv h
 obtain ⟨l,b,xs,zs,rfl,rfl,hH,hB,hz,q⟩:=h
 cases rx
 obtain ⟨u,rfl,ru⟩:=rv.one
 cases ru
 obtain ⟨z,its,n,r,hl,e⟩:=I.lstM hH
 obtain ⟨z2,its2,n2,r2,hl2,e2⟩:=I.lstM hB
 have hsz:its.toArray.size+its2.toArray.size<=Au:=by rw[Ar,Ar]; omega
 have hlong:¬ (!its.toArray.isEmpty && Jy (its.toArray.size+its2.toArray.size))=true:=by
  rw[jM hsz,Bool.and_false]
  exact Br
 refine cQ F.slot_list_extend ⟨_,e,rfl⟩ F.entry_list_extend (F.args_list_extend_2 _ _)
  (AutoSeq1.list_extend_list_list_0 l its.toArray n b its2.toArray n2 hlong (by rw[Ar]; omega) (by omega)) ⟨e,e2,?_⟩
 refine ⟨.non,_,I.lset (its':=its++its2) hH e (by simp) (r.append r2) ?_,rfl,q⟩
 rw[Bo]
 omega
def V7:R2:=λx y H Q=>∃l b xs zs,x=.ref l/\y=.ref b/\H l=some (.lst xs)/\H b=some (.lst zs)/\xs.length+zs.length<=Au/\∀p,H p=none->Q (.ref p) (upd H p (.lst (xs++zs)))
theorem iM:Xp X (Iw .Add) V7:=by
 intro pins s σ H x y v u Q I rx ry h
 obtain ⟨l,b,xs,zs,rfl,rfl,hH,hB,hz,q⟩:=h
 cases rx
 cases ry
 obtain ⟨z,its,n,r,hl,e⟩:=I.lstM hH
 obtain ⟨z2,its2,n2,r2,hl2,e2⟩:=I.lstM hB
 refine PySem.P.add_list e e2 ?_ (by rw[Ar,Ar]; omega)
 have ea:its.toArray++its2.toArray=(its++its2).toArray:=by simp
 rw[ea]
 exact ⟨.ref _,_,I.lnew (t':=s.toks) (r.append r2) (by rw[Bo]; omega),rfl,q _ I.fresh⟩
def CO:R2:=λx y H Q=>∃l k xs,x=.ref l/\y=.int k/\H l=some (.lst xs) /\ -(2 ^ 63)<=k/\k<2 ^ 63/\xs.length * k.toNat<=Au /\
 ∀p,H p=none->Q (.ref p) (upd H p (.lst (By k.toNat xs).flatten))
theorem qN{α:Type}(xs:List α)(k:Nat):(By k xs).flatten.length=k * xs.length:=by
 induction k with
 | zero=>simp
 | succ k ih=>rw[Fo,Hs,Bo,ih,Nat.succ_mul,Nat.add_comm]
theorem W8:Xp X (Iw .Mult) CO:=by
 intro pins s σ H x y v u Q I rx ry h
 obtain ⟨l,k,xs,rfl,rfl,hH,h1,h2,hz,q⟩:=h
 cases rx
 obtain ⟨t,rfl⟩:=ry
 obtain ⟨z,its,n,r,hl,e⟩:=I.lstM hH
 have hlen:its.toArray.size * k.toNat<=Au:=by rw[Ar,<- hl]; exact hz
 have hcap:¬ its.toArray.size * k.toNat > (2 ^ 63 - 1) / 8:=by
  have : (Au:Nat)<=(2 ^ 63 - 1) / 8:=by decide
  omega
 have hfit:¬ (!Builtin.List.listFitsIndex k)=true:=by
  rw[fitsIndex_both h1 h2]
  exact Br
 have hlong:¬ Jy (its.toArray.size * k.toNat)=true:=by
  rw[jM hlen]
  exact Br
 have hnew:List.foldl (λx1 x2=>x1++x2) #[] (By (if its.toArray.isEmpty=true then 0 else k.toNat) its.toArray)=(By k.toNat its).flatten.toArray:=by
  have f0:∀m:Nat,List.foldl (λx1 x2=>x1++x2) #[] (By m its.toArray)=(By m its).flatten.toArray:=λm=>by
   have:=foldl_rep its m []
   rw[List.nil_append] at this
   exact this
  rw[f0]
  cases its with
  | nil=>simp
  | cons a r'=>rw[if_neg (by simp)]
 refine wpAny_binaryOp_repeat_ref (T := "list") (U := "int") (by decide) ⟨_,e,rfl⟩ (λs'=>typeIs_int s' k t) noFill_list_mul F.fills_int_mul F.slot_int_rmul repeat_list F.slot_int_index.lookup
  (cQ F.slot_int_rmul (typeIs_int s k t) F.entry_int_rmul (F.args_int_rmul_2 _ _) (int___rmul___int_list k t l its.toArray n)
   ⟨e,rfl,⟨_,e,rfl⟩,cQ F.slot_list_mul ⟨_,e,rfl⟩ F.entry_list_mul (F.args_list_mul_2 _ _) (AutoListH.list___mul___list_int_3 l its.toArray n k t hfit hcap hlong) ⟨e,?_⟩⟩)
 rw[hnew]
 exact ⟨.ref _,_,I.lnew (t':=s.toks) (r.rep k.toNat) (by rw[qN,Nat.mul_comm]; exact hz),rfl,q _ I.fresh⟩
end
end L2
namespace Att
open PySem PySem.W PySem.Calls PyProof.Rows
theorem Yz:∀(ns:List Int) (vs:List Value),WellAll P h vs (ns.map WData.int)->Ki vs ns:=by
 intro ns
 induction ns with
 | nil =>
  intro vs w
  rw[Kh] at w
  cases w
  exact .nil
 | cons n ns ih =>
  intro vs w
  rw[Aw] at w
  cases w with
  | cons a b =>
   cases a
   exact .cons _ _ (ih _ b)
theorem uN{l:OpenLaw}(hn:l.most=some n)(hpre:l.row.toRowW.claim.pre args=true)(hwl:WellAll P h vals args):∃a vs ns,vals=[Bc a]/\args=[WData.list (ns.map WData.int)]/\h.get? a=some { cls:=.type "list",data:=.seq vs.toArray }/\Ki vs ns/\ns.length<=n:=by
 have hsh:WShape.hasAll [] args [.list .int]=true:=(pre_splitW hpre).1
 have hc:l.pre.holds [] { args:=args }=true:=(pre_splitW hpre).2
 obtain ⟨d,r,rfl,h1,h2⟩:=hasAllW_cons hsh
 obtain rfl:=hasAllW_nil h2
 obtain ⟨xs,rfl,h3⟩:=hasW_list h1
 obtain ⟨ns,rfl⟩:=items_int h3
 have hlen:ns.length<=n:=by
  unfold OpenLaw.pre at hc
  have h4:(WTm.not (.lt (.lit (.int (n:Int))) (.len (.arg 0)))).holds [] { args:=[.list (ns.map .int)] }=true:=by
   have h4:=(holds_andW hc).1
   rw[hn] at h4
   exact h4
  have h5:=condW_of h4 (w_not (w_lt w_lit (w_len_list (w_arg rfl))))
  rw[Ad] at h5
  refine Nat.le_of_not_lt λq=>?_
  have q':(n:Int)<((ns.length:Nat):Int):=by omega
  first
   | (rw[decide_eq_true q'] at h5; exact absurd h5 (by decide))
   | (simp at h5; omega)
 cases hwl with
 | cons w1 w2 =>
  cases w2
  cases w1 with
  | list ho hall=>exact ⟨_,_,ns,rfl,rfl,ho,Yz ns _ hall,hlen⟩
theorem uE(l:OpenLaw)(args:List WData):l.row.toRowW.claim.post args (.bool true) args=true :=
 postW_of (r:=l.row.toRowW) (X:=(true == true))
  (show WShape.has [] (.bool true) .bool=true by first | rfl | decide | simp [WShape.has,WShape.arms,WShape.armsAll])
  (show (WTm.eq .res (.lit (.bool true))).value [] { args:=args,res:=some (.bool true),after:=args }=some (.bool (true == true)) from w_eq_bool (w_res rfl) w_lit) rfl
theorem attach_call{l:OpenLaw}(hn:l.most=some n)(hdf:d.params.defaults=[])(call:∀(w:World) (s₀ s₁:Aj) (mg mb:Str->Option Value) (fa:Addr) (o:Obj) (pm cd doc:Value) (a:Addr) (vs:List Value) (ns:List Int),Ground q loose [] XP w s₀ mg mb s₁.heap->YP w s₁.heap->s₁.heap.get? fa=some o->o.data=.func (docDef d.name d.params d.body d.scope pm cd doc)->s₁.heap.CodeRec cd d.name->mg d.name=some (.ref fa)->s₁.heap.get? a=some { cls:=.type "list",data:=.seq vs.toArray }->Ki vs ns->ns.length<=n->s₁.gens=#[]->Oj (model l.prog w) Zb (.call (.ref fa) ⟨[.ref a],[]⟩) (λr s'=>r=.ok (.ret (.bool true))/\OldK s₁.heap s'.heap/\s'.os=s₁.os/\Sj s'.gens) s₁):WalkO q loose XP YP l.row.toRowW d [] (λf vs=>PySem.call f vs):=by
 intro w s₀ s₁ mg mb G Y fa o pm cd doc dV kV ho hd hcd hD hmg hg args vals as hpre hlay hrd hwl hlo
 obtain rfl:dV=.none:=Dflts.none hD hdf
 obtain rfl:kV=.none:=Dflts.noKw hD
 obtain ⟨a,vs,ns,rfl,rfl,hobj,hints,hlen⟩:=uN hn hpre hwl
 refine enter_call (codeAny_mono (call w s₀ s₁ mg mb fa o pm cd doc a vs ns G Y ho (fd_plain hd) hcd hmg hobj hints hlen hg) λr s' hq=>?_)
 obtain ⟨rfl,h2,h3,h4⟩:=hq
 exact ⟨.inl ⟨.bool true,.bool true,[],rfl,λ_=>rfl,.bool true,uE l _,λ_=>⟨Ko,λ_ hm=>(nomatch hm)⟩⟩,h2,h3,h4⟩
end Att
namespace L2
open PySem PySem.Spec PyProof.Rows
theorem fF:∀{vs:List Value} {ns:List Int},Ki vs ns->Ff (ns.map V.int) vs
 | _,_,.nil=>.nil
 | _,_,.cons n t h=>.cons ⟨t,rfl⟩ (fF h)
def Ot(s:Stmt):Arguments:=match s with
 | .FunctionDef _ a _ _ _ _ _ _ _ _=>a
 | _=>{ posonlyargs:=[],args:=[],vararg:=none,kwonlyargs:=[],kw_defaults:=[],kwarg:=none,defaults:=[] }
def Iv(s:Stmt):List Stmt:=match s with
 | .FunctionDef _ _ b _ _ _ _ _ _ _=>b
 | _=>[]
def Bl(s:Stmt):Scope:=match s with
 | .FunctionDef _ _ _ _ _ _ sc _ _ _=>sc
 | _=>{ kind:=.function,names:=[],isGenerator:=false,isCoroutine:=false }
abbrev Ge:pZ:=λ_ _ _ _ _ _=>False
abbrev E0:XK:=λ_ _ _=>False
theorem Gx:Pl Ge X E0:=λ_ _ _ _ _ _ _ h=>h.elim
structure Fun(K:PySem.W.Frag)(x qual:Str)(st:Stmt)(f:Addr)(fd:Cg):Prop where
 ex:∃(oc:Value) (od:Option Addr) (kV doc pm:Value) (an:Option Addr) (cdv ct:Value) (osl:Array (Option Value)),
  fd=PySem.W.fnOf x qual (Ot st) (Iv st) (Bl st) .none kV doc pm an cdv ct/\K.lookup f=some ⟨oc,od,.func fd,osl⟩/\PySem.W.codeIn K cdv qual=true
 kp:PySem.W.keepIn K (.ref f)=true
section
variable{P:Bq}{w:World}{K:PySem.W.Frag}{mg:Str->Option Value}{base:Heap}
theorem Fun.ok{x qual:Str}{st:Stmt}(F:Fun K x qual st f fd)(S:FnScope N ps (Bl st))(len:∀vs H Q E,sp vs H Q E->vs.length=ps.length)(hbody:∀(cdv:Value) (A:Cr) (outer:List Env) (s:Aj) (H:Hp) (vs:List V) (Q:VK) (E:XK),Room k (A.deeper (envOfC qual (Bl st) s.heap.objs.size f cdv))->sp vs H Q E->∃t,pV (Ie Ge P w K mg base N qual (Bl st) f cdv A outer s H E).nox (Iv st) t/\t { nx:=λ_ H'=>Q .non H',rt:=Q } (start N vs) H):FnOk P w K mg base Ge (k+1) f fd ps sp:=by
 obtain ⟨oc,od,kV,doc,pm,an,cdv,ct,osl,rfl,lk,hcd⟩:=F.ex
 refine BR lk hcd S len λA outer s H vs Q E hr hsp=>?_
 obtain ⟨t,h,q⟩:=hbody cdv A outer s H vs Q E hr hsp
 exact ⟨t,h.nox,q⟩
theorem Fun.binds{st:Stmt}(F:Fun K x qual st f fd)(h:∀(kV doc pm:Value) (an:Option Addr) (cdv ct:Value) (us:List Value),us.length=ps.length->bindArgs (PySem.W.fnOf x qual (Ot st) (Iv st) (Bl st) .none kV doc pm an cdv ct) ⟨us,[]⟩=pure (ps.zip us)):Binds K fd ps []:=by
 obtain ⟨oc,od,kV,doc,pm,an,cdv,ct,osl,rfl,lk,hcd⟩:=F.ex
 exact .all (h kV doc pm an cdv ct)
theorem zZ{x qual:Str}{st:Stmt}{kV doc pm cdv ct:Value}(l:K.lookup f=some ⟨oc,od,.func (PySem.W.fnOf x qual (Ot st) (Iv st) (Bl st) .none kV doc pm an cdv ct),osl⟩)(c:PySem.W.codeIn K cdv qual=true)(k:PySem.W.keepIn K (.ref f)=true):Fun K x qual st f (PySem.W.fnOf x qual (Ot st) (Iv st) (Bl st) .none kV doc pm an cdv ct):=⟨⟨oc,od,kV,doc,pm,an,cdv,ct,osl,rfl,l,c⟩,k⟩
end
theorem fJ(h:n<=1000):n<Au:=Iy h (by decide)
section
variable{X:Cx}
theorem pv(i:Nat){pos:Pos}(hN:X.N[i]? = some x:=by rfl)(hv:FG X.env.scope x:=by first | exact Ei rfl | exact Ol (Ei rfl) | exact Ol (Ol rfl))(hd:(x == ("__debug__" : Str))=false:=by decide)(hcd:(x == ("__classdict__" : Str))=false:=by decide):PE X (.Name x pos) (bX i):=W3 hN hv hd hcd
end
theorem uK{A B:Prop}(h:B):if false=true then A else B:=by
 rw[if_neg Br]
 exact h
theorem pH{A B:Prop}(h:A):if true=true then A else B:=by
 rw[if_pos rfl]
 exact h
theorem BD{c A B:Prop}[Decidable c](h1:c->A)(h2:¬ c->B):if c then A else B:=by
 by_cases h:c
 ·rw[if_pos h]
  exact h1 h
 ·rw[if_neg h]
  exact h2 h
def Mv(H H':Hp):Prop:=∀b o,H b=some o->H' b=some o
theorem Mv.refl(H:Hp):Mv H H:=λ_ _ h=>h
theorem Mv.trans(a:Mv H H1)(b:Mv H1 H2):Mv H H2:=λc o h=>b c o (a c o h)
theorem Mv.free(e:Mv H H')(h:H' l=Pr):H l=Pr:=by
 cases q:H l with
 | none=>rfl
 | some o =>
  rw[e l o q] at h
  cases h
end L2
namespace Nd
open PySem PySem.Spec PyProof.Rows L2
def El(X:Cx)(scope:Scope)(cl:List (Str×Addr))(N:List Str)(fp:List Addr)(s:Aj)(H:Hp):Cx where
 prog:=X.prog
 w:=X.w
 K:=X.K
 mg:=X.mg
 base:=X.base
 A:=X.A
 N:=N
 s₀:=s
 H₀:=H
 env:=compEnvC scope (Ep (s.heap.objs.size+1) scope.names cl) s.heap.objs.size X.env
 outer:=X.stack
 stack:=X.stack
 ex:=fp
 fn:=λy=>decide (scope.names.lookup y=some Dz)
 calm:=X.calm
 pn:=[]
 xe:=λ_ _=>False
section
variable{prog:Bq}{w:World}{A:Cr}{R:Result->Aj->Prop}{s:Aj}
theorem Uo(J:Nat->Aj->Prop) (turn:∀n s,J n s->wpAny (model prog w) A (Kx it) (λr s1=>match r with
    | none=>R (.ok .next) s1
    | some v=>wpAny (model prog w) A (Wf tg it v) (λ_ s2=>wpAny (model prog w) A (assign tg env v) (λ_ s3 =>
      wpAny (model prog w) A (forIn ifs true λc r=>if r=true then (do
        let ok <- isTrue c env (eval c env)
        pure (Fi ok)) else pure (Fi r)) (λok s4 =>
       if ok=true then
        wpAny (model prog w) A (eval elt env) (λx s5=>wpAny (model prog w) A (call (.builtin "list.append") [acc,x]) (λ_ s6=>∃m,m<n/\J m s6) (λ_ _=>False) s5) (λ_ _=>False) s4
       else ∃m,m<n/\J m s4) (λ_ _=>False) s3) (λ_ _=>False) s2) (λ_ _=>False) s1) (λ_ _=>False) s)
  (n:Nat) (h:J n s):Oj (model prog w) A (.compLoop (.ListComp elt [⟨tg,iter,ifs,0⟩] scope pos) 0 it acc env) R s:=by
 refine codeAny_loop rfl J (λn s hJ=>?_) n h
 show wpAny _ A (Sem.onRaise (compTurn (.ListComp elt [⟨tg,iter,ifs,0⟩] scope pos) 0 it acc env) (λx=>do noteFrame x env; theTreesLotGoes x)) _ _ s
 refine wpAny_noted ?_
 rw[compTurn_list]
 refine Aa (wpAny_standAt (Aa (Ft (turn n s hJ) (λr s1 h1=>?_) λ_ _ z=>z.elim)))
 cases r with
 | none=>exact Am h1
 | some v =>
  refine Aa (Ft h1 (λ_ s2 h2=>?_) λ_ _ z=>z.elim)
  refine Aa (Ft h2 (λ_ s3 h3=>?_) λ_ _ z=>z.elim)
  refine Aa (Ft h3 (λok s4 h4=>?_) λ_ _ z=>z.elim)
  cases ok with
  | false=>exact Am ⟨rfl,h4⟩
  | true =>
   refine Aa (Aa (Ft h4 (λx s5 h5=>?_) λ_ _ z=>z.elim))
   exact Aa (Ft h5 (λ_ s6 h6=>Am (Am ⟨rfl,h6⟩)) λ_ _ z=>z.elim)
end
section
variable{X:Cx}{pins:List (Addr×Obj)}{σ:L2.St}{H:Hp}{s:Aj}{scope:Scope}{cl:List (Str×Addr)}{fp:List Addr}{N:List Str}
def o5(scope:Scope)(x:Str):Prop:=scope.names.lookup x=some .local\/scope.names.lookup x=some .cell
structure CompScope(X:Cx)(scope:Scope)(cl:List (Str×Addr))(x:Str)(ys:List Str)(js:List Nat):Prop where
 clos:closureFor scope X.env=pure cl
 oc:(∀y∈scope.names,y.2≠.cell)\/∃z:Str,(∀n,Ep n scope.names []=[(z,n)])/\scope.names.lookup z=some .cell/\∀y∈scope.names,y.2=.cell->y.1=z
 kind:scope.kind=.function
 locs:∀y∈scope.names,y.2=.local->scope.names.lookup y.1=some .local
 own:o5 scope x
 sub:∀y c,cl.lookup y=some c->X.env.cells.lookup y=some c
 has_:(scope.names.all λy=>!(y.2 == Dy) || (cl.lookup y.1).isSome)=true
 nd:(x::ys).Nodup
 len:ys.length=js.length
 at_:∀(k:Nat) (y:Str) (j:Nat),ys[k]? = some y->js[k]? = some j->X.N[j]? = some y/\scope.names.lookup y=some .free/\(X.env.kindOf y=some .cell\/X.env.kindOf y=some .free)
theorem CompScope.has(C:CompScope X scope cl x ys js):∀y∈scope.names,y.2=.free->(cl.lookup y.1).isSome=true:=λy hy e=>by
 have h:=Dh.mp C.has_ y hy
 rw[e] at h
 simpa using h
theorem bL(clos:closureFor scope X.env=pure cl)(nocell:∀y∈scope.names,y.2≠.cell)(kind:scope.kind=.function)(locs:∀y∈scope.names,y.2=.local->scope.names.lookup y.1=some .local)(own:scope.names.lookup x=some .local)(sub:∀y c,cl.lookup y=some c->X.env.cells.lookup y=some c)(has_:(scope.names.all λy=>!(y.2 == Dy) || (cl.lookup y.1).isSome)=true)(nd:[x,y].Nodup)(hN:X.N[j]? = some y)(hfree:scope.names.lookup y=some .free)(hk:X.env.kindOf y=some .cell):CompScope X scope cl x [y] [j] :=
 ⟨clos,.inl nocell,kind,locs,.inl own,sub,has_,nd,rfl,λk z i e1 e2=>by
  cases k with
  | zero =>
   have h1:y=z:=by simpa using e1
   have h2:j=i:=by simpa using e2
   subst h1 h2
   exact ⟨hN,hfree,.inl hk⟩
  | succ k=>simp at e1⟩
theorem Re{env:Env}{y:Str}{k:Pd}:∀{names:List (Str×Pd)},
  (names.map λ(n,k)=>if (k == Dy && env.scope.kind == .function && env.kindOf n == some .cell) then (n,Dz) else (n,k)).lookup y=some k ->
  ∃k0,names.lookup y=some k0/\(k=k0\/(k0=.free/\k=.cell))
 | [],h=>by simp at h
 | (n,k0)::r,h=>by
  have ih:=@Re env y k r
  rw[Aw] at h
  by_cases hc:(k0 == Dy && env.scope.kind == .function && env.kindOf n == some .cell)=true
  ·have h':Ln y ((n,Dz)::(r.map λ(n,k)=>if (k == Dy && env.scope.kind == .function && env.kindOf n == some .cell) then (n,Dz) else (n,k)))=some k:=by
    simpa [hc] using h
   cases hy:y == n with
   | true =>
    rw[Cb,hy] at h'
    have e:k=Dz:=by simpa using h'.symm
    refine ⟨k0,by rw[Cb,hy],.inr ⟨?_,e⟩⟩
    rw[Dk,Dk] at hc
    exact Dt hc.1.1
   | false =>
    rw[Cb,hy] at h'
    obtain ⟨q,e1,e2⟩:=ih h'
    exact ⟨q,by rw[Cb,hy]; exact e1,e2⟩
  ·have h':Ln y ((n,k0)::(r.map λ(n,k)=>if (k == Dy && env.scope.kind == .function && env.kindOf n == some .cell) then (n,Dz) else (n,k)))=some k:=by
    simpa [hc] using h
   cases hy:y == n with
   | true =>
    rw[Cb,hy] at h'
    exact ⟨k0,by rw[Cb,hy],.inl (by simpa using h'.symm)⟩
   | false =>
    rw[Cb,hy] at h'
    obtain ⟨q,e1,e2⟩:=ih h'
    exact ⟨q,by rw[Cb,hy]; exact e1,e2⟩
theorem Wa{env:Env}{y:Str}:∀{names:List (Str×Pd)},names.lookup y=some .free ->
  (names.map λ(n,k)=>if (k == Dy && env.scope.kind == .function && env.kindOf n == some .cell) then (n,Dz) else (n,k)).lookup y=some .cell \/
  (names.map λ(n,k)=>if (k == Dy && env.scope.kind == .function && env.kindOf n == some .cell) then (n,Dz) else (n,k)).lookup y=some .free
 | [],h=>by simp at h
 | (n,k0)::r,h=>by
  have ih:=@Wa env y r
  show Ln y ((if (k0 == Dy && env.scope.kind == .function && env.kindOf n == some .cell)=true then (n,Dz) else (n,k0))::_)=_\/Ln y ((if (k0 == Dy && env.scope.kind == .function && env.kindOf n == some .cell)=true then (n,Dz) else (n,k0))::_)=_
  by_cases hc:(k0 == Dy && env.scope.kind == .function && env.kindOf n == some .cell)=true
  ·rw[if_pos hc]
   cases hy:y == n with
   | true=>exact .inl (by rw[Cb,hy])
   | false =>
    rw[Cb,hy] at h
    simp only[Cb,hy]
    exact ih h
  ·rw[if_neg hc]
   cases hy:y == n with
   | true =>
    rw[Cb,hy] at h
    exact .inr (by rw[Cb,hy]; exact h)
   | false =>
    rw[Cb,hy] at h
    simp only[Cb,hy]
    exact ih h
theorem Do{α β:Type}[BEq α][LawfulBEq α]{y:α}{k:β}:∀{l:List (α×β)},l.lookup y=some k->(y,k)∈l
 | [],h=>by simp at h
 | (n,v)::r,h=>by
  cases hy:y == n with
  | true =>
   rw[Cb,hy] at h
   have e:=Dt hy
   subst e
   have : v=k:=by simpa using h
   subst this
   exact Ab
  | false =>
   rw[Cb,hy] at h
   exact Ae _ (Do h)
end
theorem gC(h:c<a)(e:c=a+1):False:=by omega
theorem Io:∀(names:List (Str×Pd)) (n:Nat) (acc:List (Str×Addr)),Ep n names acc=Ep n names []++acc
 | [],_,_=>rfl
 | (x,k)::r,n,acc=>by
  unfold Ep
  by_cases h:(k == Dz)=true
  ·rw[if_pos h,if_pos h,Io r _ ((x,n)::acc),Io r _ [(x,n)],Bw]; rfl
  ·rw[if_neg h,if_neg h]; exact Io r n acc
theorem Oc:∀(names:List (Str×Pd)) (n:Nat) (acc:List (Str×Addr)),(∀y∈names,y.2≠.cell)->Ep n names acc=acc
 | [],_,_,_=>rfl
 | (x,k)::r,n,acc,h=>by
  unfold Ep
  rw[if_neg (by have:=h (x,k) Ab; simpa using this)]
  exact Oc r n acc λy hy=>h y (Ae _ hy)
theorem Vu{env:Env}{y:Str}:∀{names:List (Str×Pd)},names.lookup y=some .cell->(names.map λ(n,k)=>if (k == Dy && env.scope.kind == .function && env.kindOf n == some .cell) then (n,Dz) else (n,k)).lookup y=some .cell
 | [],h=>by simp at h
 | (n,k0)::r,h=>by
  have ih:=@Vu env y r
  show Ln y ((if (k0 == Dy && env.scope.kind == .function && env.kindOf n == some .cell)=true then (n,Dz) else (n,k0))::_)=_
  by_cases hc:(k0 == Dy && env.scope.kind == .function && env.kindOf n == some .cell)=true
  ·rw[if_pos hc]
   cases hy:y == n with
   | true=>rw[Cb,hy]
   | false=>rw[Cb,hy] at h ⊢; exact ih h
  ·rw[if_neg hc]
   cases hy:y == n with
   | true=>rw[Cb,hy] at h ⊢; exact h
   | false=>rw[Cb,hy] at h ⊢; exact ih h
theorem Zn(o:o5 scope x):Loc (relabel scope env) x:=o.imp lookup_relabel_local Vu
section
variable{X:Cx}{scope:Scope}{cl:List (Str×Addr)}{x y:Str}{ys:List Str}{js:List Nat}{n c:Nat}{N:List Str}{fp:List Addr}{s:Aj}{H:Hp}
theorem iU(o:o5 scope x):(El X scope cl N fp s H).fn x=true\/(El X scope cl N fp s H).env.scope.names.lookup x=some .local:=by
 rcases o with o | o
 ·exact .inr (lookup_relabel_local o)
 ·exact .inl (decide_eq_true o)
theorem CompScope.split(C:CompScope X scope cl x ys js)(h:(Ep n scope.names cl).lookup y=some c):cl.lookup y=some c\/(c=n/\Ep 0 scope.names []=[(y,0)]/\Ep n scope.names []=[(y,n)]/\scope.names.lookup y=some .cell):=by
 rcases C.oc with o | ⟨z,o1,o2,_⟩
 ·rw[Oc _ _ _ o] at h; exact .inl h
 ·rw[Io,o1] at h
  have h2:Ln y ((z,n)::cl)=some c:=h
  rw[Cb] at h2
  cases e:y == z with
  | true =>
   rw[e] at h2
   have ec:c=n:=(Bn h2).symm
   have ey:=Dt e
   subst ey
   exact .inr ⟨ec,o1 0,o1 n,o2⟩
  | false=>rw[e] at h2; exact .inl h2
theorem CompScope.find(C:CompScope X scope cl x ys js)(h:cl.lookup y=some c)(hy:scope.names.lookup y=some .free):(Ep n scope.names cl).lookup y=some c:=by
 rcases C.oc with o | ⟨z,o1,o2,_⟩
 ·rw[Oc _ _ _ o]; exact h
 ·rw[Io,o1]
  show Ln y ((z,n)::cl)=some c
  rw[Cb]
  cases e:y == z with
  | true=>rw[Dt e,o2] at hy; cases hy
  | false=>exact h
theorem CompScope.cellAt(C:CompScope X scope cl x ys js)(hy:(y,Dz)∈scope.names):(Ep n scope.names cl).lookup y=some n:=by
 rcases C.oc with o | ⟨z,o1,o2,o3⟩
 ·exact absurd rfl (o _ hy)
 ·have ez:y=z:=o3 _ hy rfl
  subst ez
  rw[Io,o1]
  show Ln y ((y,n)::cl)=some n
  rw[Cb,beq_self_eq_true]
theorem Wy(C:CompScope X scope cl x ys js)(hQ:∀h4,h4.Ns s.heap.objs.size (λ_=>none)->(∀b u,s.heap.get? b=some u->h4.get? b=some u)->(∀z n,Ep (s.heap.objs.size+1) scope.names []=[(z,n)]->h4.IsCell n none)->Q (newEnv scope s.heap.objs.size X.env.globals (Ep (s.heap.objs.size+1) scope.names cl) X.env.qual none .none (some X.env) Vb) { s with heap:=h4,toks:=s.toks+([]:List (Str×Value)).length }):wpAny M A (Qy scope X.env.globals cl [] X.env.qual none .none (some X.env)) Q E s:=by
 simp only[Qy,Option.isSome_some,if_true]
 refine Aa (wpAny_alloc (Aa (wpAny_layCells _ (λx k cs=>by cases e:k == Dz <;> simp [e]) _ _ _ _ ?_)))
 have hsz:({ s with heap:=s.heap.push { cls:=.type "dict",data:=.dict #[] } }:Aj).heap.objs.size=s.heap.objs.size+1:=Ij ..
 rw[hsz]
 refine Aa (Am (Am (hQ _ ((Heap.Ns.new s.heap (.type "dict")).keeps (pushCells_keeps _ _)) (λb u e=>pushCells_keeps _ _ b u (Ah _ e)) λz n e=>?_)))
 have ok:=(cellsFrom_ok scope.names (s.heap.push { cls:=.type "dict",data:=.dict #[] }) 0 [] ⟨λ_ _ hm=>(nomatch hm),Ko⟩ (Dg _)).empty z n
 rw[show (s.heap.push { cls:=.type "dict",data:=.dict #[] }).objs.size=s.heap.objs.size+1 from hsz,e] at ok
 exact (ok (Af.mpr rfl)).1
end
section
variable{X:Cx}{pins:List (Addr×Obj)}{σ:L2.St}{H:Hp}{s:Aj}{scope:Scope}{cl:List (Str×Addr)}{fp:List Addr}{N:List Str}
theorem E8(C:CompScope X scope cl x ys js)(I:Inv X pins σ H s)(hf:∀b∈fp,Ms X pins H b)(ho:∀b∈fp,∃o,s.heap.get? b=some o):(El X scope cl N fp s H).Ok where
 mod:=I.ok.mod
 kind:=C.kind
 glob:=I.ok.glob
 blt:=I.ok.blt
 above:=Ak _
 inj:=λy z c h1 h2=>by
  have lt:∀y,cl.lookup y=some c->c<s.heap.objs.size:=λy e=>let ⟨_,q⟩:=I.cell y c (C.sub y c e); q.lt
  rcases C.split h1 with h1 | ⟨e1,a1,_⟩
  ·rcases C.split h2 with h2 | ⟨e2,_⟩
   ·exact I.ok.inj y z c (C.sub y c h1) (C.sub z c h2)
   ·exact (gC (lt y h1) e2).elim
  ·rcases C.split h2 with h2 | ⟨e2,a2,_⟩
   ·exact (gC (lt z h2) e1).elim
   ·rw[a1] at a2
    simpa using a2
 has:=λy hy=>by
  have key:∀k,(k=Dz\/k=Dy)->(compEnvC scope cl s.heap.objs.size X.env).kindOf y=some k->∃c,(Ep (s.heap.objs.size+1) scope.names cl).lookup y=some c:=by
   intro k hk e
   obtain ⟨k0,e0,e1⟩:=Re (names:=scope.names) (env:=X.env) (y:=y) (k:=k) e
   have m:=Do e0
   by_cases hk0:k0=.cell
   ·exact ⟨_,C.cellAt (hk0▸m)⟩
   have hfree:k0=.free:=by
    rcases e1 with e1 | e1
    ·subst e1
     rcases hk with hk | hk
     ·exact absurd hk hk0
     ·exact hk
    ·exact e1.1
   obtain ⟨c,hc⟩:=Qe.mp (C.has _ m hfree)
   exact ⟨c,C.find hc (hfree▸e0)⟩
  rcases hy with hy | hy
  ·exact key _ (.inl rfl) hy
  ·exact key _ (.inr rfl) hy
 cab:=λy c h e=>by
  have h:scope.names.lookup y=some .cell:=of_decide_eq_true h
  have:=(C.cellAt (n:=s.heap.objs.size+1) (Do h)).symm.trans e
  show s.heap.objs.size<=c
  have:=Bn this
  omega
 hd:=I.ok.hd
 frames:=I.ok.frames
 stk:=.inl rfl
 exf:=λb hb=>by
  obtain ⟨o,e⟩:=ho b hb
  refine ⟨Cd (Bh e),λy c hc=>?_⟩
  rcases C.split hc with hc | ⟨hc,_⟩
  ·exact (hf b hb).2.2.2.2.1 y c (C.sub y c hc)
  ·exact λz=>gC (Bh e) (z.symm.trans hc)
 bs:=I.bs
 bsz:=Bz I.ok.bsz I.sz
 noex:=λb o e hb=>by
  rcases (hf b hb).2.2.2.1 with z | z
  ·exact I.ok.noex b o e z
  ·exact absurd (Cc (Bh (I.ok.bs b o e).1) z) (Fk _)
 exfs:=λb hb z=>by
  rcases Ag.mp (I.stkSub b z) with e | e
  ·exact (hf b hb).2.1 e
  ·exact (hf b hb).2.2.1 e
 funs:=I.stack
 frf:=I.stkFree
 tab:=I.ok.tab.un I.base
def Gq(σ:L2.St)(js:List Nat):L2.St:=js.map λj=>(σ[j]?).join
theorem Ui(C:CompScope X scope cl x ys js)(I:Inv X pins σ H s)(hf:∀b∈fp,Ms X pins H b)(ho:∀b∈fp,∃o,s.heap.get? b=some o)(hns:h1.Ns s.heap.objs.size m1)(keep:∀b u,s.heap.get? b=some u->h1.get? b=some u)(new:∀z n,Ep (s.heap.objs.size+1) scope.names []=[(z,n)]->h1.IsCell n none):Inv (El X scope cl (pre++ys) fp s H) [] (pre.map (λ_=>none)++Gq σ js) H { s with heap:=h1,toks:=tk }:=by
 have cellK:∀y c,cl.lookup y=some c->∃v,s.heap.IsCell c v/\h1.IsCell c v:=λy c e=>by
  obtain ⟨v,o,q,d⟩:=I.cell y c (C.sub y c e)
  exact ⟨v,⟨o,q,d⟩,o,keep c o q,d⟩
 refine ⟨E8 C I hf ho,rfl,I.bare,Un.kept keep,⟨m1,hns,λi y v e1 e2 _=>?_⟩,λy c e=>?_,I.hok.fresh (Ak _),λy c e=>?_,λp hp=>?_,I.hok.kept keep,?_⟩
 ·have e2:(pre.map (λ_=>(none:Option V))++Gq σ js)[i]? = some (some v):=e2
  have e1:(pre++ys)[i]? = some y:=e1
  by_cases hi:i<pre.length
  ·rw[Km (by rw[Ad]; exact hi),Bf] at e2
   cases q:pre[i]? with
   | none=>rw[q] at e2; cases e2
   | some z=>rw[q] at e2; cases e2
  ·rw[Fl (by rw[Ad]; omega),Ad] at e2
   rw[Fl (by omega)] at e1
   have e1':=e1
   have e2':=e2
   generalize i - pre.length=k at e1' e2'
   unfold Gq at e2'
   rw[Bf] at e2'
   cases ej:js[k]? with
   | none=>rw[ej] at e2'; simp at e2'
   | some j =>
    rw[ej] at e2'
    have e3:(σ[j]?).join=some v:=by simpa using e2'
    have e4:σ[j]? = some (some v):=by
     cases q:σ[j]? with
     | none=>rw[q] at e3; simp at e3
     | some z=>rw[q] at e3; simp at e3; rw[e3]
    obtain ⟨a1,a2,a3⟩:=C.at_ k y j e1' ej
    obtain ⟨m0,_,hl⟩:=I.loc
    have vis:FG X.env.scope y:=a3.elim (λa3=>.inr (.inl a3)) λa3=>.inr (.inr a3)
    obtain ⟨u,r,l⟩:=hl j y v a1 e4 vis
    refine ⟨u,r,?_⟩
    rcases l with ⟨k1,_⟩ | ⟨_,c,hc,hv⟩
    ·rcases a3 with a3 | a3 <;> rw[k1] at a3 <;> cases a3
    ·obtain ⟨c',hc'⟩:=Qe.mp (C.has _ (Do a2) rfl)
     have ec:c'=c:=by
      have:=C.sub y c' hc'
      rw[hc] at this
      exact (Bn this).symm
     subst ec
     obtain ⟨o,q,d⟩:=hv
     exact .inr ⟨Wa a2,c',C.find hc' a2,o,keep c' o q,d⟩
 ·rcases C.split e with e | ⟨e,_,e',_⟩
  ·obtain ⟨v,_,z⟩:=cellK y c e
   exact ⟨v,z⟩
  ·exact ⟨_,e▸new _ _ e'⟩
 ·rcases C.split e with e | ⟨e,_⟩
  ·exact I.freeC y c (C.sub y c e)
  ·exact I.hok.fresh (by omega)
 ·cases (show p∈([]:List (Addr×Obj)) from hp)
 ·show (pre.map (λ_=>(none:Option V))++Gq σ js).length=(pre++ys).length
  simp [Gq,C.len]
end
section
variable{X:Cx}
def O2(J:It)(js:List Nat)(tc:TT)(te:TE)(σ:L2.St)(H1:Hp)(Q:VK):Prop:=∀D,H1 D=none->∃W:Nat->Nat->Hp->Prop,(∃m,W 0 m (upd H1 D (.lst [])))/\∀i m H,W i m H ->
 (J.stop i H/\Q (.ref D) H)\/(J.go i H/\∀x H',J.yld i H x H'->∃(N1:Hp->Prop) (N2:VK),(∀H2,N1 H2->∃m',m'<m/\W (i+1) m' H2) /\
  (∀y H3,N2 y H3->∃acc,H3 D=some (.lst acc)/\acc.length<Au/\∃m',m'<m/\W (i+1) m' (upd H3 D (.lst (acc++[y])))) /\
  tc (some x::Gq σ js) H' λc H2=>if c=true then te (some x::Gq σ js) H2 N2 else N1 H2)
def mB(wi:TI)(js:List Nat)(tc:TT)(te:TE):TE:=λσ H Q=>wi σ H λJ H1=>O2 J js tc te σ H1 Q
def Zj:TT:=λ_ H Q=>Q true H
theorem zY{te:TE}{N1:Hp->Prop}(h:te σ' H N2):Zj σ H λc H2=>if c=true then te σ' H2 N2 else N1 H2:=by
 show if true=true then te σ' H N2 else N1 H
 exact pH h
def nC(X:Cx)(ifs:List Expr)(t:TT):Prop :=
 ∀(pins:List (Addr×Obj)) (s:Aj) (σ:L2.St) (H:Hp) (Q:Bool->Hp->Prop),Inv X pins σ H s->t σ H Q ->
  wpAny (model X.prog X.w) X.A (forIn ifs true λc r=>if r=true then (do
   let ok <- isTrue c X.env (eval c X.env)
   pure (Fi ok)) else pure (Fi r)) (TP X pins σ Q) X.xe s
theorem bT:nC X [] Zj:=λpins s σ H Q I h=>wpAny_tests_nil ⟨H,I,h⟩
theorem K9(h:PT X c t):nC X [c] t:=λpins s σ H Q I q=>wpAny_tests_one (h pins s σ H Q I q)
theorem bY{X X':Cx}{pins:List (Addr×Obj)}{σ σ':L2.St}(hX':El X scope cl N fp s3 H3=X')(I3:Inv X pins σ H3 s3)(f3:∀b∈fp,Ms X pins H3 b)(I7:Inv X' [] σ' H6 s7):∃m7,s7.heap.Ns s3.heap.objs.size m7/\∀h8,Dn s3.heap.objs.size s7.heap h8->Inv X pins σ H6 { s7 with heap:=h8 }:=by
 have eP:X'.prog=X.prog:=by rw[<- hX']; rfl
 have eW:X'.w=X.w:=by rw[<- hX']; rfl
 obtain ⟨m7,hn7,_⟩:=I7.loc
 have hn7':s7.heap.Ns s3.heap.objs.size m7:=by rw[<- hX'] at hn7; exact hn7
 refine ⟨m7,hn7',λh8 hs8=>?_⟩
 have I7f:H6 s3.heap.objs.size=none:=by have:=I7.free; rw[<- hX'] at this; exact this
 have b7:Un (tP X.stack) fp H3 H6 s3.heap s7.heap:=by have:=I7.base; rw[<- hX'] at this; exact this
 have ne8:∀b o,s3.heap.get? b=some o->b≠s3.heap.objs.size:=λb o q=>Cd (Bh q)
 have u8:Un (tP X.stack) fp H3 H6 s3.heap h8:=by
  refine ⟨λb o q n hb hx=>(hs8.2 b (ne8 b o q)).trans (b7.keep b o q n hb hx),λb o q n hb hx=>?_,b7.free,λb o q hx=>?_,b7.tups,b7.frzs,b7.tbls⟩
  ·obtain ⟨sl,z⟩:=b7.slot b o q n hb hx
   exact ⟨sl,(hs8.2 b (ne8 b o q)).trans z⟩
  ·obtain ⟨o',z⟩:=b7.there b o q hx
   exact ⟨o',(hs8.2 b (ne8 b o q)).trans z⟩
 have hok8:Wk X.prog X.w H6 h8:=λb ob e=>by
  have hk7:=I7.hok
  rw[eP,eW] at hk7
  refine (hk7 b ob e).stay (λc w' hcc q=>(hs8.2 c ?_).trans q) (λ_ q=>q) λ_ _ q=>q
  rintro rfl
  rcases hcc with rfl | hcc
  ·rw[I7f] at e; cases e
  ·rw[I7f] at hcc; cases hcc
 have os7:s7.os=s3.os:=by have:=I7.os; rw[<- hX'] at this; exact this
 exact I3.call' (s':={ s7 with heap:=h8 }) (ch:=fp) os7 u8 hok8 I7.bare (λb hb=>⟨(f3 b hb).2.2.2.1,(f3 b hb).2.1,(f3 b hb).2.2.2.2.1,(f3 b hb).2.2.2.2.2⟩)
theorem Wt{X X':Cx}{σ':L2.St}{H3 H6:Hp}(hX':El X scope cl N fp s3 H3=X')(I4:Inv X' [] σ' H6 s7)(hn:∀b∈fp,H' b=none):∀b∈fp,Ms X' [] H' b:=λb hb=>by
 have ok:=I4.ok
 have hex:b∈X'.ex:=by rw[<- hX']; exact hb
 exact ⟨hn b hb,(ok.exf b hex).1,ok.exfs b hex,.inl hex,(ok.exf b hex).2,λp hp=>by rw[<- hX'] at hp; cases (show p∈([]:List (Addr×Obj)) from hp)⟩
theorem aO(hc:X.calm=true)(hX':El X scope cl N fp s3 H3=X'):X'.prog=X.prog/\X'.w=X.w/\X'.K=X.K/\X'.A=X.A/\X'.calm=true:=by
 subst hX'
 exact ⟨rfl,rfl,rfl,rfl,hc⟩
theorem sQ{X X':Cx}{pins:List (Addr×Obj)}{σ σ':L2.St}(hX':El X scope cl N fp s3 H3=X')(I3:Inv X pins σ H3 s3)(f3:∀b∈fp,Ms X pins H3 b)(I7:Inv X' [] σ' H6 s7):(∃m7,s7.heap.Ns s3.heap.objs.size m7)/\H6 s3.heap.objs.size=none/\Inv X pins σ H6 s7:=by
 subst hX'
 obtain ⟨m7,hn7,_⟩:=I7.loc
 exact ⟨⟨m7,hn7⟩,I7.free,I3.call' (s':=s7) (ch:=fp) I7.os I7.base I7.hok I7.bare (λb hb=>⟨(f3 b hb).2.2.2.1,(f3 b hb).2.1,(f3 b hb).2.2.2.2.1,(f3 b hb).2.2.2.2.2⟩)⟩
theorem aB{X:Cx}{pins:List (Addr×Obj)}{σ:L2.St}{H2:Hp}{s2:Aj}{tg:Expr}(I2:Inv X pins σ H2 s2)(T:Turn X.prog X.w X.K tg J fp it tn)(st2:tn 0 s2.heap)(f2:∀b∈fp,Ms X pins H2 b)(I3:Inv X pins σ (upd H2 s2.heap.objs.size ho) { s2 with heap:=s2.heap.push ob }):(∀b∈fp,Ms X pins (upd H2 s2.heap.objs.size ho) b)/\tn 0 (s2.heap.push ob)/\∀b∈fp,∃o,(s2.heap.push ob).get? b=some o:=by
 have st3:tn 0 (s2.heap.push ob):=T.keep 0 _ _ st2 λb hb o q=>Ah _ q
 refine ⟨λb hb=>⟨?_,(f2 b hb).2⟩,st3,λb hb=>?_⟩
 ·rw[Cz ?_]
  ·exact (f2 b hb).1
  ·intro z
   obtain ⟨o,q,_⟩:=T.obj _ _ st2 b hb
   have:=Bh q
   rw[z] at this
   exact absurd this (Fk _)
 ·obtain ⟨o,q,_⟩:=T.obj _ _ st3 b hb
  exact ⟨o,q⟩
theorem Vm(C:CompScope X scope cl x ys js)(hc:X.calm=true)(hi:PI X (.Name x px) iter wi)(ht:∀fp s H,nC (El X scope cl (x::ys) fp s H) ifs tc)(he:∀fp s H,PE (El X scope cl (x::ys) fp s H) elt te)(hs:∀x,Ee iter X.env x=pure x:=by intro _; rfl):PE X (.ListComp elt [⟨.Name x px,iter,ifs,0⟩] scope pos) (mB wi js tc te):=by
 intro pins s σ H Q I h
 rw[eval_ListComp]
 refine Te (use:=none) rfl hs C.clos C.kind C.locs (Gj (hi pins s σ H _ I h) λv s1 h1=>Gj h1 λitv s2 h2=>?_)
 obtain ⟨it,fp,tn,J,H2,e,I2,T,st2,f2,q2⟩:=h2
 subst e
 have fD:H2 s2.heap.objs.size=none:=I2.hok.fresh (Ak _)
 obtain ⟨W,⟨m0,w0⟩,turn⟩:=q2 s2.heap.objs.size fD
 refine Dv ?_
 have I3:Inv X pins σ (upd H2 s2.heap.objs.size (.lst [])) { s2 with heap:=s2.heap.push { cls:=.type "list",dict:=none,data:=.seq ([]:List Value).toArray } } :=
  I2.laid (t':=s2.toks) (λb u q=>Ah _ q) (Ak _) ⟨Dg _,[],0,.nil,Bg _ rfl⟩
 obtain ⟨f3,st3',o3'⟩:=aB I2 T st2 f2 I3
 generalize hS3:({ s2 with heap:=s2.heap.push { cls:=.type "list",dict:=none,data:=.seq ([]:List Value).toArray } }:Aj)=s3 at I3
 have st3:tn 0 s3.heap:=by rw[<- hS3]; exact st3'
 have o3:∀b∈fp,∃o,s3.heap.get? b=some o:=by rw[<- hS3]; exact o3'
 show wpAny _ _ (Qy scope X.env.globals cl [] X.env.qual none .none (some X.env)) _ _ _
 refine Wy C λh4 hns4 keep4 new4=>?_
 have I4:∀tk,Inv (El X scope cl (x::ys) fp s3 (upd H2 s2.heap.objs.size (.lst []))) [] (none::Gq σ js) (upd H2 s2.heap.objs.size (.lst [])) { s3 with heap:=h4,toks:=tk }:=λtk=>Ui (pre:=[x]) C I3 f3 o3 hns4 keep4 new4
 have st4:tn 0 h4:=T.keep 0 _ _ st3 λb hb o q=>keep4 b o q
 generalize hX':El X scope cl (x::ys) fp s3 (upd H2 s2.heap.objs.size (.lst []))=X' at I4
 obtain ⟨eP,eW,eK,eA,eC⟩:=aO hc hX'
 have stat:∀{H':Hp},(∀b∈fp,H' b=none)->∀b∈fp,Ms X' [] H' b:=λ{H'} hn=>Wt hX' (I4 0) hn
 have loop:∀s5:Aj,s5={ s3 with heap:=h4,toks:=s3.toks+([]:List (Str×Value)).length } ->
   Oj (model X.prog X.w) X.A (.compLoop (.ListComp elt [⟨.Name x px,iter,ifs,0⟩] scope pos) 0 (.ref it) (.ref s2.heap.objs.size) (compEnvC scope (Ep (s3.heap.objs.size+1) scope.names cl) s3.heap.objs.size X.env))
    (compPost (model X.prog X.w) X.A X.xe none (EP X pins σ Q) (.ref s2.heap.objs.size) s3.heap.objs.size) s5:=by
  rintro s5 rfl
  refine Uo (λn s'=>∃i o H',Inv X' [] (o::Gq σ js) H' s'/\tn i s'.heap/\(∀b∈fp,H' b=none)/\W i n H') ?_ m0
   ⟨0,none,_,I4 _,st4,λb hb=>(f3 b hb).1,w0⟩
  (intro n s6 q_; obtain ⟨i,o,H6,I6,st6,fr6,w6⟩ := q_)
  rcases turn i n H6 w6 with ⟨stop,qn⟩ | ⟨go,step⟩
  ·have hd:=T.done X' eP eW eK eC i [] s6 _ H6 (λ_ _=>False) I6 (stat fr6) st6 stop
   rw[eA] at hd
   refine Gj hd λr s7 q0_ => ?_
   obtain ⟨hr,I7⟩ := q0_
   subst hr
   obtain ⟨m7,hn7,fin7⟩:=bY hX' I3 f3 I7
   exact ⟨m7,hn7,λh8 hs8=>⟨.ref s2.heap.objs.size,H6,fin7 h8 hs8,rfl,qn⟩⟩
  ·have hit:=T.item X' eP eW eK eC i [] s6 _ H6 (λ_ _=>False) I6 (stat fr6) st6 go
   rw[eA] at hit
   refine Gj hit λr s7 q0_ => ?_
   obtain ⟨u,hr,h7⟩ := q0_
   subst hr
   refine Gj h7 λ_ s8 q0_ => ?_
   obtain ⟨y,H8,I8,r8,y8,st8,fr8⟩ := q0_
   have I8':=I8.pinned (stat fr8) (T.obj _ _ st8)
   obtain ⟨N1,N2,hN1,hN2,hst⟩:=step y H8 y8
   have again:∀{H9:Hp} {s9:Aj} {m':Nat},Inv X' ([]++Uh fp s8.heap) (some y::Gq σ js) H9 s9->m'<n->W (i+1) m' H9->∃m,m<n/\∃i o H',Inv X' [] (o::Gq σ js) H' s9/\tn i s9.heap/\(∀b∈fp,H' b=none)/\W i m H':=λ{H9 s9 m'} I9 hm w9=>by
    refine ⟨m',hm,i+1,some y,H9,I9.unpinned,T.keep _ _ _ st8 λb hb o e=>(I9.pin (b,o) (Al _ (Al _ (Jg hb e)))).1,λb hb=>?_,w9⟩
    obtain ⟨o,e,_⟩:=T.obj _ _ st8 b hb
    exact (I9.pin (b,o) (Al _ (Al _ (Jg hb e)))).2.1
   subst hX'
   refine Gj (Ow (i:=0) (x:=x) (pos:=px) C.nd rfl (Zn C.own) (iU C.own) _ s8 _ H8 y u (λσ' H'=>σ'=some y::Gq σ js/\H'=H8) I8' r8 ⟨rfl,rfl⟩) λ_ s9 q0_ => ?_
   obtain ⟨σ9,H9,I9,e9,e9'⟩ := q0_
   subst e9 e9'
   refine Gj (ht fp s3 _ _ s9 _ _ _ I9 hst) λok s10 q0_ => ?_
   obtain ⟨H10,I10,q10⟩ := q0_
   cases ok with
   | false =>
    rw[if_neg Br] at q10 ⊢
    obtain ⟨m',hm,w10⟩:=hN1 _ q10
    exact again I10 hm w10
   | true =>
    rw[if_pos rfl] at q10 ⊢
    refine Gj (he fp s3 _ _ s10 _ _ _ I10 q10) λz s11 q0_ => ?_
    obtain ⟨vz,H11,I11,r11,q11⟩ := q0_
    obtain ⟨acc,ha,hz,m',hm,w11⟩:=hN2 _ _ q11
    refine Gj (Qa _ s11 _ H11 (.ref s2.heap.objs.size) [vz] (.ref s2.heap.objs.size) [z] (λ_ H'=>H'=upd H11 s2.heap.objs.size (.lst (acc++[vz]))) I11 rfl (.cons r11 .nil) ⟨_,acc,vz,rfl,rfl,ha,hz,rfl⟩) λ_ s12 q0_ => ?_
    obtain ⟨_,H12,I12,_,e12⟩ := q0_
    subst e12
    exact again I12 hm w11
 exact Va (loop _ rfl) (T.self X.A 0 _ _ _ st4 (loop _ rfl))
end
structure Walked(J:It)(G:Hp->Prop)(xs:List V):Prop where
 go:∀i H,i<xs.length->G H->J.go i H
 yld:∀i H x H',i<xs.length->G H->J.yld i H x H'->H'=H/\xs[i]? = some x
 stop:∀H,G H->J.stop xs.length H
theorem Yi{K:PySem.W.Frag}:Walked (EX K a) (λH=>Mc K H a xs) xs where
 go:=λi H h q=>⟨xs,xs[i],q,by simp [h]⟩
 yld:=λi H x H' _ q y=>⟨y.1,y.2 xs q⟩
 stop:=λH q=>⟨xs,q,Ak _⟩
theorem qQ(wk:Walked J G xs)(hz:xs.length<=Au)(Pv:Addr->Nat->List V->Hp->Prop)
  (h0:∀D,H1 D=none->Pv D 0 [] (upd H1 D (.lst []))) (hg:∀D i acc H,Pv D i acc H->G H)
  (hs:∀D i x acc H,H1 D=none->xs[i]? = some x->H D=some (.lst acc)->Pv D i acc H->tc (some x::Gq σ js) H λc H2=>if c=true then te (some x::Gq σ js) H2 λy H3=>H3 D=some (.lst acc)/\Pv D (i+1) (acc++[y]) (upd H3 D (.lst (acc++[y])))
   else H2 D=some (.lst acc)/\Pv D (i+1) acc H2)
  (hd:∀D acc H,H1 D=none->H D=some (.lst acc)->Pv D xs.length acc H->Q (.ref D) H):O2 J js tc te σ H1 Q:=by
 intro D nD
 refine ⟨λi m H=>m=xs.length - i/\i<=xs.length/\∃acc,H D=some (.lst acc)/\acc.length<=i/\Pv D i acc H,⟨xs.length,by simp,Dg _,[],Co,Ak _,h0 D nD⟩,?_⟩
 (intro i m H q_; obtain ⟨rfl,hi,acc,ha,hl,p⟩ := q_)
 have g:=hg D i acc H p
 by_cases hlt:i<xs.length
 ·refine .inr ⟨wk.go i H hlt g,λx H' y=>?_⟩
  obtain ⟨e,hx⟩:=wk.yld i H x H' hlt g y
  subst e
  refine ⟨λH2=>H2 D=some (.lst acc)/\Pv D (i+1) acc H2,λy H3=>H3 D=some (.lst acc)/\Pv D (i+1) (acc++[y]) (upd H3 D (.lst (acc++[y]))),λH2 q=>?_,λz H3 q=>?_,hs D i x acc _ nD hx ha p⟩
  ·exact ⟨xs.length - (i+1),by omega,rfl,hlt,acc,q.1,by omega,q.2⟩
  ·exact ⟨acc,q.1,by omega,xs.length - (i+1),by omega,rfl,hlt,acc++[z],Co,by rw[Bo,Hf]; omega,q.2⟩
 ·have e:i=xs.length:=by omega
  subst e
  exact .inl ⟨wk.stop H g,hd D acc H nD ha p⟩
theorem Dl(h:H p=none)(o:HO):Mv H (upd H p o):=λb u q=>by rw[Cz (Dx q h)]; exact q
theorem Kv{α:Type}{xs:List α}{x:α}(h:xs[i]? = some x):xs.take (i+1)=xs.take i++[x]:=by
 rw[List.take_succ,h]; rfl
mutual
inductive RdV (K:PySem.W.Frag) (H:Hp):V->Ac->Prop
 | non:RdV K H .non .none
 | bl (b:Bool):RdV K H (.bl b) (.bool b)
 | int (i:Int):RdV K H (.int i) (.int i)
 | str (x:Str):RdV K H (.str x) (.str x)
 | lst {a:Addr} {xs:List V} {ds:List Ac}:Mc K H a xs->RdVs K H xs ds->RdV K H (.ref a) (.list ds)
 | tup {a:Addr} {xs:List V} {ds:List Ac}:Up K H a xs->RdVs K H xs ds->RdV K H (.ref a) (.tuple ds)
inductive RdVs (K:PySem.W.Frag) (H:Hp):List V->List Ac->Prop
 | nil:RdVs K H [] []
 | cons {x:V} {d:Ac} {xs:List V} {ds:List Ac}:RdV K H x d->RdVs K H xs ds->RdVs K H (x::xs) (d::ds)
end
section
variable{X:Cx}{pins:List (Addr×Obj)}{σ:L2.St}{H H':Hp}{s:Aj}{K:PySem.W.Frag}
mutual
theorem RdV.reads(I:Inv X pins σ H s):∀{v:V} {d:Ac} {u:Value},RdV X.K H v d->RelV v u->∃as,Reads s.heap u d as
 | _,_,_,.non,r=>by cases r; exact ⟨_,.none⟩
 | _,_,_,.bl b,r=>by cases r; exact ⟨_,.bool b⟩
 | _,_,_,.int i,r=>by obtain ⟨t,rfl⟩:=r; exact ⟨_,.int i t⟩
 | _,_,_,.str x,r=>by obtain ⟨t,rfl⟩:=r; exact ⟨_,.str x t⟩
 | _,_,_,.lst h hs,r=>by
  cases r
  obtain ⟨its,rv,⟨o,n,e,hc,_,hd⟩,_⟩:=I.list h
  obtain ⟨as,ra⟩:=RdVs.reads I hs rv
  exact ⟨_,.list e hc hd (by simpa using ra)⟩
 | _,_,_,.tup h hs,r=>by
  cases r
  obtain ⟨its,rv,⟨o,e,hc,n,hd⟩,_⟩:=I.tuple h
  obtain ⟨as,ra⟩:=RdVs.reads I hs rv
  exact ⟨_,.tuple e hc hd (by simpa using ra)⟩
theorem RdVs.reads(I:Inv X pins σ H s):∀{vs:List V} {ds:List Ac} {us:List Value},RdVs X.K H vs ds->Ff vs us->∃as,ReadsAll s.heap us ds as
 | _,_,_,.nil,r=>by cases r; exact ⟨_,.nil⟩
 | _,_,_,.cons h hs,r=>by
  cases r with
  | cons r rs =>
   obtain ⟨as,ra⟩:=RdV.reads I h r
   obtain ⟨bs,rb⟩:=RdVs.reads I hs rs
   exact ⟨_,.cons ra rb⟩
end
mutual
theorem RdV.noDict:∀{v:V} {d:Ac},RdV K H v d->d.hasDict=false
 | _,_,.non=>by simp only[Lo]
 | _,_,.bl b=>by simp only[Lo]
 | _,_,.int i=>by simp only[Lo]
 | _,_,.str x=>by simp only[Lo]
 | _,_,.lst h hs=>by simp only[Lo]; exact RdVs.noDict hs
 | _,_,.tup h hs=>by simp only[Lo]; exact RdVs.noDict hs
theorem RdVs.noDict:∀{vs:List V} {ds:List Ac},RdVs K H vs ds->Xs ds=false
 | _,_,.nil=>by simp only[Xs]
 | _,_,.cons h hs=>by simp only[Xs,RdV.noDict h,RdVs.noDict hs,Bool.or_self]
end
end
mutual
def Nj(b:Nat):Ac->Prop
 | .none=>True
 | .bool _=>True
 | .int i=>i.natAbs<10 ^ b
 | .str x=>(reprText x).length<=b
 | .list xs=>Me b xs
 | .tuple xs=>Me b xs
 | .dict _=>False
def Me(b:Nat):List Ac->Prop
 | []=>True
 | x::xs=>Nj b x/\Me b xs
end
mutual
def Nv:Ac->Nat
 | .list xs=>Jh xs+1
 | .tuple xs=>Jh xs+1
 | _=>1
def Jh:List Ac->Nat
 | []=>0
 | x::xs=>Nv x+Jh xs
end
theorem Ro:∀{xs:List Ac},Me b xs↔∀x∈xs,Nj b x
 | []=>by simp [Me]
 | x::xs=>by simp only[Me,Ag,forall_eq_or_imp,Ro (xs:=xs)]
theorem Sa:∀{xs:List Ac},(∀x∈xs,Nv x<=m)->Jh xs<=m * xs.length
 | [],_=>by simp [Jh]
 | x::xs,h=>by
  have h1:=h x (Ab ..)
  have h2:=Sa (xs:=xs) λy hy=>h y (Ae _ hy)
  simp only[Jh,Bs,Nat.mul_add,Nat.mul_one]
  omega
theorem nH(ns:List Int):Bm (ns.map Ai)=0:=by
 induction ns with
 | nil=>rfl
 | cons n ns ih=>simp only[Aw,Bm,Cj,ih,Nat.max_self]
theorem Xy:∀{xs:List Ac},(∀x∈xs,x.depth<=m)->Bm xs<=m
 | [],_=>by simp [Bm]
 | x::xs,h=>by
  have h1:=h x (Ab ..)
  have h2:=Xy (xs:=xs) λy hy=>h y (Ae _ hy)
  simp only[Bm]
  omega
theorem mG(ts:List Str):(listText ts).length<=piled ts+2:=by
 cases ts with
 | nil=>rw[listText_nil]; decide
 | cons t r =>
  have h:=textFrom_length_pos r 1 (("[" : Str)++(if (0:Nat) > 0 then ", " else "" : String)++t) (Nat.succ_pos 0)
  have e:((("[" : Str)++(if (0:Nat) > 0 then ", " else "" : String)++t)).length=1+t.length:=by
   rw[Tf,Tf]; rfl
  have hX:(listText (t::r)).length=(textFrom 0 "[" (t::r)).length+1:=by
   show (textFrom 0 "[" (t::r) ++ "]").length=_
   rw[Tf]; rfl
  have hY:(textFrom 0 "[" (t::r)).length=(textFrom 1 (("[" : Str)++(if (0:Nat) > 0 then ", " else "" : String)++t) r).length:=rfl
  rw[hX,hY,h,e,piled_cons]; omega
theorem fX(ts:List Str):(tupleText ts).length<=piled ts+3:=by
 unfold tupleText
 rw[Tf,Tf]
 have e1:((("(" : String):Str)).length=1:=rfl
 have e3:(((if ts.length == 1 then ",)" else ")" : String):Str)).length<=2:=by split <;> decide
 rw[e1]
 by_cases h:ts=[]
 ·subst h
  have : (Str.join ", " []).length=0:=rfl
  omega
 ·have:=join_length_add ts h
  omega
mutual
theorem jH:∀{d:Ac},Nj b d->d.shown.length+4<=(b+12) * Nv d
 | .none,_=>by simp only[Od,Nv]; show 4+4<=_; omega
 | .bool c,_=>by
  simp only[Od,Nv]
  cases c
  ·show 5+4<=_; omega
  ·show 4+4<=_; omega
 | .int i,h=>by
  simp only[Od,Nv]
  have h':i.natAbs<10 ^ b:=by simpa only [Nj] using h
  have h2:i.natAbs<10 ^ (b+1):=Cc h' (Vc (by decide) (by omega))
  have h3:(Ds (Qx i)).length<=b+2:=by
   have h4:=int_text_length_le10 (a:=i) (k:=b+1) (by omega) h2
   have h5:(Ds (Qx i)).length=(Qx i).length:=PySem.ofString_length _
   omega
  have h6:((Qx i:String):Str).length=(Ds (Qx i)).length:=rfl
  omega
 | .str x,h=>by
  simp only[Od,Nv]
  have h':(reprText x).length<=b:=by simpa only [Nj] using h
  omega
 | .list xs,h=>by
  simp only[Od,Nv]
  have h1:=Rl (b:=b) (xs:=xs) (by simpa only [Nj] using h)
  have h2:=mG (Nl xs)
  rw[Nat.mul_add]
  omega
 | .tuple xs,h=>by
  simp only[Od,Nv]
  have h1:=Rl (b:=b) (xs:=xs) (by simpa only [Nj] using h)
  have h2:=fX (Nl xs)
  rw[Nat.mul_add]
  omega
 | .dict kvs,h=>by simp only[Nj] at h
theorem Rl:∀{xs:List Ac},Me b xs->piled (Nl xs)<=(b+12) * Jh xs
 | [],_=>by simp only[Nl,Jh,piled_nil]; omega
 | x::xs,h=>by
  simp only[Me] at h
  have h1:=jH h.1
  have h2:=Rl h.2
  simp only[Nl,Jh,piled_cons]
  rw[Nat.mul_add]
  omega
end
theorem tF(hb:b<=400)(h:i<10 ^ b):i.log2<1920:=by
 have h1:i<2 ^ 1920:=Cc h (Bz (Vc (by decide) hb) (by decide +kernel))
 by_cases z:i=0
 ·subst z; decide
 ·exact (Nat.log2_lt z).mpr h1
mutual
theorem Yj(hb:b<=400):∀{d:Ac},Nj b d->d.showable=true
 | .none,_=>by simp only[Iu]
 | .bool c,_=>by simp only[Iu]
 | .int i,h=>by
  simp only[Iu]
  exact decide_eq_true (tF hb (by simpa only [Nj] using h))
 | .str x,h=>by simp only[Iu]
 | .list xs,h=>by simp only[Iu]; exact showableAll_of hb (by simpa only [Nj] using h)
 | .tuple xs,h=>by simp only[Iu]; exact showableAll_of hb (by simpa only [Nj] using h)
 | .dict kvs,h=>by simp only[Nj] at h
theorem showableAll_of(hb:b<=400):∀{xs:List Ac},Me b xs->Wi xs=true
 | [],_=>by simp only[Wi]
 | x::xs,h=>by
  simp only[Me] at h
  simp only[Wi,Yj hb h.1,showableAll_of hb h.2,Bool.and_self]
end
def aU:Ac->Str
 | .str x=>x
 | d=>d.shown
structure Tells(K:PySem.W.Frag)(H:Hp)(x:V)(d:Ac):Prop where
 rd:RdV K H x d
 fits:∃b,b<=400/\Nj b d/\(b+12) * Nv d<=Au
 depth:d.depth<=90
def CZ(K:PySem.W.Frag):List V->Hp->VK->Prop:=λxs H Q=>∃x d,xs=[x]/\Tells K H x d/\Q (.str (aU d)) H
theorem Xa(hg:X.A.guards=some [])(hu:X.A.units+100<cLine):Ld X (.type "str") (CZ X.K):=by
 intro pins s σ H xs us Q I r h
 obtain ⟨x,d,rfl,⟨hr,⟨b,hb,hf,hz⟩,hd⟩,q⟩:=h
 obtain ⟨u,rfl,ru⟩:=vals1 r
 have hs:=Yj hb hf
 have hl:d.shown.length<=Au:=by have:=jH hf; omega
 have hnd:=hr.noDict
 obtain ⟨as,rs⟩:=hr.reads I ru
 cases hr with
 | non=>cases ru; exact PySem.P.str_of_none ⟨.str _,H,I.tok _,⟨_,rfl⟩,q⟩
 | bl c=>cases ru; exact PySem.P.str_of_bool ⟨.str _,H,I.tok _,⟨_,rfl⟩,by cases c <;> exact q⟩
 | int i =>
  obtain ⟨t,rfl⟩:=ru
  exact PySem.P.str_of_int (by simpa [Iu] using hs) ⟨.str _,H,I.tok _,⟨_,rfl⟩,q⟩
 | str y =>
  obtain ⟨t,rfl⟩:=ru
  exact PySem.P.str_of_str ⟨.str _,H,I,⟨_,rfl⟩,q⟩
 | lst h1 h2 =>
  cases ru
  exact str_of_reads rs hs (λz=>by rw[hnd] at z; cases z) hg (by omega) (λ_ _ e=>e) (λh' u tk hk=>⟨.str _,H,I.kept hk,⟨_,rfl⟩,q⟩) hl
 | tup h1 h2 =>
  cases ru
  exact str_of_reads rs hs (λz=>by rw[hnd] at z; cases z) hg (by omega) (λ_ _ e=>e) (λh' u tk hk=>⟨.str _,H,I.kept hk,⟨_,rfl⟩,q⟩) hl
theorem Ff.at'(r:Ff xs us)(h:j<us.length):∃x,xs[j]? = some x/\RelV x us[j]:=by
 have hl:=r.length
 have hj:j<xs.length:=by omega
 obtain ⟨u,hu,ru⟩:=r.get (i:=j) (x:=xs[j]) (by simp [hj])
 rw[Ba h] at hu
 cases hu
 exact ⟨xs[j],by simp [hj],ru⟩
section
variable{X:Cx}{pins:List (Addr×Obj)}{σ:L2.St}{H:Hp}{s:Aj}{A:Cr}
theorem Xd(A:Cr):A.in1.units<=A.units+1:=by
 first | exact Ak _ | (simp [Around.in1]; done) | (unfold Around.in1; simp)
theorem jU:Ld X (.builtin "isinstance") (λxs H Q=>∃x n t b,xs=[x,.ty n]/\TyOf X.K H x t/\PySem.W.kitOne X.K t (.type n)=some b/\Q (.bl b) H):=by
 intro pins s σ H xs us Q I r h
 obtain ⟨x,n,t,b,rfl,ty,e,q⟩:=h
 obtain ⟨u,v,rfl,ru,rv⟩:=vals2 r
 cases rv
 exact uA I ru ty e λtk=>⟨.bl b,H,I.tok _,rfl,q⟩
theorem bC(hc:X.calm=true):Ld X (.builtin "all") (λxs H Q=>∃(p:Addr) (bs:List Bool),xs=[.ref p]/\Mc X.K H p (bs.map V.bl)/\Q (.bl (bs.all id)) H):=by
 intro pins s σ H xs us Q I r h
 obtain ⟨p,bs,rfl,hp,q⟩:=h
 obtain ⟨u,rfl,ru⟩:=vals1 r
 cases ru
 obtain ⟨its,rv,pl,_⟩:=I.list hp
 have hlen:its.toArray.size=bs.length:=by
  have:=rv.length
  rw[Ad] at this
  rw[Ar]; omega
 refine call_all_walk (fL pl.isList ?_)
 have hd:X.A.in1.handled=none:=I.ok.hd hc
 have ne:p≠s.heap.objs.size:=Cd (let ⟨o,q,_⟩:=pl.isList; Bh q)
 refine ⟨s.heap.objs.size,_,_,_,_,_,λi=>bs.getD i false,rfl,Walks.list hd s.heap.objs.size p ne its.toArray,⟨⟨_,Bg _ rfl,rfl,rfl⟩,pl.isList.push _⟩,?_,?_⟩
 ·intro i v s' Q' E' hv hq
  have hv':its[i]? = some v:=by simpa using hv
  have hi:i<its.length:=(Ap.mp hv').1
  obtain ⟨x,e1,q1⟩:=Ff.at' rv hi
  rw[Ba hi] at hv'
  have hv'':its[i]=v:=Bn hv'
  rw[hv''] at q1
  rw[Bf] at e1
  cases eb:bs[i]? with
  | none=>rw[eb] at e1; cases e1
  | some b =>
   rw[eb] at e1
   cases e1
   cases q1
   have : bs.getD i false=b:=by simp [List.getD_eq_getElem?_getD,eb]
   have hq':Q' (bs.getD i false) s':=hq
   rw[this] at hq'
   exact Fq hq'
 ·intro h' tk hk
  have e:((Di its.toArray.size).all λi=>bs.getD i false)=bs.all id:=by
   rw[hlen]
   have : bs=(Di bs.length).map (λj=>bs.getD j false):=(range_getD bs false).symm
   conv=>rhs; rw[this]
   rw[Om]
   rfl
  rw[e]
  refine ⟨.bl _,H,I.kept (h':=h') (t':=tk) (λb o qq=>hk b o ?_ (Ah _ qq)),rfl,q⟩
  intro z
  have e2:b=s.heap.objs.size:=by simpa using z
  have e3:=Bh qq
  rw[e2] at e3
  exact absurd e3 (Fk _)
end
section
variable{prog:Bq}{w:World}{A:Cr}{E:Value->Aj->Prop}{s:Aj}
theorem Tn{lo hi:Option Int}(ht:IsTup s.heap t items)(hs:s.heap.IsSliceOf sl vl vu .none)(pl:Yr vl lo)(pu:Yr vu hi)(hw:HT.sIx items.size 0 lo=0/\HT.sIx items.size items.size hi=items.size)(h:Q (.ref t) s):wpAny (model prog w) A (Se (.ref t) (.ref sl)) Q E s:=by
 obtain ⟨os,hos,hcs,hds⟩:=id hs
 have hTs:s.TypeIs (.ref sl) "slice" := ⟨os,hos,hcs⟩
 unfold Se
 try with_reducible refine Dd ?_
 first | refine Aa (Am ?_) | skip
 refine Aa (fK ht.typeIs (by decide) ?_)
 refine Aa (Ed (name:=Ds "__getitem__") ht.typeIs Ek
  (Ex Ek ht.typeIs entry_tuple_getitem ?_ (args_tuple_getitem _ _)))
 show wpAny _ _ (Wn (.ref t) >>= _) _ _ s
 refine Aa (tupleItemsOf_ ht ?_)
 refine Aa (La hTs ?_)
 rw[if_pos (by decide)]
 refine Aa (HT.sliceApplied_gen hs pl pu ?_)
 rw[hw.1,hw.2]
 have hyes:(((0:Nat):Int) == 0 && (1:Int) == 1 && (items.size - 0) == items.size)=true:=by simp
 show wpAny _ _ (if (((0:Nat):Int) == 0 && (1:Int) == 1 && (items.size - 0) == items.size)=true then _ else _) _ _ s
 rw[if_pos hyes]
 have hex:∀{R:Bool->Aj->Prop},R true s->wpAny (model prog w) A.in1 (Wo (.ref t)) R E s:=λ{R} hR=>by
  unfold Wo
  refine Aa (La ht.typeIs (Am ?_))
  rw[beq_self_eq_true]
  exact hR
 refine Aa (hex ?_)
 rw[if_pos rfl]
 exact Aa (Kw (Am ⟨_,rfl,Am h⟩))
end
mutual
def Ec:Ac->Ac->Bool
 | .none,.none=>true
 | .bool a,.bool b=>a == b
 | .bool a,.int b=>(if a then 1 else 0) == b
 | .int a,.bool b=>a == (if b then 1 else 0)
 | .int a,.int b=>a == b
 | .str a,.str b=>a == b
 | .list xs,.list ys=>Og xs ys
 | .tuple xs,.tuple ys=>Og xs ys
 | _,_=>false
def Og:List Ac->List Ac->Bool
 | [],[]=>true
 | x::xs,y::ys=>Ec x y && Og xs ys
 | _,_=>false
end
theorem Oa:∀ds es:List Ac,(((Di (min ds.length es.length)).all λj=>Ec (ds.getD j .none) (es.getD j .none)) && ds.length == es.length)=Og ds es
 | [],[]=>by simp [Og]
 | [],_::_=>by simp [Og]
 | _::_,[]=>by simp [Og]
 | d::ds,e::es=>by
  have ih:=Oa ds es
  rw[Og,<- ih]
  have h1:min (d::ds).length (e::es).length=min ds.length es.length+1:=by simp only[Bs]; omega
  rw[h1,List.range_succ_eq_map,Wm,Om]
  have h2:((d::ds).length == (e::es).length)=(ds.length == es.length):=by
   rw[Tj]; simp
  rw[h2,Bool.and_assoc]
  rfl
section
variable{X:Cx}{pins:List (Addr×Obj)}{σ:L2.St}{H:Hp}{s:Aj}{K:PySem.W.Frag}
mutual
theorem RdV.eqD_self:∀{v:V} {d:Ac},RdV K H v d->Ec d d=true
 | _,_,.non=>by simp [Ec]
 | _,_,.bl b=>by simp [Ec]
 | _,_,.int i=>by simp [Ec]
 | _,_,.str x=>by simp [Ec]
 | _,_,.lst _ h=>by rw[Ec]; exact RdVs.eqDs_self h
 | _,_,.tup _ h=>by rw[Ec]; exact RdVs.eqDs_self h
theorem RdVs.eqDs_self:∀{vs:List V} {ds:List Ac},RdVs K H vs ds->Og ds ds=true
 | _,_,.nil=>by simp [Og]
 | _,_,.cons h t=>by rw[Og,RdV.eqD_self h,RdVs.eqDs_self t]; rfl
end
theorem lN(I:Inv X pins σ H s)(h1:Mc X.K H a xs)(h2:Up X.K H a ys):False:=by
 obtain ⟨us,_,p1,_⟩:=I.list h1
 obtain ⟨vs,_,p2,_⟩:=I.tuple h2
 exact SeqAt.ne_of_list_tuple p1.isList p2 rfl
mutual
theorem RdV.det(I:Inv X pins σ H s):∀{v:V} {d e:Ac},RdV X.K H v d->RdV X.K H v e->d=e
 | _,_,_,.non,h=>by cases h; rfl
 | _,_,_,.bl b,h=>by cases h; rfl
 | _,_,_,.int i,h=>by cases h; rfl
 | _,_,_,.str x,h=>by cases h; rfl
 | _,_,_,.lst q r,h=>by
  cases h with
  | lst q' r' =>
   have e:=I.list_inj q q'
   subst e
   rw[RdVs.det I r r']
  | tup q' r'=>exact (lN I q q').elim
 | _,_,_,.tup q r,h=>by
  cases h with
  | lst q' r'=>exact (lN I q' q).elim
  | tup q' r' =>
   have e:=I.tuple_inj q q'
   subst e
   rw[RdVs.det I r r']
theorem RdVs.det(I:Inv X pins σ H s):∀{vs:List V} {ds es:List Ac},RdVs X.K H vs ds->RdVs X.K H vs es->ds=es
 | _,_,_,.nil,h=>by cases h; rfl
 | _,_,_,.cons r t,h=>by
  cases h with
  | cons r' t'=>rw[RdV.det I r r',RdVs.det I t t']
end
theorem RdVs.length:∀{vs:List V} {ds:List Ac},RdVs K H vs ds->vs.length=ds.length
 | _,_,.nil=>rfl
 | _,_,.cons _ t=>by rw[Bs,Bs,RdVs.length t]
theorem Xj{A:Cr}(h:A.units+(n+1)<cLine):A.in1.units+n<cLine:=by
 have:=Xd A
 omega
theorem lR{us vs:List Value}(p1:PlainL s.heap a us.toArray)(p2:PlainL s.heap b vs.toArray)(l1:us.length=ds.length)(l2:vs.length=es.length)(hu:A.units<cLine)(he:∀j (h1:j<us.length) (h2:j<vs.length),Mo A.in1 s us[j] vs[j] (Ec (ds.getD j .none) (es.getD j .none))):SeqAt.RcAt A s (.ref a) (.ref b) (Og ds es):=by
 rw[<- Oa]
 by_cases hl:ds.length=es.length
 ·have hs:us.toArray.size=vs.toArray.size:=by rw[Ar,Ar,l1,l2,hl]
  have h:=SeqAt.RcAt.lists (A:=A) (e:=λj=>Ec (ds.getD j .none) (es.getD j .none)) p1.isList p2.isList hs hu (λj h1 h2=>by simpa using he j (by simpa using h1) (by simpa using h2))
  rw[Ar,l1] at h
  rw[hl,Nat.min_self,beq_self_eq_true,Bool.and_true,<- hl]
  exact h
 ·have hs:(us.toArray.size != vs.toArray.size)=true:=by rw[Ar,Ar,l1,l2]; simpa using hl
  have h:=SeqAt.RcAt.lists_lengths (A:=A) p1.isList p2.isList hs hu
  have e0:(ds.length == es.length)=false:=by simpa using hl
  rw[e0,Bool.and_false]
  exact h
theorem dS{us vs:List Value}(p1:IsTup s.heap a us.toArray)(p2:IsTup s.heap b vs.toArray)(l1:us.length=ds.length)(l2:vs.length=es.length)(hu:A.units<cLine)(he:∀j (h1:j<us.length) (h2:j<vs.length),Mo A.in1 s us[j] vs[j] (Ec (ds.getD j .none) (es.getD j .none))):SeqAt.RcAt A s (.ref a) (.ref b) (Og ds es):=by
 rw[<- Oa]
 have h:=SeqAt.RcAt.tuples (A:=A) (e:=λj=>Ec (ds.getD j .none) (es.getD j .none)) (show s.heap.IsTuple a us.toArray from p1) (show s.heap.IsTuple b vs.toArray from p2) hu (λj h1 h2=>by simpa using he j (by simpa using h1) (by simpa using h2))
 rw[Ar,Ar,l1,l2] at h
 exact h
mutual
theorem xV(I:Inv X pins σ H s):∀{A:Cr} {x y:V} {d e:Ac} {u v:Value},RdV X.K H x d->RdV X.K H y e->RelV x u->RelV y v->A.units+d.depth<cLine->Mo A s u v (Ec d e)
 | A,_,_,_,_,_,_,.non,h,ru,rv,hu=>by
  cases ru
  have hu':A.units<cLine:=by omega
  cases h with
  | non=>cases rv; rw[Ec]; exact SeqAt.EqAt.same _
  | bl b=>cases rv; rw[Ec]; exact SeqAt.EqAt.none_bool b; all_goals simp
  | int b=>obtain ⟨t,rfl⟩:=rv; rw[Ec]; exact SeqAt.EqAt.none_int b t; all_goals simp
  | str b=>obtain ⟨t,rfl⟩:=rv; rw[Ec]; exact SeqAt.EqAt.none_str b t; all_goals simp
  | lst q r=>cases rv; obtain ⟨us,_,p,_⟩:=I.list q; rw[Ec]; exact SeqAt.EqAt.none_list p.isList hu'; all_goals simp
  | tup q r=>cases rv; obtain ⟨us,_,p,_⟩:=I.tuple q; rw[Ec]; exact SeqAt.EqAt.none_tuple p hu'; all_goals simp
 | A,_,_,_,_,_,_,.bl a,h,ru,rv,hu=>by
  cases ru
  have hu':A.units<cLine:=by omega
  cases h with
  | non=>cases rv; rw[Ec]; exact SeqAt.EqAt.bool_none a; all_goals simp
  | bl b=>cases rv; rw[Ec]; exact SeqAt.EqAt.bool_bool a b
  | int b=>obtain ⟨t,rfl⟩:=rv; rw[Ec]; exact SeqAt.EqAt.bool_int a b t
  | str b=>obtain ⟨t,rfl⟩:=rv; rw[Ec]; exact SeqAt.EqAt.bool_str a b t; all_goals simp
  | lst q r=>cases rv; obtain ⟨us,_,p,_⟩:=I.list q; rw[Ec]; exact SeqAt.EqAt.bool_list a p.isList hu'; all_goals simp
  | tup q r=>cases rv; obtain ⟨us,_,p,_⟩:=I.tuple q; rw[Ec]; exact SeqAt.EqAt.bool_tuple a p hu'; all_goals simp
 | A,_,_,_,_,_,_,.int a,h,ru,rv,hu=>by
  obtain ⟨t',rfl⟩:=ru
  have hu':A.units<cLine:=by omega
  cases h with
  | non=>cases rv; rw[Ec]; exact SeqAt.EqAt.int_none a t'; all_goals simp
  | bl b=>cases rv; rw[Ec]; exact SeqAt.EqAt.int_bool a t' b
  | int b=>obtain ⟨t,rfl⟩:=rv; rw[Ec]; exact SeqAt.EqAt.int_int a t' b t
  | str b=>obtain ⟨t,rfl⟩:=rv; rw[Ec]; exact SeqAt.EqAt.int_str a t' b t; all_goals simp
  | lst q r=>cases rv; obtain ⟨us,_,p,_⟩:=I.list q; rw[Ec]; exact SeqAt.EqAt.int_list a t' p.isList hu'; all_goals simp
  | tup q r=>cases rv; obtain ⟨us,_,p,_⟩:=I.tuple q; rw[Ec]; exact SeqAt.EqAt.int_tuple a t' p hu'; all_goals simp
 | A,_,_,_,_,_,_,.str a,h,ru,rv,hu=>by
  obtain ⟨t',rfl⟩:=ru
  have hu':A.units<cLine:=by omega
  cases h with
  | non=>cases rv; rw[Ec]; exact SeqAt.EqAt.str_none a t'; all_goals simp
  | bl b=>cases rv; rw[Ec]; exact SeqAt.EqAt.str_bool a t' b; all_goals simp
  | int b=>obtain ⟨t,rfl⟩:=rv; rw[Ec]; exact SeqAt.EqAt.str_int a t' b t; all_goals simp
  | str b=>obtain ⟨t,rfl⟩:=rv; rw[Ec]; exact SeqAt.EqAt.str_str a t' b t
  | lst q r=>cases rv; obtain ⟨us,_,p,_⟩:=I.list q; rw[Ec]; exact SeqAt.EqAt.str_list a t' p.isList hu'; all_goals simp
  | tup q r=>cases rv; obtain ⟨us,_,p,_⟩:=I.tuple q; rw[Ec]; exact SeqAt.EqAt.str_tuple a t' p hu'; all_goals simp
 | A,_,_,_,_,_,_,@RdV.lst _ _ a xs ds q r,h,ru,rv,hu=>by
  cases ru
  have hu':A.units<cLine:=by omega
  obtain ⟨us,r1,p,_⟩:=I.list q
  cases h with
  | non=>cases rv; rw[Ec]; exact SeqAt.EqAt.list_none p.isList hu'; all_goals simp
  | bl b=>cases rv; rw[Ec]; exact SeqAt.EqAt.list_bool b p.isList hu'; all_goals simp
  | int b=>obtain ⟨t,rfl⟩:=rv; rw[Ec]; exact SeqAt.EqAt.list_int b t p.isList hu'; all_goals simp
  | str b=>obtain ⟨t,rfl⟩:=rv; rw[Ec]; exact SeqAt.EqAt.list_str b t p.isList hu'; all_goals simp
  | @lst b ys es q2 rr2 =>
   cases rv
   obtain ⟨vs,r2,p2,_⟩:=I.list q2
   rw[Ec]
   by_cases hab:a=b
   ·subst hab
    have e:=I.list_inj q q2
    subst e
    rw[<- RdVs.det I r rr2,RdVs.eqDs_self r]
    exact SeqAt.EqAt.same _
   ·refine SeqAt.EqAt.of_refs hab (lR p p2 (r1.length.symm.trans r.length) (r2.length.symm.trans rr2.length) hu' λj h1 h2=>?_)
    exact Qh I r rr2 r1 r2 (Xj (by simpa only [Cj] using hu)) j h1 h2
  | tup q2 rr2=>cases rv; obtain ⟨vs,_,p2,_⟩:=I.tuple q2; rw[Ec]; exact SeqAt.EqAt.list_tuple p.isList p2 hu'; all_goals simp
 | A,_,_,_,_,_,_,@RdV.tup _ _ a xs ds q r,h,ru,rv,hu=>by
  cases ru
  have hu':A.units<cLine:=by omega
  obtain ⟨us,r1,p,_⟩:=I.tuple q
  cases h with
  | non=>cases rv; rw[Ec]; exact SeqAt.EqAt.tuple_none p hu'; all_goals simp
  | bl b=>cases rv; rw[Ec]; exact SeqAt.EqAt.tuple_bool b p hu'; all_goals simp
  | int b=>obtain ⟨t,rfl⟩:=rv; rw[Ec]; exact SeqAt.EqAt.tuple_int b t p hu'; all_goals simp
  | str b=>obtain ⟨t,rfl⟩:=rv; rw[Ec]; exact SeqAt.EqAt.tuple_str b t p hu'; all_goals simp
  | lst q2 rr2=>cases rv; obtain ⟨vs,_,p2,_⟩:=I.list q2; rw[Ec]; exact SeqAt.EqAt.tuple_list p p2.isList hu'; all_goals simp
  | @tup b ys es q2 rr2 =>
   cases rv
   obtain ⟨vs,r2,p2,_⟩:=I.tuple q2
   rw[Ec]
   by_cases hab:a=b
   ·subst hab
    have e:=I.tuple_inj q q2
    subst e
    rw[<- RdVs.det I r rr2,RdVs.eqDs_self r]
    exact SeqAt.EqAt.same _
   ·refine SeqAt.EqAt.of_refs hab (dS p p2 (r1.length.symm.trans r.length) (r2.length.symm.trans rr2.length) hu' λj h1 h2=>?_)
    exact Qh I r rr2 r1 r2 (Xj (by simpa only [Cj] using hu)) j h1 h2
theorem Qh(I:Inv X pins σ H s):∀{A:Cr} {xs ys:List V} {ds es:List Ac} {us vs:List Value},RdVs X.K H xs ds->RdVs X.K H ys es->Ff xs us->Ff ys vs->A.units+Bm ds<cLine->∀j (h1:j<us.length) (h2:j<vs.length),Mo A s us[j] vs[j] (Ec (ds.getD j .none) (es.getD j .none))
 | _,_,_,_,_,_,_,.nil,_,r1,_,_=>λj h1 h2=>by cases r1; exact absurd h1 (Tu _)
 | A,_,_,_,_,_,_,@RdVs.cons _ _ x d xs ds r t,h,r1,r2,hu=>λj h1 h2=>by
  cases h with
  | nil=>cases r2; exact absurd h2 (Tu _)
  | cons r' t' =>
   cases r1 with
   | cons ra ta =>
    cases r2 with
    | cons rb tb =>
     have hm:A.units+d.depth<cLine/\A.units+Bm ds<cLine:=by
      simp only[Bm] at hu
      omega
     cases j with
     | zero=>simpa using xV I r r' ra rb hm.1
     | succ j=>simpa using Qh I t t' ta tb hm.2 j (by simpa using h1) (by simpa using h2)
end
end
section
variable{X:Cx}{pins:List (Addr×Obj)}{σ:L2.St}{H:Hp}{s:Aj}{K:PySem.W.Frag}
theorem uS{us vs:List Value}(p1:PlainL s.heap a us.toArray)(p2:PlainL s.heap b vs.toArray)(l1:us.length=ds.length)(l2:vs.length=es.length)(hu:A.units<cLine)(he:∀j (h1:j<us.length) (h2:j<vs.length),Mo A.in1 s us[j] vs[j] (Ec (ds.getD j .none) (es.getD j .none))):SeqAt.RcNeAt A s (.ref a) (.ref b) (!Og ds es):=by
 rw[<- Oa]
 by_cases hl:ds.length=es.length
 ·have hs:us.toArray.size=vs.toArray.size:=by rw[Ar,Ar,l1,l2,hl]
  have h:=SeqAt.RcNeAt.lists (A:=A) (e:=λj=>Ec (ds.getD j .none) (es.getD j .none)) p1.isList p2.isList hs hu (λj h1 h2=>by simpa using he j (by simpa using h1) (by simpa using h2))
  rw[Ar,l1] at h
  rw[hl,Nat.min_self,beq_self_eq_true,Bool.and_true,<- hl]
  exact h
 ·have hs:(us.toArray.size != vs.toArray.size)=true:=by rw[Ar,Ar,l1,l2]; simpa using hl
  have h:=SeqAt.RcNeAt.lists_lengths (A:=A) p1.isList p2.isList hs hu
  have e0:(ds.length == es.length)=false:=by simpa using hl
  rw[e0,Bool.and_false]
  exact h
theorem pL{us vs:List Value}(p1:IsTup s.heap a us.toArray)(p2:IsTup s.heap b vs.toArray)(l1:us.length=ds.length)(l2:vs.length=es.length)(hu:A.units<cLine)(he:∀j (h1:j<us.length) (h2:j<vs.length),Mo A.in1 s us[j] vs[j] (Ec (ds.getD j .none) (es.getD j .none))):SeqAt.RcNeAt A s (.ref a) (.ref b) (!Og ds es):=by
 rw[<- Oa]
 have h:=SeqAt.RcNeAt.tuples (A:=A) (e:=λj=>Ec (ds.getD j .none) (es.getD j .none)) (show s.heap.IsTuple a us.toArray from p1) (show s.heap.IsTuple b vs.toArray from p2) hu (λj h1 h2=>by simpa using he j (by simpa using h1) (by simpa using h2))
 rw[Ar,Ar,l1,l2] at h
 exact h
end
section
variable{X:Cx}
def AQ(K:PySem.W.Frag):R2:=λx y H Q=>∃d e,RdV K H x d/\RdV K H y e/\d.depth<=60/\Q (.bl (Ec d e)) H
def DW(K:PySem.W.Frag):R2:=λx y H Q=>∃d e,RdV K H x d/\RdV K H y e/\d.depth<=60/\Q (.bl (!Ec d e)) H
theorem yC(hu:X.A.units+64<cLine):Xp X (Kc .Eq) (AQ X.K):=by
 intro pins s σ H x y v u Q I rx ry h
 obtain ⟨d,e,h1,h2,hd,q⟩:=h
 have hu':X.A.units<cLine:=by omega
 cases h1 with
 | non =>
  cases rx
  cases h2 with
  | non=>cases ry; rw[Ec] at q; exact SeqAt.RcAt.none_none _ _ _ _ ⟨.bl _,H,I,rfl,q⟩
  | bl b=>cases ry; rw[Ec] at q; exact SeqAt.RcAt.none_bool b _ _ _ _ ⟨.bl _,H,I,rfl,q⟩; all_goals simp
  | int b=>obtain ⟨t,rfl⟩:=ry; rw[Ec] at q; exact SeqAt.RcAt.none_int b t _ _ _ _ ⟨.bl _,H,I,rfl,q⟩; all_goals simp
  | str b=>obtain ⟨t,rfl⟩:=ry; rw[Ec] at q; exact SeqAt.RcAt.none_str b t _ _ _ _ ⟨.bl _,H,I,rfl,q⟩; all_goals simp
  | @lst b ys es q2 rr2=>cases ry; obtain ⟨vs,r2,p2,_⟩:=I.list q2; rw[Ec] at q; exact SeqAt.RcAt.none_list p2.isList hu' _ _ _ _ ⟨.bl _,H,I,rfl,q⟩; all_goals simp
  | @tup b ys es q2 rr2=>cases ry; obtain ⟨vs,r2,p2,_⟩:=I.tuple q2; rw[Ec] at q; exact SeqAt.RcAt.none_tuple p2 hu' _ _ _ _ ⟨.bl _,H,I,rfl,q⟩; all_goals simp
 | bl a =>
  cases rx
  cases h2 with
  | non=>cases ry; rw[Ec] at q; exact SeqAt.RcAt.bool_none a _ _ _ _ ⟨.bl _,H,I,rfl,q⟩; all_goals simp
  | bl b=>cases ry; rw[Ec] at q; exact SeqAt.RcAt.bool_bool a b _ _ _ _ ⟨.bl _,H,I,rfl,q⟩
  | int b=>obtain ⟨t,rfl⟩:=ry; rw[Ec] at q; exact SeqAt.RcAt.bool_int a b t _ _ _ _ ⟨.bl _,H,I,rfl,q⟩
  | str b=>obtain ⟨t,rfl⟩:=ry; rw[Ec] at q; exact SeqAt.RcAt.bool_str a b t _ _ _ _ ⟨.bl _,H,I,rfl,q⟩; all_goals simp
  | @lst b ys es q2 rr2=>cases ry; obtain ⟨vs,r2,p2,_⟩:=I.list q2; rw[Ec] at q; exact SeqAt.RcAt.bool_list a p2.isList hu' _ _ _ _ ⟨.bl _,H,I,rfl,q⟩; all_goals simp
  | @tup b ys es q2 rr2=>cases ry; obtain ⟨vs,r2,p2,_⟩:=I.tuple q2; rw[Ec] at q; exact SeqAt.RcAt.bool_tuple a p2 hu' _ _ _ _ ⟨.bl _,H,I,rfl,q⟩; all_goals simp
 | int a =>
  obtain ⟨t',rfl⟩:=rx
  cases h2 with
  | non=>cases ry; rw[Ec] at q; exact SeqAt.RcAt.int_none a t' _ _ _ _ ⟨.bl _,H,I,rfl,q⟩; all_goals simp
  | bl b=>cases ry; rw[Ec] at q; exact SeqAt.RcAt.int_bool a t' b _ _ _ _ ⟨.bl _,H,I,rfl,q⟩
  | int b=>obtain ⟨t,rfl⟩:=ry; rw[Ec] at q; exact SeqAt.RcAt.int_int a t' b t _ _ _ _ ⟨.bl _,H,I,rfl,q⟩
  | str b=>obtain ⟨t,rfl⟩:=ry; rw[Ec] at q; exact SeqAt.RcAt.int_str a t' b t _ _ _ _ ⟨.bl _,H,I,rfl,q⟩; all_goals simp
  | @lst b ys es q2 rr2=>cases ry; obtain ⟨vs,r2,p2,_⟩:=I.list q2; rw[Ec] at q; exact SeqAt.RcAt.int_list a t' p2.isList hu' _ _ _ _ ⟨.bl _,H,I,rfl,q⟩; all_goals simp
  | @tup b ys es q2 rr2=>cases ry; obtain ⟨vs,r2,p2,_⟩:=I.tuple q2; rw[Ec] at q; exact SeqAt.RcAt.int_tuple a t' p2 hu' _ _ _ _ ⟨.bl _,H,I,rfl,q⟩; all_goals simp
 | str a =>
  obtain ⟨t',rfl⟩:=rx
  cases h2 with
  | non=>cases ry; rw[Ec] at q; exact SeqAt.RcAt.str_none a t' _ _ _ _ ⟨.bl _,H,I,rfl,q⟩; all_goals simp
  | bl b=>cases ry; rw[Ec] at q; exact SeqAt.RcAt.str_bool a t' b _ _ _ _ ⟨.bl _,H,I,rfl,q⟩; all_goals simp
  | int b=>obtain ⟨t,rfl⟩:=ry; rw[Ec] at q; exact SeqAt.RcAt.str_int a t' b t _ _ _ _ ⟨.bl _,H,I,rfl,q⟩; all_goals simp
  | str b=>obtain ⟨t,rfl⟩:=ry; rw[Ec] at q; exact SeqAt.RcAt.str_str a t' b t _ _ _ _ ⟨.bl _,H,I,rfl,q⟩
  | @lst b ys es q2 rr2=>cases ry; obtain ⟨vs,r2,p2,_⟩:=I.list q2; rw[Ec] at q; exact SeqAt.RcAt.str_list a t' p2.isList hu' _ _ _ _ ⟨.bl _,H,I,rfl,q⟩; all_goals simp
  | @tup b ys es q2 rr2=>cases ry; obtain ⟨vs,r2,p2,_⟩:=I.tuple q2; rw[Ec] at q; exact SeqAt.RcAt.str_tuple a t' p2 hu' _ _ _ _ ⟨.bl _,H,I,rfl,q⟩; all_goals simp
 | @lst a xs ds qa r =>
  cases rx
  obtain ⟨us,r1,p,_⟩:=I.list qa
  cases h2 with
  | non=>cases ry; rw[Ec] at q; exact SeqAt.RcAt.list_none p.isList hu' _ _ _ _ ⟨.bl _,H,I,rfl,q⟩; all_goals simp
  | bl b=>cases ry; rw[Ec] at q; exact SeqAt.RcAt.list_bool b p.isList hu' _ _ _ _ ⟨.bl _,H,I,rfl,q⟩; all_goals simp
  | int b=>obtain ⟨t,rfl⟩:=ry; rw[Ec] at q; exact SeqAt.RcAt.list_int b t p.isList hu' _ _ _ _ ⟨.bl _,H,I,rfl,q⟩; all_goals simp
  | str b=>obtain ⟨t,rfl⟩:=ry; rw[Ec] at q; exact SeqAt.RcAt.list_str b t p.isList hu' _ _ _ _ ⟨.bl _,H,I,rfl,q⟩; all_goals simp
  | @lst b ys es q2 rr2=>cases ry; obtain ⟨vs,r2,p2,_⟩:=I.list q2; rw[Ec] at q; exact lR p p2 (r1.length.symm.trans r.length) (r2.length.symm.trans rr2.length) hu' (λj h1 h2=>Qh I r rr2 r1 r2 (Xj (by simp only[Cj] at hd; omega)) j h1 h2) _ _ _ _ ⟨.bl _,H,I,rfl,q⟩
  | @tup b ys es q2 rr2=>cases ry; obtain ⟨vs,r2,p2,_⟩:=I.tuple q2; rw[Ec] at q; exact SeqAt.RcAt.list_tuple p.isList p2 hu' _ _ _ _ ⟨.bl _,H,I,rfl,q⟩; all_goals simp
 | @tup a xs ds qa r =>
  cases rx
  obtain ⟨us,r1,p,_⟩:=I.tuple qa
  cases h2 with
  | non=>cases ry; rw[Ec] at q; exact SeqAt.RcAt.tuple_none p hu' _ _ _ _ ⟨.bl _,H,I,rfl,q⟩; all_goals simp
  | bl b=>cases ry; rw[Ec] at q; exact SeqAt.RcAt.tuple_bool b p hu' _ _ _ _ ⟨.bl _,H,I,rfl,q⟩; all_goals simp
  | int b=>obtain ⟨t,rfl⟩:=ry; rw[Ec] at q; exact SeqAt.RcAt.tuple_int b t p hu' _ _ _ _ ⟨.bl _,H,I,rfl,q⟩; all_goals simp
  | str b=>obtain ⟨t,rfl⟩:=ry; rw[Ec] at q; exact SeqAt.RcAt.tuple_str b t p hu' _ _ _ _ ⟨.bl _,H,I,rfl,q⟩; all_goals simp
  | @lst b ys es q2 rr2=>cases ry; obtain ⟨vs,r2,p2,_⟩:=I.list q2; rw[Ec] at q; exact SeqAt.RcAt.tuple_list p p2.isList hu' _ _ _ _ ⟨.bl _,H,I,rfl,q⟩; all_goals simp
  | @tup b ys es q2 rr2=>cases ry; obtain ⟨vs,r2,p2,_⟩:=I.tuple q2; rw[Ec] at q; exact dS p p2 (r1.length.symm.trans r.length) (r2.length.symm.trans rr2.length) hu' (λj h1 h2=>Qh I r rr2 r1 r2 (Xj (by simp only[Cj] at hd; omega)) j h1 h2) _ _ _ _ ⟨.bl _,H,I,rfl,q⟩
theorem V6(hu:X.A.units+64<cLine):Xp X (Kc .NotEq) (DW X.K):=by
 intro pins s σ H x y v u Q I rx ry h
 obtain ⟨d,e,h1,h2,hd,q⟩:=h
 have hu':X.A.units<cLine:=by omega
 cases h1 with
 | non =>
  cases rx
  cases h2 with
  | non=>cases ry; rw[Ec] at q; exact SeqAt.RcNeAt.none_none _ _ _ _ ⟨.bl _,H,I,rfl,q⟩
  | bl b=>cases ry; rw[Ec] at q; exact SeqAt.RcNeAt.none_bool b _ _ _ _ ⟨.bl _,H,I,rfl,q⟩; all_goals simp
  | int b=>obtain ⟨t,rfl⟩:=ry; rw[Ec] at q; exact SeqAt.RcNeAt.none_int b t _ _ _ _ ⟨.bl _,H,I,rfl,q⟩; all_goals simp
  | str b=>obtain ⟨t,rfl⟩:=ry; rw[Ec] at q; exact SeqAt.RcNeAt.none_str b t _ _ _ _ ⟨.bl _,H,I,rfl,q⟩; all_goals simp
  | @lst b ys es q2 rr2=>cases ry; obtain ⟨vs,r2,p2,_⟩:=I.list q2; rw[Ec] at q; exact SeqAt.RcNeAt.none_list p2.isList hu' _ _ _ _ ⟨.bl _,H,I,rfl,q⟩; all_goals simp
  | @tup b ys es q2 rr2=>cases ry; obtain ⟨vs,r2,p2,_⟩:=I.tuple q2; rw[Ec] at q; exact SeqAt.RcNeAt.none_tuple p2 hu' _ _ _ _ ⟨.bl _,H,I,rfl,q⟩; all_goals simp
 | bl a =>
  cases rx
  cases h2 with
  | non=>cases ry; rw[Ec] at q; exact SeqAt.RcNeAt.bool_none a _ _ _ _ ⟨.bl _,H,I,rfl,q⟩; all_goals simp
  | bl b=>cases ry; rw[Ec] at q; exact SeqAt.RcNeAt.bool_bool a b _ _ _ _ ⟨.bl _,H,I,rfl,q⟩
  | int b=>obtain ⟨t,rfl⟩:=ry; rw[Ec] at q; exact SeqAt.RcNeAt.bool_int a b t _ _ _ _ ⟨.bl _,H,I,rfl,q⟩
  | str b=>obtain ⟨t,rfl⟩:=ry; rw[Ec] at q; exact SeqAt.RcNeAt.bool_str a b t _ _ _ _ ⟨.bl _,H,I,rfl,q⟩; all_goals simp
  | @lst b ys es q2 rr2=>cases ry; obtain ⟨vs,r2,p2,_⟩:=I.list q2; rw[Ec] at q; exact SeqAt.RcNeAt.bool_list a p2.isList hu' _ _ _ _ ⟨.bl _,H,I,rfl,q⟩; all_goals simp
  | @tup b ys es q2 rr2=>cases ry; obtain ⟨vs,r2,p2,_⟩:=I.tuple q2; rw[Ec] at q; exact SeqAt.RcNeAt.bool_tuple a p2 hu' _ _ _ _ ⟨.bl _,H,I,rfl,q⟩; all_goals simp
 | int a =>
  obtain ⟨t',rfl⟩:=rx
  cases h2 with
  | non=>cases ry; rw[Ec] at q; exact SeqAt.RcNeAt.int_none a t' _ _ _ _ ⟨.bl _,H,I,rfl,q⟩; all_goals simp
  | bl b=>cases ry; rw[Ec] at q; exact SeqAt.RcNeAt.int_bool a t' b _ _ _ _ ⟨.bl _,H,I,rfl,q⟩
  | int b=>obtain ⟨t,rfl⟩:=ry; rw[Ec] at q; exact SeqAt.RcNeAt.int_int a t' b t _ _ _ _ ⟨.bl _,H,I,rfl,q⟩
  | str b=>obtain ⟨t,rfl⟩:=ry; rw[Ec] at q; exact SeqAt.RcNeAt.int_str a t' b t _ _ _ _ ⟨.bl _,H,I,rfl,q⟩; all_goals simp
  | @lst b ys es q2 rr2=>cases ry; obtain ⟨vs,r2,p2,_⟩:=I.list q2; rw[Ec] at q; exact SeqAt.RcNeAt.int_list a t' p2.isList hu' _ _ _ _ ⟨.bl _,H,I,rfl,q⟩; all_goals simp
  | @tup b ys es q2 rr2=>cases ry; obtain ⟨vs,r2,p2,_⟩:=I.tuple q2; rw[Ec] at q; exact SeqAt.RcNeAt.int_tuple a t' p2 hu' _ _ _ _ ⟨.bl _,H,I,rfl,q⟩; all_goals simp
 | str a =>
  obtain ⟨t',rfl⟩:=rx
  cases h2 with
  | non=>cases ry; rw[Ec] at q; exact SeqAt.RcNeAt.str_none a t' _ _ _ _ ⟨.bl _,H,I,rfl,q⟩; all_goals simp
  | bl b=>cases ry; rw[Ec] at q; exact SeqAt.RcNeAt.str_bool a t' b _ _ _ _ ⟨.bl _,H,I,rfl,q⟩; all_goals simp
  | int b=>obtain ⟨t,rfl⟩:=ry; rw[Ec] at q; exact SeqAt.RcNeAt.str_int a t' b t _ _ _ _ ⟨.bl _,H,I,rfl,q⟩; all_goals simp
  | str b=>obtain ⟨t,rfl⟩:=ry; rw[Ec] at q; exact SeqAt.RcNeAt.str_str a t' b t _ _ _ _ ⟨.bl _,H,I,rfl,q⟩
  | @lst b ys es q2 rr2=>cases ry; obtain ⟨vs,r2,p2,_⟩:=I.list q2; rw[Ec] at q; exact SeqAt.RcNeAt.str_list a t' p2.isList hu' _ _ _ _ ⟨.bl _,H,I,rfl,q⟩; all_goals simp
  | @tup b ys es q2 rr2=>cases ry; obtain ⟨vs,r2,p2,_⟩:=I.tuple q2; rw[Ec] at q; exact SeqAt.RcNeAt.str_tuple a t' p2 hu' _ _ _ _ ⟨.bl _,H,I,rfl,q⟩; all_goals simp
 | @lst a xs ds qa r =>
  cases rx
  obtain ⟨us,r1,p,_⟩:=I.list qa
  cases h2 with
  | non=>cases ry; rw[Ec] at q; exact SeqAt.RcNeAt.list_none p.isList hu' _ _ _ _ ⟨.bl _,H,I,rfl,q⟩; all_goals simp
  | bl b=>cases ry; rw[Ec] at q; exact SeqAt.RcNeAt.list_bool b p.isList hu' _ _ _ _ ⟨.bl _,H,I,rfl,q⟩; all_goals simp
  | int b=>obtain ⟨t,rfl⟩:=ry; rw[Ec] at q; exact SeqAt.RcNeAt.list_int b t p.isList hu' _ _ _ _ ⟨.bl _,H,I,rfl,q⟩; all_goals simp
  | str b=>obtain ⟨t,rfl⟩:=ry; rw[Ec] at q; exact SeqAt.RcNeAt.list_str b t p.isList hu' _ _ _ _ ⟨.bl _,H,I,rfl,q⟩; all_goals simp
  | @lst b ys es q2 rr2=>cases ry; obtain ⟨vs,r2,p2,_⟩:=I.list q2; rw[Ec] at q; exact uS p p2 (r1.length.symm.trans r.length) (r2.length.symm.trans rr2.length) hu' (λj h1 h2=>Qh I r rr2 r1 r2 (Xj (by simp only[Cj] at hd; omega)) j h1 h2) _ _ _ _ ⟨.bl _,H,I,rfl,q⟩
  | @tup b ys es q2 rr2=>cases ry; obtain ⟨vs,r2,p2,_⟩:=I.tuple q2; rw[Ec] at q; exact SeqAt.RcNeAt.list_tuple p.isList p2 hu' _ _ _ _ ⟨.bl _,H,I,rfl,q⟩; all_goals simp
 | @tup a xs ds qa r =>
  cases rx
  obtain ⟨us,r1,p,_⟩:=I.tuple qa
  cases h2 with
  | non=>cases ry; rw[Ec] at q; exact SeqAt.RcNeAt.tuple_none p hu' _ _ _ _ ⟨.bl _,H,I,rfl,q⟩; all_goals simp
  | bl b=>cases ry; rw[Ec] at q; exact SeqAt.RcNeAt.tuple_bool b p hu' _ _ _ _ ⟨.bl _,H,I,rfl,q⟩; all_goals simp
  | int b=>obtain ⟨t,rfl⟩:=ry; rw[Ec] at q; exact SeqAt.RcNeAt.tuple_int b t p hu' _ _ _ _ ⟨.bl _,H,I,rfl,q⟩; all_goals simp
  | str b=>obtain ⟨t,rfl⟩:=ry; rw[Ec] at q; exact SeqAt.RcNeAt.tuple_str b t p hu' _ _ _ _ ⟨.bl _,H,I,rfl,q⟩; all_goals simp
  | @lst b ys es q2 rr2=>cases ry; obtain ⟨vs,r2,p2,_⟩:=I.list q2; rw[Ec] at q; exact SeqAt.RcNeAt.tuple_list p p2.isList hu' _ _ _ _ ⟨.bl _,H,I,rfl,q⟩; all_goals simp
  | @tup b ys es q2 rr2=>cases ry; obtain ⟨vs,r2,p2,_⟩:=I.tuple q2; rw[Ec] at q; exact pL p p2 (r1.length.symm.trans r.length) (r2.length.symm.trans rr2.length) hu' (λj h1 h2=>Qh I r rr2 r1 r2 (Xj (by simp only[Cj] at hd; omega)) j h1 h2) _ _ _ _ ⟨.bl _,H,I,rfl,q⟩
theorem o9(h:RelV z v)(h':RelV z' v):z=z':=by
 cases z <;> cases z' <;> simp only[L2.RelV] at h h' <;> first | rfl | (subst h; cases h'; rfl) | (subst h; cases h'; done) | (obtain ⟨t,rfl⟩:=h; obtain ⟨t',e⟩:=h'; cases e; rfl) | (obtain ⟨t,rfl⟩:=h; obtain ⟨t',e⟩:=h'; cases e; done) | (obtain ⟨t,rfl⟩:=h; cases h'; done) | (subst h; obtain ⟨t',e⟩:=h'; cases e)
open Classical in
noncomputable def Na(K:PySem.W.Frag)(H:Hp)(d:Ac)(v:Value):Bool:=if h:∃e z,RdV K H z e/\RelV z v then Ec h.choose d else false
theorem kR{pins:List (Addr×Obj)}{σ:L2.St}(I:Inv X pins σ H s)(h:RdV X.K H z e)(r:RelV z v):Na X.K H d v=Ec e d:=by
 unfold Na
 have hx:∃e z,RdV X.K H z e/\RelV z v:=⟨e,z,h,r⟩
 rw[dif_pos hx]
 obtain ⟨z',h',r'⟩:=hx.choose_spec
 have ez:=o9 r' r
 subst ez
 rw[RdV.det I h' h]
theorem Pu{σ:L2.St}(I:Inv X pins σ H s):∀{xs:List V} {ds:List Ac} {us:List Value},RdVs X.K H xs ds->Ff xs us->us.any (Na X.K H d)=ds.any λe=>Ec e d
 | _,_,_,.nil,r=>by cases r; rfl
 | _,_,_,.cons h t,r=>by
  cases r with
  | cons r1 r2=>rw[Jc,Jc,kR I h r1,Pu I t r2]
theorem Pw{pins:List (Addr×Obj)}{σ:L2.St}(I:Inv X pins σ H s)(hx:RdV X.K H x d)(rx:RelV x u):∀{xs:List V} {ds:List Ac} {us:List Value},RdVs X.K H xs ds->Ff xs us->A.units+Bm ds<cLine->∀v∈us,Mo A s v u (Na X.K H d v)
 | _,_,_,.nil,r,_=>λv hv=>by cases r; cases hv
 | _,_,_,@RdVs.cons _ _ y e ys es h t,r,hu=>λv hv=>by
  have hm:A.units+e.depth<cLine/\A.units+Bm es<cLine:=by
   simp only[Bm] at hu
   omega
  cases r with
  | cons r1 r2 =>
   rcases Ag.mp hv with rfl | hv
   ·rw[kR I h r1]; exact xV I h hx r1 rx hm.1
   ·exact Pw I hx rx t r2 hm.2 v hv
def AD(K:PySem.W.Frag)(neg:Bool):R2:=λx y H Q=>∃p xs d ds,y=.ref p/\(Mc K H p xs\/Up K H p xs)/\RdV K H x d/\RdVs K H xs ds/\Bm ds<=60/\Q (.bl (if neg then !(ds.any λe=>Ec e d) else ds.any λe=>Ec e d)) H
theorem Z0(hu:X.A.units+64<cLine):Xp X (Kc .In) (AD X.K false):=by
 intro pins s σ H x y v u Q I rx ry h
 obtain ⟨p,xs,d,ds,rfl,hq,hx,hs,hd,q⟩:=h
 cases ry
 have hu1:X.A.in1.units+Bm ds<cLine:=by have:=Xd X.A; omega
 rcases hq with hq | hq
 ·obtain ⟨its,r,pl,hz⟩:=I.list hq
  refine SeqAt.in_listAt (Na X.K H d) pl.isList (λw hw=>Pw I hx rx hs r hu1 w (by simpa using hw)) ⟨.bl _,H,I,rfl,?_⟩
  rw[show its.toArray.any (Na X.K H d)=its.any (Na X.K H d) by simp,Pu I hs r]
  exact q
 ·obtain ⟨its,r,pl,hz⟩:=I.tuple hq
  refine SeqAt.in_tupleAt (Na X.K H d) pl (λw hw=>Pw I hx rx hs r hu1 w (by simpa using hw)) ⟨.bl _,H,I,rfl,?_⟩
  rw[show its.toArray.any (Na X.K H d)=its.any (Na X.K H d) by simp,Pu I hs r]
  exact q
theorem tO(hu:X.A.units+64<cLine):Xp X (Kc .NotIn) (AD X.K true):=by
 intro pins s σ H x y v u Q I rx ry h
 obtain ⟨p,xs,d,ds,rfl,hq,hx,hs,hd,q⟩:=h
 cases ry
 have hu1:X.A.in1.units+Bm ds<cLine:=by have:=Xd X.A; omega
 rcases hq with hq | hq
 ·obtain ⟨its,r,pl,hz⟩:=I.list hq
  refine SeqAt.notIn_listAt (Na X.K H d) pl.isList (λw hw=>Pw I hx rx hs r hu1 w (by simpa using hw)) ⟨.bl _,H,I,rfl,?_⟩
  rw[show its.toArray.any (Na X.K H d)=its.any (Na X.K H d) by simp,Pu I hs r]
  exact q
 ·obtain ⟨its,r,pl,hz⟩:=I.tuple hq
  refine SeqAt.notIn_tupleAt (Na X.K H d) pl (λw hw=>Pw I hx rx hs r hu1 w (by simpa using hw)) ⟨.bl _,H,I,rfl,?_⟩
  rw[show its.toArray.any (Na X.K H d)=its.any (Na X.K H d) by simp,Pu I hs r]
  exact q
end
def GB(K:PySem.W.Frag)(a:Addr):It :=
 ⟨λi H=>∃xs x,Mc K H a xs/\xs[i]? = some x,λi H x H'=>∃p y,x=.ref p/\H p=none/\H'=upd H p (.tup [.int i,y])/\∀xs,Mc K H a xs->xs[i]? = some y,λi H=>∃xs,Mc K H a xs/\xs.length<=i⟩
section
variable{X:Cx}{pins:List (Addr×Obj)}{σ:L2.St}{H:Hp}{s:Aj}{h':Heap}
theorem Ni{fp:List Addr}(I:Inv X pins σ H s)(k:∀b o,b∉fp->s.heap.get? b=some o->h'.get? b=some o)(hf:∀b∈fp,Ms X pins H b):Inv X pins σ H { s with heap:=h',toks:=t' }:=by
 have nit:∀b u,H b=some u->b∉fp:=λb u e z=>by rw[(hf b z).1] at e; cases e
 refine I.step (g':=s.gens) (d':=s.drawn) (ch:=fp) (λb hb=>?_) (λb o _ _ hc e _=>k b o hc e) (λb o _ _ hc e _=>⟨o.slots,k b o hc e⟩) (λ_ _ _ _ n=>n)
  (λb o hc e=>⟨o,k b o hc e⟩) (λ_ _ e=>e) (λ_ _ _ e=>e) (λb ps e=>⟨#[],by rw[e]; simp⟩) (λm hm=>?_) (λb u e=>?_) I.bare
 ·obtain ⟨_,f1,_,f3,f4,f5⟩:=hf b hb
  exact ⟨f3,f1,f4,f5⟩
 ·obtain ⟨o,es,ep,ho,r⟩:=hm
  exact ⟨o,es,ep,k _ o (λz=>(hf _ z).2.1 rfl) ho,r⟩
 ·refine (I.hok b u e).stay (λc v hc q=>k c v ?_ q) (λ_ q=>q) λ_ _ q=>q
  rcases hc with z | z
  ·rw[z]; exact nit b u e
  ·exact nit c _ z
end
theorem tW{K:PySem.W.Frag}(a e it:Addr)(ne:e≠it):Turn P w K (.Tuple elts k pos) (GB K a) [e,it] e (λi h=>(∃old,IsEnum h e it ((i:Nat):Int) old)/\h.IsListIter it a i) where
 mem:=Ab
 obj:=λi h st b hb=>by
  obtain ⟨⟨old,he⟩,o,e1,c,d⟩:=st
  rcases Ag.mp hb with z | z
  ·subst z
   exact ⟨_,he,λv z=>by cases z⟩
  ·rw[Af.mp z]
   exact ⟨o,e1,λv z=>by rw[d] at z; cases z⟩
 keep:=λi h h' st kp=>⟨let ⟨old,he⟩:=st.1; ⟨old,kp e Ab _ he⟩,st.2.at λo q=>kp it (Ae _ Ab) o q⟩
 item:=by
  intro X hP hw hK hc i pins s σ H E I hf st hg
  subst hP hw hK
  obtain ⟨xs,x,hq,hx⟩:=hg
  obtain ⟨its,rv,p,hz⟩:=I.list hq
  obtain ⟨u,hu,ru⟩:=rv.get hx
  obtain ⟨⟨old,he⟩,hit⟩:=st
  have el:e<s.heap.objs.size:=Bh he
  have il:it<s.heap.objs.size:=by obtain ⟨_,q,_⟩:=hit; exact Bh q
  refine wpAny_pyNext_enum_item he hit p.isList (x:=u) (by simpa using hu) ne λh1 ho hit1 hT hsz hk=>⟨_,rfl,wpAny_letOwnedTupleGo_enum ho λh2 he2 hs2=>?_⟩
  have hs2':Dn e h1 h2:=hs2
  -- the pair laid,then the iterators turned
  have I1:Inv X pins σ (upd H s.heap.objs.size (.tup [.int i,x])) { s with heap:=s.heap.push { cls:=.type "tuple",data:=.seq #[.int i s.toks,u] } } :=
   I.laid (t':=s.toks) (λb o q=>Ah _ q) (Ak _) ⟨by show 2<=Au; decide,[.int i s.toks,u],.cons ⟨_,rfl⟩ (.cons ru .nil),_,Bg _ rfl,rfl,0,rfl⟩
  have nT:∀b∈[e,it],b≠s.heap.objs.size:=λb hb=>by
   rcases Ag.mp hb with z | z
   ·rw[z]; exact Cd el
   ·rw[Af.mp z]; exact Cd il
  have fr:∀b∈[e,it],(upd H s.heap.objs.size (.tup [.int i,x])) b=none:=λb hb=>by rw[Cz (nT b hb)]; exact (hf b hb).1
  refine ⟨.ref s.heap.objs.size,_,Ni (fp:=[e,it]) (s:={ s with heap:=s.heap.push { cls:=.type "tuple",data:=.seq #[.int i s.toks,u] } }) (h':=h2) (t':=s.toks+1) I1 (λb o hb q=>?_) (λb hb=>⟨fr b hb,(hf b hb).2⟩),rfl,⟨_,x,rfl,I.hok.fresh (Ak _),rfl,λys hy=>by rw[I.list_inj hy hq]; exact hx⟩,⟨⟨u,?_⟩,?_⟩,fr⟩
  ·have nbe:b≠e:=λz=>hb (by rw[z]; exact Ab)
   have nbi:b≠it:=λz=>hb (by rw[z]; exact Ae _ Ab)
   refine (hs2'.2 b nbe).trans ?_
   by_cases hbT:b=s.heap.objs.size
   ·subst hbT
    have q':=(Bg s.heap (o:={ cls:=.type "tuple",data:=.seq #[.int i s.toks,u] }) rfl).symm.trans q
    rw[hT]
    exact q'
   ·refine hk b o nbe nbi ?_
    have q0:(s.heap.push { cls:=.type "tuple",data:=.seq #[.int i s.toks,u] }).get? b=some o:=q
    rcases Heap.get?_push_cases q0 with z | z
    ·exact absurd z.1 hbT
    ·exact z
  ·have : ((i+1:Nat):Int)=(i:Int)+1:=by omega
   rw[this]
   exact he2
  ·exact hit1.at λo q=>(hs2'.2 it (Lm ne)).trans q
 done:=by
  intro X hP hw hK hc i pins s σ H E I hf st hg
  subst hP hw hK
  obtain ⟨xs,hq,hx⟩:=hg
  obtain ⟨its,rv,p,hz⟩:=I.list hq
  obtain ⟨⟨old,he⟩,hit⟩:=st
  have hl:=rv.length
  exact wpAny_pyNext_enum_end (I.ok.hd hc) he hit p.isList (by simp; omega) λh1 eb=>⟨rfl,Ni (fp:=[e,it]) (t':=s.toks) I (λb o hb q=>eb b o (λz=>hb (by rw[z]; exact Ae _ Ab)) q) hf⟩
 self:=λ_ _ _ _ _ st h=>let ⟨_,he⟩:=st.1; wpAny_pyIter_enum he h
section
variable{X:Cx}
def BQ(K:PySem.W.Frag)(ta:TA):TI:=λσ H R=>ta σ H λvs H1=>∃a,vs=[.ref a]/\(∃xs,Mc K H1 a xs)/\R (GB K a) H1
theorem A4(hg:Gl X "enumerate")(hm:X.mg "enumerate" = none)(ha:PA X [a] ta)(hs:Bp [a] X.env=[(false,eval a X.env)]:=by rfl):PI X (.Tuple elts k tp) (.Call (.Name "enumerate" p) [a] [] pos) (BQ X.K ta):=by
 intro pins s σ H R I h
 refine Call_ (Nz I hg hm (u:=.type "enumerate") (by decide +kernel) (Ez (Gj (ha pos pins s σ H _ I h) λus s1 ⟨vs,H1,I1,r1,q1⟩=>?_) hs rfl))
 obtain ⟨l,e,⟨xs,hq⟩,q⟩:=q1
 subst e
 obtain ⟨u,rfl,ru⟩:=vals1 r1
 cases ru
 obtain ⟨its,rv,pl,hz⟩:=I1.list hq
 refine call_enumerate_list pl.isList λh2 he hit hsz hk=>wpAny_pyIter_enum he ?_
 have fr:∀b∈[s1.heap.objs.size+1,s1.heap.objs.size],Ms X pins H1 b:=λb hb=>by
  rcases Ag.mp hb with z | z
  ·rw[z]; exact I1.fpOk (Vd _) (I1.hok.fresh (Vd _))
  ·rw[Af.mp z]; exact I1.fpOk (Ak _) (I1.hok.fresh (Ak _))
 exact ⟨s1.heap.objs.size+1,[s1.heap.objs.size+1,s1.heap.objs.size],_,_,H1,rfl,I1.kept (t':=s1.toks) hk,tW l _ _ (Nat.succ_ne_self _),⟨⟨_,he⟩,hit⟩,fr,q⟩
end
section
variable{X:Cx}
def X3(K:PySem.W.Frag)(J:It)(js:List Nat)(tc:TT)(te:TE)(σ:L2.St)(H1:Hp)(Q:VK):Prop:=∀D,H1 D=none->∃W:Nat->Nat->Hp->Prop,(∃m,W 0 m (upd H1 D (.lst [])))/\∀i m H,W i m H ->
 (J.stop i H/\Q (.ref D) H)\/(J.go i H/\∀x H',J.yld i H x H'->∃(t:Addr) (w1 w2:V),x=.ref t/\Up K H' t [w1,w2]/\∃(N1:Hp->Prop) (N2:VK),(∀H2,N1 H2->∃m',m'<m/\W (i+1) m' H2) /\
  (∀y H3,N2 y H3->∃acc,H3 D=some (.lst acc)/\acc.length<Au/\∃m',m'<m/\W (i+1) m' (upd H3 D (.lst (acc++[y])))) /\
  tc (some w1::some w2::Gq σ js) H' λc H2=>if c=true then te (some w1::some w2::Gq σ js) H2 N2 else N1 H2)
def zV(K:PySem.W.Frag)(wi:TI)(js:List Nat)(tc:TT)(te:TE):TE:=λσ H Q=>wi σ H λJ H1=>X3 K J js tc te σ H1 Q
theorem xA(C:CompScope X scope cl x ys js)(own2:o5 scope x2)(nd2:(x::x2::ys).Nodup)(hc:X.calm=true)(hi:PI X (.Tuple [.Name x px,.Name x2 px2] kt pt) iter wi)(ht:∀fp s H,nC (El X scope cl (x::x2::ys) fp s H) ifs tc)(he:∀fp s H,PE (El X scope cl (x::x2::ys) fp s H) elt te)(hs:∀x,Ee iter X.env x=pure x:=by intro _; rfl):PE X (.ListComp elt [⟨.Tuple [.Name x px,.Name x2 px2] kt pt,iter,ifs,0⟩] scope pos) (zV X.K wi js tc te):=by
 intro pins s σ H Q I h
 rw[eval_ListComp]
 refine Te (use:=none) rfl hs C.clos C.kind C.locs (Gj (hi pins s σ H _ I h) λv s1 h1=>Gj h1 λitv s2 h2=>?_)
 obtain ⟨it,fp,tn,J,H2,e,I2,T,st2,f2,q2⟩:=h2
 subst e
 have fD:H2 s2.heap.objs.size=none:=I2.hok.fresh (Ak _)
 obtain ⟨W,⟨m0,w0⟩,turn⟩:=q2 s2.heap.objs.size fD
 refine Dv ?_
 have I3:Inv X pins σ (upd H2 s2.heap.objs.size (.lst [])) { s2 with heap:=s2.heap.push { cls:=.type "list",dict:=none,data:=.seq ([]:List Value).toArray } } :=
  I2.laid (t':=s2.toks) (λb u q=>Ah _ q) (Ak _) ⟨Dg _,[],0,.nil,Bg _ rfl⟩
 obtain ⟨f3,st3',o3'⟩:=aB I2 T st2 f2 I3
 generalize hS3:({ s2 with heap:=s2.heap.push { cls:=.type "list",dict:=none,data:=.seq ([]:List Value).toArray } }:Aj)=s3 at I3
 have st3:tn 0 s3.heap:=by rw[<- hS3]; exact st3'
 have o3:∀b∈fp,∃o,s3.heap.get? b=some o:=by rw[<- hS3]; exact o3'
 show wpAny _ _ (Qy scope X.env.globals cl [] X.env.qual none .none (some X.env)) _ _ _
 refine Wy C λh4 hns4 keep4 new4=>?_
 have I4:∀tk,Inv (El X scope cl (x::x2::ys) fp s3 (upd H2 s2.heap.objs.size (.lst []))) [] (none::none::Gq σ js) (upd H2 s2.heap.objs.size (.lst [])) { s3 with heap:=h4,toks:=tk }:=λtk=>Ui (pre:=[x,x2]) C I3 f3 o3 hns4 keep4 new4
 have st4:tn 0 h4:=T.keep 0 _ _ st3 λb hb o q=>keep4 b o q
 generalize hX':El X scope cl (x::x2::ys) fp s3 (upd H2 s2.heap.objs.size (.lst []))=X' at I4
 obtain ⟨eP,eW,eK,eA,eC⟩:=aO hc hX'
 have stat:∀{H':Hp},(∀b∈fp,H' b=none)->∀b∈fp,Ms X' [] H' b:=λ{H'} hn=>Wt hX' (I4 0) hn
 have loop:∀s5:Aj,s5={ s3 with heap:=h4,toks:=s3.toks+([]:List (Str×Value)).length } ->
   Oj (model X.prog X.w) X.A (.compLoop (.ListComp elt [⟨.Tuple [.Name x px,.Name x2 px2] kt pt,iter,ifs,0⟩] scope pos) 0 (.ref it) (.ref s2.heap.objs.size) (compEnvC scope (Ep (s3.heap.objs.size+1) scope.names cl) s3.heap.objs.size X.env))
    (compPost (model X.prog X.w) X.A X.xe none (EP X pins σ Q) (.ref s2.heap.objs.size) s3.heap.objs.size) s5:=by
  rintro s5 rfl
  refine Uo (λn s'=>∃i o o2 H',Inv X' [] (o::o2::Gq σ js) H' s'/\tn i s'.heap/\(∀b∈fp,H' b=none)/\W i n H') ?_ m0
   ⟨0,none,none,_,I4 _,st4,λb hb=>(f3 b hb).1,w0⟩
  (intro n s6 q_; obtain ⟨i,o,o2,H6,I6,st6,fr6,w6⟩ := q_)
  rcases turn i n H6 w6 with ⟨stop,qn⟩ | ⟨go,step⟩
  ·have hd:=T.done X' eP eW eK eC i [] s6 _ H6 (λ_ _=>False) I6 (stat fr6) st6 stop
   rw[eA] at hd
   refine Gj hd λr s7 q0_ => ?_
   obtain ⟨hr,I7⟩ := q0_
   subst hr
   obtain ⟨m7,hn7,fin7⟩:=bY hX' I3 f3 I7
   exact ⟨m7,hn7,λh8 hs8=>⟨.ref s2.heap.objs.size,H6,fin7 h8 hs8,rfl,qn⟩⟩
  ·have hit:=T.item X' eP eW eK eC i [] s6 _ H6 (λ_ _=>False) I6 (stat fr6) st6 go
   rw[eA] at hit
   refine Gj hit λr s7 q0_ => ?_
   obtain ⟨u,hr,h7⟩ := q0_
   subst hr
   refine Gj h7 λ_ s8 q0_ => ?_
   obtain ⟨y,H8,I8,r8,y8,st8,fr8⟩ := q0_
   have I8':=I8.pinned (stat fr8) (T.obj _ _ st8)
   obtain ⟨tp,w1,w2,ey,hsq,N1,N2,hN1,hN2,hst⟩:=step y H8 y8
   have again:∀{H9:Hp} {s9:Aj} {m':Nat},Inv X' ([]++Uh fp s8.heap) (some w1::some w2::Gq σ js) H9 s9->m'<n->W (i+1) m' H9->∃m,m<n/\∃i o o2 H',Inv X' [] (o::o2::Gq σ js) H' s9/\tn i s9.heap/\(∀b∈fp,H' b=none)/\W i m H':=λ{H9 s9 m'} I9 hm w9=>by
    refine ⟨m',hm,i+1,some w1,some w2,H9,I9.unpinned,T.keep _ _ _ st8 λb hb o e=>(I9.pin (b,o) (Al _ (Al _ (Jg hb e)))).1,λb hb=>?_,w9⟩
    obtain ⟨o,e,_⟩:=T.obj _ _ st8 b hb
    exact (I9.pin (b,o) (Al _ (Al _ (Jg hb e)))).2.1
   subst hX'
   have g1:PG (El X scope cl (x::x2::ys) fp s3 (upd H2 s2.heap.objs.size (.lst []))) (.Tuple [.Name x px,.Name x2 px2] kt pt) (CW X.K 2 (xT (Yb 0) (xT (Yb 1) CG))) :=
    zH (X:=El X scope cl (x::x2::ys) fp s3 (upd H2 s2.heap.objs.size (.lst []))) hc (bQ (Ow (i:=0) (x:=x) nd2 rfl (Zn C.own) (iU C.own)) (bQ (Ow (i:=1) (x:=x2) nd2 rfl (Zn own2) (iU own2)) sF))
   refine Gj (g1 _ s8 _ H8 y u (λσ' H'=>σ'=some w1::some w2::Gq σ js/\H'=H8) I8' r8 ⟨tp,[w1,w2],ey,hsq,rfl,_,_,rfl,_,_,rfl,rfl,rfl,rfl⟩) λ_ s9 q0_ => ?_
   obtain ⟨σ9,H9,I9,e9,e9'⟩ := q0_
   subst e9 e9'
   refine Gj (ht fp s3 _ _ s9 _ _ _ I9 hst) λok s10 q0_ => ?_
   obtain ⟨H10,I10,q10⟩ := q0_
   cases ok with
   | false =>
    rw[if_neg Br] at q10 ⊢
    obtain ⟨m',hm,w10⟩:=hN1 _ q10
    exact again I10 hm w10
   | true =>
    rw[if_pos rfl] at q10 ⊢
    refine Gj (he fp s3 _ _ s10 _ _ _ I10 q10) λz s11 q0_ => ?_
    obtain ⟨vz,H11,I11,r11,q11⟩ := q0_
    obtain ⟨acc,ha,hz,m',hm,w11⟩:=hN2 _ _ q11
    refine Gj (Qa _ s11 _ H11 (.ref s2.heap.objs.size) [vz] (.ref s2.heap.objs.size) [z] (λ_ H'=>H'=upd H11 s2.heap.objs.size (.lst (acc++[vz]))) I11 rfl (.cons r11 .nil) ⟨_,acc,vz,rfl,rfl,ha,hz,rfl⟩) λ_ s12 q0_ => ?_
    obtain ⟨_,H12,I12,_,e12⟩ := q0_
    subst e12
    exact again I12 hm w11
 exact Va (loop _ rfl) (T.self X.A 0 _ _ _ st4 (loop _ rfl))
end
section
variable{X:Cx}
theorem rX{elt iter:Expr}{x y0:Str}{px py pos spos:Pos}{i0:Nat}{ifs:List Expr}{scope:Scope}(hN:X.N.Nodup)(hi0:X.N[i0]? = some y0)(hy0:X.env.scope.names.lookup y0=some .local)(C:CompScope X scope cl x ys js)(hc:X.calm=true)(hi:PI X (.Name x px) iter wi)(ht:∀fp s H,nC (El X scope cl (x::ys) fp s H) ifs tc)(he:∀fp s H,PE (El X scope cl (x::ys) fp s H) elt te)(hs:∀x,Ee iter X.env x=pure x:=by intro _; rfl)(hsw:Kb (.ListComp elt [⟨.Name x px,iter,ifs,0⟩] scope pos) (some (.Name y0 py)) spos.line X.env=pure true:=by rfl):PS X (.Assign [.Name y0 py] (.ListComp elt [⟨.Name x px,iter,ifs,0⟩] scope pos) spos) (F6 (mB wi js tc te) (Yb i0)):=by
 intro pins s σ H De I h
 have h:mB wi js tc te σ H λv H1=>De.nx (σ.set i0 (some v)) H1:=h
 rw[exec_Assign_Name_used _ _ _ _ hsw]
 refine Aa (wpAny_standAt (Aa ?_))
 show wpAny _ X.A (do let _ <- comprehension (.ListComp elt [⟨.Name x px,iter,ifs,0⟩] scope pos) scope X.env _ (newList []) false (eval iter X.env) (some (assign (.Name y0 py) X.env))) _ _ s
 refine Aa (Ft (Te (use:=some (assign (.Name y0 py) X.env)) (Q:=λ_ s'=>SP X pins De .next s') rfl hs C.clos C.kind C.locs (Gj (hi pins s σ H _ I h) λv s1 h1=>Gj h1 λitv s2 h2=>?_)) (λ_ s' hq=>Am (Am hq)) λ_ _ e=>e)
 obtain ⟨it,fp,tn,J,H2,e,I2,T,st2,f2,q2⟩:=h2
 subst e
 have fD:H2 s2.heap.objs.size=none:=I2.hok.fresh (Ak _)
 obtain ⟨W,⟨m0,w0⟩,turn⟩:=q2 s2.heap.objs.size fD
 refine Dv ?_
 have I3:Inv X pins σ (upd H2 s2.heap.objs.size (.lst [])) { s2 with heap:=s2.heap.push { cls:=.type "list",dict:=none,data:=.seq ([]:List Value).toArray } } :=
  I2.laid (t':=s2.toks) (λb u q=>Ah _ q) (Ak _) ⟨Dg _,[],0,.nil,Bg _ rfl⟩
 obtain ⟨f3,st3',o3'⟩:=aB I2 T st2 f2 I3
 generalize hS3:({ s2 with heap:=s2.heap.push { cls:=.type "list",dict:=none,data:=.seq ([]:List Value).toArray } }:Aj)=s3 at I3
 have st3:tn 0 s3.heap:=by rw[<- hS3]; exact st3'
 have o3:∀b∈fp,∃o,s3.heap.get? b=some o:=by rw[<- hS3]; exact o3'
 show wpAny _ _ (Qy scope X.env.globals cl [] X.env.qual none .none (some X.env)) _ _ _
 refine Wy C λh4 hns4 keep4 new4=>?_
 have I4:∀tk,Inv (El X scope cl (x::ys) fp s3 (upd H2 s2.heap.objs.size (.lst []))) [] (none::Gq σ js) (upd H2 s2.heap.objs.size (.lst [])) { s3 with heap:=h4,toks:=tk }:=λtk=>Ui (pre:=[x]) C I3 f3 o3 hns4 keep4 new4
 have st4:tn 0 h4:=T.keep 0 _ _ st3 λb hb o q=>keep4 b o q
 generalize hX':El X scope cl (x::ys) fp s3 (upd H2 s2.heap.objs.size (.lst []))=X' at I4
 obtain ⟨eP,eW,eK,eA,eC⟩:=aO hc hX'
 have stat:∀{H':Hp},(∀b∈fp,H' b=none)->∀b∈fp,Ms X' [] H' b:=λ{H'} hn=>Wt hX' (I4 0) hn
 have loop:∀s5:Aj,s5={ s3 with heap:=h4,toks:=s3.toks+([]:List (Str×Value)).length } ->
   Oj (model X.prog X.w) X.A (.compLoop (.ListComp elt [⟨.Name x px,iter,ifs,0⟩] scope pos) 0 (.ref it) (.ref s2.heap.objs.size) (compEnvC scope (Ep (s3.heap.objs.size+1) scope.names cl) s3.heap.objs.size X.env))
    (compPost (model X.prog X.w) X.A X.xe (some (assign (.Name y0 py) X.env)) (λ_ s'=>SP X pins De .next s') (.ref s2.heap.objs.size) s3.heap.objs.size) s5:=by
  rintro s5 rfl
  refine Uo (λn s'=>∃i o H',Inv X' [] (o::Gq σ js) H' s'/\tn i s'.heap/\(∀b∈fp,H' b=none)/\W i n H') ?_ m0
   ⟨0,none,_,I4 _,st4,λb hb=>(f3 b hb).1,w0⟩
  (intro n s6 q_; obtain ⟨i,o,H6,I6,st6,fr6,w6⟩ := q_)
  rcases turn i n H6 w6 with ⟨stop,qn⟩ | ⟨go,step⟩
  ·have hd:=T.done X' eP eW eK eC i [] s6 _ H6 (λ_ _=>False) I6 (stat fr6) st6 stop
   rw[eA] at hd
   refine Gj hd λr s7 q0_ => ?_
   obtain ⟨hr,I7⟩ := q0_
   subst hr
   obtain ⟨⟨m7,hn7'⟩,I7f,J7⟩:=sQ hX' I3 f3 I7
   have fC:Ms X pins H6 s3.heap.objs.size:=I3.fpOk (Ak _) I7f
   obtain ⟨oC,esC,epC,hoC,rC⟩:=id hn7'
   have J8:Inv X (pins++[(s3.heap.objs.size,oC)]) σ H6 s7:=J7.pins_of λp hp=>by
    rcases Ay.mp hp with z | z
    ·have q:=J7.pin p (Al _ z)
     exact q
    ·rw[Af.mp z]
     exact ⟨hoC,I7f,fC.2.1,fC.2.2.1,λv hv=>by rw[rC.1] at hv; cases hv⟩
   refine Gj (Ow (X:=X) (i:=i0) (x:=y0) (pos:=py) hN hi0 (.inl hy0) (.inr hy0) (pins++[(s3.heap.objs.size,oC)]) s7 σ H6 (.ref s2.heap.objs.size) (.ref s2.heap.objs.size) (λσ' H'=>σ'=σ.set i0 (some (.ref s2.heap.objs.size))/\H'=H6) J8 rfl ⟨rfl,rfl⟩) λ_ s9 q0_ => ?_
   obtain ⟨σ9,H9,I9,e9,e9'⟩ := q0_
   subst e9 e9'
   have hoC9:=(I9.pin (s3.heap.objs.size,oC) (Al _ (Al _ Ab))).1
   have I9':Inv X pins (σ.set i0 (some (.ref s2.heap.objs.size))) H9 s9:=I9.pins_of λp hp=>I9.pin p (Al _ (An _ hp))
   refine ⟨m7,hn7'.at λo e=>by rw[hoC] at e; cases e; exact hoC9,λh10 hs10=>?_⟩
   exact ⟨_,H9,Ni (t':=s9.toks) (fp:=[s3.heap.objs.size]) I9' (λb o hb e=>(hs10.2 b (λz=>hb (by rw[z]; exact Ab))).trans e) (λb hb=>by rw[Af.mp hb]; exact fC),qn⟩
  ·have hit:=T.item X' eP eW eK eC i [] s6 _ H6 (λ_ _=>False) I6 (stat fr6) st6 go
   rw[eA] at hit
   refine Gj hit λr s7 q0_ => ?_
   obtain ⟨u,hr,h7⟩ := q0_
   subst hr
   refine Gj h7 λ_ s8 q0_ => ?_
   obtain ⟨y,H8,I8,r8,y8,st8,fr8⟩ := q0_
   have I8':=I8.pinned (stat fr8) (T.obj _ _ st8)
   obtain ⟨N1,N2,hN1,hN2,hst⟩:=step y H8 y8
   have again:∀{H9:Hp} {s9:Aj} {m':Nat},Inv X' ([]++Uh fp s8.heap) (some y::Gq σ js) H9 s9->m'<n->W (i+1) m' H9->∃m,m<n/\∃i o H',Inv X' [] (o::Gq σ js) H' s9/\tn i s9.heap/\(∀b∈fp,H' b=none)/\W i m H':=λ{H9 s9 m'} I9 hm w9=>by
    refine ⟨m',hm,i+1,some y,H9,I9.unpinned,T.keep _ _ _ st8 λb hb o e=>(I9.pin (b,o) (Al _ (Al _ (Jg hb e)))).1,λb hb=>?_,w9⟩
    obtain ⟨o,e,_⟩:=T.obj _ _ st8 b hb
    exact (I9.pin (b,o) (Al _ (Al _ (Jg hb e)))).2.1
   subst hX'
   refine Gj (Ow (i:=0) (x:=x) (pos:=px) C.nd rfl (Zn C.own) (iU C.own) _ s8 _ H8 y u (λσ' H'=>σ'=some y::Gq σ js/\H'=H8) I8' r8 ⟨rfl,rfl⟩) λ_ s9 q0_ => ?_
   obtain ⟨σ9,H9,I9,e9,e9'⟩ := q0_
   subst e9 e9'
   refine Gj (ht fp s3 _ _ s9 _ _ _ I9 hst) λok s10 q0_ => ?_
   obtain ⟨H10,I10,q10⟩ := q0_
   cases ok with
   | false =>
    rw[if_neg Br] at q10 ⊢
    obtain ⟨m',hm,w10⟩:=hN1 _ q10
    exact again I10 hm w10
   | true =>
    rw[if_pos rfl] at q10 ⊢
    refine Gj (he fp s3 _ _ s10 _ _ _ I10 q10) λz s11 q0_ => ?_
    obtain ⟨vz,H11,I11,r11,q11⟩ := q0_
    obtain ⟨acc,ha,hz,m',hm,w11⟩:=hN2 _ _ q11
    refine Gj (Qa _ s11 _ H11 (.ref s2.heap.objs.size) [vz] (.ref s2.heap.objs.size) [z] (λ_ H'=>H'=upd H11 s2.heap.objs.size (.lst (acc++[vz]))) I11 rfl (.cons r11 .nil) ⟨_,acc,vz,rfl,rfl,ha,hz,rfl⟩) λ_ s12 q0_ => ?_
    obtain ⟨_,H12,I12,_,e12⟩ := q0_
    subst e12
    exact again I12 hm w11
 exact Va (loop _ rfl) (T.self X.A 0 _ _ _ st4 (loop _ rfl))
end
end Nd
namespace Nd
open PySem L2
end Nd
namespace Nd
open PySem PySem.Spec PyProof.Rows L2
end Nd
namespace Nd
open PySem L2
def HA(K:PySem.W.Frag):List V->Hp->VK->Prop:=λxs H Q=>∃x n t b,xs=[x,.ty n]/\TyOf K H x t/\PySem.W.kitOne K t (.type n)=some b/\Q (.bl b) H
theorem Ut:Ld X (.builtin "isinstance") (HA X.K):=jU
theorem T8:PySem.W.kitOne K (.type T) (.type T)=some true:=by
 unfold PySem.W.kitOne
 rw[if_pos (by simp)]
theorem compScope0(clos:closureFor scope X.env=pure [])(nocell:∀y∈scope.names,y.2≠.cell)(kind:scope.kind=.function)(locs:∀y∈scope.names,y.2=.local->scope.names.lookup y.1=some .local)(own:scope.names.lookup x=some .local)(has_:(scope.names.all λy=>!(y.2 == Dy) || (([]:List (Str×Addr)).lookup y.1).isSome)=true):CompScope X scope [] x [] [] :=
 ⟨clos,.inl nocell,kind,locs,.inl own,λ_ _ h=>by simp at h,has_,Bx.mpr ⟨Av,Dc⟩,rfl,λk y j e1 _=>by simp at e1⟩
theorem sz(h:n<=1000:=by first | decide | simp | (simp; omega)):n<=Au:=Pc (fJ h)
end Nd
namespace Nd
open PySem PySem.Spec PyProof.Rows L2
theorem X6{K:PySem.W.Frag}(h1:(Hu T == Hu n)=false)(h2:PySem.W.kitMeta n=true)(h3:(fastBuiltinMro T).map (λx=>x.contains (Hu n))=some b):PySem.W.kitOne K (.type T) (.type n)=some b:=by
 unfold PySem.W.kitOne PySem.W.kitCls
 rw[h1,if_neg (by decide)]
 dsimp only
 rw[if_pos h2]
 exact h3
theorem xX(xs:Array Value):((Di xs.size).filterMap λ(k:Nat)=>xs[((xs.size:Int) - 1+(k:Int) * (-1)).toNat]?).toArray=xs.toList.reverse.toArray:=by
 congr 1
 have h:∀n,n<=xs.size->((Di n).filterMap λ(k:Nat)=>xs[((xs.size:Int) - 1+(k:Int) * (-1)).toNat]?)=xs.toList.reverse.take n:=by
  intro n
  induction n with
  | zero=>intro _; simp
  | succ n ih =>
   intro hn
   rw[List.range_succ,List.filterMap_append,ih (by omega)]
   have e:((xs.size:Int) - 1+(n:Int) * (-1)).toNat=xs.size - 1 - n:=by omega
   have lt:n<xs.toList.reverse.length:=by rw[Hz,Az]; omega
   rw[Jt,Ba lt]
   congr 1
   simp only[Of,List.filterMap_nil,e]
   rw[iV (by omega),List.getElem_reverse]
   simp
 have:=h xs.size (Ak _)
 rw[this]
 rw[Es (by rw[Hz,Az]; exact Ak _)]
section
variable{X:Cx}
theorem vH(xs:Array Value):slicePick xs none none (some (-1))=xs.toList.reverse.toArray:=by
 rw[<- xX]
 unfold slicePick
 congr 1
 have e1:sliceRange (Jm none none (some (-1)) xs.size).1 (Jm none none (some (-1)) xs.size).2.1 (Jm none none (some (-1)) xs.size).2.2=(Di xs.size).map λ(k:Nat)=>((xs.size:Int) - 1+(k:Int) * (-1)).toNat:=by
  show sliceRange ((xs.size:Int) - 1) (-1) (-1)=_
  unfold sliceRange
  have c:(if (-1:Int) > 0 then (if (xs.size:Int) - 1 < -1 then (-1 - ((xs.size:Int) - 1) + -1 - 1) / -1 else 0) else (if (xs.size:Int) - 1 > -1 then ((xs.size:Int) - 1 - -1 - -1 - 1) / (- -1) else 0)).toNat=xs.size:=by
   rw[if_neg (by decide),show (- -1:Int)=1 from rfl,Int.ediv_one]
   split <;> omega
  dsimp only
  rw[c]
  refine Fp λk _=>?_
  congr 1
  omega
 rw[e1,Xw]
 rfl
theorem K3(he:PE X e te)(hk:PE X k tk)(htk:∀σ H Q,Q (.int (-1)) H->tk σ H Q):PE X (.Subscript e (.Slice none none (some k) p2) pos) (λσ H Q=>te σ H λx H1=>∃a xs,x=.ref a/\Mc X.K H1 a xs/\∀p,H1 p=none->Q (.ref p) (upd H1 p (.lst xs.reverse))):=by
 intro pins s σ H Q I h
 refine Subscript_ (Gj (he pins s σ H _ I h) λv s1 q0_ => ?_)
 obtain ⟨x,H1,I1,r1,a,xs,e1,hx,q⟩ := q0_
 subst e1
 cases r1
 refine wpAny_Slice ?_
 rw[evalPart_none]
 refine Am (Am ?_)
 rw[evalPart_some]
 refine Gj (hk pins s1 σ H1 (λy H2=>y=.int (-1)/\H2=H1) I1 (htk _ _ _ ⟨rfl,rfl⟩)) λvk s2 q0_ => ?_
 obtain ⟨y,H2,I2,r2,e2,e3⟩ := q0_
 subst e2
 subst e3
 obtain ⟨t,rfl⟩:=r2
 have I3:Inv X pins σ H2 { s2 with heap:=s2.heap.push { cls:=.type "slice",data:=.fields #[.none,.none,.int (-1) t] } }:=I2.kept (t':=s2.toks) λb ob q=>Ah _ q
 obtain ⟨its,r,ht,hz⟩:=I3.list hx
 have hlen:=r.length
 show wpAny (model X.prog X.w) X.A (cH e (.Slice none none (some k) p2) (.ref a) (.ref s2.heap.objs.size)) (EP X pins σ Q) X.xe { s2 with heap:=s2.heap.push { cls:=.type "slice",data:=.fields #[.none,.none,.int (-1) t] } }
 refine tail_any (ops:=[.ref a,.ref s2.heap.objs.size]) (T := "list") ht.isList.typeIs fN.lookup (vD ht.isList (Heap.IsSliceOf.new ..) .none .none (.int (-1) t) (by simp) ?_ (by rw[Ar] <;> omega)) (by with_unfolding_all rfl)
 rw[vH]
 exact ⟨.ref _,_,I3.laid (o:=.lst xs.reverse) (t':=s2.toks) (λb ob q=>Ah _ q) (Ak _) ⟨by rw[Hz]; exact hz,its.reverse,0,r.reverse,by
  have z:=Bg (s2.heap.push { cls:=.type "slice",data:=.fields #[.none,.none,.int (-1) t] }) (o:={ cls:=.type "list",data:=.seq its.toArray.toList.reverse.toArray }) rfl
  simpa using z⟩,rfl,q _ (I3.hok.fresh (Ak _))⟩
end
end Nd
namespace NdS
open PySem
def st(m i:Nat):Nat:=(i * 5+1) % m
def it(m:Nat):Nat->Nat->Nat
 | 0,i=>i
 | t+1,i=>it m t (st m i)
def HL(m:Nat):Nat->Nat->List Nat
 | 0,_=>[]
 | f+1,i=>i::HL m f (st m i)
def EG(m:Nat):Prop:=0<m/\it m m 0=0/\∀e,e<m->e∈HL m m 0
def lp(m:Nat):Nat->Nat->Nat->Nat×Nat
 | 0,i,p=>(i,p)
 | t+1,i,p=>lp m t ((i * 5+1+p / 32) % m) (p / 32)
abbrev GS(p:Array Nat):Prop:=p.toList.Pairwise (· < ·)
structure TabOk(n:Nat)(t:SetTable):Prop where
 good:EG (t.mask+1)
 dum:t.dummies=#[]
 plain:t.plain=true
 rise:GS t.place
 Pp:∀j∈t.place.toList,j<=t.mask
 size:t.place.size=n
structure Tab(n:Nat)(t:SetTable):Prop extends TabOk n t where
 room:n * 5<t.mask * 3
abbrev bt(w:World):Bool:=w.params.followText "set-order"
def CS:Int×Value->Int
 | (_,.int k _)=>k
 | _=>0
def ET(e:Int×Value):Prop:=∃k tk,e=(hashInt k,Uu k tk)
abbrev keys(es:Array (Int×Value)):List Int:=es.toList.map CS
abbrev Y2(es:Array (Int×Value))(ep:Nat)(t:SetTable):Obj:={ cls:=.type "set",dict:=none,data:=.set es ep t }
structure SetS(w:World)(h:Heap)(a:Addr)(es:Array (Int×Value))(ep:Nat)(t:SetTable):Prop where
 obj:h.get? a=some (Y2 es ep t)
 ent:∀e∈es.toList,ET e
 nd:(keys es).Nodup
 tab:Tab es.size t
 led:bt w=false->t.led=true
 few:es.size<64
def ins(k:Int)(l:List Int):List Int:=if k∈l then l else k::l
theorem fI(h:n<64):n<=Au:=by rw[Jn]; omega
theorem len_leI:∀{l1 l2:List Int},l1.Nodup->(∀e∈l1,e∈l2)->l1.length<=l2.length
 | [],_,_,_=>Dg _
 | a::l1,l2,nd,h=>by
  have nd':=Bx.mp nd
  have ha:=h a (Ab ..)
  have:=len_leI (l2:=l2.erase a) nd'.2 λe he=>(List.mem_erase_of_ne (show e≠a from λz=>nd'.1 (by rw[<- z]; exact he))).mpr (h e (Ae _ he))
  rw[mI ha] at this
  have p:0<l2.length:=pM ha
  rw[Bs]
  omega
end NdS
namespace NdS
open PySem PyProof.Rows
def arrOf(w:World)(a:Addr)(ep:Nat)(es:Array (Int×Value)):Array (Int×Value):=if bt w then pickOrder (w.params.setOrder a ep) es else es
end NdS
namespace Nd
open PySem PySem.Spec PyProof.Rows L2 NdS
def DD(w:World)(a:Addr)(ks:List Int)(h:Heap):Prop:=∃es ep t,SetS w h a es ep t/\∀x,x∈keys es↔x∈ks
abbrev FP(w:World)(a:Addr)(ks:List Int):HO:=.ext (DD w a ks)
end Nd
namespace Nd
open PySem L2
def Tz(d:Addr)(H H':Hp):Prop:=∀b o,b≠d->H b=some o->H' b=some o
theorem Tz.trans(a:Tz d H H1)(b:Tz d H1 H2):Tz d H H2:=λc o n h=>b c o n (a c o n h)
theorem Tz.upd:Tz d H (upd H d o):=λb o n h=>by rw[Cz n]; exact h
theorem fI(h:n<=1000):n<=Au:=Pc (fJ h)
theorem mC(h:n<=1000000):n<=Au:=by rw[Jn]; omega
theorem iR(a b:Int)(h:0<b):0<=a % b/\a % b<b:=⟨Int.emod_nonneg _ (by omega),Int.emod_lt_of_pos _ h⟩
def Lk(h:Int)(ns:List Int):Prop:=ns.Pairwise (· < ·)/\∀x∈ns,0<=x/\x<h
theorem Lk.nil(h:Int):Lk h []:=⟨Ko,λx hx=>by cases hx⟩
theorem Lk.more(r:Lk h ns)(h0:0<=h):Lk (h+1) (ns++[h]) :=
 ⟨Ca.mpr ⟨r.1,Gg _ _,λa ha b hb=>by rw[Af.mp hb]; exact (r.2 a ha).2⟩,λx hx=>by
  rcases Ay.mp hx with z | z
  ·have:=r.2 x z; omega
  ·have:=Af.mp z; omega⟩
theorem Lk.up(r:Lk h ns)(l:h<=h'):Lk h' ns:=⟨r.1,λx hx=>by have:=r.2 x hx; omega⟩
def bU(H:Hp)(d:Addr)(c k:Int)(f:Bool):Prop:=H d=some (.lst [.int c,.int k,.bl f])
def p8:Sp:=λvs H Q _=>∃(d:Addr) (c k:Int) (f:Bool),vs=[.ref d]/\bU H d c k f/\0<=k/\k<=1000000/\∀(r c':Int) (H':Hp),bU H' d c' (k+1) f->Tz d H H'->Q (.int r) H'
def Ck(ns:List Int):Ac:=.tuple (ns.map Ai)
theorem pJ(ns:List Int):(Ck ns).depth<=1:=by
 have : (Ck ns).depth<=Bm (ns.map Ai)+1:=by simp [Ck,Cj]
 rw[nH] at this
 exact this
theorem B4(TD:List Ac):Ec (.list TD) (.list [])=TD.isEmpty:=by cases TD <;> simp [Ec,Og]
def order{α:Type}(a b:α)(l:List α):Option Bool->List α
 | none=>l
 | some true=>[a,b]
 | some false=>[b,a]
structure TD(K:PySem.W.Frag)(H:Hp)(x:V)(d:Ac)(n m:Nat):Prop where
 rd:RdV K H x d
 fits:Nj 22 d
 nd:Nv d<=n
 dp:d.depth<=m
abbrev O9(K:PySem.W.Frag):List V->Hp->VK->Prop:=λxs H Q=>∃p ys,xs=[V.ref p]/\(Mc K H p ys\/Up K H p ys)/\∀l,H l=none->Q (.ref l) (upd H l (.lst ys))
theorem qY:Ld X (.type "list") (O9 X.K):=iE
abbrev O3(K:PySem.W.Frag):List V->Hp->VK->Prop:=λxs H Q=>∃p ys,xs=[V.ref p]/\((Mc K H p ys/\∀l,H l=none->Q (.ref l) (upd H l (.tup ys)))\/(Up K H p ys/\Q (.ref p) H))
theorem zU:Ld X (.type "tuple") (O3 X.K):=cS
end Nd
namespace DL
open PySem L2 Nd
def KL(K:PySem.W.Frag)(H:Hp)(a:Addr)(xs:List V):Prop :=
 (∃o,H a=some (.frz o (.lst xs)))\/∃(its:Array Value) (n:Nat),K.lookup a=some { cls:=.type "list",data:=.seq its n }/\its.size<=Au/\Ff xs its.toList
def bH:Nat->Ac
 | 0=>.none
 | n+1=>.tuple [bH n]
def Qi(ks:List (List Int×Ac)):List (Ac×Ac):=(bH 100,.none)::ks.map λp=>(Ck p.1,p.2)
def Yv(ks:List (Int×Ac)):List (Ac×Ac):=(bH 100,.bool true)::ks.map λp=>(.int p.1,p.2)
def E7:List (Ac×Ac)->Bool
 | (_,.none)::_=>true
 | _=>false
def sR:List (Ac×Ac)->Bool
 | (_,.bool _)::_=>true
 | _=>false
def Vn(a:Addr)(ks:List (List Int×Ac)):List (Ac×Ac):=(bH 100,.int a)::ks.map λp=>(Ck p.1,p.2)
def Kg(w:List Int):List Hm:=w.map Qv
mutual
inductive RdF (K:PySem.W.Frag) (H:Hp):V->Ac->List Addr->Prop
 | non:RdF K H .non .none []
 | bl (b:Bool):RdF K H (.bl b) (.bool b) []
 | int (i:Int):RdF K H (.int i) (.int i) []
 | str (x:Str):RdF K H (.str x) (.str x) []
 | lst {a:Addr} {xs:List V} {ds:List Ac} {F:List Addr}:H a=some (.lst xs)->ds.length<=Au->RdFs K H xs ds F->RdF K H (.ref a) (.list ds) (a::F)
 | tup {a:Addr} {xs:List V} {ds:List Ac} {F:List Addr}:H a=some (.tup xs)->ds.length<=Au->RdFs K H xs ds F->RdF K H (.ref a) (.tuple ds) F
 | dic {a:Addr} {kv:List (List Hm×V)} {ks:List (List Int×Ac)}:H a=some (.dT kv)->kv.map (·.1)=ks.map (λp=>Kg p.1)->RdFs K H (kv.map (·.2)) (ks.map (·.2)) []->RdF K H (.ref a) (.dict (Qi ks)) [a]
 | dik {a:Addr} {kv:List (Hm×V)} {ks:List (Int×Ac)}:H a=some (.dK kv)->kv.map (·.1)=ks.map (λp=>(Qv p.1:Hm))->RdFs K H (kv.map (·.2)) (ks.map (·.2)) []->RdF K H (.ref a) (.dict (Yv ks)) [a]
 | dnm {a:Addr} {kv:List (List Hm×V)} {ks:List (List Int×Ac)}:H a=some (.dT kv)->kv.map (·.1)=ks.map (λp=>Kg p.1)->RdFs K H (kv.map (·.2)) (ks.map (·.2)) []->RdF K H (.ref a) (.dict (Vn a ks)) [a]
inductive RdFs (K:PySem.W.Frag) (H:Hp):List V->List Ac->List Addr->Prop
 | nil:RdFs K H [] [] []
 | cons {x:V} {d:Ac} {xs:List V} {ds:List Ac} {F G:List Addr}:RdF K H x d F->RdFs K H xs ds G->RdFs K H (x::xs) (d::ds) (F++G)
end
def HY(o:HO):Prop:=(∃xs,o=.tup xs)\/∃ob u,o=.frz ob u
def Kp(F:List Addr)(H H':Hp):Prop:=∀b o,H b=some o->(b∈F\/HY o)->H' b=some o
theorem Kp.of(s:Mv H H'):Kp F H H':=λb o e _=>s b o e
theorem Kp.sub(k:Kp F H H')(h:∀a∈G,a∈F):Kp G H H':=λb o e z=>k b o e (z.imp (h b) id)
section
variable{K:PySem.W.Frag}{H H':Hp}
theorem KL.kp(h:KL K H a xs)(k:Kp F H H'):KL K H' a xs:=by
 rcases h with ⟨o,h⟩ | h
 ·exact .inl ⟨o,k _ _ h (.inr (.inr ⟨_,_,rfl⟩))⟩
 ·exact .inr h
theorem KL.sq(h:KL K H a xs):Mc K H a xs:=by
 rcases h with ⟨o,h⟩ | ⟨its,n,h,hz,r⟩
 ·exact .inl (.inr ⟨o,h⟩)
 ·exact .inr ⟨_,its,n,h,rfl,rfl,rfl,hz,r⟩
mutual
theorem RdF.kp:∀{v:V} {d:Ac} {F:List Addr},RdF K H v d F->Kp F H H'->RdF K H' v d F
 | _,_,_,.non,_=>.non
 | _,_,_,.bl b,_=>.bl b
 | _,_,_,.int i,_=>.int i
 | _,_,_,.str x,_=>.str x
 | _,_,_,.lst h l hs,k=>.lst (k _ _ h (.inl Ab)) l (RdFs.kp hs (k.sub λ_ z=>Ae _ z))
 | _,_,_,.tup h l hs,k=>.tup (k _ _ h (.inr (.inl ⟨_,rfl⟩))) l (RdFs.kp hs k)
 | _,_,_,.dic h e hs,k=>.dic (k _ _ h (.inl Ab)) e (RdFs.kp hs (k.sub λ_ z=>nomatch z))
 | _,_,_,.dik h e hs,k=>.dik (k _ _ h (.inl Ab)) e (RdFs.kp hs (k.sub λ_ z=>nomatch z))
 | _,_,_,.dnm h e hs,k=>.dnm (k _ _ h (.inl Ab)) e (RdFs.kp hs (k.sub λ_ z=>nomatch z))
theorem RdFs.kp:∀{v:List V} {d:List Ac} {F:List Addr},RdFs K H v d F->Kp F H H'->RdFs K H' v d F
 | _,_,_,.nil,_=>.nil
 | _,_,_,.cons h hs,k=>.cons (RdF.kp h (k.sub λ_ z=>An _ z)) (RdFs.kp hs (k.sub λ_ z=>Al _ z))
end
theorem Ox:∀n,(bH n).depth=n
 | 0=>by simp [bH,Cj]
 | n+1=>by
  have:=Ox n
  simp only[bH,Cj,Bm,this]
  omega
theorem vR:100<=(PyData.dict (Yv ks)).depth:=by
 have:=Ox 100
 simp only[Yv,Cj,PyData.depthKv,this]
 omega
theorem yB:100<=(PyData.dict (Vn a ks)).depth:=by
 have:=Ox 100
 simp only[Vn,Cj,PyData.depthKv,this]
 omega
theorem wV:100<=(PyData.dict (Qi ks)).depth:=by
 have:=Ox 100
 simp only[Qi,Cj,PyData.depthKv,this]
 omega
mutual
theorem RdF.rd:∀{v:V} {d:Ac} {F:List Addr},RdF K H v d F->d.depth<=90->RdV K H v d
 | _,_,_,.non,_=>.non
 | _,_,_,.bl b,_=>.bl b
 | _,_,_,.int i,_=>.int i
 | _,_,_,.str x,_=>.str x
 | _,_,_,.lst h l hs,z=>.lst (Mc.of h) (RdFs.rd hs (by simp only[Cj] at z; omega))
 | _,_,_,.tup h l hs,z=>.tup (Up.of h) (RdFs.rd hs (by simp only[Cj] at z; omega))
 | _,_,_,.dic h e hs,z=>absurd (Bz wV z) (by decide)
 | _,_,_,.dik h e hs,z=>absurd (Bz vR z) (by decide)
 | _,_,_,.dnm h e hs,z=>absurd (Bz yB z) (by decide)
theorem RdFs.rd:∀{v:List V} {d:List Ac} {F:List Addr},RdFs K H v d F->Bm d<=90->RdVs K H v d
 | _,_,_,.nil,_=>.nil
 | _,_,_,.cons h hs,z=>.cons (RdF.rd h (by simp only[Bm] at z; omega)) (RdFs.rd hs (by simp only[Bm] at z; omega))
end
mutual
theorem RdF.dom:∀{v:V} {d:Ac} {F:List Addr},RdF K H v d F->∀a∈F,∃o,H a=some o
 | _,_,_,.non,_,z=>nomatch z
 | _,_,_,.bl b,_,z=>nomatch z
 | _,_,_,.int i,_,z=>nomatch z
 | _,_,_,.str x,_,z=>nomatch z
 | _,_,_,.lst h l hs,b,z=>by
  rcases Ag.mp z with rfl | z
  ·exact ⟨_,h⟩
  ·exact RdFs.dom hs b z
 | _,_,_,.tup h l hs,b,z=>RdFs.dom hs b z
 | _,_,_,.dic h e hs,b,z=>⟨_,Af.mp z▸h⟩
 | _,_,_,.dik h e hs,b,z=>⟨_,Af.mp z▸h⟩
 | _,_,_,.dnm h e hs,b,z=>⟨_,Af.mp z▸h⟩
theorem RdFs.dom:∀{v:List V} {d:List Ac} {F:List Addr},RdFs K H v d F->∀a∈F,∃o,H a=some o
 | _,_,_,.nil,_,z=>nomatch z
 | _,_,_,.cons h hs,b,z=>by
  rcases Ay.mp z with z | z
  ·exact RdF.dom h b z
  ·exact RdFs.dom hs b z
end
theorem RdFs.len:∀{v:List V} {d:List Ac} {F:List Addr},RdFs K H v d F->v.length=d.length
 | _,_,_,.nil=>rfl
 | _,_,_,.cons _ t=>by rw[Bs,Bs,RdFs.len t]
theorem RdFs.get:∀{v:List V} {d:List Ac} {F:List Addr} {i:Nat} {e:Ac},RdFs K H v d F->d[i]? = some e->∃x G,v[i]? = some x/\RdF K H x e G/\G.Sublist F
 | _,_,_,_,_,.nil,z=>by simp at z
 | _,_,_,0,_,.cons h _,z=>by
  simp at z
  subst z
  exact ⟨_,_,rfl,h,List.sublist_append_left _ _⟩
 | _,_,_,i+1,e,.cons _ t,z=>by
  obtain ⟨x,G,h1,h2,h3⟩:=RdFs.get (i:=i) (e:=e) t (by simpa using z)
  exact ⟨x,G,by simpa using h1,h2,h3.trans (Cf _ _)⟩
theorem RdFs.app:∀{v w:List V} {d e:List Ac} {F G:List Addr},RdFs K H v d F->RdFs K H w e G->RdFs K H (v++w) (d++e) (F++G)
 | _,_,_,_,_,_,.nil,h=>h
 | _,_,_,_,_,_,.cons a t,h=>by
  rw[Bw]
  exact .cons a (RdFs.app t h)
theorem RdFs.snoc(t:RdFs K H v d F)(h:RdF K H x e G):RdFs K H (v++[x]) (d++[e]) (F++G):=by
 have:=t.app (.cons h .nil)
 rw[Ea] at this
 exact this
end
mutual
def imm:Ac->Bool
 | .list _=>false
 | .dict _=>false
 | .tuple xs=>Dw xs
 | _=>true
def Dw:List Ac->Bool
 | []=>true
 | x::xs=>imm x && Dw xs
end
theorem pF:∀{xs:List Ac},Dw xs=true↔∀x∈xs,imm x=true
 | []=>by simp [Dw]
 | x::xs=>by simp [Dw,pF (xs:=xs)]
theorem Um{α:Type}{f:α->Ac}(h:∀a,imm (f a)=true)(l:List α):Dw (l.map f)=true:=pF.mpr λx hx=>by
 obtain ⟨a,_,rfl⟩:=Bt.mp hx
 exact h a
theorem vJ(ns:List Int):imm (Ck ns)=true:=by
 unfold Ck
 rw[imm]
 exact Um (λ_=>by simp [imm]) ns
section
variable{K:PySem.W.Frag}{H H':Hp}
mutual
theorem RdF.imm:∀{v:V} {d:Ac} {F:List Addr},RdF K H v d F->DL.imm d=true->F=[]
 | _,_,_,.non,_=>rfl
 | _,_,_,.bl b,_=>rfl
 | _,_,_,.int i,_=>rfl
 | _,_,_,.str x,_=>rfl
 | _,_,_,.lst h l hs,k=>by simp [DL.imm] at k
 | _,_,_,.tup h l hs,k=>RdFs.imm hs (by simpa [DL.imm] using k)
 | _,_,_,.dic h e hs,k=>by simp [DL.imm] at k
 | _,_,_,.dik h e hs,k=>by simp [DL.imm] at k
 | _,_,_,.dnm h e hs,k=>by simp [DL.imm] at k
theorem RdFs.imm:∀{v:List V} {d:List Ac} {F:List Addr},RdFs K H v d F->Dw d=true->F=[]
 | _,_,_,.nil,_=>rfl
 | _,_,_,.cons h hs,k=>by
  rw[Dw,Dk] at k
  rw[RdF.imm h k.1,RdFs.imm hs k.2]
  rfl
end
end
inductive Md where
 | pk | sh | tp | ow
 deriving DecidableEq
inductive DV where
 | un
 | dat (m:Md) (d:Ac)
 | drw
 | dT (kvs:List (List Hm×Ac))
 | val (v:V)
 | scr (ns:List Int)
 | acc (ds:List Ac)
 | grd (Hc:Hp)
 | tpl (xs:List V)
structure DS where
 sl:List DV
 n:Nat
structure Ent where
 v:Option V
 x:DV
 F:List Addr
def Lh:DV->Bool
 | .dat .pk _=>true
 | _=>false
def CU:DV->Bool
 | .drw=>true
 | _=>false
def V1:DV->Bool
 | .drw=>true
 | .acc _=>true
 | .dT _=>true
 | .grd _=>true
 | _=>false
def cells(e:Ent):List Addr:=match e.x with
 | .dat .ow _=>e.F
 | .dat .tp _=>e.F.take 1
 | .drw=>e.F
 | .dT _=>e.F
 | .acc _=>e.F.take 1
 | .grd _=>e.F
 | _=>[]
theorem Eo(e:Ent):∀a∈cells e,a∈e.F:=by
 obtain ⟨v,x,F⟩:=e
 intro a h
 cases x with
 | un=>exact nomatch h
 | val _=>exact nomatch h
 | scr _=>exact nomatch h
 | drw=>exact h
 | dT _=>exact h
 | grd _=>exact h
 | tpl _=>exact nomatch h
 | acc _=>exact (Mb _ _).subset h
 | dat m d =>
  cases m with
  | pk=>exact nomatch h
  | sh=>exact nomatch h
  | tp=>exact (Mb _ _).subset h
  | ow=>exact h
def Wc(e f:Ent):Prop:=((Lh f.x=false\/V1 e.x=true)->∀a∈cells e,a∉f.F)/\((Lh e.x=false\/V1 f.x=true)->∀a∈cells f,a∉e.F)
theorem Wc.symm(h:Wc e f):Wc f e:=⟨h.2,h.1⟩
def Gu(K:PySem.W.Frag)(H:Hp)(n:Nat)(e:Ent):Prop:=match e.x with
 | .un=>e.F=[]
 | .dat m d=>∃v,e.v=some v/\RdF K H v d e.F/\(m=.ow->e.F.Nodup)/\(m=.tp->∀a l,e.F=a::l->a∉l)
 | .drw=>∃dr c k f,e.v=some (.ref dr)/\e.F=[dr]/\bU H dr c k f/\0<=k/\k<=(n:Int)
 | .dT kvs=>∃a ks,e.v=some (.ref a)/\e.F=[a]/\H a=some (.dT ks)/\ks.map (·.1)=kvs.map (·.1)/\RdFs K H (ks.map (·.2)) (kvs.map (·.2)) []
 | .val v=>e.v=some v/\e.F=[]
 | .scr ns=>∃a,e.v=some (.ref a)/\e.F=[]/\KL K H a (ns.map V.int)/\ns.length<=63
 | .acc ds=>∃a xs G,e.v=some (.ref a)/\e.F=a::G/\H a=some (.lst xs)/\RdFs K H xs ds G/\ds.length<=Au/\a∉G
 | .grd Hc=>∀a∈e.F,∃o,Hc a=some o/\H a=some o
 | .tpl xs=>∃t,e.v=some (.ref t)/\H t=some (.tup xs)/\e.F=[]
structure At(K:PySem.W.Frag)(H0:Hp)(X:Addr->Prop)(n:Nat)(E:List Ent)(H:Hp):Prop where
 ok:∀e∈E,Gu K H n e
 sep:E.Pairwise Wc
 new:∀e∈E,∀a∈cells e,H0 a=none\/(X a/\CU e.x=true)
 same:∀b o,¬ X b->H0 b=some o->H b=some o
 dom:∀b o,H0 b=some o->∃o',H b=some o'
 xd:∀b,X b->H0 b≠none/\∃c k f,bU H b c k f/\0<=k/\k<=(n:Int)
section
variable{K:PySem.W.Frag}{H0 H H':Hp}{X:Addr->Prop}{n n':Nat}{E E' S T:List Ent}{e f:Ent}
theorem At.perm(h:At K H0 X n E H)(p:E.Perm E'):At K H0 X n E' H :=
 ⟨λe he=>h.ok e (p.mem_iff.mpr he),(p.pairwise_iff λ{a b}=>Wc.symm).mp h.sep,λe he=>h.new e (p.mem_iff.mpr he),h.same,h.dom,h.xd⟩
theorem At.sub(h:At K H0 X n E H)(p:E'.Sublist E):At K H0 X n E' H :=
 ⟨λe he=>h.ok e (p.subset he),h.sep.sublist p,λe he=>h.new e (p.subset he),h.same,h.dom,h.xd⟩
theorem At.drop(h:At K H0 X n (S++e::T) H):At K H0 X n (S++T) H:=h.sub ((Cq S).append (Cv _ _))
theorem jV:(S++e::T).Perm (e::(S++T)):=Gb
theorem At.mid(h:At K H0 X n (S++e::T) H):At K H0 X n (e::(S++T)) H:=h.perm jV
theorem At.tomid(h:At K H0 X n (e::(S++T)) H):At K H0 X n (S++e::T) H:=h.perm jV.symm
theorem Gu.dom(h:Gu K H n e):∀a∈e.F,∃o,H a=some o:=by
 obtain ⟨v,x,F⟩:=e
 intro a ha
 cases x with
 | un=>rw[show F=[] from h] at ha; cases ha
 | val _=>rw[show F=[] from h.2] at ha; cases ha
 | scr _ =>
  obtain ⟨_,_,hF,_⟩:=h
  rw[show F=[] from hF] at ha; cases ha
 | dat m d =>
  obtain ⟨w,_,h,_⟩:=h
  obtain ⟨xs,z⟩:=h.dom a ha
  exact ⟨_,z⟩
 | drw =>
  obtain ⟨dr,c,k,f,_,hF,h,_⟩:=h
  rw[show F=[dr] from hF] at ha
  rw[Af.mp ha]
  exact ⟨_,h⟩
 | grd Hc =>
  obtain ⟨o,_,z⟩:=h a ha
  exact ⟨o,z⟩
 | tpl xs =>
  obtain ⟨_,_,_,hF⟩:=h
  rw[show F=[] from hF] at ha; cases ha
 | dT kvs =>
  obtain ⟨b,ks,_,hF,h,_⟩:=h
  rw[show F=[b] from hF] at ha
  rw[Af.mp ha]
  exact ⟨_,h⟩
 | acc ds =>
  obtain ⟨b,ks,G,_,hF,h,hr,_⟩:=h
  rw[show F=b::G from hF] at ha
  rcases Ag.mp ha with rfl | ha
  ·exact ⟨_,h⟩
  ·obtain ⟨xs,z⟩:=hr.dom a ha
   exact ⟨_,z⟩
theorem Gu.kp(h:Gu K H n e)(k:Kp e.F H H')(hn:n<=n'):Gu K H' n' e:=by
 obtain ⟨v,x,F⟩:=e
 cases x with
 | un=>exact h
 | val _=>exact h
 | scr _ =>
  obtain ⟨a,h1,h2,h3,h4⟩:=h
  exact ⟨a,h1,h2,h3.kp k,h4⟩
 | dat m d =>
  obtain ⟨w,h1,h2,h3⟩:=h
  exact ⟨w,h1,h2.kp k,h3⟩
 | drw =>
  obtain ⟨dr,c,kk,f,h1,hF,h2,h3,h4⟩:=h
  have hF':F=[dr]:=hF
  subst hF'
  exact ⟨dr,c,kk,f,h1,rfl,k _ _ h2 (.inl Ab),h3,by omega⟩
 | tpl xs =>
  obtain ⟨t,h1,h2,h3⟩:=h
  exact ⟨t,h1,k _ _ h2 (.inr (.inl ⟨_,rfl⟩)),h3⟩
 | grd Hc =>
  intro a ha
  obtain ⟨o,h1,h2⟩:=h a ha
  exact ⟨o,h1,k _ _ h2 (.inl ha)⟩
 | dT kvs =>
  obtain ⟨b,ks,h1,hF,h2,h3,h4⟩:=h
  have hF':F=[b]:=hF
  subst hF'
  exact ⟨b,ks,h1,rfl,k _ _ h2 (.inl Ab),h3,h4.kp (k.sub λ_ z=>nomatch z)⟩
 | acc ds =>
  obtain ⟨b,ks,G,h1,hF,h2,h3,h4⟩:=h
  have hF':F=b::G:=hF
  subst hF'
  exact ⟨b,ks,G,h1,rfl,k _ _ h2 (.inl Ab),h3.kp (k.sub λ_ z=>Ae _ z),h4⟩
theorem At.grow(h:At K H0 X n E H)(s:Mv H H')(hn:n<=n'):At K H0 X n' E H' :=
 ⟨λe he=>(h.ok e he).kp (Kp.of s) hn,h.sep,h.new,λb o nx e=>s _ _ (h.same b o nx e),λb o e=>let ⟨o',q⟩:=h.dom b o e; ⟨o',s _ _ q⟩,λb hb=>let ⟨z,c,k,f,h1,h2,h3⟩:=h.xd b hb; ⟨z,c,k,f,s _ _ h1,h2,by omega⟩⟩
theorem At.free(h:At K H0 X n E H)(ha:H a=none):∀e∈E,a∉e.F:=λe he z=>by
 obtain ⟨o,q⟩:=(h.ok e he).dom a z
 rw[ha] at q; cases q
theorem At.push(h:At K H0 X n E H)(ok:Gu K H n e)(sep:∀f∈E,Wc e f)(new:∀a∈cells e,H0 a=none\/(X a/\CU e.x=true)):At K H0 X n (e::E) H :=
 ⟨λg hg=>by
  rcases Ag.mp hg with rfl | hg
  ·exact ok
  ·exact h.ok g hg,Bb.mpr ⟨sep,h.sep⟩,λg hg=>by
  rcases Ag.mp hg with rfl | hg
  ·exact new
  ·exact h.new g hg,h.same,h.dom,h.xd⟩
theorem At.new0(h:At K H0 X n E H)(hp:H p=none):H0 p=none:=by
 cases q:H0 p with
 | none=>rfl
 | some o =>
  obtain ⟨o',z⟩:=h.dom p o q
  rw[hp] at z; cases z
theorem C7:Wc ⟨v,.dat m d,[]⟩ f:=by
 refine ⟨λ_ a ha=>?_,λ_ a _=>Av⟩
 have:=Eo _ a ha
 cases this
theorem At.pushI(h:At K H0 X n (S++T) H)(r:RdF K H v d []):At K H0 X n (S++⟨some v,.dat m d,[]⟩::T) H :=
 (h.push (e:=⟨some v,.dat m d,[]⟩) ⟨v,rfl,r,λ_=>Dc,λ_ a l z=>nomatch z⟩ (λf _=>C7) (λa ha=>nomatch Eo _ a ha)).tomid
def wk:Md->Md->Bool
 | _,.pk=>true
 | .pk,_=>false
 | _,.sh=>true
 | .sh,_=>false
 | _,.tp=>true
 | .tp,.ow=>false
 | .ow,.ow=>true
theorem jY(w:wk m m'=true):∀a∈cells ⟨v,.dat m' d,F⟩,a∈cells ⟨v,.dat m d,F⟩:=by
 intro a ha
 cases m <;> cases m' <;> first | exact absurd w (by decide) | exact ha | exact absurd ha Av | exact (Mb 1 F).subset ha
theorem uY{α:Type}{F:List α}(h:F.Nodup):∀a l,F=a::l->a∉l:=λa l e=>by
 subst e
 exact (Bx.mp h).1
theorem Gu.wk(w:wk m m'=true)(h:Gu K H n ⟨v,.dat m d,F⟩):Gu K H n ⟨v,.dat m' d,F⟩:=by
 obtain ⟨u,h1,h2,h3,h4⟩:=h
 refine ⟨u,h1,h2,λe=>?_,λe=>?_⟩
 ·subst e
  cases m <;> first | exact absurd w (by decide) | exact h3 rfl
 ·subst e
  cases m <;> first | exact absurd w (by decide) | exact h4 rfl | exact uY (h3 rfl)
theorem Wc.wk(w:wk m m'=true)(h:Wc ⟨v,.dat m d,F⟩ f):Wc ⟨v,.dat m' d,F⟩ f:=by
 refine ⟨λhp a ha=>?_,λhp a ha=>?_⟩
 ·rcases hp with hp | hp
  ·exact h.1 (.inl hp) a (jY w a ha)
  ·cases hp
 ·rcases hp with hp | hp
  ·refine h.2 (.inl ?_) a ha
   cases m <;> cases m' <;> first | rfl | exact absurd w (by decide) | exact absurd hp (by show ¬ (true=false); decide)
  ·exact h.2 (.inr hp) a ha
theorem At.wk(w:wk m m'=true)(h:At K H0 X n (⟨v,.dat m d,F⟩::E) H):At K H0 X n (⟨v,.dat m' d,F⟩::E) H:=by
 have hs:=Bb.mp h.sep
 refine (h.sub (Cv _ _)).push ((h.ok _ Ab).wk w) (λf hf=>(hs.1 f hf).wk w) λa ha=>?_
 rcases h.new _ Ab a (jY w a ha) with z | z
 ·exact .inl z
 ·cases z.2
end
abbrev DE:=DS->(DV->DS->Prop)->Prop
abbrev DT:=DS->(Bool->DS->Prop)->Prop
abbrev DA:=DS->(List DV->DS->Prop)->Prop
structure DEnds where
 nx:DS->Prop
 rt:DV->DS->Prop
 bk:DS->Prop:=λ_=>False
 ct:DS->Prop:=λ_=>False
abbrev DB:=DEnds->DS->Prop
abbrev DG:=DV->DS->(DS->Prop)->Prop
abbrev vN:=List DV->DS->(DS->Prop)->Prop
def vs(S:List Ent):L2.St:=S.map Ent.v
def Sl(S:List Ent)(δ:DS):Prop:=S.map Ent.x=δ.sl
section
variable(K:PySem.W.Frag)
def LE(de:DE):TE:=λσ H Q=>∃(H0:Hp) (X:Addr->Prop) (S T:List Ent) (δ:DS) (P:DV->DS->Prop),vs S=σ/\Sl S δ/\At K H0 X δ.n (S++T) H/\de δ P /\
 ∀x δ' v F S' H',vs S'=σ->Sl S' δ'->At K H0 X δ'.n (S'++⟨some v,x,F⟩::T) H'->P x δ'->Q v H'
def LT(dt:DT):TT:=λσ H Q=>∃(H0:Hp) (X:Addr->Prop) (S T:List Ent) (δ:DS) (P:Bool->DS->Prop),vs S=σ/\Sl S δ/\At K H0 X δ.n (S++T) H/\dt δ P /\
 ∀b δ' S' H',vs S'=σ->Sl S' δ'->At K H0 X δ'.n (S'++T) H'->P b δ'->Q b H'
def LA(da:DA):TA:=λσ H Q=>∃(H0:Hp) (X:Addr->Prop) (S T:List Ent) (δ:DS) (P:List DV->DS->Prop),vs S=σ/\Sl S δ/\At K H0 X δ.n (S++T) H/\da δ P /\
 ∀xs δ' As us S' H',vs S'=σ->Sl S' δ'->As.map Ent.x=xs->As.map Ent.v=us.map some->At K H0 X δ'.n (S'++(As++T)) H'->P xs δ'->Q us H'
def LS(db:DB):TS:=λD σ H=>∃(H0:Hp) (X:Addr->Prop) (S T:List Ent) (δ:DS) (P:DEnds),vs S=σ/\Sl S δ/\(∀e∈T,Lh e.x=false)/\At K H0 X δ.n (S++T) H/\db P δ /\
 (∀δ' S' H',Sl S' δ'->At K H0 X δ'.n (S'++T) H'->P.nx δ'->D.nx (vs S') H') /\
 (∀x δ' v F S' H',Sl S' δ'->At K H0 X δ'.n (S'++⟨some v,x,F⟩::T) H'->P.rt x δ'->D.rt v H') /\
 (∀δ' S' H',Sl S' δ'->At K H0 X δ'.n (S'++T) H'->P.bk δ'->D.bk (vs S') H') /\
 (∀δ' S' H',Sl S' δ'->At K H0 X δ'.n (S'++T) H'->P.ct δ'->D.ct (vs S') H')
def LG(dg:DG):TG:=λv σ H Q=>∃(H0:Hp) (X:Addr->Prop) (S T:List Ent) (δ:DS) (x:DV) (F:List Addr) (P:DS->Prop),vs S=σ/\Sl S δ/\At K H0 X δ.n (S++⟨some v,x,F⟩::T) H/\dg x δ P /\
 ∀δ' S' H',Sl S' δ'->At K H0 X δ'.n (S'++T) H'->P δ'->Q (vs S') H'
def HV(dg:vN):x9:=λus σ H Q=>∃(H0:Hp) (X:Addr->Prop) (S T As:List Ent) (δ:DS) (P:DS->Prop),vs S=σ/\Sl S δ/\As.map Ent.v=us.map some/\At K H0 X δ.n (S++(As++T)) H/\dg (As.map Ent.x) δ P /\
 ∀δ' S' H',Sl S' δ'->At K H0 X δ'.n (S'++T) H'->P δ'->Q (vs S') H'
end
abbrev Er(X:Cx)(e:Expr)(de:DE):Prop:=PE X e (LE X.K de)
abbrev mJ(X:Cx)(e:Expr)(dt:DT):Prop:=PT X e (LT X.K dt)
abbrev Z6(X:Cx)(e:Expr)(dt:DT):Prop:=PW X e (LT X.K dt)
abbrev jK(X:Cx)(es:List Expr)(da:DA):Prop:=PA X es (LA X.K da)
abbrev rJ(X:Cx)(st:Stmt)(db:DB):Prop:=PS X st (LS X.K db)
abbrev Wx(X:Cx)(st:List Stmt)(db:DB):Prop:=pV X st (LS X.K db)
abbrev BX(X:Cx)(tg:Expr)(dg:DG):Prop:=PG X tg (LG X.K dg)
abbrev L6(X:Cx)(tg:List Expr)(dg:vN):Prop:=W7 X tg (HV X.K dg)
theorem PE.imp(h:PE X e t)(k:∀σ H Q,t' σ H Q->t σ H Q):PE X e t':=λpins s σ H Q I q=>h pins s σ H Q I (k σ H Q q)
theorem PT.imp(h:PT X e t)(k:∀σ H Q,t' σ H Q->t σ H Q):PT X e t':=λpins s σ H Q I q=>h pins s σ H Q I (k σ H Q q)
theorem PW.imp(h:PW X e t)(k:∀σ H Q,t' σ H Q->t σ H Q):PW X e t':=λwh pins s σ H Q I q=>h wh pins s σ H Q I (k σ H Q q)
theorem PA.imp(h:PA X e t)(k:∀σ H Q,t' σ H Q->t σ H Q):PA X e t':=λpos pins s σ H Q I q=>h pos pins s σ H Q I (k σ H Q q)
theorem PG.imp(h:PG X e t)(k:∀v σ H Q,t' v σ H Q->t v σ H Q):PG X e t':=λpins s σ H v u Q I r q=>h pins s σ H v u Q I r (k v σ H Q q)
theorem W7.imp(h:W7 X e t)(k:∀v σ H Q,t' v σ H Q->t v σ H Q):W7 X e t':=λpins s σ H v u Q I r q=>h pins s σ H v u Q I r (k v σ H Q q)
section
variable{K:PySem.W.Frag}{H:Hp}{v:V}{F:List Addr}
theorem RdF.int_inv(h:RdF K H v (.int i) F):v=.int i/\F=[]:=by cases h; exact ⟨rfl,rfl⟩
theorem RdF.bl_inv(h:RdF K H v (.bool i) F):v=.bl i/\F=[]:=by cases h; exact ⟨rfl,rfl⟩
theorem RdF.str_inv(h:RdF K H v (.str i) F):v=.str i/\F=[]:=by cases h; exact ⟨rfl,rfl⟩
theorem RdF.list_inv(h:RdF K H v (.list ds) F):∃a xs G,v=.ref a/\H a=some (.lst xs)/\RdFs K H xs ds G/\F=a::G/\ds.length<=Au:=by
 cases h with
 | lst h l hs=>exact ⟨_,_,_,rfl,h,hs,rfl,l⟩
theorem RdF.tup_inv(h:RdF K H v (.tuple ds) F):∃a xs,v=.ref a/\H a=some (.tup xs)/\RdFs K H xs ds F/\ds.length<=Au:=by
 cases h with
 | tup h l hs=>exact ⟨_,_,rfl,h,hs,l⟩
end
section
variable{K:PySem.W.Frag}{H0 H H':Hp}{X:Addr->Prop}{n:Nat}{E S T:List Ent}{v:V}{m:Md}{d:Ac}{F:List Addr}
theorem At.told(h:At K H0 X n E H)(he:⟨some v,.dat m d,F⟩∈E):RdF K H v d F:=by
 obtain ⟨w,e1,h1,_⟩:=h.ok _ he
 cases e1
 exact h1
theorem mem_mid:e∈S++e::T:=Al _ Ab
theorem Em:f∈S++e::f::T:=Al _ (Ae _ Ab)
theorem At.drop2(h:At K H0 X n (S++e::f::T) H):At K H0 X n (S++T) H:=h.drop.drop
theorem At.dropL(h:At K H0 X n (S++(As++T)) H):At K H0 X n (S++T) H:=h.sub ((Cq S).append (Cf As T))
end
def gA:Md->Md
 | .ow=>.pk
 | .tp=>.pk
 | m=>m
def U6(i:Nat):DE:=λδ P=>match δ.sl[i]? with
 | some (.dat m d)=>P (.dat (gA m) d) δ
 | _=>False
def dC(d:Ac):DE:=λδ P=>P (.dat .ow d) δ
theorem Hk{i:Nat}(h:Sl S δ)(e:δ.sl[i]? = some x):∃ent,S[i]? = some ent/\ent.x=x:=by
 unfold Sl at h
 rw[<- h,Bf] at e
 cases q:S[i]? with
 | none=>rw[q] at e; cases e
 | some ent=>rw[q] at e; exact ⟨ent,rfl,Bn e⟩
theorem Ls{i:Nat}(h:S[i]? = some e):(vs S)[i]? = some e.v:=by
 unfold vs
 rw[Bf,h]
 rfl
theorem At.look(h:At K H0 X n (S++T) H)(he:⟨u,.dat m d,F⟩∈S)(hu:u=some v):At K H0 X n (S++⟨some v,.dat (gA m) d,F⟩::T) H:=by
 subst hu
 obtain ⟨S1,S2,rfl⟩:=List.append_of_mem he
 have hp:((S1++⟨some v,.dat m d,F⟩::S2)++T).Perm (⟨some v,.dat m d,F⟩::(S1++(S2++T))):=by
  rw[Bw,Fd]
  exact Gb
 have h2:=h.perm hp
 have hs:=Bb.mp h2.sep
 refine (h.push (e:=⟨some v,.dat (gA m) d,F⟩) ?_ (λf hf=>?_) λa ha=>?_).tomid
 ·obtain ⟨w,e1,h1,_⟩:=h2.ok _ Ab
  refine ⟨w,e1,h1,λz=>?_,λz=>?_⟩ <;> cases m <;> cases z
 ·refine ⟨λ_ a ha=>?_,λhq a ha=>?_⟩
  ·cases m <;> exact nomatch ha
  ·rcases Ag.mp (hp.mem_iff.mp hf) with rfl | hf
   ·rcases hq with hq | hq
    ·cases m <;> first | cases hq; done | exact nomatch ha
    ·cases hq
   ·refine (hs.1 f hf).2 ?_ a ha
    rcases hq with hq | hq
    ·refine .inl ?_
     cases m <;> first | rfl | exact hq
    ·exact .inr hq
 ·cases m <;> exact nomatch ha
section
variable{X:Cx}{e:Expr}
theorem Aq(h:PE X e (bX i)):Er X e (U6 i):=by
 refine PE.imp h λσ H Q h=>?_
 obtain ⟨H0,Y,S,T,δ,P,rfl,hS,hA,hd,k⟩:=h
 unfold U6 at hd
 split at hd
 ·rename_i m d e1
  obtain ⟨ent,e2,e3⟩:=Hk hS e1
  have hm:ent∈S:=Ax e2
  obtain ⟨u,x,F⟩:=ent
  subst e3
  obtain ⟨v,hv,_⟩:=hA.ok _ (An _ hm)
  refine ⟨v,by rw[Ls e2]; exact congrArg some hv,k _ δ v F S H rfl hS (hA.look hm hv) hd⟩
 ·exact hd.elim
theorem oJ(h:PE X e (tC v))(r:∀H,RdF X.K H v d []):Er X e (dC d):=by
 refine PE.imp h λσ H Q h=>?_
 obtain ⟨H0,Y,S,T,δ,P,rfl,hS,hA,hd,k⟩:=h
 exact k _ δ v [] S H rfl hS (hA.pushI (r H)) hd
theorem Cu:Er X (.Constant (.int i) j pos) (dC (.int i)):=oJ Fb λ_=>.int i
theorem Yc:Er X (.Constant (.bool i) j pos) (dC (.bool i)):=oJ yD λ_=>.bl i
theorem yH:Er X (.Constant .none j pos) (dC .none):=oJ S9 λ_=>.non
end
def DK(de:DE):DE:=λδ P=>de δ λx δ'=>match x with
 | .dat _ d=>imm d=true/\P (.dat .ow d) δ'
 | _=>False
theorem xJ(h:Er X e de):Er X e (DK de):=by
 refine PE.imp h λσ H Q h=>?_
 obtain ⟨H0,Y,S,T,δ,P,rfl,hS,hA,hd,k⟩:=h
 refine ⟨H0,Y,S,T,δ,_,rfl,hS,hA,hd,λx δ' v F S' H' e1 e2 hA' p=>?_⟩
 cases x with
 | dat m d =>
  have r:=hA'.told mem_mid
  obtain rfl:=r.imm p.1
  exact k _ δ' v [] S' H' e1 e2 (hA'.drop.pushI r) p.2
 | _=>exact p.elim
def zB(i:Nat):DE:=λδ P=>match δ.sl[i]? with
 | some (.dat m d)=>P (.dat m d) ⟨δ.sl.set i .un,δ.n⟩
 | _=>False
theorem Vr{α:Type}:∀{l:List α} {i:Nat} {x y:α},l[i]? = some x->(y::l).Perm (x::l.set i y)
 | [],i,x,y,h=>by simp at h
 | z::l,0,x,y,h=>by
  simp at h
  subst h
  exact Fe _ _ _
 | z::l,i+1,x,y,h=>by
  have ih:=Vr (l:=l) (i:=i) (x:=x) (y:=y) (by simpa using h)
  rw[Pn]
  exact (Fe z y l).trans ((ih.cons z).trans (Fe x z _))
theorem gD(h:PE X e (bX i)):Er X e (zB i):=by
 refine PE.imp h λσ H Q h=>?_
 obtain ⟨H0,Y,S,T,δ,P,rfl,hS,hA,hd,k⟩:=h
 unfold zB at hd
 split at hd
 ·rename_i m d e1
  obtain ⟨ent,e2,e3⟩:=Hk hS e1
  have hm:ent∈S:=Ax e2
  obtain ⟨u,x,F⟩:=ent
  subst e3
  obtain ⟨v,hv,hv2⟩:=hA.ok _ (An _ hm)
  have hv':u=some v:=hv
  subst hv'
  refine ⟨v,by rw[Ls e2],k _ _ v F (S.set i ⟨some v,.un,[]⟩) H ?_ ?_ ?_ hd⟩
  ·unfold vs
   rw[Et]
   apply Ht
   intro j
   rw[Hr]
   split
   ·rename_i hij
    subst hij
    rw[Bf,e2]
    split
    ·rfl
    ·rename_i hj
     rw[Ad] at hj
     exact absurd (Ap.mp e2).1 hj
   ·rfl
  ·unfold Sl at hS ⊢
   rw[Et,hS]
  ·have hp:=hA.push (e:=⟨some v,.un,[]⟩) (show Gu X.K H δ.n ⟨some v,.un,[]⟩ from rfl) (λf _=>⟨λ_ a ha=>(nomatch ha),λ_ a _=>Av⟩) (λa ha=>(nomatch ha))
   have p1:(⟨some v,.un,[]⟩::(S++T)).Perm ((S.set i ⟨some v,.un,[]⟩)++⟨some v,.dat m d,F⟩::T):=by
    rw[<- Fd]
    exact ((Vr (y:=(⟨some v,.un,[]⟩ : Ent)) e2).append_right T).trans (by rw[Fd]; exact List.perm_middle.symm)
   exact hp.perm p1
 ·exact hd.elim
abbrev D2:=DV->DV->(DV->Prop)->Prop
def mK(K:PySem.W.Frag)(r:R2)(rd:D2):Prop:=∀(H0:Hp) (X:Addr->Prop) (n:Nat) (S T:List Ent) (x y:DV) (v w:V) (F G:List Addr) (H:Hp) (Q:VK) (P:DV->Prop),
 At K H0 X n (S++⟨some w,y,G⟩::⟨some v,x,F⟩::T) H->rd x y P->(∀z u F' H',At K H0 X n (S++⟨some u,z,F'⟩::T) H'->P z->Q u H')->r v w H Q
def Xq(rd:D2)(da db:DE):DE:=λδ P=>da δ λx δ1=>db δ1 λy δ2=>rd x y λz=>P z δ2
theorem eU(o:mK K r rd):∀σ H Q,LE K (Xq rd da db) σ H Q->CC r (LE K da) (LE K db) σ H Q:=by
 intro σ H Q h
 obtain ⟨H0,Y,S,T,δ,P,rfl,hS,hA,hd,k⟩:=h
 refine ⟨H0,Y,S,T,δ,_,rfl,hS,hA,hd,λx δ1 v F S1 H1 e1 e2 hA1 p1=>?_⟩
 refine ⟨H0,Y,S1,⟨some v,x,F⟩::T,δ1,_,e1,e2,hA1,p1,λy δ2 w G S2 H2 e3 e4 hA2 p2=>?_⟩
 exact o H0 Y δ2.n S2 T x y v w F G H2 Q _ hA2 p2 λz u F' H' hA3 p3=>k z δ2 u F' S2 H' e3 e4 hA3 p3
section
variable{X:Cx}{a b:Expr}{da db:DE}{pos:Pos}{r:R2}{rd:D2}
theorem Tx(ho:Xp X (Iw op) r)(o:mK X.K r rd)(ha:Er X a da)(hb:Er X b db):Er X (.BinOp a op b pos) (Xq rd da db):=PE.imp (Hx ho ha hb) (eU o)
theorem mX(ho:Xp X (Kc op) r)(o:mK X.K r rd)(ha:Er X a da)(hb:Er X b db)(hm:Gf op b=false):Er X (.Compare a [op] [b] pos) (Xq rd da db):=PE.imp (K5 ho ha hb hm) (eU o)
theorem BA(ho:E4 X r)(o:mK X.K r rd)(ha:Er X a da)(hb:Er X b db)(hs:fQ b):Er X (.Subscript a b pos) (Xq rd da db):=PE.imp (aJ ho ha hb hs) (eU o)
end
def AF(C:Int->Int->Prop)(g:Int->Int->Ac):D2:=λx y P=>match x,y with
 | .dat _ (.int i),.dat _ (.int j)=>C i j/\P (.dat .ow (g i j))
 | _,_=>False
def kO(g:Int->Int->Ac):D2:=λx y P=>match x,y with
 | .dat _ (.int i),.dat _ (.int j)=>P (.dat .ow (g i j))
 | _,_=>False
section
variable{K:PySem.W.Frag}
theorem C0(h:∀i j H,RdF K H (g i j) (g' i j) []):mK K (rI C g) (AF C g'):=by
 intro H0 X n S T x y v w F G H Q P hA hd k
 unfold AF at hd
 split at hd
 ·obtain ⟨rfl,_⟩:=(hA.told Em).int_inv
  obtain ⟨rfl,_⟩:=(hA.told mem_mid).int_inv
  exact ⟨_,_,rfl,rfl,hd.1,k _ _ [] H (hA.drop2.pushI (h _ _ H)) hd.2⟩
 ·exact hd.elim
theorem eZ(h:∀i j H,RdF K H (g i j) (g' i j) []):mK K (M9 g) (kO g'):=by
 intro H0 X n S T x y v w F G H Q P hA hd k
 unfold kO at hd
 split at hd
 ·obtain ⟨rfl,_⟩:=(hA.told Em).int_inv
  obtain ⟨rfl,_⟩:=(hA.told mem_mid).int_inv
  exact ⟨_,_,rfl,rfl,k _ _ [] H (hA.drop2.pushI (h _ _ H)) hd⟩
 ·exact hd.elim
end
abbrev rdAdd:D2:=kO λi j=>.int (i+j)
abbrev rdSub:D2:=kO λi j=>.int (i - j)
abbrev rdMul:D2:=AF E3 λi j=>.int (i * j)
abbrev rdDiv:D2:=AF U3 λi j=>.int (i / j)
abbrev rdMod:D2:=AF (λ_ j=>0<j) λi j=>.int (i % j)
abbrev rdPow:D2:=AF Z9 λi j=>.int (i ^ j.toNat)
abbrev rdXor:D2:=kO λi j=>.int (Builtin.bitXor i j)
abbrev rdLt:D2:=kO λi j=>.bool (decide (i<j))
abbrev rdGe:D2:=kO λi j=>.bool (decide (j<=i))
section
variable{X:Cx}{a b:Expr}{da db:DE}{pos:Pos}
theorem Nt(ha:Er X a da)(hb:Er X b db):Er X (.BinOp a .Add b pos) (Xq rdAdd da db):=Tx aA (eZ λ_ _ _=>.int _) ha hb
theorem Xb(ha:Er X a da)(hb:Er X b db):Er X (.BinOp a .Sub b pos) (Xq rdSub da db):=Tx V8 (eZ λ_ _ _=>.int _) ha hb
theorem b0(ha:Er X a da)(hb:Er X b db):Er X (.BinOp a .Mult b pos) (Xq rdMul da db):=Tx Xh (C0 λ_ _ _=>.int _) ha hb
theorem iO(ha:Er X a da)(hb:Er X b db):Er X (.BinOp a .FloorDiv b pos) (Xq rdDiv da db):=Tx gB (C0 λ_ _ _=>.int _) ha hb
theorem Hl(ha:Er X a da)(hb:Er X b db):Er X (.BinOp a .Mod b pos) (Xq rdMod da db):=Tx Uq (C0 λ_ _ _=>.int _) ha hb
theorem i9(ha:Er X a da)(hb:Er X b db):Er X (.BinOp a .Pow b pos) (Xq rdPow da db):=Tx bE (C0 λ_ _ _=>.int _) ha hb
theorem W6(ha:Er X a da)(hb:Er X b db):Er X (.BinOp a .BitXor b pos) (Xq rdXor da db):=Tx T9 (eZ λ_ _ _=>.int _) ha hb
theorem Q8(ha:Er X a da)(hb:Er X b db):Er X (.Compare a [.GtE] [b] pos) (Xq rdGe da db):=mX wU (eZ λ_ _ _=>.bl _) ha hb (Ur _)
end
def iQ(ne:Bool):D2:=λx y P=>match x,y with
 | .dat _ d,.dat _ e=>d.depth<=60/\e.depth<=60/\P (.dat .ow (.bool (match ne with | true=>!Ec d e | false=>Ec d e)))
 | _,_=>False
def tR(ne:Bool):D2:=λx y P=>match x,y with
 | .dat _ d,.dat _ (.list es)=>Bm es<=60/\d.depth<=60/\P (.dat .ow (.bool (match ne with | true=>!(es.any λe=>Ec e d) | false=>es.any λe=>Ec e d)))
 | .dat _ d,.dat _ (.tuple es)=>Bm es<=60/\d.depth<=60/\P (.dat .ow (.bool (match ne with | true=>!(es.any λe=>Ec e d) | false=>es.any λe=>Ec e d)))
 | _,_=>False
section
variable{K:PySem.W.Frag}
theorem P5:mK K (AQ K) (iQ false):=by
 intro H0 X n S T x y v w F G H Q P hA hd k
 unfold iQ at hd
 split at hd
 ·exact ⟨_,_,(hA.told Em).rd (Bz hd.1 (by decide)),(hA.told mem_mid).rd (Bz hd.2.1 (by decide)),hd.1,k _ _ [] H (hA.drop2.pushI (.bl _)) hd.2.2⟩
 ·exact hd.elim
theorem BW:mK K (DW K) (iQ true):=by
 intro H0 X n S T x y v w F G H Q P hA hd k
 unfold iQ at hd
 split at hd
 ·exact ⟨_,_,(hA.told Em).rd (Bz hd.1 (by decide)),(hA.told mem_mid).rd (Bz hd.2.1 (by decide)),hd.1,k _ _ [] H (hA.drop2.pushI (.bl _)) hd.2.2⟩
 ·exact hd.elim
theorem Q2:mK K (AD K ne) (tR ne):=by
 intro H0 X n S T x y v w F G H Q P hA hd k
 unfold tR at hd
 split at hd
 ·obtain ⟨a,xs,G',rfl,hq,hs,_,_⟩:=(hA.told mem_mid).list_inv
  refine ⟨a,xs,_,_,rfl,.inl (Mc.of hq),(hA.told Em).rd (Bz hd.2.1 (by decide)),hs.rd (Bz hd.1 (by decide)),hd.1,?_⟩
  cases ne with
  | true=>exact k _ _ [] H (hA.drop2.pushI (.bl _)) hd.2.2
  | false=>exact k _ _ [] H (hA.drop2.pushI (.bl _)) hd.2.2
 ·obtain ⟨a,xs,rfl,hq,hs,_⟩:=(hA.told mem_mid).tup_inv
  refine ⟨a,xs,_,_,rfl,.inr (Up.of hq),(hA.told Em).rd (Bz hd.2.1 (by decide)),hs.rd (Bz hd.1 (by decide)),hd.1,?_⟩
  cases ne with
  | true=>exact k _ _ [] H (hA.drop2.pushI (.bl _)) hd.2.2
  | false=>exact k _ _ [] H (hA.drop2.pushI (.bl _)) hd.2.2
 ·exact hd.elim
end
section
variable{X:Cx}{a b:Expr}{da db:DE}{pos:Pos}
theorem kY(hu:X.A.units+64<cLine)(ha:Er X a da)(hb:Er X b db):Er X (.Compare a [.Eq] [b] pos) (Xq (iQ false) da db):=mX (yC hu) P5 ha hb (Ur _)
theorem CD(hu:X.A.units+64<cLine)(ha:Er X a da)(hb:Er X b db)(hm:Gf .In b=false:=by with_unfolding_all rfl):Er X (.Compare a [.In] [b] pos) (Xq (tR false) da db):=mX (Z0 hu) Q2 ha hb hm
end
def Pm:Md->Md
 | .ow=>.ow
 | .tp=>.sh
 | m=>m
theorem At.part(h:At K H0 X n (S++⟨some v,.dat m d,F⟩::T) H)(r:RdF K H w e G)(hG:G.Sublist F):At K H0 X n (S++⟨some w,.dat (Pm m) e,G⟩::T) H:=by
 have h2:=h.mid
 have hs:=Bb.mp h2.sep
 obtain ⟨v',e1,h1,hn,ht⟩:=h2.ok _ Ab
 have cs:∀a∈cells ⟨some w,.dat (Pm m) e,G⟩,a∈cells ⟨some v,.dat m d,F⟩:=λa ha=>by
  cases m with
  | ow=>exact hG.subset ha
  | tp=>exact nomatch ha
  | sh=>exact nomatch ha
  | pk=>exact nomatch ha
 refine (h.drop.push (e:=⟨some w,.dat (Pm m) e,G⟩) ⟨w,rfl,r,λz=>?_,λz=>?_⟩ (λf hf=>?_) λa ha=>?_).tomid
 ·cases m with
  | ow=>exact (hn rfl).sublist hG
  | _=>cases z
 ·cases m <;> cases z
 ·refine ⟨λhp a ha=>(hs.1 f hf).1 ?_ a (cs a ha),λhp a ha z=>(hs.1 f hf).2 ?_ a ha (hG.subset z)⟩
  ·rcases hp with hp | hp
   ·exact .inl hp
   ·cases hp
  ·rcases hp with hp | hp
   ·refine .inl ?_
    cases m <;> first | rfl | exact hp
   ·exact .inr hp
 ·rcases h2.new _ Ab a (cs a ha) with z | z
  ·exact .inl z
  ·cases z.2
def F9:D2:=λx y P=>match x,y with
 | .dat m (.list ds),.dat _ (.int i)=>∃d,Tc ds i=some d/\P (.dat (Pm m) d)
 | .dat m (.tuple ds),.dat _ (.int i)=>∃d,Tc ds i=some d/\P (.dat (Pm m) d)
 | .dat _ (.str z),.dat _ (.int i)=>z.length<=Au/\∃c,Tc z.cps.toList i=some c/\P (.dat .ow (.str ⟨#[c]⟩))
 | _,_=>False
theorem wC(r:RdFs K H xs ds F)(h:Tc ds i=some d):∃x G,Tc xs i=some x/\RdF K H x d G/\G.Sublist F:=by
 unfold Tc at h ⊢
 rw[r.len]
 cases e:E5 ds.length i with
 | none=>rw[e] at h; cases h
 | some j =>
  rw[e] at h
  exact r.get h
theorem EU:mK K (HB K) F9:=by
 intro H0 X n S T x y v w F G H Q P hA hd k
 unfold F9 at hd
 split at hd
 ·obtain ⟨d,hi,p⟩:=hd
  obtain ⟨rfl,_⟩:=(hA.told mem_mid).int_inv
  have r:=hA.told Em
  have hA':=hA.drop
  obtain ⟨a,xs,G0,rfl,hq,hs,hG,_⟩:=r.list_inv
  obtain ⟨x,G',h1,h2,h3⟩:=wC hs hi
  subst hG
  exact .inl ⟨_,_,_,_,rfl,rfl,Mc.of hq,h1,k _ _ G' H (hA'.part h2 (h3.trans (Cv _ _))) p⟩
 ·obtain ⟨d,hi,p⟩:=hd
  obtain ⟨rfl,_⟩:=(hA.told mem_mid).int_inv
  have r:=hA.told Em
  have hA':=hA.drop
  obtain ⟨a,xs,rfl,hq,hs,_⟩:=r.tup_inv
  obtain ⟨x,G',h1,h2,h3⟩:=wC hs hi
  exact .inr (.inl ⟨_,_,_,_,rfl,rfl,Up.of hq,h1,k _ _ G' H (hA'.part h2 h3) p⟩)
 ·obtain ⟨hz,c,hi,p⟩:=hd
  obtain ⟨rfl,_⟩:=(hA.told mem_mid).int_inv
  obtain ⟨rfl,_⟩:=(hA.told Em).str_inv
  exact .inr (.inr ⟨_,_,_,rfl,rfl,hz,hi,k _ _ [] H (hA.drop2.pushI (.str _)) p⟩)
 ·exact hd.elim
theorem Ir(ha:Er X a da)(hb:Er X b db)(hs:fQ b:=by intro _ _; rfl):Er X (.Subscript a b pos) (Xq F9 da db):=BA S8 EU ha hb hs
def rR:Md->Md
 | .ow=>.ow
 | .pk=>.pk
 | _=>.tp
def Yg(i:Bool)(m:Md)(ds:List Ac)(P:DV->Prop):Prop:=match i with
 | true=>Dw ds=true/\P (.dat .ow (.list ds))
 | false=>P (.dat (rR m) (.list ds))
def gZ(i:Bool)(m:Md)(ds:List Ac)(P:DV->Prop):Prop:=match i with
 | true=>Dw ds=true/\P (.dat .ow (.tuple ds))
 | false=>P (.dat (Pm m) (.tuple ds))
section
variable{K:PySem.W.Frag}{H0 H:Hp}{X:Addr->Prop}{n:Nat}{S T:List Ent}{v w:V}{m:Md}{d e:Ac}{F G:List Addr}{p:Addr}{xs:List V}{ds:List Ac}{P:DV->Prop}{i:Bool}
theorem At.newI(h:At K H0 X n (S++T) H)(r:RdFs K H xs ds G)(hi:Dw ds=true)(hz:ds.length<=Au)(hp:H p=none)(m:Md):At K H0 X n (S++⟨some (.ref p),.dat m (.list ds),[p]⟩::T) (upd H p (.lst xs)):=by
 obtain rfl:=r.imm hi
 have s1:=Dl hp (.lst xs)
 have h1:=h.grow (n':=n) s1 (Ak _)
 refine (h1.push (e:=⟨some (.ref p),.dat m (.list ds),[p]⟩) ⟨_,rfl,.lst Co hz (r.kp (Kp.of s1)),λ_=>Bx.mpr ⟨Av,Dc⟩,λ_ a l z=>by cases z; exact Av⟩ (λf hf=>?_) λa ha=>?_).tomid
 ·have nf:=h.free hp f hf
  refine ⟨λ_ a ha z=>?_,λ_ a ha z=>?_⟩
  ·have:=Eo _ a ha
   rw[Af.mp this] at z
   exact nf z
  ·rw[Af.mp z] at ha
   exact nf (Eo _ _ ha)
 ·have:=Eo _ a ha
  rw[Af.mp this]
  exact .inl (h.new0 hp)
theorem At.newL(h:At K H0 X n (S++⟨some v,.dat m d,F⟩::T) H)(r:RdFs K H xs ds G)(hG:G.Sublist F)(hz:ds.length<=Au)(hp:H p=none)(q:Yg i m ds P):∃z F',At K H0 X n (S++⟨some (.ref p),z,F'⟩::T) (upd H p (.lst xs))/\P z:=by
 cases i with
 | true=>exact ⟨_,_,h.drop.newI r q.1 hz hp .ow,q.2⟩
 | false =>
  have q:P (.dat (rR m) (.list ds)):=q
  refine ⟨_,p::G,?_,q⟩
  have s1:=Dl hp (.lst xs)
  have h2:=h.mid
  have hs:=Bb.mp h2.sep
  obtain ⟨v',e1,_,hn,_⟩:=h2.ok _ Ab
  have h1:=h.drop.grow (n':=n) s1 (Ak _)
  have npF:p∉F:=h2.free hp _ Ab
  have npG:p∉G:=λz=>npF (hG.subset z)
  have cs:∀a∈cells ⟨some (.ref p),.dat (rR m) (.list ds),p::G⟩,a=p\/(a∈cells ⟨some v,.dat m d,F⟩):=λa ha=>by
   cases m with
   | ow =>
    rcases Ag.mp ha with z | z
    ·exact .inl z
    ·exact .inr (hG.subset z)
   | tp=>exact .inl (Af.mp ha)
   | sh=>exact .inl (Af.mp ha)
   | pk=>exact nomatch ha
  refine (h1.push (e:=⟨some (.ref p),.dat (rR m) (.list ds),p::G⟩) ⟨_,rfl,.lst Co hz (r.kp (Kp.of s1)),λz=>?_,λz a l e=>?_⟩ (λf hf=>?_) λa ha=>?_).tomid
  ·cases m with
   | ow=>exact Bx.mpr ⟨npG,(hn rfl).sublist hG⟩
   | _=>cases z
  ·cases e
   exact npG
  ·have nf:=h2.free hp f (Ae _ hf)
   refine ⟨λhq a ha z=>?_,λhq a ha z=>?_⟩
   ·rcases cs a ha with rfl | hc
    ·exact nf z
    ·refine (hs.1 f hf).1 ?_ a hc z
     rcases hq with hq | hq
     ·exact .inl hq
     ·cases hq
   ·rcases Ag.mp z with rfl | z
    ·exact nf (Eo _ _ ha)
    ·refine (hs.1 f hf).2 ?_ a ha (hG.subset z)
     rcases hq with hq | hq
     ·refine .inl ?_
      cases m <;> first | rfl | exact hq
     ·exact .inr hq
  ·rcases cs a ha with rfl | hc
   ·exact .inl (h2.new0 hp)
   ·rcases h2.new _ Ab a hc with z | z
    ·exact .inl z
    ·cases z.2
theorem At.newT(h:At K H0 X n (S++⟨some v,.dat m d,F⟩::T) H)(r:RdFs K H xs ds G)(hG:G.Sublist F)(hz:ds.length<=Au)(hp:H p=none)(q:gZ i m ds P):∃z F',At K H0 X n (S++⟨some (.ref p),z,F'⟩::T) (upd H p (.tup xs))/\P z:=by
 have s1:=Dl hp (.tup xs)
 have h1:=h.grow (n':=n) s1 (Ak _)
 cases i with
 | true =>
  obtain rfl:=r.imm q.1
  exact ⟨_,[],h1.drop.pushI (.tup Co hz (r.kp (Kp.of s1))),q.2⟩
 | false=>exact ⟨_,G,h1.part (.tup Co hz (r.kp (Kp.of s1))) hG,q⟩
theorem At.oldT(h:At K H0 X n (S++⟨some v,.dat m d,F⟩::T) H)(r:RdFs K H xs ds G)(hG:G.Sublist F)(hz:ds.length<=Au)(ht:H t=some (.tup xs))(q:gZ i m ds P):∃z F',At K H0 X n (S++⟨some (.ref t),z,F'⟩::T) H/\P z:=by
 cases i with
 | true =>
  obtain rfl:=r.imm q.1
  exact ⟨_,[],h.drop.pushI (.tup ht hz r),q.2⟩
 | false=>exact ⟨_,G,h.part (.tup ht hz r) hG,q⟩
end
def Y4:DA:=λδ P=>P [] δ
def R4(de:DE)(da:DA):DA:=λδ P=>de δ λx δ1=>da δ1 λxs δ2=>P (x::xs) δ2
section
variable{X:Cx}{e:Expr}{es:List Expr}{de:DE}{da:DA}
theorem Bi:jK X [] Y4:=by
 refine PA.imp Kq λσ H Q h=>?_
 obtain ⟨H0,Y,S,T,δ,P,rfl,hS,hA,hd,k⟩:=h
 exact k [] δ [] [] S H rfl hS rfl rfl hA hd
theorem Ao(ha:Er X e de)(hr:jK X es da)(hs:Bp (e::es) X.env=(false,eval e X.env)::Bp es X.env:=by rfl):jK X (e::es) (R4 de da):=by
 refine PA.imp (Gv ha hr hs) λσ H Q h=>?_
 obtain ⟨H0,Y,S,T,δ,P,rfl,hS,hA,hd,k⟩:=h
 refine ⟨H0,Y,S,T,δ,_,rfl,hS,hA,hd,λx δ1 v F S1 H1 e1 e2 hA1 p1=>?_⟩
 refine ⟨H0,Y,S1,⟨some v,x,F⟩::T,δ1,_,e1,e2,hA1,p1,λxs δ2 As us S2 H2 e3 e4 ex eu hA2 p2=>?_⟩
 refine k (x::xs) δ2 (⟨some v,x,F⟩::As) (v::us) S2 H2 e3 e4 (by rw[Aw,ex]) (by rw[Aw,Aw,eu]) (hA2.perm ((List.Perm.refl S2).append ?_)) p2
 exact Gb
end
def allOw:List DV->Bool
 | []=>true
 | .dat .ow _::xs=>allOw xs
 | _=>false
def noPk:List DV->Bool
 | []=>true
 | .dat .pk _::_=>false
 | .dat _ _::xs=>noPk xs
 | _=>false
def datas:List DV->Option (List Ac)
 | []=>some []
 | .dat _ d::xs=>(datas xs).map (d::·)
 | _=>none
def pkMd(Pp:Md)(xs:List DV):Md:=if allOw xs=true then .ow else if noPk xs=true then Pp else .pk
section
variable{K:PySem.W.Frag}{H0 H:Hp}{X:Addr->Prop}{n:Nat}{S T As:List Ent}
theorem Wd:∀{As:List Ent} {us:List V} {ds:List Ac},As.map Ent.v=us.map some->datas (As.map Ent.x)=some ds->(∀e∈As,Gu K H n e)->RdFs K H us ds (As.flatMap Ent.F)
 | [],us,ds,e,h,_=>by
  cases us with
  | nil=>cases h; exact .nil
  | cons _ _=>cases e
 | ent::As,us,ds,e,h,ok=>by
  cases us with
  | nil=>cases e
  | cons u us =>
   rw[Aw,Aw] at e
   obtain ⟨e1,e2⟩:=Dr e
   obtain ⟨v,x,F⟩:=ent
   have e1':v=some u:=e1
   subst e1'
   rw[Aw] at h
   cases x with
   | dat m d =>
    rw[show datas (DV.dat m d::As.map Ent.x)=(datas (As.map Ent.x)).map (d::·) from rfl] at h
    cases q:datas (As.map Ent.x) with
    | none=>rw[q] at h; cases h
    | some es =>
     rw[q] at h
     cases h
     obtain ⟨w,ew,rw',_⟩:=ok _ Ab
     cases ew
     rw[List.flatMap_cons]
     exact .cons rw' (Wd e2 q λf hf=>ok f (Ae _ hf))
   | _=>cases h
theorem Pz:∀{As:List Ent},allOw (As.map Ent.x)=true->∀e∈As,∃d,e.x=.dat .ow d
 | [],_,_,h=>nomatch h
 | ⟨v,x,F⟩::As,h,e,he=>by
  rw[Aw] at h
  have hx:(∃d,x=.dat .ow d)/\allOw (As.map Ent.x)=true:=by
   cases x with
   | dat m d=>cases m <;> first | exact ⟨⟨d,rfl⟩,h⟩ | cases h
   | _=>cases h
  rcases Ag.mp he with rfl | he
  ·exact hx.1
  ·exact Pz hx.2 e he
theorem lO:∀{As:List Ent},noPk (As.map Ent.x)=true->∀e∈As,Lh e.x=false
 | [],_,_,h=>nomatch h
 | ⟨v,x,F⟩::As,h,e,he=>by
  rw[Aw] at h
  have hx:Lh x=false/\noPk (As.map Ent.x)=true:=by
   cases x with
   | dat m d=>cases m <;> first | exact ⟨rfl,h⟩ | cases h
   | _=>cases h
  rcases Ag.mp he with rfl | he
  ·exact hx.1
  ·exact lO hx.2 e he
theorem aQ:∀{As:List Ent},(∀e∈As,∃d,e.x=.dat .ow d)->(∀e∈As,Gu K H n e)->As.Pairwise Wc->(As.flatMap Ent.F).Nodup
 | [],_,_,_=>Dc
 | ent::As,ho,ok,hs=>by
  rw[List.flatMap_cons]
  have hc:=Bb.mp hs
  obtain ⟨v,x,F⟩:=ent
  obtain ⟨d,hd⟩:=ho _ Ab
  have hd':x=.dat .ow d:=hd
  subst hd'
  obtain ⟨w,_,_,hn,_⟩:=ok _ Ab
  refine Gh.mpr ⟨hn rfl,aQ (λe he=>ho e (Ae _ he)) (λe he=>ok e (Ae _ he)) hc.2,λa ha b hb z=>?_⟩
  subst z
  obtain ⟨f,hf,hb⟩:=Ih.mp hb
  obtain ⟨d',hd'⟩:=ho f (Ae _ hf)
  exact (hc.1 f hf).1 (.inl (by rw[hd']; rfl)) a ha hb
theorem At.pack(h:At K H0 X n (S++(As++T)) H)(s:Mv H H')(hN:∀a∈N,H a=none)(ndN:N.Nodup)(htop:(Pp=.tp/\N.length=1)\/(Pp=.sh/\N=[]))(r:RdF K H' v d (N++As.flatMap Ent.F)):At K H0 X n (S++⟨some v,.dat (pkMd Pp (As.map Ent.x)) d,N++As.flatMap Ent.F⟩::T) H':=by
 have hp:(S++(As++T)).Perm (As++(S++T)):=by
  rw[<- Bw,<- Bw]
  exact Fv.append_right T
 have h2:=h.perm hp
 have hs:=Ca.mp h2.sep
 have h1:=(h.dropL).grow (n':=n) s (Ak _)
 have nN:∀a∈N,∀f∈As++(S++T),a∉f.F:=λa ha f hf=>h2.free (hN a ha) f hf
 have nFlat:∀a∈N,a∉As.flatMap Ent.F:=λa ha z=>by
  obtain ⟨f,hf,z⟩:=Ih.mp z
  exact nN a ha f (An _ hf) z
 have cs:∀a∈cells ⟨some v,.dat (pkMd Pp (As.map Ent.x)) d,N++As.flatMap Ent.F⟩,a∈N\/(allOw (As.map Ent.x)=true/\∃f∈As,a∈cells f):=λa ha=>by
  unfold pkMd at ha
  by_cases hw:allOw (As.map Ent.x)=true
  ·rw[if_pos hw] at ha
   rcases Ay.mp ha with z | z
   ·exact .inl z
   ·obtain ⟨f,hf,z⟩:=Ih.mp z
    obtain ⟨d',hd'⟩:=Pz hw f hf
    refine .inr ⟨hw,f,hf,?_⟩
    unfold cells
    rw[hd']
    exact z
  ·rw[if_neg hw] at ha
   by_cases hk:noPk (As.map Ent.x)=true
   ·rw[if_pos hk] at ha
    rcases htop with ⟨rfl,h1⟩ | ⟨rfl,rfl⟩
    ·match N,h1,ha with
     | [b],_,ha=>exact .inl ha
    ·exact nomatch ha
   ·rw[if_neg hk] at ha
    exact nomatch ha
 refine (h1.push (e:=⟨some v,.dat (pkMd Pp (As.map Ent.x)) d,N++As.flatMap Ent.F⟩) ⟨_,rfl,r,λz=>?_,λz a l e=>?_⟩ (λf hf=>?_) λa ha=>?_).tomid
 ·have hw:allOw (As.map Ent.x)=true:=by
   unfold pkMd at z
   by_cases hw:allOw (As.map Ent.x)=true
   ·exact hw
   ·rw[if_neg hw] at z
    split at z
    ·rcases htop with ⟨rfl,_⟩ | ⟨rfl,_⟩ <;> cases z
    ·cases z
  refine Gh.mpr ⟨ndN,aQ (Pz hw) (λe he=>h2.ok e (An _ he)) hs.1,λa ha b hb e=>?_⟩
  subst e
  exact nFlat a ha hb
 ·have ht:Pp=.tp:=by
   unfold pkMd at z
   split at z
   ·cases z
   ·split at z
    ·exact z
    ·cases z
  subst ht
  rcases htop with ⟨_,h1⟩ | ⟨h1,_⟩
  ·match N,h1,e,nFlat with
   | [b],_,e,nFlat =>
    cases e
    exact nFlat a Ab
  ·cases h1
 ·have hf':f∈As++(S++T):=Al _ hf
  refine ⟨λhq a ha z=>?_,λhq a ha z=>?_⟩
  ·rcases cs a ha with hn | ⟨_,g,hg,hc⟩
   ·exact nN a hn f hf' z
   ·refine (hs.2.2 g hg f hf).1 ?_ a hc z
    rcases hq with hq | hq
    ·exact .inl hq
    ·cases hq
  ·rcases Ay.mp z with z | z
   ·exact nN a z f hf' (Eo _ _ ha)
   ·obtain ⟨g,hg,z⟩:=Ih.mp z
    refine (hs.2.2 g hg f hf).2 ?_ a ha z
    rcases hq with hq | hq
    ·refine .inl ?_
     have hq':Lh (.dat (pkMd Pp (As.map Ent.x)) d)=false:=hq
     unfold pkMd at hq'
     by_cases hw:allOw (As.map Ent.x)=true
     ·obtain ⟨d',hd'⟩:=Pz hw g hg
      rw[hd']
      rfl
     ·rw[if_neg hw] at hq'
      by_cases hk:noPk (As.map Ent.x)=true
      ·exact lO hk g hg
      ·rw[if_neg hk] at hq'
       cases hq'
    ·exact .inr hq
 ·rcases cs a ha with hn | ⟨_,g,hg,hc⟩
  ·exact .inl (h2.new0 (hN a hn))
  ·rcases h2.new g (An _ hg) a hc with z | z
   ·exact .inl z
   ·obtain ⟨d',hd'⟩:=Pz (by assumption) g hg
    rw[hd'] at z
    cases z.2
end
def FX(da:DA):DE:=λδ P=>da δ λxs δ'=>match datas xs with
 | some ds=>ds.length<=1000/\P (.dat (pkMd .sh xs) (.tuple ds)) δ'
 | none=>False
def CJ(da:DA):DE:=λδ P=>da δ λxs δ'=>match datas xs with
 | some ds=>ds.length<=1000/\P (.dat (pkMd .tp xs) (.list ds)) δ'
 | none=>False
section
variable{X:Cx}{es:List Expr}{da:DA}{pos:Pos}
theorem GI(h:jK X es da):Er X (.Tuple es x1 pos) (FX da):=by
 refine PE.imp (Zw h) λσ H Q h=>?_
 obtain ⟨H0,Y,S,T,δ,P,rfl,hS,hA,hd,k⟩:=h
 refine ⟨H0,Y,S,T,δ,_,rfl,hS,hA,hd,λxs δ' As us S' H' e1 e2 ex eu hA' p=>?_⟩
 cases q:datas xs with
 | none=>rw[q] at p; exact p.elim
 | some ds =>
  rw[q] at p
  subst ex
  have r:=Wd eu q λe he=>hA'.ok e (Al _ (An _ he))
  have hl:=r.len
  have hz:ds.length<=Au:=sz p.1
  refine ⟨by omega,λt ht=>?_⟩
  have s1:=Dl ht (.tup us)
  exact k _ δ' _ _ S' _ e1 e2 (hA'.pack (N:=[]) s1 (λ_ z=>nomatch z) Dc (.inr ⟨rfl,rfl⟩) (.tup Co hz (r.kp (Kp.of s1)))) p.2
theorem Ha(h:jK X es da):Er X (.List es pos) (CJ da):=by
 refine PE.imp (bV h) λσ H Q h=>?_
 obtain ⟨H0,Y,S,T,δ,P,rfl,hS,hA,hd,k⟩:=h
 refine ⟨H0,Y,S,T,δ,_,rfl,hS,hA,hd,λxs δ' As us S' H' e1 e2 ex eu hA' p=>?_⟩
 cases q:datas xs with
 | none=>rw[q] at p; exact p.elim
 | some ds =>
  rw[q] at p
  subst ex
  have r:=Wd eu q λe he=>hA'.ok e (Al _ (An _ he))
  have hl:=r.len
  have hz:ds.length<=Au:=sz p.1
  refine ⟨by omega,λt ht=>?_⟩
  have s1:=Dl ht (.lst us)
  exact k _ δ' _ _ S' _ e1 e2 (hA'.pack (N:=[t]) s1 (λa z=>by rw[Af.mp z]; exact ht) (Bx.mpr ⟨Av,Dc⟩) (.inl ⟨rfl,rfl⟩) (.lst Co hz (r.kp (Kp.of s1)))) p.2
end
end DL
namespace Nd
open PySem PySem.Spec PyProof.Rows L2
section
variable{X:Cx}
def P9:V->Option Int->Option Int->Hp->VK->Prop:=λx lo hi H Q=>∃a xs,x=.ref a/\H a=some (.tup xs)/\∀p H',H' p=some (.tup (cC xs lo hi))->Mv H H'->Q (.ref p) H'
theorem M3:V0 X P9:=by
 intro pins s σ H x v vl vu lo hi sl Q I rx hs pl pu h
 obtain ⟨a,xs,rfl,hx',q⟩:=h
 have hx:Up X.K H a xs:=Up.of hx'
 cases rx
 by_cases hw:HT.sIx xs.length 0 lo=0/\HT.sIx xs.length xs.length hi=xs.length
 ·obtain ⟨its,r,ht,hz⟩:=I.tuple hx
  have hlen:its.toArray.size=xs.length:=by rw[Ar]; exact r.length.symm
  refine ⟨"tuple",_,Ek.lookup,ht.typeIs,?_⟩
  refine Tn ht hs pl pu (by rw[hlen]; exact hw) ⟨.ref a,H,I,rfl,q a H ?_ (Mv.refl _)⟩
  unfold cC
  rw[hw.1,hw.2,List.drop_zero,Nat.sub_zero,Ga]
  exact hx'
 ·exact X9 pins s σ H (.ref a) (.ref a) vl vu lo hi sl Q I rfl hs pl pu ⟨a,xs,rfl,hx,hw,λp np=>q p _ Co (Dl np _)⟩
end
theorem Ny:∀{vs:List Value} {ns:List Int},Ff (ns.map V.int) vs->∃xs:List (Int×Tok),vs=xs.map (λp=>Uu p.1 p.2)/\xs.map (·.1)=ns
 | [],[],_=>⟨[],rfl,rfl⟩
 | v::vs,n::ns,h=>by
  cases h with
  | cons h1 h2 =>
   obtain ⟨t,rfl⟩:=h1
   obtain ⟨xs,e1,e2⟩:=Ny h2
   exact ⟨(n,t)::xs,by rw[e1]; rfl,by rw[<- e2]; rfl⟩
 | [],n::ns,h=>nomatch h
 | v::vs,[],h=>nomatch h
section
variable{X:Cx}
def P8(K:PySem.W.Frag):List V->Hp->VK->Prop:=λxs H Q=>∃(a:Addr) (ns:List Int),xs=[.ref a]/\Mc K H a (ns.map V.int)/\ns≠[]/\∀M∈ns,(∀x∈ns,M<=x)->Q (.int M) H
theorem dX(hc:X.calm=true):Ld X (.builtin "min") (P8 X.K):=by
 intro pins s σ H xs us Q I r h
 obtain ⟨p,ns,rfl,hp,ne,q⟩:=h
 obtain ⟨u,rfl,ru⟩:=vals1 r
 cases ru
 obtain ⟨its,rv,pl,_⟩:=I.list hp
 obtain ⟨ps,rfl,rfl⟩:=Ny rv
 have hl:s.heap.IsList p (Nc ps.toArray):=by simpa [Nc] using pl.isList
 have hpos:0<ps.toArray.size:=by rcases ps with _ | ⟨x,ps⟩ <;> simp at ne ⊢
 refine min_intList (I.ok.hd hc) hl hpos λv h' tk hv k=>?_
 obtain ⟨t,rfl⟩:=intItems_at hv
 obtain ⟨h1,h2⟩:=argBest_lt (numAt ps.toArray) (ps.toArray.size - 1)
 refine ⟨.int _,H,I.kept k,⟨t,rfl⟩,q _ ?_ λx hx=>?_⟩
 ·rw[numAt_eq]; exact getD_mem (by rw[Ad]; show _<ps.length; have hs:ps.toArray.size=ps.length:=Ar; omega)
 ·obtain ⟨j,hj,rfl⟩:=mem_getD hx
  rw[Ad] at hj
  have:=h2 j (by have hs:ps.toArray.size=ps.length:=Ar; have hj':j<ps.length:=hj; omega)
  rw[numAt_eq ps.toArray j] at this
  exact this
end
end Nd
namespace Ts
open PySem PyProof.Rows
def So:Bool->Keyed->Array Keyed->Nat->Nat->Nat->StateT Bu Sem (Option Nat):=sortPriv% PySem.Builtin.gallop
structure Cmp(prog:Bq)(w:World)(A:Cr)(s:Aj)(kd:Lw)(Ok:Keyed->Prop)(blt:Keyed->Keyed->Bool):Prop where
 run:∀(x y:Keyed) (Q:Bool->Aj->Prop) (E:Value->Aj->Prop),Ok x->Ok y->Q (blt x y) s->wpAny (model prog w) A (keyLt' kd x.1 y.1) Q E s
 irr:∀x,blt x x=false
 tr:∀x y z,blt x y=true->blt y z=true->blt x z=true
 neg:∀x y z,blt x z=true->blt x y=true\/blt y z=true
def le(blt:Keyed->Keyed->Bool)(x y:Keyed):Prop:=blt y x=false
section
variable{prog:Bq}{w:World}{A:Cr}{s:Aj}{kd:Lw}{Ok:Keyed->Prop}{blt:Keyed->Keyed->Bool}
theorem Cmp.refl(C:Cmp prog w A s kd Ok blt)(x:Keyed):le blt x x:=C.irr x
theorem Cmp.ofLt(C:Cmp prog w A s kd Ok blt)(h:blt x y=true):le blt x y:=by
 unfold le
 cases q:blt y x with
 | false=>rfl
 | true=>have:=C.tr _ _ _ h q; rw[C.irr] at this; cases this
theorem Cmp.trans(C:Cmp prog w A s kd Ok blt)(h1:le blt x y)(h2:le blt y z):le blt x z:=by
 unfold le at *
 cases q:blt z x with
 | false=>rfl
 | true =>
  rcases C.neg _ y _ q with h | h
  ·rw[h2] at h; cases h
  ·rw[h1] at h; cases h
theorem Cmp.ltLe(C:Cmp prog w A s kd Ok blt)(h1:blt x y=true)(h2:le blt y z):blt x z=true:=by
 unfold le at h2
 rcases C.neg _ z _ h1 with h | h
 ·exact h
 ·rw[h2] at h; cases h
theorem Cmp.leLt(C:Cmp prog w A s kd Ok blt)(h1:le blt x y)(h2:blt y z=true):blt x z=true:=by
 unfold le at h1
 rcases C.neg _ x _ h2 with h | h
 ·rw[h1] at h; cases h
 ·exact h
variable{E:Value->Aj->Prop}
structure Kept(st st':Bu):Prop where
 kind:kindOf st'=kindOf st
 arr:arrOf st'=arrOf st
 pend:Bj st'=Bj st
 fail:Ky st'=Ky st
theorem Kept.refl(st:Bu):Kept st st:=⟨rfl,rfl,rfl,rfl⟩
theorem Kept.trans(h:Kept a b)(k:Kept b c):Kept a c:=⟨k.kind.trans h.kind,k.arr.trans h.arr,k.pend.trans h.pend,k.fail.trans h.fail⟩
theorem kB(C:Cmp prog w A s kd Ok blt){st:Bu}(hk:kindOf st=kd)(ox:Ok x)(oy:Ok y)(h:Q (some (blt x y)) st):wpS (model prog w) A E s (lt' x y) Q st:=by
 rw[lt'_eq]
 refine Bd (Nb ?_)
 rw[hk]
 exact Bd (wpS_lift (Ik (C.run x y _ _ ox oy ⟨rfl,Bk h⟩)))
theorem Fg{st:Bu}(h:xs[i]? = some p)(q:Q p st):wpS (model prog w) A E s (elem' xs i) Q st:=by
 rw[elem'_eq,h]
 exact Bk q
def Ta(left:Bool)(key:Keyed)(arr:Array Keyed)(base i:Nat):StateT Bu Sem (Option Bool):=do
 let x <- elem' arr (base+i)
 if left then lt' x key else return (<- lt' key x).map (!·)
def qO(left:Bool)(key:Keyed)(arr:Array Keyed)(base n lo0 hi0:Nat):StateT Bu Sem (Option Nat):=do
 let mut lo:=lo0
 let mut hi:=hi0
 for _ in [0:n] do
  if lo ≥ hi then break
  let mid:=lo+(hi - lo) / 2
  let some up <- Ta left key arr base mid | return none
  if up then lo:=mid+1 else hi:=mid
 return some hi
theorem nK(left:Bool)(key:Keyed)(arr:Array Keyed)(base n hint:Nat):So left key arr base n hint=(do
  let some right <- Ta left key arr base hint | return none
  let mut last:=0
  let mut ofs:=1
  if right then
   let Pp:=n - hint
   for _ in [0:n] do
    if ofs ≥ Pp then break
    let some up <- Ta left key arr base (hint+ofs) | return none
    if !up then break
    last:=ofs
    ofs:=2 * ofs+1
   qO left key arr base n (hint+last+1) (hint+min ofs Pp)
  else
   let Pp:=hint+1
   for _ in [0:n] do
    if ofs ≥ Pp then break
    let some got <- Ta left key arr base (hint - ofs) | return none
    if got then break
    last:=ofs
    ofs:=2 * ofs+1
   qO left key arr base n (hint+1 - min ofs Pp) (hint - last)):=rfl
def Gi(blt:Keyed->Keyed->Bool)(left:Bool)(key x:Keyed):Bool:=if left then blt x key else !blt key x
structure Row(Ok:Keyed->Prop)(arr:Array Keyed)(base n:Nat)(el:Nat->Keyed):Prop where
 at_:∀i,i<n->arr[base+i]? = some (el i)
 ok:∀i,i<n->Ok (el i)
theorem Sm(C:Cmp prog w A s kd Ok blt){st:Bu}(R:Row Ok arr base n el)(ok:Ok key)(hk:kindOf st=kd)(hi:i<n)(h:Q (some (Gi blt left key (el i))) st):wpS (model prog w) A E s (Ta left key arr base i) Q st:=by
 unfold Ta
 refine Bd (Fg (R.at_ i hi) ?_)
 cases left with
 | true =>
  rw[if_pos rfl]
  exact kB C hk (R.ok i hi) ok h
 | false =>
  rw[if_neg Br]
  exact Bd (kB C hk ok (R.ok i hi) (Bk h))
theorem qI(C:Cmp prog w A s kd Ok blt){st:Bu}{base n lo hi:Nat}(R:Row Ok arr base n el)(ok:Ok key)(hk:kindOf st=kd)(mono:∀i j,i<=j->j<n->Gi blt left key (el j)=true->Gi blt left key (el i)=true)(h1:lo<=hi)(h2:hi<=n)(t1:∀i,i<lo->Gi blt left key (el i)=true)(t2:∀i,hi<=i->i<n->Gi blt left key (el i)=false)(h:∀k,k<=n->(∀i,i<k->Gi blt left key (el i)=true)->(∀i,k<=i->i<n->Gi blt left key (el i)=false)->Q (some k) st):wpS (model prog w) A E s (qO left key arr base n lo hi) Q st:=by
 unfold qO
 refine Bd (Gy (Eh (I:=λx c st'=>∃l r,c=(none,l,r)/\st'=st/\l<=r/\r<=n/\r - l+x<=n/\(∀i,i<l->Gi blt left key (el i)=true)/\(∀i,r<=i->i<n->Gi blt left key (el i)=false))
  (Q:=λc st'=>∃r,c=(none,r,r)/\st'=st/\r<=n/\(∀i,i<r->Gi blt left key (el i)=true)/\(∀i,r<=i->i<n->Gi blt left key (el i)=false)) ?_ ?_ ⟨lo,hi,rfl,rfl,h1,h2,by omega,t1,t2⟩) ?_)
 ·(intro x c st' _ hx q_; obtain ⟨l,r,rfl,rfl,a1,a2,a3,b1,b2⟩ := q_)
  dsimp only
  by_cases hlr:l ≥ r
  ·rw[if_pos hlr]
   have e:l=r:=by omega
   subst e
   exact Bk ⟨l,rfl,rfl,a2,b1,b2⟩
  ·rw[if_neg hlr]
   have hm:l+(r - l) / 2<n:=by omega
   refine Bd (Sm C R ok hk hm ?_)
   dsimp only
   cases hb:Gi blt left key (el (l+(r - l) / 2)) with
   | true =>
    rw[if_pos rfl]
    exact Bk ⟨l+(r - l) / 2+1,r,rfl,rfl,by omega,a2,by omega,λi hi=>mono i _ (by omega) hm hb,b2⟩
   | false =>
    rw[if_neg Br]
    refine Bk ⟨l,l+(r - l) / 2,rfl,rfl,by omega,by omega,by omega,b1,λi hi hn=>?_⟩
    cases q:Gi blt left key (el i) with
    | false=>rfl
    | true=>rw[mono _ i hi hn q] at hb; cases hb
 ·(intro c st' q_; obtain ⟨l,r,rfl,rfl,a1,a2,a3,b1,b2⟩ := q_)
  have e:l=r:=by
   have : max 0 n=n:=by omega
   rw[this] at a3
   omega
  subst e
  exact ⟨l,rfl,rfl,a2,b1,b2⟩
 ·(intro c st' q_; obtain ⟨r,rfl,rfl,a2,b1,b2⟩ := q_)
  exact Bk (h r a2 b1 b2)
theorem Np(C:Cmp prog w A s kd Ok blt){st:Bu}(R:Row Ok arr base n el)(ok:Ok key)(hk:kindOf st=kd)(hh:hint<n)(mono:∀i j,i<=j->j<n->Gi blt left key (el j)=true->Gi blt left key (el i)=true)(h:∀k,k<=n->(∀i,i<k->Gi blt left key (el i)=true)->(∀i,k<=i->i<n->Gi blt left key (el i)=false)->Q (some k) st):wpS (model prog w) A E s (So left key arr base n hint) Q st:=by
 have anti:∀i j,i<=j->j<n->Gi blt left key (el i)=false->Gi blt left key (el j)=false:=λi j hij hj q=>by
  cases z:Gi blt left key (el j) with
  | false=>rfl
  | true=>rw[mono i j hij hj z] at q; cases q
 rw[nK]
 refine Bd (Sm C R ok hk hh ?_)
 dsimp only
 cases hb:Gi blt left key (el hint) with
 | true =>
  rw[if_pos rfl]
  refine Bd (Gy (Eh (I:=λx c st'=>∃la o,c=(none,la,o)/\st'=st/\la<o/\x+1<=o/\hint+la<n/\Gi blt left key (el (hint+la))=true)
   (Q:=λc st'=>∃la o,c=(none,la,o)/\st'=st/\la<o/\hint+la<n/\Gi blt left key (el (hint+la))=true/\(o ≥ n - hint\/(hint+o<n/\Gi blt left key (el (hint+o))=false))) ?_ ?_
   ⟨0,1,rfl,rfl,by omega,by omega,by omega,hb⟩) ?_)
  ·(intro x c st' _ hx q_; obtain ⟨la,o,rfl,rfl,a1,a2,a3,b1⟩ := q_)
   dsimp only
   by_cases ho:o ≥ n - hint
   ·rw[if_pos ho]
    exact Bk ⟨la,o,rfl,rfl,a1,a3,b1,.inl ho⟩
   ·rw[if_neg ho]
    have hm:hint+o<n:=by omega
    refine Bd (Sm C R ok hk hm ?_)
    dsimp only
    cases hb2:Gi blt left key (el (hint+o)) with
    | true =>
     simp only[Bool.not_true,Bv,if_false]
     exact Bk ⟨o,2 * o+1,rfl,rfl,by omega,by omega,hm,hb2⟩
    | false =>
     simp only[Bool.not_false,if_true]
     exact Bk ⟨la,o,rfl,rfl,a1,a3,b1,.inr ⟨hm,hb2⟩⟩
  ·(intro c st' q_; obtain ⟨la,o,rfl,rfl,a1,a2,a3,b1⟩ := q_)
   have : max 0 n=n:=by omega
   rw[this] at a2
   exact ⟨la,o,rfl,rfl,a1,a3,b1,.inl (by omega)⟩
  ·(intro c st' q_; obtain ⟨la,o,rfl,rfl,a1,a3,b1,b2⟩ := q_)
   dsimp only
   refine qI C R ok hk mono (by omega) (by omega) (λi hi=>mono i _ (by omega) a3 b1) (λi hi hn=>?_) h
   rcases b2 with b2 | ⟨b2,b3⟩
   ·exfalso; omega
   ·exact anti _ i (by omega) hn b3
 | false =>
  rw[if_neg Br]
  refine Bd (Gy (Eh (I:=λx c st'=>∃la o,c=(none,la,o)/\st'=st/\la<o/\x+1<=o/\la<=hint/\Gi blt left key (el (hint - la))=false)
   (Q:=λc st'=>∃la o,c=(none,la,o)/\st'=st/\la<o/\la<=hint/\Gi blt left key (el (hint - la))=false/\(o ≥ hint+1\/(o<=hint/\Gi blt left key (el (hint - o))=true))) ?_ ?_
   ⟨0,1,rfl,rfl,by omega,by omega,by omega,hb⟩) ?_)
  ·(intro x c st' _ hx q_; obtain ⟨la,o,rfl,rfl,a1,a2,a3,b1⟩ := q_)
   dsimp only
   by_cases ho:o ≥ hint+1
   ·rw[if_pos ho]
    exact Bk ⟨la,o,rfl,rfl,a1,a3,b1,.inl ho⟩
   ·rw[if_neg ho]
    have hm:hint - o<n:=by omega
    refine Bd (Sm C R ok hk hm ?_)
    dsimp only
    cases hb2:Gi blt left key (el (hint - o)) with
    | true =>
     rw[if_pos rfl]
     exact Bk ⟨la,o,rfl,rfl,a1,a3,b1,.inr ⟨by omega,hb2⟩⟩
    | false =>
     rw[if_neg Br]
     exact Bk ⟨o,2 * o+1,rfl,rfl,by omega,by omega,by omega,hb2⟩
  ·(intro c st' q_; obtain ⟨la,o,rfl,rfl,a1,a2,a3,b1⟩ := q_)
   have : max 0 n=n:=by omega
   rw[this] at a2
   exact ⟨la,o,rfl,rfl,a1,a3,b1,.inl (by omega)⟩
  ·(intro c st' q_; obtain ⟨la,o,rfl,rfl,a1,a3,b1,b2⟩ := q_)
   dsimp only
   refine qI C R ok hk mono (by omega) (by omega) (λi hi=>?_) (λi hi hn=>anti _ i hi hn b1) h
   rcases b2 with b2 | ⟨b2,b3⟩
   ·exfalso; omega
   ·exact mono i _ (by omega) (by omega) b3
end
structure MI{α:Type}(R:α->α->Prop)(xs ys out:List α)(i j:Nat):Prop where
 perm:out.Perm (xs.take i++ys.take j)
 srt:out.Pairwise R
 lx:∀o∈out,∀z∈xs.drop i,R o z
 ly:∀o∈out,∀z∈ys.drop j,R o z
section
variable{α:Type}{R:α->α->Prop}{xs ys out:List α}{i j:Nat}
theorem eD{l:List α}(h:l[n]? = some a):l.drop n=a::l.drop (n+1):=by
 obtain ⟨hn,e⟩:=Ap.mp h
 rw[List.drop_eq_getElem_cons hn,e]
theorem take_snoc{l:List α}(h:l[n]? = some a):l.take (n+1)=l.take n++[a]:=by
 rw[List.take_succ,h]; rfl
theorem MI.pushY(M:MI R xs ys out i j)(sy:ys.Pairwise R)(hy:ys[j]? = some y)(hx:∀z∈xs.drop i,R y z):MI R xs ys (out++[y]) i (j+1):=by
 have dy:=eD hy
 have sd:(y::ys.drop (j+1)).Pairwise R:=by rw[<- dy]; exact Ia (Jv _ _) sy
 obtain ⟨s1,s2⟩:=Bb.mp sd
 refine ⟨?_,?_,λo ho z hz=>?_,λo ho z hz=>?_⟩
 ·rw[take_snoc hy,<- Bw]
  exact M.perm.append_right _
 ·refine Ca.mpr ⟨M.srt,Gg _ _,λo ho z hz=>?_⟩
  have e:z=y:=by simpa using hz
  rw[e]
  exact M.ly o ho y (by rw[dy]; exact Ab)
 ·rcases Ay.mp ho with ho | ho
  ·exact M.lx o ho z hz
  ·have e:o=y:=by simpa using ho
   rw[e]; exact hx z hz
 ·rcases Ay.mp ho with ho | ho
  ·exact M.ly o ho z (by rw[dy]; exact Ae _ hz)
  ·have e:o=y:=by simpa using ho
   rw[e]; exact s1 z hz
theorem MI.pushX(M:MI R xs ys out i j)(sx:xs.Pairwise R)(hx:xs[i]? = some x)(hy:∀z∈ys.drop j,R x z):MI R xs ys (out++[x]) (i+1) j:=by
 have dx:=eD hx
 have sd:(x::xs.drop (i+1)).Pairwise R:=by rw[<- dx]; exact Ia (Jv _ _) sx
 obtain ⟨s1,s2⟩:=Bb.mp sd
 refine ⟨?_,?_,λo ho z hz=>?_,λo ho z hz=>?_⟩
 ·rw[take_snoc hx]
  have p1:(out++[x]).Perm ((xs.take i++ys.take j)++[x]):=M.perm.append_right _
  refine p1.trans ?_
  rw[Bw,Bw]
  exact Lp _ Fv
 ·refine Ca.mpr ⟨M.srt,Gg _ _,λo ho z hz=>?_⟩
  have e:z=x:=by simpa using hz
  rw[e]
  exact M.lx o ho x (by rw[dx]; exact Ab)
 ·rcases Ay.mp ho with ho | ho
  ·exact M.lx o ho z (by rw[dx]; exact Ae _ hz)
  ·have e:o=x:=by simpa using ho
   rw[e]; exact s1 z hz
 ·rcases Ay.mp ho with ho | ho
  ·exact M.ly o ho z hz
  ·have e:o=x:=by simpa using ho
   rw[e]; exact hy z hz
theorem Rn{l:List α}(h:l[n+k]? = some a):(l.drop n).take (k+1)=(l.drop n).take k++[a]:=take_snoc (by rw[Xv]; exact h)
theorem MI.blockX(M:MI R xs ys out i j)(sx:xs.Pairwise R):∀k,i+k<=xs.length->(∀m,m<k->∀x,xs[i+m]? = some x->∀z∈ys.drop j,R x z)->MI R xs ys (out++(xs.drop i).take k) (i+k) j
 | 0,_,_=>by simpa using M
 | k+1,hk,h=>by
  have ih:=MI.blockX M sx k (by omega) λm hm=>h m (by omega)
  obtain ⟨x,hx⟩ : ∃x,xs[i+k]? = some x:=⟨xs[i+k],by simp⟩
  rw[Rn hx,<- Bw]
  exact ih.pushX sx hx (h k (by omega) x hx)
theorem MI.blockY(M:MI R xs ys out i j)(sy:ys.Pairwise R):∀k,j+k<=ys.length->(∀m,m<k->∀y,ys[j+m]? = some y->∀z∈xs.drop i,R y z)->MI R xs ys (out++(ys.drop j).take k) i (j+k)
 | 0,_,_=>by simpa using M
 | k+1,hk,h=>by
  have ih:=MI.blockY M sy k (by omega) λm hm=>h m (by omega)
  obtain ⟨y,hy⟩ : ∃y,ys[j+k]? = some y:=⟨ys[j+k],by simp⟩
  rw[Rn hy,<- Bw]
  exact ih.pushY sy hy (h k (by omega) y hy)
theorem MI.endX(M:MI R xs ys out i j)(sx:xs.Pairwise R)(hj:ys.length<=j):(out++xs.drop i++ys.drop j).Perm (xs++ys)/\(out++xs.drop i++ys.drop j).Pairwise R:=by
 rw[List.drop_eq_nil_of_le hj,Ea]
 constructor
 ·have p1:(out++xs.drop i).Perm ((xs.take i++ys.take j)++xs.drop i):=M.perm.append_right _
  refine p1.trans ?_
  rw[Es hj]
  have p2:(xs.take i++ys++xs.drop i).Perm (xs.take i++(xs.drop i++ys)):=by
   rw[Bw]
   exact Lp _ Fv
  refine p2.trans ?_
  rw[<- Bw,Jo]
 ·exact Ca.mpr ⟨M.srt,Ia (Jv _ _) sx,M.lx⟩
theorem MI.endYX(M:MI R xs ys out i j)(sx:xs.Pairwise R)(sy:ys.Pairwise R)(h:∀y∈ys.drop j,∀x∈xs.drop i,R y x):(out++ys.drop j++xs.drop i).Perm (xs++ys)/\(out++ys.drop j++xs.drop i).Pairwise R:=by
 constructor
 ·have p1:(out++(ys.drop j++xs.drop i)).Perm ((xs.take i++ys.take j)++(ys.drop j++xs.drop i)):=M.perm.append_right _
  rw[Bw]
  refine p1.trans ?_
  rw[Bw,<- Bw (ys.take j),Jo]
  have p2:(xs.take i++(ys++xs.drop i)).Perm (xs.take i++(xs.drop i++ys)):=Lp _ Fv
  refine p2.trans ?_
  rw[<- Bw,Jo]
 ·refine Ca.mpr ⟨Ca.mpr ⟨M.srt,Ia (Jv _ _) sy,M.ly⟩,Ia (Jv _ _) sx,λa ha b hb=>?_⟩
  rcases Ay.mp ha with ha | ha
  ·exact M.lx a ha b hb
  ·exact h a ha b hb
end
def jX:Array Keyed->Array Keyed->StateT Bu Sem (Array Keyed):=sortPriv% PySem.Builtin.mergeLo
def Zk:Nat->StateT Bu Sem Unit:=sortPriv% PySem.Builtin.setMinGallop
abbrev U5(st:Bu)(g:Nat):Bu:=Wh (kindOf st) (arrOf st) (Bj st) g (Ky st)
theorem nS(g:Nat):Zk g=modify λst=>U5 st g:=rfl
theorem Ze(p:Array Keyed)(i:Nat):(p.extract i p.size).toList=p.toList.drop i:=by
 rw[Ng,Kn,Es]
 rw[cM,Az]
 exact Ak _
theorem Ve(p:Array Keyed)(i k:Nat):(p.extract i (i+k)).toList=(p.toList.drop i).take k:=by
 rw[Ng,Kn,Nat.add_sub_cancel_left]
abbrev dn(p q out:Array Keyed)(i j:Nat):Array Keyed:=out++p.extract i p.size++q.extract j q.size
abbrev lst(p q out:Array Keyed)(i j:Nat):Array Keyed:=out++q.extract j q.size++p.extract i p.size
theorem B5(p q out:Array Keyed)(i j:Nat):(dn p q out i j).toList=out.toList++p.toList.drop i++q.toList.drop j:=by
 rw[Dq,Dq,Ze,Ze]
theorem xC(p q out:Array Keyed)(i j:Nat):(lst p q out i j).toList=out.toList++q.toList.drop j++p.toList.drop i:=by
 rw[Dq,Dq,Ze,Ze]
abbrev M6:=Option (Array Keyed)×Array Keyed×Nat×Nat×Nat×Nat×Nat
def F4(p q out:Array Keyed)(i j g ac k:Nat):StateT Bu Sem (ForInStep M6):=do
 let x <- elem' p i
 if (i+1+1 == p.size)=true then pure (Cs (some (lst p q (out.push x) (i+1) j),out.push x,i+1,j,g,ac,k))
 else if (decide (ac<7) && decide (k<7))=true then pure (Cs (none,out.push x,i+1,j,g,ac,k))
 else pure (Fi (none,out.push x,i+1,j,g,ac,k))
def A6(p q out:Array Keyed)(i j g ac bc:Nat):StateT Bu Sem (ForInStep M6):=do
 let y <- elem' q j
 if (j+1 == q.size)=true then pure (Cs (some (dn p q (out.push y) i (j+1)),out.push y,i,j+1,g,ac,bc))
 else do
  let x <- elem' p i
  let some k <- So true x q (j+1) (q.size - (j+1)) 0 | pure (Cs (some (dn p q (out.push y) i (j+1)),out.push y,i,j+1,g,ac,bc))
  if k > 0 then
   if (j+1+k == q.size)=true then pure (Cs (some (dn p q (out.push y++q.extract (j+1) (j+1+k)) i (j+1+k)),out.push y++q.extract (j+1) (j+1+k),i,j+1+k,g,ac,k))
   else F4 p q (out.push y++q.extract (j+1) (j+1+k)) i (j+1+k) g ac k
  else F4 p q (out.push y) i (j+1) g ac k
def Y5(p q out:Array Keyed)(i j g ac bc:Nat):StateT Bu Sem (ForInStep M6):=do
 Zk g
 let y <- elem' q j
 let some k <- So false y p i (p.size - i) 0 | pure (Cs (some (dn p q out i j),out,i,j,g,ac,bc))
 if k > 0 then
  if (i+k+1 == p.size)=true then pure (Cs (some (lst p q (out++p.extract i (i+k)) (i+k) j),out++p.extract i (i+k),i+k,j,g,k,bc))
  else if (i+k == p.size)=true then pure (Cs (some (dn p q (out++p.extract i (i+k)) (i+k) j),out++p.extract i (i+k),i+k,j,g,k,bc))
  else A6 p q (out++p.extract i (i+k)) (i+k) j g k bc
 else A6 p q out i j g k bc
section
variable{prog:Bq}{w:World}{A:Cr}{s:Aj}{kd:Lw}{Ok:Keyed->Prop}{blt:Keyed->Keyed->Bool}{E:Value->Aj->Prop}
theorem Sk{st:Bu}(h:Q () st):wpS (model prog w) A E s (liftM (rule x):StateT Bu Sem Unit) Q st:=wpS_lift (Kw ⟨rfl,h⟩)
theorem Sv{st:Bu}(h:∀st',Kept st st'->Q () st'):wpS (model prog w) A E s (Zk g) Q st:=by
 rw[nS]
 exact Jp (h _ ⟨rfl,rfl,rfl,rfl⟩)
structure Two(Ok:Keyed->Prop)(blt:Keyed->Keyed->Bool)(p q:Array Keyed)(x0 y0 xl:Keyed):Prop where
 op:∀x∈p.toList,Ok x
 oq:∀x∈q.toList,Ok x
 sp:p.toList.Pairwise (le blt)
 sq:q.toList.Pairwise (le blt)
 hx0:p[0]? = some x0
 hy0:q[0]? = some y0
 hxl:p[p.size - 1]? = some xl
 first:blt y0 x0=true
 last:∀y∈q.toList,blt y xl=true
abbrev mY(blt:Keyed->Keyed->Bool)(p q r:Array Keyed):Prop:=r.toList.Perm (p.toList++q.toList)/\r.toList.Pairwise (le blt)
theorem Ef{p:Array Keyed}{i:Nat}(h:p[i]? = some x):p.toList[i]? = some x:=by simpa using h
theorem Fj{p:Array Keyed}(h:i<p.size):∃x,p[i]? = some x:=⟨p[i],by simp [h]⟩
theorem Jf{p:Array Keyed}{i:Nat}(h:p[i]? = some x):x∈p.toList:=Ax (Ef h)
theorem lA{α:Type}{l:List α}{z:α}(h:z∈l.drop i):∃k,l[i+k]? = some z:=by
 obtain ⟨k,hk,e⟩:=Hq.mp h
 exact ⟨k,by rw[<- Xv,Ba hk,e]⟩
theorem Ks(C:Cmp prog w A s kd Ok blt){l:List Keyed}(sl:l.Pairwise (le blt)){i j:Nat}(hij:i<=j)(hx:l[i]? = some x)(hy:l[j]? = some y):le blt x y:=by
 by_cases e:i=j
 ·subst e
  rw[hx] at hy
  cases hy
  exact C.refl x
 ·obtain ⟨hi,ex⟩:=Ap.mp hx
  obtain ⟨hj,ey⟩:=Ap.mp hy
  have:=Ew.mp sl i j hi hj (by omega)
  rw[ex,ey] at this
  exact this
theorem Ou(C:Cmp prog w A s kd Ok blt){l:List Keyed}(sl:l.Pairwise (le blt))(hx:l[i]? = some x)(h:le blt y x):∀z∈l.drop i,le blt y z:=λz hz=>by
 obtain ⟨k,hk⟩:=lA hz
 exact C.trans h (Ks C sl (Kl i k) hx hk)
abbrev LI(blt:Keyed->Keyed->Bool)(p q out:Array Keyed)(i j:Nat):Prop:=MI (le blt) p.toList q.toList out.toList i j
theorem Nq(out:Array Keyed)(x:Keyed):(out.push x).toList=out.toList++[x]:=by simp
theorem Two.last_end(C:Cmp prog w A s kd Ok blt)(T:Two Ok blt p q x0 y0 xl)(M:LI blt p q out i j)(hi:i+1=p.size):mY blt p q (lst p q out i j):=by
 have h:=M.endYX T.sp T.sq (λy hy x hx=>?_)
 ·rw[<- xC] at h
  exact h
 ·obtain ⟨k,hk⟩:=lA hx
  have : k=0:=by
   have:=(Ap.mp hk).1
   rw[Az] at this
   omega
  subst this
  have e:x=xl:=by
   have:=Ef T.hxl
   rw[show p.size - 1=i+0 by omega,hk] at this
   exact Bn this
  rw[e]
  exact C.ofLt (T.last y (List.mem_of_mem_drop hy))
theorem Two.done_end(T:Two Ok blt p q x0 y0 xl)(M:LI blt p q out i j)(hj:q.size<=j):mY blt p q (dn p q out i j):=by
 have h:=M.endX T.sp (by rw[Az]; exact hj)
 rw[<- B5] at h
 exact h
def EM(blt:Keyed->Keyed->Bool)(p q:Array Keyed)(st:Bu)(n:Nat)(r:ForInStep M6)(st':Bu):Prop:=Kept st st'/\match r with
 | .done (some r,_)=>mY blt p q r
 | .done (none,out,i,j,_)=>LI blt p q out i j/\i+1<p.size/\j<q.size/\n<i+j
 | .yield (none,out,i,j,_)=>LI blt p q out i j/\i+1<p.size/\j<q.size/\n<i+j
 | .yield (some _,_)=>False
theorem rL(C:Cmp prog w A s kd Ok blt)(T:Two Ok blt p q x0 y0 xl){st0 st:Bu}(kp:Kept st0 st)(M:LI blt p q out i j)(hi:i+1<p.size)(hj:j<q.size)(hn:n<=i+j)(hx:p[i]? = some x)(hq:∀z∈q.toList.drop j,le blt x z):wpS (model prog w) A E s (F4 p q out i j g ac k) (EM blt p q st0 n) st:=by
 unfold F4
 refine Bd (Fg hx ?_)
 have M1:LI blt p q (out.push x) (i+1) j:=by
  have:=M.pushX T.sp (Ef hx) hq
  rw[<- Nq] at this
  exact this
 by_cases h1:i+1+1=p.size
 ·rw[if_pos (by rw[h1]; exact beq_self_eq_true _)]
  exact Bk ⟨kp,T.last_end C M1 h1⟩
 ·rw[if_neg (λz=>h1 (Dt z))]
  by_cases h2:(decide (ac<7) && decide (k<7))=true
  ·rw[if_pos h2]
   exact Bk ⟨kp,M1,by omega,hj,by omega⟩
  ·rw[if_neg h2]
   exact Bk ⟨kp,M1,by omega,hj,by omega⟩
theorem sH(C:Cmp prog w A s kd Ok blt)(T:Two Ok blt p q x0 y0 xl){st0 st:Bu}(kp:Kept st0 st)(hk:kindOf st=kd)(M:LI blt p q out i j)(hi:i+1<p.size)(hj:j<q.size)(hn:n<=i+j)(hx:p[i]? = some x)(hy:q[j]? = some y)(hyx:blt y x=true):wpS (model prog w) A E s (A6 p q out i j g ac bc) (EM blt p q st0 n) st:=by
 unfold A6
 refine Bd (Fg hy ?_)
 have M1:LI blt p q (out.push y) i (j+1):=by
  have:=M.pushY T.sq (Ef hy) (Ou C T.sp (Ef hx) (C.ofLt hyx))
  rw[<- Nq] at this
  exact this
 by_cases h1:j+1=q.size
 ·rw[if_pos (by rw[h1]; exact beq_self_eq_true _)]
  exact Bk ⟨kp,T.done_end M1 (by omega)⟩
 ·rw[if_neg (λz=>h1 (Dt z))]
  refine Bd (Fg hx ?_)
  have R:Row Ok q (j+1) (q.size - (j+1)) (λm=>q.getD (j+1+m) y):=⟨λm hm=>?_,λm hm=>?_⟩
  ·refine Bd (Np C R (T.op x (Jf hx)) hk (by omega) (λa b hab hb q1=>?_) λk hk1 t1 t2=>?_)
   ·obtain ⟨ya,ea⟩:=Fj (p:=q) (i:=j+1+a) (by omega)
    obtain ⟨yb,eb⟩:=Fj (p:=q) (i:=j+1+b) (by omega)
    have ga:q.getD (j+1+a) y=ya:=by simp [Du,ea]
    have gb:q.getD (j+1+b) y=yb:=by simp [Du,eb]
    simp only[ga,gb,Gi,if_true] at q1 ⊢
    exact C.leLt (Ks C T.sq (by omega) (Ef ea) (Ef eb)) q1
   ·dsimp only
    have val:∀m yy,q[j+1+m]? = some yy->q.getD (j+1+m) y=yy:=λm yy e=>by simp [Du,e]
    have M2:LI blt p q (out.push y++q.extract (j+1) (j+1+k)) i (j+1+k):=by
     have:=M1.blockY T.sq k (by rw[Az]; omega) (λm hm yy ey=>by
      have ey':q[j+1+m]? = some yy:=by simpa using ey
      have:=t1 m hm
      rw[val m yy ey'] at this
      simp only[Gi,if_true] at this
      exact Ou C T.sp (Ef hx) (C.ofLt this))
     rw[<- Ve,<- Dq] at this
     exact this
    by_cases h2:k > 0
    ·rw[if_pos h2]
     by_cases h3:j+1+k=q.size
     ·rw[if_pos (by rw[h3]; exact beq_self_eq_true _)]
      exact Bk ⟨kp,T.done_end M2 (by omega)⟩
     ·rw[if_neg (λz=>h3 (Dt z))]
      obtain ⟨yk,ek⟩:=Fj (p:=q) (i:=j+1+k) (by omega)
      refine rL C T kp M2 hi (by omega) (by omega) hx (Ou C T.sq (Ef ek) ?_)
      have:=t2 k (Ak _) (by omega)
      rw[val k yk ek] at this
      have z:blt yk x=false:=by simpa only [Gi,if_true] using this
      exact z
    ·rw[if_neg h2]
     have hk0:k=0:=by omega
     subst hk0
     obtain ⟨yk,ek⟩:=Fj (p:=q) (i:=j+1) (by omega)
     refine rL C T kp M1 hi (by omega) (by omega) hx (Ou C T.sq (Ef ek) ?_)
     have:=t2 0 (Ak _) (by omega)
     rw[val 0 yk ek] at this
     have z:blt yk x=false:=by simpa only [Gi,if_true] using this
     exact z
  ·obtain ⟨ya,ea⟩:=Fj (p:=q) (i:=j+1+m) (by omega)
   rw[ea]
   simp [Du,ea]
  ·obtain ⟨ya,ea⟩:=Fj (p:=q) (i:=j+1+m) (by omega)
   have : q.getD (j+1+m) y=ya:=by simp [Du,ea]
   rw[this]
   exact T.oq ya (Jf ea)
theorem G6(C:Cmp prog w A s kd Ok blt)(T:Two Ok blt p q x0 y0 xl){st0 st:Bu}(kp:Kept st0 st)(hk:kindOf st=kd)(M:LI blt p q out i j)(hi:i+1<p.size)(hj:j<q.size)(hn:n<=i+j):wpS (model prog w) A E s (Y5 p q out i j g ac bc) (EM blt p q st0 n) st:=by
 unfold Y5
 refine Bd (Sv λst1 kp1=>?_)
 have kp':=kp.trans kp1
 have hk':kindOf st1=kd:=kp1.kind.trans hk
 obtain ⟨y,hy⟩:=Fj (p:=q) hj
 refine Bd (Fg hy ?_)
 have val:∀m xx,p[i+m]? = some xx->p.getD (i+m) y=xx:=λm xx e=>by simp [Du,e]
 have R:Row Ok p i (p.size - i) (λm=>p.getD (i+m) y):=⟨λm hm=>by
  obtain ⟨xa,ea⟩:=Fj (p:=p) (i:=i+m) (by omega)
  rw[val m xa ea,ea],λm hm=>by
  obtain ⟨xa,ea⟩:=Fj (p:=p) (i:=i+m) (by omega)
  show Ok (p.getD (i+m) y)
  rw[val m xa ea]
  exact T.op xa (Jf ea)⟩
 refine Bd (Np C R (T.oq y (Jf hy)) hk' (by omega) (λa b hab hb q1=>?_) λk hk1 t1 t2=>?_)
 ·obtain ⟨xa,ea⟩:=Fj (p:=p) (i:=i+a) (by omega)
  obtain ⟨xb,eb⟩:=Fj (p:=p) (i:=i+b) (by omega)
  simp only[val a xa ea,val b xb eb,Gi,Bv,if_false,Jx] at q1 ⊢
  exact C.trans (Ks C T.sp (by omega) (Ef ea) (Ef eb)) q1
 ·dsimp only
  -- the last one is beyond y: so k does not reach it
  have hkl:i+k+1<=p.size:=by
   rcases Nat.lt_or_ge (i+k) p.size with z | z
   ·omega
   ·exfalso
    have:=t1 (p.size - 1 - i) (by omega)
    have e:p[i+(p.size - 1 - i)]? = some xl:=by
     rw[show i+(p.size - 1 - i)=p.size - 1 by omega]
     exact T.hxl
    rw[val _ xl e] at this
    simp only[Gi,Bv,if_false,T.last y (Jf hy),Bool.not_true] at this
  have M1:LI blt p q (out++p.extract i (i+k)) (i+k) j:=by
   have:=M.blockX T.sp k (by rw[Az]; omega) (λm hm xx ex=>by
    have ex':p[i+m]? = some xx:=by simpa using ex
    have:=t1 m hm
    rw[val m xx ex'] at this
    simp only[Gi,Bv,if_false,Jx] at this
    exact Ou C T.sq (Ef hy) this)
   rw[<- Ve,<- Dq] at this
   exact this
  obtain ⟨xk,ek⟩:=Fj (p:=p) (i:=i+k) (by omega)
  have hyx:blt y xk=true:=by
   have:=t2 k (Ak _) (by omega)
   rw[val k xk ek] at this
   simpa only [Gi,Bv,if_false,Xx] using this
  by_cases h2:k > 0
  ·rw[if_pos h2]
   by_cases h3:i+k+1=p.size
   ·rw[if_pos (by rw[h3]; exact beq_self_eq_true _)]
    exact Bk ⟨kp',T.last_end C M1 h3⟩
   ·rw[if_neg (λz=>h3 (Dt z)),if_neg (λz=>by have:=Dt z; omega)]
    exact sH C T kp' hk' M1 (by omega) hj (by omega) ek hy hyx
  ·rw[if_neg h2]
   have hk0:k=0:=by omega
   subst hk0
   exact sH C T kp' hk' M hi hj hn ek hy hyx
theorem nA(C:Cmp prog w A s kd Ok blt)(T:Two Ok blt p q x0 y0 xl){st:Bu}(hk:kindOf st=kd)(h:∀r st',Kept st st'->mY blt p q r->Q r st'):wpS (model prog w) A E s (jX p q) Q st:=by
 have p0:0<p.size:=by
  have:=(Gz.mp T.hx0).1
  exact this
 have q0:0<q.size:=by
  have:=(Gz.mp T.hy0).1
  exact this
 have M0:LI blt p q #[y0] 0 1:=by
  have m:LI blt p q #[] 0 0:=⟨by simp,by simp,λo ho=>by simp at ho,λo ho=>by simp at ho⟩
  have:=m.pushY T.sq (Ef T.hy0) (Ou C T.sp (Ef T.hx0) (C.ofLt T.first))
  simpa using this
 unfold jX
 refine Bd (Sk ?_)
 refine Bd (Fg T.hy0 ?_)
 dsimp only
 by_cases h1:1=q.size
 ·rw[if_pos (by rw[<- h1]; rfl)]
  exact Bk (h _ _ (Kept.refl _) (T.done_end M0 (by omega)))
 rw[if_neg (λz=>h1 (Dt z))]
 by_cases h2:0+1=p.size
 ·rw[if_pos (by rw[<- h2]; rfl)]
  exact Bk (h _ _ (Kept.refl _) (T.last_end C M0 (by omega)))
 rw[if_neg (λz=>h2 (Dt z))]
 refine Bd (Nb ?_)
 refine Bd (Gy (Eh
  (I:=λx c st'=>Kept st st'/\∃out i j g,c=(none,out,i,j,g)/\LI blt p q out i j/\i+1<p.size/\j<q.size/\x+1<=i+j)
  (Q:=λc st'=>Kept st st'/\∃r Gk,c=(some r,Gk)/\mY blt p q r) ?_ ?_ ⟨Kept.refl _,_,0,1,_,rfl,M0,by omega,by omega,by omega⟩) ?_)
 ·(intro x c st1 _ hx q_; obtain ⟨kp1,out,i,j,g,rfl,M,hi,hj,hn⟩ := q_)
  dsimp only
  -- one by one
  refine Bd (Gy (Eh
   (I:=λ_ c st'=>st'=st1/\∃out i j ac bc,c=(none,out,i,j,ac,bc)/\LI blt p q out i j/\i+1<p.size/\j<q.size/\x+1<=i+j)
   (Q:=λc st'=>st'=st1/\((∃r Gk,c=(some r,Gk)/\mY blt p q r)\/∃out i j ac bc,c=(none,out,i,j,ac,bc)/\LI blt p q out i j/\i+1<p.size/\j<q.size/\x+1<=i+j)) ?_ ?_ ⟨rfl,out,i,j,0,0,rfl,M,hi,hj,hn⟩) ?_)
  ·(intro z c st2 _ hz q_; obtain ⟨rfl,out,i,j,ac,bc,rfl,M,hi,hj,hn⟩ := q_)
   dsimp only
   obtain ⟨yy,hy⟩:=Fj (p:=q) hj
   obtain ⟨xx,hx⟩:=Fj (p:=p) (i:=i) (by omega)
   refine Bd (Fg hy ?_)
   refine Bd (Fg hx ?_)
   refine Bd (kB C (kp1.kind.trans hk) (T.oq yy (Jf hy)) (T.op xx (Jf hx)) ?_)
   dsimp only
   cases hb:blt yy xx with
   | true =>
    rw[if_pos rfl]
    refine Bd (Fg hy ?_)
    have M1:LI blt p q (out.push yy) i (j+1):=by
     have:=M.pushY T.sq (Ef hy) (Ou C T.sp (Ef hx) (C.ofLt hb))
     rw[<- Nq] at this
     exact this
    by_cases e1:j+1=q.size
    ·rw[if_pos (by rw[e1]; exact beq_self_eq_true _)]
     exact Bk ⟨rfl,.inl ⟨_,_,rfl,T.done_end M1 (by omega)⟩⟩
    ·rw[if_neg (λz=>e1 (Dt z))]
     split
     ·exact Bk ⟨rfl,.inr ⟨_,_,_,_,_,rfl,M1,hi,by omega,by omega⟩⟩
     ·exact Bk ⟨rfl,_,_,_,_,_,rfl,M1,hi,by omega,by omega⟩
   | false =>
    rw[if_neg Br]
    refine Bd (Fg hx ?_)
    have M1:LI blt p q (out.push xx) (i+1) j:=by
     have:=M.pushX T.sp (Ef hx) (Ou C T.sq (Ef hy) hb)
     rw[<- Nq] at this
     exact this
    by_cases e1:i+1+1=p.size
    ·rw[if_pos (by rw[e1]; exact beq_self_eq_true _)]
     exact Bk ⟨rfl,.inl ⟨_,_,rfl,T.last_end C M1 (by omega)⟩⟩
    ·rw[if_neg (λz=>e1 (Dt z))]
     split
     ·exact Bk ⟨rfl,.inr ⟨_,_,_,_,_,rfl,M1,by omega,hj,by omega⟩⟩
     ·exact Bk ⟨rfl,_,_,_,_,_,rfl,M1,by omega,hj,by omega⟩
  ·(intro c st2 q_; obtain ⟨rfl,out,i,j,ac,bc,rfl,M⟩ := q_)
   exact ⟨rfl,.inr ⟨out,i,j,ac,bc,rfl,M⟩⟩
  ·rintro c st2 ⟨rfl,hc⟩
   rcases hc with hc | hc
   ·obtain ⟨r,Gk,rfl,hr⟩:=hc
    exact Bk ⟨kp1,r,_,rfl,hr⟩
   ·obtain ⟨out,i,j,ac,bc,rfl,M,hi,hj,hn⟩:=hc
    dsimp only
    refine Bd (Sk ?_)
    -- the gallop
    refine Bd (Gy (Eh
     (I:=λy c st'=>Kept st st'/\∃out i j g ac bc,c=(none,out,i,j,g,ac,bc)/\LI blt p q out i j/\i+1<p.size/\j<q.size/\(if y=0 then x+1<=i+j else x+2<=i+j))
     (Q:=λc st'=>Kept st st'/\((∃r Gk,c=(some r,Gk)/\mY blt p q r)\/∃out i j g ac bc,c=(none,out,i,j,g,ac,bc)/\LI blt p q out i j/\i+1<p.size/\j<q.size/\x+2<=i+j)) ?_ ?_
     ⟨kp1,out,i,j,_,ac,bc,rfl,M,hi,hj,by rw[if_pos rfl]; exact hn⟩) ?_)
    ·(intro y c st3 _ hy q_; obtain ⟨kp3,out,i,j,g,ac,bc,rfl,M,hi,hj,hn⟩ := q_)
     have hn':x+1<=i+j:=by split at hn <;> omega
     have key:∀g',wpS (model prog w) A E s (Y5 p q out i j g' ac bc) (EM blt p q st (x+1)) st3:=λg'=>G6 C T kp3 (kp3.kind.trans hk) M hi hj hn'
     dsimp only
     refine Gy (?_:wpS (model prog w) A E s _ (EM blt p q st (x+1)) st3) λr st4 hr=>?_
     ·by_cases hg:g > 1
      ·rw[if_pos hg]
       exact key _
      ·rw[if_neg hg]
       exact key _
     ·obtain ⟨kp4,hr⟩:=hr
      match r,hr with
      | .done (some r,Gk),hr=>exact ⟨kp4,.inl ⟨r,Gk,rfl,hr⟩⟩
      | .done (none,out,i,j,g,ac,bc),hr=>exact ⟨kp4,.inr ⟨out,i,j,g,ac,bc,rfl,hr.1,hr.2.1,hr.2.2.1,by have:=hr.2.2.2; omega⟩⟩
      | .yield (none,out,i,j,g,ac,bc),hr=>exact ⟨kp4,out,i,j,g,ac,bc,rfl,hr.1,hr.2.1,hr.2.2.1,by rw[if_neg (by omega)]; have:=hr.2.2.2; omega⟩
    ·(intro c st3 q_; obtain ⟨kp3,out,i,j,g,ac,bc,rfl,M,hi,hj,hn⟩ := q_)
     rw[if_neg (by omega)] at hn
     exact ⟨kp3,.inr ⟨out,i,j,g,ac,bc,rfl,M,hi,hj,hn⟩⟩
    ·rintro c st3 ⟨kp3,hc⟩
     rcases hc with hc | hc
     ·obtain ⟨r,Gk,rfl,hr⟩:=hc
      exact Bk ⟨kp3,r,_,rfl,hr⟩
     ·obtain ⟨out,i,j,g,ac,bc,rfl,M,hi,hj,hn⟩:=hc
      dsimp only
      refine Bd (Sv λst4 kp4=>?_)
      exact Bk ⟨kp3.trans kp4,out,i,j,_,rfl,M,hi,hj,by omega⟩
 ·(intro c st1 q_; obtain ⟨kp1,out,i,j,g,rfl,M,hi,hj,hn⟩ := q_)
  exfalso
  have : max 0 (p.size+q.size)=p.size+q.size:=by omega
  rw[this] at hn
  omega
 ·(intro c st1 q_; obtain ⟨kp1,r,Gk,rfl,hr⟩ := q_)
  exact Bk (h r st1 kp1 hr)
end
def jJ:Array Keyed->Array Keyed->StateT Bu Sem (Array Keyed):=sortPriv% PySem.Builtin.mergeHi
abbrev T2(p q out:Array Keyed)(m n:Nat):Array Keyed:=p.extract 0 m++q.extract 0 n++out.reverse
abbrev FK(p q out:Array Keyed)(m n:Nat):Array Keyed:=q.extract 0 n++p.extract 0 m++out.reverse
abbrev B7:=Option (Array Keyed)×Nat×Nat×Array Keyed×Nat×Nat×Nat
def D0(p q out:Array Keyed)(m n g ac k:Nat):StateT Bu Sem (ForInStep B7):=do
 let x <- elem' p (m - 1)
 if (m - 1 == 0)=true then pure (Cs (some (T2 p q (out.push x) (m - 1) n),m - 1,n,out.push x,g,ac,k))
 else if (decide (ac<7) && decide (k<7))=true then pure (Cs (none,m - 1,n,out.push x,g,ac,k))
 else pure (Fi (none,m - 1,n,out.push x,g,ac,k))
def C5(p q out:Array Keyed)(m n g ac bc:Nat):StateT Bu Sem (ForInStep B7):=do
 let y <- elem' q (n - 1)
 if (n - 1 == 1)=true then pure (Cs (some (FK p q (out.push y) m (n - 1)),m,n - 1,out.push y,g,ac,bc))
 else do
  let x <- elem' p (m - 1)
  let some t <- So true x q 0 (n - 1) (n - 1 - 1) | pure (Cs (some (T2 p q (out.push y) m (n - 1)),m,n - 1,out.push y,g,ac,bc))
  if n - 1 - t > 0 then
   if (t == 1)=true then pure (Cs (some (FK p q (out.push y++(q.extract t (n - 1)).reverse) m t),m,t,out.push y++(q.extract t (n - 1)).reverse,g,ac,n - 1 - t))
   else if (t == 0)=true then pure (Cs (some (T2 p q (out.push y++(q.extract t (n - 1)).reverse) m t),m,t,out.push y++(q.extract t (n - 1)).reverse,g,ac,n - 1 - t))
   else D0 p q (out.push y++(q.extract t (n - 1)).reverse) m t g ac (n - 1 - t)
  else D0 p q (out.push y) m (n - 1) g ac (n - 1 - t)
def T5(p q out:Array Keyed)(m n g ac bc:Nat):StateT Bu Sem (ForInStep B7):=do
 Zk g
 let y <- elem' q (n - 1)
 let some t <- So false y p 0 m (m - 1) | pure (Cs (some (T2 p q out m n),m,n,out,g,ac,bc))
 if m - t > 0 then
  if (t == 0)=true then pure (Cs (some (T2 p q (out++(p.extract t m).reverse) t n),t,n,out++(p.extract t m).reverse,g,m - t,bc))
  else C5 p q (out++(p.extract t m).reverse) t n g (m - t) bc
 else C5 p q out m n g (m - t) bc
section
variable{α:Type}{R:α->α->Prop}{xs ys out:List α}{i j:Nat}
theorem MI.swap(M:MI R xs ys out i j):MI R ys xs out j i:=⟨M.perm.trans Fv,M.srt,M.ly,M.lx⟩
theorem MI.endXY(M:MI R xs ys out i j)(sx:xs.Pairwise R)(sy:ys.Pairwise R)(h:∀x∈xs.drop i,∀y∈ys.drop j,R x y):(out++xs.drop i++ys.drop j).Perm (xs++ys)/\(out++xs.drop i++ys.drop j).Pairwise R:=by
 have:=M.swap.endYX sy sx h
 exact ⟨this.1.trans Fv,this.2⟩
end
abbrev ge(blt:Keyed->Keyed->Bool)(x y:Keyed):Prop:=le blt y x
abbrev HI(blt:Keyed->Keyed->Bool)(p q out:Array Keyed)(m n:Nat):Prop:=MI (ge blt) p.toList.reverse q.toList.reverse out.toList (p.size - m) (q.size - n)
theorem Je(p:Array Keyed)(h:m<=p.size):p.toList.reverse.drop (p.size - m)=(p.toList.take m).reverse:=by
 rw[List.drop_reverse,Az]
 congr 2
 omega
theorem xU{p:Array Keyed}(h0:0<m)(h:m<=p.size)(e:p[m - 1]? = some x):p.toList.reverse[p.size - m]? = some x:=by
 rw[Tw (by rw[Az]; omega),Az,show p.size - 1 - (p.size - m)=m - 1 by omega]
 exact Ef e
theorem E6(p:Array Keyed)(m:Nat):(p.extract 0 m).toList=p.toList.take m:=by
 rw[Ng,Kn,List.drop_zero,Nat.sub_zero]
theorem ED(p:Array Keyed)(h1:t<=m)(h2:m<=p.size):(p.extract t m).reverse.toList=(p.toList.reverse.drop (p.size - m)).take (m - t):=by
 rw[Je p h2,List.take_reverse,Ud,Ng,Kn,Cw,Az,List.drop_take]
 congr 2
 ·omega
 ·congr 1
  omega
section
variable{prog:Bq}{w:World}{A:Cr}{s:Aj}{kd:Lw}{Ok:Keyed->Prop}{blt:Keyed->Keyed->Bool}{E:Value->Aj->Prop}
theorem Jj{l:List Keyed}(h:l.Pairwise (le blt)):l.reverse.Pairwise (ge blt):=Mp.mpr h
theorem Two.dn_end(T:Two Ok blt p q x0 y0 xl)(M:HI blt p q out m n)(hm:m<=p.size)(hn:n<=q.size)(h:m=0\/n=0):mY blt p q (T2 p q out m n):=by
 have h1:=M.endYX (Jj T.sp) (Jj T.sq) (λy hy x hx=>by
  rw[Je p hm] at hx
  rw[Je q hn] at hy
  rcases h with h | h
  ·subst h; simp at hx
  ·subst h; simp at hy)
 rw[Je p hm,Je q hn] at h1
 have e:(T2 p q out m n).toList=(out.toList++(q.toList.take n).reverse++(p.toList.take m).reverse).reverse:=by
  rw[Dq,Dq,E6,E6,Ud]
  simp
 refine ⟨?_,?_⟩
 ·rw[e]
  refine (Ho _).trans (h1.1.trans ?_)
  exact List.Perm.append (Ho _) (Ho _)
 ·rw[e]
  exact Mp.mpr h1.2
theorem Two.fs_end(C:Cmp prog w A s kd Ok blt)(T:Two Ok blt p q x0 y0 xl)(M:HI blt p q out m n)(hm:m<=p.size)(hn:n=1)(hq:1<=q.size):mY blt p q (FK p q out m n):=by
 subst hn
 have h1:=M.endXY (Jj T.sp) (Jj T.sq) (λx hx y hy=>by
  rw[Je p hm] at hx
  rw[Je q hq] at hy
  have ey:y=y0:=by
   have : y∈q.toList.take 1:=Mw.mp hy
   obtain ⟨k,hk,e⟩:=Hq.mp this
   have hk0:k=0:=by
    rw[Cw] at hk
    omega
   subst hk0
   have e2:q.toList[0]? = some y:=by
    rw[<- e,<- Ba hk,Ej (by omega)]
   rw[Ef T.hy0] at e2
   exact (Bn e2).symm
  rw[ey]
  have hx':x∈p.toList:=List.mem_of_mem_take (Mw.mp hx)
  obtain ⟨k,hk,e⟩:=Hq.mp hx'
  have e2:p.toList[k]? = some x:=by rw[<- e,Ba hk]
  exact C.trans (C.ofLt T.first) (Ks C T.sp (Dg k) (Ef T.hx0) e2))
 rw[Je p hm,Je q hq] at h1
 have e:(FK p q out m 1).toList=(out.toList++(p.toList.take m).reverse++(q.toList.take 1).reverse).reverse:=by
  rw[Dq,Dq,E6,E6,Ud]
  simp
 refine ⟨?_,?_⟩
 ·rw[e]
  refine (Ho _).trans (h1.1.trans ?_)
  exact List.Perm.append (Ho _) (Ho _)
 ·rw[e]
  exact Mp.mpr h1.2
theorem Td(C:Cmp prog w A s kd Ok blt){p:Array Keyed}(sp:p.toList.Pairwise (le blt))(h0:0<m)(hm:m<=p.size)(hx:p[m - 1]? = some x)(h:le blt x y):∀z∈p.toList.reverse.drop (p.size - m),ge blt y z:=λz hz=>by
 rw[Je p hm] at hz
 obtain ⟨k,hk,e⟩:=Hq.mp (Mw.mp hz)
 have e2:p.toList[k]? = some z:=by
  rw[Cw] at hk
  rw[<- e,<- Ba (by rw[Cw]; exact hk),Ej (by omega)]
 rw[Cw] at hk
 exact C.trans (Ks C sp (by omega) e2 (Ef hx)) h
theorem HI.pushX(C:Cmp prog w A s kd Ok blt)(T:Two Ok blt p q x0 y0 xl)(M:HI blt p q out m n)(h0:0<m)(hm:m<=p.size)(hx:p[m - 1]? = some x)(h:∀z∈q.toList.reverse.drop (q.size - n),ge blt x z):HI blt p q (out.push x) (m - 1) n:=by
 have:=MI.pushX M (Jj T.sp) (xU h0 hm hx) h
 rw[<- Nq,show p.size - m+1=p.size - (m - 1) by omega] at this
 exact this
theorem HI.pushY(C:Cmp prog w A s kd Ok blt)(T:Two Ok blt p q x0 y0 xl)(M:HI blt p q out m n)(h0:0<n)(hn:n<=q.size)(hy:q[n - 1]? = some y)(h:∀z∈p.toList.reverse.drop (p.size - m),ge blt y z):HI blt p q (out.push y) m (n - 1):=by
 have:=MI.pushY M (Jj T.sq) (xU h0 hn hy) h
 rw[<- Nq,show q.size - n+1=q.size - (n - 1) by omega] at this
 exact this
def DP(blt:Keyed->Keyed->Bool)(p q:Array Keyed)(st:Bu)(b:Nat)(r:ForInStep B7)(st':Bu):Prop:=Kept st st'/\match r with
 | .done (some r,_)=>mY blt p q r
 | .done (none,m,n,out,_)=>HI blt p q out m n/\0<m/\m<=p.size/\1<n/\n<=q.size/\m+n<b
 | .yield (none,m,n,out,_)=>HI blt p q out m n/\0<m/\m<=p.size/\1<n/\n<=q.size/\m+n<b
 | .yield (some _,_)=>False
theorem rF(C:Cmp prog w A s kd Ok blt)(T:Two Ok blt p q x0 y0 xl){st0 st:Bu}(kp:Kept st0 st)(M:HI blt p q out m n)(m0:0<m)(hm:m<=p.size)(n0:1<n)(hn:n<=q.size)(hb:m+n<=b)(hx:p[m - 1]? = some x)(hq:∀z∈q.toList.reverse.drop (q.size - n),ge blt x z):wpS (model prog w) A E s (D0 p q out m n g ac k) (DP blt p q st0 b) st:=by
 unfold D0
 refine Bd (Fg hx ?_)
 have M1:=HI.pushX C T M m0 hm hx hq
 by_cases h1:m - 1=0
 ·rw[if_pos (by rw[h1]; rfl)]
  exact Bk ⟨kp,T.dn_end M1 (by omega) hn (.inl h1)⟩
 ·rw[if_neg (λz=>h1 (Dt z))]
  by_cases h2:(decide (ac<7) && decide (k<7))=true
  ·rw[if_pos h2]
   exact Bk ⟨kp,M1,by omega,by omega,n0,hn,by omega⟩
  ·rw[if_neg h2]
   exact Bk ⟨kp,M1,by omega,by omega,n0,hn,by omega⟩
theorem rN(C:Cmp prog w A s kd Ok blt)(T:Two Ok blt p q x0 y0 xl){st0 st:Bu}(kp:Kept st0 st)(hk:kindOf st=kd)(M:HI blt p q out m n)(m0:0<m)(hm:m<=p.size)(n0:1<n)(hn:n<=q.size)(hb:m+n<=b)(hx:p[m - 1]? = some x)(hy:q[n - 1]? = some y)(hxy:le blt x y):wpS (model prog w) A E s (C5 p q out m n g ac bc) (DP blt p q st0 b) st:=by
 unfold C5
 refine Bd (Fg hy ?_)
 have M1:=HI.pushY C T M (by omega) hn hy (Td C T.sp m0 hm hx hxy)
 by_cases h1:n - 1=1
 ·rw[if_pos (by rw[h1]; rfl)]
  exact Bk ⟨kp,T.fs_end C M1 hm h1 (by omega)⟩
 rw[if_neg (λz=>h1 (Dt z))]
 refine Bd (Fg hx ?_)
 have val:∀i yy,q[i]? = some yy->q.getD (0+i) y=yy:=λi yy e=>by rw[Pb]; simp [Du,e]
 have R:Row Ok q 0 (n - 1) (λi=>q.getD (0+i) y):=⟨λi hi=>by
  obtain ⟨ya,ea⟩:=Fj (p:=q) (i:=i) (by omega)
  rw[val i ya ea,Pb,ea],λi hi=>by
  obtain ⟨ya,ea⟩:=Fj (p:=q) (i:=i) (by omega)
  show Ok (q.getD (0+i) y)
  rw[val i ya ea]
  exact T.oq ya (Jf ea)⟩
 refine Bd (Np C R (T.op x (Jf hx)) hk (by omega) (λa c hab hc q1=>?_) λt ht t1 t2=>?_)
 ·obtain ⟨ya,ea⟩:=Fj (p:=q) (i:=a) (by omega)
  obtain ⟨yc,ec⟩:=Fj (p:=q) (i:=c) (by omega)
  simp only[val a ya ea,val c yc ec,Gi,if_true] at q1 ⊢
  exact C.leLt (Ks C T.sq hab (Ef ea) (Ef ec)) q1
 dsimp only
 have M2:HI blt p q (out.push y++(q.extract t (n - 1)).reverse) m t:=by
  have:=MI.blockY M1 (Jj T.sq) (n - 1 - t) (by rw[Hz,Az]; omega) (λi hi yy ey=>by
   have e1:q[n - 1 - i - 1]? = some yy:=by
    rw[Tw (by rw[Az]; omega),Az,show q.size - 1 - (q.size - (n - 1)+i)=n - 1 - i - 1 by omega] at ey
    simpa using ey
   have:=t2 (n - 1 - i - 1) (by omega) (by omega)
   rw[val _ yy e1] at this
   have z:blt yy x=false:=by simpa only [Gi,if_true] using this
   exact Td C T.sp m0 hm hx z)
  rw[<- ED q (by omega) (by omega),<- Dq,show q.size - (n - 1)+(n - 1 - t)=q.size - t by omega] at this
  exact this
 -- what is left of q is below x
 have below:∀z∈q.toList.reverse.drop (q.size - t),ge blt x z:=λz hz=>by
  rw[Je q (by omega)] at hz
  obtain ⟨k,hk',e⟩:=Hq.mp (Mw.mp hz)
  rw[Cw] at hk'
  have e2:q.toList[k]? = some z:=by
   rw[<- e,<- Ba (by rw[Cw]; exact hk'),Ej (by omega)]
  have e3:q[k]? = some z:=by simpa using e2
  have:=t1 k (by omega)
  rw[val k z e3] at this
  exact C.ofLt (by simpa only [Gi,if_true] using this)
 by_cases h2:n - 1 - t > 0
 ·rw[if_pos h2]
  by_cases h3:t=1
  ·rw[if_pos (by rw[h3]; rfl)]
   exact Bk ⟨kp,T.fs_end C M2 hm h3 (by omega)⟩
  ·rw[if_neg (λz=>h3 (Dt z))]
   by_cases h4:t=0
   ·rw[if_pos (by rw[h4]; rfl)]
    exact Bk ⟨kp,T.dn_end M2 hm (by omega) (.inr h4)⟩
   ·rw[if_neg (λz=>h4 (Dt z))]
    exact rF C T kp M2 m0 hm (by omega) (by omega) (by omega) hx below
 ·rw[if_neg h2]
  have et:t=n - 1:=by omega
  rw[et] at below
  exact rF C T kp M1 m0 hm (by omega) (by omega) (by omega) hx below
theorem K7(C:Cmp prog w A s kd Ok blt)(T:Two Ok blt p q x0 y0 xl){st0 st:Bu}(kp:Kept st0 st)(hk:kindOf st=kd)(M:HI blt p q out m n)(m0:0<m)(hm:m<=p.size)(n0:1<n)(hn:n<=q.size)(hb:m+n<=b):wpS (model prog w) A E s (T5 p q out m n g ac bc) (DP blt p q st0 b) st:=by
 unfold T5
 refine Bd (Sv λst1 kp1=>?_)
 have kp':=kp.trans kp1
 have hk':kindOf st1=kd:=kp1.kind.trans hk
 obtain ⟨y,hy⟩:=Fj (p:=q) (i:=n - 1) (by omega)
 refine Bd (Fg hy ?_)
 have val:∀i xx,p[i]? = some xx->p.getD (0+i) y=xx:=λi xx e=>by rw[Pb]; simp [Du,e]
 have R:Row Ok p 0 m (λi=>p.getD (0+i) y):=⟨λi hi=>by
  obtain ⟨xa,ea⟩:=Fj (p:=p) (i:=i) (by omega)
  rw[val i xa ea,Pb,ea],λi hi=>by
  obtain ⟨xa,ea⟩:=Fj (p:=p) (i:=i) (by omega)
  show Ok (p.getD (0+i) y)
  rw[val i xa ea]
  exact T.op xa (Jf ea)⟩
 refine Bd (Np C R (T.oq y (Jf hy)) hk' (by omega) (λa c hab hc q1=>?_) λt ht t1 t2=>?_)
 ·obtain ⟨xa,ea⟩:=Fj (p:=p) (i:=a) (by omega)
  obtain ⟨xc,ec⟩:=Fj (p:=p) (i:=c) (by omega)
  simp only[val a xa ea,val c xc ec,Gi,Bv,if_false,Jx] at q1 ⊢
  exact C.trans (Ks C T.sp hab (Ef ea) (Ef ec)) q1
 dsimp only
 have M1:HI blt p q (out++(p.extract t m).reverse) t n:=by
  have:=MI.blockX M (Jj T.sp) (m - t) (by rw[Hz,Az]; omega) (λi hi xx ex=>by
   have e1:p[m - i - 1]? = some xx:=by
    rw[Tw (by rw[Az]; omega),Az,show p.size - 1 - (p.size - m+i)=m - i - 1 by omega] at ex
    simpa using ex
   have:=t2 (m - i - 1) (by omega) (by omega)
   rw[val _ xx e1] at this
   have z:blt y xx=true:=by simpa only [Gi,Bv,if_false,Xx] using this
   exact Td C T.sq (by omega) hn hy (C.ofLt z))
  rw[<- ED p (by omega) hm,<- Dq,show p.size - m+(m - t)=p.size - t by omega] at this
  exact this
 have below:∀x,0<t->p[t - 1]? = some x->le blt x y:=λx h0 hx=>by
  have:=t1 (t - 1) (by omega)
  rw[val _ x hx] at this
  have z:blt y x=false:=by simpa only [Gi,Bv,if_false,Jx] using this
  exact z
 by_cases h2:m - t > 0
 ·rw[if_pos h2]
  by_cases h3:t=0
  ·rw[if_pos (by rw[h3]; rfl)]
   exact Bk ⟨kp',T.dn_end M1 (by omega) hn (.inl h3)⟩
  ·rw[if_neg (λz=>h3 (Dt z))]
   obtain ⟨x,hx⟩:=Fj (p:=p) (i:=t - 1) (by omega)
   exact rN C T kp' hk' M1 (by omega) (by omega) n0 hn (by omega) hx hy (below x (by omega) hx)
 ·rw[if_neg h2]
  have et:t=m:=by omega
  subst et
  obtain ⟨x,hx⟩:=Fj (p:=p) (i:=t - 1) (by omega)
  exact rN C T kp' hk' M m0 hm n0 hn hb hx hy (below x m0 hx)
theorem pK(C:Cmp prog w A s kd Ok blt)(T:Two Ok blt p q x0 y0 xl){st:Bu}(hk:kindOf st=kd)(h:∀r st',Kept st st'->mY blt p q r->Q r st'):wpS (model prog w) A E s (jJ p q) Q st:=by
 have p0:0<p.size:=(Gz.mp T.hx0).1
 have q0:0<q.size:=(Gz.mp T.hy0).1
 obtain ⟨yl,hyl⟩:=Fj (p:=q) (i:=q.size - 1) (by omega)
 have M0:HI blt p q #[xl] (p.size - 1) q.size:=by
  have m:HI blt p q #[] p.size q.size:=⟨by simp,by simp,λo ho=>by simp at ho,λo ho=>by simp at ho⟩
  have:=HI.pushX C T m p0 (Ak _) T.hxl (Td C T.sq q0 (Ak _) hyl (C.ofLt (T.last yl (Jf hyl))))
  simpa using this
 unfold jJ
 refine Bd (Sk ?_)
 refine Bd (Fg T.hxl ?_)
 dsimp only
 by_cases h1:p.size - 1=0
 ·rw[if_pos (by rw[h1]; rfl)]
  exact Bk (h _ _ (Kept.refl _) (T.dn_end M0 (by omega) (by omega) (.inl h1)))
 rw[if_neg (λz=>h1 (Dt z))]
 by_cases h2:q.size=1
 ·rw[if_pos (by rw[h2]; rfl)]
  exact Bk (h _ _ (Kept.refl _) (T.fs_end C M0 (by omega) h2 (by omega)))
 rw[if_neg (λz=>h2 (Dt z))]
 refine Bd (Nb ?_)
 refine Bd (Gy (Eh
  (I:=λx c st'=>Kept st st'/\∃m n out g,c=(none,m,n,out,g)/\HI blt p q out m n/\0<m/\m<=p.size/\1<n/\n<=q.size/\m+n+x+1<=p.size+q.size)
  (Q:=λc st'=>Kept st st'/\∃r Gk,c=(some r,Gk)/\mY blt p q r) ?_ ?_ ⟨Kept.refl _,_,_,_,_,rfl,M0,by omega,by omega,by omega,by omega,by omega⟩) ?_)
 ·(intro x c st1 _ hx q_; obtain ⟨kp1,m,n,out,g,rfl,M,m0,hm,n0,hn,hb⟩ := q_)
  dsimp only
  -- one by one
  refine Bd (Gy (Eh
   (I:=λ_ c st'=>st'=st1/\∃m n out ac bc,c=(none,m,n,out,ac,bc)/\HI blt p q out m n/\0<m/\m<=p.size/\1<n/\n<=q.size/\m+n+x+1<=p.size+q.size)
   (Q:=λc st'=>st'=st1/\((∃r Gk,c=(some r,Gk)/\mY blt p q r)\/∃m n out ac bc,c=(none,m,n,out,ac,bc)/\HI blt p q out m n/\0<m/\m<=p.size/\1<n/\n<=q.size/\m+n+x+1<=p.size+q.size)) ?_ ?_ ⟨rfl,m,n,out,0,0,rfl,M,m0,hm,n0,hn,hb⟩) ?_)
  ·(intro z c st2 _ hz q_; obtain ⟨rfl,m,n,out,ac,bc,rfl,M,m0,hm,n0,hn,hb⟩ := q_)
   dsimp only
   obtain ⟨yy,hy⟩:=Fj (p:=q) (i:=n - 1) (by omega)
   obtain ⟨xx,hx⟩:=Fj (p:=p) (i:=m - 1) (by omega)
   refine Bd (Fg hy ?_)
   refine Bd (Fg hx ?_)
   refine Bd (kB C (kp1.kind.trans hk) (T.oq yy (Jf hy)) (T.op xx (Jf hx)) ?_)
   dsimp only
   cases hlt:blt yy xx with
   | true =>
    rw[if_pos rfl]
    refine Bd (Fg hx ?_)
    have M1:=HI.pushX C T M m0 hm hx (Td C T.sq (by omega) hn hy (C.ofLt hlt))
    by_cases e1:m - 1=0
    ·rw[if_pos (by rw[e1]; rfl)]
     exact Bk ⟨rfl,.inl ⟨_,_,rfl,T.dn_end M1 (by omega) hn (.inl e1)⟩⟩
    ·rw[if_neg (λz=>e1 (Dt z))]
     split
     ·exact Bk ⟨rfl,.inr ⟨_,_,_,_,_,rfl,M1,by omega,by omega,n0,hn,by omega⟩⟩
     ·exact Bk ⟨rfl,_,_,_,_,_,rfl,M1,by omega,by omega,n0,hn,by omega⟩
   | false =>
    rw[if_neg Br]
    refine Bd (Fg hy ?_)
    have M1:=HI.pushY C T M (by omega) hn hy (Td C T.sp m0 hm hx hlt)
    by_cases e1:n - 1=1
    ·rw[if_pos (by rw[e1]; rfl)]
     exact Bk ⟨rfl,.inl ⟨_,_,rfl,T.fs_end C M1 hm e1 (by omega)⟩⟩
    ·rw[if_neg (λz=>e1 (Dt z))]
     split
     ·exact Bk ⟨rfl,.inr ⟨_,_,_,_,_,rfl,M1,m0,hm,by omega,by omega,by omega⟩⟩
     ·exact Bk ⟨rfl,_,_,_,_,_,rfl,M1,m0,hm,by omega,by omega,by omega⟩
  ·(intro c st2 q_; obtain ⟨rfl,m,n,out,ac,bc,rfl,M⟩ := q_)
   exact ⟨rfl,.inr ⟨m,n,out,ac,bc,rfl,M⟩⟩
  ·rintro c st2 ⟨rfl,hc⟩
   rcases hc with hc | hc
   ·obtain ⟨r,Gk,rfl,hr⟩:=hc
    exact Bk ⟨kp1,r,_,rfl,hr⟩
   ·obtain ⟨m,n,out,ac,bc,rfl,M,m0,hm,n0,hn,hb⟩:=hc
    dsimp only
    refine Bd (Sk ?_)
    -- the gallop
    refine Bd (Gy (Eh
     (I:=λy c st'=>Kept st st'/\∃m n out g ac bc,c=(none,m,n,out,g,ac,bc)/\HI blt p q out m n/\0<m/\m<=p.size/\1<n/\n<=q.size/\(if y=0 then m+n+x+1<=p.size+q.size else m+n+x+2<=p.size+q.size))
     (Q:=λc st'=>Kept st st'/\((∃r Gk,c=(some r,Gk)/\mY blt p q r)\/∃m n out g ac bc,c=(none,m,n,out,g,ac,bc)/\HI blt p q out m n/\0<m/\m<=p.size/\1<n/\n<=q.size/\m+n+x+2<=p.size+q.size)) ?_ ?_
     ⟨kp1,m,n,out,_,ac,bc,rfl,M,m0,hm,n0,hn,by rw[if_pos rfl]; exact hb⟩) ?_)
    ·(intro y c st3 _ hy q_; obtain ⟨kp3,m,n,out,g,ac,bc,rfl,M,m0,hm,n0,hn,hb⟩ := q_)
     have hb':m+n+x+1<=p.size+q.size:=by split at hb <;> omega
     have key:∀g',wpS (model prog w) A E s (T5 p q out m n g' ac bc) (DP blt p q st (m+n)) st3:=λg'=>K7 C T kp3 (kp3.kind.trans hk) M m0 hm n0 hn (Ak _)
     dsimp only
     refine Gy (?_:wpS (model prog w) A E s _ (DP blt p q st (m+n)) st3) λr st4 hr=>?_
     ·by_cases hg:g > 1
      ·rw[if_pos hg]
       exact key _
      ·rw[if_neg hg]
       exact key _
     ·obtain ⟨kp4,hr⟩:=hr
      match r,hr with
      | .done (some r,Gk),hr=>exact ⟨kp4,.inl ⟨r,Gk,rfl,hr⟩⟩
      | .done (none,m',n',out',g',ac',bc'),hr=>exact ⟨kp4,.inr ⟨m',n',out',g',ac',bc',rfl,hr.1,hr.2.1,hr.2.2.1,hr.2.2.2.1,hr.2.2.2.2.1,by have:=hr.2.2.2.2.2; omega⟩⟩
      | .yield (none,m',n',out',g',ac',bc'),hr=>exact ⟨kp4,m',n',out',g',ac',bc',rfl,hr.1,hr.2.1,hr.2.2.1,hr.2.2.2.1,hr.2.2.2.2.1,by rw[if_neg (by omega)]; have:=hr.2.2.2.2.2; omega⟩
    ·(intro c st3 q_; obtain ⟨kp3,m,n,out,g,ac,bc,rfl,M,m0,hm,n0,hn,hb⟩ := q_)
     rw[if_neg (by omega)] at hb
     exact ⟨kp3,.inr ⟨m,n,out,g,ac,bc,rfl,M,m0,hm,n0,hn,hb⟩⟩
    ·rintro c st3 ⟨kp3,hc⟩
     rcases hc with hc | hc
     ·obtain ⟨r,Gk,rfl,hr⟩:=hc
      exact Bk ⟨kp3,r,_,rfl,hr⟩
     ·obtain ⟨m,n,out,g,ac,bc,rfl,M,m0,hm,n0,hn,hb⟩:=hc
      dsimp only
      refine Bd (Sv λst4 kp4=>?_)
      exact Bk ⟨kp3.trans kp4,m,n,out,_,rfl,M,m0,hm,n0,hn,by omega⟩
 ·(intro c st1 q_; obtain ⟨kp1,m,n,out,g,rfl,M,m0,hm,n0,hn,hb⟩ := q_)
  exfalso
  have : max 0 (p.size+q.size)=p.size+q.size:=by omega
  rw[this] at hb
  omega
 ·(intro c st1 q_; obtain ⟨kp1,r,Gk,rfl,hr⟩ := q_)
  exact Bk (h r st1 kp1 hr)
end
def eB:Nat->Nat->StateT Bu Sem (Option Nat):=sortPriv% PySem.Builtin.countRun
def Yk:Nat->Nat->Nat->StateT Bu Sem Bool:=sortPriv% PySem.Builtin.binarySort
def X(xs:Array Keyed)(i:Nat):Keyed:=xs[i]?.getD (Iq,Iq)
theorem Wr(h:i<xs.size):xs[i]? = some (X xs i):=by
 unfold X
 rw[getElem?_pos xs i h]
 rfl
theorem Qm(h:xs[i]? = ys[j]?):X xs i=X ys j:=by unfold X; rw[h]
theorem Rz(hj:j<=xs.size)(k:Nat):X (mirror xs i j ((j - i) / 2)) k=if i<=k/\k<j then X xs (i+j - 1 - k) else X xs k:=by
 have e:=getElem?_mirror_all (i:=i) hj k
 by_cases h:i<=k/\k<j
 ·rw[if_pos h] at e ⊢; exact Qm e
 ·rw[if_neg h] at e ⊢; exact Qm e
theorem wO(hs:src<xs.size)(hd:d<=src)(k:Nat):X (bubble xs src d) k=if k=src - d then X xs src else if src - d<k/\k<=src then X xs (k - 1) else X xs k:=by
 have e:=getElem?_bubble hs d hd k
 by_cases h1:k=src - d
 ·rw[if_pos h1] at e ⊢; exact Qm e
 ·rw[if_neg h1] at e ⊢
  by_cases h2:src - d<k/\k<=src
  ·rw[if_pos h2] at e ⊢; exact Qm e
  ·rw[if_neg h2] at e ⊢; exact Qm e
def Rc(blt:Keyed->Keyed->Bool)(xs:Array Keyed)(a b:Nat):Prop:=∀i j,a<=i->i<=j->j<b->le blt (X xs i) (X xs j)
def vC(blt:Keyed->Keyed->Bool)(xs:Array Keyed)(a b:Nat):Prop:=∀i j,a<=i->i<=j->j<b->le blt (X xs j) (X xs i)
structure Good(kd:Lw)(a₀:Array Keyed)(pend:Array (Nat×Nat×Nat))(st:Bu):Prop where
 kind:kindOf st=kd
 fail:Ky st=none
 perm:(arrOf st).Perm a₀
 pd:Bj st=pend
def iW(xs ys:Array Keyed)(a b:Nat):Prop:=∀i,(i<a\/b<=i)->X ys i=X xs i
theorem iW.refl(xs:Array Keyed)(a b:Nat):iW xs xs a b:=λ_ _=>rfl
theorem iW.trans(h:iW xs ys a b)(k:iW ys zs a b):iW xs zs a b:=λi hi=>(k i hi).trans (h i hi)
section
variable{prog:Bq}{w:World}{A:Cr}{s:Aj}{kd:Lw}{Ok:Keyed->Prop}{blt:Keyed->Keyed->Bool}{E:Value->Aj->Prop}{a₀:Array Keyed}{pend:Array (Nat×Nat×Nat)}
theorem Good.size{st:Bu}(g:Good kd a₀ pend st):(arrOf st).size=a₀.size:=g.perm.size_eq
theorem Good.okX{st:Bu}(g:Good kd a₀ pend st)(h0:∀x∈a₀.toList,Ok x)(hi:i<a₀.size):Ok (X (arrOf st) i):=by
 have e:=Wr (xs:=arrOf st) (i:=i) (by rw[g.size]; exact hi)
 exact h0 _ ((Pf.mp g.perm).mem_iff.mp (Jf e))
theorem Good.set{st:Bu}(g:Good kd a₀ pend st)(h:xs.Perm (arrOf st)):Good kd a₀ pend (setArr st xs):=⟨g.kind,g.fail,h.trans g.perm,g.pd⟩
theorem Vw(C:Cmp prog w A s kd Ok blt){st:Bu}(g:Good kd a₀ pend st)(h0:∀x∈a₀.toList,Ok x)(hi:i<a₀.size)(hj:j<a₀.size)(h:Q (some (blt (X (arrOf st) i) (X (arrOf st) j))) st):wpS (model prog w) A E s (ltAt' i j) Q st:=by
 rw[ltAt'_eq]
 refine Bd (Nb ?_)
 refine Bd (Fg (Wr (by rw[g.size]; exact hi)) ?_)
 refine Bd (Fg (Wr (by rw[g.size]; exact hj)) ?_)
 exact kB C g.kind (g.okX h0 hi) (g.okX h0 hj) h
theorem Qo{st:Bu}(h:Q () (setArr st (mirror (arrOf st) i j ((j - i) / 2)))):wpS (model prog w) A E s (Tg i j) Q st:=by
 rw[reverseSlice'_eq]
 exact Jp h
def DX(lo a b:Nat):StateT Bu Sem (Option (Option Nat)×Nat) :=
 forIn [a:b] ((none,a):Option (Option Nat)×Nat) λ_ c=>do
  let some kZ <- ltAt' (lo+c.2) (lo+c.2 - 1) | pure (Cs (some none,c.2))
  if kZ=true then pure (Cs (none,c.2)) else pure (Fi (none,c.2+1))
theorem xW(C:Cmp prog w A s kd Ok blt){st:Bu}(g:Good kd a₀ pend st)(h0:∀x∈a₀.toList,Ok x){lo a b:Nat}(hb:lo+b<=a₀.size)(ha:1<=a)(hab:a<=b)(h1:Rc blt (arrOf st) lo (lo+a))(h:∀n,a<=n->n<=b->Rc blt (arrOf st) lo (lo+n)->(n=b\/blt (X (arrOf st) (lo+n)) (X (arrOf st) (lo+n - 1))=true)->Q (none,n) st):wpS (model prog w) A E s (DX lo a b) Q st:=by
 unfold DX
 refine Eh (I:=λx c st'=>st'=st/\c=(none,x)/\Rc blt (arrOf st) lo (lo+x)) ?_ ?_ ⟨rfl,rfl,h1⟩
 ·(intro x c st' hx1 hx2 q_; obtain ⟨rfl,rfl,hs⟩ := q_)
  dsimp only
  refine Bd (Vw C g h0 (by omega) (by omega) ?_)
  dsimp only
  cases hl:blt (X (arrOf st') (lo+x)) (X (arrOf st') (lo+x - 1)) with
  | true =>
   rw[if_pos rfl]
   exact Bk (h x hx1 (by omega) hs (.inr hl))
  | false =>
   rw[if_neg Br]
   refine Bk ⟨rfl,rfl,λi j hi hij hj=>?_⟩
   by_cases hjx:j<lo+x
   ·exact hs i j hi hij hjx
   ·have ej:j=lo+x:=by omega
    subst ej
    by_cases hi':i=lo+x
    ·subst hi'; exact C.refl _
    ·exact C.trans (hs i (lo+x - 1) hi (by omega) (by omega)) hl
 ·(intro c st' q_; obtain ⟨rfl,rfl,hs⟩ := q_)
  rw[show max a b=b by omega] at hs ⊢
  exact h b hab (Ak _) hs (.inl rfl)
theorem oD{lo n:Nat}(hn:lo+n<=xs.size)(h:vC blt xs lo (lo+n)):Rc blt (mirror xs lo (lo+n) ((lo+n - lo) / 2)) lo (lo+n):=λi j hi hij hj=>by
 rw[Rz hn,Rz hn,if_pos (by omega),if_pos (by omega)]
 exact h _ _ (by omega) (by omega) (by omega)
theorem Wz{lo n b e:Nat}(hn:lo+n<=xs.size)(he:e<=lo+n)(hb:lo<=b)(h:vC blt xs lo (lo+n))(eqv:∀i j,b<=i->i<e->b<=j->j<e->le blt (X xs i) (X xs j)):vC blt (mirror xs b e ((e - b) / 2)) lo (lo+n):=λi j hi hij hj=>by
 rw[Rz (by omega),Rz (by omega)]
 by_cases h1:b<=j/\j<e
 ·rw[if_pos h1]
  by_cases h2:b<=i/\i<e
  ·rw[if_pos h2]
   exact eqv _ _ (by omega) (by omega) (by omega) (by omega)
  ·rw[if_neg h2]
   exact h _ _ hi (by omega) (by omega)
 ·rw[if_neg h1]
  by_cases h2:b<=i/\i<e
  ·rw[if_pos h2]
   exact h _ _ (by omega) (by omega) (by omega)
  ·rw[if_neg h2]
   exact h i j hi hij hj
theorem Qn(h1:a<=i)(h2:j<=b)(h3:j<=xs.size):iW xs (mirror xs i j ((j - i) / 2)) a b:=λk hk=>by
 rw[Rz h3,if_neg (by omega)]
def yV(lo n b:Nat):StateT Bu Sem (Option Nat):=do
 Tg lo (lo+n)
 let mut m:=n
 for _ in [n:b] do
  let some kZ <- ltAt' (lo+m) (lo+m - 1) | return none
  if kZ then break
  m:=m+1
 return some m
theorem qL(C:Cmp prog w A s kd Ok blt){st:Bu}(g:Good kd a₀ pend st)(h0:∀x∈a₀.toList,Ok x){lo n b:Nat}(hb:lo+b<=a₀.size)(hn:1<=n)(hnb:n<=b)(h1:vC blt (arrOf st) lo (lo+n))(h:∀m st',Good kd a₀ pend st'->1<=m->m<=b->Rc blt (arrOf st') lo (lo+m)->iW (arrOf st) (arrOf st') lo (lo+b)->Q (some m) st'):wpS (model prog w) A E s (yV lo n b) Q st:=by
 unfold yV
 have hsz:lo+n<=(arrOf st).size:=by rw[g.size]; omega
 refine Bd (Qo ?_)
 have g':Good kd a₀ pend (setArr st (mirror (arrOf st) lo (lo+n) ((lo+n - lo) / 2))):=g.set (mirror_perm _ _ _ _)
 refine Bd (xW C g' h0 hb hn hnb (oD hsz h1) λm hm1 hm2 hs _=>?_)
 exact Bk (h m _ g' (by omega) hm2 hs (Qn (Ak _) (by omega) hsz))
abbrev T4:=Option (Option Nat)×Nat×Nat
def BP(lo a b:Nat):StateT Bu Sem T4 :=
 forIn [a:b] ((none,a,0):T4) λ_ c=>do
  let some kZ <- ltAt' (lo+c.2.1) (lo+c.2.1 - 1) | pure (Cs (some none,c.2.1,c.2.2))
  if kZ=true then
   if c.2.2 > 0 then do
    Tg (lo+c.2.1 - (c.2.2+1)) (lo+c.2.1)
    pure (Fi (none,c.2.1+1,0))
   else pure (Fi (none,c.2.1+1,0))
  else do
   let some more <- ltAt' (lo+c.2.1 - 1) (lo+c.2.1) | pure (Cs (some none,c.2.1,c.2.2))
   if more=true then pure (Cs (none,c.2.1,c.2.2)) else pure (Fi (none,c.2.1+1,c.2.2+1))
def L7(blt:Keyed->Keyed->Bool)(xs:Array Keyed)(lo n e:Nat):Prop:=e+1<=n/\∀i j,lo+n - (e+1)<=i->i<lo+n->lo+n - (e+1)<=j->j<lo+n->le blt (X xs i) (X xs j)
theorem vU(C:Cmp prog w A s kd Ok blt){lo n:Nat}(h:1<=n):L7 blt xs lo n 0:=⟨by omega,λi j i1 i2 j1 j2=>by
 have e:i=j:=by omega
 subst e
 exact C.refl _⟩
theorem Vp(C:Cmp prog w A s kd Ok blt){lo n:Nat}(hn:1<=n)(h:vC blt xs lo (lo+n))(hl:le blt (X xs (lo+n)) (X xs (lo+n - 1))):vC blt xs lo (lo+(n+1)):=λi j hi hij hj=>by
 by_cases hjx:j<lo+n
 ·exact h i j hi hij hjx
 ·have ej:j=lo+n:=by omega
  subst ej
  by_cases hi':i=lo+n
  ·subst hi'; exact C.refl _
  ·exact C.trans hl (h i (lo+n - 1) hi (by omega) (by omega))
theorem B6(C:Cmp prog w A s kd Ok blt){st:Bu}(g:Good kd a₀ pend st)(h0:∀x∈a₀.toList,Ok x){lo a b:Nat}(hb:lo+b<=a₀.size)(ha:1<=a)(hab:a<=b)(h1:vC blt (arrOf st) lo (lo+a))(h:∀n e st',Good kd a₀ pend st'->a<=n->n<=b->vC blt (arrOf st') lo (lo+n)->L7 blt (arrOf st') lo n e->iW (arrOf st) (arrOf st') lo (lo+b)->Q (none,n,e) st'):wpS (model prog w) A E s (BP lo a b) Q st:=by
 unfold BP
 refine Eh (I:=λx c st'=>∃e,c=(none,x,e)/\Good kd a₀ pend st'/\vC blt (arrOf st') lo (lo+x)/\L7 blt (arrOf st') lo x e/\iW (arrOf st) (arrOf st') lo (lo+b)) ?_ ?_
  ⟨0,rfl,g,h1,vU C ha,iW.refl _ _ _⟩
 ·(intro x c st' hx1 hx2 q_; obtain ⟨e,rfl,g',hs,lk,ou⟩ := q_)
  have hsz:(arrOf st').size=a₀.size:=g'.size
  dsimp only
  refine Bd (Vw C g' h0 (by omega) (by omega) ?_)
  dsimp only
  cases hl:blt (X (arrOf st') (lo+x)) (X (arrOf st') (lo+x - 1)) with
  | true =>
   rw[if_pos rfl]
   have d1:=Vp C (by omega) hs (C.ofLt hl)
   have one:∀ys:Array Keyed,L7 blt ys lo (x+1) 0:=λys=>⟨by omega,λi j i1 i2 j1 j2=>by
    have : i=j:=by omega
    subst this
    exact C.refl _⟩
   by_cases he:e > 0
   ·rw[if_pos he]
    refine Bd (Qo ?_)
    refine Bk ⟨0,rfl,g'.set (mirror_perm _ _ _ _),?_,one _,ou.trans (Qn (by have:=lk.1; omega) (by omega) (by omega))⟩
    exact Wz (by omega) (by omega) (by have:=lk.1; omega) d1 λi j i1 i2 j1 j2=>lk.2 i j i1 i2 j1 j2
   ·rw[if_neg he]
    exact Bk ⟨0,rfl,g',d1,one _,ou⟩
  | false =>
   rw[if_neg Br]
   refine Bd (Vw C g' h0 (by omega) (by omega) ?_)
   dsimp only
   cases hm:blt (X (arrOf st') (lo+x - 1)) (X (arrOf st') (lo+x)) with
   | true =>
    rw[if_pos rfl]
    exact Bk (h x e st' g' hx1 (by omega) hs lk ou)
   | false =>
    rw[if_neg Br]
    refine Bk ⟨e+1,rfl,g',Vp C (by omega) hs hm,⟨by have:=lk.1; omega,λi j i1 i2 j1 j2=>?_⟩,ou⟩
    have l1:le blt (X (arrOf st') (lo+x - 1)) (X (arrOf st') (lo+x)):=hl
    have l2:le blt (X (arrOf st') (lo+x)) (X (arrOf st') (lo+x - 1)):=hm
    by_cases ei:i=lo+x
    ·by_cases ej:j=lo+x
     ·rw[ei,ej]; exact C.refl _
     ·rw[ei]
      exact C.trans l2 (lk.2 (lo+x - 1) j (by omega) (by omega) (by omega) (by omega))
    ·by_cases ej:j=lo+x
     ·rw[ej]
      exact C.trans (lk.2 i (lo+x - 1) (by omega) (by omega) (by omega) (by omega)) l1
     ·exact lk.2 i j (by omega) (by omega) (by omega) (by omega)
 ·(intro c st' q_; obtain ⟨e,rfl,g',hs,lk,ou⟩ := q_)
  rw[show max a b=b by omega] at hs lk ⊢
  exact h b e st' g' hab (Ak _) hs lk ou
def N3(lo n b:Nat):StateT Bu Sem (Option Nat):=do
 liftM (rule "list.sort.descending-run")
 let mut m:=n+1
 let mut e:=0
 for _ in [m:b] do
  let some kZ <- ltAt' (lo+m) (lo+m - 1) | return none
  if kZ then
   if e > 0 then Tg (lo+m - (e+1)) (lo+m)
   e:=0
  else
   let some more <- ltAt' (lo+m - 1) (lo+m) | return none
   if more then break
   e:=e+1
  m:=m+1
 if e > 0 then Tg (lo+m - (e+1)) (lo+m)
 yV lo m b
theorem qW(C:Cmp prog w A s kd Ok blt){st:Bu}(g:Good kd a₀ pend st)(h0:∀x∈a₀.toList,Ok x){lo n b:Nat}(hb:lo+b<=a₀.size)(hnb:n+1<=b)(h1:vC blt (arrOf st) lo (lo+(n+1)))(h:∀m st',Good kd a₀ pend st'->1<=m->m<=b->Rc blt (arrOf st') lo (lo+m)->iW (arrOf st) (arrOf st') lo (lo+b)->Q (some m) st'):wpS (model prog w) A E s (N3 lo n b) Q st:=by
 unfold N3
 refine Bd (Sk ?_)
 refine Bd (B6 C g h0 hb (by omega) hnb h1 λk e st1 g1 k1 k2 d1 lk ou=>?_)
 dsimp only
 have hsz:(arrOf st1).size=a₀.size:=g1.size
 by_cases he:e > 0
 ·rw[if_pos he]
  refine Bd (Qo ?_)
  refine qL C (g1.set (mirror_perm _ _ _ _)) h0 hb (by omega) k2 (Wz (by omega) (by omega) (by have:=lk.1; omega) d1 λi j i1 i2 j1 j2=>lk.2 i j i1 i2 j1 j2) λm st2 g2 m1 m2 as ou2=>?_
  exact h m st2 g2 m1 m2 as ((ou.trans (Qn (by have:=lk.1; omega) (by omega) (by omega))).trans ou2)
 ·rw[if_neg he]
  exact qL C g1 h0 hb (by omega) k2 d1 λm st2 g2 m1 m2 as ou2=>h m st2 g2 m1 m2 as (ou.trans ou2)
theorem yI(C:Cmp prog w A s kd Ok blt){st:Bu}(g:Good kd a₀ pend st)(h0:∀x∈a₀.toList,Ok x){lo b:Nat}(hb:lo+b<=a₀.size)(b1:1<=b)(h:∀m st',Good kd a₀ pend st'->1<=m->m<=b->Rc blt (arrOf st') lo (lo+m)->iW (arrOf st) (arrOf st') lo (lo+b)->Q (some m) st'):wpS (model prog w) A E s (eB lo b) Q st:=by
 unfold eB
 have hsz:(arrOf st).size=a₀.size:=g.size
 refine Bd (xW C g h0 hb (Ak _) b1 (λi j i1 i2 j1=>by
  have : i=j:=by omega
  subst this
  exact C.refl _) λn n1 n2 hs hor=>?_)
 dsimp only
 by_cases e:n=b
 ·rw[if_pos (by rw[e]; exact beq_self_eq_true _)]
  exact Bk (h n st g n1 n2 hs (iW.refl _ _ _))
 rw[if_neg (λz=>e (Dt z))]
 have hlt:blt (X (arrOf st) (lo+n)) (X (arrOf st) (lo+n - 1))=true:=hor.resolve_left e
 by_cases hg:n > 1
 ·rw[if_pos hg]
  refine Bd (Vw C g h0 (by omega) (by omega) ?_)
  dsimp only
  cases hr:blt (X (arrOf st) lo) (X (arrOf st) (lo+n - 1)) with
  | true =>
   rw[if_pos rfl]
   exact Bk (h n st g n1 n2 hs (iW.refl _ _ _))
  | false =>
   rw[if_neg Br]
   refine Bd (Qo ?_)
   -- all of it are alike
   have like:∀i j,lo<=i->i<lo+n->lo<=j->j<lo+n->le blt (X (arrOf st) i) (X (arrOf st) j):=λi j i1 i2 j1 j2 =>
    C.trans (hs i (lo+n - 1) i1 (by omega) (by omega)) (C.trans hr (hs lo j (Ak _) j1 j2))
   have d1:vC blt (arrOf st) lo (lo+(n+1)):=Vp C n1 (λi j i1 i2 j1=>like j i (by omega) j1 i1 (by omega)) (C.ofLt hlt)
   exact qW C (g.set (mirror_perm _ _ _ _)) h0 hb (by omega) (Wz (by omega) (by omega) (Ak _) d1 like) λm st2 g2 m1 m2 as ou2=>h m st2 g2 m1 m2 as ((Qn (Ak _) (by omega) (by omega)).trans ou2)
 ·rw[if_neg hg]
  have en:n=1:=by omega
  subst en
  have d1:vC blt (arrOf st) lo (lo+(1+1)):=Vp C (Ak _) (λi j i1 i2 j1=>by
   have : i=j:=by omega
   subst this
   exact C.refl _) (C.ofLt hlt)
  exact qW C g h0 hb (by omega) d1 h
end
def Vj:Nat->StateT Bu Sem Bool:=sortPriv% PySem.Builtin.mergeAt
section
variable{prog:Bq}{w:World}{A:Cr}{s:Aj}{kd:Lw}{Ok:Keyed->Prop}{blt:Keyed->Keyed->Bool}{E:Value->Aj->Prop}{a₀:Array Keyed}{pend:Array (Nat×Nat×Nat)}
theorem lQ{st:Bu}(h:Q () (setArr st (bubble (arrOf st) i (i - j)))):wpS (model prog w) A E s (moveDown' i j) Q st:=by
 rw[moveDown'_eq]
 exact Jp h
theorem vB(C:Cmp prog w A s kd Ok blt){st:Bu}(g:Good kd a₀ pend st)(h0:∀x∈a₀.toList,Ok x){lo n ok:Nat}(hb:lo+n<=a₀.size)(h1:Rc blt (arrOf st) lo (lo+ok))(hok:ok<=n)(h:∀st',Good kd a₀ pend st'->Rc blt (arrOf st') lo (lo+n)->iW (arrOf st) (arrOf st') lo (lo+n)->Q true st'):wpS (model prog w) A E s (Yk lo n ok) Q st:=by
 unfold Yk
 refine Bd (Gy (Eh
  (I:=λk c st'=>c=(none,())/\Good kd a₀ pend st'/\Rc blt (arrOf st') lo (lo+k)/\iW (arrOf st) (arrOf st') lo (lo+n))
  (Q:=λc st'=>c=(none,())/\Good kd a₀ pend st'/\Rc blt (arrOf st') lo (lo+n)/\iW (arrOf st) (arrOf st') lo (lo+n)) ?_ ?_ ⟨rfl,g,?_,iW.refl _ _ _⟩) ?_)
 ·(intro k c st1 hk1 hk2 q_; obtain ⟨rfl,g1,hs,ou⟩ := q_)
  have hsz:(arrOf st1).size=a₀.size:=g1.size
  dsimp only
  refine Bd (Gy (Eh
   (I:=λy c st'=>st'=st1/\∃l r,c=(none,l,r)/\l<=r/\r<=k/\r - l+y<=k/\(∀i,i<l->le blt (X (arrOf st1) (lo+i)) (X (arrOf st1) (lo+k)))/\(∀i,r<=i->i<k->blt (X (arrOf st1) (lo+k)) (X (arrOf st1) (lo+i))=true))
   (Q:=λc st'=>st'=st1/\∃l,c=(none,l,l)/\l<=k/\(∀i,i<l->le blt (X (arrOf st1) (lo+i)) (X (arrOf st1) (lo+k)))/\(∀i,l<=i->i<k->blt (X (arrOf st1) (lo+k)) (X (arrOf st1) (lo+i))=true)) ?_ ?_
   ⟨rfl,0,k,rfl,by omega,by omega,by omega,λi hi=>by omega,λi h1 h2=>by omega⟩) ?_)
  ·(intro y c st2 _ hy q_; obtain ⟨rfl,l,r,rfl,a1,a2,a3,b1,b2⟩ := q_)
   dsimp only
   by_cases hlr:l ≥ r
   ·rw[if_pos hlr]
    have e:l=r:=by omega
    subst e
    exact Bk ⟨rfl,l,rfl,a2,b1,b2⟩
   ·rw[if_neg hlr]
    refine Bd (Vw C g1 h0 (by omega) (by omega) ?_)
    dsimp only
    cases hl:blt (X (arrOf st2) (lo+k)) (X (arrOf st2) (lo+(l+r) / 2)) with
    | true =>
     rw[if_pos rfl]
     exact Bk ⟨rfl,l,(l+r) / 2,rfl,by omega,by omega,by omega,b1,λi i1 i2=>C.ltLe hl (hs _ _ (by omega) (by omega) (by omega))⟩
    | false =>
     rw[if_neg Br]
     exact Bk ⟨rfl,(l+r) / 2+1,r,rfl,by omega,a2,by omega,λi hi=>C.trans (hs _ _ (by omega) (by omega) (by omega)) hl,b2⟩
  ·(intro c st2 q_; obtain ⟨rfl,l,r,rfl,a1,a2,a3,b1,b2⟩ := q_)
   have : max 0 k=k:=by omega
   rw[this] at a3
   have e:l=r:=by omega
   subst e
   exact ⟨rfl,l,rfl,a2,b1,b2⟩
  ·(intro c st2 q_; obtain ⟨rfl,l,rfl,a2,b1,b2⟩ := q_)
   dsimp only
   refine Bd (lQ ?_)
   have xb:=λi=>wO (xs:=arrOf st2) (src:=lo+k) (d:=lo+k - (lo+l)) (by omega) (by omega) i
   have ed:lo+k - (lo+k - (lo+l))=lo+l:=by omega
   refine Bk ⟨rfl,g1.set (bubble_perm _ _ _),λi j i1 i2 j1=>?_,ou.trans λi hi=>?_⟩
   ·show le blt (X (bubble (arrOf st2) (lo+k) (lo+k - (lo+l))) i) (X (bubble (arrOf st2) (lo+k) (lo+k - (lo+l))) j)
    rw[xb,xb,ed]
    by_cases e1:i=lo+l
    ·rw[if_pos e1]
     by_cases e2:j=lo+l
     ·rw[if_pos e2]; exact C.refl _
     ·rw[if_neg e2]
      by_cases e3:lo+l<j/\j<=lo+k
      ·rw[if_pos e3]
       have:=b2 (j - 1 - lo) (by omega) (by omega)
       rw[show lo+(j - 1 - lo)=j - 1 by omega] at this
       exact C.ofLt this
      ·exfalso; omega
    ·rw[if_neg e1]
     by_cases e2:j=lo+l
     ·rw[if_pos e2,if_neg (by omega)]
      have:=b1 (i - lo) (by omega)
      rw[show lo+(i - lo)=i by omega] at this
      exact this
     ·rw[if_neg e2]
      by_cases e3:lo+l<i/\i<=lo+k
      ·rw[if_pos e3,if_pos (by omega)]
       exact hs _ _ (by omega) (by omega) (by omega)
      ·rw[if_neg e3]
       by_cases e4:lo+l<j/\j<=lo+k
       ·rw[if_pos e4]
        exact hs _ _ (by omega) (by omega) (by omega)
       ·rw[if_neg e4]
        exact hs _ _ (by omega) (by omega) (by omega)
   ·show X (bubble (arrOf st2) (lo+k) (lo+k - (lo+l))) i=X (arrOf st2) i
    rw[xb,ed,if_neg (by omega),if_neg (by omega)]
 ·(intro c st1 q_; obtain ⟨rfl,g1,hs,ou⟩ := q_)
  refine ⟨rfl,g1,λi j i1 i2 j1=>hs i j i1 i2 (by omega),ou⟩
 ·intro i j i1 i2 j1
  by_cases e:i=j
  ·subst e; exact C.refl _
  ·exact h1 i j i1 i2 (by omega)
 ·(intro c st1 q_; obtain ⟨rfl,g1,hs,ou⟩ := q_)
  exact Bk (h st1 g1 hs ou)
end
abbrev Nu(xs:Array Keyed)(b:Nat)(l:List (Keyed×Nat)):Array Keyed:=l.foldl (λa x=>match x with | (p,j)=>a.setIfInBounds (b+j) p) xs
theorem aX(b:Nat):∀(l:List Keyed) (o:Nat) (xs:Array Keyed),b+o+l.length<=xs.size->(Nu xs b (l.zipIdx o)).size=xs.size/\∀i:Nat,(Nu xs b (l.zipIdx o))[i]? = if b+o<=i/\i<b+o+l.length then l[i - (b+o)]? else xs[i]?
 | [],o,xs,_=>⟨rfl,λi=>by rw[if_neg (by rw[Lb]; omega)]; rfl⟩
 | x::l,o,xs,h=>by
  rw[Bs] at h
  have ih:=aX b l (o+1) (xs.setIfInBounds (b+o) x) (by rw[iZ]; omega)
  have e:Nu xs b ((x::l).zipIdx o)=Nu (xs.setIfInBounds (b+o) x) b (l.zipIdx (o+1)):=by
   rw[cJ]
   rfl
  rw[e]
  refine ⟨ih.1.trans (iZ),λi=>?_⟩
  rw[ih.2 i,Bs]
  by_cases h1:b+(o+1)<=i/\i<b+(o+1)+l.length
  ·rw[if_pos h1,if_pos (by omega)]
   rw[show i - (b+o)=(i - (b+(o+1)))+1 by omega,mP]
  ·rw[if_neg h1]
   by_cases h2:i=b+o
   ·subst h2
    rw[if_pos (by omega),Array.getElem?_setIfInBounds_self_of_lt (by omega),Nat.sub_self]
    rfl
   ·rw[if_neg (by omega),Array.getElem?_setIfInBounds_ne (by omega)]
theorem nE{xs m:Array Keyed}(hb:b+n<=xs.size)(hn:m.size=n)(hp:m.toList.Perm ((xs.toList.drop b).take n)):(Nu xs b m.toList.zipIdx).Perm xs:=by
 have ha:=aX b m.toList 0 xs (by rw[Az]; omega)
 have e:(Nu xs b m.toList.zipIdx).toList=xs.toList.take b++(m.toList++xs.toList.drop (b+n)):=by
  apply Ht
  intro i
  have h1:=ha.2 i
  rw[Az,hn] at h1
  have h2:(Nu xs b m.toList.zipIdx).toList[i]? = (Nu xs b m.toList.zipIdx)[i]?:=by simp
  rw[h2,h1]
  have lt:(xs.toList.take b).length=b:=by rw[Cw,Az]; omega
  by_cases c1:i<b
  ·rw[if_neg (by omega),Km (by omega),Ej c1]
   simp
  ·rw[Fl (by omega),lt]
   by_cases c2:i<b+n
   ·rw[if_pos (by omega),Km (by rw[Az]; omega)]
    congr 1
   ·rw[if_neg (by omega),Fl (by rw[Az]; omega),Xv,Az]
    rw[show b+n+(i - b - m.size)=i by omega]
    simp
 refine Array.perm_iff_toList_perm.mpr ?_
 rw[e]
 have e2:xs.toList=xs.toList.take b++((xs.toList.drop b).take n++xs.toList.drop (b+n)):=by
  conv=>lhs; rw[<- Jo b xs.toList]
  congr 1
  conv=>lhs; rw[<- Jo n (xs.toList.drop b)]
  rw[List.drop_drop]
 conv=>rhs; rw[e2]
 exact Lp _ (List.Perm.append_right _ hp)
theorem Wv(h:a+n<=xs.size)(hi:i<n):(xs.extract a (a+n))[i]? = some (X xs (a+i)):=by
 rw[Array.getElem?_extract,if_pos (by omega)]
 exact Wr (by omega)
theorem Rk{xs:Array Keyed}(h:a+n<=xs.size):(xs.extract a (a+n)).size=n:=by
 rw[Array.size_extract]
 omega
theorem Vq(h:a+n<=xs.size)(hx:x∈(xs.extract a (a+n)).toList):∃i,i<n/\x=X xs (a+i):=by
 obtain ⟨i,hi,e⟩:=Hq.mp hx
 rw[Az,Rk h] at hi
 refine ⟨i,hi,?_⟩
 have h1:=Wv h hi
 have h2:(xs.extract a (a+n)).toList[i]? = some x:=by rw[<- e,<- Ba]
 rw[Mn,h1] at h2
 exact (Bn h2).symm
section
variable{prog:Bq}{w:World}{A:Cr}{s:Aj}{kd:Lw}{Ok:Keyed->Prop}{blt:Keyed->Keyed->Bool}{E:Value->Aj->Prop}{a₀:Array Keyed}{pend:Array (Nat×Nat×Nat)}
theorem aC(C:Cmp prog w A s kd Ok blt)(h:a+n<=xs.size)(hs:Rc blt xs c d)(h1:c<=a)(h2:a+n<=d):(xs.extract a (a+n)).toList.Pairwise (le blt):=by
 rw[Ew]
 intro i j hi hj hij
 rw[Az,Rk h] at hi hj
 have e1:(xs.extract a (a+n)).toList[i]? = some (X xs (a+i)):=by rw[Mn]; exact Wv h hi
 have e2:(xs.extract a (a+n)).toList[j]? = some (X xs (a+j)):=by rw[Mn]; exact Wv h hj
 obtain ⟨_,f1⟩:=Ap.mp e1
 obtain ⟨_,f2⟩:=Ap.mp e2
 rw[f1,f2]
 exact hs _ _ (by omega) (by omega) (by omega)
theorem jT(C:Cmp prog w A s kd Ok blt)(hab:a<b)(h1:Rc blt xs a b)(h2:Rc blt xs b c)(h:le blt (X xs (b - 1)) (X xs b)):Rc blt xs a c:=λi j i1 i2 j1=>by
 by_cases e1:j<b
 ·exact h1 i j i1 i2 e1
 ·by_cases e2:b<=i
  ·exact h2 i j e2 i2 j1
  ·exact C.trans (h1 i (b - 1) i1 (by omega) (by omega)) (C.trans h (h2 b j (Ak _) (by omega) j1))
structure Good0(kd:Lw)(a₀:Array Keyed)(st:Bu):Prop where
 kind:kindOf st=kd
 fail:Ky st=none
 perm:(arrOf st).Perm a₀
theorem Good0.size{st:Bu}(g:Good0 kd a₀ st):(arrOf st).size=a₀.size:=g.perm.size_eq
theorem Good0.okX{st:Bu}(g:Good0 kd a₀ st)(h0:∀x∈a₀.toList,Ok x)(hi:i<a₀.size):Ok (X (arrOf st) i):=by
 have e:=Wr (xs:=arrOf st) (i:=i) (by rw[g.size]; exact hi)
 exact h0 _ ((Pf.mp g.perm).mem_iff.mp (Jf e))
theorem yY{st:Bu}(g:Good0 kd a₀ st)(h0:∀x∈a₀.toList,Ok x)(h:b+n<=a₀.size):Row Ok (arrOf st) b n (λi=>X (arrOf st) (b+i)) :=
 ⟨λi hi=>Wr (by rw[g.size]; omega),λi hi=>g.okX h0 (by omega)⟩
theorem R9{st st':Bu}{Q:Unit->Bu->Prop}(h:Q () st'):wpS (model prog w) A E s (set st':StateT Bu Sem Unit) Q st:=by
 unfold wpS
 rw[StateT.run_set]
 exact Am ⟨rfl,h⟩
theorem nU(C:Cmp prog w A s kd Ok blt){st:Bu}(g:Good0 kd a₀ st)(h0:∀x∈a₀.toList,Ok x)(hi:(Bj st)[i]? = some (sa,na,pa))(hj:(Bj st)[i+1]? = some (sb,nb,pb))(e1:sb=sa+na)(n1:1<=na)(n2:1<=nb)(hz:sb+nb<=a₀.size)(s1:Rc blt (arrOf st) sa sb)(s2:Rc blt (arrOf st) sb (sb+nb))(h:∀st',Good0 kd a₀ st'->Bj st'=((Bj st).setIfInBounds i (sa,na+nb,pa)).eraseIdxIfInBounds (i+1)->Rc blt (arrOf st') sa (sb+nb)->iW (arrOf st) (arrOf st') sa (sb+nb)->Q true st'):wpS (model prog w) A E s (Vj i) Q st:=by
 have hsz:(arrOf st).size=a₀.size:=g.size
 unfold Vj
 refine Bd (Nb ?_)
 rw[hi,hj]
 dsimp only
 refine Bd (R9 ?_)
 refine Bd (Fg (Wr (xs:=arrOf st) (i:=sb) (by rw[hsz]; omega)) ?_)
 show wpS (model prog w) A E s _ _ (Wh (kindOf st) (arrOf st) (((Bj st).setIfInBounds i (sa,na+nb,pa)).eraseIdxIfInBounds (i+1)) (gallopOf st) (Ky st))
 generalize hst1:Wh (kindOf st) (arrOf st) (((Bj st).setIfInBounds i (sa,na+nb,pa)).eraseIdxIfInBounds (i+1)) (gallopOf st) (Ky st)=st1
 have k1:kindOf st1=kd:=by rw[<- hst1]; exact g.kind
 have ar1:arrOf st1=arrOf st:=by rw[<- hst1]
 have pd1:Bj st1=((Bj st).setIfInBounds i (sa,na+nb,pa)).eraseIdxIfInBounds (i+1):=by rw[<- hst1]
 have fl1:Ky st1=none:=by rw[<- hst1]; exact g.fail
 have g1:Good0 kd a₀ st1:=⟨k1,fl1,by rw[ar1]; exact g.perm⟩
 have same:Good0 kd a₀ st1->Rc blt (arrOf st) sa (sb+nb)->Q true st1:=λgg as=>h st1 gg pd1 (by rw[ar1]; exact as) (by rw[ar1]; exact iW.refl _ _ _)
 refine Bd (Np C (hint:=0) (n:=na) (yY g h0 (b:=sa) (n:=na) (by omega)) (g.okX h0 (i:=sb) (by omega)) k1 (by omega) (λa c hac hc q1=>?_) λk kn t1 t2=>?_)
 ·simp only[Gi,Bv,if_false,Jx] at q1 ⊢
  exact C.trans (s1 _ _ (by omega) (by omega) (by omega)) q1
 dsimp only
 have f1:∀m,m<k->le blt (X (arrOf st) (sa+m)) (X (arrOf st) sb):=λm hm=>by
  have:=t1 m hm
  have z:blt (X (arrOf st) sb) (X (arrOf st) (sa+m))=false:=by simpa only [Gi,Bv,if_false,Jx] using this
  exact z
 by_cases c1:na - k=0
 ·rw[if_pos (by rw[c1]; rfl)]
  refine Bk (same g1 (jT C (by omega) s1 s2 ?_))
  have:=f1 (na - 1) (by omega)
  rw[show sa+(na - 1)=sb - 1 by omega] at this
  exact this
 rw[if_neg (λz=>c1 (Dt z))]
 have f2:blt (X (arrOf st) sb) (X (arrOf st) (sa+k))=true:=by
  have:=t2 k (Ak _) (by omega)
  simpa only [Gi,Bv,if_false,Xx] using this
 have el:sa+k+(na - k) - 1=sb - 1:=by omega
 rw[el]
 refine Bd (Fg (Wr (xs:=arrOf st) (i:=sb - 1) (by rw[hsz]; omega)) ?_)
 refine Bd (Np C (hint:=nb - 1) (n:=nb) (yY g h0 (b:=sb) (n:=nb) (by omega)) (g.okX h0 (i:=sb - 1) (by omega)) k1 (by omega) (λa c hac hc q1=>?_) λl ln u1 u2=>?_)
 ·simp only[Gi,if_true] at q1 ⊢
  exact C.leLt (s2 _ _ (by omega) (by omega) (by omega)) q1
 dsimp only
 have f3:∀m,m<l->blt (X (arrOf st) (sb+m)) (X (arrOf st) (sb - 1))=true:=λm hm=>by
  have:=u1 m hm
  simpa only [Gi,if_true] using this
 have f4:∀m,l<=m->m<nb->le blt (X (arrOf st) (sb - 1)) (X (arrOf st) (sb+m)):=λm h1 h2=>by
  have:=u2 m h1 h2
  have z:blt (X (arrOf st) (sb+m)) (X (arrOf st) (sb - 1))=false:=by simpa only [Gi,if_true] using this
  exact z
 by_cases c2:l=0
 ·rw[if_pos (by rw[c2]; rfl)]
  subst c2
  exact Bk (same g1 (jT C (by omega) s1 s2 (f4 0 (Ak _) (by omega))))
 rw[if_neg (λz=>c2 (Dt z))]
 have ep:(arrOf st).extract (sa+k) sb=(arrOf st).extract (sa+k) (sa+k+(na - k)):=by rw[show sa+k+(na - k)=sb by omega]
 rw[ep]
 have hp:sa+k+(na - k)<=(arrOf st).size:=by omega
 have hq:sb+l<=(arrOf st).size:=by omega
 have T:Two Ok blt ((arrOf st).extract (sa+k) (sa+k+(na - k))) ((arrOf st).extract sb (sb+l)) (X (arrOf st) (sa+k)) (X (arrOf st) sb) (X (arrOf st) (sb - 1)):=by
  refine ⟨λx hx=>?_,λx hx=>?_,aC C hp s1 (by omega) (by omega),aC C hq s2 (by omega) (by omega),?_,?_,?_,f2,λy hy=>?_⟩
  ·obtain ⟨m,hm,rfl⟩:=Vq hp hx
   exact g.okX h0 (by omega)
  ·obtain ⟨m,hm,rfl⟩:=Vq hq hx
   exact g.okX h0 (by omega)
  ·exact Wv hp (by omega)
  ·exact Wv hq (by omega)
  ·rw[Rk hp,Wv hp (by omega),show sa+k+(na - k - 1)=sb - 1 by omega]
  ·obtain ⟨m,hm,rfl⟩:=Vq hq hy
   exact f3 m hm
 -- Xo the merge
 have fin:∀(r:Array Keyed) (st2:Bu),Kept st1 st2->mY blt ((arrOf st).extract (sa+k) (sa+k+(na - k))) ((arrOf st).extract sb (sb+l)) r ->
   Q (Ky (setArr st2 (Nu (arrOf st2) (sa+k) r.toList.zipIdx))).isNone (setArr st2 (Nu (arrOf st2) (sa+k) r.toList.zipIdx)):=by
  intro r st2 kp hr
  have ar2:arrOf st2=arrOf st:=kp.arr.trans ar1
  have fl2:Ky st2=none:=kp.fail.trans fl1
  have rsz:r.size=na - k+l:=by
   have:=hr.1.length_eq
   rw[Bo,Az,Az,Az,Rk hp,Rk hq] at this
   exact this
  have seg:((arrOf st).toList.drop (sa+k)).take (na - k+l)=((arrOf st).extract (sa+k) (sa+k+(na - k))).toList++((arrOf st).extract sb (sb+l)).toList:=by
   rw[Ve,Ve,List.take_add,List.drop_drop,show sa+k+(na - k)=sb by omega]
  have pa':=aX (sa+k) r.toList 0 (arrOf st) (by rw[Az]; omega)
  have xat:∀m,X (Nu (arrOf st) (sa+k) r.toList.zipIdx) m=if sa+k<=m/\m<sb+l then X r (m - (sa+k)) else X (arrOf st) m:=λm=>by
   have:=pa'.2 m
   rw[Az,rsz,Nat.add_zero] at this
   by_cases hm:sa+k<=m/\m<sb+l
   ·rw[if_pos hm]
    rw[if_pos (by omega)] at this
    refine Qm (this.trans ?_)
    simp
   ·rw[if_neg hm]
    rw[if_neg (by omega)] at this
    exact Qm this
  -- each thing of the merged is one of the two runs'
  have from2:∀m,m<na - k+l->(∃c,sa+k<=c/\c<sb/\X r m=X (arrOf st) c)\/(∃c,sb<=c/\c<sb+l/\X r m=X (arrOf st) c):=λm hm=>by
   have hx:=Jf (Wr (xs:=r) (i:=m) (by omega))
   rcases Ay.mp (hr.1.mem_iff.mp hx) with z | z
   ·obtain ⟨c,hc,e⟩:=Vq hp z
    exact .inl ⟨sa+k+c,by omega,by omega,e⟩
   ·obtain ⟨c,hc,e⟩:=Vq hq z
    exact .inr ⟨sb+c,by omega,by omega,e⟩
  have rs:∀m n,m<=n->n<na - k+l->le blt (X r m) (X r n):=λm n hmn hn=>Ks C hr.2 hmn (Ef (Wr (by omega))) (Ef (Wr (by omega)))
  have e3:Ky (setArr st2 (Nu (arrOf st2) (sa+k) r.toList.zipIdx))=none:=fl2
  rw[e3]
  refine h _ ⟨kp.kind.trans k1,e3,?_⟩ (kp.pend.trans pd1) ?_ ?_
  ·show (Nu (arrOf st2) (sa+k) r.toList.zipIdx).Perm a₀
   rw[ar2]
   refine (nE (by omega) rsz ?_).trans g.perm
   rw[seg]
   exact hr.1
  ·show Rc blt (Nu (arrOf st2) (sa+k) r.toList.zipIdx) sa (sb+nb)
   rw[ar2]
   intro c d c1 cd d1
   rw[xat,xat]
   by_cases zc:sa+k<=c/\c<sb+l
   ·rw[if_pos zc]
    by_cases zd:sa+k<=d/\d<sb+l
    ·rw[if_pos zd]
     exact rs _ _ (by omega) (by omega)
    ·rw[if_neg zd]
     rcases from2 (c - (sa+k)) (by omega) with ⟨b,b1,b2,e⟩ | ⟨b,b1,b2,e⟩
     ·rw[e]
      refine C.trans (s1 b (sb - 1) (by omega) (by omega) (by omega)) ?_
      have:=f4 (d - sb) (by omega) (by omega)
      rw[show sb+(d - sb)=d by omega] at this
      exact this
     ·rw[e]
      exact s2 b d b1 (by omega) (by omega)
   ·rw[if_neg zc]
    by_cases zd:sa+k<=d/\d<sb+l
    ·rw[if_pos zd]
     rcases from2 (d - (sa+k)) (by omega) with ⟨b,b1,b2,e⟩ | ⟨b,b1,b2,e⟩
     ·rw[e]
      exact s1 c b c1 (by omega) b2
     ·rw[e]
      have:=f1 (c - sa) (by omega)
      rw[show sa+(c - sa)=c by omega] at this
      exact C.trans this (s2 sb b (Ak _) b1 (by omega))
    ·rw[if_neg zd]
     by_cases y1:d<sb
     ·exact s1 c d c1 cd y1
     ·by_cases y2:sb<=c
      ·exact s2 c d y2 cd d1
      ·have:=f1 (c - sa) (by omega)
       rw[show sa+(c - sa)=c by omega] at this
       exact C.trans this (s2 sb d (Ak _) (by omega) d1)
  ·show iW (arrOf st) (Nu (arrOf st2) (sa+k) r.toList.zipIdx) sa (sb+nb)
   rw[ar2]
   intro m hm
   rw[xat,if_neg (by omega)]
 by_cases c3:na - k<=l
 ·rw[if_pos c3]
  refine Bd (nA C T k1 λr st2 kp hr=>?_)
  exact Bd (Jp (Bd (Nb (Bk (fin r st2 kp hr)))))
 ·rw[if_neg c3]
  refine Bd (pK C T k1 λr st2 kp hr=>?_)
  exact Bd (Jp (Bd (Nb (Bk (fin r st2 kp hr)))))
end
def dU:StateT Bu Sem Unit:=sortPriv% PySem.Builtin.sortRuns
def Runs(blt:Keyed->Keyed->Bool)(xs:Array Keyed):List (Nat×Nat×Nat)->Nat->Nat->Prop
 | [],a,b=>a=b
 | (s,n,_)::r,a,b=>s=a/\1<=n/\Rc blt xs a (a+n)/\Runs blt xs r (a+n) b
variable{blt:Keyed->Keyed->Bool}
theorem Runs.len:∀{l:List (Nat×Nat×Nat)} {a b:Nat},Runs blt xs l a b->a+l.length<=b
 | [],a,b,h=>by
  have e:a=b:=h
  rw[Lb]
  omega
 | (s,n,p)::r,a,b,h=>by
  have:=Runs.len h.2.2.2
  have:=h.2.1
  rw[Bs]
  omega
theorem Rc.out(h:Rc blt xs a b)(o:iW xs ys c d)(e:b<=c\/d<=a):Rc blt ys a b:=λi j i1 i2 j1=>by
 rw[o i (by omega),o j (by omega)]
 exact h i j i1 i2 j1
theorem Runs.out(o:iW xs ys c d):∀{l:List (Nat×Nat×Nat)} {a b:Nat},(b<=c\/d<=a)->Runs blt xs l a b->Runs blt ys l a b
 | [],_,_,_,h=>h
 | (s,n,p)::r,a,b,e,h=>by
  have hl:=Runs.len h.2.2.2
  exact ⟨h.1,h.2.1,h.2.2.1.out o (by omega),Runs.out o (by omega) h.2.2.2⟩
theorem Runs.push(hm:1<=m):∀{l:List (Nat×Nat×Nat)} {a b:Nat},Runs blt xs l a b->Rc blt xs b (b+m)->Runs blt xs (l++[(b,m,q)]) a (b+m)
 | [],a,b,h,hs=>by
  have e:a=b:=h
  subst e
  exact ⟨rfl,hm,hs,rfl⟩
 | (s,n,p)::r,a,b,h,hs=>⟨h.1,h.2.1,h.2.2.1,Runs.push hm h.2.2.2 hs⟩
theorem Runs.power:∀{l:List (Nat×Nat×Nat)} {a b:Nat} (k:Nat),Runs blt xs l a b->Runs blt xs (l.modify k λx=>(x.1,x.2.1,pw)) a b
 | [],_,_,k,h=>by simpa using h
 | (s,n,p)::r,a,b,0,h=>by
  rw[List.modify_zero_cons]
  exact h
 | (s,n,p)::r,a,b,k+1,h=>by
  rw[List.modify_succ_cons]
  exact ⟨h.1,h.2.1,h.2.2.1,Runs.power k h.2.2.2⟩
theorem Runs.two:∀{l:List (Nat×Nat×Nat)} {a b i sa na pa sb nb pb:Nat},Runs blt xs l a b->l[i]? = some (sa,na,pa)->l[i+1]? = some (sb,nb,pb)->sb=sa+na/\1<=na/\1<=nb/\a<=sa/\sb+nb<=b/\Rc blt xs sa sb/\Rc blt xs sb (sb+nb)
 | [],_,_,_,_,_,_,_,_,_,_,h,_=>by simp at h
 | (s,n,p)::r,a,b,0,sa,na,pa,sb,nb,pb,h,h1,h2=>by
  obtain ⟨e,hn,hs,hr⟩:=h
  have q:s=sa/\n=na/\p=pa:=by simpa using h1
  obtain ⟨q1,q2,q3⟩:=q
  subst q1 q2 q3
  subst e
  cases r with
  | nil=>simp at h2
  | cons y r' =>
   obtain ⟨s',n',p'⟩:=y
   have q':s'=sb/\n'=nb/\p'=pb:=by simpa using h2
   obtain ⟨q1,q2,q3⟩:=q'
   subst q1 q2 q3
   obtain ⟨e',hn',hs',hr'⟩:=hr
   have:=Runs.len hr'
   exact ⟨e',hn,hn',Ak _,by omega,by rw[e']; exact hs,by rw[e']; exact hs'⟩
 | (s,n,p)::r,a,b,i+1,sa,na,pa,sb,nb,pb,h,h1,h2=>by
  have:=Runs.two h.2.2.2 (by simpa using h1) (by simpa using h2)
  exact ⟨this.1,this.2.1,this.2.2.1,by have:=this.2.2.2.1; have:=h.2.1; omega,this.2.2.2.2.1,this.2.2.2.2.2⟩
theorem Runs.merge:∀{l:List (Nat×Nat×Nat)} {a b i sa na pa sb nb pb:Nat},Runs blt xs l a b->l[i]? = some (sa,na,pa)->l[i+1]? = some (sb,nb,pb)->iW xs ys sa (sb+nb)->Rc blt ys sa (sb+nb)->Runs blt ys ((l.set i (sa,na+nb,pa)).eraseIdx (i+1)) a b
 | [],_,_,_,_,_,_,_,_,_,_,h,_,_,_=>by simp at h
 | (s,n,p)::r,a,b,0,sa,na,pa,sb,nb,pb,h,h1,h2,o,as=>by
  have tw:=Runs.two h h1 h2
  obtain ⟨e,hn,hs,hr⟩:=h
  have q:s=sa/\n=na/\p=pa:=by simpa using h1
  obtain ⟨q1,q2,q3⟩:=q
  subst q1 q2 q3
  subst e
  cases r with
  | nil=>simp at h2
  | cons y r' =>
   obtain ⟨s',n',p'⟩:=y
   have q':s'=sb/\n'=nb/\p'=pb:=by simpa using h2
   obtain ⟨q1,q2,q3⟩:=q'
   subst q1 q2 q3
   obtain ⟨e',hn',hs',hr'⟩:=hr
   rw[List.set_cons_zero,Rb,List.eraseIdx_cons_zero]
   refine ⟨rfl,by omega,?_,?_⟩
   ·rw[show s+(n+n')=s'+n' by omega]
    exact as
   ·rw[show s+(n+n')=s+n+n' by omega]
    exact Runs.out o (.inr (by omega)) hr'
 | (s,n,p)::r,a,b,i+1,sa,na,pa,sb,nb,pb,h,h1,h2,o,as=>by
  have tw:=Runs.two (i:=i) h.2.2.2 (by simpa using h1) (by simpa using h2)
  rw[Pn,Rb]
  exact ⟨h.1,h.2.1,h.2.2.1.out o (.inl tw.2.2.2.1),Runs.merge h.2.2.2 (by simpa using h1) (by simpa using h2) o as⟩
theorem eT(P:Array (Nat×Nat×Nat))(i:Nat)(v:Nat×Nat×Nat):((P.setIfInBounds i v).eraseIdxIfInBounds (i+1)).toList=(P.toList.set i v).eraseIdx (i+1):=by
 rw[Array.toList_eraseIdxIfInBounds,Array.toList_setIfInBounds]
section
variable{prog:Bq}{w:World}{A:Cr}{s:Aj}{kd:Lw}{Ok:Keyed->Prop}{E:Value->Aj->Prop}{a₀:Array Keyed}
theorem Oz[Decidable c]{p q:StateT Bu Sem α}{Q:α->Bu->Prop}{st:Bu}(h1:c->wpS (model prog w) A E s p Q st)(h2:¬ c->wpS (model prog w) A E s q Q st):wpS (model prog w) A E s (if c then p else q) Q st:=by
 by_cases h:c
 ·rw[if_pos h]; exact h1 h
 ·rw[if_neg h]; exact h2 h
theorem gQ(C:Cmp prog w A s kd Ok blt){st:Bu}(g:Good0 kd a₀ st)(h0:∀x∈a₀.toList,Ok x){lo i:Nat}(hlo:lo<=a₀.size)(rn:Runs blt (arrOf st) (Bj st).toList 0 lo)(hi:i+1<(Bj st).size)(h:∀st',Good0 kd a₀ st'->Runs blt (arrOf st') (Bj st').toList 0 lo->(Bj st').size+1=(Bj st).size->(∀c d,lo<=c->Rc blt (arrOf st) c d->Rc blt (arrOf st') c d)->Q true st'):wpS (model prog w) A E s (Vj i) Q st:=by
 obtain ⟨⟨sa,na,pa⟩,ha⟩ : ∃x,(Bj st)[i]? = some x:=⟨(Bj st)[i],by simp⟩
 obtain ⟨⟨sb,nb,pb⟩,hb⟩ : ∃x,(Bj st)[i+1]? = some x:=⟨(Bj st)[i+1],by simp⟩
 have la:(Bj st).toList[i]? = some (sa,na,pa):=by simpa using ha
 have lb:(Bj st).toList[i+1]? = some (sb,nb,pb):=by simpa using hb
 obtain ⟨t1,t2,t3,t4,t5,t6,t7⟩:=rn.two la lb
 refine nU C g h0 ha hb t1 t2 t3 (by omega) t6 t7 λst' g' pd as ou=>?_
 refine h st' g' ?_ ?_ λc d hc hs=>hs.out ou (.inr (by omega))
 ·rw[pd,eT]
  exact rn.merge la lb ou as
 ·have : (Bj st').toList.length+1=(Bj st).toList.length:=by
   rw[pd,eT,List.length_eraseIdx,List.length_set,Az,if_pos hi]
   omega
  simpa using this
theorem L1{st:Bu}(g:Good0 kd a₀ st):Good kd a₀ (Bj st) st:=⟨g.kind,g.fail,g.perm,rfl⟩
theorem kX{st:Bu}(g:Good kd a₀ p st):Good0 kd a₀ st:=⟨g.kind,g.fail,g.perm⟩
theorem dN(C:Cmp prog w A s kd Ok blt){st:Bu}(g:Good0 kd a₀ st)(h0:∀x∈a₀.toList,Ok x)(hp:Bj st=#[])(hz:1<=a₀.size)(h:∀st',Good0 kd a₀ st'->Rc blt (arrOf st') 0 a₀.size->Q () st'):wpS (model prog w) A E s dU Q st:=by
 unfold dU
 refine Bd (Nb ?_)
 have hsz:(arrOf st).size=a₀.size:=g.size
 dsimp only
 rw[hsz]
 generalize (sortPriv% PySem.Builtin.minRun) a₀.size a₀.size 0=mr
 refine Bd (Gy (Eh
  (I:=λx c st'=>∃lo,c=(none,lo)/\Good0 kd a₀ st'/\Runs blt (arrOf st') (Bj st').toList 0 lo/\lo<=a₀.size/\x<=lo)
  (Q:=λc st'=>c=(none,a₀.size)/\Good0 kd a₀ st'/\Runs blt (arrOf st') (Bj st').toList 0 a₀.size) ?_ ?_ ⟨0,rfl,g,by rw[hp]; exact rfl,by omega,by omega⟩) ?_)
 ·(intro x c st1 _ hx q_; obtain ⟨lo,rfl,g1,rn,hlo,hxl⟩ := q_)
  dsimp only
  by_cases hge:lo ≥ a₀.size
  ·rw[if_pos hge]
   have e:lo=a₀.size:=by omega
   subst e
   exact Bk ⟨rfl,g1,rn⟩
  rw[if_neg hge]
  refine Bd (yI C (L1 g1) h0 (lo:=lo) (b:=a₀.size - lo) (by omega) (by omega) λm st2 g2 m1 m2 as ou=>?_)
  dsimp only
  have rn2:Runs blt (arrOf st2) (Bj st2).toList 0 lo:=by
   rw[g2.pd]
   exact rn.out ou (.inl (Ak _))
  have g2':=kX g2
  clear rn g1
  refine Oz (λhmin=>?_) (λhmin=>?_)
  ·refine Bd (Sk ?_)
   refine Bd (vB C g2 h0 (lo:=lo) (n:=min (a₀.size - lo) mr) (ok:=m) (by omega) as (by omega) λst3 g3 as3 ou3=>?_)
   refine Oz (λz=>absurd z (by decide)) (λ_=>?_)
   have n1:1<=min (a₀.size - lo) mr:=by omega
   have n2:lo+min (a₀.size - lo) mr<=a₀.size:=by omega
   have rn3:Runs blt (arrOf st3) (Bj st3).toList 0 lo:=by
    rw[g3.pd,<- g2.pd]
    exact rn2.out ou3 (.inl (Ak _))
   have g3':=kX g3
   generalize min (a₀.size - lo) mr=n at as3 n1 n2
   clear g2 g2' rn2 as ou ou3 g3 m1 m2 hmin
   refine Bd (Nb ?_)
   cases hb:(Bj st3).back? with
   | none =>
    dsimp only
    refine Bd (Jp ?_)
    refine Bk ⟨lo+n,rfl,⟨g3'.kind,g3'.fail,g3'.perm⟩,?_,n2,by omega⟩
    show Runs blt (arrOf st3) ((Bj st3).push (lo,n,0)).toList 0 (lo+n)
    rw[Lx]
    exact rn3.push n1 as3
   | some y =>
    obtain ⟨s1,l1,p1⟩:=y
    dsimp only
    refine Bd (Gy (Eh
     (I:=λ_ c st'=>c=(none,())/\Good0 kd a₀ st'/\Runs blt (arrOf st') (Bj st').toList 0 lo/\Rc blt (arrOf st') lo (lo+n))
     (Q:=λc st'=>c=(none,())/\Good0 kd a₀ st'/\Runs blt (arrOf st') (Bj st').toList 0 lo/\Rc blt (arrOf st') lo (lo+n)) ?_ (λ_ _ z=>z) ⟨rfl,g3',rn3,as3⟩) ?_)
    ·(intro z c st4 _ _ q_; obtain ⟨rfl,g4,rn4,as4⟩ := q_)
     refine Bd (Nb ?_)
     by_cases hs1:(Bj st4).size > 1
     ·rw[if_pos hs1]
      obtain ⟨⟨a1,b1,older⟩,ho⟩ : ∃x,(Bj st4)[(Bj st4).size - 2]? = some x:=⟨(Bj st4)[(Bj st4).size - 2],by simp⟩
      rw[ho]
      dsimp only
      refine Oz (λ_=>Bk ⟨rfl,g4,rn4,as4⟩) (λ_=>?_)
      refine Bd (gQ C g4 h0 hlo rn4 (i:=(Bj st4).size - 2) (show (Bj st4).size - 2+1<(Bj st4).size by omega) λst5 g5 rn5 _ keep=>?_)
      refine Oz (λz=>absurd z (by decide)) (λ_=>?_)
      exact Bk ⟨rfl,g5,rn5,keep _ _ (Ak _) as4⟩
     ·rw[if_neg hs1]
      exact Bk ⟨rfl,g4,rn4,as4⟩
    ·(intro c st4 q_; obtain ⟨rfl,g4,rn4,as4⟩ := q_)
     dsimp only
     refine Bd (Jp ?_)
     refine Bd (Jp ?_)
     refine Bk ⟨lo+n,rfl,⟨g4.kind,g4.fail,g4.perm⟩,?_,n2,by omega⟩
     show Runs blt (arrOf st4) (((Bj st4).modify ((Bj st4).size - 1) _).push (lo,n,0)).toList 0 (lo+n)
     rw[Lx,Array.toList_modify]
     exact (rn4.power _).push n1 as4
  ·have n2:lo+m<=a₀.size:=by omega
   refine Bd (Nb ?_)
   cases hb:(Bj st2).back? with
   | none =>
    dsimp only
    refine Bd (Jp ?_)
    refine Bk ⟨lo+m,rfl,⟨g2'.kind,g2'.fail,g2'.perm⟩,?_,n2,by omega⟩
    show Runs blt (arrOf st2) ((Bj st2).push (lo,m,0)).toList 0 (lo+m)
    rw[Lx]
    exact rn2.push m1 as
   | some y =>
    obtain ⟨s1,l1,p1⟩:=y
    dsimp only
    refine Bd (Gy (Eh
     (I:=λ_ c st'=>c=(none,())/\Good0 kd a₀ st'/\Runs blt (arrOf st') (Bj st').toList 0 lo/\Rc blt (arrOf st') lo (lo+m))
     (Q:=λc st'=>c=(none,())/\Good0 kd a₀ st'/\Runs blt (arrOf st') (Bj st').toList 0 lo/\Rc blt (arrOf st') lo (lo+m)) ?_ (λ_ _ z=>z) ⟨rfl,g2',rn2,as⟩) ?_)
    ·(intro z c st4 _ _ q_; obtain ⟨rfl,g4,rn4,as4⟩ := q_)
     refine Bd (Nb ?_)
     by_cases hs1:(Bj st4).size > 1
     ·rw[if_pos hs1]
      obtain ⟨⟨a1,b1,older⟩,ho⟩ : ∃x,(Bj st4)[(Bj st4).size - 2]? = some x:=⟨(Bj st4)[(Bj st4).size - 2],by simp⟩
      rw[ho]
      dsimp only
      refine Oz (λ_=>Bk ⟨rfl,g4,rn4,as4⟩) (λ_=>?_)
      refine Bd (gQ C g4 h0 hlo rn4 (i:=(Bj st4).size - 2) (show (Bj st4).size - 2+1<(Bj st4).size by omega) λst5 g5 rn5 _ keep=>?_)
      refine Oz (λz=>absurd z (by decide)) (λ_=>?_)
      exact Bk ⟨rfl,g5,rn5,keep _ _ (Ak _) as4⟩
     ·rw[if_neg hs1]
      exact Bk ⟨rfl,g4,rn4,as4⟩
    ·(intro c st4 q_; obtain ⟨rfl,g4,rn4,as4⟩ := q_)
     dsimp only
     refine Bd (Jp ?_)
     refine Bd (Jp ?_)
     refine Bk ⟨lo+m,rfl,⟨g4.kind,g4.fail,g4.perm⟩,?_,n2,by omega⟩
     show Runs blt (arrOf st4) (((Bj st4).modify ((Bj st4).size - 1) _).push (lo,m,0)).toList 0 (lo+m)
     rw[Lx,Array.toList_modify]
     exact (rn4.power _).push m1 as4
 ·(intro c st1 q_; obtain ⟨lo,rfl,g1,rn,hlo,hxl⟩ := q_)
  have : max 0 a₀.size=a₀.size:=by omega
  rw[this] at hxl
  have e:lo=a₀.size:=by omega
  subst e
  exact ⟨rfl,g1,rn⟩
 ·(intro c st1 q_; obtain ⟨rfl,g1,rn⟩ := q_)
  dsimp only
  have len0:=Runs.len rn
  rw[Az] at len0
  refine Bd (Gy (Eh
   (I:=λx c st'=>c=(none,())/\Good0 kd a₀ st'/\Runs blt (arrOf st') (Bj st').toList 0 a₀.size/\((Bj st').size<=1\/(Bj st').size+x<=a₀.size))
   (Q:=λc st'=>c=(none,())/\Good0 kd a₀ st'/\Runs blt (arrOf st') (Bj st').toList 0 a₀.size/\(Bj st').size<=1) ?_ ?_ ⟨rfl,g1,rn,.inr (by omega)⟩) ?_)
  ·(intro x c st2 _ hx q_; obtain ⟨rfl,g2,rn2,hs⟩ := q_)
   refine Bd (Nb ?_)
   refine Oz (λh1=>Bk ⟨rfl,g2,rn2,h1⟩) (λh1=>?_)
   have h1':¬ (Bj st2).size<=1:=h1
   generalize hB:Option.any _ _=bb
   have key:∀i,i+1<(Bj st2).size->wpS (model prog w) A E s (Vj i) (λr st3=>r=true/\Good0 kd a₀ st3/\Runs blt (arrOf st3) (Bj st3).toList 0 a₀.size/\(Bj st3).size+1=(Bj st2).size) st2 :=
    λi hi=>gQ C g2 h0 (Ak _) rn2 hi λst3 g3 rn3 sz _=>⟨rfl,g3,rn3,sz⟩
   refine Bd (Gy (key _ ?_) λr st3 ⟨er,g3,rn3,sz⟩=>?_)
   ·cases bb with
    | true=>show (Bj st2).size - 2 - 1+1<(Bj st2).size; omega
    | false=>show (Bj st2).size - 2+1<(Bj st2).size; omega
   subst er
   refine Oz (λz=>absurd z (by decide)) (λ_=>?_)
   exact Bk ⟨rfl,g3,rn3,.inr (by omega)⟩
  ·(intro c st2 q_; obtain ⟨rfl,g2,rn2,hs⟩ := q_)
   have : max 0 a₀.size=a₀.size:=by omega
   rw[this] at hs
   exact ⟨rfl,g2,rn2,by omega⟩
  ·(intro c st2 q_; obtain ⟨rfl,g2,rn2,hs⟩ := q_)
   dsimp only
   refine Bk (h st2 g2 ?_)
   generalize hl:(Bj st2).toList=l at rn2
   have hll:l.length<=1:=by rw[<- hl,Az]; exact hs
   match l,rn2,hll with
   | [],rn2,_ =>
    have e:0=a₀.size:=rn2
    omega
   | [(s1,n1,p1)],rn2,_ =>
    obtain ⟨_,_,as,e⟩:=rn2
    have e':0+n1=a₀.size:=e
    rw[e'] at as
    exact as
end
end Ts
namespace Ts
open PySem PyProof.Rows L2
theorem qM:∀l:List Int,HT.lexLt l l=false
 | []=>rfl
 | x::r=>by rw[HT.lexLt_cons,if_pos rfl]; exact qM r
theorem pE:∀{a b c:List Int},HT.lexLt a b=true->HT.lexLt b c=true->HT.lexLt a c=true
 | [],[],_,h,_=>by rw[HT.lexLt_nil_nil] at h; cases h
 | [],_::_,[],_,h=>by rw[HT.lexLt_cons_nil] at h; cases h
 | [],_::_,_::_,_,_=>HT.lexLt_nil_cons _ _
 | _::_,[],_,h,_=>by rw[HT.lexLt_cons_nil] at h; cases h
 | _::_,_::_,[],_,h=>by rw[HT.lexLt_cons_nil] at h; cases h
 | x::a,y::b,z::c,h1,h2=>by
  rw[HT.lexLt_cons] at h1 h2 ⊢
  by_cases e1:x=y
  ·subst e1
   rw[if_pos rfl] at h1
   by_cases e2:x=z
   ·subst e2
    rw[if_pos rfl] at h2 ⊢
    exact pE h1 h2
   ·rw[if_neg e2] at h2 ⊢
    exact h2
  ·rw[if_neg e1] at h1
   have l1:x<y:=of_decide_eq_true h1
   by_cases e2:y=z
   ·subst e2
    rw[if_neg e1]
    exact h1
   ·rw[if_neg e2] at h2
    have l2:y<z:=of_decide_eq_true h2
    rw[if_neg (by omega)]
    exact decide_eq_true (by omega)
theorem gH:∀{a b:List Int},HT.lexLt a b=false->HT.lexLt b a=false->a=b
 | [],[],_,_=>rfl
 | [],_::_,h,_=>by rw[HT.lexLt_nil_cons] at h; cases h
 | _::_,[],_,h=>by rw[HT.lexLt_nil_cons] at h; cases h
 | x::a,y::b,h1,h2=>by
  rw[HT.lexLt_cons] at h1 h2
  by_cases e:x=y
  ·subst e
   rw[if_pos rfl] at h1 h2
   rw[gH h1 h2]
  ·rw[if_neg e] at h1
   rw[if_neg (Lm e)] at h2
   have l1:=of_decide_eq_false h1
   have l2:=of_decide_eq_false h2
   omega
theorem C4(h:HT.lexLt a c=true):HT.lexLt a b=true\/HT.lexLt b c=true:=by
 cases h1:HT.lexLt a b with
 | true=>exact .inl rfl
 | false =>
  cases h2:HT.lexLt b a with
  | true=>exact .inr (pE h2 h)
  | false =>
   rw[<- gH h1 h2]
   exact .inr h
def HF(c:Addr->List Int)(x:Keyed):List Int:=match x.1 with
 | .ref a=>c a
 | _=>[]
def GX(c:Addr->List Int)(x y:Keyed):Bool:=HT.lexLt (HF c x) (HF c y)
def tY(c:Addr->List Int)(rs:List Addr)(h:Heap):Prop:=∀r∈rs,∃its:List Value,Ki its (c r)/\IsTup h r its.toArray
section
variable{prog:Bq}{w:World}{A:Cr}{E:Value->Aj->Prop}{s:Aj}{c:Addr->List Int}{rs:List Addr}
theorem tU(hH:tY c rs s.heap)(hu:A.units<cLine)(ha:a∈rs)(hb:b∈rs)(h:Q (HT.lexLt (c a) (c b)) s):wpAny (model prog w) A (oneLt' true (.ref a) (.ref b)) Q E s:=by
 obtain ⟨i1,t1,⟨c1,d1,dt1,sl1⟩,g1,k1,n1,e1⟩:=hH a ha
 obtain ⟨i2,t2,⟨c2,d2,dt2,sl2⟩,g2,k2,n2,e2⟩:=hH b hb
 simp only at k1 e1 k2 e2
 subst k1 e1 k2 e2
 rw[oneLt'_eq]
 simp only[if_true]
 refine Aa (wpAny_cRoomFor hu (Aa (wpAny_callSpecialIfBound?_slot ⟨_,g1,rfl⟩ PySem.F.slot_tuple_lt ?_)))
 refine cQ PySem.F.slot_tuple_lt ⟨_,g1,rfl⟩ PySem.F.entry_tuple_lt (PySem.F.args_tuple_lt_2 _ _) (HT.tuple_lt_ints a b _ _ n1 n2 d1 d2 sl1 sl2 (c a) (c b) (by simpa using t1) (by simpa using t2)) ⟨g1,g2,?_⟩
 exact Fq h
theorem L3(hH:tY c rs s.heap)(hu:A.units<cLine):Cmp prog w A s Ub (λx=>∃r∈rs,x.1=.ref r) (GX c) where
 run:=λx y Q E ⟨r,hr,ex⟩ ⟨r',hr',ey⟩ h=>by
  obtain ⟨x1,x2⟩:=x
  obtain ⟨y1,y2⟩:=y
  simp only at ex ey
  subst ex ey
  rw[keyLt'_oneType]
  exact tU hH hu hr hr' h
 irr:=λx=>qM _
 tr:=λx y z h1 h2=>pE h1 h2
 neg:=λx y z h=>C4 h
theorem Zv:∀{l:List Addr} {Q:List (Option Value)->Aj->Prop},(∀r∈l,∃its:List Value,Ki its (c r)/\IsTup s.heap r its.toArray)->(∀fs:List (Option Value),fs.length=l.length->(∀(i:Nat) (r:Addr),l[i]? = some r->∃f,fs[i]? = some f/\(f.isSome=true↔c r≠[]))->Q fs s)->wpAny (model prog w) A ((l.map Bc).mapM cI) Q E s
 | [],Q,_,h=>by
  rw[Kh,List.mapM_nil]
  exact Am (h [] rfl λi r e=>by simp at e)
 | r::l,Q,hH,h=>by
  obtain ⟨its,ti,o,g,k,n,e⟩:=hH r Ab
  rw[Aw,List.mapM_cons]
  have one:∀{R:Option Value->Aj->Prop},R its.toArray[0]? s->wpAny (model prog w) A (cI (.ref r)) R E s:=λ{R} hR=>by
   unfold cI
   refine Aa (La (T := "tuple") ⟨o,g,k⟩ ?_)
   rw[if_neg (by simp)]
   exact Aa (fO g e (Am hR))
  refine Aa (one (Aa (Zv (λr' hr'=>hH r' (Ae _ hr')) λfs hl hf=>Am (h _ (by rw[Bs,Bs,hl]) λi r' er=>?_))))
  cases i with
  | zero =>
   have e':r=r':=by simpa using er
   subst e'
   refine ⟨_,rfl,?_⟩
   have hlen:=ti.length
   cases its with
   | nil =>
    cases hc:c r with
    | nil=>simp
    | cons _ _=>rw[hc] at hlen; simp at hlen
   | cons a b =>
    cases hc:c r with
    | nil=>rw[hc] at hlen; simp at hlen
    | cons _ _=>simp
  | succ i =>
   obtain ⟨f,h1,h2⟩:=hf i r' (by simpa using er)
   exact ⟨f,by simpa using h1,h2⟩
theorem eI:∀{l:List Addr} {Q:List Value->Aj->Prop},(∀r∈l,∃its:List Value,Ki its (c r)/\IsTup s.heap r its.toArray)->Q (l.map λ_=>Hu "tuple") s->wpAny (model prog w) A ((l.map Bc).mapM typeOf) Q E s
 | [],Q,_,h=>by
  rw[Kh,List.mapM_nil]
  exact Am h
 | r::l,Q,hH,h=>by
  obtain ⟨its,ti,o,g,k,n,e⟩:=hH r Ab
  rw[Aw,List.mapM_cons]
  exact Aa (La (T := "tuple") ⟨o,g,k⟩ (Aa (eI (λr' hr'=>hH r' (Ae _ hr')) (Am h))))
theorem w4(hH:tY c (r::l) s.heap)(h0:c r=[])(h:Q Ub s):wpAny (model prog w) A (keyKind' ((r::l).map Bc).toArray) Q E s:=by
 rw[keyKind'_eq,List.mapM_toArray]
 refine Aa ?_
 show wpAny (model prog w) A (List.toArray <$> ((r::l).map Bc).mapM cI) _ E s
 rw[map_eq_pure_bind]
 refine Aa (Zv hH λfs hl hf=>Am ?_)
 obtain ⟨f,h1,h2⟩:=hf 0 r rfl
 have fn:f=none:=by
  cases f with
  | none=>rfl
  | some v=>exact absurd h0 (h2.mp rfl)
 subst fn
 have na:¬ (fs.toArray.all λx=>x.isSome)=true:=by
  intro z
  have:=Array.all_eq_true'.mp z none (by
   have:=Ax h1
   simpa using this)
  simp at this
 have n0:¬ (fs.toArray[0]?.bind id).isSome=true:=by
  rw[List.getElem?_toArray,h1]
  simp
 rw[if_neg na,if_neg n0,oneTypeOnly'_eq,List.mapM_toArray]
 refine Aa (Aa ?_)
 show wpAny (model prog w) A (List.toArray <$> ((r::l).map Bc).mapM typeOf) _ E s
 rw[map_eq_pure_bind]
 refine Aa (eI hH (Am ?_))
 have e0:((r::l).map λ_=>Hu "tuple").toArray[0]? = some (Hu "tuple"):=by simp
 have ea:(((r::l).map λ_=>Hu "tuple").toArray.all λx=>x == Hu "tuple")=true:=by
  simp only[List.all_toArray,Om,Dh]
  intro _ _
  rfl
 rw[e0]
 dsimp only
 rw[ea,if_pos rfl]
 exact Am (Am h)
theorem sV(hl:s.heap.get? a=some (Df "list" (rs.map Bc).toArray n))(hH:tY c rs s.heap)(h0:∀r l,rs=r::l->c r=[])(hu:A.units<cLine)(hz:rs.length<=Au)(h:∀rs':List Addr,rs'.Perm rs->rs'.Pairwise (λx y=>HT.lexLt (c y) (c x)=false)->P (.done (.ret .none)) { s with heap:=sortedHeap s.heap a (rs.map Bc) (rs'.map Bc).toArray }):wpAny (model prog w) A (Builtin.«list.sort» ⟨[.ref a],[]⟩) P E s:=by
 have lt:=Bh hl
 have hsz:(rs.map Bc).toArray.size=rs.length:=by simp
 rw[list_sort_plain]
 refine Aa (fO hl rfl (Aa (Lv hl rfl ?_ (by rw[hsz]; exact hz))))
 obtain ⟨ep,hl1⟩ : ∃ep,(s.heap.update a (Cp λ_=>#[])).get? a=some (Df "list" #[] ep):=⟨_,Ma hl (λ_=>#[])⟩
 refine Aa (Yo hl1 rfl (Aa (Yn (Aa (cG (Dd ?_)) ))))
 have hl2:(((s.heap.update a (Cp λ_=>#[])).push (Df "tuple" (rs.map Bc).toArray 0)).push (Df "list" #[] 0)).get? a=some (Df "list" #[] ep):=by
  rw[Heap.get?_push_ne _ _ _ (by rw[Uz,Ii]; exact Cd (Zo lt)),
   Heap.get?_push_ne _ _ _ (by rw[Ii]; exact Cd lt)]
  exact hl1
 have kept:∀b o,b≠a->s.heap.get? b=some o->(((s.heap.update a (Cp λ_=>#[])).push (Df "tuple" (rs.map Bc).toArray 0)).push (Df "list" #[] 0)).get? b=some o:=λb o hb e=>by
  refine Ah _ (Ah _ ?_)
  exact ((Cm s.heap a _).2 b hb).trans e
 have hH2:tY c rs (((s.heap.update a (Cp λ_=>#[])).push (Df "tuple" (rs.map Bc).toArray 0)).push (Df "list" #[] 0)):=λr hr=>by
  obtain ⟨its,t1,o,g1,k1,m1,e1⟩:=hH r hr
  refine ⟨its,t1,o,kept r o ?_ g1,k1,m1,e1⟩
  rintro rfl
  rw[hl] at g1
  cases g1
  exact absurd k1 (by simp)
 show wpAny (model prog w) A _ P E { s with heap:=((s.heap.update a (Cp λ_=>#[])).push (Df "tuple" (rs.map Bc).toArray 0)).push (Df "list" #[] 0) }
 dsimp only
 -- what is left Xo the runs
 have fin:∀(out:Array Value) (rs':List Addr),out=(rs'.map Bc).toArray->rs'.Perm rs->rs'.Pairwise (λx y=>HT.lexLt (c y) (c x)=false) ->
   P (.done (.ret .none)) { s with heap:=sortedHeap s.heap a (rs.map Bc) out }:=λout rs' e p1 p2=>by rw[e]; exact h rs' p1 p2
 by_cases h2:(rs.map Bc).toArray.size<2
 ·rw[if_pos h2,if_pos h2]
  refine Aa (Am ?_)
  rw[StateT.run_pure]
  refine Aa (Am (Aa (Yo hl2 rfl (Aa (Lv hl2 rfl ?_ (by simp) ?_)))))
  ·simp only[bne_self_eq_false,Bv,if_false]
   refine Am (fin _ rs ?_ (List.Perm.refl _) ?_)
   ·show Array.map (λx=>x.2) ((rs.map Bc).toArray.zip (rs.map Bc).toArray)=_
    apply Array.ext'
    simp [List.map_snd_zip]
   ·rw[hsz] at h2
    match rs,h2 with
    | [],_=>exact Ko
    | [_],_=>exact Gg _ _
    | _::_::_,h2=>simp only[Bs] at h2; omega
  ·show (Array.map (λx:Keyed=>x.2) ((rs.map Bc).toArray.zip (rs.map Bc).toArray)).size<=Au+1
   rw[Array.size_map,Array.size_zip,hsz]
   omega
 ·rw[if_neg h2,if_neg h2]
  rw[hsz] at h2
  obtain ⟨r0,Gk,e0⟩ : ∃r l,rs=r::l:=by
   cases rs with
   | nil=>simp at h2
   | cons r l=>exact ⟨r,l,rfl⟩
  have hk:∀{R:Lw->Aj->Prop},R Ub { s with heap:=((s.heap.update a (Cp λ_=>#[])).push (Df "tuple" (rs.map Bc).toArray 0)).push (Df "list" #[] 0) } ->
    wpAny (model prog w) A (keyKind' (rs.map Bc).toArray) R E { s with heap:=((s.heap.update a (Cp λ_=>#[])).push (Df "tuple" (rs.map Bc).toArray 0)).push (Df "list" #[] 0) }:=λ{R} hR=>by
   have hH3:=hH2
   rw[e0] at hH3 hR ⊢
   exact w4 hH3 (h0 r0 Gk e0) hR
  refine Aa (hk ?_)
  have C:=L3 (prog:=prog) (w:=w) (A:=A) (s:={ s with heap:=((s.heap.update a (Cp λ_=>#[])).push (Df "tuple" (rs.map Bc).toArray 0)).push (Df "list" #[] 0) }) hH2 hu
  have a0:(pairsOf (rs.map Bc)).size=rs.length:=by rw[pairsOf_size,Ad]
  refine Aa (Ft (dN C (a₀:=pairsOf (rs.map Bc)) (st:=Wh Ub ((rs.map Bc).toArray.zip (rs.map Bc).toArray) #[] 7 none) (E:=E)
   (Q:=λ_ st'=>Good0 Ub (pairsOf (rs.map Bc)) st'/\Rc (GX c) (arrOf st') 0 (pairsOf (rs.map Bc)).size)
   ⟨rfl,rfl,Array.Perm.refl _⟩ (λx hx=>?_) rfl (by rw[a0]; omega) λst' g as=>⟨g,as⟩) ?_ λ_ _ z=>z)
  ·rw[pairsOf_toList] at hx
   obtain ⟨_,hm⟩:=mem_zip_self hx
   obtain ⟨r,hr,e⟩:=Bt.mp hm
   exact ⟨r,hr,e.symm⟩
  ·(rintro ⟨⟨⟩,st'⟩ s' q_; obtain ⟨rfl,g,as⟩ := q_)
   dsimp only
   -- the things of the new order
   have pl:(arrOf st').toList.Perm ((rs.map Bc).zip (rs.map Bc)):=by rw[<- pairsOf_toList]; exact Pf.mp g.perm
   have each:∀x∈(arrOf st').toList,∃r∈rs,x=(Bc r,Bc r):=λx hx=>by
    obtain ⟨e,hm⟩:=mem_zip_self (pl.mem_iff.mp hx)
    obtain ⟨r,hr,e2⟩:=Bt.mp hm
    refine ⟨r,hr,?_⟩
    obtain ⟨x1,x2⟩:=x
    simp only at e e2
    rw[<- e,e2]
   have ex:∀l:List Keyed,(∀x∈l,∃r∈rs,x=(Bc r,Bc r))->∃rs':List Addr,l=rs'.map λr=>(Bc r,Bc r):=by
    intro l
    induction l with
    | nil=>intro _; exact ⟨[],rfl⟩
    | cons x l ih =>
     intro hx
     obtain ⟨r,_,e⟩:=hx x Ab
     obtain ⟨rs',e'⟩:=ih λy hy=>hx y (Ae _ hy)
     exact ⟨r::rs',by rw[Aw,e,e']⟩
   obtain ⟨rs',ers⟩:=ex _ each
   have zz:(rs.map Bc).zip (rs.map Bc)=rs.map λr=>(Bc r,Bc r):=by
    rw[List.zip_map',]
   rw[ers,zz] at pl
   have inj:∀x:Keyed,∃a:Addr,True:=λ_=>⟨0,trivial⟩
   have pr:rs'.Perm rs:=by
    have:=pl.map (λx:Keyed=>match x.1 with | .ref a=>a | _=>0)
    rw[Ce,Ce] at this
    simpa [Wj] using this
   have so:rs'.Pairwise (λx y=>HT.lexLt (c y) (c x)=false):=by
    rw[Ew]
    intro i j hi hj hij
    have ls:(arrOf st').size=rs'.length:=by
     have:=congrArg Fc ers
     rw[Az,Ad] at this
     exact this
    have xe:∀k (hk:k<rs'.length),X (arrOf st') k=(Bc rs'[k],Bc rs'[k]):=λk hk=>by
     have e1:=Ef (Wr (xs:=arrOf st') (i:=k) (by omega))
     rw[ers,Bf,Ba hk] at e1
     exact (Bn e1).symm
    have:=as i j (Dg _) (by omega) (by rw[a0,<- pr.length_eq]; exact hj)
    rw[xe i hi,xe j hj] at this
    exact this
   refine Aa (Yo hl2 rfl (Aa (Lv hl2 rfl ?_ (by simp) ?_)))
   ·have fl:Ky st'=none:=g.fail
    rw[fl]
    simp only[bne_self_eq_false,Bv,if_false]
    refine Am (fin _ rs' ?_ pr so)
    apply Array.ext'
    rw[Array.toList_map,ers,Ce]
    rfl
   ·show (Array.map (λx:Keyed=>x.2) (arrOf st')).size<=Au+1
    rw[Array.size_map,g.size,a0]
    omega
end
theorem Xr:∀{rs:List Addr} {us:List Value},Ff (rs.map V.ref) us->us=rs.map Bc
 | [],_,r=>by cases r; rfl
 | a::l,_,r=>by
  rw[Aw] at r
  cases r with
  | cons r1 r2 =>
   cases r1
   rw[Xr r2]
   rfl
theorem Ww:∀rs:List Addr,Ff (rs.map V.ref) (rs.map Bc)
 | []=>.nil
 | _::l=>.cons rfl (Ww l)
section
variable{prog:Bq}{w:World}{A:Cr}{E:Value->Aj->Prop}{s:Aj}{c:Addr->List Int}{rs:List Addr}
theorem lH(hl:s.heap.IsList l (rs.map Bc).toArray)(hH:tY c rs s.heap)(h0:∀r l,rs=r::l->c r=[])(hu:A.units+2<cLine)(hz:rs.length<=Au)(h:∀rs':List Addr,rs'.Perm rs->rs'.Pairwise (λx y=>HT.lexLt (c y) (c x)=false)->Q (.ref (s.heap.objs.size+1)) { s with heap:=sortedAll s.heap (rs.map Bc) (rs'.map Bc).toArray }):wpAny (model prog w) A (call (.builtin "sorted") [.ref l]) Q E s:=by
 refine Calls.call_function_entry (by exact kind_sorted) plain_sorted entry_sorted (args_sorted1 _) ?_
 unfold Builtin.«sorted»
 refine Aa (m:=checkCount "sorted" 1 1 _) (Am (Aa (collect_list hl (Aa (cG ?_)) (by rw[Ad]; exact hz))))
 have z1:((s.heap.push (Df "list" #[] 0)).update s.heap.objs.size (Cp (·++(rs.map Bc).toArray))).objs.size=s.heap.objs.size+1:=by rw[Ii,Uz]
 have g1:(((s.heap.push (Df "list" #[] 0)).update s.heap.objs.size (Cp (·++(rs.map Bc).toArray))).push (Df "list" (rs.map Bc).toArray 0)).get? (s.heap.objs.size+1)=some (Df "list" (rs.map Bc).toArray 0):=by
  rw[<- z1]
  exact Bg _ rfl
 have kept:∀b o,s.heap.get? b=some o->(((s.heap.push (Df "list" #[] 0)).update s.heap.objs.size (Cp (·++(rs.map Bc).toArray))).push (Df "list" (rs.map Bc).toArray 0)).get? b=some o:=λb o e=>by
  refine Ah _ (((Cm _ _ _).2 b (Cd (Bh e))).trans (Ah _ e))
 show wpAny _ _ _ _ _ { s with heap:=((s.heap.push (Df "list" #[] 0)).update s.heap.objs.size (Cp (·++(rs.map Bc).toArray))).push (Df "list" (rs.map Bc).toArray 0) }
 rw[z1]
 refine Aa (Dd (Ex slot_list_sort ⟨_,g1,rfl⟩ entry_list_sort (sV g1 (λr hr=>?_) h0 ?_ hz λrs' p1 p2=>⟨_,rfl,?_⟩) (args_list_sort _)))
 ·obtain ⟨its,t1,o,q1,k1,m1,e1⟩:=hH r hr
  exact ⟨its,t1,o,kept r o q1,k1,m1,e1⟩
 ·first | exact Iy (by show A.units+2<=A.units+2; exact Ak _) hu | exact Iy (Kl _ 2) hu | (show A.units+1<cLine; omega) | trace_state
 ·exact Am ⟨_,rfl,h rs' p1 p2⟩
theorem Yt(e:h.get? b=some o):(sortedAll h vs out).get? b=some o:=by
 have lt:=Bh e
 unfold sortedAll sortedHeap
 have z1:((h.push (Df "list" #[] 0)).update h.objs.size (Cp (·++vs.toArray))).objs.size=h.objs.size+1:=by rw[Ii,Uz]
 have n1:b≠h.objs.size+1:=Cd (Zo lt)
 refine ((Cm _ _ _).2 b n1).trans (Ah _ (Ah _ (((Cm _ _ _).2 b n1).trans (Ah _ ?_))))
 exact ((Cm _ _ _).2 b (Cd lt)).trans (Ah _ e)
theorem cW:∃n,(sortedAll h vs out).get? (h.objs.size+1)=some (Df "list" out n):=by
 unfold sortedAll sortedHeap
 have z1:((h.push (Df "list" #[] 0)).update h.objs.size (Cp (·++vs.toArray))).objs.size=h.objs.size+1:=by rw[Ii,Uz]
 have g1:(((h.push (Df "list" #[] 0)).update h.objs.size (Cp (·++vs.toArray))).push (Df "list" vs.toArray 0)).get? (h.objs.size+1)=some (Df "list" vs.toArray 0):=by
  rw[<- z1]
  exact Bg _ rfl
 have g2:=Ma g1 (λ_=>#[])
 have g3:=Ah (Df "list" #[] 0) (Ah (Df "tuple" vs.toArray 0) g2)
 exact ⟨_,Ma g3 (λ_=>out)⟩
end
section
variable{X:Cx}
theorem call_sorted(hu:X.A.units+2<cLine):Ld X (.builtin "sorted") (λxs H Q=>∃(a:Addr) (rs:List Addr) (c:Addr->List Int),xs=[.ref a]/\Mc X.K H a (rs.map V.ref)/\(∀r∈rs,Up X.K H r ((c r).map V.int))/\(∀r l,rs=r::l->c r=[])/\∀(p:Addr) (rs':List Addr),H p=none->rs'.Perm rs->rs'.Pairwise (λx y=>HT.lexLt (c y) (c x)=false)->Q (.ref p) (upd H p (.lst (rs'.map V.ref)))):=by
 intro pins s σ H xs us Q I r h
 obtain ⟨a,rs,c,rfl,hl,hc,h0,q⟩:=h
 obtain ⟨u,rfl,ru⟩:=vals1 r
 cases ru
 obtain ⟨its,rv,pl,hz⟩:=I.list hl
 have e:=Xr rv
 subst e
 rw[Ad] at hz
 refine lH (c:=c) pl.isList (λr hr=>?_) h0 hu hz λrs' p1 p2=>?_
 ·obtain ⟨ti,t1,t2,_⟩:=I.tuple (hc r hr)
  exact ⟨ti,intsAre_of t1,t2⟩
 ·obtain ⟨n,hn⟩:=cW (h:=s.heap) (vs:=rs.map Bc) (out:=(rs'.map Bc).toArray)
  refine ⟨.ref (s.heap.objs.size+1),upd H (s.heap.objs.size+1) (.lst (rs'.map V.ref)),I.laid (t':=s.toks) (λb o e=>Yt e) (Vd _) ⟨?_,_,n,Ww rs',hn⟩,rfl,q _ rs' (I.hok.fresh (Vd _)) p1 p2⟩
  rw[Ad,p1.length_eq]
  exact hz
end
section
variable{prog:Bq}{w:World}{A:Cr}{E:Value->Aj->Prop}{s:Aj}{c:Addr->List Int}{rs:List Addr}
theorem M7(h:Q (decide (x<y)) s):wpAny (model prog w) A (oneLt' b (.int x t) (.int y u)) Q E s:=by
 cases b with
 | true=>exact oneLt_int h
 | false=>exact PySem.W.kat_one _ _ (lt_int h)
end
end Ts
namespace DL
open PySem L2 Nd
def Ml{α:Type}(xs:List α)(lo hi:Option Int):List α:=(xs.drop (HT.sIx xs.length 0 lo)).take (HT.sIx xs.length xs.length hi - HT.sIx xs.length 0 lo)
theorem wW(f:α->β)(xs:List α)(lo hi:Option Int):Ml (xs.map f) lo hi=(Ml xs lo hi).map f:=by
 unfold Ml
 rw[Ad,List.map_take,List.map_drop]
theorem Rp(xs:List α)(lo hi:Option Int):(Ml xs lo hi).Sublist xs:=(Mb _ _).trans (Jv _ _)
theorem uV(xs:List α)(k:Nat):Ml xs none (some (k:Int))=xs.take k:=by
 unfold Ml
 rw[HT.sIx_none,HT.sIx_nat,List.drop_zero,Nat.sub_zero]
 by_cases h:k<=xs.length
 ·rw[Nat.min_eq_left h]
 ·rw[Nat.min_eq_right (by omega),Ga,Es (by omega)]
section
variable{K:PySem.W.Frag}{H:Hp}
theorem RdFs.drop:∀(n:Nat) {xs:List V} {ds:List Ac} {F:List Addr},RdFs K H xs ds F->∃G,RdFs K H (xs.drop n) (ds.drop n) G/\G.Sublist F
 | 0,_,_,F,h=>⟨F,h,Cq _⟩
 | n+1,_,_,_,.nil=>⟨[],.nil,Cq _⟩
 | n+1,_,_,_,.cons _ t=>by
  obtain ⟨G,h1,h2⟩:=RdFs.drop n t
  exact ⟨G,h1,h2.trans (Cf _ _)⟩
theorem RdFs.take:∀(n:Nat) {xs:List V} {ds:List Ac} {F:List Addr},RdFs K H xs ds F->∃G,RdFs K H (xs.take n) (ds.take n) G/\G.Sublist F
 | 0,_,_,F,h=>⟨[],.nil,List.nil_sublist _⟩
 | n+1,_,_,_,.nil=>⟨[],.nil,Cq _⟩
 | n+1,_,_,_,.cons a t=>by
  obtain ⟨G,h1,h2⟩:=RdFs.take n t
  exact ⟨_,.cons a h1,(Cq _).append h2⟩
theorem RdFs.cut(h:RdFs K H xs ds F)(lo hi:Option Int):∃G,RdFs K H (cC xs lo hi) (Ml ds lo hi) G/\G.Sublist F:=by
 unfold cC Ml
 rw[h.len]
 obtain ⟨G,h1,h2⟩:=h.drop (HT.sIx ds.length 0 lo)
 obtain ⟨G',h3,h4⟩:=h1.take (HT.sIx ds.length ds.length hi - HT.sIx ds.length 0 lo)
 exact ⟨G',h3,h4.trans h2⟩
theorem RdFs.rev:∀{xs:List V} {ds:List Ac},RdFs K H xs ds []->RdFs K H xs.reverse ds.reverse []:=λ{xs ds} h=>by
 have : ∀{xs:List V} {ds:List Ac} {F:List Addr},RdFs K H xs ds F->F=[]->RdFs K H xs.reverse ds.reverse []:=by
  intro xs ds F h
  induction xs generalizing ds F with
  | nil=>intro _; cases h; exact .nil
  | cons x xs ih =>
   intro e
   cases h with
   | @cons _ d _ ds F G a t =>
    obtain ⟨rfl,rfl⟩:=pO.mp e
    rw[Qg,Qg]
    exact (ih t rfl).snoc a
 exact this h rfl
theorem RdFs.rep(h:RdFs K H xs ds []):∀k:Nat,RdFs K H (By k xs).flatten (By k ds).flatten []
 | 0=>.nil
 | k+1=>by
  rw[Fo,Fo,Hs,Hs]
  exact h.app (RdFs.rep h k)
theorem RdFs.ints:∀ns:List Int,RdFs K H (ns.map V.int) (ns.map Ai) []
 | []=>.nil
 | n::ns=>RdFs.cons (F:=[]) (.int n) (RdFs.ints ns)
theorem RdFs.ints_inv:∀{ns:List Int} {xs:List V} {F:List Addr},RdFs K H xs (ns.map Ai) F->xs=ns.map V.int/\F=[]
 | [],_,_,h=>by cases h; exact ⟨rfl,rfl⟩
 | n::ns,_,_,h=>by
  rw[Aw] at h
  cases h with
  | cons a t =>
   obtain ⟨rfl,rfl⟩:=a.int_inv
   obtain ⟨rfl,rfl⟩:=RdFs.ints_inv t
   exact ⟨rfl,rfl⟩
theorem RdFs.bools_inv:∀{ns:List Bool} {xs:List V} {F:List Addr},RdFs K H xs (ns.map PyData.bool) F->xs=ns.map V.bl/\F=[]
 | [],_,_,h=>by cases h; exact ⟨rfl,rfl⟩
 | n::ns,_,_,h=>by
  rw[Aw] at h
  cases h with
  | cons a t =>
   obtain ⟨rfl,rfl⟩:=a.bl_inv
   obtain ⟨rfl,rfl⟩:=RdFs.bools_inv t
   exact ⟨rfl,rfl⟩
end
theorem cA:Dw (a++b)=(Dw a && Dw b):=by
 induction a with
 | nil=>simp [Dw]
 | cons x a ih=>simp [Dw,ih,Bool.and_assoc]
theorem Oo(ns:List Int):Dw (ns.map Ai)=true:=Um (λ_=>by simp [imm]) ns
def qZ:D2:=λx y P=>match x,y with
 | .dat _ (.list ds),.dat _ (.list es)=>Dw ds=true/\Dw es=true/\ds.length+es.length<=1000000/\P (.dat .ow (.list (ds++es)))
 | _,_=>False
def sM:D2:=λx y P=>match x,y with
 | .dat _ (.list ds),.dat _ (.int k)=>Dw ds=true /\ -1000000<=k/\k<=1000000/\ds.length * k.toNat<=1000000/\P (.dat .ow (.list (By k.toNat ds).flatten))
 | _,_=>False
section
variable{K:PySem.W.Frag}
theorem Z8:mK K V7 qZ:=by
 intro H0 X n S T x y v w F G H Q P hA hd k
 unfold qZ at hd
 split at hd
 ·obtain ⟨i1,i2,hz,p⟩:=hd
  obtain ⟨b,ys,G1,rfl,hb,rb,_,_⟩:=(hA.told mem_mid).list_inv
  obtain ⟨a,xs,G2,rfl,ha,ra,_,_⟩:=(hA.told Em).list_inv
  have l1:=ra.len
  have l2:=rb.len
  refine ⟨a,b,xs,ys,rfl,rfl,ha,hb,mC (by omega),λq hq=>?_⟩
  exact k _ _ _ _ (hA.drop2.newI (ra.app rb) (by rw[cA,i1,i2]; rfl) (by rw[Bo]; exact mC (by omega)) hq .ow) p
 ·exact hd.elim
theorem Y3:mK K CO sM:=by
 intro H0 X n S T x y v w F G H Q P hA hd k
 unfold sM at hd
 split at hd
 ·obtain ⟨i1,k0,k1,hz,p⟩:=hd
  obtain ⟨rfl,_⟩:=(hA.told mem_mid).int_inv
  obtain ⟨a,xs,G2,rfl,ha,ra,_,_⟩:=(hA.told Em).list_inv
  have l1:=ra.len
  obtain rfl:=ra.imm i1
  rename_i j
  refine ⟨a,_,xs,rfl,rfl,ha,by omega,by omega,mC (by rw[l1]; exact hz),λq hq=>?_⟩
  refine k _ _ _ _ (hA.drop2.newI (ra.rep _) ?_ (by rw[qN,Nat.mul_comm]; exact mC hz) hq .ow) p
  refine pF.mpr λz hz'=>?_
  obtain ⟨l,hl,hz'⟩:=List.mem_flatten.mp hz'
  rw[(Hd.mp hl).2] at hz'
  exact pF.mp i1 z hz'
 ·exact hd.elim
end
section
variable{X:Cx}{a b:Expr}{da db:DE}{pos:Pos}
theorem Rf(ha:Er X a da)(hb:Er X b db):Er X (.BinOp a .Add b pos) (Xq qZ da db):=Tx iM Z8 ha hb
theorem S7(ha:Er X a da)(hb:Er X b db):Er X (.BinOp a .Mult b pos) (Xq sM da db):=Tx W8 Y3 ha hb
end
abbrev DO:=DS->(Option Int->DS->Prop)->Prop
def LO(K:PySem.W.Frag)(do_:DO):TO:=λσ H Q=>∃(H0:Hp) (X:Addr->Prop) (S T:List Ent) (δ:DS) (P:Option Int->DS->Prop),vs S=σ/\Sl S δ/\At K H0 X δ.n (S++T) H/\do_ δ P /\
 ∀o δ' S' H',vs S'=σ->Sl S' δ'->At K H0 X δ'.n (S'++T) H'->P o δ'->Q o H'
abbrev AL(X:Cx)(e:Option Expr)(d:DO):Prop:=PO X e (LO X.K d)
theorem PO.imp(h:PO X e t)(k:∀σ H Q,t' σ H Q->t σ H Q):PO X e t':=λpins s σ H Q I q=>h pins s σ H Q I (k σ H Q q)
def pQ:DO:=λδ P=>P none δ
def P3(de:DE):DO:=λδ P=>de δ λx δ'=>match x with
 | .dat _ (.int i)=>P (some i) δ'
 | _=>False
section
variable{X:Cx}{e:Expr}{de:DE}{lo hi:Option Expr}{dl dh:DO}{pos p2:Pos}
theorem Ry:AL X none pQ:=by
 refine PO.imp A3 λσ H Q h=>?_
 obtain ⟨H0,Y,S,T,δ,P,rfl,hS,hA,hd,k⟩:=h
 exact k _ δ S H rfl hS hA hd
theorem Ri(h:Er X e de):AL X (some e) (P3 de):=by
 refine PO.imp (x5 h) λσ H Q h=>?_
 obtain ⟨H0,Y,S,T,δ,P,rfl,hS,hA,hd,k⟩:=h
 refine ⟨H0,Y,S,T,δ,_,rfl,hS,hA,hd,λx δ' v F S' H' e1 e2 hA' p=>?_⟩
 split at p
 ·obtain ⟨rfl,_⟩:=(hA'.told mem_mid).int_inv
  exact ⟨_,rfl,k _ δ' S' H' e1 e2 hA'.drop p⟩
 ·exact p.elim
def GZ(i:Bool)(de:DE)(dl dh:DO):DE:=λδ P=>de δ λx δ1=>dl δ1 λl δ2=>dh δ2 λh δ3=>match x with
 | .dat m (.list ds)=>Yg i m (Ml ds l h) λz=>P z δ3
 | .dat m (.tuple ds)=>gZ i m (Ml ds l h) λz=>P z δ3
 | _=>False
def FN(K:PySem.W.Frag):V->Option Int->Option Int->Hp->VK->Prop:=λx lo hi H Q=>X1 K x lo hi H Q\/P9 x lo hi H Q
theorem Vo(he:Er X e de)(hl:AL X lo dl)(hh:AL X hi dh):Er X (.Subscript e (.Slice lo hi none p2) pos) (GZ i de dl dh):=by
 refine PE.imp (kH (r:=FN X.K) (K1.or M3) he hl hh) λσ H Q h=>?_
 obtain ⟨H0,Y,S,T,δ,P,rfl,hS,hA,hd,k⟩:=h
 refine ⟨H0,Y,S,T,δ,_,rfl,hS,hA,hd,λx δ1 v F S1 H1 e1 e2 hA1 p1=>?_⟩
 refine ⟨H0,Y,S1,⟨some v,x,F⟩::T,δ1,_,e1,e2,hA1,p1,λl δ2 S2 H2 e3 e4 hA2 p2=>?_⟩
 refine ⟨H0,Y,S2,⟨some v,x,F⟩::T,δ2,_,e3,e4,hA2,p2,λh δ3 S3 H3 e5 e6 hA3 p3=>?_⟩
 split at p3
 ·obtain ⟨a,xs,G,rfl,ha,ra,rfl,hz⟩:=(hA3.told mem_mid).list_inv
  refine .inl ⟨a,xs,rfl,Mc.of ha,λp hp=>?_⟩
  obtain ⟨G',h1,h2⟩:=ra.cut l h
  obtain ⟨z,F',hA4,p4⟩:=hA3.newL h1 (h2.trans (Cv _ _)) (Bz (Rp _ _ _).length_le hz) hp p3
  exact k z δ3 _ F' S3 _ e5 e6 hA4 p4
 ·obtain ⟨a,xs,rfl,ha,ra,hz⟩:=(hA3.told mem_mid).tup_inv
  refine .inr ⟨a,xs,rfl,ha,λp H' hp s1=>?_⟩
  obtain ⟨G',h1,h2⟩:=ra.cut l h
  obtain ⟨z,F',hA4,p4⟩:=(hA3.grow s1 (Ak _)).oldT (h1.kp (Kp.of s1)) h2 (Bz (Rp _ _ _).length_le hz) hp p3
  exact k z δ3 _ F' S3 _ e5 e6 hA4 p4
 ·exact p3.elim
def P4(de:DE):DE:=λδ P=>de δ λx δ1=>match x with
 | .dat _ (.list ds)=>Dw ds=true/\P (.dat .ow (.list ds.reverse)) δ1
 | _=>False
theorem oU(h:Dw ds=true):Dw ds.reverse=true:=pF.mpr λx hx=>pF.mp h x (Mw.mp hx)
theorem C3(he:Er X e de)(hk:PE X k tk)(htk:∀σ H Q,Q (.int (-1)) H->tk σ H Q):Er X (.Subscript e (.Slice none none (some k) p2) pos) (P4 de):=by
 refine PE.imp (K3 he hk htk) λσ H Q h=>?_
 obtain ⟨H0,Y,S,T,δ,P,rfl,hS,hA,hd,kk⟩:=h
 refine ⟨H0,Y,S,T,δ,_,rfl,hS,hA,hd,λx δ1 v F S1 H1 e1 e2 hA1 p1=>?_⟩
 split at p1
 ·obtain ⟨a,xs,G,rfl,ha,ra,rfl,hz⟩:=(hA1.told mem_mid).list_inv
  obtain rfl:=ra.imm p1.1
  refine ⟨a,xs,rfl,Mc.of ha,λp hp=>?_⟩
  exact kk _ δ1 _ _ S1 _ e1 e2 (hA1.drop.newI ra.rev (oU p1.1) (by rw[Hz]; exact hz) hp .ow) p1.2
 ·exact p1.elim
end
end DL
namespace NdS
open PySem PyProof.Rows
end NdS
namespace Nd
open PySem PySem.Spec PyProof.Rows L2 NdS
end Nd
namespace DL
open PySem L2 Nd
def ES(x:Int):List Int->List Int
 | []=>[x]
 | y::l=>if x<y then x::y::l else if x=y then y::l else y::ES x l
def Z2(ns:List Int):List Int:=ns.foldr ES []
abbrev DC:=List DV->(DV->Prop)->Prop
def My(K:PySem.W.Frag)(r:List V->Hp->VK->Prop)(rd:DC):Prop:=∀(H0:Hp) (X:Addr->Prop) (n:Nat) (S T As:List Ent) (us:List V) (H:Hp) (Q:VK) (P:DV->Prop),
 As.map Ent.v=us.map some->At K H0 X n (S++(As++T)) H->rd (As.map Ent.x) P->(∀z u F' H',At K H0 X n (S++⟨some u,z,F'⟩::T) H'->P z->Q u H')->r us H Q
def AN(rd:DC)(da:DA):DE:=λδ P=>da δ λxs δ1=>rd xs λz=>P z δ1
section
variable{X:Cx}{x:Str}{p pos:Pos}{e:Expr}{es:List Expr}{da:DA}{id T:String}{r:List V->Hp->VK->Prop}{rd:DC}
theorem sE(o:My K r rd):∀σ H Q,LE K (AN rd da) σ H Q->BC r (LA K da) σ H Q:=by
 intro σ H Q h
 obtain ⟨H0,Y,S,T,δ,P,rfl,hS,hA,hd,k⟩:=h
 refine ⟨H0,Y,S,T,δ,_,rfl,hS,hA,hd,λxs δ' As us S' H' e1 e2 ex eu hA' p=>?_⟩
 subst ex
 exact o H0 Y δ'.n S' T As us H' Q _ eu hA' p λz u F' H'' hA3 p3=>k z δ' u F' S' H'' e1 e2 hA3 p3
theorem Dj(hc:Ld X (.builtin id) r)(o:My X.K r rd)(hg:Gl X x)(hm:X.mg x=none)(hv:Js x=some (.builtin id))(ha:jK X (e::es) da)(hn:x ≠ "__name__" := by decide)(hdb:(x == ("__debug__" : Str))=false:=by decide)(he:Bp (e::es) X.env=(false,eval e X.env)::Bp es X.env:=by rfl)(hpl:(Gw pos (Bp es X.env)).any (·.1)=false:=by rfl):Er X (.Call (.Name x p) (e::es) [] pos) (AN rd da) :=
 PE.imp (bN hc hg hm hv ha hn hdb he hpl) (sE o)
theorem Kt(hc:Ld X (.type T) r)(o:My X.K r rd)(hg:Gl X x)(hm:X.mg x=none)(hv:Js x=some (.type T))(ha:jK X (e::es) da)(hn:x ≠ "__name__" := by decide)(hdb:(x == ("__debug__" : Str))=false:=by decide)(he:Bp (e::es) X.env=(false,eval e X.env)::Bp es X.env:=by rfl)(hpl:(Gw pos (Bp es X.env)).any (·.1)=false:=by rfl):Er X (.Call (.Name x p) (e::es) [] pos) (AN rd da) :=
 PE.imp (tX hc hg hm hv ha hn hdb he hpl) (sE o)
end
theorem X2{α β:Type}{f:α->β}{l:List α}{x:β}(h:l.map f=[x]):∃a,l=[a]/\f a=x:=by
 cases l with
 | nil=>cases h
 | cons a t =>
  obtain ⟨h1,h2⟩:=Dr h
  exact ⟨a,by rw[List.map_eq_nil_iff.mp h2],h1⟩
theorem EL{α β:Type}{f:α->β}{l:List α}{x y:β}(h:l.map f=[x,y]):∃a b,l=[a,b]/\f a=x/\f b=y:=by
 cases l with
 | nil=>cases h
 | cons a t =>
  obtain ⟨h1,h2⟩:=Dr h
  obtain ⟨b,rfl,h3⟩:=X2 h2
  exact ⟨a,b,rfl,h1,h3⟩
theorem Gm(eu:As.map Ent.v=us.map some)(hA:At K H0 X n (S++(As++T)) H)(ex:As.map Ent.x=[x]):∃v F,us=[v]/\At K H0 X n (S++⟨some v,x,F⟩::T) H:=by
 obtain ⟨⟨v,y,F⟩,rfl,h1⟩:=X2 ex
 obtain ⟨u,rfl,h2⟩:=X2 eu.symm
 have h1':y=x:=h1
 have h2':some u=v:=h2
 subst h1' h2'
 exact ⟨u,F,rfl,hA⟩
theorem Vf(eu:As.map Ent.v=us.map some)(hA:At K H0 X n (S++(As++T)) H)(ex:As.map Ent.x=[x,y]):∃v F w G,us=[v,w]/\At K H0 X n (S++⟨some v,x,F⟩::⟨some w,y,G⟩::T) H:=by
 obtain ⟨⟨v,x',F⟩,⟨w,y',G⟩,rfl,h1,h2⟩:=EL ex
 obtain ⟨u,u',rfl,h3,h4⟩:=EL eu.symm
 have h1':x'=x:=h1
 have h2':y'=y:=h2
 have h3':some u=v:=h3
 have h4':some u'=w:=h4
 subst h1' h2' h3' h4'
 exact ⟨u,F,u',G,rfl,hA⟩
def qA:DC:=λxs P=>match xs with
 | [.dat _ (.list ds)]=>P (.dat .ow (.int ds.length))
 | [.dat _ (.tuple ds)]=>P (.dat .ow (.int ds.length))
 | [.dat _ (.str z)]=>z.length<=1000000/\P (.dat .ow (.int z.length))
 | _=>False
def oX(i:Bool):DC:=λxs P=>match xs with
 | [.dat m (.list ds)]=>Yg i m ds P
 | [.dat m (.tuple ds)]=>Yg i m ds P
 | _=>False
def fS(i:Bool):DC:=λxs P=>match xs with
 | [.dat m (.list ds)]=>gZ i m ds P
 | [.dat m (.tuple ds)]=>P (.dat m (.tuple ds))
 | _=>False
def wM:DC:=λxs P=>match xs with
 | [.dat _ (.int i)]=>P (.dat .ow (.int i))
 | [.dat _ (.bool b)]=>P (.dat .ow (.int (if b=true then 1 else 0)))
 | _=>False
def oO:DC:=λxs P=>match xs with
 | [.dat _ (.int i),.dat _ (.int j)]=>P (.dat .ow (.int (if j > i then j else i)))
 | _=>False
def mZ:DC:=λxs P=>match xs with
 | [.dat _ (.int i),.dat _ (.int j)]=>P (.dat .ow (.int (if j<i then j else i)))
 | _=>False
def oV:DC:=λxs P=>match xs with
 | [.dat _ (.list ds)]=>∃ns:List Int,ds=ns.map Ai/\ns≠[]/\∀M∈ns,(∀x∈ns,M<=x)->P (.dat .ow (.int M))
 | _=>False
def zX:DC:=λxs P=>match xs with
 | [.dat _ (.list ds)]=>∃bs:List Bool,ds=bs.map PyData.bool/\P (.dat .ow (.bool (bs.all id)))
 | _=>False
def gW:Ac->String
 | .none => "NoneType"
 | .bool _ => "bool"
 | .int _ => "int"
 | .str _ => "str"
 | .list _ => "list"
 | .tuple _ => "tuple"
 | .dict _ => "dict"
def Mr(d:Ac)(n:String):Bool:=gW d == n || (gW d == "bool" && n == "int")
def q9:DC:=λxs P=>match xs with
 | [.dat _ d,.val (.ty n)]=>(n = "int" \/ n = "bool" \/ n = "str" \/ n = "list" \/ n = "tuple")/\P (.dat .ow (.bool (Mr d n)))
 | _=>False
def zJ:DC:=λxs P=>match xs with
 | [.dat _ d]=>(∃b,b<=400/\Nj b d/\(b+12) * Nv d<=Au)/\d.depth<=90/\P (.dat .ow (.str (aU d)))
 | _=>False
section
variable{K:PySem.W.Frag}
theorem Mt:My K (λxs H Q=>∃x n,xs=[x]/\EW K x H n/\Q (.int n) H) qA:=by
 intro H0 X n S T As us H Q P eu hA hd k
 unfold qA at hd
 split at hd
 ·rename_i ex
  obtain ⟨v,F,rfl,hA⟩:=Gm eu hA ex
  obtain ⟨a,xs,G,rfl,ha,ra,_,_⟩:=(hA.told mem_mid).list_inv
  exact ⟨_,_,rfl,.inl ⟨xs,Mc.of ha,ra.len.symm⟩,k _ _ [] H (hA.drop.pushI (.int _)) hd⟩
 ·rename_i ex
  obtain ⟨v,F,rfl,hA⟩:=Gm eu hA ex
  obtain ⟨a,xs,rfl,ha,ra,_⟩:=(hA.told mem_mid).tup_inv
  exact ⟨_,_,rfl,.inr ⟨xs,Up.of ha,ra.len.symm⟩,k _ _ [] H (hA.drop.pushI (.int _)) hd⟩
 ·rename_i ex
  obtain ⟨v,F,rfl,hA⟩:=Gm eu hA ex
  obtain ⟨rfl,_⟩:=(hA.told mem_mid).str_inv
  exact ⟨_,_,rfl,⟨mC hd.1,rfl⟩,k _ _ [] H (hA.drop.pushI (.int _)) hd.2⟩
 ·exact hd.elim
theorem pR:My K (O9 K) (oX i):=by
 intro H0 X n S T As us H Q P eu hA hd k
 unfold oX at hd
 split at hd
 ·rename_i ex
  obtain ⟨v,F,rfl,hA⟩:=Gm eu hA ex
  obtain ⟨a,xs,G,rfl,ha,ra,rfl,hz⟩:=(hA.told mem_mid).list_inv
  refine ⟨a,xs,rfl,.inl (Mc.of ha),λl hl=>?_⟩
  obtain ⟨z,F',h1,h2⟩:=hA.newL ra (Cv _ _) hz hl hd
  exact k _ _ _ _ h1 h2
 ·rename_i ex
  obtain ⟨v,F,rfl,hA⟩:=Gm eu hA ex
  obtain ⟨a,xs,rfl,ha,ra,hz⟩:=(hA.told mem_mid).tup_inv
  refine ⟨a,xs,rfl,.inr (Up.of ha),λl hl=>?_⟩
  obtain ⟨z,F',h1,h2⟩:=hA.newL ra (Cq _) hz hl hd
  exact k _ _ _ _ h1 h2
 ·exact hd.elim
theorem j3:My K (O3 K) (fS i):=by
 intro H0 X n S T As us H Q P eu hA hd k
 unfold fS at hd
 split at hd
 ·rename_i ex
  obtain ⟨v,F,rfl,hA⟩:=Gm eu hA ex
  obtain ⟨a,xs,G,rfl,ha,ra,rfl,hz⟩:=(hA.told mem_mid).list_inv
  refine ⟨a,xs,rfl,.inl ⟨Mc.of ha,λl hl=>?_⟩⟩
  obtain ⟨z,F',h1,h2⟩:=hA.newT ra (Cv _ _) hz hl hd
  exact k _ _ _ _ h1 h2
 ·rename_i ex
  obtain ⟨v,F,rfl,hA⟩:=Gm eu hA ex
  obtain ⟨a,xs,rfl,ha,ra,hz⟩:=(hA.told mem_mid).tup_inv
  exact ⟨a,xs,rfl,.inr ⟨Up.of ha,k _ _ F H hA hd⟩⟩
 ·exact hd.elim
theorem i7:My K (λxs H Q=>(∃i,xs=[V.int i]/\Q (.int i) H)\/∃k,xs=[V.bl k]/\Q (.int (if k then 1 else 0)) H) wM:=by
 intro H0 X n S T As us H Q P eu hA hd k
 unfold wM at hd
 split at hd
 ·rename_i ex
  obtain ⟨v,F,rfl,hA⟩:=Gm eu hA ex
  obtain ⟨rfl,_⟩:=(hA.told mem_mid).int_inv
  exact .inl ⟨_,rfl,k _ _ [] H (hA.drop.pushI (.int _)) hd⟩
 ·rename_i ex
  obtain ⟨v,F,rfl,hA⟩:=Gm eu hA ex
  obtain ⟨rfl,_⟩:=(hA.told mem_mid).bl_inv
  exact .inr ⟨_,rfl,k _ _ [] H (hA.drop.pushI (.int _)) hd⟩
 ·exact hd.elim
theorem Zm:My K (λxs H Q=>∃i j,xs=[V.int i,V.int j]/\Q (.int (if j > i then j else i)) H) oO:=by
 intro H0 X n S T As us H Q P eu hA hd k
 unfold oO at hd
 split at hd
 ·rename_i ex
  obtain ⟨v,F,w,G,rfl,hA⟩:=Vf eu hA ex
  obtain ⟨rfl,_⟩:=(hA.told mem_mid).int_inv
  obtain ⟨rfl,_⟩:=(hA.told Em).int_inv
  exact ⟨_,_,rfl,k _ _ [] H (hA.drop2.pushI (.int _)) hd⟩
 ·exact hd.elim
theorem C6:My K (λxs H Q=>∃i j,xs=[V.int i,V.int j]/\Q (.int (if j<i then j else i)) H) mZ:=by
 intro H0 X n S T As us H Q P eu hA hd k
 unfold mZ at hd
 split at hd
 ·rename_i ex
  obtain ⟨v,F,w,G,rfl,hA⟩:=Vf eu hA ex
  obtain ⟨rfl,_⟩:=(hA.told mem_mid).int_inv
  obtain ⟨rfl,_⟩:=(hA.told Em).int_inv
  exact ⟨_,_,rfl,k _ _ [] H (hA.drop2.pushI (.int _)) hd⟩
 ·exact hd.elim
theorem rZ:My K (P8 K) oV:=by
 intro H0 X n S T As us H Q P eu hA hd k
 unfold oV at hd
 split at hd
 ·rename_i ex
  obtain ⟨v,F,rfl,hA⟩:=Gm eu hA ex
  obtain ⟨ns,rfl,h0,h1⟩:=hd
  obtain ⟨a,xs,G,rfl,ha,ra,rfl,hz⟩:=(hA.told mem_mid).list_inv
  obtain ⟨rfl,_⟩:=ra.ints_inv
  exact ⟨a,ns,rfl,Mc.of ha,h0,λM hM hm=>k _ _ [] H (hA.drop.pushI (.int _)) (h1 M hM hm)⟩
 ·exact hd.elim
theorem oQ:My K (λxs H Q=>∃(p:Addr) (bs:List Bool),xs=[.ref p]/\Mc K H p (bs.map V.bl)/\Q (.bl (bs.all id)) H) zX:=by
 intro H0 X n S T As us H Q P eu hA hd k
 unfold zX at hd
 split at hd
 ·rename_i ex
  obtain ⟨v,F,rfl,hA⟩:=Gm eu hA ex
  obtain ⟨bs,rfl,h1⟩:=hd
  obtain ⟨a,xs,G,rfl,ha,ra,rfl,hz⟩:=(hA.told mem_mid).list_inv
  obtain ⟨rfl,_⟩:=ra.bools_inv
  exact ⟨a,bs,rfl,Mc.of ha,k _ _ [] H (hA.drop.pushI (.bl _)) h1⟩
 ·exact hd.elim
theorem K6(h1:(Hu T == Hu n)=false)(h2:PySem.W.kitMeta n=true)(h3:(fastBuiltinMro T).map (λx=>x.contains (Hu n))=some b):PySem.W.kitOne K (.type T) (.type n)=some b:=X6 h1 h2 h3
theorem A0(hn:n = "int" \/ n = "bool" \/ n = "str" \/ n = "list" \/ n = "tuple"):PySem.W.kitOne K (.type (gW d)) (.type n)=some (Mr d n):=by
 have main:∀T:String,(T = "NoneType" \/ T = "bool" \/ T = "int" \/ T = "str" \/ T = "list" \/ T = "tuple" \/ T = "dict")->PySem.W.kitOne K (.type T) (.type n)=some (T == n || (T == "bool" && n == "int")):=by
  intro T hT
  rcases hT with rfl | rfl | rfl | rfl | rfl | rfl | rfl <;> rcases hn with rfl | rfl | rfl | rfl | rfl <;> first | exact T8 | exact K6 (by decide +kernel) (by decide +kernel) (by decide +kernel)
 unfold Mr
 refine main _ ?_
 cases d <;> simp [gW]
theorem Uk:My K (HA K) q9:=by
 intro H0 X n S T As us H Q P eu hA hd k
 unfold q9 at hd
 split at hd
 ·rename_i ex
  obtain ⟨v,F,w,G,rfl,hA⟩:=Vf eu hA ex
  have hw:w=.ty _:=Bn (hA.ok _ Em).1
  subst hw
  have r:=hA.told mem_mid
  refine ⟨v,_,.type (gW _),_,rfl,?_,A0 hd.1,k _ _ [] H (hA.drop2.pushI (.bl _)) hd.2⟩
  ·cases r with
   | non=>exact .non
   | bl b=>exact .bl b
   | int i=>exact .int i
   | str x=>exact .str x
   | lst h l hs=>exact .lst h
   | tup h l hs=>exact .tup h
   | dic h e hs=>exact .dT h
   | dik h e hs=>exact .dK h
   | dnm h e hs=>exact .dT h
 ·exact hd.elim
theorem nZ:My K (CZ K) zJ:=by
 intro H0 X n S T As us H Q P eu hA hd k
 unfold zJ at hd
 split at hd
 ·rename_i ex
  obtain ⟨v,F,rfl,hA⟩:=Gm eu hA ex
  exact ⟨_,_,rfl,⟨(hA.told mem_mid).rd hd.2.1,hd.1,hd.2.1⟩,k _ _ [] H (hA.drop.pushI (.str _)) hd.2.2⟩
 ·exact hd.elim
end
def dV(v:V):DE:=λδ P=>P (.val v) δ
section
variable{X:Cx}{e:Expr}
theorem R8(h:PE X e (tC v)):Er X e (dV v):=by
 refine PE.imp h λσ H Q h=>?_
 obtain ⟨H0,Y,S,T,δ,P,rfl,hS,hA,hd,k⟩:=h
 exact k _ δ v [] S H rfl hS ((hA.push (e:=⟨some v,.val v,[]⟩) ⟨rfl,rfl⟩ (λf _=>⟨λ_ a ha=>(nomatch ha),λ_ a _=>Av⟩) (λa ha=>(nomatch ha))).tomid) hd
theorem bI{pos:Pos}(hg:Gl X x)(hm:X.mg x=none)(hv:Js x=some (.type n))(hn:x ≠ "__name__" := by decide)(hd:(x == ("__debug__" : Str))=false:=by decide):Er X (.Name x pos) (dV (.ty n)):=R8 (I0 hg hm hv rfl hn hd)
end
end DL
namespace Nd
open PySem PySem.Spec PyProof.Rows L2
theorem tQ(I l1 l2:Nat)(h1:l1<I)(h2:l2<I):Qz (I+4) (I+2) (I+3) I (I+1) l1 l2:=by
 constructor <;> (intro e; have e':(_:Nat)=_:=e; omega)
end Nd
namespace Nd
open PySem PySem.Spec PyProof.Rows L2
open AutoSeq1 (wpAny_loadPart')
end Nd
namespace DL
open PySem L2 Nd
def dB(de:DE):DT:=λδ P=>de δ λx δ'=>match x with
 | .dat _ (.bool b)=>P b δ'
 | _=>False
def O6(dt:DT):DT:=λδ P=>dt δ λb δ'=>P (!b) δ'
def O4(dt du:DT):DT:=λδ P=>dt δ λb δ'=>match b with
 | true=>du δ' P
 | false=>P false δ'
def BK(dt du:DT):DT:=λδ P=>dt δ λb δ'=>match b with
 | true=>P true δ'
 | false=>du δ' P
def AW(de:DE):DE:=λδ P=>de δ λx δ'=>match x with
 | .dat _ (.bool b)=>P (.dat .ow (.bool (!b))) δ'
 | _=>False
def EV(da db:DE):DE:=λδ P=>da δ λx δ'=>match x with
 | .dat _ (.bool true)=>db δ' P
 | .dat _ (.bool false)=>P (.dat .ow (.bool false)) δ'
 | _=>False
def CY(de:DE):DE:=λδ P=>de δ λx δ'=>match x with
 | .dat _ (.int i)=>P (.dat .ow (.int (-i))) δ'
 | _=>False
section
variable{K:PySem.W.Frag}{de:DE}
theorem BG:∀σ H Q,LT K (dB de) σ H Q->LE K de σ H λx H'=>∃k,x=.bl k/\Q k H':=by
 intro σ H Q h
 obtain ⟨H0,Y,S,T,δ,P,rfl,hS,hA,hd,k⟩:=h
 refine ⟨H0,Y,S,T,δ,_,rfl,hS,hA,hd,λx δ1 v F S1 H1 e1 e2 hA1 p1=>?_⟩
 split at p1
 ·obtain ⟨rfl,_⟩:=(hA1.told mem_mid).bl_inv
  exact ⟨_,rfl,k _ δ1 S1 H1 e1 e2 hA1.drop p1⟩
 ·exact p1.elim
end
section
variable{X:Cx}{a b c e:Expr}{da db de:DE}{dt du:DT}{pos:Pos}{Gk:List Expr}
theorem Pk(h:Er X e de)(he:∀whole,isTrue e X.env whole=(do let v <- whole; standAt e.pos; holding [v] (truthy v)):=by intro _; rfl):mJ X e (dB de):=PT.imp (wK h he) BG
theorem aH(ho:Xp X (Kc op) r)(o:mK X.K r rd)(ha:Er X a da)(hb:Er X b db)(hm:Gf op b=false):mJ X (.Compare a [op] [b] pos) (dB (Xq rd da db)):=by
 refine PT.imp (qE ho ha hb hm) λσ H Q h=>?_
 exact eU o _ _ _ (BG σ H Q h)
theorem DM(ha:Er X a da)(hb:Er X b db):mJ X (.Compare a [.Lt] [b] pos) (dB (Xq rdLt da db)):=aH DJ (eZ λ_ _ _=>.bl _) ha hb (Ur _)
theorem EF(ha:Er X a da)(hb:Er X b db):mJ X (.Compare a [.GtE] [b] pos) (dB (Xq rdGe da db)):=aH wU (eZ λ_ _ _=>.bl _) ha hb (Ur _)
theorem rO(hu:X.A.units+64<cLine)(ha:Er X a da)(hb:Er X b db):mJ X (.Compare a [.Eq] [b] pos) (dB (Xq (iQ false) da db)):=aH (yC hu) P5 ha hb (Ur _)
theorem Yh(hu:X.A.units+64<cLine)(ha:Er X a da)(hb:Er X b db):mJ X (.Compare a [.NotEq] [b] pos) (dB (Xq (iQ true) da db)):=aH (V6 hu) BW ha hb (Ur _)
theorem zQ(hu:X.A.units+64<cLine)(ha:Er X a da)(hb:Er X b db)(hm:Gf .NotIn b=false:=by with_unfolding_all rfl):mJ X (.Compare a [.NotIn] [b] pos) (dB (Xq (tR true) da db)):=aH (tO hu) Q2 ha hb hm
theorem Xl(h:mJ X a dt):mJ X (.UnaryOp .Not a pos) (O6 dt):=by
 refine PT.imp (Z1 h) λσ H Q h=>?_
 obtain ⟨H0,Y,S,T,δ,P,rfl,hS,hA,hd,k⟩:=h
 exact ⟨H0,Y,S,T,δ,_,rfl,hS,hA,hd,λb δ' S' H' e1 e2 hA' p=>k _ δ' S' H' e1 e2 hA' p⟩
theorem pY(h:mJ X a dt):Z6 X (.BoolOp .And [a] pos) dt:=x8 h
theorem gJ(h:mJ X a dt):Z6 X (.BoolOp .Or [a] pos) dt:=AB h
theorem vI(h:mJ X a dt)(hb:Z6 X (.BoolOp .And (b::Gk) pos) du):Z6 X (.BoolOp .And (a::b::Gk) pos) (O4 dt du):=by
 refine PW.imp (Y0 h hb) λσ H Q h=>?_
 obtain ⟨H0,Y,S,T,δ,P,rfl,hS,hA,hd,k⟩:=h
 refine ⟨H0,Y,S,T,δ,_,rfl,hS,hA,hd,λb δ' S' H' e1 e2 hA' p=>?_⟩
 cases b with
 | true=>exact pH ⟨H0,Y,S',T,δ',P,e1,e2,hA',p,k⟩
 | false=>exact uK (k _ δ' S' H' e1 e2 hA' p)
theorem bJ(h:mJ X a dt)(hb:Z6 X (.BoolOp .Or (b::Gk) pos) du):Z6 X (.BoolOp .Or (a::b::Gk) pos) (BK dt du):=by
 refine PW.imp (AS h hb) λσ H Q h=>?_
 obtain ⟨H0,Y,S,T,δ,P,rfl,hS,hA,hd,k⟩:=h
 refine ⟨H0,Y,S,T,δ,_,rfl,hS,hA,hd,λb δ' S' H' e1 e2 hA' p=>?_⟩
 cases b with
 | true=>exact pH (k _ δ' S' H' e1 e2 hA' p)
 | false=>exact uK ⟨H0,Y,S',T,δ',P,e1,e2,hA',p,k⟩
theorem uF(h:Z6 X a dt):mJ X a dt:=PW.pt h
theorem u9(h:Er X a da):Er X (.BoolOp op [a] pos) da:=Z7 h
theorem zE(h:Er X a da)(hb:Er X (.BoolOp .And (b::Gk) pos) db):Er X (.BoolOp .And (a::b::Gk) pos) (EV da db):=by
 refine PE.imp (T3 h hb) λσ H Q h=>?_
 obtain ⟨H0,Y,S,T,δ,P,rfl,hS,hA,hd,k⟩:=h
 refine ⟨H0,Y,S,T,δ,_,rfl,hS,hA,hd,λx δ1 v F S1 H1 e1 e2 hA1 p1=>?_⟩
 split at p1
 ·obtain ⟨rfl,_⟩:=(hA1.told mem_mid).bl_inv
  exact ⟨_,rfl,pH ⟨H0,Y,S1,T,δ1,P,e1,e2,hA1.drop,p1,k⟩⟩
 ·obtain ⟨rfl,_⟩:=(hA1.told mem_mid).bl_inv
  exact ⟨_,rfl,uK (k _ δ1 _ [] S1 H1 e1 e2 (hA1.drop.pushI (.bl _)) p1)⟩
 ·exact p1.elim
theorem S6(h:Er X a da):Er X (.UnaryOp .Not a pos) (AW da):=by
 refine PE.imp (AG h) λσ H Q h=>?_
 obtain ⟨H0,Y,S,T,δ,P,rfl,hS,hA,hd,k⟩:=h
 refine ⟨H0,Y,S,T,δ,_,rfl,hS,hA,hd,λx δ1 v F S1 H1 e1 e2 hA1 p1=>?_⟩
 split at p1
 ·obtain ⟨rfl,_⟩:=(hA1.told mem_mid).bl_inv
  exact ⟨_,rfl,k _ δ1 _ [] S1 H1 e1 e2 (hA1.drop.pushI (.bl _)) p1⟩
 ·exact p1.elim
theorem T6(h:Er X a da):Er X (.UnaryOp .USub a pos) (CY da):=by
 refine PE.imp (N4 xP h) λσ H Q h=>?_
 obtain ⟨H0,Y,S,T,δ,P,rfl,hS,hA,hd,k⟩:=h
 refine ⟨H0,Y,S,T,δ,_,rfl,hS,hA,hd,λx δ1 v F S1 H1 e1 e2 hA1 p1=>?_⟩
 split at p1
 ·obtain ⟨rfl,_⟩:=(hA1.told mem_mid).int_inv
  exact ⟨_,rfl,k _ δ1 _ [] S1 H1 e1 e2 (hA1.drop.pushI (.int _)) p1⟩
 ·exact p1.elim
end
theorem PS.impD(h:PS X st t)(k:∀D σ H,t' D σ H->t D σ H):PS X st t':=λpins s σ H D I q=>h pins s σ H D I (k D σ H q)
theorem pV.impD(h:pV X st t)(k:∀D σ H,t' D σ H->t D σ H):pV X st t':=λpins s σ H D I q=>h pins s σ H D I (k D σ H q)
def Q7:DB:=λD δ=>D.nx δ
def DY(t u:DB):DB:=λD δ=>t { D with nx:=λδ'=>u D δ' } δ
def DR(de:DE):DB:=λD δ=>de δ D.rt
def GY(dt:DT)(t u:DB):DB:=λD δ=>dt δ λb δ'=>match b with
 | true=>t D δ'
 | false=>u D δ'
def uI(de:DE)(dg:DG):DB:=λD δ=>de δ λx δ'=>dg x δ' D.nx
section
variable{X:Cx}{st:Stmt}{e tg c:Expr}{t u:DB}{Gk:List Stmt}{de:DE}{dg:DG}{dt:DT}{pos:Pos}
theorem Rm:Wx X [] Q7:=by
 refine pV.impD hV λD σ H h=>?_
 obtain ⟨H0,Y,S,T,δ,P,rfl,hS,hT,hA,hd,k1,k2,k3,k4⟩:=h
 exact k1 δ S H hS hA hd
theorem Cy(h1:rJ X st t)(h2:Wx X Gk u):Wx X (st::Gk) (DY t u):=by
 refine pV.impD (Hw h1 h2) λD σ H h=>?_
 obtain ⟨H0,Y,S,T,δ,P,rfl,hS,hT,hA,hd,k1,k2,k3,k4⟩:=h
 exact ⟨H0,Y,S,T,δ,_,rfl,hS,hT,hA,hd,λδ' S' H' e2 hA' p=>⟨H0,Y,S',T,δ',P,rfl,e2,hT,hA',p,k1,k2,k3,k4⟩,k2,k3,k4⟩
theorem En(h1:rJ X st t):Wx X [st] t:=Nh h1
theorem Gn(he:Er X e de):rJ X (.Return (some e) pos) (DR de):=by
 refine PS.impD (Uj he) λD σ H h=>?_
 obtain ⟨H0,Y,S,T,δ,P,rfl,hS,hT,hA,hd,k1,k2,k3,k4⟩:=h
 exact ⟨H0,Y,S,T,δ,_,rfl,hS,hA,hd,λx δ' v F S' H' e1 e2 hA' p=>k2 x δ' v F S' H' e2 hA' p⟩
theorem Yd(hc:mJ X c dt)(ha:Wx X a t)(hb:Wx X b u):rJ X (.If c a b pos) (GY dt t u):=by
 refine PS.impD (vQ hc ha hb) λD σ H h=>?_
 obtain ⟨H0,Y,S,T,δ,P,rfl,hS,hT,hA,hd,k1,k2,k3,k4⟩:=h
 refine ⟨H0,Y,S,T,δ,_,rfl,hS,hA,hd,λb δ' S' H' e1 e2 hA' p=>?_⟩
 cases b with
 | true=>exact pH ⟨H0,Y,S',T,δ',P,e1,e2,hT,hA',p,k1,k2,k3,k4⟩
 | false=>exact uK ⟨H0,Y,S',T,δ',P,e1,e2,hT,hA',p,k1,k2,k3,k4⟩
theorem fU(h1:∀σ H Q,LE K de σ H Q->te σ H Q)(h2:∀v σ H Q,LG K dg v σ H Q->g v σ H Q):∀D σ H,LS K (uI de dg) D σ H->F6 te g D σ H:=by
 intro D σ H h
 obtain ⟨H0,Y,S,T,δ,P,rfl,hS,hT,hA,hd,k1,k2,k3,k4⟩:=h
 refine h1 _ _ _ ⟨H0,Y,S,T,δ,_,rfl,hS,hA,hd,λx δ' v F S' H' e1 e2 hA' p=>?_⟩
 exact h2 _ _ _ _ ⟨H0,Y,S',T,δ',x,F,P.nx,e1,e2,hA',p,λδ2 S2 H2 e3 hA2 q=>k1 δ2 S2 H2 e3 hA2 q⟩
end
def Ql(i:Nat):DG:=λx δ P=>match x with
 | .dat .pk _=>False
 | .dat _ d=>P ⟨δ.sl.set i (.dat .sh d),δ.n⟩
 | .val v=>P ⟨δ.sl.set i (.val v),δ.n⟩
 | .drw=>P ⟨δ.sl.set i .drw,δ.n⟩
 | .dT kvs=>P ⟨δ.sl.set i (.dT kvs),δ.n⟩
 | _=>False
def eY(i:Nat):DG:=λx δ P=>match x with
 | .dat .ow d=>P ⟨δ.sl.set i (.dat .ow d),δ.n⟩
 | .dat .tp d=>P ⟨δ.sl.set i (.dat .tp d),δ.n⟩
 | _=>False
theorem At.store(h:At K H0 X n (S++e::T) H):At K H0 X n (S.set i e++T) H:=by
 by_cases hi:i<S.length
 ·have hx:S[i]? = some S[i]:=by simp [hi]
  have p:(S++e::T).Perm (S[i]::(S.set i e++T)):=by
   refine Gb.trans ?_
   rw[<- Fd,<- Fd]
   exact (Vr hx).append_right T
  exact (h.perm p).sub (Cv _ _)
 ·rw[List.set_eq_of_length_le (by omega)]
  exact h.drop
theorem pB:vs (S.set i ⟨some v,x,F⟩)=(vs S).set i (some v):=by
 unfold vs
 rw[Et]
theorem nL(h:Sl S δ):Sl (S.set i ⟨some v,x,F⟩) ⟨δ.sl.set i x,n⟩:=by
 unfold Sl at h ⊢
 rw[Et,h]
theorem iK:∀v σ H Q,LG K (Ql i) v σ H Q->Yb i v σ H Q:=by
 intro v σ H Q h
 obtain ⟨H0,Y,S,T,δ,x,F,P,rfl,hS,hA,hd,k⟩:=h
 show Q ((vs S).set i (some v)) H
 have fin:∀y,At K H0 Y δ.n (S++⟨some v,y,F⟩::T) H->P ⟨δ.sl.set i y,δ.n⟩->Q ((vs S).set i (some v)) H:=λy hA' p=>by
  rw[<- pB (x:=y) (F:=F)]
  exact k _ _ H (nL hS) hA'.store p
 unfold Ql at hd
 split at hd
 ·exact hd.elim
 ·rename_i m d hm
  refine fin _ ?_ hd
  refine (hA.mid.wk ?_).tomid
  cases m <;> first | rfl | exact (hm rfl).elim
 ·exact fin _ hA hd
 ·exact fin _ hA hd
 ·exact fin _ hA hd
 ·exact hd.elim
theorem zW:∀v σ H Q,LG K (eY i) v σ H Q->Yb i v σ H Q:=by
 intro v σ H Q h
 obtain ⟨H0,Y,S,T,δ,x,F,P,rfl,hS,hA,hd,k⟩:=h
 show Q ((vs S).set i (some v)) H
 have fin:∀y,At K H0 Y δ.n (S++⟨some v,y,F⟩::T) H->P ⟨δ.sl.set i y,δ.n⟩->Q ((vs S).set i (some v)) H:=λy hA' p=>by
  rw[<- pB (x:=y) (F:=F)]
  exact k _ _ H (nL hS) hA'.store p
 unfold eY at hd
 split at hd
 ·exact fin _ hA hd
 ·exact fin _ hA hd
 ·exact hd.elim
section
variable{X:Cx}{pos:Pos}
theorem Mh(hN:X.N.Nodup)(hi:X.N[i]? = some x)(hx:Loc X.env.scope x)(hf:X.fn x=true\/X.env.scope.names.lookup x=some .local:=by first | exact .inl rfl | exact .inr rfl | assumption):BX X (.Name x pos) (Ql i):=PG.imp (Ow hN hi hx hf) iK
theorem Hb(hN:X.N.Nodup)(hi:X.N[i]? = some x)(hx:Loc X.env.scope x)(he:Er X e de)(hs:Kb e (some (.Name x pos')) pos.line X.env=pure false:=by rfl)(hf:X.fn x=true\/X.env.scope.names.lookup x=some .local:=by first | exact .inl rfl | exact .inr rfl | assumption):rJ X (.Assign [.Name x pos'] e pos) (uI de (Ql i)):=PS.impD (Ph hN hi hx he hs hf) (fU (λ_ _ _ h=>h) iK)
theorem Qt(hN:X.N.Nodup)(hi:X.N[i]? = some x)(hx:Loc X.env.scope x)(he:Er X e de)(hs:Kb e (some (.Name x pos')) pos.line X.env=pure false:=by rfl)(hf:X.fn x=true\/X.env.scope.names.lookup x=some .local:=by first | exact .inl rfl | exact .inr rfl | assumption):rJ X (.Assign [.Name x pos'] e pos) (uI de (eY i)):=PS.impD (Ph hN hi hx he hs hf) (fU (λ_ _ _ h=>h) zW)
end
def vP:vN:=λxs δ P=>match xs with
 | []=>P δ
 | _=>False
def rY(g:DG)(gs:vN):vN:=λxs δ P=>match xs with
 | x::r=>g x δ λδ'=>gs r δ' P
 | []=>False
def yM(n:Nat)(gs:vN):DG:=λx δ P=>match x with
 | .dat m (.tuple ds)=>ds.length=n/\gs (ds.map λd=>.dat (Pm m) d) δ P
 | _=>False
theorem At.unpack:∀{us:List V} {ds:List Ac} {F:List Addr} {E:List Ent},RdFs K H us ds F->(m=.ow->F.Nodup)->(∀f∈E,Wc ⟨none,.dat (Pm m) .none,F⟩ f)->(∀a∈cells ⟨none,.dat (Pm m) .none,F⟩,H0 a=none)->At K H0 X n E H->∃As:List Ent,As.map Ent.v=us.map some/\As.map Ent.x=ds.map (λd=>.dat (Pm m) d)/\(∀e∈As,∀a∈e.F,a∈F)/\At K H0 X n (As++E) H
 | _,_,_,_,.nil,_,_,_,h=>⟨[],rfl,rfl,λ_ z=>(nomatch z),h⟩
 | _,_,_,E,.cons (x:=x) (d:=d) (F:=F1) (G:=G1) a t,hn,hs,hnew,h=>by
  have cs:∀{G:List Addr} {u:Option V} {d':Ac},(∀b∈G,b∈F1++G1)->∀b∈cells ⟨u,.dat (Pm m) d',G⟩,b∈cells ⟨none,.dat (Pm m) .none,F1++G1⟩:=λ{G u d'} hG b hb=>by
   cases m with
   | ow=>exact hG b hb
   | _=>exact nomatch hb
  have sub:∀{G:List Addr} {u:Option V} {d':Ac} {f:Ent},(∀b∈G,b∈F1++G1)->Wc ⟨none,.dat (Pm m) .none,F1++G1⟩ f->Wc ⟨u,.dat (Pm m) d',G⟩ f:=λ{G u d' f} hG q=>by
   refine ⟨λhp b hb=>q.1 ?_ b (cs hG b hb),λhp b hb z=>q.2 ?_ b hb (hG b z)⟩
   ·rcases hp with hp | hp
    ·exact .inl hp
    ·cases hp
   ·rcases hp with hp | hp
    ·refine .inl ?_
     cases m <;> exact hp
    ·exact .inr hp
  obtain ⟨As,h1,h2,h3,h4⟩:=At.unpack (m:=m) t (λz=>(Gh.mp (hn z)).2.1) (λf hf=>sub (λb hb=>Al _ hb) (hs f hf)) (λb hb=>hnew b (cs (λb hb=>Al _ hb) b hb)) h
  refine ⟨⟨some x,.dat (Pm m) d,F1⟩::As,by rw[Aw,Aw,h1],by rw[Aw,Aw,h2],λe he b hb=>?_,?_⟩
  ·rcases Ag.mp he with rfl | he
   ·exact An _ hb
   ·exact Al _ (h3 e he b hb)
  ·refine h4.push ⟨x,rfl,a,λz=>?_,λz=>?_⟩ (λf hf=>?_) λb hb=>.inl (hnew b (cs (λb hb=>An _ hb) b hb))
   ·cases m with
    | ow=>exact (Gh.mp (hn rfl)).1
    | _=>cases z
   ·cases m <;> cases z
   ·rcases Ay.mp hf with hf | hf
    ·have hx:f.x∈As.map Ent.x:=Bt.mpr ⟨f,hf,rfl⟩
     rw[h2] at hx
     obtain ⟨d',_,ed⟩:=Bt.mp hx
     refine ⟨λhp b hb z=>?_,λhp b hb z=>?_⟩
     ·cases m with
      | ow=>exact (Gh.mp (hn rfl)).2.2 b hb b (h3 f hf b z) rfl
      | _=>exact nomatch hb
     ·cases m with
      | ow=>exact (Gh.mp (hn rfl)).2.2 b z b (h3 f hf b (Eo _ _ hb)) rfl
      | _ =>
       unfold cells at hb
       rw[<- ed] at hb
       exact nomatch hb
    ·exact sub (λb hb=>An _ hb) (hs f hf)
section
variable{X:Cx}{pos:Pos}
theorem A8:L6 X [] vP:=by
 refine W7.imp sF λus σ H Q h=>?_
 obtain ⟨H0,Y,S,T,As,δ,P,rfl,hS,eu,hA,hd,k⟩:=h
 match As,hA,hd,eu with
 | [],hA,hd,eu =>
  cases us with
  | nil=>exact ⟨rfl,k δ S H hS hA hd⟩
  | cons _ _=>cases eu
 | _::_,hA,hd,eu=>exact hd.elim
theorem lG(h1:BX X e g)(h2:L6 X es gs)(hs:(Kz (e::es) X.env).map (·.2)=assign e X.env::(Kz es X.env).map (·.2):=by rfl):L6 X (e::es) (rY g gs):=by
 refine W7.imp (bQ h1 h2 hs) λus σ H Q h=>?_
 obtain ⟨H0,Y,S,T,As,δ,P,rfl,hS,eu,hA,hd,k⟩:=h
 match As,hA,hd,eu with
 | [],hA,hd,eu=>exact hd.elim
 | ⟨v,x,F⟩::As,hA,hd,eu =>
  cases us with
  | nil=>cases eu
  | cons u us =>
   rw[Aw,Aw] at eu
   obtain ⟨e1,e2⟩:=Dr eu
   have e1':v=some u:=e1
   subst e1'
   refine ⟨u,us,rfl,H0,Y,S,As++T,δ,x,F,_,rfl,hS,hA,hd,λδ' S' H' e3 hA' p=>?_⟩
   exact ⟨H0,Y,S',T,As,δ',P,rfl,e3,e2,hA',p,k⟩
theorem AC{kk:Nat}(hc:X.calm=true)(h:L6 X es gs)(hn:(Kz es X.env).length=n:=by rfl)(hst:(Kz es X.env).findIdx? (·.1)=none:=by rfl):BX X (.Tuple es kk pos) (yM n gs):=by
 refine PG.imp (zH hc h hn hst) λv σ H Q h=>?_
 obtain ⟨H0,Y,S,T,δ,x,F,P,rfl,hS,hA,hd,k⟩:=h
 unfold yM at hd
 split at hd
 ·rename_i m ds
  obtain ⟨a,xs,rfl,ha,ra,hz⟩:=(hA.told mem_mid).tup_inv
  have hm:=hA.mid
  have hp:=Bb.mp hm.sep
  obtain ⟨w,_,_,hnd,_⟩:=hm.ok _ Ab
  have cs:∀b∈cells ⟨none,.dat (Pm m) .none,F⟩,b∈cells ⟨some (.ref a),.dat m (.tuple ds),F⟩:=λb hb=>by
   cases m with
   | ow=>exact hb
   | _=>exact nomatch hb
  obtain ⟨As,h1,h2,h3,h4⟩:=At.unpack (m:=m) (E:=S++T) ra hnd (λf hf=>by
   refine ⟨λhq b hb=>(hp.1 f hf).1 ?_ b (cs b hb),λhq b hb=>(hp.1 f hf).2 ?_ b hb⟩
   ·rcases hq with hq | hq
    ·exact .inl hq
    ·cases hq
   ·rcases hq with hq | hq
    ·refine .inl ?_
     cases m <;> first | rfl | exact hq
    ·exact .inr hq) (λb hb=>by
   rcases hm.new _ Ab b (cs b hb) with z | z
   ·exact z
   ·cases z.2) hA.drop
  refine ⟨a,xs,rfl,Up.of ha,by rw[ra.len]; exact hd.1,H0,Y,S,T,As,δ,P,rfl,hS,h1,h4.perm ?_,by rw[h2]; exact hd.2,k⟩
  rw[<- Bw,<- Bw]
  exact Fv.append_right T
 ·exact hd.elim
end
theorem oM(h:At K H0 X n E H):∀{e f:Ent},e∈E->f∈E->e=f\/Wc e f:=by
 have main:∀{E:List Ent},E.Pairwise Wc->∀{e f:Ent},e∈E->f∈E->e=f\/Wc e f:=by
  intro E
  induction E with
  | nil=>intro _ e f he; cases he
  | cons g E ih =>
   intro hp e f he hf
   have hc:=Bb.mp hp
   rcases Ag.mp he with he | he
   ·subst he
    rcases Ag.mp hf with hf | hf
    ·exact .inl hf.symm
    ·exact .inr (hc.1 f hf)
   ·rcases Ag.mp hf with hf | hf
    ·rw[hf]
     exact .inr (hc.1 e he).symm
    ·exact ih hc.2 he hf
 intro e f he hf
 exact main h.sep he hf
abbrev DI:=DS->(Md->List Ac->DS->Prop)->Prop
structure IterOk(K:PySem.W.Frag)(J:It)(hid:List Ent)(m:Md)(ds:List Ac):Prop where
 md:m=.sh\/m=.pk
 hd:∀e∈hid,cells e=[]
 np:m=.sh->∀e∈hid,Lh e.x=false
 go:∀H n i,(∀e∈hid,Gu K H n e)->i<ds.length->J.go i H
 yld:∀H n i x H',(∀e∈hid,Gu K H n e)->i<ds.length->J.yld i H x H'->Mv H H'/\∃d F,ds[i]? = some d/\RdF K H' x d F/\∀a∈F,∃e∈hid,a∈e.F
 stop:∀H n,(∀e∈hid,Gu K H n e)->J.stop ds.length H
def LI(K:PySem.W.Frag)(di:DI):TI:=λσ H R=>∃(H0:Hp) (X:Addr->Prop) (S T:List Ent) (δ:DS) (P:Md->List Ac->DS->Prop),vs S=σ/\Sl S δ/\At K H0 X δ.n (S++T) H/\di δ P /\
 ∀m ds δ' J hid S' H',vs S'=σ->Sl S' δ'->At K H0 X δ'.n (S'++(hid++T)) H'->IterOk K J hid m ds->ds.length<=Au->P m ds δ'->R J H'
abbrev wR(X:Cx)(tg iter:Expr)(di:DI):Prop:=PI X tg iter (LI X.K di)
theorem PI.imp(h:PI X tg e t)(k:∀σ H Q,t' σ H Q->t σ H Q):PI X tg e t':=λpins s σ H Q I q=>h pins s σ H Q I (k σ H Q q)
def Le:Md->Md
 | .pk=>.pk
 | _=>.sh
theorem iL(m:Md):wk m (Le m)=true:=by cases m <;> rfl
theorem At.item(h:At K H0 X n (S++(hid++T)) H)(s:Mv H H')(r:RdF K H' v d F)(hF:∀a∈F,∃e∈hid,a∈e.F)(md:m=.sh\/m=.pk)(hh:∀e∈hid,cells e=[])(np:m=.sh->∀e∈hid,Lh e.x=false):At K H0 X n (S++⟨some v,.dat m d,F⟩::(hid++T)) H':=by
 have h1:=h.grow (n':=n) s (Ak _)
 have c0:∀a,a∉cells ⟨some v,.dat m d,F⟩:=λa ha=>by
  rcases md with rfl | rfl <;> exact nomatch ha
 refine (h1.push (e:=⟨some v,.dat m d,F⟩) ⟨v,rfl,r,λz=>?_,λz=>?_⟩ (λf hf=>⟨λ_ a ha=>absurd ha (c0 a),λhq a ha z=>?_⟩) λa ha=>absurd ha (c0 a)).tomid
 ·rcases md with rfl | rfl <;> cases z
 ·rcases md with rfl | rfl <;> cases z
 ·obtain ⟨e,he,ze⟩:=hF a z
  have he':e∈S++(hid++T):=Al _ (An _ he)
  rcases oM h he' hf with rfl | q
  ·rw[hh e he] at ha
   cases ha
  ·refine q.2 ?_ a ha ze
   rcases hq with hq | hq
   ·refine .inl (np ?_ e he)
    rcases md with rfl | rfl
    ·rfl
    ·cases hq
   ·exact .inr hq
def HD(de:DE):DI:=λδ P=>de δ λx δ'=>match x with
 | .dat m (.list ds)=>P (Le m) ds δ'
 | .dat m (.tuple ds)=>P (Le m) ds δ'
 | _=>False
def mE(da:DA):DI:=λδ P=>da δ λxs δ'=>match xs with
 | [.dat _ (.int j)]=>-1000000<=j/\j<=1000000/\P .sh ((Di j.toNat).map λi:Nat=>.int i) δ'
 | _=>False
def yG(da:DA):DI:=λδ P=>da δ λxs δ'=>match xs with
 | [.dat m (.list ds)]=>P (Le m) (ds.zipIdx.map λp=>.tuple [.int p.2,p.1]) δ'
 | _=>False
def FH(da:DA):DI:=λδ P=>da δ λxs δ'=>match xs with
 | [.dat m (.tuple ds)]=>P (Le m) (ds.zipIdx.map λp=>.tuple [.int p.2,p.1]) δ'
 | _=>False
section
variable{K:PySem.W.Frag}
theorem Kj{H:Hp}{hid:List Ent}(h:∀e∈hid,Gu K H n e)(he:⟨some v,.dat m d,F⟩∈hid):RdF K H v d F:=by
 obtain ⟨w,e1,h1,_⟩:=h _ he
 cases e1
 exact h1
theorem zM:cells ⟨v,.dat (Le m) d,F⟩=[]:=by cases m <;> rfl
theorem fR:∀e∈[(⟨v,.dat (Le m) d,F⟩ : Ent)],cells e=[]:=λe he=>by
 rw[Af.mp he]
 exact zM
theorem sC:Le m=.sh->∀e∈[(⟨v,.dat (Le m) d,F⟩ : Ent)],Lh e.x=false:=λz e he=>by
 rw[Af.mp he]
 show Lh (.dat (Le m) d)=false
 rw[z]
 rfl
theorem gU(m:Md):Le m=.sh\/Le m=.pk:=by cases m <;> simp [Le]
theorem sO:IterOk K (EX K a) [⟨some (.ref a),.dat (Le m) (.list ds),F⟩] (Le m) ds where
 md:=gU m
 hd:=fR
 np:=sC
 go:=λH n i h hi=>by
  obtain ⟨b,xs,G,e,hb,rb,_,_⟩:=(Kj h Ab).list_inv
  cases e
  have hl:=rb.len
  exact ⟨xs,xs[i],Mc.of hb,by simp [show i<xs.length by omega]⟩
 yld:=λH n i x H' h hi y=>by
  obtain ⟨b,xs,G,e,hb,rb,rfl,_⟩:=(Kj h Ab).list_inv
  cases e
  obtain ⟨rfl,y⟩:=y
  have hx:=y xs (Mc.of hb)
  obtain ⟨x',F',h1,h2,h3⟩:=rb.get (i:=i) (e:=ds[i]) (by simp [hi])
  rw[hx] at h1
  cases h1
  exact ⟨Mv.refl _,ds[i],F',by simp [hi],h2,λc hc=>⟨_,Ab,Ae _ (h3.subset hc)⟩⟩
 stop:=λH n h=>by
  obtain ⟨b,xs,G,e,hb,rb,_,_⟩:=(Kj h Ab).list_inv
  cases e
  exact ⟨xs,Mc.of hb,by rw[rb.len]; exact Ak _⟩
theorem zP:IterOk K (FU K a) [⟨some (.ref a),.dat (Le m) (.tuple ds),F⟩] (Le m) ds where
 md:=gU m
 hd:=fR
 np:=sC
 go:=λH n i h hi=>by
  obtain ⟨b,xs,e,hb,rb,_⟩:=(Kj h Ab).tup_inv
  cases e
  have hl:=rb.len
  exact ⟨xs,xs[i],Up.of hb,by simp [show i<xs.length by omega]⟩
 yld:=λH n i x H' h hi y=>by
  obtain ⟨b,xs,e,hb,rb,_⟩:=(Kj h Ab).tup_inv
  cases e
  obtain ⟨rfl,y⟩:=y
  have hx:=y xs (Up.of hb)
  obtain ⟨x',F',h1,h2,h3⟩:=rb.get (i:=i) (e:=ds[i]) (by simp [hi])
  rw[hx] at h1
  cases h1
  exact ⟨Mv.refl _,ds[i],F',by simp [hi],h2,λc hc=>⟨_,Ab,h3.subset hc⟩⟩
 stop:=λH n h=>by
  obtain ⟨b,xs,e,hb,rb,_⟩:=(Kj h Ab).tup_inv
  cases e
  exact ⟨xs,Up.of hb,by rw[rb.len]; exact Ak _⟩
theorem oZ:IterOk K (O7 lo n) [] .sh ((Di n).map λi:Nat=>.int (lo+i)) where
 md:=.inl rfl
 hd:=λ_ z=>nomatch z
 np:=λ_ _ z=>nomatch z
 go:=λH k i h hi=>by
  show i<n
  simpa using hi
 yld:=λH k i x H' h hi y=>by
  obtain ⟨rfl,rfl⟩:=y
  rw[Ad,Ju] at hi
  exact ⟨Mv.refl _,.int (lo+i),[],by simp [hi],.int _,λ_ z=>nomatch z⟩
 stop:=λH k h=>by simp [O7]
theorem tE:IterOk K (GB K a) [⟨some (.ref a),.dat (Le m) (.list ds),F⟩] (Le m) (ds.zipIdx.map λp=>.tuple [.int p.2,p.1]) where
 md:=gU m
 hd:=fR
 np:=sC
 go:=λH n i h hi=>by
  obtain ⟨b,xs,G,e,hb,rb,_,_⟩:=(Kj h Ab).list_inv
  cases e
  have hl:=rb.len
  rw[Ad,Ll] at hi
  exact ⟨xs,xs[i],Mc.of hb,by simp [show i<xs.length by omega]⟩
 yld:=λH n i x H' h hi y=>by
  obtain ⟨b,xs,G,e,hb,rb,rfl,_⟩:=(Kj h Ab).list_inv
  cases e
  rw[Ad,Ll] at hi
  obtain ⟨t,z,rfl,nt,rfl,y⟩:=y
  have hx:=y xs (Mc.of hb)
  obtain ⟨x',F',h1,h2,h3⟩:=rb.get (i:=i) (e:=ds[i]) (by simp [hi])
  rw[hx] at h1
  cases h1
  have s1:=Dl nt (.tup [.int i,z])
  refine ⟨s1,.tuple [.int i,ds[i]],F',by simp [hi],.tup Co (by simp [Jn]) ?_,λc hc=>⟨_,Ab,Ae _ (h3.subset hc)⟩⟩
  have:=RdFs.cons (F:=[]) (.int (i:Int)) (RdFs.cons (h2.kp (Kp.of s1)) RdFs.nil)
  rw[Ea] at this
  exact this
 stop:=λH n h=>by
  obtain ⟨b,xs,G,e,hb,rb,_,_⟩:=(Kj h Ab).list_inv
  cases e
  exact ⟨xs,Mc.of hb,by rw[Ad,Ll,rb.len]; exact Ak _⟩
end
section
variable{X:Cx}{tg e:Expr}{de:DE}{di:DI}
def dL(de:DE):DI:=λδ P=>de δ λx δ'=>match x with
 | .dat m (.list ds)=>P (Le m) ds δ'
 | _=>False
def HK(de:DE):DI:=λδ P=>de δ λx δ'=>match x with
 | .dat m (.tuple ds)=>P (Le m) ds δ'
 | _=>False
theorem fE(h:Er X e de):wR X tg e (dL de):=by
 refine PI.imp (gV h) λσ H R h=>?_
 obtain ⟨H0,Y,S,T,δ,P,rfl,hS,hA,hd,k⟩:=h
 refine ⟨H0,Y,S,T,δ,_,rfl,hS,hA,hd,λx δ1 v F S1 H1 e1 e2 hA1 p1=>?_⟩
 split at p1
 ·obtain ⟨a,xs,G,rfl,ha,ra,rfl,hz⟩:=(hA1.told mem_mid).list_inv
  exact ⟨a,rfl,⟨xs,Mc.of ha⟩,k _ _ δ1 _ [_] S1 H1 e1 e2 ((hA1.mid.wk (iL _)).tomid) sO hz p1⟩
 ·exact p1.elim
theorem GO(h:Er X e de):wR X tg e (HK de):=by
 refine PI.imp (W1 h) λσ H R h=>?_
 obtain ⟨H0,Y,S,T,δ,P,rfl,hS,hA,hd,k⟩:=h
 refine ⟨H0,Y,S,T,δ,_,rfl,hS,hA,hd,λx δ1 v F S1 H1 e1 e2 hA1 p1=>?_⟩
 split at p1
 ·obtain ⟨a,xs,rfl,ha,ra,hz⟩:=(hA1.told mem_mid).tup_inv
  exact ⟨a,rfl,⟨xs,Up.of ha⟩,k _ _ δ1 _ [_] S1 H1 e1 e2 ((hA1.mid.wk (iL _)).tomid) zP hz p1⟩
 ·exact p1.elim
variable{es:List Expr}{da:DA}{a b:Expr}{p pos tp:Pos}{elts:List Expr}{kt:Nat}
theorem Nr(hg:Gl X "range")(hm:X.mg "range" = none)(ha:jK X [a] da)(hs:Bp [a] X.env=[(false,eval a X.env)]:=by rfl):wR X tg (.Call (.Name "range" p) [a] [] pos) (mE da):=by
 refine PI.imp (Xg hg hm ha hs) λσ H R h=>?_
 obtain ⟨H0,Y,S,T,δ,P,rfl,hS,hA,hd,k⟩:=h
 refine ⟨H0,Y,S,T,δ,_,rfl,hS,hA,hd,λxs δ' As us S' H' e1 e2 ex eu hA' p=>?_⟩
 split at p
 ·obtain ⟨v,F,rfl,hA2⟩:=Gm eu hA' ex
  obtain ⟨rfl,_⟩:=(hA2.told mem_mid).int_inv
  obtain ⟨j0,j1,pp⟩:=p
  refine ⟨_,rfl,by omega,by omega,k _ _ δ' _ [] S' H' e1 e2 hA2.drop oZ (by rw[Ad,Ju]; exact mC (by omega)) ?_⟩
  simpa using pp
 ·exact p.elim
theorem iN(hg:Gl X "enumerate")(hm:X.mg "enumerate" = none)(ha:jK X [a] da)(hs:Bp [a] X.env=[(false,eval a X.env)]:=by rfl):wR X (.Tuple elts kt tp) (.Call (.Name "enumerate" p) [a] [] pos) (yG da):=by
 refine PI.imp (A4 hg hm ha hs) λσ H R h=>?_
 obtain ⟨H0,Y,S,T,δ,P,rfl,hS,hA,hd,k⟩:=h
 refine ⟨H0,Y,S,T,δ,_,rfl,hS,hA,hd,λxs δ' As us S' H' e1 e2 ex eu hA' p=>?_⟩
 split at p
 ·obtain ⟨v,F,rfl,hA2⟩:=Gm eu hA' ex
  obtain ⟨a,xs,G,rfl,ha,ra,rfl,hz⟩:=(hA2.told mem_mid).list_inv
  exact ⟨a,rfl,⟨xs,Mc.of ha⟩,k _ _ δ' _ [_] S' H' e1 e2 ((hA2.mid.wk (iL _)).tomid) tE (by rw[Ad,Ll]; exact hz) p⟩
 ·exact p.elim
end
def AR(di:DI)(dg:DG)(db:DB):DB:=λD δ=>di δ λm ds δ1=>m=.sh/\∃I:Nat->DS->Prop,I 0 δ1 /\
 (∀i d δ',ds[i]? = some d->I i δ'->dg (.dat .sh d) δ' λδ2=>db { D with nx:=I (i+1),ct:=I (i+1),bk:=D.nx } δ2)/\∀δ',I ds.length δ'->D.nx δ'
section
variable{X:Cx}{tg iter:Expr}{di:DI}{dg:DG}{db:DB}{body:List Stmt}{pos:Pos}
theorem At.dropH{X:Addr->Prop}(h:At K H0 X n (S++e::(hid++T)) H):At K H0 X n (S++e::T) H:=h.sub ((Cq S).append ((Cf hid T).cons₂ e))
theorem Rg(hp:PassesOwn (model X.prog X.w) X.A X.env X.xe)(hc:X.calm=true)(hi:wR X tg iter di)(hg:BX X tg dg)(hb:Wx X body db)(hs:∀x,Ee iter X.env x=pure x:=by intro _; rfl):rJ X (.For tg iter body [] pos) (AR di dg db):=by
 refine PS.impD (fT hp hc hi hg hb hs) λD σ H h=>?_
 obtain ⟨H0,Y,S,T,δ,P,rfl,hS,hT,hA,hd,k1,k2,k3,k4⟩:=h
 refine ⟨H0,Y,S,T,δ,_,rfl,hS,hA,hd,λm ds δ1 J hid S1 H1 e1 e2 hA1 it hz p1=>?_⟩
 obtain ⟨rfl,I,h0,hs,hf⟩:=p1
 rw[<- e1]
 have hT':∀e∈hid++T,Lh e.x=false:=λe he=>by
  rcases Ay.mp he with he | he
  ·exact it.np rfl e he
  ·exact hT e he
 refine ⟨λi q σ H=>q=ds.length - i/\i<=ds.length/\∃S δ,vs S=σ/\Sl S δ/\At X.K H0 Y δ.n (S++(hid++T)) H/\I i δ,⟨ds.length,by simp,Dg _,S1,δ1,rfl,e2,hA1,h0⟩,?_⟩
 (intro i q σ H q_; obtain ⟨rfl,hi,S2,δ2,rfl,e3,hA2,hI⟩ := q_)
 have hid_ok:∀e∈hid,Gu X.K H δ2.n e:=λe he=>hA2.ok e (Al _ (An _ he))
 by_cases hlt:i<ds.length
 ·refine .inr ⟨it.go H δ2.n i hid_ok hlt,λσ' H'=>∃S δ,vs S=σ'/\Sl S δ/\At X.K H0 Y δ.n (S++(hid++T)) H'/\I (i+1) δ,λσ' H' q=>⟨ds.length - (i+1),by omega,rfl,hlt,q⟩,λx H' y=>?_⟩
  obtain ⟨s1,d,F,h1,h2,h3⟩:=it.yld H δ2.n i x H' hid_ok hlt y
  refine ⟨H0,Y,S2,hid++T,δ2,.dat .sh d,F,_,rfl,e3,hA2.item s1 h2 h3 it.md it.hd it.np,hs i d δ2 h1 hI,λδ3 S3 H3 e4 hA3 p3=>?_⟩
  refine ⟨H0,Y,S3,hid++T,δ3,_,rfl,e4,hT',hA3,p3,λδ4 S4 H4 e5 hA4 p4=>⟨S4,δ4,rfl,e5,hA4,p4⟩,λx δ4 v F S4 H4 e5 hA4 p4=>k2 x δ4 v F S4 H4 e5 hA4.dropH p4,
   λδ4 S4 H4 e5 hA4 p4=>k1 δ4 S4 H4 e5 hA4.dropL p4,λδ4 S4 H4 e5 hA4 p4=>⟨S4,δ4,rfl,e5,hA4,p4⟩⟩
 ·have e:i=ds.length:=by omega
  subst e
  exact .inl ⟨it.stop H δ2.n hid_ok,k1 δ2 S2 H e3 hA2.dropL (hf δ2 hI)⟩
end
end DL
namespace Nd
open PySem PySem.Spec PyProof.Rows L2
end Nd
namespace DL
open PySem L2 Nd
def al(e:Ent):Ent:=match e.x with
 | .dat m d=>⟨e.v,.dat (gA m) d,e.F⟩
 | .val _=>e
 | .scr _=>e
 | _=>⟨e.v,.un,[]⟩
def alD:DV->DV
 | .dat m d=>.dat (gA m) d
 | .val v=>.val v
 | .scr ns=>.scr ns
 | _=>.un
def wH(S:List Ent)(j:Nat):Ent:=match S[j]? with
 | some e=>al e
 | none=>⟨none,.un,[]⟩
def Zl(S:List Ent)(js:List Nat):List Ent:=js.map (wH S)
def frD1(sl:List DV)(j:Nat):DV:=match sl[j]? with
 | some x=>alD x
 | none=>.un
def frD(sl:List DV)(js:List Nat):List DV:=js.map (frD1 sl)
theorem FR(e:Ent):(al e).v=e.v:=by
 obtain ⟨v,x,F⟩:=e
 cases x <;> rfl
theorem FS(e:Ent):(al e).x=alD e.x:=by
 obtain ⟨v,x,F⟩:=e
 cases x <;> rfl
theorem qS(S:List Ent)(js:List Nat):vs (Zl S js)=Gq (vs S) js:=by
 unfold vs Zl Gq
 rw[Ce]
 refine Fp λj _=>?_
 rw[Bf]
 simp only[Function.comp,wH]
 cases S[j]? with
 | none=>rfl
 | some e=>exact FR e
theorem sG(h:Sl S δ)(js:List Nat):(Zl S js).map Ent.x=frD δ.sl js:=by
 unfold Sl at h
 unfold Zl frD
 rw[Ce]
 refine Fp λj _=>?_
 simp only[Function.comp,wH,frD1]
 rw[<- h,Bf]
 cases S[j]? with
 | none=>rfl
 | some e=>exact FS e
section
variable{K:PySem.W.Frag}{H0 H H':Hp}{X:Addr->Prop}{n:Nat}{E S T:List Ent}
theorem jN(e:Ent):cells (al e)=[]:=by
 obtain ⟨v,x,F⟩:=e
 cases x with
 | dat m d=>cases m <;> rfl
 | _=>rfl
theorem At.view1(h:At K H0 X n E H)(he:e∈E):At K H0 X n (al e::E) H:=by
 refine h.push ?_ (λf hf=>⟨λ_ a ha=>(by rw[jN] at ha; cases ha),λhq a ha z=>?_⟩) λa ha=>(by rw[jN] at ha; cases ha)
 ·have:=h.ok e he
  obtain ⟨v,x,F⟩:=e
  cases x with
  | dat m d =>
   obtain ⟨w,h1,h2,_⟩:=this
   exact ⟨w,h1,h2,λz=>(by cases m <;> cases z),λz=>(by cases m <;> cases z)⟩
  | val v=>exact this
  | scr ns=>exact this
  | _=>exact (rfl:([]:List Addr)=[])
 ·obtain ⟨v,x,F⟩:=e
  cases x with
  | dat m d =>
   rcases oM h he hf with rfl | q
   ·rcases hq with hq | hq
    ·cases m <;> first | cases hq; done | exact nomatch ha
    ·cases hq
   ·refine q.2 ?_ a ha z
    rcases hq with hq | hq
    ·refine .inl ?_
     cases m <;> first | rfl | exact hq
    ·exact .inr hq
  | val v =>
   rw[show F=[] from (h.ok _ he).2] at z
   cases z
  | scr ns =>
   obtain ⟨_,_,hF,_⟩:=h.ok _ he
   rw[show F=[] from hF] at z
   cases z
  | _=>exact nomatch z
theorem At.blank(h:At K H0 X n E H):At K H0 X n (⟨v,.un,[]⟩::E) H :=
 h.push (rfl:([]:List Addr)=[]) (λf _=>⟨λ_ a ha=>(nomatch ha),λ_ a _=>Av⟩) (λa ha=>(nomatch ha))
theorem At.view(h:At K H0 X n E H)(hS:∀e∈S,e∈E):∀js:List Nat,At K H0 X n (Zl S js++E) H
 | []=>h
 | j::js=>by
  have ih:=At.view h hS js
  show At K H0 X n (wH S j::(Zl S js++E)) H
  unfold wH
  cases e:S[j]? with
  | none=>exact ih.blank
  | some x=>exact ih.view1 (Al _ (hS x (Ax e)))
theorem At.accNew(h:At K H0 X n E H)(hD:H D=Pr):At K H0 X n (⟨some (.ref D),.acc [],[D]⟩::E) (upd H D (.lst [])):=by
 have s1:=Dl hD (.lst [])
 refine (h.grow (n':=n) s1 (Ak _)).push ⟨D,[],[],rfl,rfl,Co,.nil,Dg _,Av⟩ (λf hf=>?_) λa ha=>?_
 ·have nf:=h.free hD f hf
  refine ⟨λ_ a ha z=>?_,λ_ a ha z=>?_⟩
  ·rw[Af.mp ha] at z
   exact nf z
  ·rw[Af.mp z] at ha
   exact nf (Eo _ _ ha)
 ·rw[Af.mp ha]
  exact .inl (h.new0 hD)
theorem At.accPutG(h:At K H0 X n (⟨some (.ref D),.acc ds,D::G⟩::⟨some v,.dat m e,F⟩::E) H)(hm:m≠.pk)(hz:ds.length+1<=Au):∃xs,H D=some (.lst xs)/\xs.length=ds.length/\At K H0 X n (⟨some (.ref D),.acc (ds++[e]),D::(G++F)⟩::E) (upd H D (.lst (xs++[v]))):=by
 obtain ⟨a,xs,G',e1,e0,ha,ra,_,nG⟩:=h.ok _ Ab
 have e1':some (V.ref D)=some (V.ref a):=e1
 cases e1'
 have e0':D::G=D::G':=e0
 cases e0'
 have r:RdF K H v e F:=h.told (Ae _ Ab)
 have hs:=Bb.mp h.sep
 have hs2:=Bb.mp hs.2
 have h1:=(h.sub (Cv _ _)).sub (Cv _ _)
 have npk:Lh (.dat m e)=false:=by cases m <;> first | rfl | exact absurd rfl hm
 have nF:D∉F:=(hs.1 _ Ab).1 (.inr rfl) D Ab
 have kp:∀{F:List Addr},D∉F->Kp F H (upd H D (.lst (xs++[v]))):=λ{F} hF b o q z=>by
  have : b≠D:=by
   rintro rfl
   rw[ha] at q
   cases q
   rcases z with z | z
   ·exact hF z
   ·rcases z with ⟨_,z⟩ | ⟨_,_,z⟩ <;> cases z
  rw[Cz this]
  exact q
 have nD:H0 D=Pr:=by
  rcases h.new _ Ab D Ab with z | z
  ·exact z
  ·cases z.2
 refine ⟨xs,ha,ra.len,?_⟩
 refine ⟨λf hf=>?_,?_,λf hf=>?_,λb o nx q=>?_,λb o q=>?_,λb hb=>?_⟩
 rotate_right
 ·obtain ⟨z,c,k,f,h1,h2⟩:=h.xd b hb
  refine ⟨z,c,k,f,(Cz ?_).trans h1,h2⟩
  rintro rfl
  exact z nD
 ·rcases Ag.mp hf with rfl | hf
  ·exact ⟨D,xs++[v],G++F,rfl,rfl,Co,(ra.kp (kp nG)).snoc (r.kp (kp nF)),by rw[Bo]; exact hz,λz=>(Ay.mp z).elim nG nF⟩
  ·exact (h1.ok f hf).kp (kp ((hs.1 f (Ae _ hf)).1 (.inr rfl) D Ab)) (Ak _)
 ·refine Bb.mpr ⟨λf hf=>⟨λhq a ha'=>(hs.1 f (Ae _ hf)).1 (.inr rfl) a ha',λhq a ha' z=>?_⟩,hs2.2⟩
  have z1:=(hs.1 f (Ae _ hf)).2 (.inl rfl) a ha'
  rcases Ag.mp z with z | z
  ·exact z1 (z▸Ab)
  ·rcases Ay.mp z with z | z
   ·exact z1 (Ae _ z)
   ·exact (hs2.1 f hf).2 (.inl npk) a ha' z
 ·rcases Ag.mp hf with rfl | hf
  ·intro a ha'
   rw[Af.mp ha']
   exact .inl nD
  ·exact h1.new f hf
 ·rw[Cz (Dx q nD)]
  exact h.same b o nx q
 ·rw[Cz (Dx q nD)]
  exact h.dom b o q
theorem At.accPut(h:At K H0 X n (⟨some (.ref D),.acc ds,[D]⟩::E) H)(r:RdF K H v e [])(hz:ds.length+1<=Au):∃xs,H D=some (.lst xs)/\xs.length=ds.length/\At K H0 X n (⟨some (.ref D),.acc (ds++[e]),[D]⟩::E) (upd H D (.lst (xs++[v]))) :=
 At.accPutG (m:=.ow) (At.pushI (S:=[⟨some (.ref D),.acc ds,[D]⟩]) h r) (by decide) hz
def eX:Bool->Md
 | true=>.ow
 | false=>.tp
theorem At.accGetG(h:At K H0 X n (⟨some (.ref D),.acc ds,D::G⟩::E) H)(hb:b=true->G=[]):At K H0 X n (⟨some (.ref D),.dat (eX b) (.list ds),D::G⟩::E) H:=by
 obtain ⟨a,xs,G',e1,e0,ha,ra,hz,nG⟩:=h.ok _ Ab
 have e1':some (V.ref D)=some (V.ref a):=e1
 cases e1'
 have e0':D::G=D::G':=e0
 cases e0'
 have hs:=Bb.mp h.sep
 have cs:∀a∈cells ⟨some (.ref D),.dat (eX b) (.list ds),D::G⟩,a=D:=λa ha'=>by
  cases b with
  | true=>rw[hb rfl] at ha'; exact Af.mp ha'
  | false=>exact Af.mp ha'
 refine (h.sub (Cv _ _)).push ⟨_,rfl,.lst ha hz ra,λz=>?_,λ_ a l e=>?_⟩ (λf hf=>⟨λhq a ha'=>?_,λhq a ha'=>(hs.1 f hf).2 (.inl rfl) a ha'⟩) λa ha'=>?_
 ·cases b with
  | true=>rw[hb rfl]; exact Bx.mpr ⟨Av,Dc⟩
  | false=>cases z
 ·have e:D::G=a::l:=e
  cases e
  exact nG
 ·rw[cs a ha']
  exact (hs.1 f hf).1 (.inr rfl) D Ab
 ·rw[cs a ha']
  rcases h.new _ Ab D Ab with z | z
  ·exact .inl z
  ·cases z.2
theorem At.accGet(h:At K H0 X n (⟨some (.ref D),.acc ds,[D]⟩::E) H):At K H0 X n (⟨some (.ref D),.dat .ow (.list ds),[D]⟩::E) H:=At.accGetG (b:=true) h λ_=>rfl
end
def gS:DT:=λδ P=>P true δ
def X4(b:Bool)(m:Md)(e:Ac):Prop:=match b with
 | true=>imm e=true
 | false=>m≠.pk
def Ku(b:Bool)(dc:DT)(de:DE)(δ:DS)(yes:Ac->Nat->Prop)(no:Nat->Prop):Prop:=dc δ λc δ2=>match c with
 | true=>de δ2 λy δ3=>match y with
  | .dat m e=>X4 b m e/\yes e δ3.n
  | _=>False
 | false=>no δ2.n
def mW(b:Bool)(di:DI)(js:List Nat)(dc:DT)(de:DE):DE:=λδ P=>di δ λm ds δ1=>∃I:Nat->List Ac->Nat->Prop,I 0 [] δ1.n /\
 (∀i d acc n,ds[i]? = some d->I i acc n->Ku b dc de ⟨.dat m d::frD δ1.sl js,n⟩ (λe n'=>I (i+1) (acc++[e]) n') (λn'=>I (i+1) acc n')) /\
 ∀acc n,I ds.length acc n->P (.dat (eX b) (.list acc)) ⟨δ1.sl,n⟩
def sJ(b:Bool)(di:DI)(js:List Nat)(dc:DT)(de:DE):DE:=λδ P=>di δ λm ds δ1=>∃I:Nat->List Ac->Nat->Prop,I 0 [] δ1.n /\
 (∀i d acc n,ds[i]? = some d->I i acc n->∃d1 d2,d=.tuple [d1,d2]/\Ku b dc de ⟨.dat m d1::.dat m d2::frD δ1.sl js,n⟩ (λe n'=>I (i+1) (acc++[e]) n') (λn'=>I (i+1) acc n')) /\
 ∀acc n,I ds.length acc n->P (.dat (eX b) (.list acc)) ⟨δ1.sl,n⟩
def Qb:DT->DE->DS->(Ac->Nat->Prop)->(Nat->Prop)->Prop:=Ku true
def yL:DI->List Nat->DT->DE->DE:=mW true
def yS:DI->List Nat->DT->DE->DE:=sJ true
def o6:DI->List Nat->DT->DE->DE:=mW false
section
variable{K:PySem.W.Frag}{H0 H H':Hp}{Y:Addr->Prop}{n:Nat}{E S T:List Ent}
theorem jG{b:Bool}{dc:DT}{de:DE}{δ:DS}{yes:Ac->Nat->Prop}{N1:Hp->Prop}(hS:Sl S δ)(hb:b=true->G=[])(hA:At K H0 Y δ.n (S++⟨some (.ref D),.acc acc,D::G⟩::T) H)(h:Ku b dc de δ yes no)(hz:acc.length+1<=Au)(k1:∀n' H',At K H0 Y n' (⟨some (.ref D),.acc acc,D::G⟩::T) H'->no n'->N1 H')(k2:∀e n' v H' G',(b=true->G'=[])->(∃xs,H' D=some (.lst xs)/\xs.length=acc.length/\At K H0 Y n' (⟨some (.ref D),.acc (acc++[e]),D::G'⟩::T) (upd H' D (.lst (xs++[v]))))->yes e n'->N2 v H'):LT K dc (vs S) H λc H2=>if c=true then LE K de (vs S) H2 N2 else N1 H2:=by
 refine ⟨H0,Y,S,⟨some (.ref D),.acc acc,D::G⟩::T,δ,_,rfl,hS,hA,h,λc δ2 S2 H2 e1 e2 hA2 p2=>?_⟩
 cases c with
 | false=>exact uK (k1 _ _ (hA2.sub (Cf _ _)) p2)
 | true =>
  refine pH ⟨H0,Y,S2,⟨some (.ref D),.acc acc,D::G⟩::T,δ2,_,e1,e2,hA2,p2,λy δ3 v F S3 H3 e3 e4 hA3 p3=>?_⟩
  split at p3
  ·rename_i m e
   have r:=hA3.told mem_mid
   cases b with
   | true =>
    obtain rfl:=r.imm p3.1
    obtain rfl:=hb rfl
    exact k2 _ _ _ _ [] (λ_=>rfl) ((hA3.drop.sub (Cf _ _)).accPut r hz) p3.2
   | false =>
    have hA4:At K H0 Y δ3.n (⟨some v,.dat m e,F⟩::⟨some (.ref D),.acc acc,D::G⟩::T) H3:=hA3.sub (Cf _ _)
    exact k2 _ _ _ _ (G++F) (λz=>nomatch z) ((hA4.perm (Fe _ _ _)).accPutG p3.1 hz) p3.2
  ·exact p3.elim
theorem tH{dt:TT}:∀σ H Q,LT K gS σ H Q->Zj σ H Q:=by
 intro σ H Q h
 obtain ⟨H0,Y,S,T,δ,P,rfl,hS,hA,hd,k⟩:=h
 exact k true δ S H rfl hS hA hd
theorem nC.imp(h:nC X e t)(k:∀σ H Q,t' σ H Q->t σ H Q):nC X e t':=λpins s σ H Q I q=>h pins s σ H Q I (k σ H Q q)
theorem iS:∀σ H Q,LE K (mW b di js dc de) σ H Q->mB (LI K di) js (LT K dc) (LE K de) σ H Q:=by
 intro σ H Q h
 obtain ⟨H0,Y,S,T,δ,P,rfl,hS,hA,hd,k⟩:=h
 refine ⟨H0,Y,S,T,δ,_,rfl,hS,hA,hd,λm ds δ1 J hid S1 H1 e1 e2 hA1 it hz p1=>?_⟩
 obtain ⟨I,h0,hs,hf⟩:=p1
 rw[<- e1]
 intro D hD
 refine ⟨λi q H=>q=ds.length - i/\i<=ds.length/\∃acc n G,(b=true->G=[])/\At K H0 Y n (⟨some (.ref D),.acc acc,D::G⟩::(S1++(hid++T))) H/\acc.length<=i/\I i acc n,⟨ds.length,by simp,Dg _,[],δ1.n,[],λ_=>rfl,hA1.accNew hD,Ak _,h0⟩,?_⟩
 (intro i q H q_; obtain ⟨rfl,hi,acc,n,G,hG,hA2,hl,hI⟩ := q_)
 have hid_ok:∀e∈hid,Gu K H n e:=λe he=>hA2.ok e (Ae _ (Al _ (An _ he)))
 by_cases hlt:i<ds.length
 ·refine .inr ⟨it.go H n i hid_ok hlt,λx H' y=>?_⟩
  obtain ⟨s1,d,F,h1,h2,h3⟩:=it.yld H n i x H' hid_ok hlt y
  have hA3:At K H0 Y n ((⟨some (.ref D),.acc acc,D::G⟩::S1)++⟨some x,.dat m d,F⟩::(hid++T)) H':=At.item (S:=⟨some (.ref D),.acc acc,D::G⟩::S1) hA2 s1 h2 h3 it.md it.hd it.np
  have hA4:=hA3.mid
  have hA5:=At.view (S:=S1) hA4 (λe he=>Ae _ (An _ (Ae _ he))) js
  have hA6:At K H0 Y n ((⟨some x,.dat m d,F⟩::Zl S1 js)++⟨some (.ref D),.acc acc,D::G⟩::(S1++(hid++T))) H':=hA5.mid
  have hS6:Sl (⟨some x,.dat m d,F⟩::Zl S1 js) ⟨.dat m d::frD δ1.sl js,n⟩:=by
   unfold Sl
   rw[Aw,sG e2]
  have hv:vs (⟨some x,.dat m d,F⟩::Zl S1 js)=some x::Gq (vs S1) js:=by
   rw[<- qS]
   rfl
  refine ⟨λH2=>∃m',m'<ds.length - i/\_,λy H3=>∃acc,H3 D=some (.lst acc)/\acc.length<Au/\∃m',m'<ds.length - i/\_,λH2 q=>q,λy H3 q=>q,?_⟩
  rw[<- hv]
  refine jG hS6 hG hA6 (hs i d acc n h1 hI) (by omega) (λn' H2 hA7 p=>?_) (λe n' v H2 G' hG' hA7 p=>?_)
  ·exact ⟨ds.length - (i+1),by omega,rfl,hlt,acc,n',G,hG,hA7,by omega,p⟩
  ·obtain ⟨xs,g1,g2,g3⟩:=hA7
   exact ⟨xs,g1,by omega,ds.length - (i+1),by omega,rfl,hlt,acc++[e],n',G',hG',g3,by rw[Bo]; simp; omega,p⟩
 ·have e:i=ds.length:=by omega
  subst e
  refine .inl ⟨it.stop H n hid_ok,k _ ⟨δ1.sl,n⟩ _ (D::G) S1 H e1 e2 ?_ (hf acc n hI)⟩
  have hA3:=hA2.accGetG hG
  have hA4:At K H0 Y n (⟨some (.ref D),.dat (eX b) (.list acc),D::G⟩::(S1++T)) H:=hA3.sub (((Cq S1).append (Cf hid T)).cons₂ _)
  exact hA4.tomid
theorem zO:∀σ H Q,LE K (sJ b di js dc de) σ H Q->zV K (LI K di) js (LT K dc) (LE K de) σ H Q:=by
 intro σ H Q h
 obtain ⟨H0,Y,S,T,δ,P,rfl,hS,hA,hd,k⟩:=h
 refine ⟨H0,Y,S,T,δ,_,rfl,hS,hA,hd,λm ds δ1 J hid S1 H1 e1 e2 hA1 it hz p1=>?_⟩
 obtain ⟨I,h0,hs,hf⟩:=p1
 rw[<- e1]
 intro D hD
 refine ⟨λi q H=>q=ds.length - i/\i<=ds.length/\∃acc n G,(b=true->G=[])/\At K H0 Y n (⟨some (.ref D),.acc acc,D::G⟩::(S1++(hid++T))) H/\acc.length<=i/\I i acc n,⟨ds.length,by simp,Dg _,[],δ1.n,[],λ_=>rfl,hA1.accNew hD,Ak _,h0⟩,?_⟩
 (intro i q H q_; obtain ⟨rfl,hi,acc,n,G,hG,hA2,hl,hI⟩ := q_)
 have hid_ok:∀e∈hid,Gu K H n e:=λe he=>hA2.ok e (Ae _ (Al _ (An _ he)))
 by_cases hlt:i<ds.length
 ·refine .inr ⟨it.go H n i hid_ok hlt,λx H' y=>?_⟩
  obtain ⟨s1,d,F,h1,h2,h3⟩:=it.yld H n i x H' hid_ok hlt y
  obtain ⟨d1,d2,rfl,hst⟩:=hs i d acc n h1 hI
  obtain ⟨t,xs,rfl,ht,rt,_⟩:=h2.tup_inv
  cases rt with
  | @cons w1 _ xs _ F1 _ r1 rt =>
   cases rt with
   | @cons w2 _ xs _ F2 G r2 rt =>
    cases rt
    have hA3:At K H0 Y n ((⟨some (.ref D),.acc acc,D::G⟩::S1)++⟨some w1,.dat m d1,F1⟩::(hid++T)) H':=At.item (S:=⟨some (.ref D),.acc acc,D::G⟩::S1) hA2 s1 r1 (λa ha=>h3 a (An _ ha)) it.md it.hd it.np
    have hA3':At K H0 Y n ((⟨some w1,.dat m d1,F1⟩::⟨some (.ref D),.acc acc,D::G⟩::S1)++(hid++T)) H':=hA3.mid
    have hA3'':At K H0 Y n ((⟨some w1,.dat m d1,F1⟩::⟨some (.ref D),.acc acc,D::G⟩::S1)++⟨some w2,.dat m d2,F2⟩::(hid++T)) H':=At.item hA3' (Mv.refl _) r2 (λa ha=>h3 a (Al _ (An _ ha))) it.md it.hd it.np
    have hA4:At K H0 Y n (⟨some w1,.dat m d1,F1⟩::⟨some w2,.dat m d2,F2⟩::⟨some (.ref D),.acc acc,D::G⟩::(S1++(hid++T))) H':=hA3''.mid.perm (Fe _ _ _)
    have hA5:=At.view (S:=S1) hA4 (λe he=>Ae _ (Ae _ (Ae _ (An _ he)))) js
    have hA6:At K H0 Y n ((⟨some w1,.dat m d1,F1⟩::⟨some w2,.dat m d2,F2⟩::Zl S1 js)++⟨some (.ref D),.acc acc,D::G⟩::(S1++(hid++T))) H':=by
     have z:=hA5.mid
     refine z.perm ?_
     exact (Gb).cons _
    have hS6:Sl (⟨some w1,.dat m d1,F1⟩::⟨some w2,.dat m d2,F2⟩::Zl S1 js) ⟨.dat m d1::.dat m d2::frD δ1.sl js,n⟩:=by
     unfold Sl
     rw[Aw,Aw,sG e2]
    have hv:vs (⟨some w1,.dat m d1,F1⟩::⟨some w2,.dat m d2,F2⟩::Zl S1 js)=some w1::some w2::Gq (vs S1) js:=by
     rw[<- qS]
     rfl
    refine ⟨t,w1,w2,rfl,Up.of ht,λH2=>∃m',m'<ds.length - i/\_,λy H3=>∃acc,H3 D=some (.lst acc)/\acc.length<Au/\∃m',m'<ds.length - i/\_,λH2 q=>q,λy H3 q=>q,?_⟩
    rw[<- hv]
    refine jG hS6 hG hA6 hst (by omega) (λn' H2 hA7 p=>?_) (λe n' v H2 G' hG' hA7 p=>?_)
    ·exact ⟨ds.length - (i+1),by omega,rfl,hlt,acc,n',G,hG,hA7,by omega,p⟩
    ·obtain ⟨xs,g1,g2,g3⟩:=hA7
     exact ⟨xs,g1,by omega,ds.length - (i+1),by omega,rfl,hlt,acc++[e],n',G',hG',g3,by rw[Bo]; simp; omega,p⟩
 ·have e:i=ds.length:=by omega
  subst e
  refine .inl ⟨it.stop H n hid_ok,k _ ⟨δ1.sl,n⟩ _ (D::G) S1 H e1 e2 ?_ (hf acc n hI)⟩
  have hA3:=hA2.accGetG hG
  have hA4:At K H0 Y n (⟨some (.ref D),.dat (eX b) (.list acc),D::G⟩::(S1++T)) H:=hA3.sub (((Cq S1).append (Cf hid T)).cons₂ _)
  exact hA4.tomid
end
section
variable{X:Cx}{elt iter c:Expr}{x x2 y0:Str}{px px2 pt py pos spos:Pos}{kt i0:Nat}{ifs:List Expr}{scope:Scope}{cl:List (Str×Addr)}{ys:List Str}{js:List Nat}{di:DI}{dc:DT}{de:DE}
theorem Gd:nC X [] (LT X.K gS):=nC.imp bT (tH (dt:=Zj))
theorem Oq(h:mJ X c dc):nC X [c] (LT X.K dc):=K9 h
theorem Hi(C:CompScope X scope cl x ys js)(hc:X.calm=true)(hi:wR X (.Name x px) iter di)(ht:∀fp s H,nC (El X scope cl (x::ys) fp s H) ifs (LT X.K dc))(he:∀fp s H,Er (El X scope cl (x::ys) fp s H) elt de)(hs:∀x,Ee iter X.env x=pure x:=by intro _; rfl):Er X (.ListComp elt [⟨.Name x px,iter,ifs,0⟩] scope pos) (yL di js dc de):=PE.imp (Vm C hc hi ht he hs) iS
theorem lZ(C:CompScope X scope cl x ys js)(own2:o5 scope x2)(nd2:(x::x2::ys).Nodup)(hc:X.calm=true)(hi:wR X (.Tuple [.Name x px,.Name x2 px2] kt pt) iter di)(ht:∀fp s H,nC (El X scope cl (x::x2::ys) fp s H) ifs (LT X.K dc))(he:∀fp s H,Er (El X scope cl (x::x2::ys) fp s H) elt de)(hs:∀x,Ee iter X.env x=pure x:=by intro _; rfl):Er X (.ListComp elt [⟨.Tuple [.Name x px,.Name x2 px2] kt pt,iter,ifs,0⟩] scope pos) (yS di js dc de):=PE.imp (xA C own2 nd2 hc hi ht he hs) zO
def FF(o:Bool)(i:Nat):DG:=match o with
 | true=>eY i
 | false=>Ql i
theorem DZ:∀v σ H Q,LG K (FF o i) v σ H Q->Yb i v σ H Q:=by
 cases o with
 | true=>exact zW
 | false=>exact iK
theorem rW{o:Bool}(hN:X.N.Nodup)(hi0:X.N[i0]? = some y0)(hy0:X.env.scope.names.lookup y0=some .local)(C:CompScope X scope cl x ys js)(hc:X.calm=true)(hi:wR X (.Name x px) iter di)(ht:∀fp s H,nC (El X scope cl (x::ys) fp s H) ifs (LT X.K dc))(he:∀fp s H,Er (El X scope cl (x::ys) fp s H) elt de)(hs:∀x,Ee iter X.env x=pure x:=by intro _; rfl)(hsw:Kb (.ListComp elt [⟨.Name x px,iter,ifs,0⟩] scope pos) (some (.Name y0 py)) spos.line X.env=pure true:=by rfl):rJ X (.Assign [.Name y0 py] (.ListComp elt [⟨.Name x px,iter,ifs,0⟩] scope pos) spos) (uI (yL di js dc de) (FF o i0)):=PS.impD (rX hN hi0 hy0 C hc hi ht he hs hsw) (fU iS DZ)
theorem o7(C:CompScope X scope cl x ys js)(hc:X.calm=true)(hi:wR X (.Name x px) iter di)(ht:∀fp s H,nC (El X scope cl (x::ys) fp s H) ifs (LT X.K dc))(he:∀fp s H,Er (El X scope cl (x::ys) fp s H) elt de)(hs:∀x,Ee iter X.env x=pure x:=by intro _; rfl):Er X (.ListComp elt [⟨.Name x px,iter,ifs,0⟩] scope pos) (o6 di js dc de):=PE.imp (Vm C hc hi ht he hs) iS
end
end DL
namespace DL
open PySem PySem.Spec PyProof.Rows L2 Nd
section
variable{K:PySem.W.Frag}{H0 H H':Hp}{X:Addr->Prop}{n n':Nat}{E S T:List Ent}
theorem At.pushF(h:At K H0 X n E H)(r:RdF K H v d F)(nd:F.Nodup)(fr:∀a∈F,∀f∈E,a∉f.F)(f0:∀a∈F,H0 a=none):At K H0 X n (⟨some v,.dat .ow d,F⟩::E) H:=by
 refine h.push ⟨v,rfl,r,λ_=>nd,λz=>nomatch z⟩ (λf hf=>⟨λ_ a ha z=>fr a ha f hf z,λ_ a ha z=>fr a z f hf (Eo _ _ ha)⟩) λa ha=>.inl (f0 a ha)
theorem At.drawn(h:At K H0 X n E H)(he:e∈E)(hx:e.x=.drw)(hv:e.v=some (.ref dr))(s:Tz dr H H')(hd:∃c k f,bU H' dr c k f/\0<=k/\k<=(n':Int))(hn:n<=n'):At K H0 X n' E H':=by
 obtain ⟨v,x,F⟩:=e
 have hx':x=.drw:=hx
 subst hx'
 obtain ⟨dr',c0,k0,f0,hv',hF,hd0,_⟩:=h.ok _ he
 have e1:some (V.ref dr)=some (V.ref dr'):=hv.symm.trans hv'
 cases e1
 have hF':F=[dr]:=hF
 subst hF'
 refine ⟨λf hf=>?_,h.sep,h.new,λb o nx q=>?_,λb o q=>?_,λb hb=>?_⟩
 rotate_right
 ·obtain ⟨z,c,k,f,h1,h2,h3⟩:=h.xd b hb
  by_cases hbd:b=dr
  ·subst hbd
   exact ⟨z,hd⟩
  ·exact ⟨z,c,k,f,s _ _ hbd h1,h2,by omega⟩
 ·rcases oM h he hf with rfl | q
  ·obtain ⟨c,k,fl,h1,h2,h3⟩:=hd
   exact ⟨dr,c,k,fl,hv',rfl,h1,h2,h3⟩
  ·have nf:dr∉f.F:=q.1 (.inr rfl) dr Ab
   refine (h.ok f hf).kp (λb o eb z=>?_) hn
   by_cases hb:b=dr
   ·subst hb
    rcases z with z | z
    ·exact absurd z nf
    ·have hd0':H b=some (.lst _):=hd0
     rw[eb] at hd0'
     cases hd0'
     rcases z with ⟨_,z⟩ | ⟨_,_,z⟩ <;> cases z
   ·exact s b o hb eb
 ·have hb:b≠dr:=by
   rintro rfl
   rcases h.new _ he b Ab with z | z
   ·rw[z] at q; cases q
   ·exact nx z.1
  exact s b o hb (h.same b o nx q)
 ·by_cases hb:b=dr
  ·subst hb
   obtain ⟨c,k,fl,h1,_⟩:=hd
   exact ⟨_,h1⟩
  ·obtain ⟨o',z⟩:=h.dom b o q
   exact ⟨o',s b o' hb z⟩
end
abbrev PF:=List Ac->(Ac->Prop)->Prop
abbrev DF:=List Ac->Nat->(Ac->Nat->Prop)->Prop
def Sn(K:PySem.W.Frag)(pf:PF):Sp:=λus H Q _=>∃(As:List Ent) (n:Nat) (ds:List Ac) (R:Ac->Prop),As.map Ent.v=us.map some/\(∀e∈As,Gu K H n e)/\datas (As.map Ent.x)=some ds/\pf ds R /\
 ∀v d F H',R d->RdF K H' v d F->F.Nodup->(∀a∈F,H a=none)->Mv H H'->Q v H'
def mL(K:PySem.W.Frag)(df:DF):Sp:=λus H Q _=>∃(dr:Addr) (ws:List V) (As:List Ent) (n:Nat) (ds:List Ac) (R:Ac->Nat->Prop),us=.ref dr::ws/\As.map Ent.v=ws.map some/\(∀e∈As,Gu K H n e)/\(∀e∈As,dr∉e.F)/\(∃c k f,bU H dr c k f/\0<=k/\k<=(n:Int))/\datas (As.map Ent.x)=some ds/\df ds n R /\
 ∀v d F n' H',n<=n'->R d n'->RdF K H' v d F->F.Nodup->(∀a∈F,H a=none)->(∃c k f,bU H' dr c k f/\0<=k/\k<=(n':Int))->Tz dr H H'->Q v H'
def yO(pf:PF)(da:DA):DE:=λδ P=>da δ λxs δ1=>match datas xs with
 | some ds=>pf ds λd=>P (.dat .ow d) δ1
 | none=>False
def nP(i:Nat)(df:DF)(da:DA):DE:=λδ P=>match δ.sl[i]? with
 | some .drw=>da δ λxs δ1=>match δ1.sl[i]? with
  | some .drw=>match datas xs with
   | some ds=>df ds δ1.n λd n'=>P (.dat .ow d) ⟨δ1.sl,n'⟩
   | none=>False
  | _=>False
 | _=>False
section
variable{X:Cx}{CX:pZ}{k:Nat}{f:Addr}{fd:Cg}{ps:List Str}{pf:PF}{df:DF}{E:XK}{x:Str}{p pos:Pos}{e e0:Expr}{es:List Expr}{da:DA}
theorem Ig(F:FnOk X.prog X.w X.K X.mg X.base CX k f fd ps (Sn X.K pf))(hr:Room k X.A)(hg:Gl X x)(hm:X.mg x=some (.ref f))(hk:PySem.W.keepIn X.K (.ref f)=true)(hb:Binds X.K fd ps [])(hx:Pl CX X E)(ha:jK X (e::es) da)(hdb:(x == ("__debug__" : Str))=false:=by decide)(he:Bp (e::es) X.env=(false,eval e X.env)::Bp es X.env:=by rfl)(hpl:(Gw pos (Bp es X.env)).any (·.1)=false:=by rfl):Er X (.Call (.Name x p) (e::es) [] pos) (yO pf da):=by
 refine PE.imp (Wb F hr hg hm hk hb .nil hx ha hdb he hpl) λσ H Q h=>?_
 obtain ⟨H0,Y,S,T,δ,P,rfl,hS,hA,hd,kk⟩:=h
 refine ⟨H0,Y,S,T,δ,_,rfl,hS,hA,hd,λxs δ' As us S' H' e1 e2 ex eu hA' p=>?_⟩
 subst ex
 cases q:datas (As.map Ent.x) with
 | none=>rw[q] at p; exact p.elim
 | some ds =>
  rw[q] at p
  rw[Ea]
  refine ⟨As,δ'.n,ds,_,eu,λe he=>hA'.ok e (Al _ (An _ he)),q,p,λv d F H'' r rd nd fr s=>?_⟩
  exact kk _ δ' v F S' H'' e1 e2 (((hA'.dropL.grow s (Ak _)).pushF rd nd (λa ha=>hA'.dropL.free (fr a ha)) (λa ha=>hA'.new0 (fr a ha))).tomid) r
theorem EC(F:FnOk X.prog X.w X.K X.mg X.base CX k f fd ps (Sn X.K pf))(hr:Room k X.A)(hg:Gl X x)(hm:X.mg x=some (.ref f))(hk:PySem.W.keepIn X.K (.ref f)=true)(hb:Binds X.K fd ps [])(hx:Pl CX X E)(hdb:(x == ("__debug__" : Str))=false:=by decide):Er X (.Call (.Name x p) [] [] pos) (yO pf Y4):=by
 refine PE.imp (xS F hr hg hm hk hb .nil hx hdb) λσ H Q h=>?_
 obtain ⟨H0,Y,S,T,δ,P,rfl,hS,hA,hd,kk⟩:=h
 show Sn X.K pf [] H Q E
 refine ⟨[],δ.n,[],_,rfl,λe he=>(nomatch he),rfl,hd,λv d F H'' r rd nd fr s=>?_⟩
 exact kk _ δ v F S H'' rfl hS (((hA.grow s (Ak _)).pushF rd nd (λa ha=>hA.free (fr a ha)) (λa ha=>hA.new0 (fr a ha))).tomid) r
theorem Jd(F:FnOk X.prog X.w X.K X.mg X.base CX k f fd ps (mL X.K df))(hr:Room k X.A)(hg:Gl X x)(hm:X.mg x=some (.ref f))(hk:PySem.W.keepIn X.K (.ref f)=true)(hb:Binds X.K fd ps [])(hx:Pl CX X E)(h0:PE X e0 (bX i))(ha:jK X es da)(hdb:(x == ("__debug__" : Str))=false:=by decide)(he:Bp (e0::es) X.env=(false,eval e0 X.env)::Bp es X.env:=by rfl)(hpl:(Gw pos (Bp es X.env)).any (·.1)=false:=by rfl):Er X (.Call (.Name x p) (e0::es) [] pos) (nP i df da):=by
 refine PE.imp (Wb F hr hg hm hk hb .nil hx (Gv h0 ha he) hdb he hpl) λσ H Q h=>?_
 obtain ⟨H0,Y,S,T,δ,P,rfl,hS,hA,hd,kk⟩:=h
 unfold nP at hd
 split at hd
 case h_2=>exact hd.elim
 rename_i hsl0
 have main:∀w,(vs S)[i]? = some (some w)->LA X.K da (vs S) H λxs H2=>mL X.K df ((w::xs)++[]) H2 Q E:=λw hw=>by
  refine ⟨H0,Y,S,T,δ,_,rfl,hS,hA,hd,λxs δ' As us S' H' e1 e2 ex eu hA' p=>?_⟩
  subst ex
  split at p
  ·rename_i hsl
   obtain ⟨ent,s1,s2⟩:=Hk e2 hsl
   have hm':ent∈S':=Ax s1
   have hv:ent.v=some w:=by
    have:=Ls s1
    rw[e1,hw] at this
    exact (Bn this).symm
   obtain ⟨u,z,F⟩:=ent
   have s2':z=.drw:=s2
   subst s2'
   have hE:(⟨u,.drw,F⟩ : Ent)∈S'++(As++T):=An _ hm'
   obtain ⟨dr,c0,k0,f0,hv0,hF0,hd0,hk0,hk1⟩:=hA'.ok _ hE
   have ew:some w=some (V.ref dr):=hv.symm.trans hv0
   cases ew
   have hF':F=[dr]:=hF0
   subst hF'
   cases q:datas (As.map Ent.x) with
   | none=>rw[q] at p; exact p.elim
   | some ds =>
    rw[q] at p
    rw[Ea]
    refine ⟨dr,us,As,δ'.n,ds,_,rfl,eu,λe he=>hA'.ok e (Al _ (An _ he)),λe he=>?_,⟨c0,k0,f0,hd0,hk0,hk1⟩,q,p,λv d F n' H'' hn r rd nd fr hdr s=>?_⟩
    ·obtain ⟨_,_,hp⟩ := Ca.mp hA'.sep
     exact (hp _ hm' e (An _ he)).1 (.inr rfl) dr Ab
    ·have hA2:=hA'.dropL.drawn (An _ hm') rfl hv s hdr hn
     exact kk _ ⟨δ'.sl,n'⟩ v F S' H'' e1 e2 ((hA2.pushF rd nd (λa ha=>hA'.dropL.free (fr a ha)) (λa ha=>hA'.new0 (fr a ha))).tomid) r
  ·exact p.elim
 obtain ⟨ent,s1,s2⟩:=Hk hS hsl0
 have hm':ent∈S:=Ax s1
 obtain ⟨u,z,F⟩:=ent
 have s2':z=.drw:=s2
 subst s2'
 obtain ⟨dr,c0,k0,f0,hv0,_⟩:=hA.ok _ (An _ hm')
 have hw:(vs S)[i]? = some (some (.ref dr)):=(Ls s1).trans (congrArg some hv0)
 exact ⟨_,hw,main _ hw⟩
def Vx:Sp:=λvs H Q _=>∃c:Int,vs=[.int c]/\∀(p:Addr) (c':Int) (f:Bool) (H':Hp),H p=none->bU H' p c' 0 f->Mv H H'->Q (.ref p) H'
def zG(da:DA):DE:=λδ P=>da δ λxs δ1=>match xs with
 | [.dat _ (.int _)]=>P .drw δ1
 | _=>False
theorem kP(F:FnOk X.prog X.w X.K X.mg X.base CX k f fd ps Vx)(hr:Room k X.A)(hg:Gl X x)(hm:X.mg x=some (.ref f))(hk:PySem.W.keepIn X.K (.ref f)=true)(hb:Binds X.K fd ps [])(hx:Pl CX X E)(ha:jK X (e::es) da)(hdb:(x == ("__debug__" : Str))=false:=by decide)(he:Bp (e::es) X.env=(false,eval e X.env)::Bp es X.env:=by rfl)(hpl:(Gw pos (Bp es X.env)).any (·.1)=false:=by rfl):Er X (.Call (.Name x p) (e::es) [] pos) (zG da):=by
 refine PE.imp (Wb F hr hg hm hk hb .nil hx ha hdb he hpl) λσ H Q h=>?_
 obtain ⟨H0,Y,S,T,δ,P,rfl,hS,hA,hd,kk⟩:=h
 refine ⟨H0,Y,S,T,δ,_,rfl,hS,hA,hd,λxs δ' As us S' H' e1 e2 ex eu hA' p=>?_⟩
 split at p
 ·obtain ⟨v,F,rfl,hA2⟩:=Gm eu hA' ex
  obtain ⟨rfl,_⟩:=(hA2.told mem_mid).int_inv
  refine ⟨_,rfl,λq c' fl H'' nq hdr s=>?_⟩
  have h3:=hA2.drop.grow (n':=δ'.n) s (Ak _)
  refine kk _ δ' _ [q] S' H'' e1 e2 ((h3.push (e:=⟨some (.ref q),.drw,[q]⟩) ⟨q,_,0,fl,rfl,rfl,hdr,by decide,by omega⟩ (λf hf=>?_) λa ha=>?_).tomid) p
  ·have nf:=hA2.drop.free nq f hf
   refine ⟨λ_ a ha z=>?_,λ_ a ha z=>?_⟩
   ·rw[Af.mp ha] at z
    exact nf z
   ·rw[Af.mp z] at ha
    exact nf (Eo _ _ ha)
  ·rw[Af.mp ha]
   exact .inl (hA2.new0 nq)
 ·exact p.elim
end
def args0(ds:List Ac)(k:Nat):List DV:=ds.map (λd=>.dat .sh d)++By k .un
def Xi(e:Ent):Ent:=match e.x with
 | .dat _ d=>⟨e.v,.dat .sh d,e.F⟩
 | _=>e
theorem Ip:∀{xs:List DV} {ds:List Ac},datas xs=some ds->xs.length=ds.length
 | [],ds,h=>by cases h; rfl
 | x::xs,ds,h=>by
  cases x with
  | dat m d =>
   cases q:datas xs with
   | none=>simp [datas,q] at h
   | some es =>
    simp [datas,q] at h
    subst h
    rw[Bs,Bs,Ip q]
  | _=>cases h
theorem Rr:∀{As:List Ent} {ds:List Ac},datas (As.map Ent.x)=some ds->(As.map Xi).map Ent.x=ds.map (λd=>.dat .sh d)
 | [],ds,h=>by cases h; rfl
 | ⟨v,x,F⟩::As,ds,h=>by
  rw[Aw] at h
  cases x with
  | dat m d =>
   cases q:datas (As.map Ent.x) with
   | none=>simp [datas,q] at h
   | some es =>
    simp [datas,q] at h
    subst h
    rw[Aw,Aw,Aw,Rr q]
    rfl
  | _=>cases h
theorem Xc:∀{As:List Ent} {ds:List Ac},datas (As.map Ent.x)=some ds->∀e∈As,∃m d,e.x=.dat m d
 | [],ds,h,e,he=>nomatch he
 | ⟨v,x,F⟩::As,ds,h,e,he=>by
  rw[Aw] at h
  cases x with
  | dat m d =>
   cases q:datas (As.map Ent.x) with
   | none=>simp [datas,q] at h
   | some es =>
    rcases Ag.mp he with rfl | he
    ·exact ⟨m,d,rfl⟩
    ·exact Xc q e he
  | _=>cases h
theorem K4(As:List Ent):(As.map Xi).map Ent.v=As.map Ent.v:=by
 rw[Ce]
 refine Fp λe _=>?_
 obtain ⟨v,x,F⟩:=e
 cases x <;> rfl
def Gs(k:Nat):List Ent:=By k ⟨none,.un,[]⟩
theorem Zg{As:List Ent}(q:datas (As.map Ent.x)=some ds)(k:Nat):∀e∈As.map Xi++Gs k,cells e=[]/\V1 e.x=false:=λe he=>by
 rcases Ay.mp he with he | he
 ·obtain ⟨f,hf,rfl⟩:=Bt.mp he
  obtain ⟨m,d,hx⟩:=Xc q f hf
  obtain ⟨v,x,F⟩:=f
  have hx':x=.dat m d:=hx
  subst hx'
  exact ⟨rfl,rfl⟩
 ·rw[(Hd.mp he).2]
  exact ⟨rfl,rfl⟩
theorem Pt{α:Type}{R:α->α->Prop}:∀{l:List α},(∀a∈l,∀b∈l,R a b)->l.Pairwise R
 | [],_=>Ko
 | a::l,h=>Bb.mpr ⟨λb hb=>h a Ab b (Ae _ hb),Pt λx hx y hy=>h x (Ae _ hx) y (Ae _ hy)⟩
theorem rM{K:PySem.W.Frag}{As:List Ent}(q:datas (As.map Ent.x)=some ds)(ok:∀e∈As,Gu K H n e)(k:Nat):∀e∈As.map Xi++Gs k,Gu K H n e:=λe he=>by
 rcases Ay.mp he with he | he
 ·obtain ⟨f,hf,rfl⟩:=Bt.mp he
  obtain ⟨m,d,hx⟩:=Xc q f hf
  have o:=ok f hf
  obtain ⟨v,x,F⟩:=f
  have hx':x=.dat m d:=hx
  subst hx'
  obtain ⟨w,h1,h2,_⟩:=o
  exact ⟨w,h1,h2,λz=>(nomatch z),λz=>(nomatch z)⟩
 ·rw[(Hd.mp he).2]
  exact (rfl:([]:List Addr)=[])
theorem Mf{α β:Type}(f:α->β)(k:Nat)(a:α):(By k a).map f=By k (f a):=by
 rw[List.map_replicate]
def retE(R:Ac->Prop):DEnds where
 nx:=λ_=>R .none
 rt:=λx _=>∃d,x=.dat .ow d/\R d
def retW(n:Nat)(R:Ac->Nat->Prop):DEnds where
 nx:=λδ=>n<=δ.n/\R .none δ.n
 rt:=λx δ=>n<=δ.n/\∃d,x=.dat .ow d/\R d δ.n
section
variable{P:Bq}{w:World}{K:PySem.W.Frag}{mg:Str->Option Value}{base:Heap}
theorem Kk{x qual:Str}{st:Stmt}(F:Fun K x qual st f fd)(S:FnScope N ps (Bl st))(hb:∀(cdv:Value) (A:Cr) (outer:List Env) (s:Aj) (H:Hp) (E:XK),Room k (A.deeper (envOfC qual (Bl st) s.heap.objs.size f cdv))->Wx (Ie Ge P w K mg base N qual (Bl st) f cdv A outer s H E).nox (Iv st) db)(h:∀ds R,pf ds R->ds.length=ps.length/\db (retE R) ⟨args0 ds (N.length - ps.length),0⟩):FnOk P w K mg base Ge (k+1) f fd ps (Sn K pf):=by
 refine F.ok S (λvs H Q E z=>?_) λcdv A outer s H us Q E hr z=>?_
 ·obtain ⟨As,n,ds,R,eu,ok,q,hp,_⟩:=z
  have l1:=(h ds R hp).1
  have l2:=Ip q
  rw[Ad] at l2
  have l3:=congrArg Fc eu
  rw[Ad,Ad] at l3
  omega
 ·obtain ⟨As,n,ds,R,eu,ok,q,hp,k1⟩:=z
  obtain ⟨l1,hd⟩:=h ds R hp
  have l2:=Ip q
  rw[Ad] at l2
  have l3:=congrArg Fc eu
  rw[Ad,Ad] at l3
  refine ⟨_,hb cdv A outer s H E hr,H,λ_=>False,As.map Xi++Gs (N.length - ps.length),[],⟨args0 ds (N.length - ps.length),0⟩,retE R,?_,?_,λ_ z=>(nomatch z),?_,hd,λδ' S' H' e1 hA p=>?_,λx δ' v F' S' H' e1 hA p=>?_,λ_ _ _ _ _ p=>p.elim,λ_ _ _ _ _ p=>p.elim⟩
  ·unfold vs L2.start Gs
   rw[Be,K4,eu,Mf,show us.length=ps.length by omega]
  ·unfold Sl args0 Gs
   rw[Be,Rr q,Mf]
  ·rw[Ea]
   have hs:=Zg q (N.length - ps.length)
   refine ⟨λe he=>?_,Pt λa ha b hb'=>⟨λhq c hc=>?_,λhq c hc=>?_⟩,λe he a ha=>?_,λb o _ e=>e,λb o e=>⟨o,e⟩,λb hb=>hb.elim⟩
   ·have:=rM q ok (N.length - ps.length) e he
    obtain ⟨v,x,F⟩:=e
    cases x with
    | drw=>exact absurd (hs _ he).2 (by show ¬ (true=false); decide)
    | _=>exact this
   ·rw[(hs a ha).1] at hc; cases hc
   ·rw[(hs b hb').1] at hc; cases hc
   ·rw[(hs e he).1] at ha; cases ha
  ·exact k1 .non .none [] H' p .non Dc (λ_ z=>(nomatch z)) λb o e=>hA.same b o (λz=>z) e
  ·obtain ⟨d,rfl,r⟩:=p
   rw[show S'++[(⟨some v,.dat .ow d,F'⟩ : Ent)]=S'++⟨some v,.dat .ow d,F'⟩::[] from rfl] at hA
   obtain ⟨u,e2,rd,nd,_⟩:=hA.ok _ mem_mid
   cases e2
   refine k1 v d F' H' r rd (nd rfl) (λa ha=>?_) λb o e=>hA.same b o (λz=>z) e
   rcases hA.new _ mem_mid a ha with z | z
   ·exact z
   ·exact z.1.elim
theorem hU{x qual:Str}{st:Stmt}{f:Addr}(F:Fun K x qual st f fd)(S:FnScope N (p0::ps) (Bl st))(hb:∀(cdv:Value) (A:Cr) (outer:List Env) (s:Aj) (H:Hp) (E:XK),Room k (A.deeper (envOfC qual (Bl st) s.heap.objs.size f cdv))->Wx (Ie Ge P w K mg base N qual (Bl st) f cdv A outer s H E).nox (Iv st) db)(h:∀ds n R,df ds n R->ds.length=ps.length/\db (retW n R) ⟨.drw::args0 ds (N.length - (p0::ps).length),n⟩):FnOk P w K mg base Ge (k+1) f fd (p0::ps) (mL K df):=by
 refine F.ok S (λvs H Q E z=>?_) λcdv A outer s H us Q E hr z=>?_
 ·obtain ⟨dr,ws,As,n,ds,R,rfl,eu,ok,nd,hdr,q,hp,_⟩:=z
  have l1:=(h ds n R hp).1
  have l2:=Ip q
  rw[Ad] at l2
  have l3:=congrArg Fc eu
  rw[Ad,Ad] at l3
  rw[Bs,Bs]
  omega
 ·obtain ⟨dr,ws,As,n,ds,R,rfl,eu,ok,ndr,hdr,q,hp,k1⟩:=z
  obtain ⟨l1,hd⟩:=h ds n R hp
  have l2:=Ip q
  rw[Ad] at l2
  have l3:=congrArg Fc eu
  rw[Ad,Ad] at l3
  -- what the end tells of the draws: they stand in an old cell
  have ends:∀{E':List Ent} {n':Nat} {H':Hp},At K H (·=dr) n' E' H'->∀b o,b≠dr->H b=some o->H' b=some o:=λhA b o nb e=>hA.same b o nb e
  refine ⟨_,hb cdv A outer s H E hr,H,(·=dr),⟨some (.ref dr),.drw,[dr]⟩::(As.map Xi++Gs (N.length - (p0::ps).length)),[],⟨.drw::args0 ds (N.length - (p0::ps).length),n⟩,retW n R,?_,?_,λ_ z=>(nomatch z),?_,hd,λδ' S' H' e1 hA p=>?_,λx δ' v F' S' H' e1 hA p=>?_,λ_ _ _ _ _ p=>p.elim,λ_ _ _ _ _ p=>p.elim⟩
  ·unfold vs L2.start Gs
   rw[Aw,Be,K4,eu,Mf,Bs,Bs,show ws.length=ps.length by omega]
   rfl
  ·unfold Sl args0 Gs
   rw[Aw,Be,Rr q,Mf]
  ·rw[Ea]
   have hs:=Zg q (N.length - (p0::ps).length)
   have hsub:∀e∈As.map Xi++Gs (N.length - (p0::ps).length),dr∉e.F:=λe he=>by
    rcases Ay.mp he with he | he
    ·obtain ⟨f,hf,rfl⟩:=Bt.mp he
     obtain ⟨v,x,F⟩:=f
     have:=ndr _ hf
     cases x <;> exact this
    ·rw[(Hd.mp he).2]
     exact Av
   refine ⟨λe he=>?_,Bb.mpr ⟨λb hb'=>⟨λhq c hc=>?_,λhq c hc=>?_⟩,Pt λa ha b hb'=>⟨λhq c hc=>?_,λhq c hc=>?_⟩⟩,λe he a ha=>?_,λb o _ e=>e,λb o e=>⟨o,e⟩,λb hb=>?_⟩
   rotate_right
   ·subst hb
    obtain ⟨c,kk,fl,z1,z2⟩:=hdr
    exact ⟨λz=>(by rw[show H b=some _ from z1] at z; cases z),c,kk,fl,z1,z2⟩
   ·rcases Ag.mp he with rfl | he
    ·obtain ⟨c,kk,fl,z1,z2,z3⟩:=hdr
     exact ⟨dr,c,kk,fl,rfl,rfl,z1,z2,z3⟩
    ·exact rM q ok _ e he
   ·rw[Af.mp hc]
    exact hsub b hb'
   ·rw[(hs b hb').1] at hc; cases hc
   ·rw[(hs a ha).1] at hc; cases hc
   ·rw[(hs b hb').1] at hc; cases hc
   ·rcases Ag.mp he with rfl | he
    ·rw[Af.mp ha]
     exact .inr ⟨rfl,rfl⟩
    ·rw[(hs e he).1] at ha; cases ha
  ·exact k1 .non .none [] δ'.n H' p.1 p.2 .non Dc (λ_ z=>(nomatch z)) (hA.xd dr rfl).2 (ends hA)
  ·obtain ⟨hn,d,rfl,r⟩:=p
   rw[show S'++[(⟨some v,.dat .ow d,F'⟩ : Ent)]=S'++⟨some v,.dat .ow d,F'⟩::[] from rfl] at hA
   obtain ⟨u,e2,rd,nd,_⟩:=hA.ok _ mem_mid
   cases e2
   refine k1 v d F' δ'.n H' hn r rd (nd rfl) (λa ha=>?_) (hA.xd dr rfl).2 (ends hA)
   rcases hA.new _ mem_mid a ha with z | z
   ·exact z
   ·cases z.2
end
end DL
namespace L2
open PySem PySem.Spec PyProof.Rows
def vF(H:Hp):Prop:=∀b,H b=none\/(∃o xs,H b=some (.frz o (.lst xs)))\/∃ps,H b=some (.tbl ps)
def kU(tabs:List (Addr×Addr×Str))(H:Hp):Hp:=λb=>match tabs.find? (λr=>r.2.1 == b) with | some t=>some (.tbl #[.str t.2.2 0]) | none=>H b
theorem Ul(h:tabs.find? (λr=>r.2.1 == b)=some t):kU tabs H b=some (.tbl #[.str t.2.2 0]):=by unfold kU; rw[h]
theorem Ly(h:tabs.find? (λr=>r.2.1 == b)=none):kU tabs H b=H b:=by unfold kU; rw[h]
def fV(q:Bq)(K:PySem.W.Frag):Prop:=∃tabs:List (Addr×Addr×Str),(∀t∈tabs,∃x d,(recsOf q).find? (λe=>e.name == x)=some d/\PySem.W.tabIn K x=some (t.1,t.2.1))/\(∀t∈tabs,∀t'∈tabs,t.2.1=t'.2.1->t=t') /\
 (∀x∈Vi,∀c P,PySem.W.tabIn K x=some (c,P)->(c,P,U9 x)∈tabs)/\∀t∈tabs,K.lookup t.2.1=none
theorem x6(hx:x∈Vi):x = "often" \/ x = "cut_by" := by
 rcases Ag.mp hx with h | hx
 ·exact .inl h
 ·exact .inr (Af.mp hx)
theorem uO{K:PySem.W.Frag}(h1:PySem.W.tabIn K "often" = none)(h2:PySem.W.tabIn K "cut_by" = none):fV q K:=by
 refine ⟨[],λ_ z=>(nomatch z),λ_ z=>(nomatch z),λx hx c P e=>?_,λ_ z=>(nomatch z)⟩
 rcases x6 hx with rfl | rfl
 ·rw[h1] at e; cases e
 ·rw[h2] at e; cases e
theorem tJ{P:Bq}{w:World}{K:PySem.W.Frag}{mg mb:Str->Option Value}{CX:pZ}{k:Nat}{fa a:Addr}(tabs:List (Addr×Addr×Str))(hT:∀t∈tabs,PySem.W.CodeHd s₁.heap t.1 t.2.1/\s₁.heap.get? t.2.1=some (PySem.W.tabObj #[]))(hu:∀t∈tabs,∀t'∈tabs,t.2.1=t'.2.1->t=t')(hL:∀x∈Vi,∀c P,PySem.W.tabIn K x=some (c,P)->(c,P,U9 x)∈tabs)(hnt:∀t∈tabs,K.lookup t.2.1=none)(hbm:∃bm ob,mg "__builtins__" = some (.ref bm)/\bm≠Vb/\s₁.heap.get? bm=some ob/\ob.cls=.type "module" /\ ob.dict=some Vb/\ob.data=.plain)(KX:K.In s₁.heap)(hns:s₁.heap.Ns Ci mg)(hb:s₁.heap.Ns Vb mb)(hbb:∀x:Str,x ≠ "__name__" -> mb x=Js x)(hlim:s₁.heap.NoLimit)(hg:s₁.gens=#[])(ha:s₁.heap.get? a=some { cls:=.type "list",data:=.seq vs.toArray })(hi:Ki vs ns)(hl:ns.length<=Au)(hr:Room k Zb)(F:∀base:Heap,K.In base->base.Ns Ci mg->FnOk P w K mg base CX k fa fd [x] sp)(hbind:∀(s:Aj) (u:Value),BindsTo s fd ⟨[u],[]⟩ [(x,u)])(hsp:∀H:Hp,vF H->DL.KL K H a (ns.map V.int)->sp [.ref a] H (λv _=>v=.bl true) λ_ _ _=>False)(hCX:∀H e s',CX [] H s₁ (λ_ _ _=>False) e s'->False):Oj (model P w) Zb (.call (.ref fa) ⟨[.ref a],[]⟩) (λr s'=>r=.ok (.ret (.bool true))/\OldK s₁.heap s'.heap/\s'.os=s₁.os/\Sj s'.gens) s₁:=by
 have rv:=fF hi
 have lenV:=hi.length
 -- from an abstract heap in which nothing but the script may be tracked
 have core:∀H:Hp,vF H->DL.KL K H a (ns.map V.int)->Wk P w H s₁.heap->(∀b,H b≠none->b=a\/∃t∈tabs,b=t.2.1)->(H a≠none->K.lookup a=none)->(∀t∈tabs,Q0 H t.2.1 t.2.2) ->
   Oj (model P w) Zb (.call (.ref fa) ⟨[.ref a],[]⟩) (λr s'=>r=.ok (.ret (.bool true))/\OldK s₁.heap s'.heap/\s'.os=s₁.os/\Sj s'.gens) s₁:=by
  intro H hO hS hok hA hK hTH
  have base_of:∀{b:Addr} {o:Obj},s₁.heap.get? b=some o->H b=none->(dE s₁.heap H).get? b=some o:=λe n=>yN e n
  have noA:∀{b:Addr} {o:Obj} {es:Array Hy} {ep:Nat},s₁.heap.get? b=some o->o.data=.dict es ep->H b=none:=λ{b o es ep} e d=>by
   cases q:H b with
   | none=>rfl
   | some u =>
    rcases hA b (by rw[q]; simp) with e' | ⟨t,ht,e'⟩
    ·subst e'
     rw[ha] at e; cases e
     have d':Data.seq vs.toArray _=Data.dict es ep:=d
     cases d'
    ·rw[e',(hT t ht).2] at e; cases e
     cases d
  have nsK:∀{b:Addr} {m:Str->Option Value},s₁.heap.Ns b m->(dE s₁.heap H).Ns b m:=λ{b m} ⟨o,es,ep,e,d,r⟩=>⟨o,es,ep,base_of e (noA e d),d,r⟩
  have hKb:K.In (dE s₁.heap H):=λb o e=>base_of (KX b o e) (by
   cases q:H b with
   | none=>rfl
   | some u =>
    rcases hA b (by rw[q]; simp) with e' | ⟨t,ht,e'⟩
    ·subst e'
     rw[hK (by rw[q]; simp)] at e; cases e
    ·rw[e',hnt t ht] at e; cases e)
  have noC:∀{b:Addr} {o:Obj},s₁.heap.get? b=some o->o.cls≠.none->o.cls≠.type "list" -> H b=none:=λ{b o} e d d2=>by
   cases q:H b with
   | none=>rfl
   | some u =>
    rcases hA b (by rw[q]; simp) with e' | ⟨t,ht,e'⟩
    ·subst e'
     rw[ha] at e; cases e
     exact absurd rfl d2
    ·rw[e',(hT t ht).2] at e; cases e
     exact absurd rfl d
  have hTb:zR K mg (dE s₁.heap H) H:=λx hx c P e=>by
   have ht:=hL x hx c P e
   obtain ⟨bm,ob,b1,b2,b3,b4,b5,b6⟩:=hbm
   obtain ⟨⟨o,us,file,tf,flags,tg,inF,text,tt,e1,r1,r2⟩,hP⟩:=hT _ ht
   refine ⟨⟨o,us,file,tf,flags,tg,inF,text,tt,base_of e1 (noC e1 (by rw[r1]; nofun) (by rw[r1]; simp)),r1,r2⟩,⟨bm,ob,b1,b2,λz=>?_,λz=>?_,base_of b3 (noC b3 (by rw[b4]; nofun) (by rw[b4]; simp)),b4,b5,b6⟩,hTH _ ht⟩
   ·obtain ⟨o',es,ep,e',d,_⟩:=hns
    rw[<- z,b3] at e'; cases e'; rw[b6] at d; cases d
   ·have hP:s₁.heap.get? P=_:=hP
    rw[<- z,b3] at hP; cases hP; cases b4
  have hM:Mod K mg (dE s₁.heap H):=⟨hKb,nsK hns,⟨mb,nsK hb,hbb⟩,let ⟨mc,h1,h2⟩:=hlim; ⟨mc,nsK h1,h2⟩⟩
  have e0:Env0 P w K mg (dE s₁.heap H) Zb [] s₁ H:=⟨rfl,hM,λb o e=>F5 e,Nat.le_of_eq (sW _ _),trivial,λb hb=>absurd (show b∈([]:List Addr) from hb) (by simp),hok,.of_eq hg,hTb⟩
  refine codeAny_mono ((F _ hKb (nsK hns)).run Zb [] s₁ H ⟨[.ref a],[]⟩ [.ref a] [.ref a] _ _ hr e0 (hbind s₁ (.ref a)) (.cons rfl .nil) (hsp H hO hS)) λr s' h=>?_
  cases r with
  | error e=>exact (hCX H e s' h).elim
  | ok fl =>
   cases fl with
   | next=>exact Ka h
   | brk=>exact Ka h
   | cont=>exact Ka h
   | ret u =>
    obtain ⟨v,H',os,bare,un,hok',r',q⟩:=h
    have q':v=.bl true:=q
    subst q'
    obtain rfl:u=Value.bool true:=r'
    have old:∀b o,s₁.heap.get? b=some o->s'.heap.get? b=some o\/∃t∈tabs,b=t.2.1:=λb o e=>by
     cases q:H b with
     | none=>exact .inl (un.keep b o e q (by intro z; exact absurd (show b∈([]:List Addr) from z) (by simp)) (by simp))
     | some u =>
      rcases hO b with z | ⟨ob,xs,z⟩ | ⟨ps,z⟩
      ·rw[q] at z; cases z
      ·have z2:=un.frzs b ob _ z
       obtain ⟨e1,_⟩:=hok b _ z
       obtain ⟨e2,_⟩:=hok' b _ z2
       rw[e] at e1; cases e1
       exact .inl e2
      ·rcases hA b (by rw[q]; simp) with e' | h'
       ·obtain ⟨_,e1,_⟩:=hok b _ z
        rw[e',ha] at e1; cases e1
       ·exact .inr h'
    have grown:∀t∈tabs,∃ps,s'.heap.get? t.2.1=some (PySem.W.tabObj ps):=λt ht=>by
     obtain ⟨ps,t0,h3,_⟩:=hTH t ht
     obtain ⟨more,h5⟩:=un.tbls _ _ h3
     obtain ⟨qs,e1,_⟩:=hok' _ _ h5
     exact ⟨qs,e1⟩
    refine ⟨rfl,⟨λb o e=>?_,λb o e=>?_⟩,os,bare⟩
    ·rcases old b o e with z | ⟨t,ht,rfl⟩
     ·exact .inl z
     ·obtain ⟨ps,hP⟩:=grown t ht
      have e2:=(hT t ht).2
      rw[e] at e2
      cases e2
      exact .inr (.inl ⟨((hT t ht).1.tab (hT t ht).2).isCodeTable,rfl,#[],ps,rfl,by rw[Array.empty_append]; exact hP⟩)
    ·rcases old b o e with z | ⟨t,ht,rfl⟩
     ·exact ⟨_,z⟩
     ·obtain ⟨ps,hP⟩:=grown t ht
      exact ⟨_,hP⟩
 have tabH:∀(t:Addr×Addr×Str),t∈tabs->tabs.find? (λr=>r.2.1 == t.2.1)=some t:=λt ht=>by
  cases q:tabs.find? (λr=>r.2.1 == t.2.1) with
  | none=>exact absurd (List.find?_eq_none.mp q t ht) (by simp)
  | some r=>exact congrArg some (hu r (Qf q) t ht (by have:=List.find?_some q; simpa using this))
 have neA:∀t∈tabs,t.2.1≠a:=λt ht z=>by
  have e:=(hT t ht).2
  rw[z,ha] at e; cases e
 have all:∀H:Hp,(∀b,H b=none\/∃o xs,H b=some (.frz o (.lst xs)))->(∀b,H b≠none->b=a)->(H a≠none->K.lookup a=none)->DL.KL K H a (ns.map V.int)->Wk P w H s₁.heap ->
   Oj (model P w) Zb (.call (.ref fa) ⟨[.ref a],[]⟩) (λr s'=>r=.ok (.ret (.bool true))/\OldK s₁.heap s'.heap/\s'.os=s₁.os/\Sj s'.gens) s₁:=by
  intro H h1 h2 h3 h4 h5
  refine core (kU tabs H) (λb=>?_) ?_ (λb u z=>?_) (λb z=>?_) (λz=>?_) λt ht=>?_
  ·cases q:tabs.find? (λr=>r.2.1 == b) with
   | some t=>exact .inr (.inr ⟨_,Ul q⟩)
   | none =>
    rcases h1 b with z | ⟨o,xs,z⟩
    ·exact .inl (by rw[Ly q]; exact z)
    ·exact .inr (.inl ⟨o,xs,by rw[Ly q]; exact z⟩)
  ·have na:tabs.find? (λr=>r.2.1 == a)=none:=w5.mpr λt ht z=>neA t ht (by simpa using z)
   rcases h4 with ⟨o,h⟩ | h
   ·exact .inl ⟨o,by rw[Ly na]; exact h⟩
   ·exact .inr h
  ·cases q:tabs.find? (λr=>r.2.1 == b) with
   | some t =>
    rw[Ul q] at z
    cases z
    have eb:t.2.1=b:=by have:=List.find?_some q; simpa using this
    exact ⟨#[],by rw[<- eb]; exact (hT t (Qf q)).2,by simp [TriplesOk],λpos v y=>by simp [codeAmong] at y⟩
   | none =>
    rw[Ly q] at z
    rcases h1 b with y | ⟨o,xs,y⟩
    ·rw[z] at y; cases y
    ·rw[z] at y
     cases y
     exact h5 b _ z
  ·cases q:tabs.find? (λr=>r.2.1 == b) with
   | some t=>exact .inr ⟨t,Qf q,by have:=List.find?_some q; exact (by simpa using this : t.2.1=b).symm⟩
   | none =>
    rw[Ly q] at z
    exact .inl (h2 b z)
  ·have na:tabs.find? (λr=>r.2.1 == a)=none:=w5.mpr λt ht z=>neA t ht (by simpa using z)
   rw[Ly na] at z
   exact h3 z
  ·exact ⟨#[.str t.2.2 0],0,Ul (tabH t ht),rfl⟩
 cases hk:K.lookup a with
 | some o =>
  -- the script is one of the module's own objects
  have e:=KX a o hk
  rw[ha] at e
  cases e
  exact all (λ_=>none) (λ_=>.inl rfl) (λb z=>absurd rfl z) (λz=>absurd rfl z) (.inr ⟨vs.toArray,_,hk,by rw[Ar,lenV]; exact hl,by simpa using rv⟩) (λb u z=>by have z':(none:Option HO)=some u:=z; cases z')
 | none =>
  refine all (λb=>if b=a then some (.frz { cls:=.type "list",data:=.seq vs.toArray } (.lst (ns.map V.int))) else none) (λb=>?_) (λb z=>?_) (λ_=>hk) (.inl ⟨{ cls:=.type "list",data:=.seq vs.toArray },if_pos rfl⟩) (λb u z=>?_)
  ·by_cases hb:b=a
   ·exact .inr ⟨_,_,if_pos hb⟩
   ·exact .inl (if_neg hb)
  ·by_cases hb:b=a
   ·exact hb
   ·exact absurd (if_neg hb) z
  ·by_cases hb:b=a
   ·have z':=(if_pos hb).symm.trans z
    cases z'
    subst hb
    exact ⟨ha,by rw[Ad]; exact hl,vs,_,rv,ha⟩
   ·have z':=(if_neg hb).symm.trans z
    cases z'
theorem walk_ofD{l:PySem.W.OpenLaw}{n k:Nat}{q:Bq}{loose:List Str}{XP:(Str->Option Value)->Heap->Prop}{K:Params->PySem.W.Frag}{CX:World->pZ}{sp:World->Sp}(hn:l.most=some n)(hn2:n<=Au)(hdf:d.params.defaults=[])(hr:Room k Zb)(hY:∀(w:World) (h:Heap),YP w h->(K w.params).In h)(F:∀(w:World) (mg:Str->Option Value) (fa:Addr) (h:Heap),(K w.params).In h->h.Ns Ci mg->mg d.name=some (.ref fa)->(fV q (K w.params))/\∃fd:Cg,(∀(s:Aj) (u:Value),BindsTo s fd ⟨[u],[]⟩ [(x,u)])/\∀base:Heap,(K w.params).In base->base.Ns Ci mg->FnOk l.prog w (K w.params) mg base (CX w) k fa fd [x] (sp w))(hsp:∀(w:World) (H:Hp) (a:Addr) (ns:List Int),ns.length<=n->vF H->DL.KL (K w.params) H a (ns.map V.int)->sp w [.ref a] H (λv _=>v=.bl true) λ_ _ _=>False)(hCX:∀(w:World) (H:Hp) (s:Aj) (e:Value) (s':Aj),CX w [] H s (λ_ _ _=>False) e s'->False):PySem.W.WalkO q loose XP YP l.row.toRowW d [] (λf vs=>PySem.call f vs):=by
 refine Att.attach_call hn hdf λw s₀ s₁ mg mb fa o pm cd doc a vs ns G Y ho hd hcd hmg hobj hints hlen hg=>?_
 have KX:=hY w _ Y
 obtain ⟨⟨tabs,t1,t2,t3,t4⟩,fd,hb,hF⟩:=F w mg fa _ KX G.T.g hmg
 exact tJ tabs (λt ht=>by
  obtain ⟨x,d,h1,h2⟩:=t1 t ht
  exact PySem.W.tab_of G.T KX h1 h2) t2 t3 t4 G.T.bmain KX G.T.g G.T.b G.T.builtins G.T.nolimit hg hobj hints (Bz hlen hn2) hr hF hb (λH hO hS=>hsp w H a ns hlen hO hS) λH e s'=>hCX w H s₁ e s'
end L2
namespace DL
open PySem PySem.Spec PyProof.Rows L2 Nd
def npk:List DV->Bool
 | []=>true
 | .dat .pk _::_=>false
 | _::xs=>npk xs
theorem bF:∀{S:List Ent} {sl:List DV},S.map Ent.x=sl->npk sl=true->∀e∈S,Lh e.x=false
 | [],_,_,_,e,he=>nomatch he
 | ⟨v,x,F⟩::S,_,h,hn,e,he=>by
  subst h
  rw[Aw] at hn
  have : Lh x=false/\npk (S.map Ent.x)=true:=by
   cases x with
   | dat m d=>cases m <;> first | exact ⟨rfl,hn⟩ | cases hn
   | _=>exact ⟨rfl,hn⟩
  rcases Ag.mp he with rfl | he
  ·exact this.1
  ·exact bF rfl this.2 e he
def own1:Md->Bool
 | .ow=>true
 | .tp=>true
 | _=>false
section
variable{K:PySem.W.Frag}{H0 H:Hp}{X:Addr->Prop}{n:Nat}{E:List Ent}
theorem At.write(h:At K H0 X n (⟨v,.dat m (.list ds),a::F⟩::E) H)(ho:own1 m=true)(hv:v=some (.ref a))(np:∀e∈E,Lh e.x=false)(r:RdFs K H ys es G)(hG:G.Sublist F)(hz:es.length<=Au):At K H0 X n (⟨v,.dat m (.list es),a::G⟩::E) (upd H a (.lst ys)):=by
 obtain ⟨w,e1,rd,hn,ht⟩:=h.ok _ Ab
 obtain ⟨b,xs,G0,e2,ha,ra,eF,_⟩:=rd.list_inv
 have eF':a::F=b::G0:=eF
 cases eF'
 have hs:=Bb.mp h.sep
 have naF:a∉F:=by
  cases m with
  | ow=>exact (Bx.mp (hn rfl)).1
  | tp=>exact ht rfl a F rfl
  | sh=>cases ho
  | pk=>cases ho
 have ca:a∈cells ⟨v,.dat m (.list ds),a::F⟩:=by
  cases m <;> first | exact Ab | cases ho
 have kp:∀{F':List Addr},a∉F'->Kp F' H (upd H a (.lst ys)):=λ{F'} hF b o q z=>by
  have : b≠a:=by
   rintro rfl
   rw[ha] at q
   cases q
   rcases z with z | z
   ·exact hF z
   ·rcases z with ⟨_,z⟩ | ⟨_,_,z⟩ <;> cases z
  rw[Cz this]
  exact q
 have n0:H0 a=none:=by
  rcases h.new _ Ab a ca with z | z
  ·exact z
  ·cases z.2
 have cs:∀c∈cells ⟨v,.dat m (.list es),a::G⟩,c∈cells ⟨v,.dat m (.list ds),a::F⟩:=λc hc=>by
  cases m with
  | ow =>
   rcases Ag.mp hc with z | z
   ·exact Ag.mpr (.inl z)
   ·exact Ag.mpr (.inr (hG.subset z))
  | tp=>exact hc
  | sh=>cases ho
  | pk=>cases ho
 have hsub:∀c∈a::G,c∈a::F:=λc hc=>by
  rcases Ag.mp hc with z | z
  ·exact Ag.mpr (.inl z)
  ·exact Ag.mpr (.inr (hG.subset z))
 have naG:a∉G:=λz=>naF (hG.subset z)
 refine ⟨λf hf=>?_,?_,λf hf=>?_,λb o nx q=>?_,λb o q=>?_,λb hb=>?_⟩
 ·rcases Ag.mp hf with rfl | hf
  ·refine ⟨.ref a,hv,.lst Co hz (r.kp (kp naG)),λz=>?_,λz c l e=>?_⟩
   ·exact Bx.mpr ⟨naG,(Bx.mp (hn z)).2.sublist hG⟩
   ·cases e
    exact naG
  ·exact (h.ok f (Ae _ hf)).kp (kp ((hs.1 f hf).1 (.inl (np f hf)) a ca)) (Ak _)
 ·refine Bb.mpr ⟨λf hf=>⟨λhq c hc=>(hs.1 f hf).1 (.inl (np f hf)) c (cs c hc),λhq c hc z=>(hs.1 f hf).2 (.inl ?_) c hc (hsub c z)⟩,hs.2⟩
  cases m <;> first | rfl | cases ho
 ·rcases Ag.mp hf with rfl | hf
  ·exact λc hc=>h.new _ Ab c (cs c hc)
  ·exact h.new f (Ae _ hf)
 ·rw[Cz (Dx q n0)]
  exact h.same b o nx q
 ·rw[Cz (Dx q n0)]
  exact h.dom b o q
 ·obtain ⟨z,c,k,f,h1,h2⟩:=h.xd b hb
  refine ⟨z,c,k,f,(Cz ?_).trans h1,h2⟩
  rintro rfl
  exact z n0
end
theorem Ji{α:Type}:∀{l:List α} {i:Nat} {x:α},l[i]? = some x->l.Perm (x::l.eraseIdx i)
 | [],i,x,h=>by simp at h
 | z::l,0,x,h=>by
  simp at h
  subst h
  exact List.Perm.refl _
 | z::l,i+1,x,h=>by
  have ih:=Ji (l:=l) (i:=i) (x:=x) (by simpa using h)
  rw[Rb]
  exact (ih.cons z).trans (Fe x z _)
theorem Nn{α:Type}{l:List α}{x y:α}(h:l[i]? = some x):(l.set i y).Perm (y::l.eraseIdx i):=by
 have hlt:=(Ap.mp h).1
 have q:=Ji (l:=l.set i y) (i:=i) (x:=y) (by rw[Hr]; simp [hlt])
 rw[List.eraseIdx_set_eq] at q
 exact q
theorem oH{K:PySem.W.Frag}{H0 H:Hp}(hS:Sl S δ)(hT:∀e∈T,Lh e.x=false)(hA:At K H0 X δ.n (S++T) H)(hi:δ.sl[i]? = some (.dat m (.list ds)))(ho:own1 m=true)(np:npk δ.sl=true):∃a xs G,(vs S)[i]? = some (some (.ref a))/\H a=some (.lst xs)/\RdFs K H xs ds G/\ds.length<=Au/\∀ys G',RdFs K H ys es G'->G'.Sublist G->es.length<=Au->∃S',vs S'=vs S/\Sl S' ⟨δ.sl.set i (.dat m (.list es)),δ.n⟩/\At K H0 X δ.n (S'++T) (upd H a (.lst ys)):=by
 obtain ⟨ent,e2,e3⟩:=Hk hS hi
 have hm:ent∈S:=Ax e2
 obtain ⟨u,x,F⟩:=ent
 have e3':x=.dat m (.list ds):=e3
 subst e3'
 obtain ⟨v,hv,rd,_⟩:=hA.ok _ (An _ hm)
 obtain ⟨a,xs,G,rfl,ha,ra,eF,hz⟩:=rd.list_inv
 have eF':F=a::G:=eF
 subst eF'
 refine ⟨a,xs,G,by rw[Ls e2]; exact congrArg some hv,ha,ra,hz,λys G' r hG hz'=>?_⟩
 have hn:=bF hS np
 have pm:(S++T).Perm (⟨u,.dat m (.list ds),a::G⟩::(S.eraseIdx i++T)):=by
  exact (Ji e2).append_right T
 have h1:=(hA.perm pm).write (es:=es) (ys:=ys) ho hv (λe he=>?_) r hG hz'
 ·refine ⟨S.set i ⟨u,.dat m (.list es),a::G'⟩,?_,?_,h1.perm ?_⟩
  ·unfold vs
   rw[Et]
   apply Ht
   intro j
   rw[Hr]
   split
   ·rename_i hij
    subst hij
    rw[Bf,e2]
    split
    ·rfl
    ·rename_i hj
     rw[Ad] at hj
     exact absurd (Ap.mp e2).1 hj
   ·rfl
  ·unfold Sl at hS ⊢
   rw[Et,hS]
  ·exact ((Nn e2).append_right T).symm
 ·rcases Ay.mp he with he | he
  ·exact hn e ((Mq S i).subset he)
  ·exact hT e he
def iG(i:Nat)(de:DE):DB:=λD δ=>match δ.sl[i]? with
 | some (.dat _ (.list _))=>de δ λy δ1=>match δ1.sl[i]?,y with
  | some (.dat m (.list ds)),.dat _ e=>own1 m=true/\npk δ1.sl=true/\imm e=true/\ds.length<1000000/\D.nx ⟨δ1.sl.set i (.dat m (.list (ds++[e]))),δ1.n⟩
  | _,_=>False
 | _=>False
section
variable{X:Cx}{o e:Expr}{de:DE}{apos cpos pos:Pos}{i:Nat}
theorem eR(ho:PE X o (bX i))(he:Er X e de)(hbase:Th o "append" X.env (eval o X.env)=eval o X.env:=by rfl)
  (hfew:((Gw cpos (Bp [e] X.env)).all (λx=>!x.1) && (backToKw cpos (Yp [] X.env)).all (λx=>x.1.isSome)
   && decide (([e]:List Expr).length+([]:List Sh).length+(if ([]:List Sh).isEmpty then 0 else 1)<30))=true:=by rfl)
  (hline:(apos.endLine == cpos.line)=true:=by rfl) (hs:Bp [e] X.env=(false,eval e X.env)::Bp [] X.env:=by rfl) (hplain:(Gw cpos (Bp [] X.env)).any (·.1)=false:=by rfl)
  (hsw:Kb (.Call (.Attribute o "append" apos) [e] [] cpos) none pos.line X.env=pure false:=by rfl) :
  rJ X (.Expr (.Call (.Attribute o "append" apos) [e] [] cpos) pos) (iG i de):=by
 refine PS.impD (sL (N8 PySem.F.plainAttrs_list PySem.F.slot_list_append PySem.F.type_list_append Qa ho (Gv he Kq hs) hbase hfew hline hs hplain) hsw) λD σ H h=>?_
 obtain ⟨H0,Y,S,T,δ,P,rfl,hS,hT,hA,hd,k1,k2,k3,k4⟩:=h
 unfold iG at hd
 split at hd
 case h_2=>exact hd.elim
 rename_i m0 ds0 hsl
 obtain ⟨ent,e2,e3⟩:=Hk hS hsl
 have hm:ent∈S:=Ax e2
 obtain ⟨u,x,F⟩:=ent
 have e3':x=.dat m0 (.list ds0):=e3
 subst e3'
 obtain ⟨v,hv,rd,_⟩:=hA.ok _ (An _ hm)
 obtain ⟨a,xs,G,rfl,ha,ra,eF,hz⟩:=rd.list_inv
 refine ⟨.ref a,by rw[Ls e2]; exact congrArg some hv,.inl ⟨rfl,xs,Mc.of ha⟩,H0,Y,S,T,δ,_,rfl,hS,hA,hd,λy δ1 w F1 S1 H1 e4 e5 hA1 p1=>?_⟩
 split at p1
 ·rename_i m ds m' e' hsl1
  obtain ⟨p1,p2,p3,p4,p5⟩:=p1
  have r:=hA1.told mem_mid
  obtain rfl:=r.imm p3
  obtain ⟨b,xs1,G1,g1,g2,g3,g4,g5⟩:=oH (es:=ds++[e']) e5 hT hA1.drop hsl1 p1 p2
  rw[e4,Ls e2] at g1
  have : some (V.ref b)=some (V.ref a):=(Bn g1).symm.trans hv
  cases this
  obtain ⟨S2,h1,h2,h3⟩:=g5 (xs1++[w]) (G1++[]) (g3.snoc r) (by rw[Ea]; exact Cq _) (by rw[Bo]; exact mC (by simp; omega))
  have hl:=g3.len
  refine ⟨a,xs1,w,rfl,rfl,g2,Cc (by omega) (mC (n:=1000000) (Ak _)),?_⟩
  rw[<- e4,<- h1]
  exact k1 ⟨_,_⟩ S2 _ h2 h3 p5
 ·exact p1.elim
end
def spLawD(K:PySem.W.Frag):Sp:=λus H Q _=>∃(a:Addr) (ns:List Int),us=[.ref a]/\KL K H a (ns.map V.int)/\ns.length<=63/\∀H',Q (.bl true) H'
def retL:DEnds where
 nx:=λ_=>False
 rt:=λx _=>∃m,x=.dat m (.bool true)
section
variable{P:Bq}{w:World}{K:PySem.W.Frag}{mg:Str->Option Value}{base:Heap}
theorem Y6{x qual p0:Str}{st:Stmt}(F:Fun K x qual st f fd)(S:FnScope N [p0] (Bl st))(hb:∀(cdv:Value) (A:Cr) (outer:List Env) (s:Aj) (H:Hp) (E:XK),Room k (A.deeper (envOfC qual (Bl st) s.heap.objs.size f cdv))->Wx (Ie Ge P w K mg base N qual (Bl st) f cdv A outer s H E).nox (Iv st) db)(h:∀ns:List Int,ns.length<=63->db retL ⟨.scr ns::By (N.length - 1) .un,0⟩):FnOk P w K mg base Ge (k+1) f fd [p0] (spLawD K):=by
 refine F.ok S (λvs H Q E z=>?_) λcdv A outer s H us Q E hr z=>?_
 ·obtain ⟨a,ns,rfl,_⟩:=z
  rfl
 ·obtain ⟨a,ns,rfl,hK,h63,k1⟩:=z
  refine ⟨_,hb cdv A outer s H E hr,H,λ_=>False,⟨some (.ref a),.scr ns,[]⟩::Gs (N.length - 1),[],⟨.scr ns::By (N.length - 1) .un,0⟩,retL,?_,?_,λ_ z=>(nomatch z),?_,h ns h63,λδ' S' H' e1 hA p=>p.elim,λx δ' v F' S' H' e1 hA p=>?_,λ_ _ _ _ _ p=>p.elim,λ_ _ _ _ _ p=>p.elim⟩
  ·unfold vs L2.start Gs
   rw[Aw,Mf]
   rfl
  ·unfold Sl Gs
   rw[Aw,Mf]
  ·rw[Ea]
   have hc:∀e∈(⟨some (.ref a),.scr ns,[]⟩::Gs (N.length - 1):List Ent),cells e=[]:=λe he=>by
    rcases Ag.mp he with rfl | he
    ·rfl
    ·rw[(Hd.mp he).2]
     rfl
   refine ⟨λe he=>?_,Pt λa ha b hb'=>⟨λhq c z=>?_,λhq c z=>?_⟩,λe he a ha=>?_,λb o _ e=>e,λb o e=>⟨o,e⟩,λb hb=>hb.elim⟩
   ·rcases Ag.mp he with rfl | he
    ·exact ⟨a,rfl,rfl,hK,h63⟩
    ·rw[(Hd.mp he).2]
     exact (rfl:([]:List Addr)=[])
   ·rw[hc a ha] at z; cases z
   ·rw[hc b hb'] at z; cases z
   ·rw[hc e he] at ha; cases ha
  ·obtain ⟨m,rfl⟩:=p
   rw[show S'++[(⟨some v,.dat m (.bool true),F'⟩ : Ent)]=S'++⟨some v,.dat m (.bool true),F'⟩::[] from rfl] at hA
   obtain ⟨rfl,_⟩:=(hA.told mem_mid).bl_inv
   exact k1 H'
end
def nV(i:Nat)(dl dh:DO):DE:=λδ P=>match δ.sl[i]? with
 | some (.scr ns)=>dl δ λl δ2=>dh δ2 λh δ3=>P (.dat .ow (.list ((Ml ns l h).map Ai))) δ3
 | _=>False
def FJ(i:Nat)(de:DE):DE:=λδ P=>match δ.sl[i]? with
 | some (.scr ns)=>de δ λy δ1=>match y with
  | .dat _ (.list es)=>Dw es=true/\ns.length+es.length<=1000000/\P (.dat .ow (.list (ns.map Ai++es))) δ1
  | _=>False
 | _=>False
section
variable{X:Cx}{e b:Expr}{de:DE}{lo hi:Option Expr}{dl dh:DO}{pos p2:Pos}{i:Nat}
theorem Z5{K:PySem.W.Frag}(hS:Sl S δ)(hA:At K H0 Y δ.n (S++T) H)(hi:δ.sl[i]? = some (.scr ns)):∃a,(vs S)[i]? = some (some (.ref a))/\(⟨some (.ref a),.scr ns,[]⟩ : Ent)∈S/\KL K H a (ns.map V.int)/\ns.length<=63:=by
 obtain ⟨ent,e2,e3⟩:=Hk hS hi
 have hm:ent∈S:=Ax e2
 obtain ⟨u,x,F⟩:=ent
 have e3':x=.scr ns:=e3
 subst e3'
 obtain ⟨a,h1,h2,h3⟩:=hA.ok _ (An _ hm)
 have h1':u=some (.ref a):=h1
 have h2':F=[]:=h2
 subst h1' h2'
 exact ⟨a,by rw[Ls e2],hm,h3⟩
theorem yR(he:PE X e (bX i))(hl:AL X lo dl)(hh:AL X hi dh):Er X (.Subscript e (.Slice lo hi none p2) pos) (nV i dl dh):=by
 refine PE.imp (kH (r:=X1 X.K) K1 he hl hh) λσ H Q h=>?_
 obtain ⟨H0,Y,S,T,δ,P,rfl,hS,hA,hd,k⟩:=h
 unfold nV at hd
 split at hd
 case h_2=>exact hd.elim
 rename_i ns hsl
 obtain ⟨a,ha,hm,hK,h63⟩:=Z5 hS hA hsl
 have hA0:At X.K H0 Y δ.n (S++⟨some (.ref a),.scr ns,[]⟩::T) H:=(At.view1 hA (An _ hm)).tomid
 refine ⟨.ref a,ha,H0,Y,S,⟨some (.ref a),.scr ns,[]⟩::T,δ,_,rfl,hS,hA0,hd,λl δ2 S2 H2 e3 e4 hA2 p2=>?_⟩
 refine ⟨H0,Y,S2,⟨some (.ref a),.scr ns,[]⟩::T,δ2,_,e3,e4,hA2,p2,λh δ3 S3 H3 e5 e6 hA3 p3=>?_⟩
 obtain ⟨a',h1,_,hK3,_⟩:=hA3.ok _ mem_mid
 cases h1
 refine ⟨a,_,rfl,hK3.sq,λp hp=>?_⟩
 have : cC (ns.map V.int) l h=(Ml ns l h).map V.int:=by
  rw[<- wW]; rfl
 rw[this]
 refine k _ δ3 _ _ S3 _ e5 e6 (hA3.drop.newI (RdFs.ints _) (Oo _) ?_ hp .ow) p3
 rw[Ad]
 have l1:=(Rp ns l h).length_le
 exact sz (by omega)
end
def Py(p:Nat)(dc:DT)(de:DE)(δ:DS)(yes:Ac->Nat->Prop)(no:Nat->Prop):Prop:=dc δ λb δ2=>match b with
 | true=>de δ2 λy δ3=>match y with
  | .dat _ e=>imm e=true/\δ3.sl[p]? = some .drw/\yes e δ3.n
  | _=>False
 | false=>δ2.sl[p]? = some .drw/\no δ2.n
def gL(di:DI)(js1:List Nat)(j0:Nat)(js2:List Nat)(dc:DT)(de:DE):DE:=λδ P=>di δ λm ds δ1=>δ1.sl[j0]? = some .drw/\∃I:Nat->List Ac->Nat->Prop,I 0 [] δ1.n /\
 (∀i d acc n,ds[i]? = some d->I i acc n->Py (js1.length+1) dc de ⟨.dat m d::(frD (δ1.sl.set j0 .un) js1++.drw::frD (δ1.sl.set j0 .un) js2),n⟩ (λe n'=>I (i+1) (acc++[e]) n') (λn'=>I (i+1) acc n')) /\
 ∀acc n,I ds.length acc n->P (.dat .ow (.list acc)) ⟨δ1.sl,n⟩
section
variable{K:PySem.W.Frag}{H0 H H':Hp}{Y:Addr->Prop}{n n':Nat}{E S T:List Ent}
theorem At.re(h:At K H0 Y n E H)(ok:∀e∈E,Gu K H' n' e)(s:∀b o,¬ Y b->H0 b=some o->H' b=some o)(dm:∀b o,H0 b=some o->∃o',H' b=some o')(xd:∀b,Y b->H0 b≠none/\∃c k f,bU H' b c k f/\0<=k/\k<=(n':Int)):At K H0 Y n' E H':=⟨ok,h.sep,h.new,s,dm,xd⟩
theorem zD{p:Nat}(hA:At K H0 Y n E H)(hE:∀e∈S',e∈E)(hS:Sl S' δ)(hp:δ.sl[p]? = some .drw)(hv:(vs S')[p]? = some (some (.ref dr))):Gu K H n ⟨some (.ref dr),.drw,[dr]⟩:=by
 obtain ⟨ent,e2,e3⟩:=Hk hS hp
 have hm:ent∈S':=Ax e2
 rw[Ls e2] at hv
 obtain ⟨u,x,F⟩:=ent
 have e3':x=.drw:=e3
 subst e3'
 have hu:u=some (.ref dr):=Bn hv
 subst hu
 obtain ⟨dr',c,k,f,h1,h2,h3⟩:=hA.ok _ (hE _ hm)
 have h1':some (V.ref dr)=some (V.ref dr'):=h1
 cases h1'
 exact ⟨dr,c,k,f,rfl,rfl,h3⟩
theorem j7{p:Nat}{dr:Addr}{dc:DT}{de:DE}{δ:DS}{N1:Hp->Prop}(hS:Sl S δ)(hA:At K H0 Y δ.n (S++⟨some (.ref D),.acc acc,[D]⟩::T) H)(hp:(vs S)[p]? = some (some (.ref dr)))(h:Py p dc de δ yes no)(k1:∀n' H',At K H0 Y n' (⟨some (.ref D),.acc acc,[D]⟩::T) H'->Gu K H' n' ⟨some (.ref dr),.drw,[dr]⟩->no n'->N1 H')(k2:∀e n' v H',At K H0 Y n' (⟨some (.ref D),.acc acc,[D]⟩::T) H'->Gu K H' n' ⟨some (.ref dr),.drw,[dr]⟩->RdF K H' v e []->yes e n'->N2 v H'):LT K dc (vs S) H λc H2=>if c=true then LE K de (vs S) H2 N2 else N1 H2:=by
 refine ⟨H0,Y,S,⟨some (.ref D),.acc acc,[D]⟩::T,δ,_,rfl,hS,hA,h,λb δ2 S2 H2 e1 e2 hA2 p2=>?_⟩
 cases b with
 | false=>exact uK (k1 _ _ (hA2.sub (Cf _ _)) (zD hA2 (λe he=>An _ he) e2 p2.1 (by rw[e1]; exact hp)) p2.2)
 | true =>
  refine pH ⟨H0,Y,S2,⟨some (.ref D),.acc acc,[D]⟩::T,δ2,_,e1,e2,hA2,p2,λy δ3 v F S3 H3 e3 e4 hA3 p3=>?_⟩
  split at p3
  ·have r:=hA3.told mem_mid
   obtain rfl:=r.imm p3.1
   exact k2 _ _ _ _ (hA3.drop.sub (Cf _ _)) (zD hA3 (λe he=>An _ he) e4 p3.2.1 (by rw[e3]; exact hp)) r p3.2.2
  ·exact p3.elim
theorem lJ:∀σ H Q,LE K (gL di js1 j0 js2 dc de) σ H Q->mB (LI K di) (js1++j0::js2) (LT K dc) (LE K de) σ H Q:=by
 intro σ H Q h
 obtain ⟨H0,Y,S,T,δ,P,rfl,hS,hA,hd,k⟩:=h
 refine ⟨H0,Y,S,T,δ,_,rfl,hS,hA,hd,λm ds δ1 J hid S1 H1 e1 e2 hA1 it hz p1=>?_⟩
 obtain ⟨hj,I,h0,hs,hf⟩:=p1
 rw[<- e1]
 obtain ⟨ent,s1,s2⟩:=Hk e2 hj
 have hm':ent∈S1:=Ax s1
 obtain ⟨u,x,F0⟩:=ent
 have s2':x=.drw:=s2
 subst s2'
 obtain ⟨dr,_,_,_,hv0,hF0,_⟩:=hA1.ok _ (An _ hm')
 have hv0':u=some (.ref dr):=hv0
 have hF0':F0=[dr]:=hF0
 subst hv0' hF0'
 intro D hD
 refine ⟨λi q H=>q=ds.length - i/\i<=ds.length/\∃acc n,At K H0 Y n (⟨some (.ref D),.acc acc,[D]⟩::(S1++(hid++T))) H/\acc.length<=i/\I i acc n,⟨ds.length,by simp,Dg _,[],δ1.n,hA1.accNew hD,Ak _,h0⟩,?_⟩
 (intro i q H q_; obtain ⟨rfl,hi,acc,n,hA2,hl,hI⟩ := q_)
 have hid_ok:∀e∈hid,Gu K H n e:=λe he=>hA2.ok e (Ae _ (Al _ (An _ he)))
 by_cases hlt:i<ds.length
 ·refine .inr ⟨it.go H n i hid_ok hlt,λx H' y=>?_⟩
  obtain ⟨s1',d,F,h1,h2,h3⟩:=it.yld H n i x H' hid_ok hlt y
  have hA3:At K H0 Y n ((⟨some (.ref D),.acc acc,[D]⟩::S1)++⟨some x,.dat m d,F⟩::(hid++T)) H':=At.item (S:=⟨some (.ref D),.acc acc,[D]⟩::S1) hA2 s1' h2 h3 it.md it.hd it.np
  -- the draws are taken out of their slot
  have hA4:At K H0 Y n (⟨some (.ref dr),.drw,[dr]⟩::⟨some x,.dat m d,F⟩::⟨some (.ref D),.acc acc,[D]⟩::(S1.set j0 ⟨some (.ref dr),.un,[]⟩++(hid++T))) H':=by
   have q:=hA3.mid.blank (v:=some (.ref dr))
   refine q.perm ?_
   have pS:(⟨some (.ref dr),.un,[]⟩::S1:List Ent).Perm (⟨some (.ref dr),.drw,[dr]⟩::S1.set j0 ⟨some (.ref dr),.un,[]⟩):=Vr s1
   have p2:=pS.append_right (hid++T)
   -- un::x::D::S1.. ~ x::D::un::S1..
   have a1:((⟨some (.ref dr),.un,[]⟩ : Ent)::⟨some x,.dat m d,F⟩::((⟨some (.ref D),.acc acc,[D]⟩::S1)++(hid++T))).Perm (⟨some x,.dat m d,F⟩::⟨some (.ref D),.acc acc,[D]⟩::⟨some (.ref dr),.un,[]⟩::(S1++(hid++T))) :=
    (Fe _ _ _).trans ((Fe _ _ _).cons _)
   have a2:((⟨some x,.dat m d,F⟩ : Ent)::⟨some (.ref D),.acc acc,[D]⟩::⟨some (.ref dr),.drw,[dr]⟩::(S1.set j0 ⟨some (.ref dr),.un,[]⟩++(hid++T))).Perm (⟨some (.ref dr),.drw,[dr]⟩::⟨some x,.dat m d,F⟩::⟨some (.ref D),.acc acc,[D]⟩::(S1.set j0 ⟨some (.ref dr),.un,[]⟩++(hid++T))) :=
    ((Fe _ _ _).cons _).trans (Fe _ _ _)
   exact a1.trans (((p2.cons _).cons _).trans a2)
  have e2':Sl (S1.set j0 ⟨some (.ref dr),.un,[]⟩) ⟨δ1.sl.set j0 .un,n⟩:=nL e2
  have vS:vs (S1.set j0 ⟨some (.ref dr),.un,[]⟩)=vs S1:=by
   rw[pB]
   apply Ht
   intro j
   rw[Hr]
   split
   ·rename_i hij
    subst hij
    rw[Ls s1]
    split
    ·rfl
    ·rename_i hj'
     unfold vs at hj'
     rw[Ad] at hj'
     exact absurd (Ap.mp s1).1 hj'
   ·rfl
  have hsub:∀e∈S1.set j0 ⟨some (.ref dr),.un,[]⟩,e∈(⟨some (.ref dr),.drw,[dr]⟩::⟨some x,.dat m d,F⟩::⟨some (.ref D),.acc acc,[D]⟩::(S1.set j0 ⟨some (.ref dr),.un,[]⟩++(hid++T)):List Ent):=λe he=>Ae _ (Ae _ (Ae _ (An _ he)))
  have hA5:=At.view (S:=S1.set j0 ⟨some (.ref dr),.un,[]⟩) hA4 hsub js2
  have hA5':=At.view (S:=S1.set j0 ⟨some (.ref dr),.un,[]⟩) hA5 (λe he=>Al _ (hsub e he)) js1
  have hA6:At K H0 Y n ((⟨some x,.dat m d,F⟩::(Zl (S1.set j0 ⟨some (.ref dr),.un,[]⟩) js1++⟨some (.ref dr),.drw,[dr]⟩::Zl (S1.set j0 ⟨some (.ref dr),.un,[]⟩) js2))++⟨some (.ref D),.acc acc,[D]⟩::(S1.set j0 ⟨some (.ref dr),.un,[]⟩++(hid++T))) H':=by
   refine hA5'.perm ?_
   generalize Zl (S1.set j0 ⟨some (.ref dr),.un,[]⟩) js1=A1
   generalize Zl (S1.set j0 ⟨some (.ref dr),.un,[]⟩) js2=A2
   generalize (⟨some (.ref D),.acc acc,[D]⟩::(S1.set j0 ⟨some (.ref dr),.un,[]⟩++(hid++T)):List Ent)=R
   have b1:(A2++((⟨some (.ref dr),.drw,[dr]⟩ : Ent)::⟨some x,.dat m d,F⟩::R)).Perm ((⟨some x,.dat m d,F⟩ : Ent)::⟨some (.ref dr),.drw,[dr]⟩::(A2++R)) :=
    (Gb.trans ((Gb).cons _)).trans (Fe _ _ _)
   have b2:=b1.append_left A1
   refine b2.trans (Gb.trans ?_)
   rw[Fd,Bw,Fd]
  have hS6:Sl (⟨some x,.dat m d,F⟩::(Zl (S1.set j0 ⟨some (.ref dr),.un,[]⟩) js1++⟨some (.ref dr),.drw,[dr]⟩::Zl (S1.set j0 ⟨some (.ref dr),.un,[]⟩) js2)) ⟨.dat m d::(frD (δ1.sl.set j0 .un) js1++.drw::frD (δ1.sl.set j0 .un) js2),n⟩:=by
   unfold Sl
   rw[Aw,Be,Aw,sG e2',sG e2']
  have hv:vs (⟨some x,.dat m d,F⟩::(Zl (S1.set j0 ⟨some (.ref dr),.un,[]⟩) js1++⟨some (.ref dr),.drw,[dr]⟩::Zl (S1.set j0 ⟨some (.ref dr),.un,[]⟩) js2))=some x::Gq (vs S1) (js1++j0::js2):=by
   have f1:=qS (S1.set j0 ⟨some (.ref dr),.un,[]⟩) js1
   have f2:=qS (S1.set j0 ⟨some (.ref dr),.un,[]⟩) js2
   rw[vS] at f1 f2
   unfold vs at f1 f2 ⊢
   rw[Aw,Be,Aw,f1,f2]
   unfold Gq
   rw[Be,Aw,Bf,s1]
   rfl
  have hp6:(vs (⟨some x,.dat m d,F⟩::(Zl (S1.set j0 ⟨some (.ref dr),.un,[]⟩) js1++⟨some (.ref dr),.drw,[dr]⟩::Zl (S1.set j0 ⟨some (.ref dr),.un,[]⟩) js2)))[js1.length+1]? = some (some (.ref dr)):=by
   unfold vs
   rw[Aw,mP,Be,Fl (by rw[Ad]; unfold Zl; rw[Ad]; exact Ak _)]
   rw[Ad]
   unfold Zl
   rw[Ad,Nat.sub_self]
   rfl
  -- back to the outer names
  have back:∀{n':Nat} {H2:Hp},At K H0 Y n' (⟨some (.ref D),.acc acc,[D]⟩::(S1.set j0 ⟨some (.ref dr),.un,[]⟩++(hid++T))) H2->Gu K H2 n' ⟨some (.ref dr),.drw,[dr]⟩->At K H0 Y n' (⟨some (.ref D),.acc acc,[D]⟩::(S1++(hid++T))) H2:=λ{n' H2} hB hd'=>by
   refine hA2.re (λe he=>?_) hB.same hB.dom hB.xd
   rcases Ag.mp he with rfl | he
   ·exact hB.ok _ Ab
   ·rcases Ay.mp he with he | he
    ·obtain ⟨j,hj1⟩:=List.getElem?_of_mem he
     by_cases hjj:j=j0
     ·subst hjj
      rw[s1] at hj1
      cases hj1
      exact hd'
     ·refine hB.ok e (Ae _ (An _ (Ax (i:=j) ?_)))
      rw[Nm (Lm hjj)]
      exact hj1
    ·exact hB.ok e (Ae _ (Al _ he))
  refine ⟨λH2=>∃m',m'<ds.length - i/\_,λy H3=>∃acc,H3 D=some (.lst acc)/\acc.length<Au/\∃m',m'<ds.length - i/\_,λH2 q=>q,λy H3 q=>q,?_⟩
  rw[<- hv]
  refine j7 hS6 hA6 hp6 (hs i d acc n h1 hI) (λn' H2 hA7 hd7 p=>?_) (λe n' v H2 hA7 hd7 r7 p=>?_)
  ·exact ⟨ds.length - (i+1),by omega,rfl,hlt,acc,n',back hA7 hd7,by omega,p⟩
  ·obtain ⟨xs,g1,g2,g3⟩:=(back hA7 hd7).accPut r7 (by omega)
   exact ⟨xs,g1,by omega,ds.length - (i+1),by omega,rfl,hlt,acc++[e],n',g3,by rw[Bo]; simp; omega,p⟩
 ·have e:i=ds.length:=by omega
  subst e
  refine .inl ⟨it.stop H n hid_ok,k _ ⟨δ1.sl,n⟩ _ [D] S1 H e1 e2 ?_ (hf acc n hI)⟩
  have hA3:=hA2.accGet
  have hA4:At K H0 Y n (⟨some (.ref D),.dat .ow (.list acc),[D]⟩::(S1++T)) H:=hA3.sub (((Cq S1).append (Cf hid T)).cons₂ _)
  exact hA4.tomid
end
section
variable{X:Cx}{elt iter c:Expr}{x y0:Str}{px py pos spos:Pos}{i0:Nat}{ifs:List Expr}{scope:Scope}{cl:List (Str×Addr)}{ys:List Str}{js1 js2:List Nat}{j0:Nat}{di:DI}{dc:DT}{de:DE}
theorem xF(C:CompScope X scope cl x ys (js1++j0::js2))(hc:X.calm=true)(hi:wR X (.Name x px) iter di)(ht:∀fp s H,nC (El X scope cl (x::ys) fp s H) ifs (LT X.K dc))(he:∀fp s H,Er (El X scope cl (x::ys) fp s H) elt de)(hs:∀x,Ee iter X.env x=pure x:=by intro _; rfl):Er X (.ListComp elt [⟨.Name x px,iter,ifs,0⟩] scope pos) (gL di js1 j0 js2 dc de):=PE.imp (Vm C hc hi ht he hs) lJ
theorem d0{o:Bool}(hN:X.N.Nodup)(hi0:X.N[i0]? = some y0)(hy0:X.env.scope.names.lookup y0=some .local)(C:CompScope X scope cl x ys (js1++j0::js2))(hc:X.calm=true)(hi:wR X (.Name x px) iter di)(ht:∀fp s H,nC (El X scope cl (x::ys) fp s H) ifs (LT X.K dc))(he:∀fp s H,Er (El X scope cl (x::ys) fp s H) elt de)(hs:∀x,Ee iter X.env x=pure x:=by intro _; rfl)(hsw:Kb (.ListComp elt [⟨.Name x px,iter,ifs,0⟩] scope pos) (some (.Name y0 py)) spos.line X.env=pure true:=by rfl):rJ X (.Assign [.Name y0 py] (.ListComp elt [⟨.Name x px,iter,ifs,0⟩] scope pos) spos) (uI (gL di js1 j0 js2 dc de) (FF o i0)):=PS.impD (rX hN hi0 hy0 C hc hi ht he hs hsw) (fU lJ DZ)
end
def ER(i j:Int):Prop:=0<=j/\(Builtin.Int.intBits i:Int) * j<=2 ^ 27
theorem G5:Xp X (Iw .Pow) (rI ER λi j=>.int (i ^ j.toNat)):=BO λ_ _ _ _ _ _ _ hc q=>pow_int hc.1 hc.2 q
def Ue:DF:=λds n R=>ds=[]/\n<=100000/\∀r:Int,R (.int r) (n+1)
theorem J2{P:Bq}{w:World}{K:PySem.W.Frag}(F:FnOk P w K mg base Ge k f fd ps p8):FnOk P w K mg base Ge k f fd ps (mL K Ue):=by
 refine F.imp λus H Q E h=>?_
 obtain ⟨dr,ws,As,n,ds,R,rfl,eu,ok,nd,⟨c,kk,fl,hdr,h0,h1⟩,q,hp,k1⟩:=h
 obtain ⟨rfl,hn,hR⟩:=hp
 have hAs:As=[]:=by
  have:=Ip q
  rw[Ad] at this
  exact mO.mp this
 subst hAs
 have hws:ws=[]:=by
  cases ws with
  | nil=>rfl
  | cons _ _=>cases eu
 subst hws
 refine ⟨dr,c,kk,fl,rfl,hdr,h0,by omega,λr c' H' hd' s=>?_⟩
 exact k1 (.int r) (.int r) [] (n+1) H' (by omega) (hR r) (.int r) Dc (λ_ z=>(nomatch z)) ⟨c',kk+1,fl,hd',by omega,by omega⟩ s
theorem F7{K:PySem.W.Frag}(h:H a=some (.tup (ns.map V.int)))(l:ns.length<=1000000):RdF K H (.ref a) (Ck ns) []:=.tup h (by rw[Ad]; exact mC l) (RdFs.ints ns)
theorem yX{K:PySem.W.Frag}{As:List Ent}(eu:As.map Ent.v=us.map some)(ok:∀e∈As,Gu K H n e)(q:datas (As.map Ent.x)=some [d1]):∃v1 F1,us=[v1]/\RdF K H v1 d1 F1:=by
 have r:=Wd eu q ok
 generalize As.flatMap Ent.F=G0 at r
 cases r with
 | cons a t =>
  cases t
  exact ⟨_,_,rfl,a⟩
def O1(K:PySem.W.Frag):List V->Hp->VK->Prop:=λxs H Q=>∃(a:Addr) (ns:List Int),xs=[.ref a]/\(Mc K H a (ns.map V.int)\/Up K H a (ns.map V.int))/\Q (.int ns.sum) H
section
variable{X:Cx}
theorem dZ(hc:X.calm=true):Ld X (.builtin "sum") (O1 X.K):=by
 intro pins s σ H xs us Q I r h
 obtain ⟨p,ns,rfl,hp,q⟩:=h
 obtain ⟨u,rfl,ru⟩:=vals1 r
 cases ru
 rcases hp with hp | hp
 ·obtain ⟨its,rv,pl,_⟩:=I.list hp
  obtain ⟨ps,rfl,rfl⟩:=Ny rv
  have hl:s.heap.IsList p (Nc ps.toArray):=by simpa [Nc] using pl.isList
  refine sum_intListG (I.ok.hd hc) hl λh' tk t' k=>?_
  rw[preSum_eq,Es (by simp)]
  exact ⟨.int _,H,I.kept k,⟨t',rfl⟩,q⟩
 ·obtain ⟨its,rv,pl,_⟩:=I.tuple hp
  obtain ⟨ps,rfl,rfl⟩:=Ny rv
  obtain ⟨o,ho,hoc,m,hd⟩:=pl
  have hl:s.heap.IsTuple p (Nc ps.toArray):=⟨o,ho,hoc,m,by rw[hd]; simp [Nc]⟩
  refine PySem.W.ktm_sumG (I.ok.hd hc) hl λh' tk t' k=>?_
  rw[preSum_eq,Es (by simp)]
  exact ⟨.int _,H,I.kept k,⟨t',rfl⟩,q⟩
end
def pU:DC:=λxs P=>match xs with
 | [.dat _ (.list ds)]=>∃ns:List Int,ds=ns.map Ai/\P (.dat .ow (.int ns.sum))
 | [.dat _ (.tuple ds)]=>∃ns:List Int,ds=ns.map Ai/\P (.dat .ow (.int ns.sum))
 | _=>False
section
variable{K:PySem.W.Frag}
theorem yZ:My K (O1 K) pU:=by
 intro H0 X n S T As us H Q P eu hA hd k
 unfold pU at hd
 split at hd
 ·rename_i ex
  obtain ⟨v,F,rfl,hA⟩:=Gm eu hA ex
  obtain ⟨ns,rfl,h1⟩:=hd
  obtain ⟨a,xs,G,rfl,ha,ra,rfl,hz⟩:=(hA.told mem_mid).list_inv
  obtain ⟨rfl,_⟩:=ra.ints_inv
  exact ⟨a,ns,rfl,.inl (Mc.of ha),k _ _ [] H (hA.drop.pushI (.int _)) h1⟩
 ·rename_i ex
  obtain ⟨v,F,rfl,hA⟩:=Gm eu hA ex
  obtain ⟨ns,rfl,h1⟩:=hd
  obtain ⟨a,xs,rfl,ha,ra,hz⟩:=(hA.told mem_mid).tup_inv
  obtain ⟨rfl,_⟩:=ra.ints_inv
  exact ⟨a,ns,rfl,.inr (Up.of ha),k _ _ [] H (hA.drop.pushI (.int _)) h1⟩
 ·exact hd.elim
end
def mmd:Md->Md->Md
 | .ow,.ow=>.ow
 | _,_=>.tp
section
variable{K:PySem.W.Frag}{H0 H:Hp}{X:Addr->Prop}{n:Nat}{E:List Ent}
theorem At.merge(h:At K H0 X n (⟨v,.dat m (.list ds),a::F⟩::⟨some w,.dat my e,Fy⟩::E) H)(ho:own1 m=true)(hy:my≠.pk)(hv:v=some (.ref a))(np:∀e∈E,Lh e.x=false)(r:RdFs K H ys es G)(hG:∀c∈G,c∈F\/c∈Fy)(hnd:(F++Fy).Nodup->G.Nodup)(hz:es.length<=Au):At K H0 X n (⟨v,.dat (mmd m my) (.list es),a::G⟩::E) (upd H a (.lst ys)):=by
 obtain ⟨w1,e1,rd,hn,ht⟩:=h.ok _ Ab
 obtain ⟨w2,e2',rdy,hny,hty⟩:=h.ok _ (Ae _ Ab)
 obtain ⟨b,xs,G0,e2,ha,ra,eF,_⟩:=rd.list_inv
 have eF':a::F=b::G0:=eF
 cases eF'
 have hs:=Bb.mp h.sep
 have hs2:=Bb.mp hs.2
 have s12:=hs.1 _ Ab
 have pk2:Lh (DV.dat my e)=false:=by cases my <;> first | rfl | exact absurd rfl hy
 have pk1:Lh (DV.dat m (.list ds))=false:=by cases m <;> first | rfl | cases ho
 have naF:a∉F:=by
  cases m with
  | ow=>exact (Bx.mp (hn rfl)).1
  | tp=>exact ht rfl a F rfl
  | sh=>cases ho
  | pk=>cases ho
 have ca:a∈cells ⟨v,.dat m (.list ds),a::F⟩:=by
  cases m <;> first | exact Ab | cases ho
 have naY:a∉Fy:=s12.1 (.inl pk2) a ca
 have naG:a∉G:=λz=>(hG a z).elim naF naY
 have kp:∀{F':List Addr},a∉F'->Kp F' H (upd H a (.lst ys)):=λ{F'} hF b o q z=>by
  have : b≠a:=by
   rintro rfl
   rw[ha] at q
   cases q
   rcases z with z | z
   ·exact hF z
   ·rcases z with ⟨_,z⟩ | ⟨_,_,z⟩ <;> cases z
  rw[Cz this]
  exact q
 have n0:H0 a=none:=by
  rcases h.new _ Ab a ca with z | z
  ·exact z
  ·cases z.2
 have cs:∀c∈cells ⟨v,.dat (mmd m my) (.list es),a::G⟩,c∈cells ⟨v,.dat m (.list ds),a::F⟩\/c∈cells ⟨some w,.dat my e,Fy⟩:=λc hc=>by
  by_cases hm:m=.ow/\my=.ow
  ·obtain ⟨rfl,rfl⟩:=hm
   rcases Ag.mp (show c∈a::G from hc) with z | z
   ·rw[z]; exact .inl ca
   ·rcases hG c z with z | z
    ·exact .inl (Ae _ z)
    ·exact .inr z
  ·have hc':c∈[a]:=by
    cases m <;> cases my <;> first | exact hc | exact absurd ⟨rfl,rfl⟩ hm
   rw[Af.mp hc']; exact .inl ca
 refine ⟨λf hf=>?_,?_,λf hf=>?_,λb o nx q=>?_,λb o q=>?_,λb hb=>?_⟩
 ·rcases Ag.mp hf with rfl | hf
  ·refine ⟨.ref a,hv,.lst Co hz (r.kp (kp naG)),λz=>?_,λz c l e=>?_⟩
   ·have hm:m=.ow/\my=.ow:=by
     cases m <;> cases my <;> first | exact ⟨rfl,rfl⟩ | cases z
    obtain ⟨rfl,rfl⟩:=hm
    refine Bx.mpr ⟨naG,hnd (Gh.mpr ⟨(Bx.mp (hn rfl)).2,hny rfl,λx hx y hy' e=>?_⟩)⟩
    subst e
    exact s12.1 (.inl pk2) x (Ae _ hx) hy'
   ·cases e
    exact naG
  ·have f1:=Ae (⟨some w,.dat my e,Fy⟩ : Ent) hf
   exact (h.ok f (Ae _ f1)).kp (kp ((hs.1 f f1).1 (.inl (np f hf)) a ca)) (Ak _)
 ·refine Bb.mpr ⟨λf hf=>?_,hs2.2⟩
  have f1:=Ae (⟨some w,.dat my e,Fy⟩ : Ent) hf
  refine ⟨λhq c hc=>?_,λhq c hc z=>?_⟩
  ·rcases cs c hc with z | z
   ·exact (hs.1 f f1).1 (.inl (np f hf)) c z
   ·exact (hs2.1 f hf).1 (.inl (np f hf)) c z
  ·rcases Ag.mp z with z | z
   ·exact (hs.1 f f1).2 (.inl pk1) c hc (by rw[z]; exact Ab)
   ·rcases hG c z with z | z
    ·exact (hs.1 f f1).2 (.inl pk1) c hc (Ae _ z)
    ·exact (hs2.1 f hf).2 (.inl pk2) c hc z
 ·rcases Ag.mp hf with rfl | hf
  ·intro c hc
   rcases cs c hc with z | z
   ·rcases h.new _ Ab c z with z | z
    ·exact .inl z
    ·cases z.2
   ·rcases h.new _ (Ae _ Ab) c z with z | z
    ·exact .inl z
    ·cases z.2
  ·exact h.new f (Ae _ (Ae _ hf))
 ·rw[Cz (Dx q n0)]
  exact h.same b o nx q
 ·rw[Cz (Dx q n0)]
  exact h.dom b o q
 ·obtain ⟨z,c,k,f,h1,h2⟩:=h.xd b hb
  refine ⟨z,c,k,f,(Cz ?_).trans h1,h2⟩
  rintro rfl
  exact z n0
end
theorem nB{K:PySem.W.Frag}{H0 H:Hp}{X:Addr->Prop}{S T:List Ent}{δ:DS}(hS:Sl S δ)(hT:∀e∈T,Lh e.x=false)(hA:At K H0 X δ.n (S++⟨some w,.dat my e,Fy⟩::T) H)(hi:δ.sl[i]? = some (.dat m (.list ds)))(ho:own1 m=true)(hy:my≠.pk)(np:npk δ.sl=true)(hl:ds.length<1000000):∃a xs,(vs S)[i]? = some (some (.ref a))/\H a=some (.lst xs)/\xs.length=ds.length/\∃S',vs S'=vs S/\Sl S' ⟨δ.sl.set i (.dat (mmd m my) (.list (ds++[e]))),δ.n⟩/\At K H0 X δ.n (S'++T) (upd H a (.lst (xs++[w]))):=by
 obtain ⟨ent,e2,e3⟩:=Hk hS hi
 have hm:ent∈S:=Ax e2
 obtain ⟨u,x,F⟩:=ent
 have e3':x=.dat m (.list ds):=e3
 subst e3'
 obtain ⟨v,hv,rd,_⟩:=hA.ok _ (An _ hm)
 obtain ⟨a,xs,G,rfl,ha,ra,eF,hz⟩:=rd.list_inv
 have eF':F=a::G:=eF
 subst eF'
 have rw_:=hA.told mem_mid
 refine ⟨a,xs,by rw[Ls e2]; exact congrArg some hv,ha,ra.len,?_⟩
 have hn:=bF hS np
 have pm:(S++⟨some w,.dat my e,Fy⟩::T).Perm (⟨u,.dat m (.list ds),a::G⟩::⟨some w,.dat my e,Fy⟩::(S.eraseIdx i++T)):=by
  refine ((Ji e2).append_right _).trans ?_
  rw[Fd]
  exact List.Perm.cons _ Gb
 have h1:=(hA.perm pm).merge (es:=ds++[e]) (ys:=xs++[w]) (G:=G++Fy) ho hy hv (λf hf=>?_) (ra.snoc rw_) (λc hc=>Ay.mp hc) (λz=>z) (by rw[Bo]; exact mC (by simp; omega))
 ·refine ⟨S.set i ⟨u,.dat (mmd m my) (.list (ds++[e])),a::(G++Fy)⟩,?_,?_,h1.perm ?_⟩
  ·unfold vs
   rw[Et]
   apply Ht
   intro j
   rw[Hr]
   split
   ·rename_i hij
    subst hij
    rw[Bf,e2]
    split
    ·rfl
    ·rename_i hj
     rw[Ad] at hj
     exact absurd (Ap.mp e2).1 hj
   ·rfl
  ·unfold Sl at hS ⊢
   rw[Et,hS]
  ·exact ((Nn e2).append_right T).symm
 ·rcases Ay.mp hf with hf | hf
  ·exact hn f ((Mq S i).subset hf)
  ·exact hT f hf
def appOB(i:Nat)(y:DV)(δ:DS)(D:DEnds):Prop:=match δ.sl[i]?,y with
 | some (.dat m (.list ds)),.dat my e=>own1 m=true/\npk δ.sl=true/\my≠.pk/\ds.length<1000000/\D.nx ⟨δ.sl.set i (.dat (mmd m my) (.list (ds++[e]))),δ.n⟩
 | _,_=>False
def bK(i:Nat)(de:DE):DB:=λD δ=>match δ.sl[i]? with
 | some (.dat _ (.list _))=>de δ λy δ1=>appOB i y δ1 D
 | _=>False
section
variable{X:Cx}{o e:Expr}{de:DE}{apos cpos pos:Pos}{i:Nat}
theorem Zs(ho:PE X o (bX i))(he:Er X e de)(hbase:Th o "append" X.env (eval o X.env)=eval o X.env:=by rfl)
  (hfew:((Gw cpos (Bp [e] X.env)).all (λx=>!x.1) && (backToKw cpos (Yp [] X.env)).all (λx=>x.1.isSome)
   && decide (([e]:List Expr).length+([]:List Sh).length+(if ([]:List Sh).isEmpty then 0 else 1)<30))=true:=by rfl)
  (hline:(apos.endLine == cpos.line)=true:=by rfl) (hs:Bp [e] X.env=(false,eval e X.env)::Bp [] X.env:=by rfl) (hplain:(Gw cpos (Bp [] X.env)).any (·.1)=false:=by rfl)
  (hsw:Kb (.Call (.Attribute o "append" apos) [e] [] cpos) none pos.line X.env=pure false:=by rfl) :
  rJ X (.Expr (.Call (.Attribute o "append" apos) [e] [] cpos) pos) (bK i de):=by
 refine PS.impD (sL (N8 PySem.F.plainAttrs_list PySem.F.slot_list_append PySem.F.type_list_append Qa ho (Gv he Kq hs) hbase hfew hline hs hplain) hsw) λD σ H h=>?_
 obtain ⟨H0,Y,S,T,δ,P,rfl,hS,hT,hA,hd,k1,k2,k3,k4⟩:=h
 unfold bK at hd
 split at hd
 case h_2=>exact hd.elim
 rename_i m0 ds0 hsl
 obtain ⟨ent,e2,e3⟩:=Hk hS hsl
 have hm:ent∈S:=Ax e2
 obtain ⟨u,x,F⟩:=ent
 have e3':x=.dat m0 (.list ds0):=e3
 subst e3'
 obtain ⟨v,hv,rd,_⟩:=hA.ok _ (An _ hm)
 obtain ⟨a,xs,G,rfl,ha,ra,eF,hz⟩:=rd.list_inv
 refine ⟨.ref a,by rw[Ls e2]; exact congrArg some hv,.inl ⟨rfl,xs,Mc.of ha⟩,H0,Y,S,T,δ,_,rfl,hS,hA,hd,λy δ1 w F1 S1 H1 e4 e5 hA1 p1=>?_⟩
 unfold appOB at p1
 split at p1
 ·rename_i m ds my e' hsl1
  obtain ⟨p1,p2,p3,p4,p5⟩:=p1
  obtain ⟨b,xs1,g1,g2,g3,S2,h1,h2,h3⟩:=nB e5 hT hA1 hsl1 p1 p3 p2 p4
  rw[e4,Ls e2] at g1
  have : some (V.ref b)=some (V.ref a):=(Bn g1).symm.trans hv
  cases this
  refine ⟨a,xs1,w,rfl,rfl,g2,Cc (by omega) (mC (n:=1000000) (Ak _)),?_⟩
  rw[<- e4,<- h1]
  exact k1 ⟨_,_⟩ S2 _ h2 h3 p5
 ·exact p1.elim
end
end DL
namespace Nd
open PySem PySem.Spec PyProof.Rows L2
end Nd
namespace DL
open PySem PySem.Spec PyProof.Rows L2 Nd
def HG(n:Nat)(gs:vN):DG:=λx δ P=>match x with
 | .dat m (.list ds)=>ds.length=n/\gs (ds.map λd=>.dat (Pm m) d) δ P
 | _=>False
def Xf:D2:=λx y P=>match x,y with
 | .dat m (.list ds),.dat m' (.list es)=>m≠.pk/\m'≠.pk/\ds.length+es.length<=1000000/\P (.dat .tp (.list (ds++es)))
 | _,_=>False
theorem P7(h:m≠.pk):Lh (.dat m d)=false:=by cases m <;> first | rfl | exact absurd rfl h
theorem B1{K:PySem.W.Frag}:mK K V7 Xf:=by
 intro H0 X n S T x y v w F G H Q P hA hd k
 unfold Xf at hd
 split at hd
 ·rename_i m ds m' es
  obtain ⟨i1,i2,hz,p⟩:=hd
  obtain ⟨b,ys,G1,rfl,hb,rb,rfl,_⟩:=(hA.told mem_mid).list_inv
  obtain ⟨a,xs,G2,rfl,ha,ra,rfl,_⟩:=(hA.told Em).list_inv
  have l1:=ra.len
  have l2:=rb.len
  refine ⟨a,b,xs,ys,rfl,rfl,ha,hb,mC (by omega),λq hq=>?_⟩
  have s1:=Dl hq (.lst (xs++ys))
  have sy:=Bb.mp hA.mid.sep
  have sx:=Bb.mp hA.drop.mid.sep
  have nq:∀f∈S++_::_::T,q∉f.F:=hA.free hq
  have n1:q∉G1:=λz=>nq _ mem_mid (Ae _ z)
  have n2:q∉G2:=λz=>nq _ Em (Ae _ z)
  have fr:=hA.drop2.free hq
  refine k _ _ _ _ (((hA.drop2.grow (n':=n) s1 (Ak _)).push (e:=⟨some (.ref q),.dat .tp (.list (ds++es)),q::(G2++G1)⟩) ⟨_,rfl,.lst Co (by rw[Bo]; exact mC (by omega)) ((ra.app rb).kp (Kp.of s1)),λz=>(nomatch z),λ_ a l e=>?_⟩ (λf hf=>⟨λ_ c hc z=>?_,λ_ c hc z=>?_⟩) λc hc=>?_).tomid) p
  ·cases e
   exact λz=>(Ay.mp z).elim n2 n1
  ·rw[Af.mp hc] at z
   exact fr f hf z
  ·rcases Ag.mp z with z | z
   ·rw[z] at hc
    exact fr f hf (Eo _ _ hc)
   ·rcases Ay.mp z with z | z
    ·exact (sx.1 f hf).2 (.inl (P7 i1)) c hc (Ae _ z)
    ·exact (sy.1 f ((Cq S).append (Cv _ T) |>.subset hf)).2 (.inl (P7 i2)) c hc (Ae _ z)
  ·rw[Af.mp hc]
   exact .inl (hA.new0 hq)
 ·exact hd.elim
theorem pT(ha:Er X a da)(hb:Er X b db):Er X (.BinOp a .Add b pos) (Xq Xf da db):=Tx iM B1 ha hb
end DL
namespace Nd
open PySem PySem.Spec PyProof.Rows
section
variable{prog:Bq}{w:World}{κ:Type}[DecidableEq κ](knd:HeapKind prog w κ)
def DictE(h:Heap)(d:Addr)(xs:List (κ×Addr×Value)):Prop :=
 ∃(o:Obj) (es:Array Hy) (ep:Nat),h.get? d=some o/\o.ExactDict/\o.data=.dict es ep/\es.toList=xs.map (cP knd)/\(∀x∈xs,knd.is h x.1 x.2.1)/\(xs.map (·.1)).Nodup/\ep=es.size
variable{knd}
theorem DictE.of(x:DictE knd h d xs):h.DictOfH knd d xs:=let ⟨o,es,ep,a,b,c,e,f,g,_⟩:=x; ⟨o,es,ep,a,b,c,e,f,g⟩
variable{A:Cr}{E:Value->Aj->Prop}{s:Aj}{d a:Addr}{xs:List (κ×Addr×Value)}{k:κ}{v:Value}
theorem uR(hn:(xs.map (·.1)).Nodup)(hk:k∉xs.map (·.1)):((xs++[(k,a,v)]).map (·.1)).Nodup:=by
 rw[Be,List.nodup_append]
 refine ⟨hn,by simp,λx hx y hy e=>hk ?_⟩
 rw[Aw,Kh,List.mem_singleton] at hy
 have hy:y=k:=hy
 rw[<- hy,<- e]
 exact hx
theorem xK(ho:h.get? d=some o)(hc:o.ExactDict)(hd:o.data=.dict es ep)(he:es.toList=xs.map (cP knd))(his:∀x∈xs,knd.is h x.1 x.2.1)(hn:(xs.map (·.1)).Nodup)(hep:ep=es.size)(hkey:knd.is h k a)(ha:atKey xs k=none)(hk:k∉xs.map (·.1)):DictE knd (h.update d (Obj.mapDictKeys λes=>es.push ⟨knd.hash k,.ref a,v⟩)) d (storedH xs k a v):=by
 rw[storedH_new ha]
 refine ⟨_,_,ep+1,Fz _ ho (Obj.isFreed_of_dict (Obj.data_mapDictKeys hd _)),hc.mapDictKeys _,Obj.data_mapDictKeys hd _,by simp [he,cP],λx hx=>?_,uR hn hk,by rw[hep,Array.size_push]⟩
 rcases Ay.mp hx with z | z
 ·exact knd.keeps (his x z) ho hd (Cm ..)
 ·rw[Af.mp z]
  exact knd.keeps hkey ho hd (Cm ..)
theorem kE(hu:knd.room A)(hkey:knd.is s.heap k a)(hm:DictE knd s.heap d xs)(q:∀h',DictE knd h' d (storedH xs k a v)->Dn d s.heap h'->Q () { s with heap:=h',toks:=s.toks+knd.draws k })(hz:xs.length<=Au):wpAny (model prog w) A (dictSet d (.ref a) v) Q E s:=by
 obtain ⟨o,es,ep,ho,hc,hd,he,his,hn,hep⟩:=hm
 unfold dictSet
 try with_reducible refine Dd ?_
 refine Aa (knd.pyHash hu hkey ?_)
 unfold dictSetHashed
 try with_reducible refine Dd ?_
 refine Aa (wpAny_dictFind_heap (s:={ s with toks:=s.toks+knd.draws k }) hu hkey ho hd he his hn (λno=>?_) λj p hj=>?_)
 ·exact Aa (Kw (wpAny_updateDictKeys (hz:=by have e:=size_of_entries he; omega) (s:={ s with toks:=s.toks+knd.draws k }) ho hd (q _ (xK ho hc hd he his hn hep hkey (atKey_none_of_get no) (not_mem_keys_of_get no)) (Cm ..))))
 ·refine Aa (Kw (Aa (wpAny_updateDict (s:={ s with toks:=s.toks+knd.draws k }) ho hd (wpAny_point (q _ ?_ (Cm ..))))))
  rw[storedH_old (atKey_of_get hn hj)]
  refine ⟨_,_,ep,Fz _ ho (Obj.isFreed_of_dict (Obj.data_mapDict hd _)),hc.mapDict _,Obj.data_mapDict hd _,?_,λx hx=>?_,by rw[keys_map_putAt]; exact hn,by rw[hep]; simp⟩
  ·have e1:=modify_map_putAt (cP knd) (λe:Hy=>{ e with val:=v }) k v (λ_ _=>rfl) hn hj
   rw[<- he] at e1
   obtain ⟨l⟩:=es
   simpa using e1
  ·obtain ⟨y,hy,rfl⟩:=Bt.mp hx
   unfold putAt
   split <;> exact knd.keeps (his y hy) ho hd (Cm ..)
theorem setItemE(hu:knd.room A.in1)(hkey:knd.is s.heap k a)(hm:DictE knd s.heap d xs)(q:∀h',DictE knd h' d (storedH xs k a v)->Dn d s.heap h'->Q () { s with heap:=h',toks:=s.toks+knd.draws k })(hz:xs.length<=Au):wpAny (model prog w) A (setItem (.ref d) (.ref a) v) Q E s:=by
 have tD:=hm.of.typeIs
 unfold setItem
 try with_reducible refine Dd ?_
 refine Aa (fK tD (by decide) ?_)
 refine Aa (Ed (name:=Ds "__setitem__") tD slot_dict_setitem (Ex slot_dict_setitem tD entry_dict_setitem ?_ (args_dict_setitem _ _ _)))
 show wpAny _ _ (bind (Builtin.Dict.notOrdered "__setitem__" ⟨[.ref d,.ref a,v],[]⟩) _) _ _ s
 refine Aa (Wl tD ?_)
 show wpAny _ _ (bind (dictSet d (.ref a) v) _) _ _ s
 exact Aa (kE hu hkey hm (λh' a b=>Am ⟨.none,rfl,Am (q h' a b)⟩) hz)
end
end Nd
namespace L2
open PySem PySem.Spec PyProof.Rows
section
variable{κ:Type}[DecidableEq κ]
def Tt(kvs:List (κ×V))(k:κ):Option V:=(kvs.find? λkv=>decide (kv.1=k)).map (·.2)
def Mu(kvs:List (κ×V))(k:κ)(v:V):List (κ×V) :=
 if (kvs.any λkv=>decide (kv.1=k))=true then kvs.map (λkv=>if kv.1=k then (kv.1,v) else kv) else kvs++[(k,v)]
theorem Rw{p:κ×V}(e:p.1=k):Tt (p::r) k=some p.2:=by simp [Tt,Iz,e]
theorem Rj{p:κ×V}(e:¬ p.1=k):Tt (p::r) k=Tt r k:=by simp [Tt,Iz,e]
theorem kT(k:κ):∀kvs:List (κ×V),(kvs.any λkv=>decide (kv.1=k))=(Tt kvs k).isSome
 | []=>rfl
 | p::r=>by
  rw[Jc]
  by_cases e:p.1=k
  ·simp only[Rw e,decide_eq_true e,Bool.true_or,Option.isSome_some]
  ·rw[Rj e,decide_eq_false e,Bool.false_or]; exact kT k r
theorem Rt(kvs:List (κ×V))(k:κ)(v:V):(Mu kvs k v).length<=kvs.length+1:=by
 unfold Mu
 split
 ·rw[Ad]; omega
 ·rw[Bo,Bs,Lb]; omega
theorem lV.isSome_eq(r:lV o u):o.isSome=u.isSome:=by
 cases o with
 | none=>cases u with
  | none=>rfl
  | some _=>exact (show False from r).elim
 | some _=>cases u with
  | none=>exact (show False from r).elim
  | some _=>rfl
theorem lV.getD(r:lV o u)(rd:RelV d d'):RelV (o.getD d) (u.getD d'):=by
 cases o with
 | none=>cases u with
  | none=>exact rd
  | some _=>exact (show False from r).elim
 | some _=>cases u with
  | none=>exact (show False from r).elim
  | some _=>exact r
theorem KV.val(r:KV kvs vs)(k:κ):lV (Tt kvs k) (valueAt vs k):=by
 unfold KV at r
 induction r with
 | nil=>exact Kd
 | @cons p q ps qs h t ih =>
  obtain ⟨h1,h2⟩:=h
  by_cases e:p.1=k
  ·have e':q.1=k:=h1.symm.trans e
   have b:valueAt (q::qs) k=some q.2:=by simp [valueAt,Iz,e']
   rw[Rw e,b]; exact h2
  ·have e':¬ q.1=k:=λz=>e (h1.trans z)
   have b:valueAt (q::qs) k=valueAt qs k:=by simp [valueAt,Iz,e']
   rw[Rj e,b]; exact ih
theorem KV.any(r:KV kvs vs)(k:κ):(kvs.any λkv=>decide (kv.1=k))=vs.any λkv=>decide (kv.1=k):=by
 unfold KV at r
 induction r with
 | nil=>rfl
 | cons h t ih=>rw[Jc,Jc,ih,h.1]
theorem KV.repl(r:KV kvs vs)(k:κ)(ry:RelV y u):KV (kvs.map λkv=>if kv.1=k then (kv.1,y) else kv) (vs.map λkv=>if kv.1=k then (kv.1,u) else kv):=by
 unfold KV at r ⊢
 induction r with
 | nil=>exact .nil
 | @cons p q ps qs h t ih =>
  rw[Aw,Aw]
  refine .cons ?_ ih
  obtain ⟨h1,h2⟩:=h
  by_cases e:p.1=k
  ·rw[if_pos e,if_pos (h1.symm.trans e)]; exact ⟨h1,ry⟩
  ·rw[if_neg e,if_neg (λz=>e (h1.trans z))]; exact ⟨h1,h2⟩
theorem KV.put(r:KV kvs vs)(k:κ)(ry:RelV y u):KV (Mu kvs k y) (stored vs k u):=by
 unfold Mu stored
 rw[r.any k]
 by_cases e:(vs.any λkv=>decide (kv.1=k))=true
 ·rw[if_pos e,if_pos e]; exact r.repl k ry
 ·rw[if_neg e,if_neg e]; exact Paired.snoc r ⟨rfl,ry⟩
theorem KV.length{kvs:List (κ×V)}(r:KV kvs vs):kvs.length=vs.length:=Paired.length r
end
theorem qB(r:RelV (kV k) u):(Hh P w).is k u=true:=by
 cases k with
 | inl i=>obtain ⟨t,e⟩:=(show ∃t,u=Uu i t from r); subst e; exact kW P w i t
 | inr x=>obtain ⟨t,e⟩:=(show ∃t,u=Value.str x t from r); subst e; exact jS P w x t
theorem fA:∀{ks:List Hm} {us:List Value},Ff (ks.map kV) us->ItemsAre (Hh P w) ks us
 | [],_,r=>by rw[Kh] at r; cases r; exact .nil
 | k::ks,_,r=>by
  rw[Aw] at r
  cases r with
  | cons h t=>exact .cons (qB h) (fA t)
abbrev KT(H:Hp):List (List Hm×V)->List (List Hm×Addr×Value)->Prop:=Paired λp q=>p.1=q.1/\H q.2.1=some (.tup (p.1.map kV))/\RelV p.2 q.2.2
theorem KT.val(r:KT H kvs xs)(k:List Hm):lV (Tt kvs k) ((atKey xs k).map (·.2)):=by
 induction r with
 | nil=>exact Kd
 | @cons p q ps qs h t ih =>
  obtain ⟨h1,_,h2⟩:=h
  by_cases e:p.1=k
  ·have e':q.1=k:=h1.symm.trans e
   have b:atKey (q::qs) k=some q.2:=by simp [atKey,Iz,e']
   rw[Rw e,b]; exact h2
  ·have e':¬ q.1=k:=λz=>e (h1.trans z)
   have b:atKey (q::qs) k=atKey qs k:=by simp [atKey,Iz,e']
   rw[Rj e,b]; exact ih
theorem KT.repl(r:KT H kvs xs)(k:List Hm)(ry:RelV y u):KT H (kvs.map λkv=>if kv.1=k then (kv.1,y) else kv) (xs.map (putAt k u)):=by
 induction r with
 | nil=>exact .nil
 | @cons p q ps qs h t ih =>
  rw[Aw,Aw]
  refine .cons ?_ ih
  obtain ⟨h1,h2,h3⟩:=h
  unfold putAt
  by_cases e:p.1=k
  ·rw[if_pos e,if_pos (h1.symm.trans e)]; exact ⟨h1,h2,ry⟩
  ·rw[if_neg e,if_neg (λz=>e (h1.trans z))]; exact ⟨h1,h2,h3⟩
theorem KT.put(r:KT H kvs xs)(k:List Hm)(hb:H b=some (.tup (k.map kV)))(ry:RelV y u):KT H (Mu kvs k y) (storedH xs k b u):=by
 have e:(kvs.any λkv=>decide (kv.1=k))=(atKey xs k).isSome:=by
  rw[kT,(r.val k).isSome_eq,Option.isSome_map]
 unfold Mu storedH
 rw[e]
 by_cases q:(atKey xs k).isSome=true
 ·rw[if_pos q,if_pos q]; exact r.repl k ry
 ·rw[if_neg q,if_neg q]; exact Paired.snoc r ⟨rfl,hb,ry⟩
theorem KT.keeps(r:KT H kvs xs)(ht:∀b ys,H b=some (.tup ys)->H' b=some (.tup ys)):KT H' kvs xs :=
 Paired.mapP r λ_ _ z=>⟨z.1,ht _ _ z.2.1,z.2.2⟩
section
variable{P:Bq}{w:World}{H:Hp}{h:Heap}{a:Addr}
theorem xO(ok:Wk P w H h)(e:Rd H a u):Hj P w H h a u:=e.ok ok
theorem mH(ok:Wk P w H h)(e:Rd H a (.dK kvs)):kvs.length<=Au/\(a == Fu)=false/\∃vs,KV kvs vs/\h.DictOf (Hh P w) a vs :=
 show Hj P w H h a (.dK kvs) from xO ok e
theorem BI(ok:Wk P w H h)(e:H a=some (.dK kvs)):kvs.length<=Au/\(a == Fu)=false/\∃vs,KV kvs vs/\h.DictOf (Hh P w) a vs:=mH ok (.inl e)
theorem Xn(ok:Wk P w H h)(e:H a=some (.tup (ks.map kV))):(Qu (Hh P w)).is h ks a:=by
 obtain ⟨_,its,r,o,h1,h2,n,h3⟩:=(show Hj P w H h a (.tup (ks.map kV)) from ok a _ e)
 exact ⟨o,its.toArray,n,h1,h2,h3,by simpa using fA r⟩
theorem pW(ok:Wk P w H h)(e:Rd H a (.dT kvs)):kvs.length<=Au/\(a == Fu)=false/\∃xs,KT H kvs xs/\h.DictOfH (Qu (Hh P w)) a xs:=by
 obtain ⟨z,y,xs,r,o,es,ep,h1,h2,h3,h4,h5,h6⟩:=(show Hj P w H h a (.dT kvs) from xO ok e)
 refine ⟨z,y,xs,r,o,es,ep,h1,h2,h3,h4,λx hx=>?_,h5⟩
 have all:∀{l:List (List Hm×V)} {m:List (List Hm×Addr×Value)},KT H l m->∀x∈m,(Qu (Hh P w)).is h x.1 x.2.1:=by
  intro l m q
  induction q with
  | nil=>intro x hx; exact nomatch hx
  | @cons p q ps qs hq t ih =>
   intro x hx
   rcases Ag.mp hx with e | hx
   ·subst e
    exact Xn ok (by rw[<- hq.1]; exact hq.2.1)
   ·exact ih x hx
 exact all r x hx
theorem wA(ok:Wk P w H h)(e:Rd H a (.dT kvs)):kvs.length<=Au/\(a == Fu)=false/\∃xs,KT H kvs xs/\Nd.DictE (Qu (Hh P w)) h a xs:=by
 obtain ⟨z,y,xs,r,o,es,ep,h1,h2,h3,h4,h5,h6⟩:=(show Hj P w H h a (.dT kvs) from xO ok e)
 refine ⟨z,y,xs,r,o,es,ep,h1,h2,h3,h4,λx hx=>?_,h5,h6⟩
 have all:∀{l:List (List Hm×V)} {m:List (List Hm×Addr×Value)},KT H l m->∀x∈m,(Qu (Hh P w)).is h x.1 x.2.1:=by
  intro l m q
  induction q with
  | nil=>intro x hx; exact nomatch hx
  | @cons p q ps qs hq t ih =>
   intro x hx
   rcases Ag.mp hx with e | hx
   ·subst e
    exact Xn ok (by rw[<- hq.1]; exact hq.2.1)
   ·exact ih x hx
 exact all r x hx
end
def jE(H:Hp)(a:Addr)(y:V)(r:Option V):Prop :=
 (∃kvs k,Rd H a (.dK kvs)/\y=kV k/\r=Tt kvs k)\/∃kvs k b,Rd H a (.dT kvs)/\y=.ref b/\H b=some (.tup (k.map kV))/\r=Tt kvs k
def B9(H:Hp)(a:Addr)(y v:V)(H':Hp):Prop :=
 (∃kvs k,H a=some (.dK kvs)/\y=kV k/\kvs.length<Au/\H'=upd H a (.dK (Mu kvs k v))) \/
 ∃kvs k b,H a=some (.dT kvs)/\y=.ref b/\H b=some (.tup (k.map kV))/\kvs.length<Au/\H'=upd H a (.dT (Mu kvs k v))
theorem jE.k{k:Hm}(e:H a=some (.dK kvs)):jE H a (kV k) (Tt kvs k):=.inl ⟨kvs,k,.inl e,rfl,rfl⟩
theorem jE.t{k:List Hm}(e:H a=some (.dT kvs))(eb:H b=some (.tup (k.map kV))):jE H a (.ref b) (Tt kvs k):=.inr ⟨kvs,k,b,.inl e,rfl,eb,rfl⟩
theorem B9.k{k:Hm}(e:H a=some (.dK kvs))(hl:kvs.length<Au):B9 H a (kV k) v (upd H a (.dK (Mu kvs k v))):=.inl ⟨kvs,k,e,rfl,hl,rfl⟩
theorem B9.t{k:List Hm}(e:H a=some (.dT kvs))(eb:H b=some (.tup (k.map kV)))(hl:kvs.length<Au):B9 H a (.ref b) v (upd H a (.dT (Mu kvs k v))):=.inr ⟨kvs,k,b,e,rfl,eb,hl,rfl⟩
section
variable{X:Cx}{pins:List (Addr×Obj)}{σ:St}{H:Hp}{s:Aj}{a:Addr}{y v:V}{u r:Value}{o:Option V}{A:Cr}{E:Value->Aj->Prop}
theorem Inv.big(I:Inv X pins σ H s):Fu<s.heap.objs.size:=by
 have h:Ci<s.heap.objs.size:=(I.mod.glob.keeps I.bk).lt
 exact Nat.lt_trans (by decide) h
theorem sZ(hu:A.units+1<cLine)(I:Inv X pins σ H s)(g:jE H a y (some v))(ry:RelV y u)(h:∀w' s',Inv X pins σ H s'->RelV v w'->Q w' s'):wpAny (model X.prog X.w) A (Se (.ref a) u) Q E s:=by
 rcases g with ⟨kvs,k,e,ey,l⟩ | ⟨kvs,k,b,e,ey,eb,l⟩
 ·subst ey
  obtain ⟨z,hd,vs,rel,dd⟩:=mH I.hok e
  obtain ⟨w',hw,rw'⟩:=lV.some_of (v:=v) (o:=valueAt vs k) (by rw[l]; exact rel.val k)
  exact wpAny_getItem_of (qB ry) dd.mapOf hw (h w' _ (I.tok _) rw')
 ·subst ey
  cases (show u=Bc b from ry)
  obtain ⟨z,hd,xs,rel,dd⟩:=pW I.hok e
  obtain ⟨w',hw,rw'⟩:=lV.some_of (v:=v) (o:=(atKey xs k).map (·.2)) (by rw[l]; exact rel.val k)
  obtain ⟨p,hp,hp2⟩:=Option.map_eq_some_iff.mp hw
  refine wpAny_getItem_heap (cO hu) (Xn I.hok eb) dd hp ?_
  rw[hp2]
  exact h w' _ (I.tok _) rw'
theorem iB(I:Inv X pins σ H s)(mu:EJ (H a))(hs:Dn a s.heap h')(he:∃q,h'.get? a=some q)(new:Hj X.prog X.w (upd H a ob) h' a ob):Inv X pins σ (upd H a ob) { s with heap:=h',toks:=t' } :=
 I.write (x:=a) (e:=a) mu (.inl rfl) (λb q hb z=>(hs.2 b hb).trans z) he new
theorem U0(z:kvs.length<=Au)(hd:(a == Fu)=false)(rel:KV kvs vs)(dd:h'.DictOf (Hh P w) a vs):Hj P w H' h' a (.dK kvs):=⟨z,hd,vs,rel,dd⟩
theorem uD(hu:A.units+1<cLine)(I:Inv X pins σ H s)(g:B9 H a y v H')(ry:RelV y u)(rv:RelV v r)(h:∀s',Inv X pins σ H' s'->Q () s'):wpAny (model X.prog X.w) A (setItem (.ref a) u r) Q E s:=by
 rcases g with ⟨kvs,k,e,ey,l,eH⟩ | ⟨kvs,k,b,e,ey,eb,l,eH⟩
 ·subst ey eH
  obtain ⟨z,hd,vs,rel,dd⟩:=BI I.hok e
  have hz:vs.length<=Au:=by rw[<- rel.length]; exact z
  have hl:(Mu kvs k v).length<=Au:=by have:=Rt kvs k v; omega
  refine wpAny_setItem_pairs (hsz:=hz) (qB ry) dd λh' dd' hs=>h _ ?_
  have he:∃q,h'.get? a=some q:=let ⟨q,_,_,hq,_⟩:=dd'; ⟨q,hq⟩
  exact iB I (by rw[e]; exact Kd) hs he (U0 hl hd (rel.put k rv) dd')
 ·subst ey eH
  cases (show u=Bc b from ry)
  obtain ⟨z,hd,xs,rel,dd⟩:=wA I.hok (.inl e)
  have hz:xs.length<=Au:=by rw[<- Paired.length rel]; exact z
  have hl:(Mu kvs k v).length<=Au:=by have:=Rt kvs k v; omega
  refine Nd.setItemE (hz:=hz) (cO hu) (Xn I.hok eb) dd λh' dd' hs=>h _ ?_
  obtain ⟨q,es,ep,hq,h2,h3,h4,_,h5⟩:=dd'
  refine iB I (by rw[e]; exact Kd) hs ⟨q,hq⟩ ⟨hl,hd,_,(rel.put k eb rv).keeps λc ys ec=>?_,q,es,ep,hq,h2,h3,h4,h5⟩
  rw[Cz (sI ec e (λz=>nomatch z))]
  exact ec
end
def G9(i:Expr):Prop:=∀ov iv,subscripted i false ov iv=operate [ov,iv] (Se ov iv)
theorem B8{prog:Bq}{w:World}{A:Cr}{E:Value->Aj->Prop}{T id:String}(hl:typeLookup (.type T) "__getitem__" = pure (some (.builtin id)))(hs:G9 slice)(h:wpAny (model prog w) A (eval value env) (λo s₁=>wpAny (model prog w) A (eval slice env) (λi s₂=>s₂.TypeIs o T/\wpAny (model prog w) A (Se o i) Q E s₂) E s₁) E s):wpAny (model prog w) A (eval (.Subscript value slice pos) env) Q E s:=by
 refine Subscript_ (Ft h (λo s₁ h₁=>Ft h₁ (λi s₂ h₂=>?_) λ_ _ x=>x) λ_ _ x=>x)
 obtain ⟨hT,h₂⟩:=h₂
 unfold cH
 refine Aa ?_
 rw[getitemInPython_of_ne hT.not_modules]
 refine Aa (wpAny_specialOf hT hl ?_)
 have fin:wpAny (model prog w) A (subscripted slice false o i) (λr s₃=>wpAny (model prog w) A (letTemporaryGo value o r >>= λ_=>pure r) Q E s₃) E s₂:=by
  rw[hs o i]
  exact wpAny_operating (Ft h₂ (λr s₃ h₃=>Aa (wpAny_letTemporaryGo (Am h₃))) λ_ _ x=>x)
 first
  | exact Am (Aa fin)
  | exact Aa (Am (Aa fin))
  | exact Aa fin
theorem lE{X:Cx}{pins:List (Addr×Obj)}{σ:St}(I:Inv X pins σ H s)(g:jE H a y o):s.TypeIs (.ref a) "dict" := by
 rcases g with ⟨kvs,k,e,_,_⟩ | ⟨kvs,k,b,e,_,_,_⟩
 ·obtain ⟨_,_,vs,_,dd⟩:=mH I.hok e
  exact dd.typeIs
 ·obtain ⟨_,_,xs,_,dd⟩:=pW I.hok e
  exact dd.typeIs
def CQ(td ty:TE):TE:=λσ H Q=>td σ H λx H1=>ty σ H1 λy H2=>∃a v,x=.ref a/\jE H2 a y (some v)/\Q v H2
def EE(td ty tv:TE):TS:=λD σ H=>tv σ H λv H1=>td σ H1 λx H2=>ty σ H2 λy H3=>∃a H4,x=.ref a/\B9 H3 a y v H4/\D.nx σ H4
section
variable{X:Cx}{o i e value:Expr}{pos pos' tpos:Pos}{td ty tv:TE}
theorem rG(hu:X.A.units+1<cLine)(ho:PE X o td)(hi:PE X i ty)(hs:G9 i):PE X (.Subscript o i pos) (CQ td ty):=by
 intro pins s σ H Q I h
 refine B8 PySem.F.slot_dict_getitem.lookup hs (Gj (ho pins s σ H _ I h) λu s1 ⟨x,H1,I1,rx,q1⟩=>Gj (hi pins s1 σ H1 _ I1 q1) λiv s2 q0_ => ?_)
 obtain ⟨y,H2,I2,ry,a,v,ex,g,q2⟩ := q0_
 subst ex
 obtain rfl:u=Bc a:=rx
 exact ⟨lE I2 g,sZ hu I2 g ry λw' s3 I3 rw'=>⟨v,H2,I3,rw',q2⟩⟩
theorem sA(hu:X.A.units+1<cLine)(ho:PE X o td)(hi:PE X i ty)(hv:PE X value tv)(hs:Kb value (some (.Subscript o i pos')) pos.line X.env=pure false):PS X (.Assign [.Subscript o i pos'] value pos) (EE td ty tv):=by
 intro pins s σ H D I h
 refine wpAny_Assign_Subscript (Gj (hv pins s σ H _ I h) λr s1 ⟨v,H1,I1,rv,q1⟩=>Gj (ho pins s1 σ H1 _ I1 q1) λu s2 ⟨x,H2,I2,rx,q2⟩=>Gj (hi pins s2 σ H2 _ I2 q2) λiv s3 ⟨y,H3,I3,ry,a,H4,ex,g,q3⟩=>?_) hs
 subst ex
 obtain rfl:u=Bc a:=rx
 exact uD hu I3 g ry rv λs4 I4=>⟨σ,H4,I4,q3⟩
end
theorem zT(h:Heap)(hb:Fu<h.objs.size):Hj P w H (h.push { cls:=.type "dict",data:=.dict #[] }) h.objs.size (.dK []) :=
 ⟨Dg _,beq_eq_false_iff_ne.mpr (Lm (Cd hb)),[],.nil,Heap.DictOf.new h⟩
theorem lK(h:Heap)(hb:Fu<h.objs.size):Hj P w H (h.push { cls:=.type "dict",data:=.dict #[] }) h.objs.size (.dT []) :=
 ⟨Dg _,beq_eq_false_iff_ne.mpr (Lm (Cd hb)),[],.nil,_,#[],0,Bg _ rfl,⟨rfl,rfl,rfl⟩,rfl,rfl,Dc,rfl⟩
def X7:TE:=λ_ H Q=>∀p,H p=none->Q (.ref p) (upd H p (.dK []))
def R5:TE:=λ_ H Q=>∀p,H p=none->Q (.ref p) (upd H p (.dT []))
section
variable{X:Cx}{pos:Pos}
theorem o4:PE X (.Dict [] [] pos) X7:=λpins s σ H Q I h =>
 wpAny_Dict_empty ⟨.ref s.heap.objs.size,_,I.laid (a:=s.heap.objs.size) (o:=.dK []) (t':=s.toks) (λ_ _ q=>Ah _ q) (Ak _) (zT s.heap I.big),rfl,h _ (I.hok.fresh (Ak _))⟩
theorem yF:PE X (.Dict [] [] pos) R5:=λpins s σ H Q I h =>
 wpAny_Dict_empty ⟨.ref s.heap.objs.size,_,I.laid (a:=s.heap.objs.size) (o:=.dT []) (t':=s.toks) (λ_ _ q=>Ah _ q) (Ak _) (lK s.heap I.big),rfl,h _ (I.hok.fresh (Ak _))⟩
end
structure M1(X:Cx)(o:Expr)(m:Str)(apos:Pos)(e:Expr)(cpos:Pos):Prop where
 base:Th o m X.env (eval o X.env)=eval o X.env
 few:((Gw cpos (Bp [e] X.env)).all (λx=>!x.1) && (backToKw cpos (Yp [] X.env)).all (λx=>x.1.isSome)
  && decide (([e]:List Expr).length+([]:List Sh).length+(if ([]:List Sh).isEmpty then 0 else 1)<30))=true
 line:(apos.endLine == cpos.line)=true
 trees:Gw cpos (Bp [e] X.env)=[(false,eval e X.env)]
structure M2(X:Cx)(o:Expr)(m:Str)(apos:Pos)(e f:Expr)(cpos:Pos):Prop where
 base:Th o m X.env (eval o X.env)=eval o X.env
 few:((Gw cpos (Bp [e,f] X.env)).all (λx=>!x.1) && (backToKw cpos (Yp [] X.env)).all (λx=>x.1.isSome)
  && decide (([e,f]:List Expr).length+([]:List Sh).length+(if ([]:List Sh).isEmpty then 0 else 1)<30))=true
 line:(apos.endLine == cpos.line)=true
 trees:Gw cpos (Bp [e,f] X.env)=[(false,eval e X.env),(false,eval f X.env)]
def HE(H:Hp)(a:Addr):Prop:=(∃kvs,Rd H a (.dK kvs))\/∃kvs,Rd H a (.dT kvs)
theorem Y7{σ:St}(I:Inv X pins σ H s)(d:HE H a):s.TypeIs (.ref a) "dict" /\ (∀b,Bc a=.ref b->∃ob,s.heap.get? b=some ob/\ob.dict=none)/\(a == Fu)=false:=by
 rcases d with ⟨kvs,e⟩ | ⟨kvs,e⟩
 ·obtain ⟨_,hd,vs,_,dd⟩:=mH I.hok e
  refine ⟨dd.typeIs,λb q=>?_,hd⟩
  cases q
  obtain ⟨ob,_,_,h1,h2,_⟩:=dd
  exact ⟨ob,h1,h2.2.1⟩
 ·obtain ⟨_,hd,xs,_,dd⟩:=pW I.hok e
  refine ⟨dd.typeIs,λb q=>?_,hd⟩
  cases q
  obtain ⟨ob,_,_,h1,h2,_⟩:=dd
  exact ⟨ob,h1,h2.2.1⟩
section
variable{X:Cx}{pins:List (Addr×Obj)}{σ:St}{H:Hp}{s:Aj}{a:Addr}{y d:V}{u r:Value}{o:Option V}{A:Cr}{E:Value->Aj->Prop}
theorem V4(hu:A.units+1<cLine)(I:Inv X pins σ H s)(g:jE H a y o)(ry:RelV y u)(rd:RelV d r)(h:∀w' s',Inv X pins σ H s'->RelV (o.getD d) w'->Q w' s'):wpAny (model X.prog X.w) A (call (.builtin "dict.get") [.ref a,u,r]) Q E s:=by
 rcases g with ⟨kvs,k,e,ey,l⟩ | ⟨kvs,k,b,e,ey,eb,l⟩
 ·subst ey
  obtain ⟨z,hd,vs,rel,dd⟩:=mH I.hok e
  refine call_meetsIn PySem.F.slot_dict_get dd.typeIs PySem.F.entry_dict_get (PySem.F.args_dict_get_3 _ _ _) (meets_dict_get_default (Hh X.prog X.w) a (qB ry) hd r) ⟨_,dd.mapOf,h _ _ (I.tok _) ?_⟩
  rw[l]
  exact (rel.val k).getD rd
 ·subst ey
  cases (show u=Bc b from ry)
  obtain ⟨z,hd,xs,rel,dd⟩:=pW I.hok e
  refine call_meetsIn PySem.F.slot_dict_get dd.typeIs PySem.F.entry_dict_get (PySem.F.args_dict_get_3 _ _ _) (meetsH_dict_get_default (Qu (Hh X.prog X.w)) a b hd r) ⟨cO hu,k,xs,Xn I.hok eb,dd,h _ _ (I.tok _) ?_⟩
  rw[l]
  exact (rel.val k).getD rd
end
def zI(td ty tx:TE):TE:=λσ H Q=>td σ H λx H1=>∃a,x=.ref a/\HE H1 a/\ty σ H1 λy H2=>tx σ H2 λz H3=>∃o,jE H3 a y o/\Q (o.getD z) H3
section
variable{X:Cx}{o e f:Expr}{apos cpos:Pos}{td ty tx:TE}
theorem wI(hu:X.A.units+1<cLine)(ho:PE X o td)(he:PE X e ty)(hf:PE X f tx)(m:M2 X o "get" apos e f cpos):PE X (.Call (.Attribute o "get" apos) [e,f] [] cpos) (zI td ty tx):=by
 intro pins s σ H Q I h
 refine wpAny_Call_method m.base m.few m.line PySem.F.plainAttrs_dict PySem.F.slot_dict_get PySem.F.type_dict_get (Gj (ho pins s σ H _ I h) λu s1 q0_ => ?_)
 obtain ⟨x,H1,I1,rx,a,ex,d,q1⟩ := q0_
 subst ex
 obtain rfl:u=Bc a:=rx
 obtain ⟨t1,t2,_⟩:=Y7 I1 d
 refine ⟨t1,t2,?_⟩
 rw[m.trees]
 refine mQ rfl (Calls.evalArgs_plain (Pe (Gj (he pins s1 σ H1 _ I1 q1) λiv s2 ⟨y,H2,I2,ry,q2⟩ =>
  Pe (Gj (hf pins s2 σ H2 _ I2 q2) λfv s3 ⟨z,H3,I3,rz,ov,g,q3⟩=>Ys ?_))))
 exact V4 hu I3 g ry rz λw' s4 I4 rw'=>⟨_,H3,I4,rw',q3⟩
end
end L2
namespace Nd
open PySem PySem.Spec PyProof.Rows L2
end Nd
namespace DL
open PySem PySem.Spec PyProof.Rows L2 Nd
def Za(ks:List (List Int×Ac))(w:List Int):Option Ac:=(ks.find? λp=>decide (p.1=w)).map (·.2)
def Ru(ks:List (List Int×Ac))(w:List Int)(d:Ac):List (List Int×Ac) :=
 if (ks.any λp=>decide (p.1=w))=true then ks.map (λp=>if p.1=w then (p.1,d) else p) else ks++[(w,d)]
theorem Qk{α β:Type}{f:α->β}(hf:∀a b,f a=f b->a=b):∀{l m:List α},l.map f=m.map f->l=m
 | [],[],_=>rfl
 | [],_::_,h=>by cases h
 | _::_,[],h=>by cases h
 | a::l,b::m,h=>by
  obtain ⟨h1,h2⟩:=Dr h
  rw[hf a b h1,Qk hf h2]
theorem Rq(h:Ck a=Ck b):a=b:=Qk (λx y e=>by cases e; rfl) (PyData.tuple.inj h)
theorem Sq(h:Qi a=Qi b):a=b:=Qk (λx y e=>by
 obtain ⟨e1,e2⟩:=Prod.mk.inj e
 exact Prod.ext (Rq e1) e2) (Dr h).2
theorem aT(h:Kg a=Kg b):a=b:=Qk (λx y e=>by cases e; rfl) h
theorem iT(w:List Int):(Kg w).map kV=w.map V.int:=by
 unfold Kg
 rw[Ce]
 rfl
section
variable{K:PySem.W.Frag}{H H':Hp}
structure DRel(K:PySem.W.Frag)(H:Hp)(kv:List (List Hm×V))(ks:List (List Int×Ac)):Prop where
 key:kv.map (·.1)=ks.map λp=>Kg p.1
 val:RdFs K H (kv.map (·.2)) (ks.map (·.2)) []
theorem RdF.dict_inv(h:RdF K H v (.dict X) F)(hX:E7 X=true:=by first | rfl | assumption):∃a kv ks,v=.ref a/\X=Qi ks/\H a=some (.dT kv)/\DRel K H kv ks/\F=[a]:=by
 cases h with
 | dic h e hs=>exact ⟨_,_,_,rfl,rfl,h,⟨e,hs⟩,rfl⟩
 | dik h e hs=>cases hX
 | dnm h e hs=>cases hX
theorem RdFs.cons_nil(h:RdFs K H (x::xs) (d::ds) F)(hF:F=[]):RdF K H x d []/\RdFs K H xs ds []:=by
 cases h with
 | cons a t =>
  obtain ⟨rfl,rfl⟩:=pO.mp hF
  exact ⟨a,t⟩
theorem Sd(r:DRel K H kv ks):kv.length=ks.length:=by
 have:=congrArg Fc r.key
 simpa using this
theorem cE(w:List Int):∀{kv:List (List Hm×V)} {ks:List (List Int×Ac)},DRel K H kv ks->(Tt kv (Kg w)=none/\Za ks w=none)\/∃v d,Tt kv (Kg w)=some v/\Za ks w=some d/\RdF K H v d []
 | [],[],_=>.inl ⟨rfl,rfl⟩
 | [],_::_,r=>by cases r.key
 | _::_,[],r=>by cases r.key
 | (k,v)::kv,(u,d)::ks,r=>by
  obtain ⟨e1,e2⟩:=Dr r.key
  have e1:k=Kg u:=e1
  obtain ⟨r1,r2⟩:=RdFs.cons_nil r.val rfl
  by_cases h:u=w
  ·subst h e1
   refine .inr ⟨v,d,Rw rfl,by simp [Za],r1⟩
  ·have hk:¬ k=Kg w:=λz=>h (aT (e1.symm.trans z))
   rw[Rj hk,show Za ((u,d)::ks) w=Za ks w by simp [Za,h]]
   exact cE w ⟨e2,r2⟩
theorem vV(w:List Int)(r:DRel K H kv ks):(kv.any λp=>decide (p.1=Kg w))=(ks.any λp=>decide (p.1=w)):=by
 have h1:(kv.any λp=>decide (p.1=Kg w))=((kv.map (·.1)).any λk=>decide (k=Kg w)):=by rw[Sg]; rfl
 rw[h1,r.key,Sg]
 congr 1
 funext p
 exact decide_eq_decide.mpr ⟨λz=>aT z,λz=>by show Kg p.1=Kg w; rw[z]⟩
theorem dP(w:List Int)(rv:RdF K H v d []):∀{kv:List (List Hm×V)} {ks:List (List Int×Ac)},DRel K H kv ks->DRel K H (kv.map λp=>if p.1=Kg w then (p.1,v) else p) (ks.map λp=>if p.1=w then (p.1,d) else p)
 | [],[],r=>r
 | [],_::_,r=>by cases r.key
 | _::_,[],r=>by cases r.key
 | (k,v')::kv,(u,d')::ks,r=>by
  obtain ⟨e1,e2⟩:=Dr r.key
  have e1:k=Kg u:=e1
  obtain ⟨r1,r2⟩:=RdFs.cons_nil r.val rfl
  have ih:=dP w rv (kv:=kv) (ks:=ks) ⟨e2,r2⟩
  rw[Aw,Aw]
  by_cases h:u=w
  ·rw[if_pos (show k=Kg w by rw[e1,h]),if_pos h]
   exact ⟨by rw[Aw,Aw,ih.key]; exact congrArg (·::_) e1,RdFs.cons (F:=[]) (G:=[]) rv ih.val⟩
  ·have hk:¬ k=Kg w:=λz=>h (aT (e1.symm.trans z))
   rw[if_neg (show ¬ (k,v').1=Kg w from hk),if_neg (show ¬ (u,d').1=w from h)]
   exact ⟨by rw[Aw,Aw,ih.key]; exact congrArg (·::_) e1,RdFs.cons (F:=[]) (G:=[]) r1 ih.val⟩
theorem lF(w:List Int)(rv:RdF K H v d [])(r:DRel K H kv ks):DRel K H (Mu kv (Kg w) v) (Ru ks w d):=by
 unfold Mu Ru
 rw[vV w r]
 split
 ·exact dP w rv r
 ·refine ⟨by rw[Be,Be,r.key]; rfl,?_⟩
  rw[Be,Be]
  exact r.val.snoc rv
theorem DRel.kp(r:DRel K H kv ks)(k:Kp [] H H'):DRel K H' kv ks:=⟨r.key,r.val.kp k⟩
end
def Q3:R2:=λx y H Q=>∃a v,x=.ref a/\jE H a y (some v)/\Q v H
def gY:D2:=λx y P=>match x,y with
 | .dat _ (.dict X),.dat _ k=>∃ks w d,X=Qi ks/\k=Ck w/\Za ks w=some d/\P (.dat .ow d)
 | _,_=>False
section
variable{K:PySem.W.Frag}
theorem Vv(r:RdF K H v (Ck w) F):∃b,v=.ref b/\H b=some (.tup ((Kg w).map kV)):=by
 obtain ⟨b,xs,rfl,hb,rb,_⟩:=r.tup_inv
 obtain ⟨rfl,_⟩:=rb.ints_inv
 exact ⟨b,rfl,by rw[iT]; exact hb⟩
theorem A9:mK K Q3 gY:=by
 intro H0 X n S T x y v w F G H Q P hA hd k
 unfold gY at hd
 split at hd
 ·obtain ⟨ks,u,d,rfl,rfl,hg,p⟩:=hd
  obtain ⟨b,rfl,hb⟩:=Vv (hA.told mem_mid)
  obtain ⟨a,kv,ks',rfl,ek,ha,rel,_⟩:=(hA.told Em).dict_inv
  obtain rfl:=Sq ek
  rcases cE u rel with ⟨_,z⟩ | ⟨v',d',h1,h2,h3⟩
  ·rw[z] at hg; cases hg
  ·rw[h2] at hg; cases hg
   exact ⟨a,v',rfl,h1▸jE.t ha hb,k _ _ [] H (hA.drop2.pushI h3) p⟩
 ·exact hd.elim
end
section
variable{X:Cx}{a b:Expr}{da db:DE}{pos:Pos}
theorem CB(hu:n+64<cLine):n+1<cLine:=by omega
theorem Zf(hu:X.A.units+64<cLine)(ha:Er X a da)(hb:Er X b db)(hs:G9 b:=by intro _ _; rfl):Er X (.Subscript a b pos) (Xq gY da db):=PE.imp (rG (CB hu) ha hb hs) (eU A9)
end
def N9:DE:=λδ P=>P (.dat .ow (.dict (Qi []))) δ
theorem At.newD{K:PySem.W.Frag}(h:At K H0 X n (S++T) H)(hp:H p=none):At K H0 X n (S++⟨some (.ref p),.dat .ow (.dict (Qi [])),[p]⟩::T) (upd H p (.dT [])):=by
 have s1:=Dl hp (.dT [])
 refine ((h.grow (n':=n) s1 (Ak _)).push (e:=⟨some (.ref p),.dat .ow (.dict (Qi [])),[p]⟩) ⟨_,rfl,.dic Co rfl .nil,λ_=>Bx.mpr ⟨Av,Dc⟩,λz=>nomatch z⟩ (λf hf=>?_) λa ha=>?_).tomid
 ·have nf:=h.free hp f hf
  refine ⟨λ_ a ha z=>?_,λ_ a ha z=>?_⟩
  ·rw[Af.mp ha] at z
   exact nf z
  ·rw[Af.mp z] at ha
   exact nf (Eo _ _ ha)
 ·rw[Af.mp ha]
  exact .inl (h.new0 hp)
theorem J0:Er X (.Dict [] [] pos) N9:=by
 refine PE.imp yF λσ H Q h=>?_
 obtain ⟨H0,Y,S,T,δ,P,rfl,hS,hA,hd,k⟩:=h
 exact λp hp=>k _ δ _ _ S _ rfl hS (hA.newD hp) hd
theorem At.writeD{K:PySem.W.Frag}{H0 H:Hp}{X:Addr->Prop}(h:At K H0 X n (⟨v,.dat .ow (.dict (Qi ks)),[a]⟩::E) H)(hv:v=some (.ref a))(np:∀e∈E,Lh e.x=false)(r:DRel K H kv' ks'):At K H0 X n (⟨v,.dat .ow (.dict (Qi ks')),[a]⟩::E) (upd H a (.dT kv')):=by
 obtain ⟨w,e1,rd,hn,ht⟩:=h.ok _ Ab
 obtain ⟨b,kv,ks0,e2,ek,ha,_,eF⟩:=rd.dict_inv
 have eF':[a]=[b]:=eF
 cases eF'
 have hs:=Bb.mp h.sep
 have kp:∀{F':List Addr},a∉F'->Kp F' H (upd H a (.dT kv')):=λ{F'} hF b o q z=>by
  have : b≠a:=by
   rintro rfl
   rw[ha] at q
   cases q
   rcases z with z | z
   ·exact hF z
   ·rcases z with ⟨_,z⟩ | ⟨_,_,z⟩ <;> cases z
  rw[Cz this]
  exact q
 have n0:H0 a=none:=by
  rcases h.new _ Ab a Ab with z | z
  ·exact z
  ·cases z.2
 refine ⟨λf hf=>?_,Bb.mpr ⟨λf hf=>⟨λhq c hc=>(hs.1 f hf).1 (.inl (np f hf)) c hc,λhq c hc=>(hs.1 f hf).2 (.inl rfl) c hc⟩,hs.2⟩,λf hf=>?_,λb o nx q=>?_,λb o q=>?_,λb hb=>?_⟩
 ·rcases Ag.mp hf with rfl | hf
  ·exact ⟨.ref a,hv,.dic Co r.key (r.val.kp (kp Av)),λ_=>Bx.mpr ⟨Av,Dc⟩,λz=>nomatch z⟩
  ·exact (h.ok f (Ae _ hf)).kp (kp ((hs.1 f hf).1 (.inl (np f hf)) a Ab)) (Ak _)
 ·rcases Ag.mp hf with rfl | hf
  ·exact λc hc=>h.new _ Ab c hc
  ·exact h.new f (Ae _ hf)
 ·rw[Cz (Dx q n0)]
  exact h.same b o nx q
 ·rw[Cz (Dx q n0)]
  exact h.dom b o q
 ·obtain ⟨z,c,k,f,h1,h2⟩:=h.xd b hb
  refine ⟨z,c,k,f,(Cz ?_).trans h1,h2⟩
  rintro rfl
  exact z n0
theorem jA{K:PySem.W.Frag}(hS:Sl S δ)(hT:∀e∈T,Lh e.x=false)(hA:At K H0 X δ.n (S++T) H)(hi:δ.sl[i]? = some (.dat .ow (.dict (Qi ks))))(np:npk δ.sl=true):∃a kv,(vs S)[i]? = some (some (.ref a))/\H a=some (.dT kv)/\DRel K H kv ks/\∀kv',DRel K H kv' ks'->∃S',vs S'=vs S/\Sl S' ⟨δ.sl.set i (.dat .ow (.dict (Qi ks'))),δ.n⟩/\At K H0 X δ.n (S'++T) (upd H a (.dT kv')):=by
 obtain ⟨ent,e2,e3⟩:=Hk hS hi
 have hm:ent∈S:=Ax e2
 obtain ⟨u,x,F⟩:=ent
 have e3':x=.dat .ow (.dict (Qi ks)):=e3
 subst e3'
 obtain ⟨v,hv,rd,_⟩:=hA.ok _ (An _ hm)
 obtain ⟨a,kv,ks0,rfl,ek,ha,rel,eF⟩:=rd.dict_inv
 obtain rfl:=Sq ek
 have eF':F=[a]:=eF
 subst eF'
 refine ⟨a,kv,by rw[Ls e2]; exact congrArg some hv,ha,rel,λkv' r=>?_⟩
 have hn:=bF hS np
 have h1:=(hA.perm ((Ji e2).append_right T)).writeD (ks':=ks') (kv':=kv') hv (λe he=>?_) r
 ·refine ⟨S.set i ⟨u,.dat .ow (.dict (Qi ks')),[a]⟩,?_,?_,h1.perm ((Nn e2).append_right T).symm⟩
  ·unfold vs
   rw[Et]
   apply Ht
   intro j
   rw[Hr]
   split
   ·rename_i hij
    subst hij
    rw[Bf,e2]
    split
    ·rfl
    ·rename_i hj
     rw[Ad] at hj
     exact absurd (Ap.mp e2).1 hj
   ·rfl
  ·unfold Sl at hS ⊢
   rw[Et,hS]
 ·rcases Ay.mp he with he | he
  ·exact hn e ((Mq S i).subset he)
  ·exact hT e he
theorem Ua{α:Type}:∀{l:List α} {i:Nat} {x:α},l[i]? = some x->l.set i x=l
 | [],_,_,h=>by simp at h
 | a::l,0,x,h=>by simp at h; subst h; rfl
 | a::l,i+1,x,h=>by
  rw[Pn,Ua (by simpa using h)]
def dputB(i:Nat)(y z:DV)(δ:DS)(D:DEnds):Prop:=match δ.sl[i]?,y,z with
 | some (.dat .ow (.dict X)),.dat _ e,.dat _ k=>npk δ.sl=true/\imm e=true/\∃ks w,X=Qi ks/\k=Ck w/\ks.length<1000000/\D.nx ⟨δ.sl.set i (.dat .ow (.dict (Qi (Ru ks w e)))),δ.n⟩
 | _,_,_=>False
def isDct:Option DV->Bool
 | some (.dat _ (.dict X))=>E7 X
 | _=>false
def R0(i:Nat)(dk de:DE):DB:=λD δ=>de δ λy δ1=>isDct δ1.sl[i]? = true/\dk δ1 λz δ2=>dputB i y z δ2 D
section
variable{X:Cx}{o i e:Expr}{dk de:DE}{apos cpos pos pos':Pos}{n:Nat}
theorem vL{K:PySem.W.Frag}(hS:Sl S δ)(hA:At K H0 Y δ.n (S++T) H)(hi:isDct δ.sl[n]? = true):∃a kv,(vs S)[n]? = some (some (.ref a))/\H a=some (.dT kv):=by
 cases q:δ.sl[n]? with
 | none=>rw[q] at hi; cases hi
 | some x =>
  rw[q] at hi
  obtain ⟨ent,e2,e3⟩:=Hk hS q
  obtain ⟨u,y,F⟩:=ent
  have e3':y=x:=e3
  subst e3'
  have hm:(⟨u,y,F⟩ : Ent)∈S:=Ax e2
  match y,hi with
  | .dat m (.dict X),hi =>
   have hX:E7 X=true:=hi
   obtain ⟨v,hv,rd,_⟩:=hA.ok _ (An _ hm)
   obtain ⟨a,kv,ks,rfl,_,ha,_⟩:=rd.dict_inv
   exact ⟨a,kv,by rw[Ls e2]; exact congrArg some hv,ha⟩
theorem M4(hu:X.A.units+64<cLine)(ho:PE X o (bX n))(hi:Er X i dk)(he:Er X e de)(hs:Kb e (some (.Subscript o i pos')) pos.line X.env=pure false:=by rfl):rJ X (.Assign [.Subscript o i pos'] e pos) (R0 n dk de):=by
 refine PS.impD (sA (CB hu) ho hi he hs) λD σ H h=>?_
 obtain ⟨H0,Y,S,T,δ,P,rfl,hS,hT,hA,hd,k1,k2,k3,k4⟩:=h
 refine ⟨H0,Y,S,T,δ,_,rfl,hS,hA,hd,λy δ1 v F S1 H1 e1 e2 hA1 p1=>?_⟩
 obtain ⟨p1,p2⟩:=p1
 obtain ⟨a,kv,hv,ha⟩:=vL e2 hA1.drop p1
 rw[e1] at hv
 refine ⟨.ref a,hv,H0,Y,S1,⟨some v,y,F⟩::T,δ1,_,e1,e2,hA1,p2,λz δ2 w G S2 H2 e3 e4 hA2 p3=>?_⟩
 unfold dputB at p3
 split at p3
 ·rename_i X0 m1 d m2 k hsl
  obtain ⟨p3,p4,ks,u,rfl,rfl,p5,p6⟩:=p3
  obtain ⟨b,rfl,hb⟩:=Vv (hA2.told mem_mid)
  have r:=hA2.told Em
  obtain rfl:=r.imm p4
  obtain ⟨a',kv',g1,g2,g3,g4⟩:=jA (ks':=Ru ks u d) e4 hT hA2.drop2 hsl p3
  rw[e3,hv] at g1
  cases g1
  obtain ⟨S3,h1,h2,h3⟩:=g4 (Mu kv' (Kg u) v) (lF u r g3)
  refine ⟨a,_,rfl,B9.t g2 hb (by rw[Sd g3]; exact Cc p5 (mC (n:=1000000) (Ak _))),?_⟩
  rw[<- e3,<- h1]
  exact k1 ⟨_,_⟩ S3 _ h2 h3 p6
 ·exact p3.elim
end
def O0:V->Int
 | .int i=>i
 | _=>0
def N6(H:Hp)(r:Addr):List Int:=match H r with
 | some (.tup xs)=>xs.map O0
 | _=>[]
theorem S5(h:H r=some (.tup (w.map V.int))):N6 H r=w:=by
 unfold N6
 rw[h]
 show (w.map V.int).map O0=w
 rw[Ce]
 exact List.map_id' w
section
variable{K:PySem.W.Frag}{H:Hp}
theorem kD:∀{ws:List (List Int)} {xs:List V} {ds:List Ac} {G:List Addr},RdFs K H xs ds G->ds=ws.map Ck->∃rs:List Addr,xs=rs.map V.ref/\ws=rs.map (N6 H)/\G=[]/\(∀r∈rs,H r=some (.tup ((N6 H r).map V.int)))/\∀r∈rs,RdF K H (.ref r) (Ck (N6 H r)) []
 | [],_,_,_,h,e=>by
  subst e
  cases h
  exact ⟨[],rfl,rfl,rfl,(λ_ z=>nomatch z),(λ_ z=>nomatch z)⟩
 | w::ws,_,_,_,h,e=>by
  cases h with
  | nil=>cases e
  | cons a t =>
   obtain ⟨e1,e2⟩:=Dr e
   obtain ⟨rs,rfl,rfl,rfl,h1,h2⟩:=kD t e2
   subst e1
   obtain ⟨r,rfl,hr⟩:=Vv a
   rw[iT] at hr
   have ew:=S5 hr
   obtain rfl:=a.imm (show imm (Ck w)=true from Oo w)
   refine ⟨r::rs,rfl,by rw[Aw,ew],rfl,λx hx=>?_,λx hx=>?_⟩
   ·rcases Ag.mp hx with rfl | hx
    ·rw[ew]; exact hr
    ·exact h1 x hx
   ·rcases Ag.mp hx with rfl | hx
    ·rw[ew]; exact a
    ·exact h2 x hx
theorem aK:∀{rs:List Addr},(∀r∈rs,RdF K H (.ref r) (Ck (N6 H r)) [])->RdFs K H (rs.map V.ref) ((rs.map (N6 H)).map Ck) []
 | [],_=>.nil
 | r::rs,h=>RdFs.cons (F:=[]) (G:=[]) (h r (Ab ..)) (aK λx hx=>h x (Ae _ hx))
theorem aG:∀L:List (List Int),Dw (L.map Ck)=true
 | []=>rfl
 | w::L=>by
  show (imm (Ck w) && Dw (L.map Ck))=true
  rw[aG L,show imm (Ck w)=true from Oo w]; rfl
end
end DL
namespace Nd
open PySem PySem.Spec PyProof.Rows L2
def Yu(h:Heap)(d:Addr)(es:Array Hy)(ep:Nat):Prop:=∃ob,h.get? d=some ob/\ob.ExactDict/\ob.data=.dict es ep
theorem Yu.at(x:Yu h d es ep)(k:∀o,h.get? d=some o->h'.get? d=some o):Yu h' d es ep:=let ⟨ob,e,r⟩:=x; ⟨ob,k ob e,r⟩
section
variable{prog:Bq}{w:World}{A:Cr}{E:Value->Aj->Prop}{s:Aj}{it d:Addr}{es:Array Hy}{i ep:Nat}
theorem Vl(hI:s.heap.IsKeyIter it d i es.size ep)(hE:Yu s.heap d es ep)(hX:es[i]? = some x)(k:∀h',h'.IsKeyIter it d (i+1) es.size ep->Dn it s.heap h'->Q (some x.key) { s with heap:=h' }):wpAny (model prog w) A (callSpecial? (.ref it) (Ds "__next__")) Q E s:=by
 obtain ⟨oi,gi,ci,di⟩:=id hI
 obtain ⟨ob,gb,xb,db⟩:=id hE
 have tI:=hI.typeIs
 refine Ed (name:=Ds "__next__") tI PySem.F.slot_dict_keyiterator_next (Ex PySem.F.slot_dict_keyiterator_next tI PySem.F.entry_dict_keyiterator_next ?_ (PySem.F.args_dict_keyiterator_next_1 _))
 refine Aa (Am (Aa (Aa ?_)))
 first | refine Aa (Jk tI (Am ?_)) | refine Aa (Lu tI (Am ?_))
 refine Aa (wpAny_fieldsOf gi di ?_)
 simp only[show Si "dict_keyiterator" = false by decide,Bv,if_false]
 show wpAny _ _ (ite ((Bc d == Iq)=true) _ _) _ _ s
 rw[if_neg (show ¬ (Bc d == Iq)=true from Br)]
 refine Aa (Am (Aa (fM gb db ?_)))
 rw[if_neg (by simp)]
 refine Aa (Am (Aa (wpAny_dictEpoch gb db ?_)))
 rw[if_neg (by simp)]
 refine Am ?_
 obtain ⟨hl,ex⟩:=Gz.mp hX
 simp only[show ¬ ((i:Int)<0) from by omega,Gp,if_false,hX]
 refine Aa ?_
 first | refine Aa (Jk tI (Am ?_)) | refine Aa (Lu tI (Am ?_))
 refine Aa (wpAny_isOneOf_keyiter tI ?_)
 show wpAny _ _ (bind (setField (.ref it) 1 (Jr ((i:Int)+1))) _) _ _ s
 refine Aa (wpAny_setField gi di (by simp) ?_)
 have nI:(s.heap.update it (Obj.mapFields (·.setIfInBounds 1 (Jr ((i:Int)+1))))).IsKeyIter it d (i+1) es.size ep :=
  ⟨_,Fz _ gi (Obj.isFreed_of_fields (Obj.data_mapFields di _)),(Obj.cls_mapFields ..).trans ci,by rw[Obj.data_mapFields di]; simp [Jr]⟩
 refine Aa (Dd (Aa (wpAny_isOneOf_keyiter (s:={ s with heap:=s.heap.update it (Obj.mapFields (·.setIfInBounds 1 (Jr ((i:Int)+1)))) }) nI.typeIs ?_)))
 show wpAny _ _ (pure x.key) _ _ _
 exact Am (Am ⟨_,rfl,k _ nI (Cm ..)⟩)
theorem eM(hh:A.handled=none)(hI:s.heap.IsKeyIter it d es.size es.size ep)(hE:Yu s.heap d es ep)(k:∀h' e,Heap.ExtBut it s.heap h'->(∃o,h'.get? e=some o/\o.cls=.type "StopIteration")->E (.ref e) { s with heap:=h' }):wpAny (model prog w) A (callSpecial? (.ref it) (Ds "__next__")) Q E s:=by
 obtain ⟨oi,gi,ci,di⟩:=id hI
 obtain ⟨ob,gb,xb,db⟩:=id hE
 have tI:=hI.typeIs
 refine Ed (name:=Ds "__next__") tI PySem.F.slot_dict_keyiterator_next (Ex PySem.F.slot_dict_keyiterator_next tI PySem.F.entry_dict_keyiterator_next ?_ (PySem.F.args_dict_keyiterator_next_1 _))
 refine Aa (Am (Aa (Aa ?_)))
 first | refine Aa (Jk tI (Am ?_)) | refine Aa (Lu tI (Am ?_))
 refine Aa (wpAny_fieldsOf gi di ?_)
 simp only[show Si "dict_keyiterator" = false by decide,Bv,if_false]
 show wpAny _ _ (ite ((Bc d == Iq)=true) _ _) _ _ s
 rw[if_neg (show ¬ (Bc d == Iq)=true from Br)]
 refine Aa (Am (Aa (fM gb db ?_)))
 rw[if_neg (by simp)]
 refine Aa (Am (Aa (wpAny_dictEpoch gb db ?_)))
 rw[if_neg (by simp)]
 refine Am ?_
 simp only[show ¬ ((es.size:Int)<0) from by omega,Gp,if_false,mT (Ak es.size)]
 refine Aa ?_
 first | refine Aa (Jk tI (Am ?_)) | refine Aa (Lu tI (Am ?_))
 show wpAny _ _ (bind (setField (.ref it) 0 .none) _) _ _ s
 refine Aa (wpAny_setField gi di (by simp) ?_)
 show wpAny _ _ (bind (newExc (.type "StopIteration") []) _) _ _ _
 refine Aa ?_
 simp only[newTuple,newExc]
 refine Aa (Dv ?_ (by size_fits))
 refine Aa (m:=Yq _ _) (wpAny_of_eq (a:=Iq) (by first | rfl | (simp only[Yq]; rfl)) (Dv ?_ (by size_fits)))
 simp only[raiseNew]
 refine Aa (wpAny_handled ?_)
 first | rw[show A.in1.handled=none from hh] | rw[hh]
 refine Aa (Am (wpAny_throw ?_))
 exact k _ _ (((Cm ..).extBut.push _).push _) ⟨_,Bg _ rfl,rfl⟩
theorem dY(hd:(d == Fu)=false)(hE:Yu s.heap d es ep)(k:Q (.ref s.heap.objs.size) { s with heap:=s.heap.push { cls:=.type "dict_keyiterator",data:=.fields #[.ref d,.int 0 0,.int es.size 0,.int ep 0] } }):wpAny (model prog w) A (pyIter (.ref d)) Q E s:=by
 obtain ⟨ob,gb,xb,db⟩:=id hE
 have tD:s.TypeIs (.ref d) "dict" := ⟨ob,gb,xb.1⟩
 refine wpAny_pyIter_slot tD PySem.F.slot_dict_iter (Ex PySem.F.slot_dict_iter tD PySem.F.entry_dict_iter ?_ (PySem.F.args_dict_iter_1 _))
 unfold Builtin.«dict.__iter__» Builtin.Dict.dictSlotNone
 refine Aa (Aa (Wl tD ?_))
 show wpAny _ _ (pure (.ref d:Value)) _ _ s
 refine Am ?_
 show wpAny _ _ (bind (Builtin.Dict.showsAll d) _) _ _ s
 unfold Builtin.Dict.showsAll
 rw[if_neg (by rw[hd]; exact Br)]
 refine Aa (Am (Aa (fM gb db (Aa (wpAny_dictEpoch gb db ?_)))))
 refine Aa (Dv (Am ⟨_,rfl, "dict_keyiterator",_,⟨_,Bg _ rfl,rfl⟩,PySem.F.slot_dict_keyiterator_next.lookup,?_⟩))
 exact k
theorem sU(hI:s.heap.IsKeyIter it d i es.size ep)(hE:Yu s.heap d es ep)(hX:es[i]? = some x)(k:∀h',h'.IsKeyIter it d (i+1) es.size ep->Dn it s.heap h'->Q (some x.key) { s with heap:=h' }):wpAny (model prog w) A (Kx (.ref it)) Q E s:=by
 unfold Kx
 exact Aa (Ik (Vl hI hE hX λh' a b=>Am (k h' a b)))
theorem xB(hh:A.handled=none)(hI:s.heap.IsKeyIter it d es.size es.size ep)(hE:Yu s.heap d es ep)(k:∀h',Heap.ExtBut it s.heap h'->Q none { s with heap:=h' }):wpAny (model prog w) A (Kx (.ref it)) Q E s:=by
 unfold Kx
 refine Aa (Ik (eM hh hI hE λh' e x q0_ => ?_))
 obtain ⟨o,ho,hc⟩ := q0_
 exact Aa (Oe (T := "StopIteration") (b:=true) ⟨o,ho,hc⟩ isSubtype_stop (Am (k h' x)))
end
theorem fH(hh:A.handled=none)(it d:Addr)(hne:d≠it)(es:Array Hy)(ep:Nat):Draws prog w A it [it,d] es.size (λi v=>∃x,es[i]? = some x/\v=x.key) (λi h=>h.IsKeyIter it d i es.size ep/\Yu h d es ep) where
 live:=λ_ _ st=>let ⟨o,ho,_⟩:=st.1; ⟨o,ho⟩
 frame:=λ_ _ _ st hk=>⟨st.1.at λo e=>hk it (by simp) o e,Yu.at st.2 λo e=>hk d (by simp) o e⟩
 item:=λi s Q E hi st hQ=>by
  unfold Da
  refine Aa (Vl st.1 st.2 (x:=es[i]) (by simp [hi]) λh' hI hs=>Am ?_)
  exact hQ _ h' s.toks ⟨_,by simp [hi],rfl⟩ ⟨hI,Yu.at st.2 λo e=>(hs.2 d hne).trans e⟩ hs
 done:=λs Q E st hE=>by
  unfold Da
  exact Aa (eM hh st.1 st.2 hE)
structure ZApart(z TI TO i1 i2:Addr)(f1 f2:List Addr):Prop where
 tiz:TI≠z
 toz:TO≠z
 z1:i1≠z
 z2:i2≠z
 tito:TI≠TO
 ti1:TI≠i1
 ti2:TI≠i2
 to1:TO≠i1
 to2:TO≠i2
 i12:i1≠i2
 zf1:z∉f1
 zf2:z∉f2
 of1:TO∉f1
 of2:TO∉f2
 if1:i2∉f1
 if2:i1∉f2
section
variable{prog:Bq}{w:World}{A:Cr}{E:Value->Aj->Prop}{s:Aj}{z TI TO i1 i2:Addr}{f1 f2:List Addr}{n1 n2 i:Nat}{P1 P2:Nat->Value->Prop}{S1 S2:Nat->Heap->Prop}
theorem Gc{f:List Addr}(h:a∉f)(hb:b∈f):b≠a:=λe=>h (e▸hb)
theorem sN{Q:Value->Aj->Prop}(D1:Draws prog w A i1 f1 n1 P1 S1)(D2:Draws prog w A i2 f2 n2 P2 S2)(ap:ZApart z TI TO i1 i2 f1 f2)(gz:IsZip s.heap z TI TO .none)(gI:Fh s.heap TI (.ref i1) (.ref i2))(gO:Fh s.heap TO a b)(g1:S1 i s.heap)(g2:S2 i s.heap)(l1:i<n1)(l2:i<n2)(k:∀x y h' tk,P1 i x->P2 i y->IsZip h' z TI TO (Jr s.heap.objs.size)->Fh h' TO x y->S1 (i+1) h'->S2 (i+1) h'->Fh h' s.heap.objs.size x y->h'.objs.size=s.heap.objs.size+1->(∀c o,c≠z->c≠TO->c≠i1->c≠i2->s.heap.get? c=some o->h'.get? c=some o)->Q (.ref s.heap.objs.size) { s with heap:=h',toks:=tk }):wpAny (model prog w) A (Builtin.«zip.__next__» ⟨[.ref z],[]⟩) (λfin s'=>∃v,fin=.done (.ret v)/\Q v s') E s:=by
 obtain ⟨hp,g,d,tk0,os⟩:=s
 show wpAny _ _ (bind (field (.ref z) 2) _) _ _ _
 refine Aa (Eu gz rfl (x:=.bool false) rfl ?_)
 show wpAny _ _ (bind (field (.ref z) 3) _) _ _ _
 refine Aa (Eu gz rfl (x:=.ref TI) rfl (Aa (Fs gI rfl ?_)))
 show wpAny _ _ (bind (Ct (.ref z)) _) _ _ _
 refine Aa ?_
 unfold Ct
 refine Aa (Eu gz rfl (x:=.none) rfl (Am ?_))
 simp only[if_true]
 refine Aa (Kw (Aa (Eu gz rfl (x:=.ref TO) rfl (Aa (Hn gz (by simp) λh1 gz1 s1=>?_)))))
 replace gz1:IsZip h1 z TI TO .ellipsis:=gz1
 replace s1:Dn z hp h1:=s1
 refine Aa ?_
 simp only[Ti,Uw,cJ,List.zipIdx_nil]
 have g11:S1 i h1:=D1.frame _ _ _ g1 λb hb o q=>(s1.2 b (Gc ap.zf1 hb)).trans q
 have g21:S2 i h1:=D2.frame _ _ _ g2 λb hb o q=>(s1.2 b (Gc ap.zf2 hb)).trans q
 refine Aa (Aa (cF ?_))
 show wpAny _ _ (bind (Da (.ref i1)) _) _ _ _
 refine Aa (D1.item i _ _ _ l1 g11 λx h2 tk1 px g12 s2=>Am ?_)
 replace s2:Dn i1 h1 h2:=s2
 have gO2:Fh h2 TO a b:=(s2.2 TO ap.to1).trans ((s1.2 TO ap.toz).trans gO)
 refine Aa (Fs gO2 rfl (Aa (Yl gO2 λh3 gO3 s3=>?_)))
 replace gO3:Fh h3 TO x b:=gO3
 replace s3:Dn TO h2 h3:=s3
 refine Aa (Mm (Am ?_))
 have g23:S2 i h3:=D2.frame _ _ _ g21 λb hb o q=>(s3.2 b (Gc ap.of2 hb)).trans ((s2.2 b (Gc ap.if2 hb)).trans q)
 refine Aa (Aa (cF ?_))
 show wpAny _ _ (bind (Da (.ref i2)) _) _ _ _
 refine Aa (D2.item i _ _ _ l2 g23 λy h4 tk2 py g24 s4=>Am ?_)
 replace s4:Dn i2 h3 h4:=s4
 have gO4:Fh h4 TO x b:=(s4.2 TO ap.to2).trans gO3
 refine Aa (Fs gO4 rfl (Aa (Yl gO4 λh5 gO5 s5=>?_)))
 replace gO5:Fh h5 TO x y:=gO5
 replace s5:Dn TO h4 h5:=s5
 refine Aa (Mm (Am (Am ?_)))
 refine Aa (Fs gO5 rfl (Aa (Yn ?_)))
 have sz:h5.objs.size=hp.objs.size:=by rw[s5.1,s4.1,s3.1,s2.1,s1.1]
 have gz5:IsZip h5 z TI TO .ellipsis:=(s5.2 z ap.toz.symm).trans ((s4.2 z ap.z2.symm).trans ((s3.2 z ap.toz.symm).trans ((s2.2 z ap.z1.symm).trans gz1)))
 have k5:∀c o,c≠z->c≠TO->c≠i1->c≠i2->hp.get? c=some o->h5.get? c=some o:=λc o c1 c2 c3 c4 e =>
  (s5.2 c c2).trans ((s4.2 c c4).trans ((s3.2 c c2).trans ((s2.2 c c3).trans ((s1.2 c c1).trans e))))
 have g15:S1 (i+1) h5:=D1.frame _ _ _ g12 λb hb o q=>(s5.2 b (Gc ap.of1 hb)).trans ((s4.2 b (Gc ap.if1 hb)).trans ((s3.2 b (Gc ap.of1 hb)).trans q))
 have g25:S2 (i+1) h5:=D2.frame _ _ _ g24 λb hb o q=>(s5.2 b (Gc ap.of2 hb)).trans q
 have zl:z<h5.objs.size:=Bh gz5
 show wpAny _ _ (bind (Po (.ref z) (.ref h5.objs.size)) _) _ _ _
 refine Aa ?_
 unfold Po
 have gz6:IsZip (h5.push { cls:=.type "tuple",data:=.seq #[x,y] }) z TI TO .ellipsis:=Ah _ gz5
 refine Aa (Hn gz6 (by simp) λh7 gz7 s7=>?_)
 replace gz7:IsZip h7 z TI TO (Jr h5.objs.size):=gz7
 refine Hn gz7 (by simp) λh8 gz8 s8=>?_
 replace gz8:IsZip h8 z TI TO (Jr h5.objs.size):=gz8
 have up:∀c o,c≠z->h5.get? c=some o->h8.get? c=some o:=λc o c1 e=>(s8.2 c c1).trans ((s7.2 c c1).trans (Ah _ e))
 have gT:Fh h8 h5.objs.size x y:=(s8.2 _ (Nat.ne_of_gt zl)).trans ((s7.2 _ (Nat.ne_of_gt zl)).trans (Bg _ rfl))
 have z8:h8.objs.size=h5.objs.size+1:=by rw[s8.1,s7.1,Ij]
 rw[sz] at gz8 gT z8
 refine Am ⟨_,rfl,?_⟩
 show Q (.ref h5.objs.size) _
 rw[sz]
 exact k x y h8 tk2 px py gz8 (up _ _ ap.toz gO5) (D1.frame _ _ _ g15 λb hb o q=>up b o (Gc ap.zf1 hb) q) (D2.frame _ _ _ g25 λb hb o q=>up b o (Gc ap.zf2 hb) q) gT z8 λc o c1 c2 c3 c4 e=>up c o c1 (k5 c o c1 c2 c3 c4 e)
theorem wX(D1:Draws prog w A i1 f1 n1 P1 S1)(D2:Draws prog w A i2 f2 n2 P2 S2)(ap:ZApart z TI TO i1 i2 f1 f2)(gz:IsZip s.heap z TI TO .none)(gI:Fh s.heap TI (.ref i1) (.ref i2))(gO:Fh s.heap TO a b)(g1:S1 i s.heap)(g2:S2 i s.heap)(hn:i=n1\/(i<n1/\i=n2))(k:∀h' e tk,(∀c o,c≠z->c≠TO->c≠i1->c≠i2->s.heap.get? c=some o->h'.get? c=some o)->(∃o,h'.get? e=some o/\o.cls=.type "StopIteration")->E (.ref e) { s with heap:=h',toks:=tk }):wpAny (model prog w) A (Builtin.«zip.__next__» ⟨[.ref z],[]⟩) Q E s:=by
 obtain ⟨hp,g,d,tk0,os⟩:=s
 show wpAny _ _ (bind (field (.ref z) 2) _) _ _ _
 refine Aa (Eu gz rfl (x:=.bool false) rfl ?_)
 show wpAny _ _ (bind (field (.ref z) 3) _) _ _ _
 refine Aa (Eu gz rfl (x:=.ref TI) rfl (Aa (Fs gI rfl ?_)))
 show wpAny _ _ (bind (Ct (.ref z)) _) _ _ _
 refine Aa ?_
 unfold Ct
 refine Aa (Eu gz rfl (x:=.none) rfl (Am ?_))
 simp only[if_true]
 refine Aa (Kw (Aa (Eu gz rfl (x:=.ref TO) rfl (Aa (Hn gz (by simp) λh1 gz1 s1=>?_)))))
 replace gz1:IsZip h1 z TI TO .ellipsis:=gz1
 replace s1:Dn z hp h1:=s1
 refine Aa ?_
 simp only[Ti,Uw,cJ,List.zipIdx_nil]
 have g11:S1 i h1:=D1.frame _ _ _ g1 λb hb o q=>(s1.2 b (Gc ap.zf1 hb)).trans q
 have g21:S2 i h1:=D2.frame _ _ _ g2 λb hb o q=>(s1.2 b (Gc ap.zf2 hb)).trans q
 refine Aa (Aa (cF ?_))
 show wpAny _ _ (bind (Da (.ref i1)) _) _ _ _
 rcases hn with rfl | ⟨l1,rfl⟩
 ·refine Aa (D1.done _ _ _ g11 λh2 e x2 he=>?_)
  obtain ⟨oe,ge,ce⟩:=he
  replace x2:Heap.ExtBut i1 h1 h2:=x2
  have gz2:IsZip h2 z TI TO .ellipsis:=x2 _ _ ap.z1.symm gz1
  have ez:e≠z:=λx=>by subst x; rw[gz2] at ge; cases ge; simp at ce
  exact Hn gz2 (by simp) λh3 _ s3=>k h3 e _ (λc o c1 _ c3 _ x=>(s3.2 c c1).trans (x2 _ _ c3 ((s1.2 c c1).trans x))) ⟨oe,(s3.2 e ez).trans ge,ce⟩
 ·refine Aa (D1.item _ _ _ _ l1 g11 λx h2 tk1 px g12 s2=>Am ?_)
  replace s2:Dn i1 h1 h2:=s2
  have gO2:Fh h2 TO a b:=(s2.2 TO ap.to1).trans ((s1.2 TO ap.toz).trans gO)
  refine Aa (Fs gO2 rfl (Aa (Yl gO2 λh3 gO3 s3=>?_)))
  replace s3:Dn TO h2 h3:=s3
  refine Aa (Mm (Am (Aa (Aa (cF ?_)))))
  have g23:S2 i h3:=D2.frame _ _ _ g21 λb hb o q=>(s3.2 b (Gc ap.of2 hb)).trans ((s2.2 b (Gc ap.if2 hb)).trans q)
  show wpAny _ _ (bind (Da (.ref i2)) _) _ _ _
  refine Aa (D2.done _ _ _ g23 λh4 e x4 he=>?_)
  obtain ⟨oe,ge,ce⟩:=he
  replace x4:Heap.ExtBut i2 h3 h4:=x4
  have gz4:IsZip h4 z TI TO .ellipsis:=x4 _ _ ap.z2.symm ((s3.2 z ap.toz.symm).trans ((s2.2 z ap.z1.symm).trans gz1))
  have ez:e≠z:=λx=>by subst x; rw[gz4] at ge; cases ge; simp at ce
  exact Hn gz4 (by simp) λh5 _ s5=>k h5 e _ (λc o c1 c2 c3 c4 x=>(s5.2 c c1).trans (x4 _ _ c4 ((s3.2 c c2).trans ((s2.2 c c3).trans ((s1.2 c c1).trans x))))) ⟨oe,(s5.2 e ez).trans ge,ce⟩
theorem uM(D1:Draws prog w A.in1 i1 f1 n1 P1 S1)(D2:Draws prog w A.in1 i2 f2 n2 P2 S2)(ap:ZApart z TI TO i1 i2 f1 f2)(gz:IsZip s.heap z TI TO .none)(gI:Fh s.heap TI (.ref i1) (.ref i2))(gO:Fh s.heap TO a b)(g1:S1 i s.heap)(g2:S2 i s.heap)(l1:i<n1)(l2:i<n2)(k:∀x y h' tk,P1 i x->P2 i y->IsZip h' z TI TO (Jr s.heap.objs.size)->Fh h' TO x y->S1 (i+1) h'->S2 (i+1) h'->Fh h' s.heap.objs.size x y->h'.objs.size=s.heap.objs.size+1->(∀c o,c≠z->c≠TO->c≠i1->c≠i2->s.heap.get? c=some o->h'.get? c=some o)->Q (some (.ref s.heap.objs.size)) { s with heap:=h',toks:=tk }):wpAny (model prog w) A (Kx (.ref z)) Q E s:=by
 have tz:s.TypeIs (.ref z) "zip" := ⟨_,gz,rfl⟩
 unfold Kx
 refine Aa (Ik (Ed (name:=Ds "__next__") tz PySem.F.slot_zip_next (Ex PySem.F.slot_zip_next tz PySem.F.entry_zip_next ?_ (PySem.F.args_zip_next_1 _))))
 exact sN D1 D2 ap gz gI gO g1 g2 l1 l2 λx y h' tk p1 p2 a1 a2 a3 a4 a5 a6 a7=>Am (k x y h' tk p1 p2 a1 a2 a3 a4 a5 a6 a7)
theorem uX(D1:Draws prog w A.in1 i1 f1 n1 P1 S1)(D2:Draws prog w A.in1 i2 f2 n2 P2 S2)(ap:ZApart z TI TO i1 i2 f1 f2)(gz:IsZip s.heap z TI TO .none)(gI:Fh s.heap TI (.ref i1) (.ref i2))(gO:Fh s.heap TO a b)(g1:S1 i s.heap)(g2:S2 i s.heap)(hn:i=n1\/(i<n1/\i=n2))(k:∀h' tk,(∀c o,c≠z->c≠TO->c≠i1->c≠i2->s.heap.get? c=some o->h'.get? c=some o)->Q none { s with heap:=h',toks:=tk }):wpAny (model prog w) A (Kx (.ref z)) Q E s:=by
 have tz:s.TypeIs (.ref z) "zip" := ⟨_,gz,rfl⟩
 unfold Kx
 refine Aa (Ik (Ed (name:=Ds "__next__") tz PySem.F.slot_zip_next (Ex PySem.F.slot_zip_next tz PySem.F.entry_zip_next ?_ (PySem.F.args_zip_next_1 _))))
 refine wX D1 D2 ap gz gI gO g1 g2 hn λh' e tk x q0_ => ?_
 obtain ⟨o,ho,hc⟩ := q0_
 exact Aa (Oe (T := "StopIteration") (b:=true) ⟨o,ho,hc⟩ isSubtype_stop (Am (k h' tk x)))
end
abbrev BH(h:Heap)(d:Addr)(n ep:Nat):Heap:=h.push { cls:=.type "dict_keyiterator",data:=.fields #[.ref d,.int 0 0,.int n 0,.int ep 0] }
abbrev FC(h:Heap)(d:Addr)(n ep:Nat)(l:Addr):Heap:=(BH h d n ep).push { cls:=.type "list_iterator",data:=.fields #[.ref l,.int 0 0] }
abbrev FI(h:Heap)(d:Addr)(n ep:Nat)(l:Addr):Heap:=(FC h d n ep l).push { cls:=.type "tuple",data:=.seq #[.ref h.objs.size,.ref (BH h d n ep).objs.size] }
abbrev FE(h:Heap)(d:Addr)(n ep:Nat)(l:Addr):Heap:=(FI h d n ep l).push { cls:=.type "tuple",data:=.seq #[.none,.none] }
abbrev AM(h:Heap)(d:Addr)(n ep:Nat)(l:Addr):Heap:=(FE h d n ep l).push { cls:=.type "zip",data:=.fields #[.none,.bool false,.bool false,.ref (FC h d n ep l).objs.size,.ref (FI h d n ep l).objs.size] }
theorem kK(d l:Addr)(es:Array Hy)(ep:Nat)(ys:Array Value)(hd:(d == Fu)=false):Meets (Builtin.«zip.__new__» ⟨[.type "zip",.ref d,.ref l],[]⟩) (λ_ R s=>Yu s.heap d es ep/\s.heap.IsList l ys/\R (.ok (.ret (.ref (FE s.heap d es.size ep l).objs.size))) { s with heap:=AM s.heap d es.size ep l }) :=
 .of_wp λprog w A R s h=>by
  obtain ⟨hp,g,dd,tk,os⟩:=s
  obtain ⟨hE,hL,q⟩:=h
  have hsub:=sub_zip
  have h1:Yu (Shared.heap ⟨hp,g,dd,tk,os⟩) d es ep:=hE
  have h2:Heap.IsList (Shared.heap ⟨BH hp d es.size ep,g,dd,tk,os⟩) l ys:=Heap.IsList.push hL _
  wp_walk using dY hd h1,fL h2
  exact ⟨_,rfl,q⟩
section
variable{prog:Bq}{w:World}{A:Cr}{E:Value->Aj->Prop}{s:Aj}
theorem oS(hd:(d == Fu)=false)(hE:Yu s.heap d es ep)(hL:s.heap.IsList l ys)(k:∀h',IsZip h' (s.heap.objs.size+4) (s.heap.objs.size+2) (s.heap.objs.size+3) .none->Fh h' (s.heap.objs.size+2) (.ref s.heap.objs.size) (.ref (s.heap.objs.size+1))->Fh h' (s.heap.objs.size+3) .none .none->h'.IsKeyIter s.heap.objs.size d 0 es.size ep->h'.IsListIter (s.heap.objs.size+1) l 0->(∀c o,s.heap.get? c=some o->h'.get? c=some o)->Q (.ref (s.heap.objs.size+4)) { s with heap:=h' }):wpAny (model prog w) A (call (.type "zip") [.ref d,.ref l]) Q E s:=by
 refine callType_new PySem.F.called_zip (by decide) (PySem.F.typeCall_zip_2 _ _) (PySem.F.newCall_zip_2 _ _) (λobj=>PySem.F.args_object_init_3 obj _ _) PySem.F.entry_zip_new (kK d l es ep ys hd) ⟨hE,hL,?_⟩
 have e1:(BH s.heap d es.size ep).objs.size=s.heap.objs.size+1:=Ij ..
 have e2:(FC s.heap d es.size ep l).objs.size=s.heap.objs.size+2:=by rw[Ij,e1]
 have e3:(FI s.heap d es.size ep l).objs.size=s.heap.objs.size+3:=by rw[Ij,e2]
 have e4:(FE s.heap d es.size ep l).objs.size=s.heap.objs.size+4:=by rw[Ij,e3]
 have p1:∀{h:Heap} {a:Addr} {u:Obj} (o:Obj),h.get? a=some u->(h.push o).get? a=some u:=λo e=>Ah _ e
 have g5:(AM s.heap d es.size ep l).get? (FE s.heap d es.size ep l).objs.size=some _:=Bg _ rfl
 have g4:(AM s.heap d es.size ep l).get? (FI s.heap d es.size ep l).objs.size=some _:=p1 _ (Bg _ rfl)
 have g3:(AM s.heap d es.size ep l).get? (FC s.heap d es.size ep l).objs.size=some _:=p1 _ (p1 _ (Bg _ rfl))
 have g2:(AM s.heap d es.size ep l).get? (BH s.heap d es.size ep).objs.size=some _:=p1 _ (p1 _ (p1 _ (Bg _ rfl)))
 have g1:(AM s.heap d es.size ep l).get? s.heap.objs.size=some _:=p1 _ (p1 _ (p1 _ (p1 _ (Bg _ rfl))))
 show _/\_
 rw[e2,e3,e4] at g5
 rw[e1,e2] at g3
 rw[e3] at g4
 rw[e1] at g2
 rw[e4]
 exact ⟨⟨_,g5,rfl⟩,k _ g5 g3 g4 ⟨_,g1,rfl,rfl⟩ ⟨_,g2,rfl,rfl⟩ λc o x=>p1 _ (p1 _ (p1 _ (p1 _ (p1 _ x))))⟩
end
theorem Xe(ok:Wk P w H h)(e:H a=some (.dT kvs)):∃(es:Array Hy),(a == Fu)=false/\Yu h a es kvs.length/\es.size=kvs.length/\∀(i:Nat) (x:Hy),es[i]? = some x->∃k b v,kvs[i]? = some (k,v)/\x.key=.ref b/\H b=some (.tup (k.map kV))/\k.length<=Au:=by
 obtain ⟨_,hd,xs,rel,o,es,ep,h1,h2,h3,h4,_,hep⟩:=(show Hj P w H h a (.dT kvs) from ok a _ e)
 have hl:es.size=kvs.length:=by
  have:=congrArg Fc h4
  rw[Ad,<- Paired.length rel] at this
  simpa using this
 refine ⟨es,hd,⟨o,h1,h2,by rw[h3,hep,hl]⟩,hl,λi x hx=>?_⟩
 have hx':es.toList[i]? = some x:=by rw[Mn]; exact hx
 rw[h4,Bf] at hx'
 cases q:xs[i]? with
 | none=>rw[q] at hx'; cases hx'
 | some y =>
  rw[q] at hx'
  cases hx'
  have go:∀{kvs:List (List Hm×V)} {xs:List (List Hm×Addr×Value)} {i:Nat},Paired (λ(p:List Hm×V) (q:List Hm×Addr×Value)=>p.1=q.1/\H q.2.1=some (.tup (p.1.map kV))/\RelV p.2 q.2.2) kvs xs->xs[i]? = some y->∃p,kvs[i]? = some p/\H y.2.1=some (.tup (p.1.map kV)):=by
   intro kvs xs i r
   induction r generalizing i with
   | nil=>intro z; simp at z
   | cons hp _ ih =>
    intro z
    cases i with
    | zero=>simp at z; subst z; exact ⟨_,rfl,hp.2.1⟩
    | succ j=>exact ih (by simpa using z)
  obtain ⟨p,hp1,hp2⟩:=go rel q
  refine ⟨p.1,y.2.1,p.2,hp1,rfl,hp2,?_⟩
  have:=(show Hj P w H h y.2.1 (.tup (p.1.map kV)) from ok _ _ hp2).1
  rwa [Ad] at this
def CP(K:PySem.W.Frag)(a b:Addr)(n:Nat):It :=
  ⟨λi H=>∃kv ys y,H a=some (.dT kv)/\kv.length=n/\Mc K H b ys/\i<n/\ys[i]? = some y,
   λi H x H'=>∃p t k v u,x=.ref p/\H p=none/\H'=upd H p (.tup [.ref t,u])/\(∀kv,H a=some (.dT kv)->kv[i]? = some (k,v))/\H t=some (.tup (k.map kV))/\k.length<=Au/\∀ys,Mc K H b ys->ys[i]? = some u,
   λi H=>∃kv ys,H a=some (.dT kv)/\kv.length=n/\Mc K H b ys/\(i=n\/(i<n/\i=ys.length))⟩
def GM(a:Addr)(n:Nat):It :=
  ⟨λi H=>∃kv,H a=some (.dT kv)/\kv.length=n/\i<n,
   λi H x H'=>∃t k v,x=.ref t/\H'=H/\(∀kv,H a=some (.dT kv)->kv[i]? = some (k,v))/\H t=some (.tup (k.map kV))/\k.length<=Au,
   λi H=>∃kv,H a=some (.dT kv)/\kv.length=n/\i=n⟩
theorem uZ{P:Bq}{K:PySem.W.Frag}(a b z TI TO i1 i2:Addr)(ap:ZApart z TI TO i1 i2 [i1,a] [i2,b])(na:a≠i1)(nb:b≠i2):Turn P w K (.Tuple elts k pos) (CP K a b n) [z,TI,TO,i1,i2] z (λi h=>IsZip h z TI TO .none/\Fh h TI (.ref i1) (.ref i2)/\(∃u v,Fh h TO u v)/\h.IsKeyIter i1 a i n n/\h.IsListIter i2 b i) where
 mem:=Ab
 obj:=λi h st c hc=>by
  obtain ⟨hz,hTI,⟨u,v,hTO⟩,⟨o1,e1,c1,d1⟩,⟨o2,e2,c2,d2⟩⟩:=st
  simp only[Ag,Av,or_false] at hc
  rcases hc with rfl | rfl | rfl | rfl | rfl
  ·exact ⟨_,hz,λv z=>by cases z⟩
  ·exact ⟨_,hTI,λv z=>by cases z⟩
  ·exact ⟨_,hTO,λv z=>by cases z⟩
  ·exact ⟨o1,e1,λv z=>by rw[d1] at z; cases z⟩
  ·exact ⟨o2,e2,λv z=>by rw[d2] at z; cases z⟩
 keep:=λi h h' st kp=>by
  obtain ⟨hz,hTI,⟨u,v,hTO⟩,h1,h2⟩:=st
  exact ⟨kp z (by simp) _ hz,kp TI (by simp) _ hTI,⟨u,v,kp TO (by simp) _ hTO⟩,h1.at λo q=>kp i1 (by simp) o q,h2.at λo q=>kp i2 (by simp) o q⟩
 item:=by
  intro X hP hw hK hc i pins s σ H E I hf st hg
  subst hP hw hK
  obtain ⟨kv,ys,y,ha,rfl,hq2,hx,hy⟩:=hg
  obtain ⟨es,hd,hE,hes,hent⟩:=Xe I.hok ha
  obtain ⟨its2,rv2,p2,hz2⟩:=I.list hq2
  obtain ⟨hz,hTI,⟨o1,o2,hTO⟩,hi1,hi2⟩:=st
  have hh:X.A.in1.handled=none:=I.ok.hd hc
  have D1:=fH (prog:=X.prog) (w:=X.w) (A:=X.A.in1) hh i1 a na es es.size
  have D2:=Draws.list (prog:=X.prog) (w:=X.w) (A:=X.A.in1) hh i2 b nb its2.toArray
  have hl2:=rv2.length
  have ly:i<its2.length:=by
   have:=(Ap.mp hy).1
   omega
  have zl:z<s.heap.objs.size:=Bh hz
  have TIl:TI<s.heap.objs.size:=Bh hTI
  have TOl:TO<s.heap.objs.size:=Bh hTO
  have i1l:i1<s.heap.objs.size:=by obtain ⟨_,q,_⟩:=hi1; exact Bh q
  have i2l:i2<s.heap.objs.size:=by obtain ⟨_,q,_⟩:=hi2; exact Bh q
  refine uM D1 D2 ap hz hTI hTO ⟨by rw[hes]; exact hi1,by rw[hes]; exact hE⟩ ⟨hi2,p2.isList⟩ (by omega) (by simpa using ly) λu1 u2 h1 tk q1 q2 a1 a2 a3 a4 a5 a6 hk=>⟨_,rfl,wpAny_letOwnedTupleGo_zip (s:={ s with heap:=h1,toks:=tk }) a1 λh2 he2 hs2=>?_⟩
  have hs2':Dn z h1 h2:=hs2
  obtain ⟨x1,ex1,rfl⟩:=q1
  obtain ⟨kk,bb,vv,ek,eb,hb,hkl⟩:=hent i x1 ex1
  rw[eb] at a2 a5
  have q2':its2[i]? = some u2:=by simpa using q2
  obtain ⟨u2',hu2,ru2⟩:=rv2.get hy
  rw[q2'] at hu2
  cases hu2
  have I1:Inv X pins σ (upd H s.heap.objs.size (.tup [.ref bb,y])) { s with heap:=s.heap.push { cls:=.type "tuple",data:=.seq #[.ref bb,u2] } } :=
   I.laid (t':=s.toks) (λb o q=>Ah _ q) (Ak _) ⟨by show 2<=Au; decide,[.ref bb,u2],.cons rfl (.cons ru2 .nil),_,Bg _ rfl,rfl,0,rfl⟩
  have nT:∀c∈[z,TI,TO,i1,i2],c≠s.heap.objs.size:=λc hc=>by
   simp only[Ag,Av,or_false] at hc
   rcases hc with rfl | rfl | rfl | rfl | rfl <;> exact Cd (by assumption)
  have fr:∀c∈[z,TI,TO,i1,i2],(upd H s.heap.objs.size (.tup [.ref bb,y])) c=none:=λc hc=>by rw[Cz (nT c hc)]; exact (hf c hc).1
  refine ⟨.ref s.heap.objs.size,_,Ni (fp:=[z,TI,TO,i1,i2]) (s:={ s with heap:=s.heap.push { cls:=.type "tuple",data:=.seq #[.ref bb,u2] } }) (h':=h2) (t':=tk) I1 (λc o hc q=>?_) (λc hc=>⟨fr c hc,(hf c hc).2⟩),rfl,⟨_,bb,kk,vv,y,rfl,I.hok.fresh (Ak _),rfl,(λkv' h'=>by rw[ha] at h'; cases h'; exact ek),hb,hkl,λzs hzs=>by rw[I.list_inj hzs hq2]; exact hy⟩,⟨he2,?_,⟨.ref bb,u2,?_⟩,?_,?_⟩,fr⟩
  ·simp only[Ag,Av,or_false,not_or] at hc
   refine (hs2'.2 c hc.1).trans ?_
   by_cases hbT:c=s.heap.objs.size
   ·subst hbT
    have q':=(Bg s.heap (o:={ cls:=.type "tuple",data:=.seq #[.ref bb,u2] }) rfl).symm.trans q
    rw[show h1.get? s.heap.objs.size=_ from a5]
    exact q'
   ·refine hk c o hc.1 hc.2.2.1 hc.2.2.2.1 hc.2.2.2.2 ?_
    have q0:(s.heap.push { cls:=.type "tuple",data:=.seq #[.ref bb,u2] }).get? c=some o:=q
    rcases Heap.get?_push_cases q0 with zz | zz
    ·exact absurd zz.1 hbT
    ·exact zz
  ·exact (hs2'.2 TI ap.tiz).trans (hk TI _ ap.tiz ap.tito ap.ti1 ap.ti2 hTI)
  ·exact (hs2'.2 TO ap.toz).trans a2
  ·rw[hes] at a3
   exact a3.1.at λo q=>(hs2'.2 i1 ap.z1).trans q
  ·exact a4.1.at λo q=>(hs2'.2 i2 ap.z2).trans q
 done:=by
  intro X hP hw hK hc i pins s σ H E I hf st hg
  subst hP hw hK
  obtain ⟨kv,ys,ha,rfl,hq2,hx⟩:=hg
  obtain ⟨es,hd,hE,hes,hent⟩:=Xe I.hok ha
  obtain ⟨its2,rv2,p2,hz2⟩:=I.list hq2
  obtain ⟨hz,hTI,⟨o1,o2,hTO⟩,hi1,hi2⟩:=st
  have hh:X.A.in1.handled=none:=I.ok.hd hc
  have D1:=fH (prog:=X.prog) (w:=X.w) (A:=X.A.in1) hh i1 a na es es.size
  have D2:=Draws.list (prog:=X.prog) (w:=X.w) (A:=X.A.in1) hh i2 b nb its2.toArray
  have hl2:=rv2.length
  refine uX D1 D2 ap hz hTI hTO ⟨by rw[hes]; exact hi1,by rw[hes]; exact hE⟩ ⟨hi2,p2.isList⟩ ?_ λh1 tk hk=>⟨rfl,Ni (fp:=[z,TI,TO,i1,i2]) (t':=tk) I (λc o hc q=>?_) hf⟩
  ·rw[hes,Ar]
   omega
  ·simp only[Ag,Av,or_false,not_or] at hc
   exact hk c o hc.1 hc.2.2.1 hc.2.2.2.1 hc.2.2.2.2 q
 self:=λ_ _ _ _ _ st h=>iX st.1 h
theorem U1(I a b:Nat)(h1:a<I)(h2:b<I):ZApart (I+4) (I+2) (I+3) I (I+1) [I,a] [I+1,b]:=by
 constructor <;> (first | (intro e; have e':(_:Nat)=_:=e; omega) | (intro e; simp only[Ag,Av,or_false] at e; rcases e with e | e <;> (have e':(_:Nat)=_:=e; omega)))
theorem tN{K:PySem.W.Frag}(a it:Addr)(na:a≠it):Turn P w K tg (GM a n) [it] it (λi h=>h.IsKeyIter it a i n n) where
 mem:=Ab
 obj:=λi h st c hc=>by
  obtain ⟨o1,e1,c1,d1⟩:=st
  rw[Af.mp hc]
  exact ⟨o1,e1,λv z=>by rw[d1] at z; cases z⟩
 keep:=λi h h' st kp=>st.at λo q=>kp it (by simp) o q
 item:=by
  intro X hP hw hK hc i pins s σ H E I hf st hg
  subst hP hw hK
  obtain ⟨kv,ha,rfl,hx⟩:=hg
  obtain ⟨es,hd,hE,hes,hent⟩:=Xe I.hok ha
  have hi:i<es.size:=by omega
  refine sU (es:=es) (by rw[hes]; exact st) (by exact hE) (x:=es[i]) (by simp [hi]) λh1 hI hs=>⟨_,rfl,?_⟩
  rw[hes] at hI
  obtain ⟨o1,e1,c1,d1⟩:=id hI
  refine qG e1 c1 d1 (by decide) ?_
  obtain ⟨kk,bb,vv,ek,eb,hb,hkl⟩:=hent i es[i] (by simp [hi])
  have hs':Dn it s.heap h1:=hs
  exact ⟨.ref bb,H,Ni (fp:=[it]) (t':=s.toks) I (λc o hc q=>(hs'.2 c λz=>hc (by simp [z])).trans q) hf,eb,⟨bb,kk,vv,rfl,rfl,λkv' h'=>by rw[ha] at h'; cases h'; exact ek,hb,hkl⟩,hI,λc hc=>(hf c hc).1⟩
 done:=by
  intro X hP hw hK hc i pins s σ H E I hf st hg
  subst hP hw hK
  obtain ⟨kv,ha,rfl,rfl⟩:=hg
  obtain ⟨es,hd,hE,hes,hent⟩:=Xe I.hok ha
  refine xB (es:=es) (I.ok.hd hc) (by rw[hes]; exact st) hE λh1 hx=>⟨rfl,Ni (fp:=[it]) (t':=s.toks) I (λc o hc q=>hx c o (λz=>hc (by simp [z])) q) hf⟩
 self:=λ_ _ _ _ _ st h=>wpAny_pyIter_keyiter st h
section
variable{X:Cx}
def EI(K:PySem.W.Frag)(ta:TA):TI:=λσ H R=>ta σ H λvs H1=>∃a b kv,vs=[.ref a,.ref b]/\H1 a=some (.dT kv)/\(∃ys,Mc K H1 b ys)/\R (CP K a b kv.length) H1
theorem EY{elts:List Expr}{k:Nat}{tp:Pos}{p pos:Pos}(hg:Gl X "zip")(hm:X.mg "zip" = none)(ha:PA X [a,b] ta)(hs:Bp [a,b] X.env=(false,eval a X.env)::Bp [b] X.env:=by rfl)(hp:(Gw pos (Bp [b] X.env)).any (·.1)=false:=by rfl):PI X (.Tuple elts k tp) (.Call (.Name "zip" p) [a,b] [] pos) (EI X.K ta):=by
 intro pins s σ H R I h
 refine Call_ (Nz I hg hm (u:=.type "zip") (by decide +kernel) (Ez (Gj (ha pos pins s σ H _ I h) λus s1 ⟨vs,H1,I1,r1,q1⟩=>?_) hs hp))
 obtain ⟨l1,l2,kv,e,hq1,⟨ys,hq2⟩,q⟩:=q1
 subst e
 obtain ⟨u1,u2,rfl,ru1,ru2⟩:=vals2 r1
 cases ru1
 cases ru2
 obtain ⟨es,hd,hE,hes,hent⟩:=Xe I1.hok hq1
 obtain ⟨its2,rv2,pl2,hz2⟩:=I1.list hq2
 have hlt1:l1<s1.heap.objs.size:=let ⟨o,q,_⟩:=hE; Bh q
 have hlt2:l2<s1.heap.objs.size:=let ⟨o,q,_⟩:=pl2.isList; Bh q
 refine oS hd hE pl2.isList λh2 hz hTI hTO hi1 hi2 hk=>iX hz ?_
 have fr1:∀n,Ms X pins H1 (s1.heap.objs.size+n):=λn=>I1.fpOk (Kl _ _) (I1.hok.fresh (Kl _ _))
 have fr:∀c∈[s1.heap.objs.size+4,s1.heap.objs.size+2,s1.heap.objs.size+3,s1.heap.objs.size,s1.heap.objs.size+1],Ms X pins H1 c:=λc hc=>by
  simp only[Ag,Av,or_false] at hc
  rcases hc with rfl | rfl | rfl | rfl | rfl
  ·exact fr1 4
  ·exact fr1 2
  ·exact fr1 3
  ·exact fr1 0
  ·exact fr1 1
 rw[hes] at hi1
 exact ⟨s1.heap.objs.size+4,_,_,_,H1,rfl,I1.kept (t':=s1.toks) hk,uZ l1 l2 _ _ _ _ _ (U1 _ _ _ hlt1 hlt2) (Cd hlt1) (Cd (Zo hlt2)),⟨hz,hTI,⟨_,_,hTO⟩,hi1,hi2⟩,fr,q⟩
def CH(te:TE):TI:=λσ H R=>te σ H λv H1=>∃a kv,v=.ref a/\H1 a=some (.dT kv)/\R (GM a kv.length) H1
theorem K2(he:PE X e te):PI X tg e (CH te):=by
 intro pins s σ H R I h
 refine Gj (he pins s σ H _ I h) λu s1 q0_ => ?_
 obtain ⟨v,H1,I1,rv,a,kv,ev,ha,q⟩ := q0_
 subst ev
 cases (show u=Bc a from rv)
 obtain ⟨es,hd,hE,hes,hent⟩:=Xe I1.hok ha
 have hlt:a<s1.heap.objs.size:=let ⟨o,q,_⟩:=hE; Bh q
 refine dY hd hE ?_
 refine ⟨s1.heap.objs.size,_,_,_,H1,rfl,I1.kept (t':=s1.toks) (λb u q=>Ah _ q),tN a _ (Cd hlt),⟨_,Bg _ rfl,rfl,by rw[hes]; rfl⟩,λc hc=>?_,q⟩
 rw[Af.mp hc]
 exact I1.fpOk (Ak _) (I1.hok.fresh (Ak _))
end
end Nd
namespace DL
open PySem PySem.Spec PyProof.Rows L2 Nd
section
variable{K:PySem.W.Frag}
theorem Y1{i:Nat}(r:DRel K H kv ks)(h:kv[i]? = some (k,v)):∃w d,ks[i]? = some (w,d)/\k=Kg w:=by
 have e:=congrArg (λl=>l[i]?) r.key
 simp only[Bf,h,Option.map_some] at e
 cases q:ks[i]? with
 | none=>rw[q] at e; cases e
 | some p=>rw[q] at e; exact ⟨p.1,p.2,rfl,Bn e⟩
theorem B2(h:H t=some (.tup ((Kg w).map kV)))(hl:(Kg w).length<=Au):RdF K H (.ref t) (Ck w) []:=by
 rw[iT] at h
 refine .tup h ?_ (RdFs.ints w)
 unfold Kg at hl
 rw[Ad] at hl ⊢
 exact hl
end
def xN(ks:List (List Int×Ac)):List (List Hm×Ac):=ks.map λp=>(Kg p.1,p.2)
section
variable{K:PySem.W.Frag}{H0 H H':Hp}{X:Addr->Prop}{n:Nat}{E S T:List Ent}
theorem zK(h1:kv.map (·.1)=(xN ks).map (·.1))(h2:RdFs K H (kv.map (·.2)) ((xN ks).map (·.2)) []):DRel K H kv ks:=by
 unfold xN at h1 h2
 rw[Ce] at h1 h2
 exact ⟨h1,h2⟩
theorem Y8(r:DRel K H kv ks):kv.map (·.1)=(xN ks).map (·.1)/\RdFs K H (kv.map (·.2)) ((xN ks).map (·.2)) []:=by
 unfold xN
 rw[Ce,Ce]
 exact ⟨r.key,r.val⟩
theorem At.dNew(h:At K H0 X n E H)(hD:H D=Pr):At K H0 X n (⟨some (.ref D),.dT (xN []),[D]⟩::E) (upd H D (.dT [])):=by
 have s1:=Dl hD (.dT [])
 refine (h.grow (n':=n) s1 (Ak _)).push ⟨D,[],rfl,rfl,Co,rfl,.nil⟩ (λf hf=>?_) λa ha=>?_
 ·have nf:=h.free hD f hf
  refine ⟨λ_ a ha z=>?_,λ_ a ha z=>?_⟩
  ·rw[Af.mp ha] at z
   exact nf z
  ·rw[Af.mp z] at ha
   exact nf (Eo _ _ ha)
 ·rw[Af.mp ha]
  exact .inl (h.new0 hD)
theorem At.dPut(h:At K H0 X n (⟨some (.ref D),.dT (xN ks),[D]⟩::E) H)(r:RdF K H v e []):∃kv,H D=some (.dT kv)/\kv.length=ks.length/\At K H0 X n (⟨some (.ref D),.dT (xN (Ru ks w e)),[D]⟩::E) (upd H D (.dT (Mu kv (Kg w) v))):=by
 obtain ⟨a,kv,e1,e0,ha,h1,h2⟩:=h.ok _ Ab
 have e1':some (V.ref D)=some (V.ref a):=e1
 cases e1'
 have rel:=zK h1 h2
 have hs:=Bb.mp h.sep
 have hE:=h.sub (Cv _ _)
 have kp:∀{F:List Addr},D∉F->Kp F H (upd H D (.dT (Mu kv (Kg w) v))):=λ{F} hF b o q z=>by
  have : b≠D:=by
   rintro rfl
   rw[ha] at q
   cases q
   rcases z with z | z
   ·exact hF z
   ·rcases z with ⟨_,z⟩ | ⟨_,_,z⟩ <;> cases z
  rw[Cz this]
  exact q
 have nD:H0 D=Pr:=by
  rcases h.new _ Ab D Ab with z | z
  ·exact z
  ·cases z.2
 have rel':=(lF w r rel).kp (kp Av)
 obtain ⟨g1,g2⟩:=Y8 rel'
 refine ⟨kv,ha,Sd rel,?_⟩
 refine ⟨λf hf=>?_,Bb.mpr ⟨λf hf=>⟨λhq a ha'=>(hs.1 f hf).1 hq a ha',λhq a ha'=>(hs.1 f hf).2 (hq.imp id id) a ha'⟩,hs.2⟩,λf hf=>?_,λb o nx q=>?_,λb o q=>?_,λb hb=>?_⟩
 rotate_right
 ·obtain ⟨z,c,k,f,h1,h2⟩:=h.xd b hb
  refine ⟨z,c,k,f,(Cz ?_).trans h1,h2⟩
  rintro rfl
  exact z nD
 ·rcases Ag.mp hf with rfl | hf
  ·exact ⟨D,_,rfl,rfl,Co,g1,g2⟩
  ·exact (hE.ok f hf).kp (kp ((hs.1 f hf).1 (.inr rfl) D Ab)) (Ak _)
 ·rcases Ag.mp hf with rfl | hf
  ·intro a ha'
   rw[Af.mp ha']
   exact .inl nD
  ·exact hE.new f hf
 ·rw[Cz (Dx q nD)]
  exact h.same b o nx q
 ·rw[Cz (Dx q nD)]
  exact h.dom b o q
theorem At.dGot(h:At K H0 X n (⟨some (.ref D),.dT (xN ks),[D]⟩::E) H):At K H0 X n (⟨some (.ref D),.dat .ow (.dict (Qi ks)),[D]⟩::E) H:=by
 obtain ⟨a,kv,e1,e0,ha,h1,h2⟩:=h.ok _ Ab
 have e1':some (V.ref D)=some (V.ref a):=e1
 cases e1'
 have rel:=zK h1 h2
 have hs:=Bb.mp h.sep
 refine (h.sub (Cv _ _)).push ⟨_,rfl,.dic ha rel.key rel.val,λ_=>Bx.mpr ⟨Av,Dc⟩,λz=>nomatch z⟩ (λf hf=>⟨λhq a ha'=>(hs.1 f hf).1 (.inr rfl) a ha',λhq a ha'=>(hs.1 f hf).2 (.inl rfl) a ha'⟩) λa ha'=>?_
 rcases h.new _ Ab a ha' with z | z
 ·exact .inl z
 ·cases z.2
end
theorem wJ(ks:List (List Int×Ac))(w:List Int)(d:Ac):(Ru ks w d).length<=ks.length+1:=by
 unfold Ru
 split
 ·rw[Ad]; omega
 ·rw[Bo]; simp
end DL
namespace Nd
open PySem PySem.Spec PySem.Calls PyProof.Rows PyProof.V L2
end Nd
namespace DL
open PySem PySem.Spec PyProof.Rows L2 Nd
def FB(K:PySem.W.Frag)(pf:PF):Sp:=λus H Q _=>∃(As:List Ent) (n:Nat) (ds:List Ac) (R:Ac->Prop) (C:List Addr),As.map Ent.v=us.map some/\(∀e∈As,Gu K H n e)/\datas (As.map Ent.x)=some ds/\pf ds R/\(∀a∈C,H a≠none/\∀e∈As,a∉e.F) /\
 ∀v d F H',R d->RdF K H' v d F->(∀a∈F,a∉C)->Mv H H'->Q v H'
def retA(R:Ac->Prop):DEnds where
 nx:=λ_=>R .none
 rt:=λx _=>∃m d,x=.dat m d/\m≠.pk/\R d
section
variable{K:PySem.W.Frag}{H0 H H':Hp}{X:Addr->Prop}{n:Nat}{E S T:List Ent}
theorem At.pushS(h:At K H0 X n E H)(r:RdF K H v d F)(fr:∀f∈E,∀a∈cells f,a∉F):At K H0 X n (⟨some v,.dat .sh d,F⟩::E) H :=
 h.push ⟨v,rfl,r,λz=>(nomatch z),λz=>(nomatch z)⟩ (λf hf=>⟨λ_ a ha=>(nomatch ha),λ_ a ha=>fr f hf a ha⟩) λa ha=>(nomatch ha)
end
section
variable{P:Bq}{w:World}{K:PySem.W.Frag}{mg:Str->Option Value}{base:Heap}
theorem CA{As:List Ent}:∀e∈As.map Xi++Gs k,∀a∈e.F,∃f∈As,a∈f.F:=λe he a ha=>by
 rcases Ay.mp he with he | he
 ·obtain ⟨f,hf,rfl⟩:=Bt.mp he
  refine ⟨f,hf,?_⟩
  obtain ⟨v,x,F⟩:=f
  cases x <;> exact ha
 ·rw[(Hd.mp he).2] at ha
  exact nomatch ha
theorem t8{x qual:Str}{st:Stmt}(F:Fun K x qual st f fd)(S:FnScope N ps (Bl st))(hb:∀(cdv:Value) (A:Cr) (outer:List Env) (s:Aj) (H:Hp) (E:XK),Room k (A.deeper (envOfC qual (Bl st) s.heap.objs.size f cdv))->Wx (Ie Ge P w K mg base N qual (Bl st) f cdv A outer s H E).nox (Iv st) db)(h:∀ds R,pf ds R->ds.length=ps.length/\db (retA R) ⟨args0 ds (N.length - ps.length),0⟩):FnOk P w K mg base Ge (k+1) f fd ps (FB K pf):=by
 refine F.ok S (λvs H Q E z=>?_) λcdv A outer s H us Q E hr z=>?_
 ·obtain ⟨As,n,ds,R,C,eu,ok,q,hp,_⟩:=z
  have l1:=(h ds R hp).1
  have l2:=Ip q
  rw[Ad] at l2
  have l3:=congrArg Fc eu
  rw[Ad,Ad] at l3
  omega
 ·obtain ⟨As,n,ds,R,C,eu,ok,q,hp,hG,k1⟩:=z
  obtain ⟨l1,hd⟩:=h ds R hp
  have l2:=Ip q
  rw[Ad] at l2
  have l3:=congrArg Fc eu
  rw[Ad,Ad] at l3
  let H0:Hp:=λa=>open Classical in if a∈C then none else H a
  have h0n:∀{a},a∈C->H0 a=none:=λz=>if_pos z
  have h0s:∀{a},a∉C->H0 a=H a:=λz=>if_neg z
  -- what holds at the end
  have ends:∀{E':List Ent} {n':Nat} {H':Hp},At K H0 (λ_=>False) n' (E'++[⟨none,.grd H,C⟩]) H'->Mv H H':=λ{E' n' H'} hA b o e=>by
   by_cases hb:b∈C
   ·obtain ⟨o',g1,g2⟩:=hA.ok _ (Al _ Ab) b hb
    rw[e] at g1
    cases g1
    exact g2
   ·exact hA.same b o (λz=>z) (by rw[h0s hb]; exact e)
  refine ⟨_,hb cdv A outer s H E hr,H0,λ_=>False,As.map Xi++Gs (N.length - ps.length),[⟨none,.grd H,C⟩],⟨args0 ds (N.length - ps.length),0⟩,retA R,?_,?_,λe z=>?_,?_,hd,λδ' S' H' e1 hA p=>?_,λx δ' v F' S' H' e1 hA p=>?_,λ_ _ _ _ _ p=>p.elim,λ_ _ _ _ _ p=>p.elim⟩
  ·unfold vs L2.start Gs
   rw[Be,K4,eu,Mf,show us.length=ps.length by omega]
  ·unfold Sl args0 Gs
   rw[Be,Rr q,Mf]
  ·rw[Af.mp z]; rfl
  ·have hs:=Zg q (N.length - ps.length)
   have hF:=CA (As:=As) (k:=N.length - ps.length)
   have gF:∀e∈As.map Xi++Gs (N.length - ps.length),∀a∈C,a∉e.F:=λe he a ha z=>by
    obtain ⟨f,hf,zf⟩:=hF e he a z
    exact (hG _ ha).2 f hf zf
   refine ⟨λe he=>?_,Ca.mpr ⟨Pt λa ha b hb'=>⟨λhq c hc=>?_,λhq c hc=>?_⟩,Gg _ _,λa ha b hb'=>⟨λhq c hc=>?_,λhq c hc=>?_⟩⟩,λe he a ha=>?_,λb o _ e=>?_,λb o e=>?_,λb hb=>hb.elim⟩
   ·rcases Ay.mp he with he | he
    ·have:=rM q ok (N.length - ps.length) e he
     obtain ⟨v,x,F⟩:=e
     cases x with
     | drw=>exact absurd (hs _ he).2 (by show ¬ (true=false); decide)
     | _=>exact this
    ·rw[Af.mp he]
     intro a ha
     have:=(hG _ ha).1
     cases q:H a with
     | none=>exact absurd q this
     | some o=>exact ⟨o,by first | rfl | exact q,by first | rfl | exact q⟩
   ·rw[(hs a ha).1] at hc; cases hc
   ·rw[(hs b hb').1] at hc; cases hc
   ·rw[(hs a ha).1] at hc; cases hc
   ·rw[Af.mp hb'] at hc
    exact gF a ha c hc
   ·rcases Ay.mp he with he | he
    ·rw[(hs e he).1] at ha; cases ha
    ·rw[Af.mp he] at ha
     exact .inl (h0n ha)
   ·by_cases hb:b∈C
    ·rw[h0n hb] at e; cases e
    ·rw[h0s hb] at e; exact e
   ·by_cases hb:b∈C
    ·rw[h0n hb] at e; cases e
    ·rw[h0s hb] at e; exact ⟨o,e⟩
  ·exact k1 .non .none [] H' p .non (λ_ z=>(nomatch z)) (ends hA)
  ·obtain ⟨m,d,rfl,hm,r⟩:=p
   obtain ⟨u,e2,rd,_⟩:=hA.ok _ mem_mid
   cases e2
   have hA2:At K H0 (λ_=>False) δ'.n ((S'++[⟨some v,.dat m d,F'⟩])++[⟨none,.grd H,C⟩]) H':=by rw[Bw]; exact hA
   refine k1 v d F' H' r rd (λa ha=>?_) (ends hA2)
   have sp:=(Ca.mp hA2.sep).2.2 _ (Al _ Ab) _ Ab
   exact λz=>sp.2 (.inr rfl) a z ha
end
def i5(pf:PF)(da:DA):DE:=λδ P=>da δ λxs δ1=>noPk xs=true/\match datas xs with
 | some ds=>pf ds λd=>P (.dat .sh d) δ1
 | none=>False
theorem bD:∀{As:List Ent},noPk (As.map Ent.x)=true->∀e∈As,Lh e.x=false
 | [],_,e,he=>nomatch he
 | ⟨v,x,F⟩::As,h,e,he=>by
  rw[Aw] at h
  have hh:Lh x=false/\noPk (As.map Ent.x)=true:=by
   cases x with
   | dat m d=>cases m <;> first | exact ⟨rfl,h⟩ | (simp [noPk] at h)
   | _=>exact ⟨rfl,by simpa [noPk] using h⟩
  rcases Ag.mp he with rfl | he
  ·exact hh.1
  ·exact bD hh.2 e he
section
variable{X:Cx}{CX:pZ}{k:Nat}{f:Addr}{fd:Cg}{ps:List Str}{pf:PF}{E:XK}{x:Str}{p pos:Pos}{e:Expr}{es:List Expr}{da:DA}
theorem i8(F:FnOk X.prog X.w X.K X.mg X.base CX k f fd ps (FB X.K pf))(hr:Room k X.A)(hg:Gl X x)(hm:X.mg x=some (.ref f))(hk:PySem.W.keepIn X.K (.ref f)=true)(hb:Binds X.K fd ps [])(hx:Pl CX X E)(ha:jK X (e::es) da)(hdb:(x == ("__debug__" : Str))=false:=by decide)(he:Bp (e::es) X.env=(false,eval e X.env)::Bp es X.env:=by rfl)(hpl:(Gw pos (Bp es X.env)).any (·.1)=false:=by rfl):Er X (.Call (.Name x p) (e::es) [] pos) (i5 pf da):=by
 refine PE.imp (Wb F hr hg hm hk hb .nil hx ha hdb he hpl) λσ H Q h=>?_
 obtain ⟨H0,Y,S,T,δ,P,rfl,hS,hA,hd,kk⟩:=h
 refine ⟨H0,Y,S,T,δ,_,rfl,hS,hA,hd,λxs δ' As us S' H' e1 e2 ex eu hA' p=>?_⟩
 subst ex
 obtain ⟨np,p⟩:=p
 cases q:datas (As.map Ent.x) with
 | none=>rw[q] at p; exact p.elim
 | some ds =>
  rw[q] at p
  rw[Ea]
  have hAs:=bD np
  have hE:=hA'.dropL
  refine ⟨As,δ'.n,ds,_,(S'++T).flatMap cells,eu,λe he=>hA'.ok e (Al _ (An _ he)),q,p,λa ha=>?_,λv d F H'' r rd fr s=>?_⟩
  ·obtain ⟨g,hg1,hg2⟩:=Ih.mp ha
   refine ⟨λz=>?_,λe he=>?_⟩
   ·obtain ⟨o,q⟩:=(hE.ok g hg1).dom a (Eo _ _ hg2)
    rw[z] at q; cases q
   ·obtain ⟨_,hp2,hp⟩ := Ca.mp hA'.sep
    rcases Ay.mp hg1 with hg1 | hg1
    ·exact (hp g hg1 e (An _ he)).1 (.inl (hAs e he)) a hg2
    ·exact ((Ca.mp hp2).2.2 e he g hg1).2 (.inl (hAs e he)) a hg2
  ·refine kk _ δ' v F S' H'' e1 e2 (((hE.grow s (Ak _)).pushS rd λf hf a ha z=>fr a z (List.mem_flatMap.mpr ⟨f,hf,ha⟩)).tomid) r
end
def HN(da:DA):DE:=λδ P=>da δ λxs δ1=>match xs with
 | [.dat _ (.tuple ds)]=>∃ns:List Int,ds=ns.map Ai/\(∀x∈ns,0<=x/\x<60)/\P (.dat .ow (.list ((Z2 ns).map Ai))) δ1
 | _=>False
def E1(K:PySem.W.Frag)(df:DF):Sp:=λus H Q _=>∃(dr:Addr) (ws:List V) (As:List Ent) (n:Nat) (ds:List Ac) (R:Ac->Nat->Prop) (C:List Addr),us=.ref dr::ws/\As.map Ent.v=ws.map some/\(∀e∈As,Gu K H n e)/\(∀e∈As,dr∉e.F)/\(∃c k f,bU H dr c k f/\0<=k/\k<=(n:Int))/\datas (As.map Ent.x)=some ds/\df ds n R /\
 dr∉C/\(∀a∈C,H a≠none/\∀e∈As,a∉e.F) /\
 ∀v d F n' H',n<=n'->R d n'->RdF K H' v d F->(∀a∈F,a∉C)->Tz dr H H'->(∃c k f,bU H' dr c k f/\0<=k/\k<=(n':Int))->Q v H'
def retWT(n:Nat)(R:Ac->Nat->Prop):DEnds where
 nx:=λδ=>n<=δ.n/\R .none δ.n
 rt:=λx δ=>n<=δ.n/\∃m d,x=.dat m d/\m≠.pk/\R d δ.n
section
variable{P:Bq}{w:World}{K:PySem.W.Frag}{mg:Str->Option Value}{base:Heap}
theorem u0{x qual:Str}{st:Stmt}{f:Addr}(F:Fun K x qual st f fd)(S:FnScope N (p0::ps) (Bl st))(hb:∀(cdv:Value) (A:Cr) (outer:List Env) (s:Aj) (H:Hp) (E:XK),Room k (A.deeper (envOfC qual (Bl st) s.heap.objs.size f cdv))->Wx (Ie Ge P w K mg base N qual (Bl st) f cdv A outer s H E).nox (Iv st) db)(h:∀ds n R,df ds n R->ds.length=ps.length/\db (retWT n R) ⟨.drw::args0 ds (N.length - (p0::ps).length),n⟩):FnOk P w K mg base Ge (k+1) f fd (p0::ps) (E1 K df):=by
 refine F.ok S (λvs H Q E z=>?_) λcdv A outer s H us Q E hr z=>?_
 ·obtain ⟨dr,ws,As,n,ds,R,C,rfl,eu,ok,nd,hdr,q,hp,_⟩:=z
  have l1:=(h ds n R hp).1
  have l2:=Ip q
  rw[Ad] at l2
  have l3:=congrArg Fc eu
  rw[Ad,Ad] at l3
  rw[Bs,Bs]
  omega
 ·obtain ⟨dr,ws,As,n,ds,R,C,rfl,eu,ok,ndr,hdr,q,hp,hC,hG,k1⟩:=z
  obtain ⟨l1,hd⟩:=h ds n R hp
  have l2:=Ip q
  rw[Ad] at l2
  have l3:=congrArg Fc eu
  rw[Ad,Ad] at l3
  let H0:Hp:=λa=>open Classical in if a∈C then none else H a
  have h0n:∀{a},a∈C->H0 a=none:=λz=>if_pos z
  have h0s:∀{a},a∉C->H0 a=H a:=λz=>if_neg z
  have ends:∀{E':List Ent} {n':Nat} {H':Hp},At K H0 (·=dr) n' (E'++[⟨none,.grd H,C⟩]) H'->Tz dr H H':=λ{E' n' H'} hA b o nb e=>by
   by_cases hb:b∈C
   ·obtain ⟨o',g1,g2⟩:=hA.ok _ (Al _ Ab) b hb
    rw[e] at g1
    cases g1
    exact g2
   ·exact hA.same b o nb (by rw[h0s hb]; exact e)
  refine ⟨_,hb cdv A outer s H E hr,H0,(·=dr),⟨some (.ref dr),.drw,[dr]⟩::(As.map Xi++Gs (N.length - (p0::ps).length)),[⟨none,.grd H,C⟩],⟨.drw::args0 ds (N.length - (p0::ps).length),n⟩,retWT n R,?_,?_,λe z=>?_,?_,hd,λδ' S' H' e1 hA p=>?_,λx δ' v F' S' H' e1 hA p=>?_,λ_ _ _ _ _ p=>p.elim,λ_ _ _ _ _ p=>p.elim⟩
  ·unfold vs L2.start Gs
   rw[Aw,Be,K4,eu,Mf,Bs,Bs,show ws.length=ps.length by omega]
   rfl
  ·unfold Sl args0 Gs
   rw[Aw,Be,Rr q,Mf]
  ·rw[Af.mp z]; rfl
  ·have hs:=Zg q (N.length - (p0::ps).length)
   have hF:=CA (As:=As) (k:=N.length - (p0::ps).length)
   have gF:∀e∈As.map Xi++Gs (N.length - (p0::ps).length),∀a∈C,a∉e.F:=λe he a ha z=>by
    obtain ⟨f,hf,zf⟩:=hF e he a z
    exact (hG a ha).2 f hf zf
   have hsub:∀e∈As.map Xi++Gs (N.length - (p0::ps).length),dr∉e.F:=λe he z=>by
    obtain ⟨f,hf,zf⟩:=hF e he dr z
    exact ndr f hf zf
   have dom0:H0 dr≠none:=by
    rw[h0s hC]
    obtain ⟨c,kk,fl,z1,z2⟩:=hdr
    exact λz=>(by rw[show H dr=some _ from z1] at z; cases z)
   refine ⟨λe he=>?_,Bb.mpr ⟨λb hb'=>?_,Ca.mpr ⟨Pt λa ha b hb'=>⟨λhq c hc=>?_,λhq c hc=>?_⟩,Gg _ _,λa ha b hb'=>⟨λhq c hc=>?_,λhq c hc=>?_⟩⟩⟩,λe he a ha=>?_,λb o _ e=>?_,λb o e=>?_,λb hb=>?_⟩
   ·rcases Ag.mp he with rfl | he
    ·obtain ⟨c,kk,fl,z1,z2,z3⟩:=hdr
     exact ⟨dr,c,kk,fl,rfl,rfl,z1,z2,z3⟩
    ·rcases Ay.mp he with he | he
     ·exact rM q ok _ e he
     ·rw[Af.mp he]
      intro a ha
      have:=(hG a ha).1
      cases q:H a with
      | none=>exact absurd q this
      | some o=>exact ⟨o,by first | rfl | exact q,by first | rfl | exact q⟩
   ·rcases Ay.mp hb' with hb' | hb'
    ·refine ⟨λhq c hc=>?_,λhq c hc=>?_⟩
     ·rw[Af.mp hc]; exact hsub b hb'
     ·rw[(hs b hb').1] at hc; cases hc
    ·rw[Af.mp hb']
     refine ⟨λhq c hc=>?_,λhq c hc z=>?_⟩
     ·rw[Af.mp hc]; exact hC
     ·rw[Af.mp z] at hc; exact hC hc
   ·rw[(hs a ha).1] at hc; cases hc
   ·rw[(hs b hb').1] at hc; cases hc
   ·rw[(hs a ha).1] at hc; cases hc
   ·rw[Af.mp hb'] at hc
    exact gF a ha c hc
   ·rcases Ag.mp he with rfl | he
    ·rw[Af.mp ha]
     exact .inr ⟨rfl,rfl⟩
    ·rcases Ay.mp he with he | he
     ·rw[(hs e he).1] at ha; cases ha
     ·rw[Af.mp he] at ha
      exact .inl (h0n ha)
   ·by_cases hb:b∈C
    ·rw[h0n hb] at e; cases e
    ·rw[h0s hb] at e; exact e
   ·by_cases hb:b∈C
    ·rw[h0n hb] at e; cases e
    ·rw[h0s hb] at e; exact ⟨o,e⟩
   ·subst hb
    obtain ⟨c,kk,fl,z1,z2⟩:=hdr
    exact ⟨dom0,c,kk,fl,z1,z2⟩
  ·exact k1 .non .none [] δ'.n H' p.1 p.2 .non (λ_ z=>(nomatch z)) (ends hA) (hA.xd dr rfl).2
  ·obtain ⟨hn,m,d,rfl,hm,r⟩:=p
   obtain ⟨u,e2,rd,_⟩:=hA.ok _ mem_mid
   cases e2
   have hA2:At K H0 (·=dr) δ'.n ((S'++[⟨some v,.dat m d,F'⟩])++[⟨none,.grd H,C⟩]) H':=by rw[Bw]; exact hA
   refine k1 v d F' δ'.n H' hn r rd (λa ha=>?_) (ends hA2) (hA.xd dr rfl).2
   have sp:=(Ca.mp hA2.sep).2.2 _ (Al _ Ab) _ Ab
   exact λz=>sp.2 (.inr rfl) a z ha
end
def gR(df:DF)(xs:List DV)(δ:DS)(P:DV->DS->Prop):Prop:=match xs with
 | .drw::ys=>noPk ys=true/\match datas ys with
  | some ds=>df ds δ.n λd n'=>P (.dat .sh d) ⟨δ.sl,n'⟩
  | none=>False
 | _=>False
def pX(df:DF)(da:DA):DE:=λδ P=>da δ λxs δ1=>gR df xs δ1 P
section
variable{X:Cx}{CX:pZ}{k:Nat}{f:Addr}{fd:Cg}{ps:List Str}{df:DF}{E:XK}{x:Str}{p pos:Pos}{e:Expr}{es:List Expr}{da:DA}
theorem uJ(F:FnOk X.prog X.w X.K X.mg X.base CX k f fd ps (E1 X.K df))(hr:Room k X.A)(hg:Gl X x)(hm:X.mg x=some (.ref f))(hk:PySem.W.keepIn X.K (.ref f)=true)(hb:Binds X.K fd ps [])(hx:Pl CX X E)(ha:jK X (e::es) da)(hdb:(x == ("__debug__" : Str))=false:=by decide)(he:Bp (e::es) X.env=(false,eval e X.env)::Bp es X.env:=by rfl)(hpl:(Gw pos (Bp es X.env)).any (·.1)=false:=by rfl):Er X (.Call (.Name x p) (e::es) [] pos) (pX df da):=by
 refine PE.imp (Wb F hr hg hm hk hb .nil hx ha hdb he hpl) λσ H Q h=>?_
 obtain ⟨H0,Y,S,T,δ,P,rfl,hS,hA,hd,kk⟩:=h
 refine ⟨H0,Y,S,T,δ,_,rfl,hS,hA,hd,λxs δ' As us S' H' e1 e2 ex eu hA' p=>?_⟩
 subst ex
 unfold gR at p
 split at p
 ·rename_i ys ey
  match As,us,ey,eu,hA' with
  | ent::As,w::us,ey,eu,hA' =>
   obtain ⟨u,z,F⟩:=ent
   have ez:z=.drw:=(Dr ey).1
   have eys:As.map Ent.x=ys:=(Dr ey).2
   subst ez eys
   obtain ⟨np,p⟩:=p
   have hAs:=bD np
   have eu1:u=some w:=(Dr eu).1
   have eu2:As.map Ent.v=us.map some:=(Dr eu).2
   have hE:(⟨u,.drw,F⟩ : Ent)∈S'++((⟨u,.drw,F⟩::As)++T):=Al _ (An _ Ab)
   obtain ⟨dr,c0,k0,f0,hv0,hF0,hd0,hk0,hk1⟩:=hA'.ok _ hE
   have ew:some w=some (V.ref dr):=eu1.symm.trans hv0
   cases ew
   have hF':F=[dr]:=hF0
   subst hF'
   have hM:=hA'.perm (jV (S:=S') (T:=As++T))
   have hMs:=Bb.mp hM.sep
   have hE0:At X.K H0 Y δ'.n (S'++T) H':=hM.sub (((Cq S').append (Cf As T)).cons _)
   cases q:datas (As.map Ent.x) with
   | none=>rw[q] at p; exact p.elim
   | some ds =>
    rw[q] at p
    rw[Ea]
    refine ⟨dr,us,As,δ'.n,ds,_,(S'++T).flatMap cells,rfl,eu2,λe he=>hA'.ok e (Al _ (An _ (Ae _ he))),λe he=>?_,⟨c0,k0,f0,hd0,hk0,hk1⟩,q,p,λz=>?_,λa ha=>?_,λv d F n' H'' hn r rd fr s hdr=>?_⟩
    ·exact (hMs.1 e (Al _ (An _ he))).1 (.inr rfl) dr Ab
    ·obtain ⟨g,hg1,hg2⟩:=Ih.mp z
     refine (hMs.1 g ?_).1 (.inr rfl) dr Ab (Eo _ _ hg2)
     rcases Ay.mp hg1 with h | h
     ·exact An _ h
     ·exact Al _ (Al _ h)
    ·obtain ⟨g,hg1,hg2⟩:=Ih.mp ha
     refine ⟨λz=>?_,λe he=>?_⟩
     ·obtain ⟨o,q⟩:=(hE0.ok g hg1).dom a (Eo _ _ hg2)
      rw[z] at q; cases q
     ·obtain ⟨_,hp2,hp⟩ := Ca.mp hMs.2
      rcases Ay.mp hg1 with hg1 | hg1
      ·exact (hp g hg1 e (An _ he)).1 (.inl (hAs e he)) a hg2
      ·exact ((Ca.mp hp2).2.2 e he g hg1).2 (.inl (hAs e he)) a hg2
    ·have hA2:=hM.drawn Ab rfl hv0 s hdr hn
     have hA3:At X.K H0 Y n' (S'++T) H'':=hA2.sub (((Cq S').append (Cf As T)).cons _)
     exact kk _ ⟨δ'.sl,n'⟩ v F S' H'' e1 e2 ((hA3.pushS rd λf hf a ha z=>fr a z (List.mem_flatMap.mpr ⟨f,hf,ha⟩)).tomid) r
 ·exact p.elim
end
abbrev PX:=List Ac->(Ac->Prop)->(Addr->Prop)->Prop
end DL
namespace Nd
open PySem PySem.Spec PyProof.Rows L2
end Nd
namespace DL
open PySem PySem.Spec PyProof.Rows L2 Nd
end DL
namespace Nd
open PySem PySem.Spec PyProof.Rows L2
abbrev ZF(h:Heap)(z TI TO:Addr)(f0 f1:Value):Prop:=h.get? z=some { cls:=.type "zip",dict:=none,data:=.fields #[f0,f1,.bool false,.ref TI,.ref TO],slots:=#[] }
section
variable{prog:Bq}{w:World}{A:Cr}{E:Value->Aj->Prop}{s:Aj}
theorem lX(ho:s.heap.get? a=some o)(h:Q (some o) s):wpAny (model prog w) A (loadIfAlive a) Q E s:=λΓ p _=>by
 unfold loadIfAlive
 rw[Sem.wp_loadIfAlive,ho]
 exact (Sem.wp_pure ..)▸h
theorem aF{z TI TO a:Addr}(hz:ZF s.heap z TI TO (Jr (a:Int)) (.bool fl))(ha:s.heap.get? a=some oa):wpAny (model prog w) A (Ct (.ref z)) (λb s'=>b=false/\∃h',s'={ s with heap:=h' }/\ZF h' z TI TO (Jr (a:Int)) (.bool true)/\Dn z s.heap h') E s:=by
 unfold Ct
 refine Aa (Eu hz rfl (x:=Jr (a:Int)) rfl ?_)
 show wpAny _ _ (loadIfAlive ((a:Int).toNat) >>= _) _ _ _
 refine Aa (lX (a:=(a:Int).toNat) (o:=oa) (by rw[Gp]; exact ha) ?_)
 simp only[Option.isNone_some,Bv,if_false]
 refine Aa (Eu hz rfl (x:=.bool fl) rfl ?_)
 cases fl with
 | false =>
  rw[if_pos (by decide)]
  exact Aa (Hn hz (by simp) λg1 hz1 hs1=>Am ⟨rfl,g1,rfl,hz1,hs1⟩)
 | true =>
  rw[if_neg (by decide)]
  exact Am ⟨rfl,s.heap,rfl,hz,⟨rfl,λ_ _=>rfl⟩⟩
theorem tL{z TI TO i1 i2 l1 l2 a:Addr}{Q:Value->Aj->Prop}(D:Qz z TI TO i1 i2 l1 l2)(hz:ZF s.heap z TI TO (Jr (a:Int)) (.bool fl))(ha:s.heap.get? a=some oa)(hTI:Fh s.heap TI (.ref i1) (.ref i2))(h1:s.heap.IsListIter i1 l1 k1)(h2:s.heap.IsListIter i2 l2 k2)(hl1:s.heap.IsList l1 xs)(hl2:s.heap.IsList l2 ys)(hx:xs[k1]? = some x)(hy:ys[k2]? = some y)(hQ:∀h',ZF h' z TI TO (Jr (a:Int)) (.bool true)->h'.IsListIter i1 l1 (k1+1)->h'.IsListIter i2 l2 (k2+1)->Fh h' s.heap.objs.size x y->h'.objs.size=s.heap.objs.size+1->(∀c o,c≠z->c≠i1->c≠i2->s.heap.get? c=some o->h'.get? c=some o)->Q (.ref s.heap.objs.size) { s with heap:=h' }):wpAny (model prog w) A (Builtin.«zip.__next__» ⟨[.ref z],[]⟩) (λfin s'=>∃v,fin=.done (.ret v)/\Q v s') E s:=by
 unfold Builtin.«zip.__next__»
 refine Aa (Am (Aa (Eu hz rfl (x:=.bool false) rfl (Aa (Eu hz rfl (x:=.ref TI) rfl (Aa (Fs hTI rfl ?_)))))))
 show wpAny _ _ (Ct (.ref z) >>= _) _ _ _
 refine Aa (Gj (aF (E:=E) hz ha) λbb s1 q0_ => ?_)
 obtain ⟨eb,g1,e1,hz1,hs1⟩ := q0_
 subst eb e1
 simp only[Bv,if_false]
 simp only[<- Wq,Ti,Uw]
 refine Aa (Aa (Aa (Dd ?_)))
 show wpAny _ _ (Da (.ref i1) >>= _) _ _ _
 refine Aa (Uy (h1.extBut hs1.extBut D.i1z) (hl1.extBut hs1.extBut D.l1z) hx λg2 q1 hs2=>Am (Am ?_))
 refine Aa (Aa (Dd ?_))
 show wpAny _ _ (Da (.ref i2) >>= _) _ _ _
 refine Aa (Uy ((h2.extBut hs1.extBut D.i2z).extBut hs2.extBut D.i12.symm) ((hl2.extBut hs1.extBut D.l2z).extBut hs2.extBut D.l2i1) hy λg3 q2 hs3=>Am (Am (Am ?_)))
 show wpAny _ _ (newTuple [x,y] >>= _) _ _ _
 refine Aa (Yn ?_)
 have sz:g3.objs.size=s.heap.objs.size:=by rw[hs3.1,hs2.1,hs1.1]
 have up:∀c o,c≠z->c≠i1->c≠i2->s.heap.get? c=some o->g3.get? c=some o:=λc o c1 c2 c3 e=>hs3.extBut _ _ c3 (hs2.extBut _ _ c2 (hs1.extBut _ _ c1 e))
 have hz3:ZF g3 z TI TO (Jr (a:Int)) (.bool true):=hs3.extBut _ _ D.i2z.symm (hs2.extBut _ _ D.i1z.symm hz1)
 have fin:=hQ (g3.push { cls:=.type "tuple",data:=.seq #[x,y] }) (Ah _ hz3) ((q1.extBut hs3.extBut D.i12).at λo e=>Ah _ e) (q2.at λo e=>Ah _ e) (by rw[<- sz]; exact Bg _ rfl) (by rw[Ij,sz]) (λc o c1 c2 c3 e=>Ah _ (up c o c1 c2 c3 e))
 refine Am ⟨_,rfl,?_⟩
 rw[<- sz] at fin
 exact fin
theorem dM{z TI TO i1 i2 l1 l2 a:Addr}(hh:A.handled=none)(D:Qz z TI TO i1 i2 l1 l2)(hz:ZF s.heap z TI TO (Jr (a:Int)) (.bool fl))(ha:s.heap.get? a=some oa)(hTI:Fh s.heap TI (.ref i1) (.ref i2))(h1:s.heap.IsListIter i1 l1 k1)(h2:s.heap.IsListIter i2 l2 k2)(hl1:s.heap.IsList l1 xs)(hl2:s.heap.IsList l2 ys)(hend:xs[k1]? = none\/ys[k2]? = none)(hE:∀h' e,(∀c o,c≠z->c≠i1->c≠i2->s.heap.get? c=some o->h'.get? c=some o)->(∃o,h'.get? e=some o/\o.cls=.type "StopIteration")->E (.ref e) { s with heap:=h' }):wpAny (model prog w) A (Builtin.«zip.__next__» ⟨[.ref z],[]⟩) Q E s:=by
 unfold Builtin.«zip.__next__»
 refine Aa (Am (Aa (Eu hz rfl (x:=.bool false) rfl (Aa (Eu hz rfl (x:=.ref TI) rfl (Aa (Fs hTI rfl ?_)))))))
 show wpAny _ _ (Ct (.ref z) >>= _) _ _ _
 refine Aa (Gj (aF (E:=E) hz ha) λbb s1 q0_ => ?_)
 obtain ⟨eb,g1,e1,hz1,hs1⟩ := q0_
 subst eb e1
 simp only[Bv,if_false]
 simp only[<- Wq,Ti,Uw]
 refine Aa (Aa (Aa (Dd ?_)))
 show wpAny _ _ (Da (.ref i1) >>= _) _ _ _
 cases hx:xs[k1]? with
 | none =>
  refine Aa (wpAny_nextOf_list_end hh (h1.extBut hs1.extBut D.i1z) (hl1.extBut hs1.extBut D.l1z) hx λg2 e hs2 he=>?_)
  exact hE g2 e (λc o c1 c2 _ q=>hs2 _ _ c2 (hs1.extBut _ _ c1 q)) he
 | some x =>
  have hy:ys[k2]? = none:=hend.resolve_left λq=>by rw[hx] at q; cases q
  refine Aa (Uy (h1.extBut hs1.extBut D.i1z) (hl1.extBut hs1.extBut D.l1z) hx λg2 q1 hs2=>Am (Am ?_))
  refine Aa (Aa (Dd ?_))
  show wpAny _ _ (Da (.ref i2) >>= _) _ _ _
  refine Aa (wpAny_nextOf_list_end hh ((h2.extBut hs1.extBut D.i2z).extBut hs2.extBut D.i12.symm) ((hl2.extBut hs1.extBut D.l2z).extBut hs2.extBut D.l2i1) hy λg3 e hs3 he=>?_)
  exact hE g3 e (λc o c1 c2 c3 q=>hs3 _ _ c3 (hs2.extBut _ _ c2 (hs1.extBut _ _ c1 q))) he
theorem oP{z TI TO i1 i2 l1 l2 a:Addr}(D:Qz z TI TO i1 i2 l1 l2)(hz:ZF s.heap z TI TO (Jr (a:Int)) (.bool fl))(ha:s.heap.get? a=some oa)(hTI:Fh s.heap TI (.ref i1) (.ref i2))(h1:s.heap.IsListIter i1 l1 k1)(h2:s.heap.IsListIter i2 l2 k2)(hl1:s.heap.IsList l1 xs)(hl2:s.heap.IsList l2 ys)(hx:xs[k1]? = some x)(hy:ys[k2]? = some y)(hQ:∀h',ZF h' z TI TO (Jr (a:Int)) (.bool true)->h'.IsListIter i1 l1 (k1+1)->h'.IsListIter i2 l2 (k2+1)->Fh h' s.heap.objs.size x y->h'.objs.size=s.heap.objs.size+1->(∀c o,c≠z->c≠i1->c≠i2->s.heap.get? c=some o->h'.get? c=some o)->Q (some (.ref s.heap.objs.size)) { s with heap:=h' }):wpAny (model prog w) A (Kx (.ref z)) Q E s:=by
 have ty:s.TypeIs (.ref z) "zip" := ⟨_,hz,rfl⟩
 unfold Kx
 refine Aa (Ik (Ed (name:=Ds "__next__") ty Ux (Ex Ux ty F.entry_zip_next (tL D hz ha hTI h1 h2 hl1 hl2 hx hy λg' b1 b2 b3 b4 b5 b6=>Am (hQ g' b1 b2 b3 b4 b5 b6)) (F.args_zip_next_1 _))))
theorem bS{z TI TO i1 i2 l1 l2 a:Addr}(hh:A.handled=none)(D:Qz z TI TO i1 i2 l1 l2)(hz:ZF s.heap z TI TO (Jr (a:Int)) (.bool fl))(ha:s.heap.get? a=some oa)(hTI:Fh s.heap TI (.ref i1) (.ref i2))(h1:s.heap.IsListIter i1 l1 k1)(h2:s.heap.IsListIter i2 l2 k2)(hl1:s.heap.IsList l1 xs)(hl2:s.heap.IsList l2 ys)(hend:xs[k1]? = none\/ys[k2]? = none)(hQ:∀h',(∀c o,c≠z->c≠i1->c≠i2->s.heap.get? c=some o->h'.get? c=some o)->Q none { s with heap:=h' }):wpAny (model prog w) A (Kx (.ref z)) Q E s:=by
 have ty:s.TypeIs (.ref z) "zip" := ⟨_,hz,rfl⟩
 unfold Kx
 refine Aa (Ik (Ed (name:=Ds "__next__") ty Ux (Ex Ux ty F.entry_zip_next (dM hh D hz ha hTI h1 h2 hl1 hl2 hend λg' e kp he=>?_) (F.args_zip_next_1 _))))
 obtain ⟨o,ho,hc⟩:=he
 exact Aa (Oe (T := "StopIteration") (b:=true) ⟨o,ho,hc⟩ isSubtype_stop (Am (hQ _ kp)))
end
end Nd
namespace Nd
open PySem PySem.Spec
theorem iH:entryFor table "zip.__getattribute__" = some Builtin.«object.__getattribute__» :=
 entryFor_alias (id' := "object.__getattribute__") (by kernel_rfl) (by first | rfl | decide +kernel) (by decide +kernel) (by kernel_rfl)
theorem lT:typeLookup (.type "zip") "keys" = pure none:=by rw[typeLookup_type,builtinLookup_eq_fast]; kernel_rfl
section
variable{prog:Bq}{w:World}{A:Cr}{E:Value->Aj->Prop}{h:Heap}{g:Array GenState}{d:Drawn}{t:Nat}{os:OsState}{a:Addr}{fs:Array Value}
theorem Zt:isSubtype (.type "AttributeError") (.type "AttributeError")=pure true:=by rw[isSubtype_type]; kernel_rfl
theorem oW(args:List Value):Yq (.type "AttributeError") args=pure Iq:=by
 have h:((Manifest.find? "AttributeError").elim false λt=>t.mro.contains "StopIteration" || t.mro.contains "SystemExit")=false:=by decide +kernel
 simp only[Yq,h]
 rfl
theorem pG(hh:A.handled=none)(hm:msg.length<=Au)(hE:∀h' t' e,(∀c o,h.get? c=some o->h'.get? c=some o)->t<=t'->(∃o,h'.get? e=some o/\o.cls=.type "AttributeError")->E (.ref e) ⟨h',g,d,t',os⟩):wpAny (model prog w) A (raiseAttrError v name msg:Sem α) Q E ⟨h,g,d,t,os⟩:=by
 unfold raiseAttrError newExc newTuple
 refine Aa (wpAny_mkStr' ?_ hm)
 refine Aa (Aa (Dv ?_ (by show (1:Nat)<=Au; decide)))
 refine Aa (wpAny_of_eq (oW _) (Dv ?_))
 generalize hh1:h.push { cls:=.type "tuple",data:=.seq [Value.str msg t].toArray }=h1
 have k1:∀c o,h.get? c=some o->h1.get? c=some o:=λc o q=>by rw[<- hh1]; exact Ah _ q
 have g0:(h1.push { cls:=.type "AttributeError",data:=.fields #[.ref h.objs.size,.none,.none,.none,.bool false,.none,Jl,Jl] }).get? h1.objs.size=some { cls:=.type "AttributeError",data:=.fields #[.ref h.objs.size,.none,.none,.none,.bool false,.none,Jl,Jl] }:=Bg _ rfl
 show wpAny _ _ _ _ _ ⟨h1.push { cls:=.type "AttributeError",data:=.fields #[.ref h.objs.size,.none,.none,.none,.bool false,.none,Jl,Jl] },g,d,t+1,os⟩
 have k2:∀c o,h1.get? c=some o->(h1.push { cls:=.type "AttributeError",data:=.fields #[.ref h.objs.size,.none,.none,.none,.bool false,.none,Jl,Jl] }).get? c=some o:=λc o q=>Ah _ q
 have k3:∀c o,h1.get? c=some o->c≠h1.objs.size:=λc o q=>Cd (Bh q)
 generalize h1.push { cls:=.type "AttributeError",data:=.fields #[.ref h.objs.size,.none,.none,.none,.bool false,.none,Jl,Jl] }=h2 at g0 k2 ⊢
 refine Aa (wpAny_mkText ?_)
 refine Aa ?_
 unfold noteAttr
 show wpAny _ _ (lacksNameAndObj (.ref h1.objs.size) >>= _) _ _ _
 refine Aa ?_
 unfold lacksNameAndObj
 have ty:(⟨h2,g,d,t+1+1,os⟩ : Aj).TypeIs (.ref h1.objs.size) "AttributeError" := ⟨_,g0,rfl⟩
 refine Aa (Oe ty Zt ?_)
 simp only[Bool.not_true,Bv,if_false]
 refine Aa (wpAny_load g0 ?_)
 show wpAny _ _ (pure true) _ _ _
 refine Am ?_
 simp only[if_true]
 refine Aa (Kw ?_)
 refine Aa (La ty ?_)
 show wpAny _ _ (layMembers h1.objs.size 6 _) _ _ _
 unfold layMembers
 refine Aa (wpAny_load g0 ?_)
 refine wpAny_update g0 ?_
 refine wpAny_raiseNew_none hh (hE _ _ _ (λc o q=>?_) (by show t<=t+1+1; omega) ⟨_,Fz _ g0 rfl,rfl⟩)
 exact Heap.get?_update_of_ne _ (k3 c o (k1 c o q)).symm (k2 c o (k1 c o q))
theorem pI(hh:A.handled=none)(hx:h.get? a=some { cls:=.type "zip",dict:=none,data:=.fields fs,slots:=#[] })(hE:∀h' t' e,(∀c o,h.get? c=some o->h'.get? c=some o)->t<=t'->(∃o,h'.get? e=some o/\o.cls=.type "AttributeError")->E (.ref e) ⟨h',g,d,t',os⟩):wpAny (model prog w) A (Builtin.«object.__getattribute__» ⟨[.ref a,.str "keys" tk],[]⟩) Q E ⟨h,g,d,t,os⟩:=by
 have hT:(⟨h,g,d,t,os⟩ : Aj).TypeIs (.ref a) "zip" := ⟨_,hx,rfl⟩
 have f4:=lT
 repeat (any_goals (first | assumption | wp_step))
 exact pG hh (by decide +kernel) hE
theorem uB(hh:A.handled=none)(hx:h.get? a=some { cls:=.type "zip",dict:=none,data:=.fields fs,slots:=#[] })(hE:∀h' t' e,(∀c o,h.get? c=some o->h'.get? c=some o)->t<=t'->(∃o,h'.get? e=some o/\o.cls=.type "AttributeError")->R (.error (.ref e)) ⟨h',g,d,t',os⟩):Oj (model prog w) A (.call (.builtin "zip.__getattribute__") ⟨[.ref a,.str "keys" tk],[]⟩) R ⟨h,g,d,t,os⟩ :=
 codeAny_call_builtin F.slot_zip_getattribute.plain iH (F.slot_zip_getattribute.check _ _ _ _ _ _ _ _ (show (⟨h,g,d,t,os⟩ : Aj).TypeIs (.ref a) "zip" from ⟨_,hx,rfl⟩) (F.args_zip_getattribute_2 _ _) (pI hh hx hE))
theorem sS:typeLookup (.type "zip") "__getattr__" = pure none:=by rw[typeLookup_type,builtinLookup_eq_fast]; kernel_rfl
theorem E9(hh:A.handled=none)(hx:h.get? a=some { cls:=.type "zip",dict:=none,data:=.fields fs,slots:=#[] })(hE:∀h' t' e,(∀c o,h.get? c=some o->h'.get? c=some o)->t<=t'->(∃o,h'.get? e=some o/\o.cls=.type "AttributeError")->E (.ref e) ⟨h',g,d,t',os⟩):wpAny (model prog w) A (getAttrBy (.ref a) (.str "keys" tk) false) Q E ⟨h,g,d,t,os⟩:=by
 have hT:(⟨h,g,d,t,os⟩ : Aj).TypeIs (.ref a) "zip" := ⟨_,hx,rfl⟩
 have f2:=F.slot_zip_getattribute.lookup
 have f3:=F.slot_zip_getattribute.bind (.ref a)
 have f5:=sS
 repeat (any_goals (first | assumption | wp_step))
 refine uB hh hx λh' t' e kp lt he=>?_
 obtain ⟨o,ho,hc⟩:=he
 have ty:(⟨h',g,d,t',os⟩ : Aj).TypeIs (.ref e) "AttributeError" := ⟨_,ho,hc⟩
 have f6:=Zt
 have fin:=hE h' t' e kp lt ⟨o,ho,hc⟩
 repeat (any_goals (first | assumption | wp_step))
theorem sT(hh:A.handled=none)(hx:h.get? a=some { cls:=.type "zip",dict:=none,data:=.fields fs,slots:=#[] })(hQ:∀h' t',(∀c o,h.get? c=some o->h'.get? c=some o)->t<=t'->Q none ⟨h',g,d,t',os⟩):wpAny (model prog w) A (getAttr? (.ref a) "keys") Q E ⟨h,g,d,t,os⟩:=by
 unfold getAttr? getAttrBy?
 refine Aa (wpAny_mkText (Aa (Ik (E9 hh hx λh' t' e kp lt he=>?_))))
 obtain ⟨o,ho,hc⟩:=he
 exact Aa (Oe (T := "AttributeError") (b:=true) ⟨o,ho,hc⟩ Zt (Am (hQ _ _ kp (Nat.le_of_succ_le lt))))
end
end Nd
namespace Nd
open PySem PySem.Spec PyProof.Rows L2
theorem Rh:entryFor table "dict.update.loop" = some Builtin.«dict.update.loop»:=entryFor_of_tree (by kernel_rfl)
theorem Lc:plainId "dict.update.loop" = true:=by decide +kernel
def W2(h:Heap)(z TI TO i1 i2 l1 l2:Addr)(k:Nat):Prop:=Fh h TI (.ref i1) (.ref i2)/\h.IsListIter i1 l1 k/\h.IsListIter i2 l2 k /\
 ((IsZip h z TI TO .none/\∃u v,Fh h TO u v)\/∃(a:Addr) (oa:Obj) (fl:Bool),ZF h z TI TO (Jr (Int.ofNat a)) (.bool fl)/\h.get? a=some oa)
theorem W2.keep{z TI TO i1 i2 l1 l2 D:Addr}(st:W2 h z TI TO i1 i2 l1 l2 k)(hs:∀c,c≠D->h'.get? c=h.get? c)(hD:∃o,h'.get? D=some o)(n:∀c∈[z,TI,TO,i1,i2],c≠D):W2 h' z TI TO i1 i2 l1 l2 k:=by
 obtain ⟨a,b,c,d⟩:=st
 have n1:=n z (by simp)
 have n2:=n TI (by simp)
 have n3:=n TO (by simp)
 have n4:=n i1 (by simp)
 have n5:=n i2 (by simp)
 refine ⟨(hs TI n2).trans a,b.at λo q=>(hs i1 n4).trans q,c.at λo q=>(hs i2 n5).trans q,?_⟩
 rcases d with ⟨d,u,v,e⟩ | ⟨a,oa,fl,d,e⟩
 ·exact .inl ⟨(hs z n1).trans d,u,v,(hs TO n3).trans e⟩
 ·refine .inr ?_
  by_cases q:a=D
  ·obtain ⟨o,ho⟩:=hD
   exact ⟨a,o,fl,(hs z n1).trans d,by rw[q]; exact ho⟩
  ·exact ⟨a,oa,fl,(hs z n1).trans d,(hs a q).trans e⟩
section
variable{prog:Bq}{w:World}{A:Cr}{E:Value->Aj->Prop}{s:Aj}{z TI TO i1 i2 l1 l2:Addr}{k:Nat}{xs ys:Array Value}{x y:Value}{Q:Option Value->Aj->Prop}
theorem yW(D:Qz z TI TO i1 i2 l1 l2)(st:W2 s.heap z TI TO i1 i2 l1 l2 k)(hl1:s.heap.IsList l1 xs)(hl2:s.heap.IsList l2 ys)(hx:xs[k]? = some x)(hy:ys[k]? = some y)(hQ:∀h',W2 h' z TI TO i1 i2 l1 l2 (k+1)->Fh h' s.heap.objs.size x y->(∀c o,c∉[z,TI,TO,i1,i2]->s.heap.get? c=some o->h'.get? c=some o)->Q (some (.ref s.heap.objs.size)) { s with heap:=h' }):wpAny (model prog w) A (Kx (.ref z)) Q E s:=by
 obtain ⟨a,b,c,d⟩:=st
 rcases d with ⟨d,u,v,e⟩ | ⟨a',oa,fl,d,e⟩
 ·refine wpAny_pyNext_zip_item D d a e b c hl1 hl2 hx hy λh' q1 q2 q3 q4 q5 q6 q7=>hQ h' ⟨q7 TI _ D.TIz D.TITO D.TIi1 D.TIi2 a,q3,q4,.inr ⟨_,_,false,q1,q5⟩⟩ q5 λc o hc q=>?_
  simp only[Ag,Av,or_false,not_or] at hc
  exact q7 c o hc.1 hc.2.2.1 hc.2.2.2.1 hc.2.2.2.2 q
 ·refine oP D d e a b c hl1 hl2 hx hy λh' q1 q2 q3 q4 q5 q6=>?_
  have up:∀c o,c∉[z,TI,TO,i1,i2]->s.heap.get? c=some o->h'.get? c=some o:=λc o hc q=>by
   simp only[Ag,Av,or_false,not_or] at hc
   exact q6 c o hc.1 hc.2.2.2.1 hc.2.2.2.2 q
  refine hQ h' ⟨q6 TI _ D.TIz D.TIi1 D.TIi2 a,q2,q3,.inr ?_⟩ q4 up
  by_cases g1:a'=z
  ·subst g1
   exact ⟨a',_,true,q1,q1⟩
  by_cases g2:a'=i1
  ·subst g2
   obtain ⟨o,q,_⟩:=q2
   exact ⟨a',o,true,q1,q⟩
  by_cases g3:a'=i2
  ·subst g3
   obtain ⟨o,q,_⟩:=q3
   exact ⟨a',o,true,q1,q⟩
  exact ⟨a',oa,true,q1,q6 a' _ g1 g2 g3 e⟩
theorem G7(hh:A.handled=none)(D:Qz z TI TO i1 i2 l1 l2)(st:W2 s.heap z TI TO i1 i2 l1 l2 k)(hl1:s.heap.IsList l1 xs)(hl2:s.heap.IsList l2 ys)(he:xs[k]? = none\/ys[k]? = none)(hQ:∀h',(∀c o,c∉[z,TI,TO,i1,i2]->s.heap.get? c=some o->h'.get? c=some o)->Q none { s with heap:=h' }):wpAny (model prog w) A (Kx (.ref z)) Q E s:=by
 obtain ⟨a,b,c,d⟩:=st
 rcases d with ⟨d,u,v,e⟩ | ⟨a',oa,fl,d,e⟩
 ·refine wpAny_pyNext_zip_end hh D d a e b c hl1 hl2 he λh' q7=>hQ h' λc o hc q=>?_
  simp only[Ag,Av,or_false,not_or] at hc
  exact q7 c o hc.1 hc.2.2.1 hc.2.2.2.1 hc.2.2.2.2 q
 ·refine bS hh D d e a b c hl1 hl2 he λh' q6=>hQ h' λc o hc q=>?_
  simp only[Ag,Av,or_false,not_or] at hc
  exact q6 c o hc.1 hc.2.2.2.1 hc.2.2.2.2 q
end
section
variable{X:Cx}{pins:List (Addr×Obj)}{σ:L2.St}{H:Hp}{s:Aj}{a b:Addr}{v:V}{r:Value}{A:Cr}{E:Value->Aj->Prop}{kvs:List (List Hm×V)}{k:List Hm}
theorem nW(hu:A.units+1<cLine)(I:Inv X pins σ H s)(e:H a=some (.dT kvs))(eb:H b=some (.tup (k.map kV)))(l:kvs.length<Au)(rv:RelV v r)(h:∀s',Inv X pins σ (upd H a (.dT (Mu kvs k v))) s'->(∀c,c≠a->s'.heap.get? c=s.heap.get? c)->(∃o,s'.heap.get? a=some o)->Q () s'):wpAny (model X.prog X.w) A (dictSet a (.ref b) r) Q E s:=by
 obtain ⟨z,hd,xs,rel,dd⟩:=wA I.hok (.inl e)
 have hz:xs.length<=Au:=by rw[<- Paired.length rel]; exact z
 have hl:(Mu kvs k v).length<=Au:=by have:=Rt kvs k v; omega
 refine kE (hz:=hz) (show (Qu _).room A from Nat.lt_of_succ_lt hu) (Xn I.hok eb) dd λh' dd' hs=>?_
 obtain ⟨q,es,ep,hq,h2,h3,h4,_,h5⟩:=dd'
 exact h _ (iB I (by rw[e]; exact Kd) hs ⟨q,hq⟩ ⟨hl,hd,_,(rel.put k eb rv).keeps λc ys ec=>(Cz (sI ec e (λz=>nomatch z))).trans ec,q,es,ep,hq,h2,h3,h4,h5⟩) (λc hc=>hs.2 c hc) ⟨q,hq⟩
theorem yQ{z TI TO i1 i2 l1 l2 D:Addr}(hh:A.handled=none)(hu:A.units+2<cLine)(Z:Qz z TI TO i1 i2 l1 l2)(W:Nat->Hp->Prop)(hW:∀i H x y,xs[i]? = some x->ys[i]? = some y->W i H->Mc X.K H l1 xs/\Mc X.K H l2 ys/\∃kvs k p,H D=some (.dT kvs)/\x=.ref p/\H p=some (.tup (k.map kV))/\kvs.length<Au/\W (i+1) (upd H D (.dT (Mu kvs k y))))(hE:∀H,W (min xs.length ys.length) H->Mc X.K H l1 xs/\Mc X.K H l2 ys)(hR:∀H s',W (min xs.length ys.length) H->Inv X pins σ H s'->R (.ok (.ret .none)) s'):∀n i s H,n=min xs.length ys.length - i->i<=min xs.length ys.length->Inv X pins σ H s->W2 s.heap z TI TO i1 i2 l1 l2 i->(∀c∈[z,TI,TO,i1,i2],Ms X pins H c)->W i H->Oj (model X.prog X.w) A (.builtin "dict.update.loop" ⟨[.ref D,.ref z,Jr (i:Int),.none],[]⟩) R s:=by
 intro n
 induction n with
 | zero =>
  intro i s H hn hi I st hf w0
  have e:i=min xs.length ys.length:=by omega
  subst e
  obtain ⟨q1,q2⟩:=hE H w0
  obtain ⟨its1,rv1,p1,_⟩:=I.list q1
  obtain ⟨its2,rv2,p2,_⟩:=I.list q2
  have hl1:=rv1.length
  have hl2:=rv2.length
  refine Wg Rh ?_
  rw[Mx Lc _]
  unfold Builtin.«dict.update.loop»
  refine Aa (G7 (A:=A.in1) hh Z st p1.isList p2.isList ?_ λh' kp=>?_)
  ·by_cases q:xs.length<=min xs.length ys.length
   ·exact .inl (by simp; omega)
   ·exact .inr (by simp; omega)
  have I':=Ni (t':=s.toks) I kp hf
  show wpAny _ _ (Builtin.Dict.addKeywords D [] >>= _) _ _ _
  exact Aa (Am (Am (hR _ _ w0 I')))
 | succ n ih =>
  intro i s H hn hi I st hf w0
  have l1:i<xs.length:=by omega
  have l2:i<ys.length:=by omega
  obtain ⟨q1,q2,kvs,k,p,hD,ex,hp,hz,w1⟩:=hW i H _ _ (Ba l1) (Ba l2) w0
  obtain ⟨its1,rv1,p1,_⟩:=I.list q1
  obtain ⟨its2,rv2,p2,_⟩:=I.list q2
  obtain ⟨u1,hu1,ru1⟩:=rv1.get (Ba l1)
  obtain ⟨u2,hu2,ru2⟩:=rv2.get (Ba l2)
  rw[ex] at ru1
  cases (show u1=Bc p from ru1)
  refine Wg Rh ?_
  rw[Mx Lc _]
  unfold Builtin.«dict.update.loop»
  refine Aa (yW (A:=A.in1) Z st p1.isList p2.isList (x:=.ref p) (y:=u2) (by simpa using hu1) (by simpa using hu2) λh' st' hpr kp=>?_)
  have I':=Ni (t':=s.toks) I kp hf
  have nD:∀c∈[z,TI,TO,i1,i2],c≠D:=λc hc e=>by
   have:=(hf c hc).1
   rw[e,hD] at this
   cases this
  refine Aa (Dd ?_)
  refine Aa (Ym ?_)
  unfold Builtin.Dict.pairItems
  have ty:({ s with heap:=h' }:Aj).TypeIs (.ref s.heap.objs.size) "tuple" := ⟨_,hpr,rfl⟩
  refine Aa (La ty ?_)
  rw[if_pos (by decide)]
  refine Aa (Fs hpr rfl (Am ?_))
  show wpAny _ _ (holding [.ref p,u2] (dictSet D (.ref p) u2)) _ _ _
  refine Dd (nW (A:=A.in1) hu I' hD hp hz ru2 λs2 I2 k2 o2=>?_)
  refine Am ⟨Oi Lc _,?_⟩
  have g:=ih (i+1) s2 _ (by omega) (by omega) I2 (st'.keep k2 o2 nD) (λc hc=>⟨by rw[Cz (nD c hc)]; exact (hf c hc).1,(hf c hc).2⟩) w1
  rw[show ((i+1:Nat):Int)=(i:Int)+1 by omega] at g
  exact g
theorem jP{z TI TO i1 i2 l1 l2:Addr}(hh:A.handled=none)(hu:A.units+8<cLine)(Z:Qz z TI TO i1 i2 l1 l2)(I:Inv X pins σ H1 s)(hz:IsZip s.heap z TI TO .none)(hTI:Fh s.heap TI (.ref i1) (.ref i2))(hTO:∃u v,Fh s.heap TO u v)(h1:s.heap.IsListIter i1 l1 0)(h2:s.heap.IsListIter i2 l2 0)(hf:∀c∈[z,TI,TO,i1,i2],Ms X pins H1 c)(hq:∀D,H1 D=none->∃W:Nat->Hp->Prop,W 0 (upd H1 D (.dT []))/\(∀i H x y,xs[i]? = some x->ys[i]? = some y->W i H->Mc X.K H l1 xs/\Mc X.K H l2 ys/\∃kvs k p,H D=some (.dT kvs)/\x=.ref p/\H p=some (.tup (k.map kV))/\kvs.length<Au/\W (i+1) (upd H D (.dT (Mu kvs k y))))/\∀H,W (min xs.length ys.length) H->Mc X.K H l1 xs/\Mc X.K H l2 ys/\∀s',Inv X pins σ H s'->Q (.ref D) s'):wpAny (model X.prog X.w) A (call (.type "dict") [.ref z]) Q E s:=by
 refine callType_codes (Q₁:=λobj s₁=>obj=.ref s.heap.objs.size/\s₁={ s with heap:=s.heap.push { cls:=.type "dict",data:=.dict #[] } }) F.kt_called_dict (F.kt_typeCall_dict_1 _) F.entry_dict_init (kt_code_dict_new _ ⟨rfl,rfl⟩) ?_
 rintro obj s₁ ⟨rfl,rfl⟩
 have fD:H1 s.heap.objs.size=none:=I.hok.fresh (Ak _)
 obtain ⟨W,w0,hW,hE⟩:=hq s.heap.objs.size fD
 have gW:({ s with heap:=s.heap.push { cls:=.type "dict",data:=.dict #[] } }:Aj).TypeIs (.ref s.heap.objs.size) "dict" := ⟨_,Bg _ rfl,rfl⟩
 have I3:Inv X pins σ (upd H1 s.heap.objs.size (.dT [])) { s with heap:=s.heap.push { cls:=.type "dict",data:=.dict #[] } } :=
  I.laid (t':=s.toks) (λb u q=>Ah _ q) (Ak _) (lK s.heap I.big)
 have z3:IsZip (s.heap.push { cls:=.type "dict",data:=.dict #[] }) z TI TO .none:=Ah _ hz
 have tyz:({ s with heap:=s.heap.push { cls:=.type "dict",data:=.dict #[] } }:Aj).TypeIs (.ref z) "zip" := ⟨_,z3,rfl⟩
 refine ⟨gW,F.args_dict_init_2 _ _,?_⟩
 unfold Builtin.«dict.__init__»
 refine Aa ?_
 unfold Builtin.Dict.selfAndRest
 refine Aa (Wl gW ?_)
 show wpAny _ _ (pure (s.heap.objs.size,[Bc z])) _ _ _
 refine Am ?_
 show wpAny _ _ (Zr "dict.__init__" s.heap.objs.size (.ref z) [] .none) _ _ _
 unfold Zr
 refine Aa (La tyz ?_)
 rw[if_pos (by decide)]
 refine Aa (sT (A:=A.in1.in1) hh z3 λh4 t4 kp4 _=>?_)
 simp only[Option.isNone_none,if_true]
 refine Aa (Kw ?_)
 have z4:IsZip h4 z TI TO .none:=kp4 _ _ z3
 refine Aa (iX z4 ?_)
 have I4:=I3.kept (h':=h4) (t':=t4) kp4
 have up:∀c o,s.heap.get? c=some o->h4.get? c=some o:=λc o q=>kp4 c o (Ah _ q)
 obtain ⟨u,v,hTO⟩:=hTO
 have st4:W2 h4 z TI TO i1 i2 l1 l2 0:=⟨up _ _ hTI,h1.at λo q=>up _ _ q,h2.at λo q=>up _ _ q,.inl ⟨z4,u,v,up _ _ hTO⟩⟩
 have nz:∀c∈[z,TI,TO,i1,i2],c≠s.heap.objs.size:=λc hc=>by
  obtain ⟨o1,e1,_⟩:=h1
  obtain ⟨o2,e2,_⟩:=h2
  simp only[Ag,Av,or_false] at hc
  rcases hc with rfl | rfl | rfl | rfl | rfl
  ·exact Cd (Bh hz)
  ·exact Cd (Bh hTI)
  ·exact Cd (Bh hTO)
  ·exact Cd (Bh e1)
  ·exact Cd (Bh e2)
 refine Am ⟨Oi Lc _,?_⟩
 exact yQ (A:=A.in1) hh (Iy (Pc (show A.in1.units+2<A.units+8 from by show A.units+1+2<A.units+8; omega)) hu) Z W hW (λH w=>⟨(hE H w).1,(hE H w).2.1⟩) (λH s' w I'=>⟨rfl,(hE H w).2.2 s' I'⟩) _ 0 _ _ rfl (Dg _) I4 st4 (λc hc=>⟨by rw[Cz (nz c hc)]; exact (hf c hc).1,(hf c hc).2⟩) w0
end
section
variable{X:Cx}
def j8(K:PySem.W.Frag)(ta:TA):TE:=λσ H Q=>ta σ H λvs H1=>∃l1 l2 xs ys,vs=[.ref l1,.ref l2]/\Mc K H1 l1 xs/\Mc K H1 l2 ys/\∀D,H1 D=none->∃W:Nat->Hp->Prop,W 0 (upd H1 D (.dT [])) /\
   (∀i H x y,xs[i]? = some x->ys[i]? = some y->W i H->Mc K H l1 xs/\Mc K H l2 ys/\∃kvs k p,H D=some (.dT kvs)/\x=.ref p/\H p=some (.tup (k.map kV))/\kvs.length<Au/\W (i+1) (upd H D (.dT (Mu kvs k y)))) /\
   ∀H,W (min xs.length ys.length) H->Mc K H l1 xs/\Mc K H l2 ys/\Q (.ref D) H
theorem xY{p p2 pos pos2:Pos}(hgd:Gl X "dict")(hmd:X.mg "dict" = none)(hg:Gl X "zip")(hm:X.mg "zip" = none)(hc:X.calm=true)(hu:X.A.units+64<cLine)(ha:PA X [a,b] ta)(hs:Bp [a,b] X.env=(false,eval a X.env)::Bp [b] X.env:=by rfl)(hp:(Gw pos (Bp [b] X.env)).any (·.1)=false:=by rfl):PE X (.Call (.Name "dict" p2) [.Call (.Name "zip" p) [a,b] [] pos] [] pos2) (j8 X.K ta):=by
 intro pins s σ H R I h
 refine Call_ (Nz I hgd hmd (u:=.type "dict") (by decide +kernel) (Ez ?_ rfl rfl))
 show wpAny _ _ (spliced ((false,eval (.Call (.Name "zip" p) [a,b] [] pos) X.env)::Gw pos2 (Bp [] X.env))) _ _ s
 refine Pe ?_
 refine Call_ (Nz I hg hm (u:=.type "zip") (by decide +kernel) (Ez (Gj (ha pos pins s σ H _ I h) λus s1 ⟨vs,H1,I1,r1,q1⟩=>?_) hs hp))
 obtain ⟨l1,l2,xs,ys,e,hq1,hq2,q⟩:=q1
 subst e
 obtain ⟨u1,u2,rfl,ru1,ru2⟩:=vals2 r1
 cases ru1
 cases ru2
 obtain ⟨its1,rv1,pl1,hz1⟩:=I1.list hq1
 obtain ⟨its2,rv2,pl2,hz2⟩:=I1.list hq2
 have hlt1:l1<s1.heap.objs.size:=let ⟨o,q,_⟩:=pl1.isList; Bh q
 have hlt2:l2<s1.heap.objs.size:=let ⟨o,q,_⟩:=pl2.isList; Bh q
 refine call_zip_2 pl1.isList pl2.isList λh2 hz hTI hTO hi1 hi2 hsz hk=>?_
 have fr1:∀n,Ms X pins H1 (s1.heap.objs.size+n):=λn=>I1.fpOk (Kl _ _) (I1.hok.fresh (Kl _ _))
 have fr:∀c∈[s1.heap.objs.size+4,s1.heap.objs.size+2,s1.heap.objs.size+3,s1.heap.objs.size,s1.heap.objs.size+1],Ms X pins H1 c:=λc hc=>by
  simp only[Ag,Av,or_false] at hc
  rcases hc with rfl | rfl | rfl | rfl | rfl
  ·exact fr1 4
  ·exact fr1 2
  ·exact fr1 3
  ·exact fr1 0
  ·exact fr1 1
 refine Ys ?_
 refine jP (xs:=xs) (ys:=ys) (I.ok.hd hc) (by omega) (tQ _ _ _ hlt1 hlt2) (I1.kept (t':=s1.toks) hk) hz hTI ⟨_,_,hTO⟩ hi1 hi2 fr λD hD=>?_
 obtain ⟨W,w0,hW,hE⟩:=q D hD
 exact ⟨W,w0,hW,λH w=>⟨(hE H w).1,(hE H w).2.1,λs' I'=>⟨.ref D,H,I',rfl,(hE H w).2.2⟩⟩⟩
end
end Nd
namespace DL
open PySem PySem.Spec PyProof.Rows L2 Nd
def Qw(acc:List (List Int×Ac))(l:List (List Int×Ac)):List (List Int×Ac):=l.foldl (λa p=>Ru a p.1 p.2) acc
def iF(xs:List DV)(δ:DS)(P:DV->DS->Prop):Prop:=match xs with
 | [.dat _ (.list ds),.dat _ (.list es)]=>ds.length<=1000000/\Dw es=true/\∃ws:List (List Int),ds=ws.map Ck/\P (.dat .ow (.dict (Qi (Qw [] (ws.zip es))))) δ
 | _=>False
def oF(da:DA):DE:=λδ P=>da δ λxs δ'=>iF xs δ' P
theorem eJ:∀(l:List (List Int×Ac)) (acc:List (List Int×Ac)),(Qw acc l).length<=acc.length+l.length
 | [],acc=>Ak _
 | p::l,acc=>by
  have h1:=eJ l (Ru acc p.1 p.2)
  have h2:=wJ acc p.1 p.2
  show (Qw (Ru acc p.1 p.2) l).length<=_
  rw[Bs]
  omega
theorem nR{ws:List (List Int)}(h1:ws[i]? = some w)(h2:es[i]? = some e):Qw [] ((ws.zip es).take (i+1))=Ru (Qw [] ((ws.zip es).take i)) w e:=by
 have hz:(ws.zip es)[i]? = some (w,e):=by
  rw[List.getElem?_zip_eq_some]
  exact ⟨h1,h2⟩
 rw[Jt,hz]
 unfold Qw
 rw[List.foldl_append]
 rfl
section
variable{X:Cx}{a b:Expr}{da:DA}{p p2 pos pos2:Pos}
theorem yA{K:PySem.W.Frag}:∀σ H Q,LE K (oF da) σ H Q->j8 K (LA K da) σ H Q:=by
 intro σ H Q h
 obtain ⟨H0,Y,S,T,δ,P,rfl,hS,hA,hd,k⟩:=h
 refine ⟨H0,Y,S,T,δ,_,rfl,hS,hA,hd,λxs δ' As us S' H' e1 e2 ex eu hA' p=>?_⟩
 unfold iF at p
 split at p
 ·rename_i m ds m' es
  obtain ⟨hl,im,ws,rfl,pk⟩:=p
  obtain ⟨v,F,w,G,rfl,hA2⟩:=Vf eu hA' ex
  obtain ⟨a,xs,G1,rfl,ha,ra,rfl,hz⟩:=(hA2.told mem_mid).list_inv
  obtain ⟨b,ys,G2,rfl,hb,rb,rfl,hz2⟩:=(hA2.told Em).list_inv
  refine ⟨a,b,xs,ys,rfl,Mc.of ha,Mc.of hb,λD hD=>?_⟩
  have hz3:=mC (n:=1000000) (Ak _)
  have nDa:a≠D:=λz=>by rw[z,hD] at ha; cases ha
  have nDb:b≠D:=λz=>by rw[z,hD] at hb; cases hb
  have l1:ws.length=xs.length:=by have:=ra.len; rw[Ad] at this; exact this.symm
  have l2:=rb.len
  refine ⟨λi H=>H a=some (.lst xs)/\H b=some (.lst ys)/\At K H0 Y δ'.n (⟨some (.ref D),.dT (xN (Qw [] ((ws.zip es).take i))),[D]⟩::(S'++(⟨some (.ref a),.dat m (.list (ws.map Ck)),a::G1⟩::⟨some (.ref b),.dat m' (.list es),b::G2⟩::T))) H,⟨?_,?_,?_⟩,?_,?_⟩
  ·rw[Cz nDa]; exact ha
  ·rw[Cz nDb]; exact hb
  ·exact hA2.dNew hD
  ·(intro i H x y hx hy q_; obtain ⟨h1,h2,hA3⟩ := q_)
   have li:=(Ap.mp hx).1
   have li2:=(Ap.mp hy).1
   obtain ⟨a2,xs2,F2,ea,ha2,ra2,_,_⟩:=(hA3.told (Ae _ mem_mid)).list_inv
   cases ea
   rw[h1] at ha2
   cases ha2
   obtain ⟨b2,ys2,F3,eb,hb2,rb2,_,_⟩:=(hA3.told (Ae _ Em)).list_inv
   cases eb
   rw[h2] at hb2
   cases hb2
   have e1:ws[i]? = some (ws[i]'(by omega)):=Ba _
   have e2:es[i]? = some (es[i]'(by omega)):=Ba _
   obtain ⟨x',Fx,g1,g2,_⟩:=ra2.get (by rw[Bf,e1]; rfl)
   rw[hx] at g1
   cases g1
   obtain ⟨p,rfl,hp⟩:=Vv g2
   obtain ⟨y',Fy,g3,g4,_⟩:=rb2.get e2
   rw[hy] at g3
   cases g3
   obtain rfl:=g4.imm (pF.mp im _ (Ax e2))
   obtain ⟨kv,q1,q2,q3⟩:=hA3.dPut (w:=ws[i]'(by omega)) g4
   refine ⟨Mc.of h1,Mc.of h2,kv,Kg _,p,q1,rfl,hp,?_,?_,?_,?_⟩
   ·have:=eJ ((ws.zip es).take i) []
    rw[Cw] at this
    rw[Ad] at hl
    rw[q2]
    show _<Au
    have h0:([]:List (List Int×Ac)).length=0:=rfl
    omega
   ·rw[Cz nDa]; exact h1
   ·rw[Cz nDb]; exact h2
   ·rw[nR e1 e2]
    exact q3
  ·(intro H q_; obtain ⟨h1,h2,hA3⟩ := q_)
   refine ⟨Mc.of h1,Mc.of h2,k _ δ' _ [D] S' H e1 e2 ?_ pk⟩
   have et:(ws.zip es).take (min xs.length ys.length)=ws.zip es:=Es (by rw[List.length_zip]; omega)
   rw[et] at hA3
   have hA4:=hA3.dGot
   exact (hA4.sub (((Cq S').append ((Cq T).cons _ |>.cons _)).cons₂ _)).tomid
 ·exact p.elim
theorem wN(hu:X.A.units+64<cLine)(hgd:Gl X "dict")(hmd:X.mg "dict" = none)(hg:Gl X "zip")(hm:X.mg "zip" = none)(hc:X.calm=true)(ha:jK X [a,b] da)(hs:Bp [a,b] X.env=(false,eval a X.env)::Bp [b] X.env:=by rfl)(hp:(Gw pos (Bp [b] X.env)).any (·.1)=false:=by rfl):Er X (.Call (.Name "dict" p2) [.Call (.Name "zip" p) [a,b] [] pos] [] pos2) (oF da):=PE.imp (xY hgd hmd hg hm hc hu ha hs hp) yA
end
end DL
namespace Nd
open PySem PySem.Spec PyProof.Rows L2
end Nd
namespace DL
open PySem PySem.Spec PyProof.Rows L2 Nd
end DL
namespace Nd
open PySem PySem.Spec PyProof.Rows L2
end Nd
namespace DL
open PySem PySem.Spec PyProof.Rows L2 Nd
end DL
namespace Ts
open PySem PyProof.Rows L2
def Lr(h h':Heap):Prop:=∀b o,h.get? b=some o->h'.get? b=some o
theorem Lr.refl(h:Heap):Lr h h:=λ_ _ e=>e
theorem Lr.trans(x:Lr a b)(y:Lr b c):Lr a c:=λi o e=>y i o (x i o e)
def AJ(x y:Keyed):Bool:=decide (numOf x.1<numOf y.1)
section
variable{prog:Bq}{w:World}{A:Cr}{E:Value->Aj->Prop}{s:Aj}
theorem wY:Cmp prog w A s Ub (λx=>∃n t,x.1=.int n t) AJ where
 run:=λx y Q E ⟨n,t,ex⟩ ⟨n',t',ey⟩ h=>by
  obtain ⟨x1,x2⟩:=x
  obtain ⟨y1,y2⟩:=y
  simp only at ex ey
  subst ex ey
  rw[keyLt'_oneType]
  exact M7 h
 irr:=λx=>by simp [AJ]
 tr:=λx y z h1 h2=>by simp only[AJ,decide_eq_true_eq] at *; omega
 neg:=λx y z h=>by simp only[AJ,decide_eq_true_eq] at *; omega
variable{a kS:Addr}{vs:List Value}{kz:List Int}{P:PySem.Fin->Aj->Prop}
structure Fresh2(h0:Heap)(h:Heap)(a kS:Addr)(keys:Array Value)(e1:Nat):Prop where
 keep:Lr h0 h
 na:h0.get? a=none
 nk:h0.get? kS=none
 ne:kS≠a
 ga:h.get? a=some (Df "list" #[] e1)
 gk:∃e,h.get? kS=some (Df "list" keys e)
theorem Vy(k:Lr h0 h)(n:h0.get? b=none):Lr h0 (h.update b f):=λi o e =>
 ((Cm h b f).2 i (λz=>by rw[z,n] at e; cases e)).trans (k i o e)
theorem Q6{st:Bu}(F:Fresh2 h0 s.heap a kS keys e1)(hk:Ki keys.toList kz)(hlen:kz.length=vs.length)(hz:vs.length<Au)(hp:(arrOf st).Perm (keys.zip vs.toArray))(hs:SortedTo (arrOf st) (arrOf st).size)(hf:Ky st=none)(h:∀h' tk out c,Lr h0 h'->h'.get? a=some (Df "list" out c)->KskOut false kz vs out.toList->P (.done (.ret .none)) { s with heap:=h',toks:=tk }):wpAny (model prog w) A (ksk_tail a false e1 (.ref kS) st) P E s:=by
 obtain ⟨ek,gk⟩:=F.gk
 have l1:=hk.length
 rw[Az] at l1
 have vz:vs.toArray.size=vs.length:=Ar
 have l2:(arrOf st).size=vs.length:=by rw[hp.size_eq,Array.size_zip,vz]; omega
 have ga:(s.heap.update kS (Cp λ_=>(#[]:Array Value))).get? a=some (Df "list" #[] e1):=((Cm s.heap kS _).2 a F.ne.symm).trans F.ga
 have out:=ksk_out (b:=false) hk hp hs
 rw[if_neg Br] at out
 obtain ⟨c2,g2⟩ : ∃c2,((s.heap.update kS (Cp λ_=>(#[]:Array Value))).update a (Cp λ_=>(arrOf st).map (·.2))).get? a=some (Df "list" ((arrOf st).map (·.2)) c2):=⟨_,Ma ga λ_=>(arrOf st).map (·.2)⟩
 unfold ksk_tail
 dsimp only
 refine Aa (Lv gk rfl ?_ (by omega) (Dg _))
 refine Aa (Mm (Aa (Yo ga rfl (Aa (Lv ga rfl ?_ (Dg _) ?_)))))
 ·rw[hf]
  simp only[bne_self_eq_false,Bv,if_false]
  exact Am (h _ _ _ c2 (Vy (Vy F.keep F.nk) F.na) g2 out)
 ·simp only[Bv,if_false,Array.size_map]
  omega
theorem FO(F:Fresh2 h0 s.heap a kS keys e1)(hk:Ki keys.toList kz)(hlen:kz.length=vs.length)(hz:vs.length<Au)(h:∀h' tk out c,Lr h0 h'->h'.get? a=some (Df "list" out c)->KskOut false kz vs out.toList->P (.done (.ret .none)) { s with heap:=h',toks:=tk }):wpAny (model prog w) A (ksk_end a false vs.toArray e1 (.ref kS) keys) P E s:=by
 have l1:=hk.length
 rw[Az] at l1
 have vz:vs.toArray.size=vs.length:=Ar
 have l2:(keys.zip vs.toArray).size=vs.length:=by rw[Array.size_zip,vz]; omega
 unfold ksk_end
 dsimp only
 rw[if_neg Br]
 by_cases h2:vs.toArray.size<2
 ·rw[if_pos h2,if_pos h2]
  refine Aa (Am ?_)
  rw[StateT.run_pure]
  refine Aa (Am ?_)
  refine Q6 F hk hlen hz (Array.Perm.refl _) (λi j hij hj=>?_) rfl h
  have hj':j<(keys.zip vs.toArray).size:=hj
  rw[l2] at hj'
  rw[Ar] at h2
  obtain rfl:i=j:=by omega
  exact Lq _
 ·rw[if_neg h2,if_neg h2]
  rw[Ar] at h2
  rw[ksk_kind hk (by omega)]
  refine Aa (Am ?_)
  refine Aa (Ft (dN wY (a₀:=keys.zip vs.toArray) (st:=Wh Ub (keys.zip vs.toArray) #[] 7 none) (E:=E)
   (Q:=λ_ st'=>Good0 Ub (keys.zip vs.toArray) st'/\Rc AJ (arrOf st') 0 (keys.zip vs.toArray).size) ⟨rfl,rfl,Array.Perm.refl _⟩ (ksk_intKeys hk) rfl (by omega) λst' g as=>⟨g,as⟩) ?_ λ_ _ z=>z)
  (rintro ⟨⟨⟩,st'⟩ s' q_; obtain ⟨rfl,g,as⟩ := q_)
  refine Q6 F hk hlen hz g.perm (λi j hij hj=>?_) g.fail h
  rw[g.size] at hj
  have q:=as i j (Dg _) hij hj
  unfold le AJ at q
  have xi:∀k,k<(arrOf st').size->K (arrOf st') k=numOf (X (arrOf st') k).1:=λk hk=>by
   rw[K_eq hk]
   have e1:=Wr (xs:=arrOf st') (i:=k) hk
   rw[iV hk] at e1
   rw[Bn e1]
  have gs:(arrOf st').size=_:=g.size
  have hj0:j<(arrOf st').size:=by rw[gs]; exact hj
  refine Eq.symm (xi i (by omega))▸Eq.symm (xi j hj0)▸?_
  simp only[decide_eq_false_iff_not] at q
  omega
theorem EB(F:Fresh2 h0 s.heap a kS #[] e1)(hlen:kz.length=vs.length)(hz:vs.length<Au)(turn:∀(i:Nat) (v:Value) (k:Int),vs[i]? = some v->kz[i]? = some k->∀(h:Heap) (tk:Nat),Lr h0 h->∀R:Value->Aj->Prop,(∀t h2 tk2,Lr h h2->R (.int k t) { s with heap:=h2,toks:=tk2 })->wpAny (model prog w) A (call f [v]) R (λ_ _=>False) { s with heap:=h,toks:=tk })(h:∀h' tk out c,Lr h0 h'->h'.get? a=some (Df "list" out c)->KskOut false kz vs out.toList->P (.done (.ret .none)) { s with heap:=h',toks:=tk }):wpAny (model prog w) A (ksk_rest a f false vs.toArray e1 (.ref kS)) P E s:=by
 unfold ksk_rest
 refine Aa (Kw ?_)
 rw[<- Wq]
 simp only[List.toList_toArray]
 refine Aa (ksk_fold (λi s'=>∃h' tk kA,s'={ s with heap:=h',toks:=tk }/\Fresh2 h0 h' a kS kA e1/\Ki kA.toList (kz.take i)) vs 0 s ⟨s.heap,s.toks,#[],rfl,F,by simpa using IntsAre.nil⟩ ?_ ?_)
 ·(intro j x s' hx q_; obtain ⟨h',tk,kA,rfl,F',hk⟩ := q_)
  simp only[Pb] at hk ⊢
  have hj:j<vs.length:=(Ap.mp hx).1
  obtain ⟨k,hkj⟩ : ∃k,kz[j]? = some k:=⟨_,Ba (by omega)⟩
  have l1:=hk.length
  rw[Az,Cw] at l1
  refine Aa (Ik (Ft (turn j x k hx hkj h' tk F'.keep (λv s''=>∃t h2 tk2,v=.int k t/\s''={ s with heap:=h2,toks:=tk2 }/\Lr h' h2) λt h2 tk2 q=>⟨t,h2,tk2,rfl,rfl,q⟩) (λv s'' q=>?_) λ_ _ z=>z.elim))
  obtain ⟨t,h2,tk2,rfl,rfl,q⟩:=q
  dsimp only
  obtain ⟨ek,gk⟩:=F'.gk
  have gk2:=q _ _ gk
  refine Aa (Lv gk2 rfl ?_ (by omega) (by rw[Array.size_push]; omega))
  refine Am ⟨rfl,_,_,kA.push (.int k t),rfl,⟨Vy (F'.keep.trans q) F'.nk,F'.na,F'.nk,F'.ne,((Cm h2 kS _).2 a F'.ne.symm).trans (q _ _ F'.ga),_,Ma gk2 (·.push (.int k t))⟩,?_⟩
  have e1:kz.take (j+1)=kz.take j++[k]:=by rw[Jt,hkj]; rfl
  rw[Lx,e1]
  exact ksk_snoc hk
 ·(intro s' q_; obtain ⟨h',tk,kA,rfl,F',hk⟩ := q_)
  rw[Pb,Es (by omega)] at hk
  obtain ⟨ek,gk⟩:=F'.gk
  refine Aa (fO gk rfl ?_)
  exact FO (s:={ s with heap:=h',toks:=tk }) F' hk hlen hz λh3 tk3 out c a1 a2 a3=>h h3 tk3 out c a1 a2 a3
theorem fZ(hl:s.heap.IsList l vs.toArray)(hlen:kz.length=vs.length)(hz:vs.length<Au)(ha1:argsOk "sorted" ⟨[.ref l],kw⟩)(ha2:∀x,argsOk "list.sort" ⟨[.ref x],kw⟩)(ht:∀x,Builtin.«list.sort» ⟨[.ref x],kw⟩=ksk_tree x f false)(turn:∀(i:Nat) (v:Value) (k:Int),vs[i]? = some v->kz[i]? = some k->∀(h:Heap) (tk:Nat),Lr s.heap h->∀R:Value->Aj->Prop,(∀t h2 tk2,Lr h h2->R (.int k t) { s with heap:=h2,toks:=tk2 })->wpAny (model prog w) A.in1.in1 (call f [v]) R (λ_ _=>False) { s with heap:=h,toks:=tk })(h:∀D h' tk out c,Lr s.heap h'->s.heap.objs.size<=D->h'.get? D=some (Df "list" out c)->KskOut false kz vs out.toList->Q (.ref D) { s with heap:=h',toks:=tk }):wpAny (model prog w) A (call (.builtin "sorted") [.ref l] kw) Q E s:=by
 refine call_function_entry_kw kind_sorted plain_sorted entry_sorted ha1 ?_
 unfold Builtin.«sorted»
 refine Aa (m:=checkCount "sorted" 1 1 _) (Am (Aa (collect_list hl (Aa (cG ?_ (by omega))) (by omega))))
 have z1:((s.heap.push (Df "list" #[] 0)).update s.heap.objs.size (Cp (·++vs.toArray))).objs.size=s.heap.objs.size+1:=by rw[Ii,Uz]
 have g1:(((s.heap.push (Df "list" #[] 0)).update s.heap.objs.size (Cp (·++vs.toArray))).push (Df "list" vs.toArray 0)).get? (s.heap.objs.size+1)=some (Df "list" vs.toArray 0):=by
  rw[<- z1]
  exact Bg _ rfl
 have kept:Lr s.heap (((s.heap.push (Df "list" #[] 0)).update s.heap.objs.size (Cp (·++vs.toArray))).push (Df "list" vs.toArray 0)):=λb o e =>
  Ah _ (((Cm _ _ _).2 b (Cd (Bh e))).trans (Ah _ e))
 show wpAny _ _ _ _ _ { s with heap:=((s.heap.push (Df "list" #[] 0)).update s.heap.objs.size (Cp (·++vs.toArray))).push (Df "list" vs.toArray 0) }
 rw[z1]
 generalize hH:((s.heap.push (Df "list" #[] 0)).update s.heap.objs.size (Cp (·++vs.toArray))).push (Df "list" vs.toArray 0)=H1 at g1 kept
 have none_:∀b,s.heap.objs.size<=b->s.heap.get? b=none:=λb hb=>Heap.get?_none_of_le hb
 refine Aa (Dd (wpAny_call_entry_kw slot_list_sort ⟨_,g1,rfl⟩ entry_list_sort ?_ (ha2 _)))
 show wpAny (model prog w) A.in1.in1 (Builtin.«list.sort» ⟨[.ref (s.heap.objs.size+1)],kw⟩) _ _ _
 rw[ht]
 unfold ksk_tree
 have lt:s.heap.objs.size+1<H1.objs.size:=Bh g1
 obtain ⟨ep,g2⟩ : ∃ep,(H1.update (s.heap.objs.size+1) (Cp λ_=>(#[]:Array Value))).get? (s.heap.objs.size+1)=some (Df "list" #[] ep):=⟨_,Ma g1 λ_=>#[]⟩
 have k2:Lr s.heap (H1.update (s.heap.objs.size+1) (Cp λ_=>(#[]:Array Value))):=Vy kept (none_ _ (by omega))
 refine Aa (fO g1 rfl (Aa (Lv g1 rfl ?_ (by rw[Ar]; omega) (Dg _))))
 refine Aa (Yo g2 rfl (Aa (Yn (Aa (cG (Dd ?_) (Dg _))) (by show vs.length<=_; omega))))
 have e3:((H1.update (s.heap.objs.size+1) (Cp λ_=>(#[]:Array Value))).push (Df "tuple" vs.toArray 0)).objs.size=H1.objs.size+1:=by rw[Uz,Ii]
 have sz:s.heap.objs.size<H1.objs.size:=by omega
 refine EB (s:={ s with heap:=((H1.update (s.heap.objs.size+1) (Cp λ_=>(#[]:Array Value))).push (Df "tuple" vs.toArray 0)).push (Df "list" #[] 0) }) (h0:=s.heap) (a:=s.heap.objs.size+1)
  (kS:=((H1.update (s.heap.objs.size+1) (Cp λ_=>(#[]:Array Value))).push (Df "tuple" vs.toArray 0)).objs.size)
  ⟨λb o e=>Ah _ (Ah _ (k2 b o e)),none_ _ (by omega),none_ _ (by rw[e3]; omega),λz=>(by have:=e3.symm.trans z; omega),Ah _ (Ah _ g2),0,Bg _ rfl⟩ hlen hz turn ?_
 intro h' tk out c a1 a2 a3
 exact ⟨_,rfl,Am ⟨_,rfl,h _ h' tk out c a1 (Vd _) a2 a3⟩⟩
end
end Ts
namespace DL
open PySem PySem.Spec PyProof.Rows L2 Nd Ts
def oT(K:PySem.W.Frag):V->Hp->VK->Prop:=λx H Q=>∃(p:Addr) (rs:List Addr) (kf:Addr->Nat),x=.ref p/\rs.length<Au/\Mc K H p (rs.map V.ref)/\(∀r∈rs,∃ys,Up K H r ys/\ys.length=kf r) /\
 ∀(a:Addr) (rs':List Addr),H a=none->rs'.Perm rs->rs'.Pairwise (λx y=>kf x<=kf y)->Q (.ref a) (upd H a (.lst (rs'.map V.ref)))
theorem A7{a b:List Addr}(h:(a.map Bc).Perm (b.map Bc)):a.Perm b:=by
 have:=h.map (λx:Value=>match x with | .ref a=>a | _=>0)
 rw[Ce,Ce] at this
 simpa [Wj] using this
theorem jB{kf:Addr->Nat}(h:KskOut false (rs.map λr=>(kf r:Int)) (rs.map Bc) out):∃rs':List Addr,out=rs'.map Bc/\rs'.Perm rs/\rs'.Pairwise λx y=>kf x<=kf y:=by
 obtain ⟨ps,h1,rfl,h3⟩:=h
 have e:(rs.map λr=>(kf r:Int)).zip (rs.map Bc)=rs.map λr=>((kf r:Int),Bc r):=List.zip_map' ..
 rw[e] at h1
 have each:∀p∈ps,∃r∈rs,p=((kf r:Int),Bc r):=λp hp=>by
  obtain ⟨r,hr,e⟩:=Bt.mp (h1.mem_iff.mp hp)
  exact ⟨r,hr,e.symm⟩
 have ex:∀l:List (Int×Value),(∀p∈l,∃r∈rs,p=((kf r:Int),Bc r))->∃rs':List Addr,l=rs'.map λr=>((kf r:Int),Bc r):=by
  intro l
  induction l with
  | nil=>exact λ_=>⟨[],rfl⟩
  | cons p l ih =>
   intro hl
   obtain ⟨r,_,rfl⟩:=hl p Ab
   obtain ⟨rs',rfl⟩:=ih λx hx=>hl x (Ae _ hx)
   exact ⟨r::rs',rfl⟩
 obtain ⟨rs',rfl⟩:=ex ps each
 have p2:=h1.map Prod.snd
 rw[Ce,Ce] at p2
 refine ⟨rs',by rw[Ce]; rfl,A7 p2,?_⟩
 have h4:(rs'.map λr=>((kf r:Int),Bc r)).Pairwise (λp q=>p.1<=q.1):=h3
 rw[List.pairwise_map] at h4
 exact h4.imp λq=>by simpa using q
section
variable{X:Cx}{pins:List (Addr×Obj)}{σ:List (Option V)}{H:Hp}{s:Aj}
theorem oR(I:Inv X pins σ H s)(ru:RelV x u)(h:oT X.K x H Q):wpAny (model X.prog X.w) X.A (call (.builtin "sorted") [u] [(Ds "key",.builtin "len")]) (EP X pins σ Q) X.xe s:=by
 obtain ⟨p,rs,kf,rfl,hz,hp,hx,q⟩:=h
 cases ru
 obtain ⟨its,rv,pl,_⟩:=I.list hp
 have e:=Xr rv
 subst e
 have hs:Au=16777216:=Jn
 refine fZ (vs:=rs.map Bc) (kz:=rs.map λr=>(kf r:Int)) (f:=.builtin "len") pl.isList (by rw[Ad,Ad]) (by rw[Ad]; exact hz) (ksk_s1 _ _) (λx=>ksk_l1 _ _) (λx=>ksk_t4 _ _) (λi v k hv hk h tk hkeep R hR=>?_) λD h' tk out c k1 k2 k3 k4=>?_
 ·rw[Bf] at hv hk
  cases hr:rs[i]? with
  | none=>rw[hr] at hv; cases hv
  | some r =>
   rw[hr] at hv hk
   cases hv
   cases hk
   obtain ⟨ys,hq,hy⟩:=hx r (Ax hr)
   obtain ⟨its,r',pl',hz'⟩:=I.tuple hq
   obtain ⟨o,ho,hcl,nn,hd⟩:=pl'
   have hlen:=r'.length
   have hil:IsTup h r its.toArray:=⟨o,hkeep r o ho,hcl,nn,hd⟩
   refine len_tuple hil (by simp only[Ar]; omega) ?_
   simp only[Ar]
   rw[<- hlen,hy]
   exact hR _ h _ (Lr.refl h)
 ·obtain ⟨rs',e1,p1,p2⟩:=jB k4
  have eo:out=(rs'.map Bc).toArray:=by rw[<- e1,Array.toArray_toList]
  subst eo
  refine ⟨.ref D,upd H D (.lst (rs'.map V.ref)),I.laid (t':=tk) k1 k2 ⟨?_,_,c,Ww rs',k3⟩,rfl,q D rs' (I.hok.fresh k2) p1 p2⟩
  rw[Ad,p1.length_eq]
  omega
variable{e:Expr}{t:TA}{p1 p2 kp pos:Pos}
theorem wF(hg:Gl X "sorted")(hm:X.mg "sorted" = none)(hg2:Gl X "len")(hm2:X.mg "len" = none)(ha:PA X [e] t)(hs:Bp [e] X.env=[(false,eval e X.env)]:=by rfl):PE X (.Call (.Name "sorted" p1) [e] [⟨some "key",.Name "len" p2,kp⟩] pos) (BC (λxs H Q=>∃x,xs=[x]/\oT X.K x H Q) t):=by
 intro pins s σ H Q I h
 refine Jq (Nz I hg hm (u:=.builtin "sorted") (by decide +kernel) ?_)
 refine Zc (Gj (ha pos pins s σ H _ I h) λus s1 ⟨vs,H1,I1,r1,q1⟩=>?_) (by rw[hs]; rfl) (by rw[hs]; rfl)
 obtain ⟨x,rfl,q⟩:=q1
 obtain ⟨u,rfl,ru⟩:=vals1 r1
 refine kws_cons (Nz I1 hg2 hm2 (u:=.builtin "len") (by decide +kernel) (kws_nil ?_))
 exact oR I1 ru q
end
def Zi:DC:=λxs P=>match xs with
 | [.dat _ (.list ds)]=>∃ws:List (List Int),ds=ws.map Ck/\ws.length<Au/\∀L:List (List Int),L.Perm ws->L.Pairwise (λx y=>x.length<=y.length)->P (.dat .ow (.list (L.map Ck)))
 | _=>False
section
variable{K:PySem.W.Frag}
theorem u4:My K (λxs H Q=>∃x,xs=[x]/\oT K x H Q) Zi:=by
 intro H0 X n S T As us H Q P eu hA hd k
 unfold Zi at hd
 split at hd
 ·rename_i ex
  obtain ⟨v,F,rfl,hA⟩:=Gm eu hA ex
  obtain ⟨ws,rfl,hz0,h1⟩:=hd
  obtain ⟨a,xs,G,rfl,ha,ra,rfl,hz⟩:=(hA.told mem_mid).list_inv
  obtain ⟨rs,rfl,rfl,rfl,c1,c2⟩:=kD ra rfl
  rw[Ad] at hz0
  refine ⟨_,rfl,a,rs,λr=>(N6 H r).length,rfl,hz0,Mc.of ha,λr hr=>⟨_,Up.of (c1 r hr),Ad ..⟩,λq rs' nq pe pw=>?_⟩
  refine k _ _ _ _ (hA.drop.newI (aK λr hr=>c2 r (pe.mem_iff.mp hr)) (aG _) (by rw[Ad,Ad,pe.length_eq]; simpa using hz) nq .ow) (h1 _ (pe.map _) (Zd.mpr pw))
 ·exact hd.elim
variable{X:Cx}{e:Expr}{da:DA}{p1 p2 kp pos:Pos}
theorem yP(hg:Gl X "sorted")(hm:X.mg "sorted" = none)(hg2:Gl X "len")(hm2:X.mg "len" = none)(ha:jK X [e] da)(hs:Bp [e] X.env=[(false,eval e X.env)]:=by rfl):Er X (.Call (.Name "sorted" p1) [e] [⟨some "key",.Name "len" p2,kp⟩] pos) (AN Zi da):=PE.imp (wF hg hm hg2 hm2 ha hs) (sE u4)
end
end DL
namespace DL
open PySem PySem.Spec PyProof.Rows L2 Nd
def Qc(i:Int):Hm:=Qv i
def Pg(ks:List (Int×Ac))(w:Int):Option Ac:=(ks.find? λp=>decide (p.1=w)).map (·.2)
def kC(ks:List (Int×Ac))(w:Int)(d:Ac):List (Int×Ac) :=
 if (ks.any λp=>decide (p.1=w))=true then ks.map (λp=>if p.1=w then (p.1,d) else p) else ks++[(w,d)]
theorem Vs(h:Yv a=Yv b):a=b:=Qk (λx y e=>by
 obtain ⟨e1,e2⟩:=Prod.mk.inj e
 exact Prod.ext (PyData.int.inj e1) e2) (Dr h).2
theorem Zy(h:Qc a=Qc b):a=b:=Sum.inl.inj h
section
variable{K:PySem.W.Frag}{H H':Hp}
structure IRel(K:PySem.W.Frag)(H:Hp)(kv:List (Hm×V))(ks:List (Int×Ac)):Prop where
 key:kv.map (·.1)=ks.map λp=>Qc p.1
 val:RdFs K H (kv.map (·.2)) (ks.map (·.2)) []
theorem RdF.dicI_inv(h:RdF K H v (.dict X) F)(hX:sR X=true:=by first | rfl | assumption):∃a kv ks,v=.ref a/\X=Yv ks/\H a=some (.dK kv)/\IRel K H kv ks/\F=[a]:=by
 cases h with
 | dic h e' hs=>cases hX
 | dnm h e' hs=>cases hX
 | dik h e' hs=>exact ⟨_,_,_,rfl,rfl,h,⟨e',hs⟩,rfl⟩
theorem RdF.int_at(h:RdF K H v (.int i) F):v=kV (Qc i):=by
 cases h; rfl
theorem vW(r:IRel K H kv ks):kv.length=ks.length:=by
 have:=congrArg Fc r.key
 simpa using this
theorem jC(w:Int):∀{kv:List (Hm×V)} {ks:List (Int×Ac)},IRel K H kv ks->(Tt kv (Qc w)=none/\Pg ks w=none)\/∃v d,Tt kv (Qc w)=some v/\Pg ks w=some d/\RdF K H v d []
 | [],[],_=>.inl ⟨rfl,rfl⟩
 | [],_::_,r=>by cases r.key
 | _::_,[],r=>by cases r.key
 | (k,v)::kv,(u,d)::ks,r=>by
  obtain ⟨e1,e2⟩:=Dr r.key
  have e1:k=Qc u:=e1
  obtain ⟨r1,r2⟩:=RdFs.cons_nil r.val rfl
  by_cases h:u=w
  ·subst h e1
   refine .inr ⟨v,d,Rw rfl,by simp [Pg],r1⟩
  ·have hk:¬ k=Qc w:=λz=>h (Zy (e1.symm.trans z))
   rw[Rj hk,show Pg ((u,d)::ks) w=Pg ks w by simp [Pg,h]]
   exact jC w ⟨e2,r2⟩
theorem xI(w:Int)(r:IRel K H kv ks):(kv.any λp=>decide (p.1=Qc w))=(ks.any λp=>decide (p.1=w)):=by
 have h1:(kv.any λp=>decide (p.1=Qc w))=((kv.map (·.1)).any λk=>decide (k=Qc w)):=by rw[Sg]; rfl
 rw[h1,r.key,Sg]
 congr 1
 funext p
 exact decide_eq_decide.mpr ⟨λz=>Zy z,λz=>by show Qc p.1=Qc w; rw[z]⟩
theorem dO(w:Int)(rv:RdF K H v d []):∀{kv:List (Hm×V)} {ks:List (Int×Ac)},IRel K H kv ks->IRel K H (kv.map λp=>if p.1=Qc w then (p.1,v) else p) (ks.map λp=>if p.1=w then (p.1,d) else p)
 | [],[],r=>r
 | [],_::_,r=>by cases r.key
 | _::_,[],r=>by cases r.key
 | (k,v')::kv,(u,d')::ks,r=>by
  obtain ⟨e1,e2⟩:=Dr r.key
  have e1:k=Qc u:=e1
  obtain ⟨r1,r2⟩:=RdFs.cons_nil r.val rfl
  have ih:=dO w rv (kv:=kv) (ks:=ks) ⟨e2,r2⟩
  rw[Aw,Aw]
  by_cases h:u=w
  ·rw[if_pos (show k=Qc w by rw[e1,h]),if_pos h]
   exact ⟨by rw[Aw,Aw,ih.key]; exact congrArg (·::_) e1,RdFs.cons (F:=[]) (G:=[]) rv ih.val⟩
  ·have hk:¬ k=Qc w:=λz=>h (Zy (e1.symm.trans z))
   rw[if_neg (show ¬ (k,v').1=Qc w from hk),if_neg (show ¬ (u,d').1=w from h)]
   exact ⟨by rw[Aw,Aw,ih.key]; exact congrArg (·::_) e1,RdFs.cons (F:=[]) (G:=[]) r1 ih.val⟩
theorem yT(w:Int)(rv:RdF K H v d [])(r:IRel K H kv ks):IRel K H (Mu kv (Qc w) v) (kC ks w d):=by
 unfold Mu kC
 rw[xI w r]
 split
 ·exact dO w rv r
 ·refine ⟨by rw[Be,Be,r.key]; rfl,?_⟩
  rw[Be,Be]
  exact r.val.snoc rv
end
def Q1:DE:=λδ P=>P (.dat .ow (.dict (Yv []))) δ
theorem At.newI9{K:PySem.W.Frag}(h:At K H0 X n (S++T) H)(hp:H p=none):At K H0 X n (S++⟨some (.ref p),.dat .ow (.dict (Yv [])),[p]⟩::T) (upd H p (.dK [])):=by
 have s1:=Dl hp (.dK [])
 refine ((h.grow (n':=n) s1 (Ak _)).push (e:=⟨some (.ref p),.dat .ow (.dict (Yv [])),[p]⟩) ⟨_,rfl,.dik Co rfl .nil,λ_=>Bx.mpr ⟨Av,Dc⟩,λz=>nomatch z⟩ (λf hf=>?_) λa ha=>?_).tomid
 ·have nf:=h.free hp f hf
  refine ⟨λ_ a ha z=>?_,λ_ a ha z=>?_⟩
  ·rw[Af.mp ha] at z
   exact nf z
  ·rw[Af.mp z] at ha
   exact nf (Eo _ _ ha)
 ·rw[Af.mp ha]
  exact .inl (h.new0 hp)
theorem E2:Er X (.Dict [] [] pos) Q1:=by
 refine PE.imp o4 λσ H Q h=>?_
 obtain ⟨H0,Y,S,T,δ,P,rfl,hS,hA,hd,k⟩:=h
 exact λp hp=>k _ δ _ _ S _ rfl hS (hA.newI9 hp) hd
theorem At.writeI9{K:PySem.W.Frag}{H0 H:Hp}{X:Addr->Prop}(h:At K H0 X n (⟨v,.dat .ow (.dict (Yv ks)),[a]⟩::E) H)(hv:v=some (.ref a))(np:∀e∈E,Lh e.x=false)(r:IRel K H kv' ks'):At K H0 X n (⟨v,.dat .ow (.dict (Yv ks')),[a]⟩::E) (upd H a (.dK kv')):=by
 obtain ⟨w,e1,rd,hn,ht⟩:=h.ok _ Ab
 obtain ⟨b,kv,ks0,e2,ek,ha,_,eF⟩:=rd.dicI_inv
 have eF':[a]=[b]:=eF
 cases eF'
 have hs:=Bb.mp h.sep
 have kp:∀{F':List Addr},a∉F'->Kp F' H (upd H a (.dK kv')):=λ{F'} hF b o q z=>by
  have : b≠a:=by
   rintro rfl
   rw[ha] at q
   cases q
   rcases z with z | z
   ·exact hF z
   ·rcases z with ⟨_,z⟩ | ⟨_,_,z⟩ <;> cases z
  rw[Cz this]
  exact q
 have n0:H0 a=none:=by
  rcases h.new _ Ab a Ab with z | z
  ·exact z
  ·cases z.2
 refine ⟨λf hf=>?_,Bb.mpr ⟨λf hf=>⟨λhq c hc=>(hs.1 f hf).1 (.inl (np f hf)) c hc,λhq c hc=>(hs.1 f hf).2 (.inl rfl) c hc⟩,hs.2⟩,λf hf=>?_,λb o nx q=>?_,λb o q=>?_,λb hb=>?_⟩
 ·rcases Ag.mp hf with rfl | hf
  ·exact ⟨.ref a,hv,.dik Co r.key (r.val.kp (kp Av)),λ_=>Bx.mpr ⟨Av,Dc⟩,λz=>nomatch z⟩
  ·exact (h.ok f (Ae _ hf)).kp (kp ((hs.1 f hf).1 (.inl (np f hf)) a Ab)) (Ak _)
 ·rcases Ag.mp hf with rfl | hf
  ·exact λc hc=>h.new _ Ab c hc
  ·exact h.new f (Ae _ hf)
 ·rw[Cz (Dx q n0)]
  exact h.same b o nx q
 ·rw[Cz (Dx q n0)]
  exact h.dom b o q
 ·obtain ⟨z,c,k,f,h1,h2⟩:=h.xd b hb
  refine ⟨z,c,k,f,(Cz ?_).trans h1,h2⟩
  rintro rfl
  exact z n0
theorem gP{K:PySem.W.Frag}(hS:Sl S δ)(hT:∀e∈T,Lh e.x=false)(hA:At K H0 X δ.n (S++T) H)(hi:δ.sl[i]? = some (.dat .ow (.dict (Yv ks))))(np:npk δ.sl=true):∃a kv,(vs S)[i]? = some (some (.ref a))/\H a=some (.dK kv)/\IRel K H kv ks/\∀kv',IRel K H kv' ks'->∃S',vs S'=vs S/\Sl S' ⟨δ.sl.set i (.dat .ow (.dict (Yv ks'))),δ.n⟩/\At K H0 X δ.n (S'++T) (upd H a (.dK kv')):=by
 obtain ⟨ent,e2,e3⟩:=Hk hS hi
 have hm:ent∈S:=Ax e2
 obtain ⟨u,x,F⟩:=ent
 have e3':x=.dat .ow (.dict (Yv ks)):=e3
 subst e3'
 obtain ⟨v,hv,rd,_⟩:=hA.ok _ (An _ hm)
 obtain ⟨a,kv,ks0,rfl,ek,ha,rel,eF⟩:=rd.dicI_inv
 obtain rfl:=Vs ek
 have eF':F=[a]:=eF
 subst eF'
 refine ⟨a,kv,by rw[Ls e2]; exact congrArg some hv,ha,rel,λkv' r=>?_⟩
 have hn:=bF hS np
 have h1:=(hA.perm ((Ji e2).append_right T)).writeI9 (ks':=ks') (kv':=kv') hv (λe he=>?_) r
 ·refine ⟨S.set i ⟨u,.dat .ow (.dict (Yv ks')),[a]⟩,?_,?_,h1.perm ((Nn e2).append_right T).symm⟩
  ·unfold vs
   rw[Et]
   apply Ht
   intro j
   rw[Hr]
   split
   ·rename_i hij
    subst hij
    rw[Bf,e2]
    split
    ·rfl
    ·rename_i hj
     rw[Ad] at hj
     exact absurd (Ap.mp e2).1 hj
   ·rfl
  ·unfold Sl at hS ⊢
   rw[Et,hS]
 ·rcases Ay.mp he with he | he
  ·exact hn e ((Mq S i).subset he)
  ·exact hT e he
def iputB(i:Nat)(y z:DV)(δ:DS)(D:DEnds):Prop:=match δ.sl[i]?,y,z with
 | some (.dat .ow (.dict X)),.dat _ e,.dat _ k=>npk δ.sl=true/\imm e=true/\∃ks w,X=Yv ks/\k=.int w/\ks.length<1000000/\D.nx ⟨δ.sl.set i (.dat .ow (.dict (Yv (kC ks w e)))),δ.n⟩
 | _,_,_=>False
def isIct:Option DV->Bool
 | some (.dat _ (.dict X))=>sR X
 | _=>false
def P0(i:Nat)(dk de:DE):DB:=λD δ=>de δ λy δ1=>isIct δ1.sl[i]? = true/\dk δ1 λz δ2=>iputB i y z δ2 D
section
variable{X:Cx}{o i e:Expr}{dk de:DE}{apos cpos pos pos':Pos}{n:Nat}
theorem xR{K:PySem.W.Frag}(hS:Sl S δ)(hA:At K H0 Y δ.n (S++T) H)(hi:isIct δ.sl[n]? = true):∃a kv,(vs S)[n]? = some (some (.ref a))/\H a=some (.dK kv):=by
 cases q:δ.sl[n]? with
 | none=>rw[q] at hi; cases hi
 | some x =>
  rw[q] at hi
  obtain ⟨ent,e2,e3⟩:=Hk hS q
  obtain ⟨u,y,F⟩:=ent
  have e3':y=x:=e3
  subst e3'
  have hm:(⟨u,y,F⟩ : Ent)∈S:=Ax e2
  match y,hi with
  | .dat m (.dict X),hi =>
   have hX:sR X=true:=hi
   obtain ⟨v,hv,rd,_⟩:=hA.ok _ (An _ hm)
   obtain ⟨a,kv,ks,rfl,_,ha,_⟩:=rd.dicI_inv
   exact ⟨a,kv,by rw[Ls e2]; exact congrArg some hv,ha⟩
theorem C1(hu:X.A.units+64<cLine)(ho:PE X o (bX n))(hi:Er X i dk)(he:Er X e de)(hs:Kb e (some (.Subscript o i pos')) pos.line X.env=pure false:=by rfl):rJ X (.Assign [.Subscript o i pos'] e pos) (P0 n dk de):=by
 refine PS.impD (sA (CB hu) ho hi he hs) λD σ H h=>?_
 obtain ⟨H0,Y,S,T,δ,P,rfl,hS,hT,hA,hd,k1,k2,k3,k4⟩:=h
 refine ⟨H0,Y,S,T,δ,_,rfl,hS,hA,hd,λy δ1 v F S1 H1 e1 e2 hA1 p1=>?_⟩
 obtain ⟨p1,p2⟩:=p1
 obtain ⟨a,kv,hv,ha⟩:=xR e2 hA1.drop p1
 rw[e1] at hv
 refine ⟨.ref a,hv,H0,Y,S1,⟨some v,y,F⟩::T,δ1,_,e1,e2,hA1,p2,λz δ2 w G S2 H2 e3 e4 hA2 p3=>?_⟩
 unfold iputB at p3
 split at p3
 ·rename_i X0 m1 d m2 k hsl
  obtain ⟨p3,p4,ks,u,rfl,rfl,p5,p6⟩:=p3
  obtain rfl:=(hA2.told mem_mid).int_at
  have r:=hA2.told Em
  obtain rfl:=r.imm p4
  obtain ⟨a',kv',g1,g2,g3,g4⟩:=gP (ks':=kC ks u d) e4 hT hA2.drop2 hsl p3
  rw[e3,hv] at g1
  cases g1
  obtain ⟨S3,h1,h2,h3⟩:=g4 (Mu kv' (Qc u) v) (yT u r g3)
  refine ⟨a,_,rfl,B9.k g2 (by rw[vW g3]; exact Cc p5 (mC (n:=1000000) (Ak _))),?_⟩
  rw[<- e3,<- h1]
  exact k1 ⟨_,_⟩ S3 _ h2 h3 p6
 ·exact p3.elim
end
def qX(x y z:DV)(δ:DS)(P:DV->DS->Prop):Prop:=match x,y,z with
 | .dat _ (.dict X),.dat _ k,.dat _ e=>∃(ks:List (Int×Ac)) (w:Int),X=Yv ks/\k=.int w/\imm e=true/\P (.dat .ow ((Pg ks w).getD e)) δ
 | _,_,_=>False
def u3:DV->Bool
 | .dat _ (.dict X)=>sR X
 | _=>false
def p9(da dk dz:DE):DE:=λδ P=>da δ λx δ1=>u3 x=true/\dk δ1 λy δ2=>dz δ2 λz δ3=>qX x y z δ3 P
section
variable{K:PySem.W.Frag}
theorem C2:∀σ H Q,LE K (p9 da dk dz) σ H Q->zI (LE K da) (LE K dk) (LE K dz) σ H Q:=by
 intro σ H Q h
 obtain ⟨H0,Y,S,T,δ,P,rfl,hS,hA,hd,k⟩:=h
 refine ⟨H0,Y,S,T,δ,_,rfl,hS,hA,hd,λx δ1 v F S1 H1 e1 e2 hA1 p1=>?_⟩
 obtain ⟨hx,p1⟩:=p1
 match x,hx with
 | .dat m (.dict X),hx =>
  have hX:sR X=true:=hx
  obtain ⟨a,kv,ks',rfl,rfl,ha,rel,_⟩:=(hA1.told mem_mid).dicI_inv
  refine ⟨a,rfl,.inl ⟨kv,.inl ha⟩,H0,Y,S1,_::T,δ1,_,e1,e2,hA1,p1,λy δ2 v2 F2 S2 H2 e3 e4 hA2 p2=>?_⟩
  refine ⟨H0,Y,S2,_::_::T,δ2,_,e3,e4,hA2,p2,λz δ3 v3 F3 S3 H3 e5 e6 hA3 p3=>?_⟩
  unfold qX at p3
  split at p3
  ·rename_i hx'
   obtain ⟨ks,w,ek,rfl,im,p⟩:=p3
   have m3:∀{e f g:Ent},g∈S3++e::f::g::T:=λ{e f g}=>Al _ (Ae _ (Ae _ Ab))
   obtain ⟨a',kv',ks2,ea,ek2,ha',rel',_⟩:=(hA3.told m3).dicI_inv
   cases ea
   cases hx'
   obtain rfl:=Vs ek2
   obtain rfl:=Vs ek
   obtain rfl:=(hA3.told Em).int_at
   have r:=hA3.told mem_mid
   obtain rfl:=r.imm im
   refine ⟨_,jE.k ha',?_⟩
   rcases jC w rel' with ⟨h1,h2⟩ | ⟨v',d',h1,h2,h3⟩
   ·rw[h1]
    rw[h2] at p
    exact k _ δ3 _ [] S3 H3 e5 e6 (hA3.drop2.drop.pushI r) p
   ·rw[h1]
    rw[h2] at p
    exact k _ δ3 _ [] S3 H3 e5 e6 (hA3.drop2.drop.pushI h3) p
  ·exact p3.elim
end
section
variable{X:Cx}{o e f:Expr}{de dk dz:DE}{p apos cpos pos:Pos}
theorem rT(hu:X.A.units+64<cLine)(ho:Er X o de)(he:Er X e dk)(hf:Er X f dz)(m:M2 X o "get" apos e f cpos):Er X (.Call (.Attribute o "get" apos) [e,f] [] cpos) (p9 de dk dz):=PE.imp (wI (CB hu) ho he hf m) C2
end
end DL
namespace Nd
open PySem PySem.Spec PyProof.Rows L2
def BM(bt:Nat->Nat->Bool)(P:Nat->Value->Prop)(j:Nat)(its:Array Value):Prop:=(j=0/\its=#[])\/∃i v,j=i+1/\P (argBest bt i) v/\its=#[v,v]
section
variable{prog:Bq}{w:World}{A:Cr}{R:Result->Aj->Prop}{I:Addr}{fp wr:List Addr}{n:Nat}{P:Nat->Value->Prop}{St:Nat->Heap->Prop}
theorem sY(W:Walks prog w A.in1 I fp wr n P St)(bt:Nat->Nat->Bool)(hcmp:CmpOf prog w A.in1 .Gt P bt)(S:Addr)(hSf:S∉fp)(d:Value):∀(k j:Nat) (s:Aj) (its:Array Value) (c:Nat),n - j=k->j<=n->St j s.heap->BM bt P j its->s.heap.get? S=some { cls:=.type "list",dict:=none,data:=.seq its c,slots:=#[] }->(∀v h' tk,(n=0->v=d)->(0<n->P (argBest bt (n - 1)) v)->(∀b o,b∉wr->b≠S->s.heap.get? b=some o->h'.get? b=some o)->R (.ok (.ret v)) { s with heap:=h',toks:=tk })->Oj (model prog w) A (.builtin "max.loop" ⟨[.ref I,.none,.ref S],[("default",d)]⟩) R s:=by
 have hSw:S∉wr:=λh=>hSf (W.sub _ h)
 have nm:(Qx "max" ++ Qx ".loop" : String) = "max.loop" := by decide
 intro k
 induction k with
 | zero =>
  intro j s its c hk hj hst hP hS hR
  have e:j=n:=by omega
  subst e
  refine Wg PySem.F.entry_max_loop ?_
  rw[Mx PySem.F.plain_max_loop _]
  refine Aa (m:=seqItems? (.ref S)) (Fs hS rfl ?_)
  refine Aa (m:=tryCatch (Kx (.ref I)) _) (Ym (W.done s _ _ hst λh' tk kp=>?_))
  rcases hP with ⟨z,rfl⟩ | ⟨i,v,z,pv,rfl⟩
  ·exact Aa (Kw (Am (hR d h' tk (λ_=>rfl) (λq=>absurd q (by omega)) λb o h1 _ e=>kp b o h1 e)))
  ·refine Aa (m:=updateSeq S (λ_=>#[])) (wpAny_updateSeq (kp S _ hSw hS) rfl (Aa (Mm (Am ?_))))
   exact hR v _ tk (λq=>by omega) (λ_=>by subst z; exact pv) λb o h1 h2 e=>(Fm _ _ (Lm h2)).trans (kp b o h1 e)
 | succ k ih =>
  intro j s its c hk hj hst hP hS hR
  have hlt:j<n:=by omega
  refine Wg PySem.F.entry_max_loop ?_
  rw[Mx PySem.F.plain_max_loop _]
  refine Aa (m:=seqItems? (.ref S)) (Fs hS rfl ?_)
  refine Aa (m:=tryCatch (Kx (.ref I)) _) (Ym (W.item j s _ _ hlt hst λv h' tk pv hst' kp=>?_))
  have hS':=kp S _ hSw hS
  rcases hP with ⟨z,rfl⟩ | ⟨i,vb,z,pb,rfl⟩
  ·subst z
   refine Aa (m:=updateSeq S (λ_=>#[v,v])) (wpAny_updateSeq hS' rfl ?_)
   rw[nm]
   refine Am ⟨Oi PySem.F.plain_max_loop _,ih 1 _ #[v,v] _ (by omega) (by omega) (W.frame _ _ _ hst' λb hb o e=>?_) (.inr ⟨0,v,rfl,pv,rfl⟩) (Fz _ hS' rfl) λv' h2 tk2 q1 q2 q3=>?_⟩
   ·exact (Fm _ _ (λh:S=b=>hSf (by rw[h]; exact hb))).trans e
   ·exact hR v' h2 tk2 q1 q2 λb o h1 h3 e=>q3 b o h1 h3 ((Fm _ _ (Lm h3)).trans (kp b o h1 e))
  ·subst z
   refine Aa (m:=tryCatch (holding [v,v] (richCompare .Gt v vb >>= _)) _) (Ym (Dd (Aa (hcmp (i+1) (argBest bt i) v vb _ _ _ pv pb ?_))))
   refine Aa (Dd (Fq (Aa (Mm (Am ?_)))))
   cases hb:bt (i+1) (argBest bt i) with
   | true =>
    simp only[if_true]
    refine Aa ?_
    refine wpAny_updateSeq hS' rfl (Aa (Mm ?_))
    rw[nm]
    refine Am ⟨Oi PySem.F.plain_max_loop _,ih (i+2) _ #[v,v] _ (by omega) (by omega) (W.frame _ _ _ hst' λb hb o e=>?_) (.inr ⟨i+1,v,rfl,by simp only[argBest,hb,if_true]; exact pv,rfl⟩) (Fz _ hS' rfl) λv' h2 tk2 q1 q2 q3=>?_⟩
    ·exact (Fm _ _ (λh:S=b=>hSf (by rw[h]; exact hb))).trans e
    ·exact hR v' h2 tk2 q1 q2 λb o h1 h3 e=>q3 b o h1 h3 ((Fm _ _ (Lm h3)).trans (kp b o h1 e))
   | false =>
    simp only[Bv,if_false]
    refine Aa (Mm ?_)
    rw[nm]
    refine Am ⟨Oi PySem.F.plain_max_loop _,ih (i+2) _ #[vb,vb] c (by omega) (by omega) hst' (.inr ⟨i+1,vb,rfl,by simp only[argBest,hb,Bv,if_false]; exact pb,rfl⟩) hS' λv' h2 tk2 q1 q2 q3=>?_⟩
    exact hR v' h2 tk2 q1 q2 λb o h1 h3 e=>q3 b o h1 h3 (kp b o h1 e)
end
theorem uH(a v:Value):argsOk "max" ⟨[a],[(Ds "default",v)]⟩:=by unfold argsOk; kernel_rfl
section
variable{X:Cx}{pins:List (Addr×Obj)}{σ:List (Option V)}{H:Hp}{s:Aj}
def xQ(K:PySem.W.Frag):V->V->Hp->VK->Prop:=λx d H Q=>∃(a:Addr) (ns:List Int),x=.ref a/\Mc K H a (ns.map V.int)/\(ns=[]->Q d H)/\∀M∈ns,(∀x∈ns,x<=M)->Q (.int M) H
theorem sX(hc:X.calm=true)(I:Inv X pins σ H s)(ru:RelV x u)(rd:RelV d ud)(h:xQ X.K x d H Q):wpAny (model X.prog X.w) X.A (call (.builtin "max") [u] [(Ds "default",ud)]) (EP X pins σ Q) X.xe s:=by
 obtain ⟨p,ns,rfl,hp,q0,q⟩:=h
 cases ru
 obtain ⟨its,rv,pl,_⟩:=I.list hp
 obtain ⟨ps,rfl,rfl⟩:=Ny rv
 have hl:s.heap.IsList p (Nc ps.toArray):=by simpa [Nc] using pl.isList
 have nm:(Qx "max" ++ Qx ".loop" : String) = "max.loop" := by decide
 refine kmb_tree PySem.F.kind_max PySem.F.plain_max PySem.F.entry_max (uH _ _) ?_
 refine Aa (m:=Uc "max" ["key", "default"] 0 ⟨[],[(Ds "default",ud)]⟩) (wpAny_of_eq (show Uc "max" ["key", "default"] 0 ⟨[],[(Ds "default",ud)]⟩=pure [none,some ud] from rfl) ?_)
 refine Aa (Am (Aa (iter_intList hl λs₂ e st hfp hlI=>?_)))
 subst e
 refine Aa (Dv ?_)
 rw[nm]
 have W:=Walks.list (prog:=X.prog) (w:=X.w) (A:=X.A.in1) (I.ok.hd hc) s.heap.objs.size p hlI (Nc ps.toArray)
 have nf:=λhm=>Fk _ (hfp _ hm)
 refine Am ⟨Oi PySem.F.plain_max_loop _,sY W _ (CmpOf.ints_gt (numAt ps.toArray) (λ_ _=>intItems_at)) _ nf ud _ 0 _ #[] _ rfl (Dg _) (W.frame _ _ _ st λb _ o e=>Ah _ e) (.inl ⟨rfl,rfl⟩) (Bg _ rfl) λv h' tk q1 q2 q3=>?_⟩
 have kept:∀b o,s.heap.get? b=some o->h'.get? b=some o:=λb o e=>by
  have hb:=Bh e
  refine q3 b o (λz=>?_) (λz=>?_) (Ah _ (Ah _ e))
  ·rw[Af.mp z] at hb
   exact Fk _ hb
  ·rw[z,Ij] at hb
   exact Fk _ (Nat.lt_of_succ_lt hb)
 have sz:(Nc ps.toArray).size=ps.length:=by simp [Nc]
 cases ps with
 | nil=>exact ⟨d,H,I.kept kept,by rw[q1 (by rw[sz]; rfl)]; exact rd,q0 rfl⟩
 | cons y ps =>
  have hv:=q2 (by rw[sz]; exact Nat.succ_pos _)
  rw[sz] at hv
  obtain ⟨t,rfl⟩:=intItems_at hv
  obtain ⟨h1,h2⟩:=argBest_gt (numAt (y::ps).toArray) ((y::ps).length - 1)
  refine ⟨.int _,H,I.kept kept,⟨t,rfl⟩,q _ ?_ λx hx=>?_⟩
  ·rw[numAt_eq]; exact getD_mem (by rw[Ad]; show _<(y::ps).length; have:=Bs (a:=y) (as:=ps); omega)
  ·obtain ⟨j,hj,rfl⟩:=mem_getD hx
   rw[Ad] at hj
   have:=h2 j (by have hj':j<(y::ps).length:=hj; omega)
   rw[numAt_eq (y::ps).toArray j] at this
   exact this
end
end Nd
namespace DL
open PySem PySem.Spec PyProof.Rows L2 Nd
section
variable{X:Cx}{e:Expr}{t:TA}{p1 kp cp pos:Pos}{k:Int}{j:Nat}
theorem L8(hc:X.calm=true)(hg:Gl X "max")(hm:X.mg "max" = none)(ha:PA X [e] t)(hs:Bp [e] X.env=[(false,eval e X.env)]:=by rfl):PE X (.Call (.Name "max" p1) [e] [⟨some "default",.Constant (.int k) j cp,kp⟩] pos) (BC (λxs H Q=>∃x,xs=[x]/\xQ X.K x (.int k) H Q) t):=by
 intro pins s σ H Q I h
 refine Jq (Nz I hg hm (u:=.builtin "max") (by decide +kernel) ?_)
 refine Zc (Gj (ha pos pins s σ H _ I h) λus s1 ⟨vs,H1,I1,r1,q1⟩=>?_) (by rw[hs]; rfl) (by rw[hs]; rfl)
 obtain ⟨x,rfl,q⟩:=q1
 obtain ⟨u,rfl,ru⟩:=vals1 r1
 refine kws_cons (wpAny_Constant_int (kws_nil ?_))
 exact sX (d:=.int k) hc (I1.tok _) ru ⟨_,rfl⟩ q
end
def gX(k:Int):DC:=λxs P=>match xs with
 | [.dat _ (.list ds)]=>∃ns:List Int,ds=ns.map Ai/\(ns=[]->P (.dat .ow (.int k)))/\∀M∈ns,(∀x∈ns,x<=M)->P (.dat .ow (.int M))
 | _=>False
section
variable{K:PySem.W.Frag}{k:Int}
theorem B3:My K (λxs H Q=>∃x,xs=[x]/\xQ K x (.int k) H Q) (gX k):=by
 intro H0 X n S T As us H Q P eu hA hd kk
 unfold gX at hd
 split at hd
 ·rename_i ex
  obtain ⟨v,F,rfl,hA⟩:=Gm eu hA ex
  obtain ⟨ns,rfl,h0,h1⟩:=hd
  obtain ⟨a,xs,G,rfl,ha,ra,rfl,hz⟩:=(hA.told mem_mid).list_inv
  obtain ⟨rfl,_⟩:=ra.ints_inv
  exact ⟨_,rfl,a,ns,rfl,Mc.of ha,λz=>kk _ _ [] H (hA.drop.pushI (.int _)) (h0 z),λM hM hle=>kk _ _ [] H (hA.drop.pushI (.int _)) (h1 M hM hle)⟩
 ·exact hd.elim
variable{X:Cx}{e:Expr}{da:DA}{p1 kp cp pos:Pos}{j:Nat}
theorem C9(hc:X.calm=true)(hg:Gl X "max")(hm:X.mg "max" = none)(ha:jK X [e] da)(hs:Bp [e] X.env=[(false,eval e X.env)]:=by rfl):Er X (.Call (.Name "max" p1) [e] [⟨some "default",.Constant (.int k) j cp,kp⟩] pos) (AN (gX k) da):=PE.imp (L8 hc hg hm ha hs) (sE B3)
end
mutual
def oE:Ac->Bool
 | .list xs=>nY xs
 | .tuple xs=>nY xs
 | .dict _=>false
 | _=>true
def nY:List Ac->Bool
 | []=>true
 | x::xs=>oE x && nY xs
end
def gM:DV->Bool
 | .un=>true
 | .scr _=>true
 | .val _=>true
 | .tpl _=>true
 | .drw=>true
 | .dat .ow _=>true
 | .dat _ d=>oE d
 | _=>false
theorem qH(h:Vn a x=Vn b y):a=b/\x=y:=by
 obtain ⟨h1,h2⟩:=Dr h
 refine ⟨Int.ofNat.inj (PyData.int.inj (Prod.mk.inj h1).2),?_⟩
 refine Qk (λx y e=>?_) h2
 obtain ⟨e1,e2⟩:=Prod.mk.inj e
 exact Prod.ext (Rq e1) e2
section
variable{K:PySem.W.Frag}{H:Hp}
theorem RdF.dicN_inv(h:RdF K H v (.dict (Vn b ks)) F):∃kv,v=.ref b/\H b=some (.dT kv)/\DRel K H kv ks/\F=[b]:=by
 generalize e:Vn b ks=X at h
 cases h with
 | dic h e' hs=>cases e
 | dik h e' hs=>cases e
 | dnm h e' hs =>
  obtain ⟨rfl,rfl⟩:=qH e
  exact ⟨_,rfl,h,⟨e',hs⟩,rfl⟩
mutual
theorem RdF.lsts:∀{v:V} {d:Ac} {F:List Addr},RdF K H v d F->oE d=true->∀b∈F,∃xs,H b=some (.lst xs)
 | _,_,_,.non,_,b,z=>nomatch z
 | _,_,_,.bl _,_,b,z=>nomatch z
 | _,_,_,.int _,_,b,z=>nomatch z
 | _,_,_,.str _,_,b,z=>nomatch z
 | _,_,_,.lst h l hs,k,b,z=>by
  rcases Ag.mp z with rfl | z
  ·exact ⟨_,h⟩
  ·exact RdFs.lsts hs (by simpa [oE] using k) b z
 | _,_,_,.tup h l hs,k,b,z=>RdFs.lsts hs (by simpa [oE] using k) b z
 | _,_,_,.dic h e hs,k,b,z=>by simp [oE] at k
 | _,_,_,.dik h e hs,k,b,z=>by simp [oE] at k
 | _,_,_,.dnm h e hs,k,b,z=>by simp [oE] at k
theorem RdFs.lsts:∀{v:List V} {d:List Ac} {F:List Addr},RdFs K H v d F->nY d=true->∀b∈F,∃xs,H b=some (.lst xs)
 | _,_,_,.nil,_,b,z=>nomatch z
 | _,_,_,.cons h hs,k,b,z=>by
  simp only[nY,Dk] at k
  rcases Ay.mp z with z | z
  ·exact RdF.lsts h k.1 b z
  ·exact RdFs.lsts hs k.2 b z
end
theorem J5(h:At K H0 Y n (e::f::E) H)(he:e.F=[a])(hp:Lh e.x=false)(ha:H a=some (.dT kv))(hf:gM f.x=true):a∉f.F:=by
 have ok:=h.ok f (Ae _ Ab)
 have sp:=((Bb.mp h.sep).1 f Ab).2 (.inl hp)
 obtain ⟨v,x,F⟩:=f
 intro z
 have z:a∈F:=z
 cases x with
 | un=>have ok:F=[]:=ok; rw[ok] at z; cases z
 | val _=>have ok:F=[]:=ok.2; rw[ok] at z; cases z
 | scr _=>obtain ⟨_,_,ok,_⟩:=ok; have ok:F=[]:=ok; rw[ok] at z; cases z
 | tpl _=>obtain ⟨_,_,_,ok⟩:=ok; have ok:F=[]:=ok; rw[ok] at z; cases z
 | drw=>exact sp a z (by rw[he]; exact mN a)
 | dT _=>cases hf
 | acc _=>cases hf
 | grd _=>cases hf
 | dat m d =>
  obtain ⟨u,_,rd,_⟩:=ok
  cases m with
  | ow=>exact sp a z (by rw[he]; exact mN a)
  | _ =>
   obtain ⟨xs,q⟩:=rd.lsts hf a z
   rw[ha] at q; cases q
theorem At.thaw(h:At K H0 Y n (⟨v,.dat .sh (.dict (Vn a ks)),F⟩::E) H)(h0:H0 a=none)(hE:∀f∈E,a∉f.F):At K H0 Y n (⟨v,.dat .ow (.dict (Qi ks)),[a]⟩::E) H:=by
 obtain ⟨u,e1,rd,_⟩:=h.ok _ Ab
 obtain ⟨kv,rfl,ha,rel,eF⟩:=rd.dicN_inv
 have sp:=Bb.mp h.sep
 refine ⟨λf hf=>?_,Bb.mpr ⟨λf hf=>⟨λ_ b hb z=>?_,λ_ b hb z=>?_⟩,sp.2⟩,λf hf b hb=>?_,h.same,h.dom,h.xd⟩
 ·rcases Ag.mp hf with rfl | hf
  ·exact ⟨_,e1,.dic ha rel.key rel.val,λ_=>Bx.mpr ⟨Av,Dc⟩,λz=>nomatch z⟩
  ·exact h.ok f (Ae _ hf)
 ·have hb:b∈[a]:=hb
  rw[Af.mp hb] at z
  exact hE f hf z
 ·have z:b∈[a]:=z
  rw[Af.mp z] at hb
  exact hE f hf (Eo f _ hb)
 ·rcases Ag.mp hf with rfl | hf
  ·have hb:b∈[a]:=hb
   rw[Af.mp hb]
   exact .inl h0
  ·exact h.new f (Ae _ hf) b hb
theorem At.named(h:At K H0 Y n (⟨some (.ref a),.dat .ow (.dict (Qi ks)),[a]⟩::E) H):At K H0 Y n (⟨some (.ref a),.dat .sh (.dict (Vn a ks)),[a]⟩::E) H:=by
 obtain ⟨u,e1,rd,_⟩:=h.ok _ Ab
 cases e1
 obtain ⟨a',kv,ks',e2,ek,ha,rel,_⟩:=rd.dict_inv
 cases e2
 obtain rfl:=Sq ek
 have sp:=Bb.mp h.sep
 refine ⟨λf hf=>?_,Bb.mpr ⟨λf hf=>⟨λ_ b hb=>(nomatch hb),λhq b hb z=>(sp.1 f hf).2 hq b hb z⟩,sp.2⟩,λf hf b hb=>?_,h.same,h.dom,h.xd⟩
 ·rcases Ag.mp hf with rfl | hf
  ·exact ⟨_,rfl,.dnm ha rel.key rel.val,λz=>(nomatch z),λz=>(nomatch z)⟩
  ·exact h.ok f (Ae _ hf)
 ·rcases Ag.mp hf with rfl | hf
  ·cases hb
  ·exact h.new f (Ae _ hf) b hb
theorem At.dupS(h:At K H0 Y n (e::E) H)(hc:cells e=[]):At K H0 Y n (e::e::E) H:=by
 have sp:=Bb.mp h.sep
 refine ⟨λf hf=>h.ok f ?_,Bb.mpr ⟨λf hf=>?_,h.sep⟩,λf hf=>h.new f ?_,h.same,h.dom,h.xd⟩
 ·rcases Ag.mp hf with rfl | hf
  ·exact Ab
  ·exact hf
 ·rcases Ag.mp hf with rfl | hf
  ·exact ⟨λ_ b hb=>(by rw[hc] at hb; cases hb),λ_ b hb=>(by rw[hc] at hb; cases hb)⟩
  ·exact sp.1 f hf
 ·rcases Ag.mp hf with rfl | hf
  ·exact Ab
  ·exact hf
theorem oG:IterOk K (GM a ks.length) [⟨some (.ref a),.dat .sh (.dict (Vn a ks)),F⟩] .sh (ks.map λp=>Ck p.1) where
 md:=.inl rfl
 hd:=fR (m:=.sh)
 np:=sC (m:=.sh)
 go:=λH n i h hi=>by
  obtain ⟨kv,e,ha,rel,_⟩:=(Kj h Ab).dicN_inv
  rw[Ad] at hi
  exact ⟨kv,ha,Sd rel,hi⟩
 yld:=λH n i x H' h hi y=>by
  obtain ⟨kv,e,ha,rel,_⟩:=(Kj h Ab).dicN_inv
  obtain ⟨t,k,v,rfl,rfl,y1,y2,y3⟩:=y
  obtain ⟨w,d,e1,rfl⟩:=Y1 rel (y1 kv ha)
  exact ⟨Mv.refl _,Ck w,[],by rw[Bf,e1]; rfl,B2 y2 y3,λc hc=>nomatch hc⟩
 stop:=λH n h=>by
  obtain ⟨kv,e,ha,rel,_⟩:=(Kj h Ab).dicN_inv
  rw[Ad]
  exact ⟨kv,ha,Sd rel,rfl⟩
end
def R3(i:Nat)(dg:DG)(db:DB):DB:=λD δ=>∃ks,δ.sl[i]? = some (.dat .ow (.dict (Qi ks)))/\ks.length<=1000000/\∀a:Addr,∃I:Nat->DS->Prop,I 0 ⟨δ.sl.set i (.dat .sh (.dict (Vn a ks))),δ.n⟩ /\
 (∀j d δ',(ks.map λp=>Ck p.1)[j]? = some d->I j δ'->dg (.dat .sh d) δ' λδ2=>db { D with nx:=I (j+1),ct:=I (j+1),bk:=λ_=>False } δ2) /\
 ∀δ',I ks.length δ'->δ'.sl[i]? = some (.dat .sh (.dict (Vn a ks)))/\(δ'.sl.set i .un).all gM=true/\D.nx ⟨δ'.sl.set i (.dat .ow (.dict (Qi ks))),δ'.n⟩
section
variable{X:Cx}{tg iter:Expr}{dg:DG}{db:DB}{body:List Stmt}{pos:Pos}{n:Nat}
theorem G8(hp:PassesOwn (model X.prog X.w) X.A X.env X.xe)(hc:X.calm=true)(ho:PE X iter (bX n))(hg:BX X tg dg)(hb:Wx X body db)(hs:∀x,Ee iter X.env x=pure x:=by intro _; rfl):rJ X (.For tg iter body [] pos) (R3 n dg db):=by
 refine PS.impD (fT hp hc (K2 ho) hg hb hs) λD σ H h=>?_
 obtain ⟨H0,Y,S,T,δ,P,rfl,hS,hT,hA,hd,k1,k2,k3,k4⟩:=h
 obtain ⟨ks,hsl,hl,hd⟩:=hd
 obtain ⟨ent,e2,e3⟩:=Hk hS hsl
 have hm:ent∈S:=Ax e2
 obtain ⟨u,x,F⟩:=ent
 have e3':x=.dat .ow (.dict (Qi ks)):=e3
 subst e3'
 obtain ⟨v,hv,rd,_⟩:=hA.ok _ (An _ hm)
 obtain ⟨a,kv,ks0,rfl,ek,ha,rel,eF⟩:=rd.dict_inv
 obtain rfl:=Sq ek
 have eF':F=[a]:=eF
 have hv':u=some (.ref a):=hv
 subst eF' hv'
 have q1:=Ji e2
 have q2:=Nn (y:=(⟨some (.ref a),.dat .sh (.dict (Vn a ks)),[a]⟩ : Ent)) e2
 have hB:=hA.perm (q1.append_right T)
 have fresh:H0 a=none:=by
  rcases hB.new _ Ab a Ab with z | z
  ·exact z
  ·cases z.2
 have offT:∀f∈T,a∉f.F:=λf hf=>((Bb.mp hB.sep).1 f (Al _ hf)).1 (.inl (hT f hf)) a Ab
 have hN:=hB.named
 have hA1:At X.K H0 Y δ.n (S.set n ⟨some (.ref a),.dat .sh (.dict (Vn a ks)),[a]⟩++T) H:=hN.perm (q2.append_right T).symm
 refine ⟨.ref a,?_,a,kv,rfl,ha,?_⟩
 ·rw[Ls e2]
 rw[Sd rel]
 obtain ⟨I,h0,hst,hf⟩:=hd a
 have eV:∀{S':List Ent} {x y:DV} {F' F2:List Addr} {w:Option V},S'[n]? = some ⟨w,x,F'⟩->vs (S'.set n ⟨w,y,F2⟩)=vs S':=λ{S' x y F' F2 w} q=>by
  unfold vs
  rw[Et]
  exact Ua (by rw[Bf,q]; rfl)
 have eS:Sl (S.set n ⟨some (.ref a),.dat .sh (.dict (Vn a ks)),[a]⟩) ⟨δ.sl.set n (.dat .sh (.dict (Vn a ks))),δ.n⟩:=by
  unfold Sl at hS ⊢
  rw[Et,hS]
 have hA2:At X.K H0 Y δ.n (S.set n ⟨some (.ref a),.dat .sh (.dict (Vn a ks)),[a]⟩++([⟨some (.ref a),.dat .sh (.dict (Vn a ks)),[a]⟩]++T)) H :=
  (hN.dupS rfl).perm ((List.Perm.cons _ (q2.append_right T).symm).trans List.perm_middle.symm)
 have it:=oG (K:=X.K) (a:=a) (ks:=ks) (F:=[a])
 have hT':∀e∈[(⟨some (.ref a),.dat .sh (.dict (Vn a ks)),[a]⟩ : Ent)]++T,Lh e.x=false:=λe he=>by
  rcases Ay.mp he with he | he
  ·exact it.np rfl e he
  ·exact hT e he
 refine ⟨λi q σ H=>q=ks.length - i/\i<=ks.length/\∃S δ,vs S=σ/\Sl S δ/\At X.K H0 Y δ.n (S++([⟨some (.ref a),.dat .sh (.dict (Vn a ks)),[a]⟩]++T)) H/\I i δ,⟨ks.length,by simp,Dg _,_,_,eV e2,eS,hA2,h0⟩,?_⟩
 (intro i q σ H q_; obtain ⟨rfl,hi,S2,δ2,rfl,e4,hA3,hI⟩ := q_)
 have hid_ok:∀e∈[(⟨some (.ref a),.dat .sh (.dict (Vn a ks)),[a]⟩ : Ent)],Gu X.K H δ2.n e:=λe he=>hA3.ok e (Al _ (An _ he))
 by_cases hlt:i<ks.length
 ·refine .inr ⟨it.go H δ2.n i hid_ok (by rw[Ad]; exact hlt),λσ' H'=>∃S δ,vs S=σ'/\Sl S δ/\At X.K H0 Y δ.n (S++([⟨some (.ref a),.dat .sh (.dict (Vn a ks)),[a]⟩]++T)) H'/\I (i+1) δ,λσ' H' q=>⟨ks.length - (i+1),by omega,rfl,hlt,q⟩,λx H' y=>?_⟩
  obtain ⟨s1,d,F,h1,h2,h3⟩:=it.yld H δ2.n i x H' hid_ok (by rw[Ad]; exact hlt) y
  refine ⟨H0,Y,S2,_,δ2,.dat .sh d,F,_,rfl,e4,hA3.item s1 h2 h3 it.md it.hd it.np,hst i d δ2 h1 hI,λδ3 S3 H3 e5 hA4 p3=>?_⟩
  refine ⟨H0,Y,S3,_,δ3,_,rfl,e5,hT',hA4,p3,λδ4 S4 H4 e6 hA5 p4=>⟨S4,δ4,rfl,e6,hA5,p4⟩,λx δ4 v F S4 H4 e6 hA5 p4=>k2 x δ4 v F S4 H4 e6 hA5.dropH p4,
   λδ4 S4 H4 e6 hA5 p4=>p4.elim,λδ4 S4 H4 e6 hA5 p4=>⟨S4,δ4,rfl,e6,hA5,p4⟩⟩
 ·have e:i=ks.length:=by omega
  subst e
  refine .inl ⟨by have:=it.stop H δ2.n hid_ok; rwa [Ad] at this,?_⟩
  obtain ⟨g1,g2,g3⟩:=hf δ2 hI
  have hA4:=hA3.dropL
  obtain ⟨ent,e5,e6⟩:=Hk e4 g1
  obtain ⟨u,x,F⟩:=ent
  have e6':x=.dat .sh (.dict (Vn a ks)):=e6
  subst e6'
  have r1:=Ji e5
  have hC:=hA4.perm (r1.append_right T)
  obtain ⟨v,hv,rd2,_⟩:=hC.ok _ Ab
  obtain ⟨kv2,rfl,ha2,_,eF⟩:=rd2.dicN_inv
  have eF':F=[a]:=eF
  have hv':u=some (.ref a):=hv
  subst eF' hv'
  have hE:∀f∈S2.eraseIdx n++T,a∉f.F:=λf hf=>by
   rcases Ay.mp hf with hf | hf
   ·obtain ⟨j,hj,ej⟩:=List.mem_eraseIdx_iff_getElem?.mp hf
    have okf:gM f.x=true:=Dh.mp g2 f.x (Ax (i:=j) (by
     have e4':S2.map (·.x)=δ2.sl:=e4
     rw[Nm hj.symm,<- e4',Bf,ej]; rfl))
    obtain ⟨l1,l2,el⟩:=List.append_of_mem hf
    have hD:=hC.sub (E':=⟨some (.ref a),.dat .sh (.dict (Vn a ks)),[a]⟩::f::[]) (by
     refine List.Sublist.cons₂ _ ?_
     show [f].Sublist (S2.eraseIdx n++T)
     exact List.singleton_sublist.mpr (An _ hf))
    exact J5 hD rfl rfl ha2 okf
   ·exact offT f hf
  have hF:=hC.thaw fresh hE
  have r2:=Nn (y:=(⟨some (.ref a),.dat .ow (.dict (Qi ks)),[a]⟩ : Ent)) e5
  have:=k1 ⟨δ2.sl.set n (.dat .ow (.dict (Qi ks))),δ2.n⟩ (S2.set n ⟨some (.ref a),.dat .ow (.dict (Qi ks)),[a]⟩) H (by
   unfold Sl at e4 ⊢
   rw[Et,e4]) (hF.perm (r2.append_right T).symm) g3
  rw[eV e5] at this
  exact this
end
def Zh:D2:=λx y P=>match x,y with
 | .dat _ (.dict X),.dat _ k=>∃a ks w d,X=Vn a ks/\k=Ck w/\Za ks w=some d/\P (.dat .ow d)
 | _,_=>False
theorem xM{K:PySem.W.Frag}:mK K Q3 Zh:=by
 intro H0 X n S T x y v w F G H Q P hA hd k
 unfold Zh at hd
 split at hd
 ·obtain ⟨a,ks,u,d,rfl,rfl,hg,p⟩:=hd
  obtain ⟨b,rfl,hb⟩:=Vv (hA.told mem_mid)
  obtain ⟨kv,rfl,ha,rel,_⟩:=(hA.told Em).dicN_inv
  rcases cE u rel with ⟨_,z⟩ | ⟨v',d',h1,h2,h3⟩
  ·rw[z] at hg; cases hg
  ·rw[h2] at hg; cases hg
   exact ⟨a,v',rfl,h1▸jE.t ha hb,k _ _ [] H (hA.drop2.pushI h3) p⟩
 ·exact hd.elim
theorem xZ(hu:X.A.units+64<cLine)(ha:Er X a da)(hb:Er X b db)(hs:G9 b:=by intro _ _; rfl):Er X (.Subscript a b pos) (Xq Zh da db):=PE.imp (rG (CB hu) ha hb hs) (eU xM)
end DL
namespace Nd
open PySem PySem.Spec PySem.Calls PyProof.Rows PyProof.V L2 Ts
end Nd
namespace DL
open PySem PySem.Spec PyProof.Rows L2 Nd Ts
theorem tab_no{K:PySem.W.Frag}(nm:PySem.W.nsIn K Ci x=some none):PySem.W.tabIn K x=none:=by
 unfold PySem.W.tabIn
 rw[nm]
end DL
namespace DL
open PySem PySem.Spec PyProof.Rows L2 Nd
def EZ(t u:DB)(D:DEnds)(b:Bool)(δ:DS):Prop:=match b with
 | true=>t D δ
 | false=>u D δ
def BS(x:DV)(δ:DS)(P:DV->DS->Prop):Prop:=match x with
 | .dat _ d=>imm d=true/\P (.dat .ow d) δ
 | _=>False
def HU(i:Nat)(s:Option DV)(δ:DS)(P:DV->DS->Prop):Prop:=match s with
 | some (.dat .pk _)=>False
 | some (.dat _ d)=>P (.dat .sh d) ⟨δ.sl.set i (.dat .sh d),δ.n⟩
 | _=>False
def IA(xs:List DV)(δ:DS)(P:DV->DS->Prop):Prop:=match datas xs with
 | some ds=>ds.length<=1000/\P (.dat (pkMd .sh xs) (.tuple ds)) δ
 | none=>False
def lstB(xs:List DV)(δ:DS)(P:DV->DS->Prop):Prop:=match datas xs with
 | some ds=>ds.length<=1000/\P (.dat (pkMd .tp xs) (.list ds)) δ
 | none=>False
def Q5(x:DV)(δ:DS)(P:Option Int->DS->Prop):Prop:=match x with
 | .dat _ (.int i)=>P (some i) δ
 | _=>False
def GV(i:Bool)(x:DV)(l h:Option Int)(δ:DS)(P:DV->DS->Prop):Prop:=match x with
 | .dat m (.list ds)=>Yg i m (Ml ds l h) λz=>P z δ
 | .dat m (.tuple ds)=>gZ i m (Ml ds l h) λz=>P z δ
 | _=>False
def IE(xs:List DV)(δ:DS)(P:DV->DS->Prop):Prop:=match xs with
 | [.dat _ (.list ds)]=>∃ns:List Int,ds=ns.map Ai/\(∀x∈ns,0<=x/\x<60)/\P (.dat .ow (.list ((Z2 ns).map Ai))) δ
 | [.dat _ (.tuple ds)]=>∃ns:List Int,ds=ns.map Ai/\(∀x∈ns,0<=x/\x<60)/\P (.dat .ow (.list ((Z2 ns).map Ai))) δ
 | _=>False
def bB(x:DV)(δ:DS)(P:Bool->DS->Prop):Prop:=match x with
 | .dat _ (.bool b)=>P b δ
 | _=>False
def CI(du:DT)(b:Bool)(δ:DS)(P:Bool->DS->Prop):Prop:=match b with
 | true=>du δ P
 | false=>P false δ
def FD(du:DT)(b:Bool)(δ:DS)(P:Bool->DS->Prop):Prop:=match b with
 | true=>P true δ
 | false=>du δ P
def AY(x:DV)(δ:DS)(P:DV->DS->Prop):Prop:=match x with
 | .dat _ (.bool b)=>P (.dat .ow (.bool (!b))) δ
 | _=>False
def L4(db:DE)(x:DV)(δ:DS)(P:DV->DS->Prop):Prop:=match x with
 | .dat _ (.bool true)=>db δ P
 | .dat _ (.bool false)=>P (.dat .ow (.bool false)) δ
 | _=>False
def CL(x:DV)(δ:DS)(P:DV->DS->Prop):Prop:=match x with
 | .dat _ (.int i)=>P (.dat .ow (.int (-i))) δ
 | _=>False
def lB(x:DV)(δ:DS)(P:Md->List Ac->DS->Prop):Prop:=match x with
 | .dat m (.list ds)=>P (Le m) ds δ
 | _=>False
def GW(x:DV)(δ:DS)(P:Md->List Ac->DS->Prop):Prop:=match x with
 | .dat m (.tuple ds)=>P (Le m) ds δ
 | _=>False
def M8(xs:List DV)(δ:DS)(P:Md->List Ac->DS->Prop):Prop:=match xs with
 | [.dat _ (.int j)]=>-1000000<=j/\j<=1000000/\P .sh ((Di j.toNat).map λi:Nat=>.int i) δ
 | _=>False
def N7(xs:List DV)(δ:DS)(P:Md->List Ac->DS->Prop):Prop:=match xs with
 | [.dat m (.list ds)]=>P (Le m) (ds.zipIdx.map λp=>.tuple [.int p.2,p.1]) δ
 | _=>False
def BL(dg:DG)(db:DB)(D:DEnds)(m:Md)(ds:List Ac)(δ1:DS):Prop:=m=.sh/\∃I:Nat->DS->Prop,I 0 δ1 /\
 (∀i d δ',ds[i]? = some d->I i δ'->dg (.dat .sh d) δ' λδ2=>db { D with nx:=I (i+1),ct:=I (i+1),bk:=D.nx } δ2)/\∀δ',I ds.length δ'->D.nx δ'
def j4(js:List Nat)(dc:DT)(de:DE)(P:DV->DS->Prop)(m:Md)(ds:List Ac)(δ1:DS):Prop:=∃I:Nat->List Ac->Nat->Prop,I 0 [] δ1.n /\
 (∀i d acc n,ds[i]? = some d->I i acc n->Qb dc de ⟨.dat m d::frD δ1.sl js,n⟩ (λe n'=>I (i+1) (acc++[e]) n') (λn'=>I (i+1) acc n')) /\
 ∀acc n,I ds.length acc n->P (.dat .ow (.list acc)) ⟨δ1.sl,n⟩
def xE(js:List Nat)(dc:DT)(de:DE)(P:DV->DS->Prop)(m:Md)(ds:List Ac)(δ1:DS):Prop:=∃I:Nat->List Ac->Nat->Prop,I 0 [] δ1.n /\
 (∀i d acc n,ds[i]? = some d->I i acc n->∃d1 d2,d=.tuple [d1,d2]/\Qb dc de ⟨.dat m d1::.dat m d2::frD δ1.sl js,n⟩ (λe n'=>I (i+1) (acc++[e]) n') (λn'=>I (i+1) acc n')) /\
 ∀acc n,I ds.length acc n->P (.dat .ow (.list acc)) ⟨δ1.sl,n⟩
def oK(js:List Nat)(dc:DT)(de:DE)(P:DV->DS->Prop)(m:Md)(ds:List Ac)(δ1:DS):Prop:=∃I:Nat->List Ac->Nat->Prop,I 0 [] δ1.n /\
 (∀i d acc n,ds[i]? = some d->I i acc n->Ku false dc de ⟨.dat m d::frD δ1.sl js,n⟩ (λe n'=>I (i+1) (acc++[e]) n') (λn'=>I (i+1) acc n')) /\
 ∀acc n,I ds.length acc n->P (.dat .tp (.list acc)) ⟨δ1.sl,n⟩
def vT(js1:List Nat)(j0:Nat)(js2:List Nat)(dc:DT)(de:DE)(P:DV->DS->Prop)(m:Md)(ds:List Ac)(δ1:DS):Prop:=δ1.sl[j0]? = some .drw/\∃I:Nat->List Ac->Nat->Prop,I 0 [] δ1.n /\
 (∀i d acc n,ds[i]? = some d->I i acc n->Py (js1.length+1) dc de ⟨.dat m d::(frD (δ1.sl.set j0 .un) js1++.drw::frD (δ1.sl.set j0 .un) js2),n⟩ (λe n'=>I (i+1) (acc++[e]) n') (λn'=>I (i+1) acc n')) /\
 ∀acc n,I ds.length acc n->P (.dat .ow (.list acc)) ⟨δ1.sl,n⟩
def B0(yes:Ac->Nat->Prop)(y:DV)(δ:DS):Prop:=match y with
 | .dat _ e=>imm e=true/\yes e δ.n
 | _=>False
def qV(de:DE)(yes:Ac->Nat->Prop)(no:Nat->Prop)(b:Bool)(δ:DS):Prop:=match b with
 | true=>de δ λy δ3=>B0 yes y δ3
 | false=>no δ.n
def xD(yes:Ac->Nat->Prop)(y:DV)(δ:DS):Prop:=match y with
 | .dat m e=>m≠.pk/\yes e δ.n
 | _=>False
def vZ(de:DE)(yes:Ac->Nat->Prop)(no:Nat->Prop)(b:Bool)(δ:DS):Prop:=match b with
 | true=>de δ λy δ3=>xD yes y δ3
 | false=>no δ.n
def wZ(p:Nat)(yes:Ac->Nat->Prop)(y:DV)(δ:DS):Prop:=match y with
 | .dat _ e=>imm e=true/\δ.sl[p]? = some .drw/\yes e δ.n
 | _=>False
def zC(p:Nat)(de:DE)(yes:Ac->Nat->Prop)(no:Nat->Prop)(b:Bool)(δ:DS):Prop:=match b with
 | true=>de δ λy δ3=>wZ p yes y δ3
 | false=>δ.sl[p]? = some .drw/\no δ.n
def callB(pf:PF)(xs:List DV)(δ:DS)(P:DV->DS->Prop):Prop:=match datas xs with
 | some ds=>pf ds λd=>P (.dat .ow d) δ
 | none=>False
def callBW(i:Nat)(df:DF)(xs:List DV)(δ:DS)(P:DV->DS->Prop):Prop:=match δ.sl[i]? with
 | some .drw=>match datas xs with
  | some ds=>df ds δ.n λd n'=>P (.dat .ow d) ⟨δ.sl,n'⟩
  | none=>False
 | _=>False
def p7(xs:List DV)(δ:DS)(P:DV->DS->Prop):Prop:=match xs with
 | [.dat _ (.int _)]=>P .drw δ
 | _=>False
def revLB(x:DV)(δ:DS)(P:DV->DS->Prop):Prop:=match x with
 | .dat _ (.list ds)=>Dw ds=true/\P (.dat .ow (.list ds.reverse)) δ
 | _=>False
def appB(i:Nat)(y:DV)(δ:DS)(D:DEnds):Prop:=match δ.sl[i]?,y with
 | some (.dat m (.list ds)),.dat _ e=>own1 m=true/\npk δ.sl=true/\imm e=true/\ds.length<1000000/\D.nx ⟨δ.sl.set i (.dat m (.list (ds++[e]))),δ.n⟩
 | _,_=>False
def callAB(pf:PF)(xs:List DV)(δ:DS)(P:DV->DS->Prop):Prop:=match datas xs with
 | some ds=>pf ds λd=>P (.dat .sh d) δ
 | none=>False
def callWSD(df:DF)(ys:List DV)(δ:DS)(P:DV->DS->Prop):Prop:=match datas ys with
 | some ds=>df ds δ.n λd n'=>P (.dat .sh d) ⟨δ.sl,n'⟩
 | none=>False
def BU(i:Nat)(ks:List (List Int×Ac))(dg:DG)(db:DB)(D:DEnds)(δ:DS):Prop:=∀a:Addr,∃I:Nat->DS->Prop,I 0 ⟨δ.sl.set i (.dat .sh (.dict (Vn a ks))),δ.n⟩ /\
 (∀j d δ',(ks.map λp=>Ck p.1)[j]? = some d->I j δ'->dg (.dat .sh d) δ' λδ2=>db { D with nx:=I (j+1),ct:=I (j+1),bk:=λ_=>False } δ2) /\
 ∀δ',I ks.length δ'->δ'.sl[i]? = some (.dat .sh (.dict (Vn a ks)))/\(δ'.sl.set i .un).all gM=true/\D.nx ⟨δ'.sl.set i (.dat .ow (.dict (Qi ks))),δ'.n⟩
theorem e_seq:DY t u D δ=(t { D with nx:=λδ'=>u D δ' } δ):=rfl
theorem e_skip:Q7 D δ=(D.nx δ):=rfl
theorem e_ret:DR de D δ=(de δ D.rt):=rfl
theorem e_if:GY dt t u D δ=(dt δ (EZ t u D)):=rfl
theorem e_asg:uI de dg D δ=(de δ λx δ'=>dg x δ' D.nx):=rfl
theorem e_name{m:Md}:Ql i (.dat .ow d) δ Q=(Q ⟨δ.sl.set i (.dat .sh d),δ.n⟩):=rfl
theorem e_name2{m:Md}:Ql i (.dat .sh d) δ Q=(Q ⟨δ.sl.set i (.dat .sh d),δ.n⟩):=rfl
theorem e_name4:Ql i .drw δ Q=(Q ⟨δ.sl.set i .drw,δ.n⟩):=rfl
theorem e_own:eY i (.dat .ow d) δ Q=(Q ⟨δ.sl.set i (.dat .ow d),δ.n⟩):=rfl
theorem e_own2:eY i (.dat .tp d) δ Q=(Q ⟨δ.sl.set i (.dat .tp d),δ.n⟩):=rfl
theorem e_nF:FF false i x δ Q=(Ql i x δ Q):=rfl
theorem e_gtup:yM n gs (.dat m (.tuple ds)) δ Q=(ds.length=n/\gs (ds.map λd=>.dat (Pm m) d) δ Q):=rfl
theorem e_gsn:vP [] δ Q=(Q δ):=rfl
theorem e_gsc:rY g gs (x::r) δ Q=(g x δ λδ'=>gs r δ' Q):=rfl
theorem e_op:Xq rd da db δ P=(da δ λx δ1=>db δ1 λy δ2=>rd x y λz=>P z δ2):=rfl
theorem e_var:U6 i δ P=(match δ.sl[i]? with | some (.dat m d)=>P (.dat (gA m) d) δ | _=>False):=rfl
theorem e_c:dC d δ P=(P (.dat .ow d) δ):=rfl
theorem e_imm:DK de δ P=(de δ λx δ'=>BS x δ' P):=rfl
theorem e_immB:BS (.dat m d) δ P=(imm d=true/\P (.dat .ow d) δ):=rfl
theorem e_take:zB i δ P=(match δ.sl[i]? with | some (.dat m d)=>P (.dat m d) ⟨δ.sl.set i .un,δ.n⟩ | _=>False):=rfl
theorem e_I:AF C g (.dat m (.int i)) (.dat m' (.int j)) P=(C i j/\P (.dat .ow (g i j))):=rfl
theorem e_I0:kO g (.dat m (.int i)) (.dat m' (.int j)) P=(P (.dat .ow (g i j))):=rfl
theorem e_eqF:iQ false (.dat m d) (.dat m' e) P=(d.depth<=60/\e.depth<=60/\P (.dat .ow (.bool (Ec d e)))):=rfl
theorem e_eqT:iQ true (.dat m d) (.dat m' e) P=(d.depth<=60/\e.depth<=60/\P (.dat .ow (.bool (!Ec d e)))):=rfl
theorem e_inFt_w1{es:List Ac}:tR false (.dat m d) (.dat m' (Ck nes)) P=(Bm (nes.map Ai)<=60/\d.depth<=60/\P (.dat .ow (.bool ((nes.map Ai).any λe=>Ec e d)))):=rfl
theorem e_inTt_w1{es:List Ac}:tR true (.dat m d) (.dat m' (Ck nes)) P=(Bm (nes.map Ai)<=60/\d.depth<=60/\P (.dat .ow (.bool (!((nes.map Ai).any λe=>Ec e d))))):=rfl
theorem e_ixl:F9 (.dat m (.list ds)) (.dat m' (.int i)) P=(∃d,Tc ds i=some d/\P (.dat (Pm m) d)):=rfl
theorem e_cat:qZ (.dat m (.list ds)) (.dat m' (.list es)) P=(Dw ds=true/\Dw es=true/\ds.length+es.length<=1000000/\P (.dat .ow (.list (ds++es)))):=rfl
theorem e_rep:sM (.dat m (.list ds)) (.dat m' (.int k)) P=(Dw ds=true /\ -1000000<=k/\k<=1000000/\ds.length * k.toNat<=1000000/\P (.dat .ow (.list (By k.toNat ds).flatten))):=rfl
theorem e_nlT:Yg true m ds P=(Dw ds=true/\P (.dat .ow (.list ds))):=rfl
theorem e_ntT:gZ true m ds P=(Dw ds=true/\P (.dat .ow (.tuple ds))):=rfl
theorem e_pkOfpk  : gA .pk=(Md.pk):=rfl
theorem e_pkOfsh  : gA .sh=(Md.sh):=rfl
theorem e_pkOfow  : gA .ow=(Md.pk):=rfl
theorem e_mdInsh  : Pm .sh=(Md.sh):=rfl
theorem e_mdInow  : Pm .ow=(Md.ow):=rfl
theorem e_mdItsh  : Le .sh=(Md.sh):=rfl
theorem e_mdItow  : Le .ow=(Md.sh):=rfl
theorem e_nil:Y4 δ P=(P [] δ):=rfl
theorem e_cons:R4 de da δ P=(de δ λx δ1=>da δ1 λxs δ2=>P (x::xs) δ2):=rfl
theorem e_lst:CJ da δ P=(da δ λxs δ'=>lstB xs δ' P):=rfl
theorem e_noPart:pQ δ P=(P none δ):=rfl
theorem e_part:P3 de δ P=(de δ λx δ'=>Q5 x δ' P):=rfl
theorem e_partB:Q5 (.dat m (.int i)) δ P=(P (some i) δ):=rfl
theorem e_sl{dl dh:DO}:GZ i de dl dh δ P=(de δ λx δ1=>dl δ1 λl δ2=>dh δ2 λh δ3=>GV i x l h δ3 P):=rfl
theorem e_slBl:GV i (.dat m (.list ds)) l h δ P=(Yg i m (Ml ds l h) λz=>P z δ):=rfl
theorem e_cb:AN rd da δ P=(da δ λxs δ1=>rd xs λz=>P z δ1):=rfl
theorem e_lenl{m m':Md}:qA [.dat m (.list ds)] P=(P (.dat .ow (.int ds.length))):=rfl
theorem e_lent_w1{ds:List Ac}{m m':Md}:qA [.dat m (Ck nds)] P=(P (.dat .ow (.int (nds.map Ai).length))):=rfl
theorem e_listl{m m':Md}:oX i [.dat m (.list ds)] P=(Yg i m ds P):=rfl
theorem e_tuplel{m m':Md}:fS i [.dat m (.list ds)] P=(gZ i m ds P):=rfl
theorem e_intb{m m':Md}:wM [.dat m (.bool i)] P=(P (.dat .ow (.int (if i=true then 1 else 0)))):=rfl
theorem e_max2:oO [.dat m (.int i),.dat m' (.int j)] P=(P (.dat .ow (.int (if j > i then j else i)))):=rfl
theorem e_min2:mZ [.dat m (.int i),.dat m' (.int j)] P=(P (.dat .ow (.int (if j<i then j else i)))):=rfl
theorem e_MinL{m m':Md}:oV [.dat m (.list ds)] P=(∃ns:List Int,ds=ns.map Ai/\ns≠[]/\∀M∈ns,(∀x∈ns,M<=x)->P (.dat .ow (.int M))):=rfl
theorem e_all{m m':Md}:zX [.dat m (.list ds)] P=(∃bs:List Bool,ds=bs.map PyData.bool/\P (.dat .ow (.bool (bs.all id)))):=rfl
theorem e_isi{m m':Md}:q9 [.dat m d,.val (.ty n)] P=((n = "int" \/ n = "bool" \/ n = "str" \/ n = "list" \/ n = "tuple")/\P (.dat .ow (.bool (Mr d n)))):=rfl
theorem e_str{m m':Md}:zJ [.dat m d] P=((∃b,b<=400/\Nj b d/\(b+12) * Nv d<=Au)/\d.depth<=90/\P (.dat .ow (.str (aU d)))):=rfl
theorem e_v:dV v δ P=(P (.val v) δ):=rfl
theorem e_b:dB de δ P=(de δ λx δ'=>bB x δ' P):=rfl
theorem e_bB:bB (.dat m (.bool b)) δ P=(P b δ):=rfl
theorem e_notT:O6 dt δ P=(dt δ λb δ'=>P (!b) δ'):=rfl
theorem e_andT:O4 dt du δ P=(dt δ λb δ'=>CI du b δ' P):=rfl
theorem e_orT:BK dt du δ P=(dt δ λb δ'=>FD du b δ' P):=rfl
theorem e_orTt:FD du true δ P=(P true δ):=rfl
theorem e_orTf:FD du false δ P=(du δ P):=rfl
theorem e_not:AW de δ P=(de δ λx δ'=>AY x δ' P):=rfl
theorem e_notB:AY (.dat m (.bool b)) δ P=(P (.dat .ow (.bool (!b))) δ):=rfl
theorem e_and:EV da db δ P=(da δ λx δ'=>L4 db x δ' P):=rfl
theorem e_andt:L4 db (.dat m (.bool true)) δ P=(db δ P):=rfl
theorem e_andf:L4 db (.dat m (.bool false)) δ P=(P (.dat .ow (.bool false)) δ):=rfl
theorem e_neg:CY de δ P=(de δ λx δ'=>CL x δ' P):=rfl
theorem e_negB:CL (.dat m (.int i)) δ P=(P (.dat .ow (.int (-i))) δ):=rfl
theorem e_dL:dL de δ P=(de δ λx δ'=>lB x δ' P):=rfl
theorem e_dTp:HK de δ P=(de δ λx δ'=>GW x δ' P):=rfl
theorem e_lB:lB (.dat m (.list ds)) δ P=(P (Le m) ds δ):=rfl
theorem e_tpB_w1{ds:List Ac}:GW (.dat m (Ck nds)) δ P=(P (Le m) (nds.map Ai) δ):=rfl
theorem e_range1:mE da δ P=(da δ λxs δ'=>M8 xs δ' P):=rfl
theorem e_rng1B:M8 [.dat m (.int j)] δ P=(-1000000<=j/\j<=1000000/\P .sh ((Di j.toNat).map λi:Nat=>.int i) δ):=rfl
theorem e_enum:yG da δ P=(da δ λxs δ'=>N7 xs δ' P):=rfl
theorem e_enumB:N7 [.dat m (.list ds)] δ P=(P (Le m) (ds.zipIdx.map λp=>.tuple [.int p.2,p.1]) δ):=rfl
theorem e_for:AR di dg db D δ=(di δ (BL dg db D)):=rfl
theorem e_comp:yL di js dc de δ P=(di δ (j4 js dc de P)):=rfl
theorem e_comp2:yS di js dc de δ P=(di δ (xE js dc de P)):=rfl
theorem e_compL:o6 di js dc de δ P=(di δ (oK js dc de P)):=rfl
theorem e_stepL:Ku false dc de δ yes no=(dc δ λb δ2=>vZ de yes no b δ2):=rfl
theorem e_stepLT:vZ de yes no true δ=(de δ λy δ3=>xD yes y δ3):=rfl
theorem e_compD:gL di js1 j0 js2 dc de δ P=(di δ (vT js1 j0 js2 dc de P)):=rfl
theorem e_noTest:gS δ P=(P true δ):=rfl
theorem e_step:Qb dc de δ yes no=(dc δ λb δ2=>qV de yes no b δ2):=rfl
theorem e_stepT:qV de yes no true δ=(de δ λy δ3=>B0 yes y δ3):=rfl
theorem e_stepF:qV de yes no false δ=(no δ.n):=rfl
theorem e_yesB:B0 yes (.dat m e) δ=(imm e=true/\yes e δ.n):=rfl
theorem e_stepD:Py p dc de δ yes no=(dc δ λb δ2=>zC p de yes no b δ2):=rfl
theorem e_stepDT:zC p de yes no true δ=(de δ λy δ3=>wZ p yes y δ3):=rfl
theorem e_yesBD:wZ p yes (.dat m e) δ=(imm e=true/\δ.sl[p]? = some .drw/\yes e δ.n):=rfl
theorem e_call:yO pf da δ P=(da δ λxs δ1=>callB pf xs δ1 P):=rfl
theorem e_callW:nP i df da δ P=(match δ.sl[i]? with | some .drw=>da δ λxs δ1=>callBW i df xs δ1 P | _=>False):=rfl
theorem e_draws:zG da δ P=(da δ λxs δ1=>p7 xs δ1 P):=rfl
theorem e_drawsB:p7 [.dat m (.int i)] δ P=(P .drw δ):=rfl
theorem e_append:iG i de D δ=(match δ.sl[i]? with | some (.dat _ (.list _))=>de δ λy δ1=>appB i y δ1 D | _=>False):=rfl
theorem e_revL:P4 de δ P=(de δ λx δ1=>revLB x δ1 P):=rfl
theorem e_appendO:bK i de D δ=(match δ.sl[i]? with | some (.dat _ (.list _))=>de δ λy δ1=>appOB i y δ1 D | _=>False):=rfl
theorem e_suml{m m':Md}:pU [.dat m (.list ds)] P=(∃ns:List Int,ds=ns.map Ai/\P (.dat .ow (.int ns.sum))):=rfl
theorem e_sumt_w1{ds:List Ac}{m m':Md}:pU [.dat m (Ck nds)] P=(∃ns:List Int,(nds.map Ai)=ns.map Ai/\P (.dat .ow (.int ns.sum))):=rfl
theorem e_scrSl{dl dh:DO}:nV i dl dh δ P=(match δ.sl[i]? with | some (.scr ns)=>dl δ λl δ2=>dh δ2 λh δ3=>P (.dat .ow (.list ((Ml ns l h).map Ai))) δ3 | _=>False):=rfl
theorem e_dnew:N9 δ P=(P (.dat .ow (.dict (Qi []))) δ):=rfl
theorem e_dput:R0 i dk de D δ=(de δ λy δ1=>isDct δ1.sl[i]? = true/\dk δ1 λz δ2=>dputB i y z δ2 D):=rfl
theorem e_dictZ:oF da δ P=(da δ λxs δ'=>iF xs δ' P):=rfl
theorem e_dictZB:iF [.dat m (.list ds),.dat m' (.list es)] δ P=(ds.length<=1000000/\Dw es=true/\∃ws:List (List Int),ds=ws.map Ck/\P (.dat .ow (.dict (Qi (Qw [] (ws.zip es))))) δ):=rfl
theorem e_tagD:E7 (Qi ks)=(true):=rfl
theorem e_inew:Q1 δ P=(P (.dat .ow (.dict (Yv []))) δ):=rfl
theorem e_iput:P0 i dk de D δ=(de δ λy δ1=>isIct δ1.sl[i]? = true/\dk δ1 λz δ2=>iputB i y z δ2 D):=rfl
theorem e_getI:p9 da dk dz δ P=(da δ λx δ1=>u3 x=true/\dk δ1 λy δ2=>dz δ2 λz δ3=>qX x y z δ3 P):=rfl
theorem e_isIc2:u3 (.dat m (.dict (Yv ks)))=(true):=rfl
theorem e_tagI:sR (Yv ks)=(true):=rfl
theorem e_forN:R3 i dg db D δ=(∃ks,δ.sl[i]? = some (.dat .ow (.dict (Qi ks)))/\ks.length<=1000000/\BU i ks dg db D δ):=rfl
theorem e_sortK:Zi [.dat m (.list ds)] P=(∃ws:List (List Int),ds=ws.map Ck/\ws.length<Au/\∀L:List (List Int),L.Perm ws->L.Pairwise (λx y=>x.length<=y.length)->P (.dat .ow (.list (L.map Ck)))):=rfl
theorem e_MaxD:gX k [.dat m (.list ds)] P=(∃ns:List Int,ds=ns.map Ai/\(ns=[]->P (.dat .ow (.int k)))/\∀M∈ns,(∀x∈ns,x<=M)->P (.dat .ow (.int M))):=rfl
theorem e_callA:i5 pf da δ P=(da δ λxs δ1=>noPk xs=true/\callAB pf xs δ1 P):=rfl
theorem e_callWS:pX df da δ P=(da δ λxs δ1=>gR df xs δ1 P):=rfl
theorem e_callWSB:gR df (.drw::ys) δ P=(noPk ys=true/\callWSD df ys δ P):=rfl
section
variable{t u:DB}{D:DEnds}{δ δ1:DS}
theorem mF{α:Type}{l:List α}{g:α->Ac}(e:ds=l.map g)(I:Nat->DS->Prop)(h0:I 0 δ1)(hs:∀i a δ',l[i]? = some a->I i δ'->dg (.dat .sh (g a)) δ' λδ2=>db { D with nx:=I (i+1),ct:=I (i+1),bk:=D.nx } δ2)(hf:∀δ',I l.length δ'->D.nx δ'):BL dg db D .sh ds δ1:=by
 subst e
 refine ⟨rfl,I,h0,λi d δ' hd hI=>?_,λδ' h=>hf δ' (by rw[Ad] at h; exact h)⟩
 rw[Bf] at hd
 cases q:l[i]? with
 | none=>rw[q] at hd; cases hd
 | some a=>rw[q] at hd; cases hd; exact hs i a δ' q hI
end
section
variable{js:List Nat}{dc:DT}{de:DE}{P:DV->DS->Prop}{m:Md}{ds:List Ac}{δ1:DS}{α:Type}
theorem bP{l:List α}(e:ds=l.map g)(p:α->Bool)(f:α->Ac)(h:∀a∈l,∀(yes:Ac->Nat->Prop) (no:Nat->Prop),(p a=true->yes (f a) δ1.n)->(p a=false->no δ1.n)->Qb dc de ⟨.dat m (g a)::frD δ1.sl js,δ1.n⟩ yes no)(q:P (.dat .ow (.list ((l.filter p).map f))) δ1):j4 js dc de P m ds δ1:=by
 subst e
 refine ⟨λi acc n=>n=δ1.n/\acc=((l.take i).filter p).map f,⟨rfl,by simp⟩,λi d acc n hd ⟨hn,ha⟩=>?_,λacc n ⟨hn,ha⟩=>?_⟩
 ·subst hn ha
  rw[Bf] at hd
  cases q:l[i]? with
  | none=>rw[q] at hd; cases hd
  | some a =>
   rw[q] at hd
   cases hd
   refine h a (Ax q) _ _ (λhp=>⟨rfl,?_⟩) (λhp=>⟨rfl,?_⟩)
   ·rw[Kv q,He,Be]; simp [hp]
   ·rw[Kv q,He,Be]; simp [hp]
 ·subst hn ha
  rw[Ad,Ga]
  exact q
theorem Qd{l:List α}(e:ds=l.map g)(f:α->Ac)(h:∀a∈l,∀(yes:Ac->Nat->Prop) (no:Nat->Prop),yes (f a) δ1.n->Qb dc de ⟨.dat m (g a)::frD δ1.sl js,δ1.n⟩ yes no)(q:P (.dat .ow (.list (l.map f))) δ1):j4 js dc de P m ds δ1:=by
 refine bP e (λ_=>true) f (λa ha yes no hy _=>h a ha yes no (hy rfl)) ?_
 rw[vE.mpr λ_ _=>rfl]
 exact q
theorem zL{l:List α}{g1 g2:α->Ac}(e:ds=l.map λa=>.tuple [g1 a,g2 a])(p:α->Bool)(f:α->Ac)(h:∀a∈l,∀(yes:Ac->Nat->Prop) (no:Nat->Prop),(p a=true->yes (f a) δ1.n)->(p a=false->no δ1.n)->Qb dc de ⟨.dat m (g1 a)::.dat m (g2 a)::frD δ1.sl js,δ1.n⟩ yes no)(q:P (.dat .ow (.list ((l.filter p).map f))) δ1):xE js dc de P m ds δ1:=by
 subst e
 refine ⟨λi acc n=>n=δ1.n/\acc=((l.take i).filter p).map f,⟨rfl,by simp⟩,λi d acc n hd ⟨hn,ha⟩=>?_,λacc n ⟨hn,ha⟩=>?_⟩
 ·subst hn ha
  rw[Bf] at hd
  cases q:l[i]? with
  | none=>rw[q] at hd; cases hd
  | some a =>
   rw[q] at hd
   cases hd
   refine ⟨_,_,rfl,h a (Ax q) _ _ (λhp=>⟨rfl,?_⟩) (λhp=>⟨rfl,?_⟩)⟩
   ·rw[Kv q,He,Be]; simp [hp]
   ·rw[Kv q,He,Be]; simp [hp]
 ·subst hn ha
  rw[Ad,Ga]
  exact q
theorem R7{l:List α}(e:ds=l.map g)(p:α->Bool)(f:α->Ac)(h:∀a∈l,∀(yes:Ac->Nat->Prop) (no:Nat->Prop),(p a=true->yes (f a) δ1.n)->(p a=false->no δ1.n)->Ku false dc de ⟨.dat m (g a)::frD δ1.sl js,δ1.n⟩ yes no)(q:P (.dat .tp (.list ((l.filter p).map f))) δ1):oK js dc de P m ds δ1:=by
 subst e
 refine ⟨λi acc n=>n=δ1.n/\acc=((l.take i).filter p).map f,⟨rfl,by simp⟩,λi d acc n hd ⟨hn,ha⟩=>?_,λacc n ⟨hn,ha⟩=>?_⟩
 ·subst hn ha
  rw[Bf] at hd
  cases q:l[i]? with
  | none=>rw[q] at hd; cases hd
  | some a =>
   rw[q] at hd
   cases hd
   refine h a (Ax q) _ _ (λhp=>⟨rfl,?_⟩) (λhp=>⟨rfl,?_⟩)
   ·rw[Kv q,He,Be]; simp [hp]
   ·rw[Kv q,He,Be]; simp [hp]
 ·subst hn ha
  rw[Ad,Ga]
  exact q
theorem X5{l:List α}(e:ds=l.map g)(f:α->Ac)(h:∀a∈l,∀(yes:Ac->Nat->Prop) (no:Nat->Prop),yes (f a) δ1.n->Ku false dc de ⟨.dat m (g a)::frD δ1.sl js,δ1.n⟩ yes no)(q:P (.dat .tp (.list (l.map f))) δ1):oK js dc de P m ds δ1:=by
 refine R7 e (λ_=>true) f (λa ha yes no hy _=>h a ha yes no (hy rfl)) ?_
 rw[vE.mpr λ_ _=>rfl]
 exact q
theorem rS{l:List α}(e:ds=l.map g)(hj:δ1.sl[j0]? = some .drw)(I:Nat->List Ac->Nat->Prop)(h0:I 0 [] δ1.n)(h:∀i a acc n,l[i]? = some a->I i acc n->Py (js1.length+1) dc de ⟨.dat m (g a)::(frD (δ1.sl.set j0 .un) js1++.drw::frD (δ1.sl.set j0 .un) js2),n⟩ (λe n'=>I (i+1) (acc++[e]) n') (λn'=>I (i+1) acc n'))(q:∀acc n,I l.length acc n->P (.dat .ow (.list acc)) ⟨δ1.sl,n⟩):vT js1 j0 js2 dc de P m ds δ1:=by
 subst e
 refine ⟨hj,I,h0,λi d acc n hd hI=>?_,λacc n hI=>q acc n (by rw[Ad] at hI; exact hI)⟩
 rw[Bf] at hd
 cases q:l[i]? with
 | none=>rw[q] at hd; cases hd
 | some a=>rw[q] at hd; cases hd; exact h i a acc n q hI
end
theorem Zx(h1:b=true->t D δ)(h2:b=false->u D δ):EZ t u D b δ:=by
 cases b with
 | true=>exact h1 rfl
 | false=>exact h2 rfl
theorem vG(h1:b=true->du δ P)(h2:b=false->P false δ):CI du b δ P:=by
 cases b with
 | true=>exact h1 rfl
 | false=>exact h2 rfl
theorem P6(h1:b=true->P true δ)(h2:b=false->du δ P):FD du b δ P:=by
 cases b with
 | true=>exact h1 rfl
 | false=>exact h2 rfl
theorem U8(h1:b=true->db δ P)(h2:b=false->P (.dat .ow (.bool false)) δ):L4 db (.dat m (.bool b)) δ P:=by
 cases b with
 | true=>exact h1 rfl
 | false=>exact h2 rfl
theorem Os(h1:b=true->de δ λy δ3=>B0 yes y δ3)(h2:b=false->no δ.n):qV de yes no b δ:=by
 cases b with
 | true=>exact h1 rfl
 | false=>exact h2 rfl
class Im (d:Ac):Prop where
 h:imm d=true
class ImA (ds:List Ac):Prop where
 h:Dw ds=true
theorem im[h:Im d]:imm d=true:=h.h
theorem HZ[h:ImA ds]:Dw ds=true:=h.h
instance {i:Int}:Im (.int i):=⟨by simp [imm]⟩
instance {i:Bool}:Im (.bool i):=⟨by simp [imm]⟩
instance {i:Str}:Im (.str i):=⟨by simp [imm]⟩
instance:Im .none:=⟨by simp [imm]⟩
instance {ds:List Ac} [h:ImA ds]:Im (.tuple ds):=⟨by rw[imm]; exact h.h⟩
instance {ns:List Int}:Im (Ck ns):=⟨vJ ns⟩
instance:ImA []:=⟨by simp [Dw]⟩
instance {d:Ac} {ds:List Ac} [h:Im d] [t:ImA ds]:ImA (d::ds):=⟨by rw[Dw,h.h,t.h]; rfl⟩
instance {α:Type} {f:α->Ac} {l:List α} [h:∀a,Im (f a)]:ImA (l.map f):=⟨Um (λa=>(h a).h) l⟩
instance {a b:List Ac} [h:ImA a] [k:ImA b]:ImA (a++b):=⟨by rw[cA,h.h,k.h]; rfl⟩
class Dp (d:Ac) (k:outParam Nat):Prop where
 h:d.depth<=k
class DpA (ds:List Ac) (k:outParam Nat):Prop where
 h:Bm ds<=k
theorem dp[h:Dp d k](hk:k<=60:=by decide):d.depth<=60:=Bz h.h hk
instance {i:Int}:Dp (.int i) 0:=⟨by simp [Cj]⟩
instance {i:Bool}:Dp (.bool i) 0:=⟨by simp [Cj]⟩
instance {i:Str}:Dp (.str i) 0:=⟨by simp [Cj]⟩
instance:Dp .none 0:=⟨by simp [Cj]⟩
instance {ds:List Ac} {k:Nat} [h:DpA ds k]:Dp (.tuple ds) (k+1):=⟨by have:=h.h; simp only[Cj]; omega⟩
instance {ds:List Ac} {k:Nat} [h:DpA ds k]:Dp (.list ds) (k+1):=⟨by have:=h.h; simp only[Cj]; omega⟩
instance {ns:List Int}:Dp (Ck ns) 1:=⟨pJ ns⟩
instance:DpA [] 0:=⟨by simp [Bm]⟩
instance {d:Ac} {ds:List Ac} {k j:Nat} [h:Dp d k] [t:DpA ds j]:DpA (d::ds) (k+j):=⟨by have:=h.h; have:=t.h; simp only[Bm]; omega⟩
instance {α:Type} {f:α->Ac} {l:List α} {k:Nat} [h:∀a,Dp (f a) k]:DpA (l.map f) k:=⟨Xy λx hx=>by
 obtain ⟨a,_,rfl⟩:=Bt.mp hx
 exact (h a).h⟩
theorem gK:Bm (a++b)<=Bm a+Bm b:=by
 induction a with
 | nil=>simp [Bm]
 | cons x a ih=>simp only[Fd,Bm]; omega
instance {a b:List Ac} {k j:Nat} [h:DpA a k] [t:DpA b j]:DpA (a++b) (k+j):=⟨by have:=h.h; have:=t.h; have:=gK (a:=a) (b:=b); omega⟩
theorem eqD_bl(i j:Bool):Ec (.bool i) (.bool j)=(i == j):=by simp [Ec]
theorem eqD_str(i j:Str):Ec (.str i) (.str j)=(i == j):=by simp [Ec]
theorem vK(a b:List Ac):Ec (.list a) (.list b)=Og a b:=by simp [Ec]
theorem kM{α:Type}[DecidableEq α]{f:α->Ac}(h:∀a b,Ec (f a) (f b)=decide (a=b)):∀l m:List α,Og (l.map f) (m.map f)=decide (l=m)
 | [],[]=>by simp [Og]
 | [],_::_=>by simp [Og]
 | _::_,[]=>by simp [Og]
 | a::l,b::m=>by simp [Og,h,kM h l m]
theorem eqD_intd(i j:Int):Ec (.int i) (.int j)=decide (i=j):=by simp [Ec]; rfl
def wordsD(ws:List (List Int)):Ac:=.list (ws.map Ck)
instance {ws:List (List Int)}:Dp (wordsD ws) 2:=⟨(inferInstance:Dp (.list (ws.map Ck)) 2).h⟩
def qF(ns:List Int):Ac:=.list (ns.map Ai)
instance {ns:List Int}:Dp (qF ns) 1:=⟨(inferInstance:Dp (.list (ns.map Ai)) 1).h⟩
theorem u5(a b:List Int):Ec (qF a) (qF b)=decide (a=b):=by
 unfold qF
 rw[vK,kM eqD_intd]
theorem any_int(ns:List Int)(i:Int):((ns.map Ai).any λe=>Ec e (.int i))=decide (i∈ns):=by
 rw[Sg]
 induction ns with
 | nil=>rfl
 | cons n ns ih =>
  rw[Jc,ih]
  simp only[Function.comp,eqD_intd,Ag]
  by_cases h:n=i
  ·subst h; simp
  ·have : ¬ i=n:=λz=>h z.symm
   simp [h,this]
theorem rP{α β:Type}(f:α->β)(l:List α):(l.map f).zipIdx=l.zipIdx.map λp=>(f p.1,p.2):=by
 rw[List.zipIdx_map]
 rfl
theorem Sz(f:α->β)(l:List α)(i:Int):Tc (l.map f) i=(Tc l i).map f:=by
 unfold Tc
 rw[Ad]
 cases E5 l.length i with
 | none=>rfl
 | some j=>simp
theorem Nx(h0:0<=i)(h1:i<l.length):∃a,l[i.toNat]? = some a/\Tc l i=some a/\a∈l:=by
 have hk:i.toNat<l.length:=by omega
 refine ⟨l[i.toNat],by simp [hk],?_,List.getElem_mem hk⟩
 have q:Tc l ((i.toNat:Nat):Int)=some l[i.toNat]:=K8 (by simp [hk])
 rwa [show ((i.toNat:Nat):Int)=i by omega] at q
theorem im_e[h:Im d]:(imm d=true)=True:=eq_true h.h
theorem ima_e[h:ImA ds]:(Dw ds=true)=True:=eq_true h.h
theorem dp_e[h:Dp d k](hk:k<=60):(d.depth<=60)=True:=eq_true (Bz h.h hk)
theorem dpa_e[h:DpA ds k](hk:k<=60):(Bm ds<=60)=True:=eq_true (Bz h.h hk)
theorem eqD_li(a b:List Int):Ec (.list (a.map Ai)) (.list (b.map Ai))=decide (a=b):=u5 a b
theorem eqD_l0(a:List Ac):Ec (.list a) (.list [])=a.isEmpty:=B4 a
theorem ow_e{R:Ac->Prop}:(∃e,DV.dat .ow d=.dat .ow e/\R e)=R d:=by
 apply propext
 constructor
 ·(intro q_; obtain ⟨e,h,r⟩ := q_); cases h; exact r
 ·intro r; exact ⟨d,rfl,r⟩
theorem tt_e:(∃m',DV.dat m (.bool b)=.dat m' (.bool true))=(b=true):=by
 apply propext
 constructor
 ·rintro ⟨e,h⟩; cases h; rfl
 ·intro r; subst r; exact ⟨m,rfl⟩
theorem cdiv_e:U3 i j=(0<j/\j<1073741824):=rfl
theorem cpow_e:Z9 i j=(0<=j/\j<=1000000/\i.natAbs<2 ^ 64):=rfl
theorem cmul_l(h:-18446744073709551616<i/\i<18446744073709551616):E3 i j=True:=eq_true (.inl h)
theorem Q4(h:sl=sl')(h':n=n'):(⟨sl,n⟩ : DS)=⟨sl',n'⟩:=by subst h h'; rfl
theorem aW(h:(Di j)[i]? = some a):a=i/\i<j:=by
 obtain ⟨h1,h2⟩:=Ap.mp h
 rw[Ju] at h1
 rw[List.getElem_range] at h2
 exact ⟨h2.symm,h1⟩
def NP(v:DV):Prop:=∀l,npk (v::l)=npk l
theorem Ov:NP .un:=λ_=>rfl
theorem Gr:NP (.dat .sh d):=λ_=>rfl
theorem O8:NP (.dat .ow d):=λ_=>rfl
theorem W9:NP .drw:=λ_=>rfl
theorem R1(x y:α)(b:Bool):Tc [x,y] (if b=true then 1 else 0)=some (if b=true then y else x):=by cases b <;> rfl
theorem fold_w(w:List Int):PyData.tuple (List.map Ai w)=Ck w:=rfl
theorem isi_ib(i:Int):Mr (.int i) "bool" = false:=by simp [Mr,gW]
theorem isi_ii(i:Int):Mr (.int i) "int" = true:=by simp [Mr,gW]
theorem isi_bb(i:Bool):Mr (.bool i) "bool" = true:=by simp [Mr,gW]
theorem CN{ns:List Int}(k:Nat):(Ml ns none (some (k:Int))).length<=k:=by
 rw[uV,Cw]
 exact Nat.min_le_left _ _
theorem ifB_lt:EZ t u D true δ=t D δ:=rfl
theorem ifB_lf:EZ t u D false δ=u D δ:=rfl
theorem isi_si(i:Str):Mr (.str i) "int" = false:=by simp [Mr,gW]
theorem isi_sb(i:Str):Mr (.str i) "bool" = false:=by simp [Mr,gW]
theorem str_self(s:Str):(s == s)=true:=by simp
theorem Vh{l:List α}{i:Nat}{a:α}(h:l[i]? = some a):Tc l (i:Int)=some a:=by
 obtain ⟨b,e1,e2,_⟩:=Nx (l:=l) (i:=(i:Int)) (by omega) (by have:=(Ap.mp h).1; omega)
 rw[e2,<- e1,<- h]; rfl
theorem yesL_ow:xD yes (.dat .ow e) δ=yes e δ.n:=propext ⟨λh=>h.2,λh=>⟨by decide,h⟩⟩
theorem j9(h1:m≠.pk)(h2:m'≠.pk):Xf (.dat m (.list ds)) (.dat m' (.list es)) P=(ds.length+es.length<=1000000/\P (.dat .tp (.list (ds++es)))):=propext ⟨λh=>h.2.2,λh=>⟨h1,h2,h⟩⟩
theorem catL_owtp:Xf (.dat .ow (.list ds)) (.dat .tp (.list es)) P=(ds.length+es.length<=1000000/\P (.dat .tp (.list (ds++es)))):=j9 (by decide) (by decide)
theorem catL_tpow:Xf (.dat .tp (.list ds)) (.dat .ow (.list es)) P=(ds.length+es.length<=1000000/\P (.dat .tp (.list (ds++es)))):=j9 (by decide) (by decide)
theorem CK(x:α)(l:List α):Tc (x::l) 0=some x:=Vh (i:=0) rfl
theorem DQ(x y:α)(l:List α):Tc (x::y::l) 1=some y:=Vh (i:=1) rfl
theorem BN(x y z:α)(l:List α):Tc (x::y::z::l) 2=some z:=Vh (i:=2) rfl
theorem CM(x y z t:α)(l:List α):Tc (x::y::z::t::l) 3=some t:=Vh (i:=3) rfl
theorem ik_e{Q:List (Int×Ac)->Int->Prop}:(∃ks' w',Yv ks=Yv ks'/\Ai w=Ai w'/\Q ks' w')=Q ks w:=propext ⟨λ⟨ks',w',e1,e2,h⟩=>by cases Vs e1; cases e2; exact h,λh=>⟨ks,w,rfl,rfl,h⟩⟩
theorem getI_e:qX (.dat m (.dict (Yv ks))) (.dat m' (.int w)) (.dat m2 e) δ P=(imm e=true/\P (.dat .ow ((Pg ks w).getD e)) δ):=propext ⟨λ⟨ks',w',e1,e2,h⟩=>by cases Vs e1; cases e2; exact h,λh=>⟨ks,w,rfl,rfl,h⟩⟩
theorem dgetN_e:Zh (.dat m (.dict (Vn a ks))) (.dat m' (Ck w)) P=∃d,Za ks w=some d/\P (.dat .ow d):=propext ⟨λ⟨a',ks',w',d,e1,e2,h⟩=>by obtain ⟨_,rfl⟩:=qH e1; cases Rq e2; exact ⟨d,h⟩,λ⟨d,h⟩=>⟨a,ks,w,d,rfl,rfl,h⟩⟩
theorem dk_e{Q:List (List Int×Ac)->List Int->Prop}:(∃ks' w',Qi ks=Qi ks'/\Ck w=Ck w'/\Q ks' w')=Q ks w:=propext ⟨λ⟨ks',w',e1,e2,h⟩=>by cases Sq e1; cases Rq e2; exact h,λh=>⟨ks,w,rfl,rfl,h⟩⟩
theorem dget_e:gY (.dat m (.dict (Qi ks))) (.dat m' (Ck w)) P=∃d,Za ks w=some d/\P (.dat .ow d):=propext ⟨λ⟨ks',w',d,e1,e2,h⟩=>by cases Sq e1; cases Rq e2; exact ⟨d,h⟩,λ⟨d,h⟩=>⟨ks,w,d,rfl,rfl,h⟩⟩
theorem retA_tp{R:Ac->Prop}:(∃m d',DV.dat .tp d=.dat m d'/\m≠.pk/\R d')=R d:=propext ⟨λ⟨m,d',e,_,h⟩=>by cases e; exact h,λh=>⟨_,_,rfl,by decide,h⟩⟩
theorem ow_npk:(Md.ow≠Md.pk)=True:=eq_true (by decide)
end DL
namespace K34
open PySem L2 Nd DL
def Pp(i:Nat):Stmt:=PySem.Challenge.pw_needledeck_k34_numbers_that_show_at_most.main.body.getD i (.Pass ⟨0,0,0,0⟩)
abbrev Ug:Stmt:=Pp 1
abbrev Vt:Stmt:=Pp 2
abbrev Mj:Stmt:=Pp 3
abbrev Su:Stmt:=Pp 5
abbrev Nk:Stmt:=Pp 6
abbrev Lg:Stmt:=Pp 7
abbrev Mg:Stmt:=Pp 8
abbrev Ib:Stmt:=Pp 9
abbrev iC:Stmt:=Pp 11
abbrev rH:Stmt:=Pp 12
abbrev Lj:Stmt:=Pp 13
abbrev Oy:Stmt:=Pp 14
abbrev Pi:Stmt:=Pp 15
abbrev Qp:Stmt:=Pp 16
abbrev Nw:Stmt:=Pp 17
abbrev Pj:Stmt:=Pp 18
abbrev Li:Stmt:=Pp 19
abbrev Ic:Stmt:=Pp 20
abbrev Kf:Stmt:=Pp 21
abbrev Lf:Stmt:=Pp 22
abbrev Eg:Stmt:=Pp 23
abbrev Yy:Stmt:=Pp 24
section
variable{P:Bq}{w:World}{K:PySem.W.Frag}{mg:Str->Option Value}{base:Heap}
theorem IC:FnScope ["_law_cell"] ["_law_cell"] (Bl iC):=⟨rfl,rfl,rfl,by decide +kernel,rfl,by decide +kernel,by decide +kernel⟩
theorem wD(F:Fun K "_law_draws" "_law_draws" iC f fd):FnOk P w K mg base Ge 1 f fd ["_law_cell"] Vx:=by
 refine F.ok IC (λvs H Q E h=>?_) (λcdv A outer s H vs Q E hr h=>?_)
 ·obtain ⟨c,rfl,_⟩:=h
  rfl
 obtain ⟨c,rfl,q⟩:=h
 refine ⟨_,Hw (vQ (qE wU (pv 0) (Hx bE Fb Fb) (Ur _)) (Nh (Uj (bV (Gv (Hx Uq (pv 0) (Hx G5 (Hx bE Fb Fb) Fb)) (Gv Fb (Gv yD Kq)))))) hV)
  (Nh (Uj (bV (Gv (Hx Uq (pv 0) Fb) (Gv Fb (Gv yD Kq)))))),?_⟩
 refine ⟨_,rfl,10,18,rfl,rfl,⟨by decide,by decide,by decide⟩,_,_,rfl,rfl,_,rfl,BD (λ_=>?_) (λ_=>?_)⟩
 ·refine ⟨_,rfl,10,60,rfl,rfl,⟨by decide,by decide,by decide⟩,_,16,rfl,rfl,⟨by decide,by show (Builtin.Int.intBits (10 ^ (60:Int).toNat):Int) * 16<=2 ^ 27; decide +kernel⟩,_,_,rfl,rfl,(by show (0:Int)<(10 ^ (60:Int).toNat) ^ (16:Int).toNat; decide +kernel),(by show 3<=Au; decide),λp hp=>?_⟩
  exact q p _ _ _ hp Co (Dl hp _)
 ·refine ⟨_,rfl,_,_,rfl,rfl,(by show (0:Int)<1000003; decide),(by show 3<=Au; decide),λp hp=>?_⟩
  exact q p _ _ _ hp Co (Dl hp _)
theorem IB:FnScope ["_law_draws_here", "_law_k", "_law_number"] ["_law_draws_here"] (Bl rH):=⟨rfl,rfl,rfl,by decide +kernel,rfl,by decide +kernel,by decide +kernel⟩
theorem G4(F:Fun K "_law_next" "_law_next" rH f fd):FnOk P w K mg base Ge 1 f fd ["_law_draws_here"] p8:=by
 refine F.ok IB (λvs H Q E h=>?_) (λcdv A outer s H vs Q E hr h=>?_)
 ·obtain ⟨d,c,k,fl,rfl,_⟩:=h
  rfl
 obtain ⟨d,c,k,fl,rfl,hd,h0,h1,q⟩:=h
 refine ⟨_,Hw (vX (Hx aA (aJ Tb (pv 0) Fb (λ_ _=>rfl)) Fb) (r6 (pv 0) Fb lU))
  (Hw (vQ (wK (aJ Tb (pv 0) Fb (λ_ _=>rfl)))
   (Hw (Ph (i:=2) IB.nd rfl (Ei rfl) (Hx Uq (aJ Tb (pv 0) Fb (λ_ _=>rfl)) (Hx bE Fb Fb)))
    (Hw (vX (Hx gB (aJ Tb (pv 0) Fb (λ_ _=>rfl)) (Hx bE Fb Fb)) (r6 (pv 0) Fb lU))
    (Nh (Uj (pv 2))))) hV)
  (Hw (Ph (i:=1) IB.nd rfl (Ei rfl) (aJ Tb (pv 0) Fb (λ_ _=>rfl)))
  (Hw (Ph (i:=2) IB.nd rfl (Ei rfl) (Hx Uq (Hx Xh (Hx aA (Hx aA (aJ Tb (pv 0) Fb (λ_ _=>rfl)) (Hx Xh (Hx Xh (pv 1) (pv 1)) Fb)) (pv 1)) Fb) Fb))
  (Hw (Ph (i:=2) IB.nd rfl (Ei rfl) (Hx Uq (Hx Xh (pv 2) (pv 2)) Fb))
  (Nh (Uj (Hx gB (Hx Uq (Hx Xh (pv 2) (Hx aA (pv 2) Fb)) Fb) Fb))))))),?_⟩
 -- draws[1]=draws[1]+1
 refine ⟨_,rfl,d,_,1,_,rfl,rfl,Mc.of hd,rfl,_,_,rfl,rfl,_,rfl,d,_,1,1,rfl,rfl,hd,rfl,?_⟩
 have e1:(upd H d (.lst ([V.int c,V.int k,V.bl fl].set 1 (V.int (k+1))))) d=some (.lst [.int c,.int (k+1),.bl fl]):=Co
 generalize hH1:upd H d (.lst ([V.int c,V.int k,V.bl fl].set 1 (V.int (k+1))))=H1 at e1
 have s1:Tz d H H1:=by rw[<- hH1]; exact Tz.upd
 refine ⟨_,rfl,d,_,2,_,rfl,rfl,Mc.of e1,rfl,_,rfl,?_⟩
 refine BD (λ_=>?_) (λ_=>?_)
 ·refine ⟨_,rfl,d,_,0,_,rfl,rfl,Mc.of e1,rfl,10,6,rfl,rfl,⟨by decide,by decide,by decide⟩,_,_,rfl,rfl,(by show (0:Int)<10 ^ (6:Int).toNat; decide),?_⟩
  refine ⟨_,rfl,d,_,0,_,rfl,rfl,Mc.of e1,rfl,10,6,rfl,rfl,⟨by decide,by decide,by decide⟩,_,_,rfl,rfl,⟨by decide,by decide⟩,_,rfl,d,_,0,0,rfl,rfl,e1,rfl,_,rfl,?_⟩
  exact q _ _ _ Co (s1.trans Tz.upd)
 ·refine ⟨_,rfl,d,_,1,_,rfl,rfl,Mc.of e1,rfl,?_⟩
  have b1:=iR ((c+(k+1) * (k+1) * 7919+(k+1)) * 48271) 2147483629 (by decide)
  refine ⟨_,rfl,d,_,0,_,rfl,rfl,Mc.of e1,rfl,_,rfl,_,rfl,_,_,rfl,rfl,.inl ⟨by omega,by omega⟩,_,_,rfl,rfl,.inr ⟨by decide,by decide⟩,_,_,rfl,rfl,_,rfl,_,_,rfl,rfl,
   _,_,rfl,rfl,.inr ⟨by decide,by decide⟩,_,_,rfl,rfl,(by show (0:Int)<2147483629; decide),?_⟩
  generalize ((c+(k+1) * (k+1) * 7919+(k+1)) * 48271) % 2147483629=x at b1
  have b2:=iR (x * x) 2147483587 (by decide)
  refine ⟨_,rfl,_,rfl,_,_,rfl,rfl,.inl ⟨by omega,by omega⟩,_,_,rfl,rfl,(by show (0:Int)<2147483587; decide),?_⟩
  generalize (x * x) % 2147483587=y at b2
  refine ⟨_,rfl,_,rfl,_,_,rfl,rfl,_,_,rfl,rfl,.inl ⟨by omega,by omega⟩,_,_,rfl,rfl,(by show (0:Int)<2147483579; decide),_,_,rfl,rfl,⟨by decide,by decide⟩,?_⟩
  exact q _ _ _ e1 s1
theorem tT(F:Fun K "_law_draws" "_law_draws" iC f fd):FnOk P w K mg base Ge 1 f fd ["_law_cell"] Vx:=wD F
theorem u6(F:Fun K "_law_next" "_law_next" rH f fd):FnOk P w K mg base Ge 1 f fd ["_law_draws_here"] (mL K Ue):=J2 (G4 F)
end
end K34
namespace DL
open PySem L2 Nd
def sub(a b:List Int):Bool:=a.all λi=>decide (i∈b)
def kZ(a b:List Int):List Int:=a.filter λi=>decide (i∉b)
theorem oB(r:Lk h a):a.Nodup:=r.1.imp λ{x y} h=>Int.ne_of_lt h
theorem Qq(a:Int)(h:0<b):0<=a % b/\a % b<b:=iR a b h
end DL
namespace Nd
open PySem L2 Ts
def zA(K:PySem.W.Frag):R2:=λx y H Q=>∃a b xs ys,x=.ref a/\y=.ref b/\Up K H a xs/\Up K H b ys/\ys≠[]/\xs.length+ys.length<=Au/\(xs=[]->Q (.ref b) H)/\(xs≠[]->∀p,H p=none->Q (.ref p) (upd H p (.tup (xs++ys))))
open PyProof.Rows in
theorem qJ{X:Cx}:Xp X (Iw .Add) (zA X.K):=by
 intro pins s σ H x y v u Q I rx ry h
 obtain ⟨a,b,xs,ys,rfl,rfl,ha,hb,hy,hz,q1,q2⟩:=h
 by_cases hx:xs=[]
 ·cases rx
  cases ry
  obtain ⟨its,r1,p1,_⟩:=I.tuple ha
  obtain ⟨its2,r2,p2,_⟩:=I.tuple hb
  have e1:its=[]:=r1.nil_iff.mpr hx
  subst e1
  obtain ⟨⟨c1,d1,dt1,sl1⟩,g1,k1,n1,e1⟩:=id p1
  obtain ⟨⟨c2,d2,dt2,sl2⟩,g2,k2,n2,e2⟩:=id p2
  simp only at k1 e1 k2 e2
  subst k1 e1 k2 e2
  exact concat_meets ⟨_,g1,rfl⟩ ⟨_,g2,rfl⟩ iY seq_tuple_add PySem.F.slot_tuple_add PySem.F.entry_tuple_add (PySem.F.args_tuple_add_2 _ _)
   (tuple_addW0 a b _ _ n1 n2 d1 d2 sl1 sl2 rfl) ⟨g1,g2,⟨.ref b,H,I,rfl,q1 hx⟩⟩
 ·exact L5 pins s σ H (.ref a) (.ref b) v u Q I rx ry ⟨a,b,xs,ys,rfl,rfl,ha,hb,hx,hz,λz=>absurd z hy,λ_=>q2 hx⟩
def Eb:Nat->List (List Int)
 | 0=>[[]]
 | n+1=>Eb n++(Eb n).map (·++[(n:Int)])
theorem Qr:∀n,(Eb n).length=2 ^ n
 | 0=>rfl
 | n+1=>by
  show (Eb n++(Eb n).map (·++[(n:Int)])).length=2 ^ (n+1)
  rw[Bo,Ad,Qr n,Nat.pow_succ]
  omega
theorem Qs(h:n<=10):(Eb n).length<=1024:=by
 rw[Qr]
 exact Vc (by decide) h
theorem Mk:∀n,∀w∈Eb n,w.length<=n
 | 0,w,h=>by
  have : w=[]:=by simpa [Eb] using h
  rw[this]
  exact Ak _
 | n+1,w,h=>by
  rcases Ay.mp (show w∈Eb n++(Eb n).map (·++[(n:Int)]) from h) with h | h
  ·exact Nat.le_succ_of_le (Mk n w h)
  ·obtain ⟨v,hv,e⟩:=Bt.mp h
   rw[<- e,Bo,Hf]
   exact Nat.succ_le_succ (Mk n v hv)
theorem Rx:∀n,∃r,Eb n=[]::r
 | 0=>⟨[],rfl⟩
 | n+1=>by
  obtain ⟨r,e⟩:=Rx n
  refine ⟨r++(Eb n).map (·++[(n:Int)]),?_⟩
  show Eb n++(Eb n).map (·++[(n:Int)])=_
  conv=>lhs; lhs; rw[e]
  rfl
def Ord(l:List (List Int)):Prop:=l.Pairwise λx y=>HT.lexLt y x=false
theorem bR:∀{l m:List (List Int)},l.Perm m->Ord l->Ord m->l=m
 | [],m,p,_,_=>(List.Perm.nil_eq p)
 | x::l,[],p,_,_=>by
  have:=p.length_eq
  simp at this
 | x::l,y::m,p,h1,h2=>by
  obtain ⟨a1,a2⟩:=Bb.mp h1
  obtain ⟨b1,b2⟩:=Bb.mp h2
  have e:x=y:=by
   have mx:x∈y::m:=p.mem_iff.mp Ab
   have my:y∈x::l:=p.mem_iff.mpr Ab
   rcases Ag.mp mx with e | mx
   ·exact e
   ·rcases Ag.mp my with e | my
    ·exact e.symm
    ·exact gH (b1 x mx) (a1 y my) |>.symm▸rfl
  subst e
  rw[bR ((List.perm_cons x).mp p) a2 b2]
def Ws(H:Hp)(ws:List (Addr×List Int)):Prop:=∀p∈ws,H p.1=some (.tup (p.2.map V.int))
def j5(H:Hp)(a:Addr):List Int:=match H a with
 | some (.tup xs)=>xs.filterMap λx=>match x with | .int i=>some i | _=>none
 | _=>[]
theorem Us(h:H a=some (.tup (w.map V.int))):j5 H a=w:=by
 unfold j5
 rw[h]
 show (w.map V.int).filterMap _=w
 rw[Xw]
 exact List.filterMap_some
theorem Ws.c(h:Ws H ws):(ws.map (·.1)).map (j5 H)=ws.map (·.2):=by
 rw[Ce]
 exact Fp λp hp=>Us (h p hp)
def fY:Sp:=λvs H Q _=>∃h:Int,vs=[.int h]/\0<=h/\h<=10 /\
 ∀(p:Addr) (rs:List Addr) (L:List (List Int)) (H':Hp),H p=none->H' p=some (.lst (rs.map V.ref))->(∀(i:Nat) (r:Addr) (w:List Int),rs[i]? = some r->L[i]? = some w->H' r=some (.tup (w.map V.int)))->rs.length=L.length->L.Perm (Eb h.toNat)->Ord L->Mv H H'->Q (.ref p) H'
end Nd
namespace Nd
open PySem L2
def ch:Nat->Nat->Nat
 | _,0=>1
 | 0,_+1=>0
 | n+1,k+1=>ch n k+ch n (k+1)
theorem qR(n k:Nat):ch (n+1) (k+1)=ch n k+ch n (k+1):=rfl
theorem aY:∀{n k:Nat},n<k->ch n k=0
 | 0,0,h=>absurd h (Fk _)
 | 0,k+1,_=>rfl
 | n+1,0,h=>absurd h (Tu _)
 | n+1,k+1,h=>by rw[qR,aY (by omega:n<k),aY (by omega:n<k+1)]
theorem L0:∀n:Nat,ch n n=1
 | 0=>rfl
 | n+1=>by rw[qR,L0 n,aY (Nat.lt_succ_self n)]
def cw:Nat->Int->Nat->List (List Int)
 | _,_,0=>[[]]
 | 0,_,_+1=>[]
 | d+1,p,m+1=>(cw d (p+1) m).map (p::·)++cw d (p+1) (m+1)
def Xo(Pp:Int):Nat->List Int->Nat
 | _,[]=>0
 | m,x::w=>ch (Pp - 1 - x).toNat m+Xo Pp (m - 1) w
theorem oI:∀{n:Nat} {w:List Int},w∈Eb n↔Lk n w
 | 0,w=>by
  show w∈[[]]↔_
  rw[List.mem_singleton]
  constructor
  ·rintro rfl; exact Lk.nil _
  ·rintro ⟨_,h⟩
   match w with
   | []=>rfl
   | x::w=>have:=h x Ab; omega
 | n+1,w=>by
  show w∈Eb n++(Eb n).map (·++[(n:Int)])↔_
  rw[List.mem_append,List.mem_map,oI]
  constructor
  ·rintro (h | ⟨v,hv,rfl⟩)
   ·exact h.up (by omega)
   ·have:=(oI.mp hv).more (by omega)
    exact this.up (by omega)
  ·intro h
   by_cases hn:(n:Int)∈w
   ·refine .inr ⟨w.dropLast,oI.mpr ?_,?_⟩
    ·have hne:w≠[]:=λz=>by rw[z] at hn; cases hn
     have hl:w.getLast hne=n:=by
      have h1:=h.2 _ (List.getLast_mem hne)
      by_cases e:w.getLast hne=n
      ·exact e
      ·exfalso
       have hd:=Ja hne
       rw[<- hd] at hn
       rcases Ay.mp hn with z | z
       ·have hp:=h.1
        rw[<- hd] at hp
        have:=(Ca.mp hp).2.2 _ z _ (Af.mpr rfl)
        omega
       ·exact e (Af.mp z).symm
     have hd:=Ja hne
     have hp:=h.1
     rw[<- hd,hl] at hp
     obtain ⟨p1,_,p3⟩:=Ca.mp hp
     exact ⟨p1,λx hx=>⟨(h.2 x (List.dropLast_subset w hx)).1,p3 x hx _ (Af.mpr rfl)⟩⟩
    ·have hne:w≠[]:=λz=>by rw[z] at hn; cases hn
     have hl:w.getLast hne=n:=by
      have h1:=h.2 _ (List.getLast_mem hne)
      by_cases e:w.getLast hne=n
      ·exact e
      ·exfalso
       have hd:=Ja hne
       rw[<- hd] at hn
       rcases Ay.mp hn with z | z
       ·have hp:=h.1
        rw[<- hd] at hp
        have:=(Ca.mp hp).2.2 _ z _ (Af.mpr rfl)
        omega
       ·exact e (Af.mp z).symm
     rw[<- hl]
     exact Ja hne
   ·refine .inl ⟨h.1,λx hx=>?_⟩
    have:=h.2 x hx
    have : x≠n:=λz=>hn (by rw[<- z]; exact hx)
    omega
theorem Qj:∀n:Nat,(Eb n).Nodup
 | 0=>Bx.mpr ⟨Av,Dc⟩
 | n+1=>by
  show (Eb n++(Eb n).map (·++[(n:Int)])).Nodup
  refine Gh.mpr ⟨Qj n,?_,λx hx y hy e=>?_⟩
  ·exact List.Pairwise.map _ (λa b h e=>h (List.append_cancel_right e)) (Qj n)
  ·subst e
   obtain ⟨v,_,rfl⟩:=Bt.mp hy
   have:=(oI.mp hx).2 n (Al _ (Af.mpr rfl))
   omega
end Nd
namespace DL
open PySem L2 Nd
def Vk:PF:=λds R=>∃h:Int,ds=[.int h]/\0<=h/\h<=10/\∀L:List (List Int),L.Perm (Eb h.toNat)->Ord L->R (wordsD L)
theorem lC:∀{rs:List Addr} {L:List (List Int)},(∀(i:Nat) (r:Addr) (w:List Int),rs[i]? = some r->L[i]? = some w->H r=some (.tup (w.map V.int)))->rs.length=L.length->(∀w∈L,w.length<=1000000)->RdFs K H (rs.map V.ref) (L.map Ck) []
 | [],[],_,_,_=>.nil
 | r::rs,w::L,h,l,hw=>by
  have a:=F7 (K:=K) (h 0 r w rfl rfl) (hw w (Ab ..))
  have t:=lC (K:=K) (rs:=rs) (L:=L) (λi r' w' e1 e2=>h (i+1) r' w' e1 e2) (by simpa using l) (λw' z=>hw w' (Ae _ z))
  exact RdFs.cons a t
 | [],_::_,_,l,_=>by simp at l
 | _::_,[],_,l,_=>by simp at l
theorem Sw{L:List (List Int)}(hn:n<=10)(p:L.Perm (Eb n)):L.length<=1024/\∀w∈L,Lk n w/\w.length<=10:=⟨by rw[p.length_eq]; exact Qs hn,λw hw=>⟨oI.mp (p.mem_iff.mp hw),Bz (Mk n w (p.mem_iff.mp hw)) hn⟩⟩
section
variable{P:Bq}{w:World}{K:PySem.W.Frag}{mg:Str->Option Value}{base:Heap}{k:Nat}{f:Addr}{fd:Cg}{ps:List Str}
theorem jQ(F:FnOk P w K mg base Ge k f fd ps fY):FnOk P w K mg base Ge k f fd ps (Sn K Vk):=by
 refine F.imp λus H Q E h=>?_
 obtain ⟨As,n,ds,R,eu,ok,q,hp,k1⟩:=h
 obtain ⟨h,rfl,h0,h1,hR⟩:=hp
 obtain ⟨v1,F1,rfl,r1⟩:=yX eu ok q
 obtain ⟨rfl,_⟩:=r1.int_inv
 refine ⟨h,rfl,h0,h1,λp rs L H' np ep hr hl hp ho s=>?_⟩
 obtain ⟨l1,l2⟩:=Sw (n:=h.toNat) (by omega) hp
 refine k1 (.ref p) _ [p] H' (hR L hp ho) (RdF.lst ep (by rw[Ad]; exact mC (by omega)) (lC hr hl λw hw=>by have:=(l2 w hw).2; omega)) (Bx.mpr ⟨Av,Dc⟩) (λa ha=>?_) s
 rw[Af.mp ha]; exact np
end
theorem cB{α:Type}{l:List α}{p:α×Nat}(h:l.zipIdx[i]? = some p):p.2=i/\l[i]? = some p.1/\p.1∈l/\i<l.length:=by
 rw[List.getElem?_zipIdx] at h
 cases q:l[i]? with
 | none=>rw[q] at h; cases h
 | some a =>
  rw[q] at h
  cases h
  exact ⟨by simp,rfl,Ax q,(Ap.mp q).1⟩
def pairD(p:Nat×Nat):Ac:=.tuple [.int p.1,.int p.2]
instance {p:Nat×Nat}:Im (pairD p):=⟨(inferInstance:Im (.tuple [.int p.1,.int p.2])).h⟩
instance {p:Nat×Nat}:Dp (pairD p) 1:=⟨(inferInstance:Dp (.tuple [.int p.1,.int p.2]) 1).h⟩
def N5(p:Nat×Nat×List Int):Ac:=.tuple [.int p.1,.int p.2.1,Ck p.2.2]
instance {p:Nat×Nat×List Int}:Im (N5 p):=⟨(inferInstance:Im (.tuple [.int p.1,.int p.2.1,Ck p.2.2])).h⟩
instance {p:Nat×Nat×List Int}:Dp (N5 p) 2:=⟨(inferInstance:Dp (.tuple [.int p.1,.int p.2.1,Ck p.2.2]) 2).h⟩
def FM(L:List (List Int))(f:List Int->Int):Ac:=.list ((L.map f).map Ai)
instance {L:List (List Int)} {f:List Int->Int}:Dp (FM L f) 1:=⟨(inferInstance:Dp (.list ((L.map f).map Ai)) 1).h⟩
theorem Xz{L:List (List Int)}(p:L.Perm (Eb n)):L.Nodup:=p.nodup_iff.mpr (Qj n)
theorem tZ(ha:Lk n a)(hb:Lk m b)(h:∀i,i∈a↔i∈b):a=b:=by
 have p:a.Perm b:=(List.perm_ext_iff_of_nodup (oB ha) (oB hb)).mpr h
 exact p.eq_of_pairwise (λx y _ _ h1 h2=>by omega) ha.1 hb.1
end DL
namespace DL
open PySem PySem.Spec PyProof.Rows L2 Nd
def Ra(L:List (List Int))(f:List Int->Int):List (List Int×Ac):=L.map λw=>(w,.int (f w))
theorem kN:∀(L:List (List Int)) (es:List Ac) (acc:List (List Int×Ac)),L.length=es.length->L.Nodup->(∀w∈L,∀p∈acc,p.1≠w)->Qw acc (L.zip es)=acc++L.zip es
 | [],es,acc,_,_,_=>by simp [Qw]
 | w::L,[],acc,h,_,_=>by cases h
 | w::L,e::es,acc,h,nd,hn=>by
  have hp:Ru acc w e=acc++[(w,e)]:=by
   unfold Ru
   rw[if_neg]
   rw[List.any_eq_true]
   (intro q_; obtain ⟨p,hp,z⟩ := q_)
   exact hn w Ab p hp (of_decide_eq_true z)
  have nd':=Bx.mp nd
  show Qw (Ru acc w e) (L.zip es)=_
  rw[hp,kN L es _ (Nat.succ.inj h) nd'.2 λv hv p hp=>?_]
  ·rw[Bw]; rfl
  ·rcases Ay.mp hp with z | z
   ·exact hn v (Ae _ hv) p z
   ·rw[Af.mp z]
    rintro rfl
    exact nd'.1 hv
theorem kG:∀(L:List (List Int)) (f:List Int->Int),L.zip ((L.map f).map Ai)=Ra L f
 | [],f=>rfl
 | w::L,f=>by
  have ih:=kG L f
  unfold Ra at ih ⊢
  rw[Aw,Aw,Xu,ih]
  rfl
theorem wG(nd:L.Nodup)(f:List Int->Int):Qw [] (L.zip ((L.map f).map Ai))=Ra L f:=by
 rw[kN L _ [] (by rw[Ad,Ad]) nd λ_ _ p hp=>(nomatch hp),List.nil_append,kG]
theorem Ss:∀{L:List (List Int)},w∈L->Za (Ra L f) w=some (.int (f w))
 | [],h=>(nomatch h)
 | v::L,h=>by
  unfold Za Ra
  rw[Aw,Iz]
  by_cases e:v=w
  ·subst e
   rw[show decide ((v,Ai (f v)).1=v)=true from decide_eq_true rfl]
   rfl
  ·rw[show decide ((v,Ai (f v)).1=w)=false from decide_eq_false e]
   have ih:=Ss (f:=f) (List.mem_of_ne_of_mem (λz=>e z.symm) h)
   exact ih
end DL
namespace K34
open PySem L2 Nd DL
local macro_rules | `(tactic| array_get_dec) => do
  let ids:=(("e_seq e_skip e_ret e_if e_asg e_name e_name2 e_name4 e_own e_own2 e_nF e_gtup e_gsn e_gsc e_op e_var e_c e_imm e_immB e_take e_I e_I0 e_eqF e_eqT e_inFt_w1 e_inTt_w1 e_ixl e_cat e_rep e_nlT e_ntT e_pkOfpk e_pkOfsh e_pkOfow e_mdInsh e_mdInow e_mdItsh e_mdItow e_nil e_cons e_lst e_noPart e_part e_partB e_sl e_slBl e_cb e_lenl e_lent_w1 e_listl e_tuplel e_intb e_max2 e_min2 e_MinL e_all e_isi e_str e_v e_b e_bB e_notT e_andT e_orT e_orTt e_orTf e_not e_notB e_and e_andt e_andf e_neg e_negB e_dL e_dTp e_lB e_tpB_w1 e_range1 e_rng1B e_enum e_enumB e_for e_comp e_comp2 e_compL e_stepL e_stepLT e_compD e_noTest e_step e_stepT e_stepF e_yesB e_stepD e_stepDT e_yesBD e_call e_callW e_draws e_drawsB e_append e_revL e_appendO e_suml e_sumt_w1 e_scrSl e_dnew e_dput e_dictZ e_dictZB e_tagD e_inew e_iput e_getI e_isIc2 e_tagI e_forN e_sortK e_MaxD e_callA e_callWS e_callWSB dgetN_e isIct iputB ik_e getI_e ow_npk callWSD retWT callAB retA retA_tp isDct dputB dk_e dget_e wordsD callB callBW lstB datas pkMd allOw noPk appB appOB mmd revLB own1 npk retE retW retL args0 frD frD1 alD List.map_cons List.map_nil List.replicate List.getElem?_cons_zero List.getElem?_cons_succ List.set_cons_zero List.set_cons_succ List.cons_append List.nil_append Option.map_some List.length_cons List.length_nil List.append_nil rdAdd rdSub rdMul rdDiv rdMod rdPow rdXor rdLt rdGe if_true if_false Bool.false_eq_true List.append_assoc Nat.reduceAdd Nat.reduceSub Nat.reduceLeDiff true_and im_e ima_e dp_e dpa_e any_int eqD_intd eqD_bl eqD_str eqD_li eqD_l0 ow_e tt_e cdiv_e cpow_e cmul_l Int.reduceLT Int.reduceLE Int.reduceNeg and_self Int.reduceToNat Int.reducePow fold_w isi_ib isi_ii isi_bb Bool.not_true Bool.not_false decide_true String.reduceEq or_true true_or ifB_lt ifB_lf isi_si isi_sb str_self yesL_ow catL_owtp catL_tpow" : String).splitOn " ").toArray.map λ(x:String)=>Lean.mkIdent x.toName
  `(tactic| try simp only [$[$ids:ident],*])
section
variable{P:Bq}{w:World}{K:PySem.W.Frag}{mg:Str->Option Value}{base:Heap}
theorem Wu:FnScope ["holes", "words", "place"] ["holes"] (Bl Mj):=⟨rfl,rfl,rfl,by decide +kernel,rfl,by decide +kernel,by decide +kernel⟩
theorem cT(F:Fun K "all_words" "all_words" Mj f fd)(mR:mg "range" = none)(mS:mg "sorted" = none):FnOk P w K mg base Ge 1 f fd ["holes"] fY:=by
 refine F.ok Wu (λvs H Q E h=>?_) (λcdv A outer s H vs Q E hr h=>?_)
 ·obtain ⟨h,rfl,_⟩:=h
  rfl
 obtain ⟨h,rfl,h0,h1,q⟩:=h
 have hu2:(A.deeper (PyProof.Rows.envOfC "all_words" (Bl Mj) s.heap.objs.size f cdv)).units+2<cLine:=Iy (Nat.add_le_add_left (by decide:2<=64) _) hr.units
 refine ⟨_,Hw (Ph (i:=1) Wu.nd rfl (Ei rfl) (bV (Gv (Zw Kq) Kq)))
  (Hw (fT Ey rfl (Xg rfl mR (Gv (pv 0) Kq)) (Ow (i:=2) Wu.nd rfl (Ol rfl))
   (Nh (Ph (i:=1) Wu.nd rfl (Ei rfl) (Hx iM (pv 1)
    (Vm (bL (x := "word") (y := "place") (j:=2) (cl:=[("place",s.heap.objs.size+1)]) (by rfl) (by decide +kernel) (by rfl) (by decide +kernel) (by rfl) (λ_ _ h=>h) (by rfl) (by decide +kernel) (by rfl) (by rfl) (by rfl)) rfl (gV (pv 1)) (λ_ _ _=>bT)
     (λ_ _ _=>Hx (r:=zA K) qJ (pv 0) (Zw (Gv (pv 1) Kq))))))))
  (Nh (Uj (bN (Ts.call_sorted hu2) rfl mS (by decide +kernel) (Gv (pv 1) Kq))))),?_⟩
 refine ⟨(by show 0<=Au; decide),λe ne=>⟨(by show 1<=Au; decide),λl nl=>?_⟩⟩
 have s1:=(Dl ne (.tup [])).trans (Dl nl (.lst [V.ref e]))
 have b1:(upd (upd H e (.tup [])) l (.lst [V.ref e])) l=some (.lst (([(e,[])].map λp:Addr×List Int=>p.1).map V.ref)):=Co
 have b2:Ws (upd (upd H e (.tup [])) l (.lst [V.ref e])) [(e,[])]:=λp hp=>by
  have : p=(e,[]):=by simpa using hp
  rw[this]
  exact Dl nl _ _ _ Co
 refine ⟨_,rfl,h,rfl,by omega,by omega,eG (lo:=0) (n:=h.toNat) (λi σ H2=>∃(l:Addr) (ws:List (Addr×List Int)) (pl:Option V),σ=[some (.int h),some (.ref l),pl]/\H2 l=some (.lst ((ws.map λp:Addr×List Int=>p.1).map V.ref))/\Ws H2 ws/\(ws.map λp:Addr×List Int=>p.2)=Eb i/\Mv H H2)
  ⟨l,[(e,[])],none,rfl,b1,b2,rfl,s1⟩ ?_ ?_⟩
 ·(intro i σ H2 hi q_; obtain ⟨l,ws,pl,rfl,e1,hw,ew,sm⟩ := q_)
  have i10:i<=10:=by omega
  have lw:ws.length=(Eb i).length:=by rw[<- ew,Ad]
  have lz:=Qs i10
  have hz:((ws.map λp:Addr×List Int=>p.1).map V.ref).length=(Eb i).length:=by rw[Ad,Ad,lw]
  refine ⟨_,rfl,_,rfl,l,rfl,⟨_,Mc.of e1⟩,qQ (Yi (xs:=(ws.map λp:Addr×List Int=>p.1).map V.ref)) (by rw[hz]; exact Bz lz (by decide))
   (λD j acc H3=>∃vs:List (Addr×List Int),acc=((vs.map λp:Addr×List Int=>p.1).map V.ref)/\Ws H3 vs/\(vs.map λp:Addr×List Int=>p.2)=((Eb i).take j).map (·++[(i:Int)])/\Mv H2 H3)
   (λD nD=>⟨[],rfl,λp hp=>(nomatch hp),by simp,Dl nD _⟩) (λD j acc H3 ⟨_,_,_,_,s3⟩=>Mc.of (s3 _ _ e1)) ?_ ?_⟩
  ·(intro D j x acc H3 nD hx ha q_; obtain ⟨vs,rfl,wv,ev,s3⟩ := q_)
   refine zY ?_
   rw[Ce,Bf] at hx
   cases hj:ws[j]? with
   | none=>rw[hj] at hx; cases hx
   | some pr =>
    obtain ⟨a,wd⟩:=pr
    rw[hj] at hx
    have ex:V.ref a=x:=Bn hx
    subst ex
    have ha2:H3 a=some (.tup (wd.map V.int)):=s3 _ _ (hw (a,wd) (Ax hj))
    have ewd:(Eb i)[j]? = some wd:=by
     rw[<- ew,Bf,hj]
     rfl
    have lwd:wd.length<=10:=Bz (Mk i wd (Ax ewd)) i10
    -- the new word stands at r
    have fin:∀(r:Addr) (H4:Hp),Mv H3 H4->H4 r=some (.tup ((wd++[(i:Int)]).map V.int))->H4 D=some (.lst ((vs.map λp:Addr×List Int=>p.1).map V.ref)) /\
      ∃vs':List (Addr×List Int),(vs.map λp:Addr×List Int=>p.1).map V.ref++[V.ref r]=(vs'.map λp:Addr×List Int=>p.1).map V.ref/\Ws (upd H4 D (.lst ((vs.map λp:Addr×List Int=>p.1).map V.ref++[V.ref r]))) vs' /\
       (vs'.map λp:Addr×List Int=>p.2)=((Eb i).take (j+1)).map (·++[(i:Int)])/\Mv H2 (upd H4 D (.lst ((vs.map λp:Addr×List Int=>p.1).map V.ref++[V.ref r]))):=λr H4 s4 hr4=>by
     have hD4:=s4 _ _ ha
     refine ⟨hD4,vs++[(r,wd++[(i:Int)])],by simp,λp hp=>?_,?_,λb o z=>?_⟩
     ·have hp4:H4 p.1=some (.tup (p.2.map V.int)):=by
       rcases Ay.mp hp with hp | hp
       ·exact s4 _ _ (wv p hp)
       ·have : p=(r,wd++[(i:Int)]):=by simpa using hp
        rw[this]
        exact hr4
      rw[Cz (sI hp4 hD4 (by intro z; cases z))]
      exact hp4
     ·rw[Be,ev,Kv ewd,Be]
      rfl
     ·rw[Cz (Dx z nD)]
      exact s4 _ _ (s3 _ _ z)
    refine ⟨_,rfl,_,rfl,(by show 1<=Au; decide),λp1 np1=>?_⟩
    have s4:=Dl np1 (.tup [V.int (0+(i:Int))])
    refine ⟨a,p1,_,_,rfl,rfl,Up.of (s4 _ _ ha2),Up.of Co,(λz=>nomatch z),?_,λz=>?_,λz p2 np2=>?_⟩
    ·rw[Ad]
     show wd.length+1<=Au
     exact fI (by omega)
    ·have e0:wd=[]:=by simpa using z
     subst e0
     exact fin p1 _ s4 (by rw[Co,Zq]; rfl)
    ·refine fin p2 _ (s4.trans (Dl np2 _)) ?_
     rw[Co,Be,Zq]
     rfl
  ·(intro D acc H3 nD ha q_; obtain ⟨vs,rfl,wv,ev,s3⟩ := q_)
   rw[hz,Ga] at ev
   have lv:vs.length=(Eb i).length:=by
    have:=congrArg Fc ev
    rw[Ad,Ad] at this
    exact this
   refine ⟨l,D,_,_,rfl,rfl,s3 _ _ e1,ha,?_,λp np=>?_⟩
   ·rw[Ad,Ad,Ad,Ad,lw,lv]
    exact Bz (by omega:_<=2048) (by decide)
   ·have s4:=Dl np (.lst ((ws.map λp:Addr×List Int=>p.1).map V.ref++(vs.map λp:Addr×List Int=>p.1).map V.ref))
    refine ⟨p,ws++vs,_,rfl,?_,λx hx=>?_,?_,(sm.trans s3).trans s4⟩
    ·rw[Co,Be,Be]
    ·rcases Ay.mp hx with hx | hx
     ·exact s4 _ _ (s3 _ _ (hw x hx))
     ·exact s4 _ _ (wv x hx)
    ·rw[Be,ew,ev]
     rfl
 ·(intro σ H2 q_; obtain ⟨l,ws,pl,rfl,e1,hw,ew,sm⟩ := q_)
  have ec:=hw.c
  refine ⟨_,rfl,l,ws.map (λp:Addr×List Int=>p.1),j5 H2,rfl,Mc.of e1,λr hr'=>?_,λr Gk er=>?_,λp rs' np pr so=>?_⟩
  ·obtain ⟨x,hx,e⟩:=Bt.mp hr'
   subst e
   rw[Us (hw x hx)]
   exact Up.of (hw x hx)
  ·obtain ⟨tl,et⟩:=Rx h.toNat
   rw[<- ew] at et
   cases ws with
   | nil=>cases er
   | cons x ws' =>
    have e1:x.1=r:=by
     have:=congrArg List.head? er
     simpa using this
    have e2:x.2=[]:=by
     have:=congrArg List.head? et
     simpa using this
    rw[<- e1,Us (hw x Ab),e2]
  ·have s3:=Dl np (.lst (rs'.map V.ref))
   refine q p rs' (rs'.map (j5 H2)) _ (sm.free np) Co (λi r wd h1 h2=>?_) (by rw[Ad]) ?_ ?_ (sm.trans s3)
   ·rw[Bf,h1] at h2
    have e2:j5 H2 r=wd:=Bn h2
    obtain ⟨x,hx,e⟩:=Bt.mp (pr.mem_iff.mp (Ax h1))
    have hx':=hw x hx
    have e':x.1=r:=e
    rw[<- e2,<- e',Us hx']
    exact s3 _ _ hx'
   ·have:=pr.map (j5 H2)
    rw[ec,ew] at this
    exact this
   ·exact Zd.mpr so
theorem gG(F:Fun K "all_words" "all_words" Mj f fd)(mR:mg "range" = none)(mS:mg "sorted" = none):FnOk P w K mg base Ge 1 f fd ["holes"] (Sn K Vk):=jQ (cT F mR mS)
theorem Xk:FnScope ["_law_holes_here", "_law_found", "_law_place"] ["_law_holes_here"] (Bl Lj):=⟨rfl,rfl,rfl,by decide +kernel,rfl,by decide +kernel,by decide +kernel⟩
theorem bO(F:Fun K "_law_words" "_law_words" Lj f fd)(mR:mg "range" = none)(mS:mg "sorted" = none):FnOk P w K mg base Ge 1 f fd ["_law_holes_here"] fY:=by
 refine F.ok Xk (λvs H Q E h=>?_) (λcdv A outer s H vs Q E hr h=>?_)
 ·obtain ⟨h,rfl,_⟩:=h
  rfl
 obtain ⟨h,rfl,h0,h1,q⟩:=h
 have hu2:(A.deeper (PyProof.Rows.envOfC "_law_words" (Bl Lj) s.heap.objs.size f cdv)).units+2<cLine:=Iy (Nat.add_le_add_left (by decide:2<=64) _) hr.units
 refine ⟨_,Hw (Ph (i:=1) Xk.nd rfl (Ei rfl) (bV (Gv (Zw Kq) Kq)))
  (Hw (fT Ey rfl (Xg rfl mR (Gv (pv 0) Kq)) (Ow (i:=2) Xk.nd rfl (Ol rfl))
   (Nh (Ph (i:=1) Xk.nd rfl (Ei rfl) (Hx iM (pv 1)
    (Vm (bL (x := "_law_word") (y := "_law_place") (j:=2) (cl:=[("_law_place",s.heap.objs.size+1)]) (by rfl) (by decide +kernel) (by rfl) (by decide +kernel) (by rfl) (λ_ _ h=>h) (by rfl) (by decide +kernel) (by rfl) (by rfl) (by rfl)) rfl (gV (pv 1)) (λ_ _ _=>bT)
     (λ_ _ _=>Hx (r:=zA K) qJ (pv 0) (Zw (Gv (pv 1) Kq))))))))
  (Nh (Uj (bN (Ts.call_sorted hu2) rfl mS (by decide +kernel) (Gv (pv 1) Kq))))),?_⟩
 refine ⟨(by show 0<=Au; decide),λe ne=>⟨(by show 1<=Au; decide),λl nl=>?_⟩⟩
 have s1:=(Dl ne (.tup [])).trans (Dl nl (.lst [V.ref e]))
 have b1:(upd (upd H e (.tup [])) l (.lst [V.ref e])) l=some (.lst (([(e,[])].map λp:Addr×List Int=>p.1).map V.ref)):=Co
 have b2:Ws (upd (upd H e (.tup [])) l (.lst [V.ref e])) [(e,[])]:=λp hp=>by
  have : p=(e,[]):=by simpa using hp
  rw[this]
  exact Dl nl _ _ _ Co
 refine ⟨_,rfl,h,rfl,by omega,by omega,eG (lo:=0) (n:=h.toNat) (λi σ H2=>∃(l:Addr) (ws:List (Addr×List Int)) (pl:Option V),σ=[some (.int h),some (.ref l),pl]/\H2 l=some (.lst ((ws.map λp:Addr×List Int=>p.1).map V.ref))/\Ws H2 ws/\(ws.map λp:Addr×List Int=>p.2)=Eb i/\Mv H H2)
  ⟨l,[(e,[])],none,rfl,b1,b2,rfl,s1⟩ ?_ ?_⟩
 ·(intro i σ H2 hi q_; obtain ⟨l,ws,pl,rfl,e1,hw,ew,sm⟩ := q_)
  have i10:i<=10:=by omega
  have lw:ws.length=(Eb i).length:=by rw[<- ew,Ad]
  have lz:=Qs i10
  have hz:((ws.map λp:Addr×List Int=>p.1).map V.ref).length=(Eb i).length:=by rw[Ad,Ad,lw]
  refine ⟨_,rfl,_,rfl,l,rfl,⟨_,Mc.of e1⟩,qQ (Yi (xs:=(ws.map λp:Addr×List Int=>p.1).map V.ref)) (by rw[hz]; exact Bz lz (by decide))
   (λD j acc H3=>∃vs:List (Addr×List Int),acc=((vs.map λp:Addr×List Int=>p.1).map V.ref)/\Ws H3 vs/\(vs.map λp:Addr×List Int=>p.2)=((Eb i).take j).map (·++[(i:Int)])/\Mv H2 H3)
   (λD nD=>⟨[],rfl,λp hp=>(nomatch hp),by simp,Dl nD _⟩) (λD j acc H3 ⟨_,_,_,_,s3⟩=>Mc.of (s3 _ _ e1)) ?_ ?_⟩
  ·(intro D j x acc H3 nD hx ha q_; obtain ⟨vs,rfl,wv,ev,s3⟩ := q_)
   refine zY ?_
   rw[Ce,Bf] at hx
   cases hj:ws[j]? with
   | none=>rw[hj] at hx; cases hx
   | some pr =>
    obtain ⟨a,wd⟩:=pr
    rw[hj] at hx
    have ex:V.ref a=x:=Bn hx
    subst ex
    have ha2:H3 a=some (.tup (wd.map V.int)):=s3 _ _ (hw (a,wd) (Ax hj))
    have ewd:(Eb i)[j]? = some wd:=by
     rw[<- ew,Bf,hj]
     rfl
    have lwd:wd.length<=10:=Bz (Mk i wd (Ax ewd)) i10
    -- the new word stands at r
    have fin:∀(r:Addr) (H4:Hp),Mv H3 H4->H4 r=some (.tup ((wd++[(i:Int)]).map V.int))->H4 D=some (.lst ((vs.map λp:Addr×List Int=>p.1).map V.ref)) /\
      ∃vs':List (Addr×List Int),(vs.map λp:Addr×List Int=>p.1).map V.ref++[V.ref r]=(vs'.map λp:Addr×List Int=>p.1).map V.ref/\Ws (upd H4 D (.lst ((vs.map λp:Addr×List Int=>p.1).map V.ref++[V.ref r]))) vs' /\
       (vs'.map λp:Addr×List Int=>p.2)=((Eb i).take (j+1)).map (·++[(i:Int)])/\Mv H2 (upd H4 D (.lst ((vs.map λp:Addr×List Int=>p.1).map V.ref++[V.ref r]))):=λr H4 s4 hr4=>by
     have hD4:=s4 _ _ ha
     refine ⟨hD4,vs++[(r,wd++[(i:Int)])],by simp,λp hp=>?_,?_,λb o z=>?_⟩
     ·have hp4:H4 p.1=some (.tup (p.2.map V.int)):=by
       rcases Ay.mp hp with hp | hp
       ·exact s4 _ _ (wv p hp)
       ·have : p=(r,wd++[(i:Int)]):=by simpa using hp
        rw[this]
        exact hr4
      rw[Cz (sI hp4 hD4 (by intro z; cases z))]
      exact hp4
     ·rw[Be,ev,Kv ewd,Be]
      rfl
     ·rw[Cz (Dx z nD)]
      exact s4 _ _ (s3 _ _ z)
    refine ⟨_,rfl,_,rfl,(by show 1<=Au; decide),λp1 np1=>?_⟩
    have s4:=Dl np1 (.tup [V.int (0+(i:Int))])
    refine ⟨a,p1,_,_,rfl,rfl,Up.of (s4 _ _ ha2),Up.of Co,(λz=>nomatch z),?_,λz=>?_,λz p2 np2=>?_⟩
    ·rw[Ad]
     show wd.length+1<=Au
     exact fI (by omega)
    ·have e0:wd=[]:=by simpa using z
     subst e0
     exact fin p1 _ s4 (by rw[Co,Zq]; rfl)
    ·refine fin p2 _ (s4.trans (Dl np2 _)) ?_
     rw[Co,Be,Zq]
     rfl
  ·(intro D acc H3 nD ha q_; obtain ⟨vs,rfl,wv,ev,s3⟩ := q_)
   rw[hz,Ga] at ev
   have lv:vs.length=(Eb i).length:=by
    have:=congrArg Fc ev
    rw[Ad,Ad] at this
    exact this
   refine ⟨l,D,_,_,rfl,rfl,s3 _ _ e1,ha,?_,λp np=>?_⟩
   ·rw[Ad,Ad,Ad,Ad,lw,lv]
    exact Bz (by omega:_<=2048) (by decide)
   ·have s4:=Dl np (.lst ((ws.map λp:Addr×List Int=>p.1).map V.ref++(vs.map λp:Addr×List Int=>p.1).map V.ref))
    refine ⟨p,ws++vs,_,rfl,?_,λx hx=>?_,?_,(sm.trans s3).trans s4⟩
    ·rw[Co,Be,Be]
    ·rcases Ay.mp hx with hx | hx
     ·exact s4 _ _ (s3 _ _ (hw x hx))
     ·exact s4 _ _ (wv x hx)
    ·rw[Be,ew,ev]
     rfl
 ·(intro σ H2 q_; obtain ⟨l,ws,pl,rfl,e1,hw,ew,sm⟩ := q_)
  have ec:=hw.c
  refine ⟨_,rfl,l,ws.map (λp:Addr×List Int=>p.1),j5 H2,rfl,Mc.of e1,λr hr'=>?_,λr Gk er=>?_,λp rs' np pr so=>?_⟩
  ·obtain ⟨x,hx,e⟩:=Bt.mp hr'
   subst e
   rw[Us (hw x hx)]
   exact Up.of (hw x hx)
  ·obtain ⟨tl,et⟩:=Rx h.toNat
   rw[<- ew] at et
   cases ws with
   | nil=>cases er
   | cons x ws' =>
    have e1:x.1=r:=by
     have:=congrArg List.head? er
     simpa using this
    have e2:x.2=[]:=by
     have:=congrArg List.head? et
     simpa using this
    rw[<- e1,Us (hw x Ab),e2]
  ·have s3:=Dl np (.lst (rs'.map V.ref))
   refine q p rs' (rs'.map (j5 H2)) _ (sm.free np) Co (λi r wd h1 h2=>?_) (by rw[Ad]) ?_ ?_ (sm.trans s3)
   ·rw[Bf,h1] at h2
    have e2:j5 H2 r=wd:=Bn h2
    obtain ⟨x,hx,e⟩:=Bt.mp (pr.mem_iff.mp (Ax h1))
    have hx':=hw x hx
    have e':x.1=r:=e
    rw[<- e2,<- e',Us hx']
    exact s3 _ _ hx'
   ·have:=pr.map (j5 H2)
    rw[ec,ew] at this
    exact this
   ·exact Zd.mpr so
theorem cZ(F:Fun K "_law_words" "_law_words" Lj f fd)(mR:mg "range" = none)(mS:mg "sorted" = none):FnOk P w K mg base Ge 1 f fd ["_law_holes_here"] (Sn K Vk):=jQ (bO F mR mS)
end
def mM(w u:List Int):Bool:=w.all λi=>decide (i∈u)
def uU(face:List Int)(w:List Int)(v:Int)(p:List Int×Nat):Bool:=decide (face[p.2]? = some v) && mM w p.1
def qD(ws:List (List Int))(face:List Int)(w:List Int)(v:Int):List (List Int×Nat):=ws.zipIdx.filter (uU face w v)
def jD:PF:=λds R=>∃a b:List Int,ds=[Ck a,Ck b]/\R (.bool (mM a b))
def yJ:PF:=λds R=>∃(ws:List (List Int)) (face w:List Int) (v:Int),ds=[.list (ws.map Ck),.list (face.map Ai),Ck w,.int v]/\ws.length=face.length/\R (.list ((qD ws face w v).map λp=>.int p.2))
def xG:PF:=λds R=>∃w:List Int,ds=[Ck w]/\∀v:Int,R (.int v)
def rB:DF:=λds n R=>ds=[]/\n<=90000/\∀h:Int,1<=h->h<=7->R (.int h) (n+1)
def lD:DF:=λds n R=>ds=[]/\n<=90000/\∀h:Int,2<=h->h<=16->R (.int h) (n+1)
def dW:DF:=λds n R=>∃(ws:List (List Int)) (v:Int),ds=[.list (ws.map Ck),.int v]/\0<v/\v<=16/\ws.length<=1024/\(∀w∈ws,w.length<=10)/\n<=90000/\∀face:List Int,face.length=ws.length->R (.list (face.map Ai)) (n+1+ws.length)
section
variable{P:Bq}{w:World}{K:PySem.W.Frag}{mg:Str->Option Value}{base:Heap}
theorem tM:FnScope ["one", "other"] ["one", "other"] (Bl Vt):=⟨rfl,rfl,rfl,by decide +kernel,rfl,by decide +kernel,by decide +kernel⟩
theorem uQ(F:Fun K "within" "within" Vt f fd)(mz_all:mg "all" = none):FnOk P w K mg base Ge 1 f fd ["one", "other"] (Sn K (jD)):=by
 refine' Kk (k:=0) F tM (λcdv A outer s H E hr=>?hb) ?h
 case hb =>
  have hu64:=hr.units
  have CS1:∀{scope:Scope} (h:scope={ kind:=.function,names:=[(".0",.local),("place",.local),("other",.free)],isGenerator:=false,isCoroutine:=false }),
    CompScope (Ie Ge P w K mg base ["one", "other"] "within" (Bl Vt) f cdv A outer s H E).nox scope [("other",s.heap.objs.size+1)] "place" ["other"] [1]:=by
   rintro scope rfl
   refine ⟨by rfl,.inl (by decide +kernel),by rfl,by decide +kernel,.inl rfl,λy c h=>?_,by rfl,by decide +kernel,rfl,λk y j e1 e2=>?_⟩
   ·have z:=Do h
    simp only[Ag,Av,or_false,Dm] at z
    obtain ⟨rfl,rfl⟩:=z; rfl
   ·match k,e1,e2 with
    | 0,e1,e2=>cases e1; cases e2; exact ⟨rfl,rfl,by first | exact .inl rfl | exact .inr rfl⟩
    | k+1,e1,e2=>cases e1
  exact En (Gn (Dj (bC rfl) oQ rfl mz_all (by decide +kernel) (Ao (Hi (CS1 rfl) rfl (GO (Aq (pv 0))) (λ_ _ _=>Gd) (λ_ _ _=>CD hu64 (Aq (pv 0)) (Aq (pv 1)))) Bi)))
 case h =>
  (intro ds R q_; obtain ⟨a,b,rfl,hR⟩ := q_)
  refine ⟨rfl,?_⟩
  array_get_dec
  refine Qd (l:=a) (g:=Ai) rfl (λi=>.bool (decide (i∈b))) (λi _ yes no hy=>?_) ?_
  ·array_get_dec
   exact hy
  ·array_get_dec
   refine ⟨a.map λi=>decide (i∈b),by rw[Ce]; rfl,?_⟩
   rw[Om]
   exact hR
theorem nX:FnScope ["words", "reading", "word", "value"] ["words", "reading", "word", "value"] (Bl Su):=⟨rfl,rfl,rfl,by decide +kernel,rfl,by decide +kernel,by decide +kernel⟩
theorem pD(F:Fun K "showing" "showing" Su f fd)(G_within:FnOk P w K mg base Ge 1 f_within d_within ["one", "other"] (Sn K (jD)))(b_within:Binds K d_within ["one", "other"] [])(k_within:PySem.W.keepIn K (.ref f_within)=true)(m_within:mg "within" = some (.ref f_within))(mz_enumerate:mg "enumerate" = none):FnOk P w K mg base Ge 2 f fd ["words", "reading", "word", "value"] (Sn K (yJ)):=by
 refine' Kk (k:=1) F nX (λcdv A outer s H E hr=>?hb) ?h
 case hb =>
  have hr1:Room 1 _:=hr.mono (by decide)
  have hu64:=hr.units
  have CS1:∀{scope:Scope} (h:scope={ kind:=.function,names:=[(".0",.local),("at",.local),("other",.local),("within",.globalImplicit),("reading",.free),("value",.free),("word",.free)],isGenerator:=false,isCoroutine:=false }),
    CompScope (Ie Ge P w K mg base ["words", "reading", "word", "value"] "showing" (Bl Su) f cdv A outer s H E).nox scope [("word",s.heap.objs.size+2),("value",s.heap.objs.size+3),("reading",s.heap.objs.size+1)] "at" ["reading", "value", "word"] [1,3,2]:=by
   rintro scope rfl
   refine ⟨by rfl,.inl (by decide +kernel),by rfl,by decide +kernel,.inl rfl,λy c h=>?_,by rfl,by decide +kernel,rfl,λk y j e1 e2=>?_⟩
   ·have z:=Do h
    simp only[Ag,Av,or_false,Dm] at z
    rcases z with ⟨rfl,rfl⟩ | ⟨rfl,rfl⟩ | ⟨rfl,rfl⟩ <;> rfl
   ·match k,e1,e2 with
    | 0,e1,e2=>cases e1; cases e2; exact ⟨rfl,rfl,by first | exact .inl rfl | exact .inr rfl⟩
    | 1,e1,e2=>cases e1; cases e2; exact ⟨rfl,rfl,by first | exact .inl rfl | exact .inr rfl⟩
    | 2,e1,e2=>cases e1; cases e2; exact ⟨rfl,rfl,by first | exact .inl rfl | exact .inr rfl⟩
    | k+3,e1,e2=>cases e1
  exact En (Gn (lZ (CS1 rfl) (.inl rfl) (by decide +kernel) rfl (iN rfl mz_enumerate (Ao (Aq (pv 0)) Bi)) (λ_ _ _=>Oq (uF (vI (rO hu64 (Ir (Aq (pv 2)) (Aq (pv 0))) (Aq (pv 3))) (pY (Pk (Ig G_within hr1 rfl m_within k_within b_within Gx (Ao (Aq (pv 4)) (Ao (Aq (pv 1)) Bi)))))))) (λ_ _ _=>Aq (pv 0))))
 case h =>
  (intro ds R q_; obtain ⟨ws,face,w,v,rfl,hl,hR⟩ := q_)
  refine ⟨rfl,?_⟩
  array_get_dec
  refine zL (l:=ws.zipIdx) (g1:=λp=>.int p.2) (g2:=λp=>Ck p.1) (by rw[rP,Ce]; rfl) (uU face w v) (λp=>.int p.2) (λp hp yes no hy hn=>?_) ?_
  ·obtain ⟨k,hk⟩:=Fw.mp hp
   obtain ⟨ek,hp1,hp2,hp3⟩:=cB hk
   obtain ⟨x,e1,e2,e3⟩:=Nx (l:=face) (i:=(p.2:Int)) (by omega) (by omega)
   rw[Gp] at e1
   have hh:uU face w v p=(decide (x=v) && mM w p.1):=by
    unfold uU
    rw[e1]
    congr 1
    simp
   rw[hh] at hy hn
   array_get_dec
   refine ⟨.int x,by rw[Sz,e2]; rfl,dp,?_⟩
   array_get_dec
   refine vG (λh1=>?_) (λh1=>?_)
   ·array_get_dec
    refine ⟨w,p.1,rfl,?_⟩
    refine Os (λh2=>?_) (λh2=>?_)
    ·array_get_dec
     exact hy (by rw[h1,h2]; rfl)
    ·exact hn (by rw[h1,h2]; rfl)
   ·array_get_dec
    exact hn (by rw[h1]; rfl)
  ·array_get_dec
   exact hR
theorem hZ:FnScope ["_law_one", "_law_other"] ["_law_one", "_law_other"] (Bl Oy):=⟨rfl,rfl,rfl,by decide +kernel,rfl,by decide +kernel,by decide +kernel⟩
theorem iI(F:Fun K "_law_lies" "_law_lies" Oy f fd):FnOk P w K mg base Ge 1 f fd ["_law_one", "_law_other"] (Sn K (jD)):=by
 refine' Kk (k:=0) F hZ (λcdv A outer s H E hr=>?hb) ?h
 case hb =>
  have hu64:=hr.units
  have CS1:∀{scope:Scope} (h:scope={ kind:=.function,names:=[(".0",.local),("_law_place",.local),("_law_other",.free)],isGenerator:=false,isCoroutine:=false }),
    CompScope (Ie Ge P w K mg base ["_law_one", "_law_other"] "_law_lies" (Bl Oy) f cdv A outer s H E).nox scope [("_law_other",s.heap.objs.size+1)] "_law_place" ["_law_other"] [1]:=by
   rintro scope rfl
   refine ⟨by rfl,.inl (by decide +kernel),by rfl,by decide +kernel,.inl rfl,λy c h=>?_,by rfl,by decide +kernel,rfl,λk y j e1 e2=>?_⟩
   ·have z:=Do h
    simp only[Ag,Av,or_false,Dm] at z
    obtain ⟨rfl,rfl⟩:=z; rfl
   ·match k,e1,e2 with
    | 0,e1,e2=>cases e1; cases e2; exact ⟨rfl,rfl,by first | exact .inl rfl | exact .inr rfl⟩
    | k+1,e1,e2=>cases e1
  exact En (Gn (kY hu64 (Hi (CS1 rfl) rfl (GO (Aq (pv 0))) (λ_ _ _=>Oq (zQ hu64 (Aq (pv 0)) (Aq (pv 1)))) (λ_ _ _=>Aq (pv 0))) (Ha Bi)))
 case h =>
  (intro ds R q_; obtain ⟨a,b,rfl,hR⟩ := q_)
  refine ⟨rfl,?_⟩
  array_get_dec
  refine bP (l:=a) (g:=Ai) rfl (λi=>decide (i∉b)) (λi=>.int i) (λi _ yes no hy hn=>?_) ?_
  ·array_get_dec
   refine Os (λh=>?_) (λh=>?_)
   ·array_get_dec
    exact hy (by simpa using h)
   ·exact hn (by simpa using h)
  ·array_get_dec
   rw[show ((a.filter λi=>decide (i∉b)).map λi=>Ai i).isEmpty=mM a b from ?_]
   ·exact hR
   ·unfold mM
    rw[Tj,cN,List.map_eq_nil_iff,Sf,Dh]
    simp
theorem aE:FnScope ["_law_word", "_law_value", "_law_place"] ["_law_word"] (Bl Pi):=⟨rfl,rfl,rfl,by decide +kernel,rfl,by decide +kernel,by decide +kernel⟩
theorem aD(F:Fun K "_law_folded" "_law_folded" Pi f fd):FnOk P w K mg base Ge 1 f fd ["_law_word"] (Sn K (xG)):=by
 refine' Kk (k:=0) F aE (λcdv A outer s H E hr=>?hb) ?h
 case hb =>
  have hu64:=hr.units
  exact Cy (Hb (i:=1) aE.nd rfl (Ei rfl) Cu)
   (Cy (Rg Ey rfl (GO (Aq (pv 0))) (Mh (i:=2) aE.nd rfl (Ei rfl))
   (En (Hb (i:=1) aE.nd rfl (Ei rfl) (W6 (Aq (pv 1)) (Nt (Aq (pv 2)) Cu)))))
   (En (Gn (xJ (Aq (pv 1))))))
 case h =>
  (intro ds R q_; obtain ⟨w,rfl,hR⟩ := q_)
  refine ⟨rfl,?_⟩
  array_get_dec
  refine mF (l:=w) (g:=Ai) rfl (λi δ=>∃(x:Int) (v:DV),δ=⟨[.dat .sh (Ck w),.dat .sh (.int x),v],0⟩/\NP v) ?_ ?_ ?_
  ·exact ⟨_,_,rfl,Ov⟩
  ·(intro i p _ hp q_; obtain ⟨x,v,rfl,hv⟩ := q_)
   array_get_dec
   exact ⟨_,_,rfl,Gr⟩
  ·(intro _ q_; obtain ⟨x,v,rfl,hv⟩ := q_)
   array_get_dec
   exact hR _
theorem dF:FnScope ["_law_draws_here", "_law_pick"] ["_law_draws_here"] (Bl Qp):=⟨rfl,rfl,rfl,by decide +kernel,rfl,by decide +kernel,by decide +kernel⟩
theorem dH(F:Fun K "_law_holes" "_law_holes" Qp f fd)(G_L_next:FnOk P w K mg base Ge 1 f_L_next d_L_next ["_law_draws_here"] (mL K Ue))(b_L_next:Binds K d_L_next ["_law_draws_here"] [])(k_L_next:PySem.W.keepIn K (.ref f_L_next)=true)(m_L_next:mg "_law_next" = some (.ref f_L_next))(mz_max:mg "max" = none):FnOk P w K mg base Ge 2 f fd ["_law_draws_here"] (mL K (rB)):=by
 refine' hU (k:=1) F dF (λcdv A outer s H E hr=>?hb) ?h
 case hb =>
  have hr1:Room 1 _:=hr.mono (by decide)
  have hu64:=hr.units
  exact Cy (Hb (i:=1) dF.nd rfl (Ei rfl) (Jd G_L_next hr1 rfl m_L_next k_L_next b_L_next Gx (pv 0) Bi))
   (En (Gn (Ir (Ha (Ao (Nt Cu (Hl (iO (Aq (pv 1)) Cu) Cu)) (Ao (Nt Cu (Hl (iO (Aq (pv 1)) Cu) Cu)) (Ao Cu (Ao Cu Bi))))) (Dj (Sy rfl) Zm rfl mz_max (by decide +kernel) (Ao Cu (Ao (Xb (Hl (Aq (pv 1)) Cu) Cu) Bi))))))
 case h =>
  (intro ds n R q_; obtain ⟨rfl,hn,hR⟩ := q_)
  refine ⟨rfl,?_⟩
  array_get_dec
  refine ⟨rfl,by omega,λr1=>?_⟩
  array_get_dec
  have b8:=Qq r1 (b:=8) (by decide)
  have b5:=Qq (r1 / 8) (b:=5) (by decide)
  rcases (by omega:r1 % 8 - 4<=0\/r1 % 8 - 4=1\/r1 % 8 - 4=2\/r1 % 8 - 4=3) with z | z | z | z
  ·rw[if_neg (by omega)]
   exact ⟨_,CK _ _,by omega,hR _ (by omega) (by omega)⟩
  ·rw[if_pos (by omega),z]
   exact ⟨_,DQ _ _ _,by omega,hR _ (by omega) (by omega)⟩
  ·rw[if_pos (by omega),z]
   exact ⟨_,BN _ _ _ _,by omega,hR _ (by omega) (by omega)⟩
  ·rw[if_pos (by omega),z]
   exact ⟨_,CM _ _ _ _ _,by omega,hR _ (by omega) (by omega)⟩
theorem Yw:FnScope ["_law_draws_here", "_law_words_here", "_law_values_here", "_law_way", "_law_found", "_law_word", "_law_number", "_law_told"] ["_law_draws_here", "_law_words_here", "_law_values_here"] (Bl Nw):=⟨rfl,rfl,rfl,by decide +kernel,rfl,by decide +kernel,by decide +kernel⟩
theorem Yx(F:Fun K "_law_reading" "_law_reading" Nw f fd)(G_L_next:FnOk P w K mg base Ge 1 f_L_next d_L_next ["_law_draws_here"] (mL K Ue))(b_L_next:Binds K d_L_next ["_law_draws_here"] [])(k_L_next:PySem.W.keepIn K (.ref f_L_next)=true)(m_L_next:mg "_law_next" = some (.ref f_L_next))(G_L_folded:FnOk P w K mg base Ge 1 f_L_folded d_L_folded ["_law_word"] (Sn K (xG)))(b_L_folded:Binds K d_L_folded ["_law_word"] [])(k_L_folded:PySem.W.keepIn K (.ref f_L_folded)=true)(m_L_folded:mg "_law_folded" = some (.ref f_L_folded))(mz_len:mg "len" = none)(mz_sum:mg "sum" = none)(mz_int:mg "int" = none):FnOk P w K mg base Ge 2 f fd ["_law_draws_here", "_law_words_here", "_law_values_here"] (mL K (dW)):=by
 refine' hU (k:=1) F Yw (λcdv A outer s H E hr=>?hb) ?h
 case hb =>
  have hr1:Room 1 _:=hr.mono (by decide)
  have hu64:=hr.units
  exact Cy (Hb (i:=3) Yw.nd rfl (Ei rfl) (Hl (Jd G_L_next hr1 rfl m_L_next k_L_next b_L_next Gx (pv 0) Bi) Cu))
   (Cy (Qt (i:=4) Yw.nd rfl (Ei rfl) (Ha Bi))
   (Cy (Rg Ey rfl (fE (Aq (pv 1))) (Mh (i:=5) Yw.nd rfl (Ei rfl))
   (Cy (Hb (i:=6) Yw.nd rfl (Ei rfl) (Jd G_L_next hr1 rfl m_L_next k_L_next b_L_next Gx (pv 0) Bi))
    (Cy (Hb (i:=7) Yw.nd rfl (Ei rfl) (Ha (Ao (Hl (Aq (pv 6)) (Aq (pv 2))) (Ao (Hl (Dj Il Mt rfl mz_len (by decide +kernel) (Ao (Aq (pv 5)) Bi)) (Aq (pv 2))) (Ao (Hl (Ig G_L_folded hr1 rfl m_L_folded k_L_folded b_L_folded Gx (Ao (Aq (pv 5)) Bi)) (Aq (pv 2))) (Ao (Hl (Dj (dZ rfl) yZ rfl mz_sum (by decide +kernel) (Ao (Aq (pv 5)) Bi)) (Aq (pv 2))) Bi))))))
    (Cy (Hb (i:=7) Yw.nd rfl (Ei rfl) (Rf (Aq (pv 7)) (Ha (Ao (Hl (Aq (pv 6)) (Nt (Aq (pv 2)) Cu)) (Ao (b0 (iO (Hl (Aq (pv 6)) Cu) Cu) (Hl (Aq (pv 6)) (Aq (pv 2)))) (Ao (Hl (Aq (pv 6)) (Aq (pv 2))) Bi))))))
    (En (eR (pv 4) (Ir (Rf (Aq (pv 7)) (Ha (Ao (Ir (Ha (Ao (Hl (Dj Il Mt rfl mz_len (by decide +kernel) (Ao (Aq (pv 5)) Bi)) (Aq (pv 2))) (Ao (Nt (i9 Cu Cu) (Aq (pv 6))) Bi))) (Kt fB i7 rfl mz_int (by decide +kernel) (Ao (kY hu64 (Hl (Aq (pv 6)) Cu) Cu) Bi))) Bi))) (Aq (pv 3)))))))))
   (En (Gn (gD (pv 4))))))
 case h =>
  (intro ds n R q_; obtain ⟨ws,v,rfl,v0,v1,lw,hw,hn,hR⟩ := q_)
  refine ⟨rfl,?_⟩
  array_get_dec
  refine ⟨rfl,by omega,λr1=>?_⟩
  array_get_dec
  have b8:=Qq r1 (b:=8) (by decide)
  refine mF (l:=ws) (g:=Ck) rfl (λi δ=>∃(face:List Int) (v1 v2 v3:DV),δ=⟨[.drw,.dat .sh (.list (ws.map Ck)),.dat .sh (.int v),.dat .sh (.int (r1 % 8)),.dat .ow (.list (face.map Ai)),v1,v2,v3],n+1+i⟩/\face.length=i/\NP v1/\NP v2/\NP v3) ?_ ?_ ?_
  ·exact ⟨[],_,_,_,rfl,rfl,Ov,Ov,Ov⟩
  ·(intro i u _ hu q_; obtain ⟨face,v1,v2,v3,rfl,lf,hv1,hv2,hv3⟩ := q_)
   have hi:=(Ap.mp hu).1
   have lu:=hw u (Ax hu)
   array_get_dec
   refine ⟨rfl,by omega,λr2=>?_⟩
   array_get_dec
   refine ⟨v0,v0,u,rfl,λf=>?_⟩
   array_get_dec
   refine ⟨v0,u,rfl,v0,?_⟩
   array_get_dec
   have bv:=Qq r2 v0
   refine ⟨by omega,v0,.inr ⟨by omega,by omega⟩,v0,v0,by decide,?_⟩
   obtain ⟨x,hx⟩ : ∃x:Int,Tc [Ai (((u.map Ai).length:Int) % v),Ai (10000000000000000000+r2)] (if decide (r2 % 9=0)=true then 1 else 0)=some (.int x):=by
    rw[R1]
    cases decide (r2 % 9=0)
    ·exact ⟨_,rfl⟩
    ·exact ⟨_,rfl⟩
   refine ⟨_,hx,HZ,?_⟩
   obtain ⟨y,_,e2,_⟩:=Nx (l:=[r2 % v,((u.map Ai).length:Int) % v,f % v,u.sum % v,r2 % (v+2),r2 % 7 / 5 * (r2 % v),r2 % v,x]) b8.1 (by simpa using b8.2)
   have e3:=Sz Ai [r2 % v,((u.map Ai).length:Int) % v,f % v,u.sum % v,r2 % (v+2),r2 % 7 / 5 * (r2 % v),r2 % v,x] (r1 % 8)
   rw[e2] at e3
   refine ⟨_,e3,im,by rw[Ad]; omega,?_⟩
   exact ⟨face++[y],_,_,_,Q4 (by rw[Be]; rfl) (by omega),by simp [lf],Gr,Gr,Gr⟩
  ·(intro _ q_; obtain ⟨face,v1,v2,v3,rfl,lf,hv1,hv2,hv3⟩ := q_)
   array_get_dec
   exact ⟨by omega,hR face lf⟩
theorem aN:FnScope ["_law_draws_here", "_law_pick"] ["_law_draws_here"] (Bl Pj):=⟨rfl,rfl,rfl,by decide +kernel,rfl,by decide +kernel,by decide +kernel⟩
theorem aV(F:Fun K "_law_values" "_law_values" Pj f fd)(G_L_next:FnOk P w K mg base Ge 1 f_L_next d_L_next ["_law_draws_here"] (mL K Ue))(b_L_next:Binds K d_L_next ["_law_draws_here"] [])(k_L_next:PySem.W.keepIn K (.ref f_L_next)=true)(m_L_next:mg "_law_next" = some (.ref f_L_next))(mz_int:mg "int" = none):FnOk P w K mg base Ge 2 f fd ["_law_draws_here"] (mL K (lD)):=by
 refine' hU (k:=1) F aN (λcdv A outer s H E hr=>?hb) ?h
 case hb =>
  have hr1:Room 1 _:=hr.mono (by decide)
  have hu64:=hr.units
  exact Cy (Hb (i:=1) aN.nd rfl (Ei rfl) (Jd G_L_next hr1 rfl m_L_next k_L_next b_L_next Gx (pv 0) Bi))
   (En (Gn (Ir (Ha (Ao (Nt Cu (Hl (iO (Aq (pv 1)) Cu) Cu)) (Ao Cu Bi))) (Kt fB i7 rfl mz_int (by decide +kernel) (Ao (kY hu64 (Hl (Aq (pv 1)) Cu) Cu) Bi)))))
 case h =>
  (intro ds n R q_; obtain ⟨rfl,hn,hR⟩ := q_)
  refine ⟨rfl,?_⟩
  array_get_dec
  refine ⟨rfl,by omega,λr1=>?_⟩
  array_get_dec
  have b5:=Qq (r1 / 8) (b:=5) (by decide)
  refine ⟨_,R1 _ _ _,by omega,?_⟩
  cases decide (r1 % 8=1)
  ·exact hR _ (by omega) (by omega)
  ·exact hR _ (by decide) (by decide)
end
def Oh(l:List Int):Int:=l.foldr max 0
theorem Pa(hx:0<x):∀{l:List Int},x<=Oh l↔∃y∈l,x<=y
 | []=>⟨λh=>by simp [Oh] at h; omega,λ⟨_,h,_⟩=>nomatch h⟩
 | a::l=>by
  show x<=max a (Oh l)↔_
  have ih:=Pa hx (l:=l)
  constructor
  ·intro h
   rcases (by omega:x<=a\/x<=Oh l) with h | h
   ·exact ⟨a,Ab,h⟩
   ·obtain ⟨y,hy,e⟩:=ih.mp h
    exact ⟨y,Ae _ hy,e⟩
  ·(intro q_; obtain ⟨y,hy,e⟩ := q_)
   rcases Ag.mp hy with rfl | hy
   ·omega
   ·have:=ih.mpr ⟨y,hy,e⟩
    omega
theorem Vg:∀l:List Int,0<=Oh l
 | []=>by simp [Oh]
 | a::l=>by
  show 0<=max a (Oh l)
  have:=Vg l
  omega
theorem A5(h0:∀x∈l,0<=x)(hM:M∈l)(hle:∀x∈l,x<=M):Oh l=M:=by
 by_cases z:0<M
 ·have h1:=(Pa z (l:=l)).mpr ⟨M,hM,Lq _⟩
  by_cases q:M<Oh l
  ·obtain ⟨y,hy,e⟩:=(Pa (x:=Oh l) (by omega) (l:=l)).mp (Lq _)
   have:=hle y hy
   omega
  ·omega
 ·have:=h0 M hM
  by_cases q:0<Oh l
  ·obtain ⟨y,hy,e⟩:=(Pa q (l:=l)).mp (Lq _)
   have:=hle y hy
   omega
  ·have:=Vg l
   omega
def Rv(nums:List Int)(p:List Int×Nat):Int:=(nums[p.2]?).getD 0+1
def Mz(ws:List (List Int))(face nums w:List Int)(v:Int):Int:=Oh ((qD ws face w v).map (Rv nums))
def zS:PF:=λds R=>∃(ws:List (List Int)) (face nums w:List Int) (v:Int),ds=[.list (ws.map Ck),.list (face.map Ai),.list (nums.map Ai),Ck w,.int v]/\ws.length=face.length/\ws.length=nums.length/\(∀x∈nums,0<=x)/\R (.int (Mz ws face nums w v))
def n6:PF:=λds R=>∃(ws:List (List Int)) (face nums:List Int) (vs:Int) (k:Nat) (w:List Int) (f:Int),ds=[.list (ws.map Ck),.list (face.map Ai),.int vs,.list (nums.map Ai),.int k]/\ws.length=face.length/\ws.length=nums.length/\(∀x∈nums,0<=x)/\2<=vs/\vs<=16 /\
 ws[k]? = some w/\face[k]? = some f/\∀M:Int,(∀x:Int,x<=M↔∀v:Int,0<=v->v<vs->v≠f->x<=Mz ws face nums w v)->R (.int M)
def Kr:Ac->Bool
 | .int i=>decide (0<=i)
 | _=>false
def Sb(d:Ac)(n:Int):Bool:=match d with
 | .list ds=>decide ((ds.length:Int)=n) && ds.all Kr
 | _=>false
def jI:Ac->Bool
 | .none=>true
 | .bool _=>true
 | .int _=>true
 | .str _=>true
 | _=>false
theorem vO(h:jI d=true):imm d=true:=by
 cases d <;> first | rfl | cases h
theorem gN(h:ds.all jI=true):Dw ds=true:=pF.mpr λd hd=>vO (Dh.mp h d hd)
theorem Sx:∀{ds:List Ac},ds.all jI=true->Bm ds=0
 | [],_=>by simp [Bm]
 | d::ds,h=>by
  rw[Wm,Dk] at h
  have:=Sx h.2
  have h0:d.depth=0:=by
   cases d <;> first | exact absurd h.1 Br | simp [Cj]
  simp [Bm,this,h0]
def BB(d:Ac):Prop:=(∃ds,d=.list ds/\ds.all jI=true)\/imm d=true
def rD:PF:=λds R=>∃d,ds=[d]/\imm d=true/\R (.bool (match d with | .int _=>true | _=>false))
def Q9:PF:=λds R=>∃(d:Ac) (n:Int),ds=[d,.int n]/\BB d/\R (.bool (Sb d n))
section
variable{P:Bq}{w:World}{K:PySem.W.Frag}{mg:Str->Option Value}{base:Heap}
theorem dJ:FnScope ["words", "reading", "numbers", "word", "value"] ["words", "reading", "numbers", "word", "value"] (Bl Nk):=⟨rfl,rfl,rfl,by decide +kernel,rfl,by decide +kernel,by decide +kernel⟩
theorem cV(F:Fun K "best_turns" "best_turns" Nk f fd)(G_showing:FnOk P w K mg base Ge 2 f_showing d_showing ["words", "reading", "word", "value"] (Sn K (yJ)))(b_showing:Binds K d_showing ["words", "reading", "word", "value"] [])(k_showing:PySem.W.keepIn K (.ref f_showing)=true)(m_showing:mg "showing" = some (.ref f_showing))(mz_max:mg "max" = none):FnOk P w K mg base Ge 3 f fd ["words", "reading", "numbers", "word", "value"] (Sn K (zS)):=by
 refine' Kk (k:=2) F dJ (λcdv A outer s H E hr=>?hb) ?h
 case hb =>
  have hr1:Room 1 _:=hr.mono (by decide)
  have hr2:Room 2 _:=hr.mono (by decide)
  have hu64:=hr.units
  have CS1:∀{scope:Scope} (h:scope={ kind:=.function,names:=[(".0",.local),("at",.local),("numbers",.free)],isGenerator:=false,isCoroutine:=false }),
    CompScope (Ie Ge P w K mg base ["words", "reading", "numbers", "word", "value"] "best_turns" (Bl Nk) f cdv A outer s H E).nox scope [("numbers",s.heap.objs.size+1)] "at" ["numbers"] [2]:=by
   rintro scope rfl
   refine ⟨by rfl,.inl (by decide +kernel),by rfl,by decide +kernel,.inl rfl,λy c h=>?_,by rfl,by decide +kernel,rfl,λk y j e1 e2=>?_⟩
   ·have z:=Do h
    simp only[Ag,Av,or_false,Dm] at z
    obtain ⟨rfl,rfl⟩:=z; rfl
   ·match k,e1,e2 with
    | 0,e1,e2=>cases e1; cases e2; exact ⟨rfl,rfl,by first | exact .inl rfl | exact .inr rfl⟩
    | k+1,e1,e2=>cases e1
  exact En (Gn (C9 rfl rfl mz_max (Ao (Hi (CS1 rfl) rfl (fE (Ig G_showing hr2 rfl m_showing k_showing b_showing Gx (Ao (Aq (pv 0)) (Ao (Aq (pv 1)) (Ao (Aq (pv 3)) (Ao (Aq (pv 4)) Bi)))))) (λ_ _ _=>Gd) (λ_ _ _=>Nt (Ir (Aq (pv 1)) (Aq (pv 0))) Cu)) Bi)))
 case h =>
  (intro ds R q_; obtain ⟨ws,face,nums,w,v,rfl,l1,l2,h0,hR⟩ := q_)
  refine ⟨rfl,?_⟩
  array_get_dec
  refine ⟨ws,face,w,v,rfl,l1,?_⟩
  array_get_dec
  refine Qd (l:=qD ws face w v) (g:=λp=>.int p.2) rfl (λp=>.int (Rv nums p)) (λp hp yes no hy=>?_) ?_
  ·obtain ⟨k,hk⟩:=Fw.mp (Cn.mp hp).1
   obtain ⟨ek,hp1,hp2,hp3⟩:=cB hk
   obtain ⟨x,e1,e2,e3⟩:=Nx (l:=nums) (i:=(p.2:Int)) (by omega) (by omega)
   array_get_dec
   refine ⟨.int x,by rw[Sz,e2]; rfl,im,?_⟩
   array_get_dec
   rw[Gp] at e1
   have : Rv nums p=x+1:=by unfold Rv; rw[e1]; rfl
   rw[this] at hy
   exact hy
  ·array_get_dec
   refine ⟨(qD ws face w v).map (Rv nums),by rw[Ce]; rfl,λz=>?_,λM hM hle=>?_⟩
   ·have : Mz ws face nums w v=0:=by unfold Mz; rw[z]; rfl
    rw[this] at hR
    array_get_dec
    exact hR
   ·have : Mz ws face nums w v=M:=A5 (λx hx=>?_) hM hle
    ·rw[this] at hR
     array_get_dec
     exact hR
    ·obtain ⟨p,_,rfl⟩:=Bt.mp hx
     unfold Rv
     cases q:nums[p.2]? with
     | none=>simp
     | some y=>have:=h0 y (Ax q); show 0<=y+1; omega
theorem dG:FnScope ["words", "reading", "values", "numbers", "at", "others"] ["words", "reading", "values", "numbers", "at"] (Bl Lg):=⟨rfl,rfl,rfl,by decide +kernel,rfl,by decide +kernel,by decide +kernel⟩
theorem dD(F:Fun K "sure_turns" "sure_turns" Lg f fd)(G_best_turns:FnOk P w K mg base Ge 3 f_best_turns d_best_turns ["words", "reading", "numbers", "word", "value"] (Sn K (zS)))(b_best_turns:Binds K d_best_turns ["words", "reading", "numbers", "word", "value"] [])(k_best_turns:PySem.W.keepIn K (.ref f_best_turns)=true)(m_best_turns:mg "best_turns" = some (.ref f_best_turns))(mz_range:mg "range" = none)(mz_min:mg "min" = none):FnOk P w K mg base Ge 4 f fd ["words", "reading", "values", "numbers", "at"] (Sn K (n6)):=by
 refine' Kk (k:=3) F dG (λcdv A outer s H E hr=>?hb) ?h
 case hb =>
  have hr1:Room 1 _:=hr.mono (by decide)
  have hr2:Room 2 _:=hr.mono (by decide)
  have hr3:Room 3 _:=hr.mono (by decide)
  have hu64:=hr.units
  have CS1:∀{scope:Scope} (h:scope={ kind:=.function,names:=[(".0",.local),("value",.local),("at",.free),("reading",.free)],isGenerator:=false,isCoroutine:=false }),
    CompScope (Ie Ge P w K mg base ["words", "reading", "values", "numbers", "at", "others"] "sure_turns" (Bl Lg) f cdv A outer s H E).nox scope [("reading",s.heap.objs.size+2),("at",s.heap.objs.size+4)] "value" ["at", "reading"] [4,1]:=by
   rintro scope rfl
   refine ⟨by rfl,.inl (by decide +kernel),by rfl,by decide +kernel,.inl rfl,λy c h=>?_,by rfl,by decide +kernel,rfl,λk y j e1 e2=>?_⟩
   ·have z:=Do h
    simp only[Ag,Av,or_false,Dm] at z
    rcases z with ⟨rfl,rfl⟩ | ⟨rfl,rfl⟩ <;> rfl
   ·match k,e1,e2 with
    | 0,e1,e2=>cases e1; cases e2; exact ⟨rfl,rfl,by first | exact .inl rfl | exact .inr rfl⟩
    | 1,e1,e2=>cases e1; cases e2; exact ⟨rfl,rfl,by first | exact .inl rfl | exact .inr rfl⟩
    | k+2,e1,e2=>cases e1
  have CS2:∀{scope:Scope} (h:scope={ kind:=.function,names:=[(".0",.local),("value",.local),("best_turns",.globalImplicit),("at",.free),("numbers",.free),("reading",.free),("words",.free)],isGenerator:=false,isCoroutine:=false }),
    CompScope (Ie Ge P w K mg base ["words", "reading", "values", "numbers", "at", "others"] "sure_turns" (Bl Lg) f cdv A outer s H E).nox scope [("words",s.heap.objs.size+1),("reading",s.heap.objs.size+2),("numbers",s.heap.objs.size+3),("at",s.heap.objs.size+4)] "value" ["at", "numbers", "reading", "words"] [4,3,1,0]:=by
   rintro scope rfl
   refine ⟨by rfl,.inl (by decide +kernel),by rfl,by decide +kernel,.inl rfl,λy c h=>?_,by rfl,by decide +kernel,rfl,λk y j e1 e2=>?_⟩
   ·have z:=Do h
    simp only[Ag,Av,or_false,Dm] at z
    rcases z with ⟨rfl,rfl⟩ | ⟨rfl,rfl⟩ | ⟨rfl,rfl⟩ | ⟨rfl,rfl⟩ <;> rfl
   ·match k,e1,e2 with
    | 0,e1,e2=>cases e1; cases e2; exact ⟨rfl,rfl,by first | exact .inl rfl | exact .inr rfl⟩
    | 1,e1,e2=>cases e1; cases e2; exact ⟨rfl,rfl,by first | exact .inl rfl | exact .inr rfl⟩
    | 2,e1,e2=>cases e1; cases e2; exact ⟨rfl,rfl,by first | exact .inl rfl | exact .inr rfl⟩
    | 3,e1,e2=>cases e1; cases e2; exact ⟨rfl,rfl,by first | exact .inl rfl | exact .inr rfl⟩
    | k+4,e1,e2=>cases e1
  exact Cy (rW (o:=false) (i0:=5) dG.nd rfl rfl (CS1 rfl) rfl (Nr rfl mz_range (Ao (Aq (pv 2)) Bi)) (λ_ _ _=>Oq (Yh hu64 (Aq (pv 0)) (Ir (Aq (pv 2)) (Aq (pv 1))))) (λ_ _ _=>Aq (pv 0)))
   (En (Gn (Dj (dX rfl) rZ rfl mz_min (by decide +kernel) (Ao (Hi (CS2 rfl) rfl (fE (Aq (pv 5))) (λ_ _ _=>Gd) (λ_ _ _=>Ig G_best_turns hr3 rfl m_best_turns k_best_turns b_best_turns Gx (Ao (Aq (pv 4)) (Ao (Aq (pv 3)) (Ao (Aq (pv 2)) (Ao (Ir (Aq (pv 4)) (Aq (pv 1))) (Ao (Aq (pv 0)) Bi))))))) Bi))))
 case h =>
  (intro ds R q_; obtain ⟨ws,face,nums,vs,k,w,f,rfl,l1,l2,h0,v0,v1,hw,hf,hR⟩ := q_)
  refine ⟨rfl,?_⟩
  array_get_dec
  have ef:Tc (face.map Ai) (k:Int)=some (.int f):=Vh (by rw[Bf,hf]; rfl)
  have ew:Tc (ws.map Ck) (k:Int)=some (Ck w):=Vh (by rw[Bf,hw]; rfl)
  refine ⟨by omega,by omega,?_⟩
  refine bP (l:=Di vs.toNat) (g:=λi:Nat=>.int i) rfl (λi:Nat=>decide ((i:Int)≠f)) (λi=>.int i) (λi _ yes no hy hn=>?_) ?_
  ·array_get_dec
   refine ⟨_,ef,dp,?_⟩
   array_get_dec
   refine Os (λh=>?_) (λh=>?_)
   ·array_get_dec
    exact hy (by simpa using h)
   ·exact hn (by simpa using h)
  array_get_dec
  refine Qd (l:=(Di vs.toNat).filter λi:Nat=>decide ((i:Int)≠f)) (g:=λi:Nat=>.int i) rfl (λi=>.int (Mz ws face nums w i)) (λi _ yes no hy=>?_) ?_
  ·array_get_dec
   refine ⟨_,ew,ws,face,nums,w,i,rfl,l1,l2,h0,?_⟩
   array_get_dec
   exact hy
  array_get_dec
  have mem:∀b:Int,b∈((Di vs.toNat).filter λi:Nat=>decide ((i:Int)≠f)).map (λi:Nat=>Mz ws face nums w i)↔∃v:Int,0<=v/\v<vs/\v≠f/\b=Mz ws face nums w v:=λb=>by
   constructor
   ·intro h
    obtain ⟨i,hi,rfl⟩:=Bt.mp h
    obtain ⟨h1,h2⟩:=Cn.mp hi
    have:=Ke.mp h1
    exact ⟨i,by omega,by omega,by simpa using h2,rfl⟩
   ·(intro q_; obtain ⟨v,h1,h2,h3,rfl⟩ := q_)
    refine Bt.mpr ⟨v.toNat,Cn.mpr ⟨Ke.mpr (by omega),?_⟩,by rw[On h1]⟩
    rw[On h1]
    simpa using h3
  refine ⟨((Di vs.toNat).filter λi:Nat=>decide ((i:Int)≠f)).map (λi:Nat=>Mz ws face nums w i),by rw[Ce]; rfl,λz=>?_,λM hM hle=>?_⟩
  ·have h1:=(mem (Mz ws face nums w 0)).mpr
   have h2:=(mem (Mz ws face nums w 1)).mpr
   rw[z] at h1 h2
   by_cases q:f=0
   ·exact absurd (h2 ⟨1,by omega,by omega,by omega,rfl⟩) Av
   ·exact absurd (h1 ⟨0,by omega,by omega,by omega,rfl⟩) Av
  ·array_get_dec
   refine hR M λx=>⟨λh v h1 h2 h3=>?_,λh=>?_⟩
   ·have:=hle _ ((mem _).mpr ⟨v,h1,h2,h3,rfl⟩)
    omega
   ·obtain ⟨v,h1,h2,h3,rfl⟩:=(mem M).mp hM
    exact h v h1 h2 h3
end
noncomputable def lI(ws:List (List Int))(face:List Int)(vs:Int)(nums:List Int):Bool:=@decide (∀(k:Nat) (w:List Int) (f x:Int),ws[k]? = some w->face[k]? = some f->nums[k]? = some x->∃v:Int,0<=v/\v<vs/\v≠f/\Mz ws face nums w v<=x) (Hv _)
theorem J1(h:Mr d "int" = true):(∃i,d=.int i)\/∃b,d=.bool b:=by
 cases d <;> simp [Mr,gW] at h <;> first | exact .inl ⟨_,rfl⟩ | exact .inr ⟨_,rfl⟩
theorem rK(h:Mr d "list" = true):∃ds,d=.list ds:=by
 cases d <;> simp [Mr,gW] at h
 exact ⟨_,rfl⟩
theorem mD(h:Mr d "list" = false)(n:Int):Sb d n=false:=by
 cases d <;> first | rfl | simp [Mr,gW] at h
section
variable{P:Bq}{w:World}{K:PySem.W.Frag}{mg:Str->Option Value}{base:Heap}
theorem jZ:FnScope ["thing"] ["thing"] (Bl Ug):=⟨rfl,rfl,rfl,by decide +kernel,rfl,by decide +kernel,by decide +kernel⟩
theorem jL(F:Fun K "is_whole" "is_whole" Ug f fd)(mz_bool:mg "bool" = none)(mz_isinstance:mg "isinstance" = none)(mz_int:mg "int" = none):FnOk P w K mg base Ge 1 f fd ["thing"] (Sn K (rD)):=by
 refine' Kk (k:=0) F jZ (λcdv A outer s H E hr=>?hb) ?h
 case hb =>
  have hu64:=hr.units
  exact En (Gn (zE (Dj Ut Uk rfl mz_isinstance (by decide +kernel) (Ao (Aq (pv 0)) (Ao (bI (n := "int") rfl mz_int (by decide +kernel)) Bi))) (u9 (S6 (Dj Ut Uk rfl mz_isinstance (by decide +kernel) (Ao (Aq (pv 0)) (Ao (bI (n := "bool") rfl mz_bool (by decide +kernel)) Bi)))))))
 case h =>
  (intro ds R q_; obtain ⟨d,rfl,hd,hR⟩ := q_)
  refine ⟨rfl,?_⟩
  array_get_dec
  refine U8 (λh=>?_) (λh=>?_)
  ·rcases J1 h with ⟨i,rfl⟩ | ⟨b,rfl⟩
   ·array_get_dec
    exact hR
   ·array_get_dec
    exact hR
  ·array_get_dec
   cases d <;> first | exact hR | simp [Mr,gW] at h
theorem Zu:FnScope ["thing", "many"] ["thing", "many"] (Bl Mg):=⟨rfl,rfl,rfl,by decide +kernel,rfl,by decide +kernel,by decide +kernel⟩
theorem bZ(F:Fun K "are_numbers" "are_numbers" Mg f fd)(G_is_whole:FnOk P w K mg base Ge 1 f_is_whole d_is_whole ["thing"] (Sn K (rD)))(b_is_whole:Binds K d_is_whole ["thing"] [])(k_is_whole:PySem.W.keepIn K (.ref f_is_whole)=true)(m_is_whole:mg "is_whole" = some (.ref f_is_whole))(mz_len:mg "len" = none)(mz_list:mg "list" = none)(mz_isinstance:mg "isinstance" = none)(mz_all:mg "all" = none):FnOk P w K mg base Ge 2 f fd ["thing", "many"] (Sn K (Q9)):=by
 refine' Kk (k:=1) F Zu (λcdv A outer s H E hr=>?hb) ?h
 case hb =>
  have hr1:Room 1 _:=hr.mono (by decide)
  have hu64:=hr.units
  have CS1:∀{scope:Scope} (h:scope={ kind:=.function,names:=[(".0",.local),("number",.local),("is_whole",.globalImplicit)],isGenerator:=false,isCoroutine:=false }),
    CompScope (Ie Ge P w K mg base ["thing", "many"] "are_numbers" (Bl Mg) f cdv A outer s H E).nox scope [] "number" [] []:=by
   rintro scope rfl
   exact Nd.compScope0 (by rfl) (by decide +kernel) (by rfl) (by decide +kernel) (by rfl) (by rfl)
  exact Cy (Yd (uF (bJ (Xl (Pk (Dj Ut Uk rfl mz_isinstance (by decide +kernel) (Ao (Aq (pv 0)) (Ao (bI (n := "list") rfl mz_list (by decide +kernel)) Bi))))) (gJ (Yh hu64 (Dj Il Mt rfl mz_len (by decide +kernel) (Ao (Aq (pv 0)) Bi)) (Aq (pv 1))))))
   (En (Gn Yc)) Rm)
   (En (Gn (Dj (bC rfl) oQ rfl mz_all (by decide +kernel) (Ao (Hi (CS1 rfl) rfl (fE (Aq (pv 0))) (λ_ _ _=>Gd) (λ_ _ _=>zE (Ig G_is_whole hr1 rfl m_is_whole k_is_whole b_is_whole Gx (Ao (Aq (pv 0)) Bi)) (u9 (Q8 (Aq (pv 0)) Cu)))) Bi))))
 case h =>
  (intro ds R q_; obtain ⟨d,n,rfl,hd,hR⟩ := q_)
  refine ⟨rfl,?_⟩
  array_get_dec
  refine P6 (λh=>?_) (λh=>?_)
  ·rw[mD (by simpa using h)] at hR
   array_get_dec
   exact hR
  obtain ⟨ds,rfl⟩:=rK (d:=d) (by simpa using h)
  have ha:ds.all jI=true:=by
   rcases hd with ⟨ds',e,h⟩ | h
   ·cases e; exact h
   ·cases h
  have hi:=gN ha
  array_get_dec
  refine Zx (λh1=>?_) (λh1=>?_)
  ·array_get_dec
   have : Sb (.list ds) n=false:=by
    show (decide ((ds.length:Int)=n) && ds.all Kr)=false
    rw[show decide ((ds.length:Int)=n)=false by simpa using h1]
    rfl
   rw[this] at hR
   exact hR
  ·array_get_dec
   have e:Sb (.list ds) n=ds.all Kr:=by
    show (decide ((ds.length:Int)=n) && ds.all Kr)=_
    rw[show decide ((ds.length:Int)=n)=true by simpa using h1]
    rfl
   rw[e] at hR
   refine Qd (l:=ds) (g:=λd=>d) (by simp) (λd=>.bool (Kr d)) (λd hm yes no hy=>?_) ?_
   ·array_get_dec
    refine ⟨d,rfl,pF.mp hi d hm,?_⟩
    cases d with
    | int i =>
     array_get_dec
     exact hy
    | _ =>
     array_get_dec
     exact hy
   ·array_get_dec
    refine ⟨ds.map Kr,by rw[Ce]; rfl,?_⟩
    rw[Om]
    array_get_dec
    exact hR
end
theorem rE:∀{ds:List Ac},ds.all Kr=true->∃nums:List Int,ds=nums.map Ai/\∀x∈nums,0<=x
 | [],_=>⟨[],rfl,λ_ z=>nomatch z⟩
 | d::ds,h=>by
  rw[Wm,Dk] at h
  obtain ⟨nums,rfl,h2⟩:=rE h.2
  cases d with
  | int i=>exact ⟨i::nums,rfl,λx hx=>by
    rcases Ag.mp hx with rfl | hx
    ·simpa [Kr] using h.1
    ·exact h2 x hx⟩
  | _=>simp [Kr] at h
theorem kI(h:Sb d n=true):∃nums:List Int,d=.list (nums.map Ai)/\(nums.length:Int)=n/\∀x∈nums,0<=x:=by
 cases d with
 | list ds =>
  have h:(decide ((ds.length:Int)=n) && ds.all Kr)=true:=h
  rw[Dk] at h
  obtain ⟨nums,rfl,h2⟩:=rE h.2
  exact ⟨nums,rfl,by simpa using h.1,h2⟩
 | _=>cases h
noncomputable def AI(ws:List (List Int))(face:List Int)(vs:Int)(nums:List Int)(k:Nat):Bool:=@decide (∀(w:List Int) (f x:Int),ws[k]? = some w->face[k]? = some f->nums[k]? = some x->∃v:Int,0<=v/\v<vs/\v≠f/\Mz ws face nums w v<=x) (Hv _)
theorem n9(ws:List (List Int))(face:List Int)(vs:Int)(nums:List Int):lI ws face vs nums=(Di ws.length).all (id ∘ AI ws face vs nums):=by
 rw[Tj,Dh]
 unfold lI AI
 simp only[Wj,id,decide_eq_true_eq]
 exact ⟨λh k _=>h k,λh k w f x h1=>h k (Ke.mpr (Ap.mp h1).1) w f x h1⟩
def qP:PF:=λds R=>∃(h:Int) (face:List Int) (vs:Int) (d:Ac),ds=[.int h,.list (face.map Ai),.int vs,d]/\0<=h/\h<=10/\face.length=2 ^ h.toNat/\2<=vs/\vs<=16/\BB d /\
 ∀L:List (List Int),L.Perm (Eb h.toNat)->Ord L->(Sb d L.length=false->R (.bool false))/\∀nums:List Int,d=.list (nums.map Ai)->nums.length=L.length->(∀x∈nums,0<=x)->R (.bool (lI L face vs nums))
section
variable{P:Bq}{w:World}{K:PySem.W.Frag}{mg:Str->Option Value}{base:Heap}
theorem Tr:FnScope ["holes", "reading", "values", "thing", "words"] ["holes", "reading", "values", "thing"] (Bl Ib):=⟨rfl,rfl,rfl,by decide +kernel,rfl,by decide +kernel,by decide +kernel⟩
theorem Tp(F:Fun K "shows_most_often" "shows_most_often" Ib f fd)(G_all_words:FnOk P w K mg base Ge 1 f_all_words d_all_words ["holes"] (Sn K Vk))(b_all_words:Binds K d_all_words ["holes"] [])(k_all_words:PySem.W.keepIn K (.ref f_all_words)=true)(m_all_words:mg "all_words" = some (.ref f_all_words))(G_sure_turns:FnOk P w K mg base Ge 4 f_sure_turns d_sure_turns ["words", "reading", "values", "numbers", "at"] (Sn K (n6)))(b_sure_turns:Binds K d_sure_turns ["words", "reading", "values", "numbers", "at"] [])(k_sure_turns:PySem.W.keepIn K (.ref f_sure_turns)=true)(m_sure_turns:mg "sure_turns" = some (.ref f_sure_turns))(G_are_numbers:FnOk P w K mg base Ge 2 f_are_numbers d_are_numbers ["thing", "many"] (Sn K (Q9)))(b_are_numbers:Binds K d_are_numbers ["thing", "many"] [])(k_are_numbers:PySem.W.keepIn K (.ref f_are_numbers)=true)(m_are_numbers:mg "are_numbers" = some (.ref f_are_numbers))(mz_len:mg "len" = none)(mz_range:mg "range" = none)(mz_all:mg "all" = none):FnOk P w K mg base Ge 5 f fd ["holes", "reading", "values", "thing"] (Sn K (qP)):=by
 refine' Kk (k:=4) F Tr (λcdv A outer s H E hr=>?hb) ?h
 case hb =>
  have hr1:Room 1 _:=hr.mono (by decide)
  have hr2:Room 2 _:=hr.mono (by decide)
  have hr3:Room 3 _:=hr.mono (by decide)
  have hr4:Room 4 _:=hr.mono (by decide)
  have hu64:=hr.units
  have CS1:∀{scope:Scope} (h:scope={ kind:=.function,names:=[(".0",.local),("at",.local),("sure_turns",.globalImplicit),("reading",.free),("thing",.free),("values",.free),("words",.free)],isGenerator:=false,isCoroutine:=false }),
    CompScope (Ie Ge P w K mg base ["holes", "reading", "values", "thing", "words"] "shows_most_often" (Bl Ib) f cdv A outer s H E).nox scope [("words",s.heap.objs.size+4),("values",s.heap.objs.size+2),("thing",s.heap.objs.size+3),("reading",s.heap.objs.size+1)] "at" ["reading", "thing", "values", "words"] [1,3,2,4]:=by
   rintro scope rfl
   refine ⟨by rfl,.inl (by decide +kernel),by rfl,by decide +kernel,.inl rfl,λy c h=>?_,by rfl,by decide +kernel,rfl,λk y j e1 e2=>?_⟩
   ·have z:=Do h
    simp only[Ag,Av,or_false,Dm] at z
    rcases z with ⟨rfl,rfl⟩ | ⟨rfl,rfl⟩ | ⟨rfl,rfl⟩ | ⟨rfl,rfl⟩ <;> rfl
   ·match k,e1,e2 with
    | 0,e1,e2=>cases e1; cases e2; exact ⟨rfl,rfl,by first | exact .inl rfl | exact .inr rfl⟩
    | 1,e1,e2=>cases e1; cases e2; exact ⟨rfl,rfl,by first | exact .inl rfl | exact .inr rfl⟩
    | 2,e1,e2=>cases e1; cases e2; exact ⟨rfl,rfl,by first | exact .inl rfl | exact .inr rfl⟩
    | 3,e1,e2=>cases e1; cases e2; exact ⟨rfl,rfl,by first | exact .inl rfl | exact .inr rfl⟩
    | k+4,e1,e2=>cases e1
  exact Cy (Hb (i:=4) Tr.nd rfl (Ol rfl) (Ig G_all_words hr1 rfl m_all_words k_all_words b_all_words Gx (Ao (Aq (pv 0)) Bi)))
   (Cy (Yd (Xl (Pk (Ig G_are_numbers hr2 rfl m_are_numbers k_are_numbers b_are_numbers Gx (Ao (Aq (pv 3)) (Ao (Dj Il Mt rfl mz_len (by decide +kernel) (Ao (Aq (pv 4)) Bi)) Bi)))))
   (En (Gn Yc)) Rm)
   (En (Gn (Dj (bC rfl) oQ rfl mz_all (by decide +kernel) (Ao (Hi (CS1 rfl) rfl (Nr rfl mz_range (Ao (Dj Il Mt rfl mz_len (by decide +kernel) (Ao (Aq (pv 4)) Bi)) Bi)) (λ_ _ _=>Gd) (λ_ _ _=>Q8 (Ir (Aq (pv 2)) (Aq (pv 0))) (Ig G_sure_turns hr4 rfl m_sure_turns k_sure_turns b_sure_turns Gx (Ao (Aq (pv 4)) (Ao (Aq (pv 1)) (Ao (Aq (pv 3)) (Ao (Aq (pv 2)) (Ao (Aq (pv 0)) Bi)))))))) Bi)))))
 case h =>
  (intro ds R q_; obtain ⟨h,face,vs,d,rfl,h0,h1,lf,v0,v1,hd,hR⟩ := q_)
  refine ⟨rfl,?_⟩
  array_get_dec
  refine ⟨h,rfl,h0,h1,λL hp ho=>?_⟩
  obtain ⟨hR1,hR2⟩:=hR L hp ho
  have lL:L.length=2 ^ h.toNat:=by rw[hp.length_eq,Qr]
  obtain ⟨l1,l2⟩:=Sw (n:=h.toNat) (by omega) hp
  array_get_dec
  rw[Ad]
  refine ⟨d,L.length,rfl,hd,?_⟩
  refine Zx (λhb=>?_) (λhb=>?_)
  ·array_get_dec
   exact hR1 (by simpa using hb)
  obtain ⟨nums,rfl,ln,nn⟩:=kI (d:=d) (n:=L.length) (by simpa using hb)
  have ln:nums.length=L.length:=by omega
  have hR2:=hR2 nums rfl ln nn
  array_get_dec
  rw[Ad,Gp]
  refine ⟨by omega,by omega,?_⟩
  refine Qd (l:=Di L.length) (g:=λi:Nat=>.int i) rfl (λk=>.bool (AI L face vs nums k)) (λk hk yes no hy=>?_) ?_
  ·have hk:=Ke.mp hk
   obtain ⟨w,hw⟩ : ∃w,L[k]? = some w:=⟨_,Ba hk⟩
   obtain ⟨f,hf⟩ : ∃f,face[k]? = some f:=⟨_,Ba (by omega)⟩
   obtain ⟨x,hx⟩ : ∃x,nums[k]? = some x:=⟨_,Ba (by omega)⟩
   have ex:Tc (nums.map Ai) (k:Int)=some (.int x):=Vh (by rw[Bf,hx]; rfl)
   array_get_dec
   refine ⟨_,ex,L,face,nums,vs,k,w,f,rfl,by omega,by omega,nn,v0,v1,hw,hf,λM hM=>?_⟩
   array_get_dec
   have lem:M<=x↔∃v:Int,0<=v/\v<vs/\v≠f/\Mz L face nums w v<=x:=by
    constructor
    ·intro q
     refine Fn λz=>?_
     have:=(hM (x+1)).mpr λv z1 z2 z3=>Int.lt_of_not_ge λz4=>z ⟨v,z1,z2,z3,z4⟩
     omega
    ·(intro q_; obtain ⟨v,z1,z2,z3,z4⟩ := q_)
     have:=(hM M).mp (Lq _) v z1 z2 z3
     omega
   have : AI L face vs nums k=decide (M<=x):=by
    unfold AI
    refine decide_eq_decide.mpr ⟨λh=>lem.mpr (h w f x hw hf hx),λh w' f' x' h1 h2 h3=>?_⟩
    rw[hw] at h1; cases h1
    rw[hf] at h2; cases h2
    rw[hx] at h3; cases h3
    exact lem.mp h
   rw[this] at hy
   exact hy
  ·array_get_dec
   refine ⟨(Di L.length).map (AI L face vs nums),by rw[Ce]; rfl,?_⟩
   rw[Om]
   array_get_dec
   rw[n9] at hR2
   exact hR2
end
def Jz(P:List (List Int))(f g:List Int->Int)(w:List Int)(v:Int):Int:=Oh ((P.filter λu=>decide (f u=v) && mM w u).map λu=>g u+1)
def iA(L:List (List Int))(f:List Int->Int)(vs:Int)(g:List Int->Int)(P:List (List Int)):Prop:=∀w∈P,∀x:Int,x<=g w↔∀v:Int,0<=v->v<vs->v≠f w->x<=Jz L f g w v
def wQ(L:List (List Int))(f:List Int->Int)(vs:Int)(g:List Int->Int):Prop:=iA L f vs g L
def sD:PF:=λds R=>∃(h:Int) (L:List (List Int)) (f:List Int->Int) (vs:Int),ds=[.list (L.map Ck),.list ((L.map f).map Ai),.int vs]/\0<=h/\h<=10/\L.Perm (Eb h.toNat)/\2<=vs/\vs<=16/\∀g:List Int->Int,wQ L f vs g->R (.list ((L.map g).map Ai))
theorem o8(h:∀x,x∈l↔x∈m):Oh l=Oh m:=by
 have key:∀{l m:List Int},(∀x∈l,x∈m)->Oh l<=Oh m:=λ{l m} h=>by
  by_cases z:0<Oh l
  ·obtain ⟨y,hy,e⟩:=(Pa z (l:=l)).mp (Lq _)
   exact (Pa z).mpr ⟨y,h y hy,e⟩
  ·have:=Vg m
   omega
 exact Int.le_antisymm (key λx hx=>(h x).mp hx) (key λx hx=>(h x).mpr hx)
theorem fG(x:Int):∀l:List Int,Oh (l++[x])=max (Oh l) x
 | []=>by show max x 0=max 0 x; omega
 | a::l=>by
  show max a (Oh (l++[x]))=max (max a (Oh l)) x
  rw[fG x l]
  omega
theorem bM(P:List (List Int))(f g:List Int->Int)(w u:List Int)(v:Int):Jz (P++[u]) f g w v=if f u=v/\mM w u=true then max (Jz P f g w v) (g u+1) else Jz P f g w v:=by
 unfold Jz
 rw[He,Be]
 by_cases q:f u=v/\mM w u=true
 ·rw[if_pos q,List.filter_cons_of_pos (by simp [q.1,q.2])]
  exact fG _ _
 ·rw[if_neg q,List.filter_cons_of_neg (by simpa using q),List.filter_nil,Kh,Ea]
theorem AE:mM w u=true↔∀i∈w,i∈u:=by
 unfold mM
 rw[Dh]
 simp
theorem fW(hw:Lk n w)(hu:Lk n u)(hi:mM w u=true)(ne:w≠u):w.length<u.length:=by
 rw[AE] at hi
 obtain ⟨y,hy,hn⟩ : ∃y∈u,y∉w:=Fn λz=>ne (tZ hw hu λi=>⟨hi i,λq=>Fn λr=>z ⟨i,q,r⟩⟩)
 have:=NdS.len_leI (l2:=u.erase y) (oB hw) λe he=>(List.mem_erase_of_ne (show e≠y from λq=>hn (by rw[<- q]; exact he))).mpr (hi e he)
 rw[mI hy] at this
 have:=pM hy
 omega
theorem Lz(k:Int)(e:Ac)(ks:List (Int×Ac))(v:Int):Pg ((k,e)::ks) v=if k=v then some e else Pg ks v:=by
 unfold Pg
 by_cases h:k=v
 ·rw[List.find?_cons_of_pos (by simpa using h),if_pos h]; rfl
 ·rw[List.find?_cons_of_neg (by simpa using h),if_neg h]
theorem dQ:∀{ks:List (Int×Ac)},¬ (ks.any λp=>decide (p.1=w))=true->v=w->Pg ks v=none
 | [],_,_=>rfl
 | (k,e)::ks,h,hv=>by
  rw[Jc,Bool.or_eq_true] at h
  have h1:¬ k=w:=λz=>h (.inl (by simpa using z))
  rw[Lz,if_neg (by rw[hv]; exact h1)]
  exact dQ (λz=>h (.inr z)) hv
theorem kF:∀(ks:List (Int×Ac)),Pg (ks.map λp=>if p.1=w then (p.1,d) else p) v=if v=w/\(ks.any λp=>decide (p.1=w))=true then some d else Pg ks v
 | []=>by simp [Pg]
 | (k,e)::ks=>by
  rw[Aw,Lz k e,Jc]
  have ih:=kF (w:=w) (d:=d) (v:=v) ks
  by_cases hk:k=w
  ·subst hk
   rw[if_pos rfl,Lz,ih]
   by_cases hv:v=k
   ·subst hv; simp
   ·have : ¬ k=v:=λz=>hv z.symm
    simp [hv,this]
  ·rw[if_neg hk,Lz,ih]
   by_cases hv:v=w
   ·subst hv
    rw[if_neg hk,show decide (k=v)=false by simpa using hk,Bool.false_or,if_neg hk]
   ·simp [hv]
theorem eQ:∀(ks:List (Int×Ac)),Pg (ks++[(w,d)]) v=match Pg ks v with | some e=>some e | none=>if w=v then some d else none
 | []=>by rw[List.nil_append,Lz]; rfl
 | (k,e)::ks=>by
  rw[Fd,Lz,Lz,eQ ks]
  by_cases hk:k=v
  ·rw[if_pos hk,if_pos hk]
  ·rw[if_neg hk,if_neg hk]
theorem vY(ks:List (Int×Ac))(w:Int)(d:Ac)(v:Int):Pg (kC ks w d) v=if v=w then some d else Pg ks v:=by
 unfold kC
 split
 ·rename_i h
  rw[kF,h]
  simp
 ·rename_i h
  rw[eQ]
  by_cases hv:v=w
  ·rw[dQ h hv,if_pos hv,if_pos hv.symm]
  ·rw[if_neg hv,if_neg (λz=>hv z.symm)]
   cases Pg ks v <;> rfl
theorem n8(ks:List (Int×Ac))(w:Int)(d:Ac):(kC ks w d).length<=ks.length+1:=by
 unfold kC
 split
 ·rw[Ad]; omega
 ·rw[Bo]; exact Ak _
def iD(g:List Int->Int)(w:List Int)(X:Int)(u:List Int):Int:=if u=w then X else g u
theorem iJ:iD g w X w=X:=if_pos rfl
theorem Sr(h:u≠w):iD g w X u=g u:=if_neg h
theorem nM{L M:List (List Int)}{vs X:Int}(hm:∀u,u∈M↔u∈L)(nd:M.Nodup)(hr:∀u∈L,Lk n u)(hs:M.Pairwise λx y=>y.length<=x.length)(hw:M[i]? = some w)(ho:iA L f vs g (M.take i))(hX:∀x:Int,x<=X↔∀v:Int,0<=v->v<vs->v≠f w->x<=Jz (M.take i) f g w v):iA L f vs (iD g w X) (M.take (i+1)):=by
 have hi:=(Ap.mp hw).1
 have wL:=(hm w).mp (Ax hw)
 have ahead:∀u∈L,w.length<u.length->u∈M.take i:=λu hu hl=>by
  obtain ⟨j,hj⟩:=Fw.mp ((hm u).mpr hu)
  have hj':=(Ap.mp hj).1
  by_cases q:j<i
  ·exact Ax (i:=j) (by rw[Ej q]; exact hj)
  ·exfalso
   by_cases z:j=i
   ·subst z; rw[hw] at hj; cases hj; omega
   ·have:=Ew.mp hs i j hi hj' (by omega)
    rw[Ba hi] at hw
    rw[Ba hj'] at hj
    cases hw
    cases hj
    omega
 have Xo:∀u∈M.take i,w.length<=u.length/\u≠w:=λu hu=>by
  obtain ⟨j,hj⟩:=Fw.mp hu
  have q:j<i:=by
   have:=(Ap.mp hj).1
   rw[Cw] at this
   omega
  rw[Ej q] at hj
  have hj':=(Ap.mp hj).1
  rw[Ba hi] at hw
  rw[Ba hj'] at hj
  cases hw
  cases hj
  refine ⟨Ew.mp hs j i hj' hi q,λz=>?_⟩
  have q3:=Ew.mp nd j i hj' hi q
  exact q3 z
 intro u hu x
 rw[Jt,hw] at hu
 have hu:u∈M.take i++[w]:=hu
 rcases Ay.mp hu with hu | hu
 ·obtain ⟨b1,b2⟩:=Xo u hu
  have uL:=(hm u).mp (cK _ _ hu)
  have same:∀v,Jz L f (iD g w X) u v=Jz L f g u v:=λv=>by
   unfold Jz
   congr 1
   refine Fp λc hc=>?_
   obtain ⟨c1,c2⟩:=Cn.mp hc
   rw[Dk] at c2
   have : c≠w:=λz=>by
    subst z
    have:=fW (hr u uL) (hr c c1) c2.2 b2
    omega
   rw[Sr this]
  rw[Sr b2]
  simp only[same]
  exact ho u hu x
 ·rw[Af.mp hu,iJ,hX x]
  refine forall_congr' λv=>forall_congr' λq1=>forall_congr' λq2=>forall_congr' λq3=>?_
  have : Jz (M.take i) f g w v=Jz L f (iD g w X) w v:=by
   unfold Jz
   refine o8 λy=>?_
   constructor
   ·intro hy
    obtain ⟨c,hc,rfl⟩:=Bt.mp hy
    obtain ⟨c1,c2⟩:=Cn.mp hc
    exact Bt.mpr ⟨c,Cn.mpr ⟨(hm c).mp (cK _ _ c1),c2⟩,by rw[Sr (Xo c c1).2]⟩
   ·intro hy
    obtain ⟨c,hc,rfl⟩:=Bt.mp hy
    obtain ⟨c1,c2⟩:=Cn.mp hc
    have c3:=c2
    rw[Dk,decide_eq_true_eq] at c3
    have ne:c≠w:=λz=>q3 (by rw[<- c3.1,z])
    have:=fW (hr w wL) (hr c c1) c3.2 ne.symm
    exact Bt.mpr ⟨c,Cn.mpr ⟨ahead c c1 this,c2⟩,by rw[Sr ne]⟩
  rw[this]
theorem F8:gM .un=true:=rfl
theorem J9:gM (.dat .sh d)=oE d:=rfl
theorem J4:gM (.dat .ow d)=true:=rfl
theorem J3:oE (.int i)=true:=rfl
theorem Vz{α:Type}{f:α->Ac}(h:∀a,oE (f a)=true):∀l:List α,nY (l.map f)=true
 | []=>rfl
 | a::l=>by show (oE (f a) && nY (l.map f))=true; rw[h a,Vz h l]; rfl
theorem rQ(w:List Int):oE (Ck w)=true:=Vz (λ_=>rfl) w
theorem Z3(l:List (List Int)):oE (.list (l.map Ck))=true:=Vz rQ l
theorem U4(l:List Int):oE (.list (l.map Ai))=true:=Vz (λ_=>rfl) l
theorem sP(L:List (List Int))(g:List Int->Int):(Ra L g).map (λp=>Ck p.1)=L.map Ck:=by
 unfold Ra
 rw[Ce]
 rfl
theorem yK(h:w∉P):Ru (Ra P g) w (.int X)=Ra (P++[w]) (iD g w X):=by
 unfold Ru
 rw[if_neg]
 ·unfold Ra
  rw[Be,Aw,Kh,iJ]
  congr 1
  refine Fp λu hu=>?_
  rw[Sr (show u≠w from λz=>h (by rw[<- z]; exact hu))]
 ·intro z
  obtain ⟨p,hp,e⟩:=List.any_eq_true.mp z
  obtain ⟨u,hu,rfl⟩:=Bt.mp hp
  have q:u=w:=by simpa using e
  exact h (by rw[<- q]; exact hu)
theorem V2(a b:Int):(if a > b then a else b)=max b a:=by
 by_cases h:a > b
 ·rw[if_pos h]; omega
 ·rw[if_neg h]; omega
section
variable{P:Bq}{w:World}{K:PySem.W.Frag}{mg:Str->Option Value}{base:Heap}
theorem cR:FnScope ["_law_words_here", "_law_face", "_law_values_here", "_law_shown", "_law_known", "_law_word", "_law_best", "_law_other"] ["_law_words_here", "_law_face", "_law_values_here"] (Bl Li):=⟨rfl,rfl,rfl,by decide +kernel,rfl,by decide +kernel,by decide +kernel⟩
theorem dI(F:Fun K "_law_often" "_law_often" Li f fd)(G_L_lies:FnOk P w K mg base Ge 1 f_L_lies d_L_lies ["_law_one", "_law_other"] (Sn K (jD)))(b_L_lies:Binds K d_L_lies ["_law_one", "_law_other"] [])(k_L_lies:PySem.W.keepIn K (.ref f_L_lies)=true)(m_L_lies:mg "_law_lies" = some (.ref f_L_lies))(mz_dict:mg "dict" = none)(mz_zip:mg "zip" = none)(mz_sorted:mg "sorted" = none)(mz_len:mg "len" = none)(mz_max:mg "max" = none)(mz_range:mg "range" = none)(mz_min:mg "min" = none):FnOk P w K mg base Ge 2 f fd ["_law_words_here", "_law_face", "_law_values_here"] (Sn K (sD)):=by
 refine' Kk (k:=1) F cR (λcdv A outer s H E hr=>?hb) ?h
 case hb =>
  have hr1:Room 1 _:=hr.mono (by decide)
  have hu64:=hr.units
  have CS1:∀{scope:Scope} (h:scope={ kind:=.function,names:=[(".0",.local),("_law_value",.local),("_law_best",.free),("_law_shown",.free),("_law_word",.free)],isGenerator:=false,isCoroutine:=false }),
    CompScope (Ie Ge P w K mg base ["_law_words_here", "_law_face", "_law_values_here", "_law_shown", "_law_known", "_law_word", "_law_best", "_law_other"] "_law_often" (Bl Li) f cdv A outer s H E).nox scope [("_law_word",s.heap.objs.size+3),("_law_shown",s.heap.objs.size+1),("_law_best",s.heap.objs.size+4)] "_law_value" ["_law_best", "_law_shown", "_law_word"] [6,3,5]:=by
   rintro scope rfl
   refine ⟨by rfl,.inl (by decide +kernel),by rfl,by decide +kernel,.inl rfl,λy c h=>?_,by rfl,by decide +kernel,rfl,λk y j e1 e2=>?_⟩
   ·have z:=Do h
    simp only[Ag,Av,or_false,Dm] at z
    rcases z with ⟨rfl,rfl⟩ | ⟨rfl,rfl⟩ | ⟨rfl,rfl⟩ <;> rfl
   ·match k,e1,e2 with
    | 0,e1,e2=>cases e1; cases e2; exact ⟨rfl,rfl,by first | exact .inl rfl | exact .inr rfl⟩
    | 1,e1,e2=>cases e1; cases e2; exact ⟨rfl,rfl,by first | exact .inl rfl | exact .inr rfl⟩
    | 2,e1,e2=>cases e1; cases e2; exact ⟨rfl,rfl,by first | exact .inl rfl | exact .inr rfl⟩
    | k+3,e1,e2=>cases e1
  have CS2:∀{scope:Scope} (h:scope={ kind:=.function,names:=[(".0",.local),("_law_word",.local),("_law_known",.free)],isGenerator:=false,isCoroutine:=false }),
    CompScope (Ie Ge P w K mg base ["_law_words_here", "_law_face", "_law_values_here", "_law_shown", "_law_known", "_law_word", "_law_best", "_law_other"] "_law_often" (Bl Li) f cdv A outer s H E).nox scope [("_law_known",s.heap.objs.size+2)] "_law_word" ["_law_known"] [4]:=by
   rintro scope rfl
   refine ⟨by rfl,.inl (by decide +kernel),by rfl,by decide +kernel,.inl rfl,λy c h=>?_,by rfl,by decide +kernel,rfl,λk y j e1 e2=>?_⟩
   ·have z:=Do h
    simp only[Ag,Av,or_false,Dm] at z
    obtain ⟨rfl,rfl⟩:=z; rfl
   ·match k,e1,e2 with
    | 0,e1,e2=>cases e1; cases e2; exact ⟨rfl,rfl,by first | exact .inl rfl | exact .inr rfl⟩
    | k+1,e1,e2=>cases e1
  exact Cy (Qt (i:=3) cR.nd rfl (Ol rfl) (wN hu64 rfl mz_dict rfl mz_zip rfl (Ao (Aq (pv 0)) (Ao (Aq (pv 1)) Bi))))
   (Cy (Qt (i:=4) cR.nd rfl (Ol rfl) J0)
   (Cy (Rg Ey rfl (fE (C3 (yP rfl mz_sorted rfl mz_len (Ao (Aq (pv 0)) Bi)) (N4 xP Fb) (λ_ _ _ h=>⟨_,rfl,h⟩))) (Mh (i:=5) cR.nd rfl (Ol rfl))
   (Cy (Qt (i:=6) cR.nd rfl (Ol rfl) E2)
    (Cy (G8 Ey rfl (pv 4) (Mh (i:=7) cR.nd rfl (Ei rfl))
    (En (Yd (Pk (Ig G_L_lies hr1 rfl m_L_lies k_L_lies b_L_lies Gx (Ao (Aq (pv 5)) (Ao (Aq (pv 7)) Bi))))
     (En (C1 hu64 (pv 6) (Zf hu64 (Aq (pv 3)) (Aq (pv 7))) (Dj (Sy rfl) Zm rfl mz_max (by decide +kernel) (Ao (rT hu64 (Aq (pv 6)) (Zf hu64 (Aq (pv 3)) (Aq (pv 7))) Cu ⟨rfl,rfl,rfl,rfl⟩) (Ao (Nt (xZ hu64 (Aq (pv 4)) (Aq (pv 7))) Cu) Bi))))) Rm)))
    (En (M4 hu64 (pv 4) (Aq (pv 5)) (Dj (dX rfl) rZ rfl mz_min (by decide +kernel) (Ao (Hi (CS1 rfl) rfl (Nr rfl mz_range (Ao (Aq (pv 2)) Bi)) (λ_ _ _=>Oq (Yh hu64 (Aq (pv 0)) (Zf hu64 (Aq (pv 2)) (Aq (pv 3))))) (λ_ _ _=>rT hu64 (Aq (pv 1)) (Aq (pv 0)) Cu ⟨rfl,rfl,rfl,rfl⟩)) Bi)))))))
   (En (Gn (Hi (CS2 rfl) rfl (fE (Aq (pv 0))) (λ_ _ _=>Gd) (λ_ _ _=>Zf hu64 (Aq (pv 1)) (Aq (pv 0))))))))
 case h =>
  (intro ds R q_; obtain ⟨h,L,f,vs,rfl,h0,h1,hp,v0,v1,hR⟩ := q_)
  refine ⟨rfl,?_⟩
  obtain ⟨l1,l2⟩:=Sw (n:=h.toNat) (by omega) hp
  have nd:=Xz hp
  have hz:Au=16777216:=Jn
  array_get_dec
  refine ⟨by rw[Ad]; omega,L,rfl,?_⟩
  rw[wG nd f]
  array_get_dec
  refine ⟨L,rfl,by omega,λM0 hM hs=>?_⟩
  have hM':M0.reverse.Perm L:=(Ho M0).trans hM
  have hs':M0.reverse.Pairwise λx y=>y.length<=x.length:=Mp.mpr hs
  rw[<- List.map_reverse]
  generalize M0.reverse=M at hM' hs'
  have ndM:M.Nodup:=hM'.nodup_iff.mpr nd
  have lM:=hM'.length_eq
  refine mF (l:=M) (g:=Ck) rfl (λi δ=>∃(g:List Int->Int) (v5 v6 v7:DV),δ=⟨[.dat .sh (.list (L.map Ck)),.dat .sh (.list ((L.map f).map Ai)),.dat .sh (.int vs),.dat .ow (.dict (Qi (Ra L f))),.dat .ow (.dict (Qi (Ra (M.take i) g))),v5,v6,v7],0⟩/\NP v5/\NP v6/\NP v7/\gM v7=true/\iA L f vs g (M.take i)) ?_ ?_ ?_
  ·exact ⟨λ_=>0,_,_,_,rfl,Ov,Ov,Ov,rfl,λ_ z=>nomatch z⟩
  ·(intro i w _ hw q_; obtain ⟨g,v5,v6,v7,rfl,hv5,hv6,hv7,ok7,ho⟩ := q_)
   have wL:=hM'.mem_iff.mp (Ax hw)
   have hi:=(Ap.mp hw).1
   array_get_dec
   have lP:(Ra (M.take i) g).length=i:=by simp only[Ra,Ad,Cw]; omega
   refine ⟨_,rfl,by omega,λa=>?_⟩
   refine ⟨λj δ=>∃(bs:List (Int×Ac)) (v7:DV),δ=⟨[.dat .sh (.list (L.map Ck)),.dat .sh (.list ((L.map f).map Ai)),.dat .sh (.int vs),.dat .ow (.dict (Qi (Ra L f))),.dat .sh (.dict (Vn a (Ra (M.take i) g))),.dat .sh (Ck w),.dat .ow (.dict (Yv bs)),v7],0⟩/\NP v7/\gM v7=true/\bs.length<=j/\∀v,(Pg bs v).getD (.int 0)=.int (Jz ((M.take i).take j) f g w v),⟨[],v7,rfl,hv7,ok7,Dg _,λv=>rfl⟩,?_,?_⟩
   ·(intro j d _ hd q_; obtain ⟨bs,u7,rfl,hu7,ok,lb,hb⟩ := q_)
    rw[sP,Bf] at hd
    cases hu:(M.take i)[j]? with
    | none=>rw[hu] at hd; cases hd
    | some u =>
    rw[hu] at hd
    cases hd
    have uP:=Ax hu
    have uL:=hM'.mem_iff.mp (cK _ _ uP)
    have hj:j<1024:=by
     have:=(Ap.mp hu).1
     rw[Cw] at this
     omega
    have tk:(M.take i).take (j+1)=(M.take i).take j++[u]:=by rw[Jt,hu]; rfl
    array_get_dec
    refine ⟨w,u,rfl,?_⟩
    refine Zx (λhin=>?_) (λhin=>?_)
    ·array_get_dec
     refine ⟨_,Ss uL,?_⟩
     array_get_dec
     rw[hb]
     array_get_dec
     refine ⟨_,Ss uP,?_⟩
     array_get_dec
     refine ⟨_,Ss uL,?_⟩
     array_get_dec
     refine ⟨by omega,_,_,rfl,Gr,rQ u,Bz (n8 _ _ _) (by omega),λv=>?_⟩
     rw[vY,tk,bM]
     by_cases q:v=f u
     ·subst q
      rw[if_pos (show f u=f u from rfl),if_pos (show f u=f u/\mM w u=true from ⟨rfl,hin⟩)]
      rw[Option.getD_some,V2]
     ·rw[if_neg q,if_neg (λz=>q z.1.symm)]
      exact hb v
    ·array_get_dec
     refine ⟨bs,_,rfl,Gr,rQ u,by omega,λv=>?_⟩
     rw[tk,bM,if_neg (λz=>by rw[z.2] at hin; cases hin)]
     exact hb v
   ·(intro _ q_; obtain ⟨bs,u7,rfl,hu7,ok,lb,hb⟩ := q_)
    rw[lP] at hb
    refine ⟨rfl,?_,?_⟩
    ·simp only[Pn,List.set_cons_zero,Wm,List.all_nil,F8,J9,J4,Z3,U4,rQ,J3,ok,Bool.and_self]
    rw[show (M.take i).take i=M.take i by rw[List.take_take,Nat.min_self]] at hb
    array_get_dec
    refine ⟨by omega,by omega,?_⟩
    refine bP (l:=Di vs.toNat) (g:=λi:Nat=>.int i) rfl (λk:Nat=>decide ((k:Int)≠f w)) (λk=>.int (Jz (M.take i) f g w k)) (λk _ yes no hy hn=>?_) ?_
    ·array_get_dec
     refine ⟨_,Ss wL,?_⟩
     array_get_dec
     refine Os (λq=>?_) (λq=>?_)
     ·array_get_dec
      rw[hb]
      array_get_dec
      exact hy (by simpa using q)
     ·exact hn (by simpa using q)
    array_get_dec
    have mem:∀b:Int,b∈((Di vs.toNat).filter λk:Nat=>decide ((k:Int)≠f w)).map (λk:Nat=>Jz (M.take i) f g w k)↔∃v:Int,0<=v/\v<vs/\v≠f w/\b=Jz (M.take i) f g w v:=λb=>by
     constructor
     ·intro q
      obtain ⟨k,hk,rfl⟩:=Bt.mp q
      obtain ⟨q1,q2⟩:=Cn.mp hk
      have:=Ke.mp q1
      exact ⟨k,by omega,by omega,by simpa using q2,rfl⟩
     ·(intro q_; obtain ⟨v,q1,q2,q3,rfl⟩ := q_)
      refine Bt.mpr ⟨v.toNat,Cn.mpr ⟨Ke.mpr (by omega),?_⟩,by rw[On q1]⟩
      rw[On q1]
      simpa using q3
    refine ⟨((Di vs.toNat).filter λk:Nat=>decide ((k:Int)≠f w)).map (λk:Nat=>Jz (M.take i) f g w k),by rw[Ce]; rfl,λz=>?_,λX hX hle=>?_⟩
    ·have q1:=(mem (Jz (M.take i) f g w 0)).mpr
     have q2:=(mem (Jz (M.take i) f g w 1)).mpr
     rw[z] at q1 q2
     by_cases q:f w=0
     ·exact absurd (q2 ⟨1,by omega,by omega,by omega,rfl⟩) Av
     ·exact absurd (q1 ⟨0,by omega,by omega,by omega,rfl⟩) Av
    array_get_dec
    have nw:w∉M.take i:=λz=>by
     obtain ⟨j,hj⟩:=Fw.mp z
     have hj1:j<i:=by
      have:=(Ap.mp hj).1
      rw[Cw] at this
      omega
     rw[Ej hj1] at hj
     have hj2:=(Ap.mp hj).1
     have:=Ew.mp ndM j i hj2 hi hj1
     rw[Ba hj2] at hj
     rw[Ba hi] at hw
     exact this (Bn (hj.trans hw.symm))
    rw[lP]
    have e9:Ru (Ra (M.take i) g) w (.int X)=Ra (M.take (i+1)) (iD g w X):=by
     rw[yK nw,Jt,hw]
     rfl
    rw[e9]
    refine ⟨by simp [npk,hu7 _],by omega,iD g w X,_,_,_,rfl,Gr,O8,hu7,ok,?_⟩
    ·refine nM (λu=>hM'.mem_iff) ndM (λu hu=>(l2 u hu).1) hs' hw ho λx=>⟨λq v q1 q2 q3=>?_,λq=>?_⟩
     ·have:=hle _ ((mem _).mpr ⟨v,q1,q2,q3,rfl⟩)
      omega
     ·obtain ⟨v,q1,q2,q3,rfl⟩:=(mem X).mp hX
      exact q v q1 q2 q3
  ·(intro _ q_; obtain ⟨g,v5,v6,v7,rfl,hv5,hv6,hv7,ok7,ho⟩ := q_)
   rw[Ga] at ho
   array_get_dec
   rw[Ga]
   refine Qd (l:=L) (g:=Ck) rfl (λw=>.int (g w)) (λw hw yes no hy=>?_) ?_
   ·array_get_dec
    refine ⟨_,Ss (hM'.mem_iff.mpr hw),?_⟩
    array_get_dec
    exact hy
   ·array_get_dec
    have:=hR g λw hw=>ho w (hM'.mem_iff.mpr hw)
    rw[Ce] at this
    exact this
end
theorem V9:Mr .none "bool" = false:=by simp [Mr,gW]
theorem U2:Mr .none "int" = false:=by simp [Mr,gW]
def Mi(ws:List (List Int))(w:List Int):List Int:=(ws.zipIdx.filter λp=>mM w p.1).map λp=>(p.2:Int)
def kJ:PF:=λds R=>∃L:List (List Int),ds=[.list (L.map Ck)]/\L.length<=1024/\R (.list (L.map λw=>.list ((Mi L w).map Ai)))
def wB:PF:=λds R=>∃(d:Ac) (os:List Ac),ds=[.list os,d]/\BB d/\R (.bool (Sb d os.length))
section
variable{P:Bq}{w:World}{K:PySem.W.Frag}{mg:Str->Option Value}{base:Heap}
theorem To:FnScope ["_law_words_here", "_law_thing"] ["_law_words_here", "_law_thing"] (Bl Ic):=⟨rfl,rfl,rfl,by decide +kernel,rfl,by decide +kernel,by decide +kernel⟩
theorem Tq(F:Fun K "_law_are_numbers" "_law_are_numbers" Ic f fd)(mz_len:mg "len" = none)(mz_list:mg "list" = none)(mz_isinstance:mg "isinstance" = none)(mz_int:mg "int" = none)(mz_bool:mg "bool" = none):FnOk P w K mg base Ge 1 f fd ["_law_words_here", "_law_thing"] (Sn K (wB)):=by
 refine' Kk (k:=0) F To (λcdv A outer s H E hr=>?hb) ?h
 case hb =>
  have hu64:=hr.units
  have CS1:∀{scope:Scope} (h:scope={ kind:=.function,names:=[(".0",.local),("_law_one",.local),("isinstance",.globalImplicit),("bool",.globalImplicit),("int",.globalImplicit)],isGenerator:=false,isCoroutine:=false }),
    CompScope (Ie Ge P w K mg base ["_law_words_here", "_law_thing"] "_law_are_numbers" (Bl Ic) f cdv A outer s H E).nox scope [] "_law_one" [] []:=by
   rintro scope rfl
   exact Nd.compScope0 (by rfl) (by decide +kernel) (by rfl) (by decide +kernel) (by rfl) (by rfl)
  exact Cy (Yd (uF (bJ (Xl (Pk (Dj Ut Uk rfl mz_isinstance (by decide +kernel) (Ao (Aq (pv 1)) (Ao (bI (n := "list") rfl mz_list (by decide +kernel)) Bi))))) (gJ (Yh hu64 (Dj Il Mt rfl mz_len (by decide +kernel) (Ao (Aq (pv 1)) Bi)) (Dj Il Mt rfl mz_len (by decide +kernel) (Ao (Aq (pv 0)) Bi))))))
   (En (Gn Yc)) Rm)
   (En (Gn (kY hu64 (Hi (CS1 rfl) rfl (fE (Aq (pv 1))) (λ_ _ _=>Oq (uF (bJ (Pk (Dj Ut Uk rfl mz_isinstance (by decide +kernel) (Ao (Aq (pv 0)) (Ao (bI (n := "bool") rfl mz_bool (by decide +kernel)) Bi)))) (bJ (Xl (Pk (Dj Ut Uk rfl mz_isinstance (by decide +kernel) (Ao (Aq (pv 0)) (Ao (bI (n := "int") rfl mz_int (by decide +kernel)) Bi))))) (gJ (DM (Aq (pv 0)) Cu)))))) (λ_ _ _=>Aq (pv 0))) (Ha Bi))))
 case h =>
  (intro ds R q_; obtain ⟨d,os,rfl,hd,hR⟩ := q_)
  refine ⟨rfl,?_⟩
  array_get_dec
  refine P6 (λh=>?_) (λh=>?_)
  ·rw[mD (by simpa using h)] at hR
   array_get_dec
   exact hR
  obtain ⟨ds,rfl⟩:=rK (d:=d) (by simpa using h)
  have ha:ds.all jI=true:=by
   rcases hd with ⟨ds',e,h⟩ | h
   ·cases e; exact h
   ·cases h
  have hi:=gN ha
  array_get_dec
  refine Zx (λh1=>?_) (λh1=>?_)
  ·array_get_dec
   have : Sb (.list ds) os.length=false:=by
    show (decide ((ds.length:Int)=os.length) && ds.all Kr)=false
    rw[show decide ((ds.length:Int)=os.length)=false by simpa using h1]
    rfl
   rw[this] at hR
   exact hR
  ·have e:Sb (.list ds) os.length=ds.all Kr:=by
    show (decide ((ds.length:Int)=os.length) && ds.all Kr)=_
    rw[show decide ((ds.length:Int)=os.length)=true by simpa using h1]
    rfl
   rw[e] at hR
   array_get_dec
   refine bP (l:=ds) (g:=λd=>d) (by simp) (λd=>!Kr d) (λd=>d) (λd hm yes no hy hn=>?_) ?_
   ·have at_:=Dh.mp ha d hm
    cases d with
    | int i =>
     array_get_dec
     refine Os (λh=>?_) (λh=>?_)
     ·array_get_dec
      exact hy (by simp only[Kr,decide_eq_true_eq] at h ⊢; simpa using h)
     ·exact hn (by simp only[Kr] at h ⊢; simpa using h)
    | none =>
     array_get_dec
     rw[V9]
     array_get_dec
     rw[U2]
     array_get_dec
     exact hy rfl
    | bool b =>
     array_get_dec
     exact hy rfl
    | str x =>
     array_get_dec
     exact hy rfl
    | _=>cases at_
   ·array_get_dec
    rw[List.map_id']
    refine ⟨?_,?_⟩
    ·have : (ds.filter λd=>!Kr d).all jI=true:=Dh.mpr λd hd=>Dh.mp ha d (Cn.mp hd).1
     have:=Sx this
     simp only[Cj,this]
     omega
    ·rw[show (ds.filter λd=>!Kr d).isEmpty=ds.all Kr from ?_]
     ·exact hR
     ·rw[Tj,cN,Sf,Dh]
      simp
theorem bW:FnScope ["_law_words_here"] ["_law_words_here"] (Bl Kf):=⟨rfl,rfl,rfl,by decide +kernel,rfl,by decide +kernel,by decide +kernel⟩
theorem cD(F:Fun K "_law_beyond" "_law_beyond" Kf f fd)(G_L_lies:FnOk P w K mg base Ge 1 f_L_lies d_L_lies ["_law_one", "_law_other"] (Sn K (jD)))(b_L_lies:Binds K d_L_lies ["_law_one", "_law_other"] [])(k_L_lies:PySem.W.keepIn K (.ref f_L_lies)=true)(m_L_lies:mg "_law_lies" = some (.ref f_L_lies))(mz_enumerate:mg "enumerate" = none):FnOk P w K mg base Ge 2 f fd ["_law_words_here"] (FB K (kJ)):=by
 refine' t8 (k:=1) F bW (λcdv A outer s H E hr=>?hb) ?h
 case hb =>
  have hr1:Room 1 _:=hr.mono (by decide)
  have hu64:=hr.units
  have CS1:∀{scope:Scope} (h:scope={ kind:=.function,names:=[(".0",.local),("_law_word",.cell),("enumerate",.globalImplicit),("_law_words_here",.free)],isGenerator:=false,isCoroutine:=false }),
    CompScope (Ie Ge P w K mg base ["_law_words_here"] "_law_beyond" (Bl Kf) f cdv A outer s H E).nox scope [("_law_words_here",s.heap.objs.size+1)] "_law_word" ["_law_words_here"] [0]:=by
   rintro scope rfl
   refine ⟨by rfl,.inr ⟨"_law_word",λ_=>rfl,rfl,by decide +kernel⟩,by rfl,by decide +kernel,.inr rfl,λy c h=>?_,by rfl,by decide +kernel,rfl,λk y j e1 e2=>?_⟩
   ·have z:=Do h
    simp only[Ag,Av,or_false,Dm] at z
    obtain ⟨rfl,rfl⟩:=z; rfl
   ·match k,e1,e2 with
    | 0,e1,e2=>cases e1; cases e2; exact ⟨rfl,rfl,by first | exact .inl rfl | exact .inr rfl⟩
    | k+1,e1,e2=>cases e1
  have CS2:∀{scope:Scope} (h:scope={ kind:=.function,names:=[(".0",.local),("_law_j",.local),("_law_other",.local),("_law_lies",.globalImplicit),("_law_word",.free)],isGenerator:=false,isCoroutine:=false }) (fp0:List Addr) (s0:Aj) (H0:Hp),
    CompScope (El (Ie Ge P w K mg base ["_law_words_here"] "_law_beyond" (Bl Kf) f cdv A outer s H E).nox { kind:=.function,names:=[(".0",.local),("_law_word",.cell),("enumerate",.globalImplicit),("_law_words_here",.free)],isGenerator:=false,isCoroutine:=false } [("_law_words_here",s.heap.objs.size+1)] ["_law_word", "_law_words_here"] fp0 s0 H0) scope [("_law_word",s0.heap.objs.size+1)] "_law_j" ["_law_word"] [0]:=by
   rintro scope rfl fp0 s0 H0
   refine ⟨by rfl,.inl (by decide +kernel),by rfl,by decide +kernel,.inl rfl,λy c h=>?_,by rfl,by decide +kernel,rfl,λk y j e1 e2=>?_⟩
   ·have z:=Do h
    simp only[Ag,Av,or_false,Dm] at z
    obtain ⟨rfl,rfl⟩:=z; rfl
   ·match k,e1,e2 with
    | 0,e1,e2=>cases e1; cases e2; exact ⟨rfl,rfl,by first | exact .inl rfl | exact .inr rfl⟩
    | k+1,e1,e2=>cases e1
  exact En (Gn (o7 (CS1 rfl) rfl (fE (Aq (pv 0))) (λ_ _ _=>Gd) (λ_ _ _=>lZ (CS2 rfl _ _ _) (.inl rfl) (by decide +kernel) rfl (iN rfl mz_enumerate (Ao (Aq (pv 1)) Bi)) (λ_ _ _=>Oq (Pk (Ig G_L_lies hr1 rfl m_L_lies k_L_lies b_L_lies Gx (Ao (Aq (pv 2)) (Ao (Aq (pv 1)) Bi))))) (λ_ _ _=>Aq (pv 0)))))
 case h =>
  (intro ds R q_; obtain ⟨L,rfl,l1,hR⟩ := q_)
  refine ⟨rfl,?_⟩
  array_get_dec
  refine X5 (l:=L) (g:=Ck) rfl (λw=>.list ((Mi L w).map Ai)) (λw hw yes no hy=>?_) ?_
  ·array_get_dec
   refine zL (l:=L.zipIdx) (g1:=λp=>.int p.2) (g2:=λp=>Ck p.1) (by rw[rP,Ce]; rfl) (λp=>mM w p.1) (λp=>.int p.2) (λp hp yes no hy hn=>?_) ?_
   ·array_get_dec
    refine ⟨w,p.1,rfl,?_⟩
    refine Os (λh=>?_) (λh=>?_)
    ·array_get_dec
     exact hy h
    ·exact hn h
   ·array_get_dec
    unfold Mi at hy
    rw[Ce] at hy
    exact hy
  ·array_get_dec
   exact hR
end
def AK(L:List (List Int))(face nums w:List Int)(x v:Int):Prop:=∃(j:Nat) (u:List Int) (y:Int),L[j]? = some u/\mM w u=true/\face[j]? = some v/\nums[j]? = some y/\x<=y
def bG(L:List (List Int))(face:List Int)(vs:Int)(nums:List Int)(k:Nat):Prop:=∀(w:List Int) (f x:Int),L[k]? = some w->face[k]? = some f->nums[k]? = some x->∃v:Int,0<=v/\v<vs/\v≠f/\¬ AK L face nums w x v
noncomputable def pC(L:List (List Int))(face:List Int)(vs:Int)(nums:List Int):Bool:=@decide (∀k:Nat,bG L face vs nums k) (Hv _)
theorem S0{vs:Int}(h:∀k,k<L.length->bG L face vs nums k):pC L face vs nums=true:=by
 unfold pC
 exact @decide_eq_true _ (Hv _) λk w f x h1=>h k (Ap.mp h1).1 w f x h1
theorem V5{vs:Int}(h:¬ bG L face vs nums k):pC L face vs nums=false:=by
 unfold pC
 exact @decide_eq_false _ (Hv _) λz=>h (z k)
theorem EN:j∈Mi L w↔∃(n:Nat) (u:List Int),j=n/\L[n]? = some u/\mM w u=true:=by
 unfold Mi
 constructor
 ·intro h
  obtain ⟨p,hp,rfl⟩:=Bt.mp h
  obtain ⟨h1,h2⟩:=Cn.mp hp
  obtain ⟨k,hk⟩:=Fw.mp h1
  obtain ⟨ek,hp1,_,_⟩:=cB hk
  exact ⟨p.2,p.1,rfl,by rw[ek]; exact hp1,h2⟩
 ·(intro q_; obtain ⟨n,u,rfl,h1,h2⟩ := q_)
  exact Bt.mpr ⟨(u,n),Cn.mpr ⟨Zp.mpr h1,h2⟩,rfl⟩
theorem i4(L:List (List Int)):((L.map λw=>PyData.list ((Mi L w).map Ai)).zipIdx.map λp=>PyData.tuple [.int p.2,p.1])=L.zipIdx.map λp=>.tuple [.int p.2,.list ((Mi L p.1).map Ai)]:=by
 rw[List.zipIdx_map,Ce]
 rfl
def zN(l:List Int)(j:Int):Int:=(l[j.toNat]?).getD 0
theorem zF{l:List Int}{j:Int}(h0:0<=j)(h1:j<l.length):Tc (l.map Ai) j=some (.int (zN l j)):=by
 obtain ⟨a,e1,e2,_⟩:=Nx (l:=l) h0 h1
 rw[Sz,e2]
 unfold zN
 rw[e1]
 rfl
theorem qU{l:List Int}(h:j<l.length):l[j]? = some (zN l j):=by
 unfold zN
 rw[Gp,Ba h]
 rfl
def pP:PF:=λds R=>∃(L:List (List Int)) (face:List Int) (vs:Int) (d:Ac),ds=[.list (L.map λw=>.list ((Mi L w).map Ai)),.list (face.map Ai),.int vs,d]/\L.length=face.length/\L.length<=1024/\2<=vs/\vs<=16/\BB d /\
 (Sb d L.length=false->R (.bool false))/\∀nums:List Int,d=.list (nums.map Ai)->nums.length=L.length->(∀x∈nums,0<=x)->R (.bool (pC L face vs nums))
section
variable{P:Bq}{w:World}{K:PySem.W.Frag}{mg:Str->Option Value}{base:Heap}
theorem cY:FnScope ["_law_over", "_law_face", "_law_values_here", "_law_thing", "_law_k", "_law_some", "_law_barred", "_law_value", "_law_ends"] ["_law_over", "_law_face", "_law_values_here", "_law_thing"] (Bl Lf):=⟨rfl,rfl,rfl,by decide +kernel,rfl,by decide +kernel,by decide +kernel⟩
theorem cX(F:Fun K "_law_holds" "_law_holds" Lf f fd)(G_L_are_numbers:FnOk P w K mg base Ge 1 f_L_are_numbers d_L_are_numbers ["_law_words_here", "_law_thing"] (Sn K (wB)))(b_L_are_numbers:Binds K d_L_are_numbers ["_law_words_here", "_law_thing"] [])(k_L_are_numbers:PySem.W.keepIn K (.ref f_L_are_numbers)=true)(m_L_are_numbers:mg "_law_are_numbers" = some (.ref f_L_are_numbers))(mz_enumerate:mg "enumerate" = none)(mz_range:mg "range" = none):FnOk P w K mg base Ge 2 f fd ["_law_over", "_law_face", "_law_values_here", "_law_thing"] (Sn K (pP)):=by
 refine' Kk (k:=1) F cY (λcdv A outer s H E hr=>?hb) ?h
 case hb =>
  have hr1:Room 1 _:=hr.mono (by decide)
  have hu64:=hr.units
  have CS1:∀{scope:Scope} (h:scope={ kind:=.function,names:=[(".0",.local),("_law_j",.local),("_law_face",.free),("_law_value",.free)],isGenerator:=false,isCoroutine:=false }),
    CompScope (Ie Ge P w K mg base ["_law_over", "_law_face", "_law_values_here", "_law_thing", "_law_k", "_law_some", "_law_barred", "_law_value", "_law_ends"] "_law_holds" (Bl Lf) f cdv A outer s H E).nox scope [("_law_value",s.heap.objs.size+4),("_law_face",s.heap.objs.size+1)] "_law_j" ["_law_face", "_law_value"] [1,7]:=by
   rintro scope rfl
   refine ⟨by rfl,.inl (by decide +kernel),by rfl,by decide +kernel,.inl rfl,λy c h=>?_,by rfl,by decide +kernel,rfl,λk y j e1 e2=>?_⟩
   ·have z:=Do h
    simp only[Ag,Av,or_false,Dm] at z
    rcases z with ⟨rfl,rfl⟩ | ⟨rfl,rfl⟩ <;> rfl
   ·match k,e1,e2 with
    | 0,e1,e2=>cases e1; cases e2; exact ⟨rfl,rfl,by first | exact .inl rfl | exact .inr rfl⟩
    | 1,e1,e2=>cases e1; cases e2; exact ⟨rfl,rfl,by first | exact .inl rfl | exact .inr rfl⟩
    | k+2,e1,e2=>cases e1
  have CS2:∀{scope:Scope} (h:scope={ kind:=.function,names:=[(".0",.local),("_law_j",.local),("_law_k",.free),("_law_thing",.free)],isGenerator:=false,isCoroutine:=false }),
    CompScope (Ie Ge P w K mg base ["_law_over", "_law_face", "_law_values_here", "_law_thing", "_law_k", "_law_some", "_law_barred", "_law_value", "_law_ends"] "_law_holds" (Bl Lf) f cdv A outer s H E).nox scope [("_law_thing",s.heap.objs.size+2),("_law_k",s.heap.objs.size+3)] "_law_j" ["_law_k", "_law_thing"] [4,3]:=by
   rintro scope rfl
   refine ⟨by rfl,.inl (by decide +kernel),by rfl,by decide +kernel,.inl rfl,λy c h=>?_,by rfl,by decide +kernel,rfl,λk y j e1 e2=>?_⟩
   ·have z:=Do h
    simp only[Ag,Av,or_false,Dm] at z
    rcases z with ⟨rfl,rfl⟩ | ⟨rfl,rfl⟩ <;> rfl
   ·match k,e1,e2 with
    | 0,e1,e2=>cases e1; cases e2; exact ⟨rfl,rfl,by first | exact .inl rfl | exact .inr rfl⟩
    | 1,e1,e2=>cases e1; cases e2; exact ⟨rfl,rfl,by first | exact .inl rfl | exact .inr rfl⟩
    | k+2,e1,e2=>cases e1
  exact Cy (Yd (Xl (Pk (Ig G_L_are_numbers hr1 rfl m_L_are_numbers k_L_are_numbers b_L_are_numbers Gx (Ao (Aq (pv 0)) (Ao (Aq (pv 3)) Bi)))))
   (En (Gn Yc)) Rm)
   (Cy (Rg Ey rfl (iN rfl mz_enumerate (Ao (Aq (pv 0)) Bi)) (AC (n:=2) rfl (lG (Mh (i:=4) cY.nd rfl (Ol rfl)) (lG (Mh (i:=5) cY.nd rfl (Ei rfl)) A8)))
   (Cy (Qt (i:=6) cY.nd rfl (Ei rfl) (Ha Bi))
    (Cy (Rg Ey rfl (Nr rfl mz_range (Ao (Aq (pv 2)) Bi)) (Mh (i:=7) cY.nd rfl (Ol rfl))
    (Cy (rW (o:=false) (i0:=8) cY.nd rfl rfl (CS1 rfl) rfl (fE (Aq (pv 5))) (λ_ _ _=>Oq (rO hu64 (Ir (Aq (pv 1)) (Aq (pv 0))) (Aq (pv 2)))) (λ_ _ _=>Aq (pv 0)))
     (En (Yd (uF (vI (Yh hu64 (Aq (pv 7)) (Ir (Aq (pv 1)) (Aq (pv 4)))) (pY (rO hu64 (Hi (CS2 rfl) rfl (fE (Aq (pv 8))) (λ_ _ _=>Oq (EF (Ir (Aq (pv 2)) (Aq (pv 0))) (Ir (Aq (pv 2)) (Aq (pv 1))))) (λ_ _ _=>Aq (pv 0))) (Ha Bi)))))
     (En (eR (pv 6) (Aq (pv 7)))) Rm))))
    (En (Yd (rO hu64 (Aq (pv 6)) (Ha Bi))
    (En (Gn Yc)) Rm)))))
   (En (Gn Yc)))
 case h =>
  (intro ds R q_; obtain ⟨L,face,vs,d,rfl,lf,l1,v0,v1,hd,hR1,hR2⟩ := q_)
  refine ⟨rfl,?_⟩
  array_get_dec
  refine ⟨d,_,rfl,hd,?_⟩
  rw[Ad]
  refine Zx (λhb=>?_) (λhb=>?_)
  ·array_get_dec
   exact hR1 (by simpa using hb)
  obtain ⟨nums,rfl,ln,nn⟩:=kI (d:=d) (n:=L.length) (by simpa using hb)
  have ln:nums.length=L.length:=by omega
  have hR2:=hR2 nums rfl ln nn
  array_get_dec
  refine mF (l:=L.zipIdx) (g:=λp=>.tuple [.int p.2,.list ((Mi L p.1).map Ai)]) (i4 L) (λi δ=>∃v4 v5 v6 v7 v8:DV,δ=⟨[.dat .sh (.list (L.map λw=>.list ((Mi L w).map Ai))),.dat .sh (.list (face.map Ai)),.dat .sh (.int vs),.dat .sh (.list (nums.map Ai)),v4,v5,v6,v7,v8],0⟩/\NP v4/\NP v5/\NP v6/\NP v7/\NP v8/\∀k,k<i->bG L face vs nums k) ?_ ?_ ?_
  ·exact ⟨_,_,_,_,_,rfl,Ov,Ov,Ov,Ov,Ov,λk z=>absurd z (Tu k)⟩
  ·(intro i p _ hp q_; obtain ⟨v4,v5,v6,v7,v8,rfl,hv4,hv5,hv6,hv7,hv8,ho⟩ := q_)
   obtain ⟨ek,hp1,hp2,hp3⟩:=cB hp
   obtain ⟨w,k⟩:=p
   simp only at ek hp1 hp2 hp3
   subst ek
   obtain ⟨f,hf⟩ : ∃f,face[k]? = some f:=⟨_,Ba (by omega)⟩
   obtain ⟨x,hx⟩ : ∃x,nums[k]? = some x:=⟨_,Ba (by omega)⟩
   have ef:Tc (face.map Ai) (k:Int)=some (.int f):=Vh (by rw[Bf,hf]; rfl)
   have ex:Tc (nums.map Ai) (k:Int)=some (.int x):=Vh (by rw[Bf,hx]; rfl)
   have inb:∀j∈Mi L w,0<=j/\j<L.length:=λj hj=>by
    obtain ⟨n,u,rfl,h1,_⟩:=EN.mp hj
    have:=(Ap.mp h1).1
    omega
   array_get_dec
   refine ⟨by omega,by omega,?_⟩
   refine mF (l:=Di vs.toNat) (g:=λi:Nat=>.int i) rfl (λi δ=>∃(bs:List Int) (v7 v8:DV),δ=⟨[.dat .sh (.list (L.map λw=>.list ((Mi L w).map Ai))),.dat .sh (.list (face.map Ai)),.dat .sh (.int vs),.dat .sh (.list (nums.map Ai)),.dat .sh (.int k),.dat .sh (.list ((Mi L w).map Ai)),.dat .ow (.list (bs.map Ai)),v7,v8],0⟩/\NP v7/\NP v8/\bs.length<=i/\(bs=[]↔∀v:Int,0<=v->v<i->v≠f->AK L face nums w x v)) ?_ ?_ ?_
   ·exact ⟨[],_,_,rfl,hv7,hv8,Ak _,λ_ v z1 z2=>absurd z2 (by omega),λ_=>rfl⟩
   ·(intro i a _ ha q_; obtain ⟨bs,v7,v8,rfl,hv7,hv8,lb,hbs⟩ := q_)
    obtain ⟨rfl,hi⟩:=aW ha
    array_get_dec
    refine bP (l:=Mi L w) (g:=Ai) rfl (λj=>decide (zN face j=(a:Int))) (λj=>.int j) (λj hj yes no hy hn=>?_) ?_
    ·obtain ⟨j0,j1⟩:=inb j hj
     array_get_dec
     refine ⟨_,zF j0 (by omega),dp,?_⟩
     array_get_dec
     refine Os (λq=>?_) (λq=>?_)
     ·array_get_dec
      exact hy q
     ·exact hn q
    array_get_dec
    refine ⟨_,ef,dp,?_⟩
    array_get_dec
    have go:((a:Int)≠f->AK L face nums w x a)->(bs=[]↔∀v:Int,0<=v->v<((a+1:Nat):Int)->v≠f->AK L face nums w x v):=λq=>by
     rw[hbs]
     constructor
     ·intro z v z1 z2 z3
      by_cases e:v=a
      ·subst e; exact q z3
      ·exact z v z1 (by omega) z3
     ·intro z v z1 z2 z3
      exact z v z1 (by omega) z3
    refine vG (λh1=>?_) (λh1=>?_)
    ·array_get_dec
     refine bP (l:=(Mi L w).filter λj=>decide (zN face j=(a:Int))) (g:=Ai) rfl (λj=>decide (x<=zN nums j)) (λj=>.int j) (λj hj yes no hy hn=>?_) ?_
     ·obtain ⟨j0,j1⟩:=inb j (Cn.mp hj).1
      array_get_dec
      refine ⟨_,zF j0 (by omega),_,ex,?_⟩
      array_get_dec
      refine Os (λq=>?_) (λq=>?_)
      ·array_get_dec
       exact hy q
      ·exact hn q
     have emp:((((Mi L w).filter λj=>decide (zN face j=(a:Int))).filter λj=>decide (x<=zN nums j)).map λj=>Ai j).isEmpty=true↔¬ AK L face nums w x a:=by
      rw[cN,List.map_eq_nil_iff,Sf]
      constructor
      ·(intro z q_; obtain ⟨j,u,y,q1,q2,q3,q4,q5⟩ := q_)
       have hj:j<L.length:=(Ap.mp q1).1
       refine z j (Cn.mpr ⟨EN.mpr ⟨j,u,rfl,q1,q2⟩,?_⟩) ?_
       ·have:=qU (l:=face) (j:=j) (by omega)
        rw[q3] at this
        simpa using (Bn this).symm
       ·have:=qU (l:=nums) (j:=j) (by omega)
        rw[q4] at this
        have:=Bn this
        simp only[decide_eq_true_eq]
        omega
      ·intro z j hj q2
       obtain ⟨q3,q4⟩:=Cn.mp hj
       obtain ⟨n,u,rfl,q5,q6⟩:=EN.mp q3
       have hn:=(Ap.mp q5).1
       have e4:zN face n=a:=by simpa using q4
       exact z ⟨n,u,zN nums n,q5,q6,by rw[qU (l:=face) (by omega),e4],qU (by omega),by simpa using q2⟩
     array_get_dec
     refine Zx (λh2=>?_) (λh2=>?_)
     ·array_get_dec
      refine ⟨by rw[Ad]; omega,bs++[(a:Int)],_,_,Q4 (by rw[Be]; rfl) rfl,Gr,Gr,by simp; omega,λz=>absurd z (by simp),λz=>?_⟩
      exact absurd (z a (by omega) (by omega) (by simpa using h1)) (emp.mp h2)
     ·array_get_dec
      refine ⟨bs,_,_,rfl,Gr,Gr,by omega,go λ_=>Fn λz=>?_⟩
      rw[emp.mpr z] at h2
      cases h2
    ·array_get_dec
     refine ⟨bs,_,_,rfl,Gr,Gr,by omega,go λz=>absurd z (by simpa using h1)⟩
   ·(intro _ q_; obtain ⟨bs,v7,v8,rfl,hv7,hv8,lb,hbs⟩ := q_)
    rw[Ju] at hbs
    array_get_dec
    refine Zx (λh2=>?_) (λh2=>?_)
    ·array_get_dec
     have e:bs=[]:=by simpa using h2
     rw[V5 (k:=k)] at hR2
     ·exact hR2
     ·intro z
      obtain ⟨v,z1,z2,z3,z4⟩:=z w f x hp1 hf hx
      exact z4 (hbs.mp e v z1 (by omega) z3)
    ·array_get_dec
     refine ⟨_,_,_,_,_,rfl,Gr,Gr,O8,hv7,hv8,λk' hk'=>?_⟩
     by_cases q:k'=k
     ·subst q
      intro w' f' x' e1 e2 e3
      rw[hp1] at e1; cases e1
      rw[hf] at e2; cases e2
      rw[hx] at e3; cases e3
      refine Fn λz=>?_
      have e:bs=[]:=hbs.mpr λv z1 z2 z3=>Fn λz4=>z ⟨v,z1,by omega,z3,z4⟩
      rw[e] at h2
      cases h2
     ·exact ho k' (by omega)
  ·(intro _ q_; obtain ⟨v4,v5,v6,v7,v8,rfl,hv4,hv5,hv6,hv7,hv8,ho⟩ := q_)
   array_get_dec
   rw[S0 λk hk=>ho k (by rw[Ll]; exact hk)] at hR2
   exact hR2
end
theorem jO:∀k:Nat,(By k [Ai z]).flatten=By k (.int z)
 | 0=>rfl
 | k+1=>by rw[Fo,Hs,jO k]; rfl
def atS:Ac->Prop
 | .none=>True
 | .bool _=>True
 | .int i=>i.natAbs<10 ^ 30
 | .str x=>(reprText x).length<=30
 | _=>False
def O5(t:Ac):Prop:=(∃ds:List Ac,t=.list ds/\ds.length<=3000/\∀d∈ds,atS d)\/(∃ns:List Int,t=.tuple (ns.map Ai)/\ns.length<=3000/\∀i∈ns,i.natAbs<10 ^ 30)\/t=.none
theorem aR(h:atS d):jI d=true:=by
 cases d <;> first | rfl | exact h.elim
theorem O5.thg(h:O5 t):BB t:=by
 rcases h with ⟨ds,rfl,_,h⟩ | ⟨ns,rfl,_⟩ | rfl
 ·exact .inl ⟨ds,rfl,Dh.mpr λd hd=>aR (h d hd)⟩
 ·exact .inr (Oo ns)
 ·exact .inr rfl
theorem K0{l:List Int}(hl:l.length<=3000)(h:∀x∈l,-100<=x/\x<=100):O5 (.list (l.map Ai)):=.inl ⟨_,rfl,by rw[Ad]; exact hl,λd hd=>by
 obtain ⟨x,hx,rfl⟩:=Bt.mp hd
 have:=h x hx
 show x.natAbs<10 ^ 30
 omega⟩
theorem oA{α:Type}{l:List α}{f:α->Int}(hl:l.length<=3000)(h:∀x∈l,-100<=f x/\f x<=100):O5 (.list (l.map λx=>Ai (f x))):=.inl ⟨_,rfl,by rw[Ad]; exact hl,λd hd=>by
 obtain ⟨x,hx,rfl⟩:=Bt.mp hd
 have:=h x hx
 show (f x).natAbs<10 ^ 30
 omega⟩
theorem mU(hl:a.length+b.length<=2900)(ha:∀d∈a,atS d)(hb:∀d∈b,atS d)(hd:atS d):O5 (.list (a++[d]++b)):=.inl ⟨_,rfl,by simp; omega,λe he=>by
 rcases Ay.mp he with he | he
 ·rcases Ay.mp he with he | he
  ·exact ha e he
  ·rw[Af.mp he]; exact hd
 ·exact hb e he⟩
theorem qT(hz:-100<=z/\z<=100)(k:Nat):∀d∈By k (Ai z),atS d:=λd hd=>by
 rw[List.eq_of_mem_replicate hd]
 show z.natAbs<10 ^ 30
 omega
theorem lY{l:List Int}(h:∀x∈l,-100<=x/\x<=100):∀d∈l.map Ai,atS d:=λd hd=>by
 obtain ⟨x,hx,rfl⟩:=Bt.mp hd
 have:=h x hx
 show x.natAbs<10 ^ 30
 omega
theorem nO(h0:0<=x)(h1:x<=10):(reprText (aU (.int x))).length<=30:=by
 rcases (by omega:x=0\/x=1\/x=2\/x=3\/x=4\/x=5\/x=6\/x=7\/x=8\/x=9\/x=10) with rfl | rfl | rfl | rfl | rfl | rfl | rfl | rfl | rfl | rfl | rfl <;> decide +kernel
def jW:DF:=λds n R=>∃(h:Int) (L:List (List Int)) (due:List Int),ds=[.int h,.list (L.map Ck),.list (due.map Ai)]/\0<=h/\h<=10/\0<L.length/\L.length<=1024/\(∀w∈L,w.length<=10)/\due.length=L.length/\(∀x∈due,0<=x/\x<=10)/\n<=90000/\∀(ts:List Ac) (n':Nat),(∀t∈ts,O5 t)->ts.length<=100->n<=n'->n'<=n+50->R (.list ts) n'
section
variable{P:Bq}{w:World}{K:PySem.W.Frag}{mg:Str->Option Value}{base:Heap}
theorem bA:FnScope ["_law_draws_here", "_law_holes_here", "_law_words_here", "_law_due", "_law_at", "_law_limit", "_law_small", "_law_told", "_law_number"] ["_law_draws_here", "_law_holes_here", "_law_words_here", "_law_due"] (Bl Eg):=⟨rfl,rfl,rfl,by decide +kernel,rfl,by decide +kernel,by decide +kernel⟩
theorem Zz(F:Fun K "_law_things" "_law_things" Eg f fd)(G_L_next:FnOk P w K mg base Ge 1 f_L_next d_L_next ["_law_draws_here"] (mL K Ue))(b_L_next:Binds K d_L_next ["_law_draws_here"] [])(k_L_next:PySem.W.keepIn K (.ref f_L_next)=true)(m_L_next:mg "_law_next" = some (.ref f_L_next))(mz_len:mg "len" = none)(mz_range:mg "range" = none)(mz_list:mg "list" = none)(mz_min:mg "min" = none)(mz_max:mg "max" = none)(mz_str:mg "str" = none)(mz_tuple:mg "tuple" = none):FnOk P w K mg base Ge 2 f fd ["_law_draws_here", "_law_holes_here", "_law_words_here", "_law_due"] (E1 K (jW)):=by
 refine' u0 (k:=1) F bA (λcdv A outer s H E hr=>?hb) ?h
 case hb =>
  have hr1:Room 1 _:=hr.mono (by decide)
  have hu64:=hr.units
  have hrx:Room 1 (Ie Ge P w K mg base ["_law_draws_here", "_law_holes_here", "_law_words_here", "_law_due", "_law_at", "_law_limit", "_law_small", "_law_told", "_law_number"] "_law_things" (Bl Eg) f cdv A outer s H E).nox.A:=hr
  have hu100:(Ie Ge P w K mg base ["_law_draws_here", "_law_holes_here", "_law_words_here", "_law_due", "_law_at", "_law_limit", "_law_small", "_law_told", "_law_number"] "_law_things" (Bl Eg) f cdv A outer s H E).nox.A.units+100<cLine:=by have:=hrx.un; omega
  have CS1:∀{scope:Scope} (h:scope={ kind:=.function,names:=[(".0",.local),("_law_k",.local),("_law_next",.globalImplicit),("_law_draws_here",.free)],isGenerator:=false,isCoroutine:=false }),
    CompScope (Ie Ge P w K mg base ["_law_draws_here", "_law_holes_here", "_law_words_here", "_law_due", "_law_at", "_law_limit", "_law_small", "_law_told", "_law_number"] "_law_things" (Bl Eg) f cdv A outer s H E).nox scope [("_law_draws_here",s.heap.objs.size+1)] "_law_k" ["_law_draws_here"] [0]:=by
   rintro scope rfl
   refine ⟨by rfl,.inl (by decide +kernel),by rfl,by decide +kernel,.inl rfl,λy c h=>?_,by rfl,by decide +kernel,rfl,λk y j e1 e2=>?_⟩
   ·have z:=Do h
    simp only[Ag,Av,or_false,Dm] at z
    obtain ⟨rfl,rfl⟩:=z; rfl
   ·match k,e1,e2 with
    | 0,e1,e2=>cases e1; cases e2; exact ⟨rfl,rfl,by first | exact .inl rfl | exact .inr rfl⟩
    | k+1,e1,e2=>cases e1
  have CS2:∀{scope:Scope} (h:scope={ kind:=.function,names:=[(".0",.local),("_law_word",.local),("len",.globalImplicit),("_law_holes_here",.free)],isGenerator:=false,isCoroutine:=false }),
    CompScope (Ie Ge P w K mg base ["_law_draws_here", "_law_holes_here", "_law_words_here", "_law_due", "_law_at", "_law_limit", "_law_small", "_law_told", "_law_number"] "_law_things" (Bl Eg) f cdv A outer s H E).nox scope [("_law_holes_here",s.heap.objs.size+2)] "_law_word" ["_law_holes_here"] [1]:=by
   rintro scope rfl
   refine ⟨by rfl,.inl (by decide +kernel),by rfl,by decide +kernel,.inl rfl,λy c h=>?_,by rfl,by decide +kernel,rfl,λk y j e1 e2=>?_⟩
   ·have z:=Do h
    simp only[Ag,Av,or_false,Dm] at z
    obtain ⟨rfl,rfl⟩:=z; rfl
   ·match k,e1,e2 with
    | 0,e1,e2=>cases e1; cases e2; exact ⟨rfl,rfl,by first | exact .inl rfl | exact .inr rfl⟩
    | k+1,e1,e2=>cases e1
  have CS3:∀{scope:Scope} (h:scope={ kind:=.function,names:=[(".0",.local),("_law_one",.local),("_law_limit",.free)],isGenerator:=false,isCoroutine:=false }),
    CompScope (Ie Ge P w K mg base ["_law_draws_here", "_law_holes_here", "_law_words_here", "_law_due", "_law_at", "_law_limit", "_law_small", "_law_told", "_law_number"] "_law_things" (Bl Eg) f cdv A outer s H E).nox scope [("_law_limit",s.heap.objs.size+3)] "_law_one" ["_law_limit"] [5]:=by
   rintro scope rfl
   refine ⟨by rfl,.inl (by decide +kernel),by rfl,by decide +kernel,.inl rfl,λy c h=>?_,by rfl,by decide +kernel,rfl,λk y j e1 e2=>?_⟩
   ·have z:=Do h
    simp only[Ag,Av,or_false,Dm] at z
    obtain ⟨rfl,rfl⟩:=z; rfl
   ·match k,e1,e2 with
    | 0,e1,e2=>cases e1; cases e2; exact ⟨rfl,rfl,by first | exact .inl rfl | exact .inr rfl⟩
    | k+1,e1,e2=>cases e1
  have CS4:∀{scope:Scope} (h:scope={ kind:=.function,names:=[(".0",.local),("_law_one",.local)],isGenerator:=false,isCoroutine:=false }),
    CompScope (Ie Ge P w K mg base ["_law_draws_here", "_law_holes_here", "_law_words_here", "_law_due", "_law_at", "_law_limit", "_law_small", "_law_told", "_law_number"] "_law_things" (Bl Eg) f cdv A outer s H E).nox scope [] "_law_one" [] []:=by
   rintro scope rfl
   exact Nd.compScope0 (by rfl) (by decide +kernel) (by rfl) (by decide +kernel) (by rfl) (by rfl)
  have CS5:∀{scope:Scope} (h:scope={ kind:=.function,names:=[(".0",.local),("_law_one",.local)],isGenerator:=false,isCoroutine:=false }),
    CompScope (Ie Ge P w K mg base ["_law_draws_here", "_law_holes_here", "_law_words_here", "_law_due", "_law_at", "_law_limit", "_law_small", "_law_told", "_law_number"] "_law_things" (Bl Eg) f cdv A outer s H E).nox scope [] "_law_one" [] []:=by
   rintro scope rfl
   exact Nd.compScope0 (by rfl) (by decide +kernel) (by rfl) (by decide +kernel) (by rfl) (by rfl)
  have CS6:∀{scope:Scope} (h:scope={ kind:=.function,names:=[(".0",.local),("_law_word",.local)],isGenerator:=false,isCoroutine:=false }),
    CompScope (Ie Ge P w K mg base ["_law_draws_here", "_law_holes_here", "_law_words_here", "_law_due", "_law_at", "_law_limit", "_law_small", "_law_told", "_law_number"] "_law_things" (Bl Eg) f cdv A outer s H E).nox scope [] "_law_word" [] []:=by
   rintro scope rfl
   exact Nd.compScope0 (by rfl) (by decide +kernel) (by rfl) (by decide +kernel) (by rfl) (by rfl)
  have CS7:∀{scope:Scope} (h:scope={ kind:=.function,names:=[(".0",.local),("_law_one",.local),("min",.globalImplicit)],isGenerator:=false,isCoroutine:=false }),
    CompScope (Ie Ge P w K mg base ["_law_draws_here", "_law_holes_here", "_law_words_here", "_law_due", "_law_at", "_law_limit", "_law_small", "_law_told", "_law_number"] "_law_things" (Bl Eg) f cdv A outer s H E).nox scope [] "_law_one" [] []:=by
   rintro scope rfl
   exact Nd.compScope0 (by rfl) (by decide +kernel) (by rfl) (by decide +kernel) (by rfl) (by rfl)
  have CS8:∀{scope:Scope} (h:scope={ kind:=.function,names:=[(".0",.local),("_law_word",.local),("_law_holes_here",.free)],isGenerator:=false,isCoroutine:=false }),
    CompScope (Ie Ge P w K mg base ["_law_draws_here", "_law_holes_here", "_law_words_here", "_law_due", "_law_at", "_law_limit", "_law_small", "_law_told", "_law_number"] "_law_things" (Bl Eg) f cdv A outer s H E).nox scope [("_law_holes_here",s.heap.objs.size+2)] "_law_word" ["_law_holes_here"] [1]:=by
   rintro scope rfl
   refine ⟨by rfl,.inl (by decide +kernel),by rfl,by decide +kernel,.inl rfl,λy c h=>?_,by rfl,by decide +kernel,rfl,λk y j e1 e2=>?_⟩
   ·have z:=Do h
    simp only[Ag,Av,or_false,Dm] at z
    obtain ⟨rfl,rfl⟩:=z; rfl
   ·match k,e1,e2 with
    | 0,e1,e2=>cases e1; cases e2; exact ⟨rfl,rfl,by first | exact .inl rfl | exact .inr rfl⟩
    | k+1,e1,e2=>cases e1
  exact Cy (Hb (i:=4) bA.nd rfl (Ei rfl) (Hl (Jd G_L_next hr1 rfl m_L_next k_L_next b_L_next Gx (pv 0) Bi) (Dj Il Mt rfl mz_len (by decide +kernel) (Ao (Aq (pv 2)) Bi))))
   (Cy (Hb (i:=5) bA.nd rfl (Ol rfl) (Hl (Jd G_L_next hr1 rfl m_L_next k_L_next b_L_next Gx (pv 0) Bi) Cu))
   (Cy (Hb (i:=6) bA.nd rfl (Ei rfl) (Rf (xF (js1:=[]) (j0:=0) (js2:=[]) (CS1 rfl) rfl (Nr rfl mz_range (Ao (Hl (Dj Il Mt rfl mz_len (by decide +kernel) (Ao (Aq (pv 2)) Bi)) Cu) Bi)) (λ_ _ _=>Gd) (λ_ _ _=>Hl (Jd G_L_next hr1 rfl m_L_next k_L_next b_L_next Gx (pv 1) Bi) Cu)) (S7 (Ha (Ao Cu Bi)) (Xb (Dj Il Mt rfl mz_len (by decide +kernel) (Ao (Aq (pv 2)) Bi)) (Hl (Dj Il Mt rfl mz_len (by decide +kernel) (Ao (Aq (pv 2)) Bi)) Cu)))))
   (Cy (Qt (i:=7) bA.nd rfl (Ei rfl) (Ha (Ao (Kt qY (pR (i:=true)) rfl mz_list (by decide +kernel) (Ao (Aq (pv 3)) Bi)) (Ao (Hi (CS2 rfl) rfl (fE (Aq (pv 2))) (λ_ _ _=>Gd) (λ_ _ _=>Xb (Aq (pv 1)) (Dj Il Mt rfl mz_len (by decide +kernel) (Ao (Aq (pv 0)) Bi)))) (Ao (Hi (CS3 rfl) rfl (fE (Aq (pv 3))) (λ_ _ _=>Gd) (λ_ _ _=>Nt (Aq (pv 0)) (Aq (pv 1)))) (Ao (Hi (CS4 rfl) rfl (fE (Aq (pv 3))) (λ_ _ _=>Gd) (λ_ _ _=>b0 Cu (Aq (pv 0)))) Bi))))))
   (Cy (Qt (i:=7) bA.nd rfl (Ei rfl) (pT (gD (pv 7)) (Ha (Ao (Hi (CS5 rfl) rfl (fE (Aq (pv 3))) (λ_ _ _=>Gd) (λ_ _ _=>Xb (Aq (pv 0)) Cu)) (Ao (Hi (CS6 rfl) rfl (fE (Aq (pv 2))) (λ_ _ _=>Gd) (λ_ _ _=>Cu)) (Ao (Aq (pv 6)) (Ao (Hi (CS7 rfl) rfl (fE (Aq (pv 3))) (λ_ _ _=>Gd) (λ_ _ _=>Dj (tK rfl) C6 rfl mz_min (by decide +kernel) (Ao Cu (Ao (Aq (pv 0)) Bi)))) Bi)))))))
   (Cy (Rg Ey rfl (fE (Ha (Ao (Nt (Ir (Aq (pv 3)) (Aq (pv 4))) Cu) (Ao (Dj (Sy rfl) Zm rfl mz_max (by decide +kernel) (Ao Cu (Ao (Xb (Ir (Aq (pv 3)) (Aq (pv 4))) Cu) Bi))) (Ao (i9 Cu Cu) (Ao yH (Ao (Kt (Xa hr.gd hu100) nZ rfl mz_str (by decide +kernel) (Ao (Ir (Aq (pv 3)) (Aq (pv 4))) Bi)) (Ao (kY hu64 (Ir (Aq (pv 3)) (Aq (pv 4))) Cu) Bi)))))))) (Mh (i:=8) bA.nd rfl (Ei rfl))
   (En (Zs (pv 7) (Rf (Rf (Vo (i:=true) (Aq (pv 3)) Ry (Ri (Aq (pv 4)))) (Ha (Ao (xJ (Aq (pv 8))) Bi))) (Vo (i:=true) (Aq (pv 3)) (Ri (Nt (Aq (pv 4)) Cu)) Ry)))))
   (Cy (Zs (pv 7) (Rf (Ha (Ao (Dj (Sy rfl) Zm rfl mz_max (by decide +kernel) (Ao Cu (Ao (Xb (Ir (Aq (pv 3)) Cu) Cu) Bi))) Bi)) (Vo (i:=true) (Aq (pv 3)) (Ri Cu) Ry)))
   (En (Gn (pT (gD (pv 7)) (Ha (Ao (Rf (Aq (pv 3)) (Ha (Ao Cu Bi))) (Ao (Vo (i:=true) (Aq (pv 3)) Ry (Ri (T6 Cu))) (Ao (Kt zU (j3 (i:=true)) rfl mz_tuple (by decide +kernel) (Ao (Aq (pv 3)) Bi)) (Ao yH (Ao (Ha Bi) (Ao (Hi (CS8 rfl) rfl (fE (Aq (pv 2))) (λ_ _ _=>Gd) (λ_ _ _=>Aq (pv 1))) Bi))))))))))))))))
 case h =>
  (intro ds n R q_; obtain ⟨h,L,due,rfl,h0,h1,l0,l1,lw,ld,hdu,hn,hR⟩ := q_)
  refine ⟨rfl,?_⟩
  array_get_dec
  refine ⟨rfl,by omega,λr1=>?_⟩
  array_get_dec
  rw[Ad]
  refine ⟨by omega,rfl,by omega,λr2=>?_⟩
  have b1:=Qq r1 (b:=(L.length:Int)) (by omega)
  have b2:=Qq r2 (b:=4) (by decide)
  generalize r1 % (L.length:Int)=at_ at b1
  array_get_dec
  rw[Ad]
  have b3:=Qq (L.length:Int) (b:=40) (by decide)
  refine ⟨by omega,by omega,?_⟩
  refine rS (l:=Di ((L.length:Int) % 40).toNat) (g:=λi:Nat=>.int i) rfl rfl (λi acc m=>acc.length=i/\(∀d∈acc,atS d)/\m=n+2+i) ⟨rfl,λ_ z=>(nomatch z),rfl⟩ (λi a acc m ha ⟨q1,q2,q3⟩=>?_) (λacc m ⟨q1,q2,q3⟩=>?_)
  ·obtain ⟨rfl,hi⟩:=aW ha
   array_get_dec
   refine ⟨rfl,by omega,λr3=>?_⟩
   array_get_dec
   refine ⟨by simp [q1],λd hd=>?_,by omega⟩
   rcases Ay.mp hd with hd | hd
   ·exact q2 d hd
   ·rw[Af.mp hd]
    have:=Qq r3 (b:=3) (by decide)
    show (r3 % 3).natAbs<10 ^ 30
    omega
  rw[Ju] at q1 q3
  array_get_dec
  rw[Ad]
  rw[jO]
  have aI:∀{l:List Ac},(∀d∈l,atS d)->Dw l=true:=λ{l} h=>gN (Dh.mpr λd hd=>aR (h d hd))
  refine ⟨by omega,by omega,by omega,aI q2,aI (qT (by omega) _),by rw[Tv]; omega,?_⟩
  have aS:∀d∈acc++By ((L.length:Int) - (L.length:Int) % 40).toNat (Ai 9),atS d:=λd hd=>by
   rcases Ay.mp hd with hd | hd
   ·exact q2 d hd
   ·exact qT (by omega) _ d hd
  have lS:(acc++By ((L.length:Int) - (L.length:Int) % 40).toNat (Ai 9)).length<=2000:=by rw[Bo,Tv]; omega
  generalize acc++By ((L.length:Int) - (L.length:Int) % 40).toNat (Ai 9)=fI at aS lS
  have hm:m<=n+50:=by omega
  have hm2:n<=m:=by omega
  clear q1 q2 q3
  refine Qd (l:=L) (g:=Ck) rfl (λw=>.int (h - (w.length:Int))) (λw _ yes no hy=>?_) ?_
  ·array_get_dec
   rw[Ad]
   exact hy
  array_get_dec
  refine Qd (l:=due) (g:=Ai) rfl (λx=>.int (x+r2 % 4)) (λx _ yes no hy=>?_) ?_
  ·array_get_dec
   exact hy
  array_get_dec
  refine Qd (l:=due) (g:=Ai) rfl (λx=>.int (2 * x)) (λx _ yes no hy=>?_) ?_
  ·array_get_dec
   exact hy
  array_get_dec
  refine Qd (l:=due) (g:=Ai) rfl (λx=>.int (x - 1)) (λx _ yes no hy=>?_) ?_
  ·array_get_dec
   exact hy
  array_get_dec
  refine Qd (l:=L) (g:=Ck) rfl (λ_=>.int 0) (λ_ _ yes no hy=>?_) ?_
  ·array_get_dec
   exact hy
  array_get_dec
  refine Qd (l:=due) (g:=Ai) rfl (λx=>.int (if x<1 then x else 1)) (λx _ yes no hy=>?_) ?_
  ·array_get_dec
   exact hy
  obtain ⟨x,hx1,hx2,hx3⟩:=Nx (l:=due) b1.1 (by omega)
  have ex:Tc (due.map Ai) at_=some (.int x):=by rw[Sz,hx2]; rfl
  array_get_dec
  refine ⟨_,ex,?_⟩
  array_get_dec
  refine ⟨_,ex,?_⟩
  array_get_dec
  obtain ⟨x0,x10⟩:=hdu x hx3
  refine ⟨by decide,_,ex,⟨12,by decide,by rw[Nj]; omega,by rw[Jn]; show (12+12) * 1<=16777216; decide⟩,by simp [Cj],_,ex,by simp [Cj],?_⟩
  array_get_dec
  have dA:∀lo hi,∀d∈Ml (due.map Ai) lo hi,atS d:=λlo hi d hd=>lY (l:=due) (λx hx=>by have:=hdu x hx; omega) d ((Rp _ lo hi).subset hd)
  have dL:∀lo hi,(Ml (due.map Ai) lo hi).length<=1024:=λlo hi=>by
   have:=(Rp (due.map Ai) lo hi).length_le
   rw[Ad] at this
   omega
  refine mF (l:=[.int (x+1),.int (if 0<x - 1 then x - 1 else 0),.int 10000000000000000000,.none,.str (aU (.int x)),.bool (decide (x=1))]) (g:=λd=>d) rfl (λi δ=>∃(ts:List Ac) (v8:DV),δ=⟨[.drw,.dat .sh (.int h),.dat .sh (.list (L.map Ck)),.dat .sh (.list (due.map Ai)),.dat .sh (.int at_),.dat .sh (.int (r2 % 4)),.dat .sh (.list fI),.dat .tp (.list ts),v8],m⟩/\NP v8/\ts.length=8+i/\∀t∈ts,O5 t) ?_ ?_ ?_
  ·refine ⟨_,_,rfl,Ov,rfl,?_⟩
   simp only[Uv]
   exact ⟨K0 (by omega) λx hx=>(by have:=hdu x hx; omega),oA (l:=L) (by omega) λw hw=>(by have:=lw w hw; omega),oA (l:=due) (by omega) λx hx=>(by have:=hdu x hx; omega),oA (l:=due) (by omega) λx hx=>(by have:=hdu x hx; omega),oA (l:=due) (by omega) λx hx=>(by have:=hdu x hx; omega),oA (l:=L) (by omega) λw _=>(by omega),.inl ⟨fI,rfl,by omega,aS⟩,oA (l:=due) (by omega) λx hx=>(by have:=hdu x hx; split <;> omega),λ_ z=>(nomatch z)⟩
  ·(intro i d _ hd q_; obtain ⟨ts,v8,rfl,hv8,lt,ht⟩ := q_)
   have hi:i<6:=(Ap.mp hd).1
   have ad:atS d:=by
    have hm:=Ax hd
    simp only[Ag,Av,or_false] at hm
    rcases hm with rfl | rfl | rfl | rfl | rfl | rfl
    ·show (x+1).natAbs<10 ^ 30; omega
    ·show (if 0<x - 1 then x - 1 else 0).natAbs<10 ^ 30; split <;> omega
    ·show (10000000000000000000:Int).natAbs<10 ^ 30; decide
    ·trivial
    ·exact nO x0 x10
    ·trivial
   have id_:imm d=true:=vO (aR ad)
   have i1:=aI (dA none (some at_))
   have i2:=aI (dA (some (at_+1)) none)
   have i3:=aI (l:=[d]) λe he=>(by rw[Af.mp he]; exact ad)
   have m1:=dL none (some at_)
   have m2:=dL (some (at_+1)) none
   array_get_dec
   refine ⟨i1,id_,i1,i3,by omega,i2,aI λe he=>?_,i2,by rw[Bo,Hf]; omega,by omega,_,_,rfl,Gr,by rw[Bo,Hf]; omega,λt h_=>?_⟩
   ·rcases Ay.mp he with he | he
    ·exact dA _ _ e he
    ·rw[Af.mp he]; exact ad
   ·rcases Ay.mp h_ with h_ | h_
    ·exact ht t h_
    ·rw[Af.mp h_]
     have:=mU (a:=Ml (due.map Ai) none (some at_)) (b:=Ml (due.map Ai) (some (at_+1)) none) (d:=d) (by omega) (dA _ _) (dA _ _) ad
     rw[Bw] at this
     exact this
  ·(intro _ q_; obtain ⟨ts,v8,rfl,hv8,lt,ht⟩ := q_)
   have lt:ts.length=14:=lt
   obtain ⟨y,hy1,hy2,hy3⟩:=Nx (l:=due) (i:=0) (by omega) (by omega)
   have ey:Tc (due.map Ai) 0=some (.int y):=by rw[Sz,hy2]; rfl
   have m3:=dL (some 1) none
   have i3:=aI (dA (some 1) none)
   have hy:=hdu y hy3
   array_get_dec
   refine ⟨_,ey,?_⟩
   array_get_dec
   refine ⟨i3,i3,by omega,by simp [npk,hv8 _],by omega,by rw[Ad]; omega,aI (dA _ _),?_⟩
   refine Qd (l:=L) (g:=Ck) rfl (λ_=>.int h) (λ_ _ yes no hy=>?_) ?_
   ·array_get_dec
    exact hy
   have fin:∀t∈ts++[.list (.int (if y - 1 > 0 then y - 1 else 0)::Ml (due.map Ai) (some 1) none),.list (due.map Ai++[.int 0]),.list (Ml (due.map Ai) none (some (-1))),Ck due,.none,.list [],.list (L.map λ_=>.int h)],O5 t:=λt h_=>by
    rcases Ay.mp h_ with h_ | h_
    ·exact ht t h_
    simp only[Ag,Av,or_false] at h_
    rcases h_ with rfl | rfl | rfl | rfl | rfl | rfl | rfl
    ·have:=mU (a:=[]) (b:=Ml (due.map Ai) (some 1) none) (d:=.int (if y - 1 > 0 then y - 1 else 0)) (by simp; omega) (λ_ z=>nomatch z) (dA _ _) (by show (if y - 1 > 0 then y - 1 else 0).natAbs<10 ^ 30; split <;> omega)
     exact this
    ·have:=mU (a:=due.map Ai) (b:=[]) (d:=.int 0) (by rw[Ad]; simp; omega) (lY λx hx=>by have:=hdu x hx; omega) (λ_ z=>nomatch z) (by show (0:Int).natAbs<10 ^ 30; decide)
     rw[Ea] at this
     exact this
    ·exact .inl ⟨_,rfl,by have:=dL none (some (-1)); omega,dA _ _⟩
    ·exact .inr (.inl ⟨due,rfl,by omega,λi hi=>by have:=hdu i hi; omega⟩)
    ·exact .inr (.inr rfl)
    ·exact .inl ⟨[],rfl,by decide,λ_ z=>nomatch z⟩
    ·exact oA (l:=L) (by omega) λw _=>by omega
   have ll2:∀a b c d e f g:Ac,(ts++[a,b,c,d,e,f,g]).length=21:=λa b c d e f g=>by rw[Bo,lt]; rfl
   have ll:∀a:Ac,(ts++[a]).length=15:=λa=>by rw[Bo,lt]; rfl
   have r9:=hR _ m fin (by rw[ll2]; decide) hm2 hm
   array_get_dec
   first
    | exact ⟨by rw[ll]; decide,hm2,r9⟩
    | exact ⟨hm2,r9⟩
    | (trace_state; sorry)
end
theorem yU{vs:Int}(l1:L.length=face.length)(l2:nums.length=L.length)(nn:∀x∈nums,0<=x):lI L face vs nums=pC L face vs nums:=by
 classical
 unfold lI pC bG
 refine decide_eq_decide.mpr (forall_congr' λk=>forall_congr' λw=>forall_congr' λf=>forall_congr' λx=>forall_congr' λh1=>forall_congr' λh2=>forall_congr' λh3=>exists_congr λv=>and_congr_right λz1=>and_congr_right λz2=>and_congr_right λz3=>?_)
 have x0:=nn x (Ax h3)
 rw[<- Int.not_lt]
 refine not_congr ?_
 show x+1<=Mz L face nums w v↔_
 unfold Mz AK
 rw[Pa (by omega)]
 constructor
 ·(intro q_; obtain ⟨y,hy,e⟩ := q_)
  obtain ⟨p,hp,rfl⟩:=Bt.mp hy
  obtain ⟨q1,q2⟩:=Cn.mp hp
  obtain ⟨i,hi⟩:=Fw.mp q1
  obtain ⟨ei,hp1,_,hp3⟩:=cB hi
  unfold uU at q2
  rw[Dk,decide_eq_true_eq] at q2
  rw[<- ei] at hp1 hp3
  have hn:p.2<nums.length:=by omega
  refine ⟨p.2,p.1,nums[p.2],hp1,q2.2,q2.1,Ba hn,?_⟩
  unfold Rv at e
  rw[Ba hn,Option.getD_some] at e
  omega
 ·(intro q_; obtain ⟨j,u,y,q1,q2,q3,q4,q5⟩ := q_)
  refine ⟨y+1,Bt.mpr ⟨(u,j),Cn.mpr ⟨Zp.mpr q1,?_⟩,?_⟩,by omega⟩
  ·unfold uU
   rw[q3,q2]
   simp
  ·unfold Rv
   rw[q4]
   rfl
theorem G3{n:Nat}{vs:Int}(h:wQ L f vs g)(v0:2<=vs)(hr:∀u∈L,Lk n u)(hl:∀u∈L,u.length<=10):∀(m:Nat) (w:List Int),w∈L->10 - w.length<=m->0<=g w/\g w<=(10 - w.length:Nat):=by
 intro m
 induction m with
 | zero =>
  intro w hw hm
  have hw10:=hl w hw
  refine ⟨(h w hw 0).mpr λv _ _ _=>Vg _,?_⟩
  obtain ⟨v,z1,z2,z3⟩ : ∃v:Int,0<=v/\v<vs/\v≠f w:=by
   by_cases q:f w=0
   ·exact ⟨1,by omega,by omega,by omega⟩
   ·exact ⟨0,by omega,by omega,by omega⟩
  have e:=(h w hw (g w)).mp (Lq _) v z1 z2 z3
  have : Jz L f g w v=0:=by
   unfold Jz
   rw[List.filter_eq_nil_iff.mpr]
   ·rfl
   ·intro u hu q
    rw[Dk,decide_eq_true_eq] at q
    have:=fW (hr w hw) (hr u hu) q.2 (λz=>z3 (by rw[<- q.1,z]))
    have:=hl u hu
    omega
  omega
 | succ m ih =>
  intro w hw hm
  have hw10:=hl w hw
  refine ⟨(h w hw 0).mpr λv _ _ _=>Vg _,?_⟩
  obtain ⟨v,z1,z2,z3⟩ : ∃v:Int,0<=v/\v<vs/\v≠f w:=by
   by_cases q:f w=0
   ·exact ⟨1,by omega,by omega,by omega⟩
   ·exact ⟨0,by omega,by omega,by omega⟩
  have e:=(h w hw (g w)).mp (Lq _) v z1 z2 z3
  by_cases x0:0<g w
  ·unfold Jz at e
   obtain ⟨y,hy,e2⟩:=(Pa x0).mp e
   obtain ⟨u,hu,rfl⟩:=Bt.mp hy
   obtain ⟨u1,u2⟩:=Cn.mp hu
   rw[Dk,decide_eq_true_eq] at u2
   have:=fW (hr w hw) (hr u u1) u2.2 (λz=>z3 (by rw[<- u2.1,z]))
   have u10:=hl u u1
   have:=(ih u u1 (by omega)).2
   omega
  ·omega
theorem O5.fits(h:O5 t):Nj 30 t/\(30+12) * Nv t<=Au/\t.depth<=60:=by
 have hz:Au=16777216:=Jn
 have atF:∀d,atS d->Nj 30 d/\Nv d=1:=λd hd=>by
  cases d <;> first | exact hd.elim | (refine ⟨?_,rfl⟩; rw[Nj]; first | trivial | exact hd)
 rcases h with ⟨ds,rfl,hl,h⟩ | ⟨ns,rfl,hl,h⟩ | rfl
 ·refine ⟨?_,?_,?_⟩
  ·rw[Nj,Ro]
   exact λd hd=>(atF d (h d hd)).1
  ·have:=Sa (m:=1) (xs:=ds) λd hd=>Nat.le_of_eq (atF d (h d hd)).2
   show (30+12) * (Jh ds+1)<=Au
   omega
  ·have:=Sx (ds:=ds) (Dh.mpr λd hd=>aR (h d hd))
   simp only[Cj,this]
   omega
 ·have hA:∀d∈ns.map Ai,atS d:=λd hd=>by
   obtain ⟨i,hi,rfl⟩:=Bt.mp hd
   exact h i hi
  refine ⟨?_,?_,?_⟩
  ·rw[Nj,Ro]
   exact λd hd=>(atF d (hA d hd)).1
  ·have:=Sa (m:=1) (xs:=ns.map Ai) λd hd=>Nat.le_of_eq (atF d (hA d hd)).2
   rw[Ad] at this
   show (30+12) * (Jh (ns.map Ai)+1)<=Au
   omega
  ·have:=Sx (ds:=ns.map Ai) (Dh.mpr λd hd=>aR (hA d hd))
   simp only[Cj,this]
   omega
 ·refine ⟨by rw[Nj]; trivial,?_,by simp [Cj]⟩
  show (30+12) * 1<=Au
  omega
theorem i6{a b:List Int}(h:a.map Ai=b.map Ai):a=b:=Qk (λx y e=>PyData.int.inj e) h
theorem aP{nums:List Int}(hl:nums.length=n)(nn:∀x∈nums,0<=x):Sb (.list (nums.map Ai)) n=true:=by
 show (decide (((nums.map Ai).length:Int)=n) && (nums.map Ai).all Kr)=true
 rw[Dk,decide_eq_true_eq,Dh]
 refine ⟨by rw[Ad]; omega,λd hd=>?_⟩
 obtain ⟨x,hx,rfl⟩:=Bt.mp hd
 exact decide_eq_true (nn x hx)
theorem qK(b:Bool):(!(b == b))=false:=by cases b <;> rfl
theorem jF:∀{L:List (List Int)},L.Nodup->∀{face:List Int},face.length=L.length->∃f:List Int->Int,face=L.map f
 | [],_,[],_=>⟨λ_=>0,rfl⟩
 | [],_,_::_,h=>by cases h
 | _::_,_,[],h=>by cases h
 | w::L,nd,x::face,h=>by
  obtain ⟨n1,n2⟩:=Bx.mp nd
  obtain ⟨f,e⟩:=jF n2 (face:=face) (by simpa using h)
  refine ⟨iD f w x,?_⟩
  rw[Aw,iJ,e]
  congr 1
  refine Fp λu hu=>?_
  rw[Sr (show u≠w from λz=>n1 (by rw[<- z]; exact hu))]
theorem Px{l:List DV}(h:l.length=n+1):∃v m,l=v::m/\m.length=n:=by
 cases l with
 | nil=>cases h
 | cons v m=>exact ⟨v,m,rfl,by simpa using h⟩
theorem W5{l:List DV}(h:l.length=13):∃v1 v2 v3 v4 v5 v6 v7 v8 v9 v10 v11 v12 v13,l=[v1,v2,v3,v4,v5,v6,v7,v8,v9,v10,v11,v12,v13]:=by
 obtain ⟨v1,l1,e1,h1⟩:=Px h
 obtain ⟨v2,l2,e2,h2⟩:=Px h1
 obtain ⟨v3,l3,e3,h3⟩:=Px h2
 obtain ⟨v4,l4,e4,h4⟩:=Px h3
 obtain ⟨v5,l5,e5,h5⟩:=Px h4
 obtain ⟨v6,l6,e6,h6⟩:=Px h5
 obtain ⟨v7,l7,e7,h7⟩:=Px h6
 obtain ⟨v8,l8,e8,h8⟩:=Px h7
 obtain ⟨v9,l9,e9,h9⟩:=Px h8
 obtain ⟨va,l10,e10,h10⟩:=Px h9
 obtain ⟨vb,l11,e11,h11⟩:=Px h10
 obtain ⟨vc,l12,e12,h12⟩:=Px h11
 obtain ⟨vd,l13,e13,h13⟩:=Px h12
 have e14:=mO.mp h13
 subst e14 e13 e12 e11 e10 e9 e8 e7 e6 e5 e4 e3 e2 e1
 exact ⟨v1,v2,v3,v4,v5,v6,v7,v8,v9,va,vb,vc,vd,rfl⟩
section
variable{P:Bq}{w:World}{K:PySem.W.Frag}{mg:Str->Option Value}{base:Heap}
theorem AH:FnScope ["_law_script", "_law_cell", "_law_draws_here", "_law_holes_here", "_law_words_here", "_law_values_here", "_law_more", "_law_face", "_law_handed", "_law_over", "_law_thing", "_law_text", "_law_due", "_law_told"] ["_law_script"] (Bl Yy):=⟨rfl,rfl,rfl,by decide +kernel,rfl,by decide +kernel,by decide +kernel⟩
theorem W0(F:Fun K "law" "law" Yy f fd)(G_shows_most_often:FnOk P w K mg base Ge 5 f_shows_most_often d_shows_most_often ["holes", "reading", "values", "thing"] (Sn K (qP)))(b_shows_most_often:Binds K d_shows_most_often ["holes", "reading", "values", "thing"] [])(k_shows_most_often:PySem.W.keepIn K (.ref f_shows_most_often)=true)(m_shows_most_often:mg "shows_most_often" = some (.ref f_shows_most_often))(G_L_draws:FnOk P w K mg base Ge 1 f_L_draws d_L_draws ["_law_cell"] (Vx))(b_L_draws:Binds K d_L_draws ["_law_cell"] [])(k_L_draws:PySem.W.keepIn K (.ref f_L_draws)=true)(m_L_draws:mg "_law_draws" = some (.ref f_L_draws))(G_L_next:FnOk P w K mg base Ge 1 f_L_next d_L_next ["_law_draws_here"] (mL K Ue))(b_L_next:Binds K d_L_next ["_law_draws_here"] [])(k_L_next:PySem.W.keepIn K (.ref f_L_next)=true)(m_L_next:mg "_law_next" = some (.ref f_L_next))(G_L_words:FnOk P w K mg base Ge 1 f_L_words d_L_words ["_law_holes_here"] (Sn K Vk))(b_L_words:Binds K d_L_words ["_law_holes_here"] [])(k_L_words:PySem.W.keepIn K (.ref f_L_words)=true)(m_L_words:mg "_law_words" = some (.ref f_L_words))(G_L_holes:FnOk P w K mg base Ge 2 f_L_holes d_L_holes ["_law_draws_here"] (mL K (rB)))(b_L_holes:Binds K d_L_holes ["_law_draws_here"] [])(k_L_holes:PySem.W.keepIn K (.ref f_L_holes)=true)(m_L_holes:mg "_law_holes" = some (.ref f_L_holes))(G_L_reading:FnOk P w K mg base Ge 2 f_L_reading d_L_reading ["_law_draws_here", "_law_words_here", "_law_values_here"] (mL K (dW)))(b_L_reading:Binds K d_L_reading ["_law_draws_here", "_law_words_here", "_law_values_here"] [])(k_L_reading:PySem.W.keepIn K (.ref f_L_reading)=true)(m_L_reading:mg "_law_reading" = some (.ref f_L_reading))(G_L_values:FnOk P w K mg base Ge 2 f_L_values d_L_values ["_law_draws_here"] (mL K (lD)))(b_L_values:Binds K d_L_values ["_law_draws_here"] [])(k_L_values:PySem.W.keepIn K (.ref f_L_values)=true)(m_L_values:mg "_law_values" = some (.ref f_L_values))(G_L_often:FnOk P w K mg base Ge 2 f_L_often d_L_often ["_law_words_here", "_law_face", "_law_values_here"] (Sn K (sD)))(b_L_often:Binds K d_L_often ["_law_words_here", "_law_face", "_law_values_here"] [])(k_L_often:PySem.W.keepIn K (.ref f_L_often)=true)(m_L_often:mg "_law_often" = some (.ref f_L_often))(G_L_beyond:FnOk P w K mg base Ge 2 f_L_beyond d_L_beyond ["_law_words_here"] (FB K (kJ)))(b_L_beyond:Binds K d_L_beyond ["_law_words_here"] [])(k_L_beyond:PySem.W.keepIn K (.ref f_L_beyond)=true)(m_L_beyond:mg "_law_beyond" = some (.ref f_L_beyond))(G_L_holds:FnOk P w K mg base Ge 2 f_L_holds d_L_holds ["_law_over", "_law_face", "_law_values_here", "_law_thing"] (Sn K (pP)))(b_L_holds:Binds K d_L_holds ["_law_over", "_law_face", "_law_values_here", "_law_thing"] [])(k_L_holds:PySem.W.keepIn K (.ref f_L_holds)=true)(m_L_holds:mg "_law_holds" = some (.ref f_L_holds))(G_L_things:FnOk P w K mg base Ge 2 f_L_things d_L_things ["_law_draws_here", "_law_holes_here", "_law_words_here", "_law_due"] (E1 K (jW)))(b_L_things:Binds K d_L_things ["_law_draws_here", "_law_holes_here", "_law_words_here", "_law_due"] [])(k_L_things:PySem.W.keepIn K (.ref f_L_things)=true)(m_L_things:mg "_law_things" = some (.ref f_L_things))(mz_range:mg "range" = none)(mz_list:mg "list" = none)(mz_sum:mg "sum" = none)(mz_str:mg "str" = none)(mz_bool:mg "bool" = none)(mz_isinstance:mg "isinstance" = none):FnOk P w K mg base Ge 6 f fd ["_law_script"] (spLawD K):=by
 refine' Y6 (k:=5) F AH (λcdv A outer s H E hr=>?hb) ?h
 case hb =>
  have hr1:Room 1 _:=hr.mono (by decide)
  have hr2:Room 2 _:=hr.mono (by decide)
  have hr3:Room 3 _:=hr.mono (by decide)
  have hr4:Room 4 _:=hr.mono (by decide)
  have hr5:Room 5 _:=hr.mono (by decide)
  have hu64:=hr.units
  have hrx:Room 5 (Ie Ge P w K mg base ["_law_script", "_law_cell", "_law_draws_here", "_law_holes_here", "_law_words_here", "_law_values_here", "_law_more", "_law_face", "_law_handed", "_law_over", "_law_thing", "_law_text", "_law_due", "_law_told"] "law" (Bl Yy) f cdv A outer s H E).nox.A:=hr
  have hu100:(Ie Ge P w K mg base ["_law_script", "_law_cell", "_law_draws_here", "_law_holes_here", "_law_words_here", "_law_values_here", "_law_more", "_law_face", "_law_handed", "_law_over", "_law_thing", "_law_text", "_law_due", "_law_told"] "law" (Bl Yy) f cdv A outer s H E).nox.A.units+100<cLine:=by have:=hrx.un; omega
  have CS1:∀{scope:Scope} (h:scope={ kind:=.function,names:=[(".0",.local),("_law_k",.local),("_law_next",.globalImplicit),("_law_draws_here",.free)],isGenerator:=false,isCoroutine:=false }),
    CompScope (Ie Ge P w K mg base ["_law_script", "_law_cell", "_law_draws_here", "_law_holes_here", "_law_words_here", "_law_values_here", "_law_more", "_law_face", "_law_handed", "_law_over", "_law_thing", "_law_text", "_law_due", "_law_told"] "law" (Bl Yy) f cdv A outer s H E).nox scope [("_law_draws_here",s.heap.objs.size+1)] "_law_k" ["_law_draws_here"] [2]:=by
   rintro scope rfl
   refine ⟨by rfl,.inl (by decide +kernel),by rfl,by decide +kernel,.inl rfl,λy c h=>?_,by rfl,by decide +kernel,rfl,λk y j e1 e2=>?_⟩
   ·have z:=Do h
    simp only[Ag,Av,or_false,Dm] at z
    obtain ⟨rfl,rfl⟩:=z; rfl
   ·match k,e1,e2 with
    | 0,e1,e2=>cases e1; cases e2; exact ⟨rfl,rfl,by first | exact .inl rfl | exact .inr rfl⟩
    | k+1,e1,e2=>cases e1
  exact Cy (Rg Ey rfl (fE (Rf (yR (pv 0) Ry (Ri Cu)) (Ha (Ao Cu Bi)))) (Mh (i:=1) AH.nd rfl (Ei rfl))
   (Cy (Hb (i:=2) AH.nd rfl (Ol rfl) (kP G_L_draws hr1 rfl m_L_draws k_L_draws b_L_draws Gx (Ao (Aq (pv 1)) Bi)))
    (Cy (Hb (i:=3) AH.nd rfl (Ei rfl) (Jd G_L_holes hr2 rfl m_L_holes k_L_holes b_L_holes Gx (pv 2) Bi))
    (Cy (Hb (i:=4) AH.nd rfl (Ei rfl) (Ig G_L_words hr1 rfl m_L_words k_L_words b_L_words Gx (Ao (Aq (pv 3)) Bi)))
    (Cy (Hb (i:=5) AH.nd rfl (Ei rfl) (Jd G_L_values hr2 rfl m_L_values k_L_values b_L_values Gx (pv 2) Bi))
    (Cy (d0 (o:=false) (i0:=6) AH.nd rfl rfl (js1:=[]) (j0:=2) (js2:=[]) (CS1 rfl) rfl (Nr rfl mz_range (Ao Cu Bi)) (λ_ _ _=>Gd) (λ_ _ _=>Jd G_L_next hr1 rfl m_L_next k_L_next b_L_next Gx (pv 1) Bi))
    (Cy (Hb (i:=7) AH.nd rfl (Ei rfl) (Jd G_L_reading hr2 rfl m_L_reading k_L_reading b_L_reading Gx (pv 2) (Ao (Aq (pv 4)) (Ao (Aq (pv 5)) Bi))))
    (Cy (Hb (i:=8) AH.nd rfl (Ei rfl) (Kt qY (pR (i:=true)) rfl mz_list (by decide +kernel) (Ao (Aq (pv 7)) Bi)))
    (Cy (Hb (i:=9) AH.nd rfl (Ei rfl) (i8 G_L_beyond hr2 rfl m_L_beyond k_L_beyond b_L_beyond Gx (Ao (Aq (pv 4)) Bi)))
    (En (Rg Ey rfl (fE (uJ G_L_things hr2 rfl m_L_things k_L_things b_L_things Gx (Ao (kP G_L_draws hr1 rfl m_L_draws k_L_draws b_L_draws Gx (Ao (Dj (dZ rfl) yZ rfl mz_sum (by decide +kernel) (Ao (Aq (pv 6)) Bi)) Bi)) (Ao (Aq (pv 3)) (Ao (Aq (pv 4)) (Ao (Ig G_L_often hr2 rfl m_L_often k_L_often b_L_often Gx (Ao (Aq (pv 4)) (Ao (Aq (pv 7)) (Ao (Aq (pv 5)) Bi)))) Bi)))))) (Mh (i:=10) AH.nd rfl (Ei rfl))
    (Cy (Hb (i:=11) AH.nd rfl (Ei rfl) (Kt (Xa hr.gd hu100) nZ rfl mz_str (by decide +kernel) (Ao (Aq (pv 10)) Bi)))
     (Cy (Hb (i:=12) AH.nd rfl (Ei rfl) (Ig G_L_holds hr2 rfl m_L_holds k_L_holds b_L_holds Gx (Ao (Aq (pv 9)) (Ao (Aq (pv 7)) (Ao (Aq (pv 5)) (Ao (Aq (pv 10)) Bi))))))
     (Cy (Hb (i:=13) AH.nd rfl (Ei rfl) (Ig G_shows_most_often hr5 rfl m_shows_most_often k_shows_most_often b_shows_most_often Gx (Ao (Aq (pv 3)) (Ao (Aq (pv 8)) (Ao (Aq (pv 5)) (Ao (Aq (pv 10)) Bi))))))
     (En (Yd (uF (bJ (Xl (Pk (Dj Ut Uk rfl mz_isinstance (by decide +kernel) (Ao (Aq (pv 13)) (Ao (bI (n := "bool") rfl mz_bool (by decide +kernel)) Bi))))) (bJ (Yh hu64 (Aq (pv 13)) (Aq (pv 12))) (bJ (Yh hu64 (Kt (Xa hr.gd hu100) nZ rfl mz_str (by decide +kernel) (Ao (Aq (pv 10)) Bi)) (Aq (pv 11))) (gJ (Yh hu64 (Aq (pv 8)) (Aq (pv 7))))))))
     (En (Gn Yc)) Rm))))))))))))))))
   (En (Gn Yc))
 case h =>
  intro ns h63
  array_get_dec
  have lc:(Ml ns none (some 3)).length<=3:=CN 3
  refine ⟨by rw[Ad]; omega,?_⟩
  refine mF (l:=Ml ns none (some 3)++[0]) (g:=Ai) (by rw[Be]; rfl) (λi δ=>∃(l:List DV) (n':Nat),δ=⟨.scr ns::l,n'⟩/\l.length=13/\(∀v∈l,NP v)/\n'<=2500 * i) ?_ ?_ ?_
  ·exact ⟨_,_,rfl,rfl,by simp [Ov],by omega⟩
  ·(intro i c _ hc q_; obtain ⟨l,n0,rfl,hl,hv,hn⟩ := q_)
   have hi:i<4:=by
    have:=(Ap.mp hc).1
    rw[Bo,Hf] at this
    omega
   obtain ⟨v1,v2,v3,v4,v5,v6,v7,v8,v9,v10,v11,v12,v13,rfl⟩:=W5 hl
   simp only[Uv] at hv
   obtain ⟨hv1,hv2,hv3,hv4,hv5,hv6,hv7,hv8,hv9,hv10,hv11,hv12,hv13,-⟩:=hv
   array_get_dec
   refine ⟨rfl,by omega,λh h0 h1=>?_⟩
   array_get_dec
   refine ⟨h,rfl,by omega,by omega,λL hp ho=>?_⟩
   have lL:L.length=2 ^ h.toNat:=by rw[hp.length_eq,Qr]
   obtain ⟨l1,l2⟩:=Sw (n:=h.toNat) (by omega) hp
   have lp:0<L.length:=by rw[lL]; exact Nat.two_pow_pos _
   array_get_dec
   refine ⟨rfl,by omega,λvs w0 w1=>?_⟩
   array_get_dec
   refine rS (l:=Di 3) (g:=λi:Nat=>.int i) rfl rfl (λj acc m=>(∃zs:List Int,acc=zs.map Ai)/\m=n0+2+j) ⟨⟨[],rfl⟩,rfl⟩ (λj a acc m ha ⟨⟨zs,q1⟩,q2⟩=>?_) (λacc m ⟨⟨zs,q1⟩,q2⟩=>?_)
   ·obtain ⟨rfl,hj⟩:=aW ha
    array_get_dec
    refine ⟨rfl,by omega,λr3=>?_⟩
    array_get_dec
    refine ⟨⟨zs++[r3],by rw[q1,Be]; rfl⟩,by omega⟩
   subst q1
   rw[Ju] at q2
   array_get_dec
   refine ⟨L,vs,rfl,by omega,by omega,l1,λw hw=>(l2 w hw).2,by omega,λface lf=>?_⟩
   array_get_dec
   have nd:=Xz hp
   obtain ⟨f,rfl⟩:=jF nd lf
   refine ⟨L,rfl,l1,zs,rfl,h,L,f,vs,rfl,by omega,by omega,hp,w0,w1,λg hg=>?_⟩
   have gb:=λw hw=>G3 hg w0 (λu hu=>(l2 u hu).1) (λu hu=>(l2 u hu).2) 10 w hw (by omega)
   refine ⟨h,L,L.map g,rfl,by omega,by omega,lp,l1,λw hw=>(l2 w hw).2,by rw[Ad],λx hx=>?_,by omega,λts n' hts lts hn1 hn2=>?_⟩
   ·obtain ⟨w,hw,rfl⟩:=Bt.mp hx
    have:=gb w hw
    omega
   array_get_dec
   refine mF (l:=ts) (g:=λd=>d) (by simp) (λj δ=>∃(v10 v11 v12 v13:DV),δ=⟨[.scr ns,.dat .sh (.int c),.drw,.dat .sh (.int h),.dat .sh (.list (L.map Ck)),.dat .sh (.int vs),.dat .sh (.list (zs.map Ai)),.dat .sh (.list ((L.map f).map Ai)),.dat .sh (.list ((L.map f).map Ai)),.dat .sh (.list (L.map λw=>.list ((Mi L w).map Ai))),v10,v11,v12,v13],n'⟩/\NP v10/\NP v11/\NP v12/\NP v13) ?_ ?_ ?_
   ·exact ⟨_,_,_,_,rfl,hv10,hv11,hv12,hv13⟩
   ·clear hv10 hv11 hv12 hv13
    (intro j t _ ht q_; obtain ⟨v10,v11,v12,v13,rfl,hv10,hv11,hv12,hv13⟩ := q_)
    have tS:=hts t (Ax ht)
    obtain ⟨f1,f2,f3⟩:=tS.fits
    array_get_dec
    refine ⟨⟨30,by decide,f1,f2⟩,by omega,L,L.map f,vs,t,rfl,by rw[Ad],l1,w0,w1,tS.thg,λhz=>?_,λnums en ln nn=>?_⟩
    ·refine ⟨h,L.map f,vs,t,rfl,by omega,by omega,by rw[Ad,lL],w0,w1,tS.thg,λL2 hp2 ho2=>?_⟩
     obtain rfl:=bR (hp2.trans hp.symm) ho2 ho
     refine ⟨λ_=>?_,λnums e2 l2' n2=>?_⟩
     ·array_get_dec
      rw[qK]
      array_get_dec
      refine ⟨⟨30,by decide,f1,f2⟩,by omega,?_⟩
      array_get_dec
      exact ⟨_,_,_,_,rfl,Gr,Gr,Gr,Gr⟩
     ·exfalso
      rw[e2,aP l2' n2] at hz
      cases hz
    ·refine ⟨h,L.map f,vs,t,rfl,by omega,by omega,by rw[Ad,lL],w0,w1,tS.thg,λL2 hp2 ho2=>?_⟩
     obtain rfl:=bR (hp2.trans hp.symm) ho2 ho
     refine ⟨λhz=>?_,λnums2 e2 l2' n2=>?_⟩
     ·exfalso
      rw[en,aP ln nn] at hz
      cases hz
     ·obtain rfl:nums2=nums:=i6 (PyData.list.inj (e2.symm.trans en))
      rw[yU (by rw[Ad]) ln nn]
      array_get_dec
      rw[qK]
      array_get_dec
      refine ⟨⟨30,by decide,f1,f2⟩,by omega,?_⟩
      array_get_dec
      exact ⟨_,_,_,_,rfl,Gr,Gr,Gr,Gr⟩
   ·(intro _ q_; obtain ⟨v10,v11,v12,v13,rfl,hv10,hv11,hv12,hv13⟩ := q_)
    refine ⟨_,_,rfl,rfl,?_,by omega⟩
    simp only[Uv]
    exact ⟨Gr,W9,Gr,Gr,Gr,Gr,Gr,Gr,Gr,hv10,hv11,hv12,hv13,λ_ z=>(nomatch z)⟩
  ·(intro _ q_; obtain ⟨l,n',rfl,hl,hv,hn⟩ := q_)
   array_get_dec
end
structure Def(K:PySem.W.Frag)(x:Str)(st:Stmt)(f:Addr)(fd:Cg):Prop where
 nm:PySem.W.nsIn K Ci x=some (some (.ref f))
 fn:Fun K x x st f fd
theorem def_mk{K:PySem.W.Frag}{oc kV dc pm cd ct:Value}(a:PySem.W.nsIn K Ci x=some (some (.ref f)))(l:K.lookup f=some ⟨oc,od,.func (PySem.W.fnOf x x (Ot st) (Iv st) (Bl st) .none kV dc pm an cd ct),sl⟩)(c:PySem.W.codeIn K cd x=true)(k:PySem.W.keepIn K (.ref f)=true):Def K x st f (PySem.W.fnOf x x (Ot st) (Iv st) (Bl st) .none kV dc pm an cd ct):=⟨a,zZ l c k⟩
theorem HR{P:List Value->Prop}(h:P []):∀us:List Value,us.length=0->P us
 | [],_=>h
theorem AX{P:List Value->Prop}(h:∀a (us:List Value),us.length=n->P (a::us)):∀us:List Value,us.length=n+1->P us
 | a::us,e=>h a us (Nat.succ.inj e)
theorem w8{P:List Value->Prop}(h:∀a0,P [a0]):∀us:List Value,us.length=1->P us:=AX λa us e=>HR (P:=λus=>P (a::us)) (h a) us e
theorem EA{P:List Value->Prop}(h:∀a0 a1,P [a0,a1]):∀us:List Value,us.length=2->P us:=AX λa us e=>w8 (P:=λus=>P (a::us)) (h a) us e
theorem GQ{P:List Value->Prop}(h:∀a0 a1 a2,P [a0,a1,a2]):∀us:List Value,us.length=3->P us:=AX λa us e=>EA (P:=λus=>P (a::us)) (h a) us e
theorem AV{P:List Value->Prop}(h:∀a0 a1 a2 a3,P [a0,a1,a2,a3]):∀us:List Value,us.length=4->P us:=AX λa us e=>GQ (P:=λus=>P (a::us)) (h a) us e
theorem GU{P:List Value->Prop}(h:∀a0 a1 a2 a3 a4,P [a0,a1,a2,a3,a4]):∀us:List Value,us.length=5->P us:=AX λa us e=>AV (P:=λus=>P (a::us)) (h a) us e
theorem all_mk{l:PySem.W.OpenLaw}{q:Bq}{w:World}{K:PySem.W.Frag}{h:Heap}(X:K.In h)(G:h.Ns Ci mg)(hfa:mg "law" = some (.ref fa)){oc kV dc pm cd ct:Value}(D1:Def K "_law_draws" iC f1 d1)(D2:Def K "_law_next" rH f2 d2)(D3:Def K "all_words" Mj f3 d3)(D4:Def K "_law_words" Lj f4 d4)(D5:Def K "within" Vt f5 d5)(D6:Def K "showing" Su f6 d6)(D7:Def K "_law_lies" Oy f7 d7)(D8:Def K "_law_folded" Pi f8 d8)(D9:Def K "_law_holes" Qp f9 d9)(D10:Def K "_law_reading" Nw f10 d10)(D11:Def K "_law_values" Pj f11 d11)(D12:Def K "best_turns" Nk f12 d12)(D13:Def K "sure_turns" Lg f13 d13)(D14:Def K "is_whole" Ug f14 d14)(D15:Def K "are_numbers" Mg f15 d15)(D16:Def K "shows_most_often" Ib f16 d16)(D17:Def K "_law_often" Li f17 d17)(D18:Def K "_law_are_numbers" Ic f18 d18)(D19:Def K "_law_beyond" Kf f19 d19)(D20:Def K "_law_holds" Lf f20 d20)(D21:Def K "_law_things" Eg f21 d21)(aL:PySem.W.nsIn K Ci "law" = some (some (.ref f22)))(lL:K.lookup f22=some ⟨oc,od,.func (PySem.W.fnOf "law" "law" (Ot Yy) (Iv Yy) (Bl Yy) .none kV dc pm an cd ct),sl⟩)(cL:PySem.W.codeIn K cd "law" = true)(kL:PySem.W.keepIn K (.ref f22)=true)(z1:PySem.W.nsIn K Ci "range" = some none)(z2:PySem.W.nsIn K Ci "sorted" = some none)(z3:PySem.W.nsIn K Ci "all" = some none)(z4:PySem.W.nsIn K Ci "enumerate" = some none)(z5:PySem.W.nsIn K Ci "max" = some none)(z6:PySem.W.nsIn K Ci "len" = some none)(z7:PySem.W.nsIn K Ci "sum" = some none)(z8:PySem.W.nsIn K Ci "int" = some none)(z9:PySem.W.nsIn K Ci "min" = some none)(z10:PySem.W.nsIn K Ci "bool" = some none)(z11:PySem.W.nsIn K Ci "isinstance" = some none)(z12:PySem.W.nsIn K Ci "list" = some none)(z13:PySem.W.nsIn K Ci "dict" = some none)(z14:PySem.W.nsIn K Ci "zip" = some none)(z15:PySem.W.nsIn K Ci "str" = some none)(z16:PySem.W.nsIn K Ci "tuple" = some none)(tz_often:PySem.W.nsIn K Ci "often" = some none)(tz_cut_by:PySem.W.nsIn K Ci "cut_by" = some none):fV q K/\∃fd:Cg,(∀(s:Aj) (v:Value),BindsTo s fd ⟨[v],[]⟩ [("_law_script",v)])/\∀base:Heap,K.In base->base.Ns Ci mg->FnOk l.prog w K mg base Ge 6 fa fd ["_law_script"] (DL.spLawD K):=by
 have e:=hfa.symm.trans (PySem.W.mg_of X G aL)
 cases e
 have FL:=zZ (st:=Yy) lL cL kL
 have b1:=D1.fn.binds (ps:=["_law_cell"]) λ_ _ _ _ _ _=>w8 (λ_=>rfl)
 have b2:=D2.fn.binds (ps:=["_law_draws_here"]) λ_ _ _ _ _ _=>w8 (λ_=>rfl)
 have b3:=D3.fn.binds (ps:=["holes"]) λ_ _ _ _ _ _=>w8 (λ_=>rfl)
 have b4:=D4.fn.binds (ps:=["_law_holes_here"]) λ_ _ _ _ _ _=>w8 (λ_=>rfl)
 have b5:=D5.fn.binds (ps:=["one", "other"]) λ_ _ _ _ _ _=>EA (λ_ _=>rfl)
 have b6:=D6.fn.binds (ps:=["words", "reading", "word", "value"]) λ_ _ _ _ _ _=>AV (λ_ _ _ _=>rfl)
 have b7:=D7.fn.binds (ps:=["_law_one", "_law_other"]) λ_ _ _ _ _ _=>EA (λ_ _=>rfl)
 have b8:=D8.fn.binds (ps:=["_law_word"]) λ_ _ _ _ _ _=>w8 (λ_=>rfl)
 have b9:=D9.fn.binds (ps:=["_law_draws_here"]) λ_ _ _ _ _ _=>w8 (λ_=>rfl)
 have b10:=D10.fn.binds (ps:=["_law_draws_here", "_law_words_here", "_law_values_here"]) λ_ _ _ _ _ _=>GQ (λ_ _ _=>rfl)
 have b11:=D11.fn.binds (ps:=["_law_draws_here"]) λ_ _ _ _ _ _=>w8 (λ_=>rfl)
 have b12:=D12.fn.binds (ps:=["words", "reading", "numbers", "word", "value"]) λ_ _ _ _ _ _=>GU (λ_ _ _ _ _=>rfl)
 have b13:=D13.fn.binds (ps:=["words", "reading", "values", "numbers", "at"]) λ_ _ _ _ _ _=>GU (λ_ _ _ _ _=>rfl)
 have b14:=D14.fn.binds (ps:=["thing"]) λ_ _ _ _ _ _=>w8 (λ_=>rfl)
 have b15:=D15.fn.binds (ps:=["thing", "many"]) λ_ _ _ _ _ _=>EA (λ_ _=>rfl)
 have b16:=D16.fn.binds (ps:=["holes", "reading", "values", "thing"]) λ_ _ _ _ _ _=>AV (λ_ _ _ _=>rfl)
 have b17:=D17.fn.binds (ps:=["_law_words_here", "_law_face", "_law_values_here"]) λ_ _ _ _ _ _=>GQ (λ_ _ _=>rfl)
 have b18:=D18.fn.binds (ps:=["_law_words_here", "_law_thing"]) λ_ _ _ _ _ _=>EA (λ_ _=>rfl)
 have b19:=D19.fn.binds (ps:=["_law_words_here"]) λ_ _ _ _ _ _=>w8 (λ_=>rfl)
 have b20:=D20.fn.binds (ps:=["_law_over", "_law_face", "_law_values_here", "_law_thing"]) λ_ _ _ _ _ _=>AV (λ_ _ _ _=>rfl)
 have b21:=D21.fn.binds (ps:=["_law_draws_here", "_law_holes_here", "_law_words_here", "_law_due"]) λ_ _ _ _ _ _=>AV (λ_ _ _ _=>rfl)
 have m1:=PySem.W.mg_of X G D1.nm
 have m2:=PySem.W.mg_of X G D2.nm
 have m3:=PySem.W.mg_of X G D3.nm
 have m4:=PySem.W.mg_of X G D4.nm
 have m5:=PySem.W.mg_of X G D5.nm
 have m6:=PySem.W.mg_of X G D6.nm
 have m7:=PySem.W.mg_of X G D7.nm
 have m8:=PySem.W.mg_of X G D8.nm
 have m9:=PySem.W.mg_of X G D9.nm
 have m10:=PySem.W.mg_of X G D10.nm
 have m11:=PySem.W.mg_of X G D11.nm
 have m12:=PySem.W.mg_of X G D12.nm
 have m13:=PySem.W.mg_of X G D13.nm
 have m14:=PySem.W.mg_of X G D14.nm
 have m15:=PySem.W.mg_of X G D15.nm
 have m16:=PySem.W.mg_of X G D16.nm
 have m17:=PySem.W.mg_of X G D17.nm
 have m18:=PySem.W.mg_of X G D18.nm
 have m19:=PySem.W.mg_of X G D19.nm
 have m20:=PySem.W.mg_of X G D20.nm
 have m21:=PySem.W.mg_of X G D21.nm
 have y1:=PySem.W.mg_none_of X G z1
 have y2:=PySem.W.mg_none_of X G z2
 have y3:=PySem.W.mg_none_of X G z3
 have y4:=PySem.W.mg_none_of X G z4
 have y5:=PySem.W.mg_none_of X G z5
 have y6:=PySem.W.mg_none_of X G z6
 have y7:=PySem.W.mg_none_of X G z7
 have y8:=PySem.W.mg_none_of X G z8
 have y9:=PySem.W.mg_none_of X G z9
 have y10:=PySem.W.mg_none_of X G z10
 have y11:=PySem.W.mg_none_of X G z11
 have y12:=PySem.W.mg_none_of X G z12
 have y13:=PySem.W.mg_none_of X G z13
 have y14:=PySem.W.mg_none_of X G z14
 have y15:=PySem.W.mg_none_of X G z15
 have y16:=PySem.W.mg_none_of X G z16
 have tn_often:=DL.tab_no tz_often
 have tn_cut_by:=DL.tab_no tz_cut_by
 refine ⟨uO tn_often tn_cut_by,PySem.W.fnOf "law" "law" (Ot Yy) (Iv Yy) (Bl Yy) .none kV dc pm an cd ct,λs v=>.of_eq rfl,λbase _ _=>?_⟩
 have g1:=tT (P:=l.prog) (w:=w) (mg:=mg) (base:=base) D1.fn
 have g2:=u6 (P:=l.prog) (w:=w) (mg:=mg) (base:=base) D2.fn
 have g3:=gG (P:=l.prog) (w:=w) (mg:=mg) (base:=base) D3.fn y1 y2
 have g4:=cZ (P:=l.prog) (w:=w) (mg:=mg) (base:=base) D4.fn y1 y2
 have g5:=uQ (P:=l.prog) (w:=w) (mg:=mg) (base:=base) D5.fn y3
 have g6:=pD (P:=l.prog) (w:=w) (mg:=mg) (base:=base) D6.fn g5 b5 D5.fn.kp m5 y4
 have g7:=iI (P:=l.prog) (w:=w) (mg:=mg) (base:=base) D7.fn
 have g8:=aD (P:=l.prog) (w:=w) (mg:=mg) (base:=base) D8.fn
 have g9:=dH (P:=l.prog) (w:=w) (mg:=mg) (base:=base) D9.fn g2 b2 D2.fn.kp m2 y5
 have g10:=Yx (P:=l.prog) (w:=w) (mg:=mg) (base:=base) D10.fn g2 b2 D2.fn.kp m2 g8 b8 D8.fn.kp m8 y6 y7 y8
 have g11:=aV (P:=l.prog) (w:=w) (mg:=mg) (base:=base) D11.fn g2 b2 D2.fn.kp m2 y8
 have g12:=cV (P:=l.prog) (w:=w) (mg:=mg) (base:=base) D12.fn g6 b6 D6.fn.kp m6 y5
 have g13:=dD (P:=l.prog) (w:=w) (mg:=mg) (base:=base) D13.fn g12 b12 D12.fn.kp m12 y1 y9
 have g14:=jL (P:=l.prog) (w:=w) (mg:=mg) (base:=base) D14.fn y10 y11 y8
 have g15:=bZ (P:=l.prog) (w:=w) (mg:=mg) (base:=base) D15.fn g14 b14 D14.fn.kp m14 y6 y12 y11 y3
 have g16:=Tp (P:=l.prog) (w:=w) (mg:=mg) (base:=base) D16.fn g3 b3 D3.fn.kp m3 g13 b13 D13.fn.kp m13 g15 b15 D15.fn.kp m15 y6 y1 y3
 have g17:=dI (P:=l.prog) (w:=w) (mg:=mg) (base:=base) D17.fn g7 b7 D7.fn.kp m7 y13 y14 y2 y6 y5 y1 y9
 have g18:=Tq (P:=l.prog) (w:=w) (mg:=mg) (base:=base) D18.fn y6 y12 y11 y8 y10
 have g19:=cD (P:=l.prog) (w:=w) (mg:=mg) (base:=base) D19.fn g7 b7 D7.fn.kp m7 y4
 have g20:=cX (P:=l.prog) (w:=w) (mg:=mg) (base:=base) D20.fn g18 b18 D18.fn.kp m18 y4 y1
 have g21:=Zz (P:=l.prog) (w:=w) (mg:=mg) (base:=base) D21.fn g2 b2 D2.fn.kp m2 y6 y1 y12 y9 y5 y15 y16
 exact W0 FL g16 b16 D16.fn.kp m16 g1 b1 D1.fn.kp m1 g2 b2 D2.fn.kp m2 g4 b4 D4.fn.kp m4 g9 b9 D9.fn.kp m9 g10 b10 D10.fn.kp m10 g11 b11 D11.fn.kp m11 g17 b17 D17.fn.kp m17 g19 b19 D19.fn.kp m19 g20 b20 D20.fn.kp m20 g21 b21 D21.fn.kp m21 y1 y12 y7 y15 y10 y11
theorem walk{l:PySem.W.OpenLaw}{K:Params->PySem.W.Frag}(hn:l.most=some 63)(hdf:d.params.defaults=[])(hY:∀(w:World) (h:Heap),YP w h->(K w.params).In h)(F:∀(w:World) (mg:Str->Option Value) (fa:Addr) (h:Heap),(K w.params).In h->h.Ns Ci mg->mg d.name=some (.ref fa)->fV q (K w.params)/\∃fd:Cg,(∀(s:Aj) (u:Value),BindsTo s fd ⟨[u],[]⟩ [("_law_script",u)])/\∀base:Heap,(K w.params).In base->base.Ns Ci mg->FnOk l.prog w (K w.params) mg base Ge 6 fa fd ["_law_script"] (DL.spLawD (K w.params))):PySem.W.WalkO q loose XP YP l.row.toRowW d [] (λf vs=>PySem.call f vs) :=
 L2.walk_ofD (n:=63) (k:=6) (x := "_law_script") (CX:=λ_=>Ge) (sp:=λw=>DL.spLawD (K w.params)) hn (by decide) hdf ⟨rfl,by decide,by decide,rfl⟩ hY F (λ_ _ a ns hl _ hS=>⟨a,ns,rfl,hS,hl,λ_=>rfl⟩) λ_ _ _ _ _ z=>z
end K34
open PySem PySem.W PyProof.Rows
local macro_rules | `(tactic| refine $h:ident (q := $q) (loose := $l) (Xt := $a) (XP := $b) (Yf := $c) (Ya := $d) (YP := $e) (N := $n) ?hl $y*) => `(tactic| refine $h:ident (q := $q) (loose := $l) (Xt := $a) (XP := $b) (Yf := $c) (Ya := $d) (YP := $e) (N := $n) (fun _ => by kernel_rfl) $y*)
set_option maxRecDepth 100000 in
set_option maxHeartbeats 0 in
theorem PySem.Challenge.cw_needledeck_k34_numbers_that_show_at_most_holds : PySem.Challenge.rw_needledeck_k34_numbers_that_show_at_most.Holds := by
 w_on; refine holds_law (by kernel_rfl) λsaid=>?_; k_head; (case hw=>w_witness2)
 k_fill
 refine K34.walk (l:=PySem.Challenge.rw_needledeck_k34_numbers_that_show_at_most) rfl rfl (λw h Y=>PySem.W.kIn_of Y) ?F
 case F =>
  intro w mg fa h KX G hmg
  refine' K34.all_mk KX G hmg (K34.def_mk ?a1 ?l1 ?c1 ?k1) (K34.def_mk ?a2 ?l2 ?c2 ?k2) (K34.def_mk ?a3 ?l3 ?c3 ?k3) (K34.def_mk ?a4 ?l4 ?c4 ?k4) (K34.def_mk ?a5 ?l5 ?c5 ?k5) (K34.def_mk ?a6 ?l6 ?c6 ?k6) (K34.def_mk ?a7 ?l7 ?c7 ?k7) (K34.def_mk ?a8 ?l8 ?c8 ?k8) (K34.def_mk ?a9 ?l9 ?c9 ?k9) (K34.def_mk ?a10 ?l10 ?c10 ?k10) (K34.def_mk ?a11 ?l11 ?c11 ?k11) (K34.def_mk ?a12 ?l12 ?c12 ?k12) (K34.def_mk ?a13 ?l13 ?c13 ?k13) (K34.def_mk ?a14 ?l14 ?c14 ?k14) (K34.def_mk ?a15 ?l15 ?c15 ?k15) (K34.def_mk ?a16 ?l16 ?c16 ?k16) (K34.def_mk ?a17 ?l17 ?c17 ?k17) (K34.def_mk ?a18 ?l18 ?c18 ?k18) (K34.def_mk ?a19 ?l19 ?c19 ?k19) (K34.def_mk ?a20 ?l20 ?c20 ?k20) (K34.def_mk ?a21 ?l21 ?c21 ?k21) ?aL ?lL ?cL ?kL ?z1 ?z2 ?z3 ?z4 ?z5 ?z6 ?z7 ?z8 ?z9 ?z10 ?z11 ?z12 ?z13 ?z14 ?z15 ?z16 ?tz_often ?tz_cut_by
  (case a1=>k_is); (case l1=>k_is); (case c1=>k_is); (case k1=>k_is)
  (case a2=>k_is); (case l2=>k_is); (case c2=>k_is); (case k2=>k_is)
  (case a3=>k_is); (case l3=>k_is); (case c3=>k_is); (case k3=>k_is)
  (case a4=>k_is); (case l4=>k_is); (case c4=>k_is); (case k4=>k_is)
  (case a5=>k_is); (case l5=>k_is); (case c5=>k_is); (case k5=>k_is)
  (case a6=>k_is); (case l6=>k_is); (case c6=>k_is); (case k6=>k_is)
  (case a7=>k_is); (case l7=>k_is); (case c7=>k_is); (case k7=>k_is)
  (case a8=>k_is); (case l8=>k_is); (case c8=>k_is); (case k8=>k_is)
  (case a9=>k_is); (case l9=>k_is); (case c9=>k_is); (case k9=>k_is)
  (case a10=>k_is); (case l10=>k_is); (case c10=>k_is); (case k10=>k_is)
  (case a11=>k_is); (case l11=>k_is); (case c11=>k_is); (case k11=>k_is)
  (case a12=>k_is); (case l12=>k_is); (case c12=>k_is); (case k12=>k_is)
  (case a13=>k_is); (case l13=>k_is); (case c13=>k_is); (case k13=>k_is)
  (case a14=>k_is); (case l14=>k_is); (case c14=>k_is); (case k14=>k_is)
  (case a15=>k_is); (case l15=>k_is); (case c15=>k_is); (case k15=>k_is)
  (case a16=>k_is); (case l16=>k_is); (case c16=>k_is); (case k16=>k_is)
  (case a17=>k_is); (case l17=>k_is); (case c17=>k_is); (case k17=>k_is)
  (case a18=>k_is); (case l18=>k_is); (case c18=>k_is); (case k18=>k_is)
  (case a19=>k_is); (case l19=>k_is); (case c19=>k_is); (case k19=>k_is)
  (case a20=>k_is); (case l20=>k_is); (case c20=>k_is); (case k20=>k_is)
  (case a21=>k_is); (case l21=>k_is); (case c21=>k_is); (case k21=>k_is)
  (case aL=>k_is); (case lL=>k_is); (case cL=>k_is); (case kL=>k_is)
  (case z1=>k_is); (case z2=>k_is); (case z3=>k_is); (case z4=>k_is); (case z5=>k_is); (case z6=>k_is); (case z7=>k_is); (case z8=>k_is); (case z9=>k_is); (case z10=>k_is); (case z11=>k_is); (case z12=>k_is); (case z13=>k_is); (case z14=>k_is); (case z15=>k_is); (case z16=>k_is)
  (case tz_often=>k_is)
  (case tz_cut_by=>k_is)