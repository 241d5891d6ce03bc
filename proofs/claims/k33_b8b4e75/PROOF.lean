import PyProof.Rows.All
import KE.KLam
import Wide.All
import OpenK.AllK
import Wide.FinOn
import Lean
import PyProof.EqAt
import PyProof.EqKinds
import PyProof.TupleCall
import PyProof.FactsAll.set
import PyProof.FactsAll.subtypes
import KE.KTupSum
import KE.KMinBuiltin
import PyProof.Draws
import PyProof.DictWalks
import PyProof.DictCompW
import PyProof.IsiH_tuple
import PyProof.FactsAll.zip
import KE.KDictOf
import PyProof.DictValues
import KE.KSortKey
import PySem.Challenge.RW_needledeck_k33_numbers_that_show_at_leas
set_option Elab.async false
set_option linter.all false
set_option maxRecDepth 100000
set_option maxHeartbeats 4000000
set_option genSizeOf false
local macro_rules|`(tactic|omega)=>`(tactic|first|lia|omega +splitDisjunctions)
theorem e0a2{G:Prop}(k:A→B→G)(h:A∧B):G:=k h.1 h.2
theorem e0a3{G:Prop}(k:A→B→C→G)(h:A∧B∧C):G:=k h.1 h.2.1 h.2.2
theorem e0a4{G:Prop}(k:A→B→C→D→G)(h:A∧B∧C∧D):G:=k h.1 h.2.1 h.2.2.1 h.2.2.2
theorem e0a5{G:Prop}(k:A→B→C→D→E→G)(h:A∧B∧C∧D∧E):G:=k h.1 h.2.1 h.2.2.1 h.2.2.2.1 h.2.2.2.2
theorem e0a6{G:Prop}(k:A→B→C→D→E→F→G)(h:A∧B∧C∧D∧E∧F):G:=k h.1 h.2.1 h.2.2.1 h.2.2.2.1 h.2.2.2.2.1 h.2.2.2.2.2
theorem e1a1{t0:Type}{A:t0→Prop}{G:Prop}(k:∀x,A x→G)(h:∃x,A x):G:=h.elim λx h=>k x h
theorem e1a2{t0:Type}{A B:t0→Prop}{G:Prop}(k:∀x,A x→B x→G)(h:∃x,A x∧B x):G:=h.elim λx h=>k x h.1 h.2
theorem e1a3{t0:Type}{A B C:t0→Prop}{G:Prop}(k:∀x,A x→B x→C x→G)(h:∃x,A x∧B x∧C x):G:=h.elim λx h=>k x h.1 h.2.1 h.2.2
theorem e1a4{t0:Type}{A B C D:t0→Prop}{G:Prop}(k:∀x,A x→B x→C x→D x→G)(h:∃x,A x∧B x∧C x∧D x):G:=h.elim λx h=>k x h.1 h.2.1 h.2.2.1 h.2.2.2
theorem e2a1{t0 t1:Type}{A:t0→t1→Prop}{G:Prop}(k:∀x y,A x y→G)(h:∃x y,A x y):G:=h.elim λx h=>h.elim λy h=>k x y h
theorem e2a2{t0 t1:Type}{A B:t0→t1→Prop}{G:Prop}(k:∀x y,A x y→B x y→G)(h:∃x y,A x y∧B x y):G:=h.elim λx h=>h.elim λy h=>k x y h.1 h.2
theorem e2a3{t0 t1:Type}{A B C:t0→t1→Prop}{G:Prop}(k:∀x y,A x y→B x y→C x y→G)(h:∃x y,A x y∧B x y∧C x y):G:=h.elim λx h=>h.elim λy h=>k x y h.1 h.2.1 h.2.2
theorem e2a4{t0 t1:Type}{A B C D:t0→t1→Prop}{G:Prop}(k:∀x y,A x y→B x y→C x y→D x y→G)(h:∃x y,A x y∧B x y∧C x y∧D x y):G:=h.elim λx h=>h.elim λy h=>k x y h.1 h.2.1 h.2.2.1 h.2.2.2
theorem e3a1{t0 t1 t2:Type}{A:t0→t1→t2→Prop}{G:Prop}(k:∀x y z,A x y z→G)(h:∃x y z,A x y z):G:=h.elim λx h=>h.elim λy h=>h.elim λz h=>k x y z h
theorem e3a3{t0 t1 t2:Type}{A B C:t0→t1→t2→Prop}{G:Prop}(k:∀x y z,A x y z→B x y z→C x y z→G)(h:∃x y z,A x y z∧B x y z∧C x y z):G:=h.elim λx h=>h.elim λy h=>h.elim λz h=>k x y z h.1 h.2.1 h.2.2
theorem e3a4{t0 t1 t2:Type}{A B C D:t0→t1→t2→Prop}{G:Prop}(k:∀x y z,A x y z→B x y z→C x y z→D x y z→G)(h:∃x y z,A x y z∧B x y z∧C x y z∧D x y z):G:=h.elim λx h=>h.elim λy h=>h.elim λz h=>k x y z h.1 h.2.1 h.2.2.1 h.2.2.2
theorem e3a5{t0 t1 t2:Type}{A B C D E:t0→t1→t2→Prop}{G:Prop}(k:∀x y z,A x y z→B x y z→C x y z→D x y z→E x y z→G)(h:∃x y z,A x y z∧B x y z∧C x y z∧D x y z∧E x y z):G:=h.elim λx h=>h.elim λy h=>h.elim λz h=>k x y z h.1 h.2.1 h.2.2.1 h.2.2.2.1 h.2.2.2.2
theorem e4a1{t0 t1 t2 t3:Type}{A:t0→t1→t2→t3→Prop}{G:Prop}(k:∀x y z w,A x y z w→G)(h:∃x y z w,A x y z w):G:=h.elim λx h=>h.elim λy h=>h.elim λz h=>h.elim λw h=>k x y z w h
theorem e4a2{t0 t1 t2 t3:Type}{A B:t0→t1→t2→t3→Prop}{G:Prop}(k:∀x y z w,A x y z w→B x y z w→G)(h:∃x y z w,A x y z w∧B x y z w):G:=h.elim λx h=>h.elim λy h=>h.elim λz h=>h.elim λw h=>k x y z w h.1 h.2
theorem e5a2{t0 t1 t2 t3 t4:Type}{A B:t0→t1→t2→t3→t4→Prop}{G:Prop}(k:∀x y z w u,A x y z w u→B x y z w u→G)(h:∃x y z w u,A x y z w u∧B x y z w u):G:=h.elim λx h=>h.elim λy h=>h.elim λz h=>h.elim λw h=>h.elim λu h=>k x y z w u h.1 h.2
theorem e4a5{t0 t1 t2 t3:Type}{A B C D E:t0→t1→t2→t3→Prop}{G:Prop}(k:∀x y z w,A x y z w→B x y z w→C x y z w→D x y z w→E x y z w→G)(h:∃x y z w,A x y z w∧B x y z w∧C x y z w∧D x y z w∧E x y z w):G:=h.elim λx h=>h.elim λy h=>h.elim λz h=>h.elim λw h=>k x y z w h.1 h.2.1 h.2.2.1 h.2.2.2.1 h.2.2.2.2
theorem e5a5{t0 t1 t2 t3 t4:Type}{A B C D E:t0→t1→t2→t3→t4→Prop}{G:Prop}(k:∀x y z w u,A x y z w u→B x y z w u→C x y z w u→D x y z w u→E x y z w u→G)(h:∃x y z w u,A x y z w u∧B x y z w u∧C x y z w u∧D x y z w u∧E x y z w u):G:=h.elim λx h=>h.elim λy h=>h.elim λz h=>h.elim λw h=>h.elim λu h=>k x y z w u h.1 h.2.1 h.2.2.1 h.2.2.2.1 h.2.2.2.2
theorem e6a5{t0 t1 t2 t3 t4 t5:Type}{A B C D E:t0→t1→t2→t3→t4→t5→Prop}{G:Prop}(k:∀x y z w u v,A x y z w u v→B x y z w u v→C x y z w u v→D x y z w u v→E x y z w u v→G)(h:∃x y z w u v,A x y z w u v∧B x y z w u v∧C x y z w u v∧D x y z w u v∧E x y z w u v):G:=h.elim λx h=>h.elim λy h=>h.elim λz h=>h.elim λw h=>h.elim λu h=>h.elim λv h=>k x y z w u v h.1 h.2.1 h.2.2.1 h.2.2.2.1 h.2.2.2.2
theorem e4a7{t0 t1 t2 t3:Type}{A B C D E F H:t0→t1→t2→t3→Prop}{G:Prop}(k:∀x y z w,A x y z w→B x y z w→C x y z w→D x y z w→E x y z w→F x y z w→H x y z w→G)(h:∃x y z w,A x y z w∧B x y z w∧C x y z w∧D x y z w∧E x y z w∧F x y z w∧H x y z w):G:=h.elim λx h=>h.elim λy h=>h.elim λz h=>h.elim λw h=>k x y z w h.1 h.2.1 h.2.2.1 h.2.2.2.1 h.2.2.2.2.1 h.2.2.2.2.2.1 h.2.2.2.2.2.2
theorem e5a7{t0 t1 t2 t3 t4:Type}{A B C D E F H:t0→t1→t2→t3→t4→Prop}{G:Prop}(k:∀x y z w u,A x y z w u→B x y z w u→C x y z w u→D x y z w u→E x y z w u→F x y z w u→H x y z w u→G)(h:∃x y z w u,A x y z w u∧B x y z w u∧C x y z w u∧D x y z w u∧E x y z w u∧F x y z w u∧H x y z w u):G:=h.elim λx h=>h.elim λy h=>h.elim λz h=>h.elim λw h=>h.elim λu h=>k x y z w u h.1 h.2.1 h.2.2.1 h.2.2.2.1 h.2.2.2.2.1 h.2.2.2.2.2.1 h.2.2.2.2.2.2
theorem e6a7{t0 t1 t2 t3 t4 t5:Type}{A B C D E F H:t0→t1→t2→t3→t4→t5→Prop}{G:Prop}(k:∀x y z w u v,A x y z w u v→B x y z w u v→C x y z w u v→D x y z w u v→E x y z w u v→F x y z w u v→H x y z w u v→G)(h:∃x y z w u v,A x y z w u v∧B x y z w u v∧C x y z w u v∧D x y z w u v∧E x y z w u v∧F x y z w u v∧H x y z w u v):G:=h.elim λx h=>h.elim λy h=>h.elim λz h=>h.elim λw h=>h.elim λu h=>h.elim λv h=>k x y z w u v h.1 h.2.1 h.2.2.1 h.2.2.2.1 h.2.2.2.2.1 h.2.2.2.2.2.1 h.2.2.2.2.2.2
local macro_rules|`(tactic|obtain $p:rcasesPatMed:=$v:term)=>do
 let c s:=((p.raw.reprint.getD "").splitOn s).length
 if c ","<3||c "|">1||c ":">1 then Lean.Macro.throwUnsupported
 let T (a:Lean.Syntax):Lean.TSyntax `Lean.Parser.Tactic.rcasesPatMed:=⟨a⟩
 let q:=p.raw
 let x:=q[0][0]
 let l:=x[1].getSepArgs
 let mut a:Array (Lean.TSyntax ``Lean.Parser.Tactic.tacticSeq):=#[]
 let mut y:Array Lean.Term:=#[]
 let mut z:Array (Array (Lean.TSyntax `tactic)):=#[]
 for o in l do
  let u:=o[0][0][0]
  let f:=Lean.mkIdent (←Lean.Macro.addMacroScope (.mkSimple s!"f{y.size}"))
  if u[0].getId==`rfl then
   y:=y.push f
   z:=z.push #[←`(tactic|subst $f:term)]
  else if u[0].isIdent then
   y:=y.push ⟨u[0]⟩
   z:=z.push #[]
  else if u[1].isMissing then
   y:=y.push (←`(_))
   z:=z.push #[]
  else
   y:=y.push f
   z:=z.push #[←`(tactic|obtain $(T o[0]):rcasesPatMed:=$f)]
 for j in [0:l.size] do
  if j==1 then continue
  let n:=l.size-j
  let mut i:=y.extract 0 n
  let mut w:=(z.extract 0 n).flatten
  if j>0 then
   i:=i.push (←`(r_))
   w:=w.push (←`(tactic|obtain $(T (q.setArg 0 (q[0].setArg 0 (x.setArg 1 (Lean.mkNullNode (Lean.mkSepArray (l.extract n l.size) (Lean.mkAtom ","))))))):rcasesPatMed:=r_))
  for k in [0:i.size] do
   let m:=Lean.mkIdent (.mkSimple s!"e{k}a{i.size-k}")
   let g←if v.raw.isIdent then `(tactic|(revert $(⟨v⟩):ident;refine $m fun $i*=>?_)) else `(tactic|refine $m (fun $i*=>?_) $v)
   a:=a.push (←`(Lean.Parser.Tactic.tacticSeq| $g:tactic;$[$w];*))
  if j==0&& !v.raw.isIdent then
   a:=a.push (←`(Lean.Parser.Tactic.tacticSeq| have h_ := $v; obtain $p := h_))
   break
 a:=a.push (←`(Lean.Parser.Tactic.tacticSeq| rcases $v:term with $p))
 `(tactic|first $[| $a]*)
open Array renaming length_toList → Az, toList_append → Dn, getD_eq_getD_getElem? → Dt, getElem?_eq_some_iff → Gy, toList_push → Lw, getElem?_toList → Mn, toList_extract → Ng, perm_iff_toList_perm → Pi, toList_reverse → Ug, forIn_toList → Wv, getElem?_eq_getElem → jB, size_setIfInBounds → jF, getElem?_eq_none → mX
open Bool renaming false_ne_true → Bt, false_eq_true → Bx, and_eq_true → Dk, not_eq_true' → Jy, eq_iff_iff → Tr, not_eq_false' → Xy
open Classical renaming propDecidable → Ht, byContradiction → Ol
open False renaming elim → Kc
open ForInStep renaming done → Ct, yield → Fi
open Function renaming comp_def → Wn
open Int renaming toNat_natCast → Gm, le_refl → Nt, toNat_of_nonneg → Ot, zero_add → Zr
open LawfulBEq renaming eq_of_beq → Ds
open List renaming mem_cons_self → Ab, length_map → Ad, mem_cons_of_mem → Ae, mem_singleton → Af, mem_cons → Ah, mem_append_right → Al, mem_append_left → Ao, getElem?_eq_some_iff → Ap, size_toArray → Aq, not_mem_nil → Av, map_cons → Aw, mem_of_getElem? → Ax, mem_append → Ay, getElem?_eq_getElem → Ba, pairwise_cons → Bb, getElem?_map → Be, map_append → Bi, replicate → Bl, length_append → Bn, length_cons → Br, mem_map → Bu, append_assoc → Bw, nodup_cons → By, pairwise_append → Ca, lookup_cons → Cb, map_map → Ce, sublist_append_right → Cf, mem_filter → Ck, sublist_cons_self → Cv, length_take → Cw, nodup_nil → Dc, all_eq_true → Dh, range → Di, append_nil → Dz, getElem?_take_of_lt → Ei, take_of_length_le → Er, map_set → Es, pairwise_iff_getElem → Eu, length → Fb, cons_append → Fc, getElem?_append_right → Fl, replicate_succ → Fn, map_congr_left → Fo, perm_append_comm → Fv, mem_iff_getElem? → Fw, take_length → Ga, perm_middle → Gb, pairwise_singleton → Ge, nodup_append → Gf, mem_replicate → Ha, filter_append → Hb, length_singleton → Hd, length_replicate → He, reverse_perm → Hm, mem_iff_getElem → Hn, getElem?_set → Ho, flatten_cons → Hq, ext_getElem? → Hr, length_reverse → Ia, mem_flatMap → Ih, length_nil → Iz, find?_cons → Ja, dropLast_concat_getLast → Jb, any_cons → Jd, take_append_drop → Jp, take_add_one → Ju, length_range → Jv, drop_sublist → Jw, mem_range → Kf, map_nil → Ki, getElem?_append_left → Kn, extract_eq_take_drop → Ko, length_zipIdx → Lk, lookup → Lm, take_sublist → Mb, pairwise_reverse → Mp, eraseIdx_sublist → Mq, mem_reverse → Mx, getElem?_set_ne → Nm, filterMap_cons → Oj, all_map → Os, set_cons_succ → Pr, mem_of_find?_eq_some → Qj, reverse_cons → Qk, eraseIdx_cons_succ → Ri, filter_eq_nil_iff → Si, any_map → Sj, forIn_cons → Tq, getElem?_reverse → Tx, forall_mem_cons → Ux, forIn_nil → Uy, all_cons → Wq, zip_cons_cons → Xv, getElem?_drop → Xw, filterMap_map → Xx, pairwise_map → Zd, mk_mem_zipIdx_iff_getElem? → Zq, zipIdx_cons → cQ, take_subset → cR, length_drop → cS, isEmpty_iff → cT, length_erase_of_mem → mN, mem_singleton_self → mT, length_eq_zero_iff → mU, getElem?_cons_succ → mV, length_pos_of_mem → pQ, getElem?_set_self → pR, append_eq_nil_iff → pT, filter_eq_self → vH, find?_eq_none → w4
open List.Pairwise renaming sublist → Ib, nil → Kq
open List.Perm renaming swap → Fe, append_left → Lo
open List.Sublist renaming refl → Cr
open List.cons renaming inj → Do
open Nat renaming le_refl → Ak, le_trans → Bz, lt_of_lt_of_le → Cc, ne_of_lt → Cd, zero_le → Dg, lt_irrefl → Fk, lt_of_le_of_lt → Iw, le_add_right → Km, not_lt_zero → Oi, zero_add → Pe, le_of_lt → Pf, pow_le_pow_right → Ve, le_succ → Vf, lt_succ_of_lt → Zp
open Ne renaming symm → Ll
open Option renaming none → Px, isSome_iff_exists → Qi
open Option.some renaming inj → Bp
open Or renaming inl → Eh, inr → Oq
open Prod.mk renaming injEq → Eb
open PyProof.Rows renaming wpS_bind → Bd, pendingOf → Bj, wpS_pure → Bk, SortSt → Bv, seqObj → Df, wpS_forRange → Eg, slot_tuple_getitem → Ej, callWith_type1 → Ey, wpS_mono → Gx, wpS_modify → Jq, IntsAre → Kj, failedOf → Ky, listUpdate_at → Lu, SortKind → Lv, get?_update_seq → Ma, wpS_get → Nb, AllBare → Sn, reverseSlice' → To, oneType' → Ud, size_push' → Vb, seqEpoch_at → Yo, callWith_kw → Zc, subscriptTail → cO, firstOfTuple' → cP, listItems_at → fT, subscriptTail_builtinR → x3
open PyProof.Rows.SortSt renaming mk' → Wl
open PySem renaming wpAny_bind → Aa, PyData → Ac, Shared → Aj, wpAny_pure → Am, sizeLine → Au, starEach → Bq, Program → Bs, FuncData → Cg, mainGlobals → Ci, Around → Cs, wpAny_holding → Dd, wpAny_newObj_type → Du, wpAny_callSpecial?_slot → Ed, foldedSetIterable → Ee, cellsFrom → Ep, wpAny_field → Et, wpAny_call_entry → Ew, IsPair → Fh, wpAny_truthy_bool → Fq, wpAny_seqItems → Fs, wpAny_mono → Ft, sysModules → Fu, behindInMarks → Gd, backTo → Gu, wpAny_setField_rec → Hl, compareOp → Hy, DictEntry → Hz, wpAny_attempt → Ik, binaryOp → Iv, wpAny_typeNameOfWhole_keyiter → Jl, unsetMember → Jm, sliceBounds → Jn, sizeLine_eq → Jo, wpAny_Call_Name_kw → Jr, rawInt → Js, bootBuiltins → Jt, swapsWith → Kd, wpAny_rule → Kw, pyNext → Kx, assignEach → Kz, wpAny_typeOf → La, wpAny_typeNameOf_keyiter → Ls, wpAny_letGo → Mm, intItems → Nc, wpAny_isInstance → Oh, plainId_quiet → On, codeAny → Oo, NameKind → Pg, wpAny_passesOwn → Pw, tupleKind → Ra, newFunctionEnv → Rf, ZipApart → Rg, getItem → Sh, Keyword → Sk, wpAny_comprehension_free → Tj, strLen_append → Tn, attributeBase → Tp, wpAny_nextOf_list_item → Va, codeAny_compStart_list → Vc, builtinsNs → Vd, wpAny_loadPart' → Wi, letOwnedTupleGo → Wj, codeAny_builtin → Wk, wpAny_notOrdered_dict → Wp, wpAny_updateSeq_pair → Yl, wpAny_tryCatch → Ym, wpAny_newTuple → Yn, keywordEach → Yp, firstArgMember → Yq, IsPart → Yr, callerA → Zb, wpAny_onRaise → cM, wpAny_newList → cN, tupleKind_room_in1 → cU, entryOfKey → cV, call_meets → cW, wpAny_sequenceKey → fP, wpAny_pyIter_list → fQ, wpAny_dictEntries → fR, slot_list_getitem → fS, wpAny_pyIter_zip → jD, noFill_tuple_add → jE, wpAny_getItem_list_slice → vG
open PySem.Around renaming under_plainId → My
open PySem.Builtin.Builtins renaming bindParams → Ue
open PySem.Builtin.Dict renaming updateFrom → Zs
open PySem.Builtin.Dict_items renaming ownsTuple → Sm
open PySem.Builtin.List renaming listTooLong → Ka
open PySem.Builtin.Slice renaming slicePlaces → Jc, sliceAdjust → Nf, sliceApplied → Wu
open PySem.Builtin.SmallTypes renaming ownedTupleIsFree → Cu, nextOf → Cz, ownedTupleHandOut → Pt
open PySem.Builtin.Tuple renaming tupleExact → Jx, tupleItemsOf → Wr, tupleIsExact → Wt
open PySem.Calls renaming spliced_cons → Ph, spliced_nil → Ys, Name_function_global → fU, callWith_builtin → mW
open PySem.F renaming slot_zip_next → Uz
open PySem.Heap renaming get?_push_of_some → Ai, get?_push_size → Bf, lt_size → Bg, SameBut → Dm, get?_update_other → Fm, get?_update_self → Fz, size_update → Ii, size_push → Ij
open PySem.Heap.SameBut renaming update → Co
open PySem.NameKind renaming free → Dx, cell → Dy
open PySem.Obj renaming mapSeq → Cq
open PySem.PassesOwn renaming never → Ex
open PySem.PyData renaming int → Ag, depthAll → Bo, depth → Cm, showable → Iq, hasDict → Ln, shownAll → Nl, shown → Og, showableAll → Wm, hasDictAll → Xu
open PySem.SeqAt renaming EqAt → Mo
open PySem.Str renaming ofString → Dr
open PySem.Value renaming ref → Bc, type → Hs, none → Ip, int → Uw
open Sum renaming inl → Rb
open ToString renaming toString → Re
open True renaming intro → Ke
namespace L2
open PySem PySem.Spec PyProof.Rows
abbrev Hj:=Sum Int Str
def eO:Hj->Value->Bool
 | .inl k,v=>Value.isInt k v
 | .inr x,v=>Value.isStrOf x v
def GS(w:World):Hj->Int
 | .inl k=>hashInt k
 | .inr x=>hashStr w x
theorem Hi:∀{k:Hj} {v:Value},eO k v=true->(∃i t,k=Rb i/\v=Uw i t)\/(∃x t,k=Sum.inr x/\v=Value.str x t)
 | .inl i,v,h=>by
  obtain ⟨t,e⟩:=Value.isInt_shape (k:=i) (v:=v) h
  exact .inl ⟨i,t,rfl,e⟩
 | .inr x,v,h=>by
  obtain ⟨t,e⟩:=Value.isStrOf_shape (x:=x) (v:=v) h
  exact .inr ⟨x,t,rfl,e⟩
theorem tY(i:Int)(t:Tok):eO (.inl i) (.int i t)=true:=by simp [eO,Value.isInt]
theorem tH(x:Str)(t:Tok):eO (.inr x) (.str x t)=true:=by simp [eO,Value.isStrOf]
theorem Z6(a b:Int):decide ((Rb a:Hj)=Rb b)=(a == b):=by
 by_cases e:a=b
 ·subst e; simp
 ·have h:¬ (Rb a:Hj)=Rb b:=λq=>e (Sum.inl.inj q)
  rw[decide_eq_false h]
  exact (beq_eq_false_iff_ne.mpr e).symm
theorem Y5(a b:Str):decide ((Sum.inr a:Hj)=Sum.inr b)=decide (a=b):=by
 by_cases e:a=b
 ·subst e; simp
 ·have h:¬ (Sum.inr a:Hj)=Sum.inr b:=λq=>e (Sum.inr.inj q)
  rw[decide_eq_false h,decide_eq_false e]
theorem V2(a:Int)(b:Str):decide ((Rb a:Hj)=Sum.inr b)=false:=decide_eq_false (λq=>nomatch q)
theorem T1(a:Str)(b:Int):decide ((Sum.inr a:Hj)=Rb b)=false:=decide_eq_false (λq=>nomatch q)
def Hf(prog:Bs)(w:World):PySem.KeyKind prog w Hj where
 is:=eO
 hash:=GS w
 inj:=λv a b ha hb=>by
  rcases Hi ha with ⟨i,t,rfl,rfl⟩ | ⟨x,t,rfl,rfl⟩
  ·rcases Hi hb with ⟨j,u,rfl,e⟩ | ⟨y,u,rfl,e⟩
   ·injection e with e1 _; rw[e1]
   ·exact nomatch e
  ·rcases Hi hb with ⟨j,u,rfl,e⟩ | ⟨y,u,rfl,e⟩
   ·exact nomatch e
   ·injection e with e1 _; rw[e1]
 byValue:=λk v h=>by
  rcases Hi h with ⟨i,t,rfl,rfl⟩ | ⟨x,t,rfl,rfl⟩ <;> rfl
 pyHash:=λhv h=>by
  rcases Hi hv with ⟨i,t,rfl,rfl⟩ | ⟨x,t,rfl,rfl⟩
  ·exact wpAny_pyHash_int h
  ·exact wpAny_pyHash_str h
 eqBool:=λhu hv h=>by
  rcases Hi hu with ⟨i,t,rfl,rfl⟩ | ⟨x,t,rfl,rfl⟩
  ·rcases Hi hv with ⟨j,u,rfl,rfl⟩ | ⟨y,u,rfl,rfl⟩
   ·rw[Z6] at h; exact wpAny_eqBool_int h
   ·rw[V2] at h; exact SeqAt.EqAt.int_str i t y u _ _ _ _ h
  ·rcases Hi hv with ⟨j,u,rfl,rfl⟩ | ⟨y,u,rfl,rfl⟩
   ·rw[T1] at h; exact SeqAt.EqAt.str_int x t j u _ _ _ _ h
   ·rw[Y5] at h; exact wpAny_eqBool_str h
 «strs»:=λk x t v h=>by
  rcases Hi h with ⟨i,u,rfl,e⟩ | ⟨y,u,rfl,e⟩
  ·exact nomatch e
  ·injection e with e1 _
   subst e1
   cases v <;> rfl
theorem kP(prog:Bs)(w:World)(i:Int)(t:Tok):(Hf prog w).is (.inl i) (.int i t)=true:=tY i t
theorem lU(prog:Bs)(w:World)(x:Str)(t:Tok):(Hf prog w).is (.inr x) (.str x t)=true:=tH x t
inductive V where
 | non | bl (b:Bool) | int (i:Int) | str (x:Str) | byt (b:Array UInt8) | flt (b:UInt64) | ref (a:Addr) | ty (n:String)
 deriving DecidableEq
def RelV:V->Value->Prop
 | .non,u=>u=Ip
 | .bl b,u=>u=Value.bool b
 | .int i,u=>∃t,u=Uw i t
 | .str x,u=>∃t,u=Value.str x t
 | .byt b,u=>∃t,u=Value.bytes b t
 | .flt b,u=>∃t,u=Value.float b t
 | .ref a,u=>u=Bc a
 | .ty n,u=>u=Hs n
abbrev Fg:List V->List Value->Prop:=Paired RelV
theorem Fg.length(r:Fg xs us):xs.length=us.length:=Paired.length r
theorem Fg.get:∀{xs:List V} {us:List Value} {i:Nat} {x:V},Fg xs us->xs[i]? = some x->∃u,us[i]? = some u/\RelV x u
 | _,_,_,_,.nil,e=>by simp at e
 | _,_,0,_,.cons r _,e=>by simp at e; subst e; exact ⟨_,rfl,r⟩
 | _,_,i+1,x,.cons _ t,e=>by
  obtain ⟨u,h1,h2⟩:=Fg.get (i:=i) (x:=x) t (by simpa using e)
  exact ⟨u,by simpa using h1,h2⟩
theorem Fg.set(r:RelV x u):∀{xs:List V} {us:List Value} (i:Nat),Fg xs us->Fg (xs.set i x) (us.set i u)
 | _,_,_,.nil=>.nil
 | _,_,0,.cons _ t=>.cons r t
 | _,_,i+1,.cons q t=>.cons q (Fg.set r i t)
theorem Fg.append:∀{xs ys:List V} {us ws:List Value},Fg xs us->Fg ys ws->Fg (xs++ys) (us++ws)
 | _,_,_,_,.nil,s=>s
 | _,_,_,_,.cons r t,s=>.cons r (Fg.append t s)
theorem Fg.take:∀{xs:List V} {us:List Value} (n:Nat),Fg xs us->Fg (xs.take n) (us.take n)
 | _,_,0,_=>.nil
 | _,_,_+1,.nil=>.nil
 | _,_,n+1,.cons r t=>.cons r (Fg.take n t)
theorem Fg.drop:∀{xs:List V} {us:List Value} (n:Nat),Fg xs us->Fg (xs.drop n) (us.drop n)
 | _,_,0,r=>r
 | _,_,_+1,.nil=>.nil
 | _,_,n+1,.cons _ t=>Fg.drop n t
def kT:Option V->Option Value->Prop
 | some v,some u=>RelV v u
 | none,none=>True
 | _,_=>False
def KV{κ:Type}:List (κ×V)->List (κ×Value)->Prop:=Paired λ(p:κ×V) (q:κ×Value)=>p.1=q.1/\RelV p.2 q.2
def kV:Hj->V
 | .inl i=>.int i
 | .inr x=>.str x
inductive HO where
 /-- a list -/
 | lst (xs:List V)
 /-- a tuple (never changes) -/
 | tup (xs:List V)
 /-- a dict whose keys are ints and texts; one whose keys are tuples of ints and texts (the empty one is both) -/
 | dK (kvs:List (Hj×V)) | dT (kvs:List (List Hj×V))
 /-- a set of ints: its members,its size -/
 | set (S:Int->Bool) (n:Nat)
 /-- an instance of the class at C,its dict at dx,its attributes -/
 | ins (C dx:Addr) (fs:List (Str×V))
 /-- the dict of the instance at x -/
 | own (x:Addr)
 /-- the dict of an exception -/
 | xd (fs:List (Str×V))
 /-- a bound method,f of x -/
 | met (f x:Addr)
 /-- a range object lo,lo+1,.. below hi -/
 | rng (lo hi:Int)
 /-- a thing that is known to the object (the script; a dict while a loop walks it): read,never written while it is so -/
 | frz (o:Obj) (u:HO)
 /-- a code object's table -/
 | tbl (ps:Array Value)
 /-- any other thing,by what is true of its one object (a def of one's own: GG a S n:=HO.ext λh=>..) -/
 | ext (φ:Heap->Prop)
abbrev Hp:=Addr->Option HO
def upd(H:Hp)(a:Addr)(o:HO):Hp:=λb=>if b=a then some o else H b
theorem Cp:upd H a o a=some o:=by unfold upd; rw[if_pos rfl]
theorem Cy(h:b≠a):upd H a o b=H b:=by unfold upd; rw[if_neg h]
theorem sD{H:Hp}(h:H a=some o)(h':H b=some u)(d:o≠u):a≠b:=by
 intro e; subst e; rw[h] at h'; exact d (Bp h')
theorem Dw{H:Hp}(h:H a=some o)(h':H b=none):a≠b:=by
 intro e; subst e; rw[h] at h'; cases h'
section
variable(P:Bs)(w:World)
def Hg(H:Hp)(h:Heap)(a:Addr):HO->Prop
 | .lst xs=>xs.length<=Au/\∃(its:List Value) (n:Nat),Fg xs its/\h.get? a=some { cls:=.type "list",data:=.seq its.toArray n }
 | .tup xs=>xs.length<=Au/\∃its:List Value,Fg xs its/\IsTup h a its.toArray
 | .dK kvs=>kvs.length<=Au/\(a == Fu)=false/\∃vs,KV kvs vs/\h.DictOf (Hf P w) a vs
 | .dT kvs=>kvs.length<=Au/\(a == Fu)=false/\∃xs:List (List Hj×Addr×Value),
   Paired (λ(p:List Hj×V) (q:List Hj×Addr×Value)=>p.1=q.1/\H q.2.1=some (.tup (p.1.map kV))/\RelV p.2 q.2.2) kvs xs /\
   ∃o es ep,h.get? a=some o/\o.ExactDict/\o.data=.dict es ep/\es.toList=xs.map (cV (Ra (Hf P w)))/\(xs.map (·.1)).Nodup/\ep=es.size
 | .set S n=>h.SetOf (intKind P w) a S n
 | .ins C dx fs=>H dx=some (.own a)/\fs.length<=1000/\dx≠a/\h.get? a=some (PySem.W.instObj C dx) /\
   ∃mA,h.Ns1 dx mA/\(∀f,kT (fs.lookup f) (mA f))/\PySem.Within mA (fs.map (·.1))
 | .own _=>∃o,h.get? a=some o
 | .xd fs=>∃mA,h.Ns1 a mA/\∀f,kT (fs.lookup f) (mA f)
 | .rng lo hi=>∃t u v,h.get? a=some { cls:=.type "range",data:=.fields #[.int lo t,.int hi u,.int 1 v] }
 | .frz o u=>h.get? a=some o/\Hg H h a u
 | .tbl ps=>∃qs:Array Value,h.get? a=some { cls:=.none,data:=.fields qs }/\TriplesOk qs.toList/\∀(pos:Pos) (v:Value),codeAmong pos qs.toList=some v->∃(c:Addr) (oc:Obj) (us:Array Value) (q:Str) (t t0:Tok),v=.ref c/\H c=some (.own a)/\h.get? c=some oc/\oc.data=.fields us/\us[1]? = some (.str q t)/\ps[0]? = some (.str q t0)
 | .met f x=>h.get? a=some (PySem.W.methodObj (.ref f) (.ref x))
 | .ext φ=>φ h/\(∃o,h.get? a=some o)/\∀h1 h2:Heap,φ h1->(∀o,h1.get? a=some o->h2.get? a=some o)->φ h2
def Wo(H:Hp)(h:Heap):Prop:=∀a o,H a=some o->Hg P w H h a o
end
section
variable{P:Bs}{w:World}{H H':Hp}{h h':Heap}{a:Addr}{o:HO}
theorem Hg.lt(x:Hg P w H h a o):a<h.objs.size:=by
 cases o with
 | lst xs=>obtain ⟨_,_,_,_,e⟩:=x; exact Bg e
 | tup xs=>obtain ⟨_,_,_,p⟩:=x; exact p.lt
 | dK kvs=>obtain ⟨_,_,_,_,o,_,_,e,_⟩:=x; exact Bg e
 | dT kvs=>obtain ⟨_,_,_,_,o,_,_,e,_⟩:=x; exact Bg e
 | set S n=>obtain ⟨o,_,_,_,e,_⟩:=x; exact Bg e
 | ins C dx fs=>obtain ⟨_,_,_,e,_⟩:=x; exact Bg e
 | own y=>obtain ⟨_,e⟩:=x; exact Bg e
 | xd fs=>obtain ⟨_,⟨_,_,_,e,_⟩,_⟩:=x; exact Bg e
 | rng lo hi=>obtain ⟨_,_,_,e⟩:=x; exact Bg e
 | frz ob u=>obtain ⟨e,_⟩:=x; exact Bg e
 | tbl ps=>obtain ⟨_,e,_⟩:=x; exact Bg e
 | met f y=>exact Bg (show h.get? a=some _ from x)
 | ext φ=>obtain ⟨_,⟨_,e⟩,_⟩:=x; exact Bg e
theorem Paired.mapP:∀{l₁:List α} {l₂:List β},Paired F l₁ l₂->(∀a b,F a b->G a b)->Paired G l₁ l₂
 | _,_,.nil,_=>.nil
 | _,_,.cons r t,f=>.cons (f _ _ r) (Paired.mapP t f)
theorem Hg.stay(x:Hg P w H h a o)(k:∀b u,(b=a\/H b=some (.own a))->h.get? b=some u->h'.get? b=some u)(ho:∀b,H b=some (.own a)->H' b=some (.own a))(ht:∀b xs,H b=some (.tup xs)->H' b=some (.tup xs)):Hg P w H' h' a o:=by
 induction o with
 | lst xs=>obtain ⟨z,its,n,r,e⟩:=x; exact ⟨z,its,n,r,k _ _ (.inl rfl) e⟩
 | tup xs=>obtain ⟨z,its,r,ob,e,c⟩:=x; exact ⟨z,its,r,ob,k _ _ (.inl rfl) e,c⟩
 | dK kvs=>obtain ⟨z,y,vs,r,ob,es,ep,e,c⟩:=x; exact ⟨z,y,vs,r,ob,es,ep,k _ _ (.inl rfl) e,c⟩
 | dT kvs =>
  obtain ⟨z,y,xs,r,ob,es,ep,e,c⟩:=x
  exact ⟨z,y,xs,Paired.mapP r λp q z=>⟨z.1,ht _ _ z.2.1,z.2.2⟩,ob,es,ep,k _ _ (.inl rfl) e,c⟩
 | set S n=>obtain ⟨ob,es,ep,t,e,c⟩:=x; exact ⟨ob,es,ep,t,k _ _ (.inl rfl) e,c⟩
 | ins C dx fs =>
  obtain ⟨d,z,ne,e,mA,⟨od,es,ep,e2,c⟩,r⟩:=x
  exact ⟨ho _ d,z,ne,k _ _ (.inl rfl) e,mA,⟨od,es,ep,k _ _ (.inr d) e2,c⟩,r⟩
 | own y=>obtain ⟨ob,e⟩:=x; exact ⟨ob,k _ _ (.inl rfl) e⟩
 | xd fs=>obtain ⟨mA,⟨od,es,ep,e,c⟩,r⟩:=x; exact ⟨mA,⟨od,es,ep,k _ _ (.inl rfl) e,c⟩,r⟩
 | rng lo hi=>obtain ⟨t,u,v,e⟩:=x; exact ⟨t,u,v,k _ _ (.inl rfl) e⟩
 | frz ob u ih=>obtain ⟨e,q⟩:=x; exact ⟨k _ _ (.inl rfl) e,ih q⟩
 | tbl ps =>
  obtain ⟨qs,e,t,z⟩:=x
  exact ⟨qs,k _ _ (.inl rfl) e,t,λpos v y=>by
   obtain ⟨c,oc,us,q,t,t0,h1,h2,h3,h4⟩:=z pos v y
   exact ⟨c,oc,us,q,t,t0,h1,ho _ h2,k _ _ (.inr h2) h3,h4⟩⟩
 | met f y =>
  have e:h.get? a=some (PySem.W.methodObj (.ref f) (.ref y)):=x
  show h'.get? a=some (PySem.W.methodObj (.ref f) (.ref y))
  exact k a _ (.inl rfl) e
 | ext φ=>obtain ⟨p,⟨o,e⟩,st⟩:=x; exact ⟨st _ _ p λo q=>k _ _ (.inl rfl) q,⟨o,k _ _ (.inl rfl) e⟩,st⟩
theorem Wo.lt(x:Wo P w H h)(e:H a=some o):a<h.objs.size:=(x a o e).lt
theorem Wo.fresh(x:Wo P w H h)(e:h.objs.size<=a):H a=none:=by
 cases q:H a with
 | none=>rfl
 | some u=>exact absurd (Cc (x.lt q) e) (Fk _)
theorem Wo.kept(x:Wo P w H h)(k:∀b u,h.get? b=some u->h'.get? b=some u):Wo P w H h':=λa o e =>
 (x a o e).stay (λb u _ q=>k b u q) (λ_ q=>q) λ_ _ q=>q
theorem Wo.laid(x:Wo P w H h)(k:∀b u,h.get? b=some u->h'.get? b=some u)(hp:h.objs.size<=a)(new:Hg P w (upd H a o) h' a o):Wo P w (upd H a o) h':=λb u e=>by
 have hn:=x.fresh hp
 by_cases hb:b=a
 ·subst hb; rw[Cp] at e; cases e; exact new
 ·rw[Cy hb] at e
  exact (x b u e).stay (λc v _ q=>k c v q) (λc q=>by rw[Cy (Dw q hn)]; exact q) λc xs q=>by rw[Cy (Dw q hn)]; exact q
end
def Rd(H:Hp)(a:Addr)(u:HO):Prop:=H a=some u\/∃o,H a=some (.frz o u)
theorem Rd.ok(r:Rd H a u)(x:Wo P w H h):Hg P w H h a u:=by
 rcases r with r | ⟨o,r⟩
 ·exact x a u r
 ·obtain ⟨_,q⟩:=x a _ r
  exact q
def DQ:Option HO->Prop
 | some (.lst _)=>True
 | some (.dK _)=>True
 | some (.dT _)=>True
 | some (.set _ _)=>True
 | some (.ins _ _ _)=>True
 | some (.ext _)=>True
 | _=>False
section
variable{P:Bs}{w:World}{H:Hp}{h h':Heap}{x e:Addr}{o':HO}
theorem Wo.write(ok:Wo P w H h)(mu:DQ (H x))(he:e=x\/H e=some (.own x))(k:∀b u,b≠e->h.get? b=some u->h'.get? b=some u)(heo:∃u,h'.get? e=some u)(new:Hg P w (upd H x o') h' x o'):Wo P w (upd H x o') h':=λb u q=>by
 have nown:∀c y,H c=some (.own y)->c≠x:=λc y r z=>by subst z; rw[r] at mu; exact mu
 have gK:∀c xs,H c=some (.tup xs)->c≠x:=λc xs r z=>by subst z; rw[r] at mu; exact mu
 by_cases hb:b=x
 ·subst hb; rw[Cp] at q; cases q; exact new
 ·rw[Cy hb] at q
  by_cases hbe:b=e
  ·have q':H b=some (.own x):=by
    rcases he with z | z
    ·exact absurd (hbe.trans z) hb
    ·rw[hbe]; exact z
   rw[q] at q'; cases q'
   obtain ⟨v,hv⟩:=heo
   exact ⟨v,by rw[hbe]; exact hv⟩
  ·refine (ok b u q).stay (λc v hc r=>k c v ?_ r) (λc r=>by rw[Cy (nown c b r)]; exact r) λc xs r=>by rw[Cy (gK c xs r)]; exact r
   rcases hc with rfl | hc
   ·exact hbe
   ·rintro rfl
    rcases he with z | z
    ·exact nown c b hc z
    ·rw[hc] at z; cases z; exact hb rfl
end
structure Un(fs ex:List Addr)(H H':Hp)(h h':Heap):Prop where
 keep:∀b o,h.get? b=some o->H b=none->b∉fs->b∉ex->h'.get? b=some o
 slot:∀b o,h.get? b=some o->H b=none->b∈fs->b∉ex->∃sl,h'.get? b=some { o with slots:=sl }
 free:∀b o,h.get? b=some o->H b=none->b∉ex->H' b=none
 there:∀b o,h.get? b=some o->b∉ex->∃o',h'.get? b=some o'
 tups:∀b xs,H b=some (.tup xs)->H' b=some (.tup xs)
 frzs:∀b o u,H b=some (.frz o u)->H' b=some (.frz o u)
 tbls:∀b ps,H b=some (.tbl ps)->∃more,H' b=some (.tbl (ps++more))
section
variable{fs fs' ex ex':List Addr}{H H1 H2:Hp}{h h1 h2 h':Heap}{a x e:Addr}{o:HO}
theorem Un.any(u:Un fs ex H H1 h h1)(q:h.get? b=some ob)(n:H b=none)(hx:b∉ex):∃sl,h1.get? b=some { ob with slots:=sl }:=by
 by_cases hb:b∈fs
 ·exact u.slot b ob q n hb hx
 ·exact ⟨ob.slots,u.keep b ob q n hb hx⟩
theorem Un.kept(k:∀b u,h.get? b=some u->h'.get? b=some u):Un fs ex H H h h' :=
 ⟨λb ob q _ _ _=>k b ob q,λb ob q _ _ _=>⟨ob.slots,k b ob q⟩,λ_ _ _ n _=>n,λb ob q _=>⟨ob,k b ob q⟩,λ_ _ q=>q,λ_ _ _ q=>q,λ_ ps q=>⟨#[],by rw[q]; simp⟩⟩
theorem Un.refl:Un fs ex H H h h:=Un.kept λ_ _ q=>q
theorem Un.laid(k:∀b u,h.get? b=some u->h'.get? b=some u)(hp:h.objs.size<=a)(hn:H a=none):Un fs ex H (upd H a o) h h' where
 keep:=λb u q _ _ _=>k b u q
 slot:=λb u q _ _ _=>⟨u.slots,k b u q⟩
 free:=λb u q n _=>by rw[Cy (Cd (Cc (Bg q) hp))]; exact n
 there:=λb u q _=>⟨u,k b u q⟩
 tups:=λb xs q=>by rw[Cy (Dw q hn)]; exact q
 frzs:=λb u xs q=>by rw[Cy (Dw q hn)]; exact q
 tbls:=λb ps q=>⟨#[],by rw[Cy (Dw q hn),q]; simp⟩
theorem Un.write(mu:DQ (H x))(he:e=x\/H e=some (.own x))(k:∀b u,b≠e->h.get? b=some u->h'.get? b=some u)(heo:∃u,h'.get? e=some u):Un fs ex H (upd H x o) h h':=by
 have hx:∀b,H b=none->b≠x:=λb n z=>by subst z; rw[n] at mu; exact mu
 have hb:∀b,H b=none->b≠e:=λb n z=>by
  subst z
  rcases he with r | r
  ·exact hx b n r
  ·rw[n] at r; cases r
 have hm:∀b u,H b=some u->¬ DQ (some u)->b≠x:=λb u q nm z=>by subst z; rw[q] at mu; exact nm mu
 refine ⟨λb u q n _ _=>k b u (hb b n) q,λb u q n _ _=>⟨u.slots,k b u (hb b n) q⟩,λb u q n _=>by rw[Cy (hx b n)]; exact n,λb u q _=>?_,
  λb xs q=>by rw[Cy (hm b _ q λz=>z)]; exact q,λb u xs q=>by rw[Cy (hm b _ q λz=>z)]; exact q,λb ps q=>⟨#[],by rw[Cy (hm b _ q λz=>z),q]; simp⟩⟩
 by_cases hbe:b=e
 ·subst hbe; exact heo
 ·exact ⟨u,k b u hbe q⟩
end
def FH(h:Heap)(H:Hp):List Addr:=(Di h.objs.size).filter λa=>(H a).isSome
def dD(h:Heap)(H:Hp):Heap:=PySem.W.hideAll h (FH h H)
theorem tM(h:Heap)(H:Hp):(dD h H).objs.size=h.objs.size:=PySem.W.hideAll_size _ _
theorem zG(e:h.get? b=some o)(n:H b=none):(dD h H).get? b=some o :=
 PySem.W.hideAll_get _ e λhm=>by
  have q:(H b).isSome=true:=(Ck.mp hm).2
  rw[n] at q; simp at q
theorem K6(e:(dD h H).get? b=some o):h.get? b=some o/\H b=none:=by
 have e':h.get? b=some o:=PySem.W.of_hideAll (FH h H) e
 refine ⟨e',?_⟩
 cases q:H b with
 | none=>rfl
 | some x =>
  have hm:b∈FH h H:=Ck.mpr ⟨Kf.mpr (Bg e'),by simp [q]⟩
  have z:(dD h H).get? b=none:=PySem.W.hideAll_none (FH h H) hm
  rw[z] at e; cases e
def B6(g h:Heap)(L:Addr):List (Addr×Obj):=(Di h.objs.size).filterMap λa=>if a=L\/(g.get? a).isSome=true then none else (h.get? a).map λo=>(a,o)
def Gj(g h:Heap)(L d:Addr):List (Addr×Obj):=(B6 g h L).filter λp=>decide (p.1≠d)
structure Mod(K:PySem.W.Frag)(mg:Str->Option Value)(base:Heap):Prop where
 kin:K.In base
 glob:base.Ns Ci mg
 blt:∃mb,base.Ns Vd mb/\∀x:Str,x ≠ "__name__" -> mb x=Jt x
 nolimit:base.NoLimit
def Vj:List Str:=["often", "cut_by"]
def T5(x:Str):Str:=x ++ ".<locals>." ++ "<lambda>"
def O2(H:Hp)(P:Addr)(q:Str):Prop:=∃(ps:Array Value) (t0:Tok),H P=some (.tbl ps)/\ps[0]? = some (.str q t0)
def zD(K:PySem.W.Frag)(mg:Str->Option Value)(base:Heap)(H:Hp):Prop:=∀x∈Vj,∀c P,PySem.W.tabIn K x=some (c,P)->PySem.W.CodeHd base c P/\base.BuiltinsAt mg P/\O2 H P (T5 x)
theorem zD.un{K:PySem.W.Frag}(t:zD K mg base H)(u:Un fs ex H H' h h'):zD K mg base H':=λx hx c P e=>by
 obtain ⟨h1,h2,ps,t0,h3,h4⟩:=t x hx c P e
 obtain ⟨more,h5⟩:=u.tbls P ps h3
 refine ⟨h1,h2,ps++more,t0,h5,?_⟩
 have hl:0<ps.size:=by
  rcases Nat.eq_zero_or_pos ps.size with z | z
  ·rw[mX (by omega)] at h4; cases h4
  ·exact z
 rw[Array.getElem?_append_left hl]
 exact h4
structure Cx where
 prog:Bs
 w:World
 K:PySem.W.Frag
 mg:Str->Option Value
 base:Heap
 A:Cs
 N:List Str
 s₀:Aj
 H₀:Hp
 env:Env
 outer:List Env
 stack:List Env
 ex:List Addr
 fn:Str->Bool
 calm:Bool
 pn:List (Addr×Obj)
 xe:Value->Aj->Prop
def tO(l:List Env):List Addr:=l.filterMap (·.frame)
abbrev Cx.fs(X:Cx):List Addr:=tO X.outer
def FE(sc:Scope)(x:Str):Prop:=sc.names.lookup x=some .local\/sc.names.lookup x=some .cell\/sc.names.lookup x=some .free
def Loc(sc:Scope)(x:Str):Prop:=sc.names.lookup x=some .local\/sc.names.lookup x=some .cell
def GR(env:Env)(h:Heap)(m:Str->Option Value)(x:Str)(u:Value):Prop :=
 (env.kindOf x=some .local/\m x=some u)\/((env.kindOf x=some .cell\/env.kindOf x=some .free)/\∃c,env.cells.lookup x=some c/\h.IsCell c (some u))
structure Cx.Ok(X:Cx):Prop where
 mod:Mod X.K X.mg X.base
 kind:X.env.scope.kind=.function
 glob:X.env.globals=Ci
 blt:X.env.builtins=Vd
 above:X.s₀.heap.objs.size<=X.env.locals
 inj:∀x y c,X.env.cells.lookup x=some c->X.env.cells.lookup y=some c->x=y
 has:∀x,(X.env.kindOf x=some .cell\/X.env.kindOf x=some .free)->∃c,X.env.cells.lookup x=some c
 cab:∀x c,X.fn x=true->X.env.cells.lookup x=some c->X.s₀.heap.objs.size<=c
 hd:X.calm=true->X.A.handled=none
 frames:X.A.frames=some X.stack
 stk:X.stack=X.outer\/(X.stack=X.env::X.outer/\X.env.frame=some X.env.locals)
 exf:∀b∈X.ex,b≠X.env.locals/\∀x c,X.env.cells.lookup x=some c->c≠b
 bs:∀b o,X.base.get? b=some o->X.s₀.heap.get? b=some o/\X.H₀ b=none
 bsz:X.base.objs.size<=X.s₀.heap.objs.size
 noex:∀b o,X.base.get? b=some o->b∉X.ex
 exfs:∀b∈X.ex,b∉X.fs
 funs:X.s₀.heap.FunFrames X.base X.outer
 frf:∀b∈X.fs,X.H₀ b=none
 tab:zD X.K X.mg X.base X.H₀
structure Inv(X:Cx)(pins:List (Addr×Obj))(σ:List (Option V))(H:Hp)(s:Aj):Prop where
 ok:X.Ok
 os:s.os=X.s₀.os
 bare:Sn s.gens
 base:Un X.fs X.ex X.H₀ H X.s₀.heap s.heap
 loc:∃m,s.heap.Ns X.env.locals m/\∀(i:Nat) (x:Str) (v:V),X.N[i]? = some x->σ[i]? = some (some v)->FE X.env.scope x->∃u,RelV v u/\GR X.env s.heap m x u
 cell:∀x c,X.env.cells.lookup x=some c->∃v,s.heap.IsCell c v
 free:H X.env.locals=none
 freeC:∀x c,X.env.cells.lookup x=some c->H c=none
 pin:∀p∈X.pn++pins,s.heap.get? p.1=some p.2/\H p.1=none/\p.1≠X.env.locals/\p.1∉X.fs/\∀v,p.2.data≠.cell v
 hok:Wo X.prog X.w H s.heap
 len:σ.length=X.N.length
section
variable{X:Cx}{pins:List (Addr×Obj)}{σ:List (Option V)}{H H':Hp}{s:Aj}{h':Heap}
theorem Cx.Ok.nofr(ok:X.Ok)(e:X.base.get? b=some o):b∉X.fs:=λhb=>by
 have:=(ok.funs.mem hb).1
 rw[e] at this; cases this
theorem Inv.bs(I:Inv X pins σ H s):∀b o,X.base.get? b=some o->s.heap.get? b=some o/\H b=none:=λb o e =>
 ⟨I.base.keep b o (I.ok.bs b o e).1 (I.ok.bs b o e).2 (I.ok.nofr e) (I.ok.noex b o e),I.base.free b o (I.ok.bs b o e).1 (I.ok.bs b o e).2 (I.ok.noex b o e)⟩
theorem Inv.bk(I:Inv X pins σ H s):∀b o,X.base.get? b=some o->s.heap.get? b=some o:=λb o e=>(I.bs b o e).1
theorem Inv.mod(I:Inv X pins σ H s):Mod X.K X.mg X.base:=I.ok.mod
theorem Inv.kIn(I:Inv X pins σ H s):X.K.In s.heap:=I.ok.mod.kin.keeps I.bk
theorem Inv.lt(I:Inv X pins σ H s):X.env.locals<s.heap.objs.size:=let ⟨_,hn,_⟩:=I.loc; hn.lt
theorem Inv.sz(I:Inv X pins σ H s):X.s₀.heap.objs.size<=s.heap.objs.size:=Bz I.ok.above (Pf I.lt)
theorem Inv.nofs(I:Inv X pins σ H s){a:Addr}(h:s.heap.objs.size<=a):a∉X.fs:=λhb=>by
 obtain ⟨_,o,ho,_⟩:=I.ok.funs.mem hb
 exact absurd (Cc (Bg ho) (Bz I.sz h)) (Fk _)
theorem Inv.cne(I:Inv X pins σ H s):∀x c,X.env.cells.lookup x=some c->c≠X.env.locals:=λx c e z=>by
 obtain ⟨v,o,ho,hd⟩:=I.cell x c e
 obtain ⟨m,⟨o',es,ep,ho',hd',_⟩,_⟩:=I.loc
 rw[z,ho'] at ho; cases ho; rw[hd'] at hd; cases hd
theorem Inv.funs(I:Inv X pins σ H s):s.heap.FunFrames X.base X.outer:=by
 have all:∀(l:List Env),(∀b∈tO l,b∈X.fs)->X.s₀.heap.FunFrames X.base l->s.heap.FunFrames X.base l:=by
  intro l
  induction l with
  | nil=>intro _ _; trivial
  | cons env r ih =>
   intro hs hl
   obtain ⟨hk,⟨L,o,hf,hn,ho,hd⟩,hr⟩:=hl
   have hL:L∈X.fs:=hs L (by unfold tO; rw[Oj,hf]; exact Ab)
   obtain ⟨sl,e⟩:=I.base.slot L o ho (I.ok.frf L hL) hL λz=>I.ok.exfs L z hL
   exact ⟨hk,⟨L,_,hf,hn,e,hd⟩,ih (λb hb=>hs b (by unfold tO; rw[Oj,hf]; exact Ae _ hb)) hr⟩
 exact all X.outer (λ_ hb=>hb) I.ok.funs
theorem Inv.stack(I:Inv X pins σ H s):s.heap.FunFrames X.base X.stack:=by
 rcases I.ok.stk with e | ⟨e,hf⟩
 ·rw[e]; exact I.funs
 ·rw[e]
  obtain ⟨m,hn,_⟩:=I.loc
  refine .cons (by rw[I.ok.kind]; decide) hf hn ?_ I.funs
  exact Heap.get?_none_of_le (Bz I.ok.bsz I.ok.above)
theorem Inv.stkSub(I:Inv X pins σ H s):∀b∈tO X.stack,b∈X.env.locals::X.fs:=λb hb=>by
 rcases I.ok.stk with e | ⟨e,hf⟩
 ·rw[e] at hb; exact Ae _ hb
 ·rw[e] at hb
  unfold tO at hb
  rw[Oj,hf] at hb
  exact hb
theorem Inv.stkFree(I:Inv X pins σ H s):∀b∈tO X.stack,H b=none:=λb hb=>by
 rcases Ah.mp (I.stkSub b hb) with e | hb
 ·rw[e]; exact I.free
 ·obtain ⟨_,o,ho,_⟩:=I.ok.funs.mem hb
  exact I.base.free b o ho (I.ok.frf b hb) λz=>I.ok.exfs b z hb
theorem Inv.step{ch:List Addr}(I:Inv X pins σ H s)(hch:∀b∈ch,(b∈X.ex\/X.s₀.heap.objs.size<=b)/\b≠X.env.locals/\(∀x c,X.env.cells.lookup x=some c->c≠b)/\∀p∈X.pn++pins,p.1≠b)(keep:∀b o,b≠X.env.locals->b∉X.fs->b∉ch->s.heap.get? b=some o->H b=none->h'.get? b=some o)(slot:∀b o,b≠X.env.locals->b∈X.fs->b∉ch->s.heap.get? b=some o->H b=none->∃sl,h'.get? b=some { o with slots:=sl })(free:∀b o,b∉ch->s.heap.get? b=some o->H b=none->H' b=none)(there:∀b o,b∉ch->s.heap.get? b=some o->∃o',h'.get? b=some o')(tups:∀b xs,H b=some (.tup xs)->H' b=some (.tup xs))(frzs:∀b o u,H b=some (.frz o u)->H' b=some (.frz o u))(tbls:∀b ps,H b=some (.tbl ps)->∃more,H' b=some (.tbl (ps++more)))(ns:∀m,s.heap.Ns X.env.locals m->h'.Ns X.env.locals m)(hok:Wo X.prog X.w H' h')(hg:Sn g'):Inv X pins σ H' { s with heap:=h',gens:=g',drawn:=d',toks:=t' }:=by
 have neL:∀b o,X.s₀.heap.get? b=some o->b≠X.env.locals:=λb o e=>Cd (Cc (Bg e) I.ok.above)
 have neC:∀b o,X.s₀.heap.get? b=some o->b∉X.ex->b∉ch:=λb o e hx hb=>by
  rcases (hch b hb).1 with z | z
  ·exact hx z
  ·exact absurd (Cc (Bg e) z) (Fk _)
 have cellK:∀x c,X.env.cells.lookup x=some c->∀v,s.heap.IsCell c v->h'.IsCell c v:=λx c e v ⟨o,ho,hd⟩=>by
  have nch:c∉ch:=λz=>(hch c z).2.2.1 x c e rfl
  by_cases hc:c∈X.fs
  ·obtain ⟨sl,q⟩:=slot c o (I.cne x c e) hc nch ho (I.freeC x c e)
   exact ⟨_,q,hd⟩
  ·exact ⟨o,keep c o (I.cne x c e) hc nch ho (I.freeC x c e),hd⟩
 refine ⟨I.ok,I.os,hg,⟨λb o e n hb hx=>?_,λb o e n hb hx=>?_,λb o e n hx=>?_,λb o e hx=>?_,λb xs e=>tups b xs (I.base.tups b xs e),λb o xs e=>frzs b o xs (I.base.frzs b o xs e),λb ps e=>?_⟩,?_,λx c e=>?_,?_,λx c e=>?_,λp hp=>?_,hok,I.len⟩
 ·exact keep b o (neL b o e) hb (neC b o e hx) (I.base.keep b o e n hb hx) (I.base.free b o e n hx)
 ·obtain ⟨sl,e1⟩:=I.base.slot b o e n hb hx
  obtain ⟨sl',e2⟩:=slot b _ (neL b o e) hb (neC b o e hx) e1 (I.base.free b o e n hx)
  exact ⟨sl',e2⟩
 ·obtain ⟨o',e1⟩:=I.base.there b o e hx
  exact free b o' (neC b o e hx) e1 (I.base.free b o e n hx)
 ·obtain ⟨o',e1⟩:=I.base.there b o e hx
  exact there b o' (neC b o e hx) e1
 ·obtain ⟨m1,e1⟩:=I.base.tbls b ps e
  obtain ⟨m2,e2⟩:=tbls b _ e1
  exact ⟨m1++m2,by rw[e2,Array.append_assoc]⟩
 ·obtain ⟨m,hn,hl⟩:=I.loc
  refine ⟨m,ns m hn,λi x v e1 e2 e3=>?_⟩
  obtain ⟨u,r,l⟩:=hl i x v e1 e2 e3
  refine ⟨u,r,?_⟩
  rcases l with l | ⟨k,c,e,z⟩
  ·exact .inl l
  ·exact .inr ⟨k,c,e,cellK x c e _ z⟩
 ·obtain ⟨v,z⟩:=I.cell x c e
  exact ⟨v,cellK x c e v z⟩
 ·obtain ⟨m,⟨o,_,_,ho,_⟩,_⟩:=I.loc
  exact free _ o (λz=>(hch _ z).2.1 rfl) ho I.free
 ·obtain ⟨v,o,ho,hd⟩:=I.cell x c e
  exact free c o (λz=>(hch c z).2.2.1 x c e rfl) ho (I.freeC x c e)
 ·obtain ⟨e,n,ne,nf,d⟩:=I.pin p hp
  have nch:p.1∉ch:=λz=>(hch p.1 z).2.2.2 p hp rfl
  exact ⟨keep p.1 p.2 ne nf nch e n,free p.1 p.2 nch e n,ne,nf,d⟩
theorem Inv.un(I:Inv X pins σ H s)(u:Un X.fs [] H H' s.heap h')(hok:Wo X.prog X.w H' h'):Inv X pins σ H' { s with heap:=h',toks:=t' }:=by
 obtain ⟨m,⟨o,es,ep,ho,r⟩,_⟩:=id I.loc
 obtain ⟨sl,hL⟩:=u.any ho I.free (by simp)
 exact I.step (g':=s.gens) (d':=s.drawn) (ch:=[]) (λ_ z=>nomatch z) (λb o _ hb _ e n=>u.keep b o e n hb (by simp)) (λb o _ hb _ e n=>u.slot b o e n hb (by simp)) (λb o _ e n=>u.free b o e n (by simp)) (λb o _ e=>u.there b o e (by simp)) u.tups u.frzs u.tbls (λm' hm=>by
  obtain ⟨o',es',ep',ho',r'⟩:=hm
  rw[ho] at ho'; cases ho'
  exact ⟨_,es',ep',hL,r'⟩) hok I.bare
theorem Inv.call(I:Inv X pins σ H s)(u:Un (tO X.stack) ch H H' s.heap h')(hok:Wo X.prog X.w H' h')(hg:Sn g')(hch:∀b∈ch,(b∈X.ex\/X.s₀.heap.objs.size<=b)/\b≠X.env.locals/\(∀x c,X.env.cells.lookup x=some c->c≠b)/\∀p∈X.pn++pins,p.1≠b):Inv X pins σ H' { s with heap:=h',gens:=g',drawn:=d',toks:=t' }:=by
 obtain ⟨m,⟨o,es,ep,ho,r⟩,_⟩:=id I.loc
 obtain ⟨sl,hL⟩:=u.any ho I.free λz=>(hch _ z).2.1 rfl
 exact I.step (ch:=ch) hch (λb o hL hb hc e n=>u.keep b o e n (λz=>(Ah.mp (I.stkSub b z)).elim hL hb) hc) (λb o _ _ hc e n=>u.any e n hc) (λb o hc e n=>u.free b o e n hc) (λb o hc e=>u.there b o e hc) u.tups u.frzs u.tbls (λm' hm=>by
  obtain ⟨o',es',ep',ho',r'⟩:=hm
  rw[ho] at ho'; cases ho'
  exact ⟨_,es',ep',hL,r'⟩) hok hg
theorem Inv.turned(I:Inv X pins σ H s)(k:∀b o,b≠it->s.heap.get? b=some o->h'.get? b=some o)(hn:H it=none)(hL:it≠X.env.locals)(h1:it∈X.ex\/X.s₀.heap.objs.size<=it)(h2:∀x c,X.env.cells.lookup x=some c->c≠it)(h3:∀p∈X.pn++pins,p.1≠it):Inv X pins σ H { s with heap:=h',toks:=t' }:=by
 have nit:∀b u,H b=some u->b≠it:=λb u e z=>by rw[z,hn] at e; cases e
 refine I.step (g':=s.gens) (d':=s.drawn) (ch:=[it]) (λb hb=>?_) (λb o _ _ hc e _=>k b o (λz=>hc (by simp [z])) e) (λb o _ _ hc e _=>⟨o.slots,k b o (λz=>hc (by simp [z])) e⟩) (λ_ _ _ _ n=>n)
  (λb o hc e=>⟨o,k b o (λz=>hc (by simp [z])) e⟩) (λ_ _ e=>e) (λ_ _ _ e=>e) (λb ps e=>⟨#[],by rw[e]; simp⟩) (λm hm=>?_) (λb u e=>?_) I.bare
 ·have e:b=it:=by simpa using hb
  subst e
  exact ⟨h1,hL,h2,h3⟩
 ·obtain ⟨o,es,ep,ho,r⟩:=hm
  exact ⟨o,es,ep,k _ o (Ll hL) ho,r⟩
 ·refine (I.hok b u e).stay (λc v hc q=>k c v ?_ q) (λ_ q=>q) λ_ _ q=>q
  rcases hc with z | z
  ·rw[z]; exact nit b u e
  ·exact nit c _ z
theorem Inv.tok(I:Inv X pins σ H s)(t:Nat):Inv X pins σ H { s with toks:=t }:=I.un (h':=s.heap) (t':=t) Un.refl I.hok
theorem Inv.kept(I:Inv X pins σ H s)(k:∀b u,s.heap.get? b=some u->h'.get? b=some u):Inv X pins σ H { s with heap:=h',toks:=t' }:=I.un (Un.kept k) (I.hok.kept k)
theorem Inv.laid{a:Addr}(I:Inv X pins σ H s)(k:∀b u,s.heap.get? b=some u->h'.get? b=some u)(hp:s.heap.objs.size<=a)(new:Hg X.prog X.w (upd H a o) h' a o):Inv X pins σ (upd H a o) { s with heap:=h',toks:=t' }:=I.un (Un.laid k hp (I.hok.fresh hp)) (I.hok.laid k hp new)
theorem Inv.write(I:Inv X pins σ H s)(mu:DQ (H x))(he:e=x\/H e=some (.own x))(k:∀b u,b≠e->s.heap.get? b=some u->h'.get? b=some u)(heo:∃u,h'.get? e=some u)(new:Hg X.prog X.w (upd H x o) h' x o):Inv X pins σ (upd H x o) { s with heap:=h',toks:=t' }:=I.un (Un.write mu he k heo) (I.hok.write mu he k heo new)
theorem Inv.pins_of(I:Inv X pins σ H s)(h:∀p∈pins',s.heap.get? p.1=some p.2/\H p.1=none/\p.1≠X.env.locals/\p.1∉X.fs/\∀v,p.2.data≠.cell v):Inv X pins' σ H s :=
 ⟨I.ok,I.os,I.bare,I.base,I.loc,I.cell,I.free,I.freeC,λp hp=>(Ay.mp hp).elim (λz=>I.pin p (Ao _ z)) (h p),I.hok,I.len⟩
theorem jY{N:List Str}(hN:N.Nodup){i j:Nat}(a:N[i]? = some x)(b:N[j]? = some x):i=j:=by
 obtain ⟨h1,e1⟩:=Ap.mp a
 obtain ⟨h2,e2⟩:=Ap.mp b
 exact (List.getElem_inj hN).mp (e1.trans e2.symm)
theorem sX(I:Inv X pins σ H s)(hN:X.N.Nodup)(hi:X.N[i]? = some x)(hx:Loc X.env.scope x)(r:RelV v u)(h:∀s',Inv X pins (σ.set i (some v)) H s'->(∃a,Dm a s.heap s'.heap/\(a=X.env.locals\/X.env.cells.lookup x=some a))->Q () s')(hf:X.fn x=true\/X.env.scope.names.lookup x=some .local:=by first | exact .inl rfl | exact .inr rfl | assumption):wpAny M A (storeName X.env x u) Q E s:=by
 obtain ⟨m,hn,hl⟩:=id I.loc
 have hcls:(X.env.scope.kind == .class || (X.env.scope.kind == .module && X.env.locals != X.env.globals))=false:=by rw[I.ok.kind]; rfl
 have hiσ:i<σ.length:=by rw[I.len]; exact (Ap.mp hi).1
 have cne:=I.cne
 have tracked:∀{a:Addr} {h':Heap},(∃o,s.heap.get? a=some o/\H a=none)->Dm a s.heap h'->Wo X.prog X.w H h':=λ{a h'} ha hs b ob e=>by
  obtain ⟨_,_,hfree⟩:=ha
  refine (I.hok b ob e).stay (λc w' hc q=>(hs.2 c ?_).trans q) (λ_ q=>q) λ_ _ q=>q
  rintro rfl
  rcases hc with rfl | hc
  ·rw[hfree] at e; cases e
  ·rw[hfree] at hc; cases hc
 rcases hx with hk | hk
 ·refine wpAny_storeName_local hk hn (λh' hn' hs=>?_) hcls
  obtain ⟨oL,_,_,hoL,_⟩:=id hn
  refine h _ ⟨I.ok,I.os,I.bare,⟨λb o e n hb hx=>?_,λb o e n hb hx=>?_,I.base.free,λb o e hx=>?_,I.base.tups,I.base.frzs,I.base.tbls⟩,⟨_,hn',λj y v' e1 e2 e3=>?_⟩,λy c e=>?_,I.free,I.freeC,λp hp=>?_,tracked ⟨oL,hoL,I.free⟩ hs,by simpa using I.len⟩ ⟨_,hs,.inl rfl⟩
  ·exact (hs.2 b (Cd (Cc (Bg e) I.ok.above))).trans (I.base.keep b o e n hb hx)
  ·obtain ⟨sl,e1⟩:=I.base.slot b o e n hb hx
   exact ⟨sl,(hs.2 b (Cd (Cc (Bg e) I.ok.above))).trans e1⟩
  ·obtain ⟨o',e1⟩:=I.base.there b o e hx
   exact ⟨o',(hs.2 b (Cd (Cc (Bg e) I.ok.above))).trans e1⟩
  ·by_cases hj:j=i
   ·subst hj
    rw[hi] at e1; cases e1
    rw[pR hiσ] at e2
    cases e2
    exact ⟨u,r,.inl ⟨hk,by simp⟩⟩
   ·rw[Nm (Ll hj)] at e2
    obtain ⟨u',r',q⟩:=hl j y v' e1 e2 e3
    refine ⟨u',r',?_⟩
    rcases q with ⟨k,e⟩ | ⟨k,c,e,z⟩
    ·refine .inl ⟨k,?_⟩
     have : y≠x:=λe=>hj (jY hN e1 (e▸hi))
     simp [this,e]
    ·exact .inr ⟨k,c,e,z.sameBut hs (cne y c e)⟩
  ·obtain ⟨w',z⟩:=I.cell y c e
   exact ⟨w',z.sameBut hs (cne y c e)⟩
  ·obtain ⟨e,n,ne,nf,d⟩:=I.pin p hp
   exact ⟨(hs.2 p.1 ne).trans e,n,ne,nf,d⟩
 ·have hfn:X.fn x=true:=by
   rcases hf with z | z
   ·exact z
   ·rw[z] at hk; cases hk
  obtain ⟨c,hc⟩:=I.ok.has x (.inl hk)
  obtain ⟨w',z⟩:=I.cell x c hc
  refine wpAny_storeName_cell I.ok.kind hk hc z (λh' hc' hs=>?_)
  obtain ⟨oc,hoc,hocd⟩:=id z
  refine h { s with heap:=h' } ⟨I.ok,I.os,I.bare,⟨λb o e n hb hx=>?_,λb o e n hb hx=>?_,I.base.free,λb o e hx=>?_,I.base.tups,I.base.frzs,I.base.tbls⟩,⟨m,hn.sameBut hs (Ll (cne x c hc)),λj y v' e1 e2 e3=>?_⟩,λy c' e=>?_,I.free,I.freeC,λp hp=>?_,tracked ⟨oc,hoc,I.freeC x c hc⟩ hs,by simpa using I.len⟩ ⟨c,hs,.inr hc⟩
  ·exact (hs.2 b (Cd (Cc (Bg e) (I.ok.cab x c hfn hc)))).trans (I.base.keep b o e n hb hx)
  ·obtain ⟨sl,e1⟩:=I.base.slot b o e n hb hx
   exact ⟨sl,(hs.2 b (Cd (Cc (Bg e) (I.ok.cab x c hfn hc)))).trans e1⟩
  ·obtain ⟨o',e1⟩:=I.base.there b o e hx
   exact ⟨o',(hs.2 b (Cd (Cc (Bg e) (I.ok.cab x c hfn hc)))).trans e1⟩
  ·by_cases hj:j=i
   ·subst hj
    rw[hi] at e1; cases e1
    rw[pR hiσ] at e2
    cases e2
    exact ⟨u,r,.inr ⟨.inl hk,c,hc,hc'⟩⟩
   ·rw[Nm (Ll hj)] at e2
    obtain ⟨u',r',q⟩:=hl j y v' e1 e2 e3
    refine ⟨u',r',?_⟩
    rcases q with q | ⟨k,c',e,z'⟩
    ·exact .inl q
    ·refine .inr ⟨k,c',e,z'.sameBut hs ?_⟩
     rintro rfl
     exact hj (jY hN e1 (I.ok.inj _ _ _ e hc▸hi))
  ·by_cases hcc:c'=c
   ·subst hcc; exact ⟨_,hc'⟩
   ·obtain ⟨w2,z2⟩:=I.cell y c' e
    exact ⟨w2,z2.sameBut hs hcc⟩
  ·obtain ⟨e,n,ne,nf,d⟩:=I.pin p hp
   refine ⟨(hs.2 p.1 ?_).trans e,n,ne,nf,d⟩
   intro q
   rw[q,hoc] at e
   have q':oc=p.2:=Bp e
   exact d w' (by rw[<- q']; exact hocd)
theorem lN(I:Inv X pins σ H s)(hN:X.N.Nodup)(hi:X.N[i]? = some x)(hx:Loc X.env.scope x)(r:RelV v u)(h:∀s',Inv X pins (σ.set i (some v)) H s'->Q () s')(hf:X.fn x=true\/X.env.scope.names.lookup x=some .local:=by first | exact .inl rfl | exact .inr rfl | assumption):wpAny M A (storeName X.env x u) Q E s :=
 sX I hN hi hx r (λs' I' _=>h s' I') hf
theorem Inv.call'(I:Inv X pins σ H s)(ho:s'.os=s.os)(u:Un (tO X.stack) ch H H' s.heap s'.heap)(hok:Wo X.prog X.w H' s'.heap)(hg:Sn s'.gens)(hch:∀b∈ch,(b∈X.ex\/X.s₀.heap.objs.size<=b)/\b≠X.env.locals/\(∀x c,X.env.cells.lookup x=some c->c≠b)/\∀p∈X.pn++pins,p.1≠b):Inv X pins σ H' s':=by
 obtain ⟨h',g',d',t',o'⟩:=s'
 have e:o'=s.os:=ho
 subst e
 exact I.call (g':=g') (t':=t') (d':=d') u hok hg hch
end
abbrev XK:=Value->Option Addr->Hp->Prop
abbrev St:=List (Option V)
abbrev VK:=V->Hp->Prop
abbrev TE:=St->Hp->VK->Prop
abbrev TT:=St->Hp->(Bool->Hp->Prop)->Prop
abbrev TA:=St->Hp->(List V->Hp->Prop)->Prop
structure Ends where
 nx:St->Hp->Prop
 rt:VK
 bk:St->Hp->Prop:=λ_ _=>False
 ct:St->Hp->Prop:=λ_ _=>False
abbrev TS:=Ends->St->Hp->Prop
def EP(X:Cx)(pins:List (Addr×Obj))(σ:St)(Q:VK)(u:Value)(s':Aj):Prop:=∃v H',Inv X pins σ H' s'/\RelV v u/\Q v H'
def TP(X:Cx)(pins:List (Addr×Obj))(σ:St)(Q:Bool->Hp->Prop)(b:Bool)(s':Aj):Prop:=∃H',Inv X pins σ H' s'/\Q b H'
def AP(X:Cx)(pins:List (Addr×Obj))(σ:St)(Q:List V->Hp->Prop)(us:List Value)(s':Aj):Prop:=∃vs H',Inv X pins σ H' s'/\Fg vs us/\Q vs H'
def SP(X:Cx)(pins:List (Addr×Obj))(D:Ends)(f:Flow)(s':Aj):Prop :=
 match f with
 | .next=>∃σ' H',Inv X pins σ' H' s'/\D.nx σ' H'
 | .brk=>∃σ' H',Inv X pins σ' H' s'/\D.bk σ' H'
 | .cont=>∃σ' H',Inv X pins σ' H' s'/\D.ct σ' H'
 | .ret u=>∃v σ' H',Inv X pins σ' H' s'/\RelV v u/\D.rt v H'
def PE(X:Cx)(e:Expr)(t:TE):Prop :=
 ∀(pins:List (Addr×Obj)) (s:Aj) (σ:St) (H:Hp) (Q:VK),Inv X pins σ H s->t σ H Q->wpAny (model X.prog X.w) X.A (eval e X.env) (EP X pins σ Q) X.xe s
def PT(X:Cx)(e:Expr)(t:TT):Prop :=
 ∀(pins:List (Addr×Obj)) (s:Aj) (σ:St) (H:Hp) (Q:Bool->Hp->Prop),Inv X pins σ H s->t σ H Q->wpAny (model X.prog X.w) X.A (isTrue e X.env (eval e X.env)) (TP X pins σ Q) X.xe s
def PW(X:Cx)(e:Expr)(t:TT):Prop :=
 ∀(whole:Sem Value) (pins:List (Addr×Obj)) (s:Aj) (σ:St) (H:Hp) (Q:Bool->Hp->Prop),Inv X pins σ H s->t σ H Q->wpAny (model X.prog X.w) X.A (isTrue e X.env whole) (TP X pins σ Q) X.xe s
theorem PW.pt(h:PW X e t):PT X e t:=h _
def PA(X:Cx)(es:List Expr)(t:TA):Prop :=
 ∀(pos:Pos) (pins:List (Addr×Obj)) (s:Aj) (σ:St) (H:Hp) (Q:List V->Hp->Prop),Inv X pins σ H s->t σ H Q->wpAny (model X.prog X.w) X.A (spliced (Gu pos (Bq es X.env))) (AP X pins σ Q) X.xe s
def PS(X:Cx)(st:Stmt)(t:TS):Prop :=
 ∀(pins:List (Addr×Obj)) (s:Aj) (σ:St) (H:Hp) (D:Ends),Inv X pins σ H s->t D σ H->wpAny (model X.prog X.w) X.A (exec st X.env) (SP X pins D) X.xe s
def rO(X:Cx)(st:List Stmt)(t:TS):Prop :=
 ∀(pins:List (Addr×Obj)) (s:Aj) (σ:St) (H:Hp) (D:Ends),Inv X pins σ H s->t D σ H->wpAny (model X.prog X.w) X.A (execs st X.env) (SP X pins D) X.xe s
theorem Gk(h:wpAny M A t Q E s)(hQ:∀a s,Q a s->Q' a s):wpAny M A t Q' E s:=Ft h hQ λ_ _ x=>x
section
variable{X:Cx}
theorem IF{a b:Expr}{ta tb:TE}(ha:PE X a ta)(hb:PE X b tb){pins:List (Addr×Obj)}{s:Aj}{σ:St}{R:V->V->Hp->Prop}(I:Inv X pins σ H s)(h:ta σ H λx H1=>tb σ H1 λy H2=>R x y H2){Q:α->Aj->Prop}{f:Value->Value->Sem α}(hf:∀v u s2 x y H2,Inv X pins σ H2 s2->RelV x v->RelV y u->R x y H2->wpAny (model X.prog X.w) X.A (f v u) Q X.xe s2):wpAny (model X.prog X.w) X.A (eval a X.env) (λv s₁=>wpAny (model X.prog X.w) X.A (eval b X.env) (λu s₂=>wpAny (model X.prog X.w) X.A (f v u) Q X.xe s₂) X.xe s₁) X.xe s:=by
 refine Gk (ha pins s σ H _ I h) λv s1 q0_ => ?_
 obtain ⟨x,H1,I1,r1,q1⟩ := q0_
 refine Gk (hb pins s1 σ H1 _ I1 q1) λu s2 q0_ => ?_
 obtain ⟨y,H2,I2,r2,q2⟩ := q0_
 exact hf v u s2 x y H2 I2 r1 r2 q2
def cJ(i:Nat):TE:=λσ H Q=>∃v,σ[i]? = some (some v)/\Q v H
def tC(v:V):TE:=λ_ H Q=>Q v H
theorem Y4{pos:Pos}(hN:X.N[i]? = some x)(hv:FE X.env.scope x)(hd:(x == ("__debug__" : Str))=false:=by decide)(hcd:(x == ("__classdict__" : Str))=false:=by decide):PE X (.Name x pos) (cJ i):=by
 intro pins s σ H Q I h
 obtain ⟨v,e,h⟩:=h
 obtain ⟨m,hn,hl⟩:=I.loc
 obtain ⟨u,r,l⟩:=hl i x v hN e hv
 have fin:EP X pins σ Q u s:=⟨v,H,I,r,h⟩
 rcases l with ⟨hk,hm⟩ | ⟨hk,c,hc,hcell⟩
 ·exact wpAny_Name (wpAny_loadName_local I.ok.kind hk hn hm fin) hd
 ·rcases hk with hk | hk
  ·exact wpAny_Name (wpAny_loadName_cell I.ok.kind hk hc hcell fin) hd
  ·exact wpAny_Name (wpAny_loadName_free I.ok.kind hk hc hcell fin hcd) hd
theorem Ez:PE X (.Constant (.int i) j pos) (tC (.int i)):=λ_ _ _ H _ I h=>wpAny_Constant_int ⟨.int i,H,I.tok _,⟨_,rfl⟩,h⟩
theorem q9:PE X (.Constant (.bool b) j pos) (tC (.bl b)):=λ_ _ _ H _ I h=>Constant_bool ⟨.bl b,H,I,rfl,h⟩
theorem W9:PE X (.Constant .none j pos) (tC .non):=λ_ _ _ H _ I h=>Constant_none ⟨.non,H,I,rfl,h⟩
def Gl(X:Cx)(x:Str):Prop:=X.env.kindOf x=some .globalImplicit
theorem qW{E:Value->Aj->Prop}{pins:List (Addr×Obj)}{s:Aj}{σ:St}(I:Inv X pins σ H s)(hg:Gl X x)(hm:X.mg x=some u)(h:Q u s)(hd:(x == ("__debug__" : Str))=false:=by decide):wpAny (model X.prog X.w) X.A (eval (.Name x pos) X.env) Q E s :=
 fU I.ok.kind hg (Calls.loadGlobal_global (by rw[I.ok.glob]; exact I.mod.glob.keeps I.bk) hm h) hd
theorem Nv{E:Value->Aj->Prop}{pins:List (Addr×Obj)}{s:Aj}{σ:St}{pos:Pos}(I:Inv X pins σ H s)(hg:Gl X x)(hm:X.mg x=none)(hv:Jt x=some u)(h:Q u s)(hn:x ≠ "__name__" := by decide)(hd:(x == ("__debug__" : Str))=false:=by decide):wpAny (model X.prog X.w) X.A (eval (.Name x pos) X.env) Q E s:=by
 obtain ⟨mb,h1,h2⟩:=I.mod.blt
 exact fU I.ok.kind hg (Calls.loadGlobal_builtin (by rw[I.ok.glob]; exact I.mod.glob.keeps I.bk) hm (by rw[I.ok.blt]; exact h1.keeps I.bk) ((h2 x hn).trans hv) h) hd
theorem C7{pos:Pos}(hg:Gl X x)(hm:X.mg x=none)(hv:Jt x=some u)(r:RelV v u)(hn:x ≠ "__name__" := by decide)(hd:(x == ("__debug__" : Str))=false:=by decide):PE X (.Name x pos) (tC v) :=
 λ_ _ _ H _ I h=>Nv I hg hm hv ⟨v,H,I,r,h⟩ hn hd
variable{a b:Expr}{ta tb:TE}{pos:Pos}
def PC(X:Cx)(op:CmpOp)(a b:Expr)(t:TE):Prop :=
 ∀(pins:List (Addr×Obj)) (s:Aj) (σ:St) (H:Hp) (Q:VK),Inv X pins σ H s->t σ H Q ->
  wpAny (model X.prog X.w) X.A (eval a X.env) (λv s₁=>wpAny (model X.prog X.w) X.A (eval b X.env) (λu s₂=>wpAny (model X.prog X.w) X.A (Hy op v u) (EP X pins σ Q) X.xe s₂) X.xe s₁) X.xe s
theorem i6(b:Expr)(h:op≠.In)(h2:op≠.NotIn):Gd op b=false:=by
 have e1:(op == CmpOp.In)=false:=by cases op <;> first | rfl | exact absurd rfl h
 have e2:(op == CmpOp.NotIn)=false:=by cases op <;> first | rfl | exact absurd rfl h2
 cases b <;> simp [Gd,e1,e2]
def tB(t:TE):TT:=λσ H Q=>t σ H λx H1=>∃c,x=.bl c/\Q c H1
theorem FY(h:PC X op a b t)(h1:Gd op b=false:=by first | exact i6 _ (by decide) (by decide) | rfl):PT X (.Compare a [op] [b] pos) (tB t):=by
 intro pins s σ H Q I hw
 refine wpAny_isTrue_Compare1 (Gk (h pins s σ H _ I hw) λv s1 h1=>Gk h1 λu s2 h2=>Gk h2 λc s3 ⟨x,H1,I1,r1,q1⟩=>?_) h1
 obtain ⟨d,rfl,q⟩:=q1
 cases r1
 exact Fq ⟨H1,I1,q⟩
theorem p8(h:PE X e t)(he:∀whole,isTrue e X.env whole=(do let v <- whole; standAt e.pos; holding [v] (truthy v)):=by intro _; rfl):PT X e (tB t):=by
 intro pins s σ H Q I hw
 refine isTrue_plain (Gk (h pins s σ H _ I hw) λv s1 ⟨x,H1,I1,r1,q1⟩=>?_) (he _)
 obtain ⟨d,rfl,q⟩:=q1
 cases r1
 exact Fq ⟨H1,I1,q⟩
variable{tA tB':TT}{Gj:List Expr}
def GN(t u:TT):TT:=λσ H Q=>t σ H λc H1=>if c=true then u σ H1 Q else Q false H1
def IA(t u:TT):TT:=λσ H Q=>t σ H λc H1=>if c=true then Q true H1 else u σ H1 Q
def FX(t:TT):TT:=λσ H Q=>t σ H λc H1=>Q (!c) H1
theorem A5(ha:PT X a tA):PW X (.BoolOp .And [a] pos) tA:=by
 intro wh pins s σ H Q I h
 refine isTrue_and (Gk (ha pins s σ H Q I h) λc s1 e=>?_)
 cases c with
 | true=>exact isTrue_and_nil e
 | false=>exact e
theorem R1(ha:PT X a tA):PW X (.BoolOp .Or [a] pos) tA:=by
 intro wh pins s σ H Q I h
 refine isTrue_or (Gk (ha pins s σ H Q I h) λc s1 e=>?_)
 cases c with
 | false=>exact isTrue_or_nil e
 | true=>exact e
theorem S5(ha:PT X a tA)(hb:PW X (.BoolOp .And (b::Gj) pos) tB'):PW X (.BoolOp .And (a::b::Gj) pos) (GN tA tB'):=by
 intro wh pins s σ H Q I h
 refine isTrue_and (Gk (ha pins s σ H _ I h) λc s1 q0_ => ?_)
 obtain ⟨H1,I1,q1⟩ := q0_
 cases c with
 | true=>exact hb wh pins s1 σ H1 Q I1 q1
 | false=>exact ⟨H1,I1,q1⟩
theorem AS(ha:PT X a tA)(hb:PW X (.BoolOp .Or (b::Gj) pos) tB'):PW X (.BoolOp .Or (a::b::Gj) pos) (IA tA tB'):=by
 intro wh pins s σ H Q I h
 refine isTrue_or (Gk (ha pins s σ H _ I h) λc s1 q0_ => ?_)
 obtain ⟨H1,I1,q1⟩ := q0_
 cases c with
 | true=>exact ⟨H1,I1,q1⟩
 | false=>exact hb wh pins s1 σ H1 Q I1 q1
theorem W7(ha:PT X a tA):PT X (.UnaryOp .Not a pos) (FX tA):=by
 intro pins s σ H Q I h
 exact isTrue_not (ha pins s σ H (λc H1=>Q (!c) H1) I h)
def BG(ta tb:TE):TE:=λσ H Q=>ta σ H λx H1=>∃c,x=.bl c/\if c=true then tb σ H1 Q else Q (.bl false) H1
def AX(ta:TE):TE:=λσ H Q=>ta σ H λx H1=>∃c,x=.bl c/\Q (.bl (!c)) H1
theorem S8(h:PE X a t):PE X (.BoolOp op [a] pos) t:=λpins s σ H Q I hw=>BoolOp_one (h pins s σ H Q I hw)
theorem Z8(ha:PE X a ta)(hb:PE X (.BoolOp .And (b::Gj) pos) tb):PE X (.BoolOp .And (a::b::Gj) pos) (BG ta tb):=by
 intro pins s σ H Q I h
 refine BoolOp_and (Gk (ha pins s σ H _ I h) λv s1 q0_ => ?_)
 obtain ⟨x,H1,I1,r1,q1⟩ := q0_
 obtain ⟨c,rfl,q1⟩:=q1
 cases r1
 refine Fq ?_
 cases c with
 | true=>exact hb pins s1 σ H1 Q I1 q1
 | false=>exact ⟨.bl false,H1,I1,rfl,q1⟩
theorem S0(ha:PE X a ta):PE X (.UnaryOp .Not a pos) (AX ta):=by
 intro pins s σ H Q I h
 refine UnaryOp_ (Gk (ha pins s σ H _ I h) λv s1 q0_ => ?_)
 obtain ⟨x,H1,I1,r1,q1⟩ := q0_
 obtain ⟨c,rfl,q1⟩:=q1
 cases r1
 exact not_of (Fq ⟨.bl (!c),H1,I1,rfl,q1⟩)
end
def Mc(K:PySem.W.Frag)(H:Hp)(a:Addr)(xs:List V):Prop :=
 Rd H a (.lst xs) \/
  ∃(o:Obj) (its:Array Value) (n:Nat),K.lookup a=some o/\o.cls=.type "list" /\ o.dict=none/\o.data=.seq its n/\its.size<=Au/\Fg xs its.toList
def Uh(K:PySem.W.Frag)(H:Hp)(a:Addr)(xs:List V):Prop :=
 Rd H a (.tup xs) \/
  ∃(o:Obj) (its:Array Value) (n:Nat),K.lookup a=some o/\o.cls=.type "tuple" /\ o.data=.seq its n/\its.size<=Au/\Fg xs its.toList
def GB:Value->Option V
 | .none=>some .non
 | .bool b=>some (.bl b)
 | .int i _=>some (.int i)
 | .str x _=>some (.str x)
 | .bytes b _=>some (.byt b)
 | .float b _=>some (.flt b)
 | .ref a=>some (.ref a)
 | .type n=>some (.ty n)
 | _=>none
theorem RelV.abs(r:RelV x u):GB u=some x:=by
 cases x with
 | non=>cases r; rfl
 | bl _=>cases r; rfl
 | int _=>obtain ⟨t,rfl⟩:=r; rfl
 | str _=>obtain ⟨t,rfl⟩:=r; rfl
 | byt _=>obtain ⟨t,rfl⟩:=r; rfl
 | flt _=>obtain ⟨t,rfl⟩:=r; rfl
 | ref _=>cases r; rfl
 | ty _=>cases r; rfl
theorem RelV.inj(r:RelV x u)(q:RelV y u):x=y:=Bp (r.abs.symm.trans q.abs)
theorem Fg.inj:∀{xs ys:List V} {us:List Value},Fg xs us->Fg ys us->xs=ys
 | _,_,_,.nil,.nil=>rfl
 | _,_,_,.cons r t,.cons r' t'=>by rw[r.inj r',Fg.inj t t']
section
variable{X:Cx}{pins:List (Addr×Obj)}{σ:St}{H:Hp}{s:Aj}{a:Addr}{xs ys:List V}
theorem Mc.of{K:PySem.W.Frag}(h:H a=some (.lst xs)):Mc K H a xs:=.inl (.inl h)
theorem Uh.of{K:PySem.W.Frag}(h:H a=some (.tup xs)):Uh K H a xs:=.inl (.inl h)
theorem Inv.list(I:Inv X pins σ H s)(h:Mc X.K H a xs):∃its:List Value,Fg xs its/\PlainL s.heap a its.toArray/\xs.length<=Au:=by
 rcases h with h | ⟨o,its,n,hk,hc,hd,hs,hz,r⟩
 ·obtain ⟨z,its,n,r,e⟩:=h.ok I.hok
  exact ⟨its,r,⟨_,n,e,rfl,rfl,rfl⟩,z⟩
 ·refine ⟨its.toList,r,⟨o,n,I.kIn a o hk,hc,hd,by simpa using hs⟩,?_⟩
  have e:=r.length
  simp only[Az] at e
  omega
theorem Inv.tuple(I:Inv X pins σ H s)(h:Uh X.K H a xs):∃its:List Value,Fg xs its/\IsTup s.heap a its.toArray/\xs.length<=Au:=by
 rcases h with h | ⟨o,its,n,hk,hc,hs,hz,r⟩
 ·obtain ⟨z,its,r,p⟩:=h.ok I.hok
  exact ⟨its,r,p,z⟩
 ·refine ⟨its.toList,r,⟨o,I.kIn a o hk,hc,n,by simpa using hs⟩,?_⟩
  have e:=r.length
  simp only[Az] at e
  omega
theorem Inv.list_inj(I:Inv X pins σ H s)(h:Mc X.K H a xs)(h':Mc X.K H a ys):xs=ys:=by
 obtain ⟨its,r,⟨o,n,e,_,_,d⟩,_⟩:=I.list h
 obtain ⟨its',r',⟨o',n',e',_,_,d'⟩,_⟩:=I.list h'
 rw[e] at e'; cases e'
 rw[d] at d'
 injection d' with d1 _
 have : its=its':=by simpa using congrArg Array.toList d1
 subst this
 exact r.inj r'
theorem Inv.tuple_inj(I:Inv X pins σ H s)(h:Uh X.K H a xs)(h':Uh X.K H a ys):xs=ys:=by
 obtain ⟨its,r,⟨o,e,_,n,d⟩,_⟩:=I.tuple h
 obtain ⟨its',r',⟨o',e',_,n',d'⟩,_⟩:=I.tuple h'
 rw[e] at e'; cases e'
 rw[d] at d'
 injection d' with d1 _
 have : its=its':=by simpa using congrArg Array.toList d1
 subst this
 exact r.inj r'
end
abbrev Cx.wish(X:Cx)(E:Value->Aj->Prop):Cx:={ X with xe:=E }
abbrev Cx.nox(X:Cx):Cx:=X.wish λ_ _=>False
theorem Cx.Ok.wish{X:Cx}(ok:X.Ok)(E:Value->Aj->Prop):(X.wish E).Ok :=
 ⟨ok.mod,ok.kind,ok.glob,ok.blt,ok.above,ok.inj,ok.has,ok.cab,ok.hd,ok.frames,ok.stk,ok.exf,ok.bs,ok.bsz,ok.noex,ok.exfs,ok.funs,ok.frf,ok.tab⟩
theorem Cx.Ok.unwish{X:Cx}(ok:(X.wish E).Ok):X.Ok :=
 ⟨ok.mod,ok.kind,ok.glob,ok.blt,ok.above,ok.inj,ok.has,ok.cab,ok.hd,ok.frames,ok.stk,ok.exf,ok.bs,ok.bsz,ok.noex,ok.exfs,ok.funs,ok.frf,ok.tab⟩
section
variable{X:Cx}{pins:List (Addr×Obj)}{σ:St}{H:Hp}{s:Aj}{E:Value->Aj->Prop}
theorem Inv.wish(I:Inv X pins σ H s)(E:Value->Aj->Prop):Inv (X.wish E) pins σ H s:=⟨I.ok.wish E,I.os,I.bare,I.base,I.loc,I.cell,I.free,I.freeC,I.pin,I.hok,I.len⟩
theorem Inv.unwish(I:Inv (X.wish E) pins σ H s):Inv X pins σ H s:=⟨I.ok.unwish,I.os,I.bare,I.base,I.loc,I.cell,I.free,I.freeC,I.pin,I.hok,I.len⟩
theorem SP.unwish(h:SP (X.wish E) pins D f s'):SP X pins D f s':=by
 cases f with
 | next=>obtain ⟨σ',H',I,q⟩:=h; exact ⟨σ',H',I.unwish,q⟩
 | brk=>obtain ⟨σ',H',I,q⟩:=h; exact ⟨σ',H',I.unwish,q⟩
 | cont=>obtain ⟨σ',H',I,q⟩:=h; exact ⟨σ',H',I.unwish,q⟩
 | ret u=>obtain ⟨v,σ',H',I,r,q⟩:=h; exact ⟨v,σ',H',I.unwish,r,q⟩
theorem rO.nox{st:List Stmt}(h:rO X.nox st t):rO X st t:=λpins s σ H D I hw =>
 Ft (h pins s σ H D (I.wish _) hw) (λ_ _ q=>q.unwish) λ_ _ z=>Kc z
end
section
variable{X:Cx}{st:Stmt}{Gj:List Stmt}{t u:TS}{e:Expr}{te:TE}{pos:Pos}
def AU:TS:=λD σ H=>D.nx σ H
def GH(t u:TS):TS:=λD σ H=>t { D with nx:=u D } σ H
theorem gC:rO X [] AU:=λ_ _ σ H _ I h=>wpAny_execs_nil ⟨σ,H,I,h⟩
theorem Hx(h1:PS X st t)(h2:rO X Gj u):rO X (st::Gj) (GH t u):=by
 intro pins s σ H D I h
 refine wpAny_execs_cons (Gk (h1 pins s σ H { D with nx:=u D } I h) λf s1 q=>?_)
 cases f with
 | next =>
  obtain ⟨σ',H',I',q⟩:=q
  exact h2 pins s1 σ' H' D I' q
 | ret v=>exact q
 | brk=>exact q
 | cont=>exact q
theorem Ni(h1:PS X st t):rO X [st] t:=by
 intro pins s σ H D I h
 refine wpAny_execs_cons (Gk (h1 pins s σ H D I h) λf s1 q=>?_)
 cases f with
 | next=>exact wpAny_execs_nil q
 | ret v=>exact q
 | brk=>exact q
 | cont=>exact q
theorem Inv.quiet{σ:St}(I:Inv X pins σ H s):interactive X.env=false:=by simp [interactive,I.ok.kind]
def EN(te:TE):TS:=λD σ H=>te σ H λ_ H1=>D.nx σ H1
theorem qE(he:PE X e te)(hs:Kd e none pos.line X.env=pure false:=by rfl):PS X (.Expr e pos) (EN te):=by
 intro pins s σ H D I h
 exact wpAny_Expr_any (Gk (he pins s σ H _ I h) λv s1 ⟨x,H1,I1,r1,q1⟩=>⟨σ,H1,I1,q1⟩) I.quiet hs
def FQ(te:TE):TS:=λD σ H=>te σ H D.rt
theorem Um(he:PE X e te):PS X (.Return (some e) pos) (FQ te):=by
 intro pins s σ H D I h
 exact wpAny_Return_some (Gk (he pins s σ H _ I h) λv s1 ⟨x,H1,I1,r1,q1⟩=>⟨x,σ,H1,I1,r1,q1⟩)
def GP(c:TT)(t u:TS):TS:=λD σ H=>c σ H λb H1=>if b=true then t D σ H1 else u D σ H1
theorem yE(hc:PT X c tc)(ha:rO X a t)(hb:rO X b u):PS X (.If c a b pos) (GP tc t u):=by
 intro pins s σ H D I h
 refine wpAny_If (Gk (hc pins s σ H _ I h) λd s1 q0_ => ?_)
 obtain ⟨H1,I1,q1⟩ := q0_
 cases d with
 | true=>exact ha pins s1 σ H1 D I1 q1
 | false=>exact hb pins s1 σ H1 D I1 q1
end
abbrev TG:=V->St->Hp->(St->Hp->Prop)->Prop
abbrev M5:=List V->St->Hp->(St->Hp->Prop)->Prop
def PG(X:Cx)(target:Expr)(t:TG):Prop :=
 ∀(pins:List (Addr×Obj)) (s:Aj) (σ:St) (H:Hp) (v:V) (u:Value) (Q:St->Hp->Prop),Inv X pins σ H s->RelV v u->t v σ H Q ->
  wpAny (model X.prog X.w) X.A (assign target X.env u) (λ_ s'=>∃σ' H',Inv X pins σ' H' s'/\Q σ' H') X.xe s
def R6(X:Cx)(ts:List Expr)(t:M5):Prop :=
 ∀(pins:List (Addr×Obj)) (s:Aj) (σ:St) (H:Hp) (vs:List V) (us:List Value) (Q:St->Hp->Prop),Inv X pins σ H s->Fg vs us->t vs σ H Q ->
  wpAny (model X.prog X.w) X.A (assignInOrder ((Kz ts X.env).map (·.2)) us) (λ_ s'=>∃σ' H',Inv X pins σ' H' s'/\Q σ' H') X.xe s
abbrev Y9:=V->V->V->Hp->(Hp->Prop)->Prop
def BN(X:Cx)(t:Y9):Prop :=
 ∀(pins:List (Addr×Obj)) (s:Aj) (σ:St) (H:Hp) (o i v:V) (ov iv u:Value) (Q:Hp->Prop),Inv X pins σ H s->RelV o ov->RelV i iv->RelV v u->t o i v H Q ->
  wpAny (model X.prog X.w) X.A (setItem ov iv u) (λ_ s'=>∃H',Inv X pins σ H' s'/\Q H') X.xe s
section
variable{X:Cx}{pos:Pos}
def Xz(i:Nat):TG:=λv σ H Q=>Q (σ.set i (some v)) H
theorem Ow(hN:X.N.Nodup)(hi:X.N[i]? = some x)(hx:Loc X.env.scope x)(hf:X.fn x=true\/X.env.scope.names.lookup x=some .local:=by first | exact .inl rfl | exact .inr rfl | assumption):PG X (.Name x pos) (Xz i):=by
 intro pins s σ H v u Q I r h
 exact wpAny_assign_Name (lN I hN hi hx r (λs' I'=>⟨_,H,I',h⟩) hf)
def DU:M5:=λvs σ H Q=>vs=[]/\Q σ H
def u0(t:TG)(u:M5):M5:=λvs σ H Q=>∃v r,vs=v::r/\t v σ H λσ' H'=>u r σ' H' Q
theorem rW:R6 X [] DU:=by
 intro pins s σ H vs us Q I r h
 obtain ⟨e,h⟩:=h
 subst e
 cases r
 exact assignInOrder_nil ⟨σ,H,I,h⟩
theorem bM(h1:PG X e t)(h2:R6 X es u)(hs:(Kz (e::es) X.env).map (·.2)=assign e X.env::(Kz es X.env).map (·.2):=by rfl):R6 X (e::es) (u0 t u):=by
 intro pins s σ H vs us Q I r h
 obtain ⟨v,vr,e1,h⟩:=h
 subst e1
 cases r with
 | cons r rr =>
  rw[hs]
  refine assignInOrder_cons (Gk (h1 pins s σ H _ _ _ I r h) λ_ s1 q0_ => ?_)
  obtain ⟨σ1,H1,I1,q1⟩ := q0_
  exact h2 pins s1 σ1 H1 _ _ Q I1 rr q1
def AZ(K:PySem.W.Frag)(n:Nat)(t:M5):TG:=λv σ H Q=>∃a xs,v=.ref a/\Uh K H a xs/\xs.length=n/\t xs σ H Q
theorem zV{k:Nat}(hc:X.calm=true)(h:R6 X es t)(hn:(Kz es X.env).length=n:=by rfl)(hst:(Kz es X.env).findIdx? (·.1)=none:=by rfl):PG X (.Tuple es k pos) (AZ X.K n t):=by
 intro pins s σ H v u Q I r hw
 obtain ⟨a,xs,e1,hq,hl,hw⟩:=hw
 subst e1
 cases r
 obtain ⟨its,rv,ht,hz⟩:=I.tuple hq
 refine assign_Tuple_tuple (I.ok.hd hc) ht (by simp [hn,<- hl,rv.length]) hst λh' hx=>?_
 have I1:Inv X pins σ H { s with heap:=h' }:=I.kept (t':=s.toks) λb o e=>hx b o (Cd (Bg e)) e
 exact h pins _ σ H xs _ Q I1 (by simpa using rv) hw
def GK(to ti:TE)(t:Y9):TG:=λv σ H Q=>to σ H λo H1=>ti σ H1 λi H2=>t o i v H2 λH3=>Q σ H3
theorem o6(ho:PE X o to)(hi:PE X i ti)(hs:BN X t)
  (ha:∀v,assign (.Subscript o i pos) X.env v=(do
   let ov <- holding [v] (eval o X.env)
   let iv <- holding [v,ov] (eval i X.env)
   standAt pos
   holding [v,ov,iv] (setItem ov iv v)
   release [v,ov,iv] []):=by intro _; rfl):PG X (.Subscript o i pos) (GK to ti t):=by
 intro pins s σ H v u Q I r h
 rw[ha]
 refine Aa (Dd (Gk (ho pins s σ H _ I h) λov s1 q0_ => ?_))
 obtain ⟨x,H1,I1,r1,q1⟩ := q0_
 refine Aa (Dd (Gk (hi pins s1 σ H1 _ I1 q1) λiv s2 q0_ => ?_))
 obtain ⟨y,H2,I2,r2,q2⟩ := q0_
 refine Aa (wpAny_standAt (Aa (Dd (Gk (hs pins s2 σ H2 x y v ov iv u _ I2 r1 r2 r q2) λ_ s3 q0_ => ?_))))
 obtain ⟨H3,I3,q3⟩ := q0_
 exact wpAny_release ⟨σ,H3,I3,q3⟩
def J2(te:TE)(g:TG):TS:=λD σ H=>te σ H λx H1=>g x σ H1 D.nx
theorem yB(he:PE X e te)(hg:PG X tg g)(hs:swapsWithSole [tg] e pos.line X.env=pure false:=by rfl)(hw:swappedStores [tg] e X.env=pure none:=by rfl)(h1:(Kz [tg] X.env).map (·.2)=[assign tg X.env]:=by rfl):PS X (.Assign [tg] e pos) (J2 te g):=by
 intro pins s σ H D I h
 refine wpAny_Assign_stores (Gk (he pins s σ H _ I h) λv s1 ⟨x,H1,I1,r1,q1⟩=>?_) hs hw
 rw[h1]
 exact Gk (hg pins s1 σ H1 x v _ I1 r1 q1) λ_ s2 q=>q
theorem Pp(hN:X.N.Nodup)(hi:X.N[i]? = some x)(hx:Loc X.env.scope x)(he:PE X e te)(hs:Kd e (some (.Name x pos')) pos.line X.env=pure false:=by rfl)(hf:X.fn x=true\/X.env.scope.names.lookup x=some .local:=by first | exact .inl rfl | exact .inr rfl | assumption):PS X (.Assign [.Name x pos'] e pos) (J2 te (Xz i)):=by
 intro pins s σ H D I h
 refine wpAny_Assign_Name (Gk (he pins s σ H _ I h) λv s1 ⟨y,H1,I1,r1,q1⟩=>?_) hs
 exact lN I1 hN hi hx r1 (λs2 I2=>⟨_,H1,I2,q1⟩) hf
end
structure It where
 go:Nat->Hp->Prop
 yld:Nat->Hp->V->Hp->Prop
 stop:Nat->Hp->Prop
def Mu(X:Cx)(pins:List (Addr×Obj))(H:Hp)(b:Addr):Prop :=
 H b=none/\b≠X.env.locals/\b∉X.fs/\(b∈X.ex\/X.s₀.heap.objs.size<=b)/\(∀x c,X.env.cells.lookup x=some c->c≠b)/\∀p∈X.pn++pins,p.1≠b
theorem Inv.fpOk{σ:St}{b:Addr}(I:Inv X pins σ H s)(hb:s.heap.objs.size<=b)(hn:H' b=none):Mu X pins H' b:=by
 refine ⟨hn,Nat.ne_of_gt (Cc I.lt hb),I.nofs hb,.inr (Bz I.sz hb),λx c e z=>?_,λp hp z=>?_⟩
 ·obtain ⟨v,q⟩:=I.cell x c e
  exact absurd (Cc q.lt (by rw[z]; exact hb)) (Fk _)
 ·exact absurd (Cc (Bg (I.pin p hp).1) (by rw[z]; exact hb)) (Fk _)
structure Turn(P:Bs)(w:World)(K:PySem.W.Frag)(tg:Expr)(J:It)(fp:List Addr)(it:Addr)(tn:Nat->Heap->Prop):Prop where
 mem:it∈fp
 obj:∀i h,tn i h->∀b∈fp,∃o,h.get? b=some o/\∀v,o.data≠.cell v
 keep:∀i h h',tn i h->(∀b∈fp,∀o,h.get? b=some o->h'.get? b=some o)->tn i h'
 item:∀(X:Cx),X.prog=P->X.w=w->X.K=K->X.calm=true->∀(i:Nat) (pins:List (Addr×Obj)) (s:Aj) (σ:St) (H:Hp) (E:Value->Aj->Prop),Inv X pins σ H s->(∀b∈fp,Mu X pins H b)->tn i s.heap->J.go i H ->
  wpAny (model P w) X.A (Kx (.ref it)) (λr s1=>∃u,r=some u /\
   wpAny (model P w) X.A (Wj tg (.ref it) u) (λ_ s2=>∃x H',Inv X pins σ H' s2/\RelV x u/\J.yld i H x H'/\tn (i+1) s2.heap/\∀b∈fp,H' b=none) E s1) E s
 done:∀(X:Cx),X.prog=P->X.w=w->X.K=K->X.calm=true->∀(i:Nat) (pins:List (Addr×Obj)) (s:Aj) (σ:St) (H:Hp) (E:Value->Aj->Prop),Inv X pins σ H s->(∀b∈fp,Mu X pins H b)->tn i s.heap->J.stop i H ->
  wpAny (model P w) X.A (Kx (.ref it)) (λr s1=>r=none/\Inv X pins σ H s1) E s
 self:∀(A:Cs) (i:Nat) (s:Aj) (Q:Value->Aj->Prop) (E:Value->Aj->Prop),tn i s.heap->Q (.ref it) s->wpAny (model P w) A (pyIter (.ref it)) Q E s
abbrev TI:=St->Hp->(It->Hp->Prop)->Prop
def GX(X:Cx)(pins:List (Addr×Obj))(σ:St)(tg:Expr)(R:It->Hp->Prop)(itv:Value)(s2:Aj):Prop :=
 ∃(it:Addr) (fp:List Addr) (tn:Nat->Heap->Prop) (J:It) (H':Hp),itv=.ref it/\Inv X pins σ H' s2/\Turn X.prog X.w X.K tg J fp it tn/\tn 0 s2.heap/\(∀b∈fp,Mu X pins H' b)/\R J H'
def PI(X:Cx)(tg iter:Expr)(wi:TI):Prop :=
 ∀(pins:List (Addr×Obj)) (s:Aj) (σ:St) (H:Hp) (R:It->Hp->Prop),Inv X pins σ H s->wi σ H R ->
  wpAny (model X.prog X.w) X.A (eval iter X.env) (λv s1=>wpAny (model X.prog X.w) X.A (pyIter v) (GX X pins σ tg R) X.xe s1) X.xe s
theorem qV(ho:s.heap.get? it=some o)(hc:o.cls=.type n)(hd:o.data=.fields vs)(hn:["enumerate", "zip", "dict_itemiterator", "dict_reverseitemiterator", "odict_iterator", "itertools.zip_longest", "itertools.pairwise"].contains n=false)(hQ:Q () s):wpAny M A (Wj tg (.ref it) u) Q E s:=by
  unfold Wj
  cases tg <;> first
    | exact Am hQ
    | (cases u <;> first
        | exact Am hQ
        | (refine Aa (wpAny_load ho ?_)
           rw[hc,hd]
           show wpAny M A (if (["enumerate", "zip", "dict_itemiterator", "dict_reverseitemiterator", "odict_iterator", "itertools.zip_longest", "itertools.pairwise"].contains n && vs[0]? == some (Js _))=true then _ else _) Q E s
           rw[if_neg (by intro h; rw[hn,Bool.false_and] at h; cases h)]
           exact Am hQ))
def FJ(K:PySem.W.Frag)(a:Addr):It :=
 ⟨λi H=>∃xs x,Mc K H a xs/\xs[i]? = some x,λi H x H'=>H'=H/\∀xs,Mc K H a xs->xs[i]? = some x,λi H=>∃xs,Mc K H a xs/\xs.length<=i⟩
def GV(K:PySem.W.Frag)(a:Addr):It :=
 ⟨λi H=>∃xs x,Uh K H a xs/\xs[i]? = some x,λi H x H'=>H'=H/\∀xs,Uh K H a xs->xs[i]? = some x,λi H=>∃xs,Uh K H a xs/\xs.length<=i⟩
def N3(lo:Int)(n:Nat):It:=⟨λi _=>i<n,λi H x H'=>H'=H/\x=.int (lo+i),λi _=>n<=i⟩
theorem sS{K:PySem.W.Frag}(a it:Addr):Turn P w K tg (FJ K a) [it] it (λi h=>h.IsListIter it a i) where
 mem:=by simp
 obj:=λi h st b hb=>by
  have e:b=it:=by simpa using hb
  subst e
  obtain ⟨o,e,c,d⟩:=st
  exact ⟨o,e,λv z=>by rw[d] at z; cases z⟩
 keep:=λi h h' st k=>st.at λo e=>k it (by simp) o e
 item:=by
  intro X hP hw hK hc i pins s σ H E I hf st hg
  subst hP hw hK
  obtain ⟨xs,x,hq,hx⟩:=hg
  obtain ⟨its,rv,p,hz⟩:=I.list hq
  obtain ⟨u,hu,ru⟩:=rv.get hx
  obtain ⟨f0,f1,f2,f3,f4,f5⟩:=hf it (by simp)
  refine wpAny_pyNext_list_item st p.isList (x:=u) (by simpa using hu) λh' st' sb=>?_
  have I1:Inv X pins σ H { s with heap:=h' }:=I.turned (t':=s.toks) (λb o hb e=>(sb.2 b hb).trans e) f0 f1 f3 f4 f5
  obtain ⟨o,e,c,d⟩:=id st'
  exact ⟨u,rfl,qV (s:={ s with heap:=h' }) e c d (by decide) ⟨x,H,I1,ru,⟨rfl,λys hy=>by rw[I.list_inj hy hq]; exact hx⟩,st',λb hb=>(hf b hb).1⟩⟩
 done:=by
  intro X hP hw hK hc i pins s σ H E I hf st hg
  subst hP hw hK
  obtain ⟨xs,hq,hx⟩:=hg
  obtain ⟨its,rv,p,hz⟩:=I.list hq
  obtain ⟨f0,f1,f2,f3,f4,f5⟩:=hf it (by simp)
  have hl:=rv.length
  exact wpAny_pyNext_list_end (I.ok.hd hc) st p.isList (by simp; omega) λh' eb=>⟨rfl,I.turned (t':=s.toks) (λb o hb e=>eb b o hb e) f0 f1 f3 f4 f5⟩
 self:=λ_ _ _ _ _ st h=>wpAny_pyIter_listiter st h
theorem oZ{K:PySem.W.Frag}(a it:Addr):Turn P w K tg (GV K a) [it] it (λi h=>h.IsTupleIter it a i) where
 mem:=by simp
 obj:=λi h st b hb=>by
  have e:b=it:=by simpa using hb
  subst e
  obtain ⟨o,e,c,d⟩:=st
  exact ⟨o,e,λv z=>by rw[d] at z; cases z⟩
 keep:=λi h h' st k=>st.at λo e=>k it (by simp) o e
 item:=by
  intro X hP hw hK hc i pins s σ H E I hf st hg
  subst hP hw hK
  obtain ⟨xs,x,hq,hx⟩:=hg
  obtain ⟨its,rv,p,hz⟩:=I.tuple hq
  obtain ⟨u,hu,ru⟩:=rv.get hx
  obtain ⟨f0,f1,f2,f3,f4,f5⟩:=hf it (by simp)
  refine wpAny_pyNext_tuple_item st (show s.heap.IsTuple a its.toArray from p) (x:=u) (by simpa using hu) λh' st' sb=>?_
  have I1:Inv X pins σ H { s with heap:=h' }:=I.turned (t':=s.toks) (λb o hb e=>(sb.2 b hb).trans e) f0 f1 f3 f4 f5
  obtain ⟨o,e,c,d⟩:=id st'
  exact ⟨u,rfl,qV (s:={ s with heap:=h' }) e c d (by decide) ⟨x,H,I1,ru,⟨rfl,λys hy=>by rw[I.tuple_inj hy hq]; exact hx⟩,st',λb hb=>(hf b hb).1⟩⟩
 done:=by
  intro X hP hw hK hc i pins s σ H E I hf st hg
  subst hP hw hK
  obtain ⟨xs,hq,hx⟩:=hg
  obtain ⟨its,rv,p,hz⟩:=I.tuple hq
  obtain ⟨f0,f1,f2,f3,f4,f5⟩:=hf it (by simp)
  have hl:=rv.length
  exact wpAny_pyNext_tuple_end (I.ok.hd hc) st (show s.heap.IsTuple a its.toArray from p) (by simp; omega) λh' eb=>⟨rfl,I.turned (t':=s.toks) (λb o hb e=>eb b o hb e) f0 f1 f3 f4 f5⟩
 self:=λ_ _ _ _ _ st h=>wpAny_pyIter_tupleiter st h
theorem nR{K:PySem.W.Frag}(it:Addr)(lo:Int)(n:Nat):Turn P w K tg (N3 lo n) [it] it (λi h=>IsRangeIter h it (lo+(i:Nat) * 1) ((n:Int) - (i:Nat)) 1) where
 mem:=by simp
 obj:=λi h st b hb=>by
  have e:b=it:=by simpa using hb
  subst e
  exact ⟨_,st,λv z=>by
   have z':Data.fields _=Data.cell v:=z
   cases z'⟩
 keep:=λi h h' st k=>k it (by simp) _ st
 item:=by
  intro X hP hw hK hc i pins s σ H E I hf st hg
  subst hP hw hK
  obtain ⟨f0,f1,f2,f3,f4,f5⟩:=hf it (by simp)
  have W:=Walks.range (prog:=X.prog) (w:=X.w) (I.ok.hd hc) it lo 1 n
  refine W.item i s _ _ hg st λv h' tk hv st' kk=>?_
  obtain ⟨t,rfl⟩:=hv
  have I1:Inv X pins σ H { s with heap:=h',toks:=tk }:=I.turned (λb o hb e=>kk b o (by simpa using hb) e) f0 f1 f3 f4 f5
  refine ⟨_,rfl,qV (s:={ s with heap:=h',toks:=tk }) (n := "range_iterator") st' rfl rfl (by decide) ⟨.int (lo+i),H,I1,⟨t,?_⟩,⟨rfl,rfl⟩,st',λb hb=>(hf b hb).1⟩⟩
  rw[Int.mul_one]
 done:=by
  intro X hP hw hK hc i pins s σ H E I hf st hg
  subst hP hw hK
  obtain ⟨f0,f1,f2,f3,f4,f5⟩:=hf it (by simp)
  exact wpAny_pyNext_range_end (I.ok.hd hc) st (by have : n<=i:=hg; omega) λh' eb=>⟨rfl,I.turned (t':=s.toks) (λb o hb e=>eb b o hb e) f0 f1 f3 f4 f5⟩
 self:=λ_ _ _ _ _ st h=>wpAny_pyIter_rangeiter st h
section
variable{X:Cx}{tg:Expr}
def CI(K:PySem.W.Frag)(tl:TE):TI:=λσ H R=>tl σ H λx H1=>∃a,x=.ref a/\(∃xs,Mc K H1 a xs)/\R (FJ K a) H1
def GU(K:PySem.W.Frag)(tl:TE):TI:=λσ H R=>tl σ H λx H1=>∃a,x=.ref a/\(∃xs,Uh K H1 a xs)/\R (GV K a) H1
theorem gG(hl:PE X l tl):PI X tg l (CI X.K tl):=by
 intro pins s σ H R I h
 refine Gk (hl pins s σ H _ I h) λv s1 q0_ => ?_
 obtain ⟨x,H1,I1,r1,q1⟩ := q0_
 obtain ⟨a,e,⟨xs,hq⟩,q⟩:=q1
 subst e
 cases r1
 obtain ⟨its,rv,p,hz⟩:=I1.list hq
 refine fQ p.isList ?_
 refine ⟨s1.heap.objs.size,[s1.heap.objs.size],_,_,H1,rfl,I1.kept (t':=s1.toks) λb o e=>Ai _ e,sS a _,⟨_,Bf _ rfl,rfl,rfl⟩,λb hb=>?_,q⟩
 have e:b=s1.heap.objs.size:=by simpa using hb
 subst e
 exact I1.fpOk (Ak _) (I1.hok.fresh (Ak _))
theorem X7(hl:PE X l tl):PI X tg l (GU X.K tl):=by
 intro pins s σ H R I h
 refine Gk (hl pins s σ H _ I h) λv s1 q0_ => ?_
 obtain ⟨x,H1,I1,r1,q1⟩ := q0_
 obtain ⟨a,e,⟨xs,hq⟩,q⟩:=q1
 subst e
 cases r1
 obtain ⟨its,rv,p,hz⟩:=I1.tuple hq
 refine wpAny_pyIter_tuple (show s1.heap.IsTuple a its.toArray from p) ?_
 refine ⟨s1.heap.objs.size,[s1.heap.objs.size],_,_,H1,rfl,I1.kept (t':=s1.toks) λb o e=>Ai _ e,oZ a _,⟨_,Bf _ rfl,rfl,rfl⟩,λb hb=>?_,q⟩
 have e:b=s1.heap.objs.size:=by simpa using hb
 subst e
 exact I1.fpOk (Ak _) (I1.hok.fresh (Ak _))
theorem wK{pins:List (Addr×Obj)}{σ:St}{H:Hp}{lo hi:Int}(I:Inv X pins σ H s)(h1:-(2 ^ 62)<=lo)(h2:lo<2 ^ 62)(h3:-(2 ^ 62)<=hi)(h4:hi<2 ^ 62)(q:R (N3 lo (hi - lo).toNat) H):wpAny (model X.prog X.w) X.A (pyIter (.ref s.heap.objs.size)) (GX X pins σ tg R) E { s with heap:=s.heap.push { cls:=.type "range",data:=.fields #[.int lo t,.int hi u,.int 1 v] },toks:=tk }:=by
 refine wpAny_pyIter_range (IsRange.new ..) (small_one h1 h2 h3 h4) ?_
 have I1:Inv X pins σ H { s with heap:=s.heap.push { cls:=.type "range",data:=.fields #[.int lo t,.int hi u,.int 1 v] },toks:=tk }:=I.kept λb o e=>Ai _ e
 refine ⟨(s.heap.push { cls:=.type "range",data:=.fields #[.int lo t,.int hi u,.int 1 v] }).objs.size,[(s.heap.push { cls:=.type "range",data:=.fields #[.int lo t,.int hi u,.int 1 v] }).objs.size],_,_,H,rfl,
  I1.kept (t':=tk) λb o e=>Ai _ e,nR _ lo (hi - lo).toNat,?_,λb hb=>?_,q⟩
 ·have e1:lo+((0:Nat):Int) * 1=lo:=by simp
  have e2:(((hi - lo).toNat:Nat):Int) - ((0:Nat):Int)=Builtin.Range.rangeSize lo hi 1:=by rw[rangeSize_one]; split <;> omega
  show IsRangeIter _ _ (lo+((0:Nat):Int) * 1) ((((hi - lo).toNat:Nat):Int) - ((0:Nat):Int)) 1
  rw[e1,e2]
  exact Bf _ rfl
 ·have e:b=(s.heap.push { cls:=.type "range",data:=.fields #[.int lo t,.int hi u,.int 1 v] }).objs.size:=by simpa using hb
  subst e
  exact I1.fpOk (Ak _) (I1.hok.fresh (Ak _))
def CF(ta:TA):TI:=λσ H R=>ta σ H λvs H1=>∃j:Int,vs=[.int j] /\ -(2 ^ 62)<=j/\j<2 ^ 62/\R (N3 0 j.toNat) H1
theorem Xd(hg:Gl X "range")(hm:X.mg "range" = none)(ha:PA X [a] ta)(hs:Bq [a] X.env=[(false,eval a X.env)]:=by rfl):PI X tg (.Call (.Name "range" p) [a] [] pos) (CF ta):=by
 intro pins s σ H R I h
 refine Call_ (Nv I hg hm boot_range (Ey (Gk (ha pos pins s σ H _ I h) λus s1 ⟨vs,H1,I1,r1,q1⟩=>?_) hs rfl))
 obtain ⟨j,e,q1,q2,q⟩:=q1
 subst e
 cases r1 with
 | cons r rr =>
  cases rr
  obtain ⟨t,rfl⟩:=r
  exact call_range_1 (wK I1 (by omega) (by omega) q1 q2 (by simpa using q))
def FR(wi:TI)(g:TG)(tb:TS):TS:=λD σ H=>wi σ H λJ H1=>∃W:Nat->Nat->St->Hp->Prop,(∃m,W 0 m σ H1)/\∀i m σ H,W i m σ H ->
 (J.stop i H/\D.nx σ H)\/(J.go i H/\∃N:St->Hp->Prop,(∀σ' H',N σ' H'->∃m',m'<m/\W (i+1) m' σ' H')/\∀x H',J.yld i H x H'->g x σ H' λσ2 H2=>tb { D with nx:=N,ct:=N,bk:=D.nx } σ2 H2)
def Us(fp:List Addr)(h:Heap):List (Addr×Obj):=fp.filterMap λb=>(h.get? b).map λo=>(b,o)
theorem Jk(hb:b∈fp)(e:h.get? b=some o):(b,o)∈Us fp h:=List.mem_filterMap.mpr ⟨b,hb,by rw[e]; rfl⟩
theorem uK(hp:p∈Us fp h):p.1∈fp/\h.get? p.1=some p.2:=by
 obtain ⟨b,hb,e⟩:=List.mem_filterMap.mp hp
 cases q:h.get? b with
 | none=>rw[q] at e; cases e
 | some o =>
  rw[q] at e
  have e':(b,o)=p:=Bp e
  subst e'
  exact ⟨hb,q⟩
theorem Inv.pinned{σ:St}(I:Inv X pins σ H s)(hf:∀b∈fp,Mu X pins H b)(ho:∀b∈fp,∃o,s.heap.get? b=some o/\∀v,o.data≠.cell v):Inv X (pins++Us fp s.heap) σ H s :=
 I.pins_of λp hp=>(Ay.mp hp).elim (λz=>I.pin p (Al _ z)) λz=>by
  obtain ⟨hb,e⟩:=uK z
  obtain ⟨f0,f1,f2,_⟩:=hf p.1 hb
  obtain ⟨o,e',d⟩:=ho p.1 hb
  rw[e] at e'; cases e'
  exact ⟨e,f0,f1,f2,d⟩
theorem Inv.unpinned{σ:St}(I:Inv X (pins++pl) σ H s):Inv X pins σ H s:=I.pins_of λp hp=>I.pin p (Al _ (Ao _ hp))
theorem iL(hp:PassesOwn (model X.prog X.w) X.A X.env X.xe)(hc:X.calm=true)(hi:PI X tg iter wi)(hg:PG X tg g)(hb:rO X body tb)(hs:∀x,Ee iter X.env x=pure x:=by intro _; rfl):PS X (.For tg iter body [] pos) (FR wi g tb):=by
 intro pins s σ H D I h
 refine wpAny_For (Gk (hi pins s σ H _ I h) λv s1 h1=>Gk h1 λitv s2 h2=>?_) hs
 obtain ⟨it,fp,tn,J,H2,e,I2,T,st2,f2,W,⟨m0,w0⟩,turn⟩:=h2
 subst e
 -- what stays true of the iterator's objects through the loop
 have stat:∀{H':Hp},(∀b∈fp,H' b=none)->∀b∈fp,Mu X pins H' b:=λhn b hb=>⟨hn b hb,(f2 b hb).2⟩
 refine codeAny_forLoop_any (λn s'=>∃i σ' H',Inv X pins σ' H' s'/\tn i s'.heap/\(∀b∈fp,H' b=none)/\W i n σ' H') ?_ m0 ⟨0,σ,H2,I2,st2,λb hb=>(f2 b hb).1,w0⟩
 (intro n s3 q_; obtain ⟨i,σ3,H3,I3,st3,fr3,w3⟩ := q_)
 rcases turn i n σ3 H3 w3 with ⟨stop,qn⟩ | ⟨go,N,hN,step⟩
 ·refine Pw hp (Gk (T.done X rfl rfl rfl hc i pins s3 σ3 H3 X.xe I3 (stat fr3) st3 stop) λr s4 q0_ => ?_)
  obtain ⟨hr,I4⟩ := q0_
  subst hr
  exact wpAny_execs_nil ⟨σ3,H3,I4,qn⟩
 ·refine Pw hp (Gk (T.item X rfl rfl rfl hc i pins s3 σ3 H3 X.xe I3 (stat fr3) st3 go) λr s4 q0_ => ?_)
  obtain ⟨u,hr,h4⟩ := q0_
  subst hr
  refine Pw hp (Gk h4 λ_ s5 q0_ => ?_)
  obtain ⟨x,H5,I5,r5,y5,st5,fr5⟩ := q0_
  have I5':=I5.pinned (stat fr5) (T.obj _ _ st5)
  refine Pw hp (Gk (hg _ s5 σ3 H5 x u _ I5' r5 (step x H5 y5)) λ_ s6 q0_ => ?_)
  obtain ⟨σ6,H6,I6,q6⟩ := q0_
  refine Pw hp (Gk (hb _ s6 σ6 H6 _ I6 q6) λf s7 q7=>?_)
  have again:∀{σ7:St} {H7:Hp},Inv X (pins++Us fp s5.heap) σ7 H7 s7->N σ7 H7->∃m,m<n/\∃i σ' H',Inv X pins σ' H' s7/\tn i s7.heap/\(∀b∈fp,H' b=none)/\W i m σ' H':=λ{σ7 H7} I7 n7=>by
   obtain ⟨m',hm,w7⟩:=hN σ7 H7 n7
   refine ⟨m',hm,i+1,σ7,H7,I7.unpinned,T.keep _ _ _ st5 λb hb o e=>(I7.pin (b,o) (Al _ (Al _ (Jk hb e)))).1,λb hb=>?_,w7⟩
   obtain ⟨o,e,d⟩:=T.obj _ _ st5 b hb
   exact (I7.pin (b,o) (Al _ (Al _ (Jk hb e)))).2.1
  cases f with
  | next=>obtain ⟨σ7,H7,I7,n7⟩:=q7; exact again I7 n7
  | cont=>obtain ⟨σ7,H7,I7,n7⟩:=q7; exact again I7 n7
  | brk=>obtain ⟨σ7,H7,I7,q7⟩:=q7; exact ⟨σ7,H7,I7.unpinned,q7⟩
  | ret v=>obtain ⟨x7,σ7,H7,I7,r7,q7⟩:=q7; exact ⟨x7,σ7,H7,I7.unpinned,r7,q7⟩
end
theorem fM{lo:Int}{g:TG}{tb:TS}{D:Ends}(Pv:Nat->St->Hp->Prop)(h0:Pv 0 σ H)(hs:∀i σ H,i<n->Pv i σ H->g (.int (lo+i)) σ H λσ2 H2=>tb { D with nx:=Pv (i+1),ct:=Pv (i+1),bk:=D.nx } σ2 H2)(hd:∀σ H,Pv n σ H->D.nx σ H):∃W:Nat->Nat->St->Hp->Prop,(∃m,W 0 m σ H)/\∀i m σ H,W i m σ H->((N3 lo n).stop i H/\D.nx σ H)\/((N3 lo n).go i H/\∃N:St->Hp->Prop,(∀σ' H',N σ' H'->∃m',m'<m/\W (i+1) m' σ' H')/\∀x H',(N3 lo n).yld i H x H'->g x σ H' λσ2 H2=>tb { D with nx:=N,ct:=N,bk:=D.nx } σ2 H2):=by
 refine ⟨λi m σ H=>m=n - i/\i<=n/\Pv i σ H,⟨n,by simp,Dg _,h0⟩,?_⟩
 (intro i m σ H q_; obtain ⟨rfl,hi,p⟩ := q_)
 by_cases hlt:i<n
 ·refine .inr ⟨hlt,Pv (i+1),λσ' H' p'=>⟨n - (i+1),by omega,rfl,hlt,p'⟩,λx H' y=>?_⟩
  obtain ⟨e,y⟩:=y
  subst e y
  exact hs i σ _ hlt p
 ·have e:i=n:=by omega
  subst e
  exact .inl ⟨Ak _,hd σ H p⟩
abbrev R2:=V->V->Hp->VK->Prop
def Wc(X:Cx)(f:Value->Value->Sem Value)(r:R2):Prop :=
 ∀(pins:List (Addr×Obj)) (s:Aj) (σ:St) (H:Hp) (x y:V) (v u:Value) (Q:VK),Inv X pins σ H s->RelV x v->RelV y u->r x y H Q ->
  wpAny (model X.prog X.w) X.A (f v u) (EP X pins σ Q) X.xe s
def GT(X:Cx)(f:Value->Sem Value)(r:V->Hp->VK->Prop):Prop :=
 ∀(pins:List (Addr×Obj)) (s:Aj) (σ:St) (H:Hp) (x:V) (v:Value) (Q:VK),Inv X pins σ H s->RelV x v->r x H Q ->
  wpAny (model X.prog X.w) X.A (f v) (EP X pins σ Q) X.xe s
def Ld(X:Cx)(f:Value)(r:List V->Hp->VK->Prop):Prop :=
 ∀(pins:List (Addr×Obj)) (s:Aj) (σ:St) (H:Hp) (xs:List V) (us:List Value) (Q:VK),Inv X pins σ H s->Fg xs us->r xs H Q ->
  wpAny (model X.prog X.w) X.A (call f us) (EP X pins σ Q) X.xe s
def FV(X:Cx)(r:V->Hp->(Bool->Hp->Prop)->Prop):Prop :=
 ∀(pins:List (Addr×Obj)) (s:Aj) (σ:St) (H:Hp) (x:V) (v:Value) (Q:Bool->Hp->Prop),Inv X pins σ H s->RelV x v->r x H Q ->
  wpAny (model X.prog X.w) X.A (truthy v) (TP X pins σ Q) X.xe s
def BK(r:R2)(ta tb:TE):TE:=λσ H Q=>ta σ H λx H1=>tb σ H1 λy H2=>r x y H2 Q
def IE(r:V->Hp->VK->Prop)(ta:TE):TE:=λσ H Q=>ta σ H λx H1=>r x H1 Q
def rI(C:Int->Int->Prop)(g:Int->Int->V):R2:=λx y H Q=>∃i j,x=.int i/\y=.int j/\C i j/\Q (g i j) H
def w8(g:Int->Int->V):R2:=λx y H Q=>∃i j,x=.int i/\y=.int j/\Q (g i j) H
def rU(g:Int->V):V->Hp->VK->Prop:=λx H Q=>∃i,x=.int i/\Q (g i) H
section
variable{X:Cx}{a b c:Expr}{ta tb tc:TE}{pos:Pos}
theorem R3(ha:PE X a ta)(hb:PE X b tb){pins:List (Addr×Obj)}{σ:St}{R:V->V->Hp->Prop}(I:Inv X pins σ H s)(h:ta σ H λx H1=>tb σ H1 λy H2=>R x y H2){f:Value->Value->Sem Value}(hf:∀v u s2 x y H2,Inv X pins σ H2 s2->RelV x v->RelV y u->R x y H2->wpAny (model X.prog X.w) X.A (f v u) Q X.xe s2):wpAny (model X.prog X.w) X.A (eval a X.env) (λv s₁=>wpAny (model X.prog X.w) X.A (eval b X.env) (λu s₂=>wpAny (model X.prog X.w) X.A (f v u) Q X.xe s₂) X.xe s₁) X.xe s:=by
 refine Gk (ha pins s σ H _ I h) λv s1 q0_ => ?_
 obtain ⟨x,H1,I1,r1,q1⟩ := q0_
 refine Gk (hb pins s1 σ H1 _ I1 q1) λu s2 q0_ => ?_
 obtain ⟨y,H2,I2,r2,q2⟩ := q0_
 exact hf v u s2 x y H2 I2 r1 r2 q2
theorem Hv(ho:Wc X (Iv op) r)(ha:PE X a ta)(hb:PE X b tb):PE X (.BinOp a op b pos) (BK r ta tb):=by
 intro pins s σ H Q I h
 exact wpAny_BinOp (R3 ha hb I h λv u s2 x y H2 I2 rx ry q=>ho pins s2 σ H2 x y v u Q I2 rx ry q)
theorem Q5(ho:GT X (unaryOp op) r)(ha:PE X a ta):PE X (.UnaryOp op a pos) (IE r ta):=by
 intro pins s σ H Q I h
 exact UnaryOp_ (Gk (ha pins s σ H _ I h) λv s1 ⟨x,H1,I1,r1,q1⟩=>ho pins s1 σ H1 x v Q I1 r1 q1)
theorem BY{g:Int->Int->Int}(rule:∀(i j:Int) (t u:Tok) (s:Aj) (Q:Value->Aj->Prop) (E:Value->Aj->Prop),C i j->Q (.int (g i j) s.toks) { s with toks:=s.toks+1 }->wpAny (model X.prog X.w) X.A (f (.int i t) (.int j u)) Q E s):Wc X f (rI C λi j=>.int (g i j)):=by
 intro pins s σ H x y v u Q I rx ry h
 obtain ⟨i,j,rfl,rfl,hc,q⟩:=h
 obtain ⟨t,rfl⟩:=rx
 obtain ⟨t',rfl⟩:=ry
 exact rule i j t t' s _ _ hc ⟨.int (g i j),H,I.tok _,⟨_,rfl⟩,q⟩
theorem T7{g:Int->Int->Int}(rule:∀(i j:Int) (t u:Tok) (s:Aj) (Q:Value->Aj->Prop) (E:Value->Aj->Prop),Q (.int (g i j) s.toks) { s with toks:=s.toks+1 }->wpAny (model X.prog X.w) X.A (f (.int i t) (.int j u)) Q E s):Wc X f (w8 λi j=>.int (g i j)):=by
 intro pins s σ H x y v u Q I rx ry h
 obtain ⟨i,j,rfl,rfl,q⟩:=h
 obtain ⟨t,rfl⟩:=rx
 obtain ⟨t',rfl⟩:=ry
 exact rule i j t t' s _ _ ⟨.int (g i j),H,I.tok _,⟨_,rfl⟩,q⟩
theorem E6{g:Int->Int->Bool}(rule:∀(i j:Int) (t u:Tok) (s:Aj) (Q:Value->Aj->Prop) (E:Value->Aj->Prop),Q (.bool (g i j)) s->wpAny (model X.prog X.w) X.A (f (.int i t) (.int j u)) Q E s):Wc X f (w8 λi j=>.bl (g i j)):=by
 intro pins s σ H x y v u Q I rx ry h
 obtain ⟨i,j,rfl,rfl,q⟩:=h
 obtain ⟨t,rfl⟩:=rx
 obtain ⟨t',rfl⟩:=ry
 exact rule i j t t' s _ _ ⟨.bl (g i j),H,I,rfl,q⟩
def V0(i j:Int):Prop:=0<j/\j<1073741824
def W6(i j:Int):Prop:=0<=j/\j<=1000000/\i.natAbs<2 ^ 64
def X4(i j:Int):Prop:=(-(2 ^ 64)<i/\i<2 ^ 64)\/(-(2 ^ 64)<j/\j<2 ^ 64)
theorem X4.ok(h:X4 i j):IntMulOk i j:=by
 rcases h with ⟨h1,h2⟩ | ⟨h1,h2⟩
 ·exact .of_left (intBits_le_64 h1 h2)
 ·exact .of_right (intBits_le_64 h1 h2)
theorem Zt:Wc X (Iv .Add) (w8 λi j=>.int (i+j)):=T7 λ_ _ _ _ _ _ _ q=>add_int q
theorem T3:Wc X (Iv .Sub) (w8 λi j=>.int (i - j)):=T7 λ_ _ _ _ _ _ _ q=>sub_int q
theorem Xa:Wc X (Iv .Mult) (rI X4 λi j=>.int (i * j)):=BY λ_ _ _ _ _ _ _ hc q=>mul_int q hc.ok
theorem gM:Wc X (Iv .FloorDiv) (rI V0 λi j=>.int (i / j)):=BY λi j _ _ _ _ _ hc q=>by
 have h1:(0:Int)<j:=hc.1
 have h2:j<1073741824:=hc.2
 exact floordiv_int (by omega) (by rw[Int.fdiv_eq_ediv_of_nonneg i (by omega)]; exact q) (.inl (PyProof.noPylong_small (by omega)))
theorem Ut:Wc X (Iv .Mod) (rI (λ_ j=>0<j) λi j=>.int (i % j)):=BY λi j _ _ _ _ _ hc q=>by
 have h1:(0:Int)<j:=hc
 exact mod_int' (by omega) (by rw[Int.fmod_eq_emod_of_nonneg i (by omega)]; exact q)
theorem aQ:Wc X (Iv .Pow) (rI W6 λi j=>.int (i ^ j.toNat)):=BY λ_ _ _ _ _ _ _ hc q=>pow_int_small hc.1 hc.2.1 hc.2.2 q
theorem X2:Wc X (Iv .BitXor) (w8 λi j=>.int (Builtin.bitXor i j)):=T7 λ_ _ _ _ _ _ _ q=>xor_int q
theorem ID{g:Int->Int}(rule:∀(i:Int) (t:Tok) (s:Aj) (Q:Value->Aj->Prop) (E:Value->Aj->Prop),Q (.int (g i) s.toks) { s with toks:=s.toks+1 }->wpAny (model X.prog X.w) X.A (f (.int i t)) Q E s):GT X f (rU λi=>.int (g i)):=by
 intro pins s σ H x v Q I rx h
 obtain ⟨i,rfl,q⟩:=h
 obtain ⟨t,rfl⟩:=rx
 exact rule i t s _ _ ⟨.int (g i),H,I.tok _,⟨_,rfl⟩,q⟩
theorem wM:GT X (unaryOp .USub) (rU λi=>.int (-i)):=ID λ_ _ _ _ _ q=>neg_int q
end
section
variable{X:Cx}{a b c:Expr}{ta tb tc:TE}{pos:Pos}
theorem BD:Wc X (Hy .Lt) (w8 λi j=>.bl (decide (i<j))):=E6 λ_ _ _ _ _ _ _ q=>lt_int q
theorem op_le:Wc X (Hy .LtE) (w8 λi j=>.bl (decide (i<=j))):=E6 λ_ _ _ _ _ _ _ q=>le_int q
theorem BE:Wc X (Hy .Gt) (w8 λi j=>.bl (decide (j<i))):=E6 λ_ _ _ _ _ _ _ q=>gt_int q
theorem yX:Wc X (Hy .GtE) (w8 λi j=>.bl (decide (j<=i))):=E6 λ_ _ _ _ _ _ _ q=>ge_int q
theorem Qu(b:Expr)(h:op≠.In:=by decide)(h2:op≠.NotIn:=by decide):Gd op b=false:=by
 have e1:(op == CmpOp.In)=false:=by cases op <;> first | rfl | exact absurd rfl h
 have e2:(op == CmpOp.NotIn)=false:=by cases op <;> first | rfl | exact absurd rfl h2
 cases b <;> simp [Gd,e1,e2]
theorem K4(ho:Wc X (Hy op) r)(ha:PE X a ta)(hb:PE X b tb)(hm:Gd op b=false):PE X (.Compare a [op] [b] pos) (BK r ta tb):=by
 intro pins s σ H Q I h
 exact wpAny_Compare1 (R3 ha hb I h λv u s2 x y H2 I2 rx ry q=>ho pins s2 σ H2 x y v u Q I2 rx ry q) hm
def CH(t:TE):TT:=λσ H Q=>t σ H λx H'=>∃k,x=.bl k/\Q k H'
theorem rH(ho:Wc X (Hy op) r)(ha:PE X a ta)(hb:PE X b tb)(hm:Gd op b=false):PT X (.Compare a [op] [b] pos) (CH (BK r ta tb)):=by
 intro pins s σ H Q I h
 refine wpAny_isTrue_Compare1 (Gk (ha pins s σ H _ I h) λv s1 ⟨x,H1,I1,r1,q1⟩=>Gk (hb pins s1 σ H1 _ I1 q1) λu s2 ⟨y,H2,I2,r2,q2⟩ =>
  Gk (ho pins s2 σ H2 x y v u _ I2 r1 r2 q2) λc s3 ⟨z,H3,I3,r3,k,e,q3⟩=>?_) hm
 subst e
 cases r3
 exact Fq ⟨H3,I3,q3⟩
def GI(K:PySem.W.Frag)(x:V)(H:Hp)(k:Bool):Prop :=
 match x with
 | .non=>k=false
 | .bl b=>k=b
 | .int i=>k=(i != 0)
 | .str y=>y.length<=Au/\k=((y.length:Int) != 0)
 | .byt y=>y.size<=Au/\k=((y.size:Int) != 0)
 | .ref p=>(∃xs,Mc K H p xs/\k = !xs.isEmpty)\/(∃xs,Uh K H p xs/\k = !xs.isEmpty)\/∃kvs,H p=some (.dK kvs)/\k = !kvs.isEmpty
 | _=>False
theorem oK{kvs:List (κ×V)}{vs:List (κ×Value)}(r:KV kvs vs):(!vs.isEmpty) = !kvs.isEmpty:=by
 cases r <;> rfl
theorem aF(r:Fg xs its):(!its.toArray.isEmpty) = !xs.isEmpty:=by
 cases r <;> simp
theorem Xl:(Au:Nat)<2 ^ 63:=by rw[Jo]; decide
theorem GC:FV X (λx H Q=>∃k,GI X.K x H k/\Q k H):=by
 intro pins s σ H x v Q I rx h
 obtain ⟨k,e,q⟩:=h
 have hl:=Xl
 have hs:Au=16777216:=Jo
 cases x with
 | non =>
  cases rx
  have e':k=false:=e
  subst e'
  exact truthy_none ⟨H,I,q⟩
 | bl b =>
  cases rx
  have e':k=b:=e
  subst e'
  exact Fq ⟨H,I,q⟩
 | int i =>
  obtain ⟨t,rfl⟩:=rx
  have e':k=(i != 0):=e
  subst e'
  exact PySem.P.truthy_int ⟨H,I,q⟩
 | str y =>
  obtain ⟨t,rfl⟩:=rx
  obtain ⟨hy,e'⟩ : y.length<=Au/\k=((y.length:Int) != 0):=e
  subst e'
  exact PySem.P.truthy_str (by omega) ⟨H,I.tok _,q⟩
 | byt y =>
  obtain ⟨t,rfl⟩:=rx
  obtain ⟨hy,e'⟩ : y.size<=Au/\k=((y.size:Int) != 0):=e
  subst e'
  exact PySem.W.truthy_bytes (by omega) ⟨H,I.tok _,q⟩
 | ref p =>
  cases rx
  have e':(∃xs,Mc X.K H p xs/\k = !xs.isEmpty)\/(∃xs,Uh X.K H p xs/\k = !xs.isEmpty)\/∃kvs,H p=some (.dK kvs)/\k = !kvs.isEmpty:=e
  rcases e' with ⟨xs,hx,e'⟩ | ⟨xs,hx,e'⟩ | ⟨kvs,hx,e'⟩
  ·subst e'
   obtain ⟨its,r,pl,hz⟩:=I.list hx
   have hlen:=r.length
   exact wpAny_truthy_list pl.isList (by simp only[Aq]; omega) ⟨H,I.tok _,by rw[aF r]; exact q⟩
  ·subst e'
   obtain ⟨its,r,pl,hz⟩:=I.tuple hx
   have hlen:=r.length
   exact truthy_tuple pl (by simp only[Aq]; omega) ⟨H,I.tok _,by rw[aF r]; exact q⟩
  ·subst e'
   obtain ⟨hz,hS,vs,r,m⟩ : kvs.length<=Au/\(p == Fu)=false/\∃vs,KV kvs vs/\s.heap.DictOf (Hf X.prog X.w) p vs:=I.hok p _ hx
   have hlen:kvs.length=vs.length:=Paired.length r
   exact wpAny_truthy_dict hS m (by omega) ⟨H,I.tok _,by rw[oK r]; exact q⟩
 | _=>exact (show False from e).elim
theorem vals1(r:Fg [x] us):∃u,us=[u]/\RelV x u:=by
 cases r with
 | cons r1 r2=>cases r2; exact ⟨_,rfl,r1⟩
theorem vals2(r:Fg [x,y] us):∃u w',us=[u,w']/\RelV x u/\RelV y w':=by
 cases r with
 | cons r1 r2 =>
  cases r2 with
  | cons r3 r4=>cases r4; exact ⟨_,_,rfl,r1,r3⟩
theorem Ti(hc:X.calm=true):Ld X (.builtin "max") (λxs H Q=>∃i j,xs=[.int i,.int j]/\Q (.int (if j > i then j else i)) H):=by
 intro pins s σ H xs us Q I r h
 obtain ⟨i,j,rfl,q⟩:=h
 obtain ⟨u,w',rfl,⟨t,rfl⟩,⟨t',rfl⟩⟩:=vals2 r
 refine max_two_ints (I.ok.hd hc) λh' tk k=>⟨_,H,I.kept k,?_,q⟩
 by_cases hj:j > i
 ·rw[if_pos hj,if_pos hj]; exact ⟨_,rfl⟩
 ·rw[if_neg hj,if_neg hj]; exact ⟨_,rfl⟩
theorem uT(hc:X.calm=true):Ld X (.builtin "min") (λxs H Q=>∃i j,xs=[.int i,.int j]/\Q (.int (if j<i then j else i)) H):=by
 intro pins s σ H xs us Q I r h
 obtain ⟨i,j,rfl,q⟩:=h
 obtain ⟨u,w',rfl,⟨t,rfl⟩,⟨t',rfl⟩⟩:=vals2 r
 refine min_two_ints (I.ok.hd hc) λh' tk k=>⟨_,H,I.kept k,?_,q⟩
 by_cases hj:j<i
 ·rw[if_pos hj,if_pos hj]; exact ⟨_,rfl⟩
 ·rw[if_neg hj,if_neg hj]; exact ⟨_,rfl⟩
theorem Xp:Ld X (.type "int") (λxs H Q=>(∃i,xs=[.int i]/\Q (.int i) H)\/∃k,xs=[.bl k]/\Q (.int (if k then 1 else 0)) H):=by
 intro pins s σ H xs us Q I r h
 rcases h with ⟨i,rfl,q⟩ | ⟨k,rfl,q⟩
 ·obtain ⟨u,rfl,t,rfl⟩:=vals1 r
  exact call_int_int ⟨.int i,H,I,⟨_,rfl⟩,q⟩
 ·obtain ⟨u,rfl,r1⟩:=vals1 r
  cases r1
  exact call_int_bool ⟨.int (if k then 1 else 0),H,I.tok _,⟨_,rfl⟩,q⟩
def CY(K:PySem.W.Frag)(x:V)(H:Hp)(n:Nat):Prop :=
 match x with
 | .str y=>y.length<=Au/\n=y.length
 | .byt y=>y.size<=Au/\n=y.size
 | .ref p=>(∃xs,Mc K H p xs/\n=xs.length)\/∃xs,Uh K H p xs/\n=xs.length
 | _=>False
theorem Hu:Ld X (.builtin "len") (λxs H Q=>∃x n,xs=[x]/\CY X.K x H n/\Q (.int n) H):=by
 intro pins s σ H xs us Q I r h
 obtain ⟨x,n,rfl,e,q⟩:=h
 obtain ⟨u,rfl,rx⟩:=vals1 r
 have hl:=Xl
 have hs:Au=16777216:=Jo
 cases x with
 | str y =>
  obtain ⟨t,rfl⟩:=rx
  obtain ⟨hy,e'⟩ : y.length<=Au/\n=y.length:=e
  subst e'
  exact len_str (by omega) ⟨.int _,H,I.tok _,⟨_,rfl⟩,q⟩
 | byt y =>
  obtain ⟨t,rfl⟩:=rx
  obtain ⟨hy,e'⟩ : y.size<=Au/\n=y.size:=e
  subst e'
  exact PySem.W.len_bytes (by omega) ⟨.int _,H,I.tok _,⟨_,rfl⟩,q⟩
 | ref p =>
  cases rx
  have e':(∃xs,Mc X.K H p xs/\n=xs.length)\/∃xs,Uh X.K H p xs/\n=xs.length:=e
  rcases e' with ⟨xs,hx,e'⟩ | ⟨xs,hx,e'⟩
  ·subst e'
   obtain ⟨its,r',pl,hz⟩:=I.list hx
   have hlen:=r'.length
   exact Calls.call_len_list pl.isList (by simp only[Aq]; omega) ⟨.int xs.length,H,I.tok _,⟨_,by simp only[Aq]; rw[hlen]⟩,q⟩
  ·subst e'
   obtain ⟨its,r',pl,hz⟩:=I.tuple hx
   have hlen:=r'.length
   exact len_tuple pl (by simp only[Aq]; omega) ⟨.int xs.length,H,I.tok _,⟨_,by simp only[Aq]; rw[hlen]⟩,q⟩
 | _=>exact (show False from e).elim
end
structure ObjM(h:Heap)(x dx C:Addr)(mA:Str->Option Value):Prop where
 obj:h.get? x=some (PySem.W.instObj C dx)
 ns:h.Ns1 dx mA
 ne:dx≠x
theorem uF{h:Heap}(n:h.Ns1 dx mA):∃od,h.get? dx=some od/\∀name,PySem.W.lookIn name od=some (mA name):=by
 obtain ⟨o,es,ep,ho,hd,hk,_,hm⟩:=n
 refine ⟨o,ho,λname=>?_⟩
 have e:=hm name
 unfold nsFind findBy at e
 rw[<- Array.find?_toList] at e
 unfold PySem.W.lookIn
 rw[hd]
 dsimp only
 split
 ·rename_i y q
  rw[q] at e
  exact congrArg some e
 ·rename_i q
  rw[q] at e
  have a:es.toList.any (·.refKey)=false:=by
   rw[List.any_eq_false]
   intro y hy
   obtain ⟨z,t,hkey⟩:=hk y (Array.mem_toList_iff.mp hy)
   simp [DictEntry.refKey,hkey]
  have a':¬ es.toList.any (·.refKey)=true:=by rw[a]; exact Bt
  rw[if_neg a']
  exact congrArg some e
theorem ObjM.look(I:ObjM h x dx C mA):∃od,PySem.W.InstAt h x (PySem.W.instObj C dx) C (some od)/\∀name,PySem.W.lookIn name od=some (mA name) :=
 let ⟨od,ho,hl⟩:=uF I.ns
 ⟨od,⟨I.obj,rfl,rfl,ho⟩,hl⟩
theorem kT.some_of(r:kT (some v) o):∃u,o=some u/\RelV v u:=by
 cases o with
 | none=>exact (show False from r).elim
 | some u=>exact ⟨u,rfl,r⟩
section
variable{P:Bs}{w:World}{H H':Hp}{h h':Heap}{a C dx:Addr}{fs fs':List (Str×V)}
theorem B9(hok:Wo P w H h)(e:H a=some (.ins C dx fs)):∃mA,ObjM h a dx C mA/\(∀f,kT (fs.lookup f) (mA f))/\PySem.Within mA (fs.map (·.1))/\fs.length<=1000/\H dx=some (.own a):=by
 obtain ⟨d,z,ne,ob,mA,n,r,q⟩:=(show Hg P w H h a (.ins C dx fs) from hok a _ e)
 exact ⟨mA,⟨ob,n,ne⟩,r,q,z,d⟩
end
structure Cls(K:PySem.W.Frag)(C:Addr):Prop where
 pg:PySem.W.plainGet K C Str.empty=true
 hd:PySem.W.hasDictIn K C=true
 po:PySem.W.plainOver K C=true
 sa:PySem.W.findIn K (.ref C) "__setattr__" = some (some (.builtin "object.__setattr__"))
theorem Cls.get{K:PySem.W.Frag}(c:Cls K C)(f:Str):PySem.W.plainGet K C f=true:=c.pg
section
variable{X:Cx}{pins:List (Addr×Obj)}{σ:St}{H:Hp}{s:Aj}{A:Cs}{E:Value->Aj->Prop}{Q:Value->Aj->Prop}{c:Value}{b:Bool}
inductive TyOf (K:PySem.W.Frag) (H:Hp):V->Value->Prop where
 | non:TyOf K H .non (.type "NoneType")
 | bl (x:Bool):TyOf K H (.bl x) (.type "bool")
 | int (i:Int):TyOf K H (.int i) (.type "int")
 | str (x:Str):TyOf K H (.str x) (.type "str")
 | flt (x:UInt64):TyOf K H (.flt x) (.type "float")
 | lst {a:Addr} {xs:List V} (e:H a=some (.lst xs)):TyOf K H (.ref a) (.type "list")
 | frz {a:Addr} {o:Obj} {xs:List V} (e:H a=some (.frz o (.lst xs))):TyOf K H (.ref a) (.type "list")
 | tup {a:Addr} {xs:List V} (e:H a=some (.tup xs)):TyOf K H (.ref a) (.type "tuple")
 | dK {a:Addr} {kvs:List (Hj×V)} (e:H a=some (.dK kvs)):TyOf K H (.ref a) (.type "dict")
 | dT {a:Addr} {kvs:List (List Hj×V)} (e:H a=some (.dT kvs)):TyOf K H (.ref a) (.type "dict")
 | ins {a C dx:Addr} {fs:List (Str×V)} (e:H a=some (.ins C dx fs)) (cl:Cls K C) (ha:PySem.W.findIn K (.ref C) "__class__" = some (some (.builtin "object.__class__")))
   (hn:PySem.W.specialIn K (.builtin "object.__class__") "__get__" = some (some (.builtin "getset_descriptor.__get__"))) (htk:PySem.W.takesIn K (.builtin "object.__class__")=some true)
   (hm:PySem.W.mroIn K C (.type "object")=some true):TyOf K H (.ref a) (.ref C)
theorem uN(I:Inv X pins σ H s)(rx:RelV x u)(ty:TyOf X.K H x t)(e:PySem.W.kitOne X.K t c=some b)(h:∀tk,Q (.bool b) { s with toks:=tk }):wpAny (model X.prog X.w) A (call (.builtin "isinstance") [u,c]) Q E s:=by
 cases ty with
 | non=>cases (show u=Ip from rx); exact PySem.W.kia_one PySem.W.kitx_none I.kIn Ke e (λz=>nomatch z) h
 | bl y=>cases (show u=Value.bool y from rx); exact PySem.W.kia_one PySem.W.kitx_bool I.kIn Ke e (λz=>nomatch z) h
 | int i=>obtain ⟨t,q⟩:=(show ∃t,u=Uw i t from rx); cases q; exact PySem.W.kia_one PySem.W.kitx_int I.kIn Ke e (λz=>nomatch z) h
 | str y=>obtain ⟨t,q⟩:=(show ∃t,u=Value.str y t from rx); cases q; exact PySem.W.kia_one PySem.W.kitx_str I.kIn Ke e (λz=>nomatch z) h
 | flt y=>obtain ⟨t,q⟩:=(show ∃t,u=Value.float y t from rx); cases q; exact PySem.W.kia_one PySem.W.kitx_float I.kIn Ke e (λz=>nomatch z) h
 | @lst a xs ea =>
  cases (show u=Bc a from rx)
  obtain ⟨_,_,n,_,h1⟩:=(show Hg X.prog X.w H s.heap a (.lst xs) from I.hok a _ ea)
  exact PySem.W.kia_one PySem.W.kitx_list I.kIn ⟨_,h1,rfl⟩ e (λz=>nomatch z) h
 | @frz a ob xs ea =>
  cases (show u=Bc a from rx)
  obtain ⟨_,_,_,n,_,h1⟩:=(show Hg X.prog X.w H s.heap a (.frz ob (.lst xs)) from I.hok a _ ea)
  exact PySem.W.kia_one PySem.W.kitx_list I.kIn ⟨_,h1,rfl⟩ e (λz=>nomatch z) h
 | @tup a xs ea =>
  cases (show u=Bc a from rx)
  obtain ⟨_,_,_,p⟩:=(show Hg X.prog X.w H s.heap a (.tup xs) from I.hok a _ ea)
  obtain ⟨o,h1,h2,_⟩:=p
  exact PySem.W.kia_one PySem.W.kitx_tuple I.kIn ⟨o,h1,h2⟩ e (λz=>nomatch z) h
 | @dK a kvs ea =>
  cases (show u=Bc a from rx)
  obtain ⟨_,_,vs,_,p⟩:=(show Hg X.prog X.w H s.heap a (.dK kvs) from I.hok a _ ea)
  obtain ⟨o,es,ep,h1,h2,_⟩:=p
  exact PySem.W.kia_one PySem.W.kitx_dict I.kIn ⟨o,h1,h2.1⟩ e (λz=>nomatch z) h
 | @dT a kvs ea =>
  cases (show u=Bc a from rx)
  obtain ⟨_,_,xs,_,o,es,ep,h1,h2,_⟩:=(show Hg X.prog X.w H s.heap a (.dT kvs) from I.hok a _ ea)
  exact PySem.W.kia_one PySem.W.kitx_dict I.kIn ⟨o,h1,h2.1⟩ e (λz=>nomatch z) h
 | @ins a C dx fs ea cl ha hn htk hm =>
  cases (show u=Bc a from rx)
  obtain ⟨mA,O,_⟩:=B9 I.hok ea
  obtain ⟨od,J,_⟩:=O.look
  exact PySem.W.kia_one (PySem.W.kitx_own (cl.get _) cl.hd ha hn htk hm) I.kIn J e (λz=>nomatch z) h
end
structure Room(k:Nat)(A:Cs):Prop where
 hd:A.handled=none
 dp:A.depth+3 * k+5<recursionLimit
 un:A.units+16 * k+200<cLine
 gd:A.guards=some []
theorem Room.mono(r:Room k A)(h:j<=k):Room j A:=⟨r.hd,by have:=r.dp; omega,by have:=r.un; omega,r.gd⟩
theorem Room.deeper(r:Room (k+1) A)(env:Env):Room k (A.deeper env) :=
 ⟨r.hd,by have:=r.dp; show A.depth+1+3 * k+5<_; omega,by have:=r.un; show A.units+3+16 * k+200<_; omega,r.gd⟩
theorem Room.depth(r:Room k A):A.depth<recursionLimit:=by have:=r.dp; omega
theorem Room.units(r:Room k A):A.units+64<cLine:=by have:=r.un; omega
def CN:TA:=λ_ H Q=>Q [] H
def AV(ta:TE)(tr:TA):TA:=λσ H Q=>ta σ H λx H1=>tr σ H1 λxs H2=>Q (x::xs) H2
section
variable{X:Cx}{e:Expr}{es:List Expr}{te:TE}{t:TA}{pos:Pos}
theorem Kr:PA X [] CN:=λ_ _ _ _ H Q I h=>Ys ⟨[],H,I,.nil,h⟩
theorem Gs(ha:PE X e te)(hr:PA X es t)(hs:Bq (e::es) X.env=(false,eval e X.env)::Bq es X.env:=by rfl):PA X (e::es) (AV te t):=by
 intro pos pins s σ H Q I h
 rw[hs]
 show wpAny _ _ (spliced ((false,eval e X.env)::Gu pos (Bq es X.env))) _ _ s
 refine Ph (Gk (ha pins s σ H _ I h) λu s1 q0_ => ?_)
 obtain ⟨x,H1,I1,r1,q1⟩ := q0_
 exact Gk (hr pos pins s1 σ H1 _ I1 q1) λus s2 ⟨xs,H2,I2,r2,q2⟩=>⟨x::xs,H2,I2,.cons r1 r2,q2⟩
def FU(t:TA):TE:=λσ H Q=>t σ H λxs H1=>xs.length<=Au/\∀p,H1 p=none->Q (.ref p) (upd H1 p (.tup xs))
def GQ(t:TA):TE:=λσ H Q=>t σ H λxs H1=>xs.length<=Au/\∀p,H1 p=none->Q (.ref p) (upd H1 p (.lst xs))
theorem aD(h:PA X es t):PE X (.Tuple es x1 pos) (FU t):=by
 intro pins s σ H Q I hq
 refine wpAny_Tuple_spliced (Gk (h pos pins s σ H _ I hq) λus s1 ⟨xs,H1,I1,r,z,q⟩=>⟨by rw[<- r.length]; exact z,?_⟩)
 have hf:H1 s1.heap.objs.size=none:=I1.hok.fresh (Ak _)
 refine ⟨.ref s1.heap.objs.size,upd H1 s1.heap.objs.size (.tup xs),I1.laid (t':=s1.toks) (λb u e=>Ai _ e) (Ak _) ?_,rfl,q _ hf⟩
 exact ⟨z,us,r,⟨_,Bf _ rfl,rfl,_,rfl⟩⟩
theorem bC(h:PA X es t):PE X (.List es pos) (GQ t):=by
 intro pins s σ H Q I hq
 refine wpAny_List_spliced (Gk (h pos pins s σ H _ I hq) λus s1 ⟨xs,H1,I1,r,z,q⟩=>⟨by rw[<- r.length]; exact z,?_⟩)
 have hf:H1 s1.heap.objs.size=none:=I1.hok.fresh (Ak _)
 refine ⟨.ref s1.heap.objs.size,upd H1 s1.heap.objs.size (.lst xs),I1.laid (t':=s1.toks) (λb u e=>Ai _ e) (Ak _) ?_,rfl,q _ hf⟩
 exact ⟨z,us,0,r,Bf _ rfl⟩
end
abbrev Sp:=List V->Hp->VK->XK->Prop
abbrev rM:=List Env->Hp->Aj->XK->Value->Aj->Prop
structure Env0(P:Bs)(w:World)(K:PySem.W.Frag)(mg:Str->Option Value)(base:Heap)(A:Cs)(outer:List Env)(s:Aj)(H:Hp):Prop where
 frames:A.frames=some outer
 mod:Mod K mg base
 bs:∀b o,base.get? b=some o->s.heap.get? b=some o/\H b=none
 bsz:base.objs.size<=s.heap.objs.size
 funs:s.heap.FunFrames base outer
 frf:∀b∈tO outer,H b=none
 hok:Wo P w H s.heap
 bare:Sn s.gens
 tab:zD K mg base H
def CE(outer:List Env)(P:Bs)(w:World)(H:Hp)(s:Aj)(Q:VK)(u:Value)(s':Aj):Prop :=
 ∃v H',s'.os=s.os/\Sn s'.gens/\Un (tO outer) [] H H' s.heap s'.heap/\Wo P w H' s'.heap/\RelV v u/\Q v H'
def CR(CX:rM)(outer:List Env)(P:Bs)(w:World)(H:Hp)(s:Aj)(Q:VK)(E:XK)(r:Result)(s':Aj):Prop :=
 match r with
 | .ok (.ret u)=>CE outer P w H s Q u s'
 | .ok _=>False
 | .error e=>CX outer H s E e s'
structure FnOk(P:Bs)(w:World)(K:PySem.W.Frag)(mg:Str->Option Value)(base:Heap)(CX:rM)(k:Nat)(f:Addr)(fd:Cg)(ps:List Str)(sp:Sp):Prop where
 len:∀vs H Q E,sp vs H Q E->vs.length=ps.length
 run:∀(A:Cs) (outer:List Env) (s:Aj) (H:Hp) (args:Args) (us:List Value) (vs:List V) (Q:VK) (E:XK),Room k A->Env0 P w K mg base A outer s H->BindsTo s fd args (ps.zip us)->Fg vs us->sp vs H Q E ->
  Oo (model P w) A (.call (.ref f) args) (CR CX outer P w H s Q E) s
theorem FnOk.imp{P:Bs}{w:World}{K:PySem.W.Frag}{mg:Str->Option Value}{base:Heap}(F:FnOk P w K mg base CX k f fd ps sp)(h:∀vs H Q E,sp' vs H Q E->sp vs H Q E):FnOk P w K mg base CX k f fd ps sp' :=
 ⟨λvs H Q E q=>F.len vs H Q E (h _ _ _ _ q),λA outer s H args us vs Q E hr he hb hv hs=>F.run A outer s H args us vs Q E hr he hb hv (h _ _ _ _ hs)⟩
section
variable{X:Cx}{pins:List (Addr×Obj)}{σ:St}{H:Hp}{s s':Aj}
theorem Inv.env0(I:Inv X pins σ H s):Env0 X.prog X.w X.K X.mg X.base X.A X.stack s H :=
 ⟨I.ok.frames,I.ok.mod,I.bs,Bz I.ok.bsz I.sz,I.stack,I.stkFree,I.hok,I.bare,I.ok.tab.un I.base⟩
theorem Inv.after(I:Inv X pins σ H s)(h:CE X.stack X.prog X.w H s Q u s'):EP X pins σ Q u s':=by
 obtain ⟨v,H',os,bare,un,hok,r,q⟩:=h
 obtain ⟨hh,g,d,t,os'⟩:=s'
 obtain rfl:os'=s.os:=os
 exact ⟨v,H',I.call (h':=hh) (g':=g) (d':=d) (t':=t) (ch:=[]) un hok bare (λb z=>absurd z (by simp)),r,q⟩
end
def N8(sp:Sp)(dvs:List V)(E:XK)(t:TA):TE:=λσ H Q=>t σ H λvs H1=>sp (vs++dvs) H1 Q E
def Binds(K:PySem.W.Frag)(fd:Cg)(ps:List Str)(ds:List Value):Prop :=
 ∀(s:Aj) (us:List Value),K.In s.heap->(us++ds).length=ps.length->BindsTo s fd ⟨us,[]⟩ (ps.zip (us++ds))
theorem Binds.all{K:PySem.W.Frag}(h:∀us:List Value,us.length=ps.length->bindArgs fd ⟨us,[]⟩=pure (ps.zip us)):Binds K fd ps []:=λs us _ hl=>by
 rw[Dz] at hl ⊢
 exact .of_eq (h us hl)
def Pm(CX:rM)(X:Cx)(E:XK):Prop:=∀(pins:List (Addr×Obj)) (σ:St) (H:Hp) (s:Aj) (e:Value) (s':Aj),Inv X pins σ H s->CX X.stack H s E e s'->X.xe e s'
section
variable{X:Cx}{CX:rM}{k:Nat}{f C:Addr}{fd:Cg}{ps:List Str}{sp:Sp}{dvs:List V}{ds:List Value}{E:XK}{x m:Str}{p pos apos:Pos}{e o:Expr}{es:List Expr}{ta:TE}{t:TA}
theorem yO{pins:List (Addr×Obj)}{σ:St}(F:FnOk X.prog X.w X.K X.mg X.base CX k f fd ps sp)(hr:Room k X.A)(hb:Binds X.K fd ps ds)(hd:Fg dvs ds)(hx:Pm CX X E)(I:Inv X pins σ H s)(r:Fg vs us)(h:sp (vs++dvs) H Q E):wpAny (model X.prog X.w) X.A (call (.ref f) us) (EP X pins σ Q) X.xe s:=by
 have r2:Fg (vs++dvs) (us++ds):=r.append hd
 have hl:(us++ds).length=ps.length:=by rw[<- r2.length]; exact F.len _ _ _ _ h
 refine wpAny_call (codeAny_mono (F.run X.A X.stack s H ⟨us,[]⟩ (us++ds) (vs++dvs) Q E hr I.env0 (hb s us I.kIn hl) r2 h) λr s' hq=>?_)
 cases r with
 | error e=>exact hx pins σ H s e s' I hq
 | ok fl =>
  cases fl with
  | ret u=>exact I.after hq
  | next=>exact Kc hq
  | brk=>exact Kc hq
  | cont=>exact Kc hq
theorem Vl(F:FnOk X.prog X.w X.K X.mg X.base CX k f fd ps sp)(hr:Room k X.A)(hg:Gl X x)(hm:X.mg x=some (.ref f))(hk:PySem.W.keepIn X.K (.ref f)=true)(hb:Binds X.K fd ps ds)(hd:Fg dvs ds)(hx:Pm CX X E)(ha:PA X (e::es) t)(hdb:(x == ("__debug__" : Str))=false:=by decide)(he:Bq (e::es) X.env=(false,eval e X.env)::Bq es X.env:=by rfl)(hpl:(Gu pos (Bq es X.env)).any (·.1)=false:=by rfl):PE X (.Call (.Name x p) (e::es) [] pos) (N8 sp dvs E t):=by
 intro pins s σ H Q I h
 refine Jr (qW I hg hm ?_ hdb)
 refine PySem.W.callWith_K (h₀:=X.base) I.ok.mod.kin hk (Gk (ha pos pins s σ H _ I h) λus s1 ⟨vs,H1,I1,r,q⟩=>⟨I1.kIn,?_⟩) he hpl
 exact yO F hr hb hd hx I1 r q
theorem p9(F:FnOk X.prog X.w X.K X.mg X.base CX k f fd ps sp)(hr:Room k X.A)(hg:Gl X x)(hm:X.mg x=some (.ref f))(hk:PySem.W.keepIn X.K (.ref f)=true)(hb:Binds X.K fd ps ds)(hd:Fg dvs ds)(hx:Pm CX X E)(hdb:(x == ("__debug__" : Str))=false:=by decide):PE X (.Call (.Name x p) [] [] pos) (N8 sp dvs E CN):=by
 intro pins s σ H Q I h
 refine Jr (qW I hg hm ?_ hdb)
 exact PySem.W.callWith_K0 I.kIn hk (yO (us:=[]) F hr hb hd hx I .nil h)
end
structure FnScope(N P:List Str)(sc:Scope):Prop where
 kind:sc.kind=.function
 co:sc.isCoroutine=false
 gen:sc.isGenerator=false
 nd:N.Nodup
 pre:N.take P.length=P
 par:∀x∈P,sc.names.lookup x=some .local\/sc.names.lookup x=some .cell
 nofree:∀y∈sc.names,y.2≠.free
theorem fO{kindOf:Str->Option Pg}:∀{binds:List (Str×Value)} {m:Str->Option Value},(∀v,(x,v)∉binds)->bindL kindOf binds m x=m x
 | [],_,_=>rfl
 | (n,v)::r,m,h=>by
  unfold bindL
  rw[fO λw hw=>h w (Ae _ hw)]
  split
  ·have : x≠n:=by rintro rfl; exact h v Ab
   simp [this]
  ·rfl
theorem eE{kindOf:Str->Option Pg}:∀{binds:List (Str×Value)} {m:Str->Option Value},(∀v,(x,v)∉binds)->bindC kindOf binds m x=m x
 | [],_,_=>rfl
 | (n,v)::r,m,h=>by
  unfold bindC
  rw[eE λw hw=>h w (Ae _ hw)]
  split
  ·rfl
  ·have : x≠n:=by rintro rfl; exact h v Ab
   simp [this]
theorem eB{kindOf:Str->Option Pg}:∀{P:List Str} {vs:List Value} {i:Nat} {m:Str->Option Value},P.Nodup->P[i]? = some x->vs[i]? = some v->kindOf x=some .local->bindL kindOf (P.zip vs) m x=some v
 | [],_,_,_,_,h,_,_=>by simp at h
 | _::_,[],_,_,_,_,h,_=>by simp at h
 | p::P,w::vs,0,m,nd,h1,h2,hk=>by
  simp at h1 h2; subst h1; subst h2
  show bindL kindOf ((p,w)::P.zip vs) m p=_
  unfold bindL
  rw[fO λv hv=>(By.mp nd).1 (List.of_mem_zip hv).1,if_pos hk]
  simp
 | p::P,w::vs,i+1,m,nd,h1,h2,hk=>by
  show bindL kindOf ((p,w)::P.zip vs) m x=_
  unfold bindL
  exact eB (i:=i) (By.mp nd).2 (by simpa using h1) (by simpa using h2) hk
theorem eT{kindOf:Str->Option Pg}:∀{P:List Str} {vs:List Value} {i:Nat} {m:Str->Option Value},P.Nodup->P[i]? = some x->vs[i]? = some v->kindOf x≠some .local->bindC kindOf (P.zip vs) m x=some v
 | [],_,_,_,_,h,_,_=>by simp at h
 | _::_,[],_,_,_,_,h,_=>by simp at h
 | p::P,w::vs,0,m,nd,h1,h2,hk=>by
  simp at h1 h2; subst h1; subst h2
  show bindC kindOf ((p,w)::P.zip vs) m p=_
  unfold bindC
  rw[eE λv hv=>(By.mp nd).1 (List.of_mem_zip hv).1,if_neg hk]
  simp
 | p::P,w::vs,i+1,m,nd,h1,h2,hk=>by
  show bindC kindOf ((p,w)::P.zip vs) m x=_
  unfold bindC
  exact eT (i:=i) (By.mp nd).2 (by simpa using h1) (by simpa using h2) hk
def start(N:List Str)(vs:List V):St:=vs.map some++Bl (N.length - vs.length) none
def Iy(CX:rM)(P:Bs)(w:World)(K:PySem.W.Frag)(mg:Str->Option Value)(base:Heap)(N:List Str)(qual:Str)(scope:Scope)(f:Addr)(cd:Value)(A:Cs)(outer:List Env)(s:Aj)(H:Hp)(E:XK):Cx where
 prog:=P
 w:=w
 K:=K
 mg:=mg
 base:=base
 A:=A.deeper (envOfC qual scope s.heap.objs.size f cd)
 N:=N
 s₀:=s
 H₀:=H
 env:=envOfC qual scope s.heap.objs.size f cd
 outer:=outer
 stack:=envOfC qual scope s.heap.objs.size f cd::outer
 ex:=[]
 calm:=true
 fn:=λ_=>true
 pn:=[]
 xe:=λe s'=>wpAny (model P w) (A.deeper (envOfC qual scope s.heap.objs.size f cd)) (leaving (envOfC qual scope s.heap.objs.size f cd) e) (λ_ s''=>CX outer H s E e s'') (λe' s''=>CX outer H s E e' s'') s'
theorem jM{sc:Scope}(h:sc.names.lookup x=some .cell):∃c,(Ep n sc.names []).lookup x=some c:=by
 have q:=PySem.W.cellsFrom_some sc.names n [] (.inl h)
 exact Qi.mp q
theorem tK{CX:rM}{P:Bs}{w:World}{K:PySem.W.Frag}{mg:Str->Option Value}{base:Heap}{N ps:List Str}{qual:Str}{scope:Scope}{f:Addr}{cd:Value}{A:Cs}(S:FnScope N ps scope)(hd:A.handled=none)(e0:Env0 P w K mg base A outer s H)(hl:vs.length=ps.length)(r:Fg vs us)(x:InCallC s s.heap.objs.size (bindL (envOfC qual scope s.heap.objs.size f cd).kindOf (ps.zip us) λ_=>none) (Ep (s.heap.objs.size+1) scope.names []) (bindC (envOfC qual scope s.heap.objs.size f cd).kindOf (ps.zip us) λ_=>none) s1):Inv (Iy CX P w K mg base N qual scope f cd A outer s H E) [] (start N vs) H s1:=by
 have hpl:ps.length<=N.length:=by have:=congrArg Fb S.pre; rw[Cw] at this; omega
 obtain ⟨h1,tk,rfl,hk⟩:=x.done
 have noA:∀b:Addr,b∉(Iy CX P w K mg base N qual scope f cd A outer s H E).ex:=λb z=>absurd (show b∈([]:List Addr) from z) (by simp)
 refine ⟨⟨e0.mod,S.kind,rfl,rfl,Ak _,λy z c h1 h2=>?_,λy hy=>?_,λy c _ h=>?_,λ_=>hd,Around.frames_deeper e0.frames,.inr ⟨rfl,rfl⟩,λb z=>absurd z (noA b),e0.bs,e0.bsz,λb _ _=>noA b,λb z=>absurd z (noA b),e0.funs,e0.frf,e0.tab⟩,
  rfl,e0.bare,Un.kept hk,⟨_,x.toInCall.ns,λi y v h1 h2 h3=>?_⟩,λy c h=>⟨_,x.cell y c h⟩,e0.hok.fresh (Ak _),λy c h=>?_,λp hp=>absurd (show p∈([]:List (Addr×Obj)) from hp) (by simp),e0.hok.kept hk,?_⟩
 ·exact name_of_addr x.apart (PySem.mem_of_lookup h1) (PySem.mem_of_lookup h2)
 ·have hy:scope.names.lookup y=some .cell\/scope.names.lookup y=some .free:=hy
  rcases hy with hy | hy
  ·exact jM hy
  ·exact absurd rfl (S.nofree _ (PySem.mem_of_lookup hy))
 ·exact Pf (x.above y c (PySem.mem_of_lookup h))
 ·have hi:i<vs.length:=by
   unfold start at h2
   by_cases hi:i<vs.length
   ·exact hi
   ·rw[Fl (by simpa using hi)] at h2
    rw[List.getElem?_replicate] at h2
    split at h2 <;> cases h2
  have ha:vs[i]? = some v:=by
   unfold start at h2
   rw[Kn (by simpa using hi),Be] at h2
   cases e:vs[i]? with
   | none=>rw[e] at h2; cases h2
   | some a=>rw[e] at h2; cases h2; rfl
  obtain ⟨u,hu,rv⟩:=r.get ha
  have hp:ps[i]? = some y:=by
   rw[<- S.pre,Ei (by omega)]; exact h1
  have ndP:ps.Nodup:=by rw[<- S.pre]; exact S.nd.sublist (Mb _ _)
  refine ⟨u,rv,?_⟩
  rcases S.par y (Ax hp) with k | k
  ·exact .inl ⟨k,eB ndP hp hu k⟩
  ·obtain ⟨c,e⟩:=jM (n:=s.heap.objs.size+1) k
   refine .inr ⟨.inl k,c,e,?_⟩
   have q:=x.cell y c e
   rw[eT ndP hp hu (by show scope.names.lookup y≠_; rw[k]; decide)] at q
   exact q
 ·exact e0.hok.fresh (Pf (x.above y c (PySem.mem_of_lookup h)))
 ·unfold start
  show _=N.length
  rw[Bn,Ad,He]
  omega
theorem EC{CX:rM}{P:Bs}{w:World}{K:PySem.W.Frag}{mg:Str->Option Value}{base:Heap}{k:Nat}{f:Addr}{name qual:Str}{params:Arguments}{body:List Stmt}{dV kV doc pm cdv ct oc:Value}(lk:K.lookup f=some ⟨oc,od,.func (PySem.W.fnOf name qual params body scope dV kV doc pm an cdv ct),osl⟩)(hcd:PySem.W.codeIn K cdv qual=true)(S:FnScope N ps scope)(len:∀vs H Q E,sp vs H Q E->vs.length=ps.length)(hbody:∀(A:Cs) (outer:List Env) (s:Aj) (H:Hp) (vs:List V) (Q:VK) (E:XK),Room k (A.deeper (envOfC qual scope s.heap.objs.size f cdv))->sp vs H Q E->∃t,rO (Iy CX P w K mg base N qual scope f cdv A outer s H E) body t/\t { nx:=λ_ H'=>Q .non H',rt:=Q } (start N vs) H):FnOk P w K mg base CX (k+1) f (PySem.W.fnOf name qual params body scope dV kV doc pm an cdv ct) ps sp:=by
 refine ⟨len,λA outer s H args us vs Q E hr e0 hb r hsp=>?_⟩
 have hl:=len _ _ _ _ hsp
 have KX:K.In s.heap:=e0.mod.kin.keeps λb o e=>(e0.bs b o e).1
 have lim:s.heap.NoLimit:=e0.mod.nolimit.keeps λb o e=>(e0.bs b o e).1
 have hkind:∀y∈ps.zip us,scope.names.lookup y.1=some .local\/(scope.names.lookup y.1=some .cell/\((Ep (s.heap.objs.size+1) scope.names []).lookup y.1).isSome=true):=λ⟨n,v⟩ hy=>by
  rcases S.par n (List.of_mem_zip hy).1 with q | q
  ·exact .inl q
  ·exact .inr ⟨q,PySem.W.cellsFrom_some _ _ _ (.inl q)⟩
 refine codeAny_call_function hr.depth (KX _ _ lk) rfl S.co S.gen rfl (PySem.W.codeRec_of KX hcd) (hb _ _ _ _ ?_)
 refine wpAny_newFunctionEnv_cells S.kind hkind λenv he s1 x=>?_
 subst he
 refine ⟨lim.keeps x.toInCall.keep,codeAny_func ?_⟩
 obtain ⟨t,ht,hq⟩:=hbody A outer s H vs Q E (hr.deeper _) hsp
 have I:Inv (Iy CX P w K mg base N qual scope f cdv A outer s H E) [] (start N vs) H s1:=tK S hr.hd e0 hl r x
 refine Ft (ht [] s1 (start N vs) H _ I hq) (λfl s' hs=>?_) λe s' hs=>hs
 have fin:∀{σ':St} {H':Hp} {v:V} {u:Value},Inv (Iy CX P w K mg base N qual scope f cdv A outer s H E) [] σ' H' s'->RelV v u->Q v H'->CE outer P w H s Q u s' :=
  λ{σ' H' v u} J rv q=>⟨v,H',J.os,J.bare,J.base,J.hok,rv,q⟩
 cases fl with
 | ret u =>
  obtain ⟨v,σ',H',J,rv,q⟩:=hs
  exact fin J rv q
 | next =>
  obtain ⟨σ',H',J,q⟩:=hs
  exact fin (v:=V.non) (u:=Ip) J rfl q
 | brk =>
  obtain ⟨_,_,_,q⟩:=hs
  exact Kc q
 | cont =>
  obtain ⟨_,_,_,q⟩:=hs
  exact Kc q
section
variable{X:Cx}{x:Str}{p pos:Pos}{e:Expr}{es:List Expr}{t:TA}{id T:String}{r:List V->Hp->VK->Prop}
def EV(r:List V->Hp->VK->Prop)(t:TA):TE:=λσ H Q=>t σ H λvs H1=>r vs H1 Q
theorem cE(hc:Ld X (.builtin id) r)(hg:Gl X x)(hm:X.mg x=none)(hv:Jt x=some (.builtin id))(ha:PA X (e::es) t)(hn:x ≠ "__name__" := by decide)(hdb:(x == ("__debug__" : Str))=false:=by decide)(he:Bq (e::es) X.env=(false,eval e X.env)::Bq es X.env:=by rfl)(hpl:(Gu pos (Bq es X.env)).any (·.1)=false:=by rfl):PE X (.Call (.Name x p) (e::es) [] pos) (EV r t):=by
 intro pins s σ H Q I h
 refine Jr (Nv I hg hm hv ?_ hn hdb)
 exact PyProof.Rows.callWith_builtin1 (Gk (ha pos pins s σ H _ I h) λus s1 ⟨vs,H1,I1,r1,q1⟩=>hc pins s1 σ H1 vs us Q I1 r1 q1) he hpl
theorem sY(hc:Ld X (.type T) r)(hg:Gl X x)(hm:X.mg x=none)(hv:Jt x=some (.type T))(ha:PA X (e::es) t)(hn:x ≠ "__name__" := by decide)(hdb:(x == ("__debug__" : Str))=false:=by decide)(he:Bq (e::es) X.env=(false,eval e X.env)::Bq es X.env:=by rfl)(hpl:(Gu pos (Bq es X.env)).any (·.1)=false:=by rfl):PE X (.Call (.Name x p) (e::es) [] pos) (EV r t):=by
 intro pins s σ H Q I h
 refine Jr (Nv I hg hm hv ?_ hn hdb)
 exact Ey (Gk (ha pos pins s σ H _ I h) λus s1 ⟨vs,H1,I1,r1,q1⟩=>hc pins s1 σ H1 vs us Q I1 r1 q1) he hpl
end
end L2
namespace HT
open PySem PyProof.Rows
def lexLt:List Int->List Int->Bool
 | [],[]=>false
 | [],_::_=>true
 | _::_,[]=>false
 | x::xs,y::ys=>if x=y then lexLt xs ys else decide (x<y)
theorem lexLt_cons(x y:Int)(xs ys:List Int):lexLt (x::xs) (y::ys)=if x=y then lexLt xs ys else decide (x<y):=rfl
theorem lexLt_nil_nil:lexLt [] []=false:=rfl
theorem lexLt_nil_cons(y:Int)(ys:List Int):lexLt [] (y::ys)=true:=rfl
theorem lexLt_cons_nil(x:Int)(xs:List Int):lexLt (x::xs) []=false:=rfl
theorem wU(A:Cs)(s:Aj)(a:Int)(t:Tok)(c:Int)(u:Tok):∃e,Mo A s (.int a t) (.int c u) e/\(e=true↔a=c) :=
 ⟨(a == c),SeqAt.EqAt.int_int a t c u,by simp⟩
theorem yI(A:Cs)(s:Aj)(a:Int)(t:Tok)(c:Int)(u:Tok)(prog:Bs)(w:World)(E:Value->Aj->Prop)(Q:Value->Aj->Prop)(h:Q (.bool (decide (a<c))) s):wpAny (model prog w) A (richCompare .Lt (.int a t) (.int c u)) Q E s :=
 (PyProof.Rows.lt_int h:wpAny (model prog w) A (Hy .Lt (.int a t) (.int c u)) Q E s)
section
open PySem.SeqAt
open PySem.AutoSeq1 (wpAny_loadPart')
open PySem.MeetsSeq PySem.MeetsSeq2 PySem.MeetsSeq3
theorem tuple_lt_ints(l b:Addr)(items items2:Array Value)(n n2:Nat)(dd dd2:Option Addr)(sl sl2:Array (Option Value))(ns ms:List Int)(hi:Kj items.toList ns)(hj:Kj items2.toList ms):Meets (Builtin.«tuple.__lt__» ⟨[.ref l,.ref b],[]⟩) (λ_ R s=>s.heap.get? l=some { cls:=.type "tuple",dict:=dd,data:=.seq items n,slots:=sl }/\s.heap.get? b=some { cls:=.type "tuple",dict:=dd2,data:=.seq items2 n2,slots:=sl2 }/\R (.ok (.ret (.bool (lexLt ns ms)))) s) :=
 .of_wp λprog w A R s h=>by
  obtain ⟨hp,g,d,tk,os⟩:=s; obtain ⟨hl,hb,h⟩:=h
  have f2:=AutoSeq1.sub_tuple_tuple
  have z1:items.size=ns.length:=by rw[<- hi.length]; simp
  have z2:items2.size=ms.length:=by rw[<- hj.length]; simp
  wp_walk using Wi hl,Wi hb,wpAny_forIn_list _ (λGj b s'=>b.1=none/\s'=⟨hp,g,d,tk,os⟩/\∃(vs ws:List Value) (ns' ms':List Int),Gj=vs.zip ws /\
   Kj vs ns'/\Kj ws ms'/\ns'.length+items2.size=ms'.length+items.size/\R (.ok (.ret (.bool (lexLt ns' ms')))) ⟨hp,g,d,tk,os⟩) _
  case turn =>
   (rintro ⟨y,x⟩ Gj b s' q_; obtain ⟨hb',rfl,vs,ws,ns',ms',hz,hvi,hwi,hlen,hR⟩ := q_)
   cases hvi with
   | nil=>rw[List.zip_nil_left] at hz; cases hz
   | cons a t hvi' =>
    cases hwi with
    | nil=>rw[List.zip_nil_right] at hz; cases hz
    | cons c u hwi' =>
     rw[Xv] at hz
     injection hz with hyx hrest
     injection hyx with hy hx
     subst hy hx
     rw[lexLt_cons] at hR
     simp only[Br] at hlen
     obtain ⟨e,he,hiff⟩:=wU A.in1 ⟨hp,g,d,tk,os⟩ a t c u
     refine Aa (he prog w _ _ ?_)
     cases e with
     | true =>
      rw[if_pos (hiff.mp rfl)] at hR
      wp_walk
      exact ⟨rfl,rfl,_,_,_,_,hrest,hvi',hwi',by omega,hR⟩
     | false =>
      rw[if_neg (λq=>absurd (hiff.mpr q) Bt)] at hR
      have hri:=yI A.in1 ⟨hp,g,d,tk,os⟩ a t c u prog w
      wp_walk using hri
      exact ⟨_,rfl,by simpa using hR⟩
  case fin =>
   (rintro ⟨b1,b2⟩ s' q_; obtain ⟨hb',rfl,vs,ws,ns',ms',hz,hvi,hwi,hlen,hR⟩ := q_)
   simp only at hb'
   subst hb'
   have hv:lexLt ns' ms'=decide (items.size<items2.size):=by
    cases hvi with
    | nil =>
     cases hwi with
     | nil =>
      simp only[Iz] at hlen
      rw[lexLt_nil_nil]
      exact (decide_eq_false (by omega)).symm
     | cons c u hw =>
      simp only[Iz,Br] at hlen
      rw[lexLt_nil_cons]
      exact (decide_eq_true (by omega)).symm
    | cons a t hv =>
     cases hwi with
     | nil =>
      simp only[Iz,Br] at hlen
      rw[lexLt_cons_nil]
      exact (decide_eq_false (by omega)).symm
     | cons c u hw =>
      rw[Xv] at hz
      cases hz
   rw[hv] at hR
   wp_walk
   exact ⟨_,rfl,by simpa [Builtin.Tuple.tupleCompareSizes] using hR⟩
  case h =>
   exact ⟨rfl,rfl,items.toList,items2.toList,ns,ms,rfl,hi,hj,by omega,h⟩
end
section
variable{prog:Bs}{w:World}{A:Cs}{E:Value->Aj->Prop}{s:Aj}
theorem cat_tup(ht:IsTup s.heap t vs.toArray)(hb:IsTup s.heap b ws.toArray)(hv:vs≠[])(h1:ws=[]->Q (.ref t) s)(h2:ws≠[]->Q (.ref s.heap.objs.size) { s with heap:=s.heap.push { cls:=.type "tuple",data:=.seq (vs++ws).toArray } })(hsz:vs.length+ws.length<=Au):wpAny (model prog w) A (Iv .Add (.ref t) (.ref b)) Q E s:=by
 obtain ⟨⟨cls,dd,data,sl⟩,ho,hc,n,hd⟩:=id ht
 obtain ⟨⟨cls2,dd2,data2,sl2⟩,ho2,hc2,n2,hd2⟩:=id hb
 simp only at hc hd hc2 hd2
 subst hc hd hc2 hd2
 have e:vs.toArray++ws.toArray=(vs++ws).toArray:=by simp
 by_cases hw:ws=[]
 ·exact concat_meets ⟨_,ho,rfl⟩ ⟨_,ho2,rfl⟩ jE seq_tuple_add PySem.F.slot_tuple_add PySem.F.entry_tuple_add (PySem.F.args_tuple_add_2 _ _)
   (tuple_addW1 t b vs.toArray ws.toArray n n2 dd dd2 sl sl2 (by simpa using hv) (by simp [hw])) ⟨ho,ho2,h1 hw⟩
 ·refine concat_meets ⟨_,ho,rfl⟩ ⟨_,ho2,rfl⟩ jE seq_tuple_add PySem.F.slot_tuple_add PySem.F.entry_tuple_add (PySem.F.args_tuple_add_2 _ _)
   (tuple_addW2 t b vs.toArray ws.toArray n n2 dd dd2 sl sl2 (by simpa using hv) (by simpa using hw) (by rw[Aq,Aq]; exact hsz)) ⟨ho,ho2,?_⟩
  rw[e]
  exact h2 hw
def sIx(n d:Nat):Option Int->Nat
 | none=>d
 | some v=>if v<0 then (v+(n:Int)).toNat else min v.toNat n
theorem sIx_none(n d:Nat):sIx n d none=d:=rfl
theorem sIx_nat(n d k:Nat):sIx n d (some (k:Int))=min k n:=by
 show (if (k:Int)<0 then ((k:Int)+(n:Int)).toNat else min (k:Int).toNat n)=min k n
 rw[if_neg (by omega),Gm]
theorem X9(n d:Nat)(hd:d<=n)(o:Option Int):sIx n d o<=n:=by
 cases o with
 | none=>exact hd
 | some v =>
  show (if v<0 then (v+(n:Int)).toNat else min v.toNat n)<=n
  by_cases hv:v<0
  ·rw[if_pos hv]; omega
  ·rw[if_neg hv]; exact Nat.min_le_right _ _
theorem sI(v:Int)(n d:Nat):(if v<0 then max (v+(n:Int)) 0 else min v (n:Int))=((sIx n d (some v):Nat):Int):=by
 show (if v<0 then max (v+(n:Int)) 0 else min v (n:Int))=(((if v<0 then (v+(n:Int)).toNat else min v.toNat n):Nat):Int)
 by_cases hv:v<0
 ·simp only[if_pos hv]; omega
 ·simp only[if_neg hv]; omega
theorem oI(lo hi:Option Int)(n:Nat):Nf lo hi 1 (n:Int)=(((sIx n 0 lo:Nat):Int),((sIx n n hi:Nat):Int)):=by
 have h1:¬ ((1:Int)<0):=by omega
 unfold Nf
 simp only[h1,if_false]
 refine Prod.ext ?_ ?_
 ·cases lo with
  | none=>rfl
  | some v=>exact sI v n 0
 ·cases hi with
  | none=>rfl
  | some v=>exact sI v n n
theorem pG(i j:Nat):Jc (i:Int) (j:Int) 1=j - i:=by
 unfold Jc
 have h1:(1:Int) > 0:=by omega
 simp only[h1,if_true,Int.ediv_one]
 split <;> omega
theorem bW(p:Yr v o)(h:Q o s):wpAny (model prog w) A (Builtin.Slice.slicePartIndex v) Q E s:=by
 cases p with
 | none=>exact slicePart_none h
 | int i t=>exact slicePart_int h
theorem sliceApplied_gen{lo hi:Option Int}{n:Nat}(hs:s.heap.IsSliceOf sl vl vu .none)(pl:Yr vl lo)(pu:Yr vu hi)(h:Q (((sIx n 0 lo:Nat):Int),1,sIx n n hi - sIx n 0 lo) s):wpAny (model prog w) A (Wu (.ref sl) (pure (n:Int))) Q E s:=by
 obtain ⟨os,hos,hcs,hds⟩:=id hs
 unfold Wu Builtin.Slice.sliceFields
 refine Aa (Aa (Et hos hds (x:=vl) rfl (Aa (Et hos hds (x:=vu) rfl (Aa (Et hos hds (x:=.none) rfl (Am ?_)))))))
 refine Aa (slicePart_none ?_)
 show wpAny _ _ (if ((1:Int) == 0)=true then _ else _) _ _ s
 rw[if_neg (by decide)]
 refine Aa (bW pl (Aa (bW pu (Aa (Am ?_)))))
 show wpAny _ _ (match Nf lo hi 1 (n:Int) with | (lo,hi)=>pure (lo,(1:Int),Jc lo hi 1)) _ _ s
 rw[oI lo hi n]
 show wpAny _ _ (pure (((sIx n 0 lo:Nat):Int),(1:Int),Jc ((sIx n 0 lo:Nat):Int) ((sIx n n hi:Nat):Int) 1)) _ _ s
 rw[pG]
 exact Am h
theorem wD(xs:Array Value)(i k:Nat):((Di k).filterMap λ(m:Nat)=>xs[((i:Int)+(m:Int) * 1).toNat]?).toArray=((xs.toList.drop i).take k).toArray:=by
 have e:(λ(m:Nat)=>xs[((i:Int)+(m:Int) * 1).toNat]?)=λm=>xs[i+m]?:=by
  funext m
  have : ((i:Int)+(m:Int) * 1).toNat=i+m:=by omega
  rw[this]
 rw[e]
 have:=pick_run xs i k
 rw[Xx] at this
 have e2:((λx=>xs[x]?) ∘ λx=>i+x)=λm=>xs[i+m]?:=rfl
 rw[e2] at this
 rw[this]
theorem getItem_tuple_cut{lo hi:Option Int}(ht:IsTup s.heap t items)(hs:s.heap.IsSliceOf sl vl vu .none)(pl:Yr vl lo)(pu:Yr vu hi)(hw:¬ (sIx items.size 0 lo=0/\sIx items.size items.size hi=items.size))(h:Q (.ref s.heap.objs.size) { s with heap:=s.heap.push { cls:=.type "tuple",data:=.seq ((items.toList.drop (sIx items.size 0 lo)).take (sIx items.size items.size hi - sIx items.size 0 lo)).toArray } })(hsz:items.size<=Au):wpAny (model prog w) A (Sh (.ref t) (.ref sl)) Q E s:=by
 have htake:sizeOk (.seq ((items.toList.drop (sIx items.size 0 lo)).take (sIx items.size items.size hi - sIx items.size 0 lo)).toArray):=by
  show ((items.toList.drop (sIx items.size 0 lo)).take (sIx items.size items.size hi - sIx items.size 0 lo)).toArray.size<=Au
  rw[Aq,Cw,cS,Az]
  omega
 have hj:sIx items.size items.size hi<=items.size:=X9 _ _ (Ak _) hi
 obtain ⟨os,hos,hcs,hds⟩:=id hs
 have hTs:s.TypeIs (.ref sl) "slice" := ⟨os,hos,hcs⟩
 unfold Sh
 try with_reducible refine Dd ?_
 first | refine Aa (Am ?_) | skip
 refine Aa (fP ht.typeIs (by decide) ?_)
 refine Aa (Ed (name:=Dr "__getitem__") ht.typeIs Ej
  (Ew Ej ht.typeIs entry_tuple_getitem ?_ (args_tuple_getitem _ _)))
 show wpAny _ _ (Wr (.ref t) >>= _) _ _ s
 refine Aa (tupleItemsOf_ ht ?_)
 refine Aa (La hTs ?_)
 rw[if_pos (by decide)]
 refine Aa (sliceApplied_gen hs pl pu ?_)
 have hno:¬ ((((sIx items.size 0 lo:Nat):Int) == 0 && (1:Int) == 1 && (sIx items.size items.size hi - sIx items.size 0 lo) == items.size)=true):=by
  intro q
  rw[Dk,Dk] at q
  have q1:((sIx items.size 0 lo:Nat):Int)=0:=Ds q.1.1
  have q2:sIx items.size items.size hi - sIx items.size 0 lo=items.size:=Ds q.2
  exact hw ⟨by omega,by omega⟩
 show wpAny _ _ (if (((sIx items.size 0 lo:Nat):Int) == 0 && (1:Int) == 1 && (sIx items.size items.size hi - sIx items.size 0 lo) == items.size)=true then _ else _) _ _ s
 rw[if_neg hno,wD]
 first
  | exact Aa (m:=Jx _) (Du (Am ⟨_,rfl,Am h⟩) htake)
  | exact Aa (m:=Jx _) (Du (Aa (Am (Am ⟨_,rfl,Am h⟩))) htake)
  | exact Aa (Aa (m:=Jx _) (Du (Am (Am ⟨_,rfl,Am h⟩)) htake))
  | exact Aa (Aa (m:=Jx _) (Du (Am ⟨_,rfl,Am h⟩) htake))
end
end HT
namespace L2
open PySem PySem.Spec PyProof.Rows
abbrev TO:=St->Hp->(Option Int->Hp->Prop)->Prop
def PO(X:Cx)(e:Option Expr)(t:TO):Prop :=
 ∀(pins:List (Addr×Obj)) (s:Aj) (σ:St) (H:Hp) (Q:Option Int->Hp->Prop),Inv X pins σ H s->t σ H Q ->
  wpAny (model X.prog X.w) X.A (evalPart e X.env) (λu s'=>∃o H',Inv X pins σ H' s'/\Yr u o/\Q o H') X.xe s
def E9:TO:=λ_ H Q=>Q none H
def DK(t:TE):TO:=λσ H Q=>t σ H λx H1=>∃i,x=.int i/\Q (some i) H1
theorem intsAre_of:∀{us:List Value},Fg (ns.map V.int) us->Kj us ns:=by
 induction ns with
 | nil=>intro us r; rw[Ki] at r; cases r; exact .nil
 | cons n ns ih =>
  intro us r
  rw[Aw] at r
  cases r with
  | cons r1 r2 =>
   obtain ⟨t,e⟩:=r1
   subst e
   exact .cons n t (ih r2)
section
variable{X:Cx}{e:Expr}{te:TE}{lo hi:Option Expr}{tl th:TO}{pos p2:Pos}
theorem F7:PO X none E9:=by
 intro pins s σ H Q I h
 rw[evalPart_none]
 exact Am ⟨none,H,I,.none,h⟩
theorem J5(h:PE X e te):PO X (some e) (DK te):=by
 intro pins s σ H Q I hw
 rw[evalPart_some]
 refine Gk (h pins s σ H _ I hw) λu s1 q0_ => ?_
 obtain ⟨x,H1,I1,r1,q1⟩ := q0_
 obtain ⟨i,rfl,q⟩:=q1
 obtain ⟨t,rfl⟩:=r1
 exact ⟨some i,H1,I1,.int i t,q⟩
def Z5(X:Cx)(r:V->Option Int->Option Int->Hp->VK->Prop):Prop :=
 ∀(pins:List (Addr×Obj)) (s:Aj) (σ:St) (H:Hp) (x:V) (v vl vu:Value) (lo hi:Option Int) (sl:Addr) (Q:VK),Inv X pins σ H s->RelV x v->s.heap.IsSliceOf sl vl vu .none->Yr vl lo->Yr vu hi->r x lo hi H Q ->
  ∃T id,typeLookup (.type T) "__getitem__" = pure (some (.builtin id))/\s.TypeIs v T/\wpAny (model X.prog X.w) X.A (Sh v (.ref sl)) (EP X pins σ Q) X.xe s
theorem Z5.or(h:Z5 X r)(h':Z5 X r'):Z5 X (λx lo hi H Q=>r x lo hi H Q\/r' x lo hi H Q):=by
 intro pins s σ H x v vl vu lo hi sl Q I rx hs pl pu q
 rcases q with q | q
 ·exact h pins s σ H x v vl vu lo hi sl Q I rx hs pl pu q
 ·exact h' pins s σ H x v vl vu lo hi sl Q I rx hs pl pu q
def HW(r:V->Option Int->Option Int->Hp->VK->Prop)(te:TE)(tl th:TO):TE:=λσ H Q=>te σ H λx H1=>tl σ H1 λl H2=>th σ H2 λu H3=>r x l u H3 Q
theorem mH(hr:Z5 X r)(he:PE X e te)(hl:PO X lo tl)(hu:PO X hi th):PE X (.Subscript e (.Slice lo hi none p2) pos) (HW r te tl th):=by
 intro pins s σ H Q I h
 refine Subscript_ (Gk (he pins s σ H _ I h) λv s1 q0_ => ?_)
 obtain ⟨x,H1,I1,r1,q1⟩ := q0_
 refine wpAny_Slice (Gk (hl pins s1 σ H1 _ I1 q1) λvl s2 ⟨l,H2,I2,pl,q2⟩=>Gk (hu pins s2 σ H2 _ I2 q2) λvu s3 q0_ => ?_)
 obtain ⟨u,H3,I3,pu,q3⟩ := q0_
 rw[evalPart_none]
 refine Am ?_
 have I4:Inv X pins σ H3 { s3 with heap:=s3.heap.push { cls:=.type "slice",data:=.fields #[vl,vu,.none] } }:=I3.kept (t':=s3.toks) λb ob q=>Ai _ q
 obtain ⟨T,id,hT,ht,hg⟩:=hr pins { s3 with heap:=s3.heap.push { cls:=.type "slice",data:=.fields #[vl,vu,.none] } } σ H3 x v vl vu l u s3.heap.objs.size Q I4 r1 (Heap.IsSliceOf.new ..) pl pu q3
 show wpAny (model X.prog X.w) X.A (cO e (.Slice lo hi none p2) v (.ref s3.heap.objs.size)) (EP X pins σ Q) X.xe { s3 with heap:=s3.heap.push { cls:=.type "slice",data:=.fields #[vl,vu,.none] } }
 exact tail_any (ops:=[.ref s3.heap.objs.size,v]) ht hT hg (by with_unfolding_all rfl)
def cF(xs:List V)(lo hi:Option Int):List V:=(xs.drop (HT.sIx xs.length 0 lo)).take (HT.sIx xs.length xs.length hi - HT.sIx xs.length 0 lo)
theorem Yh(xs:List V)(lo hi:Option Int):(cF xs lo hi).length<=xs.length:=by
 unfold cF
 rw[Cw,cS]
 omega
def GJ(K:PySem.W.Frag):V->Option Int->Option Int->Hp->VK->Prop:=λx lo hi H Q=>∃a xs,x=.ref a/\Uh K H a xs /\
 ¬ (HT.sIx xs.length 0 lo=0/\HT.sIx xs.length xs.length hi=xs.length)/\∀p,H p=none->Q (.ref p) (upd H p (.tup (cF xs lo hi)))
theorem T2:Z5 X (GJ X.K):=by
 intro pins s σ H x v vl vu lo hi sl Q I rx hs pl pu h
 obtain ⟨a,xs,rfl,hx,hw,q⟩:=h
 cases rx
 obtain ⟨its,r,ht,hz⟩:=I.tuple hx
 have hlen:its.toArray.size=xs.length:=by rw[Aq]; exact r.length.symm
 refine ⟨"tuple",_,Ej.lookup,ht.typeIs,?_⟩
 refine HT.getItem_tuple_cut ht hs pl pu (by rw[hlen]; exact hw) ?_ (by rw[hlen]; exact hz)
 rw[hlen]
 refine ⟨.ref s.heap.objs.size,_,I.laid (t':=s.toks) (o:=.tup (cF xs lo hi)) (λb ob q=>Ai _ q) (Ak _) ?_,rfl,q _ (I.hok.fresh (Ak _))⟩
 exact ⟨Bz (Yh xs lo hi) hz,_,(r.drop (HT.sIx xs.length 0 lo)).take (HT.sIx xs.length xs.length hi - HT.sIx xs.length 0 lo),IsTup.new _ _⟩
def DJ(K:PySem.W.Frag):R2:=λx y H Q=>∃a b xs ys,x=.ref a/\y=.ref b/\Uh K H a xs/\Uh K H b ys/\xs≠[]/\xs.length+ys.length<=Au /\
 (ys=[]->Q (.ref a) H)/\(ys≠[]->∀p,H p=none->Q (.ref p) (upd H p (.tup (xs++ys))))
theorem Fg.nil_iff(r:Fg xs us):us=[]↔xs=[]:=by
 cases r with
 | nil=>simp
 | cons _ _=>simp
theorem A9:Wc X (Iv .Add) (DJ X.K):=by
 intro pins s σ H x y v u Q I rx ry h
 obtain ⟨a,b,xs,ys,rfl,rfl,ha,hb,hx,hz,q1,q2⟩:=h
 cases rx
 cases ry
 obtain ⟨its,r1,p1,_⟩:=I.tuple ha
 obtain ⟨its2,r2,p2,_⟩:=I.tuple hb
 refine HT.cat_tup p1 p2 (λz=>hx (r1.nil_iff.mp z)) (λz=>⟨.ref a,H,I,rfl,q1 (r2.nil_iff.mp z)⟩) (λz=>?_) (by rw[<- r1.length,<- r2.length]; exact hz)
 refine ⟨.ref s.heap.objs.size,_,I.laid (t':=s.toks) (o:=.tup (xs++ys)) (λb ob q=>Ai _ q) (Ak _) ?_,rfl,q2 (λw=>z (r2.nil_iff.mpr w)) _ (I.hok.fresh (Ak _))⟩
 exact ⟨by rw[Bn]; exact hz,_,r1.append r2,IsTup.new _ _⟩
end
def L6(n:Nat)(i:Int):Option Nat:=if 0<=i then (if i<n then some i.toNat else none) else if -(n:Int)<=i then some (i+n).toNat else none
def Sx{α:Type}(xs:List α)(i:Int):Option α:=(L6 xs.length i).bind λj=>xs[j]?
theorem qK(h:L6 n i=some j):seqIndex? i n=some j/\j<n /\ -(n:Int)<=i/\i<n:=by
 unfold L6 at h
 by_cases h0:0<=i
 ·rw[if_pos h0] at h
  by_cases h1:i<n
  ·rw[if_pos h1] at h
   have e:i.toNat=j:=Bp h
   exact ⟨by rw[seqIndex_of h0 h1,e],by omega,by omega,h1⟩
  ·rw[if_neg h1] at h; cases h
 ·rw[if_neg h0] at h
  by_cases h1:-(n:Int)<=i
  ·rw[if_pos h1] at h
   have e:(i+n).toNat=j:=Bp h
   exact ⟨by rw[seqIndex_neg (by omega) h1,e],by omega,h1,by omega⟩
  ·rw[if_neg h1] at h; cases h
theorem gP(h:Sx xs i=some v):∃j,seqIndex? i xs.length=some j/\xs[j]? = some v/\j<xs.length /\ -(xs.length:Int)<=i/\i<xs.length:=by
 unfold Sx at h
 cases e:L6 xs.length i with
 | none=>rw[e] at h; cases h
 | some j =>
  rw[e] at h
  obtain ⟨h1,h2,h3,h4⟩:=qK e
  exact ⟨j,h1,h,h2,h3,h4⟩
theorem K3{xs:List α}{j:Nat}{v:α}(h:xs[j]? = some v):Sx xs (j:Int)=some v:=by
 have hj:j<xs.length:=(Ap.mp h).1
 have e:L6 xs.length (j:Int)=some j:=by
  unfold L6
  rw[if_pos (by omega),if_pos (by omega)]; simp
 unfold Sx; rw[e]; exact h
def iN(b:Expr):Prop:=∀o i,subscripted b false o i=operate [o,i] (Sh o i)
def B4(X:Cx)(r:R2):Prop :=
 ∀(value slice:Expr) (pins:List (Addr×Obj)) (s:Aj) (σ:St) (H:Hp) (x y:V) (v u:Value) (Q:VK),Inv X pins σ H s->RelV x v->RelV y u->r x y H Q ->
  subscripted slice false v u=operate [v,u] (Sh v u)->wpAny (model X.prog X.w) X.A (cO value slice v u) (EP X pins σ Q) X.xe s
def HS(X:Cx)(id:String)(r:V->List V->Hp->VK->Prop):Prop :=
 ∀(pins:List (Addr×Obj)) (s:Aj) (σ:St) (H:Hp) (x:V) (xs:List V) (v:Value) (us:List Value) (Q:VK),Inv X pins σ H s->RelV x v->Fg xs us->r x xs H Q ->
  wpAny (model X.prog X.w) X.A (call (.builtin id) (v::us)) (EP X pins σ Q) X.xe s
section
variable{X:Cx}{a b:Expr}{ta tb:TE}{pos:Pos}
theorem B4.or(h:B4 X r)(h':B4 X r'):B4 X (λx y H Q=>r x y H Q\/r' x y H Q):=by
 intro value slice pins s σ H x y v u Q I rx ry q hs
 rcases q with q | q
 ·exact h value slice pins s σ H x y v u Q I rx ry q hs
 ·exact h' value slice pins s σ H x y v u Q I rx ry q hs
theorem aN(hr:B4 X r)(ha:PE X a ta)(hb:PE X b tb)(hs:iN b):PE X (.Subscript a b pos) (BK r ta tb):=by
 intro pins s σ H Q I h
 exact Subscript_ (R3 ha hb I h λv u s2 x y H2 I2 rx ry q=>hr a b pins s2 σ H2 x y v u Q I2 rx ry q (hs _ _))
def EX(K:PySem.W.Frag):R2:=λx y H Q=>∃p xs i v,x=.ref p/\y=.int i/\Mc K H p xs/\Sx xs i=some v/\Q v H
def EF(K:PySem.W.Frag):R2:=λx y H Q=>∃p xs i v,x=.ref p/\y=.int i/\Uh K H p xs/\Sx xs i=some v/\Q v H
def EW:R2:=λx y H Q=>∃z i c,x=.str z/\y=.int i/\z.length<=Au/\Sx z.cps.toList i=some c/\Q (.str ⟨#[c]⟩) H
theorem Th:B4 X (EX X.K):=by
 intro value slice pins s σ H x y v u Q I rx ry h hs
 obtain ⟨p,xs,i,z,rfl,rfl,hq,he,q⟩:=h
 cases rx
 obtain ⟨t,rfl⟩:=ry
 obtain ⟨its,r,pl,hz⟩:=I.list hq
 obtain ⟨j,h1,h2,h3,h4,h5⟩:=gP he
 obtain ⟨w,ew,rw'⟩:=r.get h2
 have hl:=r.length
 have hn:=Xl
 have fin:EP X pins σ Q w s:=⟨z,H,I,rw',q⟩
 by_cases h0:0<=i
 ·have hj:i.toNat=j:=by
   rw[seqIndex_of h0 h5] at h1
   exact Bp h1
  exact item_listR pl.isList h0 (by omega) (by rw[hj]; simpa using ew) fin hs
 ·have hj:(i+(its.toArray.size:Int)).toNat=j:=by
   rw[seqIndex_neg (by omega) h4] at h1
   rw[Aq,<- hl]
   exact Bp h1
  exact x3 (x:=w) pl.isList.typeIs fS.lookup
   (wpAny_getItem_list_neg (Q:=λr s'=>r=w/\EP X pins σ Q r s') pl.isList (by omega) (by rw[Aq] <;> omega) (by omega) (by rw[hj]; simpa using ew) ⟨rfl,fin⟩) hs
theorem GF:B4 X (EF X.K):=by
 intro value slice pins s σ H x y v u Q I rx ry h hs
 obtain ⟨p,xs,i,z,rfl,rfl,hq,he,q⟩:=h
 cases rx
 obtain ⟨t,rfl⟩:=ry
 obtain ⟨its,r,pl,hz⟩:=I.tuple hq
 obtain ⟨j,h1,h2,h3,h4,h5⟩:=gP he
 obtain ⟨w,ew,rw'⟩:=r.get h2
 have hl:=r.length
 have hn:=Xl
 have fin:EP X pins σ Q w s:=⟨z,H,I,rw',q⟩
 exact x3 (x:=w) pl.typeIs slot_tuple_getitem.lookup
  (getItem_tuple (j:=j) (Q:=λr s'=>r=w/\EP X pins σ Q r s') pl (by omega) (by omega) (by rw[Aq,<- hl]; exact h1) (by simpa using ew) ⟨rfl,fin⟩) hs
theorem T4:B4 X EW:=by
 intro value slice pins s σ H x y v u Q I rx ry h hs
 obtain ⟨z,i,c,rfl,rfl,hz,he,q⟩:=h
 obtain ⟨t,rfl⟩:=rx
 obtain ⟨t',rfl⟩:=ry
 obtain ⟨j,h1,h2,h3,h4,h5⟩:=gP he
 have hl:z.cps.toList.length=z.length:=by simp [Str.length]
 rw[hl] at h1 h4 h5
 have hn:=Xl
 exact tail_any (typeIs_str s z t) slot_str_getitem.lookup (getItem_str (c:=c) (by
  have e1:decide (i < -(2 ^ 63:Int))=false:=decide_eq_false (by omega)
  have e2:decide (i ≥ 2 ^ 63)=false:=decide_eq_false (by omega)
  rw[e1,e2,Bool.or_false]) (by rw[h1]; simpa using h2) ⟨.str ⟨#[c]⟩,H,I.tok _,⟨_,rfl⟩,q⟩) hs
def HC(K:PySem.W.Frag):R2:=λx y H Q=>EX K x y H Q\/EF K x y H Q\/EW x y H Q
theorem Y1:B4 X (HC X.K):=Th.or (GF.or T4)
theorem oE(its:List Value)(n j:Nat)(u:Value):Cq (·.setIfInBounds j u) { cls:=.type "list",data:=.seq its.toArray n }={ cls:=.type "list",data:=.seq (its.set j u).toArray n }:=by
 simp [Cq]
theorem Inv.lst{pins:List (Addr×Obj)}{σ:St}{H:Hp}{s:Aj}{p:Addr}{xs:List V}(I:Inv X pins σ H s)(h:H p=some (.lst xs)):∃(its:List Value) (n:Nat),Fg xs its/\s.heap.get? p=some { cls:=.type "list",data:=.seq its.toArray n }/\xs.length<=Au:=by
 obtain ⟨z,its,n,r,e⟩:=I.hok p _ h
 exact ⟨its,n,r,e,z⟩
theorem Inv.lstUpd{pins:List (Addr×Obj)}{σ:St}{H:Hp}{its its':List Value}(I:Inv X pins σ H s)(h:H p=some (.lst xs))(ho:s.heap.get? p=some { cls:=.type "list",data:=.seq its.toArray n })(hf:f { cls:=.type "list",data:=.seq its.toArray n }={ cls:=.type "list",data:=.seq its'.toArray n' })(r:Fg ys its')(hz:ys.length<=Au)(t:Nat):Inv X pins σ (upd H p (.lst ys)) { s with heap:=s.heap.update p f,toks:=t }:=by
 have e:(s.heap.update p f).get? p=some { cls:=.type "list",data:=.seq its'.toArray n' }:=by
  rw[Fz f ho (by rw[hf] <;> rfl),hf]
 refine I.write (x:=p) (e:=p) (by rw[h]; trivial) (.inl rfl) (λb u hb q=>(Fm _ _ (Ll hb)).trans q) ⟨_,e⟩ ?_
 exact ⟨hz,its',n',r,e⟩
def BC:V->V->V->Hp->(Hp->Prop)->Prop:=λo i v H Q=>∃p xs k j,o=.ref p/\i=.int k/\H p=some (.lst xs)/\L6 xs.length k=some j/\Q (upd H p (.lst (xs.set j v)))
theorem lA:BN X BC:=by
 intro pins s σ H o i v ov iv u Q I ro ri rv h
 obtain ⟨p,xs,k,j,rfl,rfl,hp,hj,q⟩:=h
 cases ro
 obtain ⟨t,rfl⟩:=ri
 obtain ⟨its,n,r,ho,hz⟩:=I.lst hp
 obtain ⟨h1,h2,h3,h4⟩:=qK hj
 have hl:=r.length
 have hn:=Xl
 have I':Inv X pins σ (upd H p (.lst (xs.set j v))) { s with heap:=s.heap.update p (Cq (·.setIfInBounds j u)) } :=
  I.lstUpd hp ho (oE its n j u) (r.set rv j) (by rw[List.length_set]; exact hz) s.toks
 by_cases h0:0<=k
 ·have hk:k.toNat=j:=by
   rw[seqIndex_of h0 h4] at h1
   exact Bp h1
  exact PySem.W.ki_setAt ho h0 (by omega) (by rw[Aq,<- hl]; exact h4) (by rw[hk]; exact ⟨_,I',q⟩)
 ·have hk:(k+(its.toArray.size:Int)).toNat=j:=by
   rw[seqIndex_neg (by omega) h3] at h1
   rw[Aq,<- hl]
   exact Bp h1
  exact PySem.W.ki_setBack ho (by omega) (by rw[Aq,<- hl]; exact h3) (by omega) (by rw[hk]; exact ⟨_,I',q⟩)
theorem gB(lo hi:Option Int)(n:Nat):(Jn lo hi none n).1=((HT.sIx n 0 lo:Nat):Int)/\(Jn lo hi none n).2.1=((HT.sIx n n hi:Nat):Int)/\(Jn lo hi none n).2.2=1:=by
 refine ⟨?_,?_,rfl⟩
 ·cases lo with
  | none=>simp [Jn,HT.sIx]
  | some i =>
   simp only[Jn,HT.sIx,Option.getD_none,show (1:Int) > 0 by decide,if_true]
   by_cases h:i<0
   ·simp only[h,if_true] <;> omega
   ·simp only[h,if_false] <;> omega
 ·cases hi with
  | none=>simp [Jn,HT.sIx]
  | some i =>
   simp only[Jn,HT.sIx,Option.getD_none,show (1:Int) > 0 by decide,if_true]
   by_cases h:i<0
   ·simp only[h,if_true] <;> omega
   ·simp only[h,if_false] <;> omega
theorem dO(its:List Value)(lo hi:Option Int):slicePick its.toArray lo hi none=((its.drop (HT.sIx its.length 0 lo)).take (HT.sIx its.length its.length hi - HT.sIx its.length 0 lo)).toArray:=by
 obtain ⟨h1,h2,h3⟩:=gB lo hi its.toArray.size
 unfold slicePick
 rw[h1,h2,h3]
 simp only[sliceRange_one,pick_run,Aq] <;> rfl
def Z0(K:PySem.W.Frag):V->Option Int->Option Int->Hp->VK->Prop:=λx lo hi H Q=>∃a xs,x=.ref a/\Mc K H a xs/\∀p,H p=none->Q (.ref p) (upd H p (.lst (cF xs lo hi)))
theorem L5:Z5 X (Z0 X.K):=by
 intro pins s σ H x v vl vu lo hi sl Q I rx hs pl pu h
 obtain ⟨a,xs,rfl,hx,q⟩:=h
 cases rx
 obtain ⟨its,r,ht,hz⟩:=I.list hx
 have hlen:=r.length
 refine ⟨"list",_,fS.lookup,ht.isList.typeIs,?_⟩
 refine vG ht.isList hs pl pu .none (by simp) ?_ (by rw[Aq] <;> omega)
 rw[dO,<- hlen]
 refine ⟨.ref s.heap.objs.size,_,I.laid (t':=s.toks) (o:=.lst (cF xs lo hi)) (λb ob q=>Ai _ q) (Ak _) ?_,rfl,q _ (I.hok.fresh (Ak _))⟩
 exact ⟨Bz (Yh xs lo hi) hz,_,0,(r.drop (HT.sIx xs.length 0 lo)).take (HT.sIx xs.length xs.length hi - HT.sIx xs.length 0 lo),Bf _ rfl⟩
theorem iF:Ld X (.type "list") (λxs H Q=>∃p ys,xs=[.ref p]/\(Mc X.K H p ys\/Uh X.K H p ys)/\∀l,H l=none->Q (.ref l) (upd H l (.lst ys))):=by
 intro pins s σ H xs us Q I r h
 obtain ⟨p,ys,rfl,hq,q⟩:=h
 obtain ⟨u,rfl,rx⟩:=vals1 r
 cases rx
 have fin:∀(its:List Value),Fg ys its->ys.length<=Au->∀(h':Heap) (c':Nat),(∀b o',s.heap.get? b=some o'->h'.get? b=some o') ->
   h'.get? s.heap.objs.size=some { cls:=.type "list",dict:=none,data:=.seq its.toArray c',slots:=#[] }->EP X pins σ Q (.ref s.heap.objs.size) { s with heap:=h' }:=λits r' hz h' c' kp e =>
  ⟨.ref s.heap.objs.size,_,I.laid (t':=s.toks) kp (Ak _) (show Hg X.prog X.w _ h' _ (.lst ys) from ⟨hz,its,c',r',e⟩),rfl,q _ (I.hok.fresh (Ak _))⟩
 rcases hq with hq | hq
 ·obtain ⟨its,r',pl,hz⟩:=I.list hq
  have hlen:=r'.length
  obtain ⟨o,ho,hc,n,hd⟩:=pl.isList
  exact call_list_seq p (.inl rfl) ho hc hd (λh' c' kp e=>fin its r' hz h' c' kp e) (by simp only[Aq] <;> omega)
 ·obtain ⟨its,r',pl,hz⟩:=I.tuple hq
  have hlen:=r'.length
  obtain ⟨o,ho,hc,n,hd⟩:=pl
  exact call_list_seq p (.inr rfl) ho hc hd (λh' c' kp e=>fin its r' hz h' c' kp e) (by simp only[Aq] <;> omega)
theorem dJ:Ld X (.type "tuple") (λxs H Q=>∃p ys,xs=[.ref p]/\((Mc X.K H p ys/\∀l,H l=none->Q (.ref l) (upd H l (.tup ys)))\/(Uh X.K H p ys/\Q (.ref p) H))):=by
 intro pins s σ H xs us Q I r h
 obtain ⟨p,ys,rfl,h⟩:=h
 obtain ⟨u,rfl,rx⟩:=vals1 r
 cases rx
 rcases h with ⟨hq,q⟩ | ⟨hq,q⟩
 ·obtain ⟨its,r',pl,hz⟩:=I.list hq
  have hlen:=r'.length
  refine call_tuple_list pl.isList (λh' kp=>?_) (by simp only[Aq] <;> omega)
  have I1:Inv X pins σ H { s with heap:=h' }:=I.kept (t':=s.toks) kp
  have I2:Inv X pins σ (upd H h'.objs.size (.tup ys)) { s with heap:=h'.push { cls:=.type "tuple",data:=.seq its.toArray } } :=
   I1.laid (t':=s.toks) (λb o e=>Ai _ e) (Ak _) (show Hg X.prog X.w _ _ _ (.tup ys) from ⟨hz,its,r',IsTup.new _ _⟩)
  exact ⟨.ref h'.objs.size,_,I2,rfl,q _ (I1.hok.fresh (Ak _))⟩
 ·obtain ⟨its,r',pl,hz⟩:=I.tuple hq
  exact call_tuple_same pl ⟨.ref p,H,I,rfl,q⟩
def HE(K:PySem.W.Frag)(T:String)(x:V)(H:Hp):Prop:=match x with
 | .str _=>T = "str"
 | .int _=>T = "int"
 | .ref p=>(T = "list" /\ ∃xs,Mc K H p xs)\/(T = "tuple" /\ ∃o,K.lookup p=some o/\o.cls=.type "tuple" /\ o.dict=none) \/
   (T = "dict" /\ ((∃kvs,H p=some (.dK kvs))\/∃kvs,H p=some (.dT kvs)))\/(T = "set" /\ ∃S n,H p=some (.set S n))
 | _=>False
theorem X5{pins:List (Addr×Obj)}{σ:St}(I:Inv X pins σ H s)(r:RelV x v)(ty:HE X.K T x H):s.TypeIs v T/\∀a,v=.ref a->∃ob,s.heap.get? a=some ob/\ob.dict=none:=by
 cases x with
 | str z =>
  obtain ⟨t,rfl⟩:=r
  cases (show T = "str" from ty)
  exact ⟨typeIs_str s z t,λ_ e=>nomatch e⟩
 | int i =>
  obtain ⟨t,rfl⟩:=r
  cases (show T = "int" from ty)
  exact ⟨typeIs_int s i t,λ_ e=>nomatch e⟩
 | ref p =>
  cases r
  rcases ty with ⟨rfl,xs,hq⟩ | ⟨rfl,o,hk,hc,hd⟩ | ⟨rfl,hk⟩ | ⟨rfl,S,n,hk⟩
  ·obtain ⟨its,_,pl,_⟩:=I.list hq
   refine ⟨pl.isList.typeIs,λa e=>?_⟩
   cases e
   obtain ⟨o,n,e,c,hd,_⟩:=pl
   exact ⟨o,e,hd⟩
  ·refine ⟨⟨o,I.kIn p o hk,hc⟩,λa e=>?_⟩
   cases e
   exact ⟨o,I.kIn _ o hk,hd⟩
  ·have z:∃o,s.heap.get? p=some o/\o.ExactDict:=by
    rcases hk with ⟨kvs,hk⟩ | ⟨kvs,hk⟩
    ·obtain ⟨_,_,_,_,o,_,_,e,ex,_⟩:=I.hok p _ hk
     exact ⟨o,e,ex⟩
    ·obtain ⟨_,_,_,_,o,_,_,e,ex,_⟩:=I.hok p _ hk
     exact ⟨o,e,ex⟩
   obtain ⟨o,e,ex⟩:=z
   refine ⟨⟨o,e,ex.1⟩,λa e2=>?_⟩
   cases e2
   exact ⟨o,e,ex.2.1⟩
  ·obtain ⟨o,_,_,_,e,ex,_⟩:=I.hok p _ hk
   refine ⟨⟨o,e,ex.1⟩,λa e2=>?_⟩
   cases e2
   exact ⟨o,e,ex.2.1⟩
 | _=>exact Kc ty
def HX(K:PySem.W.Frag)(T:String)(r:V->List V->Hp->VK->Prop)(to:TE)(t:TA):TE:=λσ H Q=>to σ H λx H1=>HE K T x H1/\t σ H1 λxs H2=>r x xs H2 Q
variable{o e:Expr}{es:List Expr}{to:TE}{t:TA}{name:Str}{apos cpos:Pos}{T id:String}{r:V->List V->Hp->VK->Prop}
theorem P5(pa:PlainAttrs T)(slot:Slot T name id)(hty:typeOf (.builtin id)=pure (.type "method_descriptor"))(hm:HS X id r)(ho:PE X o to)(ha:PA X (e::es) t)
  (hbase:Tp o name X.env (eval o X.env)=eval o X.env:=by rfl)
  (hfew:((Gu cpos (Bq (e::es) X.env)).all (λx=>!x.1) && (backToKw cpos (Yp [] X.env)).all (λx=>x.1.isSome)
   && decide ((e::es).length+([]:List Sk).length+(if ([]:List Sk).isEmpty then 0 else 1)<30))=true:=by rfl)
  (hline:(apos.endLine == cpos.line)=true:=by rfl) (hs:Bq (e::es) X.env=(false,eval e X.env)::Bq es X.env:=by rfl) (hplain:(Gu cpos (Bq es X.env)).any (·.1)=false:=by rfl) :
  PE X (.Call (.Attribute o name apos) (e::es) [] cpos) (HX X.K T r to t):=by
 intro pins s σ H Q I h
 refine wpAny_Call_method_late hbase hfew hline rfl (Gk (ho pins s σ H _ I h) λv s1 q0_ => ?_)
 obtain ⟨x,H1,I1,r1,ty,q1⟩ := q0_
 obtain ⟨h1,h2⟩:=X5 I1 r1 ty
 refine ⟨T,id,pa,slot,hty,h1,h2,?_⟩
 have hA:=ha cpos pins s1 σ H1 _ I1 q1
 rw[hs] at hA ⊢
 refine mW (by show (false || (Gu cpos (Bq es X.env)).any (·.1))=false; rw[hplain] <;> rfl) (Calls.evalArgs_plain ?_)
 exact Gk hA λus s2 ⟨vs,H2,I2,r2,q2⟩=>hm pins s2 σ H2 x vs v us Q I2 r1 r2 q2
end
def HA(X:Cx)(id:String)(r:V->List V->Hp->VK->Prop):Prop :=
 ∀(pins:List (Addr×Obj)) (s:Aj) (σ:St) (H:Hp) (x:V) (xs:List V) (v:Value) (us:List Value) (Q:VK),Inv X pins σ H s->RelV x v->Fg xs us->r x xs H Q ->
  wpAny (model X.prog X.w) X.A (call (.builtin id) (v::us)) (EP X pins σ Q) X.xe s
theorem Fg.one:∀{x:V} {us:List Value},Fg [x] us->∃u,us=[u]/\RelV x u
 | _,_,.cons r .nil=>⟨_,rfl,r⟩
theorem Fg.reverse(h:Fg xs us):Fg xs.reverse us.reverse:=by
 induction h with
 | nil=>exact .nil
 | cons r t ih=>rw[Qk,Qk]; exact Fg.append ih (.cons r .nil)
theorem Fg.rep(h:Fg xs us):∀k:Nat,Fg (Bl k xs).flatten (Bl k us).flatten
 | 0=>.nil
 | k+1=>by
  rw[Fn,Fn,Hq,Hq]
  exact Fg.append h (Fg.rep h k)
theorem foldl_rep(its:List Value):∀(k:Nat) (acc:List Value),List.foldl (λx1 x2=>x1++x2) acc.toArray (Bl k its.toArray)=(acc++(Bl k its).flatten).toArray
 | 0,acc=>by simp
 | k+1,acc=>by
  have e:acc.toArray++its.toArray=(acc++its).toArray:=by simp
  have e2:(acc++its)++(Bl k its).flatten=acc++(Bl (k+1) its).flatten:=by
   rw[Fn,Hq,Bw]
  rw[<- e2,<- foldl_rep its k (acc++its),<- e,Fn,List.foldl_cons]
section
variable{X:Cx}{pins:List (Addr×Obj)}{σ:St}{H:Hp}{s:Aj}{l b:Addr}{xs ys zs:List V}
theorem Inv.lset{its its':List Value}(I:Inv X pins σ H s)(hH:H l=some (.lst xs))(e:s.heap.get? l=some { cls:=.type "list",data:=.seq its.toArray n })(hf:f its.toArray=its'.toArray)(hv:Fg ys its')(hz:ys.length<=Au):Inv X pins σ (upd H l (.lst ys)) { s with heap:=s.heap.update l (Cq f),toks:=t' }:=by
 have q:=PySem.IsL.update e f
 rw[hf] at q
 refine I.write (x:=l) (e:=l) (by rw[hH]; exact trivial) (.inl rfl) (λb' u hb hu=>(Fm s.heap (Cq f) (Ll hb)).trans hu) ⟨_,q⟩ ?_
 exact ⟨hz,its',_,hv,q⟩
theorem Inv.lnew(I:Inv X pins σ H s)(hv:Fg ys its)(hz:ys.length<=Au):Inv X pins σ (upd H s.heap.objs.size (.lst ys)) { s with heap:=s.heap.push { cls:=.type "list",data:=.seq its.toArray },toks:=t' } :=
 I.laid (λ_ _ q=>Ai _ q) (Ak _) ⟨hz,its,0,hv,Bf _ rfl⟩
theorem Inv.fresh(I:Inv X pins σ H s):H s.heap.objs.size=none:=I.hok.fresh (Ak _)
theorem Inv.lstM(I:Inv X pins σ H s)(hH:H l=some (.lst xs)):xs.length<=Au/\∃(its:List Value) (n:Nat),Fg xs its/\xs.length=its.length/\s.heap.get? l=some { cls:=.type "list",data:=.seq its.toArray n }:=by
 obtain ⟨z,its,n,r,e⟩:=I.hok l _ hH
 exact ⟨z,its,n,r,r.length,e⟩
theorem mB(h:n<=Au):Ka n=false:=by
 unfold Ka
 exact decide_eq_false (by omega)
end
section
variable{X:Cx}
def L3:V->List V->Hp->VK->Prop:=λx vs H Q=>∃l xs y,x=.ref l/\vs=[y]/\H l=some (.lst xs)/\xs.length<Au/\Q .non (upd H l (.lst (xs++[y])))
theorem Qb:HA X "list.append" L3:=by
 intro pins s σ H x vs v us Q I rx rv h
 obtain ⟨l,xs,y,rfl,rfl,hH,hz,q⟩:=h
 cases rx
 obtain ⟨u,rfl,ru⟩:=rv.one
 obtain ⟨z,its,n,r,hl,e⟩:=I.lstM hH
 refine cW F.slot_list_append ⟨_,e,rfl⟩ F.entry_list_append (F.args_list_append_2 _ _) (PySem.list_append l its.toArray n u (by rw[Aq]; omega)) ⟨e,?_⟩
 refine ⟨.non,_,I.lset (its':=its++[u]) hH e (by simp) (r.append (.cons ru .nil)) ?_,rfl,q⟩
 rw[Bn,Hd]
 omega
def A4:V->List V->Hp->VK->Prop:=λx vs H Q=>∃l b xs zs,x=.ref l/\vs=[.ref b]/\H l=some (.lst xs)/\H b=some (.lst zs)/\xs.length+zs.length<=Au/\Q .non (upd H l (.lst (xs++zs)))
theorem AK:HA X "list.extend" A4:=by
 intro pins s σ H x vs v us Q I rx rv h
 obtain ⟨l,b,xs,zs,rfl,rfl,hH,hB,hz,q⟩:=h
 cases rx
 obtain ⟨u,rfl,ru⟩:=rv.one
 cases ru
 obtain ⟨z,its,n,r,hl,e⟩:=I.lstM hH
 obtain ⟨z2,its2,n2,r2,hl2,e2⟩:=I.lstM hB
 have hsz:its.toArray.size+its2.toArray.size<=Au:=by rw[Aq,Aq]; omega
 have hlong:¬ (!its.toArray.isEmpty && Ka (its.toArray.size+its2.toArray.size))=true:=by
  rw[mB hsz,Bool.and_false]
  exact Bt
 refine cW F.slot_list_extend ⟨_,e,rfl⟩ F.entry_list_extend (F.args_list_extend_2 _ _)
  (AutoSeq1.list_extend_list_list_0 l its.toArray n b its2.toArray n2 hlong (by rw[Aq]; omega) (by omega)) ⟨e,e2,?_⟩
 refine ⟨.non,_,I.lset (its':=its++its2) hH e (by simp) (r.append r2) ?_,rfl,q⟩
 rw[Bn]
 omega
def V7:R2:=λx y H Q=>∃l b xs zs,x=.ref l/\y=.ref b/\H l=some (.lst xs)/\H b=some (.lst zs)/\xs.length+zs.length<=Au/\∀p,H p=none->Q (.ref p) (upd H p (.lst (xs++zs)))
theorem gZ:Wc X (Iv .Add) V7:=by
 intro pins s σ H x y v u Q I rx ry h
 obtain ⟨l,b,xs,zs,rfl,rfl,hH,hB,hz,q⟩:=h
 cases rx
 cases ry
 obtain ⟨z,its,n,r,hl,e⟩:=I.lstM hH
 obtain ⟨z2,its2,n2,r2,hl2,e2⟩:=I.lstM hB
 refine PySem.P.add_list e e2 ?_ (by rw[Aq,Aq]; omega)
 have ea:its.toArray++its2.toArray=(its++its2).toArray:=by simp
 rw[ea]
 exact ⟨.ref _,_,I.lnew (t':=s.toks) (r.append r2) (by rw[Bn]; omega),rfl,q _ I.fresh⟩
def BA:R2:=λx y H Q=>∃l k xs,x=.ref l/\y=.int k/\H l=some (.lst xs) /\ -(2 ^ 63)<=k/\k<2 ^ 63/\xs.length * k.toNat<=Au /\
 ∀p,H p=none->Q (.ref p) (upd H p (.lst (Bl k.toNat xs).flatten))
theorem qR{α:Type}(xs:List α)(k:Nat):(Bl k xs).flatten.length=k * xs.length:=by
 induction k with
 | zero=>simp
 | succ k ih=>rw[Fn,Hq,Bn,ih,Nat.succ_mul,Nat.add_comm]
theorem U1:Wc X (Iv .Mult) BA:=by
 intro pins s σ H x y v u Q I rx ry h
 obtain ⟨l,k,xs,rfl,rfl,hH,h1,h2,hz,q⟩:=h
 cases rx
 obtain ⟨t,rfl⟩:=ry
 obtain ⟨z,its,n,r,hl,e⟩:=I.lstM hH
 have hlen:its.toArray.size * k.toNat<=Au:=by rw[Aq,<- hl]; exact hz
 have hcap:¬ its.toArray.size * k.toNat > (2 ^ 63 - 1) / 8:=by
  have : (Au:Nat)<=(2 ^ 63 - 1) / 8:=by decide
  omega
 have hfit:¬ (!Builtin.List.listFitsIndex k)=true:=by
  rw[fitsIndex_both h1 h2]
  exact Bt
 have hlong:¬ Ka (its.toArray.size * k.toNat)=true:=by
  rw[mB hlen]
  exact Bt
 have hnew:List.foldl (λx1 x2=>x1++x2) #[] (Bl (if its.toArray.isEmpty=true then 0 else k.toNat) its.toArray)=(Bl k.toNat its).flatten.toArray:=by
  have f0:∀m:Nat,List.foldl (λx1 x2=>x1++x2) #[] (Bl m its.toArray)=(Bl m its).flatten.toArray:=λm=>by
   have:=foldl_rep its m []
   rw[List.nil_append] at this
   exact this
  rw[f0]
  cases its with
  | nil=>simp
  | cons a r'=>rw[if_neg (by simp)]
 refine wpAny_binaryOp_repeat_ref (T := "list") (U := "int") (by decide) ⟨_,e,rfl⟩ (λs'=>typeIs_int s' k t) noFill_list_mul F.fills_int_mul F.slot_int_rmul repeat_list F.slot_int_index.lookup
  (cW F.slot_int_rmul (typeIs_int s k t) F.entry_int_rmul (F.args_int_rmul_2 _ _) (int___rmul___int_list k t l its.toArray n)
   ⟨e,rfl,⟨_,e,rfl⟩,cW F.slot_list_mul ⟨_,e,rfl⟩ F.entry_list_mul (F.args_list_mul_2 _ _) (AutoListH.list___mul___list_int_3 l its.toArray n k t hfit hcap hlong) ⟨e,?_⟩⟩)
 rw[hnew]
 exact ⟨.ref _,_,I.lnew (t':=s.toks) (r.rep k.toNat) (by rw[qR,Nat.mul_comm]; exact hz),rfl,q _ I.fresh⟩
end
end L2
namespace Att
open PySem PySem.W PySem.Calls PyProof.Rows
theorem Yw:∀(ns:List Int) (vs:List Value),WellAll P h vs (ns.map WData.int)->Kj vs ns:=by
 intro ns
 induction ns with
 | nil =>
  intro vs w
  rw[Ki] at w
  cases w
  exact .nil
 | cons n ns ih =>
  intro vs w
  rw[Aw] at w
  cases w with
  | cons a b =>
   cases a
   exact .cons _ _ (ih _ b)
theorem tG{l:OpenLaw}(hn:l.most=some n)(hpre:l.row.toRowW.claim.pre args=true)(hwl:WellAll P h vals args):∃a vs ns,vals=[Bc a]/\args=[WData.list (ns.map WData.int)]/\h.get? a=some { cls:=.type "list",data:=.seq vs.toArray }/\Kj vs ns/\ns.length<=n:=by
 have hsh:WShape.hasAll [] args [.list .int]=true:=(pre_splitW hpre).1
 have hc:l.pre.holds [] { args:=args }=true:=(pre_splitW hpre).2
 obtain ⟨d,r,rfl,h1,h2⟩:=hasAllW_cons hsh
 obtain rfl:=hasAllW_nil h2
 obtain ⟨xs,rfl,h3⟩:=hasW_list h1
 obtain ⟨ns,rfl⟩:=items_int h3
 have hlen:ns.length<=n:=by
  unfold OpenLaw.pre at hc
  have h4:(WTm.not (.lt (.lit (.int (n:Int))) (.len (.arg 0)))).holds [] { args:=[.list (ns.map .int)] }=true:=by
   have h4:=(holds_andW hc).1
   rw[hn] at h4
   exact h4
  have h5:=condW_of h4 (w_not (w_lt w_lit (w_len_list (w_arg rfl))))
  rw[Ad] at h5
  refine Nat.le_of_not_lt λq=>?_
  have q':(n:Int)<((ns.length:Nat):Int):=by omega
  first
   | (rw[decide_eq_true q'] at h5; exact absurd h5 (by decide))
   | (simp at h5; omega)
 cases hwl with
 | cons w1 w2 =>
  cases w2
  cases w1 with
  | list ho hall=>exact ⟨_,_,ns,rfl,rfl,ho,Yw ns _ hall,hlen⟩
theorem sO(l:OpenLaw)(args:List WData):l.row.toRowW.claim.post args (.bool true) args=true :=
 postW_of (r:=l.row.toRowW) (X:=(true == true))
  (show WShape.has [] (.bool true) .bool=true by first | rfl | decide | simp [WShape.has,WShape.arms,WShape.armsAll])
  (show (WTm.eq .res (.lit (.bool true))).value [] { args:=args,res:=some (.bool true),after:=args }=some (.bool (true == true)) from w_eq_bool (w_res rfl) w_lit) rfl
theorem attach_call{l:OpenLaw}(hn:l.most=some n)(hdf:d.params.defaults=[])(call:∀(w:World) (s₀ s₁:Aj) (mg mb:Str->Option Value) (fa:Addr) (o:Obj) (pm cd doc:Value) (a:Addr) (vs:List Value) (ns:List Int),Ground q loose [] XP w s₀ mg mb s₁.heap->YP w s₁.heap->s₁.heap.get? fa=some o->o.data=.func (docDef d.name d.params d.body d.scope pm cd doc)->s₁.heap.CodeRec cd d.name->mg d.name=some (.ref fa)->s₁.heap.get? a=some { cls:=.type "list",data:=.seq vs.toArray }->Kj vs ns->ns.length<=n->s₁.gens=#[]->Oo (model l.prog w) Zb (.call (.ref fa) ⟨[.ref a],[]⟩) (λr s'=>r=.ok (.ret (.bool true))/\OldK s₁.heap s'.heap/\s'.os=s₁.os/\Sn s'.gens) s₁):WalkO q loose XP YP l.row.toRowW d [] (λf vs=>PySem.call f vs):=by
 intro w s₀ s₁ mg mb G Y fa o pm cd doc dV kV ho hd hcd hD hmg hg args vals as hpre hlay hrd hwl hlo
 obtain rfl:dV=.none:=Dflts.none hD hdf
 obtain rfl:kV=.none:=Dflts.noKw hD
 obtain ⟨a,vs,ns,rfl,rfl,hobj,hints,hlen⟩:=tG hn hpre hwl
 refine enter_call (codeAny_mono (call w s₀ s₁ mg mb fa o pm cd doc a vs ns G Y ho (fd_plain hd) hcd hmg hobj hints hlen hg) λr s' hq=>?_)
 obtain ⟨rfl,h2,h3,h4⟩:=hq
 exact ⟨.inl ⟨.bool true,.bool true,[],rfl,λ_=>rfl,.bool true,sO l _,λ_=>⟨Kq,λ_ hm=>(nomatch hm)⟩⟩,h2,h3,h4⟩
end Att
namespace L2
open PySem PySem.Spec PyProof.Rows
theorem fA:∀{vs:List Value} {ns:List Int},Kj vs ns->Fg (ns.map V.int) vs
 | _,_,.nil=>.nil
 | _,_,.cons n t h=>.cons ⟨t,rfl⟩ (fA h)
def Pb(s:Stmt):Arguments:=match s with
 | .FunctionDef _ a _ _ _ _ _ _ _ _=>a
 | _=>{ posonlyargs:=[],args:=[],vararg:=none,kwonlyargs:=[],kw_defaults:=[],kwarg:=none,defaults:=[] }
def Iu(s:Stmt):List Stmt:=match s with
 | .FunctionDef _ _ b _ _ _ _ _ _ _=>b
 | _=>[]
def Bm(s:Stmt):Scope:=match s with
 | .FunctionDef _ _ _ _ _ _ sc _ _ _=>sc
 | _=>{ kind:=.function,names:=[],isGenerator:=false,isCoroutine:=false }
abbrev Gp:rM:=λ_ _ _ _ _ _=>False
abbrev E0:XK:=λ_ _ _=>False
theorem Gv:Pm Gp X E0:=λ_ _ _ _ _ _ _ h=>h.elim
structure Fun(K:PySem.W.Frag)(x qual:Str)(st:Stmt)(f:Addr)(fd:Cg):Prop where
 ex:∃(oc:Value) (od:Option Addr) (kV doc pm:Value) (an:Option Addr) (cdv ct:Value) (osl:Array (Option Value)),
  fd=PySem.W.fnOf x qual (Pb st) (Iu st) (Bm st) .none kV doc pm an cdv ct/\K.lookup f=some ⟨oc,od,.func fd,osl⟩/\PySem.W.codeIn K cdv qual=true
 kp:PySem.W.keepIn K (.ref f)=true
section
variable{P:Bs}{w:World}{K:PySem.W.Frag}{mg:Str->Option Value}{base:Heap}
theorem Fun.ok{x qual:Str}{st:Stmt}(F:Fun K x qual st f fd)(S:FnScope N ps (Bm st))(len:∀vs H Q E,sp vs H Q E->vs.length=ps.length)(hbody:∀(cdv:Value) (A:Cs) (outer:List Env) (s:Aj) (H:Hp) (vs:List V) (Q:VK) (E:XK),Room k (A.deeper (envOfC qual (Bm st) s.heap.objs.size f cdv))->sp vs H Q E->∃t,rO (Iy Gp P w K mg base N qual (Bm st) f cdv A outer s H E).nox (Iu st) t/\t { nx:=λ_ H'=>Q .non H',rt:=Q } (start N vs) H):FnOk P w K mg base Gp (k+1) f fd ps sp:=by
 obtain ⟨oc,od,kV,doc,pm,an,cdv,ct,osl,rfl,lk,hcd⟩:=F.ex
 refine EC lk hcd S len λA outer s H vs Q E hr hsp=>?_
 obtain ⟨t,h,q⟩:=hbody cdv A outer s H vs Q E hr hsp
 exact ⟨t,h.nox,q⟩
theorem Fun.binds{st:Stmt}(F:Fun K x qual st f fd)(h:∀(kV doc pm:Value) (an:Option Addr) (cdv ct:Value) (us:List Value),us.length=ps.length->bindArgs (PySem.W.fnOf x qual (Pb st) (Iu st) (Bm st) .none kV doc pm an cdv ct) ⟨us,[]⟩=pure (ps.zip us)):Binds K fd ps []:=by
 obtain ⟨oc,od,kV,doc,pm,an,cdv,ct,osl,rfl,lk,hcd⟩:=F.ex
 exact .all (h kV doc pm an cdv ct)
theorem yQ{x qual:Str}{st:Stmt}{kV doc pm cdv ct:Value}(l:K.lookup f=some ⟨oc,od,.func (PySem.W.fnOf x qual (Pb st) (Iu st) (Bm st) .none kV doc pm an cdv ct),osl⟩)(c:PySem.W.codeIn K cdv qual=true)(k:PySem.W.keepIn K (.ref f)=true):Fun K x qual st f (PySem.W.fnOf x qual (Pb st) (Iu st) (Bm st) .none kV doc pm an cdv ct):=⟨⟨oc,od,kV,doc,pm,an,cdv,ct,osl,rfl,l,c⟩,k⟩
end
theorem fK(h:n<=1000):n<Au:=Iw h (by decide)
section
variable{X:Cx}
theorem pv(i:Nat){pos:Pos}(hN:X.N[i]? = some x:=by rfl)(hv:FE X.env.scope x:=by first | exact Eh rfl | exact Oq (Eh rfl) | exact Oq (Oq rfl))(hd:(x == ("__debug__" : Str))=false:=by decide)(hcd:(x == ("__classdict__" : Str))=false:=by decide):PE X (.Name x pos) (cJ i):=Y4 hN hv hd hcd
end
theorem uQ{A B:Prop}(h:B):if false=true then A else B:=by
 rw[if_neg Bt]
 exact h
theorem pC{A B:Prop}(h:A):if true=true then A else B:=by
 rw[if_pos rfl]
 exact h
theorem AN{c A B:Prop}[Decidable c](h1:c->A)(h2:¬ c->B):if c then A else B:=by
 by_cases h:c
 ·rw[if_pos h]
  exact h1 h
 ·rw[if_neg h]
  exact h2 h
def Ms(H H':Hp):Prop:=∀b o,H b=some o->H' b=some o
theorem Ms.refl(H:Hp):Ms H H:=λ_ _ h=>h
theorem Ms.trans(a:Ms H H1)(b:Ms H1 H2):Ms H H2:=λc o h=>b c o (a c o h)
theorem Ms.free(e:Ms H H')(h:H' l=Px):H l=Px:=by
 cases q:H l with
 | none=>rfl
 | some o =>
  rw[e l o q] at h
  cases h
end L2
namespace Nd
open PySem PySem.Spec PyProof.Rows L2
def Ek(X:Cx)(scope:Scope)(cl:List (Str×Addr))(N:List Str)(fp:List Addr)(s:Aj)(H:Hp):Cx where
 prog:=X.prog
 w:=X.w
 K:=X.K
 mg:=X.mg
 base:=X.base
 A:=X.A
 N:=N
 s₀:=s
 H₀:=H
 env:=compEnvC scope (Ep (s.heap.objs.size+1) scope.names cl) s.heap.objs.size X.env
 outer:=X.stack
 stack:=X.stack
 ex:=fp
 fn:=λy=>decide (scope.names.lookup y=some Dy)
 calm:=X.calm
 pn:=[]
 xe:=λ_ _=>False
section
variable{prog:Bs}{w:World}{A:Cs}{R:Result->Aj->Prop}{s:Aj}
theorem Uu(J:Nat->Aj->Prop) (turn:∀n s,J n s->wpAny (model prog w) A (Kx it) (λr s1=>match r with
    | none=>R (.ok .next) s1
    | some v=>wpAny (model prog w) A (Wj tg it v) (λ_ s2=>wpAny (model prog w) A (assign tg env v) (λ_ s3 =>
      wpAny (model prog w) A (forIn ifs true λc r=>if r=true then (do
        let ok <- isTrue c env (eval c env)
        pure (Fi ok)) else pure (Fi r)) (λok s4 =>
       if ok=true then
        wpAny (model prog w) A (eval elt env) (λx s5=>wpAny (model prog w) A (call (.builtin "list.append") [acc,x]) (λ_ s6=>∃m,m<n/\J m s6) (λ_ _=>False) s5) (λ_ _=>False) s4
       else ∃m,m<n/\J m s4) (λ_ _=>False) s3) (λ_ _=>False) s2) (λ_ _=>False) s1) (λ_ _=>False) s)
  (n:Nat) (h:J n s):Oo (model prog w) A (.compLoop (.ListComp elt [⟨tg,iter,ifs,0⟩] scope pos) 0 it acc env) R s:=by
 refine codeAny_loop rfl J (λn s hJ=>?_) n h
 show wpAny _ A (Sem.onRaise (compTurn (.ListComp elt [⟨tg,iter,ifs,0⟩] scope pos) 0 it acc env) (λx=>do noteFrame x env; theTreesLotGoes x)) _ _ s
 refine wpAny_noted ?_
 rw[compTurn_list]
 refine Aa (wpAny_standAt (Aa (Ft (turn n s hJ) (λr s1 h1=>?_) λ_ _ z=>z.elim)))
 cases r with
 | none=>exact Am h1
 | some v =>
  refine Aa (Ft h1 (λ_ s2 h2=>?_) λ_ _ z=>z.elim)
  refine Aa (Ft h2 (λ_ s3 h3=>?_) λ_ _ z=>z.elim)
  refine Aa (Ft h3 (λok s4 h4=>?_) λ_ _ z=>z.elim)
  cases ok with
  | false=>exact Am ⟨rfl,h4⟩
  | true =>
   refine Aa (Aa (Ft h4 (λx s5 h5=>?_) λ_ _ z=>z.elim))
   exact Aa (Ft h5 (λ_ s6 h6=>Am (Am ⟨rfl,h6⟩)) λ_ _ z=>z.elim)
end
section
variable{X:Cx}{pins:List (Addr×Obj)}{σ:L2.St}{H:Hp}{s:Aj}{scope:Scope}{cl:List (Str×Addr)}{fp:List Addr}{N:List Str}
def t8(scope:Scope)(x:Str):Prop:=scope.names.lookup x=some .local\/scope.names.lookup x=some .cell
structure CompScope(X:Cx)(scope:Scope)(cl:List (Str×Addr))(x:Str)(ys:List Str)(js:List Nat):Prop where
 clos:closureFor scope X.env=pure cl
 oc:(∀y∈scope.names,y.2≠.cell)\/∃z:Str,(∀n,Ep n scope.names []=[(z,n)])/\scope.names.lookup z=some .cell/\∀y∈scope.names,y.2=.cell->y.1=z
 kind:scope.kind=.function
 locs:∀y∈scope.names,y.2=.local->scope.names.lookup y.1=some .local
 own:t8 scope x
 sub:∀y c,cl.lookup y=some c->X.env.cells.lookup y=some c
 has_:(scope.names.all λy=>!(y.2 == Dx) || (cl.lookup y.1).isSome)=true
 nd:(x::ys).Nodup
 len:ys.length=js.length
 at_:∀(k:Nat) (y:Str) (j:Nat),ys[k]? = some y->js[k]? = some j->X.N[j]? = some y/\scope.names.lookup y=some .free/\(X.env.kindOf y=some .cell\/X.env.kindOf y=some .free)
theorem CompScope.has(C:CompScope X scope cl x ys js):∀y∈scope.names,y.2=.free->(cl.lookup y.1).isSome=true:=λy hy e=>by
 have h:=Dh.mp C.has_ y hy
 rw[e] at h
 simpa using h
theorem bG(clos:closureFor scope X.env=pure cl)(nocell:∀y∈scope.names,y.2≠.cell)(kind:scope.kind=.function)(locs:∀y∈scope.names,y.2=.local->scope.names.lookup y.1=some .local)(own:scope.names.lookup x=some .local)(sub:∀y c,cl.lookup y=some c->X.env.cells.lookup y=some c)(has_:(scope.names.all λy=>!(y.2 == Dx) || (cl.lookup y.1).isSome)=true)(nd:[x,y].Nodup)(hN:X.N[j]? = some y)(hfree:scope.names.lookup y=some .free)(hk:X.env.kindOf y=some .cell):CompScope X scope cl x [y] [j] :=
 ⟨clos,.inl nocell,kind,locs,.inl own,sub,has_,nd,rfl,λk z i e1 e2=>by
  cases k with
  | zero =>
   have h1:y=z:=by simpa using e1
   have h2:j=i:=by simpa using e2
   subst h1 h2
   exact ⟨hN,hfree,.inl hk⟩
  | succ k=>simp at e1⟩
theorem Rp{env:Env}{y:Str}{k:Pg}:∀{names:List (Str×Pg)},
  (names.map λ(n,k)=>if (k == Dx && env.scope.kind == .function && env.kindOf n == some .cell) then (n,Dy) else (n,k)).lookup y=some k ->
  ∃k0,names.lookup y=some k0/\(k=k0\/(k0=.free/\k=.cell))
 | [],h=>by simp at h
 | (n,k0)::r,h=>by
  have ih:=@Rp env y k r
  rw[Aw] at h
  by_cases hc:(k0 == Dx && env.scope.kind == .function && env.kindOf n == some .cell)=true
  ·have h':Lm y ((n,Dy)::(r.map λ(n,k)=>if (k == Dx && env.scope.kind == .function && env.kindOf n == some .cell) then (n,Dy) else (n,k)))=some k:=by
    simpa [hc] using h
   cases hy:y == n with
   | true =>
    rw[Cb,hy] at h'
    have e:k=Dy:=by simpa using h'.symm
    refine ⟨k0,by rw[Cb,hy],.inr ⟨?_,e⟩⟩
    rw[Dk,Dk] at hc
    exact Ds hc.1.1
   | false =>
    rw[Cb,hy] at h'
    obtain ⟨q,e1,e2⟩:=ih h'
    exact ⟨q,by rw[Cb,hy]; exact e1,e2⟩
  ·have h':Lm y ((n,k0)::(r.map λ(n,k)=>if (k == Dx && env.scope.kind == .function && env.kindOf n == some .cell) then (n,Dy) else (n,k)))=some k:=by
    simpa [hc] using h
   cases hy:y == n with
   | true =>
    rw[Cb,hy] at h'
    exact ⟨k0,by rw[Cb,hy],.inl (by simpa using h'.symm)⟩
   | false =>
    rw[Cb,hy] at h'
    obtain ⟨q,e1,e2⟩:=ih h'
    exact ⟨q,by rw[Cb,hy]; exact e1,e2⟩
theorem Vq{env:Env}{y:Str}:∀{names:List (Str×Pg)},names.lookup y=some .free ->
  (names.map λ(n,k)=>if (k == Dx && env.scope.kind == .function && env.kindOf n == some .cell) then (n,Dy) else (n,k)).lookup y=some .cell \/
  (names.map λ(n,k)=>if (k == Dx && env.scope.kind == .function && env.kindOf n == some .cell) then (n,Dy) else (n,k)).lookup y=some .free
 | [],h=>by simp at h
 | (n,k0)::r,h=>by
  have ih:=@Vq env y r
  show Lm y ((if (k0 == Dx && env.scope.kind == .function && env.kindOf n == some .cell)=true then (n,Dy) else (n,k0))::_)=_\/Lm y ((if (k0 == Dx && env.scope.kind == .function && env.kindOf n == some .cell)=true then (n,Dy) else (n,k0))::_)=_
  by_cases hc:(k0 == Dx && env.scope.kind == .function && env.kindOf n == some .cell)=true
  ·rw[if_pos hc]
   cases hy:y == n with
   | true=>exact .inl (by rw[Cb,hy])
   | false =>
    rw[Cb,hy] at h
    simp only[Cb,hy]
    exact ih h
  ·rw[if_neg hc]
   cases hy:y == n with
   | true =>
    rw[Cb,hy] at h
    exact .inr (by rw[Cb,hy]; exact h)
   | false =>
    rw[Cb,hy] at h
    simp only[Cb,hy]
    exact ih h
theorem Dv{α β:Type}[BEq α][LawfulBEq α]{y:α}{k:β}:∀{l:List (α×β)},l.lookup y=some k->(y,k)∈l
 | [],h=>by simp at h
 | (n,v)::r,h=>by
  cases hy:y == n with
  | true =>
   rw[Cb,hy] at h
   have e:=Ds hy
   subst e
   have : v=k:=by simpa using h
   subst this
   exact Ab
  | false =>
   rw[Cb,hy] at h
   exact Ae _ (Dv h)
end
theorem iP(h:c<a)(e:c=a+1):False:=by omega
theorem Io:∀(names:List (Str×Pg)) (n:Nat) (acc:List (Str×Addr)),Ep n names acc=Ep n names []++acc
 | [],_,_=>rfl
 | (x,k)::r,n,acc=>by
  unfold Ep
  by_cases h:(k == Dy)=true
  ·rw[if_pos h,if_pos h,Io r _ ((x,n)::acc),Io r _ [(x,n)],Bw]; rfl
  ·rw[if_neg h,if_neg h]; exact Io r n acc
theorem Oa:∀(names:List (Str×Pg)) (n:Nat) (acc:List (Str×Addr)),(∀y∈names,y.2≠.cell)->Ep n names acc=acc
 | [],_,_,_=>rfl
 | (x,k)::r,n,acc,h=>by
  unfold Ep
  rw[if_neg (by have:=h (x,k) Ab; simpa using this)]
  exact Oa r n acc λy hy=>h y (Ae _ hy)
theorem Wh{env:Env}{y:Str}:∀{names:List (Str×Pg)},names.lookup y=some .cell->(names.map λ(n,k)=>if (k == Dx && env.scope.kind == .function && env.kindOf n == some .cell) then (n,Dy) else (n,k)).lookup y=some .cell
 | [],h=>by simp at h
 | (n,k0)::r,h=>by
  have ih:=@Wh env y r
  show Lm y ((if (k0 == Dx && env.scope.kind == .function && env.kindOf n == some .cell)=true then (n,Dy) else (n,k0))::_)=_
  by_cases hc:(k0 == Dx && env.scope.kind == .function && env.kindOf n == some .cell)=true
  ·rw[if_pos hc]
   cases hy:y == n with
   | true=>rw[Cb,hy]
   | false=>rw[Cb,hy] at h ⊢; exact ih h
  ·rw[if_neg hc]
   cases hy:y == n with
   | true=>rw[Cb,hy] at h ⊢; exact h
   | false=>rw[Cb,hy] at h ⊢; exact ih h
theorem Zf(o:t8 scope x):Loc (relabel scope env) x:=o.imp lookup_relabel_local Wh
section
variable{X:Cx}{scope:Scope}{cl:List (Str×Addr)}{x y:Str}{ys:List Str}{js:List Nat}{n c:Nat}{N:List Str}{fp:List Addr}{s:Aj}{H:Hp}
theorem gY(o:t8 scope x):(Ek X scope cl N fp s H).fn x=true\/(Ek X scope cl N fp s H).env.scope.names.lookup x=some .local:=by
 rcases o with o | o
 ·exact .inr (lookup_relabel_local o)
 ·exact .inl (decide_eq_true o)
theorem CompScope.split(C:CompScope X scope cl x ys js)(h:(Ep n scope.names cl).lookup y=some c):cl.lookup y=some c\/(c=n/\Ep 0 scope.names []=[(y,0)]/\Ep n scope.names []=[(y,n)]/\scope.names.lookup y=some .cell):=by
 rcases C.oc with o | ⟨z,o1,o2,_⟩
 ·rw[Oa _ _ _ o] at h; exact .inl h
 ·rw[Io,o1] at h
  have h2:Lm y ((z,n)::cl)=some c:=h
  rw[Cb] at h2
  cases e:y == z with
  | true =>
   rw[e] at h2
   have ec:c=n:=(Bp h2).symm
   have ey:=Ds e
   subst ey
   exact .inr ⟨ec,o1 0,o1 n,o2⟩
  | false=>rw[e] at h2; exact .inl h2
theorem CompScope.find(C:CompScope X scope cl x ys js)(h:cl.lookup y=some c)(hy:scope.names.lookup y=some .free):(Ep n scope.names cl).lookup y=some c:=by
 rcases C.oc with o | ⟨z,o1,o2,_⟩
 ·rw[Oa _ _ _ o]; exact h
 ·rw[Io,o1]
  show Lm y ((z,n)::cl)=some c
  rw[Cb]
  cases e:y == z with
  | true=>rw[Ds e,o2] at hy; cases hy
  | false=>exact h
theorem CompScope.cellAt(C:CompScope X scope cl x ys js)(hy:(y,Dy)∈scope.names):(Ep n scope.names cl).lookup y=some n:=by
 rcases C.oc with o | ⟨z,o1,o2,o3⟩
 ·exact absurd rfl (o _ hy)
 ·have ez:y=z:=o3 _ hy rfl
  subst ez
  rw[Io,o1]
  show Lm y ((y,n)::cl)=some n
  rw[Cb,beq_self_eq_true]
theorem Xh(C:CompScope X scope cl x ys js)(hQ:∀h4,h4.Ns s.heap.objs.size (λ_=>none)->(∀b u,s.heap.get? b=some u->h4.get? b=some u)->(∀z n,Ep (s.heap.objs.size+1) scope.names []=[(z,n)]->h4.IsCell n none)->Q (newEnv scope s.heap.objs.size X.env.globals (Ep (s.heap.objs.size+1) scope.names cl) X.env.qual none .none (some X.env) Vd) { s with heap:=h4,toks:=s.toks+([]:List (Str×Value)).length }):wpAny M A (Rf scope X.env.globals cl [] X.env.qual none .none (some X.env)) Q E s:=by
 simp only[Rf,Option.isSome_some,if_true]
 refine Aa (wpAny_alloc (Aa (wpAny_layCells _ (λx k cs=>by cases e:k == Dy <;> simp [e]) _ _ _ _ ?_)))
 have hsz:({ s with heap:=s.heap.push { cls:=.type "dict",data:=.dict #[] } }:Aj).heap.objs.size=s.heap.objs.size+1:=Ij ..
 rw[hsz]
 refine Aa (Am (Am (hQ _ ((Heap.Ns.new s.heap (.type "dict")).keeps (pushCells_keeps _ _)) (λb u e=>pushCells_keeps _ _ b u (Ai _ e)) λz n e=>?_)))
 have ok:=(cellsFrom_ok scope.names (s.heap.push { cls:=.type "dict",data:=.dict #[] }) 0 [] ⟨λ_ _ hm=>(nomatch hm),Kq⟩ (Dg _)).empty z n
 rw[show (s.heap.push { cls:=.type "dict",data:=.dict #[] }).objs.size=s.heap.objs.size+1 from hsz,e] at ok
 exact (ok (Af.mpr rfl)).1
end
section
variable{X:Cx}{pins:List (Addr×Obj)}{σ:L2.St}{H:Hp}{s:Aj}{scope:Scope}{cl:List (Str×Addr)}{fp:List Addr}{N:List Str}
theorem K2(C:CompScope X scope cl x ys js)(I:Inv X pins σ H s)(hf:∀b∈fp,Mu X pins H b)(ho:∀b∈fp,∃o,s.heap.get? b=some o):(Ek X scope cl N fp s H).Ok where
 mod:=I.ok.mod
 kind:=C.kind
 glob:=I.ok.glob
 blt:=I.ok.blt
 above:=Ak _
 inj:=λy z c h1 h2=>by
  have lt:∀y,cl.lookup y=some c->c<s.heap.objs.size:=λy e=>let ⟨_,q⟩:=I.cell y c (C.sub y c e); q.lt
  rcases C.split h1 with h1 | ⟨e1,a1,_⟩
  ·rcases C.split h2 with h2 | ⟨e2,_⟩
   ·exact I.ok.inj y z c (C.sub y c h1) (C.sub z c h2)
   ·exact (iP (lt y h1) e2).elim
  ·rcases C.split h2 with h2 | ⟨e2,a2,_⟩
   ·exact (iP (lt z h2) e1).elim
   ·rw[a1] at a2
    simpa using a2
 has:=λy hy=>by
  have key:∀k,(k=Dy\/k=Dx)->(compEnvC scope cl s.heap.objs.size X.env).kindOf y=some k->∃c,(Ep (s.heap.objs.size+1) scope.names cl).lookup y=some c:=by
   intro k hk e
   obtain ⟨k0,e0,e1⟩:=Rp (names:=scope.names) (env:=X.env) (y:=y) (k:=k) e
   have m:=Dv e0
   by_cases hk0:k0=.cell
   ·exact ⟨_,C.cellAt (hk0▸m)⟩
   have hfree:k0=.free:=by
    rcases e1 with e1 | e1
    ·subst e1
     rcases hk with hk | hk
     ·exact absurd hk hk0
     ·exact hk
    ·exact e1.1
   obtain ⟨c,hc⟩:=Qi.mp (C.has _ m hfree)
   exact ⟨c,C.find hc (hfree▸e0)⟩
  rcases hy with hy | hy
  ·exact key _ (.inl rfl) hy
  ·exact key _ (.inr rfl) hy
 cab:=λy c h e=>by
  have h:scope.names.lookup y=some .cell:=of_decide_eq_true h
  have:=(C.cellAt (n:=s.heap.objs.size+1) (Dv h)).symm.trans e
  show s.heap.objs.size<=c
  have:=Bp this
  omega
 hd:=I.ok.hd
 frames:=I.ok.frames
 stk:=.inl rfl
 exf:=λb hb=>by
  obtain ⟨o,e⟩:=ho b hb
  refine ⟨Cd (Bg e),λy c hc=>?_⟩
  rcases C.split hc with hc | ⟨hc,_⟩
  ·exact (hf b hb).2.2.2.2.1 y c (C.sub y c hc)
  ·exact λz=>iP (Bg e) (z.symm.trans hc)
 bs:=I.bs
 bsz:=Bz I.ok.bsz I.sz
 noex:=λb o e hb=>by
  rcases (hf b hb).2.2.2.1 with z | z
  ·exact I.ok.noex b o e z
  ·exact absurd (Cc (Bg (I.ok.bs b o e).1) z) (Fk _)
 exfs:=λb hb z=>by
  rcases Ah.mp (I.stkSub b z) with e | e
  ·exact (hf b hb).2.1 e
  ·exact (hf b hb).2.2.1 e
 funs:=I.stack
 frf:=I.stkFree
 tab:=I.ok.tab.un I.base
def Gn(σ:L2.St)(js:List Nat):L2.St:=js.map λj=>(σ[j]?).join
theorem Uk(C:CompScope X scope cl x ys js)(I:Inv X pins σ H s)(hf:∀b∈fp,Mu X pins H b)(ho:∀b∈fp,∃o,s.heap.get? b=some o)(hns:h1.Ns s.heap.objs.size m1)(keep:∀b u,s.heap.get? b=some u->h1.get? b=some u)(new:∀z n,Ep (s.heap.objs.size+1) scope.names []=[(z,n)]->h1.IsCell n none):Inv (Ek X scope cl (pre++ys) fp s H) [] (pre.map (λ_=>none)++Gn σ js) H { s with heap:=h1,toks:=tk }:=by
 have cellK:∀y c,cl.lookup y=some c->∃v,s.heap.IsCell c v/\h1.IsCell c v:=λy c e=>by
  obtain ⟨v,o,q,d⟩:=I.cell y c (C.sub y c e)
  exact ⟨v,⟨o,q,d⟩,o,keep c o q,d⟩
 refine ⟨K2 C I hf ho,rfl,I.bare,Un.kept keep,⟨m1,hns,λi y v e1 e2 _=>?_⟩,λy c e=>?_,I.hok.fresh (Ak _),λy c e=>?_,λp hp=>?_,I.hok.kept keep,?_⟩
 ·have e2:(pre.map (λ_=>(none:Option V))++Gn σ js)[i]? = some (some v):=e2
  have e1:(pre++ys)[i]? = some y:=e1
  by_cases hi:i<pre.length
  ·rw[Kn (by rw[Ad]; exact hi),Be] at e2
   cases q:pre[i]? with
   | none=>rw[q] at e2; cases e2
   | some z=>rw[q] at e2; cases e2
  ·rw[Fl (by rw[Ad]; omega),Ad] at e2
   rw[Fl (by omega)] at e1
   have e1':=e1
   have e2':=e2
   generalize i - pre.length=k at e1' e2'
   unfold Gn at e2'
   rw[Be] at e2'
   cases ej:js[k]? with
   | none=>rw[ej] at e2'; simp at e2'
   | some j =>
    rw[ej] at e2'
    have e3:(σ[j]?).join=some v:=by simpa using e2'
    have e4:σ[j]? = some (some v):=by
     cases q:σ[j]? with
     | none=>rw[q] at e3; simp at e3
     | some z=>rw[q] at e3; simp at e3; rw[e3]
    obtain ⟨a1,a2,a3⟩:=C.at_ k y j e1' ej
    obtain ⟨m0,_,hl⟩:=I.loc
    have vis:FE X.env.scope y:=a3.elim (λa3=>.inr (.inl a3)) λa3=>.inr (.inr a3)
    obtain ⟨u,r,l⟩:=hl j y v a1 e4 vis
    refine ⟨u,r,?_⟩
    rcases l with ⟨k1,_⟩ | ⟨_,c,hc,hv⟩
    ·rcases a3 with a3 | a3 <;> rw[k1] at a3 <;> cases a3
    ·obtain ⟨c',hc'⟩:=Qi.mp (C.has _ (Dv a2) rfl)
     have ec:c'=c:=by
      have:=C.sub y c' hc'
      rw[hc] at this
      exact (Bp this).symm
     subst ec
     obtain ⟨o,q,d⟩:=hv
     exact .inr ⟨Vq a2,c',C.find hc' a2,o,keep c' o q,d⟩
 ·rcases C.split e with e | ⟨e,_,e',_⟩
  ·obtain ⟨v,_,z⟩:=cellK y c e
   exact ⟨v,z⟩
  ·exact ⟨_,e▸new _ _ e'⟩
 ·rcases C.split e with e | ⟨e,_⟩
  ·exact I.freeC y c (C.sub y c e)
  ·exact I.hok.fresh (by omega)
 ·cases (show p∈([]:List (Addr×Obj)) from hp)
 ·show (pre.map (λ_=>(none:Option V))++Gn σ js).length=(pre++ys).length
  simp [Gn,C.len]
end
section
variable{X:Cx}
def N6(J:It)(js:List Nat)(tc:TT)(te:TE)(σ:L2.St)(H1:Hp)(Q:VK):Prop:=∀D,H1 D=none->∃W:Nat->Nat->Hp->Prop,(∃m,W 0 m (upd H1 D (.lst [])))/\∀i m H,W i m H ->
 (J.stop i H/\Q (.ref D) H)\/(J.go i H/\∀x H',J.yld i H x H'->∃(N1:Hp->Prop) (N2:VK),(∀H2,N1 H2->∃m',m'<m/\W (i+1) m' H2) /\
  (∀y H3,N2 y H3->∃acc,H3 D=some (.lst acc)/\acc.length<Au/\∃m',m'<m/\W (i+1) m' (upd H3 D (.lst (acc++[y])))) /\
  tc (some x::Gn σ js) H' λc H2=>if c=true then te (some x::Gn σ js) H2 N2 else N1 H2)
def kO(wi:TI)(js:List Nat)(tc:TT)(te:TE):TE:=λσ H Q=>wi σ H λJ H1=>N6 J js tc te σ H1 Q
def Zl:TT:=λ_ H Q=>Q true H
theorem yR{te:TE}{N1:Hp->Prop}(h:te σ' H N2):Zl σ H λc H2=>if c=true then te σ' H2 N2 else N1 H2:=by
 show if true=true then te σ' H N2 else N1 H
 exact pC h
def oQ(X:Cx)(ifs:List Expr)(t:TT):Prop :=
 ∀(pins:List (Addr×Obj)) (s:Aj) (σ:L2.St) (H:Hp) (Q:Bool->Hp->Prop),Inv X pins σ H s->t σ H Q ->
  wpAny (model X.prog X.w) X.A (forIn ifs true λc r=>if r=true then (do
   let ok <- isTrue c X.env (eval c X.env)
   pure (Fi ok)) else pure (Fi r)) (TP X pins σ Q) X.xe s
theorem cH:oQ X [] Zl:=λpins s σ H Q I h=>wpAny_tests_nil ⟨H,I,h⟩
theorem A6(h:PT X c t):oQ X [c] t:=λpins s σ H Q I q=>wpAny_tests_one (h pins s σ H Q I q)
theorem bS{X X':Cx}{pins:List (Addr×Obj)}{σ σ':L2.St}(hX':Ek X scope cl N fp s3 H3=X')(I3:Inv X pins σ H3 s3)(f3:∀b∈fp,Mu X pins H3 b)(I7:Inv X' [] σ' H6 s7):∃m7,s7.heap.Ns s3.heap.objs.size m7/\∀h8,Dm s3.heap.objs.size s7.heap h8->Inv X pins σ H6 { s7 with heap:=h8 }:=by
 have eP:X'.prog=X.prog:=by rw[<- hX']; rfl
 have eW:X'.w=X.w:=by rw[<- hX']; rfl
 obtain ⟨m7,hn7,_⟩:=I7.loc
 have hn7':s7.heap.Ns s3.heap.objs.size m7:=by rw[<- hX'] at hn7; exact hn7
 refine ⟨m7,hn7',λh8 hs8=>?_⟩
 have I7f:H6 s3.heap.objs.size=none:=by have:=I7.free; rw[<- hX'] at this; exact this
 have b7:Un (tO X.stack) fp H3 H6 s3.heap s7.heap:=by have:=I7.base; rw[<- hX'] at this; exact this
 have ne8:∀b o,s3.heap.get? b=some o->b≠s3.heap.objs.size:=λb o q=>Cd (Bg q)
 have u8:Un (tO X.stack) fp H3 H6 s3.heap h8:=by
  refine ⟨λb o q n hb hx=>(hs8.2 b (ne8 b o q)).trans (b7.keep b o q n hb hx),λb o q n hb hx=>?_,b7.free,λb o q hx=>?_,b7.tups,b7.frzs,b7.tbls⟩
  ·obtain ⟨sl,z⟩:=b7.slot b o q n hb hx
   exact ⟨sl,(hs8.2 b (ne8 b o q)).trans z⟩
  ·obtain ⟨o',z⟩:=b7.there b o q hx
   exact ⟨o',(hs8.2 b (ne8 b o q)).trans z⟩
 have hok8:Wo X.prog X.w H6 h8:=λb ob e=>by
  have hk7:=I7.hok
  rw[eP,eW] at hk7
  refine (hk7 b ob e).stay (λc w' hcc q=>(hs8.2 c ?_).trans q) (λ_ q=>q) λ_ _ q=>q
  rintro rfl
  rcases hcc with rfl | hcc
  ·rw[I7f] at e; cases e
  ·rw[I7f] at hcc; cases hcc
 have os7:s7.os=s3.os:=by have:=I7.os; rw[<- hX'] at this; exact this
 exact I3.call' (s':={ s7 with heap:=h8 }) (ch:=fp) os7 u8 hok8 I7.bare (λb hb=>⟨(f3 b hb).2.2.2.1,(f3 b hb).2.1,(f3 b hb).2.2.2.2.1,(f3 b hb).2.2.2.2.2⟩)
theorem Xf{X X':Cx}{σ':L2.St}{H3 H6:Hp}(hX':Ek X scope cl N fp s3 H3=X')(I4:Inv X' [] σ' H6 s7)(hn:∀b∈fp,H' b=none):∀b∈fp,Mu X' [] H' b:=λb hb=>by
 have ok:=I4.ok
 have hex:b∈X'.ex:=by rw[<- hX']; exact hb
 exact ⟨hn b hb,(ok.exf b hex).1,ok.exfs b hex,.inl hex,(ok.exf b hex).2,λp hp=>by rw[<- hX'] at hp; cases (show p∈([]:List (Addr×Obj)) from hp)⟩
theorem aM(hc:X.calm=true)(hX':Ek X scope cl N fp s3 H3=X'):X'.prog=X.prog/\X'.w=X.w/\X'.K=X.K/\X'.A=X.A/\X'.calm=true:=by
 subst hX'
 exact ⟨rfl,rfl,rfl,rfl,hc⟩
theorem tX{X X':Cx}{pins:List (Addr×Obj)}{σ σ':L2.St}(hX':Ek X scope cl N fp s3 H3=X')(I3:Inv X pins σ H3 s3)(f3:∀b∈fp,Mu X pins H3 b)(I7:Inv X' [] σ' H6 s7):(∃m7,s7.heap.Ns s3.heap.objs.size m7)/\H6 s3.heap.objs.size=none/\Inv X pins σ H6 s7:=by
 subst hX'
 obtain ⟨m7,hn7,_⟩:=I7.loc
 exact ⟨⟨m7,hn7⟩,I7.free,I3.call' (s':=s7) (ch:=fp) I7.os I7.base I7.hok I7.bare (λb hb=>⟨(f3 b hb).2.2.2.1,(f3 b hb).2.1,(f3 b hb).2.2.2.2.1,(f3 b hb).2.2.2.2.2⟩)⟩
theorem Zx{X:Cx}{pins:List (Addr×Obj)}{σ:L2.St}{H2:Hp}{s2:Aj}{tg:Expr}(I2:Inv X pins σ H2 s2)(T:Turn X.prog X.w X.K tg J fp it tn)(st2:tn 0 s2.heap)(f2:∀b∈fp,Mu X pins H2 b)(I3:Inv X pins σ (upd H2 s2.heap.objs.size ho) { s2 with heap:=s2.heap.push ob }):(∀b∈fp,Mu X pins (upd H2 s2.heap.objs.size ho) b)/\tn 0 (s2.heap.push ob)/\∀b∈fp,∃o,(s2.heap.push ob).get? b=some o:=by
 have st3:tn 0 (s2.heap.push ob):=T.keep 0 _ _ st2 λb hb o q=>Ai _ q
 refine ⟨λb hb=>⟨?_,(f2 b hb).2⟩,st3,λb hb=>?_⟩
 ·rw[Cy ?_]
  ·exact (f2 b hb).1
  ·intro z
   obtain ⟨o,q,_⟩:=T.obj _ _ st2 b hb
   have:=Bg q
   rw[z] at this
   exact absurd this (Fk _)
 ·obtain ⟨o,q,_⟩:=T.obj _ _ st3 b hb
  exact ⟨o,q⟩
theorem Vg(C:CompScope X scope cl x ys js)(hc:X.calm=true)(hi:PI X (.Name x px) iter wi)(ht:∀fp s H,oQ (Ek X scope cl (x::ys) fp s H) ifs tc)(he:∀fp s H,PE (Ek X scope cl (x::ys) fp s H) elt te)(hs:∀x,Ee iter X.env x=pure x:=by intro _; rfl):PE X (.ListComp elt [⟨.Name x px,iter,ifs,0⟩] scope pos) (kO wi js tc te):=by
 intro pins s σ H Q I h
 rw[eval_ListComp]
 refine Tj (use:=none) rfl hs C.clos C.kind C.locs (Gk (hi pins s σ H _ I h) λv s1 h1=>Gk h1 λitv s2 h2=>?_)
 obtain ⟨it,fp,tn,J,H2,e,I2,T,st2,f2,q2⟩:=h2
 subst e
 have fD:H2 s2.heap.objs.size=none:=I2.hok.fresh (Ak _)
 obtain ⟨W,⟨m0,w0⟩,turn⟩:=q2 s2.heap.objs.size fD
 refine Du ?_
 have I3:Inv X pins σ (upd H2 s2.heap.objs.size (.lst [])) { s2 with heap:=s2.heap.push { cls:=.type "list",dict:=none,data:=.seq ([]:List Value).toArray } } :=
  I2.laid (t':=s2.toks) (λb u q=>Ai _ q) (Ak _) ⟨Dg _,[],0,.nil,Bf _ rfl⟩
 obtain ⟨f3,st3',o3'⟩:=Zx I2 T st2 f2 I3
 generalize hS3:({ s2 with heap:=s2.heap.push { cls:=.type "list",dict:=none,data:=.seq ([]:List Value).toArray } }:Aj)=s3 at I3
 have st3:tn 0 s3.heap:=by rw[<- hS3]; exact st3'
 have o3:∀b∈fp,∃o,s3.heap.get? b=some o:=by rw[<- hS3]; exact o3'
 show wpAny _ _ (Rf scope X.env.globals cl [] X.env.qual none .none (some X.env)) _ _ _
 refine Xh C λh4 hns4 keep4 new4=>?_
 have I4:∀tk,Inv (Ek X scope cl (x::ys) fp s3 (upd H2 s2.heap.objs.size (.lst []))) [] (none::Gn σ js) (upd H2 s2.heap.objs.size (.lst [])) { s3 with heap:=h4,toks:=tk }:=λtk=>Uk (pre:=[x]) C I3 f3 o3 hns4 keep4 new4
 have st4:tn 0 h4:=T.keep 0 _ _ st3 λb hb o q=>keep4 b o q
 generalize hX':Ek X scope cl (x::ys) fp s3 (upd H2 s2.heap.objs.size (.lst []))=X' at I4
 obtain ⟨eP,eW,eK,eA,eC⟩:=aM hc hX'
 have stat:∀{H':Hp},(∀b∈fp,H' b=none)->∀b∈fp,Mu X' [] H' b:=λ{H'} hn=>Xf hX' (I4 0) hn
 have loop:∀s5:Aj,s5={ s3 with heap:=h4,toks:=s3.toks+([]:List (Str×Value)).length } ->
   Oo (model X.prog X.w) X.A (.compLoop (.ListComp elt [⟨.Name x px,iter,ifs,0⟩] scope pos) 0 (.ref it) (.ref s2.heap.objs.size) (compEnvC scope (Ep (s3.heap.objs.size+1) scope.names cl) s3.heap.objs.size X.env))
    (compPost (model X.prog X.w) X.A X.xe none (EP X pins σ Q) (.ref s2.heap.objs.size) s3.heap.objs.size) s5:=by
  rintro s5 rfl
  refine Uu (λn s'=>∃i o H',Inv X' [] (o::Gn σ js) H' s'/\tn i s'.heap/\(∀b∈fp,H' b=none)/\W i n H') ?_ m0
   ⟨0,none,_,I4 _,st4,λb hb=>(f3 b hb).1,w0⟩
  (intro n s6 q_; obtain ⟨i,o,H6,I6,st6,fr6,w6⟩ := q_)
  rcases turn i n H6 w6 with ⟨stop,qn⟩ | ⟨go,step⟩
  ·have hd:=T.done X' eP eW eK eC i [] s6 _ H6 (λ_ _=>False) I6 (stat fr6) st6 stop
   rw[eA] at hd
   refine Gk hd λr s7 q0_ => ?_
   obtain ⟨hr,I7⟩ := q0_
   subst hr
   obtain ⟨m7,hn7,fin7⟩:=bS hX' I3 f3 I7
   exact ⟨m7,hn7,λh8 hs8=>⟨.ref s2.heap.objs.size,H6,fin7 h8 hs8,rfl,qn⟩⟩
  ·have hit:=T.item X' eP eW eK eC i [] s6 _ H6 (λ_ _=>False) I6 (stat fr6) st6 go
   rw[eA] at hit
   refine Gk hit λr s7 q0_ => ?_
   obtain ⟨u,hr,h7⟩ := q0_
   subst hr
   refine Gk h7 λ_ s8 q0_ => ?_
   obtain ⟨y,H8,I8,r8,y8,st8,fr8⟩ := q0_
   have I8':=I8.pinned (stat fr8) (T.obj _ _ st8)
   obtain ⟨N1,N2,hN1,hN2,hst⟩:=step y H8 y8
   have again:∀{H9:Hp} {s9:Aj} {m':Nat},Inv X' ([]++Us fp s8.heap) (some y::Gn σ js) H9 s9->m'<n->W (i+1) m' H9->∃m,m<n/\∃i o H',Inv X' [] (o::Gn σ js) H' s9/\tn i s9.heap/\(∀b∈fp,H' b=none)/\W i m H':=λ{H9 s9 m'} I9 hm w9=>by
    refine ⟨m',hm,i+1,some y,H9,I9.unpinned,T.keep _ _ _ st8 λb hb o e=>(I9.pin (b,o) (Al _ (Al _ (Jk hb e)))).1,λb hb=>?_,w9⟩
    obtain ⟨o,e,_⟩:=T.obj _ _ st8 b hb
    exact (I9.pin (b,o) (Al _ (Al _ (Jk hb e)))).2.1
   subst hX'
   refine Gk (Ow (i:=0) (x:=x) (pos:=px) C.nd rfl (Zf C.own) (gY C.own) _ s8 _ H8 y u (λσ' H'=>σ'=some y::Gn σ js/\H'=H8) I8' r8 ⟨rfl,rfl⟩) λ_ s9 q0_ => ?_
   obtain ⟨σ9,H9,I9,e9,e9'⟩ := q0_
   subst e9 e9'
   refine Gk (ht fp s3 _ _ s9 _ _ _ I9 hst) λok s10 q0_ => ?_
   obtain ⟨H10,I10,q10⟩ := q0_
   cases ok with
   | false =>
    rw[if_neg Bt] at q10 ⊢
    obtain ⟨m',hm,w10⟩:=hN1 _ q10
    exact again I10 hm w10
   | true =>
    rw[if_pos rfl] at q10 ⊢
    refine Gk (he fp s3 _ _ s10 _ _ _ I10 q10) λz s11 q0_ => ?_
    obtain ⟨vz,H11,I11,r11,q11⟩ := q0_
    obtain ⟨acc,ha,hz,m',hm,w11⟩:=hN2 _ _ q11
    refine Gk (Qb _ s11 _ H11 (.ref s2.heap.objs.size) [vz] (.ref s2.heap.objs.size) [z] (λ_ H'=>H'=upd H11 s2.heap.objs.size (.lst (acc++[vz]))) I11 rfl (.cons r11 .nil) ⟨_,acc,vz,rfl,rfl,ha,hz,rfl⟩) λ_ s12 q0_ => ?_
    obtain ⟨_,H12,I12,_,e12⟩ := q0_
    subst e12
    exact again I12 hm w11
 exact Vc (loop _ rfl) (T.self X.A 0 _ _ _ st4 (loop _ rfl))
end
structure Walked(J:It)(G:Hp->Prop)(xs:List V):Prop where
 go:∀i H,i<xs.length->G H->J.go i H
 yld:∀i H x H',i<xs.length->G H->J.yld i H x H'->H'=H/\xs[i]? = some x
 stop:∀H,G H->J.stop xs.length H
theorem Yi{K:PySem.W.Frag}:Walked (FJ K a) (λH=>Mc K H a xs) xs where
 go:=λi H h q=>⟨xs,xs[i],q,by simp [h]⟩
 yld:=λi H x H' _ q y=>⟨y.1,y.2 xs q⟩
 stop:=λH q=>⟨xs,q,Ak _⟩
theorem qU(wk:Walked J G xs)(hz:xs.length<=Au)(Pv:Addr->Nat->List V->Hp->Prop)
  (h0:∀D,H1 D=none->Pv D 0 [] (upd H1 D (.lst []))) (hg:∀D i acc H,Pv D i acc H->G H)
  (hs:∀D i x acc H,H1 D=none->xs[i]? = some x->H D=some (.lst acc)->Pv D i acc H->tc (some x::Gn σ js) H λc H2=>if c=true then te (some x::Gn σ js) H2 λy H3=>H3 D=some (.lst acc)/\Pv D (i+1) (acc++[y]) (upd H3 D (.lst (acc++[y])))
   else H2 D=some (.lst acc)/\Pv D (i+1) acc H2)
  (hd:∀D acc H,H1 D=none->H D=some (.lst acc)->Pv D xs.length acc H->Q (.ref D) H):N6 J js tc te σ H1 Q:=by
 intro D nD
 refine ⟨λi m H=>m=xs.length - i/\i<=xs.length/\∃acc,H D=some (.lst acc)/\acc.length<=i/\Pv D i acc H,⟨xs.length,by simp,Dg _,[],Cp,Ak _,h0 D nD⟩,?_⟩
 (intro i m H q_; obtain ⟨rfl,hi,acc,ha,hl,p⟩ := q_)
 have g:=hg D i acc H p
 by_cases hlt:i<xs.length
 ·refine .inr ⟨wk.go i H hlt g,λx H' y=>?_⟩
  obtain ⟨e,hx⟩:=wk.yld i H x H' hlt g y
  subst e
  refine ⟨λH2=>H2 D=some (.lst acc)/\Pv D (i+1) acc H2,λy H3=>H3 D=some (.lst acc)/\Pv D (i+1) (acc++[y]) (upd H3 D (.lst (acc++[y]))),λH2 q=>?_,λz H3 q=>?_,hs D i x acc _ nD hx ha p⟩
  ·exact ⟨xs.length - (i+1),by omega,rfl,hlt,acc,q.1,by omega,q.2⟩
  ·exact ⟨acc,q.1,by omega,xs.length - (i+1),by omega,rfl,hlt,acc++[z],Cp,by rw[Bn,Hd]; omega,q.2⟩
 ·have e:i=xs.length:=by omega
  subst e
  exact .inl ⟨wk.stop H g,hd D acc H nD ha p⟩
theorem Dl(h:H p=none)(o:HO):Ms H (upd H p o):=λb u q=>by rw[Cy (Dw q h)]; exact q
theorem Kt{α:Type}{xs:List α}{x:α}(h:xs[i]? = some x):xs.take (i+1)=xs.take i++[x]:=by
 rw[List.take_succ,h]; rfl
mutual
inductive RdV (K:PySem.W.Frag) (H:Hp):V->Ac->Prop
 | non:RdV K H .non .none
 | bl (b:Bool):RdV K H (.bl b) (.bool b)
 | int (i:Int):RdV K H (.int i) (.int i)
 | str (x:Str):RdV K H (.str x) (.str x)
 | lst {a:Addr} {xs:List V} {ds:List Ac}:Mc K H a xs->RdVs K H xs ds->RdV K H (.ref a) (.list ds)
 | tup {a:Addr} {xs:List V} {ds:List Ac}:Uh K H a xs->RdVs K H xs ds->RdV K H (.ref a) (.tuple ds)
inductive RdVs (K:PySem.W.Frag) (H:Hp):List V->List Ac->Prop
 | nil:RdVs K H [] []
 | cons {x:V} {d:Ac} {xs:List V} {ds:List Ac}:RdV K H x d->RdVs K H xs ds->RdVs K H (x::xs) (d::ds)
end
section
variable{X:Cx}{pins:List (Addr×Obj)}{σ:L2.St}{H H':Hp}{s:Aj}{K:PySem.W.Frag}
mutual
theorem RdV.reads(I:Inv X pins σ H s):∀{v:V} {d:Ac} {u:Value},RdV X.K H v d->RelV v u->∃as,Reads s.heap u d as
 | _,_,_,.non,r=>by cases r; exact ⟨_,.none⟩
 | _,_,_,.bl b,r=>by cases r; exact ⟨_,.bool b⟩
 | _,_,_,.int i,r=>by obtain ⟨t,rfl⟩:=r; exact ⟨_,.int i t⟩
 | _,_,_,.str x,r=>by obtain ⟨t,rfl⟩:=r; exact ⟨_,.str x t⟩
 | _,_,_,.lst h hs,r=>by
  cases r
  obtain ⟨its,rv,⟨o,n,e,hc,_,hd⟩,_⟩:=I.list h
  obtain ⟨as,ra⟩:=RdVs.reads I hs rv
  exact ⟨_,.list e hc hd (by simpa using ra)⟩
 | _,_,_,.tup h hs,r=>by
  cases r
  obtain ⟨its,rv,⟨o,e,hc,n,hd⟩,_⟩:=I.tuple h
  obtain ⟨as,ra⟩:=RdVs.reads I hs rv
  exact ⟨_,.tuple e hc hd (by simpa using ra)⟩
theorem RdVs.reads(I:Inv X pins σ H s):∀{vs:List V} {ds:List Ac} {us:List Value},RdVs X.K H vs ds->Fg vs us->∃as,ReadsAll s.heap us ds as
 | _,_,_,.nil,r=>by cases r; exact ⟨_,.nil⟩
 | _,_,_,.cons h hs,r=>by
  cases r with
  | cons r rs =>
   obtain ⟨as,ra⟩:=RdV.reads I h r
   obtain ⟨bs,rb⟩:=RdVs.reads I hs rs
   exact ⟨_,.cons ra rb⟩
end
mutual
theorem RdV.noDict:∀{v:V} {d:Ac},RdV K H v d->d.hasDict=false
 | _,_,.non=>by simp only[Ln]
 | _,_,.bl b=>by simp only[Ln]
 | _,_,.int i=>by simp only[Ln]
 | _,_,.str x=>by simp only[Ln]
 | _,_,.lst h hs=>by simp only[Ln]; exact RdVs.noDict hs
 | _,_,.tup h hs=>by simp only[Ln]; exact RdVs.noDict hs
theorem RdVs.noDict:∀{vs:List V} {ds:List Ac},RdVs K H vs ds->Xu ds=false
 | _,_,.nil=>by simp only[Xu]
 | _,_,.cons h hs=>by simp only[Xu,RdV.noDict h,RdVs.noDict hs,Bool.or_self]
end
end
mutual
def Nk(b:Nat):Ac->Prop
 | .none=>True
 | .bool _=>True
 | .int i=>i.natAbs<10 ^ b
 | .str x=>(reprText x).length<=b
 | .list xs=>Mf b xs
 | .tuple xs=>Mf b xs
 | .dict _=>False
def Mf(b:Nat):List Ac->Prop
 | []=>True
 | x::xs=>Nk b x/\Mf b xs
end
mutual
def Oe:Ac->Nat
 | .list xs=>Je xs+1
 | .tuple xs=>Je xs+1
 | _=>1
def Je:List Ac->Nat
 | []=>0
 | x::xs=>Oe x+Je xs
end
theorem Se:∀{xs:List Ac},Mf b xs↔∀x∈xs,Nk b x
 | []=>by simp [Mf]
 | x::xs=>by simp only[Mf,Ah,forall_eq_or_imp,Se (xs:=xs)]
theorem Rz:∀{xs:List Ac},(∀x∈xs,Oe x<=m)->Je xs<=m * xs.length
 | [],_=>by simp [Je]
 | x::xs,h=>by
  have h1:=h x (Ab ..)
  have h2:=Rz (xs:=xs) λy hy=>h y (Ae _ hy)
  simp only[Je,Br,Nat.mul_add,Nat.mul_one]
  omega
theorem oO(ns:List Int):Bo (ns.map Ag)=0:=by
 induction ns with
 | nil=>rfl
 | cons n ns ih=>simp only[Aw,Bo,Cm,ih,Nat.max_self]
theorem Yg:∀{xs:List Ac},(∀x∈xs,x.depth<=m)->Bo xs<=m
 | [],_=>by simp [Bo]
 | x::xs,h=>by
  have h1:=h x (Ab ..)
  have h2:=Yg (xs:=xs) λy hy=>h y (Ae _ hy)
  simp only[Bo]
  omega
theorem kQ(ts:List Str):(listText ts).length<=piled ts+2:=by
 cases ts with
 | nil=>rw[listText_nil]; decide
 | cons t r =>
  have h:=textFrom_length_pos r 1 (("[" : Str)++(if (0:Nat) > 0 then ", " else "" : String)++t) (Nat.succ_pos 0)
  have e:((("[" : Str)++(if (0:Nat) > 0 then ", " else "" : String)++t)).length=1+t.length:=by
   rw[Tn,Tn]; rfl
  have hX:(listText (t::r)).length=(textFrom 0 "[" (t::r)).length+1:=by
   show (textFrom 0 "[" (t::r) ++ "]").length=_
   rw[Tn]; rfl
  have hY:(textFrom 0 "[" (t::r)).length=(textFrom 1 (("[" : Str)++(if (0:Nat) > 0 then ", " else "" : String)++t) r).length:=rfl
  rw[hX,hY,h,e,piled_cons]; omega
theorem hV(ts:List Str):(tupleText ts).length<=piled ts+3:=by
 unfold tupleText
 rw[Tn,Tn]
 have e1:((("(" : String):Str)).length=1:=rfl
 have e3:(((if ts.length == 1 then ",)" else ")" : String):Str)).length<=2:=by split <;> decide
 rw[e1]
 by_cases h:ts=[]
 ·subst h
  have : (Str.join ", " []).length=0:=rfl
  omega
 ·have:=join_length_add ts h
  omega
mutual
theorem lF:∀{d:Ac},Nk b d->d.shown.length+4<=(b+12) * Oe d
 | .none,_=>by simp only[Og,Oe]; show 4+4<=_; omega
 | .bool c,_=>by
  simp only[Og,Oe]
  cases c
  ·show 5+4<=_; omega
  ·show 4+4<=_; omega
 | .int i,h=>by
  simp only[Og,Oe]
  have h':i.natAbs<10 ^ b:=by simpa only [Nk] using h
  have h2:i.natAbs<10 ^ (b+1):=Cc h' (Ve (by decide) (by omega))
  have h3:(Dr (Re i)).length<=b+2:=by
   have h4:=int_text_length_le10 (a:=i) (k:=b+1) (by omega) h2
   have h5:(Dr (Re i)).length=(Re i).length:=PySem.ofString_length _
   omega
  have h6:((Re i:String):Str).length=(Dr (Re i)).length:=rfl
  omega
 | .str x,h=>by
  simp only[Og,Oe]
  have h':(reprText x).length<=b:=by simpa only [Nk] using h
  omega
 | .list xs,h=>by
  simp only[Og,Oe]
  have h1:=Sa (b:=b) (xs:=xs) (by simpa only [Nk] using h)
  have h2:=kQ (Nl xs)
  rw[Nat.mul_add]
  omega
 | .tuple xs,h=>by
  simp only[Og,Oe]
  have h1:=Sa (b:=b) (xs:=xs) (by simpa only [Nk] using h)
  have h2:=hV (Nl xs)
  rw[Nat.mul_add]
  omega
 | .dict kvs,h=>by simp only[Nk] at h
theorem Sa:∀{xs:List Ac},Mf b xs->piled (Nl xs)<=(b+12) * Je xs
 | [],_=>by simp only[Nl,Je,piled_nil]; omega
 | x::xs,h=>by
  simp only[Mf] at h
  have h1:=lF h.1
  have h2:=Sa h.2
  simp only[Nl,Je,piled_cons]
  rw[Nat.mul_add]
  omega
end
theorem sU(hb:b<=400)(h:i<10 ^ b):i.log2<1920:=by
 have h1:i<2 ^ 1920:=Cc h (Bz (Ve (by decide) hb) (by decide +kernel))
 by_cases z:i=0
 ·subst z; decide
 ·exact (Nat.log2_lt z).mpr h1
mutual
theorem Yb(hb:b<=400):∀{d:Ac},Nk b d->d.showable=true
 | .none,_=>by simp only[Iq]
 | .bool c,_=>by simp only[Iq]
 | .int i,h=>by
  simp only[Iq]
  exact decide_eq_true (sU hb (by simpa only [Nk] using h))
 | .str x,h=>by simp only[Iq]
 | .list xs,h=>by simp only[Iq]; exact showableAll_of hb (by simpa only [Nk] using h)
 | .tuple xs,h=>by simp only[Iq]; exact showableAll_of hb (by simpa only [Nk] using h)
 | .dict kvs,h=>by simp only[Nk] at h
theorem showableAll_of(hb:b<=400):∀{xs:List Ac},Mf b xs->Wm xs=true
 | [],_=>by simp only[Wm]
 | x::xs,h=>by
  simp only[Mf] at h
  simp only[Wm,Yb hb h.1,showableAll_of hb h.2,Bool.and_self]
end
def cB:Ac->Str
 | .str x=>x
 | d=>d.shown
structure Tells(K:PySem.W.Frag)(H:Hp)(x:V)(d:Ac):Prop where
 rd:RdV K H x d
 fits:∃b,b<=400/\Nk b d/\(b+12) * Oe d<=Au
 depth:d.depth<=90
def EA(K:PySem.W.Frag):List V->Hp->VK->Prop:=λxs H Q=>∃x d,xs=[x]/\Tells K H x d/\Q (.str (cB d)) H
theorem Xq(hg:X.A.guards=some [])(hu:X.A.units+100<cLine):Ld X (.type "str") (EA X.K):=by
 intro pins s σ H xs us Q I r h
 obtain ⟨x,d,rfl,⟨hr,⟨b,hb,hf,hz⟩,hd⟩,q⟩:=h
 obtain ⟨u,rfl,ru⟩:=vals1 r
 have hs:=Yb hb hf
 have hl:d.shown.length<=Au:=by have:=lF hf; omega
 have hnd:=hr.noDict
 obtain ⟨as,rs⟩:=hr.reads I ru
 cases hr with
 | non=>cases ru; exact PySem.P.str_of_none ⟨.str _,H,I.tok _,⟨_,rfl⟩,q⟩
 | bl c=>cases ru; exact PySem.P.str_of_bool ⟨.str _,H,I.tok _,⟨_,rfl⟩,by cases c <;> exact q⟩
 | int i =>
  obtain ⟨t,rfl⟩:=ru
  exact PySem.P.str_of_int (by simpa [Iq] using hs) ⟨.str _,H,I.tok _,⟨_,rfl⟩,q⟩
 | str y =>
  obtain ⟨t,rfl⟩:=ru
  exact PySem.P.str_of_str ⟨.str _,H,I,⟨_,rfl⟩,q⟩
 | lst h1 h2 =>
  cases ru
  exact str_of_reads rs hs (λz=>by rw[hnd] at z; cases z) hg (by omega) (λ_ _ e=>e) (λh' u tk hk=>⟨.str _,H,I.kept hk,⟨_,rfl⟩,q⟩) hl
 | tup h1 h2 =>
  cases ru
  exact str_of_reads rs hs (λz=>by rw[hnd] at z; cases z) hg (by omega) (λ_ _ e=>e) (λh' u tk hk=>⟨.str _,H,I.kept hk,⟨_,rfl⟩,q⟩) hl
theorem Fg.at'(r:Fg xs us)(h:j<us.length):∃x,xs[j]? = some x/\RelV x us[j]:=by
 have hl:=r.length
 have hj:j<xs.length:=by omega
 obtain ⟨u,hu,ru⟩:=r.get (i:=j) (x:=xs[j]) (by simp [hj])
 rw[Ba h] at hu
 cases hu
 exact ⟨xs[j],by simp [hj],ru⟩
section
variable{X:Cx}{pins:List (Addr×Obj)}{σ:L2.St}{H:Hp}{s:Aj}{A:Cs}
theorem Wy(A:Cs):A.in1.units<=A.units+1:=by
 first | exact Ak _ | (simp [Around.in1]; done) | (unfold Around.in1; simp)
theorem kU:Ld X (.builtin "isinstance") (λxs H Q=>∃x n t b,xs=[x,.ty n]/\TyOf X.K H x t/\PySem.W.kitOne X.K t (.type n)=some b/\Q (.bl b) H):=by
 intro pins s σ H xs us Q I r h
 obtain ⟨x,n,t,b,rfl,ty,e,q⟩:=h
 obtain ⟨u,v,rfl,ru,rv⟩:=vals2 r
 cases rv
 exact uN I ru ty e λtk=>⟨.bl b,H,I.tok _,rfl,q⟩
theorem cI(hc:X.calm=true):Ld X (.builtin "all") (λxs H Q=>∃(p:Addr) (bs:List Bool),xs=[.ref p]/\Mc X.K H p (bs.map V.bl)/\Q (.bl (bs.all id)) H):=by
 intro pins s σ H xs us Q I r h
 obtain ⟨p,bs,rfl,hp,q⟩:=h
 obtain ⟨u,rfl,ru⟩:=vals1 r
 cases ru
 obtain ⟨its,rv,pl,_⟩:=I.list hp
 have hlen:its.toArray.size=bs.length:=by
  have:=rv.length
  rw[Ad] at this
  rw[Aq]; omega
 refine call_all_walk (fQ pl.isList ?_)
 have hd:X.A.in1.handled=none:=I.ok.hd hc
 have ne:p≠s.heap.objs.size:=Cd (let ⟨o,q,_⟩:=pl.isList; Bg q)
 refine ⟨s.heap.objs.size,_,_,_,_,_,λi=>bs.getD i false,rfl,Walks.list hd s.heap.objs.size p ne its.toArray,⟨⟨_,Bf _ rfl,rfl,rfl⟩,pl.isList.push _⟩,?_,?_⟩
 ·intro i v s' Q' E' hv hq
  have hv':its[i]? = some v:=by simpa using hv
  have hi:i<its.length:=(Ap.mp hv').1
  obtain ⟨x,e1,q1⟩:=Fg.at' rv hi
  rw[Ba hi] at hv'
  have hv'':its[i]=v:=Bp hv'
  rw[hv''] at q1
  rw[Be] at e1
  cases eb:bs[i]? with
  | none=>rw[eb] at e1; cases e1
  | some b =>
   rw[eb] at e1
   cases e1
   cases q1
   have : bs.getD i false=b:=by simp [List.getD_eq_getElem?_getD,eb]
   have hq':Q' (bs.getD i false) s':=hq
   rw[this] at hq'
   exact Fq hq'
 ·intro h' tk hk
  have e:((Di its.toArray.size).all λi=>bs.getD i false)=bs.all id:=by
   rw[hlen]
   have : bs=(Di bs.length).map (λj=>bs.getD j false):=(range_getD bs false).symm
   conv=>rhs; rw[this]
   rw[Os]
   rfl
  rw[e]
  refine ⟨.bl _,H,I.kept (h':=h') (t':=tk) (λb o qq=>hk b o ?_ (Ai _ qq)),rfl,q⟩
  intro z
  have e2:b=s.heap.objs.size:=by simpa using z
  have e3:=Bg qq
  rw[e2] at e3
  exact absurd e3 (Fk _)
end
section
variable{prog:Bs}{w:World}{A:Cs}{E:Value->Aj->Prop}{s:Aj}
theorem Tw{lo hi:Option Int}(ht:IsTup s.heap t items)(hs:s.heap.IsSliceOf sl vl vu .none)(pl:Yr vl lo)(pu:Yr vu hi)(hw:HT.sIx items.size 0 lo=0/\HT.sIx items.size items.size hi=items.size)(h:Q (.ref t) s):wpAny (model prog w) A (Sh (.ref t) (.ref sl)) Q E s:=by
 obtain ⟨os,hos,hcs,hds⟩:=id hs
 have hTs:s.TypeIs (.ref sl) "slice" := ⟨os,hos,hcs⟩
 unfold Sh
 try with_reducible refine Dd ?_
 first | refine Aa (Am ?_) | skip
 refine Aa (fP ht.typeIs (by decide) ?_)
 refine Aa (Ed (name:=Dr "__getitem__") ht.typeIs Ej
  (Ew Ej ht.typeIs entry_tuple_getitem ?_ (args_tuple_getitem _ _)))
 show wpAny _ _ (Wr (.ref t) >>= _) _ _ s
 refine Aa (tupleItemsOf_ ht ?_)
 refine Aa (La hTs ?_)
 rw[if_pos (by decide)]
 refine Aa (HT.sliceApplied_gen hs pl pu ?_)
 rw[hw.1,hw.2]
 have hyes:(((0:Nat):Int) == 0 && (1:Int) == 1 && (items.size - 0) == items.size)=true:=by simp
 show wpAny _ _ (if (((0:Nat):Int) == 0 && (1:Int) == 1 && (items.size - 0) == items.size)=true then _ else _) _ _ s
 rw[if_pos hyes]
 have hex:∀{R:Bool->Aj->Prop},R true s->wpAny (model prog w) A.in1 (Wt (.ref t)) R E s:=λ{R} hR=>by
  unfold Wt
  refine Aa (La ht.typeIs (Am ?_))
  rw[beq_self_eq_true]
  exact hR
 refine Aa (hex ?_)
 rw[if_pos rfl]
 exact Aa (Kw (Am ⟨_,rfl,Am h⟩))
end
mutual
def Ec:Ac->Ac->Bool
 | .none,.none=>true
 | .bool a,.bool b=>a == b
 | .bool a,.int b=>(if a then 1 else 0) == b
 | .int a,.bool b=>a == (if b then 1 else 0)
 | .int a,.int b=>a == b
 | .str a,.str b=>a == b
 | .list xs,.list ys=>Om xs ys
 | .tuple xs,.tuple ys=>Om xs ys
 | _,_=>false
def Om:List Ac->List Ac->Bool
 | [],[]=>true
 | x::xs,y::ys=>Ec x y && Om xs ys
 | _,_=>false
end
theorem Nz:∀ds es:List Ac,(((Di (min ds.length es.length)).all λj=>Ec (ds.getD j .none) (es.getD j .none)) && ds.length == es.length)=Om ds es
 | [],[]=>by simp [Om]
 | [],_::_=>by simp [Om]
 | _::_,[]=>by simp [Om]
 | d::ds,e::es=>by
  have ih:=Nz ds es
  rw[Om,<- ih]
  have h1:min (d::ds).length (e::es).length=min ds.length es.length+1:=by simp only[Br]; omega
  rw[h1,List.range_succ_eq_map,Wq,Os]
  have h2:((d::ds).length == (e::es).length)=(ds.length == es.length):=by
   rw[Tr]; simp
  rw[h2,Bool.and_assoc]
  rfl
section
variable{X:Cx}{pins:List (Addr×Obj)}{σ:L2.St}{H:Hp}{s:Aj}{K:PySem.W.Frag}
mutual
theorem RdV.eqD_self:∀{v:V} {d:Ac},RdV K H v d->Ec d d=true
 | _,_,.non=>by simp [Ec]
 | _,_,.bl b=>by simp [Ec]
 | _,_,.int i=>by simp [Ec]
 | _,_,.str x=>by simp [Ec]
 | _,_,.lst _ h=>by rw[Ec]; exact RdVs.eqDs_self h
 | _,_,.tup _ h=>by rw[Ec]; exact RdVs.eqDs_self h
theorem RdVs.eqDs_self:∀{vs:List V} {ds:List Ac},RdVs K H vs ds->Om ds ds=true
 | _,_,.nil=>by simp [Om]
 | _,_,.cons h t=>by rw[Om,RdV.eqD_self h,RdVs.eqDs_self t]; rfl
end
theorem mC(I:Inv X pins σ H s)(h1:Mc X.K H a xs)(h2:Uh X.K H a ys):False:=by
 obtain ⟨us,_,p1,_⟩:=I.list h1
 obtain ⟨vs,_,p2,_⟩:=I.tuple h2
 exact SeqAt.ne_of_list_tuple p1.isList p2 rfl
mutual
theorem RdV.det(I:Inv X pins σ H s):∀{v:V} {d e:Ac},RdV X.K H v d->RdV X.K H v e->d=e
 | _,_,_,.non,h=>by cases h; rfl
 | _,_,_,.bl b,h=>by cases h; rfl
 | _,_,_,.int i,h=>by cases h; rfl
 | _,_,_,.str x,h=>by cases h; rfl
 | _,_,_,.lst q r,h=>by
  cases h with
  | lst q' r' =>
   have e:=I.list_inj q q'
   subst e
   rw[RdVs.det I r r']
  | tup q' r'=>exact (mC I q q').elim
 | _,_,_,.tup q r,h=>by
  cases h with
  | lst q' r'=>exact (mC I q' q).elim
  | tup q' r' =>
   have e:=I.tuple_inj q q'
   subst e
   rw[RdVs.det I r r']
theorem RdVs.det(I:Inv X pins σ H s):∀{vs:List V} {ds es:List Ac},RdVs X.K H vs ds->RdVs X.K H vs es->ds=es
 | _,_,_,.nil,h=>by cases h; rfl
 | _,_,_,.cons r t,h=>by
  cases h with
  | cons r' t'=>rw[RdV.det I r r',RdVs.det I t t']
end
theorem RdVs.length:∀{vs:List V} {ds:List Ac},RdVs K H vs ds->vs.length=ds.length
 | _,_,.nil=>rfl
 | _,_,.cons _ t=>by rw[Br,Br,RdVs.length t]
theorem Xk{A:Cs}(h:A.units+(n+1)<cLine):A.in1.units+n<cLine:=by
 have:=Wy A
 omega
theorem kE{us vs:List Value}(p1:PlainL s.heap a us.toArray)(p2:PlainL s.heap b vs.toArray)(l1:us.length=ds.length)(l2:vs.length=es.length)(hu:A.units<cLine)(he:∀j (h1:j<us.length) (h2:j<vs.length),Mo A.in1 s us[j] vs[j] (Ec (ds.getD j .none) (es.getD j .none))):SeqAt.RcAt A s (.ref a) (.ref b) (Om ds es):=by
 rw[<- Nz]
 by_cases hl:ds.length=es.length
 ·have hs:us.toArray.size=vs.toArray.size:=by rw[Aq,Aq,l1,l2,hl]
  have h:=SeqAt.RcAt.lists (A:=A) (e:=λj=>Ec (ds.getD j .none) (es.getD j .none)) p1.isList p2.isList hs hu (λj h1 h2=>by simpa using he j (by simpa using h1) (by simpa using h2))
  rw[Aq,l1] at h
  rw[hl,Nat.min_self,beq_self_eq_true,Bool.and_true,<- hl]
  exact h
 ·have hs:(us.toArray.size != vs.toArray.size)=true:=by rw[Aq,Aq,l1,l2]; simpa using hl
  have h:=SeqAt.RcAt.lists_lengths (A:=A) p1.isList p2.isList hs hu
  have e0:(ds.length == es.length)=false:=by simpa using hl
  rw[e0,Bool.and_false]
  exact h
theorem fG{us vs:List Value}(p1:IsTup s.heap a us.toArray)(p2:IsTup s.heap b vs.toArray)(l1:us.length=ds.length)(l2:vs.length=es.length)(hu:A.units<cLine)(he:∀j (h1:j<us.length) (h2:j<vs.length),Mo A.in1 s us[j] vs[j] (Ec (ds.getD j .none) (es.getD j .none))):SeqAt.RcAt A s (.ref a) (.ref b) (Om ds es):=by
 rw[<- Nz]
 have h:=SeqAt.RcAt.tuples (A:=A) (e:=λj=>Ec (ds.getD j .none) (es.getD j .none)) (show s.heap.IsTuple a us.toArray from p1) (show s.heap.IsTuple b vs.toArray from p2) hu (λj h1 h2=>by simpa using he j (by simpa using h1) (by simpa using h2))
 rw[Aq,Aq,l1,l2] at h
 exact h
mutual
theorem wR(I:Inv X pins σ H s):∀{A:Cs} {x y:V} {d e:Ac} {u v:Value},RdV X.K H x d->RdV X.K H y e->RelV x u->RelV y v->A.units+d.depth<cLine->Mo A s u v (Ec d e)
 | A,_,_,_,_,_,_,.non,h,ru,rv,hu=>by
  cases ru
  have hu':A.units<cLine:=by omega
  cases h with
  | non=>cases rv; rw[Ec]; exact SeqAt.EqAt.same _
  | bl b=>cases rv; rw[Ec]; exact SeqAt.EqAt.none_bool b; all_goals simp
  | int b=>obtain ⟨t,rfl⟩:=rv; rw[Ec]; exact SeqAt.EqAt.none_int b t; all_goals simp
  | str b=>obtain ⟨t,rfl⟩:=rv; rw[Ec]; exact SeqAt.EqAt.none_str b t; all_goals simp
  | lst q r=>cases rv; obtain ⟨us,_,p,_⟩:=I.list q; rw[Ec]; exact SeqAt.EqAt.none_list p.isList hu'; all_goals simp
  | tup q r=>cases rv; obtain ⟨us,_,p,_⟩:=I.tuple q; rw[Ec]; exact SeqAt.EqAt.none_tuple p hu'; all_goals simp
 | A,_,_,_,_,_,_,.bl a,h,ru,rv,hu=>by
  cases ru
  have hu':A.units<cLine:=by omega
  cases h with
  | non=>cases rv; rw[Ec]; exact SeqAt.EqAt.bool_none a; all_goals simp
  | bl b=>cases rv; rw[Ec]; exact SeqAt.EqAt.bool_bool a b
  | int b=>obtain ⟨t,rfl⟩:=rv; rw[Ec]; exact SeqAt.EqAt.bool_int a b t
  | str b=>obtain ⟨t,rfl⟩:=rv; rw[Ec]; exact SeqAt.EqAt.bool_str a b t; all_goals simp
  | lst q r=>cases rv; obtain ⟨us,_,p,_⟩:=I.list q; rw[Ec]; exact SeqAt.EqAt.bool_list a p.isList hu'; all_goals simp
  | tup q r=>cases rv; obtain ⟨us,_,p,_⟩:=I.tuple q; rw[Ec]; exact SeqAt.EqAt.bool_tuple a p hu'; all_goals simp
 | A,_,_,_,_,_,_,.int a,h,ru,rv,hu=>by
  obtain ⟨t',rfl⟩:=ru
  have hu':A.units<cLine:=by omega
  cases h with
  | non=>cases rv; rw[Ec]; exact SeqAt.EqAt.int_none a t'; all_goals simp
  | bl b=>cases rv; rw[Ec]; exact SeqAt.EqAt.int_bool a t' b
  | int b=>obtain ⟨t,rfl⟩:=rv; rw[Ec]; exact SeqAt.EqAt.int_int a t' b t
  | str b=>obtain ⟨t,rfl⟩:=rv; rw[Ec]; exact SeqAt.EqAt.int_str a t' b t; all_goals simp
  | lst q r=>cases rv; obtain ⟨us,_,p,_⟩:=I.list q; rw[Ec]; exact SeqAt.EqAt.int_list a t' p.isList hu'; all_goals simp
  | tup q r=>cases rv; obtain ⟨us,_,p,_⟩:=I.tuple q; rw[Ec]; exact SeqAt.EqAt.int_tuple a t' p hu'; all_goals simp
 | A,_,_,_,_,_,_,.str a,h,ru,rv,hu=>by
  obtain ⟨t',rfl⟩:=ru
  have hu':A.units<cLine:=by omega
  cases h with
  | non=>cases rv; rw[Ec]; exact SeqAt.EqAt.str_none a t'; all_goals simp
  | bl b=>cases rv; rw[Ec]; exact SeqAt.EqAt.str_bool a t' b; all_goals simp
  | int b=>obtain ⟨t,rfl⟩:=rv; rw[Ec]; exact SeqAt.EqAt.str_int a t' b t; all_goals simp
  | str b=>obtain ⟨t,rfl⟩:=rv; rw[Ec]; exact SeqAt.EqAt.str_str a t' b t
  | lst q r=>cases rv; obtain ⟨us,_,p,_⟩:=I.list q; rw[Ec]; exact SeqAt.EqAt.str_list a t' p.isList hu'; all_goals simp
  | tup q r=>cases rv; obtain ⟨us,_,p,_⟩:=I.tuple q; rw[Ec]; exact SeqAt.EqAt.str_tuple a t' p hu'; all_goals simp
 | A,_,_,_,_,_,_,@RdV.lst _ _ a xs ds q r,h,ru,rv,hu=>by
  cases ru
  have hu':A.units<cLine:=by omega
  obtain ⟨us,r1,p,_⟩:=I.list q
  cases h with
  | non=>cases rv; rw[Ec]; exact SeqAt.EqAt.list_none p.isList hu'; all_goals simp
  | bl b=>cases rv; rw[Ec]; exact SeqAt.EqAt.list_bool b p.isList hu'; all_goals simp
  | int b=>obtain ⟨t,rfl⟩:=rv; rw[Ec]; exact SeqAt.EqAt.list_int b t p.isList hu'; all_goals simp
  | str b=>obtain ⟨t,rfl⟩:=rv; rw[Ec]; exact SeqAt.EqAt.list_str b t p.isList hu'; all_goals simp
  | @lst b ys es q2 rr2 =>
   cases rv
   obtain ⟨vs,r2,p2,_⟩:=I.list q2
   rw[Ec]
   by_cases hab:a=b
   ·subst hab
    have e:=I.list_inj q q2
    subst e
    rw[<- RdVs.det I r rr2,RdVs.eqDs_self r]
    exact SeqAt.EqAt.same _
   ·refine SeqAt.EqAt.of_refs hab (kE p p2 (r1.length.symm.trans r.length) (r2.length.symm.trans rr2.length) hu' λj h1 h2=>?_)
    exact Ql I r rr2 r1 r2 (Xk (by simpa only [Cm] using hu)) j h1 h2
  | tup q2 rr2=>cases rv; obtain ⟨vs,_,p2,_⟩:=I.tuple q2; rw[Ec]; exact SeqAt.EqAt.list_tuple p.isList p2 hu'; all_goals simp
 | A,_,_,_,_,_,_,@RdV.tup _ _ a xs ds q r,h,ru,rv,hu=>by
  cases ru
  have hu':A.units<cLine:=by omega
  obtain ⟨us,r1,p,_⟩:=I.tuple q
  cases h with
  | non=>cases rv; rw[Ec]; exact SeqAt.EqAt.tuple_none p hu'; all_goals simp
  | bl b=>cases rv; rw[Ec]; exact SeqAt.EqAt.tuple_bool b p hu'; all_goals simp
  | int b=>obtain ⟨t,rfl⟩:=rv; rw[Ec]; exact SeqAt.EqAt.tuple_int b t p hu'; all_goals simp
  | str b=>obtain ⟨t,rfl⟩:=rv; rw[Ec]; exact SeqAt.EqAt.tuple_str b t p hu'; all_goals simp
  | lst q2 rr2=>cases rv; obtain ⟨vs,_,p2,_⟩:=I.list q2; rw[Ec]; exact SeqAt.EqAt.tuple_list p p2.isList hu'; all_goals simp
  | @tup b ys es q2 rr2 =>
   cases rv
   obtain ⟨vs,r2,p2,_⟩:=I.tuple q2
   rw[Ec]
   by_cases hab:a=b
   ·subst hab
    have e:=I.tuple_inj q q2
    subst e
    rw[<- RdVs.det I r rr2,RdVs.eqDs_self r]
    exact SeqAt.EqAt.same _
   ·refine SeqAt.EqAt.of_refs hab (fG p p2 (r1.length.symm.trans r.length) (r2.length.symm.trans rr2.length) hu' λj h1 h2=>?_)
    exact Ql I r rr2 r1 r2 (Xk (by simpa only [Cm] using hu)) j h1 h2
theorem Ql(I:Inv X pins σ H s):∀{A:Cs} {xs ys:List V} {ds es:List Ac} {us vs:List Value},RdVs X.K H xs ds->RdVs X.K H ys es->Fg xs us->Fg ys vs->A.units+Bo ds<cLine->∀j (h1:j<us.length) (h2:j<vs.length),Mo A s us[j] vs[j] (Ec (ds.getD j .none) (es.getD j .none))
 | _,_,_,_,_,_,_,.nil,_,r1,_,_=>λj h1 h2=>by cases r1; exact absurd h1 (Oi _)
 | A,_,_,_,_,_,_,@RdVs.cons _ _ x d xs ds r t,h,r1,r2,hu=>λj h1 h2=>by
  cases h with
  | nil=>cases r2; exact absurd h2 (Oi _)
  | cons r' t' =>
   cases r1 with
   | cons ra ta =>
    cases r2 with
    | cons rb tb =>
     have hm:A.units+d.depth<cLine/\A.units+Bo ds<cLine:=by
      simp only[Bo] at hu
      omega
     cases j with
     | zero=>simpa using wR I r r' ra rb hm.1
     | succ j=>simpa using Ql I t t' ta tb hm.2 j (by simpa using h1) (by simpa using h2)
end
end
section
variable{X:Cx}{pins:List (Addr×Obj)}{σ:L2.St}{H:Hp}{s:Aj}{K:PySem.W.Frag}
theorem uJ{us vs:List Value}(p1:PlainL s.heap a us.toArray)(p2:PlainL s.heap b vs.toArray)(l1:us.length=ds.length)(l2:vs.length=es.length)(hu:A.units<cLine)(he:∀j (h1:j<us.length) (h2:j<vs.length),Mo A.in1 s us[j] vs[j] (Ec (ds.getD j .none) (es.getD j .none))):SeqAt.RcNeAt A s (.ref a) (.ref b) (!Om ds es):=by
 rw[<- Nz]
 by_cases hl:ds.length=es.length
 ·have hs:us.toArray.size=vs.toArray.size:=by rw[Aq,Aq,l1,l2,hl]
  have h:=SeqAt.RcNeAt.lists (A:=A) (e:=λj=>Ec (ds.getD j .none) (es.getD j .none)) p1.isList p2.isList hs hu (λj h1 h2=>by simpa using he j (by simpa using h1) (by simpa using h2))
  rw[Aq,l1] at h
  rw[hl,Nat.min_self,beq_self_eq_true,Bool.and_true,<- hl]
  exact h
 ·have hs:(us.toArray.size != vs.toArray.size)=true:=by rw[Aq,Aq,l1,l2]; simpa using hl
  have h:=SeqAt.RcNeAt.lists_lengths (A:=A) p1.isList p2.isList hs hu
  have e0:(ds.length == es.length)=false:=by simpa using hl
  rw[e0,Bool.and_false]
  exact h
theorem nE{us vs:List Value}(p1:IsTup s.heap a us.toArray)(p2:IsTup s.heap b vs.toArray)(l1:us.length=ds.length)(l2:vs.length=es.length)(hu:A.units<cLine)(he:∀j (h1:j<us.length) (h2:j<vs.length),Mo A.in1 s us[j] vs[j] (Ec (ds.getD j .none) (es.getD j .none))):SeqAt.RcNeAt A s (.ref a) (.ref b) (!Om ds es):=by
 rw[<- Nz]
 have h:=SeqAt.RcNeAt.tuples (A:=A) (e:=λj=>Ec (ds.getD j .none) (es.getD j .none)) (show s.heap.IsTuple a us.toArray from p1) (show s.heap.IsTuple b vs.toArray from p2) hu (λj h1 h2=>by simpa using he j (by simpa using h1) (by simpa using h2))
 rw[Aq,Aq,l1,l2] at h
 exact h
end
section
variable{X:Cx}
def AO(K:PySem.W.Frag):R2:=λx y H Q=>∃d e,RdV K H x d/\RdV K H y e/\d.depth<=60/\Q (.bl (Ec d e)) H
def CG(K:PySem.W.Frag):R2:=λx y H Q=>∃d e,RdV K H x d/\RdV K H y e/\d.depth<=60/\Q (.bl (!Ec d e)) H
theorem xS(hu:X.A.units+64<cLine):Wc X (Hy .Eq) (AO X.K):=by
 intro pins s σ H x y v u Q I rx ry h
 obtain ⟨d,e,h1,h2,hd,q⟩:=h
 have hu':X.A.units<cLine:=by omega
 cases h1 with
 | non =>
  cases rx
  cases h2 with
  | non=>cases ry; rw[Ec] at q; exact SeqAt.RcAt.none_none _ _ _ _ ⟨.bl _,H,I,rfl,q⟩
  | bl b=>cases ry; rw[Ec] at q; exact SeqAt.RcAt.none_bool b _ _ _ _ ⟨.bl _,H,I,rfl,q⟩; all_goals simp
  | int b=>obtain ⟨t,rfl⟩:=ry; rw[Ec] at q; exact SeqAt.RcAt.none_int b t _ _ _ _ ⟨.bl _,H,I,rfl,q⟩; all_goals simp
  | str b=>obtain ⟨t,rfl⟩:=ry; rw[Ec] at q; exact SeqAt.RcAt.none_str b t _ _ _ _ ⟨.bl _,H,I,rfl,q⟩; all_goals simp
  | @lst b ys es q2 rr2=>cases ry; obtain ⟨vs,r2,p2,_⟩:=I.list q2; rw[Ec] at q; exact SeqAt.RcAt.none_list p2.isList hu' _ _ _ _ ⟨.bl _,H,I,rfl,q⟩; all_goals simp
  | @tup b ys es q2 rr2=>cases ry; obtain ⟨vs,r2,p2,_⟩:=I.tuple q2; rw[Ec] at q; exact SeqAt.RcAt.none_tuple p2 hu' _ _ _ _ ⟨.bl _,H,I,rfl,q⟩; all_goals simp
 | bl a =>
  cases rx
  cases h2 with
  | non=>cases ry; rw[Ec] at q; exact SeqAt.RcAt.bool_none a _ _ _ _ ⟨.bl _,H,I,rfl,q⟩; all_goals simp
  | bl b=>cases ry; rw[Ec] at q; exact SeqAt.RcAt.bool_bool a b _ _ _ _ ⟨.bl _,H,I,rfl,q⟩
  | int b=>obtain ⟨t,rfl⟩:=ry; rw[Ec] at q; exact SeqAt.RcAt.bool_int a b t _ _ _ _ ⟨.bl _,H,I,rfl,q⟩
  | str b=>obtain ⟨t,rfl⟩:=ry; rw[Ec] at q; exact SeqAt.RcAt.bool_str a b t _ _ _ _ ⟨.bl _,H,I,rfl,q⟩; all_goals simp
  | @lst b ys es q2 rr2=>cases ry; obtain ⟨vs,r2,p2,_⟩:=I.list q2; rw[Ec] at q; exact SeqAt.RcAt.bool_list a p2.isList hu' _ _ _ _ ⟨.bl _,H,I,rfl,q⟩; all_goals simp
  | @tup b ys es q2 rr2=>cases ry; obtain ⟨vs,r2,p2,_⟩:=I.tuple q2; rw[Ec] at q; exact SeqAt.RcAt.bool_tuple a p2 hu' _ _ _ _ ⟨.bl _,H,I,rfl,q⟩; all_goals simp
 | int a =>
  obtain ⟨t',rfl⟩:=rx
  cases h2 with
  | non=>cases ry; rw[Ec] at q; exact SeqAt.RcAt.int_none a t' _ _ _ _ ⟨.bl _,H,I,rfl,q⟩; all_goals simp
  | bl b=>cases ry; rw[Ec] at q; exact SeqAt.RcAt.int_bool a t' b _ _ _ _ ⟨.bl _,H,I,rfl,q⟩
  | int b=>obtain ⟨t,rfl⟩:=ry; rw[Ec] at q; exact SeqAt.RcAt.int_int a t' b t _ _ _ _ ⟨.bl _,H,I,rfl,q⟩
  | str b=>obtain ⟨t,rfl⟩:=ry; rw[Ec] at q; exact SeqAt.RcAt.int_str a t' b t _ _ _ _ ⟨.bl _,H,I,rfl,q⟩; all_goals simp
  | @lst b ys es q2 rr2=>cases ry; obtain ⟨vs,r2,p2,_⟩:=I.list q2; rw[Ec] at q; exact SeqAt.RcAt.int_list a t' p2.isList hu' _ _ _ _ ⟨.bl _,H,I,rfl,q⟩; all_goals simp
  | @tup b ys es q2 rr2=>cases ry; obtain ⟨vs,r2,p2,_⟩:=I.tuple q2; rw[Ec] at q; exact SeqAt.RcAt.int_tuple a t' p2 hu' _ _ _ _ ⟨.bl _,H,I,rfl,q⟩; all_goals simp
 | str a =>
  obtain ⟨t',rfl⟩:=rx
  cases h2 with
  | non=>cases ry; rw[Ec] at q; exact SeqAt.RcAt.str_none a t' _ _ _ _ ⟨.bl _,H,I,rfl,q⟩; all_goals simp
  | bl b=>cases ry; rw[Ec] at q; exact SeqAt.RcAt.str_bool a t' b _ _ _ _ ⟨.bl _,H,I,rfl,q⟩; all_goals simp
  | int b=>obtain ⟨t,rfl⟩:=ry; rw[Ec] at q; exact SeqAt.RcAt.str_int a t' b t _ _ _ _ ⟨.bl _,H,I,rfl,q⟩; all_goals simp
  | str b=>obtain ⟨t,rfl⟩:=ry; rw[Ec] at q; exact SeqAt.RcAt.str_str a t' b t _ _ _ _ ⟨.bl _,H,I,rfl,q⟩
  | @lst b ys es q2 rr2=>cases ry; obtain ⟨vs,r2,p2,_⟩:=I.list q2; rw[Ec] at q; exact SeqAt.RcAt.str_list a t' p2.isList hu' _ _ _ _ ⟨.bl _,H,I,rfl,q⟩; all_goals simp
  | @tup b ys es q2 rr2=>cases ry; obtain ⟨vs,r2,p2,_⟩:=I.tuple q2; rw[Ec] at q; exact SeqAt.RcAt.str_tuple a t' p2 hu' _ _ _ _ ⟨.bl _,H,I,rfl,q⟩; all_goals simp
 | @lst a xs ds qa r =>
  cases rx
  obtain ⟨us,r1,p,_⟩:=I.list qa
  cases h2 with
  | non=>cases ry; rw[Ec] at q; exact SeqAt.RcAt.list_none p.isList hu' _ _ _ _ ⟨.bl _,H,I,rfl,q⟩; all_goals simp
  | bl b=>cases ry; rw[Ec] at q; exact SeqAt.RcAt.list_bool b p.isList hu' _ _ _ _ ⟨.bl _,H,I,rfl,q⟩; all_goals simp
  | int b=>obtain ⟨t,rfl⟩:=ry; rw[Ec] at q; exact SeqAt.RcAt.list_int b t p.isList hu' _ _ _ _ ⟨.bl _,H,I,rfl,q⟩; all_goals simp
  | str b=>obtain ⟨t,rfl⟩:=ry; rw[Ec] at q; exact SeqAt.RcAt.list_str b t p.isList hu' _ _ _ _ ⟨.bl _,H,I,rfl,q⟩; all_goals simp
  | @lst b ys es q2 rr2=>cases ry; obtain ⟨vs,r2,p2,_⟩:=I.list q2; rw[Ec] at q; exact kE p p2 (r1.length.symm.trans r.length) (r2.length.symm.trans rr2.length) hu' (λj h1 h2=>Ql I r rr2 r1 r2 (Xk (by simp only[Cm] at hd; omega)) j h1 h2) _ _ _ _ ⟨.bl _,H,I,rfl,q⟩
  | @tup b ys es q2 rr2=>cases ry; obtain ⟨vs,r2,p2,_⟩:=I.tuple q2; rw[Ec] at q; exact SeqAt.RcAt.list_tuple p.isList p2 hu' _ _ _ _ ⟨.bl _,H,I,rfl,q⟩; all_goals simp
 | @tup a xs ds qa r =>
  cases rx
  obtain ⟨us,r1,p,_⟩:=I.tuple qa
  cases h2 with
  | non=>cases ry; rw[Ec] at q; exact SeqAt.RcAt.tuple_none p hu' _ _ _ _ ⟨.bl _,H,I,rfl,q⟩; all_goals simp
  | bl b=>cases ry; rw[Ec] at q; exact SeqAt.RcAt.tuple_bool b p hu' _ _ _ _ ⟨.bl _,H,I,rfl,q⟩; all_goals simp
  | int b=>obtain ⟨t,rfl⟩:=ry; rw[Ec] at q; exact SeqAt.RcAt.tuple_int b t p hu' _ _ _ _ ⟨.bl _,H,I,rfl,q⟩; all_goals simp
  | str b=>obtain ⟨t,rfl⟩:=ry; rw[Ec] at q; exact SeqAt.RcAt.tuple_str b t p hu' _ _ _ _ ⟨.bl _,H,I,rfl,q⟩; all_goals simp
  | @lst b ys es q2 rr2=>cases ry; obtain ⟨vs,r2,p2,_⟩:=I.list q2; rw[Ec] at q; exact SeqAt.RcAt.tuple_list p p2.isList hu' _ _ _ _ ⟨.bl _,H,I,rfl,q⟩; all_goals simp
  | @tup b ys es q2 rr2=>cases ry; obtain ⟨vs,r2,p2,_⟩:=I.tuple q2; rw[Ec] at q; exact fG p p2 (r1.length.symm.trans r.length) (r2.length.symm.trans rr2.length) hu' (λj h1 h2=>Ql I r rr2 r1 r2 (Xk (by simp only[Cm] at hd; omega)) j h1 h2) _ _ _ _ ⟨.bl _,H,I,rfl,q⟩
theorem U6(hu:X.A.units+64<cLine):Wc X (Hy .NotEq) (CG X.K):=by
 intro pins s σ H x y v u Q I rx ry h
 obtain ⟨d,e,h1,h2,hd,q⟩:=h
 have hu':X.A.units<cLine:=by omega
 cases h1 with
 | non =>
  cases rx
  cases h2 with
  | non=>cases ry; rw[Ec] at q; exact SeqAt.RcNeAt.none_none _ _ _ _ ⟨.bl _,H,I,rfl,q⟩
  | bl b=>cases ry; rw[Ec] at q; exact SeqAt.RcNeAt.none_bool b _ _ _ _ ⟨.bl _,H,I,rfl,q⟩; all_goals simp
  | int b=>obtain ⟨t,rfl⟩:=ry; rw[Ec] at q; exact SeqAt.RcNeAt.none_int b t _ _ _ _ ⟨.bl _,H,I,rfl,q⟩; all_goals simp
  | str b=>obtain ⟨t,rfl⟩:=ry; rw[Ec] at q; exact SeqAt.RcNeAt.none_str b t _ _ _ _ ⟨.bl _,H,I,rfl,q⟩; all_goals simp
  | @lst b ys es q2 rr2=>cases ry; obtain ⟨vs,r2,p2,_⟩:=I.list q2; rw[Ec] at q; exact SeqAt.RcNeAt.none_list p2.isList hu' _ _ _ _ ⟨.bl _,H,I,rfl,q⟩; all_goals simp
  | @tup b ys es q2 rr2=>cases ry; obtain ⟨vs,r2,p2,_⟩:=I.tuple q2; rw[Ec] at q; exact SeqAt.RcNeAt.none_tuple p2 hu' _ _ _ _ ⟨.bl _,H,I,rfl,q⟩; all_goals simp
 | bl a =>
  cases rx
  cases h2 with
  | non=>cases ry; rw[Ec] at q; exact SeqAt.RcNeAt.bool_none a _ _ _ _ ⟨.bl _,H,I,rfl,q⟩; all_goals simp
  | bl b=>cases ry; rw[Ec] at q; exact SeqAt.RcNeAt.bool_bool a b _ _ _ _ ⟨.bl _,H,I,rfl,q⟩
  | int b=>obtain ⟨t,rfl⟩:=ry; rw[Ec] at q; exact SeqAt.RcNeAt.bool_int a b t _ _ _ _ ⟨.bl _,H,I,rfl,q⟩
  | str b=>obtain ⟨t,rfl⟩:=ry; rw[Ec] at q; exact SeqAt.RcNeAt.bool_str a b t _ _ _ _ ⟨.bl _,H,I,rfl,q⟩; all_goals simp
  | @lst b ys es q2 rr2=>cases ry; obtain ⟨vs,r2,p2,_⟩:=I.list q2; rw[Ec] at q; exact SeqAt.RcNeAt.bool_list a p2.isList hu' _ _ _ _ ⟨.bl _,H,I,rfl,q⟩; all_goals simp
  | @tup b ys es q2 rr2=>cases ry; obtain ⟨vs,r2,p2,_⟩:=I.tuple q2; rw[Ec] at q; exact SeqAt.RcNeAt.bool_tuple a p2 hu' _ _ _ _ ⟨.bl _,H,I,rfl,q⟩; all_goals simp
 | int a =>
  obtain ⟨t',rfl⟩:=rx
  cases h2 with
  | non=>cases ry; rw[Ec] at q; exact SeqAt.RcNeAt.int_none a t' _ _ _ _ ⟨.bl _,H,I,rfl,q⟩; all_goals simp
  | bl b=>cases ry; rw[Ec] at q; exact SeqAt.RcNeAt.int_bool a t' b _ _ _ _ ⟨.bl _,H,I,rfl,q⟩
  | int b=>obtain ⟨t,rfl⟩:=ry; rw[Ec] at q; exact SeqAt.RcNeAt.int_int a t' b t _ _ _ _ ⟨.bl _,H,I,rfl,q⟩
  | str b=>obtain ⟨t,rfl⟩:=ry; rw[Ec] at q; exact SeqAt.RcNeAt.int_str a t' b t _ _ _ _ ⟨.bl _,H,I,rfl,q⟩; all_goals simp
  | @lst b ys es q2 rr2=>cases ry; obtain ⟨vs,r2,p2,_⟩:=I.list q2; rw[Ec] at q; exact SeqAt.RcNeAt.int_list a t' p2.isList hu' _ _ _ _ ⟨.bl _,H,I,rfl,q⟩; all_goals simp
  | @tup b ys es q2 rr2=>cases ry; obtain ⟨vs,r2,p2,_⟩:=I.tuple q2; rw[Ec] at q; exact SeqAt.RcNeAt.int_tuple a t' p2 hu' _ _ _ _ ⟨.bl _,H,I,rfl,q⟩; all_goals simp
 | str a =>
  obtain ⟨t',rfl⟩:=rx
  cases h2 with
  | non=>cases ry; rw[Ec] at q; exact SeqAt.RcNeAt.str_none a t' _ _ _ _ ⟨.bl _,H,I,rfl,q⟩; all_goals simp
  | bl b=>cases ry; rw[Ec] at q; exact SeqAt.RcNeAt.str_bool a t' b _ _ _ _ ⟨.bl _,H,I,rfl,q⟩; all_goals simp
  | int b=>obtain ⟨t,rfl⟩:=ry; rw[Ec] at q; exact SeqAt.RcNeAt.str_int a t' b t _ _ _ _ ⟨.bl _,H,I,rfl,q⟩; all_goals simp
  | str b=>obtain ⟨t,rfl⟩:=ry; rw[Ec] at q; exact SeqAt.RcNeAt.str_str a t' b t _ _ _ _ ⟨.bl _,H,I,rfl,q⟩
  | @lst b ys es q2 rr2=>cases ry; obtain ⟨vs,r2,p2,_⟩:=I.list q2; rw[Ec] at q; exact SeqAt.RcNeAt.str_list a t' p2.isList hu' _ _ _ _ ⟨.bl _,H,I,rfl,q⟩; all_goals simp
  | @tup b ys es q2 rr2=>cases ry; obtain ⟨vs,r2,p2,_⟩:=I.tuple q2; rw[Ec] at q; exact SeqAt.RcNeAt.str_tuple a t' p2 hu' _ _ _ _ ⟨.bl _,H,I,rfl,q⟩; all_goals simp
 | @lst a xs ds qa r =>
  cases rx
  obtain ⟨us,r1,p,_⟩:=I.list qa
  cases h2 with
  | non=>cases ry; rw[Ec] at q; exact SeqAt.RcNeAt.list_none p.isList hu' _ _ _ _ ⟨.bl _,H,I,rfl,q⟩; all_goals simp
  | bl b=>cases ry; rw[Ec] at q; exact SeqAt.RcNeAt.list_bool b p.isList hu' _ _ _ _ ⟨.bl _,H,I,rfl,q⟩; all_goals simp
  | int b=>obtain ⟨t,rfl⟩:=ry; rw[Ec] at q; exact SeqAt.RcNeAt.list_int b t p.isList hu' _ _ _ _ ⟨.bl _,H,I,rfl,q⟩; all_goals simp
  | str b=>obtain ⟨t,rfl⟩:=ry; rw[Ec] at q; exact SeqAt.RcNeAt.list_str b t p.isList hu' _ _ _ _ ⟨.bl _,H,I,rfl,q⟩; all_goals simp
  | @lst b ys es q2 rr2=>cases ry; obtain ⟨vs,r2,p2,_⟩:=I.list q2; rw[Ec] at q; exact uJ p p2 (r1.length.symm.trans r.length) (r2.length.symm.trans rr2.length) hu' (λj h1 h2=>Ql I r rr2 r1 r2 (Xk (by simp only[Cm] at hd; omega)) j h1 h2) _ _ _ _ ⟨.bl _,H,I,rfl,q⟩
  | @tup b ys es q2 rr2=>cases ry; obtain ⟨vs,r2,p2,_⟩:=I.tuple q2; rw[Ec] at q; exact SeqAt.RcNeAt.list_tuple p.isList p2 hu' _ _ _ _ ⟨.bl _,H,I,rfl,q⟩; all_goals simp
 | @tup a xs ds qa r =>
  cases rx
  obtain ⟨us,r1,p,_⟩:=I.tuple qa
  cases h2 with
  | non=>cases ry; rw[Ec] at q; exact SeqAt.RcNeAt.tuple_none p hu' _ _ _ _ ⟨.bl _,H,I,rfl,q⟩; all_goals simp
  | bl b=>cases ry; rw[Ec] at q; exact SeqAt.RcNeAt.tuple_bool b p hu' _ _ _ _ ⟨.bl _,H,I,rfl,q⟩; all_goals simp
  | int b=>obtain ⟨t,rfl⟩:=ry; rw[Ec] at q; exact SeqAt.RcNeAt.tuple_int b t p hu' _ _ _ _ ⟨.bl _,H,I,rfl,q⟩; all_goals simp
  | str b=>obtain ⟨t,rfl⟩:=ry; rw[Ec] at q; exact SeqAt.RcNeAt.tuple_str b t p hu' _ _ _ _ ⟨.bl _,H,I,rfl,q⟩; all_goals simp
  | @lst b ys es q2 rr2=>cases ry; obtain ⟨vs,r2,p2,_⟩:=I.list q2; rw[Ec] at q; exact SeqAt.RcNeAt.tuple_list p p2.isList hu' _ _ _ _ ⟨.bl _,H,I,rfl,q⟩; all_goals simp
  | @tup b ys es q2 rr2=>cases ry; obtain ⟨vs,r2,p2,_⟩:=I.tuple q2; rw[Ec] at q; exact nE p p2 (r1.length.symm.trans r.length) (r2.length.symm.trans rr2.length) hu' (λj h1 h2=>Ql I r rr2 r1 r2 (Xk (by simp only[Cm] at hd; omega)) j h1 h2) _ _ _ _ ⟨.bl _,H,I,rfl,q⟩
theorem j3(h:RelV z v)(h':RelV z' v):z=z':=by
 cases z <;> cases z' <;> simp only[L2.RelV] at h h' <;> first | rfl | (subst h; cases h'; rfl) | (subst h; cases h'; done) | (obtain ⟨t,rfl⟩:=h; obtain ⟨t',e⟩:=h'; cases e; rfl) | (obtain ⟨t,rfl⟩:=h; obtain ⟨t',e⟩:=h'; cases e; done) | (obtain ⟨t,rfl⟩:=h; cases h'; done) | (subst h; obtain ⟨t',e⟩:=h'; cases e)
open Classical in
noncomputable def Mz(K:PySem.W.Frag)(H:Hp)(d:Ac)(v:Value):Bool:=if h:∃e z,RdV K H z e/\RelV z v then Ec h.choose d else false
theorem lT{pins:List (Addr×Obj)}{σ:L2.St}(I:Inv X pins σ H s)(h:RdV X.K H z e)(r:RelV z v):Mz X.K H d v=Ec e d:=by
 unfold Mz
 have hx:∃e z,RdV X.K H z e/\RelV z v:=⟨e,z,h,r⟩
 rw[dif_pos hx]
 obtain ⟨z',h',r'⟩:=hx.choose_spec
 have ez:=j3 r' r
 subst ez
 rw[RdV.det I h' h]
theorem Pz{σ:L2.St}(I:Inv X pins σ H s):∀{xs:List V} {ds:List Ac} {us:List Value},RdVs X.K H xs ds->Fg xs us->us.any (Mz X.K H d)=ds.any λe=>Ec e d
 | _,_,_,.nil,r=>by cases r; rfl
 | _,_,_,.cons h t,r=>by
  cases r with
  | cons r1 r2=>rw[Jd,Jd,lT I h r1,Pz I t r2]
theorem Qh{pins:List (Addr×Obj)}{σ:L2.St}(I:Inv X pins σ H s)(hx:RdV X.K H x d)(rx:RelV x u):∀{xs:List V} {ds:List Ac} {us:List Value},RdVs X.K H xs ds->Fg xs us->A.units+Bo ds<cLine->∀v∈us,Mo A s v u (Mz X.K H d v)
 | _,_,_,.nil,r,_=>λv hv=>by cases r; cases hv
 | _,_,_,@RdVs.cons _ _ y e ys es h t,r,hu=>λv hv=>by
  have hm:A.units+e.depth<cLine/\A.units+Bo es<cLine:=by
   simp only[Bo] at hu
   omega
  cases r with
  | cons r1 r2 =>
   rcases Ah.mp hv with rfl | hv
   ·rw[lT I h r1]; exact wR I h hx r1 rx hm.1
   ·exact Qh I hx rx t r2 hm.2 v hv
def Z7(K:PySem.W.Frag)(neg:Bool):R2:=λx y H Q=>∃p xs d ds,y=.ref p/\(Mc K H p xs\/Uh K H p xs)/\RdV K H x d/\RdVs K H xs ds/\Bo ds<=60/\Q (.bl (if neg then !(ds.any λe=>Ec e d) else ds.any λe=>Ec e d)) H
theorem W5(hu:X.A.units+64<cLine):Wc X (Hy .In) (Z7 X.K false):=by
 intro pins s σ H x y v u Q I rx ry h
 obtain ⟨p,xs,d,ds,rfl,hq,hx,hs,hd,q⟩:=h
 cases ry
 have hu1:X.A.in1.units+Bo ds<cLine:=by have:=Wy X.A; omega
 rcases hq with hq | hq
 ·obtain ⟨its,r,pl,hz⟩:=I.list hq
  refine SeqAt.in_listAt (Mz X.K H d) pl.isList (λw hw=>Qh I hx rx hs r hu1 w (by simpa using hw)) ⟨.bl _,H,I,rfl,?_⟩
  rw[show its.toArray.any (Mz X.K H d)=its.any (Mz X.K H d) by simp,Pz I hs r]
  exact q
 ·obtain ⟨its,r,pl,hz⟩:=I.tuple hq
  refine SeqAt.in_tupleAt (Mz X.K H d) pl (λw hw=>Qh I hx rx hs r hu1 w (by simpa using hw)) ⟨.bl _,H,I,rfl,?_⟩
  rw[show its.toArray.any (Mz X.K H d)=its.any (Mz X.K H d) by simp,Pz I hs r]
  exact q
theorem uE(hu:X.A.units+64<cLine):Wc X (Hy .NotIn) (Z7 X.K true):=by
 intro pins s σ H x y v u Q I rx ry h
 obtain ⟨p,xs,d,ds,rfl,hq,hx,hs,hd,q⟩:=h
 cases ry
 have hu1:X.A.in1.units+Bo ds<cLine:=by have:=Wy X.A; omega
 rcases hq with hq | hq
 ·obtain ⟨its,r,pl,hz⟩:=I.list hq
  refine SeqAt.notIn_listAt (Mz X.K H d) pl.isList (λw hw=>Qh I hx rx hs r hu1 w (by simpa using hw)) ⟨.bl _,H,I,rfl,?_⟩
  rw[show its.toArray.any (Mz X.K H d)=its.any (Mz X.K H d) by simp,Pz I hs r]
  exact q
 ·obtain ⟨its,r,pl,hz⟩:=I.tuple hq
  refine SeqAt.notIn_tupleAt (Mz X.K H d) pl (λw hw=>Qh I hx rx hs r hu1 w (by simpa using hw)) ⟨.bl _,H,I,rfl,?_⟩
  rw[show its.toArray.any (Mz X.K H d)=its.any (Mz X.K H d) by simp,Pz I hs r]
  exact q
end
def GD(K:PySem.W.Frag)(a:Addr):It :=
 ⟨λi H=>∃xs x,Mc K H a xs/\xs[i]? = some x,λi H x H'=>∃p y,x=.ref p/\H p=none/\H'=upd H p (.tup [.int i,y])/\∀xs,Mc K H a xs->xs[i]? = some y,λi H=>∃xs,Mc K H a xs/\xs.length<=i⟩
section
variable{X:Cx}{pins:List (Addr×Obj)}{σ:L2.St}{H:Hp}{s:Aj}{h':Heap}
theorem Nh{fp:List Addr}(I:Inv X pins σ H s)(k:∀b o,b∉fp->s.heap.get? b=some o->h'.get? b=some o)(hf:∀b∈fp,Mu X pins H b):Inv X pins σ H { s with heap:=h',toks:=t' }:=by
 have nit:∀b u,H b=some u->b∉fp:=λb u e z=>by rw[(hf b z).1] at e; cases e
 refine I.step (g':=s.gens) (d':=s.drawn) (ch:=fp) (λb hb=>?_) (λb o _ _ hc e _=>k b o hc e) (λb o _ _ hc e _=>⟨o.slots,k b o hc e⟩) (λ_ _ _ _ n=>n)
  (λb o hc e=>⟨o,k b o hc e⟩) (λ_ _ e=>e) (λ_ _ _ e=>e) (λb ps e=>⟨#[],by rw[e]; simp⟩) (λm hm=>?_) (λb u e=>?_) I.bare
 ·obtain ⟨_,f1,_,f3,f4,f5⟩:=hf b hb
  exact ⟨f3,f1,f4,f5⟩
 ·obtain ⟨o,es,ep,ho,r⟩:=hm
  exact ⟨o,es,ep,k _ o (λz=>(hf _ z).2.1 rfl) ho,r⟩
 ·refine (I.hok b u e).stay (λc v hc q=>k c v ?_ q) (λ_ q=>q) λ_ _ q=>q
  rcases hc with z | z
  ·rw[z]; exact nit b u e
  ·exact nit c _ z
end
theorem tE{K:PySem.W.Frag}(a e it:Addr)(ne:e≠it):Turn P w K (.Tuple elts k pos) (GD K a) [e,it] e (λi h=>(∃old,IsEnum h e it ((i:Nat):Int) old)/\h.IsListIter it a i) where
 mem:=Ab
 obj:=λi h st b hb=>by
  obtain ⟨⟨old,he⟩,o,e1,c,d⟩:=st
  rcases Ah.mp hb with z | z
  ·subst z
   exact ⟨_,he,λv z=>by cases z⟩
  ·rw[Af.mp z]
   exact ⟨o,e1,λv z=>by rw[d] at z; cases z⟩
 keep:=λi h h' st kp=>⟨let ⟨old,he⟩:=st.1; ⟨old,kp e Ab _ he⟩,st.2.at λo q=>kp it (Ae _ Ab) o q⟩
 item:=by
  intro X hP hw hK hc i pins s σ H E I hf st hg
  subst hP hw hK
  obtain ⟨xs,x,hq,hx⟩:=hg
  obtain ⟨its,rv,p,hz⟩:=I.list hq
  obtain ⟨u,hu,ru⟩:=rv.get hx
  obtain ⟨⟨old,he⟩,hit⟩:=st
  have el:e<s.heap.objs.size:=Bg he
  have il:it<s.heap.objs.size:=by obtain ⟨_,q,_⟩:=hit; exact Bg q
  refine wpAny_pyNext_enum_item he hit p.isList (x:=u) (by simpa using hu) ne λh1 ho hit1 hT hsz hk=>⟨_,rfl,wpAny_letOwnedTupleGo_enum ho λh2 he2 hs2=>?_⟩
  have hs2':Dm e h1 h2:=hs2
  -- the pair laid,then the iterators turned
  have I1:Inv X pins σ (upd H s.heap.objs.size (.tup [.int i,x])) { s with heap:=s.heap.push { cls:=.type "tuple",data:=.seq #[.int i s.toks,u] } } :=
   I.laid (t':=s.toks) (λb o q=>Ai _ q) (Ak _) ⟨by show 2<=Au; decide,[.int i s.toks,u],.cons ⟨_,rfl⟩ (.cons ru .nil),_,Bf _ rfl,rfl,0,rfl⟩
  have nT:∀b∈[e,it],b≠s.heap.objs.size:=λb hb=>by
   rcases Ah.mp hb with z | z
   ·rw[z]; exact Cd el
   ·rw[Af.mp z]; exact Cd il
  have fr:∀b∈[e,it],(upd H s.heap.objs.size (.tup [.int i,x])) b=none:=λb hb=>by rw[Cy (nT b hb)]; exact (hf b hb).1
  refine ⟨.ref s.heap.objs.size,_,Nh (fp:=[e,it]) (s:={ s with heap:=s.heap.push { cls:=.type "tuple",data:=.seq #[.int i s.toks,u] } }) (h':=h2) (t':=s.toks+1) I1 (λb o hb q=>?_) (λb hb=>⟨fr b hb,(hf b hb).2⟩),rfl,⟨_,x,rfl,I.hok.fresh (Ak _),rfl,λys hy=>by rw[I.list_inj hy hq]; exact hx⟩,⟨⟨u,?_⟩,?_⟩,fr⟩
  ·have nbe:b≠e:=λz=>hb (by rw[z]; exact Ab)
   have nbi:b≠it:=λz=>hb (by rw[z]; exact Ae _ Ab)
   refine (hs2'.2 b nbe).trans ?_
   by_cases hbT:b=s.heap.objs.size
   ·subst hbT
    have q':=(Bf s.heap (o:={ cls:=.type "tuple",data:=.seq #[.int i s.toks,u] }) rfl).symm.trans q
    rw[hT]
    exact q'
   ·refine hk b o nbe nbi ?_
    have q0:(s.heap.push { cls:=.type "tuple",data:=.seq #[.int i s.toks,u] }).get? b=some o:=q
    rcases Heap.get?_push_cases q0 with z | z
    ·exact absurd z.1 hbT
    ·exact z
  ·have : ((i+1:Nat):Int)=(i:Int)+1:=by omega
   rw[this]
   exact he2
  ·exact hit1.at λo q=>(hs2'.2 it (Ll ne)).trans q
 done:=by
  intro X hP hw hK hc i pins s σ H E I hf st hg
  subst hP hw hK
  obtain ⟨xs,hq,hx⟩:=hg
  obtain ⟨its,rv,p,hz⟩:=I.list hq
  obtain ⟨⟨old,he⟩,hit⟩:=st
  have hl:=rv.length
  exact wpAny_pyNext_enum_end (I.ok.hd hc) he hit p.isList (by simp; omega) λh1 eb=>⟨rfl,Nh (fp:=[e,it]) (t':=s.toks) I (λb o hb q=>eb b o (λz=>hb (by rw[z]; exact Ae _ Ab)) q) hf⟩
 self:=λ_ _ _ _ _ st h=>let ⟨_,he⟩:=st.1; wpAny_pyIter_enum he h
section
variable{X:Cx}
def BU(K:PySem.W.Frag)(ta:TA):TI:=λσ H R=>ta σ H λvs H1=>∃a,vs=[.ref a]/\(∃xs,Mc K H1 a xs)/\R (GD K a) H1
theorem M6(hg:Gl X "enumerate")(hm:X.mg "enumerate" = none)(ha:PA X [a] ta)(hs:Bq [a] X.env=[(false,eval a X.env)]:=by rfl):PI X (.Tuple elts k tp) (.Call (.Name "enumerate" p) [a] [] pos) (BU X.K ta):=by
 intro pins s σ H R I h
 refine Call_ (Nv I hg hm (u:=.type "enumerate") (by decide +kernel) (Ey (Gk (ha pos pins s σ H _ I h) λus s1 ⟨vs,H1,I1,r1,q1⟩=>?_) hs rfl))
 obtain ⟨l,e,⟨xs,hq⟩,q⟩:=q1
 subst e
 obtain ⟨u,rfl,ru⟩:=vals1 r1
 cases ru
 obtain ⟨its,rv,pl,hz⟩:=I1.list hq
 refine call_enumerate_list pl.isList λh2 he hit hsz hk=>wpAny_pyIter_enum he ?_
 have fr:∀b∈[s1.heap.objs.size+1,s1.heap.objs.size],Mu X pins H1 b:=λb hb=>by
  rcases Ah.mp hb with z | z
  ·rw[z]; exact I1.fpOk (Vf _) (I1.hok.fresh (Vf _))
  ·rw[Af.mp z]; exact I1.fpOk (Ak _) (I1.hok.fresh (Ak _))
 exact ⟨s1.heap.objs.size+1,[s1.heap.objs.size+1,s1.heap.objs.size],_,_,H1,rfl,I1.kept (t':=s1.toks) hk,tE l _ _ (Nat.succ_ne_self _),⟨⟨_,he⟩,hit⟩,fr,q⟩
end
section
variable{X:Cx}
def R7(K:PySem.W.Frag)(J:It)(js:List Nat)(tc:TT)(te:TE)(σ:L2.St)(H1:Hp)(Q:VK):Prop:=∀D,H1 D=none->∃W:Nat->Nat->Hp->Prop,(∃m,W 0 m (upd H1 D (.lst [])))/\∀i m H,W i m H ->
 (J.stop i H/\Q (.ref D) H)\/(J.go i H/\∀x H',J.yld i H x H'->∃(t:Addr) (w1 w2:V),x=.ref t/\Uh K H' t [w1,w2]/\∃(N1:Hp->Prop) (N2:VK),(∀H2,N1 H2->∃m',m'<m/\W (i+1) m' H2) /\
  (∀y H3,N2 y H3->∃acc,H3 D=some (.lst acc)/\acc.length<Au/\∃m',m'<m/\W (i+1) m' (upd H3 D (.lst (acc++[y])))) /\
  tc (some w1::some w2::Gn σ js) H' λc H2=>if c=true then te (some w1::some w2::Gn σ js) H2 N2 else N1 H2)
def xC(K:PySem.W.Frag)(wi:TI)(js:List Nat)(tc:TT)(te:TE):TE:=λσ H Q=>wi σ H λJ H1=>R7 K J js tc te σ H1 Q
theorem wZ(C:CompScope X scope cl x ys js)(own2:t8 scope x2)(nd2:(x::x2::ys).Nodup)(hc:X.calm=true)(hi:PI X (.Tuple [.Name x px,.Name x2 px2] kt pt) iter wi)(ht:∀fp s H,oQ (Ek X scope cl (x::x2::ys) fp s H) ifs tc)(he:∀fp s H,PE (Ek X scope cl (x::x2::ys) fp s H) elt te)(hs:∀x,Ee iter X.env x=pure x:=by intro _; rfl):PE X (.ListComp elt [⟨.Tuple [.Name x px,.Name x2 px2] kt pt,iter,ifs,0⟩] scope pos) (xC X.K wi js tc te):=by
 intro pins s σ H Q I h
 rw[eval_ListComp]
 refine Tj (use:=none) rfl hs C.clos C.kind C.locs (Gk (hi pins s σ H _ I h) λv s1 h1=>Gk h1 λitv s2 h2=>?_)
 obtain ⟨it,fp,tn,J,H2,e,I2,T,st2,f2,q2⟩:=h2
 subst e
 have fD:H2 s2.heap.objs.size=none:=I2.hok.fresh (Ak _)
 obtain ⟨W,⟨m0,w0⟩,turn⟩:=q2 s2.heap.objs.size fD
 refine Du ?_
 have I3:Inv X pins σ (upd H2 s2.heap.objs.size (.lst [])) { s2 with heap:=s2.heap.push { cls:=.type "list",dict:=none,data:=.seq ([]:List Value).toArray } } :=
  I2.laid (t':=s2.toks) (λb u q=>Ai _ q) (Ak _) ⟨Dg _,[],0,.nil,Bf _ rfl⟩
 obtain ⟨f3,st3',o3'⟩:=Zx I2 T st2 f2 I3
 generalize hS3:({ s2 with heap:=s2.heap.push { cls:=.type "list",dict:=none,data:=.seq ([]:List Value).toArray } }:Aj)=s3 at I3
 have st3:tn 0 s3.heap:=by rw[<- hS3]; exact st3'
 have o3:∀b∈fp,∃o,s3.heap.get? b=some o:=by rw[<- hS3]; exact o3'
 show wpAny _ _ (Rf scope X.env.globals cl [] X.env.qual none .none (some X.env)) _ _ _
 refine Xh C λh4 hns4 keep4 new4=>?_
 have I4:∀tk,Inv (Ek X scope cl (x::x2::ys) fp s3 (upd H2 s2.heap.objs.size (.lst []))) [] (none::none::Gn σ js) (upd H2 s2.heap.objs.size (.lst [])) { s3 with heap:=h4,toks:=tk }:=λtk=>Uk (pre:=[x,x2]) C I3 f3 o3 hns4 keep4 new4
 have st4:tn 0 h4:=T.keep 0 _ _ st3 λb hb o q=>keep4 b o q
 generalize hX':Ek X scope cl (x::x2::ys) fp s3 (upd H2 s2.heap.objs.size (.lst []))=X' at I4
 obtain ⟨eP,eW,eK,eA,eC⟩:=aM hc hX'
 have stat:∀{H':Hp},(∀b∈fp,H' b=none)->∀b∈fp,Mu X' [] H' b:=λ{H'} hn=>Xf hX' (I4 0) hn
 have loop:∀s5:Aj,s5={ s3 with heap:=h4,toks:=s3.toks+([]:List (Str×Value)).length } ->
   Oo (model X.prog X.w) X.A (.compLoop (.ListComp elt [⟨.Tuple [.Name x px,.Name x2 px2] kt pt,iter,ifs,0⟩] scope pos) 0 (.ref it) (.ref s2.heap.objs.size) (compEnvC scope (Ep (s3.heap.objs.size+1) scope.names cl) s3.heap.objs.size X.env))
    (compPost (model X.prog X.w) X.A X.xe none (EP X pins σ Q) (.ref s2.heap.objs.size) s3.heap.objs.size) s5:=by
  rintro s5 rfl
  refine Uu (λn s'=>∃i o o2 H',Inv X' [] (o::o2::Gn σ js) H' s'/\tn i s'.heap/\(∀b∈fp,H' b=none)/\W i n H') ?_ m0
   ⟨0,none,none,_,I4 _,st4,λb hb=>(f3 b hb).1,w0⟩
  (intro n s6 q_; obtain ⟨i,o,o2,H6,I6,st6,fr6,w6⟩ := q_)
  rcases turn i n H6 w6 with ⟨stop,qn⟩ | ⟨go,step⟩
  ·have hd:=T.done X' eP eW eK eC i [] s6 _ H6 (λ_ _=>False) I6 (stat fr6) st6 stop
   rw[eA] at hd
   refine Gk hd λr s7 q0_ => ?_
   obtain ⟨hr,I7⟩ := q0_
   subst hr
   obtain ⟨m7,hn7,fin7⟩:=bS hX' I3 f3 I7
   exact ⟨m7,hn7,λh8 hs8=>⟨.ref s2.heap.objs.size,H6,fin7 h8 hs8,rfl,qn⟩⟩
  ·have hit:=T.item X' eP eW eK eC i [] s6 _ H6 (λ_ _=>False) I6 (stat fr6) st6 go
   rw[eA] at hit
   refine Gk hit λr s7 q0_ => ?_
   obtain ⟨u,hr,h7⟩ := q0_
   subst hr
   refine Gk h7 λ_ s8 q0_ => ?_
   obtain ⟨y,H8,I8,r8,y8,st8,fr8⟩ := q0_
   have I8':=I8.pinned (stat fr8) (T.obj _ _ st8)
   obtain ⟨tp,w1,w2,ey,hsq,N1,N2,hN1,hN2,hst⟩:=step y H8 y8
   have again:∀{H9:Hp} {s9:Aj} {m':Nat},Inv X' ([]++Us fp s8.heap) (some w1::some w2::Gn σ js) H9 s9->m'<n->W (i+1) m' H9->∃m,m<n/\∃i o o2 H',Inv X' [] (o::o2::Gn σ js) H' s9/\tn i s9.heap/\(∀b∈fp,H' b=none)/\W i m H':=λ{H9 s9 m'} I9 hm w9=>by
    refine ⟨m',hm,i+1,some w1,some w2,H9,I9.unpinned,T.keep _ _ _ st8 λb hb o e=>(I9.pin (b,o) (Al _ (Al _ (Jk hb e)))).1,λb hb=>?_,w9⟩
    obtain ⟨o,e,_⟩:=T.obj _ _ st8 b hb
    exact (I9.pin (b,o) (Al _ (Al _ (Jk hb e)))).2.1
   subst hX'
   have g1:PG (Ek X scope cl (x::x2::ys) fp s3 (upd H2 s2.heap.objs.size (.lst []))) (.Tuple [.Name x px,.Name x2 px2] kt pt) (AZ X.K 2 (u0 (Xz 0) (u0 (Xz 1) DU))) :=
    zV (X:=Ek X scope cl (x::x2::ys) fp s3 (upd H2 s2.heap.objs.size (.lst []))) hc (bM (Ow (i:=0) (x:=x) nd2 rfl (Zf C.own) (gY C.own)) (bM (Ow (i:=1) (x:=x2) nd2 rfl (Zf own2) (gY own2)) rW))
   refine Gk (g1 _ s8 _ H8 y u (λσ' H'=>σ'=some w1::some w2::Gn σ js/\H'=H8) I8' r8 ⟨tp,[w1,w2],ey,hsq,rfl,_,_,rfl,_,_,rfl,rfl,rfl,rfl⟩) λ_ s9 q0_ => ?_
   obtain ⟨σ9,H9,I9,e9,e9'⟩ := q0_
   subst e9 e9'
   refine Gk (ht fp s3 _ _ s9 _ _ _ I9 hst) λok s10 q0_ => ?_
   obtain ⟨H10,I10,q10⟩ := q0_
   cases ok with
   | false =>
    rw[if_neg Bt] at q10 ⊢
    obtain ⟨m',hm,w10⟩:=hN1 _ q10
    exact again I10 hm w10
   | true =>
    rw[if_pos rfl] at q10 ⊢
    refine Gk (he fp s3 _ _ s10 _ _ _ I10 q10) λz s11 q0_ => ?_
    obtain ⟨vz,H11,I11,r11,q11⟩ := q0_
    obtain ⟨acc,ha,hz,m',hm,w11⟩:=hN2 _ _ q11
    refine Gk (Qb _ s11 _ H11 (.ref s2.heap.objs.size) [vz] (.ref s2.heap.objs.size) [z] (λ_ H'=>H'=upd H11 s2.heap.objs.size (.lst (acc++[vz]))) I11 rfl (.cons r11 .nil) ⟨_,acc,vz,rfl,rfl,ha,hz,rfl⟩) λ_ s12 q0_ => ?_
    obtain ⟨_,H12,I12,_,e12⟩ := q0_
    subst e12
    exact again I12 hm w11
 exact Vc (loop _ rfl) (T.self X.A 0 _ _ _ st4 (loop _ rfl))
end
section
variable{X:Cx}
theorem qZ{elt iter:Expr}{x y0:Str}{px py pos spos:Pos}{i0:Nat}{ifs:List Expr}{scope:Scope}(hN:X.N.Nodup)(hi0:X.N[i0]? = some y0)(hy0:X.env.scope.names.lookup y0=some .local)(C:CompScope X scope cl x ys js)(hc:X.calm=true)(hi:PI X (.Name x px) iter wi)(ht:∀fp s H,oQ (Ek X scope cl (x::ys) fp s H) ifs tc)(he:∀fp s H,PE (Ek X scope cl (x::ys) fp s H) elt te)(hs:∀x,Ee iter X.env x=pure x:=by intro _; rfl)(hsw:Kd (.ListComp elt [⟨.Name x px,iter,ifs,0⟩] scope pos) (some (.Name y0 py)) spos.line X.env=pure true:=by rfl):PS X (.Assign [.Name y0 py] (.ListComp elt [⟨.Name x px,iter,ifs,0⟩] scope pos) spos) (J2 (kO wi js tc te) (Xz i0)):=by
 intro pins s σ H De I h
 have h:kO wi js tc te σ H λv H1=>De.nx (σ.set i0 (some v)) H1:=h
 rw[exec_Assign_Name_used _ _ _ _ hsw]
 refine Aa (wpAny_standAt (Aa ?_))
 show wpAny _ X.A (do let _ <- comprehension (.ListComp elt [⟨.Name x px,iter,ifs,0⟩] scope pos) scope X.env _ (newList []) false (eval iter X.env) (some (assign (.Name y0 py) X.env))) _ _ s
 refine Aa (Ft (Tj (use:=some (assign (.Name y0 py) X.env)) (Q:=λ_ s'=>SP X pins De .next s') rfl hs C.clos C.kind C.locs (Gk (hi pins s σ H _ I h) λv s1 h1=>Gk h1 λitv s2 h2=>?_)) (λ_ s' hq=>Am (Am hq)) λ_ _ e=>e)
 obtain ⟨it,fp,tn,J,H2,e,I2,T,st2,f2,q2⟩:=h2
 subst e
 have fD:H2 s2.heap.objs.size=none:=I2.hok.fresh (Ak _)
 obtain ⟨W,⟨m0,w0⟩,turn⟩:=q2 s2.heap.objs.size fD
 refine Du ?_
 have I3:Inv X pins σ (upd H2 s2.heap.objs.size (.lst [])) { s2 with heap:=s2.heap.push { cls:=.type "list",dict:=none,data:=.seq ([]:List Value).toArray } } :=
  I2.laid (t':=s2.toks) (λb u q=>Ai _ q) (Ak _) ⟨Dg _,[],0,.nil,Bf _ rfl⟩
 obtain ⟨f3,st3',o3'⟩:=Zx I2 T st2 f2 I3
 generalize hS3:({ s2 with heap:=s2.heap.push { cls:=.type "list",dict:=none,data:=.seq ([]:List Value).toArray } }:Aj)=s3 at I3
 have st3:tn 0 s3.heap:=by rw[<- hS3]; exact st3'
 have o3:∀b∈fp,∃o,s3.heap.get? b=some o:=by rw[<- hS3]; exact o3'
 show wpAny _ _ (Rf scope X.env.globals cl [] X.env.qual none .none (some X.env)) _ _ _
 refine Xh C λh4 hns4 keep4 new4=>?_
 have I4:∀tk,Inv (Ek X scope cl (x::ys) fp s3 (upd H2 s2.heap.objs.size (.lst []))) [] (none::Gn σ js) (upd H2 s2.heap.objs.size (.lst [])) { s3 with heap:=h4,toks:=tk }:=λtk=>Uk (pre:=[x]) C I3 f3 o3 hns4 keep4 new4
 have st4:tn 0 h4:=T.keep 0 _ _ st3 λb hb o q=>keep4 b o q
 generalize hX':Ek X scope cl (x::ys) fp s3 (upd H2 s2.heap.objs.size (.lst []))=X' at I4
 obtain ⟨eP,eW,eK,eA,eC⟩:=aM hc hX'
 have stat:∀{H':Hp},(∀b∈fp,H' b=none)->∀b∈fp,Mu X' [] H' b:=λ{H'} hn=>Xf hX' (I4 0) hn
 have loop:∀s5:Aj,s5={ s3 with heap:=h4,toks:=s3.toks+([]:List (Str×Value)).length } ->
   Oo (model X.prog X.w) X.A (.compLoop (.ListComp elt [⟨.Name x px,iter,ifs,0⟩] scope pos) 0 (.ref it) (.ref s2.heap.objs.size) (compEnvC scope (Ep (s3.heap.objs.size+1) scope.names cl) s3.heap.objs.size X.env))
    (compPost (model X.prog X.w) X.A X.xe (some (assign (.Name y0 py) X.env)) (λ_ s'=>SP X pins De .next s') (.ref s2.heap.objs.size) s3.heap.objs.size) s5:=by
  rintro s5 rfl
  refine Uu (λn s'=>∃i o H',Inv X' [] (o::Gn σ js) H' s'/\tn i s'.heap/\(∀b∈fp,H' b=none)/\W i n H') ?_ m0
   ⟨0,none,_,I4 _,st4,λb hb=>(f3 b hb).1,w0⟩
  (intro n s6 q_; obtain ⟨i,o,H6,I6,st6,fr6,w6⟩ := q_)
  rcases turn i n H6 w6 with ⟨stop,qn⟩ | ⟨go,step⟩
  ·have hd:=T.done X' eP eW eK eC i [] s6 _ H6 (λ_ _=>False) I6 (stat fr6) st6 stop
   rw[eA] at hd
   refine Gk hd λr s7 q0_ => ?_
   obtain ⟨hr,I7⟩ := q0_
   subst hr
   obtain ⟨⟨m7,hn7'⟩,I7f,J7⟩:=tX hX' I3 f3 I7
   have fC:Mu X pins H6 s3.heap.objs.size:=I3.fpOk (Ak _) I7f
   obtain ⟨oC,esC,epC,hoC,rC⟩:=id hn7'
   have J8:Inv X (pins++[(s3.heap.objs.size,oC)]) σ H6 s7:=J7.pins_of λp hp=>by
    rcases Ay.mp hp with z | z
    ·have q:=J7.pin p (Al _ z)
     exact q
    ·rw[Af.mp z]
     exact ⟨hoC,I7f,fC.2.1,fC.2.2.1,λv hv=>by rw[rC.1] at hv; cases hv⟩
   refine Gk (Ow (X:=X) (i:=i0) (x:=y0) (pos:=py) hN hi0 (.inl hy0) (.inr hy0) (pins++[(s3.heap.objs.size,oC)]) s7 σ H6 (.ref s2.heap.objs.size) (.ref s2.heap.objs.size) (λσ' H'=>σ'=σ.set i0 (some (.ref s2.heap.objs.size))/\H'=H6) J8 rfl ⟨rfl,rfl⟩) λ_ s9 q0_ => ?_
   obtain ⟨σ9,H9,I9,e9,e9'⟩ := q0_
   subst e9 e9'
   have hoC9:=(I9.pin (s3.heap.objs.size,oC) (Al _ (Al _ Ab))).1
   have I9':Inv X pins (σ.set i0 (some (.ref s2.heap.objs.size))) H9 s9:=I9.pins_of λp hp=>I9.pin p (Al _ (Ao _ hp))
   refine ⟨m7,hn7'.at λo e=>by rw[hoC] at e; cases e; exact hoC9,λh10 hs10=>?_⟩
   exact ⟨_,H9,Nh (t':=s9.toks) (fp:=[s3.heap.objs.size]) I9' (λb o hb e=>(hs10.2 b (λz=>hb (by rw[z]; exact Ab))).trans e) (λb hb=>by rw[Af.mp hb]; exact fC),qn⟩
  ·have hit:=T.item X' eP eW eK eC i [] s6 _ H6 (λ_ _=>False) I6 (stat fr6) st6 go
   rw[eA] at hit
   refine Gk hit λr s7 q0_ => ?_
   obtain ⟨u,hr,h7⟩ := q0_
   subst hr
   refine Gk h7 λ_ s8 q0_ => ?_
   obtain ⟨y,H8,I8,r8,y8,st8,fr8⟩ := q0_
   have I8':=I8.pinned (stat fr8) (T.obj _ _ st8)
   obtain ⟨N1,N2,hN1,hN2,hst⟩:=step y H8 y8
   have again:∀{H9:Hp} {s9:Aj} {m':Nat},Inv X' ([]++Us fp s8.heap) (some y::Gn σ js) H9 s9->m'<n->W (i+1) m' H9->∃m,m<n/\∃i o H',Inv X' [] (o::Gn σ js) H' s9/\tn i s9.heap/\(∀b∈fp,H' b=none)/\W i m H':=λ{H9 s9 m'} I9 hm w9=>by
    refine ⟨m',hm,i+1,some y,H9,I9.unpinned,T.keep _ _ _ st8 λb hb o e=>(I9.pin (b,o) (Al _ (Al _ (Jk hb e)))).1,λb hb=>?_,w9⟩
    obtain ⟨o,e,_⟩:=T.obj _ _ st8 b hb
    exact (I9.pin (b,o) (Al _ (Al _ (Jk hb e)))).2.1
   subst hX'
   refine Gk (Ow (i:=0) (x:=x) (pos:=px) C.nd rfl (Zf C.own) (gY C.own) _ s8 _ H8 y u (λσ' H'=>σ'=some y::Gn σ js/\H'=H8) I8' r8 ⟨rfl,rfl⟩) λ_ s9 q0_ => ?_
   obtain ⟨σ9,H9,I9,e9,e9'⟩ := q0_
   subst e9 e9'
   refine Gk (ht fp s3 _ _ s9 _ _ _ I9 hst) λok s10 q0_ => ?_
   obtain ⟨H10,I10,q10⟩ := q0_
   cases ok with
   | false =>
    rw[if_neg Bt] at q10 ⊢
    obtain ⟨m',hm,w10⟩:=hN1 _ q10
    exact again I10 hm w10
   | true =>
    rw[if_pos rfl] at q10 ⊢
    refine Gk (he fp s3 _ _ s10 _ _ _ I10 q10) λz s11 q0_ => ?_
    obtain ⟨vz,H11,I11,r11,q11⟩ := q0_
    obtain ⟨acc,ha,hz,m',hm,w11⟩:=hN2 _ _ q11
    refine Gk (Qb _ s11 _ H11 (.ref s2.heap.objs.size) [vz] (.ref s2.heap.objs.size) [z] (λ_ H'=>H'=upd H11 s2.heap.objs.size (.lst (acc++[vz]))) I11 rfl (.cons r11 .nil) ⟨_,acc,vz,rfl,rfl,ha,hz,rfl⟩) λ_ s12 q0_ => ?_
    obtain ⟨_,H12,I12,_,e12⟩ := q0_
    subst e12
    exact again I12 hm w11
 exact Vc (loop _ rfl) (T.self X.A 0 _ _ _ st4 (loop _ rfl))
end
end Nd
namespace Nd
open PySem L2
end Nd
namespace Nd
open PySem PySem.Spec PyProof.Rows L2
end Nd
namespace Nd
open PySem L2
def HN(K:PySem.W.Frag):List V->Hp->VK->Prop:=λxs H Q=>∃x n t b,xs=[x,.ty n]/\TyOf K H x t/\PySem.W.kitOne K t (.type n)=some b/\Q (.bl b) H
theorem Ui:Ld X (.builtin "isinstance") (HN X.K):=kU
theorem U8:PySem.W.kitOne K (.type T) (.type T)=some true:=by
 unfold PySem.W.kitOne
 rw[if_pos (by simp)]
theorem compScope0(clos:closureFor scope X.env=pure [])(nocell:∀y∈scope.names,y.2≠.cell)(kind:scope.kind=.function)(locs:∀y∈scope.names,y.2=.local->scope.names.lookup y.1=some .local)(own:scope.names.lookup x=some .local)(has_:(scope.names.all λy=>!(y.2 == Dx) || (([]:List (Str×Addr)).lookup y.1).isSome)=true):CompScope X scope [] x [] [] :=
 ⟨clos,.inl nocell,kind,locs,.inl own,λ_ _ h=>by simp at h,has_,By.mpr ⟨Av,Dc⟩,rfl,λk y j e1 _=>by simp at e1⟩
theorem sz(h:n<=1000:=by first | decide | simp | (simp; omega)):n<=Au:=Pf (fK h)
end Nd
namespace Nd
open PySem PySem.Spec PyProof.Rows L2
theorem V9{K:PySem.W.Frag}(h1:(Hs T == Hs n)=false)(h2:PySem.W.kitMeta n=true)(h3:(fastBuiltinMro T).map (λx=>x.contains (Hs n))=some b):PySem.W.kitOne K (.type T) (.type n)=some b:=by
 unfold PySem.W.kitOne PySem.W.kitCls
 rw[h1,if_neg (by decide)]
 dsimp only
 rw[if_pos h2]
 exact h3
theorem vJ(xs:Array Value):((Di xs.size).filterMap λ(k:Nat)=>xs[((xs.size:Int) - 1+(k:Int) * (-1)).toNat]?).toArray=xs.toList.reverse.toArray:=by
 congr 1
 have h:∀n,n<=xs.size->((Di n).filterMap λ(k:Nat)=>xs[((xs.size:Int) - 1+(k:Int) * (-1)).toNat]?)=xs.toList.reverse.take n:=by
  intro n
  induction n with
  | zero=>intro _; simp
  | succ n ih =>
   intro hn
   rw[List.range_succ,List.filterMap_append,ih (by omega)]
   have e:((xs.size:Int) - 1+(n:Int) * (-1)).toNat=xs.size - 1 - n:=by omega
   have lt:n<xs.toList.reverse.length:=by rw[Ia,Az]; omega
   rw[Ju,Ba lt]
   congr 1
   simp only[Oj,List.filterMap_nil,e]
   rw[jB (by omega),List.getElem_reverse]
   simp
 have:=h xs.size (Ak _)
 rw[this]
 rw[Er (by rw[Ia,Az]; exact Ak _)]
section
variable{X:Cx}
theorem zN(xs:Array Value):slicePick xs none none (some (-1))=xs.toList.reverse.toArray:=by
 rw[<- vJ]
 unfold slicePick
 congr 1
 have e1:sliceRange (Jn none none (some (-1)) xs.size).1 (Jn none none (some (-1)) xs.size).2.1 (Jn none none (some (-1)) xs.size).2.2=(Di xs.size).map λ(k:Nat)=>((xs.size:Int) - 1+(k:Int) * (-1)).toNat:=by
  show sliceRange ((xs.size:Int) - 1) (-1) (-1)=_
  unfold sliceRange
  have c:(if (-1:Int) > 0 then (if (xs.size:Int) - 1 < -1 then (-1 - ((xs.size:Int) - 1) + -1 - 1) / -1 else 0) else (if (xs.size:Int) - 1 > -1 then ((xs.size:Int) - 1 - -1 - -1 - 1) / (- -1) else 0)).toNat=xs.size:=by
   rw[if_neg (by decide),show (- -1:Int)=1 from rfl,Int.ediv_one]
   split <;> omega
  dsimp only
  rw[c]
  refine Fo λk _=>?_
  congr 1
  omega
 rw[e1,Xx]
 rfl
theorem C5(he:PE X e te)(hk:PE X k tk)(htk:∀σ H Q,Q (.int (-1)) H->tk σ H Q):PE X (.Subscript e (.Slice none none (some k) p2) pos) (λσ H Q=>te σ H λx H1=>∃a xs,x=.ref a/\Mc X.K H1 a xs/\∀p,H1 p=none->Q (.ref p) (upd H1 p (.lst xs.reverse))):=by
 intro pins s σ H Q I h
 refine Subscript_ (Gk (he pins s σ H _ I h) λv s1 q0_ => ?_)
 obtain ⟨x,H1,I1,r1,a,xs,e1,hx,q⟩ := q0_
 subst e1
 cases r1
 refine wpAny_Slice ?_
 rw[evalPart_none]
 refine Am (Am ?_)
 rw[evalPart_some]
 refine Gk (hk pins s1 σ H1 (λy H2=>y=.int (-1)/\H2=H1) I1 (htk _ _ _ ⟨rfl,rfl⟩)) λvk s2 q0_ => ?_
 obtain ⟨y,H2,I2,r2,e2,e3⟩ := q0_
 subst e2
 subst e3
 obtain ⟨t,rfl⟩:=r2
 have I3:Inv X pins σ H2 { s2 with heap:=s2.heap.push { cls:=.type "slice",data:=.fields #[.none,.none,.int (-1) t] } }:=I2.kept (t':=s2.toks) λb ob q=>Ai _ q
 obtain ⟨its,r,ht,hz⟩:=I3.list hx
 have hlen:=r.length
 show wpAny (model X.prog X.w) X.A (cO e (.Slice none none (some k) p2) (.ref a) (.ref s2.heap.objs.size)) (EP X pins σ Q) X.xe { s2 with heap:=s2.heap.push { cls:=.type "slice",data:=.fields #[.none,.none,.int (-1) t] } }
 refine tail_any (ops:=[.ref a,.ref s2.heap.objs.size]) (T := "list") ht.isList.typeIs fS.lookup (vG ht.isList (Heap.IsSliceOf.new ..) .none .none (.int (-1) t) (by simp) ?_ (by rw[Aq] <;> omega)) (by with_unfolding_all rfl)
 rw[zN]
 exact ⟨.ref _,_,I3.laid (o:=.lst xs.reverse) (t':=s2.toks) (λb ob q=>Ai _ q) (Ak _) ⟨by rw[Ia]; exact hz,its.reverse,0,r.reverse,by
  have z:=Bf (s2.heap.push { cls:=.type "slice",data:=.fields #[.none,.none,.int (-1) t] }) (o:={ cls:=.type "list",data:=.seq its.toArray.toList.reverse.toArray }) rfl
  simpa using z⟩,rfl,q _ (I3.hok.fresh (Ak _))⟩
end
end Nd
namespace NdS
open PySem
def st(m i:Nat):Nat:=(i * 5+1) % m
def it(m:Nat):Nat->Nat->Nat
 | 0,i=>i
 | t+1,i=>it m t (st m i)
def HJ(m:Nat):Nat->Nat->List Nat
 | 0,_=>[]
 | f+1,i=>i::HJ m f (st m i)
def CL(m:Nat):Prop:=0<m/\it m m 0=0/\∀e,e<m->e∈HJ m m 0
def lp(m:Nat):Nat->Nat->Nat->Nat×Nat
 | 0,i,p=>(i,p)
 | t+1,i,p=>lp m t ((i * 5+1+p / 32) % m) (p / 32)
abbrev GE(p:Array Nat):Prop:=p.toList.Pairwise (· < ·)
structure TabOk(n:Nat)(t:SetTable):Prop where
 good:CL (t.mask+1)
 dum:t.dummies=#[]
 plain:t.plain=true
 rise:GE t.place
 Pu:∀j∈t.place.toList,j<=t.mask
 size:t.place.size=n
structure Tab(n:Nat)(t:SetTable):Prop extends TabOk n t where
 room:n * 5<t.mask * 3
abbrev bt(w:World):Bool:=w.params.followText "set-order"
def CQ:Int×Value->Int
 | (_,.int k _)=>k
 | _=>0
def CP(e:Int×Value):Prop:=∃k tk,e=(hashInt k,Uw k tk)
abbrev keys(es:Array (Int×Value)):List Int:=es.toList.map CQ
abbrev U3(es:Array (Int×Value))(ep:Nat)(t:SetTable):Obj:={ cls:=.type "set",dict:=none,data:=.set es ep t }
structure SetS(w:World)(h:Heap)(a:Addr)(es:Array (Int×Value))(ep:Nat)(t:SetTable):Prop where
 obj:h.get? a=some (U3 es ep t)
 ent:∀e∈es.toList,CP e
 nd:(keys es).Nodup
 tab:Tab es.size t
 led:bt w=false->t.led=true
 few:es.size<64
def ins(k:Int)(l:List Int):List Int:=if k∈l then l else k::l
theorem dZ(h:n<64):n<=Au:=by rw[Jo]; omega
theorem len_leI:∀{l1 l2:List Int},l1.Nodup->(∀e∈l1,e∈l2)->l1.length<=l2.length
 | [],_,_,_=>Dg _
 | a::l1,l2,nd,h=>by
  have nd':=By.mp nd
  have ha:=h a (Ab ..)
  have:=len_leI (l2:=l2.erase a) nd'.2 λe he=>(List.mem_erase_of_ne (show e≠a from λz=>nd'.1 (by rw[<- z]; exact he))).mpr (h e (Ae _ he))
  rw[mN ha] at this
  have p:0<l2.length:=pQ ha
  rw[Br]
  omega
end NdS
namespace NdS
open PySem PyProof.Rows
def arrOf(w:World)(a:Addr)(ep:Nat)(es:Array (Int×Value)):Array (Int×Value):=if bt w then pickOrder (w.params.setOrder a ep) es else es
end NdS
namespace Nd
open PySem PySem.Spec PyProof.Rows L2 NdS
def BP(w:World)(a:Addr)(ks:List Int)(h:Heap):Prop:=∃es ep t,SetS w h a es ep t/\∀x,x∈keys es↔x∈ks
abbrev GG(w:World)(a:Addr)(ks:List Int):HO:=.ext (BP w a ks)
end Nd
namespace Nd
open PySem L2
def Tz(d:Addr)(H H':Hp):Prop:=∀b o,b≠d->H b=some o->H' b=some o
theorem Tz.trans(a:Tz d H H1)(b:Tz d H1 H2):Tz d H H2:=λc o n h=>b c o n (a c o n h)
theorem Tz.upd:Tz d H (upd H d o):=λb o n h=>by rw[Cy n]; exact h
theorem dZ(h:n<=1000):n<=Au:=Pf (fK h)
theorem jG(h:n<=1000000):n<=Au:=by rw[Jo]; omega
theorem iM(a b:Int)(h:0<b):0<=a % b/\a % b<b:=⟨Int.emod_nonneg _ (by omega),Int.emod_lt_of_pos _ h⟩
def Lj(h:Int)(ns:List Int):Prop:=ns.Pairwise (· < ·)/\∀x∈ns,0<=x/\x<h
theorem Lj.nil(h:Int):Lj h []:=⟨Kq,λx hx=>by cases hx⟩
theorem Lj.more(r:Lj h ns)(h0:0<=h):Lj (h+1) (ns++[h]) :=
 ⟨Ca.mpr ⟨r.1,Ge _ _,λa ha b hb=>by rw[Af.mp hb]; exact (r.2 a ha).2⟩,λx hx=>by
  rcases Ay.mp hx with z | z
  ·have:=r.2 x z; omega
  ·have:=Af.mp z; omega⟩
theorem Lj.up(r:Lj h ns)(l:h<=h'):Lj h' ns:=⟨r.1,λx hx=>by have:=r.2 x hx; omega⟩
def aW(H:Hp)(d:Addr)(c k:Int)(f:Bool):Prop:=H d=some (.lst [.int c,.int k,.bl f])
def yY:Sp:=λvs H Q _=>∃(d:Addr) (c k:Int) (f:Bool),vs=[.ref d]/\aW H d c k f/\0<=k/\k<=1000000/\∀(r c':Int) (H':Hp),aW H' d c' (k+1) f->Tz d H H'->Q (.int r) H'
def Cn(ns:List Int):Ac:=.tuple (ns.map Ag)
theorem pH(ns:List Int):(Cn ns).depth<=1:=by
 have : (Cn ns).depth<=Bo (ns.map Ag)+1:=by simp [Cn,Cm]
 rw[oO] at this
 exact this
theorem L8(TD:List Ac):Ec (.list TD) (.list [])=TD.isEmpty:=by cases TD <;> simp [Ec,Om]
def order{α:Type}(a b:α)(l:List α):Option Bool->List α
 | none=>l
 | some true=>[a,b]
 | some false=>[b,a]
structure TD(K:PySem.W.Frag)(H:Hp)(x:V)(d:Ac)(n m:Nat):Prop where
 rd:RdV K H x d
 fits:Nk 22 d
 nd:Oe d<=n
 dp:d.depth<=m
abbrev O9(K:PySem.W.Frag):List V->Hp->VK->Prop:=λxs H Q=>∃p ys,xs=[V.ref p]/\(Mc K H p ys\/Uh K H p ys)/\∀l,H l=none->Q (.ref l) (upd H l (.lst ys))
theorem sH:Ld X (.type "list") (O9 X.K):=iF
abbrev P9(K:PySem.W.Frag):List V->Hp->VK->Prop:=λxs H Q=>∃p ys,xs=[V.ref p]/\((Mc K H p ys/\∀l,H l=none->Q (.ref l) (upd H l (.tup ys)))\/(Uh K H p ys/\Q (.ref p) H))
theorem j8:Ld X (.type "tuple") (P9 X.K):=dJ
end Nd
namespace DL
open PySem L2 Nd
def KL(K:PySem.W.Frag)(H:Hp)(a:Addr)(xs:List V):Prop :=
 (∃o,H a=some (.frz o (.lst xs)))\/∃(its:Array Value) (n:Nat),K.lookup a=some { cls:=.type "list",data:=.seq its n }/\its.size<=Au/\Fg xs its.toList
def aO:Nat->Ac
 | 0=>.none
 | n+1=>.tuple [aO n]
def Qz(ks:List (List Int×Ac)):List (Ac×Ac):=(aO 100,.none)::ks.map λp=>(Cn p.1,p.2)
def Yu(ks:List (Int×Ac)):List (Ac×Ac):=(aO 100,.bool true)::ks.map λp=>(.int p.1,p.2)
def M8:List (Ac×Ac)->Bool
 | (_,.none)::_=>true
 | _=>false
def tQ:List (Ac×Ac)->Bool
 | (_,.bool _)::_=>true
 | _=>false
def Wg(a:Addr)(ks:List (List Int×Ac)):List (Ac×Ac):=(aO 100,.int a)::ks.map λp=>(Cn p.1,p.2)
def Kg(w:List Int):List Hj:=w.map Rb
mutual
inductive RdF (K:PySem.W.Frag) (H:Hp):V->Ac->List Addr->Prop
 | non:RdF K H .non .none []
 | bl (b:Bool):RdF K H (.bl b) (.bool b) []
 | int (i:Int):RdF K H (.int i) (.int i) []
 | str (x:Str):RdF K H (.str x) (.str x) []
 | lst {a:Addr} {xs:List V} {ds:List Ac} {F:List Addr}:H a=some (.lst xs)->ds.length<=Au->RdFs K H xs ds F->RdF K H (.ref a) (.list ds) (a::F)
 | tup {a:Addr} {xs:List V} {ds:List Ac} {F:List Addr}:H a=some (.tup xs)->ds.length<=Au->RdFs K H xs ds F->RdF K H (.ref a) (.tuple ds) F
 | dic {a:Addr} {kv:List (List Hj×V)} {ks:List (List Int×Ac)}:H a=some (.dT kv)->kv.map (·.1)=ks.map (λp=>Kg p.1)->RdFs K H (kv.map (·.2)) (ks.map (·.2)) []->RdF K H (.ref a) (.dict (Qz ks)) [a]
 | dik {a:Addr} {kv:List (Hj×V)} {ks:List (Int×Ac)}:H a=some (.dK kv)->kv.map (·.1)=ks.map (λp=>(Rb p.1:Hj))->RdFs K H (kv.map (·.2)) (ks.map (·.2)) []->RdF K H (.ref a) (.dict (Yu ks)) [a]
 | dnm {a:Addr} {kv:List (List Hj×V)} {ks:List (List Int×Ac)}:H a=some (.dT kv)->kv.map (·.1)=ks.map (λp=>Kg p.1)->RdFs K H (kv.map (·.2)) (ks.map (·.2)) []->RdF K H (.ref a) (.dict (Wg a ks)) [a]
inductive RdFs (K:PySem.W.Frag) (H:Hp):List V->List Ac->List Addr->Prop
 | nil:RdFs K H [] [] []
 | cons {x:V} {d:Ac} {xs:List V} {ds:List Ac} {F G:List Addr}:RdF K H x d F->RdFs K H xs ds G->RdFs K H (x::xs) (d::ds) (F++G)
end
def HZ(o:HO):Prop:=(∃xs,o=.tup xs)\/∃ob u,o=.frz ob u
def Kp(F:List Addr)(H H':Hp):Prop:=∀b o,H b=some o->(b∈F\/HZ o)->H' b=some o
theorem Kp.of(s:Ms H H'):Kp F H H':=λb o e _=>s b o e
theorem Kp.sub(k:Kp F H H')(h:∀a∈G,a∈F):Kp G H H':=λb o e z=>k b o e (z.imp (h b) id)
section
variable{K:PySem.W.Frag}{H H':Hp}
theorem KL.kp(h:KL K H a xs)(k:Kp F H H'):KL K H' a xs:=by
 rcases h with ⟨o,h⟩ | h
 ·exact .inl ⟨o,k _ _ h (.inr (.inr ⟨_,_,rfl⟩))⟩
 ·exact .inr h
theorem KL.sq(h:KL K H a xs):Mc K H a xs:=by
 rcases h with ⟨o,h⟩ | ⟨its,n,h,hz,r⟩
 ·exact .inl (.inr ⟨o,h⟩)
 ·exact .inr ⟨_,its,n,h,rfl,rfl,rfl,hz,r⟩
mutual
theorem RdF.kp:∀{v:V} {d:Ac} {F:List Addr},RdF K H v d F->Kp F H H'->RdF K H' v d F
 | _,_,_,.non,_=>.non
 | _,_,_,.bl b,_=>.bl b
 | _,_,_,.int i,_=>.int i
 | _,_,_,.str x,_=>.str x
 | _,_,_,.lst h l hs,k=>.lst (k _ _ h (.inl Ab)) l (RdFs.kp hs (k.sub λ_ z=>Ae _ z))
 | _,_,_,.tup h l hs,k=>.tup (k _ _ h (.inr (.inl ⟨_,rfl⟩))) l (RdFs.kp hs k)
 | _,_,_,.dic h e hs,k=>.dic (k _ _ h (.inl Ab)) e (RdFs.kp hs (k.sub λ_ z=>nomatch z))
 | _,_,_,.dik h e hs,k=>.dik (k _ _ h (.inl Ab)) e (RdFs.kp hs (k.sub λ_ z=>nomatch z))
 | _,_,_,.dnm h e hs,k=>.dnm (k _ _ h (.inl Ab)) e (RdFs.kp hs (k.sub λ_ z=>nomatch z))
theorem RdFs.kp:∀{v:List V} {d:List Ac} {F:List Addr},RdFs K H v d F->Kp F H H'->RdFs K H' v d F
 | _,_,_,.nil,_=>.nil
 | _,_,_,.cons h hs,k=>.cons (RdF.kp h (k.sub λ_ z=>Ao _ z)) (RdFs.kp hs (k.sub λ_ z=>Al _ z))
end
theorem Ox:∀n,(aO n).depth=n
 | 0=>by simp [aO,Cm]
 | n+1=>by
  have:=Ox n
  simp only[aO,Cm,Bo,this]
  omega
theorem j7:100<=(PyData.dict (Yu ks)).depth:=by
 have:=Ox 100
 simp only[Yu,Cm,PyData.depthKv,this]
 omega
theorem xY:100<=(PyData.dict (Wg a ks)).depth:=by
 have:=Ox 100
 simp only[Wg,Cm,PyData.depthKv,this]
 omega
theorem u5:100<=(PyData.dict (Qz ks)).depth:=by
 have:=Ox 100
 simp only[Qz,Cm,PyData.depthKv,this]
 omega
mutual
theorem RdF.rd:∀{v:V} {d:Ac} {F:List Addr},RdF K H v d F->d.depth<=90->RdV K H v d
 | _,_,_,.non,_=>.non
 | _,_,_,.bl b,_=>.bl b
 | _,_,_,.int i,_=>.int i
 | _,_,_,.str x,_=>.str x
 | _,_,_,.lst h l hs,z=>.lst (Mc.of h) (RdFs.rd hs (by simp only[Cm] at z; omega))
 | _,_,_,.tup h l hs,z=>.tup (Uh.of h) (RdFs.rd hs (by simp only[Cm] at z; omega))
 | _,_,_,.dic h e hs,z=>absurd (Bz u5 z) (by decide)
 | _,_,_,.dik h e hs,z=>absurd (Bz j7 z) (by decide)
 | _,_,_,.dnm h e hs,z=>absurd (Bz xY z) (by decide)
theorem RdFs.rd:∀{v:List V} {d:List Ac} {F:List Addr},RdFs K H v d F->Bo d<=90->RdVs K H v d
 | _,_,_,.nil,_=>.nil
 | _,_,_,.cons h hs,z=>.cons (RdF.rd h (by simp only[Bo] at z; omega)) (RdFs.rd hs (by simp only[Bo] at z; omega))
end
mutual
theorem RdF.dom:∀{v:V} {d:Ac} {F:List Addr},RdF K H v d F->∀a∈F,∃o,H a=some o
 | _,_,_,.non,_,z=>nomatch z
 | _,_,_,.bl b,_,z=>nomatch z
 | _,_,_,.int i,_,z=>nomatch z
 | _,_,_,.str x,_,z=>nomatch z
 | _,_,_,.lst h l hs,b,z=>by
  rcases Ah.mp z with rfl | z
  ·exact ⟨_,h⟩
  ·exact RdFs.dom hs b z
 | _,_,_,.tup h l hs,b,z=>RdFs.dom hs b z
 | _,_,_,.dic h e hs,b,z=>⟨_,Af.mp z▸h⟩
 | _,_,_,.dik h e hs,b,z=>⟨_,Af.mp z▸h⟩
 | _,_,_,.dnm h e hs,b,z=>⟨_,Af.mp z▸h⟩
theorem RdFs.dom:∀{v:List V} {d:List Ac} {F:List Addr},RdFs K H v d F->∀a∈F,∃o,H a=some o
 | _,_,_,.nil,_,z=>nomatch z
 | _,_,_,.cons h hs,b,z=>by
  rcases Ay.mp z with z | z
  ·exact RdF.dom h b z
  ·exact RdFs.dom hs b z
end
theorem RdFs.len:∀{v:List V} {d:List Ac} {F:List Addr},RdFs K H v d F->v.length=d.length
 | _,_,_,.nil=>rfl
 | _,_,_,.cons _ t=>by rw[Br,Br,RdFs.len t]
theorem RdFs.get:∀{v:List V} {d:List Ac} {F:List Addr} {i:Nat} {e:Ac},RdFs K H v d F->d[i]? = some e->∃x G,v[i]? = some x/\RdF K H x e G/\G.Sublist F
 | _,_,_,_,_,.nil,z=>by simp at z
 | _,_,_,0,_,.cons h _,z=>by
  simp at z
  subst z
  exact ⟨_,_,rfl,h,List.sublist_append_left _ _⟩
 | _,_,_,i+1,e,.cons _ t,z=>by
  obtain ⟨x,G,h1,h2,h3⟩:=RdFs.get (i:=i) (e:=e) t (by simpa using z)
  exact ⟨x,G,by simpa using h1,h2,h3.trans (Cf _ _)⟩
theorem RdFs.app:∀{v w:List V} {d e:List Ac} {F G:List Addr},RdFs K H v d F->RdFs K H w e G->RdFs K H (v++w) (d++e) (F++G)
 | _,_,_,_,_,_,.nil,h=>h
 | _,_,_,_,_,_,.cons a t,h=>by
  rw[Bw]
  exact .cons a (RdFs.app t h)
theorem RdFs.snoc(t:RdFs K H v d F)(h:RdF K H x e G):RdFs K H (v++[x]) (d++[e]) (F++G):=by
 have:=t.app (.cons h .nil)
 rw[Dz] at this
 exact this
end
mutual
def imm:Ac->Bool
 | .list _=>false
 | .dict _=>false
 | .tuple xs=>Dq xs
 | _=>true
def Dq:List Ac->Bool
 | []=>true
 | x::xs=>imm x && Dq xs
end
theorem nO:∀{xs:List Ac},Dq xs=true↔∀x∈xs,imm x=true
 | []=>by simp [Dq]
 | x::xs=>by simp [Dq,nO (xs:=xs)]
theorem Ul{α:Type}{f:α->Ac}(h:∀a,imm (f a)=true)(l:List α):Dq (l.map f)=true:=nO.mpr λx hx=>by
 obtain ⟨a,_,rfl⟩:=Bu.mp hx
 exact h a
theorem p7(ns:List Int):imm (Cn ns)=true:=by
 unfold Cn
 rw[imm]
 exact Ul (λ_=>by simp [imm]) ns
section
variable{K:PySem.W.Frag}{H H':Hp}
mutual
theorem RdF.imm:∀{v:V} {d:Ac} {F:List Addr},RdF K H v d F->DL.imm d=true->F=[]
 | _,_,_,.non,_=>rfl
 | _,_,_,.bl b,_=>rfl
 | _,_,_,.int i,_=>rfl
 | _,_,_,.str x,_=>rfl
 | _,_,_,.lst h l hs,k=>by simp [DL.imm] at k
 | _,_,_,.tup h l hs,k=>RdFs.imm hs (by simpa [DL.imm] using k)
 | _,_,_,.dic h e hs,k=>by simp [DL.imm] at k
 | _,_,_,.dik h e hs,k=>by simp [DL.imm] at k
 | _,_,_,.dnm h e hs,k=>by simp [DL.imm] at k
theorem RdFs.imm:∀{v:List V} {d:List Ac} {F:List Addr},RdFs K H v d F->Dq d=true->F=[]
 | _,_,_,.nil,_=>rfl
 | _,_,_,.cons h hs,k=>by
  rw[Dq,Dk] at k
  rw[RdF.imm h k.1,RdFs.imm hs k.2]
  rfl
end
end
inductive Md where
 | pk | sh | tp | ow
 deriving DecidableEq
inductive DV where
 | un
 | dat (m:Md) (d:Ac)
 | drw
 | dT (kvs:List (List Hj×Ac))
 | val (v:V)
 | scr (ns:List Int)
 | acc (ds:List Ac)
 | grd (Hc:Hp)
 | tpl (xs:List V)
structure DS where
 sl:List DV
 n:Nat
structure Ent where
 v:Option V
 x:DV
 F:List Addr
def Le:DV->Bool
 | .dat .pk _=>true
 | _=>false
def ER:DV->Bool
 | .drw=>true
 | _=>false
def Y0:DV->Bool
 | .drw=>true
 | .acc _=>true
 | .dT _=>true
 | .grd _=>true
 | _=>false
def cells(e:Ent):List Addr:=match e.x with
 | .dat .ow _=>e.F
 | .dat .tp _=>e.F.take 1
 | .drw=>e.F
 | .dT _=>e.F
 | .acc _=>e.F.take 1
 | .grd _=>e.F
 | _=>[]
theorem En(e:Ent):∀a∈cells e,a∈e.F:=by
 obtain ⟨v,x,F⟩:=e
 intro a h
 cases x with
 | un=>exact nomatch h
 | val _=>exact nomatch h
 | scr _=>exact nomatch h
 | drw=>exact h
 | dT _=>exact h
 | grd _=>exact h
 | tpl _=>exact nomatch h
 | acc _=>exact (Mb _ _).subset h
 | dat m d =>
  cases m with
  | pk=>exact nomatch h
  | sh=>exact nomatch h
  | tp=>exact (Mb _ _).subset h
  | ow=>exact h
def Wa(e f:Ent):Prop:=((Le f.x=false\/Y0 e.x=true)->∀a∈cells e,a∉f.F)/\((Le e.x=false\/Y0 f.x=true)->∀a∈cells f,a∉e.F)
theorem Wa.symm(h:Wa e f):Wa f e:=⟨h.2,h.1⟩
def Gr(K:PySem.W.Frag)(H:Hp)(n:Nat)(e:Ent):Prop:=match e.x with
 | .un=>e.F=[]
 | .dat m d=>∃v,e.v=some v/\RdF K H v d e.F/\(m=.ow->e.F.Nodup)/\(m=.tp->∀a l,e.F=a::l->a∉l)
 | .drw=>∃dr c k f,e.v=some (.ref dr)/\e.F=[dr]/\aW H dr c k f/\0<=k/\k<=(n:Int)
 | .dT kvs=>∃a ks,e.v=some (.ref a)/\e.F=[a]/\H a=some (.dT ks)/\ks.map (·.1)=kvs.map (·.1)/\RdFs K H (ks.map (·.2)) (kvs.map (·.2)) []
 | .val v=>e.v=some v/\e.F=[]
 | .scr ns=>∃a,e.v=some (.ref a)/\e.F=[]/\KL K H a (ns.map V.int)/\ns.length<=63
 | .acc ds=>∃a xs G,e.v=some (.ref a)/\e.F=a::G/\H a=some (.lst xs)/\RdFs K H xs ds G/\ds.length<=Au/\a∉G
 | .grd Hc=>∀a∈e.F,∃o,Hc a=some o/\H a=some o
 | .tpl xs=>∃t,e.v=some (.ref t)/\H t=some (.tup xs)/\e.F=[]
structure At(K:PySem.W.Frag)(H0:Hp)(X:Addr->Prop)(n:Nat)(E:List Ent)(H:Hp):Prop where
 ok:∀e∈E,Gr K H n e
 sep:E.Pairwise Wa
 new:∀e∈E,∀a∈cells e,H0 a=none\/(X a/\ER e.x=true)
 same:∀b o,¬ X b->H0 b=some o->H b=some o
 dom:∀b o,H0 b=some o->∃o',H b=some o'
 xd:∀b,X b->H0 b≠none/\∃c k f,aW H b c k f/\0<=k/\k<=(n:Int)
section
variable{K:PySem.W.Frag}{H0 H H':Hp}{X:Addr->Prop}{n n':Nat}{E E' S T:List Ent}{e f:Ent}
theorem At.perm(h:At K H0 X n E H)(p:E.Perm E'):At K H0 X n E' H :=
 ⟨λe he=>h.ok e (p.mem_iff.mpr he),(p.pairwise_iff λ{a b}=>Wa.symm).mp h.sep,λe he=>h.new e (p.mem_iff.mpr he),h.same,h.dom,h.xd⟩
theorem At.sub(h:At K H0 X n E H)(p:E'.Sublist E):At K H0 X n E' H :=
 ⟨λe he=>h.ok e (p.subset he),h.sep.sublist p,λe he=>h.new e (p.subset he),h.same,h.dom,h.xd⟩
theorem At.drop(h:At K H0 X n (S++e::T) H):At K H0 X n (S++T) H:=h.sub ((Cr S).append (Cv _ _))
theorem jU:(S++e::T).Perm (e::(S++T)):=Gb
theorem At.mid(h:At K H0 X n (S++e::T) H):At K H0 X n (e::(S++T)) H:=h.perm jU
theorem At.tomid(h:At K H0 X n (e::(S++T)) H):At K H0 X n (S++e::T) H:=h.perm jU.symm
theorem Gr.dom(h:Gr K H n e):∀a∈e.F,∃o,H a=some o:=by
 obtain ⟨v,x,F⟩:=e
 intro a ha
 cases x with
 | un=>rw[show F=[] from h] at ha; cases ha
 | val _=>rw[show F=[] from h.2] at ha; cases ha
 | scr _ =>
  obtain ⟨_,_,hF,_⟩:=h
  rw[show F=[] from hF] at ha; cases ha
 | dat m d =>
  obtain ⟨w,_,h,_⟩:=h
  obtain ⟨xs,z⟩:=h.dom a ha
  exact ⟨_,z⟩
 | drw =>
  obtain ⟨dr,c,k,f,_,hF,h,_⟩:=h
  rw[show F=[dr] from hF] at ha
  rw[Af.mp ha]
  exact ⟨_,h⟩
 | grd Hc =>
  obtain ⟨o,_,z⟩:=h a ha
  exact ⟨o,z⟩
 | tpl xs =>
  obtain ⟨_,_,_,hF⟩:=h
  rw[show F=[] from hF] at ha; cases ha
 | dT kvs =>
  obtain ⟨b,ks,_,hF,h,_⟩:=h
  rw[show F=[b] from hF] at ha
  rw[Af.mp ha]
  exact ⟨_,h⟩
 | acc ds =>
  obtain ⟨b,ks,G,_,hF,h,hr,_⟩:=h
  rw[show F=b::G from hF] at ha
  rcases Ah.mp ha with rfl | ha
  ·exact ⟨_,h⟩
  ·obtain ⟨xs,z⟩:=hr.dom a ha
   exact ⟨_,z⟩
theorem Gr.kp(h:Gr K H n e)(k:Kp e.F H H')(hn:n<=n'):Gr K H' n' e:=by
 obtain ⟨v,x,F⟩:=e
 cases x with
 | un=>exact h
 | val _=>exact h
 | scr _ =>
  obtain ⟨a,h1,h2,h3,h4⟩:=h
  exact ⟨a,h1,h2,h3.kp k,h4⟩
 | dat m d =>
  obtain ⟨w,h1,h2,h3⟩:=h
  exact ⟨w,h1,h2.kp k,h3⟩
 | drw =>
  obtain ⟨dr,c,kk,f,h1,hF,h2,h3,h4⟩:=h
  have hF':F=[dr]:=hF
  subst hF'
  exact ⟨dr,c,kk,f,h1,rfl,k _ _ h2 (.inl Ab),h3,by omega⟩
 | tpl xs =>
  obtain ⟨t,h1,h2,h3⟩:=h
  exact ⟨t,h1,k _ _ h2 (.inr (.inl ⟨_,rfl⟩)),h3⟩
 | grd Hc =>
  intro a ha
  obtain ⟨o,h1,h2⟩:=h a ha
  exact ⟨o,h1,k _ _ h2 (.inl ha)⟩
 | dT kvs =>
  obtain ⟨b,ks,h1,hF,h2,h3,h4⟩:=h
  have hF':F=[b]:=hF
  subst hF'
  exact ⟨b,ks,h1,rfl,k _ _ h2 (.inl Ab),h3,h4.kp (k.sub λ_ z=>nomatch z)⟩
 | acc ds =>
  obtain ⟨b,ks,G,h1,hF,h2,h3,h4⟩:=h
  have hF':F=b::G:=hF
  subst hF'
  exact ⟨b,ks,G,h1,rfl,k _ _ h2 (.inl Ab),h3.kp (k.sub λ_ z=>Ae _ z),h4⟩
theorem At.grow(h:At K H0 X n E H)(s:Ms H H')(hn:n<=n'):At K H0 X n' E H' :=
 ⟨λe he=>(h.ok e he).kp (Kp.of s) hn,h.sep,h.new,λb o nx e=>s _ _ (h.same b o nx e),λb o e=>let ⟨o',q⟩:=h.dom b o e; ⟨o',s _ _ q⟩,λb hb=>let ⟨z,c,k,f,h1,h2,h3⟩:=h.xd b hb; ⟨z,c,k,f,s _ _ h1,h2,by omega⟩⟩
theorem At.free(h:At K H0 X n E H)(ha:H a=none):∀e∈E,a∉e.F:=λe he z=>by
 obtain ⟨o,q⟩:=(h.ok e he).dom a z
 rw[ha] at q; cases q
theorem At.push(h:At K H0 X n E H)(ok:Gr K H n e)(sep:∀f∈E,Wa e f)(new:∀a∈cells e,H0 a=none\/(X a/\ER e.x=true)):At K H0 X n (e::E) H :=
 ⟨λg hg=>by
  rcases Ah.mp hg with rfl | hg
  ·exact ok
  ·exact h.ok g hg,Bb.mpr ⟨sep,h.sep⟩,λg hg=>by
  rcases Ah.mp hg with rfl | hg
  ·exact new
  ·exact h.new g hg,h.same,h.dom,h.xd⟩
theorem At.new0(h:At K H0 X n E H)(hp:H p=none):H0 p=none:=by
 cases q:H0 p with
 | none=>rfl
 | some o =>
  obtain ⟨o',z⟩:=h.dom p o q
  rw[hp] at z; cases z
theorem E5:Wa ⟨v,.dat m d,[]⟩ f:=by
 refine ⟨λ_ a ha=>?_,λ_ a _=>Av⟩
 have:=En _ a ha
 cases this
theorem At.pushI(h:At K H0 X n (S++T) H)(r:RdF K H v d []):At K H0 X n (S++⟨some v,.dat m d,[]⟩::T) H :=
 (h.push (e:=⟨some v,.dat m d,[]⟩) ⟨v,rfl,r,λ_=>Dc,λ_ a l z=>nomatch z⟩ (λf _=>E5) (λa ha=>nomatch En _ a ha)).tomid
def wk:Md->Md->Bool
 | _,.pk=>true
 | .pk,_=>false
 | _,.sh=>true
 | .sh,_=>false
 | _,.tp=>true
 | .tp,.ow=>false
 | .ow,.ow=>true
theorem lW(w:wk m m'=true):∀a∈cells ⟨v,.dat m' d,F⟩,a∈cells ⟨v,.dat m d,F⟩:=by
 intro a ha
 cases m <;> cases m' <;> first | exact absurd w (by decide) | exact ha | exact absurd ha Av | exact (Mb 1 F).subset ha
theorem uA{α:Type}{F:List α}(h:F.Nodup):∀a l,F=a::l->a∉l:=λa l e=>by
 subst e
 exact (By.mp h).1
theorem Gr.wk(w:wk m m'=true)(h:Gr K H n ⟨v,.dat m d,F⟩):Gr K H n ⟨v,.dat m' d,F⟩:=by
 obtain ⟨u,h1,h2,h3,h4⟩:=h
 refine ⟨u,h1,h2,λe=>?_,λe=>?_⟩
 ·subst e
  cases m <;> first | exact absurd w (by decide) | exact h3 rfl
 ·subst e
  cases m <;> first | exact absurd w (by decide) | exact h4 rfl | exact uA (h3 rfl)
theorem Wa.wk(w:wk m m'=true)(h:Wa ⟨v,.dat m d,F⟩ f):Wa ⟨v,.dat m' d,F⟩ f:=by
 refine ⟨λhp a ha=>?_,λhp a ha=>?_⟩
 ·rcases hp with hp | hp
  ·exact h.1 (.inl hp) a (lW w a ha)
  ·cases hp
 ·rcases hp with hp | hp
  ·refine h.2 (.inl ?_) a ha
   cases m <;> cases m' <;> first | rfl | exact absurd w (by decide) | exact absurd hp (by show ¬ (true=false); decide)
  ·exact h.2 (.inr hp) a ha
theorem At.wk(w:wk m m'=true)(h:At K H0 X n (⟨v,.dat m d,F⟩::E) H):At K H0 X n (⟨v,.dat m' d,F⟩::E) H:=by
 have hs:=Bb.mp h.sep
 refine (h.sub (Cv _ _)).push ((h.ok _ Ab).wk w) (λf hf=>(hs.1 f hf).wk w) λa ha=>?_
 rcases h.new _ Ab a (lW w a ha) with z | z
 ·exact .inl z
 ·cases z.2
end
abbrev DE:=DS->(DV->DS->Prop)->Prop
abbrev DT:=DS->(Bool->DS->Prop)->Prop
abbrev DA:=DS->(List DV->DS->Prop)->Prop
structure DEnds where
 nx:DS->Prop
 rt:DV->DS->Prop
 bk:DS->Prop:=λ_=>False
 ct:DS->Prop:=λ_=>False
abbrev DB:=DEnds->DS->Prop
abbrev DG:=DV->DS->(DS->Prop)->Prop
abbrev zH:=List DV->DS->(DS->Prop)->Prop
def vs(S:List Ent):L2.St:=S.map Ent.v
def Sl(S:List Ent)(δ:DS):Prop:=S.map Ent.x=δ.sl
section
variable(K:PySem.W.Frag)
def LE(de:DE):TE:=λσ H Q=>∃(H0:Hp) (X:Addr->Prop) (S T:List Ent) (δ:DS) (P:DV->DS->Prop),vs S=σ/\Sl S δ/\At K H0 X δ.n (S++T) H/\de δ P /\
 ∀x δ' v F S' H',vs S'=σ->Sl S' δ'->At K H0 X δ'.n (S'++⟨some v,x,F⟩::T) H'->P x δ'->Q v H'
def LT(dt:DT):TT:=λσ H Q=>∃(H0:Hp) (X:Addr->Prop) (S T:List Ent) (δ:DS) (P:Bool->DS->Prop),vs S=σ/\Sl S δ/\At K H0 X δ.n (S++T) H/\dt δ P /\
 ∀b δ' S' H',vs S'=σ->Sl S' δ'->At K H0 X δ'.n (S'++T) H'->P b δ'->Q b H'
def LA(da:DA):TA:=λσ H Q=>∃(H0:Hp) (X:Addr->Prop) (S T:List Ent) (δ:DS) (P:List DV->DS->Prop),vs S=σ/\Sl S δ/\At K H0 X δ.n (S++T) H/\da δ P /\
 ∀xs δ' As us S' H',vs S'=σ->Sl S' δ'->As.map Ent.x=xs->As.map Ent.v=us.map some->At K H0 X δ'.n (S'++(As++T)) H'->P xs δ'->Q us H'
def LS(db:DB):TS:=λD σ H=>∃(H0:Hp) (X:Addr->Prop) (S T:List Ent) (δ:DS) (P:DEnds),vs S=σ/\Sl S δ/\(∀e∈T,Le e.x=false)/\At K H0 X δ.n (S++T) H/\db P δ /\
 (∀δ' S' H',Sl S' δ'->At K H0 X δ'.n (S'++T) H'->P.nx δ'->D.nx (vs S') H') /\
 (∀x δ' v F S' H',Sl S' δ'->At K H0 X δ'.n (S'++⟨some v,x,F⟩::T) H'->P.rt x δ'->D.rt v H') /\
 (∀δ' S' H',Sl S' δ'->At K H0 X δ'.n (S'++T) H'->P.bk δ'->D.bk (vs S') H') /\
 (∀δ' S' H',Sl S' δ'->At K H0 X δ'.n (S'++T) H'->P.ct δ'->D.ct (vs S') H')
def LG(dg:DG):TG:=λv σ H Q=>∃(H0:Hp) (X:Addr->Prop) (S T:List Ent) (δ:DS) (x:DV) (F:List Addr) (P:DS->Prop),vs S=σ/\Sl S δ/\At K H0 X δ.n (S++⟨some v,x,F⟩::T) H/\dg x δ P /\
 ∀δ' S' H',Sl S' δ'->At K H0 X δ'.n (S'++T) H'->P δ'->Q (vs S') H'
def HU(dg:zH):M5:=λus σ H Q=>∃(H0:Hp) (X:Addr->Prop) (S T As:List Ent) (δ:DS) (P:DS->Prop),vs S=σ/\Sl S δ/\As.map Ent.v=us.map some/\At K H0 X δ.n (S++(As++T)) H/\dg (As.map Ent.x) δ P /\
 ∀δ' S' H',Sl S' δ'->At K H0 X δ'.n (S'++T) H'->P δ'->Q (vs S') H'
end
abbrev Em(X:Cx)(e:Expr)(de:DE):Prop:=PE X e (LE X.K de)
abbrev mO(X:Cx)(e:Expr)(dt:DT):Prop:=PT X e (LT X.K dt)
abbrev Y2(X:Cx)(e:Expr)(dt:DT):Prop:=PW X e (LT X.K dt)
abbrev jJ(X:Cx)(es:List Expr)(da:DA):Prop:=PA X es (LA X.K da)
abbrev qB(X:Cx)(st:Stmt)(db:DB):Prop:=PS X st (LS X.K db)
abbrev Wx(X:Cx)(st:List Stmt)(db:DB):Prop:=rO X st (LS X.K db)
abbrev EM(X:Cx)(tg:Expr)(dg:DG):Prop:=PG X tg (LG X.K dg)
abbrev G4(X:Cx)(tg:List Expr)(dg:zH):Prop:=R6 X tg (HU X.K dg)
theorem PE.imp(h:PE X e t)(k:∀σ H Q,t' σ H Q->t σ H Q):PE X e t':=λpins s σ H Q I q=>h pins s σ H Q I (k σ H Q q)
theorem PT.imp(h:PT X e t)(k:∀σ H Q,t' σ H Q->t σ H Q):PT X e t':=λpins s σ H Q I q=>h pins s σ H Q I (k σ H Q q)
theorem PW.imp(h:PW X e t)(k:∀σ H Q,t' σ H Q->t σ H Q):PW X e t':=λwh pins s σ H Q I q=>h wh pins s σ H Q I (k σ H Q q)
theorem PA.imp(h:PA X e t)(k:∀σ H Q,t' σ H Q->t σ H Q):PA X e t':=λpos pins s σ H Q I q=>h pos pins s σ H Q I (k σ H Q q)
theorem PG.imp(h:PG X e t)(k:∀v σ H Q,t' v σ H Q->t v σ H Q):PG X e t':=λpins s σ H v u Q I r q=>h pins s σ H v u Q I r (k v σ H Q q)
theorem R6.imp(h:R6 X e t)(k:∀v σ H Q,t' v σ H Q->t v σ H Q):R6 X e t':=λpins s σ H v u Q I r q=>h pins s σ H v u Q I r (k v σ H Q q)
section
variable{K:PySem.W.Frag}{H:Hp}{v:V}{F:List Addr}
theorem RdF.int_inv(h:RdF K H v (.int i) F):v=.int i/\F=[]:=by cases h; exact ⟨rfl,rfl⟩
theorem RdF.bl_inv(h:RdF K H v (.bool i) F):v=.bl i/\F=[]:=by cases h; exact ⟨rfl,rfl⟩
theorem RdF.str_inv(h:RdF K H v (.str i) F):v=.str i/\F=[]:=by cases h; exact ⟨rfl,rfl⟩
theorem RdF.list_inv(h:RdF K H v (.list ds) F):∃a xs G,v=.ref a/\H a=some (.lst xs)/\RdFs K H xs ds G/\F=a::G/\ds.length<=Au:=by
 cases h with
 | lst h l hs=>exact ⟨_,_,_,rfl,h,hs,rfl,l⟩
theorem RdF.tup_inv(h:RdF K H v (.tuple ds) F):∃a xs,v=.ref a/\H a=some (.tup xs)/\RdFs K H xs ds F/\ds.length<=Au:=by
 cases h with
 | tup h l hs=>exact ⟨_,_,rfl,h,hs,l⟩
end
section
variable{K:PySem.W.Frag}{H0 H H':Hp}{X:Addr->Prop}{n:Nat}{E S T:List Ent}{v:V}{m:Md}{d:Ac}{F:List Addr}
theorem At.told(h:At K H0 X n E H)(he:⟨some v,.dat m d,F⟩∈E):RdF K H v d F:=by
 obtain ⟨w,e1,h1,_⟩:=h.ok _ he
 cases e1
 exact h1
theorem mem_mid:e∈S++e::T:=Al _ Ab
theorem El:f∈S++e::f::T:=Al _ (Ae _ Ab)
theorem At.drop2(h:At K H0 X n (S++e::f::T) H):At K H0 X n (S++T) H:=h.drop.drop
theorem At.dropL(h:At K H0 X n (S++(As++T)) H):At K H0 X n (S++T) H:=h.sub ((Cr S).append (Cf As T))
end
def gX:Md->Md
 | .ow=>.pk
 | .tp=>.pk
 | m=>m
def W2(i:Nat):DE:=λδ P=>match δ.sl[i]? with
 | some (.dat m d)=>P (.dat (gX m) d) δ
 | _=>False
def dC(d:Ac):DE:=λδ P=>P (.dat .ow d) δ
theorem Hh{i:Nat}(h:Sl S δ)(e:δ.sl[i]? = some x):∃ent,S[i]? = some ent/\ent.x=x:=by
 unfold Sl at h
 rw[<- h,Be] at e
 cases q:S[i]? with
 | none=>rw[q] at e; cases e
 | some ent=>rw[q] at e; exact ⟨ent,rfl,Bp e⟩
theorem Lp{i:Nat}(h:S[i]? = some e):(vs S)[i]? = some e.v:=by
 unfold vs
 rw[Be,h]
 rfl
theorem At.look(h:At K H0 X n (S++T) H)(he:⟨u,.dat m d,F⟩∈S)(hu:u=some v):At K H0 X n (S++⟨some v,.dat (gX m) d,F⟩::T) H:=by
 subst hu
 obtain ⟨S1,S2,rfl⟩:=List.append_of_mem he
 have hp:((S1++⟨some v,.dat m d,F⟩::S2)++T).Perm (⟨some v,.dat m d,F⟩::(S1++(S2++T))):=by
  rw[Bw,Fc]
  exact Gb
 have h2:=h.perm hp
 have hs:=Bb.mp h2.sep
 refine (h.push (e:=⟨some v,.dat (gX m) d,F⟩) ?_ (λf hf=>?_) λa ha=>?_).tomid
 ·obtain ⟨w,e1,h1,_⟩:=h2.ok _ Ab
  refine ⟨w,e1,h1,λz=>?_,λz=>?_⟩ <;> cases m <;> cases z
 ·refine ⟨λ_ a ha=>?_,λhq a ha=>?_⟩
  ·cases m <;> exact nomatch ha
  ·rcases Ah.mp (hp.mem_iff.mp hf) with rfl | hf
   ·rcases hq with hq | hq
    ·cases m <;> first | cases hq; done | exact nomatch ha
    ·cases hq
   ·refine (hs.1 f hf).2 ?_ a ha
    rcases hq with hq | hq
    ·refine .inl ?_
     cases m <;> first | rfl | exact hq
    ·exact .inr hq
 ·cases m <;> exact nomatch ha
section
variable{X:Cx}{e:Expr}
theorem Ar(h:PE X e (cJ i)):Em X e (W2 i):=by
 refine PE.imp h λσ H Q h=>?_
 obtain ⟨H0,Y,S,T,δ,P,rfl,hS,hA,hd,k⟩:=h
 unfold W2 at hd
 split at hd
 ·rename_i m d e1
  obtain ⟨ent,e2,e3⟩:=Hh hS e1
  have hm:ent∈S:=Ax e2
  obtain ⟨u,x,F⟩:=ent
  subst e3
  obtain ⟨v,hv,_⟩:=hA.ok _ (Ao _ hm)
  refine ⟨v,by rw[Lp e2]; exact congrArg some hv,k _ δ v F S H rfl hS (hA.look hm hv) hd⟩
 ·exact hd.elim
theorem mZ(h:PE X e (tC v))(r:∀H,RdF X.K H v d []):Em X e (dC d):=by
 refine PE.imp h λσ H Q h=>?_
 obtain ⟨H0,Y,S,T,δ,P,rfl,hS,hA,hd,k⟩:=h
 exact k _ δ v [] S H rfl hS (hA.pushI (r H)) hd
theorem Cj:Em X (.Constant (.int i) j pos) (dC (.int i)):=mZ Ez λ_=>.int i
theorem We:Em X (.Constant (.bool i) j pos) (dC (.bool i)):=mZ q9 λ_=>.bl i
theorem n6:Em X (.Constant .none j pos) (dC .none):=mZ W9 λ_=>.non
end
def CT(de:DE):DE:=λδ P=>de δ λx δ'=>match x with
 | .dat _ d=>imm d=true/\P (.dat .ow d) δ'
 | _=>False
theorem yT(h:Em X e de):Em X e (CT de):=by
 refine PE.imp h λσ H Q h=>?_
 obtain ⟨H0,Y,S,T,δ,P,rfl,hS,hA,hd,k⟩:=h
 refine ⟨H0,Y,S,T,δ,_,rfl,hS,hA,hd,λx δ' v F S' H' e1 e2 hA' p=>?_⟩
 cases x with
 | dat m d =>
  have r:=hA'.told mem_mid
  obtain rfl:=r.imm p.1
  exact k _ δ' v [] S' H' e1 e2 (hA'.drop.pushI r) p.2
 | _=>exact p.elim
def zI(i:Nat):DE:=λδ P=>match δ.sl[i]? with
 | some (.dat m d)=>P (.dat m d) ⟨δ.sl.set i .un,δ.n⟩
 | _=>False
theorem Vm{α:Type}:∀{l:List α} {i:Nat} {x y:α},l[i]? = some x->(y::l).Perm (x::l.set i y)
 | [],i,x,y,h=>by simp at h
 | z::l,0,x,y,h=>by
  simp at h
  subst h
  exact Fe _ _ _
 | z::l,i+1,x,y,h=>by
  have ih:=Vm (l:=l) (i:=i) (x:=x) (y:=y) (by simpa using h)
  rw[Pr]
  exact (Fe z y l).trans ((ih.cons z).trans (Fe x z _))
theorem Zg(h:PE X e (cJ i)):Em X e (zI i):=by
 refine PE.imp h λσ H Q h=>?_
 obtain ⟨H0,Y,S,T,δ,P,rfl,hS,hA,hd,k⟩:=h
 unfold zI at hd
 split at hd
 ·rename_i m d e1
  obtain ⟨ent,e2,e3⟩:=Hh hS e1
  have hm:ent∈S:=Ax e2
  obtain ⟨u,x,F⟩:=ent
  subst e3
  obtain ⟨v,hv,hv2⟩:=hA.ok _ (Ao _ hm)
  have hv':u=some v:=hv
  subst hv'
  refine ⟨v,by rw[Lp e2],k _ _ v F (S.set i ⟨some v,.un,[]⟩) H ?_ ?_ ?_ hd⟩
  ·unfold vs
   rw[Es]
   apply Hr
   intro j
   rw[Ho]
   split
   ·rename_i hij
    subst hij
    rw[Be,e2]
    split
    ·rfl
    ·rename_i hj
     rw[Ad] at hj
     exact absurd (Ap.mp e2).1 hj
   ·rfl
  ·unfold Sl at hS ⊢
   rw[Es,hS]
  ·have hp:=hA.push (e:=⟨some v,.un,[]⟩) (show Gr X.K H δ.n ⟨some v,.un,[]⟩ from rfl) (λf _=>⟨λ_ a ha=>(nomatch ha),λ_ a _=>Av⟩) (λa ha=>(nomatch ha))
   have p1:(⟨some v,.un,[]⟩::(S++T)).Perm ((S.set i ⟨some v,.un,[]⟩)++⟨some v,.dat m d,F⟩::T):=by
    rw[<- Fc]
    exact ((Vm (y:=(⟨some v,.un,[]⟩ : Ent)) e2).append_right T).trans (by rw[Fc]; exact List.perm_middle.symm)
   exact hp.perm p1
 ·exact hd.elim
abbrev D2:=DV->DV->(DV->Prop)->Prop
def mP(K:PySem.W.Frag)(r:R2)(rd:D2):Prop:=∀(H0:Hp) (X:Addr->Prop) (n:Nat) (S T:List Ent) (x y:DV) (v w:V) (F G:List Addr) (H:Hp) (Q:VK) (P:DV->Prop),
 At K H0 X n (S++⟨some w,y,G⟩::⟨some v,x,F⟩::T) H->rd x y P->(∀z u F' H',At K H0 X n (S++⟨some u,z,F'⟩::T) H'->P z->Q u H')->r v w H Q
def Vt(rd:D2)(da db:DE):DE:=λδ P=>da δ λx δ1=>db δ1 λy δ2=>rd x y λz=>P z δ2
theorem op_le(o:mP K r rd):∀σ H Q,LE K (Vt rd da db) σ H Q->BK r (LE K da) (LE K db) σ H Q:=by
 intro σ H Q h
 obtain ⟨H0,Y,S,T,δ,P,rfl,hS,hA,hd,k⟩:=h
 refine ⟨H0,Y,S,T,δ,_,rfl,hS,hA,hd,λx δ1 v F S1 H1 e1 e2 hA1 p1=>?_⟩
 refine ⟨H0,Y,S1,⟨some v,x,F⟩::T,δ1,_,e1,e2,hA1,p1,λy δ2 w G S2 H2 e3 e4 hA2 p2=>?_⟩
 exact o H0 Y δ2.n S2 T x y v w F G H2 Q _ hA2 p2 λz u F' H' hA3 p3=>k z δ2 u F' S2 H' e3 e4 hA3 p3
section
variable{X:Cx}{a b:Expr}{da db:DE}{pos:Pos}{r:R2}{rd:D2}
theorem Uc(ho:Wc X (Iv op) r)(o:mP X.K r rd)(ha:Em X a da)(hb:Em X b db):Em X (.BinOp a op b pos) (Vt rd da db):=PE.imp (Hv ho ha hb) (op_le o)
theorem cG(ho:Wc X (Hy op) r)(o:mP X.K r rd)(ha:Em X a da)(hb:Em X b db)(hm:Gd op b=false):Em X (.Compare a [op] [b] pos) (Vt rd da db):=PE.imp (K4 ho ha hb hm) (op_le o)
theorem ET(ho:B4 X r)(o:mP X.K r rd)(ha:Em X a da)(hb:Em X b db)(hs:iN b):Em X (.Subscript a b pos) (Vt rd da db):=PE.imp (aN ho ha hb hs) (op_le o)
end
def S9(C:Int->Int->Prop)(g:Int->Int->Ac):D2:=λx y P=>match x,y with
 | .dat _ (.int i),.dat _ (.int j)=>C i j/\P (.dat .ow (g i j))
 | _,_=>False
def dG(g:Int->Int->Ac):D2:=λx y P=>match x,y with
 | .dat _ (.int i),.dat _ (.int j)=>P (.dat .ow (g i j))
 | _,_=>False
section
variable{K:PySem.W.Frag}
theorem E7(h:∀i j H,RdF K H (g i j) (g' i j) []):mP K (rI C g) (S9 C g'):=by
 intro H0 X n S T x y v w F G H Q P hA hd k
 unfold S9 at hd
 split at hd
 ·obtain ⟨rfl,_⟩:=(hA.told El).int_inv
  obtain ⟨rfl,_⟩:=(hA.told mem_mid).int_inv
  exact ⟨_,_,rfl,rfl,hd.1,k _ _ [] H (hA.drop2.pushI (h _ _ H)) hd.2⟩
 ·exact hd.elim
theorem Ye(h:∀i j H,RdF K H (g i j) (g' i j) []):mP K (w8 g) (dG g'):=by
 intro H0 X n S T x y v w F G H Q P hA hd k
 unfold dG at hd
 split at hd
 ·obtain ⟨rfl,_⟩:=(hA.told El).int_inv
  obtain ⟨rfl,_⟩:=(hA.told mem_mid).int_inv
  exact ⟨_,_,rfl,rfl,k _ _ [] H (hA.drop2.pushI (h _ _ H)) hd⟩
 ·exact hd.elim
end
abbrev rdAdd:D2:=dG λi j=>.int (i+j)
abbrev rdSub:D2:=dG λi j=>.int (i - j)
abbrev rdMul:D2:=S9 X4 λi j=>.int (i * j)
abbrev rdDiv:D2:=S9 V0 λi j=>.int (i / j)
abbrev rdMod:D2:=S9 (λ_ j=>0<j) λi j=>.int (i % j)
abbrev rdPow:D2:=S9 W6 λi j=>.int (i ^ j.toNat)
abbrev rdXor:D2:=dG λi j=>.int (Builtin.bitXor i j)
abbrev rdLt:D2:=dG λi j=>.bool (decide (i<j))
abbrev rdLe:D2:=dG λi j=>.bool (decide (i<=j))
abbrev rdGt:D2:=dG λi j=>.bool (decide (j<i))
abbrev rdGe:D2:=dG λi j=>.bool (decide (j<=i))
section
variable{X:Cx}{a b:Expr}{da db:DE}{pos:Pos}
theorem Mw(ha:Em X a da)(hb:Em X b db):Em X (.BinOp a .Add b pos) (Vt rdAdd da db):=Uc Zt (Ye λ_ _ _=>.int _) ha hb
theorem Pl(ha:Em X a da)(hb:Em X b db):Em X (.BinOp a .Sub b pos) (Vt rdSub da db):=Uc T3 (Ye λ_ _ _=>.int _) ha hb
theorem zU(ha:Em X a da)(hb:Em X b db):Em X (.BinOp a .Mult b pos) (Vt rdMul da db):=Uc Xa (E7 λ_ _ _=>.int _) ha hb
theorem gE(ha:Em X a da)(hb:Em X b db):Em X (.BinOp a .FloorDiv b pos) (Vt rdDiv da db):=Uc gM (E7 λ_ _ _=>.int _) ha hb
theorem Hk(ha:Em X a da)(hb:Em X b db):Em X (.BinOp a .Mod b pos) (Vt rdMod da db):=Uc Ut (E7 λ_ _ _=>.int _) ha hb
theorem i4(ha:Em X a da)(hb:Em X b db):Em X (.BinOp a .Pow b pos) (Vt rdPow da db):=Uc aQ (E7 λ_ _ _=>.int _) ha hb
theorem R4(ha:Em X a da)(hb:Em X b db):Em X (.BinOp a .BitXor b pos) (Vt rdXor da db):=Uc X2 (Ye λ_ _ _=>.int _) ha hb
theorem AQ(ha:Em X a da)(hb:Em X b db):Em X (.Compare a [.LtE] [b] pos) (Vt rdLe da db):=cG L2.op_le (Ye λ_ _ _=>.bl _) ha hb (Qu _)
theorem CO(ha:Em X a da)(hb:Em X b db):Em X (.Compare a [.Gt] [b] pos) (Vt rdGt da db):=cG BE (Ye λ_ _ _=>.bl _) ha hb (Qu _)
theorem EG(ha:Em X a da)(hb:Em X b db):Em X (.Compare a [.GtE] [b] pos) (Vt rdGe da db):=cG yX (Ye λ_ _ _=>.bl _) ha hb (Qu _)
end
def fW(ne:Bool):D2:=λx y P=>match x,y with
 | .dat _ d,.dat _ e=>d.depth<=60/\e.depth<=60/\P (.dat .ow (.bool (match ne with | true=>!Ec d e | false=>Ec d e)))
 | _,_=>False
def tP(ne:Bool):D2:=λx y P=>match x,y with
 | .dat _ d,.dat _ (.list es)=>Bo es<=60/\d.depth<=60/\P (.dat .ow (.bool (match ne with | true=>!(es.any λe=>Ec e d) | false=>es.any λe=>Ec e d)))
 | .dat _ d,.dat _ (.tuple es)=>Bo es<=60/\d.depth<=60/\P (.dat .ow (.bool (match ne with | true=>!(es.any λe=>Ec e d) | false=>es.any λe=>Ec e d)))
 | _,_=>False
section
variable{K:PySem.W.Frag}
theorem P6:mP K (AO K) (fW false):=by
 intro H0 X n S T x y v w F G H Q P hA hd k
 unfold fW at hd
 split at hd
 ·exact ⟨_,_,(hA.told El).rd (Bz hd.1 (by decide)),(hA.told mem_mid).rd (Bz hd.2.1 (by decide)),hd.1,k _ _ [] H (hA.drop2.pushI (.bl _)) hd.2.2⟩
 ·exact hd.elim
theorem DR:mP K (CG K) (fW true):=by
 intro H0 X n S T x y v w F G H Q P hA hd k
 unfold fW at hd
 split at hd
 ·exact ⟨_,_,(hA.told El).rd (Bz hd.1 (by decide)),(hA.told mem_mid).rd (Bz hd.2.1 (by decide)),hd.1,k _ _ [] H (hA.drop2.pushI (.bl _)) hd.2.2⟩
 ·exact hd.elim
theorem Q2:mP K (Z7 K ne) (tP ne):=by
 intro H0 X n S T x y v w F G H Q P hA hd k
 unfold tP at hd
 split at hd
 ·obtain ⟨a,xs,G',rfl,hq,hs,_,_⟩:=(hA.told mem_mid).list_inv
  refine ⟨a,xs,_,_,rfl,.inl (Mc.of hq),(hA.told El).rd (Bz hd.2.1 (by decide)),hs.rd (Bz hd.1 (by decide)),hd.1,?_⟩
  cases ne with
  | true=>exact k _ _ [] H (hA.drop2.pushI (.bl _)) hd.2.2
  | false=>exact k _ _ [] H (hA.drop2.pushI (.bl _)) hd.2.2
 ·obtain ⟨a,xs,rfl,hq,hs,_⟩:=(hA.told mem_mid).tup_inv
  refine ⟨a,xs,_,_,rfl,.inr (Uh.of hq),(hA.told El).rd (Bz hd.2.1 (by decide)),hs.rd (Bz hd.1 (by decide)),hd.1,?_⟩
  cases ne with
  | true=>exact k _ _ [] H (hA.drop2.pushI (.bl _)) hd.2.2
  | false=>exact k _ _ [] H (hA.drop2.pushI (.bl _)) hd.2.2
 ·exact hd.elim
end
section
variable{X:Cx}{a b:Expr}{da db:DE}{pos:Pos}
theorem jR(hu:X.A.units+64<cLine)(ha:Em X a da)(hb:Em X b db):Em X (.Compare a [.Eq] [b] pos) (Vt (fW false) da db):=cG (xS hu) P6 ha hb (Qu _)
theorem BS(hu:X.A.units+64<cLine)(ha:Em X a da)(hb:Em X b db)(hm:Gd .In b=false:=by with_unfolding_all rfl):Em X (.Compare a [.In] [b] pos) (Vt (tP false) da db):=cG (W5 hu) Q2 ha hb hm
end
def Pj:Md->Md
 | .ow=>.ow
 | .tp=>.sh
 | m=>m
theorem At.part(h:At K H0 X n (S++⟨some v,.dat m d,F⟩::T) H)(r:RdF K H w e G)(hG:G.Sublist F):At K H0 X n (S++⟨some w,.dat (Pj m) e,G⟩::T) H:=by
 have h2:=h.mid
 have hs:=Bb.mp h2.sep
 obtain ⟨v',e1,h1,hn,ht⟩:=h2.ok _ Ab
 have cs:∀a∈cells ⟨some w,.dat (Pj m) e,G⟩,a∈cells ⟨some v,.dat m d,F⟩:=λa ha=>by
  cases m with
  | ow=>exact hG.subset ha
  | tp=>exact nomatch ha
  | sh=>exact nomatch ha
  | pk=>exact nomatch ha
 refine (h.drop.push (e:=⟨some w,.dat (Pj m) e,G⟩) ⟨w,rfl,r,λz=>?_,λz=>?_⟩ (λf hf=>?_) λa ha=>?_).tomid
 ·cases m with
  | ow=>exact (hn rfl).sublist hG
  | _=>cases z
 ·cases m <;> cases z
 ·refine ⟨λhp a ha=>(hs.1 f hf).1 ?_ a (cs a ha),λhp a ha z=>(hs.1 f hf).2 ?_ a ha (hG.subset z)⟩
  ·rcases hp with hp | hp
   ·exact .inl hp
   ·cases hp
  ·rcases hp with hp | hp
   ·refine .inl ?_
    cases m <;> first | rfl | exact hp
   ·exact .inr hp
 ·rcases h2.new _ Ab a (cs a ha) with z | z
  ·exact .inl z
  ·cases z.2
def F4:D2:=λx y P=>match x,y with
 | .dat m (.list ds),.dat _ (.int i)=>∃d,Sx ds i=some d/\P (.dat (Pj m) d)
 | .dat m (.tuple ds),.dat _ (.int i)=>∃d,Sx ds i=some d/\P (.dat (Pj m) d)
 | .dat _ (.str z),.dat _ (.int i)=>z.length<=Au/\∃c,Sx z.cps.toList i=some c/\P (.dat .ow (.str ⟨#[c]⟩))
 | _,_=>False
theorem xP(r:RdFs K H xs ds F)(h:Sx ds i=some d):∃x G,Sx xs i=some x/\RdF K H x d G/\G.Sublist F:=by
 unfold Sx at h ⊢
 rw[r.len]
 cases e:L6 ds.length i with
 | none=>rw[e] at h; cases h
 | some j =>
  rw[e] at h
  exact r.get h
theorem EE:mP K (HC K) F4:=by
 intro H0 X n S T x y v w F G H Q P hA hd k
 unfold F4 at hd
 split at hd
 ·obtain ⟨d,hi,p⟩:=hd
  obtain ⟨rfl,_⟩:=(hA.told mem_mid).int_inv
  have r:=hA.told El
  have hA':=hA.drop
  obtain ⟨a,xs,G0,rfl,hq,hs,hG,_⟩:=r.list_inv
  obtain ⟨x,G',h1,h2,h3⟩:=xP hs hi
  subst hG
  exact .inl ⟨_,_,_,_,rfl,rfl,Mc.of hq,h1,k _ _ G' H (hA'.part h2 (h3.trans (Cv _ _))) p⟩
 ·obtain ⟨d,hi,p⟩:=hd
  obtain ⟨rfl,_⟩:=(hA.told mem_mid).int_inv
  have r:=hA.told El
  have hA':=hA.drop
  obtain ⟨a,xs,rfl,hq,hs,_⟩:=r.tup_inv
  obtain ⟨x,G',h1,h2,h3⟩:=xP hs hi
  exact .inr (.inl ⟨_,_,_,_,rfl,rfl,Uh.of hq,h1,k _ _ G' H (hA'.part h2 h3) p⟩)
 ·obtain ⟨hz,c,hi,p⟩:=hd
  obtain ⟨rfl,_⟩:=(hA.told mem_mid).int_inv
  obtain ⟨rfl,_⟩:=(hA.told El).str_inv
  exact .inr (.inr ⟨_,_,_,rfl,rfl,hz,hi,k _ _ [] H (hA.drop2.pushI (.str _)) p⟩)
 ·exact hd.elim
theorem Ic(ha:Em X a da)(hb:Em X b db)(hs:iN b:=by intro _ _; rfl):Em X (.Subscript a b pos) (Vt F4 da db):=ET Y1 EE ha hb hs
def rQ:Md->Md
 | .ow=>.ow
 | .pk=>.pk
 | _=>.tp
def Yj(i:Bool)(m:Md)(ds:List Ac)(P:DV->Prop):Prop:=match i with
 | true=>Dq ds=true/\P (.dat .ow (.list ds))
 | false=>P (.dat (rQ m) (.list ds))
def gK(i:Bool)(m:Md)(ds:List Ac)(P:DV->Prop):Prop:=match i with
 | true=>Dq ds=true/\P (.dat .ow (.tuple ds))
 | false=>P (.dat (Pj m) (.tuple ds))
section
variable{K:PySem.W.Frag}{H0 H:Hp}{X:Addr->Prop}{n:Nat}{S T:List Ent}{v w:V}{m:Md}{d e:Ac}{F G:List Addr}{p:Addr}{xs:List V}{ds:List Ac}{P:DV->Prop}{i:Bool}
theorem At.newI(h:At K H0 X n (S++T) H)(r:RdFs K H xs ds G)(hi:Dq ds=true)(hz:ds.length<=Au)(hp:H p=none)(m:Md):At K H0 X n (S++⟨some (.ref p),.dat m (.list ds),[p]⟩::T) (upd H p (.lst xs)):=by
 obtain rfl:=r.imm hi
 have s1:=Dl hp (.lst xs)
 have h1:=h.grow (n':=n) s1 (Ak _)
 refine (h1.push (e:=⟨some (.ref p),.dat m (.list ds),[p]⟩) ⟨_,rfl,.lst Cp hz (r.kp (Kp.of s1)),λ_=>By.mpr ⟨Av,Dc⟩,λ_ a l z=>by cases z; exact Av⟩ (λf hf=>?_) λa ha=>?_).tomid
 ·have nf:=h.free hp f hf
  refine ⟨λ_ a ha z=>?_,λ_ a ha z=>?_⟩
  ·have:=En _ a ha
   rw[Af.mp this] at z
   exact nf z
  ·rw[Af.mp z] at ha
   exact nf (En _ _ ha)
 ·have:=En _ a ha
  rw[Af.mp this]
  exact .inl (h.new0 hp)
theorem At.newL(h:At K H0 X n (S++⟨some v,.dat m d,F⟩::T) H)(r:RdFs K H xs ds G)(hG:G.Sublist F)(hz:ds.length<=Au)(hp:H p=none)(q:Yj i m ds P):∃z F',At K H0 X n (S++⟨some (.ref p),z,F'⟩::T) (upd H p (.lst xs))/\P z:=by
 cases i with
 | true=>exact ⟨_,_,h.drop.newI r q.1 hz hp .ow,q.2⟩
 | false =>
  have q:P (.dat (rQ m) (.list ds)):=q
  refine ⟨_,p::G,?_,q⟩
  have s1:=Dl hp (.lst xs)
  have h2:=h.mid
  have hs:=Bb.mp h2.sep
  obtain ⟨v',e1,_,hn,_⟩:=h2.ok _ Ab
  have h1:=h.drop.grow (n':=n) s1 (Ak _)
  have npF:p∉F:=h2.free hp _ Ab
  have npG:p∉G:=λz=>npF (hG.subset z)
  have cs:∀a∈cells ⟨some (.ref p),.dat (rQ m) (.list ds),p::G⟩,a=p\/(a∈cells ⟨some v,.dat m d,F⟩):=λa ha=>by
   cases m with
   | ow =>
    rcases Ah.mp ha with z | z
    ·exact .inl z
    ·exact .inr (hG.subset z)
   | tp=>exact .inl (Af.mp ha)
   | sh=>exact .inl (Af.mp ha)
   | pk=>exact nomatch ha
  refine (h1.push (e:=⟨some (.ref p),.dat (rQ m) (.list ds),p::G⟩) ⟨_,rfl,.lst Cp hz (r.kp (Kp.of s1)),λz=>?_,λz a l e=>?_⟩ (λf hf=>?_) λa ha=>?_).tomid
  ·cases m with
   | ow=>exact By.mpr ⟨npG,(hn rfl).sublist hG⟩
   | _=>cases z
  ·cases e
   exact npG
  ·have nf:=h2.free hp f (Ae _ hf)
   refine ⟨λhq a ha z=>?_,λhq a ha z=>?_⟩
   ·rcases cs a ha with rfl | hc
    ·exact nf z
    ·refine (hs.1 f hf).1 ?_ a hc z
     rcases hq with hq | hq
     ·exact .inl hq
     ·cases hq
   ·rcases Ah.mp z with rfl | z
    ·exact nf (En _ _ ha)
    ·refine (hs.1 f hf).2 ?_ a ha (hG.subset z)
     rcases hq with hq | hq
     ·refine .inl ?_
      cases m <;> first | rfl | exact hq
     ·exact .inr hq
  ·rcases cs a ha with rfl | hc
   ·exact .inl (h2.new0 hp)
   ·rcases h2.new _ Ab a hc with z | z
    ·exact .inl z
    ·cases z.2
theorem At.newT(h:At K H0 X n (S++⟨some v,.dat m d,F⟩::T) H)(r:RdFs K H xs ds G)(hG:G.Sublist F)(hz:ds.length<=Au)(hp:H p=none)(q:gK i m ds P):∃z F',At K H0 X n (S++⟨some (.ref p),z,F'⟩::T) (upd H p (.tup xs))/\P z:=by
 have s1:=Dl hp (.tup xs)
 have h1:=h.grow (n':=n) s1 (Ak _)
 cases i with
 | true =>
  obtain rfl:=r.imm q.1
  exact ⟨_,[],h1.drop.pushI (.tup Cp hz (r.kp (Kp.of s1))),q.2⟩
 | false=>exact ⟨_,G,h1.part (.tup Cp hz (r.kp (Kp.of s1))) hG,q⟩
theorem At.oldT(h:At K H0 X n (S++⟨some v,.dat m d,F⟩::T) H)(r:RdFs K H xs ds G)(hG:G.Sublist F)(hz:ds.length<=Au)(ht:H t=some (.tup xs))(q:gK i m ds P):∃z F',At K H0 X n (S++⟨some (.ref t),z,F'⟩::T) H/\P z:=by
 cases i with
 | true =>
  obtain rfl:=r.imm q.1
  exact ⟨_,[],h.drop.pushI (.tup ht hz r),q.2⟩
 | false=>exact ⟨_,G,h.part (.tup ht hz r) hG,q⟩
end
def U5:DA:=λδ P=>P [] δ
def O4(de:DE)(da:DA):DA:=λδ P=>de δ λx δ1=>da δ1 λxs δ2=>P (x::xs) δ2
section
variable{X:Cx}{e:Expr}{es:List Expr}{de:DE}{da:DA}
theorem Bh:jJ X [] U5:=by
 refine PA.imp Kr λσ H Q h=>?_
 obtain ⟨H0,Y,S,T,δ,P,rfl,hS,hA,hd,k⟩:=h
 exact k [] δ [] [] S H rfl hS rfl rfl hA hd
theorem An(ha:Em X e de)(hr:jJ X es da)(hs:Bq (e::es) X.env=(false,eval e X.env)::Bq es X.env:=by rfl):jJ X (e::es) (O4 de da):=by
 refine PA.imp (Gs ha hr hs) λσ H Q h=>?_
 obtain ⟨H0,Y,S,T,δ,P,rfl,hS,hA,hd,k⟩:=h
 refine ⟨H0,Y,S,T,δ,_,rfl,hS,hA,hd,λx δ1 v F S1 H1 e1 e2 hA1 p1=>?_⟩
 refine ⟨H0,Y,S1,⟨some v,x,F⟩::T,δ1,_,e1,e2,hA1,p1,λxs δ2 As us S2 H2 e3 e4 ex eu hA2 p2=>?_⟩
 refine k (x::xs) δ2 (⟨some v,x,F⟩::As) (v::us) S2 H2 e3 e4 (by rw[Aw,ex]) (by rw[Aw,Aw,eu]) (hA2.perm ((List.Perm.refl S2).append ?_)) p2
 exact Gb
end
def allOw:List DV->Bool
 | []=>true
 | .dat .ow _::xs=>allOw xs
 | _=>false
def noPk:List DV->Bool
 | []=>true
 | .dat .pk _::_=>false
 | .dat _ _::xs=>noPk xs
 | _=>false
def datas:List DV->Option (List Ac)
 | []=>some []
 | .dat _ d::xs=>(datas xs).map (d::·)
 | _=>none
def pkMd(Pu:Md)(xs:List DV):Md:=if allOw xs=true then .ow else if noPk xs=true then Pu else .pk
section
variable{K:PySem.W.Frag}{H0 H:Hp}{X:Addr->Prop}{n:Nat}{S T As:List Ent}
theorem Vr:∀{As:List Ent} {us:List V} {ds:List Ac},As.map Ent.v=us.map some->datas (As.map Ent.x)=some ds->(∀e∈As,Gr K H n e)->RdFs K H us ds (As.flatMap Ent.F)
 | [],us,ds,e,h,_=>by
  cases us with
  | nil=>cases h; exact .nil
  | cons _ _=>cases e
 | ent::As,us,ds,e,h,ok=>by
  cases us with
  | nil=>cases e
  | cons u us =>
   rw[Aw,Aw] at e
   obtain ⟨e1,e2⟩:=Do e
   obtain ⟨v,x,F⟩:=ent
   have e1':v=some u:=e1
   subst e1'
   rw[Aw] at h
   cases x with
   | dat m d =>
    rw[show datas (DV.dat m d::As.map Ent.x)=(datas (As.map Ent.x)).map (d::·) from rfl] at h
    cases q:datas (As.map Ent.x) with
    | none=>rw[q] at h; cases h
    | some es =>
     rw[q] at h
     cases h
     obtain ⟨w,ew,rw',_⟩:=ok _ Ab
     cases ew
     rw[List.flatMap_cons]
     exact .cons rw' (Vr e2 q λf hf=>ok f (Ae _ hf))
   | _=>cases h
theorem Qg:∀{As:List Ent},allOw (As.map Ent.x)=true->∀e∈As,∃d,e.x=.dat .ow d
 | [],_,_,h=>nomatch h
 | ⟨v,x,F⟩::As,h,e,he=>by
  rw[Aw] at h
  have hx:(∃d,x=.dat .ow d)/\allOw (As.map Ent.x)=true:=by
   cases x with
   | dat m d=>cases m <;> first | exact ⟨⟨d,rfl⟩,h⟩ | cases h
   | _=>cases h
  rcases Ah.mp he with rfl | he
  ·exact hx.1
  ·exact Qg hx.2 e he
theorem lZ:∀{As:List Ent},noPk (As.map Ent.x)=true->∀e∈As,Le e.x=false
 | [],_,_,h=>nomatch h
 | ⟨v,x,F⟩::As,h,e,he=>by
  rw[Aw] at h
  have hx:Le x=false/\noPk (As.map Ent.x)=true:=by
   cases x with
   | dat m d=>cases m <;> first | exact ⟨rfl,h⟩ | cases h
   | _=>cases h
  rcases Ah.mp he with rfl | he
  ·exact hx.1
  ·exact lZ hx.2 e he
theorem aT:∀{As:List Ent},(∀e∈As,∃d,e.x=.dat .ow d)->(∀e∈As,Gr K H n e)->As.Pairwise Wa->(As.flatMap Ent.F).Nodup
 | [],_,_,_=>Dc
 | ent::As,ho,ok,hs=>by
  rw[List.flatMap_cons]
  have hc:=Bb.mp hs
  obtain ⟨v,x,F⟩:=ent
  obtain ⟨d,hd⟩:=ho _ Ab
  have hd':x=.dat .ow d:=hd
  subst hd'
  obtain ⟨w,_,_,hn,_⟩:=ok _ Ab
  refine Gf.mpr ⟨hn rfl,aT (λe he=>ho e (Ae _ he)) (λe he=>ok e (Ae _ he)) hc.2,λa ha b hb z=>?_⟩
  subst z
  obtain ⟨f,hf,hb⟩:=Ih.mp hb
  obtain ⟨d',hd'⟩:=ho f (Ae _ hf)
  exact (hc.1 f hf).1 (.inl (by rw[hd']; rfl)) a ha hb
theorem At.pack(h:At K H0 X n (S++(As++T)) H)(s:Ms H H')(hN:∀a∈N,H a=none)(ndN:N.Nodup)(htop:(Pu=.tp/\N.length=1)\/(Pu=.sh/\N=[]))(r:RdF K H' v d (N++As.flatMap Ent.F)):At K H0 X n (S++⟨some v,.dat (pkMd Pu (As.map Ent.x)) d,N++As.flatMap Ent.F⟩::T) H':=by
 have hp:(S++(As++T)).Perm (As++(S++T)):=by
  rw[<- Bw,<- Bw]
  exact Fv.append_right T
 have h2:=h.perm hp
 have hs:=Ca.mp h2.sep
 have h1:=(h.dropL).grow (n':=n) s (Ak _)
 have nN:∀a∈N,∀f∈As++(S++T),a∉f.F:=λa ha f hf=>h2.free (hN a ha) f hf
 have nFlat:∀a∈N,a∉As.flatMap Ent.F:=λa ha z=>by
  obtain ⟨f,hf,z⟩:=Ih.mp z
  exact nN a ha f (Ao _ hf) z
 have cs:∀a∈cells ⟨some v,.dat (pkMd Pu (As.map Ent.x)) d,N++As.flatMap Ent.F⟩,a∈N\/(allOw (As.map Ent.x)=true/\∃f∈As,a∈cells f):=λa ha=>by
  unfold pkMd at ha
  by_cases hw:allOw (As.map Ent.x)=true
  ·rw[if_pos hw] at ha
   rcases Ay.mp ha with z | z
   ·exact .inl z
   ·obtain ⟨f,hf,z⟩:=Ih.mp z
    obtain ⟨d',hd'⟩:=Qg hw f hf
    refine .inr ⟨hw,f,hf,?_⟩
    unfold cells
    rw[hd']
    exact z
  ·rw[if_neg hw] at ha
   by_cases hk:noPk (As.map Ent.x)=true
   ·rw[if_pos hk] at ha
    rcases htop with ⟨rfl,h1⟩ | ⟨rfl,rfl⟩
    ·match N,h1,ha with
     | [b],_,ha=>exact .inl ha
    ·exact nomatch ha
   ·rw[if_neg hk] at ha
    exact nomatch ha
 refine (h1.push (e:=⟨some v,.dat (pkMd Pu (As.map Ent.x)) d,N++As.flatMap Ent.F⟩) ⟨_,rfl,r,λz=>?_,λz a l e=>?_⟩ (λf hf=>?_) λa ha=>?_).tomid
 ·have hw:allOw (As.map Ent.x)=true:=by
   unfold pkMd at z
   by_cases hw:allOw (As.map Ent.x)=true
   ·exact hw
   ·rw[if_neg hw] at z
    split at z
    ·rcases htop with ⟨rfl,_⟩ | ⟨rfl,_⟩ <;> cases z
    ·cases z
  refine Gf.mpr ⟨ndN,aT (Qg hw) (λe he=>h2.ok e (Ao _ he)) hs.1,λa ha b hb e=>?_⟩
  subst e
  exact nFlat a ha hb
 ·have ht:Pu=.tp:=by
   unfold pkMd at z
   split at z
   ·cases z
   ·split at z
    ·exact z
    ·cases z
  subst ht
  rcases htop with ⟨_,h1⟩ | ⟨h1,_⟩
  ·match N,h1,e,nFlat with
   | [b],_,e,nFlat =>
    cases e
    exact nFlat a Ab
  ·cases h1
 ·have hf':f∈As++(S++T):=Al _ hf
  refine ⟨λhq a ha z=>?_,λhq a ha z=>?_⟩
  ·rcases cs a ha with hn | ⟨_,g,hg,hc⟩
   ·exact nN a hn f hf' z
   ·refine (hs.2.2 g hg f hf).1 ?_ a hc z
    rcases hq with hq | hq
    ·exact .inl hq
    ·cases hq
  ·rcases Ay.mp z with z | z
   ·exact nN a z f hf' (En _ _ ha)
   ·obtain ⟨g,hg,z⟩:=Ih.mp z
    refine (hs.2.2 g hg f hf).2 ?_ a ha z
    rcases hq with hq | hq
    ·refine .inl ?_
     have hq':Le (.dat (pkMd Pu (As.map Ent.x)) d)=false:=hq
     unfold pkMd at hq'
     by_cases hw:allOw (As.map Ent.x)=true
     ·obtain ⟨d',hd'⟩:=Qg hw g hg
      rw[hd']
      rfl
     ·rw[if_neg hw] at hq'
      by_cases hk:noPk (As.map Ent.x)=true
      ·exact lZ hk g hg
      ·rw[if_neg hk] at hq'
       cases hq'
    ·exact .inr hq
 ·rcases cs a ha with hn | ⟨_,g,hg,hc⟩
  ·exact .inl (h2.new0 (hN a hn))
  ·rcases h2.new g (Ao _ hg) a hc with z | z
   ·exact .inl z
   ·obtain ⟨d',hd'⟩:=Qg (by assumption) g hg
    rw[hd'] at z
    cases z.2
end
def FZ(da:DA):DE:=λδ P=>da δ λxs δ'=>match datas xs with
 | some ds=>ds.length<=1000/\P (.dat (pkMd .sh xs) (.tuple ds)) δ'
 | none=>False
def DW(da:DA):DE:=λδ P=>da δ λxs δ'=>match datas xs with
 | some ds=>ds.length<=1000/\P (.dat (pkMd .tp xs) (.list ds)) δ'
 | none=>False
section
variable{X:Cx}{es:List Expr}{da:DA}{pos:Pos}
theorem FP(h:jJ X es da):Em X (.Tuple es x1 pos) (FZ da):=by
 refine PE.imp (aD h) λσ H Q h=>?_
 obtain ⟨H0,Y,S,T,δ,P,rfl,hS,hA,hd,k⟩:=h
 refine ⟨H0,Y,S,T,δ,_,rfl,hS,hA,hd,λxs δ' As us S' H' e1 e2 ex eu hA' p=>?_⟩
 cases q:datas xs with
 | none=>rw[q] at p; exact p.elim
 | some ds =>
  rw[q] at p
  subst ex
  have r:=Vr eu q λe he=>hA'.ok e (Al _ (Ao _ he))
  have hl:=r.len
  have hz:ds.length<=Au:=sz p.1
  refine ⟨by omega,λt ht=>?_⟩
  have s1:=Dl ht (.tup us)
  exact k _ δ' _ _ S' _ e1 e2 (hA'.pack (N:=[]) s1 (λ_ z=>nomatch z) Dc (.inr ⟨rfl,rfl⟩) (.tup Cp hz (r.kp (Kp.of s1)))) p.2
theorem Fp(h:jJ X es da):Em X (.List es pos) (DW da):=by
 refine PE.imp (bC h) λσ H Q h=>?_
 obtain ⟨H0,Y,S,T,δ,P,rfl,hS,hA,hd,k⟩:=h
 refine ⟨H0,Y,S,T,δ,_,rfl,hS,hA,hd,λxs δ' As us S' H' e1 e2 ex eu hA' p=>?_⟩
 cases q:datas xs with
 | none=>rw[q] at p; exact p.elim
 | some ds =>
  rw[q] at p
  subst ex
  have r:=Vr eu q λe he=>hA'.ok e (Al _ (Ao _ he))
  have hl:=r.len
  have hz:ds.length<=Au:=sz p.1
  refine ⟨by omega,λt ht=>?_⟩
  have s1:=Dl ht (.lst us)
  exact k _ δ' _ _ S' _ e1 e2 (hA'.pack (N:=[t]) s1 (λa z=>by rw[Af.mp z]; exact ht) (By.mpr ⟨Av,Dc⟩) (.inl ⟨rfl,rfl⟩) (.lst Cp hz (r.kp (Kp.of s1)))) p.2
end
end DL
namespace Nd
open PySem PySem.Spec PyProof.Rows L2
section
variable{X:Cx}
def P4:V->Option Int->Option Int->Hp->VK->Prop:=λx lo hi H Q=>∃a xs,x=.ref a/\H a=some (.tup xs)/\∀p H',H' p=some (.tup (cF xs lo hi))->Ms H H'->Q (.ref p) H'
theorem M9:Z5 X P4:=by
 intro pins s σ H x v vl vu lo hi sl Q I rx hs pl pu h
 obtain ⟨a,xs,rfl,hx',q⟩:=h
 have hx:Uh X.K H a xs:=Uh.of hx'
 cases rx
 by_cases hw:HT.sIx xs.length 0 lo=0/\HT.sIx xs.length xs.length hi=xs.length
 ·obtain ⟨its,r,ht,hz⟩:=I.tuple hx
  have hlen:its.toArray.size=xs.length:=by rw[Aq]; exact r.length.symm
  refine ⟨"tuple",_,Ej.lookup,ht.typeIs,?_⟩
  refine Tw ht hs pl pu (by rw[hlen]; exact hw) ⟨.ref a,H,I,rfl,q a H ?_ (Ms.refl _)⟩
  unfold cF
  rw[hw.1,hw.2,List.drop_zero,Nat.sub_zero,Ga]
  exact hx'
 ·exact T2 pins s σ H (.ref a) (.ref a) vl vu lo hi sl Q I rfl hs pl pu ⟨a,xs,rfl,hx,hw,λp np=>q p _ Cp (Dl np _)⟩
end
theorem Of:∀{vs:List Value} {ns:List Int},Fg (ns.map V.int) vs->∃xs:List (Int×Tok),vs=xs.map (λp=>Uw p.1 p.2)/\xs.map (·.1)=ns
 | [],[],_=>⟨[],rfl,rfl⟩
 | v::vs,n::ns,h=>by
  cases h with
  | cons h1 h2 =>
   obtain ⟨t,rfl⟩:=h1
   obtain ⟨xs,e1,e2⟩:=Of h2
   exact ⟨(n,t)::xs,by rw[e1]; rfl,by rw[<- e2]; rfl⟩
 | [],n::ns,h=>nomatch h
 | v::vs,[],h=>nomatch h
section
variable{X:Cx}
def N0(K:PySem.W.Frag):List V->Hp->VK->Prop:=λxs H Q=>∃(a:Addr) (ns:List Int),xs=[.ref a]/\Mc K H a (ns.map V.int)/\ns≠[]/\∀M∈ns,(∀x∈ns,M<=x)->Q (.int M) H
theorem eI(hc:X.calm=true):Ld X (.builtin "min") (N0 X.K):=by
 intro pins s σ H xs us Q I r h
 obtain ⟨p,ns,rfl,hp,ne,q⟩:=h
 obtain ⟨u,rfl,ru⟩:=vals1 r
 cases ru
 obtain ⟨its,rv,pl,_⟩:=I.list hp
 obtain ⟨ps,rfl,rfl⟩:=Of rv
 have hl:s.heap.IsList p (Nc ps.toArray):=by simpa [Nc] using pl.isList
 have hpos:0<ps.toArray.size:=by rcases ps with _ | ⟨x,ps⟩ <;> simp at ne ⊢
 refine min_intList (I.ok.hd hc) hl hpos λv h' tk hv k=>?_
 obtain ⟨t,rfl⟩:=intItems_at hv
 obtain ⟨h1,h2⟩:=argBest_lt (numAt ps.toArray) (ps.toArray.size - 1)
 refine ⟨.int _,H,I.kept k,⟨t,rfl⟩,q _ ?_ λx hx=>?_⟩
 ·rw[numAt_eq]; exact getD_mem (by rw[Ad]; show _<ps.length; have hs:ps.toArray.size=ps.length:=Aq; omega)
 ·obtain ⟨j,hj,rfl⟩:=mem_getD hx
  rw[Ad] at hj
  have:=h2 j (by have hs:ps.toArray.size=ps.length:=Aq; have hj':j<ps.length:=hj; omega)
  rw[numAt_eq ps.toArray j] at this
  exact this
end
end Nd
namespace Ts
open PySem PyProof.Rows
def Su:Bool->Keyed->Array Keyed->Nat->Nat->Nat->StateT Bv Sem (Option Nat):=sortPriv% PySem.Builtin.gallop
structure Cmp(prog:Bs)(w:World)(A:Cs)(s:Aj)(kd:Lv)(Ok:Keyed->Prop)(blt:Keyed->Keyed->Bool):Prop where
 run:∀(x y:Keyed) (Q:Bool->Aj->Prop) (E:Value->Aj->Prop),Ok x->Ok y->Q (blt x y) s->wpAny (model prog w) A (keyLt' kd x.1 y.1) Q E s
 irr:∀x,blt x x=false
 tr:∀x y z,blt x y=true->blt y z=true->blt x z=true
 neg:∀x y z,blt x z=true->blt x y=true\/blt y z=true
def le(blt:Keyed->Keyed->Bool)(x y:Keyed):Prop:=blt y x=false
section
variable{prog:Bs}{w:World}{A:Cs}{s:Aj}{kd:Lv}{Ok:Keyed->Prop}{blt:Keyed->Keyed->Bool}
theorem Cmp.refl(C:Cmp prog w A s kd Ok blt)(x:Keyed):le blt x x:=C.irr x
theorem Cmp.ofLt(C:Cmp prog w A s kd Ok blt)(h:blt x y=true):le blt x y:=by
 unfold le
 cases q:blt y x with
 | false=>rfl
 | true=>have:=C.tr _ _ _ h q; rw[C.irr] at this; cases this
theorem Cmp.trans(C:Cmp prog w A s kd Ok blt)(h1:le blt x y)(h2:le blt y z):le blt x z:=by
 unfold le at *
 cases q:blt z x with
 | false=>rfl
 | true =>
  rcases C.neg _ y _ q with h | h
  ·rw[h2] at h; cases h
  ·rw[h1] at h; cases h
theorem Cmp.ltLe(C:Cmp prog w A s kd Ok blt)(h1:blt x y=true)(h2:le blt y z):blt x z=true:=by
 unfold le at h2
 rcases C.neg _ z _ h1 with h | h
 ·exact h
 ·rw[h2] at h; cases h
theorem Cmp.leLt(C:Cmp prog w A s kd Ok blt)(h1:le blt x y)(h2:blt y z=true):blt x z=true:=by
 unfold le at h1
 rcases C.neg _ x _ h2 with h | h
 ·rw[h1] at h; cases h
 ·exact h
variable{E:Value->Aj->Prop}
structure Kept(st st':Bv):Prop where
 kind:kindOf st'=kindOf st
 arr:arrOf st'=arrOf st
 pend:Bj st'=Bj st
 fail:Ky st'=Ky st
theorem Kept.refl(st:Bv):Kept st st:=⟨rfl,rfl,rfl,rfl⟩
theorem Kept.trans(h:Kept a b)(k:Kept b c):Kept a c:=⟨k.kind.trans h.kind,k.arr.trans h.arr,k.pend.trans h.pend,k.fail.trans h.fail⟩
theorem mG(C:Cmp prog w A s kd Ok blt){st:Bv}(hk:kindOf st=kd)(ox:Ok x)(oy:Ok y)(h:Q (some (blt x y)) st):wpS (model prog w) A E s (lt' x y) Q st:=by
 rw[lt'_eq]
 refine Bd (Nb ?_)
 rw[hk]
 exact Bd (wpS_lift (Ik (C.run x y _ _ ox oy ⟨rfl,Bk h⟩)))
theorem Ff{st:Bv}(h:xs[i]? = some p)(q:Q p st):wpS (model prog w) A E s (elem' xs i) Q st:=by
 rw[elem'_eq,h]
 exact Bk q
def Td(left:Bool)(key:Keyed)(arr:Array Keyed)(base i:Nat):StateT Bv Sem (Option Bool):=do
 let x <- elem' arr (base+i)
 if left then lt' x key else return (<- lt' key x).map (!·)
def rK(left:Bool)(key:Keyed)(arr:Array Keyed)(base n lo0 hi0:Nat):StateT Bv Sem (Option Nat):=do
 let mut lo:=lo0
 let mut hi:=hi0
 for _ in [0:n] do
  if lo ≥ hi then break
  let mid:=lo+(hi - lo) / 2
  let some up <- Td left key arr base mid | return none
  if up then lo:=mid+1 else hi:=mid
 return some hi
theorem nC(left:Bool)(key:Keyed)(arr:Array Keyed)(base n hint:Nat):Su left key arr base n hint=(do
  let some right <- Td left key arr base hint | return none
  let mut last:=0
  let mut ofs:=1
  if right then
   let Pu:=n - hint
   for _ in [0:n] do
    if ofs ≥ Pu then break
    let some up <- Td left key arr base (hint+ofs) | return none
    if !up then break
    last:=ofs
    ofs:=2 * ofs+1
   rK left key arr base n (hint+last+1) (hint+min ofs Pu)
  else
   let Pu:=hint+1
   for _ in [0:n] do
    if ofs ≥ Pu then break
    let some got <- Td left key arr base (hint - ofs) | return none
    if got then break
    last:=ofs
    ofs:=2 * ofs+1
   rK left key arr base n (hint+1 - min ofs Pu) (hint - last)):=rfl
def Gi(blt:Keyed->Keyed->Bool)(left:Bool)(key x:Keyed):Bool:=if left then blt x key else !blt key x
structure Row(Ok:Keyed->Prop)(arr:Array Keyed)(base n:Nat)(el:Nat->Keyed):Prop where
 at_:∀i,i<n->arr[base+i]? = some (el i)
 ok:∀i,i<n->Ok (el i)
theorem Sr(C:Cmp prog w A s kd Ok blt){st:Bv}(R:Row Ok arr base n el)(ok:Ok key)(hk:kindOf st=kd)(hi:i<n)(h:Q (some (Gi blt left key (el i))) st):wpS (model prog w) A E s (Td left key arr base i) Q st:=by
 unfold Td
 refine Bd (Ff (R.at_ i hi) ?_)
 cases left with
 | true =>
  rw[if_pos rfl]
  exact mG C hk (R.ok i hi) ok h
 | false =>
  rw[if_neg Bt]
  exact Bd (mG C hk ok (R.ok i hi) (Bk h))
theorem rA(C:Cmp prog w A s kd Ok blt){st:Bv}{base n lo hi:Nat}(R:Row Ok arr base n el)(ok:Ok key)(hk:kindOf st=kd)(mono:∀i j,i<=j->j<n->Gi blt left key (el j)=true->Gi blt left key (el i)=true)(h1:lo<=hi)(h2:hi<=n)(t1:∀i,i<lo->Gi blt left key (el i)=true)(t2:∀i,hi<=i->i<n->Gi blt left key (el i)=false)(h:∀k,k<=n->(∀i,i<k->Gi blt left key (el i)=true)->(∀i,k<=i->i<n->Gi blt left key (el i)=false)->Q (some k) st):wpS (model prog w) A E s (rK left key arr base n lo hi) Q st:=by
 unfold rK
 refine Bd (Gx (Eg (I:=λx c st'=>∃l r,c=(none,l,r)/\st'=st/\l<=r/\r<=n/\r - l+x<=n/\(∀i,i<l->Gi blt left key (el i)=true)/\(∀i,r<=i->i<n->Gi blt left key (el i)=false))
  (Q:=λc st'=>∃r,c=(none,r,r)/\st'=st/\r<=n/\(∀i,i<r->Gi blt left key (el i)=true)/\(∀i,r<=i->i<n->Gi blt left key (el i)=false)) ?_ ?_ ⟨lo,hi,rfl,rfl,h1,h2,by omega,t1,t2⟩) ?_)
 ·(intro x c st' _ hx q_; obtain ⟨l,r,rfl,rfl,a1,a2,a3,b1,b2⟩ := q_)
  dsimp only
  by_cases hlr:l ≥ r
  ·rw[if_pos hlr]
   have e:l=r:=by omega
   subst e
   exact Bk ⟨l,rfl,rfl,a2,b1,b2⟩
  ·rw[if_neg hlr]
   have hm:l+(r - l) / 2<n:=by omega
   refine Bd (Sr C R ok hk hm ?_)
   dsimp only
   cases hb:Gi blt left key (el (l+(r - l) / 2)) with
   | true =>
    rw[if_pos rfl]
    exact Bk ⟨l+(r - l) / 2+1,r,rfl,rfl,by omega,a2,by omega,λi hi=>mono i _ (by omega) hm hb,b2⟩
   | false =>
    rw[if_neg Bt]
    refine Bk ⟨l,l+(r - l) / 2,rfl,rfl,by omega,by omega,by omega,b1,λi hi hn=>?_⟩
    cases q:Gi blt left key (el i) with
    | false=>rfl
    | true=>rw[mono _ i hi hn q] at hb; cases hb
 ·(intro c st' q_; obtain ⟨l,r,rfl,rfl,a1,a2,a3,b1,b2⟩ := q_)
  have e:l=r:=by
   have : max 0 n=n:=by omega
   rw[this] at a3
   omega
  subst e
  exact ⟨l,rfl,rfl,a2,b1,b2⟩
 ·(intro c st' q_; obtain ⟨r,rfl,rfl,a2,b1,b2⟩ := q_)
  exact Bk (h r a2 b1 b2)
theorem Nr(C:Cmp prog w A s kd Ok blt){st:Bv}(R:Row Ok arr base n el)(ok:Ok key)(hk:kindOf st=kd)(hh:hint<n)(mono:∀i j,i<=j->j<n->Gi blt left key (el j)=true->Gi blt left key (el i)=true)(h:∀k,k<=n->(∀i,i<k->Gi blt left key (el i)=true)->(∀i,k<=i->i<n->Gi blt left key (el i)=false)->Q (some k) st):wpS (model prog w) A E s (Su left key arr base n hint) Q st:=by
 have anti:∀i j,i<=j->j<n->Gi blt left key (el i)=false->Gi blt left key (el j)=false:=λi j hij hj q=>by
  cases z:Gi blt left key (el j) with
  | false=>rfl
  | true=>rw[mono i j hij hj z] at q; cases q
 rw[nC]
 refine Bd (Sr C R ok hk hh ?_)
 dsimp only
 cases hb:Gi blt left key (el hint) with
 | true =>
  rw[if_pos rfl]
  refine Bd (Gx (Eg (I:=λx c st'=>∃la o,c=(none,la,o)/\st'=st/\la<o/\x+1<=o/\hint+la<n/\Gi blt left key (el (hint+la))=true)
   (Q:=λc st'=>∃la o,c=(none,la,o)/\st'=st/\la<o/\hint+la<n/\Gi blt left key (el (hint+la))=true/\(o ≥ n - hint\/(hint+o<n/\Gi blt left key (el (hint+o))=false))) ?_ ?_
   ⟨0,1,rfl,rfl,by omega,by omega,by omega,hb⟩) ?_)
  ·(intro x c st' _ hx q_; obtain ⟨la,o,rfl,rfl,a1,a2,a3,b1⟩ := q_)
   dsimp only
   by_cases ho:o ≥ n - hint
   ·rw[if_pos ho]
    exact Bk ⟨la,o,rfl,rfl,a1,a3,b1,.inl ho⟩
   ·rw[if_neg ho]
    have hm:hint+o<n:=by omega
    refine Bd (Sr C R ok hk hm ?_)
    dsimp only
    cases hb2:Gi blt left key (el (hint+o)) with
    | true =>
     simp only[Bool.not_true,Bx,if_false]
     exact Bk ⟨o,2 * o+1,rfl,rfl,by omega,by omega,hm,hb2⟩
    | false =>
     simp only[Bool.not_false,if_true]
     exact Bk ⟨la,o,rfl,rfl,a1,a3,b1,.inr ⟨hm,hb2⟩⟩
  ·(intro c st' q_; obtain ⟨la,o,rfl,rfl,a1,a2,a3,b1⟩ := q_)
   have : max 0 n=n:=by omega
   rw[this] at a2
   exact ⟨la,o,rfl,rfl,a1,a3,b1,.inl (by omega)⟩
  ·(intro c st' q_; obtain ⟨la,o,rfl,rfl,a1,a3,b1,b2⟩ := q_)
   dsimp only
   refine rA C R ok hk mono (by omega) (by omega) (λi hi=>mono i _ (by omega) a3 b1) (λi hi hn=>?_) h
   rcases b2 with b2 | ⟨b2,b3⟩
   ·exfalso; omega
   ·exact anti _ i (by omega) hn b3
 | false =>
  rw[if_neg Bt]
  refine Bd (Gx (Eg (I:=λx c st'=>∃la o,c=(none,la,o)/\st'=st/\la<o/\x+1<=o/\la<=hint/\Gi blt left key (el (hint - la))=false)
   (Q:=λc st'=>∃la o,c=(none,la,o)/\st'=st/\la<o/\la<=hint/\Gi blt left key (el (hint - la))=false/\(o ≥ hint+1\/(o<=hint/\Gi blt left key (el (hint - o))=true))) ?_ ?_
   ⟨0,1,rfl,rfl,by omega,by omega,by omega,hb⟩) ?_)
  ·(intro x c st' _ hx q_; obtain ⟨la,o,rfl,rfl,a1,a2,a3,b1⟩ := q_)
   dsimp only
   by_cases ho:o ≥ hint+1
   ·rw[if_pos ho]
    exact Bk ⟨la,o,rfl,rfl,a1,a3,b1,.inl ho⟩
   ·rw[if_neg ho]
    have hm:hint - o<n:=by omega
    refine Bd (Sr C R ok hk hm ?_)
    dsimp only
    cases hb2:Gi blt left key (el (hint - o)) with
    | true =>
     rw[if_pos rfl]
     exact Bk ⟨la,o,rfl,rfl,a1,a3,b1,.inr ⟨by omega,hb2⟩⟩
    | false =>
     rw[if_neg Bt]
     exact Bk ⟨o,2 * o+1,rfl,rfl,by omega,by omega,by omega,hb2⟩
  ·(intro c st' q_; obtain ⟨la,o,rfl,rfl,a1,a2,a3,b1⟩ := q_)
   have : max 0 n=n:=by omega
   rw[this] at a2
   exact ⟨la,o,rfl,rfl,a1,a3,b1,.inl (by omega)⟩
  ·(intro c st' q_; obtain ⟨la,o,rfl,rfl,a1,a3,b1,b2⟩ := q_)
   dsimp only
   refine rA C R ok hk mono (by omega) (by omega) (λi hi=>?_) (λi hi hn=>anti _ i hi hn b1) h
   rcases b2 with b2 | ⟨b2,b3⟩
   ·exfalso; omega
   ·exact mono i _ (by omega) (by omega) b3
end
structure MI{α:Type}(R:α->α->Prop)(xs ys out:List α)(i j:Nat):Prop where
 perm:out.Perm (xs.take i++ys.take j)
 srt:out.Pairwise R
 lx:∀o∈out,∀z∈xs.drop i,R o z
 ly:∀o∈out,∀z∈ys.drop j,R o z
section
variable{α:Type}{R:α->α->Prop}{xs ys out:List α}{i j:Nat}
theorem eD{l:List α}(h:l[n]? = some a):l.drop n=a::l.drop (n+1):=by
 obtain ⟨hn,e⟩:=Ap.mp h
 rw[List.drop_eq_getElem_cons hn,e]
theorem take_snoc{l:List α}(h:l[n]? = some a):l.take (n+1)=l.take n++[a]:=by
 rw[List.take_succ,h]; rfl
theorem MI.pushY(M:MI R xs ys out i j)(sy:ys.Pairwise R)(hy:ys[j]? = some y)(hx:∀z∈xs.drop i,R y z):MI R xs ys (out++[y]) i (j+1):=by
 have dy:=eD hy
 have sd:(y::ys.drop (j+1)).Pairwise R:=by rw[<- dy]; exact Ib (Jw _ _) sy
 obtain ⟨s1,s2⟩:=Bb.mp sd
 refine ⟨?_,?_,λo ho z hz=>?_,λo ho z hz=>?_⟩
 ·rw[take_snoc hy,<- Bw]
  exact M.perm.append_right _
 ·refine Ca.mpr ⟨M.srt,Ge _ _,λo ho z hz=>?_⟩
  have e:z=y:=by simpa using hz
  rw[e]
  exact M.ly o ho y (by rw[dy]; exact Ab)
 ·rcases Ay.mp ho with ho | ho
  ·exact M.lx o ho z hz
  ·have e:o=y:=by simpa using ho
   rw[e]; exact hx z hz
 ·rcases Ay.mp ho with ho | ho
  ·exact M.ly o ho z (by rw[dy]; exact Ae _ hz)
  ·have e:o=y:=by simpa using ho
   rw[e]; exact s1 z hz
theorem MI.pushX(M:MI R xs ys out i j)(sx:xs.Pairwise R)(hx:xs[i]? = some x)(hy:∀z∈ys.drop j,R x z):MI R xs ys (out++[x]) (i+1) j:=by
 have dx:=eD hx
 have sd:(x::xs.drop (i+1)).Pairwise R:=by rw[<- dx]; exact Ib (Jw _ _) sx
 obtain ⟨s1,s2⟩:=Bb.mp sd
 refine ⟨?_,?_,λo ho z hz=>?_,λo ho z hz=>?_⟩
 ·rw[take_snoc hx]
  have p1:(out++[x]).Perm ((xs.take i++ys.take j)++[x]):=M.perm.append_right _
  refine p1.trans ?_
  rw[Bw,Bw]
  exact Lo _ Fv
 ·refine Ca.mpr ⟨M.srt,Ge _ _,λo ho z hz=>?_⟩
  have e:z=x:=by simpa using hz
  rw[e]
  exact M.lx o ho x (by rw[dx]; exact Ab)
 ·rcases Ay.mp ho with ho | ho
  ·exact M.lx o ho z (by rw[dx]; exact Ae _ hz)
  ·have e:o=x:=by simpa using ho
   rw[e]; exact s1 z hz
 ·rcases Ay.mp ho with ho | ho
  ·exact M.ly o ho z hz
  ·have e:o=x:=by simpa using ho
   rw[e]; exact hy z hz
theorem Sd{l:List α}(h:l[n+k]? = some a):(l.drop n).take (k+1)=(l.drop n).take k++[a]:=take_snoc (by rw[Xw]; exact h)
theorem MI.blockX(M:MI R xs ys out i j)(sx:xs.Pairwise R):∀k,i+k<=xs.length->(∀m,m<k->∀x,xs[i+m]? = some x->∀z∈ys.drop j,R x z)->MI R xs ys (out++(xs.drop i).take k) (i+k) j
 | 0,_,_=>by simpa using M
 | k+1,hk,h=>by
  have ih:=MI.blockX M sx k (by omega) λm hm=>h m (by omega)
  obtain ⟨x,hx⟩ : ∃x,xs[i+k]? = some x:=⟨xs[i+k],by simp⟩
  rw[Sd hx,<- Bw]
  exact ih.pushX sx hx (h k (by omega) x hx)
theorem MI.blockY(M:MI R xs ys out i j)(sy:ys.Pairwise R):∀k,j+k<=ys.length->(∀m,m<k->∀y,ys[j+m]? = some y->∀z∈xs.drop i,R y z)->MI R xs ys (out++(ys.drop j).take k) i (j+k)
 | 0,_,_=>by simpa using M
 | k+1,hk,h=>by
  have ih:=MI.blockY M sy k (by omega) λm hm=>h m (by omega)
  obtain ⟨y,hy⟩ : ∃y,ys[j+k]? = some y:=⟨ys[j+k],by simp⟩
  rw[Sd hy,<- Bw]
  exact ih.pushY sy hy (h k (by omega) y hy)
theorem MI.endX(M:MI R xs ys out i j)(sx:xs.Pairwise R)(hj:ys.length<=j):(out++xs.drop i++ys.drop j).Perm (xs++ys)/\(out++xs.drop i++ys.drop j).Pairwise R:=by
 rw[List.drop_eq_nil_of_le hj,Dz]
 constructor
 ·have p1:(out++xs.drop i).Perm ((xs.take i++ys.take j)++xs.drop i):=M.perm.append_right _
  refine p1.trans ?_
  rw[Er hj]
  have p2:(xs.take i++ys++xs.drop i).Perm (xs.take i++(xs.drop i++ys)):=by
   rw[Bw]
   exact Lo _ Fv
  refine p2.trans ?_
  rw[<- Bw,Jp]
 ·exact Ca.mpr ⟨M.srt,Ib (Jw _ _) sx,M.lx⟩
theorem MI.endYX(M:MI R xs ys out i j)(sx:xs.Pairwise R)(sy:ys.Pairwise R)(h:∀y∈ys.drop j,∀x∈xs.drop i,R y x):(out++ys.drop j++xs.drop i).Perm (xs++ys)/\(out++ys.drop j++xs.drop i).Pairwise R:=by
 constructor
 ·have p1:(out++(ys.drop j++xs.drop i)).Perm ((xs.take i++ys.take j)++(ys.drop j++xs.drop i)):=M.perm.append_right _
  rw[Bw]
  refine p1.trans ?_
  rw[Bw,<- Bw (ys.take j),Jp]
  have p2:(xs.take i++(ys++xs.drop i)).Perm (xs.take i++(xs.drop i++ys)):=Lo _ Fv
  refine p2.trans ?_
  rw[<- Bw,Jp]
 ·refine Ca.mpr ⟨Ca.mpr ⟨M.srt,Ib (Jw _ _) sy,M.ly⟩,Ib (Jw _ _) sx,λa ha b hb=>?_⟩
  rcases Ay.mp ha with ha | ha
  ·exact M.lx a ha b hb
  ·exact h a ha b hb
end
def jV:Array Keyed->Array Keyed->StateT Bv Sem (Array Keyed):=sortPriv% PySem.Builtin.mergeLo
def Zi:Nat->StateT Bv Sem Unit:=sortPriv% PySem.Builtin.setMinGallop
abbrev Y7(st:Bv)(g:Nat):Bv:=Wl (kindOf st) (arrOf st) (Bj st) g (Ky st)
theorem oU(g:Nat):Zi g=modify λst=>Y7 st g:=rfl
theorem Zn(p:Array Keyed)(i:Nat):(p.extract i p.size).toList=p.toList.drop i:=by
 rw[Ng,Ko,Er]
 rw[cS,Az]
 exact Ak _
theorem Vi(p:Array Keyed)(i k:Nat):(p.extract i (i+k)).toList=(p.toList.drop i).take k:=by
 rw[Ng,Ko,Nat.add_sub_cancel_left]
abbrev dn(p q out:Array Keyed)(i j:Nat):Array Keyed:=out++p.extract i p.size++q.extract j q.size
abbrev lst(p q out:Array Keyed)(i j:Nat):Array Keyed:=out++q.extract j q.size++p.extract i p.size
theorem A3(p q out:Array Keyed)(i j:Nat):(dn p q out i j).toList=out.toList++p.toList.drop i++q.toList.drop j:=by
 rw[Dn,Dn,Zn,Zn]
theorem xA(p q out:Array Keyed)(i j:Nat):(lst p q out i j).toList=out.toList++q.toList.drop j++p.toList.drop i:=by
 rw[Dn,Dn,Zn,Zn]
abbrev E2:=Option (Array Keyed)×Array Keyed×Nat×Nat×Nat×Nat×Nat
def F5(p q out:Array Keyed)(i j g ac k:Nat):StateT Bv Sem (ForInStep E2):=do
 let x <- elem' p i
 if (i+1+1 == p.size)=true then pure (Ct (some (lst p q (out.push x) (i+1) j),out.push x,i+1,j,g,ac,k))
 else if (decide (ac<7) && decide (k<7))=true then pure (Ct (none,out.push x,i+1,j,g,ac,k))
 else pure (Fi (none,out.push x,i+1,j,g,ac,k))
def B2(p q out:Array Keyed)(i j g ac bc:Nat):StateT Bv Sem (ForInStep E2):=do
 let y <- elem' q j
 if (j+1 == q.size)=true then pure (Ct (some (dn p q (out.push y) i (j+1)),out.push y,i,j+1,g,ac,bc))
 else do
  let x <- elem' p i
  let some k <- Su true x q (j+1) (q.size - (j+1)) 0 | pure (Ct (some (dn p q (out.push y) i (j+1)),out.push y,i,j+1,g,ac,bc))
  if k > 0 then
   if (j+1+k == q.size)=true then pure (Ct (some (dn p q (out.push y++q.extract (j+1) (j+1+k)) i (j+1+k)),out.push y++q.extract (j+1) (j+1+k),i,j+1+k,g,ac,k))
   else F5 p q (out.push y++q.extract (j+1) (j+1+k)) i (j+1+k) g ac k
  else F5 p q (out.push y) i (j+1) g ac k
def W8(p q out:Array Keyed)(i j g ac bc:Nat):StateT Bv Sem (ForInStep E2):=do
 Zi g
 let y <- elem' q j
 let some k <- Su false y p i (p.size - i) 0 | pure (Ct (some (dn p q out i j),out,i,j,g,ac,bc))
 if k > 0 then
  if (i+k+1 == p.size)=true then pure (Ct (some (lst p q (out++p.extract i (i+k)) (i+k) j),out++p.extract i (i+k),i+k,j,g,k,bc))
  else if (i+k == p.size)=true then pure (Ct (some (dn p q (out++p.extract i (i+k)) (i+k) j),out++p.extract i (i+k),i+k,j,g,k,bc))
  else B2 p q (out++p.extract i (i+k)) (i+k) j g k bc
 else B2 p q out i j g k bc
section
variable{prog:Bs}{w:World}{A:Cs}{s:Aj}{kd:Lv}{Ok:Keyed->Prop}{blt:Keyed->Keyed->Bool}{E:Value->Aj->Prop}
theorem Sq{st:Bv}(h:Q () st):wpS (model prog w) A E s (liftM (rule x):StateT Bv Sem Unit) Q st:=wpS_lift (Kw ⟨rfl,h⟩)
theorem Ta{st:Bv}(h:∀st',Kept st st'->Q () st'):wpS (model prog w) A E s (Zi g) Q st:=by
 rw[oU]
 exact Jq (h _ ⟨rfl,rfl,rfl,rfl⟩)
structure Two(Ok:Keyed->Prop)(blt:Keyed->Keyed->Bool)(p q:Array Keyed)(x0 y0 xl:Keyed):Prop where
 op:∀x∈p.toList,Ok x
 oq:∀x∈q.toList,Ok x
 sp:p.toList.Pairwise (le blt)
 sq:q.toList.Pairwise (le blt)
 hx0:p[0]? = some x0
 hy0:q[0]? = some y0
 hxl:p[p.size - 1]? = some xl
 first:blt y0 x0=true
 last:∀y∈q.toList,blt y xl=true
abbrev nL(blt:Keyed->Keyed->Bool)(p q r:Array Keyed):Prop:=r.toList.Perm (p.toList++q.toList)/\r.toList.Pairwise (le blt)
theorem Ef{p:Array Keyed}{i:Nat}(h:p[i]? = some x):p.toList[i]? = some x:=by simpa using h
theorem Fj{p:Array Keyed}(h:i<p.size):∃x,p[i]? = some x:=⟨p[i],by simp [h]⟩
theorem Jg{p:Array Keyed}{i:Nat}(h:p[i]? = some x):x∈p.toList:=Ax (Ef h)
theorem jP{α:Type}{l:List α}{z:α}(h:z∈l.drop i):∃k,l[i+k]? = some z:=by
 obtain ⟨k,hk,e⟩:=Hn.mp h
 exact ⟨k,by rw[<- Xw,Ba hk,e]⟩
theorem Kv(C:Cmp prog w A s kd Ok blt){l:List Keyed}(sl:l.Pairwise (le blt)){i j:Nat}(hij:i<=j)(hx:l[i]? = some x)(hy:l[j]? = some y):le blt x y:=by
 by_cases e:i=j
 ·subst e
  rw[hx] at hy
  cases hy
  exact C.refl x
 ·obtain ⟨hi,ex⟩:=Ap.mp hx
  obtain ⟨hj,ey⟩:=Ap.mp hy
  have:=Eu.mp sl i j hi hj (by omega)
  rw[ex,ey] at this
  exact this
theorem Pa(C:Cmp prog w A s kd Ok blt){l:List Keyed}(sl:l.Pairwise (le blt))(hx:l[i]? = some x)(h:le blt y x):∀z∈l.drop i,le blt y z:=λz hz=>by
 obtain ⟨k,hk⟩:=jP hz
 exact C.trans h (Kv C sl (Km i k) hx hk)
abbrev LI(blt:Keyed->Keyed->Bool)(p q out:Array Keyed)(i j:Nat):Prop:=MI (le blt) p.toList q.toList out.toList i j
theorem Np(out:Array Keyed)(x:Keyed):(out.push x).toList=out.toList++[x]:=by simp
theorem Two.last_end(C:Cmp prog w A s kd Ok blt)(T:Two Ok blt p q x0 y0 xl)(M:LI blt p q out i j)(hi:i+1=p.size):nL blt p q (lst p q out i j):=by
 have h:=M.endYX T.sp T.sq (λy hy x hx=>?_)
 ·rw[<- xA] at h
  exact h
 ·obtain ⟨k,hk⟩:=jP hx
  have : k=0:=by
   have:=(Ap.mp hk).1
   rw[Az] at this
   omega
  subst this
  have e:x=xl:=by
   have:=Ef T.hxl
   rw[show p.size - 1=i+0 by omega,hk] at this
   exact Bp this
  rw[e]
  exact C.ofLt (T.last y (List.mem_of_mem_drop hy))
theorem Two.done_end(T:Two Ok blt p q x0 y0 xl)(M:LI blt p q out i j)(hj:q.size<=j):nL blt p q (dn p q out i j):=by
 have h:=M.endX T.sp (by rw[Az]; exact hj)
 rw[<- A3] at h
 exact h
def DX(blt:Keyed->Keyed->Bool)(p q:Array Keyed)(st:Bv)(n:Nat)(r:ForInStep E2)(st':Bv):Prop:=Kept st st'/\match r with
 | .done (some r,_)=>nL blt p q r
 | .done (none,out,i,j,_)=>LI blt p q out i j/\i+1<p.size/\j<q.size/\n<i+j
 | .yield (none,out,i,j,_)=>LI blt p q out i j/\i+1<p.size/\j<q.size/\n<i+j
 | .yield (some _,_)=>False
theorem pW(C:Cmp prog w A s kd Ok blt)(T:Two Ok blt p q x0 y0 xl){st0 st:Bv}(kp:Kept st0 st)(M:LI blt p q out i j)(hi:i+1<p.size)(hj:j<q.size)(hn:n<=i+j)(hx:p[i]? = some x)(hq:∀z∈q.toList.drop j,le blt x z):wpS (model prog w) A E s (F5 p q out i j g ac k) (DX blt p q st0 n) st:=by
 unfold F5
 refine Bd (Ff hx ?_)
 have M1:LI blt p q (out.push x) (i+1) j:=by
  have:=M.pushX T.sp (Ef hx) hq
  rw[<- Np] at this
  exact this
 by_cases h1:i+1+1=p.size
 ·rw[if_pos (by rw[h1]; exact beq_self_eq_true _)]
  exact Bk ⟨kp,T.last_end C M1 h1⟩
 ·rw[if_neg (λz=>h1 (Ds z))]
  by_cases h2:(decide (ac<7) && decide (k<7))=true
  ·rw[if_pos h2]
   exact Bk ⟨kp,M1,by omega,hj,by omega⟩
  ·rw[if_neg h2]
   exact Bk ⟨kp,M1,by omega,hj,by omega⟩
theorem rL(C:Cmp prog w A s kd Ok blt)(T:Two Ok blt p q x0 y0 xl){st0 st:Bv}(kp:Kept st0 st)(hk:kindOf st=kd)(M:LI blt p q out i j)(hi:i+1<p.size)(hj:j<q.size)(hn:n<=i+j)(hx:p[i]? = some x)(hy:q[j]? = some y)(hyx:blt y x=true):wpS (model prog w) A E s (B2 p q out i j g ac bc) (DX blt p q st0 n) st:=by
 unfold B2
 refine Bd (Ff hy ?_)
 have M1:LI blt p q (out.push y) i (j+1):=by
  have:=M.pushY T.sq (Ef hy) (Pa C T.sp (Ef hx) (C.ofLt hyx))
  rw[<- Np] at this
  exact this
 by_cases h1:j+1=q.size
 ·rw[if_pos (by rw[h1]; exact beq_self_eq_true _)]
  exact Bk ⟨kp,T.done_end M1 (by omega)⟩
 ·rw[if_neg (λz=>h1 (Ds z))]
  refine Bd (Ff hx ?_)
  have R:Row Ok q (j+1) (q.size - (j+1)) (λm=>q.getD (j+1+m) y):=⟨λm hm=>?_,λm hm=>?_⟩
  ·refine Bd (Nr C R (T.op x (Jg hx)) hk (by omega) (λa b hab hb q1=>?_) λk hk1 t1 t2=>?_)
   ·obtain ⟨ya,ea⟩:=Fj (p:=q) (i:=j+1+a) (by omega)
    obtain ⟨yb,eb⟩:=Fj (p:=q) (i:=j+1+b) (by omega)
    have ga:q.getD (j+1+a) y=ya:=by simp [Dt,ea]
    have gb:q.getD (j+1+b) y=yb:=by simp [Dt,eb]
    simp only[ga,gb,Gi,if_true] at q1 ⊢
    exact C.leLt (Kv C T.sq (by omega) (Ef ea) (Ef eb)) q1
   ·dsimp only
    have val:∀m yy,q[j+1+m]? = some yy->q.getD (j+1+m) y=yy:=λm yy e=>by simp [Dt,e]
    have M2:LI blt p q (out.push y++q.extract (j+1) (j+1+k)) i (j+1+k):=by
     have:=M1.blockY T.sq k (by rw[Az]; omega) (λm hm yy ey=>by
      have ey':q[j+1+m]? = some yy:=by simpa using ey
      have:=t1 m hm
      rw[val m yy ey'] at this
      simp only[Gi,if_true] at this
      exact Pa C T.sp (Ef hx) (C.ofLt this))
     rw[<- Vi,<- Dn] at this
     exact this
    by_cases h2:k > 0
    ·rw[if_pos h2]
     by_cases h3:j+1+k=q.size
     ·rw[if_pos (by rw[h3]; exact beq_self_eq_true _)]
      exact Bk ⟨kp,T.done_end M2 (by omega)⟩
     ·rw[if_neg (λz=>h3 (Ds z))]
      obtain ⟨yk,ek⟩:=Fj (p:=q) (i:=j+1+k) (by omega)
      refine pW C T kp M2 hi (by omega) (by omega) hx (Pa C T.sq (Ef ek) ?_)
      have:=t2 k (Ak _) (by omega)
      rw[val k yk ek] at this
      have z:blt yk x=false:=by simpa only [Gi,if_true] using this
      exact z
    ·rw[if_neg h2]
     have hk0:k=0:=by omega
     subst hk0
     obtain ⟨yk,ek⟩:=Fj (p:=q) (i:=j+1) (by omega)
     refine pW C T kp M1 hi (by omega) (by omega) hx (Pa C T.sq (Ef ek) ?_)
     have:=t2 0 (Ak _) (by omega)
     rw[val 0 yk ek] at this
     have z:blt yk x=false:=by simpa only [Gi,if_true] using this
     exact z
  ·obtain ⟨ya,ea⟩:=Fj (p:=q) (i:=j+1+m) (by omega)
   rw[ea]
   simp [Dt,ea]
  ·obtain ⟨ya,ea⟩:=Fj (p:=q) (i:=j+1+m) (by omega)
   have : q.getD (j+1+m) y=ya:=by simp [Dt,ea]
   rw[this]
   exact T.oq ya (Jg ea)
theorem M4(C:Cmp prog w A s kd Ok blt)(T:Two Ok blt p q x0 y0 xl){st0 st:Bv}(kp:Kept st0 st)(hk:kindOf st=kd)(M:LI blt p q out i j)(hi:i+1<p.size)(hj:j<q.size)(hn:n<=i+j):wpS (model prog w) A E s (W8 p q out i j g ac bc) (DX blt p q st0 n) st:=by
 unfold W8
 refine Bd (Ta λst1 kp1=>?_)
 have kp':=kp.trans kp1
 have hk':kindOf st1=kd:=kp1.kind.trans hk
 obtain ⟨y,hy⟩:=Fj (p:=q) hj
 refine Bd (Ff hy ?_)
 have val:∀m xx,p[i+m]? = some xx->p.getD (i+m) y=xx:=λm xx e=>by simp [Dt,e]
 have R:Row Ok p i (p.size - i) (λm=>p.getD (i+m) y):=⟨λm hm=>by
  obtain ⟨xa,ea⟩:=Fj (p:=p) (i:=i+m) (by omega)
  rw[val m xa ea,ea],λm hm=>by
  obtain ⟨xa,ea⟩:=Fj (p:=p) (i:=i+m) (by omega)
  show Ok (p.getD (i+m) y)
  rw[val m xa ea]
  exact T.op xa (Jg ea)⟩
 refine Bd (Nr C R (T.oq y (Jg hy)) hk' (by omega) (λa b hab hb q1=>?_) λk hk1 t1 t2=>?_)
 ·obtain ⟨xa,ea⟩:=Fj (p:=p) (i:=i+a) (by omega)
  obtain ⟨xb,eb⟩:=Fj (p:=p) (i:=i+b) (by omega)
  simp only[val a xa ea,val b xb eb,Gi,Bx,if_false,Jy] at q1 ⊢
  exact C.trans (Kv C T.sp (by omega) (Ef ea) (Ef eb)) q1
 ·dsimp only
  -- the last one is beyond y: so k does not reach it
  have hkl:i+k+1<=p.size:=by
   rcases Nat.lt_or_ge (i+k) p.size with z | z
   ·omega
   ·exfalso
    have:=t1 (p.size - 1 - i) (by omega)
    have e:p[i+(p.size - 1 - i)]? = some xl:=by
     rw[show i+(p.size - 1 - i)=p.size - 1 by omega]
     exact T.hxl
    rw[val _ xl e] at this
    simp only[Gi,Bx,if_false,T.last y (Jg hy),Bool.not_true] at this
  have M1:LI blt p q (out++p.extract i (i+k)) (i+k) j:=by
   have:=M.blockX T.sp k (by rw[Az]; omega) (λm hm xx ex=>by
    have ex':p[i+m]? = some xx:=by simpa using ex
    have:=t1 m hm
    rw[val m xx ex'] at this
    simp only[Gi,Bx,if_false,Jy] at this
    exact Pa C T.sq (Ef hy) this)
   rw[<- Vi,<- Dn] at this
   exact this
  obtain ⟨xk,ek⟩:=Fj (p:=p) (i:=i+k) (by omega)
  have hyx:blt y xk=true:=by
   have:=t2 k (Ak _) (by omega)
   rw[val k xk ek] at this
   simpa only [Gi,Bx,if_false,Xy] using this
  by_cases h2:k > 0
  ·rw[if_pos h2]
   by_cases h3:i+k+1=p.size
   ·rw[if_pos (by rw[h3]; exact beq_self_eq_true _)]
    exact Bk ⟨kp',T.last_end C M1 h3⟩
   ·rw[if_neg (λz=>h3 (Ds z)),if_neg (λz=>by have:=Ds z; omega)]
    exact rL C T kp' hk' M1 (by omega) hj (by omega) ek hy hyx
  ·rw[if_neg h2]
   have hk0:k=0:=by omega
   subst hk0
   exact rL C T kp' hk' M hi hj hn ek hy hyx
theorem mY(C:Cmp prog w A s kd Ok blt)(T:Two Ok blt p q x0 y0 xl){st:Bv}(hk:kindOf st=kd)(h:∀r st',Kept st st'->nL blt p q r->Q r st'):wpS (model prog w) A E s (jV p q) Q st:=by
 have p0:0<p.size:=by
  have:=(Gy.mp T.hx0).1
  exact this
 have q0:0<q.size:=by
  have:=(Gy.mp T.hy0).1
  exact this
 have M0:LI blt p q #[y0] 0 1:=by
  have m:LI blt p q #[] 0 0:=⟨by simp,by simp,λo ho=>by simp at ho,λo ho=>by simp at ho⟩
  have:=m.pushY T.sq (Ef T.hy0) (Pa C T.sp (Ef T.hx0) (C.ofLt T.first))
  simpa using this
 unfold jV
 refine Bd (Sq ?_)
 refine Bd (Ff T.hy0 ?_)
 dsimp only
 by_cases h1:1=q.size
 ·rw[if_pos (by rw[<- h1]; rfl)]
  exact Bk (h _ _ (Kept.refl _) (T.done_end M0 (by omega)))
 rw[if_neg (λz=>h1 (Ds z))]
 by_cases h2:0+1=p.size
 ·rw[if_pos (by rw[<- h2]; rfl)]
  exact Bk (h _ _ (Kept.refl _) (T.last_end C M0 (by omega)))
 rw[if_neg (λz=>h2 (Ds z))]
 refine Bd (Nb ?_)
 refine Bd (Gx (Eg
  (I:=λx c st'=>Kept st st'/\∃out i j g,c=(none,out,i,j,g)/\LI blt p q out i j/\i+1<p.size/\j<q.size/\x+1<=i+j)
  (Q:=λc st'=>Kept st st'/\∃r Gj,c=(some r,Gj)/\nL blt p q r) ?_ ?_ ⟨Kept.refl _,_,0,1,_,rfl,M0,by omega,by omega,by omega⟩) ?_)
 ·(intro x c st1 _ hx q_; obtain ⟨kp1,out,i,j,g,rfl,M,hi,hj,hn⟩ := q_)
  dsimp only
  -- one by one
  refine Bd (Gx (Eg
   (I:=λ_ c st'=>st'=st1/\∃out i j ac bc,c=(none,out,i,j,ac,bc)/\LI blt p q out i j/\i+1<p.size/\j<q.size/\x+1<=i+j)
   (Q:=λc st'=>st'=st1/\((∃r Gj,c=(some r,Gj)/\nL blt p q r)\/∃out i j ac bc,c=(none,out,i,j,ac,bc)/\LI blt p q out i j/\i+1<p.size/\j<q.size/\x+1<=i+j)) ?_ ?_ ⟨rfl,out,i,j,0,0,rfl,M,hi,hj,hn⟩) ?_)
  ·(intro z c st2 _ hz q_; obtain ⟨rfl,out,i,j,ac,bc,rfl,M,hi,hj,hn⟩ := q_)
   dsimp only
   obtain ⟨yy,hy⟩:=Fj (p:=q) hj
   obtain ⟨xx,hx⟩:=Fj (p:=p) (i:=i) (by omega)
   refine Bd (Ff hy ?_)
   refine Bd (Ff hx ?_)
   refine Bd (mG C (kp1.kind.trans hk) (T.oq yy (Jg hy)) (T.op xx (Jg hx)) ?_)
   dsimp only
   cases hb:blt yy xx with
   | true =>
    rw[if_pos rfl]
    refine Bd (Ff hy ?_)
    have M1:LI blt p q (out.push yy) i (j+1):=by
     have:=M.pushY T.sq (Ef hy) (Pa C T.sp (Ef hx) (C.ofLt hb))
     rw[<- Np] at this
     exact this
    by_cases e1:j+1=q.size
    ·rw[if_pos (by rw[e1]; exact beq_self_eq_true _)]
     exact Bk ⟨rfl,.inl ⟨_,_,rfl,T.done_end M1 (by omega)⟩⟩
    ·rw[if_neg (λz=>e1 (Ds z))]
     split
     ·exact Bk ⟨rfl,.inr ⟨_,_,_,_,_,rfl,M1,hi,by omega,by omega⟩⟩
     ·exact Bk ⟨rfl,_,_,_,_,_,rfl,M1,hi,by omega,by omega⟩
   | false =>
    rw[if_neg Bt]
    refine Bd (Ff hx ?_)
    have M1:LI blt p q (out.push xx) (i+1) j:=by
     have:=M.pushX T.sp (Ef hx) (Pa C T.sq (Ef hy) hb)
     rw[<- Np] at this
     exact this
    by_cases e1:i+1+1=p.size
    ·rw[if_pos (by rw[e1]; exact beq_self_eq_true _)]
     exact Bk ⟨rfl,.inl ⟨_,_,rfl,T.last_end C M1 (by omega)⟩⟩
    ·rw[if_neg (λz=>e1 (Ds z))]
     split
     ·exact Bk ⟨rfl,.inr ⟨_,_,_,_,_,rfl,M1,by omega,hj,by omega⟩⟩
     ·exact Bk ⟨rfl,_,_,_,_,_,rfl,M1,by omega,hj,by omega⟩
  ·(intro c st2 q_; obtain ⟨rfl,out,i,j,ac,bc,rfl,M⟩ := q_)
   exact ⟨rfl,.inr ⟨out,i,j,ac,bc,rfl,M⟩⟩
  ·rintro c st2 ⟨rfl,hc⟩
   rcases hc with hc | hc
   ·obtain ⟨r,Gj,rfl,hr⟩:=hc
    exact Bk ⟨kp1,r,_,rfl,hr⟩
   ·obtain ⟨out,i,j,ac,bc,rfl,M,hi,hj,hn⟩:=hc
    dsimp only
    refine Bd (Sq ?_)
    -- the gallop
    refine Bd (Gx (Eg
     (I:=λy c st'=>Kept st st'/\∃out i j g ac bc,c=(none,out,i,j,g,ac,bc)/\LI blt p q out i j/\i+1<p.size/\j<q.size/\(if y=0 then x+1<=i+j else x+2<=i+j))
     (Q:=λc st'=>Kept st st'/\((∃r Gj,c=(some r,Gj)/\nL blt p q r)\/∃out i j g ac bc,c=(none,out,i,j,g,ac,bc)/\LI blt p q out i j/\i+1<p.size/\j<q.size/\x+2<=i+j)) ?_ ?_
     ⟨kp1,out,i,j,_,ac,bc,rfl,M,hi,hj,by rw[if_pos rfl]; exact hn⟩) ?_)
    ·(intro y c st3 _ hy q_; obtain ⟨kp3,out,i,j,g,ac,bc,rfl,M,hi,hj,hn⟩ := q_)
     have hn':x+1<=i+j:=by split at hn <;> omega
     have key:∀g',wpS (model prog w) A E s (W8 p q out i j g' ac bc) (DX blt p q st (x+1)) st3:=λg'=>M4 C T kp3 (kp3.kind.trans hk) M hi hj hn'
     dsimp only
     refine Gx (?_:wpS (model prog w) A E s _ (DX blt p q st (x+1)) st3) λr st4 hr=>?_
     ·by_cases hg:g > 1
      ·rw[if_pos hg]
       exact key _
      ·rw[if_neg hg]
       exact key _
     ·obtain ⟨kp4,hr⟩:=hr
      match r,hr with
      | .done (some r,Gj),hr=>exact ⟨kp4,.inl ⟨r,Gj,rfl,hr⟩⟩
      | .done (none,out,i,j,g,ac,bc),hr=>exact ⟨kp4,.inr ⟨out,i,j,g,ac,bc,rfl,hr.1,hr.2.1,hr.2.2.1,by have:=hr.2.2.2; omega⟩⟩
      | .yield (none,out,i,j,g,ac,bc),hr=>exact ⟨kp4,out,i,j,g,ac,bc,rfl,hr.1,hr.2.1,hr.2.2.1,by rw[if_neg (by omega)]; have:=hr.2.2.2; omega⟩
    ·(intro c st3 q_; obtain ⟨kp3,out,i,j,g,ac,bc,rfl,M,hi,hj,hn⟩ := q_)
     rw[if_neg (by omega)] at hn
     exact ⟨kp3,.inr ⟨out,i,j,g,ac,bc,rfl,M,hi,hj,hn⟩⟩
    ·rintro c st3 ⟨kp3,hc⟩
     rcases hc with hc | hc
     ·obtain ⟨r,Gj,rfl,hr⟩:=hc
      exact Bk ⟨kp3,r,_,rfl,hr⟩
     ·obtain ⟨out,i,j,g,ac,bc,rfl,M,hi,hj,hn⟩:=hc
      dsimp only
      refine Bd (Ta λst4 kp4=>?_)
      exact Bk ⟨kp3.trans kp4,out,i,j,_,rfl,M,hi,hj,by omega⟩
 ·(intro c st1 q_; obtain ⟨kp1,out,i,j,g,rfl,M,hi,hj,hn⟩ := q_)
  exfalso
  have : max 0 (p.size+q.size)=p.size+q.size:=by omega
  rw[this] at hn
  omega
 ·(intro c st1 q_; obtain ⟨kp1,r,Gj,rfl,hr⟩ := q_)
  exact Bk (h r st1 kp1 hr)
end
def kF:Array Keyed->Array Keyed->StateT Bv Sem (Array Keyed):=sortPriv% PySem.Builtin.mergeHi
abbrev V5(p q out:Array Keyed)(m n:Nat):Array Keyed:=p.extract 0 m++q.extract 0 n++out.reverse
abbrev FM(p q out:Array Keyed)(m n:Nat):Array Keyed:=q.extract 0 n++p.extract 0 m++out.reverse
abbrev M7:=Option (Array Keyed)×Nat×Nat×Array Keyed×Nat×Nat×Nat
def L0(p q out:Array Keyed)(m n g ac k:Nat):StateT Bv Sem (ForInStep M7):=do
 let x <- elem' p (m - 1)
 if (m - 1 == 0)=true then pure (Ct (some (V5 p q (out.push x) (m - 1) n),m - 1,n,out.push x,g,ac,k))
 else if (decide (ac<7) && decide (k<7))=true then pure (Ct (none,m - 1,n,out.push x,g,ac,k))
 else pure (Fi (none,m - 1,n,out.push x,g,ac,k))
def E1(p q out:Array Keyed)(m n g ac bc:Nat):StateT Bv Sem (ForInStep M7):=do
 let y <- elem' q (n - 1)
 if (n - 1 == 1)=true then pure (Ct (some (FM p q (out.push y) m (n - 1)),m,n - 1,out.push y,g,ac,bc))
 else do
  let x <- elem' p (m - 1)
  let some t <- Su true x q 0 (n - 1) (n - 1 - 1) | pure (Ct (some (V5 p q (out.push y) m (n - 1)),m,n - 1,out.push y,g,ac,bc))
  if n - 1 - t > 0 then
   if (t == 1)=true then pure (Ct (some (FM p q (out.push y++(q.extract t (n - 1)).reverse) m t),m,t,out.push y++(q.extract t (n - 1)).reverse,g,ac,n - 1 - t))
   else if (t == 0)=true then pure (Ct (some (V5 p q (out.push y++(q.extract t (n - 1)).reverse) m t),m,t,out.push y++(q.extract t (n - 1)).reverse,g,ac,n - 1 - t))
   else L0 p q (out.push y++(q.extract t (n - 1)).reverse) m t g ac (n - 1 - t)
  else L0 p q (out.push y) m (n - 1) g ac (n - 1 - t)
def R8(p q out:Array Keyed)(m n g ac bc:Nat):StateT Bv Sem (ForInStep M7):=do
 Zi g
 let y <- elem' q (n - 1)
 let some t <- Su false y p 0 m (m - 1) | pure (Ct (some (V5 p q out m n),m,n,out,g,ac,bc))
 if m - t > 0 then
  if (t == 0)=true then pure (Ct (some (V5 p q (out++(p.extract t m).reverse) t n),t,n,out++(p.extract t m).reverse,g,m - t,bc))
  else E1 p q (out++(p.extract t m).reverse) t n g (m - t) bc
 else E1 p q out m n g (m - t) bc
section
variable{α:Type}{R:α->α->Prop}{xs ys out:List α}{i j:Nat}
theorem MI.swap(M:MI R xs ys out i j):MI R ys xs out j i:=⟨M.perm.trans Fv,M.srt,M.ly,M.lx⟩
theorem MI.endXY(M:MI R xs ys out i j)(sx:xs.Pairwise R)(sy:ys.Pairwise R)(h:∀x∈xs.drop i,∀y∈ys.drop j,R x y):(out++xs.drop i++ys.drop j).Perm (xs++ys)/\(out++xs.drop i++ys.drop j).Pairwise R:=by
 have:=M.swap.endYX sy sx h
 exact ⟨this.1.trans Fv,this.2⟩
end
abbrev ge(blt:Keyed->Keyed->Bool)(x y:Keyed):Prop:=le blt y x
abbrev HI(blt:Keyed->Keyed->Bool)(p q out:Array Keyed)(m n:Nat):Prop:=MI (ge blt) p.toList.reverse q.toList.reverse out.toList (p.size - m) (q.size - n)
theorem Jf(p:Array Keyed)(h:m<=p.size):p.toList.reverse.drop (p.size - m)=(p.toList.take m).reverse:=by
 rw[List.drop_reverse,Az]
 congr 2
 omega
theorem yJ{p:Array Keyed}(h0:0<m)(h:m<=p.size)(e:p[m - 1]? = some x):p.toList.reverse[p.size - m]? = some x:=by
 rw[Tx (by rw[Az]; omega),Az,show p.size - 1 - (p.size - m)=m - 1 by omega]
 exact Ef e
theorem K8(p:Array Keyed)(m:Nat):(p.extract 0 m).toList=p.toList.take m:=by
 rw[Ng,Ko,List.drop_zero,Nat.sub_zero]
theorem DP(p:Array Keyed)(h1:t<=m)(h2:m<=p.size):(p.extract t m).reverse.toList=(p.toList.reverse.drop (p.size - m)).take (m - t):=by
 rw[Jf p h2,List.take_reverse,Ug,Ng,Ko,Cw,Az,List.drop_take]
 congr 2
 ·omega
 ·congr 1
  omega
section
variable{prog:Bs}{w:World}{A:Cs}{s:Aj}{kd:Lv}{Ok:Keyed->Prop}{blt:Keyed->Keyed->Bool}{E:Value->Aj->Prop}
theorem Jh{l:List Keyed}(h:l.Pairwise (le blt)):l.reverse.Pairwise (ge blt):=Mp.mpr h
theorem Two.dn_end(T:Two Ok blt p q x0 y0 xl)(M:HI blt p q out m n)(hm:m<=p.size)(hn:n<=q.size)(h:m=0\/n=0):nL blt p q (V5 p q out m n):=by
 have h1:=M.endYX (Jh T.sp) (Jh T.sq) (λy hy x hx=>by
  rw[Jf p hm] at hx
  rw[Jf q hn] at hy
  rcases h with h | h
  ·subst h; simp at hx
  ·subst h; simp at hy)
 rw[Jf p hm,Jf q hn] at h1
 have e:(V5 p q out m n).toList=(out.toList++(q.toList.take n).reverse++(p.toList.take m).reverse).reverse:=by
  rw[Dn,Dn,K8,K8,Ug]
  simp
 refine ⟨?_,?_⟩
 ·rw[e]
  refine (Hm _).trans (h1.1.trans ?_)
  exact List.Perm.append (Hm _) (Hm _)
 ·rw[e]
  exact Mp.mpr h1.2
theorem Two.fs_end(C:Cmp prog w A s kd Ok blt)(T:Two Ok blt p q x0 y0 xl)(M:HI blt p q out m n)(hm:m<=p.size)(hn:n=1)(hq:1<=q.size):nL blt p q (FM p q out m n):=by
 subst hn
 have h1:=M.endXY (Jh T.sp) (Jh T.sq) (λx hx y hy=>by
  rw[Jf p hm] at hx
  rw[Jf q hq] at hy
  have ey:y=y0:=by
   have : y∈q.toList.take 1:=Mx.mp hy
   obtain ⟨k,hk,e⟩:=Hn.mp this
   have hk0:k=0:=by
    rw[Cw] at hk
    omega
   subst hk0
   have e2:q.toList[0]? = some y:=by
    rw[<- e,<- Ba hk,Ei (by omega)]
   rw[Ef T.hy0] at e2
   exact (Bp e2).symm
  rw[ey]
  have hx':x∈p.toList:=List.mem_of_mem_take (Mx.mp hx)
  obtain ⟨k,hk,e⟩:=Hn.mp hx'
  have e2:p.toList[k]? = some x:=by rw[<- e,Ba hk]
  exact C.trans (C.ofLt T.first) (Kv C T.sp (Dg k) (Ef T.hx0) e2))
 rw[Jf p hm,Jf q hq] at h1
 have e:(FM p q out m 1).toList=(out.toList++(p.toList.take m).reverse++(q.toList.take 1).reverse).reverse:=by
  rw[Dn,Dn,K8,K8,Ug]
  simp
 refine ⟨?_,?_⟩
 ·rw[e]
  refine (Hm _).trans (h1.1.trans ?_)
  exact List.Perm.append (Hm _) (Hm _)
 ·rw[e]
  exact Mp.mpr h1.2
theorem Te(C:Cmp prog w A s kd Ok blt){p:Array Keyed}(sp:p.toList.Pairwise (le blt))(h0:0<m)(hm:m<=p.size)(hx:p[m - 1]? = some x)(h:le blt x y):∀z∈p.toList.reverse.drop (p.size - m),ge blt y z:=λz hz=>by
 rw[Jf p hm] at hz
 obtain ⟨k,hk,e⟩:=Hn.mp (Mx.mp hz)
 have e2:p.toList[k]? = some z:=by
  rw[Cw] at hk
  rw[<- e,<- Ba (by rw[Cw]; exact hk),Ei (by omega)]
 rw[Cw] at hk
 exact C.trans (Kv C sp (by omega) e2 (Ef hx)) h
theorem HI.pushX(C:Cmp prog w A s kd Ok blt)(T:Two Ok blt p q x0 y0 xl)(M:HI blt p q out m n)(h0:0<m)(hm:m<=p.size)(hx:p[m - 1]? = some x)(h:∀z∈q.toList.reverse.drop (q.size - n),ge blt x z):HI blt p q (out.push x) (m - 1) n:=by
 have:=MI.pushX M (Jh T.sp) (yJ h0 hm hx) h
 rw[<- Np,show p.size - m+1=p.size - (m - 1) by omega] at this
 exact this
theorem HI.pushY(C:Cmp prog w A s kd Ok blt)(T:Two Ok blt p q x0 y0 xl)(M:HI blt p q out m n)(h0:0<n)(hn:n<=q.size)(hy:q[n - 1]? = some y)(h:∀z∈p.toList.reverse.drop (p.size - m),ge blt y z):HI blt p q (out.push y) m (n - 1):=by
 have:=MI.pushY M (Jh T.sq) (yJ h0 hn hy) h
 rw[<- Np,show q.size - n+1=q.size - (n - 1) by omega] at this
 exact this
def BQ(blt:Keyed->Keyed->Bool)(p q:Array Keyed)(st:Bv)(b:Nat)(r:ForInStep M7)(st':Bv):Prop:=Kept st st'/\match r with
 | .done (some r,_)=>nL blt p q r
 | .done (none,m,n,out,_)=>HI blt p q out m n/\0<m/\m<=p.size/\1<n/\n<=q.size/\m+n<b
 | .yield (none,m,n,out,_)=>HI blt p q out m n/\0<m/\m<=p.size/\1<n/\n<=q.size/\m+n<b
 | .yield (some _,_)=>False
theorem qI(C:Cmp prog w A s kd Ok blt)(T:Two Ok blt p q x0 y0 xl){st0 st:Bv}(kp:Kept st0 st)(M:HI blt p q out m n)(m0:0<m)(hm:m<=p.size)(n0:1<n)(hn:n<=q.size)(hb:m+n<=b)(hx:p[m - 1]? = some x)(hq:∀z∈q.toList.reverse.drop (q.size - n),ge blt x z):wpS (model prog w) A E s (L0 p q out m n g ac k) (BQ blt p q st0 b) st:=by
 unfold L0
 refine Bd (Ff hx ?_)
 have M1:=HI.pushX C T M m0 hm hx hq
 by_cases h1:m - 1=0
 ·rw[if_pos (by rw[h1]; rfl)]
  exact Bk ⟨kp,T.dn_end M1 (by omega) hn (.inl h1)⟩
 ·rw[if_neg (λz=>h1 (Ds z))]
  by_cases h2:(decide (ac<7) && decide (k<7))=true
  ·rw[if_pos h2]
   exact Bk ⟨kp,M1,by omega,by omega,n0,hn,by omega⟩
  ·rw[if_neg h2]
   exact Bk ⟨kp,M1,by omega,by omega,n0,hn,by omega⟩
theorem qM(C:Cmp prog w A s kd Ok blt)(T:Two Ok blt p q x0 y0 xl){st0 st:Bv}(kp:Kept st0 st)(hk:kindOf st=kd)(M:HI blt p q out m n)(m0:0<m)(hm:m<=p.size)(n0:1<n)(hn:n<=q.size)(hb:m+n<=b)(hx:p[m - 1]? = some x)(hy:q[n - 1]? = some y)(hxy:le blt x y):wpS (model prog w) A E s (E1 p q out m n g ac bc) (BQ blt p q st0 b) st:=by
 unfold E1
 refine Bd (Ff hy ?_)
 have M1:=HI.pushY C T M (by omega) hn hy (Te C T.sp m0 hm hx hxy)
 by_cases h1:n - 1=1
 ·rw[if_pos (by rw[h1]; rfl)]
  exact Bk ⟨kp,T.fs_end C M1 hm h1 (by omega)⟩
 rw[if_neg (λz=>h1 (Ds z))]
 refine Bd (Ff hx ?_)
 have val:∀i yy,q[i]? = some yy->q.getD (0+i) y=yy:=λi yy e=>by rw[Pe]; simp [Dt,e]
 have R:Row Ok q 0 (n - 1) (λi=>q.getD (0+i) y):=⟨λi hi=>by
  obtain ⟨ya,ea⟩:=Fj (p:=q) (i:=i) (by omega)
  rw[val i ya ea,Pe,ea],λi hi=>by
  obtain ⟨ya,ea⟩:=Fj (p:=q) (i:=i) (by omega)
  show Ok (q.getD (0+i) y)
  rw[val i ya ea]
  exact T.oq ya (Jg ea)⟩
 refine Bd (Nr C R (T.op x (Jg hx)) hk (by omega) (λa c hab hc q1=>?_) λt ht t1 t2=>?_)
 ·obtain ⟨ya,ea⟩:=Fj (p:=q) (i:=a) (by omega)
  obtain ⟨yc,ec⟩:=Fj (p:=q) (i:=c) (by omega)
  simp only[val a ya ea,val c yc ec,Gi,if_true] at q1 ⊢
  exact C.leLt (Kv C T.sq hab (Ef ea) (Ef ec)) q1
 dsimp only
 have M2:HI blt p q (out.push y++(q.extract t (n - 1)).reverse) m t:=by
  have:=MI.blockY M1 (Jh T.sq) (n - 1 - t) (by rw[Ia,Az]; omega) (λi hi yy ey=>by
   have e1:q[n - 1 - i - 1]? = some yy:=by
    rw[Tx (by rw[Az]; omega),Az,show q.size - 1 - (q.size - (n - 1)+i)=n - 1 - i - 1 by omega] at ey
    simpa using ey
   have:=t2 (n - 1 - i - 1) (by omega) (by omega)
   rw[val _ yy e1] at this
   have z:blt yy x=false:=by simpa only [Gi,if_true] using this
   exact Te C T.sp m0 hm hx z)
  rw[<- DP q (by omega) (by omega),<- Dn,show q.size - (n - 1)+(n - 1 - t)=q.size - t by omega] at this
  exact this
 -- what is left of q is below x
 have below:∀z∈q.toList.reverse.drop (q.size - t),ge blt x z:=λz hz=>by
  rw[Jf q (by omega)] at hz
  obtain ⟨k,hk',e⟩:=Hn.mp (Mx.mp hz)
  rw[Cw] at hk'
  have e2:q.toList[k]? = some z:=by
   rw[<- e,<- Ba (by rw[Cw]; exact hk'),Ei (by omega)]
  have e3:q[k]? = some z:=by simpa using e2
  have:=t1 k (by omega)
  rw[val k z e3] at this
  exact C.ofLt (by simpa only [Gi,if_true] using this)
 by_cases h2:n - 1 - t > 0
 ·rw[if_pos h2]
  by_cases h3:t=1
  ·rw[if_pos (by rw[h3]; rfl)]
   exact Bk ⟨kp,T.fs_end C M2 hm h3 (by omega)⟩
  ·rw[if_neg (λz=>h3 (Ds z))]
   by_cases h4:t=0
   ·rw[if_pos (by rw[h4]; rfl)]
    exact Bk ⟨kp,T.dn_end M2 hm (by omega) (.inr h4)⟩
   ·rw[if_neg (λz=>h4 (Ds z))]
    exact qI C T kp M2 m0 hm (by omega) (by omega) (by omega) hx below
 ·rw[if_neg h2]
  have et:t=n - 1:=by omega
  rw[et] at below
  exact qI C T kp M1 m0 hm (by omega) (by omega) (by omega) hx below
theorem K9(C:Cmp prog w A s kd Ok blt)(T:Two Ok blt p q x0 y0 xl){st0 st:Bv}(kp:Kept st0 st)(hk:kindOf st=kd)(M:HI blt p q out m n)(m0:0<m)(hm:m<=p.size)(n0:1<n)(hn:n<=q.size)(hb:m+n<=b):wpS (model prog w) A E s (R8 p q out m n g ac bc) (BQ blt p q st0 b) st:=by
 unfold R8
 refine Bd (Ta λst1 kp1=>?_)
 have kp':=kp.trans kp1
 have hk':kindOf st1=kd:=kp1.kind.trans hk
 obtain ⟨y,hy⟩:=Fj (p:=q) (i:=n - 1) (by omega)
 refine Bd (Ff hy ?_)
 have val:∀i xx,p[i]? = some xx->p.getD (0+i) y=xx:=λi xx e=>by rw[Pe]; simp [Dt,e]
 have R:Row Ok p 0 m (λi=>p.getD (0+i) y):=⟨λi hi=>by
  obtain ⟨xa,ea⟩:=Fj (p:=p) (i:=i) (by omega)
  rw[val i xa ea,Pe,ea],λi hi=>by
  obtain ⟨xa,ea⟩:=Fj (p:=p) (i:=i) (by omega)
  show Ok (p.getD (0+i) y)
  rw[val i xa ea]
  exact T.op xa (Jg ea)⟩
 refine Bd (Nr C R (T.oq y (Jg hy)) hk' (by omega) (λa c hab hc q1=>?_) λt ht t1 t2=>?_)
 ·obtain ⟨xa,ea⟩:=Fj (p:=p) (i:=a) (by omega)
  obtain ⟨xc,ec⟩:=Fj (p:=p) (i:=c) (by omega)
  simp only[val a xa ea,val c xc ec,Gi,Bx,if_false,Jy] at q1 ⊢
  exact C.trans (Kv C T.sp hab (Ef ea) (Ef ec)) q1
 dsimp only
 have M1:HI blt p q (out++(p.extract t m).reverse) t n:=by
  have:=MI.blockX M (Jh T.sp) (m - t) (by rw[Ia,Az]; omega) (λi hi xx ex=>by
   have e1:p[m - i - 1]? = some xx:=by
    rw[Tx (by rw[Az]; omega),Az,show p.size - 1 - (p.size - m+i)=m - i - 1 by omega] at ex
    simpa using ex
   have:=t2 (m - i - 1) (by omega) (by omega)
   rw[val _ xx e1] at this
   have z:blt y xx=true:=by simpa only [Gi,Bx,if_false,Xy] using this
   exact Te C T.sq (by omega) hn hy (C.ofLt z))
  rw[<- DP p (by omega) hm,<- Dn,show p.size - m+(m - t)=p.size - t by omega] at this
  exact this
 have below:∀x,0<t->p[t - 1]? = some x->le blt x y:=λx h0 hx=>by
  have:=t1 (t - 1) (by omega)
  rw[val _ x hx] at this
  have z:blt y x=false:=by simpa only [Gi,Bx,if_false,Jy] using this
  exact z
 by_cases h2:m - t > 0
 ·rw[if_pos h2]
  by_cases h3:t=0
  ·rw[if_pos (by rw[h3]; rfl)]
   exact Bk ⟨kp',T.dn_end M1 (by omega) hn (.inl h3)⟩
  ·rw[if_neg (λz=>h3 (Ds z))]
   obtain ⟨x,hx⟩:=Fj (p:=p) (i:=t - 1) (by omega)
   exact qM C T kp' hk' M1 (by omega) (by omega) n0 hn (by omega) hx hy (below x (by omega) hx)
 ·rw[if_neg h2]
  have et:t=m:=by omega
  subst et
  obtain ⟨x,hx⟩:=Fj (p:=p) (i:=t - 1) (by omega)
  exact qM C T kp' hk' M m0 hm n0 hn hb hx hy (below x m0 hx)
theorem oJ(C:Cmp prog w A s kd Ok blt)(T:Two Ok blt p q x0 y0 xl){st:Bv}(hk:kindOf st=kd)(h:∀r st',Kept st st'->nL blt p q r->Q r st'):wpS (model prog w) A E s (kF p q) Q st:=by
 have p0:0<p.size:=(Gy.mp T.hx0).1
 have q0:0<q.size:=(Gy.mp T.hy0).1
 obtain ⟨yl,hyl⟩:=Fj (p:=q) (i:=q.size - 1) (by omega)
 have M0:HI blt p q #[xl] (p.size - 1) q.size:=by
  have m:HI blt p q #[] p.size q.size:=⟨by simp,by simp,λo ho=>by simp at ho,λo ho=>by simp at ho⟩
  have:=HI.pushX C T m p0 (Ak _) T.hxl (Te C T.sq q0 (Ak _) hyl (C.ofLt (T.last yl (Jg hyl))))
  simpa using this
 unfold kF
 refine Bd (Sq ?_)
 refine Bd (Ff T.hxl ?_)
 dsimp only
 by_cases h1:p.size - 1=0
 ·rw[if_pos (by rw[h1]; rfl)]
  exact Bk (h _ _ (Kept.refl _) (T.dn_end M0 (by omega) (by omega) (.inl h1)))
 rw[if_neg (λz=>h1 (Ds z))]
 by_cases h2:q.size=1
 ·rw[if_pos (by rw[h2]; rfl)]
  exact Bk (h _ _ (Kept.refl _) (T.fs_end C M0 (by omega) h2 (by omega)))
 rw[if_neg (λz=>h2 (Ds z))]
 refine Bd (Nb ?_)
 refine Bd (Gx (Eg
  (I:=λx c st'=>Kept st st'/\∃m n out g,c=(none,m,n,out,g)/\HI blt p q out m n/\0<m/\m<=p.size/\1<n/\n<=q.size/\m+n+x+1<=p.size+q.size)
  (Q:=λc st'=>Kept st st'/\∃r Gj,c=(some r,Gj)/\nL blt p q r) ?_ ?_ ⟨Kept.refl _,_,_,_,_,rfl,M0,by omega,by omega,by omega,by omega,by omega⟩) ?_)
 ·(intro x c st1 _ hx q_; obtain ⟨kp1,m,n,out,g,rfl,M,m0,hm,n0,hn,hb⟩ := q_)
  dsimp only
  -- one by one
  refine Bd (Gx (Eg
   (I:=λ_ c st'=>st'=st1/\∃m n out ac bc,c=(none,m,n,out,ac,bc)/\HI blt p q out m n/\0<m/\m<=p.size/\1<n/\n<=q.size/\m+n+x+1<=p.size+q.size)
   (Q:=λc st'=>st'=st1/\((∃r Gj,c=(some r,Gj)/\nL blt p q r)\/∃m n out ac bc,c=(none,m,n,out,ac,bc)/\HI blt p q out m n/\0<m/\m<=p.size/\1<n/\n<=q.size/\m+n+x+1<=p.size+q.size)) ?_ ?_ ⟨rfl,m,n,out,0,0,rfl,M,m0,hm,n0,hn,hb⟩) ?_)
  ·(intro z c st2 _ hz q_; obtain ⟨rfl,m,n,out,ac,bc,rfl,M,m0,hm,n0,hn,hb⟩ := q_)
   dsimp only
   obtain ⟨yy,hy⟩:=Fj (p:=q) (i:=n - 1) (by omega)
   obtain ⟨xx,hx⟩:=Fj (p:=p) (i:=m - 1) (by omega)
   refine Bd (Ff hy ?_)
   refine Bd (Ff hx ?_)
   refine Bd (mG C (kp1.kind.trans hk) (T.oq yy (Jg hy)) (T.op xx (Jg hx)) ?_)
   dsimp only
   cases hlt:blt yy xx with
   | true =>
    rw[if_pos rfl]
    refine Bd (Ff hx ?_)
    have M1:=HI.pushX C T M m0 hm hx (Te C T.sq (by omega) hn hy (C.ofLt hlt))
    by_cases e1:m - 1=0
    ·rw[if_pos (by rw[e1]; rfl)]
     exact Bk ⟨rfl,.inl ⟨_,_,rfl,T.dn_end M1 (by omega) hn (.inl e1)⟩⟩
    ·rw[if_neg (λz=>e1 (Ds z))]
     split
     ·exact Bk ⟨rfl,.inr ⟨_,_,_,_,_,rfl,M1,by omega,by omega,n0,hn,by omega⟩⟩
     ·exact Bk ⟨rfl,_,_,_,_,_,rfl,M1,by omega,by omega,n0,hn,by omega⟩
   | false =>
    rw[if_neg Bt]
    refine Bd (Ff hy ?_)
    have M1:=HI.pushY C T M (by omega) hn hy (Te C T.sp m0 hm hx hlt)
    by_cases e1:n - 1=1
    ·rw[if_pos (by rw[e1]; rfl)]
     exact Bk ⟨rfl,.inl ⟨_,_,rfl,T.fs_end C M1 hm e1 (by omega)⟩⟩
    ·rw[if_neg (λz=>e1 (Ds z))]
     split
     ·exact Bk ⟨rfl,.inr ⟨_,_,_,_,_,rfl,M1,m0,hm,by omega,by omega,by omega⟩⟩
     ·exact Bk ⟨rfl,_,_,_,_,_,rfl,M1,m0,hm,by omega,by omega,by omega⟩
  ·(intro c st2 q_; obtain ⟨rfl,m,n,out,ac,bc,rfl,M⟩ := q_)
   exact ⟨rfl,.inr ⟨m,n,out,ac,bc,rfl,M⟩⟩
  ·rintro c st2 ⟨rfl,hc⟩
   rcases hc with hc | hc
   ·obtain ⟨r,Gj,rfl,hr⟩:=hc
    exact Bk ⟨kp1,r,_,rfl,hr⟩
   ·obtain ⟨m,n,out,ac,bc,rfl,M,m0,hm,n0,hn,hb⟩:=hc
    dsimp only
    refine Bd (Sq ?_)
    -- the gallop
    refine Bd (Gx (Eg
     (I:=λy c st'=>Kept st st'/\∃m n out g ac bc,c=(none,m,n,out,g,ac,bc)/\HI blt p q out m n/\0<m/\m<=p.size/\1<n/\n<=q.size/\(if y=0 then m+n+x+1<=p.size+q.size else m+n+x+2<=p.size+q.size))
     (Q:=λc st'=>Kept st st'/\((∃r Gj,c=(some r,Gj)/\nL blt p q r)\/∃m n out g ac bc,c=(none,m,n,out,g,ac,bc)/\HI blt p q out m n/\0<m/\m<=p.size/\1<n/\n<=q.size/\m+n+x+2<=p.size+q.size)) ?_ ?_
     ⟨kp1,m,n,out,_,ac,bc,rfl,M,m0,hm,n0,hn,by rw[if_pos rfl]; exact hb⟩) ?_)
    ·(intro y c st3 _ hy q_; obtain ⟨kp3,m,n,out,g,ac,bc,rfl,M,m0,hm,n0,hn,hb⟩ := q_)
     have hb':m+n+x+1<=p.size+q.size:=by split at hb <;> omega
     have key:∀g',wpS (model prog w) A E s (R8 p q out m n g' ac bc) (BQ blt p q st (m+n)) st3:=λg'=>K9 C T kp3 (kp3.kind.trans hk) M m0 hm n0 hn (Ak _)
     dsimp only
     refine Gx (?_:wpS (model prog w) A E s _ (BQ blt p q st (m+n)) st3) λr st4 hr=>?_
     ·by_cases hg:g > 1
      ·rw[if_pos hg]
       exact key _
      ·rw[if_neg hg]
       exact key _
     ·obtain ⟨kp4,hr⟩:=hr
      match r,hr with
      | .done (some r,Gj),hr=>exact ⟨kp4,.inl ⟨r,Gj,rfl,hr⟩⟩
      | .done (none,m',n',out',g',ac',bc'),hr=>exact ⟨kp4,.inr ⟨m',n',out',g',ac',bc',rfl,hr.1,hr.2.1,hr.2.2.1,hr.2.2.2.1,hr.2.2.2.2.1,by have:=hr.2.2.2.2.2; omega⟩⟩
      | .yield (none,m',n',out',g',ac',bc'),hr=>exact ⟨kp4,m',n',out',g',ac',bc',rfl,hr.1,hr.2.1,hr.2.2.1,hr.2.2.2.1,hr.2.2.2.2.1,by rw[if_neg (by omega)]; have:=hr.2.2.2.2.2; omega⟩
    ·(intro c st3 q_; obtain ⟨kp3,m,n,out,g,ac,bc,rfl,M,m0,hm,n0,hn,hb⟩ := q_)
     rw[if_neg (by omega)] at hb
     exact ⟨kp3,.inr ⟨m,n,out,g,ac,bc,rfl,M,m0,hm,n0,hn,hb⟩⟩
    ·rintro c st3 ⟨kp3,hc⟩
     rcases hc with hc | hc
     ·obtain ⟨r,Gj,rfl,hr⟩:=hc
      exact Bk ⟨kp3,r,_,rfl,hr⟩
     ·obtain ⟨m,n,out,g,ac,bc,rfl,M,m0,hm,n0,hn,hb⟩:=hc
      dsimp only
      refine Bd (Ta λst4 kp4=>?_)
      exact Bk ⟨kp3.trans kp4,m,n,out,_,rfl,M,m0,hm,n0,hn,by omega⟩
 ·(intro c st1 q_; obtain ⟨kp1,m,n,out,g,rfl,M,m0,hm,n0,hn,hb⟩ := q_)
  exfalso
  have : max 0 (p.size+q.size)=p.size+q.size:=by omega
  rw[this] at hb
  omega
 ·(intro c st1 q_; obtain ⟨kp1,r,Gj,rfl,hr⟩ := q_)
  exact Bk (h r st1 kp1 hr)
end
def fB:Nat->Nat->StateT Bv Sem (Option Nat):=sortPriv% PySem.Builtin.countRun
def Yc:Nat->Nat->Nat->StateT Bv Sem Bool:=sortPriv% PySem.Builtin.binarySort
def X(xs:Array Keyed)(i:Nat):Keyed:=xs[i]?.getD (Ip,Ip)
theorem Xc(h:i<xs.size):xs[i]? = some (X xs i):=by
 unfold X
 rw[getElem?_pos xs i h]
 rfl
theorem Qo(h:xs[i]? = ys[j]?):X xs i=X ys j:=by unfold X; rw[h]
theorem Sb(hj:j<=xs.size)(k:Nat):X (mirror xs i j ((j - i) / 2)) k=if i<=k/\k<j then X xs (i+j - 1 - k) else X xs k:=by
 have e:=getElem?_mirror_all (i:=i) hj k
 by_cases h:i<=k/\k<j
 ·rw[if_pos h] at e ⊢; exact Qo e
 ·rw[if_neg h] at e ⊢; exact Qo e
theorem yS(hs:src<xs.size)(hd:d<=src)(k:Nat):X (bubble xs src d) k=if k=src - d then X xs src else if src - d<k/\k<=src then X xs (k - 1) else X xs k:=by
 have e:=getElem?_bubble hs d hd k
 by_cases h1:k=src - d
 ·rw[if_pos h1] at e ⊢; exact Qo e
 ·rw[if_neg h1] at e ⊢
  by_cases h2:src - d<k/\k<=src
  ·rw[if_pos h2] at e ⊢; exact Qo e
  ·rw[if_neg h2] at e ⊢; exact Qo e
def Rj(blt:Keyed->Keyed->Bool)(xs:Array Keyed)(a b:Nat):Prop:=∀i j,a<=i->i<=j->j<b->le blt (X xs i) (X xs j)
def vF(blt:Keyed->Keyed->Bool)(xs:Array Keyed)(a b:Nat):Prop:=∀i j,a<=i->i<=j->j<b->le blt (X xs j) (X xs i)
structure Good(kd:Lv)(a₀:Array Keyed)(pend:Array (Nat×Nat×Nat))(st:Bv):Prop where
 kind:kindOf st=kd
 fail:Ky st=none
 perm:(arrOf st).Perm a₀
 pd:Bj st=pend
def jC(xs ys:Array Keyed)(a b:Nat):Prop:=∀i,(i<a\/b<=i)->X ys i=X xs i
theorem jC.refl(xs:Array Keyed)(a b:Nat):jC xs xs a b:=λ_ _=>rfl
theorem jC.trans(h:jC xs ys a b)(k:jC ys zs a b):jC xs zs a b:=λi hi=>(k i hi).trans (h i hi)
section
variable{prog:Bs}{w:World}{A:Cs}{s:Aj}{kd:Lv}{Ok:Keyed->Prop}{blt:Keyed->Keyed->Bool}{E:Value->Aj->Prop}{a₀:Array Keyed}{pend:Array (Nat×Nat×Nat)}
theorem Good.size{st:Bv}(g:Good kd a₀ pend st):(arrOf st).size=a₀.size:=g.perm.size_eq
theorem Good.okX{st:Bv}(g:Good kd a₀ pend st)(h0:∀x∈a₀.toList,Ok x)(hi:i<a₀.size):Ok (X (arrOf st) i):=by
 have e:=Xc (xs:=arrOf st) (i:=i) (by rw[g.size]; exact hi)
 exact h0 _ ((Pi.mp g.perm).mem_iff.mp (Jg e))
theorem Good.set{st:Bv}(g:Good kd a₀ pend st)(h:xs.Perm (arrOf st)):Good kd a₀ pend (setArr st xs):=⟨g.kind,g.fail,h.trans g.perm,g.pd⟩
theorem Wb(C:Cmp prog w A s kd Ok blt){st:Bv}(g:Good kd a₀ pend st)(h0:∀x∈a₀.toList,Ok x)(hi:i<a₀.size)(hj:j<a₀.size)(h:Q (some (blt (X (arrOf st) i) (X (arrOf st) j))) st):wpS (model prog w) A E s (ltAt' i j) Q st:=by
 rw[ltAt'_eq]
 refine Bd (Nb ?_)
 refine Bd (Ff (Xc (by rw[g.size]; exact hi)) ?_)
 refine Bd (Ff (Xc (by rw[g.size]; exact hj)) ?_)
 exact mG C g.kind (g.okX h0 hi) (g.okX h0 hj) h
theorem Qq{st:Bv}(h:Q () (setArr st (mirror (arrOf st) i j ((j - i) / 2)))):wpS (model prog w) A E s (To i j) Q st:=by
 rw[reverseSlice'_eq]
 exact Jq h
def DD(lo a b:Nat):StateT Bv Sem (Option (Option Nat)×Nat) :=
 forIn [a:b] ((none,a):Option (Option Nat)×Nat) λ_ c=>do
  let some lO <- ltAt' (lo+c.2) (lo+c.2 - 1) | pure (Ct (some none,c.2))
  if lO=true then pure (Ct (none,c.2)) else pure (Fi (none,c.2+1))
theorem o5(C:Cmp prog w A s kd Ok blt){st:Bv}(g:Good kd a₀ pend st)(h0:∀x∈a₀.toList,Ok x){lo a b:Nat}(hb:lo+b<=a₀.size)(ha:1<=a)(hab:a<=b)(h1:Rj blt (arrOf st) lo (lo+a))(h:∀n,a<=n->n<=b->Rj blt (arrOf st) lo (lo+n)->(n=b\/blt (X (arrOf st) (lo+n)) (X (arrOf st) (lo+n - 1))=true)->Q (none,n) st):wpS (model prog w) A E s (DD lo a b) Q st:=by
 unfold DD
 refine Eg (I:=λx c st'=>st'=st/\c=(none,x)/\Rj blt (arrOf st) lo (lo+x)) ?_ ?_ ⟨rfl,rfl,h1⟩
 ·(intro x c st' hx1 hx2 q_; obtain ⟨rfl,rfl,hs⟩ := q_)
  dsimp only
  refine Bd (Wb C g h0 (by omega) (by omega) ?_)
  dsimp only
  cases hl:blt (X (arrOf st') (lo+x)) (X (arrOf st') (lo+x - 1)) with
  | true =>
   rw[if_pos rfl]
   exact Bk (h x hx1 (by omega) hs (.inr hl))
  | false =>
   rw[if_neg Bt]
   refine Bk ⟨rfl,rfl,λi j hi hij hj=>?_⟩
   by_cases hjx:j<lo+x
   ·exact hs i j hi hij hjx
   ·have ej:j=lo+x:=by omega
    subst ej
    by_cases hi':i=lo+x
    ·subst hi'; exact C.refl _
    ·exact C.trans (hs i (lo+x - 1) hi (by omega) (by omega)) hl
 ·(intro c st' q_; obtain ⟨rfl,rfl,hs⟩ := q_)
  rw[show max a b=b by omega] at hs ⊢
  exact h b hab (Ak _) hs (.inl rfl)
theorem oP{lo n:Nat}(hn:lo+n<=xs.size)(h:vF blt xs lo (lo+n)):Rj blt (mirror xs lo (lo+n) ((lo+n - lo) / 2)) lo (lo+n):=λi j hi hij hj=>by
 rw[Sb hn,Sb hn,if_pos (by omega),if_pos (by omega)]
 exact h _ _ (by omega) (by omega) (by omega)
theorem Xo{lo n b e:Nat}(hn:lo+n<=xs.size)(he:e<=lo+n)(hb:lo<=b)(h:vF blt xs lo (lo+n))(eqv:∀i j,b<=i->i<e->b<=j->j<e->le blt (X xs i) (X xs j)):vF blt (mirror xs b e ((e - b) / 2)) lo (lo+n):=λi j hi hij hj=>by
 rw[Sb (by omega),Sb (by omega)]
 by_cases h1:b<=j/\j<e
 ·rw[if_pos h1]
  by_cases h2:b<=i/\i<e
  ·rw[if_pos h2]
   exact eqv _ _ (by omega) (by omega) (by omega) (by omega)
  ·rw[if_neg h2]
   exact h _ _ hi (by omega) (by omega)
 ·rw[if_neg h1]
  by_cases h2:b<=i/\i<e
  ·rw[if_pos h2]
   exact h _ _ (by omega) (by omega) (by omega)
  ·rw[if_neg h2]
   exact h i j hi hij hj
theorem Qx(h1:a<=i)(h2:j<=b)(h3:j<=xs.size):jC xs (mirror xs i j ((j - i) / 2)) a b:=λk hk=>by
 rw[Sb h3,if_neg (by omega)]
def xR(lo n b:Nat):StateT Bv Sem (Option Nat):=do
 To lo (lo+n)
 let mut m:=n
 for _ in [n:b] do
  let some lO <- ltAt' (lo+m) (lo+m - 1) | return none
  if lO then break
  m:=m+1
 return some m
theorem sE(C:Cmp prog w A s kd Ok blt){st:Bv}(g:Good kd a₀ pend st)(h0:∀x∈a₀.toList,Ok x){lo n b:Nat}(hb:lo+b<=a₀.size)(hn:1<=n)(hnb:n<=b)(h1:vF blt (arrOf st) lo (lo+n))(h:∀m st',Good kd a₀ pend st'->1<=m->m<=b->Rj blt (arrOf st') lo (lo+m)->jC (arrOf st) (arrOf st') lo (lo+b)->Q (some m) st'):wpS (model prog w) A E s (xR lo n b) Q st:=by
 unfold xR
 have hsz:lo+n<=(arrOf st).size:=by rw[g.size]; omega
 refine Bd (Qq ?_)
 have g':Good kd a₀ pend (setArr st (mirror (arrOf st) lo (lo+n) ((lo+n - lo) / 2))):=g.set (mirror_perm _ _ _ _)
 refine Bd (o5 C g' h0 hb hn hnb (oP hsz h1) λm hm1 hm2 hs _=>?_)
 exact Bk (h m _ g' (by omega) hm2 hs (Qx (Ak _) (by omega) hsz))
abbrev Y6:=Option (Option Nat)×Nat×Nat
def EU(lo a b:Nat):StateT Bv Sem Y6 :=
 forIn [a:b] ((none,a,0):Y6) λ_ c=>do
  let some lO <- ltAt' (lo+c.2.1) (lo+c.2.1 - 1) | pure (Ct (some none,c.2.1,c.2.2))
  if lO=true then
   if c.2.2 > 0 then do
    To (lo+c.2.1 - (c.2.2+1)) (lo+c.2.1)
    pure (Fi (none,c.2.1+1,0))
   else pure (Fi (none,c.2.1+1,0))
  else do
   let some more <- ltAt' (lo+c.2.1 - 1) (lo+c.2.1) | pure (Ct (some none,c.2.1,c.2.2))
   if more=true then pure (Ct (none,c.2.1,c.2.2)) else pure (Fi (none,c.2.1+1,c.2.2+1))
def x9(blt:Keyed->Keyed->Bool)(xs:Array Keyed)(lo n e:Nat):Prop:=e+1<=n/\∀i j,lo+n - (e+1)<=i->i<lo+n->lo+n - (e+1)<=j->j<lo+n->le blt (X xs i) (X xs j)
theorem i9(C:Cmp prog w A s kd Ok blt){lo n:Nat}(h:1<=n):x9 blt xs lo n 0:=⟨by omega,λi j i1 i2 j1 j2=>by
 have e:i=j:=by omega
 subst e
 exact C.refl _⟩
theorem Vn(C:Cmp prog w A s kd Ok blt){lo n:Nat}(hn:1<=n)(h:vF blt xs lo (lo+n))(hl:le blt (X xs (lo+n)) (X xs (lo+n - 1))):vF blt xs lo (lo+(n+1)):=λi j hi hij hj=>by
 by_cases hjx:j<lo+n
 ·exact h i j hi hij hjx
 ·have ej:j=lo+n:=by omega
  subst ej
  by_cases hi':i=lo+n
  ·subst hi'; exact C.refl _
  ·exact C.trans hl (h i (lo+n - 1) hi (by omega) (by omega))
theorem B1(C:Cmp prog w A s kd Ok blt){st:Bv}(g:Good kd a₀ pend st)(h0:∀x∈a₀.toList,Ok x){lo a b:Nat}(hb:lo+b<=a₀.size)(ha:1<=a)(hab:a<=b)(h1:vF blt (arrOf st) lo (lo+a))(h:∀n e st',Good kd a₀ pend st'->a<=n->n<=b->vF blt (arrOf st') lo (lo+n)->x9 blt (arrOf st') lo n e->jC (arrOf st) (arrOf st') lo (lo+b)->Q (none,n,e) st'):wpS (model prog w) A E s (EU lo a b) Q st:=by
 unfold EU
 refine Eg (I:=λx c st'=>∃e,c=(none,x,e)/\Good kd a₀ pend st'/\vF blt (arrOf st') lo (lo+x)/\x9 blt (arrOf st') lo x e/\jC (arrOf st) (arrOf st') lo (lo+b)) ?_ ?_
  ⟨0,rfl,g,h1,i9 C ha,jC.refl _ _ _⟩
 ·(intro x c st' hx1 hx2 q_; obtain ⟨e,rfl,g',hs,lk,ou⟩ := q_)
  have hsz:(arrOf st').size=a₀.size:=g'.size
  dsimp only
  refine Bd (Wb C g' h0 (by omega) (by omega) ?_)
  dsimp only
  cases hl:blt (X (arrOf st') (lo+x)) (X (arrOf st') (lo+x - 1)) with
  | true =>
   rw[if_pos rfl]
   have d1:=Vn C (by omega) hs (C.ofLt hl)
   have one:∀ys:Array Keyed,x9 blt ys lo (x+1) 0:=λys=>⟨by omega,λi j i1 i2 j1 j2=>by
    have : i=j:=by omega
    subst this
    exact C.refl _⟩
   by_cases he:e > 0
   ·rw[if_pos he]
    refine Bd (Qq ?_)
    refine Bk ⟨0,rfl,g'.set (mirror_perm _ _ _ _),?_,one _,ou.trans (Qx (by have:=lk.1; omega) (by omega) (by omega))⟩
    exact Xo (by omega) (by omega) (by have:=lk.1; omega) d1 λi j i1 i2 j1 j2=>lk.2 i j i1 i2 j1 j2
   ·rw[if_neg he]
    exact Bk ⟨0,rfl,g',d1,one _,ou⟩
  | false =>
   rw[if_neg Bt]
   refine Bd (Wb C g' h0 (by omega) (by omega) ?_)
   dsimp only
   cases hm:blt (X (arrOf st') (lo+x - 1)) (X (arrOf st') (lo+x)) with
   | true =>
    rw[if_pos rfl]
    exact Bk (h x e st' g' hx1 (by omega) hs lk ou)
   | false =>
    rw[if_neg Bt]
    refine Bk ⟨e+1,rfl,g',Vn C (by omega) hs hm,⟨by have:=lk.1; omega,λi j i1 i2 j1 j2=>?_⟩,ou⟩
    have l1:le blt (X (arrOf st') (lo+x - 1)) (X (arrOf st') (lo+x)):=hl
    have l2:le blt (X (arrOf st') (lo+x)) (X (arrOf st') (lo+x - 1)):=hm
    by_cases ei:i=lo+x
    ·by_cases ej:j=lo+x
     ·rw[ei,ej]; exact C.refl _
     ·rw[ei]
      exact C.trans l2 (lk.2 (lo+x - 1) j (by omega) (by omega) (by omega) (by omega))
    ·by_cases ej:j=lo+x
     ·rw[ej]
      exact C.trans (lk.2 i (lo+x - 1) (by omega) (by omega) (by omega) (by omega)) l1
     ·exact lk.2 i j (by omega) (by omega) (by omega) (by omega)
 ·(intro c st' q_; obtain ⟨e,rfl,g',hs,lk,ou⟩ := q_)
  rw[show max a b=b by omega] at hs lk ⊢
  exact h b e st' g' hab (Ak _) hs lk ou
def P0(lo n b:Nat):StateT Bv Sem (Option Nat):=do
 liftM (rule "list.sort.descending-run")
 let mut m:=n+1
 let mut e:=0
 for _ in [m:b] do
  let some lO <- ltAt' (lo+m) (lo+m - 1) | return none
  if lO then
   if e > 0 then To (lo+m - (e+1)) (lo+m)
   e:=0
  else
   let some more <- ltAt' (lo+m - 1) (lo+m) | return none
   if more then break
   e:=e+1
  m:=m+1
 if e > 0 then To (lo+m - (e+1)) (lo+m)
 xR lo m b
theorem rJ(C:Cmp prog w A s kd Ok blt){st:Bv}(g:Good kd a₀ pend st)(h0:∀x∈a₀.toList,Ok x){lo n b:Nat}(hb:lo+b<=a₀.size)(hnb:n+1<=b)(h1:vF blt (arrOf st) lo (lo+(n+1)))(h:∀m st',Good kd a₀ pend st'->1<=m->m<=b->Rj blt (arrOf st') lo (lo+m)->jC (arrOf st) (arrOf st') lo (lo+b)->Q (some m) st'):wpS (model prog w) A E s (P0 lo n b) Q st:=by
 unfold P0
 refine Bd (Sq ?_)
 refine Bd (B1 C g h0 hb (by omega) hnb h1 λk e st1 g1 k1 k2 d1 lk ou=>?_)
 dsimp only
 have hsz:(arrOf st1).size=a₀.size:=g1.size
 by_cases he:e > 0
 ·rw[if_pos he]
  refine Bd (Qq ?_)
  refine sE C (g1.set (mirror_perm _ _ _ _)) h0 hb (by omega) k2 (Xo (by omega) (by omega) (by have:=lk.1; omega) d1 λi j i1 i2 j1 j2=>lk.2 i j i1 i2 j1 j2) λm st2 g2 m1 m2 as ou2=>?_
  exact h m st2 g2 m1 m2 as ((ou.trans (Qx (by have:=lk.1; omega) (by omega) (by omega))).trans ou2)
 ·rw[if_neg he]
  exact sE C g1 h0 hb (by omega) k2 d1 λm st2 g2 m1 m2 as ou2=>h m st2 g2 m1 m2 as (ou.trans ou2)
theorem wY(C:Cmp prog w A s kd Ok blt){st:Bv}(g:Good kd a₀ pend st)(h0:∀x∈a₀.toList,Ok x){lo b:Nat}(hb:lo+b<=a₀.size)(b1:1<=b)(h:∀m st',Good kd a₀ pend st'->1<=m->m<=b->Rj blt (arrOf st') lo (lo+m)->jC (arrOf st) (arrOf st') lo (lo+b)->Q (some m) st'):wpS (model prog w) A E s (fB lo b) Q st:=by
 unfold fB
 have hsz:(arrOf st).size=a₀.size:=g.size
 refine Bd (o5 C g h0 hb (Ak _) b1 (λi j i1 i2 j1=>by
  have : i=j:=by omega
  subst this
  exact C.refl _) λn n1 n2 hs hor=>?_)
 dsimp only
 by_cases e:n=b
 ·rw[if_pos (by rw[e]; exact beq_self_eq_true _)]
  exact Bk (h n st g n1 n2 hs (jC.refl _ _ _))
 rw[if_neg (λz=>e (Ds z))]
 have hlt:blt (X (arrOf st) (lo+n)) (X (arrOf st) (lo+n - 1))=true:=hor.resolve_left e
 by_cases hg:n > 1
 ·rw[if_pos hg]
  refine Bd (Wb C g h0 (by omega) (by omega) ?_)
  dsimp only
  cases hr:blt (X (arrOf st) lo) (X (arrOf st) (lo+n - 1)) with
  | true =>
   rw[if_pos rfl]
   exact Bk (h n st g n1 n2 hs (jC.refl _ _ _))
  | false =>
   rw[if_neg Bt]
   refine Bd (Qq ?_)
   -- all of it are alike
   have like:∀i j,lo<=i->i<lo+n->lo<=j->j<lo+n->le blt (X (arrOf st) i) (X (arrOf st) j):=λi j i1 i2 j1 j2 =>
    C.trans (hs i (lo+n - 1) i1 (by omega) (by omega)) (C.trans hr (hs lo j (Ak _) j1 j2))
   have d1:vF blt (arrOf st) lo (lo+(n+1)):=Vn C n1 (λi j i1 i2 j1=>like j i (by omega) j1 i1 (by omega)) (C.ofLt hlt)
   exact rJ C (g.set (mirror_perm _ _ _ _)) h0 hb (by omega) (Xo (by omega) (by omega) (Ak _) d1 like) λm st2 g2 m1 m2 as ou2=>h m st2 g2 m1 m2 as ((Qx (Ak _) (by omega) (by omega)).trans ou2)
 ·rw[if_neg hg]
  have en:n=1:=by omega
  subst en
  have d1:vF blt (arrOf st) lo (lo+(1+1)):=Vn C (Ak _) (λi j i1 i2 j1=>by
   have : i=j:=by omega
   subst this
   exact C.refl _) (C.ofLt hlt)
  exact rJ C g h0 hb (by omega) d1 h
end
def Vk:Nat->StateT Bv Sem Bool:=sortPriv% PySem.Builtin.mergeAt
section
variable{prog:Bs}{w:World}{A:Cs}{s:Aj}{kd:Lv}{Ok:Keyed->Prop}{blt:Keyed->Keyed->Bool}{E:Value->Aj->Prop}{a₀:Array Keyed}{pend:Array (Nat×Nat×Nat)}
theorem kB{st:Bv}(h:Q () (setArr st (bubble (arrOf st) i (i - j)))):wpS (model prog w) A E s (moveDown' i j) Q st:=by
 rw[moveDown'_eq]
 exact Jq h
theorem tN(C:Cmp prog w A s kd Ok blt){st:Bv}(g:Good kd a₀ pend st)(h0:∀x∈a₀.toList,Ok x){lo n ok:Nat}(hb:lo+n<=a₀.size)(h1:Rj blt (arrOf st) lo (lo+ok))(hok:ok<=n)(h:∀st',Good kd a₀ pend st'->Rj blt (arrOf st') lo (lo+n)->jC (arrOf st) (arrOf st') lo (lo+n)->Q true st'):wpS (model prog w) A E s (Yc lo n ok) Q st:=by
 unfold Yc
 refine Bd (Gx (Eg
  (I:=λk c st'=>c=(none,())/\Good kd a₀ pend st'/\Rj blt (arrOf st') lo (lo+k)/\jC (arrOf st) (arrOf st') lo (lo+n))
  (Q:=λc st'=>c=(none,())/\Good kd a₀ pend st'/\Rj blt (arrOf st') lo (lo+n)/\jC (arrOf st) (arrOf st') lo (lo+n)) ?_ ?_ ⟨rfl,g,?_,jC.refl _ _ _⟩) ?_)
 ·(intro k c st1 hk1 hk2 q_; obtain ⟨rfl,g1,hs,ou⟩ := q_)
  have hsz:(arrOf st1).size=a₀.size:=g1.size
  dsimp only
  refine Bd (Gx (Eg
   (I:=λy c st'=>st'=st1/\∃l r,c=(none,l,r)/\l<=r/\r<=k/\r - l+y<=k/\(∀i,i<l->le blt (X (arrOf st1) (lo+i)) (X (arrOf st1) (lo+k)))/\(∀i,r<=i->i<k->blt (X (arrOf st1) (lo+k)) (X (arrOf st1) (lo+i))=true))
   (Q:=λc st'=>st'=st1/\∃l,c=(none,l,l)/\l<=k/\(∀i,i<l->le blt (X (arrOf st1) (lo+i)) (X (arrOf st1) (lo+k)))/\(∀i,l<=i->i<k->blt (X (arrOf st1) (lo+k)) (X (arrOf st1) (lo+i))=true)) ?_ ?_
   ⟨rfl,0,k,rfl,by omega,by omega,by omega,λi hi=>by omega,λi h1 h2=>by omega⟩) ?_)
  ·(intro y c st2 _ hy q_; obtain ⟨rfl,l,r,rfl,a1,a2,a3,b1,b2⟩ := q_)
   dsimp only
   by_cases hlr:l ≥ r
   ·rw[if_pos hlr]
    have e:l=r:=by omega
    subst e
    exact Bk ⟨rfl,l,rfl,a2,b1,b2⟩
   ·rw[if_neg hlr]
    refine Bd (Wb C g1 h0 (by omega) (by omega) ?_)
    dsimp only
    cases hl:blt (X (arrOf st2) (lo+k)) (X (arrOf st2) (lo+(l+r) / 2)) with
    | true =>
     rw[if_pos rfl]
     exact Bk ⟨rfl,l,(l+r) / 2,rfl,by omega,by omega,by omega,b1,λi i1 i2=>C.ltLe hl (hs _ _ (by omega) (by omega) (by omega))⟩
    | false =>
     rw[if_neg Bt]
     exact Bk ⟨rfl,(l+r) / 2+1,r,rfl,by omega,a2,by omega,λi hi=>C.trans (hs _ _ (by omega) (by omega) (by omega)) hl,b2⟩
  ·(intro c st2 q_; obtain ⟨rfl,l,r,rfl,a1,a2,a3,b1,b2⟩ := q_)
   have : max 0 k=k:=by omega
   rw[this] at a3
   have e:l=r:=by omega
   subst e
   exact ⟨rfl,l,rfl,a2,b1,b2⟩
  ·(intro c st2 q_; obtain ⟨rfl,l,rfl,a2,b1,b2⟩ := q_)
   dsimp only
   refine Bd (kB ?_)
   have xb:=λi=>yS (xs:=arrOf st2) (src:=lo+k) (d:=lo+k - (lo+l)) (by omega) (by omega) i
   have ed:lo+k - (lo+k - (lo+l))=lo+l:=by omega
   refine Bk ⟨rfl,g1.set (bubble_perm _ _ _),λi j i1 i2 j1=>?_,ou.trans λi hi=>?_⟩
   ·show le blt (X (bubble (arrOf st2) (lo+k) (lo+k - (lo+l))) i) (X (bubble (arrOf st2) (lo+k) (lo+k - (lo+l))) j)
    rw[xb,xb,ed]
    by_cases e1:i=lo+l
    ·rw[if_pos e1]
     by_cases e2:j=lo+l
     ·rw[if_pos e2]; exact C.refl _
     ·rw[if_neg e2]
      by_cases e3:lo+l<j/\j<=lo+k
      ·rw[if_pos e3]
       have:=b2 (j - 1 - lo) (by omega) (by omega)
       rw[show lo+(j - 1 - lo)=j - 1 by omega] at this
       exact C.ofLt this
      ·exfalso; omega
    ·rw[if_neg e1]
     by_cases e2:j=lo+l
     ·rw[if_pos e2,if_neg (by omega)]
      have:=b1 (i - lo) (by omega)
      rw[show lo+(i - lo)=i by omega] at this
      exact this
     ·rw[if_neg e2]
      by_cases e3:lo+l<i/\i<=lo+k
      ·rw[if_pos e3,if_pos (by omega)]
       exact hs _ _ (by omega) (by omega) (by omega)
      ·rw[if_neg e3]
       by_cases e4:lo+l<j/\j<=lo+k
       ·rw[if_pos e4]
        exact hs _ _ (by omega) (by omega) (by omega)
       ·rw[if_neg e4]
        exact hs _ _ (by omega) (by omega) (by omega)
   ·show X (bubble (arrOf st2) (lo+k) (lo+k - (lo+l))) i=X (arrOf st2) i
    rw[xb,ed,if_neg (by omega),if_neg (by omega)]
 ·(intro c st1 q_; obtain ⟨rfl,g1,hs,ou⟩ := q_)
  refine ⟨rfl,g1,λi j i1 i2 j1=>hs i j i1 i2 (by omega),ou⟩
 ·intro i j i1 i2 j1
  by_cases e:i=j
  ·subst e; exact C.refl _
  ·exact h1 i j i1 i2 (by omega)
 ·(intro c st1 q_; obtain ⟨rfl,g1,hs,ou⟩ := q_)
  exact Bk (h st1 g1 hs ou)
end
abbrev Nw(xs:Array Keyed)(b:Nat)(l:List (Keyed×Nat)):Array Keyed:=l.foldl (λa x=>match x with | (p,j)=>a.setIfInBounds (b+j) p) xs
theorem bV(b:Nat):∀(l:List Keyed) (o:Nat) (xs:Array Keyed),b+o+l.length<=xs.size->(Nw xs b (l.zipIdx o)).size=xs.size/\∀i:Nat,(Nw xs b (l.zipIdx o))[i]? = if b+o<=i/\i<b+o+l.length then l[i - (b+o)]? else xs[i]?
 | [],o,xs,_=>⟨rfl,λi=>by rw[if_neg (by rw[Iz]; omega)]; rfl⟩
 | x::l,o,xs,h=>by
  rw[Br] at h
  have ih:=bV b l (o+1) (xs.setIfInBounds (b+o) x) (by rw[jF]; omega)
  have e:Nw xs b ((x::l).zipIdx o)=Nw (xs.setIfInBounds (b+o) x) b (l.zipIdx (o+1)):=by
   rw[cQ]
   rfl
  rw[e]
  refine ⟨ih.1.trans (jF),λi=>?_⟩
  rw[ih.2 i,Br]
  by_cases h1:b+(o+1)<=i/\i<b+(o+1)+l.length
  ·rw[if_pos h1,if_pos (by omega)]
   rw[show i - (b+o)=(i - (b+(o+1)))+1 by omega,mV]
  ·rw[if_neg h1]
   by_cases h2:i=b+o
   ·subst h2
    rw[if_pos (by omega),Array.getElem?_setIfInBounds_self_of_lt (by omega),Nat.sub_self]
    rfl
   ·rw[if_neg (by omega),Array.getElem?_setIfInBounds_ne (by omega)]
theorem nM{xs m:Array Keyed}(hb:b+n<=xs.size)(hn:m.size=n)(hp:m.toList.Perm ((xs.toList.drop b).take n)):(Nw xs b m.toList.zipIdx).Perm xs:=by
 have ha:=bV b m.toList 0 xs (by rw[Az]; omega)
 have e:(Nw xs b m.toList.zipIdx).toList=xs.toList.take b++(m.toList++xs.toList.drop (b+n)):=by
  apply Hr
  intro i
  have h1:=ha.2 i
  rw[Az,hn] at h1
  have h2:(Nw xs b m.toList.zipIdx).toList[i]? = (Nw xs b m.toList.zipIdx)[i]?:=by simp
  rw[h2,h1]
  have lt:(xs.toList.take b).length=b:=by rw[Cw,Az]; omega
  by_cases c1:i<b
  ·rw[if_neg (by omega),Kn (by omega),Ei c1]
   simp
  ·rw[Fl (by omega),lt]
   by_cases c2:i<b+n
   ·rw[if_pos (by omega),Kn (by rw[Az]; omega)]
    congr 1
   ·rw[if_neg (by omega),Fl (by rw[Az]; omega),Xw,Az]
    rw[show b+n+(i - b - m.size)=i by omega]
    simp
 refine Array.perm_iff_toList_perm.mpr ?_
 rw[e]
 have e2:xs.toList=xs.toList.take b++((xs.toList.drop b).take n++xs.toList.drop (b+n)):=by
  conv=>lhs; rw[<- Jp b xs.toList]
  congr 1
  conv=>lhs; rw[<- Jp n (xs.toList.drop b)]
  rw[List.drop_drop]
 conv=>rhs; rw[e2]
 exact Lo _ (List.Perm.append_right _ hp)
theorem Xm(h:a+n<=xs.size)(hi:i<n):(xs.extract a (a+n))[i]? = some (X xs (a+i)):=by
 rw[Array.getElem?_extract,if_pos (by omega)]
 exact Xc (by omega)
theorem Ru{xs:Array Keyed}(h:a+n<=xs.size):(xs.extract a (a+n)).size=n:=by
 rw[Array.size_extract]
 omega
theorem Vh(h:a+n<=xs.size)(hx:x∈(xs.extract a (a+n)).toList):∃i,i<n/\x=X xs (a+i):=by
 obtain ⟨i,hi,e⟩:=Hn.mp hx
 rw[Az,Ru h] at hi
 refine ⟨i,hi,?_⟩
 have h1:=Xm h hi
 have h2:(xs.extract a (a+n)).toList[i]? = some x:=by rw[<- e,<- Ba]
 rw[Mn,h1] at h2
 exact (Bp h2).symm
section
variable{prog:Bs}{w:World}{A:Cs}{s:Aj}{kd:Lv}{Ok:Keyed->Prop}{blt:Keyed->Keyed->Bool}{E:Value->Aj->Prop}{a₀:Array Keyed}{pend:Array (Nat×Nat×Nat)}
theorem cC(C:Cmp prog w A s kd Ok blt)(h:a+n<=xs.size)(hs:Rj blt xs c d)(h1:c<=a)(h2:a+n<=d):(xs.extract a (a+n)).toList.Pairwise (le blt):=by
 rw[Eu]
 intro i j hi hj hij
 rw[Az,Ru h] at hi hj
 have e1:(xs.extract a (a+n)).toList[i]? = some (X xs (a+i)):=by rw[Mn]; exact Xm h hi
 have e2:(xs.extract a (a+n)).toList[j]? = some (X xs (a+j)):=by rw[Mn]; exact Xm h hj
 obtain ⟨_,f1⟩:=Ap.mp e1
 obtain ⟨_,f2⟩:=Ap.mp e2
 rw[f1,f2]
 exact hs _ _ (by omega) (by omega) (by omega)
theorem mD(C:Cmp prog w A s kd Ok blt)(hab:a<b)(h1:Rj blt xs a b)(h2:Rj blt xs b c)(h:le blt (X xs (b - 1)) (X xs b)):Rj blt xs a c:=λi j i1 i2 j1=>by
 by_cases e1:j<b
 ·exact h1 i j i1 i2 e1
 ·by_cases e2:b<=i
  ·exact h2 i j e2 i2 j1
  ·exact C.trans (h1 i (b - 1) i1 (by omega) (by omega)) (C.trans h (h2 b j (Ak _) (by omega) j1))
structure Good0(kd:Lv)(a₀:Array Keyed)(st:Bv):Prop where
 kind:kindOf st=kd
 fail:Ky st=none
 perm:(arrOf st).Perm a₀
theorem Good0.size{st:Bv}(g:Good0 kd a₀ st):(arrOf st).size=a₀.size:=g.perm.size_eq
theorem Good0.okX{st:Bv}(g:Good0 kd a₀ st)(h0:∀x∈a₀.toList,Ok x)(hi:i<a₀.size):Ok (X (arrOf st) i):=by
 have e:=Xc (xs:=arrOf st) (i:=i) (by rw[g.size]; exact hi)
 exact h0 _ ((Pi.mp g.perm).mem_iff.mp (Jg e))
theorem wO{st:Bv}(g:Good0 kd a₀ st)(h0:∀x∈a₀.toList,Ok x)(h:b+n<=a₀.size):Row Ok (arrOf st) b n (λi=>X (arrOf st) (b+i)) :=
 ⟨λi hi=>Xc (by rw[g.size]; omega),λi hi=>g.okX h0 (by omega)⟩
theorem W0{st st':Bv}{Q:Unit->Bv->Prop}(h:Q () st'):wpS (model prog w) A E s (set st':StateT Bv Sem Unit) Q st:=by
 unfold wpS
 rw[StateT.run_set]
 exact Am ⟨rfl,h⟩
theorem oG(C:Cmp prog w A s kd Ok blt){st:Bv}(g:Good0 kd a₀ st)(h0:∀x∈a₀.toList,Ok x)(hi:(Bj st)[i]? = some (sa,na,pa))(hj:(Bj st)[i+1]? = some (sb,nb,pb))(e1:sb=sa+na)(n1:1<=na)(n2:1<=nb)(hz:sb+nb<=a₀.size)(s1:Rj blt (arrOf st) sa sb)(s2:Rj blt (arrOf st) sb (sb+nb))(h:∀st',Good0 kd a₀ st'->Bj st'=((Bj st).setIfInBounds i (sa,na+nb,pa)).eraseIdxIfInBounds (i+1)->Rj blt (arrOf st') sa (sb+nb)->jC (arrOf st) (arrOf st') sa (sb+nb)->Q true st'):wpS (model prog w) A E s (Vk i) Q st:=by
 have hsz:(arrOf st).size=a₀.size:=g.size
 unfold Vk
 refine Bd (Nb ?_)
 rw[hi,hj]
 dsimp only
 refine Bd (W0 ?_)
 refine Bd (Ff (Xc (xs:=arrOf st) (i:=sb) (by rw[hsz]; omega)) ?_)
 show wpS (model prog w) A E s _ _ (Wl (kindOf st) (arrOf st) (((Bj st).setIfInBounds i (sa,na+nb,pa)).eraseIdxIfInBounds (i+1)) (gallopOf st) (Ky st))
 generalize hst1:Wl (kindOf st) (arrOf st) (((Bj st).setIfInBounds i (sa,na+nb,pa)).eraseIdxIfInBounds (i+1)) (gallopOf st) (Ky st)=st1
 have k1:kindOf st1=kd:=by rw[<- hst1]; exact g.kind
 have ar1:arrOf st1=arrOf st:=by rw[<- hst1]
 have pd1:Bj st1=((Bj st).setIfInBounds i (sa,na+nb,pa)).eraseIdxIfInBounds (i+1):=by rw[<- hst1]
 have fl1:Ky st1=none:=by rw[<- hst1]; exact g.fail
 have g1:Good0 kd a₀ st1:=⟨k1,fl1,by rw[ar1]; exact g.perm⟩
 have same:Good0 kd a₀ st1->Rj blt (arrOf st) sa (sb+nb)->Q true st1:=λgg as=>h st1 gg pd1 (by rw[ar1]; exact as) (by rw[ar1]; exact jC.refl _ _ _)
 refine Bd (Nr C (hint:=0) (n:=na) (wO g h0 (b:=sa) (n:=na) (by omega)) (g.okX h0 (i:=sb) (by omega)) k1 (by omega) (λa c hac hc q1=>?_) λk kn t1 t2=>?_)
 ·simp only[Gi,Bx,if_false,Jy] at q1 ⊢
  exact C.trans (s1 _ _ (by omega) (by omega) (by omega)) q1
 dsimp only
 have f1:∀m,m<k->le blt (X (arrOf st) (sa+m)) (X (arrOf st) sb):=λm hm=>by
  have:=t1 m hm
  have z:blt (X (arrOf st) sb) (X (arrOf st) (sa+m))=false:=by simpa only [Gi,Bx,if_false,Jy] using this
  exact z
 by_cases c1:na - k=0
 ·rw[if_pos (by rw[c1]; rfl)]
  refine Bk (same g1 (mD C (by omega) s1 s2 ?_))
  have:=f1 (na - 1) (by omega)
  rw[show sa+(na - 1)=sb - 1 by omega] at this
  exact this
 rw[if_neg (λz=>c1 (Ds z))]
 have f2:blt (X (arrOf st) sb) (X (arrOf st) (sa+k))=true:=by
  have:=t2 k (Ak _) (by omega)
  simpa only [Gi,Bx,if_false,Xy] using this
 have el:sa+k+(na - k) - 1=sb - 1:=by omega
 rw[el]
 refine Bd (Ff (Xc (xs:=arrOf st) (i:=sb - 1) (by rw[hsz]; omega)) ?_)
 refine Bd (Nr C (hint:=nb - 1) (n:=nb) (wO g h0 (b:=sb) (n:=nb) (by omega)) (g.okX h0 (i:=sb - 1) (by omega)) k1 (by omega) (λa c hac hc q1=>?_) λl ln u1 u2=>?_)
 ·simp only[Gi,if_true] at q1 ⊢
  exact C.leLt (s2 _ _ (by omega) (by omega) (by omega)) q1
 dsimp only
 have f3:∀m,m<l->blt (X (arrOf st) (sb+m)) (X (arrOf st) (sb - 1))=true:=λm hm=>by
  have:=u1 m hm
  simpa only [Gi,if_true] using this
 have f4:∀m,l<=m->m<nb->le blt (X (arrOf st) (sb - 1)) (X (arrOf st) (sb+m)):=λm h1 h2=>by
  have:=u2 m h1 h2
  have z:blt (X (arrOf st) (sb+m)) (X (arrOf st) (sb - 1))=false:=by simpa only [Gi,if_true] using this
  exact z
 by_cases c2:l=0
 ·rw[if_pos (by rw[c2]; rfl)]
  subst c2
  exact Bk (same g1 (mD C (by omega) s1 s2 (f4 0 (Ak _) (by omega))))
 rw[if_neg (λz=>c2 (Ds z))]
 have ep:(arrOf st).extract (sa+k) sb=(arrOf st).extract (sa+k) (sa+k+(na - k)):=by rw[show sa+k+(na - k)=sb by omega]
 rw[ep]
 have hp:sa+k+(na - k)<=(arrOf st).size:=by omega
 have hq:sb+l<=(arrOf st).size:=by omega
 have T:Two Ok blt ((arrOf st).extract (sa+k) (sa+k+(na - k))) ((arrOf st).extract sb (sb+l)) (X (arrOf st) (sa+k)) (X (arrOf st) sb) (X (arrOf st) (sb - 1)):=by
  refine ⟨λx hx=>?_,λx hx=>?_,cC C hp s1 (by omega) (by omega),cC C hq s2 (by omega) (by omega),?_,?_,?_,f2,λy hy=>?_⟩
  ·obtain ⟨m,hm,rfl⟩:=Vh hp hx
   exact g.okX h0 (by omega)
  ·obtain ⟨m,hm,rfl⟩:=Vh hq hx
   exact g.okX h0 (by omega)
  ·exact Xm hp (by omega)
  ·exact Xm hq (by omega)
  ·rw[Ru hp,Xm hp (by omega),show sa+k+(na - k - 1)=sb - 1 by omega]
  ·obtain ⟨m,hm,rfl⟩:=Vh hq hy
   exact f3 m hm
 -- Xb the merge
 have fin:∀(r:Array Keyed) (st2:Bv),Kept st1 st2->nL blt ((arrOf st).extract (sa+k) (sa+k+(na - k))) ((arrOf st).extract sb (sb+l)) r ->
   Q (Ky (setArr st2 (Nw (arrOf st2) (sa+k) r.toList.zipIdx))).isNone (setArr st2 (Nw (arrOf st2) (sa+k) r.toList.zipIdx)):=by
  intro r st2 kp hr
  have ar2:arrOf st2=arrOf st:=kp.arr.trans ar1
  have fl2:Ky st2=none:=kp.fail.trans fl1
  have rsz:r.size=na - k+l:=by
   have:=hr.1.length_eq
   rw[Bn,Az,Az,Az,Ru hp,Ru hq] at this
   exact this
  have seg:((arrOf st).toList.drop (sa+k)).take (na - k+l)=((arrOf st).extract (sa+k) (sa+k+(na - k))).toList++((arrOf st).extract sb (sb+l)).toList:=by
   rw[Vi,Vi,List.take_add,List.drop_drop,show sa+k+(na - k)=sb by omega]
  have pa':=bV (sa+k) r.toList 0 (arrOf st) (by rw[Az]; omega)
  have xat:∀m,X (Nw (arrOf st) (sa+k) r.toList.zipIdx) m=if sa+k<=m/\m<sb+l then X r (m - (sa+k)) else X (arrOf st) m:=λm=>by
   have:=pa'.2 m
   rw[Az,rsz,Nat.add_zero] at this
   by_cases hm:sa+k<=m/\m<sb+l
   ·rw[if_pos hm]
    rw[if_pos (by omega)] at this
    refine Qo (this.trans ?_)
    simp
   ·rw[if_neg hm]
    rw[if_neg (by omega)] at this
    exact Qo this
  -- each thing of the merged is one of the two runs'
  have from2:∀m,m<na - k+l->(∃c,sa+k<=c/\c<sb/\X r m=X (arrOf st) c)\/(∃c,sb<=c/\c<sb+l/\X r m=X (arrOf st) c):=λm hm=>by
   have hx:=Jg (Xc (xs:=r) (i:=m) (by omega))
   rcases Ay.mp (hr.1.mem_iff.mp hx) with z | z
   ·obtain ⟨c,hc,e⟩:=Vh hp z
    exact .inl ⟨sa+k+c,by omega,by omega,e⟩
   ·obtain ⟨c,hc,e⟩:=Vh hq z
    exact .inr ⟨sb+c,by omega,by omega,e⟩
  have rs:∀m n,m<=n->n<na - k+l->le blt (X r m) (X r n):=λm n hmn hn=>Kv C hr.2 hmn (Ef (Xc (by omega))) (Ef (Xc (by omega)))
  have e3:Ky (setArr st2 (Nw (arrOf st2) (sa+k) r.toList.zipIdx))=none:=fl2
  rw[e3]
  refine h _ ⟨kp.kind.trans k1,e3,?_⟩ (kp.pend.trans pd1) ?_ ?_
  ·show (Nw (arrOf st2) (sa+k) r.toList.zipIdx).Perm a₀
   rw[ar2]
   refine (nM (by omega) rsz ?_).trans g.perm
   rw[seg]
   exact hr.1
  ·show Rj blt (Nw (arrOf st2) (sa+k) r.toList.zipIdx) sa (sb+nb)
   rw[ar2]
   intro c d c1 cd d1
   rw[xat,xat]
   by_cases zc:sa+k<=c/\c<sb+l
   ·rw[if_pos zc]
    by_cases zd:sa+k<=d/\d<sb+l
    ·rw[if_pos zd]
     exact rs _ _ (by omega) (by omega)
    ·rw[if_neg zd]
     rcases from2 (c - (sa+k)) (by omega) with ⟨b,b1,b2,e⟩ | ⟨b,b1,b2,e⟩
     ·rw[e]
      refine C.trans (s1 b (sb - 1) (by omega) (by omega) (by omega)) ?_
      have:=f4 (d - sb) (by omega) (by omega)
      rw[show sb+(d - sb)=d by omega] at this
      exact this
     ·rw[e]
      exact s2 b d b1 (by omega) (by omega)
   ·rw[if_neg zc]
    by_cases zd:sa+k<=d/\d<sb+l
    ·rw[if_pos zd]
     rcases from2 (d - (sa+k)) (by omega) with ⟨b,b1,b2,e⟩ | ⟨b,b1,b2,e⟩
     ·rw[e]
      exact s1 c b c1 (by omega) b2
     ·rw[e]
      have:=f1 (c - sa) (by omega)
      rw[show sa+(c - sa)=c by omega] at this
      exact C.trans this (s2 sb b (Ak _) b1 (by omega))
    ·rw[if_neg zd]
     by_cases y1:d<sb
     ·exact s1 c d c1 cd y1
     ·by_cases y2:sb<=c
      ·exact s2 c d y2 cd d1
      ·have:=f1 (c - sa) (by omega)
       rw[show sa+(c - sa)=c by omega] at this
       exact C.trans this (s2 sb d (Ak _) (by omega) d1)
  ·show jC (arrOf st) (Nw (arrOf st2) (sa+k) r.toList.zipIdx) sa (sb+nb)
   rw[ar2]
   intro m hm
   rw[xat,if_neg (by omega)]
 by_cases c3:na - k<=l
 ·rw[if_pos c3]
  refine Bd (mY C T k1 λr st2 kp hr=>?_)
  exact Bd (Jq (Bd (Nb (Bk (fin r st2 kp hr)))))
 ·rw[if_neg c3]
  refine Bd (oJ C T k1 λr st2 kp hr=>?_)
  exact Bd (Jq (Bd (Nb (Bk (fin r st2 kp hr)))))
end
def eZ:StateT Bv Sem Unit:=sortPriv% PySem.Builtin.sortRuns
def Runs(blt:Keyed->Keyed->Bool)(xs:Array Keyed):List (Nat×Nat×Nat)->Nat->Nat->Prop
 | [],a,b=>a=b
 | (s,n,_)::r,a,b=>s=a/\1<=n/\Rj blt xs a (a+n)/\Runs blt xs r (a+n) b
variable{blt:Keyed->Keyed->Bool}
theorem Runs.len:∀{l:List (Nat×Nat×Nat)} {a b:Nat},Runs blt xs l a b->a+l.length<=b
 | [],a,b,h=>by
  have e:a=b:=h
  rw[Iz]
  omega
 | (s,n,p)::r,a,b,h=>by
  have:=Runs.len h.2.2.2
  have:=h.2.1
  rw[Br]
  omega
theorem Rj.out(h:Rj blt xs a b)(o:jC xs ys c d)(e:b<=c\/d<=a):Rj blt ys a b:=λi j i1 i2 j1=>by
 rw[o i (by omega),o j (by omega)]
 exact h i j i1 i2 j1
theorem Runs.out(o:jC xs ys c d):∀{l:List (Nat×Nat×Nat)} {a b:Nat},(b<=c\/d<=a)->Runs blt xs l a b->Runs blt ys l a b
 | [],_,_,_,h=>h
 | (s,n,p)::r,a,b,e,h=>by
  have hl:=Runs.len h.2.2.2
  exact ⟨h.1,h.2.1,h.2.2.1.out o (by omega),Runs.out o (by omega) h.2.2.2⟩
theorem Runs.push(hm:1<=m):∀{l:List (Nat×Nat×Nat)} {a b:Nat},Runs blt xs l a b->Rj blt xs b (b+m)->Runs blt xs (l++[(b,m,q)]) a (b+m)
 | [],a,b,h,hs=>by
  have e:a=b:=h
  subst e
  exact ⟨rfl,hm,hs,rfl⟩
 | (s,n,p)::r,a,b,h,hs=>⟨h.1,h.2.1,h.2.2.1,Runs.push hm h.2.2.2 hs⟩
theorem Runs.power:∀{l:List (Nat×Nat×Nat)} {a b:Nat} (k:Nat),Runs blt xs l a b->Runs blt xs (l.modify k λx=>(x.1,x.2.1,pw)) a b
 | [],_,_,k,h=>by simpa using h
 | (s,n,p)::r,a,b,0,h=>by
  rw[List.modify_zero_cons]
  exact h
 | (s,n,p)::r,a,b,k+1,h=>by
  rw[List.modify_succ_cons]
  exact ⟨h.1,h.2.1,h.2.2.1,Runs.power k h.2.2.2⟩
theorem Runs.two:∀{l:List (Nat×Nat×Nat)} {a b i sa na pa sb nb pb:Nat},Runs blt xs l a b->l[i]? = some (sa,na,pa)->l[i+1]? = some (sb,nb,pb)->sb=sa+na/\1<=na/\1<=nb/\a<=sa/\sb+nb<=b/\Rj blt xs sa sb/\Rj blt xs sb (sb+nb)
 | [],_,_,_,_,_,_,_,_,_,_,h,_=>by simp at h
 | (s,n,p)::r,a,b,0,sa,na,pa,sb,nb,pb,h,h1,h2=>by
  obtain ⟨e,hn,hs,hr⟩:=h
  have q:s=sa/\n=na/\p=pa:=by simpa using h1
  obtain ⟨q1,q2,q3⟩:=q
  subst q1 q2 q3
  subst e
  cases r with
  | nil=>simp at h2
  | cons y r' =>
   obtain ⟨s',n',p'⟩:=y
   have q':s'=sb/\n'=nb/\p'=pb:=by simpa using h2
   obtain ⟨q1,q2,q3⟩:=q'
   subst q1 q2 q3
   obtain ⟨e',hn',hs',hr'⟩:=hr
   have:=Runs.len hr'
   exact ⟨e',hn,hn',Ak _,by omega,by rw[e']; exact hs,by rw[e']; exact hs'⟩
 | (s,n,p)::r,a,b,i+1,sa,na,pa,sb,nb,pb,h,h1,h2=>by
  have:=Runs.two h.2.2.2 (by simpa using h1) (by simpa using h2)
  exact ⟨this.1,this.2.1,this.2.2.1,by have:=this.2.2.2.1; have:=h.2.1; omega,this.2.2.2.2.1,this.2.2.2.2.2⟩
theorem Runs.merge:∀{l:List (Nat×Nat×Nat)} {a b i sa na pa sb nb pb:Nat},Runs blt xs l a b->l[i]? = some (sa,na,pa)->l[i+1]? = some (sb,nb,pb)->jC xs ys sa (sb+nb)->Rj blt ys sa (sb+nb)->Runs blt ys ((l.set i (sa,na+nb,pa)).eraseIdx (i+1)) a b
 | [],_,_,_,_,_,_,_,_,_,_,h,_,_,_=>by simp at h
 | (s,n,p)::r,a,b,0,sa,na,pa,sb,nb,pb,h,h1,h2,o,as=>by
  have tw:=Runs.two h h1 h2
  obtain ⟨e,hn,hs,hr⟩:=h
  have q:s=sa/\n=na/\p=pa:=by simpa using h1
  obtain ⟨q1,q2,q3⟩:=q
  subst q1 q2 q3
  subst e
  cases r with
  | nil=>simp at h2
  | cons y r' =>
   obtain ⟨s',n',p'⟩:=y
   have q':s'=sb/\n'=nb/\p'=pb:=by simpa using h2
   obtain ⟨q1,q2,q3⟩:=q'
   subst q1 q2 q3
   obtain ⟨e',hn',hs',hr'⟩:=hr
   rw[List.set_cons_zero,Ri,List.eraseIdx_cons_zero]
   refine ⟨rfl,by omega,?_,?_⟩
   ·rw[show s+(n+n')=s'+n' by omega]
    exact as
   ·rw[show s+(n+n')=s+n+n' by omega]
    exact Runs.out o (.inr (by omega)) hr'
 | (s,n,p)::r,a,b,i+1,sa,na,pa,sb,nb,pb,h,h1,h2,o,as=>by
  have tw:=Runs.two (i:=i) h.2.2.2 (by simpa using h1) (by simpa using h2)
  rw[Pr,Ri]
  exact ⟨h.1,h.2.1,h.2.2.1.out o (.inl tw.2.2.2.1),Runs.merge h.2.2.2 (by simpa using h1) (by simpa using h2) o as⟩
theorem eU(P:Array (Nat×Nat×Nat))(i:Nat)(v:Nat×Nat×Nat):((P.setIfInBounds i v).eraseIdxIfInBounds (i+1)).toList=(P.toList.set i v).eraseIdx (i+1):=by
 rw[Array.toList_eraseIdxIfInBounds,Array.toList_setIfInBounds]
section
variable{prog:Bs}{w:World}{A:Cs}{s:Aj}{kd:Lv}{Ok:Keyed->Prop}{E:Value->Aj->Prop}{a₀:Array Keyed}
theorem Oz[Decidable c]{p q:StateT Bv Sem α}{Q:α->Bv->Prop}{st:Bv}(h1:c->wpS (model prog w) A E s p Q st)(h2:¬ c->wpS (model prog w) A E s q Q st):wpS (model prog w) A E s (if c then p else q) Q st:=by
 by_cases h:c
 ·rw[if_pos h]; exact h1 h
 ·rw[if_neg h]; exact h2 h
theorem gS(C:Cmp prog w A s kd Ok blt){st:Bv}(g:Good0 kd a₀ st)(h0:∀x∈a₀.toList,Ok x){lo i:Nat}(hlo:lo<=a₀.size)(rn:Runs blt (arrOf st) (Bj st).toList 0 lo)(hi:i+1<(Bj st).size)(h:∀st',Good0 kd a₀ st'->Runs blt (arrOf st') (Bj st').toList 0 lo->(Bj st').size+1=(Bj st).size->(∀c d,lo<=c->Rj blt (arrOf st) c d->Rj blt (arrOf st') c d)->Q true st'):wpS (model prog w) A E s (Vk i) Q st:=by
 obtain ⟨⟨sa,na,pa⟩,ha⟩ : ∃x,(Bj st)[i]? = some x:=⟨(Bj st)[i],by simp⟩
 obtain ⟨⟨sb,nb,pb⟩,hb⟩ : ∃x,(Bj st)[i+1]? = some x:=⟨(Bj st)[i+1],by simp⟩
 have la:(Bj st).toList[i]? = some (sa,na,pa):=by simpa using ha
 have lb:(Bj st).toList[i+1]? = some (sb,nb,pb):=by simpa using hb
 obtain ⟨t1,t2,t3,t4,t5,t6,t7⟩:=rn.two la lb
 refine oG C g h0 ha hb t1 t2 t3 (by omega) t6 t7 λst' g' pd as ou=>?_
 refine h st' g' ?_ ?_ λc d hc hs=>hs.out ou (.inr (by omega))
 ·rw[pd,eU]
  exact rn.merge la lb ou as
 ·have : (Bj st').toList.length+1=(Bj st).toList.length:=by
   rw[pd,eU,List.length_eraseIdx,List.length_set,Az,if_pos hi]
   omega
  simpa using this
theorem M3{st:Bv}(g:Good0 kd a₀ st):Good kd a₀ (Bj st) st:=⟨g.kind,g.fail,g.perm,rfl⟩
theorem jI{st:Bv}(g:Good kd a₀ p st):Good0 kd a₀ st:=⟨g.kind,g.fail,g.perm⟩
theorem eM(C:Cmp prog w A s kd Ok blt){st:Bv}(g:Good0 kd a₀ st)(h0:∀x∈a₀.toList,Ok x)(hp:Bj st=#[])(hz:1<=a₀.size)(h:∀st',Good0 kd a₀ st'->Rj blt (arrOf st') 0 a₀.size->Q () st'):wpS (model prog w) A E s eZ Q st:=by
 unfold eZ
 refine Bd (Nb ?_)
 have hsz:(arrOf st).size=a₀.size:=g.size
 dsimp only
 rw[hsz]
 generalize (sortPriv% PySem.Builtin.minRun) a₀.size a₀.size 0=mr
 refine Bd (Gx (Eg
  (I:=λx c st'=>∃lo,c=(none,lo)/\Good0 kd a₀ st'/\Runs blt (arrOf st') (Bj st').toList 0 lo/\lo<=a₀.size/\x<=lo)
  (Q:=λc st'=>c=(none,a₀.size)/\Good0 kd a₀ st'/\Runs blt (arrOf st') (Bj st').toList 0 a₀.size) ?_ ?_ ⟨0,rfl,g,by rw[hp]; exact rfl,by omega,by omega⟩) ?_)
 ·(intro x c st1 _ hx q_; obtain ⟨lo,rfl,g1,rn,hlo,hxl⟩ := q_)
  dsimp only
  by_cases hge:lo ≥ a₀.size
  ·rw[if_pos hge]
   have e:lo=a₀.size:=by omega
   subst e
   exact Bk ⟨rfl,g1,rn⟩
  rw[if_neg hge]
  refine Bd (wY C (M3 g1) h0 (lo:=lo) (b:=a₀.size - lo) (by omega) (by omega) λm st2 g2 m1 m2 as ou=>?_)
  dsimp only
  have rn2:Runs blt (arrOf st2) (Bj st2).toList 0 lo:=by
   rw[g2.pd]
   exact rn.out ou (.inl (Ak _))
  have g2':=jI g2
  clear rn g1
  refine Oz (λhmin=>?_) (λhmin=>?_)
  ·refine Bd (Sq ?_)
   refine Bd (tN C g2 h0 (lo:=lo) (n:=min (a₀.size - lo) mr) (ok:=m) (by omega) as (by omega) λst3 g3 as3 ou3=>?_)
   refine Oz (λz=>absurd z (by decide)) (λ_=>?_)
   have n1:1<=min (a₀.size - lo) mr:=by omega
   have n2:lo+min (a₀.size - lo) mr<=a₀.size:=by omega
   have rn3:Runs blt (arrOf st3) (Bj st3).toList 0 lo:=by
    rw[g3.pd,<- g2.pd]
    exact rn2.out ou3 (.inl (Ak _))
   have g3':=jI g3
   generalize min (a₀.size - lo) mr=n at as3 n1 n2
   clear g2 g2' rn2 as ou ou3 g3 m1 m2 hmin
   refine Bd (Nb ?_)
   cases hb:(Bj st3).back? with
   | none =>
    dsimp only
    refine Bd (Jq ?_)
    refine Bk ⟨lo+n,rfl,⟨g3'.kind,g3'.fail,g3'.perm⟩,?_,n2,by omega⟩
    show Runs blt (arrOf st3) ((Bj st3).push (lo,n,0)).toList 0 (lo+n)
    rw[Lw]
    exact rn3.push n1 as3
   | some y =>
    obtain ⟨s1,l1,p1⟩:=y
    dsimp only
    refine Bd (Gx (Eg
     (I:=λ_ c st'=>c=(none,())/\Good0 kd a₀ st'/\Runs blt (arrOf st') (Bj st').toList 0 lo/\Rj blt (arrOf st') lo (lo+n))
     (Q:=λc st'=>c=(none,())/\Good0 kd a₀ st'/\Runs blt (arrOf st') (Bj st').toList 0 lo/\Rj blt (arrOf st') lo (lo+n)) ?_ (λ_ _ z=>z) ⟨rfl,g3',rn3,as3⟩) ?_)
    ·(intro z c st4 _ _ q_; obtain ⟨rfl,g4,rn4,as4⟩ := q_)
     refine Bd (Nb ?_)
     by_cases hs1:(Bj st4).size > 1
     ·rw[if_pos hs1]
      obtain ⟨⟨a1,b1,older⟩,ho⟩ : ∃x,(Bj st4)[(Bj st4).size - 2]? = some x:=⟨(Bj st4)[(Bj st4).size - 2],by simp⟩
      rw[ho]
      dsimp only
      refine Oz (λ_=>Bk ⟨rfl,g4,rn4,as4⟩) (λ_=>?_)
      refine Bd (gS C g4 h0 hlo rn4 (i:=(Bj st4).size - 2) (show (Bj st4).size - 2+1<(Bj st4).size by omega) λst5 g5 rn5 _ keep=>?_)
      refine Oz (λz=>absurd z (by decide)) (λ_=>?_)
      exact Bk ⟨rfl,g5,rn5,keep _ _ (Ak _) as4⟩
     ·rw[if_neg hs1]
      exact Bk ⟨rfl,g4,rn4,as4⟩
    ·(intro c st4 q_; obtain ⟨rfl,g4,rn4,as4⟩ := q_)
     dsimp only
     refine Bd (Jq ?_)
     refine Bd (Jq ?_)
     refine Bk ⟨lo+n,rfl,⟨g4.kind,g4.fail,g4.perm⟩,?_,n2,by omega⟩
     show Runs blt (arrOf st4) (((Bj st4).modify ((Bj st4).size - 1) _).push (lo,n,0)).toList 0 (lo+n)
     rw[Lw,Array.toList_modify]
     exact (rn4.power _).push n1 as4
  ·have n2:lo+m<=a₀.size:=by omega
   refine Bd (Nb ?_)
   cases hb:(Bj st2).back? with
   | none =>
    dsimp only
    refine Bd (Jq ?_)
    refine Bk ⟨lo+m,rfl,⟨g2'.kind,g2'.fail,g2'.perm⟩,?_,n2,by omega⟩
    show Runs blt (arrOf st2) ((Bj st2).push (lo,m,0)).toList 0 (lo+m)
    rw[Lw]
    exact rn2.push m1 as
   | some y =>
    obtain ⟨s1,l1,p1⟩:=y
    dsimp only
    refine Bd (Gx (Eg
     (I:=λ_ c st'=>c=(none,())/\Good0 kd a₀ st'/\Runs blt (arrOf st') (Bj st').toList 0 lo/\Rj blt (arrOf st') lo (lo+m))
     (Q:=λc st'=>c=(none,())/\Good0 kd a₀ st'/\Runs blt (arrOf st') (Bj st').toList 0 lo/\Rj blt (arrOf st') lo (lo+m)) ?_ (λ_ _ z=>z) ⟨rfl,g2',rn2,as⟩) ?_)
    ·(intro z c st4 _ _ q_; obtain ⟨rfl,g4,rn4,as4⟩ := q_)
     refine Bd (Nb ?_)
     by_cases hs1:(Bj st4).size > 1
     ·rw[if_pos hs1]
      obtain ⟨⟨a1,b1,older⟩,ho⟩ : ∃x,(Bj st4)[(Bj st4).size - 2]? = some x:=⟨(Bj st4)[(Bj st4).size - 2],by simp⟩
      rw[ho]
      dsimp only
      refine Oz (λ_=>Bk ⟨rfl,g4,rn4,as4⟩) (λ_=>?_)
      refine Bd (gS C g4 h0 hlo rn4 (i:=(Bj st4).size - 2) (show (Bj st4).size - 2+1<(Bj st4).size by omega) λst5 g5 rn5 _ keep=>?_)
      refine Oz (λz=>absurd z (by decide)) (λ_=>?_)
      exact Bk ⟨rfl,g5,rn5,keep _ _ (Ak _) as4⟩
     ·rw[if_neg hs1]
      exact Bk ⟨rfl,g4,rn4,as4⟩
    ·(intro c st4 q_; obtain ⟨rfl,g4,rn4,as4⟩ := q_)
     dsimp only
     refine Bd (Jq ?_)
     refine Bd (Jq ?_)
     refine Bk ⟨lo+m,rfl,⟨g4.kind,g4.fail,g4.perm⟩,?_,n2,by omega⟩
     show Runs blt (arrOf st4) (((Bj st4).modify ((Bj st4).size - 1) _).push (lo,m,0)).toList 0 (lo+m)
     rw[Lw,Array.toList_modify]
     exact (rn4.power _).push m1 as4
 ·(intro c st1 q_; obtain ⟨lo,rfl,g1,rn,hlo,hxl⟩ := q_)
  have : max 0 a₀.size=a₀.size:=by omega
  rw[this] at hxl
  have e:lo=a₀.size:=by omega
  subst e
  exact ⟨rfl,g1,rn⟩
 ·(intro c st1 q_; obtain ⟨rfl,g1,rn⟩ := q_)
  dsimp only
  have len0:=Runs.len rn
  rw[Az] at len0
  refine Bd (Gx (Eg
   (I:=λx c st'=>c=(none,())/\Good0 kd a₀ st'/\Runs blt (arrOf st') (Bj st').toList 0 a₀.size/\((Bj st').size<=1\/(Bj st').size+x<=a₀.size))
   (Q:=λc st'=>c=(none,())/\Good0 kd a₀ st'/\Runs blt (arrOf st') (Bj st').toList 0 a₀.size/\(Bj st').size<=1) ?_ ?_ ⟨rfl,g1,rn,.inr (by omega)⟩) ?_)
  ·(intro x c st2 _ hx q_; obtain ⟨rfl,g2,rn2,hs⟩ := q_)
   refine Bd (Nb ?_)
   refine Oz (λh1=>Bk ⟨rfl,g2,rn2,h1⟩) (λh1=>?_)
   have h1':¬ (Bj st2).size<=1:=h1
   generalize hB:Option.any _ _=bb
   have key:∀i,i+1<(Bj st2).size->wpS (model prog w) A E s (Vk i) (λr st3=>r=true/\Good0 kd a₀ st3/\Runs blt (arrOf st3) (Bj st3).toList 0 a₀.size/\(Bj st3).size+1=(Bj st2).size) st2 :=
    λi hi=>gS C g2 h0 (Ak _) rn2 hi λst3 g3 rn3 sz _=>⟨rfl,g3,rn3,sz⟩
   refine Bd (Gx (key _ ?_) λr st3 ⟨er,g3,rn3,sz⟩=>?_)
   ·cases bb with
    | true=>show (Bj st2).size - 2 - 1+1<(Bj st2).size; omega
    | false=>show (Bj st2).size - 2+1<(Bj st2).size; omega
   subst er
   refine Oz (λz=>absurd z (by decide)) (λ_=>?_)
   exact Bk ⟨rfl,g3,rn3,.inr (by omega)⟩
  ·(intro c st2 q_; obtain ⟨rfl,g2,rn2,hs⟩ := q_)
   have : max 0 a₀.size=a₀.size:=by omega
   rw[this] at hs
   exact ⟨rfl,g2,rn2,by omega⟩
  ·(intro c st2 q_; obtain ⟨rfl,g2,rn2,hs⟩ := q_)
   dsimp only
   refine Bk (h st2 g2 ?_)
   generalize hl:(Bj st2).toList=l at rn2
   have hll:l.length<=1:=by rw[<- hl,Az]; exact hs
   match l,rn2,hll with
   | [],rn2,_ =>
    have e:0=a₀.size:=rn2
    omega
   | [(s1,n1,p1)],rn2,_ =>
    obtain ⟨_,_,as,e⟩:=rn2
    have e':0+n1=a₀.size:=e
    rw[e'] at as
    exact as
end
end Ts
namespace Ts
open PySem PyProof.Rows L2
theorem rP:∀l:List Int,HT.lexLt l l=false
 | []=>rfl
 | x::r=>by rw[HT.lexLt_cons,if_pos rfl]; exact rP r
theorem nV:∀{a b c:List Int},HT.lexLt a b=true->HT.lexLt b c=true->HT.lexLt a c=true
 | [],[],_,h,_=>by rw[HT.lexLt_nil_nil] at h; cases h
 | [],_::_,[],_,h=>by rw[HT.lexLt_cons_nil] at h; cases h
 | [],_::_,_::_,_,_=>HT.lexLt_nil_cons _ _
 | _::_,[],_,h,_=>by rw[HT.lexLt_cons_nil] at h; cases h
 | _::_,_::_,[],_,h=>by rw[HT.lexLt_cons_nil] at h; cases h
 | x::a,y::b,z::c,h1,h2=>by
  rw[HT.lexLt_cons] at h1 h2 ⊢
  by_cases e1:x=y
  ·subst e1
   rw[if_pos rfl] at h1
   by_cases e2:x=z
   ·subst e2
    rw[if_pos rfl] at h2 ⊢
    exact nV h1 h2
   ·rw[if_neg e2] at h2 ⊢
    exact h2
  ·rw[if_neg e1] at h1
   have l1:x<y:=of_decide_eq_true h1
   by_cases e2:y=z
   ·subst e2
    rw[if_neg e1]
    exact h1
   ·rw[if_neg e2] at h2
    have l2:y<z:=of_decide_eq_true h2
    rw[if_neg (by omega)]
    exact decide_eq_true (by omega)
theorem iV:∀{a b:List Int},HT.lexLt a b=false->HT.lexLt b a=false->a=b
 | [],[],_,_=>rfl
 | [],_::_,h,_=>by rw[HT.lexLt_nil_cons] at h; cases h
 | _::_,[],_,h=>by rw[HT.lexLt_nil_cons] at h; cases h
 | x::a,y::b,h1,h2=>by
  rw[HT.lexLt_cons] at h1 h2
  by_cases e:x=y
  ·subst e
   rw[if_pos rfl] at h1 h2
   rw[iV h1 h2]
  ·rw[if_neg e] at h1
   rw[if_neg (Ll e)] at h2
   have l1:=of_decide_eq_false h1
   have l2:=of_decide_eq_false h2
   omega
theorem G7(h:HT.lexLt a c=true):HT.lexLt a b=true\/HT.lexLt b c=true:=by
 cases h1:HT.lexLt a b with
 | true=>exact .inl rfl
 | false =>
  cases h2:HT.lexLt b a with
  | true=>exact .inr (nV h2 h)
  | false =>
   rw[<- iV h1 h2]
   exact .inr h
def HM(c:Addr->List Int)(x:Keyed):List Int:=match x.1 with
 | .ref a=>c a
 | _=>[]
def HK(c:Addr->List Int)(x y:Keyed):Bool:=HT.lexLt (HM c x) (HM c y)
def vE(c:Addr->List Int)(rs:List Addr)(h:Heap):Prop:=∀r∈rs,∃its:List Value,Kj its (c r)/\IsTup h r its.toArray
section
variable{prog:Bs}{w:World}{A:Cs}{E:Value->Aj->Prop}{s:Aj}{c:Addr->List Int}{rs:List Addr}
theorem uV(hH:vE c rs s.heap)(hu:A.units<cLine)(ha:a∈rs)(hb:b∈rs)(h:Q (HT.lexLt (c a) (c b)) s):wpAny (model prog w) A (oneLt' true (.ref a) (.ref b)) Q E s:=by
 obtain ⟨i1,t1,⟨c1,d1,dt1,sl1⟩,g1,k1,n1,e1⟩:=hH a ha
 obtain ⟨i2,t2,⟨c2,d2,dt2,sl2⟩,g2,k2,n2,e2⟩:=hH b hb
 simp only at k1 e1 k2 e2
 subst k1 e1 k2 e2
 rw[oneLt'_eq]
 simp only[if_true]
 refine Aa (wpAny_cRoomFor hu (Aa (wpAny_callSpecialIfBound?_slot ⟨_,g1,rfl⟩ PySem.F.slot_tuple_lt ?_)))
 refine cW PySem.F.slot_tuple_lt ⟨_,g1,rfl⟩ PySem.F.entry_tuple_lt (PySem.F.args_tuple_lt_2 _ _) (HT.tuple_lt_ints a b _ _ n1 n2 d1 d2 sl1 sl2 (c a) (c b) (by simpa using t1) (by simpa using t2)) ⟨g1,g2,?_⟩
 exact Fq h
theorem G3(hH:vE c rs s.heap)(hu:A.units<cLine):Cmp prog w A s Ud (λx=>∃r∈rs,x.1=.ref r) (HK c) where
 run:=λx y Q E ⟨r,hr,ex⟩ ⟨r',hr',ey⟩ h=>by
  obtain ⟨x1,x2⟩:=x
  obtain ⟨y1,y2⟩:=y
  simp only at ex ey
  subst ex ey
  rw[keyLt'_oneType]
  exact uV hH hu hr hr' h
 irr:=λx=>rP _
 tr:=λx y z h1 h2=>nV h1 h2
 neg:=λx y z h=>G7 h
theorem bZ:∀{l:List Addr} {Q:List (Option Value)->Aj->Prop},(∀r∈l,∃its:List Value,Kj its (c r)/\IsTup s.heap r its.toArray)->(∀fs:List (Option Value),fs.length=l.length->(∀(i:Nat) (r:Addr),l[i]? = some r->∃f,fs[i]? = some f/\(f.isSome=true↔c r≠[]))->Q fs s)->wpAny (model prog w) A ((l.map Bc).mapM cP) Q E s
 | [],Q,_,h=>by
  rw[Ki,List.mapM_nil]
  exact Am (h [] rfl λi r e=>by simp at e)
 | r::l,Q,hH,h=>by
  obtain ⟨its,ti,o,g,k,n,e⟩:=hH r Ab
  rw[Aw,List.mapM_cons]
  have one:∀{R:Option Value->Aj->Prop},R its.toArray[0]? s->wpAny (model prog w) A (cP (.ref r)) R E s:=λ{R} hR=>by
   unfold cP
   refine Aa (La (T := "tuple") ⟨o,g,k⟩ ?_)
   rw[if_neg (by simp)]
   exact Aa (fT g e (Am hR))
  refine Aa (one (Aa (bZ (λr' hr'=>hH r' (Ae _ hr')) λfs hl hf=>Am (h _ (by rw[Br,Br,hl]) λi r' er=>?_))))
  cases i with
  | zero =>
   have e':r=r':=by simpa using er
   subst e'
   refine ⟨_,rfl,?_⟩
   have hlen:=ti.length
   cases its with
   | nil =>
    cases hc:c r with
    | nil=>simp
    | cons _ _=>rw[hc] at hlen; simp at hlen
   | cons a b =>
    cases hc:c r with
    | nil=>rw[hc] at hlen; simp at hlen
    | cons _ _=>simp
  | succ i =>
   obtain ⟨f,h1,h2⟩:=hf i r' (by simpa using er)
   exact ⟨f,by simpa using h1,h2⟩
theorem eJ:∀{l:List Addr} {Q:List Value->Aj->Prop},(∀r∈l,∃its:List Value,Kj its (c r)/\IsTup s.heap r its.toArray)->Q (l.map λ_=>Hs "tuple") s->wpAny (model prog w) A ((l.map Bc).mapM typeOf) Q E s
 | [],Q,_,h=>by
  rw[Ki,List.mapM_nil]
  exact Am h
 | r::l,Q,hH,h=>by
  obtain ⟨its,ti,o,g,k,n,e⟩:=hH r Ab
  rw[Aw,List.mapM_cons]
  exact Aa (La (T := "tuple") ⟨o,g,k⟩ (Aa (eJ (λr' hr'=>hH r' (Ae _ hr')) (Am h))))
theorem yN(hH:vE c (r::l) s.heap)(h0:c r=[])(h:Q Ud s):wpAny (model prog w) A (keyKind' ((r::l).map Bc).toArray) Q E s:=by
 rw[keyKind'_eq,List.mapM_toArray]
 refine Aa ?_
 show wpAny (model prog w) A (List.toArray <$> ((r::l).map Bc).mapM cP) _ E s
 rw[map_eq_pure_bind]
 refine Aa (bZ hH λfs hl hf=>Am ?_)
 obtain ⟨f,h1,h2⟩:=hf 0 r rfl
 have fn:f=none:=by
  cases f with
  | none=>rfl
  | some v=>exact absurd h0 (h2.mp rfl)
 subst fn
 have na:¬ (fs.toArray.all λx=>x.isSome)=true:=by
  intro z
  have:=Array.all_eq_true'.mp z none (by
   have:=Ax h1
   simpa using this)
  simp at this
 have n0:¬ (fs.toArray[0]?.bind id).isSome=true:=by
  rw[List.getElem?_toArray,h1]
  simp
 rw[if_neg na,if_neg n0,oneTypeOnly'_eq,List.mapM_toArray]
 refine Aa (Aa ?_)
 show wpAny (model prog w) A (List.toArray <$> ((r::l).map Bc).mapM typeOf) _ E s
 rw[map_eq_pure_bind]
 refine Aa (eJ hH (Am ?_))
 have e0:((r::l).map λ_=>Hs "tuple").toArray[0]? = some (Hs "tuple"):=by simp
 have ea:(((r::l).map λ_=>Hs "tuple").toArray.all λx=>x == Hs "tuple")=true:=by
  simp only[List.all_toArray,Os,Dh]
  intro _ _
  rfl
 rw[e0]
 dsimp only
 rw[ea,if_pos rfl]
 exact Am (Am h)
theorem sQ(hl:s.heap.get? a=some (Df "list" (rs.map Bc).toArray n))(hH:vE c rs s.heap)(h0:∀r l,rs=r::l->c r=[])(hu:A.units<cLine)(hz:rs.length<=Au)(h:∀rs':List Addr,rs'.Perm rs->rs'.Pairwise (λx y=>HT.lexLt (c y) (c x)=false)->P (.done (.ret .none)) { s with heap:=sortedHeap s.heap a (rs.map Bc) (rs'.map Bc).toArray }):wpAny (model prog w) A (Builtin.«list.sort» ⟨[.ref a],[]⟩) P E s:=by
 have lt:=Bg hl
 have hsz:(rs.map Bc).toArray.size=rs.length:=by simp
 rw[list_sort_plain]
 refine Aa (fT hl rfl (Aa (Lu hl rfl ?_ (by rw[hsz]; exact hz))))
 obtain ⟨ep,hl1⟩ : ∃ep,(s.heap.update a (Cq λ_=>#[])).get? a=some (Df "list" #[] ep):=⟨_,Ma hl (λ_=>#[])⟩
 refine Aa (Yo hl1 rfl (Aa (Yn (Aa (cN (Dd ?_)) ))))
 have hl2:(((s.heap.update a (Cq λ_=>#[])).push (Df "tuple" (rs.map Bc).toArray 0)).push (Df "list" #[] 0)).get? a=some (Df "list" #[] ep):=by
  rw[Heap.get?_push_ne _ _ _ (by rw[Vb,Ii]; exact Cd (Zp lt)),
   Heap.get?_push_ne _ _ _ (by rw[Ii]; exact Cd lt)]
  exact hl1
 have kept:∀b o,b≠a->s.heap.get? b=some o->(((s.heap.update a (Cq λ_=>#[])).push (Df "tuple" (rs.map Bc).toArray 0)).push (Df "list" #[] 0)).get? b=some o:=λb o hb e=>by
  refine Ai _ (Ai _ ?_)
  exact ((Co s.heap a _).2 b hb).trans e
 have hH2:vE c rs (((s.heap.update a (Cq λ_=>#[])).push (Df "tuple" (rs.map Bc).toArray 0)).push (Df "list" #[] 0)):=λr hr=>by
  obtain ⟨its,t1,o,g1,k1,m1,e1⟩:=hH r hr
  refine ⟨its,t1,o,kept r o ?_ g1,k1,m1,e1⟩
  rintro rfl
  rw[hl] at g1
  cases g1
  exact absurd k1 (by simp)
 show wpAny (model prog w) A _ P E { s with heap:=((s.heap.update a (Cq λ_=>#[])).push (Df "tuple" (rs.map Bc).toArray 0)).push (Df "list" #[] 0) }
 dsimp only
 -- what is left Xb the runs
 have fin:∀(out:Array Value) (rs':List Addr),out=(rs'.map Bc).toArray->rs'.Perm rs->rs'.Pairwise (λx y=>HT.lexLt (c y) (c x)=false) ->
   P (.done (.ret .none)) { s with heap:=sortedHeap s.heap a (rs.map Bc) out }:=λout rs' e p1 p2=>by rw[e]; exact h rs' p1 p2
 by_cases h2:(rs.map Bc).toArray.size<2
 ·rw[if_pos h2,if_pos h2]
  refine Aa (Am ?_)
  rw[StateT.run_pure]
  refine Aa (Am (Aa (Yo hl2 rfl (Aa (Lu hl2 rfl ?_ (by simp) ?_)))))
  ·simp only[bne_self_eq_false,Bx,if_false]
   refine Am (fin _ rs ?_ (List.Perm.refl _) ?_)
   ·show Array.map (λx=>x.2) ((rs.map Bc).toArray.zip (rs.map Bc).toArray)=_
    apply Array.ext'
    simp [List.map_snd_zip]
   ·rw[hsz] at h2
    match rs,h2 with
    | [],_=>exact Kq
    | [_],_=>exact Ge _ _
    | _::_::_,h2=>simp only[Br] at h2; omega
  ·show (Array.map (λx:Keyed=>x.2) ((rs.map Bc).toArray.zip (rs.map Bc).toArray)).size<=Au+1
   rw[Array.size_map,Array.size_zip,hsz]
   omega
 ·rw[if_neg h2,if_neg h2]
  rw[hsz] at h2
  obtain ⟨r0,Gj,e0⟩ : ∃r l,rs=r::l:=by
   cases rs with
   | nil=>simp at h2
   | cons r l=>exact ⟨r,l,rfl⟩
  have hk:∀{R:Lv->Aj->Prop},R Ud { s with heap:=((s.heap.update a (Cq λ_=>#[])).push (Df "tuple" (rs.map Bc).toArray 0)).push (Df "list" #[] 0) } ->
    wpAny (model prog w) A (keyKind' (rs.map Bc).toArray) R E { s with heap:=((s.heap.update a (Cq λ_=>#[])).push (Df "tuple" (rs.map Bc).toArray 0)).push (Df "list" #[] 0) }:=λ{R} hR=>by
   have hH3:=hH2
   rw[e0] at hH3 hR ⊢
   exact yN hH3 (h0 r0 Gj e0) hR
  refine Aa (hk ?_)
  have C:=G3 (prog:=prog) (w:=w) (A:=A) (s:={ s with heap:=((s.heap.update a (Cq λ_=>#[])).push (Df "tuple" (rs.map Bc).toArray 0)).push (Df "list" #[] 0) }) hH2 hu
  have a0:(pairsOf (rs.map Bc)).size=rs.length:=by rw[pairsOf_size,Ad]
  refine Aa (Ft (eM C (a₀:=pairsOf (rs.map Bc)) (st:=Wl Ud ((rs.map Bc).toArray.zip (rs.map Bc).toArray) #[] 7 none) (E:=E)
   (Q:=λ_ st'=>Good0 Ud (pairsOf (rs.map Bc)) st'/\Rj (HK c) (arrOf st') 0 (pairsOf (rs.map Bc)).size)
   ⟨rfl,rfl,Array.Perm.refl _⟩ (λx hx=>?_) rfl (by rw[a0]; omega) λst' g as=>⟨g,as⟩) ?_ λ_ _ z=>z)
  ·rw[pairsOf_toList] at hx
   obtain ⟨_,hm⟩:=mem_zip_self hx
   obtain ⟨r,hr,e⟩:=Bu.mp hm
   exact ⟨r,hr,e.symm⟩
  ·(rintro ⟨⟨⟩,st'⟩ s' q_; obtain ⟨rfl,g,as⟩ := q_)
   dsimp only
   -- the things of the new order
   have pl:(arrOf st').toList.Perm ((rs.map Bc).zip (rs.map Bc)):=by rw[<- pairsOf_toList]; exact Pi.mp g.perm
   have each:∀x∈(arrOf st').toList,∃r∈rs,x=(Bc r,Bc r):=λx hx=>by
    obtain ⟨e,hm⟩:=mem_zip_self (pl.mem_iff.mp hx)
    obtain ⟨r,hr,e2⟩:=Bu.mp hm
    refine ⟨r,hr,?_⟩
    obtain ⟨x1,x2⟩:=x
    simp only at e e2
    rw[<- e,e2]
   have ex:∀l:List Keyed,(∀x∈l,∃r∈rs,x=(Bc r,Bc r))->∃rs':List Addr,l=rs'.map λr=>(Bc r,Bc r):=by
    intro l
    induction l with
    | nil=>intro _; exact ⟨[],rfl⟩
    | cons x l ih =>
     intro hx
     obtain ⟨r,_,e⟩:=hx x Ab
     obtain ⟨rs',e'⟩:=ih λy hy=>hx y (Ae _ hy)
     exact ⟨r::rs',by rw[Aw,e,e']⟩
   obtain ⟨rs',ers⟩:=ex _ each
   have zz:(rs.map Bc).zip (rs.map Bc)=rs.map λr=>(Bc r,Bc r):=by
    rw[List.zip_map',]
   rw[ers,zz] at pl
   have inj:∀x:Keyed,∃a:Addr,True:=λ_=>⟨0,trivial⟩
   have pr:rs'.Perm rs:=by
    have:=pl.map (λx:Keyed=>match x.1 with | .ref a=>a | _=>0)
    rw[Ce,Ce] at this
    simpa [Wn] using this
   have so:rs'.Pairwise (λx y=>HT.lexLt (c y) (c x)=false):=by
    rw[Eu]
    intro i j hi hj hij
    have ls:(arrOf st').size=rs'.length:=by
     have:=congrArg Fb ers
     rw[Az,Ad] at this
     exact this
    have xe:∀k (hk:k<rs'.length),X (arrOf st') k=(Bc rs'[k],Bc rs'[k]):=λk hk=>by
     have e1:=Ef (Xc (xs:=arrOf st') (i:=k) (by omega))
     rw[ers,Be,Ba hk] at e1
     exact (Bp e1).symm
    have:=as i j (Dg _) (by omega) (by rw[a0,<- pr.length_eq]; exact hj)
    rw[xe i hi,xe j hj] at this
    exact this
   refine Aa (Yo hl2 rfl (Aa (Lu hl2 rfl ?_ (by simp) ?_)))
   ·have fl:Ky st'=none:=g.fail
    rw[fl]
    simp only[bne_self_eq_false,Bx,if_false]
    refine Am (fin _ rs' ?_ pr so)
    apply Array.ext'
    rw[Array.toList_map,ers,Ce]
    rfl
   ·show (Array.map (λx:Keyed=>x.2) (arrOf st')).size<=Au+1
    rw[Array.size_map,g.size,a0]
    omega
end
theorem Xg:∀{rs:List Addr} {us:List Value},Fg (rs.map V.ref) us->us=rs.map Bc
 | [],_,r=>by cases r; rfl
 | a::l,_,r=>by
  rw[Aw] at r
  cases r with
  | cons r1 r2 =>
   cases r1
   rw[Xg r2]
   rfl
theorem Xn:∀rs:List Addr,Fg (rs.map V.ref) (rs.map Bc)
 | []=>.nil
 | _::l=>.cons rfl (Xn l)
section
variable{prog:Bs}{w:World}{A:Cs}{E:Value->Aj->Prop}{s:Aj}{c:Addr->List Int}{rs:List Addr}
theorem jL(hl:s.heap.IsList l (rs.map Bc).toArray)(hH:vE c rs s.heap)(h0:∀r l,rs=r::l->c r=[])(hu:A.units+2<cLine)(hz:rs.length<=Au)(h:∀rs':List Addr,rs'.Perm rs->rs'.Pairwise (λx y=>HT.lexLt (c y) (c x)=false)->Q (.ref (s.heap.objs.size+1)) { s with heap:=sortedAll s.heap (rs.map Bc) (rs'.map Bc).toArray }):wpAny (model prog w) A (call (.builtin "sorted") [.ref l]) Q E s:=by
 refine Calls.call_function_entry (by exact kind_sorted) plain_sorted entry_sorted (args_sorted1 _) ?_
 unfold Builtin.«sorted»
 refine Aa (m:=checkCount "sorted" 1 1 _) (Am (Aa (collect_list hl (Aa (cN ?_)) (by rw[Ad]; exact hz))))
 have z1:((s.heap.push (Df "list" #[] 0)).update s.heap.objs.size (Cq (·++(rs.map Bc).toArray))).objs.size=s.heap.objs.size+1:=by rw[Ii,Vb]
 have g1:(((s.heap.push (Df "list" #[] 0)).update s.heap.objs.size (Cq (·++(rs.map Bc).toArray))).push (Df "list" (rs.map Bc).toArray 0)).get? (s.heap.objs.size+1)=some (Df "list" (rs.map Bc).toArray 0):=by
  rw[<- z1]
  exact Bf _ rfl
 have kept:∀b o,s.heap.get? b=some o->(((s.heap.push (Df "list" #[] 0)).update s.heap.objs.size (Cq (·++(rs.map Bc).toArray))).push (Df "list" (rs.map Bc).toArray 0)).get? b=some o:=λb o e=>by
  refine Ai _ (((Co _ _ _).2 b (Cd (Bg e))).trans (Ai _ e))
 show wpAny _ _ _ _ _ { s with heap:=((s.heap.push (Df "list" #[] 0)).update s.heap.objs.size (Cq (·++(rs.map Bc).toArray))).push (Df "list" (rs.map Bc).toArray 0) }
 rw[z1]
 refine Aa (Dd (Ew slot_list_sort ⟨_,g1,rfl⟩ entry_list_sort (sQ g1 (λr hr=>?_) h0 ?_ hz λrs' p1 p2=>⟨_,rfl,?_⟩) (args_list_sort _)))
 ·obtain ⟨its,t1,o,q1,k1,m1,e1⟩:=hH r hr
  exact ⟨its,t1,o,kept r o q1,k1,m1,e1⟩
 ·first | exact Iw (by show A.units+2<=A.units+2; exact Ak _) hu | exact Iw (Km _ 2) hu | (show A.units+1<cLine; omega) | trace_state
 ·exact Am ⟨_,rfl,h rs' p1 p2⟩
theorem Yy(e:h.get? b=some o):(sortedAll h vs out).get? b=some o:=by
 have lt:=Bg e
 unfold sortedAll sortedHeap
 have z1:((h.push (Df "list" #[] 0)).update h.objs.size (Cq (·++vs.toArray))).objs.size=h.objs.size+1:=by rw[Ii,Vb]
 have n1:b≠h.objs.size+1:=Cd (Zp lt)
 refine ((Co _ _ _).2 b n1).trans (Ai _ (Ai _ (((Co _ _ _).2 b n1).trans (Ai _ ?_))))
 exact ((Co _ _ _).2 b (Cd lt)).trans (Ai _ e)
theorem dS:∃n,(sortedAll h vs out).get? (h.objs.size+1)=some (Df "list" out n):=by
 unfold sortedAll sortedHeap
 have z1:((h.push (Df "list" #[] 0)).update h.objs.size (Cq (·++vs.toArray))).objs.size=h.objs.size+1:=by rw[Ii,Vb]
 have g1:(((h.push (Df "list" #[] 0)).update h.objs.size (Cq (·++vs.toArray))).push (Df "list" vs.toArray 0)).get? (h.objs.size+1)=some (Df "list" vs.toArray 0):=by
  rw[<- z1]
  exact Bf _ rfl
 have g2:=Ma g1 (λ_=>#[])
 have g3:=Ai (Df "list" #[] 0) (Ai (Df "tuple" vs.toArray 0) g2)
 exact ⟨_,Ma g3 (λ_=>out)⟩
end
section
variable{X:Cx}
theorem call_sorted(hu:X.A.units+2<cLine):Ld X (.builtin "sorted") (λxs H Q=>∃(a:Addr) (rs:List Addr) (c:Addr->List Int),xs=[.ref a]/\Mc X.K H a (rs.map V.ref)/\(∀r∈rs,Uh X.K H r ((c r).map V.int))/\(∀r l,rs=r::l->c r=[])/\∀(p:Addr) (rs':List Addr),H p=none->rs'.Perm rs->rs'.Pairwise (λx y=>HT.lexLt (c y) (c x)=false)->Q (.ref p) (upd H p (.lst (rs'.map V.ref)))):=by
 intro pins s σ H xs us Q I r h
 obtain ⟨a,rs,c,rfl,hl,hc,h0,q⟩:=h
 obtain ⟨u,rfl,ru⟩:=vals1 r
 cases ru
 obtain ⟨its,rv,pl,hz⟩:=I.list hl
 have e:=Xg rv
 subst e
 rw[Ad] at hz
 refine jL (c:=c) pl.isList (λr hr=>?_) h0 hu hz λrs' p1 p2=>?_
 ·obtain ⟨ti,t1,t2,_⟩:=I.tuple (hc r hr)
  exact ⟨ti,intsAre_of t1,t2⟩
 ·obtain ⟨n,hn⟩:=dS (h:=s.heap) (vs:=rs.map Bc) (out:=(rs'.map Bc).toArray)
  refine ⟨.ref (s.heap.objs.size+1),upd H (s.heap.objs.size+1) (.lst (rs'.map V.ref)),I.laid (t':=s.toks) (λb o e=>Yy e) (Vf _) ⟨?_,_,n,Xn rs',hn⟩,rfl,q _ rs' (I.hok.fresh (Vf _)) p1 p2⟩
  rw[Ad,p1.length_eq]
  exact hz
end
section
variable{prog:Bs}{w:World}{A:Cs}{E:Value->Aj->Prop}{s:Aj}{c:Addr->List Int}{rs:List Addr}
theorem J9(h:Q (decide (x<y)) s):wpAny (model prog w) A (oneLt' b (.int x t) (.int y u)) Q E s:=by
 cases b with
 | true=>exact oneLt_int h
 | false=>exact PySem.W.kat_one _ _ (lt_int h)
end
end Ts
namespace DL
open PySem L2 Nd
def Mk{α:Type}(xs:List α)(lo hi:Option Int):List α:=(xs.drop (HT.sIx xs.length 0 lo)).take (HT.sIx xs.length xs.length hi - HT.sIx xs.length 0 lo)
theorem zE(f:α->β)(xs:List α)(lo hi:Option Int):Mk (xs.map f) lo hi=(Mk xs lo hi).map f:=by
 unfold Mk
 rw[Ad,List.map_take,List.map_drop]
theorem Sf(xs:List α)(lo hi:Option Int):(Mk xs lo hi).Sublist xs:=(Mb _ _).trans (Jw _ _)
theorem tT(xs:List α)(k:Nat):Mk xs none (some (k:Int))=xs.take k:=by
 unfold Mk
 rw[HT.sIx_none,HT.sIx_nat,List.drop_zero,Nat.sub_zero]
 by_cases h:k<=xs.length
 ·rw[Nat.min_eq_left h]
 ·rw[Nat.min_eq_right (by omega),Ga,Er (by omega)]
section
variable{K:PySem.W.Frag}{H:Hp}
theorem RdFs.drop:∀(n:Nat) {xs:List V} {ds:List Ac} {F:List Addr},RdFs K H xs ds F->∃G,RdFs K H (xs.drop n) (ds.drop n) G/\G.Sublist F
 | 0,_,_,F,h=>⟨F,h,Cr _⟩
 | n+1,_,_,_,.nil=>⟨[],.nil,Cr _⟩
 | n+1,_,_,_,.cons _ t=>by
  obtain ⟨G,h1,h2⟩:=RdFs.drop n t
  exact ⟨G,h1,h2.trans (Cf _ _)⟩
theorem RdFs.take:∀(n:Nat) {xs:List V} {ds:List Ac} {F:List Addr},RdFs K H xs ds F->∃G,RdFs K H (xs.take n) (ds.take n) G/\G.Sublist F
 | 0,_,_,F,h=>⟨[],.nil,List.nil_sublist _⟩
 | n+1,_,_,_,.nil=>⟨[],.nil,Cr _⟩
 | n+1,_,_,_,.cons a t=>by
  obtain ⟨G,h1,h2⟩:=RdFs.take n t
  exact ⟨_,.cons a h1,(Cr _).append h2⟩
theorem RdFs.cut(h:RdFs K H xs ds F)(lo hi:Option Int):∃G,RdFs K H (cF xs lo hi) (Mk ds lo hi) G/\G.Sublist F:=by
 unfold cF Mk
 rw[h.len]
 obtain ⟨G,h1,h2⟩:=h.drop (HT.sIx ds.length 0 lo)
 obtain ⟨G',h3,h4⟩:=h1.take (HT.sIx ds.length ds.length hi - HT.sIx ds.length 0 lo)
 exact ⟨G',h3,h4.trans h2⟩
theorem RdFs.rev:∀{xs:List V} {ds:List Ac},RdFs K H xs ds []->RdFs K H xs.reverse ds.reverse []:=λ{xs ds} h=>by
 have : ∀{xs:List V} {ds:List Ac} {F:List Addr},RdFs K H xs ds F->F=[]->RdFs K H xs.reverse ds.reverse []:=by
  intro xs ds F h
  induction xs generalizing ds F with
  | nil=>intro _; cases h; exact .nil
  | cons x xs ih =>
   intro e
   cases h with
   | @cons _ d _ ds F G a t =>
    obtain ⟨rfl,rfl⟩:=pT.mp e
    rw[Qk,Qk]
    exact (ih t rfl).snoc a
 exact this h rfl
theorem RdFs.rep(h:RdFs K H xs ds []):∀k:Nat,RdFs K H (Bl k xs).flatten (Bl k ds).flatten []
 | 0=>.nil
 | k+1=>by
  rw[Fn,Fn,Hq,Hq]
  exact h.app (RdFs.rep h k)
theorem RdFs.ints:∀ns:List Int,RdFs K H (ns.map V.int) (ns.map Ag) []
 | []=>.nil
 | n::ns=>RdFs.cons (F:=[]) (.int n) (RdFs.ints ns)
theorem RdFs.ints_inv:∀{ns:List Int} {xs:List V} {F:List Addr},RdFs K H xs (ns.map Ag) F->xs=ns.map V.int/\F=[]
 | [],_,_,h=>by cases h; exact ⟨rfl,rfl⟩
 | n::ns,_,_,h=>by
  rw[Aw] at h
  cases h with
  | cons a t =>
   obtain ⟨rfl,rfl⟩:=a.int_inv
   obtain ⟨rfl,rfl⟩:=RdFs.ints_inv t
   exact ⟨rfl,rfl⟩
theorem RdFs.bools_inv:∀{ns:List Bool} {xs:List V} {F:List Addr},RdFs K H xs (ns.map PyData.bool) F->xs=ns.map V.bl/\F=[]
 | [],_,_,h=>by cases h; exact ⟨rfl,rfl⟩
 | n::ns,_,_,h=>by
  rw[Aw] at h
  cases h with
  | cons a t =>
   obtain ⟨rfl,rfl⟩:=a.bl_inv
   obtain ⟨rfl,rfl⟩:=RdFs.bools_inv t
   exact ⟨rfl,rfl⟩
end
theorem bX:Dq (a++b)=(Dq a && Dq b):=by
 induction a with
 | nil=>simp [Dq]
 | cons x a ih=>simp [Dq,ih,Bool.and_assoc]
theorem Pc(ns:List Int):Dq (ns.map Ag)=true:=Ul (λ_=>by simp [imm]) ns
def qF:D2:=λx y P=>match x,y with
 | .dat _ (.list ds),.dat _ (.list es)=>Dq ds=true/\Dq es=true/\ds.length+es.length<=1000000/\P (.dat .ow (.list (ds++es)))
 | _,_=>False
def sJ:D2:=λx y P=>match x,y with
 | .dat _ (.list ds),.dat _ (.int k)=>Dq ds=true /\ -1000000<=k/\k<=1000000/\ds.length * k.toNat<=1000000/\P (.dat .ow (.list (Bl k.toNat ds).flatten))
 | _,_=>False
section
variable{K:PySem.W.Frag}
theorem Z3:mP K V7 qF:=by
 intro H0 X n S T x y v w F G H Q P hA hd k
 unfold qF at hd
 split at hd
 ·obtain ⟨i1,i2,hz,p⟩:=hd
  obtain ⟨b,ys,G1,rfl,hb,rb,_,_⟩:=(hA.told mem_mid).list_inv
  obtain ⟨a,xs,G2,rfl,ha,ra,_,_⟩:=(hA.told El).list_inv
  have l1:=ra.len
  have l2:=rb.len
  refine ⟨a,b,xs,ys,rfl,rfl,ha,hb,jG (by omega),λq hq=>?_⟩
  exact k _ _ _ _ (hA.drop2.newI (ra.app rb) (by rw[bX,i1,i2]; rfl) (by rw[Bn]; exact jG (by omega)) hq .ow) p
 ·exact hd.elim
theorem Y3:mP K BA sJ:=by
 intro H0 X n S T x y v w F G H Q P hA hd k
 unfold sJ at hd
 split at hd
 ·obtain ⟨i1,k0,k1,hz,p⟩:=hd
  obtain ⟨rfl,_⟩:=(hA.told mem_mid).int_inv
  obtain ⟨a,xs,G2,rfl,ha,ra,_,_⟩:=(hA.told El).list_inv
  have l1:=ra.len
  obtain rfl:=ra.imm i1
  rename_i j
  refine ⟨a,_,xs,rfl,rfl,ha,by omega,by omega,jG (by rw[l1]; exact hz),λq hq=>?_⟩
  refine k _ _ _ _ (hA.drop2.newI (ra.rep _) ?_ (by rw[qR,Nat.mul_comm]; exact jG hz) hq .ow) p
  refine nO.mpr λz hz'=>?_
  obtain ⟨l,hl,hz'⟩:=List.mem_flatten.mp hz'
  rw[(Ha.mp hl).2] at hz'
  exact nO.mp i1 z hz'
 ·exact hd.elim
end
section
variable{X:Cx}{a b:Expr}{da db:DE}{pos:Pos}
theorem Mv(ha:Em X a da)(hb:Em X b db):Em X (.BinOp a .Add b pos) (Vt qF da db):=Uc gZ Z3 ha hb
theorem bD(ha:Em X a da)(hb:Em X b db):Em X (.BinOp a .Mult b pos) (Vt sJ da db):=Uc U1 Y3 ha hb
end
abbrev DO:=DS->(Option Int->DS->Prop)->Prop
def LO(K:PySem.W.Frag)(do_:DO):TO:=λσ H Q=>∃(H0:Hp) (X:Addr->Prop) (S T:List Ent) (δ:DS) (P:Option Int->DS->Prop),vs S=σ/\Sl S δ/\At K H0 X δ.n (S++T) H/\do_ δ P /\
 ∀o δ' S' H',vs S'=σ->Sl S' δ'->At K H0 X δ'.n (S'++T) H'->P o δ'->Q o H'
abbrev AG(X:Cx)(e:Option Expr)(d:DO):Prop:=PO X e (LO X.K d)
theorem PO.imp(h:PO X e t)(k:∀σ H Q,t' σ H Q->t σ H Q):PO X e t':=λpins s σ H Q I q=>h pins s σ H Q I (k σ H Q q)
def pU:DO:=λδ P=>P none δ
def Q1(de:DE):DO:=λδ P=>de δ λx δ'=>match x with
 | .dat _ (.int i)=>P (some i) δ'
 | _=>False
section
variable{X:Cx}{e:Expr}{de:DE}{lo hi:Option Expr}{dl dh:DO}{pos p2:Pos}
theorem Ry:AG X none pU:=by
 refine PO.imp F7 λσ H Q h=>?_
 obtain ⟨H0,Y,S,T,δ,P,rfl,hS,hA,hd,k⟩:=h
 exact k _ δ S H rfl hS hA hd
theorem Rq(h:Em X e de):AG X (some e) (Q1 de):=by
 refine PO.imp (J5 h) λσ H Q h=>?_
 obtain ⟨H0,Y,S,T,δ,P,rfl,hS,hA,hd,k⟩:=h
 refine ⟨H0,Y,S,T,δ,_,rfl,hS,hA,hd,λx δ' v F S' H' e1 e2 hA' p=>?_⟩
 split at p
 ·obtain ⟨rfl,_⟩:=(hA'.told mem_mid).int_inv
  exact ⟨_,rfl,k _ δ' S' H' e1 e2 hA'.drop p⟩
 ·exact p.elim
def GW(i:Bool)(de:DE)(dl dh:DO):DE:=λδ P=>de δ λx δ1=>dl δ1 λl δ2=>dh δ2 λh δ3=>match x with
 | .dat m (.list ds)=>Yj i m (Mk ds l h) λz=>P z δ3
 | .dat m (.tuple ds)=>gK i m (Mk ds l h) λz=>P z δ3
 | _=>False
def GM(K:PySem.W.Frag):V->Option Int->Option Int->Hp->VK->Prop:=λx lo hi H Q=>Z0 K x lo hi H Q\/P4 x lo hi H Q
theorem Vz(he:Em X e de)(hl:AG X lo dl)(hh:AG X hi dh):Em X (.Subscript e (.Slice lo hi none p2) pos) (GW i de dl dh):=by
 refine PE.imp (mH (r:=GM X.K) (L5.or M9) he hl hh) λσ H Q h=>?_
 obtain ⟨H0,Y,S,T,δ,P,rfl,hS,hA,hd,k⟩:=h
 refine ⟨H0,Y,S,T,δ,_,rfl,hS,hA,hd,λx δ1 v F S1 H1 e1 e2 hA1 p1=>?_⟩
 refine ⟨H0,Y,S1,⟨some v,x,F⟩::T,δ1,_,e1,e2,hA1,p1,λl δ2 S2 H2 e3 e4 hA2 p2=>?_⟩
 refine ⟨H0,Y,S2,⟨some v,x,F⟩::T,δ2,_,e3,e4,hA2,p2,λh δ3 S3 H3 e5 e6 hA3 p3=>?_⟩
 split at p3
 ·obtain ⟨a,xs,G,rfl,ha,ra,rfl,hz⟩:=(hA3.told mem_mid).list_inv
  refine .inl ⟨a,xs,rfl,Mc.of ha,λp hp=>?_⟩
  obtain ⟨G',h1,h2⟩:=ra.cut l h
  obtain ⟨z,F',hA4,p4⟩:=hA3.newL h1 (h2.trans (Cv _ _)) (Bz (Sf _ _ _).length_le hz) hp p3
  exact k z δ3 _ F' S3 _ e5 e6 hA4 p4
 ·obtain ⟨a,xs,rfl,ha,ra,hz⟩:=(hA3.told mem_mid).tup_inv
  refine .inr ⟨a,xs,rfl,ha,λp H' hp s1=>?_⟩
  obtain ⟨G',h1,h2⟩:=ra.cut l h
  obtain ⟨z,F',hA4,p4⟩:=(hA3.grow s1 (Ak _)).oldT (h1.kp (Kp.of s1)) h2 (Bz (Sf _ _ _).length_le hz) hp p3
  exact k z δ3 _ F' S3 _ e5 e6 hA4 p4
 ·exact p3.elim
def P7(de:DE):DE:=λδ P=>de δ λx δ1=>match x with
 | .dat _ (.list ds)=>Dq ds=true/\P (.dat .ow (.list ds.reverse)) δ1
 | _=>False
theorem pJ(h:Dq ds=true):Dq ds.reverse=true:=nO.mpr λx hx=>nO.mp h x (Mx.mp hx)
theorem G8(he:Em X e de)(hk:PE X k tk)(htk:∀σ H Q,Q (.int (-1)) H->tk σ H Q):Em X (.Subscript e (.Slice none none (some k) p2) pos) (P7 de):=by
 refine PE.imp (C5 he hk htk) λσ H Q h=>?_
 obtain ⟨H0,Y,S,T,δ,P,rfl,hS,hA,hd,kk⟩:=h
 refine ⟨H0,Y,S,T,δ,_,rfl,hS,hA,hd,λx δ1 v F S1 H1 e1 e2 hA1 p1=>?_⟩
 split at p1
 ·obtain ⟨a,xs,G,rfl,ha,ra,rfl,hz⟩:=(hA1.told mem_mid).list_inv
  obtain rfl:=ra.imm p1.1
  refine ⟨a,xs,rfl,Mc.of ha,λp hp=>?_⟩
  exact kk _ δ1 _ _ S1 _ e1 e2 (hA1.drop.newI ra.rev (pJ p1.1) (by rw[Ia]; exact hz) hp .ow) p1.2
 ·exact p1.elim
end
end DL
namespace NdS
open PySem PyProof.Rows
end NdS
namespace Nd
open PySem PySem.Spec PyProof.Rows L2 NdS
end Nd
namespace DL
open PySem L2 Nd
def BL(x:Int):List Int->List Int
 | []=>[x]
 | y::l=>if x<y then x::y::l else if x=y then y::l else y::BL x l
def V4(ns:List Int):List Int:=ns.foldr BL []
abbrev DC:=List DV->(DV->Prop)->Prop
def Na(K:PySem.W.Frag)(r:List V->Hp->VK->Prop)(rd:DC):Prop:=∀(H0:Hp) (X:Addr->Prop) (n:Nat) (S T As:List Ent) (us:List V) (H:Hp) (Q:VK) (P:DV->Prop),
 As.map Ent.v=us.map some->At K H0 X n (S++(As++T)) H->rd (As.map Ent.x) P->(∀z u F' H',At K H0 X n (S++⟨some u,z,F'⟩::T) H'->P z->Q u H')->r us H Q
def AL(rd:DC)(da:DA):DE:=λδ P=>da δ λxs δ1=>rd xs λz=>P z δ1
section
variable{X:Cx}{x:Str}{p pos:Pos}{e:Expr}{es:List Expr}{da:DA}{id T:String}{r:List V->Hp->VK->Prop}{rd:DC}
theorem rB(o:Na K r rd):∀σ H Q,LE K (AL rd da) σ H Q->EV r (LA K da) σ H Q:=by
 intro σ H Q h
 obtain ⟨H0,Y,S,T,δ,P,rfl,hS,hA,hd,k⟩:=h
 refine ⟨H0,Y,S,T,δ,_,rfl,hS,hA,hd,λxs δ' As us S' H' e1 e2 ex eu hA' p=>?_⟩
 subst ex
 exact o H0 Y δ'.n S' T As us H' Q _ eu hA' p λz u F' H'' hA3 p3=>k z δ' u F' S' H'' e1 e2 hA3 p3
theorem Dj(hc:Ld X (.builtin id) r)(o:Na X.K r rd)(hg:Gl X x)(hm:X.mg x=none)(hv:Jt x=some (.builtin id))(ha:jJ X (e::es) da)(hn:x ≠ "__name__" := by decide)(hdb:(x == ("__debug__" : Str))=false:=by decide)(he:Bq (e::es) X.env=(false,eval e X.env)::Bq es X.env:=by rfl)(hpl:(Gu pos (Bq es X.env)).any (·.1)=false:=by rfl):Em X (.Call (.Name x p) (e::es) [] pos) (AL rd da) :=
 PE.imp (cE hc hg hm hv ha hn hdb he hpl) (rB o)
theorem Jz(hc:Ld X (.type T) r)(o:Na X.K r rd)(hg:Gl X x)(hm:X.mg x=none)(hv:Jt x=some (.type T))(ha:jJ X (e::es) da)(hn:x ≠ "__name__" := by decide)(hdb:(x == ("__debug__" : Str))=false:=by decide)(he:Bq (e::es) X.env=(false,eval e X.env)::Bq es X.env:=by rfl)(hpl:(Gu pos (Bq es X.env)).any (·.1)=false:=by rfl):Em X (.Call (.Name x p) (e::es) [] pos) (AL rd da) :=
 PE.imp (sY hc hg hm hv ha hn hdb he hpl) (rB o)
end
theorem R9{α β:Type}{f:α->β}{l:List α}{x:β}(h:l.map f=[x]):∃a,l=[a]/\f a=x:=by
 cases l with
 | nil=>cases h
 | cons a t =>
  obtain ⟨h1,h2⟩:=Do h
  exact ⟨a,by rw[List.map_eq_nil_iff.mp h2],h1⟩
theorem EL{α β:Type}{f:α->β}{l:List α}{x y:β}(h:l.map f=[x,y]):∃a b,l=[a,b]/\f a=x/\f b=y:=by
 cases l with
 | nil=>cases h
 | cons a t =>
  obtain ⟨h1,h2⟩:=Do h
  obtain ⟨b,rfl,h3⟩:=R9 h2
  exact ⟨a,b,rfl,h1,h3⟩
theorem Gh(eu:As.map Ent.v=us.map some)(hA:At K H0 X n (S++(As++T)) H)(ex:As.map Ent.x=[x]):∃v F,us=[v]/\At K H0 X n (S++⟨some v,x,F⟩::T) H:=by
 obtain ⟨⟨v,y,F⟩,rfl,h1⟩:=R9 ex
 obtain ⟨u,rfl,h2⟩:=R9 eu.symm
 have h1':y=x:=h1
 have h2':some u=v:=h2
 subst h1' h2'
 exact ⟨u,F,rfl,hA⟩
theorem Vo(eu:As.map Ent.v=us.map some)(hA:At K H0 X n (S++(As++T)) H)(ex:As.map Ent.x=[x,y]):∃v F w G,us=[v,w]/\At K H0 X n (S++⟨some v,x,F⟩::⟨some w,y,G⟩::T) H:=by
 obtain ⟨⟨v,x',F⟩,⟨w,y',G⟩,rfl,h1,h2⟩:=EL ex
 obtain ⟨u,u',rfl,h3,h4⟩:=EL eu.symm
 have h1':x'=x:=h1
 have h2':y'=y:=h2
 have h3':some u=v:=h3
 have h4':some u'=w:=h4
 subst h1' h2' h3' h4'
 exact ⟨u,F,u',G,rfl,hA⟩
def rY:DC:=λxs P=>match xs with
 | [.dat _ (.list ds)]=>P (.dat .ow (.int ds.length))
 | [.dat _ (.tuple ds)]=>P (.dat .ow (.int ds.length))
 | [.dat _ (.str z)]=>z.length<=1000000/\P (.dat .ow (.int z.length))
 | _=>False
def pP(i:Bool):DC:=λxs P=>match xs with
 | [.dat m (.list ds)]=>Yj i m ds P
 | [.dat m (.tuple ds)]=>Yj i m ds P
 | _=>False
def iZ(i:Bool):DC:=λxs P=>match xs with
 | [.dat m (.list ds)]=>gK i m ds P
 | [.dat m (.tuple ds)]=>P (.dat m (.tuple ds))
 | _=>False
def i7:DC:=λxs P=>match xs with
 | [.dat _ (.int i)]=>P (.dat .ow (.int i))
 | [.dat _ (.bool b)]=>P (.dat .ow (.int (if b=true then 1 else 0)))
 | _=>False
def nH:DC:=λxs P=>match xs with
 | [.dat _ (.int i),.dat _ (.int j)]=>P (.dat .ow (.int (if j > i then j else i)))
 | _=>False
def oS:DC:=λxs P=>match xs with
 | [.dat _ (.int i),.dat _ (.int j)]=>P (.dat .ow (.int (if j<i then j else i)))
 | _=>False
def pA:DC:=λxs P=>match xs with
 | [.dat _ (.list ds)]=>∃ns:List Int,ds=ns.map Ag/\ns≠[]/\∀M∈ns,(∀x∈ns,M<=x)->P (.dat .ow (.int M))
 | _=>False
def zS:DC:=λxs P=>match xs with
 | [.dat _ (.list ds)]=>∃bs:List Bool,ds=bs.map PyData.bool/\P (.dat .ow (.bool (bs.all id)))
 | _=>False
def gQ:Ac->String
 | .none => "NoneType"
 | .bool _ => "bool"
 | .int _ => "int"
 | .str _ => "str"
 | .list _ => "list"
 | .tuple _ => "tuple"
 | .dict _ => "dict"
def Mt(d:Ac)(n:String):Bool:=gQ d == n || (gQ d == "bool" && n == "int")
def wJ:DC:=λxs P=>match xs with
 | [.dat _ d,.val (.ty n)]=>(n = "int" \/ n = "bool" \/ n = "str" \/ n = "list" \/ n = "tuple")/\P (.dat .ow (.bool (Mt d n)))
 | _=>False
def wC:DC:=λxs P=>match xs with
 | [.dat _ d]=>(∃b,b<=400/\Nk b d/\(b+12) * Oe d<=Au)/\d.depth<=90/\P (.dat .ow (.str (cB d)))
 | _=>False
section
variable{K:PySem.W.Frag}
theorem Ly:Na K (λxs H Q=>∃x n,xs=[x]/\CY K x H n/\Q (.int n) H) rY:=by
 intro H0 X n S T As us H Q P eu hA hd k
 unfold rY at hd
 split at hd
 ·rename_i ex
  obtain ⟨v,F,rfl,hA⟩:=Gh eu hA ex
  obtain ⟨a,xs,G,rfl,ha,ra,_,_⟩:=(hA.told mem_mid).list_inv
  exact ⟨_,_,rfl,.inl ⟨xs,Mc.of ha,ra.len.symm⟩,k _ _ [] H (hA.drop.pushI (.int _)) hd⟩
 ·rename_i ex
  obtain ⟨v,F,rfl,hA⟩:=Gh eu hA ex
  obtain ⟨a,xs,rfl,ha,ra,_⟩:=(hA.told mem_mid).tup_inv
  exact ⟨_,_,rfl,.inr ⟨xs,Uh.of ha,ra.len.symm⟩,k _ _ [] H (hA.drop.pushI (.int _)) hd⟩
 ·rename_i ex
  obtain ⟨v,F,rfl,hA⟩:=Gh eu hA ex
  obtain ⟨rfl,_⟩:=(hA.told mem_mid).str_inv
  exact ⟨_,_,rfl,⟨jG hd.1,rfl⟩,k _ _ [] H (hA.drop.pushI (.int _)) hd.2⟩
 ·exact hd.elim
theorem qA:Na K (O9 K) (pP i):=by
 intro H0 X n S T As us H Q P eu hA hd k
 unfold pP at hd
 split at hd
 ·rename_i ex
  obtain ⟨v,F,rfl,hA⟩:=Gh eu hA ex
  obtain ⟨a,xs,G,rfl,ha,ra,rfl,hz⟩:=(hA.told mem_mid).list_inv
  refine ⟨a,xs,rfl,.inl (Mc.of ha),λl hl=>?_⟩
  obtain ⟨z,F',h1,h2⟩:=hA.newL ra (Cv _ _) hz hl hd
  exact k _ _ _ _ h1 h2
 ·rename_i ex
  obtain ⟨v,F,rfl,hA⟩:=Gh eu hA ex
  obtain ⟨a,xs,rfl,ha,ra,hz⟩:=(hA.told mem_mid).tup_inv
  refine ⟨a,xs,rfl,.inr (Uh.of ha),λl hl=>?_⟩
  obtain ⟨z,F',h1,h2⟩:=hA.newL ra (Cr _) hz hl hd
  exact k _ _ _ _ h1 h2
 ·exact hd.elim
theorem wX:Na K (P9 K) (iZ i):=by
 intro H0 X n S T As us H Q P eu hA hd k
 unfold iZ at hd
 split at hd
 ·rename_i ex
  obtain ⟨v,F,rfl,hA⟩:=Gh eu hA ex
  obtain ⟨a,xs,G,rfl,ha,ra,rfl,hz⟩:=(hA.told mem_mid).list_inv
  refine ⟨a,xs,rfl,.inl ⟨Mc.of ha,λl hl=>?_⟩⟩
  obtain ⟨z,F',h1,h2⟩:=hA.newT ra (Cv _ _) hz hl hd
  exact k _ _ _ _ h1 h2
 ·rename_i ex
  obtain ⟨v,F,rfl,hA⟩:=Gh eu hA ex
  obtain ⟨a,xs,rfl,ha,ra,hz⟩:=(hA.told mem_mid).tup_inv
  exact ⟨a,xs,rfl,.inr ⟨Uh.of ha,k _ _ F H hA hd⟩⟩
 ·exact hd.elim
theorem oB:Na K (λxs H Q=>(∃i,xs=[V.int i]/\Q (.int i) H)\/∃k,xs=[V.bl k]/\Q (.int (if k then 1 else 0)) H) i7:=by
 intro H0 X n S T As us H Q P eu hA hd k
 unfold i7 at hd
 split at hd
 ·rename_i ex
  obtain ⟨v,F,rfl,hA⟩:=Gh eu hA ex
  obtain ⟨rfl,_⟩:=(hA.told mem_mid).int_inv
  exact .inl ⟨_,rfl,k _ _ [] H (hA.drop.pushI (.int _)) hd⟩
 ·rename_i ex
  obtain ⟨v,F,rfl,hA⟩:=Gh eu hA ex
  obtain ⟨rfl,_⟩:=(hA.told mem_mid).bl_inv
  exact .inr ⟨_,rfl,k _ _ [] H (hA.drop.pushI (.int _)) hd⟩
 ·exact hd.elim
theorem Zh:Na K (λxs H Q=>∃i j,xs=[V.int i,V.int j]/\Q (.int (if j > i then j else i)) H) nH:=by
 intro H0 X n S T As us H Q P eu hA hd k
 unfold nH at hd
 split at hd
 ·rename_i ex
  obtain ⟨v,F,w,G,rfl,hA⟩:=Vo eu hA ex
  obtain ⟨rfl,_⟩:=(hA.told mem_mid).int_inv
  obtain ⟨rfl,_⟩:=(hA.told El).int_inv
  exact ⟨_,_,rfl,k _ _ [] H (hA.drop2.pushI (.int _)) hd⟩
 ·exact hd.elim
theorem E4:Na K (λxs H Q=>∃i j,xs=[V.int i,V.int j]/\Q (.int (if j<i then j else i)) H) oS:=by
 intro H0 X n S T As us H Q P eu hA hd k
 unfold oS at hd
 split at hd
 ·rename_i ex
  obtain ⟨v,F,w,G,rfl,hA⟩:=Vo eu hA ex
  obtain ⟨rfl,_⟩:=(hA.told mem_mid).int_inv
  obtain ⟨rfl,_⟩:=(hA.told El).int_inv
  exact ⟨_,_,rfl,k _ _ [] H (hA.drop2.pushI (.int _)) hd⟩
 ·exact hd.elim
theorem rZ:Na K (N0 K) pA:=by
 intro H0 X n S T As us H Q P eu hA hd k
 unfold pA at hd
 split at hd
 ·rename_i ex
  obtain ⟨v,F,rfl,hA⟩:=Gh eu hA ex
  obtain ⟨ns,rfl,h0,h1⟩:=hd
  obtain ⟨a,xs,G,rfl,ha,ra,rfl,hz⟩:=(hA.told mem_mid).list_inv
  obtain ⟨rfl,_⟩:=ra.ints_inv
  exact ⟨a,ns,rfl,Mc.of ha,h0,λM hM hm=>k _ _ [] H (hA.drop.pushI (.int _)) (h1 M hM hm)⟩
 ·exact hd.elim
theorem nB:Na K (λxs H Q=>∃(p:Addr) (bs:List Bool),xs=[.ref p]/\Mc K H p (bs.map V.bl)/\Q (.bl (bs.all id)) H) zS:=by
 intro H0 X n S T As us H Q P eu hA hd k
 unfold zS at hd
 split at hd
 ·rename_i ex
  obtain ⟨v,F,rfl,hA⟩:=Gh eu hA ex
  obtain ⟨bs,rfl,h1⟩:=hd
  obtain ⟨a,xs,G,rfl,ha,ra,rfl,hz⟩:=(hA.told mem_mid).list_inv
  obtain ⟨rfl,_⟩:=ra.bools_inv
  exact ⟨a,bs,rfl,Mc.of ha,k _ _ [] H (hA.drop.pushI (.bl _)) h1⟩
 ·exact hd.elim
theorem I0(h1:(Hs T == Hs n)=false)(h2:PySem.W.kitMeta n=true)(h3:(fastBuiltinMro T).map (λx=>x.contains (Hs n))=some b):PySem.W.kitOne K (.type T) (.type n)=some b:=V9 h1 h2 h3
theorem C4(hn:n = "int" \/ n = "bool" \/ n = "str" \/ n = "list" \/ n = "tuple"):PySem.W.kitOne K (.type (gQ d)) (.type n)=some (Mt d n):=by
 have main:∀T:String,(T = "NoneType" \/ T = "bool" \/ T = "int" \/ T = "str" \/ T = "list" \/ T = "tuple" \/ T = "dict")->PySem.W.kitOne K (.type T) (.type n)=some (T == n || (T == "bool" && n == "int")):=by
  intro T hT
  rcases hT with rfl | rfl | rfl | rfl | rfl | rfl | rfl <;> rcases hn with rfl | rfl | rfl | rfl | rfl <;> first | exact U8 | exact I0 (by decide +kernel) (by decide +kernel) (by decide +kernel)
 unfold Mt
 refine main _ ?_
 cases d <;> simp [gQ]
theorem Uq:Na K (HN K) wJ:=by
 intro H0 X n S T As us H Q P eu hA hd k
 unfold wJ at hd
 split at hd
 ·rename_i ex
  obtain ⟨v,F,w,G,rfl,hA⟩:=Vo eu hA ex
  have hw:w=.ty _:=Bp (hA.ok _ El).1
  subst hw
  have r:=hA.told mem_mid
  refine ⟨v,_,.type (gQ _),_,rfl,?_,C4 hd.1,k _ _ [] H (hA.drop2.pushI (.bl _)) hd.2⟩
  ·cases r with
   | non=>exact .non
   | bl b=>exact .bl b
   | int i=>exact .int i
   | str x=>exact .str x
   | lst h l hs=>exact .lst h
   | tup h l hs=>exact .tup h
   | dic h e hs=>exact .dT h
   | dik h e hs=>exact .dK h
   | dnm h e hs=>exact .dT h
 ·exact hd.elim
theorem pL:Na K (EA K) wC:=by
 intro H0 X n S T As us H Q P eu hA hd k
 unfold wC at hd
 split at hd
 ·rename_i ex
  obtain ⟨v,F,rfl,hA⟩:=Gh eu hA ex
  exact ⟨_,_,rfl,⟨(hA.told mem_mid).rd hd.2.1,hd.1,hd.2.1⟩,k _ _ [] H (hA.drop.pushI (.str _)) hd.2.2⟩
 ·exact hd.elim
end
def dV(v:V):DE:=λδ P=>P (.val v) δ
section
variable{X:Cx}{e:Expr}
theorem X1(h:PE X e (tC v)):Em X e (dV v):=by
 refine PE.imp h λσ H Q h=>?_
 obtain ⟨H0,Y,S,T,δ,P,rfl,hS,hA,hd,k⟩:=h
 exact k _ δ v [] S H rfl hS ((hA.push (e:=⟨some v,.val v,[]⟩) ⟨rfl,rfl⟩ (λf _=>⟨λ_ a ha=>(nomatch ha),λ_ a _=>Av⟩) (λa ha=>(nomatch ha))).tomid) hd
theorem Zv{pos:Pos}(hg:Gl X x)(hm:X.mg x=none)(hv:Jt x=some (.type n))(hn:x ≠ "__name__" := by decide)(hd:(x == ("__debug__" : Str))=false:=by decide):Em X (.Name x pos) (dV (.ty n)):=X1 (C7 hg hm hv rfl hn hd)
end
end DL
namespace Nd
open PySem PySem.Spec PyProof.Rows L2
theorem tJ(I l1 l2:Nat)(h1:l1<I)(h2:l2<I):Rg (I+4) (I+2) (I+3) I (I+1) l1 l2:=by
 constructor <;> (intro e; have e':(_:Nat)=_:=e; omega)
end Nd
namespace Nd
open PySem PySem.Spec PyProof.Rows L2
open AutoSeq1 (wpAny_loadPart')
end Nd
namespace DL
open PySem L2 Nd
def dB(de:DE):DT:=λδ P=>de δ λx δ'=>match x with
 | .dat _ (.bool b)=>P b δ'
 | _=>False
def O8(dt:DT):DT:=λδ P=>dt δ λb δ'=>P (!b) δ'
def Q7(dt du:DT):DT:=λδ P=>dt δ λb δ'=>match b with
 | true=>du δ' P
 | false=>P false δ'
def BR(dt du:DT):DT:=λδ P=>dt δ λb δ'=>match b with
 | true=>P true δ'
 | false=>du δ' P
def BB(de:DE):DE:=λδ P=>de δ λx δ'=>match x with
 | .dat _ (.bool b)=>P (.dat .ow (.bool (!b))) δ'
 | _=>False
def CS(da db:DE):DE:=λδ P=>da δ λx δ'=>match x with
 | .dat _ (.bool true)=>db δ' P
 | .dat _ (.bool false)=>P (.dat .ow (.bool false)) δ'
 | _=>False
def EH(de:DE):DE:=λδ P=>de δ λx δ'=>match x with
 | .dat _ (.int i)=>P (.dat .ow (.int (-i))) δ'
 | _=>False
section
variable{K:PySem.W.Frag}{de:DE}
theorem CZ:∀σ H Q,LT K (dB de) σ H Q->LE K de σ H λx H'=>∃k,x=.bl k/\Q k H':=by
 intro σ H Q h
 obtain ⟨H0,Y,S,T,δ,P,rfl,hS,hA,hd,k⟩:=h
 refine ⟨H0,Y,S,T,δ,_,rfl,hS,hA,hd,λx δ1 v F S1 H1 e1 e2 hA1 p1=>?_⟩
 split at p1
 ·obtain ⟨rfl,_⟩:=(hA1.told mem_mid).bl_inv
  exact ⟨_,rfl,k _ δ1 S1 H1 e1 e2 hA1.drop p1⟩
 ·exact p1.elim
end
section
variable{X:Cx}{a b c e:Expr}{da db de:DE}{dt du:DT}{pos:Pos}{Gj:List Expr}
theorem Pq(h:Em X e de)(he:∀whole,isTrue e X.env whole=(do let v <- whole; standAt e.pos; holding [v] (truthy v)):=by intro _; rfl):mO X e (dB de):=PT.imp (p8 h he) CZ
theorem aX(ho:Wc X (Hy op) r)(o:mP X.K r rd)(ha:Em X a da)(hb:Em X b db)(hm:Gd op b=false):mO X (.Compare a [op] [b] pos) (dB (Vt rd da db)):=by
 refine PT.imp (rH ho ha hb hm) λσ H Q h=>?_
 exact op_le o _ _ _ (CZ σ H Q h)
theorem EK(ha:Em X a da)(hb:Em X b db):mO X (.Compare a [.Lt] [b] pos) (dB (Vt rdLt da db)):=aX BD (Ye λ_ _ _=>.bl _) ha hb (Qu _)
theorem CB(ha:Em X a da)(hb:Em X b db):mO X (.Compare a [.GtE] [b] pos) (dB (Vt rdGe da db)):=aX yX (Ye λ_ _ _=>.bl _) ha hb (Qu _)
theorem zB(hu:X.A.units+64<cLine)(ha:Em X a da)(hb:Em X b db):mO X (.Compare a [.Eq] [b] pos) (dB (Vt (fW false) da db)):=aX (xS hu) P6 ha hb (Qu _)
theorem Yk(hu:X.A.units+64<cLine)(ha:Em X a da)(hb:Em X b db):mO X (.Compare a [.NotEq] [b] pos) (dB (Vt (fW true) da db)):=aX (U6 hu) DR ha hb (Qu _)
theorem b0(hu:X.A.units+64<cLine)(ha:Em X a da)(hb:Em X b db)(hm:Gd .NotIn b=false:=by with_unfolding_all rfl):mO X (.Compare a [.NotIn] [b] pos) (dB (Vt (tP true) da db)):=aX (uE hu) Q2 ha hb hm
theorem Xr(h:mO X a dt):mO X (.UnaryOp .Not a pos) (O8 dt):=by
 refine PT.imp (W7 h) λσ H Q h=>?_
 obtain ⟨H0,Y,S,T,δ,P,rfl,hS,hA,hd,k⟩:=h
 exact ⟨H0,Y,S,T,δ,_,rfl,hS,hA,hd,λb δ' S' H' e1 e2 hA' p=>k _ δ' S' H' e1 e2 hA' p⟩
theorem qH(h:mO X a dt):Y2 X (.BoolOp .And [a] pos) dt:=A5 h
theorem fX(h:mO X a dt):Y2 X (.BoolOp .Or [a] pos) dt:=R1 h
theorem zM(h:mO X a dt)(hb:Y2 X (.BoolOp .And (b::Gj) pos) du):Y2 X (.BoolOp .And (a::b::Gj) pos) (Q7 dt du):=by
 refine PW.imp (S5 h hb) λσ H Q h=>?_
 obtain ⟨H0,Y,S,T,δ,P,rfl,hS,hA,hd,k⟩:=h
 refine ⟨H0,Y,S,T,δ,_,rfl,hS,hA,hd,λb δ' S' H' e1 e2 hA' p=>?_⟩
 cases b with
 | true=>exact pC ⟨H0,Y,S',T,δ',P,e1,e2,hA',p,k⟩
 | false=>exact uQ (k _ δ' S' H' e1 e2 hA' p)
theorem bT(h:mO X a dt)(hb:Y2 X (.BoolOp .Or (b::Gj) pos) du):Y2 X (.BoolOp .Or (a::b::Gj) pos) (BR dt du):=by
 refine PW.imp (AS h hb) λσ H Q h=>?_
 obtain ⟨H0,Y,S,T,δ,P,rfl,hS,hA,hd,k⟩:=h
 refine ⟨H0,Y,S,T,δ,_,rfl,hS,hA,hd,λb δ' S' H' e1 e2 hA' p=>?_⟩
 cases b with
 | true=>exact pC (k _ δ' S' H' e1 e2 hA' p)
 | false=>exact uQ ⟨H0,Y,S',T,δ',P,e1,e2,hA',p,k⟩
theorem sR(h:Y2 X a dt):mO X a dt:=PW.pt h
theorem wG(h:Em X a da):Em X (.BoolOp op [a] pos) da:=S8 h
theorem j9(h:Em X a da)(hb:Em X (.BoolOp .And (b::Gj) pos) db):Em X (.BoolOp .And (a::b::Gj) pos) (CS da db):=by
 refine PE.imp (Z8 h hb) λσ H Q h=>?_
 obtain ⟨H0,Y,S,T,δ,P,rfl,hS,hA,hd,k⟩:=h
 refine ⟨H0,Y,S,T,δ,_,rfl,hS,hA,hd,λx δ1 v F S1 H1 e1 e2 hA1 p1=>?_⟩
 split at p1
 ·obtain ⟨rfl,_⟩:=(hA1.told mem_mid).bl_inv
  exact ⟨_,rfl,pC ⟨H0,Y,S1,T,δ1,P,e1,e2,hA1.drop,p1,k⟩⟩
 ·obtain ⟨rfl,_⟩:=(hA1.told mem_mid).bl_inv
  exact ⟨_,rfl,uQ (k _ δ1 _ [] S1 H1 e1 e2 (hA1.drop.pushI (.bl _)) p1)⟩
 ·exact p1.elim
theorem T9(h:Em X a da):Em X (.UnaryOp .Not a pos) (BB da):=by
 refine PE.imp (S0 h) λσ H Q h=>?_
 obtain ⟨H0,Y,S,T,δ,P,rfl,hS,hA,hd,k⟩:=h
 refine ⟨H0,Y,S,T,δ,_,rfl,hS,hA,hd,λx δ1 v F S1 H1 e1 e2 hA1 p1=>?_⟩
 split at p1
 ·obtain ⟨rfl,_⟩:=(hA1.told mem_mid).bl_inv
  exact ⟨_,rfl,k _ δ1 _ [] S1 H1 e1 e2 (hA1.drop.pushI (.bl _)) p1⟩
 ·exact p1.elim
theorem AD(h:Em X a da):Em X (.UnaryOp .USub a pos) (EH da):=by
 refine PE.imp (Q5 wM h) λσ H Q h=>?_
 obtain ⟨H0,Y,S,T,δ,P,rfl,hS,hA,hd,k⟩:=h
 refine ⟨H0,Y,S,T,δ,_,rfl,hS,hA,hd,λx δ1 v F S1 H1 e1 e2 hA1 p1=>?_⟩
 split at p1
 ·obtain ⟨rfl,_⟩:=(hA1.told mem_mid).int_inv
  exact ⟨_,rfl,k _ δ1 _ [] S1 H1 e1 e2 (hA1.drop.pushI (.int _)) p1⟩
 ·exact p1.elim
end
theorem PS.impD(h:PS X st t)(k:∀D σ H,t' D σ H->t D σ H):PS X st t':=λpins s σ H D I q=>h pins s σ H D I (k D σ H q)
theorem rO.impD(h:rO X st t)(k:∀D σ H,t' D σ H->t D σ H):rO X st t':=λpins s σ H D I q=>h pins s σ H D I (k D σ H q)
def N5:DB:=λD δ=>D.nx δ
def ES(t u:DB):DB:=λD δ=>t { D with nx:=λδ'=>u D δ' } δ
def CK(de:DE):DB:=λD δ=>de δ D.rt
def HL(dt:DT)(t u:DB):DB:=λD δ=>dt δ λb δ'=>match b with
 | true=>t D δ'
 | false=>u D δ'
def sP(de:DE)(dg:DG):DB:=λD δ=>de δ λx δ'=>dg x δ' D.nx
section
variable{X:Cx}{st:Stmt}{e tg c:Expr}{t u:DB}{Gj:List Stmt}{de:DE}{dg:DG}{dt:DT}{pos:Pos}
theorem Uo:Wx X [] N5:=by
 refine rO.impD gC λD σ H h=>?_
 obtain ⟨H0,Y,S,T,δ,P,rfl,hS,hT,hA,hd,k1,k2,k3,k4⟩:=h
 exact k1 δ S H hS hA hd
theorem Da(h1:qB X st t)(h2:Wx X Gj u):Wx X (st::Gj) (ES t u):=by
 refine rO.impD (Hx h1 h2) λD σ H h=>?_
 obtain ⟨H0,Y,S,T,δ,P,rfl,hS,hT,hA,hd,k1,k2,k3,k4⟩:=h
 exact ⟨H0,Y,S,T,δ,_,rfl,hS,hT,hA,hd,λδ' S' H' e2 hA' p=>⟨H0,Y,S',T,δ',P,rfl,e2,hT,hA',p,k1,k2,k3,k4⟩,k2,k3,k4⟩
theorem Eo(h1:qB X st t):Wx X [st] t:=Ni h1
theorem Gg(he:Em X e de):qB X (.Return (some e) pos) (CK de):=by
 refine PS.impD (Um he) λD σ H h=>?_
 obtain ⟨H0,Y,S,T,δ,P,rfl,hS,hT,hA,hd,k1,k2,k3,k4⟩:=h
 exact ⟨H0,Y,S,T,δ,_,rfl,hS,hA,hd,λx δ' v F S' H' e1 e2 hA' p=>k2 x δ' v F S' H' e2 hA' p⟩
theorem bE(hc:mO X c dt)(ha:Wx X a t)(hb:Wx X b u):qB X (.If c a b pos) (HL dt t u):=by
 refine PS.impD (yE hc ha hb) λD σ H h=>?_
 obtain ⟨H0,Y,S,T,δ,P,rfl,hS,hT,hA,hd,k1,k2,k3,k4⟩:=h
 refine ⟨H0,Y,S,T,δ,_,rfl,hS,hA,hd,λb δ' S' H' e1 e2 hA' p=>?_⟩
 cases b with
 | true=>exact pC ⟨H0,Y,S',T,δ',P,e1,e2,hT,hA',p,k1,k2,k3,k4⟩
 | false=>exact uQ ⟨H0,Y,S',T,δ',P,e1,e2,hT,hA',p,k1,k2,k3,k4⟩
theorem iT(h1:∀σ H Q,LE K de σ H Q->te σ H Q)(h2:∀v σ H Q,LG K dg v σ H Q->g v σ H Q):∀D σ H,LS K (sP de dg) D σ H->J2 te g D σ H:=by
 intro D σ H h
 obtain ⟨H0,Y,S,T,δ,P,rfl,hS,hT,hA,hd,k1,k2,k3,k4⟩:=h
 refine h1 _ _ _ ⟨H0,Y,S,T,δ,_,rfl,hS,hA,hd,λx δ' v F S' H' e1 e2 hA' p=>?_⟩
 exact h2 _ _ _ _ ⟨H0,Y,S',T,δ',x,F,P.nx,e1,e2,hA',p,λδ2 S2 H2 e3 hA2 q=>k1 δ2 S2 H2 e3 hA2 q⟩
end
def Qt(i:Nat):DG:=λx δ P=>match x with
 | .dat .pk _=>False
 | .dat _ d=>P ⟨δ.sl.set i (.dat .sh d),δ.n⟩
 | .val v=>P ⟨δ.sl.set i (.val v),δ.n⟩
 | .drw=>P ⟨δ.sl.set i .drw,δ.n⟩
 | .dT kvs=>P ⟨δ.sl.set i (.dT kvs),δ.n⟩
 | _=>False
def dY(i:Nat):DG:=λx δ P=>match x with
 | .dat .ow d=>P ⟨δ.sl.set i (.dat .ow d),δ.n⟩
 | .dat .tp d=>P ⟨δ.sl.set i (.dat .tp d),δ.n⟩
 | _=>False
theorem At.store(h:At K H0 X n (S++e::T) H):At K H0 X n (S.set i e++T) H:=by
 by_cases hi:i<S.length
 ·have hx:S[i]? = some S[i]:=by simp [hi]
  have p:(S++e::T).Perm (S[i]::(S.set i e++T)):=by
   refine Gb.trans ?_
   rw[<- Fc,<- Fc]
   exact (Vm hx).append_right T
  exact (h.perm p).sub (Cv _ _)
 ·rw[List.set_eq_of_length_le (by omega)]
  exact h.drop
theorem nQ:vs (S.set i ⟨some v,x,F⟩)=(vs S).set i (some v):=by
 unfold vs
 rw[Es]
theorem pO(h:Sl S δ):Sl (S.set i ⟨some v,x,F⟩) ⟨δ.sl.set i x,n⟩:=by
 unfold Sl at h ⊢
 rw[Es,h]
theorem fY:∀v σ H Q,LG K (Qt i) v σ H Q->Xz i v σ H Q:=by
 intro v σ H Q h
 obtain ⟨H0,Y,S,T,δ,x,F,P,rfl,hS,hA,hd,k⟩:=h
 show Q ((vs S).set i (some v)) H
 have fin:∀y,At K H0 Y δ.n (S++⟨some v,y,F⟩::T) H->P ⟨δ.sl.set i y,δ.n⟩->Q ((vs S).set i (some v)) H:=λy hA' p=>by
  rw[<- nQ (x:=y) (F:=F)]
  exact k _ _ H (pO hS) hA'.store p
 unfold Qt at hd
 split at hd
 ·exact hd.elim
 ·rename_i m d hm
  refine fin _ ?_ hd
  refine (hA.mid.wk ?_).tomid
  cases m <;> first | rfl | exact (hm rfl).elim
 ·exact fin _ hA hd
 ·exact fin _ hA hd
 ·exact fin _ hA hd
 ·exact hd.elim
theorem wI:∀v σ H Q,LG K (dY i) v σ H Q->Xz i v σ H Q:=by
 intro v σ H Q h
 obtain ⟨H0,Y,S,T,δ,x,F,P,rfl,hS,hA,hd,k⟩:=h
 show Q ((vs S).set i (some v)) H
 have fin:∀y,At K H0 Y δ.n (S++⟨some v,y,F⟩::T) H->P ⟨δ.sl.set i y,δ.n⟩->Q ((vs S).set i (some v)) H:=λy hA' p=>by
  rw[<- nQ (x:=y) (F:=F)]
  exact k _ _ H (pO hS) hA'.store p
 unfold dY at hd
 split at hd
 ·exact fin _ hA hd
 ·exact fin _ hA hd
 ·exact hd.elim
section
variable{X:Cx}{pos:Pos}
theorem Me(hN:X.N.Nodup)(hi:X.N[i]? = some x)(hx:Loc X.env.scope x)(hf:X.fn x=true\/X.env.scope.names.lookup x=some .local:=by first | exact .inl rfl | exact .inr rfl | assumption):EM X (.Name x pos) (Qt i):=PG.imp (Ow hN hi hx hf) fY
theorem Gz(hN:X.N.Nodup)(hi:X.N[i]? = some x)(hx:Loc X.env.scope x)(he:Em X e de)(hs:Kd e (some (.Name x pos')) pos.line X.env=pure false:=by rfl)(hf:X.fn x=true\/X.env.scope.names.lookup x=some .local:=by first | exact .inl rfl | exact .inr rfl | assumption):qB X (.Assign [.Name x pos'] e pos) (sP de (Qt i)):=PS.impD (Pp hN hi hx he hs hf) (iT (λ_ _ _ h=>h) fY)
theorem Qs(hN:X.N.Nodup)(hi:X.N[i]? = some x)(hx:Loc X.env.scope x)(he:Em X e de)(hs:Kd e (some (.Name x pos')) pos.line X.env=pure false:=by rfl)(hf:X.fn x=true\/X.env.scope.names.lookup x=some .local:=by first | exact .inl rfl | exact .inr rfl | assumption):qB X (.Assign [.Name x pos'] e pos) (sP de (dY i)):=PS.impD (Pp hN hi hx he hs hf) (iT (λ_ _ _ h=>h) wI)
end
def j6:zH:=λxs δ P=>match xs with
 | []=>P δ
 | _=>False
def qT(g:DG)(gs:zH):zH:=λxs δ P=>match xs with
 | x::r=>g x δ λδ'=>gs r δ' P
 | []=>False
def xJ(n:Nat)(gs:zH):DG:=λx δ P=>match x with
 | .dat m (.tuple ds)=>ds.length=n/\gs (ds.map λd=>.dat (Pj m) d) δ P
 | _=>False
theorem At.unpack:∀{us:List V} {ds:List Ac} {F:List Addr} {E:List Ent},RdFs K H us ds F->(m=.ow->F.Nodup)->(∀f∈E,Wa ⟨none,.dat (Pj m) .none,F⟩ f)->(∀a∈cells ⟨none,.dat (Pj m) .none,F⟩,H0 a=none)->At K H0 X n E H->∃As:List Ent,As.map Ent.v=us.map some/\As.map Ent.x=ds.map (λd=>.dat (Pj m) d)/\(∀e∈As,∀a∈e.F,a∈F)/\At K H0 X n (As++E) H
 | _,_,_,_,.nil,_,_,_,h=>⟨[],rfl,rfl,λ_ z=>(nomatch z),h⟩
 | _,_,_,E,.cons (x:=x) (d:=d) (F:=F1) (G:=G1) a t,hn,hs,hnew,h=>by
  have cs:∀{G:List Addr} {u:Option V} {d':Ac},(∀b∈G,b∈F1++G1)->∀b∈cells ⟨u,.dat (Pj m) d',G⟩,b∈cells ⟨none,.dat (Pj m) .none,F1++G1⟩:=λ{G u d'} hG b hb=>by
   cases m with
   | ow=>exact hG b hb
   | _=>exact nomatch hb
  have sub:∀{G:List Addr} {u:Option V} {d':Ac} {f:Ent},(∀b∈G,b∈F1++G1)->Wa ⟨none,.dat (Pj m) .none,F1++G1⟩ f->Wa ⟨u,.dat (Pj m) d',G⟩ f:=λ{G u d' f} hG q=>by
   refine ⟨λhp b hb=>q.1 ?_ b (cs hG b hb),λhp b hb z=>q.2 ?_ b hb (hG b z)⟩
   ·rcases hp with hp | hp
    ·exact .inl hp
    ·cases hp
   ·rcases hp with hp | hp
    ·refine .inl ?_
     cases m <;> exact hp
    ·exact .inr hp
  obtain ⟨As,h1,h2,h3,h4⟩:=At.unpack (m:=m) t (λz=>(Gf.mp (hn z)).2.1) (λf hf=>sub (λb hb=>Al _ hb) (hs f hf)) (λb hb=>hnew b (cs (λb hb=>Al _ hb) b hb)) h
  refine ⟨⟨some x,.dat (Pj m) d,F1⟩::As,by rw[Aw,Aw,h1],by rw[Aw,Aw,h2],λe he b hb=>?_,?_⟩
  ·rcases Ah.mp he with rfl | he
   ·exact Ao _ hb
   ·exact Al _ (h3 e he b hb)
  ·refine h4.push ⟨x,rfl,a,λz=>?_,λz=>?_⟩ (λf hf=>?_) λb hb=>.inl (hnew b (cs (λb hb=>Ao _ hb) b hb))
   ·cases m with
    | ow=>exact (Gf.mp (hn rfl)).1
    | _=>cases z
   ·cases m <;> cases z
   ·rcases Ay.mp hf with hf | hf
    ·have hx:f.x∈As.map Ent.x:=Bu.mpr ⟨f,hf,rfl⟩
     rw[h2] at hx
     obtain ⟨d',_,ed⟩:=Bu.mp hx
     refine ⟨λhp b hb z=>?_,λhp b hb z=>?_⟩
     ·cases m with
      | ow=>exact (Gf.mp (hn rfl)).2.2 b hb b (h3 f hf b z) rfl
      | _=>exact nomatch hb
     ·cases m with
      | ow=>exact (Gf.mp (hn rfl)).2.2 b z b (h3 f hf b (En _ _ hb)) rfl
      | _ =>
       unfold cells at hb
       rw[<- ed] at hb
       exact nomatch hb
    ·exact sub (λb hb=>Ao _ hb) (hs f hf)
section
variable{X:Cx}{pos:Pos}
theorem C2:G4 X [] j6:=by
 refine R6.imp rW λus σ H Q h=>?_
 obtain ⟨H0,Y,S,T,As,δ,P,rfl,hS,eu,hA,hd,k⟩:=h
 match As,hA,hd,eu with
 | [],hA,hd,eu =>
  cases us with
  | nil=>exact ⟨rfl,k δ S H hS hA hd⟩
  | cons _ _=>cases eu
 | _::_,hA,hd,eu=>exact hd.elim
theorem jW(h1:EM X e g)(h2:G4 X es gs)(hs:(Kz (e::es) X.env).map (·.2)=assign e X.env::(Kz es X.env).map (·.2):=by rfl):G4 X (e::es) (qT g gs):=by
 refine R6.imp (bM h1 h2 hs) λus σ H Q h=>?_
 obtain ⟨H0,Y,S,T,As,δ,P,rfl,hS,eu,hA,hd,k⟩:=h
 match As,hA,hd,eu with
 | [],hA,hd,eu=>exact hd.elim
 | ⟨v,x,F⟩::As,hA,hd,eu =>
  cases us with
  | nil=>cases eu
  | cons u us =>
   rw[Aw,Aw] at eu
   obtain ⟨e1,e2⟩:=Do eu
   have e1':v=some u:=e1
   subst e1'
   refine ⟨u,us,rfl,H0,Y,S,As++T,δ,x,F,_,rfl,hS,hA,hd,λδ' S' H' e3 hA' p=>?_⟩
   exact ⟨H0,Y,S',T,As,δ',P,rfl,e3,e2,hA',p,k⟩
theorem V8{kk:Nat}(hc:X.calm=true)(h:G4 X es gs)(hn:(Kz es X.env).length=n:=by rfl)(hst:(Kz es X.env).findIdx? (·.1)=none:=by rfl):EM X (.Tuple es kk pos) (xJ n gs):=by
 refine PG.imp (zV hc h hn hst) λv σ H Q h=>?_
 obtain ⟨H0,Y,S,T,δ,x,F,P,rfl,hS,hA,hd,k⟩:=h
 unfold xJ at hd
 split at hd
 ·rename_i m ds
  obtain ⟨a,xs,rfl,ha,ra,hz⟩:=(hA.told mem_mid).tup_inv
  have hm:=hA.mid
  have hp:=Bb.mp hm.sep
  obtain ⟨w,_,_,hnd,_⟩:=hm.ok _ Ab
  have cs:∀b∈cells ⟨none,.dat (Pj m) .none,F⟩,b∈cells ⟨some (.ref a),.dat m (.tuple ds),F⟩:=λb hb=>by
   cases m with
   | ow=>exact hb
   | _=>exact nomatch hb
  obtain ⟨As,h1,h2,h3,h4⟩:=At.unpack (m:=m) (E:=S++T) ra hnd (λf hf=>by
   refine ⟨λhq b hb=>(hp.1 f hf).1 ?_ b (cs b hb),λhq b hb=>(hp.1 f hf).2 ?_ b hb⟩
   ·rcases hq with hq | hq
    ·exact .inl hq
    ·cases hq
   ·rcases hq with hq | hq
    ·refine .inl ?_
     cases m <;> first | rfl | exact hq
    ·exact .inr hq) (λb hb=>by
   rcases hm.new _ Ab b (cs b hb) with z | z
   ·exact z
   ·cases z.2) hA.drop
  refine ⟨a,xs,rfl,Uh.of ha,by rw[ra.len]; exact hd.1,H0,Y,S,T,As,δ,P,rfl,hS,h1,h4.perm ?_,by rw[h2]; exact hd.2,k⟩
  rw[<- Bw,<- Bw]
  exact Fv.append_right T
 ·exact hd.elim
end
theorem oT(h:At K H0 X n E H):∀{e f:Ent},e∈E->f∈E->e=f\/Wa e f:=by
 have main:∀{E:List Ent},E.Pairwise Wa->∀{e f:Ent},e∈E->f∈E->e=f\/Wa e f:=by
  intro E
  induction E with
  | nil=>intro _ e f he; cases he
  | cons g E ih =>
   intro hp e f he hf
   have hc:=Bb.mp hp
   rcases Ah.mp he with he | he
   ·subst he
    rcases Ah.mp hf with hf | hf
    ·exact .inl hf.symm
    ·exact .inr (hc.1 f hf)
   ·rcases Ah.mp hf with hf | hf
    ·rw[hf]
     exact .inr (hc.1 e he).symm
    ·exact ih hc.2 he hf
 intro e f he hf
 exact main h.sep he hf
abbrev DI:=DS->(Md->List Ac->DS->Prop)->Prop
structure IterOk(K:PySem.W.Frag)(J:It)(hid:List Ent)(m:Md)(ds:List Ac):Prop where
 md:m=.sh\/m=.pk
 hd:∀e∈hid,cells e=[]
 np:m=.sh->∀e∈hid,Le e.x=false
 go:∀H n i,(∀e∈hid,Gr K H n e)->i<ds.length->J.go i H
 yld:∀H n i x H',(∀e∈hid,Gr K H n e)->i<ds.length->J.yld i H x H'->Ms H H'/\∃d F,ds[i]? = some d/\RdF K H' x d F/\∀a∈F,∃e∈hid,a∈e.F
 stop:∀H n,(∀e∈hid,Gr K H n e)->J.stop ds.length H
def LI(K:PySem.W.Frag)(di:DI):TI:=λσ H R=>∃(H0:Hp) (X:Addr->Prop) (S T:List Ent) (δ:DS) (P:Md->List Ac->DS->Prop),vs S=σ/\Sl S δ/\At K H0 X δ.n (S++T) H/\di δ P /\
 ∀m ds δ' J hid S' H',vs S'=σ->Sl S' δ'->At K H0 X δ'.n (S'++(hid++T)) H'->IterOk K J hid m ds->ds.length<=Au->P m ds δ'->R J H'
abbrev xT(X:Cx)(tg iter:Expr)(di:DI):Prop:=PI X tg iter (LI X.K di)
theorem PI.imp(h:PI X tg e t)(k:∀σ H Q,t' σ H Q->t σ H Q):PI X tg e t':=λpins s σ H Q I q=>h pins s σ H Q I (k σ H Q q)
def Lf:Md->Md
 | .pk=>.pk
 | _=>.sh
theorem iG(m:Md):wk m (Lf m)=true:=by cases m <;> rfl
theorem At.item(h:At K H0 X n (S++(hid++T)) H)(s:Ms H H')(r:RdF K H' v d F)(hF:∀a∈F,∃e∈hid,a∈e.F)(md:m=.sh\/m=.pk)(hh:∀e∈hid,cells e=[])(np:m=.sh->∀e∈hid,Le e.x=false):At K H0 X n (S++⟨some v,.dat m d,F⟩::(hid++T)) H':=by
 have h1:=h.grow (n':=n) s (Ak _)
 have c0:∀a,a∉cells ⟨some v,.dat m d,F⟩:=λa ha=>by
  rcases md with rfl | rfl <;> exact nomatch ha
 refine (h1.push (e:=⟨some v,.dat m d,F⟩) ⟨v,rfl,r,λz=>?_,λz=>?_⟩ (λf hf=>⟨λ_ a ha=>absurd ha (c0 a),λhq a ha z=>?_⟩) λa ha=>absurd ha (c0 a)).tomid
 ·rcases md with rfl | rfl <;> cases z
 ·rcases md with rfl | rfl <;> cases z
 ·obtain ⟨e,he,ze⟩:=hF a z
  have he':e∈S++(hid++T):=Al _ (Ao _ he)
  rcases oT h he' hf with rfl | q
  ·rw[hh e he] at ha
   cases ha
  ·refine q.2 ?_ a ha ze
   rcases hq with hq | hq
   ·refine .inl (np ?_ e he)
    rcases md with rfl | rfl
    ·rfl
    ·cases hq
   ·exact .inr hq
def HB(de:DE):DI:=λδ P=>de δ λx δ'=>match x with
 | .dat m (.list ds)=>P (Lf m) ds δ'
 | .dat m (.tuple ds)=>P (Lf m) ds δ'
 | _=>False
def kJ(da:DA):DI:=λδ P=>da δ λxs δ'=>match xs with
 | [.dat _ (.int j)]=>-1000000<=j/\j<=1000000/\P .sh ((Di j.toNat).map λi:Nat=>.int i) δ'
 | _=>False
def zP(da:DA):DI:=λδ P=>da δ λxs δ'=>match xs with
 | [.dat m (.list ds)]=>P (Lf m) (ds.zipIdx.map λp=>.tuple [.int p.2,p.1]) δ'
 | _=>False
def FF(da:DA):DI:=λδ P=>da δ λxs δ'=>match xs with
 | [.dat m (.tuple ds)]=>P (Lf m) (ds.zipIdx.map λp=>.tuple [.int p.2,p.1]) δ'
 | _=>False
section
variable{K:PySem.W.Frag}
theorem Kl{H:Hp}{hid:List Ent}(h:∀e∈hid,Gr K H n e)(he:⟨some v,.dat m d,F⟩∈hid):RdF K H v d F:=by
 obtain ⟨w,e1,h1,_⟩:=h _ he
 cases e1
 exact h1
theorem xI:cells ⟨v,.dat (Lf m) d,F⟩=[]:=by cases m <;> rfl
theorem iK:∀e∈[(⟨v,.dat (Lf m) d,F⟩ : Ent)],cells e=[]:=λe he=>by
 rw[Af.mp he]
 exact xI
theorem rT:Lf m=.sh->∀e∈[(⟨v,.dat (Lf m) d,F⟩ : Ent)],Le e.x=false:=λz e he=>by
 rw[Af.mp he]
 show Le (.dat (Lf m) d)=false
 rw[z]
 rfl
theorem hU(m:Md):Lf m=.sh\/Lf m=.pk:=by cases m <;> simp [Lf]
theorem sT:IterOk K (FJ K a) [⟨some (.ref a),.dat (Lf m) (.list ds),F⟩] (Lf m) ds where
 md:=hU m
 hd:=iK
 np:=rT
 go:=λH n i h hi=>by
  obtain ⟨b,xs,G,e,hb,rb,_,_⟩:=(Kl h Ab).list_inv
  cases e
  have hl:=rb.len
  exact ⟨xs,xs[i],Mc.of hb,by simp [show i<xs.length by omega]⟩
 yld:=λH n i x H' h hi y=>by
  obtain ⟨b,xs,G,e,hb,rb,rfl,_⟩:=(Kl h Ab).list_inv
  cases e
  obtain ⟨rfl,y⟩:=y
  have hx:=y xs (Mc.of hb)
  obtain ⟨x',F',h1,h2,h3⟩:=rb.get (i:=i) (e:=ds[i]) (by simp [hi])
  rw[hx] at h1
  cases h1
  exact ⟨Ms.refl _,ds[i],F',by simp [hi],h2,λc hc=>⟨_,Ab,Ae _ (h3.subset hc)⟩⟩
 stop:=λH n h=>by
  obtain ⟨b,xs,G,e,hb,rb,_,_⟩:=(Kl h Ab).list_inv
  cases e
  exact ⟨xs,Mc.of hb,by rw[rb.len]; exact Ak _⟩
theorem zT:IterOk K (GV K a) [⟨some (.ref a),.dat (Lf m) (.tuple ds),F⟩] (Lf m) ds where
 md:=hU m
 hd:=iK
 np:=rT
 go:=λH n i h hi=>by
  obtain ⟨b,xs,e,hb,rb,_⟩:=(Kl h Ab).tup_inv
  cases e
  have hl:=rb.len
  exact ⟨xs,xs[i],Uh.of hb,by simp [show i<xs.length by omega]⟩
 yld:=λH n i x H' h hi y=>by
  obtain ⟨b,xs,e,hb,rb,_⟩:=(Kl h Ab).tup_inv
  cases e
  obtain ⟨rfl,y⟩:=y
  have hx:=y xs (Uh.of hb)
  obtain ⟨x',F',h1,h2,h3⟩:=rb.get (i:=i) (e:=ds[i]) (by simp [hi])
  rw[hx] at h1
  cases h1
  exact ⟨Ms.refl _,ds[i],F',by simp [hi],h2,λc hc=>⟨_,Ab,h3.subset hc⟩⟩
 stop:=λH n h=>by
  obtain ⟨b,xs,e,hb,rb,_⟩:=(Kl h Ab).tup_inv
  cases e
  exact ⟨xs,Uh.of hb,by rw[rb.len]; exact Ak _⟩
theorem oH:IterOk K (N3 lo n) [] .sh ((Di n).map λi:Nat=>.int (lo+i)) where
 md:=.inl rfl
 hd:=λ_ z=>nomatch z
 np:=λ_ _ z=>nomatch z
 go:=λH k i h hi=>by
  show i<n
  simpa using hi
 yld:=λH k i x H' h hi y=>by
  obtain ⟨rfl,rfl⟩:=y
  rw[Ad,Jv] at hi
  exact ⟨Ms.refl _,.int (lo+i),[],by simp [hi],.int _,λ_ z=>nomatch z⟩
 stop:=λH k h=>by simp [N3]
theorem sV:IterOk K (GD K a) [⟨some (.ref a),.dat (Lf m) (.list ds),F⟩] (Lf m) (ds.zipIdx.map λp=>.tuple [.int p.2,p.1]) where
 md:=hU m
 hd:=iK
 np:=rT
 go:=λH n i h hi=>by
  obtain ⟨b,xs,G,e,hb,rb,_,_⟩:=(Kl h Ab).list_inv
  cases e
  have hl:=rb.len
  rw[Ad,Lk] at hi
  exact ⟨xs,xs[i],Mc.of hb,by simp [show i<xs.length by omega]⟩
 yld:=λH n i x H' h hi y=>by
  obtain ⟨b,xs,G,e,hb,rb,rfl,_⟩:=(Kl h Ab).list_inv
  cases e
  rw[Ad,Lk] at hi
  obtain ⟨t,z,rfl,nt,rfl,y⟩:=y
  have hx:=y xs (Mc.of hb)
  obtain ⟨x',F',h1,h2,h3⟩:=rb.get (i:=i) (e:=ds[i]) (by simp [hi])
  rw[hx] at h1
  cases h1
  have s1:=Dl nt (.tup [.int i,z])
  refine ⟨s1,.tuple [.int i,ds[i]],F',by simp [hi],.tup Cp (by simp [Jo]) ?_,λc hc=>⟨_,Ab,Ae _ (h3.subset hc)⟩⟩
  have:=RdFs.cons (F:=[]) (.int (i:Int)) (RdFs.cons (h2.kp (Kp.of s1)) RdFs.nil)
  rw[Dz] at this
  exact this
 stop:=λH n h=>by
  obtain ⟨b,xs,G,e,hb,rb,_,_⟩:=(Kl h Ab).list_inv
  cases e
  exact ⟨xs,Mc.of hb,by rw[Ad,Lk,rb.len]; exact Ak _⟩
end
section
variable{X:Cx}{tg e:Expr}{de:DE}{di:DI}
def dL(de:DE):DI:=λδ P=>de δ λx δ'=>match x with
 | .dat m (.list ds)=>P (Lf m) ds δ'
 | _=>False
def GZ(de:DE):DI:=λδ P=>de δ λx δ'=>match x with
 | .dat m (.tuple ds)=>P (Lf m) ds δ'
 | _=>False
theorem lX(h:Em X e de):xT X tg e (dL de):=by
 refine PI.imp (gG h) λσ H R h=>?_
 obtain ⟨H0,Y,S,T,δ,P,rfl,hS,hA,hd,k⟩:=h
 refine ⟨H0,Y,S,T,δ,_,rfl,hS,hA,hd,λx δ1 v F S1 H1 e1 e2 hA1 p1=>?_⟩
 split at p1
 ·obtain ⟨a,xs,G,rfl,ha,ra,rfl,hz⟩:=(hA1.told mem_mid).list_inv
  exact ⟨a,rfl,⟨xs,Mc.of ha⟩,k _ _ δ1 _ [_] S1 H1 e1 e2 ((hA1.mid.wk (iG _)).tomid) sT hz p1⟩
 ·exact p1.elim
theorem FW(h:Em X e de):xT X tg e (GZ de):=by
 refine PI.imp (X7 h) λσ H R h=>?_
 obtain ⟨H0,Y,S,T,δ,P,rfl,hS,hA,hd,k⟩:=h
 refine ⟨H0,Y,S,T,δ,_,rfl,hS,hA,hd,λx δ1 v F S1 H1 e1 e2 hA1 p1=>?_⟩
 split at p1
 ·obtain ⟨a,xs,rfl,ha,ra,hz⟩:=(hA1.told mem_mid).tup_inv
  exact ⟨a,rfl,⟨xs,Uh.of ha⟩,k _ _ δ1 _ [_] S1 H1 e1 e2 ((hA1.mid.wk (iG _)).tomid) zT hz p1⟩
 ·exact p1.elim
variable{es:List Expr}{da:DA}{a b:Expr}{p pos tp:Pos}{elts:List Expr}{kt:Nat}
theorem Nq(hg:Gl X "range")(hm:X.mg "range" = none)(ha:jJ X [a] da)(hs:Bq [a] X.env=[(false,eval a X.env)]:=by rfl):xT X tg (.Call (.Name "range" p) [a] [] pos) (kJ da):=by
 refine PI.imp (Xd hg hm ha hs) λσ H R h=>?_
 obtain ⟨H0,Y,S,T,δ,P,rfl,hS,hA,hd,k⟩:=h
 refine ⟨H0,Y,S,T,δ,_,rfl,hS,hA,hd,λxs δ' As us S' H' e1 e2 ex eu hA' p=>?_⟩
 split at p
 ·obtain ⟨v,F,rfl,hA2⟩:=Gh eu hA' ex
  obtain ⟨rfl,_⟩:=(hA2.told mem_mid).int_inv
  obtain ⟨j0,j1,pp⟩:=p
  refine ⟨_,rfl,by omega,by omega,k _ _ δ' _ [] S' H' e1 e2 hA2.drop oH (by rw[Ad,Jv]; exact jG (by omega)) ?_⟩
  simpa using pp
 ·exact p.elim
theorem fV(hg:Gl X "enumerate")(hm:X.mg "enumerate" = none)(ha:jJ X [a] da)(hs:Bq [a] X.env=[(false,eval a X.env)]:=by rfl):xT X (.Tuple elts kt tp) (.Call (.Name "enumerate" p) [a] [] pos) (zP da):=by
 refine PI.imp (M6 hg hm ha hs) λσ H R h=>?_
 obtain ⟨H0,Y,S,T,δ,P,rfl,hS,hA,hd,k⟩:=h
 refine ⟨H0,Y,S,T,δ,_,rfl,hS,hA,hd,λxs δ' As us S' H' e1 e2 ex eu hA' p=>?_⟩
 split at p
 ·obtain ⟨v,F,rfl,hA2⟩:=Gh eu hA' ex
  obtain ⟨a,xs,G,rfl,ha,ra,rfl,hz⟩:=(hA2.told mem_mid).list_inv
  exact ⟨a,rfl,⟨xs,Mc.of ha⟩,k _ _ δ' _ [_] S' H' e1 e2 ((hA2.mid.wk (iG _)).tomid) sV (by rw[Ad,Lk]; exact hz) p⟩
 ·exact p.elim
end
def BW(di:DI)(dg:DG)(db:DB):DB:=λD δ=>di δ λm ds δ1=>m=.sh/\∃I:Nat->DS->Prop,I 0 δ1 /\
 (∀i d δ',ds[i]? = some d->I i δ'->dg (.dat .sh d) δ' λδ2=>db { D with nx:=I (i+1),ct:=I (i+1),bk:=D.nx } δ2)/\∀δ',I ds.length δ'->D.nx δ'
section
variable{X:Cx}{tg iter:Expr}{di:DI}{dg:DG}{db:DB}{body:List Stmt}{pos:Pos}
theorem At.dropH{X:Addr->Prop}(h:At K H0 X n (S++e::(hid++T)) H):At K H0 X n (S++e::T) H:=h.sub ((Cr S).append ((Cf hid T).cons₂ e))
theorem Sg(hp:PassesOwn (model X.prog X.w) X.A X.env X.xe)(hc:X.calm=true)(hi:xT X tg iter di)(hg:EM X tg dg)(hb:Wx X body db)(hs:∀x,Ee iter X.env x=pure x:=by intro _; rfl):qB X (.For tg iter body [] pos) (BW di dg db):=by
 refine PS.impD (iL hp hc hi hg hb hs) λD σ H h=>?_
 obtain ⟨H0,Y,S,T,δ,P,rfl,hS,hT,hA,hd,k1,k2,k3,k4⟩:=h
 refine ⟨H0,Y,S,T,δ,_,rfl,hS,hA,hd,λm ds δ1 J hid S1 H1 e1 e2 hA1 it hz p1=>?_⟩
 obtain ⟨rfl,I,h0,hs,hf⟩:=p1
 rw[<- e1]
 have hT':∀e∈hid++T,Le e.x=false:=λe he=>by
  rcases Ay.mp he with he | he
  ·exact it.np rfl e he
  ·exact hT e he
 refine ⟨λi q σ H=>q=ds.length - i/\i<=ds.length/\∃S δ,vs S=σ/\Sl S δ/\At X.K H0 Y δ.n (S++(hid++T)) H/\I i δ,⟨ds.length,by simp,Dg _,S1,δ1,rfl,e2,hA1,h0⟩,?_⟩
 (intro i q σ H q_; obtain ⟨rfl,hi,S2,δ2,rfl,e3,hA2,hI⟩ := q_)
 have hid_ok:∀e∈hid,Gr X.K H δ2.n e:=λe he=>hA2.ok e (Al _ (Ao _ he))
 by_cases hlt:i<ds.length
 ·refine .inr ⟨it.go H δ2.n i hid_ok hlt,λσ' H'=>∃S δ,vs S=σ'/\Sl S δ/\At X.K H0 Y δ.n (S++(hid++T)) H'/\I (i+1) δ,λσ' H' q=>⟨ds.length - (i+1),by omega,rfl,hlt,q⟩,λx H' y=>?_⟩
  obtain ⟨s1,d,F,h1,h2,h3⟩:=it.yld H δ2.n i x H' hid_ok hlt y
  refine ⟨H0,Y,S2,hid++T,δ2,.dat .sh d,F,_,rfl,e3,hA2.item s1 h2 h3 it.md it.hd it.np,hs i d δ2 h1 hI,λδ3 S3 H3 e4 hA3 p3=>?_⟩
  refine ⟨H0,Y,S3,hid++T,δ3,_,rfl,e4,hT',hA3,p3,λδ4 S4 H4 e5 hA4 p4=>⟨S4,δ4,rfl,e5,hA4,p4⟩,λx δ4 v F S4 H4 e5 hA4 p4=>k2 x δ4 v F S4 H4 e5 hA4.dropH p4,
   λδ4 S4 H4 e5 hA4 p4=>k1 δ4 S4 H4 e5 hA4.dropL p4,λδ4 S4 H4 e5 hA4 p4=>⟨S4,δ4,rfl,e5,hA4,p4⟩⟩
 ·have e:i=ds.length:=by omega
  subst e
  exact .inl ⟨it.stop H δ2.n hid_ok,k1 δ2 S2 H e3 hA2.dropL (hf δ2 hI)⟩
end
end DL
namespace Nd
open PySem PySem.Spec PyProof.Rows L2
end Nd
namespace DL
open PySem L2 Nd
def al(e:Ent):Ent:=match e.x with
 | .dat m d=>⟨e.v,.dat (gX m) d,e.F⟩
 | .val _=>e
 | .scr _=>e
 | _=>⟨e.v,.un,[]⟩
def alD:DV->DV
 | .dat m d=>.dat (gX m) d
 | .val v=>.val v
 | .scr ns=>.scr ns
 | _=>.un
def vP(S:List Ent)(j:Nat):Ent:=match S[j]? with
 | some e=>al e
 | none=>⟨none,.un,[]⟩
def Zo(S:List Ent)(js:List Nat):List Ent:=js.map (vP S)
def frD1(sl:List DV)(j:Nat):DV:=match sl[j]? with
 | some x=>alD x
 | none=>.un
def frD(sl:List DV)(js:List Nat):List DV:=js.map (frD1 sl)
theorem FT(e:Ent):(al e).v=e.v:=by
 obtain ⟨v,x,F⟩:=e
 cases x <;> rfl
theorem GO(e:Ent):(al e).x=alD e.x:=by
 obtain ⟨v,x,F⟩:=e
 cases x <;> rfl
theorem qQ(S:List Ent)(js:List Nat):vs (Zo S js)=Gn (vs S) js:=by
 unfold vs Zo Gn
 rw[Ce]
 refine Fo λj _=>?_
 rw[Be]
 simp only[Function.comp,vP]
 cases S[j]? with
 | none=>rfl
 | some e=>exact FT e
theorem rR(h:Sl S δ)(js:List Nat):(Zo S js).map Ent.x=frD δ.sl js:=by
 unfold Sl at h
 unfold Zo frD
 rw[Ce]
 refine Fo λj _=>?_
 simp only[Function.comp,vP,frD1]
 rw[<- h,Be]
 cases S[j]? with
 | none=>rfl
 | some e=>exact GO e
section
variable{K:PySem.W.Frag}{H0 H H':Hp}{X:Addr->Prop}{n:Nat}{E S T:List Ent}
theorem jS(e:Ent):cells (al e)=[]:=by
 obtain ⟨v,x,F⟩:=e
 cases x with
 | dat m d=>cases m <;> rfl
 | _=>rfl
theorem At.view1(h:At K H0 X n E H)(he:e∈E):At K H0 X n (al e::E) H:=by
 refine h.push ?_ (λf hf=>⟨λ_ a ha=>(by rw[jS] at ha; cases ha),λhq a ha z=>?_⟩) λa ha=>(by rw[jS] at ha; cases ha)
 ·have:=h.ok e he
  obtain ⟨v,x,F⟩:=e
  cases x with
  | dat m d =>
   obtain ⟨w,h1,h2,_⟩:=this
   exact ⟨w,h1,h2,λz=>(by cases m <;> cases z),λz=>(by cases m <;> cases z)⟩
  | val v=>exact this
  | scr ns=>exact this
  | _=>exact (rfl:([]:List Addr)=[])
 ·obtain ⟨v,x,F⟩:=e
  cases x with
  | dat m d =>
   rcases oT h he hf with rfl | q
   ·rcases hq with hq | hq
    ·cases m <;> first | cases hq; done | exact nomatch ha
    ·cases hq
   ·refine q.2 ?_ a ha z
    rcases hq with hq | hq
    ·refine .inl ?_
     cases m <;> first | rfl | exact hq
    ·exact .inr hq
  | val v =>
   rw[show F=[] from (h.ok _ he).2] at z
   cases z
  | scr ns =>
   obtain ⟨_,_,hF,_⟩:=h.ok _ he
   rw[show F=[] from hF] at z
   cases z
  | _=>exact nomatch z
theorem At.blank(h:At K H0 X n E H):At K H0 X n (⟨v,.un,[]⟩::E) H :=
 h.push (rfl:([]:List Addr)=[]) (λf _=>⟨λ_ a ha=>(nomatch ha),λ_ a _=>Av⟩) (λa ha=>(nomatch ha))
theorem At.view(h:At K H0 X n E H)(hS:∀e∈S,e∈E):∀js:List Nat,At K H0 X n (Zo S js++E) H
 | []=>h
 | j::js=>by
  have ih:=At.view h hS js
  show At K H0 X n (vP S j::(Zo S js++E)) H
  unfold vP
  cases e:S[j]? with
  | none=>exact ih.blank
  | some x=>exact ih.view1 (Al _ (hS x (Ax e)))
theorem At.accNew(h:At K H0 X n E H)(hD:H D=Px):At K H0 X n (⟨some (.ref D),.acc [],[D]⟩::E) (upd H D (.lst [])):=by
 have s1:=Dl hD (.lst [])
 refine (h.grow (n':=n) s1 (Ak _)).push ⟨D,[],[],rfl,rfl,Cp,.nil,Dg _,Av⟩ (λf hf=>?_) λa ha=>?_
 ·have nf:=h.free hD f hf
  refine ⟨λ_ a ha z=>?_,λ_ a ha z=>?_⟩
  ·rw[Af.mp ha] at z
   exact nf z
  ·rw[Af.mp z] at ha
   exact nf (En _ _ ha)
 ·rw[Af.mp ha]
  exact .inl (h.new0 hD)
theorem At.accPutG(h:At K H0 X n (⟨some (.ref D),.acc ds,D::G⟩::⟨some v,.dat m e,F⟩::E) H)(hm:m≠.pk)(hz:ds.length+1<=Au):∃xs,H D=some (.lst xs)/\xs.length=ds.length/\At K H0 X n (⟨some (.ref D),.acc (ds++[e]),D::(G++F)⟩::E) (upd H D (.lst (xs++[v]))):=by
 obtain ⟨a,xs,G',e1,e0,ha,ra,_,nG⟩:=h.ok _ Ab
 have e1':some (V.ref D)=some (V.ref a):=e1
 cases e1'
 have e0':D::G=D::G':=e0
 cases e0'
 have r:RdF K H v e F:=h.told (Ae _ Ab)
 have hs:=Bb.mp h.sep
 have hs2:=Bb.mp hs.2
 have h1:=(h.sub (Cv _ _)).sub (Cv _ _)
 have npk:Le (.dat m e)=false:=by cases m <;> first | rfl | exact absurd rfl hm
 have nF:D∉F:=(hs.1 _ Ab).1 (.inr rfl) D Ab
 have kp:∀{F:List Addr},D∉F->Kp F H (upd H D (.lst (xs++[v]))):=λ{F} hF b o q z=>by
  have : b≠D:=by
   rintro rfl
   rw[ha] at q
   cases q
   rcases z with z | z
   ·exact hF z
   ·rcases z with ⟨_,z⟩ | ⟨_,_,z⟩ <;> cases z
  rw[Cy this]
  exact q
 have nD:H0 D=Px:=by
  rcases h.new _ Ab D Ab with z | z
  ·exact z
  ·cases z.2
 refine ⟨xs,ha,ra.len,?_⟩
 refine ⟨λf hf=>?_,?_,λf hf=>?_,λb o nx q=>?_,λb o q=>?_,λb hb=>?_⟩
 rotate_right
 ·obtain ⟨z,c,k,f,h1,h2⟩:=h.xd b hb
  refine ⟨z,c,k,f,(Cy ?_).trans h1,h2⟩
  rintro rfl
  exact z nD
 ·rcases Ah.mp hf with rfl | hf
  ·exact ⟨D,xs++[v],G++F,rfl,rfl,Cp,(ra.kp (kp nG)).snoc (r.kp (kp nF)),by rw[Bn]; exact hz,λz=>(Ay.mp z).elim nG nF⟩
  ·exact (h1.ok f hf).kp (kp ((hs.1 f (Ae _ hf)).1 (.inr rfl) D Ab)) (Ak _)
 ·refine Bb.mpr ⟨λf hf=>⟨λhq a ha'=>(hs.1 f (Ae _ hf)).1 (.inr rfl) a ha',λhq a ha' z=>?_⟩,hs2.2⟩
  have z1:=(hs.1 f (Ae _ hf)).2 (.inl rfl) a ha'
  rcases Ah.mp z with z | z
  ·exact z1 (z▸Ab)
  ·rcases Ay.mp z with z | z
   ·exact z1 (Ae _ z)
   ·exact (hs2.1 f hf).2 (.inl npk) a ha' z
 ·rcases Ah.mp hf with rfl | hf
  ·intro a ha'
   rw[Af.mp ha']
   exact .inl nD
  ·exact h1.new f hf
 ·rw[Cy (Dw q nD)]
  exact h.same b o nx q
 ·rw[Cy (Dw q nD)]
  exact h.dom b o q
theorem At.accPut(h:At K H0 X n (⟨some (.ref D),.acc ds,[D]⟩::E) H)(r:RdF K H v e [])(hz:ds.length+1<=Au):∃xs,H D=some (.lst xs)/\xs.length=ds.length/\At K H0 X n (⟨some (.ref D),.acc (ds++[e]),[D]⟩::E) (upd H D (.lst (xs++[v]))) :=
 At.accPutG (m:=.ow) (At.pushI (S:=[⟨some (.ref D),.acc ds,[D]⟩]) h r) (by decide) hz
def fE:Bool->Md
 | true=>.ow
 | false=>.tp
theorem At.accGetG(h:At K H0 X n (⟨some (.ref D),.acc ds,D::G⟩::E) H)(hb:b=true->G=[]):At K H0 X n (⟨some (.ref D),.dat (fE b) (.list ds),D::G⟩::E) H:=by
 obtain ⟨a,xs,G',e1,e0,ha,ra,hz,nG⟩:=h.ok _ Ab
 have e1':some (V.ref D)=some (V.ref a):=e1
 cases e1'
 have e0':D::G=D::G':=e0
 cases e0'
 have hs:=Bb.mp h.sep
 have cs:∀a∈cells ⟨some (.ref D),.dat (fE b) (.list ds),D::G⟩,a=D:=λa ha'=>by
  cases b with
  | true=>rw[hb rfl] at ha'; exact Af.mp ha'
  | false=>exact Af.mp ha'
 refine (h.sub (Cv _ _)).push ⟨_,rfl,.lst ha hz ra,λz=>?_,λ_ a l e=>?_⟩ (λf hf=>⟨λhq a ha'=>?_,λhq a ha'=>(hs.1 f hf).2 (.inl rfl) a ha'⟩) λa ha'=>?_
 ·cases b with
  | true=>rw[hb rfl]; exact By.mpr ⟨Av,Dc⟩
  | false=>cases z
 ·have e:D::G=a::l:=e
  cases e
  exact nG
 ·rw[cs a ha']
  exact (hs.1 f hf).1 (.inr rfl) D Ab
 ·rw[cs a ha']
  rcases h.new _ Ab D Ab with z | z
  ·exact .inl z
  ·cases z.2
theorem At.accGet(h:At K H0 X n (⟨some (.ref D),.acc ds,[D]⟩::E) H):At K H0 X n (⟨some (.ref D),.dat .ow (.list ds),[D]⟩::E) H:=At.accGetG (b:=true) h λ_=>rfl
end
def iC:DT:=λδ P=>P true δ
def AC(b:Bool)(m:Md)(e:Ac):Prop:=match b with
 | true=>imm e=true
 | false=>m≠.pk
def Ku(b:Bool)(dc:DT)(de:DE)(δ:DS)(yes:Ac->Nat->Prop)(no:Nat->Prop):Prop:=dc δ λc δ2=>match c with
 | true=>de δ2 λy δ3=>match y with
  | .dat m e=>AC b m e/\yes e δ3.n
  | _=>False
 | false=>no δ2.n
def pE(b:Bool)(di:DI)(js:List Nat)(dc:DT)(de:DE):DE:=λδ P=>di δ λm ds δ1=>∃I:Nat->List Ac->Nat->Prop,I 0 [] δ1.n /\
 (∀i d acc n,ds[i]? = some d->I i acc n->Ku b dc de ⟨.dat m d::frD δ1.sl js,n⟩ (λe n'=>I (i+1) (acc++[e]) n') (λn'=>I (i+1) acc n')) /\
 ∀acc n,I ds.length acc n->P (.dat (fE b) (.list acc)) ⟨δ1.sl,n⟩
def rV(b:Bool)(di:DI)(js:List Nat)(dc:DT)(de:DE):DE:=λδ P=>di δ λm ds δ1=>∃I:Nat->List Ac->Nat->Prop,I 0 [] δ1.n /\
 (∀i d acc n,ds[i]? = some d->I i acc n->∃d1 d2,d=.tuple [d1,d2]/\Ku b dc de ⟨.dat m d1::.dat m d2::frD δ1.sl js,n⟩ (λe n'=>I (i+1) (acc++[e]) n') (λn'=>I (i+1) acc n')) /\
 ∀acc n,I ds.length acc n->P (.dat (fE b) (.list acc)) ⟨δ1.sl,n⟩
def Qd:DT->DE->DS->(Ac->Nat->Prop)->(Nat->Prop)->Prop:=Ku true
def zJ:DI->List Nat->DT->DE->DE:=pE true
def vV:DI->List Nat->DT->DE->DE:=rV true
def o7:DI->List Nat->DT->DE->DE:=pE false
section
variable{K:PySem.W.Frag}{H0 H H':Hp}{Y:Addr->Prop}{n:Nat}{E S T:List Ent}
theorem jH{b:Bool}{dc:DT}{de:DE}{δ:DS}{yes:Ac->Nat->Prop}{N1:Hp->Prop}(hS:Sl S δ)(hb:b=true->G=[])(hA:At K H0 Y δ.n (S++⟨some (.ref D),.acc acc,D::G⟩::T) H)(h:Ku b dc de δ yes no)(hz:acc.length+1<=Au)(k1:∀n' H',At K H0 Y n' (⟨some (.ref D),.acc acc,D::G⟩::T) H'->no n'->N1 H')(k2:∀e n' v H' G',(b=true->G'=[])->(∃xs,H' D=some (.lst xs)/\xs.length=acc.length/\At K H0 Y n' (⟨some (.ref D),.acc (acc++[e]),D::G'⟩::T) (upd H' D (.lst (xs++[v]))))->yes e n'->N2 v H'):LT K dc (vs S) H λc H2=>if c=true then LE K de (vs S) H2 N2 else N1 H2:=by
 refine ⟨H0,Y,S,⟨some (.ref D),.acc acc,D::G⟩::T,δ,_,rfl,hS,hA,h,λc δ2 S2 H2 e1 e2 hA2 p2=>?_⟩
 cases c with
 | false=>exact uQ (k1 _ _ (hA2.sub (Cf _ _)) p2)
 | true =>
  refine pC ⟨H0,Y,S2,⟨some (.ref D),.acc acc,D::G⟩::T,δ2,_,e1,e2,hA2,p2,λy δ3 v F S3 H3 e3 e4 hA3 p3=>?_⟩
  split at p3
  ·rename_i m e
   have r:=hA3.told mem_mid
   cases b with
   | true =>
    obtain rfl:=r.imm p3.1
    obtain rfl:=hb rfl
    exact k2 _ _ _ _ [] (λ_=>rfl) ((hA3.drop.sub (Cf _ _)).accPut r hz) p3.2
   | false =>
    have hA4:At K H0 Y δ3.n (⟨some v,.dat m e,F⟩::⟨some (.ref D),.acc acc,D::G⟩::T) H3:=hA3.sub (Cf _ _)
    exact k2 _ _ _ _ (G++F) (λz=>nomatch z) ((hA4.perm (Fe _ _ _)).accPutG p3.1 hz) p3.2
  ·exact p3.elim
theorem vA{dt:TT}:∀σ H Q,LT K iC σ H Q->Zl σ H Q:=by
 intro σ H Q h
 obtain ⟨H0,Y,S,T,δ,P,rfl,hS,hA,hd,k⟩:=h
 exact k true δ S H rfl hS hA hd
theorem oQ.imp(h:oQ X e t)(k:∀σ H Q,t' σ H Q->t σ H Q):oQ X e t':=λpins s σ H Q I q=>h pins s σ H Q I (k σ H Q q)
theorem iO:∀σ H Q,LE K (pE b di js dc de) σ H Q->kO (LI K di) js (LT K dc) (LE K de) σ H Q:=by
 intro σ H Q h
 obtain ⟨H0,Y,S,T,δ,P,rfl,hS,hA,hd,k⟩:=h
 refine ⟨H0,Y,S,T,δ,_,rfl,hS,hA,hd,λm ds δ1 J hid S1 H1 e1 e2 hA1 it hz p1=>?_⟩
 obtain ⟨I,h0,hs,hf⟩:=p1
 rw[<- e1]
 intro D hD
 refine ⟨λi q H=>q=ds.length - i/\i<=ds.length/\∃acc n G,(b=true->G=[])/\At K H0 Y n (⟨some (.ref D),.acc acc,D::G⟩::(S1++(hid++T))) H/\acc.length<=i/\I i acc n,⟨ds.length,by simp,Dg _,[],δ1.n,[],λ_=>rfl,hA1.accNew hD,Ak _,h0⟩,?_⟩
 (intro i q H q_; obtain ⟨rfl,hi,acc,n,G,hG,hA2,hl,hI⟩ := q_)
 have hid_ok:∀e∈hid,Gr K H n e:=λe he=>hA2.ok e (Ae _ (Al _ (Ao _ he)))
 by_cases hlt:i<ds.length
 ·refine .inr ⟨it.go H n i hid_ok hlt,λx H' y=>?_⟩
  obtain ⟨s1,d,F,h1,h2,h3⟩:=it.yld H n i x H' hid_ok hlt y
  have hA3:At K H0 Y n ((⟨some (.ref D),.acc acc,D::G⟩::S1)++⟨some x,.dat m d,F⟩::(hid++T)) H':=At.item (S:=⟨some (.ref D),.acc acc,D::G⟩::S1) hA2 s1 h2 h3 it.md it.hd it.np
  have hA4:=hA3.mid
  have hA5:=At.view (S:=S1) hA4 (λe he=>Ae _ (Ao _ (Ae _ he))) js
  have hA6:At K H0 Y n ((⟨some x,.dat m d,F⟩::Zo S1 js)++⟨some (.ref D),.acc acc,D::G⟩::(S1++(hid++T))) H':=hA5.mid
  have hS6:Sl (⟨some x,.dat m d,F⟩::Zo S1 js) ⟨.dat m d::frD δ1.sl js,n⟩:=by
   unfold Sl
   rw[Aw,rR e2]
  have hv:vs (⟨some x,.dat m d,F⟩::Zo S1 js)=some x::Gn (vs S1) js:=by
   rw[<- qQ]
   rfl
  refine ⟨λH2=>∃m',m'<ds.length - i/\_,λy H3=>∃acc,H3 D=some (.lst acc)/\acc.length<Au/\∃m',m'<ds.length - i/\_,λH2 q=>q,λy H3 q=>q,?_⟩
  rw[<- hv]
  refine jH hS6 hG hA6 (hs i d acc n h1 hI) (by omega) (λn' H2 hA7 p=>?_) (λe n' v H2 G' hG' hA7 p=>?_)
  ·exact ⟨ds.length - (i+1),by omega,rfl,hlt,acc,n',G,hG,hA7,by omega,p⟩
  ·obtain ⟨xs,g1,g2,g3⟩:=hA7
   exact ⟨xs,g1,by omega,ds.length - (i+1),by omega,rfl,hlt,acc++[e],n',G',hG',g3,by rw[Bn]; simp; omega,p⟩
 ·have e:i=ds.length:=by omega
  subst e
  refine .inl ⟨it.stop H n hid_ok,k _ ⟨δ1.sl,n⟩ _ (D::G) S1 H e1 e2 ?_ (hf acc n hI)⟩
  have hA3:=hA2.accGetG hG
  have hA4:At K H0 Y n (⟨some (.ref D),.dat (fE b) (.list acc),D::G⟩::(S1++T)) H:=hA3.sub (((Cr S1).append (Cf hid T)).cons₂ _)
  exact hA4.tomid
theorem zK:∀σ H Q,LE K (rV b di js dc de) σ H Q->xC K (LI K di) js (LT K dc) (LE K de) σ H Q:=by
 intro σ H Q h
 obtain ⟨H0,Y,S,T,δ,P,rfl,hS,hA,hd,k⟩:=h
 refine ⟨H0,Y,S,T,δ,_,rfl,hS,hA,hd,λm ds δ1 J hid S1 H1 e1 e2 hA1 it hz p1=>?_⟩
 obtain ⟨I,h0,hs,hf⟩:=p1
 rw[<- e1]
 intro D hD
 refine ⟨λi q H=>q=ds.length - i/\i<=ds.length/\∃acc n G,(b=true->G=[])/\At K H0 Y n (⟨some (.ref D),.acc acc,D::G⟩::(S1++(hid++T))) H/\acc.length<=i/\I i acc n,⟨ds.length,by simp,Dg _,[],δ1.n,[],λ_=>rfl,hA1.accNew hD,Ak _,h0⟩,?_⟩
 (intro i q H q_; obtain ⟨rfl,hi,acc,n,G,hG,hA2,hl,hI⟩ := q_)
 have hid_ok:∀e∈hid,Gr K H n e:=λe he=>hA2.ok e (Ae _ (Al _ (Ao _ he)))
 by_cases hlt:i<ds.length
 ·refine .inr ⟨it.go H n i hid_ok hlt,λx H' y=>?_⟩
  obtain ⟨s1,d,F,h1,h2,h3⟩:=it.yld H n i x H' hid_ok hlt y
  obtain ⟨d1,d2,rfl,hst⟩:=hs i d acc n h1 hI
  obtain ⟨t,xs,rfl,ht,rt,_⟩:=h2.tup_inv
  cases rt with
  | @cons w1 _ xs _ F1 _ r1 rt =>
   cases rt with
   | @cons w2 _ xs _ F2 G r2 rt =>
    cases rt
    have hA3:At K H0 Y n ((⟨some (.ref D),.acc acc,D::G⟩::S1)++⟨some w1,.dat m d1,F1⟩::(hid++T)) H':=At.item (S:=⟨some (.ref D),.acc acc,D::G⟩::S1) hA2 s1 r1 (λa ha=>h3 a (Ao _ ha)) it.md it.hd it.np
    have hA3':At K H0 Y n ((⟨some w1,.dat m d1,F1⟩::⟨some (.ref D),.acc acc,D::G⟩::S1)++(hid++T)) H':=hA3.mid
    have hA3'':At K H0 Y n ((⟨some w1,.dat m d1,F1⟩::⟨some (.ref D),.acc acc,D::G⟩::S1)++⟨some w2,.dat m d2,F2⟩::(hid++T)) H':=At.item hA3' (Ms.refl _) r2 (λa ha=>h3 a (Al _ (Ao _ ha))) it.md it.hd it.np
    have hA4:At K H0 Y n (⟨some w1,.dat m d1,F1⟩::⟨some w2,.dat m d2,F2⟩::⟨some (.ref D),.acc acc,D::G⟩::(S1++(hid++T))) H':=hA3''.mid.perm (Fe _ _ _)
    have hA5:=At.view (S:=S1) hA4 (λe he=>Ae _ (Ae _ (Ae _ (Ao _ he)))) js
    have hA6:At K H0 Y n ((⟨some w1,.dat m d1,F1⟩::⟨some w2,.dat m d2,F2⟩::Zo S1 js)++⟨some (.ref D),.acc acc,D::G⟩::(S1++(hid++T))) H':=by
     have z:=hA5.mid
     refine z.perm ?_
     exact (Gb).cons _
    have hS6:Sl (⟨some w1,.dat m d1,F1⟩::⟨some w2,.dat m d2,F2⟩::Zo S1 js) ⟨.dat m d1::.dat m d2::frD δ1.sl js,n⟩:=by
     unfold Sl
     rw[Aw,Aw,rR e2]
    have hv:vs (⟨some w1,.dat m d1,F1⟩::⟨some w2,.dat m d2,F2⟩::Zo S1 js)=some w1::some w2::Gn (vs S1) js:=by
     rw[<- qQ]
     rfl
    refine ⟨t,w1,w2,rfl,Uh.of ht,λH2=>∃m',m'<ds.length - i/\_,λy H3=>∃acc,H3 D=some (.lst acc)/\acc.length<Au/\∃m',m'<ds.length - i/\_,λH2 q=>q,λy H3 q=>q,?_⟩
    rw[<- hv]
    refine jH hS6 hG hA6 hst (by omega) (λn' H2 hA7 p=>?_) (λe n' v H2 G' hG' hA7 p=>?_)
    ·exact ⟨ds.length - (i+1),by omega,rfl,hlt,acc,n',G,hG,hA7,by omega,p⟩
    ·obtain ⟨xs,g1,g2,g3⟩:=hA7
     exact ⟨xs,g1,by omega,ds.length - (i+1),by omega,rfl,hlt,acc++[e],n',G',hG',g3,by rw[Bn]; simp; omega,p⟩
 ·have e:i=ds.length:=by omega
  subst e
  refine .inl ⟨it.stop H n hid_ok,k _ ⟨δ1.sl,n⟩ _ (D::G) S1 H e1 e2 ?_ (hf acc n hI)⟩
  have hA3:=hA2.accGetG hG
  have hA4:At K H0 Y n (⟨some (.ref D),.dat (fE b) (.list acc),D::G⟩::(S1++T)) H:=hA3.sub (((Cr S1).append (Cf hid T)).cons₂ _)
  exact hA4.tomid
end
section
variable{X:Cx}{elt iter c:Expr}{x x2 y0:Str}{px px2 pt py pos spos:Pos}{kt i0:Nat}{ifs:List Expr}{scope:Scope}{cl:List (Str×Addr)}{ys:List Str}{js:List Nat}{di:DI}{dc:DT}{de:DE}
theorem Hw:oQ X [] (LT X.K iC):=oQ.imp cH (vA (dt:=Zl))
theorem Pd(h:mO X c dc):oQ X [c] (LT X.K dc):=A6 h
theorem Ir(C:CompScope X scope cl x ys js)(hc:X.calm=true)(hi:xT X (.Name x px) iter di)(ht:∀fp s H,oQ (Ek X scope cl (x::ys) fp s H) ifs (LT X.K dc))(he:∀fp s H,Em (Ek X scope cl (x::ys) fp s H) elt de)(hs:∀x,Ee iter X.env x=pure x:=by intro _; rfl):Em X (.ListComp elt [⟨.Name x px,iter,ifs,0⟩] scope pos) (zJ di js dc de):=PE.imp (Vg C hc hi ht he hs) iO
theorem lH(C:CompScope X scope cl x ys js)(own2:t8 scope x2)(nd2:(x::x2::ys).Nodup)(hc:X.calm=true)(hi:xT X (.Tuple [.Name x px,.Name x2 px2] kt pt) iter di)(ht:∀fp s H,oQ (Ek X scope cl (x::x2::ys) fp s H) ifs (LT X.K dc))(he:∀fp s H,Em (Ek X scope cl (x::x2::ys) fp s H) elt de)(hs:∀x,Ee iter X.env x=pure x:=by intro _; rfl):Em X (.ListComp elt [⟨.Tuple [.Name x px,.Name x2 px2] kt pt,iter,ifs,0⟩] scope pos) (vV di js dc de):=PE.imp (wZ C own2 nd2 hc hi ht he hs) zK
def FA(o:Bool)(i:Nat):DG:=match o with
 | true=>dY i
 | false=>Qt i
theorem CU:∀v σ H Q,LG K (FA o i) v σ H Q->Xz i v σ H Q:=by
 cases o with
 | true=>exact wI
 | false=>exact fY
theorem rD{o:Bool}(hN:X.N.Nodup)(hi0:X.N[i0]? = some y0)(hy0:X.env.scope.names.lookup y0=some .local)(C:CompScope X scope cl x ys js)(hc:X.calm=true)(hi:xT X (.Name x px) iter di)(ht:∀fp s H,oQ (Ek X scope cl (x::ys) fp s H) ifs (LT X.K dc))(he:∀fp s H,Em (Ek X scope cl (x::ys) fp s H) elt de)(hs:∀x,Ee iter X.env x=pure x:=by intro _; rfl)(hsw:Kd (.ListComp elt [⟨.Name x px,iter,ifs,0⟩] scope pos) (some (.Name y0 py)) spos.line X.env=pure true:=by rfl):qB X (.Assign [.Name y0 py] (.ListComp elt [⟨.Name x px,iter,ifs,0⟩] scope pos) spos) (sP (zJ di js dc de) (FA o i0)):=PS.impD (qZ hN hi0 hy0 C hc hi ht he hs hsw) (iT iO CU)
theorem o9(C:CompScope X scope cl x ys js)(hc:X.calm=true)(hi:xT X (.Name x px) iter di)(ht:∀fp s H,oQ (Ek X scope cl (x::ys) fp s H) ifs (LT X.K dc))(he:∀fp s H,Em (Ek X scope cl (x::ys) fp s H) elt de)(hs:∀x,Ee iter X.env x=pure x:=by intro _; rfl):Em X (.ListComp elt [⟨.Name x px,iter,ifs,0⟩] scope pos) (o7 di js dc de):=PE.imp (Vg C hc hi ht he hs) iO
end
end DL
namespace DL
open PySem PySem.Spec PyProof.Rows L2 Nd
section
variable{K:PySem.W.Frag}{H0 H H':Hp}{X:Addr->Prop}{n n':Nat}{E S T:List Ent}
theorem At.pushF(h:At K H0 X n E H)(r:RdF K H v d F)(nd:F.Nodup)(fr:∀a∈F,∀f∈E,a∉f.F)(f0:∀a∈F,H0 a=none):At K H0 X n (⟨some v,.dat .ow d,F⟩::E) H:=by
 refine h.push ⟨v,rfl,r,λ_=>nd,λz=>nomatch z⟩ (λf hf=>⟨λ_ a ha z=>fr a ha f hf z,λ_ a ha z=>fr a z f hf (En _ _ ha)⟩) λa ha=>.inl (f0 a ha)
theorem At.drawn(h:At K H0 X n E H)(he:e∈E)(hx:e.x=.drw)(hv:e.v=some (.ref dr))(s:Tz dr H H')(hd:∃c k f,aW H' dr c k f/\0<=k/\k<=(n':Int))(hn:n<=n'):At K H0 X n' E H':=by
 obtain ⟨v,x,F⟩:=e
 have hx':x=.drw:=hx
 subst hx'
 obtain ⟨dr',c0,k0,f0,hv',hF,hd0,_⟩:=h.ok _ he
 have e1:some (V.ref dr)=some (V.ref dr'):=hv.symm.trans hv'
 cases e1
 have hF':F=[dr]:=hF
 subst hF'
 refine ⟨λf hf=>?_,h.sep,h.new,λb o nx q=>?_,λb o q=>?_,λb hb=>?_⟩
 rotate_right
 ·obtain ⟨z,c,k,f,h1,h2,h3⟩:=h.xd b hb
  by_cases hbd:b=dr
  ·subst hbd
   exact ⟨z,hd⟩
  ·exact ⟨z,c,k,f,s _ _ hbd h1,h2,by omega⟩
 ·rcases oT h he hf with rfl | q
  ·obtain ⟨c,k,fl,h1,h2,h3⟩:=hd
   exact ⟨dr,c,k,fl,hv',rfl,h1,h2,h3⟩
  ·have nf:dr∉f.F:=q.1 (.inr rfl) dr Ab
   refine (h.ok f hf).kp (λb o eb z=>?_) hn
   by_cases hb:b=dr
   ·subst hb
    rcases z with z | z
    ·exact absurd z nf
    ·have hd0':H b=some (.lst _):=hd0
     rw[eb] at hd0'
     cases hd0'
     rcases z with ⟨_,z⟩ | ⟨_,_,z⟩ <;> cases z
   ·exact s b o hb eb
 ·have hb:b≠dr:=by
   rintro rfl
   rcases h.new _ he b Ab with z | z
   ·rw[z] at q; cases q
   ·exact nx z.1
  exact s b o hb (h.same b o nx q)
 ·by_cases hb:b=dr
  ·subst hb
   obtain ⟨c,k,fl,h1,_⟩:=hd
   exact ⟨_,h1⟩
  ·obtain ⟨o',z⟩:=h.dom b o q
   exact ⟨o',s b o' hb z⟩
end
abbrev PF:=List Ac->(Ac->Prop)->Prop
abbrev DF:=List Ac->Nat->(Ac->Nat->Prop)->Prop
def Tf(K:PySem.W.Frag)(pf:PF):Sp:=λus H Q _=>∃(As:List Ent) (n:Nat) (ds:List Ac) (R:Ac->Prop),As.map Ent.v=us.map some/\(∀e∈As,Gr K H n e)/\datas (As.map Ent.x)=some ds/\pf ds R /\
 ∀v d F H',R d->RdF K H' v d F->F.Nodup->(∀a∈F,H a=none)->Ms H H'->Q v H'
def mQ(K:PySem.W.Frag)(df:DF):Sp:=λus H Q _=>∃(dr:Addr) (ws:List V) (As:List Ent) (n:Nat) (ds:List Ac) (R:Ac->Nat->Prop),us=.ref dr::ws/\As.map Ent.v=ws.map some/\(∀e∈As,Gr K H n e)/\(∀e∈As,dr∉e.F)/\(∃c k f,aW H dr c k f/\0<=k/\k<=(n:Int))/\datas (As.map Ent.x)=some ds/\df ds n R /\
 ∀v d F n' H',n<=n'->R d n'->RdF K H' v d F->F.Nodup->(∀a∈F,H a=none)->(∃c k f,aW H' dr c k f/\0<=k/\k<=(n':Int))->Tz dr H H'->Q v H'
def xE(pf:PF)(da:DA):DE:=λδ P=>da δ λxs δ1=>match datas xs with
 | some ds=>pf ds λd=>P (.dat .ow d) δ1
 | none=>False
def pF(i:Nat)(df:DF)(da:DA):DE:=λδ P=>match δ.sl[i]? with
 | some .drw=>da δ λxs δ1=>match δ1.sl[i]? with
  | some .drw=>match datas xs with
   | some ds=>df ds δ1.n λd n'=>P (.dat .ow d) ⟨δ1.sl,n'⟩
   | none=>False
  | _=>False
 | _=>False
section
variable{X:Cx}{CX:rM}{k:Nat}{f:Addr}{fd:Cg}{ps:List Str}{pf:PF}{df:DF}{E:XK}{x:Str}{p pos:Pos}{e e0:Expr}{es:List Expr}{da:DA}
theorem Ig(F:FnOk X.prog X.w X.K X.mg X.base CX k f fd ps (Tf X.K pf))(hr:Room k X.A)(hg:Gl X x)(hm:X.mg x=some (.ref f))(hk:PySem.W.keepIn X.K (.ref f)=true)(hb:Binds X.K fd ps [])(hx:Pm CX X E)(ha:jJ X (e::es) da)(hdb:(x == ("__debug__" : Str))=false:=by decide)(he:Bq (e::es) X.env=(false,eval e X.env)::Bq es X.env:=by rfl)(hpl:(Gu pos (Bq es X.env)).any (·.1)=false:=by rfl):Em X (.Call (.Name x p) (e::es) [] pos) (xE pf da):=by
 refine PE.imp (Vl F hr hg hm hk hb .nil hx ha hdb he hpl) λσ H Q h=>?_
 obtain ⟨H0,Y,S,T,δ,P,rfl,hS,hA,hd,kk⟩:=h
 refine ⟨H0,Y,S,T,δ,_,rfl,hS,hA,hd,λxs δ' As us S' H' e1 e2 ex eu hA' p=>?_⟩
 subst ex
 cases q:datas (As.map Ent.x) with
 | none=>rw[q] at p; exact p.elim
 | some ds =>
  rw[q] at p
  rw[Dz]
  refine ⟨As,δ'.n,ds,_,eu,λe he=>hA'.ok e (Al _ (Ao _ he)),q,p,λv d F H'' r rd nd fr s=>?_⟩
  exact kk _ δ' v F S' H'' e1 e2 (((hA'.dropL.grow s (Ak _)).pushF rd nd (λa ha=>hA'.dropL.free (fr a ha)) (λa ha=>hA'.new0 (fr a ha))).tomid) r
theorem BO(F:FnOk X.prog X.w X.K X.mg X.base CX k f fd ps (Tf X.K pf))(hr:Room k X.A)(hg:Gl X x)(hm:X.mg x=some (.ref f))(hk:PySem.W.keepIn X.K (.ref f)=true)(hb:Binds X.K fd ps [])(hx:Pm CX X E)(hdb:(x == ("__debug__" : Str))=false:=by decide):Em X (.Call (.Name x p) [] [] pos) (xE pf U5):=by
 refine PE.imp (p9 F hr hg hm hk hb .nil hx hdb) λσ H Q h=>?_
 obtain ⟨H0,Y,S,T,δ,P,rfl,hS,hA,hd,kk⟩:=h
 show Tf X.K pf [] H Q E
 refine ⟨[],δ.n,[],_,rfl,λe he=>(nomatch he),rfl,hd,λv d F H'' r rd nd fr s=>?_⟩
 exact kk _ δ v F S H'' rfl hS (((hA.grow s (Ak _)).pushF rd nd (λa ha=>hA.free (fr a ha)) (λa ha=>hA.new0 (fr a ha))).tomid) r
theorem Ji(F:FnOk X.prog X.w X.K X.mg X.base CX k f fd ps (mQ X.K df))(hr:Room k X.A)(hg:Gl X x)(hm:X.mg x=some (.ref f))(hk:PySem.W.keepIn X.K (.ref f)=true)(hb:Binds X.K fd ps [])(hx:Pm CX X E)(h0:PE X e0 (cJ i))(ha:jJ X es da)(hdb:(x == ("__debug__" : Str))=false:=by decide)(he:Bq (e0::es) X.env=(false,eval e0 X.env)::Bq es X.env:=by rfl)(hpl:(Gu pos (Bq es X.env)).any (·.1)=false:=by rfl):Em X (.Call (.Name x p) (e0::es) [] pos) (pF i df da):=by
 refine PE.imp (Vl F hr hg hm hk hb .nil hx (Gs h0 ha he) hdb he hpl) λσ H Q h=>?_
 obtain ⟨H0,Y,S,T,δ,P,rfl,hS,hA,hd,kk⟩:=h
 unfold pF at hd
 split at hd
 case h_2=>exact hd.elim
 rename_i hsl0
 have main:∀w,(vs S)[i]? = some (some w)->LA X.K da (vs S) H λxs H2=>mQ X.K df ((w::xs)++[]) H2 Q E:=λw hw=>by
  refine ⟨H0,Y,S,T,δ,_,rfl,hS,hA,hd,λxs δ' As us S' H' e1 e2 ex eu hA' p=>?_⟩
  subst ex
  split at p
  ·rename_i hsl
   obtain ⟨ent,s1,s2⟩:=Hh e2 hsl
   have hm':ent∈S':=Ax s1
   have hv:ent.v=some w:=by
    have:=Lp s1
    rw[e1,hw] at this
    exact (Bp this).symm
   obtain ⟨u,z,F⟩:=ent
   have s2':z=.drw:=s2
   subst s2'
   have hE:(⟨u,.drw,F⟩ : Ent)∈S'++(As++T):=Ao _ hm'
   obtain ⟨dr,c0,k0,f0,hv0,hF0,hd0,hk0,hk1⟩:=hA'.ok _ hE
   have ew:some w=some (V.ref dr):=hv.symm.trans hv0
   cases ew
   have hF':F=[dr]:=hF0
   subst hF'
   cases q:datas (As.map Ent.x) with
   | none=>rw[q] at p; exact p.elim
   | some ds =>
    rw[q] at p
    rw[Dz]
    refine ⟨dr,us,As,δ'.n,ds,_,rfl,eu,λe he=>hA'.ok e (Al _ (Ao _ he)),λe he=>?_,⟨c0,k0,f0,hd0,hk0,hk1⟩,q,p,λv d F n' H'' hn r rd nd fr hdr s=>?_⟩
    ·obtain ⟨_,_,hp⟩ := Ca.mp hA'.sep
     exact (hp _ hm' e (Ao _ he)).1 (.inr rfl) dr Ab
    ·have hA2:=hA'.dropL.drawn (Ao _ hm') rfl hv s hdr hn
     exact kk _ ⟨δ'.sl,n'⟩ v F S' H'' e1 e2 ((hA2.pushF rd nd (λa ha=>hA'.dropL.free (fr a ha)) (λa ha=>hA'.new0 (fr a ha))).tomid) r
  ·exact p.elim
 obtain ⟨ent,s1,s2⟩:=Hh hS hsl0
 have hm':ent∈S:=Ax s1
 obtain ⟨u,z,F⟩:=ent
 have s2':z=.drw:=s2
 subst s2'
 obtain ⟨dr,c0,k0,f0,hv0,_⟩:=hA.ok _ (Ao _ hm')
 have hw:(vs S)[i]? = some (some (.ref dr)):=(Lp s1).trans (congrArg some hv0)
 exact ⟨_,hw,main _ hw⟩
def Vp:Sp:=λvs H Q _=>∃c:Int,vs=[.int c]/\∀(p:Addr) (c':Int) (f:Bool) (H':Hp),H p=none->aW H' p c' 0 f->Ms H H'->Q (.ref p) H'
def n8(da:DA):DE:=λδ P=>da δ λxs δ1=>match xs with
 | [.dat _ (.int _)]=>P .drw δ1
 | _=>False
theorem mF(F:FnOk X.prog X.w X.K X.mg X.base CX k f fd ps Vp)(hr:Room k X.A)(hg:Gl X x)(hm:X.mg x=some (.ref f))(hk:PySem.W.keepIn X.K (.ref f)=true)(hb:Binds X.K fd ps [])(hx:Pm CX X E)(ha:jJ X (e::es) da)(hdb:(x == ("__debug__" : Str))=false:=by decide)(he:Bq (e::es) X.env=(false,eval e X.env)::Bq es X.env:=by rfl)(hpl:(Gu pos (Bq es X.env)).any (·.1)=false:=by rfl):Em X (.Call (.Name x p) (e::es) [] pos) (n8 da):=by
 refine PE.imp (Vl F hr hg hm hk hb .nil hx ha hdb he hpl) λσ H Q h=>?_
 obtain ⟨H0,Y,S,T,δ,P,rfl,hS,hA,hd,kk⟩:=h
 refine ⟨H0,Y,S,T,δ,_,rfl,hS,hA,hd,λxs δ' As us S' H' e1 e2 ex eu hA' p=>?_⟩
 split at p
 ·obtain ⟨v,F,rfl,hA2⟩:=Gh eu hA' ex
  obtain ⟨rfl,_⟩:=(hA2.told mem_mid).int_inv
  refine ⟨_,rfl,λq c' fl H'' nq hdr s=>?_⟩
  have h3:=hA2.drop.grow (n':=δ'.n) s (Ak _)
  refine kk _ δ' _ [q] S' H'' e1 e2 ((h3.push (e:=⟨some (.ref q),.drw,[q]⟩) ⟨q,_,0,fl,rfl,rfl,hdr,by decide,by omega⟩ (λf hf=>?_) λa ha=>?_).tomid) p
  ·have nf:=hA2.drop.free nq f hf
   refine ⟨λ_ a ha z=>?_,λ_ a ha z=>?_⟩
   ·rw[Af.mp ha] at z
    exact nf z
   ·rw[Af.mp z] at ha
    exact nf (En _ _ ha)
  ·rw[Af.mp ha]
   exact .inl (hA2.new0 nq)
 ·exact p.elim
end
def args0(ds:List Ac)(k:Nat):List DV:=ds.map (λd=>.dat .sh d)++Bl k .un
def Wz(e:Ent):Ent:=match e.x with
 | .dat _ d=>⟨e.v,.dat .sh d,e.F⟩
 | _=>e
theorem Il:∀{xs:List DV} {ds:List Ac},datas xs=some ds->xs.length=ds.length
 | [],ds,h=>by cases h; rfl
 | x::xs,ds,h=>by
  cases x with
  | dat m d =>
   cases q:datas xs with
   | none=>simp [datas,q] at h
   | some es =>
    simp [datas,q] at h
    subst h
    rw[Br,Br,Il q]
  | _=>cases h
theorem Rr:∀{As:List Ent} {ds:List Ac},datas (As.map Ent.x)=some ds->(As.map Wz).map Ent.x=ds.map (λd=>.dat .sh d)
 | [],ds,h=>by cases h; rfl
 | ⟨v,x,F⟩::As,ds,h=>by
  rw[Aw] at h
  cases x with
  | dat m d =>
   cases q:datas (As.map Ent.x) with
   | none=>simp [datas,q] at h
   | some es =>
    simp [datas,q] at h
    subst h
    rw[Aw,Aw,Aw,Rr q]
    rfl
  | _=>cases h
theorem Xs:∀{As:List Ent} {ds:List Ac},datas (As.map Ent.x)=some ds->∀e∈As,∃m d,e.x=.dat m d
 | [],ds,h,e,he=>nomatch he
 | ⟨v,x,F⟩::As,ds,h,e,he=>by
  rw[Aw] at h
  cases x with
  | dat m d =>
   cases q:datas (As.map Ent.x) with
   | none=>simp [datas,q] at h
   | some es =>
    rcases Ah.mp he with rfl | he
    ·exact ⟨m,d,rfl⟩
    ·exact Xs q e he
  | _=>cases h
theorem L7(As:List Ent):(As.map Wz).map Ent.v=As.map Ent.v:=by
 rw[Ce]
 refine Fo λe _=>?_
 obtain ⟨v,x,F⟩:=e
 cases x <;> rfl
def Gq(k:Nat):List Ent:=Bl k ⟨none,.un,[]⟩
theorem Zj{As:List Ent}(q:datas (As.map Ent.x)=some ds)(k:Nat):∀e∈As.map Wz++Gq k,cells e=[]/\Y0 e.x=false:=λe he=>by
 rcases Ay.mp he with he | he
 ·obtain ⟨f,hf,rfl⟩:=Bu.mp he
  obtain ⟨m,d,hx⟩:=Xs q f hf
  obtain ⟨v,x,F⟩:=f
  have hx':x=.dat m d:=hx
  subst hx'
  exact ⟨rfl,rfl⟩
 ·rw[(Ha.mp he).2]
  exact ⟨rfl,rfl⟩
theorem Qe{α:Type}{R:α->α->Prop}:∀{l:List α},(∀a∈l,∀b∈l,R a b)->l.Pairwise R
 | [],_=>Kq
 | a::l,h=>Bb.mpr ⟨λb hb=>h a Ab b (Ae _ hb),Qe λx hx y hy=>h x (Ae _ hx) y (Ae _ hy)⟩
theorem qN{K:PySem.W.Frag}{As:List Ent}(q:datas (As.map Ent.x)=some ds)(ok:∀e∈As,Gr K H n e)(k:Nat):∀e∈As.map Wz++Gq k,Gr K H n e:=λe he=>by
 rcases Ay.mp he with he | he
 ·obtain ⟨f,hf,rfl⟩:=Bu.mp he
  obtain ⟨m,d,hx⟩:=Xs q f hf
  have o:=ok f hf
  obtain ⟨v,x,F⟩:=f
  have hx':x=.dat m d:=hx
  subst hx'
  obtain ⟨w,h1,h2,_⟩:=o
  exact ⟨w,h1,h2,λz=>(nomatch z),λz=>(nomatch z)⟩
 ·rw[(Ha.mp he).2]
  exact (rfl:([]:List Addr)=[])
theorem Mi{α β:Type}(f:α->β)(k:Nat)(a:α):(Bl k a).map f=Bl k (f a):=by
 rw[List.map_replicate]
def retE(R:Ac->Prop):DEnds where
 nx:=λ_=>R .none
 rt:=λx _=>∃d,x=.dat .ow d/\R d
def retW(n:Nat)(R:Ac->Nat->Prop):DEnds where
 nx:=λδ=>n<=δ.n/\R .none δ.n
 rt:=λx δ=>n<=δ.n/\∃d,x=.dat .ow d/\R d δ.n
section
variable{P:Bs}{w:World}{K:PySem.W.Frag}{mg:Str->Option Value}{base:Heap}
theorem Kk{x qual:Str}{st:Stmt}(F:Fun K x qual st f fd)(S:FnScope N ps (Bm st))(hb:∀(cdv:Value) (A:Cs) (outer:List Env) (s:Aj) (H:Hp) (E:XK),Room k (A.deeper (envOfC qual (Bm st) s.heap.objs.size f cdv))->Wx (Iy Gp P w K mg base N qual (Bm st) f cdv A outer s H E).nox (Iu st) db)(h:∀ds R,pf ds R->ds.length=ps.length/\db (retE R) ⟨args0 ds (N.length - ps.length),0⟩):FnOk P w K mg base Gp (k+1) f fd ps (Tf K pf):=by
 refine F.ok S (λvs H Q E z=>?_) λcdv A outer s H us Q E hr z=>?_
 ·obtain ⟨As,n,ds,R,eu,ok,q,hp,_⟩:=z
  have l1:=(h ds R hp).1
  have l2:=Il q
  rw[Ad] at l2
  have l3:=congrArg Fb eu
  rw[Ad,Ad] at l3
  omega
 ·obtain ⟨As,n,ds,R,eu,ok,q,hp,k1⟩:=z
  obtain ⟨l1,hd⟩:=h ds R hp
  have l2:=Il q
  rw[Ad] at l2
  have l3:=congrArg Fb eu
  rw[Ad,Ad] at l3
  refine ⟨_,hb cdv A outer s H E hr,H,λ_=>False,As.map Wz++Gq (N.length - ps.length),[],⟨args0 ds (N.length - ps.length),0⟩,retE R,?_,?_,λ_ z=>(nomatch z),?_,hd,λδ' S' H' e1 hA p=>?_,λx δ' v F' S' H' e1 hA p=>?_,λ_ _ _ _ _ p=>p.elim,λ_ _ _ _ _ p=>p.elim⟩
  ·unfold vs L2.start Gq
   rw[Bi,L7,eu,Mi,show us.length=ps.length by omega]
  ·unfold Sl args0 Gq
   rw[Bi,Rr q,Mi]
  ·rw[Dz]
   have hs:=Zj q (N.length - ps.length)
   refine ⟨λe he=>?_,Qe λa ha b hb'=>⟨λhq c hc=>?_,λhq c hc=>?_⟩,λe he a ha=>?_,λb o _ e=>e,λb o e=>⟨o,e⟩,λb hb=>hb.elim⟩
   ·have:=qN q ok (N.length - ps.length) e he
    obtain ⟨v,x,F⟩:=e
    cases x with
    | drw=>exact absurd (hs _ he).2 (by show ¬ (true=false); decide)
    | _=>exact this
   ·rw[(hs a ha).1] at hc; cases hc
   ·rw[(hs b hb').1] at hc; cases hc
   ·rw[(hs e he).1] at ha; cases ha
  ·exact k1 .non .none [] H' p .non Dc (λ_ z=>(nomatch z)) λb o e=>hA.same b o (λz=>z) e
  ·obtain ⟨d,rfl,r⟩:=p
   rw[show S'++[(⟨some v,.dat .ow d,F'⟩ : Ent)]=S'++⟨some v,.dat .ow d,F'⟩::[] from rfl] at hA
   obtain ⟨u,e2,rd,nd,_⟩:=hA.ok _ mem_mid
   cases e2
   refine k1 v d F' H' r rd (nd rfl) (λa ha=>?_) λb o e=>hA.same b o (λz=>z) e
   rcases hA.new _ mem_mid a ha with z | z
   ·exact z
   ·exact z.1.elim
theorem gH{x qual:Str}{st:Stmt}{f:Addr}(F:Fun K x qual st f fd)(S:FnScope N (p0::ps) (Bm st))(hb:∀(cdv:Value) (A:Cs) (outer:List Env) (s:Aj) (H:Hp) (E:XK),Room k (A.deeper (envOfC qual (Bm st) s.heap.objs.size f cdv))->Wx (Iy Gp P w K mg base N qual (Bm st) f cdv A outer s H E).nox (Iu st) db)(h:∀ds n R,df ds n R->ds.length=ps.length/\db (retW n R) ⟨.drw::args0 ds (N.length - (p0::ps).length),n⟩):FnOk P w K mg base Gp (k+1) f fd (p0::ps) (mQ K df):=by
 refine F.ok S (λvs H Q E z=>?_) λcdv A outer s H us Q E hr z=>?_
 ·obtain ⟨dr,ws,As,n,ds,R,rfl,eu,ok,nd,hdr,q,hp,_⟩:=z
  have l1:=(h ds n R hp).1
  have l2:=Il q
  rw[Ad] at l2
  have l3:=congrArg Fb eu
  rw[Ad,Ad] at l3
  rw[Br,Br]
  omega
 ·obtain ⟨dr,ws,As,n,ds,R,rfl,eu,ok,ndr,hdr,q,hp,k1⟩:=z
  obtain ⟨l1,hd⟩:=h ds n R hp
  have l2:=Il q
  rw[Ad] at l2
  have l3:=congrArg Fb eu
  rw[Ad,Ad] at l3
  -- what the end tells of the draws: they stand in an old cell
  have ends:∀{E':List Ent} {n':Nat} {H':Hp},At K H (·=dr) n' E' H'->∀b o,b≠dr->H b=some o->H' b=some o:=λhA b o nb e=>hA.same b o nb e
  refine ⟨_,hb cdv A outer s H E hr,H,(·=dr),⟨some (.ref dr),.drw,[dr]⟩::(As.map Wz++Gq (N.length - (p0::ps).length)),[],⟨.drw::args0 ds (N.length - (p0::ps).length),n⟩,retW n R,?_,?_,λ_ z=>(nomatch z),?_,hd,λδ' S' H' e1 hA p=>?_,λx δ' v F' S' H' e1 hA p=>?_,λ_ _ _ _ _ p=>p.elim,λ_ _ _ _ _ p=>p.elim⟩
  ·unfold vs L2.start Gq
   rw[Aw,Bi,L7,eu,Mi,Br,Br,show ws.length=ps.length by omega]
   rfl
  ·unfold Sl args0 Gq
   rw[Aw,Bi,Rr q,Mi]
  ·rw[Dz]
   have hs:=Zj q (N.length - (p0::ps).length)
   have hsub:∀e∈As.map Wz++Gq (N.length - (p0::ps).length),dr∉e.F:=λe he=>by
    rcases Ay.mp he with he | he
    ·obtain ⟨f,hf,rfl⟩:=Bu.mp he
     obtain ⟨v,x,F⟩:=f
     have:=ndr _ hf
     cases x <;> exact this
    ·rw[(Ha.mp he).2]
     exact Av
   refine ⟨λe he=>?_,Bb.mpr ⟨λb hb'=>⟨λhq c hc=>?_,λhq c hc=>?_⟩,Qe λa ha b hb'=>⟨λhq c hc=>?_,λhq c hc=>?_⟩⟩,λe he a ha=>?_,λb o _ e=>e,λb o e=>⟨o,e⟩,λb hb=>?_⟩
   rotate_right
   ·subst hb
    obtain ⟨c,kk,fl,z1,z2⟩:=hdr
    exact ⟨λz=>(by rw[show H b=some _ from z1] at z; cases z),c,kk,fl,z1,z2⟩
   ·rcases Ah.mp he with rfl | he
    ·obtain ⟨c,kk,fl,z1,z2,z3⟩:=hdr
     exact ⟨dr,c,kk,fl,rfl,rfl,z1,z2,z3⟩
    ·exact qN q ok _ e he
   ·rw[Af.mp hc]
    exact hsub b hb'
   ·rw[(hs b hb').1] at hc; cases hc
   ·rw[(hs a ha).1] at hc; cases hc
   ·rw[(hs b hb').1] at hc; cases hc
   ·rcases Ah.mp he with rfl | he
    ·rw[Af.mp ha]
     exact .inr ⟨rfl,rfl⟩
    ·rw[(hs e he).1] at ha; cases ha
  ·exact k1 .non .none [] δ'.n H' p.1 p.2 .non Dc (λ_ z=>(nomatch z)) (hA.xd dr rfl).2 (ends hA)
  ·obtain ⟨hn,d,rfl,r⟩:=p
   rw[show S'++[(⟨some v,.dat .ow d,F'⟩ : Ent)]=S'++⟨some v,.dat .ow d,F'⟩::[] from rfl] at hA
   obtain ⟨u,e2,rd,nd,_⟩:=hA.ok _ mem_mid
   cases e2
   refine k1 v d F' δ'.n H' hn r rd (nd rfl) (λa ha=>?_) (hA.xd dr rfl).2 (ends hA)
   rcases hA.new _ mem_mid a ha with z | z
   ·exact z
   ·cases z.2
end
end DL
namespace L2
open PySem PySem.Spec PyProof.Rows
def vQ(H:Hp):Prop:=∀b,H b=none\/(∃o xs,H b=some (.frz o (.lst xs)))\/∃ps,H b=some (.tbl ps)
def lK(tabs:List (Addr×Addr×Str))(H:Hp):Hp:=λb=>match tabs.find? (λr=>r.2.1 == b) with | some t=>some (.tbl #[.str t.2.2 0]) | none=>H b
theorem Up(h:tabs.find? (λr=>r.2.1 == b)=some t):lK tabs H b=some (.tbl #[.str t.2.2 0]):=by unfold lK; rw[h]
theorem Lz(h:tabs.find? (λr=>r.2.1 == b)=none):lK tabs H b=H b:=by unfold lK; rw[h]
def iA(q:Bs)(K:PySem.W.Frag):Prop:=∃tabs:List (Addr×Addr×Str),(∀t∈tabs,∃x d,(recsOf q).find? (λe=>e.name == x)=some d/\PySem.W.tabIn K x=some (t.1,t.2.1))/\(∀t∈tabs,∀t'∈tabs,t.2.1=t'.2.1->t=t') /\
 (∀x∈Vj,∀c P,PySem.W.tabIn K x=some (c,P)->(c,P,T5 x)∈tabs)/\∀t∈tabs,K.lookup t.2.1=none
theorem K1(hx:x∈Vj):x = "often" \/ x = "cut_by" := by
 rcases Ah.mp hx with h | hx
 ·exact .inl h
 ·exact .inr (Af.mp hx)
theorem vC{K:PySem.W.Frag}(h1:PySem.W.tabIn K "often" = none)(h2:PySem.W.tabIn K "cut_by" = none):iA q K:=by
 refine ⟨[],λ_ z=>(nomatch z),λ_ z=>(nomatch z),λx hx c P e=>?_,λ_ z=>(nomatch z)⟩
 rcases K1 hx with rfl | rfl
 ·rw[h1] at e; cases e
 ·rw[h2] at e; cases e
theorem tZ{P:Bs}{w:World}{K:PySem.W.Frag}{mg mb:Str->Option Value}{CX:rM}{k:Nat}{fa a:Addr}(tabs:List (Addr×Addr×Str))(hT:∀t∈tabs,PySem.W.CodeHd s₁.heap t.1 t.2.1/\s₁.heap.get? t.2.1=some (PySem.W.tabObj #[]))(hu:∀t∈tabs,∀t'∈tabs,t.2.1=t'.2.1->t=t')(hL:∀x∈Vj,∀c P,PySem.W.tabIn K x=some (c,P)->(c,P,T5 x)∈tabs)(hnt:∀t∈tabs,K.lookup t.2.1=none)(hbm:∃bm ob,mg "__builtins__" = some (.ref bm)/\bm≠Vd/\s₁.heap.get? bm=some ob/\ob.cls=.type "module" /\ ob.dict=some Vd/\ob.data=.plain)(KX:K.In s₁.heap)(hns:s₁.heap.Ns Ci mg)(hb:s₁.heap.Ns Vd mb)(hbb:∀x:Str,x ≠ "__name__" -> mb x=Jt x)(hlim:s₁.heap.NoLimit)(hg:s₁.gens=#[])(ha:s₁.heap.get? a=some { cls:=.type "list",data:=.seq vs.toArray })(hi:Kj vs ns)(hl:ns.length<=Au)(hr:Room k Zb)(F:∀base:Heap,K.In base->base.Ns Ci mg->FnOk P w K mg base CX k fa fd [x] sp)(hbind:∀(s:Aj) (u:Value),BindsTo s fd ⟨[u],[]⟩ [(x,u)])(hsp:∀H:Hp,vQ H->DL.KL K H a (ns.map V.int)->sp [.ref a] H (λv _=>v=.bl true) λ_ _ _=>False)(hCX:∀H e s',CX [] H s₁ (λ_ _ _=>False) e s'->False):Oo (model P w) Zb (.call (.ref fa) ⟨[.ref a],[]⟩) (λr s'=>r=.ok (.ret (.bool true))/\OldK s₁.heap s'.heap/\s'.os=s₁.os/\Sn s'.gens) s₁:=by
 have rv:=fA hi
 have lenV:=hi.length
 -- from an abstract heap in which nothing but the script may be tracked
 have core:∀H:Hp,vQ H->DL.KL K H a (ns.map V.int)->Wo P w H s₁.heap->(∀b,H b≠none->b=a\/∃t∈tabs,b=t.2.1)->(H a≠none->K.lookup a=none)->(∀t∈tabs,O2 H t.2.1 t.2.2) ->
   Oo (model P w) Zb (.call (.ref fa) ⟨[.ref a],[]⟩) (λr s'=>r=.ok (.ret (.bool true))/\OldK s₁.heap s'.heap/\s'.os=s₁.os/\Sn s'.gens) s₁:=by
  intro H hO hS hok hA hK hTH
  have base_of:∀{b:Addr} {o:Obj},s₁.heap.get? b=some o->H b=none->(dD s₁.heap H).get? b=some o:=λe n=>zG e n
  have noA:∀{b:Addr} {o:Obj} {es:Array Hz} {ep:Nat},s₁.heap.get? b=some o->o.data=.dict es ep->H b=none:=λ{b o es ep} e d=>by
   cases q:H b with
   | none=>rfl
   | some u =>
    rcases hA b (by rw[q]; simp) with e' | ⟨t,ht,e'⟩
    ·subst e'
     rw[ha] at e; cases e
     have d':Data.seq vs.toArray _=Data.dict es ep:=d
     cases d'
    ·rw[e',(hT t ht).2] at e; cases e
     cases d
  have nsK:∀{b:Addr} {m:Str->Option Value},s₁.heap.Ns b m->(dD s₁.heap H).Ns b m:=λ{b m} ⟨o,es,ep,e,d,r⟩=>⟨o,es,ep,base_of e (noA e d),d,r⟩
  have hKb:K.In (dD s₁.heap H):=λb o e=>base_of (KX b o e) (by
   cases q:H b with
   | none=>rfl
   | some u =>
    rcases hA b (by rw[q]; simp) with e' | ⟨t,ht,e'⟩
    ·subst e'
     rw[hK (by rw[q]; simp)] at e; cases e
    ·rw[e',hnt t ht] at e; cases e)
  have noC:∀{b:Addr} {o:Obj},s₁.heap.get? b=some o->o.cls≠.none->o.cls≠.type "list" -> H b=none:=λ{b o} e d d2=>by
   cases q:H b with
   | none=>rfl
   | some u =>
    rcases hA b (by rw[q]; simp) with e' | ⟨t,ht,e'⟩
    ·subst e'
     rw[ha] at e; cases e
     exact absurd rfl d2
    ·rw[e',(hT t ht).2] at e; cases e
     exact absurd rfl d
  have hTb:zD K mg (dD s₁.heap H) H:=λx hx c P e=>by
   have ht:=hL x hx c P e
   obtain ⟨bm,ob,b1,b2,b3,b4,b5,b6⟩:=hbm
   obtain ⟨⟨o,us,file,tf,flags,tg,inF,text,tt,e1,r1,r2⟩,hP⟩:=hT _ ht
   refine ⟨⟨o,us,file,tf,flags,tg,inF,text,tt,base_of e1 (noC e1 (by rw[r1]; nofun) (by rw[r1]; simp)),r1,r2⟩,⟨bm,ob,b1,b2,λz=>?_,λz=>?_,base_of b3 (noC b3 (by rw[b4]; nofun) (by rw[b4]; simp)),b4,b5,b6⟩,hTH _ ht⟩
   ·obtain ⟨o',es,ep,e',d,_⟩:=hns
    rw[<- z,b3] at e'; cases e'; rw[b6] at d; cases d
   ·have hP:s₁.heap.get? P=_:=hP
    rw[<- z,b3] at hP; cases hP; cases b4
  have hM:Mod K mg (dD s₁.heap H):=⟨hKb,nsK hns,⟨mb,nsK hb,hbb⟩,let ⟨mc,h1,h2⟩:=hlim; ⟨mc,nsK h1,h2⟩⟩
  have e0:Env0 P w K mg (dD s₁.heap H) Zb [] s₁ H:=⟨rfl,hM,λb o e=>K6 e,Nat.le_of_eq (tM _ _),trivial,λb hb=>absurd (show b∈([]:List Addr) from hb) (by simp),hok,.of_eq hg,hTb⟩
  refine codeAny_mono ((F _ hKb (nsK hns)).run Zb [] s₁ H ⟨[.ref a],[]⟩ [.ref a] [.ref a] _ _ hr e0 (hbind s₁ (.ref a)) (.cons rfl .nil) (hsp H hO hS)) λr s' h=>?_
  cases r with
  | error e=>exact (hCX H e s' h).elim
  | ok fl =>
   cases fl with
   | next=>exact Kc h
   | brk=>exact Kc h
   | cont=>exact Kc h
   | ret u =>
    obtain ⟨v,H',os,bare,un,hok',r',q⟩:=h
    have q':v=.bl true:=q
    subst q'
    obtain rfl:u=Value.bool true:=r'
    have old:∀b o,s₁.heap.get? b=some o->s'.heap.get? b=some o\/∃t∈tabs,b=t.2.1:=λb o e=>by
     cases q:H b with
     | none=>exact .inl (un.keep b o e q (by intro z; exact absurd (show b∈([]:List Addr) from z) (by simp)) (by simp))
     | some u =>
      rcases hO b with z | ⟨ob,xs,z⟩ | ⟨ps,z⟩
      ·rw[q] at z; cases z
      ·have z2:=un.frzs b ob _ z
       obtain ⟨e1,_⟩:=hok b _ z
       obtain ⟨e2,_⟩:=hok' b _ z2
       rw[e] at e1; cases e1
       exact .inl e2
      ·rcases hA b (by rw[q]; simp) with e' | h'
       ·obtain ⟨_,e1,_⟩:=hok b _ z
        rw[e',ha] at e1; cases e1
       ·exact .inr h'
    have grown:∀t∈tabs,∃ps,s'.heap.get? t.2.1=some (PySem.W.tabObj ps):=λt ht=>by
     obtain ⟨ps,t0,h3,_⟩:=hTH t ht
     obtain ⟨more,h5⟩:=un.tbls _ _ h3
     obtain ⟨qs,e1,_⟩:=hok' _ _ h5
     exact ⟨qs,e1⟩
    refine ⟨rfl,⟨λb o e=>?_,λb o e=>?_⟩,os,bare⟩
    ·rcases old b o e with z | ⟨t,ht,rfl⟩
     ·exact .inl z
     ·obtain ⟨ps,hP⟩:=grown t ht
      have e2:=(hT t ht).2
      rw[e] at e2
      cases e2
      exact .inr (.inl ⟨((hT t ht).1.tab (hT t ht).2).isCodeTable,rfl,#[],ps,rfl,by rw[Array.empty_append]; exact hP⟩)
    ·rcases old b o e with z | ⟨t,ht,rfl⟩
     ·exact ⟨_,z⟩
     ·obtain ⟨ps,hP⟩:=grown t ht
      exact ⟨_,hP⟩
 have tabH:∀(t:Addr×Addr×Str),t∈tabs->tabs.find? (λr=>r.2.1 == t.2.1)=some t:=λt ht=>by
  cases q:tabs.find? (λr=>r.2.1 == t.2.1) with
  | none=>exact absurd (List.find?_eq_none.mp q t ht) (by simp)
  | some r=>exact congrArg some (hu r (Qj q) t ht (by have:=List.find?_some q; simpa using this))
 have neA:∀t∈tabs,t.2.1≠a:=λt ht z=>by
  have e:=(hT t ht).2
  rw[z,ha] at e; cases e
 have all:∀H:Hp,(∀b,H b=none\/∃o xs,H b=some (.frz o (.lst xs)))->(∀b,H b≠none->b=a)->(H a≠none->K.lookup a=none)->DL.KL K H a (ns.map V.int)->Wo P w H s₁.heap ->
   Oo (model P w) Zb (.call (.ref fa) ⟨[.ref a],[]⟩) (λr s'=>r=.ok (.ret (.bool true))/\OldK s₁.heap s'.heap/\s'.os=s₁.os/\Sn s'.gens) s₁:=by
  intro H h1 h2 h3 h4 h5
  refine core (lK tabs H) (λb=>?_) ?_ (λb u z=>?_) (λb z=>?_) (λz=>?_) λt ht=>?_
  ·cases q:tabs.find? (λr=>r.2.1 == b) with
   | some t=>exact .inr (.inr ⟨_,Up q⟩)
   | none =>
    rcases h1 b with z | ⟨o,xs,z⟩
    ·exact .inl (by rw[Lz q]; exact z)
    ·exact .inr (.inl ⟨o,xs,by rw[Lz q]; exact z⟩)
  ·have na:tabs.find? (λr=>r.2.1 == a)=none:=w4.mpr λt ht z=>neA t ht (by simpa using z)
   rcases h4 with ⟨o,h⟩ | h
   ·exact .inl ⟨o,by rw[Lz na]; exact h⟩
   ·exact .inr h
  ·cases q:tabs.find? (λr=>r.2.1 == b) with
   | some t =>
    rw[Up q] at z
    cases z
    have eb:t.2.1=b:=by have:=List.find?_some q; simpa using this
    exact ⟨#[],by rw[<- eb]; exact (hT t (Qj q)).2,by simp [TriplesOk],λpos v y=>by simp [codeAmong] at y⟩
   | none =>
    rw[Lz q] at z
    rcases h1 b with y | ⟨o,xs,y⟩
    ·rw[z] at y; cases y
    ·rw[z] at y
     cases y
     exact h5 b _ z
  ·cases q:tabs.find? (λr=>r.2.1 == b) with
   | some t=>exact .inr ⟨t,Qj q,by have:=List.find?_some q; exact (by simpa using this : t.2.1=b).symm⟩
   | none =>
    rw[Lz q] at z
    exact .inl (h2 b z)
  ·have na:tabs.find? (λr=>r.2.1 == a)=none:=w4.mpr λt ht z=>neA t ht (by simpa using z)
   rw[Lz na] at z
   exact h3 z
  ·exact ⟨#[.str t.2.2 0],0,Up (tabH t ht),rfl⟩
 cases hk:K.lookup a with
 | some o =>
  -- the script is one of the module's own objects
  have e:=KX a o hk
  rw[ha] at e
  cases e
  exact all (λ_=>none) (λ_=>.inl rfl) (λb z=>absurd rfl z) (λz=>absurd rfl z) (.inr ⟨vs.toArray,_,hk,by rw[Aq,lenV]; exact hl,by simpa using rv⟩) (λb u z=>by have z':(none:Option HO)=some u:=z; cases z')
 | none =>
  refine all (λb=>if b=a then some (.frz { cls:=.type "list",data:=.seq vs.toArray } (.lst (ns.map V.int))) else none) (λb=>?_) (λb z=>?_) (λ_=>hk) (.inl ⟨{ cls:=.type "list",data:=.seq vs.toArray },if_pos rfl⟩) (λb u z=>?_)
  ·by_cases hb:b=a
   ·exact .inr ⟨_,_,if_pos hb⟩
   ·exact .inl (if_neg hb)
  ·by_cases hb:b=a
   ·exact hb
   ·exact absurd (if_neg hb) z
  ·by_cases hb:b=a
   ·have z':=(if_pos hb).symm.trans z
    cases z'
    subst hb
    exact ⟨ha,by rw[Ad]; exact hl,vs,_,rv,ha⟩
   ·have z':=(if_neg hb).symm.trans z
    cases z'
theorem walk_ofD{l:PySem.W.OpenLaw}{n k:Nat}{q:Bs}{loose:List Str}{XP:(Str->Option Value)->Heap->Prop}{K:Params->PySem.W.Frag}{CX:World->rM}{sp:World->Sp}(hn:l.most=some n)(hn2:n<=Au)(hdf:d.params.defaults=[])(hr:Room k Zb)(hY:∀(w:World) (h:Heap),YP w h->(K w.params).In h)(F:∀(w:World) (mg:Str->Option Value) (fa:Addr) (h:Heap),(K w.params).In h->h.Ns Ci mg->mg d.name=some (.ref fa)->(iA q (K w.params))/\∃fd:Cg,(∀(s:Aj) (u:Value),BindsTo s fd ⟨[u],[]⟩ [(x,u)])/\∀base:Heap,(K w.params).In base->base.Ns Ci mg->FnOk l.prog w (K w.params) mg base (CX w) k fa fd [x] (sp w))(hsp:∀(w:World) (H:Hp) (a:Addr) (ns:List Int),ns.length<=n->vQ H->DL.KL (K w.params) H a (ns.map V.int)->sp w [.ref a] H (λv _=>v=.bl true) λ_ _ _=>False)(hCX:∀(w:World) (H:Hp) (s:Aj) (e:Value) (s':Aj),CX w [] H s (λ_ _ _=>False) e s'->False):PySem.W.WalkO q loose XP YP l.row.toRowW d [] (λf vs=>PySem.call f vs):=by
 refine Att.attach_call hn hdf λw s₀ s₁ mg mb fa o pm cd doc a vs ns G Y ho hd hcd hmg hobj hints hlen hg=>?_
 have KX:=hY w _ Y
 obtain ⟨⟨tabs,t1,t2,t3,t4⟩,fd,hb,hF⟩:=F w mg fa _ KX G.T.g hmg
 exact tZ tabs (λt ht=>by
  obtain ⟨x,d,h1,h2⟩:=t1 t ht
  exact PySem.W.tab_of G.T KX h1 h2) t2 t3 t4 G.T.bmain KX G.T.g G.T.b G.T.builtins G.T.nolimit hg hobj hints (Bz hlen hn2) hr hF hb (λH hO hS=>hsp w H a ns hlen hO hS) λH e s'=>hCX w H s₁ e s'
end L2
namespace DL
open PySem PySem.Spec PyProof.Rows L2 Nd
def npk:List DV->Bool
 | []=>true
 | .dat .pk _::_=>false
 | _::xs=>npk xs
theorem aC:∀{S:List Ent} {sl:List DV},S.map Ent.x=sl->npk sl=true->∀e∈S,Le e.x=false
 | [],_,_,_,e,he=>nomatch he
 | ⟨v,x,F⟩::S,_,h,hn,e,he=>by
  subst h
  rw[Aw] at hn
  have : Le x=false/\npk (S.map Ent.x)=true:=by
   cases x with
   | dat m d=>cases m <;> first | exact ⟨rfl,hn⟩ | cases hn
   | _=>exact ⟨rfl,hn⟩
  rcases Ah.mp he with rfl | he
  ·exact this.1
  ·exact aC rfl this.2 e he
def own1:Md->Bool
 | .ow=>true
 | .tp=>true
 | _=>false
section
variable{K:PySem.W.Frag}{H0 H:Hp}{X:Addr->Prop}{n:Nat}{E:List Ent}
theorem At.write(h:At K H0 X n (⟨v,.dat m (.list ds),a::F⟩::E) H)(ho:own1 m=true)(hv:v=some (.ref a))(np:∀e∈E,Le e.x=false)(r:RdFs K H ys es G)(hG:G.Sublist F)(hz:es.length<=Au):At K H0 X n (⟨v,.dat m (.list es),a::G⟩::E) (upd H a (.lst ys)):=by
 obtain ⟨w,e1,rd,hn,ht⟩:=h.ok _ Ab
 obtain ⟨b,xs,G0,e2,ha,ra,eF,_⟩:=rd.list_inv
 have eF':a::F=b::G0:=eF
 cases eF'
 have hs:=Bb.mp h.sep
 have naF:a∉F:=by
  cases m with
  | ow=>exact (By.mp (hn rfl)).1
  | tp=>exact ht rfl a F rfl
  | sh=>cases ho
  | pk=>cases ho
 have ca:a∈cells ⟨v,.dat m (.list ds),a::F⟩:=by
  cases m <;> first | exact Ab | cases ho
 have kp:∀{F':List Addr},a∉F'->Kp F' H (upd H a (.lst ys)):=λ{F'} hF b o q z=>by
  have : b≠a:=by
   rintro rfl
   rw[ha] at q
   cases q
   rcases z with z | z
   ·exact hF z
   ·rcases z with ⟨_,z⟩ | ⟨_,_,z⟩ <;> cases z
  rw[Cy this]
  exact q
 have n0:H0 a=none:=by
  rcases h.new _ Ab a ca with z | z
  ·exact z
  ·cases z.2
 have cs:∀c∈cells ⟨v,.dat m (.list es),a::G⟩,c∈cells ⟨v,.dat m (.list ds),a::F⟩:=λc hc=>by
  cases m with
  | ow =>
   rcases Ah.mp hc with z | z
   ·exact Ah.mpr (.inl z)
   ·exact Ah.mpr (.inr (hG.subset z))
  | tp=>exact hc
  | sh=>cases ho
  | pk=>cases ho
 have hsub:∀c∈a::G,c∈a::F:=λc hc=>by
  rcases Ah.mp hc with z | z
  ·exact Ah.mpr (.inl z)
  ·exact Ah.mpr (.inr (hG.subset z))
 have naG:a∉G:=λz=>naF (hG.subset z)
 refine ⟨λf hf=>?_,?_,λf hf=>?_,λb o nx q=>?_,λb o q=>?_,λb hb=>?_⟩
 ·rcases Ah.mp hf with rfl | hf
  ·refine ⟨.ref a,hv,.lst Cp hz (r.kp (kp naG)),λz=>?_,λz c l e=>?_⟩
   ·exact By.mpr ⟨naG,(By.mp (hn z)).2.sublist hG⟩
   ·cases e
    exact naG
  ·exact (h.ok f (Ae _ hf)).kp (kp ((hs.1 f hf).1 (.inl (np f hf)) a ca)) (Ak _)
 ·refine Bb.mpr ⟨λf hf=>⟨λhq c hc=>(hs.1 f hf).1 (.inl (np f hf)) c (cs c hc),λhq c hc z=>(hs.1 f hf).2 (.inl ?_) c hc (hsub c z)⟩,hs.2⟩
  cases m <;> first | rfl | cases ho
 ·rcases Ah.mp hf with rfl | hf
  ·exact λc hc=>h.new _ Ab c (cs c hc)
  ·exact h.new f (Ae _ hf)
 ·rw[Cy (Dw q n0)]
  exact h.same b o nx q
 ·rw[Cy (Dw q n0)]
  exact h.dom b o q
 ·obtain ⟨z,c,k,f,h1,h2⟩:=h.xd b hb
  refine ⟨z,c,k,f,(Cy ?_).trans h1,h2⟩
  rintro rfl
  exact z n0
end
theorem Jj{α:Type}:∀{l:List α} {i:Nat} {x:α},l[i]? = some x->l.Perm (x::l.eraseIdx i)
 | [],i,x,h=>by simp at h
 | z::l,0,x,h=>by
  simp at h
  subst h
  exact List.Perm.refl _
 | z::l,i+1,x,h=>by
  have ih:=Jj (l:=l) (i:=i) (x:=x) (by simpa using h)
  rw[Ri]
  exact (ih.cons z).trans (Fe x z _)
theorem Nn{α:Type}{l:List α}{x y:α}(h:l[i]? = some x):(l.set i y).Perm (y::l.eraseIdx i):=by
 have hlt:=(Ap.mp h).1
 have q:=Jj (l:=l.set i y) (i:=i) (x:=y) (by rw[Ho]; simp [hlt])
 rw[List.eraseIdx_set_eq] at q
 exact q
theorem nY{K:PySem.W.Frag}{H0 H:Hp}(hS:Sl S δ)(hT:∀e∈T,Le e.x=false)(hA:At K H0 X δ.n (S++T) H)(hi:δ.sl[i]? = some (.dat m (.list ds)))(ho:own1 m=true)(np:npk δ.sl=true):∃a xs G,(vs S)[i]? = some (some (.ref a))/\H a=some (.lst xs)/\RdFs K H xs ds G/\ds.length<=Au/\∀ys G',RdFs K H ys es G'->G'.Sublist G->es.length<=Au->∃S',vs S'=vs S/\Sl S' ⟨δ.sl.set i (.dat m (.list es)),δ.n⟩/\At K H0 X δ.n (S'++T) (upd H a (.lst ys)):=by
 obtain ⟨ent,e2,e3⟩:=Hh hS hi
 have hm:ent∈S:=Ax e2
 obtain ⟨u,x,F⟩:=ent
 have e3':x=.dat m (.list ds):=e3
 subst e3'
 obtain ⟨v,hv,rd,_⟩:=hA.ok _ (Ao _ hm)
 obtain ⟨a,xs,G,rfl,ha,ra,eF,hz⟩:=rd.list_inv
 have eF':F=a::G:=eF
 subst eF'
 refine ⟨a,xs,G,by rw[Lp e2]; exact congrArg some hv,ha,ra,hz,λys G' r hG hz'=>?_⟩
 have hn:=aC hS np
 have pm:(S++T).Perm (⟨u,.dat m (.list ds),a::G⟩::(S.eraseIdx i++T)):=by
  exact (Jj e2).append_right T
 have h1:=(hA.perm pm).write (es:=es) (ys:=ys) ho hv (λe he=>?_) r hG hz'
 ·refine ⟨S.set i ⟨u,.dat m (.list es),a::G'⟩,?_,?_,h1.perm ?_⟩
  ·unfold vs
   rw[Es]
   apply Hr
   intro j
   rw[Ho]
   split
   ·rename_i hij
    subst hij
    rw[Be,e2]
    split
    ·rfl
    ·rename_i hj
     rw[Ad] at hj
     exact absurd (Ap.mp e2).1 hj
   ·rfl
  ·unfold Sl at hS ⊢
   rw[Es,hS]
  ·exact ((Nn e2).append_right T).symm
 ·rcases Ay.mp he with he | he
  ·exact hn e ((Mq S i).subset he)
  ·exact hT e he
def gR(i:Nat)(de:DE):DB:=λD δ=>match δ.sl[i]? with
 | some (.dat _ (.list _))=>de δ λy δ1=>match δ1.sl[i]?,y with
  | some (.dat m (.list ds)),.dat _ e=>own1 m=true/\npk δ1.sl=true/\imm e=true/\ds.length<1000000/\D.nx ⟨δ1.sl.set i (.dat m (.list (ds++[e]))),δ1.n⟩
  | _,_=>False
 | _=>False
section
variable{X:Cx}{o e:Expr}{de:DE}{apos cpos pos:Pos}{i:Nat}
theorem uY(ho:PE X o (cJ i))(he:Em X e de)(hbase:Tp o "append" X.env (eval o X.env)=eval o X.env:=by rfl)
  (hfew:((Gu cpos (Bq [e] X.env)).all (λx=>!x.1) && (backToKw cpos (Yp [] X.env)).all (λx=>x.1.isSome)
   && decide (([e]:List Expr).length+([]:List Sk).length+(if ([]:List Sk).isEmpty then 0 else 1)<30))=true:=by rfl)
  (hline:(apos.endLine == cpos.line)=true:=by rfl) (hs:Bq [e] X.env=(false,eval e X.env)::Bq [] X.env:=by rfl) (hplain:(Gu cpos (Bq [] X.env)).any (·.1)=false:=by rfl)
  (hsw:Kd (.Call (.Attribute o "append" apos) [e] [] cpos) none pos.line X.env=pure false:=by rfl) :
  qB X (.Expr (.Call (.Attribute o "append" apos) [e] [] cpos) pos) (gR i de):=by
 refine PS.impD (qE (P5 PySem.F.plainAttrs_list PySem.F.slot_list_append PySem.F.type_list_append Qb ho (Gs he Kr hs) hbase hfew hline hs hplain) hsw) λD σ H h=>?_
 obtain ⟨H0,Y,S,T,δ,P,rfl,hS,hT,hA,hd,k1,k2,k3,k4⟩:=h
 unfold gR at hd
 split at hd
 case h_2=>exact hd.elim
 rename_i m0 ds0 hsl
 obtain ⟨ent,e2,e3⟩:=Hh hS hsl
 have hm:ent∈S:=Ax e2
 obtain ⟨u,x,F⟩:=ent
 have e3':x=.dat m0 (.list ds0):=e3
 subst e3'
 obtain ⟨v,hv,rd,_⟩:=hA.ok _ (Ao _ hm)
 obtain ⟨a,xs,G,rfl,ha,ra,eF,hz⟩:=rd.list_inv
 refine ⟨.ref a,by rw[Lp e2]; exact congrArg some hv,.inl ⟨rfl,xs,Mc.of ha⟩,H0,Y,S,T,δ,_,rfl,hS,hA,hd,λy δ1 w F1 S1 H1 e4 e5 hA1 p1=>?_⟩
 split at p1
 ·rename_i m ds m' e' hsl1
  obtain ⟨p1,p2,p3,p4,p5⟩:=p1
  have r:=hA1.told mem_mid
  obtain rfl:=r.imm p3
  obtain ⟨b,xs1,G1,g1,g2,g3,g4,g5⟩:=nY (es:=ds++[e']) e5 hT hA1.drop hsl1 p1 p2
  rw[e4,Lp e2] at g1
  have : some (V.ref b)=some (V.ref a):=(Bp g1).symm.trans hv
  cases this
  obtain ⟨S2,h1,h2,h3⟩:=g5 (xs1++[w]) (G1++[]) (g3.snoc r) (by rw[Dz]; exact Cr _) (by rw[Bn]; exact jG (by simp; omega))
  have hl:=g3.len
  refine ⟨a,xs1,w,rfl,rfl,g2,Cc (by omega) (jG (n:=1000000) (Ak _)),?_⟩
  rw[<- e4,<- h1]
  exact k1 ⟨_,_⟩ S2 _ h2 h3 p5
 ·exact p1.elim
end
def spLawD(K:PySem.W.Frag):Sp:=λus H Q _=>∃(a:Addr) (ns:List Int),us=[.ref a]/\KL K H a (ns.map V.int)/\ns.length<=63/\∀H',Q (.bl true) H'
def retL:DEnds where
 nx:=λ_=>False
 rt:=λx _=>∃m,x=.dat m (.bool true)
section
variable{P:Bs}{w:World}{K:PySem.W.Frag}{mg:Str->Option Value}{base:Heap}
theorem Z2{x qual p0:Str}{st:Stmt}(F:Fun K x qual st f fd)(S:FnScope N [p0] (Bm st))(hb:∀(cdv:Value) (A:Cs) (outer:List Env) (s:Aj) (H:Hp) (E:XK),Room k (A.deeper (envOfC qual (Bm st) s.heap.objs.size f cdv))->Wx (Iy Gp P w K mg base N qual (Bm st) f cdv A outer s H E).nox (Iu st) db)(h:∀ns:List Int,ns.length<=63->db retL ⟨.scr ns::Bl (N.length - 1) .un,0⟩):FnOk P w K mg base Gp (k+1) f fd [p0] (spLawD K):=by
 refine F.ok S (λvs H Q E z=>?_) λcdv A outer s H us Q E hr z=>?_
 ·obtain ⟨a,ns,rfl,_⟩:=z
  rfl
 ·obtain ⟨a,ns,rfl,hK,h63,k1⟩:=z
  refine ⟨_,hb cdv A outer s H E hr,H,λ_=>False,⟨some (.ref a),.scr ns,[]⟩::Gq (N.length - 1),[],⟨.scr ns::Bl (N.length - 1) .un,0⟩,retL,?_,?_,λ_ z=>(nomatch z),?_,h ns h63,λδ' S' H' e1 hA p=>p.elim,λx δ' v F' S' H' e1 hA p=>?_,λ_ _ _ _ _ p=>p.elim,λ_ _ _ _ _ p=>p.elim⟩
  ·unfold vs L2.start Gq
   rw[Aw,Mi]
   rfl
  ·unfold Sl Gq
   rw[Aw,Mi]
  ·rw[Dz]
   have hc:∀e∈(⟨some (.ref a),.scr ns,[]⟩::Gq (N.length - 1):List Ent),cells e=[]:=λe he=>by
    rcases Ah.mp he with rfl | he
    ·rfl
    ·rw[(Ha.mp he).2]
     rfl
   refine ⟨λe he=>?_,Qe λa ha b hb'=>⟨λhq c z=>?_,λhq c z=>?_⟩,λe he a ha=>?_,λb o _ e=>e,λb o e=>⟨o,e⟩,λb hb=>hb.elim⟩
   ·rcases Ah.mp he with rfl | he
    ·exact ⟨a,rfl,rfl,hK,h63⟩
    ·rw[(Ha.mp he).2]
     exact (rfl:([]:List Addr)=[])
   ·rw[hc a ha] at z; cases z
   ·rw[hc b hb'] at z; cases z
   ·rw[hc e he] at ha; cases ha
  ·obtain ⟨m,rfl⟩:=p
   rw[show S'++[(⟨some v,.dat m (.bool true),F'⟩ : Ent)]=S'++⟨some v,.dat m (.bool true),F'⟩::[] from rfl] at hA
   obtain ⟨rfl,_⟩:=(hA.told mem_mid).bl_inv
   exact k1 H'
end
def pN(i:Nat)(dl dh:DO):DE:=λδ P=>match δ.sl[i]? with
 | some (.scr ns)=>dl δ λl δ2=>dh δ2 λh δ3=>P (.dat .ow (.list ((Mk ns l h).map Ag))) δ3
 | _=>False
def FO(i:Nat)(de:DE):DE:=λδ P=>match δ.sl[i]? with
 | some (.scr ns)=>de δ λy δ1=>match y with
  | .dat _ (.list es)=>Dq es=true/\ns.length+es.length<=1000000/\P (.dat .ow (.list (ns.map Ag++es))) δ1
  | _=>False
 | _=>False
section
variable{X:Cx}{e b:Expr}{de:DE}{lo hi:Option Expr}{dl dh:DO}{pos p2:Pos}{i:Nat}
theorem AE{K:PySem.W.Frag}(hS:Sl S δ)(hA:At K H0 Y δ.n (S++T) H)(hi:δ.sl[i]? = some (.scr ns)):∃a,(vs S)[i]? = some (some (.ref a))/\(⟨some (.ref a),.scr ns,[]⟩ : Ent)∈S/\KL K H a (ns.map V.int)/\ns.length<=63:=by
 obtain ⟨ent,e2,e3⟩:=Hh hS hi
 have hm:ent∈S:=Ax e2
 obtain ⟨u,x,F⟩:=ent
 have e3':x=.scr ns:=e3
 subst e3'
 obtain ⟨a,h1,h2,h3⟩:=hA.ok _ (Ao _ hm)
 have h1':u=some (.ref a):=h1
 have h2':F=[]:=h2
 subst h1' h2'
 exact ⟨a,by rw[Lp e2],hm,h3⟩
theorem wV(he:PE X e (cJ i))(hl:AG X lo dl)(hh:AG X hi dh):Em X (.Subscript e (.Slice lo hi none p2) pos) (pN i dl dh):=by
 refine PE.imp (mH (r:=Z0 X.K) L5 he hl hh) λσ H Q h=>?_
 obtain ⟨H0,Y,S,T,δ,P,rfl,hS,hA,hd,k⟩:=h
 unfold pN at hd
 split at hd
 case h_2=>exact hd.elim
 rename_i ns hsl
 obtain ⟨a,ha,hm,hK,h63⟩:=AE hS hA hsl
 have hA0:At X.K H0 Y δ.n (S++⟨some (.ref a),.scr ns,[]⟩::T) H:=(At.view1 hA (Ao _ hm)).tomid
 refine ⟨.ref a,ha,H0,Y,S,⟨some (.ref a),.scr ns,[]⟩::T,δ,_,rfl,hS,hA0,hd,λl δ2 S2 H2 e3 e4 hA2 p2=>?_⟩
 refine ⟨H0,Y,S2,⟨some (.ref a),.scr ns,[]⟩::T,δ2,_,e3,e4,hA2,p2,λh δ3 S3 H3 e5 e6 hA3 p3=>?_⟩
 obtain ⟨a',h1,_,hK3,_⟩:=hA3.ok _ mem_mid
 cases h1
 refine ⟨a,_,rfl,hK3.sq,λp hp=>?_⟩
 have : cF (ns.map V.int) l h=(Mk ns l h).map V.int:=by
  rw[<- zE]; rfl
 rw[this]
 refine k _ δ3 _ _ S3 _ e5 e6 (hA3.drop.newI (RdFs.ints _) (Pc _) ?_ hp .ow) p3
 rw[Ad]
 have l1:=(Sf ns l h).length_le
 exact sz (by omega)
end
def Qf(p:Nat)(dc:DT)(de:DE)(δ:DS)(yes:Ac->Nat->Prop)(no:Nat->Prop):Prop:=dc δ λb δ2=>match b with
 | true=>de δ2 λy δ3=>match y with
  | .dat _ e=>imm e=true/\δ3.sl[p]? = some .drw/\yes e δ3.n
  | _=>False
 | false=>δ2.sl[p]? = some .drw/\no δ2.n
def gV(di:DI)(js1:List Nat)(j0:Nat)(js2:List Nat)(dc:DT)(de:DE):DE:=λδ P=>di δ λm ds δ1=>δ1.sl[j0]? = some .drw/\∃I:Nat->List Ac->Nat->Prop,I 0 [] δ1.n /\
 (∀i d acc n,ds[i]? = some d->I i acc n->Qf (js1.length+1) dc de ⟨.dat m d::(frD (δ1.sl.set j0 .un) js1++.drw::frD (δ1.sl.set j0 .un) js2),n⟩ (λe n'=>I (i+1) (acc++[e]) n') (λn'=>I (i+1) acc n')) /\
 ∀acc n,I ds.length acc n->P (.dat .ow (.list acc)) ⟨δ1.sl,n⟩
section
variable{K:PySem.W.Frag}{H0 H H':Hp}{Y:Addr->Prop}{n n':Nat}{E S T:List Ent}
theorem At.re(h:At K H0 Y n E H)(ok:∀e∈E,Gr K H' n' e)(s:∀b o,¬ Y b->H0 b=some o->H' b=some o)(dm:∀b o,H0 b=some o->∃o',H' b=some o')(xd:∀b,Y b->H0 b≠none/\∃c k f,aW H' b c k f/\0<=k/\k<=(n':Int)):At K H0 Y n' E H':=⟨ok,h.sep,h.new,s,dm,xd⟩
theorem t9{p:Nat}(hA:At K H0 Y n E H)(hE:∀e∈S',e∈E)(hS:Sl S' δ)(hp:δ.sl[p]? = some .drw)(hv:(vs S')[p]? = some (some (.ref dr))):Gr K H n ⟨some (.ref dr),.drw,[dr]⟩:=by
 obtain ⟨ent,e2,e3⟩:=Hh hS hp
 have hm:ent∈S':=Ax e2
 rw[Lp e2] at hv
 obtain ⟨u,x,F⟩:=ent
 have e3':x=.drw:=e3
 subst e3'
 have hu:u=some (.ref dr):=Bp hv
 subst hu
 obtain ⟨dr',c,k,f,h1,h2,h3⟩:=hA.ok _ (hE _ hm)
 have h1':some (V.ref dr)=some (V.ref dr'):=h1
 cases h1'
 exact ⟨dr,c,k,f,rfl,rfl,h3⟩
theorem u9{p:Nat}{dr:Addr}{dc:DT}{de:DE}{δ:DS}{N1:Hp->Prop}(hS:Sl S δ)(hA:At K H0 Y δ.n (S++⟨some (.ref D),.acc acc,[D]⟩::T) H)(hp:(vs S)[p]? = some (some (.ref dr)))(h:Qf p dc de δ yes no)(k1:∀n' H',At K H0 Y n' (⟨some (.ref D),.acc acc,[D]⟩::T) H'->Gr K H' n' ⟨some (.ref dr),.drw,[dr]⟩->no n'->N1 H')(k2:∀e n' v H',At K H0 Y n' (⟨some (.ref D),.acc acc,[D]⟩::T) H'->Gr K H' n' ⟨some (.ref dr),.drw,[dr]⟩->RdF K H' v e []->yes e n'->N2 v H'):LT K dc (vs S) H λc H2=>if c=true then LE K de (vs S) H2 N2 else N1 H2:=by
 refine ⟨H0,Y,S,⟨some (.ref D),.acc acc,[D]⟩::T,δ,_,rfl,hS,hA,h,λb δ2 S2 H2 e1 e2 hA2 p2=>?_⟩
 cases b with
 | false=>exact uQ (k1 _ _ (hA2.sub (Cf _ _)) (t9 hA2 (λe he=>Ao _ he) e2 p2.1 (by rw[e1]; exact hp)) p2.2)
 | true =>
  refine pC ⟨H0,Y,S2,⟨some (.ref D),.acc acc,[D]⟩::T,δ2,_,e1,e2,hA2,p2,λy δ3 v F S3 H3 e3 e4 hA3 p3=>?_⟩
  split at p3
  ·have r:=hA3.told mem_mid
   obtain rfl:=r.imm p3.1
   exact k2 _ _ _ _ (hA3.drop.sub (Cf _ _)) (t9 hA3 (λe he=>Ao _ he) e4 p3.2.1 (by rw[e3]; exact hp)) r p3.2.2
  ·exact p3.elim
theorem jN:∀σ H Q,LE K (gV di js1 j0 js2 dc de) σ H Q->kO (LI K di) (js1++j0::js2) (LT K dc) (LE K de) σ H Q:=by
 intro σ H Q h
 obtain ⟨H0,Y,S,T,δ,P,rfl,hS,hA,hd,k⟩:=h
 refine ⟨H0,Y,S,T,δ,_,rfl,hS,hA,hd,λm ds δ1 J hid S1 H1 e1 e2 hA1 it hz p1=>?_⟩
 obtain ⟨hj,I,h0,hs,hf⟩:=p1
 rw[<- e1]
 obtain ⟨ent,s1,s2⟩:=Hh e2 hj
 have hm':ent∈S1:=Ax s1
 obtain ⟨u,x,F0⟩:=ent
 have s2':x=.drw:=s2
 subst s2'
 obtain ⟨dr,_,_,_,hv0,hF0,_⟩:=hA1.ok _ (Ao _ hm')
 have hv0':u=some (.ref dr):=hv0
 have hF0':F0=[dr]:=hF0
 subst hv0' hF0'
 intro D hD
 refine ⟨λi q H=>q=ds.length - i/\i<=ds.length/\∃acc n,At K H0 Y n (⟨some (.ref D),.acc acc,[D]⟩::(S1++(hid++T))) H/\acc.length<=i/\I i acc n,⟨ds.length,by simp,Dg _,[],δ1.n,hA1.accNew hD,Ak _,h0⟩,?_⟩
 (intro i q H q_; obtain ⟨rfl,hi,acc,n,hA2,hl,hI⟩ := q_)
 have hid_ok:∀e∈hid,Gr K H n e:=λe he=>hA2.ok e (Ae _ (Al _ (Ao _ he)))
 by_cases hlt:i<ds.length
 ·refine .inr ⟨it.go H n i hid_ok hlt,λx H' y=>?_⟩
  obtain ⟨s1',d,F,h1,h2,h3⟩:=it.yld H n i x H' hid_ok hlt y
  have hA3:At K H0 Y n ((⟨some (.ref D),.acc acc,[D]⟩::S1)++⟨some x,.dat m d,F⟩::(hid++T)) H':=At.item (S:=⟨some (.ref D),.acc acc,[D]⟩::S1) hA2 s1' h2 h3 it.md it.hd it.np
  -- the draws are taken out of their slot
  have hA4:At K H0 Y n (⟨some (.ref dr),.drw,[dr]⟩::⟨some x,.dat m d,F⟩::⟨some (.ref D),.acc acc,[D]⟩::(S1.set j0 ⟨some (.ref dr),.un,[]⟩++(hid++T))) H':=by
   have q:=hA3.mid.blank (v:=some (.ref dr))
   refine q.perm ?_
   have pS:(⟨some (.ref dr),.un,[]⟩::S1:List Ent).Perm (⟨some (.ref dr),.drw,[dr]⟩::S1.set j0 ⟨some (.ref dr),.un,[]⟩):=Vm s1
   have p2:=pS.append_right (hid++T)
   -- un::x::D::S1.. ~ x::D::un::S1..
   have a1:((⟨some (.ref dr),.un,[]⟩ : Ent)::⟨some x,.dat m d,F⟩::((⟨some (.ref D),.acc acc,[D]⟩::S1)++(hid++T))).Perm (⟨some x,.dat m d,F⟩::⟨some (.ref D),.acc acc,[D]⟩::⟨some (.ref dr),.un,[]⟩::(S1++(hid++T))) :=
    (Fe _ _ _).trans ((Fe _ _ _).cons _)
   have a2:((⟨some x,.dat m d,F⟩ : Ent)::⟨some (.ref D),.acc acc,[D]⟩::⟨some (.ref dr),.drw,[dr]⟩::(S1.set j0 ⟨some (.ref dr),.un,[]⟩++(hid++T))).Perm (⟨some (.ref dr),.drw,[dr]⟩::⟨some x,.dat m d,F⟩::⟨some (.ref D),.acc acc,[D]⟩::(S1.set j0 ⟨some (.ref dr),.un,[]⟩++(hid++T))) :=
    ((Fe _ _ _).cons _).trans (Fe _ _ _)
   exact a1.trans (((p2.cons _).cons _).trans a2)
  have e2':Sl (S1.set j0 ⟨some (.ref dr),.un,[]⟩) ⟨δ1.sl.set j0 .un,n⟩:=pO e2
  have vS:vs (S1.set j0 ⟨some (.ref dr),.un,[]⟩)=vs S1:=by
   rw[nQ]
   apply Hr
   intro j
   rw[Ho]
   split
   ·rename_i hij
    subst hij
    rw[Lp s1]
    split
    ·rfl
    ·rename_i hj'
     unfold vs at hj'
     rw[Ad] at hj'
     exact absurd (Ap.mp s1).1 hj'
   ·rfl
  have hsub:∀e∈S1.set j0 ⟨some (.ref dr),.un,[]⟩,e∈(⟨some (.ref dr),.drw,[dr]⟩::⟨some x,.dat m d,F⟩::⟨some (.ref D),.acc acc,[D]⟩::(S1.set j0 ⟨some (.ref dr),.un,[]⟩++(hid++T)):List Ent):=λe he=>Ae _ (Ae _ (Ae _ (Ao _ he)))
  have hA5:=At.view (S:=S1.set j0 ⟨some (.ref dr),.un,[]⟩) hA4 hsub js2
  have hA5':=At.view (S:=S1.set j0 ⟨some (.ref dr),.un,[]⟩) hA5 (λe he=>Al _ (hsub e he)) js1
  have hA6:At K H0 Y n ((⟨some x,.dat m d,F⟩::(Zo (S1.set j0 ⟨some (.ref dr),.un,[]⟩) js1++⟨some (.ref dr),.drw,[dr]⟩::Zo (S1.set j0 ⟨some (.ref dr),.un,[]⟩) js2))++⟨some (.ref D),.acc acc,[D]⟩::(S1.set j0 ⟨some (.ref dr),.un,[]⟩++(hid++T))) H':=by
   refine hA5'.perm ?_
   generalize Zo (S1.set j0 ⟨some (.ref dr),.un,[]⟩) js1=A1
   generalize Zo (S1.set j0 ⟨some (.ref dr),.un,[]⟩) js2=A2
   generalize (⟨some (.ref D),.acc acc,[D]⟩::(S1.set j0 ⟨some (.ref dr),.un,[]⟩++(hid++T)):List Ent)=R
   have b1:(A2++((⟨some (.ref dr),.drw,[dr]⟩ : Ent)::⟨some x,.dat m d,F⟩::R)).Perm ((⟨some x,.dat m d,F⟩ : Ent)::⟨some (.ref dr),.drw,[dr]⟩::(A2++R)) :=
    (Gb.trans ((Gb).cons _)).trans (Fe _ _ _)
   have b2:=b1.append_left A1
   refine b2.trans (Gb.trans ?_)
   rw[Fc,Bw,Fc]
  have hS6:Sl (⟨some x,.dat m d,F⟩::(Zo (S1.set j0 ⟨some (.ref dr),.un,[]⟩) js1++⟨some (.ref dr),.drw,[dr]⟩::Zo (S1.set j0 ⟨some (.ref dr),.un,[]⟩) js2)) ⟨.dat m d::(frD (δ1.sl.set j0 .un) js1++.drw::frD (δ1.sl.set j0 .un) js2),n⟩:=by
   unfold Sl
   rw[Aw,Bi,Aw,rR e2',rR e2']
  have hv:vs (⟨some x,.dat m d,F⟩::(Zo (S1.set j0 ⟨some (.ref dr),.un,[]⟩) js1++⟨some (.ref dr),.drw,[dr]⟩::Zo (S1.set j0 ⟨some (.ref dr),.un,[]⟩) js2))=some x::Gn (vs S1) (js1++j0::js2):=by
   have f1:=qQ (S1.set j0 ⟨some (.ref dr),.un,[]⟩) js1
   have f2:=qQ (S1.set j0 ⟨some (.ref dr),.un,[]⟩) js2
   rw[vS] at f1 f2
   unfold vs at f1 f2 ⊢
   rw[Aw,Bi,Aw,f1,f2]
   unfold Gn
   rw[Bi,Aw,Be,s1]
   rfl
  have hp6:(vs (⟨some x,.dat m d,F⟩::(Zo (S1.set j0 ⟨some (.ref dr),.un,[]⟩) js1++⟨some (.ref dr),.drw,[dr]⟩::Zo (S1.set j0 ⟨some (.ref dr),.un,[]⟩) js2)))[js1.length+1]? = some (some (.ref dr)):=by
   unfold vs
   rw[Aw,mV,Bi,Fl (by rw[Ad]; unfold Zo; rw[Ad]; exact Ak _)]
   rw[Ad]
   unfold Zo
   rw[Ad,Nat.sub_self]
   rfl
  -- back to the outer names
  have back:∀{n':Nat} {H2:Hp},At K H0 Y n' (⟨some (.ref D),.acc acc,[D]⟩::(S1.set j0 ⟨some (.ref dr),.un,[]⟩++(hid++T))) H2->Gr K H2 n' ⟨some (.ref dr),.drw,[dr]⟩->At K H0 Y n' (⟨some (.ref D),.acc acc,[D]⟩::(S1++(hid++T))) H2:=λ{n' H2} hB hd'=>by
   refine hA2.re (λe he=>?_) hB.same hB.dom hB.xd
   rcases Ah.mp he with rfl | he
   ·exact hB.ok _ Ab
   ·rcases Ay.mp he with he | he
    ·obtain ⟨j,hj1⟩:=List.getElem?_of_mem he
     by_cases hjj:j=j0
     ·subst hjj
      rw[s1] at hj1
      cases hj1
      exact hd'
     ·refine hB.ok e (Ae _ (Ao _ (Ax (i:=j) ?_)))
      rw[Nm (Ll hjj)]
      exact hj1
    ·exact hB.ok e (Ae _ (Al _ he))
  refine ⟨λH2=>∃m',m'<ds.length - i/\_,λy H3=>∃acc,H3 D=some (.lst acc)/\acc.length<Au/\∃m',m'<ds.length - i/\_,λH2 q=>q,λy H3 q=>q,?_⟩
  rw[<- hv]
  refine u9 hS6 hA6 hp6 (hs i d acc n h1 hI) (λn' H2 hA7 hd7 p=>?_) (λe n' v H2 hA7 hd7 r7 p=>?_)
  ·exact ⟨ds.length - (i+1),by omega,rfl,hlt,acc,n',back hA7 hd7,by omega,p⟩
  ·obtain ⟨xs,g1,g2,g3⟩:=(back hA7 hd7).accPut r7 (by omega)
   exact ⟨xs,g1,by omega,ds.length - (i+1),by omega,rfl,hlt,acc++[e],n',g3,by rw[Bn]; simp; omega,p⟩
 ·have e:i=ds.length:=by omega
  subst e
  refine .inl ⟨it.stop H n hid_ok,k _ ⟨δ1.sl,n⟩ _ [D] S1 H e1 e2 ?_ (hf acc n hI)⟩
  have hA3:=hA2.accGet
  have hA4:At K H0 Y n (⟨some (.ref D),.dat .ow (.list acc),[D]⟩::(S1++T)) H:=hA3.sub (((Cr S1).append (Cf hid T)).cons₂ _)
  exact hA4.tomid
end
section
variable{X:Cx}{elt iter c:Expr}{x y0:Str}{px py pos spos:Pos}{i0:Nat}{ifs:List Expr}{scope:Scope}{cl:List (Str×Addr)}{ys:List Str}{js1 js2:List Nat}{j0:Nat}{di:DI}{dc:DT}{de:DE}
theorem xU(C:CompScope X scope cl x ys (js1++j0::js2))(hc:X.calm=true)(hi:xT X (.Name x px) iter di)(ht:∀fp s H,oQ (Ek X scope cl (x::ys) fp s H) ifs (LT X.K dc))(he:∀fp s H,Em (Ek X scope cl (x::ys) fp s H) elt de)(hs:∀x,Ee iter X.env x=pure x:=by intro _; rfl):Em X (.ListComp elt [⟨.Name x px,iter,ifs,0⟩] scope pos) (gV di js1 j0 js2 dc de):=PE.imp (Vg C hc hi ht he hs) jN
theorem xO{o:Bool}(hN:X.N.Nodup)(hi0:X.N[i0]? = some y0)(hy0:X.env.scope.names.lookup y0=some .local)(C:CompScope X scope cl x ys (js1++j0::js2))(hc:X.calm=true)(hi:xT X (.Name x px) iter di)(ht:∀fp s H,oQ (Ek X scope cl (x::ys) fp s H) ifs (LT X.K dc))(he:∀fp s H,Em (Ek X scope cl (x::ys) fp s H) elt de)(hs:∀x,Ee iter X.env x=pure x:=by intro _; rfl)(hsw:Kd (.ListComp elt [⟨.Name x px,iter,ifs,0⟩] scope pos) (some (.Name y0 py)) spos.line X.env=pure true:=by rfl):qB X (.Assign [.Name y0 py] (.ListComp elt [⟨.Name x px,iter,ifs,0⟩] scope pos) spos) (sP (gV di js1 j0 js2 dc de) (FA o i0)):=PS.impD (qZ hN hi0 hy0 C hc hi ht he hs hsw) (iT jN CU)
end
def BI(i j:Int):Prop:=0<=j/\(Builtin.Int.intBits i:Int) * j<=2 ^ 27
theorem L4:Wc X (Iv .Pow) (rI BI λi j=>.int (i ^ j.toNat)):=BY λ_ _ _ _ _ _ _ hc q=>pow_int hc.1 hc.2 q
def Uv:DF:=λds n R=>ds=[]/\n<=100000/\∀r:Int,R (.int r) (n+1)
theorem A0{P:Bs}{w:World}{K:PySem.W.Frag}(F:FnOk P w K mg base Gp k f fd ps yY):FnOk P w K mg base Gp k f fd ps (mQ K Uv):=by
 refine F.imp λus H Q E h=>?_
 obtain ⟨dr,ws,As,n,ds,R,rfl,eu,ok,nd,⟨c,kk,fl,hdr,h0,h1⟩,q,hp,k1⟩:=h
 obtain ⟨rfl,hn,hR⟩:=hp
 have hAs:As=[]:=by
  have:=Il q
  rw[Ad] at this
  exact mU.mp this
 subst hAs
 have hws:ws=[]:=by
  cases ws with
  | nil=>rfl
  | cons _ _=>cases eu
 subst hws
 refine ⟨dr,c,kk,fl,rfl,hdr,h0,by omega,λr c' H' hd' s=>?_⟩
 exact k1 (.int r) (.int r) [] (n+1) H' (by omega) (hR r) (.int r) Dc (λ_ z=>(nomatch z)) ⟨c',kk+1,fl,hd',by omega,by omega⟩ s
theorem C3{K:PySem.W.Frag}(h:H a=some (.tup (ns.map V.int)))(l:ns.length<=1000000):RdF K H (.ref a) (Cn ns) []:=.tup h (by rw[Ad]; exact jG l) (RdFs.ints ns)
theorem vZ{K:PySem.W.Frag}{As:List Ent}(eu:As.map Ent.v=us.map some)(ok:∀e∈As,Gr K H n e)(q:datas (As.map Ent.x)=some [d1]):∃v1 F1,us=[v1]/\RdF K H v1 d1 F1:=by
 have r:=Vr eu q ok
 generalize As.flatMap Ent.F=G0 at r
 cases r with
 | cons a t =>
  cases t
  exact ⟨_,_,rfl,a⟩
def N4(K:PySem.W.Frag):List V->Hp->VK->Prop:=λxs H Q=>∃(a:Addr) (ns:List Int),xs=[.ref a]/\(Mc K H a (ns.map V.int)\/Uh K H a (ns.map V.int))/\Q (.int ns.sum) H
section
variable{X:Cx}
theorem fH(hc:X.calm=true):Ld X (.builtin "sum") (N4 X.K):=by
 intro pins s σ H xs us Q I r h
 obtain ⟨p,ns,rfl,hp,q⟩:=h
 obtain ⟨u,rfl,ru⟩:=vals1 r
 cases ru
 rcases hp with hp | hp
 ·obtain ⟨its,rv,pl,_⟩:=I.list hp
  obtain ⟨ps,rfl,rfl⟩:=Of rv
  have hl:s.heap.IsList p (Nc ps.toArray):=by simpa [Nc] using pl.isList
  refine sum_intListG (I.ok.hd hc) hl λh' tk t' k=>?_
  rw[preSum_eq,Er (by simp)]
  exact ⟨.int _,H,I.kept k,⟨t',rfl⟩,q⟩
 ·obtain ⟨its,rv,pl,_⟩:=I.tuple hp
  obtain ⟨ps,rfl,rfl⟩:=Of rv
  obtain ⟨o,ho,hoc,m,hd⟩:=pl
  have hl:s.heap.IsTuple p (Nc ps.toArray):=⟨o,ho,hoc,m,by rw[hd]; simp [Nc]⟩
  refine PySem.W.ktm_sumG (I.ok.hd hc) hl λh' tk t' k=>?_
  rw[preSum_eq,Er (by simp)]
  exact ⟨.int _,H,I.kept k,⟨t',rfl⟩,q⟩
end
def qJ:DC:=λxs P=>match xs with
 | [.dat _ (.list ds)]=>∃ns:List Int,ds=ns.map Ag/\P (.dat .ow (.int ns.sum))
 | [.dat _ (.tuple ds)]=>∃ns:List Int,ds=ns.map Ag/\P (.dat .ow (.int ns.sum))
 | _=>False
section
variable{K:PySem.W.Frag}
theorem yF:Na K (N4 K) qJ:=by
 intro H0 X n S T As us H Q P eu hA hd k
 unfold qJ at hd
 split at hd
 ·rename_i ex
  obtain ⟨v,F,rfl,hA⟩:=Gh eu hA ex
  obtain ⟨ns,rfl,h1⟩:=hd
  obtain ⟨a,xs,G,rfl,ha,ra,rfl,hz⟩:=(hA.told mem_mid).list_inv
  obtain ⟨rfl,_⟩:=ra.ints_inv
  exact ⟨a,ns,rfl,.inl (Mc.of ha),k _ _ [] H (hA.drop.pushI (.int _)) h1⟩
 ·rename_i ex
  obtain ⟨v,F,rfl,hA⟩:=Gh eu hA ex
  obtain ⟨ns,rfl,h1⟩:=hd
  obtain ⟨a,xs,rfl,ha,ra,hz⟩:=(hA.told mem_mid).tup_inv
  obtain ⟨rfl,_⟩:=ra.ints_inv
  exact ⟨a,ns,rfl,.inr (Uh.of ha),k _ _ [] H (hA.drop.pushI (.int _)) h1⟩
 ·exact hd.elim
end
def mmd:Md->Md->Md
 | .ow,.ow=>.ow
 | _,_=>.tp
section
variable{K:PySem.W.Frag}{H0 H:Hp}{X:Addr->Prop}{n:Nat}{E:List Ent}
theorem At.merge(h:At K H0 X n (⟨v,.dat m (.list ds),a::F⟩::⟨some w,.dat my e,Fy⟩::E) H)(ho:own1 m=true)(hy:my≠.pk)(hv:v=some (.ref a))(np:∀e∈E,Le e.x=false)(r:RdFs K H ys es G)(hG:∀c∈G,c∈F\/c∈Fy)(hnd:(F++Fy).Nodup->G.Nodup)(hz:es.length<=Au):At K H0 X n (⟨v,.dat (mmd m my) (.list es),a::G⟩::E) (upd H a (.lst ys)):=by
 obtain ⟨w1,e1,rd,hn,ht⟩:=h.ok _ Ab
 obtain ⟨w2,e2',rdy,hny,hty⟩:=h.ok _ (Ae _ Ab)
 obtain ⟨b,xs,G0,e2,ha,ra,eF,_⟩:=rd.list_inv
 have eF':a::F=b::G0:=eF
 cases eF'
 have hs:=Bb.mp h.sep
 have hs2:=Bb.mp hs.2
 have s12:=hs.1 _ Ab
 have pk2:Le (DV.dat my e)=false:=by cases my <;> first | rfl | exact absurd rfl hy
 have pk1:Le (DV.dat m (.list ds))=false:=by cases m <;> first | rfl | cases ho
 have naF:a∉F:=by
  cases m with
  | ow=>exact (By.mp (hn rfl)).1
  | tp=>exact ht rfl a F rfl
  | sh=>cases ho
  | pk=>cases ho
 have ca:a∈cells ⟨v,.dat m (.list ds),a::F⟩:=by
  cases m <;> first | exact Ab | cases ho
 have naY:a∉Fy:=s12.1 (.inl pk2) a ca
 have naG:a∉G:=λz=>(hG a z).elim naF naY
 have kp:∀{F':List Addr},a∉F'->Kp F' H (upd H a (.lst ys)):=λ{F'} hF b o q z=>by
  have : b≠a:=by
   rintro rfl
   rw[ha] at q
   cases q
   rcases z with z | z
   ·exact hF z
   ·rcases z with ⟨_,z⟩ | ⟨_,_,z⟩ <;> cases z
  rw[Cy this]
  exact q
 have n0:H0 a=none:=by
  rcases h.new _ Ab a ca with z | z
  ·exact z
  ·cases z.2
 have cs:∀c∈cells ⟨v,.dat (mmd m my) (.list es),a::G⟩,c∈cells ⟨v,.dat m (.list ds),a::F⟩\/c∈cells ⟨some w,.dat my e,Fy⟩:=λc hc=>by
  by_cases hm:m=.ow/\my=.ow
  ·obtain ⟨rfl,rfl⟩:=hm
   rcases Ah.mp (show c∈a::G from hc) with z | z
   ·rw[z]; exact .inl ca
   ·rcases hG c z with z | z
    ·exact .inl (Ae _ z)
    ·exact .inr z
  ·have hc':c∈[a]:=by
    cases m <;> cases my <;> first | exact hc | exact absurd ⟨rfl,rfl⟩ hm
   rw[Af.mp hc']; exact .inl ca
 refine ⟨λf hf=>?_,?_,λf hf=>?_,λb o nx q=>?_,λb o q=>?_,λb hb=>?_⟩
 ·rcases Ah.mp hf with rfl | hf
  ·refine ⟨.ref a,hv,.lst Cp hz (r.kp (kp naG)),λz=>?_,λz c l e=>?_⟩
   ·have hm:m=.ow/\my=.ow:=by
     cases m <;> cases my <;> first | exact ⟨rfl,rfl⟩ | cases z
    obtain ⟨rfl,rfl⟩:=hm
    refine By.mpr ⟨naG,hnd (Gf.mpr ⟨(By.mp (hn rfl)).2,hny rfl,λx hx y hy' e=>?_⟩)⟩
    subst e
    exact s12.1 (.inl pk2) x (Ae _ hx) hy'
   ·cases e
    exact naG
  ·have f1:=Ae (⟨some w,.dat my e,Fy⟩ : Ent) hf
   exact (h.ok f (Ae _ f1)).kp (kp ((hs.1 f f1).1 (.inl (np f hf)) a ca)) (Ak _)
 ·refine Bb.mpr ⟨λf hf=>?_,hs2.2⟩
  have f1:=Ae (⟨some w,.dat my e,Fy⟩ : Ent) hf
  refine ⟨λhq c hc=>?_,λhq c hc z=>?_⟩
  ·rcases cs c hc with z | z
   ·exact (hs.1 f f1).1 (.inl (np f hf)) c z
   ·exact (hs2.1 f hf).1 (.inl (np f hf)) c z
  ·rcases Ah.mp z with z | z
   ·exact (hs.1 f f1).2 (.inl pk1) c hc (by rw[z]; exact Ab)
   ·rcases hG c z with z | z
    ·exact (hs.1 f f1).2 (.inl pk1) c hc (Ae _ z)
    ·exact (hs2.1 f hf).2 (.inl pk2) c hc z
 ·rcases Ah.mp hf with rfl | hf
  ·intro c hc
   rcases cs c hc with z | z
   ·rcases h.new _ Ab c z with z | z
    ·exact .inl z
    ·cases z.2
   ·rcases h.new _ (Ae _ Ab) c z with z | z
    ·exact .inl z
    ·cases z.2
  ·exact h.new f (Ae _ (Ae _ hf))
 ·rw[Cy (Dw q n0)]
  exact h.same b o nx q
 ·rw[Cy (Dw q n0)]
  exact h.dom b o q
 ·obtain ⟨z,c,k,f,h1,h2⟩:=h.xd b hb
  refine ⟨z,c,k,f,(Cy ?_).trans h1,h2⟩
  rintro rfl
  exact z n0
end
theorem nJ{K:PySem.W.Frag}{H0 H:Hp}{X:Addr->Prop}{S T:List Ent}{δ:DS}(hS:Sl S δ)(hT:∀e∈T,Le e.x=false)(hA:At K H0 X δ.n (S++⟨some w,.dat my e,Fy⟩::T) H)(hi:δ.sl[i]? = some (.dat m (.list ds)))(ho:own1 m=true)(hy:my≠.pk)(np:npk δ.sl=true)(hl:ds.length<1000000):∃a xs,(vs S)[i]? = some (some (.ref a))/\H a=some (.lst xs)/\xs.length=ds.length/\∃S',vs S'=vs S/\Sl S' ⟨δ.sl.set i (.dat (mmd m my) (.list (ds++[e]))),δ.n⟩/\At K H0 X δ.n (S'++T) (upd H a (.lst (xs++[w]))):=by
 obtain ⟨ent,e2,e3⟩:=Hh hS hi
 have hm:ent∈S:=Ax e2
 obtain ⟨u,x,F⟩:=ent
 have e3':x=.dat m (.list ds):=e3
 subst e3'
 obtain ⟨v,hv,rd,_⟩:=hA.ok _ (Ao _ hm)
 obtain ⟨a,xs,G,rfl,ha,ra,eF,hz⟩:=rd.list_inv
 have eF':F=a::G:=eF
 subst eF'
 have rw_:=hA.told mem_mid
 refine ⟨a,xs,by rw[Lp e2]; exact congrArg some hv,ha,ra.len,?_⟩
 have hn:=aC hS np
 have pm:(S++⟨some w,.dat my e,Fy⟩::T).Perm (⟨u,.dat m (.list ds),a::G⟩::⟨some w,.dat my e,Fy⟩::(S.eraseIdx i++T)):=by
  refine ((Jj e2).append_right _).trans ?_
  rw[Fc]
  exact List.Perm.cons _ Gb
 have h1:=(hA.perm pm).merge (es:=ds++[e]) (ys:=xs++[w]) (G:=G++Fy) ho hy hv (λf hf=>?_) (ra.snoc rw_) (λc hc=>Ay.mp hc) (λz=>z) (by rw[Bn]; exact jG (by simp; omega))
 ·refine ⟨S.set i ⟨u,.dat (mmd m my) (.list (ds++[e])),a::(G++Fy)⟩,?_,?_,h1.perm ?_⟩
  ·unfold vs
   rw[Es]
   apply Hr
   intro j
   rw[Ho]
   split
   ·rename_i hij
    subst hij
    rw[Be,e2]
    split
    ·rfl
    ·rename_i hj
     rw[Ad] at hj
     exact absurd (Ap.mp e2).1 hj
   ·rfl
  ·unfold Sl at hS ⊢
   rw[Es,hS]
  ·exact ((Nn e2).append_right T).symm
 ·rcases Ay.mp hf with hf | hf
  ·exact hn f ((Mq S i).subset hf)
  ·exact hT f hf
def appOB(i:Nat)(y:DV)(δ:DS)(D:DEnds):Prop:=match δ.sl[i]?,y with
 | some (.dat m (.list ds)),.dat my e=>own1 m=true/\npk δ.sl=true/\my≠.pk/\ds.length<1000000/\D.nx ⟨δ.sl.set i (.dat (mmd m my) (.list (ds++[e]))),δ.n⟩
 | _,_=>False
def aE(i:Nat)(de:DE):DB:=λD δ=>match δ.sl[i]? with
 | some (.dat _ (.list _))=>de δ λy δ1=>appOB i y δ1 D
 | _=>False
section
variable{X:Cx}{o e:Expr}{de:DE}{apos cpos pos:Pos}{i:Nat}
theorem nU(ho:PE X o (cJ i))(he:Em X e de)(hbase:Tp o "append" X.env (eval o X.env)=eval o X.env:=by rfl)
  (hfew:((Gu cpos (Bq [e] X.env)).all (λx=>!x.1) && (backToKw cpos (Yp [] X.env)).all (λx=>x.1.isSome)
   && decide (([e]:List Expr).length+([]:List Sk).length+(if ([]:List Sk).isEmpty then 0 else 1)<30))=true:=by rfl)
  (hline:(apos.endLine == cpos.line)=true:=by rfl) (hs:Bq [e] X.env=(false,eval e X.env)::Bq [] X.env:=by rfl) (hplain:(Gu cpos (Bq [] X.env)).any (·.1)=false:=by rfl)
  (hsw:Kd (.Call (.Attribute o "append" apos) [e] [] cpos) none pos.line X.env=pure false:=by rfl) :
  qB X (.Expr (.Call (.Attribute o "append" apos) [e] [] cpos) pos) (aE i de):=by
 refine PS.impD (qE (P5 PySem.F.plainAttrs_list PySem.F.slot_list_append PySem.F.type_list_append Qb ho (Gs he Kr hs) hbase hfew hline hs hplain) hsw) λD σ H h=>?_
 obtain ⟨H0,Y,S,T,δ,P,rfl,hS,hT,hA,hd,k1,k2,k3,k4⟩:=h
 unfold aE at hd
 split at hd
 case h_2=>exact hd.elim
 rename_i m0 ds0 hsl
 obtain ⟨ent,e2,e3⟩:=Hh hS hsl
 have hm:ent∈S:=Ax e2
 obtain ⟨u,x,F⟩:=ent
 have e3':x=.dat m0 (.list ds0):=e3
 subst e3'
 obtain ⟨v,hv,rd,_⟩:=hA.ok _ (Ao _ hm)
 obtain ⟨a,xs,G,rfl,ha,ra,eF,hz⟩:=rd.list_inv
 refine ⟨.ref a,by rw[Lp e2]; exact congrArg some hv,.inl ⟨rfl,xs,Mc.of ha⟩,H0,Y,S,T,δ,_,rfl,hS,hA,hd,λy δ1 w F1 S1 H1 e4 e5 hA1 p1=>?_⟩
 unfold appOB at p1
 split at p1
 ·rename_i m ds my e' hsl1
  obtain ⟨p1,p2,p3,p4,p5⟩:=p1
  obtain ⟨b,xs1,g1,g2,g3,S2,h1,h2,h3⟩:=nJ e5 hT hA1 hsl1 p1 p3 p2 p4
  rw[e4,Lp e2] at g1
  have : some (V.ref b)=some (V.ref a):=(Bp g1).symm.trans hv
  cases this
  refine ⟨a,xs1,w,rfl,rfl,g2,Cc (by omega) (jG (n:=1000000) (Ak _)),?_⟩
  rw[<- e4,<- h1]
  exact k1 ⟨_,_⟩ S2 _ h2 h3 p5
 ·exact p1.elim
end
end DL
namespace Nd
open PySem PySem.Spec PyProof.Rows L2
end Nd
namespace DL
open PySem PySem.Spec PyProof.Rows L2 Nd
def HD(n:Nat)(gs:zH):DG:=λx δ P=>match x with
 | .dat m (.list ds)=>ds.length=n/\gs (ds.map λd=>.dat (Pj m) d) δ P
 | _=>False
def aY:D2:=λx y P=>match x,y with
 | .dat m (.list ds),.dat m' (.list es)=>m≠.pk/\m'≠.pk/\ds.length+es.length<=1000000/\P (.dat .tp (.list (ds++es)))
 | _,_=>False
theorem O1(h:m≠.pk):Le (.dat m d)=false:=by cases m <;> first | rfl | exact absurd rfl h
theorem x5{K:PySem.W.Frag}:mP K V7 aY:=by
 intro H0 X n S T x y v w F G H Q P hA hd k
 unfold aY at hd
 split at hd
 ·rename_i m ds m' es
  obtain ⟨i1,i2,hz,p⟩:=hd
  obtain ⟨b,ys,G1,rfl,hb,rb,rfl,_⟩:=(hA.told mem_mid).list_inv
  obtain ⟨a,xs,G2,rfl,ha,ra,rfl,_⟩:=(hA.told El).list_inv
  have l1:=ra.len
  have l2:=rb.len
  refine ⟨a,b,xs,ys,rfl,rfl,ha,hb,jG (by omega),λq hq=>?_⟩
  have s1:=Dl hq (.lst (xs++ys))
  have sy:=Bb.mp hA.mid.sep
  have sx:=Bb.mp hA.drop.mid.sep
  have nq:∀f∈S++_::_::T,q∉f.F:=hA.free hq
  have n1:q∉G1:=λz=>nq _ mem_mid (Ae _ z)
  have n2:q∉G2:=λz=>nq _ El (Ae _ z)
  have fr:=hA.drop2.free hq
  refine k _ _ _ _ (((hA.drop2.grow (n':=n) s1 (Ak _)).push (e:=⟨some (.ref q),.dat .tp (.list (ds++es)),q::(G2++G1)⟩) ⟨_,rfl,.lst Cp (by rw[Bn]; exact jG (by omega)) ((ra.app rb).kp (Kp.of s1)),λz=>(nomatch z),λ_ a l e=>?_⟩ (λf hf=>⟨λ_ c hc z=>?_,λ_ c hc z=>?_⟩) λc hc=>?_).tomid) p
  ·cases e
   exact λz=>(Ay.mp z).elim n2 n1
  ·rw[Af.mp hc] at z
   exact fr f hf z
  ·rcases Ah.mp z with z | z
   ·rw[z] at hc
    exact fr f hf (En _ _ hc)
   ·rcases Ay.mp z with z | z
    ·exact (sx.1 f hf).2 (.inl (O1 i1)) c hc (Ae _ z)
    ·exact (sy.1 f ((Cr S).append (Cv _ T) |>.subset hf)).2 (.inl (O1 i2)) c hc (Ae _ z)
  ·rw[Af.mp hc]
   exact .inl (hA.new0 hq)
 ·exact hd.elim
theorem gA(ha:Em X a da)(hb:Em X b db):Em X (.BinOp a .Add b pos) (Vt aY da db):=Uc gZ x5 ha hb
end DL
namespace Nd
open PySem PySem.Spec PyProof.Rows
section
variable{prog:Bs}{w:World}{κ:Type}[DecidableEq κ](knd:HeapKind prog w κ)
def DictE(h:Heap)(d:Addr)(xs:List (κ×Addr×Value)):Prop :=
 ∃(o:Obj) (es:Array Hz) (ep:Nat),h.get? d=some o/\o.ExactDict/\o.data=.dict es ep/\es.toList=xs.map (cV knd)/\(∀x∈xs,knd.is h x.1 x.2.1)/\(xs.map (·.1)).Nodup/\ep=es.size
variable{knd}
theorem DictE.of(x:DictE knd h d xs):h.DictOfH knd d xs:=let ⟨o,es,ep,a,b,c,e,f,g,_⟩:=x; ⟨o,es,ep,a,b,c,e,f,g⟩
variable{A:Cs}{E:Value->Aj->Prop}{s:Aj}{d a:Addr}{xs:List (κ×Addr×Value)}{k:κ}{v:Value}
theorem uW(hn:(xs.map (·.1)).Nodup)(hk:k∉xs.map (·.1)):((xs++[(k,a,v)]).map (·.1)).Nodup:=by
 rw[Bi,List.nodup_append]
 refine ⟨hn,by simp,λx hx y hy e=>hk ?_⟩
 rw[Aw,Ki,List.mem_singleton] at hy
 have hy:y=k:=hy
 rw[<- hy,<- e]
 exact hx
theorem vM(ho:h.get? d=some o)(hc:o.ExactDict)(hd:o.data=.dict es ep)(he:es.toList=xs.map (cV knd))(his:∀x∈xs,knd.is h x.1 x.2.1)(hn:(xs.map (·.1)).Nodup)(hep:ep=es.size)(hkey:knd.is h k a)(ha:atKey xs k=none)(hk:k∉xs.map (·.1)):DictE knd (h.update d (Obj.mapDictKeys λes=>es.push ⟨knd.hash k,.ref a,v⟩)) d (storedH xs k a v):=by
 rw[storedH_new ha]
 refine ⟨_,_,ep+1,Fz _ ho (Obj.isFreed_of_dict (Obj.data_mapDictKeys hd _)),hc.mapDictKeys _,Obj.data_mapDictKeys hd _,by simp [he,cV],λx hx=>?_,uW hn hk,by rw[hep,Array.size_push]⟩
 rcases Ay.mp hx with z | z
 ·exact knd.keeps (his x z) ho hd (Co ..)
 ·rw[Af.mp z]
  exact knd.keeps hkey ho hd (Co ..)
theorem kI(hu:knd.room A)(hkey:knd.is s.heap k a)(hm:DictE knd s.heap d xs)(q:∀h',DictE knd h' d (storedH xs k a v)->Dm d s.heap h'->Q () { s with heap:=h',toks:=s.toks+knd.draws k })(hz:xs.length<=Au):wpAny (model prog w) A (dictSet d (.ref a) v) Q E s:=by
 obtain ⟨o,es,ep,ho,hc,hd,he,his,hn,hep⟩:=hm
 unfold dictSet
 try with_reducible refine Dd ?_
 refine Aa (knd.pyHash hu hkey ?_)
 unfold dictSetHashed
 try with_reducible refine Dd ?_
 refine Aa (wpAny_dictFind_heap (s:={ s with toks:=s.toks+knd.draws k }) hu hkey ho hd he his hn (λno=>?_) λj p hj=>?_)
 ·exact Aa (Kw (wpAny_updateDictKeys (hz:=by have e:=size_of_entries he; omega) (s:={ s with toks:=s.toks+knd.draws k }) ho hd (q _ (vM ho hc hd he his hn hep hkey (atKey_none_of_get no) (not_mem_keys_of_get no)) (Co ..))))
 ·refine Aa (Kw (Aa (wpAny_updateDict (s:={ s with toks:=s.toks+knd.draws k }) ho hd (wpAny_point (q _ ?_ (Co ..))))))
  rw[storedH_old (atKey_of_get hn hj)]
  refine ⟨_,_,ep,Fz _ ho (Obj.isFreed_of_dict (Obj.data_mapDict hd _)),hc.mapDict _,Obj.data_mapDict hd _,?_,λx hx=>?_,by rw[keys_map_putAt]; exact hn,by rw[hep]; simp⟩
  ·have e1:=modify_map_putAt (cV knd) (λe:Hz=>{ e with val:=v }) k v (λ_ _=>rfl) hn hj
   rw[<- he] at e1
   obtain ⟨l⟩:=es
   simpa using e1
  ·obtain ⟨y,hy,rfl⟩:=Bu.mp hx
   unfold putAt
   split <;> exact knd.keeps (his y hy) ho hd (Co ..)
theorem setItemE(hu:knd.room A.in1)(hkey:knd.is s.heap k a)(hm:DictE knd s.heap d xs)(q:∀h',DictE knd h' d (storedH xs k a v)->Dm d s.heap h'->Q () { s with heap:=h',toks:=s.toks+knd.draws k })(hz:xs.length<=Au):wpAny (model prog w) A (setItem (.ref d) (.ref a) v) Q E s:=by
 have tD:=hm.of.typeIs
 unfold setItem
 try with_reducible refine Dd ?_
 refine Aa (fP tD (by decide) ?_)
 refine Aa (Ed (name:=Dr "__setitem__") tD slot_dict_setitem (Ew slot_dict_setitem tD entry_dict_setitem ?_ (args_dict_setitem _ _ _)))
 show wpAny _ _ (bind (Builtin.Dict.notOrdered "__setitem__" ⟨[.ref d,.ref a,v],[]⟩) _) _ _ s
 refine Aa (Wp tD ?_)
 show wpAny _ _ (bind (dictSet d (.ref a) v) _) _ _ s
 exact Aa (kI hu hkey hm (λh' a b=>Am ⟨.none,rfl,Am (q h' a b)⟩) hz)
end
end Nd
namespace L2
open PySem PySem.Spec PyProof.Rows
section
variable{κ:Type}[DecidableEq κ]
def Tv(kvs:List (κ×V))(k:κ):Option V:=(kvs.find? λkv=>decide (kv.1=k)).map (·.2)
def Mr(kvs:List (κ×V))(k:κ)(v:V):List (κ×V) :=
 if (kvs.any λkv=>decide (kv.1=k))=true then kvs.map (λkv=>if kv.1=k then (kv.1,v) else kv) else kvs++[(k,v)]
theorem Rt{p:κ×V}(e:p.1=k):Tv (p::r) k=some p.2:=by simp [Tv,Ja,e]
theorem Rl{p:κ×V}(e:¬ p.1=k):Tv (p::r) k=Tv r k:=by simp [Tv,Ja,e]
theorem kH(k:κ):∀kvs:List (κ×V),(kvs.any λkv=>decide (kv.1=k))=(Tv kvs k).isSome
 | []=>rfl
 | p::r=>by
  rw[Jd]
  by_cases e:p.1=k
  ·simp only[Rt e,decide_eq_true e,Bool.true_or,Option.isSome_some]
  ·rw[Rl e,decide_eq_false e,Bool.false_or]; exact kH k r
theorem Ro(kvs:List (κ×V))(k:κ)(v:V):(Mr kvs k v).length<=kvs.length+1:=by
 unfold Mr
 split
 ·rw[Ad]; omega
 ·rw[Bn,Br,Iz]; omega
theorem kT.isSome_eq(r:kT o u):o.isSome=u.isSome:=by
 cases o with
 | none=>cases u with
  | none=>rfl
  | some _=>exact (show False from r).elim
 | some _=>cases u with
  | none=>exact (show False from r).elim
  | some _=>rfl
theorem kT.getD(r:kT o u)(rd:RelV d d'):RelV (o.getD d) (u.getD d'):=by
 cases o with
 | none=>cases u with
  | none=>exact rd
  | some _=>exact (show False from r).elim
 | some _=>cases u with
  | none=>exact (show False from r).elim
  | some _=>exact r
theorem KV.val(r:KV kvs vs)(k:κ):kT (Tv kvs k) (valueAt vs k):=by
 unfold KV at r
 induction r with
 | nil=>exact Ke
 | @cons p q ps qs h t ih =>
  obtain ⟨h1,h2⟩:=h
  by_cases e:p.1=k
  ·have e':q.1=k:=h1.symm.trans e
   have b:valueAt (q::qs) k=some q.2:=by simp [valueAt,Ja,e']
   rw[Rt e,b]; exact h2
  ·have e':¬ q.1=k:=λz=>e (h1.trans z)
   have b:valueAt (q::qs) k=valueAt qs k:=by simp [valueAt,Ja,e']
   rw[Rl e,b]; exact ih
theorem KV.any(r:KV kvs vs)(k:κ):(kvs.any λkv=>decide (kv.1=k))=vs.any λkv=>decide (kv.1=k):=by
 unfold KV at r
 induction r with
 | nil=>rfl
 | cons h t ih=>rw[Jd,Jd,ih,h.1]
theorem KV.repl(r:KV kvs vs)(k:κ)(ry:RelV y u):KV (kvs.map λkv=>if kv.1=k then (kv.1,y) else kv) (vs.map λkv=>if kv.1=k then (kv.1,u) else kv):=by
 unfold KV at r ⊢
 induction r with
 | nil=>exact .nil
 | @cons p q ps qs h t ih =>
  rw[Aw,Aw]
  refine .cons ?_ ih
  obtain ⟨h1,h2⟩:=h
  by_cases e:p.1=k
  ·rw[if_pos e,if_pos (h1.symm.trans e)]; exact ⟨h1,ry⟩
  ·rw[if_neg e,if_neg (λz=>e (h1.trans z))]; exact ⟨h1,h2⟩
theorem KV.put(r:KV kvs vs)(k:κ)(ry:RelV y u):KV (Mr kvs k y) (stored vs k u):=by
 unfold Mr stored
 rw[r.any k]
 by_cases e:(vs.any λkv=>decide (kv.1=k))=true
 ·rw[if_pos e,if_pos e]; exact r.repl k ry
 ·rw[if_neg e,if_neg e]; exact Paired.snoc r ⟨rfl,ry⟩
theorem KV.length{kvs:List (κ×V)}(r:KV kvs vs):kvs.length=vs.length:=Paired.length r
end
theorem rS(r:RelV (kV k) u):(Hf P w).is k u=true:=by
 cases k with
 | inl i=>obtain ⟨t,e⟩:=(show ∃t,u=Uw i t from r); subst e; exact kP P w i t
 | inr x=>obtain ⟨t,e⟩:=(show ∃t,u=Value.str x t from r); subst e; exact lU P w x t
theorem eY:∀{ks:List Hj} {us:List Value},Fg (ks.map kV) us->ItemsAre (Hf P w) ks us
 | [],_,r=>by rw[Ki] at r; cases r; exact .nil
 | k::ks,_,r=>by
  rw[Aw] at r
  cases r with
  | cons h t=>exact .cons (rS h) (eY t)
abbrev KT(H:Hp):List (List Hj×V)->List (List Hj×Addr×Value)->Prop:=Paired λp q=>p.1=q.1/\H q.2.1=some (.tup (p.1.map kV))/\RelV p.2 q.2.2
theorem KT.val(r:KT H kvs xs)(k:List Hj):kT (Tv kvs k) ((atKey xs k).map (·.2)):=by
 induction r with
 | nil=>exact Ke
 | @cons p q ps qs h t ih =>
  obtain ⟨h1,_,h2⟩:=h
  by_cases e:p.1=k
  ·have e':q.1=k:=h1.symm.trans e
   have b:atKey (q::qs) k=some q.2:=by simp [atKey,Ja,e']
   rw[Rt e,b]; exact h2
  ·have e':¬ q.1=k:=λz=>e (h1.trans z)
   have b:atKey (q::qs) k=atKey qs k:=by simp [atKey,Ja,e']
   rw[Rl e,b]; exact ih
theorem KT.repl(r:KT H kvs xs)(k:List Hj)(ry:RelV y u):KT H (kvs.map λkv=>if kv.1=k then (kv.1,y) else kv) (xs.map (putAt k u)):=by
 induction r with
 | nil=>exact .nil
 | @cons p q ps qs h t ih =>
  rw[Aw,Aw]
  refine .cons ?_ ih
  obtain ⟨h1,h2,h3⟩:=h
  unfold putAt
  by_cases e:p.1=k
  ·rw[if_pos e,if_pos (h1.symm.trans e)]; exact ⟨h1,h2,ry⟩
  ·rw[if_neg e,if_neg (λz=>e (h1.trans z))]; exact ⟨h1,h2,h3⟩
theorem KT.put(r:KT H kvs xs)(k:List Hj)(hb:H b=some (.tup (k.map kV)))(ry:RelV y u):KT H (Mr kvs k y) (storedH xs k b u):=by
 have e:(kvs.any λkv=>decide (kv.1=k))=(atKey xs k).isSome:=by
  rw[kH,(r.val k).isSome_eq,Option.isSome_map]
 unfold Mr storedH
 rw[e]
 by_cases q:(atKey xs k).isSome=true
 ·rw[if_pos q,if_pos q]; exact r.repl k ry
 ·rw[if_neg q,if_neg q]; exact Paired.snoc r ⟨rfl,hb,ry⟩
theorem KT.keeps(r:KT H kvs xs)(ht:∀b ys,H b=some (.tup ys)->H' b=some (.tup ys)):KT H' kvs xs :=
 Paired.mapP r λ_ _ z=>⟨z.1,ht _ _ z.2.1,z.2.2⟩
section
variable{P:Bs}{w:World}{H:Hp}{h:Heap}{a:Addr}
theorem zQ(ok:Wo P w H h)(e:Rd H a u):Hg P w H h a u:=e.ok ok
theorem lQ(ok:Wo P w H h)(e:Rd H a (.dK kvs)):kvs.length<=Au/\(a == Fu)=false/\∃vs,KV kvs vs/\h.DictOf (Hf P w) a vs :=
 show Hg P w H h a (.dK kvs) from zQ ok e
theorem DM(ok:Wo P w H h)(e:H a=some (.dK kvs)):kvs.length<=Au/\(a == Fu)=false/\∃vs,KV kvs vs/\h.DictOf (Hf P w) a vs:=lQ ok (.inl e)
theorem Ww(ok:Wo P w H h)(e:H a=some (.tup (ks.map kV))):(Ra (Hf P w)).is h ks a:=by
 obtain ⟨_,its,r,o,h1,h2,n,h3⟩:=(show Hg P w H h a (.tup (ks.map kV)) from ok a _ e)
 exact ⟨o,its.toArray,n,h1,h2,h3,by simpa using eY r⟩
theorem qC(ok:Wo P w H h)(e:Rd H a (.dT kvs)):kvs.length<=Au/\(a == Fu)=false/\∃xs,KT H kvs xs/\h.DictOfH (Ra (Hf P w)) a xs:=by
 obtain ⟨z,y,xs,r,o,es,ep,h1,h2,h3,h4,h5,h6⟩:=(show Hg P w H h a (.dT kvs) from zQ ok e)
 refine ⟨z,y,xs,r,o,es,ep,h1,h2,h3,h4,λx hx=>?_,h5⟩
 have all:∀{l:List (List Hj×V)} {m:List (List Hj×Addr×Value)},KT H l m->∀x∈m,(Ra (Hf P w)).is h x.1 x.2.1:=by
  intro l m q
  induction q with
  | nil=>intro x hx; exact nomatch hx
  | @cons p q ps qs hq t ih =>
   intro x hx
   rcases Ah.mp hx with e | hx
   ·subst e
    exact Ww ok (by rw[<- hq.1]; exact hq.2.1)
   ·exact ih x hx
 exact all r x hx
theorem wQ(ok:Wo P w H h)(e:Rd H a (.dT kvs)):kvs.length<=Au/\(a == Fu)=false/\∃xs,KT H kvs xs/\Nd.DictE (Ra (Hf P w)) h a xs:=by
 obtain ⟨z,y,xs,r,o,es,ep,h1,h2,h3,h4,h5,h6⟩:=(show Hg P w H h a (.dT kvs) from zQ ok e)
 refine ⟨z,y,xs,r,o,es,ep,h1,h2,h3,h4,λx hx=>?_,h5,h6⟩
 have all:∀{l:List (List Hj×V)} {m:List (List Hj×Addr×Value)},KT H l m->∀x∈m,(Ra (Hf P w)).is h x.1 x.2.1:=by
  intro l m q
  induction q with
  | nil=>intro x hx; exact nomatch hx
  | @cons p q ps qs hq t ih =>
   intro x hx
   rcases Ah.mp hx with e | hx
   ·subst e
    exact Ww ok (by rw[<- hq.1]; exact hq.2.1)
   ·exact ih x hx
 exact all r x hx
end
def lG(H:Hp)(a:Addr)(y:V)(r:Option V):Prop :=
 (∃kvs k,Rd H a (.dK kvs)/\y=kV k/\r=Tv kvs k)\/∃kvs k b,Rd H a (.dT kvs)/\y=.ref b/\H b=some (.tup (k.map kV))/\r=Tv kvs k
def J3(H:Hp)(a:Addr)(y v:V)(H':Hp):Prop :=
 (∃kvs k,H a=some (.dK kvs)/\y=kV k/\kvs.length<Au/\H'=upd H a (.dK (Mr kvs k v))) \/
 ∃kvs k b,H a=some (.dT kvs)/\y=.ref b/\H b=some (.tup (k.map kV))/\kvs.length<Au/\H'=upd H a (.dT (Mr kvs k v))
theorem lG.k{k:Hj}(e:H a=some (.dK kvs)):lG H a (kV k) (Tv kvs k):=.inl ⟨kvs,k,.inl e,rfl,rfl⟩
theorem lG.t{k:List Hj}(e:H a=some (.dT kvs))(eb:H b=some (.tup (k.map kV))):lG H a (.ref b) (Tv kvs k):=.inr ⟨kvs,k,b,.inl e,rfl,eb,rfl⟩
theorem J3.k{k:Hj}(e:H a=some (.dK kvs))(hl:kvs.length<Au):J3 H a (kV k) v (upd H a (.dK (Mr kvs k v))):=.inl ⟨kvs,k,e,rfl,hl,rfl⟩
theorem J3.t{k:List Hj}(e:H a=some (.dT kvs))(eb:H b=some (.tup (k.map kV)))(hl:kvs.length<Au):J3 H a (.ref b) v (upd H a (.dT (Mr kvs k v))):=.inr ⟨kvs,k,b,e,rfl,eb,hl,rfl⟩
section
variable{X:Cx}{pins:List (Addr×Obj)}{σ:St}{H:Hp}{s:Aj}{a:Addr}{y v:V}{u r:Value}{o:Option V}{A:Cs}{E:Value->Aj->Prop}
theorem Inv.big(I:Inv X pins σ H s):Fu<s.heap.objs.size:=by
 have h:Ci<s.heap.objs.size:=(I.mod.glob.keeps I.bk).lt
 exact Nat.lt_trans (by decide) h
theorem tW(hu:A.units+1<cLine)(I:Inv X pins σ H s)(g:lG H a y (some v))(ry:RelV y u)(h:∀w' s',Inv X pins σ H s'->RelV v w'->Q w' s'):wpAny (model X.prog X.w) A (Sh (.ref a) u) Q E s:=by
 rcases g with ⟨kvs,k,e,ey,l⟩ | ⟨kvs,k,b,e,ey,eb,l⟩
 ·subst ey
  obtain ⟨z,hd,vs,rel,dd⟩:=lQ I.hok e
  obtain ⟨w',hw,rw'⟩:=kT.some_of (v:=v) (o:=valueAt vs k) (by rw[l]; exact rel.val k)
  exact wpAny_getItem_of (rS ry) dd.mapOf hw (h w' _ (I.tok _) rw')
 ·subst ey
  cases (show u=Bc b from ry)
  obtain ⟨z,hd,xs,rel,dd⟩:=qC I.hok e
  obtain ⟨w',hw,rw'⟩:=kT.some_of (v:=v) (o:=(atKey xs k).map (·.2)) (by rw[l]; exact rel.val k)
  obtain ⟨p,hp,hp2⟩:=Option.map_eq_some_iff.mp hw
  refine wpAny_getItem_heap (cU hu) (Ww I.hok eb) dd hp ?_
  rw[hp2]
  exact h w' _ (I.tok _) rw'
theorem iY(I:Inv X pins σ H s)(mu:DQ (H a))(hs:Dm a s.heap h')(he:∃q,h'.get? a=some q)(new:Hg X.prog X.w (upd H a ob) h' a ob):Inv X pins σ (upd H a ob) { s with heap:=h',toks:=t' } :=
 I.write (x:=a) (e:=a) mu (.inl rfl) (λb q hb z=>(hs.2 b hb).trans z) he new
theorem T8(z:kvs.length<=Au)(hd:(a == Fu)=false)(rel:KV kvs vs)(dd:h'.DictOf (Hf P w) a vs):Hg P w H' h' a (.dK kvs):=⟨z,hd,vs,rel,dd⟩
theorem tF(hu:A.units+1<cLine)(I:Inv X pins σ H s)(g:J3 H a y v H')(ry:RelV y u)(rv:RelV v r)(h:∀s',Inv X pins σ H' s'->Q () s'):wpAny (model X.prog X.w) A (setItem (.ref a) u r) Q E s:=by
 rcases g with ⟨kvs,k,e,ey,l,eH⟩ | ⟨kvs,k,b,e,ey,eb,l,eH⟩
 ·subst ey eH
  obtain ⟨z,hd,vs,rel,dd⟩:=DM I.hok e
  have hz:vs.length<=Au:=by rw[<- rel.length]; exact z
  have hl:(Mr kvs k v).length<=Au:=by have:=Ro kvs k v; omega
  refine wpAny_setItem_pairs (hsz:=hz) (rS ry) dd λh' dd' hs=>h _ ?_
  have he:∃q,h'.get? a=some q:=let ⟨q,_,_,hq,_⟩:=dd'; ⟨q,hq⟩
  exact iY I (by rw[e]; exact Ke) hs he (T8 hl hd (rel.put k rv) dd')
 ·subst ey eH
  cases (show u=Bc b from ry)
  obtain ⟨z,hd,xs,rel,dd⟩:=wQ I.hok (.inl e)
  have hz:xs.length<=Au:=by rw[<- Paired.length rel]; exact z
  have hl:(Mr kvs k v).length<=Au:=by have:=Ro kvs k v; omega
  refine Nd.setItemE (hz:=hz) (cU hu) (Ww I.hok eb) dd λh' dd' hs=>h _ ?_
  obtain ⟨q,es,ep,hq,h2,h3,h4,_,h5⟩:=dd'
  refine iY I (by rw[e]; exact Ke) hs ⟨q,hq⟩ ⟨hl,hd,_,(rel.put k eb rv).keeps λc ys ec=>?_,q,es,ep,hq,h2,h3,h4,h5⟩
  rw[Cy (sD ec e (λz=>nomatch z))]
  exact ec
end
def B7(i:Expr):Prop:=∀ov iv,subscripted i false ov iv=operate [ov,iv] (Sh ov iv)
theorem B3{prog:Bs}{w:World}{A:Cs}{E:Value->Aj->Prop}{T id:String}(hl:typeLookup (.type T) "__getitem__" = pure (some (.builtin id)))(hs:B7 slice)(h:wpAny (model prog w) A (eval value env) (λo s₁=>wpAny (model prog w) A (eval slice env) (λi s₂=>s₂.TypeIs o T/\wpAny (model prog w) A (Sh o i) Q E s₂) E s₁) E s):wpAny (model prog w) A (eval (.Subscript value slice pos) env) Q E s:=by
 refine Subscript_ (Ft h (λo s₁ h₁=>Ft h₁ (λi s₂ h₂=>?_) λ_ _ x=>x) λ_ _ x=>x)
 obtain ⟨hT,h₂⟩:=h₂
 unfold cO
 refine Aa ?_
 rw[getitemInPython_of_ne hT.not_modules]
 refine Aa (wpAny_specialOf hT hl ?_)
 have fin:wpAny (model prog w) A (subscripted slice false o i) (λr s₃=>wpAny (model prog w) A (letTemporaryGo value o r >>= λ_=>pure r) Q E s₃) E s₂:=by
  rw[hs o i]
  exact wpAny_operating (Ft h₂ (λr s₃ h₃=>Aa (wpAny_letTemporaryGo (Am h₃))) λ_ _ x=>x)
 first
  | exact Am (Aa fin)
  | exact Aa (Am (Aa fin))
  | exact Aa fin
theorem kD{X:Cx}{pins:List (Addr×Obj)}{σ:St}(I:Inv X pins σ H s)(g:lG H a y o):s.TypeIs (.ref a) "dict" := by
 rcases g with ⟨kvs,k,e,_,_⟩ | ⟨kvs,k,b,e,_,_,_⟩
 ·obtain ⟨_,_,vs,_,dd⟩:=lQ I.hok e
  exact dd.typeIs
 ·obtain ⟨_,_,xs,_,dd⟩:=qC I.hok e
  exact dd.typeIs
def AM(td ty:TE):TE:=λσ H Q=>td σ H λx H1=>ty σ H1 λy H2=>∃a v,x=.ref a/\lG H2 a y (some v)/\Q v H2
def BZ(td ty tv:TE):TS:=λD σ H=>tv σ H λv H1=>td σ H1 λx H2=>ty σ H2 λy H3=>∃a H4,x=.ref a/\J3 H3 a y v H4/\D.nx σ H4
section
variable{X:Cx}{o i e value:Expr}{pos pos' tpos:Pos}{td ty tv:TE}
theorem pX(hu:X.A.units+1<cLine)(ho:PE X o td)(hi:PE X i ty)(hs:B7 i):PE X (.Subscript o i pos) (AM td ty):=by
 intro pins s σ H Q I h
 refine B3 PySem.F.slot_dict_getitem.lookup hs (Gk (ho pins s σ H _ I h) λu s1 ⟨x,H1,I1,rx,q1⟩=>Gk (hi pins s1 σ H1 _ I1 q1) λiv s2 q0_ => ?_)
 obtain ⟨y,H2,I2,ry,a,v,ex,g,q2⟩ := q0_
 subst ex
 obtain rfl:u=Bc a:=rx
 exact ⟨kD I2 g,tW hu I2 g ry λw' s3 I3 rw'=>⟨v,H2,I3,rw',q2⟩⟩
theorem qD(hu:X.A.units+1<cLine)(ho:PE X o td)(hi:PE X i ty)(hv:PE X value tv)(hs:Kd value (some (.Subscript o i pos')) pos.line X.env=pure false):PS X (.Assign [.Subscript o i pos'] value pos) (BZ td ty tv):=by
 intro pins s σ H D I h
 refine wpAny_Assign_Subscript (Gk (hv pins s σ H _ I h) λr s1 ⟨v,H1,I1,rv,q1⟩=>Gk (ho pins s1 σ H1 _ I1 q1) λu s2 ⟨x,H2,I2,rx,q2⟩=>Gk (hi pins s2 σ H2 _ I2 q2) λiv s3 ⟨y,H3,I3,ry,a,H4,ex,g,q3⟩=>?_) hs
 subst ex
 obtain rfl:u=Bc a:=rx
 exact tF hu I3 g ry rv λs4 I4=>⟨σ,H4,I4,q3⟩
end
theorem xQ(h:Heap)(hb:Fu<h.objs.size):Hg P w H (h.push { cls:=.type "dict",data:=.dict #[] }) h.objs.size (.dK []) :=
 ⟨Dg _,beq_eq_false_iff_ne.mpr (Ll (Cd hb)),[],.nil,Heap.DictOf.new h⟩
theorem kC(h:Heap)(hb:Fu<h.objs.size):Hg P w H (h.push { cls:=.type "dict",data:=.dict #[] }) h.objs.size (.dT []) :=
 ⟨Dg _,beq_eq_false_iff_ne.mpr (Ll (Cd hb)),[],.nil,_,#[],0,Bf _ rfl,⟨rfl,rfl,rfl⟩,rfl,rfl,Dc,rfl⟩
def X3:TE:=λ_ H Q=>∀p,H p=none->Q (.ref p) (upd H p (.dK []))
def V6:TE:=λ_ H Q=>∀p,H p=none->Q (.ref p) (upd H p (.dT []))
section
variable{X:Cx}{pos:Pos}
theorem yC:PE X (.Dict [] [] pos) X3:=λpins s σ H Q I h =>
 wpAny_Dict_empty ⟨.ref s.heap.objs.size,_,I.laid (a:=s.heap.objs.size) (o:=.dK []) (t':=s.toks) (λ_ _ q=>Ai _ q) (Ak _) (xQ s.heap I.big),rfl,h _ (I.hok.fresh (Ak _))⟩
theorem vU:PE X (.Dict [] [] pos) V6:=λpins s σ H Q I h =>
 wpAny_Dict_empty ⟨.ref s.heap.objs.size,_,I.laid (a:=s.heap.objs.size) (o:=.dT []) (t':=s.toks) (λ_ _ q=>Ai _ q) (Ak _) (kC s.heap I.big),rfl,h _ (I.hok.fresh (Ak _))⟩
end
structure M1(X:Cx)(o:Expr)(m:Str)(apos:Pos)(e:Expr)(cpos:Pos):Prop where
 base:Tp o m X.env (eval o X.env)=eval o X.env
 few:((Gu cpos (Bq [e] X.env)).all (λx=>!x.1) && (backToKw cpos (Yp [] X.env)).all (λx=>x.1.isSome)
  && decide (([e]:List Expr).length+([]:List Sk).length+(if ([]:List Sk).isEmpty then 0 else 1)<30))=true
 line:(apos.endLine == cpos.line)=true
 trees:Gu cpos (Bq [e] X.env)=[(false,eval e X.env)]
structure M2(X:Cx)(o:Expr)(m:Str)(apos:Pos)(e f:Expr)(cpos:Pos):Prop where
 base:Tp o m X.env (eval o X.env)=eval o X.env
 few:((Gu cpos (Bq [e,f] X.env)).all (λx=>!x.1) && (backToKw cpos (Yp [] X.env)).all (λx=>x.1.isSome)
  && decide (([e,f]:List Expr).length+([]:List Sk).length+(if ([]:List Sk).isEmpty then 0 else 1)<30))=true
 line:(apos.endLine == cpos.line)=true
 trees:Gu cpos (Bq [e,f] X.env)=[(false,eval e X.env),(false,eval f X.env)]
def HH(H:Hp)(a:Addr):Prop:=(∃kvs,Rd H a (.dK kvs))\/∃kvs,Rd H a (.dT kvs)
theorem Z4{σ:St}(I:Inv X pins σ H s)(d:HH H a):s.TypeIs (.ref a) "dict" /\ (∀b,Bc a=.ref b->∃ob,s.heap.get? b=some ob/\ob.dict=none)/\(a == Fu)=false:=by
 rcases d with ⟨kvs,e⟩ | ⟨kvs,e⟩
 ·obtain ⟨_,hd,vs,_,dd⟩:=lQ I.hok e
  refine ⟨dd.typeIs,λb q=>?_,hd⟩
  cases q
  obtain ⟨ob,_,_,h1,h2,_⟩:=dd
  exact ⟨ob,h1,h2.2.1⟩
 ·obtain ⟨_,hd,xs,_,dd⟩:=qC I.hok e
  refine ⟨dd.typeIs,λb q=>?_,hd⟩
  cases q
  obtain ⟨ob,_,_,h1,h2,_⟩:=dd
  exact ⟨ob,h1,h2.2.1⟩
section
variable{X:Cx}{pins:List (Addr×Obj)}{σ:St}{H:Hp}{s:Aj}{a:Addr}{y d:V}{u r:Value}{o:Option V}{A:Cs}{E:Value->Aj->Prop}
theorem Z9(hu:A.units+1<cLine)(I:Inv X pins σ H s)(g:lG H a y o)(ry:RelV y u)(rd:RelV d r)(h:∀w' s',Inv X pins σ H s'->RelV (o.getD d) w'->Q w' s'):wpAny (model X.prog X.w) A (call (.builtin "dict.get") [.ref a,u,r]) Q E s:=by
 rcases g with ⟨kvs,k,e,ey,l⟩ | ⟨kvs,k,b,e,ey,eb,l⟩
 ·subst ey
  obtain ⟨z,hd,vs,rel,dd⟩:=lQ I.hok e
  refine call_meetsIn PySem.F.slot_dict_get dd.typeIs PySem.F.entry_dict_get (PySem.F.args_dict_get_3 _ _ _) (meets_dict_get_default (Hf X.prog X.w) a (rS ry) hd r) ⟨_,dd.mapOf,h _ _ (I.tok _) ?_⟩
  rw[l]
  exact (rel.val k).getD rd
 ·subst ey
  cases (show u=Bc b from ry)
  obtain ⟨z,hd,xs,rel,dd⟩:=qC I.hok e
  refine call_meetsIn PySem.F.slot_dict_get dd.typeIs PySem.F.entry_dict_get (PySem.F.args_dict_get_3 _ _ _) (meetsH_dict_get_default (Ra (Hf X.prog X.w)) a b hd r) ⟨cU hu,k,xs,Ww I.hok eb,dd,h _ _ (I.tok _) ?_⟩
  rw[l]
  exact (rel.val k).getD rd
end
def yW(td ty tx:TE):TE:=λσ H Q=>td σ H λx H1=>∃a,x=.ref a/\HH H1 a/\ty σ H1 λy H2=>tx σ H2 λz H3=>∃o,lG H3 a y o/\Q (o.getD z) H3
section
variable{X:Cx}{o e f:Expr}{apos cpos:Pos}{td ty tx:TE}
theorem vK(hu:X.A.units+1<cLine)(ho:PE X o td)(he:PE X e ty)(hf:PE X f tx)(m:M2 X o "get" apos e f cpos):PE X (.Call (.Attribute o "get" apos) [e,f] [] cpos) (yW td ty tx):=by
 intro pins s σ H Q I h
 refine wpAny_Call_method m.base m.few m.line PySem.F.plainAttrs_dict PySem.F.slot_dict_get PySem.F.type_dict_get (Gk (ho pins s σ H _ I h) λu s1 q0_ => ?_)
 obtain ⟨x,H1,I1,rx,a,ex,d,q1⟩ := q0_
 subst ex
 obtain rfl:u=Bc a:=rx
 obtain ⟨t1,t2,_⟩:=Z4 I1 d
 refine ⟨t1,t2,?_⟩
 rw[m.trees]
 refine mW rfl (Calls.evalArgs_plain (Ph (Gk (he pins s1 σ H1 _ I1 q1) λiv s2 ⟨y,H2,I2,ry,q2⟩ =>
  Ph (Gk (hf pins s2 σ H2 _ I2 q2) λfv s3 ⟨z,H3,I3,rz,ov,g,q3⟩=>Ys ?_))))
 exact Z9 hu I3 g ry rz λw' s4 I4 rw'=>⟨_,H3,I4,rw',q3⟩
end
end L2
namespace Nd
open PySem PySem.Spec PyProof.Rows L2
end Nd
namespace DL
open PySem PySem.Spec PyProof.Rows L2 Nd
def Yx(ks:List (List Int×Ac))(w:List Int):Option Ac:=(ks.find? λp=>decide (p.1=w)).map (·.2)
def Rn(ks:List (List Int×Ac))(w:List Int)(d:Ac):List (List Int×Ac) :=
 if (ks.any λp=>decide (p.1=w))=true then ks.map (λp=>if p.1=w then (p.1,d) else p) else ks++[(w,d)]
theorem Qp{α β:Type}{f:α->β}(hf:∀a b,f a=f b->a=b):∀{l m:List α},l.map f=m.map f->l=m
 | [],[],_=>rfl
 | [],_::_,h=>by cases h
 | _::_,[],h=>by cases h
 | a::l,b::m,h=>by
  obtain ⟨h1,h2⟩:=Do h
  rw[hf a b h1,Qp hf h2]
theorem Rw(h:Cn a=Cn b):a=b:=Qp (λx y e=>by cases e; rfl) (PyData.tuple.inj h)
theorem Tc(h:Qz a=Qz b):a=b:=Qp (λx y e=>by
 obtain ⟨e1,e2⟩:=Prod.mk.inj e
 exact Prod.ext (Rw e1) e2) (Do h).2
theorem aK(h:Kg a=Kg b):a=b:=Qp (λx y e=>by cases e; rfl) h
theorem iS(w:List Int):(Kg w).map kV=w.map V.int:=by
 unfold Kg
 rw[Ce]
 rfl
section
variable{K:PySem.W.Frag}{H H':Hp}
structure DRel(K:PySem.W.Frag)(H:Hp)(kv:List (List Hj×V))(ks:List (List Int×Ac)):Prop where
 key:kv.map (·.1)=ks.map λp=>Kg p.1
 val:RdFs K H (kv.map (·.2)) (ks.map (·.2)) []
theorem RdF.dict_inv(h:RdF K H v (.dict X) F)(hX:M8 X=true:=by first | rfl | assumption):∃a kv ks,v=.ref a/\X=Qz ks/\H a=some (.dT kv)/\DRel K H kv ks/\F=[a]:=by
 cases h with
 | dic h e hs=>exact ⟨_,_,_,rfl,rfl,h,⟨e,hs⟩,rfl⟩
 | dik h e hs=>cases hX
 | dnm h e hs=>cases hX
theorem RdFs.cons_nil(h:RdFs K H (x::xs) (d::ds) F)(hF:F=[]):RdF K H x d []/\RdFs K H xs ds []:=by
 cases h with
 | cons a t =>
  obtain ⟨rfl,rfl⟩:=pT.mp hF
  exact ⟨a,t⟩
theorem Rx(r:DRel K H kv ks):kv.length=ks.length:=by
 have:=congrArg Fb r.key
 simpa using this
theorem cK(w:List Int):∀{kv:List (List Hj×V)} {ks:List (List Int×Ac)},DRel K H kv ks->(Tv kv (Kg w)=none/\Yx ks w=none)\/∃v d,Tv kv (Kg w)=some v/\Yx ks w=some d/\RdF K H v d []
 | [],[],_=>.inl ⟨rfl,rfl⟩
 | [],_::_,r=>by cases r.key
 | _::_,[],r=>by cases r.key
 | (k,v)::kv,(u,d)::ks,r=>by
  obtain ⟨e1,e2⟩:=Do r.key
  have e1:k=Kg u:=e1
  obtain ⟨r1,r2⟩:=RdFs.cons_nil r.val rfl
  by_cases h:u=w
  ·subst h e1
   refine .inr ⟨v,d,Rt rfl,by simp [Yx],r1⟩
  ·have hk:¬ k=Kg w:=λz=>h (aK (e1.symm.trans z))
   rw[Rl hk,show Yx ((u,d)::ks) w=Yx ks w by simp [Yx,h]]
   exact cK w ⟨e2,r2⟩
theorem yV(w:List Int)(r:DRel K H kv ks):(kv.any λp=>decide (p.1=Kg w))=(ks.any λp=>decide (p.1=w)):=by
 have h1:(kv.any λp=>decide (p.1=Kg w))=((kv.map (·.1)).any λk=>decide (k=Kg w)):=by rw[Sj]; rfl
 rw[h1,r.key,Sj]
 congr 1
 funext p
 exact decide_eq_decide.mpr ⟨λz=>aK z,λz=>by show Kg p.1=Kg w; rw[z]⟩
theorem dX(w:List Int)(rv:RdF K H v d []):∀{kv:List (List Hj×V)} {ks:List (List Int×Ac)},DRel K H kv ks->DRel K H (kv.map λp=>if p.1=Kg w then (p.1,v) else p) (ks.map λp=>if p.1=w then (p.1,d) else p)
 | [],[],r=>r
 | [],_::_,r=>by cases r.key
 | _::_,[],r=>by cases r.key
 | (k,v')::kv,(u,d')::ks,r=>by
  obtain ⟨e1,e2⟩:=Do r.key
  have e1:k=Kg u:=e1
  obtain ⟨r1,r2⟩:=RdFs.cons_nil r.val rfl
  have ih:=dX w rv (kv:=kv) (ks:=ks) ⟨e2,r2⟩
  rw[Aw,Aw]
  by_cases h:u=w
  ·rw[if_pos (show k=Kg w by rw[e1,h]),if_pos h]
   exact ⟨by rw[Aw,Aw,ih.key]; exact congrArg (·::_) e1,RdFs.cons (F:=[]) (G:=[]) rv ih.val⟩
  ·have hk:¬ k=Kg w:=λz=>h (aK (e1.symm.trans z))
   rw[if_neg (show ¬ (k,v').1=Kg w from hk),if_neg (show ¬ (u,d').1=w from h)]
   exact ⟨by rw[Aw,Aw,ih.key]; exact congrArg (·::_) e1,RdFs.cons (F:=[]) (G:=[]) r1 ih.val⟩
theorem jX(w:List Int)(rv:RdF K H v d [])(r:DRel K H kv ks):DRel K H (Mr kv (Kg w) v) (Rn ks w d):=by
 unfold Mr Rn
 rw[yV w r]
 split
 ·exact dX w rv r
 ·refine ⟨by rw[Bi,Bi,r.key]; rfl,?_⟩
  rw[Bi,Bi]
  exact r.val.snoc rv
theorem DRel.kp(r:DRel K H kv ks)(k:Kp [] H H'):DRel K H' kv ks:=⟨r.key,r.val.kp k⟩
end
def O6:R2:=λx y H Q=>∃a v,x=.ref a/\lG H a y (some v)/\Q v H
def iI:D2:=λx y P=>match x,y with
 | .dat _ (.dict X),.dat _ k=>∃ks w d,X=Qz ks/\k=Cn w/\Yx ks w=some d/\P (.dat .ow d)
 | _,_=>False
section
variable{K:PySem.W.Frag}
theorem Vu(r:RdF K H v (Cn w) F):∃b,v=.ref b/\H b=some (.tup ((Kg w).map kV)):=by
 obtain ⟨b,xs,rfl,hb,rb,_⟩:=r.tup_inv
 obtain ⟨rfl,_⟩:=rb.ints_inv
 exact ⟨b,rfl,by rw[iS]; exact hb⟩
theorem D0:mP K O6 iI:=by
 intro H0 X n S T x y v w F G H Q P hA hd k
 unfold iI at hd
 split at hd
 ·obtain ⟨ks,u,d,rfl,rfl,hg,p⟩:=hd
  obtain ⟨b,rfl,hb⟩:=Vu (hA.told mem_mid)
  obtain ⟨a,kv,ks',rfl,ek,ha,rel,_⟩:=(hA.told El).dict_inv
  obtain rfl:=Tc ek
  rcases cK u rel with ⟨_,z⟩ | ⟨v',d',h1,h2,h3⟩
  ·rw[z] at hg; cases hg
  ·rw[h2] at hg; cases hg
   exact ⟨a,v',rfl,h1▸lG.t ha hb,k _ _ [] H (hA.drop2.pushI h3) p⟩
 ·exact hd.elim
end
section
variable{X:Cx}{a b:Expr}{da db:DE}{pos:Pos}
theorem DY(hu:n+64<cLine):n+1<cLine:=by omega
theorem Zm(hu:X.A.units+64<cLine)(ha:Em X a da)(hb:Em X b db)(hs:B7 b:=by intro _ _; rfl):Em X (.Subscript a b pos) (Vt iI da db):=PE.imp (pX (DY hu) ha hb hs) (op_le D0)
end
def P8:DE:=λδ P=>P (.dat .ow (.dict (Qz []))) δ
theorem At.newD{K:PySem.W.Frag}(h:At K H0 X n (S++T) H)(hp:H p=none):At K H0 X n (S++⟨some (.ref p),.dat .ow (.dict (Qz [])),[p]⟩::T) (upd H p (.dT [])):=by
 have s1:=Dl hp (.dT [])
 refine ((h.grow (n':=n) s1 (Ak _)).push (e:=⟨some (.ref p),.dat .ow (.dict (Qz [])),[p]⟩) ⟨_,rfl,.dic Cp rfl .nil,λ_=>By.mpr ⟨Av,Dc⟩,λz=>nomatch z⟩ (λf hf=>?_) λa ha=>?_).tomid
 ·have nf:=h.free hp f hf
  refine ⟨λ_ a ha z=>?_,λ_ a ha z=>?_⟩
  ·rw[Af.mp ha] at z
   exact nf z
  ·rw[Af.mp z] at ha
   exact nf (En _ _ ha)
 ·rw[Af.mp ha]
  exact .inl (h.new0 hp)
theorem J4:Em X (.Dict [] [] pos) P8:=by
 refine PE.imp vU λσ H Q h=>?_
 obtain ⟨H0,Y,S,T,δ,P,rfl,hS,hA,hd,k⟩:=h
 exact λp hp=>k _ δ _ _ S _ rfl hS (hA.newD hp) hd
theorem At.writeD{K:PySem.W.Frag}{H0 H:Hp}{X:Addr->Prop}(h:At K H0 X n (⟨v,.dat .ow (.dict (Qz ks)),[a]⟩::E) H)(hv:v=some (.ref a))(np:∀e∈E,Le e.x=false)(r:DRel K H kv' ks'):At K H0 X n (⟨v,.dat .ow (.dict (Qz ks')),[a]⟩::E) (upd H a (.dT kv')):=by
 obtain ⟨w,e1,rd,hn,ht⟩:=h.ok _ Ab
 obtain ⟨b,kv,ks0,e2,ek,ha,_,eF⟩:=rd.dict_inv
 have eF':[a]=[b]:=eF
 cases eF'
 have hs:=Bb.mp h.sep
 have kp:∀{F':List Addr},a∉F'->Kp F' H (upd H a (.dT kv')):=λ{F'} hF b o q z=>by
  have : b≠a:=by
   rintro rfl
   rw[ha] at q
   cases q
   rcases z with z | z
   ·exact hF z
   ·rcases z with ⟨_,z⟩ | ⟨_,_,z⟩ <;> cases z
  rw[Cy this]
  exact q
 have n0:H0 a=none:=by
  rcases h.new _ Ab a Ab with z | z
  ·exact z
  ·cases z.2
 refine ⟨λf hf=>?_,Bb.mpr ⟨λf hf=>⟨λhq c hc=>(hs.1 f hf).1 (.inl (np f hf)) c hc,λhq c hc=>(hs.1 f hf).2 (.inl rfl) c hc⟩,hs.2⟩,λf hf=>?_,λb o nx q=>?_,λb o q=>?_,λb hb=>?_⟩
 ·rcases Ah.mp hf with rfl | hf
  ·exact ⟨.ref a,hv,.dic Cp r.key (r.val.kp (kp Av)),λ_=>By.mpr ⟨Av,Dc⟩,λz=>nomatch z⟩
  ·exact (h.ok f (Ae _ hf)).kp (kp ((hs.1 f hf).1 (.inl (np f hf)) a Ab)) (Ak _)
 ·rcases Ah.mp hf with rfl | hf
  ·exact λc hc=>h.new _ Ab c hc
  ·exact h.new f (Ae _ hf)
 ·rw[Cy (Dw q n0)]
  exact h.same b o nx q
 ·rw[Cy (Dw q n0)]
  exact h.dom b o q
 ·obtain ⟨z,c,k,f,h1,h2⟩:=h.xd b hb
  refine ⟨z,c,k,f,(Cy ?_).trans h1,h2⟩
  rintro rfl
  exact z n0
theorem jT{K:PySem.W.Frag}(hS:Sl S δ)(hT:∀e∈T,Le e.x=false)(hA:At K H0 X δ.n (S++T) H)(hi:δ.sl[i]? = some (.dat .ow (.dict (Qz ks))))(np:npk δ.sl=true):∃a kv,(vs S)[i]? = some (some (.ref a))/\H a=some (.dT kv)/\DRel K H kv ks/\∀kv',DRel K H kv' ks'->∃S',vs S'=vs S/\Sl S' ⟨δ.sl.set i (.dat .ow (.dict (Qz ks'))),δ.n⟩/\At K H0 X δ.n (S'++T) (upd H a (.dT kv')):=by
 obtain ⟨ent,e2,e3⟩:=Hh hS hi
 have hm:ent∈S:=Ax e2
 obtain ⟨u,x,F⟩:=ent
 have e3':x=.dat .ow (.dict (Qz ks)):=e3
 subst e3'
 obtain ⟨v,hv,rd,_⟩:=hA.ok _ (Ao _ hm)
 obtain ⟨a,kv,ks0,rfl,ek,ha,rel,eF⟩:=rd.dict_inv
 obtain rfl:=Tc ek
 have eF':F=[a]:=eF
 subst eF'
 refine ⟨a,kv,by rw[Lp e2]; exact congrArg some hv,ha,rel,λkv' r=>?_⟩
 have hn:=aC hS np
 have h1:=(hA.perm ((Jj e2).append_right T)).writeD (ks':=ks') (kv':=kv') hv (λe he=>?_) r
 ·refine ⟨S.set i ⟨u,.dat .ow (.dict (Qz ks')),[a]⟩,?_,?_,h1.perm ((Nn e2).append_right T).symm⟩
  ·unfold vs
   rw[Es]
   apply Hr
   intro j
   rw[Ho]
   split
   ·rename_i hij
    subst hij
    rw[Be,e2]
    split
    ·rfl
    ·rename_i hj
     rw[Ad] at hj
     exact absurd (Ap.mp e2).1 hj
   ·rfl
  ·unfold Sl at hS ⊢
   rw[Es,hS]
 ·rcases Ay.mp he with he | he
  ·exact hn e ((Mq S i).subset he)
  ·exact hT e he
theorem Ub{α:Type}:∀{l:List α} {i:Nat} {x:α},l[i]? = some x->l.set i x=l
 | [],_,_,h=>by simp at h
 | a::l,0,x,h=>by simp at h; subst h; rfl
 | a::l,i+1,x,h=>by
  rw[Pr,Ub (by simpa using h)]
def dputB(i:Nat)(y z:DV)(δ:DS)(D:DEnds):Prop:=match δ.sl[i]?,y,z with
 | some (.dat .ow (.dict X)),.dat _ e,.dat _ k=>npk δ.sl=true/\imm e=true/\∃ks w,X=Qz ks/\k=Cn w/\ks.length<1000000/\D.nx ⟨δ.sl.set i (.dat .ow (.dict (Qz (Rn ks w e)))),δ.n⟩
 | _,_,_=>False
def isDct:Option DV->Bool
 | some (.dat _ (.dict X))=>M8 X
 | _=>false
def Q3(i:Nat)(dk de:DE):DB:=λD δ=>de δ λy δ1=>isDct δ1.sl[i]? = true/\dk δ1 λz δ2=>dputB i y z δ2 D
section
variable{X:Cx}{o i e:Expr}{dk de:DE}{apos cpos pos pos':Pos}{n:Nat}
theorem zZ{K:PySem.W.Frag}(hS:Sl S δ)(hA:At K H0 Y δ.n (S++T) H)(hi:isDct δ.sl[n]? = true):∃a kv,(vs S)[n]? = some (some (.ref a))/\H a=some (.dT kv):=by
 cases q:δ.sl[n]? with
 | none=>rw[q] at hi; cases hi
 | some x =>
  rw[q] at hi
  obtain ⟨ent,e2,e3⟩:=Hh hS q
  obtain ⟨u,y,F⟩:=ent
  have e3':y=x:=e3
  subst e3'
  have hm:(⟨u,y,F⟩ : Ent)∈S:=Ax e2
  match y,hi with
  | .dat m (.dict X),hi =>
   have hX:M8 X=true:=hi
   obtain ⟨v,hv,rd,_⟩:=hA.ok _ (Ao _ hm)
   obtain ⟨a,kv,ks,rfl,_,ha,_⟩:=rd.dict_inv
   exact ⟨a,kv,by rw[Lp e2]; exact congrArg some hv,ha⟩
theorem G5(hu:X.A.units+64<cLine)(ho:PE X o (cJ n))(hi:Em X i dk)(he:Em X e de)(hs:Kd e (some (.Subscript o i pos')) pos.line X.env=pure false:=by rfl):qB X (.Assign [.Subscript o i pos'] e pos) (Q3 n dk de):=by
 refine PS.impD (qD (DY hu) ho hi he hs) λD σ H h=>?_
 obtain ⟨H0,Y,S,T,δ,P,rfl,hS,hT,hA,hd,k1,k2,k3,k4⟩:=h
 refine ⟨H0,Y,S,T,δ,_,rfl,hS,hA,hd,λy δ1 v F S1 H1 e1 e2 hA1 p1=>?_⟩
 obtain ⟨p1,p2⟩:=p1
 obtain ⟨a,kv,hv,ha⟩:=zZ e2 hA1.drop p1
 rw[e1] at hv
 refine ⟨.ref a,hv,H0,Y,S1,⟨some v,y,F⟩::T,δ1,_,e1,e2,hA1,p2,λz δ2 w G S2 H2 e3 e4 hA2 p3=>?_⟩
 unfold dputB at p3
 split at p3
 ·rename_i X0 m1 d m2 k hsl
  obtain ⟨p3,p4,ks,u,rfl,rfl,p5,p6⟩:=p3
  obtain ⟨b,rfl,hb⟩:=Vu (hA2.told mem_mid)
  have r:=hA2.told El
  obtain rfl:=r.imm p4
  obtain ⟨a',kv',g1,g2,g3,g4⟩:=jT (ks':=Rn ks u d) e4 hT hA2.drop2 hsl p3
  rw[e3,hv] at g1
  cases g1
  obtain ⟨S3,h1,h2,h3⟩:=g4 (Mr kv' (Kg u) v) (jX u r g3)
  refine ⟨a,_,rfl,J3.t g2 hb (by rw[Rx g3]; exact Cc p5 (jG (n:=1000000) (Ak _))),?_⟩
  rw[<- e3,<- h1]
  exact k1 ⟨_,_⟩ S3 _ h2 h3 p6
 ·exact p3.elim
end
def Q6:V->Int
 | .int i=>i
 | _=>0
def N9(H:Hp)(r:Addr):List Int:=match H r with
 | some (.tup xs)=>xs.map Q6
 | _=>[]
theorem V3(h:H r=some (.tup (w.map V.int))):N9 H r=w:=by
 unfold N9
 rw[h]
 show (w.map V.int).map Q6=w
 rw[Ce]
 exact List.map_id' w
section
variable{K:PySem.W.Frag}{H:Hp}
theorem kK:∀{ws:List (List Int)} {xs:List V} {ds:List Ac} {G:List Addr},RdFs K H xs ds G->ds=ws.map Cn->∃rs:List Addr,xs=rs.map V.ref/\ws=rs.map (N9 H)/\G=[]/\(∀r∈rs,H r=some (.tup ((N9 H r).map V.int)))/\∀r∈rs,RdF K H (.ref r) (Cn (N9 H r)) []
 | [],_,_,_,h,e=>by
  subst e
  cases h
  exact ⟨[],rfl,rfl,rfl,(λ_ z=>nomatch z),(λ_ z=>nomatch z)⟩
 | w::ws,_,_,_,h,e=>by
  cases h with
  | nil=>cases e
  | cons a t =>
   obtain ⟨e1,e2⟩:=Do e
   obtain ⟨rs,rfl,rfl,rfl,h1,h2⟩:=kK t e2
   subst e1
   obtain ⟨r,rfl,hr⟩:=Vu a
   rw[iS] at hr
   have ew:=V3 hr
   obtain rfl:=a.imm (show imm (Cn w)=true from Pc w)
   refine ⟨r::rs,rfl,by rw[Aw,ew],rfl,λx hx=>?_,λx hx=>?_⟩
   ·rcases Ah.mp hx with rfl | hx
    ·rw[ew]; exact hr
    ·exact h1 x hx
   ·rcases Ah.mp hx with rfl | hx
    ·rw[ew]; exact a
    ·exact h2 x hx
theorem bY:∀{rs:List Addr},(∀r∈rs,RdF K H (.ref r) (Cn (N9 H r)) [])->RdFs K H (rs.map V.ref) ((rs.map (N9 H)).map Cn) []
 | [],_=>.nil
 | r::rs,h=>RdFs.cons (F:=[]) (G:=[]) (h r (Ab ..)) (bY λx hx=>h x (Ae _ hx))
theorem bF:∀L:List (List Int),Dq (L.map Cn)=true
 | []=>rfl
 | w::L=>by
  show (imm (Cn w) && Dq (L.map Cn))=true
  rw[bF L,show imm (Cn w)=true from Pc w]; rfl
end
end DL
namespace Nd
open PySem PySem.Spec PyProof.Rows L2
def Yv(h:Heap)(d:Addr)(es:Array Hz)(ep:Nat):Prop:=∃ob,h.get? d=some ob/\ob.ExactDict/\ob.data=.dict es ep
theorem Yv.at(x:Yv h d es ep)(k:∀o,h.get? d=some o->h'.get? d=some o):Yv h' d es ep:=let ⟨ob,e,r⟩:=x; ⟨ob,k ob e,r⟩
section
variable{prog:Bs}{w:World}{A:Cs}{E:Value->Aj->Prop}{s:Aj}{it d:Addr}{es:Array Hz}{i ep:Nat}
theorem Vy(hI:s.heap.IsKeyIter it d i es.size ep)(hE:Yv s.heap d es ep)(hX:es[i]? = some x)(k:∀h',h'.IsKeyIter it d (i+1) es.size ep->Dm it s.heap h'->Q (some x.key) { s with heap:=h' }):wpAny (model prog w) A (callSpecial? (.ref it) (Dr "__next__")) Q E s:=by
 obtain ⟨oi,gi,ci,di⟩:=id hI
 obtain ⟨ob,gb,xb,db⟩:=id hE
 have tI:=hI.typeIs
 refine Ed (name:=Dr "__next__") tI PySem.F.slot_dict_keyiterator_next (Ew PySem.F.slot_dict_keyiterator_next tI PySem.F.entry_dict_keyiterator_next ?_ (PySem.F.args_dict_keyiterator_next_1 _))
 refine Aa (Am (Aa (Aa ?_)))
 first | refine Aa (Jl tI (Am ?_)) | refine Aa (Ls tI (Am ?_))
 refine Aa (wpAny_fieldsOf gi di ?_)
 simp only[show Sm "dict_keyiterator" = false by decide,Bx,if_false]
 show wpAny _ _ (ite ((Bc d == Ip)=true) _ _) _ _ s
 rw[if_neg (show ¬ (Bc d == Ip)=true from Bt)]
 refine Aa (Am (Aa (fR gb db ?_)))
 rw[if_neg (by simp)]
 refine Aa (Am (Aa (wpAny_dictEpoch gb db ?_)))
 rw[if_neg (by simp)]
 refine Am ?_
 obtain ⟨hl,ex⟩:=Gy.mp hX
 simp only[show ¬ ((i:Int)<0) from by omega,Gm,if_false,hX]
 refine Aa ?_
 first | refine Aa (Jl tI (Am ?_)) | refine Aa (Ls tI (Am ?_))
 refine Aa (wpAny_isOneOf_keyiter tI ?_)
 show wpAny _ _ (bind (setField (.ref it) 1 (Js ((i:Int)+1))) _) _ _ s
 refine Aa (wpAny_setField gi di (by simp) ?_)
 have nI:(s.heap.update it (Obj.mapFields (·.setIfInBounds 1 (Js ((i:Int)+1))))).IsKeyIter it d (i+1) es.size ep :=
  ⟨_,Fz _ gi (Obj.isFreed_of_fields (Obj.data_mapFields di _)),(Obj.cls_mapFields ..).trans ci,by rw[Obj.data_mapFields di]; simp [Js]⟩
 refine Aa (Dd (Aa (wpAny_isOneOf_keyiter (s:={ s with heap:=s.heap.update it (Obj.mapFields (·.setIfInBounds 1 (Js ((i:Int)+1)))) }) nI.typeIs ?_)))
 show wpAny _ _ (pure x.key) _ _ _
 exact Am (Am ⟨_,rfl,k _ nI (Co ..)⟩)
theorem fI(hh:A.handled=none)(hI:s.heap.IsKeyIter it d es.size es.size ep)(hE:Yv s.heap d es ep)(k:∀h' e,Heap.ExtBut it s.heap h'->(∃o,h'.get? e=some o/\o.cls=.type "StopIteration")->E (.ref e) { s with heap:=h' }):wpAny (model prog w) A (callSpecial? (.ref it) (Dr "__next__")) Q E s:=by
 obtain ⟨oi,gi,ci,di⟩:=id hI
 obtain ⟨ob,gb,xb,db⟩:=id hE
 have tI:=hI.typeIs
 refine Ed (name:=Dr "__next__") tI PySem.F.slot_dict_keyiterator_next (Ew PySem.F.slot_dict_keyiterator_next tI PySem.F.entry_dict_keyiterator_next ?_ (PySem.F.args_dict_keyiterator_next_1 _))
 refine Aa (Am (Aa (Aa ?_)))
 first | refine Aa (Jl tI (Am ?_)) | refine Aa (Ls tI (Am ?_))
 refine Aa (wpAny_fieldsOf gi di ?_)
 simp only[show Sm "dict_keyiterator" = false by decide,Bx,if_false]
 show wpAny _ _ (ite ((Bc d == Ip)=true) _ _) _ _ s
 rw[if_neg (show ¬ (Bc d == Ip)=true from Bt)]
 refine Aa (Am (Aa (fR gb db ?_)))
 rw[if_neg (by simp)]
 refine Aa (Am (Aa (wpAny_dictEpoch gb db ?_)))
 rw[if_neg (by simp)]
 refine Am ?_
 simp only[show ¬ ((es.size:Int)<0) from by omega,Gm,if_false,mX (Ak es.size)]
 refine Aa ?_
 first | refine Aa (Jl tI (Am ?_)) | refine Aa (Ls tI (Am ?_))
 show wpAny _ _ (bind (setField (.ref it) 0 .none) _) _ _ s
 refine Aa (wpAny_setField gi di (by simp) ?_)
 show wpAny _ _ (bind (newExc (.type "StopIteration") []) _) _ _ _
 refine Aa ?_
 simp only[newTuple,newExc]
 refine Aa (Du ?_ (by size_fits))
 refine Aa (m:=Yq _ _) (wpAny_of_eq (a:=Ip) (by first | rfl | (simp only[Yq]; rfl)) (Du ?_ (by size_fits)))
 simp only[raiseNew]
 refine Aa (wpAny_handled ?_)
 first | rw[show A.in1.handled=none from hh] | rw[hh]
 refine Aa (Am (wpAny_throw ?_))
 exact k _ _ (((Co ..).extBut.push _).push _) ⟨_,Bf _ rfl,rfl⟩
theorem fJ(hd:(d == Fu)=false)(hE:Yv s.heap d es ep)(k:Q (.ref s.heap.objs.size) { s with heap:=s.heap.push { cls:=.type "dict_keyiterator",data:=.fields #[.ref d,.int 0 0,.int es.size 0,.int ep 0] } }):wpAny (model prog w) A (pyIter (.ref d)) Q E s:=by
 obtain ⟨ob,gb,xb,db⟩:=id hE
 have tD:s.TypeIs (.ref d) "dict" := ⟨ob,gb,xb.1⟩
 refine wpAny_pyIter_slot tD PySem.F.slot_dict_iter (Ew PySem.F.slot_dict_iter tD PySem.F.entry_dict_iter ?_ (PySem.F.args_dict_iter_1 _))
 unfold Builtin.«dict.__iter__» Builtin.Dict.dictSlotNone
 refine Aa (Aa (Wp tD ?_))
 show wpAny _ _ (pure (.ref d:Value)) _ _ s
 refine Am ?_
 show wpAny _ _ (bind (Builtin.Dict.showsAll d) _) _ _ s
 unfold Builtin.Dict.showsAll
 rw[if_neg (by rw[hd]; exact Bt)]
 refine Aa (Am (Aa (fR gb db (Aa (wpAny_dictEpoch gb db ?_)))))
 refine Aa (Du (Am ⟨_,rfl, "dict_keyiterator",_,⟨_,Bf _ rfl,rfl⟩,PySem.F.slot_dict_keyiterator_next.lookup,?_⟩))
 exact k
theorem sN(hI:s.heap.IsKeyIter it d i es.size ep)(hE:Yv s.heap d es ep)(hX:es[i]? = some x)(k:∀h',h'.IsKeyIter it d (i+1) es.size ep->Dm it s.heap h'->Q (some x.key) { s with heap:=h' }):wpAny (model prog w) A (Kx (.ref it)) Q E s:=by
 unfold Kx
 exact Aa (Ik (Vy hI hE hX λh' a b=>Am (k h' a b)))
theorem yD(hh:A.handled=none)(hI:s.heap.IsKeyIter it d es.size es.size ep)(hE:Yv s.heap d es ep)(k:∀h',Heap.ExtBut it s.heap h'->Q none { s with heap:=h' }):wpAny (model prog w) A (Kx (.ref it)) Q E s:=by
 unfold Kx
 refine Aa (Ik (fI hh hI hE λh' e x q0_ => ?_))
 obtain ⟨o,ho,hc⟩ := q0_
 exact Aa (Oh (T := "StopIteration") (b:=true) ⟨o,ho,hc⟩ isSubtype_stop (Am (k h' x)))
end
theorem eR(hh:A.handled=none)(it d:Addr)(hne:d≠it)(es:Array Hz)(ep:Nat):Draws prog w A it [it,d] es.size (λi v=>∃x,es[i]? = some x/\v=x.key) (λi h=>h.IsKeyIter it d i es.size ep/\Yv h d es ep) where
 live:=λ_ _ st=>let ⟨o,ho,_⟩:=st.1; ⟨o,ho⟩
 frame:=λ_ _ _ st hk=>⟨st.1.at λo e=>hk it (by simp) o e,Yv.at st.2 λo e=>hk d (by simp) o e⟩
 item:=λi s Q E hi st hQ=>by
  unfold Cz
  refine Aa (Vy st.1 st.2 (x:=es[i]) (by simp [hi]) λh' hI hs=>Am ?_)
  exact hQ _ h' s.toks ⟨_,by simp [hi],rfl⟩ ⟨hI,Yv.at st.2 λo e=>(hs.2 d hne).trans e⟩ hs
 done:=λs Q E st hE=>by
  unfold Cz
  exact Aa (fI hh st.1 st.2 hE)
structure ZApart(z TI TO i1 i2:Addr)(f1 f2:List Addr):Prop where
 tiz:TI≠z
 toz:TO≠z
 z1:i1≠z
 z2:i2≠z
 tito:TI≠TO
 ti1:TI≠i1
 ti2:TI≠i2
 to1:TO≠i1
 to2:TO≠i2
 i12:i1≠i2
 zf1:z∉f1
 zf2:z∉f2
 of1:TO∉f1
 of2:TO∉f2
 if1:i2∉f1
 if2:i1∉f2
section
variable{prog:Bs}{w:World}{A:Cs}{E:Value->Aj->Prop}{s:Aj}{z TI TO i1 i2:Addr}{f1 f2:List Addr}{n1 n2 i:Nat}{P1 P2:Nat->Value->Prop}{S1 S2:Nat->Heap->Prop}
theorem Gc{f:List Addr}(h:a∉f)(hb:b∈f):b≠a:=λe=>h (e▸hb)
theorem uS{Q:Value->Aj->Prop}(D1:Draws prog w A i1 f1 n1 P1 S1)(D2:Draws prog w A i2 f2 n2 P2 S2)(ap:ZApart z TI TO i1 i2 f1 f2)(gz:IsZip s.heap z TI TO .none)(gI:Fh s.heap TI (.ref i1) (.ref i2))(gO:Fh s.heap TO a b)(g1:S1 i s.heap)(g2:S2 i s.heap)(l1:i<n1)(l2:i<n2)(k:∀x y h' tk,P1 i x->P2 i y->IsZip h' z TI TO (Js s.heap.objs.size)->Fh h' TO x y->S1 (i+1) h'->S2 (i+1) h'->Fh h' s.heap.objs.size x y->h'.objs.size=s.heap.objs.size+1->(∀c o,c≠z->c≠TO->c≠i1->c≠i2->s.heap.get? c=some o->h'.get? c=some o)->Q (.ref s.heap.objs.size) { s with heap:=h',toks:=tk }):wpAny (model prog w) A (Builtin.«zip.__next__» ⟨[.ref z],[]⟩) (λfin s'=>∃v,fin=.done (.ret v)/\Q v s') E s:=by
 obtain ⟨hp,g,d,tk0,os⟩:=s
 show wpAny _ _ (bind (field (.ref z) 2) _) _ _ _
 refine Aa (Et gz rfl (x:=.bool false) rfl ?_)
 show wpAny _ _ (bind (field (.ref z) 3) _) _ _ _
 refine Aa (Et gz rfl (x:=.ref TI) rfl (Aa (Fs gI rfl ?_)))
 show wpAny _ _ (bind (Cu (.ref z)) _) _ _ _
 refine Aa ?_
 unfold Cu
 refine Aa (Et gz rfl (x:=.none) rfl (Am ?_))
 simp only[if_true]
 refine Aa (Kw (Aa (Et gz rfl (x:=.ref TO) rfl (Aa (Hl gz (by simp) λh1 gz1 s1=>?_)))))
 replace gz1:IsZip h1 z TI TO .ellipsis:=gz1
 replace s1:Dm z hp h1:=s1
 refine Aa ?_
 simp only[Tq,Uy,cQ,List.zipIdx_nil]
 have g11:S1 i h1:=D1.frame _ _ _ g1 λb hb o q=>(s1.2 b (Gc ap.zf1 hb)).trans q
 have g21:S2 i h1:=D2.frame _ _ _ g2 λb hb o q=>(s1.2 b (Gc ap.zf2 hb)).trans q
 refine Aa (Aa (cM ?_))
 show wpAny _ _ (bind (Cz (.ref i1)) _) _ _ _
 refine Aa (D1.item i _ _ _ l1 g11 λx h2 tk1 px g12 s2=>Am ?_)
 replace s2:Dm i1 h1 h2:=s2
 have gO2:Fh h2 TO a b:=(s2.2 TO ap.to1).trans ((s1.2 TO ap.toz).trans gO)
 refine Aa (Fs gO2 rfl (Aa (Yl gO2 λh3 gO3 s3=>?_)))
 replace gO3:Fh h3 TO x b:=gO3
 replace s3:Dm TO h2 h3:=s3
 refine Aa (Mm (Am ?_))
 have g23:S2 i h3:=D2.frame _ _ _ g21 λb hb o q=>(s3.2 b (Gc ap.of2 hb)).trans ((s2.2 b (Gc ap.if2 hb)).trans q)
 refine Aa (Aa (cM ?_))
 show wpAny _ _ (bind (Cz (.ref i2)) _) _ _ _
 refine Aa (D2.item i _ _ _ l2 g23 λy h4 tk2 py g24 s4=>Am ?_)
 replace s4:Dm i2 h3 h4:=s4
 have gO4:Fh h4 TO x b:=(s4.2 TO ap.to2).trans gO3
 refine Aa (Fs gO4 rfl (Aa (Yl gO4 λh5 gO5 s5=>?_)))
 replace gO5:Fh h5 TO x y:=gO5
 replace s5:Dm TO h4 h5:=s5
 refine Aa (Mm (Am (Am ?_)))
 refine Aa (Fs gO5 rfl (Aa (Yn ?_)))
 have sz:h5.objs.size=hp.objs.size:=by rw[s5.1,s4.1,s3.1,s2.1,s1.1]
 have gz5:IsZip h5 z TI TO .ellipsis:=(s5.2 z ap.toz.symm).trans ((s4.2 z ap.z2.symm).trans ((s3.2 z ap.toz.symm).trans ((s2.2 z ap.z1.symm).trans gz1)))
 have k5:∀c o,c≠z->c≠TO->c≠i1->c≠i2->hp.get? c=some o->h5.get? c=some o:=λc o c1 c2 c3 c4 e =>
  (s5.2 c c2).trans ((s4.2 c c4).trans ((s3.2 c c2).trans ((s2.2 c c3).trans ((s1.2 c c1).trans e))))
 have g15:S1 (i+1) h5:=D1.frame _ _ _ g12 λb hb o q=>(s5.2 b (Gc ap.of1 hb)).trans ((s4.2 b (Gc ap.if1 hb)).trans ((s3.2 b (Gc ap.of1 hb)).trans q))
 have g25:S2 (i+1) h5:=D2.frame _ _ _ g24 λb hb o q=>(s5.2 b (Gc ap.of2 hb)).trans q
 have zl:z<h5.objs.size:=Bg gz5
 show wpAny _ _ (bind (Pt (.ref z) (.ref h5.objs.size)) _) _ _ _
 refine Aa ?_
 unfold Pt
 have gz6:IsZip (h5.push { cls:=.type "tuple",data:=.seq #[x,y] }) z TI TO .ellipsis:=Ai _ gz5
 refine Aa (Hl gz6 (by simp) λh7 gz7 s7=>?_)
 replace gz7:IsZip h7 z TI TO (Js h5.objs.size):=gz7
 refine Hl gz7 (by simp) λh8 gz8 s8=>?_
 replace gz8:IsZip h8 z TI TO (Js h5.objs.size):=gz8
 have up:∀c o,c≠z->h5.get? c=some o->h8.get? c=some o:=λc o c1 e=>(s8.2 c c1).trans ((s7.2 c c1).trans (Ai _ e))
 have gT:Fh h8 h5.objs.size x y:=(s8.2 _ (Nat.ne_of_gt zl)).trans ((s7.2 _ (Nat.ne_of_gt zl)).trans (Bf _ rfl))
 have z8:h8.objs.size=h5.objs.size+1:=by rw[s8.1,s7.1,Ij]
 rw[sz] at gz8 gT z8
 refine Am ⟨_,rfl,?_⟩
 show Q (.ref h5.objs.size) _
 rw[sz]
 exact k x y h8 tk2 px py gz8 (up _ _ ap.toz gO5) (D1.frame _ _ _ g15 λb hb o q=>up b o (Gc ap.zf1 hb) q) (D2.frame _ _ _ g25 λb hb o q=>up b o (Gc ap.zf2 hb) q) gT z8 λc o c1 c2 c3 c4 e=>up c o c1 (k5 c o c1 c2 c3 c4 e)
theorem xK(D1:Draws prog w A i1 f1 n1 P1 S1)(D2:Draws prog w A i2 f2 n2 P2 S2)(ap:ZApart z TI TO i1 i2 f1 f2)(gz:IsZip s.heap z TI TO .none)(gI:Fh s.heap TI (.ref i1) (.ref i2))(gO:Fh s.heap TO a b)(g1:S1 i s.heap)(g2:S2 i s.heap)(hn:i=n1\/(i<n1/\i=n2))(k:∀h' e tk,(∀c o,c≠z->c≠TO->c≠i1->c≠i2->s.heap.get? c=some o->h'.get? c=some o)->(∃o,h'.get? e=some o/\o.cls=.type "StopIteration")->E (.ref e) { s with heap:=h',toks:=tk }):wpAny (model prog w) A (Builtin.«zip.__next__» ⟨[.ref z],[]⟩) Q E s:=by
 obtain ⟨hp,g,d,tk0,os⟩:=s
 show wpAny _ _ (bind (field (.ref z) 2) _) _ _ _
 refine Aa (Et gz rfl (x:=.bool false) rfl ?_)
 show wpAny _ _ (bind (field (.ref z) 3) _) _ _ _
 refine Aa (Et gz rfl (x:=.ref TI) rfl (Aa (Fs gI rfl ?_)))
 show wpAny _ _ (bind (Cu (.ref z)) _) _ _ _
 refine Aa ?_
 unfold Cu
 refine Aa (Et gz rfl (x:=.none) rfl (Am ?_))
 simp only[if_true]
 refine Aa (Kw (Aa (Et gz rfl (x:=.ref TO) rfl (Aa (Hl gz (by simp) λh1 gz1 s1=>?_)))))
 replace gz1:IsZip h1 z TI TO .ellipsis:=gz1
 replace s1:Dm z hp h1:=s1
 refine Aa ?_
 simp only[Tq,Uy,cQ,List.zipIdx_nil]
 have g11:S1 i h1:=D1.frame _ _ _ g1 λb hb o q=>(s1.2 b (Gc ap.zf1 hb)).trans q
 have g21:S2 i h1:=D2.frame _ _ _ g2 λb hb o q=>(s1.2 b (Gc ap.zf2 hb)).trans q
 refine Aa (Aa (cM ?_))
 show wpAny _ _ (bind (Cz (.ref i1)) _) _ _ _
 rcases hn with rfl | ⟨l1,rfl⟩
 ·refine Aa (D1.done _ _ _ g11 λh2 e x2 he=>?_)
  obtain ⟨oe,ge,ce⟩:=he
  replace x2:Heap.ExtBut i1 h1 h2:=x2
  have gz2:IsZip h2 z TI TO .ellipsis:=x2 _ _ ap.z1.symm gz1
  have ez:e≠z:=λx=>by subst x; rw[gz2] at ge; cases ge; simp at ce
  exact Hl gz2 (by simp) λh3 _ s3=>k h3 e _ (λc o c1 _ c3 _ x=>(s3.2 c c1).trans (x2 _ _ c3 ((s1.2 c c1).trans x))) ⟨oe,(s3.2 e ez).trans ge,ce⟩
 ·refine Aa (D1.item _ _ _ _ l1 g11 λx h2 tk1 px g12 s2=>Am ?_)
  replace s2:Dm i1 h1 h2:=s2
  have gO2:Fh h2 TO a b:=(s2.2 TO ap.to1).trans ((s1.2 TO ap.toz).trans gO)
  refine Aa (Fs gO2 rfl (Aa (Yl gO2 λh3 gO3 s3=>?_)))
  replace s3:Dm TO h2 h3:=s3
  refine Aa (Mm (Am (Aa (Aa (cM ?_)))))
  have g23:S2 i h3:=D2.frame _ _ _ g21 λb hb o q=>(s3.2 b (Gc ap.of2 hb)).trans ((s2.2 b (Gc ap.if2 hb)).trans q)
  show wpAny _ _ (bind (Cz (.ref i2)) _) _ _ _
  refine Aa (D2.done _ _ _ g23 λh4 e x4 he=>?_)
  obtain ⟨oe,ge,ce⟩:=he
  replace x4:Heap.ExtBut i2 h3 h4:=x4
  have gz4:IsZip h4 z TI TO .ellipsis:=x4 _ _ ap.z2.symm ((s3.2 z ap.toz.symm).trans ((s2.2 z ap.z1.symm).trans gz1))
  have ez:e≠z:=λx=>by subst x; rw[gz4] at ge; cases ge; simp at ce
  exact Hl gz4 (by simp) λh5 _ s5=>k h5 e _ (λc o c1 c2 c3 c4 x=>(s5.2 c c1).trans (x4 _ _ c4 ((s3.2 c c2).trans ((s2.2 c c3).trans ((s1.2 c c1).trans x))))) ⟨oe,(s5.2 e ez).trans ge,ce⟩
theorem uM(D1:Draws prog w A.in1 i1 f1 n1 P1 S1)(D2:Draws prog w A.in1 i2 f2 n2 P2 S2)(ap:ZApart z TI TO i1 i2 f1 f2)(gz:IsZip s.heap z TI TO .none)(gI:Fh s.heap TI (.ref i1) (.ref i2))(gO:Fh s.heap TO a b)(g1:S1 i s.heap)(g2:S2 i s.heap)(l1:i<n1)(l2:i<n2)(k:∀x y h' tk,P1 i x->P2 i y->IsZip h' z TI TO (Js s.heap.objs.size)->Fh h' TO x y->S1 (i+1) h'->S2 (i+1) h'->Fh h' s.heap.objs.size x y->h'.objs.size=s.heap.objs.size+1->(∀c o,c≠z->c≠TO->c≠i1->c≠i2->s.heap.get? c=some o->h'.get? c=some o)->Q (some (.ref s.heap.objs.size)) { s with heap:=h',toks:=tk }):wpAny (model prog w) A (Kx (.ref z)) Q E s:=by
 have tz:s.TypeIs (.ref z) "zip" := ⟨_,gz,rfl⟩
 unfold Kx
 refine Aa (Ik (Ed (name:=Dr "__next__") tz PySem.F.slot_zip_next (Ew PySem.F.slot_zip_next tz PySem.F.entry_zip_next ?_ (PySem.F.args_zip_next_1 _))))
 exact uS D1 D2 ap gz gI gO g1 g2 l1 l2 λx y h' tk p1 p2 a1 a2 a3 a4 a5 a6 a7=>Am (k x y h' tk p1 p2 a1 a2 a3 a4 a5 a6 a7)
theorem sZ(D1:Draws prog w A.in1 i1 f1 n1 P1 S1)(D2:Draws prog w A.in1 i2 f2 n2 P2 S2)(ap:ZApart z TI TO i1 i2 f1 f2)(gz:IsZip s.heap z TI TO .none)(gI:Fh s.heap TI (.ref i1) (.ref i2))(gO:Fh s.heap TO a b)(g1:S1 i s.heap)(g2:S2 i s.heap)(hn:i=n1\/(i<n1/\i=n2))(k:∀h' tk,(∀c o,c≠z->c≠TO->c≠i1->c≠i2->s.heap.get? c=some o->h'.get? c=some o)->Q none { s with heap:=h',toks:=tk }):wpAny (model prog w) A (Kx (.ref z)) Q E s:=by
 have tz:s.TypeIs (.ref z) "zip" := ⟨_,gz,rfl⟩
 unfold Kx
 refine Aa (Ik (Ed (name:=Dr "__next__") tz PySem.F.slot_zip_next (Ew PySem.F.slot_zip_next tz PySem.F.entry_zip_next ?_ (PySem.F.args_zip_next_1 _))))
 refine xK D1 D2 ap gz gI gO g1 g2 hn λh' e tk x q0_ => ?_
 obtain ⟨o,ho,hc⟩ := q0_
 exact Aa (Oh (T := "StopIteration") (b:=true) ⟨o,ho,hc⟩ isSubtype_stop (Am (k h' tk x)))
end
abbrev ED(h:Heap)(d:Addr)(n ep:Nat):Heap:=h.push { cls:=.type "dict_keyiterator",data:=.fields #[.ref d,.int 0 0,.int n 0,.int ep 0] }
abbrev FB(h:Heap)(d:Addr)(n ep:Nat)(l:Addr):Heap:=(ED h d n ep).push { cls:=.type "list_iterator",data:=.fields #[.ref l,.int 0 0] }
abbrev FK(h:Heap)(d:Addr)(n ep:Nat)(l:Addr):Heap:=(FB h d n ep l).push { cls:=.type "tuple",data:=.seq #[.ref h.objs.size,.ref (ED h d n ep).objs.size] }
abbrev FD(h:Heap)(d:Addr)(n ep:Nat)(l:Addr):Heap:=(FK h d n ep l).push { cls:=.type "tuple",data:=.seq #[.none,.none] }
abbrev AH(h:Heap)(d:Addr)(n ep:Nat)(l:Addr):Heap:=(FD h d n ep l).push { cls:=.type "zip",data:=.fields #[.none,.bool false,.bool false,.ref (FB h d n ep l).objs.size,.ref (FK h d n ep l).objs.size] }
theorem lV(d l:Addr)(es:Array Hz)(ep:Nat)(ys:Array Value)(hd:(d == Fu)=false):Meets (Builtin.«zip.__new__» ⟨[.type "zip",.ref d,.ref l],[]⟩) (λ_ R s=>Yv s.heap d es ep/\s.heap.IsList l ys/\R (.ok (.ret (.ref (FD s.heap d es.size ep l).objs.size))) { s with heap:=AH s.heap d es.size ep l }) :=
 .of_wp λprog w A R s h=>by
  obtain ⟨hp,g,dd,tk,os⟩:=s
  obtain ⟨hE,hL,q⟩:=h
  have hsub:=sub_zip
  have h1:Yv (Shared.heap ⟨hp,g,dd,tk,os⟩) d es ep:=hE
  have h2:Heap.IsList (Shared.heap ⟨ED hp d es.size ep,g,dd,tk,os⟩) l ys:=Heap.IsList.push hL _
  wp_walk using fJ hd h1,fQ h2
  exact ⟨_,rfl,q⟩
section
variable{prog:Bs}{w:World}{A:Cs}{E:Value->Aj->Prop}{s:Aj}
theorem nP(hd:(d == Fu)=false)(hE:Yv s.heap d es ep)(hL:s.heap.IsList l ys)(k:∀h',IsZip h' (s.heap.objs.size+4) (s.heap.objs.size+2) (s.heap.objs.size+3) .none->Fh h' (s.heap.objs.size+2) (.ref s.heap.objs.size) (.ref (s.heap.objs.size+1))->Fh h' (s.heap.objs.size+3) .none .none->h'.IsKeyIter s.heap.objs.size d 0 es.size ep->h'.IsListIter (s.heap.objs.size+1) l 0->(∀c o,s.heap.get? c=some o->h'.get? c=some o)->Q (.ref (s.heap.objs.size+4)) { s with heap:=h' }):wpAny (model prog w) A (call (.type "zip") [.ref d,.ref l]) Q E s:=by
 refine callType_new PySem.F.called_zip (by decide) (PySem.F.typeCall_zip_2 _ _) (PySem.F.newCall_zip_2 _ _) (λobj=>PySem.F.args_object_init_3 obj _ _) PySem.F.entry_zip_new (lV d l es ep ys hd) ⟨hE,hL,?_⟩
 have e1:(ED s.heap d es.size ep).objs.size=s.heap.objs.size+1:=Ij ..
 have e2:(FB s.heap d es.size ep l).objs.size=s.heap.objs.size+2:=by rw[Ij,e1]
 have e3:(FK s.heap d es.size ep l).objs.size=s.heap.objs.size+3:=by rw[Ij,e2]
 have e4:(FD s.heap d es.size ep l).objs.size=s.heap.objs.size+4:=by rw[Ij,e3]
 have p1:∀{h:Heap} {a:Addr} {u:Obj} (o:Obj),h.get? a=some u->(h.push o).get? a=some u:=λo e=>Ai _ e
 have g5:(AH s.heap d es.size ep l).get? (FD s.heap d es.size ep l).objs.size=some _:=Bf _ rfl
 have g4:(AH s.heap d es.size ep l).get? (FK s.heap d es.size ep l).objs.size=some _:=p1 _ (Bf _ rfl)
 have g3:(AH s.heap d es.size ep l).get? (FB s.heap d es.size ep l).objs.size=some _:=p1 _ (p1 _ (Bf _ rfl))
 have g2:(AH s.heap d es.size ep l).get? (ED s.heap d es.size ep).objs.size=some _:=p1 _ (p1 _ (p1 _ (Bf _ rfl)))
 have g1:(AH s.heap d es.size ep l).get? s.heap.objs.size=some _:=p1 _ (p1 _ (p1 _ (p1 _ (Bf _ rfl))))
 show _/\_
 rw[e2,e3,e4] at g5
 rw[e1,e2] at g3
 rw[e3] at g4
 rw[e1] at g2
 rw[e4]
 exact ⟨⟨_,g5,rfl⟩,k _ g5 g3 g4 ⟨_,g1,rfl,rfl⟩ ⟨_,g2,rfl,rfl⟩ λc o x=>p1 _ (p1 _ (p1 _ (p1 _ (p1 _ x))))⟩
end
theorem Xj(ok:Wo P w H h)(e:H a=some (.dT kvs)):∃(es:Array Hz),(a == Fu)=false/\Yv h a es kvs.length/\es.size=kvs.length/\∀(i:Nat) (x:Hz),es[i]? = some x->∃k b v,kvs[i]? = some (k,v)/\x.key=.ref b/\H b=some (.tup (k.map kV))/\k.length<=Au:=by
 obtain ⟨_,hd,xs,rel,o,es,ep,h1,h2,h3,h4,_,hep⟩:=(show Hg P w H h a (.dT kvs) from ok a _ e)
 have hl:es.size=kvs.length:=by
  have:=congrArg Fb h4
  rw[Ad,<- Paired.length rel] at this
  simpa using this
 refine ⟨es,hd,⟨o,h1,h2,by rw[h3,hep,hl]⟩,hl,λi x hx=>?_⟩
 have hx':es.toList[i]? = some x:=by rw[Mn]; exact hx
 rw[h4,Be] at hx'
 cases q:xs[i]? with
 | none=>rw[q] at hx'; cases hx'
 | some y =>
  rw[q] at hx'
  cases hx'
  have go:∀{kvs:List (List Hj×V)} {xs:List (List Hj×Addr×Value)} {i:Nat},Paired (λ(p:List Hj×V) (q:List Hj×Addr×Value)=>p.1=q.1/\H q.2.1=some (.tup (p.1.map kV))/\RelV p.2 q.2.2) kvs xs->xs[i]? = some y->∃p,kvs[i]? = some p/\H y.2.1=some (.tup (p.1.map kV)):=by
   intro kvs xs i r
   induction r generalizing i with
   | nil=>intro z; simp at z
   | cons hp _ ih =>
    intro z
    cases i with
    | zero=>simp at z; subst z; exact ⟨_,rfl,hp.2.1⟩
    | succ j=>exact ih (by simpa using z)
  obtain ⟨p,hp1,hp2⟩:=go rel q
  refine ⟨p.1,y.2.1,p.2,hp1,rfl,hp2,?_⟩
  have:=(show Hg P w H h y.2.1 (.tup (p.1.map kV)) from ok _ _ hp2).1
  rwa [Ad] at this
def DH(K:PySem.W.Frag)(a b:Addr)(n:Nat):It :=
  ⟨λi H=>∃kv ys y,H a=some (.dT kv)/\kv.length=n/\Mc K H b ys/\i<n/\ys[i]? = some y,
   λi H x H'=>∃p t k v u,x=.ref p/\H p=none/\H'=upd H p (.tup [.ref t,u])/\(∀kv,H a=some (.dT kv)->kv[i]? = some (k,v))/\H t=some (.tup (k.map kV))/\k.length<=Au/\∀ys,Mc K H b ys->ys[i]? = some u,
   λi H=>∃kv ys,H a=some (.dT kv)/\kv.length=n/\Mc K H b ys/\(i=n\/(i<n/\i=ys.length))⟩
def FS(a:Addr)(n:Nat):It :=
  ⟨λi H=>∃kv,H a=some (.dT kv)/\kv.length=n/\i<n,
   λi H x H'=>∃t k v,x=.ref t/\H'=H/\(∀kv,H a=some (.dT kv)->kv[i]? = some (k,v))/\H t=some (.tup (k.map kV))/\k.length<=Au,
   λi H=>∃kv,H a=some (.dT kv)/\kv.length=n/\i=n⟩
theorem sW{P:Bs}{K:PySem.W.Frag}(a b z TI TO i1 i2:Addr)(ap:ZApart z TI TO i1 i2 [i1,a] [i2,b])(na:a≠i1)(nb:b≠i2):Turn P w K (.Tuple elts k pos) (DH K a b n) [z,TI,TO,i1,i2] z (λi h=>IsZip h z TI TO .none/\Fh h TI (.ref i1) (.ref i2)/\(∃u v,Fh h TO u v)/\h.IsKeyIter i1 a i n n/\h.IsListIter i2 b i) where
 mem:=Ab
 obj:=λi h st c hc=>by
  obtain ⟨hz,hTI,⟨u,v,hTO⟩,⟨o1,e1,c1,d1⟩,⟨o2,e2,c2,d2⟩⟩:=st
  simp only[Ah,Av,or_false] at hc
  rcases hc with rfl | rfl | rfl | rfl | rfl
  ·exact ⟨_,hz,λv z=>by cases z⟩
  ·exact ⟨_,hTI,λv z=>by cases z⟩
  ·exact ⟨_,hTO,λv z=>by cases z⟩
  ·exact ⟨o1,e1,λv z=>by rw[d1] at z; cases z⟩
  ·exact ⟨o2,e2,λv z=>by rw[d2] at z; cases z⟩
 keep:=λi h h' st kp=>by
  obtain ⟨hz,hTI,⟨u,v,hTO⟩,h1,h2⟩:=st
  exact ⟨kp z (by simp) _ hz,kp TI (by simp) _ hTI,⟨u,v,kp TO (by simp) _ hTO⟩,h1.at λo q=>kp i1 (by simp) o q,h2.at λo q=>kp i2 (by simp) o q⟩
 item:=by
  intro X hP hw hK hc i pins s σ H E I hf st hg
  subst hP hw hK
  obtain ⟨kv,ys,y,ha,rfl,hq2,hx,hy⟩:=hg
  obtain ⟨es,hd,hE,hes,hent⟩:=Xj I.hok ha
  obtain ⟨its2,rv2,p2,hz2⟩:=I.list hq2
  obtain ⟨hz,hTI,⟨o1,o2,hTO⟩,hi1,hi2⟩:=st
  have hh:X.A.in1.handled=none:=I.ok.hd hc
  have D1:=eR (prog:=X.prog) (w:=X.w) (A:=X.A.in1) hh i1 a na es es.size
  have D2:=Draws.list (prog:=X.prog) (w:=X.w) (A:=X.A.in1) hh i2 b nb its2.toArray
  have hl2:=rv2.length
  have ly:i<its2.length:=by
   have:=(Ap.mp hy).1
   omega
  have zl:z<s.heap.objs.size:=Bg hz
  have TIl:TI<s.heap.objs.size:=Bg hTI
  have TOl:TO<s.heap.objs.size:=Bg hTO
  have i1l:i1<s.heap.objs.size:=by obtain ⟨_,q,_⟩:=hi1; exact Bg q
  have i2l:i2<s.heap.objs.size:=by obtain ⟨_,q,_⟩:=hi2; exact Bg q
  refine uM D1 D2 ap hz hTI hTO ⟨by rw[hes]; exact hi1,by rw[hes]; exact hE⟩ ⟨hi2,p2.isList⟩ (by omega) (by simpa using ly) λu1 u2 h1 tk q1 q2 a1 a2 a3 a4 a5 a6 hk=>⟨_,rfl,wpAny_letOwnedTupleGo_zip (s:={ s with heap:=h1,toks:=tk }) a1 λh2 he2 hs2=>?_⟩
  have hs2':Dm z h1 h2:=hs2
  obtain ⟨x1,ex1,rfl⟩:=q1
  obtain ⟨kk,bb,vv,ek,eb,hb,hkl⟩:=hent i x1 ex1
  rw[eb] at a2 a5
  have q2':its2[i]? = some u2:=by simpa using q2
  obtain ⟨u2',hu2,ru2⟩:=rv2.get hy
  rw[q2'] at hu2
  cases hu2
  have I1:Inv X pins σ (upd H s.heap.objs.size (.tup [.ref bb,y])) { s with heap:=s.heap.push { cls:=.type "tuple",data:=.seq #[.ref bb,u2] } } :=
   I.laid (t':=s.toks) (λb o q=>Ai _ q) (Ak _) ⟨by show 2<=Au; decide,[.ref bb,u2],.cons rfl (.cons ru2 .nil),_,Bf _ rfl,rfl,0,rfl⟩
  have nT:∀c∈[z,TI,TO,i1,i2],c≠s.heap.objs.size:=λc hc=>by
   simp only[Ah,Av,or_false] at hc
   rcases hc with rfl | rfl | rfl | rfl | rfl <;> exact Cd (by assumption)
  have fr:∀c∈[z,TI,TO,i1,i2],(upd H s.heap.objs.size (.tup [.ref bb,y])) c=none:=λc hc=>by rw[Cy (nT c hc)]; exact (hf c hc).1
  refine ⟨.ref s.heap.objs.size,_,Nh (fp:=[z,TI,TO,i1,i2]) (s:={ s with heap:=s.heap.push { cls:=.type "tuple",data:=.seq #[.ref bb,u2] } }) (h':=h2) (t':=tk) I1 (λc o hc q=>?_) (λc hc=>⟨fr c hc,(hf c hc).2⟩),rfl,⟨_,bb,kk,vv,y,rfl,I.hok.fresh (Ak _),rfl,(λkv' h'=>by rw[ha] at h'; cases h'; exact ek),hb,hkl,λzs hzs=>by rw[I.list_inj hzs hq2]; exact hy⟩,⟨he2,?_,⟨.ref bb,u2,?_⟩,?_,?_⟩,fr⟩
  ·simp only[Ah,Av,or_false,not_or] at hc
   refine (hs2'.2 c hc.1).trans ?_
   by_cases hbT:c=s.heap.objs.size
   ·subst hbT
    have q':=(Bf s.heap (o:={ cls:=.type "tuple",data:=.seq #[.ref bb,u2] }) rfl).symm.trans q
    rw[show h1.get? s.heap.objs.size=_ from a5]
    exact q'
   ·refine hk c o hc.1 hc.2.2.1 hc.2.2.2.1 hc.2.2.2.2 ?_
    have q0:(s.heap.push { cls:=.type "tuple",data:=.seq #[.ref bb,u2] }).get? c=some o:=q
    rcases Heap.get?_push_cases q0 with zz | zz
    ·exact absurd zz.1 hbT
    ·exact zz
  ·exact (hs2'.2 TI ap.tiz).trans (hk TI _ ap.tiz ap.tito ap.ti1 ap.ti2 hTI)
  ·exact (hs2'.2 TO ap.toz).trans a2
  ·rw[hes] at a3
   exact a3.1.at λo q=>(hs2'.2 i1 ap.z1).trans q
  ·exact a4.1.at λo q=>(hs2'.2 i2 ap.z2).trans q
 done:=by
  intro X hP hw hK hc i pins s σ H E I hf st hg
  subst hP hw hK
  obtain ⟨kv,ys,ha,rfl,hq2,hx⟩:=hg
  obtain ⟨es,hd,hE,hes,hent⟩:=Xj I.hok ha
  obtain ⟨its2,rv2,p2,hz2⟩:=I.list hq2
  obtain ⟨hz,hTI,⟨o1,o2,hTO⟩,hi1,hi2⟩:=st
  have hh:X.A.in1.handled=none:=I.ok.hd hc
  have D1:=eR (prog:=X.prog) (w:=X.w) (A:=X.A.in1) hh i1 a na es es.size
  have D2:=Draws.list (prog:=X.prog) (w:=X.w) (A:=X.A.in1) hh i2 b nb its2.toArray
  have hl2:=rv2.length
  refine sZ D1 D2 ap hz hTI hTO ⟨by rw[hes]; exact hi1,by rw[hes]; exact hE⟩ ⟨hi2,p2.isList⟩ ?_ λh1 tk hk=>⟨rfl,Nh (fp:=[z,TI,TO,i1,i2]) (t':=tk) I (λc o hc q=>?_) hf⟩
  ·rw[hes,Aq]
   omega
  ·simp only[Ah,Av,or_false,not_or] at hc
   exact hk c o hc.1 hc.2.2.1 hc.2.2.2.1 hc.2.2.2.2 q
 self:=λ_ _ _ _ _ st h=>jD st.1 h
theorem U2(I a b:Nat)(h1:a<I)(h2:b<I):ZApart (I+4) (I+2) (I+3) I (I+1) [I,a] [I+1,b]:=by
 constructor <;> (first | (intro e; have e':(_:Nat)=_:=e; omega) | (intro e; simp only[Ah,Av,or_false] at e; rcases e with e | e <;> (have e':(_:Nat)=_:=e; omega)))
theorem uB{K:PySem.W.Frag}(a it:Addr)(na:a≠it):Turn P w K tg (FS a n) [it] it (λi h=>h.IsKeyIter it a i n n) where
 mem:=Ab
 obj:=λi h st c hc=>by
  obtain ⟨o1,e1,c1,d1⟩:=st
  rw[Af.mp hc]
  exact ⟨o1,e1,λv z=>by rw[d1] at z; cases z⟩
 keep:=λi h h' st kp=>st.at λo q=>kp it (by simp) o q
 item:=by
  intro X hP hw hK hc i pins s σ H E I hf st hg
  subst hP hw hK
  obtain ⟨kv,ha,rfl,hx⟩:=hg
  obtain ⟨es,hd,hE,hes,hent⟩:=Xj I.hok ha
  have hi:i<es.size:=by omega
  refine sN (es:=es) (by rw[hes]; exact st) (by exact hE) (x:=es[i]) (by simp [hi]) λh1 hI hs=>⟨_,rfl,?_⟩
  rw[hes] at hI
  obtain ⟨o1,e1,c1,d1⟩:=id hI
  refine qV e1 c1 d1 (by decide) ?_
  obtain ⟨kk,bb,vv,ek,eb,hb,hkl⟩:=hent i es[i] (by simp [hi])
  have hs':Dm it s.heap h1:=hs
  exact ⟨.ref bb,H,Nh (fp:=[it]) (t':=s.toks) I (λc o hc q=>(hs'.2 c λz=>hc (by simp [z])).trans q) hf,eb,⟨bb,kk,vv,rfl,rfl,λkv' h'=>by rw[ha] at h'; cases h'; exact ek,hb,hkl⟩,hI,λc hc=>(hf c hc).1⟩
 done:=by
  intro X hP hw hK hc i pins s σ H E I hf st hg
  subst hP hw hK
  obtain ⟨kv,ha,rfl,rfl⟩:=hg
  obtain ⟨es,hd,hE,hes,hent⟩:=Xj I.hok ha
  refine yD (es:=es) (I.ok.hd hc) (by rw[hes]; exact st) hE λh1 hx=>⟨rfl,Nh (fp:=[it]) (t':=s.toks) I (λc o hc q=>hx c o (λz=>hc (by simp [z])) q) hf⟩
 self:=λ_ _ _ _ _ st h=>wpAny_pyIter_keyiter st h
section
variable{X:Cx}
def CC(K:PySem.W.Frag)(ta:TA):TI:=λσ H R=>ta σ H λvs H1=>∃a b kv,vs=[.ref a,.ref b]/\H1 a=some (.dT kv)/\(∃ys,Mc K H1 b ys)/\R (DH K a b kv.length) H1
theorem EY{elts:List Expr}{k:Nat}{tp:Pos}{p pos:Pos}(hg:Gl X "zip")(hm:X.mg "zip" = none)(ha:PA X [a,b] ta)(hs:Bq [a,b] X.env=(false,eval a X.env)::Bq [b] X.env:=by rfl)(hp:(Gu pos (Bq [b] X.env)).any (·.1)=false:=by rfl):PI X (.Tuple elts k tp) (.Call (.Name "zip" p) [a,b] [] pos) (CC X.K ta):=by
 intro pins s σ H R I h
 refine Call_ (Nv I hg hm (u:=.type "zip") (by decide +kernel) (Ey (Gk (ha pos pins s σ H _ I h) λus s1 ⟨vs,H1,I1,r1,q1⟩=>?_) hs hp))
 obtain ⟨l1,l2,kv,e,hq1,⟨ys,hq2⟩,q⟩:=q1
 subst e
 obtain ⟨u1,u2,rfl,ru1,ru2⟩:=vals2 r1
 cases ru1
 cases ru2
 obtain ⟨es,hd,hE,hes,hent⟩:=Xj I1.hok hq1
 obtain ⟨its2,rv2,pl2,hz2⟩:=I1.list hq2
 have hlt1:l1<s1.heap.objs.size:=let ⟨o,q,_⟩:=hE; Bg q
 have hlt2:l2<s1.heap.objs.size:=let ⟨o,q,_⟩:=pl2.isList; Bg q
 refine nP hd hE pl2.isList λh2 hz hTI hTO hi1 hi2 hk=>jD hz ?_
 have fr1:∀n,Mu X pins H1 (s1.heap.objs.size+n):=λn=>I1.fpOk (Km _ _) (I1.hok.fresh (Km _ _))
 have fr:∀c∈[s1.heap.objs.size+4,s1.heap.objs.size+2,s1.heap.objs.size+3,s1.heap.objs.size,s1.heap.objs.size+1],Mu X pins H1 c:=λc hc=>by
  simp only[Ah,Av,or_false] at hc
  rcases hc with rfl | rfl | rfl | rfl | rfl
  ·exact fr1 4
  ·exact fr1 2
  ·exact fr1 3
  ·exact fr1 0
  ·exact fr1 1
 rw[hes] at hi1
 exact ⟨s1.heap.objs.size+4,_,_,_,H1,rfl,I1.kept (t':=s1.toks) hk,sW l1 l2 _ _ _ _ _ (U2 _ _ _ hlt1 hlt2) (Cd hlt1) (Cd (Zp hlt2)),⟨hz,hTI,⟨_,_,hTO⟩,hi1,hi2⟩,fr,q⟩
def CW(te:TE):TI:=λσ H R=>te σ H λv H1=>∃a kv,v=.ref a/\H1 a=some (.dT kv)/\R (FS a kv.length) H1
theorem J1(he:PE X e te):PI X tg e (CW te):=by
 intro pins s σ H R I h
 refine Gk (he pins s σ H _ I h) λu s1 q0_ => ?_
 obtain ⟨v,H1,I1,rv,a,kv,ev,ha,q⟩ := q0_
 subst ev
 cases (show u=Bc a from rv)
 obtain ⟨es,hd,hE,hes,hent⟩:=Xj I1.hok ha
 have hlt:a<s1.heap.objs.size:=let ⟨o,q,_⟩:=hE; Bg q
 refine fJ hd hE ?_
 refine ⟨s1.heap.objs.size,_,_,_,H1,rfl,I1.kept (t':=s1.toks) (λb u q=>Ai _ q),uB a _ (Cd hlt),⟨_,Bf _ rfl,rfl,by rw[hes]; rfl⟩,λc hc=>?_,q⟩
 rw[Af.mp hc]
 exact I1.fpOk (Ak _) (I1.hok.fresh (Ak _))
end
end Nd
namespace DL
open PySem PySem.Spec PyProof.Rows L2 Nd
section
variable{K:PySem.W.Frag}
theorem AA{i:Nat}(r:DRel K H kv ks)(h:kv[i]? = some (k,v)):∃w d,ks[i]? = some (w,d)/\k=Kg w:=by
 have e:=congrArg (λl=>l[i]?) r.key
 simp only[Be,h,Option.map_some] at e
 cases q:ks[i]? with
 | none=>rw[q] at e; cases e
 | some p=>rw[q] at e; exact ⟨p.1,p.2,rfl,Bp e⟩
theorem E8(h:H t=some (.tup ((Kg w).map kV)))(hl:(Kg w).length<=Au):RdF K H (.ref t) (Cn w) []:=by
 rw[iS] at h
 refine .tup h ?_ (RdFs.ints w)
 unfold Kg at hl
 rw[Ad] at hl ⊢
 exact hl
end
def o8(ks:List (List Int×Ac)):List (List Hj×Ac):=ks.map λp=>(Kg p.1,p.2)
section
variable{K:PySem.W.Frag}{H0 H H':Hp}{X:Addr->Prop}{n:Nat}{E S T:List Ent}
theorem xV(h1:kv.map (·.1)=(o8 ks).map (·.1))(h2:RdFs K H (kv.map (·.2)) ((o8 ks).map (·.2)) []):DRel K H kv ks:=by
 unfold o8 at h1 h2
 rw[Ce] at h1 h2
 exact ⟨h1,h2⟩
theorem U9(r:DRel K H kv ks):kv.map (·.1)=(o8 ks).map (·.1)/\RdFs K H (kv.map (·.2)) ((o8 ks).map (·.2)) []:=by
 unfold o8
 rw[Ce,Ce]
 exact ⟨r.key,r.val⟩
theorem At.dNew(h:At K H0 X n E H)(hD:H D=Px):At K H0 X n (⟨some (.ref D),.dT (o8 []),[D]⟩::E) (upd H D (.dT [])):=by
 have s1:=Dl hD (.dT [])
 refine (h.grow (n':=n) s1 (Ak _)).push ⟨D,[],rfl,rfl,Cp,rfl,.nil⟩ (λf hf=>?_) λa ha=>?_
 ·have nf:=h.free hD f hf
  refine ⟨λ_ a ha z=>?_,λ_ a ha z=>?_⟩
  ·rw[Af.mp ha] at z
   exact nf z
  ·rw[Af.mp z] at ha
   exact nf (En _ _ ha)
 ·rw[Af.mp ha]
  exact .inl (h.new0 hD)
theorem At.dPut(h:At K H0 X n (⟨some (.ref D),.dT (o8 ks),[D]⟩::E) H)(r:RdF K H v e []):∃kv,H D=some (.dT kv)/\kv.length=ks.length/\At K H0 X n (⟨some (.ref D),.dT (o8 (Rn ks w e)),[D]⟩::E) (upd H D (.dT (Mr kv (Kg w) v))):=by
 obtain ⟨a,kv,e1,e0,ha,h1,h2⟩:=h.ok _ Ab
 have e1':some (V.ref D)=some (V.ref a):=e1
 cases e1'
 have rel:=xV h1 h2
 have hs:=Bb.mp h.sep
 have hE:=h.sub (Cv _ _)
 have kp:∀{F:List Addr},D∉F->Kp F H (upd H D (.dT (Mr kv (Kg w) v))):=λ{F} hF b o q z=>by
  have : b≠D:=by
   rintro rfl
   rw[ha] at q
   cases q
   rcases z with z | z
   ·exact hF z
   ·rcases z with ⟨_,z⟩ | ⟨_,_,z⟩ <;> cases z
  rw[Cy this]
  exact q
 have nD:H0 D=Px:=by
  rcases h.new _ Ab D Ab with z | z
  ·exact z
  ·cases z.2
 have rel':=(jX w r rel).kp (kp Av)
 obtain ⟨g1,g2⟩:=U9 rel'
 refine ⟨kv,ha,Rx rel,?_⟩
 refine ⟨λf hf=>?_,Bb.mpr ⟨λf hf=>⟨λhq a ha'=>(hs.1 f hf).1 hq a ha',λhq a ha'=>(hs.1 f hf).2 (hq.imp id id) a ha'⟩,hs.2⟩,λf hf=>?_,λb o nx q=>?_,λb o q=>?_,λb hb=>?_⟩
 rotate_right
 ·obtain ⟨z,c,k,f,h1,h2⟩:=h.xd b hb
  refine ⟨z,c,k,f,(Cy ?_).trans h1,h2⟩
  rintro rfl
  exact z nD
 ·rcases Ah.mp hf with rfl | hf
  ·exact ⟨D,_,rfl,rfl,Cp,g1,g2⟩
  ·exact (hE.ok f hf).kp (kp ((hs.1 f hf).1 (.inr rfl) D Ab)) (Ak _)
 ·rcases Ah.mp hf with rfl | hf
  ·intro a ha'
   rw[Af.mp ha']
   exact .inl nD
  ·exact hE.new f hf
 ·rw[Cy (Dw q nD)]
  exact h.same b o nx q
 ·rw[Cy (Dw q nD)]
  exact h.dom b o q
theorem At.dGot(h:At K H0 X n (⟨some (.ref D),.dT (o8 ks),[D]⟩::E) H):At K H0 X n (⟨some (.ref D),.dat .ow (.dict (Qz ks)),[D]⟩::E) H:=by
 obtain ⟨a,kv,e1,e0,ha,h1,h2⟩:=h.ok _ Ab
 have e1':some (V.ref D)=some (V.ref a):=e1
 cases e1'
 have rel:=xV h1 h2
 have hs:=Bb.mp h.sep
 refine (h.sub (Cv _ _)).push ⟨_,rfl,.dic ha rel.key rel.val,λ_=>By.mpr ⟨Av,Dc⟩,λz=>nomatch z⟩ (λf hf=>⟨λhq a ha'=>(hs.1 f hf).1 (.inr rfl) a ha',λhq a ha'=>(hs.1 f hf).2 (.inl rfl) a ha'⟩) λa ha'=>?_
 rcases h.new _ Ab a ha' with z | z
 ·exact .inl z
 ·cases z.2
end
theorem yP(ks:List (List Int×Ac))(w:List Int)(d:Ac):(Rn ks w d).length<=ks.length+1:=by
 unfold Rn
 split
 ·rw[Ad]; omega
 ·rw[Bn]; simp
end DL
namespace Nd
open PySem PySem.Spec PySem.Calls PyProof.Rows PyProof.V L2
end Nd
namespace DL
open PySem PySem.Spec PyProof.Rows L2 Nd
def EZ(K:PySem.W.Frag)(pf:PF):Sp:=λus H Q _=>∃(As:List Ent) (n:Nat) (ds:List Ac) (R:Ac->Prop) (C:List Addr),As.map Ent.v=us.map some/\(∀e∈As,Gr K H n e)/\datas (As.map Ent.x)=some ds/\pf ds R/\(∀a∈C,H a≠none/\∀e∈As,a∉e.F) /\
 ∀v d F H',R d->RdF K H' v d F->(∀a∈F,a∉C)->Ms H H'->Q v H'
def retA(R:Ac->Prop):DEnds where
 nx:=λ_=>R .none
 rt:=λx _=>∃m d,x=.dat m d/\m≠.pk/\R d
section
variable{K:PySem.W.Frag}{H0 H H':Hp}{X:Addr->Prop}{n:Nat}{E S T:List Ent}
theorem At.pushS(h:At K H0 X n E H)(r:RdF K H v d F)(fr:∀f∈E,∀a∈cells f,a∉F):At K H0 X n (⟨some v,.dat .sh d,F⟩::E) H :=
 h.push ⟨v,rfl,r,λz=>(nomatch z),λz=>(nomatch z)⟩ (λf hf=>⟨λ_ a ha=>(nomatch ha),λ_ a ha=>fr f hf a ha⟩) λa ha=>(nomatch ha)
end
section
variable{P:Bs}{w:World}{K:PySem.W.Frag}{mg:Str->Option Value}{base:Heap}
theorem BF{As:List Ent}:∀e∈As.map Wz++Gq k,∀a∈e.F,∃f∈As,a∈f.F:=λe he a ha=>by
 rcases Ay.mp he with he | he
 ·obtain ⟨f,hf,rfl⟩:=Bu.mp he
  refine ⟨f,hf,?_⟩
  obtain ⟨v,x,F⟩:=f
  cases x <;> exact ha
 ·rw[(Ha.mp he).2] at ha
  exact nomatch ha
theorem u3{x qual:Str}{st:Stmt}(F:Fun K x qual st f fd)(S:FnScope N ps (Bm st))(hb:∀(cdv:Value) (A:Cs) (outer:List Env) (s:Aj) (H:Hp) (E:XK),Room k (A.deeper (envOfC qual (Bm st) s.heap.objs.size f cdv))->Wx (Iy Gp P w K mg base N qual (Bm st) f cdv A outer s H E).nox (Iu st) db)(h:∀ds R,pf ds R->ds.length=ps.length/\db (retA R) ⟨args0 ds (N.length - ps.length),0⟩):FnOk P w K mg base Gp (k+1) f fd ps (EZ K pf):=by
 refine F.ok S (λvs H Q E z=>?_) λcdv A outer s H us Q E hr z=>?_
 ·obtain ⟨As,n,ds,R,C,eu,ok,q,hp,_⟩:=z
  have l1:=(h ds R hp).1
  have l2:=Il q
  rw[Ad] at l2
  have l3:=congrArg Fb eu
  rw[Ad,Ad] at l3
  omega
 ·obtain ⟨As,n,ds,R,C,eu,ok,q,hp,hG,k1⟩:=z
  obtain ⟨l1,hd⟩:=h ds R hp
  have l2:=Il q
  rw[Ad] at l2
  have l3:=congrArg Fb eu
  rw[Ad,Ad] at l3
  let H0:Hp:=λa=>open Classical in if a∈C then none else H a
  have h0n:∀{a},a∈C->H0 a=none:=λz=>if_pos z
  have h0s:∀{a},a∉C->H0 a=H a:=λz=>if_neg z
  -- what holds at the end
  have ends:∀{E':List Ent} {n':Nat} {H':Hp},At K H0 (λ_=>False) n' (E'++[⟨none,.grd H,C⟩]) H'->Ms H H':=λ{E' n' H'} hA b o e=>by
   by_cases hb:b∈C
   ·obtain ⟨o',g1,g2⟩:=hA.ok _ (Al _ Ab) b hb
    rw[e] at g1
    cases g1
    exact g2
   ·exact hA.same b o (λz=>z) (by rw[h0s hb]; exact e)
  refine ⟨_,hb cdv A outer s H E hr,H0,λ_=>False,As.map Wz++Gq (N.length - ps.length),[⟨none,.grd H,C⟩],⟨args0 ds (N.length - ps.length),0⟩,retA R,?_,?_,λe z=>?_,?_,hd,λδ' S' H' e1 hA p=>?_,λx δ' v F' S' H' e1 hA p=>?_,λ_ _ _ _ _ p=>p.elim,λ_ _ _ _ _ p=>p.elim⟩
  ·unfold vs L2.start Gq
   rw[Bi,L7,eu,Mi,show us.length=ps.length by omega]
  ·unfold Sl args0 Gq
   rw[Bi,Rr q,Mi]
  ·rw[Af.mp z]; rfl
  ·have hs:=Zj q (N.length - ps.length)
   have hF:=BF (As:=As) (k:=N.length - ps.length)
   have gF:∀e∈As.map Wz++Gq (N.length - ps.length),∀a∈C,a∉e.F:=λe he a ha z=>by
    obtain ⟨f,hf,zf⟩:=hF e he a z
    exact (hG _ ha).2 f hf zf
   refine ⟨λe he=>?_,Ca.mpr ⟨Qe λa ha b hb'=>⟨λhq c hc=>?_,λhq c hc=>?_⟩,Ge _ _,λa ha b hb'=>⟨λhq c hc=>?_,λhq c hc=>?_⟩⟩,λe he a ha=>?_,λb o _ e=>?_,λb o e=>?_,λb hb=>hb.elim⟩
   ·rcases Ay.mp he with he | he
    ·have:=qN q ok (N.length - ps.length) e he
     obtain ⟨v,x,F⟩:=e
     cases x with
     | drw=>exact absurd (hs _ he).2 (by show ¬ (true=false); decide)
     | _=>exact this
    ·rw[Af.mp he]
     intro a ha
     have:=(hG _ ha).1
     cases q:H a with
     | none=>exact absurd q this
     | some o=>exact ⟨o,by first | rfl | exact q,by first | rfl | exact q⟩
   ·rw[(hs a ha).1] at hc; cases hc
   ·rw[(hs b hb').1] at hc; cases hc
   ·rw[(hs a ha).1] at hc; cases hc
   ·rw[Af.mp hb'] at hc
    exact gF a ha c hc
   ·rcases Ay.mp he with he | he
    ·rw[(hs e he).1] at ha; cases ha
    ·rw[Af.mp he] at ha
     exact .inl (h0n ha)
   ·by_cases hb:b∈C
    ·rw[h0n hb] at e; cases e
    ·rw[h0s hb] at e; exact e
   ·by_cases hb:b∈C
    ·rw[h0n hb] at e; cases e
    ·rw[h0s hb] at e; exact ⟨o,e⟩
  ·exact k1 .non .none [] H' p .non (λ_ z=>(nomatch z)) (ends hA)
  ·obtain ⟨m,d,rfl,hm,r⟩:=p
   obtain ⟨u,e2,rd,_⟩:=hA.ok _ mem_mid
   cases e2
   have hA2:At K H0 (λ_=>False) δ'.n ((S'++[⟨some v,.dat m d,F'⟩])++[⟨none,.grd H,C⟩]) H':=by rw[Bw]; exact hA
   refine k1 v d F' H' r rd (λa ha=>?_) (ends hA2)
   have sp:=(Ca.mp hA2.sep).2.2 _ (Al _ Ab) _ Ab
   exact λz=>sp.2 (.inr rfl) a z ha
end
def i5(pf:PF)(da:DA):DE:=λδ P=>da δ λxs δ1=>noPk xs=true/\match datas xs with
 | some ds=>pf ds λd=>P (.dat .sh d) δ1
 | none=>False
theorem Zz:∀{As:List Ent},noPk (As.map Ent.x)=true->∀e∈As,Le e.x=false
 | [],_,e,he=>nomatch he
 | ⟨v,x,F⟩::As,h,e,he=>by
  rw[Aw] at h
  have hh:Le x=false/\noPk (As.map Ent.x)=true:=by
   cases x with
   | dat m d=>cases m <;> first | exact ⟨rfl,h⟩ | (simp [noPk] at h)
   | _=>exact ⟨rfl,by simpa [noPk] using h⟩
  rcases Ah.mp he with rfl | he
  ·exact hh.1
  ·exact Zz hh.2 e he
section
variable{X:Cx}{CX:rM}{k:Nat}{f:Addr}{fd:Cg}{ps:List Str}{pf:PF}{E:XK}{x:Str}{p pos:Pos}{e:Expr}{es:List Expr}{da:DA}
theorem vI(F:FnOk X.prog X.w X.K X.mg X.base CX k f fd ps (EZ X.K pf))(hr:Room k X.A)(hg:Gl X x)(hm:X.mg x=some (.ref f))(hk:PySem.W.keepIn X.K (.ref f)=true)(hb:Binds X.K fd ps [])(hx:Pm CX X E)(ha:jJ X (e::es) da)(hdb:(x == ("__debug__" : Str))=false:=by decide)(he:Bq (e::es) X.env=(false,eval e X.env)::Bq es X.env:=by rfl)(hpl:(Gu pos (Bq es X.env)).any (·.1)=false:=by rfl):Em X (.Call (.Name x p) (e::es) [] pos) (i5 pf da):=by
 refine PE.imp (Vl F hr hg hm hk hb .nil hx ha hdb he hpl) λσ H Q h=>?_
 obtain ⟨H0,Y,S,T,δ,P,rfl,hS,hA,hd,kk⟩:=h
 refine ⟨H0,Y,S,T,δ,_,rfl,hS,hA,hd,λxs δ' As us S' H' e1 e2 ex eu hA' p=>?_⟩
 subst ex
 obtain ⟨np,p⟩:=p
 cases q:datas (As.map Ent.x) with
 | none=>rw[q] at p; exact p.elim
 | some ds =>
  rw[q] at p
  rw[Dz]
  have hAs:=Zz np
  have hE:=hA'.dropL
  refine ⟨As,δ'.n,ds,_,(S'++T).flatMap cells,eu,λe he=>hA'.ok e (Al _ (Ao _ he)),q,p,λa ha=>?_,λv d F H'' r rd fr s=>?_⟩
  ·obtain ⟨g,hg1,hg2⟩:=Ih.mp ha
   refine ⟨λz=>?_,λe he=>?_⟩
   ·obtain ⟨o,q⟩:=(hE.ok g hg1).dom a (En _ _ hg2)
    rw[z] at q; cases q
   ·obtain ⟨_,hp2,hp⟩ := Ca.mp hA'.sep
    rcases Ay.mp hg1 with hg1 | hg1
    ·exact (hp g hg1 e (Ao _ he)).1 (.inl (hAs e he)) a hg2
    ·exact ((Ca.mp hp2).2.2 e he g hg1).2 (.inl (hAs e he)) a hg2
  ·refine kk _ δ' v F S' H'' e1 e2 (((hE.grow s (Ak _)).pushS rd λf hf a ha z=>fr a z (List.mem_flatMap.mpr ⟨f,hf,ha⟩)).tomid) r
end
def HY(da:DA):DE:=λδ P=>da δ λxs δ1=>match xs with
 | [.dat _ (.tuple ds)]=>∃ns:List Int,ds=ns.map Ag/\(∀x∈ns,0<=x/\x<60)/\P (.dat .ow (.list ((V4 ns).map Ag))) δ1
 | _=>False
def J0(K:PySem.W.Frag)(df:DF):Sp:=λus H Q _=>∃(dr:Addr) (ws:List V) (As:List Ent) (n:Nat) (ds:List Ac) (R:Ac->Nat->Prop) (C:List Addr),us=.ref dr::ws/\As.map Ent.v=ws.map some/\(∀e∈As,Gr K H n e)/\(∀e∈As,dr∉e.F)/\(∃c k f,aW H dr c k f/\0<=k/\k<=(n:Int))/\datas (As.map Ent.x)=some ds/\df ds n R /\
 dr∉C/\(∀a∈C,H a≠none/\∀e∈As,a∉e.F) /\
 ∀v d F n' H',n<=n'->R d n'->RdF K H' v d F->(∀a∈F,a∉C)->Tz dr H H'->(∃c k f,aW H' dr c k f/\0<=k/\k<=(n':Int))->Q v H'
def retWT(n:Nat)(R:Ac->Nat->Prop):DEnds where
 nx:=λδ=>n<=δ.n/\R .none δ.n
 rt:=λx δ=>n<=δ.n/\∃m d,x=.dat m d/\m≠.pk/\R d δ.n
section
variable{P:Bs}{w:World}{K:PySem.W.Frag}{mg:Str->Option Value}{base:Heap}
theorem yZ{x qual:Str}{st:Stmt}{f:Addr}(F:Fun K x qual st f fd)(S:FnScope N (p0::ps) (Bm st))(hb:∀(cdv:Value) (A:Cs) (outer:List Env) (s:Aj) (H:Hp) (E:XK),Room k (A.deeper (envOfC qual (Bm st) s.heap.objs.size f cdv))->Wx (Iy Gp P w K mg base N qual (Bm st) f cdv A outer s H E).nox (Iu st) db)(h:∀ds n R,df ds n R->ds.length=ps.length/\db (retWT n R) ⟨.drw::args0 ds (N.length - (p0::ps).length),n⟩):FnOk P w K mg base Gp (k+1) f fd (p0::ps) (J0 K df):=by
 refine F.ok S (λvs H Q E z=>?_) λcdv A outer s H us Q E hr z=>?_
 ·obtain ⟨dr,ws,As,n,ds,R,C,rfl,eu,ok,nd,hdr,q,hp,_⟩:=z
  have l1:=(h ds n R hp).1
  have l2:=Il q
  rw[Ad] at l2
  have l3:=congrArg Fb eu
  rw[Ad,Ad] at l3
  rw[Br,Br]
  omega
 ·obtain ⟨dr,ws,As,n,ds,R,C,rfl,eu,ok,ndr,hdr,q,hp,hC,hG,k1⟩:=z
  obtain ⟨l1,hd⟩:=h ds n R hp
  have l2:=Il q
  rw[Ad] at l2
  have l3:=congrArg Fb eu
  rw[Ad,Ad] at l3
  let H0:Hp:=λa=>open Classical in if a∈C then none else H a
  have h0n:∀{a},a∈C->H0 a=none:=λz=>if_pos z
  have h0s:∀{a},a∉C->H0 a=H a:=λz=>if_neg z
  have ends:∀{E':List Ent} {n':Nat} {H':Hp},At K H0 (·=dr) n' (E'++[⟨none,.grd H,C⟩]) H'->Tz dr H H':=λ{E' n' H'} hA b o nb e=>by
   by_cases hb:b∈C
   ·obtain ⟨o',g1,g2⟩:=hA.ok _ (Al _ Ab) b hb
    rw[e] at g1
    cases g1
    exact g2
   ·exact hA.same b o nb (by rw[h0s hb]; exact e)
  refine ⟨_,hb cdv A outer s H E hr,H0,(·=dr),⟨some (.ref dr),.drw,[dr]⟩::(As.map Wz++Gq (N.length - (p0::ps).length)),[⟨none,.grd H,C⟩],⟨.drw::args0 ds (N.length - (p0::ps).length),n⟩,retWT n R,?_,?_,λe z=>?_,?_,hd,λδ' S' H' e1 hA p=>?_,λx δ' v F' S' H' e1 hA p=>?_,λ_ _ _ _ _ p=>p.elim,λ_ _ _ _ _ p=>p.elim⟩
  ·unfold vs L2.start Gq
   rw[Aw,Bi,L7,eu,Mi,Br,Br,show ws.length=ps.length by omega]
   rfl
  ·unfold Sl args0 Gq
   rw[Aw,Bi,Rr q,Mi]
  ·rw[Af.mp z]; rfl
  ·have hs:=Zj q (N.length - (p0::ps).length)
   have hF:=BF (As:=As) (k:=N.length - (p0::ps).length)
   have gF:∀e∈As.map Wz++Gq (N.length - (p0::ps).length),∀a∈C,a∉e.F:=λe he a ha z=>by
    obtain ⟨f,hf,zf⟩:=hF e he a z
    exact (hG a ha).2 f hf zf
   have hsub:∀e∈As.map Wz++Gq (N.length - (p0::ps).length),dr∉e.F:=λe he z=>by
    obtain ⟨f,hf,zf⟩:=hF e he dr z
    exact ndr f hf zf
   have dom0:H0 dr≠none:=by
    rw[h0s hC]
    obtain ⟨c,kk,fl,z1,z2⟩:=hdr
    exact λz=>(by rw[show H dr=some _ from z1] at z; cases z)
   refine ⟨λe he=>?_,Bb.mpr ⟨λb hb'=>?_,Ca.mpr ⟨Qe λa ha b hb'=>⟨λhq c hc=>?_,λhq c hc=>?_⟩,Ge _ _,λa ha b hb'=>⟨λhq c hc=>?_,λhq c hc=>?_⟩⟩⟩,λe he a ha=>?_,λb o _ e=>?_,λb o e=>?_,λb hb=>?_⟩
   ·rcases Ah.mp he with rfl | he
    ·obtain ⟨c,kk,fl,z1,z2,z3⟩:=hdr
     exact ⟨dr,c,kk,fl,rfl,rfl,z1,z2,z3⟩
    ·rcases Ay.mp he with he | he
     ·exact qN q ok _ e he
     ·rw[Af.mp he]
      intro a ha
      have:=(hG a ha).1
      cases q:H a with
      | none=>exact absurd q this
      | some o=>exact ⟨o,by first | rfl | exact q,by first | rfl | exact q⟩
   ·rcases Ay.mp hb' with hb' | hb'
    ·refine ⟨λhq c hc=>?_,λhq c hc=>?_⟩
     ·rw[Af.mp hc]; exact hsub b hb'
     ·rw[(hs b hb').1] at hc; cases hc
    ·rw[Af.mp hb']
     refine ⟨λhq c hc=>?_,λhq c hc z=>?_⟩
     ·rw[Af.mp hc]; exact hC
     ·rw[Af.mp z] at hc; exact hC hc
   ·rw[(hs a ha).1] at hc; cases hc
   ·rw[(hs b hb').1] at hc; cases hc
   ·rw[(hs a ha).1] at hc; cases hc
   ·rw[Af.mp hb'] at hc
    exact gF a ha c hc
   ·rcases Ah.mp he with rfl | he
    ·rw[Af.mp ha]
     exact .inr ⟨rfl,rfl⟩
    ·rcases Ay.mp he with he | he
     ·rw[(hs e he).1] at ha; cases ha
     ·rw[Af.mp he] at ha
      exact .inl (h0n ha)
   ·by_cases hb:b∈C
    ·rw[h0n hb] at e; cases e
    ·rw[h0s hb] at e; exact e
   ·by_cases hb:b∈C
    ·rw[h0n hb] at e; cases e
    ·rw[h0s hb] at e; exact ⟨o,e⟩
   ·subst hb
    obtain ⟨c,kk,fl,z1,z2⟩:=hdr
    exact ⟨dom0,c,kk,fl,z1,z2⟩
  ·exact k1 .non .none [] δ'.n H' p.1 p.2 .non (λ_ z=>(nomatch z)) (ends hA) (hA.xd dr rfl).2
  ·obtain ⟨hn,m,d,rfl,hm,r⟩:=p
   obtain ⟨u,e2,rd,_⟩:=hA.ok _ mem_mid
   cases e2
   have hA2:At K H0 (·=dr) δ'.n ((S'++[⟨some v,.dat m d,F'⟩])++[⟨none,.grd H,C⟩]) H':=by rw[Bw]; exact hA
   refine k1 v d F' δ'.n H' hn r rd (λa ha=>?_) (ends hA2) (hA.xd dr rfl).2
   have sp:=(Ca.mp hA2.sep).2.2 _ (Al _ Ab) _ Ab
   exact λz=>sp.2 (.inr rfl) a z ha
end
def iX(df:DF)(xs:List DV)(δ:DS)(P:DV->DS->Prop):Prop:=match xs with
 | .drw::ys=>noPk ys=true/\match datas ys with
  | some ds=>df ds δ.n λd n'=>P (.dat .sh d) ⟨δ.sl,n'⟩
  | none=>False
 | _=>False
def sM(df:DF)(da:DA):DE:=λδ P=>da δ λxs δ1=>iX df xs δ1 P
section
variable{X:Cx}{CX:rM}{k:Nat}{f:Addr}{fd:Cg}{ps:List Str}{df:DF}{E:XK}{x:Str}{p pos:Pos}{e:Expr}{es:List Expr}{da:DA}
theorem vD(F:FnOk X.prog X.w X.K X.mg X.base CX k f fd ps (J0 X.K df))(hr:Room k X.A)(hg:Gl X x)(hm:X.mg x=some (.ref f))(hk:PySem.W.keepIn X.K (.ref f)=true)(hb:Binds X.K fd ps [])(hx:Pm CX X E)(ha:jJ X (e::es) da)(hdb:(x == ("__debug__" : Str))=false:=by decide)(he:Bq (e::es) X.env=(false,eval e X.env)::Bq es X.env:=by rfl)(hpl:(Gu pos (Bq es X.env)).any (·.1)=false:=by rfl):Em X (.Call (.Name x p) (e::es) [] pos) (sM df da):=by
 refine PE.imp (Vl F hr hg hm hk hb .nil hx ha hdb he hpl) λσ H Q h=>?_
 obtain ⟨H0,Y,S,T,δ,P,rfl,hS,hA,hd,kk⟩:=h
 refine ⟨H0,Y,S,T,δ,_,rfl,hS,hA,hd,λxs δ' As us S' H' e1 e2 ex eu hA' p=>?_⟩
 subst ex
 unfold iX at p
 split at p
 ·rename_i ys ey
  match As,us,ey,eu,hA' with
  | ent::As,w::us,ey,eu,hA' =>
   obtain ⟨u,z,F⟩:=ent
   have ez:z=.drw:=(Do ey).1
   have eys:As.map Ent.x=ys:=(Do ey).2
   subst ez eys
   obtain ⟨np,p⟩:=p
   have hAs:=Zz np
   have eu1:u=some w:=(Do eu).1
   have eu2:As.map Ent.v=us.map some:=(Do eu).2
   have hE:(⟨u,.drw,F⟩ : Ent)∈S'++((⟨u,.drw,F⟩::As)++T):=Al _ (Ao _ Ab)
   obtain ⟨dr,c0,k0,f0,hv0,hF0,hd0,hk0,hk1⟩:=hA'.ok _ hE
   have ew:some w=some (V.ref dr):=eu1.symm.trans hv0
   cases ew
   have hF':F=[dr]:=hF0
   subst hF'
   have hM:=hA'.perm (jU (S:=S') (T:=As++T))
   have hMs:=Bb.mp hM.sep
   have hE0:At X.K H0 Y δ'.n (S'++T) H':=hM.sub (((Cr S').append (Cf As T)).cons _)
   cases q:datas (As.map Ent.x) with
   | none=>rw[q] at p; exact p.elim
   | some ds =>
    rw[q] at p
    rw[Dz]
    refine ⟨dr,us,As,δ'.n,ds,_,(S'++T).flatMap cells,rfl,eu2,λe he=>hA'.ok e (Al _ (Ao _ (Ae _ he))),λe he=>?_,⟨c0,k0,f0,hd0,hk0,hk1⟩,q,p,λz=>?_,λa ha=>?_,λv d F n' H'' hn r rd fr s hdr=>?_⟩
    ·exact (hMs.1 e (Al _ (Ao _ he))).1 (.inr rfl) dr Ab
    ·obtain ⟨g,hg1,hg2⟩:=Ih.mp z
     refine (hMs.1 g ?_).1 (.inr rfl) dr Ab (En _ _ hg2)
     rcases Ay.mp hg1 with h | h
     ·exact Ao _ h
     ·exact Al _ (Al _ h)
    ·obtain ⟨g,hg1,hg2⟩:=Ih.mp ha
     refine ⟨λz=>?_,λe he=>?_⟩
     ·obtain ⟨o,q⟩:=(hE0.ok g hg1).dom a (En _ _ hg2)
      rw[z] at q; cases q
     ·obtain ⟨_,hp2,hp⟩ := Ca.mp hMs.2
      rcases Ay.mp hg1 with hg1 | hg1
      ·exact (hp g hg1 e (Ao _ he)).1 (.inl (hAs e he)) a hg2
      ·exact ((Ca.mp hp2).2.2 e he g hg1).2 (.inl (hAs e he)) a hg2
    ·have hA2:=hM.drawn Ab rfl hv0 s hdr hn
     have hA3:At X.K H0 Y n' (S'++T) H'':=hA2.sub (((Cr S').append (Cf As T)).cons _)
     exact kk _ ⟨δ'.sl,n'⟩ v F S' H'' e1 e2 ((hA3.pushS rd λf hf a ha z=>fr a z (List.mem_flatMap.mpr ⟨f,hf,ha⟩)).tomid) r
 ·exact p.elim
end
abbrev PX:=List Ac->(Ac->Prop)->(Addr->Prop)->Prop
end DL
namespace Nd
open PySem PySem.Spec PyProof.Rows L2
end Nd
namespace DL
open PySem PySem.Spec PyProof.Rows L2 Nd
end DL
namespace Nd
open PySem PySem.Spec PyProof.Rows L2
abbrev ZF(h:Heap)(z TI TO:Addr)(f0 f1:Value):Prop:=h.get? z=some { cls:=.type "zip",dict:=none,data:=.fields #[f0,f1,.bool false,.ref TI,.ref TO],slots:=#[] }
section
variable{prog:Bs}{w:World}{A:Cs}{E:Value->Aj->Prop}{s:Aj}
theorem jK(ho:s.heap.get? a=some o)(h:Q (some o) s):wpAny (model prog w) A (loadIfAlive a) Q E s:=λΓ p _=>by
 unfold loadIfAlive
 rw[Sem.wp_loadIfAlive,ho]
 exact (Sem.wp_pure ..)▸h
theorem bK{z TI TO a:Addr}(hz:ZF s.heap z TI TO (Js (a:Int)) (.bool fl))(ha:s.heap.get? a=some oa):wpAny (model prog w) A (Cu (.ref z)) (λb s'=>b=false/\∃h',s'={ s with heap:=h' }/\ZF h' z TI TO (Js (a:Int)) (.bool true)/\Dm z s.heap h') E s:=by
 unfold Cu
 refine Aa (Et hz rfl (x:=Js (a:Int)) rfl ?_)
 show wpAny _ _ (loadIfAlive ((a:Int).toNat) >>= _) _ _ _
 refine Aa (jK (a:=(a:Int).toNat) (o:=oa) (by rw[Gm]; exact ha) ?_)
 simp only[Option.isNone_some,Bx,if_false]
 refine Aa (Et hz rfl (x:=.bool fl) rfl ?_)
 cases fl with
 | false =>
  rw[if_pos (by decide)]
  exact Aa (Hl hz (by simp) λg1 hz1 hs1=>Am ⟨rfl,g1,rfl,hz1,hs1⟩)
 | true =>
  rw[if_neg (by decide)]
  exact Am ⟨rfl,s.heap,rfl,hz,⟨rfl,λ_ _=>rfl⟩⟩
theorem uO{z TI TO i1 i2 l1 l2 a:Addr}{Q:Value->Aj->Prop}(D:Rg z TI TO i1 i2 l1 l2)(hz:ZF s.heap z TI TO (Js (a:Int)) (.bool fl))(ha:s.heap.get? a=some oa)(hTI:Fh s.heap TI (.ref i1) (.ref i2))(h1:s.heap.IsListIter i1 l1 k1)(h2:s.heap.IsListIter i2 l2 k2)(hl1:s.heap.IsList l1 xs)(hl2:s.heap.IsList l2 ys)(hx:xs[k1]? = some x)(hy:ys[k2]? = some y)(hQ:∀h',ZF h' z TI TO (Js (a:Int)) (.bool true)->h'.IsListIter i1 l1 (k1+1)->h'.IsListIter i2 l2 (k2+1)->Fh h' s.heap.objs.size x y->h'.objs.size=s.heap.objs.size+1->(∀c o,c≠z->c≠i1->c≠i2->s.heap.get? c=some o->h'.get? c=some o)->Q (.ref s.heap.objs.size) { s with heap:=h' }):wpAny (model prog w) A (Builtin.«zip.__next__» ⟨[.ref z],[]⟩) (λfin s'=>∃v,fin=.done (.ret v)/\Q v s') E s:=by
 unfold Builtin.«zip.__next__»
 refine Aa (Am (Aa (Et hz rfl (x:=.bool false) rfl (Aa (Et hz rfl (x:=.ref TI) rfl (Aa (Fs hTI rfl ?_)))))))
 show wpAny _ _ (Cu (.ref z) >>= _) _ _ _
 refine Aa (Gk (bK (E:=E) hz ha) λbb s1 q0_ => ?_)
 obtain ⟨eb,g1,e1,hz1,hs1⟩ := q0_
 subst eb e1
 simp only[Bx,if_false]
 simp only[<- Wv,Tq,Uy]
 refine Aa (Aa (Aa (Dd ?_)))
 show wpAny _ _ (Cz (.ref i1) >>= _) _ _ _
 refine Aa (Va (h1.extBut hs1.extBut D.i1z) (hl1.extBut hs1.extBut D.l1z) hx λg2 q1 hs2=>Am (Am ?_))
 refine Aa (Aa (Dd ?_))
 show wpAny _ _ (Cz (.ref i2) >>= _) _ _ _
 refine Aa (Va ((h2.extBut hs1.extBut D.i2z).extBut hs2.extBut D.i12.symm) ((hl2.extBut hs1.extBut D.l2z).extBut hs2.extBut D.l2i1) hy λg3 q2 hs3=>Am (Am (Am ?_)))
 show wpAny _ _ (newTuple [x,y] >>= _) _ _ _
 refine Aa (Yn ?_)
 have sz:g3.objs.size=s.heap.objs.size:=by rw[hs3.1,hs2.1,hs1.1]
 have up:∀c o,c≠z->c≠i1->c≠i2->s.heap.get? c=some o->g3.get? c=some o:=λc o c1 c2 c3 e=>hs3.extBut _ _ c3 (hs2.extBut _ _ c2 (hs1.extBut _ _ c1 e))
 have hz3:ZF g3 z TI TO (Js (a:Int)) (.bool true):=hs3.extBut _ _ D.i2z.symm (hs2.extBut _ _ D.i1z.symm hz1)
 have fin:=hQ (g3.push { cls:=.type "tuple",data:=.seq #[x,y] }) (Ai _ hz3) ((q1.extBut hs3.extBut D.i12).at λo e=>Ai _ e) (q2.at λo e=>Ai _ e) (by rw[<- sz]; exact Bf _ rfl) (by rw[Ij,sz]) (λc o c1 c2 c3 e=>Ai _ (up c o c1 c2 c3 e))
 refine Am ⟨_,rfl,?_⟩
 rw[<- sz] at fin
 exact fin
theorem dQ{z TI TO i1 i2 l1 l2 a:Addr}(hh:A.handled=none)(D:Rg z TI TO i1 i2 l1 l2)(hz:ZF s.heap z TI TO (Js (a:Int)) (.bool fl))(ha:s.heap.get? a=some oa)(hTI:Fh s.heap TI (.ref i1) (.ref i2))(h1:s.heap.IsListIter i1 l1 k1)(h2:s.heap.IsListIter i2 l2 k2)(hl1:s.heap.IsList l1 xs)(hl2:s.heap.IsList l2 ys)(hend:xs[k1]? = none\/ys[k2]? = none)(hE:∀h' e,(∀c o,c≠z->c≠i1->c≠i2->s.heap.get? c=some o->h'.get? c=some o)->(∃o,h'.get? e=some o/\o.cls=.type "StopIteration")->E (.ref e) { s with heap:=h' }):wpAny (model prog w) A (Builtin.«zip.__next__» ⟨[.ref z],[]⟩) Q E s:=by
 unfold Builtin.«zip.__next__»
 refine Aa (Am (Aa (Et hz rfl (x:=.bool false) rfl (Aa (Et hz rfl (x:=.ref TI) rfl (Aa (Fs hTI rfl ?_)))))))
 show wpAny _ _ (Cu (.ref z) >>= _) _ _ _
 refine Aa (Gk (bK (E:=E) hz ha) λbb s1 q0_ => ?_)
 obtain ⟨eb,g1,e1,hz1,hs1⟩ := q0_
 subst eb e1
 simp only[Bx,if_false]
 simp only[<- Wv,Tq,Uy]
 refine Aa (Aa (Aa (Dd ?_)))
 show wpAny _ _ (Cz (.ref i1) >>= _) _ _ _
 cases hx:xs[k1]? with
 | none =>
  refine Aa (wpAny_nextOf_list_end hh (h1.extBut hs1.extBut D.i1z) (hl1.extBut hs1.extBut D.l1z) hx λg2 e hs2 he=>?_)
  exact hE g2 e (λc o c1 c2 _ q=>hs2 _ _ c2 (hs1.extBut _ _ c1 q)) he
 | some x =>
  have hy:ys[k2]? = none:=hend.resolve_left λq=>by rw[hx] at q; cases q
  refine Aa (Va (h1.extBut hs1.extBut D.i1z) (hl1.extBut hs1.extBut D.l1z) hx λg2 q1 hs2=>Am (Am ?_))
  refine Aa (Aa (Dd ?_))
  show wpAny _ _ (Cz (.ref i2) >>= _) _ _ _
  refine Aa (wpAny_nextOf_list_end hh ((h2.extBut hs1.extBut D.i2z).extBut hs2.extBut D.i12.symm) ((hl2.extBut hs1.extBut D.l2z).extBut hs2.extBut D.l2i1) hy λg3 e hs3 he=>?_)
  exact hE g3 e (λc o c1 c2 c3 q=>hs3 _ _ c3 (hs2.extBut _ _ c2 (hs1.extBut _ _ c1 q))) he
theorem oA{z TI TO i1 i2 l1 l2 a:Addr}(D:Rg z TI TO i1 i2 l1 l2)(hz:ZF s.heap z TI TO (Js (a:Int)) (.bool fl))(ha:s.heap.get? a=some oa)(hTI:Fh s.heap TI (.ref i1) (.ref i2))(h1:s.heap.IsListIter i1 l1 k1)(h2:s.heap.IsListIter i2 l2 k2)(hl1:s.heap.IsList l1 xs)(hl2:s.heap.IsList l2 ys)(hx:xs[k1]? = some x)(hy:ys[k2]? = some y)(hQ:∀h',ZF h' z TI TO (Js (a:Int)) (.bool true)->h'.IsListIter i1 l1 (k1+1)->h'.IsListIter i2 l2 (k2+1)->Fh h' s.heap.objs.size x y->h'.objs.size=s.heap.objs.size+1->(∀c o,c≠z->c≠i1->c≠i2->s.heap.get? c=some o->h'.get? c=some o)->Q (some (.ref s.heap.objs.size)) { s with heap:=h' }):wpAny (model prog w) A (Kx (.ref z)) Q E s:=by
 have ty:s.TypeIs (.ref z) "zip" := ⟨_,hz,rfl⟩
 unfold Kx
 refine Aa (Ik (Ed (name:=Dr "__next__") ty Uz (Ew Uz ty F.entry_zip_next (uO D hz ha hTI h1 h2 hl1 hl2 hx hy λg' b1 b2 b3 b4 b5 b6=>Am (hQ g' b1 b2 b3 b4 b5 b6)) (F.args_zip_next_1 _))))
theorem bU{z TI TO i1 i2 l1 l2 a:Addr}(hh:A.handled=none)(D:Rg z TI TO i1 i2 l1 l2)(hz:ZF s.heap z TI TO (Js (a:Int)) (.bool fl))(ha:s.heap.get? a=some oa)(hTI:Fh s.heap TI (.ref i1) (.ref i2))(h1:s.heap.IsListIter i1 l1 k1)(h2:s.heap.IsListIter i2 l2 k2)(hl1:s.heap.IsList l1 xs)(hl2:s.heap.IsList l2 ys)(hend:xs[k1]? = none\/ys[k2]? = none)(hQ:∀h',(∀c o,c≠z->c≠i1->c≠i2->s.heap.get? c=some o->h'.get? c=some o)->Q none { s with heap:=h' }):wpAny (model prog w) A (Kx (.ref z)) Q E s:=by
 have ty:s.TypeIs (.ref z) "zip" := ⟨_,hz,rfl⟩
 unfold Kx
 refine Aa (Ik (Ed (name:=Dr "__next__") ty Uz (Ew Uz ty F.entry_zip_next (dQ hh D hz ha hTI h1 h2 hl1 hl2 hend λg' e kp he=>?_) (F.args_zip_next_1 _))))
 obtain ⟨o,ho,hc⟩:=he
 exact Aa (Oh (T := "StopIteration") (b:=true) ⟨o,ho,hc⟩ isSubtype_stop (Am (hQ _ kp)))
end
end Nd
namespace Nd
open PySem PySem.Spec
theorem fZ:entryFor table "zip.__getattribute__" = some Builtin.«object.__getattribute__» :=
 entryFor_alias (id' := "object.__getattribute__") (by kernel_rfl) (by first | rfl | decide +kernel) (by decide +kernel) (by kernel_rfl)
theorem kM:typeLookup (.type "zip") "keys" = pure none:=by rw[typeLookup_type,builtinLookup_eq_fast]; kernel_rfl
section
variable{prog:Bs}{w:World}{A:Cs}{E:Value->Aj->Prop}{h:Heap}{g:Array GenState}{d:Drawn}{t:Nat}{os:OsState}{a:Addr}{fs:Array Value}
theorem cD:isSubtype (.type "AttributeError") (.type "AttributeError")=pure true:=by rw[isSubtype_type]; kernel_rfl
theorem oR(args:List Value):Yq (.type "AttributeError") args=pure Ip:=by
 have h:((Manifest.find? "AttributeError").elim false λt=>t.mro.contains "StopIteration" || t.mro.contains "SystemExit")=false:=by decide +kernel
 simp only[Yq,h]
 rfl
theorem oW(hh:A.handled=none)(hm:msg.length<=Au)(hE:∀h' t' e,(∀c o,h.get? c=some o->h'.get? c=some o)->t<=t'->(∃o,h'.get? e=some o/\o.cls=.type "AttributeError")->E (.ref e) ⟨h',g,d,t',os⟩):wpAny (model prog w) A (raiseAttrError v name msg:Sem α) Q E ⟨h,g,d,t,os⟩:=by
 unfold raiseAttrError newExc newTuple
 refine Aa (wpAny_mkStr' ?_ hm)
 refine Aa (Aa (Du ?_ (by show (1:Nat)<=Au; decide)))
 refine Aa (wpAny_of_eq (oR _) (Du ?_))
 generalize hh1:h.push { cls:=.type "tuple",data:=.seq [Value.str msg t].toArray }=h1
 have k1:∀c o,h.get? c=some o->h1.get? c=some o:=λc o q=>by rw[<- hh1]; exact Ai _ q
 have g0:(h1.push { cls:=.type "AttributeError",data:=.fields #[.ref h.objs.size,.none,.none,.none,.bool false,.none,Jm,Jm] }).get? h1.objs.size=some { cls:=.type "AttributeError",data:=.fields #[.ref h.objs.size,.none,.none,.none,.bool false,.none,Jm,Jm] }:=Bf _ rfl
 show wpAny _ _ _ _ _ ⟨h1.push { cls:=.type "AttributeError",data:=.fields #[.ref h.objs.size,.none,.none,.none,.bool false,.none,Jm,Jm] },g,d,t+1,os⟩
 have k2:∀c o,h1.get? c=some o->(h1.push { cls:=.type "AttributeError",data:=.fields #[.ref h.objs.size,.none,.none,.none,.bool false,.none,Jm,Jm] }).get? c=some o:=λc o q=>Ai _ q
 have k3:∀c o,h1.get? c=some o->c≠h1.objs.size:=λc o q=>Cd (Bg q)
 generalize h1.push { cls:=.type "AttributeError",data:=.fields #[.ref h.objs.size,.none,.none,.none,.bool false,.none,Jm,Jm] }=h2 at g0 k2 ⊢
 refine Aa (wpAny_mkText ?_)
 refine Aa ?_
 unfold noteAttr
 show wpAny _ _ (lacksNameAndObj (.ref h1.objs.size) >>= _) _ _ _
 refine Aa ?_
 unfold lacksNameAndObj
 have ty:(⟨h2,g,d,t+1+1,os⟩ : Aj).TypeIs (.ref h1.objs.size) "AttributeError" := ⟨_,g0,rfl⟩
 refine Aa (Oh ty cD ?_)
 simp only[Bool.not_true,Bx,if_false]
 refine Aa (wpAny_load g0 ?_)
 show wpAny _ _ (pure true) _ _ _
 refine Am ?_
 simp only[if_true]
 refine Aa (Kw ?_)
 refine Aa (La ty ?_)
 show wpAny _ _ (layMembers h1.objs.size 6 _) _ _ _
 unfold layMembers
 refine Aa (wpAny_load g0 ?_)
 refine wpAny_update g0 ?_
 refine wpAny_raiseNew_none hh (hE _ _ _ (λc o q=>?_) (by show t<=t+1+1; omega) ⟨_,Fz _ g0 rfl,rfl⟩)
 exact Heap.get?_update_of_ne _ (k3 c o (k1 c o q)).symm (k2 c o (k1 c o q))
theorem pK(hh:A.handled=none)(hx:h.get? a=some { cls:=.type "zip",dict:=none,data:=.fields fs,slots:=#[] })(hE:∀h' t' e,(∀c o,h.get? c=some o->h'.get? c=some o)->t<=t'->(∃o,h'.get? e=some o/\o.cls=.type "AttributeError")->E (.ref e) ⟨h',g,d,t',os⟩):wpAny (model prog w) A (Builtin.«object.__getattribute__» ⟨[.ref a,.str "keys" tk],[]⟩) Q E ⟨h,g,d,t,os⟩:=by
 have hT:(⟨h,g,d,t,os⟩ : Aj).TypeIs (.ref a) "zip" := ⟨_,hx,rfl⟩
 have f4:=kM
 repeat (any_goals (first | assumption | wp_step))
 exact oW hh (by decide +kernel) hE
theorem uZ(hh:A.handled=none)(hx:h.get? a=some { cls:=.type "zip",dict:=none,data:=.fields fs,slots:=#[] })(hE:∀h' t' e,(∀c o,h.get? c=some o->h'.get? c=some o)->t<=t'->(∃o,h'.get? e=some o/\o.cls=.type "AttributeError")->R (.error (.ref e)) ⟨h',g,d,t',os⟩):Oo (model prog w) A (.call (.builtin "zip.__getattribute__") ⟨[.ref a,.str "keys" tk],[]⟩) R ⟨h,g,d,t,os⟩ :=
 codeAny_call_builtin F.slot_zip_getattribute.plain fZ (F.slot_zip_getattribute.check _ _ _ _ _ _ _ _ (show (⟨h,g,d,t,os⟩ : Aj).TypeIs (.ref a) "zip" from ⟨_,hx,rfl⟩) (F.args_zip_getattribute_2 _ _) (pK hh hx hE))
theorem tL:typeLookup (.type "zip") "__getattr__" = pure none:=by rw[typeLookup_type,builtinLookup_eq_fast]; kernel_rfl
theorem K0(hh:A.handled=none)(hx:h.get? a=some { cls:=.type "zip",dict:=none,data:=.fields fs,slots:=#[] })(hE:∀h' t' e,(∀c o,h.get? c=some o->h'.get? c=some o)->t<=t'->(∃o,h'.get? e=some o/\o.cls=.type "AttributeError")->E (.ref e) ⟨h',g,d,t',os⟩):wpAny (model prog w) A (getAttrBy (.ref a) (.str "keys" tk) false) Q E ⟨h,g,d,t,os⟩:=by
 have hT:(⟨h,g,d,t,os⟩ : Aj).TypeIs (.ref a) "zip" := ⟨_,hx,rfl⟩
 have f2:=F.slot_zip_getattribute.lookup
 have f3:=F.slot_zip_getattribute.bind (.ref a)
 have f5:=tL
 repeat (any_goals (first | assumption | wp_step))
 refine uZ hh hx λh' t' e kp lt he=>?_
 obtain ⟨o,ho,hc⟩:=he
 have ty:(⟨h',g,d,t',os⟩ : Aj).TypeIs (.ref e) "AttributeError" := ⟨_,ho,hc⟩
 have f6:=cD
 have fin:=hE h' t' e kp lt ⟨o,ho,hc⟩
 repeat (any_goals (first | assumption | wp_step))
theorem vB(hh:A.handled=none)(hx:h.get? a=some { cls:=.type "zip",dict:=none,data:=.fields fs,slots:=#[] })(hQ:∀h' t',(∀c o,h.get? c=some o->h'.get? c=some o)->t<=t'->Q none ⟨h',g,d,t',os⟩):wpAny (model prog w) A (getAttr? (.ref a) "keys") Q E ⟨h,g,d,t,os⟩:=by
 unfold getAttr? getAttrBy?
 refine Aa (wpAny_mkText (Aa (Ik (K0 hh hx λh' t' e kp lt he=>?_))))
 obtain ⟨o,ho,hc⟩:=he
 exact Aa (Oh (T := "AttributeError") (b:=true) ⟨o,ho,hc⟩ cD (Am (hQ _ _ kp (Nat.le_of_succ_le lt))))
end
end Nd
namespace Nd
open PySem PySem.Spec PyProof.Rows L2
theorem Rk:entryFor table "dict.update.loop" = some Builtin.«dict.update.loop»:=entryFor_of_tree (by kernel_rfl)
theorem Lb:plainId "dict.update.loop" = true:=by decide +kernel
def V1(h:Heap)(z TI TO i1 i2 l1 l2:Addr)(k:Nat):Prop:=Fh h TI (.ref i1) (.ref i2)/\h.IsListIter i1 l1 k/\h.IsListIter i2 l2 k /\
 ((IsZip h z TI TO .none/\∃u v,Fh h TO u v)\/∃(a:Addr) (oa:Obj) (fl:Bool),ZF h z TI TO (Js (Int.ofNat a)) (.bool fl)/\h.get? a=some oa)
theorem V1.keep{z TI TO i1 i2 l1 l2 D:Addr}(st:V1 h z TI TO i1 i2 l1 l2 k)(hs:∀c,c≠D->h'.get? c=h.get? c)(hD:∃o,h'.get? D=some o)(n:∀c∈[z,TI,TO,i1,i2],c≠D):V1 h' z TI TO i1 i2 l1 l2 k:=by
 obtain ⟨a,b,c,d⟩:=st
 have n1:=n z (by simp)
 have n2:=n TI (by simp)
 have n3:=n TO (by simp)
 have n4:=n i1 (by simp)
 have n5:=n i2 (by simp)
 refine ⟨(hs TI n2).trans a,b.at λo q=>(hs i1 n4).trans q,c.at λo q=>(hs i2 n5).trans q,?_⟩
 rcases d with ⟨d,u,v,e⟩ | ⟨a,oa,fl,d,e⟩
 ·exact .inl ⟨(hs z n1).trans d,u,v,(hs TO n3).trans e⟩
 ·refine .inr ?_
  by_cases q:a=D
  ·obtain ⟨o,ho⟩:=hD
   exact ⟨a,o,fl,(hs z n1).trans d,by rw[q]; exact ho⟩
  ·exact ⟨a,oa,fl,(hs z n1).trans d,(hs a q).trans e⟩
section
variable{prog:Bs}{w:World}{A:Cs}{E:Value->Aj->Prop}{s:Aj}{z TI TO i1 i2 l1 l2:Addr}{k:Nat}{xs ys:Array Value}{x y:Value}{Q:Option Value->Aj->Prop}
theorem q8(D:Rg z TI TO i1 i2 l1 l2)(st:V1 s.heap z TI TO i1 i2 l1 l2 k)(hl1:s.heap.IsList l1 xs)(hl2:s.heap.IsList l2 ys)(hx:xs[k]? = some x)(hy:ys[k]? = some y)(hQ:∀h',V1 h' z TI TO i1 i2 l1 l2 (k+1)->Fh h' s.heap.objs.size x y->(∀c o,c∉[z,TI,TO,i1,i2]->s.heap.get? c=some o->h'.get? c=some o)->Q (some (.ref s.heap.objs.size)) { s with heap:=h' }):wpAny (model prog w) A (Kx (.ref z)) Q E s:=by
 obtain ⟨a,b,c,d⟩:=st
 rcases d with ⟨d,u,v,e⟩ | ⟨a',oa,fl,d,e⟩
 ·refine wpAny_pyNext_zip_item D d a e b c hl1 hl2 hx hy λh' q1 q2 q3 q4 q5 q6 q7=>hQ h' ⟨q7 TI _ D.TIz D.TITO D.TIi1 D.TIi2 a,q3,q4,.inr ⟨_,_,false,q1,q5⟩⟩ q5 λc o hc q=>?_
  simp only[Ah,Av,or_false,not_or] at hc
  exact q7 c o hc.1 hc.2.2.1 hc.2.2.2.1 hc.2.2.2.2 q
 ·refine oA D d e a b c hl1 hl2 hx hy λh' q1 q2 q3 q4 q5 q6=>?_
  have up:∀c o,c∉[z,TI,TO,i1,i2]->s.heap.get? c=some o->h'.get? c=some o:=λc o hc q=>by
   simp only[Ah,Av,or_false,not_or] at hc
   exact q6 c o hc.1 hc.2.2.2.1 hc.2.2.2.2 q
  refine hQ h' ⟨q6 TI _ D.TIz D.TIi1 D.TIi2 a,q2,q3,.inr ?_⟩ q4 up
  by_cases g1:a'=z
  ·subst g1
   exact ⟨a',_,true,q1,q1⟩
  by_cases g2:a'=i1
  ·subst g2
   obtain ⟨o,q,_⟩:=q2
   exact ⟨a',o,true,q1,q⟩
  by_cases g3:a'=i2
  ·subst g3
   obtain ⟨o,q,_⟩:=q3
   exact ⟨a',o,true,q1,q⟩
  exact ⟨a',oa,true,q1,q6 a' _ g1 g2 g3 e⟩
theorem L1(hh:A.handled=none)(D:Rg z TI TO i1 i2 l1 l2)(st:V1 s.heap z TI TO i1 i2 l1 l2 k)(hl1:s.heap.IsList l1 xs)(hl2:s.heap.IsList l2 ys)(he:xs[k]? = none\/ys[k]? = none)(hQ:∀h',(∀c o,c∉[z,TI,TO,i1,i2]->s.heap.get? c=some o->h'.get? c=some o)->Q none { s with heap:=h' }):wpAny (model prog w) A (Kx (.ref z)) Q E s:=by
 obtain ⟨a,b,c,d⟩:=st
 rcases d with ⟨d,u,v,e⟩ | ⟨a',oa,fl,d,e⟩
 ·refine wpAny_pyNext_zip_end hh D d a e b c hl1 hl2 he λh' q7=>hQ h' λc o hc q=>?_
  simp only[Ah,Av,or_false,not_or] at hc
  exact q7 c o hc.1 hc.2.2.1 hc.2.2.2.1 hc.2.2.2.2 q
 ·refine bU hh D d e a b c hl1 hl2 he λh' q6=>hQ h' λc o hc q=>?_
  simp only[Ah,Av,or_false,not_or] at hc
  exact q6 c o hc.1 hc.2.2.2.1 hc.2.2.2.2 q
end
section
variable{X:Cx}{pins:List (Addr×Obj)}{σ:L2.St}{H:Hp}{s:Aj}{a b:Addr}{v:V}{r:Value}{A:Cs}{E:Value->Aj->Prop}{kvs:List (List Hj×V)}{k:List Hj}
theorem pD(hu:A.units+1<cLine)(I:Inv X pins σ H s)(e:H a=some (.dT kvs))(eb:H b=some (.tup (k.map kV)))(l:kvs.length<Au)(rv:RelV v r)(h:∀s',Inv X pins σ (upd H a (.dT (Mr kvs k v))) s'->(∀c,c≠a->s'.heap.get? c=s.heap.get? c)->(∃o,s'.heap.get? a=some o)->Q () s'):wpAny (model X.prog X.w) A (dictSet a (.ref b) r) Q E s:=by
 obtain ⟨z,hd,xs,rel,dd⟩:=wQ I.hok (.inl e)
 have hz:xs.length<=Au:=by rw[<- Paired.length rel]; exact z
 have hl:(Mr kvs k v).length<=Au:=by have:=Ro kvs k v; omega
 refine kI (hz:=hz) (show (Ra _).room A from Nat.lt_of_succ_lt hu) (Ww I.hok eb) dd λh' dd' hs=>?_
 obtain ⟨q,es,ep,hq,h2,h3,h4,_,h5⟩:=dd'
 exact h _ (iY I (by rw[e]; exact Ke) hs ⟨q,hq⟩ ⟨hl,hd,_,(rel.put k eb rv).keeps λc ys ec=>(Cy (sD ec e (λz=>nomatch z))).trans ec,q,es,ep,hq,h2,h3,h4,h5⟩) (λc hc=>hs.2 c hc) ⟨q,hq⟩
theorem vL{z TI TO i1 i2 l1 l2 D:Addr}(hh:A.handled=none)(hu:A.units+2<cLine)(Z:Rg z TI TO i1 i2 l1 l2)(W:Nat->Hp->Prop)(hW:∀i H x y,xs[i]? = some x->ys[i]? = some y->W i H->Mc X.K H l1 xs/\Mc X.K H l2 ys/\∃kvs k p,H D=some (.dT kvs)/\x=.ref p/\H p=some (.tup (k.map kV))/\kvs.length<Au/\W (i+1) (upd H D (.dT (Mr kvs k y))))(hE:∀H,W (min xs.length ys.length) H->Mc X.K H l1 xs/\Mc X.K H l2 ys)(hR:∀H s',W (min xs.length ys.length) H->Inv X pins σ H s'->R (.ok (.ret .none)) s'):∀n i s H,n=min xs.length ys.length - i->i<=min xs.length ys.length->Inv X pins σ H s->V1 s.heap z TI TO i1 i2 l1 l2 i->(∀c∈[z,TI,TO,i1,i2],Mu X pins H c)->W i H->Oo (model X.prog X.w) A (.builtin "dict.update.loop" ⟨[.ref D,.ref z,Js (i:Int),.none],[]⟩) R s:=by
 intro n
 induction n with
 | zero =>
  intro i s H hn hi I st hf w0
  have e:i=min xs.length ys.length:=by omega
  subst e
  obtain ⟨q1,q2⟩:=hE H w0
  obtain ⟨its1,rv1,p1,_⟩:=I.list q1
  obtain ⟨its2,rv2,p2,_⟩:=I.list q2
  have hl1:=rv1.length
  have hl2:=rv2.length
  refine Wk Rk ?_
  rw[My Lb _]
  unfold Builtin.«dict.update.loop»
  refine Aa (L1 (A:=A.in1) hh Z st p1.isList p2.isList ?_ λh' kp=>?_)
  ·by_cases q:xs.length<=min xs.length ys.length
   ·exact .inl (by simp; omega)
   ·exact .inr (by simp; omega)
  have I':=Nh (t':=s.toks) I kp hf
  show wpAny _ _ (Builtin.Dict.addKeywords D [] >>= _) _ _ _
  exact Aa (Am (Am (hR _ _ w0 I')))
 | succ n ih =>
  intro i s H hn hi I st hf w0
  have l1:i<xs.length:=by omega
  have l2:i<ys.length:=by omega
  obtain ⟨q1,q2,kvs,k,p,hD,ex,hp,hz,w1⟩:=hW i H _ _ (Ba l1) (Ba l2) w0
  obtain ⟨its1,rv1,p1,_⟩:=I.list q1
  obtain ⟨its2,rv2,p2,_⟩:=I.list q2
  obtain ⟨u1,hu1,ru1⟩:=rv1.get (Ba l1)
  obtain ⟨u2,hu2,ru2⟩:=rv2.get (Ba l2)
  rw[ex] at ru1
  cases (show u1=Bc p from ru1)
  refine Wk Rk ?_
  rw[My Lb _]
  unfold Builtin.«dict.update.loop»
  refine Aa (q8 (A:=A.in1) Z st p1.isList p2.isList (x:=.ref p) (y:=u2) (by simpa using hu1) (by simpa using hu2) λh' st' hpr kp=>?_)
  have I':=Nh (t':=s.toks) I kp hf
  have nD:∀c∈[z,TI,TO,i1,i2],c≠D:=λc hc e=>by
   have:=(hf c hc).1
   rw[e,hD] at this
   cases this
  refine Aa (Dd ?_)
  refine Aa (Ym ?_)
  unfold Builtin.Dict.pairItems
  have ty:({ s with heap:=h' }:Aj).TypeIs (.ref s.heap.objs.size) "tuple" := ⟨_,hpr,rfl⟩
  refine Aa (La ty ?_)
  rw[if_pos (by decide)]
  refine Aa (Fs hpr rfl (Am ?_))
  show wpAny _ _ (holding [.ref p,u2] (dictSet D (.ref p) u2)) _ _ _
  refine Dd (pD (A:=A.in1) hu I' hD hp hz ru2 λs2 I2 k2 o2=>?_)
  refine Am ⟨On Lb _,?_⟩
  have g:=ih (i+1) s2 _ (by omega) (by omega) I2 (st'.keep k2 o2 nD) (λc hc=>⟨by rw[Cy (nD c hc)]; exact (hf c hc).1,(hf c hc).2⟩) w1
  rw[show ((i+1:Nat):Int)=(i:Int)+1 by omega] at g
  exact g
theorem kY{z TI TO i1 i2 l1 l2:Addr}(hh:A.handled=none)(hu:A.units+8<cLine)(Z:Rg z TI TO i1 i2 l1 l2)(I:Inv X pins σ H1 s)(hz:IsZip s.heap z TI TO .none)(hTI:Fh s.heap TI (.ref i1) (.ref i2))(hTO:∃u v,Fh s.heap TO u v)(h1:s.heap.IsListIter i1 l1 0)(h2:s.heap.IsListIter i2 l2 0)(hf:∀c∈[z,TI,TO,i1,i2],Mu X pins H1 c)(hq:∀D,H1 D=none->∃W:Nat->Hp->Prop,W 0 (upd H1 D (.dT []))/\(∀i H x y,xs[i]? = some x->ys[i]? = some y->W i H->Mc X.K H l1 xs/\Mc X.K H l2 ys/\∃kvs k p,H D=some (.dT kvs)/\x=.ref p/\H p=some (.tup (k.map kV))/\kvs.length<Au/\W (i+1) (upd H D (.dT (Mr kvs k y))))/\∀H,W (min xs.length ys.length) H->Mc X.K H l1 xs/\Mc X.K H l2 ys/\∀s',Inv X pins σ H s'->Q (.ref D) s'):wpAny (model X.prog X.w) A (call (.type "dict") [.ref z]) Q E s:=by
 refine callType_codes (Q₁:=λobj s₁=>obj=.ref s.heap.objs.size/\s₁={ s with heap:=s.heap.push { cls:=.type "dict",data:=.dict #[] } }) F.kt_called_dict (F.kt_typeCall_dict_1 _) F.entry_dict_init (kt_code_dict_new _ ⟨rfl,rfl⟩) ?_
 rintro obj s₁ ⟨rfl,rfl⟩
 have fD:H1 s.heap.objs.size=none:=I.hok.fresh (Ak _)
 obtain ⟨W,w0,hW,hE⟩:=hq s.heap.objs.size fD
 have gQ:({ s with heap:=s.heap.push { cls:=.type "dict",data:=.dict #[] } }:Aj).TypeIs (.ref s.heap.objs.size) "dict" := ⟨_,Bf _ rfl,rfl⟩
 have I3:Inv X pins σ (upd H1 s.heap.objs.size (.dT [])) { s with heap:=s.heap.push { cls:=.type "dict",data:=.dict #[] } } :=
  I.laid (t':=s.toks) (λb u q=>Ai _ q) (Ak _) (kC s.heap I.big)
 have z3:IsZip (s.heap.push { cls:=.type "dict",data:=.dict #[] }) z TI TO .none:=Ai _ hz
 have tyz:({ s with heap:=s.heap.push { cls:=.type "dict",data:=.dict #[] } }:Aj).TypeIs (.ref z) "zip" := ⟨_,z3,rfl⟩
 refine ⟨gQ,F.args_dict_init_2 _ _,?_⟩
 unfold Builtin.«dict.__init__»
 refine Aa ?_
 unfold Builtin.Dict.selfAndRest
 refine Aa (Wp gQ ?_)
 show wpAny _ _ (pure (s.heap.objs.size,[Bc z])) _ _ _
 refine Am ?_
 show wpAny _ _ (Zs "dict.__init__" s.heap.objs.size (.ref z) [] .none) _ _ _
 unfold Zs
 refine Aa (La tyz ?_)
 rw[if_pos (by decide)]
 refine Aa (vB (A:=A.in1.in1) hh z3 λh4 t4 kp4 _=>?_)
 simp only[Option.isNone_none,if_true]
 refine Aa (Kw ?_)
 have z4:IsZip h4 z TI TO .none:=kp4 _ _ z3
 refine Aa (jD z4 ?_)
 have I4:=I3.kept (h':=h4) (t':=t4) kp4
 have up:∀c o,s.heap.get? c=some o->h4.get? c=some o:=λc o q=>kp4 c o (Ai _ q)
 obtain ⟨u,v,hTO⟩:=hTO
 have st4:V1 h4 z TI TO i1 i2 l1 l2 0:=⟨up _ _ hTI,h1.at λo q=>up _ _ q,h2.at λo q=>up _ _ q,.inl ⟨z4,u,v,up _ _ hTO⟩⟩
 have nz:∀c∈[z,TI,TO,i1,i2],c≠s.heap.objs.size:=λc hc=>by
  obtain ⟨o1,e1,_⟩:=h1
  obtain ⟨o2,e2,_⟩:=h2
  simp only[Ah,Av,or_false] at hc
  rcases hc with rfl | rfl | rfl | rfl | rfl
  ·exact Cd (Bg hz)
  ·exact Cd (Bg hTI)
  ·exact Cd (Bg hTO)
  ·exact Cd (Bg e1)
  ·exact Cd (Bg e2)
 refine Am ⟨On Lb _,?_⟩
 exact vL (A:=A.in1) hh (Iw (Pf (show A.in1.units+2<A.units+8 from by show A.units+1+2<A.units+8; omega)) hu) Z W hW (λH w=>⟨(hE H w).1,(hE H w).2.1⟩) (λH s' w I'=>⟨rfl,(hE H w).2.2 s' I'⟩) _ 0 _ _ rfl (Dg _) I4 st4 (λc hc=>⟨by rw[Cy (nz c hc)]; exact (hf c hc).1,(hf c hc).2⟩) w0
end
section
variable{X:Cx}
def r6(K:PySem.W.Frag)(ta:TA):TE:=λσ H Q=>ta σ H λvs H1=>∃l1 l2 xs ys,vs=[.ref l1,.ref l2]/\Mc K H1 l1 xs/\Mc K H1 l2 ys/\∀D,H1 D=none->∃W:Nat->Hp->Prop,W 0 (upd H1 D (.dT [])) /\
   (∀i H x y,xs[i]? = some x->ys[i]? = some y->W i H->Mc K H l1 xs/\Mc K H l2 ys/\∃kvs k p,H D=some (.dT kvs)/\x=.ref p/\H p=some (.tup (k.map kV))/\kvs.length<Au/\W (i+1) (upd H D (.dT (Mr kvs k y)))) /\
   ∀H,W (min xs.length ys.length) H->Mc K H l1 xs/\Mc K H l2 ys/\Q (.ref D) H
theorem vX{p p2 pos pos2:Pos}(hgd:Gl X "dict")(hmd:X.mg "dict" = none)(hg:Gl X "zip")(hm:X.mg "zip" = none)(hc:X.calm=true)(hu:X.A.units+64<cLine)(ha:PA X [a,b] ta)(hs:Bq [a,b] X.env=(false,eval a X.env)::Bq [b] X.env:=by rfl)(hp:(Gu pos (Bq [b] X.env)).any (·.1)=false:=by rfl):PE X (.Call (.Name "dict" p2) [.Call (.Name "zip" p) [a,b] [] pos] [] pos2) (r6 X.K ta):=by
 intro pins s σ H R I h
 refine Call_ (Nv I hgd hmd (u:=.type "dict") (by decide +kernel) (Ey ?_ rfl rfl))
 show wpAny _ _ (spliced ((false,eval (.Call (.Name "zip" p) [a,b] [] pos) X.env)::Gu pos2 (Bq [] X.env))) _ _ s
 refine Ph ?_
 refine Call_ (Nv I hg hm (u:=.type "zip") (by decide +kernel) (Ey (Gk (ha pos pins s σ H _ I h) λus s1 ⟨vs,H1,I1,r1,q1⟩=>?_) hs hp))
 obtain ⟨l1,l2,xs,ys,e,hq1,hq2,q⟩:=q1
 subst e
 obtain ⟨u1,u2,rfl,ru1,ru2⟩:=vals2 r1
 cases ru1
 cases ru2
 obtain ⟨its1,rv1,pl1,hz1⟩:=I1.list hq1
 obtain ⟨its2,rv2,pl2,hz2⟩:=I1.list hq2
 have hlt1:l1<s1.heap.objs.size:=let ⟨o,q,_⟩:=pl1.isList; Bg q
 have hlt2:l2<s1.heap.objs.size:=let ⟨o,q,_⟩:=pl2.isList; Bg q
 refine call_zip_2 pl1.isList pl2.isList λh2 hz hTI hTO hi1 hi2 hsz hk=>?_
 have fr1:∀n,Mu X pins H1 (s1.heap.objs.size+n):=λn=>I1.fpOk (Km _ _) (I1.hok.fresh (Km _ _))
 have fr:∀c∈[s1.heap.objs.size+4,s1.heap.objs.size+2,s1.heap.objs.size+3,s1.heap.objs.size,s1.heap.objs.size+1],Mu X pins H1 c:=λc hc=>by
  simp only[Ah,Av,or_false] at hc
  rcases hc with rfl | rfl | rfl | rfl | rfl
  ·exact fr1 4
  ·exact fr1 2
  ·exact fr1 3
  ·exact fr1 0
  ·exact fr1 1
 refine Ys ?_
 refine kY (xs:=xs) (ys:=ys) (I.ok.hd hc) (by omega) (tJ _ _ _ hlt1 hlt2) (I1.kept (t':=s1.toks) hk) hz hTI ⟨_,_,hTO⟩ hi1 hi2 fr λD hD=>?_
 obtain ⟨W,w0,hW,hE⟩:=q D hD
 exact ⟨W,w0,hW,λH w=>⟨(hE H w).1,(hE H w).2.1,λs' I'=>⟨.ref D,H,I',rfl,(hE H w).2.2⟩⟩⟩
end
end Nd
namespace DL
open PySem PySem.Spec PyProof.Rows L2 Nd
def Rc(acc:List (List Int×Ac))(l:List (List Int×Ac)):List (List Int×Ac):=l.foldl (λa p=>Rn a p.1 p.2) acc
def iE(xs:List DV)(δ:DS)(P:DV->DS->Prop):Prop:=match xs with
 | [.dat _ (.list ds),.dat _ (.list es)]=>ds.length<=1000000/\Dq es=true/\∃ws:List (List Int),ds=ws.map Cn/\P (.dat .ow (.dict (Qz (Rc [] (ws.zip es))))) δ
 | _=>False
def oM(da:DA):DE:=λδ P=>da δ λxs δ'=>iE xs δ' P
theorem fL:∀(l:List (List Int×Ac)) (acc:List (List Int×Ac)),(Rc acc l).length<=acc.length+l.length
 | [],acc=>Ak _
 | p::l,acc=>by
  have h1:=fL l (Rn acc p.1 p.2)
  have h2:=yP acc p.1 p.2
  show (Rc (Rn acc p.1 p.2) l).length<=_
  rw[Br]
  omega
theorem nS{ws:List (List Int)}(h1:ws[i]? = some w)(h2:es[i]? = some e):Rc [] ((ws.zip es).take (i+1))=Rn (Rc [] ((ws.zip es).take i)) w e:=by
 have hz:(ws.zip es)[i]? = some (w,e):=by
  rw[List.getElem?_zip_eq_some]
  exact ⟨h1,h2⟩
 rw[Ju,hz]
 unfold Rc
 rw[List.foldl_append]
 rfl
section
variable{X:Cx}{a b:Expr}{da:DA}{p p2 pos pos2:Pos}
theorem xG{K:PySem.W.Frag}:∀σ H Q,LE K (oM da) σ H Q->r6 K (LA K da) σ H Q:=by
 intro σ H Q h
 obtain ⟨H0,Y,S,T,δ,P,rfl,hS,hA,hd,k⟩:=h
 refine ⟨H0,Y,S,T,δ,_,rfl,hS,hA,hd,λxs δ' As us S' H' e1 e2 ex eu hA' p=>?_⟩
 unfold iE at p
 split at p
 ·rename_i m ds m' es
  obtain ⟨hl,im,ws,rfl,pk⟩:=p
  obtain ⟨v,F,w,G,rfl,hA2⟩:=Vo eu hA' ex
  obtain ⟨a,xs,G1,rfl,ha,ra,rfl,hz⟩:=(hA2.told mem_mid).list_inv
  obtain ⟨b,ys,G2,rfl,hb,rb,rfl,hz2⟩:=(hA2.told El).list_inv
  refine ⟨a,b,xs,ys,rfl,Mc.of ha,Mc.of hb,λD hD=>?_⟩
  have hz3:=jG (n:=1000000) (Ak _)
  have nDa:a≠D:=λz=>by rw[z,hD] at ha; cases ha
  have nDb:b≠D:=λz=>by rw[z,hD] at hb; cases hb
  have l1:ws.length=xs.length:=by have:=ra.len; rw[Ad] at this; exact this.symm
  have l2:=rb.len
  refine ⟨λi H=>H a=some (.lst xs)/\H b=some (.lst ys)/\At K H0 Y δ'.n (⟨some (.ref D),.dT (o8 (Rc [] ((ws.zip es).take i))),[D]⟩::(S'++(⟨some (.ref a),.dat m (.list (ws.map Cn)),a::G1⟩::⟨some (.ref b),.dat m' (.list es),b::G2⟩::T))) H,⟨?_,?_,?_⟩,?_,?_⟩
  ·rw[Cy nDa]; exact ha
  ·rw[Cy nDb]; exact hb
  ·exact hA2.dNew hD
  ·(intro i H x y hx hy q_; obtain ⟨h1,h2,hA3⟩ := q_)
   have li:=(Ap.mp hx).1
   have li2:=(Ap.mp hy).1
   obtain ⟨a2,xs2,F2,ea,ha2,ra2,_,_⟩:=(hA3.told (Ae _ mem_mid)).list_inv
   cases ea
   rw[h1] at ha2
   cases ha2
   obtain ⟨b2,ys2,F3,eb,hb2,rb2,_,_⟩:=(hA3.told (Ae _ El)).list_inv
   cases eb
   rw[h2] at hb2
   cases hb2
   have e1:ws[i]? = some (ws[i]'(by omega)):=Ba _
   have e2:es[i]? = some (es[i]'(by omega)):=Ba _
   obtain ⟨x',Fx,g1,g2,_⟩:=ra2.get (by rw[Be,e1]; rfl)
   rw[hx] at g1
   cases g1
   obtain ⟨p,rfl,hp⟩:=Vu g2
   obtain ⟨y',Fy,g3,g4,_⟩:=rb2.get e2
   rw[hy] at g3
   cases g3
   obtain rfl:=g4.imm (nO.mp im _ (Ax e2))
   obtain ⟨kv,q1,q2,q3⟩:=hA3.dPut (w:=ws[i]'(by omega)) g4
   refine ⟨Mc.of h1,Mc.of h2,kv,Kg _,p,q1,rfl,hp,?_,?_,?_,?_⟩
   ·have:=fL ((ws.zip es).take i) []
    rw[Cw] at this
    rw[Ad] at hl
    rw[q2]
    show _<Au
    have h0:([]:List (List Int×Ac)).length=0:=rfl
    omega
   ·rw[Cy nDa]; exact h1
   ·rw[Cy nDb]; exact h2
   ·rw[nS e1 e2]
    exact q3
  ·(intro H q_; obtain ⟨h1,h2,hA3⟩ := q_)
   refine ⟨Mc.of h1,Mc.of h2,k _ δ' _ [D] S' H e1 e2 ?_ pk⟩
   have et:(ws.zip es).take (min xs.length ys.length)=ws.zip es:=Er (by rw[List.length_zip]; omega)
   rw[et] at hA3
   have hA4:=hA3.dGot
   exact (hA4.sub (((Cr S').append ((Cr T).cons _ |>.cons _)).cons₂ _)).tomid
 ·exact p.elim
theorem vW(hu:X.A.units+64<cLine)(hgd:Gl X "dict")(hmd:X.mg "dict" = none)(hg:Gl X "zip")(hm:X.mg "zip" = none)(hc:X.calm=true)(ha:jJ X [a,b] da)(hs:Bq [a,b] X.env=(false,eval a X.env)::Bq [b] X.env:=by rfl)(hp:(Gu pos (Bq [b] X.env)).any (·.1)=false:=by rfl):Em X (.Call (.Name "dict" p2) [.Call (.Name "zip" p) [a,b] [] pos] [] pos2) (oM da):=PE.imp (vX hgd hmd hg hm hc hu ha hs hp) xG
end
end DL
namespace Nd
open PySem PySem.Spec PyProof.Rows L2
end Nd
namespace DL
open PySem PySem.Spec PyProof.Rows L2 Nd
end DL
namespace Nd
open PySem PySem.Spec PyProof.Rows L2
end Nd
namespace DL
open PySem PySem.Spec PyProof.Rows L2 Nd
end DL
namespace Ts
open PySem PyProof.Rows L2
def Lr(h h':Heap):Prop:=∀b o,h.get? b=some o->h'.get? b=some o
theorem Lr.refl(h:Heap):Lr h h:=λ_ _ e=>e
theorem Lr.trans(x:Lr a b)(y:Lr b c):Lr a c:=λi o e=>y i o (x i o e)
def AI(x y:Keyed):Bool:=decide (numOf x.1<numOf y.1)
section
variable{prog:Bs}{w:World}{A:Cs}{E:Value->Aj->Prop}{s:Aj}
theorem zW:Cmp prog w A s Ud (λx=>∃n t,x.1=.int n t) AI where
 run:=λx y Q E ⟨n,t,ex⟩ ⟨n',t',ey⟩ h=>by
  obtain ⟨x1,x2⟩:=x
  obtain ⟨y1,y2⟩:=y
  simp only at ex ey
  subst ex ey
  rw[keyLt'_oneType]
  exact J9 h
 irr:=λx=>by simp [AI]
 tr:=λx y z h1 h2=>by simp only[AI,decide_eq_true_eq] at *; omega
 neg:=λx y z h=>by simp only[AI,decide_eq_true_eq] at *; omega
variable{a kS:Addr}{vs:List Value}{kz:List Int}{P:PySem.Fin->Aj->Prop}
structure Fresh2(h0:Heap)(h:Heap)(a kS:Addr)(keys:Array Value)(e1:Nat):Prop where
 keep:Lr h0 h
 na:h0.get? a=none
 nk:h0.get? kS=none
 ne:kS≠a
 ga:h.get? a=some (Df "list" #[] e1)
 gk:∃e,h.get? kS=some (Df "list" keys e)
theorem Vx(k:Lr h0 h)(n:h0.get? b=none):Lr h0 (h.update b f):=λi o e =>
 ((Co h b f).2 i (λz=>by rw[z,n] at e; cases e)).trans (k i o e)
theorem Q4{st:Bv}(F:Fresh2 h0 s.heap a kS keys e1)(hk:Kj keys.toList kz)(hlen:kz.length=vs.length)(hz:vs.length<Au)(hp:(arrOf st).Perm (keys.zip vs.toArray))(hs:SortedTo (arrOf st) (arrOf st).size)(hf:Ky st=none)(h:∀h' tk out c,Lr h0 h'->h'.get? a=some (Df "list" out c)->KskOut false kz vs out.toList->P (.done (.ret .none)) { s with heap:=h',toks:=tk }):wpAny (model prog w) A (ksk_tail a false e1 (.ref kS) st) P E s:=by
 obtain ⟨ek,gk⟩:=F.gk
 have l1:=hk.length
 rw[Az] at l1
 have vz:vs.toArray.size=vs.length:=Aq
 have l2:(arrOf st).size=vs.length:=by rw[hp.size_eq,Array.size_zip,vz]; omega
 have ga:(s.heap.update kS (Cq λ_=>(#[]:Array Value))).get? a=some (Df "list" #[] e1):=((Co s.heap kS _).2 a F.ne.symm).trans F.ga
 have out:=ksk_out (b:=false) hk hp hs
 rw[if_neg Bt] at out
 obtain ⟨c2,g2⟩ : ∃c2,((s.heap.update kS (Cq λ_=>(#[]:Array Value))).update a (Cq λ_=>(arrOf st).map (·.2))).get? a=some (Df "list" ((arrOf st).map (·.2)) c2):=⟨_,Ma ga λ_=>(arrOf st).map (·.2)⟩
 unfold ksk_tail
 dsimp only
 refine Aa (Lu gk rfl ?_ (by omega) (Dg _))
 refine Aa (Mm (Aa (Yo ga rfl (Aa (Lu ga rfl ?_ (Dg _) ?_)))))
 ·rw[hf]
  simp only[bne_self_eq_false,Bx,if_false]
  exact Am (h _ _ _ c2 (Vx (Vx F.keep F.nk) F.na) g2 out)
 ·simp only[Bx,if_false,Array.size_map]
  omega
theorem GA(F:Fresh2 h0 s.heap a kS keys e1)(hk:Kj keys.toList kz)(hlen:kz.length=vs.length)(hz:vs.length<Au)(h:∀h' tk out c,Lr h0 h'->h'.get? a=some (Df "list" out c)->KskOut false kz vs out.toList->P (.done (.ret .none)) { s with heap:=h',toks:=tk }):wpAny (model prog w) A (ksk_end a false vs.toArray e1 (.ref kS) keys) P E s:=by
 have l1:=hk.length
 rw[Az] at l1
 have vz:vs.toArray.size=vs.length:=Aq
 have l2:(keys.zip vs.toArray).size=vs.length:=by rw[Array.size_zip,vz]; omega
 unfold ksk_end
 dsimp only
 rw[if_neg Bt]
 by_cases h2:vs.toArray.size<2
 ·rw[if_pos h2,if_pos h2]
  refine Aa (Am ?_)
  rw[StateT.run_pure]
  refine Aa (Am ?_)
  refine Q4 F hk hlen hz (Array.Perm.refl _) (λi j hij hj=>?_) rfl h
  have hj':j<(keys.zip vs.toArray).size:=hj
  rw[l2] at hj'
  rw[Aq] at h2
  obtain rfl:i=j:=by omega
  exact Nt _
 ·rw[if_neg h2,if_neg h2]
  rw[Aq] at h2
  rw[ksk_kind hk (by omega)]
  refine Aa (Am ?_)
  refine Aa (Ft (eM zW (a₀:=keys.zip vs.toArray) (st:=Wl Ud (keys.zip vs.toArray) #[] 7 none) (E:=E)
   (Q:=λ_ st'=>Good0 Ud (keys.zip vs.toArray) st'/\Rj AI (arrOf st') 0 (keys.zip vs.toArray).size) ⟨rfl,rfl,Array.Perm.refl _⟩ (ksk_intKeys hk) rfl (by omega) λst' g as=>⟨g,as⟩) ?_ λ_ _ z=>z)
  (rintro ⟨⟨⟩,st'⟩ s' q_; obtain ⟨rfl,g,as⟩ := q_)
  refine Q4 F hk hlen hz g.perm (λi j hij hj=>?_) g.fail h
  rw[g.size] at hj
  have q:=as i j (Dg _) hij hj
  unfold le AI at q
  have xi:∀k,k<(arrOf st').size->K (arrOf st') k=numOf (X (arrOf st') k).1:=λk hk=>by
   rw[K_eq hk]
   have e1:=Xc (xs:=arrOf st') (i:=k) hk
   rw[jB hk] at e1
   rw[Bp e1]
  have gs:(arrOf st').size=_:=g.size
  have hj0:j<(arrOf st').size:=by rw[gs]; exact hj
  refine Eq.symm (xi i (by omega))▸Eq.symm (xi j hj0)▸?_
  simp only[decide_eq_false_iff_not] at q
  omega
theorem BV(F:Fresh2 h0 s.heap a kS #[] e1)(hlen:kz.length=vs.length)(hz:vs.length<Au)(turn:∀(i:Nat) (v:Value) (k:Int),vs[i]? = some v->kz[i]? = some k->∀(h:Heap) (tk:Nat),Lr h0 h->∀R:Value->Aj->Prop,(∀t h2 tk2,Lr h h2->R (.int k t) { s with heap:=h2,toks:=tk2 })->wpAny (model prog w) A (call f [v]) R (λ_ _=>False) { s with heap:=h,toks:=tk })(h:∀h' tk out c,Lr h0 h'->h'.get? a=some (Df "list" out c)->KskOut false kz vs out.toList->P (.done (.ret .none)) { s with heap:=h',toks:=tk }):wpAny (model prog w) A (ksk_rest a f false vs.toArray e1 (.ref kS)) P E s:=by
 unfold ksk_rest
 refine Aa (Kw ?_)
 rw[<- Wv]
 simp only[List.toList_toArray]
 refine Aa (ksk_fold (λi s'=>∃h' tk kA,s'={ s with heap:=h',toks:=tk }/\Fresh2 h0 h' a kS kA e1/\Kj kA.toList (kz.take i)) vs 0 s ⟨s.heap,s.toks,#[],rfl,F,by simpa using IntsAre.nil⟩ ?_ ?_)
 ·(intro j x s' hx q_; obtain ⟨h',tk,kA,rfl,F',hk⟩ := q_)
  simp only[Pe] at hk ⊢
  have hj:j<vs.length:=(Ap.mp hx).1
  obtain ⟨k,hkj⟩ : ∃k,kz[j]? = some k:=⟨_,Ba (by omega)⟩
  have l1:=hk.length
  rw[Az,Cw] at l1
  refine Aa (Ik (Ft (turn j x k hx hkj h' tk F'.keep (λv s''=>∃t h2 tk2,v=.int k t/\s''={ s with heap:=h2,toks:=tk2 }/\Lr h' h2) λt h2 tk2 q=>⟨t,h2,tk2,rfl,rfl,q⟩) (λv s'' q=>?_) λ_ _ z=>z.elim))
  obtain ⟨t,h2,tk2,rfl,rfl,q⟩:=q
  dsimp only
  obtain ⟨ek,gk⟩:=F'.gk
  have gk2:=q _ _ gk
  refine Aa (Lu gk2 rfl ?_ (by omega) (by rw[Array.size_push]; omega))
  refine Am ⟨rfl,_,_,kA.push (.int k t),rfl,⟨Vx (F'.keep.trans q) F'.nk,F'.na,F'.nk,F'.ne,((Co h2 kS _).2 a F'.ne.symm).trans (q _ _ F'.ga),_,Ma gk2 (·.push (.int k t))⟩,?_⟩
  have e1:kz.take (j+1)=kz.take j++[k]:=by rw[Ju,hkj]; rfl
  rw[Lw,e1]
  exact ksk_snoc hk
 ·(intro s' q_; obtain ⟨h',tk,kA,rfl,F',hk⟩ := q_)
  rw[Pe,Er (by omega)] at hk
  obtain ⟨ek,gk⟩:=F'.gk
  refine Aa (fT gk rfl ?_)
  exact GA (s:={ s with heap:=h',toks:=tk }) F' hk hlen hz λh3 tk3 out c a1 a2 a3=>h h3 tk3 out c a1 a2 a3
theorem iW(hl:s.heap.IsList l vs.toArray)(hlen:kz.length=vs.length)(hz:vs.length<Au)(ha1:argsOk "sorted" ⟨[.ref l],kw⟩)(ha2:∀x,argsOk "list.sort" ⟨[.ref x],kw⟩)(ht:∀x,Builtin.«list.sort» ⟨[.ref x],kw⟩=ksk_tree x f false)(turn:∀(i:Nat) (v:Value) (k:Int),vs[i]? = some v->kz[i]? = some k->∀(h:Heap) (tk:Nat),Lr s.heap h->∀R:Value->Aj->Prop,(∀t h2 tk2,Lr h h2->R (.int k t) { s with heap:=h2,toks:=tk2 })->wpAny (model prog w) A.in1.in1 (call f [v]) R (λ_ _=>False) { s with heap:=h,toks:=tk })(h:∀D h' tk out c,Lr s.heap h'->s.heap.objs.size<=D->h'.get? D=some (Df "list" out c)->KskOut false kz vs out.toList->Q (.ref D) { s with heap:=h',toks:=tk }):wpAny (model prog w) A (call (.builtin "sorted") [.ref l] kw) Q E s:=by
 refine call_function_entry_kw kind_sorted plain_sorted entry_sorted ha1 ?_
 unfold Builtin.«sorted»
 refine Aa (m:=checkCount "sorted" 1 1 _) (Am (Aa (collect_list hl (Aa (cN ?_ (by omega))) (by omega))))
 have z1:((s.heap.push (Df "list" #[] 0)).update s.heap.objs.size (Cq (·++vs.toArray))).objs.size=s.heap.objs.size+1:=by rw[Ii,Vb]
 have g1:(((s.heap.push (Df "list" #[] 0)).update s.heap.objs.size (Cq (·++vs.toArray))).push (Df "list" vs.toArray 0)).get? (s.heap.objs.size+1)=some (Df "list" vs.toArray 0):=by
  rw[<- z1]
  exact Bf _ rfl
 have kept:Lr s.heap (((s.heap.push (Df "list" #[] 0)).update s.heap.objs.size (Cq (·++vs.toArray))).push (Df "list" vs.toArray 0)):=λb o e =>
  Ai _ (((Co _ _ _).2 b (Cd (Bg e))).trans (Ai _ e))
 show wpAny _ _ _ _ _ { s with heap:=((s.heap.push (Df "list" #[] 0)).update s.heap.objs.size (Cq (·++vs.toArray))).push (Df "list" vs.toArray 0) }
 rw[z1]
 generalize hH:((s.heap.push (Df "list" #[] 0)).update s.heap.objs.size (Cq (·++vs.toArray))).push (Df "list" vs.toArray 0)=H1 at g1 kept
 have none_:∀b,s.heap.objs.size<=b->s.heap.get? b=none:=λb hb=>Heap.get?_none_of_le hb
 refine Aa (Dd (wpAny_call_entry_kw slot_list_sort ⟨_,g1,rfl⟩ entry_list_sort ?_ (ha2 _)))
 show wpAny (model prog w) A.in1.in1 (Builtin.«list.sort» ⟨[.ref (s.heap.objs.size+1)],kw⟩) _ _ _
 rw[ht]
 unfold ksk_tree
 have lt:s.heap.objs.size+1<H1.objs.size:=Bg g1
 obtain ⟨ep,g2⟩ : ∃ep,(H1.update (s.heap.objs.size+1) (Cq λ_=>(#[]:Array Value))).get? (s.heap.objs.size+1)=some (Df "list" #[] ep):=⟨_,Ma g1 λ_=>#[]⟩
 have k2:Lr s.heap (H1.update (s.heap.objs.size+1) (Cq λ_=>(#[]:Array Value))):=Vx kept (none_ _ (by omega))
 refine Aa (fT g1 rfl (Aa (Lu g1 rfl ?_ (by rw[Aq]; omega) (Dg _))))
 refine Aa (Yo g2 rfl (Aa (Yn (Aa (cN (Dd ?_) (Dg _))) (by show vs.length<=_; omega))))
 have e3:((H1.update (s.heap.objs.size+1) (Cq λ_=>(#[]:Array Value))).push (Df "tuple" vs.toArray 0)).objs.size=H1.objs.size+1:=by rw[Vb,Ii]
 have sz:s.heap.objs.size<H1.objs.size:=by omega
 refine BV (s:={ s with heap:=((H1.update (s.heap.objs.size+1) (Cq λ_=>(#[]:Array Value))).push (Df "tuple" vs.toArray 0)).push (Df "list" #[] 0) }) (h0:=s.heap) (a:=s.heap.objs.size+1)
  (kS:=((H1.update (s.heap.objs.size+1) (Cq λ_=>(#[]:Array Value))).push (Df "tuple" vs.toArray 0)).objs.size)
  ⟨λb o e=>Ai _ (Ai _ (k2 b o e)),none_ _ (by omega),none_ _ (by rw[e3]; omega),λz=>(by have:=e3.symm.trans z; omega),Ai _ (Ai _ g2),0,Bf _ rfl⟩ hlen hz turn ?_
 intro h' tk out c a1 a2 a3
 exact ⟨_,rfl,Am ⟨_,rfl,h _ h' tk out c a1 (Vf _) a2 a3⟩⟩
end
end Ts
namespace DL
open PySem PySem.Spec PyProof.Rows L2 Nd Ts
def nK(K:PySem.W.Frag):V->Hp->VK->Prop:=λx H Q=>∃(p:Addr) (rs:List Addr) (kf:Addr->Nat),x=.ref p/\rs.length<Au/\Mc K H p (rs.map V.ref)/\(∀r∈rs,∃ys,Uh K H r ys/\ys.length=kf r) /\
 ∀(a:Addr) (rs':List Addr),H a=none->rs'.Perm rs->rs'.Pairwise (λx y=>kf x<=kf y)->Q (.ref a) (upd H a (.lst (rs'.map V.ref)))
theorem F8{a b:List Addr}(h:(a.map Bc).Perm (b.map Bc)):a.Perm b:=by
 have:=h.map (λx:Value=>match x with | .ref a=>a | _=>0)
 rw[Ce,Ce] at this
 simpa [Wn] using this
theorem lI{kf:Addr->Nat}(h:KskOut false (rs.map λr=>(kf r:Int)) (rs.map Bc) out):∃rs':List Addr,out=rs'.map Bc/\rs'.Perm rs/\rs'.Pairwise λx y=>kf x<=kf y:=by
 obtain ⟨ps,h1,rfl,h3⟩:=h
 have e:(rs.map λr=>(kf r:Int)).zip (rs.map Bc)=rs.map λr=>((kf r:Int),Bc r):=List.zip_map' ..
 rw[e] at h1
 have each:∀p∈ps,∃r∈rs,p=((kf r:Int),Bc r):=λp hp=>by
  obtain ⟨r,hr,e⟩:=Bu.mp (h1.mem_iff.mp hp)
  exact ⟨r,hr,e.symm⟩
 have ex:∀l:List (Int×Value),(∀p∈l,∃r∈rs,p=((kf r:Int),Bc r))->∃rs':List Addr,l=rs'.map λr=>((kf r:Int),Bc r):=by
  intro l
  induction l with
  | nil=>exact λ_=>⟨[],rfl⟩
  | cons p l ih =>
   intro hl
   obtain ⟨r,_,rfl⟩:=hl p Ab
   obtain ⟨rs',rfl⟩:=ih λx hx=>hl x (Ae _ hx)
   exact ⟨r::rs',rfl⟩
 obtain ⟨rs',rfl⟩:=ex ps each
 have p2:=h1.map Prod.snd
 rw[Ce,Ce] at p2
 refine ⟨rs',by rw[Ce]; rfl,F8 p2,?_⟩
 have h4:(rs'.map λr=>((kf r:Int),Bc r)).Pairwise (λp q=>p.1<=q.1):=h3
 rw[List.pairwise_map] at h4
 exact h4.imp λq=>by simpa using q
section
variable{X:Cx}{pins:List (Addr×Obj)}{σ:List (Option V)}{H:Hp}{s:Aj}
theorem nZ(I:Inv X pins σ H s)(ru:RelV x u)(h:nK X.K x H Q):wpAny (model X.prog X.w) X.A (call (.builtin "sorted") [u] [(Dr "key",.builtin "len")]) (EP X pins σ Q) X.xe s:=by
 obtain ⟨p,rs,kf,rfl,hz,hp,hx,q⟩:=h
 cases ru
 obtain ⟨its,rv,pl,_⟩:=I.list hp
 have e:=Xg rv
 subst e
 have hs:Au=16777216:=Jo
 refine iW (vs:=rs.map Bc) (kz:=rs.map λr=>(kf r:Int)) (f:=.builtin "len") pl.isList (by rw[Ad,Ad]) (by rw[Ad]; exact hz) (ksk_s1 _ _) (λx=>ksk_l1 _ _) (λx=>ksk_t4 _ _) (λi v k hv hk h tk hkeep R hR=>?_) λD h' tk out c k1 k2 k3 k4=>?_
 ·rw[Be] at hv hk
  cases hr:rs[i]? with
  | none=>rw[hr] at hv; cases hv
  | some r =>
   rw[hr] at hv hk
   cases hv
   cases hk
   obtain ⟨ys,hq,hy⟩:=hx r (Ax hr)
   obtain ⟨its,r',pl',hz'⟩:=I.tuple hq
   obtain ⟨o,ho,hcl,nn,hd⟩:=pl'
   have hlen:=r'.length
   have hil:IsTup h r its.toArray:=⟨o,hkeep r o ho,hcl,nn,hd⟩
   refine len_tuple hil (by simp only[Aq]; omega) ?_
   simp only[Aq]
   rw[<- hlen,hy]
   exact hR _ h _ (Lr.refl h)
 ·obtain ⟨rs',e1,p1,p2⟩:=lI k4
  have eo:out=(rs'.map Bc).toArray:=by rw[<- e1,Array.toArray_toList]
  subst eo
  refine ⟨.ref D,upd H D (.lst (rs'.map V.ref)),I.laid (t':=tk) k1 k2 ⟨?_,_,c,Xn rs',k3⟩,rfl,q D rs' (I.hok.fresh k2) p1 p2⟩
  rw[Ad,p1.length_eq]
  omega
variable{e:Expr}{t:TA}{p1 p2 kp pos:Pos}
theorem zX(hg:Gl X "sorted")(hm:X.mg "sorted" = none)(hg2:Gl X "len")(hm2:X.mg "len" = none)(ha:PA X [e] t)(hs:Bq [e] X.env=[(false,eval e X.env)]:=by rfl):PE X (.Call (.Name "sorted" p1) [e] [⟨some "key",.Name "len" p2,kp⟩] pos) (EV (λxs H Q=>∃x,xs=[x]/\nK X.K x H Q) t):=by
 intro pins s σ H Q I h
 refine Jr (Nv I hg hm (u:=.builtin "sorted") (by decide +kernel) ?_)
 refine Zc (Gk (ha pos pins s σ H _ I h) λus s1 ⟨vs,H1,I1,r1,q1⟩=>?_) (by rw[hs]; rfl) (by rw[hs]; rfl)
 obtain ⟨x,rfl,q⟩:=q1
 obtain ⟨u,rfl,ru⟩:=vals1 r1
 refine kws_cons (Nv I1 hg2 hm2 (u:=.builtin "len") (by decide +kernel) (kws_nil ?_))
 exact nZ I1 ru q
end
def Zk:DC:=λxs P=>match xs with
 | [.dat _ (.list ds)]=>∃ws:List (List Int),ds=ws.map Cn/\ws.length<Au/\∀L:List (List Int),L.Perm ws->L.Pairwise (λx y=>x.length<=y.length)->P (.dat .ow (.list (L.map Cn)))
 | _=>False
section
variable{K:PySem.W.Frag}
theorem r9:Na K (λxs H Q=>∃x,xs=[x]/\nK K x H Q) Zk:=by
 intro H0 X n S T As us H Q P eu hA hd k
 unfold Zk at hd
 split at hd
 ·rename_i ex
  obtain ⟨v,F,rfl,hA⟩:=Gh eu hA ex
  obtain ⟨ws,rfl,hz0,h1⟩:=hd
  obtain ⟨a,xs,G,rfl,ha,ra,rfl,hz⟩:=(hA.told mem_mid).list_inv
  obtain ⟨rs,rfl,rfl,rfl,c1,c2⟩:=kK ra rfl
  rw[Ad] at hz0
  refine ⟨_,rfl,a,rs,λr=>(N9 H r).length,rfl,hz0,Mc.of ha,λr hr=>⟨_,Uh.of (c1 r hr),Ad ..⟩,λq rs' nq pe pw=>?_⟩
  refine k _ _ _ _ (hA.drop.newI (bY λr hr=>c2 r (pe.mem_iff.mp hr)) (bF _) (by rw[Ad,Ad,pe.length_eq]; simpa using hz) nq .ow) (h1 _ (pe.map _) (Zd.mpr pw))
 ·exact hd.elim
variable{X:Cx}{e:Expr}{da:DA}{p1 p2 kp pos:Pos}
theorem yM(hg:Gl X "sorted")(hm:X.mg "sorted" = none)(hg2:Gl X "len")(hm2:X.mg "len" = none)(ha:jJ X [e] da)(hs:Bq [e] X.env=[(false,eval e X.env)]:=by rfl):Em X (.Call (.Name "sorted" p1) [e] [⟨some "key",.Name "len" p2,kp⟩] pos) (AL Zk da):=PE.imp (zX hg hm hg2 hm2 ha hs) (rB r9)
end
end DL
namespace DL
open PySem PySem.Spec PyProof.Rows L2 Nd
def Qc(i:Int):Hj:=Rb i
def Pn(ks:List (Int×Ac))(w:Int):Option Ac:=(ks.find? λp=>decide (p.1=w)).map (·.2)
def lY(ks:List (Int×Ac))(w:Int)(d:Ac):List (Int×Ac) :=
 if (ks.any λp=>decide (p.1=w))=true then ks.map (λp=>if p.1=w then (p.1,d) else p) else ks++[(w,d)]
theorem Vw(h:Yu a=Yu b):a=b:=Qp (λx y e=>by
 obtain ⟨e1,e2⟩:=Prod.mk.inj e
 exact Prod.ext (PyData.int.inj e1) e2) (Do h).2
theorem aV(h:Qc a=Qc b):a=b:=Sum.inl.inj h
section
variable{K:PySem.W.Frag}{H H':Hp}
structure IRel(K:PySem.W.Frag)(H:Hp)(kv:List (Hj×V))(ks:List (Int×Ac)):Prop where
 key:kv.map (·.1)=ks.map λp=>Qc p.1
 val:RdFs K H (kv.map (·.2)) (ks.map (·.2)) []
theorem RdF.dicI_inv(h:RdF K H v (.dict X) F)(hX:tQ X=true:=by first | rfl | assumption):∃a kv ks,v=.ref a/\X=Yu ks/\H a=some (.dK kv)/\IRel K H kv ks/\F=[a]:=by
 cases h with
 | dic h e' hs=>cases hX
 | dnm h e' hs=>cases hX
 | dik h e' hs=>exact ⟨_,_,_,rfl,rfl,h,⟨e',hs⟩,rfl⟩
theorem RdF.int_at(h:RdF K H v (.int i) F):v=kV (Qc i):=by
 cases h; rfl
theorem yL(r:IRel K H kv ks):kv.length=ks.length:=by
 have:=congrArg Fb r.key
 simpa using this
theorem lC(w:Int):∀{kv:List (Hj×V)} {ks:List (Int×Ac)},IRel K H kv ks->(Tv kv (Qc w)=none/\Pn ks w=none)\/∃v d,Tv kv (Qc w)=some v/\Pn ks w=some d/\RdF K H v d []
 | [],[],_=>.inl ⟨rfl,rfl⟩
 | [],_::_,r=>by cases r.key
 | _::_,[],r=>by cases r.key
 | (k,v)::kv,(u,d)::ks,r=>by
  obtain ⟨e1,e2⟩:=Do r.key
  have e1:k=Qc u:=e1
  obtain ⟨r1,r2⟩:=RdFs.cons_nil r.val rfl
  by_cases h:u=w
  ·subst h e1
   refine .inr ⟨v,d,Rt rfl,by simp [Pn],r1⟩
  ·have hk:¬ k=Qc w:=λz=>h (aV (e1.symm.trans z))
   rw[Rl hk,show Pn ((u,d)::ks) w=Pn ks w by simp [Pn,h]]
   exact lC w ⟨e2,r2⟩
theorem yK(w:Int)(r:IRel K H kv ks):(kv.any λp=>decide (p.1=Qc w))=(ks.any λp=>decide (p.1=w)):=by
 have h1:(kv.any λp=>decide (p.1=Qc w))=((kv.map (·.1)).any λk=>decide (k=Qc w)):=by rw[Sj]; rfl
 rw[h1,r.key,Sj]
 congr 1
 funext p
 exact decide_eq_decide.mpr ⟨λz=>aV z,λz=>by show Qc p.1=Qc w; rw[z]⟩
theorem eX(w:Int)(rv:RdF K H v d []):∀{kv:List (Hj×V)} {ks:List (Int×Ac)},IRel K H kv ks->IRel K H (kv.map λp=>if p.1=Qc w then (p.1,v) else p) (ks.map λp=>if p.1=w then (p.1,d) else p)
 | [],[],r=>r
 | [],_::_,r=>by cases r.key
 | _::_,[],r=>by cases r.key
 | (k,v')::kv,(u,d')::ks,r=>by
  obtain ⟨e1,e2⟩:=Do r.key
  have e1:k=Qc u:=e1
  obtain ⟨r1,r2⟩:=RdFs.cons_nil r.val rfl
  have ih:=eX w rv (kv:=kv) (ks:=ks) ⟨e2,r2⟩
  rw[Aw,Aw]
  by_cases h:u=w
  ·rw[if_pos (show k=Qc w by rw[e1,h]),if_pos h]
   exact ⟨by rw[Aw,Aw,ih.key]; exact congrArg (·::_) e1,RdFs.cons (F:=[]) (G:=[]) rv ih.val⟩
  ·have hk:¬ k=Qc w:=λz=>h (aV (e1.symm.trans z))
   rw[if_neg (show ¬ (k,v').1=Qc w from hk),if_neg (show ¬ (u,d').1=w from h)]
   exact ⟨by rw[Aw,Aw,ih.key]; exact congrArg (·::_) e1,RdFs.cons (F:=[]) (G:=[]) r1 ih.val⟩
theorem xX(w:Int)(rv:RdF K H v d [])(r:IRel K H kv ks):IRel K H (Mr kv (Qc w) v) (lY ks w d):=by
 unfold Mr lY
 rw[yK w r]
 split
 ·exact eX w rv r
 ·refine ⟨by rw[Bi,Bi,r.key]; rfl,?_⟩
  rw[Bi,Bi]
  exact r.val.snoc rv
end
def O0:DE:=λδ P=>P (.dat .ow (.dict (Yu []))) δ
theorem At.newI9{K:PySem.W.Frag}(h:At K H0 X n (S++T) H)(hp:H p=none):At K H0 X n (S++⟨some (.ref p),.dat .ow (.dict (Yu [])),[p]⟩::T) (upd H p (.dK [])):=by
 have s1:=Dl hp (.dK [])
 refine ((h.grow (n':=n) s1 (Ak _)).push (e:=⟨some (.ref p),.dat .ow (.dict (Yu [])),[p]⟩) ⟨_,rfl,.dik Cp rfl .nil,λ_=>By.mpr ⟨Av,Dc⟩,λz=>nomatch z⟩ (λf hf=>?_) λa ha=>?_).tomid
 ·have nf:=h.free hp f hf
  refine ⟨λ_ a ha z=>?_,λ_ a ha z=>?_⟩
  ·rw[Af.mp ha] at z
   exact nf z
  ·rw[Af.mp z] at ha
   exact nf (En _ _ ha)
 ·rw[Af.mp ha]
  exact .inl (h.new0 hp)
theorem L9:Em X (.Dict [] [] pos) O0:=by
 refine PE.imp yC λσ H Q h=>?_
 obtain ⟨H0,Y,S,T,δ,P,rfl,hS,hA,hd,k⟩:=h
 exact λp hp=>k _ δ _ _ S _ rfl hS (hA.newI9 hp) hd
theorem At.writeI9{K:PySem.W.Frag}{H0 H:Hp}{X:Addr->Prop}(h:At K H0 X n (⟨v,.dat .ow (.dict (Yu ks)),[a]⟩::E) H)(hv:v=some (.ref a))(np:∀e∈E,Le e.x=false)(r:IRel K H kv' ks'):At K H0 X n (⟨v,.dat .ow (.dict (Yu ks')),[a]⟩::E) (upd H a (.dK kv')):=by
 obtain ⟨w,e1,rd,hn,ht⟩:=h.ok _ Ab
 obtain ⟨b,kv,ks0,e2,ek,ha,_,eF⟩:=rd.dicI_inv
 have eF':[a]=[b]:=eF
 cases eF'
 have hs:=Bb.mp h.sep
 have kp:∀{F':List Addr},a∉F'->Kp F' H (upd H a (.dK kv')):=λ{F'} hF b o q z=>by
  have : b≠a:=by
   rintro rfl
   rw[ha] at q
   cases q
   rcases z with z | z
   ·exact hF z
   ·rcases z with ⟨_,z⟩ | ⟨_,_,z⟩ <;> cases z
  rw[Cy this]
  exact q
 have n0:H0 a=none:=by
  rcases h.new _ Ab a Ab with z | z
  ·exact z
  ·cases z.2
 refine ⟨λf hf=>?_,Bb.mpr ⟨λf hf=>⟨λhq c hc=>(hs.1 f hf).1 (.inl (np f hf)) c hc,λhq c hc=>(hs.1 f hf).2 (.inl rfl) c hc⟩,hs.2⟩,λf hf=>?_,λb o nx q=>?_,λb o q=>?_,λb hb=>?_⟩
 ·rcases Ah.mp hf with rfl | hf
  ·exact ⟨.ref a,hv,.dik Cp r.key (r.val.kp (kp Av)),λ_=>By.mpr ⟨Av,Dc⟩,λz=>nomatch z⟩
  ·exact (h.ok f (Ae _ hf)).kp (kp ((hs.1 f hf).1 (.inl (np f hf)) a Ab)) (Ak _)
 ·rcases Ah.mp hf with rfl | hf
  ·exact λc hc=>h.new _ Ab c hc
  ·exact h.new f (Ae _ hf)
 ·rw[Cy (Dw q n0)]
  exact h.same b o nx q
 ·rw[Cy (Dw q n0)]
  exact h.dom b o q
 ·obtain ⟨z,c,k,f,h1,h2⟩:=h.xd b hb
  refine ⟨z,c,k,f,(Cy ?_).trans h1,h2⟩
  rintro rfl
  exact z n0
theorem gJ{K:PySem.W.Frag}(hS:Sl S δ)(hT:∀e∈T,Le e.x=false)(hA:At K H0 X δ.n (S++T) H)(hi:δ.sl[i]? = some (.dat .ow (.dict (Yu ks))))(np:npk δ.sl=true):∃a kv,(vs S)[i]? = some (some (.ref a))/\H a=some (.dK kv)/\IRel K H kv ks/\∀kv',IRel K H kv' ks'->∃S',vs S'=vs S/\Sl S' ⟨δ.sl.set i (.dat .ow (.dict (Yu ks'))),δ.n⟩/\At K H0 X δ.n (S'++T) (upd H a (.dK kv')):=by
 obtain ⟨ent,e2,e3⟩:=Hh hS hi
 have hm:ent∈S:=Ax e2
 obtain ⟨u,x,F⟩:=ent
 have e3':x=.dat .ow (.dict (Yu ks)):=e3
 subst e3'
 obtain ⟨v,hv,rd,_⟩:=hA.ok _ (Ao _ hm)
 obtain ⟨a,kv,ks0,rfl,ek,ha,rel,eF⟩:=rd.dicI_inv
 obtain rfl:=Vw ek
 have eF':F=[a]:=eF
 subst eF'
 refine ⟨a,kv,by rw[Lp e2]; exact congrArg some hv,ha,rel,λkv' r=>?_⟩
 have hn:=aC hS np
 have h1:=(hA.perm ((Jj e2).append_right T)).writeI9 (ks':=ks') (kv':=kv') hv (λe he=>?_) r
 ·refine ⟨S.set i ⟨u,.dat .ow (.dict (Yu ks')),[a]⟩,?_,?_,h1.perm ((Nn e2).append_right T).symm⟩
  ·unfold vs
   rw[Es]
   apply Hr
   intro j
   rw[Ho]
   split
   ·rename_i hij
    subst hij
    rw[Be,e2]
    split
    ·rfl
    ·rename_i hj
     rw[Ad] at hj
     exact absurd (Ap.mp e2).1 hj
   ·rfl
  ·unfold Sl at hS ⊢
   rw[Es,hS]
 ·rcases Ay.mp he with he | he
  ·exact hn e ((Mq S i).subset he)
  ·exact hT e he
def iputB(i:Nat)(y z:DV)(δ:DS)(D:DEnds):Prop:=match δ.sl[i]?,y,z with
 | some (.dat .ow (.dict X)),.dat _ e,.dat _ k=>npk δ.sl=true/\imm e=true/\∃ks w,X=Yu ks/\k=.int w/\ks.length<1000000/\D.nx ⟨δ.sl.set i (.dat .ow (.dict (Yu (lY ks w e)))),δ.n⟩
 | _,_,_=>False
def isIct:Option DV->Bool
 | some (.dat _ (.dict X))=>tQ X
 | _=>false
def N7(i:Nat)(dk de:DE):DB:=λD δ=>de δ λy δ1=>isIct δ1.sl[i]? = true/\dk δ1 λz δ2=>iputB i y z δ2 D
section
variable{X:Cx}{o i e:Expr}{dk de:DE}{apos cpos pos pos':Pos}{n:Nat}
theorem zO{K:PySem.W.Frag}(hS:Sl S δ)(hA:At K H0 Y δ.n (S++T) H)(hi:isIct δ.sl[n]? = true):∃a kv,(vs S)[n]? = some (some (.ref a))/\H a=some (.dK kv):=by
 cases q:δ.sl[n]? with
 | none=>rw[q] at hi; cases hi
 | some x =>
  rw[q] at hi
  obtain ⟨ent,e2,e3⟩:=Hh hS q
  obtain ⟨u,y,F⟩:=ent
  have e3':y=x:=e3
  subst e3'
  have hm:(⟨u,y,F⟩ : Ent)∈S:=Ax e2
  match y,hi with
  | .dat m (.dict X),hi =>
   have hX:tQ X=true:=hi
   obtain ⟨v,hv,rd,_⟩:=hA.ok _ (Ao _ hm)
   obtain ⟨a,kv,ks,rfl,_,ha,_⟩:=rd.dicI_inv
   exact ⟨a,kv,by rw[Lp e2]; exact congrArg some hv,ha⟩
theorem F6(hu:X.A.units+64<cLine)(ho:PE X o (cJ n))(hi:Em X i dk)(he:Em X e de)(hs:Kd e (some (.Subscript o i pos')) pos.line X.env=pure false:=by rfl):qB X (.Assign [.Subscript o i pos'] e pos) (N7 n dk de):=by
 refine PS.impD (qD (DY hu) ho hi he hs) λD σ H h=>?_
 obtain ⟨H0,Y,S,T,δ,P,rfl,hS,hT,hA,hd,k1,k2,k3,k4⟩:=h
 refine ⟨H0,Y,S,T,δ,_,rfl,hS,hA,hd,λy δ1 v F S1 H1 e1 e2 hA1 p1=>?_⟩
 obtain ⟨p1,p2⟩:=p1
 obtain ⟨a,kv,hv,ha⟩:=zO e2 hA1.drop p1
 rw[e1] at hv
 refine ⟨.ref a,hv,H0,Y,S1,⟨some v,y,F⟩::T,δ1,_,e1,e2,hA1,p2,λz δ2 w G S2 H2 e3 e4 hA2 p3=>?_⟩
 unfold iputB at p3
 split at p3
 ·rename_i X0 m1 d m2 k hsl
  obtain ⟨p3,p4,ks,u,rfl,rfl,p5,p6⟩:=p3
  obtain rfl:=(hA2.told mem_mid).int_at
  have r:=hA2.told El
  obtain rfl:=r.imm p4
  obtain ⟨a',kv',g1,g2,g3,g4⟩:=gJ (ks':=lY ks u d) e4 hT hA2.drop2 hsl p3
  rw[e3,hv] at g1
  cases g1
  obtain ⟨S3,h1,h2,h3⟩:=g4 (Mr kv' (Qc u) v) (xX u r g3)
  refine ⟨a,_,rfl,J3.k g2 (by rw[yL g3]; exact Cc p5 (jG (n:=1000000) (Ak _))),?_⟩
  rw[<- e3,<- h1]
  exact k1 ⟨_,_⟩ S3 _ h2 h3 p6
 ·exact p3.elim
end
def pY(x y z:DV)(δ:DS)(P:DV->DS->Prop):Prop:=match x,y,z with
 | .dat _ (.dict X),.dat _ k,.dat _ e=>∃(ks:List (Int×Ac)) (w:Int),X=Yu ks/\k=.int w/\imm e=true/\P (.dat .ow ((Pn ks w).getD e)) δ
 | _,_,_=>False
def wF:DV->Bool
 | .dat _ (.dict X)=>tQ X
 | _=>false
def xD(da dk dz:DE):DE:=λδ P=>da δ λx δ1=>wF x=true/\dk δ1 λy δ2=>dz δ2 λz δ3=>pY x y z δ3 P
section
variable{K:PySem.W.Frag}
theorem B5:∀σ H Q,LE K (xD da dk dz) σ H Q->yW (LE K da) (LE K dk) (LE K dz) σ H Q:=by
 intro σ H Q h
 obtain ⟨H0,Y,S,T,δ,P,rfl,hS,hA,hd,k⟩:=h
 refine ⟨H0,Y,S,T,δ,_,rfl,hS,hA,hd,λx δ1 v F S1 H1 e1 e2 hA1 p1=>?_⟩
 obtain ⟨hx,p1⟩:=p1
 match x,hx with
 | .dat m (.dict X),hx =>
  have hX:tQ X=true:=hx
  obtain ⟨a,kv,ks',rfl,rfl,ha,rel,_⟩:=(hA1.told mem_mid).dicI_inv
  refine ⟨a,rfl,.inl ⟨kv,.inl ha⟩,H0,Y,S1,_::T,δ1,_,e1,e2,hA1,p1,λy δ2 v2 F2 S2 H2 e3 e4 hA2 p2=>?_⟩
  refine ⟨H0,Y,S2,_::_::T,δ2,_,e3,e4,hA2,p2,λz δ3 v3 F3 S3 H3 e5 e6 hA3 p3=>?_⟩
  unfold pY at p3
  split at p3
  ·rename_i hx'
   obtain ⟨ks,w,ek,rfl,im,p⟩:=p3
   have m3:∀{e f g:Ent},g∈S3++e::f::g::T:=λ{e f g}=>Al _ (Ae _ (Ae _ Ab))
   obtain ⟨a',kv',ks2,ea,ek2,ha',rel',_⟩:=(hA3.told m3).dicI_inv
   cases ea
   cases hx'
   obtain rfl:=Vw ek2
   obtain rfl:=Vw ek
   obtain rfl:=(hA3.told El).int_at
   have r:=hA3.told mem_mid
   obtain rfl:=r.imm im
   refine ⟨_,lG.k ha',?_⟩
   rcases lC w rel' with ⟨h1,h2⟩ | ⟨v',d',h1,h2,h3⟩
   ·rw[h1]
    rw[h2] at p
    exact k _ δ3 _ [] S3 H3 e5 e6 (hA3.drop2.drop.pushI r) p
   ·rw[h1]
    rw[h2] at p
    exact k _ δ3 _ [] S3 H3 e5 e6 (hA3.drop2.drop.pushI h3) p
  ·exact p3.elim
end
section
variable{X:Cx}{o e f:Expr}{de dk dz:DE}{p apos cpos pos:Pos}
theorem sL(hu:X.A.units+64<cLine)(ho:Em X o de)(he:Em X e dk)(hf:Em X f dz)(m:M2 X o "get" apos e f cpos):Em X (.Call (.Attribute o "get" apos) [e,f] [] cpos) (xD de dk dz):=PE.imp (vK (DY hu) ho he hf m) B5
end
end DL
namespace Nd
open PySem PySem.Spec PyProof.Rows L2
def AW(bt:Nat->Nat->Bool)(P:Nat->Value->Prop)(j:Nat)(its:Array Value):Prop:=(j=0/\its=#[])\/∃i v,j=i+1/\P (argBest bt i) v/\its=#[v,v]
section
variable{prog:Bs}{w:World}{A:Cs}{R:Result->Aj->Prop}{I:Addr}{fp wr:List Addr}{n:Nat}{P:Nat->Value->Prop}{St:Nat->Heap->Prop}
theorem uR(W:Walks prog w A.in1 I fp wr n P St)(bt:Nat->Nat->Bool)(hcmp:CmpOf prog w A.in1 .Gt P bt)(S:Addr)(hSf:S∉fp)(d:Value):∀(k j:Nat) (s:Aj) (its:Array Value) (c:Nat),n - j=k->j<=n->St j s.heap->AW bt P j its->s.heap.get? S=some { cls:=.type "list",dict:=none,data:=.seq its c,slots:=#[] }->(∀v h' tk,(n=0->v=d)->(0<n->P (argBest bt (n - 1)) v)->(∀b o,b∉wr->b≠S->s.heap.get? b=some o->h'.get? b=some o)->R (.ok (.ret v)) { s with heap:=h',toks:=tk })->Oo (model prog w) A (.builtin "max.loop" ⟨[.ref I,.none,.ref S],[("default",d)]⟩) R s:=by
 have hSw:S∉wr:=λh=>hSf (W.sub _ h)
 have nm:(Re "max" ++ Re ".loop" : String) = "max.loop" := by decide
 intro k
 induction k with
 | zero =>
  intro j s its c hk hj hst hP hS hR
  have e:j=n:=by omega
  subst e
  refine Wk PySem.F.entry_max_loop ?_
  rw[My PySem.F.plain_max_loop _]
  refine Aa (m:=seqItems? (.ref S)) (Fs hS rfl ?_)
  refine Aa (m:=tryCatch (Kx (.ref I)) _) (Ym (W.done s _ _ hst λh' tk kp=>?_))
  rcases hP with ⟨z,rfl⟩ | ⟨i,v,z,pv,rfl⟩
  ·exact Aa (Kw (Am (hR d h' tk (λ_=>rfl) (λq=>absurd q (by omega)) λb o h1 _ e=>kp b o h1 e)))
  ·refine Aa (m:=updateSeq S (λ_=>#[])) (wpAny_updateSeq (kp S _ hSw hS) rfl (Aa (Mm (Am ?_))))
   exact hR v _ tk (λq=>by omega) (λ_=>by subst z; exact pv) λb o h1 h2 e=>(Fm _ _ (Ll h2)).trans (kp b o h1 e)
 | succ k ih =>
  intro j s its c hk hj hst hP hS hR
  have hlt:j<n:=by omega
  refine Wk PySem.F.entry_max_loop ?_
  rw[My PySem.F.plain_max_loop _]
  refine Aa (m:=seqItems? (.ref S)) (Fs hS rfl ?_)
  refine Aa (m:=tryCatch (Kx (.ref I)) _) (Ym (W.item j s _ _ hlt hst λv h' tk pv hst' kp=>?_))
  have hS':=kp S _ hSw hS
  rcases hP with ⟨z,rfl⟩ | ⟨i,vb,z,pb,rfl⟩
  ·subst z
   refine Aa (m:=updateSeq S (λ_=>#[v,v])) (wpAny_updateSeq hS' rfl ?_)
   rw[nm]
   refine Am ⟨On PySem.F.plain_max_loop _,ih 1 _ #[v,v] _ (by omega) (by omega) (W.frame _ _ _ hst' λb hb o e=>?_) (.inr ⟨0,v,rfl,pv,rfl⟩) (Fz _ hS' rfl) λv' h2 tk2 q1 q2 q3=>?_⟩
   ·exact (Fm _ _ (λh:S=b=>hSf (by rw[h]; exact hb))).trans e
   ·exact hR v' h2 tk2 q1 q2 λb o h1 h3 e=>q3 b o h1 h3 ((Fm _ _ (Ll h3)).trans (kp b o h1 e))
  ·subst z
   refine Aa (m:=tryCatch (holding [v,v] (richCompare .Gt v vb >>= _)) _) (Ym (Dd (Aa (hcmp (i+1) (argBest bt i) v vb _ _ _ pv pb ?_))))
   refine Aa (Dd (Fq (Aa (Mm (Am ?_)))))
   cases hb:bt (i+1) (argBest bt i) with
   | true =>
    simp only[if_true]
    refine Aa ?_
    refine wpAny_updateSeq hS' rfl (Aa (Mm ?_))
    rw[nm]
    refine Am ⟨On PySem.F.plain_max_loop _,ih (i+2) _ #[v,v] _ (by omega) (by omega) (W.frame _ _ _ hst' λb hb o e=>?_) (.inr ⟨i+1,v,rfl,by simp only[argBest,hb,if_true]; exact pv,rfl⟩) (Fz _ hS' rfl) λv' h2 tk2 q1 q2 q3=>?_⟩
    ·exact (Fm _ _ (λh:S=b=>hSf (by rw[h]; exact hb))).trans e
    ·exact hR v' h2 tk2 q1 q2 λb o h1 h3 e=>q3 b o h1 h3 ((Fm _ _ (Ll h3)).trans (kp b o h1 e))
   | false =>
    simp only[Bx,if_false]
    refine Aa (Mm ?_)
    rw[nm]
    refine Am ⟨On PySem.F.plain_max_loop _,ih (i+2) _ #[vb,vb] c (by omega) (by omega) hst' (.inr ⟨i+1,vb,rfl,by simp only[argBest,hb,Bx,if_false]; exact pb,rfl⟩) hS' λv' h2 tk2 q1 q2 q3=>?_⟩
    exact hR v' h2 tk2 q1 q2 λb o h1 h3 e=>q3 b o h1 h3 (kp b o h1 e)
end
theorem uG(a v:Value):argsOk "max" ⟨[a],[(Dr "default",v)]⟩:=by unfold argsOk; kernel_rfl
section
variable{X:Cx}{pins:List (Addr×Obj)}{σ:List (Option V)}{H:Hp}{s:Aj}
def zL(K:PySem.W.Frag):V->V->Hp->VK->Prop:=λx d H Q=>∃(a:Addr) (ns:List Int),x=.ref a/\Mc K H a (ns.map V.int)/\(ns=[]->Q d H)/\∀M∈ns,(∀x∈ns,x<=M)->Q (.int M) H
theorem tU(hc:X.calm=true)(I:Inv X pins σ H s)(ru:RelV x u)(rd:RelV d ud)(h:zL X.K x d H Q):wpAny (model X.prog X.w) X.A (call (.builtin "max") [u] [(Dr "default",ud)]) (EP X pins σ Q) X.xe s:=by
 obtain ⟨p,ns,rfl,hp,q0,q⟩:=h
 cases ru
 obtain ⟨its,rv,pl,_⟩:=I.list hp
 obtain ⟨ps,rfl,rfl⟩:=Of rv
 have hl:s.heap.IsList p (Nc ps.toArray):=by simpa [Nc] using pl.isList
 have nm:(Re "max" ++ Re ".loop" : String) = "max.loop" := by decide
 refine kmb_tree PySem.F.kind_max PySem.F.plain_max PySem.F.entry_max (uG _ _) ?_
 refine Aa (m:=Ue "max" ["key", "default"] 0 ⟨[],[(Dr "default",ud)]⟩) (wpAny_of_eq (show Ue "max" ["key", "default"] 0 ⟨[],[(Dr "default",ud)]⟩=pure [none,some ud] from rfl) ?_)
 refine Aa (Am (Aa (iter_intList hl λs₂ e st hfp hlI=>?_)))
 subst e
 refine Aa (Du ?_)
 rw[nm]
 have W:=Walks.list (prog:=X.prog) (w:=X.w) (A:=X.A.in1) (I.ok.hd hc) s.heap.objs.size p hlI (Nc ps.toArray)
 have nf:=λhm=>Fk _ (hfp _ hm)
 refine Am ⟨On PySem.F.plain_max_loop _,uR W _ (CmpOf.ints_gt (numAt ps.toArray) (λ_ _=>intItems_at)) _ nf ud _ 0 _ #[] _ rfl (Dg _) (W.frame _ _ _ st λb _ o e=>Ai _ e) (.inl ⟨rfl,rfl⟩) (Bf _ rfl) λv h' tk q1 q2 q3=>?_⟩
 have kept:∀b o,s.heap.get? b=some o->h'.get? b=some o:=λb o e=>by
  have hb:=Bg e
  refine q3 b o (λz=>?_) (λz=>?_) (Ai _ (Ai _ e))
  ·rw[Af.mp z] at hb
   exact Fk _ hb
  ·rw[z,Ij] at hb
   exact Fk _ (Nat.lt_of_succ_lt hb)
 have sz:(Nc ps.toArray).size=ps.length:=by simp [Nc]
 cases ps with
 | nil=>exact ⟨d,H,I.kept kept,by rw[q1 (by rw[sz]; rfl)]; exact rd,q0 rfl⟩
 | cons y ps =>
  have hv:=q2 (by rw[sz]; exact Nat.succ_pos _)
  rw[sz] at hv
  obtain ⟨t,rfl⟩:=intItems_at hv
  obtain ⟨h1,h2⟩:=argBest_gt (numAt (y::ps).toArray) ((y::ps).length - 1)
  refine ⟨.int _,H,I.kept kept,⟨t,rfl⟩,q _ ?_ λx hx=>?_⟩
  ·rw[numAt_eq]; exact getD_mem (by rw[Ad]; show _<(y::ps).length; have:=Br (a:=y) (as:=ps); omega)
  ·obtain ⟨j,hj,rfl⟩:=mem_getD hx
   rw[Ad] at hj
   have:=h2 j (by have hj':j<(y::ps).length:=hj; omega)
   rw[numAt_eq (y::ps).toArray j] at this
   exact this
end
end Nd
namespace DL
open PySem PySem.Spec PyProof.Rows L2 Nd
section
variable{X:Cx}{e:Expr}{t:TA}{p1 kp cp pos:Pos}{k:Int}{j:Nat}
theorem x8(hc:X.calm=true)(hg:Gl X "max")(hm:X.mg "max" = none)(ha:PA X [e] t)(hs:Bq [e] X.env=[(false,eval e X.env)]:=by rfl):PE X (.Call (.Name "max" p1) [e] [⟨some "default",.Constant (.int k) j cp,kp⟩] pos) (EV (λxs H Q=>∃x,xs=[x]/\zL X.K x (.int k) H Q) t):=by
 intro pins s σ H Q I h
 refine Jr (Nv I hg hm (u:=.builtin "max") (by decide +kernel) ?_)
 refine Zc (Gk (ha pos pins s σ H _ I h) λus s1 ⟨vs,H1,I1,r1,q1⟩=>?_) (by rw[hs]; rfl) (by rw[hs]; rfl)
 obtain ⟨x,rfl,q⟩:=q1
 obtain ⟨u,rfl,ru⟩:=vals1 r1
 refine kws_cons (wpAny_Constant_int (kws_nil ?_))
 exact tU (d:=.int k) hc (I1.tok _) ru ⟨_,rfl⟩ q
end
def gU(k:Int):DC:=λxs P=>match xs with
 | [.dat _ (.list ds)]=>∃ns:List Int,ds=ns.map Ag/\(ns=[]->P (.dat .ow (.int k)))/\∀M∈ns,(∀x∈ns,x<=M)->P (.dat .ow (.int M))
 | _=>False
section
variable{K:PySem.W.Frag}{k:Int}
theorem G9:Na K (λxs H Q=>∃x,xs=[x]/\zL K x (.int k) H Q) (gU k):=by
 intro H0 X n S T As us H Q P eu hA hd kk
 unfold gU at hd
 split at hd
 ·rename_i ex
  obtain ⟨v,F,rfl,hA⟩:=Gh eu hA ex
  obtain ⟨ns,rfl,h0,h1⟩:=hd
  obtain ⟨a,xs,G,rfl,ha,ra,rfl,hz⟩:=(hA.told mem_mid).list_inv
  obtain ⟨rfl,_⟩:=ra.ints_inv
  exact ⟨_,rfl,a,ns,rfl,Mc.of ha,λz=>kk _ _ [] H (hA.drop.pushI (.int _)) (h0 z),λM hM hle=>kk _ _ [] H (hA.drop.pushI (.int _)) (h1 M hM hle)⟩
 ·exact hd.elim
variable{X:Cx}{e:Expr}{da:DA}{p1 kp cp pos:Pos}{j:Nat}
theorem C0(hc:X.calm=true)(hg:Gl X "max")(hm:X.mg "max" = none)(ha:jJ X [e] da)(hs:Bq [e] X.env=[(false,eval e X.env)]:=by rfl):Em X (.Call (.Name "max" p1) [e] [⟨some "default",.Constant (.int k) j cp,kp⟩] pos) (AL (gU k) da):=PE.imp (x8 hc hg hm ha hs) (rB G9)
end
mutual
def oY:Ac->Bool
 | .list xs=>oD xs
 | .tuple xs=>oD xs
 | .dict _=>false
 | _=>true
def oD:List Ac->Bool
 | []=>true
 | x::xs=>oY x && oD xs
end
def iR:DV->Bool
 | .un=>true
 | .scr _=>true
 | .val _=>true
 | .tpl _=>true
 | .drw=>true
 | .dat .ow _=>true
 | .dat _ d=>oY d
 | _=>false
theorem sG(h:Wg a x=Wg b y):a=b/\x=y:=by
 obtain ⟨h1,h2⟩:=Do h
 refine ⟨Int.ofNat.inj (PyData.int.inj (Prod.mk.inj h1).2),?_⟩
 refine Qp (λx y e=>?_) h2
 obtain ⟨e1,e2⟩:=Prod.mk.inj e
 exact Prod.ext (Rw e1) e2
section
variable{K:PySem.W.Frag}{H:Hp}
theorem RdF.dicN_inv(h:RdF K H v (.dict (Wg b ks)) F):∃kv,v=.ref b/\H b=some (.dT kv)/\DRel K H kv ks/\F=[b]:=by
 generalize e:Wg b ks=X at h
 cases h with
 | dic h e' hs=>cases e
 | dik h e' hs=>cases e
 | dnm h e' hs =>
  obtain ⟨rfl,rfl⟩:=sG e
  exact ⟨_,rfl,h,⟨e',hs⟩,rfl⟩
mutual
theorem RdF.lsts:∀{v:V} {d:Ac} {F:List Addr},RdF K H v d F->oY d=true->∀b∈F,∃xs,H b=some (.lst xs)
 | _,_,_,.non,_,b,z=>nomatch z
 | _,_,_,.bl _,_,b,z=>nomatch z
 | _,_,_,.int _,_,b,z=>nomatch z
 | _,_,_,.str _,_,b,z=>nomatch z
 | _,_,_,.lst h l hs,k,b,z=>by
  rcases Ah.mp z with rfl | z
  ·exact ⟨_,h⟩
  ·exact RdFs.lsts hs (by simpa [oY] using k) b z
 | _,_,_,.tup h l hs,k,b,z=>RdFs.lsts hs (by simpa [oY] using k) b z
 | _,_,_,.dic h e hs,k,b,z=>by simp [oY] at k
 | _,_,_,.dik h e hs,k,b,z=>by simp [oY] at k
 | _,_,_,.dnm h e hs,k,b,z=>by simp [oY] at k
theorem RdFs.lsts:∀{v:List V} {d:List Ac} {F:List Addr},RdFs K H v d F->oD d=true->∀b∈F,∃xs,H b=some (.lst xs)
 | _,_,_,.nil,_,b,z=>nomatch z
 | _,_,_,.cons h hs,k,b,z=>by
  simp only[oD,Dk] at k
  rcases Ay.mp z with z | z
  ·exact RdF.lsts h k.1 b z
  ·exact RdFs.lsts hs k.2 b z
end
theorem x6(h:At K H0 Y n (e::f::E) H)(he:e.F=[a])(hp:Le e.x=false)(ha:H a=some (.dT kv))(hf:iR f.x=true):a∉f.F:=by
 have ok:=h.ok f (Ae _ Ab)
 have sp:=((Bb.mp h.sep).1 f Ab).2 (.inl hp)
 obtain ⟨v,x,F⟩:=f
 intro z
 have z:a∈F:=z
 cases x with
 | un=>have ok:F=[]:=ok; rw[ok] at z; cases z
 | val _=>have ok:F=[]:=ok.2; rw[ok] at z; cases z
 | scr _=>obtain ⟨_,_,ok,_⟩:=ok; have ok:F=[]:=ok; rw[ok] at z; cases z
 | tpl _=>obtain ⟨_,_,_,ok⟩:=ok; have ok:F=[]:=ok; rw[ok] at z; cases z
 | drw=>exact sp a z (by rw[he]; exact mT a)
 | dT _=>cases hf
 | acc _=>cases hf
 | grd _=>cases hf
 | dat m d =>
  obtain ⟨u,_,rd,_⟩:=ok
  cases m with
  | ow=>exact sp a z (by rw[he]; exact mT a)
  | _ =>
   obtain ⟨xs,q⟩:=rd.lsts hf a z
   rw[ha] at q; cases q
theorem At.thaw(h:At K H0 Y n (⟨v,.dat .sh (.dict (Wg a ks)),F⟩::E) H)(h0:H0 a=none)(hE:∀f∈E,a∉f.F):At K H0 Y n (⟨v,.dat .ow (.dict (Qz ks)),[a]⟩::E) H:=by
 obtain ⟨u,e1,rd,_⟩:=h.ok _ Ab
 obtain ⟨kv,rfl,ha,rel,eF⟩:=rd.dicN_inv
 have sp:=Bb.mp h.sep
 refine ⟨λf hf=>?_,Bb.mpr ⟨λf hf=>⟨λ_ b hb z=>?_,λ_ b hb z=>?_⟩,sp.2⟩,λf hf b hb=>?_,h.same,h.dom,h.xd⟩
 ·rcases Ah.mp hf with rfl | hf
  ·exact ⟨_,e1,.dic ha rel.key rel.val,λ_=>By.mpr ⟨Av,Dc⟩,λz=>nomatch z⟩
  ·exact h.ok f (Ae _ hf)
 ·have hb:b∈[a]:=hb
  rw[Af.mp hb] at z
  exact hE f hf z
 ·have z:b∈[a]:=z
  rw[Af.mp z] at hb
  exact hE f hf (En f _ hb)
 ·rcases Ah.mp hf with rfl | hf
  ·have hb:b∈[a]:=hb
   rw[Af.mp hb]
   exact .inl h0
  ·exact h.new f (Ae _ hf) b hb
theorem At.named(h:At K H0 Y n (⟨some (.ref a),.dat .ow (.dict (Qz ks)),[a]⟩::E) H):At K H0 Y n (⟨some (.ref a),.dat .sh (.dict (Wg a ks)),[a]⟩::E) H:=by
 obtain ⟨u,e1,rd,_⟩:=h.ok _ Ab
 cases e1
 obtain ⟨a',kv,ks',e2,ek,ha,rel,_⟩:=rd.dict_inv
 cases e2
 obtain rfl:=Tc ek
 have sp:=Bb.mp h.sep
 refine ⟨λf hf=>?_,Bb.mpr ⟨λf hf=>⟨λ_ b hb=>(nomatch hb),λhq b hb z=>(sp.1 f hf).2 hq b hb z⟩,sp.2⟩,λf hf b hb=>?_,h.same,h.dom,h.xd⟩
 ·rcases Ah.mp hf with rfl | hf
  ·exact ⟨_,rfl,.dnm ha rel.key rel.val,λz=>(nomatch z),λz=>(nomatch z)⟩
  ·exact h.ok f (Ae _ hf)
 ·rcases Ah.mp hf with rfl | hf
  ·cases hb
  ·exact h.new f (Ae _ hf) b hb
theorem At.dupS(h:At K H0 Y n (e::E) H)(hc:cells e=[]):At K H0 Y n (e::e::E) H:=by
 have sp:=Bb.mp h.sep
 refine ⟨λf hf=>h.ok f ?_,Bb.mpr ⟨λf hf=>?_,h.sep⟩,λf hf=>h.new f ?_,h.same,h.dom,h.xd⟩
 ·rcases Ah.mp hf with rfl | hf
  ·exact Ab
  ·exact hf
 ·rcases Ah.mp hf with rfl | hf
  ·exact ⟨λ_ b hb=>(by rw[hc] at hb; cases hb),λ_ b hb=>(by rw[hc] at hb; cases hb)⟩
  ·exact sp.1 f hf
 ·rcases Ah.mp hf with rfl | hf
  ·exact Ab
  ·exact hf
theorem nA:IterOk K (FS a ks.length) [⟨some (.ref a),.dat .sh (.dict (Wg a ks)),F⟩] .sh (ks.map λp=>Cn p.1) where
 md:=.inl rfl
 hd:=iK (m:=.sh)
 np:=rT (m:=.sh)
 go:=λH n i h hi=>by
  obtain ⟨kv,e,ha,rel,_⟩:=(Kl h Ab).dicN_inv
  rw[Ad] at hi
  exact ⟨kv,ha,Rx rel,hi⟩
 yld:=λH n i x H' h hi y=>by
  obtain ⟨kv,e,ha,rel,_⟩:=(Kl h Ab).dicN_inv
  obtain ⟨t,k,v,rfl,rfl,y1,y2,y3⟩:=y
  obtain ⟨w,d,e1,rfl⟩:=AA rel (y1 kv ha)
  exact ⟨Ms.refl _,Cn w,[],by rw[Be,e1]; rfl,E8 y2 y3,λc hc=>nomatch hc⟩
 stop:=λH n h=>by
  obtain ⟨kv,e,ha,rel,_⟩:=(Kl h Ab).dicN_inv
  rw[Ad]
  exact ⟨kv,ha,Rx rel,rfl⟩
end
def Q9(i:Nat)(dg:DG)(db:DB):DB:=λD δ=>∃ks,δ.sl[i]? = some (.dat .ow (.dict (Qz ks)))/\ks.length<=1000000/\∀a:Addr,∃I:Nat->DS->Prop,I 0 ⟨δ.sl.set i (.dat .sh (.dict (Wg a ks))),δ.n⟩ /\
 (∀j d δ',(ks.map λp=>Cn p.1)[j]? = some d->I j δ'->dg (.dat .sh d) δ' λδ2=>db { D with nx:=I (j+1),ct:=I (j+1),bk:=λ_=>False } δ2) /\
 ∀δ',I ks.length δ'->δ'.sl[i]? = some (.dat .sh (.dict (Wg a ks)))/\(δ'.sl.set i .un).all iR=true/\D.nx ⟨δ'.sl.set i (.dat .ow (.dict (Qz ks))),δ'.n⟩
section
variable{X:Cx}{tg iter:Expr}{dg:DG}{db:DB}{body:List Stmt}{pos:Pos}{n:Nat}
theorem B0(hp:PassesOwn (model X.prog X.w) X.A X.env X.xe)(hc:X.calm=true)(ho:PE X iter (cJ n))(hg:EM X tg dg)(hb:Wx X body db)(hs:∀x,Ee iter X.env x=pure x:=by intro _; rfl):qB X (.For tg iter body [] pos) (Q9 n dg db):=by
 refine PS.impD (iL hp hc (J1 ho) hg hb hs) λD σ H h=>?_
 obtain ⟨H0,Y,S,T,δ,P,rfl,hS,hT,hA,hd,k1,k2,k3,k4⟩:=h
 obtain ⟨ks,hsl,hl,hd⟩:=hd
 obtain ⟨ent,e2,e3⟩:=Hh hS hsl
 have hm:ent∈S:=Ax e2
 obtain ⟨u,x,F⟩:=ent
 have e3':x=.dat .ow (.dict (Qz ks)):=e3
 subst e3'
 obtain ⟨v,hv,rd,_⟩:=hA.ok _ (Ao _ hm)
 obtain ⟨a,kv,ks0,rfl,ek,ha,rel,eF⟩:=rd.dict_inv
 obtain rfl:=Tc ek
 have eF':F=[a]:=eF
 have hv':u=some (.ref a):=hv
 subst eF' hv'
 have q1:=Jj e2
 have q2:=Nn (y:=(⟨some (.ref a),.dat .sh (.dict (Wg a ks)),[a]⟩ : Ent)) e2
 have hB:=hA.perm (q1.append_right T)
 have fresh:H0 a=none:=by
  rcases hB.new _ Ab a Ab with z | z
  ·exact z
  ·cases z.2
 have offT:∀f∈T,a∉f.F:=λf hf=>((Bb.mp hB.sep).1 f (Al _ hf)).1 (.inl (hT f hf)) a Ab
 have hN:=hB.named
 have hA1:At X.K H0 Y δ.n (S.set n ⟨some (.ref a),.dat .sh (.dict (Wg a ks)),[a]⟩++T) H:=hN.perm (q2.append_right T).symm
 refine ⟨.ref a,?_,a,kv,rfl,ha,?_⟩
 ·rw[Lp e2]
 rw[Rx rel]
 obtain ⟨I,h0,hst,hf⟩:=hd a
 have eV:∀{S':List Ent} {x y:DV} {F' F2:List Addr} {w:Option V},S'[n]? = some ⟨w,x,F'⟩->vs (S'.set n ⟨w,y,F2⟩)=vs S':=λ{S' x y F' F2 w} q=>by
  unfold vs
  rw[Es]
  exact Ub (by rw[Be,q]; rfl)
 have eS:Sl (S.set n ⟨some (.ref a),.dat .sh (.dict (Wg a ks)),[a]⟩) ⟨δ.sl.set n (.dat .sh (.dict (Wg a ks))),δ.n⟩:=by
  unfold Sl at hS ⊢
  rw[Es,hS]
 have hA2:At X.K H0 Y δ.n (S.set n ⟨some (.ref a),.dat .sh (.dict (Wg a ks)),[a]⟩++([⟨some (.ref a),.dat .sh (.dict (Wg a ks)),[a]⟩]++T)) H :=
  (hN.dupS rfl).perm ((List.Perm.cons _ (q2.append_right T).symm).trans List.perm_middle.symm)
 have it:=nA (K:=X.K) (a:=a) (ks:=ks) (F:=[a])
 have hT':∀e∈[(⟨some (.ref a),.dat .sh (.dict (Wg a ks)),[a]⟩ : Ent)]++T,Le e.x=false:=λe he=>by
  rcases Ay.mp he with he | he
  ·exact it.np rfl e he
  ·exact hT e he
 refine ⟨λi q σ H=>q=ks.length - i/\i<=ks.length/\∃S δ,vs S=σ/\Sl S δ/\At X.K H0 Y δ.n (S++([⟨some (.ref a),.dat .sh (.dict (Wg a ks)),[a]⟩]++T)) H/\I i δ,⟨ks.length,by simp,Dg _,_,_,eV e2,eS,hA2,h0⟩,?_⟩
 (intro i q σ H q_; obtain ⟨rfl,hi,S2,δ2,rfl,e4,hA3,hI⟩ := q_)
 have hid_ok:∀e∈[(⟨some (.ref a),.dat .sh (.dict (Wg a ks)),[a]⟩ : Ent)],Gr X.K H δ2.n e:=λe he=>hA3.ok e (Al _ (Ao _ he))
 by_cases hlt:i<ks.length
 ·refine .inr ⟨it.go H δ2.n i hid_ok (by rw[Ad]; exact hlt),λσ' H'=>∃S δ,vs S=σ'/\Sl S δ/\At X.K H0 Y δ.n (S++([⟨some (.ref a),.dat .sh (.dict (Wg a ks)),[a]⟩]++T)) H'/\I (i+1) δ,λσ' H' q=>⟨ks.length - (i+1),by omega,rfl,hlt,q⟩,λx H' y=>?_⟩
  obtain ⟨s1,d,F,h1,h2,h3⟩:=it.yld H δ2.n i x H' hid_ok (by rw[Ad]; exact hlt) y
  refine ⟨H0,Y,S2,_,δ2,.dat .sh d,F,_,rfl,e4,hA3.item s1 h2 h3 it.md it.hd it.np,hst i d δ2 h1 hI,λδ3 S3 H3 e5 hA4 p3=>?_⟩
  refine ⟨H0,Y,S3,_,δ3,_,rfl,e5,hT',hA4,p3,λδ4 S4 H4 e6 hA5 p4=>⟨S4,δ4,rfl,e6,hA5,p4⟩,λx δ4 v F S4 H4 e6 hA5 p4=>k2 x δ4 v F S4 H4 e6 hA5.dropH p4,
   λδ4 S4 H4 e6 hA5 p4=>p4.elim,λδ4 S4 H4 e6 hA5 p4=>⟨S4,δ4,rfl,e6,hA5,p4⟩⟩
 ·have e:i=ks.length:=by omega
  subst e
  refine .inl ⟨by have:=it.stop H δ2.n hid_ok; rwa [Ad] at this,?_⟩
  obtain ⟨g1,g2,g3⟩:=hf δ2 hI
  have hA4:=hA3.dropL
  obtain ⟨ent,e5,e6⟩:=Hh e4 g1
  obtain ⟨u,x,F⟩:=ent
  have e6':x=.dat .sh (.dict (Wg a ks)):=e6
  subst e6'
  have r1:=Jj e5
  have hC:=hA4.perm (r1.append_right T)
  obtain ⟨v,hv,rd2,_⟩:=hC.ok _ Ab
  obtain ⟨kv2,rfl,ha2,_,eF⟩:=rd2.dicN_inv
  have eF':F=[a]:=eF
  have hv':u=some (.ref a):=hv
  subst eF' hv'
  have hE:∀f∈S2.eraseIdx n++T,a∉f.F:=λf hf=>by
   rcases Ay.mp hf with hf | hf
   ·obtain ⟨j,hj,ej⟩:=List.mem_eraseIdx_iff_getElem?.mp hf
    have okf:iR f.x=true:=Dh.mp g2 f.x (Ax (i:=j) (by
     have e4':S2.map (·.x)=δ2.sl:=e4
     rw[Nm hj.symm,<- e4',Be,ej]; rfl))
    obtain ⟨l1,l2,el⟩:=List.append_of_mem hf
    have hD:=hC.sub (E':=⟨some (.ref a),.dat .sh (.dict (Wg a ks)),[a]⟩::f::[]) (by
     refine List.Sublist.cons₂ _ ?_
     show [f].Sublist (S2.eraseIdx n++T)
     exact List.singleton_sublist.mpr (Ao _ hf))
    exact x6 hD rfl rfl ha2 okf
   ·exact offT f hf
  have hF:=hC.thaw fresh hE
  have r2:=Nn (y:=(⟨some (.ref a),.dat .ow (.dict (Qz ks)),[a]⟩ : Ent)) e5
  have:=k1 ⟨δ2.sl.set n (.dat .ow (.dict (Qz ks))),δ2.n⟩ (S2.set n ⟨some (.ref a),.dat .ow (.dict (Qz ks)),[a]⟩) H (by
   unfold Sl at e4 ⊢
   rw[Es,e4]) (hF.perm (r2.append_right T).symm) g3
  rw[eV e5] at this
  exact this
end
def Ze:D2:=λx y P=>match x,y with
 | .dat _ (.dict X),.dat _ k=>∃a ks w d,X=Wg a ks/\k=Cn w/\Yx ks w=some d/\P (.dat .ow d)
 | _,_=>False
theorem vT{K:PySem.W.Frag}:mP K O6 Ze:=by
 intro H0 X n S T x y v w F G H Q P hA hd k
 unfold Ze at hd
 split at hd
 ·obtain ⟨a,ks,u,d,rfl,rfl,hg,p⟩:=hd
  obtain ⟨b,rfl,hb⟩:=Vu (hA.told mem_mid)
  obtain ⟨kv,rfl,ha,rel,_⟩:=(hA.told El).dicN_inv
  rcases cK u rel with ⟨_,z⟩ | ⟨v',d',h1,h2,h3⟩
  ·rw[z] at hg; cases hg
  ·rw[h2] at hg; cases hg
   exact ⟨a,v',rfl,h1▸lG.t ha hb,k _ _ [] H (hA.drop2.pushI h3) p⟩
 ·exact hd.elim
theorem yU(hu:X.A.units+64<cLine)(ha:Em X a da)(hb:Em X b db)(hs:B7 b:=by intro _ _; rfl):Em X (.Subscript a b pos) (Vt Ze da db):=PE.imp (pX (DY hu) ha hb hs) (op_le vT)
end DL
namespace Nd
open PySem PySem.Spec PySem.Calls PyProof.Rows PyProof.V L2 Ts
end Nd
namespace DL
open PySem PySem.Spec PyProof.Rows L2 Nd Ts
theorem tab_no{K:PySem.W.Frag}(nm:PySem.W.nsIn K Ci x=some none):PySem.W.tabIn K x=none:=by
 unfold PySem.W.tabIn
 rw[nm]
end DL
namespace DL
open PySem PySem.Spec PyProof.Rows L2 Nd
def FI(t u:DB)(D:DEnds)(b:Bool)(δ:DS):Prop:=match b with
 | true=>t D δ
 | false=>u D δ
def DZ(x:DV)(δ:DS)(P:DV->DS->Prop):Prop:=match x with
 | .dat _ d=>imm d=true/\P (.dat .ow d) δ
 | _=>False
def HV(i:Nat)(s:Option DV)(δ:DS)(P:DV->DS->Prop):Prop:=match s with
 | some (.dat .pk _)=>False
 | some (.dat _ d)=>P (.dat .sh d) ⟨δ.sl.set i (.dat .sh d),δ.n⟩
 | _=>False
def HQ(xs:List DV)(δ:DS)(P:DV->DS->Prop):Prop:=match datas xs with
 | some ds=>ds.length<=1000/\P (.dat (pkMd .sh xs) (.tuple ds)) δ
 | none=>False
def lstB(xs:List DV)(δ:DS)(P:DV->DS->Prop):Prop:=match datas xs with
 | some ds=>ds.length<=1000/\P (.dat (pkMd .tp xs) (.list ds)) δ
 | none=>False
def Q8(x:DV)(δ:DS)(P:Option Int->DS->Prop):Prop:=match x with
 | .dat _ (.int i)=>P (some i) δ
 | _=>False
def HG(i:Bool)(x:DV)(l h:Option Int)(δ:DS)(P:DV->DS->Prop):Prop:=match x with
 | .dat m (.list ds)=>Yj i m (Mk ds l h) λz=>P z δ
 | .dat m (.tuple ds)=>gK i m (Mk ds l h) λz=>P z δ
 | _=>False
def IG(xs:List DV)(δ:DS)(P:DV->DS->Prop):Prop:=match xs with
 | [.dat _ (.list ds)]=>∃ns:List Int,ds=ns.map Ag/\(∀x∈ns,0<=x/\x<60)/\P (.dat .ow (.list ((V4 ns).map Ag))) δ
 | [.dat _ (.tuple ds)]=>∃ns:List Int,ds=ns.map Ag/\(∀x∈ns,0<=x/\x<60)/\P (.dat .ow (.list ((V4 ns).map Ag))) δ
 | _=>False
def bB(x:DV)(δ:DS)(P:Bool->DS->Prop):Prop:=match x with
 | .dat _ (.bool b)=>P b δ
 | _=>False
def CV(du:DT)(b:Bool)(δ:DS)(P:Bool->DS->Prop):Prop:=match b with
 | true=>du δ P
 | false=>P false δ
def FC(du:DT)(b:Bool)(δ:DS)(P:Bool->DS->Prop):Prop:=match b with
 | true=>P true δ
 | false=>du δ P
def AY(x:DV)(δ:DS)(P:DV->DS->Prop):Prop:=match x with
 | .dat _ (.bool b)=>P (.dat .ow (.bool (!b))) δ
 | _=>False
def J6(db:DE)(x:DV)(δ:DS)(P:DV->DS->Prop):Prop:=match x with
 | .dat _ (.bool true)=>db δ P
 | .dat _ (.bool false)=>P (.dat .ow (.bool false)) δ
 | _=>False
def CJ(x:DV)(δ:DS)(P:DV->DS->Prop):Prop:=match x with
 | .dat _ (.int i)=>P (.dat .ow (.int (-i))) δ
 | _=>False
def lB(x:DV)(δ:DS)(P:Md->List Ac->DS->Prop):Prop:=match x with
 | .dat m (.list ds)=>P (Lf m) ds δ
 | _=>False
def HF(x:DV)(δ:DS)(P:Md->List Ac->DS->Prop):Prop:=match x with
 | .dat m (.tuple ds)=>P (Lf m) ds δ
 | _=>False
def O3(xs:List DV)(δ:DS)(P:Md->List Ac->DS->Prop):Prop:=match xs with
 | [.dat _ (.int j)]=>-1000000<=j/\j<=1000000/\P .sh ((Di j.toNat).map λi:Nat=>.int i) δ
 | _=>False
def R0(xs:List DV)(δ:DS)(P:Md->List Ac->DS->Prop):Prop:=match xs with
 | [.dat m (.list ds)]=>P (Lf m) (ds.zipIdx.map λp=>.tuple [.int p.2,p.1]) δ
 | _=>False
def DN(dg:DG)(db:DB)(D:DEnds)(m:Md)(ds:List Ac)(δ1:DS):Prop:=m=.sh/\∃I:Nat->DS->Prop,I 0 δ1 /\
 (∀i d δ',ds[i]? = some d->I i δ'->dg (.dat .sh d) δ' λδ2=>db { D with nx:=I (i+1),ct:=I (i+1),bk:=D.nx } δ2)/\∀δ',I ds.length δ'->D.nx δ'
def wN(js:List Nat)(dc:DT)(de:DE)(P:DV->DS->Prop)(m:Md)(ds:List Ac)(δ1:DS):Prop:=∃I:Nat->List Ac->Nat->Prop,I 0 [] δ1.n /\
 (∀i d acc n,ds[i]? = some d->I i acc n->Qd dc de ⟨.dat m d::frD δ1.sl js,n⟩ (λe n'=>I (i+1) (acc++[e]) n') (λn'=>I (i+1) acc n')) /\
 ∀acc n,I ds.length acc n->P (.dat .ow (.list acc)) ⟨δ1.sl,n⟩
def yA(js:List Nat)(dc:DT)(de:DE)(P:DV->DS->Prop)(m:Md)(ds:List Ac)(δ1:DS):Prop:=∃I:Nat->List Ac->Nat->Prop,I 0 [] δ1.n /\
 (∀i d acc n,ds[i]? = some d->I i acc n->∃d1 d2,d=.tuple [d1,d2]/\Qd dc de ⟨.dat m d1::.dat m d2::frD δ1.sl js,n⟩ (λe n'=>I (i+1) (acc++[e]) n') (λn'=>I (i+1) acc n')) /\
 ∀acc n,I ds.length acc n->P (.dat .ow (.list acc)) ⟨δ1.sl,n⟩
def oX(js:List Nat)(dc:DT)(de:DE)(P:DV->DS->Prop)(m:Md)(ds:List Ac)(δ1:DS):Prop:=∃I:Nat->List Ac->Nat->Prop,I 0 [] δ1.n /\
 (∀i d acc n,ds[i]? = some d->I i acc n->Ku false dc de ⟨.dat m d::frD δ1.sl js,n⟩ (λe n'=>I (i+1) (acc++[e]) n') (λn'=>I (i+1) acc n')) /\
 ∀acc n,I ds.length acc n->P (.dat .tp (.list acc)) ⟨δ1.sl,n⟩
def wB(js1:List Nat)(j0:Nat)(js2:List Nat)(dc:DT)(de:DE)(P:DV->DS->Prop)(m:Md)(ds:List Ac)(δ1:DS):Prop:=δ1.sl[j0]? = some .drw/\∃I:Nat->List Ac->Nat->Prop,I 0 [] δ1.n /\
 (∀i d acc n,ds[i]? = some d->I i acc n->Qf (js1.length+1) dc de ⟨.dat m d::(frD (δ1.sl.set j0 .un) js1++.drw::frD (δ1.sl.set j0 .un) js2),n⟩ (λe n'=>I (i+1) (acc++[e]) n') (λn'=>I (i+1) acc n')) /\
 ∀acc n,I ds.length acc n->P (.dat .ow (.list acc)) ⟨δ1.sl,n⟩
def K7(yes:Ac->Nat->Prop)(y:DV)(δ:DS):Prop:=match y with
 | .dat _ e=>imm e=true/\yes e δ.n
 | _=>False
def qL(de:DE)(yes:Ac->Nat->Prop)(no:Nat->Prop)(b:Bool)(δ:DS):Prop:=match b with
 | true=>de δ λy δ3=>K7 yes y δ3
 | false=>no δ.n
def wH(yes:Ac->Nat->Prop)(y:DV)(δ:DS):Prop:=match y with
 | .dat m e=>m≠.pk/\yes e δ.n
 | _=>False
def zR(de:DE)(yes:Ac->Nat->Prop)(no:Nat->Prop)(b:Bool)(δ:DS):Prop:=match b with
 | true=>de δ λy δ3=>wH yes y δ3
 | false=>no δ.n
def wA(p:Nat)(yes:Ac->Nat->Prop)(y:DV)(δ:DS):Prop:=match y with
 | .dat _ e=>imm e=true/\δ.sl[p]? = some .drw/\yes e δ.n
 | _=>False
def vO(p:Nat)(de:DE)(yes:Ac->Nat->Prop)(no:Nat->Prop)(b:Bool)(δ:DS):Prop:=match b with
 | true=>de δ λy δ3=>wA p yes y δ3
 | false=>δ.sl[p]? = some .drw/\no δ.n
def callB(pf:PF)(xs:List DV)(δ:DS)(P:DV->DS->Prop):Prop:=match datas xs with
 | some ds=>pf ds λd=>P (.dat .ow d) δ
 | none=>False
def callBW(i:Nat)(df:DF)(xs:List DV)(δ:DS)(P:DV->DS->Prop):Prop:=match δ.sl[i]? with
 | some .drw=>match datas xs with
  | some ds=>df ds δ.n λd n'=>P (.dat .ow d) ⟨δ.sl,n'⟩
  | none=>False
 | _=>False
def j5(xs:List DV)(δ:DS)(P:DV->DS->Prop):Prop:=match xs with
 | [.dat _ (.int _)]=>P .drw δ
 | _=>False
def revLB(x:DV)(δ:DS)(P:DV->DS->Prop):Prop:=match x with
 | .dat _ (.list ds)=>Dq ds=true/\P (.dat .ow (.list ds.reverse)) δ
 | _=>False
def appB(i:Nat)(y:DV)(δ:DS)(D:DEnds):Prop:=match δ.sl[i]?,y with
 | some (.dat m (.list ds)),.dat _ e=>own1 m=true/\npk δ.sl=true/\imm e=true/\ds.length<1000000/\D.nx ⟨δ.sl.set i (.dat m (.list (ds++[e]))),δ.n⟩
 | _,_=>False
def callAB(pf:PF)(xs:List DV)(δ:DS)(P:DV->DS->Prop):Prop:=match datas xs with
 | some ds=>pf ds λd=>P (.dat .sh d) δ
 | none=>False
def callWSD(df:DF)(ys:List DV)(δ:DS)(P:DV->DS->Prop):Prop:=match datas ys with
 | some ds=>df ds δ.n λd n'=>P (.dat .sh d) ⟨δ.sl,n'⟩
 | none=>False
def BM(i:Nat)(ks:List (List Int×Ac))(dg:DG)(db:DB)(D:DEnds)(δ:DS):Prop:=∀a:Addr,∃I:Nat->DS->Prop,I 0 ⟨δ.sl.set i (.dat .sh (.dict (Wg a ks))),δ.n⟩ /\
 (∀j d δ',(ks.map λp=>Cn p.1)[j]? = some d->I j δ'->dg (.dat .sh d) δ' λδ2=>db { D with nx:=I (j+1),ct:=I (j+1),bk:=λ_=>False } δ2) /\
 ∀δ',I ks.length δ'->δ'.sl[i]? = some (.dat .sh (.dict (Wg a ks)))/\(δ'.sl.set i .un).all iR=true/\D.nx ⟨δ'.sl.set i (.dat .ow (.dict (Qz ks))),δ'.n⟩
theorem e_seq:ES t u D δ=(t { D with nx:=λδ'=>u D δ' } δ):=rfl
theorem e_skip:N5 D δ=(D.nx δ):=rfl
theorem e_ret:CK de D δ=(de δ D.rt):=rfl
theorem e_if:HL dt t u D δ=(dt δ (FI t u D)):=rfl
theorem e_asg:sP de dg D δ=(de δ λx δ'=>dg x δ' D.nx):=rfl
theorem e_name{m:Md}:Qt i (.dat .ow d) δ Q=(Q ⟨δ.sl.set i (.dat .sh d),δ.n⟩):=rfl
theorem e_name2{m:Md}:Qt i (.dat .sh d) δ Q=(Q ⟨δ.sl.set i (.dat .sh d),δ.n⟩):=rfl
theorem e_name4:Qt i .drw δ Q=(Q ⟨δ.sl.set i .drw,δ.n⟩):=rfl
theorem e_own:dY i (.dat .ow d) δ Q=(Q ⟨δ.sl.set i (.dat .ow d),δ.n⟩):=rfl
theorem e_own2:dY i (.dat .tp d) δ Q=(Q ⟨δ.sl.set i (.dat .tp d),δ.n⟩):=rfl
theorem e_nF:FA false i x δ Q=(Qt i x δ Q):=rfl
theorem e_gtup:xJ n gs (.dat m (.tuple ds)) δ Q=(ds.length=n/\gs (ds.map λd=>.dat (Pj m) d) δ Q):=rfl
theorem e_gsn:j6 [] δ Q=(Q δ):=rfl
theorem e_gsc:qT g gs (x::r) δ Q=(g x δ λδ'=>gs r δ' Q):=rfl
theorem e_op:Vt rd da db δ P=(da δ λx δ1=>db δ1 λy δ2=>rd x y λz=>P z δ2):=rfl
theorem e_var:W2 i δ P=(match δ.sl[i]? with | some (.dat m d)=>P (.dat (gX m) d) δ | _=>False):=rfl
theorem e_c:dC d δ P=(P (.dat .ow d) δ):=rfl
theorem e_imm:CT de δ P=(de δ λx δ'=>DZ x δ' P):=rfl
theorem e_immB:DZ (.dat m d) δ P=(imm d=true/\P (.dat .ow d) δ):=rfl
theorem e_take:zI i δ P=(match δ.sl[i]? with | some (.dat m d)=>P (.dat m d) ⟨δ.sl.set i .un,δ.n⟩ | _=>False):=rfl
theorem e_I:S9 C g (.dat m (.int i)) (.dat m' (.int j)) P=(C i j/\P (.dat .ow (g i j))):=rfl
theorem e_I0:dG g (.dat m (.int i)) (.dat m' (.int j)) P=(P (.dat .ow (g i j))):=rfl
theorem e_eqF:fW false (.dat m d) (.dat m' e) P=(d.depth<=60/\e.depth<=60/\P (.dat .ow (.bool (Ec d e)))):=rfl
theorem e_eqT:fW true (.dat m d) (.dat m' e) P=(d.depth<=60/\e.depth<=60/\P (.dat .ow (.bool (!Ec d e)))):=rfl
theorem e_inFt_w1{es:List Ac}:tP false (.dat m d) (.dat m' (Cn nes)) P=(Bo (nes.map Ag)<=60/\d.depth<=60/\P (.dat .ow (.bool ((nes.map Ag).any λe=>Ec e d)))):=rfl
theorem e_inTt_w1{es:List Ac}:tP true (.dat m d) (.dat m' (Cn nes)) P=(Bo (nes.map Ag)<=60/\d.depth<=60/\P (.dat .ow (.bool (!((nes.map Ag).any λe=>Ec e d))))):=rfl
theorem e_ixl:F4 (.dat m (.list ds)) (.dat m' (.int i)) P=(∃d,Sx ds i=some d/\P (.dat (Pj m) d)):=rfl
theorem e_cat:qF (.dat m (.list ds)) (.dat m' (.list es)) P=(Dq ds=true/\Dq es=true/\ds.length+es.length<=1000000/\P (.dat .ow (.list (ds++es)))):=rfl
theorem e_rep:sJ (.dat m (.list ds)) (.dat m' (.int k)) P=(Dq ds=true /\ -1000000<=k/\k<=1000000/\ds.length * k.toNat<=1000000/\P (.dat .ow (.list (Bl k.toNat ds).flatten))):=rfl
theorem e_nlT:Yj true m ds P=(Dq ds=true/\P (.dat .ow (.list ds))):=rfl
theorem e_ntT:gK true m ds P=(Dq ds=true/\P (.dat .ow (.tuple ds))):=rfl
theorem e_pkOfpk  : gX .pk=(Md.pk):=rfl
theorem e_pkOfsh  : gX .sh=(Md.sh):=rfl
theorem e_pkOfow  : gX .ow=(Md.pk):=rfl
theorem e_mdInsh  : Pj .sh=(Md.sh):=rfl
theorem e_mdInow  : Pj .ow=(Md.ow):=rfl
theorem e_mdItsh  : Lf .sh=(Md.sh):=rfl
theorem e_mdItow  : Lf .ow=(Md.sh):=rfl
theorem e_nil:U5 δ P=(P [] δ):=rfl
theorem e_cons:O4 de da δ P=(de δ λx δ1=>da δ1 λxs δ2=>P (x::xs) δ2):=rfl
theorem e_lst:DW da δ P=(da δ λxs δ'=>lstB xs δ' P):=rfl
theorem e_noPart:pU δ P=(P none δ):=rfl
theorem e_part:Q1 de δ P=(de δ λx δ'=>Q8 x δ' P):=rfl
theorem e_partB:Q8 (.dat m (.int i)) δ P=(P (some i) δ):=rfl
theorem e_sl{dl dh:DO}:GW i de dl dh δ P=(de δ λx δ1=>dl δ1 λl δ2=>dh δ2 λh δ3=>HG i x l h δ3 P):=rfl
theorem e_slBl:HG i (.dat m (.list ds)) l h δ P=(Yj i m (Mk ds l h) λz=>P z δ):=rfl
theorem e_cb:AL rd da δ P=(da δ λxs δ1=>rd xs λz=>P z δ1):=rfl
theorem e_lenl{m m':Md}:rY [.dat m (.list ds)] P=(P (.dat .ow (.int ds.length))):=rfl
theorem e_lent_w1{ds:List Ac}{m m':Md}:rY [.dat m (Cn nds)] P=(P (.dat .ow (.int (nds.map Ag).length))):=rfl
theorem e_listl{m m':Md}:pP i [.dat m (.list ds)] P=(Yj i m ds P):=rfl
theorem e_tuplel{m m':Md}:iZ i [.dat m (.list ds)] P=(gK i m ds P):=rfl
theorem e_intb{m m':Md}:i7 [.dat m (.bool i)] P=(P (.dat .ow (.int (if i=true then 1 else 0)))):=rfl
theorem e_max2:nH [.dat m (.int i),.dat m' (.int j)] P=(P (.dat .ow (.int (if j > i then j else i)))):=rfl
theorem e_min2:oS [.dat m (.int i),.dat m' (.int j)] P=(P (.dat .ow (.int (if j<i then j else i)))):=rfl
theorem e_MinL{m m':Md}:pA [.dat m (.list ds)] P=(∃ns:List Int,ds=ns.map Ag/\ns≠[]/\∀M∈ns,(∀x∈ns,M<=x)->P (.dat .ow (.int M))):=rfl
theorem e_all{m m':Md}:zS [.dat m (.list ds)] P=(∃bs:List Bool,ds=bs.map PyData.bool/\P (.dat .ow (.bool (bs.all id)))):=rfl
theorem e_isi{m m':Md}:wJ [.dat m d,.val (.ty n)] P=((n = "int" \/ n = "bool" \/ n = "str" \/ n = "list" \/ n = "tuple")/\P (.dat .ow (.bool (Mt d n)))):=rfl
theorem e_str{m m':Md}:wC [.dat m d] P=((∃b,b<=400/\Nk b d/\(b+12) * Oe d<=Au)/\d.depth<=90/\P (.dat .ow (.str (cB d)))):=rfl
theorem e_v:dV v δ P=(P (.val v) δ):=rfl
theorem e_b:dB de δ P=(de δ λx δ'=>bB x δ' P):=rfl
theorem e_bB:bB (.dat m (.bool b)) δ P=(P b δ):=rfl
theorem e_notT:O8 dt δ P=(dt δ λb δ'=>P (!b) δ'):=rfl
theorem e_andT:Q7 dt du δ P=(dt δ λb δ'=>CV du b δ' P):=rfl
theorem e_orT:BR dt du δ P=(dt δ λb δ'=>FC du b δ' P):=rfl
theorem e_orTt:FC du true δ P=(P true δ):=rfl
theorem e_orTf:FC du false δ P=(du δ P):=rfl
theorem e_not:BB de δ P=(de δ λx δ'=>AY x δ' P):=rfl
theorem e_notB:AY (.dat m (.bool b)) δ P=(P (.dat .ow (.bool (!b))) δ):=rfl
theorem e_and:CS da db δ P=(da δ λx δ'=>J6 db x δ' P):=rfl
theorem e_andt:J6 db (.dat m (.bool true)) δ P=(db δ P):=rfl
theorem e_andf:J6 db (.dat m (.bool false)) δ P=(P (.dat .ow (.bool false)) δ):=rfl
theorem e_neg:EH de δ P=(de δ λx δ'=>CJ x δ' P):=rfl
theorem e_negB:CJ (.dat m (.int i)) δ P=(P (.dat .ow (.int (-i))) δ):=rfl
theorem e_dL:dL de δ P=(de δ λx δ'=>lB x δ' P):=rfl
theorem e_dTp:GZ de δ P=(de δ λx δ'=>HF x δ' P):=rfl
theorem e_lB:lB (.dat m (.list ds)) δ P=(P (Lf m) ds δ):=rfl
theorem e_tpB_w1{ds:List Ac}:HF (.dat m (Cn nds)) δ P=(P (Lf m) (nds.map Ag) δ):=rfl
theorem e_range1:kJ da δ P=(da δ λxs δ'=>O3 xs δ' P):=rfl
theorem e_rng1B:O3 [.dat m (.int j)] δ P=(-1000000<=j/\j<=1000000/\P .sh ((Di j.toNat).map λi:Nat=>.int i) δ):=rfl
theorem e_enum:zP da δ P=(da δ λxs δ'=>R0 xs δ' P):=rfl
theorem e_enumB:R0 [.dat m (.list ds)] δ P=(P (Lf m) (ds.zipIdx.map λp=>.tuple [.int p.2,p.1]) δ):=rfl
theorem e_for:BW di dg db D δ=(di δ (DN dg db D)):=rfl
theorem e_comp:zJ di js dc de δ P=(di δ (wN js dc de P)):=rfl
theorem e_comp2:vV di js dc de δ P=(di δ (yA js dc de P)):=rfl
theorem e_compL:o7 di js dc de δ P=(di δ (oX js dc de P)):=rfl
theorem e_stepL:Ku false dc de δ yes no=(dc δ λb δ2=>zR de yes no b δ2):=rfl
theorem e_stepLT:zR de yes no true δ=(de δ λy δ3=>wH yes y δ3):=rfl
theorem e_compD:gV di js1 j0 js2 dc de δ P=(di δ (wB js1 j0 js2 dc de P)):=rfl
theorem e_noTest:iC δ P=(P true δ):=rfl
theorem e_step:Qd dc de δ yes no=(dc δ λb δ2=>qL de yes no b δ2):=rfl
theorem e_stepT:qL de yes no true δ=(de δ λy δ3=>K7 yes y δ3):=rfl
theorem e_stepF:qL de yes no false δ=(no δ.n):=rfl
theorem e_yesB:K7 yes (.dat m e) δ=(imm e=true/\yes e δ.n):=rfl
theorem e_stepD:Qf p dc de δ yes no=(dc δ λb δ2=>vO p de yes no b δ2):=rfl
theorem e_stepDT:vO p de yes no true δ=(de δ λy δ3=>wA p yes y δ3):=rfl
theorem e_yesBD:wA p yes (.dat m e) δ=(imm e=true/\δ.sl[p]? = some .drw/\yes e δ.n):=rfl
theorem e_call:xE pf da δ P=(da δ λxs δ1=>callB pf xs δ1 P):=rfl
theorem e_callW:pF i df da δ P=(match δ.sl[i]? with | some .drw=>da δ λxs δ1=>callBW i df xs δ1 P | _=>False):=rfl
theorem e_draws:n8 da δ P=(da δ λxs δ1=>j5 xs δ1 P):=rfl
theorem e_drawsB:j5 [.dat m (.int i)] δ P=(P .drw δ):=rfl
theorem e_append:gR i de D δ=(match δ.sl[i]? with | some (.dat _ (.list _))=>de δ λy δ1=>appB i y δ1 D | _=>False):=rfl
theorem e_revL:P7 de δ P=(de δ λx δ1=>revLB x δ1 P):=rfl
theorem e_appendO:aE i de D δ=(match δ.sl[i]? with | some (.dat _ (.list _))=>de δ λy δ1=>appOB i y δ1 D | _=>False):=rfl
theorem e_suml{m m':Md}:qJ [.dat m (.list ds)] P=(∃ns:List Int,ds=ns.map Ag/\P (.dat .ow (.int ns.sum))):=rfl
theorem e_sumt_w1{ds:List Ac}{m m':Md}:qJ [.dat m (Cn nds)] P=(∃ns:List Int,(nds.map Ag)=ns.map Ag/\P (.dat .ow (.int ns.sum))):=rfl
theorem e_scrSl{dl dh:DO}:pN i dl dh δ P=(match δ.sl[i]? with | some (.scr ns)=>dl δ λl δ2=>dh δ2 λh δ3=>P (.dat .ow (.list ((Mk ns l h).map Ag))) δ3 | _=>False):=rfl
theorem e_dnew:P8 δ P=(P (.dat .ow (.dict (Qz []))) δ):=rfl
theorem e_dput:Q3 i dk de D δ=(de δ λy δ1=>isDct δ1.sl[i]? = true/\dk δ1 λz δ2=>dputB i y z δ2 D):=rfl
theorem e_dictZ:oM da δ P=(da δ λxs δ'=>iE xs δ' P):=rfl
theorem e_dictZB:iE [.dat m (.list ds),.dat m' (.list es)] δ P=(ds.length<=1000000/\Dq es=true/\∃ws:List (List Int),ds=ws.map Cn/\P (.dat .ow (.dict (Qz (Rc [] (ws.zip es))))) δ):=rfl
theorem e_tagD:M8 (Qz ks)=(true):=rfl
theorem e_inew:O0 δ P=(P (.dat .ow (.dict (Yu []))) δ):=rfl
theorem e_iput:N7 i dk de D δ=(de δ λy δ1=>isIct δ1.sl[i]? = true/\dk δ1 λz δ2=>iputB i y z δ2 D):=rfl
theorem e_getI:xD da dk dz δ P=(da δ λx δ1=>wF x=true/\dk δ1 λy δ2=>dz δ2 λz δ3=>pY x y z δ3 P):=rfl
theorem e_isIc2:wF (.dat m (.dict (Yu ks)))=(true):=rfl
theorem e_tagI:tQ (Yu ks)=(true):=rfl
theorem e_forN:Q9 i dg db D δ=(∃ks,δ.sl[i]? = some (.dat .ow (.dict (Qz ks)))/\ks.length<=1000000/\BM i ks dg db D δ):=rfl
theorem e_sortK:Zk [.dat m (.list ds)] P=(∃ws:List (List Int),ds=ws.map Cn/\ws.length<Au/\∀L:List (List Int),L.Perm ws->L.Pairwise (λx y=>x.length<=y.length)->P (.dat .ow (.list (L.map Cn)))):=rfl
theorem e_MaxD:gU k [.dat m (.list ds)] P=(∃ns:List Int,ds=ns.map Ag/\(ns=[]->P (.dat .ow (.int k)))/\∀M∈ns,(∀x∈ns,x<=M)->P (.dat .ow (.int M))):=rfl
theorem e_callA:i5 pf da δ P=(da δ λxs δ1=>noPk xs=true/\callAB pf xs δ1 P):=rfl
theorem e_callWS:sM df da δ P=(da δ λxs δ1=>iX df xs δ1 P):=rfl
theorem e_callWSB:iX df (.drw::ys) δ P=(noPk ys=true/\callWSD df ys δ P):=rfl
section
variable{t u:DB}{D:DEnds}{δ δ1:DS}
theorem kG{α:Type}{l:List α}{g:α->Ac}(e:ds=l.map g)(I:Nat->DS->Prop)(h0:I 0 δ1)(hs:∀i a δ',l[i]? = some a->I i δ'->dg (.dat .sh (g a)) δ' λδ2=>db { D with nx:=I (i+1),ct:=I (i+1),bk:=D.nx } δ2)(hf:∀δ',I l.length δ'->D.nx δ'):DN dg db D .sh ds δ1:=by
 subst e
 refine ⟨rfl,I,h0,λi d δ' hd hI=>?_,λδ' h=>hf δ' (by rw[Ad] at h; exact h)⟩
 rw[Be] at hd
 cases q:l[i]? with
 | none=>rw[q] at hd; cases hd
 | some a=>rw[q] at hd; cases hd; exact hs i a δ' q hI
end
section
variable{js:List Nat}{dc:DT}{de:DE}{P:DV->DS->Prop}{m:Md}{ds:List Ac}{δ1:DS}{α:Type}
theorem cA{l:List α}(e:ds=l.map g)(p:α->Bool)(f:α->Ac)(h:∀a∈l,∀(yes:Ac->Nat->Prop) (no:Nat->Prop),(p a=true->yes (f a) δ1.n)->(p a=false->no δ1.n)->Qd dc de ⟨.dat m (g a)::frD δ1.sl js,δ1.n⟩ yes no)(q:P (.dat .ow (.list ((l.filter p).map f))) δ1):wN js dc de P m ds δ1:=by
 subst e
 refine ⟨λi acc n=>n=δ1.n/\acc=((l.take i).filter p).map f,⟨rfl,by simp⟩,λi d acc n hd ⟨hn,ha⟩=>?_,λacc n ⟨hn,ha⟩=>?_⟩
 ·subst hn ha
  rw[Be] at hd
  cases q:l[i]? with
  | none=>rw[q] at hd; cases hd
  | some a =>
   rw[q] at hd
   cases hd
   refine h a (Ax q) _ _ (λhp=>⟨rfl,?_⟩) (λhp=>⟨rfl,?_⟩)
   ·rw[Kt q,Hb,Bi]; simp [hp]
   ·rw[Kt q,Hb,Bi]; simp [hp]
 ·subst hn ha
  rw[Ad,Ga]
  exact q
theorem Ua{l:List α}(e:ds=l.map g)(f:α->Ac)(h:∀a∈l,∀(yes:Ac->Nat->Prop) (no:Nat->Prop),yes (f a) δ1.n->Qd dc de ⟨.dat m (g a)::frD δ1.sl js,δ1.n⟩ yes no)(q:P (.dat .ow (.list (l.map f))) δ1):wN js dc de P m ds δ1:=by
 refine cA e (λ_=>true) f (λa ha yes no hy _=>h a ha yes no (hy rfl)) ?_
 rw[vH.mpr λ_ _=>rfl]
 exact q
theorem xW{l:List α}{g1 g2:α->Ac}(e:ds=l.map λa=>.tuple [g1 a,g2 a])(p:α->Bool)(f:α->Ac)(h:∀a∈l,∀(yes:Ac->Nat->Prop) (no:Nat->Prop),(p a=true->yes (f a) δ1.n)->(p a=false->no δ1.n)->Qd dc de ⟨.dat m (g1 a)::.dat m (g2 a)::frD δ1.sl js,δ1.n⟩ yes no)(q:P (.dat .ow (.list ((l.filter p).map f))) δ1):yA js dc de P m ds δ1:=by
 subst e
 refine ⟨λi acc n=>n=δ1.n/\acc=((l.take i).filter p).map f,⟨rfl,by simp⟩,λi d acc n hd ⟨hn,ha⟩=>?_,λacc n ⟨hn,ha⟩=>?_⟩
 ·subst hn ha
  rw[Be] at hd
  cases q:l[i]? with
  | none=>rw[q] at hd; cases hd
  | some a =>
   rw[q] at hd
   cases hd
   refine ⟨_,_,rfl,h a (Ax q) _ _ (λhp=>⟨rfl,?_⟩) (λhp=>⟨rfl,?_⟩)⟩
   ·rw[Kt q,Hb,Bi]; simp [hp]
   ·rw[Kt q,Hb,Bi]; simp [hp]
 ·subst hn ha
  rw[Ad,Ga]
  exact q
theorem AB{l:List α}(e:ds=l.map g)(p:α->Bool)(f:α->Ac)(h:∀a∈l,∀(yes:Ac->Nat->Prop) (no:Nat->Prop),(p a=true->yes (f a) δ1.n)->(p a=false->no δ1.n)->Ku false dc de ⟨.dat m (g a)::frD δ1.sl js,δ1.n⟩ yes no)(q:P (.dat .tp (.list ((l.filter p).map f))) δ1):oX js dc de P m ds δ1:=by
 subst e
 refine ⟨λi acc n=>n=δ1.n/\acc=((l.take i).filter p).map f,⟨rfl,by simp⟩,λi d acc n hd ⟨hn,ha⟩=>?_,λacc n ⟨hn,ha⟩=>?_⟩
 ·subst hn ha
  rw[Be] at hd
  cases q:l[i]? with
  | none=>rw[q] at hd; cases hd
  | some a =>
   rw[q] at hd
   cases hd
   refine h a (Ax q) _ _ (λhp=>⟨rfl,?_⟩) (λhp=>⟨rfl,?_⟩)
   ·rw[Kt q,Hb,Bi]; simp [hp]
   ·rw[Kt q,Hb,Bi]; simp [hp]
 ·subst hn ha
  rw[Ad,Ga]
  exact q
theorem T6{l:List α}(e:ds=l.map g)(f:α->Ac)(h:∀a∈l,∀(yes:Ac->Nat->Prop) (no:Nat->Prop),yes (f a) δ1.n->Ku false dc de ⟨.dat m (g a)::frD δ1.sl js,δ1.n⟩ yes no)(q:P (.dat .tp (.list (l.map f))) δ1):oX js dc de P m ds δ1:=by
 refine AB e (λ_=>true) f (λa ha yes no hy _=>h a ha yes no (hy rfl)) ?_
 rw[vH.mpr λ_ _=>rfl]
 exact q
theorem sF{l:List α}(e:ds=l.map g)(hj:δ1.sl[j0]? = some .drw)(I:Nat->List Ac->Nat->Prop)(h0:I 0 [] δ1.n)(h:∀i a acc n,l[i]? = some a->I i acc n->Qf (js1.length+1) dc de ⟨.dat m (g a)::(frD (δ1.sl.set j0 .un) js1++.drw::frD (δ1.sl.set j0 .un) js2),n⟩ (λe n'=>I (i+1) (acc++[e]) n') (λn'=>I (i+1) acc n'))(q:∀acc n,I l.length acc n->P (.dat .ow (.list acc)) ⟨δ1.sl,n⟩):wB js1 j0 js2 dc de P m ds δ1:=by
 subst e
 refine ⟨hj,I,h0,λi d acc n hd hI=>?_,λacc n hI=>q acc n (by rw[Ad] at hI; exact hI)⟩
 rw[Be] at hd
 cases q:l[i]? with
 | none=>rw[q] at hd; cases hd
 | some a=>rw[q] at hd; cases hd; exact h i a acc n q hI
end
theorem eQ(h1:b=true->t D δ)(h2:b=false->u D δ):FI t u D b δ:=by
 cases b with
 | true=>exact h1 rfl
 | false=>exact h2 rfl
theorem i8(h1:b=true->du δ P)(h2:b=false->P false δ):CV du b δ P:=by
 cases b with
 | true=>exact h1 rfl
 | false=>exact h2 rfl
theorem O5(h1:b=true->P true δ)(h2:b=false->du δ P):FC du b δ P:=by
 cases b with
 | true=>exact h1 rfl
 | false=>exact h2 rfl
theorem W4(h1:b=true->db δ P)(h2:b=false->P (.dat .ow (.bool false)) δ):J6 db (.dat m (.bool b)) δ P:=by
 cases b with
 | true=>exact h1 rfl
 | false=>exact h2 rfl
theorem Oy(h1:b=true->de δ λy δ3=>K7 yes y δ3)(h2:b=false->no δ.n):qL de yes no b δ:=by
 cases b with
 | true=>exact h1 rfl
 | false=>exact h2 rfl
class Im (d:Ac):Prop where
 h:imm d=true
class ImA (ds:List Ac):Prop where
 h:Dq ds=true
theorem im[h:Im d]:imm d=true:=h.h
theorem IB[h:ImA ds]:Dq ds=true:=h.h
instance {i:Int}:Im (.int i):=⟨by simp [imm]⟩
instance {i:Bool}:Im (.bool i):=⟨by simp [imm]⟩
instance {i:Str}:Im (.str i):=⟨by simp [imm]⟩
instance:Im .none:=⟨by simp [imm]⟩
instance {ds:List Ac} [h:ImA ds]:Im (.tuple ds):=⟨by rw[imm]; exact h.h⟩
instance {ns:List Int}:Im (Cn ns):=⟨p7 ns⟩
instance:ImA []:=⟨by simp [Dq]⟩
instance {d:Ac} {ds:List Ac} [h:Im d] [t:ImA ds]:ImA (d::ds):=⟨by rw[Dq,h.h,t.h]; rfl⟩
instance {α:Type} {f:α->Ac} {l:List α} [h:∀a,Im (f a)]:ImA (l.map f):=⟨Ul (λa=>(h a).h) l⟩
instance {a b:List Ac} [h:ImA a] [k:ImA b]:ImA (a++b):=⟨by rw[bX,h.h,k.h]; rfl⟩
class Dp (d:Ac) (k:outParam Nat):Prop where
 h:d.depth<=k
class DpA (ds:List Ac) (k:outParam Nat):Prop where
 h:Bo ds<=k
theorem dp[h:Dp d k](hk:k<=60:=by decide):d.depth<=60:=Bz h.h hk
instance {i:Int}:Dp (.int i) 0:=⟨by simp [Cm]⟩
instance {i:Bool}:Dp (.bool i) 0:=⟨by simp [Cm]⟩
instance {i:Str}:Dp (.str i) 0:=⟨by simp [Cm]⟩
instance:Dp .none 0:=⟨by simp [Cm]⟩
instance {ds:List Ac} {k:Nat} [h:DpA ds k]:Dp (.tuple ds) (k+1):=⟨by have:=h.h; simp only[Cm]; omega⟩
instance {ds:List Ac} {k:Nat} [h:DpA ds k]:Dp (.list ds) (k+1):=⟨by have:=h.h; simp only[Cm]; omega⟩
instance {ns:List Int}:Dp (Cn ns) 1:=⟨pH ns⟩
instance:DpA [] 0:=⟨by simp [Bo]⟩
instance {d:Ac} {ds:List Ac} {k j:Nat} [h:Dp d k] [t:DpA ds j]:DpA (d::ds) (k+j):=⟨by have:=h.h; have:=t.h; simp only[Bo]; omega⟩
instance {α:Type} {f:α->Ac} {l:List α} {k:Nat} [h:∀a,Dp (f a) k]:DpA (l.map f) k:=⟨Yg λx hx=>by
 obtain ⟨a,_,rfl⟩:=Bu.mp hx
 exact (h a).h⟩
theorem gN:Bo (a++b)<=Bo a+Bo b:=by
 induction a with
 | nil=>simp [Bo]
 | cons x a ih=>simp only[Fc,Bo]; omega
instance {a b:List Ac} {k j:Nat} [h:DpA a k] [t:DpA b j]:DpA (a++b) (k+j):=⟨by have:=h.h; have:=t.h; have:=gN (a:=a) (b:=b); omega⟩
theorem eqD_bl(i j:Bool):Ec (.bool i) (.bool j)=(i == j):=by simp [Ec]
theorem eqD_str(i j:Str):Ec (.str i) (.str j)=(i == j):=by simp [Ec]
theorem xB(a b:List Ac):Ec (.list a) (.list b)=Om a b:=by simp [Ec]
theorem mE{α:Type}[DecidableEq α]{f:α->Ac}(h:∀a b,Ec (f a) (f b)=decide (a=b)):∀l m:List α,Om (l.map f) (m.map f)=decide (l=m)
 | [],[]=>by simp [Om]
 | [],_::_=>by simp [Om]
 | _::_,[]=>by simp [Om]
 | a::l,b::m=>by simp [Om,h,mE h l m]
theorem eqD_intd(i j:Int):Ec (.int i) (.int j)=decide (i=j):=by simp [Ec]; rfl
def wordsD(ws:List (List Int)):Ac:=.list (ws.map Cn)
instance {ws:List (List Int)}:Dp (wordsD ws) 2:=⟨(inferInstance:Dp (.list (ws.map Cn)) 2).h⟩
def qS(ns:List Int):Ac:=.list (ns.map Ag)
instance {ns:List Int}:Dp (qS ns) 1:=⟨(inferInstance:Dp (.list (ns.map Ag)) 1).h⟩
theorem zY(a b:List Int):Ec (qS a) (qS b)=decide (a=b):=by
 unfold qS
 rw[xB,mE eqD_intd]
theorem any_int(ns:List Int)(i:Int):((ns.map Ag).any λe=>Ec e (.int i))=decide (i∈ns):=by
 rw[Sj]
 induction ns with
 | nil=>rfl
 | cons n ns ih =>
  rw[Jd,ih]
  simp only[Function.comp,eqD_intd,Ah]
  by_cases h:n=i
  ·subst h; simp
  ·have : ¬ i=n:=λz=>h z.symm
   simp [h,this]
theorem rE{α β:Type}(f:α->β)(l:List α):(l.map f).zipIdx=l.zipIdx.map λp=>(f p.1,p.2):=by
 rw[List.zipIdx_map]
 rfl
theorem Ss(f:α->β)(l:List α)(i:Int):Sx (l.map f) i=(Sx l i).map f:=by
 unfold Sx
 rw[Ad]
 cases L6 l.length i with
 | none=>rfl
 | some j=>simp
theorem Ny(h0:0<=i)(h1:i<l.length):∃a,l[i.toNat]? = some a/\Sx l i=some a/\a∈l:=by
 have hk:i.toNat<l.length:=by omega
 refine ⟨l[i.toNat],by simp [hk],?_,List.getElem_mem hk⟩
 have q:Sx l ((i.toNat:Nat):Int)=some l[i.toNat]:=K3 (by simp [hk])
 rwa [show ((i.toNat:Nat):Int)=i by omega] at q
theorem im_e[h:Im d]:(imm d=true)=True:=eq_true h.h
theorem ima_e[h:ImA ds]:(Dq ds=true)=True:=eq_true h.h
theorem dp_e[h:Dp d k](hk:k<=60):(d.depth<=60)=True:=eq_true (Bz h.h hk)
theorem dpa_e[h:DpA ds k](hk:k<=60):(Bo ds<=60)=True:=eq_true (Bz h.h hk)
theorem eqD_li(a b:List Int):Ec (.list (a.map Ag)) (.list (b.map Ag))=decide (a=b):=zY a b
theorem eqD_l0(a:List Ac):Ec (.list a) (.list [])=a.isEmpty:=L8 a
theorem ow_e{R:Ac->Prop}:(∃e,DV.dat .ow d=.dat .ow e/\R e)=R d:=by
 apply propext
 constructor
 ·(intro q_; obtain ⟨e,h,r⟩ := q_); cases h; exact r
 ·intro r; exact ⟨d,rfl,r⟩
theorem tt_e:(∃m',DV.dat m (.bool b)=.dat m' (.bool true))=(b=true):=by
 apply propext
 constructor
 ·rintro ⟨e,h⟩; cases h; rfl
 ·intro r; subst r; exact ⟨m,rfl⟩
theorem cdiv_e:V0 i j=(0<j/\j<1073741824):=rfl
theorem cpow_e:W6 i j=(0<=j/\j<=1000000/\i.natAbs<2 ^ 64):=rfl
theorem AR(h:sl=sl')(h':n=n'):(⟨sl,n⟩ : DS)=⟨sl',n'⟩:=by subst h h'; rfl
theorem aU(h:(Di j)[i]? = some a):a=i/\i<j:=by
 obtain ⟨h1,h2⟩:=Ap.mp h
 rw[Jv] at h1
 rw[List.getElem_range] at h2
 exact ⟨h2.symm,h1⟩
def NP(v:DV):Prop:=∀l,npk (v::l)=npk l
theorem Py:NP .un:=λ_=>rfl
theorem Gw:NP (.dat .sh d):=λ_=>rfl
theorem EJ:NP (.dat .ow d):=λ_=>rfl
theorem S6:NP .drw:=λ_=>rfl
theorem P3(x y:α)(b:Bool):Sx [x,y] (if b=true then 1 else 0)=some (if b=true then y else x):=by cases b <;> rfl
theorem fold_w(w:List Int):PyData.tuple (List.map Ag w)=Cn w:=rfl
theorem isi_ib(i:Int):Mt (.int i) "bool" = false:=by simp [Mt,gQ]
theorem isi_ii(i:Int):Mt (.int i) "int" = true:=by simp [Mt,gQ]
theorem isi_bb(i:Bool):Mt (.bool i) "bool" = true:=by simp [Mt,gQ]
theorem BH{ns:List Int}(k:Nat):(Mk ns none (some (k:Int))).length<=k:=by
 rw[tT,Cw]
 exact Nat.min_le_left _ _
theorem ifB_lt:FI t u D true δ=t D δ:=rfl
theorem ifB_lf:FI t u D false δ=u D δ:=rfl
theorem isi_si(i:Str):Mt (.str i) "int" = false:=by simp [Mt,gQ]
theorem isi_sb(i:Str):Mt (.str i) "bool" = false:=by simp [Mt,gQ]
theorem str_self(s:Str):(s == s)=true:=by simp
theorem Vs{l:List α}{i:Nat}{a:α}(h:l[i]? = some a):Sx l (i:Int)=some a:=by
 obtain ⟨b,e1,e2,_⟩:=Ny (l:=l) (i:=(i:Int)) (by omega) (by have:=(Ap.mp h).1; omega)
 rw[e2,<- e1,<- h]; rfl
theorem yesL_ow:wH yes (.dat .ow e) δ=yes e δ.n:=propext ⟨λh=>h.2,λh=>⟨by decide,h⟩⟩
theorem U4(h1:m≠.pk)(h2:m'≠.pk):aY (.dat m (.list ds)) (.dat m' (.list es)) P=(ds.length+es.length<=1000000/\P (.dat .tp (.list (ds++es)))):=propext ⟨λh=>h.2.2,λh=>⟨h1,h2,h⟩⟩
theorem catL_tpow:aY (.dat .tp (.list ds)) (.dat .ow (.list es)) P=(ds.length+es.length<=1000000/\P (.dat .tp (.list (ds++es)))):=U4 (by decide) (by decide)
theorem EB(x:α)(l:List α):Sx (x::l) 0=some x:=Vs (i:=0) rfl
theorem CA(x y:α)(l:List α):Sx (x::y::l) 1=some y:=Vs (i:=1) rfl
theorem EO(x y z:α)(l:List α):Sx (x::y::z::l) 2=some z:=Vs (i:=2) rfl
theorem CM(x y z t:α)(l:List α):Sx (x::y::z::t::l) 3=some t:=Vs (i:=3) rfl
theorem ik_e{Q:List (Int×Ac)->Int->Prop}:(∃ks' w',Yu ks=Yu ks'/\Ag w=Ag w'/\Q ks' w')=Q ks w:=propext ⟨λ⟨ks',w',e1,e2,h⟩=>by cases Vw e1; cases e2; exact h,λh=>⟨ks,w,rfl,rfl,h⟩⟩
theorem getI_e:pY (.dat m (.dict (Yu ks))) (.dat m' (.int w)) (.dat m2 e) δ P=(imm e=true/\P (.dat .ow ((Pn ks w).getD e)) δ):=propext ⟨λ⟨ks',w',e1,e2,h⟩=>by cases Vw e1; cases e2; exact h,λh=>⟨ks,w,rfl,rfl,h⟩⟩
theorem dgetN_e:Ze (.dat m (.dict (Wg a ks))) (.dat m' (Cn w)) P=∃d,Yx ks w=some d/\P (.dat .ow d):=propext ⟨λ⟨a',ks',w',d,e1,e2,h⟩=>by obtain ⟨_,rfl⟩:=sG e1; cases Rw e2; exact ⟨d,h⟩,λ⟨d,h⟩=>⟨a,ks,w,d,rfl,rfl,h⟩⟩
theorem dk_e{Q:List (List Int×Ac)->List Int->Prop}:(∃ks' w',Qz ks=Qz ks'/\Cn w=Cn w'/\Q ks' w')=Q ks w:=propext ⟨λ⟨ks',w',e1,e2,h⟩=>by cases Tc e1; cases Rw e2; exact h,λh=>⟨ks,w,rfl,rfl,h⟩⟩
theorem dget_e:iI (.dat m (.dict (Qz ks))) (.dat m' (Cn w)) P=∃d,Yx ks w=some d/\P (.dat .ow d):=propext ⟨λ⟨ks',w',d,e1,e2,h⟩=>by cases Tc e1; cases Rw e2; exact ⟨d,h⟩,λ⟨d,h⟩=>⟨ks,w,d,rfl,rfl,h⟩⟩
theorem retA_tp{R:Ac->Prop}:(∃m d',DV.dat .tp d=.dat m d'/\m≠.pk/\R d')=R d:=propext ⟨λ⟨m,d',e,_,h⟩=>by cases e; exact h,λh=>⟨_,_,rfl,by decide,h⟩⟩
theorem ow_npk:(Md.ow≠Md.pk)=True:=eq_true (by decide)
end DL
namespace K33
open PySem L2 Nd DL
def Pu(i:Nat):Stmt:=PySem.Challenge.pw_needledeck_k33_numbers_that_show_at_leas.main.body.getD i (.Pass ⟨0,0,0,0⟩)
abbrev Uj:Stmt:=Pu 1
abbrev Wf:Stmt:=Pu 2
abbrev Mj:Stmt:=Pu 3
abbrev Tg:Stmt:=Pu 5
abbrev Nj:Stmt:=Pu 6
abbrev Li:Stmt:=Pu 7
abbrev Mg:Stmt:=Pu 8
abbrev Mh:Stmt:=Pu 9
abbrev iB:Stmt:=Pu 11
abbrev pV:Stmt:=Pu 12
abbrev Lc:Stmt:=Pu 13
abbrev Ou:Stmt:=Pu 14
abbrev Pk:Stmt:=Pu 15
abbrev Qm:Stmt:=Pu 16
abbrev Od:Stmt:=Pu 17
abbrev Po:Stmt:=Pu 18
abbrev Lh:Stmt:=Pu 19
abbrev Ie:Stmt:=Pu 20
abbrev Kh:Stmt:=Pu 21
abbrev Lg:Stmt:=Pu 22
abbrev Fd:Stmt:=Pu 23
abbrev Yz:Stmt:=Pu 24
section
variable{P:Bs}{w:World}{K:PySem.W.Frag}{mg:Str->Option Value}{base:Heap}
theorem IC:FnScope ["_law_cell"] ["_law_cell"] (Bm iB):=⟨rfl,rfl,rfl,by decide +kernel,rfl,by decide +kernel,by decide +kernel⟩
theorem zA(F:Fun K "_law_draws" "_law_draws" iB f fd):FnOk P w K mg base Gp 1 f fd ["_law_cell"] Vp:=by
 refine F.ok IC (λvs H Q E h=>?_) (λcdv A outer s H vs Q E hr h=>?_)
 ·obtain ⟨c,rfl,_⟩:=h
  rfl
 obtain ⟨c,rfl,q⟩:=h
 refine ⟨_,Hx (yE (rH yX (pv 0) (Hv aQ Ez Ez) (Qu _)) (Ni (Um (bC (Gs (Hv Ut (pv 0) (Hv L4 (Hv aQ Ez Ez) Ez)) (Gs Ez (Gs q9 Kr)))))) gC)
  (Ni (Um (bC (Gs (Hv Ut (pv 0) Ez) (Gs Ez (Gs q9 Kr)))))),?_⟩
 refine ⟨_,rfl,10,18,rfl,rfl,⟨by decide,by decide,by decide⟩,_,_,rfl,rfl,_,rfl,AN (λ_=>?_) (λ_=>?_)⟩
 ·refine ⟨_,rfl,10,60,rfl,rfl,⟨by decide,by decide,by decide⟩,_,16,rfl,rfl,⟨by decide,by show (Builtin.Int.intBits (10 ^ (60:Int).toNat):Int) * 16<=2 ^ 27; decide +kernel⟩,_,_,rfl,rfl,(by show (0:Int)<(10 ^ (60:Int).toNat) ^ (16:Int).toNat; decide +kernel),(by show 3<=Au; decide),λp hp=>?_⟩
  exact q p _ _ _ hp Cp (Dl hp _)
 ·refine ⟨_,rfl,_,_,rfl,rfl,(by show (0:Int)<1000003; decide),(by show 3<=Au; decide),λp hp=>?_⟩
  exact q p _ _ _ hp Cp (Dl hp _)
theorem HP:FnScope ["_law_draws_here", "_law_k", "_law_number"] ["_law_draws_here"] (Bm pV):=⟨rfl,rfl,rfl,by decide +kernel,rfl,by decide +kernel,by decide +kernel⟩
theorem C1(F:Fun K "_law_next" "_law_next" pV f fd):FnOk P w K mg base Gp 1 f fd ["_law_draws_here"] yY:=by
 refine F.ok HP (λvs H Q E h=>?_) (λcdv A outer s H vs Q E hr h=>?_)
 ·obtain ⟨d,c,k,fl,rfl,_⟩:=h
  rfl
 obtain ⟨d,c,k,fl,rfl,hd,h0,h1,q⟩:=h
 refine ⟨_,Hx (yB (Hv Zt (aN Th (pv 0) Ez (λ_ _=>rfl)) Ez) (o6 (pv 0) Ez lA))
  (Hx (yE (p8 (aN Th (pv 0) Ez (λ_ _=>rfl)))
   (Hx (Pp (i:=2) HP.nd rfl (Eh rfl) (Hv Ut (aN Th (pv 0) Ez (λ_ _=>rfl)) (Hv aQ Ez Ez)))
    (Hx (yB (Hv gM (aN Th (pv 0) Ez (λ_ _=>rfl)) (Hv aQ Ez Ez)) (o6 (pv 0) Ez lA))
    (Ni (Um (pv 2))))) gC)
  (Hx (Pp (i:=1) HP.nd rfl (Eh rfl) (aN Th (pv 0) Ez (λ_ _=>rfl)))
  (Hx (Pp (i:=2) HP.nd rfl (Eh rfl) (Hv Ut (Hv Xa (Hv Zt (Hv Zt (aN Th (pv 0) Ez (λ_ _=>rfl)) (Hv Xa (Hv Xa (pv 1) (pv 1)) Ez)) (pv 1)) Ez) Ez))
  (Hx (Pp (i:=2) HP.nd rfl (Eh rfl) (Hv Ut (Hv Xa (pv 2) (pv 2)) Ez))
  (Ni (Um (Hv gM (Hv Ut (Hv Xa (pv 2) (Hv Zt (pv 2) Ez)) Ez) Ez))))))),?_⟩
 -- draws[1]=draws[1]+1
 refine ⟨_,rfl,d,_,1,_,rfl,rfl,Mc.of hd,rfl,_,_,rfl,rfl,_,rfl,d,_,1,1,rfl,rfl,hd,rfl,?_⟩
 have e1:(upd H d (.lst ([V.int c,V.int k,V.bl fl].set 1 (V.int (k+1))))) d=some (.lst [.int c,.int (k+1),.bl fl]):=Cp
 generalize hH1:upd H d (.lst ([V.int c,V.int k,V.bl fl].set 1 (V.int (k+1))))=H1 at e1
 have s1:Tz d H H1:=by rw[<- hH1]; exact Tz.upd
 refine ⟨_,rfl,d,_,2,_,rfl,rfl,Mc.of e1,rfl,_,rfl,?_⟩
 refine AN (λ_=>?_) (λ_=>?_)
 ·refine ⟨_,rfl,d,_,0,_,rfl,rfl,Mc.of e1,rfl,10,6,rfl,rfl,⟨by decide,by decide,by decide⟩,_,_,rfl,rfl,(by show (0:Int)<10 ^ (6:Int).toNat; decide),?_⟩
  refine ⟨_,rfl,d,_,0,_,rfl,rfl,Mc.of e1,rfl,10,6,rfl,rfl,⟨by decide,by decide,by decide⟩,_,_,rfl,rfl,⟨by decide,by decide⟩,_,rfl,d,_,0,0,rfl,rfl,e1,rfl,_,rfl,?_⟩
  exact q _ _ _ Cp (s1.trans Tz.upd)
 ·refine ⟨_,rfl,d,_,1,_,rfl,rfl,Mc.of e1,rfl,?_⟩
  have b1:=iM ((c+(k+1) * (k+1) * 7919+(k+1)) * 48271) 2147483629 (by decide)
  refine ⟨_,rfl,d,_,0,_,rfl,rfl,Mc.of e1,rfl,_,rfl,_,rfl,_,_,rfl,rfl,.inl ⟨by omega,by omega⟩,_,_,rfl,rfl,.inr ⟨by decide,by decide⟩,_,_,rfl,rfl,_,rfl,_,_,rfl,rfl,
   _,_,rfl,rfl,.inr ⟨by decide,by decide⟩,_,_,rfl,rfl,(by show (0:Int)<2147483629; decide),?_⟩
  generalize ((c+(k+1) * (k+1) * 7919+(k+1)) * 48271) % 2147483629=x at b1
  have b2:=iM (x * x) 2147483587 (by decide)
  refine ⟨_,rfl,_,rfl,_,_,rfl,rfl,.inl ⟨by omega,by omega⟩,_,_,rfl,rfl,(by show (0:Int)<2147483587; decide),?_⟩
  generalize (x * x) % 2147483587=y at b2
  refine ⟨_,rfl,_,rfl,_,_,rfl,rfl,_,_,rfl,rfl,.inl ⟨by omega,by omega⟩,_,_,rfl,rfl,(by show (0:Int)<2147483579; decide),_,_,rfl,rfl,⟨by decide,by decide⟩,?_⟩
  exact q _ _ _ e1 s1
theorem uD(F:Fun K "_law_draws" "_law_draws" iB f fd):FnOk P w K mg base Gp 1 f fd ["_law_cell"] Vp:=zA F
theorem u6(F:Fun K "_law_next" "_law_next" pV f fd):FnOk P w K mg base Gp 1 f fd ["_law_draws_here"] (mQ K Uv):=A0 (C1 F)
end
end K33
namespace DL
open PySem L2 Nd
def sub(a b:List Int):Bool:=a.all λi=>decide (i∈b)
def lO(a b:List Int):List Int:=a.filter λi=>decide (i∉b)
theorem pM(r:Lj h a):a.Nodup:=r.1.imp λ{x y} h=>Int.ne_of_lt h
theorem Qn(a:Int)(h:0<b):0<=a % b/\a % b<b:=iM a b h
end DL
namespace Nd
open PySem L2 Ts
def yH(K:PySem.W.Frag):R2:=λx y H Q=>∃a b xs ys,x=.ref a/\y=.ref b/\Uh K H a xs/\Uh K H b ys/\ys≠[]/\xs.length+ys.length<=Au/\(xs=[]->Q (.ref b) H)/\(xs≠[]->∀p,H p=none->Q (.ref p) (upd H p (.tup (xs++ys))))
open PyProof.Rows in
theorem rG{X:Cx}:Wc X (Iv .Add) (yH X.K):=by
 intro pins s σ H x y v u Q I rx ry h
 obtain ⟨a,b,xs,ys,rfl,rfl,ha,hb,hy,hz,q1,q2⟩:=h
 by_cases hx:xs=[]
 ·cases rx
  cases ry
  obtain ⟨its,r1,p1,_⟩:=I.tuple ha
  obtain ⟨its2,r2,p2,_⟩:=I.tuple hb
  have e1:its=[]:=r1.nil_iff.mpr hx
  subst e1
  obtain ⟨⟨c1,d1,dt1,sl1⟩,g1,k1,n1,e1⟩:=id p1
  obtain ⟨⟨c2,d2,dt2,sl2⟩,g2,k2,n2,e2⟩:=id p2
  simp only at k1 e1 k2 e2
  subst k1 e1 k2 e2
  exact concat_meets ⟨_,g1,rfl⟩ ⟨_,g2,rfl⟩ jE seq_tuple_add PySem.F.slot_tuple_add PySem.F.entry_tuple_add (PySem.F.args_tuple_add_2 _ _)
   (tuple_addW0 a b _ _ n1 n2 d1 d2 sl1 sl2 rfl) ⟨g1,g2,⟨.ref b,H,I,rfl,q1 hx⟩⟩
 ·exact A9 pins s σ H (.ref a) (.ref b) v u Q I rx ry ⟨a,b,xs,ys,rfl,rfl,ha,hb,hx,hz,λz=>absurd z hy,λ_=>q2 hx⟩
def Ea:Nat->List (List Int)
 | 0=>[[]]
 | n+1=>Ea n++(Ea n).map (·++[(n:Int)])
theorem Qy:∀n,(Ea n).length=2 ^ n
 | 0=>rfl
 | n+1=>by
  show (Ea n++(Ea n).map (·++[(n:Int)])).length=2 ^ (n+1)
  rw[Bn,Ad,Qy n,Nat.pow_succ]
  omega
theorem Qw(h:n<=10):(Ea n).length<=1024:=by
 rw[Qy]
 exact Ve (by decide) h
theorem Ml:∀n,∀w∈Ea n,w.length<=n
 | 0,w,h=>by
  have : w=[]:=by simpa [Ea] using h
  rw[this]
  exact Ak _
 | n+1,w,h=>by
  rcases Ay.mp (show w∈Ea n++(Ea n).map (·++[(n:Int)]) from h) with h | h
  ·exact Nat.le_succ_of_le (Ml n w h)
  ·obtain ⟨v,hv,e⟩:=Bu.mp h
   rw[<- e,Bn,Hd]
   exact Nat.succ_le_succ (Ml n v hv)
theorem Rm:∀n,∃r,Ea n=[]::r
 | 0=>⟨[],rfl⟩
 | n+1=>by
  obtain ⟨r,e⟩:=Rm n
  refine ⟨r++(Ea n).map (·++[(n:Int)]),?_⟩
  show Ea n++(Ea n).map (·++[(n:Int)])=_
  conv=>lhs; lhs; rw[e]
  rfl
def Ord(l:List (List Int)):Prop:=l.Pairwise λx y=>HT.lexLt y x=false
theorem bP:∀{l m:List (List Int)},l.Perm m->Ord l->Ord m->l=m
 | [],m,p,_,_=>(List.Perm.nil_eq p)
 | x::l,[],p,_,_=>by
  have:=p.length_eq
  simp at this
 | x::l,y::m,p,h1,h2=>by
  obtain ⟨a1,a2⟩:=Bb.mp h1
  obtain ⟨b1,b2⟩:=Bb.mp h2
  have e:x=y:=by
   have mx:x∈y::m:=p.mem_iff.mp Ab
   have my:y∈x::l:=p.mem_iff.mpr Ab
   rcases Ah.mp mx with e | mx
   ·exact e
   ·rcases Ah.mp my with e | my
    ·exact e.symm
    ·exact iV (b1 x mx) (a1 y my) |>.symm▸rfl
  subst e
  rw[bP ((List.perm_cons x).mp p) a2 b2]
def Ws(H:Hp)(ws:List (Addr×List Int)):Prop:=∀p∈ws,H p.1=some (.tup (p.2.map V.int))
def xM(H:Hp)(a:Addr):List Int:=match H a with
 | some (.tup xs)=>xs.filterMap λx=>match x with | .int i=>some i | _=>none
 | _=>[]
theorem Ur(h:H a=some (.tup (w.map V.int))):xM H a=w:=by
 unfold xM
 rw[h]
 show (w.map V.int).filterMap _=w
 rw[Xx]
 exact List.filterMap_some
theorem Ws.c(h:Ws H ws):(ws.map (·.1)).map (xM H)=ws.map (·.2):=by
 rw[Ce]
 exact Fo λp hp=>Ur (h p hp)
def hZ:Sp:=λvs H Q _=>∃h:Int,vs=[.int h]/\0<=h/\h<=10 /\
 ∀(p:Addr) (rs:List Addr) (L:List (List Int)) (H':Hp),H p=none->H' p=some (.lst (rs.map V.ref))->(∀(i:Nat) (r:Addr) (w:List Int),rs[i]? = some r->L[i]? = some w->H' r=some (.tup (w.map V.int)))->rs.length=L.length->L.Perm (Ea h.toNat)->Ord L->Ms H H'->Q (.ref p) H'
end Nd
namespace Nd
open PySem L2
def ch:Nat->Nat->Nat
 | _,0=>1
 | 0,_+1=>0
 | n+1,k+1=>ch n k+ch n (k+1)
theorem rF(n k:Nat):ch (n+1) (k+1)=ch n k+ch n (k+1):=rfl
theorem Zu:∀{n k:Nat},n<k->ch n k=0
 | 0,0,h=>absurd h (Fk _)
 | 0,k+1,_=>rfl
 | n+1,0,h=>absurd h (Oi _)
 | n+1,k+1,h=>by rw[rF,Zu (by omega:n<k),Zu (by omega:n<k+1)]
theorem C6:∀n:Nat,ch n n=1
 | 0=>rfl
 | n+1=>by rw[rF,C6 n,Zu (Nat.lt_succ_self n)]
def cw:Nat->Int->Nat->List (List Int)
 | _,_,0=>[[]]
 | 0,_,_+1=>[]
 | d+1,p,m+1=>(cw d (p+1) m).map (p::·)++cw d (p+1) (m+1)
def Xb(Pu:Int):Nat->List Int->Nat
 | _,[]=>0
 | m,x::w=>ch (Pu - 1 - x).toNat m+Xb Pu (m - 1) w
theorem oN:∀{n:Nat} {w:List Int},w∈Ea n↔Lj n w
 | 0,w=>by
  show w∈[[]]↔_
  rw[List.mem_singleton]
  constructor
  ·rintro rfl; exact Lj.nil _
  ·rintro ⟨_,h⟩
   match w with
   | []=>rfl
   | x::w=>have:=h x Ab; omega
 | n+1,w=>by
  show w∈Ea n++(Ea n).map (·++[(n:Int)])↔_
  rw[List.mem_append,List.mem_map,oN]
  constructor
  ·rintro (h | ⟨v,hv,rfl⟩)
   ·exact h.up (by omega)
   ·have:=(oN.mp hv).more (by omega)
    exact this.up (by omega)
  ·intro h
   by_cases hn:(n:Int)∈w
   ·refine .inr ⟨w.dropLast,oN.mpr ?_,?_⟩
    ·have hne:w≠[]:=λz=>by rw[z] at hn; cases hn
     have hl:w.getLast hne=n:=by
      have h1:=h.2 _ (List.getLast_mem hne)
      by_cases e:w.getLast hne=n
      ·exact e
      ·exfalso
       have hd:=Jb hne
       rw[<- hd] at hn
       rcases Ay.mp hn with z | z
       ·have hp:=h.1
        rw[<- hd] at hp
        have:=(Ca.mp hp).2.2 _ z _ (Af.mpr rfl)
        omega
       ·exact e (Af.mp z).symm
     have hd:=Jb hne
     have hp:=h.1
     rw[<- hd,hl] at hp
     obtain ⟨p1,_,p3⟩:=Ca.mp hp
     exact ⟨p1,λx hx=>⟨(h.2 x (List.dropLast_subset w hx)).1,p3 x hx _ (Af.mpr rfl)⟩⟩
    ·have hne:w≠[]:=λz=>by rw[z] at hn; cases hn
     have hl:w.getLast hne=n:=by
      have h1:=h.2 _ (List.getLast_mem hne)
      by_cases e:w.getLast hne=n
      ·exact e
      ·exfalso
       have hd:=Jb hne
       rw[<- hd] at hn
       rcases Ay.mp hn with z | z
       ·have hp:=h.1
        rw[<- hd] at hp
        have:=(Ca.mp hp).2.2 _ z _ (Af.mpr rfl)
        omega
       ·exact e (Af.mp z).symm
     rw[<- hl]
     exact Jb hne
   ·refine .inl ⟨h.1,λx hx=>?_⟩
    have:=h.2 x hx
    have : x≠n:=λz=>hn (by rw[<- z]; exact hx)
    omega
theorem Qr:∀n:Nat,(Ea n).Nodup
 | 0=>By.mpr ⟨Av,Dc⟩
 | n+1=>by
  show (Ea n++(Ea n).map (·++[(n:Int)])).Nodup
  refine Gf.mpr ⟨Qr n,?_,λx hx y hy e=>?_⟩
  ·exact List.Pairwise.map _ (λa b h e=>h (List.append_cancel_right e)) (Qr n)
  ·subst e
   obtain ⟨v,_,rfl⟩:=Bu.mp hy
   have:=(oN.mp hx).2 n (Al _ (Af.mpr rfl))
   omega
end Nd
namespace DL
open PySem L2 Nd
def Wd:PF:=λds R=>∃h:Int,ds=[.int h]/\0<=h/\h<=10/\∀L:List (List Int),L.Perm (Ea h.toNat)->Ord L->R (wordsD L)
theorem kW:∀{rs:List Addr} {L:List (List Int)},(∀(i:Nat) (r:Addr) (w:List Int),rs[i]? = some r->L[i]? = some w->H r=some (.tup (w.map V.int)))->rs.length=L.length->(∀w∈L,w.length<=1000000)->RdFs K H (rs.map V.ref) (L.map Cn) []
 | [],[],_,_,_=>.nil
 | r::rs,w::L,h,l,hw=>by
  have a:=C3 (K:=K) (h 0 r w rfl rfl) (hw w (Ab ..))
  have t:=kW (K:=K) (rs:=rs) (L:=L) (λi r' w' e1 e2=>h (i+1) r' w' e1 e2) (by simpa using l) (λw' z=>hw w' (Ae _ z))
  exact RdFs.cons a t
 | [],_::_,_,l,_=>by simp at l
 | _::_,[],_,l,_=>by simp at l
theorem Sw{L:List (List Int)}(hn:n<=10)(p:L.Perm (Ea n)):L.length<=1024/\∀w∈L,Lj n w/\w.length<=10:=⟨by rw[p.length_eq]; exact Qw hn,λw hw=>⟨oN.mp (p.mem_iff.mp hw),Bz (Ml n w (p.mem_iff.mp hw)) hn⟩⟩
section
variable{P:Bs}{w:World}{K:PySem.W.Frag}{mg:Str->Option Value}{base:Heap}{k:Nat}{f:Addr}{fd:Cg}{ps:List Str}
theorem kN(F:FnOk P w K mg base Gp k f fd ps hZ):FnOk P w K mg base Gp k f fd ps (Tf K Wd):=by
 refine F.imp λus H Q E h=>?_
 obtain ⟨As,n,ds,R,eu,ok,q,hp,k1⟩:=h
 obtain ⟨h,rfl,h0,h1,hR⟩:=hp
 obtain ⟨v1,F1,rfl,r1⟩:=vZ eu ok q
 obtain ⟨rfl,_⟩:=r1.int_inv
 refine ⟨h,rfl,h0,h1,λp rs L H' np ep hr hl hp ho s=>?_⟩
 obtain ⟨l1,l2⟩:=Sw (n:=h.toNat) (by omega) hp
 refine k1 (.ref p) _ [p] H' (hR L hp ho) (RdF.lst ep (by rw[Ad]; exact jG (by omega)) (kW hr hl λw hw=>by have:=(l2 w hw).2; omega)) (By.mpr ⟨Av,Dc⟩) (λa ha=>?_) s
 rw[Af.mp ha]; exact np
end
theorem bQ{α:Type}{l:List α}{p:α×Nat}(h:l.zipIdx[i]? = some p):p.2=i/\l[i]? = some p.1/\p.1∈l/\i<l.length:=by
 rw[List.getElem?_zipIdx] at h
 cases q:l[i]? with
 | none=>rw[q] at h; cases h
 | some a =>
  rw[q] at h
  cases h
  exact ⟨by simp,rfl,Ax q,(Ap.mp q).1⟩
def pairD(p:Nat×Nat):Ac:=.tuple [.int p.1,.int p.2]
instance {p:Nat×Nat}:Im (pairD p):=⟨(inferInstance:Im (.tuple [.int p.1,.int p.2])).h⟩
instance {p:Nat×Nat}:Dp (pairD p) 1:=⟨(inferInstance:Dp (.tuple [.int p.1,.int p.2]) 1).h⟩
def Q0(p:Nat×Nat×List Int):Ac:=.tuple [.int p.1,.int p.2.1,Cn p.2.2]
instance {p:Nat×Nat×List Int}:Im (Q0 p):=⟨(inferInstance:Im (.tuple [.int p.1,.int p.2.1,Cn p.2.2])).h⟩
instance {p:Nat×Nat×List Int}:Dp (Q0 p) 2:=⟨(inferInstance:Dp (.tuple [.int p.1,.int p.2.1,Cn p.2.2]) 2).h⟩
def GL(L:List (List Int))(f:List Int->Int):Ac:=.list ((L.map f).map Ag)
instance {L:List (List Int)} {f:List Int->Int}:Dp (GL L f) 1:=⟨(inferInstance:Dp (.list ((L.map f).map Ag)) 1).h⟩
theorem Yd{L:List (List Int)}(p:L.Perm (Ea n)):L.Nodup:=p.nodup_iff.mpr (Qr n)
theorem uX(ha:Lj n a)(hb:Lj m b)(h:∀i,i∈a↔i∈b):a=b:=by
 have p:a.Perm b:=(List.perm_ext_iff_of_nodup (pM ha) (pM hb)).mpr h
 exact p.eq_of_pairwise (λx y _ _ h1 h2=>by omega) ha.1 hb.1
end DL
namespace DL
open PySem PySem.Spec PyProof.Rows L2 Nd
def Rh(L:List (List Int))(f:List Int->Int):List (List Int×Ac):=L.map λw=>(w,.int (f w))
theorem kX:∀(L:List (List Int)) (es:List Ac) (acc:List (List Int×Ac)),L.length=es.length->L.Nodup->(∀w∈L,∀p∈acc,p.1≠w)->Rc acc (L.zip es)=acc++L.zip es
 | [],es,acc,_,_,_=>by simp [Rc]
 | w::L,[],acc,h,_,_=>by cases h
 | w::L,e::es,acc,h,nd,hn=>by
  have hp:Rn acc w e=acc++[(w,e)]:=by
   unfold Rn
   rw[if_neg]
   rw[List.any_eq_true]
   (intro q_; obtain ⟨p,hp,z⟩ := q_)
   exact hn w Ab p hp (of_decide_eq_true z)
  have nd':=By.mp nd
  show Rc (Rn acc w e) (L.zip es)=_
  rw[hp,kX L es _ (Nat.succ.inj h) nd'.2 λv hv p hp=>?_]
  ·rw[Bw]; rfl
  ·rcases Ay.mp hp with z | z
   ·exact hn v (Ae _ hv) p z
   ·rw[Af.mp z]
    rintro rfl
    exact nd'.1 hv
theorem jZ:∀(L:List (List Int)) (f:List Int->Int),L.zip ((L.map f).map Ag)=Rh L f
 | [],f=>rfl
 | w::L,f=>by
  have ih:=jZ L f
  unfold Rh at ih ⊢
  rw[Aw,Aw,Xv,ih]
  rfl
theorem xN(nd:L.Nodup)(f:List Int->Int):Rc [] (L.zip ((L.map f).map Ag))=Rh L f:=by
 rw[kX L _ [] (by rw[Ad,Ad]) nd λ_ _ p hp=>(nomatch hp),List.nil_append,jZ]
theorem Tb:∀{L:List (List Int)},w∈L->Yx (Rh L f) w=some (.int (f w))
 | [],h=>(nomatch h)
 | v::L,h=>by
  unfold Yx Rh
  rw[Aw,Ja]
  by_cases e:v=w
  ·subst e
   rw[show decide ((v,Ag (f v)).1=v)=true from decide_eq_true rfl]
   rfl
  ·rw[show decide ((v,Ag (f v)).1=w)=false from decide_eq_false e]
   have ih:=Tb (f:=f) (List.mem_of_ne_of_mem (λz=>e z.symm) h)
   exact ih
end DL
namespace K33
open PySem L2 Nd DL
local macro_rules | `(tactic| array_get_dec) => do
  let ids:=(("e_seq e_skip e_ret e_if e_asg e_name e_name2 e_name4 e_own e_own2 e_nF e_gtup e_gsn e_gsc e_op e_var e_c e_imm e_immB e_take e_I e_I0 e_eqF e_eqT e_inFt_w1 e_inTt_w1 e_ixl e_cat e_rep e_nlT e_ntT e_pkOfpk e_pkOfsh e_pkOfow e_mdInsh e_mdInow e_mdItsh e_mdItow e_nil e_cons e_lst e_noPart e_part e_partB e_sl e_slBl e_cb e_lenl e_lent_w1 e_listl e_tuplel e_intb e_max2 e_min2 e_MinL e_all e_isi e_str e_v e_b e_bB e_notT e_andT e_orT e_orTt e_orTf e_not e_notB e_and e_andt e_andf e_neg e_negB e_dL e_dTp e_lB e_tpB_w1 e_range1 e_rng1B e_enum e_enumB e_for e_comp e_comp2 e_compL e_stepL e_stepLT e_compD e_noTest e_step e_stepT e_stepF e_yesB e_stepD e_stepDT e_yesBD e_call e_callW e_draws e_drawsB e_append e_revL e_appendO e_suml e_sumt_w1 e_scrSl e_dnew e_dput e_dictZ e_dictZB e_tagD e_inew e_iput e_getI e_isIc2 e_tagI e_forN e_sortK e_MaxD e_callA e_callWS e_callWSB dgetN_e isIct iputB ik_e getI_e ow_npk callWSD retWT callAB retA retA_tp isDct dputB dk_e dget_e wordsD callB callBW lstB datas pkMd allOw noPk appB appOB mmd revLB own1 npk retE retW retL args0 frD frD1 alD List.map_cons List.map_nil List.replicate List.getElem?_cons_zero List.getElem?_cons_succ List.set_cons_zero List.set_cons_succ List.cons_append List.nil_append Option.map_some List.length_cons List.length_nil List.append_nil rdAdd rdSub rdMul rdDiv rdMod rdPow rdXor rdLt rdLe rdGt rdGe if_true if_false Bool.false_eq_true List.append_assoc Nat.reduceAdd Nat.reduceSub Nat.reduceLeDiff true_and im_e ima_e dp_e dpa_e any_int eqD_intd eqD_bl eqD_str eqD_li eqD_l0 ow_e tt_e cdiv_e cpow_e Int.reduceLT Int.reduceLE Int.reduceNeg and_self Int.reduceToNat Int.reducePow fold_w isi_ib isi_ii isi_bb Bool.not_true Bool.not_false decide_true String.reduceEq or_true true_or ifB_lt ifB_lf isi_si isi_sb str_self yesL_ow catL_tpow" : String).splitOn " ").toArray.map λ(x:String)=>Lean.mkIdent x.toName
  `(tactic| try simp only [$[$ids:ident],*])
section
variable{P:Bs}{w:World}{K:PySem.W.Frag}{mg:Str->Option Value}{base:Heap}
theorem Xi:FnScope ["holes", "words", "place"] ["holes"] (Bm Mj):=⟨rfl,rfl,rfl,by decide +kernel,rfl,by decide +kernel,by decide +kernel⟩
theorem cX(F:Fun K "all_words" "all_words" Mj f fd)(mR:mg "range" = none)(mS:mg "sorted" = none):FnOk P w K mg base Gp 1 f fd ["holes"] hZ:=by
 refine F.ok Xi (λvs H Q E h=>?_) (λcdv A outer s H vs Q E hr h=>?_)
 ·obtain ⟨h,rfl,_⟩:=h
  rfl
 obtain ⟨h,rfl,h0,h1,q⟩:=h
 have hu2:(A.deeper (PyProof.Rows.envOfC "all_words" (Bm Mj) s.heap.objs.size f cdv)).units+2<cLine:=Iw (Nat.add_le_add_left (by decide:2<=64) _) hr.units
 refine ⟨_,Hx (Pp (i:=1) Xi.nd rfl (Eh rfl) (bC (Gs (aD Kr) Kr)))
  (Hx (iL Ex rfl (Xd rfl mR (Gs (pv 0) Kr)) (Ow (i:=2) Xi.nd rfl (Oq rfl))
   (Ni (Pp (i:=1) Xi.nd rfl (Eh rfl) (Hv gZ (pv 1)
    (Vg (bG (x := "word") (y := "place") (j:=2) (cl:=[("place",s.heap.objs.size+1)]) (by rfl) (by decide +kernel) (by rfl) (by decide +kernel) (by rfl) (λ_ _ h=>h) (by rfl) (by decide +kernel) (by rfl) (by rfl) (by rfl)) rfl (gG (pv 1)) (λ_ _ _=>cH)
     (λ_ _ _=>Hv (r:=yH K) rG (pv 0) (aD (Gs (pv 1) Kr))))))))
  (Ni (Um (cE (Ts.call_sorted hu2) rfl mS (by decide +kernel) (Gs (pv 1) Kr))))),?_⟩
 refine ⟨(by show 0<=Au; decide),λe ne=>⟨(by show 1<=Au; decide),λl nl=>?_⟩⟩
 have s1:=(Dl ne (.tup [])).trans (Dl nl (.lst [V.ref e]))
 have b1:(upd (upd H e (.tup [])) l (.lst [V.ref e])) l=some (.lst (([(e,[])].map λp:Addr×List Int=>p.1).map V.ref)):=Cp
 have b2:Ws (upd (upd H e (.tup [])) l (.lst [V.ref e])) [(e,[])]:=λp hp=>by
  have : p=(e,[]):=by simpa using hp
  rw[this]
  exact Dl nl _ _ _ Cp
 refine ⟨_,rfl,h,rfl,by omega,by omega,fM (lo:=0) (n:=h.toNat) (λi σ H2=>∃(l:Addr) (ws:List (Addr×List Int)) (pl:Option V),σ=[some (.int h),some (.ref l),pl]/\H2 l=some (.lst ((ws.map λp:Addr×List Int=>p.1).map V.ref))/\Ws H2 ws/\(ws.map λp:Addr×List Int=>p.2)=Ea i/\Ms H H2)
  ⟨l,[(e,[])],none,rfl,b1,b2,rfl,s1⟩ ?_ ?_⟩
 ·(intro i σ H2 hi q_; obtain ⟨l,ws,pl,rfl,e1,hw,ew,sm⟩ := q_)
  have i10:i<=10:=by omega
  have lw:ws.length=(Ea i).length:=by rw[<- ew,Ad]
  have lz:=Qw i10
  have hz:((ws.map λp:Addr×List Int=>p.1).map V.ref).length=(Ea i).length:=by rw[Ad,Ad,lw]
  refine ⟨_,rfl,_,rfl,l,rfl,⟨_,Mc.of e1⟩,qU (Yi (xs:=(ws.map λp:Addr×List Int=>p.1).map V.ref)) (by rw[hz]; exact Bz lz (by decide))
   (λD j acc H3=>∃vs:List (Addr×List Int),acc=((vs.map λp:Addr×List Int=>p.1).map V.ref)/\Ws H3 vs/\(vs.map λp:Addr×List Int=>p.2)=((Ea i).take j).map (·++[(i:Int)])/\Ms H2 H3)
   (λD nD=>⟨[],rfl,λp hp=>(nomatch hp),by simp,Dl nD _⟩) (λD j acc H3 ⟨_,_,_,_,s3⟩=>Mc.of (s3 _ _ e1)) ?_ ?_⟩
  ·(intro D j x acc H3 nD hx ha q_; obtain ⟨vs,rfl,wv,ev,s3⟩ := q_)
   refine yR ?_
   rw[Ce,Be] at hx
   cases hj:ws[j]? with
   | none=>rw[hj] at hx; cases hx
   | some pr =>
    obtain ⟨a,wd⟩:=pr
    rw[hj] at hx
    have ex:V.ref a=x:=Bp hx
    subst ex
    have ha2:H3 a=some (.tup (wd.map V.int)):=s3 _ _ (hw (a,wd) (Ax hj))
    have ewd:(Ea i)[j]? = some wd:=by
     rw[<- ew,Be,hj]
     rfl
    have lwd:wd.length<=10:=Bz (Ml i wd (Ax ewd)) i10
    -- the new word stands at r
    have fin:∀(r:Addr) (H4:Hp),Ms H3 H4->H4 r=some (.tup ((wd++[(i:Int)]).map V.int))->H4 D=some (.lst ((vs.map λp:Addr×List Int=>p.1).map V.ref)) /\
      ∃vs':List (Addr×List Int),(vs.map λp:Addr×List Int=>p.1).map V.ref++[V.ref r]=(vs'.map λp:Addr×List Int=>p.1).map V.ref/\Ws (upd H4 D (.lst ((vs.map λp:Addr×List Int=>p.1).map V.ref++[V.ref r]))) vs' /\
       (vs'.map λp:Addr×List Int=>p.2)=((Ea i).take (j+1)).map (·++[(i:Int)])/\Ms H2 (upd H4 D (.lst ((vs.map λp:Addr×List Int=>p.1).map V.ref++[V.ref r]))):=λr H4 s4 hr4=>by
     have hD4:=s4 _ _ ha
     refine ⟨hD4,vs++[(r,wd++[(i:Int)])],by simp,λp hp=>?_,?_,λb o z=>?_⟩
     ·have hp4:H4 p.1=some (.tup (p.2.map V.int)):=by
       rcases Ay.mp hp with hp | hp
       ·exact s4 _ _ (wv p hp)
       ·have : p=(r,wd++[(i:Int)]):=by simpa using hp
        rw[this]
        exact hr4
      rw[Cy (sD hp4 hD4 (by intro z; cases z))]
      exact hp4
     ·rw[Bi,ev,Kt ewd,Bi]
      rfl
     ·rw[Cy (Dw z nD)]
      exact s4 _ _ (s3 _ _ z)
    refine ⟨_,rfl,_,rfl,(by show 1<=Au; decide),λp1 np1=>?_⟩
    have s4:=Dl np1 (.tup [V.int (0+(i:Int))])
    refine ⟨a,p1,_,_,rfl,rfl,Uh.of (s4 _ _ ha2),Uh.of Cp,(λz=>nomatch z),?_,λz=>?_,λz p2 np2=>?_⟩
    ·rw[Ad]
     show wd.length+1<=Au
     exact dZ (by omega)
    ·have e0:wd=[]:=by simpa using z
     subst e0
     exact fin p1 _ s4 (by rw[Cp,Zr]; rfl)
    ·refine fin p2 _ (s4.trans (Dl np2 _)) ?_
     rw[Cp,Bi,Zr]
     rfl
  ·(intro D acc H3 nD ha q_; obtain ⟨vs,rfl,wv,ev,s3⟩ := q_)
   rw[hz,Ga] at ev
   have lv:vs.length=(Ea i).length:=by
    have:=congrArg Fb ev
    rw[Ad,Ad] at this
    exact this
   refine ⟨l,D,_,_,rfl,rfl,s3 _ _ e1,ha,?_,λp np=>?_⟩
   ·rw[Ad,Ad,Ad,Ad,lw,lv]
    exact Bz (by omega:_<=2048) (by decide)
   ·have s4:=Dl np (.lst ((ws.map λp:Addr×List Int=>p.1).map V.ref++(vs.map λp:Addr×List Int=>p.1).map V.ref))
    refine ⟨p,ws++vs,_,rfl,?_,λx hx=>?_,?_,(sm.trans s3).trans s4⟩
    ·rw[Cp,Bi,Bi]
    ·rcases Ay.mp hx with hx | hx
     ·exact s4 _ _ (s3 _ _ (hw x hx))
     ·exact s4 _ _ (wv x hx)
    ·rw[Bi,ew,ev]
     rfl
 ·(intro σ H2 q_; obtain ⟨l,ws,pl,rfl,e1,hw,ew,sm⟩ := q_)
  have ec:=hw.c
  refine ⟨_,rfl,l,ws.map (λp:Addr×List Int=>p.1),xM H2,rfl,Mc.of e1,λr hr'=>?_,λr Gj er=>?_,λp rs' np pr so=>?_⟩
  ·obtain ⟨x,hx,e⟩:=Bu.mp hr'
   subst e
   rw[Ur (hw x hx)]
   exact Uh.of (hw x hx)
  ·obtain ⟨tl,et⟩:=Rm h.toNat
   rw[<- ew] at et
   cases ws with
   | nil=>cases er
   | cons x ws' =>
    have e1:x.1=r:=by
     have:=congrArg List.head? er
     simpa using this
    have e2:x.2=[]:=by
     have:=congrArg List.head? et
     simpa using this
    rw[<- e1,Ur (hw x Ab),e2]
  ·have s3:=Dl np (.lst (rs'.map V.ref))
   refine q p rs' (rs'.map (xM H2)) _ (sm.free np) Cp (λi r wd h1 h2=>?_) (by rw[Ad]) ?_ ?_ (sm.trans s3)
   ·rw[Be,h1] at h2
    have e2:xM H2 r=wd:=Bp h2
    obtain ⟨x,hx,e⟩:=Bu.mp (pr.mem_iff.mp (Ax h1))
    have hx':=hw x hx
    have e':x.1=r:=e
    rw[<- e2,<- e',Ur hx']
    exact s3 _ _ hx'
   ·have:=pr.map (xM H2)
    rw[ec,ew] at this
    exact this
   ·exact Zd.mpr so
theorem iU(F:Fun K "all_words" "all_words" Mj f fd)(mR:mg "range" = none)(mS:mg "sorted" = none):FnOk P w K mg base Gp 1 f fd ["holes"] (Tf K Wd):=kN (cX F mR mS)
theorem Xe:FnScope ["_law_holes_here", "_law_found", "_law_place"] ["_law_holes_here"] (Bm Lc):=⟨rfl,rfl,rfl,by decide +kernel,rfl,by decide +kernel,by decide +kernel⟩
theorem aZ(F:Fun K "_law_words" "_law_words" Lc f fd)(mR:mg "range" = none)(mS:mg "sorted" = none):FnOk P w K mg base Gp 1 f fd ["_law_holes_here"] hZ:=by
 refine F.ok Xe (λvs H Q E h=>?_) (λcdv A outer s H vs Q E hr h=>?_)
 ·obtain ⟨h,rfl,_⟩:=h
  rfl
 obtain ⟨h,rfl,h0,h1,q⟩:=h
 have hu2:(A.deeper (PyProof.Rows.envOfC "_law_words" (Bm Lc) s.heap.objs.size f cdv)).units+2<cLine:=Iw (Nat.add_le_add_left (by decide:2<=64) _) hr.units
 refine ⟨_,Hx (Pp (i:=1) Xe.nd rfl (Eh rfl) (bC (Gs (aD Kr) Kr)))
  (Hx (iL Ex rfl (Xd rfl mR (Gs (pv 0) Kr)) (Ow (i:=2) Xe.nd rfl (Oq rfl))
   (Ni (Pp (i:=1) Xe.nd rfl (Eh rfl) (Hv gZ (pv 1)
    (Vg (bG (x := "_law_word") (y := "_law_place") (j:=2) (cl:=[("_law_place",s.heap.objs.size+1)]) (by rfl) (by decide +kernel) (by rfl) (by decide +kernel) (by rfl) (λ_ _ h=>h) (by rfl) (by decide +kernel) (by rfl) (by rfl) (by rfl)) rfl (gG (pv 1)) (λ_ _ _=>cH)
     (λ_ _ _=>Hv (r:=yH K) rG (pv 0) (aD (Gs (pv 1) Kr))))))))
  (Ni (Um (cE (Ts.call_sorted hu2) rfl mS (by decide +kernel) (Gs (pv 1) Kr))))),?_⟩
 refine ⟨(by show 0<=Au; decide),λe ne=>⟨(by show 1<=Au; decide),λl nl=>?_⟩⟩
 have s1:=(Dl ne (.tup [])).trans (Dl nl (.lst [V.ref e]))
 have b1:(upd (upd H e (.tup [])) l (.lst [V.ref e])) l=some (.lst (([(e,[])].map λp:Addr×List Int=>p.1).map V.ref)):=Cp
 have b2:Ws (upd (upd H e (.tup [])) l (.lst [V.ref e])) [(e,[])]:=λp hp=>by
  have : p=(e,[]):=by simpa using hp
  rw[this]
  exact Dl nl _ _ _ Cp
 refine ⟨_,rfl,h,rfl,by omega,by omega,fM (lo:=0) (n:=h.toNat) (λi σ H2=>∃(l:Addr) (ws:List (Addr×List Int)) (pl:Option V),σ=[some (.int h),some (.ref l),pl]/\H2 l=some (.lst ((ws.map λp:Addr×List Int=>p.1).map V.ref))/\Ws H2 ws/\(ws.map λp:Addr×List Int=>p.2)=Ea i/\Ms H H2)
  ⟨l,[(e,[])],none,rfl,b1,b2,rfl,s1⟩ ?_ ?_⟩
 ·(intro i σ H2 hi q_; obtain ⟨l,ws,pl,rfl,e1,hw,ew,sm⟩ := q_)
  have i10:i<=10:=by omega
  have lw:ws.length=(Ea i).length:=by rw[<- ew,Ad]
  have lz:=Qw i10
  have hz:((ws.map λp:Addr×List Int=>p.1).map V.ref).length=(Ea i).length:=by rw[Ad,Ad,lw]
  refine ⟨_,rfl,_,rfl,l,rfl,⟨_,Mc.of e1⟩,qU (Yi (xs:=(ws.map λp:Addr×List Int=>p.1).map V.ref)) (by rw[hz]; exact Bz lz (by decide))
   (λD j acc H3=>∃vs:List (Addr×List Int),acc=((vs.map λp:Addr×List Int=>p.1).map V.ref)/\Ws H3 vs/\(vs.map λp:Addr×List Int=>p.2)=((Ea i).take j).map (·++[(i:Int)])/\Ms H2 H3)
   (λD nD=>⟨[],rfl,λp hp=>(nomatch hp),by simp,Dl nD _⟩) (λD j acc H3 ⟨_,_,_,_,s3⟩=>Mc.of (s3 _ _ e1)) ?_ ?_⟩
  ·(intro D j x acc H3 nD hx ha q_; obtain ⟨vs,rfl,wv,ev,s3⟩ := q_)
   refine yR ?_
   rw[Ce,Be] at hx
   cases hj:ws[j]? with
   | none=>rw[hj] at hx; cases hx
   | some pr =>
    obtain ⟨a,wd⟩:=pr
    rw[hj] at hx
    have ex:V.ref a=x:=Bp hx
    subst ex
    have ha2:H3 a=some (.tup (wd.map V.int)):=s3 _ _ (hw (a,wd) (Ax hj))
    have ewd:(Ea i)[j]? = some wd:=by
     rw[<- ew,Be,hj]
     rfl
    have lwd:wd.length<=10:=Bz (Ml i wd (Ax ewd)) i10
    -- the new word stands at r
    have fin:∀(r:Addr) (H4:Hp),Ms H3 H4->H4 r=some (.tup ((wd++[(i:Int)]).map V.int))->H4 D=some (.lst ((vs.map λp:Addr×List Int=>p.1).map V.ref)) /\
      ∃vs':List (Addr×List Int),(vs.map λp:Addr×List Int=>p.1).map V.ref++[V.ref r]=(vs'.map λp:Addr×List Int=>p.1).map V.ref/\Ws (upd H4 D (.lst ((vs.map λp:Addr×List Int=>p.1).map V.ref++[V.ref r]))) vs' /\
       (vs'.map λp:Addr×List Int=>p.2)=((Ea i).take (j+1)).map (·++[(i:Int)])/\Ms H2 (upd H4 D (.lst ((vs.map λp:Addr×List Int=>p.1).map V.ref++[V.ref r]))):=λr H4 s4 hr4=>by
     have hD4:=s4 _ _ ha
     refine ⟨hD4,vs++[(r,wd++[(i:Int)])],by simp,λp hp=>?_,?_,λb o z=>?_⟩
     ·have hp4:H4 p.1=some (.tup (p.2.map V.int)):=by
       rcases Ay.mp hp with hp | hp
       ·exact s4 _ _ (wv p hp)
       ·have : p=(r,wd++[(i:Int)]):=by simpa using hp
        rw[this]
        exact hr4
      rw[Cy (sD hp4 hD4 (by intro z; cases z))]
      exact hp4
     ·rw[Bi,ev,Kt ewd,Bi]
      rfl
     ·rw[Cy (Dw z nD)]
      exact s4 _ _ (s3 _ _ z)
    refine ⟨_,rfl,_,rfl,(by show 1<=Au; decide),λp1 np1=>?_⟩
    have s4:=Dl np1 (.tup [V.int (0+(i:Int))])
    refine ⟨a,p1,_,_,rfl,rfl,Uh.of (s4 _ _ ha2),Uh.of Cp,(λz=>nomatch z),?_,λz=>?_,λz p2 np2=>?_⟩
    ·rw[Ad]
     show wd.length+1<=Au
     exact dZ (by omega)
    ·have e0:wd=[]:=by simpa using z
     subst e0
     exact fin p1 _ s4 (by rw[Cp,Zr]; rfl)
    ·refine fin p2 _ (s4.trans (Dl np2 _)) ?_
     rw[Cp,Bi,Zr]
     rfl
  ·(intro D acc H3 nD ha q_; obtain ⟨vs,rfl,wv,ev,s3⟩ := q_)
   rw[hz,Ga] at ev
   have lv:vs.length=(Ea i).length:=by
    have:=congrArg Fb ev
    rw[Ad,Ad] at this
    exact this
   refine ⟨l,D,_,_,rfl,rfl,s3 _ _ e1,ha,?_,λp np=>?_⟩
   ·rw[Ad,Ad,Ad,Ad,lw,lv]
    exact Bz (by omega:_<=2048) (by decide)
   ·have s4:=Dl np (.lst ((ws.map λp:Addr×List Int=>p.1).map V.ref++(vs.map λp:Addr×List Int=>p.1).map V.ref))
    refine ⟨p,ws++vs,_,rfl,?_,λx hx=>?_,?_,(sm.trans s3).trans s4⟩
    ·rw[Cp,Bi,Bi]
    ·rcases Ay.mp hx with hx | hx
     ·exact s4 _ _ (s3 _ _ (hw x hx))
     ·exact s4 _ _ (wv x hx)
    ·rw[Bi,ew,ev]
     rfl
 ·(intro σ H2 q_; obtain ⟨l,ws,pl,rfl,e1,hw,ew,sm⟩ := q_)
  have ec:=hw.c
  refine ⟨_,rfl,l,ws.map (λp:Addr×List Int=>p.1),xM H2,rfl,Mc.of e1,λr hr'=>?_,λr Gj er=>?_,λp rs' np pr so=>?_⟩
  ·obtain ⟨x,hx,e⟩:=Bu.mp hr'
   subst e
   rw[Ur (hw x hx)]
   exact Uh.of (hw x hx)
  ·obtain ⟨tl,et⟩:=Rm h.toNat
   rw[<- ew] at et
   cases ws with
   | nil=>cases er
   | cons x ws' =>
    have e1:x.1=r:=by
     have:=congrArg List.head? er
     simpa using this
    have e2:x.2=[]:=by
     have:=congrArg List.head? et
     simpa using this
    rw[<- e1,Ur (hw x Ab),e2]
  ·have s3:=Dl np (.lst (rs'.map V.ref))
   refine q p rs' (rs'.map (xM H2)) _ (sm.free np) Cp (λi r wd h1 h2=>?_) (by rw[Ad]) ?_ ?_ (sm.trans s3)
   ·rw[Be,h1] at h2
    have e2:xM H2 r=wd:=Bp h2
    obtain ⟨x,hx,e⟩:=Bu.mp (pr.mem_iff.mp (Ax h1))
    have hx':=hw x hx
    have e':x.1=r:=e
    rw[<- e2,<- e',Ur hx']
    exact s3 _ _ hx'
   ·have:=pr.map (xM H2)
    rw[ec,ew] at this
    exact this
   ·exact Zd.mpr so
theorem dF(F:Fun K "_law_words" "_law_words" Lc f fd)(mR:mg "range" = none)(mS:mg "sorted" = none):FnOk P w K mg base Gp 1 f fd ["_law_holes_here"] (Tf K Wd):=kN (aZ F mR mS)
end
def dM(w u:List Int):Bool:=w.all λi=>decide (i∈u)
def uC(face:List Int)(w:List Int)(v:Int)(p:List Int×Nat):Bool:=decide (face[p.2]? = some v) && dM w p.1
def kR(ws:List (List Int))(face:List Int)(w:List Int)(v:Int):List (List Int×Nat):=ws.zipIdx.filter (uC face w v)
def mK:PF:=λds R=>∃a b:List Int,ds=[Cn a,Cn b]/\R (.bool (dM a b))
def j4:PF:=λds R=>∃(ws:List (List Int)) (face w:List Int) (v:Int),ds=[.list (ws.map Cn),.list (face.map Ag),Cn w,.int v]/\ws.length=face.length/\R (.list ((kR ws face w v).map λp=>.int p.2))
def u4:PF:=λds R=>∃w:List Int,ds=[Cn w]/\∀v:Int,R (.int v)
def qP:DF:=λds n R=>ds=[]/\n<=90000/\∀h:Int,1<=h->h<=7->R (.int h) (n+1)
def lD:DF:=λds n R=>ds=[]/\n<=90000/\∀h:Int,2<=h->h<=16->R (.int h) (n+1)
def fN:DF:=λds n R=>∃(ws:List (List Int)) (v:Int),ds=[.list (ws.map Cn),.int v]/\0<v/\v<=16/\ws.length<=1024/\(∀w∈ws,w.length<=10)/\n<=90000/\∀face:List Int,face.length=ws.length->R (.list (face.map Ag)) (n+1+ws.length)
section
variable{P:Bs}{w:World}{K:PySem.W.Frag}{mg:Str->Option Value}{base:Heap}
theorem uI:FnScope ["one", "other"] ["one", "other"] (Bm Wf):=⟨rfl,rfl,rfl,by decide +kernel,rfl,by decide +kernel,by decide +kernel⟩
theorem uH(F:Fun K "within" "within" Wf f fd)(mz_all:mg "all" = none):FnOk P w K mg base Gp 1 f fd ["one", "other"] (Tf K (mK)):=by
 refine' Kk (k:=0) F uI (λcdv A outer s H E hr=>?hb) ?h
 case hb =>
  have hu64:=hr.units
  have CS1:∀{scope:Scope} (h:scope={ kind:=.function,names:=[(".0",.local),("place",.local),("other",.free)],isGenerator:=false,isCoroutine:=false }),
    CompScope (Iy Gp P w K mg base ["one", "other"] "within" (Bm Wf) f cdv A outer s H E).nox scope [("other",s.heap.objs.size+1)] "place" ["other"] [1]:=by
   rintro scope rfl
   refine ⟨by rfl,.inl (by decide +kernel),by rfl,by decide +kernel,.inl rfl,λy c h=>?_,by rfl,by decide +kernel,rfl,λk y j e1 e2=>?_⟩
   ·have z:=Dv h
    simp only[Ah,Av,or_false,Eb] at z
    obtain ⟨rfl,rfl⟩:=z; rfl
   ·match k,e1,e2 with
    | 0,e1,e2=>cases e1; cases e2; exact ⟨rfl,rfl,by first | exact .inl rfl | exact .inr rfl⟩
    | k+1,e1,e2=>cases e1
  exact Eo (Gg (Dj (cI rfl) nB rfl mz_all (by decide +kernel) (An (Ir (CS1 rfl) rfl (FW (Ar (pv 0))) (λ_ _ _=>Hw) (λ_ _ _=>BS hu64 (Ar (pv 0)) (Ar (pv 1)))) Bh)))
 case h =>
  (intro ds R q_; obtain ⟨a,b,rfl,hR⟩ := q_)
  refine ⟨rfl,?_⟩
  array_get_dec
  refine Ua (l:=a) (g:=Ag) rfl (λi=>.bool (decide (i∈b))) (λi _ yes no hy=>?_) ?_
  ·array_get_dec
   exact hy
  ·array_get_dec
   refine ⟨a.map λi=>decide (i∈b),by rw[Ce]; rfl,?_⟩
   rw[Os]
   exact hR
theorem nX:FnScope ["words", "reading", "word", "value"] ["words", "reading", "word", "value"] (Bm Tg):=⟨rfl,rfl,rfl,by decide +kernel,rfl,by decide +kernel,by decide +kernel⟩
theorem nW(F:Fun K "showing" "showing" Tg f fd)(G_within:FnOk P w K mg base Gp 1 f_within d_within ["one", "other"] (Tf K (mK)))(b_within:Binds K d_within ["one", "other"] [])(k_within:PySem.W.keepIn K (.ref f_within)=true)(m_within:mg "within" = some (.ref f_within))(mz_enumerate:mg "enumerate" = none):FnOk P w K mg base Gp 2 f fd ["words", "reading", "word", "value"] (Tf K (j4)):=by
 refine' Kk (k:=1) F nX (λcdv A outer s H E hr=>?hb) ?h
 case hb =>
  have hr1:Room 1 _:=hr.mono (by decide)
  have hu64:=hr.units
  have CS1:∀{scope:Scope} (h:scope={ kind:=.function,names:=[(".0",.local),("at",.local),("other",.local),("within",.globalImplicit),("reading",.free),("value",.free),("word",.free)],isGenerator:=false,isCoroutine:=false }),
    CompScope (Iy Gp P w K mg base ["words", "reading", "word", "value"] "showing" (Bm Tg) f cdv A outer s H E).nox scope [("word",s.heap.objs.size+2),("value",s.heap.objs.size+3),("reading",s.heap.objs.size+1)] "at" ["reading", "value", "word"] [1,3,2]:=by
   rintro scope rfl
   refine ⟨by rfl,.inl (by decide +kernel),by rfl,by decide +kernel,.inl rfl,λy c h=>?_,by rfl,by decide +kernel,rfl,λk y j e1 e2=>?_⟩
   ·have z:=Dv h
    simp only[Ah,Av,or_false,Eb] at z
    rcases z with ⟨rfl,rfl⟩ | ⟨rfl,rfl⟩ | ⟨rfl,rfl⟩ <;> rfl
   ·match k,e1,e2 with
    | 0,e1,e2=>cases e1; cases e2; exact ⟨rfl,rfl,by first | exact .inl rfl | exact .inr rfl⟩
    | 1,e1,e2=>cases e1; cases e2; exact ⟨rfl,rfl,by first | exact .inl rfl | exact .inr rfl⟩
    | 2,e1,e2=>cases e1; cases e2; exact ⟨rfl,rfl,by first | exact .inl rfl | exact .inr rfl⟩
    | k+3,e1,e2=>cases e1
  exact Eo (Gg (lH (CS1 rfl) (.inl rfl) (by decide +kernel) rfl (fV rfl mz_enumerate (An (Ar (pv 0)) Bh)) (λ_ _ _=>Pd (sR (zM (zB hu64 (Ic (Ar (pv 2)) (Ar (pv 0))) (Ar (pv 3))) (qH (Pq (Ig G_within hr1 rfl m_within k_within b_within Gv (An (Ar (pv 4)) (An (Ar (pv 1)) Bh)))))))) (λ_ _ _=>Ar (pv 0))))
 case h =>
  (intro ds R q_; obtain ⟨ws,face,w,v,rfl,hl,hR⟩ := q_)
  refine ⟨rfl,?_⟩
  array_get_dec
  refine xW (l:=ws.zipIdx) (g1:=λp=>.int p.2) (g2:=λp=>Cn p.1) (by rw[rE,Ce]; rfl) (uC face w v) (λp=>.int p.2) (λp hp yes no hy hn=>?_) ?_
  ·obtain ⟨k,hk⟩:=Fw.mp hp
   obtain ⟨ek,hp1,hp2,hp3⟩:=bQ hk
   obtain ⟨x,e1,e2,e3⟩:=Ny (l:=face) (i:=(p.2:Int)) (by omega) (by omega)
   rw[Gm] at e1
   have hh:uC face w v p=(decide (x=v) && dM w p.1):=by
    unfold uC
    rw[e1]
    congr 1
    simp
   rw[hh] at hy hn
   array_get_dec
   refine ⟨.int x,by rw[Ss,e2]; rfl,dp,?_⟩
   array_get_dec
   refine i8 (λh1=>?_) (λh1=>?_)
   ·array_get_dec
    refine ⟨w,p.1,rfl,?_⟩
    refine Oy (λh2=>?_) (λh2=>?_)
    ·array_get_dec
     exact hy (by rw[h1,h2]; rfl)
    ·exact hn (by rw[h1,h2]; rfl)
   ·array_get_dec
    exact hn (by rw[h1]; rfl)
  ·array_get_dec
   exact hR
theorem iD:FnScope ["_law_one", "_law_other"] ["_law_one", "_law_other"] (Bm Ou):=⟨rfl,rfl,rfl,by decide +kernel,rfl,by decide +kernel,by decide +kernel⟩
theorem gD(F:Fun K "_law_lies" "_law_lies" Ou f fd):FnOk P w K mg base Gp 1 f fd ["_law_one", "_law_other"] (Tf K (mK)):=by
 refine' Kk (k:=0) F iD (λcdv A outer s H E hr=>?hb) ?h
 case hb =>
  have hu64:=hr.units
  have CS1:∀{scope:Scope} (h:scope={ kind:=.function,names:=[(".0",.local),("_law_place",.local),("_law_other",.free)],isGenerator:=false,isCoroutine:=false }),
    CompScope (Iy Gp P w K mg base ["_law_one", "_law_other"] "_law_lies" (Bm Ou) f cdv A outer s H E).nox scope [("_law_other",s.heap.objs.size+1)] "_law_place" ["_law_other"] [1]:=by
   rintro scope rfl
   refine ⟨by rfl,.inl (by decide +kernel),by rfl,by decide +kernel,.inl rfl,λy c h=>?_,by rfl,by decide +kernel,rfl,λk y j e1 e2=>?_⟩
   ·have z:=Dv h
    simp only[Ah,Av,or_false,Eb] at z
    obtain ⟨rfl,rfl⟩:=z; rfl
   ·match k,e1,e2 with
    | 0,e1,e2=>cases e1; cases e2; exact ⟨rfl,rfl,by first | exact .inl rfl | exact .inr rfl⟩
    | k+1,e1,e2=>cases e1
  exact Eo (Gg (jR hu64 (Ir (CS1 rfl) rfl (FW (Ar (pv 0))) (λ_ _ _=>Pd (b0 hu64 (Ar (pv 0)) (Ar (pv 1)))) (λ_ _ _=>Ar (pv 0))) (Fp Bh)))
 case h =>
  (intro ds R q_; obtain ⟨a,b,rfl,hR⟩ := q_)
  refine ⟨rfl,?_⟩
  array_get_dec
  refine cA (l:=a) (g:=Ag) rfl (λi=>decide (i∉b)) (λi=>.int i) (λi _ yes no hy hn=>?_) ?_
  ·array_get_dec
   refine Oy (λh=>?_) (λh=>?_)
   ·array_get_dec
    exact hy (by simpa using h)
   ·exact hn (by simpa using h)
  ·array_get_dec
   rw[show ((a.filter λi=>decide (i∉b)).map λi=>Ag i).isEmpty=dM a b from ?_]
   ·exact hR
   ·unfold dM
    rw[Tr,cT,List.map_eq_nil_iff,Si,Dh]
    simp
theorem aR:FnScope ["_law_word", "_law_value", "_law_place"] ["_law_word"] (Bm Pk):=⟨rfl,rfl,rfl,by decide +kernel,rfl,by decide +kernel,by decide +kernel⟩
theorem aG(F:Fun K "_law_folded" "_law_folded" Pk f fd):FnOk P w K mg base Gp 1 f fd ["_law_word"] (Tf K (u4)):=by
 refine' Kk (k:=0) F aR (λcdv A outer s H E hr=>?hb) ?h
 case hb =>
  have hu64:=hr.units
  exact Da (Gz (i:=1) aR.nd rfl (Eh rfl) Cj)
   (Da (Sg Ex rfl (FW (Ar (pv 0))) (Me (i:=2) aR.nd rfl (Eh rfl))
   (Eo (Gz (i:=1) aR.nd rfl (Eh rfl) (R4 (Ar (pv 1)) (Mw (Ar (pv 2)) Cj)))))
   (Eo (Gg (yT (Ar (pv 1))))))
 case h =>
  (intro ds R q_; obtain ⟨w,rfl,hR⟩ := q_)
  refine ⟨rfl,?_⟩
  array_get_dec
  refine kG (l:=w) (g:=Ag) rfl (λi δ=>∃(x:Int) (v:DV),δ=⟨[.dat .sh (Cn w),.dat .sh (.int x),v],0⟩/\NP v) ?_ ?_ ?_
  ·exact ⟨_,_,rfl,Py⟩
  ·(intro i p _ hp q_; obtain ⟨x,v,rfl,hv⟩ := q_)
   array_get_dec
   exact ⟨_,_,rfl,Gw⟩
  ·(intro _ q_; obtain ⟨x,v,rfl,hv⟩ := q_)
   array_get_dec
   exact hR _
theorem dW:FnScope ["_law_draws_here", "_law_pick"] ["_law_draws_here"] (Bm Qm):=⟨rfl,rfl,rfl,by decide +kernel,rfl,by decide +kernel,by decide +kernel⟩
theorem dR(F:Fun K "_law_holes" "_law_holes" Qm f fd)(G_L_next:FnOk P w K mg base Gp 1 f_L_next d_L_next ["_law_draws_here"] (mQ K Uv))(b_L_next:Binds K d_L_next ["_law_draws_here"] [])(k_L_next:PySem.W.keepIn K (.ref f_L_next)=true)(m_L_next:mg "_law_next" = some (.ref f_L_next))(mz_max:mg "max" = none):FnOk P w K mg base Gp 2 f fd ["_law_draws_here"] (mQ K (qP)):=by
 refine' gH (k:=1) F dW (λcdv A outer s H E hr=>?hb) ?h
 case hb =>
  have hr1:Room 1 _:=hr.mono (by decide)
  have hu64:=hr.units
  exact Da (Gz (i:=1) dW.nd rfl (Eh rfl) (Ji G_L_next hr1 rfl m_L_next k_L_next b_L_next Gv (pv 0) Bh))
   (Eo (Gg (Ic (Fp (An (Mw Cj (Hk (gE (Ar (pv 1)) Cj) Cj)) (An (Mw Cj (Hk (gE (Ar (pv 1)) Cj) Cj)) (An Cj (An Cj Bh))))) (Dj (Ti rfl) Zh rfl mz_max (by decide +kernel) (An Cj (An (Pl (Hk (Ar (pv 1)) Cj) Cj) Bh))))))
 case h =>
  (intro ds n R q_; obtain ⟨rfl,hn,hR⟩ := q_)
  refine ⟨rfl,?_⟩
  array_get_dec
  refine ⟨rfl,by omega,λr1=>?_⟩
  array_get_dec
  have b8:=Qn r1 (b:=8) (by decide)
  have b5:=Qn (r1 / 8) (b:=5) (by decide)
  rcases (by omega:r1 % 8 - 4<=0\/r1 % 8 - 4=1\/r1 % 8 - 4=2\/r1 % 8 - 4=3) with z | z | z | z
  ·rw[if_neg (by omega)]
   exact ⟨_,EB _ _,by omega,hR _ (by omega) (by omega)⟩
  ·rw[if_pos (by omega),z]
   exact ⟨_,CA _ _ _,by omega,hR _ (by omega) (by omega)⟩
  ·rw[if_pos (by omega),z]
   exact ⟨_,EO _ _ _ _,by omega,hR _ (by omega) (by omega)⟩
  ·rw[if_pos (by omega),z]
   exact ⟨_,CM _ _ _ _ _,by omega,hR _ (by omega) (by omega)⟩
theorem Yt:FnScope ["_law_draws_here", "_law_words_here", "_law_values_here", "_law_way", "_law_found", "_law_word", "_law_number", "_law_told"] ["_law_draws_here", "_law_words_here", "_law_values_here"] (Bm Od):=⟨rfl,rfl,rfl,by decide +kernel,rfl,by decide +kernel,by decide +kernel⟩
theorem Za(F:Fun K "_law_reading" "_law_reading" Od f fd)(G_L_next:FnOk P w K mg base Gp 1 f_L_next d_L_next ["_law_draws_here"] (mQ K Uv))(b_L_next:Binds K d_L_next ["_law_draws_here"] [])(k_L_next:PySem.W.keepIn K (.ref f_L_next)=true)(m_L_next:mg "_law_next" = some (.ref f_L_next))(G_L_folded:FnOk P w K mg base Gp 1 f_L_folded d_L_folded ["_law_word"] (Tf K (u4)))(b_L_folded:Binds K d_L_folded ["_law_word"] [])(k_L_folded:PySem.W.keepIn K (.ref f_L_folded)=true)(m_L_folded:mg "_law_folded" = some (.ref f_L_folded))(mz_len:mg "len" = none)(mz_sum:mg "sum" = none)(mz_int:mg "int" = none):FnOk P w K mg base Gp 2 f fd ["_law_draws_here", "_law_words_here", "_law_values_here"] (mQ K (fN)):=by
 refine' gH (k:=1) F Yt (λcdv A outer s H E hr=>?hb) ?h
 case hb =>
  have hr1:Room 1 _:=hr.mono (by decide)
  have hu64:=hr.units
  exact Da (Gz (i:=3) Yt.nd rfl (Eh rfl) (Hk (Ji G_L_next hr1 rfl m_L_next k_L_next b_L_next Gv (pv 0) Bh) Cj))
   (Da (Qs (i:=4) Yt.nd rfl (Eh rfl) (Fp Bh))
   (Da (Sg Ex rfl (lX (Ar (pv 1))) (Me (i:=5) Yt.nd rfl (Eh rfl))
   (Da (Gz (i:=6) Yt.nd rfl (Eh rfl) (Ji G_L_next hr1 rfl m_L_next k_L_next b_L_next Gv (pv 0) Bh))
    (Da (Gz (i:=7) Yt.nd rfl (Eh rfl) (Fp (An (Hk (Ar (pv 6)) (Ar (pv 2))) (An (Hk (Dj Hu Ly rfl mz_len (by decide +kernel) (An (Ar (pv 5)) Bh)) (Ar (pv 2))) (An (Hk (Ig G_L_folded hr1 rfl m_L_folded k_L_folded b_L_folded Gv (An (Ar (pv 5)) Bh)) (Ar (pv 2))) (An (Hk (Dj (fH rfl) yF rfl mz_sum (by decide +kernel) (An (Ar (pv 5)) Bh)) (Ar (pv 2))) Bh))))))
    (Da (Gz (i:=7) Yt.nd rfl (Eh rfl) (Mv (Ar (pv 7)) (Fp (An (Hk (Ar (pv 6)) (Mw (Ar (pv 2)) Cj)) (An (zU (gE (Hk (Ar (pv 6)) Cj) Cj) (Hk (Ar (pv 6)) (Ar (pv 2)))) (An (Hk (Ar (pv 6)) (Ar (pv 2))) Bh))))))
    (Eo (uY (pv 4) (Ic (Mv (Ar (pv 7)) (Fp (An (Ic (Fp (An (Hk (Dj Hu Ly rfl mz_len (by decide +kernel) (An (Ar (pv 5)) Bh)) (Ar (pv 2))) (An (Mw (i4 Cj Cj) (Ar (pv 6))) Bh))) (Jz Xp oB rfl mz_int (by decide +kernel) (An (jR hu64 (Hk (Ar (pv 6)) Cj) Cj) Bh))) Bh))) (Ar (pv 3)))))))))
   (Eo (Gg (Zg (pv 4))))))
 case h =>
  (intro ds n R q_; obtain ⟨ws,v,rfl,v0,v1,lw,hw,hn,hR⟩ := q_)
  refine ⟨rfl,?_⟩
  array_get_dec
  refine ⟨rfl,by omega,λr1=>?_⟩
  array_get_dec
  have b8:=Qn r1 (b:=8) (by decide)
  refine kG (l:=ws) (g:=Cn) rfl (λi δ=>∃(face:List Int) (v1 v2 v3:DV),δ=⟨[.drw,.dat .sh (.list (ws.map Cn)),.dat .sh (.int v),.dat .sh (.int (r1 % 8)),.dat .ow (.list (face.map Ag)),v1,v2,v3],n+1+i⟩/\face.length=i/\NP v1/\NP v2/\NP v3) ?_ ?_ ?_
  ·exact ⟨[],_,_,_,rfl,rfl,Py,Py,Py⟩
  ·(intro i u _ hu q_; obtain ⟨face,v1,v2,v3,rfl,lf,hv1,hv2,hv3⟩ := q_)
   have hi:=(Ap.mp hu).1
   have lu:=hw u (Ax hu)
   array_get_dec
   refine ⟨rfl,by omega,λr2=>?_⟩
   array_get_dec
   refine ⟨v0,v0,u,rfl,λf=>?_⟩
   array_get_dec
   refine ⟨v0,u,rfl,v0,?_⟩
   array_get_dec
   have bv:=Qn r2 v0
   refine ⟨by omega,v0,.inr ⟨by omega,by omega⟩,v0,v0,by decide,?_⟩
   obtain ⟨x,hx⟩ : ∃x:Int,Sx [Ag (((u.map Ag).length:Int) % v),Ag (10000000000000000000+r2)] (if decide (r2 % 9=0)=true then 1 else 0)=some (.int x):=by
    rw[P3]
    cases decide (r2 % 9=0)
    ·exact ⟨_,rfl⟩
    ·exact ⟨_,rfl⟩
   refine ⟨_,hx,IB,?_⟩
   obtain ⟨y,_,e2,_⟩:=Ny (l:=[r2 % v,((u.map Ag).length:Int) % v,f % v,u.sum % v,r2 % (v+2),r2 % 7 / 5 * (r2 % v),r2 % v,x]) b8.1 (by simpa using b8.2)
   have e3:=Ss Ag [r2 % v,((u.map Ag).length:Int) % v,f % v,u.sum % v,r2 % (v+2),r2 % 7 / 5 * (r2 % v),r2 % v,x] (r1 % 8)
   rw[e2] at e3
   refine ⟨_,e3,im,by rw[Ad]; omega,?_⟩
   exact ⟨face++[y],_,_,_,AR (by rw[Bi]; rfl) (by omega),by simp [lf],Gw,Gw,Gw⟩
  ·(intro _ q_; obtain ⟨face,v1,v2,v3,rfl,lf,hv1,hv2,hv3⟩ := q_)
   array_get_dec
   exact ⟨by omega,hR face lf⟩
theorem aP:FnScope ["_law_draws_here", "_law_pick"] ["_law_draws_here"] (Bm Po):=⟨rfl,rfl,rfl,by decide +kernel,rfl,by decide +kernel,by decide +kernel⟩
theorem Zy(F:Fun K "_law_values" "_law_values" Po f fd)(G_L_next:FnOk P w K mg base Gp 1 f_L_next d_L_next ["_law_draws_here"] (mQ K Uv))(b_L_next:Binds K d_L_next ["_law_draws_here"] [])(k_L_next:PySem.W.keepIn K (.ref f_L_next)=true)(m_L_next:mg "_law_next" = some (.ref f_L_next))(mz_int:mg "int" = none):FnOk P w K mg base Gp 2 f fd ["_law_draws_here"] (mQ K (lD)):=by
 refine' gH (k:=1) F aP (λcdv A outer s H E hr=>?hb) ?h
 case hb =>
  have hr1:Room 1 _:=hr.mono (by decide)
  have hu64:=hr.units
  exact Da (Gz (i:=1) aP.nd rfl (Eh rfl) (Ji G_L_next hr1 rfl m_L_next k_L_next b_L_next Gv (pv 0) Bh))
   (Eo (Gg (Ic (Fp (An (Mw Cj (Hk (gE (Ar (pv 1)) Cj) Cj)) (An Cj Bh))) (Jz Xp oB rfl mz_int (by decide +kernel) (An (jR hu64 (Hk (Ar (pv 1)) Cj) Cj) Bh)))))
 case h =>
  (intro ds n R q_; obtain ⟨rfl,hn,hR⟩ := q_)
  refine ⟨rfl,?_⟩
  array_get_dec
  refine ⟨rfl,by omega,λr1=>?_⟩
  array_get_dec
  have b5:=Qn (r1 / 8) (b:=5) (by decide)
  refine ⟨_,P3 _ _ _,by omega,?_⟩
  cases decide (r1 % 8=1)
  ·exact hR _ (by omega) (by omega)
  ·exact hR _ (by decide) (by decide)
end
def Nu(l:List Int):Int:=l.foldr max 0
theorem Ov(hx:0<x):∀{l:List Int},x<=Nu l↔∃y∈l,x<=y
 | []=>⟨λh=>by simp [Nu] at h; omega,λ⟨_,h,_⟩=>nomatch h⟩
 | a::l=>by
  show x<=max a (Nu l)↔_
  have ih:=Ov hx (l:=l)
  constructor
  ·intro h
   rcases (by omega:x<=a\/x<=Nu l) with h | h
   ·exact ⟨a,Ab,h⟩
   ·obtain ⟨y,hy,e⟩:=ih.mp h
    exact ⟨y,Ae _ hy,e⟩
  ·(intro q_; obtain ⟨y,hy,e⟩ := q_)
   rcases Ah.mp hy with rfl | hy
   ·omega
   ·have:=ih.mpr ⟨y,hy,e⟩
    omega
theorem Sy:∀l:List Int,0<=Nu l
 | []=>by simp [Nu]
 | a::l=>by
  show 0<=max a (Nu l)
  have:=Sy l
  omega
theorem z0(h0:∀x∈l,0<=x)(hM:M∈l)(hle:∀x∈l,x<=M):Nu l=M:=by
 by_cases z:0<M
 ·have h1:=(Ov z (l:=l)).mpr ⟨M,hM,Nt _⟩
  by_cases q:M<Nu l
  ·obtain ⟨y,hy,e⟩:=(Ov (x:=Nu l) (by omega) (l:=l)).mp (Nt _)
   have:=hle y hy
   omega
  ·omega
 ·have:=h0 M hM
  by_cases q:0<Nu l
  ·obtain ⟨y,hy,e⟩:=(Ov q (l:=l)).mp (Nt _)
   have:=hle y hy
   omega
  ·have:=Sy l
   omega
def Qv(nums:List Int)(p:List Int×Nat):Int:=(nums[p.2]?).getD 0+1
def Nx(ws:List (List Int))(face nums w:List Int)(v:Int):Int:=Nu ((kR ws face w v).map (Qv nums))
def yG:PF:=λds R=>∃(ws:List (List Int)) (face nums w:List Int) (v:Int),ds=[.list (ws.map Cn),.list (face.map Ag),.list (nums.map Ag),Cn w,.int v]/\ws.length=face.length/\ws.length=nums.length/\(∀x∈nums,0<=x)/\R (.int (Nx ws face nums w v))
def wW:PF:=λds R=>∃(ws:List (List Int)) (face nums:List Int) (vs:Int) (k:Nat) (w:List Int) (f:Int),ds=[.list (ws.map Cn),.list (face.map Ag),.int vs,.list (nums.map Ag),.int k]/\ws.length=face.length/\ws.length=nums.length/\(∀x∈nums,0<=x)/\2<=vs/\vs<=16 /\
 ws[k]? = some w/\face[k]? = some f/\∀M:Int,(∀x:Int,x<=M↔∀v:Int,0<=v->v<vs->v≠f->x<=Nx ws face nums w v)->R (.int M)
def Ks:Ac->Bool
 | .int i=>decide (0<=i)
 | _=>false
def Rv(d:Ac)(n:Int):Bool:=match d with
 | .list ds=>decide ((ds.length:Int)=n) && ds.all Ks
 | _=>false
def lJ:Ac->Bool
 | .none=>true
 | .bool _=>true
 | .int _=>true
 | .str _=>true
 | _=>false
theorem vY(h:lJ d=true):imm d=true:=by
 cases d <;> first | rfl | cases h
theorem iJ(h:ds.all lJ=true):Dq ds=true:=nO.mpr λd hd=>vY (Dh.mp h d hd)
theorem Sv:∀{ds:List Ac},ds.all lJ=true->Bo ds=0
 | [],_=>by simp [Bo]
 | d::ds,h=>by
  rw[Wq,Dk] at h
  have:=Sv h.2
  have h0:d.depth=0:=by
   cases d <;> first | exact absurd h.1 Bt | simp [Cm]
  simp [Bo,this,h0]
def EI(d:Ac):Prop:=(∃ds,d=.list ds/\ds.all lJ=true)\/imm d=true
def sC:PF:=λds R=>∃d,ds=[d]/\imm d=true/\R (.bool (match d with | .int _=>true | _=>false))
def O7:PF:=λds R=>∃(d:Ac) (n:Int),ds=[d,.int n]/\EI d/\R (.bool (Rv d n))
section
variable{P:Bs}{w:World}{K:PySem.W.Frag}{mg:Str->Option Value}{base:Heap}
theorem dN:FnScope ["words", "reading", "numbers", "word", "value"] ["words", "reading", "numbers", "word", "value"] (Bm Nj):=⟨rfl,rfl,rfl,by decide +kernel,rfl,by decide +kernel,by decide +kernel⟩
theorem cZ(F:Fun K "best_turns" "best_turns" Nj f fd)(G_showing:FnOk P w K mg base Gp 2 f_showing d_showing ["words", "reading", "word", "value"] (Tf K (j4)))(b_showing:Binds K d_showing ["words", "reading", "word", "value"] [])(k_showing:PySem.W.keepIn K (.ref f_showing)=true)(m_showing:mg "showing" = some (.ref f_showing))(mz_max:mg "max" = none):FnOk P w K mg base Gp 3 f fd ["words", "reading", "numbers", "word", "value"] (Tf K (yG)):=by
 refine' Kk (k:=2) F dN (λcdv A outer s H E hr=>?hb) ?h
 case hb =>
  have hr1:Room 1 _:=hr.mono (by decide)
  have hr2:Room 2 _:=hr.mono (by decide)
  have hu64:=hr.units
  have CS1:∀{scope:Scope} (h:scope={ kind:=.function,names:=[(".0",.local),("at",.local),("numbers",.free)],isGenerator:=false,isCoroutine:=false }),
    CompScope (Iy Gp P w K mg base ["words", "reading", "numbers", "word", "value"] "best_turns" (Bm Nj) f cdv A outer s H E).nox scope [("numbers",s.heap.objs.size+1)] "at" ["numbers"] [2]:=by
   rintro scope rfl
   refine ⟨by rfl,.inl (by decide +kernel),by rfl,by decide +kernel,.inl rfl,λy c h=>?_,by rfl,by decide +kernel,rfl,λk y j e1 e2=>?_⟩
   ·have z:=Dv h
    simp only[Ah,Av,or_false,Eb] at z
    obtain ⟨rfl,rfl⟩:=z; rfl
   ·match k,e1,e2 with
    | 0,e1,e2=>cases e1; cases e2; exact ⟨rfl,rfl,by first | exact .inl rfl | exact .inr rfl⟩
    | k+1,e1,e2=>cases e1
  exact Eo (Gg (C0 rfl rfl mz_max (An (Ir (CS1 rfl) rfl (lX (Ig G_showing hr2 rfl m_showing k_showing b_showing Gv (An (Ar (pv 0)) (An (Ar (pv 1)) (An (Ar (pv 3)) (An (Ar (pv 4)) Bh)))))) (λ_ _ _=>Hw) (λ_ _ _=>Mw (Ic (Ar (pv 1)) (Ar (pv 0))) Cj)) Bh)))
 case h =>
  (intro ds R q_; obtain ⟨ws,face,nums,w,v,rfl,l1,l2,h0,hR⟩ := q_)
  refine ⟨rfl,?_⟩
  array_get_dec
  refine ⟨ws,face,w,v,rfl,l1,?_⟩
  array_get_dec
  refine Ua (l:=kR ws face w v) (g:=λp=>.int p.2) rfl (λp=>.int (Qv nums p)) (λp hp yes no hy=>?_) ?_
  ·obtain ⟨k,hk⟩:=Fw.mp (Ck.mp hp).1
   obtain ⟨ek,hp1,hp2,hp3⟩:=bQ hk
   obtain ⟨x,e1,e2,e3⟩:=Ny (l:=nums) (i:=(p.2:Int)) (by omega) (by omega)
   array_get_dec
   refine ⟨.int x,by rw[Ss,e2]; rfl,im,?_⟩
   array_get_dec
   rw[Gm] at e1
   have : Qv nums p=x+1:=by unfold Qv; rw[e1]; rfl
   rw[this] at hy
   exact hy
  ·array_get_dec
   refine ⟨(kR ws face w v).map (Qv nums),by rw[Ce]; rfl,λz=>?_,λM hM hle=>?_⟩
   ·have : Nx ws face nums w v=0:=by unfold Nx; rw[z]; rfl
    rw[this] at hR
    array_get_dec
    exact hR
   ·have : Nx ws face nums w v=M:=z0 (λx hx=>?_) hM hle
    ·rw[this] at hR
     array_get_dec
     exact hR
    ·obtain ⟨p,_,rfl⟩:=Bu.mp hx
     unfold Qv
     cases q:nums[p.2]? with
     | none=>simp
     | some y=>have:=h0 y (Ax q); show 0<=y+1; omega
theorem dI:FnScope ["words", "reading", "values", "numbers", "at", "others"] ["words", "reading", "values", "numbers", "at"] (Bm Li):=⟨rfl,rfl,rfl,by decide +kernel,rfl,by decide +kernel,by decide +kernel⟩
theorem dP(F:Fun K "sure_turns" "sure_turns" Li f fd)(G_best_turns:FnOk P w K mg base Gp 3 f_best_turns d_best_turns ["words", "reading", "numbers", "word", "value"] (Tf K (yG)))(b_best_turns:Binds K d_best_turns ["words", "reading", "numbers", "word", "value"] [])(k_best_turns:PySem.W.keepIn K (.ref f_best_turns)=true)(m_best_turns:mg "best_turns" = some (.ref f_best_turns))(mz_range:mg "range" = none)(mz_min:mg "min" = none):FnOk P w K mg base Gp 4 f fd ["words", "reading", "values", "numbers", "at"] (Tf K (wW)):=by
 refine' Kk (k:=3) F dI (λcdv A outer s H E hr=>?hb) ?h
 case hb =>
  have hr1:Room 1 _:=hr.mono (by decide)
  have hr2:Room 2 _:=hr.mono (by decide)
  have hr3:Room 3 _:=hr.mono (by decide)
  have hu64:=hr.units
  have CS1:∀{scope:Scope} (h:scope={ kind:=.function,names:=[(".0",.local),("value",.local),("at",.free),("reading",.free)],isGenerator:=false,isCoroutine:=false }),
    CompScope (Iy Gp P w K mg base ["words", "reading", "values", "numbers", "at", "others"] "sure_turns" (Bm Li) f cdv A outer s H E).nox scope [("reading",s.heap.objs.size+2),("at",s.heap.objs.size+4)] "value" ["at", "reading"] [4,1]:=by
   rintro scope rfl
   refine ⟨by rfl,.inl (by decide +kernel),by rfl,by decide +kernel,.inl rfl,λy c h=>?_,by rfl,by decide +kernel,rfl,λk y j e1 e2=>?_⟩
   ·have z:=Dv h
    simp only[Ah,Av,or_false,Eb] at z
    rcases z with ⟨rfl,rfl⟩ | ⟨rfl,rfl⟩ <;> rfl
   ·match k,e1,e2 with
    | 0,e1,e2=>cases e1; cases e2; exact ⟨rfl,rfl,by first | exact .inl rfl | exact .inr rfl⟩
    | 1,e1,e2=>cases e1; cases e2; exact ⟨rfl,rfl,by first | exact .inl rfl | exact .inr rfl⟩
    | k+2,e1,e2=>cases e1
  have CS2:∀{scope:Scope} (h:scope={ kind:=.function,names:=[(".0",.local),("value",.local),("best_turns",.globalImplicit),("at",.free),("numbers",.free),("reading",.free),("words",.free)],isGenerator:=false,isCoroutine:=false }),
    CompScope (Iy Gp P w K mg base ["words", "reading", "values", "numbers", "at", "others"] "sure_turns" (Bm Li) f cdv A outer s H E).nox scope [("words",s.heap.objs.size+1),("reading",s.heap.objs.size+2),("numbers",s.heap.objs.size+3),("at",s.heap.objs.size+4)] "value" ["at", "numbers", "reading", "words"] [4,3,1,0]:=by
   rintro scope rfl
   refine ⟨by rfl,.inl (by decide +kernel),by rfl,by decide +kernel,.inl rfl,λy c h=>?_,by rfl,by decide +kernel,rfl,λk y j e1 e2=>?_⟩
   ·have z:=Dv h
    simp only[Ah,Av,or_false,Eb] at z
    rcases z with ⟨rfl,rfl⟩ | ⟨rfl,rfl⟩ | ⟨rfl,rfl⟩ | ⟨rfl,rfl⟩ <;> rfl
   ·match k,e1,e2 with
    | 0,e1,e2=>cases e1; cases e2; exact ⟨rfl,rfl,by first | exact .inl rfl | exact .inr rfl⟩
    | 1,e1,e2=>cases e1; cases e2; exact ⟨rfl,rfl,by first | exact .inl rfl | exact .inr rfl⟩
    | 2,e1,e2=>cases e1; cases e2; exact ⟨rfl,rfl,by first | exact .inl rfl | exact .inr rfl⟩
    | 3,e1,e2=>cases e1; cases e2; exact ⟨rfl,rfl,by first | exact .inl rfl | exact .inr rfl⟩
    | k+4,e1,e2=>cases e1
  exact Da (rD (o:=false) (i0:=5) dI.nd rfl rfl (CS1 rfl) rfl (Nq rfl mz_range (An (Ar (pv 2)) Bh)) (λ_ _ _=>Pd (Yk hu64 (Ar (pv 0)) (Ic (Ar (pv 2)) (Ar (pv 1))))) (λ_ _ _=>Ar (pv 0)))
   (Eo (Gg (Dj (eI rfl) rZ rfl mz_min (by decide +kernel) (An (Ir (CS2 rfl) rfl (lX (Ar (pv 5))) (λ_ _ _=>Hw) (λ_ _ _=>Ig G_best_turns hr3 rfl m_best_turns k_best_turns b_best_turns Gv (An (Ar (pv 4)) (An (Ar (pv 3)) (An (Ar (pv 2)) (An (Ic (Ar (pv 4)) (Ar (pv 1))) (An (Ar (pv 0)) Bh))))))) Bh))))
 case h =>
  (intro ds R q_; obtain ⟨ws,face,nums,vs,k,w,f,rfl,l1,l2,h0,v0,v1,hw,hf,hR⟩ := q_)
  refine ⟨rfl,?_⟩
  array_get_dec
  have ef:Sx (face.map Ag) (k:Int)=some (.int f):=Vs (by rw[Be,hf]; rfl)
  have ew:Sx (ws.map Cn) (k:Int)=some (Cn w):=Vs (by rw[Be,hw]; rfl)
  refine ⟨by omega,by omega,?_⟩
  refine cA (l:=Di vs.toNat) (g:=λi:Nat=>.int i) rfl (λi:Nat=>decide ((i:Int)≠f)) (λi=>.int i) (λi _ yes no hy hn=>?_) ?_
  ·array_get_dec
   refine ⟨_,ef,dp,?_⟩
   array_get_dec
   refine Oy (λh=>?_) (λh=>?_)
   ·array_get_dec
    exact hy (by simpa using h)
   ·exact hn (by simpa using h)
  array_get_dec
  refine Ua (l:=(Di vs.toNat).filter λi:Nat=>decide ((i:Int)≠f)) (g:=λi:Nat=>.int i) rfl (λi=>.int (Nx ws face nums w i)) (λi _ yes no hy=>?_) ?_
  ·array_get_dec
   refine ⟨_,ew,ws,face,nums,w,i,rfl,l1,l2,h0,?_⟩
   array_get_dec
   exact hy
  array_get_dec
  have mem:∀b:Int,b∈((Di vs.toNat).filter λi:Nat=>decide ((i:Int)≠f)).map (λi:Nat=>Nx ws face nums w i)↔∃v:Int,0<=v/\v<vs/\v≠f/\b=Nx ws face nums w v:=λb=>by
   constructor
   ·intro h
    obtain ⟨i,hi,rfl⟩:=Bu.mp h
    obtain ⟨h1,h2⟩:=Ck.mp hi
    have:=Kf.mp h1
    exact ⟨i,by omega,by omega,by simpa using h2,rfl⟩
   ·(intro q_; obtain ⟨v,h1,h2,h3,rfl⟩ := q_)
    refine Bu.mpr ⟨v.toNat,Ck.mpr ⟨Kf.mpr (by omega),?_⟩,by rw[Ot h1]⟩
    rw[Ot h1]
    simpa using h3
  refine ⟨((Di vs.toNat).filter λi:Nat=>decide ((i:Int)≠f)).map (λi:Nat=>Nx ws face nums w i),by rw[Ce]; rfl,λz=>?_,λM hM hle=>?_⟩
  ·have h1:=(mem (Nx ws face nums w 0)).mpr
   have h2:=(mem (Nx ws face nums w 1)).mpr
   rw[z] at h1 h2
   by_cases q:f=0
   ·exact absurd (h2 ⟨1,by omega,by omega,by omega,rfl⟩) Av
   ·exact absurd (h1 ⟨0,by omega,by omega,by omega,rfl⟩) Av
  ·array_get_dec
   refine hR M λx=>⟨λh v h1 h2 h3=>?_,λh=>?_⟩
   ·have:=hle _ ((mem _).mpr ⟨v,h1,h2,h3,rfl⟩)
    omega
   ·obtain ⟨v,h1,h2,h3,rfl⟩:=(mem M).mp hM
    exact h v h1 h2 h3
end
noncomputable def aH(ws:List (List Int))(face:List Int)(vs:Int)(nums:List Int):Bool:=@decide (∀(k:Nat) (w:List Int) (f x:Int),ws[k]? = some w->face[k]? = some f->nums[k]? = some x->∀v:Int,0<=v->v<vs->v≠f->x<=Nx ws face nums w v) (Ht _)
theorem A7(h:Mt d "int" = true):(∃i,d=.int i)\/∃b,d=.bool b:=by
 cases d <;> simp [Mt,gQ] at h <;> first | exact .inl ⟨_,rfl⟩ | exact .inr ⟨_,rfl⟩
theorem qX(h:Mt d "list" = true):∃ds,d=.list ds:=by
 cases d <;> simp [Mt,gQ] at h
 exact ⟨_,rfl⟩
theorem kZ(h:Mt d "list" = false)(n:Int):Rv d n=false:=by
 cases d <;> first | rfl | simp [Mt,gQ] at h
section
variable{P:Bs}{w:World}{K:PySem.W.Frag}{mg:Str->Option Value}{base:Heap}
theorem lR:FnScope ["thing"] ["thing"] (Bm Uj):=⟨rfl,rfl,rfl,by decide +kernel,rfl,by decide +kernel,by decide +kernel⟩
theorem jQ(F:Fun K "is_whole" "is_whole" Uj f fd)(mz_bool:mg "bool" = none)(mz_isinstance:mg "isinstance" = none)(mz_int:mg "int" = none):FnOk P w K mg base Gp 1 f fd ["thing"] (Tf K (sC)):=by
 refine' Kk (k:=0) F lR (λcdv A outer s H E hr=>?hb) ?h
 case hb =>
  have hu64:=hr.units
  exact Eo (Gg (j9 (Dj Ui Uq rfl mz_isinstance (by decide +kernel) (An (Ar (pv 0)) (An (Zv (n := "int") rfl mz_int (by decide +kernel)) Bh))) (wG (T9 (Dj Ui Uq rfl mz_isinstance (by decide +kernel) (An (Ar (pv 0)) (An (Zv (n := "bool") rfl mz_bool (by decide +kernel)) Bh)))))))
 case h =>
  (intro ds R q_; obtain ⟨d,rfl,hd,hR⟩ := q_)
  refine ⟨rfl,?_⟩
  array_get_dec
  refine W4 (λh=>?_) (λh=>?_)
  ·rcases A7 h with ⟨i,rfl⟩ | ⟨b,rfl⟩
   ·array_get_dec
    exact hR
   ·array_get_dec
    exact hR
  ·array_get_dec
   cases d <;> first | exact hR | simp [Mt,gQ] at h
theorem aA:FnScope ["thing", "many"] ["thing", "many"] (Bm Mg):=⟨rfl,rfl,rfl,by decide +kernel,rfl,by decide +kernel,by decide +kernel⟩
theorem aB(F:Fun K "are_numbers" "are_numbers" Mg f fd)(G_is_whole:FnOk P w K mg base Gp 1 f_is_whole d_is_whole ["thing"] (Tf K (sC)))(b_is_whole:Binds K d_is_whole ["thing"] [])(k_is_whole:PySem.W.keepIn K (.ref f_is_whole)=true)(m_is_whole:mg "is_whole" = some (.ref f_is_whole))(mz_len:mg "len" = none)(mz_list:mg "list" = none)(mz_isinstance:mg "isinstance" = none)(mz_all:mg "all" = none):FnOk P w K mg base Gp 2 f fd ["thing", "many"] (Tf K (O7)):=by
 refine' Kk (k:=1) F aA (λcdv A outer s H E hr=>?hb) ?h
 case hb =>
  have hr1:Room 1 _:=hr.mono (by decide)
  have hu64:=hr.units
  have CS1:∀{scope:Scope} (h:scope={ kind:=.function,names:=[(".0",.local),("number",.local),("is_whole",.globalImplicit)],isGenerator:=false,isCoroutine:=false }),
    CompScope (Iy Gp P w K mg base ["thing", "many"] "are_numbers" (Bm Mg) f cdv A outer s H E).nox scope [] "number" [] []:=by
   rintro scope rfl
   exact Nd.compScope0 (by rfl) (by decide +kernel) (by rfl) (by decide +kernel) (by rfl) (by rfl)
  exact Da (bE (sR (bT (Xr (Pq (Dj Ui Uq rfl mz_isinstance (by decide +kernel) (An (Ar (pv 0)) (An (Zv (n := "list") rfl mz_list (by decide +kernel)) Bh))))) (fX (Yk hu64 (Dj Hu Ly rfl mz_len (by decide +kernel) (An (Ar (pv 0)) Bh)) (Ar (pv 1))))))
   (Eo (Gg We)) Uo)
   (Eo (Gg (Dj (cI rfl) nB rfl mz_all (by decide +kernel) (An (Ir (CS1 rfl) rfl (lX (Ar (pv 0))) (λ_ _ _=>Hw) (λ_ _ _=>j9 (Ig G_is_whole hr1 rfl m_is_whole k_is_whole b_is_whole Gv (An (Ar (pv 0)) Bh)) (wG (EG (Ar (pv 0)) Cj)))) Bh))))
 case h =>
  (intro ds R q_; obtain ⟨d,n,rfl,hd,hR⟩ := q_)
  refine ⟨rfl,?_⟩
  array_get_dec
  refine O5 (λh=>?_) (λh=>?_)
  ·rw[kZ (by simpa using h)] at hR
   array_get_dec
   exact hR
  obtain ⟨ds,rfl⟩:=qX (d:=d) (by simpa using h)
  have ha:ds.all lJ=true:=by
   rcases hd with ⟨ds',e,h⟩ | h
   ·cases e; exact h
   ·cases h
  have hi:=iJ ha
  array_get_dec
  refine eQ (λh1=>?_) (λh1=>?_)
  ·array_get_dec
   have : Rv (.list ds) n=false:=by
    show (decide ((ds.length:Int)=n) && ds.all Ks)=false
    rw[show decide ((ds.length:Int)=n)=false by simpa using h1]
    rfl
   rw[this] at hR
   exact hR
  ·array_get_dec
   have e:Rv (.list ds) n=ds.all Ks:=by
    show (decide ((ds.length:Int)=n) && ds.all Ks)=_
    rw[show decide ((ds.length:Int)=n)=true by simpa using h1]
    rfl
   rw[e] at hR
   refine Ua (l:=ds) (g:=λd=>d) (by simp) (λd=>.bool (Ks d)) (λd hm yes no hy=>?_) ?_
   ·array_get_dec
    refine ⟨d,rfl,nO.mp hi d hm,?_⟩
    cases d with
    | int i =>
     array_get_dec
     exact hy
    | _ =>
     array_get_dec
     exact hy
   ·array_get_dec
    refine ⟨ds.map Ks,by rw[Ce]; rfl,?_⟩
    rw[Os]
    array_get_dec
    exact hR
end
theorem rX:∀{ds:List Ac},ds.all Ks=true->∃nums:List Int,ds=nums.map Ag/\∀x∈nums,0<=x
 | [],_=>⟨[],rfl,λ_ z=>nomatch z⟩
 | d::ds,h=>by
  rw[Wq,Dk] at h
  obtain ⟨nums,rfl,h2⟩:=rX h.2
  cases d with
  | int i=>exact ⟨i::nums,rfl,λx hx=>by
    rcases Ah.mp hx with rfl | hx
    ·simpa [Ks] using h.1
    ·exact h2 x hx⟩
  | _=>simp [Ks] at h
theorem mJ(h:Rv d n=true):∃nums:List Int,d=.list (nums.map Ag)/\(nums.length:Int)=n/\∀x∈nums,0<=x:=by
 cases d with
 | list ds =>
  have h:(decide ((ds.length:Int)=n) && ds.all Ks)=true:=h
  rw[Dk] at h
  obtain ⟨nums,rfl,h2⟩:=rX h.2
  exact ⟨nums,rfl,by simpa using h.1,h2⟩
 | _=>cases h
noncomputable def AJ(ws:List (List Int))(face:List Int)(vs:Int)(nums:List Int)(k:Nat):Bool:=@decide (∀(w:List Int) (f x:Int),ws[k]? = some w->face[k]? = some f->nums[k]? = some x->∀v:Int,0<=v->v<vs->v≠f->x<=Nx ws face nums w v) (Ht _)
theorem tV(ws:List (List Int))(face:List Int)(vs:Int)(nums:List Int):aH ws face vs nums=(Di ws.length).all (id ∘ AJ ws face vs nums):=by
 rw[Tr,Dh]
 unfold aH AJ
 simp only[Wn,id,decide_eq_true_eq]
 exact ⟨λh k _=>h k,λh k w f x h1=>h k (Kf.mpr (Ap.mp h1).1) w f x h1⟩
def pZ:PF:=λds R=>∃(h:Int) (face:List Int) (vs:Int) (d:Ac),ds=[.int h,.list (face.map Ag),.int vs,d]/\0<=h/\h<=10/\face.length=2 ^ h.toNat/\2<=vs/\vs<=16/\EI d /\
 ∀L:List (List Int),L.Perm (Ea h.toNat)->Ord L->(Rv d L.length=false->R (.bool false))/\∀nums:List Int,d=.list (nums.map Ag)->nums.length=L.length->(∀x∈nums,0<=x)->R (.bool (aH L face vs nums))
section
variable{P:Bs}{w:World}{K:PySem.W.Frag}{mg:Str->Option Value}{base:Heap}
theorem bO:FnScope ["holes", "reading", "values", "thing", "words"] ["holes", "reading", "values", "thing"] (Bm Mh):=⟨rfl,rfl,rfl,by decide +kernel,rfl,by decide +kernel,by decide +kernel⟩
theorem bA(F:Fun K "shows_least" "shows_least" Mh f fd)(G_all_words:FnOk P w K mg base Gp 1 f_all_words d_all_words ["holes"] (Tf K Wd))(b_all_words:Binds K d_all_words ["holes"] [])(k_all_words:PySem.W.keepIn K (.ref f_all_words)=true)(m_all_words:mg "all_words" = some (.ref f_all_words))(G_sure_turns:FnOk P w K mg base Gp 4 f_sure_turns d_sure_turns ["words", "reading", "values", "numbers", "at"] (Tf K (wW)))(b_sure_turns:Binds K d_sure_turns ["words", "reading", "values", "numbers", "at"] [])(k_sure_turns:PySem.W.keepIn K (.ref f_sure_turns)=true)(m_sure_turns:mg "sure_turns" = some (.ref f_sure_turns))(G_are_numbers:FnOk P w K mg base Gp 2 f_are_numbers d_are_numbers ["thing", "many"] (Tf K (O7)))(b_are_numbers:Binds K d_are_numbers ["thing", "many"] [])(k_are_numbers:PySem.W.keepIn K (.ref f_are_numbers)=true)(m_are_numbers:mg "are_numbers" = some (.ref f_are_numbers))(mz_len:mg "len" = none)(mz_range:mg "range" = none)(mz_all:mg "all" = none):FnOk P w K mg base Gp 5 f fd ["holes", "reading", "values", "thing"] (Tf K (pZ)):=by
 refine' Kk (k:=4) F bO (λcdv A outer s H E hr=>?hb) ?h
 case hb =>
  have hr1:Room 1 _:=hr.mono (by decide)
  have hr2:Room 2 _:=hr.mono (by decide)
  have hr3:Room 3 _:=hr.mono (by decide)
  have hr4:Room 4 _:=hr.mono (by decide)
  have hu64:=hr.units
  have CS1:∀{scope:Scope} (h:scope={ kind:=.function,names:=[(".0",.local),("at",.local),("sure_turns",.globalImplicit),("reading",.free),("thing",.free),("values",.free),("words",.free)],isGenerator:=false,isCoroutine:=false }),
    CompScope (Iy Gp P w K mg base ["holes", "reading", "values", "thing", "words"] "shows_least" (Bm Mh) f cdv A outer s H E).nox scope [("words",s.heap.objs.size+4),("values",s.heap.objs.size+2),("thing",s.heap.objs.size+3),("reading",s.heap.objs.size+1)] "at" ["reading", "thing", "values", "words"] [1,3,2,4]:=by
   rintro scope rfl
   refine ⟨by rfl,.inl (by decide +kernel),by rfl,by decide +kernel,.inl rfl,λy c h=>?_,by rfl,by decide +kernel,rfl,λk y j e1 e2=>?_⟩
   ·have z:=Dv h
    simp only[Ah,Av,or_false,Eb] at z
    rcases z with ⟨rfl,rfl⟩ | ⟨rfl,rfl⟩ | ⟨rfl,rfl⟩ | ⟨rfl,rfl⟩ <;> rfl
   ·match k,e1,e2 with
    | 0,e1,e2=>cases e1; cases e2; exact ⟨rfl,rfl,by first | exact .inl rfl | exact .inr rfl⟩
    | 1,e1,e2=>cases e1; cases e2; exact ⟨rfl,rfl,by first | exact .inl rfl | exact .inr rfl⟩
    | 2,e1,e2=>cases e1; cases e2; exact ⟨rfl,rfl,by first | exact .inl rfl | exact .inr rfl⟩
    | 3,e1,e2=>cases e1; cases e2; exact ⟨rfl,rfl,by first | exact .inl rfl | exact .inr rfl⟩
    | k+4,e1,e2=>cases e1
  exact Da (Gz (i:=4) bO.nd rfl (Oq rfl) (Ig G_all_words hr1 rfl m_all_words k_all_words b_all_words Gv (An (Ar (pv 0)) Bh)))
   (Da (bE (Xr (Pq (Ig G_are_numbers hr2 rfl m_are_numbers k_are_numbers b_are_numbers Gv (An (Ar (pv 3)) (An (Dj Hu Ly rfl mz_len (by decide +kernel) (An (Ar (pv 4)) Bh)) Bh)))))
   (Eo (Gg We)) Uo)
   (Eo (Gg (Dj (cI rfl) nB rfl mz_all (by decide +kernel) (An (Ir (CS1 rfl) rfl (Nq rfl mz_range (An (Dj Hu Ly rfl mz_len (by decide +kernel) (An (Ar (pv 4)) Bh)) Bh)) (λ_ _ _=>Hw) (λ_ _ _=>AQ (Ic (Ar (pv 2)) (Ar (pv 0))) (Ig G_sure_turns hr4 rfl m_sure_turns k_sure_turns b_sure_turns Gv (An (Ar (pv 4)) (An (Ar (pv 1)) (An (Ar (pv 3)) (An (Ar (pv 2)) (An (Ar (pv 0)) Bh)))))))) Bh)))))
 case h =>
  (intro ds R q_; obtain ⟨h,face,vs,d,rfl,h0,h1,lf,v0,v1,hd,hR⟩ := q_)
  refine ⟨rfl,?_⟩
  array_get_dec
  refine ⟨h,rfl,h0,h1,λL hp ho=>?_⟩
  obtain ⟨hR1,hR2⟩:=hR L hp ho
  have lL:L.length=2 ^ h.toNat:=by rw[hp.length_eq,Qy]
  obtain ⟨l1,l2⟩:=Sw (n:=h.toNat) (by omega) hp
  array_get_dec
  rw[Ad]
  refine ⟨d,L.length,rfl,hd,?_⟩
  refine eQ (λhb=>?_) (λhb=>?_)
  ·array_get_dec
   exact hR1 (by simpa using hb)
  obtain ⟨nums,rfl,ln,nn⟩:=mJ (d:=d) (n:=L.length) (by simpa using hb)
  have ln:nums.length=L.length:=by omega
  have hR2:=hR2 nums rfl ln nn
  array_get_dec
  rw[Ad,Gm]
  refine ⟨by omega,by omega,?_⟩
  refine Ua (l:=Di L.length) (g:=λi:Nat=>.int i) rfl (λk=>.bool (AJ L face vs nums k)) (λk hk yes no hy=>?_) ?_
  ·have hk:=Kf.mp hk
   obtain ⟨w,hw⟩ : ∃w,L[k]? = some w:=⟨_,Ba hk⟩
   obtain ⟨f,hf⟩ : ∃f,face[k]? = some f:=⟨_,Ba (by omega)⟩
   obtain ⟨x,hx⟩ : ∃x,nums[k]? = some x:=⟨_,Ba (by omega)⟩
   have ex:Sx (nums.map Ag) (k:Int)=some (.int x):=Vs (by rw[Be,hx]; rfl)
   array_get_dec
   refine ⟨_,ex,L,face,nums,vs,k,w,f,rfl,by omega,by omega,nn,v0,v1,hw,hf,λM hM=>?_⟩
   array_get_dec
   have : AJ L face vs nums k=decide (x<=M):=by
    unfold AJ
    refine decide_eq_decide.mpr ⟨λh=>(hM x).mpr (h w f x hw hf hx),λh w' f' x' h1 h2 h3=>?_⟩
    rw[hw] at h1; cases h1
    rw[hf] at h2; cases h2
    rw[hx] at h3; cases h3
    exact (hM x).mp h
   rw[this] at hy
   exact hy
  ·array_get_dec
   refine ⟨(Di L.length).map (AJ L face vs nums),by rw[Ce]; rfl,?_⟩
   rw[Os]
   array_get_dec
   rw[tV] at hR2
   exact hR2
end
def Kb(P:List (List Int))(f g:List Int->Int)(w:List Int)(v:Int):Int:=Nu ((P.filter λu=>decide (f u=v) && dM w u).map λu=>g u+1)
def jA(L:List (List Int))(f:List Int->Int)(vs:Int)(g:List Int->Int)(P:List (List Int)):Prop:=∀w∈P,∀x:Int,x<=g w↔∀v:Int,0<=v->v<vs->v≠f w->x<=Kb L f g w v
def xZ(L:List (List Int))(f:List Int->Int)(vs:Int)(g:List Int->Int):Prop:=jA L f vs g L
def qO:PF:=λds R=>∃(h:Int) (L:List (List Int)) (f:List Int->Int) (vs:Int),ds=[.list (L.map Cn),.list ((L.map f).map Ag),.int vs]/\0<=h/\h<=10/\L.Perm (Ea h.toNat)/\2<=vs/\vs<=16/\∀g:List Int->Int,xZ L f vs g->R (.list ((L.map g).map Ag))
theorem xH(h:∀x,x∈l↔x∈m):Nu l=Nu m:=by
 have key:∀{l m:List Int},(∀x∈l,x∈m)->Nu l<=Nu m:=λ{l m} h=>by
  by_cases z:0<Nu l
  ·obtain ⟨y,hy,e⟩:=(Ov z (l:=l)).mp (Nt _)
   exact (Ov z).mpr ⟨y,h y hy,e⟩
  ·have:=Sy m
   omega
 exact Int.le_antisymm (key λx hx=>(h x).mp hx) (key λx hx=>(h x).mpr hx)
theorem eL(x:Int):∀l:List Int,Nu (l++[x])=max (Nu l) x
 | []=>by show max x 0=max 0 x; omega
 | a::l=>by
  show max a (Nu (l++[x]))=max (max a (Nu l)) x
  rw[eL x l]
  omega
theorem bR(P:List (List Int))(f g:List Int->Int)(w u:List Int)(v:Int):Kb (P++[u]) f g w v=if f u=v/\dM w u=true then max (Kb P f g w v) (g u+1) else Kb P f g w v:=by
 unfold Kb
 rw[Hb,Bi]
 by_cases q:f u=v/\dM w u=true
 ·rw[if_pos q,List.filter_cons_of_pos (by simp [q.1,q.2])]
  exact eL _ _
 ·rw[if_neg q,List.filter_cons_of_neg (by simpa using q),List.filter_nil,Ki,Dz]
theorem U7:dM w u=true↔∀i∈w,i∈u:=by
 unfold dM
 rw[Dh]
 simp
theorem iH(hw:Lj n w)(hu:Lj n u)(hi:dM w u=true)(ne:w≠u):w.length<u.length:=by
 rw[U7] at hi
 obtain ⟨y,hy,hn⟩ : ∃y∈u,y∉w:=Ol λz=>ne (uX hw hu λi=>⟨hi i,λq=>Ol λr=>z ⟨i,q,r⟩⟩)
 have:=NdS.len_leI (l2:=u.erase y) (pM hw) λe he=>(List.mem_erase_of_ne (show e≠y from λq=>hn (by rw[<- q]; exact he))).mpr (hi e he)
 rw[mN hy] at this
 have:=pQ hy
 omega
theorem Lx(k:Int)(e:Ac)(ks:List (Int×Ac))(v:Int):Pn ((k,e)::ks) v=if k=v then some e else Pn ks v:=by
 unfold Pn
 by_cases h:k=v
 ·rw[List.find?_cons_of_pos (by simpa using h),if_pos h]; rfl
 ·rw[List.find?_cons_of_neg (by simpa using h),if_neg h]
theorem eG:∀{ks:List (Int×Ac)},¬ (ks.any λp=>decide (p.1=w))=true->v=w->Pn ks v=none
 | [],_,_=>rfl
 | (k,e)::ks,h,hv=>by
  rw[Jd,Bool.or_eq_true] at h
  have h1:¬ k=w:=λz=>h (.inl (by simpa using z))
  rw[Lx,if_neg (by rw[hv]; exact h1)]
  exact eG (λz=>h (.inr z)) hv
theorem mI:∀(ks:List (Int×Ac)),Pn (ks.map λp=>if p.1=w then (p.1,d) else p) v=if v=w/\(ks.any λp=>decide (p.1=w))=true then some d else Pn ks v
 | []=>by simp [Pn]
 | (k,e)::ks=>by
  rw[Aw,Lx k e,Jd]
  have ih:=mI (w:=w) (d:=d) (v:=v) ks
  by_cases hk:k=w
  ·subst hk
   rw[if_pos rfl,Lx,ih]
   by_cases hv:v=k
   ·subst hv; simp
   ·have : ¬ k=v:=λz=>hv z.symm
    simp [hv,this]
  ·rw[if_neg hk,Lx,ih]
   by_cases hv:v=w
   ·subst hv
    rw[if_neg hk,show decide (k=v)=false by simpa using hk,Bool.false_or,if_neg hk]
   ·simp [hv]
theorem fF:∀(ks:List (Int×Ac)),Pn (ks++[(w,d)]) v=match Pn ks v with | some e=>some e | none=>if w=v then some d else none
 | []=>by rw[List.nil_append,Lx]; rfl
 | (k,e)::ks=>by
  rw[Fc,Lx,Lx,fF ks]
  by_cases hk:k=v
  ·rw[if_pos hk,if_pos hk]
  ·rw[if_neg hk,if_neg hk]
theorem d0(ks:List (Int×Ac))(w:Int)(d:Ac)(v:Int):Pn (lY ks w d) v=if v=w then some d else Pn ks v:=by
 unfold lY
 split
 ·rename_i h
  rw[mI,h]
  simp
 ·rename_i h
  rw[fF]
  by_cases hv:v=w
  ·rw[eG h hv,if_pos hv,if_pos hv.symm]
  ·rw[if_neg hv,if_neg (λz=>hv z.symm)]
   cases Pn ks v <;> rfl
theorem n9(ks:List (Int×Ac))(w:Int)(d:Ac):(lY ks w d).length<=ks.length+1:=by
 unfold lY
 split
 ·rw[Ad]; omega
 ·rw[Bn]; exact Ak _
def gW(g:List Int->Int)(w:List Int)(X:Int)(u:List Int):Int:=if u=w then X else g u
theorem iQ:gW g w X w=X:=if_pos rfl
theorem Sz(h:u≠w):gW g w X u=g u:=if_neg h
theorem oV{L M:List (List Int)}{vs X:Int}(hm:∀u,u∈M↔u∈L)(nd:M.Nodup)(hr:∀u∈L,Lj n u)(hs:M.Pairwise λx y=>y.length<=x.length)(hw:M[i]? = some w)(ho:jA L f vs g (M.take i))(hX:∀x:Int,x<=X↔∀v:Int,0<=v->v<vs->v≠f w->x<=Kb (M.take i) f g w v):jA L f vs (gW g w X) (M.take (i+1)):=by
 have hi:=(Ap.mp hw).1
 have wL:=(hm w).mp (Ax hw)
 have ahead:∀u∈L,w.length<u.length->u∈M.take i:=λu hu hl=>by
  obtain ⟨j,hj⟩:=Fw.mp ((hm u).mpr hu)
  have hj':=(Ap.mp hj).1
  by_cases q:j<i
  ·exact Ax (i:=j) (by rw[Ei q]; exact hj)
  ·exfalso
   by_cases z:j=i
   ·subst z; rw[hw] at hj; cases hj; omega
   ·have:=Eu.mp hs i j hi hj' (by omega)
    rw[Ba hi] at hw
    rw[Ba hj'] at hj
    cases hw
    cases hj
    omega
 have Xb:∀u∈M.take i,w.length<=u.length/\u≠w:=λu hu=>by
  obtain ⟨j,hj⟩:=Fw.mp hu
  have q:j<i:=by
   have:=(Ap.mp hj).1
   rw[Cw] at this
   omega
  rw[Ei q] at hj
  have hj':=(Ap.mp hj).1
  rw[Ba hi] at hw
  rw[Ba hj'] at hj
  cases hw
  cases hj
  refine ⟨Eu.mp hs j i hj' hi q,λz=>?_⟩
  have q3:=Eu.mp nd j i hj' hi q
  exact q3 z
 intro u hu x
 rw[Ju,hw] at hu
 have hu:u∈M.take i++[w]:=hu
 rcases Ay.mp hu with hu | hu
 ·obtain ⟨b1,b2⟩:=Xb u hu
  have uL:=(hm u).mp (cR _ _ hu)
  have same:∀v,Kb L f (gW g w X) u v=Kb L f g u v:=λv=>by
   unfold Kb
   congr 1
   refine Fo λc hc=>?_
   obtain ⟨c1,c2⟩:=Ck.mp hc
   rw[Dk] at c2
   have : c≠w:=λz=>by
    subst z
    have:=iH (hr u uL) (hr c c1) c2.2 b2
    omega
   rw[Sz this]
  rw[Sz b2]
  simp only[same]
  exact ho u hu x
 ·rw[Af.mp hu,iQ,hX x]
  refine forall_congr' λv=>forall_congr' λq1=>forall_congr' λq2=>forall_congr' λq3=>?_
  have : Kb (M.take i) f g w v=Kb L f (gW g w X) w v:=by
   unfold Kb
   refine xH λy=>?_
   constructor
   ·intro hy
    obtain ⟨c,hc,rfl⟩:=Bu.mp hy
    obtain ⟨c1,c2⟩:=Ck.mp hc
    exact Bu.mpr ⟨c,Ck.mpr ⟨(hm c).mp (cR _ _ c1),c2⟩,by rw[Sz (Xb c c1).2]⟩
   ·intro hy
    obtain ⟨c,hc,rfl⟩:=Bu.mp hy
    obtain ⟨c1,c2⟩:=Ck.mp hc
    have c3:=c2
    rw[Dk,decide_eq_true_eq] at c3
    have ne:c≠w:=λz=>q3 (by rw[<- c3.1,z])
    have:=iH (hr w wL) (hr c c1) c3.2 ne.symm
    exact Bu.mpr ⟨c,Ck.mpr ⟨ahead c c1 this,c2⟩,by rw[Sz ne]⟩
  rw[this]
theorem A8:iR .un=true:=rfl
theorem K5:iR (.dat .sh d)=oY d:=rfl
theorem C8:iR (.dat .ow d)=true:=rfl
theorem G6:oY (.int i)=true:=rfl
theorem Vv{α:Type}{f:α->Ac}(h:∀a,oY (f a)=true):∀l:List α,oD (l.map f)=true
 | []=>rfl
 | a::l=>by show (oY (f a) && oD (l.map f))=true; rw[h a,Vv h l]; rfl
theorem qG(w:List Int):oY (Cn w)=true:=Vv (λ_=>rfl) w
theorem AF(l:List (List Int)):oY (.list (l.map Cn))=true:=Vv qG l
theorem S7(l:List Int):oY (.list (l.map Ag))=true:=Vv (λ_=>rfl) l
theorem tR(L:List (List Int))(g:List Int->Int):(Rh L g).map (λp=>Cn p.1)=L.map Cn:=by
 unfold Rh
 rw[Ce]
 rfl
theorem zF(h:w∉P):Rn (Rh P g) w (.int X)=Rh (P++[w]) (gW g w X):=by
 unfold Rn
 rw[if_neg]
 ·unfold Rh
  rw[Bi,Aw,Ki,iQ]
  congr 1
  refine Fo λu hu=>?_
  rw[Sz (show u≠w from λz=>h (by rw[<- z]; exact hu))]
 ·intro z
  obtain ⟨p,hp,e⟩:=List.any_eq_true.mp z
  obtain ⟨u,hu,rfl⟩:=Bu.mp hp
  have q:u=w:=by simpa using e
  exact h (by rw[<- q]; exact hu)
theorem Y8(a b:Int):(if a > b then a else b)=max b a:=by
 by_cases h:a > b
 ·rw[if_pos h]; omega
 ·rw[if_neg h]; omega
section
variable{P:Bs}{w:World}{K:PySem.W.Frag}{mg:Str->Option Value}{base:Heap}
theorem dU:FnScope ["_law_words_here", "_law_face", "_law_values_here", "_law_shown", "_law_known", "_law_word", "_law_best", "_law_other"] ["_law_words_here", "_law_face", "_law_values_here"] (Bm Lh):=⟨rfl,rfl,rfl,by decide +kernel,rfl,by decide +kernel,by decide +kernel⟩
theorem dE(F:Fun K "_law_often" "_law_often" Lh f fd)(G_L_lies:FnOk P w K mg base Gp 1 f_L_lies d_L_lies ["_law_one", "_law_other"] (Tf K (mK)))(b_L_lies:Binds K d_L_lies ["_law_one", "_law_other"] [])(k_L_lies:PySem.W.keepIn K (.ref f_L_lies)=true)(m_L_lies:mg "_law_lies" = some (.ref f_L_lies))(mz_dict:mg "dict" = none)(mz_zip:mg "zip" = none)(mz_sorted:mg "sorted" = none)(mz_len:mg "len" = none)(mz_max:mg "max" = none)(mz_range:mg "range" = none)(mz_min:mg "min" = none):FnOk P w K mg base Gp 2 f fd ["_law_words_here", "_law_face", "_law_values_here"] (Tf K (qO)):=by
 refine' Kk (k:=1) F dU (λcdv A outer s H E hr=>?hb) ?h
 case hb =>
  have hr1:Room 1 _:=hr.mono (by decide)
  have hu64:=hr.units
  have CS1:∀{scope:Scope} (h:scope={ kind:=.function,names:=[(".0",.local),("_law_value",.local),("_law_best",.free),("_law_shown",.free),("_law_word",.free)],isGenerator:=false,isCoroutine:=false }),
    CompScope (Iy Gp P w K mg base ["_law_words_here", "_law_face", "_law_values_here", "_law_shown", "_law_known", "_law_word", "_law_best", "_law_other"] "_law_often" (Bm Lh) f cdv A outer s H E).nox scope [("_law_word",s.heap.objs.size+3),("_law_shown",s.heap.objs.size+1),("_law_best",s.heap.objs.size+4)] "_law_value" ["_law_best", "_law_shown", "_law_word"] [6,3,5]:=by
   rintro scope rfl
   refine ⟨by rfl,.inl (by decide +kernel),by rfl,by decide +kernel,.inl rfl,λy c h=>?_,by rfl,by decide +kernel,rfl,λk y j e1 e2=>?_⟩
   ·have z:=Dv h
    simp only[Ah,Av,or_false,Eb] at z
    rcases z with ⟨rfl,rfl⟩ | ⟨rfl,rfl⟩ | ⟨rfl,rfl⟩ <;> rfl
   ·match k,e1,e2 with
    | 0,e1,e2=>cases e1; cases e2; exact ⟨rfl,rfl,by first | exact .inl rfl | exact .inr rfl⟩
    | 1,e1,e2=>cases e1; cases e2; exact ⟨rfl,rfl,by first | exact .inl rfl | exact .inr rfl⟩
    | 2,e1,e2=>cases e1; cases e2; exact ⟨rfl,rfl,by first | exact .inl rfl | exact .inr rfl⟩
    | k+3,e1,e2=>cases e1
  have CS2:∀{scope:Scope} (h:scope={ kind:=.function,names:=[(".0",.local),("_law_word",.local),("_law_known",.free)],isGenerator:=false,isCoroutine:=false }),
    CompScope (Iy Gp P w K mg base ["_law_words_here", "_law_face", "_law_values_here", "_law_shown", "_law_known", "_law_word", "_law_best", "_law_other"] "_law_often" (Bm Lh) f cdv A outer s H E).nox scope [("_law_known",s.heap.objs.size+2)] "_law_word" ["_law_known"] [4]:=by
   rintro scope rfl
   refine ⟨by rfl,.inl (by decide +kernel),by rfl,by decide +kernel,.inl rfl,λy c h=>?_,by rfl,by decide +kernel,rfl,λk y j e1 e2=>?_⟩
   ·have z:=Dv h
    simp only[Ah,Av,or_false,Eb] at z
    obtain ⟨rfl,rfl⟩:=z; rfl
   ·match k,e1,e2 with
    | 0,e1,e2=>cases e1; cases e2; exact ⟨rfl,rfl,by first | exact .inl rfl | exact .inr rfl⟩
    | k+1,e1,e2=>cases e1
  exact Da (Qs (i:=3) dU.nd rfl (Oq rfl) (vW hu64 rfl mz_dict rfl mz_zip rfl (An (Ar (pv 0)) (An (Ar (pv 1)) Bh))))
   (Da (Qs (i:=4) dU.nd rfl (Oq rfl) J4)
   (Da (Sg Ex rfl (lX (G8 (yM rfl mz_sorted rfl mz_len (An (Ar (pv 0)) Bh)) (Q5 wM Ez) (λ_ _ _ h=>⟨_,rfl,h⟩))) (Me (i:=5) dU.nd rfl (Oq rfl))
   (Da (Qs (i:=6) dU.nd rfl (Oq rfl) L9)
    (Da (B0 Ex rfl (pv 4) (Me (i:=7) dU.nd rfl (Eh rfl))
    (Eo (bE (Pq (Ig G_L_lies hr1 rfl m_L_lies k_L_lies b_L_lies Gv (An (Ar (pv 5)) (An (Ar (pv 7)) Bh))))
     (Eo (F6 hu64 (pv 6) (Zm hu64 (Ar (pv 3)) (Ar (pv 7))) (Dj (Ti rfl) Zh rfl mz_max (by decide +kernel) (An (sL hu64 (Ar (pv 6)) (Zm hu64 (Ar (pv 3)) (Ar (pv 7))) Cj ⟨rfl,rfl,rfl,rfl⟩) (An (Mw (yU hu64 (Ar (pv 4)) (Ar (pv 7))) Cj) Bh))))) Uo)))
    (Eo (G5 hu64 (pv 4) (Ar (pv 5)) (Dj (eI rfl) rZ rfl mz_min (by decide +kernel) (An (Ir (CS1 rfl) rfl (Nq rfl mz_range (An (Ar (pv 2)) Bh)) (λ_ _ _=>Pd (Yk hu64 (Ar (pv 0)) (Zm hu64 (Ar (pv 2)) (Ar (pv 3))))) (λ_ _ _=>sL hu64 (Ar (pv 1)) (Ar (pv 0)) Cj ⟨rfl,rfl,rfl,rfl⟩)) Bh)))))))
   (Eo (Gg (Ir (CS2 rfl) rfl (lX (Ar (pv 0))) (λ_ _ _=>Hw) (λ_ _ _=>Zm hu64 (Ar (pv 1)) (Ar (pv 0))))))))
 case h =>
  (intro ds R q_; obtain ⟨h,L,f,vs,rfl,h0,h1,hp,v0,v1,hR⟩ := q_)
  refine ⟨rfl,?_⟩
  obtain ⟨l1,l2⟩:=Sw (n:=h.toNat) (by omega) hp
  have nd:=Yd hp
  have hz:Au=16777216:=Jo
  array_get_dec
  refine ⟨by rw[Ad]; omega,L,rfl,?_⟩
  rw[xN nd f]
  array_get_dec
  refine ⟨L,rfl,by omega,λM0 hM hs=>?_⟩
  have hM':M0.reverse.Perm L:=(Hm M0).trans hM
  have hs':M0.reverse.Pairwise λx y=>y.length<=x.length:=Mp.mpr hs
  rw[<- List.map_reverse]
  generalize M0.reverse=M at hM' hs'
  have ndM:M.Nodup:=hM'.nodup_iff.mpr nd
  have lM:=hM'.length_eq
  refine kG (l:=M) (g:=Cn) rfl (λi δ=>∃(g:List Int->Int) (v5 v6 v7:DV),δ=⟨[.dat .sh (.list (L.map Cn)),.dat .sh (.list ((L.map f).map Ag)),.dat .sh (.int vs),.dat .ow (.dict (Qz (Rh L f))),.dat .ow (.dict (Qz (Rh (M.take i) g))),v5,v6,v7],0⟩/\NP v5/\NP v6/\NP v7/\iR v7=true/\jA L f vs g (M.take i)) ?_ ?_ ?_
  ·exact ⟨λ_=>0,_,_,_,rfl,Py,Py,Py,rfl,λ_ z=>nomatch z⟩
  ·(intro i w _ hw q_; obtain ⟨g,v5,v6,v7,rfl,hv5,hv6,hv7,ok7,ho⟩ := q_)
   have wL:=hM'.mem_iff.mp (Ax hw)
   have hi:=(Ap.mp hw).1
   array_get_dec
   have lP:(Rh (M.take i) g).length=i:=by simp only[Rh,Ad,Cw]; omega
   refine ⟨_,rfl,by omega,λa=>?_⟩
   refine ⟨λj δ=>∃(bs:List (Int×Ac)) (v7:DV),δ=⟨[.dat .sh (.list (L.map Cn)),.dat .sh (.list ((L.map f).map Ag)),.dat .sh (.int vs),.dat .ow (.dict (Qz (Rh L f))),.dat .sh (.dict (Wg a (Rh (M.take i) g))),.dat .sh (Cn w),.dat .ow (.dict (Yu bs)),v7],0⟩/\NP v7/\iR v7=true/\bs.length<=j/\∀v,(Pn bs v).getD (.int 0)=.int (Kb ((M.take i).take j) f g w v),⟨[],v7,rfl,hv7,ok7,Dg _,λv=>rfl⟩,?_,?_⟩
   ·(intro j d _ hd q_; obtain ⟨bs,u7,rfl,hu7,ok,lb,hb⟩ := q_)
    rw[tR,Be] at hd
    cases hu:(M.take i)[j]? with
    | none=>rw[hu] at hd; cases hd
    | some u =>
    rw[hu] at hd
    cases hd
    have uP:=Ax hu
    have uL:=hM'.mem_iff.mp (cR _ _ uP)
    have hj:j<1024:=by
     have:=(Ap.mp hu).1
     rw[Cw] at this
     omega
    have tk:(M.take i).take (j+1)=(M.take i).take j++[u]:=by rw[Ju,hu]; rfl
    array_get_dec
    refine ⟨w,u,rfl,?_⟩
    refine eQ (λhin=>?_) (λhin=>?_)
    ·array_get_dec
     refine ⟨_,Tb uL,?_⟩
     array_get_dec
     rw[hb]
     array_get_dec
     refine ⟨_,Tb uP,?_⟩
     array_get_dec
     refine ⟨_,Tb uL,?_⟩
     array_get_dec
     refine ⟨by omega,_,_,rfl,Gw,qG u,Bz (n9 _ _ _) (by omega),λv=>?_⟩
     rw[d0,tk,bR]
     by_cases q:v=f u
     ·subst q
      rw[if_pos (show f u=f u from rfl),if_pos (show f u=f u/\dM w u=true from ⟨rfl,hin⟩)]
      rw[Option.getD_some,Y8]
     ·rw[if_neg q,if_neg (λz=>q z.1.symm)]
      exact hb v
    ·array_get_dec
     refine ⟨bs,_,rfl,Gw,qG u,by omega,λv=>?_⟩
     rw[tk,bR,if_neg (λz=>by rw[z.2] at hin; cases hin)]
     exact hb v
   ·(intro _ q_; obtain ⟨bs,u7,rfl,hu7,ok,lb,hb⟩ := q_)
    rw[lP] at hb
    refine ⟨rfl,?_,?_⟩
    ·simp only[Pr,List.set_cons_zero,Wq,List.all_nil,A8,K5,C8,AF,S7,qG,G6,ok,Bool.and_self]
    rw[show (M.take i).take i=M.take i by rw[List.take_take,Nat.min_self]] at hb
    array_get_dec
    refine ⟨by omega,by omega,?_⟩
    refine cA (l:=Di vs.toNat) (g:=λi:Nat=>.int i) rfl (λk:Nat=>decide ((k:Int)≠f w)) (λk=>.int (Kb (M.take i) f g w k)) (λk _ yes no hy hn=>?_) ?_
    ·array_get_dec
     refine ⟨_,Tb wL,?_⟩
     array_get_dec
     refine Oy (λq=>?_) (λq=>?_)
     ·array_get_dec
      rw[hb]
      array_get_dec
      exact hy (by simpa using q)
     ·exact hn (by simpa using q)
    array_get_dec
    have mem:∀b:Int,b∈((Di vs.toNat).filter λk:Nat=>decide ((k:Int)≠f w)).map (λk:Nat=>Kb (M.take i) f g w k)↔∃v:Int,0<=v/\v<vs/\v≠f w/\b=Kb (M.take i) f g w v:=λb=>by
     constructor
     ·intro q
      obtain ⟨k,hk,rfl⟩:=Bu.mp q
      obtain ⟨q1,q2⟩:=Ck.mp hk
      have:=Kf.mp q1
      exact ⟨k,by omega,by omega,by simpa using q2,rfl⟩
     ·(intro q_; obtain ⟨v,q1,q2,q3,rfl⟩ := q_)
      refine Bu.mpr ⟨v.toNat,Ck.mpr ⟨Kf.mpr (by omega),?_⟩,by rw[Ot q1]⟩
      rw[Ot q1]
      simpa using q3
    refine ⟨((Di vs.toNat).filter λk:Nat=>decide ((k:Int)≠f w)).map (λk:Nat=>Kb (M.take i) f g w k),by rw[Ce]; rfl,λz=>?_,λX hX hle=>?_⟩
    ·have q1:=(mem (Kb (M.take i) f g w 0)).mpr
     have q2:=(mem (Kb (M.take i) f g w 1)).mpr
     rw[z] at q1 q2
     by_cases q:f w=0
     ·exact absurd (q2 ⟨1,by omega,by omega,by omega,rfl⟩) Av
     ·exact absurd (q1 ⟨0,by omega,by omega,by omega,rfl⟩) Av
    array_get_dec
    have nw:w∉M.take i:=λz=>by
     obtain ⟨j,hj⟩:=Fw.mp z
     have hj1:j<i:=by
      have:=(Ap.mp hj).1
      rw[Cw] at this
      omega
     rw[Ei hj1] at hj
     have hj2:=(Ap.mp hj).1
     have:=Eu.mp ndM j i hj2 hi hj1
     rw[Ba hj2] at hj
     rw[Ba hi] at hw
     exact this (Bp (hj.trans hw.symm))
    rw[lP]
    have e9:Rn (Rh (M.take i) g) w (.int X)=Rh (M.take (i+1)) (gW g w X):=by
     rw[zF nw,Ju,hw]
     rfl
    rw[e9]
    refine ⟨by simp [npk,hu7 _],by omega,gW g w X,_,_,_,rfl,Gw,EJ,hu7,ok,?_⟩
    ·refine oV (λu=>hM'.mem_iff) ndM (λu hu=>(l2 u hu).1) hs' hw ho λx=>⟨λq v q1 q2 q3=>?_,λq=>?_⟩
     ·have:=hle _ ((mem _).mpr ⟨v,q1,q2,q3,rfl⟩)
      omega
     ·obtain ⟨v,q1,q2,q3,rfl⟩:=(mem X).mp hX
      exact q v q1 q2 q3
  ·(intro _ q_; obtain ⟨g,v5,v6,v7,rfl,hv5,hv6,hv7,ok7,ho⟩ := q_)
   rw[Ga] at ho
   array_get_dec
   rw[Ga]
   refine Ua (l:=L) (g:=Cn) rfl (λw=>.int (g w)) (λw hw yes no hy=>?_) ?_
   ·array_get_dec
    refine ⟨_,Tb (hM'.mem_iff.mpr hw),?_⟩
    array_get_dec
    exact hy
   ·array_get_dec
    have:=hR g λw hw=>ho w (hM'.mem_iff.mpr hw)
    rw[Ce] at this
    exact this
end
theorem X8:Mt .none "bool" = false:=by simp [Mt,gQ]
theorem W1:Mt .none "int" = false:=by simp [Mt,gQ]
def Lq(ws:List (List Int))(w:List Int):List Int:=(ws.zipIdx.filter λp=>dM w p.1).map λp=>(p.2:Int)
def mL:PF:=λds R=>∃L:List (List Int),ds=[.list (L.map Cn)]/\L.length<=1024/\R (.list (L.map λw=>.list ((Lq L w).map Ag)))
def o4:PF:=λds R=>∃(d:Ac) (os:List Ac),ds=[.list os,d]/\EI d/\R (.bool (Rv d os.length))
section
variable{P:Bs}{w:World}{K:PySem.W.Frag}{mg:Str->Option Value}{base:Heap}
theorem Tu:FnScope ["_law_words_here", "_law_thing"] ["_law_words_here", "_law_thing"] (Bm Ie):=⟨rfl,rfl,rfl,by decide +kernel,rfl,by decide +kernel,by decide +kernel⟩
theorem Tt(F:Fun K "_law_are_numbers" "_law_are_numbers" Ie f fd)(mz_len:mg "len" = none)(mz_list:mg "list" = none)(mz_isinstance:mg "isinstance" = none)(mz_int:mg "int" = none)(mz_bool:mg "bool" = none):FnOk P w K mg base Gp 1 f fd ["_law_words_here", "_law_thing"] (Tf K (o4)):=by
 refine' Kk (k:=0) F Tu (λcdv A outer s H E hr=>?hb) ?h
 case hb =>
  have hu64:=hr.units
  have CS1:∀{scope:Scope} (h:scope={ kind:=.function,names:=[(".0",.local),("_law_one",.local),("isinstance",.globalImplicit),("bool",.globalImplicit),("int",.globalImplicit)],isGenerator:=false,isCoroutine:=false }),
    CompScope (Iy Gp P w K mg base ["_law_words_here", "_law_thing"] "_law_are_numbers" (Bm Ie) f cdv A outer s H E).nox scope [] "_law_one" [] []:=by
   rintro scope rfl
   exact Nd.compScope0 (by rfl) (by decide +kernel) (by rfl) (by decide +kernel) (by rfl) (by rfl)
  exact Da (bE (sR (bT (Xr (Pq (Dj Ui Uq rfl mz_isinstance (by decide +kernel) (An (Ar (pv 1)) (An (Zv (n := "list") rfl mz_list (by decide +kernel)) Bh))))) (fX (Yk hu64 (Dj Hu Ly rfl mz_len (by decide +kernel) (An (Ar (pv 1)) Bh)) (Dj Hu Ly rfl mz_len (by decide +kernel) (An (Ar (pv 0)) Bh))))))
   (Eo (Gg We)) Uo)
   (Eo (Gg (jR hu64 (Ir (CS1 rfl) rfl (lX (Ar (pv 1))) (λ_ _ _=>Pd (sR (bT (Pq (Dj Ui Uq rfl mz_isinstance (by decide +kernel) (An (Ar (pv 0)) (An (Zv (n := "bool") rfl mz_bool (by decide +kernel)) Bh)))) (bT (Xr (Pq (Dj Ui Uq rfl mz_isinstance (by decide +kernel) (An (Ar (pv 0)) (An (Zv (n := "int") rfl mz_int (by decide +kernel)) Bh))))) (fX (EK (Ar (pv 0)) Cj)))))) (λ_ _ _=>Ar (pv 0))) (Fp Bh))))
 case h =>
  (intro ds R q_; obtain ⟨d,os,rfl,hd,hR⟩ := q_)
  refine ⟨rfl,?_⟩
  array_get_dec
  refine O5 (λh=>?_) (λh=>?_)
  ·rw[kZ (by simpa using h)] at hR
   array_get_dec
   exact hR
  obtain ⟨ds,rfl⟩:=qX (d:=d) (by simpa using h)
  have ha:ds.all lJ=true:=by
   rcases hd with ⟨ds',e,h⟩ | h
   ·cases e; exact h
   ·cases h
  have hi:=iJ ha
  array_get_dec
  refine eQ (λh1=>?_) (λh1=>?_)
  ·array_get_dec
   have : Rv (.list ds) os.length=false:=by
    show (decide ((ds.length:Int)=os.length) && ds.all Ks)=false
    rw[show decide ((ds.length:Int)=os.length)=false by simpa using h1]
    rfl
   rw[this] at hR
   exact hR
  ·have e:Rv (.list ds) os.length=ds.all Ks:=by
    show (decide ((ds.length:Int)=os.length) && ds.all Ks)=_
    rw[show decide ((ds.length:Int)=os.length)=true by simpa using h1]
    rfl
   rw[e] at hR
   array_get_dec
   refine cA (l:=ds) (g:=λd=>d) (by simp) (λd=>!Ks d) (λd=>d) (λd hm yes no hy hn=>?_) ?_
   ·have at_:=Dh.mp ha d hm
    cases d with
    | int i =>
     array_get_dec
     refine Oy (λh=>?_) (λh=>?_)
     ·array_get_dec
      exact hy (by simp only[Ks,decide_eq_true_eq] at h ⊢; simpa using h)
     ·exact hn (by simp only[Ks] at h ⊢; simpa using h)
    | none =>
     array_get_dec
     rw[X8]
     array_get_dec
     rw[W1]
     array_get_dec
     exact hy rfl
    | bool b =>
     array_get_dec
     exact hy rfl
    | str x =>
     array_get_dec
     exact hy rfl
    | _=>cases at_
   ·array_get_dec
    rw[List.map_id']
    refine ⟨?_,?_⟩
    ·have : (ds.filter λd=>!Ks d).all lJ=true:=Dh.mpr λd hd=>Dh.mp ha d (Ck.mp hd).1
     have:=Sv this
     simp only[Cm,this]
     omega
    ·rw[show (ds.filter λd=>!Ks d).isEmpty=ds.all Ks from ?_]
     ·exact hR
     ·rw[Tr,cT,Si,Dh]
      simp
theorem bJ:FnScope ["_law_words_here"] ["_law_words_here"] (Bm Kh):=⟨rfl,rfl,rfl,by decide +kernel,rfl,by decide +kernel,by decide +kernel⟩
theorem bI(F:Fun K "_law_beyond" "_law_beyond" Kh f fd)(G_L_lies:FnOk P w K mg base Gp 1 f_L_lies d_L_lies ["_law_one", "_law_other"] (Tf K (mK)))(b_L_lies:Binds K d_L_lies ["_law_one", "_law_other"] [])(k_L_lies:PySem.W.keepIn K (.ref f_L_lies)=true)(m_L_lies:mg "_law_lies" = some (.ref f_L_lies))(mz_enumerate:mg "enumerate" = none):FnOk P w K mg base Gp 2 f fd ["_law_words_here"] (EZ K (mL)):=by
 refine' u3 (k:=1) F bJ (λcdv A outer s H E hr=>?hb) ?h
 case hb =>
  have hr1:Room 1 _:=hr.mono (by decide)
  have hu64:=hr.units
  have CS1:∀{scope:Scope} (h:scope={ kind:=.function,names:=[(".0",.local),("_law_word",.cell),("enumerate",.globalImplicit),("_law_words_here",.free)],isGenerator:=false,isCoroutine:=false }),
    CompScope (Iy Gp P w K mg base ["_law_words_here"] "_law_beyond" (Bm Kh) f cdv A outer s H E).nox scope [("_law_words_here",s.heap.objs.size+1)] "_law_word" ["_law_words_here"] [0]:=by
   rintro scope rfl
   refine ⟨by rfl,.inr ⟨"_law_word",λ_=>rfl,rfl,by decide +kernel⟩,by rfl,by decide +kernel,.inr rfl,λy c h=>?_,by rfl,by decide +kernel,rfl,λk y j e1 e2=>?_⟩
   ·have z:=Dv h
    simp only[Ah,Av,or_false,Eb] at z
    obtain ⟨rfl,rfl⟩:=z; rfl
   ·match k,e1,e2 with
    | 0,e1,e2=>cases e1; cases e2; exact ⟨rfl,rfl,by first | exact .inl rfl | exact .inr rfl⟩
    | k+1,e1,e2=>cases e1
  have CS2:∀{scope:Scope} (h:scope={ kind:=.function,names:=[(".0",.local),("_law_j",.local),("_law_other",.local),("_law_lies",.globalImplicit),("_law_word",.free)],isGenerator:=false,isCoroutine:=false }) (fp0:List Addr) (s0:Aj) (H0:Hp),
    CompScope (Ek (Iy Gp P w K mg base ["_law_words_here"] "_law_beyond" (Bm Kh) f cdv A outer s H E).nox { kind:=.function,names:=[(".0",.local),("_law_word",.cell),("enumerate",.globalImplicit),("_law_words_here",.free)],isGenerator:=false,isCoroutine:=false } [("_law_words_here",s.heap.objs.size+1)] ["_law_word", "_law_words_here"] fp0 s0 H0) scope [("_law_word",s0.heap.objs.size+1)] "_law_j" ["_law_word"] [0]:=by
   rintro scope rfl fp0 s0 H0
   refine ⟨by rfl,.inl (by decide +kernel),by rfl,by decide +kernel,.inl rfl,λy c h=>?_,by rfl,by decide +kernel,rfl,λk y j e1 e2=>?_⟩
   ·have z:=Dv h
    simp only[Ah,Av,or_false,Eb] at z
    obtain ⟨rfl,rfl⟩:=z; rfl
   ·match k,e1,e2 with
    | 0,e1,e2=>cases e1; cases e2; exact ⟨rfl,rfl,by first | exact .inl rfl | exact .inr rfl⟩
    | k+1,e1,e2=>cases e1
  exact Eo (Gg (o9 (CS1 rfl) rfl (lX (Ar (pv 0))) (λ_ _ _=>Hw) (λ_ _ _=>lH (CS2 rfl _ _ _) (.inl rfl) (by decide +kernel) rfl (fV rfl mz_enumerate (An (Ar (pv 1)) Bh)) (λ_ _ _=>Pd (Pq (Ig G_L_lies hr1 rfl m_L_lies k_L_lies b_L_lies Gv (An (Ar (pv 2)) (An (Ar (pv 1)) Bh))))) (λ_ _ _=>Ar (pv 0)))))
 case h =>
  (intro ds R q_; obtain ⟨L,rfl,l1,hR⟩ := q_)
  refine ⟨rfl,?_⟩
  array_get_dec
  refine T6 (l:=L) (g:=Cn) rfl (λw=>.list ((Lq L w).map Ag)) (λw hw yes no hy=>?_) ?_
  ·array_get_dec
   refine xW (l:=L.zipIdx) (g1:=λp=>.int p.2) (g2:=λp=>Cn p.1) (by rw[rE,Ce]; rfl) (λp=>dM w p.1) (λp=>.int p.2) (λp hp yes no hy hn=>?_) ?_
   ·array_get_dec
    refine ⟨w,p.1,rfl,?_⟩
    refine Oy (λh=>?_) (λh=>?_)
    ·array_get_dec
     exact hy h
    ·exact hn h
   ·array_get_dec
    unfold Lq at hy
    rw[Ce] at hy
    exact hy
  ·array_get_dec
   exact hR
end
noncomputable def oF(L:List (List Int))(face:List Int)(vs:Int)(nums:List Int):Bool:=@decide (∀(k:Nat) (w:List Int) (f x:Int),L[k]? = some w->face[k]? = some f->nums[k]? = some x->0<x->∀v:Int,0<=v->v<vs->v≠f->∃(j:Nat) (u:List Int) (y:Int),L[j]? = some u/\dM w u=true/\face[j]? = some v/\nums[j]? = some y/\x - 1<=y) (Ht _)
def pI(L:List (List Int))(face:List Int)(vs:Int)(nums:List Int)(k:Nat):Prop:=∀(w:List Int) (f x:Int),L[k]? = some w->face[k]? = some f->nums[k]? = some x->0<x->∀v:Int,0<=v->v<vs->v≠f->∃(j:Nat) (u:List Int) (y:Int),L[j]? = some u/\dM w u=true/\face[j]? = some v/\nums[j]? = some y/\x - 1<=y
theorem W3{vs:Int}(h:∀k,k<L.length->pI L face vs nums k):oF L face vs nums=true:=by
 unfold oF
 exact @decide_eq_true _ (Ht _) λk w f x h1=>h k (Ap.mp h1).1 w f x h1
theorem R5{vs:Int}(h:¬ pI L face vs nums k):oF L face vs nums=false:=by
 unfold oF
 exact @decide_eq_false _ (Ht _) λz=>h (z k)
theorem BX:j∈Lq L w↔∃(n:Nat) (u:List Int),j=n/\L[n]? = some u/\dM w u=true:=by
 unfold Lq
 constructor
 ·intro h
  obtain ⟨p,hp,rfl⟩:=Bu.mp h
  obtain ⟨h1,h2⟩:=Ck.mp hp
  obtain ⟨k,hk⟩:=Fw.mp h1
  obtain ⟨ek,hp1,_,_⟩:=bQ hk
  exact ⟨p.2,p.1,rfl,by rw[ek]; exact hp1,h2⟩
 ·(intro q_; obtain ⟨n,u,rfl,h1,h2⟩ := q_)
  exact Bu.mpr ⟨(u,n),Ck.mpr ⟨Zq.mpr h1,h2⟩,rfl⟩
theorem vR(L:List (List Int)):((L.map λw=>PyData.list ((Lq L w).map Ag)).zipIdx.map λp=>PyData.tuple [.int p.2,p.1])=L.zipIdx.map λp=>.tuple [.int p.2,.list ((Lq L p.1).map Ag)]:=by
 rw[List.zipIdx_map,Ce]
 rfl
def uU(l:List Int)(j:Int):Int:=(l[j.toNat]?).getD 0
theorem zC{l:List Int}{j:Int}(h0:0<=j)(h1:j<l.length):Sx (l.map Ag) j=some (.int (uU l j)):=by
 obtain ⟨a,e1,e2,_⟩:=Ny (l:=l) h0 h1
 rw[Ss,e2]
 unfold uU
 rw[e1]
 rfl
theorem qY{l:List Int}(h:j<l.length):l[j]? = some (uU l j):=by
 unfold uU
 rw[Gm,Ba h]
 rfl
def rN:PF:=λds R=>∃(L:List (List Int)) (face:List Int) (vs:Int) (d:Ac),ds=[.list (L.map λw=>.list ((Lq L w).map Ag)),.list (face.map Ag),.int vs,d]/\L.length=face.length/\L.length<=1024/\2<=vs/\vs<=16/\EI d /\
 (Rv d L.length=false->R (.bool false))/\∀nums:List Int,d=.list (nums.map Ag)->nums.length=L.length->(∀x∈nums,0<=x)->R (.bool (oF L face vs nums))
section
variable{P:Bs}{w:World}{K:PySem.W.Frag}{mg:Str->Option Value}{base:Heap}
theorem dH:FnScope ["_law_over", "_law_face", "_law_values_here", "_law_thing", "_law_k", "_law_some", "_law_value", "_law_ends"] ["_law_over", "_law_face", "_law_values_here", "_law_thing"] (Bm Lg):=⟨rfl,rfl,rfl,by decide +kernel,rfl,by decide +kernel,by decide +kernel⟩
theorem cY(F:Fun K "_law_holds" "_law_holds" Lg f fd)(G_L_are_numbers:FnOk P w K mg base Gp 1 f_L_are_numbers d_L_are_numbers ["_law_words_here", "_law_thing"] (Tf K (o4)))(b_L_are_numbers:Binds K d_L_are_numbers ["_law_words_here", "_law_thing"] [])(k_L_are_numbers:PySem.W.keepIn K (.ref f_L_are_numbers)=true)(m_L_are_numbers:mg "_law_are_numbers" = some (.ref f_L_are_numbers))(mz_enumerate:mg "enumerate" = none)(mz_int:mg "int" = none)(mz_range:mg "range" = none):FnOk P w K mg base Gp 2 f fd ["_law_over", "_law_face", "_law_values_here", "_law_thing"] (Tf K (rN)):=by
 refine' Kk (k:=1) F dH (λcdv A outer s H E hr=>?hb) ?h
 case hb =>
  have hr1:Room 1 _:=hr.mono (by decide)
  have hu64:=hr.units
  have CS1:∀{scope:Scope} (h:scope={ kind:=.function,names:=[(".0",.local),("_law_j",.local),("_law_face",.free),("_law_value",.free)],isGenerator:=false,isCoroutine:=false }),
    CompScope (Iy Gp P w K mg base ["_law_over", "_law_face", "_law_values_here", "_law_thing", "_law_k", "_law_some", "_law_value", "_law_ends"] "_law_holds" (Bm Lg) f cdv A outer s H E).nox scope [("_law_value",s.heap.objs.size+4),("_law_face",s.heap.objs.size+1)] "_law_j" ["_law_face", "_law_value"] [1,6]:=by
   rintro scope rfl
   refine ⟨by rfl,.inl (by decide +kernel),by rfl,by decide +kernel,.inl rfl,λy c h=>?_,by rfl,by decide +kernel,rfl,λk y j e1 e2=>?_⟩
   ·have z:=Dv h
    simp only[Ah,Av,or_false,Eb] at z
    rcases z with ⟨rfl,rfl⟩ | ⟨rfl,rfl⟩ <;> rfl
   ·match k,e1,e2 with
    | 0,e1,e2=>cases e1; cases e2; exact ⟨rfl,rfl,by first | exact .inl rfl | exact .inr rfl⟩
    | 1,e1,e2=>cases e1; cases e2; exact ⟨rfl,rfl,by first | exact .inl rfl | exact .inr rfl⟩
    | k+2,e1,e2=>cases e1
  have CS2:∀{scope:Scope} (h:scope={ kind:=.function,names:=[(".0",.local),("_law_j",.local),("_law_k",.free),("_law_thing",.free)],isGenerator:=false,isCoroutine:=false }),
    CompScope (Iy Gp P w K mg base ["_law_over", "_law_face", "_law_values_here", "_law_thing", "_law_k", "_law_some", "_law_value", "_law_ends"] "_law_holds" (Bm Lg) f cdv A outer s H E).nox scope [("_law_thing",s.heap.objs.size+2),("_law_k",s.heap.objs.size+3)] "_law_j" ["_law_k", "_law_thing"] [4,3]:=by
   rintro scope rfl
   refine ⟨by rfl,.inl (by decide +kernel),by rfl,by decide +kernel,.inl rfl,λy c h=>?_,by rfl,by decide +kernel,rfl,λk y j e1 e2=>?_⟩
   ·have z:=Dv h
    simp only[Ah,Av,or_false,Eb] at z
    rcases z with ⟨rfl,rfl⟩ | ⟨rfl,rfl⟩ <;> rfl
   ·match k,e1,e2 with
    | 0,e1,e2=>cases e1; cases e2; exact ⟨rfl,rfl,by first | exact .inl rfl | exact .inr rfl⟩
    | 1,e1,e2=>cases e1; cases e2; exact ⟨rfl,rfl,by first | exact .inl rfl | exact .inr rfl⟩
    | k+2,e1,e2=>cases e1
  exact Da (bE (Xr (Pq (Ig G_L_are_numbers hr1 rfl m_L_are_numbers k_L_are_numbers b_L_are_numbers Gv (An (Ar (pv 0)) (An (Ar (pv 3)) Bh)))))
   (Eo (Gg We)) Uo)
   (Da (Sg Ex rfl (fV rfl mz_enumerate (An (Ar (pv 0)) Bh)) (V8 (n:=2) rfl (jW (Me (i:=4) dH.nd rfl (Oq rfl)) (jW (Me (i:=5) dH.nd rfl (Eh rfl)) C2)))
   (Eo (Sg Ex rfl (Nq rfl mz_range (An (zU (Ar (pv 2)) (Jz Xp oB rfl mz_int (by decide +kernel) (An (CO (Ic (Ar (pv 3)) (Ar (pv 4))) Cj) Bh))) Bh)) (Me (i:=6) dH.nd rfl (Oq rfl))
    (Da (rD (o:=false) (i0:=7) dH.nd rfl rfl (CS1 rfl) rfl (lX (Ar (pv 5))) (λ_ _ _=>Pd (zB hu64 (Ic (Ar (pv 1)) (Ar (pv 0))) (Ar (pv 2)))) (λ_ _ _=>Ar (pv 0)))
     (Eo (bE (sR (zM (Yk hu64 (Ar (pv 6)) (Ic (Ar (pv 1)) (Ar (pv 4)))) (qH (zB hu64 (Ir (CS2 rfl) rfl (lX (Ar (pv 7))) (λ_ _ _=>Pd (CB (Ic (Ar (pv 2)) (Ar (pv 0))) (Pl (Ic (Ar (pv 2)) (Ar (pv 1))) Cj))) (λ_ _ _=>Ar (pv 0))) (Fp Bh)))))
     (Eo (Gg We)) Uo))))))
   (Eo (Gg We)))
 case h =>
  (intro ds R q_; obtain ⟨L,face,vs,d,rfl,lf,l1,v0,v1,hd,hR1,hR2⟩ := q_)
  refine ⟨rfl,?_⟩
  array_get_dec
  refine ⟨d,_,rfl,hd,?_⟩
  rw[Ad]
  refine eQ (λhb=>?_) (λhb=>?_)
  ·array_get_dec
   exact hR1 (by simpa using hb)
  obtain ⟨nums,rfl,ln,nn⟩:=mJ (d:=d) (n:=L.length) (by simpa using hb)
  have ln:nums.length=L.length:=by omega
  have hR2:=hR2 nums rfl ln nn
  array_get_dec
  refine kG (l:=L.zipIdx) (g:=λp=>.tuple [.int p.2,.list ((Lq L p.1).map Ag)]) (vR L) (λi δ=>∃v4 v5 v6 v7:DV,δ=⟨[.dat .sh (.list (L.map λw=>.list ((Lq L w).map Ag))),.dat .sh (.list (face.map Ag)),.dat .sh (.int vs),.dat .sh (.list (nums.map Ag)),v4,v5,v6,v7],0⟩/\NP v4/\NP v5/\NP v6/\NP v7/\∀k,k<i->pI L face vs nums k) ?_ ?_ ?_
  ·exact ⟨_,_,_,_,rfl,Py,Py,Py,Py,λk z=>absurd z (Oi k)⟩
  ·(intro i p _ hp q_; obtain ⟨v4,v5,v6,v7,rfl,hv4,hv5,hv6,hv7,ho⟩ := q_)
   obtain ⟨ek,hp1,hp2,hp3⟩:=bQ hp
   obtain ⟨w,k⟩:=p
   simp only at ek hp1 hp2 hp3
   subst ek
   obtain ⟨f,hf⟩ : ∃f,face[k]? = some f:=⟨_,Ba (by omega)⟩
   obtain ⟨x,hx⟩ : ∃x,nums[k]? = some x:=⟨_,Ba (by omega)⟩
   have ef:Sx (face.map Ag) (k:Int)=some (.int f):=Vs (by rw[Be,hf]; rfl)
   have ex:Sx (nums.map Ag) (k:Int)=some (.int x):=Vs (by rw[Be,hx]; rfl)
   have x0:=nn x (Ax hx)
   array_get_dec
   have eN:(vs * if decide (0<x)=true then (1:Int) else 0)=if 0<x then vs else 0:=by
    by_cases q:0<x
    ·rw[if_pos (by simpa using q),if_pos q]; omega
    ·rw[if_neg (by simpa using q),if_neg q]; omega
   refine ⟨_,ex,.inl ⟨by omega,by omega⟩,?_⟩
   array_get_dec
   rw[eN]
   have bN:0<=(if 0<x then vs else 0)/\(if 0<x then vs else 0)<=vs:=by split <;> omega
   refine ⟨by omega,by omega,?_⟩
   refine kG (l:=Di (if 0<x then vs else 0).toNat) (g:=λi:Nat=>.int i) rfl (λi δ=>∃v6 v7:DV,δ=⟨[.dat .sh (.list (L.map λw=>.list ((Lq L w).map Ag))),.dat .sh (.list (face.map Ag)),.dat .sh (.int vs),.dat .sh (.list (nums.map Ag)),.dat .sh (.int k),.dat .sh (.list ((Lq L w).map Ag)),v6,v7],0⟩/\NP v6/\NP v7/\∀v:Int,0<=v->v<i->v≠f->∃(j:Nat) (u:List Int) (y:Int),L[j]? = some u/\dM w u=true/\face[j]? = some v/\nums[j]? = some y/\x - 1<=y) ?_ ?_ ?_
   ·exact ⟨_,_,rfl,hv6,hv7,λv z1 z2=>absurd z2 (by omega)⟩
   ·(intro i a _ ha q_; obtain ⟨v6,v7,rfl,hv6,hv7,hin⟩ := q_)
    obtain ⟨rfl,hi⟩:=aU ha
    have x1:0<x:=Ol λz=>by rw[if_neg z] at hi; exact Oi _ hi
    rw[if_pos x1] at hi
    have inb:∀j∈Lq L w,0<=j/\j<L.length:=λj hj=>by
     obtain ⟨n,u,rfl,h1,_⟩:=BX.mp hj
     have:=(Ap.mp h1).1
     omega
    array_get_dec
    refine cA (l:=Lq L w) (g:=Ag) rfl (λj=>decide (uU face j=(a:Int))) (λj=>.int j) (λj hj yes no hy hn=>?_) ?_
    ·obtain ⟨j0,j1⟩:=inb j hj
     array_get_dec
     refine ⟨_,zC j0 (by omega),dp,?_⟩
     array_get_dec
     refine Oy (λq=>?_) (λq=>?_)
     ·array_get_dec
      exact hy q
     ·exact hn q
    array_get_dec
    refine ⟨_,ef,dp,?_⟩
    array_get_dec
    have go:(¬ (a:Int)≠f\/∃(j:Nat) (u:List Int) (y:Int),L[j]? = some u/\dM w u=true/\face[j]? = some (a:Int)/\nums[j]? = some y/\x - 1<=y)->∀v:Int,0<=v->v<((a+1:Nat):Int)->v≠f->∃(j:Nat) (u:List Int) (y:Int),L[j]? = some u/\dM w u=true/\face[j]? = some v/\nums[j]? = some y/\x - 1<=y:=λq v z1 z2 z3=>by
     by_cases e:v=a
     ·subst e
      rcases q with q | q
      ·exact absurd z3 q
      ·exact q
     ·exact hin v z1 (by omega) z3
    refine i8 (λh1=>?_) (λh1=>?_)
    ·array_get_dec
     refine cA (l:=(Lq L w).filter λj=>decide (uU face j=(a:Int))) (g:=Ag) rfl (λj=>decide (x - 1<=uU nums j)) (λj=>.int j) (λj hj yes no hy hn=>?_) ?_
     ·obtain ⟨j0,j1⟩:=inb j (Ck.mp hj).1
      array_get_dec
      refine ⟨_,zC j0 (by omega),_,ex,?_⟩
      array_get_dec
      refine Oy (λq=>?_) (λq=>?_)
      ·array_get_dec
       exact hy q
      ·exact hn q
     array_get_dec
     refine eQ (λh2=>?_) (λh2=>?_)
     ·array_get_dec
      rw[R5 (k:=k)] at hR2
      ·exact hR2
      ·intro z
       obtain ⟨j,u,y,q1,q2,q3,q4,q5⟩:=z w f x hp1 hf hx x1 a (by omega) (by omega) (by simpa using h1)
       have hj:j<L.length:=(Ap.mp q1).1
       rw[cT,List.map_eq_nil_iff,Si] at h2
       refine h2 j (Ck.mpr ⟨BX.mpr ⟨j,u,rfl,q1,q2⟩,?_⟩) ?_
       ·have:=qY (l:=face) (j:=j) (by omega)
        rw[q3] at this
        simpa using (Bp this).symm
       ·have:=qY (l:=nums) (j:=j) (by omega)
        rw[q4] at this
        have:=Bp this
        simp only[decide_eq_true_eq]
        omega
     ·array_get_dec
      refine ⟨_,_,rfl,Gw,Gw,go (.inr ?_)⟩
      have : ∃j,j∈(((Lq L w).filter λj=>decide (uU face j=(a:Int))).filter λj=>decide (x - 1<=uU nums j)):=by
       cases q:((Lq L w).filter λj=>decide (uU face j=(a:Int))).filter λj=>decide (x - 1<=uU nums j) with
       | nil=>rw[q] at h2; cases h2
       | cons j l=>exact ⟨j,Ab⟩
      obtain ⟨j,hj⟩:=this
      obtain ⟨q1,q2⟩:=Ck.mp hj
      obtain ⟨q3,q4⟩:=Ck.mp q1
      obtain ⟨n,u,rfl,q5,q6⟩:=BX.mp q3
      have hn:=(Ap.mp q5).1
      have e4:uU face n=a:=by simpa using q4
      exact ⟨n,u,uU nums n,q5,q6,by rw[qY (l:=face) (by omega),e4],qY (by omega),by simpa using q2⟩
    ·array_get_dec
     refine ⟨_,_,rfl,Gw,Gw,go (.inl ?_)⟩
     simpa using h1
   ·(intro _ q_; obtain ⟨v6,v7,rfl,hv6,hv7,hin⟩ := q_)
    refine ⟨_,_,_,_,rfl,Gw,Gw,hv6,hv7,λk' hk'=>?_⟩
    by_cases q:k'=k
    ·subst q
     intro w' f' x' e1 e2 e3 x1 v z1 z2 z3
     rw[hp1] at e1; cases e1
     rw[hf] at e2; cases e2
     rw[hx] at e3; cases e3
     refine hin v z1 ?_ z3
     rw[Jv,if_pos x1]
     omega
    ·exact ho k' (by omega)
  ·(intro _ q_; obtain ⟨v4,v5,v6,v7,rfl,hv4,hv5,hv6,hv7,ho⟩ := q_)
   array_get_dec
   rw[W3 λk hk=>ho k (by rw[Lk]; exact hk)] at hR2
   exact hR2
end
theorem Oc:∀k:Nat,(Bl k [Ag 0]).flatten=Bl k (.int 0)
 | 0=>rfl
 | k+1=>by rw[Fn,Hq,Oc k]; rfl
def atS:Ac->Prop
 | .none=>True
 | .bool _=>True
 | .int i=>i.natAbs<10 ^ 30
 | .str x=>(reprText x).length<=30
 | _=>False
def C9(t:Ac):Prop:=(∃ds:List Ac,t=.list ds/\ds.length<=3000/\∀d∈ds,atS d)\/(∃ns:List Int,t=.tuple (ns.map Ag)/\ns.length<=3000/\∀i∈ns,i.natAbs<10 ^ 30)\/t=.none
theorem aJ(h:atS d):lJ d=true:=by
 cases d <;> first | rfl | exact h.elim
theorem C9.thg(h:C9 t):EI t:=by
 rcases h with ⟨ds,rfl,_,h⟩ | ⟨ns,rfl,_⟩ | rfl
 ·exact .inl ⟨ds,rfl,Dh.mpr λd hd=>aJ (h d hd)⟩
 ·exact .inr (Pc ns)
 ·exact .inr rfl
theorem E3{l:List Int}(hl:l.length<=3000)(h:∀x∈l,-1<=x/\x<=100):C9 (.list (l.map Ag)):=.inl ⟨_,rfl,by rw[Ad]; exact hl,λd hd=>by
 obtain ⟨x,hx,rfl⟩:=Bu.mp hd
 have:=h x hx
 show x.natAbs<10 ^ 30
 omega⟩
theorem F9{α:Type}{l:List α}{f:α->Int}(hl:l.length<=3000)(h:∀x∈l,-1<=f x/\f x<=100):C9 (.list (l.map λx=>Ag (f x))):=.inl ⟨_,rfl,by rw[Ad]; exact hl,λd hd=>by
 obtain ⟨x,hx,rfl⟩:=Bu.mp hd
 have:=h x hx
 show (f x).natAbs<10 ^ 30
 omega⟩
theorem gL(hl:a.length+b.length<=2900)(ha:∀d∈a,atS d)(hb:∀d∈b,atS d)(hd:atS d):C9 (.list (a++[d]++b)):=.inl ⟨_,rfl,by simp; omega,λe he=>by
 rcases Ay.mp he with he | he
 ·rcases Ay.mp he with he | he
  ·exact ha e he
  ·rw[Af.mp he]; exact hd
 ·exact hb e he⟩
theorem So(k:Nat):∀d∈Bl k (Ag 0),atS d:=λd hd=>by
 rw[List.eq_of_mem_replicate hd]
 show (0:Int).natAbs<10 ^ 30
 decide
theorem mM{l:List Int}(h:∀x∈l,-1<=x/\x<=100):∀d∈l.map Ag,atS d:=λd hd=>by
 obtain ⟨x,hx,rfl⟩:=Bu.mp hd
 have:=h x hx
 show x.natAbs<10 ^ 30
 omega
theorem pB(h0:0<=x)(h1:x<=10):(reprText (cB (.int x))).length<=30:=by
 rcases (by omega:x=0\/x=1\/x=2\/x=3\/x=4\/x=5\/x=6\/x=7\/x=8\/x=9\/x=10) with rfl | rfl | rfl | rfl | rfl | rfl | rfl | rfl | rfl | rfl | rfl <;> decide +kernel
def lE:DF:=λds n R=>∃(L:List (List Int)) (due:List Int),ds=[.list (L.map Cn),.list (due.map Ag)]/\0<L.length/\L.length<=1024/\due.length=L.length/\(∀x∈due,0<=x/\x<=10)/\n<=90000/\∀(ts:List Ac) (n':Nat),(∀t∈ts,C9 t)->ts.length<=100->n<=n'->n'<=n+50->R (.list ts) n'
section
variable{P:Bs}{w:World}{K:PySem.W.Frag}{mg:Str->Option Value}{base:Heap}
theorem bL:FnScope ["_law_draws_here", "_law_words_here", "_law_due", "_law_at", "_law_limit", "_law_small", "_law_told", "_law_number"] ["_law_draws_here", "_law_words_here", "_law_due"] (Bm Fd):=⟨rfl,rfl,rfl,by decide +kernel,rfl,by decide +kernel,by decide +kernel⟩
theorem bH(F:Fun K "_law_things" "_law_things" Fd f fd)(G_L_next:FnOk P w K mg base Gp 1 f_L_next d_L_next ["_law_draws_here"] (mQ K Uv))(b_L_next:Binds K d_L_next ["_law_draws_here"] [])(k_L_next:PySem.W.keepIn K (.ref f_L_next)=true)(m_L_next:mg "_law_next" = some (.ref f_L_next))(mz_len:mg "len" = none)(mz_range:mg "range" = none)(mz_list:mg "list" = none)(mz_min:mg "min" = none)(mz_max:mg "max" = none)(mz_str:mg "str" = none)(mz_tuple:mg "tuple" = none):FnOk P w K mg base Gp 2 f fd ["_law_draws_here", "_law_words_here", "_law_due"] (J0 K (lE)):=by
 refine' yZ (k:=1) F bL (λcdv A outer s H E hr=>?hb) ?h
 case hb =>
  have hr1:Room 1 _:=hr.mono (by decide)
  have hu64:=hr.units
  have hrx:Room 1 (Iy Gp P w K mg base ["_law_draws_here", "_law_words_here", "_law_due", "_law_at", "_law_limit", "_law_small", "_law_told", "_law_number"] "_law_things" (Bm Fd) f cdv A outer s H E).nox.A:=hr
  have hu100:(Iy Gp P w K mg base ["_law_draws_here", "_law_words_here", "_law_due", "_law_at", "_law_limit", "_law_small", "_law_told", "_law_number"] "_law_things" (Bm Fd) f cdv A outer s H E).nox.A.units+100<cLine:=by have:=hrx.un; omega
  have CS1:∀{scope:Scope} (h:scope={ kind:=.function,names:=[(".0",.local),("_law_k",.local),("_law_next",.globalImplicit),("_law_draws_here",.free)],isGenerator:=false,isCoroutine:=false }),
    CompScope (Iy Gp P w K mg base ["_law_draws_here", "_law_words_here", "_law_due", "_law_at", "_law_limit", "_law_small", "_law_told", "_law_number"] "_law_things" (Bm Fd) f cdv A outer s H E).nox scope [("_law_draws_here",s.heap.objs.size+1)] "_law_k" ["_law_draws_here"] [0]:=by
   rintro scope rfl
   refine ⟨by rfl,.inl (by decide +kernel),by rfl,by decide +kernel,.inl rfl,λy c h=>?_,by rfl,by decide +kernel,rfl,λk y j e1 e2=>?_⟩
   ·have z:=Dv h
    simp only[Ah,Av,or_false,Eb] at z
    obtain ⟨rfl,rfl⟩:=z; rfl
   ·match k,e1,e2 with
    | 0,e1,e2=>cases e1; cases e2; exact ⟨rfl,rfl,by first | exact .inl rfl | exact .inr rfl⟩
    | k+1,e1,e2=>cases e1
  have CS2:∀{scope:Scope} (h:scope={ kind:=.function,names:=[(".0",.local),("_law_word",.local)],isGenerator:=false,isCoroutine:=false }),
    CompScope (Iy Gp P w K mg base ["_law_draws_here", "_law_words_here", "_law_due", "_law_at", "_law_limit", "_law_small", "_law_told", "_law_number"] "_law_things" (Bm Fd) f cdv A outer s H E).nox scope [] "_law_word" [] []:=by
   rintro scope rfl
   exact Nd.compScope0 (by rfl) (by decide +kernel) (by rfl) (by decide +kernel) (by rfl) (by rfl)
  have CS3:∀{scope:Scope} (h:scope={ kind:=.function,names:=[(".0",.local),("_law_one",.local),("min",.globalImplicit),("_law_limit",.free)],isGenerator:=false,isCoroutine:=false }),
    CompScope (Iy Gp P w K mg base ["_law_draws_here", "_law_words_here", "_law_due", "_law_at", "_law_limit", "_law_small", "_law_told", "_law_number"] "_law_things" (Bm Fd) f cdv A outer s H E).nox scope [("_law_limit",s.heap.objs.size+2)] "_law_one" ["_law_limit"] [4]:=by
   rintro scope rfl
   refine ⟨by rfl,.inl (by decide +kernel),by rfl,by decide +kernel,.inl rfl,λy c h=>?_,by rfl,by decide +kernel,rfl,λk y j e1 e2=>?_⟩
   ·have z:=Dv h
    simp only[Ah,Av,or_false,Eb] at z
    obtain ⟨rfl,rfl⟩:=z; rfl
   ·match k,e1,e2 with
    | 0,e1,e2=>cases e1; cases e2; exact ⟨rfl,rfl,by first | exact .inl rfl | exact .inr rfl⟩
    | k+1,e1,e2=>cases e1
  have CS4:∀{scope:Scope} (h:scope={ kind:=.function,names:=[(".0",.local),("_law_one",.local)],isGenerator:=false,isCoroutine:=false }),
    CompScope (Iy Gp P w K mg base ["_law_draws_here", "_law_words_here", "_law_due", "_law_at", "_law_limit", "_law_small", "_law_told", "_law_number"] "_law_things" (Bm Fd) f cdv A outer s H E).nox scope [] "_law_one" [] []:=by
   rintro scope rfl
   exact Nd.compScope0 (by rfl) (by decide +kernel) (by rfl) (by decide +kernel) (by rfl) (by rfl)
  have CS5:∀{scope:Scope} (h:scope={ kind:=.function,names:=[(".0",.local),("_law_one",.local),("max",.globalImplicit)],isGenerator:=false,isCoroutine:=false }),
    CompScope (Iy Gp P w K mg base ["_law_draws_here", "_law_words_here", "_law_due", "_law_at", "_law_limit", "_law_small", "_law_told", "_law_number"] "_law_things" (Bm Fd) f cdv A outer s H E).nox scope [] "_law_one" [] []:=by
   rintro scope rfl
   exact Nd.compScope0 (by rfl) (by decide +kernel) (by rfl) (by decide +kernel) (by rfl) (by rfl)
  exact Da (Gz (i:=3) bL.nd rfl (Eh rfl) (Hk (Ji G_L_next hr1 rfl m_L_next k_L_next b_L_next Gv (pv 0) Bh) (Dj Hu Ly rfl mz_len (by decide +kernel) (An (Ar (pv 1)) Bh))))
   (Da (Gz (i:=4) bL.nd rfl (Oq rfl) (Hk (Ji G_L_next hr1 rfl m_L_next k_L_next b_L_next Gv (pv 0) Bh) Cj))
   (Da (Gz (i:=5) bL.nd rfl (Eh rfl) (Mv (xU (js1:=[]) (j0:=0) (js2:=[]) (CS1 rfl) rfl (Nq rfl mz_range (An (Hk (Dj Hu Ly rfl mz_len (by decide +kernel) (An (Ar (pv 1)) Bh)) Cj) Bh)) (λ_ _ _=>Hw) (λ_ _ _=>Hk (Ji G_L_next hr1 rfl m_L_next k_L_next b_L_next Gv (pv 1) Bh) Cj)) (bD (Fp (An Cj Bh)) (Pl (Dj Hu Ly rfl mz_len (by decide +kernel) (An (Ar (pv 1)) Bh)) (Hk (Dj Hu Ly rfl mz_len (by decide +kernel) (An (Ar (pv 1)) Bh)) Cj)))))
   (Da (Qs (i:=6) bL.nd rfl (Eh rfl) (Fp (An (Jz sH (qA (i:=true)) rfl mz_list (by decide +kernel) (An (Ar (pv 2)) Bh)) (An (Ir (CS2 rfl) rfl (lX (Ar (pv 1))) (λ_ _ _=>Hw) (λ_ _ _=>Cj)) (An (Ir (CS3 rfl) rfl (lX (Ar (pv 2))) (λ_ _ _=>Hw) (λ_ _ _=>Dj (uT rfl) E4 rfl mz_min (by decide +kernel) (An (Ar (pv 1)) (An (Ar (pv 0)) Bh)))) (An (Ir (CS4 rfl) rfl (lX (Ar (pv 2))) (λ_ _ _=>Hw) (λ_ _ _=>Mw (Ar (pv 0)) Cj)) (An (Ar (pv 5)) Bh)))))))
   (Da (Sg Ex rfl (lX (Fp (An (Mw (Ic (Ar (pv 2)) (Ar (pv 3))) Cj) (An (Dj (Ti rfl) Zh rfl mz_max (by decide +kernel) (An Cj (An (Pl (Ic (Ar (pv 2)) (Ar (pv 3))) Cj) Bh))) (An (i4 Cj Cj) (An n6 (An (Jz (Xq hr.gd hu100) pL rfl mz_str (by decide +kernel) (An (Ic (Ar (pv 2)) (Ar (pv 3))) Bh)) (An (jR hu64 (Ic (Ar (pv 2)) (Ar (pv 3))) Cj) Bh)))))))) (Me (i:=7) bL.nd rfl (Eh rfl))
   (Eo (nU (pv 6) (Mv (Mv (Vz (i:=true) (Ar (pv 2)) Ry (Rq (Ar (pv 3)))) (Fp (An (yT (Ar (pv 7))) Bh))) (Vz (i:=true) (Ar (pv 2)) (Rq (Mw (Ar (pv 3)) Cj)) Ry)))))
   (Da (Qs (i:=6) bL.nd rfl (Eh rfl) (gA (Zg (pv 6)) (Fp (An (Mv (Mv (bD (Fp (An Cj Bh)) (Ar (pv 3))) (Fp (An (Pl Cj Cj) Bh))) (bD (Fp (An Cj Bh)) (Pl (Pl (Dj Hu Ly rfl mz_len (by decide +kernel) (An (Ar (pv 1)) Bh)) (Ar (pv 3))) Cj))) (An (Mv (Ar (pv 2)) (Fp (An Cj Bh))) (An (Vz (i:=true) (Ar (pv 2)) Ry (Rq (AD Cj))) (An (Jz j8 (wX (i:=true)) rfl mz_tuple (by decide +kernel) (An (Ar (pv 2)) Bh)) (An n6 (An (Fp Bh) Bh)))))))))
   (Da (Qs (i:=6) bL.nd rfl (Eh rfl) (gA (Zg (pv 6)) (Fp (An (Mv (Mv (bD (Fp (An Cj Bh)) (Ar (pv 3))) (Fp (An We Bh))) (bD (Fp (An Cj Bh)) (Pl (Pl (Dj Hu Ly rfl mz_len (by decide +kernel) (An (Ar (pv 1)) Bh)) (Ar (pv 3))) Cj))) (An (Ir (CS5 rfl) rfl (lX (Ar (pv 2))) (λ_ _ _=>Hw) (λ_ _ _=>Dj (Ti rfl) Zh rfl mz_max (by decide +kernel) (An Cj (An (Pl (Ar (pv 0)) Cj) Bh)))) Bh)))))
   (Eo (Gg (gA (Zg (pv 6)) (Fp (An (Mv (Fp (An (Mw (Ic (Ar (pv 2)) Cj) Cj) Bh)) (Vz (i:=true) (Ar (pv 2)) (Rq Cj) Ry)) Bh)))))))))))
 case h =>
  (intro ds n R q_; obtain ⟨L,due,rfl,l0,l1,ld,hdu,hn,hR⟩ := q_)
  refine ⟨rfl,?_⟩
  array_get_dec
  refine ⟨rfl,by omega,λr1=>?_⟩
  array_get_dec
  rw[Ad]
  refine ⟨by omega,rfl,by omega,λr2=>?_⟩
  have b1:=Qn r1 (b:=(L.length:Int)) (by omega)
  have b2:=Qn r2 (b:=4) (by decide)
  generalize r1 % (L.length:Int)=at_ at b1
  array_get_dec
  rw[Ad]
  have b3:=Qn (L.length:Int) (b:=40) (by decide)
  refine ⟨by omega,by omega,?_⟩
  refine sF (l:=Di ((L.length:Int) % 40).toNat) (g:=λi:Nat=>.int i) rfl rfl (λi acc m=>acc.length=i/\(∀d∈acc,atS d)/\m=n+2+i) ⟨rfl,λ_ z=>(nomatch z),rfl⟩ (λi a acc m ha ⟨q1,q2,q3⟩=>?_) (λacc m ⟨q1,q2,q3⟩=>?_)
  ·obtain ⟨rfl,hi⟩:=aU ha
   array_get_dec
   refine ⟨rfl,by omega,λr3=>?_⟩
   array_get_dec
   refine ⟨by simp [q1],λd hd=>?_,by omega⟩
   rcases Ay.mp hd with hd | hd
   ·exact q2 d hd
   ·rw[Af.mp hd]
    have:=Qn r3 (b:=3) (by decide)
    show (r3 % 3).natAbs<10 ^ 30
    omega
  rw[Jv] at q1 q3
  array_get_dec
  rw[Ad]
  rw[Oc]
  have aI:∀{l:List Ac},(∀d∈l,atS d)->Dq l=true:=λ{l} h=>iJ (Dh.mpr λd hd=>aJ (h d hd))
  refine ⟨by omega,by omega,by omega,aI q2,aI (So _),by rw[He]; omega,?_⟩
  have aS:∀d∈acc++Bl ((L.length:Int) - (L.length:Int) % 40).toNat (Ag 0),atS d:=λd hd=>by
   rcases Ay.mp hd with hd | hd
   ·exact q2 d hd
   ·exact So _ d hd
  have lS:(acc++Bl ((L.length:Int) - (L.length:Int) % 40).toNat (Ag 0)).length<=2000:=by rw[Bn,He]; omega
  generalize acc++Bl ((L.length:Int) - (L.length:Int) % 40).toNat (Ag 0)=dZ at aS lS
  have hm:m<=n+50:=by omega
  have hm2:n<=m:=by omega
  clear q1 q2 q3
  refine Ua (l:=L) (g:=Cn) rfl (λ_=>.int 0) (λ_ _ yes no hy=>?_) ?_
  ·array_get_dec
   exact hy
  array_get_dec
  refine Ua (l:=due) (g:=Ag) rfl (λx=>.int (if x<r2 % 4 then x else r2 % 4)) (λx _ yes no hy=>?_) ?_
  ·array_get_dec
   exact hy
  array_get_dec
  refine Ua (l:=due) (g:=Ag) rfl (λx=>.int (x+1)) (λx _ yes no hy=>?_) ?_
  ·array_get_dec
   exact hy
  obtain ⟨x,hx1,hx2,hx3⟩:=Ny (l:=due) b1.1 (by omega)
  have ex:Sx (due.map Ag) at_=some (.int x):=by rw[Ss,hx2]; rfl
  array_get_dec
  refine ⟨_,ex,?_⟩
  array_get_dec
  refine ⟨_,ex,?_⟩
  array_get_dec
  obtain ⟨x0,x10⟩:=hdu x hx3
  refine ⟨by decide,_,ex,⟨12,by decide,by rw[Nk]; omega,by rw[Jo]; show (12+12) * 1<=16777216; decide⟩,by simp [Cm],_,ex,by simp [Cm],?_⟩
  array_get_dec
  have dA:∀lo hi,∀d∈Mk (due.map Ag) lo hi,atS d:=λlo hi d hd=>mM (l:=due) (λx hx=>by have:=hdu x hx; omega) d ((Sf _ lo hi).subset hd)
  have dL:∀lo hi,(Mk (due.map Ag) lo hi).length<=1024:=λlo hi=>by
   have:=(Sf (due.map Ag) lo hi).length_le
   rw[Ad] at this
   omega
  refine kG (l:=[.int (x+1),.int (if 0<x - 1 then x - 1 else 0),.int 10000000000000000000,.none,.str (cB (.int x)),.bool (decide (x=1))]) (g:=λd=>d) rfl (λi δ=>∃(ts:List Ac) (v7:DV),δ=⟨[.drw,.dat .sh (.list (L.map Cn)),.dat .sh (.list (due.map Ag)),.dat .sh (.int at_),.dat .sh (.int (r2 % 4)),.dat .sh (.list dZ),.dat .tp (.list ts),v7],m⟩/\NP v7/\ts.length=5+i/\∀t∈ts,C9 t) ?_ ?_ ?_
  ·refine ⟨_,_,rfl,Py,rfl,?_⟩
   simp only[Ux]
   exact ⟨E3 (by omega) λx hx=>(by have:=hdu x hx; omega),F9 (l:=L) (by omega) λw _=>(by omega),F9 (l:=due) (by omega) λx hx=>(by have:=hdu x hx; split <;> omega),F9 (l:=due) (by omega) λx hx=>(by have:=hdu x hx; omega),.inl ⟨dZ,rfl,by omega,aS⟩,λ_ z=>(nomatch z)⟩
  ·(intro i d _ hd q_; obtain ⟨ts,v7,rfl,hv7,lt,ht⟩ := q_)
   have hi:i<6:=(Ap.mp hd).1
   have ad:atS d:=by
    have hm:=Ax hd
    simp only[Ah,Av,or_false] at hm
    rcases hm with rfl | rfl | rfl | rfl | rfl | rfl
    ·show (x+1).natAbs<10 ^ 30; omega
    ·show (if 0<x - 1 then x - 1 else 0).natAbs<10 ^ 30; split <;> omega
    ·show (10000000000000000000:Int).natAbs<10 ^ 30; decide
    ·trivial
    ·exact pB x0 x10
    ·trivial
   have id_:imm d=true:=vY (aJ ad)
   have i1:=aI (dA none (some at_))
   have i2:=aI (dA (some (at_+1)) none)
   have i3:=aI (l:=[d]) λe he=>(by rw[Af.mp he]; exact ad)
   have m1:=dL none (some at_)
   have m2:=dL (some (at_+1)) none
   array_get_dec
   refine ⟨i1,id_,i1,i3,by omega,i2,aI λe he=>?_,i2,by rw[Bn,Hd]; omega,by omega,_,_,rfl,Gw,by rw[Bn,Hd]; omega,λt h_=>?_⟩
   ·rcases Ay.mp he with he | he
    ·exact dA _ _ e he
    ·rw[Af.mp he]; exact ad
   ·rcases Ay.mp h_ with h_ | h_
    ·exact ht t h_
    ·rw[Af.mp h_]
     have:=gL (a:=Mk (due.map Ag) none (some at_)) (b:=Mk (due.map Ag) (some (at_+1)) none) (d:=d) (by omega) (dA _ _) (dA _ _) ad
     rw[Bw] at this
     exact this
  ·(intro _ q_; obtain ⟨ts,v7,rfl,hv7,lt,ht⟩ := q_)
   have lt:ts.length=11:=lt
   have lL:((L.map Cn).length:Int) - at_ - 1=(L.length:Int) - at_ - 1:=by rw[Ad]
   have ls:∀k,(Bl k [Ag 0]).flatten.length=k:=λk=>by rw[Oc,He]
   have ri:∀k,Dq (Bl k [Ag 0]).flatten=true:=λk=>by rw[Oc]; exact aI (So k)
   have la:at_.toNat<=1024:=by omega
   array_get_dec
   simp only[ls,ri,lL]
   have e1:∀(k:Nat) (d:Ac),atS d->Dq ((Bl k [Ag 0]).flatten++[d])=true:=λk d ad=>aI λe he=>by
    rcases Ay.mp he with he | he
    ·rw[Oc] at he; exact So k e he
    ·rw[Af.mp he]; exact ad
   have e2:∀(k:Nat) (d:Ac),((Bl k [Ag 0]).flatten++[d]).length=k+1:=λk d=>by rw[Bn,ls]; rfl
   have am:atS (.int (0 - 1)):=by show (0 - 1:Int).natAbs<10 ^ 30; decide
   refine ⟨by omega,by omega,by omega,trivial,by omega,by omega,by omega,by omega,e1 _ _ am,trivial,by rw[e2]; omega,by rw[Ad]; omega,aI (dA _ _),by omega,by omega,by omega,by omega,trivial,by omega,by omega,by omega,by omega,e1 _ _ trivial,trivial,by rw[e2]; omega,?_⟩
   refine Ua (l:=due) (g:=Ag) rfl (λx=>.int (if x - 1 > 0 then x - 1 else 0)) (λx _ yes no hy=>?_) ?_
   ·array_get_dec
    exact hy
   obtain ⟨y,hy1,hy2,hy3⟩:=Ny (l:=due) (i:=0) (by omega) (by omega)
   have ey:Sx (due.map Ag) 0=some (.int y):=by rw[Ss,hy2]; rfl
   have m3:=dL (some 1) none
   have i3:=aI (dA (some 1) none)
   have hy:=hdu y hy3
   array_get_dec
   refine ⟨by rw[Bn]; simp only[Br,Iz]; omega,_,ey,?_⟩
   array_get_dec
   have fin:∀t∈ts++[.list ((Bl at_.toNat [Ag 0]).flatten++.int (0 - 1)::(Bl ((L.length:Int) - at_ - 1).toNat [Ag 0]).flatten),.list (due.map Ag++[.int 0]),.list (Mk (due.map Ag) none (some (-1))),Cn due,.none,.list [],.list ((Bl at_.toNat [Ag 0]).flatten++.bool false::(Bl ((L.length:Int) - at_ - 1).toNat [Ag 0]).flatten),.list (due.map λx=>.int (if x - 1 > 0 then x - 1 else 0)),.list (.int (y+1)::Mk (due.map Ag) (some 1) none)],C9 t:=λt h_=>by
    rcases Ay.mp h_ with h_ | h_
    ·exact ht t h_
    have cut9:∀d,atS d->C9 (.list ((Bl at_.toNat [Ag 0]).flatten++d::(Bl ((L.length:Int) - at_ - 1).toNat [Ag 0]).flatten)):=λd ad=>by
     rw[Oc,Oc]
     have:=gL (a:=Bl at_.toNat (Ag 0)) (b:=Bl ((L.length:Int) - at_ - 1).toNat (Ag 0)) (d:=d) (by rw[He,He]; omega) (So _) (So _) ad
     rw[Bw] at this
     exact this
    simp only[Ah,Av,or_false] at h_
    rcases h_ with rfl | rfl | rfl | rfl | rfl | rfl | rfl | rfl | rfl
    ·exact cut9 _ am
    ·have:=gL (a:=due.map Ag) (b:=[]) (d:=.int 0) (by rw[Ad]; simp; omega) (mM λx hx=>by have:=hdu x hx; omega) (λ_ z=>nomatch z) (by show (0:Int).natAbs<10 ^ 30; decide)
     rw[Dz] at this
     exact this
    ·exact .inl ⟨_,rfl,by have:=dL none (some (-1)); omega,dA _ _⟩
    ·exact .inr (.inl ⟨due,rfl,by omega,λi hi=>by have:=hdu i hi; omega⟩)
    ·exact .inr (.inr rfl)
    ·exact .inl ⟨[],rfl,by decide,λ_ z=>nomatch z⟩
    ·exact cut9 _ trivial
    ·exact F9 (by omega) λx hx=>by have:=hdu x hx; split <;> omega
    ·have:=gL (a:=[]) (b:=Mk (due.map Ag) (some 1) none) (d:=.int (y+1)) (by simp; omega) (λ_ z=>nomatch z) (dA _ _) (by show (y+1).natAbs<10 ^ 30; omega)
     exact this
   have ll:∀a b c d e f g h:Ac,(ts++[a,b,c,d,e,f,g,h]).length=19:=λa b c d e f g h=>by rw[Bn,lt]; rfl
   have ll2:∀a b c d e f g h i:Ac,(ts++[a,b,c,d,e,f,g,h,i]).length=20:=λa b c d e f g h i=>by rw[Bn,lt]; rfl
   exact ⟨i3,i3,by omega,by rw[ll]; decide,hm2,hR _ _ fin (by rw[ll2]; decide) hm2 hm⟩
end
theorem vN{vs:Int}(l1:L.length=face.length)(l2:nums.length=L.length)(nn:∀x∈nums,0<=x):aH L face vs nums=oF L face vs nums:=by
 classical
 unfold aH oF
 refine decide_eq_decide.mpr (forall_congr' λk=>forall_congr' λw=>forall_congr' λf=>forall_congr' λx=>forall_congr' λh1=>forall_congr' λh2=>forall_congr' λh3=>?_)
 have key:∀v:Int,0<x->(x<=Nx L face nums w v↔∃(j:Nat) (u:List Int) (y:Int),L[j]? = some u/\dM w u=true/\face[j]? = some v/\nums[j]? = some y/\x - 1<=y):=λv x0=>by
  unfold Nx
  rw[Ov x0]
  constructor
  ·(intro q_; obtain ⟨y,hy,e⟩ := q_)
   obtain ⟨p,hp,rfl⟩:=Bu.mp hy
   obtain ⟨q1,q2⟩:=Ck.mp hp
   obtain ⟨i,hi⟩:=Fw.mp q1
   obtain ⟨ei,hp1,_,hp3⟩:=bQ hi
   unfold uC at q2
   rw[Dk,decide_eq_true_eq] at q2
   rw[<- ei] at hp1 hp3
   have hn:p.2<nums.length:=by omega
   refine ⟨p.2,p.1,nums[p.2],hp1,q2.2,q2.1,Ba hn,?_⟩
   unfold Qv at e
   rw[Ba hn,Option.getD_some] at e
   omega
  ·(intro q_; obtain ⟨j,u,y,q1,q2,q3,q4,q5⟩ := q_)
   refine ⟨y+1,Bu.mpr ⟨(u,j),Ck.mpr ⟨Zq.mpr q1,?_⟩,?_⟩,by omega⟩
   ·unfold uC
    rw[q3,q2]
    simp
   ·unfold Qv
    rw[q4]
    rfl
 constructor
 ·intro h x0 v z1 z2 z3
  exact (key v x0).mp (h v z1 z2 z3)
 ·intro h v z1 z2 z3
  by_cases x0:0<x
  ·exact (key v x0).mpr (h x0 v z1 z2 z3)
  ·have:=Sy ((kR L face w v).map (Qv nums))
   show x<=Nu _
   omega
theorem B8{n:Nat}{vs:Int}(h:xZ L f vs g)(v0:2<=vs)(hr:∀u∈L,Lj n u)(hl:∀u∈L,u.length<=10):∀(m:Nat) (w:List Int),w∈L->10 - w.length<=m->0<=g w/\g w<=(10 - w.length:Nat):=by
 intro m
 induction m with
 | zero =>
  intro w hw hm
  have hw10:=hl w hw
  refine ⟨(h w hw 0).mpr λv _ _ _=>Sy _,?_⟩
  obtain ⟨v,z1,z2,z3⟩ : ∃v:Int,0<=v/\v<vs/\v≠f w:=by
   by_cases q:f w=0
   ·exact ⟨1,by omega,by omega,by omega⟩
   ·exact ⟨0,by omega,by omega,by omega⟩
  have e:=(h w hw (g w)).mp (Nt _) v z1 z2 z3
  have : Kb L f g w v=0:=by
   unfold Kb
   rw[List.filter_eq_nil_iff.mpr]
   ·rfl
   ·intro u hu q
    rw[Dk,decide_eq_true_eq] at q
    have:=iH (hr w hw) (hr u hu) q.2 (λz=>z3 (by rw[<- q.1,z]))
    have:=hl u hu
    omega
  omega
 | succ m ih =>
  intro w hw hm
  have hw10:=hl w hw
  refine ⟨(h w hw 0).mpr λv _ _ _=>Sy _,?_⟩
  obtain ⟨v,z1,z2,z3⟩ : ∃v:Int,0<=v/\v<vs/\v≠f w:=by
   by_cases q:f w=0
   ·exact ⟨1,by omega,by omega,by omega⟩
   ·exact ⟨0,by omega,by omega,by omega⟩
  have e:=(h w hw (g w)).mp (Nt _) v z1 z2 z3
  by_cases x0:0<g w
  ·unfold Kb at e
   obtain ⟨y,hy,e2⟩:=(Ov x0).mp e
   obtain ⟨u,hu,rfl⟩:=Bu.mp hy
   obtain ⟨u1,u2⟩:=Ck.mp hu
   rw[Dk,decide_eq_true_eq] at u2
   have:=iH (hr w hw) (hr u u1) u2.2 (λz=>z3 (by rw[<- u2.1,z]))
   have u10:=hl u u1
   have:=(ih u u1 (by omega)).2
   omega
  ·omega
theorem C9.fits(h:C9 t):Nk 30 t/\(30+12) * Oe t<=Au/\t.depth<=60:=by
 have hz:Au=16777216:=Jo
 have atF:∀d,atS d->Nk 30 d/\Oe d=1:=λd hd=>by
  cases d <;> first | exact hd.elim | (refine ⟨?_,rfl⟩; rw[Nk]; first | trivial | exact hd)
 rcases h with ⟨ds,rfl,hl,h⟩ | ⟨ns,rfl,hl,h⟩ | rfl
 ·refine ⟨?_,?_,?_⟩
  ·rw[Nk,Se]
   exact λd hd=>(atF d (h d hd)).1
  ·have:=Rz (m:=1) (xs:=ds) λd hd=>Nat.le_of_eq (atF d (h d hd)).2
   show (30+12) * (Je ds+1)<=Au
   omega
  ·have:=Sv (ds:=ds) (Dh.mpr λd hd=>aJ (h d hd))
   simp only[Cm,this]
   omega
 ·have hA:∀d∈ns.map Ag,atS d:=λd hd=>by
   obtain ⟨i,hi,rfl⟩:=Bu.mp hd
   exact h i hi
  refine ⟨?_,?_,?_⟩
  ·rw[Nk,Se]
   exact λd hd=>(atF d (hA d hd)).1
  ·have:=Rz (m:=1) (xs:=ns.map Ag) λd hd=>Nat.le_of_eq (atF d (hA d hd)).2
   rw[Ad] at this
   show (30+12) * (Je (ns.map Ag)+1)<=Au
   omega
  ·have:=Sv (ds:=ns.map Ag) (Dh.mpr λd hd=>aJ (hA d hd))
   simp only[Cm,this]
   omega
 ·refine ⟨by rw[Nk]; trivial,?_,by simp [Cm]⟩
  show (30+12) * 1<=Au
  omega
theorem xF{a b:List Int}(h:a.map Ag=b.map Ag):a=b:=Qp (λx y e=>PyData.int.inj e) h
theorem Zw{nums:List Int}(hl:nums.length=n)(nn:∀x∈nums,0<=x):Rv (.list (nums.map Ag)) n=true:=by
 show (decide (((nums.map Ag).length:Int)=n) && (nums.map Ag).all Ks)=true
 rw[Dk,decide_eq_true_eq,Dh]
 refine ⟨by rw[Ad]; omega,λd hd=>?_⟩
 obtain ⟨x,hx,rfl⟩:=Bu.mp hd
 exact decide_eq_true (nn x hx)
theorem sA(b:Bool):(!(b == b))=false:=by cases b <;> rfl
theorem jO:∀{L:List (List Int)},L.Nodup->∀{face:List Int},face.length=L.length->∃f:List Int->Int,face=L.map f
 | [],_,[],_=>⟨λ_=>0,rfl⟩
 | [],_,_::_,h=>by cases h
 | _::_,_,[],h=>by cases h
 | w::L,nd,x::face,h=>by
  obtain ⟨n1,n2⟩:=By.mp nd
  obtain ⟨f,e⟩:=jO n2 (face:=face) (by simpa using h)
  refine ⟨gW f w x,?_⟩
  rw[Aw,iQ,e]
  congr 1
  refine Fo λu hu=>?_
  rw[Sz (show u≠w from λz=>n1 (by rw[<- z]; exact hu))]
theorem Qa{l:List DV}(h:l.length=n+1):∃v m,l=v::m/\m.length=n:=by
 cases l with
 | nil=>cases h
 | cons v m=>exact ⟨v,m,rfl,by simpa using h⟩
theorem X6{l:List DV}(h:l.length=13):∃v1 v2 v3 v4 v5 v6 v7 v8 v9 v10 v11 v12 v13,l=[v1,v2,v3,v4,v5,v6,v7,v8,v9,v10,v11,v12,v13]:=by
 obtain ⟨v1,l1,e1,h1⟩:=Qa h
 obtain ⟨v2,l2,e2,h2⟩:=Qa h1
 obtain ⟨v3,l3,e3,h3⟩:=Qa h2
 obtain ⟨v4,l4,e4,h4⟩:=Qa h3
 obtain ⟨v5,l5,e5,h5⟩:=Qa h4
 obtain ⟨v6,l6,e6,h6⟩:=Qa h5
 obtain ⟨v7,l7,e7,h7⟩:=Qa h6
 obtain ⟨v8,l8,e8,h8⟩:=Qa h7
 obtain ⟨v9,l9,e9,h9⟩:=Qa h8
 obtain ⟨va,l10,e10,h10⟩:=Qa h9
 obtain ⟨vb,l11,e11,h11⟩:=Qa h10
 obtain ⟨vc,l12,e12,h12⟩:=Qa h11
 obtain ⟨vd,l13,e13,h13⟩:=Qa h12
 have e14:=mU.mp h13
 subst e14 e13 e12 e11 e10 e9 e8 e7 e6 e5 e4 e3 e2 e1
 exact ⟨v1,v2,v3,v4,v5,v6,v7,v8,v9,va,vb,vc,vd,rfl⟩
section
variable{P:Bs}{w:World}{K:PySem.W.Frag}{mg:Str->Option Value}{base:Heap}
theorem Z1:FnScope ["_law_script", "_law_cell", "_law_draws_here", "_law_holes_here", "_law_words_here", "_law_values_here", "_law_more", "_law_face", "_law_handed", "_law_over", "_law_thing", "_law_text", "_law_due", "_law_told"] ["_law_script"] (Bm Yz):=⟨rfl,rfl,rfl,by decide +kernel,rfl,by decide +kernel,by decide +kernel⟩
theorem U0(F:Fun K "law" "law" Yz f fd)(G_shows_least:FnOk P w K mg base Gp 5 f_shows_least d_shows_least ["holes", "reading", "values", "thing"] (Tf K (pZ)))(b_shows_least:Binds K d_shows_least ["holes", "reading", "values", "thing"] [])(k_shows_least:PySem.W.keepIn K (.ref f_shows_least)=true)(m_shows_least:mg "shows_least" = some (.ref f_shows_least))(G_L_draws:FnOk P w K mg base Gp 1 f_L_draws d_L_draws ["_law_cell"] (Vp))(b_L_draws:Binds K d_L_draws ["_law_cell"] [])(k_L_draws:PySem.W.keepIn K (.ref f_L_draws)=true)(m_L_draws:mg "_law_draws" = some (.ref f_L_draws))(G_L_next:FnOk P w K mg base Gp 1 f_L_next d_L_next ["_law_draws_here"] (mQ K Uv))(b_L_next:Binds K d_L_next ["_law_draws_here"] [])(k_L_next:PySem.W.keepIn K (.ref f_L_next)=true)(m_L_next:mg "_law_next" = some (.ref f_L_next))(G_L_words:FnOk P w K mg base Gp 1 f_L_words d_L_words ["_law_holes_here"] (Tf K Wd))(b_L_words:Binds K d_L_words ["_law_holes_here"] [])(k_L_words:PySem.W.keepIn K (.ref f_L_words)=true)(m_L_words:mg "_law_words" = some (.ref f_L_words))(G_L_holes:FnOk P w K mg base Gp 2 f_L_holes d_L_holes ["_law_draws_here"] (mQ K (qP)))(b_L_holes:Binds K d_L_holes ["_law_draws_here"] [])(k_L_holes:PySem.W.keepIn K (.ref f_L_holes)=true)(m_L_holes:mg "_law_holes" = some (.ref f_L_holes))(G_L_reading:FnOk P w K mg base Gp 2 f_L_reading d_L_reading ["_law_draws_here", "_law_words_here", "_law_values_here"] (mQ K (fN)))(b_L_reading:Binds K d_L_reading ["_law_draws_here", "_law_words_here", "_law_values_here"] [])(k_L_reading:PySem.W.keepIn K (.ref f_L_reading)=true)(m_L_reading:mg "_law_reading" = some (.ref f_L_reading))(G_L_values:FnOk P w K mg base Gp 2 f_L_values d_L_values ["_law_draws_here"] (mQ K (lD)))(b_L_values:Binds K d_L_values ["_law_draws_here"] [])(k_L_values:PySem.W.keepIn K (.ref f_L_values)=true)(m_L_values:mg "_law_values" = some (.ref f_L_values))(G_L_often:FnOk P w K mg base Gp 2 f_L_often d_L_often ["_law_words_here", "_law_face", "_law_values_here"] (Tf K (qO)))(b_L_often:Binds K d_L_often ["_law_words_here", "_law_face", "_law_values_here"] [])(k_L_often:PySem.W.keepIn K (.ref f_L_often)=true)(m_L_often:mg "_law_often" = some (.ref f_L_often))(G_L_beyond:FnOk P w K mg base Gp 2 f_L_beyond d_L_beyond ["_law_words_here"] (EZ K (mL)))(b_L_beyond:Binds K d_L_beyond ["_law_words_here"] [])(k_L_beyond:PySem.W.keepIn K (.ref f_L_beyond)=true)(m_L_beyond:mg "_law_beyond" = some (.ref f_L_beyond))(G_L_holds:FnOk P w K mg base Gp 2 f_L_holds d_L_holds ["_law_over", "_law_face", "_law_values_here", "_law_thing"] (Tf K (rN)))(b_L_holds:Binds K d_L_holds ["_law_over", "_law_face", "_law_values_here", "_law_thing"] [])(k_L_holds:PySem.W.keepIn K (.ref f_L_holds)=true)(m_L_holds:mg "_law_holds" = some (.ref f_L_holds))(G_L_things:FnOk P w K mg base Gp 2 f_L_things d_L_things ["_law_draws_here", "_law_words_here", "_law_due"] (J0 K (lE)))(b_L_things:Binds K d_L_things ["_law_draws_here", "_law_words_here", "_law_due"] [])(k_L_things:PySem.W.keepIn K (.ref f_L_things)=true)(m_L_things:mg "_law_things" = some (.ref f_L_things))(mz_range:mg "range" = none)(mz_list:mg "list" = none)(mz_sum:mg "sum" = none)(mz_str:mg "str" = none)(mz_bool:mg "bool" = none)(mz_isinstance:mg "isinstance" = none):FnOk P w K mg base Gp 6 f fd ["_law_script"] (spLawD K):=by
 refine' Z2 (k:=5) F Z1 (λcdv A outer s H E hr=>?hb) ?h
 case hb =>
  have hr1:Room 1 _:=hr.mono (by decide)
  have hr2:Room 2 _:=hr.mono (by decide)
  have hr3:Room 3 _:=hr.mono (by decide)
  have hr4:Room 4 _:=hr.mono (by decide)
  have hr5:Room 5 _:=hr.mono (by decide)
  have hu64:=hr.units
  have hrx:Room 5 (Iy Gp P w K mg base ["_law_script", "_law_cell", "_law_draws_here", "_law_holes_here", "_law_words_here", "_law_values_here", "_law_more", "_law_face", "_law_handed", "_law_over", "_law_thing", "_law_text", "_law_due", "_law_told"] "law" (Bm Yz) f cdv A outer s H E).nox.A:=hr
  have hu100:(Iy Gp P w K mg base ["_law_script", "_law_cell", "_law_draws_here", "_law_holes_here", "_law_words_here", "_law_values_here", "_law_more", "_law_face", "_law_handed", "_law_over", "_law_thing", "_law_text", "_law_due", "_law_told"] "law" (Bm Yz) f cdv A outer s H E).nox.A.units+100<cLine:=by have:=hrx.un; omega
  have CS1:∀{scope:Scope} (h:scope={ kind:=.function,names:=[(".0",.local),("_law_k",.local),("_law_next",.globalImplicit),("_law_draws_here",.free)],isGenerator:=false,isCoroutine:=false }),
    CompScope (Iy Gp P w K mg base ["_law_script", "_law_cell", "_law_draws_here", "_law_holes_here", "_law_words_here", "_law_values_here", "_law_more", "_law_face", "_law_handed", "_law_over", "_law_thing", "_law_text", "_law_due", "_law_told"] "law" (Bm Yz) f cdv A outer s H E).nox scope [("_law_draws_here",s.heap.objs.size+1)] "_law_k" ["_law_draws_here"] [2]:=by
   rintro scope rfl
   refine ⟨by rfl,.inl (by decide +kernel),by rfl,by decide +kernel,.inl rfl,λy c h=>?_,by rfl,by decide +kernel,rfl,λk y j e1 e2=>?_⟩
   ·have z:=Dv h
    simp only[Ah,Av,or_false,Eb] at z
    obtain ⟨rfl,rfl⟩:=z; rfl
   ·match k,e1,e2 with
    | 0,e1,e2=>cases e1; cases e2; exact ⟨rfl,rfl,by first | exact .inl rfl | exact .inr rfl⟩
    | k+1,e1,e2=>cases e1
  exact Da (Sg Ex rfl (lX (Mv (wV (pv 0) Ry (Rq Cj)) (Fp (An Cj Bh)))) (Me (i:=1) Z1.nd rfl (Eh rfl))
   (Da (Gz (i:=2) Z1.nd rfl (Oq rfl) (mF G_L_draws hr1 rfl m_L_draws k_L_draws b_L_draws Gv (An (Ar (pv 1)) Bh)))
    (Da (Gz (i:=3) Z1.nd rfl (Eh rfl) (Ji G_L_holes hr2 rfl m_L_holes k_L_holes b_L_holes Gv (pv 2) Bh))
    (Da (Gz (i:=4) Z1.nd rfl (Eh rfl) (Ig G_L_words hr1 rfl m_L_words k_L_words b_L_words Gv (An (Ar (pv 3)) Bh)))
    (Da (Gz (i:=5) Z1.nd rfl (Eh rfl) (Ji G_L_values hr2 rfl m_L_values k_L_values b_L_values Gv (pv 2) Bh))
    (Da (xO (o:=false) (i0:=6) Z1.nd rfl rfl (js1:=[]) (j0:=2) (js2:=[]) (CS1 rfl) rfl (Nq rfl mz_range (An Cj Bh)) (λ_ _ _=>Hw) (λ_ _ _=>Ji G_L_next hr1 rfl m_L_next k_L_next b_L_next Gv (pv 1) Bh))
    (Da (Gz (i:=7) Z1.nd rfl (Eh rfl) (Ji G_L_reading hr2 rfl m_L_reading k_L_reading b_L_reading Gv (pv 2) (An (Ar (pv 4)) (An (Ar (pv 5)) Bh))))
    (Da (Gz (i:=8) Z1.nd rfl (Eh rfl) (Jz sH (qA (i:=true)) rfl mz_list (by decide +kernel) (An (Ar (pv 7)) Bh)))
    (Da (Gz (i:=9) Z1.nd rfl (Eh rfl) (vI G_L_beyond hr2 rfl m_L_beyond k_L_beyond b_L_beyond Gv (An (Ar (pv 4)) Bh)))
    (Eo (Sg Ex rfl (lX (vD G_L_things hr2 rfl m_L_things k_L_things b_L_things Gv (An (mF G_L_draws hr1 rfl m_L_draws k_L_draws b_L_draws Gv (An (Dj (fH rfl) yF rfl mz_sum (by decide +kernel) (An (Ar (pv 6)) Bh)) Bh)) (An (Ar (pv 4)) (An (Ig G_L_often hr2 rfl m_L_often k_L_often b_L_often Gv (An (Ar (pv 4)) (An (Ar (pv 7)) (An (Ar (pv 5)) Bh)))) Bh))))) (Me (i:=10) Z1.nd rfl (Eh rfl))
    (Da (Gz (i:=11) Z1.nd rfl (Eh rfl) (Jz (Xq hr.gd hu100) pL rfl mz_str (by decide +kernel) (An (Ar (pv 10)) Bh)))
     (Da (Gz (i:=12) Z1.nd rfl (Eh rfl) (Ig G_L_holds hr2 rfl m_L_holds k_L_holds b_L_holds Gv (An (Ar (pv 9)) (An (Ar (pv 7)) (An (Ar (pv 5)) (An (Ar (pv 10)) Bh))))))
     (Da (Gz (i:=13) Z1.nd rfl (Eh rfl) (Ig G_shows_least hr5 rfl m_shows_least k_shows_least b_shows_least Gv (An (Ar (pv 3)) (An (Ar (pv 8)) (An (Ar (pv 5)) (An (Ar (pv 10)) Bh))))))
     (Eo (bE (sR (bT (Xr (Pq (Dj Ui Uq rfl mz_isinstance (by decide +kernel) (An (Ar (pv 13)) (An (Zv (n := "bool") rfl mz_bool (by decide +kernel)) Bh))))) (bT (Yk hu64 (Ar (pv 13)) (Ar (pv 12))) (bT (Yk hu64 (Jz (Xq hr.gd hu100) pL rfl mz_str (by decide +kernel) (An (Ar (pv 10)) Bh)) (Ar (pv 11))) (fX (Yk hu64 (Ar (pv 8)) (Ar (pv 7))))))))
     (Eo (Gg We)) Uo))))))))))))))))
   (Eo (Gg We))
 case h =>
  intro ns h63
  array_get_dec
  have lc:(Mk ns none (some 3)).length<=3:=BH 3
  refine ⟨by rw[Ad]; omega,?_⟩
  refine kG (l:=Mk ns none (some 3)++[0]) (g:=Ag) (by rw[Bi]; rfl) (λi δ=>∃(l:List DV) (n':Nat),δ=⟨.scr ns::l,n'⟩/\l.length=13/\(∀v∈l,NP v)/\n'<=2500 * i) ?_ ?_ ?_
  ·exact ⟨_,_,rfl,rfl,by simp [Py],by omega⟩
  ·(intro i c _ hc q_; obtain ⟨l,n0,rfl,hl,hv,hn⟩ := q_)
   have hi:i<4:=by
    have:=(Ap.mp hc).1
    rw[Bn,Hd] at this
    omega
   obtain ⟨v1,v2,v3,v4,v5,v6,v7,v8,v9,v10,v11,v12,v13,rfl⟩:=X6 hl
   simp only[Ux] at hv
   obtain ⟨hv1,hv2,hv3,hv4,hv5,hv6,hv7,hv8,hv9,hv10,hv11,hv12,hv13,-⟩:=hv
   array_get_dec
   refine ⟨rfl,by omega,λh h0 h1=>?_⟩
   array_get_dec
   refine ⟨h,rfl,by omega,by omega,λL hp ho=>?_⟩
   have lL:L.length=2 ^ h.toNat:=by rw[hp.length_eq,Qy]
   obtain ⟨l1,l2⟩:=Sw (n:=h.toNat) (by omega) hp
   have lp:0<L.length:=by rw[lL]; exact Nat.two_pow_pos _
   array_get_dec
   refine ⟨rfl,by omega,λvs w0 w1=>?_⟩
   array_get_dec
   refine sF (l:=Di 3) (g:=λi:Nat=>.int i) rfl rfl (λj acc m=>(∃zs:List Int,acc=zs.map Ag)/\m=n0+2+j) ⟨⟨[],rfl⟩,rfl⟩ (λj a acc m ha ⟨⟨zs,q1⟩,q2⟩=>?_) (λacc m ⟨⟨zs,q1⟩,q2⟩=>?_)
   ·obtain ⟨rfl,hj⟩:=aU ha
    array_get_dec
    refine ⟨rfl,by omega,λr3=>?_⟩
    array_get_dec
    refine ⟨⟨zs++[r3],by rw[q1,Bi]; rfl⟩,by omega⟩
   subst q1
   rw[Jv] at q2
   array_get_dec
   refine ⟨L,vs,rfl,by omega,by omega,l1,λw hw=>(l2 w hw).2,by omega,λface lf=>?_⟩
   array_get_dec
   have nd:=Yd hp
   obtain ⟨f,rfl⟩:=jO nd lf
   refine ⟨L,rfl,l1,zs,rfl,h,L,f,vs,rfl,by omega,by omega,hp,w0,w1,λg hg=>?_⟩
   have gb:=λw hw=>B8 hg w0 (λu hu=>(l2 u hu).1) (λu hu=>(l2 u hu).2) 10 w hw (by omega)
   refine ⟨L,L.map g,rfl,lp,l1,by rw[Ad],λx hx=>?_,by omega,λts n' hts lts hn1 hn2=>?_⟩
   ·obtain ⟨w,hw,rfl⟩:=Bu.mp hx
    have:=gb w hw
    omega
   array_get_dec
   refine kG (l:=ts) (g:=λd=>d) (by simp) (λj δ=>∃(v10 v11 v12 v13:DV),δ=⟨[.scr ns,.dat .sh (.int c),.drw,.dat .sh (.int h),.dat .sh (.list (L.map Cn)),.dat .sh (.int vs),.dat .sh (.list (zs.map Ag)),.dat .sh (.list ((L.map f).map Ag)),.dat .sh (.list ((L.map f).map Ag)),.dat .sh (.list (L.map λw=>.list ((Lq L w).map Ag))),v10,v11,v12,v13],n'⟩/\NP v10/\NP v11/\NP v12/\NP v13) ?_ ?_ ?_
   ·exact ⟨_,_,_,_,rfl,hv10,hv11,hv12,hv13⟩
   ·clear hv10 hv11 hv12 hv13
    (intro j t _ ht q_; obtain ⟨v10,v11,v12,v13,rfl,hv10,hv11,hv12,hv13⟩ := q_)
    have tS:=hts t (Ax ht)
    obtain ⟨f1,f2,f3⟩:=tS.fits
    array_get_dec
    refine ⟨⟨30,by decide,f1,f2⟩,by omega,L,L.map f,vs,t,rfl,by rw[Ad],l1,w0,w1,tS.thg,λhz=>?_,λnums en ln nn=>?_⟩
    ·refine ⟨h,L.map f,vs,t,rfl,by omega,by omega,by rw[Ad,lL],w0,w1,tS.thg,λL2 hp2 ho2=>?_⟩
     obtain rfl:=bP (hp2.trans hp.symm) ho2 ho
     refine ⟨λ_=>?_,λnums e2 l2' n2=>?_⟩
     ·array_get_dec
      rw[sA]
      array_get_dec
      refine ⟨⟨30,by decide,f1,f2⟩,by omega,?_⟩
      array_get_dec
      exact ⟨_,_,_,_,rfl,Gw,Gw,Gw,Gw⟩
     ·exfalso
      rw[e2,Zw l2' n2] at hz
      cases hz
    ·refine ⟨h,L.map f,vs,t,rfl,by omega,by omega,by rw[Ad,lL],w0,w1,tS.thg,λL2 hp2 ho2=>?_⟩
     obtain rfl:=bP (hp2.trans hp.symm) ho2 ho
     refine ⟨λhz=>?_,λnums2 e2 l2' n2=>?_⟩
     ·exfalso
      rw[en,Zw ln nn] at hz
      cases hz
     ·obtain rfl:nums2=nums:=xF (PyData.list.inj (e2.symm.trans en))
      rw[vN (by rw[Ad]) ln nn]
      array_get_dec
      rw[sA]
      array_get_dec
      refine ⟨⟨30,by decide,f1,f2⟩,by omega,?_⟩
      array_get_dec
      exact ⟨_,_,_,_,rfl,Gw,Gw,Gw,Gw⟩
   ·(intro _ q_; obtain ⟨v10,v11,v12,v13,rfl,hv10,hv11,hv12,hv13⟩ := q_)
    refine ⟨_,_,rfl,rfl,?_,by omega⟩
    simp only[Ux]
    exact ⟨Gw,S6,Gw,Gw,Gw,Gw,Gw,Gw,Gw,hv10,hv11,hv12,hv13,λ_ z=>(nomatch z)⟩
  ·(intro _ q_; obtain ⟨l,n',rfl,hl,hv,hn⟩ := q_)
   array_get_dec
end
structure Def(K:PySem.W.Frag)(x:Str)(st:Stmt)(f:Addr)(fd:Cg):Prop where
 nm:PySem.W.nsIn K Ci x=some (some (.ref f))
 fn:Fun K x x st f fd
theorem def_mk{K:PySem.W.Frag}{oc kV dc pm cd ct:Value}(a:PySem.W.nsIn K Ci x=some (some (.ref f)))(l:K.lookup f=some ⟨oc,od,.func (PySem.W.fnOf x x (Pb st) (Iu st) (Bm st) .none kV dc pm an cd ct),sl⟩)(c:PySem.W.codeIn K cd x=true)(k:PySem.W.keepIn K (.ref f)=true):Def K x st f (PySem.W.fnOf x x (Pb st) (Iu st) (Bm st) .none kV dc pm an cd ct):=⟨a,yQ l c k⟩
theorem HR{P:List Value->Prop}(h:P []):∀us:List Value,us.length=0->P us
 | [],_=>h
theorem BJ{P:List Value->Prop}(h:∀a (us:List Value),us.length=n->P (a::us)):∀us:List Value,us.length=n+1->P us
 | a::us,e=>h a us (Nat.succ.inj e)
theorem w5{P:List Value->Prop}(h:∀a0,P [a0]):∀us:List Value,us.length=1->P us:=BJ λa us e=>HR (P:=λus=>P (a::us)) (h a) us e
theorem CD{P:List Value->Prop}(h:∀a0 a1,P [a0,a1]):∀us:List Value,us.length=2->P us:=BJ λa us e=>w5 (P:=λus=>P (a::us)) (h a) us e
theorem FG{P:List Value->Prop}(h:∀a0 a1 a2,P [a0,a1,a2]):∀us:List Value,us.length=3->P us:=BJ λa us e=>CD (P:=λus=>P (a::us)) (h a) us e
theorem FN{P:List Value->Prop}(h:∀a0 a1 a2 a3,P [a0,a1,a2,a3]):∀us:List Value,us.length=4->P us:=BJ λa us e=>FG (P:=λus=>P (a::us)) (h a) us e
theorem GY{P:List Value->Prop}(h:∀a0 a1 a2 a3 a4,P [a0,a1,a2,a3,a4]):∀us:List Value,us.length=5->P us:=BJ λa us e=>FN (P:=λus=>P (a::us)) (h a) us e
theorem all_mk{l:PySem.W.OpenLaw}{q:Bs}{w:World}{K:PySem.W.Frag}{h:Heap}(X:K.In h)(G:h.Ns Ci mg)(hfa:mg "law" = some (.ref fa)){oc kV dc pm cd ct:Value}(D1:Def K "_law_draws" iB f1 d1)(D2:Def K "_law_next" pV f2 d2)(D3:Def K "all_words" Mj f3 d3)(D4:Def K "_law_words" Lc f4 d4)(D5:Def K "within" Wf f5 d5)(D6:Def K "showing" Tg f6 d6)(D7:Def K "_law_lies" Ou f7 d7)(D8:Def K "_law_folded" Pk f8 d8)(D9:Def K "_law_holes" Qm f9 d9)(D10:Def K "_law_reading" Od f10 d10)(D11:Def K "_law_values" Po f11 d11)(D12:Def K "best_turns" Nj f12 d12)(D13:Def K "sure_turns" Li f13 d13)(D14:Def K "is_whole" Uj f14 d14)(D15:Def K "are_numbers" Mg f15 d15)(D16:Def K "shows_least" Mh f16 d16)(D17:Def K "_law_often" Lh f17 d17)(D18:Def K "_law_are_numbers" Ie f18 d18)(D19:Def K "_law_beyond" Kh f19 d19)(D20:Def K "_law_holds" Lg f20 d20)(D21:Def K "_law_things" Fd f21 d21)(aL:PySem.W.nsIn K Ci "law" = some (some (.ref f22)))(lL:K.lookup f22=some ⟨oc,od,.func (PySem.W.fnOf "law" "law" (Pb Yz) (Iu Yz) (Bm Yz) .none kV dc pm an cd ct),sl⟩)(cL:PySem.W.codeIn K cd "law" = true)(kL:PySem.W.keepIn K (.ref f22)=true)(z1:PySem.W.nsIn K Ci "range" = some none)(z2:PySem.W.nsIn K Ci "sorted" = some none)(z3:PySem.W.nsIn K Ci "all" = some none)(z4:PySem.W.nsIn K Ci "enumerate" = some none)(z5:PySem.W.nsIn K Ci "max" = some none)(z6:PySem.W.nsIn K Ci "len" = some none)(z7:PySem.W.nsIn K Ci "sum" = some none)(z8:PySem.W.nsIn K Ci "int" = some none)(z9:PySem.W.nsIn K Ci "min" = some none)(z10:PySem.W.nsIn K Ci "bool" = some none)(z11:PySem.W.nsIn K Ci "isinstance" = some none)(z12:PySem.W.nsIn K Ci "list" = some none)(z13:PySem.W.nsIn K Ci "dict" = some none)(z14:PySem.W.nsIn K Ci "zip" = some none)(z15:PySem.W.nsIn K Ci "str" = some none)(z16:PySem.W.nsIn K Ci "tuple" = some none)(tz_often:PySem.W.nsIn K Ci "often" = some none)(tz_cut_by:PySem.W.nsIn K Ci "cut_by" = some none):iA q K/\∃fd:Cg,(∀(s:Aj) (v:Value),BindsTo s fd ⟨[v],[]⟩ [("_law_script",v)])/\∀base:Heap,K.In base->base.Ns Ci mg->FnOk l.prog w K mg base Gp 6 fa fd ["_law_script"] (DL.spLawD K):=by
 have e:=hfa.symm.trans (PySem.W.mg_of X G aL)
 cases e
 have FL:=yQ (st:=Yz) lL cL kL
 have b1:=D1.fn.binds (ps:=["_law_cell"]) λ_ _ _ _ _ _=>w5 (λ_=>rfl)
 have b2:=D2.fn.binds (ps:=["_law_draws_here"]) λ_ _ _ _ _ _=>w5 (λ_=>rfl)
 have b3:=D3.fn.binds (ps:=["holes"]) λ_ _ _ _ _ _=>w5 (λ_=>rfl)
 have b4:=D4.fn.binds (ps:=["_law_holes_here"]) λ_ _ _ _ _ _=>w5 (λ_=>rfl)
 have b5:=D5.fn.binds (ps:=["one", "other"]) λ_ _ _ _ _ _=>CD (λ_ _=>rfl)
 have b6:=D6.fn.binds (ps:=["words", "reading", "word", "value"]) λ_ _ _ _ _ _=>FN (λ_ _ _ _=>rfl)
 have b7:=D7.fn.binds (ps:=["_law_one", "_law_other"]) λ_ _ _ _ _ _=>CD (λ_ _=>rfl)
 have b8:=D8.fn.binds (ps:=["_law_word"]) λ_ _ _ _ _ _=>w5 (λ_=>rfl)
 have b9:=D9.fn.binds (ps:=["_law_draws_here"]) λ_ _ _ _ _ _=>w5 (λ_=>rfl)
 have b10:=D10.fn.binds (ps:=["_law_draws_here", "_law_words_here", "_law_values_here"]) λ_ _ _ _ _ _=>FG (λ_ _ _=>rfl)
 have b11:=D11.fn.binds (ps:=["_law_draws_here"]) λ_ _ _ _ _ _=>w5 (λ_=>rfl)
 have b12:=D12.fn.binds (ps:=["words", "reading", "numbers", "word", "value"]) λ_ _ _ _ _ _=>GY (λ_ _ _ _ _=>rfl)
 have b13:=D13.fn.binds (ps:=["words", "reading", "values", "numbers", "at"]) λ_ _ _ _ _ _=>GY (λ_ _ _ _ _=>rfl)
 have b14:=D14.fn.binds (ps:=["thing"]) λ_ _ _ _ _ _=>w5 (λ_=>rfl)
 have b15:=D15.fn.binds (ps:=["thing", "many"]) λ_ _ _ _ _ _=>CD (λ_ _=>rfl)
 have b16:=D16.fn.binds (ps:=["holes", "reading", "values", "thing"]) λ_ _ _ _ _ _=>FN (λ_ _ _ _=>rfl)
 have b17:=D17.fn.binds (ps:=["_law_words_here", "_law_face", "_law_values_here"]) λ_ _ _ _ _ _=>FG (λ_ _ _=>rfl)
 have b18:=D18.fn.binds (ps:=["_law_words_here", "_law_thing"]) λ_ _ _ _ _ _=>CD (λ_ _=>rfl)
 have b19:=D19.fn.binds (ps:=["_law_words_here"]) λ_ _ _ _ _ _=>w5 (λ_=>rfl)
 have b20:=D20.fn.binds (ps:=["_law_over", "_law_face", "_law_values_here", "_law_thing"]) λ_ _ _ _ _ _=>FN (λ_ _ _ _=>rfl)
 have b21:=D21.fn.binds (ps:=["_law_draws_here", "_law_words_here", "_law_due"]) λ_ _ _ _ _ _=>FG (λ_ _ _=>rfl)
 have m1:=PySem.W.mg_of X G D1.nm
 have m2:=PySem.W.mg_of X G D2.nm
 have m3:=PySem.W.mg_of X G D3.nm
 have m4:=PySem.W.mg_of X G D4.nm
 have m5:=PySem.W.mg_of X G D5.nm
 have m6:=PySem.W.mg_of X G D6.nm
 have m7:=PySem.W.mg_of X G D7.nm
 have m8:=PySem.W.mg_of X G D8.nm
 have m9:=PySem.W.mg_of X G D9.nm
 have m10:=PySem.W.mg_of X G D10.nm
 have m11:=PySem.W.mg_of X G D11.nm
 have m12:=PySem.W.mg_of X G D12.nm
 have m13:=PySem.W.mg_of X G D13.nm
 have m14:=PySem.W.mg_of X G D14.nm
 have m15:=PySem.W.mg_of X G D15.nm
 have m16:=PySem.W.mg_of X G D16.nm
 have m17:=PySem.W.mg_of X G D17.nm
 have m18:=PySem.W.mg_of X G D18.nm
 have m19:=PySem.W.mg_of X G D19.nm
 have m20:=PySem.W.mg_of X G D20.nm
 have m21:=PySem.W.mg_of X G D21.nm
 have y1:=PySem.W.mg_none_of X G z1
 have y2:=PySem.W.mg_none_of X G z2
 have y3:=PySem.W.mg_none_of X G z3
 have y4:=PySem.W.mg_none_of X G z4
 have y5:=PySem.W.mg_none_of X G z5
 have y6:=PySem.W.mg_none_of X G z6
 have y7:=PySem.W.mg_none_of X G z7
 have y8:=PySem.W.mg_none_of X G z8
 have y9:=PySem.W.mg_none_of X G z9
 have y10:=PySem.W.mg_none_of X G z10
 have y11:=PySem.W.mg_none_of X G z11
 have y12:=PySem.W.mg_none_of X G z12
 have y13:=PySem.W.mg_none_of X G z13
 have y14:=PySem.W.mg_none_of X G z14
 have y15:=PySem.W.mg_none_of X G z15
 have y16:=PySem.W.mg_none_of X G z16
 have tn_often:=DL.tab_no tz_often
 have tn_cut_by:=DL.tab_no tz_cut_by
 refine ⟨vC tn_often tn_cut_by,PySem.W.fnOf "law" "law" (Pb Yz) (Iu Yz) (Bm Yz) .none kV dc pm an cd ct,λs v=>.of_eq rfl,λbase _ _=>?_⟩
 have g1:=uD (P:=l.prog) (w:=w) (mg:=mg) (base:=base) D1.fn
 have g2:=u6 (P:=l.prog) (w:=w) (mg:=mg) (base:=base) D2.fn
 have g3:=iU (P:=l.prog) (w:=w) (mg:=mg) (base:=base) D3.fn y1 y2
 have g4:=dF (P:=l.prog) (w:=w) (mg:=mg) (base:=base) D4.fn y1 y2
 have g5:=uH (P:=l.prog) (w:=w) (mg:=mg) (base:=base) D5.fn y3
 have g6:=nW (P:=l.prog) (w:=w) (mg:=mg) (base:=base) D6.fn g5 b5 D5.fn.kp m5 y4
 have g7:=gD (P:=l.prog) (w:=w) (mg:=mg) (base:=base) D7.fn
 have g8:=aG (P:=l.prog) (w:=w) (mg:=mg) (base:=base) D8.fn
 have g9:=dR (P:=l.prog) (w:=w) (mg:=mg) (base:=base) D9.fn g2 b2 D2.fn.kp m2 y5
 have g10:=Za (P:=l.prog) (w:=w) (mg:=mg) (base:=base) D10.fn g2 b2 D2.fn.kp m2 g8 b8 D8.fn.kp m8 y6 y7 y8
 have g11:=Zy (P:=l.prog) (w:=w) (mg:=mg) (base:=base) D11.fn g2 b2 D2.fn.kp m2 y8
 have g12:=cZ (P:=l.prog) (w:=w) (mg:=mg) (base:=base) D12.fn g6 b6 D6.fn.kp m6 y5
 have g13:=dP (P:=l.prog) (w:=w) (mg:=mg) (base:=base) D13.fn g12 b12 D12.fn.kp m12 y1 y9
 have g14:=jQ (P:=l.prog) (w:=w) (mg:=mg) (base:=base) D14.fn y10 y11 y8
 have g15:=aB (P:=l.prog) (w:=w) (mg:=mg) (base:=base) D15.fn g14 b14 D14.fn.kp m14 y6 y12 y11 y3
 have g16:=bA (P:=l.prog) (w:=w) (mg:=mg) (base:=base) D16.fn g3 b3 D3.fn.kp m3 g13 b13 D13.fn.kp m13 g15 b15 D15.fn.kp m15 y6 y1 y3
 have g17:=dE (P:=l.prog) (w:=w) (mg:=mg) (base:=base) D17.fn g7 b7 D7.fn.kp m7 y13 y14 y2 y6 y5 y1 y9
 have g18:=Tt (P:=l.prog) (w:=w) (mg:=mg) (base:=base) D18.fn y6 y12 y11 y8 y10
 have g19:=bI (P:=l.prog) (w:=w) (mg:=mg) (base:=base) D19.fn g7 b7 D7.fn.kp m7 y4
 have g20:=cY (P:=l.prog) (w:=w) (mg:=mg) (base:=base) D20.fn g18 b18 D18.fn.kp m18 y4 y8 y1
 have g21:=bH (P:=l.prog) (w:=w) (mg:=mg) (base:=base) D21.fn g2 b2 D2.fn.kp m2 y6 y1 y12 y9 y5 y15 y16
 exact U0 FL g16 b16 D16.fn.kp m16 g1 b1 D1.fn.kp m1 g2 b2 D2.fn.kp m2 g4 b4 D4.fn.kp m4 g9 b9 D9.fn.kp m9 g10 b10 D10.fn.kp m10 g11 b11 D11.fn.kp m11 g17 b17 D17.fn.kp m17 g19 b19 D19.fn.kp m19 g20 b20 D20.fn.kp m20 g21 b21 D21.fn.kp m21 y1 y12 y7 y15 y10 y11
theorem walk{l:PySem.W.OpenLaw}{K:Params->PySem.W.Frag}(hn:l.most=some 63)(hdf:d.params.defaults=[])(hY:∀(w:World) (h:Heap),YP w h->(K w.params).In h)(F:∀(w:World) (mg:Str->Option Value) (fa:Addr) (h:Heap),(K w.params).In h->h.Ns Ci mg->mg d.name=some (.ref fa)->iA q (K w.params)/\∃fd:Cg,(∀(s:Aj) (u:Value),BindsTo s fd ⟨[u],[]⟩ [("_law_script",u)])/\∀base:Heap,(K w.params).In base->base.Ns Ci mg->FnOk l.prog w (K w.params) mg base Gp 6 fa fd ["_law_script"] (DL.spLawD (K w.params))):PySem.W.WalkO q loose XP YP l.row.toRowW d [] (λf vs=>PySem.call f vs) :=
 L2.walk_ofD (n:=63) (k:=6) (x := "_law_script") (CX:=λ_=>Gp) (sp:=λw=>DL.spLawD (K w.params)) hn (by decide) hdf ⟨rfl,by decide,by decide,rfl⟩ hY F (λ_ _ a ns hl _ hS=>⟨a,ns,rfl,hS,hl,λ_=>rfl⟩) λ_ _ _ _ _ z=>z
end K33
open PySem PySem.W PyProof.Rows
local macro_rules | `(tactic| refine $h:ident (q := $q) (loose := $l) (Xt := $a) (XP := $b) (Yf := $c) (Ya := $d) (YP := $e) (N := $n) ?hl $y*) => `(tactic| refine $h:ident (q := $q) (loose := $l) (Xt := $a) (XP := $b) (Yf := $c) (Ya := $d) (YP := $e) (N := $n) (fun _ => by kernel_rfl) $y*)
set_option maxRecDepth 100000 in
set_option maxHeartbeats 0 in
theorem PySem.Challenge.cw_needledeck_k33_numbers_that_show_at_leas_holds : PySem.Challenge.rw_needledeck_k33_numbers_that_show_at_leas.Holds := by
 w_on; refine holds_law (by kernel_rfl) λsaid=>?_; k_head; (case hw=>w_witness2)
 k_fill
 refine K33.walk (l:=PySem.Challenge.rw_needledeck_k33_numbers_that_show_at_leas) rfl rfl (λw h Y=>PySem.W.kIn_of Y) ?F
 case F =>
  intro w mg fa h KX G hmg
  refine' K33.all_mk KX G hmg (K33.def_mk ?a1 ?l1 ?c1 ?k1) (K33.def_mk ?a2 ?l2 ?c2 ?k2) (K33.def_mk ?a3 ?l3 ?c3 ?k3) (K33.def_mk ?a4 ?l4 ?c4 ?k4) (K33.def_mk ?a5 ?l5 ?c5 ?k5) (K33.def_mk ?a6 ?l6 ?c6 ?k6) (K33.def_mk ?a7 ?l7 ?c7 ?k7) (K33.def_mk ?a8 ?l8 ?c8 ?k8) (K33.def_mk ?a9 ?l9 ?c9 ?k9) (K33.def_mk ?a10 ?l10 ?c10 ?k10) (K33.def_mk ?a11 ?l11 ?c11 ?k11) (K33.def_mk ?a12 ?l12 ?c12 ?k12) (K33.def_mk ?a13 ?l13 ?c13 ?k13) (K33.def_mk ?a14 ?l14 ?c14 ?k14) (K33.def_mk ?a15 ?l15 ?c15 ?k15) (K33.def_mk ?a16 ?l16 ?c16 ?k16) (K33.def_mk ?a17 ?l17 ?c17 ?k17) (K33.def_mk ?a18 ?l18 ?c18 ?k18) (K33.def_mk ?a19 ?l19 ?c19 ?k19) (K33.def_mk ?a20 ?l20 ?c20 ?k20) (K33.def_mk ?a21 ?l21 ?c21 ?k21) ?aL ?lL ?cL ?kL ?z1 ?z2 ?z3 ?z4 ?z5 ?z6 ?z7 ?z8 ?z9 ?z10 ?z11 ?z12 ?z13 ?z14 ?z15 ?z16 ?tz_often ?tz_cut_by
  (case a1=>k_is); (case l1=>k_is); (case c1=>k_is); (case k1=>k_is)
  (case a2=>k_is); (case l2=>k_is); (case c2=>k_is); (case k2=>k_is)
  (case a3=>k_is); (case l3=>k_is); (case c3=>k_is); (case k3=>k_is)
  (case a4=>k_is); (case l4=>k_is); (case c4=>k_is); (case k4=>k_is)
  (case a5=>k_is); (case l5=>k_is); (case c5=>k_is); (case k5=>k_is)
  (case a6=>k_is); (case l6=>k_is); (case c6=>k_is); (case k6=>k_is)
  (case a7=>k_is); (case l7=>k_is); (case c7=>k_is); (case k7=>k_is)
  (case a8=>k_is); (case l8=>k_is); (case c8=>k_is); (case k8=>k_is)
  (case a9=>k_is); (case l9=>k_is); (case c9=>k_is); (case k9=>k_is)
  (case a10=>k_is); (case l10=>k_is); (case c10=>k_is); (case k10=>k_is)
  (case a11=>k_is); (case l11=>k_is); (case c11=>k_is); (case k11=>k_is)
  (case a12=>k_is); (case l12=>k_is); (case c12=>k_is); (case k12=>k_is)
  (case a13=>k_is); (case l13=>k_is); (case c13=>k_is); (case k13=>k_is)
  (case a14=>k_is); (case l14=>k_is); (case c14=>k_is); (case k14=>k_is)
  (case a15=>k_is); (case l15=>k_is); (case c15=>k_is); (case k15=>k_is)
  (case a16=>k_is); (case l16=>k_is); (case c16=>k_is); (case k16=>k_is)
  (case a17=>k_is); (case l17=>k_is); (case c17=>k_is); (case k17=>k_is)
  (case a18=>k_is); (case l18=>k_is); (case c18=>k_is); (case k18=>k_is)
  (case a19=>k_is); (case l19=>k_is); (case c19=>k_is); (case k19=>k_is)
  (case a20=>k_is); (case l20=>k_is); (case c20=>k_is); (case k20=>k_is)
  (case a21=>k_is); (case l21=>k_is); (case c21=>k_is); (case k21=>k_is)
  (case aL=>k_is); (case lL=>k_is); (case cL=>k_is); (case kL=>k_is)
  (case z1=>k_is); (case z2=>k_is); (case z3=>k_is); (case z4=>k_is); (case z5=>k_is); (case z6=>k_is); (case z7=>k_is); (case z8=>k_is); (case z9=>k_is); (case z10=>k_is); (case z11=>k_is); (case z12=>k_is); (case z13=>k_is); (case z14=>k_is); (case z15=>k_is); (case z16=>k_is)
  (case tz_often=>k_is)
  (case tz_cut_by=>k_is)